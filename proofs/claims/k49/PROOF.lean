import PyProof.Rows.All
import Wide.All
import OpenK.AllK
import Wide.FinOn
import Lean
import PyProof.EqAt
import PyProof.EqKinds
import PyProof.TupleCall
import PySem.Challenge.RW_asktally_k49_texts_of_no_talk
set_option Elab.async false
set_option linter.all false
set_option maxRecDepth 100000
/-! THE HAND LAYER, for ints, bools, texts, own classes, LISTS and tuples (index, slices, in, append, pop ..), calls, loops. Paste it whole ahead of your own text; what your proof does not reach may be deleted. -/
namespace L2
open PySem PySem.Spec PyProof.Rows

/-- a key: an int or a str -/
abbrev Key := Sum Int Str
def keyIs : Key → Value → Bool
  | .inl k, v => Value.isInt k v
  | .inr x, v => Value.isStrOf x v
def keyH (w : World) : Key → Int
  | .inl k => hashInt k
  | .inr x => hashStr w x
theorem keyIs_shape : ∀ {k : Key} {v : Value}, keyIs k v = true → (∃ i t, k = Sum.inl i ∧ v = Value.int i t) ∨ (∃ x t, k = Sum.inr x ∧ v = Value.str x t)
  | .inl i, v, h => by
    obtain ⟨t, e⟩ := Value.isInt_shape (k := i) (v := v) h
    exact .inl ⟨i, t, rfl, e⟩
  | .inr x, v, h => by
    obtain ⟨t, e⟩ := Value.isStrOf_shape (x := x) (v := v) h
    exact .inr ⟨x, t, rfl, e⟩
theorem key_ll (a b : Int) : decide ((Sum.inl a : Key) = Sum.inl b) = (a == b) := by
  by_cases e : a = b
  · subst e; simp
  · have h : ¬ (Sum.inl a : Key) = Sum.inl b := fun q => e (Sum.inl.inj q)
    rw [decide_eq_false h]
    exact (beq_eq_false_iff_ne.mpr e).symm
theorem key_rr (a b : Str) : decide ((Sum.inr a : Key) = Sum.inr b) = decide (a = b) := by
  by_cases e : a = b
  · subst e; simp
  · have h : ¬ (Sum.inr a : Key) = Sum.inr b := fun q => e (Sum.inr.inj q)
    rw [decide_eq_false h, decide_eq_false e]
theorem key_lr (a : Int) (b : Str) : decide ((Sum.inl a : Key) = Sum.inr b) = false := decide_eq_false (fun q => nomatch q)
theorem key_rl (a : Str) (b : Int) : decide ((Sum.inr a : Key) = Sum.inl b) = false := decide_eq_false (fun q => nomatch q)

def mixKind (prog : Program) (w : World) : PySem.KeyKind prog w Key where
  is := keyIs
  hash := keyH w
  inj := fun v a b ha hb => by
    rcases keyIs_shape ha with ⟨i, t, rfl, rfl⟩ | ⟨x, t, rfl, rfl⟩
    · rcases keyIs_shape hb with ⟨j, u, rfl, e⟩ | ⟨y, u, rfl, e⟩
      · injection e with e1 _; rw [e1]
      · exact nomatch e
    · rcases keyIs_shape hb with ⟨j, u, rfl, e⟩ | ⟨y, u, rfl, e⟩
      · exact nomatch e
      · injection e with e1 _; rw [e1]
  byValue := fun k v h => by
    rcases keyIs_shape h with ⟨i, t, rfl, rfl⟩ | ⟨x, t, rfl, rfl⟩ <;> rfl
  pyHash := fun hv h => by
    rcases keyIs_shape hv with ⟨i, t, rfl, rfl⟩ | ⟨x, t, rfl, rfl⟩
    · exact wpAny_pyHash_int h
    · exact wpAny_pyHash_str h
  eqBool := fun hu hv h => by
    rcases keyIs_shape hu with ⟨i, t, rfl, rfl⟩ | ⟨x, t, rfl, rfl⟩
    · rcases keyIs_shape hv with ⟨j, u, rfl, rfl⟩ | ⟨y, u, rfl, rfl⟩
      · rw [key_ll] at h; exact wpAny_eqBool_int h
      · rw [key_lr] at h; exact SeqAt.EqAt.int_str i t y u _ _ _ _ h
    · rcases keyIs_shape hv with ⟨j, u, rfl, rfl⟩ | ⟨y, u, rfl, rfl⟩
      · rw [key_rl] at h; exact SeqAt.EqAt.str_int x t j u _ _ _ _ h
      · rw [key_rr] at h; exact wpAny_eqBool_str h
  «strs» := fun k x t v h => by
    rcases keyIs_shape h with ⟨i, u, rfl, e⟩ | ⟨y, u, rfl, e⟩
    · exact nomatch e
    · injection e with e1 _
      subst e1
      cases v <;> rfl

end L2

namespace L2
open PySem PySem.Spec PyProof.Rows

/-- a value, without the heap -/
inductive V where
  | non | bl (b : Bool) | int (i : Int) | str (x : Str) | byt (b : Array UInt8) | flt (b : UInt64) | ref (a : Addr) | ty (n : String)
  deriving DecidableEq

def RelV : V → Value → Prop
  | .non, u => u = Value.none
  | .bl b, u => u = Value.bool b
  | .int i, u => ∃ t, u = Value.int i t
  | .str x, u => ∃ t, u = Value.str x t
  | .byt b, u => ∃ t, u = Value.bytes b t
  | .flt b, u => ∃ t, u = Value.float b t
  | .ref a, u => u = Value.ref a
  | .ty n, u => u = Value.type n

abbrev Vals : List V → List Value → Prop := Paired RelV
theorem Vals.length {xs : List V} {us : List Value} (r : Vals xs us) : xs.length = us.length := Paired.length r
theorem Vals.get : ∀ {xs : List V} {us : List Value} {i : Nat} {x : V}, Vals xs us → xs[i]? = some x → ∃ u, us[i]? = some u ∧ RelV x u
  | _, _, _, _, .nil, e => by simp at e
  | _, _, 0, _, .cons r _, e => by simp at e; subst e; exact ⟨_, rfl, r⟩
  | _, _, i + 1, x, .cons _ t, e => by
    obtain ⟨u, h1, h2⟩ := Vals.get (i := i) (x := x) t (by simpa using e)
    exact ⟨u, by simpa using h1, h2⟩
theorem Vals.set {x : V} {u : Value} (r : RelV x u) : ∀ {xs : List V} {us : List Value} (i : Nat), Vals xs us → Vals (xs.set i x) (us.set i u)
  | _, _, _, .nil => .nil
  | _, _, 0, .cons _ t => .cons r t
  | _, _, i + 1, .cons q t => .cons q (Vals.set r i t)
theorem Vals.append : ∀ {xs ys : List V} {us ws : List Value}, Vals xs us → Vals ys ws → Vals (xs ++ ys) (us ++ ws)
  | _, _, _, _, .nil, s => s
  | _, _, _, _, .cons r t, s => .cons r (Vals.append t s)
theorem Vals.take : ∀ {xs : List V} {us : List Value} (n : Nat), Vals xs us → Vals (xs.take n) (us.take n)
  | _, _, 0, _ => .nil
  | _, _, _ + 1, .nil => .nil
  | _, _, n + 1, .cons r t => .cons r (Vals.take n t)
theorem Vals.drop : ∀ {xs : List V} {us : List Value} (n : Nat), Vals xs us → Vals (xs.drop n) (us.drop n)
  | _, _, 0, r => r
  | _, _, _ + 1, .nil => .nil
  | _, _, n + 1, .cons _ t => Vals.drop n t
def RelO : Option V → Option Value → Prop
  | some v, some u => RelV v u
  | none, none => True
  | _, _ => False
def KV {κ : Type} : List (κ × V) → List (κ × Value) → Prop := Paired fun (p : κ × V) (q : κ × Value) => p.1 = q.1 ∧ RelV p.2 q.2

/-- a key of a dict (00_mix): an int or a text -/
def kV : Key → V
  | .inl i => .int i
  | .inr x => .str x

/-- what stands at a tracked address -/
inductive HO where
  /-- a list -/
  | lst (xs : List V)
  /-- a tuple (never changes) -/
  | tup (xs : List V)
  /-- a dict whose keys are ints and texts; one whose keys are tuples of ints and texts (the empty one is both) -/
  | dK (kvs : List (Key × V)) | dT (kvs : List (List Key × V))
  /-- a set of ints: its members, its size -/
  | set (S : Int → Bool) (n : Nat)
  /-- an instance of the class at C, its dict at dx, its attributes -/
  | ins (C dx : Addr) (fs : List (Str × V))
  /-- the dict of the instance at x -/
  | own (x : Addr)
  /-- the dict of an exception -/
  | xd (fs : List (Str × V))
  /-- a bound method, f of x -/
  | met (f x : Addr)
  /-- a range object lo, lo + 1, .. below hi -/
  | rng (lo hi : Int)
  /-- a thing that is known to the object (the script; a dict while a loop walks it): read, never written while it is so -/
  | frz (o : Obj) (u : HO)
  /-- a code object's table -/
  | tbl (ps : Array Value)
  /-- any other thing, by what is true of its one object (a def of one's own: SetO a S n := HO.ext fun h => ..) -/
  | ext (φ : Heap → Prop)

abbrev Hp := Addr → Option HO
def upd (H : Hp) (a : Addr) (o : HO) : Hp := fun b => if b = a then some o else H b
theorem upd_same {H : Hp} {a : Addr} {o : HO} : upd H a o a = some o := by unfold upd; rw [if_pos rfl]
theorem upd_ne {H : Hp} {a b : Addr} {o : HO} (h : b ≠ a) : upd H a o b = H b := by unfold upd; rw [if_neg h]
theorem ne_of_none {H : Hp} {a b : Addr} {o : HO} (h : H a = some o) (h' : H b = none) : a ≠ b := by
  intro e; subst e; rw [h] at h'; cases h'

section
variable (P : Program) (w : World)
def ObjOk (H : Hp) (h : Heap) (a : Addr) : HO → Prop
  | .lst xs => xs.length ≤ sizeLine ∧ ∃ (its : List Value) (n : Nat), Vals xs its ∧ h.get? a = some { cls := .type "list", data := .seq its.toArray n }
  | .tup xs => xs.length ≤ sizeLine ∧ ∃ its : List Value, Vals xs its ∧ IsTup h a its.toArray ∧ ∃ o, h.get? a = some o ∧ o.dict = none
  | .dK kvs => kvs.length ≤ sizeLine ∧ (a == sysModules) = false ∧ ∃ vs, KV kvs vs ∧ h.DictOf (mixKind P w) a vs
  | .dT kvs => kvs.length ≤ sizeLine ∧ (a == sysModules) = false ∧ ∃ xs : List (List Key × Addr × Value),
      Paired (fun (p : List Key × V) (q : List Key × Addr × Value) => p.1 = q.1 ∧ H q.2.1 = some (.tup (p.1.map kV)) ∧ RelV p.2 q.2.2) kvs xs ∧
      ∃ o es ep, h.get? a = some o ∧ o.ExactDict ∧ o.data = .dict es ep ∧ es.toList = xs.map (entryOfKey (tupleKind (mixKind P w))) ∧ (xs.map (·.1)).Nodup
  | .set S n => h.SetOf (intKind P w) a S n
  | .ins C dx fs => H dx = some (.own a) ∧ fs.length ≤ 1000 ∧ dx ≠ a ∧ h.get? a = some (PySem.W.instObj C dx) ∧
      ∃ mA, h.Ns1 dx mA ∧ (∀ f, RelO (fs.lookup f) (mA f)) ∧ PySem.Within mA (fs.map (·.1))
  | .own _ => ∃ o, h.get? a = some o
  | .xd fs => ∃ mA, h.Ns1 a mA ∧ ∀ f, RelO (fs.lookup f) (mA f)
  | .rng lo hi => ∃ t u v, h.get? a = some { cls := .type "range", data := .fields #[.int lo t, .int hi u, .int 1 v] }
  | .frz o u => h.get? a = some o ∧ ObjOk H h a u
  | .tbl ps => h.get? a = some { cls := .none, data := .fields ps }
  | .met f x => h.get? a = some (PySem.W.methodObj (.ref f) (.ref x))
  | .ext φ => φ h ∧ (∃ o, h.get? a = some o) ∧ ∀ h1 h2 : Heap, φ h1 → (∀ o, h1.get? a = some o → h2.get? a = some o) → φ h2
/-- the abstract heap is held -/
def HOk (H : Hp) (h : Heap) : Prop := ∀ a o, H a = some o → ObjOk P w H h a o
end

section
variable {P : Program} {w : World} {H H' : Hp} {h h' : Heap} {a : Addr} {o : HO}
theorem ObjOk.lt (x : ObjOk P w H h a o) : a < h.objs.size := by
  cases o with
  | lst xs => obtain ⟨_, _, _, _, e⟩ := x; exact Heap.lt_size e
  | tup xs => obtain ⟨_, _, _, p, _⟩ := x; exact p.lt
  | dK kvs => obtain ⟨_, _, _, _, o, _, _, e, _⟩ := x; exact Heap.lt_size e
  | dT kvs => obtain ⟨_, _, _, _, o, _, _, e, _⟩ := x; exact Heap.lt_size e
  | set S n => obtain ⟨o, _, _, _, e, _⟩ := x; exact Heap.lt_size e
  | ins C dx fs => obtain ⟨_, _, _, e, _⟩ := x; exact Heap.lt_size e
  | own y => obtain ⟨_, e⟩ := x; exact Heap.lt_size e
  | xd fs => obtain ⟨_, ⟨_, _, _, e, _⟩, _⟩ := x; exact Heap.lt_size e
  | rng lo hi => obtain ⟨_, _, _, e⟩ := x; exact Heap.lt_size e
  | frz ob u => obtain ⟨e, _⟩ := x; exact Heap.lt_size e
  | tbl ps => exact Heap.lt_size (show h.get? a = some _ from x)
  | met f y => exact Heap.lt_size (show h.get? a = some _ from x)
  | ext φ => obtain ⟨_, ⟨_, e⟩, _⟩ := x; exact Heap.lt_size e
theorem Paired.mapP {α β : Type} {F G : α → β → Prop} : ∀ {l₁ : List α} {l₂ : List β}, Paired F l₁ l₂ → (∀ a b, F a b → G a b) → Paired G l₁ l₂
  | _, _, .nil, _ => .nil
  | _, _, .cons r t, f => .cons (f _ _ r) (Paired.mapP t f)
/-- what an object's description leans on: its own object, its own dict, the tuples -/
theorem ObjOk.stay (x : ObjOk P w H h a o) (k : ∀ b u, (b = a ∨ H b = some (.own a)) → h.get? b = some u → h'.get? b = some u)
    (ho : ∀ b, H b = some (.own a) → H' b = some (.own a)) (ht : ∀ b xs, H b = some (.tup xs) → H' b = some (.tup xs)) : ObjOk P w H' h' a o := by
  induction o with
  | lst xs => obtain ⟨z, its, n, r, e⟩ := x; exact ⟨z, its, n, r, k _ _ (.inl rfl) e⟩
  | tup xs => obtain ⟨z, its, r, ⟨ob, e, c⟩, od, e2, d⟩ := x; exact ⟨z, its, r, ⟨ob, k _ _ (.inl rfl) e, c⟩, od, k _ _ (.inl rfl) e2, d⟩
  | dK kvs => obtain ⟨z, y, vs, r, ob, es, ep, e, c⟩ := x; exact ⟨z, y, vs, r, ob, es, ep, k _ _ (.inl rfl) e, c⟩
  | dT kvs =>
    obtain ⟨z, y, xs, r, ob, es, ep, e, c⟩ := x
    exact ⟨z, y, xs, Paired.mapP r fun p q z => ⟨z.1, ht _ _ z.2.1, z.2.2⟩, ob, es, ep, k _ _ (.inl rfl) e, c⟩
  | set S n => obtain ⟨ob, es, ep, t, e, c⟩ := x; exact ⟨ob, es, ep, t, k _ _ (.inl rfl) e, c⟩
  | ins C dx fs =>
    obtain ⟨d, z, ne, e, mA, ⟨od, es, ep, e2, c⟩, r⟩ := x
    exact ⟨ho _ d, z, ne, k _ _ (.inl rfl) e, mA, ⟨od, es, ep, k _ _ (.inr d) e2, c⟩, r⟩
  | own y => obtain ⟨ob, e⟩ := x; exact ⟨ob, k _ _ (.inl rfl) e⟩
  | xd fs => obtain ⟨mA, ⟨od, es, ep, e, c⟩, r⟩ := x; exact ⟨mA, ⟨od, es, ep, k _ _ (.inl rfl) e, c⟩, r⟩
  | rng lo hi => obtain ⟨t, u, v, e⟩ := x; exact ⟨t, u, v, k _ _ (.inl rfl) e⟩
  | frz ob u ih => obtain ⟨e, q⟩ := x; exact ⟨k _ _ (.inl rfl) e, ih q⟩
  | tbl ps =>
    have e : h.get? a = some { cls := .none, data := .fields ps } := x
    show h'.get? a = some { cls := .none, data := .fields ps }
    exact k a _ (.inl rfl) e
  | met f y =>
    have e : h.get? a = some (PySem.W.methodObj (.ref f) (.ref y)) := x
    show h'.get? a = some (PySem.W.methodObj (.ref f) (.ref y))
    exact k a _ (.inl rfl) e
  | ext φ => obtain ⟨p, ⟨o, e⟩, st⟩ := x; exact ⟨st _ _ p fun o q => k _ _ (.inl rfl) q, ⟨o, k _ _ (.inl rfl) e⟩, st⟩
theorem HOk.lt (x : HOk P w H h) (e : H a = some o) : a < h.objs.size := (x a o e).lt
theorem HOk.fresh (x : HOk P w H h) (e : h.objs.size ≤ a) : H a = none := by
  cases q : H a with
  | none => rfl
  | some u => exact absurd (Nat.lt_of_lt_of_le (x.lt q) e) (Nat.lt_irrefl _)
/-- every object of the heap is kept -/
theorem HOk.kept (x : HOk P w H h) (k : ∀ b u, h.get? b = some u → h'.get? b = some u) : HOk P w H h' := fun a o e =>
  (x a o e).stay (fun b u _ q => k b u q) (fun _ q => q) fun _ _ q => q
/-- a new object is laid and tracked -/
theorem HOk.laid (x : HOk P w H h) (k : ∀ b u, h.get? b = some u → h'.get? b = some u) (hp : h.objs.size ≤ a) (new : ObjOk P w (upd H a o) h' a o) : HOk P w (upd H a o) h' := fun b u e => by
  have hn := x.fresh hp
  by_cases hb : b = a
  · subst hb; rw [upd_same] at e; cases e; exact new
  · rw [upd_ne hb] at e
    exact (x b u e).stay (fun c v _ q => k c v q) (fun c q => by rw [upd_ne (ne_of_none q hn)]; exact q) fun c xs q => by rw [upd_ne (ne_of_none q hn)]; exact q
end

/-- what may be read as u: it is u, or a known u -/
def Rd (H : Hp) (a : Addr) (u : HO) : Prop := H a = some u ∨ ∃ o, H a = some (.frz o u)
theorem Rd.ok {P : Program} {w : World} {H : Hp} {h : Heap} {a : Addr} {u : HO} (r : Rd H a u) (x : HOk P w H h) : ObjOk P w H h a u := by
  rcases r with r | ⟨o, r⟩
  · exact x a u r
  · obtain ⟨_, q⟩ := x a _ r
    exact q
/-- what may be written -/
def Mut : Option HO → Prop
  | some (.lst _) => True
  | some (.dK _) => True
  | some (.dT _) => True
  | some (.set _ _) => True
  | some (.ins _ _ _) => True
  | some (.ext _) => True
  | _ => False
section
variable {P : Program} {w : World} {H : Hp} {h h' : Heap} {x e : Addr} {o' : HO}
/-- the object at e is changed: x itself, or the dict of the instance x -/
theorem HOk.write (ok : HOk P w H h) (mu : Mut (H x)) (he : e = x ∨ H e = some (.own x)) (k : ∀ b u, b ≠ e → h.get? b = some u → h'.get? b = some u) (heo : ∃ u, h'.get? e = some u)
    (new : ObjOk P w (upd H x o') h' x o') : HOk P w (upd H x o') h' := fun b u q => by
  have nown : ∀ c y, H c = some (.own y) → c ≠ x := fun c y r z => by subst z; rw [r] at mu; exact mu
  have ntup : ∀ c xs, H c = some (.tup xs) → c ≠ x := fun c xs r z => by subst z; rw [r] at mu; exact mu
  by_cases hb : b = x
  · subst hb; rw [upd_same] at q; cases q; exact new
  · rw [upd_ne hb] at q
    by_cases hbe : b = e
    · have q' : H b = some (.own x) := by
        rcases he with z | z
        · exact absurd (hbe.trans z) hb
        · rw [hbe]; exact z
      rw [q] at q'; cases q'
      obtain ⟨v, hv⟩ := heo
      exact ⟨v, by rw [hbe]; exact hv⟩
    · refine (ok b u q).stay (fun c v hc r => k c v ?_ r) (fun c r => by rw [upd_ne (nown c b r)]; exact r) fun c xs r => by rw [upd_ne (ntup c xs r)]; exact r
      rcases hc with rfl | hc
      · exact hbe
      · rintro rfl
        rcases he with z | z
        · exact nown c b hc z
        · rw [hc] at z; cases z; exact hb rfl
end

/-! ### kept unless tracked; of the frames at fs (the callers') the slots may change (an exception that passes writes there); of the records at ex (iterators) nothing is said -/
structure Un (fs ex : List Addr) (H H' : Hp) (h h' : Heap) : Prop where
  keep : ∀ b o, h.get? b = some o → H b = none → b ∉ fs → b ∉ ex → h'.get? b = some o
  slot : ∀ b o, h.get? b = some o → H b = none → b ∈ fs → b ∉ ex → ∃ sl, h'.get? b = some { o with slots := sl }
  free : ∀ b o, h.get? b = some o → H b = none → b ∉ ex → H' b = none
  there : ∀ b o, h.get? b = some o → b ∉ ex → ∃ o', h'.get? b = some o'
  tups : ∀ b xs, H b = some (.tup xs) → H' b = some (.tup xs)
  frzs : ∀ b o u, H b = some (.frz o u) → H' b = some (.frz o u)
  tbls : ∀ b ps, H b = some (.tbl ps) → ∃ more, H' b = some (.tbl (ps ++ more))
section
variable {fs fs' ex ex' : List Addr} {H H1 H2 : Hp} {h h1 h2 h' : Heap} {a x e : Addr} {o : HO}
theorem Un.any (u : Un fs ex H H1 h h1) {b : Addr} {ob : Obj} (q : h.get? b = some ob) (n : H b = none) (hx : b ∉ ex) : ∃ sl, h1.get? b = some { ob with slots := sl } := by
  by_cases hb : b ∈ fs
  · exact u.slot b ob q n hb hx
  · exact ⟨ob.slots, u.keep b ob q n hb hx⟩
theorem Un.trans (a : Un fs ex H H1 h h1) (b : Un fs ex H1 H2 h1 h2) : Un fs ex H H2 h h2 where
  keep := fun c ob q n hc hx => b.keep c ob (a.keep c ob q n hc hx) (a.free c ob q n hx) hc hx
  slot := fun c ob q n hc hx => by
    obtain ⟨sl, e1⟩ := a.slot c ob q n hc hx
    obtain ⟨sl', e2⟩ := b.slot c _ e1 (a.free c ob q n hx) hc hx
    exact ⟨sl', e2⟩
  free := fun c ob q n hx => by
    obtain ⟨o', e1⟩ := a.there c ob q hx
    exact b.free c o' e1 (a.free c ob q n hx) hx
  there := fun c ob q hx => by
    obtain ⟨o', e1⟩ := a.there c ob q hx
    exact b.there c o' e1 hx
  tups := fun c xs q => b.tups c xs (a.tups c xs q)
  frzs := fun c ob xs q => b.frzs c ob xs (a.frzs c ob xs q)
  tbls := fun c ps q => by
    obtain ⟨m1, e1⟩ := a.tbls c ps q
    obtain ⟨m2, e2⟩ := b.tbls c _ e1
    exact ⟨m1 ++ m2, by rw [e2, Array.append_assoc]⟩
theorem Un.kept (k : ∀ b u, h.get? b = some u → h'.get? b = some u) : Un fs ex H H h h' :=
  ⟨fun b ob q _ _ _ => k b ob q, fun b ob q _ _ _ => ⟨ob.slots, k b ob q⟩, fun _ _ _ n _ => n, fun b ob q _ => ⟨ob, k b ob q⟩, fun _ _ q => q, fun _ _ _ q => q, fun _ ps q => ⟨#[], by rw [q]; simp⟩⟩
theorem Un.refl : Un fs ex H H h h := Un.kept fun _ _ q => q
theorem Un.laid (k : ∀ b u, h.get? b = some u → h'.get? b = some u) (hp : h.objs.size ≤ a) (hn : H a = none) : Un fs ex H (upd H a o) h h' where
  keep := fun b u q _ _ _ => k b u q
  slot := fun b u q _ _ _ => ⟨u.slots, k b u q⟩
  free := fun b u q n _ => by rw [upd_ne (Nat.ne_of_lt (Nat.lt_of_lt_of_le (Heap.lt_size q) hp))]; exact n
  there := fun b u q _ => ⟨u, k b u q⟩
  tups := fun b xs q => by rw [upd_ne (ne_of_none q hn)]; exact q
  frzs := fun b u xs q => by rw [upd_ne (ne_of_none q hn)]; exact q
  tbls := fun b ps q => ⟨#[], by rw [upd_ne (ne_of_none q hn), q]; simp⟩
theorem Un.write (mu : Mut (H x)) (he : e = x ∨ H e = some (.own x)) (k : ∀ b u, b ≠ e → h.get? b = some u → h'.get? b = some u) (heo : ∃ u, h'.get? e = some u) : Un fs ex H (upd H x o) h h' := by
  have hx : ∀ b, H b = none → b ≠ x := fun b n z => by subst z; rw [n] at mu; exact mu
  have hb : ∀ b, H b = none → b ≠ e := fun b n z => by
    subst z
    rcases he with r | r
    · exact hx b n r
    · rw [n] at r; cases r
  have hm : ∀ b u, H b = some u → ¬ Mut (some u) → b ≠ x := fun b u q nm z => by subst z; rw [q] at mu; exact nm mu
  refine ⟨fun b u q n _ _ => k b u (hb b n) q, fun b u q n _ _ => ⟨u.slots, k b u (hb b n) q⟩, fun b u q n _ => by rw [upd_ne (hx b n)]; exact n, fun b u q _ => ?_,
    fun b xs q => by rw [upd_ne (hm b _ q fun z => z)]; exact q, fun b u xs q => by rw [upd_ne (hm b _ q fun z => z)]; exact q, fun b ps q => ⟨#[], by rw [upd_ne (hm b _ q fun z => z), q]; simp⟩⟩
  by_cases hbe : b = e
  · subst hbe; exact heo
  · exact ⟨u, k b u hbe q⟩
theorem Un.mono (u : Un fs ex H H1 h h1) (hs : ∀ b ∈ fs, b ∈ fs') (hx : ∀ b ∈ ex, b ∈ ex') : Un fs' ex' H H1 h h1 :=
  ⟨fun b ob q n hb he => u.keep b ob q n (fun z => hb (hs b z)) fun z => he (hx b z), fun _ _ q n _ he => u.any q n fun z => he (hx _ z), fun b ob q n he => u.free b ob q n fun z => he (hx b z), fun b ob q he => u.there b ob q fun z => he (hx b z), u.tups, u.frzs, u.tbls⟩
end

/-! ### the heap without what is tracked -/
def trk (h : Heap) (H : Hp) : List Addr := (List.range h.objs.size).filter fun a => (H a).isSome
def hidT (h : Heap) (H : Hp) : Heap := PySem.W.hideAll h (trk h H)
theorem hidT_size (h : Heap) (H : Hp) : (hidT h H).objs.size = h.objs.size := PySem.W.hideAll_size _ _
theorem hidT_get {h : Heap} {H : Hp} {b : Addr} {o : Obj} (e : h.get? b = some o) (n : H b = none) : (hidT h H).get? b = some o :=
  PySem.W.hideAll_get _ e fun hm => by
    have q : (H b).isSome = true := (List.mem_filter.mp hm).2
    rw [n] at q; simp at q
theorem of_hidT {h : Heap} {H : Hp} {b : Addr} {o : Obj} (e : (hidT h H).get? b = some o) : h.get? b = some o ∧ H b = none := by
  have e' : h.get? b = some o := PySem.W.of_hideAll (trk h H) e
  refine ⟨e', ?_⟩
  cases q : H b with
  | none => rfl
  | some x =>
    have hm : b ∈ trk h H := List.mem_filter.mpr ⟨List.mem_range.mpr (Heap.lt_size e'), by simp [q]⟩
    have z : (hidT h H).get? b = none := PySem.W.hideAll_none (trk h H) hm
    rw [z] at e; cases e

/-! ### OpenK's ledger, filled with every new object but one -/
def allNews (g h : Heap) (L : Addr) : List (Addr × Obj) := (List.range h.objs.size).filterMap fun a => if a = L ∨ (g.get? a).isSome = true then none else (h.get? a).map fun o => (a, o)
def rest (g h : Heap) (L d : Addr) : List (Addr × Obj) := (allNews g h L).filter fun p => decide (p.1 ≠ d)
end L2

namespace L2
open PySem PySem.Spec PyProof.Rows

/-- the module's facts, over the base: the heap at the law's entry without what is tracked there -/
structure Mod (K : PySem.W.Frag) (mg : Str → Option Value) (base : Heap) : Prop where
  kin : K.In base
  glob : base.Ns mainGlobals mg
  blt : ∃ mb, base.Ns builtinsNs mb ∧ ∀ x : Str, x ≠ "__name__" → mb x = bootBuiltins x
  nolimit : base.NoLimit

/-- the context: a def's body (or a comprehension's block) running. base: fixed through the whole law; s₀, H₀: the entry; outer: the frames whose slots others may change (a def's callers); stack: all frames that run;
   ex: iterators that were made ahead of the entry and are walked here (a comprehension's); fn: the names whose cells were made at the entry (a def: all; a comprehension's block: its own); calm: not within an except suite; pn: pins that every state bears; xe: what is wanted of an exception that leaves the code -/
structure Cx where
  prog : Program
  w : World
  K : PySem.W.Frag
  mg : Str → Option Value
  base : Heap
  A : Around
  N : List Str
  s₀ : Shared
  H₀ : Hp
  env : Env
  outer : List Env
  stack : List Env
  ex : List Addr
  fn : Str → Bool
  calm : Bool
  pn : List (Addr × Obj)
  xe : Value → Shared → Prop
/-- the callers' frames -/
def frs (l : List Env) : List Addr := l.filterMap (·.frame)
abbrev Cx.fs (X : Cx) : List Addr := frs X.outer

def Vis (sc : Scope) (x : Str) : Prop := sc.names.lookup x = some .local ∨ sc.names.lookup x = some .cell ∨ sc.names.lookup x = some .free
def Loc (sc : Scope) (x : Str) : Prop := sc.names.lookup x = some .local ∨ sc.names.lookup x = some .cell
def Look (env : Env) (h : Heap) (m : Str → Option Value) (x : Str) (u : Value) : Prop :=
  (env.kindOf x = some .local ∧ m x = some u) ∨ ((env.kindOf x = some .cell ∨ env.kindOf x = some .free) ∧ ∃ c, env.cells.lookup x = some c ∧ h.IsCell c (some u))

structure Cx.Ok (X : Cx) : Prop where
  mod : Mod X.K X.mg X.base
  kind : X.env.scope.kind = .function
  glob : X.env.globals = mainGlobals
  blt : X.env.builtins = builtinsNs
  above : X.s₀.heap.objs.size ≤ X.env.locals
  inj : ∀ x y c, X.env.cells.lookup x = some c → X.env.cells.lookup y = some c → x = y
  has : ∀ x, (X.env.kindOf x = some .cell ∨ X.env.kindOf x = some .free) → ∃ c, X.env.cells.lookup x = some c
  cab : ∀ x c, X.fn x = true → X.env.cells.lookup x = some c → X.s₀.heap.objs.size ≤ c
  hd : X.calm = true → X.A.handled = none
  frames : X.A.frames = some X.stack
  stk : X.stack = X.outer ∨ (X.stack = X.env :: X.outer ∧ X.env.frame = some X.env.locals)
  exf : ∀ b ∈ X.ex, b ≠ X.env.locals ∧ ∀ x c, X.env.cells.lookup x = some c → c ≠ b
  bs : ∀ b o, X.base.get? b = some o → X.s₀.heap.get? b = some o ∧ X.H₀ b = none
  bsz : X.base.objs.size ≤ X.s₀.heap.objs.size
  noex : ∀ b o, X.base.get? b = some o → b ∉ X.ex
  exfs : ∀ b ∈ X.ex, b ∉ X.fs
  funs : X.s₀.heap.FunFrames X.base X.outer
  frf : ∀ b ∈ X.fs, X.H₀ b = none

structure Inv (X : Cx) (pins : List (Addr × Obj)) (σ : List (Option V)) (H : Hp) (s : Shared) : Prop where
  ok : X.Ok
  os : s.os = X.s₀.os
  bare : AllBare s.gens
  base : Un X.fs X.ex X.H₀ H X.s₀.heap s.heap
  loc : ∃ m, s.heap.Ns X.env.locals m ∧ ∀ (i : Nat) (x : Str) (v : V), X.N[i]? = some x → σ[i]? = some (some v) → Vis X.env.scope x → ∃ u, RelV v u ∧ Look X.env s.heap m x u
  cell : ∀ x c, X.env.cells.lookup x = some c → ∃ v, s.heap.IsCell c v
  free : H X.env.locals = none
  freeC : ∀ x c, X.env.cells.lookup x = some c → H c = none
  pin : ∀ p ∈ X.pn ++ pins, s.heap.get? p.1 = some p.2 ∧ H p.1 = none ∧ p.1 ≠ X.env.locals ∧ p.1 ∉ X.fs ∧ ∀ v, p.2.data ≠ .cell v
  hok : HOk X.prog X.w H s.heap
  len : σ.length = X.N.length

section
variable {X : Cx} {pins : List (Addr × Obj)} {σ : List (Option V)} {H H' : Hp} {s : Shared} {h' : Heap}

theorem Cx.Ok.nofr (ok : X.Ok) {b : Addr} {o : Obj} (e : X.base.get? b = some o) : b ∉ X.fs := fun hb => by
  have := (ok.funs.mem hb).1
  rw [e] at this; cases this
theorem Inv.bs (I : Inv X pins σ H s) : ∀ b o, X.base.get? b = some o → s.heap.get? b = some o ∧ H b = none := fun b o e =>
  ⟨I.base.keep b o (I.ok.bs b o e).1 (I.ok.bs b o e).2 (I.ok.nofr e) (I.ok.noex b o e), I.base.free b o (I.ok.bs b o e).1 (I.ok.bs b o e).2 (I.ok.noex b o e)⟩
theorem Inv.bk (I : Inv X pins σ H s) : ∀ b o, X.base.get? b = some o → s.heap.get? b = some o := fun b o e => (I.bs b o e).1
theorem Inv.mod (I : Inv X pins σ H s) : Mod X.K X.mg X.base := I.ok.mod
theorem Inv.kIn (I : Inv X pins σ H s) : X.K.In s.heap := I.ok.mod.kin.keeps I.bk
theorem Inv.lt (I : Inv X pins σ H s) : X.env.locals < s.heap.objs.size := let ⟨_, hn, _⟩ := I.loc; hn.lt
theorem Inv.sz (I : Inv X pins σ H s) : X.s₀.heap.objs.size ≤ s.heap.objs.size := Nat.le_trans I.ok.above (Nat.le_of_lt I.lt)
theorem Inv.nofs (I : Inv X pins σ H s) {a : Addr} (h : s.heap.objs.size ≤ a) : a ∉ X.fs := fun hb => by
  obtain ⟨_, o, ho, _⟩ := I.ok.funs.mem hb
  exact absurd (Nat.lt_of_lt_of_le (Heap.lt_size ho) (Nat.le_trans I.sz h)) (Nat.lt_irrefl _)
theorem Inv.cne (I : Inv X pins σ H s) : ∀ x c, X.env.cells.lookup x = some c → c ≠ X.env.locals := fun x c e z => by
  obtain ⟨v, o, ho, hd⟩ := I.cell x c e
  obtain ⟨m, ⟨o', es, ep, ho', hd', _⟩, _⟩ := I.loc
  rw [z, ho'] at ho; cases ho; rw [hd'] at hd; cases hd
theorem Inv.funs (I : Inv X pins σ H s) : s.heap.FunFrames X.base X.outer := by
  have all : ∀ (l : List Env), (∀ b ∈ frs l, b ∈ X.fs) → X.s₀.heap.FunFrames X.base l → s.heap.FunFrames X.base l := by
    intro l
    induction l with
    | nil => intro _ _; trivial
    | cons env r ih =>
      intro hs hl
      obtain ⟨hk, ⟨L, o, hf, hn, ho, hd⟩, hr⟩ := hl
      have hL : L ∈ X.fs := hs L (by unfold frs; rw [List.filterMap_cons, hf]; exact List.mem_cons_self)
      obtain ⟨sl, e⟩ := I.base.slot L o ho (I.ok.frf L hL) hL fun z => I.ok.exfs L z hL
      exact ⟨hk, ⟨L, _, hf, hn, e, hd⟩, ih (fun b hb => hs b (by unfold frs; rw [List.filterMap_cons, hf]; exact List.mem_cons_of_mem _ hb)) hr⟩
  exact all X.outer (fun _ hb => hb) I.ok.funs

/-- the frames that run, for a call -/
theorem Inv.stack (I : Inv X pins σ H s) : s.heap.FunFrames X.base X.stack := by
  rcases I.ok.stk with e | ⟨e, hf⟩
  · rw [e]; exact I.funs
  · rw [e]
    obtain ⟨m, hn, _⟩ := I.loc
    refine .cons (by rw [I.ok.kind]; decide) hf hn ?_ I.funs
    exact Heap.get?_none_of_le (Nat.le_trans I.ok.bsz I.ok.above)
theorem Inv.stkSub (I : Inv X pins σ H s) : ∀ b ∈ frs X.stack, b ∈ X.env.locals :: X.fs := fun b hb => by
  rcases I.ok.stk with e | ⟨e, hf⟩
  · rw [e] at hb; exact List.mem_cons_of_mem _ hb
  · rw [e] at hb
    unfold frs at hb
    rw [List.filterMap_cons, hf] at hb
    exact hb
theorem Inv.stkFree (I : Inv X pins σ H s) : ∀ b ∈ frs X.stack, H b = none := fun b hb => by
  rcases List.mem_cons.mp (I.stkSub b hb) with e | hb
  · rw [e]; exact I.free
  · obtain ⟨_, o, ho, _⟩ := I.ok.funs.mem hb
    exact I.base.free b o ho (I.ok.frf b hb) fun z => I.ok.exfs b z hb

/-- THE STEP: the untracked objects but the frame and the records at ch are kept (the callers' frames up to slots), the frame's map is kept, the new abstract heap is held -/
theorem Inv.step {g' : Array GenState} {t' : Nat} {d' : Drawn} {ch : List Addr} (I : Inv X pins σ H s)
    (hch : ∀ b ∈ ch, (b ∈ X.ex ∨ X.s₀.heap.objs.size ≤ b) ∧ b ≠ X.env.locals ∧ (∀ x c, X.env.cells.lookup x = some c → c ≠ b) ∧ ∀ p ∈ X.pn ++ pins, p.1 ≠ b)
    (keep : ∀ b o, b ≠ X.env.locals → b ∉ X.fs → b ∉ ch → s.heap.get? b = some o → H b = none → h'.get? b = some o)
    (slot : ∀ b o, b ≠ X.env.locals → b ∈ X.fs → b ∉ ch → s.heap.get? b = some o → H b = none → ∃ sl, h'.get? b = some { o with slots := sl }) (free : ∀ b o, b ∉ ch → s.heap.get? b = some o → H b = none → H' b = none)
    (there : ∀ b o, b ∉ ch → s.heap.get? b = some o → ∃ o', h'.get? b = some o')
    (tups : ∀ b xs, H b = some (.tup xs) → H' b = some (.tup xs)) (frzs : ∀ b o u, H b = some (.frz o u) → H' b = some (.frz o u)) (tbls : ∀ b ps, H b = some (.tbl ps) → ∃ more, H' b = some (.tbl (ps ++ more)))
    (ns : ∀ m, s.heap.Ns X.env.locals m → h'.Ns X.env.locals m) (hok : HOk X.prog X.w H' h') (hg : AllBare g') :
    Inv X pins σ H' { s with heap := h', gens := g', drawn := d', toks := t' } := by
  have neL : ∀ b o, X.s₀.heap.get? b = some o → b ≠ X.env.locals := fun b o e => Nat.ne_of_lt (Nat.lt_of_lt_of_le (Heap.lt_size e) I.ok.above)
  have neC : ∀ b o, X.s₀.heap.get? b = some o → b ∉ X.ex → b ∉ ch := fun b o e hx hb => by
    rcases (hch b hb).1 with z | z
    · exact hx z
    · exact absurd (Nat.lt_of_lt_of_le (Heap.lt_size e) z) (Nat.lt_irrefl _)
  have cellK : ∀ x c, X.env.cells.lookup x = some c → ∀ v, s.heap.IsCell c v → h'.IsCell c v := fun x c e v ⟨o, ho, hd⟩ => by
    have nch : c ∉ ch := fun z => (hch c z).2.2.1 x c e rfl
    by_cases hc : c ∈ X.fs
    · obtain ⟨sl, q⟩ := slot c o (I.cne x c e) hc nch ho (I.freeC x c e)
      exact ⟨_, q, hd⟩
    · exact ⟨o, keep c o (I.cne x c e) hc nch ho (I.freeC x c e), hd⟩
  refine ⟨I.ok, I.os, hg, ⟨fun b o e n hb hx => ?_, fun b o e n hb hx => ?_, fun b o e n hx => ?_, fun b o e hx => ?_, fun b xs e => tups b xs (I.base.tups b xs e), fun b o xs e => frzs b o xs (I.base.frzs b o xs e), fun b ps e => ?_⟩, ?_, fun x c e => ?_, ?_, fun x c e => ?_, fun p hp => ?_, hok, I.len⟩
  · exact keep b o (neL b o e) hb (neC b o e hx) (I.base.keep b o e n hb hx) (I.base.free b o e n hx)
  · obtain ⟨sl, e1⟩ := I.base.slot b o e n hb hx
    obtain ⟨sl', e2⟩ := slot b _ (neL b o e) hb (neC b o e hx) e1 (I.base.free b o e n hx)
    exact ⟨sl', e2⟩
  · obtain ⟨o', e1⟩ := I.base.there b o e hx
    exact free b o' (neC b o e hx) e1 (I.base.free b o e n hx)
  · obtain ⟨o', e1⟩ := I.base.there b o e hx
    exact there b o' (neC b o e hx) e1
  · obtain ⟨m1, e1⟩ := I.base.tbls b ps e
    obtain ⟨m2, e2⟩ := tbls b _ e1
    exact ⟨m1 ++ m2, by rw [e2, Array.append_assoc]⟩
  · obtain ⟨m, hn, hl⟩ := I.loc
    refine ⟨m, ns m hn, fun i x v e1 e2 e3 => ?_⟩
    obtain ⟨u, r, l⟩ := hl i x v e1 e2 e3
    refine ⟨u, r, ?_⟩
    rcases l with l | ⟨k, c, e, z⟩
    · exact .inl l
    · exact .inr ⟨k, c, e, cellK x c e _ z⟩
  · obtain ⟨v, z⟩ := I.cell x c e
    exact ⟨v, cellK x c e v z⟩
  · obtain ⟨m, ⟨o, _, _, ho, _⟩, _⟩ := I.loc
    exact free _ o (fun z => (hch _ z).2.1 rfl) ho I.free
  · obtain ⟨v, o, ho, hd⟩ := I.cell x c e
    exact free c o (fun z => (hch c z).2.2.1 x c e rfl) ho (I.freeC x c e)
  · obtain ⟨e, n, ne, nf, d⟩ := I.pin p hp
    have nch : p.1 ∉ ch := fun z => (hch p.1 z).2.2.2 p hp rfl
    exact ⟨keep p.1 p.2 ne nf nch e n, free p.1 p.2 nch e n, ne, nf, d⟩
/-- .. where the frame's own object is kept too -/
theorem Inv.un {t' : Nat} (I : Inv X pins σ H s) (u : Un X.fs [] H H' s.heap h') (hok : HOk X.prog X.w H' h') : Inv X pins σ H' { s with heap := h', toks := t' } := by
  obtain ⟨m, ⟨o, es, ep, ho, r⟩, _⟩ := id I.loc
  obtain ⟨sl, hL⟩ := u.any ho I.free (by simp)
  exact I.step (g' := s.gens) (d' := s.drawn) (ch := []) (fun _ z => nomatch z) (fun b o _ hb _ e n => u.keep b o e n hb (by simp)) (fun b o _ hb _ e n => u.slot b o e n hb (by simp)) (fun b o _ e n => u.free b o e n (by simp)) (fun b o _ e => u.there b o e (by simp)) u.tups u.frzs u.tbls (fun m' hm => by
    obtain ⟨o', es', ep', ho', r'⟩ := hm
    rw [ho] at ho'; cases ho'
    exact ⟨_, es', ep', hL, r'⟩) hok I.bare
/-- behind a call (or a comprehension's block): the slots of this frame may have changed too, the records at ch may have turned -/
theorem Inv.call {g' : Array GenState} {t' : Nat} {d' : Drawn} {ch : List Addr} (I : Inv X pins σ H s) (u : Un (frs X.stack) ch H H' s.heap h') (hok : HOk X.prog X.w H' h') (hg : AllBare g')
    (hch : ∀ b ∈ ch, (b ∈ X.ex ∨ X.s₀.heap.objs.size ≤ b) ∧ b ≠ X.env.locals ∧ (∀ x c, X.env.cells.lookup x = some c → c ≠ b) ∧ ∀ p ∈ X.pn ++ pins, p.1 ≠ b) :
    Inv X pins σ H' { s with heap := h', gens := g', drawn := d', toks := t' } := by
  obtain ⟨m, ⟨o, es, ep, ho, r⟩, _⟩ := id I.loc
  obtain ⟨sl, hL⟩ := u.any ho I.free fun z => (hch _ z).2.1 rfl
  exact I.step (ch := ch) hch (fun b o hL hb hc e n => u.keep b o e n (fun z => (List.mem_cons.mp (I.stkSub b z)).elim hL hb) hc) (fun b o _ _ hc e n => u.any e n hc) (fun b o hc e n => u.free b o e n hc) (fun b o hc e => u.there b o e hc) u.tups u.frzs u.tbls (fun m' hm => by
    obtain ⟨o', es', ep', ho', r'⟩ := hm
    rw [ho] at ho'; cases ho'
    exact ⟨_, es', ep', hL, r'⟩) hok hg
/-- an untracked record of ours (an iterator) has turned -/
theorem Inv.turned {t' : Nat} {it : Addr} (I : Inv X pins σ H s) (k : ∀ b o, b ≠ it → s.heap.get? b = some o → h'.get? b = some o) (hn : H it = none) (hL : it ≠ X.env.locals)
    (h1 : it ∈ X.ex ∨ X.s₀.heap.objs.size ≤ it) (h2 : ∀ x c, X.env.cells.lookup x = some c → c ≠ it) (h3 : ∀ p ∈ X.pn ++ pins, p.1 ≠ it) : Inv X pins σ H { s with heap := h', toks := t' } := by
  have nit : ∀ b u, H b = some u → b ≠ it := fun b u e z => by rw [z, hn] at e; cases e
  refine I.step (g' := s.gens) (d' := s.drawn) (ch := [it]) (fun b hb => ?_) (fun b o _ _ hc e _ => k b o (fun z => hc (by simp [z])) e) (fun b o _ _ hc e _ => ⟨o.slots, k b o (fun z => hc (by simp [z])) e⟩) (fun _ _ _ _ n => n)
    (fun b o hc e => ⟨o, k b o (fun z => hc (by simp [z])) e⟩) (fun _ _ e => e) (fun _ _ _ e => e) (fun b ps e => ⟨#[], by rw [e]; simp⟩) (fun m hm => ?_) (fun b u e => ?_) I.bare
  · have e : b = it := by simpa using hb
    subst e
    exact ⟨h1, hL, h2, h3⟩
  · obtain ⟨o, es, ep, ho, r⟩ := hm
    exact ⟨o, es, ep, k _ o (Ne.symm hL) ho, r⟩
  · refine (I.hok b u e).stay (fun c v hc q => k c v ?_ q) (fun _ q => q) fun _ _ q => q
    rcases hc with z | z
    · rw [z]; exact nit b u e
    · exact nit c _ z
theorem Inv.tok (I : Inv X pins σ H s) (t : Nat) : Inv X pins σ H { s with toks := t } := I.un (h' := s.heap) (t' := t) Un.refl I.hok
/-- all objects kept -/
theorem Inv.kept {t' : Nat} (I : Inv X pins σ H s) (k : ∀ b u, s.heap.get? b = some u → h'.get? b = some u) : Inv X pins σ H { s with heap := h', toks := t' } := I.un (Un.kept k) (I.hok.kept k)
/-- a new object laid and tracked -/
theorem Inv.laid {a : Addr} {o : HO} {t' : Nat} (I : Inv X pins σ H s) (k : ∀ b u, s.heap.get? b = some u → h'.get? b = some u) (hp : s.heap.objs.size ≤ a) (new : ObjOk X.prog X.w (upd H a o) h' a o) :
    Inv X pins σ (upd H a o) { s with heap := h', toks := t' } := I.un (Un.laid k hp (I.hok.fresh hp)) (I.hok.laid k hp new)
/-- an object written -/
theorem Inv.write {x e : Addr} {o : HO} {t' : Nat} (I : Inv X pins σ H s) (mu : Mut (H x)) (he : e = x ∨ H e = some (.own x)) (k : ∀ b u, b ≠ e → s.heap.get? b = some u → h'.get? b = some u) (heo : ∃ u, h'.get? e = some u)
    (new : ObjOk X.prog X.w (upd H x o) h' x o) : Inv X pins σ (upd H x o) { s with heap := h', toks := t' } := I.un (Un.write mu he k heo) (I.hok.write mu he k heo new)
theorem Inv.pins_of {pins' : List (Addr × Obj)} (I : Inv X pins σ H s) (h : ∀ p ∈ pins', s.heap.get? p.1 = some p.2 ∧ H p.1 = none ∧ p.1 ≠ X.env.locals ∧ p.1 ∉ X.fs ∧ ∀ v, p.2.data ≠ .cell v) : Inv X pins' σ H s :=
  ⟨I.ok, I.os, I.bare, I.base, I.loc, I.cell, I.free, I.freeC, fun p hp => (List.mem_append.mp hp).elim (fun z => I.pin p (List.mem_append_left _ z)) (h p), I.hok, I.len⟩

theorem nodup_ix {N : List Str} (hN : N.Nodup) {i j : Nat} {x : Str} (a : N[i]? = some x) (b : N[j]? = some x) : i = j := by
  obtain ⟨h1, e1⟩ := List.getElem?_eq_some_iff.mp a
  obtain ⟨h2, e2⟩ := List.getElem?_eq_some_iff.mp b
  exact (List.getElem_inj hN).mp (e1.trans e2.symm)

/-- a name is stored; what changed -/
theorem store_ok2 {M : Model} {A : Around} {E : Value → Shared → Prop} {i : Nat} {x : Str} {v : V} {u : Value} {Q : Unit → Shared → Prop} (I : Inv X pins σ H s) (hN : X.N.Nodup) (hi : X.N[i]? = some x) (hx : Loc X.env.scope x) (r : RelV v u)
    (h : ∀ s', Inv X pins (σ.set i (some v)) H s' → (∃ a, Heap.SameBut a s.heap s'.heap ∧ (a = X.env.locals ∨ X.env.cells.lookup x = some a)) → Q () s') (hf : X.fn x = true ∨ X.env.scope.names.lookup x = some .local := by first | exact .inl rfl | exact .inr rfl | assumption) : wpAny M A (storeName X.env x u) Q E s := by
  obtain ⟨m, hn, hl⟩ := id I.loc
  have hcls : (X.env.scope.kind == .class || (X.env.scope.kind == .module && X.env.locals != X.env.globals)) = false := by rw [I.ok.kind]; rfl
  have hiσ : i < σ.length := by rw [I.len]; exact (List.getElem?_eq_some_iff.mp hi).1
  have cne := I.cne
  have tracked : ∀ {a : Addr} {h' : Heap}, (∃ o, s.heap.get? a = some o ∧ H a = none) → Heap.SameBut a s.heap h' → HOk X.prog X.w H h' := fun {a h'} ha hs b ob e => by
    obtain ⟨_, _, hfree⟩ := ha
    refine (I.hok b ob e).stay (fun c w' hc q => (hs.2 c ?_).trans q) (fun _ q => q) fun _ _ q => q
    rintro rfl
    rcases hc with rfl | hc
    · rw [hfree] at e; cases e
    · rw [hfree] at hc; cases hc
  rcases hx with hk | hk
  · refine wpAny_storeName_local hk hn (fun h' hn' hs => ?_) hcls
    obtain ⟨oL, _, _, hoL, _⟩ := id hn
    refine h _ ⟨I.ok, I.os, I.bare, ⟨fun b o e n hb hx => ?_, fun b o e n hb hx => ?_, I.base.free, fun b o e hx => ?_, I.base.tups, I.base.frzs, I.base.tbls⟩, ⟨_, hn', fun j y v' e1 e2 e3 => ?_⟩, fun y c e => ?_, I.free, I.freeC, fun p hp => ?_, tracked ⟨oL, hoL, I.free⟩ hs, by simpa using I.len⟩ ⟨_, hs, .inl rfl⟩
    · exact (hs.2 b (Nat.ne_of_lt (Nat.lt_of_lt_of_le (Heap.lt_size e) I.ok.above))).trans (I.base.keep b o e n hb hx)
    · obtain ⟨sl, e1⟩ := I.base.slot b o e n hb hx
      exact ⟨sl, (hs.2 b (Nat.ne_of_lt (Nat.lt_of_lt_of_le (Heap.lt_size e) I.ok.above))).trans e1⟩
    · obtain ⟨o', e1⟩ := I.base.there b o e hx
      exact ⟨o', (hs.2 b (Nat.ne_of_lt (Nat.lt_of_lt_of_le (Heap.lt_size e) I.ok.above))).trans e1⟩
    · by_cases hj : j = i
      · subst hj
        rw [hi] at e1; cases e1
        rw [List.getElem?_set_self hiσ] at e2
        cases e2
        exact ⟨u, r, .inl ⟨hk, by simp⟩⟩
      · rw [List.getElem?_set_ne (Ne.symm hj)] at e2
        obtain ⟨u', r', q⟩ := hl j y v' e1 e2 e3
        refine ⟨u', r', ?_⟩
        rcases q with ⟨k, e⟩ | ⟨k, c, e, z⟩
        · refine .inl ⟨k, ?_⟩
          have : y ≠ x := fun e => hj (nodup_ix hN e1 (e ▸ hi))
          simp [this, e]
        · exact .inr ⟨k, c, e, z.sameBut hs (cne y c e)⟩
    · obtain ⟨w', z⟩ := I.cell y c e
      exact ⟨w', z.sameBut hs (cne y c e)⟩
    · obtain ⟨e, n, ne, nf, d⟩ := I.pin p hp
      exact ⟨(hs.2 p.1 ne).trans e, n, ne, nf, d⟩
  · have hfn : X.fn x = true := by
      rcases hf with z | z
      · exact z
      · rw [z] at hk; cases hk
    obtain ⟨c, hc⟩ := I.ok.has x (.inl hk)
    obtain ⟨w', z⟩ := I.cell x c hc
    refine wpAny_storeName_cell I.ok.kind hk hc z (fun h' hc' hs => ?_)
    obtain ⟨oc, hoc, hocd⟩ := id z
    refine h { s with heap := h' } ⟨I.ok, I.os, I.bare, ⟨fun b o e n hb hx => ?_, fun b o e n hb hx => ?_, I.base.free, fun b o e hx => ?_, I.base.tups, I.base.frzs, I.base.tbls⟩, ⟨m, hn.sameBut hs (Ne.symm (cne x c hc)), fun j y v' e1 e2 e3 => ?_⟩, fun y c' e => ?_, I.free, I.freeC, fun p hp => ?_, tracked ⟨oc, hoc, I.freeC x c hc⟩ hs, by simpa using I.len⟩ ⟨c, hs, .inr hc⟩
    · exact (hs.2 b (Nat.ne_of_lt (Nat.lt_of_lt_of_le (Heap.lt_size e) (I.ok.cab x c hfn hc)))).trans (I.base.keep b o e n hb hx)
    · obtain ⟨sl, e1⟩ := I.base.slot b o e n hb hx
      exact ⟨sl, (hs.2 b (Nat.ne_of_lt (Nat.lt_of_lt_of_le (Heap.lt_size e) (I.ok.cab x c hfn hc)))).trans e1⟩
    · obtain ⟨o', e1⟩ := I.base.there b o e hx
      exact ⟨o', (hs.2 b (Nat.ne_of_lt (Nat.lt_of_lt_of_le (Heap.lt_size e) (I.ok.cab x c hfn hc)))).trans e1⟩
    · by_cases hj : j = i
      · subst hj
        rw [hi] at e1; cases e1
        rw [List.getElem?_set_self hiσ] at e2
        cases e2
        exact ⟨u, r, .inr ⟨.inl hk, c, hc, hc'⟩⟩
      · rw [List.getElem?_set_ne (Ne.symm hj)] at e2
        obtain ⟨u', r', q⟩ := hl j y v' e1 e2 e3
        refine ⟨u', r', ?_⟩
        rcases q with q | ⟨k, c', e, z'⟩
        · exact .inl q
        · refine .inr ⟨k, c', e, z'.sameBut hs ?_⟩
          rintro rfl
          exact hj (nodup_ix hN e1 (I.ok.inj _ _ _ e hc ▸ hi))
    · by_cases hcc : c' = c
      · subst hcc; exact ⟨_, hc'⟩
      · obtain ⟨w2, z2⟩ := I.cell y c' e
        exact ⟨w2, z2.sameBut hs hcc⟩
    · obtain ⟨e, n, ne, nf, d⟩ := I.pin p hp
      refine ⟨(hs.2 p.1 ?_).trans e, n, ne, nf, d⟩
      intro q
      rw [q, hoc] at e
      have q' : oc = p.2 := Option.some.inj e
      exact d w' (by rw [← q']; exact hocd)
theorem store_ok {M : Model} {A : Around} {E : Value → Shared → Prop} {i : Nat} {x : Str} {v : V} {u : Value} {Q : Unit → Shared → Prop} (I : Inv X pins σ H s) (hN : X.N.Nodup) (hi : X.N[i]? = some x) (hx : Loc X.env.scope x) (r : RelV v u)
    (h : ∀ s', Inv X pins (σ.set i (some v)) H s' → Q () s') (hf : X.fn x = true ∨ X.env.scope.names.lookup x = some .local := by first | exact .inl rfl | exact .inr rfl | assumption) : wpAny M A (storeName X.env x u) Q E s :=
  store_ok2 I hN hi hx r (fun s' I' _ => h s' I') hf
/-- behind a call or a block, the state as it is -/
theorem Inv.call' {s' : Shared} {ch : List Addr} (I : Inv X pins σ H s) (ho : s'.os = s.os) (u : Un (frs X.stack) ch H H' s.heap s'.heap) (hok : HOk X.prog X.w H' s'.heap) (hg : AllBare s'.gens)
    (hch : ∀ b ∈ ch, (b ∈ X.ex ∨ X.s₀.heap.objs.size ≤ b) ∧ b ≠ X.env.locals ∧ (∀ x c, X.env.cells.lookup x = some c → c ≠ b) ∧ ∀ p ∈ X.pn ++ pins, p.1 ≠ b) : Inv X pins σ H' s' := by
  obtain ⟨h', g', d', t', o'⟩ := s'
  have e : o' = s.os := ho
  subst e
  exact I.call (g' := g') (t' := t') (d' := d') u hok hg hch
end

/-! ### the judgements -/
/-- an exception: its class, its own dict's address (where it has one), the abstract heap behind it -/
abbrev XK := Value → Option Addr → Hp → Prop
abbrev St := List (Option V)
abbrev VK := V → Hp → Prop
/-- an expression's reading; a test's; an argument list's -/
abbrev TE := St → Hp → VK → Prop
abbrev TT := St → Hp → (Bool → Hp → Prop) → Prop
abbrev TA := St → Hp → (List V → Hp → Prop) → Prop
/-- what is wanted behind a statement -/
structure Ends where
  nx : St → Hp → Prop
  rt : VK
  bk : St → Hp → Prop := fun _ _ => False
  ct : St → Hp → Prop := fun _ _ => False
abbrev TS := Ends → St → Hp → Prop

def EP (X : Cx) (pins : List (Addr × Obj)) (σ : St) (Q : VK) (u : Value) (s' : Shared) : Prop := ∃ v H', Inv X pins σ H' s' ∧ RelV v u ∧ Q v H'
def TP (X : Cx) (pins : List (Addr × Obj)) (σ : St) (Q : Bool → Hp → Prop) (b : Bool) (s' : Shared) : Prop := ∃ H', Inv X pins σ H' s' ∧ Q b H'
def AP (X : Cx) (pins : List (Addr × Obj)) (σ : St) (Q : List V → Hp → Prop) (us : List Value) (s' : Shared) : Prop := ∃ vs H', Inv X pins σ H' s' ∧ Vals vs us ∧ Q vs H'
def SP (X : Cx) (pins : List (Addr × Obj)) (D : Ends) (f : Flow) (s' : Shared) : Prop :=
  match f with
  | .next => ∃ σ' H', Inv X pins σ' H' s' ∧ D.nx σ' H'
  | .brk => ∃ σ' H', Inv X pins σ' H' s' ∧ D.bk σ' H'
  | .cont => ∃ σ' H', Inv X pins σ' H' s' ∧ D.ct σ' H'
  | .ret u => ∃ v σ' H', Inv X pins σ' H' s' ∧ RelV v u ∧ D.rt v H'

def PE (X : Cx) (e : Expr) (t : TE) : Prop :=
  ∀ (pins : List (Addr × Obj)) (s : Shared) (σ : St) (H : Hp) (Q : VK), Inv X pins σ H s → t σ H Q → wpAny (model X.prog X.w) X.A (eval e X.env) (EP X pins σ Q) X.xe s
def PT (X : Cx) (e : Expr) (t : TT) : Prop :=
  ∀ (pins : List (Addr × Obj)) (s : Shared) (σ : St) (H : Hp) (Q : Bool → Hp → Prop), Inv X pins σ H s → t σ H Q → wpAny (model X.prog X.w) X.A (isTrue e X.env (eval e X.env)) (TP X pins σ Q) X.xe s
/-- a test whatever its 'whole' is (and, or) -/
def PW (X : Cx) (e : Expr) (t : TT) : Prop :=
  ∀ (whole : Sem Value) (pins : List (Addr × Obj)) (s : Shared) (σ : St) (H : Hp) (Q : Bool → Hp → Prop), Inv X pins σ H s → t σ H Q → wpAny (model X.prog X.w) X.A (isTrue e X.env whole) (TP X pins σ Q) X.xe s
theorem PW.pt {X : Cx} {e : Expr} {t : TT} (h : PW X e t) : PT X e t := h _
/-- an argument list (no star), from the left -/
def PA (X : Cx) (es : List Expr) (t : TA) : Prop :=
  ∀ (pos : Pos) (pins : List (Addr × Obj)) (s : Shared) (σ : St) (H : Hp) (Q : List V → Hp → Prop), Inv X pins σ H s → t σ H Q → wpAny (model X.prog X.w) X.A (spliced (backTo pos (starEach es X.env))) (AP X pins σ Q) X.xe s
def PS (X : Cx) (st : Stmt) (t : TS) : Prop :=
  ∀ (pins : List (Addr × Obj)) (s : Shared) (σ : St) (H : Hp) (D : Ends), Inv X pins σ H s → t D σ H → wpAny (model X.prog X.w) X.A (exec st X.env) (SP X pins D) X.xe s
def PSs (X : Cx) (st : List Stmt) (t : TS) : Prop :=
  ∀ (pins : List (Addr × Obj)) (s : Shared) (σ : St) (H : Hp) (D : Ends), Inv X pins σ H s → t D σ H → wpAny (model X.prog X.w) X.A (execs st X.env) (SP X pins D) X.xe s
/-- weaken the end -/
theorem thn {α : Type} {t : Sem α} {Q Q' : α → Shared → Prop} {M : Model} {A : Around} {E : Value → Shared → Prop} {s : Shared} (h : wpAny M A t Q E s) (hQ : ∀ a s, Q a s → Q' a s) : wpAny M A t Q' E s := wpAny_mono h hQ fun _ _ x => x
end L2

namespace L2
open PySem PySem.Spec PyProof.Rows
section
variable {X : Cx}

/-! ### names and constants -/
def tVar (i : Nat) : TE := fun σ H Q => ∃ v, σ[i]? = some (some v) ∧ Q v H
def tC (v : V) : TE := fun _ H Q => Q v H
theorem pe_var {i : Nat} {x : Str} {pos : Pos} (hN : X.N[i]? = some x) (hv : Vis X.env.scope x) (hd : (x == ("__debug__" : Str)) = false := by decide) (hcd : (x == ("__classdict__" : Str)) = false := by decide) : PE X (.Name x pos) (tVar i) := by
  intro pins s σ H Q I h
  obtain ⟨v, e, h⟩ := h
  obtain ⟨m, hn, hl⟩ := I.loc
  obtain ⟨u, r, l⟩ := hl i x v hN e hv
  have fin : EP X pins σ Q u s := ⟨v, H, I, r, h⟩
  rcases l with ⟨hk, hm⟩ | ⟨hk, c, hc, hcell⟩
  · exact wpAny_Name (wpAny_loadName_local I.ok.kind hk hn hm fin) hd
  · rcases hk with hk | hk
    · exact wpAny_Name (wpAny_loadName_cell I.ok.kind hk hc hcell fin) hd
    · exact wpAny_Name (wpAny_loadName_free I.ok.kind hk hc hcell fin hcd) hd
theorem pe_int {i j pos} : PE X (.Constant (.int i) j pos) (tC (.int i)) := fun _ _ _ H _ I h => wpAny_Constant_int ⟨.int i, H, I.tok _, ⟨_, rfl⟩, h⟩
theorem pe_bl {b j pos} : PE X (.Constant (.bool b) j pos) (tC (.bl b)) := fun _ _ _ H _ I h => Constant_bool ⟨.bl b, H, I, rfl, h⟩
theorem pe_non {j pos} : PE X (.Constant .none j pos) (tC .non) := fun _ _ _ H _ I h => Constant_none ⟨.non, H, I, rfl, h⟩
theorem pe_str {x j pos} : PE X (.Constant (.str x) j pos) (tC (.str x)) := fun _ _ _ H _ I h => Calls.Constant_str ⟨.str x, H, I.tok _, ⟨_, rfl⟩, h⟩

/-- a global name of the def -/
def Gl (X : Cx) (x : Str) : Prop := X.env.kindOf x = some .globalImplicit
theorem ld_glob {E : Value → Shared → Prop} {pins : List (Addr × Obj)} {s : Shared} {σ : St} {H : Hp} {x : Str} {u : Value} {pos : Pos} {Q : Value → Shared → Prop} (I : Inv X pins σ H s) (hg : Gl X x) (hm : X.mg x = some u) (h : Q u s)
    (hd : (x == ("__debug__" : Str)) = false := by decide) : wpAny (model X.prog X.w) X.A (eval (.Name x pos) X.env) Q E s :=
  Calls.Name_function_global I.ok.kind hg (Calls.loadGlobal_global (by rw [I.ok.glob]; exact I.mod.glob.keeps I.bk) hm h) hd
theorem ld_blt {E : Value → Shared → Prop} {pins : List (Addr × Obj)} {s : Shared} {σ : St} {H : Hp} {x : Str} {u : Value} {pos : Pos} {Q : Value → Shared → Prop} (I : Inv X pins σ H s) (hg : Gl X x) (hm : X.mg x = none) (hv : bootBuiltins x = some u) (h : Q u s)
    (hn : x ≠ "__name__" := by decide) (hd : (x == ("__debug__" : Str)) = false := by decide) : wpAny (model X.prog X.w) X.A (eval (.Name x pos) X.env) Q E s := by
  obtain ⟨mb, h1, h2⟩ := I.mod.blt
  exact Calls.Name_function_global I.ok.kind hg (Calls.loadGlobal_builtin (by rw [I.ok.glob]; exact I.mod.glob.keeps I.bk) hm (by rw [I.ok.blt]; exact h1.keeps I.bk) ((h2 x hn).trans hv) h) hd
/-- a module's constant, a class, a function, as a value -/
theorem pe_glob {x : Str} {v : V} {u : Value} {pos : Pos} (hg : Gl X x) (hm : X.mg x = some u) (r : RelV v u) (hd : (x == ("__debug__" : Str)) = false := by decide) : PE X (.Name x pos) (tC v) :=
  fun _ _ _ H _ I h => ld_glob I hg hm ⟨v, H, I, r, h⟩ hd
theorem pe_bltn {x : Str} {v : V} {u : Value} {pos : Pos} (hg : Gl X x) (hm : X.mg x = none) (hv : bootBuiltins x = some u) (r : RelV v u) (hn : x ≠ "__name__" := by decide) (hd : (x == ("__debug__" : Str)) = false := by decide) : PE X (.Name x pos) (tC v) :=
  fun _ _ _ H _ I h => ld_blt I hg hm hv ⟨v, H, I, r, h⟩ hn hd

/-! ### arithmetic -/
/-- two ints -/
def t2I (ta tb : TE) (k : Int → Int → Hp → Prop) : St → Hp → Prop := fun σ H => ta σ H fun x H1 => tb σ H1 fun y H2 => ∃ i j, x = .int i ∧ y = .int j ∧ k i j H2
def tAdd (ta tb : TE) : TE := fun σ H Q => t2I ta tb (fun i j H2 => Q (.int (i + j)) H2) σ H
def tSub (ta tb : TE) : TE := fun σ H Q => t2I ta tb (fun i j H2 => Q (.int (i - j)) H2) σ H
/-- the left factor below 2^64 -/
def tMul (ta tb : TE) : TE := fun σ H Q => t2I ta tb (fun i j H2 => (-(2 ^ 64) < i ∧ i < 2 ^ 64) ∧ Q (.int (i * j)) H2) σ H
variable {a b : Expr} {ta tb : TE} {pos : Pos}
/-! ### comparisons -/
def PC (X : Cx) (op : CmpOp) (a b : Expr) (t : TE) : Prop :=
  ∀ (pins : List (Addr × Obj)) (s : Shared) (σ : St) (H : Hp) (Q : VK), Inv X pins σ H s → t σ H Q →
    wpAny (model X.prog X.w) X.A (eval a X.env) (fun v s₁ => wpAny (model X.prog X.w) X.A (eval b X.env) (fun u s₂ => wpAny (model X.prog X.w) X.A (compareOp op v u) (EP X pins σ Q) X.xe s₂) X.xe s₁) X.xe s
def tCmp (p : Int → Int → Bool) (ta tb : TE) : TE := fun σ H Q => t2I ta tb (fun i j H2 => Q (.bl (p i j)) H2) σ H
abbrev tLt : TE → TE → TE := tCmp fun i j => decide (i < j)
abbrev tLe : TE → TE → TE := tCmp fun i j => decide (i ≤ j)
abbrev tGt : TE → TE → TE := tCmp fun i j => decide (j < i)
abbrev tGe : TE → TE → TE := tCmp fun i j => decide (j ≤ i)
abbrev tEqI : TE → TE → TE := tCmp fun i j => decide (i = j)
abbrev tNeI : TE → TE → TE := tCmp fun i j => !decide (i = j)
/-- is None -/
def tIsN (ta : TE) : TE := fun σ H Q => ta σ H fun x H1 => Q (.bl (decide (x = .non))) H1
def tNotN (ta : TE) : TE := fun σ H Q => ta σ H fun x H1 => Q (.bl (!decide (x = .non))) H1
/-- a comparison as a value, as a test -/
def tB (t : TE) : TT := fun σ H Q => t σ H fun x H1 => ∃ c, x = .bl c ∧ Q c H1
/-- an expression whose value is a bool, as a test -/
theorem pt_val {e : Expr} {t : TE} (h : PE X e t) (he : ∀ whole, isTrue e X.env whole = (do let v ← whole; standAt e.pos; holding [v] (truthy v)) := by intro _; rfl) : PT X e (tB t) := by
  intro pins s σ H Q I hw
  refine isTrue_plain (thn (h pins s σ H _ I hw) fun v s1 ⟨x, H1, I1, r1, q1⟩ => ?_) (he _)
  obtain ⟨d, rfl, q⟩ := q1
  cases r1
  exact wpAny_truthy_bool ⟨H1, I1, q⟩

/-! ### and, or, not -/
variable {tA tB' : TT} {rest : List Expr}
def tAnd (t u : TT) : TT := fun σ H Q => t σ H fun c H1 => if c = true then u σ H1 Q else Q false H1
def tOr (t u : TT) : TT := fun σ H Q => t σ H fun c H1 => if c = true then Q true H1 else u σ H1 Q
def tNot (t : TT) : TT := fun σ H Q => t σ H fun c H1 => Q (!c) H1
theorem pw_and1 (ha : PT X a tA) : PW X (.BoolOp .And [a] pos) tA := by
  intro wh pins s σ H Q I h
  refine isTrue_and (thn (ha pins s σ H Q I h) fun c s1 e => ?_)
  cases c with
  | true => exact isTrue_and_nil e
  | false => exact e
theorem pw_or1 (ha : PT X a tA) : PW X (.BoolOp .Or [a] pos) tA := by
  intro wh pins s σ H Q I h
  refine isTrue_or (thn (ha pins s σ H Q I h) fun c s1 e => ?_)
  cases c with
  | false => exact isTrue_or_nil e
  | true => exact e
theorem pw_and (ha : PT X a tA) (hb : PW X (.BoolOp .And (b :: rest) pos) tB') : PW X (.BoolOp .And (a :: b :: rest) pos) (tAnd tA tB') := by
  intro wh pins s σ H Q I h
  refine isTrue_and (thn (ha pins s σ H _ I h) fun c s1 ⟨H1, I1, q1⟩ => ?_)
  cases c with
  | true => exact hb wh pins s1 σ H1 Q I1 q1
  | false => exact ⟨H1, I1, q1⟩
theorem pw_or (ha : PT X a tA) (hb : PW X (.BoolOp .Or (b :: rest) pos) tB') : PW X (.BoolOp .Or (a :: b :: rest) pos) (tOr tA tB') := by
  intro wh pins s σ H Q I h
  refine isTrue_or (thn (ha pins s σ H _ I h) fun c s1 ⟨H1, I1, q1⟩ => ?_)
  cases c with
  | true => exact ⟨H1, I1, q1⟩
  | false => exact hb wh pins s1 σ H1 Q I1 q1
theorem pt_not (ha : PT X a tA) : PT X (.UnaryOp .Not a pos) (tNot tA) := by
  intro pins s σ H Q I h
  exact isTrue_not (ha pins s σ H (fun c H1 => Q (!c) H1) I h)
/-- .. as values (bools) -/
def tAndV (ta tb : TE) : TE := fun σ H Q => ta σ H fun x H1 => ∃ c, x = .bl c ∧ if c = true then tb σ H1 Q else Q (.bl false) H1
def tOrV (ta tb : TE) : TE := fun σ H Q => ta σ H fun x H1 => ∃ c, x = .bl c ∧ if c = true then Q (.bl true) H1 else tb σ H1 Q
def tNotV (ta : TE) : TE := fun σ H Q => ta σ H fun x H1 => ∃ c, x = .bl c ∧ Q (.bl (!c)) H1
theorem pe_one {op} {t : TE} (h : PE X a t) : PE X (.BoolOp op [a] pos) t := fun pins s σ H Q I hw => BoolOp_one (h pins s σ H Q I hw)
theorem pe_and (ha : PE X a ta) (hb : PE X (.BoolOp .And (b :: rest) pos) tb) : PE X (.BoolOp .And (a :: b :: rest) pos) (tAndV ta tb) := by
  intro pins s σ H Q I h
  refine BoolOp_and (thn (ha pins s σ H _ I h) fun v s1 ⟨x, H1, I1, r1, q1⟩ => ?_)
  obtain ⟨c, rfl, q1⟩ := q1
  cases r1
  refine wpAny_truthy_bool ?_
  cases c with
  | true => exact hb pins s1 σ H1 Q I1 q1
  | false => exact ⟨.bl false, H1, I1, rfl, q1⟩
/-- a if t else b -/
def tIf (t : TT) (ta tb : TE) : TE := fun σ H Q => t σ H fun c H1 => if c = true then ta σ H1 Q else tb σ H1 Q
end
end L2

namespace L2
open PySem PySem.Spec PyProof.Rows

/-! ### a list, a tuple that is read: tracked, frozen, or an object of the module -/
def SqL (K : PySem.W.Frag) (H : Hp) (a : Addr) (xs : List V) : Prop :=
  Rd H a (.lst xs) ∨
    ∃ (o : Obj) (its : Array Value) (n : Nat), K.lookup a = some o ∧ o.cls = .type "list" ∧ o.dict = none ∧ o.data = .seq its n ∧ its.size ≤ sizeLine ∧ Vals xs its.toList
def SqT (K : PySem.W.Frag) (H : Hp) (a : Addr) (xs : List V) : Prop :=
  Rd H a (.tup xs) ∨
    ∃ (o : Obj) (its : Array Value) (n : Nat), K.lookup a = some o ∧ o.cls = .type "tuple" ∧ o.data = .seq its n ∧ its.size ≤ sizeLine ∧ Vals xs its.toList
def absV : Value → Option V
  | .none => some .non
  | .bool b => some (.bl b)
  | .int i _ => some (.int i)
  | .str x _ => some (.str x)
  | .bytes b _ => some (.byt b)
  | .float b _ => some (.flt b)
  | .ref a => some (.ref a)
  | .type n => some (.ty n)
  | _ => none
theorem RelV.abs {x : V} {u : Value} (r : RelV x u) : absV u = some x := by
  cases x with
  | non => cases r; rfl
  | bl _ => cases r; rfl
  | int _ => obtain ⟨t, rfl⟩ := r; rfl
  | str _ => obtain ⟨t, rfl⟩ := r; rfl
  | byt _ => obtain ⟨t, rfl⟩ := r; rfl
  | flt _ => obtain ⟨t, rfl⟩ := r; rfl
  | ref _ => cases r; rfl
  | ty _ => cases r; rfl
theorem RelV.inj {x y : V} {u : Value} (r : RelV x u) (q : RelV y u) : x = y := Option.some.inj (r.abs.symm.trans q.abs)
theorem Vals.inj : ∀ {xs ys : List V} {us : List Value}, Vals xs us → Vals ys us → xs = ys
  | _, _, _, .nil, .nil => rfl
  | _, _, _, .cons r t, .cons r' t' => by rw [r.inj r', Vals.inj t t']
section
variable {X : Cx} {pins : List (Addr × Obj)} {σ : St} {H : Hp} {s : Shared} {a : Addr} {xs ys : List V}
theorem SqL.of {K : PySem.W.Frag} (h : H a = some (.lst xs)) : SqL K H a xs := .inl (.inl h)
theorem SqT.of {K : PySem.W.Frag} (h : H a = some (.tup xs)) : SqT K H a xs := .inl (.inl h)
theorem Inv.list (I : Inv X pins σ H s) (h : SqL X.K H a xs) : ∃ its : List Value, Vals xs its ∧ PlainL s.heap a its.toArray ∧ xs.length ≤ sizeLine := by
  rcases h with h | ⟨o, its, n, hk, hc, hd, hs, hz, r⟩
  · obtain ⟨z, its, n, r, e⟩ := h.ok I.hok
    exact ⟨its, r, ⟨_, n, e, rfl, rfl, rfl⟩, z⟩
  · refine ⟨its.toList, r, ⟨o, n, I.kIn a o hk, hc, hd, by simpa using hs⟩, ?_⟩
    have e := r.length
    simp only [Array.length_toList] at e
    omega
theorem Inv.tuple (I : Inv X pins σ H s) (h : SqT X.K H a xs) : ∃ its : List Value, Vals xs its ∧ IsTup s.heap a its.toArray ∧ xs.length ≤ sizeLine := by
  rcases h with h | ⟨o, its, n, hk, hc, hs, hz, r⟩
  · obtain ⟨z, its, r, p, _⟩ := h.ok I.hok
    exact ⟨its, r, p, z⟩
  · refine ⟨its.toList, r, ⟨o, I.kIn a o hk, hc, n, by simpa using hs⟩, ?_⟩
    have e := r.length
    simp only [Array.length_toList] at e
    omega
theorem Inv.list_inj (I : Inv X pins σ H s) (h : SqL X.K H a xs) (h' : SqL X.K H a ys) : xs = ys := by
  obtain ⟨its, r, ⟨o, n, e, _, _, d⟩, _⟩ := I.list h
  obtain ⟨its', r', ⟨o', n', e', _, _, d'⟩, _⟩ := I.list h'
  rw [e] at e'; cases e'
  rw [d] at d'
  injection d' with d1 _
  have : its = its' := by simpa using congrArg Array.toList d1
  subst this
  exact r.inj r'
end

/-! ### another wish about exceptions -/
abbrev Cx.wish (X : Cx) (E : Value → Shared → Prop) : Cx := { X with xe := E }
/-- no exception leaves -/
abbrev Cx.nox (X : Cx) : Cx := X.wish fun _ _ => False
theorem Cx.Ok.wish {X : Cx} (ok : X.Ok) (E : Value → Shared → Prop) : (X.wish E).Ok :=
  ⟨ok.mod, ok.kind, ok.glob, ok.blt, ok.above, ok.inj, ok.has, ok.cab, ok.hd, ok.frames, ok.stk, ok.exf, ok.bs, ok.bsz, ok.noex, ok.exfs, ok.funs, ok.frf⟩
theorem Cx.Ok.unwish {X : Cx} {E : Value → Shared → Prop} (ok : (X.wish E).Ok) : X.Ok :=
  ⟨ok.mod, ok.kind, ok.glob, ok.blt, ok.above, ok.inj, ok.has, ok.cab, ok.hd, ok.frames, ok.stk, ok.exf, ok.bs, ok.bsz, ok.noex, ok.exfs, ok.funs, ok.frf⟩
section
variable {X : Cx} {pins : List (Addr × Obj)} {σ : St} {H : Hp} {s : Shared} {E : Value → Shared → Prop}
theorem Inv.wish (I : Inv X pins σ H s) (E : Value → Shared → Prop) : Inv (X.wish E) pins σ H s := ⟨I.ok.wish E, I.os, I.bare, I.base, I.loc, I.cell, I.free, I.freeC, I.pin, I.hok, I.len⟩
theorem Inv.unwish (I : Inv (X.wish E) pins σ H s) : Inv X pins σ H s := ⟨I.ok.unwish, I.os, I.bare, I.base, I.loc, I.cell, I.free, I.freeC, I.pin, I.hok, I.len⟩
theorem SP.unwish {D : Ends} {f : Flow} {s' : Shared} (h : SP (X.wish E) pins D f s') : SP X pins D f s' := by
  cases f with
  | next => obtain ⟨σ', H', I, q⟩ := h; exact ⟨σ', H', I.unwish, q⟩
  | brk => obtain ⟨σ', H', I, q⟩ := h; exact ⟨σ', H', I.unwish, q⟩
  | cont => obtain ⟨σ', H', I, q⟩ := h; exact ⟨σ', H', I.unwish, q⟩
  | ret u => obtain ⟨v, σ', H', I, r, q⟩ := h; exact ⟨v, σ', H', I.unwish, r, q⟩
theorem PSs.nox {st : List Stmt} {t : TS} (h : PSs X.nox st t) : PSs X st t := fun pins s σ H D I hw =>
  wpAny_mono (h pins s σ H D (I.wish _) hw) (fun _ _ q => q.unwish) fun _ _ z => False.elim z
end

/-! ### blocks and small statements -/
section
variable {X : Cx} {st : Stmt} {rest : List Stmt} {t u : TS} {e : Expr} {te : TE} {pos : Pos}
def tNext : TS := fun D σ H => D.nx σ H
def tSeq (t u : TS) : TS := fun D σ H => t { D with nx := u D } σ H
theorem pss_nil : PSs X [] tNext := fun _ _ σ H _ I h => wpAny_execs_nil ⟨σ, H, I, h⟩
theorem pss_cons (h1 : PS X st t) (h2 : PSs X rest u) : PSs X (st :: rest) (tSeq t u) := by
  intro pins s σ H D I h
  refine wpAny_execs_cons (thn (h1 pins s σ H { D with nx := u D } I h) fun f s1 q => ?_)
  cases f with
  | next =>
    obtain ⟨σ', H', I', q⟩ := q
    exact h2 pins s1 σ' H' D I' q
  | ret v => exact q
  | brk => exact q
  | cont => exact q
theorem pss_one (h1 : PS X st t) : PSs X [st] t := by
  intro pins s σ H D I h
  refine wpAny_execs_cons (thn (h1 pins s σ H D I h) fun f s1 q => ?_)
  cases f with
  | next => exact wpAny_execs_nil q
  | ret v => exact q
  | brk => exact q
  | cont => exact q
def tBreak : TS := fun D σ H => D.bk σ H
def tCont : TS := fun D σ H => D.ct σ H
/-- in a def's body nothing is shown -/
theorem Inv.quiet {pins : List (Addr × Obj)} {σ : St} {H : Hp} {s : Shared} (I : Inv X pins σ H s) : interactive X.env = false := by simp [interactive, I.ok.kind]
/-- an expression whose value is dropped -/
def tDrop (te : TE) : TS := fun D σ H => te σ H fun _ H1 => D.nx σ H1
theorem ps_expr (he : PE X e te) (hs : swapsWith e none pos.line X.env = pure false := by rfl) : PS X (.Expr e pos) (tDrop te) := by
  intro pins s σ H D I h
  exact wpAny_Expr_any (thn (he pins s σ H _ I h) fun v s1 ⟨x, H1, I1, r1, q1⟩ => ⟨σ, H1, I1, q1⟩) I.quiet hs
def tRet (te : TE) : TS := fun D σ H => te σ H D.rt
theorem ps_ret (he : PE X e te) : PS X (.Return (some e) pos) (tRet te) := by
  intro pins s σ H D I h
  exact wpAny_Return_some (thn (he pins s σ H _ I h) fun v s1 ⟨x, H1, I1, r1, q1⟩ => ⟨x, σ, H1, I1, r1, q1⟩)
def tRetN : TS := fun D _ H => D.rt .non H
def tIfS (c : TT) (t u : TS) : TS := fun D σ H => c σ H fun b H1 => if b = true then t D σ H1 else u D σ H1
theorem ps_if {c : Expr} {a b : List Stmt} {tc : TT} (hc : PT X c tc) (ha : PSs X a t) (hb : PSs X b u) : PS X (.If c a b pos) (tIfS tc t u) := by
  intro pins s σ H D I h
  refine wpAny_If (thn (hc pins s σ H _ I h) fun d s1 ⟨H1, I1, q1⟩ => ?_)
  cases d with
  | true => exact ha pins s1 σ H1 D I1 q1
  | false => exact hb pins s1 σ H1 D I1 q1
/-- code that the proof never comes to -/
def tNever : TS := fun _ _ _ => False
end

/-! ### targets -/
abbrev TG := V → St → Hp → (St → Hp → Prop) → Prop
abbrev TGs := List V → St → Hp → (St → Hp → Prop) → Prop
def PG (X : Cx) (target : Expr) (t : TG) : Prop :=
  ∀ (pins : List (Addr × Obj)) (s : Shared) (σ : St) (H : Hp) (v : V) (u : Value) (Q : St → Hp → Prop), Inv X pins σ H s → RelV v u → t v σ H Q →
    wpAny (model X.prog X.w) X.A (assign target X.env u) (fun _ s' => ∃ σ' H', Inv X pins σ' H' s' ∧ Q σ' H') X.xe s
/-- several targets, one after another -/
def PGs (X : Cx) (ts : List Expr) (t : TGs) : Prop :=
  ∀ (pins : List (Addr × Obj)) (s : Shared) (σ : St) (H : Hp) (vs : List V) (us : List Value) (Q : St → Hp → Prop), Inv X pins σ H s → Vals vs us → t vs σ H Q →
    wpAny (model X.prog X.w) X.A (assignInOrder ((assignEach ts X.env).map (·.2)) us) (fun _ s' => ∃ σ' H', Inv X pins σ' H' s' ∧ Q σ' H') X.xe s
/-- o[i] = v, by values -/
abbrev TSet := V → V → V → Hp → (Hp → Prop) → Prop
def PSet (X : Cx) (t : TSet) : Prop :=
  ∀ (pins : List (Addr × Obj)) (s : Shared) (σ : St) (H : Hp) (o i v : V) (ov iv u : Value) (Q : Hp → Prop), Inv X pins σ H s → RelV o ov → RelV i iv → RelV v u → t o i v H Q →
    wpAny (model X.prog X.w) X.A (setItem ov iv u) (fun _ s' => ∃ H', Inv X pins σ H' s' ∧ Q H') X.xe s
/-- a op= b, by values -/
abbrev TIp := V → V → Hp → VK → Prop
def PIp (X : Cx) (op : Operator) (t : TIp) : Prop :=
  ∀ (pins : List (Addr × Obj)) (s : Shared) (σ : St) (H : Hp) (x y : V) (v u : Value) (Q : VK), Inv X pins σ H s → RelV x v → RelV y u → t x y H Q →
    wpAny (model X.prog X.w) X.A (inplaceOp op v u) (EP X pins σ Q) X.xe s
section
variable {X : Cx} {pos : Pos}
def gName (i : Nat) : TG := fun v σ H Q => Q (σ.set i (some v)) H
theorem pg_name {i : Nat} {x : Str} (hN : X.N.Nodup) (hi : X.N[i]? = some x) (hx : Loc X.env.scope x) (hf : X.fn x = true ∨ X.env.scope.names.lookup x = some .local := by first | exact .inl rfl | exact .inr rfl | assumption) : PG X (.Name x pos) (gName i) := by
  intro pins s σ H v u Q I r h
  exact wpAny_assign_Name (store_ok I hN hi hx r (fun s' I' => ⟨_, H, I', h⟩) hf)
def gNil : TGs := fun vs σ H Q => vs = [] ∧ Q σ H
def gCons (t : TG) (u : TGs) : TGs := fun vs σ H Q => ∃ v r, vs = v :: r ∧ t v σ H fun σ' H' => u r σ' H' Q
theorem pgs_nil : PGs X [] gNil := by
  intro pins s σ H vs us Q I r h
  obtain ⟨e, h⟩ := h
  subst e
  cases r
  exact assignInOrder_nil ⟨σ, H, I, h⟩
theorem pgs_cons {e : Expr} {es : List Expr} {t : TG} {u : TGs} (h1 : PG X e t) (h2 : PGs X es u)
    (hs : (assignEach (e :: es) X.env).map (·.2) = assign e X.env :: (assignEach es X.env).map (·.2) := by rfl) : PGs X (e :: es) (gCons t u) := by
  intro pins s σ H vs us Q I r h
  obtain ⟨v, vr, e1, h⟩ := h
  subst e1
  cases r with
  | cons r rr =>
    rw [hs]
    refine assignInOrder_cons (thn (h1 pins s σ H _ _ _ I r h) fun _ s1 ⟨σ1, H1, I1, q1⟩ => ?_)
    exact h2 pins s1 σ1 H1 _ _ Q I1 rr q1
/-- (a, b, ..) = a tuple of that length -/
def gTup (K : PySem.W.Frag) (n : Nat) (t : TGs) : TG := fun v σ H Q => ∃ a xs, v = .ref a ∧ SqT K H a xs ∧ xs.length = n ∧ t xs σ H Q
theorem pg_tup {es : List Expr} {k : Nat} {t : TGs} {n : Nat} (hc : X.calm = true) (h : PGs X es t)
    (hn : (assignEach es X.env).length = n := by rfl) (hst : (assignEach es X.env).findIdx? (·.1) = none := by rfl) : PG X (.Tuple es k pos) (gTup X.K n t) := by
  intro pins s σ H v u Q I r hw
  obtain ⟨a, xs, e1, hq, hl, hw⟩ := hw
  subst e1
  cases r
  obtain ⟨its, rv, ht, hz⟩ := I.tuple hq
  refine assign_Tuple_tuple (I.ok.hd hc) ht (by simp [hn, ← hl, rv.length]) hst fun h' hx => ?_
  have I1 : Inv X pins σ H { s with heap := h' } := I.kept (t' := s.toks) fun b o e => hx b o (Nat.ne_of_lt (Heap.lt_size e)) e
  exact h pins _ σ H xs _ Q I1 (by simpa using rv) hw
/-- o[i] = .. -/
def gSub (to ti : TE) (t : TSet) : TG := fun v σ H Q => to σ H fun o H1 => ti σ H1 fun i H2 => t o i v H2 fun H3 => Q σ H3
theorem pg_sub {o i : Expr} {to ti : TE} {t : TSet} (ho : PE X o to) (hi : PE X i ti) (hs : PSet X t)
    (ha : ∀ v, assign (.Subscript o i pos) X.env v = (do
      let ov ← holding [v] (eval o X.env)
      let iv ← holding [v, ov] (eval i X.env)
      standAt pos
      holding [v, ov, iv] (setItem ov iv v)
      release [v, ov, iv] []) := by intro _; rfl) : PG X (.Subscript o i pos) (gSub to ti t) := by
  intro pins s σ H v u Q I r h
  rw [ha]
  refine wpAny_bind (wpAny_holding (thn (ho pins s σ H _ I h) fun ov s1 ⟨x, H1, I1, r1, q1⟩ => ?_))
  refine wpAny_bind (wpAny_holding (thn (hi pins s1 σ H1 _ I1 q1) fun iv s2 ⟨y, H2, I2, r2, q2⟩ => ?_))
  refine wpAny_bind (wpAny_standAt (wpAny_bind (wpAny_holding (thn (hs pins s2 σ H2 x y v ov iv u _ I2 r1 r2 r q2) fun _ s3 ⟨H3, I3, q3⟩ => ?_))))
  exact wpAny_release ⟨σ, H3, I3, q3⟩
/-- target = value -/
def tAsg (te : TE) (g : TG) : TS := fun D σ H => te σ H fun x H1 => g x σ H1 D.nx
theorem ps_asg {tg e : Expr} {te : TE} {g : TG} (he : PE X e te) (hg : PG X tg g) (hs : swapsWithSole [tg] e pos.line X.env = pure false := by rfl) (hw : swappedStores [tg] e X.env = pure none := by rfl)
    (h1 : (assignEach [tg] X.env).map (·.2) = [assign tg X.env] := by rfl) : PS X (.Assign [tg] e pos) (tAsg te g) := by
  intro pins s σ H D I h
  refine wpAny_Assign_stores (thn (he pins s σ H _ I h) fun v s1 ⟨x, H1, I1, r1, q1⟩ => ?_) hs hw
  rw [h1]
  exact thn (hg pins s1 σ H1 x v _ I1 r1 q1) fun _ s2 q => q
/-- name = value -/
theorem ps_set {i : Nat} {x : Str} {e : Expr} {te : TE} {pos' : Pos} (hN : X.N.Nodup) (hi : X.N[i]? = some x) (hx : Loc X.env.scope x) (he : PE X e te) (hs : swapsWith e (some (.Name x pos')) pos.line X.env = pure false := by rfl) (hf : X.fn x = true ∨ X.env.scope.names.lookup x = some .local := by first | exact .inl rfl | exact .inr rfl | assumption) :
    PS X (.Assign [.Name x pos'] e pos) (tAsg te (gName i)) := by
  intro pins s σ H D I h
  refine wpAny_Assign_Name (thn (he pins s σ H _ I h) fun v s1 ⟨y, H1, I1, r1, q1⟩ => ?_) hs
  exact store_ok I1 hN hi hx r1 (fun s2 I2 => ⟨_, H1, I2, q1⟩) hf
/-- a, b = x, y with plain local names: stored from the right; the pair itself is not tracked (the opening rows as in PyProof/Rows/TupAssign.lean:23) -/
def tPar (i j : Nat) (ta : TA) : TS := fun D σ H => ta σ H fun vs H1 => ∃ v w, vs = [v, w] ∧ D.nx ((σ.set i (some v)).set j (some w)) H1
/-- name op= e -/
def tAug (i : Nat) (te : TE) (ti : TIp) : TS := fun D σ H => ∃ x, σ[i]? = some (some x) ∧ te σ H fun y H1 => ti x y H1 fun z H2 => D.nx (σ.set i (some z)) H2
/-- o[i] op= e -/
def tAugS (to ti te : TE) (tget : V → V → Hp → VK → Prop) (tip : TIp) (tset : TSet) : TS := fun D σ H => to σ H fun o H1 => ti σ H1 fun i H2 => tget o i H2 fun x H3 => te σ H3 fun y H4 => tip x y H4 fun z H5 => tset o i z H5 fun H6 => D.nx σ H6
/-- o[i], by values -/
def PGet (X : Cx) (t : V → V → Hp → VK → Prop) : Prop :=
  ∀ (pins : List (Addr × Obj)) (s : Shared) (σ : St) (H : Hp) (o i : V) (ov iv : Value) (Q : VK), Inv X pins σ H s → RelV o ov → RelV i iv → t o i H Q →
    wpAny (model X.prog X.w) X.A (getItem ov iv) (EP X pins σ Q) X.xe s
/-- ints -/
def ipI (f : Int → Int → Int) : TIp := fun x y H Q => ∃ i j, x = .int i ∧ y = .int j ∧ Q (.int (f i j)) H
end

/-! ### while -/
section
variable {X : Cx} {pos : Pos}
/-- the invariant W with its measure -/
def tWhile (c : TT) (tb : TS) : TS := fun D σ H => ∃ W : Nat → St → Hp → Prop, (∃ m, W m σ H) ∧ ∀ m σ H, W m σ H →
  c σ H fun b H1 => if b = true then ∃ N : St → Hp → Prop, (∀ σ' H', N σ' H' → ∃ m', m' < m ∧ W m' σ' H') ∧ tb { D with nx := N, ct := N, bk := D.nx } σ H1 else D.nx σ H1
end

/-! ### what a loop or a comprehension walks -/
/-- at turn i: it yields x (the heap may grow), or it stops -/
structure It where
  go : Nat → Hp → Prop
  yld : Nat → Hp → V → Hp → Prop
  stop : Nat → Hp → Prop
/-- the iterator's own objects may turn: they are not the frame's, not pinned, younger than the entry (or a comprehension's own) -/
def FpOk (X : Cx) (pins : List (Addr × Obj)) (H : Hp) (b : Addr) : Prop :=
  H b = none ∧ b ≠ X.env.locals ∧ b ∉ X.fs ∧ (b ∈ X.ex ∨ X.s₀.heap.objs.size ≤ b) ∧ (∀ x c, X.env.cells.lookup x = some c → c ≠ b) ∧ ∀ p ∈ X.pn ++ pins, p.1 ≠ b
theorem Inv.fpOk {X : Cx} {pins : List (Addr × Obj)} {σ : St} {H H' : Hp} {s : Shared} {b : Addr} (I : Inv X pins σ H s) (hb : s.heap.objs.size ≤ b) (hn : H' b = none) : FpOk X pins H' b := by
  refine ⟨hn, Nat.ne_of_gt (Nat.lt_of_lt_of_le I.lt hb), I.nofs hb, .inr (Nat.le_trans I.sz hb), fun x c e z => ?_, fun p hp z => ?_⟩
  · obtain ⟨v, q⟩ := I.cell x c e
    exact absurd (Nat.lt_of_lt_of_le q.lt (by rw [z]; exact hb)) (Nat.lt_irrefl _)
  · exact absurd (Nat.lt_of_lt_of_le (Heap.lt_size (I.pin p hp).1) (by rw [z]; exact hb)) (Nat.lt_irrefl _)
structure Turn (P : Program) (w : World) (K : PySem.W.Frag) (tg : Expr) (J : It) (fp : List Addr) (it : Addr) (tn : Nat → Heap → Prop) : Prop where
  mem : it ∈ fp
  obj : ∀ i h, tn i h → ∀ b ∈ fp, ∃ o, h.get? b = some o ∧ ∀ v, o.data ≠ .cell v
  keep : ∀ i h h', tn i h → (∀ b ∈ fp, ∀ o, h.get? b = some o → h'.get? b = some o) → tn i h'
  item : ∀ (X : Cx), X.prog = P → X.w = w → X.K = K → X.calm = true → ∀ (i : Nat) (pins : List (Addr × Obj)) (s : Shared) (σ : St) (H : Hp) (E : Value → Shared → Prop), Inv X pins σ H s → (∀ b ∈ fp, FpOk X pins H b) → tn i s.heap → J.go i H →
    wpAny (model P w) X.A (pyNext (.ref it)) (fun r s1 => ∃ u, r = some u ∧
      wpAny (model P w) X.A (letOwnedTupleGo tg (.ref it) u) (fun _ s2 => ∃ x H', Inv X pins σ H' s2 ∧ RelV x u ∧ J.yld i H x H' ∧ tn (i + 1) s2.heap ∧ ∀ b ∈ fp, H' b = none) E s1) E s
  done : ∀ (X : Cx), X.prog = P → X.w = w → X.K = K → X.calm = true → ∀ (i : Nat) (pins : List (Addr × Obj)) (s : Shared) (σ : St) (H : Hp) (E : Value → Shared → Prop), Inv X pins σ H s → (∀ b ∈ fp, FpOk X pins H b) → tn i s.heap → J.stop i H →
    wpAny (model P w) X.A (pyNext (.ref it)) (fun r s1 => r = none ∧ Inv X pins σ H s1) E s
  self : ∀ (A : Around) (i : Nat) (s : Shared) (Q : Value → Shared → Prop) (E : Value → Shared → Prop), tn i s.heap → Q (.ref it) s → wpAny (model P w) A (pyIter (.ref it)) Q E s
abbrev TI := St → Hp → (It → Hp → Prop) → Prop
/-- an iterator has come -/
def PIE (X : Cx) (pins : List (Addr × Obj)) (σ : St) (tg : Expr) (R : It → Hp → Prop) (itv : Value) (s2 : Shared) : Prop :=
  ∃ (it : Addr) (fp : List Addr) (tn : Nat → Heap → Prop) (J : It) (H' : Hp), itv = .ref it ∧ Inv X pins σ H' s2 ∧ Turn X.prog X.w X.K tg J fp it tn ∧ tn 0 s2.heap ∧ (∀ b ∈ fp, FpOk X pins H' b) ∧ R J H'
def PI (X : Cx) (tg iter : Expr) (wi : TI) : Prop :=
  ∀ (pins : List (Addr × Obj)) (s : Shared) (σ : St) (H : Hp) (R : It → Hp → Prop), Inv X pins σ H s → wi σ H R →
    wpAny (model X.prog X.w) X.A (eval iter X.env) (fun v s1 => wpAny (model X.prog X.w) X.A (pyIter v) (PIE X pins σ tg R) X.xe s1) X.xe s

/-- the step ahead of the store is nothing for an iterator that keeps no tuple -/
theorem go_of {M : Model} {A : Around} {E : Value → Shared → Prop} {s : Shared} {tg : Expr} {it : Addr} {u : Value} {o : Obj} {n : String} {vs : Array Value} {Q : Unit → Shared → Prop} (ho : s.heap.get? it = some o) (hc : o.cls = .type n) (hd : o.data = .fields vs)
    (hn : ["enumerate", "zip", "dict_itemiterator", "dict_reverseitemiterator", "odict_iterator", "itertools.zip_longest", "itertools.pairwise"].contains n = false) (hQ : Q () s) : wpAny M A (letOwnedTupleGo tg (.ref it) u) Q E s := by
  unfold letOwnedTupleGo
  cases tg <;> first
    | exact wpAny_pure hQ
    | (cases u <;> first
        | exact wpAny_pure hQ
        | (refine wpAny_bind (wpAny_load ho ?_)
           rw [hc, hd]
           show wpAny M A (if (["enumerate", "zip", "dict_itemiterator", "dict_reverseitemiterator", "odict_iterator", "itertools.zip_longest", "itertools.pairwise"].contains n && vs[0]? == some (rawInt _)) = true then _ else _) Q E s
           rw [if_neg (by intro h; rw [hn, Bool.false_and] at h; cases h)]
           exact wpAny_pure hQ))

/-- the list at a, as it stands at each turn (a loop may append to it) -/
def Itl (K : PySem.W.Frag) (a : Addr) : It :=
  ⟨fun i H => ∃ xs x, SqL K H a xs ∧ xs[i]? = some x, fun i H x H' => H' = H ∧ ∀ xs, SqL K H a xs → xs[i]? = some x, fun i H => ∃ xs, SqL K H a xs ∧ xs.length ≤ i⟩
def Itt (K : PySem.W.Frag) (a : Addr) : It :=
  ⟨fun i H => ∃ xs x, SqT K H a xs ∧ xs[i]? = some x, fun i H x H' => H' = H ∧ ∀ xs, SqT K H a xs → xs[i]? = some x, fun i H => ∃ xs, SqT K H a xs ∧ xs.length ≤ i⟩
/-- lo, lo + 1, .. (n of them) -/
def Itr (lo : Int) (n : Nat) : It := ⟨fun i _ => i < n, fun i H x H' => H' = H ∧ x = .int (lo + i), fun i _ => n ≤ i⟩
theorem turn_list {P : Program} {w : World} {K : PySem.W.Frag} {tg : Expr} (a it : Addr) : Turn P w K tg (Itl K a) [it] it (fun i h => h.IsListIter it a i) where
  mem := by simp
  obj := fun i h st b hb => by
    have e : b = it := by simpa using hb
    subst e
    obtain ⟨o, e, c, d⟩ := st
    exact ⟨o, e, fun v z => by rw [d] at z; cases z⟩
  keep := fun i h h' st k => st.at fun o e => k it (by simp) o e
  item := by
    intro X hP hw hK hc i pins s σ H E I hf st hg
    subst hP hw hK
    obtain ⟨xs, x, hq, hx⟩ := hg
    obtain ⟨its, rv, p, hz⟩ := I.list hq
    obtain ⟨u, hu, ru⟩ := rv.get hx
    obtain ⟨f0, f1, f2, f3, f4, f5⟩ := hf it (by simp)
    refine wpAny_pyNext_list_item st p.isList (x := u) (by simpa using hu) fun h' st' sb => ?_
    have I1 : Inv X pins σ H { s with heap := h' } := I.turned (t' := s.toks) (fun b o hb e => (sb.2 b hb).trans e) f0 f1 f3 f4 f5
    obtain ⟨o, e, c, d⟩ := id st'
    exact ⟨u, rfl, go_of (s := { s with heap := h' }) e c d (by decide) ⟨x, H, I1, ru, ⟨rfl, fun ys hy => by rw [I.list_inj hy hq]; exact hx⟩, st', fun b hb => (hf b hb).1⟩⟩
  done := by
    intro X hP hw hK hc i pins s σ H E I hf st hg
    subst hP hw hK
    obtain ⟨xs, hq, hx⟩ := hg
    obtain ⟨its, rv, p, hz⟩ := I.list hq
    obtain ⟨f0, f1, f2, f3, f4, f5⟩ := hf it (by simp)
    have hl := rv.length
    exact wpAny_pyNext_list_end (I.ok.hd hc) st p.isList (by simp; omega) fun h' eb => ⟨rfl, I.turned (t' := s.toks) (fun b o hb e => eb b o hb e) f0 f1 f3 f4 f5⟩
  self := fun _ _ _ _ _ st h => wpAny_pyIter_listiter st h
theorem turn_range {P : Program} {w : World} {K : PySem.W.Frag} {tg : Expr} (it : Addr) (lo : Int) (n : Nat) : Turn P w K tg (Itr lo n) [it] it (fun i h => IsRangeIter h it (lo + (i : Nat) * 1) ((n : Int) - (i : Nat)) 1) where
  mem := by simp
  obj := fun i h st b hb => by
    have e : b = it := by simpa using hb
    subst e
    exact ⟨_, st, fun v z => by
      have z' : Data.fields _ = Data.cell v := z
      cases z'⟩
  keep := fun i h h' st k => k it (by simp) _ st
  item := by
    intro X hP hw hK hc i pins s σ H E I hf st hg
    subst hP hw hK
    obtain ⟨f0, f1, f2, f3, f4, f5⟩ := hf it (by simp)
    have W := Walks.range (prog := X.prog) (w := X.w) (I.ok.hd hc) it lo 1 n
    refine W.item i s _ _ hg st fun v h' tk hv st' kk => ?_
    obtain ⟨t, rfl⟩ := hv
    have I1 : Inv X pins σ H { s with heap := h', toks := tk } := I.turned (fun b o hb e => kk b o (by simpa using hb) e) f0 f1 f3 f4 f5
    refine ⟨_, rfl, go_of (s := { s with heap := h', toks := tk }) (n := "range_iterator") st' rfl rfl (by decide) ⟨.int (lo + i), H, I1, ⟨t, ?_⟩, ⟨rfl, rfl⟩, st', fun b hb => (hf b hb).1⟩⟩
    rw [Int.mul_one]
  done := by
    intro X hP hw hK hc i pins s σ H E I hf st hg
    subst hP hw hK
    obtain ⟨f0, f1, f2, f3, f4, f5⟩ := hf it (by simp)
    exact wpAny_pyNext_range_end (I.ok.hd hc) st (by have : n ≤ i := hg; omega) fun h' eb => ⟨rfl, I.turned (t' := s.toks) (fun b o hb e => eb b o hb e) f0 f1 f3 f4 f5⟩
  self := fun _ _ _ _ _ st h => wpAny_pyIter_rangeiter st h
end L2

namespace L2
open PySem PySem.Spec PyProof.Rows
section
variable {X : Cx} {tg : Expr}
def iList (K : PySem.W.Frag) (tl : TE) : TI := fun σ H R => tl σ H fun x H1 => ∃ a, x = .ref a ∧ (∃ xs, SqL K H1 a xs) ∧ R (Itl K a) H1
def iTup (K : PySem.W.Frag) (tl : TE) : TI := fun σ H R => tl σ H fun x H1 => ∃ a, x = .ref a ∧ (∃ xs, SqT K H1 a xs) ∧ R (Itt K a) H1
theorem pi_list {l : Expr} {tl : TE} (hl : PE X l tl) : PI X tg l (iList X.K tl) := by
  intro pins s σ H R I h
  refine thn (hl pins s σ H _ I h) fun v s1 ⟨x, H1, I1, r1, q1⟩ => ?_
  obtain ⟨a, e, ⟨xs, hq⟩, q⟩ := q1
  subst e
  cases r1
  obtain ⟨its, rv, p, hz⟩ := I1.list hq
  refine wpAny_pyIter_list p.isList ?_
  refine ⟨s1.heap.objs.size, [s1.heap.objs.size], _, _, H1, rfl, I1.kept (t' := s1.toks) fun b o e => Heap.get?_push_of_some _ e, turn_list a _, ⟨_, Heap.get?_push_size _ rfl, rfl, rfl⟩, fun b hb => ?_, q⟩
  have e : b = s1.heap.objs.size := by simpa using hb
  subst e
  exact I1.fpOk (Nat.le_refl _) (I1.hok.fresh (Nat.le_refl _))
/-- a range object just made, walked -/
theorem range_it {pins : List (Addr × Obj)} {σ : St} {H : Hp} {s : Shared} {R : It → Hp → Prop} {E : Value → Shared → Prop} {lo hi : Int} {t u v : Tok} {tk : Nat} (I : Inv X pins σ H s) (h1 : -(2 ^ 62) ≤ lo) (h2 : lo < 2 ^ 62) (h3 : -(2 ^ 62) ≤ hi) (h4 : hi < 2 ^ 62)
    (q : R (Itr lo (hi - lo).toNat) H) : wpAny (model X.prog X.w) X.A (pyIter (.ref s.heap.objs.size)) (PIE X pins σ tg R) E { s with heap := s.heap.push { cls := .type "range", data := .fields #[.int lo t, .int hi u, .int 1 v] }, toks := tk } := by
  refine wpAny_pyIter_range (IsRange.new ..) (small_one h1 h2 h3 h4) ?_
  have I1 : Inv X pins σ H { s with heap := s.heap.push { cls := .type "range", data := .fields #[.int lo t, .int hi u, .int 1 v] }, toks := tk } := I.kept fun b o e => Heap.get?_push_of_some _ e
  refine ⟨(s.heap.push { cls := .type "range", data := .fields #[.int lo t, .int hi u, .int 1 v] }).objs.size, [(s.heap.push { cls := .type "range", data := .fields #[.int lo t, .int hi u, .int 1 v] }).objs.size], _, _, H, rfl,
    I1.kept (t' := tk) fun b o e => Heap.get?_push_of_some _ e, turn_range _ lo (hi - lo).toNat, ?_, fun b hb => ?_, q⟩
  · have e1 : lo + ((0 : Nat) : Int) * 1 = lo := by simp
    have e2 : (((hi - lo).toNat : Nat) : Int) - ((0 : Nat) : Int) = Builtin.Range.rangeSize lo hi 1 := by rw [rangeSize_one]; split <;> omega
    show IsRangeIter _ _ (lo + ((0 : Nat) : Int) * 1) ((((hi - lo).toNat : Nat) : Int) - ((0 : Nat) : Int)) 1
    rw [e1, e2]
    exact Heap.get?_push_size _ rfl
  · have e : b = (s.heap.push { cls := .type "range", data := .fields #[.int lo t, .int hi u, .int 1 v] }).objs.size := by simpa using hb
    subst e
    exact I1.fpOk (Nat.le_refl _) (I1.hok.fresh (Nat.le_refl _))
def iRng1 (ta : TA) : TI := fun σ H R => ta σ H fun vs H1 => ∃ j : Int, vs = [.int j] ∧ -(2 ^ 62) ≤ j ∧ j < 2 ^ 62 ∧ R (Itr 0 j.toNat) H1
def iRng2 (ta : TA) : TI := fun σ H R => ta σ H fun vs H1 => ∃ i j : Int, vs = [.int i, .int j] ∧ (-(2 ^ 62) ≤ i ∧ i < 2 ^ 62 ∧ -(2 ^ 62) ≤ j ∧ j < 2 ^ 62) ∧ R (Itr i (j - i).toNat) H1
theorem pi_range1 {a : Expr} {ta : TA} {p pos : Pos} (hg : Gl X "range") (hm : X.mg "range" = none) (ha : PA X [a] ta) (hs : starEach [a] X.env = [(false, eval a X.env)] := by rfl) : PI X tg (.Call (.Name "range" p) [a] [] pos) (iRng1 ta) := by
  intro pins s σ H R I h
  refine Call_ (ld_blt I hg hm boot_range (PyProof.Rows.callWith_type1 (thn (ha pos pins s σ H _ I h) fun us s1 ⟨vs, H1, I1, r1, q1⟩ => ?_) hs rfl))
  obtain ⟨j, e, q1, q2, q⟩ := q1
  subst e
  cases r1 with
  | cons r rr =>
    cases rr
    obtain ⟨t, rfl⟩ := r
    exact call_range_1 (range_it I1 (by omega) (by omega) q1 q2 (by simpa using q))
/-! ### for -/
/-- W: the invariant by the turn and a measure; N: what the body is to reach -/
def tFor (wi : TI) (g : TG) (tb : TS) : TS := fun D σ H => wi σ H fun J H1 => ∃ W : Nat → Nat → St → Hp → Prop, (∃ m, W 0 m σ H1) ∧ ∀ i m σ H, W i m σ H →
  (J.stop i H ∧ D.nx σ H) ∨ (J.go i H ∧ ∃ N : St → Hp → Prop, (∀ σ' H', N σ' H' → ∃ m', m' < m ∧ W (i + 1) m' σ' H') ∧ ∀ x H', J.yld i H x H' → g x σ H' fun σ2 H2 => tb { D with nx := N, ct := N, bk := D.nx } σ2 H2)
/-- the records at fp as they stand -/
def pinsAt (fp : List Addr) (h : Heap) : List (Addr × Obj) := fp.filterMap fun b => (h.get? b).map fun o => (b, o)
theorem mem_pinsAt {fp : List Addr} {h : Heap} {b : Addr} {o : Obj} (hb : b ∈ fp) (e : h.get? b = some o) : (b, o) ∈ pinsAt fp h := List.mem_filterMap.mpr ⟨b, hb, by rw [e]; rfl⟩
theorem of_pinsAt {fp : List Addr} {h : Heap} {p : Addr × Obj} (hp : p ∈ pinsAt fp h) : p.1 ∈ fp ∧ h.get? p.1 = some p.2 := by
  obtain ⟨b, hb, e⟩ := List.mem_filterMap.mp hp
  cases q : h.get? b with
  | none => rw [q] at e; cases e
  | some o =>
    rw [q] at e
    have e' : (b, o) = p := Option.some.inj e
    subst e'
    exact ⟨hb, q⟩
theorem Inv.pinned {pins : List (Addr × Obj)} {σ : St} {H : Hp} {s : Shared} {fp : List Addr} (I : Inv X pins σ H s) (hf : ∀ b ∈ fp, FpOk X pins H b) (ho : ∀ b ∈ fp, ∃ o, s.heap.get? b = some o ∧ ∀ v, o.data ≠ .cell v) : Inv X (pins ++ pinsAt fp s.heap) σ H s :=
  I.pins_of fun p hp => (List.mem_append.mp hp).elim (fun z => I.pin p (List.mem_append_right _ z)) fun z => by
    obtain ⟨hb, e⟩ := of_pinsAt z
    obtain ⟨f0, f1, f2, _⟩ := hf p.1 hb
    obtain ⟨o, e', d⟩ := ho p.1 hb
    rw [e] at e'; cases e'
    exact ⟨e, f0, f1, f2, d⟩
theorem Inv.unpinned {pins pl : List (Addr × Obj)} {σ : St} {H : Hp} {s : Shared} (I : Inv X (pins ++ pl) σ H s) : Inv X pins σ H s := I.pins_of fun p hp => I.pin p (List.mem_append_right _ (List.mem_append_left _ hp))
theorem ps_for {iter : Expr} {body : List Stmt} {wi : TI} {g : TG} {tb : TS} {pos : Pos} (hp : PassesOwn (model X.prog X.w) X.A X.env X.xe) (hc : X.calm = true) (hi : PI X tg iter wi) (hg : PG X tg g) (hb : PSs X body tb)
    (hs : ∀ x, foldedSetIterable iter X.env x = pure x := by intro _; rfl) : PS X (.For tg iter body [] pos) (tFor wi g tb) := by
  intro pins s σ H D I h
  refine wpAny_For (thn (hi pins s σ H _ I h) fun v s1 h1 => thn h1 fun itv s2 h2 => ?_) hs
  obtain ⟨it, fp, tn, J, H2, e, I2, T, st2, f2, W, ⟨m0, w0⟩, turn⟩ := h2
  subst e
  -- what stays true of the iterator's objects through the loop
  have stat : ∀ {H' : Hp}, (∀ b ∈ fp, H' b = none) → ∀ b ∈ fp, FpOk X pins H' b := fun hn b hb => ⟨hn b hb, (f2 b hb).2⟩
  refine codeAny_forLoop_any (fun n s' => ∃ i σ' H', Inv X pins σ' H' s' ∧ tn i s'.heap ∧ (∀ b ∈ fp, H' b = none) ∧ W i n σ' H') ?_ m0 ⟨0, σ, H2, I2, st2, fun b hb => (f2 b hb).1, w0⟩
  rintro n s3 ⟨i, σ3, H3, I3, st3, fr3, w3⟩
  rcases turn i n σ3 H3 w3 with ⟨stop, qn⟩ | ⟨go, N, hN, step⟩
  · refine wpAny_passesOwn hp (thn (T.done X rfl rfl rfl hc i pins s3 σ3 H3 X.xe I3 (stat fr3) st3 stop) fun r s4 ⟨hr, I4⟩ => ?_)
    subst hr
    exact wpAny_execs_nil ⟨σ3, H3, I4, qn⟩
  · refine wpAny_passesOwn hp (thn (T.item X rfl rfl rfl hc i pins s3 σ3 H3 X.xe I3 (stat fr3) st3 go) fun r s4 ⟨u, hr, h4⟩ => ?_)
    subst hr
    refine wpAny_passesOwn hp (thn h4 fun _ s5 ⟨x, H5, I5, r5, y5, st5, fr5⟩ => ?_)
    have I5' := I5.pinned (stat fr5) (T.obj _ _ st5)
    refine wpAny_passesOwn hp (thn (hg _ s5 σ3 H5 x u _ I5' r5 (step x H5 y5)) fun _ s6 ⟨σ6, H6, I6, q6⟩ => ?_)
    refine wpAny_passesOwn hp (thn (hb _ s6 σ6 H6 _ I6 q6) fun f s7 q7 => ?_)
    have again : ∀ {σ7 : St} {H7 : Hp}, Inv X (pins ++ pinsAt fp s5.heap) σ7 H7 s7 → N σ7 H7 → ∃ m, m < n ∧ ∃ i σ' H', Inv X pins σ' H' s7 ∧ tn i s7.heap ∧ (∀ b ∈ fp, H' b = none) ∧ W i m σ' H' := fun {σ7 H7} I7 n7 => by
      obtain ⟨m', hm, w7⟩ := hN σ7 H7 n7
      refine ⟨m', hm, i + 1, σ7, H7, I7.unpinned, T.keep _ _ _ st5 fun b hb o e => (I7.pin (b, o) (List.mem_append_right _ (List.mem_append_right _ (mem_pinsAt hb e)))).1, fun b hb => ?_, w7⟩
      obtain ⟨o, e, d⟩ := T.obj _ _ st5 b hb
      exact (I7.pin (b, o) (List.mem_append_right _ (List.mem_append_right _ (mem_pinsAt hb e)))).2.1
    cases f with
    | next => obtain ⟨σ7, H7, I7, n7⟩ := q7; exact again I7 n7
    | cont => obtain ⟨σ7, H7, I7, n7⟩ := q7; exact again I7 n7
    | brk => obtain ⟨σ7, H7, I7, q7⟩ := q7; exact ⟨σ7, H7, I7.unpinned, q7⟩
    | ret v => obtain ⟨x7, σ7, H7, I7, r7, q7⟩ := q7; exact ⟨x7, σ7, H7, I7.unpinned, r7, q7⟩
end

/-! ### the forms one uses -/
/-- over a list that the body leaves as it is -/
theorem for_list {K : PySem.W.Frag} {a : Addr} {xs : List V} {g : TG} {tb : TS} {D : Ends} {σ : St} {H : Hp} (Pv : Nat → St → Hp → Prop) (h0 : Pv 0 σ H) (hl : ∀ i σ H, i ≤ xs.length → Pv i σ H → SqL K H a xs)
    (hs : ∀ i x σ H, xs[i]? = some x → Pv i σ H → g x σ H fun σ2 H2 => tb { D with nx := Pv (i + 1), ct := Pv (i + 1), bk := D.nx } σ2 H2) (hd : ∀ σ H, Pv xs.length σ H → D.nx σ H) :
    ∃ W : Nat → Nat → St → Hp → Prop, (∃ m, W 0 m σ H) ∧ ∀ i m σ H, W i m σ H →
      ((Itl K a).stop i H ∧ D.nx σ H) ∨ ((Itl K a).go i H ∧ ∃ N : St → Hp → Prop, (∀ σ' H', N σ' H' → ∃ m', m' < m ∧ W (i + 1) m' σ' H') ∧ ∀ x H', (Itl K a).yld i H x H' → g x σ H' fun σ2 H2 => tb { D with nx := N, ct := N, bk := D.nx } σ2 H2) := by
  refine ⟨fun i m σ H => m = xs.length - i ∧ i ≤ xs.length ∧ Pv i σ H, ⟨xs.length, by simp, Nat.zero_le _, h0⟩, ?_⟩
  rintro i m σ H ⟨rfl, hi, p⟩
  have q := hl i σ H hi p
  by_cases hlt : i < xs.length
  · refine .inr ⟨⟨xs, xs[i], q, by simp [hlt]⟩, Pv (i + 1), fun σ' H' p' => ⟨xs.length - (i + 1), by omega, rfl, hlt, p'⟩, fun x H' y => ?_⟩
    obtain ⟨e, y⟩ := y
    subst e
    exact hs i x σ _ (y xs q) p
  · have e : i = xs.length := by omega
    subst e
    exact .inl ⟨⟨xs, q, Nat.le_refl _⟩, hd σ H p⟩
end L2

namespace L2
open PySem PySem.Spec PyProof.Rows

abbrev R2 := V → V → Hp → VK → Prop
/-- a two-place operation on values: f is binaryOp op, inplaceOp op or compareOp op -/
def OpR (X : Cx) (f : Value → Value → Sem Value) (r : R2) : Prop :=
  ∀ (pins : List (Addr × Obj)) (s : Shared) (σ : St) (H : Hp) (x y : V) (v u : Value) (Q : VK), Inv X pins σ H s → RelV x v → RelV y u → r x y H Q →
    wpAny (model X.prog X.w) X.A (f v u) (EP X pins σ Q) X.xe s
/-- a one-place operation -/
def UnR (X : Cx) (f : Value → Sem Value) (r : V → Hp → VK → Prop) : Prop :=
  ∀ (pins : List (Addr × Obj)) (s : Shared) (σ : St) (H : Hp) (x : V) (v : Value) (Q : VK), Inv X pins σ H s → RelV x v → r x H Q →
    wpAny (model X.prog X.w) X.A (f v) (EP X pins σ Q) X.xe s
/-- a call of a value that is known (a builtin, a type) with values -/
def CallR (X : Cx) (f : Value) (r : List V → Hp → VK → Prop) : Prop :=
  ∀ (pins : List (Addr × Obj)) (s : Shared) (σ : St) (H : Hp) (xs : List V) (us : List Value) (Q : VK), Inv X pins σ H s → Vals xs us → r xs H Q →
    wpAny (model X.prog X.w) X.A (call f us) (EP X pins σ Q) X.xe s
/-- a value's truth -/
def TruR (X : Cx) (r : V → Hp → (Bool → Hp → Prop) → Prop) : Prop :=
  ∀ (pins : List (Addr × Obj)) (s : Shared) (σ : St) (H : Hp) (x : V) (v : Value) (Q : Bool → Hp → Prop), Inv X pins σ H s → RelV x v → r x H Q →
    wpAny (model X.prog X.w) X.A (truthy v) (TP X pins σ Q) X.xe s

def tOp (r : R2) (ta tb : TE) : TE := fun σ H Q => ta σ H fun x H1 => tb σ H1 fun y H2 => r x y H2 Q
def tUn (r : V → Hp → VK → Prop) (ta : TE) : TE := fun σ H Q => ta σ H fun x H1 => r x H1 Q
/-- ints in, under C, and a value out -/
def rI (C : Int → Int → Prop) (g : Int → Int → V) : R2 := fun x y H Q => ∃ i j, x = .int i ∧ y = .int j ∧ C i j ∧ Q (g i j) H
def rI0 (g : Int → Int → V) : R2 := fun x y H Q => ∃ i j, x = .int i ∧ y = .int j ∧ Q (g i j) H
def rU (g : Int → V) : V → Hp → VK → Prop := fun x H Q => ∃ i, x = .int i ∧ Q (g i) H

section
variable {X : Cx} {a b c : Expr} {ta tb tc : TE} {pos : Pos}

theorem binT (ha : PE X a ta) (hb : PE X b tb) {pins : List (Addr × Obj)} {s : Shared} {σ : St} {H : Hp} {R : V → V → Hp → Prop} (I : Inv X pins σ H s)
    (h : ta σ H fun x H1 => tb σ H1 fun y H2 => R x y H2) {Q : Value → Shared → Prop} {f : Value → Value → Sem Value}
    (hf : ∀ v u s2 x y H2, Inv X pins σ H2 s2 → RelV x v → RelV y u → R x y H2 → wpAny (model X.prog X.w) X.A (f v u) Q X.xe s2) :
    wpAny (model X.prog X.w) X.A (eval a X.env) (fun v s₁ => wpAny (model X.prog X.w) X.A (eval b X.env) (fun u s₂ => wpAny (model X.prog X.w) X.A (f v u) Q X.xe s₂) X.xe s₁) X.xe s := by
  refine thn (ha pins s σ H _ I h) fun v s1 ⟨x, H1, I1, r1, q1⟩ => ?_
  refine thn (hb pins s1 σ H1 _ I1 q1) fun u s2 ⟨y, H2, I2, r2, q2⟩ => ?_
  exact hf v u s2 x y H2 I2 r1 r2 q2

theorem pe_op {op : Operator} {r : R2} (ho : OpR X (binaryOp op) r) (ha : PE X a ta) (hb : PE X b tb) : PE X (.BinOp a op b pos) (tOp r ta tb) := by
  intro pins s σ H Q I h
  exact wpAny_BinOp (binT ha hb I h fun v u s2 x y H2 I2 rx ry q => ho pins s2 σ H2 x y v u Q I2 rx ry q)
theorem pe_un {op : UnaryOp} {r : V → Hp → VK → Prop} (ho : UnR X (unaryOp op) r) (ha : PE X a ta) : PE X (.UnaryOp op a pos) (tUn r ta) := by
  intro pins s σ H Q I h
  exact UnaryOp_ (thn (ha pins s σ H _ I h) fun v s1 ⟨x, H1, I1, r1, q1⟩ => ho pins s1 σ H1 x v Q I1 r1 q1)
/-! ### ints -/
theorem opI {f : Value → Value → Sem Value} {C : Int → Int → Prop} {g : Int → Int → Int}
    (rule : ∀ (i j : Int) (t u : Tok) (s : Shared) (Q : Value → Shared → Prop) (E : Value → Shared → Prop), C i j → Q (.int (g i j) s.toks) { s with toks := s.toks + 1 } → wpAny (model X.prog X.w) X.A (f (.int i t) (.int j u)) Q E s) :
    OpR X f (rI C fun i j => .int (g i j)) := by
  intro pins s σ H x y v u Q I rx ry h
  obtain ⟨i, j, rfl, rfl, hc, q⟩ := h
  obtain ⟨t, rfl⟩ := rx
  obtain ⟨t', rfl⟩ := ry
  exact rule i j t t' s _ _ hc ⟨.int (g i j), H, I.tok _, ⟨_, rfl⟩, q⟩
theorem opI0 {f : Value → Value → Sem Value} {g : Int → Int → Int}
    (rule : ∀ (i j : Int) (t u : Tok) (s : Shared) (Q : Value → Shared → Prop) (E : Value → Shared → Prop), Q (.int (g i j) s.toks) { s with toks := s.toks + 1 } → wpAny (model X.prog X.w) X.A (f (.int i t) (.int j u)) Q E s) :
    OpR X f (rI0 fun i j => .int (g i j)) := by
  intro pins s σ H x y v u Q I rx ry h
  obtain ⟨i, j, rfl, rfl, q⟩ := h
  obtain ⟨t, rfl⟩ := rx
  obtain ⟨t', rfl⟩ := ry
  exact rule i j t t' s _ _ ⟨.int (g i j), H, I.tok _, ⟨_, rfl⟩, q⟩
theorem opB0 {f : Value → Value → Sem Value} {g : Int → Int → Bool}
    (rule : ∀ (i j : Int) (t u : Tok) (s : Shared) (Q : Value → Shared → Prop) (E : Value → Shared → Prop), Q (.bool (g i j)) s → wpAny (model X.prog X.w) X.A (f (.int i t) (.int j u)) Q E s) :
    OpR X f (rI0 fun i j => .bl (g i j)) := by
  intro pins s σ H x y v u Q I rx ry h
  obtain ⟨i, j, rfl, rfl, q⟩ := h
  obtain ⟨t, rfl⟩ := rx
  obtain ⟨t', rfl⟩ := ry
  exact rule i j t t' s _ _ ⟨.bl (g i j), H, I, rfl, q⟩

def CDiv (i j : Int) : Prop := 0 < j ∧ j < 1073741824
def CDivN (i j : Int) : Prop := j ≠ 0 ∧ j.natAbs < 1073741824
def CPow (i j : Int) : Prop := 0 ≤ j ∧ j ≤ 1000000 ∧ i.natAbs < 2 ^ 64
def CMul (i j : Int) : Prop := (-(2 ^ 64) < i ∧ i < 2 ^ 64) ∨ (-(2 ^ 64) < j ∧ j < 2 ^ 64)
theorem CMul.ok {i j : Int} (h : CMul i j) : IntMulOk i j := by
  rcases h with ⟨h1, h2⟩ | ⟨h1, h2⟩
  · exact .of_left (intBits_le_64 h1 h2)
  · exact .of_right (intBits_le_64 h1 h2)
theorem op_add : OpR X (binaryOp .Add) (rI0 fun i j => .int (i + j)) := opI0 fun _ _ _ _ _ _ _ q => add_int q
theorem op_sub : OpR X (binaryOp .Sub) (rI0 fun i j => .int (i - j)) := opI0 fun _ _ _ _ _ _ _ q => sub_int q
theorem op_mul : OpR X (binaryOp .Mult) (rI CMul fun i j => .int (i * j)) := opI fun _ _ _ _ _ _ _ hc q => mul_int q hc.ok
/-- // by a positive divisor -/
theorem op_fdiv : OpR X (binaryOp .FloorDiv) (rI CDiv fun i j => .int (i / j)) := opI fun i j _ _ _ _ _ hc q => by
  have h1 : (0 : Int) < j := hc.1
  have h2 : j < 1073741824 := hc.2
  exact floordiv_int (by omega) (by rw [Int.fdiv_eq_ediv_of_nonneg i (by omega)]; exact q) (.inl (PyProof.noPylong_small (by omega)))
/-- % by a positive divisor of any size -/
theorem op_mod : OpR X (binaryOp .Mod) (rI (fun _ j => 0 < j) fun i j => .int (i % j)) := opI fun i j _ _ _ _ _ hc q => by
  have h1 : (0 : Int) < j := hc
  exact mod_int' (by omega) (by rw [Int.fmod_eq_emod_of_nonneg i (by omega)]; exact q)
theorem op_pow : OpR X (binaryOp .Pow) (rI CPow fun i j => .int (i ^ j.toNat)) := opI fun _ _ _ _ _ _ _ hc q => pow_int_small hc.1 hc.2.1 hc.2.2 q
theorem unI {f : Value → Sem Value} {g : Int → Int}
    (rule : ∀ (i : Int) (t : Tok) (s : Shared) (Q : Value → Shared → Prop) (E : Value → Shared → Prop), Q (.int (g i) s.toks) { s with toks := s.toks + 1 } → wpAny (model X.prog X.w) X.A (f (.int i t)) Q E s) :
    UnR X f (rU fun i => .int (g i)) := by
  intro pins s σ H x v Q I rx h
  obtain ⟨i, rfl, q⟩ := h
  obtain ⟨t, rfl⟩ := rx
  exact rule i t s _ _ ⟨.int (g i), H, I.tok _, ⟨_, rfl⟩, q⟩
theorem un_neg : UnR X (unaryOp .USub) (rU fun i => .int (-i)) := unI fun _ _ _ _ _ q => neg_int q
/-! ### bools among ints: n += (a < b) -/
end

/-! ### comparisons -/
/-- the scalars that == tells apart as data does -/
def scal : V → V → Bool
  | .non, .non => true | .non, .int _ => true | .int _, .non => true | .non, .bl _ => true | .bl _, .non => true | .non, .str _ => true | .str _, .non => true
  | .int _, .int _ => true | .bl _, .bl _ => true | .str _, .str _ => true | .byt _, .byt _ => true
  | .int _, .str _ => true | .str _, .int _ => true | .bl _, .str _ => true | .str _, .bl _ => true
  | _, _ => false
def rEq : R2 := fun x y H Q => scal x y = true ∧ Q (.bl (decide (x = y))) H
def rNe : R2 := fun x y H Q => scal x y = true ∧ Q (.bl (!decide (x = y))) H

theorem dec_int {i j : Int} : decide (V.int i = V.int j) = (i == j) := by
  rw [Bool.eq_iff_iff]
  simp
theorem dec_bl {i j : Bool} : decide (V.bl i = V.bl j) = (i == j) := by
  rw [Bool.eq_iff_iff]
  simp
theorem dec_str {i j : Str} : decide (V.str i = V.str j) = (i == j) := by
  rw [Bool.eq_iff_iff]
  simp
theorem dec_byt {i j : Array UInt8} : decide (V.byt i = V.byt j) = (i.toList == j.toList) := by
  rw [Bool.eq_iff_iff]
  cases i
  cases j
  simp

section
variable {X : Cx} {a b c : Expr} {ta tb tc : TE} {pos : Pos}
theorem fin_bl {pins : List (Addr × Obj)} {σ : St} {H : Hp} {s : Shared} {Q : VK} {k k' : Bool} (I : Inv X pins σ H s) (q : Q (.bl k) H) (e : k = k') : EP X pins σ Q (.bool k') s := by
  subst e
  exact ⟨.bl k, H, I, rfl, q⟩
theorem op_eq : OpR X (compareOp .Eq) rEq := by
  intro pins s σ H x y v u Q I rx ry h
  obtain ⟨hs, q⟩ := h
  cases x with
  | non =>
    cases rx
    cases y with
    | non => cases ry; exact PySem.EqNone.eq_none_none (fin_bl I q (by simp))
    | bl j => cases ry; exact PySem.EqNone.eq_none_bool (fin_bl I q (by simp))
    | int j => obtain ⟨t', rfl⟩ := ry; exact PySem.EqNone.eq_none_int (fin_bl I q (by simp))
    | str j => obtain ⟨t', rfl⟩ := ry; exact PySem.EqNone.eq_none_str (fin_bl I q (by simp))
    | _ => exact absurd (show false = true from hs) Bool.false_ne_true
  | bl i =>
    cases rx
    cases y with
    | non => cases ry; exact PySem.EqNone.eq_bool_none (fin_bl I q (by simp))
    | bl j => cases ry; exact eq_bool (fin_bl I q dec_bl)
    | str j => obtain ⟨t', rfl⟩ := ry; exact PySem.EqMixed.eq_bool_str (fin_bl I q (by simp))
    | _ => exact absurd (show false = true from hs) Bool.false_ne_true
  | int i =>
    obtain ⟨t, rfl⟩ := rx
    cases y with
    | non => cases ry; exact PySem.EqNone.eq_int_none (fin_bl I q (by simp))
    | int j => obtain ⟨t', rfl⟩ := ry; exact eq_int (fin_bl I q dec_int)
    | str j => obtain ⟨t', rfl⟩ := ry; exact PySem.EqMixed.eq_int_str (fin_bl I q (by simp))
    | _ => exact absurd (show false = true from hs) Bool.false_ne_true
  | str i =>
    obtain ⟨t, rfl⟩ := rx
    cases y with
    | non => cases ry; exact PySem.EqNone.eq_str_none (fin_bl I q (by simp))
    | bl j => cases ry; exact PySem.EqMixed.eq_str_bool (fin_bl I q (by simp))
    | int j => obtain ⟨t', rfl⟩ := ry; exact PySem.EqMixed.eq_str_int (fin_bl I q (by simp))
    | str j => obtain ⟨t', rfl⟩ := ry; exact eq_str (fin_bl I q dec_str)
    | _ => exact absurd (show false = true from hs) Bool.false_ne_true
  | byt i =>
    obtain ⟨t, rfl⟩ := rx
    cases y with
    | byt j => obtain ⟨t', rfl⟩ := ry; exact PySem.W.eq_bytes (fin_bl I q dec_byt)
    | _ => exact absurd (show false = true from hs) Bool.false_ne_true
  | _ => cases y <;> exact absurd (show false = true from hs) Bool.false_ne_true
theorem op_ne : OpR X (compareOp .NotEq) rNe := by
  intro pins s σ H x y v u Q I rx ry h
  obtain ⟨hs, q⟩ := h
  cases x with
  | non =>
    cases rx
    cases y with
    | non => cases ry; exact PySem.EqNone.ne_none_none (fin_bl I q (by simp))
    | bl j => cases ry; exact PySem.EqNone.ne_none_bool (fin_bl I q (by simp))
    | int j => obtain ⟨t', rfl⟩ := ry; exact PySem.EqNone.ne_none_int (fin_bl I q (by simp))
    | str j => obtain ⟨t', rfl⟩ := ry; exact PySem.EqNone.ne_none_str (fin_bl I q (by simp))
    | _ => exact absurd (show false = true from hs) Bool.false_ne_true
  | bl i =>
    cases rx
    cases y with
    | non => cases ry; exact PySem.EqNone.ne_bool_none (fin_bl I q (by simp))
    | bl j => cases ry; exact ne_bool (fin_bl I q (congrArg not dec_bl))
    | str j => obtain ⟨t', rfl⟩ := ry; exact PySem.EqMixed.ne_bool_str (fin_bl I q (by simp))
    | _ => exact absurd (show false = true from hs) Bool.false_ne_true
  | int i =>
    obtain ⟨t, rfl⟩ := rx
    cases y with
    | non => cases ry; exact PySem.EqNone.ne_int_none (fin_bl I q (by simp))
    | int j => obtain ⟨t', rfl⟩ := ry; exact ne_int (fin_bl I q (congrArg not dec_int))
    | str j => obtain ⟨t', rfl⟩ := ry; exact PySem.EqMixed.ne_int_str (fin_bl I q (by simp))
    | _ => exact absurd (show false = true from hs) Bool.false_ne_true
  | str i =>
    obtain ⟨t, rfl⟩ := rx
    cases y with
    | non => cases ry; exact PySem.EqNone.ne_str_none (fin_bl I q (by simp))
    | bl j => cases ry; exact PySem.EqMixed.ne_str_bool (fin_bl I q (by simp))
    | int j => obtain ⟨t', rfl⟩ := ry; exact PySem.EqMixed.ne_str_int (fin_bl I q (by simp))
    | str j => obtain ⟨t', rfl⟩ := ry; exact ne_str (fin_bl I q (congrArg not dec_str))
    | _ => exact absurd (show false = true from hs) Bool.false_ne_true
  | byt i =>
    obtain ⟨t, rfl⟩ := rx
    cases y with
    | byt j => obtain ⟨t', rfl⟩ := ry; exact PySem.W.ne_bytes (fin_bl I q (congrArg not dec_byt))
    | _ => exact absurd (show false = true from hs) Bool.false_ne_true
  | _ => cases y <;> exact absurd (show false = true from hs) Bool.false_ne_true

theorem op_lt : OpR X (compareOp .Lt) (rI0 fun i j => .bl (decide (i < j))) := opB0 fun _ _ _ _ _ _ _ q => lt_int q
theorem op_gt : OpR X (compareOp .Gt) (rI0 fun i j => .bl (decide (j < i))) := opB0 fun _ _ _ _ _ _ _ q => gt_int q
theorem op_ge : OpR X (compareOp .GtE) (rI0 fun i j => .bl (decide (j ≤ i))) := opB0 fun _ _ _ _ _ _ _ q => ge_int q
/-- the one string within the other -/
theorem op_in_str : OpR X (compareOp .In) (fun x y H Q => ∃ i j, x = .str i ∧ y = .str j ∧ Q (.bl (!(Builtin.Str.occurrences j i 0 j.length 1).isEmpty)) H) := by
  intro pins s σ H x y v u Q I rx ry h
  obtain ⟨i, j, rfl, rfl, q⟩ := h
  obtain ⟨t, rfl⟩ := rx
  obtain ⟨t', rfl⟩ := ry
  exact in_str (fin_bl I q rfl)

/-- is, is not of two objects that are tracked lists or instances -/
def isObj : HO → Bool
  | .lst _ => true
  | .ins _ _ _ => true
  | _ => false
theorem nomark (b : Expr) {op : CmpOp} (h : op ≠ .In := by decide) (h2 : op ≠ .NotIn := by decide) : behindInMarks op b = false := by
  have e1 : (op == CmpOp.In) = false := by cases op <;> first | rfl | exact absurd rfl h
  have e2 : (op == CmpOp.NotIn) = false := by cases op <;> first | rfl | exact absurd rfl h2
  cases b <;> simp [behindInMarks, e1, e2]
/-- a comparison as a value; hm: nomark b, or (for in, not in) by with_unfolding_all rfl -/
theorem pe_cmpR {op : CmpOp} {r : R2} (ho : OpR X (compareOp op) r) (ha : PE X a ta) (hb : PE X b tb) (hm : behindInMarks op b = false) : PE X (.Compare a [op] [b] pos) (tOp r ta tb) := by
  intro pins s σ H Q I h
  exact wpAny_Compare1 (binT ha hb I h fun v u s2 x y H2 I2 rx ry q => ho pins s2 σ H2 x y v u Q I2 rx ry q) hm
/-- a reading of a value as a test -/
def tTest (t : TE) : TT := fun σ H Q => t σ H fun x H' => ∃ k, x = .bl k ∧ Q k H'
theorem pt_cmpR {op : CmpOp} {r : R2} (ho : OpR X (compareOp op) r) (ha : PE X a ta) (hb : PE X b tb) (hm : behindInMarks op b = false) : PT X (.Compare a [op] [b] pos) (tTest (tOp r ta tb)) := by
  intro pins s σ H Q I h
  refine wpAny_isTrue_Compare1 (thn (ha pins s σ H _ I h) fun v s1 ⟨x, H1, I1, r1, q1⟩ => thn (hb pins s1 σ H1 _ I1 q1) fun u s2 ⟨y, H2, I2, r2, q2⟩ =>
    thn (ho pins s2 σ H2 x y v u _ I2 r1 r2 q2) fun c s3 ⟨z, H3, I3, r3, k, e, q3⟩ => ?_) hm
  subst e
  cases r3
  exact wpAny_truthy_bool ⟨H3, I3, q3⟩
/-- a op1 b op2 c -/
def tChain (r r' : R2) (ta tb tc : TE) : TE := fun σ H Q => ta σ H fun x H1 => tb σ H1 fun y H2 => r x y H2 fun z H3 => ∃ k, z = .bl k ∧
  (if k = true then tc σ H3 fun w' H4 => r' y w' H4 Q else Q (.bl false) H3)
/-! ### truth -/
/-- a value's truth by the abstract heap -/
def TruV (K : PySem.W.Frag) (x : V) (H : Hp) (k : Bool) : Prop :=
  match x with
  | .non => k = false
  | .bl b => k = b
  | .int i => k = (i != 0)
  | .str y => y.length ≤ sizeLine ∧ k = ((y.length : Int) != 0)
  | .byt y => y.size ≤ sizeLine ∧ k = ((y.size : Int) != 0)
  | .ref p => (∃ xs, SqL K H p xs ∧ k = !xs.isEmpty) ∨ (∃ xs, SqT K H p xs ∧ k = !xs.isEmpty) ∨ ∃ kvs, H p = some (.dK kvs) ∧ k = !kvs.isEmpty
  | _ => False
theorem line63 : (sizeLine : Nat) < 2 ^ 63 := by rw [sizeLine_eq]; decide
/-! ### strs and bytes -/
theorem op_add_str : OpR X (binaryOp .Add) (fun x y H Q => ∃ i j, x = .str i ∧ y = .str j ∧ i.length + j.length ≤ sizeLine ∧ Q (.str (i ++ j)) H) := by
  intro pins s σ H x y v u Q I rx ry h
  obtain ⟨i, j, rfl, rfl, hz, q⟩ := h
  obtain ⟨t, rfl⟩ := rx
  obtain ⟨t', rfl⟩ := ry
  exact add_str (fun t' tk => ⟨.str (i ++ j), H, I.tok _, ⟨_, rfl⟩, q⟩) hz
def PlainIxT (b : Expr) : Prop := ∀ o i, subscripted b false o i = operate [o, i] (getItem o i)
/-! ### scalar builtins, by CallR -/
theorem vals1 {x : V} {us : List Value} (r : Vals [x] us) : ∃ u, us = [u] ∧ RelV x u := by
  cases r with
  | cons r1 r2 => cases r2; exact ⟨_, rfl, r1⟩
theorem vals2 {x y : V} {us : List Value} (r : Vals [x, y] us) : ∃ u w', us = [u, w'] ∧ RelV x u ∧ RelV y w' := by
  cases r with
  | cons r1 r2 =>
    cases r2 with
    | cons r3 r4 => cases r4; exact ⟨_, _, rfl, r1, r3⟩
theorem call_max2 (hc : X.calm = true) : CallR X (.builtin "max") (fun xs H Q => ∃ i j, xs = [.int i, .int j] ∧ Q (.int (if j > i then j else i)) H) := by
  intro pins s σ H xs us Q I r h
  obtain ⟨i, j, rfl, q⟩ := h
  obtain ⟨u, w', rfl, ⟨t, rfl⟩, ⟨t', rfl⟩⟩ := vals2 r
  refine max_two_ints (I.ok.hd hc) fun h' tk k => ⟨_, H, I.kept k, ?_, q⟩
  by_cases hj : j > i
  · rw [if_pos hj, if_pos hj]; exact ⟨_, rfl⟩
  · rw [if_neg hj, if_neg hj]; exact ⟨_, rfl⟩
theorem call_int1 : CallR X (.type "int") (fun xs H Q => (∃ i, xs = [.int i] ∧ Q (.int i) H) ∨ ∃ k, xs = [.bl k] ∧ Q (.int (if k then 1 else 0)) H) := by
  intro pins s σ H xs us Q I r h
  rcases h with ⟨i, rfl, q⟩ | ⟨k, rfl, q⟩
  · obtain ⟨u, rfl, t, rfl⟩ := vals1 r
    exact call_int_int ⟨.int i, H, I, ⟨_, rfl⟩, q⟩
  · obtain ⟨u, rfl, r1⟩ := vals1 r
    cases r1
    exact call_int_bool ⟨.int (if k then 1 else 0), H, I.tok _, ⟨_, rfl⟩, q⟩
/-- len of a str, a bytes, a list, a tuple -/
def LenV (K : PySem.W.Frag) (x : V) (H : Hp) (n : Nat) : Prop :=
  match x with
  | .str y => y.length ≤ sizeLine ∧ n = y.length
  | .byt y => y.size ≤ sizeLine ∧ n = y.size
  | .ref p => (∃ xs, SqL K H p xs ∧ n = xs.length) ∨ ∃ xs, SqT K H p xs ∧ n = xs.length
  | _ => False
end
end L2

namespace L2
open PySem PySem.Spec PyProof.Rows

/-! ### an instance, its attributes a map -/
structure ObjM (h : Heap) (x dx C : Addr) (mA : Str → Option Value) : Prop where
  obj : h.get? x = some (PySem.W.instObj C dx)
  ns : h.Ns1 dx mA
  ne : dx ≠ x

theorem lookIn_ns {h : Heap} {dx : Addr} {mA : Str → Option Value} (n : h.Ns1 dx mA) : ∃ od, h.get? dx = some od ∧ ∀ name, PySem.W.lookIn name od = some (mA name) := by
  obtain ⟨o, es, ep, ho, hd, hk, _, hm⟩ := n
  refine ⟨o, ho, fun name => ?_⟩
  have e := hm name
  unfold nsFind findBy at e
  rw [← Array.find?_toList] at e
  unfold PySem.W.lookIn
  rw [hd]
  dsimp only
  split
  · rename_i y q
    rw [q] at e
    exact congrArg some e
  · rename_i q
    rw [q] at e
    have a : es.toList.any (·.refKey) = false := by
      rw [List.any_eq_false]
      intro y hy
      obtain ⟨z, t, hkey⟩ := hk y (Array.mem_toList_iff.mp hy)
      simp [DictEntry.refKey, hkey]
    have a' : ¬ es.toList.any (·.refKey) = true := by rw [a]; exact Bool.false_ne_true
    rw [if_neg a']
    exact congrArg some e

theorem ObjM.look {h : Heap} {x dx C : Addr} {mA : Str → Option Value} (I : ObjM h x dx C mA) : ∃ od, PySem.W.InstAt h x (PySem.W.instObj C dx) C (some od) ∧ ∀ name, PySem.W.lookIn name od = some (mA name) :=
  let ⟨od, ho, hl⟩ := lookIn_ns I.ns
  ⟨od, ⟨I.obj, rfl, rfl, ho⟩, hl⟩

section
variable {prog : Program} {w : World} {A : Around} {E : Value → Shared → Prop} {s : Shared} {K : PySem.W.Frag} {x dx C f : Addr} {mA : Str → Option Value} {name : Str} {v : Value}

end

/-! ### the attributes as a list of pairs -/
def putF (f : Str) (v : V) : List (Str × V) → List (Str × V)
  | [] => [(f, v)]
  | (g, x) :: r => if g = f then (g, v) :: r else (g, x) :: putF f v r
theorem RelO.some_of {v : V} {o : Option Value} (r : RelO (some v) o) : ∃ u, o = some u ∧ RelV v u := by
  cases o with
  | none => exact (show False from r).elim
  | some u => exact ⟨u, rfl, r⟩
theorem handed_of {v : V} {u : Value} (r : RelV v u) : PySem.W.handedIn u = true := by
  cases v with
  | non => cases (show u = Value.none from r); rfl
  | bl b => cases (show u = Value.bool b from r); rfl
  | int i => obtain ⟨t, e⟩ := (show ∃ t, u = Value.int i t from r); cases e; rfl
  | str x => obtain ⟨t, e⟩ := (show ∃ t, u = Value.str x t from r); cases e; rfl
  | byt b => obtain ⟨t, e⟩ := (show ∃ t, u = Value.bytes b t from r); cases e; rfl
  | flt b => obtain ⟨t, e⟩ := (show ∃ t, u = Value.float b t from r); cases e; rfl
  | ref a => cases (show u = Value.ref a from r); rfl
  | ty n => cases (show u = Value.type n from r); rfl

section
variable {P : Program} {w : World} {H H' : Hp} {h h' : Heap} {a C dx : Addr} {fs fs' : List (Str × V)}
theorem ins_get (hok : HOk P w H h) (e : H a = some (.ins C dx fs)) : ∃ mA, ObjM h a dx C mA ∧ (∀ f, RelO (fs.lookup f) (mA f)) ∧ PySem.Within mA (fs.map (·.1)) ∧ fs.length ≤ 1000 ∧ H dx = some (.own a) := by
  obtain ⟨d, z, ne, ob, mA, n, r, q⟩ := (show ObjOk P w H h a (.ins C dx fs) from hok a _ e)
  exact ⟨mA, ⟨ob, n, ne⟩, r, q, z, d⟩
end

/-! ### what of the text a class must have -/
structure Cls (K : PySem.W.Frag) (C : Addr) : Prop where
  pg : PySem.W.plainGet K C Str.empty = true
  hd : PySem.W.hasDictIn K C = true
  po : PySem.W.plainOver K C = true
  sa : PySem.W.findIn K (.ref C) "__setattr__" = some (some (.builtin "object.__setattr__"))
theorem Cls.get {K : PySem.W.Frag} {C : Addr} (c : Cls K C) (f : Str) : PySem.W.plainGet K C f = true := c.pg
/-- no class of it has the name -/
def NoAttr (K : PySem.W.Frag) (C : Addr) (f : Str) : Prop := PySem.W.findIn K (.ref C) f = some none
/-- a constant of the class -/
structure Con (K : PySem.W.Frag) (C : Addr) (f : Str) (v : V) (u : Value) : Prop where
  at_ : PySem.W.findIn K (.ref C) f = some (some u)
  rel : RelV v u
  get : PySem.W.specialIn K u "__get__" = some none
  cp : PySem.W.copiedNames.contains f = false
/-- a method: a plain def of the class or of one above it -/
structure Meth (K : PySem.W.Frag) (C : Addr) (m : Str) (f : Addr) : Prop where
  at_ : PySem.W.findIn K (.ref C) m = some (some (.ref f))
  fn : PySem.W.isFn K (.ref f) = true
  kp : PySem.W.keepIn K (.ref f) = true

section
variable {X : Cx} {pins : List (Addr × Obj)} {σ : St} {H : Hp} {s : Shared} {a C dx : Addr} {fs : List (Str × V)} {f : Str} {v : V} {A : Around} {E : Value → Shared → Prop}

/-- e.f where nothing but the object is asked: through attributeBase (super) and the last hold -/
theorem attr_of {prog : Program} {w : World} {env : Env} {e : Expr} {f : Str} {pos : Pos} {s : Shared} {Q : Value → Shared → Prop} (hb : attributeBase e f env (eval e env) = eval e env)
    (h : wpAny (model prog w) A (eval e env) (fun o s₁ => wpAny (model prog w) A (getAttr o f true) Q E s₁) E s) : wpAny (model prog w) A (eval (.Attribute e f pos) env) Q E s :=
  Attribute_any_ h (by rw [arm_eval_Attribute, hb])
end

/-! ### readings and rules -/
/-- e.f, an attribute of the instance -/
def tFld (K : PySem.W.Frag) (ta : TE) (f : Str) : TE := fun σ H Q => ta σ H fun x H1 => ∃ a C dx fs v, x = .ref a ∧ H1 a = some (.ins C dx fs) ∧ Cls K C ∧ NoAttr K C f ∧ fs.lookup f = some v ∧ Q v H1
/-- e.f, a constant of the class -/
def tCon (K : PySem.W.Frag) (ta : TE) (f : Str) : TE := fun σ H Q => ta σ H fun x H1 => ∃ a C dx fs v u, x = .ref a ∧ H1 a = some (.ins C dx fs) ∧ Cls K C ∧ Con K C f v u ∧ fs.lookup f = none ∧ Q v H1
/-- e.f = value -/
def sFld (K : PySem.W.Frag) (ta tv : TE) (f : Str) : TS := fun D σ H => tv σ H fun y H1 => ta σ H1 fun x H2 => ∃ a C dx fs, x = .ref a ∧ H2 a = some (.ins C dx fs) ∧ Cls K C ∧ NoAttr K C f ∧ fs.length < 1000 ∧
  D.nx σ (upd H2 a (.ins C dx (putF f y fs)))
/-- an augmented operator on two values -/
def InOp (X : Cx) (op : Operator) (rd : V → V → Hp → VK → Prop) : Prop :=
  ∀ (pins : List (Addr × Obj)) (s : Shared) (σ : St) (H : Hp) (x y : V) (u v : Value) (Q : VK), Inv X pins σ H s → RelV x u → RelV y v → rd x y H Q → wpAny (model X.prog X.w) X.A (inplaceOp op u v) (EP X pins σ Q) X.xe s
/-- e.f op= value -/
def sFldAug (K : PySem.W.Frag) (ta tv : TE) (rd : V → V → Hp → VK → Prop) (f : Str) : TS := fun D σ H => ta σ H fun x H1 => ∃ a C dx fs v, x = .ref a ∧ H1 a = some (.ins C dx fs) ∧ Cls K C ∧ NoAttr K C f ∧ fs.lookup f = some v ∧
  tv σ H1 fun y H2 => rd v y H2 fun z H3 => ∃ dx' fs', H3 a = some (.ins C dx' fs') ∧ fs'.length < 1000 ∧ D.nx σ (upd H3 a (.ins C dx' (putF f z fs')))

section
variable {X : Cx} {o e value : Expr} {f : Str} {pos pos' tpos : Pos} {ta tv : TE}
def rAdd : V → V → Hp → VK → Prop := fun x y H Q => ∃ i j, x = .int i ∧ y = .int j ∧ Q (.int (i + j)) H
def rSub : V → V → Hp → VK → Prop := fun x y H Q => ∃ i j, x = .int i ∧ y = .int j ∧ Q (.int (i - j)) H
end

/-! ### isinstance -/
section
variable {X : Cx} {pins : List (Addr × Obj)} {σ : St} {H : Hp} {s : Shared} {A : Around} {E : Value → Shared → Prop} {Q : Value → Shared → Prop} {c : Value} {b : Bool}
/-- the type of a value, as the fragment's deciders take it; for an instance its class -/
inductive TyOf (K : PySem.W.Frag) (H : Hp) : V → Value → Prop where
  | non : TyOf K H .non (.type "NoneType")
  | bl (x : Bool) : TyOf K H (.bl x) (.type "bool")
  | int (i : Int) : TyOf K H (.int i) (.type "int")
  | str (x : Str) : TyOf K H (.str x) (.type "str")
  | flt (x : UInt64) : TyOf K H (.flt x) (.type "float")
  | lst {a : Addr} {xs : List V} (e : H a = some (.lst xs)) : TyOf K H (.ref a) (.type "list")
  | frz {a : Addr} {o : Obj} {xs : List V} (e : H a = some (.frz o (.lst xs))) : TyOf K H (.ref a) (.type "list")
  | tup {a : Addr} {xs : List V} (e : H a = some (.tup xs)) : TyOf K H (.ref a) (.type "tuple")
  | dK {a : Addr} {kvs : List (Key × V)} (e : H a = some (.dK kvs)) : TyOf K H (.ref a) (.type "dict")
  | dT {a : Addr} {kvs : List (List Key × V)} (e : H a = some (.dT kvs)) : TyOf K H (.ref a) (.type "dict")
  | ins {a C dx : Addr} {fs : List (Str × V)} (e : H a = some (.ins C dx fs)) (cl : Cls K C) (ha : PySem.W.findIn K (.ref C) "__class__" = some (some (.builtin "object.__class__")))
      (hn : PySem.W.specialIn K (.builtin "object.__class__") "__get__" = some (some (.builtin "getset_descriptor.__get__"))) (htk : PySem.W.takesIn K (.builtin "object.__class__") = some true)
      (hm : PySem.W.mroIn K C (.type "object") = some true) : TyOf K H (.ref a) (.ref C)
/-- isinstance(x, c) for one class c, a built-in or an own one: kitOne's answer -/
theorem isinst_ok {x : V} {u t : Value} (I : Inv X pins σ H s) (rx : RelV x u) (ty : TyOf X.K H x t) (e : PySem.W.kitOne X.K t c = some b) (h : ∀ tk, Q (.bool b) { s with toks := tk }) :
    wpAny (model X.prog X.w) A (call (.builtin "isinstance") [u, c]) Q E s := by
  cases ty with
  | non => cases (show u = Value.none from rx); exact PySem.W.kia_one PySem.W.kitx_none I.kIn True.intro e (fun z => nomatch z) h
  | bl y => cases (show u = Value.bool y from rx); exact PySem.W.kia_one PySem.W.kitx_bool I.kIn True.intro e (fun z => nomatch z) h
  | int i => obtain ⟨t, q⟩ := (show ∃ t, u = Value.int i t from rx); cases q; exact PySem.W.kia_one PySem.W.kitx_int I.kIn True.intro e (fun z => nomatch z) h
  | str y => obtain ⟨t, q⟩ := (show ∃ t, u = Value.str y t from rx); cases q; exact PySem.W.kia_one PySem.W.kitx_str I.kIn True.intro e (fun z => nomatch z) h
  | flt y => obtain ⟨t, q⟩ := (show ∃ t, u = Value.float y t from rx); cases q; exact PySem.W.kia_one PySem.W.kitx_float I.kIn True.intro e (fun z => nomatch z) h
  | @lst a xs ea =>
    cases (show u = Value.ref a from rx)
    obtain ⟨_, _, n, _, h1⟩ := (show ObjOk X.prog X.w H s.heap a (.lst xs) from I.hok a _ ea)
    exact PySem.W.kia_one PySem.W.kitx_list I.kIn ⟨_, h1, rfl⟩ e (fun z => nomatch z) h
  | @frz a ob xs ea =>
    cases (show u = Value.ref a from rx)
    obtain ⟨_, _, _, n, _, h1⟩ := (show ObjOk X.prog X.w H s.heap a (.frz ob (.lst xs)) from I.hok a _ ea)
    exact PySem.W.kia_one PySem.W.kitx_list I.kIn ⟨_, h1, rfl⟩ e (fun z => nomatch z) h
  | @tup a xs ea =>
    cases (show u = Value.ref a from rx)
    obtain ⟨_, _, _, p, _⟩ := (show ObjOk X.prog X.w H s.heap a (.tup xs) from I.hok a _ ea)
    obtain ⟨o, h1, h2, _⟩ := p
    exact PySem.W.kia_one PySem.W.kitx_tuple I.kIn ⟨o, h1, h2⟩ e (fun z => nomatch z) h
  | @dK a kvs ea =>
    cases (show u = Value.ref a from rx)
    obtain ⟨_, _, vs, _, p⟩ := (show ObjOk X.prog X.w H s.heap a (.dK kvs) from I.hok a _ ea)
    obtain ⟨o, es, ep, h1, h2, _⟩ := p
    exact PySem.W.kia_one PySem.W.kitx_dict I.kIn ⟨o, h1, h2.1⟩ e (fun z => nomatch z) h
  | @dT a kvs ea =>
    cases (show u = Value.ref a from rx)
    obtain ⟨_, _, xs, _, o, es, ep, h1, h2, _⟩ := (show ObjOk X.prog X.w H s.heap a (.dT kvs) from I.hok a _ ea)
    exact PySem.W.kia_one PySem.W.kitx_dict I.kIn ⟨o, h1, h2.1⟩ e (fun z => nomatch z) h
  | @ins a C dx fs ea cl ha hn htk hm =>
    cases (show u = Value.ref a from rx)
    obtain ⟨mA, O, _⟩ := ins_get I.hok ea
    obtain ⟨od, J, _⟩ := O.look
    exact PySem.W.kia_one (PySem.W.kitx_own (cl.get _) cl.hd ha hn htk hm) I.kIn J e (fun z => nomatch z) h
end
end L2

namespace L2
open PySem PySem.Spec PyProof.Rows

/-! ### room -/
structure Room (k : Nat) (A : Around) : Prop where
  hd : A.handled = none
  dp : A.depth + 3 * k + 5 < recursionLimit
  un : A.units + 16 * k + 200 < cLine
theorem Room.mono {j k : Nat} {A : Around} (r : Room k A) (h : j ≤ k) : Room j A := ⟨r.hd, by have := r.dp; omega, by have := r.un; omega⟩
theorem Room.deeper {k : Nat} {A : Around} (r : Room (k + 1) A) (env : Env) : Room k (A.deeper env) :=
  ⟨r.hd, by have := r.dp; show A.depth + 1 + 3 * k + 5 < _; omega, by have := r.un; show A.units + 3 + 16 * k + 200 < _; omega⟩
theorem make_depth {A : Around} {C : Addr} {us : List Value} {kw : List (Str × Value)} : (A.under (.builtin "type.__call__" ⟨.ref C :: us, kw⟩)).depth = A.depth + 1 := by
  first | rfl | simp [Around.under, Code.weight, Code.isCreation, Code.isGuard, Code.isCaller, Code.frames, Code.isFrame, guardIds]
theorem make_units {A : Around} {C : Addr} {us : List Value} {kw : List (Str × Value)} : (A.under (.builtin "type.__call__" ⟨.ref C :: us, kw⟩)).units = A.units + 1 := by
  first | rfl | simp [Around.under, Code.cUnits, Code.frames, Code.isFrame]
theorem Room.make {k : Nat} {A : Around} (r : Room (k + 1) A) (C : Addr) (us : List Value) (kw : List (Str × Value)) : Room k (A.under (.builtin "type.__call__" ⟨.ref C :: us, kw⟩)) :=
  ⟨r.hd, by have := r.dp; rw [make_depth]; omega, by have := r.un; rw [make_units]; omega⟩
theorem Room.depth {k : Nat} {A : Around} (r : Room k A) : A.depth < recursionLimit := by have := r.dp; omega
theorem Room.units {k : Nat} {A : Around} (r : Room k A) : A.units + 64 < cLine := by have := r.un; omega
/-! ### argument lists and displays -/
def tNil : TA := fun _ H Q => Q [] H
def tCons (ta : TE) (tr : TA) : TA := fun σ H Q => ta σ H fun x H1 => tr σ H1 fun xs H2 => Q (x :: xs) H2
section
variable {X : Cx} {e : Expr} {es : List Expr} {te : TE} {t : TA} {pos : Pos}
theorem pa_nil : PA X [] tNil := fun _ _ _ _ H Q I h => Calls.spliced_nil ⟨[], H, I, .nil, h⟩
theorem pa_cons (ha : PE X e te) (hr : PA X es t) (hs : starEach (e :: es) X.env = (false, eval e X.env) :: starEach es X.env := by rfl) : PA X (e :: es) (tCons te t) := by
  intro pos pins s σ H Q I h
  rw [hs]
  show wpAny _ _ (spliced ((false, eval e X.env) :: backTo pos (starEach es X.env))) _ _ s
  refine Calls.spliced_cons (thn (ha pins s σ H _ I h) fun u s1 ⟨x, H1, I1, r1, q1⟩ => ?_)
  exact thn (hr pos pins s1 σ H1 _ I1 q1) fun us s2 ⟨xs, H2, I2, r2, q2⟩ => ⟨x :: xs, H2, I2, .cons r1 r2, q2⟩

/-- a tuple, a list of written items -/
def tTup (t : TA) : TE := fun σ H Q => t σ H fun xs H1 => xs.length ≤ sizeLine ∧ ∀ p, H1 p = none → Q (.ref p) (upd H1 p (.tup xs))
def tLst (t : TA) : TE := fun σ H Q => t σ H fun xs H1 => xs.length ≤ sizeLine ∧ ∀ p, H1 p = none → Q (.ref p) (upd H1 p (.lst xs))
theorem pe_tup {x1} (h : PA X es t) : PE X (.Tuple es x1 pos) (tTup t) := by
  intro pins s σ H Q I hq
  refine wpAny_Tuple_spliced (thn (h pos pins s σ H _ I hq) fun us s1 ⟨xs, H1, I1, r, z, q⟩ => ⟨by rw [← r.length]; exact z, ?_⟩)
  have hf : H1 s1.heap.objs.size = none := I1.hok.fresh (Nat.le_refl _)
  refine ⟨.ref s1.heap.objs.size, upd H1 s1.heap.objs.size (.tup xs), I1.laid (t' := s1.toks) (fun b u e => Heap.get?_push_of_some _ e) (Nat.le_refl _) ?_, rfl, q _ hf⟩
  exact ⟨z, us, r, ⟨_, Heap.get?_push_size _ rfl, rfl, _, rfl⟩, _, Heap.get?_push_size _ rfl, rfl⟩
theorem pe_lst (h : PA X es t) : PE X (.List es pos) (tLst t) := by
  intro pins s σ H Q I hq
  refine wpAny_List_spliced (thn (h pos pins s σ H _ I hq) fun us s1 ⟨xs, H1, I1, r, z, q⟩ => ⟨by rw [← r.length]; exact z, ?_⟩)
  have hf : H1 s1.heap.objs.size = none := I1.hok.fresh (Nat.le_refl _)
  refine ⟨.ref s1.heap.objs.size, upd H1 s1.heap.objs.size (.lst xs), I1.laid (t' := s1.toks) (fun b u e => Heap.get?_push_of_some _ e) (Nat.le_refl _) ?_, rfl, q _ hf⟩
  exact ⟨z, us, 0, r, Heap.get?_push_size _ rfl⟩
end

/-! ### what a def promises -/
/-- a def's promise: the bound arguments in the parameters' order, the heap, the wanted end, the wanted exception -/
abbrev Sp := List V → Hp → VK → XK → Prop
/-- how an exception lies behind a call (file 08 gives it): the callers' frames, abstract heap and state ahead of the call, the wish, the exception, the state -/
abbrev CXT := List Env → Hp → Shared → XK → Value → Shared → Prop

/-- the state at a call -/
structure Env0 (P : Program) (w : World) (K : PySem.W.Frag) (mg : Str → Option Value) (base : Heap) (A : Around) (outer : List Env) (s : Shared) (H : Hp) : Prop where
  frames : A.frames = some outer
  mod : Mod K mg base
  bs : ∀ b o, base.get? b = some o → s.heap.get? b = some o ∧ H b = none
  bsz : base.objs.size ≤ s.heap.objs.size
  funs : s.heap.FunFrames base outer
  frf : ∀ b ∈ frs outer, H b = none
  hok : HOk P w H s.heap
  bare : AllBare s.gens
/-- a call's end -/
def CE (outer : List Env) (P : Program) (w : World) (H : Hp) (s : Shared) (Q : VK) (u : Value) (s' : Shared) : Prop :=
  ∃ v H', s'.os = s.os ∧ AllBare s'.gens ∧ Un (frs outer) [] H H' s.heap s'.heap ∧ HOk P w H' s'.heap ∧ RelV v u ∧ Q v H'
def CR (CX : CXT) (outer : List Env) (P : Program) (w : World) (H : Hp) (s : Shared) (Q : VK) (E : XK) (r : Result) (s' : Shared) : Prop :=
  match r with
  | .ok (.ret u) => CE outer P w H s Q u s'
  | .ok _ => False
  | .error e => CX outer H s E e s'
structure FnOk (P : Program) (w : World) (K : PySem.W.Frag) (mg : Str → Option Value) (base : Heap) (CX : CXT) (k : Nat) (f : Addr) (fd : FuncData) (ps : List Str) (sp : Sp) : Prop where
  len : ∀ vs H Q E, sp vs H Q E → vs.length = ps.length
  run : ∀ (A : Around) (outer : List Env) (s : Shared) (H : Hp) (args : Args) (us : List Value) (vs : List V) (Q : VK) (E : XK), Room k A → Env0 P w K mg base A outer s H → BindsTo s fd args (ps.zip us) → Vals vs us → sp vs H Q E →
    codeAny (model P w) A (.call (.ref f) args) (CR CX outer P w H s Q E) s
theorem Env0.make {P : Program} {w : World} {K : PySem.W.Frag} {mg : Str → Option Value} {base : Heap} {A : Around} {outer : List Env} {s : Shared} {H : Hp} (e : Env0 P w K mg base A outer s H) (C : Addr) (us : List Value) (kw : List (Str × Value)) :
    Env0 P w K mg base (A.under (.builtin "type.__call__" ⟨.ref C :: us, kw⟩)) outer s H := ⟨by first | exact e.frames | (simpa [Around.under, Code.envs, Code.isFrame, pushEnvs] using e.frames), e.mod, e.bs, e.bsz, e.funs, e.frf, e.hok, e.bare⟩
section
variable {X : Cx} {pins : List (Addr × Obj)} {σ : St} {H : Hp} {s s' : Shared}
/-- from a body: what a callee wants -/
theorem Inv.env0 (I : Inv X pins σ H s) : Env0 X.prog X.w X.K X.mg X.base X.A X.stack s H :=
  ⟨I.ok.frames, I.ok.mod, I.bs, Nat.le_trans I.ok.bsz I.sz, I.stack, I.stkFree, I.hok, I.bare⟩
/-- behind a call -/
theorem Inv.after {Q : VK} {u : Value} (I : Inv X pins σ H s) (h : CE X.stack X.prog X.w H s Q u s') : EP X pins σ Q u s' := by
  obtain ⟨v, H', os, bare, un, hok, r, q⟩ := h
  obtain ⟨hh, g, d, t, os'⟩ := s'
  obtain rfl : os' = s.os := os
  exact ⟨v, H', I.call (h' := hh) (g' := g) (d' := d) (t' := t) (ch := []) un hok bare (fun b z => absurd z (by simp)), r, q⟩
end

/-! ### calls -/
/-- f(..): the written arguments, then the defaults dvs; E: what is wanted of an exception -/
def tCall (sp : Sp) (dvs : List V) (E : XK) (t : TA) : TE := fun σ H Q => t σ H fun vs H1 => sp (vs ++ dvs) H1 Q E
/-- o.m(..) of an instance of the class at C -/
def tMeth (C : Addr) (m : Str) (sp : Sp) (dvs : List V) (E : XK) (ta : TE) (t : TA) : TE := fun σ H Q => ta σ H fun x H1 => ∃ a dx fs, x = .ref a ∧ H1 a = some (.ins C dx fs) ∧ fs.lookup m = none ∧
  t σ H1 fun vs H2 => sp (x :: (vs ++ dvs)) H2 Q E
/-- C(..): a new instance and its dict, then __init__ -/
def tMake (C : Addr) (sp : Sp) (dvs : List V) (E : XK) (t : TA) : TE := fun σ H Q => t σ H fun vs H1 => ∀ x dx, H1 x = none → H1 dx = none → dx ≠ x →
  sp (.ref x :: (vs ++ dvs)) (upd (upd H1 dx (.own x)) x (.ins C dx [])) (fun v H2 => v = .non ∧ Q (.ref x) H2) E

/-- how the parameters are bound: us the positional arguments, kw the keywords' values by name, ds the defaults that fill up -/
def Binds (K : PySem.W.Frag) (fd : FuncData) (ps : List Str) (ds : List Value) : Prop :=
  ∀ (s : Shared) (us : List Value), K.In s.heap → (us ++ ds).length = ps.length → BindsTo s fd ⟨us, []⟩ (ps.zip (us ++ ds))
/-- every parameter is given -/
theorem Binds.all {K : PySem.W.Frag} {fd : FuncData} {ps : List Str} (h : ∀ us : List Value, us.length = ps.length → bindArgs fd ⟨us, []⟩ = pure (ps.zip us)) : Binds K fd ps [] := fun s us _ hl => by
  rw [List.append_nil] at hl ⊢
  exact .of_eq (h us hl)

/-- an exception of a callee reaches what this body wants of exceptions -/
def Passes (CX : CXT) (X : Cx) (E : XK) : Prop := ∀ (pins : List (Addr × Obj)) (σ : St) (H : Hp) (s : Shared) (e : Value) (s' : Shared), Inv X pins σ H s → CX X.stack H s E e s' → X.xe e s'

section
variable {X : Cx} {CX : CXT} {k : Nat} {f C : Addr} {fd : FuncData} {ps : List Str} {sp : Sp} {dvs : List V} {ds : List Value} {E : XK} {x m : Str} {p pos apos : Pos} {e o : Expr} {es : List Expr} {ta : TE} {t : TA}

/-- the callee runs -/
theorem run_fn {pins : List (Addr × Obj)} {σ : St} {H : Hp} {s : Shared} {Q : VK} {us : List Value} {vs : List V} (F : FnOk X.prog X.w X.K X.mg X.base CX k f fd ps sp) (hr : Room k X.A) (hb : Binds X.K fd ps ds) (hd : Vals dvs ds) (hx : Passes CX X E)
    (I : Inv X pins σ H s) (r : Vals vs us) (h : sp (vs ++ dvs) H Q E) : wpAny (model X.prog X.w) X.A (call (.ref f) us) (EP X pins σ Q) X.xe s := by
  have r2 : Vals (vs ++ dvs) (us ++ ds) := r.append hd
  have hl : (us ++ ds).length = ps.length := by rw [← r2.length]; exact F.len _ _ _ _ h
  refine wpAny_call (codeAny_mono (F.run X.A X.stack s H ⟨us, []⟩ (us ++ ds) (vs ++ dvs) Q E hr I.env0 (hb s us I.kIn hl) r2 h) fun r s' hq => ?_)
  cases r with
  | error e => exact hx pins σ H s e s' I hq
  | ok fl =>
    cases fl with
    | ret u => exact I.after hq
    | next => exact False.elim hq
    | brk => exact False.elim hq
    | cont => exact False.elim hq

theorem pe_call (F : FnOk X.prog X.w X.K X.mg X.base CX k f fd ps sp) (hr : Room k X.A) (hg : Gl X x) (hm : X.mg x = some (.ref f)) (hk : PySem.W.keepIn X.K (.ref f) = true) (hb : Binds X.K fd ps ds) (hd : Vals dvs ds) (hx : Passes CX X E)
    (ha : PA X (e :: es) t) (hdb : (x == ("__debug__" : Str)) = false := by decide) (he : starEach (e :: es) X.env = (false, eval e X.env) :: starEach es X.env := by rfl) (hpl : (backTo pos (starEach es X.env)).any (·.1) = false := by rfl) :
    PE X (.Call (.Name x p) (e :: es) [] pos) (tCall sp dvs E t) := by
  intro pins s σ H Q I h
  refine wpAny_Call_Name_kw (ld_glob I hg hm ?_ hdb)
  refine PySem.W.callWith_K (h₀ := X.base) I.ok.mod.kin hk (thn (ha pos pins s σ H _ I h) fun us s1 ⟨vs, H1, I1, r, q⟩ => ⟨I1.kIn, ?_⟩) he hpl
  exact run_fn F hr hb hd hx I1 r q
/-- what a class must have to be made -/
structure Mk (K : PySem.W.Frag) (C f : Addr) : Prop where
  makes : PySem.W.makesIn K C = true
  init : PySem.W.findIn K (.ref C) "__init__" = some (some (.ref f))
  fn : PySem.W.isFn K (.ref f) = true
  kp : PySem.W.keepIn K (.ref C) = true

end

/-! ### keywords -/
/-- the values of the keywords, from the left -/
def PK (X : Cx) (kws : List Keyword) (t : TA) : Prop :=
  ∀ (pos : Pos) (pins : List (Addr × Obj)) (s : Shared) (σ : St) (H : Hp) (Q : List V → Hp → Prop), Inv X pins σ H s → t σ H Q → wpAny (model X.prog X.w) X.A (evalAll ((backToKw pos (keywordEach kws X.env)).map (·.2))) (AP X pins σ Q) X.xe s
section
variable {X : Cx} {CX : CXT} {k : Nat} {f C : Addr} {fd : FuncData} {ps ks : List Str} {sp : Sp} {E : XK} {x m : Str} {p pos apos kpos : Pos} {e o : Expr} {es : List Expr} {kws : List Keyword} {te ta : TE} {t tk : TA} {nm : Option Str}
/-- how a call with keywords binds: g puts the positional values us and the keywords' values ws (names ks) in the parameters' order, defaults among them -/
structure KBinds (K : PySem.W.Frag) (fd : FuncData) (ps ks : List Str) (g : List Value → List Value → List Value) (gV : List V → List V → List V) : Prop where
  to : ∀ (s : Shared) (us ws : List Value), K.In s.heap → (g us ws).length = ps.length → BindsTo s fd ⟨us, ks.zip ws⟩ (ps.zip (g us ws))
  rel : ∀ {vs : List V} {us : List Value} {zs : List V} {ws : List Value}, Vals vs us → Vals zs ws → Vals (gV vs zs) (g us ws)
def tCallK (sp : Sp) (gV : List V → List V → List V) (E : XK) (t tk : TA) : TE := fun σ H Q => t σ H fun vs H1 => tk σ H1 fun zs H2 => sp (gV vs zs) H2 Q E
variable {g : List Value → List Value → List Value} {gV : List V → List V → List V}
end

/-! ### a def's body keeps its promise -/
/-- names: the parameters first -/
structure FnScope (N P : List Str) (sc : Scope) : Prop where
  kind : sc.kind = .function
  co : sc.isCoroutine = false
  gen : sc.isGenerator = false
  nd : N.Nodup
  pre : N.take P.length = P
  par : ∀ x ∈ P, sc.names.lookup x = some .local ∨ sc.names.lookup x = some .cell
  nofree : ∀ y ∈ sc.names, y.2 ≠ .free

theorem bindL_out {kindOf : Str → Option NameKind} {x : Str} : ∀ {binds : List (Str × Value)} {m : Str → Option Value}, (∀ v, (x, v) ∉ binds) → bindL kindOf binds m x = m x
  | [], _, _ => rfl
  | (n, v) :: r, m, h => by
    unfold bindL
    rw [bindL_out fun w hw => h w (List.mem_cons_of_mem _ hw)]
    split
    · have : x ≠ n := by rintro rfl; exact h v List.mem_cons_self
      simp [this]
    · rfl
theorem bindC_out {kindOf : Str → Option NameKind} {x : Str} : ∀ {binds : List (Str × Value)} {m : Str → Option Value}, (∀ v, (x, v) ∉ binds) → bindC kindOf binds m x = m x
  | [], _, _ => rfl
  | (n, v) :: r, m, h => by
    unfold bindC
    rw [bindC_out fun w hw => h w (List.mem_cons_of_mem _ hw)]
    split
    · rfl
    · have : x ≠ n := by rintro rfl; exact h v List.mem_cons_self
      simp [this]
theorem bindL_get {kindOf : Str → Option NameKind} {x : Str} {v : Value} : ∀ {P : List Str} {vs : List Value} {i : Nat} {m : Str → Option Value}, P.Nodup → P[i]? = some x → vs[i]? = some v → kindOf x = some .local →
    bindL kindOf (P.zip vs) m x = some v
  | [], _, _, _, _, h, _, _ => by simp at h
  | _ :: _, [], _, _, _, _, h, _ => by simp at h
  | p :: P, w :: vs, 0, m, nd, h1, h2, hk => by
    simp at h1 h2; subst h1; subst h2
    show bindL kindOf ((p, w) :: P.zip vs) m p = _
    unfold bindL
    rw [bindL_out fun v hv => (List.nodup_cons.mp nd).1 (List.of_mem_zip hv).1, if_pos hk]
    simp
  | p :: P, w :: vs, i + 1, m, nd, h1, h2, hk => by
    show bindL kindOf ((p, w) :: P.zip vs) m x = _
    unfold bindL
    exact bindL_get (i := i) (List.nodup_cons.mp nd).2 (by simpa using h1) (by simpa using h2) hk
theorem bindC_get {kindOf : Str → Option NameKind} {x : Str} {v : Value} : ∀ {P : List Str} {vs : List Value} {i : Nat} {m : Str → Option Value}, P.Nodup → P[i]? = some x → vs[i]? = some v → kindOf x ≠ some .local →
    bindC kindOf (P.zip vs) m x = some v
  | [], _, _, _, _, h, _, _ => by simp at h
  | _ :: _, [], _, _, _, _, h, _ => by simp at h
  | p :: P, w :: vs, 0, m, nd, h1, h2, hk => by
    simp at h1 h2; subst h1; subst h2
    show bindC kindOf ((p, w) :: P.zip vs) m p = _
    unfold bindC
    rw [bindC_out fun v hv => (List.nodup_cons.mp nd).1 (List.of_mem_zip hv).1, if_neg hk]
    simp
  | p :: P, w :: vs, i + 1, m, nd, h1, h2, hk => by
    show bindC kindOf ((p, w) :: P.zip vs) m x = _
    unfold bindC
    exact bindC_get (i := i) (List.nodup_cons.mp nd).2 (by simpa using h1) (by simpa using h2) hk

/-- the names' values at the entry -/
def start (N : List Str) (vs : List V) : St := vs.map some ++ List.replicate (N.length - vs.length) none

/-- the context of a def's body, at its entry; an exception leaves the frame, then lies as CX says -/
def cxOf (CX : CXT) (P : Program) (w : World) (K : PySem.W.Frag) (mg : Str → Option Value) (base : Heap) (N : List Str) (qual : Str) (scope : Scope) (f : Addr) (cd : Value) (A : Around) (outer : List Env) (s : Shared) (H : Hp) (E : XK) : Cx where
  prog := P
  w := w
  K := K
  mg := mg
  base := base
  A := A.deeper (envOfC qual scope s.heap.objs.size f cd)
  N := N
  s₀ := s
  H₀ := H
  env := envOfC qual scope s.heap.objs.size f cd
  outer := outer
  stack := envOfC qual scope s.heap.objs.size f cd :: outer
  ex := []
  calm := true
  fn := fun _ => true
  pn := []
  xe := fun e s' => wpAny (model P w) (A.deeper (envOfC qual scope s.heap.objs.size f cd)) (leaving (envOfC qual scope s.heap.objs.size f cd) e) (fun _ s'' => CX outer H s E e s'') (fun e' s'' => CX outer H s E e' s'') s'

theorem cell_has {sc : Scope} {n : Nat} {x : Str} (h : sc.names.lookup x = some .cell) : ∃ c, (cellsFrom n sc.names []).lookup x = some c := by
  have q := PySem.W.cellsFrom_some sc.names n [] (.inl h)
  exact Option.isSome_iff_exists.mp q

theorem inv_start {CX : CXT} {P : Program} {w : World} {K : PySem.W.Frag} {mg : Str → Option Value} {base : Heap} {N ps : List Str} {qual : Str} {scope : Scope} {f : Addr} {cd : Value} {A : Around} {outer : List Env} {s s1 : Shared} {H : Hp} {E : XK} {us : List Value} {vs : List V}
    (S : FnScope N ps scope) (hd : A.handled = none) (e0 : Env0 P w K mg base A outer s H) (hl : vs.length = ps.length) (r : Vals vs us)
    (x : InCallC s s.heap.objs.size (bindL (envOfC qual scope s.heap.objs.size f cd).kindOf (ps.zip us) fun _ => none) (cellsFrom (s.heap.objs.size + 1) scope.names []) (bindC (envOfC qual scope s.heap.objs.size f cd).kindOf (ps.zip us) fun _ => none) s1) :
    Inv (cxOf CX P w K mg base N qual scope f cd A outer s H E) [] (start N vs) H s1 := by
  have hpl : ps.length ≤ N.length := by have := congrArg List.length S.pre; rw [List.length_take] at this; omega
  obtain ⟨h1, tk, rfl, hk⟩ := x.done
  have noA : ∀ b : Addr, b ∉ (cxOf CX P w K mg base N qual scope f cd A outer s H E).ex := fun b z => absurd (show b ∈ ([] : List Addr) from z) (by simp)
  refine ⟨⟨e0.mod, S.kind, rfl, rfl, Nat.le_refl _, fun y z c h1 h2 => ?_, fun y hy => ?_, fun y c _ h => ?_, fun _ => hd, Around.frames_deeper e0.frames, .inr ⟨rfl, rfl⟩, fun b z => absurd z (noA b), e0.bs, e0.bsz, fun b _ _ => noA b, fun b z => absurd z (noA b), e0.funs, e0.frf⟩,
    rfl, e0.bare, Un.kept hk, ⟨_, x.toInCall.ns, fun i y v h1 h2 h3 => ?_⟩, fun y c h => ⟨_, x.cell y c h⟩, e0.hok.fresh (Nat.le_refl _), fun y c h => ?_, fun p hp => absurd (show p ∈ ([] : List (Addr × Obj)) from hp) (by simp), e0.hok.kept hk, ?_⟩
  · exact name_of_addr x.apart (PySem.mem_of_lookup h1) (PySem.mem_of_lookup h2)
  · have hy : scope.names.lookup y = some .cell ∨ scope.names.lookup y = some .free := hy
    rcases hy with hy | hy
    · exact cell_has hy
    · exact absurd rfl (S.nofree _ (PySem.mem_of_lookup hy))
  · exact Nat.le_of_lt (x.above y c (PySem.mem_of_lookup h))
  · have hi : i < vs.length := by
      unfold start at h2
      by_cases hi : i < vs.length
      · exact hi
      · rw [List.getElem?_append_right (by simpa using hi)] at h2
        rw [List.getElem?_replicate] at h2
        split at h2 <;> cases h2
    have ha : vs[i]? = some v := by
      unfold start at h2
      rw [List.getElem?_append_left (by simpa using hi), List.getElem?_map] at h2
      cases e : vs[i]? with
      | none => rw [e] at h2; cases h2
      | some a => rw [e] at h2; cases h2; rfl
    obtain ⟨u, hu, rv⟩ := r.get ha
    have hp : ps[i]? = some y := by
      rw [← S.pre, List.getElem?_take_of_lt (by omega)]; exact h1
    have ndP : ps.Nodup := by rw [← S.pre]; exact S.nd.sublist (List.take_sublist _ _)
    refine ⟨u, rv, ?_⟩
    rcases S.par y (List.mem_of_getElem? hp) with k | k
    · exact .inl ⟨k, bindL_get ndP hp hu k⟩
    · obtain ⟨c, e⟩ := cell_has (n := s.heap.objs.size + 1) k
      refine .inr ⟨.inl k, c, e, ?_⟩
      have q := x.cell y c e
      rw [bindC_get ndP hp hu (by show scope.names.lookup y ≠ _; rw [k]; decide)] at q
      exact q
  · exact e0.hok.fresh (Nat.le_of_lt (x.above y c (PySem.mem_of_lookup h)))
  · unfold start
    show _ = N.length
    rw [List.length_append, List.length_map, List.length_replicate]
    omega

/-- THE RULE: a def (or a method) of the text, by its body. The body's reading t is chosen for each entry; it is run at the parameters' values -/
theorem fn_of {CX : CXT} {P : Program} {w : World} {K : PySem.W.Frag} {mg : Str → Option Value} {base : Heap} {k : Nat} {f : Addr} {name qual : Str} {params : Arguments} {body : List Stmt} {scope : Scope} {dV kV doc pm cdv ct oc : Value} {an od : Option Addr}
    {osl : Array (Option Value)} {N ps : List Str} {sp : Sp} (lk : K.lookup f = some ⟨oc, od, .func (PySem.W.fnOf name qual params body scope dV kV doc pm an cdv ct), osl⟩) (hcd : PySem.W.codeIn K cdv qual = true) (S : FnScope N ps scope)
    (len : ∀ vs H Q E, sp vs H Q E → vs.length = ps.length)
    (hbody : ∀ (A : Around) (outer : List Env) (s : Shared) (H : Hp) (vs : List V) (Q : VK) (E : XK), Room k (A.deeper (envOfC qual scope s.heap.objs.size f cdv)) → sp vs H Q E →
      ∃ t, PSs (cxOf CX P w K mg base N qual scope f cdv A outer s H E) body t ∧ t { nx := fun _ H' => Q .non H', rt := Q } (start N vs) H) :
    FnOk P w K mg base CX (k + 1) f (PySem.W.fnOf name qual params body scope dV kV doc pm an cdv ct) ps sp := by
  refine ⟨len, fun A outer s H args us vs Q E hr e0 hb r hsp => ?_⟩
  have hl := len _ _ _ _ hsp
  have KX : K.In s.heap := e0.mod.kin.keeps fun b o e => (e0.bs b o e).1
  have lim : s.heap.NoLimit := e0.mod.nolimit.keeps fun b o e => (e0.bs b o e).1
  have hkind : ∀ y ∈ ps.zip us, scope.names.lookup y.1 = some .local ∨ (scope.names.lookup y.1 = some .cell ∧ ((cellsFrom (s.heap.objs.size + 1) scope.names []).lookup y.1).isSome = true) := fun ⟨n, v⟩ hy => by
    rcases S.par n (List.of_mem_zip hy).1 with q | q
    · exact .inl q
    · exact .inr ⟨q, PySem.W.cellsFrom_some _ _ _ (.inl q)⟩
  refine codeAny_call_function hr.depth (KX _ _ lk) rfl S.co S.gen rfl (PySem.W.codeRec_of KX hcd) (hb _ _ _ _ ?_)
  refine wpAny_newFunctionEnv_cells S.kind hkind fun env he s1 x => ?_
  subst he
  refine ⟨lim.keeps x.toInCall.keep, codeAny_func ?_⟩
  obtain ⟨t, ht, hq⟩ := hbody A outer s H vs Q E (hr.deeper _) hsp
  have I : Inv (cxOf CX P w K mg base N qual scope f cdv A outer s H E) [] (start N vs) H s1 := inv_start S hr.hd e0 hl r x
  refine wpAny_mono (ht [] s1 (start N vs) H _ I hq) (fun fl s' hs => ?_) fun e s' hs => hs
  have fin : ∀ {σ' : St} {H' : Hp} {v : V} {u : Value}, Inv (cxOf CX P w K mg base N qual scope f cdv A outer s H E) [] σ' H' s' → RelV v u → Q v H' → CE outer P w H s Q u s' :=
    fun {σ' H' v u} J rv q => ⟨v, H', J.os, J.bare, J.base, J.hok, rv, q⟩
  cases fl with
  | ret u =>
    obtain ⟨v, σ', H', J, rv, q⟩ := hs
    exact fin J rv q
  | next =>
    obtain ⟨σ', H', J, q⟩ := hs
    exact fin (v := V.non) (u := Value.none) J rfl q
  | brk =>
    obtain ⟨_, _, _, q⟩ := hs
    exact False.elim q
  | cont =>
    obtain ⟨_, _, _, q⟩ := hs
    exact False.elim q
end L2

namespace L2
open PySem PySem.Spec PyProof.Rows
section
variable {X : Cx} {x : Str} {p pos : Pos} {e : Expr} {es : List Expr} {t : TA} {id T : String} {r : List V → Hp → VK → Prop}

def tCB (r : List V → Hp → VK → Prop) (t : TA) : TE := fun σ H Q => t σ H fun vs H1 => r vs H1 Q
/-- f(e, ..), f a built-in function -/
theorem pe_callB (hc : CallR X (.builtin id) r) (hg : Gl X x) (hm : X.mg x = none) (hv : bootBuiltins x = some (.builtin id)) (ha : PA X (e :: es) t) (hn : x ≠ "__name__" := by decide) (hdb : (x == ("__debug__" : Str)) = false := by decide)
    (he : starEach (e :: es) X.env = (false, eval e X.env) :: starEach es X.env := by rfl) (hpl : (backTo pos (starEach es X.env)).any (·.1) = false := by rfl) : PE X (.Call (.Name x p) (e :: es) [] pos) (tCB r t) := by
  intro pins s σ H Q I h
  refine wpAny_Call_Name_kw (ld_blt I hg hm hv ?_ hn hdb)
  exact PyProof.Rows.callWith_builtin1 (thn (ha pos pins s σ H _ I h) fun us s1 ⟨vs, H1, I1, r1, q1⟩ => hc pins s1 σ H1 vs us Q I1 r1 q1) he hpl
/-- T(e, ..), T a built-in type -/
theorem pe_callTy (hc : CallR X (.type T) r) (hg : Gl X x) (hm : X.mg x = none) (hv : bootBuiltins x = some (.type T)) (ha : PA X (e :: es) t) (hn : x ≠ "__name__" := by decide) (hdb : (x == ("__debug__" : Str)) = false := by decide)
    (he : starEach (e :: es) X.env = (false, eval e X.env) :: starEach es X.env := by rfl) (hpl : (backTo pos (starEach es X.env)).any (·.1) = false := by rfl) : PE X (.Call (.Name x p) (e :: es) [] pos) (tCB r t) := by
  intro pins s σ H Q I h
  refine wpAny_Call_Name_kw (ld_blt I hg hm hv ?_ hn hdb)
  exact PyProof.Rows.callWith_type1 (thn (ha pos pins s σ H _ I h) fun us s1 ⟨vs, H1, I1, r1, q1⟩ => hc pins s1 σ H1 vs us Q I1 r1 q1) he hpl
end
end L2

namespace HT
open PySem PyProof.Rows

/-- t < u of tuples of ints -/
def lexLt : List Int → List Int → Bool
  | [], [] => false
  | [], _ :: _ => true
  | _ :: _, [] => false
  | x :: xs, y :: ys => if x = y then lexLt xs ys else decide (x < y)
section
open PySem.SeqAt
open PySem.AutoSeq1 (wpAny_loadPart')
open PySem.MeetsSeq PySem.MeetsSeq2 PySem.MeetsSeq3

end

section
variable {prog : Program} {w : World} {A : Around} {E : Value → Shared → Prop} {s : Shared}

/-! ### t[a:b], not the whole -/
/-- a slice's bound as a place among n (d where it is left out) -/
def sIx (n d : Nat) : Option Int → Nat
  | none => d
  | some v => if v < 0 then (v + (n : Int)).toNat else min v.toNat n
theorem sIx_none (n d : Nat) : sIx n d none = d := rfl
theorem sIx_nat (n d k : Nat) : sIx n d (some (k : Int)) = min k n := by
  show (if (k : Int) < 0 then ((k : Int) + (n : Int)).toNat else min (k : Int).toNat n) = min k n
  rw [if_neg (by omega), Int.toNat_natCast]
end
end HT

namespace L2
open PySem PySem.Spec PyProof.Rows

/-! ### the parts of a slice -/
abbrev TO := St → Hp → (Option Int → Hp → Prop) → Prop
/-- a slice's part (left out, or an int) -/
def PO (X : Cx) (e : Option Expr) (t : TO) : Prop :=
  ∀ (pins : List (Addr × Obj)) (s : Shared) (σ : St) (H : Hp) (Q : Option Int → Hp → Prop), Inv X pins σ H s → t σ H Q →
    wpAny (model X.prog X.w) X.A (evalPart e X.env) (fun u s' => ∃ o H', Inv X pins σ H' s' ∧ IsPart u o ∧ Q o H') X.xe s
def tNoPart : TO := fun _ H Q => Q none H
def tPart (t : TE) : TO := fun σ H Q => t σ H fun x H1 => ∃ i, x = .int i ∧ Q (some i) H1

section
variable {X : Cx} {e : Expr} {te : TE} {lo hi : Option Expr} {tl th : TO} {pos p2 : Pos}

theorem po_none : PO X none tNoPart := by
  intro pins s σ H Q I h
  rw [evalPart_none]
  exact wpAny_pure ⟨none, H, I, .none, h⟩
theorem po_some (h : PE X e te) : PO X (some e) (tPart te) := by
  intro pins s σ H Q I hw
  rw [evalPart_some]
  refine thn (h pins s σ H _ I hw) fun u s1 ⟨x, H1, I1, r1, q1⟩ => ?_
  obtain ⟨i, rfl, q⟩ := q1
  obtain ⟨t, rfl⟩ := r1
  exact ⟨some i, H1, I1, .int i t, q⟩

/-- what a slice of a value is, by values: the slice object stands at sl -/
def SlR (X : Cx) (r : V → Option Int → Option Int → Hp → VK → Prop) : Prop :=
  ∀ (pins : List (Addr × Obj)) (s : Shared) (σ : St) (H : Hp) (x : V) (v vl vu : Value) (lo hi : Option Int) (sl : Addr) (Q : VK), Inv X pins σ H s → RelV x v → s.heap.IsSliceOf sl vl vu .none → IsPart vl lo → IsPart vu hi → r x lo hi H Q →
    ∃ T id, typeLookup (.type T) "__getitem__" = pure (some (.builtin id)) ∧ s.TypeIs v T ∧ wpAny (model X.prog X.w) X.A (getItem v (.ref sl)) (EP X pins σ Q) X.xe s
def tSl (r : V → Option Int → Option Int → Hp → VK → Prop) (te : TE) (tl th : TO) : TE := fun σ H Q => te σ H fun x H1 => tl σ H1 fun l H2 => th σ H2 fun u H3 => r x l u H3 Q
/-- a[lo:hi], any a -/
theorem pe_slice {r : V → Option Int → Option Int → Hp → VK → Prop} (hr : SlR X r) (he : PE X e te) (hl : PO X lo tl) (hu : PO X hi th) : PE X (.Subscript e (.Slice lo hi none p2) pos) (tSl r te tl th) := by
  intro pins s σ H Q I h
  refine Subscript_ (thn (he pins s σ H _ I h) fun v s1 ⟨x, H1, I1, r1, q1⟩ => ?_)
  refine wpAny_Slice (thn (hl pins s1 σ H1 _ I1 q1) fun vl s2 ⟨l, H2, I2, pl, q2⟩ => thn (hu pins s2 σ H2 _ I2 q2) fun vu s3 ⟨u, H3, I3, pu, q3⟩ => ?_)
  rw [evalPart_none]
  refine wpAny_pure ?_
  have I4 : Inv X pins σ H3 { s3 with heap := s3.heap.push { cls := .type "slice", data := .fields #[vl, vu, .none] } } := I3.kept (t' := s3.toks) fun b ob q => Heap.get?_push_of_some _ q
  obtain ⟨T, id, hT, ht, hg⟩ := hr pins { s3 with heap := s3.heap.push { cls := .type "slice", data := .fields #[vl, vu, .none] } } σ H3 x v vl vu l u s3.heap.objs.size Q I4 r1 (Heap.IsSliceOf.new ..) pl pu q3
  show wpAny (model X.prog X.w) X.A (subscriptTail e (.Slice lo hi none p2) v (.ref s3.heap.objs.size)) (EP X pins σ Q) X.xe { s3 with heap := s3.heap.push { cls := .type "slice", data := .fields #[vl, vu, .none] } }
  exact tail_any (ops := [.ref s3.heap.objs.size, v]) ht hT hg (by with_unfolding_all rfl)

/-- the items of xs[lo:hi] -/
def cutV (xs : List V) (lo hi : Option Int) : List V := (xs.drop (HT.sIx xs.length 0 lo)).take (HT.sIx xs.length xs.length hi - HT.sIx xs.length 0 lo)
theorem cutV_length (xs : List V) (lo hi : Option Int) : (cutV xs lo hi).length ≤ xs.length := by
  unfold cutV
  rw [List.length_take, List.length_drop]
  omega
/-- t[lo:hi], not the whole of it (the whole would be t itself) -/
def rSlT (K : PySem.W.Frag) : V → Option Int → Option Int → Hp → VK → Prop := fun x lo hi H Q => ∃ a xs, x = .ref a ∧ SqT K H a xs ∧
  ¬ (HT.sIx xs.length 0 lo = 0 ∧ HT.sIx xs.length xs.length hi = xs.length) ∧ ∀ p, H p = none → Q (.ref p) (upd H p (.tup (cutV xs lo hi)))
/-! ### t < u, t + u -/
def rLtT (K : PySem.W.Frag) : R2 := fun x y H Q => ∃ a b ns ms, x = .ref a ∧ y = .ref b ∧ SqT K H a (ns.map V.int) ∧ SqT K H b (ms.map V.int) ∧ Q (.bl (HT.lexLt ns ms)) H
/-- t + u, t not empty: u empty gives t itself -/
def rCatT (K : PySem.W.Frag) : R2 := fun x y H Q => ∃ a b xs ys, x = .ref a ∧ y = .ref b ∧ SqT K H a xs ∧ SqT K H b ys ∧ xs ≠ [] ∧ xs.length + ys.length ≤ sizeLine ∧
  (ys = [] → Q (.ref a) H) ∧ (ys ≠ [] → ∀ p, H p = none → Q (.ref p) (upd H p (.tup (xs ++ ys))))
end
end L2

namespace L2
open PySem PySem.Spec PyProof.Rows

/-! ### places -/
/-- the place that an index of any sign means -/
def ixN (n : Nat) (i : Int) : Option Nat := if 0 ≤ i then (if i < n then some i.toNat else none) else if -(n : Int) ≤ i then some (i + n).toNat else none
def atI {α : Type} (xs : List α) (i : Int) : Option α := (ixN xs.length i).bind fun j => xs[j]?
theorem ixN_seq {n : Nat} {i : Int} {j : Nat} (h : ixN n i = some j) : seqIndex? i n = some j ∧ j < n ∧ -(n : Int) ≤ i ∧ i < n := by
  unfold ixN at h
  by_cases h0 : 0 ≤ i
  · rw [if_pos h0] at h
    by_cases h1 : i < n
    · rw [if_pos h1] at h
      have e : i.toNat = j := Option.some.inj h
      exact ⟨by rw [seqIndex_of h0 h1, e], by omega, by omega, h1⟩
    · rw [if_neg h1] at h; cases h
  · rw [if_neg h0] at h
    by_cases h1 : -(n : Int) ≤ i
    · rw [if_pos h1] at h
      have e : (i + n).toNat = j := Option.some.inj h
      exact ⟨by rw [seqIndex_neg (by omega) h1, e], by omega, h1, by omega⟩
    · rw [if_neg h1] at h; cases h
theorem atI_get {α : Type} {xs : List α} {i : Int} {v : α} (h : atI xs i = some v) : ∃ j, seqIndex? i xs.length = some j ∧ xs[j]? = some v ∧ j < xs.length ∧ -(xs.length : Int) ≤ i ∧ i < xs.length := by
  unfold atI at h
  cases e : ixN xs.length i with
  | none => rw [e] at h; cases h
  | some j =>
    rw [e] at h
    obtain ⟨h1, h2, h3, h4⟩ := ixN_seq e
    exact ⟨j, h1, h, h2, h3, h4⟩
theorem atI_nat {α : Type} {xs : List α} {j : Nat} {v : α} (h : xs[j]? = some v) : atI xs (j : Int) = some v := by
  have hj : j < xs.length := (List.getElem?_eq_some_iff.mp h).1
  have e : ixN xs.length (j : Int) = some j := by
    unfold ixN
    rw [if_pos (by omega), if_pos (by omega)]; simp
  unfold atI; rw [e]; exact h
/-! ### what may be subscripted -/
/-- what stands as an index of a plain subscript -/
def PlainIx (b : Expr) : Prop := ∀ o i, subscripted b false o i = operate [o, i] (getItem o i)
/-- a subscript by values -/
def IxR (X : Cx) (r : R2) : Prop :=
  ∀ (value slice : Expr) (pins : List (Addr × Obj)) (s : Shared) (σ : St) (H : Hp) (x y : V) (v u : Value) (Q : VK), Inv X pins σ H s → RelV x v → RelV y u → r x y H Q →
    subscripted slice false v u = operate [v, u] (getItem v u) → wpAny (model X.prog X.w) X.A (subscriptTail value slice v u) (EP X pins σ Q) X.xe s
/-- a call of a builtin's method by values: the receiver, the arguments -/
def MtR (X : Cx) (id : String) (r : V → List V → Hp → VK → Prop) : Prop :=
  ∀ (pins : List (Addr × Obj)) (s : Shared) (σ : St) (H : Hp) (x : V) (xs : List V) (v : Value) (us : List Value) (Q : VK), Inv X pins σ H s → RelV x v → Vals xs us → r x xs H Q →
    wpAny (model X.prog X.w) X.A (call (.builtin id) (v :: us)) (EP X pins σ Q) X.xe s
section
variable {X : Cx} {a b : Expr} {ta tb : TE} {pos : Pos}
/-- a[b] -/
theorem pe_ix {r : R2} (hr : IxR X r) (ha : PE X a ta) (hb : PE X b tb) (hs : PlainIx b) : PE X (.Subscript a b pos) (tOp r ta tb) := by
  intro pins s σ H Q I h
  exact Subscript_ (binT ha hb I h fun v u s2 x y H2 I2 rx ry q => hr a b pins s2 σ H2 x y v u Q I2 rx ry q (hs _ _))

def rIxL (K : PySem.W.Frag) : R2 := fun x y H Q => ∃ p xs i v, x = .ref p ∧ y = .int i ∧ SqL K H p xs ∧ atI xs i = some v ∧ Q v H
def rIxT (K : PySem.W.Frag) : R2 := fun x y H Q => ∃ p xs i v, x = .ref p ∧ y = .int i ∧ SqT K H p xs ∧ atI xs i = some v ∧ Q v H
def rIxS : R2 := fun x y H Q => ∃ z i c, x = .str z ∧ y = .int i ∧ z.length ≤ sizeLine ∧ atI z.cps.toList i = some c ∧ Q (.str ⟨#[c]⟩) H
theorem ix_list : IxR X (rIxL X.K) := by
  intro value slice pins s σ H x y v u Q I rx ry h hs
  obtain ⟨p, xs, i, z, rfl, rfl, hq, he, q⟩ := h
  cases rx
  obtain ⟨t, rfl⟩ := ry
  obtain ⟨its, r, pl, hz⟩ := I.list hq
  obtain ⟨j, h1, h2, h3, h4, h5⟩ := atI_get he
  obtain ⟨w, ew, rw'⟩ := r.get h2
  have hl := r.length
  have hn := line63
  have fin : EP X pins σ Q w s := ⟨z, H, I, rw', q⟩
  by_cases h0 : 0 ≤ i
  · have hj : i.toNat = j := by
      rw [seqIndex_of h0 h5] at h1
      exact Option.some.inj h1
    exact item_listR pl.isList h0 (by omega) (by rw [hj]; simpa using ew) fin hs
  · have hj : (i + (its.toArray.size : Int)).toNat = j := by
      rw [seqIndex_neg (by omega) h4] at h1
      rw [List.size_toArray, ← hl]
      exact Option.some.inj h1
    exact subscriptTail_builtinR (x := w) pl.isList.typeIs slot_list_getitem.lookup
      (wpAny_getItem_list_neg (Q := fun r s' => r = w ∧ EP X pins σ Q r s') pl.isList (by omega) (by rw [List.size_toArray] <;> omega) (by omega) (by rw [hj]; simpa using ew) ⟨rfl, fin⟩) hs
theorem ix_tup : IxR X (rIxT X.K) := by
  intro value slice pins s σ H x y v u Q I rx ry h hs
  obtain ⟨p, xs, i, z, rfl, rfl, hq, he, q⟩ := h
  cases rx
  obtain ⟨t, rfl⟩ := ry
  obtain ⟨its, r, pl, hz⟩ := I.tuple hq
  obtain ⟨j, h1, h2, h3, h4, h5⟩ := atI_get he
  obtain ⟨w, ew, rw'⟩ := r.get h2
  have hl := r.length
  have hn := line63
  have fin : EP X pins σ Q w s := ⟨z, H, I, rw', q⟩
  exact subscriptTail_builtinR (x := w) pl.typeIs slot_tuple_getitem.lookup
    (getItem_tuple (j := j) (Q := fun r s' => r = w ∧ EP X pins σ Q r s') pl (by omega) (by omega) (by rw [List.size_toArray, ← hl]; exact h1) (by simpa using ew) ⟨rfl, fin⟩) hs
/-- list, tuple or str -/
def rIx (K : PySem.W.Frag) : R2 := fun x y H Q => rIxL K x y H Q ∨ rIxT K x y H Q ∨ rIxS x y H Q
/-! ### xs[i] = v, any sign -/
/-- the list's object behind a store -/
theorem mapSeq_set (its : List Value) (n j : Nat) (u : Value) : Obj.mapSeq (·.setIfInBounds j u) { cls := .type "list", data := .seq its.toArray n } = { cls := .type "list", data := .seq (its.set j u).toArray n } := by
  simp [Obj.mapSeq]
theorem Inv.lst {pins : List (Addr × Obj)} {σ : St} {H : Hp} {s : Shared} {p : Addr} {xs : List V} (I : Inv X pins σ H s) (h : H p = some (.lst xs)) :
    ∃ (its : List Value) (n : Nat), Vals xs its ∧ s.heap.get? p = some { cls := .type "list", data := .seq its.toArray n } ∧ xs.length ≤ sizeLine := by
  obtain ⟨z, its, n, r, e⟩ := I.hok p _ h
  exact ⟨its, n, r, e, z⟩
/-- the list at p is written by an update of its object -/
theorem Inv.lstUpd {pins : List (Addr × Obj)} {σ : St} {H : Hp} {s : Shared} {p : Addr} {xs ys : List V} {its its' : List Value} {n n' : Nat} {f : Obj → Obj} (I : Inv X pins σ H s) (h : H p = some (.lst xs))
    (ho : s.heap.get? p = some { cls := .type "list", data := .seq its.toArray n }) (hf : f { cls := .type "list", data := .seq its.toArray n } = { cls := .type "list", data := .seq its'.toArray n' }) (r : Vals ys its') (hz : ys.length ≤ sizeLine) (t : Nat) :
    Inv X pins σ (upd H p (.lst ys)) { s with heap := s.heap.update p f, toks := t } := by
  have e : (s.heap.update p f).get? p = some { cls := .type "list", data := .seq its'.toArray n' } := by
    rw [Heap.get?_update_self f ho (by rw [hf] <;> rfl), hf]
  refine I.write (x := p) (e := p) (by rw [h]; trivial) (.inl rfl) (fun b u hb q => (Heap.get?_update_other _ _ (Ne.symm hb)).trans q) ⟨_, e⟩ ?_
  exact ⟨hz, its', n', r, e⟩
def rSetL : V → V → V → Hp → (Hp → Prop) → Prop := fun o i v H Q => ∃ p xs k j, o = .ref p ∧ i = .int k ∧ H p = some (.lst xs) ∧ ixN xs.length k = some j ∧ Q (upd H p (.lst (xs.set j v)))
theorem set_list : PSet X rSetL := by
  intro pins s σ H o i v ov iv u Q I ro ri rv h
  obtain ⟨p, xs, k, j, rfl, rfl, hp, hj, q⟩ := h
  cases ro
  obtain ⟨t, rfl⟩ := ri
  obtain ⟨its, n, r, ho, hz⟩ := I.lst hp
  obtain ⟨h1, h2, h3, h4⟩ := ixN_seq hj
  have hl := r.length
  have hn := line63
  have I' : Inv X pins σ (upd H p (.lst (xs.set j v))) { s with heap := s.heap.update p (Obj.mapSeq (·.setIfInBounds j u)) } :=
    I.lstUpd hp ho (mapSeq_set its n j u) (r.set rv j) (by rw [List.length_set]; exact hz) s.toks
  by_cases h0 : 0 ≤ k
  · have hk : k.toNat = j := by
      rw [seqIndex_of h0 h4] at h1
      exact Option.some.inj h1
    exact PySem.W.ki_setAt ho h0 (by omega) (by rw [List.size_toArray, ← hl]; exact h4) (by rw [hk]; exact ⟨_, I', q⟩)
  · have hk : (k + (its.toArray.size : Int)).toNat = j := by
      rw [seqIndex_neg (by omega) h3] at h1
      rw [List.size_toArray, ← hl]
      exact Option.some.inj h1
    exact PySem.W.ki_setBack ho (by omega) (by rw [List.size_toArray, ← hl]; exact h3) (by omega) (by rw [hk]; exact ⟨_, I', q⟩)

/-! ### slices -/
theorem slice_bounds (lo hi : Option Int) (n : Nat) : (sliceBounds lo hi none n).1 = ((HT.sIx n 0 lo : Nat) : Int) ∧ (sliceBounds lo hi none n).2.1 = ((HT.sIx n n hi : Nat) : Int) ∧ (sliceBounds lo hi none n).2.2 = 1 := by
  refine ⟨?_, ?_, rfl⟩
  · cases lo with
    | none => simp [sliceBounds, HT.sIx]
    | some i =>
      simp only [sliceBounds, HT.sIx, Option.getD_none, show (1 : Int) > 0 by decide, if_true]
      by_cases h : i < 0
      · simp only [h, if_true] <;> omega
      · simp only [h, if_false] <;> omega
  · cases hi with
    | none => simp [sliceBounds, HT.sIx]
    | some i =>
      simp only [sliceBounds, HT.sIx, Option.getD_none, show (1 : Int) > 0 by decide, if_true]
      by_cases h : i < 0
      · simp only [h, if_true] <;> omega
      · simp only [h, if_false] <;> omega
theorem slicePick_cut (its : List Value) (lo hi : Option Int) : slicePick its.toArray lo hi none = ((its.drop (HT.sIx its.length 0 lo)).take (HT.sIx its.length its.length hi - HT.sIx its.length 0 lo)).toArray := by
  obtain ⟨h1, h2, h3⟩ := slice_bounds lo hi its.toArray.size
  unfold slicePick
  rw [h1, h2, h3]
  simp only [sliceRange_one, pick_run, List.size_toArray] <;> rfl
/-- xs[lo:hi] of a list: a new list -/
def rSlL (K : PySem.W.Frag) : V → Option Int → Option Int → Hp → VK → Prop := fun x lo hi H Q => ∃ a xs, x = .ref a ∧ SqL K H a xs ∧ ∀ p, H p = none → Q (.ref p) (upd H p (.lst (cutV xs lo hi)))
theorem sl_list : SlR X (rSlL X.K) := by
  intro pins s σ H x v vl vu lo hi sl Q I rx hs pl pu h
  obtain ⟨a, xs, rfl, hx, q⟩ := h
  cases rx
  obtain ⟨its, r, ht, hz⟩ := I.list hx
  have hlen := r.length
  refine ⟨"list", _, slot_list_getitem.lookup, ht.isList.typeIs, ?_⟩
  refine wpAny_getItem_list_slice ht.isList hs pl pu .none (by simp) ?_ (by rw [List.size_toArray] <;> omega)
  rw [slicePick_cut, ← hlen]
  refine ⟨.ref s.heap.objs.size, _, I.laid (t' := s.toks) (o := .lst (cutV xs lo hi)) (fun b ob q => Heap.get?_push_of_some _ q) (Nat.le_refl _) ?_, rfl, q _ (I.hok.fresh (Nat.le_refl _))⟩
  exact ⟨Nat.le_trans (cutV_length xs lo hi) hz, _, 0, (r.drop (HT.sIx xs.length 0 lo)).take (HT.sIx xs.length xs.length hi - HT.sIx xs.length 0 lo), Heap.get?_push_size _ rfl⟩

/-! ### in, not in: flat items -/
def flatV : V → Bool
  | .non => true
  | .bl _ => true
  | .int _ => true
  | .str _ => true
  | _ => false
/-- == of flat values -/
def eqV : V → V → Bool
  | .non, .non => true
  | .bl a, .bl b => a == b
  | .bl a, .int b => (if a then 1 else 0) == b
  | .int a, .bl b => a == (if b then 1 else 0)
  | .int a, .int b => a == b
  | .str a, .str b => a == b
  | _, _ => false
/-- the items' answers, read off the values (a value's own answer does not lean on its token) -/
def eqU (x : V) (u : Value) : Bool := match u with
  | .none => eqV .non x
  | .bool b => eqV (.bl b) x
  | .int i _ => eqV (.int i) x
  | .str z _ => eqV (.str z) x
  | _ => false
def inV (x : V) (xs : List V) : Bool := xs.any fun y => eqV y x
/-- x in a list or tuple of flat items -/
def rIn (K : PySem.W.Frag) (neg : Bool) : R2 := fun x y H Q => ∃ p xs, y = .ref p ∧ (SqL K H p xs ∨ SqT K H p xs) ∧ flatV x = true ∧ xs.all flatV = true ∧ Q (.bl (if neg then !inV x xs else inV x xs)) H
/-! ### len, list(x), tuple(x) of any list or tuple that is read -/
theorem call_len_seq : CallR X (.builtin "len") (fun xs H Q => ∃ p ys, xs = [.ref p] ∧ (SqL X.K H p ys ∨ SqT X.K H p ys) ∧ Q (.int ys.length) H) := by
  intro pins s σ H xs us Q I r h
  obtain ⟨p, ys, rfl, hq, q⟩ := h
  obtain ⟨u, rfl, rx⟩ := vals1 r
  cases rx
  have hn := line63
  rcases hq with hq | hq
  · obtain ⟨its, r', pl, hz⟩ := I.list hq
    have hlen := r'.length
    exact Calls.call_len_list pl.isList (by simp only [List.size_toArray] <;> omega) ⟨.int ys.length, H, I.tok _, ⟨s.toks + 1, by rw [List.size_toArray, hlen]⟩, q⟩
  · obtain ⟨its, r', pl, hz⟩ := I.tuple hq
    have hlen := r'.length
    exact len_tuple pl (by simp only [List.size_toArray] <;> omega) ⟨.int ys.length, H, I.tok _, ⟨s.toks + 1, by rw [List.size_toArray, hlen]⟩, q⟩
theorem call_len_str : CallR X (.builtin "len") (fun xs H Q => ∃ z, xs = [.str z] ∧ z.length ≤ sizeLine ∧ Q (.int z.length) H) := by
  intro pins s σ H xs us Q I r h
  obtain ⟨z, rfl, hz, q⟩ := h
  obtain ⟨u, rfl, t, rfl⟩ := vals1 r
  have hn := line63
  exact len_str (by omega) ⟨.int z.length, H, I.tok _, ⟨_, rfl⟩, q⟩
theorem call_tuple_of : CallR X (.type "tuple") (fun xs H Q => ∃ p ys, xs = [.ref p] ∧ ((SqL X.K H p ys ∧ ∀ l, H l = none → Q (.ref l) (upd H l (.tup ys))) ∨ (SqT X.K H p ys ∧ Q (.ref p) H))) := by
  intro pins s σ H xs us Q I r h
  obtain ⟨p, ys, rfl, h⟩ := h
  obtain ⟨u, rfl, rx⟩ := vals1 r
  cases rx
  rcases h with ⟨hq, q⟩ | ⟨hq, q⟩
  · obtain ⟨its, r', pl, hz⟩ := I.list hq
    have hlen := r'.length
    refine call_tuple_list pl.isList (fun h' kp => ?_) (by simp only [List.size_toArray] <;> omega)
    have I1 : Inv X pins σ H { s with heap := h' } := I.kept (t' := s.toks) kp
    have I2 : Inv X pins σ (upd H h'.objs.size (.tup ys)) { s with heap := h'.push { cls := .type "tuple", data := .seq its.toArray } } :=
      I1.laid (t' := s.toks) (fun b o e => Heap.get?_push_of_some _ e) (Nat.le_refl _) (show ObjOk X.prog X.w _ _ _ (.tup ys) from ⟨hz, its, r', IsTup.new _ _, _, Heap.get?_push_size _ rfl, rfl⟩)
    exact ⟨.ref h'.objs.size, _, I2, rfl, q _ (I1.hok.fresh (Nat.le_refl _))⟩
  · obtain ⟨its, r', pl, hz⟩ := I.tuple hq
    exact call_tuple_same pl ⟨.ref p, H, I, rfl, q⟩

/-! ### the call of a builtin's method: o.m(..) -/
/-- the value is of that builtin type -/
def tyV (K : PySem.W.Frag) (T : String) (x : V) (H : Hp) : Prop := match x with
  | .str _ => T = "str"
  | .int _ => T = "int"
  | .ref p => (T = "list" ∧ ∃ xs, SqL K H p xs) ∨ (T = "tuple" ∧ ∃ o, K.lookup p = some o ∧ o.cls = .type "tuple" ∧ o.dict = none) ∨
      (T = "dict" ∧ ((∃ kvs, H p = some (.dK kvs)) ∨ ∃ kvs, H p = some (.dT kvs))) ∨ (T = "set" ∧ ∃ S n, H p = some (.set S n))
  | _ => False
theorem tyV_is {pins : List (Addr × Obj)} {σ : St} {H : Hp} {s : Shared} {T : String} {x : V} {v : Value} (I : Inv X pins σ H s) (r : RelV x v) (ty : tyV X.K T x H) :
    s.TypeIs v T ∧ ∀ a, v = .ref a → ∃ ob, s.heap.get? a = some ob ∧ ob.dict = none := by
  cases x with
  | str z =>
    obtain ⟨t, rfl⟩ := r
    cases (show T = "str" from ty)
    exact ⟨typeIs_str s z t, fun _ e => nomatch e⟩
  | int i =>
    obtain ⟨t, rfl⟩ := r
    cases (show T = "int" from ty)
    exact ⟨typeIs_int s i t, fun _ e => nomatch e⟩
  | ref p =>
    cases r
    rcases ty with ⟨rfl, xs, hq⟩ | ⟨rfl, o, hk, hc, hd⟩ | ⟨rfl, hk⟩ | ⟨rfl, S, n, hk⟩
    · obtain ⟨its, _, pl, _⟩ := I.list hq
      refine ⟨pl.isList.typeIs, fun a e => ?_⟩
      cases e
      obtain ⟨o, n, e, c, hd, _⟩ := pl
      exact ⟨o, e, hd⟩
    · refine ⟨⟨o, I.kIn p o hk, hc⟩, fun a e => ?_⟩
      cases e
      exact ⟨o, I.kIn _ o hk, hd⟩
    · have z : ∃ o, s.heap.get? p = some o ∧ o.ExactDict := by
        rcases hk with ⟨kvs, hk⟩ | ⟨kvs, hk⟩
        · obtain ⟨_, _, _, _, o, _, _, e, ex, _⟩ := I.hok p _ hk
          exact ⟨o, e, ex⟩
        · obtain ⟨_, _, _, _, o, _, _, e, ex, _⟩ := I.hok p _ hk
          exact ⟨o, e, ex⟩
      obtain ⟨o, e, ex⟩ := z
      refine ⟨⟨o, e, ex.1⟩, fun a e2 => ?_⟩
      cases e2
      exact ⟨o, e, ex.2.1⟩
    · obtain ⟨o, _, _, _, e, ex, _⟩ := I.hok p _ hk
      refine ⟨⟨o, e, ex.1⟩, fun a e2 => ?_⟩
      cases e2
      exact ⟨o, e, ex.2.1⟩
  | _ => exact False.elim ty
def tBM0 (K : PySem.W.Frag) (T : String) (r : V → List V → Hp → VK → Prop) (to : TE) : TE := fun σ H Q => to σ H fun x H1 => tyV K T x H1 ∧ r x [] H1 Q
def tBM (K : PySem.W.Frag) (T : String) (r : V → List V → Hp → VK → Prop) (to : TE) (t : TA) : TE := fun σ H Q => to σ H fun x H1 => tyV K T x H1 ∧ t σ H1 fun xs H2 => r x xs H2 Q
variable {o e : Expr} {es : List Expr} {to : TE} {t : TA} {name : Str} {apos cpos : Pos} {T id : String} {r : V → List V → Hp → VK → Prop}
theorem pe_bm (pa : PlainAttrs T) (slot : Slot T name id) (hty : typeOf (.builtin id) = pure (.type "method_descriptor")) (hm : MtR X id r) (ho : PE X o to) (ha : PA X (e :: es) t)
    (hbase : attributeBase o name X.env (eval o X.env) = eval o X.env := by rfl)
    (hfew : ((backTo cpos (starEach (e :: es) X.env)).all (fun x => !x.1) && (backToKw cpos (keywordEach [] X.env)).all (fun x => x.1.isSome)
      && decide ((e :: es).length + ([] : List Keyword).length + (if ([] : List Keyword).isEmpty then 0 else 1) < 30)) = true := by rfl)
    (hline : (apos.endLine == cpos.line) = true := by rfl) (hs : starEach (e :: es) X.env = (false, eval e X.env) :: starEach es X.env := by rfl) (hplain : (backTo cpos (starEach es X.env)).any (·.1) = false := by rfl) :
    PE X (.Call (.Attribute o name apos) (e :: es) [] cpos) (tBM X.K T r to t) := by
  intro pins s σ H Q I h
  refine wpAny_Call_method_late hbase hfew hline rfl (thn (ho pins s σ H _ I h) fun v s1 ⟨x, H1, I1, r1, ty, q1⟩ => ?_)
  obtain ⟨h1, h2⟩ := tyV_is I1 r1 ty
  refine ⟨T, id, pa, slot, hty, h1, h2, ?_⟩
  have hA := ha cpos pins s1 σ H1 _ I1 q1
  rw [hs] at hA ⊢
  refine Calls.callWith_builtin (by show (false || (backTo cpos (starEach es X.env)).any (·.1)) = false; rw [hplain] <;> rfl) (Calls.evalArgs_plain ?_)
  exact thn hA fun us s2 ⟨vs, H2, I2, r2, q2⟩ => hm pins s2 σ H2 x vs v us Q I2 r1 r2 q2
/- xs.append(e), list.index on a module's tuple .. are MtR facts of 06m -/
end
end L2

namespace L2
open PySem PySem.Spec PyProof.Rows

def MtM (X : Cx) (id : String) (r : V → List V → Hp → VK → Prop) : Prop :=
  ∀ (pins : List (Addr × Obj)) (s : Shared) (σ : St) (H : Hp) (x : V) (xs : List V) (v : Value) (us : List Value) (Q : VK), Inv X pins σ H s → RelV x v → Vals xs us → r x xs H Q →
    wpAny (model X.prog X.w) X.A (call (.builtin id) (v :: us)) (EP X pins σ Q) X.xe s

/-! ### lists of values -/
theorem Vals.one : ∀ {x : V} {us : List Value}, Vals [x] us → ∃ u, us = [u] ∧ RelV x u
  | _, _, .cons r .nil => ⟨_, rfl, r⟩
section
variable {X : Cx} {pins : List (Addr × Obj)} {σ : St} {H : Hp} {s : Shared} {l b : Addr} {xs ys zs : List V}

/-! ### the two steps: a tracked list is rewritten, a new list is laid -/
theorem Inv.lset {its its' : List Value} {n : Nat} {f : Array Value → Array Value} {t' : Nat} (I : Inv X pins σ H s) (hH : H l = some (.lst xs))
    (e : s.heap.get? l = some { cls := .type "list", data := .seq its.toArray n }) (hf : f its.toArray = its'.toArray) (hv : Vals ys its') (hz : ys.length ≤ sizeLine) :
    Inv X pins σ (upd H l (.lst ys)) { s with heap := s.heap.update l (Obj.mapSeq f), toks := t' } := by
  have q := PySem.IsL.update e f
  rw [hf] at q
  refine I.write (x := l) (e := l) (by rw [hH]; exact trivial) (.inl rfl) (fun b' u hb hu => (Heap.get?_update_other s.heap (Obj.mapSeq f) (Ne.symm hb)).trans hu) ⟨_, q⟩ ?_
  exact ⟨hz, its', _, hv, q⟩
theorem Inv.lnew {its : List Value} {t' : Nat} (I : Inv X pins σ H s) (hv : Vals ys its) (hz : ys.length ≤ sizeLine) :
    Inv X pins σ (upd H s.heap.objs.size (.lst ys)) { s with heap := s.heap.push { cls := .type "list", data := .seq its.toArray }, toks := t' } :=
  I.laid (fun _ _ q => Heap.get?_push_of_some _ q) (Nat.le_refl _) ⟨hz, its, 0, hv, Heap.get?_push_size _ rfl⟩
theorem Inv.fresh (I : Inv X pins σ H s) : H s.heap.objs.size = none := I.hok.fresh (Nat.le_refl _)
theorem Inv.lstM (I : Inv X pins σ H s) (hH : H l = some (.lst xs)) : xs.length ≤ sizeLine ∧ ∃ (its : List Value) (n : Nat), Vals xs its ∧ xs.length = its.length ∧ s.heap.get? l = some { cls := .type "list", data := .seq its.toArray n } := by
  obtain ⟨z, its, n, r, e⟩ := I.hok l _ hH
  exact ⟨z, its, n, r, r.length, e⟩

end

section
variable {X : Cx}

/-! ### methods -/
def rAppend : V → List V → Hp → VK → Prop := fun x vs H Q => ∃ l xs y, x = .ref l ∧ vs = [y] ∧ H l = some (.lst xs) ∧ xs.length < sizeLine ∧ Q .non (upd H l (.lst (xs ++ [y])))
theorem mt_append : MtM X "list.append" rAppend := by
  intro pins s σ H x vs v us Q I rx rv h
  obtain ⟨l, xs, y, rfl, rfl, hH, hz, q⟩ := h
  cases rx
  obtain ⟨u, rfl, ru⟩ := rv.one
  obtain ⟨z, its, n, r, hl, e⟩ := I.lstM hH
  refine call_meets F.slot_list_append ⟨_, e, rfl⟩ F.entry_list_append (F.args_list_append_2 _ _) (PySem.list_append l its.toArray n u (by rw [List.size_toArray]; omega)) ⟨e, ?_⟩
  refine ⟨.non, _, I.lset (its' := its ++ [u]) hH e (by simp) (r.append (.cons ru .nil)) ?_, rfl, q⟩
  rw [List.length_append, List.length_singleton]
  omega

def rExtend : V → List V → Hp → VK → Prop := fun x vs H Q => ∃ l b xs zs, x = .ref l ∧ vs = [.ref b] ∧ H l = some (.lst xs) ∧ H b = some (.lst zs) ∧ xs.length + zs.length ≤ sizeLine ∧ Q .non (upd H l (.lst (xs ++ zs)))
def rPop : V → List V → Hp → VK → Prop := fun x vs H Q => ∃ l xs y, x = .ref l ∧ vs = [] ∧ H l = some (.lst xs) ∧ xs[xs.length - 1]? = some y ∧ Q y (upd H l (.lst xs.dropLast))
def rPopAt : V → List V → Hp → VK → Prop := fun x vs H Q => ∃ l xs i k y, x = .ref l ∧ vs = [.int i] ∧ H l = some (.lst xs) ∧ -(2 ^ 63) ≤ i ∧ i < 2 ^ 63 ∧ seqIndex? i xs.length = some k ∧ xs[k]? = some y ∧ Q y (upd H l (.lst (xs.eraseIdx k)))
def rReverse : V → List V → Hp → VK → Prop := fun x vs H Q => ∃ l xs, x = .ref l ∧ vs = [] ∧ H l = some (.lst xs) ∧ Q .non (upd H l (.lst xs.reverse))
def rClear : V → List V → Hp → VK → Prop := fun x vs H Q => ∃ l xs, x = .ref l ∧ vs = [] ∧ H l = some (.lst xs) ∧ Q .non (upd H l (.lst []))
/-! ### list + list, list += list, list * int -/
def rCat : R2 := fun x y H Q => ∃ l b xs zs, x = .ref l ∧ y = .ref b ∧ H l = some (.lst xs) ∧ H b = some (.lst zs) ∧ xs.length + zs.length ≤ sizeLine ∧ ∀ p, H p = none → Q (.ref p) (upd H p (.lst (xs ++ zs)))
theorem op_cat : OpR X (binaryOp .Add) rCat := by
  intro pins s σ H x y v u Q I rx ry h
  obtain ⟨l, b, xs, zs, rfl, rfl, hH, hB, hz, q⟩ := h
  cases rx
  cases ry
  obtain ⟨z, its, n, r, hl, e⟩ := I.lstM hH
  obtain ⟨z2, its2, n2, r2, hl2, e2⟩ := I.lstM hB
  refine PySem.P.add_list e e2 ?_ (by rw [List.size_toArray, List.size_toArray]; omega)
  have ea : its.toArray ++ its2.toArray = (its ++ its2).toArray := by simp
  rw [ea]
  exact ⟨.ref _, _, I.lnew (t' := s.toks) (r.append r2) (by rw [List.length_append]; omega), rfl, q _ I.fresh⟩
/-- a list times an int (a negative one is nothing) -/
def rRep : R2 := fun x y H Q => ∃ l k xs, x = .ref l ∧ y = .int k ∧ H l = some (.lst xs) ∧ -(2 ^ 63) ≤ k ∧ k < 2 ^ 63 ∧ xs.length * k.toNat ≤ sizeLine ∧
  ∀ p, H p = none → Q (.ref p) (upd H p (.lst (List.replicate k.toNat xs).flatten))
/-! ### del xs[i] -/
end

/-! ### xs[a:b] = ys -/
section
variable {prog : Program} {w : World} {A : Around} {E : Value → Shared → Prop} {s : Shared}
end

section
variable {X : Cx}
end
end L2

namespace Att
open PySem PySem.W PySem.Calls PyProof.Rows

/-! ### the script -/
theorem ints_of_wellAll {P : Params} {h : Heap} : ∀ (ns : List Int) (vs : List Value), WellAll P h vs (ns.map WData.int) → IntsAre vs ns := by
  intro ns
  induction ns with
  | nil =>
    intro vs w
    rw [List.map_nil] at w
    cases w
    exact .nil
  | cons n ns ih =>
    intro vs w
    rw [List.map_cons] at w
    cases w with
    | cons a b =>
      cases a
      exact .cons _ _ (ih _ b)

theorem script_of {l : OpenLaw} {n : Nat} (hn : l.most = some n) {P : Params} {h : Heap} {args : List WData} {vals : List Value}
    (hpre : l.row.toRowW.claim.pre args = true) (hwl : WellAll P h vals args) :
    ∃ a vs ns, vals = [Value.ref a] ∧ args = [WData.list (ns.map WData.int)] ∧ h.get? a = some { cls := .type "list", data := .seq vs.toArray } ∧ IntsAre vs ns ∧ ns.length ≤ n := by
  have hsh : WShape.hasAll [] args [.list .int] = true := (pre_splitW hpre).1
  have hc : l.pre.holds [] { args := args } = true := (pre_splitW hpre).2
  obtain ⟨d, r, rfl, h1, h2⟩ := hasAllW_cons hsh
  obtain rfl := hasAllW_nil h2
  obtain ⟨xs, rfl, h3⟩ := hasW_list h1
  obtain ⟨ns, rfl⟩ := items_int h3
  have hlen : ns.length ≤ n := by
    unfold OpenLaw.pre at hc
    have h4 : (WTm.not (.lt (.lit (.int (n : Int))) (.len (.arg 0)))).holds [] { args := [.list (ns.map .int)] } = true := by
      have h4 := (holds_andW hc).1
      rw [hn] at h4
      exact h4
    have h5 := condW_of h4 (w_not (w_lt w_lit (w_len_list (w_arg rfl))))
    rw [List.length_map] at h5
    refine Nat.le_of_not_lt fun q => ?_
    have q' : (n : Int) < ((ns.length : Nat) : Int) := by omega
    first
      | (rw [decide_eq_true q'] at h5; exact absurd h5 (by decide))
      | (simp at h5; omega)
  cases hwl with
  | cons w1 w2 =>
    cases w2
    cases w1 with
    | list ho hall => exact ⟨_, _, ns, rfl, rfl, ho, ints_of_wellAll ns _ hall, hlen⟩

theorem post_true (l : OpenLaw) (args : List WData) : l.row.toRowW.claim.post args (.bool true) args = true :=
  postW_of (r := l.row.toRowW) (X := (true == true))
    (show WShape.has [] (.bool true) .bool = true by first | rfl | decide | simp [WShape.has, WShape.arms, WShape.armsAll])
    (show (WTm.eq .res (.lit (.bool true))).value [] { args := args, res := some (.bool true), after := args } = some (.bool (true == true)) from w_eq_bool (w_res rfl) w_lit) rfl

/-! ### the attachment: holds_open's last premise (the goal 'hc' behind k_head) from a wpAny of the law's body -/
/-- the same from a codeAny of the CALL (for a layer whose function contracts speak of calls) -/
theorem attach_call {l : OpenLaw} {n : Nat} {q : Program} {loose : List Str} {XP : (Str → Option Value) → Heap → Prop} {YP : World → Heap → Prop} {d : DefRec}
    (hn : l.most = some n) (hdf : d.params.defaults = [])
    (call : ∀ (w : World) (s₀ s₁ : Shared) (mg mb : Str → Option Value) (fa : Addr) (o : Obj) (pm cd doc : Value) (a : Addr) (vs : List Value) (ns : List Int),
      Ground q loose [] XP w s₀ mg mb s₁.heap → YP w s₁.heap →
      s₁.heap.get? fa = some o → o.data = .func (docDef d.name d.params d.body d.scope pm cd doc) → s₁.heap.CodeRec cd d.name → mg d.name = some (.ref fa) →
      s₁.heap.get? a = some { cls := .type "list", data := .seq vs.toArray } → IntsAre vs ns → ns.length ≤ n → s₁.gens = #[] →
      codeAny (model l.prog w) callerA (.call (.ref fa) ⟨[.ref a], []⟩) (fun r s' => r = .ok (.ret (.bool true)) ∧ OldK s₁.heap s'.heap ∧ s'.os = s₁.os ∧ AllBare s'.gens) s₁) :
    WalkO q loose XP YP l.row.toRowW d [] (fun f vs => PySem.call f vs) := by
  intro w s₀ s₁ mg mb G Y fa o pm cd doc dV kV ho hd hcd hD hmg hg args vals as hpre hlay hrd hwl hlo
  obtain rfl : dV = .none := Dflts.none hD hdf
  obtain rfl : kV = .none := Dflts.noKw hD
  obtain ⟨a, vs, ns, rfl, rfl, hobj, hints, hlen⟩ := script_of hn hpre hwl
  refine enter_call (codeAny_mono (call w s₀ s₁ mg mb fa o pm cd doc a vs ns G Y ho (fd_plain hd) hcd hmg hobj hints hlen hg) fun r s' hq => ?_)
  obtain ⟨rfl, h2, h3, h4⟩ := hq
  exact ⟨.inl ⟨.bool true, .bool true, [], rfl, fun _ => rfl, .bool true, post_true l _, fun _ => ⟨List.Pairwise.nil, fun _ hm => (nomatch hm)⟩⟩, h2, h3, h4⟩

/-! ### rules over ANY heap (no ledger) from facts about the written part K: the library's own take a ledger (News) for what they write -/
section
variable {prog : Program} {w : World} {A : Around} {E : Value → Shared → Prop} {s : Shared} {K : Frag}

/-! the whole heap as the ledger: makes every rule that writes through a ledger a rule over any heap -/
def noObjs (h : Heap) : Heap := { h with objs := #[] }
def ledger (h : Heap) (L d : Addr) : List (Addr × Obj) := (List.range h.objs.size).filterMap fun a => if a = L ∨ a = d then none else (h.get? a).map fun o => (a, o)
end
end Att

namespace L2
open PySem PySem.Spec PyProof.Rows

theorem vals_ints : ∀ {vs : List Value} {ns : List Int}, IntsAre vs ns → Vals (ns.map V.int) vs
  | _, _, .nil => .nil
  | _, _, .cons n t h => .cons ⟨t, rfl⟩ (vals_ints h)

/-- nothing is tracked but the script, known to the object (or it is an object of the module) -/
def Only (H : Hp) : Prop := ∀ b, H b = none ∨ ∃ o xs, H b = some (.frz o (.lst xs))

/-- THE HEAD: the law's promise, at the heap behind the top. F, the promise of the law's def, may use that base is part of the heap (so K.In base, base.Ns mainGlobals mg stand in Mod) -/
theorem law_call {P : Program} {w : World} {K : PySem.W.Frag} {mg mb : Str → Option Value} {CX : CXT} {k : Nat} {fa a : Addr} {fd : FuncData} {x : Str} {sp : Sp} {s₁ : Shared} {vs : List Value} {ns : List Int}
    (KX : K.In s₁.heap) (hns : s₁.heap.Ns mainGlobals mg) (hb : s₁.heap.Ns builtinsNs mb) (hbb : ∀ x : Str, x ≠ "__name__" → mb x = bootBuiltins x) (hlim : s₁.heap.NoLimit) (hg : s₁.gens = #[])
    (ha : s₁.heap.get? a = some { cls := .type "list", data := .seq vs.toArray }) (hi : IntsAre vs ns) (hl : ns.length ≤ sizeLine) (hr : Room k callerA)
    (F : ∀ base : Heap, K.In base → base.Ns mainGlobals mg → FnOk P w K mg base CX k fa fd [x] sp) (hbind : ∀ (s : Shared) (u : Value), BindsTo s fd ⟨[u], []⟩ [(x, u)])
    (hsp : ∀ H : Hp, Only H → SqL K H a (ns.map V.int) → sp [.ref a] H (fun v _ => v = .bl true) fun _ _ _ => False)
    (hCX : ∀ H e s', CX [] H s₁ (fun _ _ _ => False) e s' → False) :
    codeAny (model P w) callerA (.call (.ref fa) ⟨[.ref a], []⟩) (fun r s' => r = .ok (.ret (.bool true)) ∧ OldK s₁.heap s'.heap ∧ s'.os = s₁.os ∧ AllBare s'.gens) s₁ := by
  have rv := vals_ints hi
  have lenV := hi.length
  -- from an abstract heap in which nothing but the script may be tracked
  have core : ∀ H : Hp, Only H → SqL K H a (ns.map V.int) → HOk P w H s₁.heap → (∀ b, H b ≠ none → b = a) → (H a ≠ none → K.lookup a = none) →
      codeAny (model P w) callerA (.call (.ref fa) ⟨[.ref a], []⟩) (fun r s' => r = .ok (.ret (.bool true)) ∧ OldK s₁.heap s'.heap ∧ s'.os = s₁.os ∧ AllBare s'.gens) s₁ := by
    intro H hO hS hok hA hK
    have base_of : ∀ {b : Addr} {o : Obj}, s₁.heap.get? b = some o → H b = none → (hidT s₁.heap H).get? b = some o := fun e n => hidT_get e n
    have noA : ∀ {b : Addr} {o : Obj} {es : Array DictEntry} {ep : Nat}, s₁.heap.get? b = some o → o.data = .dict es ep → H b = none := fun {b o es ep} e d => by
      cases q : H b with
      | none => rfl
      | some u =>
        have e' : b = a := hA b (by rw [q]; simp)
        subst e'
        rw [ha] at e; cases e
        have d' : Data.seq vs.toArray _ = Data.dict es ep := d
        cases d'
    have nsK : ∀ {b : Addr} {m : Str → Option Value}, s₁.heap.Ns b m → (hidT s₁.heap H).Ns b m := fun {b m} ⟨o, es, ep, e, d, r⟩ => ⟨o, es, ep, base_of e (noA e d), d, r⟩
    have hKb : K.In (hidT s₁.heap H) := fun b o e => base_of (KX b o e) (by
      cases q : H b with
      | none => rfl
      | some u =>
        have e' : b = a := hA b (by rw [q]; simp)
        subst e'
        rw [hK (by rw [q]; simp)] at e; cases e)
    have hM : Mod K mg (hidT s₁.heap H) := ⟨hKb, nsK hns, ⟨mb, nsK hb, hbb⟩, let ⟨mc, h1, h2⟩ := hlim; ⟨mc, nsK h1, h2⟩⟩
    have e0 : Env0 P w K mg (hidT s₁.heap H) callerA [] s₁ H := ⟨rfl, hM, fun b o e => of_hidT e, Nat.le_of_eq (hidT_size _ _), trivial, fun b hb => absurd (show b ∈ ([] : List Addr) from hb) (by simp), hok, .of_eq hg⟩
    refine codeAny_mono ((F _ hKb (nsK hns)).run callerA [] s₁ H ⟨[.ref a], []⟩ [.ref a] [.ref a] _ _ hr e0 (hbind s₁ (.ref a)) (.cons rfl .nil) (hsp H hO hS)) fun r s' h => ?_
    cases r with
    | error e => exact (hCX H e s' h).elim
    | ok fl =>
      cases fl with
      | next => exact False.elim h
      | brk => exact False.elim h
      | cont => exact False.elim h
      | ret u =>
        obtain ⟨v, H', os, bare, un, hok', r', q⟩ := h
        have q' : v = .bl true := q
        subst q'
        obtain rfl : u = Value.bool true := r'
        refine ⟨rfl, OldK.of_keep fun b o e => ?_, os, bare⟩
        cases q : H b with
        | none => exact un.keep b o e q (by intro z; exact absurd (show b ∈ ([] : List Addr) from z) (by simp)) (by simp)
        | some u =>
          rcases hO b with z | ⟨ob, xs, z⟩
          · rw [q] at z; cases z
          · have z2 := un.frzs b ob _ z
            obtain ⟨e1, _⟩ := hok b _ z
            obtain ⟨e2, _⟩ := hok' b _ z2
            rw [e] at e1; cases e1
            exact e2
  cases hk : K.lookup a with
  | some o =>
    -- the script is one of the module's own objects
    have e := KX a o hk
    rw [ha] at e
    cases e
    refine core (fun _ => none) (fun _ => .inl rfl) (.inr ⟨_, vs.toArray, _, hk, rfl, rfl, rfl, by rw [List.size_toArray, lenV]; exact hl, by simpa using rv⟩) (fun b u z => by have z' : (none : Option HO) = some u := z; cases z') (fun b z => absurd rfl z) fun z => absurd rfl z
  | none =>
    refine core (fun b => if b = a then some (.frz { cls := .type "list", data := .seq vs.toArray } (.lst (ns.map V.int))) else none) (fun b => ?_) (.inl (.inr ⟨{ cls := .type "list", data := .seq vs.toArray }, if_pos rfl⟩)) (fun b u z => ?_) (fun b z => ?_) fun _ => hk
    · by_cases hb : b = a
      · exact .inr ⟨_, _, if_pos hb⟩
      · exact .inl (if_neg hb)
    · by_cases hb : b = a
      · have z' := (if_pos hb).symm.trans z
        cases z'
        subst hb
        exact ⟨ha, by rw [List.length_map]; exact hl, vs, _, rv, ha⟩
      · have z' := (if_neg hb).symm.trans z
        cases z'
    · by_cases hb : b = a
      · exact hb
      · exact absurd (if_neg hb) z
end L2

namespace L2
open PySem PySem.Spec PyProof.Rows

abbrev KOf {K : PySem.W.Frag} {h : Heap} (_ : K.In h) : PySem.W.Frag := K

/-- the goal that k_head leaves (case hc), from the law's promise. F gives the function object fd (K's own) once, then the promise over every base -/
theorem walk_of {l : PySem.W.OpenLaw} {n k : Nat} {q : Program} {loose : List Str} {XP : (Str → Option Value) → Heap → Prop} {YP : World → Heap → Prop} {d : DefRec} {K : Params → PySem.W.Frag} {CX : World → CXT} {sp : World → Sp} {x : Str}
    (hn : l.most = some n) (hn2 : n ≤ sizeLine) (hdf : d.params.defaults = []) (hr : Room k callerA)
    (hY : ∀ (w : World) (h : Heap), YP w h → (K w.params).In h)
    (F : ∀ (w : World) (mg : Str → Option Value) (fa : Addr) (h : Heap), (K w.params).In h → h.Ns mainGlobals mg → mg d.name = some (.ref fa) →
      ∃ fd : FuncData, (∀ (s : Shared) (u : Value), BindsTo s fd ⟨[u], []⟩ [(x, u)]) ∧
        ∀ base : Heap, (K w.params).In base → base.Ns mainGlobals mg → FnOk l.prog w (K w.params) mg base (CX w) k fa fd [x] (sp w))
    (hsp : ∀ (w : World) (H : Hp) (a : Addr) (ns : List Int), ns.length ≤ n → Only H → SqL (K w.params) H a (ns.map V.int) → sp w [.ref a] H (fun v _ => v = .bl true) fun _ _ _ => False)
    (hCX : ∀ (w : World) (H : Hp) (s : Shared) (e : Value) (s' : Shared), CX w [] H s (fun _ _ _ => False) e s' → False) :
    PySem.W.WalkO q loose XP YP l.row.toRowW d [] (fun f vs => PySem.call f vs) := by
  refine Att.attach_call hn hdf fun w s₀ s₁ mg mb fa o pm cd doc a vs ns G Y ho hd hcd hmg hobj hints hlen hg => ?_
  have KX := hY w _ Y
  obtain ⟨fd, hb, hF⟩ := F w mg fa _ KX G.T.g hmg
  exact law_call KX G.T.g G.T.b G.T.builtins G.T.nolimit hg hobj hints (Nat.le_trans hlen hn2) hr hF hb (fun H hO hS => hsp w H a ns hlen hO hS) fun H e s' => hCX w H s₁ e s'
end L2

/- THE LAST THEOREM (shape; LID, My.* are yours):
   My.Adr: a structure of the addresses that your layer names (classes, functions); My.Txt K t: a structure (Prop) of the equations over K;
   My.txt_mk : {K} {implicit addresses ..} (e1 : nsIn K mainGlobals "law" = some (some (.ref f))) (e2 : K.lookup f = some ⟨oc, od, .func (fnOf "law" "law" params body scope dV kV doc pm an cdv ct), sl⟩) (e3 : codeIn K cdv "law" = true) .. : ∃ t, My.Txt K t

set_option maxRecDepth 100000 in
set_option maxHeartbeats 0 in
theorem PySem.Challenge.cw_LID_holds : PySem.Challenge.rw_LID.Holds := by
  w_on; o_law; k_head; (case hw => w_witness2)
  k_fill
  refine L2.walk_of (l := PySem.Challenge.rw_LID) (n := 63) (k := 40) (x := "script") (CX := fun w => ..) (sp := fun _ => My.sp_law) rfl (by decide) rfl ⟨rfl, by decide, by decide⟩ (fun w h Y => PySem.W.kIn_of Y) ?F ?S ?C
  case F =>
    intro w mg fa h KX G hmg
    have T : ∃ t, My.Txt (L2.KOf KX) t := by
      dsimp only [L2.KOf]                          -- K must stand as «<heap const> w.params» for k_is
      refine' My.txt_mk ?e1 ?e2 ?e3 ..
      (case e1 => PySem.W.k_is)                    -- in the order: a name -> its address -> its object -> its parts
      (case e2 => PySem.W.k_is)
      ..
    obtain ⟨t, T⟩ := T
    have e0 := hmg.symm.trans (PySem.W.mg_of KX G T.law)
    cases e0                                       -- fa is the law's own address
    exact ⟨_, fun s u => .of_eq rfl, fun base kb nb => My.law_fn T kb nb⟩     -- if «.of_eq rfl» comes too early: refine' ⟨_, ?b, fun base kb nb => My.law_fn T kb nb⟩; exact fun s u => .of_eq rfl
  case S => exact fun w H a ns hl hO hS => ..
  case C => exact ..
(the tactic k_is has no namespace: write k_is) -/

/-! SHORT WORDS over the layer: a def of the text, its body, what a loop and a test want. -/
namespace L2
open PySem PySem.Spec PyProof.Rows

/-! ### the text by places -/
/-- the j-th statement of a class's body -/
def inClass (s : Stmt) (j : Nat) : Stmt := match s with
  | .ClassDef _ _ _ body _ _ _ _ _ _ _ => body.getD j (.Pass ⟨0, 0, 0, 0⟩)
  | _ => .Pass ⟨0, 0, 0, 0⟩
def defArgs (s : Stmt) : Arguments := match s with
  | .FunctionDef _ a _ _ _ _ _ _ _ _ => a
  | _ => { posonlyargs := [], args := [], vararg := none, kwonlyargs := [], kw_defaults := [], kwarg := none, defaults := [] }
def defBody (s : Stmt) : List Stmt := match s with
  | .FunctionDef _ _ b _ _ _ _ _ _ _ => b
  | _ => []
def defScope (s : Stmt) : Scope := match s with
  | .FunctionDef _ _ _ _ _ _ sc _ _ _ => sc
  | _ => { kind := .function, names := [], isGenerator := false, isCoroutine := false }

/-! ### no exception leaves a def -/
abbrev CX0 : CXT := fun _ _ _ _ _ _ => False
abbrev E0 : XK := fun _ _ _ => False
theorem pass0 {X : Cx} : Passes CX0 X E0 := fun _ _ _ _ _ _ _ h => h.elim

/-! ### a def (or method) of the text as it stands behind the top -/
structure Fun (K : PySem.W.Frag) (x qual : Str) (st : Stmt) (f : Addr) (fd : FuncData) : Prop where
  ex : ∃ (oc : Value) (od : Option Addr) (kV doc pm : Value) (an : Option Addr) (cdv ct : Value) (osl : Array (Option Value)),
    fd = PySem.W.fnOf x qual (defArgs st) (defBody st) (defScope st) .none kV doc pm an cdv ct ∧ K.lookup f = some ⟨oc, od, .func fd, osl⟩ ∧ PySem.W.codeIn K cdv qual = true
  kp : PySem.W.keepIn K (.ref f) = true
section
variable {P : Program} {w : World} {K : PySem.W.Frag} {mg : Str → Option Value} {base : Heap}
/-- THE RULE for a def: its body as a term of rules, and the reading of that term -/
theorem Fun.ok {x qual : Str} {st : Stmt} {f : Addr} {fd : FuncData} {N ps : List Str} {k : Nat} {sp : Sp} (F : Fun K x qual st f fd) (S : FnScope N ps (defScope st)) (len : ∀ vs H Q E, sp vs H Q E → vs.length = ps.length)
    (hbody : ∀ (cdv : Value) (A : Around) (outer : List Env) (s : Shared) (H : Hp) (vs : List V) (Q : VK) (E : XK), Room k (A.deeper (envOfC qual (defScope st) s.heap.objs.size f cdv)) → sp vs H Q E →
      ∃ t, PSs (cxOf CX0 P w K mg base N qual (defScope st) f cdv A outer s H E).nox (defBody st) t ∧ t { nx := fun _ H' => Q .non H', rt := Q } (start N vs) H) : FnOk P w K mg base CX0 (k + 1) f fd ps sp := by
  obtain ⟨oc, od, kV, doc, pm, an, cdv, ct, osl, rfl, lk, hcd⟩ := F.ex
  refine fn_of lk hcd S len fun A outer s H vs Q E hr hsp => ?_
  obtain ⟨t, h, q⟩ := hbody cdv A outer s H vs Q E hr hsp
  exact ⟨t, h.nox, q⟩
/-- how its arguments bind (no defaults): h is «fun _ _ _ _ _ _ us hl => match us, hl with | [_, _], _ => rfl», one _ a parameter -/
theorem Fun.binds {x qual : Str} {st : Stmt} {f : Addr} {fd : FuncData} {ps : List Str} (F : Fun K x qual st f fd)
    (h : ∀ (kV doc pm : Value) (an : Option Addr) (cdv ct : Value) (us : List Value), us.length = ps.length → bindArgs (PySem.W.fnOf x qual (defArgs st) (defBody st) (defScope st) .none kV doc pm an cdv ct) ⟨us, []⟩ = pure (ps.zip us)) : Binds K fd ps [] := by
  obtain ⟨oc, od, kV, doc, pm, an, cdv, ct, osl, rfl, lk, hcd⟩ := F.ex
  exact .all (h kV doc pm an cdv ct)
theorem fun_mk {x qual : Str} {st : Stmt} {f : Addr} {oc : Value} {od an : Option Addr} {osl : Array (Option Value)} {kV doc pm cdv ct : Value} (l : K.lookup f = some ⟨oc, od, .func (PySem.W.fnOf x qual (defArgs st) (defBody st) (defScope st) .none kV doc pm an cdv ct), osl⟩)
    (c : PySem.W.codeIn K cdv qual = true) (k : PySem.W.keepIn K (.ref f) = true) : Fun K x qual st f (PySem.W.fnOf x qual (defArgs st) (defBody st) (defScope st) .none kV doc pm an cdv ct) := ⟨⟨oc, od, kV, doc, pm, an, cdv, ct, osl, rfl, l, c⟩, k⟩
end
theorem small1000 {n : Nat} (h : n ≤ 1000) : n < sizeLine := Nat.lt_of_le_of_lt h (by decide)

/-! ### expressions in short: the name that stands in the i-th slot -/
section
variable {X : Cx}
theorem pv (i : Nat) {x : Str} {pos : Pos} (hN : X.N[i]? = some x := by rfl) (hv : Vis X.env.scope x := by first | exact Or.inl rfl | exact Or.inr (Or.inl rfl) | exact Or.inr (Or.inr rfl)) (hd : (x == ("__debug__" : Str)) = false := by decide)
    (hcd : (x == ("__classdict__" : Str)) = false := by decide) : PE X (.Name x pos) (tVar i) := pe_var hN hv hd hcd
end

/-! ### tests -/
theorem iteF {A B : Prop} (h : B) : if false = true then A else B := by
  rw [if_neg Bool.false_ne_true]
  exact h
theorem iteT {A B : Prop} (h : A) : if true = true then A else B := by
  rw [if_pos rfl]
  exact h
theorem ite2 {c A B : Prop} [Decidable c] (h1 : c → A) (h2 : ¬ c → B) : if c then A else B := by
  by_cases h : c
  · rw [if_pos h]
    exact h1 h
  · rw [if_neg h]
    exact h2 h
theorem iteNS {c A B : Prop} [Decidable c] (hc : c) (h : B) : if (!decide c) = true then A else B := by
  rw [decide_eq_true hc]
  exact iteF h

/-! ### heaps -/
/-- all that was tracked is as it was -/
def Same (H H' : Hp) : Prop := ∀ b o, H b = some o → H' b = some o
theorem Same.refl (H : Hp) : Same H H := fun _ _ h => h
theorem Same.trans {H H1 H2 : Hp} (a : Same H H1) (b : Same H1 H2) : Same H H2 := fun c o h => b c o (a c o h)
theorem Same.seq {K : PySem.W.Frag} {H H' : Hp} {a : Addr} {xs : List V} (e : Same H H') (h : SqL K H a xs) : SqL K H' a xs := by
  rcases h with (h | ⟨o, h⟩) | h
  · exact .inl (.inl (e _ _ h))
  · exact .inl (.inr ⟨o, e _ _ h⟩)
  · exact .inr h

end L2

set_option maxHeartbeats 4000000
namespace L2
open PySem PySem.Spec PyProof.Rows
section
variable {X : Cx}
/-- isinstance of a value against one built-in class -/
theorem call_isinst : CallR X (.builtin "isinstance") (fun xs H Q => ∃ x t n b, xs = [x, .ty n] ∧ TyOf X.K H x t ∧ PySem.W.kitOne X.K t (.type n) = some b ∧ Q (.bl b) H) := by
  intro pins s σ H xs us Q I r h
  obtain ⟨x, t, n, b, rfl, ty, e, q⟩ := h
  obtain ⟨u, w', rfl, r1, r2⟩ := vals2 r
  cases r2
  exact isinst_ok I r1 ty e (fun tk => ⟨.bl b, H, I.tok tk, rfl, q⟩)
theorem kit_int_bool (K : PySem.W.Frag) : PySem.W.kitOne K (.type "int") (.type "bool") = some false := by
  show (if ((Value.type "int" == Value.type "bool") = true) then some true else if PySem.W.kitMeta "bool" = true then ((fastBuiltinMro "int").map (·.contains (.type "bool"))) else none) = some false
  decide +kernel
/-- // by a divisor that is no giant -/
def CDivL (_ j : Int) : Prop := 0 < j ∧ j < 2 ^ 63
theorem op_fdivL : OpR X (binaryOp .FloorDiv) (rI CDivL fun i j => .int (i / j)) := opI fun i j _ _ _ _ _ hc q => by
  have e : Int.fdiv i j = i / j := Int.fdiv_eq_ediv_of_nonneg i (Int.le_of_lt hc.1)
  rw [← e] at q
  refine floordiv_int (by have := hc.1; omega) q (.inl (PyProof.noPylong_of_log2 ?_))
  have h1 := hc.1
  have h2 := hc.2
  have h3 : j.natAbs < 2 ^ 63 := by omega
  have h4 := (Nat.log2_lt (n := j.natAbs) (k := 63) (by omega)).mpr h3
  omega
end

theorem boot_int' : bootBuiltins "int" = some (.type "int") := by decide +kernel
theorem boot_bool' : bootBuiltins "bool" = some (.type "bool") := by decide +kernel
theorem boot_list' : bootBuiltins "list" = some (.type "list") := by decide +kernel
theorem boot_tuple' : bootBuiltins "tuple" = some (.type "tuple") := by decide +kernel
/-! a def of the text, as its callers see it -/
structure Cal (P : Program) (w : World) (K : PySem.W.Frag) (mg : Str → Option Value) (base : Heap) (n : Nat) (x : Str) (ps : List Str) (sp : Sp) : Prop where
  ex : ∃ (f : Addr) (fd : FuncData), FnOk P w K mg base CX0 n f fd ps sp ∧ Binds K fd ps [] ∧ PySem.W.keepIn K (.ref f) = true ∧ mg x = some (.ref f)
theorem pe_cal {X : Cx} {n k : Nat} {x : Str} {ps : List Str} {sp : Sp} {e : Expr} {es : List Expr} {t : TA} {p pos : Pos} (C : Cal X.prog X.w X.K X.mg X.base n x ps sp) (hr : Room k X.A) (hk : n ≤ k) (hg : Gl X x)
    (ha : PA X (e :: es) t) (hdb : (x == ("__debug__" : Str)) = false := by decide) (he : starEach (e :: es) X.env = (false, eval e X.env) :: starEach es X.env := by rfl) (hpl : (backTo pos (starEach es X.env)).any (·.1) = false := by rfl) :
    PE X (.Call (.Name x p) (e :: es) [] pos) (tCall sp [] E0 t) := by
  obtain ⟨f, fd, F, b, kp, m⟩ := C.ex
  exact pe_call F (hr.mono hk) hg m kp b .nil pass0 ha hdb he hpl
theorem Cal.of {P : Program} {w : World} {K : PySem.W.Frag} {mg : Str → Option Value} {base : Heap} {n : Nat} {x qual : Str} {ps : List Str} {sp : Sp} {st : Stmt} {f : Addr} {fd : FuncData} (F : Fun K x qual st f fd) (O : FnOk P w K mg base CX0 n f fd ps sp) (m : mg x = some (.ref f))
    (h : ∀ (kV doc pm : Value) (an : Option Addr) (cdv ct : Value) (us : List Value), us.length = ps.length → bindArgs (PySem.W.fnOf x qual (defArgs st) (defBody st) (defScope st) .none kV doc pm an cdv ct) ⟨us, []⟩ = pure (ps.zip us)) : Cal P w K mg base n x ps sp :=
  ⟨f, fd, O, F.binds h, F.kp, m⟩

theorem iteD {c A B : Prop} [Decidable c] (hc : c) (h : A) : if decide c = true then A else B := by
  rw [decide_eq_true hc]
  exact iteT h
theorem iteDF {c A B : Prop} [Decidable c] (hc : ¬ c) (h : B) : if decide c = true then A else B := by
  rw [decide_eq_false hc]
  exact iteF h

/-! heaps: all but f is as it was -/
def SameBut (f : Addr) (H H' : Hp) : Prop := ∀ b o, b ≠ f → H b = some o → H' b = some o
theorem SameBut.trans {f : Addr} {H H1 H2 : Hp} (a : SameBut f H H1) (b : SameBut f H1 H2) : SameBut f H H2 := fun c o h e => b c o h (a c o h e)
theorem SameBut.refl (f : Addr) (H : Hp) : SameBut f H H := fun _ _ _ h => h
theorem SameBut.of {f : Addr} {H H' : Hp} (h : Same H H') : SameBut f H H' := fun b o _ e => h b o e
theorem SameBut.upd {f : Addr} {H : Hp} (o : HO) : SameBut f H (upd H f o) := fun b u h e => by rw [upd_ne h]; exact e
theorem Same.new {H : Hp} {p : Addr} (h : H p = none) (o : HO) : Same H (upd H p o) := fun b u q => by rw [upd_ne (ne_of_none q h)]; exact q
theorem Same.but {f : Addr} {H0 H H' : Hp} (a : Same H0 H) (n : H0 f = none) (b : SameBut f H H') : Same H0 H' := fun c o e => b c o (ne_of_none e n) (a c o e)

/-! the law's own row of draws: a list of two ints -/
def FeedAt (H : Hp) (f : Addr) : Prop := ∃ own st : Int, H f = some (.lst [.int own, .int st]) ∧ 0 ≤ own ∧ 0 ≤ st ∧ st ≤ 2147483646
theorem FeedAt.ne {H : Hp} {f b : Addr} (F : FeedAt H f) (h : H b = none) : b ≠ f := by
  obtain ⟨o, s, e, _⟩ := F
  intro z
  subst z
  rw [h] at e
  cases e
theorem FeedAt.same {H H' : Hp} {f : Addr} (F : FeedAt H f) (s : Same H H') : FeedAt H' f := by
  obtain ⟨o, t, e, h⟩ := F
  exact ⟨o, t, s _ _ e, h⟩
def spTake : Sp := fun vs H Q _ => ∃ (f : Addr) (m : Int), vs = [.ref f, .int m] ∧ FeedAt H f ∧ 0 < m ∧ m < 2 ^ 63 ∧ ∀ (d : Int) (H' : Hp), 0 ≤ d → d < m → FeedAt H' f → SameBut f H H' → Q (.int d) H'
def spFeed (K : PySem.W.Frag) : Sp := fun vs H Q _ => ∃ (a : Addr) (ns : List Int) (k : Int), vs = [.ref a, .int k] ∧ SqL K H a (ns.map V.int) ∧ ns.length ≤ 63 ∧ 0 ≤ k ∧ k < 1000000 ∧ ∀ (p : Addr) (H' : Hp), H p = none → Same H H' → FeedAt H' p → Q (.ref p) H'
def spLaw (K : PySem.W.Frag) : Sp := fun vs H Q _ => ∃ (a : Addr) (ns : List Int), vs = [.ref a] ∧ SqL K H a (ns.map V.int) ∧ ns.length ≤ 63 ∧ ∀ H', Q (.bl true) H'
theorem small {n : Nat} (h : n ≤ 1000) : n ≤ sizeLine := Nat.le_of_lt (small1000 h)
theorem at_int {ns : List Int} {k : Int} (h0 : 0 ≤ k) (h : k < (ns.length : Int)) : ∃ v : Int, atI (ns.map V.int) k = some (.int v) := by
  have hk : k.toNat < ns.length := by omega
  have q : atI (ns.map V.int) ((k.toNat : Nat) : Int) = some (.int ns[k.toNat]) := atI_nat (by rw [List.getElem?_map, List.getElem?_eq_getElem hk] <;> rfl)
  have ek : ((k.toNat : Nat) : Int) = k := by omega
  rw [ek] at q
  exact ⟨_, q⟩
end L2

namespace L2
open PySem PySem.Spec PyProof.Rows

/-! ### [elt for x in iter if ..]: the block -/
@[reducible] def cxComp (X : Cx) (N : List Str) (scope : Scope) (cl : List (Str × Addr)) (s : Shared) (H : Hp) (fp : List Addr) : Cx where
  prog := X.prog
  w := X.w
  K := X.K
  mg := X.mg
  base := X.base
  A := X.A
  N := N
  s₀ := s
  H₀ := H
  env := compEnvC scope cl s.heap.objs.size X.env
  outer := X.stack
  stack := X.stack
  ex := fp
  fn := fun _ => false
  calm := X.calm
  pn := []
  xe := fun _ _ => False

/-- the block's own name x, the def's names N that it sees (all cells there), their places ix among the def's names -/
structure CompScope (X : Cx) (x : Str) (N : List Str) (ix : List Nat) (scope : Scope) (cl : List (Str × Addr)) : Prop where
  clos : closureFor scope X.env = pure cl
  nocell : ∀ y ∈ scope.names, y.2 ≠ .cell
  kind : scope.kind = .function
  names : ∀ y ∈ scope.names, y.2 = .local → scope.names.lookup y.1 = some .local
  own : scope.names.lookup x = some .local
  nd : (x :: N).Nodup
  sub : ∀ p ∈ cl, X.env.cells.lookup p.1 = some p.2
  has : ((relabel scope X.env).names.all fun p => !(p.2 == .cell || p.2 == .free) || (cl.lookup p.1).isSome) = true
  outs : ∀ (j : Nat) (y : Str), N[j]? = some y → (relabel scope X.env).names.lookup y = some .cell ∧ ∃ k c, ix[j]? = some k ∧ X.N[k]? = some y ∧ cl.lookup y = some c ∧ X.env.scope.names.lookup y = some .cell

/-- the def's values that the block sees -/
def outs (ix : List Nat) (σ : St) : St := ix.map fun k => (σ[k]?).join

section
variable {X : Cx} {pins : List (Addr × Obj)} {σ : St} {x : Str} {N : List Str} {ix : List Nat} {scope : Scope} {cl : List (Str × Addr)} {fp : List Addr} {H3 : Hp} {s3 : Shared}

theorem CompScope.cells (S : CompScope X x N ix scope cl) {y : Str} {c : Addr} (h : cl.lookup y = some c) : X.env.cells.lookup y = some c := S.sub _ (PySem.mem_of_lookup h)

theorem comp_cx (S : CompScope X x N ix scope cl) (I3 : Inv X pins σ H3 s3) (hf : ∀ b ∈ fp, FpOk X pins H3 b) (hlt : ∀ b ∈ fp, b < s3.heap.objs.size) : (cxComp X (x :: N) scope cl s3 H3 fp).Ok where
  mod := I3.ok.mod
  kind := S.kind
  glob := I3.ok.glob
  blt := I3.ok.blt
  above := Nat.le_refl _
  inj := fun y z c h1 h2 => I3.ok.inj y z c (S.cells h1) (S.cells h2)
  has := fun y hy => by
    have q := List.all_eq_true.mp S.has
    have hy : (relabel scope X.env).names.lookup y = some .cell ∨ (relabel scope X.env).names.lookup y = some .free := hy
    have z : ∀ k : NameKind, (k == .cell || k == .free) = true → (relabel scope X.env).names.lookup y = some k → ∃ c, cl.lookup y = some c := fun k hk e => by
      have r := q _ (PySem.mem_of_lookup e)
      rw [hk] at r
      exact Option.isSome_iff_exists.mp (by simpa using r)
    rcases hy with e | e
    · exact z _ (by rfl) e
    · exact z _ (by rfl) e
  cab := fun _ _ h _ => nomatch h
  hd := I3.ok.hd
  frames := I3.ok.frames
  stk := .inl rfl
  exf := fun b hb => ⟨Nat.ne_of_lt (hlt b hb), fun y c e => (hf b hb).2.2.2.2.1 y c (S.cells e)⟩
  bs := fun b o e => I3.bs b o e
  bsz := Nat.le_trans I3.ok.bsz I3.sz
  noex := fun b o e hb => by
    rcases (hf b hb).2.2.2.1 with z | z
    · exact I3.ok.noex b o e z
    · exact absurd (Nat.lt_of_lt_of_le (Heap.lt_size e) (Nat.le_trans I3.ok.bsz z)) (Nat.lt_irrefl _)
  exfs := fun b hb z => by
    rcases List.mem_cons.mp (I3.stkSub b z) with e | e
    · exact (hf b hb).2.1 e
    · exact (hf b hb).2.2.1 e
  funs := I3.stack
  frf := I3.stkFree

theorem comp_start (S : CompScope X x N ix scope cl) (I3 : Inv X pins σ H3 s3) (hf : ∀ b ∈ fp, FpOk X pins H3 b) (hlt : ∀ b ∈ fp, b < s3.heap.objs.size) (hix : ix.length = N.length) {h1 : Heap} {t' : Nat} {m : Str → Option Value}
    (hn : h1.Ns s3.heap.objs.size m) (hk : ∀ b o, s3.heap.get? b = some o → h1.get? b = some o) : Inv (cxComp X (x :: N) scope cl s3 H3 fp) [] (none :: outs ix σ) H3 { s3 with heap := h1, toks := t' } where
  ok := comp_cx S I3 hf hlt
  os := rfl
  bare := I3.bare
  base := Un.kept hk
  loc := by
    refine ⟨m, hn, fun i y v h1' h2 h3 => ?_⟩
    cases i with
    | zero =>
      have h2' : (some (none : Option V)) = some (some v) := h2
      cases h2'
    | succ j =>
      have h1'' : N[j]? = some y := h1'
      have h2' : (outs ix σ)[j]? = some (some v) := h2
      obtain ⟨hr, k, c, e1, e2, e3, e4⟩ := S.outs j y h1''
      unfold outs at h2'
      rw [List.getElem?_map, e1] at h2'
      have h2'' : (σ[k]?).join = some v := Option.some.inj h2'
      have e5 : σ[k]? = some (some v) := by
        cases q : σ[k]? with
        | none => rw [q] at h2''; cases h2''
        | some o => rw [q] at h2''; exact congrArg some h2''
      obtain ⟨m0, _, hl⟩ := I3.loc
      obtain ⟨u, r, l⟩ := hl k y v e2 e5 (.inr (.inl e4))
      refine ⟨u, r, .inr ⟨.inl hr, c, e3, ?_⟩⟩
      rcases l with ⟨kk, _⟩ | ⟨_, c', ec, z⟩
      · have kk' : X.env.scope.names.lookup y = some .local := kk
        rw [e4] at kk'; cases kk'
      · rw [S.cells e3] at ec
        cases ec
        obtain ⟨o, ho, hd⟩ := z
        exact ⟨o, hk _ _ ho, hd⟩
  cell := fun y c e => by
    obtain ⟨v, o, ho, hd⟩ := I3.cell y c (S.cells e)
    exact ⟨v, o, hk _ _ ho, hd⟩
  free := I3.hok.fresh (Nat.le_refl _)
  freeC := fun y c e => I3.freeC y c (S.cells e)
  pin := fun p hp => absurd (show p ∈ ([] : List (Addr × Obj)) from hp) (by simp)
  hok := I3.hok.kept hk
  len := by
    show (none :: outs ix σ).length = (x :: N).length
    rw [List.length_cons, List.length_cons]
    unfold outs
    rw [List.length_map, hix]

theorem comp_back (I3 : Inv X pins σ H3 s3) (hf : ∀ b ∈ fp, FpOk X pins H3 b) {σ' : St} {H' : Hp} {s' : Shared} {h'' : Heap} {N' : List Str} (J : Inv (cxComp X N' scope cl s3 H3 fp) [] σ' H' s') (hb : Heap.SameBut s3.heap.objs.size s'.heap h'') :
    Inv X pins σ H' { s' with heap := h'' } := by
  have ne : ∀ b o, s3.heap.get? b = some o → b ≠ s3.heap.objs.size := fun b o e => Nat.ne_of_lt (Heap.lt_size e)
  have B : Un (frs X.stack) fp H3 H' s3.heap s'.heap := J.base
  refine I3.call' (s' := { s' with heap := h'' }) (ch := fp) J.os ⟨fun b o e n h1 h2 => (hb.2 b (ne b o e)).trans (B.keep b o e n h1 h2), fun b o e n h1 h2 => ?_, B.free, fun b o e h2 => ?_, B.tups, B.frzs, B.tbls⟩ (fun b ob e => ?_) J.bare (fun b z => ?_)
  · obtain ⟨sl, q⟩ := B.slot b o e n h1 h2
    exact ⟨sl, (hb.2 b (ne b o e)).trans q⟩
  · obtain ⟨o', q⟩ := B.there b o e h2
    exact ⟨o', (hb.2 b (ne b o e)).trans q⟩
  · have fr : H' s3.heap.objs.size = none := J.free
    refine (J.hok b ob e).stay (fun c w' hc q => (hb.2 c ?_).trans q) (fun _ q => q) fun _ _ q => q
    rintro rfl
    rcases hc with rfl | hc
    · rw [fr] at e; cases e
    · rw [fr] at hc; cases hc
  · obtain ⟨_, h2, _, h4, h5, h6⟩ := hf b z
    exact ⟨h4, h2, h5, h6⟩
end

/-! ### the tests and the element -/
abbrev TBl := St → Hp → (Hp → Prop) → VK → Prop
def PB (X : Cx) (ifs : List Expr) (elt : Expr) (tb : TBl) : Prop :=
  ∀ (pins : List (Addr × Obj)) (s : Shared) (σ : St) (H : Hp) (skip : Hp → Prop) (keep : VK), Inv X pins σ H s → tb σ H skip keep →
    wpAny (model X.prog X.w) X.A (forIn ifs true fun c r => if r = true then do let ok ← isTrue c X.env (eval c X.env); pure (ForInStep.yield ok) else pure (ForInStep.yield r))
      (fun ok s3 => if ok = true then wpAny (model X.prog X.w) X.A (eval elt X.env) (EP X pins σ keep) X.xe s3 else ∃ H', Inv X pins σ H' s3 ∧ skip H') X.xe s
def tB0 (te : TE) : TBl := fun σ H _ keep => te σ H keep
def tB1 (tc : TT) (te : TE) : TBl := fun σ H skip keep => tc σ H fun b H1 => if b = true then te σ H1 keep else skip H1
theorem pb_all {X : Cx} {elt : Expr} {te : TE} (he : PE X elt te) : PB X [] elt (tB0 te) := by
  intro pins s σ H skip keep I h
  refine wpAny_tests_nil ?_
  rw [if_pos rfl]
  exact he pins s σ H keep I h
/-- what a comprehension is: W the invariant by the turn and a measure; the list stands at D -/
def CompEx (J : It) (D : Addr) (ix : List Nat) (tb : TBl) (σ : St) (H : Hp) (Q : VK) : Prop := ∃ W : Nat → Nat → Hp → Prop, (∃ m, W 0 m (upd H D (.lst []))) ∧ ∀ i m H2, W i m H2 →
  (J.stop i H2 ∧ Q (.ref D) H2) ∨ (J.go i H2 ∧ ∀ y H3, J.yld i H2 y H3 → tb (some y :: outs ix σ) H3 (fun H4 => ∃ m', m' < m ∧ W (i + 1) m' H4)
    fun z H4 => ∃ ys, H4 D = some (.lst ys) ∧ ys.length < sizeLine ∧ ∃ m', m' < m ∧ W (i + 1) m' (upd H4 D (.lst (ys ++ [z]))))
def tCompR (wi : TI) (ix : List Nat) (tb : TBl) : TE := fun σ H Q => wi σ H fun J H1 => ∀ D, H1 D = none → CompEx J D ix tb σ H1 Q

section
variable {prog : Program} {w : World} {A : Around} {E : Value → Shared → Prop} {R : Result → Shared → Prop} {s : Shared}
/-- the loop, the target's own step left in -/
theorem compLoop_go {elt target iter : Expr} {ifs : List Expr} {scope : Scope} {pos : Pos} {it acc : Value} {env : Env} (I : Nat → Shared → Prop)
    (turn : ∀ n s, I n s → wpAny (model prog w) A (pyNext it) (fun r s1 => match r with
      | none => R (.ok .next) s1
      | some v => wpAny (model prog w) A (letOwnedTupleGo target it v) (fun _ s1' => wpAny (model prog w) A (assign target env v) (fun _ s2 =>
          wpAny (model prog w) A (forIn ifs true fun c r => if r = true then do let ok ← isTrue c env (eval c env); pure (ForInStep.yield ok) else pure (ForInStep.yield r)) (fun ok s3 =>
            if ok = true then wpAny (model prog w) A (eval elt env) (fun x s4 =>
              wpAny (model prog w) A (call (.builtin "list.append") [acc, x]) (fun _ s5 => ∃ m, m < n ∧ I m s5) (fun _ _ => False) s4) (fun _ _ => False) s3
            else ∃ m, m < n ∧ I m s3) (fun _ _ => False) s2) (fun _ _ => False) s1') (fun _ _ => False) s1) (fun _ _ => False) s)
    (n : Nat) (h : I n s) :
    codeAny (model prog w) A (.compLoop (.ListComp elt [⟨target, iter, ifs, 0⟩] scope pos) 0 it acc env) R s := by
  have up : ∀ {α : Type} {t : Sem α} {Q Q' : α → Shared → Prop} {E' : Value → Shared → Prop} {s : Shared}, wpAny (model prog w) A t Q (fun _ _ => False) s → (∀ a s, Q a s → Q' a s) → wpAny (model prog w) A t Q' E' s :=
    fun h q => wpAny_mono h q fun _ _ f => f.elim
  refine codeAny_loop rfl I (fun n s hI => ?_) n h
  show wpAny _ A ((compTurn (.ListComp elt [⟨target, iter, ifs, 0⟩] scope pos) 0 it acc env).onRaise (fun x => do noteFrame x env; theTreesLotGoes x)) _ _ s
  refine wpAny_noted ?_
  rw [compTurn_list]
  refine wpAny_bind (wpAny_standAt (wpAny_bind (up (turn n s hI) fun r s1 h1 => ?_)))
  cases r with
  | none => exact wpAny_pure h1
  | some v =>
    refine wpAny_bind (up h1 fun _ s1' h1' => ?_)
    refine wpAny_bind (up h1' fun _ s2 h2 => wpAny_bind (up h2 fun ok s3 h3 => ?_))
    cases ok with
    | false => exact wpAny_pure ⟨rfl, h3⟩
    | true =>
      exact wpAny_bind (wpAny_bind (up h3 fun x s4 h4 => wpAny_bind (up h4 fun _ s5 h5 => wpAny_pure (wpAny_pure ⟨rfl, h5⟩))))
end

/-- an untracked record that is none of the def's own -/
structure Apart (X : Cx) (pins : List (Addr × Obj)) (H : Hp) (C : Addr) : Prop where
  fr : H C = none
  lo : C ≠ X.env.locals
  sz : X.s₀.heap.objs.size ≤ C
  ce : ∀ y c, X.env.cells.lookup y = some c → c ≠ C
  pi : ∀ p ∈ X.pn ++ pins, p.1 ≠ C
theorem Apart.turn {X : Cx} {pins : List (Addr × Obj)} {σ : St} {H : Hp} {C : Addr} {s : Shared} {h' : Heap} (a : Apart X pins H C) (I : Inv X pins σ H s) (hs : Heap.SameBut C s.heap h') : Inv X pins σ H { s with heap := h' } :=
  I.turned (t' := s.toks) (fun b o ne e => (hs.2 b ne).trans e) a.fr a.lo (.inr a.sz) a.ce a.pi
section
variable {X : Cx} {x : Str} {N : List Str} {ix : List Nat} {scope : Scope} {cl : List (Str × Addr)} {elt iter : Expr} {ifs : List Expr} {px pos : Pos} {wi : TI} {tb : TBl}

/-- the block runs: behind it the def's own state stands again -/
theorem comp_run (hc : X.calm = true) (S : CompScope X x N ix scope cl) (hix : ix.length = N.length) (hb : ∀ s3 H3 fp, PB (cxComp X (x :: N) scope cl s3 H3 fp) ifs elt tb)
    {pins : List (Addr × Obj)} {s2 : Shared} {σ : St} {H2 : Hp} {Q : VK} {it : Addr} {fp : List Addr} {tn : Nat → Heap → Prop} {J : It} {RR : Value → Addr → Result → Shared → Prop} {E : Value → Shared → Prop}
    (I2 : Inv X pins σ H2 s2) (T : Turn X.prog X.w X.K (.Name x px) J fp it tn) (st2 : tn 0 s2.heap) (f2 : ∀ b ∈ fp, FpOk X pins H2 b)
    (h : ∀ D, H2 D = none → ∃ W : Nat → Nat → Hp → Prop, (∃ m, W 0 m (upd H2 D (.lst []))) ∧ ∀ i m H3, W i m H3 →
      (J.stop i H3 ∧ Q (.ref D) H3) ∨ (J.go i H3 ∧ ∀ y H4, J.yld i H3 y H4 → tb (some y :: outs ix σ) H4 (fun H5 => ∃ m', m' < m ∧ W (i + 1) m' H5)
        fun z H5 => ∃ ys, H5 D = some (.lst ys) ∧ ys.length < sizeLine ∧ ∃ m', m' < m ∧ W (i + 1) m' (upd H5 D (.lst (ys ++ [z])))))
    (hRR : ∀ (D C : Addr) (H' : Hp) (s' : Shared) (m : Str → Option Value), s'.heap.Ns C m → Apart X pins H' C → Inv X pins σ H' s' → Q (.ref D) H' → RR (.ref D) C (.ok .next) s') :
    wpAny (model X.prog X.w) X.A (newList []) (fun acc s3 => wpAny (model X.prog X.w) X.A (newFunctionEnv scope X.env.globals cl [] X.env.qual none .none (some X.env)) (fun cenv s4 =>
      codeAny (model X.prog X.w) X.A (.compStart (.ListComp elt [⟨.Name x px, iter, ifs, 0⟩] scope pos) 0 (.ref it) acc { cenv with scope := relabel scope X.env }) (RR acc cenv.locals) s4) E s3) E s2 := by
  refine wpAny_newObj_type (wpAny_newFunctionEnv S.nocell (by intro y hy; simp at hy) (fun h1 hns1 hsb1 => ?_) S.kind)
  dsimp only at hns1 hsb1 ⊢
  have I3 : Inv X pins σ (upd H2 s2.heap.objs.size (.lst [])) { s2 with heap := s2.heap.push { cls := .type "list", dict := none, data := .seq ([] : List Value).toArray } } := I2.lnew (its := []) (ys := []) (t' := s2.toks) .nil (Nat.zero_le _)
  have hD : H2 s2.heap.objs.size = none := I2.fresh
  obtain ⟨W, ⟨m0, w0⟩, turn⟩ := h s2.heap.objs.size hD
  have hltF : ∀ b ∈ fp, b < s2.heap.objs.size := fun b hb => by
    obtain ⟨o, e, _⟩ := T.obj 0 _ st2 b hb
    exact Heap.lt_size e
  generalize hs3 : ({ s2 with heap := s2.heap.push { cls := .type "list", dict := none, data := .seq ([] : List Value).toArray } } : Shared) = s3 at I3
  have eh : s2.heap.push { cls := .type "list", dict := none, data := .seq ([] : List Value).toArray } = s3.heap := by rw [← hs3]
  have et : s2.toks = s3.toks := by rw [← hs3]
  rw [eh] at hns1 hsb1 ⊢
  have sz3 : s3.heap.objs.size = s2.heap.objs.size + 1 := by rw [← eh, Heap.size_push]
  have hlt3 : ∀ b ∈ fp, b < s3.heap.objs.size := fun b hb => Nat.lt_of_lt_of_le (hltF b hb) (by rw [sz3]; exact Nat.le_succ _)
  have f3 : ∀ b ∈ fp, FpOk X pins (upd H2 s2.heap.objs.size (.lst [])) b := fun b hb => by
    obtain ⟨q1, q2⟩ := f2 b hb
    exact ⟨by rw [upd_ne (Nat.ne_of_lt (hltF b hb))]; exact q1, q2⟩
  have up : ∀ b o, s3.heap.get? b = some o → h1.get? b = some o := fun b o e => hsb1.extBut b o (Nat.ne_of_lt (Heap.lt_size e)) (Heap.get?_push_of_some _ e)
  have old : ∀ b o, s2.heap.get? b = some o → h1.get? b = some o := fun b o e => up b o (by rw [← eh]; exact Heap.get?_push_of_some _ e)
  have es : ({ s2 with heap := h1, toks := s2.toks + ([] : List (Str × Value)).length } : Shared) = { s3 with heap := h1, toks := s2.toks + ([] : List (Str × Value)).length } := by rw [← hs3]
  rw [es]
  have I4 : Inv (cxComp X (x :: N) scope cl s3 (upd H2 s2.heap.objs.size (.lst [])) fp) [] (none :: outs ix σ) (upd H2 s2.heap.objs.size (.lst [])) { s3 with heap := h1, toks := s2.toks + ([] : List (Str × Value)).length } :=
    comp_start S I3 f3 hlt3 hix hns1 up
  have st4 : tn 0 h1 := T.keep 0 _ _ st2 fun b _ o e => old b o e
  have loop : codeAny (model X.prog X.w) X.A (.compLoop (.ListComp elt [⟨.Name x px, iter, ifs, 0⟩] scope pos) 0 (.ref it) (.ref s2.heap.objs.size) (compEnvC scope cl s3.heap.objs.size X.env)) (RR (.ref s2.heap.objs.size) s3.heap.objs.size)
      { s3 with heap := h1, toks := s2.toks + ([] : List (Str × Value)).length } := by
    refine compLoop_go (fun n s' => ∃ i v0 H', Inv (cxComp X (x :: N) scope cl s3 (upd H2 s2.heap.objs.size (.lst [])) fp) [] (v0 :: outs ix σ) H' s' ∧ tn i s'.heap ∧ (∀ b ∈ fp, H' b = none) ∧ W i n H') ?_ m0 ⟨0, none, _, I4, st4, fun b hb => (f3 b hb).1, w0⟩
    rintro n s5 ⟨i, v0, H5, I5, st5, fr5, w5⟩
    have stat : ∀ {H' : Hp}, (∀ b ∈ fp, H' b = none) → ∀ b ∈ fp, FpOk (cxComp X (x :: N) scope cl s3 (upd H2 s2.heap.objs.size (.lst [])) fp) [] H' b := fun hn b hb =>
      ⟨hn b hb, ((comp_cx S I3 f3 hlt3).exf b hb).1, (comp_cx S I3 f3 hlt3).exfs b hb, .inl hb, ((comp_cx S I3 f3 hlt3).exf b hb).2, fun p hp => absurd (show p ∈ ([] : List (Addr × Obj)) from hp) (by simp)⟩
    rcases turn i n H5 w5 with ⟨stop, qn⟩ | ⟨go, step⟩
    · refine thn (T.done (cxComp X (x :: N) scope cl s3 (upd H2 s2.heap.objs.size (.lst [])) fp) rfl rfl rfl hc i [] s5 _ H5 _ I5 (stat fr5) st5 stop) fun r s6 ⟨hr, I6⟩ => ?_
      subst hr
      obtain ⟨m6, hn6, _⟩ := I6.loc
      exact hRR _ _ H5 s6 m6 hn6 ⟨I6.free, Ne.symm (Nat.ne_of_lt I3.lt), I3.sz, fun y c e z => by
        obtain ⟨v, q⟩ := I3.cell y c e
        exact absurd q.lt (by rw [z]; exact Nat.lt_irrefl _), fun p hp z => absurd (Heap.lt_size (I3.pin p hp).1) (by rw [z]; exact Nat.lt_irrefl _)⟩ (comp_back I3 f3 I6 (Heap.SameBut.refl _ _)) qn
    · refine thn (T.item (cxComp X (x :: N) scope cl s3 (upd H2 s2.heap.objs.size (.lst [])) fp) rfl rfl rfl hc i [] s5 _ H5 _ I5 (stat fr5) st5 go) fun r s6 ⟨u, hr, h6⟩ => ?_
      subst hr
      refine thn h6 fun _ s7 ⟨y, H7, I7, r7, y7, st7, fr7⟩ => ?_
      have I7' := I7.pinned (stat fr7) (T.obj _ _ st7)
      refine wpAny_assign_Name (store_ok (i := 0) I7' S.nd rfl (.inl (lookup_relabel_local S.own)) r7 (fun s8 I8 => ?_) (.inr (lookup_relabel_local S.own)))
      have I8' : Inv (cxComp X (x :: N) scope cl s3 (upd H2 s2.heap.objs.size (.lst [])) fp) ([] ++ pinsAt fp s7.heap) (some y :: outs ix σ) H7 s8 := I8
      have again : ∀ {v9 : Option V} {H9 : Hp} {s9 : Shared}, Inv (cxComp X (x :: N) scope cl s3 (upd H2 s2.heap.objs.size (.lst [])) fp) ([] ++ pinsAt fp s7.heap) (v9 :: outs ix σ) H9 s9 → (∃ m', m' < n ∧ W (i + 1) m' H9) →
          ∃ m, m < n ∧ ∃ i v0 H', Inv (cxComp X (x :: N) scope cl s3 (upd H2 s2.heap.objs.size (.lst [])) fp) [] (v0 :: outs ix σ) H' s9 ∧ tn i s9.heap ∧ (∀ b ∈ fp, H' b = none) ∧ W i m H' := fun {v9 H9 s9} I9 ⟨m', hm, w9⟩ => by
        refine ⟨m', hm, i + 1, v9, H9, I9.unpinned, T.keep _ _ _ st7 fun b hb o e => (I9.pin (b, o) (List.mem_append_right _ (List.mem_append_right _ (mem_pinsAt hb e)))).1, fun b hb => ?_, w9⟩
        obtain ⟨o, e, d⟩ := T.obj _ _ st7 b hb
        exact (I9.pin (b, o) (List.mem_append_right _ (List.mem_append_right _ (mem_pinsAt hb e)))).2.1
      refine thn (hb s3 (upd H2 s2.heap.objs.size (.lst [])) fp _ s8 _ H7 _ _ I8' (step y H7 y7)) fun ok s9 q9 => ?_
      cases ok with
      | false =>
        rw [if_neg (by decide)] at q9 ⊢
        obtain ⟨H9, I9, q9⟩ := q9
        exact again I9 q9
      | true =>
        rw [if_pos rfl] at q9 ⊢
        refine thn q9 fun u s10 ⟨z, H10, I10, r10, ys, hy, hz, q10⟩ => ?_
        refine thn (mt_append _ s10 _ H10 (.ref s2.heap.objs.size) [z] (.ref s2.heap.objs.size) [u] (fun _ H' => ∃ m', m' < n ∧ W (i + 1) m' H') I10 rfl (.cons r10 .nil) ⟨_, ys, z, rfl, rfl, hy, hz, q10⟩) fun _ s11 ⟨_, H11, I11, _, q11⟩ => ?_
        exact again I11 q11
  exact codeAny_compStart_list loop (T.self _ 0 _ _ _ st4 loop)

/-- [elt for x in iter if ..] as a value -/
theorem pe_comp (hc : X.calm = true) (S : CompScope X x N ix scope cl) (hix : ix.length = N.length) (hi : PI X (.Name x px) iter wi) (hb : ∀ s3 H3 fp, PB (cxComp X (x :: N) scope cl s3 H3 fp) ifs elt tb)
    (hs : ∀ x, foldedSetIterable iter X.env x = pure x := by intro _; rfl) : PE X (.ListComp elt [⟨.Name x px, iter, ifs, 0⟩] scope pos) (tCompR wi ix tb) := by
  intro pins s σ H Q I h
  rw [eval_ListComp]
  refine wpAny_comprehension_free (use := none) rfl hs S.clos S.kind S.names (thn (hi pins s σ H _ I h) fun xv s1 h1 => thn h1 fun itv s2 h2 => ?_)
  obtain ⟨it, fp, tn, J, H2, rfl, I2, T, st2, f2, R⟩ := h2
  refine comp_run hc S hix hb (RR := fun acc C => compPost (model X.prog X.w) X.A X.xe none (EP X pins σ Q) acc C) I2 T st2 f2 R ?_
  intro D C H' s' m hn ap I' q
  exact ⟨m, hn, fun h'' hb'' => ⟨.ref D, H', ap.turn I' hb'', rfl, q⟩⟩
/-- y = [elt for x in iter if ..] -/
theorem ps_comp {i : Nat} {y : Str} {py spos : Pos} (hN : X.N.Nodup) (hi0 : X.N[i]? = some y) (hx : Loc X.env.scope y) (hc : X.calm = true) (S : CompScope X x N ix scope cl) (hix : ix.length = N.length) (hi : PI X (.Name x px) iter wi) (hb : ∀ s3 H3 fp, PB (cxComp X (x :: N) scope cl s3 H3 fp) ifs elt tb)
    (hsw : swapsWith (.ListComp elt [⟨.Name x px, iter, ifs, 0⟩] scope pos) (some (.Name y py)) spos.line X.env = pure true := by with_unfolding_all rfl)
    (hs : ∀ x, foldedSetIterable iter X.env x = pure x := by intro _; rfl) (hf : X.fn y = true ∨ X.env.scope.names.lookup y = some .local := by first | exact .inl rfl | exact .inr rfl | assumption) :
    PS X (.Assign [.Name y py] (.ListComp elt [⟨.Name x px, iter, ifs, 0⟩] scope pos) spos) (fun D σ H => tCompR wi ix tb σ H fun v H' => D.nx (σ.set i (some v)) H') := by
  intro pins s σ H Dn I h
  rw [exec_Assign_Name_used _ _ _ _ hsw]
  refine wpAny_bind (wpAny_standAt (wpAny_bind ?_))
  show wpAny _ X.A (do let _ ← comprehension (.ListComp elt [⟨.Name x px, iter, ifs, 0⟩] scope pos) scope X.env _ (newList []) false (eval iter X.env) (some (assign (.Name y py) X.env))) _ _ s
  refine wpAny_bind (wpAny_mono (wpAny_comprehension_free (use := some (assign (.Name y py) X.env)) (Q := fun _ s' => SP X pins Dn .next s') rfl hs S.clos S.kind S.names
    (thn (hi pins s σ H _ I h) fun xv s1 h1 => thn h1 fun itv s2 h2 => ?_)) (fun _ s' hq => wpAny_pure (wpAny_pure hq)) fun _ _ e => e)
  obtain ⟨it, fp, tn, J, H2, rfl, I2, T, st2, f2, R⟩ := h2
  refine comp_run hc S hix hb (RR := fun acc C => compPost (model X.prog X.w) X.A X.xe (some (assign (.Name y py) X.env)) (fun _ s' => SP X pins Dn .next s') acc C) (Q := fun v H' => Dn.nx (σ.set i (some v)) H') I2 T st2 f2 R ?_
  intro D C H' s' m hn ap I' q
  show wpAny _ X.A (assign (.Name y py) X.env (.ref D)) _ _ _
  refine wpAny_assign_Name (store_ok2 I' hN hi0 hx (v := .ref D) rfl (fun s'' I'' hsb => ?_) hf)
  obtain ⟨a, hsb, ha⟩ := hsb
  have ne : C ≠ a := by
    rcases ha with z | z
    · rw [z]; exact ap.lo
    · exact Ne.symm (ap.ce y a z)
  exact ⟨m, hn.sameBut hsb ne, fun h'' hb'' => ⟨_, H', ap.turn I'' hb'', q⟩⟩
end
end L2

namespace L2
open PySem PySem.Spec PyProof.Rows
section
variable {X : Cx} {pins : List (Addr × Obj)} {σ : St} {H : Hp} {s : Shared} {h' : Heap}
/-- several untracked records of ours have turned, and a new object is tracked -/
theorem Inv.turnedNew {t' : Nat} {ch : List Addr} {T : Addr} {o : HO} (I : Inv X pins σ H s) (k : ∀ b u, b ∉ ch → s.heap.get? b = some u → h'.get? b = some u) (hf : ∀ b ∈ ch, FpOk X pins H b) (hT : s.heap.objs.size ≤ T)
    (new : ObjOk X.prog X.w (upd H T o) h' T o) : Inv X pins σ (upd H T o) { s with heap := h', toks := t' } := by
  have nit : ∀ b u, H b = some u → b ∉ ch := fun b u e z => by rw [(hf b z).1] at e; cases e
  have hn : H T = none := I.hok.fresh hT
  have lt : ∀ b u, s.heap.get? b = some u → b ≠ T := fun b u e => Nat.ne_of_lt (Nat.lt_of_lt_of_le (Heap.lt_size e) hT)
  refine I.step (g' := s.gens) (d' := s.drawn) (ch := ch) (fun b hb => ?_) (fun b u _ _ hc e _ => k b u hc e) (fun b u _ _ hc e _ => ⟨u.slots, k b u hc e⟩) (fun b u _ e n => by rw [upd_ne (lt b u e)]; exact n) (fun b u hc e => ⟨u, k b u hc e⟩)
    (fun b xs e => by rw [upd_ne (ne_of_none e hn)]; exact e) (fun b ob u e => by rw [upd_ne (ne_of_none e hn)]; exact e) (fun b ps e => ⟨#[], by rw [upd_ne (ne_of_none e hn), e]; simp⟩) (fun m hm => ?_) (fun b u e => ?_) I.bare
  · obtain ⟨_, h2, _, h4, h5, h6⟩ := hf b hb
    exact ⟨h4, h2, h5, h6⟩
  · obtain ⟨ob, es, ep, ho, r⟩ := hm
    exact ⟨ob, es, ep, k _ ob (fun z => (hf _ z).2.1 rfl) ho, r⟩
  · by_cases hb : b = T
    · subst hb
      rw [upd_same] at e
      cases e
      exact new
    · rw [upd_ne hb] at e
      refine (I.hok b u e).stay (fun c v hc q => k c v ?_ q) (fun c q => by rw [upd_ne (ne_of_none q hn)]; exact q) fun c xs q => by rw [upd_ne (ne_of_none q hn)]; exact q
      rcases hc with z | z
      · rw [z]; exact nit b u e
      · exact nit c _ z
theorem Inv.turnedL {t' : Nat} {ch : List Addr} (I : Inv X pins σ H s) (k : ∀ b u, b ∉ ch → s.heap.get? b = some u → h'.get? b = some u) (hf : ∀ b ∈ ch, FpOk X pins H b) : Inv X pins σ H { s with heap := h', toks := t' } := by
  have nit : ∀ b u, H b = some u → b ∉ ch := fun b u e z => by rw [(hf b z).1] at e; cases e
  refine I.step (g' := s.gens) (d' := s.drawn) (ch := ch) (fun b hb => ?_) (fun b u _ _ hc e _ => k b u hc e) (fun b u _ _ hc e _ => ⟨u.slots, k b u hc e⟩) (fun _ _ _ _ n => n) (fun b u hc e => ⟨u, k b u hc e⟩)
    (fun _ _ e => e) (fun _ _ _ e => e) (fun b ps e => ⟨#[], by rw [e]; simp⟩) (fun m hm => ?_) (fun b u e => ?_) I.bare
  · obtain ⟨_, h2, _, h4, h5, h6⟩ := hf b hb
    exact ⟨h4, h2, h5, h6⟩
  · obtain ⟨ob, es, ep, ho, r⟩ := hm
    exact ⟨ob, es, ep, k _ ob (fun z => (hf _ z).2.1 rfl) ho, r⟩
  · refine (I.hok b u e).stay (fun c v hc q => k c v ?_ q) (fun _ q => q) fun _ _ q => q
    rcases hc with z | z
    · rw [z]; exact nit b u e
    · exact nit c _ z
end

/-! ### for a, b in enumerate(xs) -/
def Ite (K : PySem.W.Frag) (a : Addr) : It :=
  ⟨fun i H => ∃ xs x, SqL K H a xs ∧ xs[i]? = some x, fun i H y H' => ∃ t, y = .ref t ∧ H t = none ∧ ∀ xs x, SqL K H a xs → xs[i]? = some x → H' = upd H t (.tup [.int i, x]), fun i H => ∃ xs, SqL K H a xs ∧ xs.length ≤ i⟩
theorem turn_enum {P : Program} {w : World} {K : PySem.W.Frag} {elts : List Expr} {k : Nat} {pos : Pos} (a e it : Addr) (hei : e ≠ it) :
    Turn P w K (.Tuple elts k pos) (Ite K a) [e, it] e (fun i h => (∃ old, IsEnum h e it i old) ∧ h.IsListIter it a i) where
  mem := by simp
  obj := fun i h st b hb => by
    obtain ⟨⟨old, he⟩, o, e2, c, d⟩ := st
    rcases List.mem_cons.mp hb with z | z
    · subst z
      exact ⟨_, he, fun v z => nomatch z⟩
    · have z' := List.mem_singleton.mp z
      subst z'
      exact ⟨o, e2, fun v z => by rw [d] at z; cases z⟩
  keep := fun i h h' st k => by
    obtain ⟨⟨old, he⟩, hit⟩ := st
    exact ⟨⟨old, k e (by simp) _ he⟩, hit.at fun o x => k it (by simp) o x⟩
  item := by
    intro X hP hw hK hc i pins s σ H E I hf st hg
    subst hP hw hK
    obtain ⟨xs, x, hq, hx⟩ := hg
    obtain ⟨its, rv, p, hz⟩ := I.list hq
    obtain ⟨u, hu, ru⟩ := rv.get hx
    obtain ⟨⟨old, he⟩, hit⟩ := st
    refine wpAny_pyNext_enum_item he hit p.isList (x := u) (by simpa using hu) hei fun h1 ho hit1 hT hsz hk => ?_
    refine ⟨_, rfl, wpAny_letOwnedTupleGo_enum ho fun h2 he2 hs2 => ?_⟩
    have elt : e < s.heap.objs.size := Heap.lt_size he
    have hT2 : h2.get? s.heap.objs.size = some { cls := .type "tuple", data := .seq #[.int i s.toks, u] } := (hs2.2 _ (Ne.symm (Nat.ne_of_lt elt))).trans hT
    have I2 : Inv X pins σ (upd H s.heap.objs.size (.tup [.int i, x])) { s with heap := h2, toks := s.toks + 1 } := by
      refine I.turnedNew (ch := [e, it]) (fun b ob hb eb => ?_) hf (Nat.le_refl _) ⟨by show 2 ≤ sizeLine; decide, [.int i s.toks, u], .cons ⟨_, rfl⟩ (.cons ru .nil), ⟨_, hT2, rfl, _, rfl⟩, _, hT2, rfl⟩
      have b1 : b ≠ e := fun z => hb (by simp [z])
      have b2 : b ≠ it := fun z => hb (by simp [z])
      exact (hs2.2 b b1).trans (hk b ob b1 b2 eb)
    refine ⟨.ref s.heap.objs.size, _, I2, rfl, ⟨_, rfl, I.hok.fresh (Nat.le_refl _), fun ys y hy hyi => ?_⟩, ⟨⟨u, by simpa using he2⟩, hit1.at fun o z => (hs2.2 it (Ne.symm hei)).trans z⟩, fun b hb => ?_⟩
    · have e1 := I.list_inj hy hq
      subst e1
      rw [hx] at hyi
      cases hyi
      rfl
    · have z := hf b hb
      have hlt : b < s.heap.objs.size := by
        rcases List.mem_cons.mp hb with y | y
        · rw [y]; exact elt
        · rw [List.mem_singleton.mp y]
          obtain ⟨o, e2, _⟩ := hit
          exact Heap.lt_size e2
      rw [upd_ne (Nat.ne_of_lt hlt)]
      exact z.1
  done := by
    intro X hP hw hK hc i pins s σ H E I hf st hg
    subst hP hw hK
    obtain ⟨xs, hq, hx⟩ := hg
    obtain ⟨its, rv, p, hz⟩ := I.list hq
    obtain ⟨⟨old, he⟩, hit⟩ := st
    have hl := rv.length
    exact wpAny_pyNext_enum_end (I.ok.hd hc) he hit p.isList (Array.getElem?_eq_none (by simp; omega)) fun h' eb => ⟨rfl, I.turnedL (t' := s.toks) (ch := [e, it]) (fun b o hb eo => eb b o (fun z => hb (by simp [z])) eo) hf⟩
  self := fun _ _ _ _ _ st h => by
    obtain ⟨⟨old, he⟩, _⟩ := st
    exact wpAny_pyIter_enum he h
section
variable {X : Cx} {elts : List Expr} {k : Nat} {tpos : Pos}
def iEnum (K : PySem.W.Frag) (tl : TE) : TI := fun σ H R => tl σ H fun x H1 => ∃ a, x = .ref a ∧ (∃ xs, SqL K H1 a xs) ∧ R (Ite K a) H1
theorem pi_enum {l : Expr} {tl : TE} {p pos : Pos} (hg : Gl X "enumerate") (hm : X.mg "enumerate" = none) (hl : PE X l tl) (hs : starEach [l] X.env = [(false, eval l X.env)] := by rfl) :
    PI X (.Tuple elts k tpos) (.Call (.Name "enumerate" p) [l] [] pos) (iEnum X.K tl) := by
  intro pins s σ H R I h
  refine Call_ (ld_blt I hg hm boot_enumerate (PyProof.Rows.callWith_type1 ?_ hs rfl))
  rw [hs]
  show wpAny _ _ (spliced ((false, eval l X.env) :: backTo pos (starEach [] X.env))) _ _ s
  refine Calls.spliced_cons (thn (hl pins s σ H _ I h) fun u s1 ⟨x, H1, I1, r1, a, ex, ⟨xs, hq⟩, q⟩ => ?_)
  subst ex
  cases r1
  obtain ⟨its, rv, p, hz⟩ := I1.list hq
  refine Calls.spliced_nil ?_
  refine call_enumerate_list p.isList fun h' he hit hsz hk => ?_
  refine wpAny_pyIter_enum he ?_
  have I2 : Inv X pins σ H1 { s1 with heap := h' } := I1.kept (t' := s1.toks) hk
  refine ⟨s1.heap.objs.size + 1, [s1.heap.objs.size + 1, s1.heap.objs.size], _, _, H1, rfl, I2, turn_enum a _ _ (Nat.ne_of_gt (Nat.lt_succ_self _)), ⟨⟨_, he⟩, hit⟩, fun b hb => ?_, q⟩
  rcases List.mem_cons.mp hb with z | z
  · rw [z]
    exact I1.fpOk (Nat.le_succ _) (I1.hok.fresh (Nat.le_succ _))
  · rw [List.mem_singleton.mp z]
    exact I1.fpOk (Nat.le_refl _) (I1.hok.fresh (Nat.le_refl _))
end
/-- over enumerate of a list that the body leaves as it is -/
theorem for_enum {K : PySem.W.Frag} {a : Addr} {xs : List V} {g : TG} {tb : TS} {D : Ends} {σ : St} {H : Hp} (Pv : Nat → St → Hp → Prop) (h0 : Pv 0 σ H) (hl : ∀ i σ H, i ≤ xs.length → Pv i σ H → SqL K H a xs)
    (hs : ∀ i x σ H t, xs[i]? = some x → Pv i σ H → H t = none → g (.ref t) σ (upd H t (.tup [.int i, x])) fun σ2 H2 => tb { D with nx := Pv (i + 1), ct := Pv (i + 1), bk := D.nx } σ2 H2) (hd : ∀ σ H, Pv xs.length σ H → D.nx σ H) :
    ∃ W : Nat → Nat → St → Hp → Prop, (∃ m, W 0 m σ H) ∧ ∀ i m σ H, W i m σ H →
      ((Ite K a).stop i H ∧ D.nx σ H) ∨ ((Ite K a).go i H ∧ ∃ N : St → Hp → Prop, (∀ σ' H', N σ' H' → ∃ m', m' < m ∧ W (i + 1) m' σ' H') ∧ ∀ x H', (Ite K a).yld i H x H' → g x σ H' fun σ2 H2 => tb { D with nx := N, ct := N, bk := D.nx } σ2 H2) := by
  refine ⟨fun i m σ H => m = xs.length - i ∧ i ≤ xs.length ∧ Pv i σ H, ⟨xs.length, by simp, Nat.zero_le _, h0⟩, ?_⟩
  rintro i m σ H ⟨rfl, hi, p⟩
  have q := hl i σ H hi p
  by_cases hlt : i < xs.length
  · refine .inr ⟨⟨xs, xs[i], q, by simp [hlt]⟩, Pv (i + 1), fun σ' H' p' => ⟨xs.length - (i + 1), by omega, rfl, hlt, p'⟩, fun x H' y => ?_⟩
    obtain ⟨t, rfl, ht, e⟩ := y
    have e' := e xs xs[i] q (by simp [hlt])
    subst e'
    exact hs i xs[i] σ H t (by simp [hlt]) p ht
  · have e : i = xs.length := by omega
    subst e
    exact .inl ⟨⟨xs, q, Nat.le_refl _⟩, hd σ H p⟩
end L2

namespace L2
open PySem PySem.Spec PyProof.Rows
/-! ### data in the abstract heap, and == of it -/
mutual
inductive Rep (K : PySem.W.Frag) (H : Hp) : V → PyData → Prop
  | non : Rep K H .non .none
  | bl (b : Bool) : Rep K H (.bl b) (.bool b)
  | int (i : Int) : Rep K H (.int i) (.int i)
  | str (x : Str) : Rep K H (.str x) (.str x)
  | tup {a : Addr} {xs : List V} {ds : List PyData} : SqT K H a xs → RepAll K H xs ds → Rep K H (.ref a) (.tuple ds)
  | lst {a : Addr} {xs : List V} {ds : List PyData} : SqL K H a xs → RepAll K H xs ds → Rep K H (.ref a) (.list ds)
inductive RepAll (K : PySem.W.Frag) (H : Hp) : List V → List PyData → Prop
  | nil : RepAll K H [] []
  | cons {x : V} {d : PyData} {xs : List V} {ds : List PyData} : Rep K H x d → RepAll K H xs ds → RepAll K H (x :: xs) (d :: ds)
end
section
variable {X : Cx} {pins : List (Addr × Obj)} {σ : St} {H : Hp} {s : Shared}
mutual
theorem Rep.reads (I : Inv X pins σ H s) : ∀ {x : V} {d : PyData} {v : Value}, Rep X.K H x d → RelV x v → ∃ as, Reads s.heap v d as
  | _, _, v, .non, r => by cases (show v = Value.none from r); exact ⟨_, Reads.none⟩
  | _, _, v, .bl b, r => by cases (show v = Value.bool b from r); exact ⟨_, Reads.bool b⟩
  | _, _, v, .int i, r => by obtain ⟨t, e⟩ := (show ∃ t, v = Value.int i t from r); cases e; exact ⟨_, Reads.int i t⟩
  | _, _, v, .str x, r => by obtain ⟨t, e⟩ := (show ∃ t, v = Value.str x t from r); cases e; exact ⟨_, Reads.str x t⟩
  | _, _, v, .tup (a := a) h q, r => by
    cases (show v = Value.ref a from r)
    obtain ⟨its, rv, ⟨o, ho, hc, n, hd⟩, _⟩ := I.tuple h
    obtain ⟨as, z⟩ := RepAll.reads I q rv
    exact ⟨_, reads_tuple_at ho hc hd (by simpa using z)⟩
  | _, _, v, .lst (a := a) h q, r => by
    cases (show v = Value.ref a from r)
    obtain ⟨its, rv, ⟨o, n, ho, hc, _, hd⟩, _⟩ := I.list h
    obtain ⟨as, z⟩ := RepAll.reads I q rv
    exact ⟨_, reads_list_at ho hc hd (by simpa using z)⟩
theorem RepAll.reads (I : Inv X pins σ H s) : ∀ {xs : List V} {ds : List PyData} {vs : List Value}, RepAll X.K H xs ds → Vals xs vs → ∃ as, ReadsAll s.heap vs ds as
  | _, _, _, .nil, .nil => ⟨_, ReadsAll.nil⟩
  | _, _, _, .cons h q, .cons r rs => by
    obtain ⟨as, z⟩ := Rep.reads I h r
    obtain ⟨bs, y⟩ := RepAll.reads I q rs
    exact ⟨_, ReadsAll.cons z y⟩
end
end
theorem rep_ints {K : PySem.W.Frag} {H : Hp} : ∀ ns : List Int, RepAll K H (ns.map V.int) (ns.map PyData.int)
  | [] => .nil
  | n :: r => .cons (.int n) (rep_ints r)
section
variable {X : Cx}
def rEqD (K : PySem.W.Frag) : R2 := fun x y H Q => ∃ d e, Rep K H x d ∧ Rep K H y e ∧ SeqAt.shaped d = true ∧ SeqAt.shaped e = true ∧ Q (.bl (PyData.eqv d e)) H
def rNeD (K : PySem.W.Frag) : R2 := fun x y H Q => ∃ d e, Rep K H x d ∧ Rep K H y e ∧ SeqAt.shaped d = true ∧ SeqAt.shaped e = true ∧ Q (.bl (!PyData.eqv d e)) H
theorem op_eqD (hu : X.A.units + 64 < cLine) : OpR X (compareOp .Eq) (rEqD X.K) := by
  intro pins s σ H x y v u Q I rx ry h
  obtain ⟨d, e, hd, he, sd, se, q⟩ := h
  obtain ⟨as, r1⟩ := Rep.reads I hd rx
  obtain ⟨bs, r2⟩ := Rep.reads I he ry
  exact eq_dataH r1 r2 sd se hu ⟨.bl _, H, I, rfl, q⟩
/-- t + u of tuples, t without items: u itself -/
def rCatT0 (K : PySem.W.Frag) : R2 := fun x y H Q => ∃ a b ys, x = .ref a ∧ y = .ref b ∧ SqT K H a [] ∧ SqT K H b ys ∧ Q (.ref b) H
end
end L2

namespace L2
open PySem PySem.Spec PyProof.Rows
/-! ### list(reversed(xs)) -/
section
variable {prog : Program} {w : World} {A : Around} {E : Value → Shared → Prop} {s : Shared} {R : Result → Shared → Prop}
end
section
variable {X : Cx}
/-- list(reversed(e)), e a list -/
def tListRev (K : PySem.W.Frag) (te : TE) : TE := fun σ H Q => te σ H fun x H1 => ∃ l ys, x = .ref l ∧ SqL K H1 l ys ∧ ∀ p, H1 p = none → Q (.ref p) (upd H1 p (.lst ys.reverse))
end
end L2

namespace L2
open PySem PySem.Spec PyProof.Rows
/-! ### the forms of a comprehension that one uses -/
def Nx (n i : Nat) (Pv : Nat → Hp → Prop) (H : Hp) : Prop := ∃ m', m' < n - i ∧ (m' = n - (i + 1) ∧ i + 1 ≤ n ∧ Pv (i + 1) H)
theorem Nx.of {n i : Nat} {Pv : Nat → Hp → Prop} {H : Hp} (h : i < n) (p : Pv (i + 1) H) : Nx n i Pv H := ⟨n - (i + 1), by omega, rfl, h, p⟩
theorem comp_list {K : PySem.W.Frag} {a D : Addr} {xs : List V} {ix : List Nat} {tb : TBl} {σ : St} {H : Hp} {Q : VK} (Pv : Nat → Hp → Prop) (h0 : Pv 0 (upd H D (.lst []))) (hl : ∀ i H, i ≤ xs.length → Pv i H → SqL K H a xs)
    (hs : ∀ i x H, xs[i]? = some x → Pv i H → tb (some x :: outs ix σ) H (Nx xs.length i Pv) fun z H' => ∃ ys, H' D = some (.lst ys) ∧ ys.length < sizeLine ∧ Nx xs.length i Pv (upd H' D (.lst (ys ++ [z])))) (hd : ∀ H, Pv xs.length H → Q (.ref D) H) :
    CompEx (Itl K a) D ix tb σ H Q := by
  refine ⟨fun i m H => m = xs.length - i ∧ i ≤ xs.length ∧ Pv i H, ⟨xs.length, by simp, Nat.zero_le _, h0⟩, ?_⟩
  rintro i m H ⟨rfl, hi, p⟩
  have q := hl i H hi p
  by_cases hlt : i < xs.length
  · refine .inr ⟨⟨xs, xs[i], q, by simp [hlt]⟩, fun x H' y => ?_⟩
    obtain ⟨e, y⟩ := y
    subst e
    exact hs i x _ (y xs q) p
  · have e : i = xs.length := by omega
    subst e
    exact .inl ⟨⟨xs, q, Nat.le_refl _⟩, hd H p⟩
theorem comp_range {lo : Int} {n : Nat} {D : Addr} {ix : List Nat} {tb : TBl} {σ : St} {H : Hp} {Q : VK} (Pv : Nat → Hp → Prop) (h0 : Pv 0 (upd H D (.lst [])))
    (hs : ∀ i H, i < n → Pv i H → tb (some (.int (lo + i)) :: outs ix σ) H (Nx n i Pv) fun z H' => ∃ ys, H' D = some (.lst ys) ∧ ys.length < sizeLine ∧ Nx n i Pv (upd H' D (.lst (ys ++ [z])))) (hd : ∀ H, Pv n H → Q (.ref D) H) :
    CompEx (Itr lo n) D ix tb σ H Q := by
  refine ⟨fun i m H => m = n - i ∧ i ≤ n ∧ Pv i H, ⟨n, by simp, Nat.zero_le _, h0⟩, ?_⟩
  rintro i m H ⟨rfl, hi, p⟩
  by_cases hlt : i < n
  · refine .inr ⟨hlt, fun x H' y => ?_⟩
    obtain ⟨e, y⟩ := y
    subst e y
    exact hs i _ hlt p
  · have e : i = n := by omega
    subst e
    exact .inl ⟨Nat.le_refl _, hd H p⟩
/-- a comprehension that sees no name of the def -/
theorem CompScope.closed {X : Cx} {x : Str} {scope : Scope} (c1 : closureFor scope X.env = pure []) (c2 : ∀ y ∈ scope.names, y.2 ≠ .cell) (c3 : scope.kind = .function) (c4 : ∀ y ∈ scope.names, y.2 = .local → scope.names.lookup y.1 = some .local)
    (c5 : scope.names.lookup x = some .local) (c6 : ((relabel scope X.env).names.all fun p => !(p.2 == .cell || p.2 == .free) || ((([] : List (Str × Addr))).lookup p.1).isSome) = true) : CompScope X x [] [] scope [] where
  clos := c1
  nocell := c2
  kind := c3
  names := c4
  own := c5
  nd := by simp
  sub := fun p hp => absurd hp (by simp)
  has := c6
  outs := fun j y h => by simp at h
end L2

namespace L2
open PySem PySem.Spec PyProof.Rows
/-! ### the rules that look at the written part, K named (for a comprehension's block) -/
section
variable {X : Cx}
def rIsi (K : PySem.W.Frag) : List V → Hp → VK → Prop := fun xs H Q => ∃ x t n b, xs = [x, .ty n] ∧ TyOf K H x t ∧ PySem.W.kitOne K t (.type n) = some b ∧ Q (.bl b) H
def rLen (K : PySem.W.Frag) : List V → Hp → VK → Prop := fun xs H Q => ∃ p ys, xs = [.ref p] ∧ (SqL K H p ys ∨ SqT K H p ys) ∧ Q (.int ys.length) H
theorem ix_listK (K : PySem.W.Frag) (hK : X.K = K := by rfl) : IxR X (rIxL K) := by subst hK; exact ix_list
end
end L2

namespace L2
open PySem PySem.Spec PyProof.Rows
/-! ### texts: their signs, slices, join, times, startswith; all of a list -/
def Its (z : Str) : It := ⟨fun i _ => i < z.cps.size, fun i H x H' => H' = H ∧ ∃ c, z.cps[i]? = some c ∧ x = .str ⟨#[c]⟩, fun i _ => z.cps.size ≤ i⟩
theorem walks_strU {prog : Program} {w : World} {A : Around} (hh : A.handled = none) (I : Addr) (x : Str) (t : Tok) : Walks prog w A I [I] [I] x.cps.size (SignAt x) (fun i h => h.IsStrIter I (strIterType x) x t i) := by
  unfold strIterType
  split
  · exact Walks.strAscii hh I x t
  · exact Walks.strWide hh I x t
theorem turn_str {P : Program} {w : World} {K : PySem.W.Frag} {y : Str} {py : Pos} (z : Str) (t : Tok) (it : Addr) : Turn P w K (.Name y py) (Its z) [it] it (fun i h => i ≤ z.cps.size ∧ h.IsStrIter it (strIterType z) z t i) where
  mem := by simp
  obj := fun i h st b hb => by
    have e : b = it := by simpa using hb
    subst e
    obtain ⟨_, o, e, c, d⟩ := st
    exact ⟨o, e, fun v z => by rw [d] at z; cases z⟩
  keep := fun i h h' st k => by
    obtain ⟨hi, o, e, r⟩ := st
    exact ⟨hi, o, k it (by simp) o e, r⟩
  item := by
    intro X hP hw hK hc i pins s σ H E I hf st hg
    subst hP hw hK
    obtain ⟨f0, f1, f2, f3, f4, f5⟩ := hf it (by simp)
    refine (walks_strU (I.ok.hd hc) it z t).item i s _ E hg st.2 fun v h' tk hP hst hk => ?_
    obtain ⟨c, u, hcx, rfl⟩ := hP
    have I1 : Inv X pins σ H { s with heap := h', toks := tk } := I.turned (fun b o hb e => hk b o (by simpa using hb) e) f0 f1 f3 f4 f5
    exact ⟨_, rfl, wpAny_of_eq (a := ()) rfl ⟨.str ⟨#[c]⟩, H, I1, ⟨_, rfl⟩, ⟨rfl, c, hcx, rfl⟩, ⟨hg, hst⟩, fun b hb => (hf b hb).1⟩⟩
  done := by
    intro X hP hw hK hc i pins s σ H E I hf st hg
    subst hP hw hK
    obtain ⟨f0, f1, f2, f3, f4, f5⟩ := hf it (by simp)
    have e : i = z.cps.size := Nat.le_antisymm st.1 hg
    subst e
    refine (walks_strU (I.ok.hd hc) it z t).done s _ E st.2 fun h' tk hk => ?_
    exact ⟨rfl, I.turned (fun b o hb e => hk b o (by simpa using hb) e) f0 f1 f3 f4 f5⟩
  self := fun A i s Q E st h => by
    obtain ⟨_, st⟩ := st
    unfold strIterType at st
    split at st
    · exact wpAny_pyIter_striter_ascii st h
    · exact wpAny_pyIter_striter_wide st h
section
variable {X : Cx} {y : Str} {py : Pos}
def iStr (tl : TE) : TI := fun σ H R => tl σ H fun x H1 => ∃ z, x = .str z ∧ R (Its z) H1
theorem pi_str {l : Expr} {tl : TE} (hl : PE X l tl) : PI X (.Name y py) l (iStr tl) := by
  intro pins s σ H R I h
  refine thn (hl pins s σ H _ I h) fun v s1 ⟨x, H1, I1, r1, q1⟩ => ?_
  obtain ⟨z, e, q⟩ := q1
  subst e
  obtain ⟨t, rfl⟩ := r1
  refine wpAny_pyIter_strU ?_
  refine ⟨s1.heap.objs.size, [s1.heap.objs.size], _, _, H1, rfl, I1.kept (t' := s1.toks) fun b o e => Heap.get?_push_of_some _ e, turn_str z t _, ⟨Nat.zero_le _, _, Heap.get?_push_size _ rfl, rfl, rfl⟩, fun b hb => ?_, q⟩
  have e : b = s1.heap.objs.size := by simpa using hb
  subst e
  exact I1.fpOk (Nat.le_refl _) (I1.hok.fresh (Nat.le_refl _))
end
theorem comp_str {z : Str} {D : Addr} {ix : List Nat} {tb : TBl} {σ : St} {H : Hp} {Q : VK} (Pv : Nat → Hp → Prop) (h0 : Pv 0 (upd H D (.lst [])))
    (hs : ∀ i c H, z.cps[i]? = some c → Pv i H → tb (some (.str ⟨#[c]⟩) :: outs ix σ) H (Nx z.cps.size i Pv) fun u H' => ∃ ys, H' D = some (.lst ys) ∧ ys.length < sizeLine ∧ Nx z.cps.size i Pv (upd H' D (.lst (ys ++ [u])))) (hd : ∀ H, Pv z.cps.size H → Q (.ref D) H) :
    CompEx (Its z) D ix tb σ H Q := by
  refine ⟨fun i m H => m = z.cps.size - i ∧ i ≤ z.cps.size ∧ Pv i H, ⟨z.cps.size, by simp, Nat.zero_le _, h0⟩, ?_⟩
  rintro i m H ⟨rfl, hi, p⟩
  by_cases hlt : i < z.cps.size
  · refine .inr ⟨hlt, fun x H' y => ?_⟩
    obtain ⟨e, c, hc, rfl⟩ := y
    subst e
    exact hs i c _ hc p
  · have e : i = z.cps.size := by omega
    subst e
    exact .inl ⟨Nat.le_refl _, hd H p⟩
section
variable {X : Cx}
/-- t[lo:hi] of a text -/
def rSlS : V → Option Int → Option Int → Hp → VK → Prop := fun x lo hi H Q => ∃ z, x = .str z ∧ z.length ≤ sizeLine ∧ Q (.str (Txt.slice z lo hi)) H
/-- t.startswith(u) -/
def rStarts : V → List V → Hp → VK → Prop := fun x vs H Q => ∃ z u, x = .str z ∧ vs = [.str u] ∧ Q (.bl (Txt.startswith z u)) H
theorem mt_startswith : MtR X "str.startswith" rStarts := by
  intro pins s σ H x vs v us Q I rx rv h
  obtain ⟨z, u, rfl, rfl, q⟩ := h
  obtain ⟨t, rfl⟩ := rx
  obtain ⟨w', rfl, t', rfl⟩ := rv.one
  exact SC.startswith ⟨.bl _, H, I, rfl, q⟩
theorem strsAre_of : ∀ {zs : List Str} {us : List Value}, Vals (zs.map V.str) us → StrsAre us zs
  | [], _, .nil => .nil
  | _ :: _, _, .cons ⟨t, e⟩ r => by subst e; exact .cons _ t (strsAre_of r)
/-- sep.join(list of texts) -/
def rJoin (K : PySem.W.Frag) : V → List V → Hp → VK → Prop := fun x vs H Q => ∃ z a ys, x = .str z ∧ vs = [.ref a] ∧ SqL K H a (ys.map V.str) ∧ z.length ≤ 16 ∧ (ys.map (·.length)).sum + ys.length ≤ 1048576 ∧ Q (.str (Txt.join z ys)) H
theorem mt_join : MtR X "str.join" (rJoin X.K) := by
  intro pins s σ H x vs v us Q I rx rv h
  obtain ⟨z, a, ys, rfl, rfl, hq, hz, hw, q⟩ := h
  obtain ⟨t, rfl⟩ := rx
  obtain ⟨w', rfl, ra⟩ := rv.one
  cases ra
  obtain ⟨its, r', p, _⟩ := I.list hq
  exact join_listW p.isList (by simpa using strsAre_of r') hz hw fun t' k => ⟨.str _, H, I.tok k, ⟨_, rfl⟩, q⟩
/-- t * n of a short text -/
def rMulS : R2 := fun x y H Q => ∃ z n, x = .str z ∧ y = .int n ∧ MulOk z n ∧ Q (.str (Txt.mul z n)) H
/-- all of a list of truths -/
def rAll (K : PySem.W.Frag) : List V → Hp → VK → Prop := fun xs H Q => ∃ (a : Addr) (bs : List Bool), xs = [.ref a] ∧ SqL K H a (bs.map V.bl) ∧ Q (.bl (bs.all id)) H
theorem bools_get : ∀ {bs : List Bool} {us : List Value} {i : Nat} {v : Value}, Vals (bs.map V.bl) us → us[i]? = some v → ∃ b, bs[i]? = some b ∧ v = .bool b
  | [], _, _, _, .nil, h => by simp at h
  | b :: _, _, 0, _, .cons r _, h => by
    simp at h
    subst h
    exact ⟨b, rfl, r⟩
  | _ :: _, _, i + 1, _, .cons _ t, h => by
    obtain ⟨b, h1, h2⟩ := bools_get (i := i) t (by simpa using h)
    exact ⟨b, by simpa using h1, h2⟩
theorem call_all (hc : X.calm = true) : CallR X (.builtin "all") (rAll X.K) := by
  intro pins s σ H xs us Q I r h
  obtain ⟨a, bs, rfl, hq, q⟩ := h
  obtain ⟨u, rfl, ru⟩ := vals1 r
  cases ru
  obtain ⟨its, r', p, hz⟩ := I.list hq
  have hl := r'.length
  rw [List.length_map] at hl
  have hlt : a < s.heap.objs.size := by obtain ⟨o, n, e, _⟩ := p; exact Heap.lt_size e
  refine call_all_walk (wpAny_pyIter_list p.isList ?_)
  refine ⟨s.heap.objs.size, _, _, _, _, _, fun i => bs[i]?.getD true, rfl, Walks.list (A := X.A.in1) (I.ok.hd hc) s.heap.objs.size a (Nat.ne_of_lt hlt) its.toArray, ⟨⟨_, Heap.get?_push_size _ rfl, rfl, rfl⟩, p.isList.push _⟩, ?_, ?_⟩
  · intro i v s' Q' E' hP hQ
    obtain ⟨b, hb, rfl⟩ := bools_get r' (i := i) (v := v) (by simpa using hP)
    have hQ' : Q' b s' := by simpa [hb] using hQ
    exact wpAny_truthy_bool hQ'
  · intro h' tk hk
    have e : (List.range its.toArray.size).all (fun i => bs[i]?.getD true) = bs.all id := by
      rw [List.size_toArray, ← hl]
      rw [Bool.eq_iff_iff, List.all_eq_true, List.all_eq_true]
      constructor
      · intro h b hb
        obtain ⟨i, hi, e⟩ := List.getElem_of_mem hb
        have := h i (List.mem_range.mpr hi)
        rw [List.getElem?_eq_getElem hi] at this
        simpa [e] using this
      · intro h i hi
        have hi' := List.mem_range.mp hi
        rw [List.getElem?_eq_getElem hi']
        exact h _ (List.getElem_mem hi')
    rw [e]
    refine ⟨.bl _, H, ?_, rfl, q⟩
    have I1 : Inv X pins σ H { s with heap := s.heap.push { cls := .type "list_iterator", data := .fields #[.ref a, .int 0 0] } } := I.kept (t' := s.toks) fun b o e => Heap.get?_push_of_some _ e
    refine I1.turnedL (t' := tk) (ch := [s.heap.objs.size]) (fun b o hb e => hk b o (by simpa using hb) e) fun b hb => ?_
    rw [List.mem_singleton.mp hb]
    exact I.fpOk (Nat.le_refl _) (I.hok.fresh (Nat.le_refl _))
end
end L2

namespace L2
open PySem PySem.Spec PyProof.Rows
/-- written texts, one after another -/
inductive Consts : List Expr → List Str → Prop
  | nil : Consts [] []
  | cons {x : Str} {j : Nat} {pos : Pos} {es : List Expr} {zs : List Str} : Consts es zs → Consts (.Constant (.str x) j pos :: es) (x :: zs)
/-- a comprehension that sees one name of the def -/
theorem CompScope.one {X : Cx} {x y : Str} {scope : Scope} {k : Nat} {c : Addr} (c1 : closureFor scope X.env = pure [(y, c)]) (c2 : ∀ y ∈ scope.names, y.2 ≠ .cell) (c3 : scope.kind = .function) (c4 : ∀ y ∈ scope.names, y.2 = .local → scope.names.lookup y.1 = some .local)
    (c5 : scope.names.lookup x = some .local) (nd : [x, y].Nodup) (hc : X.env.cells.lookup y = some c) (c6 : ((relabel scope X.env).names.all fun p => !(p.2 == .cell || p.2 == .free) || (([(y, c)] : List (Str × Addr)).lookup p.1).isSome) = true)
    (hr : (relabel scope X.env).names.lookup y = some .cell) (hk : X.N[k]? = some y) (hs : X.env.scope.names.lookup y = some .cell) : CompScope X x [y] [k] scope [(y, c)] where
  clos := c1
  nocell := c2
  kind := c3
  names := c4
  own := c5
  nd := nd
  sub := fun p hp => by
    rw [List.mem_singleton.mp hp]
    exact hc
  has := c6
  outs := fun j z h => by
    cases j with
    | zero =>
      have e : y = z := Option.some.inj h
      subst e
      exact ⟨hr, k, c, rfl, hk, by simp [List.lookup], hs⟩
    | succ j => simp at h
end L2

namespace Mine
open PySem L2
/-! ### names and trees as the laws draw them -/
def NmOk (x : Str) : Prop := x.length ≤ 20 ∧ (∀ c ∈ x.cps.toList, 97 ≤ c ∧ c ≤ 122) ∧ x ≠ "aa"
inductive Tr where
  | is (x : Str) | yes | no | not (a : Tr) | bin (w : Str) (a b : Tr)
def Tr.size : Tr → Nat
  | .is _ => 1 | .yes => 1 | .no => 1 | .not a => a.size + 1 | .bin _ a b => a.size + b.size + 1
def Tr.depth : Tr → Nat
  | .is _ => 1 | .yes => 1 | .no => 1 | .not a => a.depth + 1 | .bin _ a b => max a.depth b.depth + 1
def Tr.names : Tr → List Str
  | .is x => [x] | .yes => [] | .no => [] | .not a => a.names | .bin _ a b => a.names ++ b.names
def joinW : List Str := ["and", "or", "odd", "same"]
def Tr.ok (ns : List Str) : Tr → Prop
  | .is x => x ∈ ns | .yes => True | .no => True | .not a => a.ok ns | .bin w a b => w ∈ joinW ∧ a.ok ns ∧ b.ok ns
inductive TreeAt (H : Hp) : V → Tr → Prop
  | is {a : Addr} {x : Str} : H a = some (.tup [.str "is", .str x]) → TreeAt H (.ref a) (.is x)
  | yes {a : Addr} : H a = some (.tup [.str "yes"]) → TreeAt H (.ref a) .yes
  | no {a : Addr} : H a = some (.tup [.str "no"]) → TreeAt H (.ref a) .no
  | not {a : Addr} {v : V} {t : Tr} : H a = some (.tup [.str "not", v]) → TreeAt H v t → TreeAt H (.ref a) (.not t)
  | bin {a : Addr} {w : Str} {v u : V} {t r : Tr} : H a = some (.tup [.str w, v, u]) → TreeAt H v t → TreeAt H u r → TreeAt H (.ref a) (.bin w t r)
abbrev KeepT (H H' : Hp) : Prop := ∀ a xs, H a = some (.tup xs) → H' a = some (.tup xs)
def NamesAt (H : Hp) (a : Addr) (ns : List Str) : Prop := H a = some (.lst (ns.map V.str)) ∨ H a = some (.tup (ns.map V.str))
def spNames : Sp := fun vs H Q _ => ∃ (f : Addr) (m : Int), vs = [.ref f, .int m] ∧ FeedAt H f ∧ 0 ≤ m ∧ m ≤ 6 ∧ ∀ (l : Addr) (ns : List Str) (H' : Hp), H l = none → l ≠ f → H' l = some (.lst (ns.map V.str)) → ns.length = m.toNat → (∀ x ∈ ns, NmOk x) → FeedAt H' f → SameBut f H H' → Q (.ref l) H'
def spTree (n : Nat) : Sp := fun vs H Q _ => ∃ (f a : Addr) (room deep : Int) (ns : List Str), vs = [.ref f, .ref a, .int room, .int deep] ∧ FeedAt H f ∧ NamesAt H a ns ∧ ns.length ≤ 6 ∧ 1 ≤ room ∧ room ≤ 100 ∧ 1 ≤ deep ∧ deep + 1 ≤ (n : Int) + 1 ∧
  ∀ (v : V) (t : Tr) (H' : Hp), FeedAt H' f → SameBut f H H' → TreeAt H' v t → t.ok ns → (t.size : Int) ≤ room → (t.depth : Int) ≤ deep → Q v H'
theorem at_in {α : Type} {l : List α} {i : Int} (h0 : 0 ≤ i) (h : i < (l.length : Int)) : ∃ v, atI l i = some v ∧ v ∈ l := by
  have hk : i.toNat < l.length := by omega
  have q : atI l ((i.toNat : Nat) : Int) = some l[i.toNat] := atI_nat (List.getElem?_eq_getElem hk)
  have ek : ((i.toNat : Nat) : Int) = i := by omega
  rw [ek] at q
  exact ⟨_, q, List.getElem_mem hk⟩
end Mine

namespace L2
open PySem PySem.Spec PyProof.Rows
section
variable {X : Cx}
/-! ### list(range(a, b)) -/
def rngV (lo : Int) (n : Nat) : List Int := (List.range n).map fun i : Nat => lo + (i : Int)
theorem rngV_len (lo : Int) (n : Nat) : (rngV lo n).length = n := by unfold rngV; rw [List.length_map, List.length_range]
theorem rng_items {lo : Int} {n : Nat} {acc : List Value} (h : ItemsOf (fun i v => ∃ t, v = Value.int (lo + (i : Int) * 1) t) acc.toArray n) : Vals ((rngV lo n).map V.int) acc := by
  obtain ⟨h1, h2⟩ := h
  have l1 : acc.length = n := by simpa using h1
  have key : ∀ (k : Nat) (l : List Value), (∀ i v, l[i]? = some v → ∃ t, v = Value.int (lo + ((k + i : Nat) : Int)) t) → Vals (((List.range' k l.length).map fun i : Nat => lo + (i : Int)).map V.int) l := by
    intro k l
    induction l generalizing k with
    | nil => intro _; exact .nil
    | cons a r ih =>
      intro h
      obtain ⟨t, e⟩ := h 0 a rfl
      rw [List.length_cons, List.range'_succ, List.map_cons, List.map_cons]
      refine .cons ⟨t, by simpa using e⟩ (ih (k + 1) fun i v hv => ?_)
      obtain ⟨t, e⟩ := h (i + 1) v (by simpa using hv)
      exact ⟨t, by rw [e]; congr 2; omega⟩
  have := key 0 acc fun i v hv => by
    obtain ⟨t, e⟩ := h2 i v (by simpa using hv)
    exact ⟨t, by simpa using e⟩
  unfold rngV
  rw [← l1, List.range_eq_range']
  exact this
def tListRng (ta : TA) : TE := fun σ H Q => ta σ H fun vs H1 => ∃ i j : Int, vs = [.int i, .int j] ∧ (-(2 ^ 62) ≤ i ∧ i < 2 ^ 62 ∧ -(2 ^ 62) ≤ j ∧ j < 2 ^ 62) ∧ j - i ≤ 1000 ∧ ∀ p, H1 p = none → Q (.ref p) (upd H1 p (.lst ((rngV i (j - i).toNat).map V.int)))
theorem pe_listrng {a b : Expr} {ta : TA} {p1 p2 pos1 pos2 : Pos} (hc : X.calm = true) (hg1 : Gl X "list") (hm1 : X.mg "list" = none) (hg2 : Gl X "range") (hm2 : X.mg "range" = none) (ha : PA X [a, b] ta)
    (hs1 : starEach [(.Call (.Name "range" p2) [a, b] [] pos2 : Expr)] X.env = [(false, eval (.Call (.Name "range" p2) [a, b] [] pos2) X.env)] := by rfl) (hs : starEach [a, b] X.env = [(false, eval a X.env), (false, eval b X.env)] := by rfl) (hs2 : starEach [b] X.env = [(false, eval b X.env)] := by rfl) :
    PE X (.Call (.Name "list" p1) [.Call (.Name "range" p2) [a, b] [] pos2] [] pos1) (tListRng ta) := by
  intro pins s σ H Q I h
  refine wpAny_Call_Name_kw (ld_blt I hg1 hm1 boot_list' ?_)
  refine PyProof.Rows.callWith_type1 ?_ hs1 rfl
  rw [hs1]
  show wpAny _ _ (spliced ((false, eval (.Call (.Name "range" p2) [a, b] [] pos2) X.env) :: backTo pos1 (starEach [] X.env))) _ _ s
  have step : wpAny (model X.prog X.w) X.A (eval (.Call (.Name "range" p2) [a, b] [] pos2) X.env) (fun v s1 => ∃ (r : Addr) (i j : Int) (t u k : Tok) (H1 : Hp), v = .ref r ∧ Inv X pins σ H1 s1 ∧ IsRange s1.heap r i j 1 t u k ∧ (-(2 ^ 62) ≤ i ∧ i < 2 ^ 62 ∧ -(2 ^ 62) ≤ j ∧ j < 2 ^ 62) ∧ j - i ≤ 1000 ∧
      ∀ p, H1 p = none → Q (.ref p) (upd H1 p (.lst ((rngV i (j - i).toNat).map V.int)))) X.xe s := by
    refine Call_ (ld_blt I hg2 hm2 boot_range (PyProof.Rows.callWith_type1 (thn (ha pos2 pins s σ H _ I h) fun us s1 ⟨vs, H1, I1, r1, q1⟩ => ?_) (by rw [hs, hs2]) (by rw [hs2]; rfl)))
    obtain ⟨i, j, e, q1, q2, q⟩ := q1
    subst e
    cases r1 with
    | cons r rr =>
      cases rr with
      | cons r' rr =>
        cases rr
        obtain ⟨t, rfl⟩ := r
        obtain ⟨t', rfl⟩ := r'
        refine call_range_2 ⟨_, i, j, _, _, _, H1, rfl, I1.kept fun b o e => Heap.get?_push_of_some _ e, IsRange.new .., q1, q2, q⟩
  refine Calls.spliced_cons (thn step fun v s1 hv => ?_)
  obtain ⟨r, i, j, t, u, k, H1, rfl, I1, hr, ⟨a1, a2, a3, a4⟩, hle, q⟩ := hv
  refine Calls.spliced_nil ?_
  have e2 : Builtin.Range.rangeSize i j 1 = (((j - i).toNat : Nat) : Int) := by rw [rangeSize_one]; split <;> omega
  refine call_list_range (I1.ok.hd hc) hr (small_one a1 a2 a3 a4) e2 (by omega) fun h' tk acc' c' hk hS hacc => ?_
  obtain ⟨acc, rfl⟩ : ∃ acc : List Value, acc' = acc.toArray := ⟨acc'.toList, by simp⟩
  have rr := rng_items hacc
  have I2 : Inv X pins σ (upd H1 s1.heap.objs.size (.lst ((rngV i (j - i).toNat).map V.int))) { s1 with heap := h', toks := tk } := by
    refine I1.turnedNew (ch := []) (fun b ob _ eb => hk b ob eb) (fun b hb => absurd hb (by simp)) (Nat.le_refl _) ⟨?_, acc, c', rr, hS⟩
    rw [List.length_map, rngV_len]
    exact small (by omega)
  exact ⟨.ref s1.heap.objs.size, _, I2, rfl, q _ (I1.hok.fresh (Nat.le_refl _))⟩
/-! ### sum(xs) -/
def rSum (K : PySem.W.Frag) : List V → Hp → VK → Prop := fun xs H Q => ∃ (a : Addr) (ns : List Int), xs = [.ref a] ∧ SqL K H a (ns.map V.int) ∧ (∀ n ∈ ns, 0 ≤ n) ∧ ns.sum < 2 ^ 63 ∧ Q (.int ns.sum) H
end
end L2

namespace L2
open PySem PySem.Spec PyProof.Rows
/-! ### list(reversed(t)), t a tuple -/
def RevT (h : Heap) (it t : Addr) (i : Int) : Prop := h.get? it = some { cls := .type "reversed", data := .fields #[.ref t, rawInt i] }
section
variable {prog : Program} {w : World} {A : Around} {E : Value → Shared → Prop} {s : Shared} {R : Result → Shared → Prop} {it t : Addr}
end
section
variable {X : Cx}
/-- list(reversed(e)), e a tuple -/
def tListRevT (K : PySem.W.Frag) (te : TE) : TE := fun σ H Q => te σ H fun x H1 => ∃ l ys, x = .ref l ∧ SqT K H1 l ys ∧ ∀ p, H1 p = none → Q (.ref p) (upd H1 p (.lst ys.reverse))
end
end L2

namespace Mine
open PySem L2
/-! ### more of trees: parts, sizes, data -/
def Tr.wf : Tr → Prop
  | .is x => NmOk x | .yes => True | .no => True | .not a => a.wf | .bin w a b => w ∈ joinW ∧ a.wf ∧ b.wf
def Tr.parts : Tr → List Tr
  | .is _ => [] | .yes => [] | .no => [] | .not a => [a] | .bin _ a b => [a, b]
def sizes (ts : List Tr) : Nat := (ts.map Tr.size).sum
def namesL (ts : List Tr) : List Str := (ts.map Tr.names).flatten
inductive TreesAt (H : Hp) : List V → List Tr → Prop
  | nil : TreesAt H [] []
  | cons {v : V} {t : Tr} {vs : List V} {ts : List Tr} : TreeAt H v t → TreesAt H vs ts → TreesAt H (v :: vs) (t :: ts)
def Tr.data : Tr → PyData
  | .is x => .tuple [.str "is", .str x] | .yes => .tuple [.str "yes"] | .no => .tuple [.str "no"] | .not a => .tuple [.str "not", a.data] | .bin w a b => .tuple [.str w, a.data, b.data]
end Mine

namespace L2
open PySem PySem.Spec PyProof.Rows
/-! ### xs.index(x) -/
section
variable {prog : Program} {w : World} {A : Around} {E : Value → Shared → Prop} {s : Shared}
def idxF (xs : Array Value) (x : Value) : Nat → Option PySem.Fin × Unit → Sem (ForInStep (Option PySem.Fin × Unit)) := fun i _ => match xs[i]? with
  | some y => do
    let b ← eqBool y x
    if b = true then do
        let r ← retInt (i : Int)
        pure (ForInStep.done (some r, ()))
      else pure (ForInStep.yield (none, ()))
  | _ => pure (ForInStep.yield (none, ()))
end
section
variable {X : Cx}
/-- the place of the first text z in ns -/
def posOf (z : Str) : List Str → Option Nat
  | [] => none
  | a :: r => if a = z then some 0 else (posOf z r).map (· + 1)
def rIndexT (K : PySem.W.Frag) : V → List V → Hp → VK → Prop := fun x vs H Q => ∃ (a : Addr) (ns : List Str) (z : Str) (j : Nat), x = .ref a ∧ vs = [.str z] ∧ SqT K H a (ns.map V.str) ∧ posOf z ns = some j ∧ Q (.int (j : Int)) H
def rIndexL (K : PySem.W.Frag) : V → List V → Hp → VK → Prop := fun x vs H Q => ∃ (a : Addr) (ns : List Str) (z : Str) (j : Nat), x = .ref a ∧ vs = [.str z] ∧ SqL K H a (ns.map V.str) ∧ posOf z ns = some j ∧ Q (.int (j : Int)) H
end
end L2

namespace L2
open PySem PySem.Spec PyProof.Rows

/-! ### lists of pairs as tables -/
section
variable {κ : Type} [DecidableEq κ]
def valV (kvs : List (κ × V)) (k : κ) : Option V := (kvs.find? fun kv => decide (kv.1 = k)).map (·.2)
/-- in its place, or at the end -/
def putK (kvs : List (κ × V)) (k : κ) (v : V) : List (κ × V) :=
  if (kvs.any fun kv => decide (kv.1 = k)) = true then kvs.map (fun kv => if kv.1 = k then (kv.1, v) else kv) else kvs ++ [(k, v)]
def dropK (kvs : List (κ × V)) (k : κ) : List (κ × V) := kvs.filter fun kv => decide (kv.1 ≠ k)

end


/-! ### a tracked dict, its keys ints and texts or tuples of these -/
/-- raw entries of a dict with tuple keys -/
abbrev KT (H : Hp) : List (List Key × V) → List (List Key × Addr × Value) → Prop := Paired fun p q => p.1 = q.1 ∧ H q.2.1 = some (.tup (p.1.map kV)) ∧ RelV p.2 q.2.2
section
variable {P : Program} {w : World} {H : Hp} {h : Heap} {a : Addr}
end

/-- what the dict at a holds at the key y -/
def DGet (H : Hp) (a : Addr) (y : V) (r : Option V) : Prop :=
  (∃ kvs k, Rd H a (.dK kvs) ∧ y = kV k ∧ r = valV kvs k) ∨ ∃ kvs k b, Rd H a (.dT kvs) ∧ y = .ref b ∧ H b = some (.tup (k.map kV)) ∧ r = valV kvs k
/-- the heap behind a[y] = v -/
def DPut (H : Hp) (a : Addr) (y v : V) (H' : Hp) : Prop :=
  (∃ kvs k, H a = some (.dK kvs) ∧ y = kV k ∧ kvs.length < sizeLine ∧ H' = upd H a (.dK (putK kvs k v))) ∨
  ∃ kvs k b, H a = some (.dT kvs) ∧ y = .ref b ∧ H b = some (.tup (k.map kV)) ∧ kvs.length < sizeLine ∧ H' = upd H a (.dT (putK kvs k v))
section
variable {X : Cx} {pins : List (Addr × Obj)} {σ : St} {H : Hp} {s : Shared} {a : Addr} {y v : V} {u r : Value} {o : Option V} {A : Around} {E : Value → Shared → Prop}

end

section
variable {X : Cx} {pins : List (Addr × Obj)} {σ : St} {H : Hp} {s : Shared} {a : Addr} {kvs : List (Key × V)} {k : Key} {u : Value} {A : Around} {E : Value → Shared → Prop}
end


/-! ### readings and rules -/
/-- the element of a subscription, not a slice -/
def NoSl (i : Expr) : Prop := ∀ ov iv, subscripted i false ov iv = operate [ov, iv] (getItem ov iv)
/-- d[y] -/
def tDGet (td ty : TE) : TE := fun σ H Q => td σ H fun x H1 => ty σ H1 fun y H2 => ∃ a v, x = .ref a ∧ DGet H2 a y (some v) ∧ Q v H2
/-- y in d, y not in d -/
def tDIn (ty td : TE) : TE := fun σ H Q => ty σ H fun y H1 => td σ H1 fun x H2 => ∃ a o, x = .ref a ∧ DGet H2 a y o ∧ Q (.bl o.isSome) H2
def tDNotIn (ty td : TE) : TE := fun σ H Q => ty σ H fun y H1 => td σ H1 fun x H2 => ∃ a o, x = .ref a ∧ DGet H2 a y o ∧ Q (.bl (!o.isSome)) H2
/-- d[y] = v -/
def sDPut (td ty tv : TE) : TS := fun D σ H => tv σ H fun v H1 => td σ H1 fun x H2 => ty σ H2 fun y H3 => ∃ a H4, x = .ref a ∧ DPut H3 a y v H4 ∧ D.nx σ H4
/-- d[y] op= v -/
def sDAug (td ty tv : TE) (rd : V → V → Hp → VK → Prop) : TS := fun D σ H => td σ H fun x H1 => ty σ H1 fun y H2 => ∃ a v, x = .ref a ∧ DGet H2 a y (some v) ∧
  tv σ H2 fun y2 H3 => rd v y2 H3 fun z H4 => ∃ H5, DPut H4 a y z H5 ∧ D.nx σ H5
/-- del d[y] -/
def sDDel (td ty : TE) : TS := fun D σ H => td σ H fun x H1 => ty σ H1 fun y H2 => ∃ a kvs k, x = .ref a ∧ H2 a = some (.dK kvs) ∧ y = kV k ∧ (valV kvs k).isSome = true ∧ D.nx σ (upd H2 a (.dK (dropK kvs k)))

section
variable {X : Cx} {o i e value : Expr} {pos pos' tpos : Pos} {td ty tv : TE}
end


/-! ### displays -/
/-- {}, to be a dict of the kind that is wanted -/
def tDNewK : TE := fun _ H Q => ∀ p, H p = none → Q (.ref p) (upd H p (.dK []))
def tDNewT : TE := fun _ H Q => ∀ p, H p = none → Q (.ref p) (upd H p (.dT []))
section
variable {X : Cx} {pos : Pos}
end

/-- the pairs of a display, from the left -/
def tPairs : List (TE × TE) → St → Hp → (List (V × V) → Hp → Prop) → Prop
  | [], _, H, Q => Q [] H
  | (tk, tv) :: r, σ, H, Q => tk σ H fun x H1 => tv σ H1 fun y H2 => tPairs r σ H2 fun ps H3 => Q ((x, y) :: ps) H3
abbrev VV : List (V × V) → List (Value × Value) → Prop := Paired fun p q => RelV p.1 q.1 ∧ RelV p.2 q.2
def PPs (X : Cx) (pos : Pos) (keys : List (Option Expr)) (values : List Expr) (trs : List (TE × TE)) : Prop :=
  ∀ (pins : List (Addr × Obj)) (s : Shared) (σ : St) (H : Hp) (Q : List (V × V) → Hp → Prop), Inv X pins σ H s → tPairs trs σ H Q →
    wpAny (model X.prog X.w) X.A (evalPairs (pairTrees keys values X.env pos)) (fun vs s' => ∃ ps H', Inv X pins σ H' s' ∧ VV ps vs ∧ Q ps H') X.xe s
def mergeK (kvs more : List (Key × V)) : List (Key × V) := more.foldl (fun acc kv => putK acc kv.1 kv.2) kvs
/-- {k: v, ..} with keys ints and texts; the new dict stands empty while the pairs are made -/
def tDisp (trs : List (TE × TE)) : TE := fun σ H Q => ∀ p, H p = none → tPairs trs σ (upd H p (.dK [])) fun ps H2 => H2 p = some (.dK []) ∧ ∃ kvs : List (Key × V), ps = kvs.map (fun kv => (kV kv.1, kv.2)) ∧ kvs.length ≤ 15 ∧ Q (.ref p) (upd H2 p (.dK (mergeK [] kvs)))
/-! ### methods -/
/-- a method call o.m(e) of a built-in, with one argument: what must be seen of the text -/
structure M1 (X : Cx) (o : Expr) (m : Str) (apos : Pos) (e : Expr) (cpos : Pos) : Prop where
  base : attributeBase o m X.env (eval o X.env) = eval o X.env
  few : ((backTo cpos (starEach [e] X.env)).all (fun x => !x.1) && (backToKw cpos (keywordEach [] X.env)).all (fun x => x.1.isSome)
    && decide (([e] : List Expr).length + ([] : List Keyword).length + (if ([] : List Keyword).isEmpty then 0 else 1) < 30)) = true
  line : (apos.endLine == cpos.line) = true
  trees : backTo cpos (starEach [e] X.env) = [(false, eval e X.env)]
structure M2 (X : Cx) (o : Expr) (m : Str) (apos : Pos) (e f : Expr) (cpos : Pos) : Prop where
  base : attributeBase o m X.env (eval o X.env) = eval o X.env
  few : ((backTo cpos (starEach [e, f] X.env)).all (fun x => !x.1) && (backToKw cpos (keywordEach [] X.env)).all (fun x => x.1.isSome)
    && decide (([e, f] : List Expr).length + ([] : List Keyword).length + (if ([] : List Keyword).isEmpty then 0 else 1) < 30)) = true
  line : (apos.endLine == cpos.line) = true
  trees : backTo cpos (starEach [e, f] X.env) = [(false, eval e X.env), (false, eval f X.env)]

/-- a is a dict, whatever its keys -/
def IsD (H : Hp) (a : Addr) : Prop := (∃ kvs, Rd H a (.dK kvs)) ∨ ∃ kvs, Rd H a (.dT kvs)
section
variable {X : Cx} {pins : List (Addr × Obj)} {σ : St} {H : Hp} {s : Shared} {a : Addr} {y d : V} {u r : Value} {o : Option V} {A : Around} {E : Value → Shared → Prop}
end

def tDGet1 (td ty : TE) : TE := fun σ H Q => td σ H fun x H1 => ∃ a, x = .ref a ∧ IsD H1 a ∧ ty σ H1 fun y H2 => ∃ o, DGet H2 a y o ∧ Q (o.getD .non) H2
def tDGet2 (td ty tx : TE) : TE := fun σ H Q => td σ H fun x H1 => ∃ a, x = .ref a ∧ IsD H1 a ∧ ty σ H1 fun y H2 => tx σ H2 fun z H3 => ∃ o, DGet H3 a y o ∧ Q (o.getD z) H3
/-- d.pop(k): there; d.pop(k, x): there or not -/
def tDPop1 (td ty : TE) : TE := fun σ H Q => td σ H fun x H1 => ∃ a, x = .ref a ∧ IsD H1 a ∧ ty σ H1 fun y H2 => ∃ kvs k v, H2 a = some (.dK kvs) ∧ y = kV k ∧ valV kvs k = some v ∧ Q v (upd H2 a (.dK (dropK kvs k)))
def tDPop2 (td ty tx : TE) : TE := fun σ H Q => td σ H fun x H1 => ∃ a, x = .ref a ∧ IsD H1 a ∧ ty σ H1 fun y H2 => tx σ H2 fun z H3 => ∃ kvs k, H3 a = some (.dK kvs) ∧ y = kV k ∧
  (∀ v, valV kvs k = some v → Q v (upd H3 a (.dK (dropK kvs k)))) ∧ (valV kvs k = none → Q z H3)
section
variable {X : Cx} {o e f : Expr} {apos cpos : Pos} {td ty tx : TE}
end

/-! ### dict(d): a copy -/
section
variable {X : Cx} {pins : List (Addr × Obj)} {σ : St} {H : Hp} {s : Shared} {a : Addr} {kvs : List (Key × V)} {A : Around} {E : Value → Shared → Prop}
end


section
variable {X : Cx} {pins : List (Addr × Obj)} {σ : St} {H : Hp} {s : Shared} {a : Addr} {y : V} {u : Value} {A : Around} {E : Value → Shared → Prop}
end
end L2

namespace L2
open PySem PySem.Spec PyProof.Rows
/-! ### xs.index(z), xs a list or a tuple -/
section
variable {X : Cx}
def tIndex (K : PySem.W.Frag) (to : TE) (t : TA) : TE := fun σ H Q => to σ H fun x H1 => ∃ (a : Addr) (ns : List Str), x = .ref a ∧ (H1 a = some (.lst (ns.map V.str)) ∨ H1 a = some (.tup (ns.map V.str))) ∧ t σ H1 fun vs H2 => (H2 a = H1 a) ∧ ∃ (z : Str) (j : Nat), vs = [.str z] ∧ posOf z ns = some j ∧ Q (.int (j : Int)) H2
variable {o e : Expr} {es : List Expr} {to : TE} {t : TA} {apos cpos : Pos}
end
end L2

namespace L2
open PySem PySem.Spec PyProof.Rows
end L2

namespace L2
open PySem PySem.Spec PyProof.Rows
/-! ### xs.count(z) -/
section
variable {X : Cx}
def rCountL (K : PySem.W.Frag) : V → List V → Hp → VK → Prop := fun x vs H Q => ∃ (a : Addr) (xs : List V) (z : V), x = .ref a ∧ vs = [z] ∧ SqL K H a xs ∧ xs.all flatV = true ∧ flatV z = true ∧ Q (.int ((xs.countP fun y => eqV y z : Nat) : Int)) H
end
/-! ### xs[::-1] -/
section
variable {prog : Program} {w : World} {A : Around} {E : Value → Shared → Prop} {s : Shared}
end
section
variable {X : Cx} {e k : Expr} {te tk : TE} {pos p2 : Pos}
/-- e[::k], k being -1 -/
def tRev (K : PySem.W.Frag) (te tk : TE) : TE := fun σ H Q => te σ H fun x H1 => tk σ H1 fun y H2 => y = .int (-1) ∧ ∃ a xs, x = .ref a ∧
  ((SqL K H2 a xs ∧ ∀ p, H2 p = none → Q (.ref p) (upd H2 p (.lst xs.reverse))) ∨ (SqT K H2 a xs ∧ ∀ p, H2 p = none → Q (.ref p) (upd H2 p (.tup xs.reverse))))
end
/-! ### max(t, default=d), t a tuple of ints -/
def bestI (g : Nat → Int) : Nat → Int
  | 0 => g 0
  | k + 1 => if bestI g k < g (k + 1) then g (k + 1) else bestI g k
def maxD (ns : List Int) (d : Int) : Int := match ns with | [] => d | _ :: _ => bestI (fun i => ns[i]?.getD 0) (ns.length - 1)
section
variable {prog : Program} {w : World} {A : Around} {R : Result → Shared → Prop} {I S : Addr} {fp wr : List Addr} {n : Nat} {P : Nat → Value → Prop} {St : Nat → Heap → Prop} {g : Nat → Int} {kw : List (Str × Value)}
end
section
variable {X : Cx} {e k : Expr} {te tk : TE} {pos p1 kp : Pos}
def tMaxD (K : PySem.W.Frag) (te tk : TE) : TE := fun σ H Q => te σ H fun x H1 => tk σ H1 fun y H2 => ∃ a ns d, x = .ref a ∧ y = .int d ∧ SqT K H2 a (ns.map V.int) ∧ Q (.int (maxD ns d)) H2
/-- max(xs), xs a list of ints, not empty -/
def rMax1 (K : PySem.W.Frag) : List V → Hp → VK → Prop := fun xs H Q => ∃ a ns, xs = [.ref a] ∧ SqL K H a (ns.map V.int) ∧ ns ≠ [] ∧ Q (.int (maxD ns 0)) H
end
end L2

namespace L2
open PySem PySem.Spec PyProof.Rows
/-! ### enumerate of a tuple -/
section
variable {prog : Program} {w : World} {A : Around} {E : Value → Shared → Prop} {s : Shared}
end
open AutoSeq1 (wpAny_loadPart') in
section
variable {prog : Program} {w : World} {A : Around} {E : Value → Shared → Prop} {s : Shared}
end
def IteT (K : PySem.W.Frag) (a : Addr) : It :=
  ⟨fun i H => ∃ xs x, SqT K H a xs ∧ xs[i]? = some x, fun i H y H' => ∃ t, y = .ref t ∧ H t = none ∧ ∀ xs x, SqT K H a xs → xs[i]? = some x → H' = upd H t (.tup [.int i, x]), fun i H => ∃ xs, SqT K H a xs ∧ xs.length ≤ i⟩
section
variable {X : Cx} {elts : List Expr} {k : Nat} {tpos : Pos}
def iEnumT (K : PySem.W.Frag) (tl : TE) : TI := fun σ H R => tl σ H fun x H1 => ∃ a, x = .ref a ∧ (∃ xs, SqT K H1 a xs) ∧ R (IteT K a) H1
end
end L2

namespace L2
open PySem PySem.Spec PyProof.Rows
/-! ### for x in reversed(xs), xs a list -/
def ItV (K : PySem.W.Frag) (a : Addr) (xs : List V) : It := ⟨fun i H => SqL K H a xs ∧ i < xs.length, fun i H y H' => H' = H ∧ xs.reverse[i]? = some y, fun i _ => xs.length ≤ i⟩
section
variable {X : Cx} {tg : Expr}
def iRevL (K : PySem.W.Frag) (tl : TE) : TI := fun σ H R => tl σ H fun x H1 => ∃ a xs, x = .ref a ∧ SqL K H1 a xs ∧ R (ItV K a xs) H1
end
end L2
namespace L2
open PySem PySem.Spec PyProof.Rows
section
variable {X : Cx} {o e : Expr} {es : List Expr} {to ta : TE} {t : TA} {T id : String} {name f : Str} {r : V → List V → Hp → VK → Prop} {apos cpos pos : Pos}
theorem pe_bmK (K : PySem.W.Frag) (pa : PlainAttrs T) (slot : Slot T name id) (hty : typeOf (.builtin id) = pure (.type "method_descriptor")) (hm : MtR X id r) (ho : PE X o to) (ha : PA X (e :: es) t) (hK : X.K = K := by rfl)
    (hbase : attributeBase o name X.env (eval o X.env) = eval o X.env := by rfl)
    (hfew : ((backTo cpos (starEach (e :: es) X.env)).all (fun x => !x.1) && (backToKw cpos (keywordEach [] X.env)).all (fun x => x.1.isSome) && decide ((e :: es).length + ([] : List Keyword).length + (if ([] : List Keyword).isEmpty then 0 else 1) < 30)) = true := by rfl)
    (hline : (apos.endLine == cpos.line) = true := by rfl) (hs : starEach (e :: es) X.env = (false, eval e X.env) :: starEach es X.env := by rfl) (hplain : (backTo cpos (starEach es X.env)).any (·.1) = false := by rfl) :
    PE X (.Call (.Attribute o name apos) (e :: es) [] cpos) (tBM K T r to t) := by subst hK; exact pe_bm pa slot hty hm ho ha hbase hfew hline hs hplain
end
end L2

namespace L2
open PySem PySem.Spec PyProof.Rows
/-! ### a comprehension whose own name another one within it sees -/
@[reducible] def cxCompO (X : Cx) (x : Str) (N : List Str) (scope : Scope) (cl : List (Str × Addr)) (s : Shared) (H : Hp) (fp : List Addr) : Cx where
  prog := X.prog
  w := X.w
  K := X.K
  mg := X.mg
  base := X.base
  A := X.A
  N := x :: N
  s₀ := s
  H₀ := H
  env := compEnvC scope ((x, s.heap.objs.size + 1) :: cl) s.heap.objs.size X.env
  outer := X.stack
  stack := X.stack
  ex := fp
  fn := fun y => y == x
  calm := X.calm
  pn := []
  xe := fun _ _ => False
structure CompScopeO (X : Cx) (x : Str) (N : List Str) (ix : List Nat) (scope : Scope) (cl : List (Str × Addr)) : Prop where
  clos : closureFor scope X.env = pure cl
  lay : ∀ (n : Addr) (h : Heap), cellsFrom n scope.names cl = (x, n) :: cl ∧ pushCells h scope.names = h.push { cls := .type "cell", data := .cell none }
  kind : scope.kind = .function
  names : ∀ y ∈ scope.names, y.2 = .local → scope.names.lookup y.1 = some .local
  own : (relabel scope X.env).names.lookup x = some .cell
  nd : (x :: N).Nodup
  sub : ∀ p ∈ cl, X.env.cells.lookup p.1 = some p.2
  has : ((relabel scope X.env).names.all fun p => !(p.2 == .cell || p.2 == .free) || (p.1 == x || (cl.lookup p.1).isSome)) = true
  outs : ∀ (j : Nat) (y : Str), N[j]? = some y → (relabel scope X.env).names.lookup y = some .cell ∧ ∃ k c, ix[j]? = some k ∧ X.N[k]? = some y ∧ cl.lookup y = some c ∧ X.env.scope.names.lookup y = some .cell
section
variable {X : Cx} {pins : List (Addr × Obj)} {σ : St} {x : Str} {N : List Str} {ix : List Nat} {scope : Scope} {cl : List (Str × Addr)} {fp : List Addr} {H3 : Hp} {s3 : Shared}
end
section
variable {M : Model} {A : Around} {E : Value → Shared → Prop} {s : Shared}
end
section
variable {X : Cx} {x : Str} {N : List Str} {ix : List Nat} {scope : Scope} {cl : List (Str × Addr)} {elt iter : Expr} {ifs : List Expr} {px pos : Pos} {wi : TI} {tb : TBl}
end
end L2

namespace L2
open PySem PySem.Spec PyProof.Rows
end L2

namespace L2
open PySem PySem.Spec PyProof.Rows
/-! ### range(a, b, c) of a step above 0 -/
def ItrS (lo c : Int) (n : Nat) : It := ⟨fun i _ => i < n, fun i H x H' => H' = H ∧ x = .int (lo + i * c), fun i _ => n ≤ i⟩
section
variable {X : Cx} {tg : Expr}
def iRng3 (ta : TA) : TI := fun σ H R => ta σ H fun vs H1 => ∃ i j c : Int, vs = [.int i, .int j, .int c] ∧ 0 < c ∧ c < 1000000 ∧ Builtin.Range.small i j c = true ∧ R (ItrS i c (Builtin.Range.rangeSize i j c).toNat) H1
end
end L2

namespace L2
open PySem PySem.Spec PyProof.Rows
section
variable {X : Cx}
/-! ### list(range(b)), sorted(xs) -/
def tListRng1 (ta : TA) : TE := fun σ H Q => ta σ H fun vs H1 => ∃ j : Int, vs = [.int j] ∧ 0 ≤ j ∧ j ≤ 1000 ∧ ∀ p, H1 p = none → Q (.ref p) (upd H1 p (.lst ((rngV 0 j.toNat).map V.int)))
def rSorted (K : PySem.W.Frag) : List V → Hp → VK → Prop := fun xs H Q => ∃ a ns, xs = [.ref a] ∧ SqL K H a (ns.map V.int) ∧ ns.length < 64 ∧ ∀ p ms, H p = none → List.Perm ms ns → ms.Pairwise (· ≤ ·) → Q (.ref p) (upd H p (.lst (ms.map V.int)))
end
end L2

namespace L2
open PySem PySem.Spec PyProof.Rows PySem.Builtin PySem.Builtin.Str
/-! ### text.split(sep) -/
section
variable {prog : Program} {w : World} {A : Around} {E : Value → Shared → Prop} {s : Shared} {Q : Value → Shared → Prop} {x : PySem.Str} {t : Tok}
theorem split_push {y : PySem.Str} {u : Tok} (hy : (y.length == 0) = false)
    (h : ∀ l k, l.map (·.1) = Txt.split x y → Q (.ref s.heap.objs.size) { s with heap := s.heap.push { cls := .type "list", data := .seq (strValues l).toArray }, toks := k })
    (hsz : x.length + 2 ≤ sizeLine) : wpAny (model prog w) A (call (.builtin "str.split") [.str x t, .str y u]) Q E s := by
  have hn : (partsBetween x (occurrences x y 0 x.length (x.length + 1)) y.length).length ≤ sizeLine := by
    have e1 := StrLaws.occ_length_le x y 0 x.length (x.length + 1)
    rw [length_partsBetween]; omega
  cases h1 : (decide (x.length < y.length) || decide (strKind x < strKind y))
  · cases hf : (occurrences x y 0 x.length (x.length + 1)).isEmpty
    · refine call_meets F.slot_str_split (typeIs_str _ _ _) F.entry_str_split (F.args_str_split_2 _ _) (meets_str_split_sep x y t u h1 hy hf (by omega) hn) ?_
      show wants Q E _ { s with toks := _, heap := s.heap.push { cls := .type "list", data := .seq (strsFrom s.toks (partsBetween x (occurrences x y 0 x.length (x.length + 1)) y.length)).toArray } }
      rw [strsFrom_eq]
      exact h (numbered s.toks _) _ ((numbered_texts _ _).trans ((if_neg (ne_true_of_eq_false h1)).trans (if_neg (ne_true_of_eq_false hf))).symm)
    · exact call_meets F.slot_str_split (typeIs_str _ _ _) F.entry_str_split (F.args_str_split_2 _ _) (meets_str_split_not_found x y t u h1 hy hf)
        (h [(x, t)] s.toks ((if_neg (ne_true_of_eq_false h1)).trans (if_pos hf)).symm)
  · exact call_meets F.slot_str_split (typeIs_str _ _ _) F.entry_str_split (F.args_str_split_2 _ _) (meets_str_split_cannot_occur x y t u h1)
      (h [(x, t)] s.toks (if_pos h1).symm)
end
theorem strVals : ∀ l : List (PySem.Str × Tok), Vals ((l.map (·.1)).map V.str) (strValues l)
  | [] => .nil
  | (x, t) :: r => .cons ⟨t, rfl⟩ (strVals r)
section
variable {X : Cx}
def rSplit : V → List V → Hp → VK → Prop := fun x vs H Q => ∃ z u, x = .str z ∧ vs = [.str u] ∧ 0 < u.length ∧ z.length ≤ 100000 ∧ (Txt.split z u).length ≤ 100000 ∧ ∀ p, H p = none → Q (.ref p) (upd H p (.lst ((Txt.split z u).map V.str)))
theorem mt_split : MtR X "str.split" rSplit := by
  intro pins s σ H x vs v us Q I rx rv h
  obtain ⟨z, u, rfl, rfl, hu, hz, hl, q⟩ := h
  obtain ⟨t, rfl⟩ := rx
  obtain ⟨w', rfl, t', rfl⟩ := rv.one
  have sl : sizeLine = 16777216 := sizeLine_eq
  refine split_push (by rw [beq_eq_false_iff_ne]; omega) (fun l k e => ?_) (by omega)
  have r := strVals l
  rw [e] at r
  exact ⟨.ref _, _, I.lnew (t' := k) r (by rw [List.length_map]; omega), rfl, q _ I.fresh⟩
/-! ### int(text) -/
theorem call_int_text : CallR X (.type "int") (fun xs H Q => ∃ x n, xs = [.str x] ∧ PySem.intText? x = some n ∧ x.length ≤ 640 ∧ Q (.int n) H) := by
  intro pins s σ H xs us Q I r h
  obtain ⟨x, n, rfl, e, hl, q⟩ := h
  obtain ⟨u, rfl, t, rfl⟩ := vals1 r
  exact PySem.W.KIN.call_text e hl ⟨.int n, H, I.tok _, ⟨_, rfl⟩, q⟩
end
end L2
namespace L2
open PySem PySem.Spec PyProof.Rows
section
variable {X : Cx} {e : Expr} {te : TE} {p pos pos1 : Pos}
/-! ### isinstance(e, (tuple, list)) -/
def tIsiT (te : TE) : TE := fun σ H Q => te σ H fun x H1 => ∃ a xs, x = .ref a ∧ (H1 a = some (.lst xs) ∨ H1 a = some (.tup xs)) ∧ Q (.bl true) H1
end
end L2

namespace HT
open PySem PyProof.Rows
section
variable {prog : Program} {w : World} {A : Around} {E : Value → Shared → Prop} {s : Shared}
end
end HT
namespace L2
open PySem PySem.Spec PyProof.Rows
section
variable {X : Cx}
/-- t[lo:hi], the whole of it: t itself -/
def rSlTW (K : PySem.W.Frag) : V → Option Int → Option Int → Hp → VK → Prop := fun x lo hi H Q => ∃ a xs, x = .ref a ∧ SqT K H a xs ∧
  (HT.sIx xs.length 0 lo = 0 ∧ HT.sIx xs.length xs.length hi = xs.length) ∧ Q (.ref a) H
def rSlTA (K : PySem.W.Frag) : V → Option Int → Option Int → Hp → VK → Prop := fun x lo hi H Q => ∃ a xs, x = .ref a ∧ SqT K H a xs ∧ H a = some (.tup xs) ∧ ∀ p H', Same H H' → H' p = some (.tup (cutV xs lo hi)) → Q (.ref p) H'
end
end L2

namespace L2
open PySem PySem.Spec PyProof.Rows
/-! ### zip of two sequences, each a list or a tuple -/
def SqIt (h : Heap) (i l : Addr) (k : Nat) (xs : Array Value) : Prop := (h.IsListIter i l k ∧ h.IsList l xs) ∨ (h.IsTupleIter i l k ∧ h.IsTuple l xs)
section
variable {prog : Program} {w : World} {A : Around} {E : Value → Shared → Prop} {s : Shared}
end
def itO (b : Bool) (l : Addr) : Obj := { cls := .type (if b = true then "list_iterator" else "tuple_iterator"), data := .fields #[.ref l, .int 0 0] }
def SqO (b : Bool) (h : Heap) (l : Addr) (xs : Array Value) : Prop := if b = true then h.IsList l xs else h.IsTuple l xs
abbrev zqH (h : Heap) (b1 b2 : Bool) (l1 l2 : Addr) : Heap := ((((h.push (itO b1 l1)).push (itO b2 l2)).push { cls := .type "tuple", data := .seq #[.ref h.objs.size, .ref (h.push (itO b1 l1)).objs.size] }).push { cls := .type "tuple", data := .seq #[.none, .none] }).push
  { cls := .type "zip", data := .fields #[.none, .bool false, .bool false, .ref ((h.push (itO b1 l1)).push (itO b2 l2)).objs.size, .ref (((h.push (itO b1 l1)).push (itO b2 l2)).push { cls := .type "tuple", data := .seq #[.ref h.objs.size, .ref (h.push (itO b1 l1)).objs.size] }).objs.size] }
abbrev zqA (h : Heap) (b1 b2 : Bool) (l1 l2 : Addr) : Addr := ((((h.push (itO b1 l1)).push (itO b2 l2)).push { cls := .type "tuple", data := .seq #[.ref h.objs.size, .ref (h.push (itO b1 l1)).objs.size] }).push { cls := .type "tuple", data := .seq #[.none, .none] }).objs.size
end L2

namespace L2
open PySem PySem.Spec PyProof.Rows
section
variable {prog : Program} {w : World} {A : Around} {E : Value → Shared → Prop} {s : Shared}
end
def SqB (K : PySem.W.Frag) (b : Bool) (H : Hp) (a : Addr) (xs : List V) : Prop := if b = true then SqL K H a xs else SqT K H a xs
/-- over zip(a, b) -/
def Itz (K : PySem.W.Frag) (c d : Bool) (a b : Addr) : It :=
  ⟨fun i H => ∃ xs ys x y, SqB K c H a xs ∧ SqB K d H b ys ∧ xs[i]? = some x ∧ ys[i]? = some y, fun i H v H' => ∃ t, v = .ref t ∧ H t = none ∧ ∀ xs ys x y, SqB K c H a xs → SqB K d H b ys → xs[i]? = some x → ys[i]? = some y → H' = upd H t (.tup [x, y]),
    fun i H => ∃ xs ys, SqB K c H a xs ∧ SqB K d H b ys ∧ (xs.length ≤ i ∨ ys.length ≤ i)⟩
end L2

namespace L2
open PySem PySem.Spec PyProof.Rows
section
variable {X : Cx} {elts : List Expr} {k : Nat} {tpos : Pos}
def iZip (K : PySem.W.Frag) (tl : TA) : TI := fun σ H R => tl σ H fun vs H1 => ∃ a b c d, vs = [.ref a, .ref b] ∧ (∃ xs, SqB K c H1 a xs) ∧ (∃ ys, SqB K d H1 b ys) ∧ R (Itz K c d a b) H1
end
end L2

namespace L2
open PySem PySem.Spec PyProof.Rows
section
variable {X : Cx} {pins : List (Addr × Obj)} {σ : St} {x y2 : Str} {N : List Str} {ix : List Nat} {scope : Scope} {cl : List (Str × Addr)} {fp : List Addr} {H3 : Hp} {s3 : Shared}
end
section
variable {X : Cx} {x y2 : Str} {N : List Str} {ix : List Nat} {scope : Scope} {cl : List (Str × Addr)} {elt iter : Expr} {ifs : List Expr} {px py pt pos : Pos} {kt : Nat} {wi : TI} {tb : TBl}
def CompEx2 (K : PySem.W.Frag) (J : It) (D : Addr) (ix : List Nat) (tb : TBl) (σ : St) (H : Hp) (Q : VK) : Prop := ∃ W : Nat → Nat → Hp → Prop, (∃ m, W 0 m (upd H D (.lst []))) ∧ ∀ i m H2, W i m H2 →
  (J.stop i H2 ∧ Q (.ref D) H2) ∨ (J.go i H2 ∧ ∀ y H3, J.yld i H2 y H3 → ∃ t v1 v2, y = .ref t ∧ SqT K H3 t [v1, v2] ∧ tb (some v1 :: some v2 :: outs ix σ) H3 (fun H4 => ∃ m', m' < m ∧ W (i + 1) m' H4)
    fun z H4 => ∃ ys, H4 D = some (.lst ys) ∧ ys.length < sizeLine ∧ ∃ m', m' < m ∧ W (i + 1) m' (upd H4 D (.lst (ys ++ [z]))))
def tCompR2 (K : PySem.W.Frag) (wi : TI) (ix : List Nat) (tb : TBl) : TE := fun σ H Q => wi σ H fun J H1 => ∀ D, H1 D = none → CompEx2 K J D ix tb σ H1 Q
end
end L2

namespace L2
open PySem PyProof.Rows HT
section
variable {X : Cx}
/-- any(xs), xs a list of bools -/
def rAny (K : PySem.W.Frag) : List V → Hp → VK → Prop := fun xs H Q => ∃ (a : Addr) (bs : List Bool), xs = [.ref a] ∧ SqL K H a (bs.map V.bl) ∧ Q (.bl (bs.any id)) H
end
end L2

namespace L2
open PySem PySem.Spec PyProof.Rows
section
variable {X : Cx}
/-- t.startswith(u, place) -/
def startsAt (z u : Str) (i : Int) : Bool := decide (PySem.fromIndex z.length i + u.length ≤ z.length) && Builtin.Str.subAt z u (PySem.fromIndex z.length i)
def rStartsAt : V → List V → Hp → VK → Prop := fun x vs H Q => ∃ z u i, x = .str z ∧ vs = [.str u, .int i] ∧ Q (.bl (startsAt z u i)) H
/-- f-strings, part by part -/
abbrev TJ := St → Hp → Str → VK → Prop
def PJ (X : Cx) (es : List Expr) (t : TJ) : Prop :=
  ∀ (pins : List (Addr × Obj)) (s : Shared) (σ : St) (H : Hp) (out : Str) (Q : VK), Inv X pins σ H s → t σ H out Q → wpAny (model X.prog X.w) X.A (joinParts out (evalEach es X.env)) (EP X pins σ Q) X.xe s
theorem pj_nil : PJ X [] (fun _ H out Q => out.length ≤ sizeLine ∧ Q (.str out) H) := by
  intro pins s σ H out Q I h
  exact joinParts_nil ⟨.str out, H, I.tok _, ⟨_, rfl⟩, h.2⟩ h.1
theorem pj_cons {e : Expr} {es : List Expr} {te : TE} {t : TJ} (he : PE X e te) (ht : PJ X es t) : PJ X (e :: es) (fun σ H out Q => te σ H fun v H1 => ∃ y, v = .str y ∧ (out ++ y).length ≤ sizeLine ∧ t σ H1 (out ++ y) Q) := by
  intro pins s σ H out Q I h
  show wpAny _ _ (joinParts out (eval e X.env :: evalEach es X.env)) _ _ s
  refine joinParts_cons (thn (he pins s σ H _ I h) fun v s1 ⟨x, H1, I1, r1, y, ex, hz, q⟩ => ?_)
  subst ex
  obtain ⟨t', rfl⟩ := r1
  exact ⟨hz, ht pins s1 σ H1 _ Q I1 q⟩
theorem pe_fstr {e1 e2 : Expr} {es : List Expr} {t : TJ} {pos : Pos} (h : PJ X (e1 :: e2 :: es) t) : PE X (.JoinedStr (e1 :: e2 :: es) pos) (fun σ H Q => t σ H Str.empty Q) :=
  fun pins s σ H Q I k => JoinedStr_many (h pins s σ H Str.empty Q I k)
end
end L2

namespace L2
open PySem PySem.Spec PyProof.Rows
section
variable {X : Cx}
end
end L2

namespace L2
open PySem PySem.Spec PyProof.Rows
/-! ### list(zip(a, b)) -/
abbrev IsZipB (h : Heap) (z TI TO : Addr) (f0 : Value) (b : Bool) : Prop :=
  h.get? z = some { cls := .type "zip", dict := none, data := .fields #[f0, .bool b, .bool false, .ref TI, .ref TO], slots := #[] }
section
variable {prog : Program} {w : World} {A : Around} {E : Value → Shared → Prop} {s : Shared}
end
end L2

namespace L2
open PySem PySem.Spec PyProof.Rows
def ItK (c : Bool) (h : Heap) (i1 a : Addr) (k : Nat) : Prop := ∃ o, h.get? i1 = some o ∧ o.cls = .type (if c = true then "list_iterator" else "tuple_iterator") ∧ o.data = .fields #[.ref a, .int k 0]
/-- the zip object and its parts, before turn i -/
def ZSt (c d : Bool) (a b z TI TO i1 i2 : Addr) (cs : List Addr) (i : Nat) (h : Heap) : Prop :=
  ((i = 0 ∧ IsZip h z TI TO .none) ∨ ∃ (t : Addr) (f : Bool), cs[0]? = some t ∧ IsZipB h z TI TO (rawInt t) f) ∧ IsPair h TI (.ref i1) (.ref i2) ∧ (∃ p q, IsPair h TO p q) ∧ ItK c h i1 a i ∧ ItK d h i2 b i
def PairsAt (H : Hp) (cs : List Addr) (xs ys : List V) : Prop := ∀ (j : Nat) (t : Addr) (x y : V), cs[j]? = some t → xs[j]? = some x → ys[j]? = some y → H t = some (.tup [x, y])
section
variable {X : Cx} {pins : List (Addr × Obj)} {σ : St}
end
end L2

namespace L2
open PySem PySem.Spec PyProof.Rows
section
variable {X : Cx} {pins : List (Addr × Obj)} {σ : St}
/-- list(zip(a, b)), each a list or a tuple -/
def tListZip (K : PySem.W.Frag) (t : TA) : TE := fun σ H Q => t σ H fun vs H1 => ∃ a b c d xs ys, vs = [.ref a, .ref b] ∧ SqB K c H1 a xs ∧ SqB K d H1 b ys ∧ xs.length = ys.length ∧ xs.length ≤ sizeLine ∧
  ∀ S cs H2, H1 S = none → H2 S = some (.lst (cs.map V.ref)) → cs.length = xs.length → PairsAt H2 cs xs ys → (∀ t ∈ cs, H1 t = none ∧ t ≠ S) → Same H1 H2 → Q (.ref S) H2
/-- xs != [] -/
def rNeNil (K : PySem.W.Frag) : R2 := fun x y H Q => ∃ a b xs, x = .ref a ∧ y = .ref b ∧ SqL K H a xs ∧ SqL K H b [] ∧ Q (.bl (!xs.isEmpty)) H
end
end L2

namespace L2
open PySem PySem.Spec PyProof.Rows
section
variable {X : Cx}
/-- str(x) of a whole number, of a text -/
theorem call_strV : CallR X (.type "str") (fun xs H Q => (∃ i, xs = [.int i] ∧ i.natAbs.log2 < 1920 ∧ Q (.str (toString i)) H) ∨ ∃ x, xs = [.str x] ∧ Q (.str x) H) := by
  intro pins s σ H xs us Q I r h
  rcases h with ⟨i, rfl, hz, q⟩ | ⟨x, rfl, q⟩
  · obtain ⟨u, rfl, t, rfl⟩ := vals1 r
    exact PySem.P.str_of_int hz ⟨.str _, H, I.tok _, ⟨_, rfl⟩, q⟩
  · obtain ⟨u, rfl, t, rfl⟩ := vals1 r
    exact PySem.P.str_of_str ⟨.str x, H, I, ⟨_, rfl⟩, q⟩
end
end L2

namespace L2
open PySem
/-! ### an exception's class with an __init__ of its own, under a class of one's own -/
section
variable {M : Model} {A : Around} {E : Value → Shared → Prop} {h : Heap} {g : Array GenState} {d : Drawn} {t : Nat} {os : OsState}
variable {nm q : Str} {C N : Addr} {bs bm : List Value} {hdct : Bool} {sn : List Str} {sub : List Value} {ab : Bool} {col : Option Bool} {dd : Option Addr} {k0 k1 k2 k3 k5 : Option Value} {Bn newId inN : String} {bmN : List Value}
theorem check_newX (Fn : ExcBaseFacts Bn newId inN bmN) (hcont : (Value.ref C :: bm).contains (.type Bn) = true) {rest : List Value} {Q : Unit → Shared → Prop} (hC : h.get? C = some (excClassObj nm q C N bs bm hdct sn sub ab col dd k0 k1 k2 k3 k5 newId))
    (hq : Q () ⟨h, g, d, t, os⟩) : wpAny M A (checkBuiltinCall newId ⟨.ref C :: rest, []⟩) Q E ⟨h, g, d, t, os⟩ := by
  have hstar := Fn.noStar
  simp only [checkBuiltinCall, Fn.newKind, Fn.newSplit, Fn.newRow]
  repeat (first | refine wpAny_loadPart_at hC ?_ | (refine wpAny_isSubtype_exc hC ?_; rw [hcont]) | refine wpAny_staticBase_exc hC ?_ | refine wpAny_madeBy_exc hC ?_ | simp only [bne_self_eq_false, Bool.false_eq_true, if_false] | wp_step)
  exact hq
end
section
variable {prog : Program} {w : World} {A : Around} {R : Result → Shared → Prop} {h : Heap} {g : Array GenState} {d : Drawn} {t : Nat} {os : OsState}
variable {nm q : Str} {C N : Addr} {bs bm : List Value} {hdct : Bool} {sn : List Str} {sub : List Value} {ab : Bool} {col : Option Bool} {dd : Option Addr} {k0 k1 k2 k3 k5 : Option Value} {Bn newId inN : String} {bmN : List Value}
theorem exc_newX (Fn : ExcBaseFacts Bn newId inN bmN) (hcB : (Value.ref C :: bm).contains (.type Bn) = true) (hcA : (Value.ref C :: bm).contains (.type "AttributeError") = false) (hcN : (Value.ref C :: bm).contains (.type "NameError") = false) {rest : List Value} (hC : h.get? C = some (excClassObj nm q C N bs bm hdct sn sub ab col dd k0 k1 k2 k3 k5 newId))
    (hq : R (.ok (.ret (.ref (h.objs.size + 1)))) ⟨(h.push { cls := .type "tuple", data := .seq rest.toArray }).push
      { cls := .ref C, data := .fields #[.ref h.objs.size, .none, .none, .none, .bool false, .none] }, g, d, t, os⟩) (hrest : rest.length ≤ sizeLine := by size_fits) :
    codeAny (model prog w) A (.builtin newId ⟨.ref C :: rest, []⟩) R ⟨h, g, d, t, os⟩ := by
  have hends := Fn.ends
  refine codeAny_builtinAt Fn.entry ?_
  unfold Builtin.«BaseException.__new__»
  refine wpAt_bind ?_
  show wpAt _ _ _ (stack >>= _) _ _ _
  refine wpAt_bind (wpAt_stack fun p below => wpAt_of_wpAny ?_)
  wp_walk
  refine wpAt_of_wpAny ?_
  rw [Fn.owner]
  repeat (first | with_reducible refine wpAny_madeHere_exc Fn.canon hC ?_ | with_reducible refine wpAny_loadPart_at hC ?_ | (with_reducible refine wpAny_isSubtype_exc hC ?_; first | rw [hcB] | rw [hcA] | rw [hcN]) | wp_step)
  show R _ _
  rw [Heap.size_push]
  exact hq
end
section
variable {prog : Program} {w : World} {A : Around} {E : Value → Shared → Prop} {h : Heap} {g : Array GenState} {d : Drawn} {t : Nat} {os : OsState}
variable {nm q : Str} {C N : Addr} {bs bm : List Value} {hdct : Bool} {sn : List Str} {sub : List Value} {ab : Bool} {col : Option Bool} {dd : Option Addr} {k0 k1 k2 k3 k5 : Option Value} {Bn newId inN : String} {bmN : List Value}
abbrev excObj (C : Addr) (dx : Option Addr) (vs : Array Value) : Obj := { cls := .ref C, dict := dx, data := .fields vs }
abbrev excNew (C a : Addr) : Obj := excObj C none #[.ref a, .none, .none, .none, .bool false, .none]
theorem type_call_initX (Fn : ExcBaseFacts Bn newId inN bmN) (hcB : (Value.ref C :: bm).contains (.type Bn) = true) (hcA : (Value.ref C :: bm).contains (.type "AttributeError") = false) (hcN : (Value.ref C :: bm).contains (.type "NameError") = false) {rest : List Value} {fI : Addr} {oI : Obj} {Q : Fin → Shared → Prop}
    (hC : h.get? C = some (excClassObj nm q C N bs bm hdct sn sub ab col dd k0 k1 k2 k3 k5 newId)) (hi : PySem.W.Looks (model prog w) h (typeLookup (.ref C) "__init__") (some (.ref fI)))
    (hfI : h.get? fI = some oI) (hfc : oI.cls = .type "function")
    (hq : wpAny (model prog w) A (call (.ref fI) (.ref (h.objs.size + 1) :: rest)) (fun r s' => r = .none ∧ Q (.done (.ret (.ref (h.objs.size + 1)))) s') E ⟨(h.push { cls := .type "tuple", data := .seq rest.toArray }).push (excNew C h.objs.size), g, d, t, os⟩) (hrest : rest.length ≤ sizeLine := by size_fits) :
    wpAny (model prog w) A (Builtin.«type.__call__» ⟨.ref C :: rest, []⟩) Q E ⟨h, g, d, t, os⟩ := by
  repeat (first | with_reducible refine wpAny_loadPart_at hC ?_ | with_reducible refine wpAny_madeBy_exc hC ?_ | wp_step)
  refine codeAny_call_builtin_code (Code.quiet_builtin _ Fn.quiet) (check_newX Fn hcB hC ?_)
  refine exc_newX Fn hcB hcA hcN hC ?_ hrest
  show wpAny _ _ _ _ _ _
  have hC₁ := Heap.get?_push_of_some (excNew C h.objs.size) (Heap.get?_push_of_some { cls := .type "tuple", data := .seq rest.toArray } hC)
  have hfI₁ := Heap.get?_push_of_some (excNew C h.objs.size) (Heap.get?_push_of_some { cls := .type "tuple", data := .seq rest.toArray } hfI)
  have hget : ((h.push { cls := .type "tuple", data := .seq rest.toArray }).push (excNew C h.objs.size)).get? (h.objs.size + 1) = some (excNew C h.objs.size) := by heap_get
  have hcC : (Value.ref C :: bm).contains (.ref C) = true := by simp
  unfold isInstance
  repeat (first | with_reducible refine wpAny_loadPart_at hget ?_ | (with_reducible refine wpAny_isSubtype_exc hC₁ ?_; rw [hcC]) | wp_step)
  show wpAny _ _ (typeLookup (.ref C) _) _ _ _
  refine hi _ _ _ _ (fun b o e => Heap.get?_push_of_some _ (Heap.get?_push_of_some _ e)) ?_
  refine wpAny_holding (wpAny_bind ?_)
  unfold bindSpecial
  refine wpAny_bind (wpAny_typeOf (T := "function") ⟨_, hfI₁, hfc⟩ ?_)
  rw [if_pos (by decide)]
  refine wpAny_pure (wpAny_bind (wpAny_mono hq (fun r s' hr => ?_) fun _ _ x => x))
  obtain ⟨rfl, hQ⟩ := hr
  wp_walk
  exact hQ
theorem call_exc_initX (Fn : ExcBaseFacts Bn newId inN bmN) (hcB : (Value.ref C :: bm).contains (.type Bn) = true) (hcA : (Value.ref C :: bm).contains (.type "AttributeError") = false) (hcN : (Value.ref C :: bm).contains (.type "NameError") = false) {rest : List Value} {fI : Addr} {oI : Obj} {Q : Value → Shared → Prop}
    (hC : h.get? C = some (excClassObj nm q C N bs bm hdct sn sub ab col dd k0 k1 k2 k3 k5 newId)) (hi : PySem.W.Looks (model prog w) h (typeLookup (.ref C) "__init__") (some (.ref fI)))
    (hfI : h.get? fI = some oI) (hfc : oI.cls = .type "function")
    (hq : wpAny (model prog w) (A.under (.builtin "type.__call__" ⟨.ref C :: rest, []⟩)) (call (.ref fI) (.ref (h.objs.size + 1) :: rest)) (fun r s' => r = .none ∧ Q (.ref (h.objs.size + 1)) s') E ⟨(h.push { cls := .type "tuple", data := .seq rest.toArray }).push (excNew C h.objs.size), g, d, t, os⟩) (hrest : rest.length ≤ sizeLine := by size_fits) :
    wpAny (model prog w) A (call (.ref C) rest) Q E ⟨h, g, d, t, os⟩ := by
  have f1 := tc_lookup
  have f2 := tc_bind (.ref C)
  have hT : (⟨h, g, d, t, os⟩ : Shared).TypeIs (.ref C) "type" := ⟨_, hC, rfl⟩
  refine wpAny_call (codeAny_of_tree ?_)
  show wpAny _ _ (callAny (.ref C) _) _ _ _
  repeat (any_goals (first | assumption | with_reducible refine wpAny_loadPart_at hC ?_ | wp_step))
  refine ⟨rfl, ?_⟩
  refine codeAny_call_builtin_at (Code.quiet_builtin _ (by decide +kernel)) entry_typeCall (wpAny_check_type_call_sub hC (type_call_initX (hrest := hrest) Fn hcB hcA hcN hC hi hfI hfc ?_))
  exact hq
end
end L2

namespace L2
open PySem PySem.Spec PyProof.Rows
/-! ### exceptions as objects of the abstract heap -/
def ObP (e : Addr) (p : Obj → Prop) : HO := .ext fun h => ∃ o, h.get? e = some o ∧ p o
theorem ObP.ok {P : Program} {w : World} {H : Hp} {h : Heap} {e : Addr} {p : Obj → Prop} {o : Obj} (ho : h.get? e = some o) (hp : p o) : ObjOk P w H h e (ObP e p) :=
  ⟨⟨o, ho, hp⟩, ⟨o, ho⟩, fun _ _ ⟨o, ho, hp⟩ k => ⟨o, k o ho, hp⟩⟩
theorem ObP.get {P : Program} {w : World} {H : Hp} {h : Heap} {e : Addr} {p : Obj → Prop} (x : HOk P w H h) (he : H e = some (ObP e p)) : ∃ o, h.get? e = some o ∧ p o := (x e _ he).1
abbrev vs6 (a : Addr) : Array Value := #[.ref a, .none, .none, .none, .bool false, .none]
/-- made, no dict yet; with its dict, not raised; in any state -/
def ExcN (C e : Addr) : HO := ObP e fun o => ∃ a, o = excObj C none (vs6 a)
def ExcD (C e dx : Addr) : HO := ObP e fun o => ∃ a, o = excObj C (some dx) (vs6 a)
def ExcT (C e dx : Addr) : HO := ObP e fun o => ∃ vs, o = excObj C (some dx) vs ∧ vs.size = 6
structure MkX (K : PySem.W.Frag) (C f : Addr) : Prop where
  obj : ∃ (nm q : Str) (N : Addr) (bs bm : List Value) (hdct : Bool) (sn : List Str) (sub : List Value) (ab : Bool) (col : Option Bool) (dd : Option Addr) (k0 k1 k2 k3 k5 : Option Value), K.lookup C = some (excClassObj nm q C N bs bm hdct sn sub ab col dd k0 k1 k2 k3 k5 "ValueError.__new__") ∧
    (Value.ref C :: bm).contains (.type "ValueError") = true ∧ (Value.ref C :: bm).contains (.type "AttributeError") = false ∧ (Value.ref C :: bm).contains (.type "NameError") = false
  init : PySem.W.findIn K (.ref C) "__init__" = some (some (.ref f))
  fn : ∃ o, K.lookup f = some o ∧ o.cls = .type "function"
  kp : PySem.W.keepIn K (.ref C) = true
section
variable {X : Cx} {CX : CXT} {k : Nat} {f C : Addr} {fd : FuncData} {ps : List Str} {sp : Sp} {dvs : List V} {ds : List Value} {E : XK} {x m : Str} {p pos apos : Pos} {e o : Expr} {es : List Expr} {ta : TE} {t : TA}
theorem run_makeX {pins : List (Addr × Obj)} {σ : St} {H : Hp} {s : Shared} {Q : VK} {us : List Value} {vs : List V} (M : MkX X.K C f) (Fo : FnOk X.prog X.w X.K X.mg X.base CX k f fd ps sp) (hr : Room (k + 1) X.A) (hb : Binds X.K fd ps ds) (hd : Vals dvs ds)
    (hx : Passes CX X E) (I : Inv X pins σ H s) (r : Vals vs us) (hz : vs.length ≤ sizeLine)
    (h : ∀ e, H e = none → sp (.ref e :: (vs ++ dvs)) (upd H e (ExcN C e)) (fun v H2 => v = .non ∧ Q (.ref e) H2) E) :
    wpAny (model X.prog X.w) X.A (call (.ref C) us) (EP X pins σ Q) X.xe s := by
  have hf : H (s.heap.objs.size + 1) = none := I.hok.fresh (Nat.le_succ _)
  have hq := h (s.heap.objs.size + 1) hf
  obtain ⟨nm, q, N, bs, bm, hdct, sn, sub, ab, col, dd, k0, k1, k2, k3, k5, lk, c1, c2, c3⟩ := M.obj
  obtain ⟨oI, lf, hfc⟩ := M.fn
  obtain ⟨hh, g, d, tk, os⟩ := s
  have I1 : Inv X pins σ H { heap := hh.push { cls := .type "tuple", data := .seq us.toArray }, gens := g, drawn := d, toks := tk, os := os } := I.kept (t' := tk) fun b o e => Heap.get?_push_of_some _ e
  have sz1 : (hh.push { cls := .type "tuple", data := .seq us.toArray }).objs.size = hh.objs.size + 1 := Heap.size_push ..
  have I2 : Inv X pins σ (upd H (hh.objs.size + 1) (ExcN C (hh.objs.size + 1))) { heap := (hh.push { cls := .type "tuple", data := .seq us.toArray }).push (excNew C hh.objs.size), gens := g, drawn := d, toks := tk, os := os } :=
    I1.laid (t' := tk) (fun b o e => Heap.get?_push_of_some _ e) (Nat.le_of_eq sz1) (ObP.ok (o := excNew C hh.objs.size) (by rw [← sz1]; exact Heap.get?_push_size _ rfl) ⟨_, rfl⟩)
  have r2 : Vals (V.ref (hh.objs.size + 1) :: (vs ++ dvs)) (Value.ref (hh.objs.size + 1) :: (us ++ ds)) := .cons rfl (r.append hd)
  have hl : (Value.ref (hh.objs.size + 1) :: us ++ ds).length = ps.length := by
    have e := r2.length
    rw [Fo.len _ _ _ _ hq] at e
    exact e.symm
  refine call_exc_initX PySem.F.excBase_ValueError c1 c2 c3 (I.kIn _ _ lk) (PySem.W.looks_findIn I.kIn M.init) (I.kIn _ _ lf) hfc ?_ (by rw [← r.length]; exact hz)
  refine wpAny_call (codeAny_mono (Fo.run _ X.stack _ _ ⟨Value.ref (hh.objs.size + 1) :: us, []⟩ (Value.ref (hh.objs.size + 1) :: (us ++ ds)) _ _ E (hr.make C us []) (I2.env0.make C us []) (hb _ (Value.ref (hh.objs.size + 1) :: us) I2.kIn hl) r2 hq) fun r s' hq' => ?_)
  cases r with
  | error e => exact hx pins σ _ _ e s' I2 hq'
  | ok fl =>
    cases fl with
    | ret u =>
      obtain ⟨v, H', I3, rv, ev, q3⟩ := I2.after hq'
      subst ev
      exact ⟨rv, ⟨V.ref (hh.objs.size + 1), H', I3, rfl, q3⟩⟩
    | next => exact False.elim hq'
    | brk => exact False.elim hq'
    | cont => exact False.elim hq'
def tMakeX (C : Addr) (sp : Sp) (dvs : List V) (E : XK) (t : TA) : TE := fun σ H Q => t σ H fun vs H1 => vs.length ≤ sizeLine ∧ ∀ e, H1 e = none →
  sp (.ref e :: (vs ++ dvs)) (upd H1 e (ExcN C e)) (fun v H2 => v = .non ∧ Q (.ref e) H2) E
theorem pe_makeX (M : MkX X.K C f) (F : FnOk X.prog X.w X.K X.mg X.base CX k f fd ps sp) (hr : Room (k + 1) X.A) (hg : Gl X x) (hm : X.mg x = some (.ref C)) (hb : Binds X.K fd ps ds) (hd : Vals dvs ds) (hx : Passes CX X E)
    (ha : PA X (e :: es) t) (hdb : (x == ("__debug__" : Str)) = false := by decide) (he : starEach (e :: es) X.env = (false, eval e X.env) :: starEach es X.env := by rfl) (hpl : (backTo pos (starEach es X.env)).any (·.1) = false := by rfl) :
    PE X (.Call (.Name x p) (e :: es) [] pos) (tMakeX C sp dvs E t) := by
  intro pins s σ H Q I h
  refine wpAny_Call_Name_kw (ld_glob I hg hm ?_ hdb)
  refine PySem.W.callWith_K (h₀ := X.base) I.ok.mod.kin M.kp (thn (ha pos pins s σ H _ I h) fun us s1 ⟨vs, H1, I1, r, z, q⟩ => ⟨I1.kIn, ?_⟩) he hpl
  exact run_makeX M F hr hb hd hx I1 r z q
end
end L2

namespace L2
open PySem PySem.Spec PyProof.Rows
/-- what a class of one's own must have for C.name(..) -/
structure ClsFn (K : PySem.W.Frag) (C f : Addr) (name : Str) : Prop where
  ga : PySem.W.specialIn K (.ref C) "__getattribute__" = some (some (.builtin "type.__getattribute__"))
  rd : PySem.W.readsIn K C (.type "type") = true
  fc : (match PySem.W.findCls K (.ref C) (.type "type") name with | some (.val v) => some v | _ => none) = some (.ref f)
  kp : PySem.W.keepIn K (.ref f) = true
theorem ClsFn.find {K : PySem.W.Frag} {C f : Addr} {name : Str} (c : ClsFn K C f name) : PySem.W.findCls K (.ref C) (.type "type") name = some (.val (.ref f)) := by
  have h := c.fc
  split at h
  · rename_i v e
    cases h
    exact e
  · cases h
section
variable {X : Cx} {CX : CXT} {k : Nat} {f C : Addr} {fd : FuncData} {ps : List Str} {sp : Sp} {dvs : List V} {ds : List Value} {E : XK} {x m : Str} {p pos apos : Pos} {e o : Expr} {es : List Expr} {ta : TE} {t : TA}
/-- C.m(e, ..), C a class of one's own -/
theorem pe_clscall {pl : Sem Bool} (hg : Gl X x) (hm : X.mg x = some (.ref C)) (c : ClsFn X.K C f m) (Fo : FnOk X.prog X.w X.K X.mg X.base CX k f fd ps sp) (hr : Room k X.A) (hb : Binds X.K fd ps ds) (hd : Vals dvs ds) (hx : Passes CX X E) (ha : PA X (e :: es) t) (hdb : (x == ("__debug__" : Str)) = false := by decide)
    (hst : starEach (e :: es) X.env = (false, eval e X.env) :: starEach es X.env := by rfl) (hpl : (backTo pos (starEach es X.env)).any (·.1) = false := by rfl)
    (ht : eval (.Call (.Attribute (.Name x p) m apos) (e :: es) [] pos) X.env = (do
      let ov ← eval (.Name x p) X.env
      standAt apos.atName
      let (f, first) ← holding [ov] (getMethod ov m pl)
      callWith pos f first (backTo pos (starEach (e :: es) X.env)) (backToKw pos (keywordEach [] X.env))) := by rfl) :
    PE X (.Call (.Attribute (.Name x p) m apos) (e :: es) [] pos) (tCall sp dvs E t) := by
  intro pins s σ H Q I h
  refine PySem.W.methodCall_KW (pl := pl) ?_ ht
  refine thn (pe_glob (v := .ref C) hg hm rfl hdb pins s σ H (fun v H' => v = .ref C ∧ H' = H) I ⟨rfl, rfl⟩) fun u s1 ⟨v, H1, I1, r1, ev, eH⟩ => ?_
  subst ev eH
  cases r1
  refine PySem.W.method_cls I1.kIn c.ga (PySem.W.cls_value I1.kIn c.rd c.find rfl ?_)
  have I2 := I1.tok (s1.toks + 1)
  refine PySem.W.callWith_K (first := []) (h₀ := X.base) I2.ok.mod.kin c.kp (thn (ha pos pins _ σ H1 _ I2 h) fun us s2 ⟨vs, H2, I3, r, q⟩ => ⟨I3.kIn, ?_⟩) hst hpl
  exact run_fn Fo hr hb hd hx I3 r q
end
section
variable {prog : Program} {w : World} {A : Around} {E : Value → Shared → Prop} {h : Heap} {g : Array GenState} {d : Drawn} {t : Nat} {os : OsState}
variable {nm q : Str} {C N : Addr} {bs bm : List Value} {hdct : Bool} {sn : List Str} {sub : List Value} {ab : Bool} {col : Option Bool} {dd : Option Addr} {k0 k1 k2 k3 k5 : Option Value} {B newId nid initId inN : String} {bmN bmB : List Value}
theorem check_initX (Fb : ExcBaseFacts B nid initId bmB) (hcB : (Value.ref C :: bm).contains (.type B) = true) {M : Model} {e : Addr} {oe : Obj} {rest : List Value} {Q : Unit → Shared → Prop}
    (hC : h.get? C = some (excClassObj nm q C N bs bm hdct sn sub ab col dd k0 k1 k2 k3 k5 newId)) (he : h.get? e = some oe) (hcls : oe.cls = .ref C) (hq : Q () ⟨h, g, d, t, os⟩) :
    wpAny M A (checkBuiltinCall initId ⟨.ref e :: rest, []⟩) Q E ⟨h, g, d, t, os⟩ := by
  have hshort := Fb.noStar
  simp only [checkBuiltinCall, Fb.initKind, Fb.initSplit, Fb.initRow]
  repeat (first | (with_reducible refine wpAny_loadPart_at he ?_; rw [hcls]) | with_reducible refine wpAny_loadPart_at hC ?_ | (with_reducible refine wpAny_isSubtype_exc hC ?_; rw [hcB]) | wp_step)
  refine wpAny_onRaise ?_
  rw [show ∀ (a b : String) (n : Nat), Bind.check ⟨.positional, "*", B, .self, [⟨"args", .varPos, false⟩]⟩ a b n (List.map (fun x => x.fst) ({ pos := Value.ref e :: rest } : Args).kw) = pure () from
    fun a b n => check_star_args _ _ _ _ _ _]
  exact wpAny_pure hq
theorem exc_initX (Fb : ExcBaseFacts B nid initId bmB) (hcB : (Value.ref C :: bm).contains (.type B) = true) {e a : Addr} {dx : Option Addr} {rest : List Value} {Q : Value → Shared → Prop}
    (hC : h.get? C = some (excClassObj nm q C N bs bm hdct sn sub ab col dd k0 k1 k2 k3 k5 newId)) (he : h.get? e = some (excObj C dx (vs6 a))) (hrest : rest.length ≤ sizeLine)
    (hq : Q .none ⟨(h.push { cls := .type "tuple", data := .seq rest.toArray }).update e (Obj.mapFields (·.setIfInBounds 0 (.ref h.objs.size))), g, d, t, os⟩) :
    wpAny (model prog w) A (call (.builtin initId) (.ref e :: rest)) Q E ⟨h, g, d, t, os⟩ := by
  refine wpAny_call (codeAny_call_builtin Fb.init.plain Fb.initEntry (check_initX Fb hcB hC he rfl ?_))
  wp_walk
  exact hq
end
end L2

namespace L2
open PySem PySem.Spec PyProof.Rows
theorem val_find {K : PySem.W.Frag} : PySem.W.findCls K (.type "ValueError") (.type "type") "__init__" = some (.val (.builtin "ValueError.__init__")) := by
  with_unfolding_all rfl
theorem val_type : typeOf (.type "ValueError") = pure (.type "type") := by
  kernel_rfl
theorem upd_id {H : Hp} {e : Addr} {o : HO} (h : H e = some o) : upd H e o = H := by
  funext b
  unfold upd
  split
  · rename_i z
    rw [z, h]
  · rfl
section
variable {prog : Program} {w : World} {A : Around} {E : Value → Shared → Prop} {s : Shared} {K : PySem.W.Frag} {name : Str}
theorem method_typeX {T : String} {v : Value} {pl : Sem Bool} {Q : Value × List Value → Shared → Prop} (X : K.In s.heap) (ht : typeOf (.type T) = pure (.type "type")) (hs : Manifest.isStub T = false)
    (e : PySem.W.findCls K (.type T) (.type "type") name = some (.val v)) (hh : PySem.W.handedIn v = true) (h : Q (v, []) { s with toks := s.toks + 1 }) : wpAny (model prog w) A (getMethod (.type T) name pl) Q E s := by
  have hstub : opaqueClassAbove (.type T) = pure none := by unfold opaqueClassAbove; dsimp only; rw [hs]; rfl
  have L0 : PySem.W.Looks (model prog w) s.heap (typeOf (.type T)) (.type "type") := PySem.W.Looks.of_pure ht
  have hg : PySem.W.findIn K (.type "type") "__getattribute__" = some (some (.builtin "type.__getattribute__")) := PySem.W.type_tga
  unfold getMethod specialOf
  refine wpAny_bind (wpAny_bind (L0.here ((PySem.W.looks_findIn X hg).here ?_)))
  dsimp only
  rw [if_pos PySem.W.canon_tga]
  refine wpAny_bind (wpAny_mono (Q := fun v => Q (v, [])) (E := E) ?_ (fun _ _ z => wpAny_pure z) fun _ _ z => z)
  have LO : PySem.W.Looks (model prog w) s.heap (opaqueClassAbove (.type T)) none := PySem.W.Looks.of_pure hstub
  refine PySem.W.cls_open X LO L0 hg (PySem.W.looks_hook X (r := none) (by rfl)) (by show PySem.W.subIn K _ _ = _; rfl) e
    (wpAny_pure (by show wpAny _ _ (PySem.handedOut v) _ _ _; rw [PySem.W.handedOut_of hh]; exact wpAny_pure h))
end
section
variable {X : Cx} {p pos apos : Pos} {e1 e2 : Expr} {t : TA}
theorem boot_val : bootBuiltins ("ValueError" : Str) = some (.type "ValueError") := by decide +kernel
/-- ValueError.__init__(self, words), self just made -/
theorem pe_valinit {pl : Sem Bool} (hg : Gl X "ValueError") (hm : X.mg "ValueError" = none) (ha : PA X [e1, e2] t)
    (hst : starEach [e1, e2] X.env = (false, eval e1 X.env) :: starEach [e2] X.env := by rfl) (hpl : (backTo pos (starEach [e2] X.env)).any (·.1) = false := by rfl)
    (ht : eval (.Call (.Attribute (.Name "ValueError" p) "__init__" apos) [e1, e2] [] pos) X.env = (do
      let ov ← eval (.Name "ValueError" p) X.env
      standAt apos.atName
      let (f, first) ← holding [ov] (getMethod ov "__init__" pl)
      callWith pos f first (backTo pos (starEach [e1, e2] X.env)) (backToKw pos (keywordEach [] X.env))) := by rfl) :
    PE X (.Call (.Attribute (.Name "ValueError" p) "__init__" apos) [e1, e2] [] pos) (fun σ H Q => t σ H fun vs H1 => ∃ e C f x, vs = [.ref e, x] ∧ H1 e = some (ExcN C e) ∧ MkX X.K C f ∧ Q .non H1) := by
  intro pins s σ H Q I h
  refine PySem.W.methodCall_KW (pl := pl) ?_ ht
  have hP : PE X (.Name "ValueError" p) (tC (V.ty "ValueError")) := pe_bltn hg hm boot_val rfl
  refine thn (hP pins s σ H (fun v H' => v = .ty "ValueError" ∧ H' = H) I ⟨rfl, rfl⟩) fun u s1 ⟨v, H1, I1, r1, ev, eH⟩ => ?_
  subst ev eH
  cases r1
  refine method_typeX I1.kIn val_type (by decide +kernel) val_find rfl ?_
  have I2 := I1.tok (s1.toks + 1)
  have hA := ha pos pins _ σ H1 _ I2 h
  rw [hst] at hA ⊢
  refine Calls.callWith_builtin (by show (false || (backTo pos (starEach [e2] X.env)).any (·.1)) = false; rw [hpl] <;> rfl) (Calls.evalArgs_plain ?_)
  refine thn hA fun us s2 ⟨vs, H2, I3, r2, e, C, f, x, ev, he, M, q⟩ => ?_
  subst ev
  cases r2 with
  | cons r rr =>
    cases rr with
    | @cons _ u2 _ _ r' rr =>
      cases rr
      cases r
      obtain ⟨nm, qn, N, bs, bm, hdct, sn, sub, ab, col, dd, k0, k1, k2, k3, k5, lk, c1, c2, c3⟩ := M.obj
      obtain ⟨o, ho, a, rfl⟩ := ObP.get I3.hok he
      obtain ⟨hh, g, d, tk, os⟩ := s2
      show wpAny _ _ (call (.builtin "ValueError.__init__") (.ref e :: [u2])) _ _ _
      refine exc_initX PySem.F.excBase_ValueError c1 (I3.kIn _ _ lk) ho (by show 1 ≤ sizeLine; decide) ?_
      have I4 : Inv X pins σ H2 { heap := hh.push { cls := .type "tuple", data := .seq [u2].toArray }, gens := g, drawn := d, toks := tk, os := os } := I3.kept (t' := tk) fun b o e => Heap.get?_push_of_some _ e
      have ho4 := Heap.get?_push_of_some { cls := .type "tuple", data := .seq [u2].toArray } ho
      have hu := Heap.get?_update_self (Obj.mapFields (·.setIfInBounds 0 (Value.ref hh.objs.size))) ho4 rfl
      have I5 : Inv X pins σ (upd H2 e (ExcN C e)) { heap := (hh.push { cls := .type "tuple", data := .seq [u2].toArray }).update e (Obj.mapFields (·.setIfInBounds 0 (Value.ref hh.objs.size))), gens := g, drawn := d, toks := tk, os := os } :=
        I4.write (x := e) (e := e) (t' := tk) (by rw [he]; exact trivial) (.inl rfl) (fun b u hb hu => (Heap.get?_update_other _ _ (Ne.symm hb)).trans hu) ⟨_, hu⟩ (ObP.ok hu ⟨hh.objs.size, rfl⟩)
      rw [upd_id he] at I5
      exact ⟨.non, H2, I5, rfl, q⟩
end
end L2

namespace L2
open PySem Builtin Builtin.ObjectAttr
section
variable {prog : Program} {w : World} {A : Around} {E : Value → Shared → Prop} {h : Heap} {g : Array GenState} {d : Drawn} {t : Nat} {os : OsState}
variable {nm q : Str} {C N x : Addr} {bs bm : List Value} {sn : List Str} {sub : List Value} {ab : Bool} {col : Option Bool} {dd : Option Addr} {k0 k1 k2 k3 k5 : Option Value} {newId : String} {name : Str} {v : Value} {vs : Array Value}
theorem check_saX {M : Model} {B sa owner : String} {bmB : List Value} {o : Obj} {nameV : Value} {Q : Unit → Shared → Prop} (SF : StoreFacts B bmB sa owner) (hcB : (Value.ref C :: bm).contains (.type owner) = true)
    (hC : h.get? C = some (excClassObj nm q C N bs bm true sn sub ab col dd k0 k1 k2 k3 k5 newId)) (hx : h.get? x = some o) (hc : o.cls = .ref C) (hq : Q () ⟨h, g, d, t, os⟩) :
    wpAny M A (checkBuiltinCall sa ⟨[.ref x, nameV, v], []⟩) Q E ⟨h, g, d, t, os⟩ := by
  have ha := SF.args (.ref x) nameV v
  simp only [checkBuiltinCall, SF.kind, SF.split]
  refine wpAny_bind ?_
  · unfold isInstance
    repeat (first | (with_reducible refine wpAny_loadPart_at hx ?_; rw [hc]) | (with_reducible refine wpAny_isSubtype_exc hC ?_; rw [hcB]) | wp_step)
    cases hsig : Manifest.signature? sa with
    | none => exact wpAny_pure hq
    | some sig =>
      simp only [argsOk, hsig] at ha
      have h2 : Bind.checkArgs sa sig ⟨[.ref x, nameV, v], []⟩ = pure () := ha
      show wpAny M A (Bind.checkArgs sa sig ⟨[.ref x, nameV, v], []⟩) Q E _
      rw [h2]; exact wpAny_pure hq
/-- the first name stored in an exception: its dict is made -/
theorem store_entryX {tk : Tok} {Q : Fin → Shared → Prop} (hpass : refuseLoop (.ref x) "__setattr__" (.ref C :: bm) = pure ())
    (hC : h.get? C = some (excClassObj nm q C N bs bm true sn sub ab col dd k0 k1 k2 k3 k5 newId)) (hL : PySem.W.Looks (model prog w) h (typeLookup (.ref C) name) none) {o : Obj} (hx : h.get? x = some o) (hc : o.cls = .ref C) (hdn : o.dict = none) (hnc : ∀ c, o.data ≠ .cls c)
    (hq : ∀ h' tk', h'.get? x = some { cls := o.cls, dict := some h.objs.size, data := o.data, slots := o.slots } → h'.Ns1 h.objs.size (fun y => if y = name then some v else none) → (∀ b o, b ≠ x → h.get? b = some o → h'.get? b = some o) → Q (.done (.ret .none)) ⟨h', g, d, tk', os⟩) :
    wpAny (model prog w) A (Builtin.«object.__setattr__» ⟨[.ref x, .str name tk, v], []⟩) Q E ⟨h, g, d, t, os⟩ := by
  have hL' : ∀ {A' : Around} {E' : Value → Shared → Prop} {Q' : Option Value → Shared → Prop} {t' : Nat}, Q' none ⟨h, g, d, t', os⟩ → wpAny (model prog w) A' (typeLookup (.ref C) name) Q' E' ⟨h, g, d, t', os⟩ := fun q' => hL _ _ _ _ (fun _ _ e => e) q'
  unfold Builtin.«object.__setattr__»
  repeat (first | rw [refuse_eq] | (rw [hpass]) | (with_reducible refine wpAny_loadPart_at hx ?_; rw [hc]) | with_reducible refine wpAny_mroOf_exc hC ?_ | (with_reducible refine hL' ?_) | wp_step)
  rw [hdn, if_neg (by simp [typeHasDict])]
  split
  · rename_i hcd
    cases hcd
  split
  · rename_i c hcd
    exact absurd hcd (hnc c)
  · have hx₁ : (h.push { cls := .type "dict", data := .dict #[] }).get? x = some o := Heap.get?_push_of_some _ hx
    have hxs : x ≠ h.objs.size := Nat.ne_of_lt (Heap.lt_size hx)
    refine wpAny_bind (wpAny_alloc' ?_)
    refine wpAny_bind (wpAny_update' hx₁ ?_)
    refine wpAny_pure ?_
    have hgd : ((h.push { cls := .type "dict", data := .dict #[] }).update x fun o => { cls := o.cls, dict := some h.objs.size, data := o.data, slots := o.slots }).get? h.objs.size
        = some { cls := .type "dict", data := .dict #[] } :=
      (Heap.get?_update_ne _ _ _ _ hxs.symm).trans (Heap.get?_push_at rfl rfl)
    have hnd : ((h.push { cls := .type "dict", data := .dict #[] }).update x fun o => { cls := o.cls, dict := some h.objs.size, data := o.data, slots := o.slots }).Ns h.objs.size (fun _ => none) :=
      ⟨_, #[], _, hgd, rfl, fun e he => absurd he (by simp), fun _ => rfl⟩
    show wpAny _ _ (storeInDict h.objs.size (.str name tk) name v) _ _ _
    unfold storeInDict newKeyGuard
    refine wpAny_bind (wpAny_pure (wpAny_bind (wpAny_nsSet1 (Heap.Ns1.of_empty hnd) fun h' hn' hs => ?_)))
    obtain ⟨oD, esD, epD, hoD, hdD, hcD⟩ := hn'.count (Within.cons name v Within.nil)
    refine wpAny_bind (wpAny_lookBehind hoD (by rw [hdD]; exact pastItsLine_dict (Nat.le_trans hcD (by rw [List.length_cons, List.length_nil, sizeLine_eq]; omega))) ?_)
    wp_walk
    refine hq h' _ ?_ hn' fun b ob hbx hb => ?_
    · refine (hs.2 x hxs).trans (Heap.get?_update_self _ hx₁ ?_)
      have hfr := (Heap.get?_some_iff.mp hx).2
      obtain ⟨oc, od, odt, osl⟩ := o
      cases odt <;> first | rfl | exact hfr
    · exact (hs.2 b (Nat.ne_of_lt (Heap.lt_size hb))).trans ((Heap.get?_update_ne _ _ _ _ hbx).trans (Heap.get?_push_of_some _ hb))
theorem store_attrX {B sa owner : String} {bmB : List Value} {Q : Unit → Shared → Prop} (SF : StoreFacts B bmB sa owner) (hcO : (Value.ref C :: bm).contains (.type owner) = true) (hpass : refuseLoop (.ref x) "__setattr__" (.ref C :: bm) = pure ())
    (hC : h.get? C = some (excClassObj nm q C N bs bm true sn sub ab col dd k0 k1 k2 k3 k5 newId)) (hS : PySem.W.Looks (model prog w) h (typeLookup (.ref C) "__setattr__") (some (.builtin sa)))
    (hL : PySem.W.Looks (model prog w) h (typeLookup (.ref C) name) none) {o : Obj} (hx : h.get? x = some o) (hc : o.cls = .ref C) (hdn : o.dict = none) (hnc : ∀ c, o.data ≠ .cls c)
    (hq : ∀ h' tk', h'.get? x = some { cls := o.cls, dict := some h.objs.size, data := o.data, slots := o.slots } → h'.Ns1 h.objs.size (fun y => if y = name then some v else none) → (∀ b o, b ≠ x → h.get? b = some o → h'.get? b = some o) → Q () ⟨h', g, d, tk', os⟩) :
    wpAny (model prog w) A (setAttr (.ref x) name v) Q E ⟨h, g, d, t, os⟩ := by
  have f3 := SF.slot.bind (.ref x)
  have hS' : ∀ {A' : Around} {E' : Value → Shared → Prop} {Q' : Option Value → Shared → Prop} {t' : Nat}, Q' (some (.builtin sa)) ⟨h, g, d, t', os⟩ → wpAny (model prog w) A' (typeLookup (.ref C) "__setattr__") Q' E' ⟨h, g, d, t', os⟩ := fun q' => hS _ _ _ _ (fun _ _ e => e) q'
  unfold setAttr callSpecial? specialOf
  repeat (any_goals (first | assumption | (with_reducible refine wpAny_loadPart_at hx ?_; rw [hc]) | (with_reducible refine hS' ?_) | wp_step))
  refine codeAny_call_builtin SF.slot.plain SF.entry (check_saX SF hcO hC hx hc (store_entryX hpass hC hL hx hc hdn hnc fun h' tk' i1 i2 i3 => ?_))
  repeat (any_goals (first | assumption | wp_step))
  exact hq h' tk' i1 i2 i3
end
end L2

namespace L2
open PySem Builtin Builtin.ObjectAttr
section
variable {prog : Program} {w : World} {A : Around} {E : Value → Shared → Prop} {h : Heap} {g : Array GenState} {d : Drawn} {t : Nat} {os : OsState} {a dx : Addr} {o : Obj} {v : Value}
  {nm q : Str} {C N : Addr} {bs bm : List Value} {sn : List Str} {sub : List Value} {ab : Bool} {col : Option Bool} {dd : Option Addr} {k0 k1 k2 k3 k5 : Option Value} {newId : String} {mA : Str → Option Value} {name : Str}
theorem check_gaX {M : Model} {nameV : Value} {Q : Unit → Shared → Prop} (hC : h.get? C = some (excClassObj nm q C N bs bm true sn sub ab col dd k0 k1 k2 k3 k5 newId)) (hcB : (Value.ref C :: bm).contains (.type "BaseException") = true)
    (hx : h.get? a = some o) (hc : o.cls = .ref C) (hq : Q () ⟨h, g, d, t, os⟩) : wpAny M A (checkBuiltinCall "BaseException.__getattribute__" ⟨[.ref a, nameV], []⟩) Q E ⟨h, g, d, t, os⟩ := by
  have hk : builtinKind "BaseException.__getattribute__" = some .slot := by decide +kernel
  have hsplit : splitId "BaseException.__getattribute__" = some ("BaseException", "__getattribute__") := by decide +kernel
  have ha := F.args_bexc_ga (.ref a) nameV
  simp only [checkBuiltinCall, hk, hsplit]
  refine wpAny_bind ?_
  · unfold isInstance
    repeat (first | (with_reducible refine wpAny_loadPart_at hx ?_; rw [hc]) | (with_reducible refine wpAny_isSubtype_exc hC ?_; rw [hcB]) | wp_step)
    exact hq
theorem load_entryX {tk : Tok} {Q : Fin → Shared → Prop} (hC : h.get? C = some (excClassObj nm q C N bs bm true sn sub ab col dd k0 k1 k2 k3 k5 newId)) (hL : PySem.W.Looks (model prog w) h (typeLookup (.ref C) name) none)
    (hx : h.get? a = some o) (hc : o.cls = .ref C) (hdx : o.dict = some dx) (hnc : ∀ c, o.data ≠ .cls c) (hns : h.Ns dx mA) (hv : mA name = some v) (hq : Q (.done (.ret v)) ⟨h, g, d, t, os⟩) :
    wpAny (model prog w) A (Builtin.«object.__getattribute__» ⟨[.ref a, .str name tk], []⟩) Q E ⟨h, g, d, t, os⟩ := by
  have hL' : ∀ {A' : Around} {E' : Value → Shared → Prop} {Q' : Option Value → Shared → Prop} {t' : Nat}, Q' none ⟨h, g, d, t', os⟩ → wpAny (model prog w) A' (typeLookup (.ref C) name) Q' E' ⟨h, g, d, t', os⟩ := fun q' => hL _ _ _ _ (fun _ _ e => e) q'
  unfold Builtin.«object.__getattribute__»
  repeat (first | (with_reducible refine wpAny_loadPart_at hx ?_; rw [hc]) | (with_reducible refine hL' ?_) | wp_step)
  split
  · rename_i c hcd
    exact absurd hcd (hnc c)
  · repeat (first | (with_reducible refine wpAny_loadPart_at hx ?_; rw [hc]) | wp_step)
    rw [hdx]
    repeat (first | (with_reducible refine wpAny_nsGet hns ?_; rw [hv]) | wp_step)
    exact hq
end
end L2

namespace L2
open PySem Builtin Builtin.ObjectAttr
section
variable {prog : Program} {w : World} {A : Around} {E : Value → Shared → Prop} {h : Heap} {g : Array GenState} {d : Drawn} {t : Nat} {os : OsState} {a dx : Addr} {o : Obj} {v : Value}
  {nm q : Str} {C N : Addr} {bs bm : List Value} {sn : List Str} {sub : List Value} {ab : Bool} {col : Option Bool} {dd : Option Addr} {k0 k1 k2 k3 k5 : Option Value} {newId : String} {mA : Str → Option Value} {name : Str}
theorem load_byX {tk : Tok} {fill expr : Bool} {Q : Value → Shared → Prop} (hC : h.get? C = some (excClassObj nm q C N bs bm true sn sub ab col dd k0 k1 k2 k3 k5 newId)) (hcB : (Value.ref C :: bm).contains (.type "BaseException") = true)
    (hG : PySem.W.Looks (model prog w) h (typeLookup (.ref C) "__getattribute__") (some (.builtin "BaseException.__getattribute__"))) (hA : PySem.W.Looks (model prog w) h (typeLookup (.ref C) "__getattr__") none) (hL : PySem.W.Looks (model prog w) h (typeLookup (.ref C) name) none)
    (hx : h.get? a = some o) (hc : o.cls = .ref C) (hdx : o.dict = some dx) (hnc : ∀ c, o.data ≠ .cls c) (hns : h.Ns dx mA) (hv : mA name = some v) (hh : PySem.W.handedIn v = true) (hq : Q v ⟨h, g, d, t, os⟩) :
    wpAny (model prog w) A (getAttrBy (.ref a) (.str name tk) fill expr) Q E ⟨h, g, d, t, os⟩ := by
  have FB := F.attrBase_ValueError
  have f3 := FB.ga.bind (.ref a)
  have hx0 : (expr && onTheHeap (Value.builtin "BaseException.__getattribute__")) = false := by cases expr <;> rfl
  have hx2 : (Value.builtin "BaseException.__getattribute__" == Value.builtin "object.__getattribute__") = false := by decide +kernel
  have hx1 : (onTheHeap (Value.ref C) && Value.builtin "BaseException.__getattribute__" == Value.builtin "object.__getattribute__") = false := by rw [hx2]; rfl
  have hG' : ∀ {A' : Around} {E' : Value → Shared → Prop} {Q' : Option Value → Shared → Prop} {t' : Nat}, Q' (some (.builtin "BaseException.__getattribute__")) ⟨h, g, d, t', os⟩ → wpAny (model prog w) A' (typeLookup (.ref C) "__getattribute__") Q' E' ⟨h, g, d, t', os⟩ := fun q' => hG _ _ _ _ (fun _ _ e => e) q'
  have hA' : ∀ {A' : Around} {E' : Value → Shared → Prop} {Q' : Option Value → Shared → Prop} {t' : Nat}, Q' none ⟨h, g, d, t', os⟩ → wpAny (model prog w) A' (typeLookup (.ref C) "__getattr__") Q' E' ⟨h, g, d, t', os⟩ := fun q' => hA _ _ _ _ (fun _ _ e => e) q'
  repeat (any_goals (first | assumption | (with_reducible refine wpAny_loadPart_at hx ?_; rw [hc]) | with_reducible refine hG' ?_ | with_reducible refine hA' ?_ | wp_step))
  refine codeAny_call_builtin FB.ga.plain F.entry_bexc_ga (check_gaX hC hcB hx hc (load_entryX hC hL hx hc hdx hnc hns hv ?_))
  show wpAny _ _ (handedOut v) _ _ _
  rw [PySem.W.handedOut_of hh]
  exact wpAny_pure hq
end
end L2

namespace L2
open PySem Builtin Builtin.ObjectAttr
section
variable {prog : Program} {w : World} {A : Around} {E : Value → Shared → Prop} {h : Heap} {g : Array GenState} {d : Drawn} {t : Nat} {os : OsState} {a : Addr} {o : Obj}
  {nm q : Str} {C N : Addr} {bs bm : List Value} {sn : List Str} {sub : List Value} {ab : Bool} {col : Option Bool} {dd : Option Addr} {k0 k1 k2 k3 k5 : Option Value} {newId : String}
theorem class_getX {R : Result → Shared → Prop} (hC : h.get? C = some (excClassObj nm q C N bs bm true sn sub ab col dd k0 k1 k2 k3 k5 newId)) (hcO : (Value.ref C :: bm).contains (.type "object") = true)
    (hx : h.get? a = some o) (hc : o.cls = .ref C) (hq : R (.ok (.ret (.ref C))) ⟨h, g, d, t, os⟩) :
    codeAny (model prog w) A (.call (.builtin "getset_descriptor.__get__") ⟨[.builtin "object.__class__", .ref a, .ref C], []⟩) R ⟨h, g, d, t, os⟩ := by
  have hT5 : (⟨h, g, d, t, os⟩ : Shared).TypeIs (.builtin "object.__class__") "getset_descriptor" := F.typeOf_object_class
  have hcB : (Value.ref C :: bm).contains (.type (".".intercalate ("object.__class__".cutAt '.').dropLast)) = true := by rw [F.owner_object_class]; exact hcO
  refine codeAny_call_builtin F.slot_gs_get.plain F.entry_gs_get (F.slot_gs_get.check _ _ _ _ _ _ _ _ hT5 (F.args_gs_get _ _ _) ?_)
  repeat (any_goals (first | assumption | (with_reducible refine wpAny_loadPart_at hx ?_; rw [hc]) | (with_reducible refine wpAny_isSubtype_exc hC ?_; rw [hcB]) | wp_step))
  refine ⟨Code.quiet_builtin _ (by decide +kernel), codeAny_builtin F.entry_object_class ?_⟩
  repeat (any_goals (first | assumption | (with_reducible refine wpAny_loadPart_at hx ?_; rw [hc]) | wp_step))
theorem class_entryX {tk : Tok} {Q : Fin → Shared → Prop} (hC : h.get? C = some (excClassObj nm q C N bs bm true sn sub ab col dd k0 k1 k2 k3 k5 newId)) (hcO : (Value.ref C :: bm).contains (.type "object") = true)
    (hK : PySem.W.Looks (model prog w) h (typeLookup (.ref C) "__class__") (some (.builtin "object.__class__"))) (hx : h.get? a = some o) (hc : o.cls = .ref C) (hq : Q (.done (.ret (.ref C))) ⟨h, g, d, t, os⟩) :
    wpAny (model prog w) A (Builtin.«object.__getattribute__» ⟨[.ref a, .str "__class__" tk], []⟩) Q E ⟨h, g, d, t, os⟩ := by
  have hT5 : (⟨h, g, d, t, os⟩ : Shared).TypeIs (.builtin "object.__class__") "getset_descriptor" := F.typeOf_object_class
  have f5 := F.typeOf_object_class
  have f6 := F.slot_gs_get.lookup
  have f7 := F.slot_gs_set.lookup
  have hK' : ∀ {A' : Around} {E' : Value → Shared → Prop} {Q' : Option Value → Shared → Prop} {t' : Nat}, Q' (some (.builtin "object.__class__")) ⟨h, g, d, t', os⟩ → wpAny (model prog w) A' (typeLookup (.ref C) "__class__") Q' E' ⟨h, g, d, t', os⟩ := fun q' => hK _ _ _ _ (fun _ _ e => e) q'
  repeat (any_goals (first | assumption | (with_reducible refine wpAny_loadPart_at hx ?_; rw [hc]) | with_reducible refine hK' ?_ | wp_step))
  refine class_getX hC hcO hx hc ?_
  repeat (any_goals (first | assumption | wp_step))
theorem class_byX {tk : Tok} {Q : Value → Shared → Prop} (hC : h.get? C = some (excClassObj nm q C N bs bm true sn sub ab col dd k0 k1 k2 k3 k5 newId)) (hcB : (Value.ref C :: bm).contains (.type "BaseException") = true) (hcO : (Value.ref C :: bm).contains (.type "object") = true)
    (hG : PySem.W.Looks (model prog w) h (typeLookup (.ref C) "__getattribute__") (some (.builtin "BaseException.__getattribute__"))) (hA : PySem.W.Looks (model prog w) h (typeLookup (.ref C) "__getattr__") none)
    (hK : PySem.W.Looks (model prog w) h (typeLookup (.ref C) "__class__") (some (.builtin "object.__class__"))) (hx : h.get? a = some o) (hc : o.cls = .ref C) (hq : Q (.ref C) ⟨h, g, d, t, os⟩) :
    wpAny (model prog w) A (getAttrBy (.ref a) (.str "__class__" tk) false) Q E ⟨h, g, d, t, os⟩ := by
  have FB := F.attrBase_ValueError
  have f3 := FB.ga.bind (.ref a)
  have hx2 : (Value.builtin "BaseException.__getattribute__" == Value.builtin "object.__getattribute__") = false := by decide +kernel
  have hx1 : (onTheHeap (Value.ref C) && Value.builtin "BaseException.__getattribute__" == Value.builtin "object.__getattribute__") = false := by rw [hx2]; rfl
  have hG' : ∀ {A' : Around} {E' : Value → Shared → Prop} {Q' : Option Value → Shared → Prop} {t' : Nat}, Q' (some (.builtin "BaseException.__getattribute__")) ⟨h, g, d, t', os⟩ → wpAny (model prog w) A' (typeLookup (.ref C) "__getattribute__") Q' E' ⟨h, g, d, t', os⟩ := fun q' => hG _ _ _ _ (fun _ _ e => e) q'
  have hA' : ∀ {A' : Around} {E' : Value → Shared → Prop} {Q' : Option Value → Shared → Prop} {t' : Nat}, Q' none ⟨h, g, d, t', os⟩ → wpAny (model prog w) A' (typeLookup (.ref C) "__getattr__") Q' E' ⟨h, g, d, t', os⟩ := fun q' => hA _ _ _ _ (fun _ _ e => e) q'
  repeat (any_goals (first | assumption | (with_reducible refine wpAny_loadPart_at hx ?_; rw [hc]) | with_reducible refine hG' ?_ | with_reducible refine hA' ?_ | wp_step))
  refine codeAny_call_builtin FB.ga.plain F.entry_bexc_ga (check_gaX hC hcB hx hc (class_entryX hC hcO hK hx hc ?_))
  repeat (any_goals (first | assumption | wp_step))
theorem class_attrX {Q : Option Value → Shared → Prop} (hC : h.get? C = some (excClassObj nm q C N bs bm true sn sub ab col dd k0 k1 k2 k3 k5 newId)) (hcB : (Value.ref C :: bm).contains (.type "BaseException") = true) (hcO : (Value.ref C :: bm).contains (.type "object") = true)
    (hG : PySem.W.Looks (model prog w) h (typeLookup (.ref C) "__getattribute__") (some (.builtin "BaseException.__getattribute__"))) (hA : PySem.W.Looks (model prog w) h (typeLookup (.ref C) "__getattr__") none)
    (hK : PySem.W.Looks (model prog w) h (typeLookup (.ref C) "__class__") (some (.builtin "object.__class__"))) (hx : h.get? a = some o) (hc : o.cls = .ref C) (hq : Q (some (.ref C)) ⟨h, g, d, t + 1, os⟩) :
    wpAny (model prog w) A (getAttr? (.ref a) "__class__") Q E ⟨h, g, d, t, os⟩ := by
  unfold getAttr? getAttrBy?
  repeat (any_goals (first | assumption | with_reducible apply class_byX hC hcB hcO hG hA hK hx hc | wp_step))
end
end L2

namespace L2
open PySem PySem.Spec PyProof.Rows
abbrev bmV : List Value := [.type "ValueError", .type "Exception", .type "BaseException", .type "object"]
structure ClsX (K : PySem.W.Frag) (C CA : Addr) : Prop where
  obj : ∃ (nm q : Str) (N : Addr) (bs : List Value) (sn : List Str) (sub : List Value) (ab : Bool) (col : Option Bool) (dd : Option Addr) (k0 k1 k2 k3 k5 : Option Value), K.lookup C = some (excClassObj nm q C N bs (.ref CA :: bmV) true sn sub ab col dd k0 k1 k2 k3 k5 "ValueError.__new__")
  set : PySem.W.findIn K (.ref C) "__setattr__" = some (some (.builtin "object.__setattr__"))
  ga : PySem.W.findIn K (.ref C) "__getattribute__" = some (some (.builtin "BaseException.__getattribute__"))
  gt : PySem.W.findIn K (.ref C) "__getattr__" = some none
  cl : PySem.W.findIn K (.ref C) "__class__" = some (some (.builtin "object.__class__"))
section
variable {C CA : Addr}
theorem cX_val : (Value.ref C :: .ref CA :: bmV).contains (.type "ValueError") = true := by simp [bmV]
theorem cX_base : (Value.ref C :: .ref CA :: bmV).contains (.type "BaseException") = true := by simp [bmV]
theorem cX_obj : (Value.ref C :: .ref CA :: bmV).contains (.type "object") = true := by simp [bmV]
theorem cX_attr : (Value.ref C :: .ref CA :: bmV).contains (.type "AttributeError") = false := by
  rw [List.contains_cons, List.contains_cons]
  rfl
theorem cX_name : (Value.ref C :: .ref CA :: bmV).contains (.type "NameError") = false := by
  rw [List.contains_cons, List.contains_cons]
  rfl
theorem pass_X (self : Value) : refuseLoop self "__setattr__" (.ref C :: .ref CA :: bmV) = pure () := by
  rw [refuseLoop_ref, refuseLoop_ref]
  exact PySem.F.store_ValueError.passes self
theorem ClsX.mk' {K : PySem.W.Frag} {f : Addr} (c : ClsX K C CA) (init : PySem.W.findIn K (.ref C) "__init__" = some (some (.ref f))) (fn : ∃ o, K.lookup f = some o ∧ o.cls = .type "function") (kp : PySem.W.keepIn K (.ref C) = true) : MkX K C f := by
  obtain ⟨nm, q, N, bs, sn, sub, ab, col, dd, k0, k1, k2, k3, k5, lk⟩ := c.obj
  exact ⟨⟨nm, q, N, bs, _, _, sn, sub, ab, col, dd, k0, k1, k2, k3, k5, lk, cX_val, cX_attr, cX_name⟩, init, fn, kp⟩
end
/-- an exception with its dict -/
def XAt (H : Hp) (e C dx : Addr) : Prop := H e = some (ExcD C e dx) ∨ H e = some (ExcT C e dx)
theorem XAt.get {P : Program} {w : World} {H : Hp} {h : Heap} {e C dx : Addr} (x : HOk P w H h) (he : XAt H e C dx) : ∃ vs, h.get? e = some (excObj C (some dx) vs) := by
  rcases he with he | he
  · obtain ⟨o, ho, a, rfl⟩ := ObP.get x he
    exact ⟨_, ho⟩
  · obtain ⟨o, ho, vs, rfl, _⟩ := ObP.get x he
    exact ⟨_, ho⟩
section
variable {X : Cx} {pins : List (Addr × Obj)} {σ : St} {H : Hp} {s : Shared} {h' : Heap} {e dx : Addr} {φ : Heap → Prop} {o1 o2 : HO}
theorem Inv.ext2 {t' : Nat} (I : Inv X pins σ H s) (he : H e = some (.ext φ)) (hp : s.heap.objs.size ≤ dx) (k : ∀ b u, b ≠ e → s.heap.get? b = some u → h'.get? b = some u) (heo : ∃ u, h'.get? e = some u)
    (n1 : ObjOk X.prog X.w (upd (upd H dx o1) e o2) h' dx o1) (n2 : ObjOk X.prog X.w (upd (upd H dx o1) e o2) h' e o2) : Inv X pins σ (upd (upd H dx o1) e o2) { s with heap := h', toks := t' } := by
  have hdn : H dx = none := I.hok.fresh hp
  have ne : ∀ b u, H b = some u → (∀ ψ, u ≠ .ext ψ) → b ≠ e ∧ b ≠ dx := fun b u hb hu => ⟨fun z => by rw [z, he] at hb; cases hb; exact hu _ rfl, ne_of_none hb hdn⟩
  have old : ∀ b, b ≠ e → b ≠ dx → upd (upd H dx o1) e o2 b = H b := fun b h1 h2 => by rw [upd_ne h1, upd_ne h2]
  have fr : ∀ b u, s.heap.get? b = some u → b ≠ dx := fun b u q => Nat.ne_of_lt (Nat.lt_of_lt_of_le (Heap.lt_size q) hp)
  have nn : ∀ b, H b = none → b ≠ e := fun b n z => by rw [z, he] at n; cases n
  refine I.un ⟨fun b u q n _ _ => k b u (nn b n) q, fun b u q n _ _ => ⟨u.slots, k b u (nn b n) q⟩, fun b u q n _ => ?_, fun b u q _ => ?_, fun b xs q => ?_, fun b u xs q => ?_, fun b ps q => ⟨#[], ?_⟩⟩ fun b u q => ?_
  · rw [old b (nn b n) (fr b u q)]
    exact n
  · by_cases hb : b = e
    · rw [hb]; exact heo
    · exact ⟨u, k b u hb q⟩
  · obtain ⟨h1, h2⟩ := ne b _ q (fun ψ z => by cases z)
    rw [old b h1 h2]
    exact q
  · obtain ⟨h1, h2⟩ := ne b _ q (fun ψ z => by cases z)
    rw [old b h1 h2]
    exact q
  · obtain ⟨h1, h2⟩ := ne b _ q (fun ψ z => by cases z)
    rw [old b h1 h2, q]
    simp
  · by_cases hb : b = e
    · subst hb
      rw [upd_same] at q
      cases q
      exact n2
    · by_cases hb2 : b = dx
      · subst hb2
        rw [upd_ne hb, upd_same] at q
        cases q
        exact n1
      · rw [old b hb hb2] at q
        refine (I.hok b u q).stay (fun c v hc r => k c v ?_ r) (fun c r => ?_) fun c xs r => ?_
        · rcases hc with rfl | hc
          · exact hb
          · exact (ne c _ hc (fun ψ z => by cases z)).1
        · obtain ⟨h1, h2⟩ := ne c _ r (fun ψ z => by cases z)
          rw [old c h1 h2]
          exact r
        · obtain ⟨h1, h2⟩ := ne c _ r (fun ψ z => by cases z)
          rw [old c h1 h2]
          exact r
end
section
variable {X : Cx} {o e value : Expr} {f : Str} {pos pos' tpos : Pos} {ta tv : TE}
/-- self.f = value, the first name that an exception gets -/
theorem ps_fldX (ha : PE X o ta) (hv : PE X value tv) (hs : swapsWith value (some (.Attribute o f pos')) pos.line X.env = pure false) :
    PS X (.Assign [.Attribute o f pos'] value pos) (fun D σ H => tv σ H fun y H1 => ta σ H1 fun x H2 => ∃ e C CA, x = .ref e ∧ H2 e = some (ExcN C e) ∧ ClsX X.K C CA ∧ NoAttr X.K C f ∧ ∀ dx, H2 dx = none → dx ≠ e → D.nx σ (upd (upd H2 dx (.xd [(f, y)])) e (ExcD C e dx))) := by
  intro pins s σ H D I h
  refine plainObj_wpAny_Assign_Attribute (thn (hv pins s σ H _ I h) fun u s1 ⟨y, H1, I1, ry, q⟩ => thn (ha pins s1 σ H1 _ I1 q) fun ov s2 ⟨x, H2, I2, rx, e, C, CA, ex, he, c, n, q2⟩ => ?_) hs
  subst ex
  obtain rfl : ov = Value.ref e := rx
  obtain ⟨nm, qn, N, bs, sn, sub, ab, col, dd, k0, k1, k2, k3, k5, lk⟩ := c.obj
  obtain ⟨ob, ho, a, rfl⟩ := ObP.get I2.hok he
  obtain ⟨hh, g, d, tk, os⟩ := s2
  refine store_attrX PySem.F.store_ValueError cX_obj (pass_X _) (I2.kIn _ _ lk) (PySem.W.looks_findIn I2.kIn c.set) (PySem.W.looks_findIn I2.kIn n) ho rfl rfl (fun _ z => by cases z) fun h' tk' i1 i2 i3 => ?_
  have hd : H2 hh.objs.size = none := I2.hok.fresh (Nat.le_refl _)
  have hde : hh.objs.size ≠ e := fun z => by rw [z, he] at hd; cases hd
  refine ⟨σ, _, I2.ext2 (t' := tk') (dx := hh.objs.size) (e := e) (o1 := .xd [(f, y)]) (o2 := ExcD C e hh.objs.size) he (Nat.le_refl _) (fun b u hb q => i3 b u hb q) ⟨_, i1⟩ ⟨_, i2, fun z => ?_⟩ (ObP.ok i1 ⟨a, rfl⟩), q2 _ hd hde⟩
  by_cases hz : z = f
  · subst hz
    rw [if_pos rfl, show ([(z, y)] : List (Str × V)).lookup z = some y by simp [List.lookup]]
    exact ry
  · rw [if_neg hz]
    have : ([(f, y)] : List (Str × V)).lookup z = none := by
      have hb : (z == f) = false := beq_eq_false_iff_ne.mpr hz
      simp only [List.lookup, hb]
    rw [this]
    trivial
/-- e.f of an exception -/
theorem pe_fldX (he : PE X e ta) (hb : attributeBase e f X.env (eval e X.env) = eval e X.env) : PE X (.Attribute e f pos) (fun σ H Q => ta σ H fun x H1 => ∃ a C CA dx fs v, x = .ref a ∧ XAt H1 a C dx ∧ H1 dx = some (.xd fs) ∧ fs.lookup f = some v ∧ ClsX X.K C CA ∧ NoAttr X.K C f ∧ Q v H1) := by
  intro pins s σ H Q I h
  refine attr_of hb (thn (he pins s σ H _ I h) fun u s1 ⟨x, H1, I1, rx, a, C, CA, dx, fs, v, ex, ea, ed, l, c, n, q⟩ => ?_)
  subst ex
  obtain rfl : u = Value.ref a := rx
  obtain ⟨nm, qn, N, bs, sn, sub, ab, col, dd, k0, k1, k2, k3, k5, lk⟩ := c.obj
  obtain ⟨vs, ho⟩ := XAt.get I1.hok ea
  obtain ⟨mA, hn, r⟩ := I1.hok dx _ ed
  obtain ⟨u, hu, ru⟩ := RelO.some_of (v := v) (o := mA f) (by rw [← l]; exact r f)
  obtain ⟨hh, g, d, tk, os⟩ := s1
  unfold getAttr
  refine wpAny_bind (wpAny_mkText ?_)
  exact load_byX (I1.kIn _ _ lk) cX_base (PySem.W.looks_findIn I1.kIn c.ga) (PySem.W.looks_findIn I1.kIn c.gt) (PySem.W.looks_findIn I1.kIn n) ho rfl rfl (fun _ z => by cases z) hn.ns hu (handed_of ru) ⟨v, H1, I1.tok _, ru, q⟩
end
end L2

namespace L2
open PySem PySem.Spec PyProof.Rows
theorem kitxX {K : PySem.W.Frag} {e C CA dx : Addr} (c : ClsX K C CA) : PySem.W.KitX K (.ref e) (.ref C) (fun h => ∃ vs, h.get? e = some (excObj C (some dx) vs)) where
  ty := fun M h _ ⟨vs, hx⟩ => (PySem.W.Looks.ld hx).andThen .now
  it := fun M h X _ => by
    obtain ⟨nm, q, N, bs, sn, sub, ab, col, dd, k0, k1, k2, k3, k5, lk⟩ := c.obj
    intro A' Q' E' s' k q
    unfold isType loadHead
    exact wpAny_bind (wpAny_loadPart (k _ _ (X _ _ lk)) (wpAny_pure q))
  ne := fun h tp dd' its n sl X htp => by
    obtain ⟨nm, q, N, bs, sn, sub, ab, col, dd, k0, k1, k2, k3, k5, lk⟩ := c.obj
    refine Bool.eq_false_iff.mpr fun z => ?_
    have e : C = tp := Value.ref.inj (beq_iff_eq.mp z)
    subst e
    have z := congrArg Obj.data (Option.some.inj ((X _ _ lk).symm.trans htp))
    exact Data.noConfusion z
  ca := fun {prog w A E Q s} X ⟨vs, hx⟩ k => by
    obtain ⟨nm, q, N, bs, sn, sub, ab, col, dd, k0, k1, k2, k3, k5, lk⟩ := c.obj
    obtain ⟨hh, g, d, tk, os⟩ := s
    exact class_attrX (X _ _ lk) cX_base cX_obj (PySem.W.looks_findIn X c.ga) (PySem.W.looks_findIn X c.gt) (PySem.W.looks_findIn X c.cl) hx rfl k
section
variable {X : Cx}
/-- isinstance(e, c), e an exception; c one class, or a tuple of classes -/
def rIsiX (K : PySem.W.Frag) : List V → Hp → VK → Prop := fun xs H Q => ∃ e C CA dx c b, xs = [.ref e, c] ∧ XAt H e C dx ∧ ClsX K C CA ∧
  ((∃ D, c = .ref D ∧ PySem.W.kitOne K (.ref C) (.ref D) = some b) ∨ (∃ T, c = .ty T ∧ PySem.W.kitOne K (.ref C) (.type T) = some b) ∨ ∃ (tp : Addr) (Ds : List Addr), c = .ref tp ∧ H tp = some (.tup (Ds.map V.ref)) ∧ PySem.W.kitAny K (.ref C) (Ds.map Value.ref) = some b) ∧ Q (.bl b) H
theorem vals_refsX {cs : List Addr} {us : List Value} (h : Vals (cs.map V.ref) us) : us = cs.map Value.ref := by
  induction cs generalizing us with
  | nil => cases h; rfl
  | cons a r ih =>
    cases h with
    | cons r1 r2 =>
      cases r1
      rw [ih r2]
      rfl
theorem call_isiX : CallR X (.builtin "isinstance") (rIsiX X.K) := by
  intro pins s σ H xs us Q I r h
  obtain ⟨e, C, CA, dx, c, b, rfl, ea, cl, hk, q⟩ := h
  cases r with
  | cons r rr =>
    cases rr with
    | cons r' rr =>
      cases rr
      cases r
      have ho := XAt.get I.hok ea
      have fin : ∀ tk, EP X pins σ Q (.bool b) { s with toks := tk } := fun tk => ⟨.bl b, H, I.tok _, rfl, q⟩
      rcases hk with ⟨D, rfl, hk⟩ | ⟨T, rfl, hk⟩ | ⟨tp, Ds, rfl, ht, hk⟩
      · cases r'
        exact PySem.W.kia_one (kitxX cl) I.kIn ho hk (fun z => nomatch z) fin
      · cases r'
        exact PySem.W.kia_one (kitxX cl) I.kIn ho hk (fun z => nomatch z) fin
      · cases r'
        obtain ⟨_, its, rv, ⟨⟨cls, dd, data, sl⟩, h1, h2, n, h3⟩, _⟩ := I.hok tp _ ht
        simp only at h2 h3
        subst h2 h3
        have := vals_refsX rv
        subst this
        exact PySem.W.kia_tup (kitxX cl) I.kIn ho h1 hk (fun z => nomatch z) fin
end
end L2

namespace L2
open PySem PySem.Spec PyProof.Rows
section
variable {X : Cx}
/-- int, text, None in an f-string -/
def FmV (v : V) (y : Str) : Prop := (∃ i : Int, v = .int i ∧ i.natAbs.log2 < 1920 ∧ y = toString i) ∨ v = .str y ∨ (v = .non ∧ y = "None")
theorem pe_fmtV {e : Expr} {te : TE} {pos : Pos} (he : PE X e te) : PE X (.FormattedValue e (-1) none pos) (fun σ H Q => te σ H fun v H1 => ∃ y, FmV v y ∧ y.length ≤ sizeLine ∧ Q (.str y) H1) := by
  intro pins s σ H Q I h
  refine FormattedValue_plain (thn (he pins s σ H _ I h) fun v s1 ⟨x, H1, I1, r1, y, ex, hz, q⟩ => ?_)
  rcases ex with ⟨i, rfl, hl, rfl⟩ | rfl | ⟨rfl, rfl⟩
  · obtain ⟨t', rfl⟩ := r1
    exact formatField_int_small hl ⟨.str (toString i), H1, I1.tok _, ⟨_, rfl⟩, q⟩
  · obtain ⟨t', rfl⟩ := r1
    exact formatField_str (fun t'' tk => ⟨.str y, H1, I1.tok _, ⟨_, rfl⟩, q⟩) hz
  · obtain rfl : v = Value.none := r1
    exact PySem.wpAny_formatField_none ⟨.str "None", H1, I1.tok _, ⟨_, rfl⟩, q⟩
end
/-- a def with defaults dV -/
structure FunD (K : PySem.W.Frag) (x qual : Str) (st : Stmt) (f : Addr) (fd : FuncData) (dV : Value) : Prop where
  ex : ∃ (oc : Value) (od : Option Addr) (kV doc pm : Value) (an : Option Addr) (cdv ct : Value) (osl : Array (Option Value)),
    fd = PySem.W.fnOf x qual (defArgs st) (defBody st) (defScope st) dV kV doc pm an cdv ct ∧ K.lookup f = some ⟨oc, od, .func fd, osl⟩ ∧ PySem.W.codeIn K cdv qual = true
  kp : PySem.W.keepIn K (.ref f) = true
section
variable {P : Program} {w : World} {K : PySem.W.Frag} {mg : Str → Option Value} {base : Heap} {dV : Value}
theorem FunD.ok {x qual : Str} {st : Stmt} {f : Addr} {fd : FuncData} {N ps : List Str} {k : Nat} {sp : Sp} (F : FunD K x qual st f fd dV) (S : FnScope N ps (defScope st)) (len : ∀ vs H Q E, sp vs H Q E → vs.length = ps.length)
    (hbody : ∀ (cdv : Value) (A : Around) (outer : List Env) (s : Shared) (H : Hp) (vs : List V) (Q : VK) (E : XK), Room k (A.deeper (envOfC qual (defScope st) s.heap.objs.size f cdv)) → sp vs H Q E →
      ∃ t, PSs (cxOf CX0 P w K mg base N qual (defScope st) f cdv A outer s H E).nox (defBody st) t ∧ t { nx := fun _ H' => Q .non H', rt := Q } (start N vs) H) : FnOk P w K mg base CX0 (k + 1) f fd ps sp := by
  obtain ⟨oc, od, kV, doc, pm, an, cdv, ct, osl, rfl, lk, hcd⟩ := F.ex
  refine fn_of lk hcd S len fun A outer s H vs Q E hr hsp => ?_
  obtain ⟨t, h, q⟩ := hbody cdv A outer s H vs Q E hr hsp
  exact ⟨t, h.nox, q⟩
theorem funD_mk {x qual : Str} {st : Stmt} {f : Addr} {oc : Value} {od an : Option Addr} {osl : Array (Option Value)} {kV doc pm cdv ct : Value} (l : K.lookup f = some ⟨oc, od, .func (PySem.W.fnOf x qual (defArgs st) (defBody st) (defScope st) dV kV doc pm an cdv ct), osl⟩)
    (c : PySem.W.codeIn K cdv qual = true) (k : PySem.W.keepIn K (.ref f) = true) : FunD K x qual st f (PySem.W.fnOf x qual (defArgs st) (defBody st) (defScope st) dV kV doc pm an cdv ct) dV := ⟨⟨oc, od, kV, doc, pm, an, cdv, ct, osl, rfl, l, c⟩, k⟩
theorem Fun.toD {x qual : Str} {st : Stmt} {f : Addr} {fd : FuncData} (F : Fun K x qual st f fd) : FunD K x qual st f fd .none := ⟨F.ex, F.kp⟩
end
/-! ### isinstance among classes under one class -/
section
variable {K : PySem.W.Frag} {C D CA : Addr}
theorem ClsX.isCls (d : ClsX K D CA) : ((PySem.W.clsIn K D).isSome && PySem.W.typeIn K (.ref D) == some (.type "type")) = true := by
  obtain ⟨nm, q, N, bs, sn, sub, ab, col, dd, k0, k1, k2, k3, k5, lk⟩ := d.obj
  unfold PySem.W.clsIn PySem.W.typeIn
  rw [lk]
  simp
  exact ⟨_, lk, rfl⟩
theorem ClsX.sub (c : ClsX K C CA) (b : Value) : PySem.W.subIn K (.ref C) b = some ((Value.ref C :: .ref CA :: bmV).contains b) := by
  obtain ⟨nm, q, N, bs, sn, sub, ab, col, dd, k0, k1, k2, k3, k5, lk⟩ := c.obj
  show PySem.W.mroIn K C b = _
  unfold PySem.W.mroIn PySem.W.clsIn
  rw [lk]
  rfl
theorem kit_is (c : ClsX K C CA) (d : ClsX K D CA) (hA : D ≠ CA) : PySem.W.kitOne K (.ref C) (.ref D) = some (D == C) := by
  unfold PySem.W.kitOne
  by_cases e : D = C
  · subst e
    rw [if_pos (by simp)]
    simp
  · rw [if_neg (by simpa using fun z => e z.symm)]
    show (if _ then PySem.W.subIn K (.ref C) (.ref D) else none) = _
    rw [if_pos d.isCls, c.sub]
    simp [bmV, e, hA]
theorem kit_val (c : ClsX K C CA) : PySem.W.kitOne K (.ref C) (.type "ValueError") = some true := by
  unfold PySem.W.kitOne
  rw [if_neg (by simp)]
  show (if PySem.W.kitMeta "ValueError" = true then PySem.W.subIn K (.ref C) (.type "ValueError") else none) = _
  rw [if_pos (by decide +kernel), c.sub]
  simp [bmV]
end
/-- an exception as it stands: its class, its one name and that name's value -/
def Ex (H : Hp) (e C : Addr) (f : Str) (v : V) : Prop := ∃ dx, H e = some (ExcD C e dx) ∧ H dx = some (.xd [(f, v)])
end L2

namespace L2
open PySem PySem.Spec PyProof.Rows
/-! ### an exception that flies: its note in each frame -/
/-- an exception of the class at C that is not noted, or whose last note is whole -/
def Fly (h : Heap) (e C dx : Addr) : Prop := ∃ vs, h.get? e = some (excObj C (some dx) vs) ∧ vs.size = 6 ∧ (vs[1]? = some .none ∨ ∃ T oT ts, vs[1]? = some (.ref T) ∧ T ≠ e ∧ h.get? T = some oT ∧ oT.data = .fields ts ∧ ts[3]? = some .none)
/-- behind a note: the frames' slots and the exception alone have changed -/
structure Lft (fs : List Addr) (e : Addr) (h h' : Heap) : Prop where
  keep : ∀ b o, h.get? b = some o → b ∉ fs → b ≠ e → h'.get? b = some o
  slot : ∀ b o, h.get? b = some o → b ≠ e → ∃ sl, h'.get? b = some { o with slots := sl }
section
variable {M : Model} {A : Around} {E : Value → Shared → Prop} {s : Shared}
theorem newEntryX {base : Heap} {env : Env} {outer : List Env} {L e C dx : Addr} {vs : Array Value} {head : Value} {hadNext : Bool} {Q : Unit → Shared → Prop}
    (hfr : A.frames = some (env :: outer)) (hl : s.heap.FunFrames base (env :: outer)) (hf : env.frame = some L)
    (he : s.heap.get? e = some (excObj C (some dx) vs)) (hsz : vs.size = 6)
    (h : ∀ h', Lft ((env :: outer).filterMap (·.frame)) e s.heap h' → Fly h' e C dx → Q () { s with heap := h' }) :
    wpAny M A (do let a ← frameOf env; let pl ← entryPlaceOf L hadNext; let b ← EntryCells.newEntry head a .none (rawInt L) .none pl; setField (.ref e) 1 b) (fun _ s' => wpAny M A (setFlight (.ref e) none) Q E s') E s := by
  have hd : (excObj C (some dx) vs).data = .fields vs := rfl
  have hs1 : 1 < vs.size := by omega
  have hene : e ∉ (env :: outer).filterMap (·.frame) := fun hm => by
    obtain ⟨_, o, ho, hnf⟩ := hl.mem hm
    rw [he] at ho; injection ho with ho; subst ho; exact hnf vs hd
  refine wpAny_bind (wpAny_frameOf_fun hfr hl hf fun h₁ hs₁ => ?_)
  refine wpAny_bind (wpAny_entryPlaceOf fun pl hpl => ?_)
  unfold EntryCells.newEntry newFields
  refine wpAny_bind (wpAny_newObj_type ?_ (hpl.sizeOk5 _ _ _ _ _))
  have he₁ : h₁.get? e = some (excObj C (some dx) vs) := (hs₁.2.1 e hene).trans he
  have he₂ := Heap.get?_push_of_some (h := h₁) { cls := .type "traceback", dict := none, data := .fields ([head, .ref L, .none, rawInt L, .none] ++ (if pl.isEmpty then List.replicate 6 Value.none else pl)).toArray } he₁
  refine wpAny_setField he₂ hd hs1 ?_
  have hTe : h₁.objs.size ≠ e := Nat.ne_of_gt (Heap.lt_size he₁)
  have hd₃ := Obj.data_mapFields hd (·.setIfInBounds 1 (Value.ref h₁.objs.size))
  have he₃ := Heap.get?_update_self (Obj.mapFields (·.setIfInBounds 1 (Value.ref h₁.objs.size))) he₂ (Obj.isFreed_of_fields hd₃)
  have hT₃ := (Heap.get?_update_other (h₁.push { cls := .type "traceback", dict := none, data := .fields ([head, .ref L, .none, rawInt L, .none] ++ (if pl.isEmpty then List.replicate 6 Value.none else pl)).toArray })
    (Obj.mapFields (·.setIfInBounds 1 (Value.ref h₁.objs.size))) (Ne.symm hTe)).trans (Heap.get?_push_size h₁ rfl)
  unfold setFlight
  refine wpAny_bind (wpAny_field he₃ hd₃ (x := .ref h₁.objs.size) (by simp [hs1]) ?_)
  rw [if_pos (show (Value.ref h₁.objs.size != Value.none) = true from by simp)]
  refine wpAny_setField hT₃ rfl (by simp only [List.size_toArray, List.length_append, List.length_cons, List.length_nil] <;> omega) ?_
  have keep : ∀ b o, b ≠ e → h₁.get? b = some o →
      (((h₁.push { cls := .type "traceback", dict := none, data := .fields ([head, .ref L, .none, rawInt L, .none] ++ (if pl.isEmpty then List.replicate 6 Value.none else pl)).toArray }).update e (Obj.mapFields (·.setIfInBounds 1 (Value.ref h₁.objs.size)))).update h₁.objs.size
        (Obj.mapFields (·.setIfInBounds 3 ((none : Option Addr).elim Value.none fun f => rawInt f)))).get? b = some o := fun b o hbe hb => by
    have hbT : h₁.objs.size ≠ b := Nat.ne_of_gt (Heap.lt_size hb)
    rw [Heap.get?_update_other _ _ hbT, Heap.get?_update_other _ _ (Ne.symm hbe)]
    exact Heap.get?_push_of_some _ hb
  refine h _ ⟨fun b o hb hn hbe => keep b o hbe ((hs₁.2.1 b hn).trans hb), fun b o hb hbe => ?_⟩ ⟨vs.setIfInBounds 1 (.ref h₁.objs.size), ?_, ?_, .inr ⟨h₁.objs.size, _, _, ?_, hTe, Heap.get?_update_self _ hT₃ (Obj.isFreed_of_fields (Obj.data_mapFields rfl _)), Obj.data_mapFields rfl _, ?_⟩⟩
  · obtain ⟨sl, hs⟩ := hs₁.2.2 b o hb
    exact ⟨sl, keep b _ hbe hs⟩
  · rw [Heap.get?_update_other _ _ hTe]
    exact he₃
  · simp [hsz]
  · simp [hs1]
  · first | (simp; done) | (rcases hpl with rfl | ⟨_, _, _, _, _, _, _, rfl⟩ <;> simp)
theorem set_same {ts : Array Value} {i : Nat} {v : Value} (h : ts[i]? = some v) : ts.setIfInBounds i v = ts := by
  obtain ⟨hi, e⟩ := Array.getElem?_eq_some_iff.mp h
  refine Array.ext (by simp) fun j h1 h2 => ?_
  rw [Array.getElem_setIfInBounds]
  · by_cases hj : i = j
    · subst hj
      rw [if_pos rfl, ← e]
    · rw [if_neg hj]
theorem note_run {base : Heap} {env : Env} {outer : List Env} {L e C dx : Addr} {Q : Unit → Shared → Prop}
    (hfr : A.frames = some (env :: outer)) (hl : s.heap.FunFrames base (env :: outer)) (hf : env.frame = some L) (he : Fly s.heap e C dx)
    (h : ∀ h', Lft ((env :: outer).filterMap (·.frame)) e s.heap h' → Fly h' e C dx → Q () { s with heap := h' }) :
    wpAny M A (noteFrame (.ref e) env) (fun _ s' => wpAny M A (setFlight (.ref e) none) Q E s') E s := by
  obtain ⟨vs, he, hz, hv⟩ := he
  have hd : (excObj C (some dx) vs).data = .fields vs := rfl
  unfold noteFrame
  simp only [hf]
  rcases hv with h1 | ⟨T, oT, ts, h1, hTe, hT, hdT, h3⟩
  · refine wpAny_bind (wpAny_field he hd h1 ?_)
    rw [if_neg (by decide)]
    exact newEntryX hfr hl hf he hz h
  · refine wpAny_bind (wpAny_field he hd h1 ?_)
    rw [if_pos (show (Value.ref T != Value.none) = true from by simp)]
    refine wpAny_bind (wpAny_field hT hdT h3 ?_)
    rw [if_neg (show ¬ ((Value.none == rawInt L) = true) from by simp [rawInt])]
    refine wpAny_bind (wpAny_setField hT hdT (Array.getElem?_eq_some_iff.mp h3).1 ?_)
    have id : ∀ b o, s.heap.get? b = some o → (s.heap.update T (Obj.mapFields (·.setIfInBounds 3 Value.none))).get? b = some o := fun b o hb => by
      by_cases hbT : b = T
      · subst hbT
        rw [hT] at hb
        cases hb
        have hm : Obj.mapFields (·.setIfInBounds 3 Value.none) oT = oT := by
          obtain ⟨c, d, dt, sl⟩ := oT
          cases hdT
          show ({ cls := c, dict := d, data := .fields (ts.setIfInBounds 3 Value.none), slots := sl } : Obj) = _
          rw [set_same h3]
        have := Heap.get?_update_self (Obj.mapFields (·.setIfInBounds 3 Value.none)) hT (by rw [hm]; exact (Heap.get?_some_iff.mp hT).2)
        rw [this, hm]
      · rw [Heap.get?_update_other _ _ (Ne.symm hbT)]
        exact hb
    refine newEntryX (s := { s with heap := _ }) hfr (hl.of_keeps fun b o hb _ => ⟨o, id b o hb, rfl⟩) hf (id _ _ he) hz fun h' x1 x2 => h h' ⟨fun b o hb hn hbe => x1.keep b o (id b o hb) hn hbe, fun b o hb hbe => x1.slot b o (id b o hb) hbe⟩ x2
theorem leave_run {base : Heap} {env : Env} {outer : List Env} {L e C dx : Addr} {Q : Unit → Shared → Prop}
    (hfr : A.frames = some (env :: outer)) (hl : s.heap.FunFrames base (env :: outer)) (hf : env.frame = some L) (he : Fly s.heap e C dx)
    (h : ∀ h', Lft ((env :: outer).filterMap (·.frame)) e s.heap h' → Fly h' e C dx → Q () { s with heap := h' }) : wpAny M A (leaving env (.ref e)) Q E s := by
  unfold leaving
  exact wpAny_bind (note_run hfr hl hf he h)
/-- setFlight(e, none) of a noted exception changes nothing that is seen -/
theorem flight_run {e C dx : Addr} {Q : Unit → Shared → Prop} (he : Fly s.heap e C dx) (h : ∀ h', (∀ b o, s.heap.get? b = some o → h'.get? b = some o) → Q () { s with heap := h' }) : wpAny M A (setFlight (.ref e) none) Q E s := by
  obtain ⟨vs, he, hz, hv⟩ := he
  have hd : (excObj C (some dx) vs).data = .fields vs := rfl
  unfold setFlight
  rcases hv with h1 | ⟨T, oT, ts, h1, hTe, hT, hdT, h3⟩
  · refine wpAny_bind (wpAny_field he hd h1 ?_)
    rw [if_neg (by decide)]
    exact wpAny_pure (h s.heap fun _ _ q => q)
  · refine wpAny_bind (wpAny_field he hd h1 ?_)
    rw [if_pos (show (Value.ref T != Value.none) = true from by simp)]
    refine wpAny_setField hT hdT (Array.getElem?_eq_some_iff.mp h3).1 (h _ fun b o hb => ?_)
    show (s.heap.update T (Obj.mapFields (·.setIfInBounds 3 Value.none))).get? b = some o
    by_cases hbT : b = T
    · subst hbT
      rw [hT] at hb
      cases hb
      have hm : Obj.mapFields (·.setIfInBounds 3 Value.none) oT = oT := by
        obtain ⟨c, d, dt, sl⟩ := oT
        cases hdT
        show ({ cls := c, dict := d, data := .fields (ts.setIfInBounds 3 Value.none), slots := sl } : Obj) = _
        rw [set_same h3]
      have := Heap.get?_update_self (Obj.mapFields (·.setIfInBounds 3 Value.none)) hT (by rw [hm]; exact (Heap.get?_some_iff.mp hT).2)
      rw [this, hm]
    · rw [Heap.get?_update_other _ _ (Ne.symm hbT)]
      exact hb
end
end L2

namespace L2
open PySem PySem.Spec PyProof.Rows
section
variable {P : Program} {w : World} {H : Hp} {h h' : Heap} {fs : List Addr} {e C dx : Addr} {φ : Heap → Prop}
theorem Fly.ofD (x : HOk P w H h) (he : H e = some (ExcD C e dx)) : Fly h e C dx := by
  obtain ⟨o, ho, a, rfl⟩ := ObP.get x he
  exact ⟨_, ho, rfl, .inl rfl⟩
theorem lft_un (l : Lft fs e h h') (he : H e = some (.ext φ)) (fl : Fly h' e C dx) : Un fs [] H (upd H e (ExcT C e dx)) h h' := by
  have nn : ∀ b, H b = none → b ≠ e := fun b n z => by rw [z, he] at n; cases n
  have ne : ∀ b u, H b = some u → (∀ ψ, u ≠ .ext ψ) → b ≠ e := fun b u hb hu z => by rw [z, he] at hb; cases hb; exact hu _ rfl
  refine ⟨fun b o q n hb _ => l.keep b o q hb (nn b n), fun b o q n _ _ => l.slot b o q (nn b n), fun b o _ n _ => by rw [upd_ne (nn b n)]; exact n, fun b o q _ => ?_, fun b xs q => ?_, fun b o u q => ?_, fun b ps q => ⟨#[], ?_⟩⟩
  · by_cases hb : b = e
    · obtain ⟨vs, h1, _⟩ := fl
      exact ⟨_, by rw [hb]; exact h1⟩
    · obtain ⟨sl, h1⟩ := l.slot b o q hb
      exact ⟨_, h1⟩
  · rw [upd_ne (ne b _ q fun ψ z => by cases z)]
    exact q
  · rw [upd_ne (ne b _ q fun ψ z => by cases z)]
    exact q
  · rw [upd_ne (ne b _ q fun ψ z => by cases z), q]
    simp
theorem lft_hok (x : HOk P w H h) (l : Lft fs e h h') (hfs : ∀ b ∈ fs, H b = none) (he : H e = some (.ext φ)) (fl : Fly h' e C dx) : HOk P w (upd H e (ExcT C e dx)) h' := by
  have ne : ∀ b u, H b = some u → (∀ ψ, u ≠ .ext ψ) → b ≠ e := fun b u hb hu z => by rw [z, he] at hb; cases hb; exact hu _ rfl
  have nf : ∀ b u, H b = some u → b ∉ fs := fun b u hb z => by rw [hfs b z] at hb; cases hb
  intro b u q
  by_cases hb : b = e
  · subst hb
    rw [upd_same] at q
    cases q
    obtain ⟨vs, h1, h2, _⟩ := fl
    exact ObP.ok h1 ⟨vs, rfl, h2⟩
  · rw [upd_ne hb] at q
    refine (x b u q).stay (fun c v hc r => ?_) (fun c r => ?_) fun c xs r => ?_
    · rcases hc with rfl | hc
      · exact l.keep _ _ r (nf _ _ q) hb
      · exact l.keep _ _ r (nf _ _ hc) (ne _ _ hc fun ψ z => by cases z)
    · rw [upd_ne (ne _ _ r fun ψ z => by cases z)]
      exact r
    · rw [upd_ne (ne _ _ r fun ψ z => by cases z)]
      exact r
end
/-- how an exception of one's own lies behind a call -/
def CXr (P : Program) (w : World) : CXT := fun outer H s E e s' => ∃ e0 C dx H', e = .ref e0 ∧ s'.os = s.os ∧ AllBare s'.gens ∧ Un (frs outer) [] H H' s.heap s'.heap ∧ HOk P w H' s'.heap ∧ H' e0 = some (ExcT C e0 dx) ∧ Fly s'.heap e0 C dx ∧ E (.ref e0) (some dx) H'
section
variable {P : Program} {w : World} {K : PySem.W.Frag} {mg : Str → Option Value} {base : Heap} {N : List Str} {qual : Str} {scope : Scope} {f : Addr} {cd : Value} {A : Around} {outer : List Env} {s s1 : Shared} {H H1 : Hp} {E : XK} {pins : List (Addr × Obj)} {σ : St} {e C dx : Addr} {φ : Heap → Prop}
theorem xe_fly (I : Inv (cxOf (CXr P w) P w K mg base N qual scope f cd A outer s H E) pins σ H1 s1) (he : H1 e = some (.ext φ)) (fl : Fly s1.heap e C dx) (q : E (.ref e) (some dx) (upd H1 e (ExcT C e dx))) :
    (cxOf (CXr P w) P w K mg base N qual scope f cd A outer s H E).xe (.ref e) s1 := by
  show wpAny _ _ (leaving _ (.ref e)) _ _ s1
  refine leave_run (base := base) I.ok.frames I.stack rfl fl fun h' l fl' => ?_
  have u1 := lft_un (H := H1) l he fl'
  have k1 := lft_hok I.hok l I.stkFree he fl'
  have b0 : Un (frs outer) [] H H1 s.heap s1.heap := I.base
  have above : s.heap.objs.size ≤ (cxOf (CXr P w) P w K mg base N qual scope f cd A outer s H E).env.locals := I.ok.above
  have sub : ∀ b o, s.heap.get? b = some o → b ∉ frs outer → b ∉ frs (cxOf (CXr P w) P w K mg base N qual scope f cd A outer s H E).stack := fun b o q hb z => by
    rcases List.mem_cons.mp (I.stkSub b z) with z | z
    · have := Heap.lt_size q
      rw [z] at this
      exact absurd above (Nat.not_le.mpr this)
    · exact hb z
  have u2 := (b0.mono (fs' := frs (cxOf (CXr P w) P w K mg base N qual scope f cd A outer s H E).stack) (ex' := []) (fun b hb => by
    show b ∈ List.filterMap _ (_ :: outer)
    rw [List.filterMap_cons]
    exact List.mem_cons_of_mem _ hb) fun _ z => z).trans u1
  refine ⟨e, C, dx, _, rfl, I.os, I.bare, ⟨fun b o q n hb hx => u2.keep b o q n (sub b o q hb) hx, fun b o q n _ hx => u2.any q n hx, u2.free, u2.there, u2.tups, u2.frzs, u2.tbls⟩, k1, upd_same, fl', q⟩
end
section
variable {X : Cx} {x : Expr} {te : TE} {pos : Pos}
end
end L2

namespace L2
open PySem PySem.Spec PyProof.Rows
theorem raise_objX2 {M : Model} {A : Around} {E : Value → Shared → Prop} {s : Shared} {env : Env} {K : PySem.W.Frag} {x : Sem Value} {Q : Flow → Shared → Prop} (hh : A.handled = none)
    (h : wpAny M A x (fun v s₁ => ∃ e dx a C CA, v = .ref e ∧ ClsX K C CA ∧ K.In s₁.heap ∧ s₁.heap.get? e = some (excObj C (some dx) (vs6 a)) ∧ E (.ref e) s₁) E s) : wpAny M A (raiseStmt env (some x) none) Q E s := by
  unfold raiseStmt
  refine wpAny_bind (wpAny_mono h (fun v s₁ h₁ => ?_) fun _ _ x => x)
  obtain ⟨e, dx, a, C, CA, rfl, c, KX, he, hE⟩ := h₁
  obtain ⟨nm, q, N, bs, sn, sub, ab, col, dd, k0, k1, k2, k3, k5, lk⟩ := c.obj
  have hcB := cX_base (C := C) (CA := CA)
  have hC := KX _ _ lk
  obtain ⟨hp, g, d, tk, os⟩ := s₁
  repeat (first | with_reducible refine wpAny_loadPart_at he ?_ | with_reducible refine wpAny_loadPart_at hC ?_ | (with_reducible refine wpAny_isSubtype_exc hC ?_; rw [hcB]) | wp_step)
  exact wpAny_raiseNew_none hh hE
section
variable {P : Program} {w : World} {K : PySem.W.Frag} {mg : Str → Option Value} {base : Heap} {N : List Str} {qual : Str} {scope : Scope} {f : Addr} {cd : Value} {A : Around} {outer : List Env} {s : Shared} {H : Hp} {E : XK}
/-- raise e, e an exception of one's own that was just made -/
theorem ps_raise {x : Expr} {te : TE} {pos : Pos} (he : PE (cxOf (CXr P w) P w K mg base N qual scope f cd A outer s H E) x te) :
    PS (cxOf (CXr P w) P w K mg base N qual scope f cd A outer s H E) (.Raise (some x) none pos) (fun _ σ H1 => te σ H1 fun v H2 => ∃ e C CA dx, v = .ref e ∧ H2 e = some (ExcD C e dx) ∧ ClsX K C CA ∧ E (.ref e) (some dx) (upd H2 e (ExcT C e dx))) := by
  intro pins s1 σ H1 D I h
  rw [arm_exec_Raise]
  refine wpAny_bind (wpAny_standAt (raise_objX2 (K := K) (I.ok.hd rfl) ?_))
  refine wpAny_bind (thn (he pins s1 σ H1 _ I h) fun u s2 ⟨v, H2, I2, r, e, C, CA, dx, ev, e2, c, q⟩ => wpAny_bind (wpAny_standAt (wpAny_pure ?_)))
  subst ev
  obtain rfl : u = Value.ref e := r
  obtain ⟨o, ho, a, rfl⟩ := ObP.get I2.hok e2
  exact ⟨e, dx, a, C, CA, rfl, c, I2.kIn, ho, xe_fly I2 e2 (Fly.ofD I2.hok e2) q⟩
/-- an exception of a callee goes on through this def -/
theorem passX : Passes (CXr P w) (cxOf (CXr P w) P w K mg base N qual scope f cd A outer s H E) E := by
  rintro pins σ H1 s1 _ s2 I ⟨e0, C, dx, H', rfl, os, bare, un, hok, he, fl, q⟩
  have I2 := I.call' (ch := []) os un hok bare (fun b z => absurd z (by simp))
  refine xe_fly I2 he fl ?_
  rw [upd_id he]
  exact q
theorem ownX : PassesOwn (model P w) (cxOf (CXr P w) P w K mg base N qual scope f cd A outer s H E).A (cxOf (CXr P w) P w K mg base N qual scope f cd A outer s H E).env (cxOf (CXr P w) P w K mg base N qual scope f cd A outer s H E).xe := PassesOwn.leaving
end
section
variable {P : Program} {w : World} {K : PySem.W.Frag} {mg : Str → Option Value} {base : Heap} {dV : Value}
theorem FunD.okX {x qual : Str} {st : Stmt} {f : Addr} {fd : FuncData} {N ps : List Str} {k : Nat} {sp : Sp} (F : FunD K x qual st f fd dV) (S : FnScope N ps (defScope st)) (len : ∀ vs H Q E, sp vs H Q E → vs.length = ps.length)
    (hbody : ∀ (cdv : Value) (A : Around) (outer : List Env) (s : Shared) (H : Hp) (vs : List V) (Q : VK) (E : XK), Room k (A.deeper (envOfC qual (defScope st) s.heap.objs.size f cdv)) → sp vs H Q E →
      ∃ t, PSs (cxOf (CXr P w) P w K mg base N qual (defScope st) f cdv A outer s H E) (defBody st) t ∧ t { nx := fun _ H' => Q .non H', rt := Q } (start N vs) H) : FnOk P w K mg base (CXr P w) (k + 1) f fd ps sp := by
  obtain ⟨oc, od, kV, doc, pm, an, cdv, ct, osl, rfl, lk, hcd⟩ := F.ex
  exact fn_of lk hcd S len fun A outer s H vs Q E hr hsp => hbody cdv A outer s H vs Q E hr hsp
theorem Fun.okX {x qual : Str} {st : Stmt} {f : Addr} {fd : FuncData} {N ps : List Str} {k : Nat} {sp : Sp} (F : Fun K x qual st f fd) (S : FnScope N ps (defScope st)) (len : ∀ vs H Q E, sp vs H Q E → vs.length = ps.length)
    (hbody : ∀ (cdv : Value) (A : Around) (outer : List Env) (s : Shared) (H : Hp) (vs : List V) (Q : VK) (E : XK), Room k (A.deeper (envOfC qual (defScope st) s.heap.objs.size f cdv)) → sp vs H Q E →
      ∃ t, PSs (cxOf (CXr P w) P w K mg base N qual (defScope st) f cdv A outer s H E) (defBody st) t ∧ t { nx := fun _ H' => Q .non H', rt := Q } (start N vs) H) : FnOk P w K mg base (CXr P w) (k + 1) f fd ps sp := F.toD.okX S len hbody
/-- a def of the text that may raise, by its name -/
structure CalR (P : Program) (w : World) (K : PySem.W.Frag) (mg : Str → Option Value) (base : Heap) (n : Nat) (x : Str) (ps : List Str) (sp : Sp) : Prop where
  ex : ∃ (f : Addr) (fd : FuncData), FnOk P w K mg base (CXr P w) n f fd ps sp ∧ Binds K fd ps [] ∧ PySem.W.keepIn K (.ref f) = true ∧ mg x = some (.ref f)
theorem CalR.of {n : Nat} {x qual : Str} {ps : List Str} {sp : Sp} {st : Stmt} {f : Addr} {fd : FuncData} (F : Fun K x qual st f fd) (O : FnOk P w K mg base (CXr P w) n f fd ps sp) (m : mg x = some (.ref f))
    (h : ∀ (kV doc pm : Value) (an : Option Addr) (cdv ct : Value) (us : List Value), us.length = ps.length → bindArgs (PySem.W.fnOf x qual (defArgs st) (defBody st) (defScope st) .none kV doc pm an cdv ct) ⟨us, []⟩ = pure (ps.zip us)) : CalR P w K mg base n x ps sp :=
  ⟨f, fd, O, F.binds h, F.kp, m⟩
theorem pe_calR {X : Cx} {n k : Nat} {x : Str} {ps : List Str} {sp : Sp} {e : Expr} {es : List Expr} {t : TA} {p pos : Pos} {E : XK} (C : CalR X.prog X.w X.K X.mg X.base n x ps sp) (hr : Room k X.A) (hk : n ≤ k) (hg : Gl X x) (hx : Passes (CXr X.prog X.w) X E)
    (ha : PA X (e :: es) t) (hdb : (x == ("__debug__" : Str)) = false := by decide) (he : starEach (e :: es) X.env = (false, eval e X.env) :: starEach es X.env := by rfl) (hpl : (backTo pos (starEach es X.env)).any (·.1) = false := by rfl) :
    PE X (.Call (.Name x p) (e :: es) [] pos) (tCall sp [] E t) := by
  obtain ⟨f, fd, F, b, kp, m⟩ := C.ex
  exact pe_call F (hr.mono hk) hg m kp b .nil hx ha hdb he hpl
/-- where it does not raise -/
theorem noRaise {X : Cx} : Passes (CXr X.prog X.w) X E0 := by
  rintro pins σ H1 s1 _ s2 I ⟨e0, C, dx, H', rfl, os, bare, un, hok, he, fl, q⟩
  exact q.elim
end
end L2

namespace L2
open PySem PySem.Spec PyProof.Rows
section
variable {M : Model} {A : Around} {E : Value → Shared → Prop}
theorem excMatches_up {K : PySem.W.Frag} {C CA : Addr} {s : Shared} {e : Addr} {oe : Obj} {Q : Bool → Shared → Prop} (c : ClsX K C CA) (X : K.In s.heap) (he : s.heap.get? e = some oe) (hcls : oe.cls = .ref C)
    (hA : ∃ (nm q : Str) (N : Addr) (bs : List Value) (sn : List Str) (sub : List Value) (ab : Bool) (col : Option Bool) (dd : Option Addr) (k0 k1 k2 k3 k5 : Option Value), K.lookup CA = some (excClassObj nm q CA N bs bmV true sn sub ab col dd k0 k1 k2 k3 k5 "ValueError.__new__"))
    (hq : Q true s) : wpAny M A (excMatches (.ref e) (.ref CA)) Q E s := by
  obtain ⟨nm, q, N, bs, sn, sub, ab, col, dd, k0, k1, k2, k3, k5, lk⟩ := c.obj
  obtain ⟨nm', q', N', bs', sn', sub', ab', col', dd', k0', k1', k2', k3', k5', lk'⟩ := hA
  have hC := X _ _ lk
  have hA := X _ _ lk'
  obtain ⟨h, g, d, t, os⟩ := s
  have hcB : (Value.ref CA :: bmV).contains (.type "BaseException") = true := by simp [bmV]
  have hcC : (Value.ref C :: .ref CA :: bmV).contains (.ref CA) = true := by simp
  have f := tc_notTuple
  unfold excMatches
  repeat (first | (with_reducible refine wpAny_loadPart_at he ?_; rw [hcls]) | with_reducible refine wpAny_loadPart_at hA ?_ | (with_reducible refine wpAny_isSubtype_exc hA ?_; rw [hcB]) | (with_reducible refine wpAny_isSubtype_exc hC ?_; rw [hcC]) | wp_step)
  exact hq
end
section
variable {prog : Program} {w : World} {A : Around} {s : Shared} {env : Env} {R : Result → Shared → Prop}
theorem handlers_named {e : Value} {n : Str} {b₀ : Stmt} {body : List Stmt} {pos : Pos}
    (h : wpAny (model prog w) A (setFlight e none) (fun _ s1 => wpAny (model prog w) A (bindName env n e) (fun _ s2 => wpAny (model prog w) A (execs (b₀ :: body) env) (fun f s3 => R (.ok f) s3) (fun _ _ => False) s2) (fun _ _ => False) s1) (fun _ _ => False) s) :
    codeAny (model prog w) A (.handlers e [.ExceptHandler none (some n) (b₀ :: body) pos] env) R s := by
  refine codeAny_of_tree ?_
  show wpAny _ A (do return Fin.done (← (handleWith e env [.ExceptHandler none (some n) (b₀ :: body) pos]).onRaise (fun x => do noteFrame x env; theTreesLotGoes x))) _ _ s
  refine wpAny_bind (wpAny_noted ?_)
  unfold handleWith
  exact wpAny_bind (wpAny_standAt (wpAny_bind (wpAny_mono h (fun _ s₁ h₁ => wpAny_bind (wpAny_mono h₁ (fun _ s2 h2 => wpAny_bind (wpAny_attempt (wpAny_mono h2 (fun f s3 h3 => wpAny_pure (wpAny_pure h3)) fun _ _ z => z.elim))) fun _ _ z => z.elim)) fun _ _ z => z.elim)))
end
/-- a handler's suite runs under its exception -/
abbrev Cx.marked (X : Cx) (e : Addr) : Cx := { X with A := X.A.mark (some (.ref e)), calm := false, xe := fun _ _ => False }
section
variable {X : Cx} {pins : List (Addr × Obj)} {σ : St} {H : Hp} {s : Shared} {e : Addr}
theorem Inv.marked (I : Inv X pins σ H s) : Inv (X.marked e) pins σ H s :=
  ⟨⟨I.ok.mod, I.ok.kind, I.ok.glob, I.ok.blt, I.ok.above, I.ok.inj, I.ok.has, I.ok.cab, (fun z => by cases z), I.ok.frames, I.ok.stk, I.ok.exf, I.ok.bs, I.ok.bsz, I.ok.noex, I.ok.exfs, I.ok.funs, I.ok.frf⟩, I.os, I.bare, I.base, I.loc, I.cell, I.free, I.freeC, I.pin, I.hok, I.len⟩
theorem Inv.unmarked (ok : X.Ok) (I : Inv (X.marked e) pins σ H s) : Inv X pins σ H s := ⟨ok, I.os, I.bare, I.base, I.loc, I.cell, I.free, I.freeC, I.pin, I.hok, I.len⟩
theorem SP.unmarked {D : Ends} {f : Flow} {s' : Shared} (ok : X.Ok) (h : SP (X.marked e) pins D f s') : SP X pins D f s' := by
  cases f with
  | next => obtain ⟨σ', H', I, q⟩ := h; exact ⟨σ', H', I.unmarked ok, q⟩
  | brk => obtain ⟨σ', H', I, q⟩ := h; exact ⟨σ', H', I.unmarked ok, q⟩
  | cont => obtain ⟨σ', H', I, q⟩ := h; exact ⟨σ', H', I.unmarked ok, q⟩
  | ret u => obtain ⟨v, σ', H', I, r, q⟩ := h; exact ⟨v, σ', H', I.unmarked ok, r, q⟩
/-- the handler's name goes -/
theorem del_ok {M : Model} {A : Around} {E : Value → Shared → Prop} {i : Nat} {x : Str} {v : V} {pos : Pos} {Q : Unit → Shared → Prop} (I : Inv X pins σ H s) (hN : X.N.Nodup) (hi : X.N[i]? = some x) (hk : X.env.kindOf x = some .local) (hv : σ[i]? = some (some v))
    (h : ∀ s', Inv X pins (σ.set i none) H s' → Q () s') : wpAny M A (unbindBehindTheSuite X.env x pos) Q E s := by
  obtain ⟨m, hn, hl⟩ := id I.loc
  have hcls : (X.env.scope.kind == .class || (X.env.scope.kind == .module && X.env.locals != X.env.globals)) = false := by rw [I.ok.kind]; rfl
  have hiσ : i < σ.length := by rw [I.len]; exact (List.getElem?_eq_some_iff.mp hi).1
  have cne := I.cne
  obtain ⟨u0, _, lk⟩ := hl i x v hi hv (.inl hk)
  have hm : (m x).isSome = true := by
    rcases lk with ⟨_, q⟩ | ⟨q, _⟩
    · rw [q]; rfl
    · rcases q with q | q <;> (rw [hk] at q; cases q)
  unfold unbindBehindTheSuite unbindName deleteName
  refine wpAny_onRaise (wpAny_bind (wpAny_point (wpAny_bind ?_)))
  simp only [hk, hcls, Bool.false_eq_true, if_false]
  refine wpAny_bind (wpAny_nsDel_keeps hn fun h' v' hn' hs => ?_)
  rw [hm]
  refine wpAny_pure (wpAny_point ?_)
  obtain ⟨oL, _, _, hoL, _⟩ := id hn
  refine h _ ⟨I.ok, I.os, I.bare, ⟨fun b o e n hb hx => ?_, fun b o e n hb hx => ?_, I.base.free, fun b o e hx => ?_, I.base.tups, I.base.frzs, I.base.tbls⟩, ⟨_, hn', fun j y v' e1 e2 e3 => ?_⟩, fun y c e => ?_, I.free, I.freeC, fun p hp => ?_, fun b ob e => ?_, by simpa using I.len⟩
  · exact (hs.2 b (Nat.ne_of_lt (Nat.lt_of_lt_of_le (Heap.lt_size e) I.ok.above))).trans (I.base.keep b o e n hb hx)
  · obtain ⟨sl, e1⟩ := I.base.slot b o e n hb hx
    exact ⟨sl, (hs.2 b (Nat.ne_of_lt (Nat.lt_of_lt_of_le (Heap.lt_size e) I.ok.above))).trans e1⟩
  · obtain ⟨o', e1⟩ := I.base.there b o e hx
    exact ⟨o', (hs.2 b (Nat.ne_of_lt (Nat.lt_of_lt_of_le (Heap.lt_size e) I.ok.above))).trans e1⟩
  · by_cases hj : j = i
    · subst hj
      rw [List.getElem?_set_self hiσ] at e2
      cases e2
    · rw [List.getElem?_set_ne (Ne.symm hj)] at e2
      obtain ⟨u', r', q⟩ := hl j y v' e1 e2 e3
      refine ⟨u', r', ?_⟩
      rcases q with ⟨k, e⟩ | ⟨k, c, e, z⟩
      · refine .inl ⟨k, ?_⟩
        have : y ≠ x := fun e => hj (nodup_ix hN e1 (e ▸ hi))
        simp [this, e]
      · exact .inr ⟨k, c, e, z.sameBut hs (cne y c e)⟩
  · obtain ⟨w', z⟩ := I.cell y c e
    exact ⟨w', z.sameBut hs (cne y c e)⟩
  · obtain ⟨e, n, ne, nf, d⟩ := I.pin p hp
    exact ⟨(hs.2 p.1 ne).trans e, n, ne, nf, d⟩
  · refine (I.hok b ob e).stay (fun c w' hc q => (hs.2 c ?_).trans q) (fun _ q => q) fun _ _ q => q
    rintro rfl
    rcases hc with rfl | hc
    · rw [I.free] at e; cases e
    · rw [I.free] at hc; cases hc
end
end L2

namespace L2
open PySem PySem.Spec PyProof.Rows
/-- a try's body: its exceptions go to W, for these pins -/
def PSw (X : Cx) (EE : Ends → St → XK) (st : List Stmt) (t : TS) : Prop :=
  ∀ (W : Value → Shared → Prop) (pins : List (Addr × Obj)) (s : Shared) (σ : St) (H : Hp) (D : Ends), (∀ H1 s1 ev s2, Inv X pins σ H1 s1 → CXr X.prog X.w X.stack H1 s1 (EE D σ) ev s2 → W ev s2) → Inv X pins σ H s → t D σ H →
    wpAny (model X.prog X.w) X.A (execs st X.env) (SP X pins D) W s
section
variable {X : Cx} {EE : Ends → St → XK} {n k : Nat} {x : Str} {ps : List Str} {sp : Sp} {e : Expr} {es : List Expr} {ta : TA} {p pos : Pos}
theorem callW {W : Value → Shared → Prop} {E : XK} {pins : List (Addr × Obj)} {s : Shared} {σ : St} {H : Hp} {Q : VK} (C : CalR X.prog X.w X.K X.mg X.base n x ps sp) (hr : Room k X.A) (hk : n ≤ k) (hg : Gl X x) (ha : PA (X.wish W) (e :: es) ta)
    (hW : ∀ H1 s1 ev s2, Inv X pins σ H1 s1 → CXr X.prog X.w X.stack H1 s1 E ev s2 → W ev s2) (I : Inv X pins σ H s) (h : tCall sp [] E ta σ H Q)
    (hdb : (x == ("__debug__" : Str)) = false := by decide) (he : starEach (e :: es) X.env = (false, eval e X.env) :: starEach es X.env := by rfl) (hpl : (backTo pos (starEach es X.env)).any (·.1) = false := by rfl) :
    wpAny (model X.prog X.w) X.A (eval (.Call (.Name x p) (e :: es) [] pos) X.env) (EP X pins σ Q) W s := by
  obtain ⟨f, fd, F, b, kp, m⟩ := C.ex
  refine wpAny_Call_Name_kw (ld_glob I hg m ?_ hdb)
  refine PySem.W.callWith_K (h₀ := X.base) I.ok.mod.kin kp (thn (ha pos pins s σ H _ (I.wish W) h) fun us s1 ⟨vs, H1, I1, r, q⟩ => ⟨I1.kIn, ?_⟩) he hpl
  have I1' := I1.unwish
  have r2 : Vals (vs ++ []) (us ++ []) := r.append .nil
  have hl : (us ++ []).length = ps.length := by rw [← r2.length]; exact F.len _ _ _ _ q
  refine wpAny_call (codeAny_mono (F.run X.A X.stack s1 H1 ⟨us, []⟩ (us ++ []) (vs ++ []) Q E (hr.mono hk) I1'.env0 (b s1 us I1'.kIn hl) r2 q) fun r s' hq => ?_)
  cases r with
  | error ev => exact hW H1 s1 ev s' I1' hq
  | ok fl =>
    cases fl with
    | ret u => exact I1'.after hq
    | next => exact False.elim hq
    | brk => exact False.elim hq
    | cont => exact False.elim hq
/-- f(..) alone as a try's body -/
theorem psw_expr {p1 : Pos} (C : CalR X.prog X.w X.K X.mg X.base n x ps sp) (hr : Room k X.A) (hk : n ≤ k) (hg : Gl X x) (ha : ∀ W, PA (X.wish W) (e :: es) ta)
    (hs : swapsWith (.Call (.Name x p) (e :: es) [] pos) none p1.line X.env = pure false := by rfl)
    (hdb : (x == ("__debug__" : Str)) = false := by decide) (he : starEach (e :: es) X.env = (false, eval e X.env) :: starEach es X.env := by rfl) (hpl : (backTo pos (starEach es X.env)).any (·.1) = false := by rfl) :
    PSw X EE [.Expr (.Call (.Name x p) (e :: es) [] pos) p1] (fun D σ H => tCall sp [] (EE D σ) ta σ H fun _ H1 => D.nx σ H1) := by
  intro W pins s σ H D hW I h
  refine wpAny_execs_cons (wpAny_Expr_any (thn (callW C hr hk hg (ha W) hW I h hdb he hpl) fun v s1 ⟨z, H1, I1, r1, q1⟩ => wpAny_execs_nil ⟨σ, H1, I1, q1⟩) I.quiet hs)
/-- without the handler's name -/
def Ends.un (D : Ends) (i : Nat) : Ends := { nx := fun σ H => D.nx (σ.set i none) H, rt := D.rt, bk := fun σ H => D.bk (σ.set i none) H, ct := fun σ H => D.ct (σ.set i none) H }
def isBaseX (K : PySem.W.Frag) (CA : Addr) : Prop := ∃ (nm q : Str) (N : Addr) (bs : List Value) (sn : List Str) (sub : List Value) (ab : Bool) (col : Option Bool) (dd : Option Addr) (k0 k1 k2 k3 k5 : Option Value), K.lookup CA = some (excClassObj nm q CA N bs bmV true sn sub ab col dd k0 k1 k2 k3 k5 "ValueError.__new__")
theorem ps_try {c m : Str} {CA : Addr} {i : Nat} {st body : List Stmt} {b₀ : Stmt} {pc ph : Pos} {t tb : TS} (hN : X.N.Nodup) (hi : X.N[i]? = some m) (hk : X.env.kindOf m = some .local) (hg : Gl X c) (hm : X.mg c = some (.ref CA)) (hA : isBaseX X.K CA)
    (hb : PSw X (fun D σ ev dxo H' => ∃ e C dx, ev = .ref e ∧ dxo = some dx ∧ H' e = some (ExcT C e dx) ∧ ClsX X.K C CA ∧ tb (D.un i) (σ.set i (some (.ref e))) H') st t) (hh : ∀ e, PSs (X.marked e) (b₀ :: body) tb)
    (hst : X.stack = X.env :: X.outer := by rfl) (hfr : X.env.frame = some X.env.locals := by rfl) (hdb : (c == ("__debug__" : Str)) = false := by decide) :
    PS X (.Try st [.ExceptHandler (some (.Name c pc)) (some m) (b₀ :: body) ph] [] [] pos) t := by
  intro pins s σ H D I h
  refine wpAny_Try_except (wpAny_mono (hb _ pins s σ H D ?_ I h) (fun f s1 q => ?_) fun _ _ z => z)
  · rintro H1 s1 _ s2 I1 ⟨e, C0, dx0, H2, rfl, os, bare, un, hok, he0, fl, e', C, dx, ee, ed, he, cls, q⟩
    cases ee
    cases ed
    have I2 := I1.call' (ch := []) os un hok bare (fun b z => absurd z (by simp))
    refine note_run (base := X.base) (env := X.env) (outer := X.outer) (by rw [← hst]; exact I2.ok.frames) (by rw [← hst]; exact I2.stack) hfr fl fun h' l fl' => ?_
    have u := lft_un (H := H2) l he0 fl'
    have kk := lft_hok I2.hok l (by
      have z := I2.stkFree
      rw [hst] at z
      exact z) he0 fl'
    rw [upd_id he0] at u kk
    have I3 : Inv X pins σ H2 { s2 with heap := h' } := I2.call' (ch := []) rfl (by rw [hst]; exact u) kk I2.bare (fun b z => absurd z (by simp))
    refine wpAny_handleBy_cons (codeAny_handlers_test (ld_glob (X := X.marked e) (I3.marked (e := e)) hg hm ?_ hdb)) (by intro z; cases z)
    obtain ⟨o, ho, vs, rfl, _⟩ := ObP.get I3.hok he
    refine excMatches_up cls I3.kIn ho rfl hA ?_
    refine handlers_named ?_
    refine flight_run fl' fun h'' kp => ?_
    have I4 : Inv X pins σ H2 { s2 with heap := h'' } := I3.kept (t' := s2.toks) kp
    refine wpAny_bindName (store_ok (X := X.marked e) (v := .ref e) (I4.marked (e := e)) hN hi (.inl hk) rfl (fun s5 I5 => ?_) (.inr hk))
    refine wpAny_mono (hh e pins s5 _ H2 (D.un i) I5 q) (fun f s6 q6 => ?_) fun _ _ z => z
    have q7 := SP.unmarked I.ok q6
    have fin : ∀ {σ' H'} {G : Shared → Prop}, Inv X pins σ' H' s6 → (∀ s8, Inv X pins (σ'.set i none) H' s8 → G s8) → wpAny (model X.prog X.w) X.A (do bindName X.env m .none; unbindBehindTheSuite X.env m ph) (fun _ s3 => G s3) X.xe s6 := fun {σ' H' G} I6 g => by
      refine wpAny_bind (wpAny_bindName (store_ok (v := .non) I6 hN hi (.inl hk) rfl (fun s7 I7 => ?_) (.inr hk)))
      have hl : i < σ'.length := by rw [I6.len]; exact (List.getElem?_eq_some_iff.mp hi).1
      refine del_ok (v := .non) I7 hN hi hk (List.getElem?_set_self hl) fun s8 I8 => ?_
      rw [List.set_set] at I8
      exact g s8 I8
    cases f with
    | next => obtain ⟨σ', H', I', q⟩ := q7; exact fin I' fun s8 I8 => ⟨_, H', I8, q⟩
    | brk => obtain ⟨σ', H', I', q⟩ := q7; exact fin I' fun s8 I8 => ⟨_, H', I8, q⟩
    | cont => obtain ⟨σ', H', I', q⟩ := q7; exact fin I' fun s8 I8 => ⟨_, H', I8, q⟩
    | ret v => obtain ⟨z, σ', H', I', r, q⟩ := q7; exact fin I' fun s8 I8 => ⟨z, _, H', I8, r, q⟩
  · cases f with
    | next => exact wpAny_execs_nil q
    | brk => exact q
    | cont => exact q
    | ret v => exact q
end
end L2

namespace L2
open PySem PySem.Spec PyProof.Rows
section
variable {X : Cx} {e : Expr} {f : Str} {pos : Pos} {ta : TE}
/-- with the fragment written out: in a handler's suite the reading may not tell of the exception -/
theorem call_isiXK (K : PySem.W.Frag) (hK : X.K = K := by rfl) : CallR X (.builtin "isinstance") (rIsiX K) := by subst hK; exact call_isiX
theorem pe_fldXK (K : PySem.W.Frag) (he : PE X e ta) (hb : attributeBase e f X.env (eval e X.env) = eval e X.env) (hK : X.K = K := by rfl) :
    PE X (.Attribute e f pos) (fun σ H Q => ta σ H fun x H1 => ∃ a C CA dx fs v, x = .ref a ∧ XAt H1 a C dx ∧ H1 dx = some (.xd fs) ∧ fs.lookup f = some v ∧ ClsX K C CA ∧ NoAttr K C f ∧ Q v H1) := by subst hK; exact pe_fldX he hb
end
end L2

namespace Mine
open PySem L2
theorem len1 {us : List Value} (h : us.length = 1) : ∃ a, us = [a] := by
  cases us with
  | nil => cases h
  | cons a r =>
    cases r with
    | nil => exact ⟨a, rfl⟩
    | cons _ _ => cases h
theorem lenS {us : List Value} {n : Nat} (h : us.length = n + 1) : ∃ a r, us = a :: r ∧ r.length = n := by
  cases us with
  | nil => cases h
  | cons a r => exact ⟨a, r, rfl, Nat.succ.inj h⟩
theorem len2 {us : List Value} (h : us.length = 2) : ∃ a b, us = [a, b] := by
  obtain ⟨a, r, rfl, h1⟩ := lenS h
  obtain ⟨b, rfl⟩ := len1 h1
  exact ⟨a, b, rfl⟩
theorem len3 {us : List Value} (h : us.length = 3) : ∃ a b c, us = [a, b, c] := by
  obtain ⟨a, r, rfl, h1⟩ := lenS h
  obtain ⟨b, c, rfl⟩ := len2 h1
  exact ⟨a, b, c, rfl⟩
theorem len4 {us : List Value} (h : us.length = 4) : ∃ a b c d, us = [a, b, c, d] := by
  obtain ⟨a, r, rfl, h1⟩ := lenS h
  obtain ⟨b, c, d, rfl⟩ := len3 h1
  exact ⟨a, b, c, d, rfl⟩
theorem len5 {us : List Value} (h : us.length = 5) : ∃ a b c d e, us = [a, b, c, d, e] := by
  obtain ⟨a, r, rfl, h1⟩ := lenS h
  obtain ⟨b, c, d, e, rfl⟩ := len4 h1
  exact ⟨a, b, c, d, e, rfl⟩
theorem len6 {us : List Value} (h : us.length = 6) : ∃ a b c d e f, us = [a, b, c, d, e, f] := by
  obtain ⟨a, r, rfl, h1⟩ := lenS h
  obtain ⟨b, c, d, e, f, rfl⟩ := len5 h1
  exact ⟨a, b, c, d, e, f, rfl⟩
def top (i : Nat) : Stmt := PySem.Challenge.pw_asktally_k49_texts_of_no_talk.main.body.getD i (.Pass ⟨0, 0, 0, 0⟩)
abbrev s_is_figures : Stmt := top 15
abbrev s_read_talk : Stmt := top 17
abbrev s_talk_row : Stmt := top 18
abbrev s_l_feed : Stmt := top 20
abbrev s_l_take : Stmt := top 21
abbrev s_l_cells : Stmt := top 22
abbrev s_l_words : Stmt := top 23
abbrev s_l_wrong : Stmt := top 24
abbrev s_l_told : Stmt := top 25
abbrev s_l_text : Stmt := top 26
abbrev s_law : Stmt := top 27
section
variable {P : Program} {w : World} {K : PySem.W.Frag} {mg : Str → Option Value} {base : Heap}
theorem feedB (z : Int) : 0 ≤ z % 2147483646 + 1 ∧ z % 2147483646 + 1 ≤ 2147483646 := by omega
theorem sc_l_feed : FnScope ["_law_script", "_law_k", "_law_cell", "_law_own"] ["_law_script", "_law_k"] (defScope s_l_feed) := ⟨rfl, rfl, rfl, by decide +kernel, rfl, by decide +kernel, by decide +kernel⟩
theorem ok_l_feed {f : Addr} {fd : FuncData} (F : Fun K "_law_feed" "_law_feed" s_l_feed f fd) (hlen : mg "len" = none) : FnOk P w K mg base CX0 1 f fd ["_law_script", "_law_k"] (spFeed K) := by
  refine F.ok sc_l_feed (fun vs H Q E h => ?_) (fun cdv A outer s H vs Q E hr h => ?_)
  · obtain ⟨a, ns, k, rfl, _⟩ := h
    rfl
  obtain ⟨a, ns, k, rfl, hS, h63, k0, k1, q⟩ := h
  refine ⟨_, (pss_cons (ps_set (i := 2) sc_l_feed.nd rfl (Or.inl rfl) (pe_op op_add (pe_op op_mul pe_int (pv 1)) pe_int))
      (pss_cons (ps_if (pt_cmpR op_lt (pv 1) (pe_callB call_len_seq rfl hlen PySem.boot_len (pa_cons (pv 0) pa_nil)) (nomark _)) (pss_one (ps_set (i := 2) sc_l_feed.nd rfl (Or.inl rfl) (pe_ix ix_list (pv 0) (pv 1) (fun _ _ => rfl)))) (pss_one (ps_if (pt_cmpR op_gt (pe_callB call_len_seq rfl hlen PySem.boot_len (pa_cons (pv 0) pa_nil)) pe_int (nomark _)) (pss_one (ps_set (i := 2) sc_l_feed.nd rfl (Or.inl rfl) (pe_op op_add (pe_op op_mul (pe_op op_mod (pe_ix ix_list (pv 0) (pe_op op_mod (pv 1) (pe_callB call_len_seq rfl hlen PySem.boot_len (pa_cons (pv 0) pa_nil))) (fun _ _ => rfl)) pe_int) pe_int) (pe_op op_mul pe_int (pv 1))))) pss_nil)))
      (pss_cons (ps_set (i := 3) sc_l_feed.nd rfl (Or.inl rfl) pe_int)
      (pss_cons (ps_if (pt_cmpR op_ge (pv 2) (pe_op op_pow pe_int pe_int) (nomark _)) (pss_one (ps_set (i := 3) sc_l_feed.nd rfl (Or.inl rfl) (pv 2))) pss_nil)
      (pss_one (ps_ret (pe_lst (pa_cons (pv 3) (pa_cons (pe_op op_add (pe_op op_mod (pe_op op_add (pe_op op_mul (pe_op op_mod (pv 2) pe_int) pe_int) (pe_op op_mul pe_int (pv 1))) pe_int) pe_int) pa_nil))))))))), ?_⟩
  have hl : (ns.map V.int).length = ns.length := List.length_map _
  have hp : (10 : Int) ^ (18 : Int).toNat = 1000000000000000000 := by decide
  refine ⟨_, rfl, _, _, rfl, rfl, .inl ⟨by decide, by decide⟩, _, _, rfl, rfl, ?_⟩
  refine ⟨_, rfl, _, rfl, a, _, rfl, .inl hS, _, _, rfl, rfl, _, rfl, ?_⟩
  refine ite2 (fun c => ?b1) (fun c => ?b2)
  case' b1 =>
    have c' : k < (((ns.map V.int).length : Nat) : Int) := of_decide_eq_true c
    rw [hl] at c'
    obtain ⟨v, hv⟩ := at_int (ns := ns) k0 c'
    refine ⟨_, rfl, _, rfl, a, _, _, _, rfl, rfl, hS, hv, ?_⟩
  case' b2 =>
    refine ⟨_, rfl, a, _, rfl, .inl hS, _, _, rfl, rfl, _, rfl, ?_⟩
    refine ite2 (fun c2 => ?b3) (fun c2 => ?b4)
    case' b3 =>
      have c' : (0 : Int) < (((ns.map V.int).length : Nat) : Int) := of_decide_eq_true c2
      have m0 := Int.emod_nonneg k (b := (((ns.map V.int).length : Nat) : Int)) (by omega)
      have m1 := Int.emod_lt_of_pos k c'
      obtain ⟨v, hv⟩ := at_int (ns := ns) m0 (by rw [hl] at m1 ⊢; exact m1)
      have n0 := Int.emod_nonneg v (b := 2147483629) (by decide)
      have n1 := Int.emod_lt_of_pos v (b := 2147483629) (by decide)
      refine ⟨_, rfl, _, rfl, _, rfl, a, _, rfl, .inl hS, _, _, rfl, rfl, c', a, _, _, _, rfl, rfl, hS, hv, _, _, rfl, rfl, (by show (0 : Int) < _; decide), _, _, rfl, rfl, .inr ⟨by decide, by decide⟩, _, rfl, _, _, rfl, rfl, .inl ⟨by decide, by decide⟩, _, _, rfl, rfl, ?_⟩
  all_goals
    refine ⟨_, rfl, _, _, rfl, rfl, ⟨by decide, by decide, by decide⟩, _, _, rfl, rfl, _, rfl, ?_⟩
    refine ite2 (fun c3 => ?_) (fun c3 => ?_)
    · have c4 := of_decide_eq_true c3
      rw [hp] at c4
      refine ⟨_, rfl, _, rfl, _, rfl, _, _, rfl, rfl, (by show (0 : Int) < _; decide), _, _, rfl, rfl, .inr ⟨by decide, by decide⟩, _, rfl, _, _, rfl, rfl, .inl ⟨by decide, by decide⟩, _, _, rfl, rfl, _, _, rfl, rfl, (by show (0 : Int) < _; decide), _, _, rfl, rfl, (by show 2 ≤ sizeLine; decide), fun p hp => ?_⟩
      refine q p _ hp (Same.new hp _) ⟨_, _, upd_same, Int.le_trans (by decide) c4, (feedB _).1, (feedB _).2⟩
    · refine ⟨_, rfl, _, rfl, _, _, rfl, rfl, (by show (0 : Int) < _; decide), _, _, rfl, rfl, .inr ⟨by decide, by decide⟩, _, rfl, _, _, rfl, rfl, .inl ⟨by decide, by decide⟩, _, _, rfl, rfl, _, _, rfl, rfl, (by show (0 : Int) < _; decide), _, _, rfl, rfl, (by show 2 ≤ sizeLine; decide), fun p hp => ?_⟩
      refine q p _ hp (Same.new hp _) ⟨_, _, upd_same, Int.le_refl 0, (feedB _).1, (feedB _).2⟩
theorem sc_l_take : FnScope ["_law_feed_here", "_law_many", "_law_digit", "_law_one"] ["_law_feed_here", "_law_many"] (defScope s_l_take) := ⟨rfl, rfl, rfl, by decide +kernel, rfl, by decide +kernel, by decide +kernel⟩
theorem ok_l_take {f : Addr} {fd : FuncData} (F : Fun K "_law_take" "_law_take" s_l_take f fd) : FnOk P w K mg base CX0 1 f fd ["_law_feed_here", "_law_many"] spTake := by
  refine F.ok sc_l_take (fun vs H Q E h => ?_) (fun cdv A outer s H vs Q E hr h => ?_)
  · obtain ⟨f, m, rfl, _⟩ := h
    rfl
  obtain ⟨f, m, rfl, ⟨own, st, hf, o0, s0, s1⟩, m0, m1, q⟩ := h
  refine ⟨_, (pss_cons (ps_if (pt_cmpR op_gt (pe_ix ix_list (pv 0) pe_int (fun _ _ => rfl)) pe_int (nomark _)) (pss_cons (ps_set (i := 2) sc_l_take.nd rfl (Or.inl rfl) (pe_op op_mod (pe_ix ix_list (pv 0) pe_int (fun _ _ => rfl)) (pv 1)))
        (pss_cons (ps_asg (pe_op op_fdivL (pe_ix ix_list (pv 0) pe_int (fun _ _ => rfl)) (pv 1)) (pg_sub (pv 0) pe_int set_list))
        (pss_one (ps_ret (pv 2))))) pss_nil)
      (pss_cons (ps_set (i := 3) sc_l_take.nd rfl (Or.inl rfl) (pe_op op_mod (pe_op op_mul (pe_ix ix_list (pv 0) pe_int (fun _ _ => rfl)) pe_int) pe_int))
      (pss_cons (ps_asg (pe_op op_add (pe_op op_mod (pe_op op_add (pe_op op_mul (pv 3) pe_int) pe_int) pe_int) pe_int) (pg_sub (pv 0) pe_int set_list))
      (pss_one (ps_ret (pe_op op_mod (pe_op op_fdiv (pe_op op_add (pe_op op_mul (pv 3) pe_int) (pe_ix ix_list (pv 0) pe_int (fun _ _ => rfl))) pe_int) (pv 1))))))), ?_⟩
  refine ⟨_, rfl, f, _, 0, _, rfl, rfl, SqL.of hf, rfl, _, _, rfl, rfl, _, rfl, ?_⟩
  refine ite2 (fun c => ?_) (fun c => ?_)
  · refine ⟨_, rfl, f, _, 0, _, rfl, rfl, SqL.of hf, rfl, _, rfl, _, _, rfl, rfl, m0, ?_⟩
    refine ⟨_, rfl, f, _, 0, _, rfl, rfl, SqL.of hf, rfl, _, rfl, _, _, rfl, rfl, ⟨m0, m1⟩, _, rfl, f, _, 0, 0, rfl, rfl, hf, rfl, ?_⟩
    refine ⟨_, rfl, ?_⟩
    exact q _ _ (Int.emod_nonneg _ (by omega)) (Int.emod_lt_of_pos _ m0) ⟨_, _, upd_same, Int.ediv_nonneg o0 (by omega), s0, s1⟩ (SameBut.upd _)
  · have a0 := Int.emod_nonneg (st * 69621) (b := 2147483647) (by decide)
    have a1 := Int.emod_lt_of_pos (st * 69621) (b := 2147483647) (by decide)
    refine ⟨_, rfl, f, _, 1, _, rfl, rfl, SqL.of hf, rfl, _, _, rfl, rfl, .inr ⟨by decide, by decide⟩, _, _, rfl, rfl, (by show (0 : Int) < _; decide), ?_⟩
    refine ⟨_, rfl, _, _, rfl, rfl, .inr ⟨by decide, by decide⟩, _, _, rfl, rfl, _, _, rfl, rfl, (by show (0 : Int) < _; decide), _, _, rfl, rfl, _, rfl, f, _, 1, 1, rfl, rfl, hf, rfl, ?_⟩
    have b0 := Int.emod_nonneg (st * 69621 % 2147483647 * 48271 + 30103) (b := 2147483646) (by decide)
    have b1 := Int.emod_lt_of_pos (st * 69621 % 2147483647 * 48271 + 30103) (b := 2147483646) (by decide)
    refine ⟨_, rfl, _, _, rfl, rfl, .inr ⟨by decide, by decide⟩, _, rfl, f, _, 1, _, rfl, rfl, SqL.of upd_same, rfl, _, _, rfl, rfl, _, _, rfl, rfl, ⟨by decide, by decide⟩, _, rfl, _, _, rfl, rfl, m0, ?_⟩
    exact q _ _ (Int.emod_nonneg _ (by omega)) (Int.emod_lt_of_pos _ m0) ⟨_, _, upd_same, o0, by omega, by omega⟩ (SameBut.upd _)
def LET : Str := "abcdefghijklmnopqrstuvwxyz"
def FIG : Str := "0123456789"
def isIn (L : Str) (c : Nat) : Bool := !(Builtin.Str.occurrences L ⟨#[c]⟩ 0 L.length 1).isEmpty
def kept : List Str := ["yes", "no", "not", "and", "or", "odd", "same", "round", "due", "asked", "true", "coin"]
def nameB (z : Str) : Bool := decide (1 ≤ z.length) && decide (z.length ≤ 6) && !inV (.str z) (kept.map V.str) && z.cps.toList.all (isIn LET)
def figB (z : Str) : Bool := decide (1 ≤ z.length) && decide (z.length ≤ 12) && !(decide (1 < z.length) && Txt.startswith z "0") && z.cps.toList.all (isIn FIG)
theorem starts_zero {z : Str} {c : Nat} (h : z.cps.toList[0]? = some c) : Txt.startswith z "0" = decide (V.str ⟨#[c]⟩ = V.str "0") := by
  have q := StrLaws.subAt_one z 48 0
  have e0 : ("0" : Str) = ⟨#[48]⟩ := by decide +kernel
  unfold Txt.startswith
  rw [e0]
  by_cases hc : c = 48
  · subst hc
    have := q.mpr h
    rw [show decide (V.str (⟨#[48]⟩ : Str) = V.str ⟨#[48]⟩) = true from decide_eq_true rfl]
    simp only [Bool.and_eq_true, decide_eq_true_eq]
    exact this
  · have hne : ¬ (V.str (⟨#[c]⟩ : Str) = V.str ⟨#[48]⟩) := fun e => hc (by
      have := V.str.inj e
      injection this with this
      simpa using this)
    rw [show decide (V.str (⟨#[c]⟩ : Str) = V.str ⟨#[48]⟩) = false from decide_eq_false hne]
    rw [Bool.eq_false_iff]
    intro e
    simp only [Bool.and_eq_true, decide_eq_true_eq] at e
    have := q.mp e
    rw [h] at this
    exact hc (Option.some.inj this)
def spTxt (fB : Str → Bool) : Sp := fun vs H Q _ => ∃ z : Str, vs = [.str z] ∧ z.length ≤ 1000 ∧ ∀ H', Same H H' → Q (.bl (fB z)) H'
def spWord : Sp := fun vs H Q _ => ∃ f : Addr, vs = [.ref f] ∧ FeedAt H f ∧ ∀ (z : Str) (H' : Hp), z.length ≤ 100 → FeedAt H' f → SameBut f H H' → Q (.str z) H'
def spSpoilt : Sp := fun vs H Q _ => ∃ f : Addr, vs = [.ref f] ∧ FeedAt H f ∧ ∀ (z : Str) (H' : Hp), z.length ≤ 1000 → FeedAt H' f → SameBut f H H' → Q (.str z) H'
def spSigns : Sp := fun vs H Q _ => vs = [] ∧ ∀ z : Str, z.length = 94 → Q (.str z) H
def spRight : Sp := fun vs H Q _ => ∃ z : Str, vs = [.str z] ∧ z.length ≤ 1000 ∧ ∀ H', Same H H' → Q (.bl true) H'
/-! ### lists of codes put together with a sign that stands in none of them -/
def jn (c : Nat) : List (List Nat) → List Nat
  | [] => []
  | [a] => a
  | a :: b :: r => a ++ c :: jn c (b :: r)
theorem cut_at {c : Nat} : ∀ {a b x y : List Nat}, c ∉ a → c ∉ b → a ++ c :: x = b ++ c :: y → a = b ∧ x = y
  | [], [], _, _, _, _, h => ⟨rfl, (List.cons.inj h).2⟩
  | [], d :: b, x, y, _, hb, h => by
    have := (List.cons.inj h).1
    exact absurd (by rw [this]; exact List.mem_cons_self) hb
  | d :: a, [], x, y, ha, _, h => by
    have := (List.cons.inj h).1
    exact absurd (by rw [← this]; exact List.mem_cons_self) ha
  | d :: a, e :: b, x, y, ha, hb, h => by
    have h' := List.cons.inj h
    have r := cut_at (fun z => ha (List.mem_cons_of_mem _ z)) (fun z => hb (List.mem_cons_of_mem _ z)) h'.2
    exact ⟨by rw [h'.1, r.1], r.2⟩
theorem jn_inj {c : Nat} : ∀ {l m : List (List Nat)}, l ≠ [] → m ≠ [] → (∀ a ∈ l, c ∉ a) → (∀ a ∈ m, c ∉ a) → jn c l = jn c m → l = m
  | [], _, h, _, _, _, _ => absurd rfl h
  | _ :: _, [], _, h, _, _, _ => absurd rfl h
  | [a], [b], _, _, _, _, h => congrArg (fun z => [z]) h
  | [a], b :: d :: r, _, _, hl, _, h => by
    have : c ∈ a := by
      rw [show a = b ++ c :: jn c (d :: r) from h]
      simp
    exact absurd this (hl a List.mem_cons_self)
  | a :: d :: r, [b], _, _, _, hm, h => by
    have : c ∈ b := by
      rw [show b = a ++ c :: jn c (d :: r) from h.symm]
      simp
    exact absurd this (hm b List.mem_cons_self)
  | a :: d :: r, b :: e :: s, _, _, hl, hm, h => by
    have q := cut_at (hl a List.mem_cons_self) (hm b List.mem_cons_self) (show a ++ c :: jn c (d :: r) = b ++ c :: jn c (e :: s) from h)
    have := jn_inj (by simp) (by simp) (fun z hz => hl z (List.mem_cons_of_mem _ hz)) (fun z hz => hm z (List.mem_cons_of_mem _ hz)) q.2
    rw [q.1, this]
def cd (x : Str) : List Nat := x.cps.toList
theorem cd_inj {x y : Str} (h : cd x = cd y) : x = y := by
  have : x.cps = y.cps := Array.toList_inj.mp h
  cases x
  cases y
  exact congrArg Str.mk this
theorem cd_append (x y : Str) : cd (x ++ y) = cd x ++ cd y := by
  unfold cd
  rw [Str.cps_append]
  simp
theorem cd_join (c : Nat) : ∀ ps : List Str, cd (Str.join ⟨#[c]⟩ ps) = jn c (ps.map cd)
  | [] => rfl
  | [a] => rfl
  | a :: b :: r => by
    show cd (a ++ ⟨#[c]⟩ ++ Str.join ⟨#[c]⟩ (b :: r)) = cd a ++ c :: jn c ((b :: r).map cd)
    rw [cd_append, cd_append, cd_join c (b :: r)]
    simp [cd]
theorem join_tx (sep : Str) : ∀ ps : List Str, Txt.join sep ps = Str.join sep ps
  | [] => rfl
  | a :: r => StrLaws.glued_cons sep r a
theorem split_some (x y : Str) : Txt.split x y ≠ [] := by
  unfold Txt.split
  split
  · exact List.cons_ne_nil _ _
  · split
    · exact List.cons_ne_nil _ _
    · intro h
      have := length_partsBetween x (Builtin.Str.occurrences x y 0 x.length (x.length + 1)) y.length
      rw [h] at this
      simp at this
theorem map_cd_inj : ∀ {l m : List Str}, l.map cd = m.map cd → l = m
  | [], [], _ => rfl
  | [], _ :: _, h => by simp at h
  | _ :: _, [], h => by simp at h
  | a :: l, b :: m, h => by
    have h' := List.cons.inj h
    rw [cd_inj h'.1, map_cd_inj h'.2]
theorem split_join {c : Nat} {ps : List Str} (h0 : ps ≠ []) (hf : ∀ p ∈ ps, c ∉ cd p) : Txt.split (Str.join ⟨#[c]⟩ ps) ⟨#[c]⟩ = ps := by
  apply map_cd_inj
  refine jn_inj (c := c) (fun h => split_some _ _ (List.map_eq_nil_iff.mp h)) (fun h => h0 (List.map_eq_nil_iff.mp h)) ?_ ?_ ?_
  · intro a ha
    obtain ⟨p, hp, rfl⟩ := List.mem_map.mp ha
    exact StrLaws.split_free _ c p hp
  · intro a ha
    obtain ⟨p, hp, rfl⟩ := List.mem_map.mp ha
    exact hf p hp
  · rw [← cd_join, ← cd_join, StrLaws.join_split]
/-! ### numbers as texts -/
def numT (n : Int) : Str := toString n
theorem num_cd (m : Nat) : cd (numT (m : Int)) = (Nat.toDigits 10 m).map Char.toNat := PySem.W.KIN.signs_num m
theorem num_dig {n : Int} (h0 : 0 ≤ n) : ∀ c ∈ cd (numT n), 48 ≤ c ∧ c ≤ 57 := by
  obtain ⟨m, rfl⟩ := Int.eq_ofNat_of_zero_le h0
  intro c hc
  rw [num_cd] at hc
  obtain ⟨ch, hch, e⟩ := List.mem_map.mp hc
  rw [← e]
  exact PyProof.Rows.digit_range (Nat.isDigit_of_mem_toDigits (by decide) (by decide) hch)
theorem num_ne {n : Int} (h0 : 0 ≤ n) : cd (numT n) ≠ [] := by
  obtain ⟨m, rfl⟩ := Int.eq_ofNat_of_zero_le h0
  rw [num_cd]
  intro e
  have h := PySem.toDigits_len_ge 10 m
  rw [List.map_eq_nil_iff.mp e] at h
  exact absurd h (by decide)
theorem num_len {n : Int} (h0 : 0 ≤ n) (h1 : n < 1000000000000) : (numT n).length ≤ 12 := PyProof.Rows.toString_length_le h0 (by decide) (by show n < 10 ^ 12; omega)
theorem num_len1 {n : Int} (h0 : 0 ≤ n) : 1 ≤ (numT n).length := by
  have h := num_ne h0
  have e : (cd (numT n)).length = (numT n).length := rfl
  cases c : cd (numT n) with
  | nil => exact absurd c h
  | cons a r => rw [← e, c]; simp
theorem num_int {n : Int} (h0 : 0 ≤ n) (h1 : n < 1000000000000) : PySem.intText? (numT n) = some n := by
  have e := intText_digits (x := numT n) (num_dig h0) (num_ne h0) (Nat.le_trans (num_len h0 h1) (by decide))
  obtain ⟨m, rfl⟩ := Int.eq_ofNat_of_zero_le h0
  have e2 := num_cd m
  unfold cd at e2
  rw [e2, PySem.W.KIN.val_back] at e
  exact e
theorem head_ne (m : Nat) (h : 0 < m) : ∃ d r, Nat.toDigits 10 m = d :: r ∧ d.toNat ≠ 48 := by
  induction m using Nat.strongRecOn with
  | _ m ih =>
    by_cases c : m < 10
    · refine ⟨Nat.digitChar m, [], Nat.toDigits_of_lt_base c, ?_⟩
      have : ∀ d : Nat, d < 10 → 0 < d → (Nat.digitChar d).toNat ≠ 48 := by decide
      exact this m c h
    · have hm : m % 10 < 10 := Nat.mod_lt m (by decide)
      have t : Nat.toDigits 10 (m / 10) ++ Nat.toDigits 10 (m % 10) = Nat.toDigits 10 (10 * (m / 10) + m % 10) := Nat.toDigits_append_toDigits (by decide) (by omega) hm
      rw [Nat.div_add_mod] at t
      obtain ⟨d, r, e, hd⟩ := ih (m / 10) (by omega) (by omega)
      exact ⟨d, r ++ Nat.toDigits 10 (m % 10), by rw [← t, e]; rfl, hd⟩
theorem fig_in : ∀ c : Nat, c < 58 → 48 ≤ c → isIn FIG c = true := by decide +kernel
theorem num_fig {n : Int} (h0 : 0 ≤ n) (h1 : n < 1000000000000) : figB (numT n) = true := by
  unfold figB
  rw [decide_eq_true (num_len1 h0), decide_eq_true (num_len h0 h1)]
  have a : (cd (numT n)).all (isIn FIG) = true := List.all_eq_true.mpr fun c hc => by
    have := num_dig h0 c hc
    exact fig_in c (by omega) this.1
  have a' : (numT n).cps.toList.all (isIn FIG) = true := a
  rw [a']
  have b : (decide (1 < (numT n).length) && Txt.startswith (numT n) "0") = false := by
    by_cases c : 1 < (numT n).length
    · obtain ⟨m, rfl⟩ := Int.eq_ofNat_of_zero_le h0
      have hm : 0 < m := by
        apply Nat.pos_of_ne_zero
        intro z
        subst z
        revert c
        decide +kernel
      obtain ⟨d, r, e, hd⟩ := head_ne m hm
      have e0 : (numT (m : Int)).cps.toList[0]? = some d.toNat := by
        have := num_cd m
        unfold cd at this
        rw [this, e]
        rfl
      have z : decide (V.str (⟨#[d.toNat]⟩ : Str) = V.str "0") = false := decide_eq_false fun z => by
        have := V.str.inj z
        have e1 : ("0" : Str) = ⟨#[48]⟩ := by decide +kernel
        rw [e1] at this
        injection this with this
        have := congrArg Array.toList this
        simp at this
        exact hd this
      rw [starts_zero e0, z, Bool.and_false]
    · rw [decide_eq_false c]
      rfl
  rw [b]
  rfl
structure Bl (mg : Str → Option Value) : Prop where
  len : mg "len" = none
  range : mg "range" = none
  max : mg "max" = none
  isinstance : mg "isinstance" = none
  int : mg "int" = none
  bool : mg "bool" = none
  str : mg "str" = none
  all : mg "all" = none
  list : mg "list" = none
  tuple : mg "tuple" = none
  enumerate : mg "enumerate" = none
structure Tx (K : PySem.W.Frag) (mg : Str → Option Value) : Prop where
  figures : ∃ t, mg "FIGURES" = some (.str FIG t)
  most : ∃ t, mg "MOST_FIGURES" = some (.int 12 t)
theorem len_size (z : Str) : z.cps.size = z.length := rfl
theorem boot_str' : bootBuiltins "str" = some (.type "str") := by decide +kernel
theorem sc_is_figures : FnScope ["text"] ["text"] (defScope s_is_figures) := ⟨rfl, rfl, rfl, by decide +kernel, rfl, by decide +kernel, by decide +kernel⟩
theorem ok_is_figures {f : Addr} {fd : FuncData} (F : Fun K "is_figures" "is_figures" s_is_figures f fd) (B : Bl mg) (T : Tx K mg) : FnOk P w K mg base CX0 1 f fd ["text"] (spTxt figB) := by
  refine F.ok sc_is_figures (fun vs H Q E h => ?_) (fun cdv A outer s H vs Q E hr h => ?_)
  · obtain ⟨z, rfl, _⟩ := h
    rfl
  obtain ⟨z, rfl, hz, q⟩ := h
  obtain ⟨t1, g1⟩ := T.figures
  obtain ⟨t3, g3⟩ := T.most
  refine ⟨_, (pss_cons (ps_if (PW.pt (pw_or (pt_cmpR op_lt (pe_callB call_len_str rfl B.len PySem.boot_len (pa_cons (pv 0) pa_nil)) pe_int (nomark _)) (pw_or1 (pt_cmpR op_gt (pe_callB call_len_str rfl B.len PySem.boot_len (pa_cons (pv 0) pa_nil)) (pe_glob (v := .int 12) rfl g3 ⟨_, rfl⟩) (nomark _))))) (pss_one (ps_ret pe_bl)) pss_nil)
      (pss_cons (ps_if (PW.pt (pw_and (pt_cmpR op_gt (pe_callB call_len_str rfl B.len PySem.boot_len (pa_cons (pv 0) pa_nil)) pe_int (nomark _)) (pw_and1 (pt_val (pe_bm PySem.F.plainAttrs_str PySem.F.slot_str_startswith PySem.F.type_str_startswith mt_startswith (pv 0) (pa_cons pe_str pa_nil)))))) (pss_one (ps_ret pe_bl)) pss_nil)
      (pss_one (ps_ret (pe_callB (call_all rfl) rfl B.all PyProof.Rows.boot_all (pa_cons (pe_comp (N := []) (ix := []) (cl := []) rfl (CompScope.closed (by with_unfolding_all rfl) (by decide) rfl (by decide) rfl (by with_unfolding_all rfl)) rfl (pi_str (pv 0))
        (fun _ _ _ => pb_all (pe_cmpR op_in_str (pv 0) (pe_glob (v := .str FIG) rfl g1 ⟨_, rfl⟩) (by with_unfolding_all rfl)))) pa_nil)))))), ?_⟩
  have fls : figB z = false → Q (.bl false) H := fun e => by
    have := q H (Same.refl H)
    rw [e] at this
    exact this
  refine ⟨_, rfl, z, rfl, small hz, _, _, rfl, rfl, _, rfl, ?_⟩
  by_cases c1 : (z.length : Int) < 1
  · refine iteD c1 (iteT ?_)
    exact fls (by unfold figB; rw [decide_eq_false (show ¬ 1 ≤ z.length by omega)]; rfl)
  refine iteDF c1 ?_
  refine ⟨_, rfl, z, rfl, small hz, _, _, rfl, rfl, _, rfl, ?_⟩
  by_cases c2 : (12 : Int) < (z.length : Int)
  · refine iteD c2 ?_
    exact fls (by unfold figB; rw [decide_eq_false (show ¬ z.length ≤ 12 by omega)]; simp)
  refine iteDF c2 ?_
  refine ⟨_, rfl, z, rfl, small hz, _, _, rfl, rfl, _, rfl, ?_⟩
  by_cases c4 : (1 : Int) < (z.length : Int)
  · refine iteD c4 ?_
    refine ⟨_, rfl, rfl, z, _, rfl, rfl, _, rfl, ?_⟩
    cases c5 : Txt.startswith z "0" with
    | true =>
      refine iteT ?_
      exact fls (by unfold figB; rw [c5, decide_eq_true (show 1 < z.length by omega)]; simp)
    | false =>
      refine iteF ?_
      have c3 : (decide (1 < z.length) && Txt.startswith z "0") = false := by rw [c5]; simp
      refine ⟨_, rfl, z, rfl, fun D hD => ?_⟩
      refine comp_str (z := z) (fun i H' => H' D = some (.lst (((z.cps.toList.take i).map (isIn FIG)).map V.bl)) ∧ Same H H') ⟨by rw [upd_same]; rfl, Same.new hD _⟩ ?_ ?_
      · rintro i c H' hc ⟨hl, s0⟩
        have hi : i < z.cps.size := (Array.getElem?_eq_some_iff.mp hc).1
        rw [len_size] at hi
        refine ⟨_, rfl, _, _, rfl, rfl, _, hl, ?_, Nx.of hi ⟨?_, ?_⟩⟩
        · rw [List.length_map, List.length_map, List.length_take]
          exact small1000 (by omega)
        · rw [upd_same]
          have ec : z.cps.toList[i]? = some c := by simpa using hc
          rw [List.take_add_one, ec, List.map_append, List.map_append]
          rfl
        · intro b o e
          rw [upd_ne (ne_of_none e hD)]
          exact s0 b o e
      · rintro H' ⟨hl, s0⟩
        rw [show z.cps.toList.take z.cps.size = z.cps.toList by rw [← Array.length_toList]; exact List.take_length] at hl
        refine ⟨D, _, rfl, SqL.of hl, ?_⟩
        have e : figB z = (z.cps.toList.map (isIn FIG)).all id := by
          unfold figB
          rw [c3, decide_eq_true (show 1 ≤ z.length by omega), decide_eq_true (show z.length ≤ 12 by omega), List.all_map]
          rfl
        rw [← e]
        exact q H' s0
  · refine iteDF c4 ?_
    refine iteF ?_
    have c3 : (decide (1 < z.length) && Txt.startswith z "0") = false := by rw [decide_eq_false (show ¬ 1 < z.length by omega)]; rfl
    refine ⟨_, rfl, z, rfl, fun D hD => ?_⟩
    refine comp_str (z := z) (fun i H' => H' D = some (.lst (((z.cps.toList.take i).map (isIn FIG)).map V.bl)) ∧ Same H H') ⟨by rw [upd_same]; rfl, Same.new hD _⟩ ?_ ?_
    · rintro i c H' hc ⟨hl, s0⟩
      have hi : i < z.cps.size := (Array.getElem?_eq_some_iff.mp hc).1
      rw [len_size] at hi
      refine ⟨_, rfl, _, _, rfl, rfl, _, hl, ?_, Nx.of hi ⟨?_, ?_⟩⟩
      · rw [List.length_map, List.length_map, List.length_take]
        exact small1000 (by omega)
      · rw [upd_same]
        have ec : z.cps.toList[i]? = some c := by simpa using hc
        rw [List.take_add_one, ec, List.map_append, List.map_append]
        rfl
      · intro b o e
        rw [upd_ne (ne_of_none e hD)]
        exact s0 b o e
    · rintro H' ⟨hl, s0⟩
      rw [show z.cps.toList.take z.cps.size = z.cps.toList by rw [← Array.length_toList]; exact List.take_length] at hl
      refine ⟨D, _, rfl, SqL.of hl, ?_⟩
      have e : figB z = (z.cps.toList.map (isIn FIG)).all id := by
        unfold figB
        rw [c3, decide_eq_true (show 1 ≤ z.length by omega), decide_eq_true (show z.length ≤ 12 by omega), List.all_map]
        rfl
      rw [← e]
      exact q H' s0


inductive Rr where
  | coin (n : Int) | nums (w : Str) (ns : List Int)
def LIM : Int := 1000000000000
def Rr.ok : Rr → Prop
  | .coin n => 0 ≤ n ∧ n < LIM
  | .nums w ns => (w = "claims" ∨ w = "say") ∧ 1 ≤ ns.length ∧ ns.length ≤ 24 ∧ ∀ n ∈ ns, 0 ≤ n ∧ n < LIM
def Rr.word : Rr → Str
  | .coin _ => "coin"
  | .nums w _ => w
def Rr.ints : Rr → List Int
  | .coin n => [n]
  | .nums _ ns => ns
theorem Rr.ok_ints {r : Rr} (h : r.ok) : 1 ≤ r.ints.length ∧ r.ints.length ≤ 24 ∧ ∀ n ∈ r.ints, 0 ≤ n ∧ n < 1000000000000 := by
  cases r with
  | coin n => exact ⟨Nat.le_refl 1, by show 1 ≤ 24; decide, fun m hm => by rw [List.mem_singleton.mp hm]; exact h⟩
  | nums w ns => exact h.2
theorem Rr.ok_word {r : Rr} (h : r.ok) : r.word = "coin" ∨ r.word = "claims" ∨ r.word = "say" := by
  cases r with
  | coin n => exact .inl rfl
  | nums w ns => exact .inr h.1
def Rr.parts (r : Rr) : List Str := r.word :: r.ints.map numT
def SP : Str := ⟨#[32]⟩
def NL : Str := ⟨#[10]⟩
theorem sp_eq : (" " : Str) = SP := by decide +kernel
theorem nl_eq : ("\n" : Str) = NL := by decide +kernel
def Rr.text (r : Rr) : Str := Str.join SP r.parts
def talkT (rs : List Rr) : Str := Str.join NL (rs.map Rr.text)
theorem word_codes {r : Rr} (h : r.ok) : (∀ c ∈ cd r.word, 97 ≤ c ∧ c ≤ 122) ∧ r.word.length ≤ 6 ∧ 1 ≤ r.word.length := by
  rcases r.ok_word h with e | e | e <;> rw [e] <;> decide +kernel
theorem parts_codes {r : Rr} (h : r.ok) : ∀ p ∈ r.parts, (∀ c ∈ cd p, 48 ≤ c) ∧ p.length ≤ 12 := by
  intro p hp
  rcases List.mem_cons.mp hp with e | e
  · rw [e]
    have := word_codes h
    exact ⟨fun c hc => by have := this.1 c hc; omega, by omega⟩
  · obtain ⟨n, hn, rfl⟩ := List.mem_map.mp e
    have b := (r.ok_ints h).2.2 n hn
    exact ⟨fun c hc => (num_dig b.1 c hc).1, num_len b.1 b.2⟩
theorem parts_split {r : Rr} (h : r.ok) : Txt.split r.text SP = r.parts := split_join (c := 32) (List.cons_ne_nil _ _) fun p hp hc => by
  have := (parts_codes h p hp).1 32 hc
  omega
theorem mem_jn {c x : Nat} : ∀ {l : List (List Nat)}, x ∈ jn c l → x = c ∨ ∃ a ∈ l, x ∈ a
  | [], h => by cases h
  | [a], h => .inr ⟨a, List.mem_cons_self, h⟩
  | a :: b :: r, h => by
    rcases List.mem_append.mp (show x ∈ a ++ c :: jn c (b :: r) from h) with h | h
    · exact .inr ⟨a, List.mem_cons_self, h⟩
    · rcases List.mem_cons.mp h with h | h
      · exact .inl h
      · rcases mem_jn h with h | ⟨d, hd, h⟩
        · exact .inl h
        · exact .inr ⟨d, List.mem_cons_of_mem _ hd, h⟩
theorem text_free {r : Rr} (h : r.ok) : 10 ∉ cd r.text := fun hc => by
  unfold Rr.text SP at hc
  rw [cd_join] at hc
  rcases mem_jn hc with e | ⟨a, ha, e⟩
  · cases e
  · obtain ⟨p, hp, rfl⟩ := List.mem_map.mp ha
    have := (parts_codes h p hp).1 10 e
    omega
theorem sum_le {l : List Str} {b : Nat} (h : ∀ p ∈ l, p.length ≤ b) : (l.map (·.length)).sum ≤ l.length * b := by
  induction l with
  | nil => simp
  | cons a r ih =>
    have h1 := h a List.mem_cons_self
    have h2 := ih fun p hp => h p (List.mem_cons_of_mem _ hp)
    simp only [List.map_cons, List.sum_cons, List.length_cons]
    rw [Nat.succ_mul]
    omega
theorem parts_len (r : Rr) : r.parts.length = r.ints.length + 1 := by unfold Rr.parts; simp
theorem parts_sum {r : Rr} (h : r.ok) : (r.parts.map (·.length)).sum ≤ 300 := by
  have := sum_le fun p hp => (parts_codes h p hp).2
  have l := parts_len r
  have := (r.ok_ints h).2.1
  omega
theorem text_len {r : Rr} (h : r.ok) : r.text.length ≤ 400 := by
  have := StrLaws.join_length_le SP r.parts
  rw [show SP.length = 1 from rfl, Nat.mul_one] at this
  have s := parts_sum h
  have l := parts_len r
  have := (r.ok_ints h).2.1
  unfold Rr.text
  omega
theorem text_some {r : Rr} (h : r.ok) : cd r.text ≠ [] := by
  unfold Rr.text SP
  rw [cd_join]
  intro e
  have w := (word_codes h).2.2
  have hw : cd r.word ≠ [] := fun z => by
    have : (cd r.word).length = r.word.length := rfl
    rw [z] at this
    simp at this
    omega
  cases hp : r.ints.map numT with
  | nil =>
    have : r.parts = [r.word] := by unfold Rr.parts; rw [hp]
    rw [this] at e
    exact hw e
  | cons a l =>
    have : r.parts = r.word :: a :: l := by unfold Rr.parts; rw [hp]
    rw [this] at e
    have : cd r.word ++ 32 :: jn 32 ((a :: l).map cd) = [] := e
    simp at this
theorem talk_some {rs : List Rr} (h : ∀ r ∈ rs, r.ok) (h0 : rs ≠ []) : talkT rs ≠ "" := fun e => by
  have e1 : cd (talkT rs) = [] := by rw [e]; decide +kernel
  unfold talkT NL at e1
  rw [cd_join] at e1
  cases rs with
  | nil => exact h0 rfl
  | cons r l =>
    cases l with
    | nil => exact text_some (h r List.mem_cons_self) e1
    | cons a l =>
      have : cd r.text ++ 10 :: jn 10 (((a :: l).map Rr.text).map cd) = [] := e1
      simp at this
/-! ### rows and talks in the heap -/
inductive RowAt (H : Hp) : V → Rr → Prop
  | coin {a : Addr} {n : Int} : H a = some (.tup [.str "coin", .int n]) → RowAt H (.ref a) (.coin n)
  | nums {a b : Addr} {w : Str} {ns : List Int} : H a = some (.tup [.str w, .ref b]) → H b = some (.tup (ns.map V.int)) → RowAt H (.ref a) (.nums w ns)
theorem RowAt.keep {H H' : Hp} (k : ∀ a xs, H a = some (.tup xs) → H' a = some (.tup xs)) {v : V} {r : Rr} (h : RowAt H v r) : RowAt H' v r := by
  cases h with
  | coin e => exact .coin (k _ _ e)
  | nums e e2 => exact .nums (k _ _ e) (k _ _ e2)
inductive RowsAt (H : Hp) : List V → List Rr → Prop
  | nil : RowsAt H [] []
  | cons {v : V} {r : Rr} {vs : List V} {rs : List Rr} : RowAt H v r → RowsAt H vs rs → RowsAt H (v :: vs) (r :: rs)
theorem RowsAt.keep {H H' : Hp} (k : ∀ a xs, H a = some (.tup xs) → H' a = some (.tup xs)) {vs : List V} {rs : List Rr} (h : RowsAt H vs rs) : RowsAt H' vs rs := by
  induction h with
  | nil => exact .nil
  | cons a _ ih => exact .cons (a.keep k) ih
theorem RowsAt.same {H H' : Hp} (k : Same H H') {vs : List V} {rs : List Rr} (h : RowsAt H vs rs) : RowsAt H' vs rs := h.keep fun a _ e => k a _ e
theorem RowsAt.snoc {H : Hp} {vs : List V} {rs : List Rr} {v : V} {r : Rr} (h : RowsAt H vs rs) (a : RowAt H v r) : RowsAt H (vs ++ [v]) (rs ++ [r]) := by
  induction h with
  | nil => exact .cons a .nil
  | cons b _ ih => exact .cons b ih
theorem RowsAt.len {H : Hp} {vs : List V} {rs : List Rr} (h : RowsAt H vs rs) : vs.length = rs.length := by
  induction h with
  | nil => rfl
  | cons _ _ ih => simp [ih]
def Rr.data : Rr → PyData
  | .coin n => .tuple [.str "coin", .int n]
  | .nums w ns => .tuple [.str w, .tuple (ns.map PyData.int)]
theorem RowAt.rep {K : PySem.W.Frag} {H : Hp} {v : V} {r : Rr} (h : RowAt H v r) : Rep K H v r.data := by
  cases h with
  | coin e => exact .tup (SqT.of e) (.cons (.str _) (.cons (.int _) .nil))
  | nums e e2 => exact .tup (SqT.of e) (.cons (.str _) (.cons (.tup (SqT.of e2) (rep_ints _)) .nil))
theorem RowsAt.rep {K : PySem.W.Frag} {H : Hp} {vs : List V} {rs : List Rr} (h : RowsAt H vs rs) : RepAll K H vs (rs.map Rr.data) := by
  induction h with
  | nil => exact .nil
  | cons a _ ih => exact .cons a.rep ih
theorem strOk_of {x : Str} (h : ∀ c ∈ cd x, c < 1000) : PyData.strOk x = true := by
  unfold PyData.strOk
  rw [← Array.all_toList, List.all_eq_true]
  intro c hc
  have := h c hc
  exact decide_eq_true (by omega)
theorem rr_ok {r : Rr} (h : r.ok) : r.data.canLay0 = true ∧ r.data.depth ≤ 3 := by
  have w := strOk_of (x := r.word) fun c hc => by have := (word_codes h).1 c hc; omega
  cases r with
  | coin n =>
    have w' : PyData.strOk "coin" = true := w
    simp [Rr.data, PyData.canLay0, PyData.depth, PyData.canLayAll0, PyData.depthAll, w']
  | nums z ns =>
    have w' : PyData.strOk z = true := w
    simp [Rr.data, PyData.canLay0, PyData.depth, PyData.canLayAll0, PyData.depthAll, PySem.W.ke_canLayAll0, PySem.W.ke_depthAll, w']
theorem rrs_ok : ∀ {rs : List Rr}, (∀ r ∈ rs, r.ok) → PyData.canLayAll0 (rs.map Rr.data) = true ∧ PyData.depthAll (rs.map Rr.data) ≤ 3
  | [], _ => by simp [PyData.canLayAll0, PyData.depthAll]
  | r :: rs, h => by
    have h1 := rr_ok (h r List.mem_cons_self)
    have h2 := rrs_ok fun x hx => h x (List.mem_cons_of_mem _ hx)
    simp only [List.map_cons, PyData.canLayAll0, PyData.depthAll, h1.1, h2.1]
    exact ⟨rfl, by omega⟩
theorem talk_shaped {rs : List Rr} (ok : ∀ r ∈ rs, r.ok) : SeqAt.shaped (.tuple (rs.map Rr.data)) = true := by
  have h := rrs_ok ok
  unfold SeqAt.shaped
  rw [PyData.canLay0, h.1, Bool.true_and, decide_eq_true_eq]
  show PyData.depthAll _ + 1 ≤ 64
  omega
theorem talk_eqv {rs : List Rr} (ok : ∀ r ∈ rs, r.ok) : PyData.eqv (.tuple (rs.map Rr.data)) (.tuple (rs.map Rr.data)) = true := PySem.SeqAt.eqv_refl _ (SeqAt.canLay_of_shaped (talk_shaped ok))
abbrev s_AskError : Stmt := inClass (top 1) 0
abbrev s_NoText : Stmt := inClass (top 2) 0
abbrev s_Twice : Stmt := inClass (top 3) 0
abbrev s_NoName : Stmt := inClass (top 4) 0
abbrev s_NoField : Stmt := inClass (top 5) 0
abbrev s_SmallField : Stmt := inClass (top 6) 0
abbrev s_NoRow : Stmt := inClass (top 7) 0
abbrev s_NoTurn : Stmt := inClass (top 8) 0
abbrev s_NoCount : Stmt := inClass (top 9) 0
abbrev s_NoNumber : Stmt := inClass (top 10) 0
abbrev s_TooMany : Stmt := inClass (top 11) 0
/-- values that stand in the texts of refusals -/
def FmOk (v : V) : Prop := (∃ i : Int, v = .int i ∧ 0 ≤ i ∧ i < 1000000000000) ∨ (∃ y : Str, v = .str y ∧ y.length ≤ 20) ∨ v = .non
theorem log_small {n : Int} (h0 : 0 ≤ n) (h1 : n < 1000000000000) : n.natAbs.log2 < 1920 := by
  have h2 : n.natAbs < 2 ^ 40 := by omega
  by_cases c : n.natAbs = 0
  · rw [c]
    decide
  · have := (Nat.log2_lt c).mpr h2
    omega
theorem FmOk.fm {v : V} (h : FmOk v) : ∃ y, FmV v y ∧ y.length ≤ 60 := by
  rcases h with ⟨i, rfl, h0, h1⟩ | ⟨y, rfl, hy⟩ | rfl
  · exact ⟨_, .inl ⟨i, rfl, log_small h0 h1, rfl⟩, Nat.le_trans (PyProof.Rows.toString_length_le h0 (k := 12) (by decide) (by show i < 10 ^ 12; omega)) (by decide)⟩
  · exact ⟨y, .inr (.inl rfl), by omega⟩
  · exact ⟨_, .inr (.inr ⟨rfl, rfl⟩), by decide +kernel⟩
theorem fl1 {a : Str} (ha : a.length ≤ 60) : (Str.empty ++ a).length ≤ sizeLine := by
  rw [Str.length_append]
  have : Str.empty.length = 0 := rfl
  exact small (by omega)
theorem fl2 {a b : Str} (ha : a.length ≤ 60) (hb : b.length ≤ 60) : ((Str.empty ++ a) ++ b).length ≤ sizeLine := by
  rw [Str.length_append, Str.length_append]
  have : Str.empty.length = 0 := rfl
  exact small (by omega)
def spAI (K : PySem.W.Frag) : Sp := fun vs H Q _ => ∃ (e C f : Addr) (x : V), vs = [.ref e, x] ∧ H e = some (ExcN C e) ∧ MkX K C f ∧ Q .non H
theorem sc_AskError : FnScope ["self", "words"] ["self", "words"] (defScope s_AskError) := ⟨rfl, rfl, rfl, by decide +kernel, rfl, by decide +kernel, by decide +kernel⟩
theorem ok_AskError {f : Addr} {fd : FuncData} {dV : Value} (F : FunD K "__init__" "AskError.__init__" s_AskError f fd dV) (hV : mg "ValueError" = none) : FnOk P w K mg base CX0 1 f fd ["self", "words"] (spAI K) := by
  refine F.ok sc_AskError (fun vs H Q E h => ?_) (fun cdv A outer s H vs Q E hr h => ?_)
  · obtain ⟨e, C, f, x, rfl, _⟩ := h
    rfl
  obtain ⟨e, C, f, x, rfl, he, M, q⟩ := h
  refine ⟨_, pss_one (ps_expr (pe_valinit rfl hV (pa_cons (pv 0) (pa_cons (pv 1) pa_nil)))), ?_⟩
  exact ⟨_, rfl, _, rfl, e, C, f, x, rfl, he, M, q⟩
def spXI (C : Addr) (a : Str) : Sp := fun vs H Q _ => ∃ (e : Addr) (v : V), vs = [.ref e, v] ∧ H e = some (ExcN C e) ∧ FmOk v ∧ ∀ dx, H dx = none → dx ≠ e → Q .non (upd (upd H dx (.xd [(a, v)])) e (ExcD C e dx))
structure AskC (P : Program) (w : World) (K : PySem.W.Frag) (mg : Str → Option Value) (base : Heap) (CA fA : Addr) (fdA : FuncData) : Prop where
  g : mg "AskError" = some (.ref CA)
  c : ClsFn K CA fA "__init__"
  ok : FnOk P w K mg base CX0 1 fA fdA ["self", "words"] (spAI K)
  b : Binds K fdA ["self", "words"] []
section
variable {CA fA : Addr} {fdA : FuncData}
theorem sc_NoText : FnScope ["self", "row"] ["self", "row"] (defScope s_NoText) := ⟨rfl, rfl, rfl, by decide +kernel, rfl, by decide +kernel, by decide +kernel⟩
theorem ok_NoText {f C : Addr} {fd : FuncData} {dV : Value} (F : FunD K "__init__" "NoText.__init__" s_NoText f fd dV) (T : AskC P w K mg base CA fA fdA) (M : MkX K C f) (c : ClsX K C CA) (na : NoAttr K C "row") : FnOk P w K mg base CX0 2 f fd ["self", "row"] (spXI C "row") := by
  refine F.ok sc_NoText (fun vs H Q E h => ?_) (fun cdv A outer s H vs Q E hr h => ?_)
  · obtain ⟨e, v, rfl, _⟩ := h
    rfl
  obtain ⟨e, v, rfl, he, hv, q⟩ := h
  refine ⟨_, pss_cons (ps_expr (pe_clscall rfl T.g T.c T.ok hr T.b .nil pass0 (pa_cons (pv 0) (pa_cons (pe_fstr (pj_cons pe_str (pj_cons (pe_fmtV (pv 1)) pj_nil))) pa_nil)))) (pss_one (ps_fldX (pv 0) (pv 1) rfl)), ?_⟩
  obtain ⟨y, fy, hy⟩ := hv.fm
  refine ⟨_, rfl, _, rfl, fl1 (by decide +kernel), _, rfl, y, fy, Nat.le_trans hy (by decide), y, rfl, fl2 (by decide +kernel) hy, fl2 (by decide +kernel) hy, ?_⟩
  refine ⟨e, C, f, _, rfl, he, M, ?_⟩
  exact ⟨_, rfl, _, rfl, e, C, CA, rfl, he, c, na, q⟩
end
/-! ### rows of talks, good and bad, by their words -/
def Bad (ps : List Str) : Prop := ∃ w fs, ps = w :: fs ∧ (fs = [] ∨ (∃ p ∈ fs, figB p = false) ∨ ∃ ns : List Int, fs = ns.map numT ∧ (∀ n ∈ ns, 0 ≤ n ∧ n < 1000000000000) ∧ w ≠ "claims" ∧ w ≠ "say" ∧ (w ≠ "coin" ∨ 1 < ns.length))
def Wide (ps : List Str) : Prop := 1 ≤ ps.length ∧ ps.length ≤ 40 ∧ ∀ p ∈ ps, p.length ≤ 1000 ∧ ∀ c ∈ cd p, c < 1000
structure Mkr (P : Program) (w : World) (K : PySem.W.Frag) (mg : Str → Option Value) (base : Heap) (C : Addr) (a : Str) (f : Addr) (fd : FuncData) : Prop where
  made : MkX K C f
  ok : FnOk P w K mg base CX0 2 f fd ["self", a] (spXI C a)
  b : Binds K fd ["self", a] []
  na : NoAttr K C a
theorem ex_made {H : Hp} {e dx C : Addr} {a : Str} {v : V} (h0 : H e = none) (h1 : upd H e (ExcN C e) dx = none) (h2 : dx ≠ e) : Same H (upd (upd (upd H e (ExcN C e)) dx (.xd [(a, v)])) e (ExcD C e dx)) ∧ Ex (upd (upd (upd H e (ExcN C e)) dx (.xd [(a, v)])) e (ExcD C e dx)) e C a v := by
  rw [upd_ne h2] at h1
  refine ⟨fun b o hb => ?_, dx, upd_same, ?_⟩
  · rw [upd_ne (ne_of_none hb h0), upd_ne (ne_of_none hb h1), upd_ne (ne_of_none hb h0)]
    exact hb
  · rw [upd_ne h2, upd_same]
theorem mk_sp {H : Hp} {C e : Addr} {a : Str} {v : V} {Q : VK} {E : XK} (hv : FmOk v) (he : H e = none) (h : ∀ H2, Same H H2 → Ex H2 e C a v → Q .non H2) : spXI C a [.ref e, v] (upd H e (ExcN C e)) Q E := by
  refine ⟨e, v, rfl, upd_same, hv, fun dx h1 h2 => ?_⟩
  obtain ⟨s, x⟩ := ex_made (a := a) (v := v) he h1 h2
  exact h _ s x
theorem lk1 (f : Str) (v : V) : ([(f, v)] : List (Str × V)).lookup f = some v := by simp [List.lookup]
/-- the wish of a raise, as the contracts have it -/
def RaisesRow (C : Addr) (k : Int) (H : Hp) (E : XK) : Prop := ∀ (e dx : Addr) (H' : Hp), Same H H' → H' e = some (ExcT C e dx) → H' dx = some (.xd [("row", .int k)]) → E (.ref e) (some dx) H'
theorem raise_row {C CA : Addr} {K : PySem.W.Frag} {k : Int} {H H1 : Hp} {E : XK} {e : Addr} {G : Hp} (c : ClsX K C CA) (r : RaisesRow C k H E) (S : Same H H1) (ze : H1 e = none) (s4 : Same H1 G) (x4 : Ex G e C "row" (.int k)) :
    ∃ e' C' CA dx, V.ref e = .ref e' ∧ G e' = some (ExcD C' e' dx) ∧ ClsX K C' CA ∧ E (.ref e') (some dx) (upd G e' (ExcT C' e' dx)) := by
  obtain ⟨dx, e1, e2⟩ := x4
  have hde : dx ≠ e := fun z => by
    rw [z, e1] at e2
    cases e2
  refine ⟨e, C, CA, dx, rfl, e1, c, r e dx _ (fun b o hb => ?_) upd_same (by rw [upd_ne hde]; exact e2)⟩
  have hb3 := S b o hb
  rw [upd_ne (ne_of_none hb3 ze)]
  exact s4 _ _ hb3
theorem RaisesRow.same {C : Addr} {k : Int} {H H1 : Hp} {E : XK} (r : RaisesRow C k H E) (S : Same H H1) : RaisesRow C k H1 E := fun e dx H' s => r e dx H' (S.trans s)
theorem eqv_ss (ss : List Str) : PyData.eqv (.list (ss.map PyData.str)) (.list []) = decide (ss = []) := by
  cases ss <;> simp [PyData.eqv, PyData.eqvAll]
theorem rep_ss {K : PySem.W.Frag} {H : Hp} : ∀ ss : List Str, RepAll K H (ss.map V.str) (ss.map PyData.str)
  | [] => .nil
  | n :: r => .cons (.str n) (rep_ss r)
theorem strs_ok : ∀ {ss : List Str}, (∀ x ∈ ss, ∀ c ∈ cd x, c < 1000) → PyData.canLayAll0 (ss.map PyData.str) = true ∧ PyData.depthAll (ss.map PyData.str) ≤ 1
  | [], _ => by simp [PyData.canLayAll0, PyData.depthAll]
  | r :: rs, h => by
    have h1 := strOk_of (h r List.mem_cons_self)
    have h2 := strs_ok fun x hx => h x (List.mem_cons_of_mem _ hx)
    simp only [List.map_cons, PyData.canLayAll0, PyData.depthAll, h2.1, PyData.canLay0, PyData.depth, h1]
    exact ⟨rfl, by omega⟩
theorem shaped_ss {ss : List Str} (hs : ∀ x ∈ ss, ∀ c ∈ cd x, c < 1000) : SeqAt.shaped (.list (ss.map PyData.str)) = true := by
  have h := strs_ok hs
  unfold SeqAt.shaped
  rw [PyData.canLay0, h.1, Bool.true_and, decide_eq_true_eq]
  show PyData.depthAll _ + 1 ≤ 64
  omega
theorem cut_from {xs : List V} {k : Nat} (hk : k ≤ xs.length) : cutV xs (some (k : Int)) none = xs.drop k := by
  unfold cutV
  rw [HT.sIx_none, HT.sIx_nat, Nat.min_eq_left hk]
  exact List.take_of_length_le (by rw [List.length_drop]; exact Nat.le_refl _)
/-- what talk_row makes of a row: its words are those of r, or they are bad -/
def spTalkRX (C : Addr) : Sp := fun vs H Q E => ∃ (x : Str) (k : Nat) (ps : List Str), vs = [.str x, .int (k : Int)] ∧ k ≤ 1000 ∧ x.length ≤ 1000 ∧ Txt.split x " " = ps ∧ Wide ps ∧ ((∃ r : Rr, r.ok ∧ ps = r.parts ∧ ∀ v H', Same H H' → RowAt H' v r → Q v H') ∨ (Bad ps ∧ RaisesRow C (k : Int) H E))
theorem sc_talk_row : FnScope ["text", "number", "words", "word", "figures", "values"] ["text", "number"] (defScope s_talk_row) := ⟨rfl, rfl, rfl, by decide +kernel, rfl, by decide +kernel, by decide +kernel⟩
theorem fm_ix {i : Nat} (h : i ≤ 1000) : FmOk (.int (i : Int)) := .inl ⟨_, rfl, by omega, by omega⟩
theorem ok_talk_row {f f0 C CA : Addr} {fd fd0 : FuncData} (F : Fun K "talk_row" "talk_row" s_talk_row f fd) (B : Bl mg) (g0 : mg "NoText" = some (.ref C)) (cl : ClsX K C CA) (M0 : Mkr P w K mg base C "row" f0 fd0) (C_is_figures : Cal P w K mg base 1 "is_figures" ["text"] (spTxt figB)) : FnOk P w K mg base (CXr P w) 4 f fd ["text", "number"] (spTalkRX C) := by
  refine F.okX sc_talk_row (fun vs H Q E h => ?_) (fun cdv A outer s H vs Q E hr h => ?_)
  · obtain ⟨x, k, ps, rfl, _⟩ := h
    rfl
  obtain ⟨x, k, ps, rfl, k1, xl, hsp, ⟨pl1, pl2, pw⟩, gb⟩ := h
  refine ⟨_, (pss_cons (ps_set (i := 2) sc_talk_row.nd rfl (Or.inl rfl) (pe_bm PySem.F.plainAttrs_str PySem.F.slot_str_split PySem.F.type_str_split mt_split (pv 0) (pa_cons pe_str pa_nil)))
      (pss_cons (ps_set (i := 3) sc_talk_row.nd rfl (Or.inl rfl) (pe_ix ix_list (pv 2) pe_int (fun _ _ => rfl)))
      (pss_cons (ps_set (i := 4) sc_talk_row.nd rfl (Or.inl rfl) (pe_slice sl_list (pv 2) (po_some pe_int) po_none))
      (pss_cons (ps_if (PW.pt (pw_or (pt_cmpR (op_eqD hr.units) (pv 4) (pe_lst pa_nil) (nomark _)) (pw_or1 (pt_not (pt_val (pe_callB (call_all rfl) rfl B.all PyProof.Rows.boot_all (pa_cons (pe_comp (N := []) (ix := []) (cl := []) rfl
          (CompScope.closed (by with_unfolding_all rfl) (by decide) rfl (by decide) rfl (by with_unfolding_all rfl)) rfl (pi_list (pv 4)) (fun _ _ _ => pb_all (pe_cal C_is_figures hr (by decide) rfl (pa_cons (pv 0) pa_nil)))) pa_nil))))))) (pss_one (ps_raise (pe_makeX M0.made M0.ok hr rfl g0 M0.b .nil pass0 (pa_cons (pv 1) pa_nil)))) pss_nil)
      (pss_cons (ps_set (i := 5) sc_talk_row.nd rfl (Or.inl rfl) (pe_callTy call_tuple_of rfl B.tuple boot_tuple' (pa_cons (pe_comp (N := []) (ix := []) (cl := []) rfl
          (CompScope.closed (by with_unfolding_all rfl) (by decide) rfl (by decide) rfl (by with_unfolding_all rfl)) rfl (pi_list (pv 4)) (fun _ _ _ => pb_all (pe_callTy call_int_text rfl B.int boot_int' (pa_cons (pv 0) pa_nil)))) pa_nil)))
      (pss_cons (ps_if (PW.pt (pw_or (pt_cmpR op_eq (pv 3) pe_str (nomark _)) (pw_or1 (pt_cmpR op_eq (pv 3) pe_str (nomark _))))) (pss_one (ps_ret (pe_tup (pa_cons (pv 3) (pa_cons (pv 5) pa_nil))))) pss_nil)
      (pss_cons (ps_if (PW.pt (pw_or (pt_cmpR op_ne (pv 3) pe_str (nomark _)) (pw_or1 (pt_cmpR op_gt (pe_callB call_len_seq rfl B.len PySem.boot_len (pa_cons (pv 5) pa_nil)) pe_int (nomark _))))) (pss_one (ps_raise (pe_makeX M0.made M0.ok hr rfl g0 M0.b .nil pass0 (pa_cons (pv 1) pa_nil)))) pss_nil)
      (pss_one (ps_ret (pe_tup (pa_cons (pv 3) (pa_cons (pe_ix ix_tup (pv 5) pe_int (fun _ _ => rfl)) pa_nil)))))))))))), ?_⟩
  refine ⟨_, rfl, rfl, _, _, rfl, rfl, (by decide +kernel), by omega, by rw [hsp]; omega, fun a ha => ?_⟩
  rw [hsp]
  obtain ⟨w, fs, rfl⟩ : ∃ w fs, ps = w :: fs := by
    match ps, pl1 with
    | w :: fs, _ => exact ⟨w, fs, rfl⟩
  have fl : fs.length ≤ 39 := by
    rw [List.length_cons] at pl2
    omega
  have Ga := Same.new ha (.lst ((w :: fs).map V.str))
  have ga : upd H a (.lst ((w :: fs).map V.str)) a = some (.lst ((w :: fs).map V.str)) := upd_same
  generalize upd H a (.lst ((w :: fs).map V.str)) = H1 at Ga ga
  refine ⟨_, rfl, a, _, 0, .str w, rfl, rfl, SqL.of ga, atI_nat (j := 0) rfl, ?_⟩
  refine ⟨_, rfl, 1, rfl, a, _, rfl, SqL.of ga, fun b hb => ?_⟩
  have ec : cutV ((w :: fs).map V.str) (some 1) none = fs.map V.str := cut_from (k := 1) (by rw [List.length_map, List.length_cons]; omega)
  rw [ec]
  have Gb := Same.new hb (.lst (fs.map V.str))
  have gb' : upd H1 b (.lst (fs.map V.str)) b = some (.lst (fs.map V.str)) := upd_same
  generalize upd H1 b (.lst (fs.map V.str)) = H2 at Gb gb'
  refine ⟨_, rfl, Nat.zero_le _, fun e he => ?_⟩
  have Ge := Same.new he (.lst [])
  have ge : upd H2 e (.lst []) e = some (.lst []) := upd_same
  generalize upd H2 e (.lst []) = H3 at Ge ge
  have gb3 := Ge _ _ gb'
  have S03 := Ga.trans (Gb.trans Ge)
  refine ⟨_, _, .lst (SqL.of gb3) (rep_ss _), .lst (SqL.of ge) .nil, shaped_ss (fun x hx c hc => (pw x (List.mem_cons_of_mem _ hx)).2 c hc), shaped_ss (ss := []) (fun x hx => by cases hx), _, rfl, ?_⟩
  rw [eqv_ss]
  by_cases f0 : fs = []
  · rw [decide_eq_true f0]
    refine iteT ?_
    subst f0
    have rr : RaisesRow C (k : Int) H E := by
      rcases gb with ⟨r, ok, e, _⟩ | ⟨_, r⟩
      · have := r.ok_ints ok
        have e2 := congrArg List.length e
        rw [parts_len] at e2
        simp at e2
        rw [e2] at this
        simp at this
      · exact r
    exact ⟨_, rfl, (by show 1 ≤ sizeLine; decide), fun e ze => mk_sp (fm_ix k1) ze fun G4 s4 x4 => ⟨rfl, raise_row cl rr S03 ze s4 x4⟩⟩
  rw [decide_eq_false f0]
  refine iteF ?_
  refine ⟨_, rfl, b, rfl, ⟨_, SqL.of gb3⟩, fun D hD => ?_⟩
  refine comp_list (K := K) (xs := fs.map V.str) (fun i H' => H' D = some (.lst (((fs.take i).map figB).map V.bl)) ∧ Same H3 H') ⟨by rw [upd_same]; rfl, Same.new hD _⟩ (fun i H' _ h => SqL.of (h.2 _ _ gb3)) ?_ ?_
  · rintro i z H4 hz ⟨hD4, S4⟩
    have hi := (List.getElem?_eq_some_iff.mp hz).1
    rw [List.getElem?_map] at hz
    obtain ⟨x, hx, rfl⟩ := Option.map_eq_some_iff.mp hz
    have bx := (pw x (List.mem_cons_of_mem _ (List.mem_of_getElem? hx))).1
    refine ⟨_, rfl, x, rfl, bx, fun H5 S5 => ?_⟩
    refine ⟨_, S5 _ _ hD4, ?_, Nx.of hi ⟨?_, fun b o e => ?_⟩⟩
    · rw [List.length_map, List.length_map, List.length_take]
      exact small1000 (by omega)
    · rw [upd_same, List.take_add_one, hx, List.map_append, List.map_append]
      rfl
    · rw [upd_ne (ne_of_none e hD)]
      exact S5 _ _ (S4 _ _ e)
  rintro H4 ⟨hD4, S4⟩
  rw [List.length_map, List.take_length] at hD4
  refine ⟨D, _, rfl, SqL.of hD4, _, rfl, ?_⟩
  have S04 := S03.trans S4
  by_cases fa : (fs.map figB).all id = true
  case neg =>
    rw [Bool.eq_false_iff.mpr fa]
    refine iteT ?_
    have rr : RaisesRow C (k : Int) H E := by
      rcases gb with ⟨r, ok, e, _⟩ | ⟨_, r⟩
      · exfalso
        refine fa ?_
        have e2 : fs = r.ints.map numT := (List.cons.inj e).2
        rw [e2, List.all_eq_true]
        intro b' hb'
        obtain ⟨p, hp, rfl⟩ := List.mem_map.mp hb'
        obtain ⟨m, hm, rfl⟩ := List.mem_map.mp hp
        have := (r.ok_ints ok).2.2 m hm
        exact num_fig this.1 this.2
      · exact r
    exact ⟨_, rfl, (by show 1 ≤ sizeLine; decide), fun e ze => mk_sp (fm_ix k1) ze fun G4 s4 x4 => ⟨rfl, raise_row cl rr S04 ze s4 x4⟩⟩
  rw [fa]
  refine iteF ?_
  have gb4 := S4 _ _ gb3
  obtain ⟨ns, rfl, nok, fate⟩ : ∃ ns : List Int, fs = ns.map numT ∧ (∀ n ∈ ns, 0 ≤ n ∧ n < 1000000000000) ∧ ((∃ r : Rr, r.ok ∧ r.word = w ∧ r.ints = ns ∧ ∀ v H', Same H H' → RowAt H' v r → Q v H') ∨ (w ≠ "claims" ∧ w ≠ "say" ∧ (w ≠ "coin" ∨ 1 < ns.length) ∧ RaisesRow C (k : Int) H E)) := by
    rcases gb with ⟨r, ok, e, q⟩ | ⟨⟨w', fs', e, h⟩, rr⟩
    · exact ⟨r.ints, (List.cons.inj e).2, (r.ok_ints ok).2.2, .inl ⟨r, ok, (List.cons.inj e).1.symm, rfl, q⟩⟩
    · obtain ⟨rfl, rfl⟩ := List.cons.inj e
      rcases h with h | ⟨p, hp, hb'⟩ | ⟨ns, rfl, nok, h1, h2, h3⟩
      · exact absurd h f0
      · have := List.all_eq_true.mp fa _ (List.mem_map_of_mem hp)
        rw [hb'] at this
        cases this
      · exact ⟨ns, rfl, nok, .inr ⟨h1, h2, h3, rr⟩⟩
  refine ⟨_, rfl, b, rfl, ⟨_, SqL.of gb4⟩, fun D2 hD2 => ?_⟩
  refine comp_list (K := K) (xs := (ns.map numT).map V.str) (fun i H' => H' D2 = some (.lst ((ns.take i).map V.int)) ∧ Same H4 H') ⟨by rw [upd_same]; rfl, Same.new hD2 _⟩ (fun i H' _ h => SqL.of (h.2 _ _ gb4)) ?_ ?_
  · rintro i z H5 hz ⟨hD5, S5⟩
    have hi := (List.getElem?_eq_some_iff.mp hz).1
    rw [List.getElem?_map, List.getElem?_map, Option.map_map] at hz
    obtain ⟨m, hm, rfl⟩ := Option.map_eq_some_iff.mp hz
    have bm := nok m (List.mem_of_getElem? hm)
    have ml := num_len bm.1 bm.2
    refine ⟨_, rfl, numT m, m, rfl, num_int bm.1 bm.2, by omega, ?_⟩
    refine ⟨_, hD5, ?_, Nx.of hi ⟨?_, fun b o e => ?_⟩⟩
    · rw [List.length_map, List.length_take]
      rw [List.length_map] at fl
      exact small1000 (by omega)
    · rw [upd_same, List.take_add_one, hm, List.map_append]
      rfl
    · rw [upd_ne (ne_of_none e hD2)]
      exact S5 _ _ e
  rintro H5 ⟨hD5, S5⟩
  rw [List.length_map, List.length_map, List.take_length] at hD5
  refine ⟨D2, _, rfl, .inl ⟨SqL.of hD5, fun t ht => ?_⟩⟩
  have Gt := Same.new ht (.tup (ns.map V.int))
  have gt : upd H5 t (.tup (ns.map V.int)) t = some (.tup (ns.map V.int)) := upd_same
  generalize upd H5 t (.tup (ns.map V.int)) = H6 at Gt gt
  have S06 : Same H H6 := S04.trans (S5.trans Gt)
  rcases fate with ⟨r, ok, hw, hi, q⟩ | ⟨h1, h2, h3, rr⟩
  · subst hw hi
    cases r with
    | coin n =>
      refine ⟨_, rfl, rfl, _, rfl, ?_⟩
      refine iteDF (by show ¬ V.str "coin" = V.str "claims"; decide +kernel) ?_
      refine ⟨_, rfl, rfl, _, rfl, ?_⟩
      refine iteDF (by show ¬ V.str "coin" = V.str "say"; decide +kernel) ?_
      refine ⟨_, rfl, rfl, _, rfl, ?_⟩
      refine iteNS rfl ?_
      refine ⟨_, rfl, t, _, rfl, .inr (SqT.of gt), _, _, rfl, rfl, _, rfl, ?_⟩
      refine iteDF (by show ¬ (1 : Int) < 1; decide) ?_
      refine ⟨_, rfl, _, rfl, t, _, 0, .int n, rfl, rfl, SqT.of gt, rfl, (by show 2 ≤ sizeLine; decide), fun o ho => ?_⟩
      exact q _ _ (S06.trans (Same.new ho _)) (.coin upd_same)
    | nums w ns =>
      refine ⟨_, rfl, rfl, _, rfl, ?_⟩
      have go : ∀ o, H6 o = none → Q (.ref o) (upd H6 o (.tup [.str w, .ref t])) := fun o ho => q _ _ (S06.trans (Same.new ho _)) (.nums upd_same (Same.new ho _ _ _ gt))
      rcases ok.1 with z | z
      · refine iteD (congrArg V.str z) (iteT ?_)
        exact ⟨_, rfl, _, rfl, (by show 2 ≤ sizeLine; decide), go⟩
      · refine iteDF (by show ¬ V.str w = V.str "claims"; rw [z]; decide +kernel) ?_
        refine ⟨_, rfl, rfl, _, rfl, ?_⟩
        refine iteD (congrArg V.str z) ?_
        exact ⟨_, rfl, _, rfl, (by show 2 ≤ sizeLine; decide), go⟩
  · refine ⟨_, rfl, rfl, _, rfl, ?_⟩
    refine iteDF (fun z => h1 (by injection z)) ?_
    refine ⟨_, rfl, rfl, _, rfl, ?_⟩
    refine iteDF (fun z => h2 (by injection z)) ?_
    refine ⟨_, rfl, rfl, _, rfl, ?_⟩
    by_cases hc : w = "coin"
    · subst hc
      refine iteNS rfl ?_
      refine ⟨_, rfl, t, _, rfl, .inr (SqT.of gt), _, _, rfl, rfl, _, rfl, ?_⟩
      refine iteD (by
        rw [List.length_map]
        rcases h3 with z | z
        · exact absurd rfl z
        · show (1 : Int) < ((ns.length : Nat) : Int)
          omega) ?_
      exact ⟨_, rfl, (by show 1 ≤ sizeLine; decide), fun e ze => mk_sp (fm_ix k1) ze fun G4 s4 x4 => ⟨rfl, raise_row cl rr S06 ze s4 x4⟩⟩
    · rw [decide_eq_false (fun z : V.str w = .str "coin" => hc (by injection z))]
      refine iteT (iteT ?_)
      exact ⟨_, rfl, (by show 1 ≤ sizeLine; decide), fun e ze => mk_sp (fm_ix k1) ze fun G4 s4 x4 => ⟨rfl, raise_row cl rr S06 ze s4 x4⟩⟩
theorem str_inj {a b : Str} (h : V.str a = V.str b) : a = b := by injection h
def TalkAt (H : Hp) (v : V) (rs : List Rr) : Prop := ∃ a vs, v = .ref a ∧ H a = some (.tup vs) ∧ RowsAt H vs rs
/-- a text by its rows: good ones, then the end or a bad one -/
def spReadX (C : Addr) : Sp := fun vs H Q E => ∃ (T : Str) (xs : List Str) (rs : List Rr), vs = [.str T] ∧ T ≠ "" ∧ T.length ≤ 90000 ∧ Txt.split T "\n" = xs ∧ xs.length ≤ 100 ∧ (∀ r ∈ rs, r.ok) ∧
  ((xs = rs.map Rr.text ∧ ∀ v H', Same H H' → TalkAt H' v rs → Q v H') ∨ ∃ x rest, xs = rs.map Rr.text ++ x :: rest ∧ x.length ≤ 1000 ∧ Wide (Txt.split x " ") ∧ Bad (Txt.split x " ") ∧ RaisesRow C ((rs.length : Nat) : Int) H E)
theorem sc_read_talk : FnScope ["text", "talk", "number", "row"] ["text"] (defScope s_read_talk) := ⟨rfl, rfl, rfl, by decide +kernel, rfl, by decide +kernel, by decide +kernel⟩
theorem good_wide {r : Rr} (ok : r.ok) : Wide r.parts := by
  have h := parts_codes ok
  have l := parts_len r
  have oi := r.ok_ints ok
  refine ⟨by omega, by omega, fun q hq => ⟨by have := (h q hq).2; omega, fun c hc => ?_⟩⟩
  rcases List.mem_cons.mp hq with rfl | hq
  · have := (word_codes ok).1 c hc
    omega
  · obtain ⟨m, hm, rfl⟩ := List.mem_map.mp hq
    have := num_dig (oi.2.2 m hm).1 c hc
    omega
theorem ok_read_talk {f C : Addr} {fd : FuncData} (F : Fun K "read_talk" "read_talk" s_read_talk f fd) (B : Bl mg) (C_talk_row : CalR P w K mg base 4 "talk_row" ["text", "number"] (spTalkRX C)) : FnOk P w K mg base (CXr P w) 5 f fd ["text"] (spReadX C) := by
  refine F.okX sc_read_talk (fun vs H Q E h => ?_) (fun cdv A outer s H vs Q E hr h => ?_)
  · obtain ⟨T, xs, rs, rfl, _⟩ := h
    rfl
  obtain ⟨T, xs, rs, rfl, T0, tl, ts, xl, ok, fate⟩ := h
  refine ⟨_, (pss_cons (ps_if (pt_cmpR op_eq (pv 0) pe_str (nomark _)) (pss_one (ps_ret (pe_tup pa_nil))) pss_nil)
      (pss_cons (ps_set (i := 1) sc_read_talk.nd rfl (Or.inl rfl) (pe_lst pa_nil))
      (pss_cons (ps_for ownX rfl (pi_enum rfl B.enumerate (pe_bm PySem.F.plainAttrs_str PySem.F.slot_str_split PySem.F.type_str_split mt_split (pv 0) (pa_cons pe_str pa_nil))) (pg_tup rfl (pgs_cons (pg_name (i := 2) sc_read_talk.nd rfl (Or.inl rfl)) (pgs_cons (pg_name (i := 3) sc_read_talk.nd rfl (Or.inl rfl)) pgs_nil))) (pss_one (ps_expr (pe_bm PySem.F.plainAttrs_list PySem.F.slot_list_append PySem.F.type_list_append mt_append (pv 1) (pa_cons (pe_calR C_talk_row hr (by decide) rfl passX (pa_cons (pv 3) (pa_cons (pv 2) pa_nil))) pa_nil)))))
      (pss_one (ps_ret (pe_callTy call_tuple_of rfl B.tuple boot_tuple' (pa_cons (pv 1) pa_nil))))))), ?_⟩
  refine ⟨_, rfl, rfl, _, rfl, ?_⟩
  refine iteDF (fun z => T0 (str_inj z)) ?_
  refine ⟨Nat.zero_le _, fun L hL => ?_⟩
  have GL := Same.new hL (.lst [])
  have gL : upd H L (.lst []) L = some (.lst []) := upd_same
  generalize upd H L (.lst []) = H1 at GL gL
  refine ⟨_, rfl, rfl, _, _, rfl, rfl, (by decide +kernel), by omega, by rw [ts]; omega, fun a ha => ?_⟩
  rw [ts]
  have Ga := Same.new ha (.lst (xs.map V.str))
  have ga : upd H1 a (.lst (xs.map V.str)) a = some (.lst (xs.map V.str)) := upd_same
  have aL : a ≠ L := fun z => by rw [z, gL] at ha; cases ha
  generalize upd H1 a (.lst (xs.map V.str)) = H2 at Ga ga
  have gL2 := Ga _ _ gL
  have pre : ∃ rest, xs = rs.map Rr.text ++ rest := by
    rcases fate with ⟨e, _⟩ | ⟨x, rest, e, _⟩
    · exact ⟨[], by rw [e, List.append_nil]⟩
    · exact ⟨_, e⟩
  refine ⟨a, rfl, ⟨_, SqL.of ga⟩, for_enum (K := K) (xs := xs.map V.str) (fun i σ H' => i ≤ rs.length ∧ ∃ (x2 x3 : Option V) (vs : List V), σ = [some (.str T), some (.ref L), x2, x3] ∧ H' L = some (.lst vs) ∧ RowsAt H' vs (rs.take i) ∧ SameBut L H2 H')
    ⟨Nat.zero_le _, _, _, [], rfl, gL2, .nil, SameBut.refl _ _⟩ (fun i σ H' _ hst => by obtain ⟨_, _, _, _, _, _, _, h⟩ := hst; exact SqL.of (h _ _ aL ga)) ?_ ?_⟩
  · rintro i z σ H3 t hz ⟨ir, x2, x3, vs, rfl, hL3, R3, S3⟩ ht
    rw [List.getElem?_map] at hz
    obtain ⟨y, hy, rfl⟩ := Option.map_eq_some_iff.mp hz
    have Gt := Same.new ht (.tup [.int (i : Int), .str y])
    have hL4 := Gt _ _ hL3
    have vl := R3.len
    rw [List.length_take] at vl
    have i100 : i < 100 := by
      have := (List.getElem?_eq_some_iff.mp hy).1
      omega
    refine ⟨t, _, rfl, SqT.of upd_same, rfl, _, _, rfl, _, _, rfl, rfl, ?_⟩
    refine ⟨_, rfl, .inl ⟨rfl, _, SqL.of hL4⟩, _, rfl, _, rfl, y, i, Txt.split y " ", rfl, by omega, ?_⟩
    have S03 : Same H (upd H3 t (.tup [.int (i : Int), .str y])) := fun b o e => Gt _ _ (S3 b o (ne_of_none e hL) (Ga _ _ (GL _ _ e)))
    by_cases c : i < rs.length
    · have hr' : rs[i]? = some (rs[i]'c) := List.getElem?_eq_getElem c
      generalize rs[i]'c = r at hr'
      have ey : y = r.text := by
        obtain ⟨rest, e⟩ := pre
        rw [e, List.getElem?_append_left (by rw [List.length_map]; exact c), List.getElem?_map, hr'] at hy
        exact (Option.some.inj hy).symm
      subst ey
      have okr := ok r (List.mem_of_getElem? hr')
      have psp := parts_split okr
      rw [← sp_eq] at psp
      refine ⟨by have := text_len okr; omega, rfl, by rw [psp]; exact good_wide okr, .inl ⟨r, okr, psp, fun v H4 S4 ra => ?_⟩⟩
      have S34 : Same H3 H4 := Gt.trans S4
      have kp : ∀ a xs, H4 a = some (.tup xs) → upd H4 L (.lst (vs ++ [v])) a = some (.tup xs) := fun a xs e => by
        rw [upd_ne]
        · exact e
        · intro z
          rw [z, S34 _ _ hL3] at e
          cases e
      refine ⟨L, _, _, rfl, rfl, S34 _ _ hL3, small1000 (by omega), ?_⟩
      refine ⟨c, _, _, vs ++ [v], rfl, upd_same, ?_, ?_⟩
      · rw [List.take_add_one, hr']
        exact ((R3.same S34).keep kp).snoc (ra.keep kp)
      · exact S3.trans ((SameBut.of S34).trans (SameBut.upd _))
    · have ei : i = rs.length := by omega
      subst ei
      rcases fate with ⟨e, _⟩ | ⟨x, rest, e, xl', wd, bd, rr⟩
      · exfalso
        have := (List.getElem?_eq_some_iff.mp hy).1
        rw [e, List.length_map] at this
        omega
      · have ey : y = x := by
          rw [e, List.getElem?_append_right (by rw [List.length_map]; exact Nat.le_refl _), List.length_map, Nat.sub_self] at hy
          exact (Option.some.inj hy).symm
        subst ey
        exact ⟨xl', rfl, wd, .inr ⟨bd, rr.same S03⟩⟩
  · rintro σ H3 ⟨ir, x2, x3, vs, rfl, hL3, R3, S3⟩
    rw [List.length_map] at ir R3
    rcases fate with ⟨e, q⟩ | ⟨x, rest, e, _⟩
    · rw [e, List.length_map, List.take_length] at R3
      refine ⟨_, rfl, L, _, rfl, .inl ⟨SqL.of hL3, fun t ht => ?_⟩⟩
      have S03 : Same H H3 := fun b o e => S3 b o (ne_of_none e hL) (Ga _ _ (GL _ _ e))
      exact q _ _ (S03.trans (Same.new ht _)) ⟨t, vs, rfl, upd_same, R3.same (Same.new ht _)⟩
    · exfalso
      rw [e, List.length_append, List.length_map, List.length_cons] at ir
      omega
structure Exs (K : PySem.W.Frag) (mg : Str → Option Value) (CA c0 c1 c2 c3 c4 c5 c6 c7 c8 c9 : Addr) : Prop where
  g0 : mg "NoText" = some (.ref c0)
  x0 : ClsX K c0 CA
  n0 : c0 ≠ CA
  g1 : mg "Twice" = some (.ref c1)
  x1 : ClsX K c1 CA
  n1 : c1 ≠ CA
  g2 : mg "NoName" = some (.ref c2)
  x2 : ClsX K c2 CA
  n2 : c2 ≠ CA
  g3 : mg "NoField" = some (.ref c3)
  x3 : ClsX K c3 CA
  n3 : c3 ≠ CA
  g4 : mg "SmallField" = some (.ref c4)
  x4 : ClsX K c4 CA
  n4 : c4 ≠ CA
  g5 : mg "NoRow" = some (.ref c5)
  x5 : ClsX K c5 CA
  n5 : c5 ≠ CA
  g6 : mg "NoTurn" = some (.ref c6)
  x6 : ClsX K c6 CA
  n6 : c6 ≠ CA
  g7 : mg "NoCount" = some (.ref c7)
  x7 : ClsX K c7 CA
  n7 : c7 ≠ CA
  g8 : mg "NoNumber" = some (.ref c8)
  x8 : ClsX K c8 CA
  n8 : c8 ≠ CA
  g9 : mg "TooMany" = some (.ref c9)
  x9 : ClsX K c9 CA
  n9 : c9 ≠ CA
  gA : mg "AskError" = some (.ref CA)
  iA : isBaseX K CA
  nd : [c0, c1, c2, c3, c4, c5, c6, c7, c8, c9].Nodup
theorem kit_same {K : PySem.W.Frag} {C : Addr} : PySem.W.kitOne K (.ref C) (.ref C) = some true := by
  unfold PySem.W.kitOne
  rw [if_pos (by simp)]
theorem kitAny_no {K : PySem.W.Frag} {t : Value} {Ds : List Addr} (h : ∀ D ∈ Ds, PySem.W.kitOne K t (.ref D) = some false) : PySem.W.kitAny K t (Ds.map Value.ref) = some false := by
  induction Ds with
  | nil => rfl
  | cons D r ih =>
    show (match PySem.W.kitOne K t (.ref D) with | some true => some true | some false => PySem.W.kitAny K t (r.map Value.ref) | none => none) = _
    rw [h D List.mem_cons_self]
    exact ih fun D' hD => h D' (List.mem_cons_of_mem _ hD)
section
variable {CA c0 c1 c2 c3 c4 c5 c6 c7 c8 c9 : Addr}
def spTold : Sp := fun vs H Q _ => ∃ (T : Str) (xs : List Str) (rs : List Rr) (x : Str) (rest : List Str), vs = [.str T] ∧ T ≠ "" ∧ T.length ≤ 90000 ∧ Txt.split T "\n" = xs ∧ xs.length ≤ 100 ∧ (∀ r ∈ rs, r.ok) ∧ xs = rs.map Rr.text ++ x :: rest ∧ x.length ≤ 1000 ∧ Wide (Txt.split x " ") ∧ Bad (Txt.split x " ") ∧ ∀ H', Same H H' → Q (.int ((rs.length : Nat) : Int)) H'
theorem sc_l_told : FnScope ["_law_text_here", "_law_found", "_law_other", "e"] ["_law_text_here"] (defScope s_l_told) := ⟨rfl, rfl, rfl, by decide +kernel, rfl, by decide +kernel, by decide +kernel⟩
theorem ok_l_told {f : Addr} {fd : FuncData} (F : Fun K "_law_told" "_law_told" s_l_told f fd) (B : Bl mg) (hV : mg "ValueError" = none) (T : Exs K mg CA c0 c1 c2 c3 c4 c5 c6 c7 c8 c9) (n0 : NoAttr K c0 "row") (C_read_talk : CalR P w K mg base 5 "read_talk" ["text"] (spReadX c0)) : FnOk P w K mg base CX0 6 f fd ["_law_text_here"] spTold := by
  refine F.ok sc_l_told (fun vs H Q E h => ?_) (fun cdv A outer s H vs Q E hr h => ?_)
  · obtain ⟨T, xs, rs, x, rest, rfl, _⟩ := h
    rfl
  obtain ⟨Tx', xs, rs, x, rest, rfl, T0, tl, ts, xl, ok, e, xl', wd, bd, q⟩ := h
  refine ⟨_, (pss_cons (ps_set (i := 1) sc_l_told.nd rfl (Or.inl rfl) pe_non)
      (pss_cons (ps_try (i := 3) (CA := CA) sc_l_told.nd rfl rfl rfl T.gA T.iA (psw_expr C_read_talk hr (by decide) rfl (fun W => pa_cons (pv 0) pa_nil)) (fun e => pss_cons (ps_set (i := 2) sc_l_told.nd rfl (Or.inl rfl) (pe_callB (call_isiXK K) rfl B.isinstance PyProof.Rows.boot_isinstance (pa_cons (pv 3) (pa_cons (pe_tup (pa_cons (pe_glob (v := .ref c7) rfl T.g7 rfl) (pa_cons (pe_glob (v := .ref c3) rfl T.g3 rfl) (pa_cons (pe_glob (v := .ref c2) rfl T.g2 rfl) (pa_cons (pe_glob (v := .ref c8) rfl T.g8 rfl) (pa_cons (pe_glob (v := .ref c5) rfl T.g5 rfl) (pa_cons (pe_glob (v := .ref c6) rfl T.g6 rfl) (pa_cons (pe_glob (v := .ref c4) rfl T.g4 rfl) (pa_cons (pe_glob (v := .ref c9) rfl T.g9 rfl) (pa_cons (pe_glob (v := .ref c1) rfl T.g1 rfl) pa_nil)))))))))) pa_nil))))
        (pss_one (ps_if (PW.pt (pw_and (pt_val (pe_callB (call_isiXK K) rfl B.isinstance PyProof.Rows.boot_isinstance (pa_cons (pv 3) (pa_cons (pe_glob (v := .ref c0) rfl T.g0 rfl) pa_nil)))) (pw_and (pt_val (pe_callB (call_isiXK K) rfl B.isinstance PyProof.Rows.boot_isinstance (pa_cons (pv 3) (pa_cons (pe_bltn (v := V.ty "ValueError") rfl hV boot_val rfl) pa_nil)))) (pw_and1 (pt_not (pt_val (pv 2))))))) (pss_one (ps_set (i := 1) sc_l_told.nd rfl (Or.inl rfl) (pe_fldXK K (pv 3) rfl))) pss_nil))))
      (pss_one (ps_ret (pv 1))))), ?_⟩
  refine ⟨_, rfl, Tx', xs, rs, rfl, T0, tl, ts, xl, ok, .inr ⟨x, rest, e, xl', wd, bd, fun e dx H2 S2 he hd => ?_⟩⟩
  refine ⟨e, c0, dx, rfl, rfl, he, T.x0, ?_⟩
  refine ⟨_, rfl, (by show 9 ≤ sizeLine; decide), fun tp htp => ?_⟩
  have S3 := Same.new htp (.tup [.ref c7, .ref c3, .ref c2, .ref c8, .ref c5, .ref c6, .ref c4, .ref c9, .ref c1])
  have nds := T.nd
  have ka : PySem.W.kitAny K (.ref c0) ([c7, c3, c2, c8, c5, c6, c4, c9, c1].map Value.ref) = some false := kitAny_no fun D hD => by
    simp only [List.nodup_cons, List.mem_cons, List.not_mem_nil, or_false, not_or] at nds
    simp only [List.mem_cons, List.not_mem_nil, or_false] at hD
    rcases hD with rfl | rfl | rfl | rfl | rfl | rfl | rfl | rfl | rfl
    · rw [kit_is T.x0 T.x7 T.n7, beq_eq_false_iff_ne.mpr (by grind)]
    · rw [kit_is T.x0 T.x3 T.n3, beq_eq_false_iff_ne.mpr (by grind)]
    · rw [kit_is T.x0 T.x2 T.n2, beq_eq_false_iff_ne.mpr (by grind)]
    · rw [kit_is T.x0 T.x8 T.n8, beq_eq_false_iff_ne.mpr (by grind)]
    · rw [kit_is T.x0 T.x5 T.n5, beq_eq_false_iff_ne.mpr (by grind)]
    · rw [kit_is T.x0 T.x6 T.n6, beq_eq_false_iff_ne.mpr (by grind)]
    · rw [kit_is T.x0 T.x4 T.n4, beq_eq_false_iff_ne.mpr (by grind)]
    · rw [kit_is T.x0 T.x9 T.n9, beq_eq_false_iff_ne.mpr (by grind)]
    · rw [kit_is T.x0 T.x1 T.n1, beq_eq_false_iff_ne.mpr (by grind)]
  refine ⟨e, c0, CA, dx, _, _, rfl, .inr (S3 _ _ he), T.x0, .inr (.inr ⟨tp, [c7, c3, c2, c8, c5, c6, c4, c9, c1], rfl, upd_same, ka⟩), ?_⟩
  refine ⟨_, rfl, e, c0, CA, dx, _, _, rfl, .inr (S3 _ _ he), T.x0, .inl ⟨_, rfl, kit_same⟩, _, rfl, ?_⟩
  refine iteT ?_
  refine ⟨_, rfl, e, c0, CA, dx, _, _, rfl, .inr (S3 _ _ he), T.x0, .inr (.inl ⟨_, rfl, kit_val T.x0⟩), _, rfl, ?_⟩
  refine iteT ?_
  refine ⟨_, rfl, _, rfl, ?_⟩
  refine iteT ?_
  refine ⟨_, rfl, e, c0, CA, dx, _, _, rfl, .inr (S3 _ _ he), S3 _ _ hd, lk1 _ _, T.x0, n0, ?_⟩
  exact ⟨_, rfl, q _ (S2.trans S3)⟩
end
def spCells (K : PySem.W.Frag) : Sp := fun vs H Q _ => ∃ (a : Addr) (ns : List Int) (k : Int), vs = [.ref a, .int k] ∧ SqL K H a (ns.map V.int) ∧ ns.length ≤ 63 ∧ 0 ≤ k ∧ k ≤ 100 ∧ ∀ (l : Addr) (lo : Int) (n : Nat) (H' : Hp), H l = none → Same H H' → H' l = some (.lst ((rngV lo n).map V.int)) → lo = k → 1 ≤ n → n ≤ 63 → Q (.ref l) H'
theorem sc_l_cells : FnScope ["_law_script", "_law_at"] ["_law_script", "_law_at"] (defScope s_l_cells) := ⟨rfl, rfl, rfl, by decide +kernel, rfl, by decide +kernel, by decide +kernel⟩
theorem ok_l_cells {f : Addr} {fd : FuncData} (F : Fun K "_law_cells" "_law_cells" s_l_cells f fd) (hlist : mg "list" = none) (hrange : mg "range" = none) (hmax : mg "max" = none) (hlen : mg "len" = none) : FnOk P w K mg base CX0 1 f fd ["_law_script", "_law_at"] (spCells K) := by
  refine F.ok sc_l_cells (fun vs H Q E h => ?_) (fun cdv A outer s H vs Q E hr h => ?_)
  · obtain ⟨a, ns, k, rfl, _⟩ := h
    rfl
  obtain ⟨a, ns, k, rfl, hS, h63, k0, k1, q⟩ := h
  refine ⟨_, (pss_one (ps_ret (pe_listrng rfl rfl hlist rfl hrange (pa_cons (pv 1) (pa_cons (pe_callB (call_max2 rfl) rfl hmax PyProof.Rows.boot_max (pa_cons (pe_op op_add (pv 1) pe_int) (pa_cons (pe_callB call_len_seq rfl hlen PySem.boot_len (pa_cons (pe_slice sl_list (pv 0) po_none (po_some pe_int)) pa_nil)) pa_nil))) pa_nil))))), ?_⟩
  refine ⟨_, rfl, _, rfl, _, _, rfl, rfl, _, rfl, 63, rfl, a, _, rfl, hS, fun p hp => ?_⟩
  have cl := cutV_length (ns.map V.int) none (some 63)
  rw [List.length_map] at cl
  refine ⟨p, _, rfl, .inl (SqL.of upd_same), _, _, rfl, ?_⟩
  refine ⟨_, _, rfl, ⟨by omega, by omega, by split <;> omega, by split <;> omega⟩, by split <;> omega, fun l hl => ?_⟩
  refine q l _ _ _ ?_ ((Same.new hp _).trans (Same.new hl _)) upd_same rfl (by split <;> omega) (by split <;> omega)
  cases e : H l with
  | none => rfl
  | some o => rw [Same.new hp _ _ _ e] at hl; cases hl
theorem feed_upd' {H : Hp} {f p : Addr} {o : HO} (F : FeedAt H f) (h : p ≠ f) : FeedAt (upd H p o) f := by
  obtain ⟨x, t, e, r⟩ := F
  exact ⟨x, t, by rw [upd_ne (Ne.symm h)]; exact e, r⟩
theorem but_new {H H' : Hp} {f p : Addr} {o : HO} (s : SameBut f H H') (h : H' p = none) : SameBut f H (upd H' p o) := s.trans (SameBut.of (Same.new h o))
def spWordsR : Sp := fun vs H Q _ => ∃ f : Addr, vs = [.ref f] ∧ FeedAt H f ∧ ∀ (l : Addr) (r : Rr) (H' : Hp), l ≠ f → H' l = some (.lst (r.parts.map V.str)) → r.ok → FeedAt H' f → SameBut f H H' → Q (.ref l) H'
theorem sc_l_words : FnScope ["_law_feed_here", "_law_word", "_law_many"] ["_law_feed_here"] (defScope s_l_words) := ⟨rfl, rfl, rfl, by decide +kernel, rfl, by decide +kernel, by decide +kernel⟩
theorem four_words {d : Int} (h0 : 0 ≤ d) (h4 : d < 4) : ∃ x : Str, atI [V.str "claims", .str "coin", .str "say", .str "say"] d = some (.str x) ∧ (x = "claims" ∨ x = "coin" ∨ x = "say") := by
  have : d = 0 ∨ d = 1 ∨ d = 2 ∨ d = 3 := by omega
  rcases this with rfl | rfl | rfl | rfl
  · exact ⟨_, rfl, .inl rfl⟩
  · exact ⟨_, rfl, .inr (.inl rfl)⟩
  · exact ⟨_, rfl, .inr (.inr rfl)⟩
  · exact ⟨_, rfl, .inr (.inr rfl)⟩
theorem three_most {d : Int} (h0 : 0 ≤ d) (h3 : d < 3) : ∃ m : Int, atI [V.int 9, .int 999, .int (10 ^ (12 : Int).toNat)] d = some (.int m) ∧ 0 < m ∧ m ≤ 1000000000000 := by
  have : d = 0 ∨ d = 1 ∨ d = 2 := by omega
  rcases this with rfl | rfl | rfl
  · exact ⟨9, rfl, by decide, by decide⟩
  · exact ⟨999, rfl, by decide, by decide⟩
  · exact ⟨_, rfl, by decide, by decide⟩
theorem ok_l_words {f : Addr} {fd : FuncData} (F : Fun K "_law_words" "_law_words" s_l_words f fd) (B : Bl mg) (C_l_take : Cal P w K mg base 1 "_law_take" ["_law_feed_here", "_law_many"] spTake) : FnOk P w K mg base CX0 2 f fd ["_law_feed_here"] spWordsR := by
  refine F.ok sc_l_words (fun vs H Q E h => ?_) (fun cdv A outer s H vs Q E hr h => ?_)
  · obtain ⟨f, rfl, _⟩ := h
    rfl
  obtain ⟨f, rfl, F0, q⟩ := h
  refine ⟨_, (pss_cons (ps_set (i := 1) sc_l_words.nd rfl (Or.inl rfl) (pe_ix ix_list (pe_lst (pa_cons pe_str (pa_cons pe_str (pa_cons pe_str (pa_cons pe_str pa_nil))))) (pe_cal C_l_take hr (by decide) rfl (pa_cons (pv 0) (pa_cons pe_int pa_nil))) (fun _ _ => rfl)))
      (pss_cons (ps_set (i := 2) sc_l_words.nd rfl (Or.inl rfl) (pe_op op_add pe_int (pe_op op_mul (pe_cal C_l_take hr (by decide) rfl (pa_cons (pv 0) (pa_cons pe_int pa_nil))) (pe_callTy call_int1 rfl B.int boot_int' (pa_cons (pe_cmpR op_ne (pv 1) pe_str (nomark _)) pa_nil)))))
      (pss_one (ps_ret (pe_op op_cat (pe_lst (pa_cons (pv 1) pa_nil)) (pe_comp (N := ["_law_feed_here"]) (ix := [0]) rfl
          (CompScope.one (by with_unfolding_all rfl) (by decide) rfl (by decide) rfl (by decide +kernel) (by with_unfolding_all rfl) (by with_unfolding_all rfl) (by with_unfolding_all rfl) rfl rfl) rfl
          (pi_range1 rfl B.range (pa_cons (pv 2) pa_nil))
          (fun _ _ _ => pb_all (pe_callTy call_strV rfl B.str boot_str' (pa_cons (pe_cal C_l_take hr (by decide) rfl (pa_cons (pv 1) (pa_cons (pe_ix (ix_listK K) (pe_lst (pa_cons pe_int (pa_cons pe_int (pa_cons (pe_op op_pow pe_int pe_int) pa_nil)))) (pe_cal C_l_take hr (by decide) rfl (pa_cons (pv 1) (pa_cons pe_int pa_nil))) (fun _ _ => rfl)) pa_nil))) pa_nil))))))))), ?_⟩
  refine ⟨(by show 4 ≤ sizeLine; decide), fun L hL => ?_⟩
  have GL := Same.new hL (.lst [.str "claims", .str "coin", .str "say", .str "say"])
  have Lf := F0.ne hL
  refine ⟨_, rfl, f, 4, rfl, F0.same GL, by decide, by decide, fun d H1 a0 a1 F1 B1 => ?_⟩
  obtain ⟨x, hx, xw⟩ := four_words a0 a1
  refine ⟨L, _, d, _, rfl, rfl, SqL.of (B1 _ _ Lf upd_same), hx, ?_⟩
  have B01 : SameBut f H H1 := (SameBut.of GL).trans B1
  refine ⟨_, rfl, f, 6, rfl, F1, by decide, by decide, fun d2 H2 b0 b1 F2 B2 => ?_⟩
  refine ⟨_, rfl, rfl, .inr ⟨_, rfl, _, _, rfl, rfl, .inl ⟨by omega, by omega⟩, _, _, rfl, rfl, ?_⟩⟩
  obtain ⟨n, en, n1, n6, nc⟩ : ∃ n : Int, 1 + d2 * (if (!decide (V.str x = V.str "coin")) = true then 1 else 0) = n ∧ 1 ≤ n ∧ n ≤ 6 ∧ (x = "coin" → n = 1) := by
    by_cases hc : x = "coin"
    · subst hc
      exact ⟨_, rfl, by simp, by simp, fun _ => by simp⟩
    · have : decide (V.str x = V.str "coin") = false := decide_eq_false fun z => hc (by injection z)
      rw [this]
      exact ⟨_, rfl, by simp; omega, by simp; omega, fun z => absurd z hc⟩
  refine ⟨_, rfl, (by show 1 ≤ sizeLine; decide), fun p hp => ?_⟩
  have Gp := Same.new hp (.lst [.str x])
  have pf := F2.ne hp
  have gp : upd H2 p (.lst [.str x]) p = some (.lst [.str x]) := upd_same
  have F3 := F2.same Gp
  have B03 : SameBut f H (upd H2 p (.lst [.str x])) := but_new (B01.trans B2) hp
  generalize upd H2 p (.lst [.str x]) = H3 at *
  refine ⟨_, rfl, n, congrArg (fun z => [V.int z]) en, by omega, by omega, fun D hD => ?_⟩
  have Df := F3.ne hD
  have pD : p ≠ D := ne_of_none gp hD
  refine comp_range (n := n.toNat) (fun i H' => ∃ ms : List Int, H' D = some (.lst ((ms.map numT).map V.str)) ∧ ms.length = i ∧ (∀ m ∈ ms, 0 ≤ m ∧ m < LIM) ∧ H' p = some (.lst [.str x]) ∧ FeedAt H' f ∧ SameBut f H H') ⟨[], by rw [upd_same]; rfl, rfl, (fun m hm => by cases hm), by rw [upd_ne pD]; exact gp, F3.same (Same.new hD _), but_new B03 hD⟩ ?_ ?_
  · rintro i H4 hi ⟨ms, hD4, ml, mk, gp4, F4, B4⟩
    refine ⟨_, rfl, _, _, rfl, rfl, ⟨by decide, by decide, by decide⟩, (by show 3 ≤ sizeLine; decide), fun M hM => ?_⟩
    have GM := Same.new hM (.lst [.int 9, .int 999, .int (10 ^ (12 : Int).toNat)])
    have Mf := F4.ne hM
    refine ⟨_, rfl, f, 3, rfl, F4.same GM, by decide, by decide, fun d3 H5 c0 c1 F5 B5 => ?_⟩
    obtain ⟨mm, hm, mm0, mm1⟩ := three_most c0 c1
    refine ⟨M, _, d3, _, rfl, rfl, SqL.of (B5 _ _ Mf upd_same), hm, f, mm, rfl, F5, mm0, Int.lt_of_le_of_lt mm1 (by decide), fun v H6 v0 v1 F6 B6 => ?_⟩
    have B46 : SameBut f H4 H6 := (SameBut.of GM).trans (B5.trans B6)
    refine .inl ⟨v, rfl, log_small v0 (by omega), ?_⟩
    refine ⟨_, B46 _ _ Df hD4, ?_, Nx.of hi ⟨ms ++ [v], ?_, ?_, ?_, ?_, feed_upd' F6 Df, fun c o hc e => ?_⟩⟩
    · rw [List.length_map, List.length_map]
      exact small1000 (by omega)
    · rw [upd_same, List.map_append, List.map_append]
      rfl
    · rw [List.length_append, List.length_singleton, ml]
    · intro m' hm'
      rcases List.mem_append.mp hm' with h | h
      · exact mk m' h
      · rw [List.mem_singleton.mp h]
        exact ⟨v0, show v < 1000000000000 by omega⟩
    · rw [upd_ne pD]
      exact B46 _ _ pf gp4
    · have D0 : H c = some o → c ≠ D := fun e z => by
        subst z
        by_cases hc' : c = f
        · exact hc hc'
        · rw [B03 c o hc' e] at hD
          cases hD
      rw [upd_ne (D0 e)]
      exact B46 c o hc (B4 c o hc e)
  rintro H4 ⟨ms, hD4, ml, mk, gp4, F4, B4⟩
  refine ⟨p, D, _, _, rfl, rfl, gp4, hD4, small (by rw [List.length_map, List.length_map]; show 1 + _ ≤ 1000; omega), fun l hl => ?_⟩
  obtain ⟨r, er, okr⟩ : ∃ r : Rr, r.parts = x :: ms.map numT ∧ r.ok := by
    by_cases hc : x = "coin"
    · have n1' := nc hc
      match ms, ml with
      | [m], _ => exact ⟨.coin m, by subst hc; rfl, mk m (List.mem_singleton.mpr rfl)⟩
      | [], ml => simp at ml; omega
      | _ :: _ :: _, ml => simp at ml; omega
    · refine ⟨.nums x ms, rfl, ?_, by omega, by omega, mk⟩
      rcases xw with h | h | h
      · exact .inl h
      · exact absurd h hc
      · exact .inr h
  refine q l r _ (F4.ne hl) ?_ okr (F4.same (Same.new hl _)) (but_new B4 hl)
  rw [upd_same, er]
  rfl
/-! ### rows as lists of words, and their texts -/
def LenOk (ws : List Str) : Prop := 1 ≤ ws.length ∧ ws.length ≤ 40 ∧ (ws.map (·.length)).sum ≤ 880
def rowT (ws : List Str) : Str := Str.join SP ws
theorem row_len {ws : List Str} (h : LenOk ws) : (rowT ws).length ≤ 1000 := by
  have := StrLaws.join_length_le SP ws
  rw [show SP.length = 1 from rfl, Nat.mul_one] at this
  have h1 := h.2.1
  have h2 := h.2.2
  unfold rowT
  omega
theorem mem_sum {ws : List Str} {q : Str} (h : q ∈ ws) : q.length ≤ (ws.map (·.length)).sum := by
  induction ws with
  | nil => cases h
  | cons a r ih =>
    simp only [List.map_cons, List.sum_cons]
    rcases List.mem_cons.mp h with rfl | h
    · omega
    · have := ih h
      omega
def BadTx (x : Str) : Prop := x.length ≤ 1000 ∧ 10 ∉ cd x ∧ Wide (Txt.split x " ") ∧ Bad (Txt.split x " ")
theorem words_split {ws : List Str} (h0 : ws ≠ []) (hc : ∀ q ∈ ws, ∀ c ∈ cd q, 33 ≤ c ∧ c < 1000) : Txt.split (rowT ws) " " = ws := by
  rw [sp_eq]
  exact split_join (c := 32) h0 fun q hq z => by
    have := (hc q hq 32 z).1
    omega
theorem row_free {ws : List Str} (hc : ∀ q ∈ ws, ∀ c ∈ cd q, 33 ≤ c ∧ c < 1000) : 10 ∉ cd (rowT ws) := fun z => by
  unfold rowT SP at z
  rw [cd_join] at z
  rcases mem_jn z with h | ⟨a, ha, h⟩
  · cases h
  · obtain ⟨q, hq, rfl⟩ := List.mem_map.mp ha
    have := (hc q hq 10 h).1
    omega
theorem bad_of {ws : List Str} (hl : LenOk ws) (hc : ∀ q ∈ ws, ∀ c ∈ cd q, 33 ≤ c ∧ c < 1000) (hb : Bad ws) : BadTx (rowT ws) := by
  have h0 : ws ≠ [] := fun z => by
    have := hl.1
    rw [z] at this
    cases this
  have es := words_split h0 hc
  refine ⟨row_len hl, row_free hc, ?_, ?_⟩
  · rw [es]
    exact ⟨hl.1, hl.2.1, fun q hq => ⟨by have := mem_sum hq; have := hl.2.2; omega, fun c h => (hc q hq c h).2⟩⟩
  · rw [es]
    exact hb
/-- lists of words in the heap -/
def WsAt (H : Hp) (vs : List V) (wss : List (List Str)) : Prop := vs.length = wss.length ∧ ∀ (i : Nat) v ws, vs[i]? = some v → wss[i]? = some ws → ∃ a, v = .ref a ∧ H a = some (.lst (ws.map V.str))
theorem WsAt.same {H H' : Hp} {vs : List V} {wss : List (List Str)} (s : Same H H') (h : WsAt H vs wss) : WsAt H' vs wss := ⟨h.1, fun i v ws hv hw => let ⟨a, e, g⟩ := h.2 i v ws hv hw; ⟨a, e, s _ _ g⟩⟩
theorem WsAt.append {H : Hp} {vs us : List V} {wss uss : List (List Str)} (h : WsAt H vs wss) (g : WsAt H us uss) : WsAt H (vs ++ us) (wss ++ uss) := by
  refine ⟨by rw [List.length_append, List.length_append, h.1, g.1], fun i v ws hv hw => ?_⟩
  by_cases c : i < vs.length
  · rw [List.getElem?_append_left c] at hv
    rw [List.getElem?_append_left (by rw [← h.1]; exact c)] at hw
    exact h.2 i v ws hv hw
  · rw [List.getElem?_append_right (by omega)] at hv
    rw [List.getElem?_append_right (by rw [← h.1]; omega), ← h.1] at hw
    exact g.2 _ v ws hv hw
theorem WsAt.take {H : Hp} {vs : List V} {wss : List (List Str)} (h : WsAt H vs wss) (k : Nat) : WsAt H (vs.take k) (wss.take k) := by
  refine ⟨by rw [List.length_take, List.length_take, h.1], fun i v ws hv hw => ?_⟩
  rw [List.getElem?_take] at hv hw
  split at hv
  · rename_i c
    rw [if_pos c] at hw
    exact h.2 i v ws hv hw
  · cases hv
theorem WsAt.drop {H : Hp} {vs : List V} {wss : List (List Str)} (h : WsAt H vs wss) (k : Nat) : WsAt H (vs.drop k) (wss.drop k) := by
  refine ⟨by rw [List.length_drop, List.length_drop, h.1], fun i v ws hv hw => ?_⟩
  rw [List.getElem?_drop] at hv hw
  exact h.2 _ v ws hv hw
theorem WsAt.one {H : Hp} {a : Addr} {ws : List Str} (h : H a = some (.lst (ws.map V.str))) : WsAt H [.ref a] [ws] := by
  refine ⟨rfl, fun i v w hv hw => ?_⟩
  match i, hv, hw with
  | 0, hv, hw =>
    cases hv
    cases hw
    exact ⟨a, rfl, h⟩
theorem mt_joinK {X : Cx} (K : PySem.W.Frag) (hK : X.K = K := by rfl) : MtR X "str.join" (rJoin K) := by subst hK; exact mt_join
def spTextR : Sp := fun vs H Q _ => ∃ (l : Addr) (us : List V) (wss : List (List Str)), vs = [.ref l] ∧ H l = some (.lst us) ∧ WsAt H us wss ∧ (∀ ws ∈ wss, LenOk ws) ∧ wss.length ≤ 90 ∧ ∀ H', Same H H' → Q (.str (Str.join NL (wss.map rowT))) H'
theorem sc_l_text : FnScope ["_law_rows"] ["_law_rows"] (defScope s_l_text) := ⟨rfl, rfl, rfl, by decide +kernel, rfl, by decide +kernel, by decide +kernel⟩
theorem ok_l_text {f : Addr} {fd : FuncData} (F : Fun K "_law_text" "_law_text" s_l_text f fd) : FnOk P w K mg base CX0 1 f fd ["_law_rows"] spTextR := by
  refine F.ok sc_l_text (fun vs H Q E h => ?_) (fun cdv A outer s H vs Q E hr h => ?_)
  · obtain ⟨l, us, wss, rfl, _⟩ := h
    rfl
  obtain ⟨l, us, wss, rfl, hl, W, lo, wl, q⟩ := h
  refine ⟨_, (pss_one (ps_ret (pe_bm PySem.F.plainAttrs_str PySem.F.slot_str_join PySem.F.type_str_join mt_join pe_str (pa_cons (pe_comp (N := []) (ix := []) (cl := []) rfl
      (CompScope.closed (by with_unfolding_all rfl) (by decide) rfl (by decide) rfl (by with_unfolding_all rfl)) rfl (pi_list (pv 0))
      (fun _ _ _ => pb_all (pe_bmK K PySem.F.plainAttrs_str PySem.F.slot_str_join PySem.F.type_str_join (mt_joinK K) pe_str (pa_cons (pv 0) pa_nil)))) pa_nil)))), ?_⟩
  refine ⟨rfl, _, rfl, l, rfl, ⟨_, SqL.of hl⟩, fun D hD => ?_⟩
  refine comp_list (K := K) (xs := us) (fun i H' => H' D = some (.lst (((wss.take i).map rowT).map V.str)) ∧ Same H H') ⟨by rw [upd_same]; rfl, Same.new hD _⟩ (fun i H' _ h => SqL.of (h.2 _ _ hl)) ?_ ?_
  · rintro i z H1 hz ⟨hD1, S1⟩
    have hi := (List.getElem?_eq_some_iff.mp hz).1
    have hw : wss[i]? = some (wss[i]'(by rw [← W.1]; exact hi)) := List.getElem?_eq_getElem _
    generalize wss[i]'(by rw [← W.1]; exact hi) = ws at hw
    obtain ⟨a, rfl, ga⟩ := (W.same S1).2 i z ws hz hw
    have lw := lo ws (List.mem_of_getElem? hw)
    refine ⟨rfl, _, rfl, _, a, ws, rfl, rfl, SqL.of ga, (by decide +kernel), (by have := lw.2.1; have := lw.2.2; omega), ?_⟩
    refine ⟨_, hD1, ?_, Nx.of hi ⟨?_, fun b o e => ?_⟩⟩
    · rw [List.length_map, List.length_map, List.length_take]
      exact small1000 (by omega)
    · rw [upd_same, List.take_add_one, hw, List.map_append, List.map_append, sp_eq, join_tx]
      rfl
    · rw [upd_ne (ne_of_none e hD)]
      exact S1 _ _ e
  rintro H1 ⟨hD1, S1⟩
  rw [W.1, List.take_length] at hD1
  have sm : ((wss.map rowT).map (·.length)).sum ≤ 90 * 1000 := by
    have := sum_le (l := wss.map rowT) (b := 1000) fun q hq => by
      obtain ⟨ws, hw, rfl⟩ := List.mem_map.mp hq
      exact row_len (lo ws hw)
    rw [List.length_map] at this
    omega
  refine ⟨_, D, wss.map rowT, rfl, rfl, SqL.of hD1, (by decide +kernel), by rw [List.length_map]; omega, ?_⟩
  rw [nl_eq, join_tx]
  exact q _ S1
/-! ### words that are no figures, words that are no word -/
theorem fig_bad {z : Str} {c : Nat} (hc : c ∈ cd z) (h : isIn FIG c = false) : figB z = false := by
  unfold figB
  have : z.cps.toList.all (isIn FIG) = false := by
    rw [List.all_eq_false]
    exact ⟨c, hc, by rw [h]; decide⟩
  rw [this, Bool.and_false]
theorem fig_zero {z : Str} (h : 1 ≤ z.length) : figB ("0" ++ z) = false := by
  have e : cd ("0" ++ z) = 48 :: cd z := by
    rw [cd_append]
    rfl
  have e0 : ("0" ++ z).cps.toList[0]? = some 48 := by
    show (cd ("0" ++ z))[0]? = _
    rw [e]
    rfl
  have s := starts_zero e0
  have l : 1 < ("0" ++ z).length := by
    rw [Str.length_append]
    show 1 < 1 + _
    omega
  unfold figB
  rw [s, decide_eq_true l]
  have : decide (V.str (⟨#[48]⟩ : Str) = V.str "0") = true := by decide +kernel
  rw [this]
  simp
def oddC : List Str := ["+1", "01", "00", "-0", "-1", "1_0", "1.0", "x", "1x", "1234567890123", ""]
def nearC : List Str := ["claim", "Claims", "coins", "says", "sai", "", "cl", "a"]
theorem oddC_ok : ∀ q ∈ oddC, figB q = false ∧ (∀ c ∈ cd q, 33 ≤ c ∧ c < 1000) ∧ q.length ≤ 14 := by decide +kernel
theorem nearC_ok : ∀ q ∈ nearC, (q ≠ "claims" ∧ q ≠ "say" ∧ q ≠ "coin") ∧ (∀ c ∈ cd q, 33 ≤ c ∧ c < 1000) ∧ q.length ≤ 14 := by decide +kernel
def Odd (q : Str) : Prop := figB q = false ∧ (∀ c ∈ cd q, 33 ≤ c ∧ c < 1000) ∧ q.length ≤ 14
theorem num_codes {n : Int} (h0 : 0 ≤ n) : ∀ c ∈ cd (numT n), 33 ≤ c ∧ c < 1000 := fun c hc => by
  have := num_dig h0 c hc
  omega
theorem odd_zero {n : Int} (h0 : 0 ≤ n) (h1 : n < 1000000000000) : Odd ("0" ++ numT n) := by
  refine ⟨fig_zero (num_len1 h0), fun c hc => ?_, ?_⟩
  · rw [cd_append] at hc
    rcases List.mem_append.mp hc with h | h
    · have : c = 48 := by
        have : cd ("0" : Str) = [48] := by decide +kernel
        rw [this] at h
        simpa using h
      omega
    · exact num_codes h0 c h
  · rw [Str.length_append]
    have := num_len h0 h1
    show 1 + _ ≤ 14
    omega
theorem odd_dash {n : Int} (h0 : 0 ≤ n) (h1 : n < 1000000000000) : Odd (numT n ++ "-") := by
  have e : cd (numT n ++ "-") = cd (numT n) ++ [45] := by
    rw [cd_append]
    rfl
  refine ⟨fig_bad (c := 45) (by rw [e]; simp) (by decide +kernel), fun c hc => ?_, ?_⟩
  · rw [e] at hc
    rcases List.mem_append.mp hc with h | h
    · exact num_codes h0 c h
    · have : c = 45 := by simpa using h
      omega
  · rw [Str.length_append]
    have := num_len h0 h1
    show _ + 1 ≤ 14
    omega
/-- the word of a row with its first number behind it is none of the three -/
theorem near_join {r : Rr} (ok : r.ok) {n : Int} (h0 : 0 ≤ n) : (r.word ++ numT n ≠ "claims" ∧ r.word ++ numT n ≠ "say" ∧ r.word ++ numT n ≠ "coin") := by
  have d := num_dig h0
  have ne := num_ne h0
  obtain ⟨c, hc⟩ : ∃ c, c ∈ cd (numT n) := List.exists_mem_of_ne_nil _ ne
  have hc' := d c hc
  have key : ∀ x : Str, (∀ c ∈ cd x, 97 ≤ c) → r.word ++ numT n ≠ x := fun x hx e => by
    have : c ∈ cd x := by
      rw [← e, cd_append]
      exact List.mem_append_right _ hc
    have := hx c this
    omega
  exact ⟨key _ (by decide +kernel), key _ (by decide +kernel), key _ (by decide +kernel)⟩
theorem parts_cd {r : Rr} (ok : r.ok) : ∀ q ∈ r.parts, ∀ c ∈ cd q, 33 ≤ c ∧ c < 1000 := fun q hq c hc => by
  have h1 := (good_wide ok).2.2 q hq
  have h2 := (parts_codes ok q hq).1 c hc
  exact ⟨by omega, h1.2 c hc⟩
theorem parts_lenok {r : Rr} (ok : r.ok) : LenOk r.parts := by
  have := parts_sum ok
  have l := parts_len r
  have := (r.ok_ints ok).2.1
  exact ⟨by omega, by omega, by omega⟩
theorem sum_take (ws : List Str) (k : Nat) : ((ws.take k).map (·.length)).sum ≤ (ws.map (·.length)).sum := by
  have := congrArg (fun l => (l.map (·.length)).sum) (List.take_append_drop k ws)
  simp only [List.map_append, List.sum_append] at this
  omega
theorem sum_drop (ws : List Str) (k : Nat) : ((ws.drop k).map (·.length)).sum ≤ (ws.map (·.length)).sum := by
  have := congrArg (fun l => (l.map (·.length)).sum) (List.take_append_drop k ws)
  simp only [List.map_append, List.sum_append] at this
  omega
/-- what a spoilt row tells -/
def Spoilt (ws : List Str) : Prop := LenOk ws ∧ BadTx (rowT ws) ∧ rowT ws ≠ ""
theorem rowT_ne {ws : List Str} (h : 2 ≤ ws.length ∨ ∃ x, ws = [x] ∧ x ≠ "") : rowT ws ≠ "" := fun e => by
  have e1 : cd (rowT ws) = [] := by rw [e]; decide +kernel
  unfold rowT SP at e1
  rw [cd_join] at e1
  match ws, h, e1 with
  | [], h, _ => rcases h with h | ⟨x, h, _⟩ <;> simp at h
  | [x], h, e1 =>
    rcases h with h | ⟨y, h, hy⟩
    · simp at h
    · obtain rfl : x = y := by simpa using h
      exact hy (cd_inj (by rw [show cd ("" : Str) = [] by decide +kernel]; exact e1))
  | a :: b :: l, _, e1 =>
    have : cd a ++ 32 :: jn 32 ((b :: l).map cd) = [] := e1
    simp at this
theorem spoilt_of {ws : List Str} (hl : LenOk ws) (hc : ∀ q ∈ ws, ∀ c ∈ cd q, 33 ≤ c ∧ c < 1000) (hb : Bad ws) (h : 2 ≤ ws.length ∨ ∃ x, ws = [x] ∧ x ≠ "") : Spoilt ws := ⟨hl, bad_of hl hc hb, rowT_ne h⟩
section
variable {r : Rr}
/-- one part made odd -/
theorem spoilt_odd (ok : r.ok) {q : Str} (hq : Odd q) {k : Nat} (k1 : 1 ≤ k) (k2 : k ≤ r.ints.length) : Spoilt (r.parts.take k ++ [q] ++ r.parts.drop (k + 1)) := by
  have L := parts_lenok ok
  have pl := parts_len r
  have oi := (r.ok_ints ok).2.1
  have s1 := parts_sum ok
  have s2 := sum_take r.parts k
  have s3 := sum_drop r.parts (k + 1)
  obtain ⟨j, rfl⟩ : ∃ j, k = j + 1 := ⟨k - 1, by omega⟩
  refine spoilt_of ⟨?_, ?_, ?_⟩ (fun x hx => ?_) ⟨r.word, (r.ints.map numT).take j ++ [q] ++ r.parts.drop (j + 1 + 1), ?_, .inr (.inl ⟨q, by simp, hq.1⟩)⟩ (.inl ?_)
  · simp
    omega
  · rw [List.length_append, List.length_append, List.length_take, List.length_drop]
    simp
    omega
  · rw [List.map_append, List.map_append, List.sum_append, List.sum_append]
    have := hq.2.2
    simp only [List.map_cons, List.map_nil, List.sum_cons, List.sum_nil]
    omega
  · rcases List.mem_append.mp hx with h | h
    · rcases List.mem_append.mp h with h | h
      · exact parts_cd ok x (List.mem_of_mem_take h)
      · rw [List.mem_singleton.mp h]
        exact hq.2.1
    · exact parts_cd ok x (List.mem_of_mem_drop h)
  · rfl
  · rw [List.length_append, List.length_append, List.length_take]
    simp
    omega
/-- another word ahead -/
theorem spoilt_near (ok : r.ok) {q : Str} (h : q ≠ "claims" ∧ q ≠ "say" ∧ q ≠ "coin") (hc : ∀ c ∈ cd q, 33 ≤ c ∧ c < 1000) (hl : q.length ≤ 20) : Spoilt (q :: r.parts.drop 1) := by
  have pl := parts_len r
  have oi := r.ok_ints ok
  have s1 := parts_sum ok
  have s3 := sum_drop r.parts 1
  refine spoilt_of ⟨by simp, ?_, ?_⟩ (fun x hx => ?_) ⟨q, r.ints.map numT, rfl, .inr (.inr ⟨r.ints, rfl, oi.2.2, h.1, h.2.1, .inl h.2.2⟩)⟩ (.inl ?_)
  · rw [List.length_cons, List.length_drop]
    omega
  · rw [List.map_cons, List.sum_cons]
    omega
  · rcases List.mem_cons.mp hx with rfl | hx
    · exact hc
    · exact parts_cd ok x (List.mem_of_mem_drop hx)
  · rw [List.length_cons, List.length_drop]
    omega
/-- 'claims say' ahead -/
theorem spoilt_two (ok : r.ok) : Spoilt ("claims say" :: r.parts.drop 1) := by
  have pl := parts_len r
  have oi := r.ok_ints ok
  have s1 := parts_sum ok
  have s3 := sum_drop r.parts 1
  have cl : ("claims" : Str).length = 6 ∧ ("say" : Str).length = 3 ∧ ("claims say" : Str).length = 10 := by decide +kernel
  have e : rowT ("claims say" :: r.parts.drop 1) = rowT ("claims" :: "say" :: r.parts.drop 1) := by
    refine cd_inj ?_
    unfold rowT SP
    rw [cd_join, cd_join]
    have ec : cd ("claims say" : Str) = cd ("claims" : Str) ++ 32 :: cd ("say" : Str) := by decide +kernel
    cases r.parts.drop 1 with
    | nil => exact ec
    | cons a l =>
      show cd ("claims say" : Str) ++ 32 :: jn 32 ((a :: l).map cd) = cd ("claims" : Str) ++ 32 :: (cd ("say" : Str) ++ 32 :: jn 32 ((a :: l).map cd))
      rw [ec, List.append_assoc]
      rfl
  have S : Spoilt ("claims" :: "say" :: r.parts.drop 1) := by
    refine spoilt_of ⟨by simp, ?_, ?_⟩ (fun x hx => ?_) ⟨"claims", "say" :: r.parts.drop 1, rfl, .inr (.inl ⟨"say", by simp, by decide +kernel⟩)⟩ (.inl (by simp))
    · rw [List.length_cons, List.length_cons, List.length_drop]
      omega
    · rw [List.map_cons, List.sum_cons, List.map_cons, List.sum_cons]
      omega
    · rcases List.mem_cons.mp hx with rfl | hx
      · decide +kernel
      rcases List.mem_cons.mp hx with rfl | hx
      · decide +kernel
      · exact parts_cd ok x (List.mem_of_mem_drop hx)
  refine ⟨⟨by simp, ?_, ?_⟩, by rw [e]; exact S.2.1, by rw [e]; exact S.2.2⟩
  · rw [List.length_cons, List.length_drop]
    omega
  · rw [List.map_cons, List.sum_cons]
    omega
end
section
variable {r : Rr}
theorem spoilt_bare (ok : r.ok) : Spoilt [r.word] := by
  have wc := word_codes ok
  refine spoilt_of ⟨by simp, by simp, ?_⟩ (fun x hx c hc => ?_) ⟨r.word, [], rfl, .inl rfl⟩ (.inr ⟨_, rfl, fun z => ?_⟩)
  · simp only [List.map_cons, List.map_nil, List.sum_cons, List.sum_nil]
    omega
  · rw [List.mem_singleton.mp hx] at hc
    have := wc.1 c hc
    omega
  · have := wc.2.2
    rw [z] at this
    cases this
theorem fig_word (ok : r.ok) : figB r.word = false := by
  rcases r.ok_word ok with h | h | h <;> (rw [h]; decide +kernel)
theorem spoilt_ahead (ok : r.ok) : Spoilt ("" :: r.parts) := by
  have L := parts_lenok ok
  have s1 := parts_sum ok
  have oi := r.ok_ints ok
  have pl := parts_len r
  have e0 : ("" : Str).length = 0 := rfl
  refine spoilt_of ⟨by simp, ?_, ?_⟩ (fun x hx => ?_) ⟨"", r.parts, rfl, .inr (.inl ⟨r.word, List.mem_cons_self, fig_word ok⟩)⟩ (.inl ?_)
  · rw [List.length_cons]
    omega
  · rw [List.map_cons, List.sum_cons]
    omega
  · rcases List.mem_cons.mp hx with rfl | hx
    · decide +kernel
    · exact parts_cd ok x hx
  · rw [List.length_cons]
    omega
theorem spoilt_mid (ok : r.ok) {k : Nat} (k1 : 1 ≤ k) : Spoilt (r.parts.take k ++ [("" : Str)] ++ r.parts.drop k) := by
  have s1 := parts_sum ok
  have s2 := sum_take r.parts k
  have s3 := sum_drop r.parts k
  have oi := r.ok_ints ok
  have pl := parts_len r
  have e0 : ("" : Str).length = 0 := rfl
  obtain ⟨j, rfl⟩ : ∃ j, k = j + 1 := ⟨k - 1, by omega⟩
  refine spoilt_of ⟨?_, ?_, ?_⟩ (fun x hx => ?_) ⟨r.word, (r.ints.map numT).take j ++ [("" : Str)] ++ r.parts.drop (j + 1), rfl, .inr (.inl ⟨"", by simp, by decide +kernel⟩)⟩ (.inl ?_)
  · simp
    omega
  · rw [List.length_append, List.length_append, List.length_take, List.length_drop]
    simp
    omega
  · rw [List.map_append, List.map_append, List.sum_append, List.sum_append]
    simp only [List.map_cons, List.map_nil, List.sum_cons, List.sum_nil]
    omega
  · rcases List.mem_append.mp hx with h | h
    · rcases List.mem_append.mp h with h | h
      · exact parts_cd ok x (List.mem_of_mem_take h)
      · rw [List.mem_singleton.mp h]
        decide +kernel
    · exact parts_cd ok x (List.mem_of_mem_drop h)
  · rw [List.length_append, List.length_append, List.length_take]
    simp
    omega
theorem spoilt_behind (ok : r.ok) : Spoilt (r.parts ++ [("" : Str)]) := by
  have h := spoilt_mid ok (k := r.parts.length) (by rw [parts_len]; omega)
  rw [List.take_length, List.drop_length, List.append_nil] at h
  exact h
theorem spoilt_coin {n : Int} (ok : (Rr.coin n).ok) : Spoilt ((Rr.coin n).parts ++ [("0" : Str)]) := by
  have s1 := parts_sum ok
  have e0 : ("0" : Str).length = 1 := rfl
  have z0 : numT 0 = ("0" : Str) := by decide +kernel
  refine spoilt_of ⟨by simp, ?_, ?_⟩ (fun x hx => ?_) ⟨"coin", [numT n, "0"], rfl, .inr (.inr ⟨[n, 0], by rw [← z0]; rfl, fun m hm => ?_, by decide +kernel, by decide +kernel, .inr (by simp)⟩)⟩ (.inl ?_)
  · show 3 ≤ 40
    decide
  · rw [List.map_append, List.sum_append]
    simp only [List.map_cons, List.map_nil, List.sum_cons, List.sum_nil]
    omega
  · rcases List.mem_append.mp hx with h | h
    · exact parts_cd ok x h
    · rw [List.mem_singleton.mp h]
      decide +kernel
  · have h : 0 ≤ n ∧ n < 1000000000000 := ok
    simp only [List.mem_cons, List.not_mem_nil, or_false] at hm
    rcases hm with rfl | rfl
    · exact h
    · decide
  · show 2 ≤ 3
    decide
theorem spoilt_comma (ok : r.ok) : Spoilt [Str.join "," r.parts] := by
  have s1 := parts_sum ok
  have oi := r.ok_ints ok
  have pl := parts_len r
  have cm : ("," : Str) = ⟨#[44]⟩ := by decide +kernel
  have jl := StrLaws.join_length_le "," r.parts
  rw [show ("," : Str).length = 1 from rfl, Nat.mul_one] at jl
  have hcd : cd (Str.join "," r.parts) = jn 44 (r.parts.map cd) := by rw [cm, cd_join]
  refine spoilt_of ⟨by simp, by simp, ?_⟩ (fun x hx c hc => ?_) ⟨_, [], rfl, .inl rfl⟩ (.inr ⟨_, rfl, fun z => ?_⟩)
  · simp only [List.map_cons, List.map_nil, List.sum_cons, List.sum_nil]
    omega
  · rw [List.mem_singleton.mp hx, hcd] at hc
    rcases mem_jn hc with h | ⟨a, ha, h⟩
    · omega
    · obtain ⟨q, hq, rfl⟩ := List.mem_map.mp ha
      exact parts_cd ok q hq c h
  · have e1 : cd (Str.join "," r.parts) = [] := by rw [z]; decide +kernel
    rw [hcd] at e1
    cases hp : r.ints.map numT with
    | nil =>
      have := congrArg List.length hp
      rw [List.length_map] at this
      simp at this
      rw [this] at oi
      simp at oi
    | cons a l =>
      have : r.parts = r.word :: a :: l := by unfold Rr.parts; rw [hp]
      rw [this] at e1
      have : cd r.word ++ 44 :: jn 44 ((a :: l).map cd) = [] := e1
      simp at this
end
theorem cut_to {xs : List V} {k : Nat} (hk : k ≤ xs.length) : cutV xs none (some (k : Int)) = xs.take k := by
  unfold cutV
  rw [HT.sIx_none, HT.sIx_nat, Nat.min_eq_left hk]
  rfl
abbrev stm (s : Stmt) (i : Nat) : Stmt := (defBody s).getD i (.Pass ⟨0, 0, 0, 0⟩)
def valOf : Stmt → Expr
  | .Assign _ v _ => v
  | _ => .Constant .none 0 ⟨0, 0, 0, 0⟩
def eltsOf : Expr → List Expr
  | .List es _ => es
  | _ => []
@[irreducible] def oddE : List Expr := (eltsOf (valOf (stm s_l_wrong 1))).take 11
@[irreducible] def nearE : List Expr := (eltsOf (valOf (stm s_l_wrong 2))).take 8
theorem oddE_w : Consts oddE oddC := by
  unfold oddE
  exact .cons (.cons (.cons (.cons (.cons (.cons (.cons (.cons (.cons (.cons (.cons .nil))))))))))
theorem nearE_w : Consts nearE nearC := by
  unfold nearE
  exact .cons (.cons (.cons (.cons (.cons (.cons (.cons (.cons .nil)))))))
theorem wrong_body : ∃ p1 p2 p3 p4 p5 p6 e1 e2 e3 e4, defBody s_l_wrong = [stm s_l_wrong 0, .Assign [.Name "_law_odd" p1] (.List (oddE ++ [e1, e2]) p2) p3, .Assign [.Name "_law_near" p4] (.List (nearE ++ [e3, e4]) p5) p6, stm s_l_wrong 3, stm s_l_wrong 4, stm s_l_wrong 5, stm s_l_wrong 6] ∧
    e1 = (eltsOf (valOf (stm s_l_wrong 1))).getD 11 (.Constant .none 0 ⟨0, 0, 0, 0⟩) ∧ e2 = (eltsOf (valOf (stm s_l_wrong 1))).getD 12 (.Constant .none 0 ⟨0, 0, 0, 0⟩) ∧ e3 = (eltsOf (valOf (stm s_l_wrong 2))).getD 8 (.Constant .none 0 ⟨0, 0, 0, 0⟩) ∧ e4 = (eltsOf (valOf (stm s_l_wrong 2))).getD 9 (.Constant .none 0 ⟨0, 0, 0, 0⟩) :=
  ⟨_, _, _, _, _, _, _, _, _, _, by with_unfolding_all rfl, rfl, rfl, rfl, rfl⟩
theorem pa_constsA {X : Cx} {fs : List Expr} {t : TA} (hf : PA X fs t) : ∀ {es : List Expr} {zs : List Str}, Consts es zs → PA X (es ++ fs) (fun σ H Q => t σ H fun vs H1 => Q (zs.map V.str ++ vs) H1)
  | _, _, .nil => hf
  | _, _, .cons h => fun pos pins s σ H Q I q => pa_cons pe_str (pa_constsA hf h) (by rfl) pos pins s σ H Q I q
theorem atI_map {l : List Str} {i : Int} {o : Str} (h : atI l i = some o) : atI (l.map V.str) i = some (.str o) := by
  unfold atI at h ⊢
  rw [List.length_map]
  obtain ⟨j, h1, h2⟩ := Option.bind_eq_some_iff.mp h
  rw [h1]
  show (l.map V.str)[j]? = _
  rw [List.getElem?_map, h2]
  rfl
def spWrong : Sp := fun vs H Q _ => ∃ (a : Addr) (r : Rr) (x y : Int), vs = [.ref a, .int x, .int y] ∧ H a = some (.lst (r.parts.map V.str)) ∧ r.ok ∧ 0 ≤ x ∧ x ≤ 1000000 ∧ 0 ≤ y ∧ y ≤ 1000000 ∧ ∀ (l : Addr) (ws : List Str) (H' : Hp), Same H H' → H' l = some (.lst (ws.map V.str)) → Spoilt ws → Q (.ref l) H'
theorem sc_l_wrong : FnScope ["_law_words_here", "_law_x", "_law_y", "_law_at", "_law_odd", "_law_near"] ["_law_words_here", "_law_x", "_law_y"] (defScope s_l_wrong) := ⟨rfl, rfl, rfl, by decide +kernel, rfl, by decide +kernel, by decide +kernel⟩
theorem ok_l_wrong {f : Addr} {fd : FuncData} (F : Fun K "_law_wrong" "_law_wrong" s_l_wrong f fd) (B : Bl mg) : FnOk P w K mg base CX0 1 f fd ["_law_words_here", "_law_x", "_law_y"] spWrong := by
  refine F.ok sc_l_wrong (fun vs H Q E h => ?_) (fun cdv A outer s H vs Q E hr h => ?_)
  · obtain ⟨a, r, x, y, rfl, _⟩ := h
    rfl
  obtain ⟨a, r, x, y, rfl, ga, ok, x0, x1, y0, y1, q⟩ := h
  obtain ⟨p1, p2, p3, p4, p5, p6, e1, e2, e3, e4, ebody, rfl, rfl, rfl, rfl⟩ := wrong_body
  rw [ebody]
  refine ⟨_, (pss_cons (ps_set (i := 3) sc_l_wrong.nd rfl (Or.inl rfl) (pe_op op_add pe_int (pe_op op_mod (pv 2) (pe_op op_sub (pe_callB call_len_seq rfl B.len PySem.boot_len (pa_cons (pv 0) pa_nil)) pe_int))))
      (pss_cons (ps_set (i := 4) sc_l_wrong.nd rfl (Or.inl rfl) (pe_lst (pa_constsA (pa_cons (pe_op op_add_str pe_str (pe_ix ix_list (pv 0) (pv 3) (fun _ _ => rfl))) (pa_cons (pe_op op_add_str (pe_ix ix_list (pv 0) (pv 3) (fun _ _ => rfl)) pe_str) pa_nil)) oddE_w)))
      (pss_cons (ps_set (i := 5) sc_l_wrong.nd rfl (Or.inl rfl) (pe_lst (pa_constsA (pa_cons (pe_op op_add_str (pe_ix ix_list (pv 0) pe_int (fun _ _ => rfl)) (pe_ix ix_list (pv 0) pe_int (fun _ _ => rfl))) (pa_cons pe_str pa_nil)) nearE_w)))
      (pss_cons (ps_if (pt_cmpR op_eq (pe_op op_mod (pv 1) pe_int) pe_int (nomark _)) (pss_one (ps_ret (pe_op op_cat (pe_op op_cat (pe_slice sl_list (pv 0) po_none (po_some (pv 3))) (pe_lst (pa_cons (pe_ix ix_list (pv 4) (pe_op op_mod (pe_op op_fdivL (pv 1) pe_int) pe_int) (fun _ _ => rfl)) pa_nil))) (pe_slice sl_list (pv 0) (po_some (pe_op op_add (pv 3) pe_int)) po_none)))) pss_nil)
      (pss_cons (ps_if (pt_cmpR op_eq (pe_op op_mod (pv 1) pe_int) pe_int (nomark _)) (pss_one (ps_ret (pe_op op_cat (pe_lst (pa_cons (pe_ix ix_list (pv 5) (pe_op op_mod (pe_op op_fdivL (pv 1) pe_int) pe_int) (fun _ _ => rfl)) pa_nil)) (pe_slice sl_list (pv 0) (po_some pe_int) po_none)))) pss_nil)
      (pss_cons (ps_if (PW.pt (pw_and (pt_cmpR op_eq (pe_ix ix_list (pv 0) pe_int (fun _ _ => rfl)) pe_str (nomark _)) (pw_and1 (pt_cmpR op_eq (pe_op op_mod (pe_op op_fdivL (pv 1) pe_int) pe_int) pe_int (nomark _))))) (pss_one (ps_ret (pe_ix ix_list (pe_lst (pa_cons (pe_op op_cat (pv 0) (pe_lst (pa_cons pe_str pa_nil))) (pa_cons (pe_slice sl_list (pv 0) po_none (po_some pe_int)) pa_nil))) (pe_op op_mod (pe_op op_fdivL (pv 1) pe_int) pe_int) (fun _ _ => rfl)))) pss_nil)
      (pss_one (ps_ret (pe_ix ix_list (pe_lst (pa_cons (pe_slice sl_list (pv 0) po_none (po_some pe_int)) (pa_cons (pe_op op_cat (pe_lst (pa_cons pe_str pa_nil)) (pv 0)) (pa_cons (pe_op op_cat (pv 0) (pe_lst (pa_cons pe_str pa_nil))) (pa_cons (pe_op op_cat (pe_op op_cat (pe_slice sl_list (pv 0) po_none (po_some (pv 3))) (pe_lst (pa_cons pe_str pa_nil))) (pe_slice sl_list (pv 0) (po_some (pv 3)) po_none)) (pa_cons (pe_lst (pa_cons (pe_bm PySem.F.plainAttrs_str PySem.F.slot_str_join PySem.F.type_str_join mt_join pe_str (pa_cons (pv 0) pa_nil)) pa_nil)) pa_nil)))))) (pe_op op_mod (pe_op op_fdivL (pv 1) pe_int) pe_int) (fun _ _ => rfl)))))))))), ?_⟩
  have oi := r.ok_ints ok
  have pl := parts_len r
  have hlen : ((r.parts.map V.str).length : Int) = (r.ints.length : Int) + 1 := by rw [List.length_map, pl]; rfl
  refine ⟨_, rfl, _, rfl, a, _, rfl, .inl (SqL.of ga), _, _, rfl, rfl, _, _, rfl, rfl, (by rw [hlen]; omega), _, _, rfl, rfl, ?_⟩
  obtain ⟨k, ek, k1, k2⟩ : ∃ k : Nat, 1 + y % (((r.parts.map V.str).length : Int) - 1) = (k : Int) ∧ 1 ≤ k ∧ k ≤ r.ints.length := by
    rw [hlen]
    have h0 := Int.emod_nonneg y (b := (r.ints.length : Int) + 1 - 1) (by omega)
    have h1 := Int.emod_lt_of_pos y (b := (r.ints.length : Int) + 1 - 1) (by omega)
    exact ⟨(1 + y % ((r.ints.length : Int) + 1 - 1)).toNat, by omega, by omega, by omega⟩
  have ev : ((fun i j : Int => V.int (i + j)) 1 (y % (((r.parts.map V.str).length : Int) - 1))) = V.int (k : Int) := congrArg V.int ek
  rw [ev]
  obtain ⟨m0, ms, ems⟩ : ∃ m0 ms, r.ints = m0 :: ms := by
    cases h : r.ints with
    | nil => rw [h] at oi; simp at oi
    | cons m0 ms => exact ⟨m0, ms, rfl⟩
  have hm : r.ints[k - 1]? = some (r.ints[k - 1]'(by omega)) := List.getElem?_eq_getElem _
  generalize r.ints[k - 1]'(by omega) = m at hm
  have bm := oi.2.2 m (List.mem_of_getElem? hm)
  have b0 := oi.2.2 m0 (by rw [ems]; exact List.mem_cons_self)
  have lm := num_len bm.1 bm.2
  have l0 := num_len b0.1 b0.2
  have wl := (word_codes ok).2.1
  have hk : (r.parts.map V.str)[k]? = some (.str (numT m)) := by
    obtain ⟨j, rfl⟩ : ∃ j, k = j + 1 := ⟨k - 1, by omega⟩
    show ((r.ints.map numT).map V.str)[j]? = _
    rw [List.getElem?_map, List.getElem?_map, show j = j + 1 - 1 from rfl, hm]
    rfl
  have h0 : atI (r.parts.map V.str) 0 = some (.str r.word) := atI_nat (j := 0) rfl
  have h1 : atI (r.parts.map V.str) 1 = some (.str (numT m0)) := atI_nat (j := 1) (by
    show ((r.ints.map numT).map V.str)[0]? = _
    rw [ems]
    rfl)
  refine ⟨_, rfl, _, rfl, a, _, _, _, rfl, rfl, SqL.of ga, atI_nat hk, _, _, rfl, rfl, small (by show 1 + _ ≤ 1000; omega), ?_⟩
  refine ⟨_, rfl, _, rfl, a, _, _, _, rfl, rfl, SqL.of ga, atI_nat hk, _, _, rfl, rfl, small (by show _ + 1 ≤ 1000; omega), ?_⟩
  refine ⟨(by show 13 ≤ sizeLine; decide), fun lo hlo => ?_⟩
  have Go := Same.new hlo (.lst ((oddC ++ ["0" ++ numT m, numT m ++ "-"]).map V.str))
  have go : upd H lo (.lst ((oddC ++ ["0" ++ numT m, numT m ++ "-"]).map V.str)) lo = some (.lst ((oddC ++ ["0" ++ numT m, numT m ++ "-"]).map V.str)) := upd_same
  show gName 4 _ _ (upd H lo (.lst ((oddC ++ ["0" ++ numT m, numT m ++ "-"]).map V.str))) _
  generalize upd H lo (.lst ((oddC ++ ["0" ++ numT m, numT m ++ "-"]).map V.str)) = H1 at Go go
  refine ⟨_, rfl, a, _, 0, _, rfl, rfl, SqL.of (Go _ _ ga), h0, _, rfl, a, _, 1, _, rfl, rfl, SqL.of (Go _ _ ga), h1, _, _, rfl, rfl, small (by omega), ?_⟩
  refine ⟨(by show 10 ≤ sizeLine; decide), fun ln hln => ?_⟩
  have Gn := Same.new hln (.lst ((nearC ++ [r.word ++ numT m0, "claims say"]).map V.str))
  have gn : upd H1 ln (.lst ((nearC ++ [r.word ++ numT m0, "claims say"]).map V.str)) ln = some (.lst ((nearC ++ [r.word ++ numT m0, "claims say"]).map V.str)) := upd_same
  show gName 5 _ _ (upd H1 ln (.lst ((nearC ++ [r.word ++ numT m0, "claims say"]).map V.str))) _
  generalize upd H1 ln (.lst ((nearC ++ [r.word ++ numT m0, "claims say"]).map V.str)) = H2 at Gn gn
  have S2 := Go.trans Gn
  have ga2 := S2 _ _ ga
  have go2 := Gn _ _ go
  clear Go Gn go ga
  refine ⟨_, rfl, _, _, rfl, rfl, (by show (0 : Int) < _; decide), rfl, _, rfl, ?_⟩
  have dk : k ≤ (r.parts.map V.str).length := by rw [List.length_map]; omega
  have plen : (r.parts.map V.str).length = r.ints.length + 1 := by rw [List.length_map, pl]
  refine ite2 (fun _ => ?_) (fun _ => ?_)
  · refine ⟨_, rfl, _, rfl, (k : Int), rfl, a, _, rfl, SqL.of ga2, fun q1 hq1 => ?_⟩
    rw [cut_to dk]
    have G1 := Same.new hq1 (.lst ((r.parts.map V.str).take k))
    have z0 := Int.emod_nonneg (x / 3) (b := 13) (by decide)
    have z1 := Int.emod_lt_of_pos (x / 3) (b := 13) (by decide)
    obtain ⟨o, ho, om⟩ := at_in (l := oddC ++ ["0" ++ numT m, numT m ++ "-"]) (i := x / 3 % 13) z0 z1
    have oo : Odd o := by
      rcases List.mem_append.mp om with h | h
      · exact oddC_ok o h
      · simp only [List.mem_cons, List.not_mem_nil, or_false] at h
        rcases h with rfl | rfl
        · exact odd_zero bm.1 bm.2
        · exact odd_dash bm.1 bm.2
    refine ⟨_, rfl, _, rfl, _, _, rfl, rfl, ⟨by decide, by decide⟩, _, _, rfl, rfl, (by show (0 : Int) < _; decide), lo, _, _, .str o, rfl, rfl, SqL.of (G1 _ _ go2), ?_, (by show 1 ≤ sizeLine; decide), fun q2 hq2 => ?_⟩
    · exact atI_map ho
    have G2 := Same.new hq2 (.lst [.str o])
    refine ⟨q1, q2, _, _, rfl, rfl, G2 _ _ upd_same, upd_same, small (by rw [List.length_take]; show _ + 1 ≤ 1000; omega), fun q3 hq3 => ?_⟩
    have G3 := Same.new hq3 (.lst ((r.parts.map V.str).take k ++ [.str o]))
    refine ⟨_, rfl, _, rfl, _, _, rfl, rfl, _, rfl, a, _, rfl, SqL.of (G3 _ _ (G2 _ _ (G1 _ _ ga2))), fun q4 hq4 => ?_⟩
    have ec : cutV (r.parts.map V.str) (some ((k : Int) + 1)) none = (r.parts.map V.str).drop (k + 1) := cut_from (k := k + 1) (by omega)
    rw [ec]
    have G4 := Same.new hq4 (.lst ((r.parts.map V.str).drop (k + 1)))
    refine ⟨q3, q4, _, _, rfl, rfl, G4 _ _ upd_same, upd_same, small (by rw [List.length_append, List.length_take, List.length_drop]; show _ + 1 + _ ≤ 1000; omega), fun q5 hq5 => ?_⟩
    refine q q5 (r.parts.take k ++ [o] ++ r.parts.drop (k + 1)) _ (S2.trans (G1.trans (G2.trans (G3.trans (G4.trans (Same.new hq5 _)))))) ?_ (spoilt_odd ok oo k1 k2)
    rw [upd_same, List.map_append, List.map_append, List.map_take, List.map_drop]
    rfl
  refine ⟨_, rfl, _, _, rfl, rfl, (by show (0 : Int) < _; decide), rfl, _, rfl, ?_⟩
  have ec1 : cutV (r.parts.map V.str) (some 1) none = (r.parts.map V.str).drop 1 := cut_from (k := 1) (by omega)
  have ec0 : cutV (r.parts.map V.str) none (some 1) = (r.parts.map V.str).take 1 := cut_to (k := 1) (by omega)
  refine ite2 (fun _ => ?_) (fun _ => ?_)
  · have z0 := Int.emod_nonneg (x / 3) (b := 10) (by decide)
    have z1 := Int.emod_lt_of_pos (x / 3) (b := 10) (by decide)
    obtain ⟨o, ho, om⟩ := at_in (l := nearC ++ [r.word ++ numT m0, "claims say"]) (i := x / 3 % 10) z0 z1
    have sp : Spoilt (o :: r.parts.drop 1) := by
      rcases List.mem_append.mp om with h | h
      · have := nearC_ok o h
        exact spoilt_near ok this.1 this.2.1 (by omega)
      · simp only [List.mem_cons, List.not_mem_nil, or_false] at h
        rcases h with rfl | rfl
        · refine spoilt_near ok (near_join ok b0.1) (fun c hc => ?_) (by rw [Str.length_append]; omega)
          rw [cd_append] at hc
          rcases List.mem_append.mp hc with h | h
          · have := (word_codes ok).1 c h
            omega
          · exact num_codes b0.1 c h
        · exact spoilt_two ok
    refine ⟨_, rfl, _, rfl, _, _, rfl, rfl, ⟨by decide, by decide⟩, _, _, rfl, rfl, (by show (0 : Int) < _; decide), ln, _, _, .str o, rfl, rfl, SqL.of gn, atI_map ho, (by show 1 ≤ sizeLine; decide), fun q2 hq2 => ?_⟩
    have G2 := Same.new hq2 (.lst [.str o])
    refine ⟨_, rfl, 1, rfl, a, _, rfl, SqL.of (G2 _ _ ga2), fun q4 hq4 => ?_⟩
    rw [ec1]
    have G4 := Same.new hq4 (.lst ((r.parts.map V.str).drop 1))
    refine ⟨q2, q4, _, _, rfl, rfl, G4 _ _ upd_same, upd_same, small (by rw [List.length_drop]; show 1 + _ ≤ 1000; omega), fun q5 hq5 => ?_⟩
    refine q q5 (o :: r.parts.drop 1) _ (S2.trans (G2.trans (G4.trans (Same.new hq5 _)))) ?_ sp
    rw [upd_same, List.map_cons, List.map_drop]
    rfl
  have psum := parts_sum ok
  refine ⟨_, rfl, a, _, 0, _, rfl, rfl, SqL.of ga2, h0, rfl, _, rfl, ?_⟩
  refine ite2 (fun c => ?b1) (fun _ => ?b2)
  case' b1 =>
    refine ⟨_, rfl, _, _, rfl, rfl, ⟨by decide, by decide⟩, _, _, rfl, rfl, (by show (0 : Int) < _; decide), rfl, _, rfl, ?_⟩
    refine ite2 (fun _ => ?b3) (fun _ => ?b4)
    case b3 =>
      have cw : r.word = "coin" := by
        have := of_decide_eq_true c
        injection this
      obtain ⟨n, rfl⟩ : ∃ n, r = .coin n := by
        cases r with
        | coin n => exact ⟨n, rfl⟩
        | nums w ns =>
          have w' : w = "coin" := cw
          rcases ok.1 with h | h
          · rw [h] at w'
            exact absurd w' (by decide +kernel)
          · rw [h] at w'
            exact absurd w' (by decide +kernel)
      refine ⟨_, rfl, (by show 1 ≤ sizeLine; decide), fun q1 hq1 => ?_⟩
      have G1 := Same.new hq1 (.lst [.str "0"])
      refine ⟨a, q1, _, _, rfl, rfl, G1 _ _ ga2, upd_same, (by show 3 ≤ sizeLine; decide), fun q2 hq2 => ?_⟩
      have G2 := Same.new hq2 (.lst (((Rr.coin n).parts.map V.str) ++ [.str "0"]))
      refine ⟨_, rfl, 1, rfl, a, _, rfl, SqL.of (G2 _ _ (G1 _ _ ga2)), fun q3 hq3 => ?_⟩
      rw [ec0]
      have G3 := Same.new hq3 (.lst (((Rr.coin n).parts.map V.str).take 1))
      refine ⟨(by show 2 ≤ sizeLine; decide), fun q4 hq4 => ?_⟩
      have G4 := Same.new hq4 (.lst [.ref q2, .ref q3])
      have SS := S2.trans (G1.trans (G2.trans (G3.trans G4)))
      have z0 := Int.emod_nonneg (x / 6) (b := 2) (by decide)
      have z1 := Int.emod_lt_of_pos (x / 6) (b := 2) (by decide)
      have : x / 6 % 2 = 0 ∨ x / 6 % 2 = 1 := by omega
      refine ⟨_, rfl, _, _, rfl, rfl, ⟨by decide, by decide⟩, _, _, rfl, rfl, (by show (0 : Int) < _; decide), ?_⟩
      rcases this with h | h
      · refine ⟨q4, _, _, .ref q2, rfl, rfl, SqL.of upd_same, by rw [h]; rfl, ?_⟩
        exact q q2 ((Rr.coin n).parts ++ [("0" : Str)]) _ SS (G4 _ _ (G3 _ _ upd_same)) (spoilt_coin ok)
      · refine ⟨q4, _, _, .ref q3, rfl, rfl, SqL.of upd_same, by rw [h]; rfl, ?_⟩
        exact q q3 [(Rr.coin n).word] _ SS (G4 _ _ upd_same) (spoilt_bare ok)
  case' b2 => refine iteF ?_
  all_goals
    refine ⟨_, rfl, 1, rfl, a, _, rfl, SqL.of ga2, fun q1 hq1 => ?_⟩
    rw [ec0]
    have G1 := Same.new hq1 (.lst ((r.parts.map V.str).take 1))
    refine ⟨(by show 1 ≤ sizeLine; decide), fun q2 hq2 => ?_⟩
    have G2 := Same.new hq2 (.lst [.str ""])
    have ga3 := G2 _ _ (G1 _ _ ga2)
    refine ⟨_, rfl, q2, a, _, _, rfl, rfl, upd_same, ga3, small (by show 1 + _ ≤ 1000; omega), fun q3 hq3 => ?_⟩
    have G3 := Same.new hq3 (.lst ([.str ""] ++ r.parts.map V.str))
    have ga4 := G3 _ _ ga3
    refine ⟨_, rfl, (by show 1 ≤ sizeLine; decide), fun q4 hq4 => ?_⟩
    have G4 := Same.new hq4 (.lst [.str ""])
    refine ⟨a, q4, _, _, rfl, rfl, G4 _ _ ga4, upd_same, small (by show _ + 1 ≤ 1000; omega), fun q5 hq5 => ?_⟩
    have G5 := Same.new hq5 (.lst (r.parts.map V.str ++ [.str ""]))
    have ga5 := G5 _ _ (G4 _ _ ga4)
    refine ⟨_, rfl, _, rfl, (k : Int), rfl, a, _, rfl, SqL.of ga5, fun q6 hq6 => ?_⟩
    rw [cut_to dk]
    have G6 := Same.new hq6 (.lst ((r.parts.map V.str).take k))
    refine ⟨(by show 1 ≤ sizeLine; decide), fun q7 hq7 => ?_⟩
    have G7 := Same.new hq7 (.lst [.str ""])
    refine ⟨q6, q7, _, _, rfl, rfl, G7 _ _ upd_same, upd_same, small (by rw [List.length_take]; show _ + 1 ≤ 1000; omega), fun q8 hq8 => ?_⟩
    have G8 := Same.new hq8 (.lst ((r.parts.map V.str).take k ++ [.str ""]))
    have ga8 := G8 _ _ (G7 _ _ (G6 _ _ ga5))
    refine ⟨_, rfl, _, rfl, (k : Int), rfl, a, _, rfl, SqL.of ga8, fun q9 hq9 => ?_⟩
    rw [cut_from dk]
    have G9 := Same.new hq9 (.lst ((r.parts.map V.str).drop k))
    refine ⟨q8, q9, _, _, rfl, rfl, G9 _ _ upd_same, upd_same, small (by rw [List.length_append, List.length_take, List.length_drop]; show _ + 1 + _ ≤ 1000; omega), fun q10 hq10 => ?_⟩
    have G10 := Same.new hq10 (.lst (((r.parts.map V.str).take k ++ [.str ""]) ++ (r.parts.map V.str).drop k))
    have ga10 := G10 _ _ (G9 _ _ ga8)
    refine ⟨rfl, _, rfl, _, a, r.parts, rfl, rfl, SqL.of ga10, (by decide +kernel), by omega, ?_⟩
    refine ⟨(by show 1 ≤ sizeLine; decide), fun q11 hq11 => ?_⟩
    have G11 := Same.new hq11 (.lst [.str (Txt.join "," r.parts)])
    refine ⟨(by show 5 ≤ sizeLine; decide), fun q12 hq12 => ?_⟩
    have G12 := Same.new hq12 (.lst [.ref q1, .ref q3, .ref q5, .ref q10, .ref q11])
    have T11 := G12
    have T10 := G11.trans T11
    have T5 := G6.trans (G7.trans (G8.trans (G9.trans (G10.trans T10))))
    have T3 := G4.trans (G5.trans T5)
    have T1 := G2.trans (G3.trans T3)
    have SS := S2.trans (G1.trans T1)
    have z0 := Int.emod_nonneg (x / 6) (b := 5) (by decide)
    have z1 := Int.emod_lt_of_pos (x / 6) (b := 5) (by decide)
    have : x / 6 % 5 = 0 ∨ x / 6 % 5 = 1 ∨ x / 6 % 5 = 2 ∨ x / 6 % 5 = 3 ∨ x / 6 % 5 = 4 := by omega
    refine ⟨_, rfl, _, _, rfl, rfl, ⟨by decide, by decide⟩, _, _, rfl, rfl, (by show (0 : Int) < _; decide), ?_⟩
    rcases this with h | h | h | h | h
    · refine ⟨q12, _, _, .ref q1, rfl, rfl, SqL.of upd_same, by rw [h]; rfl, ?_⟩
      exact q q1 [r.word] _ SS (T1 _ _ upd_same) (spoilt_bare ok)
    · refine ⟨q12, _, _, .ref q3, rfl, rfl, SqL.of upd_same, by rw [h]; rfl, ?_⟩
      exact q q3 ("" :: r.parts) _ SS (T3 _ _ upd_same) (spoilt_ahead ok)
    · refine ⟨q12, _, _, .ref q5, rfl, rfl, SqL.of upd_same, by rw [h]; rfl, ?_⟩
      refine q q5 (r.parts ++ [("" : Str)]) _ SS ?_ (spoilt_behind ok)
      rw [List.map_append]
      exact T5 _ _ upd_same
    · refine ⟨q12, _, _, .ref q10, rfl, rfl, SqL.of upd_same, by rw [h]; rfl, ?_⟩
      refine q q10 (r.parts.take k ++ [("" : Str)] ++ r.parts.drop k) _ SS ?_ (spoilt_mid ok k1)
      rw [List.map_append, List.map_append, List.map_take, List.map_drop]
      exact T10 _ _ upd_same
    · refine ⟨q12, _, _, .ref q11, rfl, rfl, SqL.of upd_same, by rw [h]; rfl, ?_⟩
      refine q q11 [Str.join "," r.parts] _ SS ?_ (spoilt_comma ok)
      rw [← join_tx]
      exact T11 _ _ upd_same
def RowOk (ws : List Str) : Prop := LenOk ws ∧ 10 ∉ cd (rowT ws)
theorem good_row {r : Rr} (ok : r.ok) : RowOk r.parts := ⟨parts_lenok ok, row_free (parts_cd ok)⟩
theorem spoilt_row {ws : List Str} (h : Spoilt ws) : RowOk ws := ⟨h.1, h.2.1.2.1⟩
theorem nl_split {xs : List Str} (h0 : xs ≠ []) (hf : ∀ x ∈ xs, 10 ∉ cd x) : Txt.split (Str.join NL xs) "\n" = xs := by
  rw [nl_eq]
  exact split_join (c := 10) h0 hf
theorem nl_ne {xs : List Str} (h : 2 ≤ xs.length ∨ ∃ x, xs = [x] ∧ x ≠ "") : Str.join NL xs ≠ "" := fun e => by
  have e1 : cd (Str.join NL xs) = [] := by rw [e]; decide +kernel
  unfold NL at e1
  rw [cd_join] at e1
  match xs, h, e1 with
  | [], h, _ => rcases h with h | ⟨x, h, _⟩ <;> simp at h
  | [x], h, e1 =>
    rcases h with h | ⟨y, h, hy⟩
    · simp at h
    · obtain rfl : x = y := by simpa using h
      exact hy (cd_inj (by rw [show cd ("" : Str) = [] by decide +kernel]; exact e1))
  | a :: b :: l, _, e1 =>
    have : cd a ++ 10 :: jn 10 ((b :: l).map cd) = [] := e1
    simp at this
theorem nl_len {xs : List Str} (hl : xs.length ≤ 80) (h : ∀ x ∈ xs, x.length ≤ 1000) : (Str.join NL xs).length ≤ 90000 := by
  have := StrLaws.join_length_le NL xs
  rw [show NL.length = 1 from rfl, Nat.mul_one] at this
  have := sum_le h
  omega
theorem blank_bad : BadTx (rowT [""]) := by
  refine ⟨row_len ⟨by simp, by simp, by decide +kernel⟩, by decide +kernel, ?_, ?_⟩
  · rw [words_split (ws := [""]) (by simp) (by decide +kernel)]
    exact ⟨by simp, by simp, by decide +kernel⟩
  · rw [words_split (ws := [""]) (by simp) (by decide +kernel)]
    exact ⟨"", [], rfl, .inl rfl⟩
theorem blank_row : RowOk [""] := ⟨⟨by simp, by simp, by decide +kernel⟩, by decide +kernel⟩
/-- a spoilt talk: good rows, a bad one, others -/
structure SpT (rs : List Rr) (i : Nat) (wss : List (List Str)) : Prop where
  ex : ∃ ws rest, wss = (rs.take i).map Rr.parts ++ ws :: rest ∧ BadTx (rowT ws) ∧ RowOk ws ∧ (∀ u ∈ rest, RowOk u) ∧ (2 ≤ wss.length ∨ rowT ws ≠ "")
  hi : i ≤ rs.length
  len : wss.length ≤ 80
  ok : ∀ r ∈ rs, r.ok
theorem SpT.rows {rs : List Rr} {i : Nat} {wss : List (List Str)} (h : SpT rs i wss) : ∀ u ∈ wss, RowOk u := fun u hu => by
  obtain ⟨ws, rest, e, _, hw, hr, _⟩ := h.ex
  rw [e] at hu
  rcases List.mem_append.mp hu with h' | h'
  · obtain ⟨r, hr', rfl⟩ := List.mem_map.mp h'
    exact good_row (h.ok r (List.mem_of_mem_take hr'))
  · rcases List.mem_cons.mp h' with rfl | h'
    · exact hw
    · exact hr u h'
/-- what _law_told is handed -/
theorem SpT.told {rs : List Rr} {i : Nat} {wss : List (List Str)} (h : SpT rs i wss) {H : Hp} {Q : VK} {E : XK} (q : ∀ H', Same H H' → Q (.int (i : Int)) H') : spTold [.str (Str.join NL (wss.map rowT))] H Q E := by
  have R := h.rows
  obtain ⟨ws, rest, e, hb, hw, hr, hn⟩ := h.ex
  have hl := h.len
  have tl : (rs.take i).length = i := by rw [List.length_take]; have := h.hi; omega
  have ex : wss.map rowT = ((rs.take i).map Rr.text) ++ rowT ws :: rest.map rowT := by
    rw [e, List.map_append, List.map_map]
    rfl
  have hx : ∀ x ∈ wss.map rowT, 10 ∉ cd x ∧ x.length ≤ 1000 := fun x hx => by
    obtain ⟨u, hu, rfl⟩ := List.mem_map.mp hx
    exact ⟨(R u hu).2, row_len (R u hu).1⟩
  refine ⟨_, wss.map rowT, rs.take i, rowT ws, rest.map rowT, rfl, nl_ne ?_, nl_len (by rw [List.length_map]; exact hl) fun x h => (hx x h).2, nl_split (by rw [ex]; simp) fun x h => (hx x h).1, by rw [List.length_map]; omega, fun r hr => h.ok r (List.mem_of_mem_take hr), ex, hb.1, hb.2.2.1, hb.2.2.2, fun H' S => by rw [tl]; exact q H' S⟩
  rcases hn with h2 | h2
  · exact .inl (by rw [List.length_map]; exact h2)
  · by_cases c : 2 ≤ wss.length
    · exact .inl (by rw [List.length_map]; exact c)
    · refine .inr ⟨rowT ws, ?_, h2⟩
      have l1 := congrArg List.length e
      rw [List.length_append, List.length_map, tl, List.length_cons] at l1
      have r0 : rest = [] := List.eq_nil_of_length_eq_zero (by omega)
      have i0 : i = 0 := by omega
      rw [ex, i0, r0]
      rfl
/-- what read_talk is handed, all rows good -/
theorem good_read {C : Addr} {rs : List Rr} (ok : ∀ r ∈ rs, r.ok) (h1 : 1 ≤ rs.length) (hl : rs.length ≤ 80) {H : Hp} {Q : VK} {E : XK} (q : ∀ v H', Same H H' → TalkAt H' v rs → Q v H') : spReadX C [.str (Str.join NL ((rs.map Rr.parts).map rowT))] H Q E := by
  have ex : (rs.map Rr.parts).map rowT = rs.map Rr.text := by
    rw [List.map_map]
    rfl
  have hx : ∀ x ∈ rs.map Rr.text, 10 ∉ cd x ∧ x.length ≤ 1000 := fun x hx => by
    obtain ⟨r, hr, rfl⟩ := List.mem_map.mp hx
    exact ⟨text_free (ok r hr), by have := text_len (ok r hr); omega⟩
  have h0 : rs ≠ [] := fun z => by rw [z] at h1; cases h1
  rw [ex]
  exact ⟨_, rs.map Rr.text, rs, rfl, talk_some ok h0, nl_len (by rw [List.length_map]; exact hl) fun x h => (hx x h).2, nl_split (by simpa using h0) fun x h => (hx x h).1, by rw [List.length_map]; omega, ok, .inl ⟨rfl, q⟩⟩
theorem rngV_mem {lo : Int} {n : Nat} {k : Int} (h : k ∈ rngV lo n) : lo ≤ k ∧ k < lo + (n : Int) := by
  unfold rngV at h
  obtain ⟨i, hi, rfl⟩ := List.mem_map.mp h
  have := List.mem_range.mp hi
  omega
theorem WsAt.apart {H : Hp} {us : List V} {wss : List (List Str)} {D l : Addr} {r : Rr} (W : WsAt H us wss) (hD : H D = some (.lst us)) (hl : H l = some (.lst (r.parts.map V.str))) : D ≠ l := fun z => by
  rw [z, hl] at hD
  cases hD
  have h0 : (r.parts.map V.str)[0]? = some (.str r.word) := rfl
  have hl := W.1
  have : 0 < wss.length := by
    rw [← hl, List.length_map, parts_len]
    omega
  obtain ⟨a, e, _⟩ := W.2 0 _ _ h0 (List.getElem?_eq_getElem this)
  cases e
theorem WsAt.but {H H' : Hp} {us : List V} {wss : List (List Str)} {f : Addr} (W : WsAt H us wss) (ne : ∀ ws ∈ wss, ws ≠ []) (F : FeedAt H f) (S : SameBut f H H') : WsAt H' us wss := ⟨W.1, fun i v ws h1 h2 => by
  obtain ⟨b, e, g⟩ := W.2 i v ws h1 h2
  refine ⟨b, e, S b _ (fun z => ?_) g⟩
  obtain ⟨o, t, ef, _⟩ := F
  rw [z, ef] at g
  cases ws with
  | nil => exact ne [] (List.mem_of_getElem? h2) rfl
  | cons x l => cases g⟩
theorem parts_ne {rs : List Rr} : ∀ ws ∈ rs.map Rr.parts, ws ≠ [] := fun ws hw z => by
  obtain ⟨r, _, rfl⟩ := List.mem_map.mp hw
  cases z
theorem sc_law : FnScope ["_law_script", "_law_rows", "_law_feed_here", "_law_at", "_law_form", "_law_spoilt", "_law_last", "_law_good", "_law_found", "_law_blank"] ["_law_script"] (defScope s_law) := ⟨rfl, rfl, rfl, by decide +kernel, rfl, by decide +kernel, by decide +kernel⟩
theorem pss_cut {X : Cx} {ss : List Stmt} {t t' : TS} (h : PSs X ss t) (hw : ∀ D σ H, t' D σ H → t D σ H) : PSs X ss t' := fun pins s σ H D I k => h pins s σ H D I (hw _ _ _ k)
theorem WsAt.set {H : Hp} {us : List V} {wss : List (List Str)} {l : Addr} {ws : List Str} (W : WsAt H us wss) (n : Nat) (hl : H l = some (.lst (ws.map V.str))) : WsAt H (us.set n (.ref l)) (wss.set n ws) := by
  refine ⟨by rw [List.length_set, List.length_set, W.1], fun i v w hv hw => ?_⟩
  rw [List.getElem?_set] at hv hw
  by_cases c : n = i
  · rw [if_pos c] at hv hw
    split at hv
    · cases hv
      split at hw
      · cases hw
        exact ⟨l, rfl, hl⟩
      · cases hw
    · cases hv
  · rw [if_neg c] at hv hw
    exact W.2 i v w hv hw
theorem WsAt.upd {H : Hp} {us vs0 : List V} {wss : List (List Str)} {S b : Addr} (W : WsAt H us wss) (ne : ∀ ws ∈ wss, ws ≠ []) (hS : H S = some (.lst vs0)) (h0 : vs0[0]? = some (.ref b)) (o : HO) : WsAt (upd H S o) us wss := ⟨W.1, fun i v ws h1 h2 => by
  obtain ⟨c, e, g⟩ := W.2 i v ws h1 h2
  refine ⟨c, e, ?_⟩
  rw [upd_ne (fun z => ?_)]
  · exact g
  · rw [z, hS] at g
    cases ws with
    | nil => exact ne [] (List.mem_of_getElem? h2) rfl
    | cons x l =>
      cases g
      cases h0⟩
theorem RowOk.ne {ws : List Str} (h : RowOk ws) : ws ≠ [] := fun z => by
  have := h.1.1
  rw [z] at this
  cases this
theorem SpT.last {rs : List Rr} {i : Nat} {wss : List (List Str)} {ws' : List Str} (h : SpT rs i wss) (hi : i + 1 < rs.length) (hl : rs.length ≤ wss.length) (hw : RowOk ws') : SpT rs i (wss.set (wss.length - 1) ws') := by
  obtain ⟨ws, rest, e, hb, hr, hrest, hn⟩ := h.ex
  have tl : ((rs.take i).map Rr.parts).length = i := by rw [List.length_map, List.length_take]; have := h.hi; omega
  have l1 := congrArg List.length e
  rw [List.length_append, tl, List.length_cons] at l1
  refine ⟨⟨ws, rest.set (rest.length - 1) ws', ?_, hb, hr, fun u hu => ?_, by rw [List.length_set]; exact hn⟩, h.hi, by rw [List.length_set]; exact h.len, h.ok⟩
  · rw [l1]
    rw [e, List.set_append_right _ _ (by rw [tl]; omega), tl, show i + (rest.length + 1) - 1 - i = (rest.length - 1) + 1 by omega, List.set_cons_succ]
  · rcases List.mem_or_eq_of_mem_set hu with h' | h'
    · exact hrest u h'
    · rw [h']
      exact hw
theorem ixN_last {n : Nat} (h : 0 < n) : ixN n (-1) = some (n - 1) := by
  unfold ixN
  rw [if_neg (by omega), if_pos (by omega)]
  congr 1
  omega
def tC : TS := fun D σ H => ∃ (x0 x2 x4 x6 x7 x8 x9 : Option V) (R S : Addr) (ur us : List V) (rr : List Rr) (wss : List (List Str)) (j : Nat), σ = [x0, some (.ref R), x2, some (.int (j : Int)), x4, some (.ref S), x6, x7, x8, x9] ∧ H R = some (.lst ur) ∧ WsAt H ur (rr.map Rr.parts) ∧ H S = some (.lst us) ∧ WsAt H us wss ∧ SpT rr j wss ∧ 1 ≤ rr.length ∧ rr.length ≤ 63 ∧ ∀ H', D.rt (.bl true) H'
def tB (K : PySem.W.Frag) : TS := fun D σ H => ∃ (a : Addr) (ns : List Int) (x2 x4 x6 x7 x8 x9 : Option V) (R S : Addr) (ur us : List V) (rr : List Rr) (wss : List (List Str)) (j : Nat), σ = [some (.ref a), some (.ref R), x2, some (.int (j : Int)), x4, some (.ref S), x6, x7, x8, x9] ∧ SqL K H a (ns.map V.int) ∧ ns.length ≤ 63 ∧ H R = some (.lst ur) ∧ WsAt H ur (rr.map Rr.parts) ∧ H S = some (.lst us) ∧ WsAt H us wss ∧ SpT rr j wss ∧ rr.length ≤ wss.length ∧ R ≠ S ∧ 1 ≤ rr.length ∧ rr.length ≤ 63 ∧ ∀ H', D.rt (.bl true) H'
def tA (K : PySem.W.Frag) : TS := fun D σ H => ∃ (a R f0 : Addr) (H0 : Hp) (ns : List Int) (ur : List V) (rr : List Rr) (x3 x4 x5 x6 x7 x8 x9 : Option V), σ = [some (.ref a), some (.ref R), some (.ref f0), x3, x4, x5, x6, x7, x8, x9] ∧ SqL K H0 a (ns.map V.int) ∧ H0 f0 = none ∧ Same H0 H ∧ ns.length ≤ 63 ∧ H R = some (.lst ur) ∧ WsAt H ur (rr.map Rr.parts) ∧ FeedAt H f0 ∧ R ≠ f0 ∧ 1 ≤ rr.length ∧ rr.length ≤ 63 ∧ (∀ r ∈ rr, r.ok) ∧ ∀ H', D.rt (.bl true) H'
theorem blanks4 {z : V} (h : z ∈ [V.str " ", .str "\n", .str "   ", .str " \n "]) : ∃ (t x : Str) (rest : List Str), z = .str t ∧ t ≠ "" ∧ t.length ≤ 90000 ∧ Txt.split t "\n" = x :: rest ∧ (x :: rest).length ≤ 100 ∧ x.length ≤ 1000 ∧ Wide (Txt.split x " ") ∧ Bad (Txt.split x " ") := by
  have s1 : Txt.split (" " : Str) " " = [("" : Str), ""] := by decide +kernel
  have s2 : Txt.split ("" : Str) " " = [("" : Str)] := by decide +kernel
  have s3 : Txt.split ("   " : Str) " " = [("" : Str), "", "", ""] := by decide +kernel
  have w1 : Wide ["", ""] := ⟨by decide, by decide, by decide +kernel⟩
  have w2 : Wide [""] := ⟨by decide, by decide, by decide +kernel⟩
  have w3 : Wide ["", "", "", ""] := ⟨by decide, by decide, by decide +kernel⟩
  have b1 : Bad ["", ""] := ⟨"", [""], rfl, .inr (.inl ⟨"", by simp, by decide +kernel⟩)⟩
  have b2 : Bad [""] := ⟨"", [], rfl, .inl rfl⟩
  have b3 : Bad ["", "", "", ""] := ⟨"", ["", "", ""], rfl, .inr (.inl ⟨"", by simp, by decide +kernel⟩)⟩
  simp only [List.mem_cons, List.not_mem_nil, or_false] at h
  rcases h with rfl | rfl | rfl | rfl
  · exact ⟨_, " ", [], rfl, by decide +kernel, by decide +kernel, by decide +kernel, by decide, by decide +kernel, s1 ▸ w1, s1 ▸ b1⟩
  · exact ⟨_, "", [""], rfl, by decide +kernel, by decide +kernel, by decide +kernel, by decide, by decide +kernel, s2 ▸ w2, s2 ▸ b2⟩
  · exact ⟨_, "   ", [], rfl, by decide +kernel, by decide +kernel, by decide +kernel, by decide, by decide +kernel, s3 ▸ w3, s3 ▸ b3⟩
  · exact ⟨_, " ", [" "], rfl, by decide +kernel, by decide +kernel, by decide +kernel, by decide, by decide +kernel, s1 ▸ w1, s1 ▸ b1⟩
theorem SpT.what {rs : List Rr} {i : Nat} {wss : List (List Str)} (h : SpT rs i wss) : ∃ (xs : List Str) (rs' : List Rr) (x : Str) (rest : List Str), Str.join NL (wss.map rowT) ≠ "" ∧ (Str.join NL (wss.map rowT)).length ≤ 90000 ∧ Txt.split (Str.join NL (wss.map rowT)) "\n" = xs ∧ xs.length ≤ 100 ∧ (∀ r ∈ rs', r.ok) ∧ xs = rs'.map Rr.text ++ x :: rest ∧ x.length ≤ 1000 ∧ Wide (Txt.split x " ") ∧ Bad (Txt.split x " ") ∧ i = rs'.length := by
  have := h.told (H := fun _ => none) (Q := fun v _ => v = .int (i : Int)) (E := fun _ _ _ => False) fun _ _ => rfl
  obtain ⟨T, xs, rs', x, rest, e0, t1, t2, t3, t4, t5, t6, t7, t8, t9, q⟩ := this
  cases e0
  have := V.int.inj (q _ (Same.refl _))
  exact ⟨xs, rs', x, rest, t1, t2, t3, t4, t5, t6, t7, t8, t9, by omega⟩
theorem ok_law {f C : Addr} {fd : FuncData} (F : Fun K "law" "law" s_law f fd) (B : Bl mg) (C_l_feed : Cal P w K mg base 1 "_law_feed" ["_law_script", "_law_k"] (spFeed K)) (C_l_take : Cal P w K mg base 1 "_law_take" ["_law_feed_here", "_law_many"] spTake) (C_l_cells : Cal P w K mg base 1 "_law_cells" ["_law_script", "_law_at"] (spCells K)) (C_l_words : Cal P w K mg base 2 "_law_words" ["_law_feed_here"] spWordsR) (C_l_wrong : Cal P w K mg base 1 "_law_wrong" ["_law_words_here", "_law_x", "_law_y"] spWrong) (C_l_text : Cal P w K mg base 1 "_law_text" ["_law_rows"] spTextR) (C_l_told : Cal P w K mg base 6 "_law_told" ["_law_text_here"] spTold) (C_read_talk : CalR P w K mg base 5 "read_talk" ["text"] (spReadX C)) : FnOk P w K mg base CX0 7 f fd ["_law_script"] (spLaw K) := by
  refine F.ok sc_law (fun vs H Q E h => ?_) (fun cdv A outer s H vs Q E hr h => ?_)
  · obtain ⟨a, ns, rfl, _⟩ := h
    rfl
  obtain ⟨a, ns, rfl, hS, h63, q⟩ := h
  refine ⟨_, (pss_cons (ps_comp (i := 1) (N := ["_law_script"]) (ix := [0]) sc_law.nd rfl (Or.inl rfl) rfl
        (CompScope.one (by with_unfolding_all rfl) (by decide) rfl (by decide) rfl (by decide +kernel) (by with_unfolding_all rfl) (by with_unfolding_all rfl) (by with_unfolding_all rfl) rfl rfl) rfl
        (pi_list (pe_cal C_l_cells hr (by decide) rfl (pa_cons (pv 0) (pa_cons pe_int pa_nil))))
        (fun _ _ _ => pb_all (pe_cal C_l_words hr (by decide) rfl (pa_cons (pe_cal C_l_feed hr (by decide) rfl (pa_cons (pv 1) (pa_cons (pv 0) pa_nil))) pa_nil))))
      (pss_cons (ps_set (i := 2) sc_law.nd rfl (Or.inl rfl) (pe_cal C_l_feed hr (by decide) rfl (pa_cons (pv 0) (pa_cons pe_int pa_nil))))
      (pss_cons (ps_if (pt_cmpR op_eq (pe_cal C_l_take hr (by decide) rfl (pa_cons (pv 2) (pa_cons pe_int pa_nil))) pe_int (nomark _)) (pss_one (ps_set (i := 1) sc_law.nd rfl (Or.inl rfl) (pe_slice sl_list (pv 1) po_none (po_some pe_int)))) pss_nil)
      (pss_cut (t' := tA K) (pss_cons (ps_set (i := 3) sc_law.nd rfl (Or.inl rfl) (pe_cal C_l_take hr (by decide) rfl (pa_cons (pv 2) (pa_cons (pe_callB call_len_seq rfl B.len PySem.boot_len (pa_cons (pv 1) pa_nil)) pa_nil))))
      (pss_cons (ps_set (i := 4) sc_law.nd rfl (Or.inl rfl) (pe_cal C_l_take hr (by decide) rfl (pa_cons (pv 2) (pa_cons pe_int pa_nil))))
      (pss_cons (ps_set (i := 5) sc_law.nd rfl (Or.inl rfl) (pe_op op_cat (pe_op op_cat (pe_slice sl_list (pv 1) po_none (po_some (pv 3))) (pe_lst (pa_cons (pe_cal C_l_wrong hr (by decide) rfl (pa_cons (pe_ix ix_list (pv 1) (pv 3) (fun _ _ => rfl)) (pa_cons (pe_cal C_l_take hr (by decide) rfl (pa_cons (pv 2) (pa_cons (pe_op op_pow pe_int pe_int) pa_nil))) (pa_cons (pe_cal C_l_take hr (by decide) rfl (pa_cons (pv 2) (pa_cons (pe_op op_pow pe_int pe_int) pa_nil))) pa_nil)))) pa_nil))) (pe_slice sl_list (pv 1) (po_some (pe_op op_add (pv 3) pe_int)) po_none)))
      (pss_cons (ps_if (pt_cmpR op_eq (pv 4) pe_int (nomark _)) (pss_one (ps_set (i := 5) sc_law.nd rfl (Or.inl rfl) (pe_op op_cat (pe_op op_cat (pe_slice sl_list (pv 1) po_none (po_some (pv 3))) (pe_lst (pa_cons (pe_lst (pa_cons pe_str pa_nil)) pa_nil))) (pe_slice sl_list (pv 1) (po_some (pv 3)) po_none)))) (pss_one (ps_if (pt_cmpR op_eq (pv 4) pe_int (nomark _)) (pss_cons (ps_set (i := 3) sc_law.nd rfl (Or.inl rfl) (pe_callB call_len_seq rfl B.len PySem.boot_len (pa_cons (pv 1) pa_nil)))
          (pss_one (ps_set (i := 5) sc_law.nd rfl (Or.inl rfl) (pe_op op_cat (pv 1) (pe_lst (pa_cons (pe_lst (pa_cons pe_str pa_nil)) pa_nil)))))) pss_nil)))
      (pss_cut (t' := tB K) (pss_cons (ps_set (i := 2) sc_law.nd rfl (Or.inl rfl) (pe_cal C_l_feed hr (by decide) rfl (pa_cons (pv 0) (pa_cons pe_int pa_nil))))
      (pss_cons (ps_set (i := 6) sc_law.nd rfl (Or.inl rfl) (pe_op op_sub (pe_callB call_len_seq rfl B.len PySem.boot_len (pa_cons (pv 1) pa_nil)) pe_int))
      (pss_cons (ps_if (PW.pt (pw_and (pt_cmpR op_eq (pe_cal C_l_take hr (by decide) rfl (pa_cons (pv 2) (pa_cons pe_int pa_nil))) pe_int (nomark _)) (pw_and1 (pt_cmpR op_lt (pv 3) (pv 6) (nomark _))))) (pss_one (ps_asg (pe_cal C_l_wrong hr (by decide) rfl (pa_cons (pe_ix ix_list (pv 1) (pv 6) (fun _ _ => rfl)) (pa_cons (pe_cal C_l_take hr (by decide) rfl (pa_cons (pv 2) (pa_cons (pe_op op_pow pe_int pe_int) pa_nil))) (pa_cons (pe_cal C_l_take hr (by decide) rfl (pa_cons (pv 2) (pa_cons (pe_op op_pow pe_int pe_int) pa_nil))) pa_nil)))) (pg_sub (pv 5) (pe_un un_neg pe_int) set_list))) pss_nil)
      (pss_cut (t' := tC) (pss_cons (ps_set (i := 7) sc_law.nd rfl (Or.inl rfl) (pe_calR C_read_talk hr (by decide) rfl noRaise (pa_cons (pe_cal C_l_text hr (by decide) rfl (pa_cons (pv 1) pa_nil)) pa_nil)))
      (pss_cons (ps_set (i := 8) sc_law.nd rfl (Or.inl rfl) (pe_cal C_l_told hr (by decide) rfl (pa_cons (pe_cal C_l_text hr (by decide) rfl (pa_cons (pv 5) pa_nil)) pa_nil)))
      (pss_cons (ps_if (PW.pt (pw_or (pt_cmpR op_ne (pv 8) (pv 3) (nomark _)) (pw_or (pt_val (pe_callB call_isinst rfl B.isinstance PyProof.Rows.boot_isinstance (pa_cons (pv 8) (pa_cons (pe_bltn (v := V.ty "bool") rfl B.bool boot_bool' rfl) pa_nil)))) (pw_or1 (pt_cmpR op_ne (pe_callB call_len_seq rfl B.len PySem.boot_len (pa_cons (pv 7) pa_nil)) (pe_callB call_len_seq rfl B.len PySem.boot_len (pa_cons (pv 1) pa_nil)) (nomark _)))))) (pss_one (ps_ret pe_bl)) pss_nil)
      (pss_cons (ps_for PassesOwn.never rfl (pi_list (pe_lst (pa_cons pe_str (pa_cons pe_str (pa_cons pe_str (pa_cons pe_str pa_nil)))))) (pg_name (i := 9) sc_law.nd rfl (Or.inl rfl)) (pss_one (ps_if (pt_cmpR op_ne (pe_cal C_l_told hr (by decide) rfl (pa_cons (pv 9) pa_nil)) pe_int (nomark _)) (pss_one (ps_ret pe_bl)) pss_nil)))
      (pss_one (ps_ret (pe_and (pe_cmpR op_eq (pe_cal C_l_told hr (by decide) rfl (pa_cons (pe_cal C_l_text hr (by decide) rfl (pa_cons (pv 5) pa_nil)) pa_nil)) (pv 3) (nomark _)) (pe_one (pe_cmpR (op_eqD hr.units) (pe_calR C_read_talk hr (by decide) rfl noRaise (pa_cons (pe_cal C_l_text hr (by decide) rfl (pa_cons (pv 1) pa_nil)) pa_nil)) (pv 7) (nomark _)))))))))) (by
            rintro Dn σ H ⟨x0, x2, x4, x6, x7, x8, x9, R, S, ur, us, rr, wss, j, rfl, gR, WR, gS, WS, SP, r1, r63, q⟩
            obtain ⟨xs, r', y, rest, t1, t2, t3, t4, t5, t6, t7, t8, t9, rfl⟩ := SP.what
            have okr := SP.ok
            have LR : ∀ ws ∈ rr.map Rr.parts, LenOk ws := fun ws hw => by
              obtain ⟨r, hr, rfl⟩ := List.mem_map.mp hw
              exact (good_row (okr r hr)).1
            have LS : ∀ ws ∈ wss, LenOk ws := fun ws hw => (SP.rows ws hw).1
            have sl := SP.len
            have url := WR.1
            rw [List.length_map] at url
            refine ⟨_, rfl, R, ur, rr.map Rr.parts, rfl, gR, WR, LR, by rw [List.length_map]; omega, fun H1 S1 => ?_⟩
            refine good_read okr r1 (by omega) fun v H2 S2 T2 => ?_
            have S12 := S1.trans S2
            refine ⟨_, rfl, S, us, wss, rfl, S12 _ _ gS, WS.same S12, LS, by omega, fun H3 S3 => ?_⟩
            refine ⟨_, xs, r', y, rest, rfl, t1, t2, t3, t4, t5, t6, t7, t8, t9, fun H4 S4 => ?_⟩
            have S24 := S3.trans S4
            have S04 := S12.trans S24
            obtain ⟨va, vs, rfl, gva0, Rv0⟩ := T2
            have gva := S24 _ _ gva0
            have Rv := Rv0.same S24
            have vl := Rv.len
            refine ⟨_, rfl, _, rfl, rfl, _, rfl, ?_⟩
            refine iteNS rfl ?_
            refine ⟨_, rfl, _, _, "bool", false, rfl, TyOf.int _, kit_int_bool _, _, rfl, ?_⟩
            refine iteF ?_
            refine ⟨_, rfl, va, _, rfl, .inr (SqT.of gva), _, rfl, R, _, rfl, .inl (SqL.of (S04 _ _ gR)), rfl, _, rfl, ?_⟩
            refine iteNS (congrArg V.int (by rw [vl, url])) ?_
            refine ⟨(by show 4 ≤ sizeLine; decide), fun L hL => ?_⟩
            have GL := Same.new hL (.lst [.str " ", .str "\n", .str "   ", .str " \n "])
            have gL : upd H4 L (.lst [.str " ", .str "\n", .str "   ", .str " \n "]) L = some (.lst [.str " ", .str "\n", .str "   ", .str " \n "]) := upd_same
            refine ⟨L, rfl, ⟨_, SqL.of gL⟩, for_list (K := K) (xs := [.str " ", .str "\n", .str "   ", .str " \n "]) (fun i σ H' => ∃ x9 : Option V, σ = [x0, some (.ref R), x2, some (.int (r'.length : Int)), x4, some (.ref S), x6, some (.ref va), some (.int (r'.length : Int)), x9] ∧ Same (upd H4 L (.lst [.str " ", .str "\n", .str "   ", .str " \n "])) H') ⟨_, rfl, Same.refl _⟩ (fun i σ H' _ hst => by obtain ⟨_, _, s⟩ := hst; exact SqL.of (s _ _ gL)) ?_ ?_⟩
            · rintro i z σ H5 hz ⟨y9, rfl, S5⟩
              obtain ⟨t, x, rs, rfl, b1, b2, b3, b4, b5, b6, b7⟩ := blanks4 (List.mem_of_getElem? hz)
              refine ⟨_, rfl, ?_⟩
              refine ⟨_, _, [], _, _, rfl, b1, b2, b3, b4, (fun r hr => by cases hr), rfl, b5, b6, b7, fun H6 S6 => ?_⟩
              refine ⟨rfl, _, rfl, ?_⟩
              refine iteNS rfl ?_
              exact ⟨_, rfl, S5.trans S6⟩
            rintro σ H5 ⟨y9, rfl, S5⟩
            have S05 := S04.trans (GL.trans S5)
            refine ⟨_, rfl, S, us, wss, rfl, S05 _ _ gS, WS.same S05, LS, by omega, fun H6 S6 => ?_⟩
            refine ⟨_, xs, r', y, rest, rfl, t1, t2, t3, t4, t5, t6, t7, t8, t9, fun H7 S7 => ?_⟩
            refine ⟨_, rfl, rfl, _, rfl, iteD rfl ?_⟩
            have S07 := S05.trans (S6.trans S7)
            refine ⟨_, rfl, R, ur, rr.map Rr.parts, rfl, S07 _ _ gR, WR.same S07, LR, by rw [List.length_map]; omega, fun H8 S8 => ?_⟩
            refine good_read okr r1 (by omega) fun v H9 S9 T9 => ?_
            obtain ⟨va2, ws2, rfl, hva2, Rv2⟩ := T9
            have S49 := GL.trans (S5.trans (S6.trans (S7.trans (S8.trans S9))))
            refine ⟨_, rfl, _, _, .tup (SqT.of hva2) Rv2.rep, .tup (SqT.of (S49 _ _ gva)) (Rv.same S49).rep, talk_shaped okr, talk_shaped okr, ?_⟩
            rw [talk_eqv okr]
            exact q H9))))) (by
            rintro Dn σ H ⟨a, ns, x2, x4, x6, x7, x8, x9, R, S, ur, us, rr, wss, j, rfl, hS, h63, gR, WR, gS, WS, SP, lw, RS, r1, r63, q⟩
            have url := WR.1
            rw [List.length_map] at url
            refine ⟨_, rfl, a, ns, 1, rfl, hS, h63, by decide, by decide, fun f1 H1 f10 s1 F1 => ?_⟩
            refine ⟨_, rfl, R, _, rfl, .inl (SqL.of (s1 _ _ gR)), _, _, rfl, rfl, ?_⟩
            refine ⟨_, rfl, f1, 2, rfl, F1, by decide, by decide, fun d H2 d0 d1 F2 B2 => ?_⟩
            have S02 : Same H H2 := fun b o e => B2 b o (ne_of_none e f10) (s1 _ _ e)
            refine ⟨rfl, _, rfl, ?_⟩
            have E2 : ∀ x2' x6' : Option V, tC Dn [some (.ref a), some (.ref R), x2', some (.int (j : Int)), x4, some (.ref S), x6', x7, x8, x9] H2 := fun _ _ => ⟨_, _, _, _, _, _, _, R, S, ur, us, rr, wss, j, rfl, S02 _ _ gR, WR.same S02, S02 _ _ gS, WS.same S02, SP, r1, r63, q⟩
            refine ite2 (fun _ => ?_) (fun _ => iteF (E2 _ _))
            refine ⟨_, rfl, _, rfl, _, _, rfl, rfl, _, rfl, ?_⟩
            refine ite2 (fun c => ?_) (fun _ => E2 _ _)
            have c' : (j : Int) < (ur.length : Int) - 1 := of_decide_eq_true c
            have WR2 := WR.same S02
            have n0 : rr.length - 1 < rr.length := by omega
            have hrj : rr[rr.length - 1]? = some (rr[rr.length - 1]'n0) := List.getElem?_eq_getElem _
            generalize rr[rr.length - 1]'n0 = r at hrj
            have okr := SP.ok r (List.mem_of_getElem? hrj)
            have huj : ur[rr.length - 1]? = some (ur[rr.length - 1]'(by omega)) := List.getElem?_eq_getElem _
            generalize ur[rr.length - 1]'(by omega) = v at huj
            have hpj : (rr.map Rr.parts)[rr.length - 1]? = some r.parts := by rw [List.getElem?_map, hrj]; rfl
            obtain ⟨ra, rfl, gra⟩ := WR2.2 _ v r.parts huj hpj
            have ei : (ur.length : Int) - 1 = ((rr.length - 1 : Nat) : Int) := by omega
            have pw : (10 : Int) ^ (6 : Int).toNat = 1000000 := by decide
            refine ⟨_, rfl, _, rfl, R, _, _, _, rfl, rfl, SqL.of (S02 _ _ gR), by rw [ei]; exact atI_nat huj, _, rfl, _, _, rfl, rfl, ⟨by decide, by decide, by decide⟩, f1, _, rfl, F2, by decide, by decide, fun x H3 y0 y1 F3 B3 => ?_⟩
            refine ⟨_, rfl, _, _, rfl, rfl, ⟨by decide, by decide, by decide⟩, f1, _, rfl, F3, by decide, by decide, fun y H4 z0 z1 F4 B4 => ?_⟩
            have B24 := B3.trans B4
            have S04 : Same H H4 := fun b o e => B24 b o (ne_of_none e f10) (S02 _ _ e)
            obtain ⟨ra', era, gra4⟩ := (WR.same S04).2 _ _ r.parts huj hpj
            cases era
            refine ⟨ra, r, x, y, rfl, gra4, okr, y0, by omega, z0, by omega, fun l ws H5 S5 gl sp => ?_⟩
            have S05 := S04.trans S5
            have gS5 := S05 _ _ gS
            have wl := WS.1
            refine ⟨_, rfl, _, rfl, S, us, _, us.length - 1, rfl, rfl, gS5, ixN_last (by omega), ?_⟩
            have us0 : ∃ b, us[0]? = some (.ref b) := by
              have h0 : us[0]? = some (us[0]'(by omega)) := List.getElem?_eq_getElem _
              obtain ⟨b, e, _⟩ := WS.2 0 _ (wss[0]'(by omega)) h0 (List.getElem?_eq_getElem _)
              exact ⟨b, by rw [h0, e]⟩
            obtain ⟨b0, hb0⟩ := us0
            have SP2 := SP.last (by omega) lw (spoilt_row sp)
            refine ⟨_, _, _, _, _, _, _, R, S, ur, _, rr, _, j, rfl, ?_, (WR.same S05).upd parts_ne gS5 hb0 _, upd_same, ?_, SP2, r1, r63, q⟩
            · rw [upd_ne RS]
              exact S05 _ _ gR
            · rw [wl]
              exact ((WS.same S05).set _ gl).upd (fun w hw => (SP2.rows w hw).ne) gS5 hb0 _)))))) (by
            rintro Dn σ H ⟨a, R, f0, H0, ns, ur, rr, x3, x4, x5, x6, x7, x8, x9, rfl, hS, f00, S0, h63, gR, WR, FR, Rf, r1, r63, rok, q⟩
            have url := WR.1
            rw [List.length_map] at url
            refine ⟨_, rfl, _, rfl, R, _, rfl, .inl (SqL.of gR), f0, _, rfl, FR, by omega, by omega, fun at' H6 a0 a1 F6 B6 => ?_⟩
            refine ⟨_, rfl, f0, 10, rfl, F6, by decide, by decide, fun fm H7 fm0 fm1 F7 B7 => ?_⟩
            have B67 := B6.trans B7
            have gR7 := B67 _ _ Rf gR
            have WR7 := WR.but parts_ne FR B67
            obtain ⟨j, rfl⟩ : ∃ j : Nat, at' = (j : Int) := ⟨at'.toNat, by omega⟩
            have jl : j < rr.length := by omega
            have hrj : rr[j]? = some (rr[j]'jl) := List.getElem?_eq_getElem _
            generalize rr[j]'jl = r at hrj
            have okr := rok r (List.mem_of_getElem? hrj)
            have huj : ur[j]? = some (ur[j]'(by omega)) := List.getElem?_eq_getElem _
            generalize ur[j]'(by omega) = v at huj
            have hpj : (rr.map Rr.parts)[j]? = some r.parts := by rw [List.getElem?_map, hrj]; rfl
            obtain ⟨ra, rfl, gra⟩ := WR7.2 j v r.parts huj hpj
            have pw : (10 : Int) ^ (6 : Int).toNat = 1000000 := by decide
            refine ⟨_, rfl, _, rfl, _, rfl, R, _, rfl, SqL.of gR7, fun q1 hq1 => ?_⟩
            have e1 : cutV ur none (some (j : Int)) = ur.take j := cut_to (by omega)
            rw [e1]
            have G1 := Same.new hq1 (.lst (ur.take j))
            have g1 : upd H7 q1 (.lst (ur.take j)) q1 = some (.lst (ur.take j)) := upd_same
            have F7' := F7.same G1
            have q1f := F7.ne hq1
            have WR7' := WR7.same G1
            have gR7' := G1 _ _ gR7
            generalize upd H7 q1 (.lst (ur.take j)) = H7' at *
            refine ⟨_, rfl, _, rfl, R, _, _, _, rfl, rfl, SqL.of gR7', atI_nat huj, _, rfl, _, _, rfl, rfl, ⟨by decide, by decide, by decide⟩, f0, _, rfl, F7', by decide, by decide, fun x H8 x0 x1 F8 B8 => ?_⟩
            refine ⟨_, rfl, _, _, rfl, rfl, ⟨by decide, by decide, by decide⟩, f0, _, rfl, F8, by decide, by decide, fun y H9 y0 y1 F9 B9 => ?_⟩
            have B79 := B8.trans B9
            have WR9 := WR7'.but parts_ne F7' B79
            have gR9 := B79 _ _ Rf gR7'
            have g19 := B79 _ _ q1f g1
            obtain ⟨ra', era, gra9⟩ := WR9.2 j _ r.parts huj hpj
            cases era
            refine ⟨ra, r, x, y, rfl, gra9, okr, x0, by omega, y0, by omega, fun l ws H10 S10 gl sp => ?_⟩
            refine ⟨(by show 1 ≤ sizeLine; decide), fun q2 hq2 => ?_⟩
            have G2 := Same.new hq2 (.lst [.ref l])
            refine ⟨q1, q2, _, _, rfl, rfl, G2 _ _ (S10 _ _ g19), upd_same, small (by rw [List.length_take]; show _ + 1 ≤ 1000; omega), fun q3 hq3 => ?_⟩
            have G3 := Same.new hq3 (.lst (ur.take j ++ [.ref l]))
            have gR12 := G3 _ _ (G2 _ _ (S10 _ _ gR9))
            refine ⟨_, rfl, _, rfl, _, _, rfl, rfl, _, rfl, R, _, rfl, SqL.of gR12, fun q4 hq4 => ?_⟩
            have e2 : cutV ur (some ((j : Int) + 1)) none = ur.drop (j + 1) := cut_from (k := j + 1) (by omega)
            rw [e2]
            have G4 := Same.new hq4 (.lst (ur.drop (j + 1)))
            refine ⟨q3, q4, _, _, rfl, rfl, G4 _ _ upd_same, upd_same, small (by rw [List.length_append, List.length_take, List.length_drop]; show _ + 1 + _ ≤ 1000; omega), fun q5 hq5 => ?_⟩
            have G5 := Same.new hq5 (.lst (ur.take j ++ [.ref l] ++ ur.drop (j + 1)))
            have SS := S10.trans (G2.trans (G3.trans (G4.trans G5)))
            have g5 : upd (upd (upd (upd H10 q2 (.lst [.ref l])) q3 (.lst (ur.take j ++ [.ref l]))) q4 (.lst (ur.drop (j + 1)))) q5 (.lst (ur.take j ++ [.ref l] ++ ur.drop (j + 1))) q5 = some (.lst (ur.take j ++ [.ref l] ++ ur.drop (j + 1))) := upd_same
            have GL5 := (G2.trans (G3.trans (G4.trans G5))) _ _ gl
            have RQ : R ≠ q5 := ne_of_none ((G4 _ _ gR12)) hq5
            have WRs := WR9.same SS
            have gRs := SS _ _ gR9
            have Fs := F9.same SS
            generalize upd (upd (upd (upd H10 q2 (.lst [.ref l])) q3 (.lst (ur.take j ++ [.ref l]))) q4 (.lst (ur.drop (j + 1)))) q5 (.lst (ur.take j ++ [.ref l] ++ ur.drop (j + 1))) = HS at *
            have W5 : WsAt HS (ur.take j ++ [.ref l] ++ ur.drop (j + 1)) ((rr.take j).map Rr.parts ++ [ws] ++ (rr.drop (j + 1)).map Rr.parts) := by
              rw [List.map_take, List.map_drop]
              exact ((WRs.take j).append (WsAt.one GL5)).append (WRs.drop (j + 1))
            have SP0 : SpT rr j ((rr.take j).map Rr.parts ++ [ws] ++ (rr.drop (j + 1)).map Rr.parts) := by
              refine ⟨⟨ws, (rr.drop (j + 1)).map Rr.parts, by rw [List.append_assoc]; rfl, sp.2.1, spoilt_row sp, fun u hu => ?_, .inr sp.2.2⟩, by omega, ?_, rok⟩
              · obtain ⟨r', hr', rfl⟩ := List.mem_map.mp hu
                exact good_row (rok r' (List.mem_of_mem_drop hr'))
              · rw [List.length_append, List.length_append, List.length_map, List.length_map, List.length_take, List.length_drop]
                show _ + 1 + _ ≤ 80
                omega
            have gl5 : HS q5 = some (.lst (ur.take j ++ [.ref l] ++ ur.drop (j + 1))) := g5
            have S0S : Same H0 HS := (S0.but f00 (B67.trans ((SameBut.of G1).trans B79))).trans SS
            have hSS := S0S.seq hS
            refine ⟨_, rfl, rfl, _, rfl, ?_⟩
            refine ite2 (fun _ => ?_) (fun _ => ?_)
            · refine ⟨_, rfl, _, rfl, _, rfl, R, _, rfl, SqL.of gRs, fun p1 hp1 => ?_⟩
              rw [e1]
              have I1 := Same.new hp1 (.lst (ur.take j))
              have i1 : upd HS p1 (.lst (ur.take j)) p1 = some (.lst (ur.take j)) := upd_same
              generalize upd HS p1 (.lst (ur.take j)) = HA at *
              refine ⟨(by show 1 ≤ sizeLine; decide), fun p2 hp2 => ?_⟩
              have I2 := Same.new hp2 (.lst [.str ""])
              have i2 : upd HA p2 (.lst [.str ""]) p2 = some (.lst ([("" : Str)].map V.str)) := upd_same
              generalize upd HA p2 (.lst [.str ""]) = HB at *
              refine ⟨(by show 1 ≤ sizeLine; decide), fun p3 hp3 => ?_⟩
              have I3 := Same.new hp3 (.lst [.ref p2])
              have i3 : upd HB p3 (.lst [.ref p2]) p3 = some (.lst [.ref p2]) := upd_same
              generalize upd HB p3 (.lst [.ref p2]) = HC at *
              refine ⟨p1, p3, _, _, rfl, rfl, I3 _ _ (I2 _ _ i1), i3, small (by rw [List.length_take]; show _ + 1 ≤ 1000; omega), fun p4 hp4 => ?_⟩
              have I4 := Same.new hp4 (.lst (ur.take j ++ [.ref p2]))
              have i4 : upd HC p4 (.lst (ur.take j ++ [.ref p2])) p4 = some (.lst (ur.take j ++ [.ref p2])) := upd_same
              generalize upd HC p4 (.lst (ur.take j ++ [.ref p2])) = HD at *
              have SD := I1.trans (I2.trans (I3.trans I4))
              refine ⟨_, rfl, _, rfl, _, rfl, R, _, rfl, SqL.of (SD _ _ gRs), fun p5 hp5 => ?_⟩
              have e3 : cutV ur (some (j : Int)) none = ur.drop j := cut_from (k := j) (by omega)
              rw [e3]
              have I5 := Same.new hp5 (.lst (ur.drop j))
              have i5 : upd HD p5 (.lst (ur.drop j)) p5 = some (.lst (ur.drop j)) := upd_same
              generalize upd HD p5 (.lst (ur.drop j)) = HE at *
              refine ⟨p4, p5, _, _, rfl, rfl, I5 _ _ i4, i5, small (by rw [List.length_append, List.length_take, List.length_drop]; show _ + 1 + _ ≤ 1000; omega), fun p6 hp6 => ?_⟩
              have I6 := Same.new hp6 (.lst (ur.take j ++ [.ref p2] ++ ur.drop j))
              have i6 : upd HE p6 (.lst (ur.take j ++ [.ref p2] ++ ur.drop j)) p6 = some (.lst (ur.take j ++ [.ref p2] ++ ur.drop j)) := upd_same
              have SE := SD.trans I5
              have Rp : R ≠ p6 := ne_of_none (SE _ _ gRs) hp6
              generalize upd HE p6 (.lst (ur.take j ++ [.ref p2] ++ ur.drop j)) = HF at *
              have SF := SE.trans I6
              refine ⟨a, ns, _, _, _, _, _, _, R, p6, ur, _, rr, (rr.take j).map Rr.parts ++ [[("" : Str)]] ++ (rr.drop j).map Rr.parts, j, rfl, SF.seq hSS, h63, SF _ _ gRs, WRs.same SF, i6, ?_, ⟨⟨[""], (rr.drop j).map Rr.parts, by rw [List.append_assoc]; rfl, blank_bad, blank_row, fun u hu => ?_, .inl ?_⟩, by omega, ?_, rok⟩, ?_, Rp, r1, r63, q⟩
              · rw [List.map_take, List.map_drop]
                exact ((((WRs.same SF).take j)).append (WsAt.one ((I3.trans (I4.trans (I5.trans I6))) _ _ i2))).append ((WRs.same SF).drop j)
              · obtain ⟨r', hr', rfl⟩ := List.mem_map.mp hu
                exact good_row (rok r' (List.mem_of_mem_drop hr'))
              all_goals
                rw [List.length_append, List.length_append, List.length_map, List.length_map, List.length_take, List.length_drop]
                show _ ≤ _
                simp only [List.length_singleton]
                omega
            refine ⟨_, rfl, rfl, _, rfl, ?_⟩
            refine ite2 (fun _ => ?_) (fun _ => ?_)
            · refine ⟨_, rfl, R, _, rfl, .inl (SqL.of gRs), _, rfl, ?_⟩
              refine ⟨(by show 1 ≤ sizeLine; decide), fun p2 hp2 => ?_⟩
              have I2 := Same.new hp2 (.lst [.str ""])
              have i2 : upd HS p2 (.lst [.str ""]) p2 = some (.lst ([("" : Str)].map V.str)) := upd_same
              generalize upd HS p2 (.lst [.str ""]) = HB at *
              refine ⟨(by show 1 ≤ sizeLine; decide), fun p3 hp3 => ?_⟩
              have I3 := Same.new hp3 (.lst [.ref p2])
              have i3 : upd HB p3 (.lst [.ref p2]) p3 = some (.lst [.ref p2]) := upd_same
              generalize upd HB p3 (.lst [.ref p2]) = HC at *
              have SD := I2.trans I3
              refine ⟨R, p3, _, _, rfl, rfl, SD _ _ gRs, i3, small (by show _ + 1 ≤ 1000; omega), fun p6 hp6 => ?_⟩
              have I6 := Same.new hp6 (.lst (ur ++ [.ref p2]))
              have i6 : upd HC p6 (.lst (ur ++ [.ref p2])) p6 = some (.lst (ur ++ [.ref p2])) := upd_same
              have Rp : R ≠ p6 := ne_of_none (SD _ _ gRs) hp6
              generalize upd HC p6 (.lst (ur ++ [.ref p2])) = HF at *
              have SF := SD.trans I6
              rw [url]
              refine ⟨a, ns, _, _, _, _, _, _, R, p6, ur, _, rr, rr.map Rr.parts ++ [[("" : Str)]], rr.length, rfl, SF.seq hSS, h63, SF _ _ gRs, WRs.same SF, i6, (WRs.same SF).append (WsAt.one ((I3.trans I6) _ _ i2)), ⟨⟨[""], [], by rw [List.take_length], blank_bad, blank_row, (fun u hu => by cases hu), .inl ?_⟩, by omega, ?_, rok⟩, ?_, Rp, r1, r63, q⟩
              all_goals
                rw [List.length_append, List.length_map]
                show _ ≤ _
                simp only [List.length_singleton]
                omega
            · refine ⟨a, ns, _, _, _, _, _, _, R, q5, ur, _, rr, _, j, rfl, hSS, h63, gRs, WRs, g5, W5, SP0, ?_, RQ, r1, r63, q⟩
              rw [List.length_append, List.length_append, List.length_map, List.length_map, List.length_take, List.length_drop]
              simp only [List.length_singleton]
              omega))))), ?_⟩
  refine ⟨_, rfl, a, ns, 2, rfl, hS, h63, by decide, by decide, fun lc lo n H1 lc0 S1 glc elo n1 n63 => ?_⟩
  refine ⟨lc, rfl, ⟨_, SqL.of glc⟩, fun D hD => ?_⟩
  refine comp_list (K := K) (xs := (rngV lo n).map V.int) (fun i H' => ∃ (us : List V) (rs : List Rr), H' D = some (.lst us) ∧ WsAt H' us (rs.map Rr.parts) ∧ rs.length = i ∧ (∀ r ∈ rs, r.ok) ∧ H' lc = some (.lst ((rngV lo n).map V.int)) ∧ Same H1 H') ⟨[], [], upd_same, ⟨rfl, fun i v ws hv => by simp at hv⟩, rfl, (fun r hr => by cases hr), Same.new hD _ _ _ glc, Same.new hD _⟩ (fun i H' _ hst => by obtain ⟨_, _, _, _, _, _, h, _⟩ := hst; exact SqL.of h) ?_ ?_
  · rintro i z H2 hz ⟨us, rs, hD2, W2, rl, rk, glc2, S2⟩
    have hi := (List.getElem?_eq_some_iff.mp hz).1
    rw [List.getElem?_map] at hz
    obtain ⟨k, hk, rfl⟩ := Option.map_eq_some_iff.mp hz
    have kb : 0 ≤ k ∧ k < 1000000 := by
      have := rngV_mem (List.mem_of_getElem? hk)
      omega
    refine ⟨_, rfl, _, rfl, a, ns, k, rfl, (S1.trans S2).seq hS, h63, kb.1, kb.2, fun f0 H3 f00 s3 F3 => ?_⟩
    refine ⟨f0, rfl, F3, fun l r H4 lf gl okr F4 B4 => ?_⟩
    have S24 : Same H2 H4 := fun b o e => B4 b o (ne_of_none e f00) (s3 _ _ e)
    have hD4 := S24 _ _ hD2
    have W4 := W2.same S24
    have Dl : D ≠ l := W4.apart hD4 gl
    have lD : lc ≠ D := ne_of_none glc hD
    have ul := W2.1
    rw [List.length_map] at ul
    have n1' : i < n := by
      rw [List.length_map, rngV_len] at hi
      exact hi
    have keepW : ∀ {vs : List V} {wss : List (List Str)}, WsAt H4 vs wss → (∀ v ∈ vs, v ≠ .ref D) → WsAt (upd H4 D (.lst (us ++ [.ref l]))) vs wss := fun {vs wss} W hv => ⟨W.1, fun i v ws h1 h2 => by
      obtain ⟨b, e, g⟩ := W.2 i v ws h1 h2
      refine ⟨b, e, ?_⟩
      rw [upd_ne (fun z => hv v (List.mem_of_getElem? h1) (by rw [e, z]))]
      exact g⟩
    have usD : ∀ v ∈ us, v ≠ .ref D := fun v hv z => by
      obtain ⟨j, hj⟩ := List.getElem?_of_mem hv
      have hj' := (List.getElem?_eq_some_iff.mp hj).1
      have hw : (rs.map Rr.parts)[j]? = some ((rs[j]'(by omega)).parts) := by rw [List.getElem?_map, List.getElem?_eq_getElem (by omega)]; rfl
      obtain ⟨b, e, g⟩ := W4.2 j v _ hj hw
      rw [z] at e
      cases e
      exact W4.apart hD4 g rfl
    refine ⟨_, hD4, ?_, Nx.of hi ⟨us ++ [.ref l], rs ++ [r], upd_same, ?_, ?_, ?_, ?_, fun b o e => ?_⟩⟩
    · exact small1000 (by omega)
    · rw [List.map_append]
      exact (keepW W4 usD).append (keepW (WsAt.one gl) fun v hv z => by
        rw [List.mem_singleton.mp hv] at z
        cases z
        exact Dl rfl)
    · rw [List.length_append, List.length_singleton, rl]
    · intro r' hr'
      rcases List.mem_append.mp hr' with h | h
      · exact rk r' h
      · rw [List.mem_singleton.mp h]
        exact okr
    · rw [upd_ne lD]
      exact S24 _ _ glc2
    · rw [upd_ne (ne_of_none e hD)]
      exact S24 _ _ (S2 _ _ e)
  rintro H2 ⟨us, rs, hD2, W2, rl, rk, glc2, S2⟩
  rw [List.length_map, rngV_len] at rl
  have S02 := S1.trans S2
  refine ⟨_, rfl, a, ns, 0, rfl, S02.seq hS, h63, by decide, by decide, fun f0 H3 f00 s3 F3 => ?_⟩
  refine ⟨_, rfl, f0, 4, rfl, F3, by decide, by decide, fun d1 H4 d10 d11 F4 B4 => ?_⟩
  have S24 : Same H2 H4 := fun b o e => B4 b o (ne_of_none e f00) (s3 _ _ e)
  refine ⟨rfl, _, rfl, ?_⟩
  have hD4 := S24 _ _ hD2
  have W4 := W2.same S24
  have S04 := S02.trans S24
  have Df : D ≠ f0 := ne_of_none hD2 f00
  have ul := W2.1
  rw [List.length_map] at ul
  refine ite2 (fun _ => ?_) (fun _ => ?_)
  · refine ⟨_, rfl, 1, rfl, D, _, rfl, SqL.of hD4, fun R hR => ?_⟩
    have ecr : cutV us none (some 1) = us.take 1 := cut_to (k := 1) (by omega)
    rw [ecr]
    have GR := Same.new hR (.lst (us.take 1))
    have WR : WsAt (upd H4 R (.lst (us.take 1))) (us.take 1) ((rs.take 1).map Rr.parts) := by
      rw [List.map_take]
      exact (W4.take 1).same GR
    exact ⟨a, R, f0, H2, ns, _, rs.take 1, _, _, _, _, _, _, _, rfl, S02.seq hS, f00, S24.trans GR, h63, upd_same, WR, F4.same GR, F4.ne hR, by rw [List.length_take]; omega, by rw [List.length_take]; omega, fun r hr => rk r (List.mem_of_mem_take hr), q⟩
  · exact ⟨a, D, f0, H2, ns, us, rs, _, _, _, _, _, _, _, rfl, S02.seq hS, f00, S24, h63, hD4, W4, F4, Df, by omega, by omega, rk, q⟩
theorem clsfc {K : PySem.W.Frag} {C g : Addr} {m : Str} (h : PySem.W.findCls K (.ref C) (.type "type") m = some (.val (.ref g))) : (match PySem.W.findCls K (.ref C) (.type "type") m with | some (.val v) => some v | _ => none) = some (.ref g) := by
  rw [h]
end
theorem all_mk {l : PySem.W.OpenLaw} {w : World} {K : PySem.W.Frag} {h : Heap} {mg : Str → Option Value} {fa f0 f1 f2 f3 f4 f5 f6 f7 f8 f9 f10 : Addr} (X : K.In h) (G : h.Ns mainGlobals mg) (hfa : mg "law" = some (.ref fa))
    {od0 an0 od1 an1 od2 an2 od3 an3 od4 an4 od5 an5 od6 an6 od7 an7 od8 an8 od9 an9 od10 an10 : Option Addr} {sl0 sl1 sl2 sl3 sl4 sl5 sl6 sl7 sl8 sl9 sl10 : Array (Option Value)} {oc0 kV0 dc0 pm0 cd0 ct0 oc1 kV1 dc1 pm1 cd1 ct1 oc2 kV2 dc2 pm2 cd2 ct2 oc3 kV3 dc3 pm3 cd3 ct3 oc4 kV4 dc4 pm4 cd4 ct4 oc5 kV5 dc5 pm5 cd5 ct5 oc6 kV6 dc6 pm6 cd6 ct6 oc7 kV7 dc7 pm7 cd7 ct7 oc8 kV8 dc8 pm8 cd8 ct8 oc9 kV9 dc9 pm9 cd9 ct9 oc10 kV10 dc10 pm10 cd10 ct10 : Value}
    (a0 : PySem.W.nsIn K mainGlobals "is_figures" = some (some (.ref f0))) (l0 : K.lookup f0 = some ⟨oc0, od0, .func (PySem.W.fnOf "is_figures" "is_figures" (defArgs s_is_figures) (defBody s_is_figures) (defScope s_is_figures) .none kV0 dc0 pm0 an0 cd0 ct0), sl0⟩) (c0 : PySem.W.codeIn K cd0 "is_figures" = true) (k0 : PySem.W.keepIn K (.ref f0) = true)
    (a1 : PySem.W.nsIn K mainGlobals "read_talk" = some (some (.ref f1))) (l1 : K.lookup f1 = some ⟨oc1, od1, .func (PySem.W.fnOf "read_talk" "read_talk" (defArgs s_read_talk) (defBody s_read_talk) (defScope s_read_talk) .none kV1 dc1 pm1 an1 cd1 ct1), sl1⟩) (c1 : PySem.W.codeIn K cd1 "read_talk" = true) (k1 : PySem.W.keepIn K (.ref f1) = true)
    (a2 : PySem.W.nsIn K mainGlobals "talk_row" = some (some (.ref f2))) (l2 : K.lookup f2 = some ⟨oc2, od2, .func (PySem.W.fnOf "talk_row" "talk_row" (defArgs s_talk_row) (defBody s_talk_row) (defScope s_talk_row) .none kV2 dc2 pm2 an2 cd2 ct2), sl2⟩) (c2 : PySem.W.codeIn K cd2 "talk_row" = true) (k2 : PySem.W.keepIn K (.ref f2) = true)
    (a3 : PySem.W.nsIn K mainGlobals "_law_feed" = some (some (.ref f3))) (l3 : K.lookup f3 = some ⟨oc3, od3, .func (PySem.W.fnOf "_law_feed" "_law_feed" (defArgs s_l_feed) (defBody s_l_feed) (defScope s_l_feed) .none kV3 dc3 pm3 an3 cd3 ct3), sl3⟩) (c3 : PySem.W.codeIn K cd3 "_law_feed" = true) (k3 : PySem.W.keepIn K (.ref f3) = true)
    (a4 : PySem.W.nsIn K mainGlobals "_law_take" = some (some (.ref f4))) (l4 : K.lookup f4 = some ⟨oc4, od4, .func (PySem.W.fnOf "_law_take" "_law_take" (defArgs s_l_take) (defBody s_l_take) (defScope s_l_take) .none kV4 dc4 pm4 an4 cd4 ct4), sl4⟩) (c4 : PySem.W.codeIn K cd4 "_law_take" = true) (k4 : PySem.W.keepIn K (.ref f4) = true)
    (a5 : PySem.W.nsIn K mainGlobals "_law_cells" = some (some (.ref f5))) (l5 : K.lookup f5 = some ⟨oc5, od5, .func (PySem.W.fnOf "_law_cells" "_law_cells" (defArgs s_l_cells) (defBody s_l_cells) (defScope s_l_cells) .none kV5 dc5 pm5 an5 cd5 ct5), sl5⟩) (c5 : PySem.W.codeIn K cd5 "_law_cells" = true) (k5 : PySem.W.keepIn K (.ref f5) = true)
    (a6 : PySem.W.nsIn K mainGlobals "_law_words" = some (some (.ref f6))) (l6 : K.lookup f6 = some ⟨oc6, od6, .func (PySem.W.fnOf "_law_words" "_law_words" (defArgs s_l_words) (defBody s_l_words) (defScope s_l_words) .none kV6 dc6 pm6 an6 cd6 ct6), sl6⟩) (c6 : PySem.W.codeIn K cd6 "_law_words" = true) (k6 : PySem.W.keepIn K (.ref f6) = true)
    (a7 : PySem.W.nsIn K mainGlobals "_law_wrong" = some (some (.ref f7))) (l7 : K.lookup f7 = some ⟨oc7, od7, .func (PySem.W.fnOf "_law_wrong" "_law_wrong" (defArgs s_l_wrong) (defBody s_l_wrong) (defScope s_l_wrong) .none kV7 dc7 pm7 an7 cd7 ct7), sl7⟩) (c7 : PySem.W.codeIn K cd7 "_law_wrong" = true) (k7 : PySem.W.keepIn K (.ref f7) = true)
    (a8 : PySem.W.nsIn K mainGlobals "_law_told" = some (some (.ref f8))) (l8 : K.lookup f8 = some ⟨oc8, od8, .func (PySem.W.fnOf "_law_told" "_law_told" (defArgs s_l_told) (defBody s_l_told) (defScope s_l_told) .none kV8 dc8 pm8 an8 cd8 ct8), sl8⟩) (c8 : PySem.W.codeIn K cd8 "_law_told" = true) (k8 : PySem.W.keepIn K (.ref f8) = true)
    (a9 : PySem.W.nsIn K mainGlobals "_law_text" = some (some (.ref f9))) (l9 : K.lookup f9 = some ⟨oc9, od9, .func (PySem.W.fnOf "_law_text" "_law_text" (defArgs s_l_text) (defBody s_l_text) (defScope s_l_text) .none kV9 dc9 pm9 an9 cd9 ct9), sl9⟩) (c9 : PySem.W.codeIn K cd9 "_law_text" = true) (k9 : PySem.W.keepIn K (.ref f9) = true)
    (a10 : PySem.W.nsIn K mainGlobals "law" = some (some (.ref f10))) (l10 : K.lookup f10 = some ⟨oc10, od10, .func (PySem.W.fnOf "law" "law" (defArgs s_law) (defBody s_law) (defScope s_law) .none kV10 dc10 pm10 an10 cd10 ct10), sl10⟩) (c10 : PySem.W.codeIn K cd10 "law" = true) (k10 : PySem.W.keepIn K (.ref f10) = true)
    {t2 t4 : Tok}
    {CA gA TA NA cc0 g0 N0 cc1 N1 cc2 N2 cc3 N3 cc4 N4 cc5 N5 cc6 N6 cc7 N7 cc8 N8 cc9 N9 : Addr} {odA anA tdA ddA od_0 an_0 dd0 dd1 dd2 dd3 dd4 dd5 dd6 dd7 dd8 dd9 : Option Addr} {slA tslA sl_0 : Array (Option Value)} {ocA kVA dcA pmA cdA ctA kV_0 dc_0 pm_0 cd_0 ct_0 : Value} {tkA : Tok} {tnA : Nat} {nm0 qn0 nm1 qn1 nm2 qn2 nm3 qn3 nm4 qn4 nm5 qn5 nm6 qn6 nm7 qn7 nm8 qn8 nm9 qn9 nmA qnA : Str} {bs0 sub0 bs1 sub1 bs2 sub2 bs3 sub3 bs4 sub4 bs5 sub5 bs6 sub6 bs7 sub7 bs8 sub8 bs9 sub9 bsA subA : List Value} {sn0 sn1 sn2 sn3 sn4 sn5 sn6 sn7 sn8 sn9 snA : List Str} {ab0 ab1 ab2 ab3 ab4 ab5 ab6 ab7 ab8 ab9 abA : Bool} {col0 col1 col2 col3 col4 col5 col6 col7 col8 col9 colA : Option Bool} {q00 q10 q20 q30 q50 q01 q11 q21 q31 q51 q02 q12 q22 q32 q52 q03 q13 q23 q33 q53 q04 q14 q24 q34 q54 q05 q15 q25 q35 q55 q06 q16 q26 q36 q56 q07 q17 q27 q37 q57 q08 q18 q28 q38 q58 q09 q19 q29 q39 q59 q0A q1A q2A q3A q5A : Option Value}
    (gF2 : PySem.W.nsIn K mainGlobals "FIGURES" = some (some (.str FIG t2)))
    (gF4 : PySem.W.nsIn K mainGlobals "MOST_FIGURES" = some (some (.int 12 t4)))
    (gAs : PySem.W.nsIn K mainGlobals "AskError" = some (some (.ref CA)))
    (iAs0 : K.lookup CA = some (excClassObj nmA qnA CA NA bsA bmV true snA subA abA colA ddA q0A q1A q2A q3A q5A "ValueError.__new__"))
    (xga : PySem.W.specialIn K (.ref CA) "__getattribute__" = some (some (.builtin "type.__getattribute__")))
    (xrd : PySem.W.readsIn K CA (.type "type") = true)
    (xfc0 : PySem.W.findCls K (.ref CA) (.type "type") "__init__" = some (.val (.ref gA)))
    (xlk : K.lookup gA = some ⟨ocA, odA, .func (PySem.W.fnOf "__init__" "AskError.__init__" (defArgs s_AskError) (defBody s_AskError) (defScope s_AskError) (.ref TA) kVA dcA pmA anA cdA ctA), slA⟩)
    (xtp : K.lookup TA = some ⟨.type "tuple", tdA, .seq #[.str "" tkA] tnA, tslA⟩)
    (xcd : PySem.W.codeIn K cdA "AskError.__init__" = true)
    (xkp : PySem.W.keepIn K (.ref gA) = true)
    (yg0 : PySem.W.nsIn K mainGlobals "NoText" = some (some (.ref cc0)))
    (yo0 : K.lookup cc0 = some (excClassObj nm0 qn0 cc0 N0 bs0 (.ref CA :: bmV) true sn0 sub0 ab0 col0 dd0 q00 q10 q20 q30 q50 "ValueError.__new__"))
    (ys0 : PySem.W.findIn K (.ref cc0) "__setattr__" = some (some (.builtin "object.__setattr__")))
    (ya0 : PySem.W.findIn K (.ref cc0) "__getattribute__" = some (some (.builtin "BaseException.__getattribute__")))
    (yt0 : PySem.W.findIn K (.ref cc0) "__getattr__" = some none)
    (yc0 : PySem.W.findIn K (.ref cc0) "__class__" = some (some (.builtin "object.__class__")))
    (yi0 : PySem.W.findIn K (.ref cc0) "__init__" = some (some (.ref g0)))
    (yl0 : K.lookup g0 = some ⟨.type "function", od_0, .func (PySem.W.fnOf "__init__" "NoText.__init__" (defArgs s_NoText) (defBody s_NoText) (defScope s_NoText) .none kV_0 dc_0 pm_0 an_0 cd_0 ct_0), sl_0⟩)
    (yk0 : PySem.W.codeIn K cd_0 "NoText.__init__" = true)
    (yp0 : PySem.W.keepIn K (.ref g0) = true)
    (yq0 : PySem.W.keepIn K (.ref cc0) = true)
    (yn0 : PySem.W.findIn K (.ref cc0) "row" = some none)
    (ye0 : cc0 ≠ CA)
    (yg1 : PySem.W.nsIn K mainGlobals "Twice" = some (some (.ref cc1)))
    (yo1 : K.lookup cc1 = some (excClassObj nm1 qn1 cc1 N1 bs1 (.ref CA :: bmV) true sn1 sub1 ab1 col1 dd1 q01 q11 q21 q31 q51 "ValueError.__new__"))
    (ys1 : PySem.W.findIn K (.ref cc1) "__setattr__" = some (some (.builtin "object.__setattr__")))
    (ya1 : PySem.W.findIn K (.ref cc1) "__getattribute__" = some (some (.builtin "BaseException.__getattribute__")))
    (yt1 : PySem.W.findIn K (.ref cc1) "__getattr__" = some none)
    (yc1 : PySem.W.findIn K (.ref cc1) "__class__" = some (some (.builtin "object.__class__")))
    (ye1 : cc1 ≠ CA)
    (yg2 : PySem.W.nsIn K mainGlobals "NoName" = some (some (.ref cc2)))
    (yo2 : K.lookup cc2 = some (excClassObj nm2 qn2 cc2 N2 bs2 (.ref CA :: bmV) true sn2 sub2 ab2 col2 dd2 q02 q12 q22 q32 q52 "ValueError.__new__"))
    (ys2 : PySem.W.findIn K (.ref cc2) "__setattr__" = some (some (.builtin "object.__setattr__")))
    (ya2 : PySem.W.findIn K (.ref cc2) "__getattribute__" = some (some (.builtin "BaseException.__getattribute__")))
    (yt2 : PySem.W.findIn K (.ref cc2) "__getattr__" = some none)
    (yc2 : PySem.W.findIn K (.ref cc2) "__class__" = some (some (.builtin "object.__class__")))
    (ye2 : cc2 ≠ CA)
    (yg3 : PySem.W.nsIn K mainGlobals "NoField" = some (some (.ref cc3)))
    (yo3 : K.lookup cc3 = some (excClassObj nm3 qn3 cc3 N3 bs3 (.ref CA :: bmV) true sn3 sub3 ab3 col3 dd3 q03 q13 q23 q33 q53 "ValueError.__new__"))
    (ys3 : PySem.W.findIn K (.ref cc3) "__setattr__" = some (some (.builtin "object.__setattr__")))
    (ya3 : PySem.W.findIn K (.ref cc3) "__getattribute__" = some (some (.builtin "BaseException.__getattribute__")))
    (yt3 : PySem.W.findIn K (.ref cc3) "__getattr__" = some none)
    (yc3 : PySem.W.findIn K (.ref cc3) "__class__" = some (some (.builtin "object.__class__")))
    (ye3 : cc3 ≠ CA)
    (yg4 : PySem.W.nsIn K mainGlobals "SmallField" = some (some (.ref cc4)))
    (yo4 : K.lookup cc4 = some (excClassObj nm4 qn4 cc4 N4 bs4 (.ref CA :: bmV) true sn4 sub4 ab4 col4 dd4 q04 q14 q24 q34 q54 "ValueError.__new__"))
    (ys4 : PySem.W.findIn K (.ref cc4) "__setattr__" = some (some (.builtin "object.__setattr__")))
    (ya4 : PySem.W.findIn K (.ref cc4) "__getattribute__" = some (some (.builtin "BaseException.__getattribute__")))
    (yt4 : PySem.W.findIn K (.ref cc4) "__getattr__" = some none)
    (yc4 : PySem.W.findIn K (.ref cc4) "__class__" = some (some (.builtin "object.__class__")))
    (ye4 : cc4 ≠ CA)
    (yg5 : PySem.W.nsIn K mainGlobals "NoRow" = some (some (.ref cc5)))
    (yo5 : K.lookup cc5 = some (excClassObj nm5 qn5 cc5 N5 bs5 (.ref CA :: bmV) true sn5 sub5 ab5 col5 dd5 q05 q15 q25 q35 q55 "ValueError.__new__"))
    (ys5 : PySem.W.findIn K (.ref cc5) "__setattr__" = some (some (.builtin "object.__setattr__")))
    (ya5 : PySem.W.findIn K (.ref cc5) "__getattribute__" = some (some (.builtin "BaseException.__getattribute__")))
    (yt5 : PySem.W.findIn K (.ref cc5) "__getattr__" = some none)
    (yc5 : PySem.W.findIn K (.ref cc5) "__class__" = some (some (.builtin "object.__class__")))
    (ye5 : cc5 ≠ CA)
    (yg6 : PySem.W.nsIn K mainGlobals "NoTurn" = some (some (.ref cc6)))
    (yo6 : K.lookup cc6 = some (excClassObj nm6 qn6 cc6 N6 bs6 (.ref CA :: bmV) true sn6 sub6 ab6 col6 dd6 q06 q16 q26 q36 q56 "ValueError.__new__"))
    (ys6 : PySem.W.findIn K (.ref cc6) "__setattr__" = some (some (.builtin "object.__setattr__")))
    (ya6 : PySem.W.findIn K (.ref cc6) "__getattribute__" = some (some (.builtin "BaseException.__getattribute__")))
    (yt6 : PySem.W.findIn K (.ref cc6) "__getattr__" = some none)
    (yc6 : PySem.W.findIn K (.ref cc6) "__class__" = some (some (.builtin "object.__class__")))
    (ye6 : cc6 ≠ CA)
    (yg7 : PySem.W.nsIn K mainGlobals "NoCount" = some (some (.ref cc7)))
    (yo7 : K.lookup cc7 = some (excClassObj nm7 qn7 cc7 N7 bs7 (.ref CA :: bmV) true sn7 sub7 ab7 col7 dd7 q07 q17 q27 q37 q57 "ValueError.__new__"))
    (ys7 : PySem.W.findIn K (.ref cc7) "__setattr__" = some (some (.builtin "object.__setattr__")))
    (ya7 : PySem.W.findIn K (.ref cc7) "__getattribute__" = some (some (.builtin "BaseException.__getattribute__")))
    (yt7 : PySem.W.findIn K (.ref cc7) "__getattr__" = some none)
    (yc7 : PySem.W.findIn K (.ref cc7) "__class__" = some (some (.builtin "object.__class__")))
    (ye7 : cc7 ≠ CA)
    (yg8 : PySem.W.nsIn K mainGlobals "NoNumber" = some (some (.ref cc8)))
    (yo8 : K.lookup cc8 = some (excClassObj nm8 qn8 cc8 N8 bs8 (.ref CA :: bmV) true sn8 sub8 ab8 col8 dd8 q08 q18 q28 q38 q58 "ValueError.__new__"))
    (ys8 : PySem.W.findIn K (.ref cc8) "__setattr__" = some (some (.builtin "object.__setattr__")))
    (ya8 : PySem.W.findIn K (.ref cc8) "__getattribute__" = some (some (.builtin "BaseException.__getattribute__")))
    (yt8 : PySem.W.findIn K (.ref cc8) "__getattr__" = some none)
    (yc8 : PySem.W.findIn K (.ref cc8) "__class__" = some (some (.builtin "object.__class__")))
    (ye8 : cc8 ≠ CA)
    (yg9 : PySem.W.nsIn K mainGlobals "TooMany" = some (some (.ref cc9)))
    (yo9 : K.lookup cc9 = some (excClassObj nm9 qn9 cc9 N9 bs9 (.ref CA :: bmV) true sn9 sub9 ab9 col9 dd9 q09 q19 q29 q39 q59 "ValueError.__new__"))
    (ys9 : PySem.W.findIn K (.ref cc9) "__setattr__" = some (some (.builtin "object.__setattr__")))
    (ya9 : PySem.W.findIn K (.ref cc9) "__getattribute__" = some (some (.builtin "BaseException.__getattribute__")))
    (yt9 : PySem.W.findIn K (.ref cc9) "__getattr__" = some none)
    (yc9 : PySem.W.findIn K (.ref cc9) "__class__" = some (some (.builtin "object.__class__")))
    (ye9 : cc9 ≠ CA)
    (hV0 : PySem.W.nsIn K mainGlobals "ValueError" = some none)
    (ynd : [cc0, cc1, cc2, cc3, cc4, cc5, cc6, cc7, cc8, cc9].Nodup)
    (z0 : PySem.W.nsIn K mainGlobals "len" = some none) (z1 : PySem.W.nsIn K mainGlobals "range" = some none) (z2 : PySem.W.nsIn K mainGlobals "max" = some none) (z3 : PySem.W.nsIn K mainGlobals "isinstance" = some none) (z4 : PySem.W.nsIn K mainGlobals "int" = some none) (z5 : PySem.W.nsIn K mainGlobals "bool" = some none) (z6 : PySem.W.nsIn K mainGlobals "str" = some none) (z7 : PySem.W.nsIn K mainGlobals "all" = some none) (z8 : PySem.W.nsIn K mainGlobals "list" = some none) (z9 : PySem.W.nsIn K mainGlobals "tuple" = some none) (z10 : PySem.W.nsIn K mainGlobals "enumerate" = some none) :
    ∃ fd : FuncData, (∀ (s : Shared) (v : Value), BindsTo s fd ⟨[v], []⟩ [("_law_script", v)]) ∧ ∀ base : Heap, K.In base → base.Ns mainGlobals mg → FnOk l.prog w K mg base CX0 7 fa fd ["_law_script"] (spLaw K) := by
  have e := hfa.symm.trans (PySem.W.mg_of X G a10)
  cases e
  have F_is_figures := fun_mk (st := s_is_figures) l0 c0 k0
  have m_is_figures := PySem.W.mg_of X G a0
  have F_read_talk := fun_mk (st := s_read_talk) l1 c1 k1
  have m_read_talk := PySem.W.mg_of X G a1
  have F_talk_row := fun_mk (st := s_talk_row) l2 c2 k2
  have m_talk_row := PySem.W.mg_of X G a2
  have F_l_feed := fun_mk (st := s_l_feed) l3 c3 k3
  have m_l_feed := PySem.W.mg_of X G a3
  have F_l_take := fun_mk (st := s_l_take) l4 c4 k4
  have m_l_take := PySem.W.mg_of X G a4
  have F_l_cells := fun_mk (st := s_l_cells) l5 c5 k5
  have m_l_cells := PySem.W.mg_of X G a5
  have F_l_words := fun_mk (st := s_l_words) l6 c6 k6
  have m_l_words := PySem.W.mg_of X G a6
  have F_l_wrong := fun_mk (st := s_l_wrong) l7 c7 k7
  have m_l_wrong := PySem.W.mg_of X G a7
  have F_l_told := fun_mk (st := s_l_told) l8 c8 k8
  have m_l_told := PySem.W.mg_of X G a8
  have F_l_text := fun_mk (st := s_l_text) l9 c9 k9
  have m_l_text := PySem.W.mg_of X G a9
  have F_law := fun_mk (st := s_law) l10 c10 k10
  have B : Bl mg := ⟨PySem.W.mg_none_of X G z0, PySem.W.mg_none_of X G z1, PySem.W.mg_none_of X G z2, PySem.W.mg_none_of X G z3, PySem.W.mg_none_of X G z4, PySem.W.mg_none_of X G z5, PySem.W.mg_none_of X G z6, PySem.W.mg_none_of X G z7, PySem.W.mg_none_of X G z8, PySem.W.mg_none_of X G z9, PySem.W.mg_none_of X G z10⟩
  refine ⟨PySem.W.fnOf "law" "law" (defArgs s_law) (defBody s_law) (defScope s_law) .none kV10 dc10 pm10 an10 cd10 ct10, fun s v => .of_eq rfl, fun base _ _ => ?_⟩
  have iAs : isBaseX K CA := ⟨_, _, _, _, _, _, _, _, _, _, _, _, _, _, iAs0⟩
  have xfc := clsfc xfc0
  have hV := PySem.W.mg_none_of X G hV0
  have F_A := funD_mk (st := s_AskError) xlk xcd xkp
  have K_A : AskC l.prog w K mg base CA gA _ := ⟨PySem.W.mg_of X G gAs, ⟨xga, xrd, xfc, xkp⟩, ok_AskError (P := l.prog) (w := w) (base := base) F_A hV, fun s us KX hl => match us, hl with | [_, _], _ => PySem.W.binds_K KX rfl xtp rfl rfl rfl⟩
  have L_0 : ClsX K cc0 CA := ⟨⟨_, _, _, _, _, _, _, _, _, _, _, _, _, _, yo0⟩, ys0, ya0, yt0, yc0⟩
  have J_0 : MkX K cc0 g0 := L_0.mk' yi0 ⟨_, yl0, rfl⟩ yq0
  have F_0 := funD_mk (st := s_NoText) yl0 yk0 yp0
  have M_0 : Mkr l.prog w K mg base cc0 "row" g0 _ := ⟨J_0, ok_NoText (P := l.prog) (w := w) (base := base) F_0 K_A J_0 L_0 yn0, .all fun us hl => by obtain ⟨u0, u1, rfl⟩ := len2 hl; rfl, yn0⟩
  have L_1 : ClsX K cc1 CA := ⟨⟨_, _, _, _, _, _, _, _, _, _, _, _, _, _, yo1⟩, ys1, ya1, yt1, yc1⟩
  have L_2 : ClsX K cc2 CA := ⟨⟨_, _, _, _, _, _, _, _, _, _, _, _, _, _, yo2⟩, ys2, ya2, yt2, yc2⟩
  have L_3 : ClsX K cc3 CA := ⟨⟨_, _, _, _, _, _, _, _, _, _, _, _, _, _, yo3⟩, ys3, ya3, yt3, yc3⟩
  have L_4 : ClsX K cc4 CA := ⟨⟨_, _, _, _, _, _, _, _, _, _, _, _, _, _, yo4⟩, ys4, ya4, yt4, yc4⟩
  have L_5 : ClsX K cc5 CA := ⟨⟨_, _, _, _, _, _, _, _, _, _, _, _, _, _, yo5⟩, ys5, ya5, yt5, yc5⟩
  have L_6 : ClsX K cc6 CA := ⟨⟨_, _, _, _, _, _, _, _, _, _, _, _, _, _, yo6⟩, ys6, ya6, yt6, yc6⟩
  have L_7 : ClsX K cc7 CA := ⟨⟨_, _, _, _, _, _, _, _, _, _, _, _, _, _, yo7⟩, ys7, ya7, yt7, yc7⟩
  have L_8 : ClsX K cc8 CA := ⟨⟨_, _, _, _, _, _, _, _, _, _, _, _, _, _, yo8⟩, ys8, ya8, yt8, yc8⟩
  have L_9 : ClsX K cc9 CA := ⟨⟨_, _, _, _, _, _, _, _, _, _, _, _, _, _, yo9⟩, ys9, ya9, yt9, yc9⟩
  have T : Exs K mg CA cc0 cc1 cc2 cc3 cc4 cc5 cc6 cc7 cc8 cc9 := ⟨PySem.W.mg_of X G yg0, L_0, ye0, PySem.W.mg_of X G yg1, L_1, ye1, PySem.W.mg_of X G yg2, L_2, ye2, PySem.W.mg_of X G yg3, L_3, ye3, PySem.W.mg_of X G yg4, L_4, ye4, PySem.W.mg_of X G yg5, L_5, ye5, PySem.W.mg_of X G yg6, L_6, ye6, PySem.W.mg_of X G yg7, L_7, ye7, PySem.W.mg_of X G yg8, L_8, ye8, PySem.W.mg_of X G yg9, L_9, ye9, PySem.W.mg_of X G gAs, iAs, ynd⟩
  have TX : Tx K mg := ⟨⟨t2, PySem.W.mg_of X G gF2⟩, ⟨t4, PySem.W.mg_of X G gF4⟩⟩
  have C_l_feed := Cal.of (P := l.prog) (w := w) (base := base) F_l_feed (ok_l_feed F_l_feed B.len) m_l_feed (fun _ _ _ _ _ _ us hl => by obtain ⟨u0, u1, rfl⟩ := len2 hl; rfl)
  have C_l_take := Cal.of (P := l.prog) (w := w) (base := base) F_l_take (ok_l_take F_l_take ) m_l_take (fun _ _ _ _ _ _ us hl => by obtain ⟨u0, u1, rfl⟩ := len2 hl; rfl)
  have C_is_figures := Cal.of (P := l.prog) (w := w) (base := base) F_is_figures (ok_is_figures F_is_figures B TX) m_is_figures (fun _ _ _ _ _ _ us hl => by obtain ⟨u0, rfl⟩ := len1 hl; rfl)
  have C_talk_row := CalR.of (P := l.prog) (w := w) (base := base) F_talk_row (ok_talk_row F_talk_row B T.g0 L_0 M_0 C_is_figures) m_talk_row (fun _ _ _ _ _ _ us hl => by obtain ⟨u0, u1, rfl⟩ := len2 hl; rfl)
  have C_read_talk := CalR.of (P := l.prog) (w := w) (base := base) F_read_talk (ok_read_talk F_read_talk B C_talk_row) m_read_talk (fun _ _ _ _ _ _ us hl => by obtain ⟨u0, rfl⟩ := len1 hl; rfl)
  have C_l_cells := Cal.of (P := l.prog) (w := w) (base := base) F_l_cells (ok_l_cells F_l_cells B.list B.range B.max B.len) m_l_cells (fun _ _ _ _ _ _ us hl => by obtain ⟨u0, u1, rfl⟩ := len2 hl; rfl)
  have C_l_words := Cal.of (P := l.prog) (w := w) (base := base) F_l_words (ok_l_words F_l_words B C_l_take) m_l_words (fun _ _ _ _ _ _ us hl => by obtain ⟨u0, rfl⟩ := len1 hl; rfl)
  have C_l_wrong := Cal.of (P := l.prog) (w := w) (base := base) F_l_wrong (ok_l_wrong F_l_wrong B) m_l_wrong (fun _ _ _ _ _ _ us hl => by obtain ⟨u0, u1, u2, rfl⟩ := len3 hl; rfl)
  have C_l_text := Cal.of (P := l.prog) (w := w) (base := base) F_l_text (ok_l_text F_l_text ) m_l_text (fun _ _ _ _ _ _ us hl => by obtain ⟨u0, rfl⟩ := len1 hl; rfl)
  have C_l_told := Cal.of (P := l.prog) (w := w) (base := base) F_l_told (ok_l_told F_l_told B hV T yn0 C_read_talk) m_l_told (fun _ _ _ _ _ _ us hl => by obtain ⟨u0, rfl⟩ := len1 hl; rfl)
  exact ok_law F_law B C_l_feed C_l_take C_l_cells C_l_words C_l_wrong C_l_text C_l_told C_read_talk
theorem walk {l : PySem.W.OpenLaw} {q : Program} {loose : List Str} {XP : (Str → Option Value) → Heap → Prop} {YP : World → Heap → Prop} {d : DefRec} {K : Params → PySem.W.Frag} (hn : l.most = some 63) (hdf : d.params.defaults = [])
    (hY : ∀ (w : World) (h : Heap), YP w h → (K w.params).In h)
    (F : ∀ (w : World) (mg : Str → Option Value) (fa : Addr) (h : Heap), (K w.params).In h → h.Ns mainGlobals mg → mg d.name = some (.ref fa) →
      ∃ fd : FuncData, (∀ (s : Shared) (u : Value), BindsTo s fd ⟨[u], []⟩ [("_law_script", u)]) ∧ ∀ base : Heap, (K w.params).In base → base.Ns mainGlobals mg → FnOk l.prog w (K w.params) mg base CX0 7 fa fd ["_law_script"] (spLaw (K w.params))) :
    PySem.W.WalkO q loose XP YP l.row.toRowW d [] (fun f vs => PySem.call f vs) :=
  L2.walk_of (n := 63) (k := 7) (x := "_law_script") (CX := fun _ => CX0) (sp := fun w => spLaw (K w.params)) hn (by decide) hdf ⟨rfl, by decide, by decide⟩ hY F (fun _ _ a ns hl _ hS => ⟨a, ns, rfl, hS, hl, fun _ => rfl⟩) fun _ _ _ _ _ z => z
end Mine
def PySem.W.Fast.tw16952713291962996526 : Unit := ()
def PySem.W.Fast.tw7701025613446370900 : Unit := ()
def PySem.W.Fast.tw10939465788750178322 : Unit := ()
def PySem.W.Fast.tw14251028769095380543 : Unit := ()
def PySem.W.Fast.tw7036220394033249345 : Unit := ()
def PySem.W.Fast.tw11668084631205539281 : Unit := ()
def PySem.W.Fast.tw15547810419407021547 : Unit := ()
def PySem.W.Fast.tw6192155409893766989 : Unit := ()
def PySem.W.Fast.tw11537237941775793773 : Unit := ()
def PySem.W.Fast.tw17756700264361010405 : Unit := ()
def PySem.W.Fast.tw12775586693708353418 : Unit := ()
def PySem.W.Fast.tw4501513387429019275 : Unit := ()
def PySem.W.Fast.tw809662571301469071 : Unit := ()
def PySem.W.Fast.tw16490407033550634851 : Unit := ()
def PySem.W.Fast.tw14853087827042004108 : Unit := ()
def PySem.W.Fast.tw4071993596872073390 : Unit := ()
def PySem.W.Fast.tw15659888374332392627 : Unit := ()
def PySem.W.Fast.tw16837745908323750140 : Unit := ()
def PySem.W.Fast.tw14343332710542494740 : Unit := ()
def PySem.W.Fast.tw494250646996298758 : Unit := ()
def PySem.W.Fast.tw13977241883860507697 : Unit := ()
def PySem.W.Fast.tw3635507092058927739 : Unit := ()
def PySem.W.Fast.tw1644913259028846439 : Unit := ()
def PySem.W.Fast.tw1845737133355564090 : Unit := ()
def PySem.W.Fast.tw12917052189614979955 : Unit := ()
def PySem.W.Fast.tw11181737545953979716 : Unit := ()
def PySem.W.Fast.tw2781093308388754640 : Unit := ()
def PySem.W.Fast.tw6908368312723182147 : Unit := ()
def PySem.W.Fast.tw479085321160722733 : Unit := ()
def PySem.W.Fast.tw3570683621552616474 : Unit := ()
def PySem.W.Fast.tw7888445835677678484 : Unit := ()
def PySem.W.Fast.tw4392144686756879007 : Unit := ()
def PySem.W.Fast.tw5570182124913612218 : Unit := ()
def PySem.W.Fast.tw9127479382145972516 : Unit := ()
def PySem.W.Fast.tw18073153458112108781 : Unit := ()
def PySem.W.Fast.tw2975224096082805568 : Unit := ()
def PySem.W.Fast.tw5380979956567715068 : Unit := ()
def PySem.W.Fast.tw16318057299272888741 : Unit := ()
def PySem.W.Fast.tw11676430205199246678 : Unit := ()
def PySem.W.Fast.tw9172444095778669971 : Unit := ()
def PySem.W.Fast.tw4618467682996170424 : Unit := ()
def PySem.W.Fast.tw15566801699058309195 : Unit := ()
def PySem.W.Fast.tw8282281665803283323 : Unit := ()
def PySem.W.Fast.tw6325981161189516639 : Unit := ()
def PySem.W.Fast.tw16311632654097344213 : Unit := ()
def PySem.W.Fast.tw7015764624967805797 : Unit := ()
def PySem.W.Fast.tw11258625796608069830 : Unit := ()
def PySem.W.Fast.tw7432806423632049195 : Unit := ()
def PySem.W.Fast.tw12220243561118680221 : Unit := ()
def PySem.W.Fast.tw10303793793538893017 : Unit := ()
def PySem.W.Fast.tw5236356384245809381 : Unit := ()
def PySem.W.Fast.tw4918568803792486204 : Unit := ()
def PySem.W.Fast.tw4129105968546433956 : Unit := ()
def PySem.W.Fast.tw11585114061609624765 : Unit := ()
def PySem.W.Fast.tw5605706613971873414 : Unit := ()
def PySem.W.Fast.tw3901388235539975821 : Unit := ()
def PySem.W.Fast.tw12311510937341242119 : Unit := ()
def PySem.W.Fast.tw11872606442701951464 : Unit := ()
def PySem.W.Fast.tw12661608882226696627 : Unit := ()
def PySem.W.Fast.tw11543243630259822563 : Unit := ()
def PySem.W.Fast.tw11244862142032389565 : Unit := ()
def PySem.W.Fast.tw13809458111074031704 : Unit := ()
def PySem.W.Fast.tw4053353582219544802 : Unit := ()
def PySem.W.Fast.tw14132748050728419869 : Unit := ()
def PySem.W.Fast.tw529670822010967712 : Unit := ()
def PySem.W.Fast.tw8188789324701427288 : Unit := ()
def PySem.W.Fast.tw16852451822758941125 : Unit := ()
def PySem.W.Fast.tw15876472686849399756 : Unit := ()
def PySem.W.Fast.tw17454044174733043481 : Unit := ()
def PySem.W.Fast.tw6118385414750048662 : Unit := ()
def PySem.W.Fast.tw12724298855317537215 : Unit := ()
def PySem.W.Fast.tw3916180265255918855 : Unit := ()
def PySem.W.Fast.tw14457851959523677063 : Unit := ()
def PySem.W.Fast.tw17005236709430422168 : Unit := ()
def PySem.W.Fast.tw16327617767634588818 : Unit := ()
def PySem.W.Fast.tw6103387301148548216 : Unit := ()
def PySem.W.Fast.tw10838689111902212740 : Unit := ()
def PySem.W.Fast.tw14541956072136636592 : Unit := ()
def PySem.W.Fast.tw12891532650473854893 : Unit := ()
def PySem.W.Fast.tw9379849371322966673 : Unit := ()
def PySem.W.Fast.tw6554703544892297271 : Unit := ()
def PySem.W.Fast.tw15409486949183736434 : Unit := ()
def PySem.W.Fast.tw11579462928443957526 : Unit := ()
def PySem.W.Fast.tw12607240107209718382 : Unit := ()
def PySem.W.Fast.tw8876884038777990572 : Unit := ()
def PySem.W.Fast.tw16082241349763892132 : Unit := ()
def PySem.W.Fast.tw2310721228744204449 : Unit := ()
def PySem.W.Fast.tw10543404994051903123 : Unit := ()
def PySem.W.Fast.tw11253496539384706867 : Unit := ()
def PySem.W.Fast.tw10675151570146649665 : Unit := ()
def PySem.W.Fast.tw1939222837397506246 : Unit := ()
def PySem.W.Fast.tw3565410259780549994 : Unit := ()
def PySem.W.Fast.tw10023172339454612283 : Unit := ()
def PySem.W.Fast.tw15258951553536293947 : Unit := ()
def PySem.W.Fast.tw2853356500945642994 : Unit := ()
def PySem.W.Fast.tw17237979711955125270 : Unit := ()
def PySem.W.Fast.tw16155582229031023730 : Unit := ()
def PySem.W.Fast.tw13669457742087668091 : Unit := ()
def PySem.W.Fast.tw15601442442875709728 : Unit := ()
def PySem.W.Fast.tw15660978628169286027 : Unit := ()
def PySem.W.Fast.tw11484349461112208442 : Unit := ()
def PySem.W.Fast.tw12373908989383027635 : Unit := ()
def PySem.W.Fast.tw7456735855478476075 : Unit := ()
def PySem.W.Fast.tw7574708207258659523 : Unit := ()
def PySem.W.Fast.tw18041876178680637252 : Unit := ()
def PySem.W.Fast.tw8678311129168592187 : Unit := ()
def PySem.W.Fast.tw16595168021144486258 : Unit := ()
def PySem.W.Fast.tw10585473200089077074 : Unit := ()
def PySem.W.Fast.tw4546738640062289732 : Unit := ()
def PySem.W.Fast.tw4923453801228949782 : Unit := ()
def PySem.W.Fast.tw15743472914965350681 : Unit := ()
def PySem.W.Fast.tw18218947108386888303 : Unit := ()
def PySem.W.Fast.tw10719212965644487741 : Unit := ()
def PySem.W.Fast.tw203207915932911212 : Unit := ()
def PySem.W.Fast.tw2805221501517100599 : Unit := ()
def PySem.W.Fast.tw12282730338651826583 : Unit := ()
def PySem.W.Fast.tw711224314989273373 : Unit := ()
def PySem.W.Fast.tw13879132372345846278 : Unit := ()
def PySem.W.Fast.tw3550055703035128975 : Unit := ()
def PySem.W.Fast.tw12385026574807839640 : Unit := ()
def PySem.W.Fast.tw5979843237105448044 : Unit := ()
def PySem.W.Fast.tw2636011020955108393 : Unit := ()
def PySem.W.Fast.tw5767916353904225732 : Unit := ()
def PySem.W.Fast.tw5915072984753602231 : Unit := ()
def PySem.W.Fast.tw10514560788345465705 : Unit := ()
def PySem.W.Fast.tw5056243099006046706 : Unit := ()
def PySem.W.Fast.tw16848625736856396297 : Unit := ()
def PySem.W.Fast.tw8101986842837978311 : Unit := ()
def PySem.W.Fast.tw14678495976497724872 : Unit := ()
def PySem.W.Fast.tw4264867788336067118 : Unit := ()
def PySem.W.Fast.tw10589094269255586323 : Unit := ()
def PySem.W.Fast.tw14070935479287894524 : Unit := ()
def PySem.W.Fast.tw12106161966159007601 : Unit := ()
def PySem.W.Fast.tw11025996041334656551 : Unit := ()
def PySem.W.Fast.tw1176314515486155345 : Unit := ()
def PySem.W.Fast.tw1900283704178578907 : Unit := ()
def PySem.W.Fast.tw1947321986685748721 : Unit := ()
def PySem.W.Fast.tw12920790636292798423 : Unit := ()
def PySem.W.Fast.tw1629650668623278037 : Unit := ()
def PySem.W.Fast.tw4018288180573120998 : Unit := ()
def PySem.W.Fast.tw11857836681980435776 : Unit := ()
def PySem.W.Fast.tw18384496873351663788 : Unit := ()
def PySem.W.Fast.tw798320829532627076 : Unit := ()
def PySem.W.Fast.tw108022847459879250 : Unit := ()
def PySem.W.Fast.tw14398523691069655128 : Unit := ()
def PySem.W.Fast.tw11175219649218078083 : Unit := ()
def PySem.W.Fast.tw17838662460620336265 : Unit := ()
def PySem.W.Fast.tw1094160778152101862 : Unit := ()
def PySem.W.Fast.tw5892917501104490051 : Unit := ()
def PySem.W.Fast.tw12580064082265588477 : Unit := ()
def PySem.W.Fast.tw2879042607114259810 : Unit := ()
def PySem.W.Fast.tw13586868212622704418 : Unit := ()
def PySem.W.Fast.tw3385514383225233691 : Unit := ()
def PySem.W.Fast.tw7192695618248452081 : Unit := ()
def PySem.W.Fast.tw4069532257577614530 : Unit := ()
def PySem.W.Fast.tw12073788361160422261 : Unit := ()
def PySem.W.Fast.tw9343095708769011066 : Unit := ()
def PySem.W.Fast.tw13443713662618758375 : Unit := ()
def PySem.W.Fast.tw9449489381974302554 : Unit := ()
def PySem.W.Fast.tw17012470883138910691 : Unit := ()
def PySem.W.Fast.tw17694610979645093568 : Unit := ()
def PySem.W.Fast.tw3121236786168721414 : Unit := ()
def PySem.W.Fast.tw5630978323405183937 : Unit := ()
def PySem.W.Fast.tw7395716120414921978 : Unit := ()
def PySem.W.Fast.tw10082473542311625554 : Unit := ()
def PySem.W.Fast.tw4361841097516647660 : Unit := ()
def PySem.W.Fast.tw14371226444474110842 : Unit := ()
def PySem.W.Fast.tw9027769925590342147 : Unit := ()
def PySem.W.Fast.tw11941960994554424605 : Unit := ()
def PySem.W.Fast.tw6492416151531137932 : Unit := ()
def PySem.W.Fast.tw4814050184915350635 : Unit := ()
def PySem.W.Fast.tw17893757572135825890 : Unit := ()
def PySem.W.Fast.tw13411135345055727504 : Unit := ()
def PySem.W.Fast.tw17660218460226223203 : Unit := ()
def PySem.W.Fast.tw10013028019311161135 : Unit := ()
def PySem.W.Fast.tw4070485733023524503 : Unit := ()
def PySem.W.Fast.tw6261718278740402058 : Unit := ()
def PySem.W.Fast.tw15140690634463010468 : Unit := ()
def PySem.W.Fast.tw7552266592347265553 : Unit := ()
def PySem.W.Fast.tw1725661559585639920 : Unit := ()
def PySem.W.Fast.tw16811531498067538408 : Unit := ()
def PySem.W.Fast.tw15199937393372051690 : Unit := ()
def PySem.W.Fast.tw13702391882892730442 : Unit := ()
def PySem.W.Fast.tw16859142002173434611 : Unit := ()
def PySem.W.Fast.tw10571727765331113033 : Unit := ()
def PySem.W.Fast.tw9515240876324660714 : Unit := ()
def PySem.W.Fast.tw4459148702892112674 : Unit := ()
def PySem.W.Fast.tw4139370390641364485 : Unit := ()
def PySem.W.Fast.tw11724284392756907223 : Unit := ()
def PySem.W.Fast.tw7746349746755104299 : Unit := ()
def PySem.W.Fast.tw5398751829421014246 : Unit := ()
def PySem.W.Fast.tw9987982284392696876 : Unit := ()
def PySem.W.Fast.tw8027013687074689696 : Unit := ()
def PySem.W.Fast.tw6763559039109039151 : Unit := ()
def PySem.W.Fast.tw3597653047093371526 : Unit := ()
def PySem.W.Fast.tw11146379829643944608 : Unit := ()
def PySem.W.Fast.tw6370211528357452904 : Unit := ()
def PySem.W.Fast.tw18106209512848018423 : Unit := ()
def PySem.W.Fast.tw16021414923314717420 : Unit := ()
def PySem.W.Fast.tw1561938867962091391 : Unit := ()
def PySem.W.Fast.tw10426257841534072827 : Unit := ()
def PySem.W.Fast.tw488231481930642193 : Unit := ()
def PySem.W.Fast.tw2313159193491519494 : Unit := ()
def PySem.W.Fast.tw5588578750880036210 : Unit := ()
def PySem.W.Fast.tw14144210539685138126 : Unit := ()
def PySem.W.Fast.tw11215548080813304065 : Unit := ()
def PySem.W.Fast.tw10685474293073482865 : Unit := ()
def PySem.W.Fast.tw16910586424791260069 : Unit := ()
def PySem.W.Fast.tw3569475388790648878 : Unit := ()
def PySem.W.Fast.tw7461141244301966833 : Unit := ()
def PySem.W.Fast.tw4462449863810870262 : Unit := ()
def PySem.W.Fast.tw532454535405221102 : Unit := ()
def PySem.W.Fast.tw14221660381755103841 : Unit := ()
def PySem.W.Fast.tw7747310346527195432 : Unit := ()
def PySem.W.Fast.tw15335456708437234387 : Unit := ()
def PySem.W.Fast.tw17457997503120933347 : Unit := ()
def PySem.W.Fast.tw7462921070735440162 : Unit := ()
def PySem.W.Fast.tw17525055436593376184 : Unit := ()
def PySem.W.Fast.tw10532168016533259050 : Unit := ()
def PySem.W.Fast.tw14451571135525112906 : Unit := ()
def PySem.W.Fast.tw9000162300881211469 : Unit := ()
def PySem.W.Fast.tw17676313388713022407 : Unit := ()
def PySem.W.Fast.tw17921056618574235720 : Unit := ()
def PySem.W.Fast.tw2754086931683751604 : Unit := ()
def PySem.W.Fast.tw1018583966968222738 : Unit := ()
def PySem.W.Fast.tw16716395731425556187 : Unit := ()
def PySem.W.Fast.tw10677507812663181611 : Unit := ()
def PySem.W.Fast.tw9196181643249029197 : Unit := ()
def PySem.W.Fast.tw3380372849901498853 : Unit := ()
def PySem.W.Fast.tw18041720702379166072 : Unit := ()
def PySem.W.Fast.tw2144492593855869275 : Unit := ()
def PySem.W.Fast.tw18050249710976248177 : Unit := ()
def PySem.W.Fast.tw3631855515528217260 : Unit := ()
def PySem.W.Fast.tw2946739584278313888 : Unit := ()
def PySem.W.Fast.tw6812141165127633865 : Unit := ()
def PySem.W.Fast.tw5593110536054027179 : Unit := ()
def PySem.W.Fast.tw1904505824476916016 : Unit := ()
def PySem.W.Fast.tw3383088030237580776 : Unit := ()
def PySem.W.Fast.tw11219191234131007205 : Unit := ()
def PySem.W.Fast.tw6309673308744432103 : Unit := ()
def PySem.W.Fast.tw17283250280591591435 : Unit := ()
def PySem.W.Fast.tw5238559149931410035 : Unit := ()
def PySem.W.Fast.tw328229488225556415 : Unit := ()
def PySem.W.Fast.tw5081311905998109598 : Unit := ()
def PySem.W.Fast.tw6283782867685708631 : Unit := ()
def PySem.W.Fast.tw6991255384745016187 : Unit := ()
def PySem.W.Fast.tw661707089142371910 : Unit := ()
def PySem.W.Fast.tw14539945838047171121 : Unit := ()
def PySem.W.Fast.tw13844057329005782779 : Unit := ()
def PySem.W.Fast.tw17927396438760713584 : Unit := ()
def PySem.W.Fast.tw14777812706237411624 : Unit := ()
def PySem.W.Fast.tw16157173021902087657 : Unit := ()
def PySem.W.Fast.tw13537065338393725708 : Unit := ()
def PySem.W.Fast.tw11679827356329329803 : Unit := ()
def PySem.W.Fast.tw192268270284054278 : Unit := ()
def PySem.W.Fast.tw18443131404892949522 : Unit := ()
def PySem.W.Fast.tw11891700848587918324 : Unit := ()
def PySem.W.Fast.tw2843318292150497906 : Unit := ()
def PySem.W.Fast.tw1693730292285382491 : Unit := ()
def PySem.W.Fast.tw18066320309164375053 : Unit := ()
def PySem.W.Fast.tw4779934765927722823 : Unit := ()
def PySem.W.Fast.tw17733500295595053456 : Unit := ()
def PySem.W.Fast.tw12713237950882302686 : Unit := ()
def PySem.W.Fast.tw17073955487364767260 : Unit := ()
def PySem.W.Fast.tw15840383428720146732 : Unit := ()
def PySem.W.Fast.tw16496357104842688720 : Unit := ()
def PySem.W.Fast.tw8638691677284666066 : Unit := ()
def PySem.W.Fast.tw1660912698608069132 : Unit := ()
def PySem.W.Fast.tw9541457339126724570 : Unit := ()
def PySem.W.Fast.tw8724448191580777170 : Unit := ()
def PySem.W.Fast.tw983044012317763110 : Unit := ()
def PySem.W.Fast.tw11447809481161705754 : Unit := ()
def PySem.W.Fast.tw12327847057409652546 : Unit := ()
def PySem.W.Fast.tw834068046709930953 : Unit := ()
def PySem.W.Fast.tw15951839530590069535 : Unit := ()
def PySem.W.Fast.tw2650916826053610929 : Unit := ()
def PySem.W.Fast.tw3861726055395215918 : Unit := ()
def PySem.W.Fast.tw9391674136763267703 : Unit := ()
def PySem.W.Fast.tw5260989169751993657 : Unit := ()
def PySem.W.Fast.tw16884424291381977872 : Unit := ()
def PySem.W.Fast.tw4442686133768043970 : Unit := ()
def PySem.W.Fast.tw14082280422255408549 : Unit := ()
def PySem.W.Fast.tw17792191715559948560 : Unit := ()
def PySem.W.Fast.tw1413094603919491102 : Unit := ()
def PySem.W.Fast.tw9587948952691527303 : Unit := ()
def PySem.W.Fast.tw17710661951099712137 : Unit := ()
def PySem.W.Fast.tw14529437055508288467 : Unit := ()
def PySem.W.Fast.tw14744557238199829932 : Unit := ()
def PySem.W.Fast.tw17631542386667659605 : Unit := ()
def PySem.W.Fast.tw8144773330815671730 : Unit := ()
def PySem.W.Fast.tw100845995199608767 : Unit := ()
def PySem.W.Fast.tw8421912339020101988 : Unit := ()
def PySem.W.Fast.tw17162827880552392819 : Unit := ()
def PySem.W.Fast.tw12772775996035297631 : Unit := ()
def PySem.W.Fast.tw13308889987664766936 : Unit := ()
def PySem.W.Fast.tw5493499250667563088 : Unit := ()
def PySem.W.Fast.tw4166382087419685376 : Unit := ()
def PySem.W.Fast.tw10987276159838174207 : Unit := ()
def PySem.W.Fast.tw3409414522389988320 : Unit := ()
def PySem.W.Fast.tw4857683047914515922 : Unit := ()
def PySem.W.Fast.tw12827362245334916969 : Unit := ()
def PySem.W.Fast.tw17263788341639387703 : Unit := ()
def PySem.W.Fast.tw5974682709794815215 : Unit := ()
def PySem.W.Fast.tw16649059225432490375 : Unit := ()
def PySem.W.Fast.tw4581504538612286226 : Unit := ()
open PySem PySem.W PyProof.Rows
set_option maxRecDepth 100000 in
set_option maxHeartbeats 0 in
theorem PySem.Challenge.cw_asktally_k49_texts_of_no_talk_holds : PySem.Challenge.rw_asktally_k49_texts_of_no_talk.Holds := by
  w_on; o_law; k_head; (case hw => w_witness2)
  k_fill
  refine Mine.walk (l := PySem.Challenge.rw_asktally_k49_texts_of_no_talk) rfl rfl (fun w h Y => PySem.W.kIn_of Y) ?F
  case F =>
    intro w mg fa h KX G hmg
    refine' Mine.all_mk KX G hmg ?a0 ?l0 ?c0 ?k0 ?a1 ?l1 ?c1 ?k1 ?a2 ?l2 ?c2 ?k2 ?a3 ?l3 ?c3 ?k3 ?a4 ?l4 ?c4 ?k4 ?a5 ?l5 ?c5 ?k5 ?a6 ?l6 ?c6 ?k6 ?a7 ?l7 ?c7 ?k7 ?a8 ?l8 ?c8 ?k8 ?a9 ?l9 ?c9 ?k9 ?a10 ?l10 ?c10 ?k10 ?gF2 ?gF4 ?gAs ?iAs0 ?xga ?xrd ?xfc0 ?xlk ?xtp ?xcd ?xkp ?yg0 ?yo0 ?ys0 ?ya0 ?yt0 ?yc0 ?yi0 ?yl0 ?yk0 ?yp0 ?yq0 ?yn0 ?ye0 ?yg1 ?yo1 ?ys1 ?ya1 ?yt1 ?yc1 ?ye1 ?yg2 ?yo2 ?ys2 ?ya2 ?yt2 ?yc2 ?ye2 ?yg3 ?yo3 ?ys3 ?ya3 ?yt3 ?yc3 ?ye3 ?yg4 ?yo4 ?ys4 ?ya4 ?yt4 ?yc4 ?ye4 ?yg5 ?yo5 ?ys5 ?ya5 ?yt5 ?yc5 ?ye5 ?yg6 ?yo6 ?ys6 ?ya6 ?yt6 ?yc6 ?ye6 ?yg7 ?yo7 ?ys7 ?ya7 ?yt7 ?yc7 ?ye7 ?yg8 ?yo8 ?ys8 ?ya8 ?yt8 ?yc8 ?ye8 ?yg9 ?yo9 ?ys9 ?ya9 ?yt9 ?yc9 ?ye9 ?hV0 ?ynd ?z0 ?z1 ?z2 ?z3 ?z4 ?z5 ?z6 ?z7 ?z8 ?z9 ?z10
    (case a0 => k_is); (case l0 => k_is); (case c0 => k_is); (case k0 => k_is)
    (case a1 => k_is); (case l1 => k_is); (case c1 => k_is); (case k1 => k_is)
    (case a2 => k_is); (case l2 => k_is); (case c2 => k_is); (case k2 => k_is)
    (case a3 => k_is); (case l3 => k_is); (case c3 => k_is); (case k3 => k_is)
    (case a4 => k_is); (case l4 => k_is); (case c4 => k_is); (case k4 => k_is)
    (case a5 => k_is); (case l5 => k_is); (case c5 => k_is); (case k5 => k_is)
    (case a6 => k_is); (case l6 => k_is); (case c6 => k_is); (case k6 => k_is)
    (case a7 => k_is); (case l7 => k_is); (case c7 => k_is); (case k7 => k_is)
    (case a8 => k_is); (case l8 => k_is); (case c8 => k_is); (case k8 => k_is)
    (case a9 => k_is); (case l9 => k_is); (case c9 => k_is); (case k9 => k_is)
    (case a10 => k_is); (case l10 => k_is); (case c10 => k_is); (case k10 => k_is)
    (case gF2 => k_is)
    (case gF4 => k_is)
    (case gAs => k_is)
    (case iAs0 => k_is)
    (case xga => k_is)
    (case xrd => k_is)
    (case xfc0 => k_is)
    (case xlk => k_is)
    (case xtp => k_is)
    (case xcd => k_is)
    (case xkp => k_is)
    (case yg0 => k_is)
    (case yo0 => k_is)
    (case ys0 => k_is)
    (case ya0 => k_is)
    (case yt0 => k_is)
    (case yc0 => k_is)
    (case yi0 => k_is)
    (case yl0 => k_is)
    (case yk0 => k_is)
    (case yp0 => k_is)
    (case yq0 => k_is)
    (case yn0 => k_is)
    (case ye0 => decide)
    (case yg1 => k_is)
    (case yo1 => k_is)
    (case ys1 => k_is)
    (case ya1 => k_is)
    (case yt1 => k_is)
    (case yc1 => k_is)
    (case ye1 => decide)
    (case yg2 => k_is)
    (case yo2 => k_is)
    (case ys2 => k_is)
    (case ya2 => k_is)
    (case yt2 => k_is)
    (case yc2 => k_is)
    (case ye2 => decide)
    (case yg3 => k_is)
    (case yo3 => k_is)
    (case ys3 => k_is)
    (case ya3 => k_is)
    (case yt3 => k_is)
    (case yc3 => k_is)
    (case ye3 => decide)
    (case yg4 => k_is)
    (case yo4 => k_is)
    (case ys4 => k_is)
    (case ya4 => k_is)
    (case yt4 => k_is)
    (case yc4 => k_is)
    (case ye4 => decide)
    (case yg5 => k_is)
    (case yo5 => k_is)
    (case ys5 => k_is)
    (case ya5 => k_is)
    (case yt5 => k_is)
    (case yc5 => k_is)
    (case ye5 => decide)
    (case yg6 => k_is)
    (case yo6 => k_is)
    (case ys6 => k_is)
    (case ya6 => k_is)
    (case yt6 => k_is)
    (case yc6 => k_is)
    (case ye6 => decide)
    (case yg7 => k_is)
    (case yo7 => k_is)
    (case ys7 => k_is)
    (case ya7 => k_is)
    (case yt7 => k_is)
    (case yc7 => k_is)
    (case ye7 => decide)
    (case yg8 => k_is)
    (case yo8 => k_is)
    (case ys8 => k_is)
    (case ya8 => k_is)
    (case yt8 => k_is)
    (case yc8 => k_is)
    (case ye8 => decide)
    (case yg9 => k_is)
    (case yo9 => k_is)
    (case ys9 => k_is)
    (case ya9 => k_is)
    (case yt9 => k_is)
    (case yc9 => k_is)
    (case ye9 => decide)
    (case hV0 => k_is)
    (case ynd => decide)
    (case z0 => k_is)
    (case z1 => k_is)
    (case z2 => k_is)
    (case z3 => k_is)
    (case z4 => k_is)
    (case z5 => k_is)
    (case z6 => k_is)
    (case z7 => k_is)
    (case z8 => k_is)
    (case z9 => k_is)
    (case z10 => k_is)
