import PyProof.Rows.All
import Wide.All
import OpenK.AllK
import Wide.FinOn
import Lean
import PyProof.EqAt
import PyProof.EqKinds
import PyProof.TupleCall
import PySem.Challenge.RW_asktally_k33_rows_that_lead_to_none
set_option Elab.async false
set_option linter.all false
set_option maxRecDepth 100000
/-! THE HAND LAYER, for ints, bools, texts, own classes, LISTS and tuples (index, slices, in, append, pop ..), calls, loops. Paste it whole ahead of your own text; what your proof does not reach may be deleted. -/
namespace L2
open PySem PySem.Spec PyProof.Rows

/-- a key: an int or a str -/
abbrev Key := Sum Int Str
def keyIs : Key → Value → Bool
  | .inl k, v => Value.isInt k v
  | .inr x, v => Value.isStrOf x v
def keyH (w : World) : Key → Int
  | .inl k => hashInt k
  | .inr x => hashStr w x
theorem keyIs_shape : ∀ {k : Key} {v : Value}, keyIs k v = true → (∃ i t, k = Sum.inl i ∧ v = Value.int i t) ∨ (∃ x t, k = Sum.inr x ∧ v = Value.str x t)
  | .inl i, v, h => by
    obtain ⟨t, e⟩ := Value.isInt_shape (k := i) (v := v) h
    exact .inl ⟨i, t, rfl, e⟩
  | .inr x, v, h => by
    obtain ⟨t, e⟩ := Value.isStrOf_shape (x := x) (v := v) h
    exact .inr ⟨x, t, rfl, e⟩
theorem key_ll (a b : Int) : decide ((Sum.inl a : Key) = Sum.inl b) = (a == b) := by
  by_cases e : a = b
  · subst e; simp
  · have h : ¬ (Sum.inl a : Key) = Sum.inl b := fun q => e (Sum.inl.inj q)
    rw [decide_eq_false h]
    exact (beq_eq_false_iff_ne.mpr e).symm
theorem key_rr (a b : Str) : decide ((Sum.inr a : Key) = Sum.inr b) = decide (a = b) := by
  by_cases e : a = b
  · subst e; simp
  · have h : ¬ (Sum.inr a : Key) = Sum.inr b := fun q => e (Sum.inr.inj q)
    rw [decide_eq_false h, decide_eq_false e]
theorem key_lr (a : Int) (b : Str) : decide ((Sum.inl a : Key) = Sum.inr b) = false := decide_eq_false (fun q => nomatch q)
theorem key_rl (a : Str) (b : Int) : decide ((Sum.inr a : Key) = Sum.inl b) = false := decide_eq_false (fun q => nomatch q)

def mixKind (prog : Program) (w : World) : PySem.KeyKind prog w Key where
  is := keyIs
  hash := keyH w
  inj := fun v a b ha hb => by
    rcases keyIs_shape ha with ⟨i, t, rfl, rfl⟩ | ⟨x, t, rfl, rfl⟩
    · rcases keyIs_shape hb with ⟨j, u, rfl, e⟩ | ⟨y, u, rfl, e⟩
      · injection e with e1 _; rw [e1]
      · exact nomatch e
    · rcases keyIs_shape hb with ⟨j, u, rfl, e⟩ | ⟨y, u, rfl, e⟩
      · exact nomatch e
      · injection e with e1 _; rw [e1]
  byValue := fun k v h => by
    rcases keyIs_shape h with ⟨i, t, rfl, rfl⟩ | ⟨x, t, rfl, rfl⟩ <;> rfl
  pyHash := fun hv h => by
    rcases keyIs_shape hv with ⟨i, t, rfl, rfl⟩ | ⟨x, t, rfl, rfl⟩
    · exact wpAny_pyHash_int h
    · exact wpAny_pyHash_str h
  eqBool := fun hu hv h => by
    rcases keyIs_shape hu with ⟨i, t, rfl, rfl⟩ | ⟨x, t, rfl, rfl⟩
    · rcases keyIs_shape hv with ⟨j, u, rfl, rfl⟩ | ⟨y, u, rfl, rfl⟩
      · rw [key_ll] at h; exact wpAny_eqBool_int h
      · rw [key_lr] at h; exact SeqAt.EqAt.int_str i t y u _ _ _ _ h
    · rcases keyIs_shape hv with ⟨j, u, rfl, rfl⟩ | ⟨y, u, rfl, rfl⟩
      · rw [key_rl] at h; exact SeqAt.EqAt.str_int x t j u _ _ _ _ h
      · rw [key_rr] at h; exact wpAny_eqBool_str h
  «strs» := fun k x t v h => by
    rcases keyIs_shape h with ⟨i, u, rfl, e⟩ | ⟨y, u, rfl, e⟩
    · exact nomatch e
    · injection e with e1 _
      subst e1
      cases v <;> rfl

end L2

namespace L2
open PySem PySem.Spec PyProof.Rows

/-- a value, without the heap -/
inductive V where
  | non | bl (b : Bool) | int (i : Int) | str (x : Str) | byt (b : Array UInt8) | flt (b : UInt64) | ref (a : Addr) | ty (n : String)
  deriving DecidableEq

def RelV : V → Value → Prop
  | .non, u => u = Value.none
  | .bl b, u => u = Value.bool b
  | .int i, u => ∃ t, u = Value.int i t
  | .str x, u => ∃ t, u = Value.str x t
  | .byt b, u => ∃ t, u = Value.bytes b t
  | .flt b, u => ∃ t, u = Value.float b t
  | .ref a, u => u = Value.ref a
  | .ty n, u => u = Value.type n

abbrev Vals : List V → List Value → Prop := Paired RelV
theorem Vals.length {xs : List V} {us : List Value} (r : Vals xs us) : xs.length = us.length := Paired.length r
theorem Vals.get : ∀ {xs : List V} {us : List Value} {i : Nat} {x : V}, Vals xs us → xs[i]? = some x → ∃ u, us[i]? = some u ∧ RelV x u
  | _, _, _, _, .nil, e => by simp at e
  | _, _, 0, _, .cons r _, e => by simp at e; subst e; exact ⟨_, rfl, r⟩
  | _, _, i + 1, x, .cons _ t, e => by
    obtain ⟨u, h1, h2⟩ := Vals.get (i := i) (x := x) t (by simpa using e)
    exact ⟨u, by simpa using h1, h2⟩
theorem Vals.set {x : V} {u : Value} (r : RelV x u) : ∀ {xs : List V} {us : List Value} (i : Nat), Vals xs us → Vals (xs.set i x) (us.set i u)
  | _, _, _, .nil => .nil
  | _, _, 0, .cons _ t => .cons r t
  | _, _, i + 1, .cons q t => .cons q (Vals.set r i t)
theorem Vals.append : ∀ {xs ys : List V} {us ws : List Value}, Vals xs us → Vals ys ws → Vals (xs ++ ys) (us ++ ws)
  | _, _, _, _, .nil, s => s
  | _, _, _, _, .cons r t, s => .cons r (Vals.append t s)
theorem Vals.take : ∀ {xs : List V} {us : List Value} (n : Nat), Vals xs us → Vals (xs.take n) (us.take n)
  | _, _, 0, _ => .nil
  | _, _, _ + 1, .nil => .nil
  | _, _, n + 1, .cons r t => .cons r (Vals.take n t)
theorem Vals.drop : ∀ {xs : List V} {us : List Value} (n : Nat), Vals xs us → Vals (xs.drop n) (us.drop n)
  | _, _, 0, r => r
  | _, _, _ + 1, .nil => .nil
  | _, _, n + 1, .cons _ t => Vals.drop n t
def RelO : Option V → Option Value → Prop
  | some v, some u => RelV v u
  | none, none => True
  | _, _ => False
def KV {κ : Type} : List (κ × V) → List (κ × Value) → Prop := Paired fun (p : κ × V) (q : κ × Value) => p.1 = q.1 ∧ RelV p.2 q.2

/-- a key of a dict (00_mix): an int or a text -/
def kV : Key → V
  | .inl i => .int i
  | .inr x => .str x

/-- what stands at a tracked address -/
inductive HO where
  /-- a list -/
  | lst (xs : List V)
  /-- a tuple (never changes) -/
  | tup (xs : List V)
  /-- a dict whose keys are ints and texts; one whose keys are tuples of ints and texts (the empty one is both) -/
  | dK (kvs : List (Key × V)) | dT (kvs : List (List Key × V))
  /-- a set of ints: its members, its size -/
  | set (S : Int → Bool) (n : Nat)
  /-- an instance of the class at C, its dict at dx, its attributes -/
  | ins (C dx : Addr) (fs : List (Str × V))
  /-- the dict of the instance at x -/
  | own (x : Addr)
  /-- the dict of an exception -/
  | xd (fs : List (Str × V))
  /-- a bound method, f of x -/
  | met (f x : Addr)
  /-- a range object lo, lo + 1, .. below hi -/
  | rng (lo hi : Int)
  /-- a thing that is known to the object (the script; a dict while a loop walks it): read, never written while it is so -/
  | frz (o : Obj) (u : HO)
  /-- a code object's table -/
  | tbl (ps : Array Value)
  /-- any other thing, by what is true of its one object (a def of one's own: SetO a S n := HO.ext fun h => ..) -/
  | ext (φ : Heap → Prop)

abbrev Hp := Addr → Option HO
def upd (H : Hp) (a : Addr) (o : HO) : Hp := fun b => if b = a then some o else H b
theorem upd_same {H : Hp} {a : Addr} {o : HO} : upd H a o a = some o := by unfold upd; rw [if_pos rfl]
theorem upd_ne {H : Hp} {a b : Addr} {o : HO} (h : b ≠ a) : upd H a o b = H b := by unfold upd; rw [if_neg h]
theorem ne_of_none {H : Hp} {a b : Addr} {o : HO} (h : H a = some o) (h' : H b = none) : a ≠ b := by
  intro e; subst e; rw [h] at h'; cases h'

section
variable (P : Program) (w : World)
def ObjOk (H : Hp) (h : Heap) (a : Addr) : HO → Prop
  | .lst xs => xs.length ≤ sizeLine ∧ ∃ (its : List Value) (n : Nat), Vals xs its ∧ h.get? a = some { cls := .type "list", data := .seq its.toArray n }
  | .tup xs => xs.length ≤ sizeLine ∧ ∃ its : List Value, Vals xs its ∧ IsTup h a its.toArray ∧ ∃ o, h.get? a = some o ∧ o.dict = none
  | .dK kvs => kvs.length ≤ sizeLine ∧ (a == sysModules) = false ∧ ∃ vs, KV kvs vs ∧ h.DictOf (mixKind P w) a vs
  | .dT kvs => kvs.length ≤ sizeLine ∧ (a == sysModules) = false ∧ ∃ xs : List (List Key × Addr × Value),
      Paired (fun (p : List Key × V) (q : List Key × Addr × Value) => p.1 = q.1 ∧ H q.2.1 = some (.tup (p.1.map kV)) ∧ RelV p.2 q.2.2) kvs xs ∧
      ∃ o es ep, h.get? a = some o ∧ o.ExactDict ∧ o.data = .dict es ep ∧ es.toList = xs.map (entryOfKey (tupleKind (mixKind P w))) ∧ (xs.map (·.1)).Nodup
  | .set S n => h.SetOf (intKind P w) a S n
  | .ins C dx fs => H dx = some (.own a) ∧ fs.length ≤ 1000 ∧ dx ≠ a ∧ h.get? a = some (PySem.W.instObj C dx) ∧
      ∃ mA, h.Ns1 dx mA ∧ (∀ f, RelO (fs.lookup f) (mA f)) ∧ PySem.Within mA (fs.map (·.1))
  | .own _ => ∃ o, h.get? a = some o
  | .xd fs => ∃ mA, h.Ns1 a mA ∧ ∀ f, RelO (fs.lookup f) (mA f)
  | .rng lo hi => ∃ t u v, h.get? a = some { cls := .type "range", data := .fields #[.int lo t, .int hi u, .int 1 v] }
  | .frz o u => h.get? a = some o ∧ ObjOk H h a u
  | .tbl ps => h.get? a = some { cls := .none, data := .fields ps }
  | .met f x => h.get? a = some (PySem.W.methodObj (.ref f) (.ref x))
  | .ext φ => φ h ∧ (∃ o, h.get? a = some o) ∧ ∀ h1 h2 : Heap, φ h1 → (∀ o, h1.get? a = some o → h2.get? a = some o) → φ h2
/-- the abstract heap is held -/
def HOk (H : Hp) (h : Heap) : Prop := ∀ a o, H a = some o → ObjOk P w H h a o
end

section
variable {P : Program} {w : World} {H H' : Hp} {h h' : Heap} {a : Addr} {o : HO}
theorem ObjOk.lt (x : ObjOk P w H h a o) : a < h.objs.size := by
  cases o with
  | lst xs => obtain ⟨_, _, _, _, e⟩ := x; exact Heap.lt_size e
  | tup xs => obtain ⟨_, _, _, p, _⟩ := x; exact p.lt
  | dK kvs => obtain ⟨_, _, _, _, o, _, _, e, _⟩ := x; exact Heap.lt_size e
  | dT kvs => obtain ⟨_, _, _, _, o, _, _, e, _⟩ := x; exact Heap.lt_size e
  | set S n => obtain ⟨o, _, _, _, e, _⟩ := x; exact Heap.lt_size e
  | ins C dx fs => obtain ⟨_, _, _, e, _⟩ := x; exact Heap.lt_size e
  | own y => obtain ⟨_, e⟩ := x; exact Heap.lt_size e
  | xd fs => obtain ⟨_, ⟨_, _, _, e, _⟩, _⟩ := x; exact Heap.lt_size e
  | rng lo hi => obtain ⟨_, _, _, e⟩ := x; exact Heap.lt_size e
  | frz ob u => obtain ⟨e, _⟩ := x; exact Heap.lt_size e
  | tbl ps => exact Heap.lt_size (show h.get? a = some _ from x)
  | met f y => exact Heap.lt_size (show h.get? a = some _ from x)
  | ext φ => obtain ⟨_, ⟨_, e⟩, _⟩ := x; exact Heap.lt_size e
theorem Paired.mapP {α β : Type} {F G : α → β → Prop} : ∀ {l₁ : List α} {l₂ : List β}, Paired F l₁ l₂ → (∀ a b, F a b → G a b) → Paired G l₁ l₂
  | _, _, .nil, _ => .nil
  | _, _, .cons r t, f => .cons (f _ _ r) (Paired.mapP t f)
/-- what an object's description leans on: its own object, its own dict, the tuples -/
theorem ObjOk.stay (x : ObjOk P w H h a o) (k : ∀ b u, (b = a ∨ H b = some (.own a)) → h.get? b = some u → h'.get? b = some u)
    (ho : ∀ b, H b = some (.own a) → H' b = some (.own a)) (ht : ∀ b xs, H b = some (.tup xs) → H' b = some (.tup xs)) : ObjOk P w H' h' a o := by
  induction o with
  | lst xs => obtain ⟨z, its, n, r, e⟩ := x; exact ⟨z, its, n, r, k _ _ (.inl rfl) e⟩
  | tup xs => obtain ⟨z, its, r, ⟨ob, e, c⟩, od, e2, d⟩ := x; exact ⟨z, its, r, ⟨ob, k _ _ (.inl rfl) e, c⟩, od, k _ _ (.inl rfl) e2, d⟩
  | dK kvs => obtain ⟨z, y, vs, r, ob, es, ep, e, c⟩ := x; exact ⟨z, y, vs, r, ob, es, ep, k _ _ (.inl rfl) e, c⟩
  | dT kvs =>
    obtain ⟨z, y, xs, r, ob, es, ep, e, c⟩ := x
    exact ⟨z, y, xs, Paired.mapP r fun p q z => ⟨z.1, ht _ _ z.2.1, z.2.2⟩, ob, es, ep, k _ _ (.inl rfl) e, c⟩
  | set S n => obtain ⟨ob, es, ep, t, e, c⟩ := x; exact ⟨ob, es, ep, t, k _ _ (.inl rfl) e, c⟩
  | ins C dx fs =>
    obtain ⟨d, z, ne, e, mA, ⟨od, es, ep, e2, c⟩, r⟩ := x
    exact ⟨ho _ d, z, ne, k _ _ (.inl rfl) e, mA, ⟨od, es, ep, k _ _ (.inr d) e2, c⟩, r⟩
  | own y => obtain ⟨ob, e⟩ := x; exact ⟨ob, k _ _ (.inl rfl) e⟩
  | xd fs => obtain ⟨mA, ⟨od, es, ep, e, c⟩, r⟩ := x; exact ⟨mA, ⟨od, es, ep, k _ _ (.inl rfl) e, c⟩, r⟩
  | rng lo hi => obtain ⟨t, u, v, e⟩ := x; exact ⟨t, u, v, k _ _ (.inl rfl) e⟩
  | frz ob u ih => obtain ⟨e, q⟩ := x; exact ⟨k _ _ (.inl rfl) e, ih q⟩
  | tbl ps =>
    have e : h.get? a = some { cls := .none, data := .fields ps } := x
    show h'.get? a = some { cls := .none, data := .fields ps }
    exact k a _ (.inl rfl) e
  | met f y =>
    have e : h.get? a = some (PySem.W.methodObj (.ref f) (.ref y)) := x
    show h'.get? a = some (PySem.W.methodObj (.ref f) (.ref y))
    exact k a _ (.inl rfl) e
  | ext φ => obtain ⟨p, ⟨o, e⟩, st⟩ := x; exact ⟨st _ _ p fun o q => k _ _ (.inl rfl) q, ⟨o, k _ _ (.inl rfl) e⟩, st⟩
theorem HOk.lt (x : HOk P w H h) (e : H a = some o) : a < h.objs.size := (x a o e).lt
theorem HOk.fresh (x : HOk P w H h) (e : h.objs.size ≤ a) : H a = none := by
  cases q : H a with
  | none => rfl
  | some u => exact absurd (Nat.lt_of_lt_of_le (x.lt q) e) (Nat.lt_irrefl _)
/-- every object of the heap is kept -/
theorem HOk.kept (x : HOk P w H h) (k : ∀ b u, h.get? b = some u → h'.get? b = some u) : HOk P w H h' := fun a o e =>
  (x a o e).stay (fun b u _ q => k b u q) (fun _ q => q) fun _ _ q => q
/-- a new object is laid and tracked -/
theorem HOk.laid (x : HOk P w H h) (k : ∀ b u, h.get? b = some u → h'.get? b = some u) (hp : h.objs.size ≤ a) (new : ObjOk P w (upd H a o) h' a o) : HOk P w (upd H a o) h' := fun b u e => by
  have hn := x.fresh hp
  by_cases hb : b = a
  · subst hb; rw [upd_same] at e; cases e; exact new
  · rw [upd_ne hb] at e
    exact (x b u e).stay (fun c v _ q => k c v q) (fun c q => by rw [upd_ne (ne_of_none q hn)]; exact q) fun c xs q => by rw [upd_ne (ne_of_none q hn)]; exact q
end

/-- what may be read as u: it is u, or a known u -/
def Rd (H : Hp) (a : Addr) (u : HO) : Prop := H a = some u ∨ ∃ o, H a = some (.frz o u)
theorem Rd.ok {P : Program} {w : World} {H : Hp} {h : Heap} {a : Addr} {u : HO} (r : Rd H a u) (x : HOk P w H h) : ObjOk P w H h a u := by
  rcases r with r | ⟨o, r⟩
  · exact x a u r
  · obtain ⟨_, q⟩ := x a _ r
    exact q
/-- what may be written -/
def Mut : Option HO → Prop
  | some (.lst _) => True
  | some (.dK _) => True
  | some (.dT _) => True
  | some (.set _ _) => True
  | some (.ins _ _ _) => True
  | some (.ext _) => True
  | _ => False
section
variable {P : Program} {w : World} {H : Hp} {h h' : Heap} {x e : Addr} {o' : HO}
/-- the object at e is changed: x itself, or the dict of the instance x -/
theorem HOk.write (ok : HOk P w H h) (mu : Mut (H x)) (he : e = x ∨ H e = some (.own x)) (k : ∀ b u, b ≠ e → h.get? b = some u → h'.get? b = some u) (heo : ∃ u, h'.get? e = some u)
    (new : ObjOk P w (upd H x o') h' x o') : HOk P w (upd H x o') h' := fun b u q => by
  have nown : ∀ c y, H c = some (.own y) → c ≠ x := fun c y r z => by subst z; rw [r] at mu; exact mu
  have ntup : ∀ c xs, H c = some (.tup xs) → c ≠ x := fun c xs r z => by subst z; rw [r] at mu; exact mu
  by_cases hb : b = x
  · subst hb; rw [upd_same] at q; cases q; exact new
  · rw [upd_ne hb] at q
    by_cases hbe : b = e
    · have q' : H b = some (.own x) := by
        rcases he with z | z
        · exact absurd (hbe.trans z) hb
        · rw [hbe]; exact z
      rw [q] at q'; cases q'
      obtain ⟨v, hv⟩ := heo
      exact ⟨v, by rw [hbe]; exact hv⟩
    · refine (ok b u q).stay (fun c v hc r => k c v ?_ r) (fun c r => by rw [upd_ne (nown c b r)]; exact r) fun c xs r => by rw [upd_ne (ntup c xs r)]; exact r
      rcases hc with rfl | hc
      · exact hbe
      · rintro rfl
        rcases he with z | z
        · exact nown c b hc z
        · rw [hc] at z; cases z; exact hb rfl
end

/-! ### kept unless tracked; of the frames at fs (the callers') the slots may change (an exception that passes writes there); of the records at ex (iterators) nothing is said -/
structure Un (fs ex : List Addr) (H H' : Hp) (h h' : Heap) : Prop where
  keep : ∀ b o, h.get? b = some o → H b = none → b ∉ fs → b ∉ ex → h'.get? b = some o
  slot : ∀ b o, h.get? b = some o → H b = none → b ∈ fs → b ∉ ex → ∃ sl, h'.get? b = some { o with slots := sl }
  free : ∀ b o, h.get? b = some o → H b = none → b ∉ ex → H' b = none
  there : ∀ b o, h.get? b = some o → b ∉ ex → ∃ o', h'.get? b = some o'
  tups : ∀ b xs, H b = some (.tup xs) → H' b = some (.tup xs)
  frzs : ∀ b o u, H b = some (.frz o u) → H' b = some (.frz o u)
  tbls : ∀ b ps, H b = some (.tbl ps) → ∃ more, H' b = some (.tbl (ps ++ more))
section
variable {fs fs' ex ex' : List Addr} {H H1 H2 : Hp} {h h1 h2 h' : Heap} {a x e : Addr} {o : HO}
theorem Un.any (u : Un fs ex H H1 h h1) {b : Addr} {ob : Obj} (q : h.get? b = some ob) (n : H b = none) (hx : b ∉ ex) : ∃ sl, h1.get? b = some { ob with slots := sl } := by
  by_cases hb : b ∈ fs
  · exact u.slot b ob q n hb hx
  · exact ⟨ob.slots, u.keep b ob q n hb hx⟩
theorem Un.trans (a : Un fs ex H H1 h h1) (b : Un fs ex H1 H2 h1 h2) : Un fs ex H H2 h h2 where
  keep := fun c ob q n hc hx => b.keep c ob (a.keep c ob q n hc hx) (a.free c ob q n hx) hc hx
  slot := fun c ob q n hc hx => by
    obtain ⟨sl, e1⟩ := a.slot c ob q n hc hx
    obtain ⟨sl', e2⟩ := b.slot c _ e1 (a.free c ob q n hx) hc hx
    exact ⟨sl', e2⟩
  free := fun c ob q n hx => by
    obtain ⟨o', e1⟩ := a.there c ob q hx
    exact b.free c o' e1 (a.free c ob q n hx) hx
  there := fun c ob q hx => by
    obtain ⟨o', e1⟩ := a.there c ob q hx
    exact b.there c o' e1 hx
  tups := fun c xs q => b.tups c xs (a.tups c xs q)
  frzs := fun c ob xs q => b.frzs c ob xs (a.frzs c ob xs q)
  tbls := fun c ps q => by
    obtain ⟨m1, e1⟩ := a.tbls c ps q
    obtain ⟨m2, e2⟩ := b.tbls c _ e1
    exact ⟨m1 ++ m2, by rw [e2, Array.append_assoc]⟩
theorem Un.kept (k : ∀ b u, h.get? b = some u → h'.get? b = some u) : Un fs ex H H h h' :=
  ⟨fun b ob q _ _ _ => k b ob q, fun b ob q _ _ _ => ⟨ob.slots, k b ob q⟩, fun _ _ _ n _ => n, fun b ob q _ => ⟨ob, k b ob q⟩, fun _ _ q => q, fun _ _ _ q => q, fun _ ps q => ⟨#[], by rw [q]; simp⟩⟩
theorem Un.refl : Un fs ex H H h h := Un.kept fun _ _ q => q
theorem Un.laid (k : ∀ b u, h.get? b = some u → h'.get? b = some u) (hp : h.objs.size ≤ a) (hn : H a = none) : Un fs ex H (upd H a o) h h' where
  keep := fun b u q _ _ _ => k b u q
  slot := fun b u q _ _ _ => ⟨u.slots, k b u q⟩
  free := fun b u q n _ => by rw [upd_ne (Nat.ne_of_lt (Nat.lt_of_lt_of_le (Heap.lt_size q) hp))]; exact n
  there := fun b u q _ => ⟨u, k b u q⟩
  tups := fun b xs q => by rw [upd_ne (ne_of_none q hn)]; exact q
  frzs := fun b u xs q => by rw [upd_ne (ne_of_none q hn)]; exact q
  tbls := fun b ps q => ⟨#[], by rw [upd_ne (ne_of_none q hn), q]; simp⟩
theorem Un.write (mu : Mut (H x)) (he : e = x ∨ H e = some (.own x)) (k : ∀ b u, b ≠ e → h.get? b = some u → h'.get? b = some u) (heo : ∃ u, h'.get? e = some u) : Un fs ex H (upd H x o) h h' := by
  have hx : ∀ b, H b = none → b ≠ x := fun b n z => by subst z; rw [n] at mu; exact mu
  have hb : ∀ b, H b = none → b ≠ e := fun b n z => by
    subst z
    rcases he with r | r
    · exact hx b n r
    · rw [n] at r; cases r
  have hm : ∀ b u, H b = some u → ¬ Mut (some u) → b ≠ x := fun b u q nm z => by subst z; rw [q] at mu; exact nm mu
  refine ⟨fun b u q n _ _ => k b u (hb b n) q, fun b u q n _ _ => ⟨u.slots, k b u (hb b n) q⟩, fun b u q n _ => by rw [upd_ne (hx b n)]; exact n, fun b u q _ => ?_,
    fun b xs q => by rw [upd_ne (hm b _ q fun z => z)]; exact q, fun b u xs q => by rw [upd_ne (hm b _ q fun z => z)]; exact q, fun b ps q => ⟨#[], by rw [upd_ne (hm b _ q fun z => z), q]; simp⟩⟩
  by_cases hbe : b = e
  · subst hbe; exact heo
  · exact ⟨u, k b u hbe q⟩
theorem Un.mono (u : Un fs ex H H1 h h1) (hs : ∀ b ∈ fs, b ∈ fs') (hx : ∀ b ∈ ex, b ∈ ex') : Un fs' ex' H H1 h h1 :=
  ⟨fun b ob q n hb he => u.keep b ob q n (fun z => hb (hs b z)) fun z => he (hx b z), fun _ _ q n _ he => u.any q n fun z => he (hx _ z), fun b ob q n he => u.free b ob q n fun z => he (hx b z), fun b ob q he => u.there b ob q fun z => he (hx b z), u.tups, u.frzs, u.tbls⟩
end

/-! ### the heap without what is tracked -/
def trk (h : Heap) (H : Hp) : List Addr := (List.range h.objs.size).filter fun a => (H a).isSome
def hidT (h : Heap) (H : Hp) : Heap := PySem.W.hideAll h (trk h H)
theorem hidT_size (h : Heap) (H : Hp) : (hidT h H).objs.size = h.objs.size := PySem.W.hideAll_size _ _
theorem hidT_get {h : Heap} {H : Hp} {b : Addr} {o : Obj} (e : h.get? b = some o) (n : H b = none) : (hidT h H).get? b = some o :=
  PySem.W.hideAll_get _ e fun hm => by
    have q : (H b).isSome = true := (List.mem_filter.mp hm).2
    rw [n] at q; simp at q
theorem of_hidT {h : Heap} {H : Hp} {b : Addr} {o : Obj} (e : (hidT h H).get? b = some o) : h.get? b = some o ∧ H b = none := by
  have e' : h.get? b = some o := PySem.W.of_hideAll (trk h H) e
  refine ⟨e', ?_⟩
  cases q : H b with
  | none => rfl
  | some x =>
    have hm : b ∈ trk h H := List.mem_filter.mpr ⟨List.mem_range.mpr (Heap.lt_size e'), by simp [q]⟩
    have z : (hidT h H).get? b = none := PySem.W.hideAll_none (trk h H) hm
    rw [z] at e; cases e

/-! ### OpenK's ledger, filled with every new object but one -/
def allNews (g h : Heap) (L : Addr) : List (Addr × Obj) := (List.range h.objs.size).filterMap fun a => if a = L ∨ (g.get? a).isSome = true then none else (h.get? a).map fun o => (a, o)
def rest (g h : Heap) (L d : Addr) : List (Addr × Obj) := (allNews g h L).filter fun p => decide (p.1 ≠ d)
end L2

namespace L2
open PySem PySem.Spec PyProof.Rows

/-- the module's facts, over the base: the heap at the law's entry without what is tracked there -/
structure Mod (K : PySem.W.Frag) (mg : Str → Option Value) (base : Heap) : Prop where
  kin : K.In base
  glob : base.Ns mainGlobals mg
  blt : ∃ mb, base.Ns builtinsNs mb ∧ ∀ x : Str, x ≠ "__name__" → mb x = bootBuiltins x
  nolimit : base.NoLimit

/-- the context: a def's body (or a comprehension's block) running. base: fixed through the whole law; s₀, H₀: the entry; outer: the frames whose slots others may change (a def's callers); stack: all frames that run;
   ex: iterators that were made ahead of the entry and are walked here (a comprehension's); fn: the names whose cells were made at the entry (a def: all; a comprehension's block: its own); calm: not within an except suite; pn: pins that every state bears; xe: what is wanted of an exception that leaves the code -/
structure Cx where
  prog : Program
  w : World
  K : PySem.W.Frag
  mg : Str → Option Value
  base : Heap
  A : Around
  N : List Str
  s₀ : Shared
  H₀ : Hp
  env : Env
  outer : List Env
  stack : List Env
  ex : List Addr
  fn : Str → Bool
  calm : Bool
  pn : List (Addr × Obj)
  xe : Value → Shared → Prop
/-- the callers' frames -/
def frs (l : List Env) : List Addr := l.filterMap (·.frame)
abbrev Cx.fs (X : Cx) : List Addr := frs X.outer

def Vis (sc : Scope) (x : Str) : Prop := sc.names.lookup x = some .local ∨ sc.names.lookup x = some .cell ∨ sc.names.lookup x = some .free
def Loc (sc : Scope) (x : Str) : Prop := sc.names.lookup x = some .local ∨ sc.names.lookup x = some .cell
def Look (env : Env) (h : Heap) (m : Str → Option Value) (x : Str) (u : Value) : Prop :=
  (env.kindOf x = some .local ∧ m x = some u) ∨ ((env.kindOf x = some .cell ∨ env.kindOf x = some .free) ∧ ∃ c, env.cells.lookup x = some c ∧ h.IsCell c (some u))

structure Cx.Ok (X : Cx) : Prop where
  mod : Mod X.K X.mg X.base
  kind : X.env.scope.kind = .function
  glob : X.env.globals = mainGlobals
  blt : X.env.builtins = builtinsNs
  above : X.s₀.heap.objs.size ≤ X.env.locals
  inj : ∀ x y c, X.env.cells.lookup x = some c → X.env.cells.lookup y = some c → x = y
  has : ∀ x, (X.env.kindOf x = some .cell ∨ X.env.kindOf x = some .free) → ∃ c, X.env.cells.lookup x = some c
  cab : ∀ x c, X.fn x = true → X.env.cells.lookup x = some c → X.s₀.heap.objs.size ≤ c
  hd : X.calm = true → X.A.handled = none
  frames : X.A.frames = some X.stack
  stk : X.stack = X.outer ∨ (X.stack = X.env :: X.outer ∧ X.env.frame = some X.env.locals)
  exf : ∀ b ∈ X.ex, b ≠ X.env.locals ∧ ∀ x c, X.env.cells.lookup x = some c → c ≠ b
  bs : ∀ b o, X.base.get? b = some o → X.s₀.heap.get? b = some o ∧ X.H₀ b = none
  bsz : X.base.objs.size ≤ X.s₀.heap.objs.size
  noex : ∀ b o, X.base.get? b = some o → b ∉ X.ex
  exfs : ∀ b ∈ X.ex, b ∉ X.fs
  funs : X.s₀.heap.FunFrames X.base X.outer
  frf : ∀ b ∈ X.fs, X.H₀ b = none

structure Inv (X : Cx) (pins : List (Addr × Obj)) (σ : List (Option V)) (H : Hp) (s : Shared) : Prop where
  ok : X.Ok
  os : s.os = X.s₀.os
  bare : AllBare s.gens
  base : Un X.fs X.ex X.H₀ H X.s₀.heap s.heap
  loc : ∃ m, s.heap.Ns X.env.locals m ∧ ∀ (i : Nat) (x : Str) (v : V), X.N[i]? = some x → σ[i]? = some (some v) → Vis X.env.scope x → ∃ u, RelV v u ∧ Look X.env s.heap m x u
  cell : ∀ x c, X.env.cells.lookup x = some c → ∃ v, s.heap.IsCell c v
  free : H X.env.locals = none
  freeC : ∀ x c, X.env.cells.lookup x = some c → H c = none
  pin : ∀ p ∈ X.pn ++ pins, s.heap.get? p.1 = some p.2 ∧ H p.1 = none ∧ p.1 ≠ X.env.locals ∧ p.1 ∉ X.fs ∧ ∀ v, p.2.data ≠ .cell v
  hok : HOk X.prog X.w H s.heap
  len : σ.length = X.N.length

section
variable {X : Cx} {pins : List (Addr × Obj)} {σ : List (Option V)} {H H' : Hp} {s : Shared} {h' : Heap}

theorem Cx.Ok.nofr (ok : X.Ok) {b : Addr} {o : Obj} (e : X.base.get? b = some o) : b ∉ X.fs := fun hb => by
  have := (ok.funs.mem hb).1
  rw [e] at this; cases this
theorem Inv.bs (I : Inv X pins σ H s) : ∀ b o, X.base.get? b = some o → s.heap.get? b = some o ∧ H b = none := fun b o e =>
  ⟨I.base.keep b o (I.ok.bs b o e).1 (I.ok.bs b o e).2 (I.ok.nofr e) (I.ok.noex b o e), I.base.free b o (I.ok.bs b o e).1 (I.ok.bs b o e).2 (I.ok.noex b o e)⟩
theorem Inv.bk (I : Inv X pins σ H s) : ∀ b o, X.base.get? b = some o → s.heap.get? b = some o := fun b o e => (I.bs b o e).1
theorem Inv.mod (I : Inv X pins σ H s) : Mod X.K X.mg X.base := I.ok.mod
theorem Inv.kIn (I : Inv X pins σ H s) : X.K.In s.heap := I.ok.mod.kin.keeps I.bk
theorem Inv.lt (I : Inv X pins σ H s) : X.env.locals < s.heap.objs.size := let ⟨_, hn, _⟩ := I.loc; hn.lt
theorem Inv.sz (I : Inv X pins σ H s) : X.s₀.heap.objs.size ≤ s.heap.objs.size := Nat.le_trans I.ok.above (Nat.le_of_lt I.lt)
theorem Inv.nofs (I : Inv X pins σ H s) {a : Addr} (h : s.heap.objs.size ≤ a) : a ∉ X.fs := fun hb => by
  obtain ⟨_, o, ho, _⟩ := I.ok.funs.mem hb
  exact absurd (Nat.lt_of_lt_of_le (Heap.lt_size ho) (Nat.le_trans I.sz h)) (Nat.lt_irrefl _)
theorem Inv.cne (I : Inv X pins σ H s) : ∀ x c, X.env.cells.lookup x = some c → c ≠ X.env.locals := fun x c e z => by
  obtain ⟨v, o, ho, hd⟩ := I.cell x c e
  obtain ⟨m, ⟨o', es, ep, ho', hd', _⟩, _⟩ := I.loc
  rw [z, ho'] at ho; cases ho; rw [hd'] at hd; cases hd
theorem Inv.funs (I : Inv X pins σ H s) : s.heap.FunFrames X.base X.outer := by
  have all : ∀ (l : List Env), (∀ b ∈ frs l, b ∈ X.fs) → X.s₀.heap.FunFrames X.base l → s.heap.FunFrames X.base l := by
    intro l
    induction l with
    | nil => intro _ _; trivial
    | cons env r ih =>
      intro hs hl
      obtain ⟨hk, ⟨L, o, hf, hn, ho, hd⟩, hr⟩ := hl
      have hL : L ∈ X.fs := hs L (by unfold frs; rw [List.filterMap_cons, hf]; exact List.mem_cons_self)
      obtain ⟨sl, e⟩ := I.base.slot L o ho (I.ok.frf L hL) hL fun z => I.ok.exfs L z hL
      exact ⟨hk, ⟨L, _, hf, hn, e, hd⟩, ih (fun b hb => hs b (by unfold frs; rw [List.filterMap_cons, hf]; exact List.mem_cons_of_mem _ hb)) hr⟩
  exact all X.outer (fun _ hb => hb) I.ok.funs

/-- the frames that run, for a call -/
theorem Inv.stack (I : Inv X pins σ H s) : s.heap.FunFrames X.base X.stack := by
  rcases I.ok.stk with e | ⟨e, hf⟩
  · rw [e]; exact I.funs
  · rw [e]
    obtain ⟨m, hn, _⟩ := I.loc
    refine .cons (by rw [I.ok.kind]; decide) hf hn ?_ I.funs
    exact Heap.get?_none_of_le (Nat.le_trans I.ok.bsz I.ok.above)
theorem Inv.stkSub (I : Inv X pins σ H s) : ∀ b ∈ frs X.stack, b ∈ X.env.locals :: X.fs := fun b hb => by
  rcases I.ok.stk with e | ⟨e, hf⟩
  · rw [e] at hb; exact List.mem_cons_of_mem _ hb
  · rw [e] at hb
    unfold frs at hb
    rw [List.filterMap_cons, hf] at hb
    exact hb
theorem Inv.stkFree (I : Inv X pins σ H s) : ∀ b ∈ frs X.stack, H b = none := fun b hb => by
  rcases List.mem_cons.mp (I.stkSub b hb) with e | hb
  · rw [e]; exact I.free
  · obtain ⟨_, o, ho, _⟩ := I.ok.funs.mem hb
    exact I.base.free b o ho (I.ok.frf b hb) fun z => I.ok.exfs b z hb

/-- THE STEP: the untracked objects but the frame and the records at ch are kept (the callers' frames up to slots), the frame's map is kept, the new abstract heap is held -/
theorem Inv.step {g' : Array GenState} {t' : Nat} {d' : Drawn} {ch : List Addr} (I : Inv X pins σ H s)
    (hch : ∀ b ∈ ch, (b ∈ X.ex ∨ X.s₀.heap.objs.size ≤ b) ∧ b ≠ X.env.locals ∧ (∀ x c, X.env.cells.lookup x = some c → c ≠ b) ∧ ∀ p ∈ X.pn ++ pins, p.1 ≠ b)
    (keep : ∀ b o, b ≠ X.env.locals → b ∉ X.fs → b ∉ ch → s.heap.get? b = some o → H b = none → h'.get? b = some o)
    (slot : ∀ b o, b ≠ X.env.locals → b ∈ X.fs → b ∉ ch → s.heap.get? b = some o → H b = none → ∃ sl, h'.get? b = some { o with slots := sl }) (free : ∀ b o, b ∉ ch → s.heap.get? b = some o → H b = none → H' b = none)
    (there : ∀ b o, b ∉ ch → s.heap.get? b = some o → ∃ o', h'.get? b = some o')
    (tups : ∀ b xs, H b = some (.tup xs) → H' b = some (.tup xs)) (frzs : ∀ b o u, H b = some (.frz o u) → H' b = some (.frz o u)) (tbls : ∀ b ps, H b = some (.tbl ps) → ∃ more, H' b = some (.tbl (ps ++ more)))
    (ns : ∀ m, s.heap.Ns X.env.locals m → h'.Ns X.env.locals m) (hok : HOk X.prog X.w H' h') (hg : AllBare g') :
    Inv X pins σ H' { s with heap := h', gens := g', drawn := d', toks := t' } := by
  have neL : ∀ b o, X.s₀.heap.get? b = some o → b ≠ X.env.locals := fun b o e => Nat.ne_of_lt (Nat.lt_of_lt_of_le (Heap.lt_size e) I.ok.above)
  have neC : ∀ b o, X.s₀.heap.get? b = some o → b ∉ X.ex → b ∉ ch := fun b o e hx hb => by
    rcases (hch b hb).1 with z | z
    · exact hx z
    · exact absurd (Nat.lt_of_lt_of_le (Heap.lt_size e) z) (Nat.lt_irrefl _)
  have cellK : ∀ x c, X.env.cells.lookup x = some c → ∀ v, s.heap.IsCell c v → h'.IsCell c v := fun x c e v ⟨o, ho, hd⟩ => by
    have nch : c ∉ ch := fun z => (hch c z).2.2.1 x c e rfl
    by_cases hc : c ∈ X.fs
    · obtain ⟨sl, q⟩ := slot c o (I.cne x c e) hc nch ho (I.freeC x c e)
      exact ⟨_, q, hd⟩
    · exact ⟨o, keep c o (I.cne x c e) hc nch ho (I.freeC x c e), hd⟩
  refine ⟨I.ok, I.os, hg, ⟨fun b o e n hb hx => ?_, fun b o e n hb hx => ?_, fun b o e n hx => ?_, fun b o e hx => ?_, fun b xs e => tups b xs (I.base.tups b xs e), fun b o xs e => frzs b o xs (I.base.frzs b o xs e), fun b ps e => ?_⟩, ?_, fun x c e => ?_, ?_, fun x c e => ?_, fun p hp => ?_, hok, I.len⟩
  · exact keep b o (neL b o e) hb (neC b o e hx) (I.base.keep b o e n hb hx) (I.base.free b o e n hx)
  · obtain ⟨sl, e1⟩ := I.base.slot b o e n hb hx
    obtain ⟨sl', e2⟩ := slot b _ (neL b o e) hb (neC b o e hx) e1 (I.base.free b o e n hx)
    exact ⟨sl', e2⟩
  · obtain ⟨o', e1⟩ := I.base.there b o e hx
    exact free b o' (neC b o e hx) e1 (I.base.free b o e n hx)
  · obtain ⟨o', e1⟩ := I.base.there b o e hx
    exact there b o' (neC b o e hx) e1
  · obtain ⟨m1, e1⟩ := I.base.tbls b ps e
    obtain ⟨m2, e2⟩ := tbls b _ e1
    exact ⟨m1 ++ m2, by rw [e2, Array.append_assoc]⟩
  · obtain ⟨m, hn, hl⟩ := I.loc
    refine ⟨m, ns m hn, fun i x v e1 e2 e3 => ?_⟩
    obtain ⟨u, r, l⟩ := hl i x v e1 e2 e3
    refine ⟨u, r, ?_⟩
    rcases l with l | ⟨k, c, e, z⟩
    · exact .inl l
    · exact .inr ⟨k, c, e, cellK x c e _ z⟩
  · obtain ⟨v, z⟩ := I.cell x c e
    exact ⟨v, cellK x c e v z⟩
  · obtain ⟨m, ⟨o, _, _, ho, _⟩, _⟩ := I.loc
    exact free _ o (fun z => (hch _ z).2.1 rfl) ho I.free
  · obtain ⟨v, o, ho, hd⟩ := I.cell x c e
    exact free c o (fun z => (hch c z).2.2.1 x c e rfl) ho (I.freeC x c e)
  · obtain ⟨e, n, ne, nf, d⟩ := I.pin p hp
    have nch : p.1 ∉ ch := fun z => (hch p.1 z).2.2.2 p hp rfl
    exact ⟨keep p.1 p.2 ne nf nch e n, free p.1 p.2 nch e n, ne, nf, d⟩
/-- .. where the frame's own object is kept too -/
theorem Inv.un {t' : Nat} (I : Inv X pins σ H s) (u : Un X.fs [] H H' s.heap h') (hok : HOk X.prog X.w H' h') : Inv X pins σ H' { s with heap := h', toks := t' } := by
  obtain ⟨m, ⟨o, es, ep, ho, r⟩, _⟩ := id I.loc
  obtain ⟨sl, hL⟩ := u.any ho I.free (by simp)
  exact I.step (g' := s.gens) (d' := s.drawn) (ch := []) (fun _ z => nomatch z) (fun b o _ hb _ e n => u.keep b o e n hb (by simp)) (fun b o _ hb _ e n => u.slot b o e n hb (by simp)) (fun b o _ e n => u.free b o e n (by simp)) (fun b o _ e => u.there b o e (by simp)) u.tups u.frzs u.tbls (fun m' hm => by
    obtain ⟨o', es', ep', ho', r'⟩ := hm
    rw [ho] at ho'; cases ho'
    exact ⟨_, es', ep', hL, r'⟩) hok I.bare
/-- behind a call (or a comprehension's block): the slots of this frame may have changed too, the records at ch may have turned -/
theorem Inv.call {g' : Array GenState} {t' : Nat} {d' : Drawn} {ch : List Addr} (I : Inv X pins σ H s) (u : Un (frs X.stack) ch H H' s.heap h') (hok : HOk X.prog X.w H' h') (hg : AllBare g')
    (hch : ∀ b ∈ ch, (b ∈ X.ex ∨ X.s₀.heap.objs.size ≤ b) ∧ b ≠ X.env.locals ∧ (∀ x c, X.env.cells.lookup x = some c → c ≠ b) ∧ ∀ p ∈ X.pn ++ pins, p.1 ≠ b) :
    Inv X pins σ H' { s with heap := h', gens := g', drawn := d', toks := t' } := by
  obtain ⟨m, ⟨o, es, ep, ho, r⟩, _⟩ := id I.loc
  obtain ⟨sl, hL⟩ := u.any ho I.free fun z => (hch _ z).2.1 rfl
  exact I.step (ch := ch) hch (fun b o hL hb hc e n => u.keep b o e n (fun z => (List.mem_cons.mp (I.stkSub b z)).elim hL hb) hc) (fun b o _ _ hc e n => u.any e n hc) (fun b o hc e n => u.free b o e n hc) (fun b o hc e => u.there b o e hc) u.tups u.frzs u.tbls (fun m' hm => by
    obtain ⟨o', es', ep', ho', r'⟩ := hm
    rw [ho] at ho'; cases ho'
    exact ⟨_, es', ep', hL, r'⟩) hok hg
/-- an untracked record of ours (an iterator) has turned -/
theorem Inv.turned {t' : Nat} {it : Addr} (I : Inv X pins σ H s) (k : ∀ b o, b ≠ it → s.heap.get? b = some o → h'.get? b = some o) (hn : H it = none) (hL : it ≠ X.env.locals)
    (h1 : it ∈ X.ex ∨ X.s₀.heap.objs.size ≤ it) (h2 : ∀ x c, X.env.cells.lookup x = some c → c ≠ it) (h3 : ∀ p ∈ X.pn ++ pins, p.1 ≠ it) : Inv X pins σ H { s with heap := h', toks := t' } := by
  have nit : ∀ b u, H b = some u → b ≠ it := fun b u e z => by rw [z, hn] at e; cases e
  refine I.step (g' := s.gens) (d' := s.drawn) (ch := [it]) (fun b hb => ?_) (fun b o _ _ hc e _ => k b o (fun z => hc (by simp [z])) e) (fun b o _ _ hc e _ => ⟨o.slots, k b o (fun z => hc (by simp [z])) e⟩) (fun _ _ _ _ n => n)
    (fun b o hc e => ⟨o, k b o (fun z => hc (by simp [z])) e⟩) (fun _ _ e => e) (fun _ _ _ e => e) (fun b ps e => ⟨#[], by rw [e]; simp⟩) (fun m hm => ?_) (fun b u e => ?_) I.bare
  · have e : b = it := by simpa using hb
    subst e
    exact ⟨h1, hL, h2, h3⟩
  · obtain ⟨o, es, ep, ho, r⟩ := hm
    exact ⟨o, es, ep, k _ o (Ne.symm hL) ho, r⟩
  · refine (I.hok b u e).stay (fun c v hc q => k c v ?_ q) (fun _ q => q) fun _ _ q => q
    rcases hc with z | z
    · rw [z]; exact nit b u e
    · exact nit c _ z
theorem Inv.tok (I : Inv X pins σ H s) (t : Nat) : Inv X pins σ H { s with toks := t } := I.un (h' := s.heap) (t' := t) Un.refl I.hok
/-- all objects kept -/
theorem Inv.kept {t' : Nat} (I : Inv X pins σ H s) (k : ∀ b u, s.heap.get? b = some u → h'.get? b = some u) : Inv X pins σ H { s with heap := h', toks := t' } := I.un (Un.kept k) (I.hok.kept k)
/-- a new object laid and tracked -/
theorem Inv.laid {a : Addr} {o : HO} {t' : Nat} (I : Inv X pins σ H s) (k : ∀ b u, s.heap.get? b = some u → h'.get? b = some u) (hp : s.heap.objs.size ≤ a) (new : ObjOk X.prog X.w (upd H a o) h' a o) :
    Inv X pins σ (upd H a o) { s with heap := h', toks := t' } := I.un (Un.laid k hp (I.hok.fresh hp)) (I.hok.laid k hp new)
/-- an object written -/
theorem Inv.write {x e : Addr} {o : HO} {t' : Nat} (I : Inv X pins σ H s) (mu : Mut (H x)) (he : e = x ∨ H e = some (.own x)) (k : ∀ b u, b ≠ e → s.heap.get? b = some u → h'.get? b = some u) (heo : ∃ u, h'.get? e = some u)
    (new : ObjOk X.prog X.w (upd H x o) h' x o) : Inv X pins σ (upd H x o) { s with heap := h', toks := t' } := I.un (Un.write mu he k heo) (I.hok.write mu he k heo new)
theorem Inv.pins_of {pins' : List (Addr × Obj)} (I : Inv X pins σ H s) (h : ∀ p ∈ pins', s.heap.get? p.1 = some p.2 ∧ H p.1 = none ∧ p.1 ≠ X.env.locals ∧ p.1 ∉ X.fs ∧ ∀ v, p.2.data ≠ .cell v) : Inv X pins' σ H s :=
  ⟨I.ok, I.os, I.bare, I.base, I.loc, I.cell, I.free, I.freeC, fun p hp => (List.mem_append.mp hp).elim (fun z => I.pin p (List.mem_append_left _ z)) (h p), I.hok, I.len⟩

theorem nodup_ix {N : List Str} (hN : N.Nodup) {i j : Nat} {x : Str} (a : N[i]? = some x) (b : N[j]? = some x) : i = j := by
  obtain ⟨h1, e1⟩ := List.getElem?_eq_some_iff.mp a
  obtain ⟨h2, e2⟩ := List.getElem?_eq_some_iff.mp b
  exact (List.getElem_inj hN).mp (e1.trans e2.symm)

/-- a name is stored; what changed -/
theorem store_ok2 {M : Model} {A : Around} {E : Value → Shared → Prop} {i : Nat} {x : Str} {v : V} {u : Value} {Q : Unit → Shared → Prop} (I : Inv X pins σ H s) (hN : X.N.Nodup) (hi : X.N[i]? = some x) (hx : Loc X.env.scope x) (r : RelV v u)
    (h : ∀ s', Inv X pins (σ.set i (some v)) H s' → (∃ a, Heap.SameBut a s.heap s'.heap ∧ (a = X.env.locals ∨ X.env.cells.lookup x = some a)) → Q () s') (hf : X.fn x = true ∨ X.env.scope.names.lookup x = some .local := by first | exact .inl rfl | exact .inr rfl | assumption) : wpAny M A (storeName X.env x u) Q E s := by
  obtain ⟨m, hn, hl⟩ := id I.loc
  have hcls : (X.env.scope.kind == .class || (X.env.scope.kind == .module && X.env.locals != X.env.globals)) = false := by rw [I.ok.kind]; rfl
  have hiσ : i < σ.length := by rw [I.len]; exact (List.getElem?_eq_some_iff.mp hi).1
  have cne := I.cne
  have tracked : ∀ {a : Addr} {h' : Heap}, (∃ o, s.heap.get? a = some o ∧ H a = none) → Heap.SameBut a s.heap h' → HOk X.prog X.w H h' := fun {a h'} ha hs b ob e => by
    obtain ⟨_, _, hfree⟩ := ha
    refine (I.hok b ob e).stay (fun c w' hc q => (hs.2 c ?_).trans q) (fun _ q => q) fun _ _ q => q
    rintro rfl
    rcases hc with rfl | hc
    · rw [hfree] at e; cases e
    · rw [hfree] at hc; cases hc
  rcases hx with hk | hk
  · refine wpAny_storeName_local hk hn (fun h' hn' hs => ?_) hcls
    obtain ⟨oL, _, _, hoL, _⟩ := id hn
    refine h _ ⟨I.ok, I.os, I.bare, ⟨fun b o e n hb hx => ?_, fun b o e n hb hx => ?_, I.base.free, fun b o e hx => ?_, I.base.tups, I.base.frzs, I.base.tbls⟩, ⟨_, hn', fun j y v' e1 e2 e3 => ?_⟩, fun y c e => ?_, I.free, I.freeC, fun p hp => ?_, tracked ⟨oL, hoL, I.free⟩ hs, by simpa using I.len⟩ ⟨_, hs, .inl rfl⟩
    · exact (hs.2 b (Nat.ne_of_lt (Nat.lt_of_lt_of_le (Heap.lt_size e) I.ok.above))).trans (I.base.keep b o e n hb hx)
    · obtain ⟨sl, e1⟩ := I.base.slot b o e n hb hx
      exact ⟨sl, (hs.2 b (Nat.ne_of_lt (Nat.lt_of_lt_of_le (Heap.lt_size e) I.ok.above))).trans e1⟩
    · obtain ⟨o', e1⟩ := I.base.there b o e hx
      exact ⟨o', (hs.2 b (Nat.ne_of_lt (Nat.lt_of_lt_of_le (Heap.lt_size e) I.ok.above))).trans e1⟩
    · by_cases hj : j = i
      · subst hj
        rw [hi] at e1; cases e1
        rw [List.getElem?_set_self hiσ] at e2
        cases e2
        exact ⟨u, r, .inl ⟨hk, by simp⟩⟩
      · rw [List.getElem?_set_ne (Ne.symm hj)] at e2
        obtain ⟨u', r', q⟩ := hl j y v' e1 e2 e3
        refine ⟨u', r', ?_⟩
        rcases q with ⟨k, e⟩ | ⟨k, c, e, z⟩
        · refine .inl ⟨k, ?_⟩
          have : y ≠ x := fun e => hj (nodup_ix hN e1 (e ▸ hi))
          simp [this, e]
        · exact .inr ⟨k, c, e, z.sameBut hs (cne y c e)⟩
    · obtain ⟨w', z⟩ := I.cell y c e
      exact ⟨w', z.sameBut hs (cne y c e)⟩
    · obtain ⟨e, n, ne, nf, d⟩ := I.pin p hp
      exact ⟨(hs.2 p.1 ne).trans e, n, ne, nf, d⟩
  · have hfn : X.fn x = true := by
      rcases hf with z | z
      · exact z
      · rw [z] at hk; cases hk
    obtain ⟨c, hc⟩ := I.ok.has x (.inl hk)
    obtain ⟨w', z⟩ := I.cell x c hc
    refine wpAny_storeName_cell I.ok.kind hk hc z (fun h' hc' hs => ?_)
    obtain ⟨oc, hoc, hocd⟩ := id z
    refine h { s with heap := h' } ⟨I.ok, I.os, I.bare, ⟨fun b o e n hb hx => ?_, fun b o e n hb hx => ?_, I.base.free, fun b o e hx => ?_, I.base.tups, I.base.frzs, I.base.tbls⟩, ⟨m, hn.sameBut hs (Ne.symm (cne x c hc)), fun j y v' e1 e2 e3 => ?_⟩, fun y c' e => ?_, I.free, I.freeC, fun p hp => ?_, tracked ⟨oc, hoc, I.freeC x c hc⟩ hs, by simpa using I.len⟩ ⟨c, hs, .inr hc⟩
    · exact (hs.2 b (Nat.ne_of_lt (Nat.lt_of_lt_of_le (Heap.lt_size e) (I.ok.cab x c hfn hc)))).trans (I.base.keep b o e n hb hx)
    · obtain ⟨sl, e1⟩ := I.base.slot b o e n hb hx
      exact ⟨sl, (hs.2 b (Nat.ne_of_lt (Nat.lt_of_lt_of_le (Heap.lt_size e) (I.ok.cab x c hfn hc)))).trans e1⟩
    · obtain ⟨o', e1⟩ := I.base.there b o e hx
      exact ⟨o', (hs.2 b (Nat.ne_of_lt (Nat.lt_of_lt_of_le (Heap.lt_size e) (I.ok.cab x c hfn hc)))).trans e1⟩
    · by_cases hj : j = i
      · subst hj
        rw [hi] at e1; cases e1
        rw [List.getElem?_set_self hiσ] at e2
        cases e2
        exact ⟨u, r, .inr ⟨.inl hk, c, hc, hc'⟩⟩
      · rw [List.getElem?_set_ne (Ne.symm hj)] at e2
        obtain ⟨u', r', q⟩ := hl j y v' e1 e2 e3
        refine ⟨u', r', ?_⟩
        rcases q with q | ⟨k, c', e, z'⟩
        · exact .inl q
        · refine .inr ⟨k, c', e, z'.sameBut hs ?_⟩
          rintro rfl
          exact hj (nodup_ix hN e1 (I.ok.inj _ _ _ e hc ▸ hi))
    · by_cases hcc : c' = c
      · subst hcc; exact ⟨_, hc'⟩
      · obtain ⟨w2, z2⟩ := I.cell y c' e
        exact ⟨w2, z2.sameBut hs hcc⟩
    · obtain ⟨e, n, ne, nf, d⟩ := I.pin p hp
      refine ⟨(hs.2 p.1 ?_).trans e, n, ne, nf, d⟩
      intro q
      rw [q, hoc] at e
      have q' : oc = p.2 := Option.some.inj e
      exact d w' (by rw [← q']; exact hocd)
theorem store_ok {M : Model} {A : Around} {E : Value → Shared → Prop} {i : Nat} {x : Str} {v : V} {u : Value} {Q : Unit → Shared → Prop} (I : Inv X pins σ H s) (hN : X.N.Nodup) (hi : X.N[i]? = some x) (hx : Loc X.env.scope x) (r : RelV v u)
    (h : ∀ s', Inv X pins (σ.set i (some v)) H s' → Q () s') (hf : X.fn x = true ∨ X.env.scope.names.lookup x = some .local := by first | exact .inl rfl | exact .inr rfl | assumption) : wpAny M A (storeName X.env x u) Q E s :=
  store_ok2 I hN hi hx r (fun s' I' _ => h s' I') hf
/-- behind a call or a block, the state as it is -/
theorem Inv.call' {s' : Shared} {ch : List Addr} (I : Inv X pins σ H s) (ho : s'.os = s.os) (u : Un (frs X.stack) ch H H' s.heap s'.heap) (hok : HOk X.prog X.w H' s'.heap) (hg : AllBare s'.gens)
    (hch : ∀ b ∈ ch, (b ∈ X.ex ∨ X.s₀.heap.objs.size ≤ b) ∧ b ≠ X.env.locals ∧ (∀ x c, X.env.cells.lookup x = some c → c ≠ b) ∧ ∀ p ∈ X.pn ++ pins, p.1 ≠ b) : Inv X pins σ H' s' := by
  obtain ⟨h', g', d', t', o'⟩ := s'
  have e : o' = s.os := ho
  subst e
  exact I.call (g' := g') (t' := t') (d' := d') u hok hg hch
end

/-! ### the judgements -/
/-- an exception: its class, its own dict's address (where it has one), the abstract heap behind it -/
abbrev XK := Value → Option Addr → Hp → Prop
abbrev St := List (Option V)
abbrev VK := V → Hp → Prop
/-- an expression's reading; a test's; an argument list's -/
abbrev TE := St → Hp → VK → Prop
abbrev TT := St → Hp → (Bool → Hp → Prop) → Prop
abbrev TA := St → Hp → (List V → Hp → Prop) → Prop
/-- what is wanted behind a statement -/
structure Ends where
  nx : St → Hp → Prop
  rt : VK
  bk : St → Hp → Prop := fun _ _ => False
  ct : St → Hp → Prop := fun _ _ => False
abbrev TS := Ends → St → Hp → Prop

def EP (X : Cx) (pins : List (Addr × Obj)) (σ : St) (Q : VK) (u : Value) (s' : Shared) : Prop := ∃ v H', Inv X pins σ H' s' ∧ RelV v u ∧ Q v H'
def TP (X : Cx) (pins : List (Addr × Obj)) (σ : St) (Q : Bool → Hp → Prop) (b : Bool) (s' : Shared) : Prop := ∃ H', Inv X pins σ H' s' ∧ Q b H'
def AP (X : Cx) (pins : List (Addr × Obj)) (σ : St) (Q : List V → Hp → Prop) (us : List Value) (s' : Shared) : Prop := ∃ vs H', Inv X pins σ H' s' ∧ Vals vs us ∧ Q vs H'
def SP (X : Cx) (pins : List (Addr × Obj)) (D : Ends) (f : Flow) (s' : Shared) : Prop :=
  match f with
  | .next => ∃ σ' H', Inv X pins σ' H' s' ∧ D.nx σ' H'
  | .brk => ∃ σ' H', Inv X pins σ' H' s' ∧ D.bk σ' H'
  | .cont => ∃ σ' H', Inv X pins σ' H' s' ∧ D.ct σ' H'
  | .ret u => ∃ v σ' H', Inv X pins σ' H' s' ∧ RelV v u ∧ D.rt v H'

def PE (X : Cx) (e : Expr) (t : TE) : Prop :=
  ∀ (pins : List (Addr × Obj)) (s : Shared) (σ : St) (H : Hp) (Q : VK), Inv X pins σ H s → t σ H Q → wpAny (model X.prog X.w) X.A (eval e X.env) (EP X pins σ Q) X.xe s
def PT (X : Cx) (e : Expr) (t : TT) : Prop :=
  ∀ (pins : List (Addr × Obj)) (s : Shared) (σ : St) (H : Hp) (Q : Bool → Hp → Prop), Inv X pins σ H s → t σ H Q → wpAny (model X.prog X.w) X.A (isTrue e X.env (eval e X.env)) (TP X pins σ Q) X.xe s
/-- a test whatever its 'whole' is (and, or) -/
def PW (X : Cx) (e : Expr) (t : TT) : Prop :=
  ∀ (whole : Sem Value) (pins : List (Addr × Obj)) (s : Shared) (σ : St) (H : Hp) (Q : Bool → Hp → Prop), Inv X pins σ H s → t σ H Q → wpAny (model X.prog X.w) X.A (isTrue e X.env whole) (TP X pins σ Q) X.xe s
theorem PW.pt {X : Cx} {e : Expr} {t : TT} (h : PW X e t) : PT X e t := h _
/-- an argument list (no star), from the left -/
def PA (X : Cx) (es : List Expr) (t : TA) : Prop :=
  ∀ (pos : Pos) (pins : List (Addr × Obj)) (s : Shared) (σ : St) (H : Hp) (Q : List V → Hp → Prop), Inv X pins σ H s → t σ H Q → wpAny (model X.prog X.w) X.A (spliced (backTo pos (starEach es X.env))) (AP X pins σ Q) X.xe s
def PS (X : Cx) (st : Stmt) (t : TS) : Prop :=
  ∀ (pins : List (Addr × Obj)) (s : Shared) (σ : St) (H : Hp) (D : Ends), Inv X pins σ H s → t D σ H → wpAny (model X.prog X.w) X.A (exec st X.env) (SP X pins D) X.xe s
def PSs (X : Cx) (st : List Stmt) (t : TS) : Prop :=
  ∀ (pins : List (Addr × Obj)) (s : Shared) (σ : St) (H : Hp) (D : Ends), Inv X pins σ H s → t D σ H → wpAny (model X.prog X.w) X.A (execs st X.env) (SP X pins D) X.xe s
/-- weaken the end -/
theorem thn {α : Type} {t : Sem α} {Q Q' : α → Shared → Prop} {M : Model} {A : Around} {E : Value → Shared → Prop} {s : Shared} (h : wpAny M A t Q E s) (hQ : ∀ a s, Q a s → Q' a s) : wpAny M A t Q' E s := wpAny_mono h hQ fun _ _ x => x
end L2

namespace L2
open PySem PySem.Spec PyProof.Rows
section
variable {X : Cx}

/-! ### names and constants -/
def tVar (i : Nat) : TE := fun σ H Q => ∃ v, σ[i]? = some (some v) ∧ Q v H
def tC (v : V) : TE := fun _ H Q => Q v H
theorem pe_var {i : Nat} {x : Str} {pos : Pos} (hN : X.N[i]? = some x) (hv : Vis X.env.scope x) (hd : (x == ("__debug__" : Str)) = false := by decide) (hcd : (x == ("__classdict__" : Str)) = false := by decide) : PE X (.Name x pos) (tVar i) := by
  intro pins s σ H Q I h
  obtain ⟨v, e, h⟩ := h
  obtain ⟨m, hn, hl⟩ := I.loc
  obtain ⟨u, r, l⟩ := hl i x v hN e hv
  have fin : EP X pins σ Q u s := ⟨v, H, I, r, h⟩
  rcases l with ⟨hk, hm⟩ | ⟨hk, c, hc, hcell⟩
  · exact wpAny_Name (wpAny_loadName_local I.ok.kind hk hn hm fin) hd
  · rcases hk with hk | hk
    · exact wpAny_Name (wpAny_loadName_cell I.ok.kind hk hc hcell fin) hd
    · exact wpAny_Name (wpAny_loadName_free I.ok.kind hk hc hcell fin hcd) hd
theorem pe_int {i j pos} : PE X (.Constant (.int i) j pos) (tC (.int i)) := fun _ _ _ H _ I h => wpAny_Constant_int ⟨.int i, H, I.tok _, ⟨_, rfl⟩, h⟩
theorem pe_bl {b j pos} : PE X (.Constant (.bool b) j pos) (tC (.bl b)) := fun _ _ _ H _ I h => Constant_bool ⟨.bl b, H, I, rfl, h⟩
theorem pe_non {j pos} : PE X (.Constant .none j pos) (tC .non) := fun _ _ _ H _ I h => Constant_none ⟨.non, H, I, rfl, h⟩
theorem pe_str {x j pos} : PE X (.Constant (.str x) j pos) (tC (.str x)) := fun _ _ _ H _ I h => Calls.Constant_str ⟨.str x, H, I.tok _, ⟨_, rfl⟩, h⟩

/-- a global name of the def -/
def Gl (X : Cx) (x : Str) : Prop := X.env.kindOf x = some .globalImplicit
theorem ld_glob {E : Value → Shared → Prop} {pins : List (Addr × Obj)} {s : Shared} {σ : St} {H : Hp} {x : Str} {u : Value} {pos : Pos} {Q : Value → Shared → Prop} (I : Inv X pins σ H s) (hg : Gl X x) (hm : X.mg x = some u) (h : Q u s)
    (hd : (x == ("__debug__" : Str)) = false := by decide) : wpAny (model X.prog X.w) X.A (eval (.Name x pos) X.env) Q E s :=
  Calls.Name_function_global I.ok.kind hg (Calls.loadGlobal_global (by rw [I.ok.glob]; exact I.mod.glob.keeps I.bk) hm h) hd
theorem ld_blt {E : Value → Shared → Prop} {pins : List (Addr × Obj)} {s : Shared} {σ : St} {H : Hp} {x : Str} {u : Value} {pos : Pos} {Q : Value → Shared → Prop} (I : Inv X pins σ H s) (hg : Gl X x) (hm : X.mg x = none) (hv : bootBuiltins x = some u) (h : Q u s)
    (hn : x ≠ "__name__" := by decide) (hd : (x == ("__debug__" : Str)) = false := by decide) : wpAny (model X.prog X.w) X.A (eval (.Name x pos) X.env) Q E s := by
  obtain ⟨mb, h1, h2⟩ := I.mod.blt
  exact Calls.Name_function_global I.ok.kind hg (Calls.loadGlobal_builtin (by rw [I.ok.glob]; exact I.mod.glob.keeps I.bk) hm (by rw [I.ok.blt]; exact h1.keeps I.bk) ((h2 x hn).trans hv) h) hd
/-- a module's constant, a class, a function, as a value -/
theorem pe_glob {x : Str} {v : V} {u : Value} {pos : Pos} (hg : Gl X x) (hm : X.mg x = some u) (r : RelV v u) (hd : (x == ("__debug__" : Str)) = false := by decide) : PE X (.Name x pos) (tC v) :=
  fun _ _ _ H _ I h => ld_glob I hg hm ⟨v, H, I, r, h⟩ hd
theorem pe_bltn {x : Str} {v : V} {u : Value} {pos : Pos} (hg : Gl X x) (hm : X.mg x = none) (hv : bootBuiltins x = some u) (r : RelV v u) (hn : x ≠ "__name__" := by decide) (hd : (x == ("__debug__" : Str)) = false := by decide) : PE X (.Name x pos) (tC v) :=
  fun _ _ _ H _ I h => ld_blt I hg hm hv ⟨v, H, I, r, h⟩ hn hd

/-! ### arithmetic -/
/-- two ints -/
def t2I (ta tb : TE) (k : Int → Int → Hp → Prop) : St → Hp → Prop := fun σ H => ta σ H fun x H1 => tb σ H1 fun y H2 => ∃ i j, x = .int i ∧ y = .int j ∧ k i j H2
def tAdd (ta tb : TE) : TE := fun σ H Q => t2I ta tb (fun i j H2 => Q (.int (i + j)) H2) σ H
def tSub (ta tb : TE) : TE := fun σ H Q => t2I ta tb (fun i j H2 => Q (.int (i - j)) H2) σ H
/-- the left factor below 2^64 -/
def tMul (ta tb : TE) : TE := fun σ H Q => t2I ta tb (fun i j H2 => (-(2 ^ 64) < i ∧ i < 2 ^ 64) ∧ Q (.int (i * j)) H2) σ H
variable {a b : Expr} {ta tb : TE} {pos : Pos}
/-! ### comparisons -/
def PC (X : Cx) (op : CmpOp) (a b : Expr) (t : TE) : Prop :=
  ∀ (pins : List (Addr × Obj)) (s : Shared) (σ : St) (H : Hp) (Q : VK), Inv X pins σ H s → t σ H Q →
    wpAny (model X.prog X.w) X.A (eval a X.env) (fun v s₁ => wpAny (model X.prog X.w) X.A (eval b X.env) (fun u s₂ => wpAny (model X.prog X.w) X.A (compareOp op v u) (EP X pins σ Q) X.xe s₂) X.xe s₁) X.xe s
def tCmp (p : Int → Int → Bool) (ta tb : TE) : TE := fun σ H Q => t2I ta tb (fun i j H2 => Q (.bl (p i j)) H2) σ H
abbrev tLt : TE → TE → TE := tCmp fun i j => decide (i < j)
abbrev tLe : TE → TE → TE := tCmp fun i j => decide (i ≤ j)
abbrev tGt : TE → TE → TE := tCmp fun i j => decide (j < i)
abbrev tGe : TE → TE → TE := tCmp fun i j => decide (j ≤ i)
abbrev tEqI : TE → TE → TE := tCmp fun i j => decide (i = j)
abbrev tNeI : TE → TE → TE := tCmp fun i j => !decide (i = j)
/-- is None -/
def tIsN (ta : TE) : TE := fun σ H Q => ta σ H fun x H1 => Q (.bl (decide (x = .non))) H1
def tNotN (ta : TE) : TE := fun σ H Q => ta σ H fun x H1 => Q (.bl (!decide (x = .non))) H1
/-- a comparison as a value, as a test -/
def tB (t : TE) : TT := fun σ H Q => t σ H fun x H1 => ∃ c, x = .bl c ∧ Q c H1
/-- an expression whose value is a bool, as a test -/
theorem pt_val {e : Expr} {t : TE} (h : PE X e t) (he : ∀ whole, isTrue e X.env whole = (do let v ← whole; standAt e.pos; holding [v] (truthy v)) := by intro _; rfl) : PT X e (tB t) := by
  intro pins s σ H Q I hw
  refine isTrue_plain (thn (h pins s σ H _ I hw) fun v s1 ⟨x, H1, I1, r1, q1⟩ => ?_) (he _)
  obtain ⟨d, rfl, q⟩ := q1
  cases r1
  exact wpAny_truthy_bool ⟨H1, I1, q⟩

/-! ### and, or, not -/
variable {tA tB' : TT} {rest : List Expr}
def tAnd (t u : TT) : TT := fun σ H Q => t σ H fun c H1 => if c = true then u σ H1 Q else Q false H1
def tOr (t u : TT) : TT := fun σ H Q => t σ H fun c H1 => if c = true then Q true H1 else u σ H1 Q
def tNot (t : TT) : TT := fun σ H Q => t σ H fun c H1 => Q (!c) H1
theorem pw_and1 (ha : PT X a tA) : PW X (.BoolOp .And [a] pos) tA := by
  intro wh pins s σ H Q I h
  refine isTrue_and (thn (ha pins s σ H Q I h) fun c s1 e => ?_)
  cases c with
  | true => exact isTrue_and_nil e
  | false => exact e
theorem pw_or1 (ha : PT X a tA) : PW X (.BoolOp .Or [a] pos) tA := by
  intro wh pins s σ H Q I h
  refine isTrue_or (thn (ha pins s σ H Q I h) fun c s1 e => ?_)
  cases c with
  | false => exact isTrue_or_nil e
  | true => exact e
theorem pw_and (ha : PT X a tA) (hb : PW X (.BoolOp .And (b :: rest) pos) tB') : PW X (.BoolOp .And (a :: b :: rest) pos) (tAnd tA tB') := by
  intro wh pins s σ H Q I h
  refine isTrue_and (thn (ha pins s σ H _ I h) fun c s1 ⟨H1, I1, q1⟩ => ?_)
  cases c with
  | true => exact hb wh pins s1 σ H1 Q I1 q1
  | false => exact ⟨H1, I1, q1⟩
theorem pw_or (ha : PT X a tA) (hb : PW X (.BoolOp .Or (b :: rest) pos) tB') : PW X (.BoolOp .Or (a :: b :: rest) pos) (tOr tA tB') := by
  intro wh pins s σ H Q I h
  refine isTrue_or (thn (ha pins s σ H _ I h) fun c s1 ⟨H1, I1, q1⟩ => ?_)
  cases c with
  | true => exact ⟨H1, I1, q1⟩
  | false => exact hb wh pins s1 σ H1 Q I1 q1
theorem pt_not (ha : PT X a tA) : PT X (.UnaryOp .Not a pos) (tNot tA) := by
  intro pins s σ H Q I h
  exact isTrue_not (ha pins s σ H (fun c H1 => Q (!c) H1) I h)
/-- .. as values (bools) -/
def tAndV (ta tb : TE) : TE := fun σ H Q => ta σ H fun x H1 => ∃ c, x = .bl c ∧ if c = true then tb σ H1 Q else Q (.bl false) H1
def tOrV (ta tb : TE) : TE := fun σ H Q => ta σ H fun x H1 => ∃ c, x = .bl c ∧ if c = true then Q (.bl true) H1 else tb σ H1 Q
def tNotV (ta : TE) : TE := fun σ H Q => ta σ H fun x H1 => ∃ c, x = .bl c ∧ Q (.bl (!c)) H1
theorem pe_one {op} {t : TE} (h : PE X a t) : PE X (.BoolOp op [a] pos) t := fun pins s σ H Q I hw => BoolOp_one (h pins s σ H Q I hw)
theorem pe_and (ha : PE X a ta) (hb : PE X (.BoolOp .And (b :: rest) pos) tb) : PE X (.BoolOp .And (a :: b :: rest) pos) (tAndV ta tb) := by
  intro pins s σ H Q I h
  refine BoolOp_and (thn (ha pins s σ H _ I h) fun v s1 ⟨x, H1, I1, r1, q1⟩ => ?_)
  obtain ⟨c, rfl, q1⟩ := q1
  cases r1
  refine wpAny_truthy_bool ?_
  cases c with
  | true => exact hb pins s1 σ H1 Q I1 q1
  | false => exact ⟨.bl false, H1, I1, rfl, q1⟩
theorem pe_not (ha : PE X a ta) : PE X (.UnaryOp .Not a pos) (tNotV ta) := by
  intro pins s σ H Q I h
  refine UnaryOp_ (thn (ha pins s σ H _ I h) fun v s1 ⟨x, H1, I1, r1, q1⟩ => ?_)
  obtain ⟨c, rfl, q1⟩ := q1
  cases r1
  exact not_of (wpAny_truthy_bool ⟨.bl (!c), H1, I1, rfl, q1⟩)
/-- a if t else b -/
def tIf (t : TT) (ta tb : TE) : TE := fun σ H Q => t σ H fun c H1 => if c = true then ta σ H1 Q else tb σ H1 Q
end
end L2

namespace L2
open PySem PySem.Spec PyProof.Rows

/-! ### a list, a tuple that is read: tracked, frozen, or an object of the module -/
def SqL (K : PySem.W.Frag) (H : Hp) (a : Addr) (xs : List V) : Prop :=
  Rd H a (.lst xs) ∨
    ∃ (o : Obj) (its : Array Value) (n : Nat), K.lookup a = some o ∧ o.cls = .type "list" ∧ o.dict = none ∧ o.data = .seq its n ∧ its.size ≤ sizeLine ∧ Vals xs its.toList
def SqT (K : PySem.W.Frag) (H : Hp) (a : Addr) (xs : List V) : Prop :=
  Rd H a (.tup xs) ∨
    ∃ (o : Obj) (its : Array Value) (n : Nat), K.lookup a = some o ∧ o.cls = .type "tuple" ∧ o.data = .seq its n ∧ its.size ≤ sizeLine ∧ Vals xs its.toList
def absV : Value → Option V
  | .none => some .non
  | .bool b => some (.bl b)
  | .int i _ => some (.int i)
  | .str x _ => some (.str x)
  | .bytes b _ => some (.byt b)
  | .float b _ => some (.flt b)
  | .ref a => some (.ref a)
  | .type n => some (.ty n)
  | _ => none
theorem RelV.abs {x : V} {u : Value} (r : RelV x u) : absV u = some x := by
  cases x with
  | non => cases r; rfl
  | bl _ => cases r; rfl
  | int _ => obtain ⟨t, rfl⟩ := r; rfl
  | str _ => obtain ⟨t, rfl⟩ := r; rfl
  | byt _ => obtain ⟨t, rfl⟩ := r; rfl
  | flt _ => obtain ⟨t, rfl⟩ := r; rfl
  | ref _ => cases r; rfl
  | ty _ => cases r; rfl
theorem RelV.inj {x y : V} {u : Value} (r : RelV x u) (q : RelV y u) : x = y := Option.some.inj (r.abs.symm.trans q.abs)
theorem Vals.inj : ∀ {xs ys : List V} {us : List Value}, Vals xs us → Vals ys us → xs = ys
  | _, _, _, .nil, .nil => rfl
  | _, _, _, .cons r t, .cons r' t' => by rw [r.inj r', Vals.inj t t']
section
variable {X : Cx} {pins : List (Addr × Obj)} {σ : St} {H : Hp} {s : Shared} {a : Addr} {xs ys : List V}
theorem SqL.of {K : PySem.W.Frag} (h : H a = some (.lst xs)) : SqL K H a xs := .inl (.inl h)
theorem SqT.of {K : PySem.W.Frag} (h : H a = some (.tup xs)) : SqT K H a xs := .inl (.inl h)
theorem Inv.list (I : Inv X pins σ H s) (h : SqL X.K H a xs) : ∃ its : List Value, Vals xs its ∧ PlainL s.heap a its.toArray ∧ xs.length ≤ sizeLine := by
  rcases h with h | ⟨o, its, n, hk, hc, hd, hs, hz, r⟩
  · obtain ⟨z, its, n, r, e⟩ := h.ok I.hok
    exact ⟨its, r, ⟨_, n, e, rfl, rfl, rfl⟩, z⟩
  · refine ⟨its.toList, r, ⟨o, n, I.kIn a o hk, hc, hd, by simpa using hs⟩, ?_⟩
    have e := r.length
    simp only [Array.length_toList] at e
    omega
theorem Inv.tuple (I : Inv X pins σ H s) (h : SqT X.K H a xs) : ∃ its : List Value, Vals xs its ∧ IsTup s.heap a its.toArray ∧ xs.length ≤ sizeLine := by
  rcases h with h | ⟨o, its, n, hk, hc, hs, hz, r⟩
  · obtain ⟨z, its, r, p, _⟩ := h.ok I.hok
    exact ⟨its, r, p, z⟩
  · refine ⟨its.toList, r, ⟨o, I.kIn a o hk, hc, n, by simpa using hs⟩, ?_⟩
    have e := r.length
    simp only [Array.length_toList] at e
    omega
theorem Inv.list_inj (I : Inv X pins σ H s) (h : SqL X.K H a xs) (h' : SqL X.K H a ys) : xs = ys := by
  obtain ⟨its, r, ⟨o, n, e, _, _, d⟩, _⟩ := I.list h
  obtain ⟨its', r', ⟨o', n', e', _, _, d'⟩, _⟩ := I.list h'
  rw [e] at e'; cases e'
  rw [d] at d'
  injection d' with d1 _
  have : its = its' := by simpa using congrArg Array.toList d1
  subst this
  exact r.inj r'
theorem Inv.tuple_inj (I : Inv X pins σ H s) (h : SqT X.K H a xs) (h' : SqT X.K H a ys) : xs = ys := by
  obtain ⟨its, r, ⟨o, e, _, n, d⟩, _⟩ := I.tuple h
  obtain ⟨its', r', ⟨o', e', _, n', d'⟩, _⟩ := I.tuple h'
  rw [e] at e'; cases e'
  rw [d] at d'
  injection d' with d1 _
  have : its = its' := by simpa using congrArg Array.toList d1
  subst this
  exact r.inj r'
end

/-! ### another wish about exceptions -/
abbrev Cx.wish (X : Cx) (E : Value → Shared → Prop) : Cx := { X with xe := E }
/-- no exception leaves -/
abbrev Cx.nox (X : Cx) : Cx := X.wish fun _ _ => False
theorem Cx.Ok.wish {X : Cx} (ok : X.Ok) (E : Value → Shared → Prop) : (X.wish E).Ok :=
  ⟨ok.mod, ok.kind, ok.glob, ok.blt, ok.above, ok.inj, ok.has, ok.cab, ok.hd, ok.frames, ok.stk, ok.exf, ok.bs, ok.bsz, ok.noex, ok.exfs, ok.funs, ok.frf⟩
theorem Cx.Ok.unwish {X : Cx} {E : Value → Shared → Prop} (ok : (X.wish E).Ok) : X.Ok :=
  ⟨ok.mod, ok.kind, ok.glob, ok.blt, ok.above, ok.inj, ok.has, ok.cab, ok.hd, ok.frames, ok.stk, ok.exf, ok.bs, ok.bsz, ok.noex, ok.exfs, ok.funs, ok.frf⟩
section
variable {X : Cx} {pins : List (Addr × Obj)} {σ : St} {H : Hp} {s : Shared} {E : Value → Shared → Prop}
theorem Inv.wish (I : Inv X pins σ H s) (E : Value → Shared → Prop) : Inv (X.wish E) pins σ H s := ⟨I.ok.wish E, I.os, I.bare, I.base, I.loc, I.cell, I.free, I.freeC, I.pin, I.hok, I.len⟩
theorem Inv.unwish (I : Inv (X.wish E) pins σ H s) : Inv X pins σ H s := ⟨I.ok.unwish, I.os, I.bare, I.base, I.loc, I.cell, I.free, I.freeC, I.pin, I.hok, I.len⟩
theorem SP.unwish {D : Ends} {f : Flow} {s' : Shared} (h : SP (X.wish E) pins D f s') : SP X pins D f s' := by
  cases f with
  | next => obtain ⟨σ', H', I, q⟩ := h; exact ⟨σ', H', I.unwish, q⟩
  | brk => obtain ⟨σ', H', I, q⟩ := h; exact ⟨σ', H', I.unwish, q⟩
  | cont => obtain ⟨σ', H', I, q⟩ := h; exact ⟨σ', H', I.unwish, q⟩
  | ret u => obtain ⟨v, σ', H', I, r, q⟩ := h; exact ⟨v, σ', H', I.unwish, r, q⟩
theorem PSs.nox {st : List Stmt} {t : TS} (h : PSs X.nox st t) : PSs X st t := fun pins s σ H D I hw =>
  wpAny_mono (h pins s σ H D (I.wish _) hw) (fun _ _ q => q.unwish) fun _ _ z => False.elim z
end

/-! ### blocks and small statements -/
section
variable {X : Cx} {st : Stmt} {rest : List Stmt} {t u : TS} {e : Expr} {te : TE} {pos : Pos}
def tNext : TS := fun D σ H => D.nx σ H
def tSeq (t u : TS) : TS := fun D σ H => t { D with nx := u D } σ H
theorem pss_nil : PSs X [] tNext := fun _ _ σ H _ I h => wpAny_execs_nil ⟨σ, H, I, h⟩
theorem pss_cons (h1 : PS X st t) (h2 : PSs X rest u) : PSs X (st :: rest) (tSeq t u) := by
  intro pins s σ H D I h
  refine wpAny_execs_cons (thn (h1 pins s σ H { D with nx := u D } I h) fun f s1 q => ?_)
  cases f with
  | next =>
    obtain ⟨σ', H', I', q⟩ := q
    exact h2 pins s1 σ' H' D I' q
  | ret v => exact q
  | brk => exact q
  | cont => exact q
theorem pss_one (h1 : PS X st t) : PSs X [st] t := by
  intro pins s σ H D I h
  refine wpAny_execs_cons (thn (h1 pins s σ H D I h) fun f s1 q => ?_)
  cases f with
  | next => exact wpAny_execs_nil q
  | ret v => exact q
  | brk => exact q
  | cont => exact q
def tBreak : TS := fun D σ H => D.bk σ H
def tCont : TS := fun D σ H => D.ct σ H
/-- in a def's body nothing is shown -/
theorem Inv.quiet {pins : List (Addr × Obj)} {σ : St} {H : Hp} {s : Shared} (I : Inv X pins σ H s) : interactive X.env = false := by simp [interactive, I.ok.kind]
/-- an expression whose value is dropped -/
def tDrop (te : TE) : TS := fun D σ H => te σ H fun _ H1 => D.nx σ H1
theorem ps_expr (he : PE X e te) (hs : swapsWith e none pos.line X.env = pure false := by rfl) : PS X (.Expr e pos) (tDrop te) := by
  intro pins s σ H D I h
  exact wpAny_Expr_any (thn (he pins s σ H _ I h) fun v s1 ⟨x, H1, I1, r1, q1⟩ => ⟨σ, H1, I1, q1⟩) I.quiet hs
def tRet (te : TE) : TS := fun D σ H => te σ H D.rt
theorem ps_ret (he : PE X e te) : PS X (.Return (some e) pos) (tRet te) := by
  intro pins s σ H D I h
  exact wpAny_Return_some (thn (he pins s σ H _ I h) fun v s1 ⟨x, H1, I1, r1, q1⟩ => ⟨x, σ, H1, I1, r1, q1⟩)
def tRetN : TS := fun D _ H => D.rt .non H
def tIfS (c : TT) (t u : TS) : TS := fun D σ H => c σ H fun b H1 => if b = true then t D σ H1 else u D σ H1
theorem ps_if {c : Expr} {a b : List Stmt} {tc : TT} (hc : PT X c tc) (ha : PSs X a t) (hb : PSs X b u) : PS X (.If c a b pos) (tIfS tc t u) := by
  intro pins s σ H D I h
  refine wpAny_If (thn (hc pins s σ H _ I h) fun d s1 ⟨H1, I1, q1⟩ => ?_)
  cases d with
  | true => exact ha pins s1 σ H1 D I1 q1
  | false => exact hb pins s1 σ H1 D I1 q1
/-- code that the proof never comes to -/
def tNever : TS := fun _ _ _ => False
end

/-! ### targets -/
abbrev TG := V → St → Hp → (St → Hp → Prop) → Prop
abbrev TGs := List V → St → Hp → (St → Hp → Prop) → Prop
def PG (X : Cx) (target : Expr) (t : TG) : Prop :=
  ∀ (pins : List (Addr × Obj)) (s : Shared) (σ : St) (H : Hp) (v : V) (u : Value) (Q : St → Hp → Prop), Inv X pins σ H s → RelV v u → t v σ H Q →
    wpAny (model X.prog X.w) X.A (assign target X.env u) (fun _ s' => ∃ σ' H', Inv X pins σ' H' s' ∧ Q σ' H') X.xe s
/-- several targets, one after another -/
def PGs (X : Cx) (ts : List Expr) (t : TGs) : Prop :=
  ∀ (pins : List (Addr × Obj)) (s : Shared) (σ : St) (H : Hp) (vs : List V) (us : List Value) (Q : St → Hp → Prop), Inv X pins σ H s → Vals vs us → t vs σ H Q →
    wpAny (model X.prog X.w) X.A (assignInOrder ((assignEach ts X.env).map (·.2)) us) (fun _ s' => ∃ σ' H', Inv X pins σ' H' s' ∧ Q σ' H') X.xe s
/-- o[i] = v, by values -/
abbrev TSet := V → V → V → Hp → (Hp → Prop) → Prop
def PSet (X : Cx) (t : TSet) : Prop :=
  ∀ (pins : List (Addr × Obj)) (s : Shared) (σ : St) (H : Hp) (o i v : V) (ov iv u : Value) (Q : Hp → Prop), Inv X pins σ H s → RelV o ov → RelV i iv → RelV v u → t o i v H Q →
    wpAny (model X.prog X.w) X.A (setItem ov iv u) (fun _ s' => ∃ H', Inv X pins σ H' s' ∧ Q H') X.xe s
/-- a op= b, by values -/
abbrev TIp := V → V → Hp → VK → Prop
def PIp (X : Cx) (op : Operator) (t : TIp) : Prop :=
  ∀ (pins : List (Addr × Obj)) (s : Shared) (σ : St) (H : Hp) (x y : V) (v u : Value) (Q : VK), Inv X pins σ H s → RelV x v → RelV y u → t x y H Q →
    wpAny (model X.prog X.w) X.A (inplaceOp op v u) (EP X pins σ Q) X.xe s
section
variable {X : Cx} {pos : Pos}
def gName (i : Nat) : TG := fun v σ H Q => Q (σ.set i (some v)) H
theorem pg_name {i : Nat} {x : Str} (hN : X.N.Nodup) (hi : X.N[i]? = some x) (hx : Loc X.env.scope x) (hf : X.fn x = true ∨ X.env.scope.names.lookup x = some .local := by first | exact .inl rfl | exact .inr rfl | assumption) : PG X (.Name x pos) (gName i) := by
  intro pins s σ H v u Q I r h
  exact wpAny_assign_Name (store_ok I hN hi hx r (fun s' I' => ⟨_, H, I', h⟩) hf)
def gNil : TGs := fun vs σ H Q => vs = [] ∧ Q σ H
def gCons (t : TG) (u : TGs) : TGs := fun vs σ H Q => ∃ v r, vs = v :: r ∧ t v σ H fun σ' H' => u r σ' H' Q
theorem pgs_nil : PGs X [] gNil := by
  intro pins s σ H vs us Q I r h
  obtain ⟨e, h⟩ := h
  subst e
  cases r
  exact assignInOrder_nil ⟨σ, H, I, h⟩
theorem pgs_cons {e : Expr} {es : List Expr} {t : TG} {u : TGs} (h1 : PG X e t) (h2 : PGs X es u)
    (hs : (assignEach (e :: es) X.env).map (·.2) = assign e X.env :: (assignEach es X.env).map (·.2) := by rfl) : PGs X (e :: es) (gCons t u) := by
  intro pins s σ H vs us Q I r h
  obtain ⟨v, vr, e1, h⟩ := h
  subst e1
  cases r with
  | cons r rr =>
    rw [hs]
    refine assignInOrder_cons (thn (h1 pins s σ H _ _ _ I r h) fun _ s1 ⟨σ1, H1, I1, q1⟩ => ?_)
    exact h2 pins s1 σ1 H1 _ _ Q I1 rr q1
/-- (a, b, ..) = a tuple of that length -/
def gTup (K : PySem.W.Frag) (n : Nat) (t : TGs) : TG := fun v σ H Q => ∃ a xs, v = .ref a ∧ SqT K H a xs ∧ xs.length = n ∧ t xs σ H Q
theorem pg_tup {es : List Expr} {k : Nat} {t : TGs} {n : Nat} (hc : X.calm = true) (h : PGs X es t)
    (hn : (assignEach es X.env).length = n := by rfl) (hst : (assignEach es X.env).findIdx? (·.1) = none := by rfl) : PG X (.Tuple es k pos) (gTup X.K n t) := by
  intro pins s σ H v u Q I r hw
  obtain ⟨a, xs, e1, hq, hl, hw⟩ := hw
  subst e1
  cases r
  obtain ⟨its, rv, ht, hz⟩ := I.tuple hq
  refine assign_Tuple_tuple (I.ok.hd hc) ht (by simp [hn, ← hl, rv.length]) hst fun h' hx => ?_
  have I1 : Inv X pins σ H { s with heap := h' } := I.kept (t' := s.toks) fun b o e => hx b o (Nat.ne_of_lt (Heap.lt_size e)) e
  exact h pins _ σ H xs _ Q I1 (by simpa using rv) hw
/-- o[i] = .. -/
def gSub (to ti : TE) (t : TSet) : TG := fun v σ H Q => to σ H fun o H1 => ti σ H1 fun i H2 => t o i v H2 fun H3 => Q σ H3
theorem pg_sub {o i : Expr} {to ti : TE} {t : TSet} (ho : PE X o to) (hi : PE X i ti) (hs : PSet X t)
    (ha : ∀ v, assign (.Subscript o i pos) X.env v = (do
      let ov ← holding [v] (eval o X.env)
      let iv ← holding [v, ov] (eval i X.env)
      standAt pos
      holding [v, ov, iv] (setItem ov iv v)
      release [v, ov, iv] []) := by intro _; rfl) : PG X (.Subscript o i pos) (gSub to ti t) := by
  intro pins s σ H v u Q I r h
  rw [ha]
  refine wpAny_bind (wpAny_holding (thn (ho pins s σ H _ I h) fun ov s1 ⟨x, H1, I1, r1, q1⟩ => ?_))
  refine wpAny_bind (wpAny_holding (thn (hi pins s1 σ H1 _ I1 q1) fun iv s2 ⟨y, H2, I2, r2, q2⟩ => ?_))
  refine wpAny_bind (wpAny_standAt (wpAny_bind (wpAny_holding (thn (hs pins s2 σ H2 x y v ov iv u _ I2 r1 r2 r q2) fun _ s3 ⟨H3, I3, q3⟩ => ?_))))
  exact wpAny_release ⟨σ, H3, I3, q3⟩
/-- target = value -/
def tAsg (te : TE) (g : TG) : TS := fun D σ H => te σ H fun x H1 => g x σ H1 D.nx
theorem ps_asg {tg e : Expr} {te : TE} {g : TG} (he : PE X e te) (hg : PG X tg g) (hs : swapsWithSole [tg] e pos.line X.env = pure false := by rfl) (hw : swappedStores [tg] e X.env = pure none := by rfl)
    (h1 : (assignEach [tg] X.env).map (·.2) = [assign tg X.env] := by rfl) : PS X (.Assign [tg] e pos) (tAsg te g) := by
  intro pins s σ H D I h
  refine wpAny_Assign_stores (thn (he pins s σ H _ I h) fun v s1 ⟨x, H1, I1, r1, q1⟩ => ?_) hs hw
  rw [h1]
  exact thn (hg pins s1 σ H1 x v _ I1 r1 q1) fun _ s2 q => q
/-- name = value -/
theorem ps_set {i : Nat} {x : Str} {e : Expr} {te : TE} {pos' : Pos} (hN : X.N.Nodup) (hi : X.N[i]? = some x) (hx : Loc X.env.scope x) (he : PE X e te) (hs : swapsWith e (some (.Name x pos')) pos.line X.env = pure false := by rfl) (hf : X.fn x = true ∨ X.env.scope.names.lookup x = some .local := by first | exact .inl rfl | exact .inr rfl | assumption) :
    PS X (.Assign [.Name x pos'] e pos) (tAsg te (gName i)) := by
  intro pins s σ H D I h
  refine wpAny_Assign_Name (thn (he pins s σ H _ I h) fun v s1 ⟨y, H1, I1, r1, q1⟩ => ?_) hs
  exact store_ok I1 hN hi hx r1 (fun s2 I2 => ⟨_, H1, I2, q1⟩) hf
/-- a, b = x, y with plain local names: stored from the right; the pair itself is not tracked (the opening rows as in PyProof/Rows/TupAssign.lean:23) -/
def tPar (i j : Nat) (ta : TA) : TS := fun D σ H => ta σ H fun vs H1 => ∃ v w, vs = [v, w] ∧ D.nx ((σ.set i (some v)).set j (some w)) H1
/-- name op= e -/
def tAug (i : Nat) (te : TE) (ti : TIp) : TS := fun D σ H => ∃ x, σ[i]? = some (some x) ∧ te σ H fun y H1 => ti x y H1 fun z H2 => D.nx (σ.set i (some z)) H2
/-- o[i] op= e -/
def tAugS (to ti te : TE) (tget : V → V → Hp → VK → Prop) (tip : TIp) (tset : TSet) : TS := fun D σ H => to σ H fun o H1 => ti σ H1 fun i H2 => tget o i H2 fun x H3 => te σ H3 fun y H4 => tip x y H4 fun z H5 => tset o i z H5 fun H6 => D.nx σ H6
/-- o[i], by values -/
def PGet (X : Cx) (t : V → V → Hp → VK → Prop) : Prop :=
  ∀ (pins : List (Addr × Obj)) (s : Shared) (σ : St) (H : Hp) (o i : V) (ov iv : Value) (Q : VK), Inv X pins σ H s → RelV o ov → RelV i iv → t o i H Q →
    wpAny (model X.prog X.w) X.A (getItem ov iv) (EP X pins σ Q) X.xe s
/-- ints -/
def ipI (f : Int → Int → Int) : TIp := fun x y H Q => ∃ i j, x = .int i ∧ y = .int j ∧ Q (.int (f i j)) H
end

/-! ### while -/
section
variable {X : Cx} {pos : Pos}
/-- the invariant W with its measure -/
def tWhile (c : TT) (tb : TS) : TS := fun D σ H => ∃ W : Nat → St → Hp → Prop, (∃ m, W m σ H) ∧ ∀ m σ H, W m σ H →
  c σ H fun b H1 => if b = true then ∃ N : St → Hp → Prop, (∀ σ' H', N σ' H' → ∃ m', m' < m ∧ W m' σ' H') ∧ tb { D with nx := N, ct := N, bk := D.nx } σ H1 else D.nx σ H1
end

/-! ### what a loop or a comprehension walks -/
/-- at turn i: it yields x (the heap may grow), or it stops -/
structure It where
  go : Nat → Hp → Prop
  yld : Nat → Hp → V → Hp → Prop
  stop : Nat → Hp → Prop
/-- the iterator's own objects may turn: they are not the frame's, not pinned, younger than the entry (or a comprehension's own) -/
def FpOk (X : Cx) (pins : List (Addr × Obj)) (H : Hp) (b : Addr) : Prop :=
  H b = none ∧ b ≠ X.env.locals ∧ b ∉ X.fs ∧ (b ∈ X.ex ∨ X.s₀.heap.objs.size ≤ b) ∧ (∀ x c, X.env.cells.lookup x = some c → c ≠ b) ∧ ∀ p ∈ X.pn ++ pins, p.1 ≠ b
theorem Inv.fpOk {X : Cx} {pins : List (Addr × Obj)} {σ : St} {H H' : Hp} {s : Shared} {b : Addr} (I : Inv X pins σ H s) (hb : s.heap.objs.size ≤ b) (hn : H' b = none) : FpOk X pins H' b := by
  refine ⟨hn, Nat.ne_of_gt (Nat.lt_of_lt_of_le I.lt hb), I.nofs hb, .inr (Nat.le_trans I.sz hb), fun x c e z => ?_, fun p hp z => ?_⟩
  · obtain ⟨v, q⟩ := I.cell x c e
    exact absurd (Nat.lt_of_lt_of_le q.lt (by rw [z]; exact hb)) (Nat.lt_irrefl _)
  · exact absurd (Nat.lt_of_lt_of_le (Heap.lt_size (I.pin p hp).1) (by rw [z]; exact hb)) (Nat.lt_irrefl _)
structure Turn (P : Program) (w : World) (K : PySem.W.Frag) (tg : Expr) (J : It) (fp : List Addr) (it : Addr) (tn : Nat → Heap → Prop) : Prop where
  mem : it ∈ fp
  obj : ∀ i h, tn i h → ∀ b ∈ fp, ∃ o, h.get? b = some o ∧ ∀ v, o.data ≠ .cell v
  keep : ∀ i h h', tn i h → (∀ b ∈ fp, ∀ o, h.get? b = some o → h'.get? b = some o) → tn i h'
  item : ∀ (X : Cx), X.prog = P → X.w = w → X.K = K → X.calm = true → ∀ (i : Nat) (pins : List (Addr × Obj)) (s : Shared) (σ : St) (H : Hp) (E : Value → Shared → Prop), Inv X pins σ H s → (∀ b ∈ fp, FpOk X pins H b) → tn i s.heap → J.go i H →
    wpAny (model P w) X.A (pyNext (.ref it)) (fun r s1 => ∃ u, r = some u ∧
      wpAny (model P w) X.A (letOwnedTupleGo tg (.ref it) u) (fun _ s2 => ∃ x H', Inv X pins σ H' s2 ∧ RelV x u ∧ J.yld i H x H' ∧ tn (i + 1) s2.heap ∧ ∀ b ∈ fp, H' b = none) E s1) E s
  done : ∀ (X : Cx), X.prog = P → X.w = w → X.K = K → X.calm = true → ∀ (i : Nat) (pins : List (Addr × Obj)) (s : Shared) (σ : St) (H : Hp) (E : Value → Shared → Prop), Inv X pins σ H s → (∀ b ∈ fp, FpOk X pins H b) → tn i s.heap → J.stop i H →
    wpAny (model P w) X.A (pyNext (.ref it)) (fun r s1 => r = none ∧ Inv X pins σ H s1) E s
  self : ∀ (A : Around) (i : Nat) (s : Shared) (Q : Value → Shared → Prop) (E : Value → Shared → Prop), tn i s.heap → Q (.ref it) s → wpAny (model P w) A (pyIter (.ref it)) Q E s
abbrev TI := St → Hp → (It → Hp → Prop) → Prop
/-- an iterator has come -/
def PIE (X : Cx) (pins : List (Addr × Obj)) (σ : St) (tg : Expr) (R : It → Hp → Prop) (itv : Value) (s2 : Shared) : Prop :=
  ∃ (it : Addr) (fp : List Addr) (tn : Nat → Heap → Prop) (J : It) (H' : Hp), itv = .ref it ∧ Inv X pins σ H' s2 ∧ Turn X.prog X.w X.K tg J fp it tn ∧ tn 0 s2.heap ∧ (∀ b ∈ fp, FpOk X pins H' b) ∧ R J H'
def PI (X : Cx) (tg iter : Expr) (wi : TI) : Prop :=
  ∀ (pins : List (Addr × Obj)) (s : Shared) (σ : St) (H : Hp) (R : It → Hp → Prop), Inv X pins σ H s → wi σ H R →
    wpAny (model X.prog X.w) X.A (eval iter X.env) (fun v s1 => wpAny (model X.prog X.w) X.A (pyIter v) (PIE X pins σ tg R) X.xe s1) X.xe s

/-- the step ahead of the store is nothing for an iterator that keeps no tuple -/
theorem go_of {M : Model} {A : Around} {E : Value → Shared → Prop} {s : Shared} {tg : Expr} {it : Addr} {u : Value} {o : Obj} {n : String} {vs : Array Value} {Q : Unit → Shared → Prop} (ho : s.heap.get? it = some o) (hc : o.cls = .type n) (hd : o.data = .fields vs)
    (hn : ["enumerate", "zip", "dict_itemiterator", "dict_reverseitemiterator", "odict_iterator", "itertools.zip_longest", "itertools.pairwise"].contains n = false) (hQ : Q () s) : wpAny M A (letOwnedTupleGo tg (.ref it) u) Q E s := by
  unfold letOwnedTupleGo
  cases tg <;> first
    | exact wpAny_pure hQ
    | (cases u <;> first
        | exact wpAny_pure hQ
        | (refine wpAny_bind (wpAny_load ho ?_)
           rw [hc, hd]
           show wpAny M A (if (["enumerate", "zip", "dict_itemiterator", "dict_reverseitemiterator", "odict_iterator", "itertools.zip_longest", "itertools.pairwise"].contains n && vs[0]? == some (rawInt _)) = true then _ else _) Q E s
           rw [if_neg (by intro h; rw [hn, Bool.false_and] at h; cases h)]
           exact wpAny_pure hQ))

/-- the list at a, as it stands at each turn (a loop may append to it) -/
def Itl (K : PySem.W.Frag) (a : Addr) : It :=
  ⟨fun i H => ∃ xs x, SqL K H a xs ∧ xs[i]? = some x, fun i H x H' => H' = H ∧ ∀ xs, SqL K H a xs → xs[i]? = some x, fun i H => ∃ xs, SqL K H a xs ∧ xs.length ≤ i⟩
def Itt (K : PySem.W.Frag) (a : Addr) : It :=
  ⟨fun i H => ∃ xs x, SqT K H a xs ∧ xs[i]? = some x, fun i H x H' => H' = H ∧ ∀ xs, SqT K H a xs → xs[i]? = some x, fun i H => ∃ xs, SqT K H a xs ∧ xs.length ≤ i⟩
/-- lo, lo + 1, .. (n of them) -/
def Itr (lo : Int) (n : Nat) : It := ⟨fun i _ => i < n, fun i H x H' => H' = H ∧ x = .int (lo + i), fun i _ => n ≤ i⟩
theorem turn_list {P : Program} {w : World} {K : PySem.W.Frag} {tg : Expr} (a it : Addr) : Turn P w K tg (Itl K a) [it] it (fun i h => h.IsListIter it a i) where
  mem := by simp
  obj := fun i h st b hb => by
    have e : b = it := by simpa using hb
    subst e
    obtain ⟨o, e, c, d⟩ := st
    exact ⟨o, e, fun v z => by rw [d] at z; cases z⟩
  keep := fun i h h' st k => st.at fun o e => k it (by simp) o e
  item := by
    intro X hP hw hK hc i pins s σ H E I hf st hg
    subst hP hw hK
    obtain ⟨xs, x, hq, hx⟩ := hg
    obtain ⟨its, rv, p, hz⟩ := I.list hq
    obtain ⟨u, hu, ru⟩ := rv.get hx
    obtain ⟨f0, f1, f2, f3, f4, f5⟩ := hf it (by simp)
    refine wpAny_pyNext_list_item st p.isList (x := u) (by simpa using hu) fun h' st' sb => ?_
    have I1 : Inv X pins σ H { s with heap := h' } := I.turned (t' := s.toks) (fun b o hb e => (sb.2 b hb).trans e) f0 f1 f3 f4 f5
    obtain ⟨o, e, c, d⟩ := id st'
    exact ⟨u, rfl, go_of (s := { s with heap := h' }) e c d (by decide) ⟨x, H, I1, ru, ⟨rfl, fun ys hy => by rw [I.list_inj hy hq]; exact hx⟩, st', fun b hb => (hf b hb).1⟩⟩
  done := by
    intro X hP hw hK hc i pins s σ H E I hf st hg
    subst hP hw hK
    obtain ⟨xs, hq, hx⟩ := hg
    obtain ⟨its, rv, p, hz⟩ := I.list hq
    obtain ⟨f0, f1, f2, f3, f4, f5⟩ := hf it (by simp)
    have hl := rv.length
    exact wpAny_pyNext_list_end (I.ok.hd hc) st p.isList (by simp; omega) fun h' eb => ⟨rfl, I.turned (t' := s.toks) (fun b o hb e => eb b o hb e) f0 f1 f3 f4 f5⟩
  self := fun _ _ _ _ _ st h => wpAny_pyIter_listiter st h
theorem turn_range {P : Program} {w : World} {K : PySem.W.Frag} {tg : Expr} (it : Addr) (lo : Int) (n : Nat) : Turn P w K tg (Itr lo n) [it] it (fun i h => IsRangeIter h it (lo + (i : Nat) * 1) ((n : Int) - (i : Nat)) 1) where
  mem := by simp
  obj := fun i h st b hb => by
    have e : b = it := by simpa using hb
    subst e
    exact ⟨_, st, fun v z => by
      have z' : Data.fields _ = Data.cell v := z
      cases z'⟩
  keep := fun i h h' st k => k it (by simp) _ st
  item := by
    intro X hP hw hK hc i pins s σ H E I hf st hg
    subst hP hw hK
    obtain ⟨f0, f1, f2, f3, f4, f5⟩ := hf it (by simp)
    have W := Walks.range (prog := X.prog) (w := X.w) (I.ok.hd hc) it lo 1 n
    refine W.item i s _ _ hg st fun v h' tk hv st' kk => ?_
    obtain ⟨t, rfl⟩ := hv
    have I1 : Inv X pins σ H { s with heap := h', toks := tk } := I.turned (fun b o hb e => kk b o (by simpa using hb) e) f0 f1 f3 f4 f5
    refine ⟨_, rfl, go_of (s := { s with heap := h', toks := tk }) (n := "range_iterator") st' rfl rfl (by decide) ⟨.int (lo + i), H, I1, ⟨t, ?_⟩, ⟨rfl, rfl⟩, st', fun b hb => (hf b hb).1⟩⟩
    rw [Int.mul_one]
  done := by
    intro X hP hw hK hc i pins s σ H E I hf st hg
    subst hP hw hK
    obtain ⟨f0, f1, f2, f3, f4, f5⟩ := hf it (by simp)
    exact wpAny_pyNext_range_end (I.ok.hd hc) st (by have : n ≤ i := hg; omega) fun h' eb => ⟨rfl, I.turned (t' := s.toks) (fun b o hb e => eb b o hb e) f0 f1 f3 f4 f5⟩
  self := fun _ _ _ _ _ st h => wpAny_pyIter_rangeiter st h
end L2

namespace L2
open PySem PySem.Spec PyProof.Rows
section
variable {X : Cx} {tg : Expr}
def iList (K : PySem.W.Frag) (tl : TE) : TI := fun σ H R => tl σ H fun x H1 => ∃ a, x = .ref a ∧ (∃ xs, SqL K H1 a xs) ∧ R (Itl K a) H1
def iTup (K : PySem.W.Frag) (tl : TE) : TI := fun σ H R => tl σ H fun x H1 => ∃ a, x = .ref a ∧ (∃ xs, SqT K H1 a xs) ∧ R (Itt K a) H1
theorem pi_list {l : Expr} {tl : TE} (hl : PE X l tl) : PI X tg l (iList X.K tl) := by
  intro pins s σ H R I h
  refine thn (hl pins s σ H _ I h) fun v s1 ⟨x, H1, I1, r1, q1⟩ => ?_
  obtain ⟨a, e, ⟨xs, hq⟩, q⟩ := q1
  subst e
  cases r1
  obtain ⟨its, rv, p, hz⟩ := I1.list hq
  refine wpAny_pyIter_list p.isList ?_
  refine ⟨s1.heap.objs.size, [s1.heap.objs.size], _, _, H1, rfl, I1.kept (t' := s1.toks) fun b o e => Heap.get?_push_of_some _ e, turn_list a _, ⟨_, Heap.get?_push_size _ rfl, rfl, rfl⟩, fun b hb => ?_, q⟩
  have e : b = s1.heap.objs.size := by simpa using hb
  subst e
  exact I1.fpOk (Nat.le_refl _) (I1.hok.fresh (Nat.le_refl _))
/-- a range object just made, walked -/
theorem range_it {pins : List (Addr × Obj)} {σ : St} {H : Hp} {s : Shared} {R : It → Hp → Prop} {E : Value → Shared → Prop} {lo hi : Int} {t u v : Tok} {tk : Nat} (I : Inv X pins σ H s) (h1 : -(2 ^ 62) ≤ lo) (h2 : lo < 2 ^ 62) (h3 : -(2 ^ 62) ≤ hi) (h4 : hi < 2 ^ 62)
    (q : R (Itr lo (hi - lo).toNat) H) : wpAny (model X.prog X.w) X.A (pyIter (.ref s.heap.objs.size)) (PIE X pins σ tg R) E { s with heap := s.heap.push { cls := .type "range", data := .fields #[.int lo t, .int hi u, .int 1 v] }, toks := tk } := by
  refine wpAny_pyIter_range (IsRange.new ..) (small_one h1 h2 h3 h4) ?_
  have I1 : Inv X pins σ H { s with heap := s.heap.push { cls := .type "range", data := .fields #[.int lo t, .int hi u, .int 1 v] }, toks := tk } := I.kept fun b o e => Heap.get?_push_of_some _ e
  refine ⟨(s.heap.push { cls := .type "range", data := .fields #[.int lo t, .int hi u, .int 1 v] }).objs.size, [(s.heap.push { cls := .type "range", data := .fields #[.int lo t, .int hi u, .int 1 v] }).objs.size], _, _, H, rfl,
    I1.kept (t' := tk) fun b o e => Heap.get?_push_of_some _ e, turn_range _ lo (hi - lo).toNat, ?_, fun b hb => ?_, q⟩
  · have e1 : lo + ((0 : Nat) : Int) * 1 = lo := by simp
    have e2 : (((hi - lo).toNat : Nat) : Int) - ((0 : Nat) : Int) = Builtin.Range.rangeSize lo hi 1 := by rw [rangeSize_one]; split <;> omega
    show IsRangeIter _ _ (lo + ((0 : Nat) : Int) * 1) ((((hi - lo).toNat : Nat) : Int) - ((0 : Nat) : Int)) 1
    rw [e1, e2]
    exact Heap.get?_push_size _ rfl
  · have e : b = (s.heap.push { cls := .type "range", data := .fields #[.int lo t, .int hi u, .int 1 v] }).objs.size := by simpa using hb
    subst e
    exact I1.fpOk (Nat.le_refl _) (I1.hok.fresh (Nat.le_refl _))
def iRng1 (ta : TA) : TI := fun σ H R => ta σ H fun vs H1 => ∃ j : Int, vs = [.int j] ∧ -(2 ^ 62) ≤ j ∧ j < 2 ^ 62 ∧ R (Itr 0 j.toNat) H1
def iRng2 (ta : TA) : TI := fun σ H R => ta σ H fun vs H1 => ∃ i j : Int, vs = [.int i, .int j] ∧ (-(2 ^ 62) ≤ i ∧ i < 2 ^ 62 ∧ -(2 ^ 62) ≤ j ∧ j < 2 ^ 62) ∧ R (Itr i (j - i).toNat) H1
theorem pi_range1 {a : Expr} {ta : TA} {p pos : Pos} (hg : Gl X "range") (hm : X.mg "range" = none) (ha : PA X [a] ta) (hs : starEach [a] X.env = [(false, eval a X.env)] := by rfl) : PI X tg (.Call (.Name "range" p) [a] [] pos) (iRng1 ta) := by
  intro pins s σ H R I h
  refine Call_ (ld_blt I hg hm boot_range (PyProof.Rows.callWith_type1 (thn (ha pos pins s σ H _ I h) fun us s1 ⟨vs, H1, I1, r1, q1⟩ => ?_) hs rfl))
  obtain ⟨j, e, q1, q2, q⟩ := q1
  subst e
  cases r1 with
  | cons r rr =>
    cases rr
    obtain ⟨t, rfl⟩ := r
    exact call_range_1 (range_it I1 (by omega) (by omega) q1 q2 (by simpa using q))
/-! ### for -/
/-- W: the invariant by the turn and a measure; N: what the body is to reach -/
def tFor (wi : TI) (g : TG) (tb : TS) : TS := fun D σ H => wi σ H fun J H1 => ∃ W : Nat → Nat → St → Hp → Prop, (∃ m, W 0 m σ H1) ∧ ∀ i m σ H, W i m σ H →
  (J.stop i H ∧ D.nx σ H) ∨ (J.go i H ∧ ∃ N : St → Hp → Prop, (∀ σ' H', N σ' H' → ∃ m', m' < m ∧ W (i + 1) m' σ' H') ∧ ∀ x H', J.yld i H x H' → g x σ H' fun σ2 H2 => tb { D with nx := N, ct := N, bk := D.nx } σ2 H2)
/-- the records at fp as they stand -/
def pinsAt (fp : List Addr) (h : Heap) : List (Addr × Obj) := fp.filterMap fun b => (h.get? b).map fun o => (b, o)
theorem mem_pinsAt {fp : List Addr} {h : Heap} {b : Addr} {o : Obj} (hb : b ∈ fp) (e : h.get? b = some o) : (b, o) ∈ pinsAt fp h := List.mem_filterMap.mpr ⟨b, hb, by rw [e]; rfl⟩
theorem of_pinsAt {fp : List Addr} {h : Heap} {p : Addr × Obj} (hp : p ∈ pinsAt fp h) : p.1 ∈ fp ∧ h.get? p.1 = some p.2 := by
  obtain ⟨b, hb, e⟩ := List.mem_filterMap.mp hp
  cases q : h.get? b with
  | none => rw [q] at e; cases e
  | some o =>
    rw [q] at e
    have e' : (b, o) = p := Option.some.inj e
    subst e'
    exact ⟨hb, q⟩
theorem Inv.pinned {pins : List (Addr × Obj)} {σ : St} {H : Hp} {s : Shared} {fp : List Addr} (I : Inv X pins σ H s) (hf : ∀ b ∈ fp, FpOk X pins H b) (ho : ∀ b ∈ fp, ∃ o, s.heap.get? b = some o ∧ ∀ v, o.data ≠ .cell v) : Inv X (pins ++ pinsAt fp s.heap) σ H s :=
  I.pins_of fun p hp => (List.mem_append.mp hp).elim (fun z => I.pin p (List.mem_append_right _ z)) fun z => by
    obtain ⟨hb, e⟩ := of_pinsAt z
    obtain ⟨f0, f1, f2, _⟩ := hf p.1 hb
    obtain ⟨o, e', d⟩ := ho p.1 hb
    rw [e] at e'; cases e'
    exact ⟨e, f0, f1, f2, d⟩
theorem Inv.unpinned {pins pl : List (Addr × Obj)} {σ : St} {H : Hp} {s : Shared} (I : Inv X (pins ++ pl) σ H s) : Inv X pins σ H s := I.pins_of fun p hp => I.pin p (List.mem_append_right _ (List.mem_append_left _ hp))
theorem ps_for {iter : Expr} {body : List Stmt} {wi : TI} {g : TG} {tb : TS} {pos : Pos} (hp : PassesOwn (model X.prog X.w) X.A X.env X.xe) (hc : X.calm = true) (hi : PI X tg iter wi) (hg : PG X tg g) (hb : PSs X body tb)
    (hs : ∀ x, foldedSetIterable iter X.env x = pure x := by intro _; rfl) : PS X (.For tg iter body [] pos) (tFor wi g tb) := by
  intro pins s σ H D I h
  refine wpAny_For (thn (hi pins s σ H _ I h) fun v s1 h1 => thn h1 fun itv s2 h2 => ?_) hs
  obtain ⟨it, fp, tn, J, H2, e, I2, T, st2, f2, W, ⟨m0, w0⟩, turn⟩ := h2
  subst e
  -- what stays true of the iterator's objects through the loop
  have stat : ∀ {H' : Hp}, (∀ b ∈ fp, H' b = none) → ∀ b ∈ fp, FpOk X pins H' b := fun hn b hb => ⟨hn b hb, (f2 b hb).2⟩
  refine codeAny_forLoop_any (fun n s' => ∃ i σ' H', Inv X pins σ' H' s' ∧ tn i s'.heap ∧ (∀ b ∈ fp, H' b = none) ∧ W i n σ' H') ?_ m0 ⟨0, σ, H2, I2, st2, fun b hb => (f2 b hb).1, w0⟩
  rintro n s3 ⟨i, σ3, H3, I3, st3, fr3, w3⟩
  rcases turn i n σ3 H3 w3 with ⟨stop, qn⟩ | ⟨go, N, hN, step⟩
  · refine wpAny_passesOwn hp (thn (T.done X rfl rfl rfl hc i pins s3 σ3 H3 X.xe I3 (stat fr3) st3 stop) fun r s4 ⟨hr, I4⟩ => ?_)
    subst hr
    exact wpAny_execs_nil ⟨σ3, H3, I4, qn⟩
  · refine wpAny_passesOwn hp (thn (T.item X rfl rfl rfl hc i pins s3 σ3 H3 X.xe I3 (stat fr3) st3 go) fun r s4 ⟨u, hr, h4⟩ => ?_)
    subst hr
    refine wpAny_passesOwn hp (thn h4 fun _ s5 ⟨x, H5, I5, r5, y5, st5, fr5⟩ => ?_)
    have I5' := I5.pinned (stat fr5) (T.obj _ _ st5)
    refine wpAny_passesOwn hp (thn (hg _ s5 σ3 H5 x u _ I5' r5 (step x H5 y5)) fun _ s6 ⟨σ6, H6, I6, q6⟩ => ?_)
    refine wpAny_passesOwn hp (thn (hb _ s6 σ6 H6 _ I6 q6) fun f s7 q7 => ?_)
    have again : ∀ {σ7 : St} {H7 : Hp}, Inv X (pins ++ pinsAt fp s5.heap) σ7 H7 s7 → N σ7 H7 → ∃ m, m < n ∧ ∃ i σ' H', Inv X pins σ' H' s7 ∧ tn i s7.heap ∧ (∀ b ∈ fp, H' b = none) ∧ W i m σ' H' := fun {σ7 H7} I7 n7 => by
      obtain ⟨m', hm, w7⟩ := hN σ7 H7 n7
      refine ⟨m', hm, i + 1, σ7, H7, I7.unpinned, T.keep _ _ _ st5 fun b hb o e => (I7.pin (b, o) (List.mem_append_right _ (List.mem_append_right _ (mem_pinsAt hb e)))).1, fun b hb => ?_, w7⟩
      obtain ⟨o, e, d⟩ := T.obj _ _ st5 b hb
      exact (I7.pin (b, o) (List.mem_append_right _ (List.mem_append_right _ (mem_pinsAt hb e)))).2.1
    cases f with
    | next => obtain ⟨σ7, H7, I7, n7⟩ := q7; exact again I7 n7
    | cont => obtain ⟨σ7, H7, I7, n7⟩ := q7; exact again I7 n7
    | brk => obtain ⟨σ7, H7, I7, q7⟩ := q7; exact ⟨σ7, H7, I7.unpinned, q7⟩
    | ret v => obtain ⟨x7, σ7, H7, I7, r7, q7⟩ := q7; exact ⟨x7, σ7, H7, I7.unpinned, r7, q7⟩
end

/-! ### the forms one uses -/
theorem for_range {lo : Int} {n : Nat} {g : TG} {tb : TS} {D : Ends} {σ : St} {H : Hp} (Pv : Nat → St → Hp → Prop) (h0 : Pv 0 σ H)
    (hs : ∀ i σ H, i < n → Pv i σ H → g (.int (lo + i)) σ H fun σ2 H2 => tb { D with nx := Pv (i + 1), ct := Pv (i + 1), bk := D.nx } σ2 H2) (hd : ∀ σ H, Pv n σ H → D.nx σ H) :
    ∃ W : Nat → Nat → St → Hp → Prop, (∃ m, W 0 m σ H) ∧ ∀ i m σ H, W i m σ H →
      ((Itr lo n).stop i H ∧ D.nx σ H) ∨ ((Itr lo n).go i H ∧ ∃ N : St → Hp → Prop, (∀ σ' H', N σ' H' → ∃ m', m' < m ∧ W (i + 1) m' σ' H') ∧ ∀ x H', (Itr lo n).yld i H x H' → g x σ H' fun σ2 H2 => tb { D with nx := N, ct := N, bk := D.nx } σ2 H2) := by
  refine ⟨fun i m σ H => m = n - i ∧ i ≤ n ∧ Pv i σ H, ⟨n, by simp, Nat.zero_le _, h0⟩, ?_⟩
  rintro i m σ H ⟨rfl, hi, p⟩
  by_cases hlt : i < n
  · refine .inr ⟨hlt, Pv (i + 1), fun σ' H' p' => ⟨n - (i + 1), by omega, rfl, hlt, p'⟩, fun x H' y => ?_⟩
    obtain ⟨e, y⟩ := y
    subst e y
    exact hs i σ _ hlt p
  · have e : i = n := by omega
    subst e
    exact .inl ⟨Nat.le_refl _, hd σ H p⟩
end L2

namespace L2
open PySem PySem.Spec PyProof.Rows

abbrev R2 := V → V → Hp → VK → Prop
/-- a two-place operation on values: f is binaryOp op, inplaceOp op or compareOp op -/
def OpR (X : Cx) (f : Value → Value → Sem Value) (r : R2) : Prop :=
  ∀ (pins : List (Addr × Obj)) (s : Shared) (σ : St) (H : Hp) (x y : V) (v u : Value) (Q : VK), Inv X pins σ H s → RelV x v → RelV y u → r x y H Q →
    wpAny (model X.prog X.w) X.A (f v u) (EP X pins σ Q) X.xe s
/-- a one-place operation -/
def UnR (X : Cx) (f : Value → Sem Value) (r : V → Hp → VK → Prop) : Prop :=
  ∀ (pins : List (Addr × Obj)) (s : Shared) (σ : St) (H : Hp) (x : V) (v : Value) (Q : VK), Inv X pins σ H s → RelV x v → r x H Q →
    wpAny (model X.prog X.w) X.A (f v) (EP X pins σ Q) X.xe s
/-- a call of a value that is known (a builtin, a type) with values -/
def CallR (X : Cx) (f : Value) (r : List V → Hp → VK → Prop) : Prop :=
  ∀ (pins : List (Addr × Obj)) (s : Shared) (σ : St) (H : Hp) (xs : List V) (us : List Value) (Q : VK), Inv X pins σ H s → Vals xs us → r xs H Q →
    wpAny (model X.prog X.w) X.A (call f us) (EP X pins σ Q) X.xe s
/-- a value's truth -/
def TruR (X : Cx) (r : V → Hp → (Bool → Hp → Prop) → Prop) : Prop :=
  ∀ (pins : List (Addr × Obj)) (s : Shared) (σ : St) (H : Hp) (x : V) (v : Value) (Q : Bool → Hp → Prop), Inv X pins σ H s → RelV x v → r x H Q →
    wpAny (model X.prog X.w) X.A (truthy v) (TP X pins σ Q) X.xe s

def tOp (r : R2) (ta tb : TE) : TE := fun σ H Q => ta σ H fun x H1 => tb σ H1 fun y H2 => r x y H2 Q
def tUn (r : V → Hp → VK → Prop) (ta : TE) : TE := fun σ H Q => ta σ H fun x H1 => r x H1 Q
/-- ints in, under C, and a value out -/
def rI (C : Int → Int → Prop) (g : Int → Int → V) : R2 := fun x y H Q => ∃ i j, x = .int i ∧ y = .int j ∧ C i j ∧ Q (g i j) H
def rI0 (g : Int → Int → V) : R2 := fun x y H Q => ∃ i j, x = .int i ∧ y = .int j ∧ Q (g i j) H
def rU (g : Int → V) : V → Hp → VK → Prop := fun x H Q => ∃ i, x = .int i ∧ Q (g i) H

section
variable {X : Cx} {a b c : Expr} {ta tb tc : TE} {pos : Pos}

theorem binT (ha : PE X a ta) (hb : PE X b tb) {pins : List (Addr × Obj)} {s : Shared} {σ : St} {H : Hp} {R : V → V → Hp → Prop} (I : Inv X pins σ H s)
    (h : ta σ H fun x H1 => tb σ H1 fun y H2 => R x y H2) {Q : Value → Shared → Prop} {f : Value → Value → Sem Value}
    (hf : ∀ v u s2 x y H2, Inv X pins σ H2 s2 → RelV x v → RelV y u → R x y H2 → wpAny (model X.prog X.w) X.A (f v u) Q X.xe s2) :
    wpAny (model X.prog X.w) X.A (eval a X.env) (fun v s₁ => wpAny (model X.prog X.w) X.A (eval b X.env) (fun u s₂ => wpAny (model X.prog X.w) X.A (f v u) Q X.xe s₂) X.xe s₁) X.xe s := by
  refine thn (ha pins s σ H _ I h) fun v s1 ⟨x, H1, I1, r1, q1⟩ => ?_
  refine thn (hb pins s1 σ H1 _ I1 q1) fun u s2 ⟨y, H2, I2, r2, q2⟩ => ?_
  exact hf v u s2 x y H2 I2 r1 r2 q2

theorem pe_op {op : Operator} {r : R2} (ho : OpR X (binaryOp op) r) (ha : PE X a ta) (hb : PE X b tb) : PE X (.BinOp a op b pos) (tOp r ta tb) := by
  intro pins s σ H Q I h
  exact wpAny_BinOp (binT ha hb I h fun v u s2 x y H2 I2 rx ry q => ho pins s2 σ H2 x y v u Q I2 rx ry q)
theorem pe_un {op : UnaryOp} {r : V → Hp → VK → Prop} (ho : UnR X (unaryOp op) r) (ha : PE X a ta) : PE X (.UnaryOp op a pos) (tUn r ta) := by
  intro pins s σ H Q I h
  exact UnaryOp_ (thn (ha pins s σ H _ I h) fun v s1 ⟨x, H1, I1, r1, q1⟩ => ho pins s1 σ H1 x v Q I1 r1 q1)
/-! ### ints -/
theorem opI {f : Value → Value → Sem Value} {C : Int → Int → Prop} {g : Int → Int → Int}
    (rule : ∀ (i j : Int) (t u : Tok) (s : Shared) (Q : Value → Shared → Prop) (E : Value → Shared → Prop), C i j → Q (.int (g i j) s.toks) { s with toks := s.toks + 1 } → wpAny (model X.prog X.w) X.A (f (.int i t) (.int j u)) Q E s) :
    OpR X f (rI C fun i j => .int (g i j)) := by
  intro pins s σ H x y v u Q I rx ry h
  obtain ⟨i, j, rfl, rfl, hc, q⟩ := h
  obtain ⟨t, rfl⟩ := rx
  obtain ⟨t', rfl⟩ := ry
  exact rule i j t t' s _ _ hc ⟨.int (g i j), H, I.tok _, ⟨_, rfl⟩, q⟩
theorem opI0 {f : Value → Value → Sem Value} {g : Int → Int → Int}
    (rule : ∀ (i j : Int) (t u : Tok) (s : Shared) (Q : Value → Shared → Prop) (E : Value → Shared → Prop), Q (.int (g i j) s.toks) { s with toks := s.toks + 1 } → wpAny (model X.prog X.w) X.A (f (.int i t) (.int j u)) Q E s) :
    OpR X f (rI0 fun i j => .int (g i j)) := by
  intro pins s σ H x y v u Q I rx ry h
  obtain ⟨i, j, rfl, rfl, q⟩ := h
  obtain ⟨t, rfl⟩ := rx
  obtain ⟨t', rfl⟩ := ry
  exact rule i j t t' s _ _ ⟨.int (g i j), H, I.tok _, ⟨_, rfl⟩, q⟩
theorem opB0 {f : Value → Value → Sem Value} {g : Int → Int → Bool}
    (rule : ∀ (i j : Int) (t u : Tok) (s : Shared) (Q : Value → Shared → Prop) (E : Value → Shared → Prop), Q (.bool (g i j)) s → wpAny (model X.prog X.w) X.A (f (.int i t) (.int j u)) Q E s) :
    OpR X f (rI0 fun i j => .bl (g i j)) := by
  intro pins s σ H x y v u Q I rx ry h
  obtain ⟨i, j, rfl, rfl, q⟩ := h
  obtain ⟨t, rfl⟩ := rx
  obtain ⟨t', rfl⟩ := ry
  exact rule i j t t' s _ _ ⟨.bl (g i j), H, I, rfl, q⟩

def CDiv (i j : Int) : Prop := 0 < j ∧ j < 1073741824
def CDivN (i j : Int) : Prop := j ≠ 0 ∧ j.natAbs < 1073741824
def CPow (i j : Int) : Prop := 0 ≤ j ∧ j ≤ 1000000 ∧ i.natAbs < 2 ^ 64
def CMul (i j : Int) : Prop := (-(2 ^ 64) < i ∧ i < 2 ^ 64) ∨ (-(2 ^ 64) < j ∧ j < 2 ^ 64)
theorem CMul.ok {i j : Int} (h : CMul i j) : IntMulOk i j := by
  rcases h with ⟨h1, h2⟩ | ⟨h1, h2⟩
  · exact .of_left (intBits_le_64 h1 h2)
  · exact .of_right (intBits_le_64 h1 h2)
theorem op_add : OpR X (binaryOp .Add) (rI0 fun i j => .int (i + j)) := opI0 fun _ _ _ _ _ _ _ q => add_int q
theorem op_sub : OpR X (binaryOp .Sub) (rI0 fun i j => .int (i - j)) := opI0 fun _ _ _ _ _ _ _ q => sub_int q
theorem op_mul : OpR X (binaryOp .Mult) (rI CMul fun i j => .int (i * j)) := opI fun _ _ _ _ _ _ _ hc q => mul_int q hc.ok
/-- // by a positive divisor -/
theorem op_fdiv : OpR X (binaryOp .FloorDiv) (rI CDiv fun i j => .int (i / j)) := opI fun i j _ _ _ _ _ hc q => by
  have h1 : (0 : Int) < j := hc.1
  have h2 : j < 1073741824 := hc.2
  exact floordiv_int (by omega) (by rw [Int.fdiv_eq_ediv_of_nonneg i (by omega)]; exact q) (.inl (PyProof.noPylong_small (by omega)))
/-- % by a positive divisor of any size -/
theorem op_mod : OpR X (binaryOp .Mod) (rI (fun _ j => 0 < j) fun i j => .int (i % j)) := opI fun i j _ _ _ _ _ hc q => by
  have h1 : (0 : Int) < j := hc
  exact mod_int' (by omega) (by rw [Int.fmod_eq_emod_of_nonneg i (by omega)]; exact q)
theorem op_pow : OpR X (binaryOp .Pow) (rI CPow fun i j => .int (i ^ j.toNat)) := opI fun _ _ _ _ _ _ _ hc q => pow_int_small hc.1 hc.2.1 hc.2.2 q
theorem unI {f : Value → Sem Value} {g : Int → Int}
    (rule : ∀ (i : Int) (t : Tok) (s : Shared) (Q : Value → Shared → Prop) (E : Value → Shared → Prop), Q (.int (g i) s.toks) { s with toks := s.toks + 1 } → wpAny (model X.prog X.w) X.A (f (.int i t)) Q E s) :
    UnR X f (rU fun i => .int (g i)) := by
  intro pins s σ H x v Q I rx h
  obtain ⟨i, rfl, q⟩ := h
  obtain ⟨t, rfl⟩ := rx
  exact rule i t s _ _ ⟨.int (g i), H, I.tok _, ⟨_, rfl⟩, q⟩
theorem un_neg : UnR X (unaryOp .USub) (rU fun i => .int (-i)) := unI fun _ _ _ _ _ q => neg_int q
/-! ### bools among ints: n += (a < b) -/
end

/-! ### comparisons -/
/-- the scalars that == tells apart as data does -/
def scal : V → V → Bool
  | .non, .non => true | .non, .int _ => true | .int _, .non => true | .non, .bl _ => true | .bl _, .non => true | .non, .str _ => true | .str _, .non => true
  | .int _, .int _ => true | .bl _, .bl _ => true | .str _, .str _ => true | .byt _, .byt _ => true
  | .int _, .str _ => true | .str _, .int _ => true | .bl _, .str _ => true | .str _, .bl _ => true
  | _, _ => false
def rEq : R2 := fun x y H Q => scal x y = true ∧ Q (.bl (decide (x = y))) H
def rNe : R2 := fun x y H Q => scal x y = true ∧ Q (.bl (!decide (x = y))) H

theorem dec_int {i j : Int} : decide (V.int i = V.int j) = (i == j) := by
  rw [Bool.eq_iff_iff]
  simp
theorem dec_bl {i j : Bool} : decide (V.bl i = V.bl j) = (i == j) := by
  rw [Bool.eq_iff_iff]
  simp
theorem dec_str {i j : Str} : decide (V.str i = V.str j) = (i == j) := by
  rw [Bool.eq_iff_iff]
  simp
theorem dec_byt {i j : Array UInt8} : decide (V.byt i = V.byt j) = (i.toList == j.toList) := by
  rw [Bool.eq_iff_iff]
  cases i
  cases j
  simp

section
variable {X : Cx} {a b c : Expr} {ta tb tc : TE} {pos : Pos}
theorem fin_bl {pins : List (Addr × Obj)} {σ : St} {H : Hp} {s : Shared} {Q : VK} {k k' : Bool} (I : Inv X pins σ H s) (q : Q (.bl k) H) (e : k = k') : EP X pins σ Q (.bool k') s := by
  subst e
  exact ⟨.bl k, H, I, rfl, q⟩
theorem op_eq : OpR X (compareOp .Eq) rEq := by
  intro pins s σ H x y v u Q I rx ry h
  obtain ⟨hs, q⟩ := h
  cases x with
  | non =>
    cases rx
    cases y with
    | non => cases ry; exact PySem.EqNone.eq_none_none (fin_bl I q (by simp))
    | bl j => cases ry; exact PySem.EqNone.eq_none_bool (fin_bl I q (by simp))
    | int j => obtain ⟨t', rfl⟩ := ry; exact PySem.EqNone.eq_none_int (fin_bl I q (by simp))
    | str j => obtain ⟨t', rfl⟩ := ry; exact PySem.EqNone.eq_none_str (fin_bl I q (by simp))
    | _ => exact absurd (show false = true from hs) Bool.false_ne_true
  | bl i =>
    cases rx
    cases y with
    | non => cases ry; exact PySem.EqNone.eq_bool_none (fin_bl I q (by simp))
    | bl j => cases ry; exact eq_bool (fin_bl I q dec_bl)
    | str j => obtain ⟨t', rfl⟩ := ry; exact PySem.EqMixed.eq_bool_str (fin_bl I q (by simp))
    | _ => exact absurd (show false = true from hs) Bool.false_ne_true
  | int i =>
    obtain ⟨t, rfl⟩ := rx
    cases y with
    | non => cases ry; exact PySem.EqNone.eq_int_none (fin_bl I q (by simp))
    | int j => obtain ⟨t', rfl⟩ := ry; exact eq_int (fin_bl I q dec_int)
    | str j => obtain ⟨t', rfl⟩ := ry; exact PySem.EqMixed.eq_int_str (fin_bl I q (by simp))
    | _ => exact absurd (show false = true from hs) Bool.false_ne_true
  | str i =>
    obtain ⟨t, rfl⟩ := rx
    cases y with
    | non => cases ry; exact PySem.EqNone.eq_str_none (fin_bl I q (by simp))
    | bl j => cases ry; exact PySem.EqMixed.eq_str_bool (fin_bl I q (by simp))
    | int j => obtain ⟨t', rfl⟩ := ry; exact PySem.EqMixed.eq_str_int (fin_bl I q (by simp))
    | str j => obtain ⟨t', rfl⟩ := ry; exact eq_str (fin_bl I q dec_str)
    | _ => exact absurd (show false = true from hs) Bool.false_ne_true
  | byt i =>
    obtain ⟨t, rfl⟩ := rx
    cases y with
    | byt j => obtain ⟨t', rfl⟩ := ry; exact PySem.W.eq_bytes (fin_bl I q dec_byt)
    | _ => exact absurd (show false = true from hs) Bool.false_ne_true
  | _ => cases y <;> exact absurd (show false = true from hs) Bool.false_ne_true
theorem op_lt : OpR X (compareOp .Lt) (rI0 fun i j => .bl (decide (i < j))) := opB0 fun _ _ _ _ _ _ _ q => lt_int q
theorem op_le : OpR X (compareOp .LtE) (rI0 fun i j => .bl (decide (i ≤ j))) := opB0 fun _ _ _ _ _ _ _ q => le_int q
theorem op_gt : OpR X (compareOp .Gt) (rI0 fun i j => .bl (decide (j < i))) := opB0 fun _ _ _ _ _ _ _ q => gt_int q
theorem op_ge : OpR X (compareOp .GtE) (rI0 fun i j => .bl (decide (j ≤ i))) := opB0 fun _ _ _ _ _ _ _ q => ge_int q
/-- is None, is not None: the right side a value none -/
theorem op_isN : OpR X (compareOp .Is) (fun x y H Q => y = .non ∧ Q (.bl (decide (x = .non))) H) := by
  intro pins s σ H x y v u Q I rx ry h
  obtain ⟨rfl, q⟩ := h
  cases ry
  refine is_none_gen (fin_bl I q ?_)
  cases x <;> first
    | (cases rx; rfl)
    | (obtain ⟨t, rfl⟩ := rx; rfl)
/-- is, is not of two objects that are tracked lists or instances -/
def isObj : HO → Bool
  | .lst _ => true
  | .ins _ _ _ => true
  | _ => false
theorem nomark (b : Expr) {op : CmpOp} (h : op ≠ .In := by decide) (h2 : op ≠ .NotIn := by decide) : behindInMarks op b = false := by
  have e1 : (op == CmpOp.In) = false := by cases op <;> first | rfl | exact absurd rfl h
  have e2 : (op == CmpOp.NotIn) = false := by cases op <;> first | rfl | exact absurd rfl h2
  cases b <;> simp [behindInMarks, e1, e2]
/-- a comparison as a value; hm: nomark b, or (for in, not in) by with_unfolding_all rfl -/
theorem pe_cmpR {op : CmpOp} {r : R2} (ho : OpR X (compareOp op) r) (ha : PE X a ta) (hb : PE X b tb) (hm : behindInMarks op b = false) : PE X (.Compare a [op] [b] pos) (tOp r ta tb) := by
  intro pins s σ H Q I h
  exact wpAny_Compare1 (binT ha hb I h fun v u s2 x y H2 I2 rx ry q => ho pins s2 σ H2 x y v u Q I2 rx ry q) hm
/-- a reading of a value as a test -/
def tTest (t : TE) : TT := fun σ H Q => t σ H fun x H' => ∃ k, x = .bl k ∧ Q k H'
theorem pt_cmpR {op : CmpOp} {r : R2} (ho : OpR X (compareOp op) r) (ha : PE X a ta) (hb : PE X b tb) (hm : behindInMarks op b = false) : PT X (.Compare a [op] [b] pos) (tTest (tOp r ta tb)) := by
  intro pins s σ H Q I h
  refine wpAny_isTrue_Compare1 (thn (ha pins s σ H _ I h) fun v s1 ⟨x, H1, I1, r1, q1⟩ => thn (hb pins s1 σ H1 _ I1 q1) fun u s2 ⟨y, H2, I2, r2, q2⟩ =>
    thn (ho pins s2 σ H2 x y v u _ I2 r1 r2 q2) fun c s3 ⟨z, H3, I3, r3, k, e, q3⟩ => ?_) hm
  subst e
  cases r3
  exact wpAny_truthy_bool ⟨H3, I3, q3⟩
/-- a op1 b op2 c -/
def tChain (r r' : R2) (ta tb tc : TE) : TE := fun σ H Q => ta σ H fun x H1 => tb σ H1 fun y H2 => r x y H2 fun z H3 => ∃ k, z = .bl k ∧
  (if k = true then tc σ H3 fun w' H4 => r' y w' H4 Q else Q (.bl false) H3)
theorem pt_chain {op op' : CmpOp} {r r' : R2} (ho : OpR X (compareOp op) r) (ho' : OpR X (compareOp op') r') (ha : PE X a ta) (hb : PE X b tb) (hc : PE X c tc)
    (hm : lastMarks [op, op'] [b, c] = false := by with_unfolding_all rfl) : PT X (.Compare a [op, op'] [b, c] pos) (tTest (tChain r r' ta tb tc)) := by
  intro pins s σ H Q I h
  refine isTrue_chain (thn (ha pins s σ H _ I h) fun v s1 ⟨x, H1, I1, r1, q1⟩ => test_link (thn (hb pins s1 σ H1 _ I1 q1) fun u s2 ⟨y, H2, I2, r2, q2⟩ =>
    thn (ho pins s2 σ H2 x y v u _ I2 r1 r2 q2) fun d s3 ⟨z, H3, I3, r3, k, e, q3⟩ => ?_)) hm
  subst e
  cases r3
  refine wpAny_truthy_bool ?_
  cases k with
  | false =>
    obtain ⟨k', e', q'⟩ := q3
    cases e'
    exact ite_ff ⟨H3, I3, q'⟩
  | true =>
    refine ite_tt (test_last (thn (hc pins s3 σ H3 _ I3 q3) fun w' s4 ⟨z', H4, I4, r4, q4⟩ => thn (ho' pins s4 σ H4 y z' u w' _ I4 r2 r4 q4) fun d' s5 ⟨z2, H5, I5, r5, k2, e2, q5⟩ => ?_))
    subst e2
    cases r5
    exact wpAny_truthy_bool ⟨H5, I5, q5⟩

/-! ### truth -/
/-- a value's truth by the abstract heap -/
def TruV (K : PySem.W.Frag) (x : V) (H : Hp) (k : Bool) : Prop :=
  match x with
  | .non => k = false
  | .bl b => k = b
  | .int i => k = (i != 0)
  | .str y => y.length ≤ sizeLine ∧ k = ((y.length : Int) != 0)
  | .byt y => y.size ≤ sizeLine ∧ k = ((y.size : Int) != 0)
  | .ref p => (∃ xs, SqL K H p xs ∧ k = !xs.isEmpty) ∨ (∃ xs, SqT K H p xs ∧ k = !xs.isEmpty) ∨ ∃ kvs, H p = some (.dK kvs) ∧ k = !kvs.isEmpty
  | _ => False
theorem line63 : (sizeLine : Nat) < 2 ^ 63 := by rw [sizeLine_eq]; decide
/-! ### strs and bytes -/
theorem op_add_str : OpR X (binaryOp .Add) (fun x y H Q => ∃ i j, x = .str i ∧ y = .str j ∧ i.length + j.length ≤ sizeLine ∧ Q (.str (i ++ j)) H) := by
  intro pins s σ H x y v u Q I rx ry h
  obtain ⟨i, j, rfl, rfl, hz, q⟩ := h
  obtain ⟨t, rfl⟩ := rx
  obtain ⟨t', rfl⟩ := ry
  exact add_str (fun t' tk => ⟨.str (i ++ j), H, I.tok _, ⟨_, rfl⟩, q⟩) hz
def PlainIxT (b : Expr) : Prop := ∀ o i, subscripted b false o i = operate [o, i] (getItem o i)
/-! ### scalar builtins, by CallR -/
theorem vals1 {x : V} {us : List Value} (r : Vals [x] us) : ∃ u, us = [u] ∧ RelV x u := by
  cases r with
  | cons r1 r2 => cases r2; exact ⟨_, rfl, r1⟩
theorem vals2 {x y : V} {us : List Value} (r : Vals [x, y] us) : ∃ u w', us = [u, w'] ∧ RelV x u ∧ RelV y w' := by
  cases r with
  | cons r1 r2 =>
    cases r2 with
    | cons r3 r4 => cases r4; exact ⟨_, _, rfl, r1, r3⟩
theorem call_int1 : CallR X (.type "int") (fun xs H Q => (∃ i, xs = [.int i] ∧ Q (.int i) H) ∨ ∃ k, xs = [.bl k] ∧ Q (.int (if k then 1 else 0)) H) := by
  intro pins s σ H xs us Q I r h
  rcases h with ⟨i, rfl, q⟩ | ⟨k, rfl, q⟩
  · obtain ⟨u, rfl, t, rfl⟩ := vals1 r
    exact call_int_int ⟨.int i, H, I, ⟨_, rfl⟩, q⟩
  · obtain ⟨u, rfl, r1⟩ := vals1 r
    cases r1
    exact call_int_bool ⟨.int (if k then 1 else 0), H, I.tok _, ⟨_, rfl⟩, q⟩
/-- len of a str, a bytes, a list, a tuple -/
def LenV (K : PySem.W.Frag) (x : V) (H : Hp) (n : Nat) : Prop :=
  match x with
  | .str y => y.length ≤ sizeLine ∧ n = y.length
  | .byt y => y.size ≤ sizeLine ∧ n = y.size
  | .ref p => (∃ xs, SqL K H p xs ∧ n = xs.length) ∨ ∃ xs, SqT K H p xs ∧ n = xs.length
  | _ => False
end
end L2

namespace L2
open PySem PySem.Spec PyProof.Rows

/-! ### an instance, its attributes a map -/
structure ObjM (h : Heap) (x dx C : Addr) (mA : Str → Option Value) : Prop where
  obj : h.get? x = some (PySem.W.instObj C dx)
  ns : h.Ns1 dx mA
  ne : dx ≠ x

theorem lookIn_ns {h : Heap} {dx : Addr} {mA : Str → Option Value} (n : h.Ns1 dx mA) : ∃ od, h.get? dx = some od ∧ ∀ name, PySem.W.lookIn name od = some (mA name) := by
  obtain ⟨o, es, ep, ho, hd, hk, _, hm⟩ := n
  refine ⟨o, ho, fun name => ?_⟩
  have e := hm name
  unfold nsFind findBy at e
  rw [← Array.find?_toList] at e
  unfold PySem.W.lookIn
  rw [hd]
  dsimp only
  split
  · rename_i y q
    rw [q] at e
    exact congrArg some e
  · rename_i q
    rw [q] at e
    have a : es.toList.any (·.refKey) = false := by
      rw [List.any_eq_false]
      intro y hy
      obtain ⟨z, t, hkey⟩ := hk y (Array.mem_toList_iff.mp hy)
      simp [DictEntry.refKey, hkey]
    have a' : ¬ es.toList.any (·.refKey) = true := by rw [a]; exact Bool.false_ne_true
    rw [if_neg a']
    exact congrArg some e

theorem ObjM.look {h : Heap} {x dx C : Addr} {mA : Str → Option Value} (I : ObjM h x dx C mA) : ∃ od, PySem.W.InstAt h x (PySem.W.instObj C dx) C (some od) ∧ ∀ name, PySem.W.lookIn name od = some (mA name) :=
  let ⟨od, ho, hl⟩ := lookIn_ns I.ns
  ⟨od, ⟨I.obj, rfl, rfl, ho⟩, hl⟩

section
variable {prog : Program} {w : World} {A : Around} {E : Value → Shared → Prop} {s : Shared} {K : PySem.W.Frag} {x dx C f : Addr} {mA : Str → Option Value} {name : Str} {v : Value}

end

/-! ### the attributes as a list of pairs -/
def putF (f : Str) (v : V) : List (Str × V) → List (Str × V)
  | [] => [(f, v)]
  | (g, x) :: r => if g = f then (g, v) :: r else (g, x) :: putF f v r
theorem RelO.some_of {v : V} {o : Option Value} (r : RelO (some v) o) : ∃ u, o = some u ∧ RelV v u := by
  cases o with
  | none => exact (show False from r).elim
  | some u => exact ⟨u, rfl, r⟩
theorem handed_of {v : V} {u : Value} (r : RelV v u) : PySem.W.handedIn u = true := by
  cases v with
  | non => cases (show u = Value.none from r); rfl
  | bl b => cases (show u = Value.bool b from r); rfl
  | int i => obtain ⟨t, e⟩ := (show ∃ t, u = Value.int i t from r); cases e; rfl
  | str x => obtain ⟨t, e⟩ := (show ∃ t, u = Value.str x t from r); cases e; rfl
  | byt b => obtain ⟨t, e⟩ := (show ∃ t, u = Value.bytes b t from r); cases e; rfl
  | flt b => obtain ⟨t, e⟩ := (show ∃ t, u = Value.float b t from r); cases e; rfl
  | ref a => cases (show u = Value.ref a from r); rfl
  | ty n => cases (show u = Value.type n from r); rfl

section
variable {P : Program} {w : World} {H H' : Hp} {h h' : Heap} {a C dx : Addr} {fs fs' : List (Str × V)}
theorem ins_get (hok : HOk P w H h) (e : H a = some (.ins C dx fs)) : ∃ mA, ObjM h a dx C mA ∧ (∀ f, RelO (fs.lookup f) (mA f)) ∧ PySem.Within mA (fs.map (·.1)) ∧ fs.length ≤ 1000 ∧ H dx = some (.own a) := by
  obtain ⟨d, z, ne, ob, mA, n, r, q⟩ := (show ObjOk P w H h a (.ins C dx fs) from hok a _ e)
  exact ⟨mA, ⟨ob, n, ne⟩, r, q, z, d⟩
end

/-! ### what of the text a class must have -/
structure Cls (K : PySem.W.Frag) (C : Addr) : Prop where
  pg : PySem.W.plainGet K C Str.empty = true
  hd : PySem.W.hasDictIn K C = true
  po : PySem.W.plainOver K C = true
  sa : PySem.W.findIn K (.ref C) "__setattr__" = some (some (.builtin "object.__setattr__"))
theorem Cls.get {K : PySem.W.Frag} {C : Addr} (c : Cls K C) (f : Str) : PySem.W.plainGet K C f = true := c.pg
/-- no class of it has the name -/
def NoAttr (K : PySem.W.Frag) (C : Addr) (f : Str) : Prop := PySem.W.findIn K (.ref C) f = some none
/-- a constant of the class -/
structure Con (K : PySem.W.Frag) (C : Addr) (f : Str) (v : V) (u : Value) : Prop where
  at_ : PySem.W.findIn K (.ref C) f = some (some u)
  rel : RelV v u
  get : PySem.W.specialIn K u "__get__" = some none
  cp : PySem.W.copiedNames.contains f = false
/-- a method: a plain def of the class or of one above it -/
structure Meth (K : PySem.W.Frag) (C : Addr) (m : Str) (f : Addr) : Prop where
  at_ : PySem.W.findIn K (.ref C) m = some (some (.ref f))
  fn : PySem.W.isFn K (.ref f) = true
  kp : PySem.W.keepIn K (.ref f) = true

section
variable {X : Cx} {pins : List (Addr × Obj)} {σ : St} {H : Hp} {s : Shared} {a C dx : Addr} {fs : List (Str × V)} {f : Str} {v : V} {A : Around} {E : Value → Shared → Prop}

/-- e.f where nothing but the object is asked: through attributeBase (super) and the last hold -/
theorem attr_of {prog : Program} {w : World} {env : Env} {e : Expr} {f : Str} {pos : Pos} {s : Shared} {Q : Value → Shared → Prop} (hb : attributeBase e f env (eval e env) = eval e env)
    (h : wpAny (model prog w) A (eval e env) (fun o s₁ => wpAny (model prog w) A (getAttr o f true) Q E s₁) E s) : wpAny (model prog w) A (eval (.Attribute e f pos) env) Q E s :=
  Attribute_any_ h (by rw [arm_eval_Attribute, hb])
end

/-! ### readings and rules -/
/-- e.f, an attribute of the instance -/
def tFld (K : PySem.W.Frag) (ta : TE) (f : Str) : TE := fun σ H Q => ta σ H fun x H1 => ∃ a C dx fs v, x = .ref a ∧ H1 a = some (.ins C dx fs) ∧ Cls K C ∧ NoAttr K C f ∧ fs.lookup f = some v ∧ Q v H1
/-- e.f, a constant of the class -/
def tCon (K : PySem.W.Frag) (ta : TE) (f : Str) : TE := fun σ H Q => ta σ H fun x H1 => ∃ a C dx fs v u, x = .ref a ∧ H1 a = some (.ins C dx fs) ∧ Cls K C ∧ Con K C f v u ∧ fs.lookup f = none ∧ Q v H1
/-- e.f = value -/
def sFld (K : PySem.W.Frag) (ta tv : TE) (f : Str) : TS := fun D σ H => tv σ H fun y H1 => ta σ H1 fun x H2 => ∃ a C dx fs, x = .ref a ∧ H2 a = some (.ins C dx fs) ∧ Cls K C ∧ NoAttr K C f ∧ fs.length < 1000 ∧
  D.nx σ (upd H2 a (.ins C dx (putF f y fs)))
/-- an augmented operator on two values -/
def InOp (X : Cx) (op : Operator) (rd : V → V → Hp → VK → Prop) : Prop :=
  ∀ (pins : List (Addr × Obj)) (s : Shared) (σ : St) (H : Hp) (x y : V) (u v : Value) (Q : VK), Inv X pins σ H s → RelV x u → RelV y v → rd x y H Q → wpAny (model X.prog X.w) X.A (inplaceOp op u v) (EP X pins σ Q) X.xe s
/-- e.f op= value -/
def sFldAug (K : PySem.W.Frag) (ta tv : TE) (rd : V → V → Hp → VK → Prop) (f : Str) : TS := fun D σ H => ta σ H fun x H1 => ∃ a C dx fs v, x = .ref a ∧ H1 a = some (.ins C dx fs) ∧ Cls K C ∧ NoAttr K C f ∧ fs.lookup f = some v ∧
  tv σ H1 fun y H2 => rd v y H2 fun z H3 => ∃ dx' fs', H3 a = some (.ins C dx' fs') ∧ fs'.length < 1000 ∧ D.nx σ (upd H3 a (.ins C dx' (putF f z fs')))

section
variable {X : Cx} {o e value : Expr} {f : Str} {pos pos' tpos : Pos} {ta tv : TE}
def rAdd : V → V → Hp → VK → Prop := fun x y H Q => ∃ i j, x = .int i ∧ y = .int j ∧ Q (.int (i + j)) H
def rSub : V → V → Hp → VK → Prop := fun x y H Q => ∃ i j, x = .int i ∧ y = .int j ∧ Q (.int (i - j)) H
end

/-! ### isinstance -/
section
variable {X : Cx} {pins : List (Addr × Obj)} {σ : St} {H : Hp} {s : Shared} {A : Around} {E : Value → Shared → Prop} {Q : Value → Shared → Prop} {c : Value} {b : Bool}
/-- the type of a value, as the fragment's deciders take it; for an instance its class -/
inductive TyOf (K : PySem.W.Frag) (H : Hp) : V → Value → Prop where
  | non : TyOf K H .non (.type "NoneType")
  | bl (x : Bool) : TyOf K H (.bl x) (.type "bool")
  | int (i : Int) : TyOf K H (.int i) (.type "int")
  | str (x : Str) : TyOf K H (.str x) (.type "str")
  | flt (x : UInt64) : TyOf K H (.flt x) (.type "float")
  | lst {a : Addr} {xs : List V} (e : H a = some (.lst xs)) : TyOf K H (.ref a) (.type "list")
  | frz {a : Addr} {o : Obj} {xs : List V} (e : H a = some (.frz o (.lst xs))) : TyOf K H (.ref a) (.type "list")
  | tup {a : Addr} {xs : List V} (e : H a = some (.tup xs)) : TyOf K H (.ref a) (.type "tuple")
  | dK {a : Addr} {kvs : List (Key × V)} (e : H a = some (.dK kvs)) : TyOf K H (.ref a) (.type "dict")
  | dT {a : Addr} {kvs : List (List Key × V)} (e : H a = some (.dT kvs)) : TyOf K H (.ref a) (.type "dict")
  | ins {a C dx : Addr} {fs : List (Str × V)} (e : H a = some (.ins C dx fs)) (cl : Cls K C) (ha : PySem.W.findIn K (.ref C) "__class__" = some (some (.builtin "object.__class__")))
      (hn : PySem.W.specialIn K (.builtin "object.__class__") "__get__" = some (some (.builtin "getset_descriptor.__get__"))) (htk : PySem.W.takesIn K (.builtin "object.__class__") = some true)
      (hm : PySem.W.mroIn K C (.type "object") = some true) : TyOf K H (.ref a) (.ref C)
/-- isinstance(x, c) for one class c, a built-in or an own one: kitOne's answer -/
theorem isinst_ok {x : V} {u t : Value} (I : Inv X pins σ H s) (rx : RelV x u) (ty : TyOf X.K H x t) (e : PySem.W.kitOne X.K t c = some b) (h : ∀ tk, Q (.bool b) { s with toks := tk }) :
    wpAny (model X.prog X.w) A (call (.builtin "isinstance") [u, c]) Q E s := by
  cases ty with
  | non => cases (show u = Value.none from rx); exact PySem.W.kia_one PySem.W.kitx_none I.kIn True.intro e (fun z => nomatch z) h
  | bl y => cases (show u = Value.bool y from rx); exact PySem.W.kia_one PySem.W.kitx_bool I.kIn True.intro e (fun z => nomatch z) h
  | int i => obtain ⟨t, q⟩ := (show ∃ t, u = Value.int i t from rx); cases q; exact PySem.W.kia_one PySem.W.kitx_int I.kIn True.intro e (fun z => nomatch z) h
  | str y => obtain ⟨t, q⟩ := (show ∃ t, u = Value.str y t from rx); cases q; exact PySem.W.kia_one PySem.W.kitx_str I.kIn True.intro e (fun z => nomatch z) h
  | flt y => obtain ⟨t, q⟩ := (show ∃ t, u = Value.float y t from rx); cases q; exact PySem.W.kia_one PySem.W.kitx_float I.kIn True.intro e (fun z => nomatch z) h
  | @lst a xs ea =>
    cases (show u = Value.ref a from rx)
    obtain ⟨_, _, n, _, h1⟩ := (show ObjOk X.prog X.w H s.heap a (.lst xs) from I.hok a _ ea)
    exact PySem.W.kia_one PySem.W.kitx_list I.kIn ⟨_, h1, rfl⟩ e (fun z => nomatch z) h
  | @frz a ob xs ea =>
    cases (show u = Value.ref a from rx)
    obtain ⟨_, _, _, n, _, h1⟩ := (show ObjOk X.prog X.w H s.heap a (.frz ob (.lst xs)) from I.hok a _ ea)
    exact PySem.W.kia_one PySem.W.kitx_list I.kIn ⟨_, h1, rfl⟩ e (fun z => nomatch z) h
  | @tup a xs ea =>
    cases (show u = Value.ref a from rx)
    obtain ⟨_, _, _, p, _⟩ := (show ObjOk X.prog X.w H s.heap a (.tup xs) from I.hok a _ ea)
    obtain ⟨o, h1, h2, _⟩ := p
    exact PySem.W.kia_one PySem.W.kitx_tuple I.kIn ⟨o, h1, h2⟩ e (fun z => nomatch z) h
  | @dK a kvs ea =>
    cases (show u = Value.ref a from rx)
    obtain ⟨_, _, vs, _, p⟩ := (show ObjOk X.prog X.w H s.heap a (.dK kvs) from I.hok a _ ea)
    obtain ⟨o, es, ep, h1, h2, _⟩ := p
    exact PySem.W.kia_one PySem.W.kitx_dict I.kIn ⟨o, h1, h2.1⟩ e (fun z => nomatch z) h
  | @dT a kvs ea =>
    cases (show u = Value.ref a from rx)
    obtain ⟨_, _, xs, _, o, es, ep, h1, h2, _⟩ := (show ObjOk X.prog X.w H s.heap a (.dT kvs) from I.hok a _ ea)
    exact PySem.W.kia_one PySem.W.kitx_dict I.kIn ⟨o, h1, h2.1⟩ e (fun z => nomatch z) h
  | @ins a C dx fs ea cl ha hn htk hm =>
    cases (show u = Value.ref a from rx)
    obtain ⟨mA, O, _⟩ := ins_get I.hok ea
    obtain ⟨od, J, _⟩ := O.look
    exact PySem.W.kia_one (PySem.W.kitx_own (cl.get _) cl.hd ha hn htk hm) I.kIn J e (fun z => nomatch z) h
end
end L2

namespace L2
open PySem PySem.Spec PyProof.Rows

/-! ### room -/
structure Room (k : Nat) (A : Around) : Prop where
  hd : A.handled = none
  dp : A.depth + 3 * k + 5 < recursionLimit
  un : A.units + 16 * k + 200 < cLine
theorem Room.mono {j k : Nat} {A : Around} (r : Room k A) (h : j ≤ k) : Room j A := ⟨r.hd, by have := r.dp; omega, by have := r.un; omega⟩
theorem Room.deeper {k : Nat} {A : Around} (r : Room (k + 1) A) (env : Env) : Room k (A.deeper env) :=
  ⟨r.hd, by have := r.dp; show A.depth + 1 + 3 * k + 5 < _; omega, by have := r.un; show A.units + 3 + 16 * k + 200 < _; omega⟩
theorem make_depth {A : Around} {C : Addr} {us : List Value} {kw : List (Str × Value)} : (A.under (.builtin "type.__call__" ⟨.ref C :: us, kw⟩)).depth = A.depth + 1 := by
  first | rfl | simp [Around.under, Code.weight, Code.isCreation, Code.isGuard, Code.isCaller, Code.frames, Code.isFrame, guardIds]
theorem make_units {A : Around} {C : Addr} {us : List Value} {kw : List (Str × Value)} : (A.under (.builtin "type.__call__" ⟨.ref C :: us, kw⟩)).units = A.units + 1 := by
  first | rfl | simp [Around.under, Code.cUnits, Code.frames, Code.isFrame]
theorem Room.make {k : Nat} {A : Around} (r : Room (k + 1) A) (C : Addr) (us : List Value) (kw : List (Str × Value)) : Room k (A.under (.builtin "type.__call__" ⟨.ref C :: us, kw⟩)) :=
  ⟨r.hd, by have := r.dp; rw [make_depth]; omega, by have := r.un; rw [make_units]; omega⟩
theorem Room.depth {k : Nat} {A : Around} (r : Room k A) : A.depth < recursionLimit := by have := r.dp; omega
theorem Room.units {k : Nat} {A : Around} (r : Room k A) : A.units + 64 < cLine := by have := r.un; omega
/-! ### argument lists and displays -/
def tNil : TA := fun _ H Q => Q [] H
def tCons (ta : TE) (tr : TA) : TA := fun σ H Q => ta σ H fun x H1 => tr σ H1 fun xs H2 => Q (x :: xs) H2
section
variable {X : Cx} {e : Expr} {es : List Expr} {te : TE} {t : TA} {pos : Pos}
theorem pa_nil : PA X [] tNil := fun _ _ _ _ H Q I h => Calls.spliced_nil ⟨[], H, I, .nil, h⟩
theorem pa_cons (ha : PE X e te) (hr : PA X es t) (hs : starEach (e :: es) X.env = (false, eval e X.env) :: starEach es X.env := by rfl) : PA X (e :: es) (tCons te t) := by
  intro pos pins s σ H Q I h
  rw [hs]
  show wpAny _ _ (spliced ((false, eval e X.env) :: backTo pos (starEach es X.env))) _ _ s
  refine Calls.spliced_cons (thn (ha pins s σ H _ I h) fun u s1 ⟨x, H1, I1, r1, q1⟩ => ?_)
  exact thn (hr pos pins s1 σ H1 _ I1 q1) fun us s2 ⟨xs, H2, I2, r2, q2⟩ => ⟨x :: xs, H2, I2, .cons r1 r2, q2⟩

/-- a tuple, a list of written items -/
def tTup (t : TA) : TE := fun σ H Q => t σ H fun xs H1 => xs.length ≤ sizeLine ∧ ∀ p, H1 p = none → Q (.ref p) (upd H1 p (.tup xs))
def tLst (t : TA) : TE := fun σ H Q => t σ H fun xs H1 => xs.length ≤ sizeLine ∧ ∀ p, H1 p = none → Q (.ref p) (upd H1 p (.lst xs))
theorem pe_tup {x1} (h : PA X es t) : PE X (.Tuple es x1 pos) (tTup t) := by
  intro pins s σ H Q I hq
  refine wpAny_Tuple_spliced (thn (h pos pins s σ H _ I hq) fun us s1 ⟨xs, H1, I1, r, z, q⟩ => ⟨by rw [← r.length]; exact z, ?_⟩)
  have hf : H1 s1.heap.objs.size = none := I1.hok.fresh (Nat.le_refl _)
  refine ⟨.ref s1.heap.objs.size, upd H1 s1.heap.objs.size (.tup xs), I1.laid (t' := s1.toks) (fun b u e => Heap.get?_push_of_some _ e) (Nat.le_refl _) ?_, rfl, q _ hf⟩
  exact ⟨z, us, r, ⟨_, Heap.get?_push_size _ rfl, rfl, _, rfl⟩, _, Heap.get?_push_size _ rfl, rfl⟩
theorem pe_lst (h : PA X es t) : PE X (.List es pos) (tLst t) := by
  intro pins s σ H Q I hq
  refine wpAny_List_spliced (thn (h pos pins s σ H _ I hq) fun us s1 ⟨xs, H1, I1, r, z, q⟩ => ⟨by rw [← r.length]; exact z, ?_⟩)
  have hf : H1 s1.heap.objs.size = none := I1.hok.fresh (Nat.le_refl _)
  refine ⟨.ref s1.heap.objs.size, upd H1 s1.heap.objs.size (.lst xs), I1.laid (t' := s1.toks) (fun b u e => Heap.get?_push_of_some _ e) (Nat.le_refl _) ?_, rfl, q _ hf⟩
  exact ⟨z, us, 0, r, Heap.get?_push_size _ rfl⟩
end

/-! ### what a def promises -/
/-- a def's promise: the bound arguments in the parameters' order, the heap, the wanted end, the wanted exception -/
abbrev Sp := List V → Hp → VK → XK → Prop
/-- how an exception lies behind a call (file 08 gives it): the callers' frames, abstract heap and state ahead of the call, the wish, the exception, the state -/
abbrev CXT := List Env → Hp → Shared → XK → Value → Shared → Prop

/-- the state at a call -/
structure Env0 (P : Program) (w : World) (K : PySem.W.Frag) (mg : Str → Option Value) (base : Heap) (A : Around) (outer : List Env) (s : Shared) (H : Hp) : Prop where
  frames : A.frames = some outer
  mod : Mod K mg base
  bs : ∀ b o, base.get? b = some o → s.heap.get? b = some o ∧ H b = none
  bsz : base.objs.size ≤ s.heap.objs.size
  funs : s.heap.FunFrames base outer
  frf : ∀ b ∈ frs outer, H b = none
  hok : HOk P w H s.heap
  bare : AllBare s.gens
/-- a call's end -/
def CE (outer : List Env) (P : Program) (w : World) (H : Hp) (s : Shared) (Q : VK) (u : Value) (s' : Shared) : Prop :=
  ∃ v H', s'.os = s.os ∧ AllBare s'.gens ∧ Un (frs outer) [] H H' s.heap s'.heap ∧ HOk P w H' s'.heap ∧ RelV v u ∧ Q v H'
def CR (CX : CXT) (outer : List Env) (P : Program) (w : World) (H : Hp) (s : Shared) (Q : VK) (E : XK) (r : Result) (s' : Shared) : Prop :=
  match r with
  | .ok (.ret u) => CE outer P w H s Q u s'
  | .ok _ => False
  | .error e => CX outer H s E e s'
structure FnOk (P : Program) (w : World) (K : PySem.W.Frag) (mg : Str → Option Value) (base : Heap) (CX : CXT) (k : Nat) (f : Addr) (fd : FuncData) (ps : List Str) (sp : Sp) : Prop where
  len : ∀ vs H Q E, sp vs H Q E → vs.length = ps.length
  run : ∀ (A : Around) (outer : List Env) (s : Shared) (H : Hp) (args : Args) (us : List Value) (vs : List V) (Q : VK) (E : XK), Room k A → Env0 P w K mg base A outer s H → BindsTo s fd args (ps.zip us) → Vals vs us → sp vs H Q E →
    codeAny (model P w) A (.call (.ref f) args) (CR CX outer P w H s Q E) s
theorem Env0.make {P : Program} {w : World} {K : PySem.W.Frag} {mg : Str → Option Value} {base : Heap} {A : Around} {outer : List Env} {s : Shared} {H : Hp} (e : Env0 P w K mg base A outer s H) (C : Addr) (us : List Value) (kw : List (Str × Value)) :
    Env0 P w K mg base (A.under (.builtin "type.__call__" ⟨.ref C :: us, kw⟩)) outer s H := ⟨by first | exact e.frames | (simpa [Around.under, Code.envs, Code.isFrame, pushEnvs] using e.frames), e.mod, e.bs, e.bsz, e.funs, e.frf, e.hok, e.bare⟩
section
variable {X : Cx} {pins : List (Addr × Obj)} {σ : St} {H : Hp} {s s' : Shared}
/-- from a body: what a callee wants -/
theorem Inv.env0 (I : Inv X pins σ H s) : Env0 X.prog X.w X.K X.mg X.base X.A X.stack s H :=
  ⟨I.ok.frames, I.ok.mod, I.bs, Nat.le_trans I.ok.bsz I.sz, I.stack, I.stkFree, I.hok, I.bare⟩
/-- behind a call -/
theorem Inv.after {Q : VK} {u : Value} (I : Inv X pins σ H s) (h : CE X.stack X.prog X.w H s Q u s') : EP X pins σ Q u s' := by
  obtain ⟨v, H', os, bare, un, hok, r, q⟩ := h
  obtain ⟨hh, g, d, t, os'⟩ := s'
  obtain rfl : os' = s.os := os
  exact ⟨v, H', I.call (h' := hh) (g' := g) (d' := d) (t' := t) (ch := []) un hok bare (fun b z => absurd z (by simp)), r, q⟩
end

/-! ### calls -/
/-- f(..): the written arguments, then the defaults dvs; E: what is wanted of an exception -/
def tCall (sp : Sp) (dvs : List V) (E : XK) (t : TA) : TE := fun σ H Q => t σ H fun vs H1 => sp (vs ++ dvs) H1 Q E
/-- o.m(..) of an instance of the class at C -/
def tMeth (C : Addr) (m : Str) (sp : Sp) (dvs : List V) (E : XK) (ta : TE) (t : TA) : TE := fun σ H Q => ta σ H fun x H1 => ∃ a dx fs, x = .ref a ∧ H1 a = some (.ins C dx fs) ∧ fs.lookup m = none ∧
  t σ H1 fun vs H2 => sp (x :: (vs ++ dvs)) H2 Q E
/-- C(..): a new instance and its dict, then __init__ -/
def tMake (C : Addr) (sp : Sp) (dvs : List V) (E : XK) (t : TA) : TE := fun σ H Q => t σ H fun vs H1 => ∀ x dx, H1 x = none → H1 dx = none → dx ≠ x →
  sp (.ref x :: (vs ++ dvs)) (upd (upd H1 dx (.own x)) x (.ins C dx [])) (fun v H2 => v = .non ∧ Q (.ref x) H2) E

/-- how the parameters are bound: us the positional arguments, kw the keywords' values by name, ds the defaults that fill up -/
def Binds (K : PySem.W.Frag) (fd : FuncData) (ps : List Str) (ds : List Value) : Prop :=
  ∀ (s : Shared) (us : List Value), K.In s.heap → (us ++ ds).length = ps.length → BindsTo s fd ⟨us, []⟩ (ps.zip (us ++ ds))
/-- every parameter is given -/
theorem Binds.all {K : PySem.W.Frag} {fd : FuncData} {ps : List Str} (h : ∀ us : List Value, us.length = ps.length → bindArgs fd ⟨us, []⟩ = pure (ps.zip us)) : Binds K fd ps [] := fun s us _ hl => by
  rw [List.append_nil] at hl ⊢
  exact .of_eq (h us hl)

/-- an exception of a callee reaches what this body wants of exceptions -/
def Passes (CX : CXT) (X : Cx) (E : XK) : Prop := ∀ (pins : List (Addr × Obj)) (σ : St) (H : Hp) (s : Shared) (e : Value) (s' : Shared), Inv X pins σ H s → CX X.stack H s E e s' → X.xe e s'

section
variable {X : Cx} {CX : CXT} {k : Nat} {f C : Addr} {fd : FuncData} {ps : List Str} {sp : Sp} {dvs : List V} {ds : List Value} {E : XK} {x m : Str} {p pos apos : Pos} {e o : Expr} {es : List Expr} {ta : TE} {t : TA}

/-- the callee runs -/
theorem run_fn {pins : List (Addr × Obj)} {σ : St} {H : Hp} {s : Shared} {Q : VK} {us : List Value} {vs : List V} (F : FnOk X.prog X.w X.K X.mg X.base CX k f fd ps sp) (hr : Room k X.A) (hb : Binds X.K fd ps ds) (hd : Vals dvs ds) (hx : Passes CX X E)
    (I : Inv X pins σ H s) (r : Vals vs us) (h : sp (vs ++ dvs) H Q E) : wpAny (model X.prog X.w) X.A (call (.ref f) us) (EP X pins σ Q) X.xe s := by
  have r2 : Vals (vs ++ dvs) (us ++ ds) := r.append hd
  have hl : (us ++ ds).length = ps.length := by rw [← r2.length]; exact F.len _ _ _ _ h
  refine wpAny_call (codeAny_mono (F.run X.A X.stack s H ⟨us, []⟩ (us ++ ds) (vs ++ dvs) Q E hr I.env0 (hb s us I.kIn hl) r2 h) fun r s' hq => ?_)
  cases r with
  | error e => exact hx pins σ H s e s' I hq
  | ok fl =>
    cases fl with
    | ret u => exact I.after hq
    | next => exact False.elim hq
    | brk => exact False.elim hq
    | cont => exact False.elim hq

theorem pe_call (F : FnOk X.prog X.w X.K X.mg X.base CX k f fd ps sp) (hr : Room k X.A) (hg : Gl X x) (hm : X.mg x = some (.ref f)) (hk : PySem.W.keepIn X.K (.ref f) = true) (hb : Binds X.K fd ps ds) (hd : Vals dvs ds) (hx : Passes CX X E)
    (ha : PA X (e :: es) t) (hdb : (x == ("__debug__" : Str)) = false := by decide) (he : starEach (e :: es) X.env = (false, eval e X.env) :: starEach es X.env := by rfl) (hpl : (backTo pos (starEach es X.env)).any (·.1) = false := by rfl) :
    PE X (.Call (.Name x p) (e :: es) [] pos) (tCall sp dvs E t) := by
  intro pins s σ H Q I h
  refine wpAny_Call_Name_kw (ld_glob I hg hm ?_ hdb)
  refine PySem.W.callWith_K (h₀ := X.base) I.ok.mod.kin hk (thn (ha pos pins s σ H _ I h) fun us s1 ⟨vs, H1, I1, r, q⟩ => ⟨I1.kIn, ?_⟩) he hpl
  exact run_fn F hr hb hd hx I1 r q
/-- what a class must have to be made -/
structure Mk (K : PySem.W.Frag) (C f : Addr) : Prop where
  makes : PySem.W.makesIn K C = true
  init : PySem.W.findIn K (.ref C) "__init__" = some (some (.ref f))
  fn : PySem.W.isFn K (.ref f) = true
  kp : PySem.W.keepIn K (.ref C) = true

end

/-! ### keywords -/
/-- the values of the keywords, from the left -/
def PK (X : Cx) (kws : List Keyword) (t : TA) : Prop :=
  ∀ (pos : Pos) (pins : List (Addr × Obj)) (s : Shared) (σ : St) (H : Hp) (Q : List V → Hp → Prop), Inv X pins σ H s → t σ H Q → wpAny (model X.prog X.w) X.A (evalAll ((backToKw pos (keywordEach kws X.env)).map (·.2))) (AP X pins σ Q) X.xe s
section
variable {X : Cx} {CX : CXT} {k : Nat} {f C : Addr} {fd : FuncData} {ps ks : List Str} {sp : Sp} {E : XK} {x m : Str} {p pos apos kpos : Pos} {e o : Expr} {es : List Expr} {kws : List Keyword} {te ta : TE} {t tk : TA} {nm : Option Str}
/-- how a call with keywords binds: g puts the positional values us and the keywords' values ws (names ks) in the parameters' order, defaults among them -/
structure KBinds (K : PySem.W.Frag) (fd : FuncData) (ps ks : List Str) (g : List Value → List Value → List Value) (gV : List V → List V → List V) : Prop where
  to : ∀ (s : Shared) (us ws : List Value), K.In s.heap → (g us ws).length = ps.length → BindsTo s fd ⟨us, ks.zip ws⟩ (ps.zip (g us ws))
  rel : ∀ {vs : List V} {us : List Value} {zs : List V} {ws : List Value}, Vals vs us → Vals zs ws → Vals (gV vs zs) (g us ws)
def tCallK (sp : Sp) (gV : List V → List V → List V) (E : XK) (t tk : TA) : TE := fun σ H Q => t σ H fun vs H1 => tk σ H1 fun zs H2 => sp (gV vs zs) H2 Q E
variable {g : List Value → List Value → List Value} {gV : List V → List V → List V}
end

/-! ### a def's body keeps its promise -/
/-- names: the parameters first -/
structure FnScope (N P : List Str) (sc : Scope) : Prop where
  kind : sc.kind = .function
  co : sc.isCoroutine = false
  gen : sc.isGenerator = false
  nd : N.Nodup
  pre : N.take P.length = P
  par : ∀ x ∈ P, sc.names.lookup x = some .local ∨ sc.names.lookup x = some .cell
  nofree : ∀ y ∈ sc.names, y.2 ≠ .free

theorem bindL_out {kindOf : Str → Option NameKind} {x : Str} : ∀ {binds : List (Str × Value)} {m : Str → Option Value}, (∀ v, (x, v) ∉ binds) → bindL kindOf binds m x = m x
  | [], _, _ => rfl
  | (n, v) :: r, m, h => by
    unfold bindL
    rw [bindL_out fun w hw => h w (List.mem_cons_of_mem _ hw)]
    split
    · have : x ≠ n := by rintro rfl; exact h v List.mem_cons_self
      simp [this]
    · rfl
theorem bindC_out {kindOf : Str → Option NameKind} {x : Str} : ∀ {binds : List (Str × Value)} {m : Str → Option Value}, (∀ v, (x, v) ∉ binds) → bindC kindOf binds m x = m x
  | [], _, _ => rfl
  | (n, v) :: r, m, h => by
    unfold bindC
    rw [bindC_out fun w hw => h w (List.mem_cons_of_mem _ hw)]
    split
    · rfl
    · have : x ≠ n := by rintro rfl; exact h v List.mem_cons_self
      simp [this]
theorem bindL_get {kindOf : Str → Option NameKind} {x : Str} {v : Value} : ∀ {P : List Str} {vs : List Value} {i : Nat} {m : Str → Option Value}, P.Nodup → P[i]? = some x → vs[i]? = some v → kindOf x = some .local →
    bindL kindOf (P.zip vs) m x = some v
  | [], _, _, _, _, h, _, _ => by simp at h
  | _ :: _, [], _, _, _, _, h, _ => by simp at h
  | p :: P, w :: vs, 0, m, nd, h1, h2, hk => by
    simp at h1 h2; subst h1; subst h2
    show bindL kindOf ((p, w) :: P.zip vs) m p = _
    unfold bindL
    rw [bindL_out fun v hv => (List.nodup_cons.mp nd).1 (List.of_mem_zip hv).1, if_pos hk]
    simp
  | p :: P, w :: vs, i + 1, m, nd, h1, h2, hk => by
    show bindL kindOf ((p, w) :: P.zip vs) m x = _
    unfold bindL
    exact bindL_get (i := i) (List.nodup_cons.mp nd).2 (by simpa using h1) (by simpa using h2) hk
theorem bindC_get {kindOf : Str → Option NameKind} {x : Str} {v : Value} : ∀ {P : List Str} {vs : List Value} {i : Nat} {m : Str → Option Value}, P.Nodup → P[i]? = some x → vs[i]? = some v → kindOf x ≠ some .local →
    bindC kindOf (P.zip vs) m x = some v
  | [], _, _, _, _, h, _, _ => by simp at h
  | _ :: _, [], _, _, _, _, h, _ => by simp at h
  | p :: P, w :: vs, 0, m, nd, h1, h2, hk => by
    simp at h1 h2; subst h1; subst h2
    show bindC kindOf ((p, w) :: P.zip vs) m p = _
    unfold bindC
    rw [bindC_out fun v hv => (List.nodup_cons.mp nd).1 (List.of_mem_zip hv).1, if_neg hk]
    simp
  | p :: P, w :: vs, i + 1, m, nd, h1, h2, hk => by
    show bindC kindOf ((p, w) :: P.zip vs) m x = _
    unfold bindC
    exact bindC_get (i := i) (List.nodup_cons.mp nd).2 (by simpa using h1) (by simpa using h2) hk

/-- the names' values at the entry -/
def start (N : List Str) (vs : List V) : St := vs.map some ++ List.replicate (N.length - vs.length) none

/-- the context of a def's body, at its entry; an exception leaves the frame, then lies as CX says -/
def cxOf (CX : CXT) (P : Program) (w : World) (K : PySem.W.Frag) (mg : Str → Option Value) (base : Heap) (N : List Str) (qual : Str) (scope : Scope) (f : Addr) (cd : Value) (A : Around) (outer : List Env) (s : Shared) (H : Hp) (E : XK) : Cx where
  prog := P
  w := w
  K := K
  mg := mg
  base := base
  A := A.deeper (envOfC qual scope s.heap.objs.size f cd)
  N := N
  s₀ := s
  H₀ := H
  env := envOfC qual scope s.heap.objs.size f cd
  outer := outer
  stack := envOfC qual scope s.heap.objs.size f cd :: outer
  ex := []
  calm := true
  fn := fun _ => true
  pn := []
  xe := fun e s' => wpAny (model P w) (A.deeper (envOfC qual scope s.heap.objs.size f cd)) (leaving (envOfC qual scope s.heap.objs.size f cd) e) (fun _ s'' => CX outer H s E e s'') (fun e' s'' => CX outer H s E e' s'') s'

theorem cell_has {sc : Scope} {n : Nat} {x : Str} (h : sc.names.lookup x = some .cell) : ∃ c, (cellsFrom n sc.names []).lookup x = some c := by
  have q := PySem.W.cellsFrom_some sc.names n [] (.inl h)
  exact Option.isSome_iff_exists.mp q

theorem inv_start {CX : CXT} {P : Program} {w : World} {K : PySem.W.Frag} {mg : Str → Option Value} {base : Heap} {N ps : List Str} {qual : Str} {scope : Scope} {f : Addr} {cd : Value} {A : Around} {outer : List Env} {s s1 : Shared} {H : Hp} {E : XK} {us : List Value} {vs : List V}
    (S : FnScope N ps scope) (hd : A.handled = none) (e0 : Env0 P w K mg base A outer s H) (hl : vs.length = ps.length) (r : Vals vs us)
    (x : InCallC s s.heap.objs.size (bindL (envOfC qual scope s.heap.objs.size f cd).kindOf (ps.zip us) fun _ => none) (cellsFrom (s.heap.objs.size + 1) scope.names []) (bindC (envOfC qual scope s.heap.objs.size f cd).kindOf (ps.zip us) fun _ => none) s1) :
    Inv (cxOf CX P w K mg base N qual scope f cd A outer s H E) [] (start N vs) H s1 := by
  have hpl : ps.length ≤ N.length := by have := congrArg List.length S.pre; rw [List.length_take] at this; omega
  obtain ⟨h1, tk, rfl, hk⟩ := x.done
  have noA : ∀ b : Addr, b ∉ (cxOf CX P w K mg base N qual scope f cd A outer s H E).ex := fun b z => absurd (show b ∈ ([] : List Addr) from z) (by simp)
  refine ⟨⟨e0.mod, S.kind, rfl, rfl, Nat.le_refl _, fun y z c h1 h2 => ?_, fun y hy => ?_, fun y c _ h => ?_, fun _ => hd, Around.frames_deeper e0.frames, .inr ⟨rfl, rfl⟩, fun b z => absurd z (noA b), e0.bs, e0.bsz, fun b _ _ => noA b, fun b z => absurd z (noA b), e0.funs, e0.frf⟩,
    rfl, e0.bare, Un.kept hk, ⟨_, x.toInCall.ns, fun i y v h1 h2 h3 => ?_⟩, fun y c h => ⟨_, x.cell y c h⟩, e0.hok.fresh (Nat.le_refl _), fun y c h => ?_, fun p hp => absurd (show p ∈ ([] : List (Addr × Obj)) from hp) (by simp), e0.hok.kept hk, ?_⟩
  · exact name_of_addr x.apart (PySem.mem_of_lookup h1) (PySem.mem_of_lookup h2)
  · have hy : scope.names.lookup y = some .cell ∨ scope.names.lookup y = some .free := hy
    rcases hy with hy | hy
    · exact cell_has hy
    · exact absurd rfl (S.nofree _ (PySem.mem_of_lookup hy))
  · exact Nat.le_of_lt (x.above y c (PySem.mem_of_lookup h))
  · have hi : i < vs.length := by
      unfold start at h2
      by_cases hi : i < vs.length
      · exact hi
      · rw [List.getElem?_append_right (by simpa using hi)] at h2
        rw [List.getElem?_replicate] at h2
        split at h2 <;> cases h2
    have ha : vs[i]? = some v := by
      unfold start at h2
      rw [List.getElem?_append_left (by simpa using hi), List.getElem?_map] at h2
      cases e : vs[i]? with
      | none => rw [e] at h2; cases h2
      | some a => rw [e] at h2; cases h2; rfl
    obtain ⟨u, hu, rv⟩ := r.get ha
    have hp : ps[i]? = some y := by
      rw [← S.pre, List.getElem?_take_of_lt (by omega)]; exact h1
    have ndP : ps.Nodup := by rw [← S.pre]; exact S.nd.sublist (List.take_sublist _ _)
    refine ⟨u, rv, ?_⟩
    rcases S.par y (List.mem_of_getElem? hp) with k | k
    · exact .inl ⟨k, bindL_get ndP hp hu k⟩
    · obtain ⟨c, e⟩ := cell_has (n := s.heap.objs.size + 1) k
      refine .inr ⟨.inl k, c, e, ?_⟩
      have q := x.cell y c e
      rw [bindC_get ndP hp hu (by show scope.names.lookup y ≠ _; rw [k]; decide)] at q
      exact q
  · exact e0.hok.fresh (Nat.le_of_lt (x.above y c (PySem.mem_of_lookup h)))
  · unfold start
    show _ = N.length
    rw [List.length_append, List.length_map, List.length_replicate]
    omega

/-- THE RULE: a def (or a method) of the text, by its body. The body's reading t is chosen for each entry; it is run at the parameters' values -/
theorem fn_of {CX : CXT} {P : Program} {w : World} {K : PySem.W.Frag} {mg : Str → Option Value} {base : Heap} {k : Nat} {f : Addr} {name qual : Str} {params : Arguments} {body : List Stmt} {scope : Scope} {dV kV doc pm cdv ct oc : Value} {an od : Option Addr}
    {osl : Array (Option Value)} {N ps : List Str} {sp : Sp} (lk : K.lookup f = some ⟨oc, od, .func (PySem.W.fnOf name qual params body scope dV kV doc pm an cdv ct), osl⟩) (hcd : PySem.W.codeIn K cdv qual = true) (S : FnScope N ps scope)
    (len : ∀ vs H Q E, sp vs H Q E → vs.length = ps.length)
    (hbody : ∀ (A : Around) (outer : List Env) (s : Shared) (H : Hp) (vs : List V) (Q : VK) (E : XK), Room k (A.deeper (envOfC qual scope s.heap.objs.size f cdv)) → sp vs H Q E →
      ∃ t, PSs (cxOf CX P w K mg base N qual scope f cdv A outer s H E) body t ∧ t { nx := fun _ H' => Q .non H', rt := Q } (start N vs) H) :
    FnOk P w K mg base CX (k + 1) f (PySem.W.fnOf name qual params body scope dV kV doc pm an cdv ct) ps sp := by
  refine ⟨len, fun A outer s H args us vs Q E hr e0 hb r hsp => ?_⟩
  have hl := len _ _ _ _ hsp
  have KX : K.In s.heap := e0.mod.kin.keeps fun b o e => (e0.bs b o e).1
  have lim : s.heap.NoLimit := e0.mod.nolimit.keeps fun b o e => (e0.bs b o e).1
  have hkind : ∀ y ∈ ps.zip us, scope.names.lookup y.1 = some .local ∨ (scope.names.lookup y.1 = some .cell ∧ ((cellsFrom (s.heap.objs.size + 1) scope.names []).lookup y.1).isSome = true) := fun ⟨n, v⟩ hy => by
    rcases S.par n (List.of_mem_zip hy).1 with q | q
    · exact .inl q
    · exact .inr ⟨q, PySem.W.cellsFrom_some _ _ _ (.inl q)⟩
  refine codeAny_call_function hr.depth (KX _ _ lk) rfl S.co S.gen rfl (PySem.W.codeRec_of KX hcd) (hb _ _ _ _ ?_)
  refine wpAny_newFunctionEnv_cells S.kind hkind fun env he s1 x => ?_
  subst he
  refine ⟨lim.keeps x.toInCall.keep, codeAny_func ?_⟩
  obtain ⟨t, ht, hq⟩ := hbody A outer s H vs Q E (hr.deeper _) hsp
  have I : Inv (cxOf CX P w K mg base N qual scope f cdv A outer s H E) [] (start N vs) H s1 := inv_start S hr.hd e0 hl r x
  refine wpAny_mono (ht [] s1 (start N vs) H _ I hq) (fun fl s' hs => ?_) fun e s' hs => hs
  have fin : ∀ {σ' : St} {H' : Hp} {v : V} {u : Value}, Inv (cxOf CX P w K mg base N qual scope f cdv A outer s H E) [] σ' H' s' → RelV v u → Q v H' → CE outer P w H s Q u s' :=
    fun {σ' H' v u} J rv q => ⟨v, H', J.os, J.bare, J.base, J.hok, rv, q⟩
  cases fl with
  | ret u =>
    obtain ⟨v, σ', H', J, rv, q⟩ := hs
    exact fin J rv q
  | next =>
    obtain ⟨σ', H', J, q⟩ := hs
    exact fin (v := V.non) (u := Value.none) J rfl q
  | brk =>
    obtain ⟨_, _, _, q⟩ := hs
    exact False.elim q
  | cont =>
    obtain ⟨_, _, _, q⟩ := hs
    exact False.elim q
end L2

namespace L2
open PySem PySem.Spec PyProof.Rows
section
variable {X : Cx} {x : Str} {p pos : Pos} {e : Expr} {es : List Expr} {t : TA} {id T : String} {r : List V → Hp → VK → Prop}

def tCB (r : List V → Hp → VK → Prop) (t : TA) : TE := fun σ H Q => t σ H fun vs H1 => r vs H1 Q
/-- f(e, ..), f a built-in function -/
theorem pe_callB (hc : CallR X (.builtin id) r) (hg : Gl X x) (hm : X.mg x = none) (hv : bootBuiltins x = some (.builtin id)) (ha : PA X (e :: es) t) (hn : x ≠ "__name__" := by decide) (hdb : (x == ("__debug__" : Str)) = false := by decide)
    (he : starEach (e :: es) X.env = (false, eval e X.env) :: starEach es X.env := by rfl) (hpl : (backTo pos (starEach es X.env)).any (·.1) = false := by rfl) : PE X (.Call (.Name x p) (e :: es) [] pos) (tCB r t) := by
  intro pins s σ H Q I h
  refine wpAny_Call_Name_kw (ld_blt I hg hm hv ?_ hn hdb)
  exact PyProof.Rows.callWith_builtin1 (thn (ha pos pins s σ H _ I h) fun us s1 ⟨vs, H1, I1, r1, q1⟩ => hc pins s1 σ H1 vs us Q I1 r1 q1) he hpl
/-- T(e, ..), T a built-in type -/
theorem pe_callTy (hc : CallR X (.type T) r) (hg : Gl X x) (hm : X.mg x = none) (hv : bootBuiltins x = some (.type T)) (ha : PA X (e :: es) t) (hn : x ≠ "__name__" := by decide) (hdb : (x == ("__debug__" : Str)) = false := by decide)
    (he : starEach (e :: es) X.env = (false, eval e X.env) :: starEach es X.env := by rfl) (hpl : (backTo pos (starEach es X.env)).any (·.1) = false := by rfl) : PE X (.Call (.Name x p) (e :: es) [] pos) (tCB r t) := by
  intro pins s σ H Q I h
  refine wpAny_Call_Name_kw (ld_blt I hg hm hv ?_ hn hdb)
  exact PyProof.Rows.callWith_type1 (thn (ha pos pins s σ H _ I h) fun us s1 ⟨vs, H1, I1, r1, q1⟩ => hc pins s1 σ H1 vs us Q I1 r1 q1) he hpl
end
end L2

namespace HT
open PySem PyProof.Rows

/-- t < u of tuples of ints -/
def lexLt : List Int → List Int → Bool
  | [], [] => false
  | [], _ :: _ => true
  | _ :: _, [] => false
  | x :: xs, y :: ys => if x = y then lexLt xs ys else decide (x < y)
section
open PySem.SeqAt
open PySem.AutoSeq1 (wpAny_loadPart')
open PySem.MeetsSeq PySem.MeetsSeq2 PySem.MeetsSeq3

end

section
variable {prog : Program} {w : World} {A : Around} {E : Value → Shared → Prop} {s : Shared}

/-! ### t[a:b], not the whole -/
/-- a slice's bound as a place among n (d where it is left out) -/
def sIx (n d : Nat) : Option Int → Nat
  | none => d
  | some v => if v < 0 then (v + (n : Int)).toNat else min v.toNat n
end
end HT

namespace L2
open PySem PySem.Spec PyProof.Rows

/-! ### the parts of a slice -/
abbrev TO := St → Hp → (Option Int → Hp → Prop) → Prop
/-- a slice's part (left out, or an int) -/
def PO (X : Cx) (e : Option Expr) (t : TO) : Prop :=
  ∀ (pins : List (Addr × Obj)) (s : Shared) (σ : St) (H : Hp) (Q : Option Int → Hp → Prop), Inv X pins σ H s → t σ H Q →
    wpAny (model X.prog X.w) X.A (evalPart e X.env) (fun u s' => ∃ o H', Inv X pins σ H' s' ∧ IsPart u o ∧ Q o H') X.xe s
def tNoPart : TO := fun _ H Q => Q none H
def tPart (t : TE) : TO := fun σ H Q => t σ H fun x H1 => ∃ i, x = .int i ∧ Q (some i) H1

section
variable {X : Cx} {e : Expr} {te : TE} {lo hi : Option Expr} {tl th : TO} {pos p2 : Pos}

theorem po_none : PO X none tNoPart := by
  intro pins s σ H Q I h
  rw [evalPart_none]
  exact wpAny_pure ⟨none, H, I, .none, h⟩
theorem po_some (h : PE X e te) : PO X (some e) (tPart te) := by
  intro pins s σ H Q I hw
  rw [evalPart_some]
  refine thn (h pins s σ H _ I hw) fun u s1 ⟨x, H1, I1, r1, q1⟩ => ?_
  obtain ⟨i, rfl, q⟩ := q1
  obtain ⟨t, rfl⟩ := r1
  exact ⟨some i, H1, I1, .int i t, q⟩

/-- what a slice of a value is, by values: the slice object stands at sl -/
def SlR (X : Cx) (r : V → Option Int → Option Int → Hp → VK → Prop) : Prop :=
  ∀ (pins : List (Addr × Obj)) (s : Shared) (σ : St) (H : Hp) (x : V) (v vl vu : Value) (lo hi : Option Int) (sl : Addr) (Q : VK), Inv X pins σ H s → RelV x v → s.heap.IsSliceOf sl vl vu .none → IsPart vl lo → IsPart vu hi → r x lo hi H Q →
    ∃ T id, typeLookup (.type T) "__getitem__" = pure (some (.builtin id)) ∧ s.TypeIs v T ∧ wpAny (model X.prog X.w) X.A (getItem v (.ref sl)) (EP X pins σ Q) X.xe s
def tSl (r : V → Option Int → Option Int → Hp → VK → Prop) (te : TE) (tl th : TO) : TE := fun σ H Q => te σ H fun x H1 => tl σ H1 fun l H2 => th σ H2 fun u H3 => r x l u H3 Q
/-- a[lo:hi], any a -/
theorem pe_slice {r : V → Option Int → Option Int → Hp → VK → Prop} (hr : SlR X r) (he : PE X e te) (hl : PO X lo tl) (hu : PO X hi th) : PE X (.Subscript e (.Slice lo hi none p2) pos) (tSl r te tl th) := by
  intro pins s σ H Q I h
  refine Subscript_ (thn (he pins s σ H _ I h) fun v s1 ⟨x, H1, I1, r1, q1⟩ => ?_)
  refine wpAny_Slice (thn (hl pins s1 σ H1 _ I1 q1) fun vl s2 ⟨l, H2, I2, pl, q2⟩ => thn (hu pins s2 σ H2 _ I2 q2) fun vu s3 ⟨u, H3, I3, pu, q3⟩ => ?_)
  rw [evalPart_none]
  refine wpAny_pure ?_
  have I4 : Inv X pins σ H3 { s3 with heap := s3.heap.push { cls := .type "slice", data := .fields #[vl, vu, .none] } } := I3.kept (t' := s3.toks) fun b ob q => Heap.get?_push_of_some _ q
  obtain ⟨T, id, hT, ht, hg⟩ := hr pins { s3 with heap := s3.heap.push { cls := .type "slice", data := .fields #[vl, vu, .none] } } σ H3 x v vl vu l u s3.heap.objs.size Q I4 r1 (Heap.IsSliceOf.new ..) pl pu q3
  show wpAny (model X.prog X.w) X.A (subscriptTail e (.Slice lo hi none p2) v (.ref s3.heap.objs.size)) (EP X pins σ Q) X.xe { s3 with heap := s3.heap.push { cls := .type "slice", data := .fields #[vl, vu, .none] } }
  exact tail_any (ops := [.ref s3.heap.objs.size, v]) ht hT hg (by with_unfolding_all rfl)

/-- the items of xs[lo:hi] -/
def cutV (xs : List V) (lo hi : Option Int) : List V := (xs.drop (HT.sIx xs.length 0 lo)).take (HT.sIx xs.length xs.length hi - HT.sIx xs.length 0 lo)
theorem cutV_length (xs : List V) (lo hi : Option Int) : (cutV xs lo hi).length ≤ xs.length := by
  unfold cutV
  rw [List.length_take, List.length_drop]
  omega
/-- t[lo:hi], not the whole of it (the whole would be t itself) -/
def rSlT (K : PySem.W.Frag) : V → Option Int → Option Int → Hp → VK → Prop := fun x lo hi H Q => ∃ a xs, x = .ref a ∧ SqT K H a xs ∧
  ¬ (HT.sIx xs.length 0 lo = 0 ∧ HT.sIx xs.length xs.length hi = xs.length) ∧ ∀ p, H p = none → Q (.ref p) (upd H p (.tup (cutV xs lo hi)))
/-! ### t < u, t + u -/
def rLtT (K : PySem.W.Frag) : R2 := fun x y H Q => ∃ a b ns ms, x = .ref a ∧ y = .ref b ∧ SqT K H a (ns.map V.int) ∧ SqT K H b (ms.map V.int) ∧ Q (.bl (HT.lexLt ns ms)) H
/-- t + u, t not empty: u empty gives t itself -/
def rCatT (K : PySem.W.Frag) : R2 := fun x y H Q => ∃ a b xs ys, x = .ref a ∧ y = .ref b ∧ SqT K H a xs ∧ SqT K H b ys ∧ xs ≠ [] ∧ xs.length + ys.length ≤ sizeLine ∧
  (ys = [] → Q (.ref a) H) ∧ (ys ≠ [] → ∀ p, H p = none → Q (.ref p) (upd H p (.tup (xs ++ ys))))
theorem Vals.nil_iff {xs : List V} {us : List Value} (r : Vals xs us) : us = [] ↔ xs = [] := by
  cases r with
  | nil => simp
  | cons _ _ => simp
end
end L2

namespace L2
open PySem PySem.Spec PyProof.Rows

/-! ### places -/
/-- the place that an index of any sign means -/
def ixN (n : Nat) (i : Int) : Option Nat := if 0 ≤ i then (if i < n then some i.toNat else none) else if -(n : Int) ≤ i then some (i + n).toNat else none
def atI {α : Type} (xs : List α) (i : Int) : Option α := (ixN xs.length i).bind fun j => xs[j]?
theorem ixN_seq {n : Nat} {i : Int} {j : Nat} (h : ixN n i = some j) : seqIndex? i n = some j ∧ j < n ∧ -(n : Int) ≤ i ∧ i < n := by
  unfold ixN at h
  by_cases h0 : 0 ≤ i
  · rw [if_pos h0] at h
    by_cases h1 : i < n
    · rw [if_pos h1] at h
      have e : i.toNat = j := Option.some.inj h
      exact ⟨by rw [seqIndex_of h0 h1, e], by omega, by omega, h1⟩
    · rw [if_neg h1] at h; cases h
  · rw [if_neg h0] at h
    by_cases h1 : -(n : Int) ≤ i
    · rw [if_pos h1] at h
      have e : (i + n).toNat = j := Option.some.inj h
      exact ⟨by rw [seqIndex_neg (by omega) h1, e], by omega, h1, by omega⟩
    · rw [if_neg h1] at h; cases h
theorem atI_get {α : Type} {xs : List α} {i : Int} {v : α} (h : atI xs i = some v) : ∃ j, seqIndex? i xs.length = some j ∧ xs[j]? = some v ∧ j < xs.length ∧ -(xs.length : Int) ≤ i ∧ i < xs.length := by
  unfold atI at h
  cases e : ixN xs.length i with
  | none => rw [e] at h; cases h
  | some j =>
    rw [e] at h
    obtain ⟨h1, h2, h3, h4⟩ := ixN_seq e
    exact ⟨j, h1, h, h2, h3, h4⟩
theorem atI_nat {α : Type} {xs : List α} {j : Nat} {v : α} (h : xs[j]? = some v) : atI xs (j : Int) = some v := by
  have hj : j < xs.length := (List.getElem?_eq_some_iff.mp h).1
  have e : ixN xs.length (j : Int) = some j := by
    unfold ixN
    rw [if_pos (by omega), if_pos (by omega)]; simp
  unfold atI; rw [e]; exact h
/-! ### what may be subscripted -/
/-- what stands as an index of a plain subscript -/
def PlainIx (b : Expr) : Prop := ∀ o i, subscripted b false o i = operate [o, i] (getItem o i)
/-- a subscript by values -/
def IxR (X : Cx) (r : R2) : Prop :=
  ∀ (value slice : Expr) (pins : List (Addr × Obj)) (s : Shared) (σ : St) (H : Hp) (x y : V) (v u : Value) (Q : VK), Inv X pins σ H s → RelV x v → RelV y u → r x y H Q →
    subscripted slice false v u = operate [v, u] (getItem v u) → wpAny (model X.prog X.w) X.A (subscriptTail value slice v u) (EP X pins σ Q) X.xe s
/-- a call of a builtin's method by values: the receiver, the arguments -/
def MtR (X : Cx) (id : String) (r : V → List V → Hp → VK → Prop) : Prop :=
  ∀ (pins : List (Addr × Obj)) (s : Shared) (σ : St) (H : Hp) (x : V) (xs : List V) (v : Value) (us : List Value) (Q : VK), Inv X pins σ H s → RelV x v → Vals xs us → r x xs H Q →
    wpAny (model X.prog X.w) X.A (call (.builtin id) (v :: us)) (EP X pins σ Q) X.xe s
section
variable {X : Cx} {a b : Expr} {ta tb : TE} {pos : Pos}
/-- a[b] -/
theorem pe_ix {r : R2} (hr : IxR X r) (ha : PE X a ta) (hb : PE X b tb) (hs : PlainIx b) : PE X (.Subscript a b pos) (tOp r ta tb) := by
  intro pins s σ H Q I h
  exact Subscript_ (binT ha hb I h fun v u s2 x y H2 I2 rx ry q => hr a b pins s2 σ H2 x y v u Q I2 rx ry q (hs _ _))

def rIxL (K : PySem.W.Frag) : R2 := fun x y H Q => ∃ p xs i v, x = .ref p ∧ y = .int i ∧ SqL K H p xs ∧ atI xs i = some v ∧ Q v H
def rIxT (K : PySem.W.Frag) : R2 := fun x y H Q => ∃ p xs i v, x = .ref p ∧ y = .int i ∧ SqT K H p xs ∧ atI xs i = some v ∧ Q v H
def rIxS : R2 := fun x y H Q => ∃ z i c, x = .str z ∧ y = .int i ∧ z.length ≤ sizeLine ∧ atI z.cps.toList i = some c ∧ Q (.str ⟨#[c]⟩) H
theorem ix_list : IxR X (rIxL X.K) := by
  intro value slice pins s σ H x y v u Q I rx ry h hs
  obtain ⟨p, xs, i, z, rfl, rfl, hq, he, q⟩ := h
  cases rx
  obtain ⟨t, rfl⟩ := ry
  obtain ⟨its, r, pl, hz⟩ := I.list hq
  obtain ⟨j, h1, h2, h3, h4, h5⟩ := atI_get he
  obtain ⟨w, ew, rw'⟩ := r.get h2
  have hl := r.length
  have hn := line63
  have fin : EP X pins σ Q w s := ⟨z, H, I, rw', q⟩
  by_cases h0 : 0 ≤ i
  · have hj : i.toNat = j := by
      rw [seqIndex_of h0 h5] at h1
      exact Option.some.inj h1
    exact item_listR pl.isList h0 (by omega) (by rw [hj]; simpa using ew) fin hs
  · have hj : (i + (its.toArray.size : Int)).toNat = j := by
      rw [seqIndex_neg (by omega) h4] at h1
      rw [List.size_toArray, ← hl]
      exact Option.some.inj h1
    exact subscriptTail_builtinR (x := w) pl.isList.typeIs slot_list_getitem.lookup
      (wpAny_getItem_list_neg (Q := fun r s' => r = w ∧ EP X pins σ Q r s') pl.isList (by omega) (by rw [List.size_toArray] <;> omega) (by omega) (by rw [hj]; simpa using ew) ⟨rfl, fin⟩) hs
theorem ix_tup : IxR X (rIxT X.K) := by
  intro value slice pins s σ H x y v u Q I rx ry h hs
  obtain ⟨p, xs, i, z, rfl, rfl, hq, he, q⟩ := h
  cases rx
  obtain ⟨t, rfl⟩ := ry
  obtain ⟨its, r, pl, hz⟩ := I.tuple hq
  obtain ⟨j, h1, h2, h3, h4, h5⟩ := atI_get he
  obtain ⟨w, ew, rw'⟩ := r.get h2
  have hl := r.length
  have hn := line63
  have fin : EP X pins σ Q w s := ⟨z, H, I, rw', q⟩
  exact subscriptTail_builtinR (x := w) pl.typeIs slot_tuple_getitem.lookup
    (getItem_tuple (j := j) (Q := fun r s' => r = w ∧ EP X pins σ Q r s') pl (by omega) (by omega) (by rw [List.size_toArray, ← hl]; exact h1) (by simpa using ew) ⟨rfl, fin⟩) hs
theorem ix_str : IxR X rIxS := by
  intro value slice pins s σ H x y v u Q I rx ry h hs
  obtain ⟨z, i, c, rfl, rfl, hz, he, q⟩ := h
  obtain ⟨t, rfl⟩ := rx
  obtain ⟨t', rfl⟩ := ry
  obtain ⟨j, h1, h2, h3, h4, h5⟩ := atI_get he
  have hl : z.cps.toList.length = z.length := by simp [Str.length]
  rw [hl] at h1 h4 h5
  have hn := line63
  exact tail_any (typeIs_str s z t) slot_str_getitem.lookup (getItem_str (c := c) (by
    have e1 : decide (i < -(2 ^ 63 : Int)) = false := decide_eq_false (by omega)
    have e2 : decide (i ≥ 2 ^ 63) = false := decide_eq_false (by omega)
    rw [e1, e2, Bool.or_false]) (by rw [h1]; simpa using h2) ⟨.str ⟨#[c]⟩, H, I.tok _, ⟨_, rfl⟩, q⟩) hs
/-- list, tuple or str -/
def rIx (K : PySem.W.Frag) : R2 := fun x y H Q => rIxL K x y H Q ∨ rIxT K x y H Q ∨ rIxS x y H Q
/-! ### xs[i] = v, any sign -/
/-- the list's object behind a store -/
theorem mapSeq_set (its : List Value) (n j : Nat) (u : Value) : Obj.mapSeq (·.setIfInBounds j u) { cls := .type "list", data := .seq its.toArray n } = { cls := .type "list", data := .seq (its.set j u).toArray n } := by
  simp [Obj.mapSeq]
theorem Inv.lst {pins : List (Addr × Obj)} {σ : St} {H : Hp} {s : Shared} {p : Addr} {xs : List V} (I : Inv X pins σ H s) (h : H p = some (.lst xs)) :
    ∃ (its : List Value) (n : Nat), Vals xs its ∧ s.heap.get? p = some { cls := .type "list", data := .seq its.toArray n } ∧ xs.length ≤ sizeLine := by
  obtain ⟨z, its, n, r, e⟩ := I.hok p _ h
  exact ⟨its, n, r, e, z⟩
/-- the list at p is written by an update of its object -/
theorem Inv.lstUpd {pins : List (Addr × Obj)} {σ : St} {H : Hp} {s : Shared} {p : Addr} {xs ys : List V} {its its' : List Value} {n n' : Nat} {f : Obj → Obj} (I : Inv X pins σ H s) (h : H p = some (.lst xs))
    (ho : s.heap.get? p = some { cls := .type "list", data := .seq its.toArray n }) (hf : f { cls := .type "list", data := .seq its.toArray n } = { cls := .type "list", data := .seq its'.toArray n' }) (r : Vals ys its') (hz : ys.length ≤ sizeLine) (t : Nat) :
    Inv X pins σ (upd H p (.lst ys)) { s with heap := s.heap.update p f, toks := t } := by
  have e : (s.heap.update p f).get? p = some { cls := .type "list", data := .seq its'.toArray n' } := by
    rw [Heap.get?_update_self f ho (by rw [hf] <;> rfl), hf]
  refine I.write (x := p) (e := p) (by rw [h]; trivial) (.inl rfl) (fun b u hb q => (Heap.get?_update_other _ _ (Ne.symm hb)).trans q) ⟨_, e⟩ ?_
  exact ⟨hz, its', n', r, e⟩
def rSetL : V → V → V → Hp → (Hp → Prop) → Prop := fun o i v H Q => ∃ p xs k j, o = .ref p ∧ i = .int k ∧ H p = some (.lst xs) ∧ ixN xs.length k = some j ∧ Q (upd H p (.lst (xs.set j v)))
theorem set_list : PSet X rSetL := by
  intro pins s σ H o i v ov iv u Q I ro ri rv h
  obtain ⟨p, xs, k, j, rfl, rfl, hp, hj, q⟩ := h
  cases ro
  obtain ⟨t, rfl⟩ := ri
  obtain ⟨its, n, r, ho, hz⟩ := I.lst hp
  obtain ⟨h1, h2, h3, h4⟩ := ixN_seq hj
  have hl := r.length
  have hn := line63
  have I' : Inv X pins σ (upd H p (.lst (xs.set j v))) { s with heap := s.heap.update p (Obj.mapSeq (·.setIfInBounds j u)) } :=
    I.lstUpd hp ho (mapSeq_set its n j u) (r.set rv j) (by rw [List.length_set]; exact hz) s.toks
  by_cases h0 : 0 ≤ k
  · have hk : k.toNat = j := by
      rw [seqIndex_of h0 h4] at h1
      exact Option.some.inj h1
    exact PySem.W.ki_setAt ho h0 (by omega) (by rw [List.size_toArray, ← hl]; exact h4) (by rw [hk]; exact ⟨_, I', q⟩)
  · have hk : (k + (its.toArray.size : Int)).toNat = j := by
      rw [seqIndex_neg (by omega) h3] at h1
      rw [List.size_toArray, ← hl]
      exact Option.some.inj h1
    exact PySem.W.ki_setBack ho (by omega) (by rw [List.size_toArray, ← hl]; exact h3) (by omega) (by rw [hk]; exact ⟨_, I', q⟩)

/-! ### slices -/
theorem slice_bounds (lo hi : Option Int) (n : Nat) : (sliceBounds lo hi none n).1 = ((HT.sIx n 0 lo : Nat) : Int) ∧ (sliceBounds lo hi none n).2.1 = ((HT.sIx n n hi : Nat) : Int) ∧ (sliceBounds lo hi none n).2.2 = 1 := by
  refine ⟨?_, ?_, rfl⟩
  · cases lo with
    | none => simp [sliceBounds, HT.sIx]
    | some i =>
      simp only [sliceBounds, HT.sIx, Option.getD_none, show (1 : Int) > 0 by decide, if_true]
      by_cases h : i < 0
      · simp only [h, if_true] <;> omega
      · simp only [h, if_false] <;> omega
  · cases hi with
    | none => simp [sliceBounds, HT.sIx]
    | some i =>
      simp only [sliceBounds, HT.sIx, Option.getD_none, show (1 : Int) > 0 by decide, if_true]
      by_cases h : i < 0
      · simp only [h, if_true] <;> omega
      · simp only [h, if_false] <;> omega
theorem slicePick_cut (its : List Value) (lo hi : Option Int) : slicePick its.toArray lo hi none = ((its.drop (HT.sIx its.length 0 lo)).take (HT.sIx its.length its.length hi - HT.sIx its.length 0 lo)).toArray := by
  obtain ⟨h1, h2, h3⟩ := slice_bounds lo hi its.toArray.size
  unfold slicePick
  rw [h1, h2, h3]
  simp only [sliceRange_one, pick_run, List.size_toArray] <;> rfl
/-- xs[lo:hi] of a list: a new list -/
def rSlL (K : PySem.W.Frag) : V → Option Int → Option Int → Hp → VK → Prop := fun x lo hi H Q => ∃ a xs, x = .ref a ∧ SqL K H a xs ∧ ∀ p, H p = none → Q (.ref p) (upd H p (.lst (cutV xs lo hi)))
theorem sl_list : SlR X (rSlL X.K) := by
  intro pins s σ H x v vl vu lo hi sl Q I rx hs pl pu h
  obtain ⟨a, xs, rfl, hx, q⟩ := h
  cases rx
  obtain ⟨its, r, ht, hz⟩ := I.list hx
  have hlen := r.length
  refine ⟨"list", _, slot_list_getitem.lookup, ht.isList.typeIs, ?_⟩
  refine wpAny_getItem_list_slice ht.isList hs pl pu .none (by simp) ?_ (by rw [List.size_toArray] <;> omega)
  rw [slicePick_cut, ← hlen]
  refine ⟨.ref s.heap.objs.size, _, I.laid (t' := s.toks) (o := .lst (cutV xs lo hi)) (fun b ob q => Heap.get?_push_of_some _ q) (Nat.le_refl _) ?_, rfl, q _ (I.hok.fresh (Nat.le_refl _))⟩
  exact ⟨Nat.le_trans (cutV_length xs lo hi) hz, _, 0, (r.drop (HT.sIx xs.length 0 lo)).take (HT.sIx xs.length xs.length hi - HT.sIx xs.length 0 lo), Heap.get?_push_size _ rfl⟩

/-! ### in, not in: flat items -/
def flatV : V → Bool
  | .non => true
  | .bl _ => true
  | .int _ => true
  | .str _ => true
  | _ => false
/-- == of flat values -/
def eqV : V → V → Bool
  | .non, .non => true
  | .bl a, .bl b => a == b
  | .bl a, .int b => (if a then 1 else 0) == b
  | .int a, .bl b => a == (if b then 1 else 0)
  | .int a, .int b => a == b
  | .str a, .str b => a == b
  | _, _ => false
theorem eqAt_V {A : Around} {s : Shared} {y x : V} {u v : Value} (ry : RelV y u) (rx : RelV x v) (fy : flatV y = true) (fx : flatV x = true) : SeqAt.EqAt A s u v (eqV y x) := by
  cases y with
  | non =>
    cases ry
    cases x with
    | non => cases rx; exact SeqAt.EqAt.same _
    | bl b => cases rx; exact SeqAt.EqAt.none_bool b
    | int b => obtain ⟨t, rfl⟩ := rx; exact SeqAt.EqAt.none_int b t
    | str b => obtain ⟨t, rfl⟩ := rx; exact SeqAt.EqAt.none_str b t
    | _ => exact absurd (show false = true from fx) Bool.false_ne_true
  | bl a =>
    cases ry
    cases x with
    | non => cases rx; exact SeqAt.EqAt.bool_none a
    | bl b => cases rx; exact SeqAt.EqAt.bool_bool a b
    | int b => obtain ⟨t, rfl⟩ := rx; exact SeqAt.EqAt.bool_int a b t
    | str b => obtain ⟨t, rfl⟩ := rx; exact SeqAt.EqAt.bool_str a b t
    | _ => exact absurd (show false = true from fx) Bool.false_ne_true
  | int a =>
    obtain ⟨t', rfl⟩ := ry
    cases x with
    | non => cases rx; exact SeqAt.EqAt.int_none a t'
    | bl b => cases rx; exact SeqAt.EqAt.int_bool a t' b
    | int b => obtain ⟨t, rfl⟩ := rx; exact SeqAt.EqAt.int_int a t' b t
    | str b => obtain ⟨t, rfl⟩ := rx; exact SeqAt.EqAt.int_str a t' b t
    | _ => exact absurd (show false = true from fx) Bool.false_ne_true
  | str a =>
    obtain ⟨t', rfl⟩ := ry
    cases x with
    | non => cases rx; exact SeqAt.EqAt.str_none a t'
    | bl b => cases rx; exact SeqAt.EqAt.str_bool a t' b
    | int b => obtain ⟨t, rfl⟩ := rx; exact SeqAt.EqAt.str_int a t' b t
    | str b => obtain ⟨t, rfl⟩ := rx; exact SeqAt.EqAt.str_str a t' b t
    | _ => exact absurd (show false = true from fx) Bool.false_ne_true
  | _ => exact absurd (show false = true from fy) Bool.false_ne_true
/-- the items' answers, read off the values (a value's own answer does not lean on its token) -/
def eqU (x : V) (u : Value) : Bool := match u with
  | .none => eqV .non x
  | .bool b => eqV (.bl b) x
  | .int i _ => eqV (.int i) x
  | .str z _ => eqV (.str z) x
  | _ => false
theorem eqU_of {x y : V} {u : Value} (r : RelV y u) (f : flatV y = true) : eqU x u = eqV y x := by
  cases y with
  | non => cases r; rfl
  | bl b => cases r; rfl
  | int i => obtain ⟨t, rfl⟩ := r; rfl
  | str z => obtain ⟨t, rfl⟩ := r; rfl
  | _ => exact absurd (show false = true from f) Bool.false_ne_true
theorem any_eqU {x : V} : ∀ {xs : List V} {us : List Value}, Vals xs us → xs.all flatV = true → us.any (eqU x) = xs.any fun y => eqV y x
  | _, _, .nil, _ => rfl
  | y :: xs, u :: us, .cons r t, f => by
    rw [List.all_cons, Bool.and_eq_true] at f
    rw [List.any_cons, List.any_cons, eqU_of r f.1, any_eqU t f.2]
theorem mem_eqAt {A : Around} {s : Shared} {x : V} {v : Value} (rx : RelV x v) (fx : flatV x = true) : ∀ {xs : List V} {us : List Value}, Vals xs us → xs.all flatV = true → ∀ u ∈ us, SeqAt.EqAt A s u v (eqU x u)
  | _, _, .nil, _ => fun u hu => by cases hu
  | y :: xs, u :: us, .cons r t, f => fun u' hu => by
    rw [List.all_cons, Bool.and_eq_true] at f
    rcases List.mem_cons.mp hu with rfl | hu
    · rw [eqU_of r f.1]; exact eqAt_V r rx f.1 fx
    · exact mem_eqAt rx fx t f.2 u' hu
def inV (x : V) (xs : List V) : Bool := xs.any fun y => eqV y x
/-- x in a list or tuple of flat items -/
def rIn (K : PySem.W.Frag) (neg : Bool) : R2 := fun x y H Q => ∃ p xs, y = .ref p ∧ (SqL K H p xs ∨ SqT K H p xs) ∧ flatV x = true ∧ xs.all flatV = true ∧ Q (.bl (if neg then !inV x xs else inV x xs)) H
theorem op_in_seq : OpR X (compareOp .In) (rIn X.K false) := by
  intro pins s σ H x y v u Q I rx ry h
  obtain ⟨p, xs, rfl, hq, fx, fs, q⟩ := h
  cases ry
  rcases hq with hq | hq
  · obtain ⟨its, r, pl, hz⟩ := I.list hq
    refine SeqAt.in_listAt (eqU x) pl.isList (fun w hw => mem_eqAt rx fx r fs w (by simpa using hw)) ⟨.bl _, H, I, rfl, ?_⟩
    rw [show its.toArray.any (eqU x) = its.any (eqU x) by simp, any_eqU r fs]
    exact q
  · obtain ⟨its, r, pl, hz⟩ := I.tuple hq
    refine SeqAt.in_tupleAt (eqU x) pl (fun w hw => mem_eqAt rx fx r fs w (by simpa using hw)) ⟨.bl _, H, I, rfl, ?_⟩
    rw [show its.toArray.any (eqU x) = its.any (eqU x) by simp, any_eqU r fs]
    exact q
/-! ### len, list(x), tuple(x) of any list or tuple that is read -/
theorem call_len_seq : CallR X (.builtin "len") (fun xs H Q => ∃ p ys, xs = [.ref p] ∧ (SqL X.K H p ys ∨ SqT X.K H p ys) ∧ Q (.int ys.length) H) := by
  intro pins s σ H xs us Q I r h
  obtain ⟨p, ys, rfl, hq, q⟩ := h
  obtain ⟨u, rfl, rx⟩ := vals1 r
  cases rx
  have hn := line63
  rcases hq with hq | hq
  · obtain ⟨its, r', pl, hz⟩ := I.list hq
    have hlen := r'.length
    exact Calls.call_len_list pl.isList (by simp only [List.size_toArray] <;> omega) ⟨.int ys.length, H, I.tok _, ⟨s.toks + 1, by rw [List.size_toArray, hlen]⟩, q⟩
  · obtain ⟨its, r', pl, hz⟩ := I.tuple hq
    have hlen := r'.length
    exact len_tuple pl (by simp only [List.size_toArray] <;> omega) ⟨.int ys.length, H, I.tok _, ⟨s.toks + 1, by rw [List.size_toArray, hlen]⟩, q⟩
theorem call_tuple_of : CallR X (.type "tuple") (fun xs H Q => ∃ p ys, xs = [.ref p] ∧ ((SqL X.K H p ys ∧ ∀ l, H l = none → Q (.ref l) (upd H l (.tup ys))) ∨ (SqT X.K H p ys ∧ Q (.ref p) H))) := by
  intro pins s σ H xs us Q I r h
  obtain ⟨p, ys, rfl, h⟩ := h
  obtain ⟨u, rfl, rx⟩ := vals1 r
  cases rx
  rcases h with ⟨hq, q⟩ | ⟨hq, q⟩
  · obtain ⟨its, r', pl, hz⟩ := I.list hq
    have hlen := r'.length
    refine call_tuple_list pl.isList (fun h' kp => ?_) (by simp only [List.size_toArray] <;> omega)
    have I1 : Inv X pins σ H { s with heap := h' } := I.kept (t' := s.toks) kp
    have I2 : Inv X pins σ (upd H h'.objs.size (.tup ys)) { s with heap := h'.push { cls := .type "tuple", data := .seq its.toArray } } :=
      I1.laid (t' := s.toks) (fun b o e => Heap.get?_push_of_some _ e) (Nat.le_refl _) (show ObjOk X.prog X.w _ _ _ (.tup ys) from ⟨hz, its, r', IsTup.new _ _, _, Heap.get?_push_size _ rfl, rfl⟩)
    exact ⟨.ref h'.objs.size, _, I2, rfl, q _ (I1.hok.fresh (Nat.le_refl _))⟩
  · obtain ⟨its, r', pl, hz⟩ := I.tuple hq
    exact call_tuple_same pl ⟨.ref p, H, I, rfl, q⟩

/-! ### the call of a builtin's method: o.m(..) -/
/-- the value is of that builtin type -/
def tyV (K : PySem.W.Frag) (T : String) (x : V) (H : Hp) : Prop := match x with
  | .str _ => T = "str"
  | .int _ => T = "int"
  | .ref p => (T = "list" ∧ ∃ xs, SqL K H p xs) ∨ (T = "tuple" ∧ ∃ o, K.lookup p = some o ∧ o.cls = .type "tuple" ∧ o.dict = none) ∨
      (T = "dict" ∧ ((∃ kvs, H p = some (.dK kvs)) ∨ ∃ kvs, H p = some (.dT kvs))) ∨ (T = "set" ∧ ∃ S n, H p = some (.set S n))
  | _ => False
theorem tyV_is {pins : List (Addr × Obj)} {σ : St} {H : Hp} {s : Shared} {T : String} {x : V} {v : Value} (I : Inv X pins σ H s) (r : RelV x v) (ty : tyV X.K T x H) :
    s.TypeIs v T ∧ ∀ a, v = .ref a → ∃ ob, s.heap.get? a = some ob ∧ ob.dict = none := by
  cases x with
  | str z =>
    obtain ⟨t, rfl⟩ := r
    cases (show T = "str" from ty)
    exact ⟨typeIs_str s z t, fun _ e => nomatch e⟩
  | int i =>
    obtain ⟨t, rfl⟩ := r
    cases (show T = "int" from ty)
    exact ⟨typeIs_int s i t, fun _ e => nomatch e⟩
  | ref p =>
    cases r
    rcases ty with ⟨rfl, xs, hq⟩ | ⟨rfl, o, hk, hc, hd⟩ | ⟨rfl, hk⟩ | ⟨rfl, S, n, hk⟩
    · obtain ⟨its, _, pl, _⟩ := I.list hq
      refine ⟨pl.isList.typeIs, fun a e => ?_⟩
      cases e
      obtain ⟨o, n, e, c, hd, _⟩ := pl
      exact ⟨o, e, hd⟩
    · refine ⟨⟨o, I.kIn p o hk, hc⟩, fun a e => ?_⟩
      cases e
      exact ⟨o, I.kIn _ o hk, hd⟩
    · have z : ∃ o, s.heap.get? p = some o ∧ o.ExactDict := by
        rcases hk with ⟨kvs, hk⟩ | ⟨kvs, hk⟩
        · obtain ⟨_, _, _, _, o, _, _, e, ex, _⟩ := I.hok p _ hk
          exact ⟨o, e, ex⟩
        · obtain ⟨_, _, _, _, o, _, _, e, ex, _⟩ := I.hok p _ hk
          exact ⟨o, e, ex⟩
      obtain ⟨o, e, ex⟩ := z
      refine ⟨⟨o, e, ex.1⟩, fun a e2 => ?_⟩
      cases e2
      exact ⟨o, e, ex.2.1⟩
    · obtain ⟨o, _, _, _, e, ex, _⟩ := I.hok p _ hk
      refine ⟨⟨o, e, ex.1⟩, fun a e2 => ?_⟩
      cases e2
      exact ⟨o, e, ex.2.1⟩
  | _ => exact False.elim ty
def tBM0 (K : PySem.W.Frag) (T : String) (r : V → List V → Hp → VK → Prop) (to : TE) : TE := fun σ H Q => to σ H fun x H1 => tyV K T x H1 ∧ r x [] H1 Q
def tBM (K : PySem.W.Frag) (T : String) (r : V → List V → Hp → VK → Prop) (to : TE) (t : TA) : TE := fun σ H Q => to σ H fun x H1 => tyV K T x H1 ∧ t σ H1 fun xs H2 => r x xs H2 Q
variable {o e : Expr} {es : List Expr} {to : TE} {t : TA} {name : Str} {apos cpos : Pos} {T id : String} {r : V → List V → Hp → VK → Prop}
theorem pe_bm (pa : PlainAttrs T) (slot : Slot T name id) (hty : typeOf (.builtin id) = pure (.type "method_descriptor")) (hm : MtR X id r) (ho : PE X o to) (ha : PA X (e :: es) t)
    (hbase : attributeBase o name X.env (eval o X.env) = eval o X.env := by rfl)
    (hfew : ((backTo cpos (starEach (e :: es) X.env)).all (fun x => !x.1) && (backToKw cpos (keywordEach [] X.env)).all (fun x => x.1.isSome)
      && decide ((e :: es).length + ([] : List Keyword).length + (if ([] : List Keyword).isEmpty then 0 else 1) < 30)) = true := by rfl)
    (hline : (apos.endLine == cpos.line) = true := by rfl) (hs : starEach (e :: es) X.env = (false, eval e X.env) :: starEach es X.env := by rfl) (hplain : (backTo cpos (starEach es X.env)).any (·.1) = false := by rfl) :
    PE X (.Call (.Attribute o name apos) (e :: es) [] cpos) (tBM X.K T r to t) := by
  intro pins s σ H Q I h
  refine wpAny_Call_method_late hbase hfew hline rfl (thn (ho pins s σ H _ I h) fun v s1 ⟨x, H1, I1, r1, ty, q1⟩ => ?_)
  obtain ⟨h1, h2⟩ := tyV_is I1 r1 ty
  refine ⟨T, id, pa, slot, hty, h1, h2, ?_⟩
  have hA := ha cpos pins s1 σ H1 _ I1 q1
  rw [hs] at hA ⊢
  refine Calls.callWith_builtin (by show (false || (backTo cpos (starEach es X.env)).any (·.1)) = false; rw [hplain] <;> rfl) (Calls.evalArgs_plain ?_)
  exact thn hA fun us s2 ⟨vs, H2, I2, r2, q2⟩ => hm pins s2 σ H2 x vs v us Q I2 r1 r2 q2
/- xs.append(e), list.index on a module's tuple .. are MtR facts of 06m -/
end
end L2

namespace L2
open PySem PySem.Spec PyProof.Rows

def MtM (X : Cx) (id : String) (r : V → List V → Hp → VK → Prop) : Prop :=
  ∀ (pins : List (Addr × Obj)) (s : Shared) (σ : St) (H : Hp) (x : V) (xs : List V) (v : Value) (us : List Value) (Q : VK), Inv X pins σ H s → RelV x v → Vals xs us → r x xs H Q →
    wpAny (model X.prog X.w) X.A (call (.builtin id) (v :: us)) (EP X pins σ Q) X.xe s

/-! ### lists of values -/
theorem Vals.one : ∀ {x : V} {us : List Value}, Vals [x] us → ∃ u, us = [u] ∧ RelV x u
  | _, _, .cons r .nil => ⟨_, rfl, r⟩
section
variable {X : Cx} {pins : List (Addr × Obj)} {σ : St} {H : Hp} {s : Shared} {l b : Addr} {xs ys zs : List V}

/-! ### the two steps: a tracked list is rewritten, a new list is laid -/
theorem Inv.lset {its its' : List Value} {n : Nat} {f : Array Value → Array Value} {t' : Nat} (I : Inv X pins σ H s) (hH : H l = some (.lst xs))
    (e : s.heap.get? l = some { cls := .type "list", data := .seq its.toArray n }) (hf : f its.toArray = its'.toArray) (hv : Vals ys its') (hz : ys.length ≤ sizeLine) :
    Inv X pins σ (upd H l (.lst ys)) { s with heap := s.heap.update l (Obj.mapSeq f), toks := t' } := by
  have q := PySem.IsL.update e f
  rw [hf] at q
  refine I.write (x := l) (e := l) (by rw [hH]; exact trivial) (.inl rfl) (fun b' u hb hu => (Heap.get?_update_other s.heap (Obj.mapSeq f) (Ne.symm hb)).trans hu) ⟨_, q⟩ ?_
  exact ⟨hz, its', _, hv, q⟩
theorem Inv.lnew {its : List Value} {t' : Nat} (I : Inv X pins σ H s) (hv : Vals ys its) (hz : ys.length ≤ sizeLine) :
    Inv X pins σ (upd H s.heap.objs.size (.lst ys)) { s with heap := s.heap.push { cls := .type "list", data := .seq its.toArray }, toks := t' } :=
  I.laid (fun _ _ q => Heap.get?_push_of_some _ q) (Nat.le_refl _) ⟨hz, its, 0, hv, Heap.get?_push_size _ rfl⟩
theorem Inv.fresh (I : Inv X pins σ H s) : H s.heap.objs.size = none := I.hok.fresh (Nat.le_refl _)
theorem Inv.lstM (I : Inv X pins σ H s) (hH : H l = some (.lst xs)) : xs.length ≤ sizeLine ∧ ∃ (its : List Value) (n : Nat), Vals xs its ∧ xs.length = its.length ∧ s.heap.get? l = some { cls := .type "list", data := .seq its.toArray n } := by
  obtain ⟨z, its, n, r, e⟩ := I.hok l _ hH
  exact ⟨z, its, n, r, r.length, e⟩

end

section
variable {X : Cx}

/-! ### methods -/
def rAppend : V → List V → Hp → VK → Prop := fun x vs H Q => ∃ l xs y, x = .ref l ∧ vs = [y] ∧ H l = some (.lst xs) ∧ xs.length < sizeLine ∧ Q .non (upd H l (.lst (xs ++ [y])))
theorem mt_append : MtM X "list.append" rAppend := by
  intro pins s σ H x vs v us Q I rx rv h
  obtain ⟨l, xs, y, rfl, rfl, hH, hz, q⟩ := h
  cases rx
  obtain ⟨u, rfl, ru⟩ := rv.one
  obtain ⟨z, its, n, r, hl, e⟩ := I.lstM hH
  refine call_meets F.slot_list_append ⟨_, e, rfl⟩ F.entry_list_append (F.args_list_append_2 _ _) (PySem.list_append l its.toArray n u (by rw [List.size_toArray]; omega)) ⟨e, ?_⟩
  refine ⟨.non, _, I.lset (its' := its ++ [u]) hH e (by simp) (r.append (.cons ru .nil)) ?_, rfl, q⟩
  rw [List.length_append, List.length_singleton]
  omega

def rExtend : V → List V → Hp → VK → Prop := fun x vs H Q => ∃ l b xs zs, x = .ref l ∧ vs = [.ref b] ∧ H l = some (.lst xs) ∧ H b = some (.lst zs) ∧ xs.length + zs.length ≤ sizeLine ∧ Q .non (upd H l (.lst (xs ++ zs)))
def rPop : V → List V → Hp → VK → Prop := fun x vs H Q => ∃ l xs y, x = .ref l ∧ vs = [] ∧ H l = some (.lst xs) ∧ xs[xs.length - 1]? = some y ∧ Q y (upd H l (.lst xs.dropLast))
def rPopAt : V → List V → Hp → VK → Prop := fun x vs H Q => ∃ l xs i k y, x = .ref l ∧ vs = [.int i] ∧ H l = some (.lst xs) ∧ -(2 ^ 63) ≤ i ∧ i < 2 ^ 63 ∧ seqIndex? i xs.length = some k ∧ xs[k]? = some y ∧ Q y (upd H l (.lst (xs.eraseIdx k)))
def rReverse : V → List V → Hp → VK → Prop := fun x vs H Q => ∃ l xs, x = .ref l ∧ vs = [] ∧ H l = some (.lst xs) ∧ Q .non (upd H l (.lst xs.reverse))
def rClear : V → List V → Hp → VK → Prop := fun x vs H Q => ∃ l xs, x = .ref l ∧ vs = [] ∧ H l = some (.lst xs) ∧ Q .non (upd H l (.lst []))
/-! ### list + list, list += list, list * int -/
def rCat : R2 := fun x y H Q => ∃ l b xs zs, x = .ref l ∧ y = .ref b ∧ H l = some (.lst xs) ∧ H b = some (.lst zs) ∧ xs.length + zs.length ≤ sizeLine ∧ ∀ p, H p = none → Q (.ref p) (upd H p (.lst (xs ++ zs)))
theorem op_cat : OpR X (binaryOp .Add) rCat := by
  intro pins s σ H x y v u Q I rx ry h
  obtain ⟨l, b, xs, zs, rfl, rfl, hH, hB, hz, q⟩ := h
  cases rx
  cases ry
  obtain ⟨z, its, n, r, hl, e⟩ := I.lstM hH
  obtain ⟨z2, its2, n2, r2, hl2, e2⟩ := I.lstM hB
  refine PySem.P.add_list e e2 ?_ (by rw [List.size_toArray, List.size_toArray]; omega)
  have ea : its.toArray ++ its2.toArray = (its ++ its2).toArray := by simp
  rw [ea]
  exact ⟨.ref _, _, I.lnew (t' := s.toks) (r.append r2) (by rw [List.length_append]; omega), rfl, q _ I.fresh⟩
/-- a list times an int (a negative one is nothing) -/
def rRep : R2 := fun x y H Q => ∃ l k xs, x = .ref l ∧ y = .int k ∧ H l = some (.lst xs) ∧ -(2 ^ 63) ≤ k ∧ k < 2 ^ 63 ∧ xs.length * k.toNat ≤ sizeLine ∧
  ∀ p, H p = none → Q (.ref p) (upd H p (.lst (List.replicate k.toNat xs).flatten))
/-! ### del xs[i] -/
end

/-! ### xs[a:b] = ys -/
section
variable {prog : Program} {w : World} {A : Around} {E : Value → Shared → Prop} {s : Shared}
end

section
variable {X : Cx}
end
end L2

namespace Att
open PySem PySem.W PySem.Calls PyProof.Rows

/-! ### the script -/
theorem ints_of_wellAll {P : Params} {h : Heap} : ∀ (ns : List Int) (vs : List Value), WellAll P h vs (ns.map WData.int) → IntsAre vs ns := by
  intro ns
  induction ns with
  | nil =>
    intro vs w
    rw [List.map_nil] at w
    cases w
    exact .nil
  | cons n ns ih =>
    intro vs w
    rw [List.map_cons] at w
    cases w with
    | cons a b =>
      cases a
      exact .cons _ _ (ih _ b)

theorem script_of {l : OpenLaw} {n : Nat} (hn : l.most = some n) {P : Params} {h : Heap} {args : List WData} {vals : List Value}
    (hpre : l.row.toRowW.claim.pre args = true) (hwl : WellAll P h vals args) :
    ∃ a vs ns, vals = [Value.ref a] ∧ args = [WData.list (ns.map WData.int)] ∧ h.get? a = some { cls := .type "list", data := .seq vs.toArray } ∧ IntsAre vs ns ∧ ns.length ≤ n := by
  have hsh : WShape.hasAll [] args [.list .int] = true := (pre_splitW hpre).1
  have hc : l.pre.holds [] { args := args } = true := (pre_splitW hpre).2
  obtain ⟨d, r, rfl, h1, h2⟩ := hasAllW_cons hsh
  obtain rfl := hasAllW_nil h2
  obtain ⟨xs, rfl, h3⟩ := hasW_list h1
  obtain ⟨ns, rfl⟩ := items_int h3
  have hlen : ns.length ≤ n := by
    unfold OpenLaw.pre at hc
    have h4 : (WTm.not (.lt (.lit (.int (n : Int))) (.len (.arg 0)))).holds [] { args := [.list (ns.map .int)] } = true := by
      have h4 := (holds_andW hc).1
      rw [hn] at h4
      exact h4
    have h5 := condW_of h4 (w_not (w_lt w_lit (w_len_list (w_arg rfl))))
    rw [List.length_map] at h5
    refine Nat.le_of_not_lt fun q => ?_
    have q' : (n : Int) < ((ns.length : Nat) : Int) := by omega
    first
      | (rw [decide_eq_true q'] at h5; exact absurd h5 (by decide))
      | (simp at h5; omega)
  cases hwl with
  | cons w1 w2 =>
    cases w2
    cases w1 with
    | list ho hall => exact ⟨_, _, ns, rfl, rfl, ho, ints_of_wellAll ns _ hall, hlen⟩

theorem post_true (l : OpenLaw) (args : List WData) : l.row.toRowW.claim.post args (.bool true) args = true :=
  postW_of (r := l.row.toRowW) (X := (true == true))
    (show WShape.has [] (.bool true) .bool = true by first | rfl | decide | simp [WShape.has, WShape.arms, WShape.armsAll])
    (show (WTm.eq .res (.lit (.bool true))).value [] { args := args, res := some (.bool true), after := args } = some (.bool (true == true)) from w_eq_bool (w_res rfl) w_lit) rfl

/-! ### the attachment: holds_open's last premise (the goal 'hc' behind k_head) from a wpAny of the law's body -/
/-- the same from a codeAny of the CALL (for a layer whose function contracts speak of calls) -/
theorem attach_call {l : OpenLaw} {n : Nat} {q : Program} {loose : List Str} {XP : (Str → Option Value) → Heap → Prop} {YP : World → Heap → Prop} {d : DefRec}
    (hn : l.most = some n) (hdf : d.params.defaults = [])
    (call : ∀ (w : World) (s₀ s₁ : Shared) (mg mb : Str → Option Value) (fa : Addr) (o : Obj) (pm cd doc : Value) (a : Addr) (vs : List Value) (ns : List Int),
      Ground q loose [] XP w s₀ mg mb s₁.heap → YP w s₁.heap →
      s₁.heap.get? fa = some o → o.data = .func (docDef d.name d.params d.body d.scope pm cd doc) → s₁.heap.CodeRec cd d.name → mg d.name = some (.ref fa) →
      s₁.heap.get? a = some { cls := .type "list", data := .seq vs.toArray } → IntsAre vs ns → ns.length ≤ n → s₁.gens = #[] →
      codeAny (model l.prog w) callerA (.call (.ref fa) ⟨[.ref a], []⟩) (fun r s' => r = .ok (.ret (.bool true)) ∧ OldK s₁.heap s'.heap ∧ s'.os = s₁.os ∧ AllBare s'.gens) s₁) :
    WalkO q loose XP YP l.row.toRowW d [] (fun f vs => PySem.call f vs) := by
  intro w s₀ s₁ mg mb G Y fa o pm cd doc dV kV ho hd hcd hD hmg hg args vals as hpre hlay hrd hwl hlo
  obtain rfl : dV = .none := Dflts.none hD hdf
  obtain rfl : kV = .none := Dflts.noKw hD
  obtain ⟨a, vs, ns, rfl, rfl, hobj, hints, hlen⟩ := script_of hn hpre hwl
  refine enter_call (codeAny_mono (call w s₀ s₁ mg mb fa o pm cd doc a vs ns G Y ho (fd_plain hd) hcd hmg hobj hints hlen hg) fun r s' hq => ?_)
  obtain ⟨rfl, h2, h3, h4⟩ := hq
  exact ⟨.inl ⟨.bool true, .bool true, [], rfl, fun _ => rfl, .bool true, post_true l _, fun _ => ⟨List.Pairwise.nil, fun _ hm => (nomatch hm)⟩⟩, h2, h3, h4⟩

/-! ### rules over ANY heap (no ledger) from facts about the written part K: the library's own take a ledger (News) for what they write -/
section
variable {prog : Program} {w : World} {A : Around} {E : Value → Shared → Prop} {s : Shared} {K : Frag}

/-! the whole heap as the ledger: makes every rule that writes through a ledger a rule over any heap -/
def noObjs (h : Heap) : Heap := { h with objs := #[] }
def ledger (h : Heap) (L d : Addr) : List (Addr × Obj) := (List.range h.objs.size).filterMap fun a => if a = L ∨ a = d then none else (h.get? a).map fun o => (a, o)
end
end Att

namespace L2
open PySem PySem.Spec PyProof.Rows

theorem vals_ints : ∀ {vs : List Value} {ns : List Int}, IntsAre vs ns → Vals (ns.map V.int) vs
  | _, _, .nil => .nil
  | _, _, .cons n t h => .cons ⟨t, rfl⟩ (vals_ints h)

/-- nothing is tracked but the script, known to the object (or it is an object of the module) -/
def Only (H : Hp) : Prop := ∀ b, H b = none ∨ ∃ o xs, H b = some (.frz o (.lst xs))

/-- THE HEAD: the law's promise, at the heap behind the top. F, the promise of the law's def, may use that base is part of the heap (so K.In base, base.Ns mainGlobals mg stand in Mod) -/
theorem law_call {P : Program} {w : World} {K : PySem.W.Frag} {mg mb : Str → Option Value} {CX : CXT} {k : Nat} {fa a : Addr} {fd : FuncData} {x : Str} {sp : Sp} {s₁ : Shared} {vs : List Value} {ns : List Int}
    (KX : K.In s₁.heap) (hns : s₁.heap.Ns mainGlobals mg) (hb : s₁.heap.Ns builtinsNs mb) (hbb : ∀ x : Str, x ≠ "__name__" → mb x = bootBuiltins x) (hlim : s₁.heap.NoLimit) (hg : s₁.gens = #[])
    (ha : s₁.heap.get? a = some { cls := .type "list", data := .seq vs.toArray }) (hi : IntsAre vs ns) (hl : ns.length ≤ sizeLine) (hr : Room k callerA)
    (F : ∀ base : Heap, K.In base → base.Ns mainGlobals mg → FnOk P w K mg base CX k fa fd [x] sp) (hbind : ∀ (s : Shared) (u : Value), BindsTo s fd ⟨[u], []⟩ [(x, u)])
    (hsp : ∀ H : Hp, Only H → SqL K H a (ns.map V.int) → sp [.ref a] H (fun v _ => v = .bl true) fun _ _ _ => False)
    (hCX : ∀ H e s', CX [] H s₁ (fun _ _ _ => False) e s' → False) :
    codeAny (model P w) callerA (.call (.ref fa) ⟨[.ref a], []⟩) (fun r s' => r = .ok (.ret (.bool true)) ∧ OldK s₁.heap s'.heap ∧ s'.os = s₁.os ∧ AllBare s'.gens) s₁ := by
  have rv := vals_ints hi
  have lenV := hi.length
  -- from an abstract heap in which nothing but the script may be tracked
  have core : ∀ H : Hp, Only H → SqL K H a (ns.map V.int) → HOk P w H s₁.heap → (∀ b, H b ≠ none → b = a) → (H a ≠ none → K.lookup a = none) →
      codeAny (model P w) callerA (.call (.ref fa) ⟨[.ref a], []⟩) (fun r s' => r = .ok (.ret (.bool true)) ∧ OldK s₁.heap s'.heap ∧ s'.os = s₁.os ∧ AllBare s'.gens) s₁ := by
    intro H hO hS hok hA hK
    have base_of : ∀ {b : Addr} {o : Obj}, s₁.heap.get? b = some o → H b = none → (hidT s₁.heap H).get? b = some o := fun e n => hidT_get e n
    have noA : ∀ {b : Addr} {o : Obj} {es : Array DictEntry} {ep : Nat}, s₁.heap.get? b = some o → o.data = .dict es ep → H b = none := fun {b o es ep} e d => by
      cases q : H b with
      | none => rfl
      | some u =>
        have e' : b = a := hA b (by rw [q]; simp)
        subst e'
        rw [ha] at e; cases e
        have d' : Data.seq vs.toArray _ = Data.dict es ep := d
        cases d'
    have nsK : ∀ {b : Addr} {m : Str → Option Value}, s₁.heap.Ns b m → (hidT s₁.heap H).Ns b m := fun {b m} ⟨o, es, ep, e, d, r⟩ => ⟨o, es, ep, base_of e (noA e d), d, r⟩
    have hKb : K.In (hidT s₁.heap H) := fun b o e => base_of (KX b o e) (by
      cases q : H b with
      | none => rfl
      | some u =>
        have e' : b = a := hA b (by rw [q]; simp)
        subst e'
        rw [hK (by rw [q]; simp)] at e; cases e)
    have hM : Mod K mg (hidT s₁.heap H) := ⟨hKb, nsK hns, ⟨mb, nsK hb, hbb⟩, let ⟨mc, h1, h2⟩ := hlim; ⟨mc, nsK h1, h2⟩⟩
    have e0 : Env0 P w K mg (hidT s₁.heap H) callerA [] s₁ H := ⟨rfl, hM, fun b o e => of_hidT e, Nat.le_of_eq (hidT_size _ _), trivial, fun b hb => absurd (show b ∈ ([] : List Addr) from hb) (by simp), hok, .of_eq hg⟩
    refine codeAny_mono ((F _ hKb (nsK hns)).run callerA [] s₁ H ⟨[.ref a], []⟩ [.ref a] [.ref a] _ _ hr e0 (hbind s₁ (.ref a)) (.cons rfl .nil) (hsp H hO hS)) fun r s' h => ?_
    cases r with
    | error e => exact (hCX H e s' h).elim
    | ok fl =>
      cases fl with
      | next => exact False.elim h
      | brk => exact False.elim h
      | cont => exact False.elim h
      | ret u =>
        obtain ⟨v, H', os, bare, un, hok', r', q⟩ := h
        have q' : v = .bl true := q
        subst q'
        obtain rfl : u = Value.bool true := r'
        refine ⟨rfl, OldK.of_keep fun b o e => ?_, os, bare⟩
        cases q : H b with
        | none => exact un.keep b o e q (by intro z; exact absurd (show b ∈ ([] : List Addr) from z) (by simp)) (by simp)
        | some u =>
          rcases hO b with z | ⟨ob, xs, z⟩
          · rw [q] at z; cases z
          · have z2 := un.frzs b ob _ z
            obtain ⟨e1, _⟩ := hok b _ z
            obtain ⟨e2, _⟩ := hok' b _ z2
            rw [e] at e1; cases e1
            exact e2
  cases hk : K.lookup a with
  | some o =>
    -- the script is one of the module's own objects
    have e := KX a o hk
    rw [ha] at e
    cases e
    refine core (fun _ => none) (fun _ => .inl rfl) (.inr ⟨_, vs.toArray, _, hk, rfl, rfl, rfl, by rw [List.size_toArray, lenV]; exact hl, by simpa using rv⟩) (fun b u z => by have z' : (none : Option HO) = some u := z; cases z') (fun b z => absurd rfl z) fun z => absurd rfl z
  | none =>
    refine core (fun b => if b = a then some (.frz { cls := .type "list", data := .seq vs.toArray } (.lst (ns.map V.int))) else none) (fun b => ?_) (.inl (.inr ⟨{ cls := .type "list", data := .seq vs.toArray }, if_pos rfl⟩)) (fun b u z => ?_) (fun b z => ?_) fun _ => hk
    · by_cases hb : b = a
      · exact .inr ⟨_, _, if_pos hb⟩
      · exact .inl (if_neg hb)
    · by_cases hb : b = a
      · have z' := (if_pos hb).symm.trans z
        cases z'
        subst hb
        exact ⟨ha, by rw [List.length_map]; exact hl, vs, _, rv, ha⟩
      · have z' := (if_neg hb).symm.trans z
        cases z'
    · by_cases hb : b = a
      · exact hb
      · exact absurd (if_neg hb) z
end L2

namespace L2
open PySem PySem.Spec PyProof.Rows

abbrev KOf {K : PySem.W.Frag} {h : Heap} (_ : K.In h) : PySem.W.Frag := K

/-- the goal that k_head leaves (case hc), from the law's promise. F gives the function object fd (K's own) once, then the promise over every base -/
theorem walk_of {l : PySem.W.OpenLaw} {n k : Nat} {q : Program} {loose : List Str} {XP : (Str → Option Value) → Heap → Prop} {YP : World → Heap → Prop} {d : DefRec} {K : Params → PySem.W.Frag} {CX : World → CXT} {sp : World → Sp} {x : Str}
    (hn : l.most = some n) (hn2 : n ≤ sizeLine) (hdf : d.params.defaults = []) (hr : Room k callerA)
    (hY : ∀ (w : World) (h : Heap), YP w h → (K w.params).In h)
    (F : ∀ (w : World) (mg : Str → Option Value) (fa : Addr) (h : Heap), (K w.params).In h → h.Ns mainGlobals mg → mg d.name = some (.ref fa) →
      ∃ fd : FuncData, (∀ (s : Shared) (u : Value), BindsTo s fd ⟨[u], []⟩ [(x, u)]) ∧
        ∀ base : Heap, (K w.params).In base → base.Ns mainGlobals mg → FnOk l.prog w (K w.params) mg base (CX w) k fa fd [x] (sp w))
    (hsp : ∀ (w : World) (H : Hp) (a : Addr) (ns : List Int), ns.length ≤ n → Only H → SqL (K w.params) H a (ns.map V.int) → sp w [.ref a] H (fun v _ => v = .bl true) fun _ _ _ => False)
    (hCX : ∀ (w : World) (H : Hp) (s : Shared) (e : Value) (s' : Shared), CX w [] H s (fun _ _ _ => False) e s' → False) :
    PySem.W.WalkO q loose XP YP l.row.toRowW d [] (fun f vs => PySem.call f vs) := by
  refine Att.attach_call hn hdf fun w s₀ s₁ mg mb fa o pm cd doc a vs ns G Y ho hd hcd hmg hobj hints hlen hg => ?_
  have KX := hY w _ Y
  obtain ⟨fd, hb, hF⟩ := F w mg fa _ KX G.T.g hmg
  exact law_call KX G.T.g G.T.b G.T.builtins G.T.nolimit hg hobj hints (Nat.le_trans hlen hn2) hr hF hb (fun H hO hS => hsp w H a ns hlen hO hS) fun H e s' => hCX w H s₁ e s'
end L2

/- THE LAST THEOREM (shape; LID, My.* are yours):
   My.Adr: a structure of the addresses that your layer names (classes, functions); My.Txt K t: a structure (Prop) of the equations over K;
   My.txt_mk : {K} {implicit addresses ..} (e1 : nsIn K mainGlobals "law" = some (some (.ref f))) (e2 : K.lookup f = some ⟨oc, od, .func (fnOf "law" "law" params body scope dV kV doc pm an cdv ct), sl⟩) (e3 : codeIn K cdv "law" = true) .. : ∃ t, My.Txt K t

set_option maxRecDepth 100000 in
set_option maxHeartbeats 0 in
theorem PySem.Challenge.cw_LID_holds : PySem.Challenge.rw_LID.Holds := by
  w_on; o_law; k_head; (case hw => w_witness2)
  k_fill
  refine L2.walk_of (l := PySem.Challenge.rw_LID) (n := 63) (k := 40) (x := "script") (CX := fun w => ..) (sp := fun _ => My.sp_law) rfl (by decide) rfl ⟨rfl, by decide, by decide⟩ (fun w h Y => PySem.W.kIn_of Y) ?F ?S ?C
  case F =>
    intro w mg fa h KX G hmg
    have T : ∃ t, My.Txt (L2.KOf KX) t := by
      dsimp only [L2.KOf]                          -- K must stand as «<heap const> w.params» for k_is
      refine' My.txt_mk ?e1 ?e2 ?e3 ..
      (case e1 => PySem.W.k_is)                    -- in the order: a name -> its address -> its object -> its parts
      (case e2 => PySem.W.k_is)
      ..
    obtain ⟨t, T⟩ := T
    have e0 := hmg.symm.trans (PySem.W.mg_of KX G T.law)
    cases e0                                       -- fa is the law's own address
    exact ⟨_, fun s u => .of_eq rfl, fun base kb nb => My.law_fn T kb nb⟩     -- if «.of_eq rfl» comes too early: refine' ⟨_, ?b, fun base kb nb => My.law_fn T kb nb⟩; exact fun s u => .of_eq rfl
  case S => exact fun w H a ns hl hO hS => ..
  case C => exact ..
(the tactic k_is has no namespace: write k_is) -/

/-! SHORT WORDS over the layer: a def of the text, its body, what a loop and a test want. -/
namespace L2
open PySem PySem.Spec PyProof.Rows

/-! ### the text by places -/
/-- the j-th statement of a class's body -/
def inClass (s : Stmt) (j : Nat) : Stmt := match s with
  | .ClassDef _ _ _ body _ _ _ _ _ _ _ => body.getD j (.Pass ⟨0, 0, 0, 0⟩)
  | _ => .Pass ⟨0, 0, 0, 0⟩
def defArgs (s : Stmt) : Arguments := match s with
  | .FunctionDef _ a _ _ _ _ _ _ _ _ => a
  | _ => { posonlyargs := [], args := [], vararg := none, kwonlyargs := [], kw_defaults := [], kwarg := none, defaults := [] }
def defBody (s : Stmt) : List Stmt := match s with
  | .FunctionDef _ _ b _ _ _ _ _ _ _ => b
  | _ => []
def defScope (s : Stmt) : Scope := match s with
  | .FunctionDef _ _ _ _ _ _ sc _ _ _ => sc
  | _ => { kind := .function, names := [], isGenerator := false, isCoroutine := false }

/-! ### no exception leaves a def -/
abbrev CX0 : CXT := fun _ _ _ _ _ _ => False
abbrev E0 : XK := fun _ _ _ => False
theorem pass0 {X : Cx} : Passes CX0 X E0 := fun _ _ _ _ _ _ _ h => h.elim

/-! ### a def (or method) of the text as it stands behind the top -/
structure Fun (K : PySem.W.Frag) (x qual : Str) (st : Stmt) (f : Addr) (fd : FuncData) : Prop where
  ex : ∃ (oc : Value) (od : Option Addr) (kV doc pm : Value) (an : Option Addr) (cdv ct : Value) (osl : Array (Option Value)),
    fd = PySem.W.fnOf x qual (defArgs st) (defBody st) (defScope st) .none kV doc pm an cdv ct ∧ K.lookup f = some ⟨oc, od, .func fd, osl⟩ ∧ PySem.W.codeIn K cdv qual = true
  kp : PySem.W.keepIn K (.ref f) = true
section
variable {P : Program} {w : World} {K : PySem.W.Frag} {mg : Str → Option Value} {base : Heap}
/-- THE RULE for a def: its body as a term of rules, and the reading of that term -/
theorem Fun.ok {x qual : Str} {st : Stmt} {f : Addr} {fd : FuncData} {N ps : List Str} {k : Nat} {sp : Sp} (F : Fun K x qual st f fd) (S : FnScope N ps (defScope st)) (len : ∀ vs H Q E, sp vs H Q E → vs.length = ps.length)
    (hbody : ∀ (cdv : Value) (A : Around) (outer : List Env) (s : Shared) (H : Hp) (vs : List V) (Q : VK) (E : XK), Room k (A.deeper (envOfC qual (defScope st) s.heap.objs.size f cdv)) → sp vs H Q E →
      ∃ t, PSs (cxOf CX0 P w K mg base N qual (defScope st) f cdv A outer s H E).nox (defBody st) t ∧ t { nx := fun _ H' => Q .non H', rt := Q } (start N vs) H) : FnOk P w K mg base CX0 (k + 1) f fd ps sp := by
  obtain ⟨oc, od, kV, doc, pm, an, cdv, ct, osl, rfl, lk, hcd⟩ := F.ex
  refine fn_of lk hcd S len fun A outer s H vs Q E hr hsp => ?_
  obtain ⟨t, h, q⟩ := hbody cdv A outer s H vs Q E hr hsp
  exact ⟨t, h.nox, q⟩
/-- how its arguments bind (no defaults): h is «fun _ _ _ _ _ _ us hl => match us, hl with | [_, _], _ => rfl», one _ a parameter -/
theorem Fun.binds {x qual : Str} {st : Stmt} {f : Addr} {fd : FuncData} {ps : List Str} (F : Fun K x qual st f fd)
    (h : ∀ (kV doc pm : Value) (an : Option Addr) (cdv ct : Value) (us : List Value), us.length = ps.length → bindArgs (PySem.W.fnOf x qual (defArgs st) (defBody st) (defScope st) .none kV doc pm an cdv ct) ⟨us, []⟩ = pure (ps.zip us)) : Binds K fd ps [] := by
  obtain ⟨oc, od, kV, doc, pm, an, cdv, ct, osl, rfl, lk, hcd⟩ := F.ex
  exact .all (h kV doc pm an cdv ct)
theorem fun_mk {x qual : Str} {st : Stmt} {f : Addr} {oc : Value} {od an : Option Addr} {osl : Array (Option Value)} {kV doc pm cdv ct : Value} (l : K.lookup f = some ⟨oc, od, .func (PySem.W.fnOf x qual (defArgs st) (defBody st) (defScope st) .none kV doc pm an cdv ct), osl⟩)
    (c : PySem.W.codeIn K cdv qual = true) (k : PySem.W.keepIn K (.ref f) = true) : Fun K x qual st f (PySem.W.fnOf x qual (defArgs st) (defBody st) (defScope st) .none kV doc pm an cdv ct) := ⟨⟨oc, od, kV, doc, pm, an, cdv, ct, osl, rfl, l, c⟩, k⟩
end
theorem small1000 {n : Nat} (h : n ≤ 1000) : n < sizeLine := Nat.lt_of_le_of_lt h (by decide)

/-! ### expressions in short: the name that stands in the i-th slot -/
section
variable {X : Cx}
theorem pv (i : Nat) {x : Str} {pos : Pos} (hN : X.N[i]? = some x := by rfl) (hv : Vis X.env.scope x := by first | exact Or.inl rfl | exact Or.inr (Or.inl rfl) | exact Or.inr (Or.inr rfl)) (hd : (x == ("__debug__" : Str)) = false := by decide)
    (hcd : (x == ("__classdict__" : Str)) = false := by decide) : PE X (.Name x pos) (tVar i) := pe_var hN hv hd hcd
end

/-! ### tests -/
theorem iteF {A B : Prop} (h : B) : if false = true then A else B := by
  rw [if_neg Bool.false_ne_true]
  exact h
theorem iteT {A B : Prop} (h : A) : if true = true then A else B := by
  rw [if_pos rfl]
  exact h
theorem ite2 {c A B : Prop} [Decidable c] (h1 : c → A) (h2 : ¬ c → B) : if c then A else B := by
  by_cases h : c
  · rw [if_pos h]
    exact h1 h
  · rw [if_neg h]
    exact h2 h
/-! ### heaps -/
/-- all that was tracked is as it was -/
def Same (H H' : Hp) : Prop := ∀ b o, H b = some o → H' b = some o
theorem Same.refl (H : Hp) : Same H H := fun _ _ h => h
theorem Same.trans {H H1 H2 : Hp} (a : Same H H1) (b : Same H1 H2) : Same H H2 := fun c o h => b c o (a c o h)
theorem Same.free {H H' : Hp} (e : Same H H') {l : Addr} (h : H' l = Option.none) : H l = Option.none := by
  cases q : H l with
  | none => rfl
  | some o =>
    rw [e l o q] at h
    cases h
theorem Same.seq {K : PySem.W.Frag} {H H' : Hp} {a : Addr} {xs : List V} (e : Same H H') (h : SqL K H a xs) : SqL K H' a xs := by
  rcases h with (h | ⟨o, h⟩) | h
  · exact .inl (.inl (e _ _ h))
  · exact .inl (.inr ⟨o, e _ _ h⟩)
  · exact .inr h

end L2

set_option maxHeartbeats 4000000
namespace L2
open PySem PySem.Spec PyProof.Rows
section
variable {X : Cx}
/-- isinstance of a value against one built-in class -/
theorem call_isinst : CallR X (.builtin "isinstance") (fun xs H Q => ∃ x t n b, xs = [x, .ty n] ∧ TyOf X.K H x t ∧ PySem.W.kitOne X.K t (.type n) = some b ∧ Q (.bl b) H) := by
  intro pins s σ H xs us Q I r h
  obtain ⟨x, t, n, b, rfl, ty, e, q⟩ := h
  obtain ⟨u, w', rfl, r1, r2⟩ := vals2 r
  cases r2
  exact isinst_ok I r1 ty e (fun tk => ⟨.bl b, H, I.tok tk, rfl, q⟩)
theorem kit_self (K : PySem.W.Frag) (n : String) : PySem.W.kitOne K (.type n) (.type n) = some true := by
  unfold PySem.W.kitOne
  rw [if_pos (by simp)]
theorem kit_int_bool (K : PySem.W.Frag) : PySem.W.kitOne K (.type "int") (.type "bool") = some false := by
  show (if ((Value.type "int" == Value.type "bool") = true) then some true else if PySem.W.kitMeta "bool" = true then ((fastBuiltinMro "int").map (·.contains (.type "bool"))) else none) = some false
  decide +kernel
/-- // by a divisor that is no giant -/
def CDivL (_ j : Int) : Prop := 0 < j ∧ j < 2 ^ 63
theorem op_fdivL : OpR X (binaryOp .FloorDiv) (rI CDivL fun i j => .int (i / j)) := opI fun i j _ _ _ _ _ hc q => by
  have e : Int.fdiv i j = i / j := Int.fdiv_eq_ediv_of_nonneg i (Int.le_of_lt hc.1)
  rw [← e] at q
  refine floordiv_int (by have := hc.1; omega) q (.inl (PyProof.noPylong_of_log2 ?_))
  have h1 := hc.1
  have h2 := hc.2
  have h3 : j.natAbs < 2 ^ 63 := by omega
  have h4 := (Nat.log2_lt (n := j.natAbs) (k := 63) (by omega)).mpr h3
  omega
end

theorem boot_int' : bootBuiltins "int" = some (.type "int") := by decide +kernel
theorem boot_bool' : bootBuiltins "bool" = some (.type "bool") := by decide +kernel
theorem boot_tuple' : bootBuiltins "tuple" = some (.type "tuple") := by decide +kernel
/-! a def of the text, as its callers see it -/
structure Cal (P : Program) (w : World) (K : PySem.W.Frag) (mg : Str → Option Value) (base : Heap) (n : Nat) (x : Str) (ps : List Str) (sp : Sp) : Prop where
  ex : ∃ (f : Addr) (fd : FuncData), FnOk P w K mg base CX0 n f fd ps sp ∧ Binds K fd ps [] ∧ PySem.W.keepIn K (.ref f) = true ∧ mg x = some (.ref f)
theorem pe_cal {X : Cx} {n k : Nat} {x : Str} {ps : List Str} {sp : Sp} {e : Expr} {es : List Expr} {t : TA} {p pos : Pos} (C : Cal X.prog X.w X.K X.mg X.base n x ps sp) (hr : Room k X.A) (hk : n ≤ k) (hg : Gl X x)
    (ha : PA X (e :: es) t) (hdb : (x == ("__debug__" : Str)) = false := by decide) (he : starEach (e :: es) X.env = (false, eval e X.env) :: starEach es X.env := by rfl) (hpl : (backTo pos (starEach es X.env)).any (·.1) = false := by rfl) :
    PE X (.Call (.Name x p) (e :: es) [] pos) (tCall sp [] E0 t) := by
  obtain ⟨f, fd, F, b, kp, m⟩ := C.ex
  exact pe_call F (hr.mono hk) hg m kp b .nil pass0 ha hdb he hpl
theorem Cal.of {P : Program} {w : World} {K : PySem.W.Frag} {mg : Str → Option Value} {base : Heap} {n : Nat} {x qual : Str} {ps : List Str} {sp : Sp} {st : Stmt} {f : Addr} {fd : FuncData} (F : Fun K x qual st f fd) (O : FnOk P w K mg base CX0 n f fd ps sp) (m : mg x = some (.ref f))
    (h : ∀ (kV doc pm : Value) (an : Option Addr) (cdv ct : Value) (us : List Value), us.length = ps.length → bindArgs (PySem.W.fnOf x qual (defArgs st) (defBody st) (defScope st) .none kV doc pm an cdv ct) ⟨us, []⟩ = pure (ps.zip us)) : Cal P w K mg base n x ps sp :=
  ⟨f, fd, O, F.binds h, F.kp, m⟩

theorem iteD {c A B : Prop} [Decidable c] (hc : c) (h : A) : if decide c = true then A else B := by
  rw [decide_eq_true hc]
  exact iteT h
theorem iteDF {c A B : Prop} [Decidable c] (hc : ¬ c) (h : B) : if decide c = true then A else B := by
  rw [decide_eq_false hc]
  exact iteF h

/-! heaps: all but f is as it was -/
def SameBut (f : Addr) (H H' : Hp) : Prop := ∀ b o, b ≠ f → H b = some o → H' b = some o
theorem SameBut.trans {f : Addr} {H H1 H2 : Hp} (a : SameBut f H H1) (b : SameBut f H1 H2) : SameBut f H H2 := fun c o h e => b c o h (a c o h e)
theorem SameBut.refl (f : Addr) (H : Hp) : SameBut f H H := fun _ _ _ h => h
theorem SameBut.of {f : Addr} {H H' : Hp} (h : Same H H') : SameBut f H H' := fun b o _ e => h b o e
theorem SameBut.upd {f : Addr} {H : Hp} (o : HO) : SameBut f H (upd H f o) := fun b u h e => by rw [upd_ne h]; exact e
theorem Same.new {H : Hp} {p : Addr} (h : H p = none) (o : HO) : Same H (upd H p o) := fun b u q => by rw [upd_ne (ne_of_none q h)]; exact q
/-! the law's own row of draws: a list of two ints -/
def FeedAt (H : Hp) (f : Addr) : Prop := ∃ own st : Int, H f = some (.lst [.int own, .int st]) ∧ 0 ≤ own ∧ 0 ≤ st ∧ st ≤ 2147483646
theorem FeedAt.ne {H : Hp} {f b : Addr} (F : FeedAt H f) (h : H b = none) : b ≠ f := by
  obtain ⟨o, s, e, _⟩ := F
  intro z
  subst z
  rw [h] at e
  cases e
theorem FeedAt.same {H H' : Hp} {f : Addr} (F : FeedAt H f) (s : Same H H') : FeedAt H' f := by
  obtain ⟨o, t, e, h⟩ := F
  exact ⟨o, t, s _ _ e, h⟩
def spTake : Sp := fun vs H Q _ => ∃ (f : Addr) (m : Int), vs = [.ref f, .int m] ∧ FeedAt H f ∧ 0 < m ∧ m < 2 ^ 63 ∧ ∀ (d : Int) (H' : Hp), 0 ≤ d → d < m → FeedAt H' f → SameBut f H H' → Q (.int d) H'
def spFeed (K : PySem.W.Frag) : Sp := fun vs H Q _ => ∃ (a : Addr) (ns : List Int) (k : Int), vs = [.ref a, .int k] ∧ SqL K H a (ns.map V.int) ∧ ns.length ≤ 63 ∧ 0 ≤ k ∧ k < 1000000 ∧ ∀ (p : Addr) (H' : Hp), H p = none → Same H H' → FeedAt H' p → Q (.ref p) H'
def spLaw (K : PySem.W.Frag) : Sp := fun vs H Q _ => ∃ (a : Addr) (ns : List Int), vs = [.ref a] ∧ SqL K H a (ns.map V.int) ∧ ns.length ≤ 63 ∧ ∀ H', Q (.bl true) H'
theorem small {n : Nat} (h : n ≤ 1000) : n ≤ sizeLine := Nat.le_of_lt (small1000 h)
theorem at_int {ns : List Int} {k : Int} (h0 : 0 ≤ k) (h : k < (ns.length : Int)) : ∃ v : Int, atI (ns.map V.int) k = some (.int v) := by
  have hk : k.toNat < ns.length := by omega
  have q : atI (ns.map V.int) ((k.toNat : Nat) : Int) = some (.int ns[k.toNat]) := atI_nat (by rw [List.getElem?_map, List.getElem?_eq_getElem hk] <;> rfl)
  have ek : ((k.toNat : Nat) : Int) = k := by omega
  rw [ek] at q
  exact ⟨_, q⟩
end L2

namespace L2
open PySem PySem.Spec PyProof.Rows

/-! ### [elt for x in iter if ..]: the block -/
@[reducible] def cxComp (X : Cx) (N : List Str) (scope : Scope) (cl : List (Str × Addr)) (s : Shared) (H : Hp) (fp : List Addr) : Cx where
  prog := X.prog
  w := X.w
  K := X.K
  mg := X.mg
  base := X.base
  A := X.A
  N := N
  s₀ := s
  H₀ := H
  env := compEnvC scope cl s.heap.objs.size X.env
  outer := X.stack
  stack := X.stack
  ex := fp
  fn := fun _ => false
  calm := X.calm
  pn := []
  xe := fun _ _ => False

/-- the block's own name x, the def's names N that it sees (all cells there), their places ix among the def's names -/
structure CompScope (X : Cx) (x : Str) (N : List Str) (ix : List Nat) (scope : Scope) (cl : List (Str × Addr)) : Prop where
  clos : closureFor scope X.env = pure cl
  nocell : ∀ y ∈ scope.names, y.2 ≠ .cell
  kind : scope.kind = .function
  names : ∀ y ∈ scope.names, y.2 = .local → scope.names.lookup y.1 = some .local
  own : scope.names.lookup x = some .local
  nd : (x :: N).Nodup
  sub : ∀ p ∈ cl, X.env.cells.lookup p.1 = some p.2
  has : ((relabel scope X.env).names.all fun p => !(p.2 == .cell || p.2 == .free) || (cl.lookup p.1).isSome) = true
  outs : ∀ (j : Nat) (y : Str), N[j]? = some y → (relabel scope X.env).names.lookup y = some .cell ∧ ∃ k c, ix[j]? = some k ∧ X.N[k]? = some y ∧ cl.lookup y = some c ∧ X.env.scope.names.lookup y = some .cell

/-- the def's values that the block sees -/
def outs (ix : List Nat) (σ : St) : St := ix.map fun k => (σ[k]?).join

section
variable {X : Cx} {pins : List (Addr × Obj)} {σ : St} {x : Str} {N : List Str} {ix : List Nat} {scope : Scope} {cl : List (Str × Addr)} {fp : List Addr} {H3 : Hp} {s3 : Shared}

theorem CompScope.cells (S : CompScope X x N ix scope cl) {y : Str} {c : Addr} (h : cl.lookup y = some c) : X.env.cells.lookup y = some c := S.sub _ (PySem.mem_of_lookup h)

theorem comp_cx (S : CompScope X x N ix scope cl) (I3 : Inv X pins σ H3 s3) (hf : ∀ b ∈ fp, FpOk X pins H3 b) (hlt : ∀ b ∈ fp, b < s3.heap.objs.size) : (cxComp X (x :: N) scope cl s3 H3 fp).Ok where
  mod := I3.ok.mod
  kind := S.kind
  glob := I3.ok.glob
  blt := I3.ok.blt
  above := Nat.le_refl _
  inj := fun y z c h1 h2 => I3.ok.inj y z c (S.cells h1) (S.cells h2)
  has := fun y hy => by
    have q := List.all_eq_true.mp S.has
    have hy : (relabel scope X.env).names.lookup y = some .cell ∨ (relabel scope X.env).names.lookup y = some .free := hy
    have z : ∀ k : NameKind, (k == .cell || k == .free) = true → (relabel scope X.env).names.lookup y = some k → ∃ c, cl.lookup y = some c := fun k hk e => by
      have r := q _ (PySem.mem_of_lookup e)
      rw [hk] at r
      exact Option.isSome_iff_exists.mp (by simpa using r)
    rcases hy with e | e
    · exact z _ (by rfl) e
    · exact z _ (by rfl) e
  cab := fun _ _ h _ => nomatch h
  hd := I3.ok.hd
  frames := I3.ok.frames
  stk := .inl rfl
  exf := fun b hb => ⟨Nat.ne_of_lt (hlt b hb), fun y c e => (hf b hb).2.2.2.2.1 y c (S.cells e)⟩
  bs := fun b o e => I3.bs b o e
  bsz := Nat.le_trans I3.ok.bsz I3.sz
  noex := fun b o e hb => by
    rcases (hf b hb).2.2.2.1 with z | z
    · exact I3.ok.noex b o e z
    · exact absurd (Nat.lt_of_lt_of_le (Heap.lt_size e) (Nat.le_trans I3.ok.bsz z)) (Nat.lt_irrefl _)
  exfs := fun b hb z => by
    rcases List.mem_cons.mp (I3.stkSub b z) with e | e
    · exact (hf b hb).2.1 e
    · exact (hf b hb).2.2.1 e
  funs := I3.stack
  frf := I3.stkFree

theorem comp_start (S : CompScope X x N ix scope cl) (I3 : Inv X pins σ H3 s3) (hf : ∀ b ∈ fp, FpOk X pins H3 b) (hlt : ∀ b ∈ fp, b < s3.heap.objs.size) (hix : ix.length = N.length) {h1 : Heap} {t' : Nat} {m : Str → Option Value}
    (hn : h1.Ns s3.heap.objs.size m) (hk : ∀ b o, s3.heap.get? b = some o → h1.get? b = some o) : Inv (cxComp X (x :: N) scope cl s3 H3 fp) [] (none :: outs ix σ) H3 { s3 with heap := h1, toks := t' } where
  ok := comp_cx S I3 hf hlt
  os := rfl
  bare := I3.bare
  base := Un.kept hk
  loc := by
    refine ⟨m, hn, fun i y v h1' h2 h3 => ?_⟩
    cases i with
    | zero =>
      have h2' : (some (none : Option V)) = some (some v) := h2
      cases h2'
    | succ j =>
      have h1'' : N[j]? = some y := h1'
      have h2' : (outs ix σ)[j]? = some (some v) := h2
      obtain ⟨hr, k, c, e1, e2, e3, e4⟩ := S.outs j y h1''
      unfold outs at h2'
      rw [List.getElem?_map, e1] at h2'
      have h2'' : (σ[k]?).join = some v := Option.some.inj h2'
      have e5 : σ[k]? = some (some v) := by
        cases q : σ[k]? with
        | none => rw [q] at h2''; cases h2''
        | some o => rw [q] at h2''; exact congrArg some h2''
      obtain ⟨m0, _, hl⟩ := I3.loc
      obtain ⟨u, r, l⟩ := hl k y v e2 e5 (.inr (.inl e4))
      refine ⟨u, r, .inr ⟨.inl hr, c, e3, ?_⟩⟩
      rcases l with ⟨kk, _⟩ | ⟨_, c', ec, z⟩
      · have kk' : X.env.scope.names.lookup y = some .local := kk
        rw [e4] at kk'; cases kk'
      · rw [S.cells e3] at ec
        cases ec
        obtain ⟨o, ho, hd⟩ := z
        exact ⟨o, hk _ _ ho, hd⟩
  cell := fun y c e => by
    obtain ⟨v, o, ho, hd⟩ := I3.cell y c (S.cells e)
    exact ⟨v, o, hk _ _ ho, hd⟩
  free := I3.hok.fresh (Nat.le_refl _)
  freeC := fun y c e => I3.freeC y c (S.cells e)
  pin := fun p hp => absurd (show p ∈ ([] : List (Addr × Obj)) from hp) (by simp)
  hok := I3.hok.kept hk
  len := by
    show (none :: outs ix σ).length = (x :: N).length
    rw [List.length_cons, List.length_cons]
    unfold outs
    rw [List.length_map, hix]

theorem comp_back (I3 : Inv X pins σ H3 s3) (hf : ∀ b ∈ fp, FpOk X pins H3 b) {σ' : St} {H' : Hp} {s' : Shared} {h'' : Heap} {N' : List Str} (J : Inv (cxComp X N' scope cl s3 H3 fp) [] σ' H' s') (hb : Heap.SameBut s3.heap.objs.size s'.heap h'') :
    Inv X pins σ H' { s' with heap := h'' } := by
  have ne : ∀ b o, s3.heap.get? b = some o → b ≠ s3.heap.objs.size := fun b o e => Nat.ne_of_lt (Heap.lt_size e)
  have B : Un (frs X.stack) fp H3 H' s3.heap s'.heap := J.base
  refine I3.call' (s' := { s' with heap := h'' }) (ch := fp) J.os ⟨fun b o e n h1 h2 => (hb.2 b (ne b o e)).trans (B.keep b o e n h1 h2), fun b o e n h1 h2 => ?_, B.free, fun b o e h2 => ?_, B.tups, B.frzs, B.tbls⟩ (fun b ob e => ?_) J.bare (fun b z => ?_)
  · obtain ⟨sl, q⟩ := B.slot b o e n h1 h2
    exact ⟨sl, (hb.2 b (ne b o e)).trans q⟩
  · obtain ⟨o', q⟩ := B.there b o e h2
    exact ⟨o', (hb.2 b (ne b o e)).trans q⟩
  · have fr : H' s3.heap.objs.size = none := J.free
    refine (J.hok b ob e).stay (fun c w' hc q => (hb.2 c ?_).trans q) (fun _ q => q) fun _ _ q => q
    rintro rfl
    rcases hc with rfl | hc
    · rw [fr] at e; cases e
    · rw [fr] at hc; cases hc
  · obtain ⟨_, h2, _, h4, h5, h6⟩ := hf b z
    exact ⟨h4, h2, h5, h6⟩
end

/-! ### the tests and the element -/
abbrev TBl := St → Hp → (Hp → Prop) → VK → Prop
def PB (X : Cx) (ifs : List Expr) (elt : Expr) (tb : TBl) : Prop :=
  ∀ (pins : List (Addr × Obj)) (s : Shared) (σ : St) (H : Hp) (skip : Hp → Prop) (keep : VK), Inv X pins σ H s → tb σ H skip keep →
    wpAny (model X.prog X.w) X.A (forIn ifs true fun c r => if r = true then do let ok ← isTrue c X.env (eval c X.env); pure (ForInStep.yield ok) else pure (ForInStep.yield r))
      (fun ok s3 => if ok = true then wpAny (model X.prog X.w) X.A (eval elt X.env) (EP X pins σ keep) X.xe s3 else ∃ H', Inv X pins σ H' s3 ∧ skip H') X.xe s
def tB0 (te : TE) : TBl := fun σ H _ keep => te σ H keep
def tB1 (tc : TT) (te : TE) : TBl := fun σ H skip keep => tc σ H fun b H1 => if b = true then te σ H1 keep else skip H1
theorem pb_all {X : Cx} {elt : Expr} {te : TE} (he : PE X elt te) : PB X [] elt (tB0 te) := by
  intro pins s σ H skip keep I h
  refine wpAny_tests_nil ?_
  rw [if_pos rfl]
  exact he pins s σ H keep I h
/-- what a comprehension is: W the invariant by the turn and a measure; the list stands at D -/
def CompEx (J : It) (D : Addr) (ix : List Nat) (tb : TBl) (σ : St) (H : Hp) (Q : VK) : Prop := ∃ W : Nat → Nat → Hp → Prop, (∃ m, W 0 m (upd H D (.lst []))) ∧ ∀ i m H2, W i m H2 →
  (J.stop i H2 ∧ Q (.ref D) H2) ∨ (J.go i H2 ∧ ∀ y H3, J.yld i H2 y H3 → tb (some y :: outs ix σ) H3 (fun H4 => ∃ m', m' < m ∧ W (i + 1) m' H4)
    fun z H4 => ∃ ys, H4 D = some (.lst ys) ∧ ys.length < sizeLine ∧ ∃ m', m' < m ∧ W (i + 1) m' (upd H4 D (.lst (ys ++ [z]))))
def tCompR (wi : TI) (ix : List Nat) (tb : TBl) : TE := fun σ H Q => wi σ H fun J H1 => ∀ D, H1 D = none → CompEx J D ix tb σ H1 Q

section
variable {prog : Program} {w : World} {A : Around} {E : Value → Shared → Prop} {R : Result → Shared → Prop} {s : Shared}
/-- the loop, the target's own step left in -/
theorem compLoop_go {elt target iter : Expr} {ifs : List Expr} {scope : Scope} {pos : Pos} {it acc : Value} {env : Env} (I : Nat → Shared → Prop)
    (turn : ∀ n s, I n s → wpAny (model prog w) A (pyNext it) (fun r s1 => match r with
      | none => R (.ok .next) s1
      | some v => wpAny (model prog w) A (letOwnedTupleGo target it v) (fun _ s1' => wpAny (model prog w) A (assign target env v) (fun _ s2 =>
          wpAny (model prog w) A (forIn ifs true fun c r => if r = true then do let ok ← isTrue c env (eval c env); pure (ForInStep.yield ok) else pure (ForInStep.yield r)) (fun ok s3 =>
            if ok = true then wpAny (model prog w) A (eval elt env) (fun x s4 =>
              wpAny (model prog w) A (call (.builtin "list.append") [acc, x]) (fun _ s5 => ∃ m, m < n ∧ I m s5) (fun _ _ => False) s4) (fun _ _ => False) s3
            else ∃ m, m < n ∧ I m s3) (fun _ _ => False) s2) (fun _ _ => False) s1') (fun _ _ => False) s1) (fun _ _ => False) s)
    (n : Nat) (h : I n s) :
    codeAny (model prog w) A (.compLoop (.ListComp elt [⟨target, iter, ifs, 0⟩] scope pos) 0 it acc env) R s := by
  have up : ∀ {α : Type} {t : Sem α} {Q Q' : α → Shared → Prop} {E' : Value → Shared → Prop} {s : Shared}, wpAny (model prog w) A t Q (fun _ _ => False) s → (∀ a s, Q a s → Q' a s) → wpAny (model prog w) A t Q' E' s :=
    fun h q => wpAny_mono h q fun _ _ f => f.elim
  refine codeAny_loop rfl I (fun n s hI => ?_) n h
  show wpAny _ A ((compTurn (.ListComp elt [⟨target, iter, ifs, 0⟩] scope pos) 0 it acc env).onRaise (fun x => do noteFrame x env; theTreesLotGoes x)) _ _ s
  refine wpAny_noted ?_
  rw [compTurn_list]
  refine wpAny_bind (wpAny_standAt (wpAny_bind (up (turn n s hI) fun r s1 h1 => ?_)))
  cases r with
  | none => exact wpAny_pure h1
  | some v =>
    refine wpAny_bind (up h1 fun _ s1' h1' => ?_)
    refine wpAny_bind (up h1' fun _ s2 h2 => wpAny_bind (up h2 fun ok s3 h3 => ?_))
    cases ok with
    | false => exact wpAny_pure ⟨rfl, h3⟩
    | true =>
      exact wpAny_bind (wpAny_bind (up h3 fun x s4 h4 => wpAny_bind (up h4 fun _ s5 h5 => wpAny_pure (wpAny_pure ⟨rfl, h5⟩))))
end

/-- an untracked record that is none of the def's own -/
structure Apart (X : Cx) (pins : List (Addr × Obj)) (H : Hp) (C : Addr) : Prop where
  fr : H C = none
  lo : C ≠ X.env.locals
  sz : X.s₀.heap.objs.size ≤ C
  ce : ∀ y c, X.env.cells.lookup y = some c → c ≠ C
  pi : ∀ p ∈ X.pn ++ pins, p.1 ≠ C
theorem Apart.turn {X : Cx} {pins : List (Addr × Obj)} {σ : St} {H : Hp} {C : Addr} {s : Shared} {h' : Heap} (a : Apart X pins H C) (I : Inv X pins σ H s) (hs : Heap.SameBut C s.heap h') : Inv X pins σ H { s with heap := h' } :=
  I.turned (t' := s.toks) (fun b o ne e => (hs.2 b ne).trans e) a.fr a.lo (.inr a.sz) a.ce a.pi
section
variable {X : Cx} {x : Str} {N : List Str} {ix : List Nat} {scope : Scope} {cl : List (Str × Addr)} {elt iter : Expr} {ifs : List Expr} {px pos : Pos} {wi : TI} {tb : TBl}

/-- the block runs: behind it the def's own state stands again -/
theorem comp_run (hc : X.calm = true) (S : CompScope X x N ix scope cl) (hix : ix.length = N.length) (hb : ∀ s3 H3 fp, PB (cxComp X (x :: N) scope cl s3 H3 fp) ifs elt tb)
    {pins : List (Addr × Obj)} {s2 : Shared} {σ : St} {H2 : Hp} {Q : VK} {it : Addr} {fp : List Addr} {tn : Nat → Heap → Prop} {J : It} {RR : Value → Addr → Result → Shared → Prop} {E : Value → Shared → Prop}
    (I2 : Inv X pins σ H2 s2) (T : Turn X.prog X.w X.K (.Name x px) J fp it tn) (st2 : tn 0 s2.heap) (f2 : ∀ b ∈ fp, FpOk X pins H2 b)
    (h : ∀ D, H2 D = none → ∃ W : Nat → Nat → Hp → Prop, (∃ m, W 0 m (upd H2 D (.lst []))) ∧ ∀ i m H3, W i m H3 →
      (J.stop i H3 ∧ Q (.ref D) H3) ∨ (J.go i H3 ∧ ∀ y H4, J.yld i H3 y H4 → tb (some y :: outs ix σ) H4 (fun H5 => ∃ m', m' < m ∧ W (i + 1) m' H5)
        fun z H5 => ∃ ys, H5 D = some (.lst ys) ∧ ys.length < sizeLine ∧ ∃ m', m' < m ∧ W (i + 1) m' (upd H5 D (.lst (ys ++ [z])))))
    (hRR : ∀ (D C : Addr) (H' : Hp) (s' : Shared) (m : Str → Option Value), s'.heap.Ns C m → Apart X pins H' C → Inv X pins σ H' s' → Q (.ref D) H' → RR (.ref D) C (.ok .next) s') :
    wpAny (model X.prog X.w) X.A (newList []) (fun acc s3 => wpAny (model X.prog X.w) X.A (newFunctionEnv scope X.env.globals cl [] X.env.qual none .none (some X.env)) (fun cenv s4 =>
      codeAny (model X.prog X.w) X.A (.compStart (.ListComp elt [⟨.Name x px, iter, ifs, 0⟩] scope pos) 0 (.ref it) acc { cenv with scope := relabel scope X.env }) (RR acc cenv.locals) s4) E s3) E s2 := by
  refine wpAny_newObj_type (wpAny_newFunctionEnv S.nocell (by intro y hy; simp at hy) (fun h1 hns1 hsb1 => ?_) S.kind)
  dsimp only at hns1 hsb1 ⊢
  have I3 : Inv X pins σ (upd H2 s2.heap.objs.size (.lst [])) { s2 with heap := s2.heap.push { cls := .type "list", dict := none, data := .seq ([] : List Value).toArray } } := I2.lnew (its := []) (ys := []) (t' := s2.toks) .nil (Nat.zero_le _)
  have hD : H2 s2.heap.objs.size = none := I2.fresh
  obtain ⟨W, ⟨m0, w0⟩, turn⟩ := h s2.heap.objs.size hD
  have hltF : ∀ b ∈ fp, b < s2.heap.objs.size := fun b hb => by
    obtain ⟨o, e, _⟩ := T.obj 0 _ st2 b hb
    exact Heap.lt_size e
  generalize hs3 : ({ s2 with heap := s2.heap.push { cls := .type "list", dict := none, data := .seq ([] : List Value).toArray } } : Shared) = s3 at I3
  have eh : s2.heap.push { cls := .type "list", dict := none, data := .seq ([] : List Value).toArray } = s3.heap := by rw [← hs3]
  have et : s2.toks = s3.toks := by rw [← hs3]
  rw [eh] at hns1 hsb1 ⊢
  have sz3 : s3.heap.objs.size = s2.heap.objs.size + 1 := by rw [← eh, Heap.size_push]
  have hlt3 : ∀ b ∈ fp, b < s3.heap.objs.size := fun b hb => Nat.lt_of_lt_of_le (hltF b hb) (by rw [sz3]; exact Nat.le_succ _)
  have f3 : ∀ b ∈ fp, FpOk X pins (upd H2 s2.heap.objs.size (.lst [])) b := fun b hb => by
    obtain ⟨q1, q2⟩ := f2 b hb
    exact ⟨by rw [upd_ne (Nat.ne_of_lt (hltF b hb))]; exact q1, q2⟩
  have up : ∀ b o, s3.heap.get? b = some o → h1.get? b = some o := fun b o e => hsb1.extBut b o (Nat.ne_of_lt (Heap.lt_size e)) (Heap.get?_push_of_some _ e)
  have old : ∀ b o, s2.heap.get? b = some o → h1.get? b = some o := fun b o e => up b o (by rw [← eh]; exact Heap.get?_push_of_some _ e)
  have es : ({ s2 with heap := h1, toks := s2.toks + ([] : List (Str × Value)).length } : Shared) = { s3 with heap := h1, toks := s2.toks + ([] : List (Str × Value)).length } := by rw [← hs3]
  rw [es]
  have I4 : Inv (cxComp X (x :: N) scope cl s3 (upd H2 s2.heap.objs.size (.lst [])) fp) [] (none :: outs ix σ) (upd H2 s2.heap.objs.size (.lst [])) { s3 with heap := h1, toks := s2.toks + ([] : List (Str × Value)).length } :=
    comp_start S I3 f3 hlt3 hix hns1 up
  have st4 : tn 0 h1 := T.keep 0 _ _ st2 fun b _ o e => old b o e
  have loop : codeAny (model X.prog X.w) X.A (.compLoop (.ListComp elt [⟨.Name x px, iter, ifs, 0⟩] scope pos) 0 (.ref it) (.ref s2.heap.objs.size) (compEnvC scope cl s3.heap.objs.size X.env)) (RR (.ref s2.heap.objs.size) s3.heap.objs.size)
      { s3 with heap := h1, toks := s2.toks + ([] : List (Str × Value)).length } := by
    refine compLoop_go (fun n s' => ∃ i v0 H', Inv (cxComp X (x :: N) scope cl s3 (upd H2 s2.heap.objs.size (.lst [])) fp) [] (v0 :: outs ix σ) H' s' ∧ tn i s'.heap ∧ (∀ b ∈ fp, H' b = none) ∧ W i n H') ?_ m0 ⟨0, none, _, I4, st4, fun b hb => (f3 b hb).1, w0⟩
    rintro n s5 ⟨i, v0, H5, I5, st5, fr5, w5⟩
    have stat : ∀ {H' : Hp}, (∀ b ∈ fp, H' b = none) → ∀ b ∈ fp, FpOk (cxComp X (x :: N) scope cl s3 (upd H2 s2.heap.objs.size (.lst [])) fp) [] H' b := fun hn b hb =>
      ⟨hn b hb, ((comp_cx S I3 f3 hlt3).exf b hb).1, (comp_cx S I3 f3 hlt3).exfs b hb, .inl hb, ((comp_cx S I3 f3 hlt3).exf b hb).2, fun p hp => absurd (show p ∈ ([] : List (Addr × Obj)) from hp) (by simp)⟩
    rcases turn i n H5 w5 with ⟨stop, qn⟩ | ⟨go, step⟩
    · refine thn (T.done (cxComp X (x :: N) scope cl s3 (upd H2 s2.heap.objs.size (.lst [])) fp) rfl rfl rfl hc i [] s5 _ H5 _ I5 (stat fr5) st5 stop) fun r s6 ⟨hr, I6⟩ => ?_
      subst hr
      obtain ⟨m6, hn6, _⟩ := I6.loc
      exact hRR _ _ H5 s6 m6 hn6 ⟨I6.free, Ne.symm (Nat.ne_of_lt I3.lt), I3.sz, fun y c e z => by
        obtain ⟨v, q⟩ := I3.cell y c e
        exact absurd q.lt (by rw [z]; exact Nat.lt_irrefl _), fun p hp z => absurd (Heap.lt_size (I3.pin p hp).1) (by rw [z]; exact Nat.lt_irrefl _)⟩ (comp_back I3 f3 I6 (Heap.SameBut.refl _ _)) qn
    · refine thn (T.item (cxComp X (x :: N) scope cl s3 (upd H2 s2.heap.objs.size (.lst [])) fp) rfl rfl rfl hc i [] s5 _ H5 _ I5 (stat fr5) st5 go) fun r s6 ⟨u, hr, h6⟩ => ?_
      subst hr
      refine thn h6 fun _ s7 ⟨y, H7, I7, r7, y7, st7, fr7⟩ => ?_
      have I7' := I7.pinned (stat fr7) (T.obj _ _ st7)
      refine wpAny_assign_Name (store_ok (i := 0) I7' S.nd rfl (.inl (lookup_relabel_local S.own)) r7 (fun s8 I8 => ?_) (.inr (lookup_relabel_local S.own)))
      have I8' : Inv (cxComp X (x :: N) scope cl s3 (upd H2 s2.heap.objs.size (.lst [])) fp) ([] ++ pinsAt fp s7.heap) (some y :: outs ix σ) H7 s8 := I8
      have again : ∀ {v9 : Option V} {H9 : Hp} {s9 : Shared}, Inv (cxComp X (x :: N) scope cl s3 (upd H2 s2.heap.objs.size (.lst [])) fp) ([] ++ pinsAt fp s7.heap) (v9 :: outs ix σ) H9 s9 → (∃ m', m' < n ∧ W (i + 1) m' H9) →
          ∃ m, m < n ∧ ∃ i v0 H', Inv (cxComp X (x :: N) scope cl s3 (upd H2 s2.heap.objs.size (.lst [])) fp) [] (v0 :: outs ix σ) H' s9 ∧ tn i s9.heap ∧ (∀ b ∈ fp, H' b = none) ∧ W i m H' := fun {v9 H9 s9} I9 ⟨m', hm, w9⟩ => by
        refine ⟨m', hm, i + 1, v9, H9, I9.unpinned, T.keep _ _ _ st7 fun b hb o e => (I9.pin (b, o) (List.mem_append_right _ (List.mem_append_right _ (mem_pinsAt hb e)))).1, fun b hb => ?_, w9⟩
        obtain ⟨o, e, d⟩ := T.obj _ _ st7 b hb
        exact (I9.pin (b, o) (List.mem_append_right _ (List.mem_append_right _ (mem_pinsAt hb e)))).2.1
      refine thn (hb s3 (upd H2 s2.heap.objs.size (.lst [])) fp _ s8 _ H7 _ _ I8' (step y H7 y7)) fun ok s9 q9 => ?_
      cases ok with
      | false =>
        rw [if_neg (by decide)] at q9 ⊢
        obtain ⟨H9, I9, q9⟩ := q9
        exact again I9 q9
      | true =>
        rw [if_pos rfl] at q9 ⊢
        refine thn q9 fun u s10 ⟨z, H10, I10, r10, ys, hy, hz, q10⟩ => ?_
        refine thn (mt_append _ s10 _ H10 (.ref s2.heap.objs.size) [z] (.ref s2.heap.objs.size) [u] (fun _ H' => ∃ m', m' < n ∧ W (i + 1) m' H') I10 rfl (.cons r10 .nil) ⟨_, ys, z, rfl, rfl, hy, hz, q10⟩) fun _ s11 ⟨_, H11, I11, _, q11⟩ => ?_
        exact again I11 q11
  exact codeAny_compStart_list loop (T.self _ 0 _ _ _ st4 loop)

/-- [elt for x in iter if ..] as a value -/
theorem pe_comp (hc : X.calm = true) (S : CompScope X x N ix scope cl) (hix : ix.length = N.length) (hi : PI X (.Name x px) iter wi) (hb : ∀ s3 H3 fp, PB (cxComp X (x :: N) scope cl s3 H3 fp) ifs elt tb)
    (hs : ∀ x, foldedSetIterable iter X.env x = pure x := by intro _; rfl) : PE X (.ListComp elt [⟨.Name x px, iter, ifs, 0⟩] scope pos) (tCompR wi ix tb) := by
  intro pins s σ H Q I h
  rw [eval_ListComp]
  refine wpAny_comprehension_free (use := none) rfl hs S.clos S.kind S.names (thn (hi pins s σ H _ I h) fun xv s1 h1 => thn h1 fun itv s2 h2 => ?_)
  obtain ⟨it, fp, tn, J, H2, rfl, I2, T, st2, f2, R⟩ := h2
  refine comp_run hc S hix hb (RR := fun acc C => compPost (model X.prog X.w) X.A X.xe none (EP X pins σ Q) acc C) I2 T st2 f2 R ?_
  intro D C H' s' m hn ap I' q
  exact ⟨m, hn, fun h'' hb'' => ⟨.ref D, H', ap.turn I' hb'', rfl, q⟩⟩
/-- y = [elt for x in iter if ..] -/
theorem ps_comp {i : Nat} {y : Str} {py spos : Pos} (hN : X.N.Nodup) (hi0 : X.N[i]? = some y) (hx : Loc X.env.scope y) (hc : X.calm = true) (S : CompScope X x N ix scope cl) (hix : ix.length = N.length) (hi : PI X (.Name x px) iter wi) (hb : ∀ s3 H3 fp, PB (cxComp X (x :: N) scope cl s3 H3 fp) ifs elt tb)
    (hsw : swapsWith (.ListComp elt [⟨.Name x px, iter, ifs, 0⟩] scope pos) (some (.Name y py)) spos.line X.env = pure true := by with_unfolding_all rfl)
    (hs : ∀ x, foldedSetIterable iter X.env x = pure x := by intro _; rfl) (hf : X.fn y = true ∨ X.env.scope.names.lookup y = some .local := by first | exact .inl rfl | exact .inr rfl | assumption) :
    PS X (.Assign [.Name y py] (.ListComp elt [⟨.Name x px, iter, ifs, 0⟩] scope pos) spos) (fun D σ H => tCompR wi ix tb σ H fun v H' => D.nx (σ.set i (some v)) H') := by
  intro pins s σ H Dn I h
  rw [exec_Assign_Name_used _ _ _ _ hsw]
  refine wpAny_bind (wpAny_standAt (wpAny_bind ?_))
  show wpAny _ X.A (do let _ ← comprehension (.ListComp elt [⟨.Name x px, iter, ifs, 0⟩] scope pos) scope X.env _ (newList []) false (eval iter X.env) (some (assign (.Name y py) X.env))) _ _ s
  refine wpAny_bind (wpAny_mono (wpAny_comprehension_free (use := some (assign (.Name y py) X.env)) (Q := fun _ s' => SP X pins Dn .next s') rfl hs S.clos S.kind S.names
    (thn (hi pins s σ H _ I h) fun xv s1 h1 => thn h1 fun itv s2 h2 => ?_)) (fun _ s' hq => wpAny_pure (wpAny_pure hq)) fun _ _ e => e)
  obtain ⟨it, fp, tn, J, H2, rfl, I2, T, st2, f2, R⟩ := h2
  refine comp_run hc S hix hb (RR := fun acc C => compPost (model X.prog X.w) X.A X.xe (some (assign (.Name y py) X.env)) (fun _ s' => SP X pins Dn .next s') acc C) (Q := fun v H' => Dn.nx (σ.set i (some v)) H') I2 T st2 f2 R ?_
  intro D C H' s' m hn ap I' q
  show wpAny _ X.A (assign (.Name y py) X.env (.ref D)) _ _ _
  refine wpAny_assign_Name (store_ok2 I' hN hi0 hx (v := .ref D) rfl (fun s'' I'' hsb => ?_) hf)
  obtain ⟨a, hsb, ha⟩ := hsb
  have ne : C ≠ a := by
    rcases ha with z | z
    · rw [z]; exact ap.lo
    · exact Ne.symm (ap.ce y a z)
  exact ⟨m, hn.sameBut hsb ne, fun h'' hb'' => ⟨_, H', ap.turn I'' hb'', q⟩⟩
end
end L2

namespace L2
open PySem PySem.Spec PyProof.Rows
section
variable {X : Cx} {pins : List (Addr × Obj)} {σ : St} {H : Hp} {s : Shared} {h' : Heap}
/-- several untracked records of ours have turned, and a new object is tracked -/
theorem Inv.turnedNew {t' : Nat} {ch : List Addr} {T : Addr} {o : HO} (I : Inv X pins σ H s) (k : ∀ b u, b ∉ ch → s.heap.get? b = some u → h'.get? b = some u) (hf : ∀ b ∈ ch, FpOk X pins H b) (hT : s.heap.objs.size ≤ T)
    (new : ObjOk X.prog X.w (upd H T o) h' T o) : Inv X pins σ (upd H T o) { s with heap := h', toks := t' } := by
  have nit : ∀ b u, H b = some u → b ∉ ch := fun b u e z => by rw [(hf b z).1] at e; cases e
  have hn : H T = none := I.hok.fresh hT
  have lt : ∀ b u, s.heap.get? b = some u → b ≠ T := fun b u e => Nat.ne_of_lt (Nat.lt_of_lt_of_le (Heap.lt_size e) hT)
  refine I.step (g' := s.gens) (d' := s.drawn) (ch := ch) (fun b hb => ?_) (fun b u _ _ hc e _ => k b u hc e) (fun b u _ _ hc e _ => ⟨u.slots, k b u hc e⟩) (fun b u _ e n => by rw [upd_ne (lt b u e)]; exact n) (fun b u hc e => ⟨u, k b u hc e⟩)
    (fun b xs e => by rw [upd_ne (ne_of_none e hn)]; exact e) (fun b ob u e => by rw [upd_ne (ne_of_none e hn)]; exact e) (fun b ps e => ⟨#[], by rw [upd_ne (ne_of_none e hn), e]; simp⟩) (fun m hm => ?_) (fun b u e => ?_) I.bare
  · obtain ⟨_, h2, _, h4, h5, h6⟩ := hf b hb
    exact ⟨h4, h2, h5, h6⟩
  · obtain ⟨ob, es, ep, ho, r⟩ := hm
    exact ⟨ob, es, ep, k _ ob (fun z => (hf _ z).2.1 rfl) ho, r⟩
  · by_cases hb : b = T
    · subst hb
      rw [upd_same] at e
      cases e
      exact new
    · rw [upd_ne hb] at e
      refine (I.hok b u e).stay (fun c v hc q => k c v ?_ q) (fun c q => by rw [upd_ne (ne_of_none q hn)]; exact q) fun c xs q => by rw [upd_ne (ne_of_none q hn)]; exact q
      rcases hc with z | z
      · rw [z]; exact nit b u e
      · exact nit c _ z
theorem Inv.turnedL {t' : Nat} {ch : List Addr} (I : Inv X pins σ H s) (k : ∀ b u, b ∉ ch → s.heap.get? b = some u → h'.get? b = some u) (hf : ∀ b ∈ ch, FpOk X pins H b) : Inv X pins σ H { s with heap := h', toks := t' } := by
  have nit : ∀ b u, H b = some u → b ∉ ch := fun b u e z => by rw [(hf b z).1] at e; cases e
  refine I.step (g' := s.gens) (d' := s.drawn) (ch := ch) (fun b hb => ?_) (fun b u _ _ hc e _ => k b u hc e) (fun b u _ _ hc e _ => ⟨u.slots, k b u hc e⟩) (fun _ _ _ _ n => n) (fun b u hc e => ⟨u, k b u hc e⟩)
    (fun _ _ e => e) (fun _ _ _ e => e) (fun b ps e => ⟨#[], by rw [e]; simp⟩) (fun m hm => ?_) (fun b u e => ?_) I.bare
  · obtain ⟨_, h2, _, h4, h5, h6⟩ := hf b hb
    exact ⟨h4, h2, h5, h6⟩
  · obtain ⟨ob, es, ep, ho, r⟩ := hm
    exact ⟨ob, es, ep, k _ ob (fun z => (hf _ z).2.1 rfl) ho, r⟩
  · refine (I.hok b u e).stay (fun c v hc q => k c v ?_ q) (fun _ q => q) fun _ _ q => q
    rcases hc with z | z
    · rw [z]; exact nit b u e
    · exact nit c _ z
end

/-! ### for a, b in enumerate(xs) -/
def Ite (K : PySem.W.Frag) (a : Addr) : It :=
  ⟨fun i H => ∃ xs x, SqL K H a xs ∧ xs[i]? = some x, fun i H y H' => ∃ t, y = .ref t ∧ H t = none ∧ ∀ xs x, SqL K H a xs → xs[i]? = some x → H' = upd H t (.tup [.int i, x]), fun i H => ∃ xs, SqL K H a xs ∧ xs.length ≤ i⟩
section
variable {X : Cx} {elts : List Expr} {k : Nat} {tpos : Pos}
def iEnum (K : PySem.W.Frag) (tl : TE) : TI := fun σ H R => tl σ H fun x H1 => ∃ a, x = .ref a ∧ (∃ xs, SqL K H1 a xs) ∧ R (Ite K a) H1
end
end L2

namespace L2
open PySem PySem.Spec PyProof.Rows
/-! ### data in the abstract heap, and == of it -/
mutual
inductive Rep (K : PySem.W.Frag) (H : Hp) : V → PyData → Prop
  | non : Rep K H .non .none
  | bl (b : Bool) : Rep K H (.bl b) (.bool b)
  | int (i : Int) : Rep K H (.int i) (.int i)
  | str (x : Str) : Rep K H (.str x) (.str x)
  | tup {a : Addr} {xs : List V} {ds : List PyData} : SqT K H a xs → RepAll K H xs ds → Rep K H (.ref a) (.tuple ds)
  | lst {a : Addr} {xs : List V} {ds : List PyData} : SqL K H a xs → RepAll K H xs ds → Rep K H (.ref a) (.list ds)
inductive RepAll (K : PySem.W.Frag) (H : Hp) : List V → List PyData → Prop
  | nil : RepAll K H [] []
  | cons {x : V} {d : PyData} {xs : List V} {ds : List PyData} : Rep K H x d → RepAll K H xs ds → RepAll K H (x :: xs) (d :: ds)
end
section
variable {X : Cx} {pins : List (Addr × Obj)} {σ : St} {H : Hp} {s : Shared}
mutual
theorem Rep.reads (I : Inv X pins σ H s) : ∀ {x : V} {d : PyData} {v : Value}, Rep X.K H x d → RelV x v → ∃ as, Reads s.heap v d as
  | _, _, v, .non, r => by cases (show v = Value.none from r); exact ⟨_, Reads.none⟩
  | _, _, v, .bl b, r => by cases (show v = Value.bool b from r); exact ⟨_, Reads.bool b⟩
  | _, _, v, .int i, r => by obtain ⟨t, e⟩ := (show ∃ t, v = Value.int i t from r); cases e; exact ⟨_, Reads.int i t⟩
  | _, _, v, .str x, r => by obtain ⟨t, e⟩ := (show ∃ t, v = Value.str x t from r); cases e; exact ⟨_, Reads.str x t⟩
  | _, _, v, .tup (a := a) h q, r => by
    cases (show v = Value.ref a from r)
    obtain ⟨its, rv, ⟨o, ho, hc, n, hd⟩, _⟩ := I.tuple h
    obtain ⟨as, z⟩ := RepAll.reads I q rv
    exact ⟨_, reads_tuple_at ho hc hd (by simpa using z)⟩
  | _, _, v, .lst (a := a) h q, r => by
    cases (show v = Value.ref a from r)
    obtain ⟨its, rv, ⟨o, n, ho, hc, _, hd⟩, _⟩ := I.list h
    obtain ⟨as, z⟩ := RepAll.reads I q rv
    exact ⟨_, reads_list_at ho hc hd (by simpa using z)⟩
theorem RepAll.reads (I : Inv X pins σ H s) : ∀ {xs : List V} {ds : List PyData} {vs : List Value}, RepAll X.K H xs ds → Vals xs vs → ∃ as, ReadsAll s.heap vs ds as
  | _, _, _, .nil, .nil => ⟨_, ReadsAll.nil⟩
  | _, _, _, .cons h q, .cons r rs => by
    obtain ⟨as, z⟩ := Rep.reads I h r
    obtain ⟨bs, y⟩ := RepAll.reads I q rs
    exact ⟨_, ReadsAll.cons z y⟩
end
end
section
variable {X : Cx}
def rEqD (K : PySem.W.Frag) : R2 := fun x y H Q => ∃ d e, Rep K H x d ∧ Rep K H y e ∧ SeqAt.shaped d = true ∧ SeqAt.shaped e = true ∧ Q (.bl (PyData.eqv d e)) H
def rNeD (K : PySem.W.Frag) : R2 := fun x y H Q => ∃ d e, Rep K H x d ∧ Rep K H y e ∧ SeqAt.shaped d = true ∧ SeqAt.shaped e = true ∧ Q (.bl (!PyData.eqv d e)) H
/-- t + u of tuples, t without items: u itself -/
def rCatT0 (K : PySem.W.Frag) : R2 := fun x y H Q => ∃ a b ys, x = .ref a ∧ y = .ref b ∧ SqT K H a [] ∧ SqT K H b ys ∧ Q (.ref b) H
end
end L2

namespace L2
open PySem PySem.Spec PyProof.Rows
/-! ### list(reversed(xs)) -/
section
variable {prog : Program} {w : World} {A : Around} {E : Value → Shared → Prop} {s : Shared} {R : Result → Shared → Prop}
end
section
variable {X : Cx}
/-- list(reversed(e)), e a list -/
def tListRev (K : PySem.W.Frag) (te : TE) : TE := fun σ H Q => te σ H fun x H1 => ∃ l ys, x = .ref l ∧ SqL K H1 l ys ∧ ∀ p, H1 p = none → Q (.ref p) (upd H1 p (.lst ys.reverse))
end
end L2

namespace L2
open PySem PySem.Spec PyProof.Rows
/-! ### the forms of a comprehension that one uses -/
def Nx (n i : Nat) (Pv : Nat → Hp → Prop) (H : Hp) : Prop := ∃ m', m' < n - i ∧ (m' = n - (i + 1) ∧ i + 1 ≤ n ∧ Pv (i + 1) H)
theorem Nx.of {n i : Nat} {Pv : Nat → Hp → Prop} {H : Hp} (h : i < n) (p : Pv (i + 1) H) : Nx n i Pv H := ⟨n - (i + 1), by omega, rfl, h, p⟩
theorem comp_list {K : PySem.W.Frag} {a D : Addr} {xs : List V} {ix : List Nat} {tb : TBl} {σ : St} {H : Hp} {Q : VK} (Pv : Nat → Hp → Prop) (h0 : Pv 0 (upd H D (.lst []))) (hl : ∀ i H, i ≤ xs.length → Pv i H → SqL K H a xs)
    (hs : ∀ i x H, xs[i]? = some x → Pv i H → tb (some x :: outs ix σ) H (Nx xs.length i Pv) fun z H' => ∃ ys, H' D = some (.lst ys) ∧ ys.length < sizeLine ∧ Nx xs.length i Pv (upd H' D (.lst (ys ++ [z])))) (hd : ∀ H, Pv xs.length H → Q (.ref D) H) :
    CompEx (Itl K a) D ix tb σ H Q := by
  refine ⟨fun i m H => m = xs.length - i ∧ i ≤ xs.length ∧ Pv i H, ⟨xs.length, by simp, Nat.zero_le _, h0⟩, ?_⟩
  rintro i m H ⟨rfl, hi, p⟩
  have q := hl i H hi p
  by_cases hlt : i < xs.length
  · refine .inr ⟨⟨xs, xs[i], q, by simp [hlt]⟩, fun x H' y => ?_⟩
    obtain ⟨e, y⟩ := y
    subst e
    exact hs i x _ (y xs q) p
  · have e : i = xs.length := by omega
    subst e
    exact .inl ⟨⟨xs, q, Nat.le_refl _⟩, hd H p⟩
theorem comp_range {lo : Int} {n : Nat} {D : Addr} {ix : List Nat} {tb : TBl} {σ : St} {H : Hp} {Q : VK} (Pv : Nat → Hp → Prop) (h0 : Pv 0 (upd H D (.lst [])))
    (hs : ∀ i H, i < n → Pv i H → tb (some (.int (lo + i)) :: outs ix σ) H (Nx n i Pv) fun z H' => ∃ ys, H' D = some (.lst ys) ∧ ys.length < sizeLine ∧ Nx n i Pv (upd H' D (.lst (ys ++ [z])))) (hd : ∀ H, Pv n H → Q (.ref D) H) :
    CompEx (Itr lo n) D ix tb σ H Q := by
  refine ⟨fun i m H => m = n - i ∧ i ≤ n ∧ Pv i H, ⟨n, by simp, Nat.zero_le _, h0⟩, ?_⟩
  rintro i m H ⟨rfl, hi, p⟩
  by_cases hlt : i < n
  · refine .inr ⟨hlt, fun x H' y => ?_⟩
    obtain ⟨e, y⟩ := y
    subst e y
    exact hs i _ hlt p
  · have e : i = n := by omega
    subst e
    exact .inl ⟨Nat.le_refl _, hd H p⟩
end L2

namespace L2
open PySem PySem.Spec PyProof.Rows
/-! ### the rules that look at the written part, K named (for a comprehension's block) -/
section
variable {X : Cx}
def rIsi (K : PySem.W.Frag) : List V → Hp → VK → Prop := fun xs H Q => ∃ x t n b, xs = [x, .ty n] ∧ TyOf K H x t ∧ PySem.W.kitOne K t (.type n) = some b ∧ Q (.bl b) H
def rLen (K : PySem.W.Frag) : List V → Hp → VK → Prop := fun xs H Q => ∃ p ys, xs = [.ref p] ∧ (SqL K H p ys ∨ SqT K H p ys) ∧ Q (.int ys.length) H
end
end L2

namespace L2
open PySem PySem.Spec PyProof.Rows
/-! ### texts: their signs, slices, join, times, startswith; all of a list -/
def Its (z : Str) : It := ⟨fun i _ => i < z.cps.size, fun i H x H' => H' = H ∧ ∃ c, z.cps[i]? = some c ∧ x = .str ⟨#[c]⟩, fun i _ => z.cps.size ≤ i⟩
section
variable {X : Cx} {y : Str} {py : Pos}
def iStr (tl : TE) : TI := fun σ H R => tl σ H fun x H1 => ∃ z, x = .str z ∧ R (Its z) H1
end
section
variable {X : Cx}
/-- t[lo:hi] of a text -/
def rSlS : V → Option Int → Option Int → Hp → VK → Prop := fun x lo hi H Q => ∃ z, x = .str z ∧ z.length ≤ sizeLine ∧ Q (.str (Txt.slice z lo hi)) H
theorem sl_str : SlR X rSlS := by
  intro pins s σ H x v vl vu lo hi sl Q I rx hs pl pu h
  obtain ⟨z, rfl, hz, q⟩ := h
  obtain ⟨t, rfl⟩ := rx
  refine ⟨"str", _, F.slot_str_getitem.lookup, typeIs_str _ _ _, ?_⟩
  have fin : ∀ t' k, EP X pins σ Q (.str (Txt.slice z lo hi) t') { s with toks := k } := fun t' k => ⟨.str _, H, I.tok k, ⟨_, rfl⟩, q⟩
  obtain ⟨o, ho, hc, hd⟩ := hs
  cases pl with
  | none =>
    cases pu with
    | none => exact wpAny_getItem_str_slice (l := none) (u := none) (st := none) ⟨o, ho, hc, hd⟩ rfl (post_val_or_str ⟨Nat.le_trans (Txt.slice_le z _ _) hz, fin⟩)
    | int j u => exact wpAny_getItem_str_slice (l := none) (u := some (j, u)) (st := none) ⟨o, ho, hc, hd⟩ rfl (post_val_or_str ⟨Nat.le_trans (Txt.slice_le z _ _) hz, fin⟩)
  | int i u' =>
    cases pu with
    | none => exact wpAny_getItem_str_slice (l := some (i, u')) (u := none) (st := none) ⟨o, ho, hc, hd⟩ rfl (post_val_or_str ⟨Nat.le_trans (Txt.slice_le z _ _) hz, fin⟩)
    | int j u => exact wpAny_getItem_str_slice (l := some (i, u')) (u := some (j, u)) (st := none) ⟨o, ho, hc, hd⟩ rfl (post_val_or_str ⟨Nat.le_trans (Txt.slice_le z _ _) hz, fin⟩)
/-- t.startswith(u) -/
def rStarts : V → List V → Hp → VK → Prop := fun x vs H Q => ∃ z u, x = .str z ∧ vs = [.str u] ∧ Q (.bl (Txt.startswith z u)) H
theorem strsAre_of : ∀ {zs : List Str} {us : List Value}, Vals (zs.map V.str) us → StrsAre us zs
  | [], _, .nil => .nil
  | _ :: _, _, .cons ⟨t, e⟩ r => by subst e; exact .cons _ t (strsAre_of r)
/-- sep.join(list of texts) -/
def rJoin (K : PySem.W.Frag) : V → List V → Hp → VK → Prop := fun x vs H Q => ∃ z a ys, x = .str z ∧ vs = [.ref a] ∧ SqL K H a (ys.map V.str) ∧ z.length ≤ 16 ∧ (ys.map (·.length)).sum + ys.length ≤ 1048576 ∧ Q (.str (Txt.join z ys)) H
theorem mt_join : MtR X "str.join" (rJoin X.K) := by
  intro pins s σ H x vs v us Q I rx rv h
  obtain ⟨z, a, ys, rfl, rfl, hq, hz, hw, q⟩ := h
  obtain ⟨t, rfl⟩ := rx
  obtain ⟨w', rfl, ra⟩ := rv.one
  cases ra
  obtain ⟨its, r', p, _⟩ := I.list hq
  exact join_listW p.isList (by simpa using strsAre_of r') hz hw fun t' k => ⟨.str _, H, I.tok k, ⟨_, rfl⟩, q⟩
/-- t * n of a short text -/
def rMulS : R2 := fun x y H Q => ∃ z n, x = .str z ∧ y = .int n ∧ MulOk z n ∧ Q (.str (Txt.mul z n)) H
/-- all of a list of truths -/
def rAll (K : PySem.W.Frag) : List V → Hp → VK → Prop := fun xs H Q => ∃ (a : Addr) (bs : List Bool), xs = [.ref a] ∧ SqL K H a (bs.map V.bl) ∧ Q (.bl (bs.all id)) H
end
end L2

namespace L2
open PySem PySem.Spec PyProof.Rows
/-- written texts, one after another -/
inductive Consts : List Expr → List Str → Prop
  | nil : Consts [] []
  | cons {x : Str} {j : Nat} {pos : Pos} {es : List Expr} {zs : List Str} : Consts es zs → Consts (.Constant (.str x) j pos :: es) (x :: zs)
theorem pa_consts {X : Cx} : ∀ {es : List Expr} {zs : List Str}, Consts es zs → PA X es (fun _ H Q => Q (zs.map V.str) H)
  | _, _, .nil => pa_nil
  | _, _, .cons h => fun pos pins s σ H Q I q => pa_cons pe_str (pa_consts h) (by rfl) pos pins s σ H Q I q
/-- a comprehension that sees one name of the def -/
theorem CompScope.one {X : Cx} {x y : Str} {scope : Scope} {k : Nat} {c : Addr} (c1 : closureFor scope X.env = pure [(y, c)]) (c2 : ∀ y ∈ scope.names, y.2 ≠ .cell) (c3 : scope.kind = .function) (c4 : ∀ y ∈ scope.names, y.2 = .local → scope.names.lookup y.1 = some .local)
    (c5 : scope.names.lookup x = some .local) (nd : [x, y].Nodup) (hc : X.env.cells.lookup y = some c) (c6 : ((relabel scope X.env).names.all fun p => !(p.2 == .cell || p.2 == .free) || (([(y, c)] : List (Str × Addr)).lookup p.1).isSome) = true)
    (hr : (relabel scope X.env).names.lookup y = some .cell) (hk : X.N[k]? = some y) (hs : X.env.scope.names.lookup y = some .cell) : CompScope X x [y] [k] scope [(y, c)] where
  clos := c1
  nocell := c2
  kind := c3
  names := c4
  own := c5
  nd := nd
  sub := fun p hp => by
    rw [List.mem_singleton.mp hp]
    exact hc
  has := c6
  outs := fun j z h => by
    cases j with
    | zero =>
      have e : y = z := Option.some.inj h
      subst e
      exact ⟨hr, k, c, rfl, hk, by simp [List.lookup], hs⟩
    | succ j => simp at h
/-- .. two names -/
theorem CompScope.two {X : Cx} {x y z : Str} {scope : Scope} {k l : Nat} {c d : Addr} {cl : List (Str × Addr)} (c1 : closureFor scope X.env = pure cl) (c2 : ∀ y ∈ scope.names, y.2 ≠ .cell) (c3 : scope.kind = .function) (c4 : ∀ y ∈ scope.names, y.2 = .local → scope.names.lookup y.1 = some .local)
    (c5 : scope.names.lookup x = some .local) (nd : [x, y, z].Nodup) (hcl : cl = [(z, d), (y, c)] ∨ cl = [(y, c), (z, d)]) (hc : X.env.cells.lookup y = some c) (hd : X.env.cells.lookup z = some d) (c6 : ((relabel scope X.env).names.all fun p => !(p.2 == .cell || p.2 == .free) || (cl.lookup p.1).isSome) = true)
    (hr : (relabel scope X.env).names.lookup y = some .cell) (hk : X.N[k]? = some y) (hs : X.env.scope.names.lookup y = some .cell)
    (hr2 : (relabel scope X.env).names.lookup z = some .cell) (hk2 : X.N[l]? = some z) (hs2 : X.env.scope.names.lookup z = some .cell) : CompScope X x [y, z] [k, l] scope cl where
  clos := c1
  nocell := c2
  kind := c3
  names := c4
  own := c5
  nd := nd
  sub := fun p hp => by
    rcases hcl with rfl | rfl
    all_goals
      rcases List.mem_cons.mp hp with e | e
      · rw [e]; assumption
      · rw [List.mem_singleton.mp e]; assumption
  has := c6
  outs := fun j w h => by
    have nyz : y ≠ z := fun e => by simp [e] at nd
    match j, h with
    | 0, h =>
      have e : y = w := Option.some.inj h
      subst e
      refine ⟨hr, k, c, rfl, hk, ?_, hs⟩
      rcases hcl with rfl | rfl
      · have : (y == z) = false := by simpa using nyz
        simp [List.lookup, this]
      · simp [List.lookup]
    | 1, h =>
      have e : z = w := Option.some.inj h
      subst e
      refine ⟨hr2, l, d, rfl, hk2, ?_, hs2⟩
      rcases hcl with rfl | rfl
      · simp [List.lookup]
      · have : (z == y) = false := by simpa using Ne.symm nyz
        simp [List.lookup, this]
    | j + 2, h => simp at h
end L2

namespace Mine
open PySem L2
/-! ### names and trees as the laws draw them -/
def NmOk (x : Str) : Prop := x.length ≤ 20 ∧ (∀ c ∈ x.cps.toList, 97 ≤ c ∧ c ≤ 122) ∧ x ≠ "aa"
theorem mem_slice {x : Str} {l u : Option Int} {c : Nat} (h : c ∈ (Txt.slice x l u).cps.toList) : c ∈ x.cps.toList := by
  have e : Txt.slice x l u = StrLaws.sliceText x l u := rfl
  rw [e] at h
  unfold StrLaws.sliceText at h
  split at h
  · exact h
  · obtain ⟨i, _, hi⟩ := List.mem_filterMap.mp (show c ∈ (List.filterMap _ _) by simpa using h)
    have := Array.mem_of_getElem? hi
    simpa using this
theorem mem_append {x y : Str} {c : Nat} (h : c ∈ (x ++ y).cps.toList) : c ∈ x.cps.toList ∨ c ∈ y.cps.toList := by
  have e : (x ++ y).cps.toList = x.cps.toList ++ y.cps.toList := by simp [Str.cps_append]
  rw [e] at h
  exact List.mem_append.mp h
theorem mem_join0 {zs : List Str} {c : Nat} (h : c ∈ (Txt.join "" zs).cps.toList) : ∃ z ∈ zs, c ∈ z.cps.toList := by
  have e : Txt.join "" zs = Str.join "" zs := by
    cases zs with
    | nil => rfl
    | cons a r => exact StrLaws.glued_cons "" r a
  rw [e] at h
  rcases (PyProof.Rows.mem_join "" c zs).mp h with h | ⟨_, h⟩
  · exact h
  · have e0 : (("" : Str)).cps.toList = [] := by decide +kernel
    rw [e0] at h
    cases h
inductive Tr where
  | is (x : Str) | yes | no | not (a : Tr) | bin (w : Str) (a b : Tr)
def Tr.size : Tr → Nat
  | .is _ => 1 | .yes => 1 | .no => 1 | .not a => a.size + 1 | .bin _ a b => a.size + b.size + 1
def Tr.depth : Tr → Nat
  | .is _ => 1 | .yes => 1 | .no => 1 | .not a => a.depth + 1 | .bin _ a b => max a.depth b.depth + 1
def Tr.names : Tr → List Str
  | .is x => [x] | .yes => [] | .no => [] | .not a => a.names | .bin _ a b => a.names ++ b.names
def joinW : List Str := ["and", "or", "odd", "same"]
def Tr.ok (ns : List Str) : Tr → Prop
  | .is x => x ∈ ns | .yes => True | .no => True | .not a => a.ok ns | .bin w a b => w ∈ joinW ∧ a.ok ns ∧ b.ok ns
inductive TreeAt (H : Hp) : V → Tr → Prop
  | is {a : Addr} {x : Str} : H a = some (.tup [.str "is", .str x]) → TreeAt H (.ref a) (.is x)
  | yes {a : Addr} : H a = some (.tup [.str "yes"]) → TreeAt H (.ref a) .yes
  | no {a : Addr} : H a = some (.tup [.str "no"]) → TreeAt H (.ref a) .no
  | not {a : Addr} {v : V} {t : Tr} : H a = some (.tup [.str "not", v]) → TreeAt H v t → TreeAt H (.ref a) (.not t)
  | bin {a : Addr} {w : Str} {v u : V} {t r : Tr} : H a = some (.tup [.str w, v, u]) → TreeAt H v t → TreeAt H u r → TreeAt H (.ref a) (.bin w t r)
abbrev KeepT (H H' : Hp) : Prop := ∀ a xs, H a = some (.tup xs) → H' a = some (.tup xs)
theorem keepT_same {H H' : Hp} (s : Same H H') : KeepT H H' := fun a _ h => s a _ h
theorem keepT_feed {H H' : Hp} {f : Addr} (F : FeedAt H f) (s : SameBut f H H') : KeepT H H' := fun a xs h => s a _ (fun z => by
  obtain ⟨o, t, e, _⟩ := F
  rw [z, e] at h
  cases h) h
def NamesAt (H : Hp) (a : Addr) (ns : List Str) : Prop := H a = some (.lst (ns.map V.str)) ∨ H a = some (.tup (ns.map V.str))
def spNames : Sp := fun vs H Q _ => ∃ (f : Addr) (m : Int), vs = [.ref f, .int m] ∧ FeedAt H f ∧ 0 ≤ m ∧ m ≤ 6 ∧ ∀ (l : Addr) (ns : List Str) (H' : Hp), H l = none → l ≠ f → H' l = some (.lst (ns.map V.str)) → ns.length = m.toNat → (∀ x ∈ ns, NmOk x) → FeedAt H' f → SameBut f H H' → Q (.ref l) H'
def spTree (n : Nat) : Sp := fun vs H Q _ => ∃ (f a : Addr) (room deep : Int) (ns : List Str), vs = [.ref f, .ref a, .int room, .int deep] ∧ FeedAt H f ∧ NamesAt H a ns ∧ ns.length ≤ 6 ∧ 1 ≤ room ∧ room ≤ 100 ∧ 1 ≤ deep ∧ deep + 1 ≤ (n : Int) + 1 ∧
  ∀ (v : V) (t : Tr) (H' : Hp), FeedAt H' f → SameBut f H H' → TreeAt H' v t → t.ok ns → (t.size : Int) ≤ room → (t.depth : Int) ≤ deep → Q v H'
theorem at_in {α : Type} {l : List α} {i : Int} (h0 : 0 ≤ i) (h : i < (l.length : Int)) : ∃ v, atI l i = some v ∧ v ∈ l := by
  have hk : i.toNat < l.length := by omega
  have q : atI l ((i.toNat : Nat) : Int) = some l[i.toNat] := atI_nat (List.getElem?_eq_getElem hk)
  have ek : ((i.toNat : Nat) : Int) = i := by omega
  rw [ek] at q
  exact ⟨_, q, List.getElem_mem hk⟩
end Mine

namespace L2
open PySem PySem.Spec PyProof.Rows
section
variable {X : Cx}
/-! ### list(range(a, b)) -/
def rngV (lo : Int) (n : Nat) : List Int := (List.range n).map fun i : Nat => lo + (i : Int)
def tListRng (ta : TA) : TE := fun σ H Q => ta σ H fun vs H1 => ∃ i j : Int, vs = [.int i, .int j] ∧ (-(2 ^ 62) ≤ i ∧ i < 2 ^ 62 ∧ -(2 ^ 62) ≤ j ∧ j < 2 ^ 62) ∧ j - i ≤ 1000 ∧ ∀ p, H1 p = none → Q (.ref p) (upd H1 p (.lst ((rngV i (j - i).toNat).map V.int)))
/-! ### sum(xs) -/
def rSum (K : PySem.W.Frag) : List V → Hp → VK → Prop := fun xs H Q => ∃ (a : Addr) (ns : List Int), xs = [.ref a] ∧ SqL K H a (ns.map V.int) ∧ (∀ n ∈ ns, 0 ≤ n) ∧ ns.sum < 2 ^ 63 ∧ Q (.int ns.sum) H
end
end L2

namespace L2
open PySem PySem.Spec PyProof.Rows
/-! ### list(reversed(t)), t a tuple -/
def RevT (h : Heap) (it t : Addr) (i : Int) : Prop := h.get? it = some { cls := .type "reversed", data := .fields #[.ref t, rawInt i] }
section
variable {prog : Program} {w : World} {A : Around} {E : Value → Shared → Prop} {s : Shared} {R : Result → Shared → Prop} {it t : Addr}
end
section
variable {X : Cx}
/-- list(reversed(e)), e a tuple -/
def tListRevT (K : PySem.W.Frag) (te : TE) : TE := fun σ H Q => te σ H fun x H1 => ∃ l ys, x = .ref l ∧ SqT K H1 l ys ∧ ∀ p, H1 p = none → Q (.ref p) (upd H1 p (.lst ys.reverse))
end
end L2

namespace Mine
open PySem L2
/-! ### more of trees: parts, sizes, data -/
def Tr.wf : Tr → Prop
  | .is x => NmOk x | .yes => True | .no => True | .not a => a.wf | .bin w a b => w ∈ joinW ∧ a.wf ∧ b.wf
def Tr.parts : Tr → List Tr
  | .is _ => [] | .yes => [] | .no => [] | .not a => [a] | .bin _ a b => [a, b]
def sizes (ts : List Tr) : Nat := (ts.map Tr.size).sum
def namesL (ts : List Tr) : List Str := (ts.map Tr.names).flatten
inductive TreesAt (H : Hp) : List V → List Tr → Prop
  | nil : TreesAt H [] []
  | cons {v : V} {t : Tr} {vs : List V} {ts : List Tr} : TreeAt H v t → TreesAt H vs ts → TreesAt H (v :: vs) (t :: ts)
def Tr.data : Tr → PyData
  | .is x => .tuple [.str "is", .str x] | .yes => .tuple [.str "yes"] | .no => .tuple [.str "no"] | .not a => .tuple [.str "not", a.data] | .bin w a b => .tuple [.str w, a.data, b.data]
end Mine

namespace L2
open PySem PySem.Spec PyProof.Rows
/-! ### xs.index(x) -/
section
variable {prog : Program} {w : World} {A : Around} {E : Value → Shared → Prop} {s : Shared}
def idxF (xs : Array Value) (x : Value) : Nat → Option PySem.Fin × Unit → Sem (ForInStep (Option PySem.Fin × Unit)) := fun i _ => match xs[i]? with
  | some y => do
    let b ← eqBool y x
    if b = true then do
        let r ← retInt (i : Int)
        pure (ForInStep.done (some r, ()))
      else pure (ForInStep.yield (none, ()))
  | _ => pure (ForInStep.yield (none, ()))
end
section
variable {X : Cx}
/-- the place of the first text z in ns -/
def posOf (z : Str) : List Str → Option Nat
  | [] => none
  | a :: r => if a = z then some 0 else (posOf z r).map (· + 1)
def rIndexT (K : PySem.W.Frag) : V → List V → Hp → VK → Prop := fun x vs H Q => ∃ (a : Addr) (ns : List Str) (z : Str) (j : Nat), x = .ref a ∧ vs = [.str z] ∧ SqT K H a (ns.map V.str) ∧ posOf z ns = some j ∧ Q (.int (j : Int)) H
def rIndexL (K : PySem.W.Frag) : V → List V → Hp → VK → Prop := fun x vs H Q => ∃ (a : Addr) (ns : List Str) (z : Str) (j : Nat), x = .ref a ∧ vs = [.str z] ∧ SqL K H a (ns.map V.str) ∧ posOf z ns = some j ∧ Q (.int (j : Int)) H
end
end L2

namespace L2
open PySem PySem.Spec PyProof.Rows

/-! ### lists of pairs as tables -/
section
variable {κ : Type} [DecidableEq κ]
def valV (kvs : List (κ × V)) (k : κ) : Option V := (kvs.find? fun kv => decide (kv.1 = k)).map (·.2)
/-- in its place, or at the end -/
def putK (kvs : List (κ × V)) (k : κ) (v : V) : List (κ × V) :=
  if (kvs.any fun kv => decide (kv.1 = k)) = true then kvs.map (fun kv => if kv.1 = k then (kv.1, v) else kv) else kvs ++ [(k, v)]
def dropK (kvs : List (κ × V)) (k : κ) : List (κ × V) := kvs.filter fun kv => decide (kv.1 ≠ k)

end


/-! ### a tracked dict, its keys ints and texts or tuples of these -/
/-- raw entries of a dict with tuple keys -/
abbrev KT (H : Hp) : List (List Key × V) → List (List Key × Addr × Value) → Prop := Paired fun p q => p.1 = q.1 ∧ H q.2.1 = some (.tup (p.1.map kV)) ∧ RelV p.2 q.2.2
section
variable {P : Program} {w : World} {H : Hp} {h : Heap} {a : Addr}
end

/-- what the dict at a holds at the key y -/
def DGet (H : Hp) (a : Addr) (y : V) (r : Option V) : Prop :=
  (∃ kvs k, Rd H a (.dK kvs) ∧ y = kV k ∧ r = valV kvs k) ∨ ∃ kvs k b, Rd H a (.dT kvs) ∧ y = .ref b ∧ H b = some (.tup (k.map kV)) ∧ r = valV kvs k
/-- the heap behind a[y] = v -/
def DPut (H : Hp) (a : Addr) (y v : V) (H' : Hp) : Prop :=
  (∃ kvs k, H a = some (.dK kvs) ∧ y = kV k ∧ kvs.length < sizeLine ∧ H' = upd H a (.dK (putK kvs k v))) ∨
  ∃ kvs k b, H a = some (.dT kvs) ∧ y = .ref b ∧ H b = some (.tup (k.map kV)) ∧ kvs.length < sizeLine ∧ H' = upd H a (.dT (putK kvs k v))
section
variable {X : Cx} {pins : List (Addr × Obj)} {σ : St} {H : Hp} {s : Shared} {a : Addr} {y v : V} {u r : Value} {o : Option V} {A : Around} {E : Value → Shared → Prop}

end

section
variable {X : Cx} {pins : List (Addr × Obj)} {σ : St} {H : Hp} {s : Shared} {a : Addr} {kvs : List (Key × V)} {k : Key} {u : Value} {A : Around} {E : Value → Shared → Prop}
end


/-! ### readings and rules -/
/-- the element of a subscription, not a slice -/
def NoSl (i : Expr) : Prop := ∀ ov iv, subscripted i false ov iv = operate [ov, iv] (getItem ov iv)
/-- d[y] -/
def tDGet (td ty : TE) : TE := fun σ H Q => td σ H fun x H1 => ty σ H1 fun y H2 => ∃ a v, x = .ref a ∧ DGet H2 a y (some v) ∧ Q v H2
/-- y in d, y not in d -/
def tDIn (ty td : TE) : TE := fun σ H Q => ty σ H fun y H1 => td σ H1 fun x H2 => ∃ a o, x = .ref a ∧ DGet H2 a y o ∧ Q (.bl o.isSome) H2
def tDNotIn (ty td : TE) : TE := fun σ H Q => ty σ H fun y H1 => td σ H1 fun x H2 => ∃ a o, x = .ref a ∧ DGet H2 a y o ∧ Q (.bl (!o.isSome)) H2
/-- d[y] = v -/
def sDPut (td ty tv : TE) : TS := fun D σ H => tv σ H fun v H1 => td σ H1 fun x H2 => ty σ H2 fun y H3 => ∃ a H4, x = .ref a ∧ DPut H3 a y v H4 ∧ D.nx σ H4
/-- d[y] op= v -/
def sDAug (td ty tv : TE) (rd : V → V → Hp → VK → Prop) : TS := fun D σ H => td σ H fun x H1 => ty σ H1 fun y H2 => ∃ a v, x = .ref a ∧ DGet H2 a y (some v) ∧
  tv σ H2 fun y2 H3 => rd v y2 H3 fun z H4 => ∃ H5, DPut H4 a y z H5 ∧ D.nx σ H5
/-- del d[y] -/
def sDDel (td ty : TE) : TS := fun D σ H => td σ H fun x H1 => ty σ H1 fun y H2 => ∃ a kvs k, x = .ref a ∧ H2 a = some (.dK kvs) ∧ y = kV k ∧ (valV kvs k).isSome = true ∧ D.nx σ (upd H2 a (.dK (dropK kvs k)))

section
variable {X : Cx} {o i e value : Expr} {pos pos' tpos : Pos} {td ty tv : TE}
end


/-! ### displays -/
/-- {}, to be a dict of the kind that is wanted -/
def tDNewK : TE := fun _ H Q => ∀ p, H p = none → Q (.ref p) (upd H p (.dK []))
def tDNewT : TE := fun _ H Q => ∀ p, H p = none → Q (.ref p) (upd H p (.dT []))
section
variable {X : Cx} {pos : Pos}
end

/-- the pairs of a display, from the left -/
def tPairs : List (TE × TE) → St → Hp → (List (V × V) → Hp → Prop) → Prop
  | [], _, H, Q => Q [] H
  | (tk, tv) :: r, σ, H, Q => tk σ H fun x H1 => tv σ H1 fun y H2 => tPairs r σ H2 fun ps H3 => Q ((x, y) :: ps) H3
abbrev VV : List (V × V) → List (Value × Value) → Prop := Paired fun p q => RelV p.1 q.1 ∧ RelV p.2 q.2
def PPs (X : Cx) (pos : Pos) (keys : List (Option Expr)) (values : List Expr) (trs : List (TE × TE)) : Prop :=
  ∀ (pins : List (Addr × Obj)) (s : Shared) (σ : St) (H : Hp) (Q : List (V × V) → Hp → Prop), Inv X pins σ H s → tPairs trs σ H Q →
    wpAny (model X.prog X.w) X.A (evalPairs (pairTrees keys values X.env pos)) (fun vs s' => ∃ ps H', Inv X pins σ H' s' ∧ VV ps vs ∧ Q ps H') X.xe s
def mergeK (kvs more : List (Key × V)) : List (Key × V) := more.foldl (fun acc kv => putK acc kv.1 kv.2) kvs
/-- {k: v, ..} with keys ints and texts; the new dict stands empty while the pairs are made -/
def tDisp (trs : List (TE × TE)) : TE := fun σ H Q => ∀ p, H p = none → tPairs trs σ (upd H p (.dK [])) fun ps H2 => H2 p = some (.dK []) ∧ ∃ kvs : List (Key × V), ps = kvs.map (fun kv => (kV kv.1, kv.2)) ∧ kvs.length ≤ 15 ∧ Q (.ref p) (upd H2 p (.dK (mergeK [] kvs)))
/-! ### methods -/
/-- a method call o.m(e) of a built-in, with one argument: what must be seen of the text -/
structure M1 (X : Cx) (o : Expr) (m : Str) (apos : Pos) (e : Expr) (cpos : Pos) : Prop where
  base : attributeBase o m X.env (eval o X.env) = eval o X.env
  few : ((backTo cpos (starEach [e] X.env)).all (fun x => !x.1) && (backToKw cpos (keywordEach [] X.env)).all (fun x => x.1.isSome)
    && decide (([e] : List Expr).length + ([] : List Keyword).length + (if ([] : List Keyword).isEmpty then 0 else 1) < 30)) = true
  line : (apos.endLine == cpos.line) = true
  trees : backTo cpos (starEach [e] X.env) = [(false, eval e X.env)]
structure M2 (X : Cx) (o : Expr) (m : Str) (apos : Pos) (e f : Expr) (cpos : Pos) : Prop where
  base : attributeBase o m X.env (eval o X.env) = eval o X.env
  few : ((backTo cpos (starEach [e, f] X.env)).all (fun x => !x.1) && (backToKw cpos (keywordEach [] X.env)).all (fun x => x.1.isSome)
    && decide (([e, f] : List Expr).length + ([] : List Keyword).length + (if ([] : List Keyword).isEmpty then 0 else 1) < 30)) = true
  line : (apos.endLine == cpos.line) = true
  trees : backTo cpos (starEach [e, f] X.env) = [(false, eval e X.env), (false, eval f X.env)]

/-- a is a dict, whatever its keys -/
def IsD (H : Hp) (a : Addr) : Prop := (∃ kvs, Rd H a (.dK kvs)) ∨ ∃ kvs, Rd H a (.dT kvs)
section
variable {X : Cx} {pins : List (Addr × Obj)} {σ : St} {H : Hp} {s : Shared} {a : Addr} {y d : V} {u r : Value} {o : Option V} {A : Around} {E : Value → Shared → Prop}
end

def tDGet1 (td ty : TE) : TE := fun σ H Q => td σ H fun x H1 => ∃ a, x = .ref a ∧ IsD H1 a ∧ ty σ H1 fun y H2 => ∃ o, DGet H2 a y o ∧ Q (o.getD .non) H2
def tDGet2 (td ty tx : TE) : TE := fun σ H Q => td σ H fun x H1 => ∃ a, x = .ref a ∧ IsD H1 a ∧ ty σ H1 fun y H2 => tx σ H2 fun z H3 => ∃ o, DGet H3 a y o ∧ Q (o.getD z) H3
/-- d.pop(k): there; d.pop(k, x): there or not -/
def tDPop1 (td ty : TE) : TE := fun σ H Q => td σ H fun x H1 => ∃ a, x = .ref a ∧ IsD H1 a ∧ ty σ H1 fun y H2 => ∃ kvs k v, H2 a = some (.dK kvs) ∧ y = kV k ∧ valV kvs k = some v ∧ Q v (upd H2 a (.dK (dropK kvs k)))
def tDPop2 (td ty tx : TE) : TE := fun σ H Q => td σ H fun x H1 => ∃ a, x = .ref a ∧ IsD H1 a ∧ ty σ H1 fun y H2 => tx σ H2 fun z H3 => ∃ kvs k, H3 a = some (.dK kvs) ∧ y = kV k ∧
  (∀ v, valV kvs k = some v → Q v (upd H3 a (.dK (dropK kvs k)))) ∧ (valV kvs k = none → Q z H3)
section
variable {X : Cx} {o e f : Expr} {apos cpos : Pos} {td ty tx : TE}
end

/-! ### dict(d): a copy -/
section
variable {X : Cx} {pins : List (Addr × Obj)} {σ : St} {H : Hp} {s : Shared} {a : Addr} {kvs : List (Key × V)} {A : Around} {E : Value → Shared → Prop}
end


section
variable {X : Cx} {pins : List (Addr × Obj)} {σ : St} {H : Hp} {s : Shared} {a : Addr} {y : V} {u : Value} {A : Around} {E : Value → Shared → Prop}
end
end L2

namespace L2
open PySem PySem.Spec PyProof.Rows
/-! ### xs.index(z), xs a list or a tuple -/
section
variable {X : Cx}
def tIndex (K : PySem.W.Frag) (to : TE) (t : TA) : TE := fun σ H Q => to σ H fun x H1 => ∃ (a : Addr) (ns : List Str), x = .ref a ∧ (H1 a = some (.lst (ns.map V.str)) ∨ H1 a = some (.tup (ns.map V.str))) ∧ t σ H1 fun vs H2 => (H2 a = H1 a) ∧ ∃ (z : Str) (j : Nat), vs = [.str z] ∧ posOf z ns = some j ∧ Q (.int (j : Int)) H2
variable {o e : Expr} {es : List Expr} {to : TE} {t : TA} {apos cpos : Pos}
end
end L2

namespace L2
open PySem PySem.Spec PyProof.Rows
end L2

namespace L2
open PySem PySem.Spec PyProof.Rows
/-! ### xs.count(z) -/
section
variable {X : Cx}
def rCountL (K : PySem.W.Frag) : V → List V → Hp → VK → Prop := fun x vs H Q => ∃ (a : Addr) (xs : List V) (z : V), x = .ref a ∧ vs = [z] ∧ SqL K H a xs ∧ xs.all flatV = true ∧ flatV z = true ∧ Q (.int ((xs.countP fun y => eqV y z : Nat) : Int)) H
end
/-! ### xs[::-1] -/
section
variable {prog : Program} {w : World} {A : Around} {E : Value → Shared → Prop} {s : Shared}
end
section
variable {X : Cx} {e k : Expr} {te tk : TE} {pos p2 : Pos}
/-- e[::k], k being -1 -/
def tRev (K : PySem.W.Frag) (te tk : TE) : TE := fun σ H Q => te σ H fun x H1 => tk σ H1 fun y H2 => y = .int (-1) ∧ ∃ a xs, x = .ref a ∧
  ((SqL K H2 a xs ∧ ∀ p, H2 p = none → Q (.ref p) (upd H2 p (.lst xs.reverse))) ∨ (SqT K H2 a xs ∧ ∀ p, H2 p = none → Q (.ref p) (upd H2 p (.tup xs.reverse))))
end
/-! ### max(t, default=d), t a tuple of ints -/
def bestI (g : Nat → Int) : Nat → Int
  | 0 => g 0
  | k + 1 => if bestI g k < g (k + 1) then g (k + 1) else bestI g k
def maxD (ns : List Int) (d : Int) : Int := match ns with | [] => d | _ :: _ => bestI (fun i => ns[i]?.getD 0) (ns.length - 1)
section
variable {prog : Program} {w : World} {A : Around} {R : Result → Shared → Prop} {I S : Addr} {fp wr : List Addr} {n : Nat} {P : Nat → Value → Prop} {St : Nat → Heap → Prop} {g : Nat → Int} {kw : List (Str × Value)}
end
section
variable {X : Cx} {e k : Expr} {te tk : TE} {pos p1 kp : Pos}
def tMaxD (K : PySem.W.Frag) (te tk : TE) : TE := fun σ H Q => te σ H fun x H1 => tk σ H1 fun y H2 => ∃ a ns d, x = .ref a ∧ y = .int d ∧ SqT K H2 a (ns.map V.int) ∧ Q (.int (maxD ns d)) H2
/-- max(xs), xs a list of ints, not empty -/
def rMax1 (K : PySem.W.Frag) : List V → Hp → VK → Prop := fun xs H Q => ∃ a ns, xs = [.ref a] ∧ SqL K H a (ns.map V.int) ∧ ns ≠ [] ∧ Q (.int (maxD ns 0)) H
end
end L2

namespace L2
open PySem PySem.Spec PyProof.Rows
/-! ### enumerate of a tuple -/
section
variable {prog : Program} {w : World} {A : Around} {E : Value → Shared → Prop} {s : Shared}
theorem tn_item {it t : Addr} {i : Nat} {items : Array Value} {x : Value} {Q : Value → Shared → Prop} (hit : s.heap.IsTupleIter it t i) (ht : s.heap.IsTuple t items) (hx : items[i]? = some x)
    (q : ∀ h', h'.IsTupleIter it t (i + 1) → Heap.SameBut it s.heap h' → Q x { s with heap := h' }) : wpAny (model prog w) A (Builtin.SmallTypes.nextOf (.ref it)) Q E s := by
  obtain ⟨o, ho, hc, hd⟩ := id hit; obtain ⟨ol, hol, _, nl, hdl⟩ := ht
  unfold Builtin.SmallTypes.nextOf
  refine wpAny_bind (wpAny_callSpecial?_slot (name := Str.ofString "__next__") hit.typeIs F.slot_tuple_iterator_next (wpAny_call_entry F.slot_tuple_iterator_next hit.typeIs F.entry_tuple_iterator_next ?_ (F.args_tuple_iterator_next_1 _)))
  show wpAny _ _ (field (.ref it) 0 >>= _) _ _ s; refine wpAny_bind (wpAny_field ho hd (x := .ref t) rfl ?_)
  show wpAny _ _ (if (Value.ref t == Value.none) = true then _ else _) _ _ s; rw [if_neg (show ¬ ((Value.ref t == Value.none) = true) from Bool.false_ne_true)]
  show wpAny _ _ (field (.ref it) 1 >>= _) _ _ s; refine wpAny_bind (wpAny_field ho hd (x := .int i 0) rfl ?_)
  show wpAny _ _ (seqItems? (.ref t) >>= _) _ _ s; refine wpAny_bind (wpAny_seqItems hol hdl ?_)
  simp only [Int.toNat_natCast, hx]
  refine wpAny_bind (wpAny_setField ho hd (by simp) (wpAny_pure ⟨x, rfl, wpAny_pure (q _ ?_ (Heap.SameBut.update ..))⟩))
  exact ⟨_, Heap.get?_update_self _ ho (Obj.isFreed_of_fields (Obj.data_mapFields hd _)), (Obj.cls_mapFields ..).trans hc, by rw [Obj.data_mapFields hd]; simp [rawInt]⟩
theorem tn_end {it t : Addr} {i : Nat} {items : Array Value} {Q : Value → Shared → Prop} (hh : A.handled = none) (hit : s.heap.IsTupleIter it t i) (ht : s.heap.IsTuple t items) (hx : items[i]? = none)
    (q : ∀ h' e, Heap.ExtBut it s.heap h' → (∃ o, h'.get? e = some o ∧ o.cls = .type "StopIteration") → E (.ref e) { s with heap := h' }) : wpAny (model prog w) A (Builtin.SmallTypes.nextOf (.ref it)) Q E s := by
  obtain ⟨o, ho, hc, hd⟩ := id hit; obtain ⟨ol, hol, _, nl, hdl⟩ := ht
  unfold Builtin.SmallTypes.nextOf
  refine wpAny_bind (wpAny_callSpecial?_slot (name := Str.ofString "__next__") hit.typeIs F.slot_tuple_iterator_next (wpAny_call_entry F.slot_tuple_iterator_next hit.typeIs F.entry_tuple_iterator_next ?_ (F.args_tuple_iterator_next_1 _)))
  show wpAny _ _ (field (.ref it) 0 >>= _) _ _ s; refine wpAny_bind (wpAny_field ho hd (x := .ref t) rfl ?_)
  show wpAny _ _ (if (Value.ref t == Value.none) = true then _ else _) _ _ s; rw [if_neg (show ¬ ((Value.ref t == Value.none) = true) from Bool.false_ne_true)]
  show wpAny _ _ (field (.ref it) 1 >>= _) _ _ s; refine wpAny_bind (wpAny_field ho hd (x := .int i 0) rfl ?_)
  show wpAny _ _ (seqItems? (.ref t) >>= _) _ _ s; refine wpAny_bind (wpAny_seqItems hol hdl ?_)
  simp only [Int.toNat_natCast, hx]
  first
    | refine wpAny_bind (wpAny_rule (wpAny_bind (wpAny_setField ho hd (by simp) (wpAny_bind (wpAny_letGo ?_)))))
    | refine wpAny_bind (wpAny_rule (wpAny_bind (wpAny_setField ho hd (by simp) ?_)))
  show wpAny _ _ (newExc (.type "StopIteration") [] >>= _) _ _ _; refine wpAny_bind ?_
  simp only [newExc, newTuple]; refine wpAny_bind (wpAny_newObj_type ?_ (by size_fits))
  refine wpAny_bind (m := firstArgMember _ _) (wpAny_of_eq (a := Value.none) (by first | rfl | (simp only [firstArgMember]; rfl)) ?_); refine wpAny_newObj_type ?_ (by size_fits)
  simp only [raiseNew]; refine wpAny_bind (wpAny_handled ?_)
  first | rw [show A.in1.handled = none from hh] | rw [hh]
  refine wpAny_bind (wpAny_pure (wpAny_throw ?_)); exact q _ _ (((Heap.SameBut.update ..).extBut.push _).push _) ⟨_, Heap.get?_push_size _ rfl, rfl⟩
theorem enumT_end {e it t : Addr} {j : Nat} {i : Int} {old : Value} {items : Array Value} {Q : Option Value → Shared → Prop} (hh : A.handled = none) (he : IsEnum s.heap e it i old) (hit : s.heap.IsTupleIter it t j) (ht : s.heap.IsTuple t items) (hx : items[j]? = none)
    (q : ∀ h', Heap.ExtBut it s.heap h' → Q none { s with heap := h' }) : wpAny (model prog w) A (pyNext (.ref e)) Q E s := by
  have hT : s.TypeIs (.ref e) "enumerate" := ⟨_, he, rfl⟩
  unfold pyNext
  refine wpAny_bind (wpAny_attempt (wpAny_callSpecial?_slot (name := Str.ofString "__next__") hT F.slot_enumerate_next (wpAny_call_entry F.slot_enumerate_next hT F.entry_enumerate_next ?_ (F.args_enumerate_next_1 _))))
  show wpAny _ _ (field (.ref e) 2 >>= _) _ _ _; refine wpAny_bind (wpAny_field he rfl (x := .ref it) rfl ?_)
  refine wpAny_bind (tn_end hh hit ht hx fun h' x he' hx' => ?_)
  obtain ⟨o, ho, hc⟩ := hx'
  refine wpAny_bind (wpAny_isInstance (T := "StopIteration") (b := true) ⟨o, ho, hc⟩ isSubtype_stop ?_); exact wpAny_pure (q h' he')
end
theorem draws_tup {prog : Program} {w : World} {A : Around} (hh : A.handled = none) (it l : Addr) (hne : l ≠ it) (items : Array Value) : Draws prog w A it [it, l] items.size (fun i v => items[i]? = some v) (fun i h => h.IsTupleIter it l i ∧ h.IsTuple l items) where
  live := fun _ _ st => let ⟨o, ho, _⟩ := st.1; ⟨o, ho⟩
  frame := fun _ _ _ st k => ⟨st.1.at fun o e => k it (by simp) o e, st.2.at fun o e => k l (by simp) o e⟩
  item := fun i s Q E hi st q => by
    refine tn_item st.1 st.2 (x := items[i]) (by simp [hi]) fun h' a b => ?_
    exact q _ h' s.toks (by simp [hi]) ⟨a, st.2.extBut b.extBut hne⟩ b
  done := fun s Q E st q => tn_end hh st.1 st.2 (by simp) q
open AutoSeq1 (wpAny_loadPart') in
set_option maxHeartbeats 1000000 in
theorem meets_enumT (l : Addr) (items : Array Value) (n : Nat) (dct : Option Addr) (sl : Array (Option Value)) :
    Meets (Builtin.«enumerate.__new__» ⟨[.type "enumerate", .ref l], []⟩) (fun _ R s => s.heap.get? l = some { cls := .type "tuple", dict := dct, data := .seq items n, slots := sl } ∧
      R (.ok (.ret (.ref (s.heap.push { cls := .type "tuple_iterator", data := .fields #[.ref l, .int 0 0] }).objs.size)))
        { s with heap := (s.heap.push { cls := .type "tuple_iterator", data := .fields #[.ref l, .int 0 0] }).push { cls := .type "enumerate", data := .fields #[.none, .bool false, .ref s.heap.objs.size, rawInt 0, .none, .none] } }) :=
  .of_wp fun prog w A R s h => by
    obtain ⟨hp, g, d, tk, os⟩ := s; obtain ⟨hl, h⟩ := h
    have hsub := sub_enumerate; have hL : Heap.IsTuple (Shared.heap ⟨hp, g, d, tk, os⟩) l items := ⟨_, hl, rfl, n, rfl⟩
    wp_walk using wpAny_loadPart' hl
    refine wpAny_stack_any fun st => wpAny_pure ?_
    split
    · rename_i c _ _ _ _ _
      cases (c == Value.type "enumerate")
      · wp_walk using wpAny_loadPart' hl, wpAny_pyIter_tuple hL
        exact ⟨_, rfl, h⟩
      · wp_walk using wpAny_loadPart' hl, wpAny_pyIter_tuple hL
        exact ⟨_, rfl, h⟩
    · wp_walk using wpAny_loadPart' hl, wpAny_pyIter_tuple hL
      exact ⟨_, rfl, h⟩
section
variable {prog : Program} {w : World} {A : Around} {E : Value → Shared → Prop} {s : Shared}
theorem call_enumT {l : Addr} {items : Array Value} {Q : Value → Shared → Prop} (hL : s.heap.IsTuple l items)
    (q : ∀ h', IsEnum h' (s.heap.objs.size + 1) s.heap.objs.size 0 .none → h'.IsTupleIter s.heap.objs.size l 0 → (∀ b o, s.heap.get? b = some o → h'.get? b = some o) → Q (.ref (s.heap.objs.size + 1)) { s with heap := h' }) :
    wpAny (model prog w) A (call (.type "enumerate") [.ref l]) Q E s := by
  obtain ⟨⟨c, dct, dt, sl⟩, hl, hc, n, hd⟩ := hL
  replace hc : c = .type "tuple" := hc
  replace hd : dt = .seq items n := hd
  subst hc hd
  refine callType_new F.called_enumerate (by decide) (F.typeCall_enumerate_1 _) (F.newCall_enumerate_1 _) (fun obj => F.args_object_init_2 obj _) F.entry_enumerate_new (meets_enumT l items n dct sl) ⟨hl, ?_⟩
  have hz : (s.heap.push { cls := .type "tuple_iterator", data := .fields #[.ref l, .int 0 0] }).objs.size = s.heap.objs.size + 1 := Heap.size_push ..
  show _ ∧ _
  rw [hz]
  have he : IsEnum ((s.heap.push { cls := .type "tuple_iterator", data := .fields #[.ref l, .int 0 0] }).push { cls := .type "enumerate", data := .fields #[.none, .bool false, .ref s.heap.objs.size, rawInt 0, .none, .none] }) (s.heap.objs.size + 1) s.heap.objs.size 0 .none := by
    have := Heap.get?_push_size (s.heap.push { cls := .type "tuple_iterator", data := .fields #[.ref l, .int 0 0] }) (o := { cls := .type "enumerate", data := .fields #[.none, .bool false, .ref s.heap.objs.size, rawInt 0, .none, .none] }) rfl
    rw [hz] at this; exact this
  exact ⟨⟨_, he, rfl⟩, q _ he ⟨_, Heap.get?_push_of_some _ (Heap.get?_push_size _ rfl), rfl, rfl⟩ fun b o x => Heap.get?_push_of_some _ (Heap.get?_push_of_some _ x)⟩
end
def IteT (K : PySem.W.Frag) (a : Addr) : It :=
  ⟨fun i H => ∃ xs x, SqT K H a xs ∧ xs[i]? = some x, fun i H y H' => ∃ t, y = .ref t ∧ H t = none ∧ ∀ xs x, SqT K H a xs → xs[i]? = some x → H' = upd H t (.tup [.int i, x]), fun i H => ∃ xs, SqT K H a xs ∧ xs.length ≤ i⟩
theorem turn_enumT {P : Program} {w : World} {K : PySem.W.Frag} {elts : List Expr} {k : Nat} {pos : Pos} (a e it : Addr) (hei : e ≠ it) (hai : a ≠ it) (hae : a ≠ e) :
    Turn P w K (.Tuple elts k pos) (IteT K a) [e, it] e (fun i h => (∃ old, IsEnum h e it i old) ∧ h.IsTupleIter it a i) where
  mem := by simp
  obj := fun i h st b hb => by
    obtain ⟨⟨old, he⟩, o, e2, c, d⟩ := st
    rcases List.mem_cons.mp hb with z | z
    · subst z
      exact ⟨_, he, fun v z => nomatch z⟩
    · have z' := List.mem_singleton.mp z
      subst z'
      exact ⟨o, e2, fun v z => by rw [d] at z; cases z⟩
  keep := fun i h h' st k => by
    obtain ⟨⟨old, he⟩, hit⟩ := st
    exact ⟨⟨old, k e (by simp) _ he⟩, hit.at fun o x => k it (by simp) o x⟩
  item := by
    intro X hP hw hK hc i pins s σ H E I hf st hg
    subst hP hw hK
    obtain ⟨xs, x, hq, hx⟩ := hg
    obtain ⟨its, rv, p, hz⟩ := I.tuple hq
    obtain ⟨u, hu, ru⟩ := rv.get hx
    obtain ⟨⟨old, he⟩, hit⟩ := st
    have hi : i < its.toArray.size := by
      rw [List.size_toArray]
      exact (List.getElem?_eq_some_iff.mp hu).1
    refine wpAny_pyNext_enum_itemD (draws_tup (prog := X.prog) (w := X.w) (A := X.A.in1) (I.ok.hd hc) it a hai its.toArray) he ⟨hit, p⟩ hi hei (by simp [hei, Ne.symm hae]) fun y h1 tk hy ho hst1 hT hsz hk => ?_
    have ey : y = u := by
      have h1 : its.toArray[i]? = some u := by simpa using hu
      rw [h1] at hy
      exact (Option.some.inj hy).symm
    subst ey
    refine ⟨_, rfl, wpAny_letOwnedTupleGo_enum ho fun h2 he2 hs2 => ?_⟩
    have elt : e < s.heap.objs.size := Heap.lt_size he
    have hT2 : h2.get? s.heap.objs.size = some { cls := .type "tuple", data := .seq #[.int i tk, y] } := (hs2.2 _ (Ne.symm (Nat.ne_of_lt elt))).trans hT
    have I2 : Inv X pins σ (upd H s.heap.objs.size (.tup [.int i, x])) { s with heap := h2, toks := tk + 1 } := by
      refine I.turnedNew (ch := [e, it]) (fun b ob hb eb => ?_) hf (Nat.le_refl _) ⟨by show 2 ≤ sizeLine; decide, [.int i tk, y], .cons ⟨_, rfl⟩ (.cons ru .nil), ⟨_, hT2, rfl, _, rfl⟩, _, hT2, rfl⟩
      have b1 : b ≠ e := fun z => hb (by simp [z])
      have b2 : b ≠ it := fun z => hb (by simp [z])
      exact (hs2.2 b b1).trans (hk b ob b1 b2 eb)
    refine ⟨.ref s.heap.objs.size, _, I2, rfl, ⟨_, rfl, I.hok.fresh (Nat.le_refl _), fun ys z hy hyi => ?_⟩, ⟨⟨y, by simpa using he2⟩, hst1.1.at fun o z => (hs2.2 it (Ne.symm hei)).trans z⟩, fun b hb => ?_⟩
    · have e1 := I.tuple_inj hy hq
      subst e1
      rw [hx] at hyi
      cases hyi
      rfl
    · have z := hf b hb
      have hlt : b < s.heap.objs.size := by
        rcases List.mem_cons.mp hb with y | y
        · rw [y]; exact elt
        · rw [List.mem_singleton.mp y]
          obtain ⟨o, e2, _⟩ := hit
          exact Heap.lt_size e2
      rw [upd_ne (Nat.ne_of_lt hlt)]
      exact z.1
  done := by
    intro X hP hw hK hc i pins s σ H E I hf st hg
    subst hP hw hK
    obtain ⟨xs, hq, hx⟩ := hg
    obtain ⟨its, rv, p, hz⟩ := I.tuple hq
    obtain ⟨⟨old, he⟩, hit⟩ := st
    have hl := rv.length
    exact enumT_end (I.ok.hd hc) he hit p (Array.getElem?_eq_none (by simp; omega)) fun h' eb => ⟨rfl, I.turnedL (t' := s.toks) (ch := [e, it]) (fun b o hb eo => eb b o (fun z => hb (by simp [z])) eo) hf⟩
  self := fun _ _ _ _ _ st h => by
    obtain ⟨⟨old, he⟩, _⟩ := st
    exact wpAny_pyIter_enum he h
section
variable {X : Cx} {elts : List Expr} {k : Nat} {tpos : Pos}
def iEnumT (K : PySem.W.Frag) (tl : TE) : TI := fun σ H R => tl σ H fun x H1 => ∃ a, x = .ref a ∧ (∃ xs, SqT K H1 a xs) ∧ R (IteT K a) H1
theorem pi_enumT {l : Expr} {tl : TE} {p pos : Pos} (hg : Gl X "enumerate") (hm : X.mg "enumerate" = none) (hl : PE X l tl) (hs : starEach [l] X.env = [(false, eval l X.env)] := by rfl) :
    PI X (.Tuple elts k tpos) (.Call (.Name "enumerate" p) [l] [] pos) (iEnumT X.K tl) := by
  intro pins s σ H R I h
  refine Call_ (ld_blt I hg hm boot_enumerate (PyProof.Rows.callWith_type1 ?_ hs rfl))
  rw [hs]
  show wpAny _ _ (spliced ((false, eval l X.env) :: backTo pos (starEach [] X.env))) _ _ s
  refine Calls.spliced_cons (thn (hl pins s σ H _ I h) fun u s1 ⟨x, H1, I1, r1, a, ex, ⟨xs, hq⟩, q⟩ => ?_)
  subst ex
  cases r1
  obtain ⟨its, rv, p, hz⟩ := I1.tuple hq
  have alt := p.lt
  refine Calls.spliced_nil ?_
  refine call_enumT p fun h' he hit hk => ?_
  refine wpAny_pyIter_enum he ?_
  have I2 : Inv X pins σ H1 { s1 with heap := h' } := I1.kept (t' := s1.toks) hk
  refine ⟨s1.heap.objs.size + 1, [s1.heap.objs.size + 1, s1.heap.objs.size], _, _, H1, rfl, I2, turn_enumT a _ _ (Nat.ne_of_gt (Nat.lt_succ_self _)) (Nat.ne_of_lt alt) (Nat.ne_of_lt (Nat.lt_succ_of_lt alt)), ⟨⟨_, he⟩, hit⟩, fun b hb => ?_, q⟩
  rcases List.mem_cons.mp hb with z | z
  · rw [z]
    exact I1.fpOk (Nat.le_succ _) (I1.hok.fresh (Nat.le_succ _))
  · rw [List.mem_singleton.mp z]
    exact I1.fpOk (Nat.le_refl _) (I1.hok.fresh (Nat.le_refl _))
end
theorem for_enumT {K : PySem.W.Frag} {a : Addr} {xs : List V} {g : TG} {tb : TS} {D : Ends} {σ : St} {H : Hp} (Pv : Nat → St → Hp → Prop) (h0 : Pv 0 σ H) (hl : ∀ i σ H, i ≤ xs.length → Pv i σ H → SqT K H a xs)
    (hs : ∀ i x σ H t, xs[i]? = some x → Pv i σ H → H t = none → g (.ref t) σ (upd H t (.tup [.int i, x])) fun σ2 H2 => tb { D with nx := Pv (i + 1), ct := Pv (i + 1), bk := D.nx } σ2 H2) (hd : ∀ σ H, Pv xs.length σ H → D.nx σ H) :
    ∃ W : Nat → Nat → St → Hp → Prop, (∃ m, W 0 m σ H) ∧ ∀ i m σ H, W i m σ H →
      ((IteT K a).stop i H ∧ D.nx σ H) ∨ ((IteT K a).go i H ∧ ∃ N : St → Hp → Prop, (∀ σ' H', N σ' H' → ∃ m', m' < m ∧ W (i + 1) m' σ' H') ∧ ∀ x H', (IteT K a).yld i H x H' → g x σ H' fun σ2 H2 => tb { D with nx := N, ct := N, bk := D.nx } σ2 H2) := by
  refine ⟨fun i m σ H => m = xs.length - i ∧ i ≤ xs.length ∧ Pv i σ H, ⟨xs.length, by simp, Nat.zero_le _, h0⟩, ?_⟩
  rintro i m σ H ⟨rfl, hi, p⟩
  have q := hl i σ H hi p
  by_cases hlt : i < xs.length
  · refine .inr ⟨⟨xs, xs[i], q, by simp [hlt]⟩, Pv (i + 1), fun σ' H' p' => ⟨xs.length - (i + 1), by omega, rfl, hlt, p'⟩, fun x H' y => ?_⟩
    obtain ⟨t, rfl, ht, e⟩ := y
    have e' := e xs xs[i] q (by simp [hlt])
    subst e'
    exact hs i xs[i] σ H t (by simp [hlt]) p ht
  · have e : i = xs.length := by omega
    subst e
    exact .inl ⟨⟨xs, q, Nat.le_refl _⟩, hd σ H p⟩
end L2

namespace L2
open PySem PySem.Spec PyProof.Rows
/-! ### for x in reversed(xs), xs a list -/
def ItV (K : PySem.W.Frag) (a : Addr) (xs : List V) : It := ⟨fun i H => SqL K H a xs ∧ i < xs.length, fun i H y H' => H' = H ∧ xs.reverse[i]? = some y, fun i _ => xs.length ≤ i⟩
section
variable {X : Cx} {tg : Expr}
def iRevL (K : PySem.W.Frag) (tl : TE) : TI := fun σ H R => tl σ H fun x H1 => ∃ a xs, x = .ref a ∧ SqL K H1 a xs ∧ R (ItV K a xs) H1
end
end L2
namespace L2
open PySem PySem.Spec PyProof.Rows
section
variable {X : Cx} {o e : Expr} {es : List Expr} {to ta : TE} {t : TA} {T id : String} {name f : Str} {r : V → List V → Hp → VK → Prop} {apos cpos pos : Pos}
end
end L2

namespace L2
open PySem PySem.Spec PyProof.Rows
/-! ### a comprehension whose own name another one within it sees -/
@[reducible] def cxCompO (X : Cx) (x : Str) (N : List Str) (scope : Scope) (cl : List (Str × Addr)) (s : Shared) (H : Hp) (fp : List Addr) : Cx where
  prog := X.prog
  w := X.w
  K := X.K
  mg := X.mg
  base := X.base
  A := X.A
  N := x :: N
  s₀ := s
  H₀ := H
  env := compEnvC scope ((x, s.heap.objs.size + 1) :: cl) s.heap.objs.size X.env
  outer := X.stack
  stack := X.stack
  ex := fp
  fn := fun y => y == x
  calm := X.calm
  pn := []
  xe := fun _ _ => False
structure CompScopeO (X : Cx) (x : Str) (N : List Str) (ix : List Nat) (scope : Scope) (cl : List (Str × Addr)) : Prop where
  clos : closureFor scope X.env = pure cl
  lay : ∀ (n : Addr) (h : Heap), cellsFrom n scope.names cl = (x, n) :: cl ∧ pushCells h scope.names = h.push { cls := .type "cell", data := .cell none }
  kind : scope.kind = .function
  names : ∀ y ∈ scope.names, y.2 = .local → scope.names.lookup y.1 = some .local
  own : (relabel scope X.env).names.lookup x = some .cell
  nd : (x :: N).Nodup
  sub : ∀ p ∈ cl, X.env.cells.lookup p.1 = some p.2
  has : ((relabel scope X.env).names.all fun p => !(p.2 == .cell || p.2 == .free) || (p.1 == x || (cl.lookup p.1).isSome)) = true
  outs : ∀ (j : Nat) (y : Str), N[j]? = some y → (relabel scope X.env).names.lookup y = some .cell ∧ ∃ k c, ix[j]? = some k ∧ X.N[k]? = some y ∧ cl.lookup y = some c ∧ X.env.scope.names.lookup y = some .cell
section
variable {X : Cx} {pins : List (Addr × Obj)} {σ : St} {x : Str} {N : List Str} {ix : List Nat} {scope : Scope} {cl : List (Str × Addr)} {fp : List Addr} {H3 : Hp} {s3 : Shared}
end
section
variable {M : Model} {A : Around} {E : Value → Shared → Prop} {s : Shared}
end
section
variable {X : Cx} {x : Str} {N : List Str} {ix : List Nat} {scope : Scope} {cl : List (Str × Addr)} {elt iter : Expr} {ifs : List Expr} {px pos : Pos} {wi : TI} {tb : TBl}
end
end L2

namespace L2
open PySem PySem.Spec PyProof.Rows
end L2

namespace L2
open PySem PySem.Spec PyProof.Rows
/-! ### range(a, b, c) of a step above 0 -/
def ItrS (lo c : Int) (n : Nat) : It := ⟨fun i _ => i < n, fun i H x H' => H' = H ∧ x = .int (lo + i * c), fun i _ => n ≤ i⟩
section
variable {X : Cx} {tg : Expr}
def iRng3 (ta : TA) : TI := fun σ H R => ta σ H fun vs H1 => ∃ i j c : Int, vs = [.int i, .int j, .int c] ∧ 0 < c ∧ c < 1000000 ∧ Builtin.Range.small i j c = true ∧ R (ItrS i c (Builtin.Range.rangeSize i j c).toNat) H1
end
end L2

namespace L2
open PySem PySem.Spec PyProof.Rows
section
variable {X : Cx}
/-! ### list(range(b)), sorted(xs) -/
def tListRng1 (ta : TA) : TE := fun σ H Q => ta σ H fun vs H1 => ∃ j : Int, vs = [.int j] ∧ 0 ≤ j ∧ j ≤ 1000 ∧ ∀ p, H1 p = none → Q (.ref p) (upd H1 p (.lst ((rngV 0 j.toNat).map V.int)))
def rSorted (K : PySem.W.Frag) : List V → Hp → VK → Prop := fun xs H Q => ∃ a ns, xs = [.ref a] ∧ SqL K H a (ns.map V.int) ∧ ns.length < 64 ∧ ∀ p ms, H p = none → List.Perm ms ns → ms.Pairwise (· ≤ ·) → Q (.ref p) (upd H p (.lst (ms.map V.int)))
end
end L2

namespace L2
open PySem PySem.Spec PyProof.Rows PySem.Builtin PySem.Builtin.Str
/-! ### text.split(sep) -/
section
variable {prog : Program} {w : World} {A : Around} {E : Value → Shared → Prop} {s : Shared} {Q : Value → Shared → Prop} {x : PySem.Str} {t : Tok}
end
section
variable {X : Cx}
def rSplit : V → List V → Hp → VK → Prop := fun x vs H Q => ∃ z u, x = .str z ∧ vs = [.str u] ∧ 0 < u.length ∧ z.length ≤ 100000 ∧ (Txt.split z u).length ≤ 100000 ∧ ∀ p, H p = none → Q (.ref p) (upd H p (.lst ((Txt.split z u).map V.str)))
/-! ### int(text) -/
end
end L2
namespace L2
open PySem PySem.Spec PyProof.Rows
section
variable {X : Cx} {e : Expr} {te : TE} {p pos pos1 : Pos}
/-! ### isinstance(e, (tuple, list)) -/
def tIsiT (te : TE) : TE := fun σ H Q => te σ H fun x H1 => ∃ a xs, x = .ref a ∧ (H1 a = some (.lst xs) ∨ H1 a = some (.tup xs)) ∧ Q (.bl true) H1
end
end L2

namespace HT
open PySem PyProof.Rows
section
variable {prog : Program} {w : World} {A : Around} {E : Value → Shared → Prop} {s : Shared}
end
end HT
namespace L2
open PySem PySem.Spec PyProof.Rows
section
variable {X : Cx}
/-- t[lo:hi], the whole of it: t itself -/
def rSlTW (K : PySem.W.Frag) : V → Option Int → Option Int → Hp → VK → Prop := fun x lo hi H Q => ∃ a xs, x = .ref a ∧ SqT K H a xs ∧
  (HT.sIx xs.length 0 lo = 0 ∧ HT.sIx xs.length xs.length hi = xs.length) ∧ Q (.ref a) H
def rSlTA (K : PySem.W.Frag) : V → Option Int → Option Int → Hp → VK → Prop := fun x lo hi H Q => ∃ a xs, x = .ref a ∧ SqT K H a xs ∧ H a = some (.tup xs) ∧ ∀ p H', Same H H' → H' p = some (.tup (cutV xs lo hi)) → Q (.ref p) H'
end
end L2

namespace L2
open PySem PySem.Spec PyProof.Rows
/-! ### zip of two sequences, each a list or a tuple -/
def SqIt (h : Heap) (i l : Addr) (k : Nat) (xs : Array Value) : Prop := (h.IsListIter i l k ∧ h.IsList l xs) ∨ (h.IsTupleIter i l k ∧ h.IsTuple l xs)
section
variable {prog : Program} {w : World} {A : Around} {E : Value → Shared → Prop} {s : Shared}
end
def itO (b : Bool) (l : Addr) : Obj := { cls := .type (if b = true then "list_iterator" else "tuple_iterator"), data := .fields #[.ref l, .int 0 0] }
def SqO (b : Bool) (h : Heap) (l : Addr) (xs : Array Value) : Prop := if b = true then h.IsList l xs else h.IsTuple l xs
abbrev zqH (h : Heap) (b1 b2 : Bool) (l1 l2 : Addr) : Heap := ((((h.push (itO b1 l1)).push (itO b2 l2)).push { cls := .type "tuple", data := .seq #[.ref h.objs.size, .ref (h.push (itO b1 l1)).objs.size] }).push { cls := .type "tuple", data := .seq #[.none, .none] }).push
  { cls := .type "zip", data := .fields #[.none, .bool false, .bool false, .ref ((h.push (itO b1 l1)).push (itO b2 l2)).objs.size, .ref (((h.push (itO b1 l1)).push (itO b2 l2)).push { cls := .type "tuple", data := .seq #[.ref h.objs.size, .ref (h.push (itO b1 l1)).objs.size] }).objs.size] }
abbrev zqA (h : Heap) (b1 b2 : Bool) (l1 l2 : Addr) : Addr := ((((h.push (itO b1 l1)).push (itO b2 l2)).push { cls := .type "tuple", data := .seq #[.ref h.objs.size, .ref (h.push (itO b1 l1)).objs.size] }).push { cls := .type "tuple", data := .seq #[.none, .none] }).objs.size
end L2

namespace L2
open PySem PySem.Spec PyProof.Rows
section
variable {prog : Program} {w : World} {A : Around} {E : Value → Shared → Prop} {s : Shared}
end
def SqB (K : PySem.W.Frag) (b : Bool) (H : Hp) (a : Addr) (xs : List V) : Prop := if b = true then SqL K H a xs else SqT K H a xs
/-- over zip(a, b) -/
def Itz (K : PySem.W.Frag) (c d : Bool) (a b : Addr) : It :=
  ⟨fun i H => ∃ xs ys x y, SqB K c H a xs ∧ SqB K d H b ys ∧ xs[i]? = some x ∧ ys[i]? = some y, fun i H v H' => ∃ t, v = .ref t ∧ H t = none ∧ ∀ xs ys x y, SqB K c H a xs → SqB K d H b ys → xs[i]? = some x → ys[i]? = some y → H' = upd H t (.tup [x, y]),
    fun i H => ∃ xs ys, SqB K c H a xs ∧ SqB K d H b ys ∧ (xs.length ≤ i ∨ ys.length ≤ i)⟩
end L2

namespace L2
open PySem PySem.Spec PyProof.Rows
section
variable {X : Cx} {elts : List Expr} {k : Nat} {tpos : Pos}
def iZip (K : PySem.W.Frag) (tl : TA) : TI := fun σ H R => tl σ H fun vs H1 => ∃ a b c d, vs = [.ref a, .ref b] ∧ (∃ xs, SqB K c H1 a xs) ∧ (∃ ys, SqB K d H1 b ys) ∧ R (Itz K c d a b) H1
end
end L2

namespace L2
open PySem PySem.Spec PyProof.Rows
section
variable {X : Cx} {pins : List (Addr × Obj)} {σ : St} {x y2 : Str} {N : List Str} {ix : List Nat} {scope : Scope} {cl : List (Str × Addr)} {fp : List Addr} {H3 : Hp} {s3 : Shared}
end
section
variable {X : Cx} {x y2 : Str} {N : List Str} {ix : List Nat} {scope : Scope} {cl : List (Str × Addr)} {elt iter : Expr} {ifs : List Expr} {px py pt pos : Pos} {kt : Nat} {wi : TI} {tb : TBl}
def CompEx2 (K : PySem.W.Frag) (J : It) (D : Addr) (ix : List Nat) (tb : TBl) (σ : St) (H : Hp) (Q : VK) : Prop := ∃ W : Nat → Nat → Hp → Prop, (∃ m, W 0 m (upd H D (.lst []))) ∧ ∀ i m H2, W i m H2 →
  (J.stop i H2 ∧ Q (.ref D) H2) ∨ (J.go i H2 ∧ ∀ y H3, J.yld i H2 y H3 → ∃ t v1 v2, y = .ref t ∧ SqT K H3 t [v1, v2] ∧ tb (some v1 :: some v2 :: outs ix σ) H3 (fun H4 => ∃ m', m' < m ∧ W (i + 1) m' H4)
    fun z H4 => ∃ ys, H4 D = some (.lst ys) ∧ ys.length < sizeLine ∧ ∃ m', m' < m ∧ W (i + 1) m' (upd H4 D (.lst (ys ++ [z]))))
def tCompR2 (K : PySem.W.Frag) (wi : TI) (ix : List Nat) (tb : TBl) : TE := fun σ H Q => wi σ H fun J H1 => ∀ D, H1 D = none → CompEx2 K J D ix tb σ H1 Q
end
end L2

namespace L2
open PySem PyProof.Rows HT
section
variable {X : Cx}
theorem op_isB : OpR X (compareOp .Is) (fun x y H Q => ∃ b c, x = .bl b ∧ y = .bl c ∧ Q (.bl (b == c)) H) := by
  intro pins s σ H x y v u Q I rx ry h
  obtain ⟨b, c, rfl, rfl, q⟩ := h
  cases rx
  cases ry
  exact is_bool (fin_bl I q rfl)
/-- any(xs), xs a list of bools -/
def rAny (K : PySem.W.Frag) : List V → Hp → VK → Prop := fun xs H Q => ∃ (a : Addr) (bs : List Bool), xs = [.ref a] ∧ SqL K H a (bs.map V.bl) ∧ Q (.bl (bs.any id)) H
end
end L2

namespace L2
open PySem PySem.Spec PyProof.Rows
section
variable {X : Cx}
/-- t.startswith(u, place) -/
def startsAt (z u : Str) (i : Int) : Bool := decide (PySem.fromIndex z.length i + u.length ≤ z.length) && Builtin.Str.subAt z u (PySem.fromIndex z.length i)
def rStartsAt : V → List V → Hp → VK → Prop := fun x vs H Q => ∃ z u i, x = .str z ∧ vs = [.str u, .int i] ∧ Q (.bl (startsAt z u i)) H
/-- f-strings, part by part -/
abbrev TJ := St → Hp → Str → VK → Prop
def PJ (X : Cx) (es : List Expr) (t : TJ) : Prop :=
  ∀ (pins : List (Addr × Obj)) (s : Shared) (σ : St) (H : Hp) (out : Str) (Q : VK), Inv X pins σ H s → t σ H out Q → wpAny (model X.prog X.w) X.A (joinParts out (evalEach es X.env)) (EP X pins σ Q) X.xe s
theorem pj_nil : PJ X [] (fun _ H out Q => out.length ≤ sizeLine ∧ Q (.str out) H) := by
  intro pins s σ H out Q I h
  exact joinParts_nil ⟨.str out, H, I.tok _, ⟨_, rfl⟩, h.2⟩ h.1
theorem pj_cons {e : Expr} {es : List Expr} {te : TE} {t : TJ} (he : PE X e te) (ht : PJ X es t) : PJ X (e :: es) (fun σ H out Q => te σ H fun v H1 => ∃ y, v = .str y ∧ (out ++ y).length ≤ sizeLine ∧ t σ H1 (out ++ y) Q) := by
  intro pins s σ H out Q I h
  show wpAny _ _ (joinParts out (eval e X.env :: evalEach es X.env)) _ _ s
  refine joinParts_cons (thn (he pins s σ H _ I h) fun v s1 ⟨x, H1, I1, r1, y, ex, hz, q⟩ => ?_)
  subst ex
  obtain ⟨t', rfl⟩ := r1
  exact ⟨hz, ht pins s1 σ H1 _ Q I1 q⟩
theorem pe_fstr {e1 e2 : Expr} {es : List Expr} {t : TJ} {pos : Pos} (h : PJ X (e1 :: e2 :: es) t) : PE X (.JoinedStr (e1 :: e2 :: es) pos) (fun σ H Q => t σ H Str.empty Q) :=
  fun pins s σ H Q I k => JoinedStr_many (h pins s σ H Str.empty Q I k)
end
end L2

namespace L2
open PySem PySem.Spec PyProof.Rows
section
variable {X : Cx}
end
end L2

namespace L2
open PySem PySem.Spec PyProof.Rows
/-! ### list(zip(a, b)) -/
abbrev IsZipB (h : Heap) (z TI TO : Addr) (f0 : Value) (b : Bool) : Prop :=
  h.get? z = some { cls := .type "zip", dict := none, data := .fields #[f0, .bool b, .bool false, .ref TI, .ref TO], slots := #[] }
section
variable {prog : Program} {w : World} {A : Around} {E : Value → Shared → Prop} {s : Shared}
end
end L2

namespace L2
open PySem PySem.Spec PyProof.Rows
def ItK (c : Bool) (h : Heap) (i1 a : Addr) (k : Nat) : Prop := ∃ o, h.get? i1 = some o ∧ o.cls = .type (if c = true then "list_iterator" else "tuple_iterator") ∧ o.data = .fields #[.ref a, .int k 0]
/-- the zip object and its parts, before turn i -/
def ZSt (c d : Bool) (a b z TI TO i1 i2 : Addr) (cs : List Addr) (i : Nat) (h : Heap) : Prop :=
  ((i = 0 ∧ IsZip h z TI TO .none) ∨ ∃ (t : Addr) (f : Bool), cs[0]? = some t ∧ IsZipB h z TI TO (rawInt t) f) ∧ IsPair h TI (.ref i1) (.ref i2) ∧ (∃ p q, IsPair h TO p q) ∧ ItK c h i1 a i ∧ ItK d h i2 b i
def PairsAt (H : Hp) (cs : List Addr) (xs ys : List V) : Prop := ∀ (j : Nat) (t : Addr) (x y : V), cs[j]? = some t → xs[j]? = some x → ys[j]? = some y → H t = some (.tup [x, y])
section
variable {X : Cx} {pins : List (Addr × Obj)} {σ : St}
end
end L2

namespace L2
open PySem PySem.Spec PyProof.Rows
section
variable {X : Cx} {pins : List (Addr × Obj)} {σ : St}
/-- list(zip(a, b)), each a list or a tuple -/
def tListZip (K : PySem.W.Frag) (t : TA) : TE := fun σ H Q => t σ H fun vs H1 => ∃ a b c d xs ys, vs = [.ref a, .ref b] ∧ SqB K c H1 a xs ∧ SqB K d H1 b ys ∧ xs.length = ys.length ∧ xs.length ≤ sizeLine ∧
  ∀ S cs H2, H1 S = none → H2 S = some (.lst (cs.map V.ref)) → cs.length = xs.length → PairsAt H2 cs xs ys → (∀ t ∈ cs, H1 t = none ∧ t ≠ S) → Same H1 H2 → Q (.ref S) H2
/-- xs != [] -/
def rNeNil (K : PySem.W.Frag) : R2 := fun x y H Q => ∃ a b xs, x = .ref a ∧ y = .ref b ∧ SqL K H a xs ∧ SqL K H b [] ∧ Q (.bl (!xs.isEmpty)) H
theorem op_neNil (hu : X.A.units < cLine) : OpR X (compareOp .NotEq) (rNeNil X.K) := by
  intro pins s σ H x y v u Q I rx ry h
  obtain ⟨a, b, xs, rfl, rfl, ha, hb, q⟩ := h
  cases rx
  cases ry
  obtain ⟨its, r1, p1, _⟩ := I.list ha
  obtain ⟨its2, r2, p2, _⟩ := I.list hb
  have e2 : its2 = [] := r2.nil_iff.mpr rfl
  subst e2
  cases xs with
  | nil =>
    have e1 : its = [] := r1.nil_iff.mpr rfl
    subst e1
    exact (SeqAt.RcNeAt.lists (e := fun _ => true) p1.isList p2.isList rfl hu fun j h1 => absurd h1 (by simp)) X.prog X.w X.xe _ ⟨.bl false, H, I, rfl, q⟩
  | cons z r =>
    have l1 := r1.length
    exact (SeqAt.RcNeAt.lists_lengths p1.isList p2.isList (by simp at l1 ⊢; intro e; rw [e] at l1; simp at l1) hu) X.prog X.w X.xe _ ⟨.bl true, H, I, rfl, q⟩
end
end L2

namespace L2
open PySem PySem.Spec PyProof.Rows
section
variable {X : Cx}
end
end L2

namespace L2
open PySem
/-! ### an exception's class with an __init__ of its own, under a class of one's own -/
section
variable {M : Model} {A : Around} {E : Value → Shared → Prop} {h : Heap} {g : Array GenState} {d : Drawn} {t : Nat} {os : OsState}
variable {nm q : Str} {C N : Addr} {bs bm : List Value} {hdct : Bool} {sn : List Str} {sub : List Value} {ab : Bool} {col : Option Bool} {dd : Option Addr} {k0 k1 k2 k3 k5 : Option Value} {Bn newId inN : String} {bmN : List Value}
theorem check_newX (Fn : ExcBaseFacts Bn newId inN bmN) (hcont : (Value.ref C :: bm).contains (.type Bn) = true) {rest : List Value} {Q : Unit → Shared → Prop} (hC : h.get? C = some (excClassObj nm q C N bs bm hdct sn sub ab col dd k0 k1 k2 k3 k5 newId))
    (hq : Q () ⟨h, g, d, t, os⟩) : wpAny M A (checkBuiltinCall newId ⟨.ref C :: rest, []⟩) Q E ⟨h, g, d, t, os⟩ := by
  have hstar := Fn.noStar
  simp only [checkBuiltinCall, Fn.newKind, Fn.newSplit, Fn.newRow]
  repeat (first | refine wpAny_loadPart_at hC ?_ | (refine wpAny_isSubtype_exc hC ?_; rw [hcont]) | refine wpAny_staticBase_exc hC ?_ | refine wpAny_madeBy_exc hC ?_ | simp only [bne_self_eq_false, Bool.false_eq_true, if_false] | wp_step)
  exact hq
end
section
variable {prog : Program} {w : World} {A : Around} {R : Result → Shared → Prop} {h : Heap} {g : Array GenState} {d : Drawn} {t : Nat} {os : OsState}
variable {nm q : Str} {C N : Addr} {bs bm : List Value} {hdct : Bool} {sn : List Str} {sub : List Value} {ab : Bool} {col : Option Bool} {dd : Option Addr} {k0 k1 k2 k3 k5 : Option Value} {Bn newId inN : String} {bmN : List Value}
theorem exc_newX (Fn : ExcBaseFacts Bn newId inN bmN) (hcB : (Value.ref C :: bm).contains (.type Bn) = true) (hcA : (Value.ref C :: bm).contains (.type "AttributeError") = false) (hcN : (Value.ref C :: bm).contains (.type "NameError") = false) {rest : List Value} (hC : h.get? C = some (excClassObj nm q C N bs bm hdct sn sub ab col dd k0 k1 k2 k3 k5 newId))
    (hq : R (.ok (.ret (.ref (h.objs.size + 1)))) ⟨(h.push { cls := .type "tuple", data := .seq rest.toArray }).push
      { cls := .ref C, data := .fields #[.ref h.objs.size, .none, .none, .none, .bool false, .none] }, g, d, t, os⟩) (hrest : rest.length ≤ sizeLine := by size_fits) :
    codeAny (model prog w) A (.builtin newId ⟨.ref C :: rest, []⟩) R ⟨h, g, d, t, os⟩ := by
  have hends := Fn.ends
  refine codeAny_builtinAt Fn.entry ?_
  unfold Builtin.«BaseException.__new__»
  refine wpAt_bind ?_
  show wpAt _ _ _ (stack >>= _) _ _ _
  refine wpAt_bind (wpAt_stack fun p below => wpAt_of_wpAny ?_)
  wp_walk
  refine wpAt_of_wpAny ?_
  rw [Fn.owner]
  repeat (first | with_reducible refine wpAny_madeHere_exc Fn.canon hC ?_ | with_reducible refine wpAny_loadPart_at hC ?_ | (with_reducible refine wpAny_isSubtype_exc hC ?_; first | rw [hcB] | rw [hcA] | rw [hcN]) | wp_step)
  show R _ _
  rw [Heap.size_push]
  exact hq
end
section
variable {prog : Program} {w : World} {A : Around} {E : Value → Shared → Prop} {h : Heap} {g : Array GenState} {d : Drawn} {t : Nat} {os : OsState}
variable {nm q : Str} {C N : Addr} {bs bm : List Value} {hdct : Bool} {sn : List Str} {sub : List Value} {ab : Bool} {col : Option Bool} {dd : Option Addr} {k0 k1 k2 k3 k5 : Option Value} {Bn newId inN : String} {bmN : List Value}
abbrev excObj (C : Addr) (dx : Option Addr) (vs : Array Value) : Obj := { cls := .ref C, dict := dx, data := .fields vs }
abbrev excNew (C a : Addr) : Obj := excObj C none #[.ref a, .none, .none, .none, .bool false, .none]
theorem type_call_initX (Fn : ExcBaseFacts Bn newId inN bmN) (hcB : (Value.ref C :: bm).contains (.type Bn) = true) (hcA : (Value.ref C :: bm).contains (.type "AttributeError") = false) (hcN : (Value.ref C :: bm).contains (.type "NameError") = false) {rest : List Value} {fI : Addr} {oI : Obj} {Q : Fin → Shared → Prop}
    (hC : h.get? C = some (excClassObj nm q C N bs bm hdct sn sub ab col dd k0 k1 k2 k3 k5 newId)) (hi : PySem.W.Looks (model prog w) h (typeLookup (.ref C) "__init__") (some (.ref fI)))
    (hfI : h.get? fI = some oI) (hfc : oI.cls = .type "function")
    (hq : wpAny (model prog w) A (call (.ref fI) (.ref (h.objs.size + 1) :: rest)) (fun r s' => r = .none ∧ Q (.done (.ret (.ref (h.objs.size + 1)))) s') E ⟨(h.push { cls := .type "tuple", data := .seq rest.toArray }).push (excNew C h.objs.size), g, d, t, os⟩) (hrest : rest.length ≤ sizeLine := by size_fits) :
    wpAny (model prog w) A (Builtin.«type.__call__» ⟨.ref C :: rest, []⟩) Q E ⟨h, g, d, t, os⟩ := by
  repeat (first | with_reducible refine wpAny_loadPart_at hC ?_ | with_reducible refine wpAny_madeBy_exc hC ?_ | wp_step)
  refine codeAny_call_builtin_code (Code.quiet_builtin _ Fn.quiet) (check_newX Fn hcB hC ?_)
  refine exc_newX Fn hcB hcA hcN hC ?_ hrest
  show wpAny _ _ _ _ _ _
  have hC₁ := Heap.get?_push_of_some (excNew C h.objs.size) (Heap.get?_push_of_some { cls := .type "tuple", data := .seq rest.toArray } hC)
  have hfI₁ := Heap.get?_push_of_some (excNew C h.objs.size) (Heap.get?_push_of_some { cls := .type "tuple", data := .seq rest.toArray } hfI)
  have hget : ((h.push { cls := .type "tuple", data := .seq rest.toArray }).push (excNew C h.objs.size)).get? (h.objs.size + 1) = some (excNew C h.objs.size) := by heap_get
  have hcC : (Value.ref C :: bm).contains (.ref C) = true := by simp
  unfold isInstance
  repeat (first | with_reducible refine wpAny_loadPart_at hget ?_ | (with_reducible refine wpAny_isSubtype_exc hC₁ ?_; rw [hcC]) | wp_step)
  show wpAny _ _ (typeLookup (.ref C) _) _ _ _
  refine hi _ _ _ _ (fun b o e => Heap.get?_push_of_some _ (Heap.get?_push_of_some _ e)) ?_
  refine wpAny_holding (wpAny_bind ?_)
  unfold bindSpecial
  refine wpAny_bind (wpAny_typeOf (T := "function") ⟨_, hfI₁, hfc⟩ ?_)
  rw [if_pos (by decide)]
  refine wpAny_pure (wpAny_bind (wpAny_mono hq (fun r s' hr => ?_) fun _ _ x => x))
  obtain ⟨rfl, hQ⟩ := hr
  wp_walk
  exact hQ
theorem call_exc_initX (Fn : ExcBaseFacts Bn newId inN bmN) (hcB : (Value.ref C :: bm).contains (.type Bn) = true) (hcA : (Value.ref C :: bm).contains (.type "AttributeError") = false) (hcN : (Value.ref C :: bm).contains (.type "NameError") = false) {rest : List Value} {fI : Addr} {oI : Obj} {Q : Value → Shared → Prop}
    (hC : h.get? C = some (excClassObj nm q C N bs bm hdct sn sub ab col dd k0 k1 k2 k3 k5 newId)) (hi : PySem.W.Looks (model prog w) h (typeLookup (.ref C) "__init__") (some (.ref fI)))
    (hfI : h.get? fI = some oI) (hfc : oI.cls = .type "function")
    (hq : wpAny (model prog w) (A.under (.builtin "type.__call__" ⟨.ref C :: rest, []⟩)) (call (.ref fI) (.ref (h.objs.size + 1) :: rest)) (fun r s' => r = .none ∧ Q (.ref (h.objs.size + 1)) s') E ⟨(h.push { cls := .type "tuple", data := .seq rest.toArray }).push (excNew C h.objs.size), g, d, t, os⟩) (hrest : rest.length ≤ sizeLine := by size_fits) :
    wpAny (model prog w) A (call (.ref C) rest) Q E ⟨h, g, d, t, os⟩ := by
  have f1 := tc_lookup
  have f2 := tc_bind (.ref C)
  have hT : (⟨h, g, d, t, os⟩ : Shared).TypeIs (.ref C) "type" := ⟨_, hC, rfl⟩
  refine wpAny_call (codeAny_of_tree ?_)
  show wpAny _ _ (callAny (.ref C) _) _ _ _
  repeat (any_goals (first | assumption | with_reducible refine wpAny_loadPart_at hC ?_ | wp_step))
  refine ⟨rfl, ?_⟩
  refine codeAny_call_builtin_at (Code.quiet_builtin _ (by decide +kernel)) entry_typeCall (wpAny_check_type_call_sub hC (type_call_initX (hrest := hrest) Fn hcB hcA hcN hC hi hfI hfc ?_))
  exact hq
end
end L2

namespace L2
open PySem PySem.Spec PyProof.Rows
/-! ### exceptions as objects of the abstract heap -/
def ObP (e : Addr) (p : Obj → Prop) : HO := .ext fun h => ∃ o, h.get? e = some o ∧ p o
theorem ObP.ok {P : Program} {w : World} {H : Hp} {h : Heap} {e : Addr} {p : Obj → Prop} {o : Obj} (ho : h.get? e = some o) (hp : p o) : ObjOk P w H h e (ObP e p) :=
  ⟨⟨o, ho, hp⟩, ⟨o, ho⟩, fun _ _ ⟨o, ho, hp⟩ k => ⟨o, k o ho, hp⟩⟩
theorem ObP.get {P : Program} {w : World} {H : Hp} {h : Heap} {e : Addr} {p : Obj → Prop} (x : HOk P w H h) (he : H e = some (ObP e p)) : ∃ o, h.get? e = some o ∧ p o := (x e _ he).1
abbrev vs6 (a : Addr) : Array Value := #[.ref a, .none, .none, .none, .bool false, .none]
/-- made, no dict yet; with its dict, not raised; in any state -/
def ExcN (C e : Addr) : HO := ObP e fun o => ∃ a, o = excObj C none (vs6 a)
def ExcD (C e dx : Addr) : HO := ObP e fun o => ∃ a, o = excObj C (some dx) (vs6 a)
def ExcT (C e dx : Addr) : HO := ObP e fun o => ∃ vs, o = excObj C (some dx) vs ∧ vs.size = 6
structure MkX (K : PySem.W.Frag) (C f : Addr) : Prop where
  obj : ∃ (nm q : Str) (N : Addr) (bs bm : List Value) (hdct : Bool) (sn : List Str) (sub : List Value) (ab : Bool) (col : Option Bool) (dd : Option Addr) (k0 k1 k2 k3 k5 : Option Value), K.lookup C = some (excClassObj nm q C N bs bm hdct sn sub ab col dd k0 k1 k2 k3 k5 "ValueError.__new__") ∧
    (Value.ref C :: bm).contains (.type "ValueError") = true ∧ (Value.ref C :: bm).contains (.type "AttributeError") = false ∧ (Value.ref C :: bm).contains (.type "NameError") = false
  init : PySem.W.findIn K (.ref C) "__init__" = some (some (.ref f))
  fn : ∃ o, K.lookup f = some o ∧ o.cls = .type "function"
  kp : PySem.W.keepIn K (.ref C) = true
section
variable {X : Cx} {CX : CXT} {k : Nat} {f C : Addr} {fd : FuncData} {ps : List Str} {sp : Sp} {dvs : List V} {ds : List Value} {E : XK} {x m : Str} {p pos apos : Pos} {e o : Expr} {es : List Expr} {ta : TE} {t : TA}
theorem run_makeX {pins : List (Addr × Obj)} {σ : St} {H : Hp} {s : Shared} {Q : VK} {us : List Value} {vs : List V} (M : MkX X.K C f) (Fo : FnOk X.prog X.w X.K X.mg X.base CX k f fd ps sp) (hr : Room (k + 1) X.A) (hb : Binds X.K fd ps ds) (hd : Vals dvs ds)
    (hx : Passes CX X E) (I : Inv X pins σ H s) (r : Vals vs us) (hz : vs.length ≤ sizeLine)
    (h : ∀ e, H e = none → sp (.ref e :: (vs ++ dvs)) (upd H e (ExcN C e)) (fun v H2 => v = .non ∧ Q (.ref e) H2) E) :
    wpAny (model X.prog X.w) X.A (call (.ref C) us) (EP X pins σ Q) X.xe s := by
  have hf : H (s.heap.objs.size + 1) = none := I.hok.fresh (Nat.le_succ _)
  have hq := h (s.heap.objs.size + 1) hf
  obtain ⟨nm, q, N, bs, bm, hdct, sn, sub, ab, col, dd, k0, k1, k2, k3, k5, lk, c1, c2, c3⟩ := M.obj
  obtain ⟨oI, lf, hfc⟩ := M.fn
  obtain ⟨hh, g, d, tk, os⟩ := s
  have I1 : Inv X pins σ H { heap := hh.push { cls := .type "tuple", data := .seq us.toArray }, gens := g, drawn := d, toks := tk, os := os } := I.kept (t' := tk) fun b o e => Heap.get?_push_of_some _ e
  have sz1 : (hh.push { cls := .type "tuple", data := .seq us.toArray }).objs.size = hh.objs.size + 1 := Heap.size_push ..
  have I2 : Inv X pins σ (upd H (hh.objs.size + 1) (ExcN C (hh.objs.size + 1))) { heap := (hh.push { cls := .type "tuple", data := .seq us.toArray }).push (excNew C hh.objs.size), gens := g, drawn := d, toks := tk, os := os } :=
    I1.laid (t' := tk) (fun b o e => Heap.get?_push_of_some _ e) (Nat.le_of_eq sz1) (ObP.ok (o := excNew C hh.objs.size) (by rw [← sz1]; exact Heap.get?_push_size _ rfl) ⟨_, rfl⟩)
  have r2 : Vals (V.ref (hh.objs.size + 1) :: (vs ++ dvs)) (Value.ref (hh.objs.size + 1) :: (us ++ ds)) := .cons rfl (r.append hd)
  have hl : (Value.ref (hh.objs.size + 1) :: us ++ ds).length = ps.length := by
    have e := r2.length
    rw [Fo.len _ _ _ _ hq] at e
    exact e.symm
  refine call_exc_initX PySem.F.excBase_ValueError c1 c2 c3 (I.kIn _ _ lk) (PySem.W.looks_findIn I.kIn M.init) (I.kIn _ _ lf) hfc ?_ (by rw [← r.length]; exact hz)
  refine wpAny_call (codeAny_mono (Fo.run _ X.stack _ _ ⟨Value.ref (hh.objs.size + 1) :: us, []⟩ (Value.ref (hh.objs.size + 1) :: (us ++ ds)) _ _ E (hr.make C us []) (I2.env0.make C us []) (hb _ (Value.ref (hh.objs.size + 1) :: us) I2.kIn hl) r2 hq) fun r s' hq' => ?_)
  cases r with
  | error e => exact hx pins σ _ _ e s' I2 hq'
  | ok fl =>
    cases fl with
    | ret u =>
      obtain ⟨v, H', I3, rv, ev, q3⟩ := I2.after hq'
      subst ev
      exact ⟨rv, ⟨V.ref (hh.objs.size + 1), H', I3, rfl, q3⟩⟩
    | next => exact False.elim hq'
    | brk => exact False.elim hq'
    | cont => exact False.elim hq'
def tMakeX (C : Addr) (sp : Sp) (dvs : List V) (E : XK) (t : TA) : TE := fun σ H Q => t σ H fun vs H1 => vs.length ≤ sizeLine ∧ ∀ e, H1 e = none →
  sp (.ref e :: (vs ++ dvs)) (upd H1 e (ExcN C e)) (fun v H2 => v = .non ∧ Q (.ref e) H2) E
theorem pe_makeX (M : MkX X.K C f) (F : FnOk X.prog X.w X.K X.mg X.base CX k f fd ps sp) (hr : Room (k + 1) X.A) (hg : Gl X x) (hm : X.mg x = some (.ref C)) (hb : Binds X.K fd ps ds) (hd : Vals dvs ds) (hx : Passes CX X E)
    (ha : PA X (e :: es) t) (hdb : (x == ("__debug__" : Str)) = false := by decide) (he : starEach (e :: es) X.env = (false, eval e X.env) :: starEach es X.env := by rfl) (hpl : (backTo pos (starEach es X.env)).any (·.1) = false := by rfl) :
    PE X (.Call (.Name x p) (e :: es) [] pos) (tMakeX C sp dvs E t) := by
  intro pins s σ H Q I h
  refine wpAny_Call_Name_kw (ld_glob I hg hm ?_ hdb)
  refine PySem.W.callWith_K (h₀ := X.base) I.ok.mod.kin M.kp (thn (ha pos pins s σ H _ I h) fun us s1 ⟨vs, H1, I1, r, z, q⟩ => ⟨I1.kIn, ?_⟩) he hpl
  exact run_makeX M F hr hb hd hx I1 r z q
end
end L2

namespace L2
open PySem PySem.Spec PyProof.Rows
/-- what a class of one's own must have for C.name(..) -/
structure ClsFn (K : PySem.W.Frag) (C f : Addr) (name : Str) : Prop where
  ga : PySem.W.specialIn K (.ref C) "__getattribute__" = some (some (.builtin "type.__getattribute__"))
  rd : PySem.W.readsIn K C (.type "type") = true
  fc : (match PySem.W.findCls K (.ref C) (.type "type") name with | some (.val v) => some v | _ => none) = some (.ref f)
  kp : PySem.W.keepIn K (.ref f) = true
theorem ClsFn.find {K : PySem.W.Frag} {C f : Addr} {name : Str} (c : ClsFn K C f name) : PySem.W.findCls K (.ref C) (.type "type") name = some (.val (.ref f)) := by
  have h := c.fc
  split at h
  · rename_i v e
    cases h
    exact e
  · cases h
section
variable {X : Cx} {CX : CXT} {k : Nat} {f C : Addr} {fd : FuncData} {ps : List Str} {sp : Sp} {dvs : List V} {ds : List Value} {E : XK} {x m : Str} {p pos apos : Pos} {e o : Expr} {es : List Expr} {ta : TE} {t : TA}
/-- C.m(e, ..), C a class of one's own -/
theorem pe_clscall {pl : Sem Bool} (hg : Gl X x) (hm : X.mg x = some (.ref C)) (c : ClsFn X.K C f m) (Fo : FnOk X.prog X.w X.K X.mg X.base CX k f fd ps sp) (hr : Room k X.A) (hb : Binds X.K fd ps ds) (hd : Vals dvs ds) (hx : Passes CX X E) (ha : PA X (e :: es) t) (hdb : (x == ("__debug__" : Str)) = false := by decide)
    (hst : starEach (e :: es) X.env = (false, eval e X.env) :: starEach es X.env := by rfl) (hpl : (backTo pos (starEach es X.env)).any (·.1) = false := by rfl)
    (ht : eval (.Call (.Attribute (.Name x p) m apos) (e :: es) [] pos) X.env = (do
      let ov ← eval (.Name x p) X.env
      standAt apos.atName
      let (f, first) ← holding [ov] (getMethod ov m pl)
      callWith pos f first (backTo pos (starEach (e :: es) X.env)) (backToKw pos (keywordEach [] X.env))) := by rfl) :
    PE X (.Call (.Attribute (.Name x p) m apos) (e :: es) [] pos) (tCall sp dvs E t) := by
  intro pins s σ H Q I h
  refine PySem.W.methodCall_KW (pl := pl) ?_ ht
  refine thn (pe_glob (v := .ref C) hg hm rfl hdb pins s σ H (fun v H' => v = .ref C ∧ H' = H) I ⟨rfl, rfl⟩) fun u s1 ⟨v, H1, I1, r1, ev, eH⟩ => ?_
  subst ev eH
  cases r1
  refine PySem.W.method_cls I1.kIn c.ga (PySem.W.cls_value I1.kIn c.rd c.find rfl ?_)
  have I2 := I1.tok (s1.toks + 1)
  refine PySem.W.callWith_K (first := []) (h₀ := X.base) I2.ok.mod.kin c.kp (thn (ha pos pins _ σ H1 _ I2 h) fun us s2 ⟨vs, H2, I3, r, q⟩ => ⟨I3.kIn, ?_⟩) hst hpl
  exact run_fn Fo hr hb hd hx I3 r q
end
section
variable {prog : Program} {w : World} {A : Around} {E : Value → Shared → Prop} {h : Heap} {g : Array GenState} {d : Drawn} {t : Nat} {os : OsState}
variable {nm q : Str} {C N : Addr} {bs bm : List Value} {hdct : Bool} {sn : List Str} {sub : List Value} {ab : Bool} {col : Option Bool} {dd : Option Addr} {k0 k1 k2 k3 k5 : Option Value} {B newId nid initId inN : String} {bmN bmB : List Value}
theorem check_initX (Fb : ExcBaseFacts B nid initId bmB) (hcB : (Value.ref C :: bm).contains (.type B) = true) {M : Model} {e : Addr} {oe : Obj} {rest : List Value} {Q : Unit → Shared → Prop}
    (hC : h.get? C = some (excClassObj nm q C N bs bm hdct sn sub ab col dd k0 k1 k2 k3 k5 newId)) (he : h.get? e = some oe) (hcls : oe.cls = .ref C) (hq : Q () ⟨h, g, d, t, os⟩) :
    wpAny M A (checkBuiltinCall initId ⟨.ref e :: rest, []⟩) Q E ⟨h, g, d, t, os⟩ := by
  have hshort := Fb.noStar
  simp only [checkBuiltinCall, Fb.initKind, Fb.initSplit, Fb.initRow]
  repeat (first | (with_reducible refine wpAny_loadPart_at he ?_; rw [hcls]) | with_reducible refine wpAny_loadPart_at hC ?_ | (with_reducible refine wpAny_isSubtype_exc hC ?_; rw [hcB]) | wp_step)
  refine wpAny_onRaise ?_
  rw [show ∀ (a b : String) (n : Nat), Bind.check ⟨.positional, "*", B, .self, [⟨"args", .varPos, false⟩]⟩ a b n (List.map (fun x => x.fst) ({ pos := Value.ref e :: rest } : Args).kw) = pure () from
    fun a b n => check_star_args _ _ _ _ _ _]
  exact wpAny_pure hq
theorem exc_initX (Fb : ExcBaseFacts B nid initId bmB) (hcB : (Value.ref C :: bm).contains (.type B) = true) {e a : Addr} {dx : Option Addr} {rest : List Value} {Q : Value → Shared → Prop}
    (hC : h.get? C = some (excClassObj nm q C N bs bm hdct sn sub ab col dd k0 k1 k2 k3 k5 newId)) (he : h.get? e = some (excObj C dx (vs6 a))) (hrest : rest.length ≤ sizeLine)
    (hq : Q .none ⟨(h.push { cls := .type "tuple", data := .seq rest.toArray }).update e (Obj.mapFields (·.setIfInBounds 0 (.ref h.objs.size))), g, d, t, os⟩) :
    wpAny (model prog w) A (call (.builtin initId) (.ref e :: rest)) Q E ⟨h, g, d, t, os⟩ := by
  refine wpAny_call (codeAny_call_builtin Fb.init.plain Fb.initEntry (check_initX Fb hcB hC he rfl ?_))
  wp_walk
  exact hq
end
end L2

namespace L2
open PySem PySem.Spec PyProof.Rows
theorem val_find {K : PySem.W.Frag} : PySem.W.findCls K (.type "ValueError") (.type "type") "__init__" = some (.val (.builtin "ValueError.__init__")) := by
  with_unfolding_all rfl
theorem val_type : typeOf (.type "ValueError") = pure (.type "type") := by
  kernel_rfl
theorem upd_id {H : Hp} {e : Addr} {o : HO} (h : H e = some o) : upd H e o = H := by
  funext b
  unfold upd
  split
  · rename_i z
    rw [z, h]
  · rfl
section
variable {prog : Program} {w : World} {A : Around} {E : Value → Shared → Prop} {s : Shared} {K : PySem.W.Frag} {name : Str}
theorem method_typeX {T : String} {v : Value} {pl : Sem Bool} {Q : Value × List Value → Shared → Prop} (X : K.In s.heap) (ht : typeOf (.type T) = pure (.type "type")) (hs : Manifest.isStub T = false)
    (e : PySem.W.findCls K (.type T) (.type "type") name = some (.val v)) (hh : PySem.W.handedIn v = true) (h : Q (v, []) { s with toks := s.toks + 1 }) : wpAny (model prog w) A (getMethod (.type T) name pl) Q E s := by
  have hstub : opaqueClassAbove (.type T) = pure none := by unfold opaqueClassAbove; dsimp only; rw [hs]; rfl
  have L0 : PySem.W.Looks (model prog w) s.heap (typeOf (.type T)) (.type "type") := PySem.W.Looks.of_pure ht
  have hg : PySem.W.findIn K (.type "type") "__getattribute__" = some (some (.builtin "type.__getattribute__")) := PySem.W.type_tga
  unfold getMethod specialOf
  refine wpAny_bind (wpAny_bind (L0.here ((PySem.W.looks_findIn X hg).here ?_)))
  dsimp only
  rw [if_pos PySem.W.canon_tga]
  refine wpAny_bind (wpAny_mono (Q := fun v => Q (v, [])) (E := E) ?_ (fun _ _ z => wpAny_pure z) fun _ _ z => z)
  have LO : PySem.W.Looks (model prog w) s.heap (opaqueClassAbove (.type T)) none := PySem.W.Looks.of_pure hstub
  refine PySem.W.cls_open X LO L0 hg (PySem.W.looks_hook X (r := none) (by rfl)) (by show PySem.W.subIn K _ _ = _; rfl) e
    (wpAny_pure (by show wpAny _ _ (PySem.handedOut v) _ _ _; rw [PySem.W.handedOut_of hh]; exact wpAny_pure h))
end
section
variable {X : Cx} {p pos apos : Pos} {e1 e2 : Expr} {t : TA}
theorem boot_val : bootBuiltins ("ValueError" : Str) = some (.type "ValueError") := by decide +kernel
/-- ValueError.__init__(self, words), self just made -/
theorem pe_valinit {pl : Sem Bool} (hg : Gl X "ValueError") (hm : X.mg "ValueError" = none) (ha : PA X [e1, e2] t)
    (hst : starEach [e1, e2] X.env = (false, eval e1 X.env) :: starEach [e2] X.env := by rfl) (hpl : (backTo pos (starEach [e2] X.env)).any (·.1) = false := by rfl)
    (ht : eval (.Call (.Attribute (.Name "ValueError" p) "__init__" apos) [e1, e2] [] pos) X.env = (do
      let ov ← eval (.Name "ValueError" p) X.env
      standAt apos.atName
      let (f, first) ← holding [ov] (getMethod ov "__init__" pl)
      callWith pos f first (backTo pos (starEach [e1, e2] X.env)) (backToKw pos (keywordEach [] X.env))) := by rfl) :
    PE X (.Call (.Attribute (.Name "ValueError" p) "__init__" apos) [e1, e2] [] pos) (fun σ H Q => t σ H fun vs H1 => ∃ e C f x, vs = [.ref e, x] ∧ H1 e = some (ExcN C e) ∧ MkX X.K C f ∧ Q .non H1) := by
  intro pins s σ H Q I h
  refine PySem.W.methodCall_KW (pl := pl) ?_ ht
  have hP : PE X (.Name "ValueError" p) (tC (V.ty "ValueError")) := pe_bltn hg hm boot_val rfl
  refine thn (hP pins s σ H (fun v H' => v = .ty "ValueError" ∧ H' = H) I ⟨rfl, rfl⟩) fun u s1 ⟨v, H1, I1, r1, ev, eH⟩ => ?_
  subst ev eH
  cases r1
  refine method_typeX I1.kIn val_type (by decide +kernel) val_find rfl ?_
  have I2 := I1.tok (s1.toks + 1)
  have hA := ha pos pins _ σ H1 _ I2 h
  rw [hst] at hA ⊢
  refine Calls.callWith_builtin (by show (false || (backTo pos (starEach [e2] X.env)).any (·.1)) = false; rw [hpl] <;> rfl) (Calls.evalArgs_plain ?_)
  refine thn hA fun us s2 ⟨vs, H2, I3, r2, e, C, f, x, ev, he, M, q⟩ => ?_
  subst ev
  cases r2 with
  | cons r rr =>
    cases rr with
    | @cons _ u2 _ _ r' rr =>
      cases rr
      cases r
      obtain ⟨nm, qn, N, bs, bm, hdct, sn, sub, ab, col, dd, k0, k1, k2, k3, k5, lk, c1, c2, c3⟩ := M.obj
      obtain ⟨o, ho, a, rfl⟩ := ObP.get I3.hok he
      obtain ⟨hh, g, d, tk, os⟩ := s2
      show wpAny _ _ (call (.builtin "ValueError.__init__") (.ref e :: [u2])) _ _ _
      refine exc_initX PySem.F.excBase_ValueError c1 (I3.kIn _ _ lk) ho (by show 1 ≤ sizeLine; decide) ?_
      have I4 : Inv X pins σ H2 { heap := hh.push { cls := .type "tuple", data := .seq [u2].toArray }, gens := g, drawn := d, toks := tk, os := os } := I3.kept (t' := tk) fun b o e => Heap.get?_push_of_some _ e
      have ho4 := Heap.get?_push_of_some { cls := .type "tuple", data := .seq [u2].toArray } ho
      have hu := Heap.get?_update_self (Obj.mapFields (·.setIfInBounds 0 (Value.ref hh.objs.size))) ho4 rfl
      have I5 : Inv X pins σ (upd H2 e (ExcN C e)) { heap := (hh.push { cls := .type "tuple", data := .seq [u2].toArray }).update e (Obj.mapFields (·.setIfInBounds 0 (Value.ref hh.objs.size))), gens := g, drawn := d, toks := tk, os := os } :=
        I4.write (x := e) (e := e) (t' := tk) (by rw [he]; exact trivial) (.inl rfl) (fun b u hb hu => (Heap.get?_update_other _ _ (Ne.symm hb)).trans hu) ⟨_, hu⟩ (ObP.ok hu ⟨hh.objs.size, rfl⟩)
      rw [upd_id he] at I5
      exact ⟨.non, H2, I5, rfl, q⟩
end
end L2

namespace L2
open PySem Builtin Builtin.ObjectAttr
section
variable {prog : Program} {w : World} {A : Around} {E : Value → Shared → Prop} {h : Heap} {g : Array GenState} {d : Drawn} {t : Nat} {os : OsState}
variable {nm q : Str} {C N x : Addr} {bs bm : List Value} {sn : List Str} {sub : List Value} {ab : Bool} {col : Option Bool} {dd : Option Addr} {k0 k1 k2 k3 k5 : Option Value} {newId : String} {name : Str} {v : Value} {vs : Array Value}
theorem check_saX {M : Model} {B sa owner : String} {bmB : List Value} {o : Obj} {nameV : Value} {Q : Unit → Shared → Prop} (SF : StoreFacts B bmB sa owner) (hcB : (Value.ref C :: bm).contains (.type owner) = true)
    (hC : h.get? C = some (excClassObj nm q C N bs bm true sn sub ab col dd k0 k1 k2 k3 k5 newId)) (hx : h.get? x = some o) (hc : o.cls = .ref C) (hq : Q () ⟨h, g, d, t, os⟩) :
    wpAny M A (checkBuiltinCall sa ⟨[.ref x, nameV, v], []⟩) Q E ⟨h, g, d, t, os⟩ := by
  have ha := SF.args (.ref x) nameV v
  simp only [checkBuiltinCall, SF.kind, SF.split]
  refine wpAny_bind ?_
  · unfold isInstance
    repeat (first | (with_reducible refine wpAny_loadPart_at hx ?_; rw [hc]) | (with_reducible refine wpAny_isSubtype_exc hC ?_; rw [hcB]) | wp_step)
    cases hsig : Manifest.signature? sa with
    | none => exact wpAny_pure hq
    | some sig =>
      simp only [argsOk, hsig] at ha
      have h2 : Bind.checkArgs sa sig ⟨[.ref x, nameV, v], []⟩ = pure () := ha
      show wpAny M A (Bind.checkArgs sa sig ⟨[.ref x, nameV, v], []⟩) Q E _
      rw [h2]; exact wpAny_pure hq
/-- the first name stored in an exception: its dict is made -/
theorem store_entryX {tk : Tok} {Q : Fin → Shared → Prop} (hpass : refuseLoop (.ref x) "__setattr__" (.ref C :: bm) = pure ())
    (hC : h.get? C = some (excClassObj nm q C N bs bm true sn sub ab col dd k0 k1 k2 k3 k5 newId)) (hL : PySem.W.Looks (model prog w) h (typeLookup (.ref C) name) none) {o : Obj} (hx : h.get? x = some o) (hc : o.cls = .ref C) (hdn : o.dict = none) (hnc : ∀ c, o.data ≠ .cls c)
    (hq : ∀ h' tk', h'.get? x = some { cls := o.cls, dict := some h.objs.size, data := o.data, slots := o.slots } → h'.Ns1 h.objs.size (fun y => if y = name then some v else none) → (∀ b o, b ≠ x → h.get? b = some o → h'.get? b = some o) → Q (.done (.ret .none)) ⟨h', g, d, tk', os⟩) :
    wpAny (model prog w) A (Builtin.«object.__setattr__» ⟨[.ref x, .str name tk, v], []⟩) Q E ⟨h, g, d, t, os⟩ := by
  have hL' : ∀ {A' : Around} {E' : Value → Shared → Prop} {Q' : Option Value → Shared → Prop} {t' : Nat}, Q' none ⟨h, g, d, t', os⟩ → wpAny (model prog w) A' (typeLookup (.ref C) name) Q' E' ⟨h, g, d, t', os⟩ := fun q' => hL _ _ _ _ (fun _ _ e => e) q'
  unfold Builtin.«object.__setattr__»
  repeat (first | rw [refuse_eq] | (rw [hpass]) | (with_reducible refine wpAny_loadPart_at hx ?_; rw [hc]) | with_reducible refine wpAny_mroOf_exc hC ?_ | (with_reducible refine hL' ?_) | wp_step)
  rw [hdn, if_neg (by simp [typeHasDict])]
  split
  · rename_i hcd
    cases hcd
  split
  · rename_i c hcd
    exact absurd hcd (hnc c)
  · have hx₁ : (h.push { cls := .type "dict", data := .dict #[] }).get? x = some o := Heap.get?_push_of_some _ hx
    have hxs : x ≠ h.objs.size := Nat.ne_of_lt (Heap.lt_size hx)
    refine wpAny_bind (wpAny_alloc' ?_)
    refine wpAny_bind (wpAny_update' hx₁ ?_)
    refine wpAny_pure ?_
    have hgd : ((h.push { cls := .type "dict", data := .dict #[] }).update x fun o => { cls := o.cls, dict := some h.objs.size, data := o.data, slots := o.slots }).get? h.objs.size
        = some { cls := .type "dict", data := .dict #[] } :=
      (Heap.get?_update_ne _ _ _ _ hxs.symm).trans (Heap.get?_push_at rfl rfl)
    have hnd : ((h.push { cls := .type "dict", data := .dict #[] }).update x fun o => { cls := o.cls, dict := some h.objs.size, data := o.data, slots := o.slots }).Ns h.objs.size (fun _ => none) :=
      ⟨_, #[], _, hgd, rfl, fun e he => absurd he (by simp), fun _ => rfl⟩
    show wpAny _ _ (storeInDict h.objs.size (.str name tk) name v) _ _ _
    unfold storeInDict newKeyGuard
    refine wpAny_bind (wpAny_pure (wpAny_bind (wpAny_nsSet1 (Heap.Ns1.of_empty hnd) fun h' hn' hs => ?_)))
    obtain ⟨oD, esD, epD, hoD, hdD, hcD⟩ := hn'.count (Within.cons name v Within.nil)
    refine wpAny_bind (wpAny_lookBehind hoD (by rw [hdD]; exact pastItsLine_dict (Nat.le_trans hcD (by rw [List.length_cons, List.length_nil, sizeLine_eq]; omega))) ?_)
    wp_walk
    refine hq h' _ ?_ hn' fun b ob hbx hb => ?_
    · refine (hs.2 x hxs).trans (Heap.get?_update_self _ hx₁ ?_)
      have hfr := (Heap.get?_some_iff.mp hx).2
      obtain ⟨oc, od, odt, osl⟩ := o
      cases odt <;> first | rfl | exact hfr
    · exact (hs.2 b (Nat.ne_of_lt (Heap.lt_size hb))).trans ((Heap.get?_update_ne _ _ _ _ hbx).trans (Heap.get?_push_of_some _ hb))
theorem store_attrX {B sa owner : String} {bmB : List Value} {Q : Unit → Shared → Prop} (SF : StoreFacts B bmB sa owner) (hcO : (Value.ref C :: bm).contains (.type owner) = true) (hpass : refuseLoop (.ref x) "__setattr__" (.ref C :: bm) = pure ())
    (hC : h.get? C = some (excClassObj nm q C N bs bm true sn sub ab col dd k0 k1 k2 k3 k5 newId)) (hS : PySem.W.Looks (model prog w) h (typeLookup (.ref C) "__setattr__") (some (.builtin sa)))
    (hL : PySem.W.Looks (model prog w) h (typeLookup (.ref C) name) none) {o : Obj} (hx : h.get? x = some o) (hc : o.cls = .ref C) (hdn : o.dict = none) (hnc : ∀ c, o.data ≠ .cls c)
    (hq : ∀ h' tk', h'.get? x = some { cls := o.cls, dict := some h.objs.size, data := o.data, slots := o.slots } → h'.Ns1 h.objs.size (fun y => if y = name then some v else none) → (∀ b o, b ≠ x → h.get? b = some o → h'.get? b = some o) → Q () ⟨h', g, d, tk', os⟩) :
    wpAny (model prog w) A (setAttr (.ref x) name v) Q E ⟨h, g, d, t, os⟩ := by
  have f3 := SF.slot.bind (.ref x)
  have hS' : ∀ {A' : Around} {E' : Value → Shared → Prop} {Q' : Option Value → Shared → Prop} {t' : Nat}, Q' (some (.builtin sa)) ⟨h, g, d, t', os⟩ → wpAny (model prog w) A' (typeLookup (.ref C) "__setattr__") Q' E' ⟨h, g, d, t', os⟩ := fun q' => hS _ _ _ _ (fun _ _ e => e) q'
  unfold setAttr callSpecial? specialOf
  repeat (any_goals (first | assumption | (with_reducible refine wpAny_loadPart_at hx ?_; rw [hc]) | (with_reducible refine hS' ?_) | wp_step))
  refine codeAny_call_builtin SF.slot.plain SF.entry (check_saX SF hcO hC hx hc (store_entryX hpass hC hL hx hc hdn hnc fun h' tk' i1 i2 i3 => ?_))
  repeat (any_goals (first | assumption | wp_step))
  exact hq h' tk' i1 i2 i3
end
end L2

namespace L2
open PySem Builtin Builtin.ObjectAttr
section
variable {prog : Program} {w : World} {A : Around} {E : Value → Shared → Prop} {h : Heap} {g : Array GenState} {d : Drawn} {t : Nat} {os : OsState} {a dx : Addr} {o : Obj} {v : Value}
  {nm q : Str} {C N : Addr} {bs bm : List Value} {sn : List Str} {sub : List Value} {ab : Bool} {col : Option Bool} {dd : Option Addr} {k0 k1 k2 k3 k5 : Option Value} {newId : String} {mA : Str → Option Value} {name : Str}
theorem check_gaX {M : Model} {nameV : Value} {Q : Unit → Shared → Prop} (hC : h.get? C = some (excClassObj nm q C N bs bm true sn sub ab col dd k0 k1 k2 k3 k5 newId)) (hcB : (Value.ref C :: bm).contains (.type "BaseException") = true)
    (hx : h.get? a = some o) (hc : o.cls = .ref C) (hq : Q () ⟨h, g, d, t, os⟩) : wpAny M A (checkBuiltinCall "BaseException.__getattribute__" ⟨[.ref a, nameV], []⟩) Q E ⟨h, g, d, t, os⟩ := by
  have hk : builtinKind "BaseException.__getattribute__" = some .slot := by decide +kernel
  have hsplit : splitId "BaseException.__getattribute__" = some ("BaseException", "__getattribute__") := by decide +kernel
  have ha := F.args_bexc_ga (.ref a) nameV
  simp only [checkBuiltinCall, hk, hsplit]
  refine wpAny_bind ?_
  · unfold isInstance
    repeat (first | (with_reducible refine wpAny_loadPart_at hx ?_; rw [hc]) | (with_reducible refine wpAny_isSubtype_exc hC ?_; rw [hcB]) | wp_step)
    exact hq
theorem load_entryX {tk : Tok} {Q : Fin → Shared → Prop} (hC : h.get? C = some (excClassObj nm q C N bs bm true sn sub ab col dd k0 k1 k2 k3 k5 newId)) (hL : PySem.W.Looks (model prog w) h (typeLookup (.ref C) name) none)
    (hx : h.get? a = some o) (hc : o.cls = .ref C) (hdx : o.dict = some dx) (hnc : ∀ c, o.data ≠ .cls c) (hns : h.Ns dx mA) (hv : mA name = some v) (hq : Q (.done (.ret v)) ⟨h, g, d, t, os⟩) :
    wpAny (model prog w) A (Builtin.«object.__getattribute__» ⟨[.ref a, .str name tk], []⟩) Q E ⟨h, g, d, t, os⟩ := by
  have hL' : ∀ {A' : Around} {E' : Value → Shared → Prop} {Q' : Option Value → Shared → Prop} {t' : Nat}, Q' none ⟨h, g, d, t', os⟩ → wpAny (model prog w) A' (typeLookup (.ref C) name) Q' E' ⟨h, g, d, t', os⟩ := fun q' => hL _ _ _ _ (fun _ _ e => e) q'
  unfold Builtin.«object.__getattribute__»
  repeat (first | (with_reducible refine wpAny_loadPart_at hx ?_; rw [hc]) | (with_reducible refine hL' ?_) | wp_step)
  split
  · rename_i c hcd
    exact absurd hcd (hnc c)
  · repeat (first | (with_reducible refine wpAny_loadPart_at hx ?_; rw [hc]) | wp_step)
    rw [hdx]
    repeat (first | (with_reducible refine wpAny_nsGet hns ?_; rw [hv]) | wp_step)
    exact hq
end
end L2

namespace L2
open PySem Builtin Builtin.ObjectAttr
section
variable {prog : Program} {w : World} {A : Around} {E : Value → Shared → Prop} {h : Heap} {g : Array GenState} {d : Drawn} {t : Nat} {os : OsState} {a dx : Addr} {o : Obj} {v : Value}
  {nm q : Str} {C N : Addr} {bs bm : List Value} {sn : List Str} {sub : List Value} {ab : Bool} {col : Option Bool} {dd : Option Addr} {k0 k1 k2 k3 k5 : Option Value} {newId : String} {mA : Str → Option Value} {name : Str}
theorem load_byX {tk : Tok} {fill expr : Bool} {Q : Value → Shared → Prop} (hC : h.get? C = some (excClassObj nm q C N bs bm true sn sub ab col dd k0 k1 k2 k3 k5 newId)) (hcB : (Value.ref C :: bm).contains (.type "BaseException") = true)
    (hG : PySem.W.Looks (model prog w) h (typeLookup (.ref C) "__getattribute__") (some (.builtin "BaseException.__getattribute__"))) (hA : PySem.W.Looks (model prog w) h (typeLookup (.ref C) "__getattr__") none) (hL : PySem.W.Looks (model prog w) h (typeLookup (.ref C) name) none)
    (hx : h.get? a = some o) (hc : o.cls = .ref C) (hdx : o.dict = some dx) (hnc : ∀ c, o.data ≠ .cls c) (hns : h.Ns dx mA) (hv : mA name = some v) (hh : PySem.W.handedIn v = true) (hq : Q v ⟨h, g, d, t, os⟩) :
    wpAny (model prog w) A (getAttrBy (.ref a) (.str name tk) fill expr) Q E ⟨h, g, d, t, os⟩ := by
  have FB := F.attrBase_ValueError
  have f3 := FB.ga.bind (.ref a)
  have hx0 : (expr && onTheHeap (Value.builtin "BaseException.__getattribute__")) = false := by cases expr <;> rfl
  have hx2 : (Value.builtin "BaseException.__getattribute__" == Value.builtin "object.__getattribute__") = false := by decide +kernel
  have hx1 : (onTheHeap (Value.ref C) && Value.builtin "BaseException.__getattribute__" == Value.builtin "object.__getattribute__") = false := by rw [hx2]; rfl
  have hG' : ∀ {A' : Around} {E' : Value → Shared → Prop} {Q' : Option Value → Shared → Prop} {t' : Nat}, Q' (some (.builtin "BaseException.__getattribute__")) ⟨h, g, d, t', os⟩ → wpAny (model prog w) A' (typeLookup (.ref C) "__getattribute__") Q' E' ⟨h, g, d, t', os⟩ := fun q' => hG _ _ _ _ (fun _ _ e => e) q'
  have hA' : ∀ {A' : Around} {E' : Value → Shared → Prop} {Q' : Option Value → Shared → Prop} {t' : Nat}, Q' none ⟨h, g, d, t', os⟩ → wpAny (model prog w) A' (typeLookup (.ref C) "__getattr__") Q' E' ⟨h, g, d, t', os⟩ := fun q' => hA _ _ _ _ (fun _ _ e => e) q'
  repeat (any_goals (first | assumption | (with_reducible refine wpAny_loadPart_at hx ?_; rw [hc]) | with_reducible refine hG' ?_ | with_reducible refine hA' ?_ | wp_step))
  refine codeAny_call_builtin FB.ga.plain F.entry_bexc_ga (check_gaX hC hcB hx hc (load_entryX hC hL hx hc hdx hnc hns hv ?_))
  show wpAny _ _ (handedOut v) _ _ _
  rw [PySem.W.handedOut_of hh]
  exact wpAny_pure hq
end
end L2

namespace L2
open PySem Builtin Builtin.ObjectAttr
section
variable {prog : Program} {w : World} {A : Around} {E : Value → Shared → Prop} {h : Heap} {g : Array GenState} {d : Drawn} {t : Nat} {os : OsState} {a : Addr} {o : Obj}
  {nm q : Str} {C N : Addr} {bs bm : List Value} {sn : List Str} {sub : List Value} {ab : Bool} {col : Option Bool} {dd : Option Addr} {k0 k1 k2 k3 k5 : Option Value} {newId : String}
theorem class_getX {R : Result → Shared → Prop} (hC : h.get? C = some (excClassObj nm q C N bs bm true sn sub ab col dd k0 k1 k2 k3 k5 newId)) (hcO : (Value.ref C :: bm).contains (.type "object") = true)
    (hx : h.get? a = some o) (hc : o.cls = .ref C) (hq : R (.ok (.ret (.ref C))) ⟨h, g, d, t, os⟩) :
    codeAny (model prog w) A (.call (.builtin "getset_descriptor.__get__") ⟨[.builtin "object.__class__", .ref a, .ref C], []⟩) R ⟨h, g, d, t, os⟩ := by
  have hT5 : (⟨h, g, d, t, os⟩ : Shared).TypeIs (.builtin "object.__class__") "getset_descriptor" := F.typeOf_object_class
  have hcB : (Value.ref C :: bm).contains (.type (".".intercalate ("object.__class__".cutAt '.').dropLast)) = true := by rw [F.owner_object_class]; exact hcO
  refine codeAny_call_builtin F.slot_gs_get.plain F.entry_gs_get (F.slot_gs_get.check _ _ _ _ _ _ _ _ hT5 (F.args_gs_get _ _ _) ?_)
  repeat (any_goals (first | assumption | (with_reducible refine wpAny_loadPart_at hx ?_; rw [hc]) | (with_reducible refine wpAny_isSubtype_exc hC ?_; rw [hcB]) | wp_step))
  refine ⟨Code.quiet_builtin _ (by decide +kernel), codeAny_builtin F.entry_object_class ?_⟩
  repeat (any_goals (first | assumption | (with_reducible refine wpAny_loadPart_at hx ?_; rw [hc]) | wp_step))
theorem class_entryX {tk : Tok} {Q : Fin → Shared → Prop} (hC : h.get? C = some (excClassObj nm q C N bs bm true sn sub ab col dd k0 k1 k2 k3 k5 newId)) (hcO : (Value.ref C :: bm).contains (.type "object") = true)
    (hK : PySem.W.Looks (model prog w) h (typeLookup (.ref C) "__class__") (some (.builtin "object.__class__"))) (hx : h.get? a = some o) (hc : o.cls = .ref C) (hq : Q (.done (.ret (.ref C))) ⟨h, g, d, t, os⟩) :
    wpAny (model prog w) A (Builtin.«object.__getattribute__» ⟨[.ref a, .str "__class__" tk], []⟩) Q E ⟨h, g, d, t, os⟩ := by
  have hT5 : (⟨h, g, d, t, os⟩ : Shared).TypeIs (.builtin "object.__class__") "getset_descriptor" := F.typeOf_object_class
  have f5 := F.typeOf_object_class
  have f6 := F.slot_gs_get.lookup
  have f7 := F.slot_gs_set.lookup
  have hK' : ∀ {A' : Around} {E' : Value → Shared → Prop} {Q' : Option Value → Shared → Prop} {t' : Nat}, Q' (some (.builtin "object.__class__")) ⟨h, g, d, t', os⟩ → wpAny (model prog w) A' (typeLookup (.ref C) "__class__") Q' E' ⟨h, g, d, t', os⟩ := fun q' => hK _ _ _ _ (fun _ _ e => e) q'
  repeat (any_goals (first | assumption | (with_reducible refine wpAny_loadPart_at hx ?_; rw [hc]) | with_reducible refine hK' ?_ | wp_step))
  refine class_getX hC hcO hx hc ?_
  repeat (any_goals (first | assumption | wp_step))
theorem class_byX {tk : Tok} {Q : Value → Shared → Prop} (hC : h.get? C = some (excClassObj nm q C N bs bm true sn sub ab col dd k0 k1 k2 k3 k5 newId)) (hcB : (Value.ref C :: bm).contains (.type "BaseException") = true) (hcO : (Value.ref C :: bm).contains (.type "object") = true)
    (hG : PySem.W.Looks (model prog w) h (typeLookup (.ref C) "__getattribute__") (some (.builtin "BaseException.__getattribute__"))) (hA : PySem.W.Looks (model prog w) h (typeLookup (.ref C) "__getattr__") none)
    (hK : PySem.W.Looks (model prog w) h (typeLookup (.ref C) "__class__") (some (.builtin "object.__class__"))) (hx : h.get? a = some o) (hc : o.cls = .ref C) (hq : Q (.ref C) ⟨h, g, d, t, os⟩) :
    wpAny (model prog w) A (getAttrBy (.ref a) (.str "__class__" tk) false) Q E ⟨h, g, d, t, os⟩ := by
  have FB := F.attrBase_ValueError
  have f3 := FB.ga.bind (.ref a)
  have hx2 : (Value.builtin "BaseException.__getattribute__" == Value.builtin "object.__getattribute__") = false := by decide +kernel
  have hx1 : (onTheHeap (Value.ref C) && Value.builtin "BaseException.__getattribute__" == Value.builtin "object.__getattribute__") = false := by rw [hx2]; rfl
  have hG' : ∀ {A' : Around} {E' : Value → Shared → Prop} {Q' : Option Value → Shared → Prop} {t' : Nat}, Q' (some (.builtin "BaseException.__getattribute__")) ⟨h, g, d, t', os⟩ → wpAny (model prog w) A' (typeLookup (.ref C) "__getattribute__") Q' E' ⟨h, g, d, t', os⟩ := fun q' => hG _ _ _ _ (fun _ _ e => e) q'
  have hA' : ∀ {A' : Around} {E' : Value → Shared → Prop} {Q' : Option Value → Shared → Prop} {t' : Nat}, Q' none ⟨h, g, d, t', os⟩ → wpAny (model prog w) A' (typeLookup (.ref C) "__getattr__") Q' E' ⟨h, g, d, t', os⟩ := fun q' => hA _ _ _ _ (fun _ _ e => e) q'
  repeat (any_goals (first | assumption | (with_reducible refine wpAny_loadPart_at hx ?_; rw [hc]) | with_reducible refine hG' ?_ | with_reducible refine hA' ?_ | wp_step))
  refine codeAny_call_builtin FB.ga.plain F.entry_bexc_ga (check_gaX hC hcB hx hc (class_entryX hC hcO hK hx hc ?_))
  repeat (any_goals (first | assumption | wp_step))
theorem class_attrX {Q : Option Value → Shared → Prop} (hC : h.get? C = some (excClassObj nm q C N bs bm true sn sub ab col dd k0 k1 k2 k3 k5 newId)) (hcB : (Value.ref C :: bm).contains (.type "BaseException") = true) (hcO : (Value.ref C :: bm).contains (.type "object") = true)
    (hG : PySem.W.Looks (model prog w) h (typeLookup (.ref C) "__getattribute__") (some (.builtin "BaseException.__getattribute__"))) (hA : PySem.W.Looks (model prog w) h (typeLookup (.ref C) "__getattr__") none)
    (hK : PySem.W.Looks (model prog w) h (typeLookup (.ref C) "__class__") (some (.builtin "object.__class__"))) (hx : h.get? a = some o) (hc : o.cls = .ref C) (hq : Q (some (.ref C)) ⟨h, g, d, t + 1, os⟩) :
    wpAny (model prog w) A (getAttr? (.ref a) "__class__") Q E ⟨h, g, d, t, os⟩ := by
  unfold getAttr? getAttrBy?
  repeat (any_goals (first | assumption | with_reducible apply class_byX hC hcB hcO hG hA hK hx hc | wp_step))
end
end L2

namespace L2
open PySem PySem.Spec PyProof.Rows
abbrev bmV : List Value := [.type "ValueError", .type "Exception", .type "BaseException", .type "object"]
structure ClsX (K : PySem.W.Frag) (C CA : Addr) : Prop where
  obj : ∃ (nm q : Str) (N : Addr) (bs : List Value) (sn : List Str) (sub : List Value) (ab : Bool) (col : Option Bool) (dd : Option Addr) (k0 k1 k2 k3 k5 : Option Value), K.lookup C = some (excClassObj nm q C N bs (.ref CA :: bmV) true sn sub ab col dd k0 k1 k2 k3 k5 "ValueError.__new__")
  set : PySem.W.findIn K (.ref C) "__setattr__" = some (some (.builtin "object.__setattr__"))
  ga : PySem.W.findIn K (.ref C) "__getattribute__" = some (some (.builtin "BaseException.__getattribute__"))
  gt : PySem.W.findIn K (.ref C) "__getattr__" = some none
  cl : PySem.W.findIn K (.ref C) "__class__" = some (some (.builtin "object.__class__"))
section
variable {C CA : Addr}
theorem cX_val : (Value.ref C :: .ref CA :: bmV).contains (.type "ValueError") = true := by simp [bmV]
theorem cX_base : (Value.ref C :: .ref CA :: bmV).contains (.type "BaseException") = true := by simp [bmV]
theorem cX_obj : (Value.ref C :: .ref CA :: bmV).contains (.type "object") = true := by simp [bmV]
theorem cX_attr : (Value.ref C :: .ref CA :: bmV).contains (.type "AttributeError") = false := by
  rw [List.contains_cons, List.contains_cons]
  rfl
theorem cX_name : (Value.ref C :: .ref CA :: bmV).contains (.type "NameError") = false := by
  rw [List.contains_cons, List.contains_cons]
  rfl
theorem pass_X (self : Value) : refuseLoop self "__setattr__" (.ref C :: .ref CA :: bmV) = pure () := by
  rw [refuseLoop_ref, refuseLoop_ref]
  exact PySem.F.store_ValueError.passes self
theorem ClsX.mk' {K : PySem.W.Frag} {f : Addr} (c : ClsX K C CA) (init : PySem.W.findIn K (.ref C) "__init__" = some (some (.ref f))) (fn : ∃ o, K.lookup f = some o ∧ o.cls = .type "function") (kp : PySem.W.keepIn K (.ref C) = true) : MkX K C f := by
  obtain ⟨nm, q, N, bs, sn, sub, ab, col, dd, k0, k1, k2, k3, k5, lk⟩ := c.obj
  exact ⟨⟨nm, q, N, bs, _, _, sn, sub, ab, col, dd, k0, k1, k2, k3, k5, lk, cX_val, cX_attr, cX_name⟩, init, fn, kp⟩
end
/-- an exception with its dict -/
def XAt (H : Hp) (e C dx : Addr) : Prop := H e = some (ExcD C e dx) ∨ H e = some (ExcT C e dx)
theorem XAt.get {P : Program} {w : World} {H : Hp} {h : Heap} {e C dx : Addr} (x : HOk P w H h) (he : XAt H e C dx) : ∃ vs, h.get? e = some (excObj C (some dx) vs) := by
  rcases he with he | he
  · obtain ⟨o, ho, a, rfl⟩ := ObP.get x he
    exact ⟨_, ho⟩
  · obtain ⟨o, ho, vs, rfl, _⟩ := ObP.get x he
    exact ⟨_, ho⟩
section
variable {X : Cx} {pins : List (Addr × Obj)} {σ : St} {H : Hp} {s : Shared} {h' : Heap} {e dx : Addr} {φ : Heap → Prop} {o1 o2 : HO}
theorem Inv.ext2 {t' : Nat} (I : Inv X pins σ H s) (he : H e = some (.ext φ)) (hp : s.heap.objs.size ≤ dx) (k : ∀ b u, b ≠ e → s.heap.get? b = some u → h'.get? b = some u) (heo : ∃ u, h'.get? e = some u)
    (n1 : ObjOk X.prog X.w (upd (upd H dx o1) e o2) h' dx o1) (n2 : ObjOk X.prog X.w (upd (upd H dx o1) e o2) h' e o2) : Inv X pins σ (upd (upd H dx o1) e o2) { s with heap := h', toks := t' } := by
  have hdn : H dx = none := I.hok.fresh hp
  have ne : ∀ b u, H b = some u → (∀ ψ, u ≠ .ext ψ) → b ≠ e ∧ b ≠ dx := fun b u hb hu => ⟨fun z => by rw [z, he] at hb; cases hb; exact hu _ rfl, ne_of_none hb hdn⟩
  have old : ∀ b, b ≠ e → b ≠ dx → upd (upd H dx o1) e o2 b = H b := fun b h1 h2 => by rw [upd_ne h1, upd_ne h2]
  have fr : ∀ b u, s.heap.get? b = some u → b ≠ dx := fun b u q => Nat.ne_of_lt (Nat.lt_of_lt_of_le (Heap.lt_size q) hp)
  have nn : ∀ b, H b = none → b ≠ e := fun b n z => by rw [z, he] at n; cases n
  refine I.un ⟨fun b u q n _ _ => k b u (nn b n) q, fun b u q n _ _ => ⟨u.slots, k b u (nn b n) q⟩, fun b u q n _ => ?_, fun b u q _ => ?_, fun b xs q => ?_, fun b u xs q => ?_, fun b ps q => ⟨#[], ?_⟩⟩ fun b u q => ?_
  · rw [old b (nn b n) (fr b u q)]
    exact n
  · by_cases hb : b = e
    · rw [hb]; exact heo
    · exact ⟨u, k b u hb q⟩
  · obtain ⟨h1, h2⟩ := ne b _ q (fun ψ z => by cases z)
    rw [old b h1 h2]
    exact q
  · obtain ⟨h1, h2⟩ := ne b _ q (fun ψ z => by cases z)
    rw [old b h1 h2]
    exact q
  · obtain ⟨h1, h2⟩ := ne b _ q (fun ψ z => by cases z)
    rw [old b h1 h2, q]
    simp
  · by_cases hb : b = e
    · subst hb
      rw [upd_same] at q
      cases q
      exact n2
    · by_cases hb2 : b = dx
      · subst hb2
        rw [upd_ne hb, upd_same] at q
        cases q
        exact n1
      · rw [old b hb hb2] at q
        refine (I.hok b u q).stay (fun c v hc r => k c v ?_ r) (fun c r => ?_) fun c xs r => ?_
        · rcases hc with rfl | hc
          · exact hb
          · exact (ne c _ hc (fun ψ z => by cases z)).1
        · obtain ⟨h1, h2⟩ := ne c _ r (fun ψ z => by cases z)
          rw [old c h1 h2]
          exact r
        · obtain ⟨h1, h2⟩ := ne c _ r (fun ψ z => by cases z)
          rw [old c h1 h2]
          exact r
end
section
variable {X : Cx} {o e value : Expr} {f : Str} {pos pos' tpos : Pos} {ta tv : TE}
/-- self.f = value, the first name that an exception gets -/
theorem ps_fldX (ha : PE X o ta) (hv : PE X value tv) (hs : swapsWith value (some (.Attribute o f pos')) pos.line X.env = pure false) :
    PS X (.Assign [.Attribute o f pos'] value pos) (fun D σ H => tv σ H fun y H1 => ta σ H1 fun x H2 => ∃ e C CA, x = .ref e ∧ H2 e = some (ExcN C e) ∧ ClsX X.K C CA ∧ NoAttr X.K C f ∧ ∀ dx, H2 dx = none → dx ≠ e → D.nx σ (upd (upd H2 dx (.xd [(f, y)])) e (ExcD C e dx))) := by
  intro pins s σ H D I h
  refine plainObj_wpAny_Assign_Attribute (thn (hv pins s σ H _ I h) fun u s1 ⟨y, H1, I1, ry, q⟩ => thn (ha pins s1 σ H1 _ I1 q) fun ov s2 ⟨x, H2, I2, rx, e, C, CA, ex, he, c, n, q2⟩ => ?_) hs
  subst ex
  obtain rfl : ov = Value.ref e := rx
  obtain ⟨nm, qn, N, bs, sn, sub, ab, col, dd, k0, k1, k2, k3, k5, lk⟩ := c.obj
  obtain ⟨ob, ho, a, rfl⟩ := ObP.get I2.hok he
  obtain ⟨hh, g, d, tk, os⟩ := s2
  refine store_attrX PySem.F.store_ValueError cX_obj (pass_X _) (I2.kIn _ _ lk) (PySem.W.looks_findIn I2.kIn c.set) (PySem.W.looks_findIn I2.kIn n) ho rfl rfl (fun _ z => by cases z) fun h' tk' i1 i2 i3 => ?_
  have hd : H2 hh.objs.size = none := I2.hok.fresh (Nat.le_refl _)
  have hde : hh.objs.size ≠ e := fun z => by rw [z, he] at hd; cases hd
  refine ⟨σ, _, I2.ext2 (t' := tk') (dx := hh.objs.size) (e := e) (o1 := .xd [(f, y)]) (o2 := ExcD C e hh.objs.size) he (Nat.le_refl _) (fun b u hb q => i3 b u hb q) ⟨_, i1⟩ ⟨_, i2, fun z => ?_⟩ (ObP.ok i1 ⟨a, rfl⟩), q2 _ hd hde⟩
  by_cases hz : z = f
  · subst hz
    rw [if_pos rfl, show ([(z, y)] : List (Str × V)).lookup z = some y by simp [List.lookup]]
    exact ry
  · rw [if_neg hz]
    have : ([(f, y)] : List (Str × V)).lookup z = none := by
      have hb : (z == f) = false := beq_eq_false_iff_ne.mpr hz
      simp only [List.lookup, hb]
    rw [this]
    trivial
/-- e.f of an exception -/
theorem pe_fldX (he : PE X e ta) (hb : attributeBase e f X.env (eval e X.env) = eval e X.env) : PE X (.Attribute e f pos) (fun σ H Q => ta σ H fun x H1 => ∃ a C CA dx fs v, x = .ref a ∧ XAt H1 a C dx ∧ H1 dx = some (.xd fs) ∧ fs.lookup f = some v ∧ ClsX X.K C CA ∧ NoAttr X.K C f ∧ Q v H1) := by
  intro pins s σ H Q I h
  refine attr_of hb (thn (he pins s σ H _ I h) fun u s1 ⟨x, H1, I1, rx, a, C, CA, dx, fs, v, ex, ea, ed, l, c, n, q⟩ => ?_)
  subst ex
  obtain rfl : u = Value.ref a := rx
  obtain ⟨nm, qn, N, bs, sn, sub, ab, col, dd, k0, k1, k2, k3, k5, lk⟩ := c.obj
  obtain ⟨vs, ho⟩ := XAt.get I1.hok ea
  obtain ⟨mA, hn, r⟩ := I1.hok dx _ ed
  obtain ⟨u, hu, ru⟩ := RelO.some_of (v := v) (o := mA f) (by rw [← l]; exact r f)
  obtain ⟨hh, g, d, tk, os⟩ := s1
  unfold getAttr
  refine wpAny_bind (wpAny_mkText ?_)
  exact load_byX (I1.kIn _ _ lk) cX_base (PySem.W.looks_findIn I1.kIn c.ga) (PySem.W.looks_findIn I1.kIn c.gt) (PySem.W.looks_findIn I1.kIn n) ho rfl rfl (fun _ z => by cases z) hn.ns hu (handed_of ru) ⟨v, H1, I1.tok _, ru, q⟩
end
end L2

namespace L2
open PySem PySem.Spec PyProof.Rows
theorem kitxX {K : PySem.W.Frag} {e C CA dx : Addr} (c : ClsX K C CA) : PySem.W.KitX K (.ref e) (.ref C) (fun h => ∃ vs, h.get? e = some (excObj C (some dx) vs)) where
  ty := fun M h _ ⟨vs, hx⟩ => (PySem.W.Looks.ld hx).andThen .now
  it := fun M h X _ => by
    obtain ⟨nm, q, N, bs, sn, sub, ab, col, dd, k0, k1, k2, k3, k5, lk⟩ := c.obj
    intro A' Q' E' s' k q
    unfold isType loadHead
    exact wpAny_bind (wpAny_loadPart (k _ _ (X _ _ lk)) (wpAny_pure q))
  ne := fun h tp dd' its n sl X htp => by
    obtain ⟨nm, q, N, bs, sn, sub, ab, col, dd, k0, k1, k2, k3, k5, lk⟩ := c.obj
    refine Bool.eq_false_iff.mpr fun z => ?_
    have e : C = tp := Value.ref.inj (beq_iff_eq.mp z)
    subst e
    have z := congrArg Obj.data (Option.some.inj ((X _ _ lk).symm.trans htp))
    exact Data.noConfusion z
  ca := fun {prog w A E Q s} X ⟨vs, hx⟩ k => by
    obtain ⟨nm, q, N, bs, sn, sub, ab, col, dd, k0, k1, k2, k3, k5, lk⟩ := c.obj
    obtain ⟨hh, g, d, tk, os⟩ := s
    exact class_attrX (X _ _ lk) cX_base cX_obj (PySem.W.looks_findIn X c.ga) (PySem.W.looks_findIn X c.gt) (PySem.W.looks_findIn X c.cl) hx rfl k
section
variable {X : Cx}
/-- isinstance(e, c), e an exception; c one class, or a tuple of classes -/
def rIsiX (K : PySem.W.Frag) : List V → Hp → VK → Prop := fun xs H Q => ∃ e C CA dx c b, xs = [.ref e, c] ∧ XAt H e C dx ∧ ClsX K C CA ∧
  ((∃ D, c = .ref D ∧ PySem.W.kitOne K (.ref C) (.ref D) = some b) ∨ (∃ T, c = .ty T ∧ PySem.W.kitOne K (.ref C) (.type T) = some b) ∨ ∃ (tp : Addr) (Ds : List Addr), c = .ref tp ∧ H tp = some (.tup (Ds.map V.ref)) ∧ PySem.W.kitAny K (.ref C) (Ds.map Value.ref) = some b) ∧ Q (.bl b) H
theorem vals_refsX {cs : List Addr} {us : List Value} (h : Vals (cs.map V.ref) us) : us = cs.map Value.ref := by
  induction cs generalizing us with
  | nil => cases h; rfl
  | cons a r ih =>
    cases h with
    | cons r1 r2 =>
      cases r1
      rw [ih r2]
      rfl
theorem call_isiX : CallR X (.builtin "isinstance") (rIsiX X.K) := by
  intro pins s σ H xs us Q I r h
  obtain ⟨e, C, CA, dx, c, b, rfl, ea, cl, hk, q⟩ := h
  cases r with
  | cons r rr =>
    cases rr with
    | cons r' rr =>
      cases rr
      cases r
      have ho := XAt.get I.hok ea
      have fin : ∀ tk, EP X pins σ Q (.bool b) { s with toks := tk } := fun tk => ⟨.bl b, H, I.tok _, rfl, q⟩
      rcases hk with ⟨D, rfl, hk⟩ | ⟨T, rfl, hk⟩ | ⟨tp, Ds, rfl, ht, hk⟩
      · cases r'
        exact PySem.W.kia_one (kitxX cl) I.kIn ho hk (fun z => nomatch z) fin
      · cases r'
        exact PySem.W.kia_one (kitxX cl) I.kIn ho hk (fun z => nomatch z) fin
      · cases r'
        obtain ⟨_, its, rv, ⟨⟨cls, dd, data, sl⟩, h1, h2, n, h3⟩, _⟩ := I.hok tp _ ht
        simp only at h2 h3
        subst h2 h3
        have := vals_refsX rv
        subst this
        exact PySem.W.kia_tup (kitxX cl) I.kIn ho h1 hk (fun z => nomatch z) fin
end
end L2

namespace L2
open PySem PySem.Spec PyProof.Rows
section
variable {X : Cx}
/-- int, text, None in an f-string -/
def FmV (v : V) (y : Str) : Prop := (∃ i : Int, v = .int i ∧ i.natAbs.log2 < 1920 ∧ y = toString i) ∨ v = .str y ∨ (v = .non ∧ y = "None")
theorem pe_fmtV {e : Expr} {te : TE} {pos : Pos} (he : PE X e te) : PE X (.FormattedValue e (-1) none pos) (fun σ H Q => te σ H fun v H1 => ∃ y, FmV v y ∧ y.length ≤ sizeLine ∧ Q (.str y) H1) := by
  intro pins s σ H Q I h
  refine FormattedValue_plain (thn (he pins s σ H _ I h) fun v s1 ⟨x, H1, I1, r1, y, ex, hz, q⟩ => ?_)
  rcases ex with ⟨i, rfl, hl, rfl⟩ | rfl | ⟨rfl, rfl⟩
  · obtain ⟨t', rfl⟩ := r1
    exact formatField_int_small hl ⟨.str (toString i), H1, I1.tok _, ⟨_, rfl⟩, q⟩
  · obtain ⟨t', rfl⟩ := r1
    exact formatField_str (fun t'' tk => ⟨.str y, H1, I1.tok _, ⟨_, rfl⟩, q⟩) hz
  · obtain rfl : v = Value.none := r1
    exact PySem.wpAny_formatField_none ⟨.str "None", H1, I1.tok _, ⟨_, rfl⟩, q⟩
end
/-- a def with defaults dV -/
structure FunD (K : PySem.W.Frag) (x qual : Str) (st : Stmt) (f : Addr) (fd : FuncData) (dV : Value) : Prop where
  ex : ∃ (oc : Value) (od : Option Addr) (kV doc pm : Value) (an : Option Addr) (cdv ct : Value) (osl : Array (Option Value)),
    fd = PySem.W.fnOf x qual (defArgs st) (defBody st) (defScope st) dV kV doc pm an cdv ct ∧ K.lookup f = some ⟨oc, od, .func fd, osl⟩ ∧ PySem.W.codeIn K cdv qual = true
  kp : PySem.W.keepIn K (.ref f) = true
section
variable {P : Program} {w : World} {K : PySem.W.Frag} {mg : Str → Option Value} {base : Heap} {dV : Value}
theorem FunD.ok {x qual : Str} {st : Stmt} {f : Addr} {fd : FuncData} {N ps : List Str} {k : Nat} {sp : Sp} (F : FunD K x qual st f fd dV) (S : FnScope N ps (defScope st)) (len : ∀ vs H Q E, sp vs H Q E → vs.length = ps.length)
    (hbody : ∀ (cdv : Value) (A : Around) (outer : List Env) (s : Shared) (H : Hp) (vs : List V) (Q : VK) (E : XK), Room k (A.deeper (envOfC qual (defScope st) s.heap.objs.size f cdv)) → sp vs H Q E →
      ∃ t, PSs (cxOf CX0 P w K mg base N qual (defScope st) f cdv A outer s H E).nox (defBody st) t ∧ t { nx := fun _ H' => Q .non H', rt := Q } (start N vs) H) : FnOk P w K mg base CX0 (k + 1) f fd ps sp := by
  obtain ⟨oc, od, kV, doc, pm, an, cdv, ct, osl, rfl, lk, hcd⟩ := F.ex
  refine fn_of lk hcd S len fun A outer s H vs Q E hr hsp => ?_
  obtain ⟨t, h, q⟩ := hbody cdv A outer s H vs Q E hr hsp
  exact ⟨t, h.nox, q⟩
theorem funD_mk {x qual : Str} {st : Stmt} {f : Addr} {oc : Value} {od an : Option Addr} {osl : Array (Option Value)} {kV doc pm cdv ct : Value} (l : K.lookup f = some ⟨oc, od, .func (PySem.W.fnOf x qual (defArgs st) (defBody st) (defScope st) dV kV doc pm an cdv ct), osl⟩)
    (c : PySem.W.codeIn K cdv qual = true) (k : PySem.W.keepIn K (.ref f) = true) : FunD K x qual st f (PySem.W.fnOf x qual (defArgs st) (defBody st) (defScope st) dV kV doc pm an cdv ct) dV := ⟨⟨oc, od, kV, doc, pm, an, cdv, ct, osl, rfl, l, c⟩, k⟩
theorem Fun.toD {x qual : Str} {st : Stmt} {f : Addr} {fd : FuncData} (F : Fun K x qual st f fd) : FunD K x qual st f fd .none := ⟨F.ex, F.kp⟩
end
/-! ### isinstance among classes under one class -/
section
variable {K : PySem.W.Frag} {C D CA : Addr}
theorem ClsX.isCls (d : ClsX K D CA) : ((PySem.W.clsIn K D).isSome && PySem.W.typeIn K (.ref D) == some (.type "type")) = true := by
  obtain ⟨nm, q, N, bs, sn, sub, ab, col, dd, k0, k1, k2, k3, k5, lk⟩ := d.obj
  unfold PySem.W.clsIn PySem.W.typeIn
  rw [lk]
  simp
  exact ⟨_, lk, rfl⟩
theorem ClsX.sub (c : ClsX K C CA) (b : Value) : PySem.W.subIn K (.ref C) b = some ((Value.ref C :: .ref CA :: bmV).contains b) := by
  obtain ⟨nm, q, N, bs, sn, sub, ab, col, dd, k0, k1, k2, k3, k5, lk⟩ := c.obj
  show PySem.W.mroIn K C b = _
  unfold PySem.W.mroIn PySem.W.clsIn
  rw [lk]
  rfl
theorem kit_is (c : ClsX K C CA) (d : ClsX K D CA) (hA : D ≠ CA) : PySem.W.kitOne K (.ref C) (.ref D) = some (D == C) := by
  unfold PySem.W.kitOne
  by_cases e : D = C
  · subst e
    rw [if_pos (by simp)]
    simp
  · rw [if_neg (by simpa using fun z => e z.symm)]
    show (if _ then PySem.W.subIn K (.ref C) (.ref D) else none) = _
    rw [if_pos d.isCls, c.sub]
    simp [bmV, e, hA]
theorem kit_val (c : ClsX K C CA) : PySem.W.kitOne K (.ref C) (.type "ValueError") = some true := by
  unfold PySem.W.kitOne
  rw [if_neg (by simp)]
  show (if PySem.W.kitMeta "ValueError" = true then PySem.W.subIn K (.ref C) (.type "ValueError") else none) = _
  rw [if_pos (by decide +kernel), c.sub]
  simp [bmV]
end
/-- an exception as it stands: its class, its one name and that name's value -/
def Ex (H : Hp) (e C : Addr) (f : Str) (v : V) : Prop := ∃ dx, H e = some (ExcD C e dx) ∧ H dx = some (.xd [(f, v)])
end L2

namespace L2
open PySem PySem.Spec PyProof.Rows
/-! ### an exception that flies: its note in each frame -/
/-- an exception of the class at C that is not noted, or whose last note is whole -/
def Fly (h : Heap) (e C dx : Addr) : Prop := ∃ vs, h.get? e = some (excObj C (some dx) vs) ∧ vs.size = 6 ∧ (vs[1]? = some .none ∨ ∃ T oT ts, vs[1]? = some (.ref T) ∧ T ≠ e ∧ h.get? T = some oT ∧ oT.data = .fields ts ∧ ts[3]? = some .none)
/-- behind a note: the frames' slots and the exception alone have changed -/
structure Lft (fs : List Addr) (e : Addr) (h h' : Heap) : Prop where
  keep : ∀ b o, h.get? b = some o → b ∉ fs → b ≠ e → h'.get? b = some o
  slot : ∀ b o, h.get? b = some o → b ≠ e → ∃ sl, h'.get? b = some { o with slots := sl }
section
variable {M : Model} {A : Around} {E : Value → Shared → Prop} {s : Shared}
theorem newEntryX {base : Heap} {env : Env} {outer : List Env} {L e C dx : Addr} {vs : Array Value} {head : Value} {hadNext : Bool} {Q : Unit → Shared → Prop}
    (hfr : A.frames = some (env :: outer)) (hl : s.heap.FunFrames base (env :: outer)) (hf : env.frame = some L)
    (he : s.heap.get? e = some (excObj C (some dx) vs)) (hsz : vs.size = 6)
    (h : ∀ h', Lft ((env :: outer).filterMap (·.frame)) e s.heap h' → Fly h' e C dx → Q () { s with heap := h' }) :
    wpAny M A (do let a ← frameOf env; let pl ← entryPlaceOf L hadNext; let b ← EntryCells.newEntry head a .none (rawInt L) .none pl; setField (.ref e) 1 b) (fun _ s' => wpAny M A (setFlight (.ref e) none) Q E s') E s := by
  have hd : (excObj C (some dx) vs).data = .fields vs := rfl
  have hs1 : 1 < vs.size := by omega
  have hene : e ∉ (env :: outer).filterMap (·.frame) := fun hm => by
    obtain ⟨_, o, ho, hnf⟩ := hl.mem hm
    rw [he] at ho; injection ho with ho; subst ho; exact hnf vs hd
  refine wpAny_bind (wpAny_frameOf_fun hfr hl hf fun h₁ hs₁ => ?_)
  refine wpAny_bind (wpAny_entryPlaceOf fun pl hpl => ?_)
  unfold EntryCells.newEntry newFields
  refine wpAny_bind (wpAny_newObj_type ?_ (hpl.sizeOk5 _ _ _ _ _))
  have he₁ : h₁.get? e = some (excObj C (some dx) vs) := (hs₁.2.1 e hene).trans he
  have he₂ := Heap.get?_push_of_some (h := h₁) { cls := .type "traceback", dict := none, data := .fields ([head, .ref L, .none, rawInt L, .none] ++ (if pl.isEmpty then List.replicate 6 Value.none else pl)).toArray } he₁
  refine wpAny_setField he₂ hd hs1 ?_
  have hTe : h₁.objs.size ≠ e := Nat.ne_of_gt (Heap.lt_size he₁)
  have hd₃ := Obj.data_mapFields hd (·.setIfInBounds 1 (Value.ref h₁.objs.size))
  have he₃ := Heap.get?_update_self (Obj.mapFields (·.setIfInBounds 1 (Value.ref h₁.objs.size))) he₂ (Obj.isFreed_of_fields hd₃)
  have hT₃ := (Heap.get?_update_other (h₁.push { cls := .type "traceback", dict := none, data := .fields ([head, .ref L, .none, rawInt L, .none] ++ (if pl.isEmpty then List.replicate 6 Value.none else pl)).toArray })
    (Obj.mapFields (·.setIfInBounds 1 (Value.ref h₁.objs.size))) (Ne.symm hTe)).trans (Heap.get?_push_size h₁ rfl)
  unfold setFlight
  refine wpAny_bind (wpAny_field he₃ hd₃ (x := .ref h₁.objs.size) (by simp [hs1]) ?_)
  rw [if_pos (show (Value.ref h₁.objs.size != Value.none) = true from by simp)]
  refine wpAny_setField hT₃ rfl (by simp only [List.size_toArray, List.length_append, List.length_cons, List.length_nil] <;> omega) ?_
  have keep : ∀ b o, b ≠ e → h₁.get? b = some o →
      (((h₁.push { cls := .type "traceback", dict := none, data := .fields ([head, .ref L, .none, rawInt L, .none] ++ (if pl.isEmpty then List.replicate 6 Value.none else pl)).toArray }).update e (Obj.mapFields (·.setIfInBounds 1 (Value.ref h₁.objs.size)))).update h₁.objs.size
        (Obj.mapFields (·.setIfInBounds 3 ((none : Option Addr).elim Value.none fun f => rawInt f)))).get? b = some o := fun b o hbe hb => by
    have hbT : h₁.objs.size ≠ b := Nat.ne_of_gt (Heap.lt_size hb)
    rw [Heap.get?_update_other _ _ hbT, Heap.get?_update_other _ _ (Ne.symm hbe)]
    exact Heap.get?_push_of_some _ hb
  refine h _ ⟨fun b o hb hn hbe => keep b o hbe ((hs₁.2.1 b hn).trans hb), fun b o hb hbe => ?_⟩ ⟨vs.setIfInBounds 1 (.ref h₁.objs.size), ?_, ?_, .inr ⟨h₁.objs.size, _, _, ?_, hTe, Heap.get?_update_self _ hT₃ (Obj.isFreed_of_fields (Obj.data_mapFields rfl _)), Obj.data_mapFields rfl _, ?_⟩⟩
  · obtain ⟨sl, hs⟩ := hs₁.2.2 b o hb
    exact ⟨sl, keep b _ hbe hs⟩
  · rw [Heap.get?_update_other _ _ hTe]
    exact he₃
  · simp [hsz]
  · simp [hs1]
  · first | (simp; done) | (rcases hpl with rfl | ⟨_, _, _, _, _, _, _, rfl⟩ <;> simp)
theorem set_same {ts : Array Value} {i : Nat} {v : Value} (h : ts[i]? = some v) : ts.setIfInBounds i v = ts := by
  obtain ⟨hi, e⟩ := Array.getElem?_eq_some_iff.mp h
  refine Array.ext (by simp) fun j h1 h2 => ?_
  rw [Array.getElem_setIfInBounds]
  · by_cases hj : i = j
    · subst hj
      rw [if_pos rfl, ← e]
    · rw [if_neg hj]
theorem note_run {base : Heap} {env : Env} {outer : List Env} {L e C dx : Addr} {Q : Unit → Shared → Prop}
    (hfr : A.frames = some (env :: outer)) (hl : s.heap.FunFrames base (env :: outer)) (hf : env.frame = some L) (he : Fly s.heap e C dx)
    (h : ∀ h', Lft ((env :: outer).filterMap (·.frame)) e s.heap h' → Fly h' e C dx → Q () { s with heap := h' }) :
    wpAny M A (noteFrame (.ref e) env) (fun _ s' => wpAny M A (setFlight (.ref e) none) Q E s') E s := by
  obtain ⟨vs, he, hz, hv⟩ := he
  have hd : (excObj C (some dx) vs).data = .fields vs := rfl
  unfold noteFrame
  simp only [hf]
  rcases hv with h1 | ⟨T, oT, ts, h1, hTe, hT, hdT, h3⟩
  · refine wpAny_bind (wpAny_field he hd h1 ?_)
    rw [if_neg (by decide)]
    exact newEntryX hfr hl hf he hz h
  · refine wpAny_bind (wpAny_field he hd h1 ?_)
    rw [if_pos (show (Value.ref T != Value.none) = true from by simp)]
    refine wpAny_bind (wpAny_field hT hdT h3 ?_)
    rw [if_neg (show ¬ ((Value.none == rawInt L) = true) from by simp [rawInt])]
    refine wpAny_bind (wpAny_setField hT hdT (Array.getElem?_eq_some_iff.mp h3).1 ?_)
    have id : ∀ b o, s.heap.get? b = some o → (s.heap.update T (Obj.mapFields (·.setIfInBounds 3 Value.none))).get? b = some o := fun b o hb => by
      by_cases hbT : b = T
      · subst hbT
        rw [hT] at hb
        cases hb
        have hm : Obj.mapFields (·.setIfInBounds 3 Value.none) oT = oT := by
          obtain ⟨c, d, dt, sl⟩ := oT
          cases hdT
          show ({ cls := c, dict := d, data := .fields (ts.setIfInBounds 3 Value.none), slots := sl } : Obj) = _
          rw [set_same h3]
        have := Heap.get?_update_self (Obj.mapFields (·.setIfInBounds 3 Value.none)) hT (by rw [hm]; exact (Heap.get?_some_iff.mp hT).2)
        rw [this, hm]
      · rw [Heap.get?_update_other _ _ (Ne.symm hbT)]
        exact hb
    refine newEntryX (s := { s with heap := _ }) hfr (hl.of_keeps fun b o hb _ => ⟨o, id b o hb, rfl⟩) hf (id _ _ he) hz fun h' x1 x2 => h h' ⟨fun b o hb hn hbe => x1.keep b o (id b o hb) hn hbe, fun b o hb hbe => x1.slot b o (id b o hb) hbe⟩ x2
theorem leave_run {base : Heap} {env : Env} {outer : List Env} {L e C dx : Addr} {Q : Unit → Shared → Prop}
    (hfr : A.frames = some (env :: outer)) (hl : s.heap.FunFrames base (env :: outer)) (hf : env.frame = some L) (he : Fly s.heap e C dx)
    (h : ∀ h', Lft ((env :: outer).filterMap (·.frame)) e s.heap h' → Fly h' e C dx → Q () { s with heap := h' }) : wpAny M A (leaving env (.ref e)) Q E s := by
  unfold leaving
  exact wpAny_bind (note_run hfr hl hf he h)
/-- setFlight(e, none) of a noted exception changes nothing that is seen -/
theorem flight_run {e C dx : Addr} {Q : Unit → Shared → Prop} (he : Fly s.heap e C dx) (h : ∀ h', (∀ b o, s.heap.get? b = some o → h'.get? b = some o) → Q () { s with heap := h' }) : wpAny M A (setFlight (.ref e) none) Q E s := by
  obtain ⟨vs, he, hz, hv⟩ := he
  have hd : (excObj C (some dx) vs).data = .fields vs := rfl
  unfold setFlight
  rcases hv with h1 | ⟨T, oT, ts, h1, hTe, hT, hdT, h3⟩
  · refine wpAny_bind (wpAny_field he hd h1 ?_)
    rw [if_neg (by decide)]
    exact wpAny_pure (h s.heap fun _ _ q => q)
  · refine wpAny_bind (wpAny_field he hd h1 ?_)
    rw [if_pos (show (Value.ref T != Value.none) = true from by simp)]
    refine wpAny_setField hT hdT (Array.getElem?_eq_some_iff.mp h3).1 (h _ fun b o hb => ?_)
    show (s.heap.update T (Obj.mapFields (·.setIfInBounds 3 Value.none))).get? b = some o
    by_cases hbT : b = T
    · subst hbT
      rw [hT] at hb
      cases hb
      have hm : Obj.mapFields (·.setIfInBounds 3 Value.none) oT = oT := by
        obtain ⟨c, d, dt, sl⟩ := oT
        cases hdT
        show ({ cls := c, dict := d, data := .fields (ts.setIfInBounds 3 Value.none), slots := sl } : Obj) = _
        rw [set_same h3]
      have := Heap.get?_update_self (Obj.mapFields (·.setIfInBounds 3 Value.none)) hT (by rw [hm]; exact (Heap.get?_some_iff.mp hT).2)
      rw [this, hm]
    · rw [Heap.get?_update_other _ _ (Ne.symm hbT)]
      exact hb
end
end L2

namespace L2
open PySem PySem.Spec PyProof.Rows
section
variable {P : Program} {w : World} {H : Hp} {h h' : Heap} {fs : List Addr} {e C dx : Addr} {φ : Heap → Prop}
theorem Fly.ofD (x : HOk P w H h) (he : H e = some (ExcD C e dx)) : Fly h e C dx := by
  obtain ⟨o, ho, a, rfl⟩ := ObP.get x he
  exact ⟨_, ho, rfl, .inl rfl⟩
theorem lft_un (l : Lft fs e h h') (he : H e = some (.ext φ)) (fl : Fly h' e C dx) : Un fs [] H (upd H e (ExcT C e dx)) h h' := by
  have nn : ∀ b, H b = none → b ≠ e := fun b n z => by rw [z, he] at n; cases n
  have ne : ∀ b u, H b = some u → (∀ ψ, u ≠ .ext ψ) → b ≠ e := fun b u hb hu z => by rw [z, he] at hb; cases hb; exact hu _ rfl
  refine ⟨fun b o q n hb _ => l.keep b o q hb (nn b n), fun b o q n _ _ => l.slot b o q (nn b n), fun b o _ n _ => by rw [upd_ne (nn b n)]; exact n, fun b o q _ => ?_, fun b xs q => ?_, fun b o u q => ?_, fun b ps q => ⟨#[], ?_⟩⟩
  · by_cases hb : b = e
    · obtain ⟨vs, h1, _⟩ := fl
      exact ⟨_, by rw [hb]; exact h1⟩
    · obtain ⟨sl, h1⟩ := l.slot b o q hb
      exact ⟨_, h1⟩
  · rw [upd_ne (ne b _ q fun ψ z => by cases z)]
    exact q
  · rw [upd_ne (ne b _ q fun ψ z => by cases z)]
    exact q
  · rw [upd_ne (ne b _ q fun ψ z => by cases z), q]
    simp
theorem lft_hok (x : HOk P w H h) (l : Lft fs e h h') (hfs : ∀ b ∈ fs, H b = none) (he : H e = some (.ext φ)) (fl : Fly h' e C dx) : HOk P w (upd H e (ExcT C e dx)) h' := by
  have ne : ∀ b u, H b = some u → (∀ ψ, u ≠ .ext ψ) → b ≠ e := fun b u hb hu z => by rw [z, he] at hb; cases hb; exact hu _ rfl
  have nf : ∀ b u, H b = some u → b ∉ fs := fun b u hb z => by rw [hfs b z] at hb; cases hb
  intro b u q
  by_cases hb : b = e
  · subst hb
    rw [upd_same] at q
    cases q
    obtain ⟨vs, h1, h2, _⟩ := fl
    exact ObP.ok h1 ⟨vs, rfl, h2⟩
  · rw [upd_ne hb] at q
    refine (x b u q).stay (fun c v hc r => ?_) (fun c r => ?_) fun c xs r => ?_
    · rcases hc with rfl | hc
      · exact l.keep _ _ r (nf _ _ q) hb
      · exact l.keep _ _ r (nf _ _ hc) (ne _ _ hc fun ψ z => by cases z)
    · rw [upd_ne (ne _ _ r fun ψ z => by cases z)]
      exact r
    · rw [upd_ne (ne _ _ r fun ψ z => by cases z)]
      exact r
end
/-- how an exception of one's own lies behind a call -/
def CXr (P : Program) (w : World) : CXT := fun outer H s E e s' => ∃ e0 C dx H', e = .ref e0 ∧ s'.os = s.os ∧ AllBare s'.gens ∧ Un (frs outer) [] H H' s.heap s'.heap ∧ HOk P w H' s'.heap ∧ H' e0 = some (ExcT C e0 dx) ∧ Fly s'.heap e0 C dx ∧ E (.ref e0) (some dx) H'
section
variable {P : Program} {w : World} {K : PySem.W.Frag} {mg : Str → Option Value} {base : Heap} {N : List Str} {qual : Str} {scope : Scope} {f : Addr} {cd : Value} {A : Around} {outer : List Env} {s s1 : Shared} {H H1 : Hp} {E : XK} {pins : List (Addr × Obj)} {σ : St} {e C dx : Addr} {φ : Heap → Prop}
theorem xe_fly (I : Inv (cxOf (CXr P w) P w K mg base N qual scope f cd A outer s H E) pins σ H1 s1) (he : H1 e = some (.ext φ)) (fl : Fly s1.heap e C dx) (q : E (.ref e) (some dx) (upd H1 e (ExcT C e dx))) :
    (cxOf (CXr P w) P w K mg base N qual scope f cd A outer s H E).xe (.ref e) s1 := by
  show wpAny _ _ (leaving _ (.ref e)) _ _ s1
  refine leave_run (base := base) I.ok.frames I.stack rfl fl fun h' l fl' => ?_
  have u1 := lft_un (H := H1) l he fl'
  have k1 := lft_hok I.hok l I.stkFree he fl'
  have b0 : Un (frs outer) [] H H1 s.heap s1.heap := I.base
  have above : s.heap.objs.size ≤ (cxOf (CXr P w) P w K mg base N qual scope f cd A outer s H E).env.locals := I.ok.above
  have sub : ∀ b o, s.heap.get? b = some o → b ∉ frs outer → b ∉ frs (cxOf (CXr P w) P w K mg base N qual scope f cd A outer s H E).stack := fun b o q hb z => by
    rcases List.mem_cons.mp (I.stkSub b z) with z | z
    · have := Heap.lt_size q
      rw [z] at this
      exact absurd above (Nat.not_le.mpr this)
    · exact hb z
  have u2 := (b0.mono (fs' := frs (cxOf (CXr P w) P w K mg base N qual scope f cd A outer s H E).stack) (ex' := []) (fun b hb => by
    show b ∈ List.filterMap _ (_ :: outer)
    rw [List.filterMap_cons]
    exact List.mem_cons_of_mem _ hb) fun _ z => z).trans u1
  refine ⟨e, C, dx, _, rfl, I.os, I.bare, ⟨fun b o q n hb hx => u2.keep b o q n (sub b o q hb) hx, fun b o q n _ hx => u2.any q n hx, u2.free, u2.there, u2.tups, u2.frzs, u2.tbls⟩, k1, upd_same, fl', q⟩
end
section
variable {X : Cx} {x : Expr} {te : TE} {pos : Pos}
end
end L2

namespace L2
open PySem PySem.Spec PyProof.Rows
theorem raise_objX2 {M : Model} {A : Around} {E : Value → Shared → Prop} {s : Shared} {env : Env} {K : PySem.W.Frag} {x : Sem Value} {Q : Flow → Shared → Prop} (hh : A.handled = none)
    (h : wpAny M A x (fun v s₁ => ∃ e dx a C CA, v = .ref e ∧ ClsX K C CA ∧ K.In s₁.heap ∧ s₁.heap.get? e = some (excObj C (some dx) (vs6 a)) ∧ E (.ref e) s₁) E s) : wpAny M A (raiseStmt env (some x) none) Q E s := by
  unfold raiseStmt
  refine wpAny_bind (wpAny_mono h (fun v s₁ h₁ => ?_) fun _ _ x => x)
  obtain ⟨e, dx, a, C, CA, rfl, c, KX, he, hE⟩ := h₁
  obtain ⟨nm, q, N, bs, sn, sub, ab, col, dd, k0, k1, k2, k3, k5, lk⟩ := c.obj
  have hcB := cX_base (C := C) (CA := CA)
  have hC := KX _ _ lk
  obtain ⟨hp, g, d, tk, os⟩ := s₁
  repeat (first | with_reducible refine wpAny_loadPart_at he ?_ | with_reducible refine wpAny_loadPart_at hC ?_ | (with_reducible refine wpAny_isSubtype_exc hC ?_; rw [hcB]) | wp_step)
  exact wpAny_raiseNew_none hh hE
section
variable {P : Program} {w : World} {K : PySem.W.Frag} {mg : Str → Option Value} {base : Heap} {N : List Str} {qual : Str} {scope : Scope} {f : Addr} {cd : Value} {A : Around} {outer : List Env} {s : Shared} {H : Hp} {E : XK}
/-- raise e, e an exception of one's own that was just made -/
theorem ps_raise {x : Expr} {te : TE} {pos : Pos} (he : PE (cxOf (CXr P w) P w K mg base N qual scope f cd A outer s H E) x te) :
    PS (cxOf (CXr P w) P w K mg base N qual scope f cd A outer s H E) (.Raise (some x) none pos) (fun _ σ H1 => te σ H1 fun v H2 => ∃ e C CA dx, v = .ref e ∧ H2 e = some (ExcD C e dx) ∧ ClsX K C CA ∧ E (.ref e) (some dx) (upd H2 e (ExcT C e dx))) := by
  intro pins s1 σ H1 D I h
  rw [arm_exec_Raise]
  refine wpAny_bind (wpAny_standAt (raise_objX2 (K := K) (I.ok.hd rfl) ?_))
  refine wpAny_bind (thn (he pins s1 σ H1 _ I h) fun u s2 ⟨v, H2, I2, r, e, C, CA, dx, ev, e2, c, q⟩ => wpAny_bind (wpAny_standAt (wpAny_pure ?_)))
  subst ev
  obtain rfl : u = Value.ref e := r
  obtain ⟨o, ho, a, rfl⟩ := ObP.get I2.hok e2
  exact ⟨e, dx, a, C, CA, rfl, c, I2.kIn, ho, xe_fly I2 e2 (Fly.ofD I2.hok e2) q⟩
theorem ownX : PassesOwn (model P w) (cxOf (CXr P w) P w K mg base N qual scope f cd A outer s H E).A (cxOf (CXr P w) P w K mg base N qual scope f cd A outer s H E).env (cxOf (CXr P w) P w K mg base N qual scope f cd A outer s H E).xe := PassesOwn.leaving
end
section
variable {P : Program} {w : World} {K : PySem.W.Frag} {mg : Str → Option Value} {base : Heap} {dV : Value}
theorem FunD.okX {x qual : Str} {st : Stmt} {f : Addr} {fd : FuncData} {N ps : List Str} {k : Nat} {sp : Sp} (F : FunD K x qual st f fd dV) (S : FnScope N ps (defScope st)) (len : ∀ vs H Q E, sp vs H Q E → vs.length = ps.length)
    (hbody : ∀ (cdv : Value) (A : Around) (outer : List Env) (s : Shared) (H : Hp) (vs : List V) (Q : VK) (E : XK), Room k (A.deeper (envOfC qual (defScope st) s.heap.objs.size f cdv)) → sp vs H Q E →
      ∃ t, PSs (cxOf (CXr P w) P w K mg base N qual (defScope st) f cdv A outer s H E) (defBody st) t ∧ t { nx := fun _ H' => Q .non H', rt := Q } (start N vs) H) : FnOk P w K mg base (CXr P w) (k + 1) f fd ps sp := by
  obtain ⟨oc, od, kV, doc, pm, an, cdv, ct, osl, rfl, lk, hcd⟩ := F.ex
  exact fn_of lk hcd S len fun A outer s H vs Q E hr hsp => hbody cdv A outer s H vs Q E hr hsp
theorem Fun.okX {x qual : Str} {st : Stmt} {f : Addr} {fd : FuncData} {N ps : List Str} {k : Nat} {sp : Sp} (F : Fun K x qual st f fd) (S : FnScope N ps (defScope st)) (len : ∀ vs H Q E, sp vs H Q E → vs.length = ps.length)
    (hbody : ∀ (cdv : Value) (A : Around) (outer : List Env) (s : Shared) (H : Hp) (vs : List V) (Q : VK) (E : XK), Room k (A.deeper (envOfC qual (defScope st) s.heap.objs.size f cdv)) → sp vs H Q E →
      ∃ t, PSs (cxOf (CXr P w) P w K mg base N qual (defScope st) f cdv A outer s H E) (defBody st) t ∧ t { nx := fun _ H' => Q .non H', rt := Q } (start N vs) H) : FnOk P w K mg base (CXr P w) (k + 1) f fd ps sp := F.toD.okX S len hbody
/-- a def of the text that may raise, by its name -/
structure CalR (P : Program) (w : World) (K : PySem.W.Frag) (mg : Str → Option Value) (base : Heap) (n : Nat) (x : Str) (ps : List Str) (sp : Sp) : Prop where
  ex : ∃ (f : Addr) (fd : FuncData), FnOk P w K mg base (CXr P w) n f fd ps sp ∧ Binds K fd ps [] ∧ PySem.W.keepIn K (.ref f) = true ∧ mg x = some (.ref f)
theorem CalR.of {n : Nat} {x qual : Str} {ps : List Str} {sp : Sp} {st : Stmt} {f : Addr} {fd : FuncData} (F : Fun K x qual st f fd) (O : FnOk P w K mg base (CXr P w) n f fd ps sp) (m : mg x = some (.ref f))
    (h : ∀ (kV doc pm : Value) (an : Option Addr) (cdv ct : Value) (us : List Value), us.length = ps.length → bindArgs (PySem.W.fnOf x qual (defArgs st) (defBody st) (defScope st) .none kV doc pm an cdv ct) ⟨us, []⟩ = pure (ps.zip us)) : CalR P w K mg base n x ps sp :=
  ⟨f, fd, O, F.binds h, F.kp, m⟩
end
end L2

namespace L2
open PySem PySem.Spec PyProof.Rows
section
variable {M : Model} {A : Around} {E : Value → Shared → Prop}
theorem excMatches_up {K : PySem.W.Frag} {C CA : Addr} {s : Shared} {e : Addr} {oe : Obj} {Q : Bool → Shared → Prop} (c : ClsX K C CA) (X : K.In s.heap) (he : s.heap.get? e = some oe) (hcls : oe.cls = .ref C)
    (hA : ∃ (nm q : Str) (N : Addr) (bs : List Value) (sn : List Str) (sub : List Value) (ab : Bool) (col : Option Bool) (dd : Option Addr) (k0 k1 k2 k3 k5 : Option Value), K.lookup CA = some (excClassObj nm q CA N bs bmV true sn sub ab col dd k0 k1 k2 k3 k5 "ValueError.__new__"))
    (hq : Q true s) : wpAny M A (excMatches (.ref e) (.ref CA)) Q E s := by
  obtain ⟨nm, q, N, bs, sn, sub, ab, col, dd, k0, k1, k2, k3, k5, lk⟩ := c.obj
  obtain ⟨nm', q', N', bs', sn', sub', ab', col', dd', k0', k1', k2', k3', k5', lk'⟩ := hA
  have hC := X _ _ lk
  have hA := X _ _ lk'
  obtain ⟨h, g, d, t, os⟩ := s
  have hcB : (Value.ref CA :: bmV).contains (.type "BaseException") = true := by simp [bmV]
  have hcC : (Value.ref C :: .ref CA :: bmV).contains (.ref CA) = true := by simp
  have f := tc_notTuple
  unfold excMatches
  repeat (first | (with_reducible refine wpAny_loadPart_at he ?_; rw [hcls]) | with_reducible refine wpAny_loadPart_at hA ?_ | (with_reducible refine wpAny_isSubtype_exc hA ?_; rw [hcB]) | (with_reducible refine wpAny_isSubtype_exc hC ?_; rw [hcC]) | wp_step)
  exact hq
end
section
variable {prog : Program} {w : World} {A : Around} {s : Shared} {env : Env} {R : Result → Shared → Prop}
theorem handlers_named {e : Value} {n : Str} {b₀ : Stmt} {body : List Stmt} {pos : Pos}
    (h : wpAny (model prog w) A (setFlight e none) (fun _ s1 => wpAny (model prog w) A (bindName env n e) (fun _ s2 => wpAny (model prog w) A (execs (b₀ :: body) env) (fun f s3 => R (.ok f) s3) (fun _ _ => False) s2) (fun _ _ => False) s1) (fun _ _ => False) s) :
    codeAny (model prog w) A (.handlers e [.ExceptHandler none (some n) (b₀ :: body) pos] env) R s := by
  refine codeAny_of_tree ?_
  show wpAny _ A (do return Fin.done (← (handleWith e env [.ExceptHandler none (some n) (b₀ :: body) pos]).onRaise (fun x => do noteFrame x env; theTreesLotGoes x))) _ _ s
  refine wpAny_bind (wpAny_noted ?_)
  unfold handleWith
  exact wpAny_bind (wpAny_standAt (wpAny_bind (wpAny_mono h (fun _ s₁ h₁ => wpAny_bind (wpAny_mono h₁ (fun _ s2 h2 => wpAny_bind (wpAny_attempt (wpAny_mono h2 (fun f s3 h3 => wpAny_pure (wpAny_pure h3)) fun _ _ z => z.elim))) fun _ _ z => z.elim)) fun _ _ z => z.elim)))
end
/-- a handler's suite runs under its exception -/
abbrev Cx.marked (X : Cx) (e : Addr) : Cx := { X with A := X.A.mark (some (.ref e)), calm := false, xe := fun _ _ => False }
section
variable {X : Cx} {pins : List (Addr × Obj)} {σ : St} {H : Hp} {s : Shared} {e : Addr}
theorem Inv.marked (I : Inv X pins σ H s) : Inv (X.marked e) pins σ H s :=
  ⟨⟨I.ok.mod, I.ok.kind, I.ok.glob, I.ok.blt, I.ok.above, I.ok.inj, I.ok.has, I.ok.cab, (fun z => by cases z), I.ok.frames, I.ok.stk, I.ok.exf, I.ok.bs, I.ok.bsz, I.ok.noex, I.ok.exfs, I.ok.funs, I.ok.frf⟩, I.os, I.bare, I.base, I.loc, I.cell, I.free, I.freeC, I.pin, I.hok, I.len⟩
theorem Inv.unmarked (ok : X.Ok) (I : Inv (X.marked e) pins σ H s) : Inv X pins σ H s := ⟨ok, I.os, I.bare, I.base, I.loc, I.cell, I.free, I.freeC, I.pin, I.hok, I.len⟩
theorem SP.unmarked {D : Ends} {f : Flow} {s' : Shared} (ok : X.Ok) (h : SP (X.marked e) pins D f s') : SP X pins D f s' := by
  cases f with
  | next => obtain ⟨σ', H', I, q⟩ := h; exact ⟨σ', H', I.unmarked ok, q⟩
  | brk => obtain ⟨σ', H', I, q⟩ := h; exact ⟨σ', H', I.unmarked ok, q⟩
  | cont => obtain ⟨σ', H', I, q⟩ := h; exact ⟨σ', H', I.unmarked ok, q⟩
  | ret u => obtain ⟨v, σ', H', I, r, q⟩ := h; exact ⟨v, σ', H', I.unmarked ok, r, q⟩
/-- the handler's name goes -/
theorem del_ok {M : Model} {A : Around} {E : Value → Shared → Prop} {i : Nat} {x : Str} {v : V} {pos : Pos} {Q : Unit → Shared → Prop} (I : Inv X pins σ H s) (hN : X.N.Nodup) (hi : X.N[i]? = some x) (hk : X.env.kindOf x = some .local) (hv : σ[i]? = some (some v))
    (h : ∀ s', Inv X pins (σ.set i none) H s' → Q () s') : wpAny M A (unbindBehindTheSuite X.env x pos) Q E s := by
  obtain ⟨m, hn, hl⟩ := id I.loc
  have hcls : (X.env.scope.kind == .class || (X.env.scope.kind == .module && X.env.locals != X.env.globals)) = false := by rw [I.ok.kind]; rfl
  have hiσ : i < σ.length := by rw [I.len]; exact (List.getElem?_eq_some_iff.mp hi).1
  have cne := I.cne
  obtain ⟨u0, _, lk⟩ := hl i x v hi hv (.inl hk)
  have hm : (m x).isSome = true := by
    rcases lk with ⟨_, q⟩ | ⟨q, _⟩
    · rw [q]; rfl
    · rcases q with q | q <;> (rw [hk] at q; cases q)
  unfold unbindBehindTheSuite unbindName deleteName
  refine wpAny_onRaise (wpAny_bind (wpAny_point (wpAny_bind ?_)))
  simp only [hk, hcls, Bool.false_eq_true, if_false]
  refine wpAny_bind (wpAny_nsDel_keeps hn fun h' v' hn' hs => ?_)
  rw [hm]
  refine wpAny_pure (wpAny_point ?_)
  obtain ⟨oL, _, _, hoL, _⟩ := id hn
  refine h _ ⟨I.ok, I.os, I.bare, ⟨fun b o e n hb hx => ?_, fun b o e n hb hx => ?_, I.base.free, fun b o e hx => ?_, I.base.tups, I.base.frzs, I.base.tbls⟩, ⟨_, hn', fun j y v' e1 e2 e3 => ?_⟩, fun y c e => ?_, I.free, I.freeC, fun p hp => ?_, fun b ob e => ?_, by simpa using I.len⟩
  · exact (hs.2 b (Nat.ne_of_lt (Nat.lt_of_lt_of_le (Heap.lt_size e) I.ok.above))).trans (I.base.keep b o e n hb hx)
  · obtain ⟨sl, e1⟩ := I.base.slot b o e n hb hx
    exact ⟨sl, (hs.2 b (Nat.ne_of_lt (Nat.lt_of_lt_of_le (Heap.lt_size e) I.ok.above))).trans e1⟩
  · obtain ⟨o', e1⟩ := I.base.there b o e hx
    exact ⟨o', (hs.2 b (Nat.ne_of_lt (Nat.lt_of_lt_of_le (Heap.lt_size e) I.ok.above))).trans e1⟩
  · by_cases hj : j = i
    · subst hj
      rw [List.getElem?_set_self hiσ] at e2
      cases e2
    · rw [List.getElem?_set_ne (Ne.symm hj)] at e2
      obtain ⟨u', r', q⟩ := hl j y v' e1 e2 e3
      refine ⟨u', r', ?_⟩
      rcases q with ⟨k, e⟩ | ⟨k, c, e, z⟩
      · refine .inl ⟨k, ?_⟩
        have : y ≠ x := fun e => hj (nodup_ix hN e1 (e ▸ hi))
        simp [this, e]
      · exact .inr ⟨k, c, e, z.sameBut hs (cne y c e)⟩
  · obtain ⟨w', z⟩ := I.cell y c e
    exact ⟨w', z.sameBut hs (cne y c e)⟩
  · obtain ⟨e, n, ne, nf, d⟩ := I.pin p hp
    exact ⟨(hs.2 p.1 ne).trans e, n, ne, nf, d⟩
  · refine (I.hok b ob e).stay (fun c w' hc q => (hs.2 c ?_).trans q) (fun _ q => q) fun _ _ q => q
    rintro rfl
    rcases hc with rfl | hc
    · rw [I.free] at e; cases e
    · rw [I.free] at hc; cases hc
end
end L2

namespace L2
open PySem PySem.Spec PyProof.Rows
/-- a try's body: its exceptions go to W, for these pins -/
def PSw (X : Cx) (EE : Ends → St → XK) (st : List Stmt) (t : TS) : Prop :=
  ∀ (W : Value → Shared → Prop) (pins : List (Addr × Obj)) (s : Shared) (σ : St) (H : Hp) (D : Ends), (∀ H1 s1 ev s2, Inv X pins σ H1 s1 → CXr X.prog X.w X.stack H1 s1 (EE D σ) ev s2 → W ev s2) → Inv X pins σ H s → t D σ H →
    wpAny (model X.prog X.w) X.A (execs st X.env) (SP X pins D) W s
section
variable {X : Cx} {EE : Ends → St → XK} {n k : Nat} {x : Str} {ps : List Str} {sp : Sp} {e : Expr} {es : List Expr} {ta : TA} {p pos : Pos}
theorem callW {W : Value → Shared → Prop} {E : XK} {pins : List (Addr × Obj)} {s : Shared} {σ : St} {H : Hp} {Q : VK} (C : CalR X.prog X.w X.K X.mg X.base n x ps sp) (hr : Room k X.A) (hk : n ≤ k) (hg : Gl X x) (ha : PA (X.wish W) (e :: es) ta)
    (hW : ∀ H1 s1 ev s2, Inv X pins σ H1 s1 → CXr X.prog X.w X.stack H1 s1 E ev s2 → W ev s2) (I : Inv X pins σ H s) (h : tCall sp [] E ta σ H Q)
    (hdb : (x == ("__debug__" : Str)) = false := by decide) (he : starEach (e :: es) X.env = (false, eval e X.env) :: starEach es X.env := by rfl) (hpl : (backTo pos (starEach es X.env)).any (·.1) = false := by rfl) :
    wpAny (model X.prog X.w) X.A (eval (.Call (.Name x p) (e :: es) [] pos) X.env) (EP X pins σ Q) W s := by
  obtain ⟨f, fd, F, b, kp, m⟩ := C.ex
  refine wpAny_Call_Name_kw (ld_glob I hg m ?_ hdb)
  refine PySem.W.callWith_K (h₀ := X.base) I.ok.mod.kin kp (thn (ha pos pins s σ H _ (I.wish W) h) fun us s1 ⟨vs, H1, I1, r, q⟩ => ⟨I1.kIn, ?_⟩) he hpl
  have I1' := I1.unwish
  have r2 : Vals (vs ++ []) (us ++ []) := r.append .nil
  have hl : (us ++ []).length = ps.length := by rw [← r2.length]; exact F.len _ _ _ _ q
  refine wpAny_call (codeAny_mono (F.run X.A X.stack s1 H1 ⟨us, []⟩ (us ++ []) (vs ++ []) Q E (hr.mono hk) I1'.env0 (b s1 us I1'.kIn hl) r2 q) fun r s' hq => ?_)
  cases r with
  | error ev => exact hW H1 s1 ev s' I1' hq
  | ok fl =>
    cases fl with
    | ret u => exact I1'.after hq
    | next => exact False.elim hq
    | brk => exact False.elim hq
    | cont => exact False.elim hq
/-- y = f(..) as a try's body -/
theorem psw_set {i : Nat} {y : Str} {py p1 : Pos} (hN : X.N.Nodup) (hi : X.N[i]? = some y) (hx : Loc X.env.scope y) (C : CalR X.prog X.w X.K X.mg X.base n x ps sp) (hr : Room k X.A) (hk : n ≤ k) (hg : Gl X x) (ha : ∀ W, PA (X.wish W) (e :: es) ta)
    (hs : swapsWith (.Call (.Name x p) (e :: es) [] pos) (some (.Name y py)) p1.line X.env = pure false := by rfl) (hf : X.fn y = true ∨ X.env.scope.names.lookup y = some .local := by first | exact .inl rfl | exact .inr rfl | assumption)
    (hdb : (x == ("__debug__" : Str)) = false := by decide) (he : starEach (e :: es) X.env = (false, eval e X.env) :: starEach es X.env := by rfl) (hpl : (backTo pos (starEach es X.env)).any (·.1) = false := by rfl) :
    PSw X EE [.Assign [.Name y py] (.Call (.Name x p) (e :: es) [] pos) p1] (fun D σ H => tCall sp [] (EE D σ) ta σ H fun v H1 => D.nx (σ.set i (some v)) H1) := by
  intro W pins s σ H D hW I h
  refine wpAny_execs_cons (wpAny_Assign_Name (thn (callW C hr hk hg (ha W) hW I h hdb he hpl) fun v s1 ⟨z, H1, I1, r1, q1⟩ => ?_) hs)
  exact store_ok I1 hN hi hx r1 (fun s2 I2 => wpAny_execs_nil ⟨_, H1, I2, q1⟩) hf
/-- without the handler's name -/
def Ends.un (D : Ends) (i : Nat) : Ends := { nx := fun σ H => D.nx (σ.set i none) H, rt := D.rt, bk := fun σ H => D.bk (σ.set i none) H, ct := fun σ H => D.ct (σ.set i none) H }
def isBaseX (K : PySem.W.Frag) (CA : Addr) : Prop := ∃ (nm q : Str) (N : Addr) (bs : List Value) (sn : List Str) (sub : List Value) (ab : Bool) (col : Option Bool) (dd : Option Addr) (k0 k1 k2 k3 k5 : Option Value), K.lookup CA = some (excClassObj nm q CA N bs bmV true sn sub ab col dd k0 k1 k2 k3 k5 "ValueError.__new__")
theorem ps_try {c m : Str} {CA : Addr} {i : Nat} {st body : List Stmt} {b₀ : Stmt} {pc ph : Pos} {t tb : TS} (hN : X.N.Nodup) (hi : X.N[i]? = some m) (hk : X.env.kindOf m = some .local) (hg : Gl X c) (hm : X.mg c = some (.ref CA)) (hA : isBaseX X.K CA)
    (hb : PSw X (fun D σ ev dxo H' => ∃ e C dx, ev = .ref e ∧ dxo = some dx ∧ H' e = some (ExcT C e dx) ∧ ClsX X.K C CA ∧ tb (D.un i) (σ.set i (some (.ref e))) H') st t) (hh : ∀ e, PSs (X.marked e) (b₀ :: body) tb)
    (hst : X.stack = X.env :: X.outer := by rfl) (hfr : X.env.frame = some X.env.locals := by rfl) (hdb : (c == ("__debug__" : Str)) = false := by decide) :
    PS X (.Try st [.ExceptHandler (some (.Name c pc)) (some m) (b₀ :: body) ph] [] [] pos) t := by
  intro pins s σ H D I h
  refine wpAny_Try_except (wpAny_mono (hb _ pins s σ H D ?_ I h) (fun f s1 q => ?_) fun _ _ z => z)
  · rintro H1 s1 _ s2 I1 ⟨e, C0, dx0, H2, rfl, os, bare, un, hok, he0, fl, e', C, dx, ee, ed, he, cls, q⟩
    cases ee
    cases ed
    have I2 := I1.call' (ch := []) os un hok bare (fun b z => absurd z (by simp))
    refine note_run (base := X.base) (env := X.env) (outer := X.outer) (by rw [← hst]; exact I2.ok.frames) (by rw [← hst]; exact I2.stack) hfr fl fun h' l fl' => ?_
    have u := lft_un (H := H2) l he0 fl'
    have kk := lft_hok I2.hok l (by
      have z := I2.stkFree
      rw [hst] at z
      exact z) he0 fl'
    rw [upd_id he0] at u kk
    have I3 : Inv X pins σ H2 { s2 with heap := h' } := I2.call' (ch := []) rfl (by rw [hst]; exact u) kk I2.bare (fun b z => absurd z (by simp))
    refine wpAny_handleBy_cons (codeAny_handlers_test (ld_glob (X := X.marked e) (I3.marked (e := e)) hg hm ?_ hdb)) (by intro z; cases z)
    obtain ⟨o, ho, vs, rfl, _⟩ := ObP.get I3.hok he
    refine excMatches_up cls I3.kIn ho rfl hA ?_
    refine handlers_named ?_
    refine flight_run fl' fun h'' kp => ?_
    have I4 : Inv X pins σ H2 { s2 with heap := h'' } := I3.kept (t' := s2.toks) kp
    refine wpAny_bindName (store_ok (X := X.marked e) (v := .ref e) (I4.marked (e := e)) hN hi (.inl hk) rfl (fun s5 I5 => ?_) (.inr hk))
    refine wpAny_mono (hh e pins s5 _ H2 (D.un i) I5 q) (fun f s6 q6 => ?_) fun _ _ z => z
    have q7 := SP.unmarked I.ok q6
    have fin : ∀ {σ' H'} {G : Shared → Prop}, Inv X pins σ' H' s6 → (∀ s8, Inv X pins (σ'.set i none) H' s8 → G s8) → wpAny (model X.prog X.w) X.A (do bindName X.env m .none; unbindBehindTheSuite X.env m ph) (fun _ s3 => G s3) X.xe s6 := fun {σ' H' G} I6 g => by
      refine wpAny_bind (wpAny_bindName (store_ok (v := .non) I6 hN hi (.inl hk) rfl (fun s7 I7 => ?_) (.inr hk)))
      have hl : i < σ'.length := by rw [I6.len]; exact (List.getElem?_eq_some_iff.mp hi).1
      refine del_ok (v := .non) I7 hN hi hk (List.getElem?_set_self hl) fun s8 I8 => ?_
      rw [List.set_set] at I8
      exact g s8 I8
    cases f with
    | next => obtain ⟨σ', H', I', q⟩ := q7; exact fin I' fun s8 I8 => ⟨_, H', I8, q⟩
    | brk => obtain ⟨σ', H', I', q⟩ := q7; exact fin I' fun s8 I8 => ⟨_, H', I8, q⟩
    | cont => obtain ⟨σ', H', I', q⟩ := q7; exact fin I' fun s8 I8 => ⟨_, H', I8, q⟩
    | ret v => obtain ⟨z, σ', H', I', r, q⟩ := q7; exact fin I' fun s8 I8 => ⟨z, _, H', I8, r, q⟩
  · cases f with
    | next => exact wpAny_execs_nil q
    | brk => exact q
    | cont => exact q
    | ret v => exact q
end
end L2

namespace Mine
open PySem L2
theorem len1 {us : List Value} (h : us.length = 1) : ∃ a, us = [a] := by
  cases us with
  | nil => cases h
  | cons a r =>
    cases r with
    | nil => exact ⟨a, rfl⟩
    | cons _ _ => cases h
theorem lenS {us : List Value} {n : Nat} (h : us.length = n + 1) : ∃ a r, us = a :: r ∧ r.length = n := by
  cases us with
  | nil => cases h
  | cons a r => exact ⟨a, r, rfl, Nat.succ.inj h⟩
theorem len2 {us : List Value} (h : us.length = 2) : ∃ a b, us = [a, b] := by
  obtain ⟨a, r, rfl, h1⟩ := lenS h
  obtain ⟨b, rfl⟩ := len1 h1
  exact ⟨a, b, rfl⟩
theorem len3 {us : List Value} (h : us.length = 3) : ∃ a b c, us = [a, b, c] := by
  obtain ⟨a, r, rfl, h1⟩ := lenS h
  obtain ⟨b, c, rfl⟩ := len2 h1
  exact ⟨a, b, c, rfl⟩
theorem len4 {us : List Value} (h : us.length = 4) : ∃ a b c d, us = [a, b, c, d] := by
  obtain ⟨a, r, rfl, h1⟩ := lenS h
  obtain ⟨b, c, d, rfl⟩ := len3 h1
  exact ⟨a, b, c, d, rfl⟩
theorem len5 {us : List Value} (h : us.length = 5) : ∃ a b c d e, us = [a, b, c, d, e] := by
  obtain ⟨a, r, rfl, h1⟩ := lenS h
  obtain ⟨b, c, d, e, rfl⟩ := len4 h1
  exact ⟨a, b, c, d, e, rfl⟩
theorem len6 {us : List Value} (h : us.length = 6) : ∃ a b c d e f, us = [a, b, c, d, e, f] := by
  obtain ⟨a, r, rfl, h1⟩ := lenS h
  obtain ⟨b, c, d, e, f, rfl⟩ := len5 h1
  exact ⟨a, b, c, d, e, f, rfl⟩
def top (i : Nat) : Stmt := PySem.Challenge.pw_asktally_k33_rows_that_lead_to_none.main.body.getD i (.Pass ⟨0, 0, 0, 0⟩)
abbrev s_look_helper : Stmt := top 13
abbrev s_l_feed : Stmt := top 15
abbrev s_l_take : Stmt := top 16
abbrev s_l_name : Stmt := top 17
abbrev s_l_some : Stmt := top 18
abbrev s_l_whole : Stmt := top 19
abbrev s_l_any_term : Stmt := top 20
abbrev s_l_any_row : Stmt := top 21
abbrev s_l_led : Stmt := top 22
abbrev s_l_good : Stmt := top 23
abbrev s_l_beyond : Stmt := top 24
abbrev s_l_due : Stmt := top 25
abbrev s_l_right : Stmt := top 26
abbrev s_law : Stmt := top 27
section
variable {P : Program} {w : World} {K : PySem.W.Frag} {mg : Str → Option Value} {base : Heap}
theorem feedB (z : Int) : 0 ≤ z % 2147483646 + 1 ∧ z % 2147483646 + 1 ≤ 2147483646 := by omega
theorem sc_l_feed : FnScope ["_law_script", "_law_k", "_law_cell", "_law_own"] ["_law_script", "_law_k"] (defScope s_l_feed) := ⟨rfl, rfl, rfl, by decide +kernel, rfl, by decide +kernel, by decide +kernel⟩
theorem ok_l_feed {f : Addr} {fd : FuncData} (F : Fun K "_law_feed" "_law_feed" s_l_feed f fd) (hlen : mg "len" = none) : FnOk P w K mg base CX0 1 f fd ["_law_script", "_law_k"] (spFeed K) := by
  refine F.ok sc_l_feed (fun vs H Q E h => ?_) (fun cdv A outer s H vs Q E hr h => ?_)
  · obtain ⟨a, ns, k, rfl, _⟩ := h
    rfl
  obtain ⟨a, ns, k, rfl, hS, h63, k0, k1, q⟩ := h
  refine ⟨_, (pss_cons (ps_set (i := 2) sc_l_feed.nd rfl (Or.inl rfl) (pe_op op_add (pe_op op_mul pe_int (pv 1)) pe_int))
      (pss_cons (ps_if (pt_cmpR op_lt (pv 1) (pe_callB call_len_seq rfl hlen PySem.boot_len (pa_cons (pv 0) pa_nil)) (nomark _)) (pss_one (ps_set (i := 2) sc_l_feed.nd rfl (Or.inl rfl) (pe_ix ix_list (pv 0) (pv 1) (fun _ _ => rfl)))) (pss_one (ps_if (pt_cmpR op_gt (pe_callB call_len_seq rfl hlen PySem.boot_len (pa_cons (pv 0) pa_nil)) pe_int (nomark _)) (pss_one (ps_set (i := 2) sc_l_feed.nd rfl (Or.inl rfl) (pe_op op_add (pe_op op_mul (pe_op op_mod (pe_ix ix_list (pv 0) (pe_op op_mod (pv 1) (pe_callB call_len_seq rfl hlen PySem.boot_len (pa_cons (pv 0) pa_nil))) (fun _ _ => rfl)) pe_int) pe_int) (pe_op op_mul pe_int (pv 1))))) pss_nil)))
      (pss_cons (ps_set (i := 3) sc_l_feed.nd rfl (Or.inl rfl) pe_int)
      (pss_cons (ps_if (pt_cmpR op_ge (pv 2) (pe_op op_pow pe_int pe_int) (nomark _)) (pss_one (ps_set (i := 3) sc_l_feed.nd rfl (Or.inl rfl) (pv 2))) pss_nil)
      (pss_one (ps_ret (pe_lst (pa_cons (pv 3) (pa_cons (pe_op op_add (pe_op op_mod (pe_op op_add (pe_op op_mul (pe_op op_mod (pv 2) pe_int) pe_int) (pe_op op_mul pe_int (pv 1))) pe_int) pe_int) pa_nil))))))))), ?_⟩
  have hl : (ns.map V.int).length = ns.length := List.length_map _
  have hp : (10 : Int) ^ (18 : Int).toNat = 1000000000000000000 := by decide
  refine ⟨_, rfl, _, _, rfl, rfl, .inl ⟨by decide, by decide⟩, _, _, rfl, rfl, ?_⟩
  refine ⟨_, rfl, _, rfl, a, _, rfl, .inl hS, _, _, rfl, rfl, _, rfl, ?_⟩
  refine ite2 (fun c => ?b1) (fun c => ?b2)
  case' b1 =>
    have c' : k < (((ns.map V.int).length : Nat) : Int) := of_decide_eq_true c
    rw [hl] at c'
    obtain ⟨v, hv⟩ := at_int (ns := ns) k0 c'
    refine ⟨_, rfl, _, rfl, a, _, _, _, rfl, rfl, hS, hv, ?_⟩
  case' b2 =>
    refine ⟨_, rfl, a, _, rfl, .inl hS, _, _, rfl, rfl, _, rfl, ?_⟩
    refine ite2 (fun c2 => ?b3) (fun c2 => ?b4)
    case' b3 =>
      have c' : (0 : Int) < (((ns.map V.int).length : Nat) : Int) := of_decide_eq_true c2
      have m0 := Int.emod_nonneg k (b := (((ns.map V.int).length : Nat) : Int)) (by omega)
      have m1 := Int.emod_lt_of_pos k c'
      obtain ⟨v, hv⟩ := at_int (ns := ns) m0 (by rw [hl] at m1 ⊢; exact m1)
      have n0 := Int.emod_nonneg v (b := 2147483629) (by decide)
      have n1 := Int.emod_lt_of_pos v (b := 2147483629) (by decide)
      refine ⟨_, rfl, _, rfl, _, rfl, a, _, rfl, .inl hS, _, _, rfl, rfl, c', a, _, _, _, rfl, rfl, hS, hv, _, _, rfl, rfl, (by show (0 : Int) < _; decide), _, _, rfl, rfl, .inr ⟨by decide, by decide⟩, _, rfl, _, _, rfl, rfl, .inl ⟨by decide, by decide⟩, _, _, rfl, rfl, ?_⟩
  all_goals
    refine ⟨_, rfl, _, _, rfl, rfl, ⟨by decide, by decide, by decide⟩, _, _, rfl, rfl, _, rfl, ?_⟩
    refine ite2 (fun c3 => ?_) (fun c3 => ?_)
    · have c4 := of_decide_eq_true c3
      rw [hp] at c4
      refine ⟨_, rfl, _, rfl, _, rfl, _, _, rfl, rfl, (by show (0 : Int) < _; decide), _, _, rfl, rfl, .inr ⟨by decide, by decide⟩, _, rfl, _, _, rfl, rfl, .inl ⟨by decide, by decide⟩, _, _, rfl, rfl, _, _, rfl, rfl, (by show (0 : Int) < _; decide), _, _, rfl, rfl, (by show 2 ≤ sizeLine; decide), fun p hp => ?_⟩
      refine q p _ hp (Same.new hp _) ⟨_, _, upd_same, Int.le_trans (by decide) c4, (feedB _).1, (feedB _).2⟩
    · refine ⟨_, rfl, _, rfl, _, _, rfl, rfl, (by show (0 : Int) < _; decide), _, _, rfl, rfl, .inr ⟨by decide, by decide⟩, _, rfl, _, _, rfl, rfl, .inl ⟨by decide, by decide⟩, _, _, rfl, rfl, _, _, rfl, rfl, (by show (0 : Int) < _; decide), _, _, rfl, rfl, (by show 2 ≤ sizeLine; decide), fun p hp => ?_⟩
      refine q p _ hp (Same.new hp _) ⟨_, _, upd_same, Int.le_refl 0, (feedB _).1, (feedB _).2⟩
theorem sc_l_take : FnScope ["_law_feed_here", "_law_many", "_law_digit", "_law_one"] ["_law_feed_here", "_law_many"] (defScope s_l_take) := ⟨rfl, rfl, rfl, by decide +kernel, rfl, by decide +kernel, by decide +kernel⟩
theorem ok_l_take {f : Addr} {fd : FuncData} (F : Fun K "_law_take" "_law_take" s_l_take f fd) : FnOk P w K mg base CX0 1 f fd ["_law_feed_here", "_law_many"] spTake := by
  refine F.ok sc_l_take (fun vs H Q E h => ?_) (fun cdv A outer s H vs Q E hr h => ?_)
  · obtain ⟨f, m, rfl, _⟩ := h
    rfl
  obtain ⟨f, m, rfl, ⟨own, st, hf, o0, s0, s1⟩, m0, m1, q⟩ := h
  refine ⟨_, (pss_cons (ps_if (pt_cmpR op_gt (pe_ix ix_list (pv 0) pe_int (fun _ _ => rfl)) pe_int (nomark _)) (pss_cons (ps_set (i := 2) sc_l_take.nd rfl (Or.inl rfl) (pe_op op_mod (pe_ix ix_list (pv 0) pe_int (fun _ _ => rfl)) (pv 1)))
        (pss_cons (ps_asg (pe_op op_fdivL (pe_ix ix_list (pv 0) pe_int (fun _ _ => rfl)) (pv 1)) (pg_sub (pv 0) pe_int set_list))
        (pss_one (ps_ret (pv 2))))) pss_nil)
      (pss_cons (ps_set (i := 3) sc_l_take.nd rfl (Or.inl rfl) (pe_op op_mod (pe_op op_mul (pe_ix ix_list (pv 0) pe_int (fun _ _ => rfl)) pe_int) pe_int))
      (pss_cons (ps_asg (pe_op op_add (pe_op op_mod (pe_op op_add (pe_op op_mul (pv 3) pe_int) pe_int) pe_int) pe_int) (pg_sub (pv 0) pe_int set_list))
      (pss_one (ps_ret (pe_op op_mod (pe_op op_fdiv (pe_op op_add (pe_op op_mul (pv 3) pe_int) (pe_ix ix_list (pv 0) pe_int (fun _ _ => rfl))) pe_int) (pv 1))))))), ?_⟩
  refine ⟨_, rfl, f, _, 0, _, rfl, rfl, SqL.of hf, rfl, _, _, rfl, rfl, _, rfl, ?_⟩
  refine ite2 (fun c => ?_) (fun c => ?_)
  · refine ⟨_, rfl, f, _, 0, _, rfl, rfl, SqL.of hf, rfl, _, rfl, _, _, rfl, rfl, m0, ?_⟩
    refine ⟨_, rfl, f, _, 0, _, rfl, rfl, SqL.of hf, rfl, _, rfl, _, _, rfl, rfl, ⟨m0, m1⟩, _, rfl, f, _, 0, 0, rfl, rfl, hf, rfl, ?_⟩
    refine ⟨_, rfl, ?_⟩
    exact q _ _ (Int.emod_nonneg _ (by omega)) (Int.emod_lt_of_pos _ m0) ⟨_, _, upd_same, Int.ediv_nonneg o0 (by omega), s0, s1⟩ (SameBut.upd _)
  · have a0 := Int.emod_nonneg (st * 69621) (b := 2147483647) (by decide)
    have a1 := Int.emod_lt_of_pos (st * 69621) (b := 2147483647) (by decide)
    refine ⟨_, rfl, f, _, 1, _, rfl, rfl, SqL.of hf, rfl, _, _, rfl, rfl, .inr ⟨by decide, by decide⟩, _, _, rfl, rfl, (by show (0 : Int) < _; decide), ?_⟩
    refine ⟨_, rfl, _, _, rfl, rfl, .inr ⟨by decide, by decide⟩, _, _, rfl, rfl, _, _, rfl, rfl, (by show (0 : Int) < _; decide), _, _, rfl, rfl, _, rfl, f, _, 1, 1, rfl, rfl, hf, rfl, ?_⟩
    have b0 := Int.emod_nonneg (st * 69621 % 2147483647 * 48271 + 30103) (b := 2147483646) (by decide)
    have b1 := Int.emod_lt_of_pos (st * 69621 % 2147483647 * 48271 + 30103) (b := 2147483646) (by decide)
    refine ⟨_, rfl, _, _, rfl, rfl, .inr ⟨by decide, by decide⟩, _, rfl, f, _, 1, _, rfl, rfl, SqL.of upd_same, rfl, _, _, rfl, rfl, _, _, rfl, rfl, ⟨by decide, by decide⟩, _, rfl, _, _, rfl, rfl, m0, ?_⟩
    exact q _ _ (Int.emod_nonneg _ (by omega)) (Int.emod_lt_of_pos _ m0) ⟨_, _, upd_same, o0, by omega, by omega⟩ (SameBut.upd _)
def kept : List Str := ["yes", "no", "not", "and", "or", "odd", "same", "round", "due", "asked", "true", "coin"]
def NmK (x : Str) : Prop := (∀ c ∈ x.cps.toList, 97 ≤ c ∧ c ≤ 122) ∧ 1 ≤ x.length ∧ x.length ≤ 6 ∧ x ∉ kept
theorem feed_upd {H : Hp} {f p : Addr} {o : HO} (F : FeedAt H f) (h : p ≠ f) : FeedAt (upd H p o) f := by
  obtain ⟨x, t, e, r⟩ := F
  exact ⟨x, t, by rw [upd_ne (Ne.symm h)]; exact e, r⟩
theorem at0 (x : V) (xs : List V) : atI (x :: xs) 0 = some x := atI_nat (j := 0) rfl
theorem at1 (x y : V) (xs : List V) : atI (x :: y :: xs) 1 = some y := atI_nat (j := 1) rfl
theorem at2 (x y z : V) (xs : List V) : atI (x :: y :: z :: xs) 2 = some z := atI_nat (j := 2) rfl
/-! ### terms of helpers -/
inductive Tm where
  | num (n : Int) | box (x : Str) | plain (w : Str) | ask (w : Str) (a : Tm) | op (s : Str) (a b : Tm)
def Tm.size : Tm → Nat
  | .num _ => 1 | .box _ => 1 | .plain _ => 1 | .ask _ a => a.size + 1 | .op _ a b => a.size + b.size + 1
def Tm.depth : Tm → Nat
  | .num _ => 1 | .box _ => 1 | .plain _ => 1 | .ask _ a => a.depth + 1 | .op _ a b => max a.depth b.depth + 1
def plainW : List Str := ["round", "due", "asked"]
def askW : List Str := ["coin", "true"]
def signW : List Str := ["+", "-", "*", "/", "=", "<"]
def Tm.ok : Tm → Prop
  | .num n => 0 ≤ n ∧ n < 1000000000000 | .box x => NmK x | .plain w => w ∈ plainW | .ask w a => w ∈ askW ∧ a.ok | .op s a b => s ∈ signW ∧ a.ok ∧ b.ok
inductive TmAt (H : Hp) : V → Tm → Prop
  | num {a : Addr} {n : Int} : H a = some (.tup [.str "num", .int n]) → TmAt H (.ref a) (.num n)
  | box {a : Addr} {x : Str} : H a = some (.tup [.str "box", .str x]) → TmAt H (.ref a) (.box x)
  | plain {a : Addr} {w : Str} : H a = some (.tup [.str w]) → TmAt H (.ref a) (.plain w)
  | ask {a : Addr} {w : Str} {v : V} {t : Tm} : H a = some (.tup [.str w, v]) → TmAt H v t → TmAt H (.ref a) (.ask w t)
  | op {a : Addr} {s : Str} {v u : V} {t r : Tm} : H a = some (.tup [.str "op", .str s, v, u]) → TmAt H v t → TmAt H u r → TmAt H (.ref a) (.op s t r)
theorem TmAt.mono {H H' : Hp} (k : KeepT H H') {v : V} {t : Tm} (h : TmAt H v t) : TmAt H' v t := by
  induction h with
  | num e => exact .num (k _ _ e)
  | box e => exact .box (k _ _ e)
  | plain e => exact .plain (k _ _ e)
  | ask e _ ih => exact .ask (k _ _ e) ih
  | op e _ _ i1 i2 => exact .op (k _ _ e) i1 i2
structure Bl (mg : Str → Option Value) : Prop where
  len : mg "len" = none
  range : mg "range" = none
  isinstance : mg "isinstance" = none
  int : mg "int" = none
  bool : mg "bool" = none
  list : mg "list" = none
  tuple : mg "tuple" = none
  str : mg "str" = none
  all : mg "all" = none
  zip : mg "zip" = none
  enumerate : mg "enumerate" = none
theorem atI_mem {ns : List Int} {k : Int} (h0 : 0 ≤ k) (h : k < (ns.length : Int)) : ∃ v : Int, atI (ns.map V.int) k = some (.int v) ∧ v ∈ ns := by
  have hk : k.toNat < ns.length := by omega
  have q : atI (ns.map V.int) ((k.toNat : Nat) : Int) = some (.int ns[k.toNat]) := atI_nat (by rw [List.getElem?_map, List.getElem?_eq_getElem hk] <;> rfl)
  have ek : ((k.toNat : Nat) : Int) = k := by omega
  rw [ek] at q
  exact ⟨_, q, List.getElem_mem hk⟩
def spSome : Sp := fun vs H Q _ => ∃ (f b : Addr) (bs : List Str), vs = [.ref f, .ref b] ∧ FeedAt H f ∧ H b = some (.lst (bs.map V.str)) ∧ b ≠ f ∧ 1 ≤ bs.length ∧ bs.length ≤ 100 ∧ ∀ (x : Str) (H' : Hp), x ∈ bs → FeedAt H' f → SameBut f H H' → Q (.str x) H'
theorem sc_l_some : FnScope ["_law_feed_here", "_law_pool"] ["_law_feed_here", "_law_pool"] (defScope s_l_some) := ⟨rfl, rfl, rfl, by decide +kernel, rfl, by decide +kernel, by decide +kernel⟩
theorem ok_l_some {f : Addr} {fd : FuncData} (F : Fun K "_law_some" "_law_some" s_l_some f fd) (B : Bl mg) (C_l_take : Cal P w K mg base 1 "_law_take" ["_law_feed_here", "_law_many"] spTake) : FnOk P w K mg base CX0 2 f fd ["_law_feed_here", "_law_pool"] spSome := by
  refine F.ok sc_l_some (fun vs H Q E h => ?_) (fun cdv A outer s H vs Q E hr h => ?_)
  · obtain ⟨f, b, bs, rfl, _⟩ := h
    rfl
  obtain ⟨f, b, bs, rfl, F0, hb, nb, b1, b2, q⟩ := h
  refine ⟨_, (pss_one (ps_ret (pe_ix ix_list (pv 1) (pe_cal C_l_take hr (by decide) rfl (pa_cons (pv 0) (pa_cons (pe_callB call_len_seq rfl B.len PySem.boot_len (pa_cons (pv 1) pa_nil)) pa_nil))) (fun _ _ => rfl)))), ?_⟩
  have bl : (bs.map V.str).length = bs.length := List.length_map _
  refine ⟨_, rfl, _, rfl, _, rfl, b, _, rfl, .inl (SqL.of hb), f, _, rfl, F0, by omega, by omega, fun d H1 d0 d1 F1 B1 => ?_⟩
  rw [bl] at d1
  obtain ⟨v, hv, vm⟩ := at_in (l := bs.map V.str) (i := d) d0 (by rw [bl]; exact d1)
  obtain ⟨x, hx, rfl⟩ := List.mem_map.mp vm
  exact ⟨b, _, _, _, rfl, rfl, SqL.of (B1 _ _ nb hb), hv, q x H1 hx F1 B1⟩
def spWhole : Sp := fun vs H Q _ => ∃ (f : Addr), vs = [.ref f] ∧ FeedAt H f ∧ ∀ (n : Int) (H' : Hp), 0 ≤ n → n < 1000000000000 → FeedAt H' f → SameBut f H H' → Q (.int n) H'
theorem sc_l_whole : FnScope ["_law_feed_here", "_law_form", "_law_some_here"] ["_law_feed_here"] (defScope s_l_whole) := ⟨rfl, rfl, rfl, by decide +kernel, rfl, by decide +kernel, by decide +kernel⟩
theorem ok_l_whole {f : Addr} {fd : FuncData} (F : Fun K "_law_whole" "_law_whole" s_l_whole f fd) (C_l_take : Cal P w K mg base 1 "_law_take" ["_law_feed_here", "_law_many"] spTake) : FnOk P w K mg base CX0 2 f fd ["_law_feed_here"] spWhole := by
  refine F.ok sc_l_whole (fun vs H Q E h => ?_) (fun cdv A outer s H vs Q E hr h => ?_)
  · obtain ⟨f, rfl, _⟩ := h
    rfl
  obtain ⟨f, rfl, F0, q⟩ := h
  refine ⟨_, (pss_cons (ps_set (i := 1) sc_l_whole.nd rfl (Or.inl rfl) (pe_cal C_l_take hr (by decide) rfl (pa_cons (pv 0) (pa_cons pe_int pa_nil))))
      (pss_cons (ps_set (i := 2) sc_l_whole.nd rfl (Or.inl rfl) (pe_lst (pa_cons (pe_cal C_l_take hr (by decide) rfl (pa_cons (pv 0) (pa_cons pe_int pa_nil))) (pa_cons (pe_op op_sub (pe_op op_sub (pe_op op_pow pe_int pe_int) pe_int) (pe_cal C_l_take hr (by decide) rfl (pa_cons (pv 0) (pa_cons pe_int pa_nil)))) (pa_cons (pe_cal C_l_take hr (by decide) rfl (pa_cons (pv 0) (pa_cons (pe_op op_pow pe_int pe_int) pa_nil))) pa_nil)))))
      (pss_one (ps_ret (pe_ix ix_list (pe_op op_cat (pv 2) (pe_lst (pa_cons (pe_cal C_l_take hr (by decide) rfl (pa_cons (pv 0) (pa_cons pe_int pa_nil))) pa_nil))) (pv 1) (fun _ _ => rfl)))))), ?_⟩
  have hp12 : (10 : Int) ^ (12 : Int).toNat = 1000000000000 := by decide
  refine ⟨_, rfl, f, 4, rfl, F0, by decide, by decide, fun fm H1 m0 m1 F1 B1 => ?_⟩
  refine ⟨_, rfl, f, 12, rfl, F1, by decide, by decide, fun d1 H2 a0 a1 F2 B2 => ?_⟩
  refine ⟨_, _, rfl, rfl, ⟨by decide, by decide, by decide⟩, _, _, rfl, rfl, _, rfl, f, 5, rfl, F2, by decide, by decide, fun d2 H3 b0 b1 F3 B3 => ?_⟩
  refine ⟨_, _, rfl, rfl, _, rfl, _, _, rfl, rfl, ⟨by decide, by decide, by decide⟩, f, _, rfl, F3, (by show (0 : Int) < 10 ^ (12 : Int).toNat; rw [hp12]; decide), (by show (10 : Int) ^ (12 : Int).toNat < 2 ^ 63; rw [hp12]; decide), fun d3 H4 c0 c1 F4 B4 => ?_⟩
  rw [hp12] at c1
  refine ⟨(by show 3 ≤ sizeLine; decide), fun L hL => ?_⟩
  have GL := Same.new hL (.lst ([d1, (10 : Int) ^ (12 : Int).toNat - 1 - d2, d3].map V.int))
  have eL : upd H4 L (.lst ([d1, (10 : Int) ^ (12 : Int).toNat - 1 - d2, d3].map V.int)) L = some (.lst ([d1, (10 : Int) ^ (12 : Int).toNat - 1 - d2, d3].map V.int)) := upd_same
  have Lf := F4.ne hL
  refine ⟨_, rfl, _, rfl, f, 999, rfl, F4.same GL, by decide, by decide, fun d4 H5 e0 e1 F5 B5 => ?_⟩
  have eL5 := B5 _ _ Lf eL
  refine ⟨(by show 1 ≤ sizeLine; decide), fun L1 hL1 => ?_⟩
  have G1 := Same.new hL1 (.lst [.int d4])
  refine ⟨L, L1, _, _, rfl, rfl, G1 _ _ eL5, upd_same, (by show 4 ≤ sizeLine; decide), fun L2 hL2 => ?_⟩
  have G2 := Same.new hL2 (.lst ([d1, (10 : Int) ^ (12 : Int).toNat - 1 - d2, d3].map V.int ++ [.int d4]))
  have e2 : upd (upd H5 L1 (.lst [.int d4])) L2 (.lst ([d1, (10 : Int) ^ (12 : Int).toNat - 1 - d2, d3].map V.int ++ [.int d4])) L2 = some (.lst ([d1, (10 : Int) ^ (12 : Int).toNat - 1 - d2, d3, d4].map V.int)) := upd_same
  obtain ⟨v, hv, vm⟩ := atI_mem (ns := [d1, (10 : Int) ^ (12 : Int).toNat - 1 - d2, d3, d4]) m0 m1
  have vr : 0 ≤ v ∧ v < 1000000000000 := by
    rw [hp12] at vm
    simp only [List.mem_cons, List.not_mem_nil, or_false] at vm
    omega
  refine ⟨_, rfl, L2, _, _, _, rfl, rfl, SqL.of e2, hv, ?_⟩
  exact q v _ vr.1 vr.2 (F5.same (G1.trans G2)) (B1.trans (B2.trans (B3.trans (B4.trans ((SameBut.of GL).trans (B5.trans (SameBut.of (G1.trans G2))))))))
def Boxes (bs : List Str) : Prop := 1 ≤ bs.length ∧ bs.length ≤ 100 ∧ ∀ x ∈ bs, NmK x
def spTerm (n : Nat) : Sp := fun vs H Q _ => ∃ (f b : Addr) (bs : List Str) (room deep : Int), vs = [.ref f, .ref b, .int room, .int deep] ∧ FeedAt H f ∧ H b = some (.lst (bs.map V.str)) ∧ b ≠ f ∧ Boxes bs ∧ 1 ≤ room ∧ room ≤ 100 ∧ 1 ≤ deep ∧ deep ≤ (n : Int) ∧
  ∀ (v : V) (t : Tm) (H' : Hp), TmAt H' v t → t.ok → (t.size : Int) ≤ room → (t.depth : Int) ≤ deep → FeedAt H' f → SameBut f H H' → Q v H'
theorem sc_l_any_term : FnScope ["_law_feed_here", "_law_boxes", "_law_room", "_law_deep", "_law_form", "_law_plain", "_law_more", "_law_one"] ["_law_feed_here", "_law_boxes", "_law_room", "_law_deep"] (defScope s_l_any_term) := ⟨rfl, rfl, rfl, by decide +kernel, rfl, by decide +kernel, by decide +kernel⟩
theorem sign_of : ∀ c ∈ (("+-*/=<" : Str)).cps.toList, (⟨#[c]⟩ : Str) ∈ signW := by decide +kernel
theorem sign_len : (("+-*/=<" : Str)).cps.toList.length = 6 := by decide +kernel
theorem at_three {a b c : V} {i : Int} (h0 : 0 ≤ i) (h : i < 3) : (i = 0 ∧ atI [a, b, c] i = some a) ∨ (i = 1 ∧ atI [a, b, c] i = some b) ∨ (i = 2 ∧ atI [a, b, c] i = some c) := by
  have : i = 0 ∨ i = 1 ∨ i = 2 := by omega
  rcases this with rfl | rfl | rfl
  · exact .inl ⟨rfl, at0 ..⟩
  · exact .inr (.inl ⟨rfl, at1 ..⟩)
  · exact .inr (.inr ⟨rfl, at2 ..⟩)
theorem SameBut.new {H H' : Hp} {f p : Addr} {o : HO} (s : SameBut f H H') (h : H' p = none) : SameBut f H (upd H' p o) := s.trans (SameBut.of (Same.new h o))
theorem an_step {n : Nat} {f : Addr} {fd : FuncData} (F : Fun K "_law_any_term" "_law_any_term" s_l_any_term f fd) (C_l_take : Cal P w K mg base 1 "_law_take" ["_law_feed_here", "_law_many"] spTake) (C_l_some : Cal P w K mg base 2 "_law_some" ["_law_feed_here", "_law_pool"] spSome) (C_l_whole : Cal P w K mg base 2 "_law_whole" ["_law_feed_here"] spWhole) (C_l_any_term : Cal P w K mg base (n + 3) "_law_any_term" ["_law_feed_here", "_law_boxes", "_law_room", "_law_deep"] (spTerm n)) : FnOk P w K mg base CX0 (n + 4) f fd ["_law_feed_here", "_law_boxes", "_law_room", "_law_deep"] (spTerm (n + 1)) := by
  refine F.ok sc_l_any_term (fun vs H Q E h => ?_) (fun cdv A outer s H vs Q E hr h => ?_)
  · obtain ⟨f, b, bs, room, deep, rfl, _⟩ := h
    rfl
  obtain ⟨f, b, bs, room, deep, rfl, F0, hb, nb, bx, r1, r2, d1, d2, q⟩ := h
  refine ⟨_, (pss_cons (ps_set (i := 4) sc_l_any_term.nd rfl (Or.inl rfl) (pe_cal C_l_take hr (by omega) rfl (pa_cons (pv 0) (pa_cons pe_int pa_nil))))
      (pss_cons (ps_if (PW.pt (pw_or (pt_cmpR op_lt (pv 2) pe_int (nomark _)) (pw_or (pt_cmpR op_lt (pv 3) pe_int (nomark _)) (pw_or1 (pt_cmpR op_lt (pv 4) pe_int (nomark _)))))) (pss_cons (ps_set (i := 5) sc_l_any_term.nd rfl (Or.inl rfl) (pe_ix ix_list (pe_lst (pa_cons (pe_tup (pa_cons pe_str pa_nil)) (pa_cons (pe_tup (pa_cons pe_str pa_nil)) (pa_cons (pe_tup (pa_cons pe_str pa_nil)) pa_nil)))) (pe_cal C_l_take hr (by omega) rfl (pa_cons (pv 0) (pa_cons pe_int pa_nil))) (fun _ _ => rfl)))
        (pss_one (ps_ret (pe_ix ix_list (pe_lst (pa_cons (pe_tup (pa_cons pe_str (pa_cons (pe_cal C_l_whole hr (by omega) rfl (pa_cons (pv 0) pa_nil)) pa_nil))) (pa_cons (pe_tup (pa_cons pe_str (pa_cons (pe_cal C_l_some hr (by omega) rfl (pa_cons (pv 0) (pa_cons (pv 1) pa_nil))) pa_nil))) (pa_cons (pv 5) pa_nil)))) (pe_op op_mod (pv 4) pe_int) (fun _ _ => rfl))))) pss_nil)
      (pss_cons (ps_if (PW.pt (pw_or (pt_cmpR op_lt (pv 4) pe_int (nomark _)) (pw_or1 (pt_cmpR op_lt (pv 2) pe_int (nomark _))))) (pss_one (ps_ret (pe_tup (pa_cons (pe_ix ix_list (pe_lst (pa_cons pe_str (pa_cons pe_str pa_nil))) (pe_op op_mod (pv 4) pe_int) (fun _ _ => rfl)) (pa_cons (pe_cal C_l_any_term hr (Nat.le_refl _) rfl (pa_cons (pv 0) (pa_cons (pv 1) (pa_cons (pe_op op_sub (pv 2) pe_int) (pa_cons (pe_op op_sub (pv 3) pe_int) pa_nil))))) pa_nil))))) pss_nil)
      (pss_cons (ps_set (i := 6) sc_l_any_term.nd rfl (Or.inl rfl) (pe_op op_add pe_int (pe_cal C_l_take hr (by omega) rfl (pa_cons (pv 0) (pa_cons (pe_op op_sub (pv 2) pe_int) pa_nil)))))
      (pss_cons (ps_set (i := 7) sc_l_any_term.nd rfl (Or.inl rfl) (pe_cal C_l_any_term hr (Nat.le_refl _) rfl (pa_cons (pv 0) (pa_cons (pv 1) (pa_cons (pv 6) (pa_cons (pe_op op_sub (pv 3) pe_int) pa_nil))))))
      (pss_one (ps_ret (pe_tup (pa_cons pe_str (pa_cons (pe_ix ix_str pe_str (pe_cal C_l_take hr (by omega) rfl (pa_cons (pv 0) (pa_cons pe_int pa_nil))) (fun _ _ => rfl)) (pa_cons (pv 7) (pa_cons (pe_cal C_l_any_term hr (Nat.le_refl _) rfl (pa_cons (pv 0) (pa_cons (pv 1) (pa_cons (pe_op op_sub (pe_op op_sub (pv 2) pe_int) (pv 6)) (pa_cons (pe_op op_sub (pv 3) pe_int) pa_nil))))) pa_nil)))))))))))), ?_⟩
  refine ⟨_, rfl, f, 9, rfl, F0, by decide, by decide, fun fm H1 m0 m9 F1 B1 => ?_⟩
  have hb1 := B1 _ _ nb hb
  by_cases cc : room < 2 ∨ deep < 2 ∨ fm < 3
  · -- a leaf
    refine ⟨_, rfl, _, _, rfl, rfl, _, rfl, ?_⟩
    refine ite2 (fun _ => ?b1) (fun c1 => ?b2)
    case' b2 =>
      have c1' : ¬ room < 2 := by simpa using c1
      refine ⟨_, rfl, _, _, rfl, rfl, _, rfl, ?_⟩
      refine ite2 (fun _ => ?b3) (fun c2 => ?b4)
      case' b4 =>
        have c2' : ¬ deep < 2 := by simpa using c2
        refine ⟨_, rfl, _, _, rfl, rfl, _, rfl, ?_⟩
        refine iteD (by omega) ?_
    all_goals
      try refine iteT ?_
      refine ⟨(by show 1 ≤ sizeLine; decide), fun p1 hp1 => ?_⟩
      have g1 := Same.new hp1 (.tup [.str "round"])
      have e1 : upd H1 p1 (.tup [.str "round"]) p1 = some (.tup [.str "round"]) := upd_same
      refine ⟨(by show 1 ≤ sizeLine; decide), fun p2 hp2 => ?_⟩
      have g2 := Same.new hp2 (.tup [.str "due"])
      have e2 : upd (upd H1 p1 (.tup [.str "round"])) p2 (.tup [.str "due"]) p2 = some (.tup [.str "due"]) := upd_same
      refine ⟨(by show 1 ≤ sizeLine; decide), fun p3 hp3 => ?_⟩
      have g3 := Same.new hp3 (.tup [.str "asked"])
      have e3 : upd (upd (upd H1 p1 (.tup [.str "round"])) p2 (.tup [.str "due"])) p3 (.tup [.str "asked"]) p3 = some (.tup [.str "asked"]) := upd_same
      have S13 := g1.trans (g2.trans g3)
      have e1' := g3 _ _ (g2 _ _ e1)
      have e2' := g3 _ _ e2
      generalize upd (upd (upd H1 p1 (.tup [.str "round"])) p2 (.tup [.str "due"])) p3 (.tup [.str "asked"]) = H2 at S13 e1' e2' e3
      refine ⟨(by show 3 ≤ sizeLine; decide), fun L hL => ?_⟩
      have gL := Same.new hL (.lst [.ref p1, .ref p2, .ref p3])
      have eL : upd H2 L (.lst [.ref p1, .ref p2, .ref p3]) L = some (.lst [.ref p1, .ref p2, .ref p3]) := upd_same
      have S14 := S13.trans gL
      have F3 := F1.same S14
      have Lf : L ≠ f := (F1.same S13).ne hL
      refine ⟨_, rfl, f, 3, rfl, F3, by decide, by decide, fun d3 H4 a0 a3 F4 B4 => ?_⟩
      have eL4 := B4 _ _ Lf eL
      have pl : ∃ (p : Addr) (w : Str), w ∈ plainW ∧ atI [V.ref p1, .ref p2, .ref p3] d3 = some (.ref p) ∧ H4 p = some (.tup [.str w]) := by
        have kf := keepT_feed F3 B4
        rcases at_three (a := V.ref p1) (b := .ref p2) (c := .ref p3) a0 a3 with ⟨_, h⟩ | ⟨_, h⟩ | ⟨_, h⟩
        · exact ⟨p1, "round", by decide +kernel, h, kf _ _ (gL _ _ e1')⟩
        · exact ⟨p2, "due", by decide +kernel, h, kf _ _ (gL _ _ e2')⟩
        · exact ⟨p3, "asked", by decide +kernel, h, kf _ _ (gL _ _ e3)⟩
      obtain ⟨p, pw, pwm, hp, ep⟩ := pl
      refine ⟨L, _, _, _, rfl, rfl, SqL.of eL4, hp, ?_⟩
      have B14 : SameBut f H H4 := B1.trans ((SameBut.of S14).trans B4)
      refine ⟨_, rfl, f, rfl, F4, fun wn H5 w0 w1 F5 B5 => ?_⟩
      have ep5 := keepT_feed F4 B5 _ _ ep
      refine ⟨(by show 2 ≤ sizeLine; decide), fun t1 ht1 => ?_⟩
      have gt1 := Same.new ht1 (.tup [.str "num", .int wn])
      have et1 : upd H5 t1 (.tup [.str "num", .int wn]) t1 = some (.tup [.str "num", .int wn]) := upd_same
      have hb5 := gt1 _ _ (B5 _ _ nb (B14 _ _ nb hb))
      refine ⟨_, rfl, _, rfl, f, b, bs, rfl, F5.same gt1, hb5, nb, bx.1, bx.2.1, fun x H6 xm F6 B6 => ?_⟩
      have k6 := keepT_feed (F5.same gt1) B6
      refine ⟨(by show 2 ≤ sizeLine; decide), fun t2 ht2 => ?_⟩
      have gt2 := Same.new ht2 (.tup [.str "box", .str x])
      have et2 : upd H6 t2 (.tup [.str "box", .str x]) t2 = some (.tup [.str "box", .str x]) := upd_same
      refine ⟨_, rfl, (by show 3 ≤ sizeLine; decide), fun L2 hL2 => ?_⟩
      have gL2 := Same.new hL2 (.lst [.ref t1, .ref t2, .ref p])
      have B16 : SameBut f H (upd (upd H6 t2 (.tup [.str "box", .str x])) L2 (.lst [.ref t1, .ref t2, .ref p])) := B14.trans (B5.trans ((SameBut.of gt1).trans (B6.trans (SameBut.of (gt2.trans gL2)))))
      have F16 := F6.same (gt2.trans gL2)
      refine ⟨_, rfl, _, _, rfl, rfl, (by show (0 : Int) < 3; decide), ?_⟩
      have m3 := Int.emod_nonneg fm (show (3 : Int) ≠ 0 by decide)
      have m4 := Int.emod_lt_of_pos fm (show (0 : Int) < 3 by decide)
      have one : ((1 : Nat) : Int) ≤ room ∧ ((1 : Nat) : Int) ≤ deep := ⟨by omega, by omega⟩
      rcases at_three (a := V.ref t1) (b := .ref t2) (c := .ref p) m3 m4 with ⟨_, h⟩ | ⟨_, h⟩ | ⟨_, h⟩
      · exact ⟨L2, _, _, _, rfl, rfl, SqL.of upd_same, h, q _ (.num wn) _ (.num (gL2 _ _ (gt2 _ _ (k6 _ _ et1)))) ⟨w0, w1⟩ one.1 one.2 F16 B16⟩
      · exact ⟨L2, _, _, _, rfl, rfl, SqL.of upd_same, h, q _ (.box x) _ (.box (gL2 _ _ et2)) (bx.2.2 x xm) one.1 one.2 F16 B16⟩
      · exact ⟨L2, _, _, _, rfl, rfl, SqL.of upd_same, h, q _ (.plain pw) _ (.plain (gL2 _ _ (gt2 _ _ (k6 _ _ (gt1 _ _ ep5))))) pwm one.1 one.2 F16 B16⟩
  · have c1 : ¬ room < 2 := fun z => cc (.inl z)
    have c2 : ¬ deep < 2 := fun z => cc (.inr (.inl z))
    have c3 : ¬ fm < 3 := fun z => cc (.inr (.inr z))
    refine ⟨_, rfl, _, _, rfl, rfl, _, rfl, ?_⟩
    refine iteDF c1 ?_
    refine ⟨_, rfl, _, _, rfl, rfl, _, rfl, ?_⟩
    refine iteDF c2 ?_
    refine ⟨_, rfl, _, _, rfl, rfl, _, rfl, ?_⟩
    refine iteDF c3 ?_
    by_cases cd : fm < 5 ∨ room < 3
    · refine ⟨_, rfl, _, _, rfl, rfl, _, rfl, ?_⟩
      refine ite2 (fun _ => ?k1) (fun e1 => ?k2)
      case' k2 =>
        have e1' : ¬ fm < 5 := by simpa using e1
        refine ⟨_, rfl, _, _, rfl, rfl, _, rfl, ?_⟩
        refine iteD (by omega) ?_
      all_goals
        try refine iteT ?_
        refine ⟨(by show 2 ≤ sizeLine; decide), fun L hL => ?_⟩
        have gL := Same.new hL (.lst [.str "coin", .str "true"])
        have F2 := F1.same gL
        have m3 := Int.emod_nonneg fm (show (2 : Int) ≠ 0 by decide)
        have m4 := Int.emod_lt_of_pos fm (show (0 : Int) < 2 by decide)
        have aw : ∃ aw : Str, aw ∈ askW ∧ atI [V.str "coin", .str "true"] (fm % 2) = some (.str aw) := by
          have : fm % 2 = 0 ∨ fm % 2 = 1 := by omega
          rcases this with h | h
          · exact ⟨"coin", by decide +kernel, by rw [h]; exact at0 ..⟩
          · exact ⟨"true", by decide +kernel, by rw [h]; exact at1 ..⟩
        obtain ⟨aw, awm, haw⟩ := aw
        refine ⟨_, rfl, _, _, rfl, rfl, (by show (0 : Int) < 2; decide), L, _, _, _, rfl, rfl, SqL.of upd_same, haw, ?_⟩
        refine ⟨_, rfl, _, rfl, _, rfl, _, _, rfl, rfl, _, rfl, _, _, rfl, rfl, f, b, bs, room - 1, deep - 1, rfl, F2, gL _ _ hb1, nb, bx, by omega, by omega, by omega, by omega, fun v t H3 T3 ok3 sz3 dp3 F3 B3 => ?_⟩
        refine ⟨(by show 2 ≤ sizeLine; decide), fun p hp => ?_⟩
        have gp := Same.new hp (.tup [.str aw, v])
        have es : ((Tm.ask aw t).size : Int) = (t.size : Int) + 1 := by show ((t.size + 1 : Nat) : Int) = _; omega
        have ed : ((Tm.ask aw t).depth : Int) = (t.depth : Int) + 1 := by show ((t.depth + 1 : Nat) : Int) = _; omega
        exact q _ (.ask aw t) _ (.ask upd_same (T3.mono (keepT_same gp))) ⟨awm, ok3⟩ (by omega) (by omega) (F3.same gp) (B1.trans ((SameBut.of gL).trans (B3.trans (SameBut.of gp))))
    · have f5 : ¬ fm < 5 := fun z => cd (.inl z)
      have r3 : ¬ room < 3 := fun z => cd (.inr z)
      refine ⟨_, rfl, _, _, rfl, rfl, _, rfl, ?_⟩
      refine iteDF f5 ?_
      refine ⟨_, rfl, _, _, rfl, rfl, _, rfl, ?_⟩
      refine iteDF r3 ?_
      refine ⟨_, rfl, _, rfl, _, _, rfl, rfl, f, room - 2, rfl, F1, by omega, by omega, fun d3 H2 a0 a1 F2 B2 => ?_⟩
      refine ⟨_, _, rfl, rfl, ?_⟩
      have hb2 := B2 _ _ nb hb1
      refine ⟨_, rfl, _, rfl, _, rfl, _, rfl, _, _, rfl, rfl, f, b, bs, 1 + d3, deep - 1, rfl, F2, hb2, nb, bx, by omega, by omega, by omega, by omega, fun v1 t1 H3 T1 ok1 sz1 dp1 F3 B3 => ?_⟩
      have hb3 := B3 _ _ nb hb2
      refine ⟨_, rfl, f, 6, rfl, F3, by decide, by decide, fun d4 H4 g0 g1 F4 B4 => ?_⟩
      obtain ⟨c, hc, hm⟩ := at_in (l := (("+-*/=<" : Str)).cps.toList) (i := d4) g0 (by rw [sign_len]; exact g1)
      have hb4 := B4 _ _ nb hb3
      refine ⟨_, _, _, rfl, rfl, small (by decide +kernel), hc, _, rfl, ?_⟩
      refine ⟨_, rfl, _, rfl, _, rfl, _, _, rfl, rfl, _, rfl, _, _, rfl, rfl, _, rfl, _, _, rfl, rfl, f, b, bs, room - 1 - (1 + d3), deep - 1, rfl, F4, hb4, nb, bx, by omega, by omega, by omega, by omega, fun v2 t2 H5 T2 ok2 sz2 dp2 F5 B5 => ?_⟩
      have k35 : KeepT H3 H5 := fun a ys e => keepT_feed F4 B5 _ _ (keepT_feed F3 B4 _ _ e)
      refine ⟨(by show 4 ≤ sizeLine; decide), fun p hp => ?_⟩
      have gp := Same.new hp (.tup [.str "op", .str ⟨#[c]⟩, v1, v2])
      have es : ((Tm.op ⟨#[c]⟩ t1 t2).size : Int) = (t1.size : Int) + (t2.size : Int) + 1 := by show ((t1.size + t2.size + 1 : Nat) : Int) = _; omega
      have ed : ((Tm.op ⟨#[c]⟩ t1 t2).depth : Int) ≤ deep := by
        show ((max t1.depth t2.depth + 1 : Nat) : Int) ≤ deep
        omega
      exact q _ (.op ⟨#[c]⟩ t1 t2) _ (.op upd_same ((T1.mono k35).mono (keepT_same gp)) (T2.mono (keepT_same gp))) ⟨sign_of c hm, ok1, ok2⟩ (by omega) ed (F5.same gp) (B1.trans (B2.trans (B3.trans (B4.trans (B5.trans (SameBut.of gp))))))
theorem an_zero {f : Addr} {fd : FuncData} : FnOk P w K mg base CX0 3 f fd ["_law_feed_here", "_law_boxes", "_law_room", "_law_deep"] (spTerm 0) := by
  have no : ∀ vs H Q E, ¬ spTerm 0 vs H Q E := fun vs H Q E h => by
    obtain ⟨_, _, _, _, _, _, _, _, _, _, _, _, h1, h2, _⟩ := h
    omega
  exact ⟨fun vs H Q E h => absurd h (no vs H Q E), fun A outer s H args us vs Q E _ _ _ _ h => absurd h (no vs H Q E)⟩
theorem ok_l_any_term {f : Addr} {fd : FuncData} (F : Fun K "_law_any_term" "_law_any_term" s_l_any_term f fd) (m : mg "_law_any_term" = some (.ref f)) (C_l_take : Cal P w K mg base 1 "_law_take" ["_law_feed_here", "_law_many"] spTake) (C_l_some : Cal P w K mg base 2 "_law_some" ["_law_feed_here", "_law_pool"] spSome) (C_l_whole : Cal P w K mg base 2 "_law_whole" ["_law_feed_here"] spWhole) :
    ∀ n : Nat, FnOk P w K mg base CX0 (n + 3) f fd ["_law_feed_here", "_law_boxes", "_law_room", "_law_deep"] (spTerm n)
  | 0 => an_zero
  | n + 1 => an_step F C_l_take C_l_some C_l_whole (Cal.of F (ok_l_any_term F m C_l_take C_l_some C_l_whole n) m (fun _ _ _ _ _ _ us hl => by obtain ⟨u0, u1, u2, u3, rfl⟩ := len4 hl; rfl))
/-! ### rows of helpers -/
inductive Hr where
  | fin | go (n : Int) | iff (t : Tm) (n : Int) | set (x : Str) (t : Tm) | say (t : Tm)
def Tm.fit (m : Nat) (t : Tm) : Prop := t.ok ∧ t.size ≤ m ∧ t.depth ≤ 8
def Hr.ok (m : Nat) : Hr → Prop
  | .fin => True | .go n => 0 ≤ n ∧ n < 1000000000000 | .iff t n => t.fit m ∧ 0 ≤ n ∧ n < 1000000000000 | .set x t => NmK x ∧ t.fit m | .say t => t.fit m
inductive HrAt (H : Hp) : V → Hr → Prop
  | fin {a : Addr} : H a = some (.tup [.str "end"]) → HrAt H (.ref a) .fin
  | go {a : Addr} {n : Int} : H a = some (.tup [.str "go", .int n]) → HrAt H (.ref a) (.go n)
  | iff {a : Addr} {v : V} {t : Tm} {n : Int} : H a = some (.tup [.str "if", v, .int n]) → TmAt H v t → HrAt H (.ref a) (.iff t n)
  | set {a : Addr} {x : Str} {v : V} {t : Tm} : H a = some (.tup [.str "set", .str x, v]) → TmAt H v t → HrAt H (.ref a) (.set x t)
  | say {a : Addr} {v : V} {t : Tm} : H a = some (.tup [.str "say", v]) → TmAt H v t → HrAt H (.ref a) (.say t)
theorem HrAt.mono {H H' : Hp} (k : KeepT H H') {v : V} {r : Hr} (h : HrAt H v r) : HrAt H' v r := by
  cases h with
  | fin e => exact .fin (k _ _ e)
  | go e => exact .go (k _ _ e)
  | iff e t => exact .iff (k _ _ e) (t.mono k)
  | set e t => exact .set (k _ _ e) (t.mono k)
  | say e t => exact .say (k _ _ e) (t.mono k)
def spRow : Sp := fun vs H Q _ => ∃ (f b : Addr) (bs : List Str) (room : Nat), vs = [.ref f, .ref b, .int (room : Int)] ∧ FeedAt H f ∧ H b = some (.lst (bs.map V.str)) ∧ b ≠ f ∧ Boxes bs ∧ 4 ≤ room ∧ room ≤ 100 ∧
  ∀ (v : V) (r : Hr) (H' : Hp), HrAt H' v r → r.ok room → FeedAt H' f → SameBut f H H' → Q v H'
theorem sc_l_any_row : FnScope ["_law_feed_here", "_law_boxes", "_law_room", "_law_form", "_law_term"] ["_law_feed_here", "_law_boxes", "_law_room"] (defScope s_l_any_row) := ⟨rfl, rfl, rfl, by decide +kernel, rfl, by decide +kernel, by decide +kernel⟩
theorem ok_l_any_row {f : Addr} {fd : FuncData} (F : Fun K "_law_any_row" "_law_any_row" s_l_any_row f fd) (C_l_take : Cal P w K mg base 1 "_law_take" ["_law_feed_here", "_law_many"] spTake) (C_l_some : Cal P w K mg base 2 "_law_some" ["_law_feed_here", "_law_pool"] spSome) (C_l_whole : Cal P w K mg base 2 "_law_whole" ["_law_feed_here"] spWhole) (C_l_any_term : Cal P w K mg base 11 "_law_any_term" ["_law_feed_here", "_law_boxes", "_law_room", "_law_deep"] (spTerm 8)) : FnOk P w K mg base CX0 12 f fd ["_law_feed_here", "_law_boxes", "_law_room"] spRow := by
  refine F.ok sc_l_any_row (fun vs H Q E h => ?_) (fun cdv A outer s H vs Q E hr h => ?_)
  · obtain ⟨f, b, bs, room, rfl, _⟩ := h
    rfl
  obtain ⟨f, b, bs, room, rfl, F0, hb, nb, bx, r1, r2, q⟩ := h
  refine ⟨_, (pss_cons (ps_set (i := 3) sc_l_any_row.nd rfl (Or.inl rfl) (pe_cal C_l_take hr (by decide) rfl (pa_cons (pv 0) (pa_cons pe_int pa_nil))))
      (pss_cons (ps_if (pt_cmpR op_eq (pv 3) pe_int (nomark _)) (pss_one (ps_ret (pe_tup (pa_cons pe_str pa_nil)))) pss_nil)
      (pss_cons (ps_if (pt_cmpR op_eq (pv 3) pe_int (nomark _)) (pss_one (ps_ret (pe_tup (pa_cons pe_str (pa_cons (pe_cal C_l_whole hr (by decide) rfl (pa_cons (pv 0) pa_nil)) pa_nil))))) pss_nil)
      (pss_cons (ps_set (i := 4) sc_l_any_row.nd rfl (Or.inl rfl) (pe_cal C_l_any_term hr (by decide) rfl (pa_cons (pv 0) (pa_cons (pv 1) (pa_cons (pe_ix ix_list (pe_lst (pa_cons pe_int (pa_cons pe_int (pa_cons (pv 2) pa_nil)))) (pe_cal C_l_take hr (by decide) rfl (pa_cons (pv 0) (pa_cons pe_int pa_nil))) (fun _ _ => rfl)) (pa_cons pe_int pa_nil))))))
      (pss_cons (ps_if (pt_cmpR op_eq (pv 3) pe_int (nomark _)) (pss_one (ps_ret (pe_tup (pa_cons pe_str (pa_cons (pv 4) (pa_cons (pe_cal C_l_whole hr (by decide) rfl (pa_cons (pv 0) pa_nil)) pa_nil)))))) pss_nil)
      (pss_one (ps_ret (pe_ix ix_list (pe_lst (pa_cons (pe_tup (pa_cons pe_str (pa_cons (pe_cal C_l_some hr (by decide) rfl (pa_cons (pv 0) (pa_cons (pv 1) pa_nil))) (pa_cons (pv 4) pa_nil)))) (pa_cons (pe_tup (pa_cons pe_str (pa_cons (pv 4) pa_nil))) pa_nil))) (pe_op op_mod (pv 3) pe_int) (fun _ _ => rfl))))))))), ?_⟩
  refine ⟨_, rfl, f, 6, rfl, F0, by decide, by decide, fun fm H1 m0 m1 F1 B1 => ?_⟩
  have hb1 := B1 _ _ nb hb
  refine ⟨_, rfl, rfl, _, rfl, ?_⟩
  refine ite2 (fun _ => ?_) (fun _ => ?_)
  · refine ⟨(by show 1 ≤ sizeLine; decide), fun p hp => ?_⟩
    exact q _ .fin _ (.fin upd_same) trivial (F1.same (Same.new hp _)) (SameBut.new B1 hp)
  refine ⟨_, rfl, rfl, _, rfl, ?_⟩
  refine ite2 (fun _ => ?_) (fun _ => ?_)
  · refine ⟨_, rfl, f, rfl, F1, fun n H2 n0 n1 F2 B2 => ⟨(by show 2 ≤ sizeLine; decide), fun p hp => ?_⟩⟩
    exact q _ (.go n) _ (.go upd_same) ⟨n0, n1⟩ (F2.same (Same.new hp _)) (SameBut.new (B1.trans B2) hp)
  refine ⟨_, rfl, _, rfl, _, rfl, (by show 3 ≤ sizeLine; decide), fun L hL => ?_⟩
  have gL := Same.new hL (.lst ([1, 4, (room : Int)].map V.int))
  have eL : upd H1 L (.lst ([1, 4, (room : Int)].map V.int)) L = some (.lst ([1, 4, (room : Int)].map V.int)) := upd_same
  have Lf : L ≠ f := F1.ne hL
  refine ⟨_, rfl, f, 3, rfl, F1.same gL, by decide, by decide, fun d H2 a0 a1 F2 B2 => ?_⟩
  obtain ⟨rm, hrm, mm⟩ := atI_mem (ns := [1, 4, (room : Int)]) a0 a1
  have mr : 1 ≤ rm ∧ rm ≤ (room : Int) := by
    simp only [List.mem_cons, List.not_mem_nil, or_false] at mm
    omega
  have hb2 := B2 _ _ nb (gL _ _ hb1)
  refine ⟨L, _, _, _, rfl, rfl, SqL.of (B2 _ _ Lf eL), hrm, f, b, bs, rm, 8, rfl, F2, hb2, nb, bx, mr.1, by omega, by decide, by decide, fun v t H3 T3 ok3 sz3 dp3 F3 B3 => ?_⟩
  have B13 : SameBut f H H3 := B1.trans ((SameBut.of gL).trans (B2.trans B3))
  have tf : t.fit room := ⟨ok3, by omega, by omega⟩
  refine ⟨_, rfl, rfl, _, rfl, ?_⟩
  refine ite2 (fun _ => ?_) (fun _ => ?_)
  · refine ⟨_, rfl, _, rfl, f, rfl, F3, fun n H4 n0 n1 F4 B4 => ⟨(by show 3 ≤ sizeLine; decide), fun p hp => ?_⟩⟩
    have gp := Same.new hp (.tup [.str "if", v, .int n])
    exact q _ (.iff t n) _ (.iff upd_same ((T3.mono (keepT_feed F3 B4)).mono (keepT_same gp))) ⟨tf, n0, n1⟩ (F4.same gp) (SameBut.new (B13.trans B4) hp)
  have hb3 := B3 _ _ nb hb2
  refine ⟨_, rfl, _, rfl, f, b, bs, rfl, F3, hb3, nb, bx.1, bx.2.1, fun x H4 xm F4 B4 => ?_⟩
  have T4 := T3.mono (keepT_feed F3 B4)
  refine ⟨_, rfl, (by show 3 ≤ sizeLine; decide), fun p hp => ?_⟩
  have gp := Same.new hp (.tup [.str "set", .str x, v])
  refine ⟨_, rfl, (by show 2 ≤ sizeLine; decide), fun p2 hp2 => ?_⟩
  have gp2 := Same.new hp2 (.tup [.str "say", v])
  refine ⟨(by show 2 ≤ sizeLine; decide), fun L2 hL2 => ?_⟩
  have gL2 := Same.new hL2 (.lst [.ref p, .ref p2])
  have e1 : upd (upd (upd H4 p (.tup [.str "set", .str x, v])) p2 (.tup [.str "say", v])) L2 (.lst [.ref p, .ref p2]) p = some (.tup [.str "set", .str x, v]) := gL2 _ _ (gp2 _ _ upd_same)
  have e2 : upd (upd (upd H4 p (.tup [.str "set", .str x, v])) p2 (.tup [.str "say", v])) L2 (.lst [.ref p, .ref p2]) p2 = some (.tup [.str "say", v]) := gL2 _ _ upd_same
  have S4 := gp.trans (gp2.trans gL2)
  have T5 := T4.mono (keepT_same S4)
  refine ⟨_, rfl, _, _, rfl, rfl, (by show (0 : Int) < 2; decide), ?_⟩
  have m3 := Int.emod_nonneg fm (show (2 : Int) ≠ 0 by decide)
  have m4 := Int.emod_lt_of_pos fm (show (0 : Int) < 2 by decide)
  have : fm % 2 = 0 ∨ fm % 2 = 1 := by omega
  rcases this with h | h
  · refine ⟨L2, _, _, .ref p, rfl, rfl, SqL.of upd_same, by rw [h]; exact at0 .., ?_⟩
    exact q _ (.set x t) _ (.set e1 T5) ⟨bx.2.2 x xm, tf⟩ (F4.same S4) (B13.trans (B4.trans (SameBut.of S4)))
  · refine ⟨L2, _, _, .ref p2, rfl, rfl, SqL.of upd_same, by rw [h]; exact at1 .., ?_⟩
    exact q _ (.say t) _ (.say e2 T5) tf (F4.same S4) (B13.trans (B4.trans (SameBut.of S4)))
def ifBody : Stmt → List Stmt
  | .If _ b _ _ => b
  | _ => []
def ifTest : Stmt → Expr
  | .If c _ _ _ => c
  | _ => .Constant .none 0 ⟨0, 0, 0, 0⟩
def valOf : Stmt → Expr
  | .Assign _ v _ => v
  | .Return (some v) _ => v
  | _ => .Constant .none 0 ⟨0, 0, 0, 0⟩
def eltsOf : Expr → List Expr
  | .List es _ => es
  | .Subscript (.BinOp _ _ (.List es _) _) _ _ => es
  | _ => []
def ixOf : Expr → Expr
  | .Subscript _ i _ => i
  | _ => .Constant .none 0 ⟨0, 0, 0, 0⟩
abbrev stm (s : Stmt) (i : Nat) : Stmt := (defBody s).getD i (.Pass ⟨0, 0, 0, 0⟩)
abbrev stmI (s : Stmt) (i j : Nat) : Stmt := (ifBody (stm s i)).getD j (.Pass ⟨0, 0, 0, 0⟩)
def wordsA : List Str := ["set", "say", "if", "go", "end", "num", "box", "op", "is", "rounds", "duex", "askedx", "coins"]
def wordsB : List Str := ["trues", "sets", "sayx", "iff", "gox", "ends"]
@[irreducible] def namesK : List Expr := eltsOf (valOf (stm s_l_name 1))
@[irreducible] def namesA : List Expr := eltsOf (valOf (stmI s_l_name 2 0))
@[irreducible] def namesB : List Expr := eltsOf (valOf (stmI s_l_name 2 1))
theorem namesK_w : Consts namesK kept := by
  unfold namesK
  exact .cons (.cons (.cons (.cons (.cons (.cons (.cons (.cons (.cons (.cons (.cons (.cons .nil)))))))))))
theorem namesA_w : Consts namesA wordsA := by
  unfold namesA
  exact .cons (.cons (.cons (.cons (.cons (.cons (.cons (.cons (.cons (.cons (.cons (.cons (.cons .nil))))))))))))
theorem namesB_w : Consts namesB wordsB := by
  unfold namesB
  exact .cons (.cons (.cons (.cons (.cons (.cons .nil)))))
theorem name_body : ∃ p1 p2 p3 p4 p5 p6 p7 p8 p9 q1 q2 q3, defBody s_l_name = [stm s_l_name 0, .Assign [.Name "_law_taken" p1] (.List namesK p2) p3,
    .If (ifTest (stm s_l_name 2)) [.Assign [.Name "_law_some_here" p4] (.List namesA p5) p6, .Return (some (.Subscript (.BinOp (.Name "_law_some_here" p7) .Add (.List namesB p8) p9) (ixOf (valOf (stmI s_l_name 2 1))) q1)) q2] [] q3, stm s_l_name 3, stm s_l_name 4, stm s_l_name 5] :=
  ⟨_, _, _, _, _, _, _, _, _, _, _, _, by with_unfolding_all rfl⟩
def LTR : Str := "abcdefghijklmnopqrstuvwxyz"
theorem ltr_ok : ∀ c ∈ LTR.cps.toList, 97 ≤ c ∧ c ≤ 122 := by decide +kernel
def NmD (x : Str) : Prop := (∀ c ∈ x.cps.toList, 97 ≤ c ∧ c ≤ 122) ∧ 1 ≤ x.length ∧ x.length ≤ 6 ∧ x ∉ kept
theorem words_ok0 : ∀ x ∈ wordsA ++ wordsB, (∀ c ∈ x.cps.toList, 97 ≤ c ∧ c ≤ 122) ∧ 1 ≤ x.length ∧ x.length ≤ 6 ∧ x ∉ kept := by decide +kernel
theorem words_ok (x : Str) (h : x ∈ wordsA ++ wordsB) : NmK x := words_ok0 x h
theorem kept_s0 : ∀ x ∈ kept, (∀ c ∈ (x ++ ("s" : Str)).cps.toList, 97 ≤ c ∧ c ≤ 122) ∧ 1 ≤ (x ++ ("s" : Str)).length ∧ (x ++ ("s" : Str)).length ≤ 6 ∧ (x ++ ("s" : Str)) ∉ kept := by decide +kernel
theorem kept_s (x : Str) (h : x ∈ kept) : NmK (x ++ ("s" : Str)) := kept_s0 x h
theorem sum_ones {zs : List Str} (h : ∀ z ∈ zs, z.length = 1 ∧ ∀ c ∈ z.cps.toList, c ∈ LTR.cps.toList) : (zs.map (·.length)).sum = zs.length := by
  induction zs with
  | nil => rfl
  | cons a r ih =>
    rw [List.map_cons, List.sum_cons, ih fun z hz => h z (List.mem_cons_of_mem _ hz), (h a List.mem_cons_self).1, List.length_cons]
    omega
theorem in_strs (x : Str) (ns : List Str) : inV (.str x) (ns.map V.str) = decide (x ∈ ns) := by
  unfold inV
  induction ns with
  | nil => rfl
  | cons a r ih =>
    rw [List.map_cons, List.any_cons, ih]
    have e : eqV (.str a) (.str x) = decide (x = a) := by
      show (a == x) = _
      by_cases c : x = a
      · subst c; simp
      · rw [decide_eq_false c]; simpa using fun h => c h.symm
    rw [e]
    by_cases c1 : x = a <;> by_cases c2 : x ∈ r <;> simp [c1, c2]
def spName : Sp := fun vs H Q _ => ∃ f : Addr, vs = [.ref f] ∧ FeedAt H f ∧ ∀ (x : Str) (H' : Hp), NmK x → FeedAt H' f → SameBut f H H' → Q (.str x) H'
theorem sc_l_name : FnScope ["_law_feed_here", "_law_letters", "_law_taken", "_law_some_here", "_law_name_here"] ["_law_feed_here"] (defScope s_l_name) := ⟨rfl, rfl, rfl, by decide +kernel, rfl, by decide +kernel, by decide +kernel⟩
theorem ok_l_name {f : Addr} {fd : FuncData} (F : Fun K "_law_name" "_law_name" s_l_name f fd) (B : Bl mg) (C_l_take : Cal P w K mg base 1 "_law_take" ["_law_feed_here", "_law_many"] spTake) : FnOk P w K mg base CX0 2 f fd ["_law_feed_here"] spName := by
  refine F.ok sc_l_name (fun vs H Q E h => ?_) (fun cdv A outer s H vs Q E hr h => ?_)
  · obtain ⟨f, rfl, _⟩ := h
    rfl
  obtain ⟨f, rfl, hF, q⟩ := h
  obtain ⟨p1, p2, p3, p4, p5, p6, p7, p8, p9, q1, q2, q3, ebody⟩ := name_body
  rw [ebody]
  refine ⟨_, (pss_cons (ps_set (i := 1) sc_l_name.nd rfl (Or.inr rfl) pe_str)
      (pss_cons (ps_set (i := 2) sc_l_name.nd rfl (Or.inl rfl) (pe_lst (pa_consts namesK_w)))
      (pss_cons (ps_if (pt_cmpR op_eq (pe_cal C_l_take hr (by decide) rfl (pa_cons (pv 0) (pa_cons pe_int pa_nil))) pe_int (nomark _)) (pss_cons (ps_set (i := 3) sc_l_name.nd rfl (Or.inl rfl) (pe_lst (pa_consts namesA_w)))
        (pss_one (ps_ret (pe_ix ix_list (pe_op op_cat (pv 3) (pe_lst (pa_consts namesB_w))) (pe_cal C_l_take hr (by decide) rfl (pa_cons (pv 0) (pa_cons pe_int pa_nil))) (fun _ _ => rfl))))) pss_nil)
      (pss_cons (ps_set (i := 4) sc_l_name.nd rfl (Or.inl rfl) (pe_bm PySem.F.plainAttrs_str PySem.F.slot_str_join PySem.F.type_str_join mt_join pe_str (pa_cons (pe_comp (N := ["_law_letters", "_law_feed_here"]) (ix := [1, 0]) rfl
          (CompScope.two (by with_unfolding_all rfl) (by decide) rfl (by decide) rfl (by decide +kernel) (by first | exact Or.inl rfl | exact Or.inr rfl) (by with_unfolding_all rfl) (by with_unfolding_all rfl) (by with_unfolding_all rfl) (by with_unfolding_all rfl) rfl rfl (by with_unfolding_all rfl) rfl rfl) rfl
          (pi_range1 rfl B.range (pa_cons (pe_op op_add pe_int (pe_cal C_l_take hr (by decide) rfl (pa_cons (pv 0) (pa_cons pe_int pa_nil)))) pa_nil))
          (fun _ _ _ => pb_all (pe_ix ix_str (pv 1) (pe_cal C_l_take hr (by decide) rfl (pa_cons (pv 2) (pa_cons pe_int pa_nil))) (fun _ _ => rfl)))) pa_nil)))
      (pss_cons (ps_if (pt_cmpR op_in_seq (pv 4) (pv 2) (by with_unfolding_all rfl)) (pss_one (ps_ret (pe_op op_add_str (pv 4) pe_str))) pss_nil)
      (pss_one (ps_ret (pv 4)))))))), ?_⟩
  refine ⟨(by show 12 ≤ sizeLine; decide), fun k1 h1 => ?_⟩
  have G1 := Same.new h1 (.lst (kept.map V.str))
  have e1 : upd H k1 (.lst (kept.map V.str)) k1 = some (.lst (kept.map V.str)) := upd_same
  have F1 := hF.same G1
  have k1f : k1 ≠ f := hF.ne h1
  generalize upd H k1 (.lst (kept.map V.str)) = H1 at G1 e1 F1
  refine ⟨_, rfl, f, 6, rfl, F1, by decide, by decide, fun d1 H2 a0 a1 F2 B2 => ?_⟩
  have B12 : SameBut f H H2 := (SameBut.of G1).trans B2
  have e2 := B2 _ _ k1f e1
  refine ⟨rfl, _, rfl, ?_⟩
  refine ite2 (fun _ => ?_) (fun _ => ?_)
  · refine ⟨(by show 13 ≤ sizeLine; decide), fun l1 g1 => ?_⟩
    refine ⟨_, rfl, (by show 6 ≤ sizeLine; decide), fun l2 g2 => ?_⟩
    refine ⟨l1, l2, wordsA.map V.str, wordsB.map V.str, rfl, rfl, Same.new g2 _ _ _ upd_same, upd_same, (by show 19 ≤ sizeLine; decide), fun l3 g3 => ?_⟩
    have G := (Same.new g1 (.lst (wordsA.map V.str))).trans ((Same.new g2 (.lst (wordsB.map V.str))).trans (Same.new g3 (.lst (wordsA.map V.str ++ wordsB.map V.str))))
    have F3 := F2.same G
    have n3 := (F2.same ((Same.new g1 (.lst (wordsA.map V.str))).trans (Same.new g2 (.lst (wordsB.map V.str))))).ne g3
    refine ⟨_, rfl, f, 19, rfl, F3, by decide, by decide, fun e H9 e0 e1 F9 S9 => ?_⟩
    obtain ⟨v, hv, vm⟩ := at_in (l := wordsA.map V.str ++ wordsB.map V.str) (i := e) e0 (by
      have : (wordsA.map V.str ++ wordsB.map V.str).length = 19 := by rfl
      omega)
    rw [← List.map_append] at vm
    obtain ⟨x, hx, rfl⟩ := List.mem_map.mp vm
    exact ⟨l3, _, e, _, rfl, rfl, SqL.of (S9 l3 _ n3 upd_same), hv, q x H9 (words_ok x hx) F9 (B12.trans ((SameBut.of G).trans S9))⟩
  refine ⟨rfl, _, rfl, f, 6, rfl, F2, by decide, by decide, fun d2 H3 b0 b1 F3 B3 => ?_⟩
  have B13 : SameBut f H H3 := B12.trans B3
  have e3 := B3 _ _ k1f e2
  refine ⟨_, _, rfl, rfl, _, rfl, by omega, by omega, fun D hD => ?_⟩
  have Df := F3.ne hD
  have L26 : LTR.cps.toList.length = 26 := by decide +kernel
  refine comp_range (n := (1 + d2).toNat) (fun i H' => ∃ zs : List Str, H' D = some (.lst (zs.map V.str)) ∧ zs.length = i ∧ (∀ z ∈ zs, z.length = 1 ∧ ∀ c ∈ z.cps.toList, c ∈ LTR.cps.toList) ∧ FeedAt H' f ∧ SameBut f H3 H') ⟨[], by rw [upd_same]; rfl, rfl, by simp, F3.same (Same.new hD _), SameBut.of (Same.new hD _)⟩ ?_ ?_
  · rintro i H4 hi ⟨zs, hl, zl, z1, F4, S4⟩
    refine ⟨_, rfl, _, rfl, f, 26, rfl, F4, by decide, by decide, fun d H5 d0 d26 F5 S5 => ?_⟩
    obtain ⟨c, hc, hm⟩ := at_in (l := LTR.cps.toList) (i := d) d0 (by rw [L26]; exact d26)
    have hD5 : H5 D = some (.lst (zs.map V.str)) := S5 D _ Df hl
    refine ⟨_, d, c, rfl, rfl, small (by decide +kernel), hc, _, hD5, ?_, Nx.of hi ⟨zs ++ [⟨#[c]⟩], ?_, ?_, ?_, feed_upd F5 Df, ?_⟩⟩
    · rw [List.length_map, zl]
      exact small1000 (by omega)
    · rw [upd_same, List.map_append]
      rfl
    · rw [List.length_append, List.length_singleton, zl]
    · intro z hz
      rcases List.mem_append.mp hz with h | h
      · exact z1 z h
      · rw [List.mem_singleton.mp h]
        refine ⟨rfl, fun c' hc' => ?_⟩
        have : c' = c := by simpa using hc'
        subst this
        exact hm
    · intro b o hb e
      rw [upd_ne (ne_of_none e hD)]
      exact S5 b o hb (S4 b o hb e)
  rintro H4 ⟨zs, hl, zl, z1, F4, S4⟩
  have sl := sum_ones z1
  refine ⟨_, D, zs, rfl, rfl, SqL.of hl, (by decide +kernel), by omega, ?_⟩
  have jl : (Txt.join "" zs).length = (1 + d2).toNat := by
    have := size_glued "" zs
    have e0 : (("" : Str)).length = 0 := by decide +kernel
    rw [e0, Nat.mul_zero] at this
    show (Builtin.Str.glued "" zs).length = _
    omega
  have jc : ∀ c ∈ (Txt.join "" zs).cps.toList, 97 ≤ c ∧ c ≤ 122 := fun c hc => by
    obtain ⟨z, hz, h⟩ := mem_join0 hc
    exact ltr_ok c ((z1 z hz).2 c h)
  generalize Txt.join "" zs = nm at jl jc
  have B14 := B13.trans S4
  refine ⟨_, rfl, _, rfl, k1, _, rfl, .inl (SqL.of (S4 _ _ k1f e3)), rfl, (by decide), _, rfl, ?_⟩
  show if inV (.str nm) (kept.map V.str) = true then _ else _
  rw [in_strs]
  by_cases ck : nm ∈ kept
  · refine iteD ck ?_
    have l1 : (("s" : Str)).length = 1 := by decide +kernel
    refine ⟨_, rfl, _, _, rfl, rfl, small (by rw [l1]; omega), ?_⟩
    exact q _ H4 (kept_s nm ck) F4 B14
  · refine iteDF ck ?_
    exact ⟨_, rfl, q _ H4 ⟨jc, by omega, by omega, ck⟩ F4 B14⟩
abbrev s_AskError : Stmt := inClass (top 1) 0
abbrev s_NoText : Stmt := inClass (top 2) 0
abbrev s_Twice : Stmt := inClass (top 3) 0
abbrev s_NoName : Stmt := inClass (top 4) 0
abbrev s_NoField : Stmt := inClass (top 5) 0
abbrev s_SmallField : Stmt := inClass (top 6) 0
abbrev s_NoRow : Stmt := inClass (top 7) 0
abbrev s_NoTurn : Stmt := inClass (top 8) 0
abbrev s_NoCount : Stmt := inClass (top 9) 0
abbrev s_NoNumber : Stmt := inClass (top 10) 0
abbrev s_TooMany : Stmt := inClass (top 11) 0
/-- values that stand in the texts of refusals -/
def FmOk (v : V) : Prop := (∃ i : Int, v = .int i ∧ 0 ≤ i ∧ i < 1000000000000) ∨ (∃ y : Str, v = .str y ∧ y.length ≤ 20) ∨ v = .non
theorem log_small {n : Int} (h0 : 0 ≤ n) (h1 : n < 1000000000000) : n.natAbs.log2 < 1920 := by
  have h2 : n.natAbs < 2 ^ 40 := by omega
  by_cases c : n.natAbs = 0
  · rw [c]
    decide
  · have := (Nat.log2_lt c).mpr h2
    omega
theorem FmOk.fm {v : V} (h : FmOk v) : ∃ y, FmV v y ∧ y.length ≤ 60 := by
  rcases h with ⟨i, rfl, h0, h1⟩ | ⟨y, rfl, hy⟩ | rfl
  · exact ⟨_, .inl ⟨i, rfl, log_small h0 h1, rfl⟩, Nat.le_trans (PyProof.Rows.toString_length_le h0 (k := 12) (by decide) (by show i < 10 ^ 12; omega)) (by decide)⟩
  · exact ⟨y, .inr (.inl rfl), by omega⟩
  · exact ⟨_, .inr (.inr ⟨rfl, rfl⟩), by decide +kernel⟩
theorem fl1 {a : Str} (ha : a.length ≤ 60) : (Str.empty ++ a).length ≤ sizeLine := by
  rw [Str.length_append]
  have : Str.empty.length = 0 := rfl
  exact small (by omega)
theorem fl2 {a b : Str} (ha : a.length ≤ 60) (hb : b.length ≤ 60) : ((Str.empty ++ a) ++ b).length ≤ sizeLine := by
  rw [Str.length_append, Str.length_append]
  have : Str.empty.length = 0 := rfl
  exact small (by omega)
theorem fl3 {a b c : Str} (ha : a.length ≤ 60) (hb : b.length ≤ 60) (hc : c.length ≤ 60) : (((Str.empty ++ a) ++ b) ++ c).length ≤ sizeLine := by
  rw [Str.length_append, Str.length_append, Str.length_append]
  have : Str.empty.length = 0 := rfl
  exact small (by omega)
def spAI (K : PySem.W.Frag) : Sp := fun vs H Q _ => ∃ (e C f : Addr) (x : V), vs = [.ref e, x] ∧ H e = some (ExcN C e) ∧ MkX K C f ∧ Q .non H
theorem sc_AskError : FnScope ["self", "words"] ["self", "words"] (defScope s_AskError) := ⟨rfl, rfl, rfl, by decide +kernel, rfl, by decide +kernel, by decide +kernel⟩
theorem ok_AskError {f : Addr} {fd : FuncData} {dV : Value} (F : FunD K "__init__" "AskError.__init__" s_AskError f fd dV) (hV : mg "ValueError" = none) : FnOk P w K mg base CX0 1 f fd ["self", "words"] (spAI K) := by
  refine F.ok sc_AskError (fun vs H Q E h => ?_) (fun cdv A outer s H vs Q E hr h => ?_)
  · obtain ⟨e, C, f, x, rfl, _⟩ := h
    rfl
  obtain ⟨e, C, f, x, rfl, he, M, q⟩ := h
  refine ⟨_, pss_one (ps_expr (pe_valinit rfl hV (pa_cons (pv 0) (pa_cons (pv 1) pa_nil)))), ?_⟩
  exact ⟨_, rfl, _, rfl, e, C, f, x, rfl, he, M, q⟩
def spXI (C : Addr) (a : Str) : Sp := fun vs H Q _ => ∃ (e : Addr) (v : V), vs = [.ref e, v] ∧ H e = some (ExcN C e) ∧ FmOk v ∧ ∀ dx, H dx = none → dx ≠ e → Q .non (upd (upd H dx (.xd [(a, v)])) e (ExcD C e dx))
structure AskC (P : Program) (w : World) (K : PySem.W.Frag) (mg : Str → Option Value) (base : Heap) (CA fA : Addr) (fdA : FuncData) : Prop where
  g : mg "AskError" = some (.ref CA)
  c : ClsFn K CA fA "__init__"
  ok : FnOk P w K mg base CX0 1 fA fdA ["self", "words"] (spAI K)
  b : Binds K fdA ["self", "words"] []
section
variable {CA fA : Addr} {fdA : FuncData}
theorem sc_NoRow : FnScope ["self", "row"] ["self", "row"] (defScope s_NoRow) := ⟨rfl, rfl, rfl, by decide +kernel, rfl, by decide +kernel, by decide +kernel⟩
theorem ok_NoRow {f C : Addr} {fd : FuncData} {dV : Value} (F : FunD K "__init__" "NoRow.__init__" s_NoRow f fd dV) (T : AskC P w K mg base CA fA fdA) (M : MkX K C f) (c : ClsX K C CA) (na : NoAttr K C "row") : FnOk P w K mg base CX0 2 f fd ["self", "row"] (spXI C "row") := by
  refine F.ok sc_NoRow (fun vs H Q E h => ?_) (fun cdv A outer s H vs Q E hr h => ?_)
  · obtain ⟨e, v, rfl, _⟩ := h
    rfl
  obtain ⟨e, v, rfl, he, hv, q⟩ := h
  refine ⟨_, pss_cons (ps_expr (pe_clscall rfl T.g T.c T.ok hr T.b .nil pass0 (pa_cons (pv 0) (pa_cons (pe_fstr (pj_cons pe_str (pj_cons (pe_fmtV (pv 1)) (pj_cons pe_str pj_nil)))) pa_nil)))) (pss_one (ps_fldX (pv 0) (pv 1) rfl)), ?_⟩
  obtain ⟨y, fy, hy⟩ := hv.fm
  refine ⟨_, rfl, _, rfl, fl1 (by decide +kernel), _, rfl, y, fy, Nat.le_trans hy (by decide), y, rfl, fl2 (by decide +kernel) hy, _, rfl, fl3 (by decide +kernel) hy (by decide +kernel), fl3 (by decide +kernel) hy (by decide +kernel), ?_⟩
  refine ⟨e, C, f, _, rfl, he, M, ?_⟩
  exact ⟨_, rfl, _, rfl, e, C, CA, rfl, he, c, na, q⟩
end
/-! ### rows of helpers as look_helper sees them -/
inductive RowG (H : Hp) : V → Option Int → Prop
  | go {a : Addr} {n : Int} : H a = some (.tup [.str "go", .int n]) → 0 ≤ n → RowG H (.ref a) (some n)
  | iff {a : Addr} {v : V} {n : Int} : H a = some (.tup [.str "if", v, .int n]) → 0 ≤ n → RowG H (.ref a) (some n)
  | no {a : Addr} {x : Str} {xs : List V} : H a = some (.tup (.str x :: xs)) → x ≠ "go" → x ≠ "if" → xs.length ≤ 10 → RowG H (.ref a) none
theorem RowG.same {H H' : Hp} {v : V} {g : Option Int} (k : KeepT H H') (h : RowG H v g) : RowG H' v g := by
  cases h with
  | go e n => exact .go (k _ _ e) n
  | iff e n => exact .iff (k _ _ e) n
  | no e n m l => exact .no (k _ _ e) n m l
theorem HrAt.rowG {H : Hp} {v : V} {r : Hr} {m : Nat} (h : HrAt H v r) (ok : r.ok m) : ∃ g, RowG H v g := by
  cases h with
  | fin e => exact ⟨_, .no e (by decide) (by decide) (by decide)⟩
  | go e => exact ⟨_, .go e ok.1⟩
  | iff e t => exact ⟨_, .iff e ok.2.1⟩
  | set e t => exact ⟨_, .no e (by decide) (by decide) (by simp)⟩
  | say e t => exact ⟨_, .no e (by decide) (by decide) (by simp)⟩
def bad (n : Nat) : Option Int → Bool
  | some k => decide ((n : Int) ≤ k)
  | none => false
def RowsG (H : Hp) (tv : List V) (gs : List (Option Int)) : Prop := tv.length = gs.length ∧ ∀ (i : Nat) v g, tv[i]? = some v → gs[i]? = some g → RowG H v g
theorem RowsG.same {H H' : Hp} {tv : List V} {gs : List (Option Int)} (k : KeepT H H') (h : RowsG H tv gs) : RowsG H' tv gs := ⟨h.1, fun i v g hv hg => (h.2 i v g hv hg).same k⟩
theorem rowsG_of {H : Hp} {tv : List V} (h : ∀ v ∈ tv, ∃ g, RowG H v g) : ∃ gs, RowsG H tv gs := by
  induction tv with
  | nil => exact ⟨[], rfl, fun i v g hv => by simp at hv⟩
  | cons v r ih =>
    obtain ⟨g, hg⟩ := h v List.mem_cons_self
    obtain ⟨gs, h1, h2⟩ := ih fun w hw => h w (List.mem_cons_of_mem _ hw)
    refine ⟨g :: gs, by simp [h1], fun i w k hw hk => ?_⟩
    cases i with
    | zero => cases hw; cases hk; exact hg
    | succ j => exact h2 j w k hw hk
def DueIs (gs : List (Option Int)) (o : Option Nat) : Prop := (o = none ∧ ∀ g ∈ gs, bad gs.length g = false) ∨ ∃ i g, o = some i ∧ gs[i]? = some g ∧ bad gs.length g = true ∧ ∀ j g', j < i → gs[j]? = some g' → bad gs.length g' = false
theorem DueIs.uniq {gs : List (Option Int)} {o o' : Option Nat} (h : DueIs gs o) (h' : DueIs gs o') : o = o' := by
  rcases h with ⟨rfl, h⟩ | ⟨i, g, rfl, hg, hb, hl⟩
  · rcases h' with ⟨rfl, _⟩ | ⟨i', g', rfl, hg', hb', hl'⟩
    · rfl
    · rw [h g' (List.mem_of_getElem? hg')] at hb'
      cases hb'
  · rcases h' with ⟨rfl, h'⟩ | ⟨i', g', rfl, hg', hb', hl'⟩
    · rw [h' g (List.mem_of_getElem? hg)] at hb
      cases hb
    · by_cases c : i < i'
      · rw [hl' i g c hg] at hb
        cases hb
      · by_cases c' : i' < i
        · rw [hl i' g' c' hg'] at hb'
          cases hb'
        · rw [show i = i' by omega]
theorem due_end {gs : List (Option Int)} (h : ∀ j g', j < gs.length → gs[j]? = some g' → bad gs.length g' = false) : DueIs gs none :=
  .inl ⟨rfl, fun g hg => by
    obtain ⟨j, hj⟩ := List.getElem?_of_mem hg
    exact h j g (List.getElem?_eq_some_iff.mp hj).1 hj⟩
theorem due_at {gs : List (Option Int)} {i : Nat} {g : Option Int} (hg : gs[i]? = some g) (hb : bad gs.length g = true) (h : ∀ j g', j < i → gs[j]? = some g' → bad gs.length g' = false) : DueIs gs (some i) := .inr ⟨i, g, rfl, hg, hb, h⟩
theorem due_next {gs : List (Option Int)} {i : Nat} {g : Option Int} (hg : gs[i]? = some g) (hb : bad gs.length g = false) (h : ∀ j g', j < i → gs[j]? = some g' → bad gs.length g' = false) : ∀ j g', j < i + 1 → gs[j]? = some g' → bad gs.length g' = false := fun j g' hj hg' => by
  by_cases c : j < i
  · exact h j g' c hg'
  · have : j = i := by omega
    subst this
    rw [hg] at hg'
    cases hg'
    exact hb
def dueV : Option Nat → V
  | none => .non
  | some i => .int (i : Int)
def spDue : Sp := fun vs H Q _ => ∃ (a : Addr) (tv : List V) (gs : List (Option Int)), vs = [.ref a] ∧ H a = some (.tup tv) ∧ RowsG H tv gs ∧ tv.length ≤ 1000 ∧ ∀ o H', DueIs gs o → Same H H' → Q (dueV o) H'
theorem inV_go : inV (.str "go") [.str "go", .str "if"] = true ∧ inV (.str "if") [.str "go", .str "if"] = true ∧ inV (.str "go") [.str "if", .str "go"] = true ∧ inV (.str "if") [.str "if", .str "go"] = true := ⟨rfl, rfl, rfl, rfl⟩
theorem eqV_str (x y : Str) : eqV (.str x) (.str y) = decide (x = y) := by
  rfl
theorem inV_no {x a b : Str} (h1 : x ≠ a) (h2 : x ≠ b) : inV (.str x) [.str a, .str b] = false := by
  unfold inV
  simp only [List.any_cons, List.any_nil, eqV_str]
  rw [decide_eq_false (Ne.symm h1), decide_eq_false (Ne.symm h2)]
  rfl
/-- the first word, and where it has one its goal -/
theorem RowG.cases' {H : Hp} {v : V} {g : Option Int} (h : RowG H v g) : ∃ a x xs, v = .ref a ∧ H a = some (.tup (.str x :: xs)) ∧ ((∃ n, g = some n ∧ 0 ≤ n ∧ (x = "go" ∨ x = "if") ∧ atI (.str x :: xs) (-1) = some (.int n)) ∨ (g = none ∧ x ≠ "go" ∧ x ≠ "if")) := by
  cases h with
  | go e n => exact ⟨_, _, _, rfl, e, .inl ⟨_, rfl, n, .inl rfl, rfl⟩⟩
  | iff e n => exact ⟨_, _, _, rfl, e, .inl ⟨_, rfl, n, .inr rfl, rfl⟩⟩
  | no e n m l => exact ⟨_, _, _, rfl, e, .inr ⟨rfl, n, m⟩⟩
theorem sc_l_due : FnScope ["_law_rows", "_law_at", "_law_row"] ["_law_rows"] (defScope s_l_due) := ⟨rfl, rfl, rfl, by decide +kernel, rfl, by decide +kernel, by decide +kernel⟩
theorem ok_l_due {f : Addr} {fd : FuncData} (F : Fun K "_law_due" "_law_due" s_l_due f fd) (B : Bl mg) : FnOk P w K mg base CX0 1 f fd ["_law_rows"] spDue := by
  refine F.ok sc_l_due (fun vs H Q E h => ?_) (fun cdv A outer s H vs Q E hr h => ?_)
  · obtain ⟨a, tv, gs, rfl, _⟩ := h
    rfl
  obtain ⟨a, tv, gs, rfl, ha, RG, l200, q⟩ := h
  refine ⟨_, (pss_cons (ps_for PassesOwn.never rfl (pi_enumT rfl B.enumerate (pv 0)) (pg_tup rfl (pgs_cons (pg_name (i := 1) sc_l_due.nd rfl (Or.inl rfl)) (pgs_cons (pg_name (i := 2) sc_l_due.nd rfl (Or.inl rfl)) pgs_nil))) (pss_one (ps_if (PW.pt (pw_and (pt_cmpR op_in_seq (pe_ix ix_tup (pv 2) pe_int (fun _ _ => rfl)) (pe_lst (pa_cons pe_str (pa_cons pe_str pa_nil))) (by with_unfolding_all rfl)) (pw_and1 (pt_cmpR op_ge (pe_ix ix_tup (pv 2) (pe_un un_neg pe_int) (fun _ _ => rfl)) (pe_callB call_len_seq rfl B.len PySem.boot_len (pa_cons (pv 0) pa_nil)) (nomark _))))) (pss_one (ps_ret (pv 1))) pss_nil)))
      (pss_one (ps_ret pe_non))), ?_⟩
  refine ⟨_, rfl, a, rfl, ⟨_, SqT.of ha⟩, for_enumT (K := K) (xs := tv) (fun i σ H' => ∃ x1 x2 : Option V, σ = [some (.ref a), x1, x2] ∧ Same H H' ∧ ∀ j g', j < i → gs[j]? = some g' → bad gs.length g' = false) ⟨_, _, rfl, Same.refl _, fun j _ hj => absurd hj (Nat.not_lt_zero _)⟩ (fun i σ H' _ hst => by obtain ⟨_, _, _, h, _⟩ := hst; exact SqT.of (h _ _ ha)) ?_ ?_⟩
  · rintro i z σ H1 t hz ⟨x1, x2, rfl, S1, nb⟩ ht
    have hi : i < tv.length := (List.getElem?_eq_some_iff.mp hz).1
    have hg : gs[i]? = some (gs[i]'(by rw [← RG.1]; exact hi)) := List.getElem?_eq_getElem _
    generalize gs[i]'(by rw [← RG.1]; exact hi) = g at hg
    have G := Same.new ht (.tup [.int (i : Int), z])
    have S2 := S1.trans G
    obtain ⟨r, x, xs, rfl, er, cs⟩ := ((RG.2 i z g hz hg).same (keepT_same S2)).cases'
    refine ⟨t, _, rfl, SqT.of upd_same, rfl, _, _, rfl, _, _, rfl, rfl, ?_⟩
    refine ⟨_, rfl, r, _, 0, _, rfl, rfl, SqT.of er, at0 .., (by show 2 ≤ sizeLine; decide), fun L hL => ?_⟩
    have G3 := Same.new hL (.lst [.str "go", .str "if"])
    refine ⟨L, _, rfl, .inl (SqL.of upd_same), rfl, rfl, _, rfl, ?_⟩
    rcases cs with ⟨n, rfl, n0, hx, hl⟩ | ⟨rfl, h1, h2⟩
    · have hin : inV (.str x) [.str "go", .str "if"] = true := by
        rcases hx with rfl | rfl
        · exact inV_go.1
        · exact inV_go.2.1
      rw [hin]
      refine iteT ?_
      refine ⟨_, rfl, _, rfl, r, _, -1, _, rfl, rfl, SqT.of (G3 _ _ er), hl, _, rfl, a, _, rfl, .inr (SqT.of (G3 _ _ (S2 _ _ ha))), _, _, rfl, rfl, _, rfl, ?_⟩
      refine ite2 (fun c => ?_) (fun c => ?_)
      · refine ⟨_, rfl, q (some i) _ (due_at hg ?_ nb) (S2.trans G3)⟩
        have := of_decide_eq_true c
        show decide (((gs.length : Nat) : Int) ≤ n) = true
        rw [← RG.1]
        exact decide_eq_true this
      · refine ⟨_, _, rfl, S2.trans G3, due_next hg ?_ nb⟩
        show decide (((gs.length : Nat) : Int) ≤ n) = false
        rw [← RG.1]
        exact decide_eq_false fun z => c (decide_eq_true z)
    · rw [inV_no h1 h2]
      refine iteF ?_
      exact ⟨_, _, rfl, S2.trans G3, due_next hg rfl nb⟩
  · rintro σ H1 ⟨x1, x2, rfl, S1, nb⟩
    refine q none _ (due_end fun j g' hj => nb j g' (by rw [RG.1]; exact hj)) S1
structure Exs (K : PySem.W.Frag) (mg : Str → Option Value) (CA c0 c1 c2 c3 c4 c5 c6 c7 c8 c9 : Addr) : Prop where
  g0 : mg "NoText" = some (.ref c0)
  x0 : ClsX K c0 CA
  n0 : c0 ≠ CA
  g1 : mg "Twice" = some (.ref c1)
  x1 : ClsX K c1 CA
  n1 : c1 ≠ CA
  g2 : mg "NoName" = some (.ref c2)
  x2 : ClsX K c2 CA
  n2 : c2 ≠ CA
  g3 : mg "NoField" = some (.ref c3)
  x3 : ClsX K c3 CA
  n3 : c3 ≠ CA
  g4 : mg "SmallField" = some (.ref c4)
  x4 : ClsX K c4 CA
  n4 : c4 ≠ CA
  g5 : mg "NoRow" = some (.ref c5)
  x5 : ClsX K c5 CA
  n5 : c5 ≠ CA
  g6 : mg "NoTurn" = some (.ref c6)
  x6 : ClsX K c6 CA
  n6 : c6 ≠ CA
  g7 : mg "NoCount" = some (.ref c7)
  x7 : ClsX K c7 CA
  n7 : c7 ≠ CA
  g8 : mg "NoNumber" = some (.ref c8)
  x8 : ClsX K c8 CA
  n8 : c8 ≠ CA
  g9 : mg "TooMany" = some (.ref c9)
  x9 : ClsX K c9 CA
  n9 : c9 ≠ CA
  gA : mg "AskError" = some (.ref CA)
  iA : isBaseX K CA
  nd : [c0, c1, c2, c3, c4, c5, c6, c7, c8, c9].Nodup
structure Mkr (P : Program) (w : World) (K : PySem.W.Frag) (mg : Str → Option Value) (base : Heap) (C : Addr) (a : Str) (f : Addr) (fd : FuncData) : Prop where
  made : MkX K C f
  ok : FnOk P w K mg base CX0 2 f fd ["self", a] (spXI C a)
  b : Binds K fd ["self", a] []
  na : NoAttr K C a
theorem ex_made {H : Hp} {e dx C : Addr} {a : Str} {v : V} (h0 : H e = none) (h1 : upd H e (ExcN C e) dx = none) (h2 : dx ≠ e) : Same H (upd (upd (upd H e (ExcN C e)) dx (.xd [(a, v)])) e (ExcD C e dx)) ∧ Ex (upd (upd (upd H e (ExcN C e)) dx (.xd [(a, v)])) e (ExcD C e dx)) e C a v := by
  rw [upd_ne h2] at h1
  refine ⟨fun b o hb => ?_, dx, upd_same, ?_⟩
  · rw [upd_ne (ne_of_none hb h0), upd_ne (ne_of_none hb h1), upd_ne (ne_of_none hb h0)]
    exact hb
  · rw [upd_ne h2, upd_same]
theorem mk_sp {H : Hp} {C e : Addr} {a : Str} {v : V} {Q : VK} {E : XK} (hv : FmOk v) (he : H e = none) (h : ∀ H2, Same H H2 → Ex H2 e C a v → Q .non H2) : spXI C a [.ref e, v] (upd H e (ExcN C e)) Q E := by
  refine ⟨e, v, rfl, upd_same, hv, fun dx h1 h2 => ?_⟩
  obtain ⟨s, x⟩ := ex_made (a := a) (v := v) he h1 h2
  exact h _ s x
theorem lk1 (f : Str) (v : V) : ([(f, v)] : List (Str × V)).lookup f = some v := by simp [List.lookup]
theorem kit_same {K : PySem.W.Frag} {C : Addr} : PySem.W.kitOne K (.ref C) (.ref C) = some true := by
  unfold PySem.W.kitOne
  rw [if_pos (by simp)]
theorem kitAny_no {K : PySem.W.Frag} {t : Value} {Ds : List Addr} (h : ∀ D ∈ Ds, PySem.W.kitOne K t (.ref D) = some false) : PySem.W.kitAny K t (Ds.map Value.ref) = some false := by
  induction Ds with
  | nil => rfl
  | cons D r ih =>
    show (match PySem.W.kitOne K t (.ref D) with | some true => some true | some false => PySem.W.kitAny K t (r.map Value.ref) | none => none) = _
    rw [h D List.mem_cons_self]
    exact ih fun D' hD => h D' (List.mem_cons_of_mem _ hD)
theorem fm_ix {i : Nat} (h : i ≤ 1000) : FmOk (.int (i : Int)) := .inl ⟨_, rfl, by omega, by omega⟩
def spLook (C : Addr) : Sp := fun vs H Q E => ∃ (a : Addr) (tv : List V) (gs : List (Option Int)), vs = [.ref a] ∧ H a = some (.tup tv) ∧ RowsG H tv gs ∧ tv.length ≤ 1000 ∧ (∀ H', DueIs gs none → Same H H' → Q (.bl true) H') ∧
  ∀ (i : Nat) (e dx : Addr) (H' : Hp), DueIs gs (some i) → Same H H' → H' e = some (ExcT C e dx) → H' dx = some (.xd [("row", .int (i : Int))]) → E (.ref e) (some dx) H'
theorem sc_look_helper : FnScope ["helper", "number", "row"] ["helper"] (defScope s_look_helper) := ⟨rfl, rfl, rfl, by decide +kernel, rfl, by decide +kernel, by decide +kernel⟩
section
variable {CA c0 c1 c2 c3 c4 c5 c6 c7 c8 c9 : Addr}
theorem ok_look_helper {f f5 : Addr} {fd fd5 : FuncData} (F : Fun K "look_helper" "look_helper" s_look_helper f fd) (B : Bl mg) (T : Exs K mg CA c0 c1 c2 c3 c4 c5 c6 c7 c8 c9) (M5 : Mkr P w K mg base c5 "row" f5 fd5) : FnOk P w K mg base (CXr P w) 4 f fd ["helper"] (spLook c5) := by
  refine F.okX sc_look_helper (fun vs H Q E h => ?_) (fun cdv A outer s H vs Q E hr h => ?_)
  · obtain ⟨a, tv, gs, rfl, _⟩ := h
    rfl
  obtain ⟨a, tv, gs, rfl, ha, RG, l200, q, qe⟩ := h
  refine ⟨_, (pss_cons (ps_for ownX rfl (pi_enumT rfl B.enumerate (pv 0)) (pg_tup rfl (pgs_cons (pg_name (i := 1) sc_look_helper.nd rfl (Or.inl rfl)) (pgs_cons (pg_name (i := 2) sc_look_helper.nd rfl (Or.inl rfl)) pgs_nil))) (pss_one (ps_if (PW.pt (pw_and (pt_cmpR op_in_seq (pe_ix ix_tup (pv 2) pe_int (fun _ _ => rfl)) (pe_tup (pa_cons pe_str (pa_cons pe_str pa_nil))) (by with_unfolding_all rfl)) (pw_and1 (pt_not (pt_chain op_le op_lt pe_int (pe_ix ix_tup (pv 2) (pe_un un_neg pe_int) (fun _ _ => rfl)) (pe_callB call_len_seq rfl B.len PySem.boot_len (pa_cons (pv 0) pa_nil))))))) (pss_one (ps_raise (pe_makeX M5.made M5.ok hr rfl T.g5 M5.b .nil pass0 (pa_cons (pv 1) pa_nil)))) pss_nil)))
      (pss_one (ps_ret pe_bl))), ?_⟩
  refine ⟨_, rfl, a, rfl, ⟨_, SqT.of ha⟩, for_enumT (K := K) (xs := tv) (fun i σ H' => ∃ x1 x2 : Option V, σ = [some (.ref a), x1, x2] ∧ Same H H' ∧ ∀ j g', j < i → gs[j]? = some g' → bad gs.length g' = false) ⟨_, _, rfl, Same.refl _, fun j _ hj => absurd hj (Nat.not_lt_zero _)⟩ (fun i σ H' _ hst => by obtain ⟨_, _, _, h, _⟩ := hst; exact SqT.of (h _ _ ha)) ?_ ?_⟩
  · rintro i z σ H1 t hz ⟨x1, x2, rfl, S1, nb⟩ ht
    have hi : i < tv.length := (List.getElem?_eq_some_iff.mp hz).1
    have hg : gs[i]? = some (gs[i]'(by rw [← RG.1]; exact hi)) := List.getElem?_eq_getElem _
    generalize gs[i]'(by rw [← RG.1]; exact hi) = g at hg
    have G := Same.new ht (.tup [.int (i : Int), z])
    have S2 := S1.trans G
    obtain ⟨r, x, xs, rfl, er, cs⟩ := ((RG.2 i z g hz hg).same (keepT_same S2)).cases'
    refine ⟨t, _, rfl, SqT.of upd_same, rfl, _, _, rfl, _, _, rfl, rfl, ?_⟩
    refine ⟨_, rfl, r, _, 0, _, rfl, rfl, SqT.of er, at0 .., (by show 2 ≤ sizeLine; decide), fun L hL => ?_⟩
    have G3 := Same.new hL (.tup [.str "if", .str "go"])
    refine ⟨L, _, rfl, .inr (SqT.of upd_same), rfl, rfl, _, rfl, ?_⟩
    rcases cs with ⟨n, rfl, n0, hx, hl⟩ | ⟨rfl, h1, h2⟩
    · have hin : inV (.str x) [.str "if", .str "go"] = true := by
        rcases hx with rfl | rfl
        · exact inV_go.2.2.1
        · exact inV_go.2.2.2
      rw [hin]
      refine iteT ?_
      refine ⟨_, rfl, _, rfl, r, _, -1, _, rfl, rfl, SqT.of (G3 _ _ er), hl, _, _, rfl, rfl, _, rfl, ?_⟩
      rw [decide_eq_true n0]
      refine iteT ?_
      refine ⟨_, rfl, a, _, rfl, .inr (SqT.of (G3 _ _ (S2 _ _ ha))), _, _, rfl, rfl, _, rfl, ?_⟩
      refine ite2 (fun c => ?_) (fun c => ?_)
      · have hb : bad gs.length (some n) = true := by
          show decide (((gs.length : Nat) : Int) ≤ n) = true
          rw [← RG.1]
          simp at c
          exact decide_eq_true c
        refine ⟨_, rfl, (by show 1 ≤ sizeLine; decide), fun e ze => mk_sp (fm_ix (by omega)) ze fun G4 s4 x4 => ⟨rfl, ?_⟩⟩
        obtain ⟨dx, e1, e2⟩ := x4
        have hde : dx ≠ e := fun z => by
          rw [z, e1] at e2
          cases e2
        refine ⟨e, c5, CA, dx, rfl, e1, T.x5, qe i e dx _ (due_at hg hb nb) (fun b o hb => ?_) upd_same (by rw [upd_ne hde]; exact e2)⟩
        have hb3 := (S2.trans G3) b o hb
        rw [upd_ne (ne_of_none hb3 ze)]
        exact s4 _ _ hb3
      · refine ⟨_, _, rfl, S2.trans G3, due_next hg ?_ nb⟩
        show decide (((gs.length : Nat) : Int) ≤ n) = false
        rw [← RG.1]
        simp at c
        exact decide_eq_false (by omega)
    · rw [inV_no h2 h1]
      refine iteF ?_
      exact ⟨_, _, rfl, S2.trans G3, due_next hg rfl nb⟩
  · rintro σ H1 ⟨x1, x2, rfl, S1, nb⟩
    exact q _ (due_end fun j g' hj => nb j g' (by rw [RG.1]; exact hj)) S1
def spRight : Sp := fun vs H Q _ => ∃ (a : Addr) (tv : List V), vs = [.ref a] ∧ H a = some (.tup tv) ∧ (∀ v ∈ tv, ∃ g, RowG H v g) ∧ tv.length ≤ 1000 ∧ ∀ H', Same H H' → Q (.bl true) H'
theorem sc_l_right : FnScope ["_law_helper", "_law_due_here", "_law_caught", "_law_found", "e"] ["_law_helper"] (defScope s_l_right) := ⟨rfl, rfl, rfl, by decide +kernel, rfl, by decide +kernel, by decide +kernel⟩
theorem ok_l_right {f : Addr} {fd : FuncData} (F : Fun K "_law_right" "_law_right" s_l_right f fd) (B : Bl mg) (hV : mg "ValueError" = none) (T : Exs K mg CA c0 c1 c2 c3 c4 c5 c6 c7 c8 c9) (n5 : NoAttr K c5 "row") (C_l_due : Cal P w K mg base 1 "_law_due" ["_law_rows"] spDue) (C_look_helper : CalR P w K mg base 4 "look_helper" ["helper"] (spLook c5)) : FnOk P w K mg base CX0 5 f fd ["_law_helper"] spRight := by
  refine F.ok sc_l_right (fun vs H Q E h => ?_) (fun cdv A outer s H vs Q E hr h => ?_)
  · obtain ⟨a, tv, rfl, _⟩ := h
    rfl
  obtain ⟨a, tv, rfl, ha, all, l200, q⟩ := h
  obtain ⟨gs, RG⟩ := rowsG_of all
  refine ⟨_, (pss_cons (ps_set (i := 1) sc_l_right.nd rfl (Or.inl rfl) (pe_cal C_l_due hr (by decide) rfl (pa_cons (pv 0) pa_nil)))
      (pss_cons (ps_set (i := 2) sc_l_right.nd rfl (Or.inl rfl) pe_non)
      (pss_cons (ps_set (i := 3) sc_l_right.nd rfl (Or.inl rfl) pe_non)
      (pss_cons (ps_try (i := 4) (CA := CA) sc_l_right.nd rfl rfl rfl T.gA T.iA (psw_set (i := 3) sc_l_right.nd rfl (Or.inl rfl) C_look_helper hr (by decide) rfl (fun W => pa_cons (pv 0) pa_nil)) (fun e => pss_one (ps_set (i := 2) sc_l_right.nd rfl (Or.inl rfl) (pv 4))))
      (pss_cons (ps_if (pt_cmpR op_isN (pv 1) pe_non (nomark _)) (pss_one (ps_ret (pe_cmpR op_isB (pv 3) pe_bl (nomark _)))) pss_nil)
      (pss_cons (ps_if (PW.pt (pw_or (pt_not (pt_val (pe_callB call_isiX rfl B.isinstance PyProof.Rows.boot_isinstance (pa_cons (pv 2) (pa_cons (pe_glob (v := .ref c5) rfl T.g5 rfl) pa_nil))))) (pw_or1 (pt_not (pt_val (pe_callB call_isiX rfl B.isinstance PyProof.Rows.boot_isinstance (pa_cons (pv 2) (pa_cons (pe_bltn (v := V.ty "ValueError") rfl hV boot_val rfl) pa_nil)))))))) (pss_one (ps_ret pe_bl)) pss_nil)
      (pss_cons (ps_if (pt_val (pe_callB call_isiX rfl B.isinstance PyProof.Rows.boot_isinstance (pa_cons (pv 2) (pa_cons (pe_tup (pa_cons (pe_glob (v := .ref c7) rfl T.g7 rfl) (pa_cons (pe_glob (v := .ref c3) rfl T.g3 rfl) (pa_cons (pe_glob (v := .ref c2) rfl T.g2 rfl) (pa_cons (pe_glob (v := .ref c8) rfl T.g8 rfl) (pa_cons (pe_glob (v := .ref c0) rfl T.g0 rfl) (pa_cons (pe_glob (v := .ref c6) rfl T.g6 rfl) (pa_cons (pe_glob (v := .ref c4) rfl T.g4 rfl) (pa_cons (pe_glob (v := .ref c9) rfl T.g9 rfl) (pa_cons (pe_glob (v := .ref c1) rfl T.g1 rfl) pa_nil)))))))))) pa_nil)))) (pss_one (ps_ret pe_bl)) pss_nil)
      (pss_one (ps_ret (pe_and (pe_callB call_isinst rfl B.isinstance PyProof.Rows.boot_isinstance (pa_cons (pe_fldX (pv 2) rfl) (pa_cons (pe_bltn (v := V.ty "int") rfl B.int boot_int' rfl) pa_nil))) (pe_and (pe_not (pe_callB call_isinst rfl B.isinstance PyProof.Rows.boot_isinstance (pa_cons (pe_fldX (pv 2) rfl) (pa_cons (pe_bltn (v := V.ty "bool") rfl B.bool boot_bool' rfl) pa_nil)))) (pe_one (pe_cmpR op_eq (pe_fldX (pv 2) rfl) (pv 1) (nomark _)))))))))))))), ?_⟩
  refine ⟨_, rfl, a, tv, gs, rfl, ha, RG, l200, fun o H1 dO S1 => ?_⟩
  refine ⟨_, rfl, a, tv, gs, rfl, S1 _ _ ha, RG.same (keepT_same S1), l200, fun H2 dn S2 => ?_, fun i e dx H2 di S2 he hd => ?_⟩
  · have eo := dO.uniq dn
    subst eo
    refine ⟨_, rfl, rfl, _, rfl, ?_⟩
    refine iteT ?_
    exact ⟨_, rfl, _, _, rfl, rfl, q _ (S1.trans S2)⟩
  · have eo := dO.uniq di
    subst eo
    refine ⟨e, c5, dx, rfl, rfl, he, T.x5, _, rfl, ?_⟩
    refine ⟨_, rfl, rfl, _, rfl, ?_⟩
    refine iteF ?_
    refine ⟨_, rfl, e, c5, CA, dx, _, _, rfl, .inr he, T.x5, .inl ⟨_, rfl, kit_same⟩, _, rfl, ?_⟩
    refine iteF ?_
    refine ⟨_, rfl, e, c5, CA, dx, _, _, rfl, .inr he, T.x5, .inr (.inl ⟨_, rfl, kit_val T.x5⟩), _, rfl, ?_⟩
    refine iteF ?_
    refine ⟨_, rfl, (by show 9 ≤ sizeLine; decide), fun tp htp => ?_⟩
    have S3 := Same.new htp (.tup [.ref c7, .ref c3, .ref c2, .ref c8, .ref c0, .ref c6, .ref c4, .ref c9, .ref c1])
    have nds := T.nd
    have ka : PySem.W.kitAny K (.ref c5) ([c7, c3, c2, c8, c0, c6, c4, c9, c1].map Value.ref) = some false := kitAny_no fun D hD => by
      simp only [List.nodup_cons, List.mem_cons, List.not_mem_nil, or_false, not_or] at nds
      simp only [List.mem_cons, List.not_mem_nil, or_false] at hD
      rcases hD with rfl | rfl | rfl | rfl | rfl | rfl | rfl | rfl | rfl
      · rw [kit_is T.x5 T.x7 T.n7, beq_eq_false_iff_ne.mpr (by grind)]
      · rw [kit_is T.x5 T.x3 T.n3, beq_eq_false_iff_ne.mpr (by grind)]
      · rw [kit_is T.x5 T.x2 T.n2, beq_eq_false_iff_ne.mpr (by grind)]
      · rw [kit_is T.x5 T.x8 T.n8, beq_eq_false_iff_ne.mpr (by grind)]
      · rw [kit_is T.x5 T.x0 T.n0, beq_eq_false_iff_ne.mpr (by grind)]
      · rw [kit_is T.x5 T.x6 T.n6, beq_eq_false_iff_ne.mpr (by grind)]
      · rw [kit_is T.x5 T.x4 T.n4, beq_eq_false_iff_ne.mpr (by grind)]
      · rw [kit_is T.x5 T.x9 T.n9, beq_eq_false_iff_ne.mpr (by grind)]
      · rw [kit_is T.x5 T.x1 T.n1, beq_eq_false_iff_ne.mpr (by grind)]
    refine ⟨e, c5, CA, dx, _, _, rfl, .inr (S3 _ _ he), T.x5, .inr (.inr ⟨tp, [c7, c3, c2, c8, c0, c6, c4, c9, c1], rfl, upd_same, ka⟩), _, rfl, ?_⟩
    refine iteF ?_
    refine ⟨_, rfl, e, c5, CA, dx, _, _, rfl, .inr (S3 _ _ he), S3 _ _ hd, lk1 _ _, T.x5, n5, _, _, "int", true, rfl, TyOf.int _, kit_self _ _, _, rfl, ?_⟩
    refine iteT ?_
    refine ⟨_, rfl, e, c5, CA, dx, _, _, rfl, .inr (S3 _ _ he), S3 _ _ hd, lk1 _ _, T.x5, n5, _, _, "bool", false, rfl, TyOf.int _, kit_int_bool _, _, rfl, _, rfl, ?_⟩
    refine iteT ?_
    refine ⟨_, rfl, e, c5, CA, dx, _, _, rfl, .inr (S3 _ _ he), S3 _ _ hd, lk1 _ _, T.x5, n5, _, rfl, rfl, ?_⟩
    have := q _ (S1.trans (S2.trans S3))
    rw [show decide (V.int (i : Int) = dueV (some i)) = true from decide_eq_true rfl]
    exact this
end
theorem keepT_lst {H : Hp} {b : Addr} {ys zs : List V} (h : H b = some (.lst ys)) : KeepT H (upd H b (.lst zs)) := fun a xs e => by
  rw [upd_ne (fun z => by rw [z, h] at e; cases e)]
  exact e
def Rows (H : Hp) (tv : List V) : Prop := ∀ v ∈ tv, ∃ g, RowG H v g
theorem Rows.mono {H H' : Hp} {tv : List V} (h : Rows H tv) (k : KeepT H H') : Rows H' tv := fun v hv => let ⟨g, r⟩ := h v hv; ⟨g, r.same k⟩
theorem Rows.snoc {H : Hp} {tv : List V} {v : V} (h : Rows H tv) (hv : ∃ g, RowG H v g) : Rows H (tv ++ [v]) := fun u hu => by
  rcases List.mem_append.mp hu with h' | h'
  · exact h u h'
  · rw [List.mem_singleton.mp h']
    exact hv
def spLed : Sp := fun vs H Q _ => ∃ (f : Addr) (v : V) (m : Int), vs = [.ref f, v, .int m] ∧ FeedAt H f ∧ (∃ g, RowG H v g) ∧ 0 < m ∧ m < 1000 ∧ ∀ (u : V) (H' : Hp), (∃ g, RowG H' u g) → FeedAt H' f → SameBut f H H' → Q u H'
theorem sc_l_led : FnScope ["_law_feed_here", "_law_row", "_law_many"] ["_law_feed_here", "_law_row", "_law_many"] (defScope s_l_led) := ⟨rfl, rfl, rfl, by decide +kernel, rfl, by decide +kernel, by decide +kernel⟩
theorem ok_l_led {f : Addr} {fd : FuncData} (F : Fun K "_law_led" "_law_led" s_l_led f fd) (C_l_take : Cal P w K mg base 1 "_law_take" ["_law_feed_here", "_law_many"] spTake) : FnOk P w K mg base CX0 2 f fd ["_law_feed_here", "_law_row", "_law_many"] spLed := by
  refine F.ok sc_l_led (fun vs H Q E h => ?_) (fun cdv A outer s H vs Q E hr h => ?_)
  · obtain ⟨f, v, m, rfl, _⟩ := h
    rfl
  obtain ⟨f, v, m, rfl, F0, ⟨g, hg⟩, m0, m1, q⟩ := h
  refine ⟨_, (pss_cons (ps_if (pt_cmpR op_eq (pe_ix ix_tup (pv 1) pe_int (fun _ _ => rfl)) pe_str (nomark _)) (pss_one (ps_ret (pe_tup (pa_cons pe_str (pa_cons (pe_cal C_l_take hr (by decide) rfl (pa_cons (pv 0) (pa_cons (pv 2) pa_nil))) pa_nil))))) pss_nil)
      (pss_cons (ps_if (pt_cmpR op_eq (pe_ix ix_tup (pv 1) pe_int (fun _ _ => rfl)) pe_str (nomark _)) (pss_one (ps_ret (pe_tup (pa_cons pe_str (pa_cons (pe_ix ix_tup (pv 1) pe_int (fun _ _ => rfl)) (pa_cons (pe_cal C_l_take hr (by decide) rfl (pa_cons (pv 0) (pa_cons (pv 2) pa_nil))) pa_nil)))))) pss_nil)
      (pss_one (ps_ret (pv 1))))), ?_⟩
  cases hg with
  | @go r n e n0 =>
    refine ⟨_, rfl, r, _, 0, _, rfl, rfl, SqT.of e, at0 .., rfl, _, rfl, ?_⟩
    refine iteT ?_
    refine ⟨_, rfl, _, rfl, f, m, rfl, F0, m0, by omega, fun d H1 d0 d1 F1 B1 => ⟨(by show 2 ≤ sizeLine; decide), fun p hp => ?_⟩⟩
    exact q _ _ ⟨_, .go upd_same d0⟩ (F1.same (Same.new hp _)) (SameBut.new B1 hp)
  | @iff r u n e n0 =>
    refine ⟨_, rfl, r, _, 0, _, rfl, rfl, SqT.of e, at0 .., rfl, _, rfl, ?_⟩
    refine iteF ?_
    refine ⟨_, rfl, r, _, 0, _, rfl, rfl, SqT.of e, at0 .., rfl, _, rfl, ?_⟩
    refine iteT ?_
    refine ⟨_, rfl, r, _, 1, _, rfl, rfl, SqT.of e, at1 .., ?_⟩
    refine ⟨_, rfl, _, rfl, f, m, rfl, F0, m0, by omega, fun d H1 d0 d1 F1 B1 => ⟨(by show 3 ≤ sizeLine; decide), fun p hp => ?_⟩⟩
    exact q _ _ ⟨_, .iff upd_same d0⟩ (F1.same (Same.new hp _)) (SameBut.new B1 hp)
  | @no r x xs e h1 h2 l =>
    refine ⟨_, rfl, r, _, 0, _, rfl, rfl, SqT.of e, at0 .., rfl, _, rfl, ?_⟩
    rw [decide_eq_false (fun z : V.str x = .str "go" => h1 (by injection z))]
    refine iteF ?_
    refine ⟨_, rfl, r, _, 0, _, rfl, rfl, SqT.of e, at0 .., rfl, _, rfl, ?_⟩
    rw [decide_eq_false (fun z : V.str x = .str "if" => h2 (by injection z))]
    refine iteF ?_
    exact ⟨_, rfl, q _ _ ⟨_, .no e h1 h2 l⟩ F0 (SameBut.refl _ _)⟩
def spGood : Sp := fun vs H Q _ => ∃ (f b : Addr) (bs : List Str), vs = [.ref f, .ref b] ∧ FeedAt H f ∧ H b = some (.lst (bs.map V.str)) ∧ b ≠ f ∧ Boxes bs ∧
  ∀ (l : Addr) (tv : List V) (H' : Hp), H l = none → l ≠ f → H' l = some (.lst tv) → Rows H' tv → tv.length ≤ 60 → FeedAt H' f → SameBut f H H' → Q (.ref l) H'
theorem sc_l_good : FnScope ["_law_feed_here", "_law_boxes", "_law_many", "_law_rows"] ["_law_feed_here", "_law_boxes"] (defScope s_l_good) := ⟨rfl, rfl, rfl, by decide +kernel, rfl, by decide +kernel, by decide +kernel⟩
theorem ok_l_good {f : Addr} {fd : FuncData} (F : Fun K "_law_good" "_law_good" s_l_good f fd) (B : Bl mg) (C_l_take : Cal P w K mg base 1 "_law_take" ["_law_feed_here", "_law_many"] spTake) (C_l_any_row : Cal P w K mg base 12 "_law_any_row" ["_law_feed_here", "_law_boxes", "_law_room"] spRow) (C_l_led : Cal P w K mg base 2 "_law_led" ["_law_feed_here", "_law_row", "_law_many"] spLed) : FnOk P w K mg base CX0 13 f fd ["_law_feed_here", "_law_boxes"] spGood := by
  refine F.ok sc_l_good (fun vs H Q E h => ?_) (fun cdv A outer s H vs Q E hr h => ?_)
  · obtain ⟨f, b, bs, rfl, _⟩ := h
    rfl
  obtain ⟨f, b, bs, rfl, F0, hb, nb, bx, q⟩ := h
  refine ⟨_, (pss_cons (ps_set (i := 2) sc_l_good.nd rfl (by first | exact Or.inl rfl | exact Or.inr rfl) (pe_ix ix_list (pe_lst (pa_cons (pe_cal C_l_take hr (by decide) rfl (pa_cons (pv 0) (pa_cons pe_int pa_nil))) (pa_cons (pe_cal C_l_take hr (by decide) rfl (pa_cons (pv 0) (pa_cons pe_int pa_nil))) pa_nil))) (pe_op op_fdivL (pe_cal C_l_take hr (by decide) rfl (pa_cons (pv 0) (pa_cons pe_int pa_nil))) pe_int) (fun _ _ => rfl)))
      (pss_cons (ps_comp (i := 3) (N := ["_law_feed_here", "_law_boxes"]) (ix := [0, 1]) sc_l_good.nd rfl (Or.inl rfl) rfl
          (CompScope.two (by with_unfolding_all rfl) (by decide) rfl (by decide) rfl (by decide +kernel) (by first | exact Or.inl rfl | exact Or.inr rfl) (by with_unfolding_all rfl) (by with_unfolding_all rfl) (by with_unfolding_all rfl) (by with_unfolding_all rfl) rfl rfl (by with_unfolding_all rfl) rfl rfl) rfl
          (pi_range1 rfl B.range (pa_cons (pv 2) pa_nil))
          (fun _ _ _ => pb_all (pe_cal C_l_any_row hr (by decide) rfl (pa_cons (pv 1) (pa_cons (pv 2) (pa_cons pe_int pa_nil))))))
      (pss_one (ps_ret (pe_comp (N := ["_law_feed_here", "_law_many"]) (ix := [0, 2]) rfl
          (CompScope.two (by with_unfolding_all rfl) (by decide) rfl (by decide) rfl (by decide +kernel) (by first | exact Or.inl rfl | exact Or.inr rfl) (by with_unfolding_all rfl) (by with_unfolding_all rfl) (by with_unfolding_all rfl) (by with_unfolding_all rfl) rfl rfl (by with_unfolding_all rfl) rfl rfl) rfl
          (pi_list (pv 3))
          (fun _ _ _ => pb_all (pe_cal C_l_led hr (by decide) rfl (pa_cons (pv 1) (pa_cons (pv 0) (pa_cons (pv 2) pa_nil)))))))))), ?_⟩
  refine ⟨_, rfl, f, 9, rfl, F0, by decide, by decide, fun d1 H1 a0 a1 F1 B1 => ?_⟩
  refine ⟨_, rfl, f, 61, rfl, F1, by decide, by decide, fun d2 H2 b0 b1 F2 B2 => ?_⟩
  refine ⟨(by show 2 ≤ sizeLine; decide), fun L hL => ?_⟩
  have GL := Same.new hL (.lst ([d1, d2].map V.int))
  have eL : upd H2 L (.lst ([d1, d2].map V.int)) L = some (.lst ([d1, d2].map V.int)) := upd_same
  have Lf := F2.ne hL
  refine ⟨_, rfl, f, 8, rfl, F2.same GL, by decide, by decide, fun d3 H3 c0 c1 F3 B3 => ?_⟩
  obtain ⟨m, hm, mm⟩ := atI_mem (ns := [d1, d2]) (k := d3 / 7) (by omega) (by show d3 / 7 < 2; omega)
  have mr : 0 ≤ m ∧ m ≤ 60 := by
    simp only [List.mem_cons, List.not_mem_nil, or_false] at mm
    omega
  have B13 : SameBut f H H3 := B1.trans (B2.trans ((SameBut.of GL).trans B3))
  refine ⟨_, _, rfl, rfl, ⟨by decide, by decide⟩, L, _, _, _, rfl, rfl, SqL.of (B3 _ _ Lf eL), hm, ?_⟩
  refine ⟨_, rfl, m, rfl, by omega, by omega, fun D hD => ?_⟩
  have Df := F3.ne hD
  have D0 : H D = none := by
    cases e : H D with
    | none => rfl
    | some o => rw [B13 D o Df e] at hD; cases hD
  have bD : b ≠ D := ne_of_none hb D0
  refine comp_range (n := m.toNat) (fun i H' => ∃ (tv : List V), H' D = some (.lst tv) ∧ Rows H' tv ∧ tv.length = i ∧ FeedAt H' f ∧ SameBut f H H') ⟨[], upd_same, (fun v hv => by cases hv), rfl, F3.same (Same.new hD _), SameBut.new B13 hD⟩ ?_ ?_
  · rintro i H4 hi ⟨tv, hD4, R4, rl, F4, B4⟩
    refine ⟨_, rfl, _, rfl, f, b, bs, 9, rfl, F4, B4 _ _ nb hb, nb, bx, by decide, by decide, fun v r H5 hv hk F5 B5 => ?_⟩
    have hD5 := B5 _ _ Df hD4
    have k5 : KeepT H5 (upd H5 D (.lst (tv ++ [v]))) := keepT_lst hD5
    refine ⟨_, hD5, small1000 (by omega), Nx.of hi ⟨tv ++ [v], upd_same, ((R4.mono (keepT_feed F4 B5)).mono k5).snoc ((hv.mono k5).rowG hk), ?_, feed_upd F5 Df, fun c o hc e => ?_⟩⟩
    · rw [List.length_append, List.length_singleton, rl]
    · rw [upd_ne (ne_of_none e D0)]
      exact B5 c o hc (B4 c o hc e)
  rintro H4 ⟨tv, hD4, R4, rl, F4, B4⟩
  refine ⟨_, rfl, D, rfl, ⟨_, SqL.of hD4⟩, fun D2 hD2 => ?_⟩
  have D2f := F4.ne hD2
  have D20 : H D2 = none := by
    cases e : H D2 with
    | none => rfl
    | some o => rw [B4 D2 o D2f e] at hD2; cases hD2
  have DD : D ≠ D2 := ne_of_none hD4 hD2
  refine comp_list (K := K) (xs := tv) (fun i H' => ∃ (uv : List V), H' D2 = some (.lst uv) ∧ Rows H' uv ∧ Rows H' tv ∧ uv.length = i ∧ H' D = some (.lst tv) ∧ FeedAt H' f ∧ SameBut f H H') ⟨[], upd_same, (fun v hv => by cases hv), R4.mono (keepT_same (Same.new hD2 _)), rfl, Same.new hD2 _ _ _ hD4, F4.same (Same.new hD2 _), SameBut.new B4 hD2⟩ (fun i H' _ hst => by obtain ⟨_, _, _, _, _, h, _⟩ := hst; exact SqL.of h) ?_ ?_
  · rintro i z H5 hz ⟨uv, hD5, U5, R5, ul, hT5, F5, B5⟩
    have hi : i < tv.length := (List.getElem?_eq_some_iff.mp hz).1
    refine ⟨_, rfl, _, rfl, _, rfl, f, z, m, rfl, F5, R5 z (List.mem_of_getElem? hz), by omega, by omega, fun u H6 hu F6 B6 => ?_⟩
    have hD6 := B6 _ _ D2f hD5
    have k6 : KeepT H6 (upd H6 D2 (.lst (uv ++ [u]))) := keepT_lst hD6
    have kf := keepT_feed F5 B6
    refine ⟨_, hD6, small1000 (by omega), Nx.of hi ⟨uv ++ [u], upd_same, ((U5.mono kf).mono k6).snoc (let ⟨g, hg⟩ := hu; ⟨g, hg.same k6⟩), (R5.mono kf).mono k6, ?_, ?_, feed_upd F6 D2f, fun c o hc e => ?_⟩⟩
    · rw [List.length_append, List.length_singleton, ul]
    · rw [upd_ne DD]
      exact B6 _ _ Df hT5
    · rw [upd_ne (ne_of_none e D20)]
      exact B6 c o hc (B5 c o hc e)
  rintro H5 ⟨uv, hD5, U5, R5, ul, hT5, F5, B5⟩
  exact q D2 uv H5 D20 D2f hD5 U5 (by omega) F5 B5
theorem mem_cut {xs : List V} {lo hi : Option Int} {v : V} (h : v ∈ cutV xs lo hi) : v ∈ xs := List.mem_of_mem_drop (List.mem_of_mem_take h)
def spBeyond : Sp := fun vs H Q _ => ∃ (f b l : Addr) (bs : List Str) (tv : List V), vs = [.ref f, .ref b, .ref l] ∧ FeedAt H f ∧ H b = some (.lst (bs.map V.str)) ∧ b ≠ f ∧ Boxes bs ∧ H l = some (.lst tv) ∧ l ≠ f ∧ Rows H tv ∧ 1 ≤ tv.length ∧ tv.length ≤ 400 ∧
  ∀ (l' : Addr) (uv : List V) (H' : Hp), l' ≠ f → H' l' = some (.lst uv) → Rows H' uv → 1 ≤ uv.length → uv.length ≤ 2 * tv.length + 1 → FeedAt H' f → SameBut f H H' → Q (.ref l') H'
theorem sc_l_beyond : FnScope ["_law_feed_here", "_law_boxes", "_law_rows", "_law_at", "_law_goal", "_law_row"] ["_law_feed_here", "_law_boxes", "_law_rows"] (defScope s_l_beyond) := ⟨rfl, rfl, rfl, by decide +kernel, rfl, by decide +kernel, by decide +kernel⟩
theorem ok_l_beyond {f : Addr} {fd : FuncData} (F : Fun K "_law_beyond" "_law_beyond" s_l_beyond f fd) (B : Bl mg) (C_l_take : Cal P w K mg base 1 "_law_take" ["_law_feed_here", "_law_many"] spTake) (C_l_any_term : Cal P w K mg base 11 "_law_any_term" ["_law_feed_here", "_law_boxes", "_law_room", "_law_deep"] (spTerm 8)) : FnOk P w K mg base CX0 13 f fd ["_law_feed_here", "_law_boxes", "_law_rows"] spBeyond := by
  refine F.ok sc_l_beyond (fun vs H Q E h => ?_) (fun cdv A outer s H vs Q E hr h => ?_)
  · obtain ⟨f, b, l, bs, tv, rfl, _⟩ := h
    rfl
  obtain ⟨f, b, l, bs, tv, rfl, F0, hb, nb, bx, hl, lf, R0, l1, l400, q⟩ := h
  refine ⟨_, (pss_cons (ps_set (i := 3) sc_l_beyond.nd rfl (Or.inl rfl) (pe_cal C_l_take hr (by decide) rfl (pa_cons (pv 0) (pa_cons (pe_callB call_len_seq rfl B.len PySem.boot_len (pa_cons (pv 2) pa_nil)) pa_nil))))
      (pss_cons (ps_set (i := 4) sc_l_beyond.nd rfl (Or.inl rfl) (pe_op op_add (pe_callB call_len_seq rfl B.len PySem.boot_len (pa_cons (pv 2) pa_nil)) (pe_ix ix_list (pe_lst (pa_cons pe_int (pa_cons (pe_cal C_l_take hr (by decide) rfl (pa_cons (pv 0) (pa_cons pe_int pa_nil))) (pa_cons (pe_cal C_l_take hr (by decide) rfl (pa_cons (pv 0) (pa_cons (pe_op op_sub (pe_op op_pow pe_int pe_int) pe_int) pa_nil))) pa_nil)))) (pe_cal C_l_take hr (by decide) rfl (pa_cons (pv 0) (pa_cons pe_int pa_nil))) (fun _ _ => rfl))))
      (pss_cons (ps_set (i := 5) sc_l_beyond.nd rfl (Or.inl rfl) (pe_tup (pa_cons pe_str (pa_cons (pv 4) pa_nil))))
      (pss_cons (ps_if (PW.pt (pw_or (pt_cmpR op_eq (pe_ix ix_tup (pe_ix ix_list (pv 2) (pv 3) (fun _ _ => rfl)) pe_int (fun _ _ => rfl)) pe_str (nomark _)) (pw_or1 (pt_cmpR op_eq (pe_cal C_l_take hr (by decide) rfl (pa_cons (pv 0) (pa_cons pe_int pa_nil))) pe_int (nomark _))))) (pss_one (ps_set (i := 5) sc_l_beyond.nd rfl (Or.inl rfl) (pe_tup (pa_cons pe_str (pa_cons (pe_cal C_l_any_term hr (by decide) rfl (pa_cons (pv 0) (pa_cons (pv 1) (pa_cons pe_int (pa_cons pe_int pa_nil))))) (pa_cons (pv 4) pa_nil)))))) pss_nil)
      (pss_one (ps_ret (pe_op op_cat (pe_op op_cat (pe_slice sl_list (pv 2) po_none (po_some (pv 3))) (pe_lst (pa_cons (pv 5) pa_nil))) (pe_slice sl_list (pv 2) (po_some (pe_op op_add (pv 3) pe_int)) po_none)))))))), ?_⟩
  refine ⟨_, rfl, _, rfl, l, _, rfl, .inl (SqL.of hl), f, _, rfl, F0, by omega, by omega, fun at' H1 a0 a1 F1 B1 => ?_⟩
  have hl1 := B1 _ _ lf hl
  refine ⟨_, rfl, l, _, rfl, .inl (SqL.of hl1), _, rfl, f, 3, rfl, F1, by decide, by decide, fun d1 H2 b0 b1 F2 B2 => ?_⟩
  refine ⟨_, rfl, _, _, rfl, rfl, ⟨by decide, by decide, by decide⟩, _, _, rfl, rfl, f, _, rfl, F2, by decide, by decide, fun d2 H3 c0 c1 F3 B3 => ?_⟩
  refine ⟨(by show 3 ≤ sizeLine; decide), fun L hL => ?_⟩
  have GL := Same.new hL (.lst ([0, d1, d2].map V.int))
  have eL : upd H3 L (.lst ([0, d1, d2].map V.int)) L = some (.lst ([0, d1, d2].map V.int)) := upd_same
  have Lf := F3.ne hL
  refine ⟨_, rfl, f, 3, rfl, F3.same GL, by decide, by decide, fun d3 H4 e0 e1 F4 B4 => ?_⟩
  obtain ⟨m, hm, mm⟩ := atI_mem (ns := [0, d1, d2]) e0 e1
  have m0 : 0 ≤ m := by
    simp only [List.mem_cons, List.not_mem_nil, or_false] at mm
    omega
  have B14 : SameBut f H H4 := B1.trans (B2.trans (B3.trans ((SameBut.of GL).trans B4)))
  refine ⟨L, _, _, _, rfl, rfl, SqL.of (B4 _ _ Lf eL), hm, _, _, rfl, rfl, ?_⟩
  refine ⟨_, rfl, (by show 2 ≤ sizeLine; decide), fun p hp => ?_⟩
  have Gp := Same.new hp (.tup [.str "go", .int (((tv.length : Nat) : Int) + m)])
  have hl5 := Gp _ _ (B14 _ _ lf hl)
  have hb5 := Gp _ _ (B14 _ _ nb hb)
  have F5 := F4.same Gp
  have R5 : Rows _ tv := (R0.mono (keepT_feed F0 B14)).mono (keepT_same Gp)
  have g0 : (0 : Int) ≤ ((tv.length : Nat) : Int) + m := by omega
  have rp : ∃ g, RowG (upd H4 p (.tup [.str "go", .int (((tv.length : Nat) : Int) + m)])) (.ref p) g := ⟨_, .go upd_same g0⟩
  have B5 : SameBut f H (upd H4 p (.tup [.str "go", .int (((tv.length : Nat) : Int) + m)])) := SameBut.new B14 hp
  generalize upd H4 p (.tup [.str "go", .int (((tv.length : Nat) : Int) + m)]) = H5 at *
  obtain ⟨z, hz, zm⟩ := at_in (l := tv) (i := at') a0 a1
  obtain ⟨g, hg⟩ := R5 z zm
  obtain ⟨r, x, xs, rfl, er, _⟩ := hg.cases'
  refine ⟨_, rfl, _, rfl, l, _, at', _, rfl, rfl, SqL.of hl5, hz, r, _, 0, _, rfl, rfl, SqT.of er, at0 .., rfl, _, rfl, ?_⟩
  have made : ∀ {H6 : Hp} {u : V} {p2 : Addr}, H6 p2 = none → ∃ g, RowG (upd H6 p2 (.tup [.str "if", u, .int (((tv.length : Nat) : Int) + m)])) (.ref p2) g := fun _ => ⟨_, .iff upd_same g0⟩
  refine ite2 (fun _ => ?b1) (fun _ => ?b2)
  case' b1 =>
    refine ⟨_, rfl, _, rfl, f, b, bs, 9, 8, rfl, F5, hb5, nb, bx, by decide, by decide, by decide, by decide, fun u t H6 T6 ok6 sz6 dp6 F6 B6 => ?_⟩
    refine ⟨_, rfl, (by show 3 ≤ sizeLine; decide), fun p2 hp2 => ?_⟩
    obtain ⟨Ht, eH, vv, ev, rv, Ft, Bt⟩ : ∃ Ht, upd H6 p2 (.tup [.str "if", u, .int (((tv.length : Nat) : Int) + m)]) = Ht ∧ ∃ vv, V.ref p2 = vv ∧ (∃ g, RowG Ht vv g) ∧ FeedAt Ht f ∧ SameBut f H5 Ht := ⟨_, rfl, _, rfl, made hp2, F6.same (Same.new hp2 _), SameBut.new B6 hp2⟩
    subst eH ev
  case' b2 =>
    refine ⟨_, rfl, f, 2, rfl, F5, by decide, by decide, fun d4 H5' f0' f1' F5' B5' => ⟨rfl, _, rfl, ?_⟩⟩
    refine ite2 (fun _ => ?b3) (fun _ => ?b4)
    case' b3 =>
      refine ⟨_, rfl, _, rfl, f, b, bs, 9, 8, rfl, F5', B5' _ _ nb hb5, nb, bx, by decide, by decide, by decide, by decide, fun u t H6 T6 ok6 sz6 dp6 F6 B6 => ?_⟩
      refine ⟨_, rfl, (by show 3 ≤ sizeLine; decide), fun p2 hp2 => ?_⟩
      obtain ⟨Ht, eH, vv, ev, rv, Ft, Bt⟩ : ∃ Ht, upd H6 p2 (.tup [.str "if", u, .int (((tv.length : Nat) : Int) + m)]) = Ht ∧ ∃ vv, V.ref p2 = vv ∧ (∃ g, RowG Ht vv g) ∧ FeedAt Ht f ∧ SameBut f H5 Ht := ⟨_, rfl, _, rfl, made hp2, F6.same (Same.new hp2 _), SameBut.new (B5'.trans B6) hp2⟩
      subst eH ev
    case' b4 =>
      obtain ⟨Ht, eH, vv, ev, rv, Ft, Bt⟩ : ∃ Ht, H5' = Ht ∧ ∃ vv, V.ref p = vv ∧ (∃ g, RowG Ht vv g) ∧ FeedAt Ht f ∧ SameBut f H5 Ht := ⟨_, rfl, _, rfl, (let ⟨g, h⟩ := rp; ⟨g, h.same (keepT_feed F5 B5')⟩), F5', B5'⟩
      subst eH ev
  all_goals
    have hlt := Bt _ _ lf hl5
    have Rt := R5.mono (keepT_feed F5 Bt)
    have BB := B5.trans Bt
    refine ⟨_, rfl, _, rfl, at', rfl, l, _, rfl, SqL.of hlt, fun p1 hp1 => ?_⟩
    have G1 := Same.new hp1 (.lst (cutV tv none (some at')))
    refine ⟨_, rfl, (by show 1 ≤ sizeLine; decide), fun p6 hp6 => ?_⟩
    have c1 := cutV_length tv none (some at')
    have c2 := cutV_length tv (some (at' + 1)) none
    refine ⟨p1, p6, _, _, rfl, rfl, Same.new hp6 _ _ _ upd_same, upd_same, small (by show _ + 1 ≤ 1000; omega), fun p3 hp3 => ?_⟩
    refine ⟨_, rfl, _, rfl, _, _, rfl, rfl, at' + 1, rfl, l, _, rfl, SqL.of (Same.new hp3 _ _ _ (Same.new hp6 _ _ _ (G1 _ _ hlt))), fun p4 hp4 => ?_⟩
    refine ⟨p3, p4, _, _, rfl, rfl, Same.new hp4 _ _ _ upd_same, upd_same, small (by rw [List.length_append]; show _ + 1 + _ ≤ 1000; omega), fun p5 hp5 => ?_⟩
    have S4 := G1.trans ((Same.new hp6 _).trans ((Same.new hp3 _).trans (Same.new hp4 (.lst (cutV tv (some (at' + 1)) none)))))
    have F4' := Ft.same S4
    refine q p5 _ _ (F4'.ne hp5) upd_same (fun v hv => ?_) ?_ ?_ (F4'.same (Same.new hp5 _)) (BB.trans (SameBut.of (S4.trans (Same.new hp5 _))))
    · rcases List.mem_append.mp hv with h | h
      · rcases List.mem_append.mp h with h | h
        · exact ((Rt.mono (keepT_same S4)).mono (keepT_same (Same.new hp5 _))) v (mem_cut h)
        · rw [List.mem_singleton.mp h]
          obtain ⟨g, hg⟩ := rv
          exact ⟨g, (hg.same (keepT_same S4)).same (keepT_same (Same.new hp5 _))⟩
      · exact ((Rt.mono (keepT_same S4)).mono (keepT_same (Same.new hp5 _))) v (mem_cut h)
    · rw [List.length_append, List.length_append]
      show 1 ≤ _ + 1 + _
      omega
    · rw [List.length_append, List.length_append]
      show _ + 1 + _ ≤ _
      omega
def LST : Str := "qxzjb"
theorem lst_ok : ∀ c ∈ LST.cps.toList, 97 ≤ c ∧ c ≤ 122 := by decide +kernel
theorem lst_len : LST.cps.toList.length = 5 := by decide +kernel
theorem lst_not : ∀ x ∈ kept, ∀ c ∈ LST.cps.toList, x.cps.toList.getLast? ≠ some c := by decide +kernel
def cd (x : Str) : List Nat := x.cps.toList
theorem cd_len (x : Str) : (cd x).length = x.length := by unfold cd; rw [Array.length_toList]; rfl
theorem new_name {x : Str} {c : Nat} (h : NmK x) (hc : c ∈ LST.cps.toList) : NmK (Txt.slice x none (some 5) ++ ⟨#[c]⟩) := by
  have zl : ((⟨#[c]⟩ : Str)).length = 1 := rfl
  have e5 : (Txt.slice x none (some 5)).length ≤ 5 := by
    by_cases c5 : (5 : Int) ≤ (x.cps.toList.length : Int)
    · have es : Txt.slice x none (some 5) = ⟨((x.cps.toList.drop 0).take ((5 : Int) - 0).toNat).toArray⟩ := StrLaws.sliceText_to ⟨by decide, c5⟩
      rw [es]
      show (List.toArray _).size ≤ 5
      simp only [List.size_toArray, List.length_take]
      omega
    · have := Txt.slice_le x none (some 5)
      have := cd_len x
      unfold cd at this
      omega
  refine ⟨fun d hd => ?_, by rw [Str.length_append, zl]; omega, by rw [Str.length_append, zl]; omega, fun hk => ?_⟩
  · rcases mem_append hd with h' | h'
    · exact h.1 d (mem_slice h')
    · have : d = c := by simpa using h'
      rw [this]
      exact lst_ok c hc
  · refine lst_not _ hk c hc ?_
    rw [Str.cps_append]
    simp
theorem sc_law : FnScope ["_law_script", "_law_feed_here", "_law_boxes", "_law_good_here", "_law_rows", "_law_k", "_law_helper"] ["_law_script"] (defScope s_law) := ⟨rfl, rfl, rfl, by decide +kernel, rfl, by decide +kernel, by decide +kernel⟩
theorem ok_law {f : Addr} {fd : FuncData} (F : Fun K "law" "law" s_law f fd) (B : Bl mg) (C_l_feed : Cal P w K mg base 1 "_law_feed" ["_law_script", "_law_k"] (spFeed K)) (C_l_take : Cal P w K mg base 1 "_law_take" ["_law_feed_here", "_law_many"] spTake) (C_l_name : Cal P w K mg base 2 "_law_name" ["_law_feed_here"] spName) (C_l_good : Cal P w K mg base 13 "_law_good" ["_law_feed_here", "_law_boxes"] spGood) (C_l_beyond : Cal P w K mg base 13 "_law_beyond" ["_law_feed_here", "_law_boxes", "_law_rows"] spBeyond) (C_l_right : Cal P w K mg base 5 "_law_right" ["_law_helper"] spRight) : FnOk P w K mg base CX0 14 f fd ["_law_script"] (spLaw K) := by
  refine F.ok sc_law (fun vs H Q E h => ?_) (fun cdv A outer s H vs Q E hr h => ?_)
  · obtain ⟨a, ns, rfl, _⟩ := h
    rfl
  obtain ⟨a, ns, rfl, hS, h63, q⟩ := h
  refine ⟨_, (pss_cons (ps_set (i := 1) sc_law.nd rfl (Or.inr rfl) (pe_cal C_l_feed hr (by decide) rfl (pa_cons (pv 0) (pa_cons pe_int pa_nil))))
      (pss_cons (ps_comp (i := 2) (N := ["_law_feed_here"]) (ix := [1]) sc_law.nd rfl (Or.inl rfl) rfl
        (CompScope.one (by with_unfolding_all rfl) (by decide) rfl (by decide) rfl (by decide +kernel) (by with_unfolding_all rfl) (by with_unfolding_all rfl) (by with_unfolding_all rfl) rfl rfl) rfl
        (pi_range1 rfl B.range (pa_cons pe_int pa_nil))
        (fun _ _ _ => pb_all (pe_cal C_l_name hr (by decide) rfl (pa_cons (pv 1) pa_nil))))
      (pss_cons (ps_if (pt_cmpR op_eq (pe_cal C_l_take hr (by decide) rfl (pa_cons (pv 1) (pa_cons pe_int pa_nil))) pe_int (nomark _)) (pss_one (ps_asg (pe_op op_add_str (pe_slice sl_str (pe_ix ix_list (pv 2) pe_int (fun _ _ => rfl)) po_none (po_some pe_int)) (pe_ix ix_str pe_str (pe_cal C_l_take hr (by decide) rfl (pa_cons (pv 1) (pa_cons pe_int pa_nil))) (fun _ _ => rfl))) (pg_sub (pv 2) pe_int set_list))) pss_nil)
      (pss_cons (ps_set (i := 1) sc_law.nd rfl (Or.inr rfl) (pe_cal C_l_feed hr (by decide) rfl (pa_cons (pv 0) (pa_cons pe_int pa_nil))))
      (pss_cons (ps_set (i := 3) sc_law.nd rfl (Or.inl rfl) (pe_cal C_l_good hr (by decide) rfl (pa_cons (pv 1) (pa_cons (pv 2) pa_nil))))
      (pss_cons (ps_set (i := 4) sc_law.nd rfl (Or.inl rfl) (pv 3))
      (pss_cons (ps_for PassesOwn.never rfl (pi_range1 rfl B.range (pa_cons (pe_op op_mul (pe_cal C_l_take hr (by decide) rfl (pa_cons (pv 1) (pa_cons pe_int pa_nil))) (pe_callTy call_int1 rfl B.int boot_int' (pa_cons (pe_cmpR (op_neNil (Nat.lt_of_le_of_lt (Nat.le_add_right _ _) hr.units)) (pv 3) (pe_lst pa_nil) (nomark _)) pa_nil))) pa_nil)) (pg_name (i := 5) sc_law.nd rfl (Or.inl rfl)) (pss_one (ps_set (i := 4) sc_law.nd rfl (Or.inl rfl) (pe_cal C_l_beyond hr (by decide) rfl (pa_cons (pv 1) (pa_cons (pv 2) (pa_cons (pv 4) pa_nil)))))))
      (pss_cons (ps_set (i := 6) sc_law.nd rfl (Or.inl rfl) (pe_callTy call_tuple_of rfl B.tuple boot_tuple' (pa_cons (pv 4) pa_nil)))
      (pss_one (ps_ret (pe_and (pe_cal C_l_right hr (by decide) rfl (pa_cons (pv 6) pa_nil)) (pe_and (pe_cal C_l_right hr (by decide) rfl (pa_cons (pe_callTy call_tuple_of rfl B.tuple boot_tuple' (pa_cons (pv 3) pa_nil)) pa_nil)) (pe_and (pe_cal C_l_right hr (by decide) rfl (pa_cons (pv 6) pa_nil)) (pe_one (pe_cal C_l_right hr (by decide) rfl (pa_cons (pe_tup pa_nil) pa_nil)))))))))))))))), ?_⟩
  refine ⟨_, rfl, a, ns, 1, rfl, hS, h63, by decide, by decide, fun f0 H1 f00 s1 F1 => ?_⟩
  refine ⟨4, rfl, by decide, by decide, fun D hD => ?_⟩
  have Df := F1.ne hD
  refine comp_range (n := 4) (fun i H' => ∃ bs : List Str, H' D = some (.lst (bs.map V.str)) ∧ bs.length = i ∧ (∀ x ∈ bs, NmK x) ∧ FeedAt H' f0 ∧ SameBut f0 H1 H') ⟨[], by rw [upd_same]; rfl, rfl, (fun x hx => by cases hx), F1.same (Same.new hD _), SameBut.of (Same.new hD _)⟩ ?_ ?_
  · rintro i H2 hi ⟨bs, hD2, bl, bk, F2, B2⟩
    refine ⟨_, rfl, f0, rfl, F2, fun x H3 xk F3 B3 => ?_⟩
    have hD3 := B3 _ _ Df hD2
    refine ⟨_, hD3, small1000 (by rw [List.length_map]; omega), Nx.of hi ⟨bs ++ [x], ?_, ?_, ?_, feed_upd F3 Df, fun c o hc e => ?_⟩⟩
    · rw [upd_same, List.map_append]
      rfl
    · rw [List.length_append, List.length_singleton, bl]
    · intro y hy
      rcases List.mem_append.mp hy with h | h
      · exact bk y h
      · rw [List.mem_singleton.mp h]
        exact xk
    · rw [upd_ne (ne_of_none e hD)]
      exact B3 c o hc (B2 c o hc e)
  rintro H2 ⟨bs, hD2, bl, bk, F2, B2⟩
  have S2 : Same H H2 := fun b o e => B2 b o (ne_of_none e f00) (s1 b o e)
  have D0 : H D = none := s1.free hD
  refine ⟨_, rfl, f0, 2, rfl, F2, by decide, by decide, fun d1 H3 a0 a1 F3 B3 => ?_⟩
  have hD3 := B3 _ _ Df hD2
  have S3 : Same H H3 := fun b o e => B3 b o (ne_of_none e f00) (S2 b o e)
  refine ⟨rfl, _, rfl, ?_⟩
  refine ite2 (fun _ => ?b1) (fun _ => ?b2)
  case' b1 =>
    obtain ⟨b0, b1, bs', rfl⟩ : ∃ b0 b1 bs', bs = b0 :: b1 :: bs' := by
      match bs, bl with
      | b0 :: b1 :: bs', _ => exact ⟨b0, b1, bs', rfl⟩
    have nb0 := bk b0 List.mem_cons_self
    refine ⟨_, rfl, D, _, 0, .str b0, rfl, rfl, SqL.of hD3, at0 .., 5, rfl, b0, rfl, small (by have := nb0.2.2.1; omega), ?_⟩
    refine ⟨_, rfl, f0, 5, rfl, F3, by decide, by decide, fun d2 H3' c0 c1 F3' B3' => ?_⟩
    obtain ⟨c, hc, hm⟩ := at_in (l := LST.cps.toList) (i := d2) c0 (by rw [lst_len]; exact c1)
    have hD3' := B3' _ _ Df hD3
    have sl5 : (Txt.slice b0 none (some 5)).length ≤ b0.length := Txt.slice_le b0 none (some 5)
    refine ⟨_, _, c, rfl, rfl, small (by decide +kernel), hc, _, _, rfl, rfl, small (by have := nb0.2.2.1; show _ + 1 ≤ _; omega), ?_⟩
    have ix1 : ixN (List.map V.str (b0 :: b1 :: bs')).length 1 = some 1 := by
      unfold ixN
      rw [if_pos (by decide), if_pos (by rw [List.length_map, List.length_cons, List.length_cons]; omega)]
      rfl
    refine ⟨_, rfl, D, _, 1, 1, rfl, rfl, hD3', ix1, ?_⟩
    obtain ⟨bs4, hD4, bx, S4⟩ : ∃ bs4 : List Str, upd H3' D (.lst ((((b0 :: b1 :: bs').map V.str)).set 1 (.str (Txt.slice b0 none (some 5) ++ ⟨#[c]⟩)))) D = some (.lst (bs4.map V.str)) ∧ Boxes bs4 ∧ Same H (upd H3' D (.lst ((((b0 :: b1 :: bs').map V.str)).set 1 (.str (Txt.slice b0 none (some 5) ++ ⟨#[c]⟩))))) := by
      refine ⟨b0 :: (Txt.slice b0 none (some 5) ++ ⟨#[c]⟩) :: bs', upd_same, ⟨?_, ?_, fun x hx => ?_⟩, fun b o e => ?_⟩
      · simp
      · rw [List.length_cons, List.length_cons] at bl ⊢
        omega
      · rcases List.mem_cons.mp hx with rfl | hx
        · exact nb0
        rcases List.mem_cons.mp hx with rfl | hx
        · exact new_name nb0 hm
        · exact bk x (List.mem_cons_of_mem _ (List.mem_cons_of_mem _ hx))
      · rw [upd_ne (ne_of_none e D0)]
        exact B3' b o (ne_of_none e f00) (S3 b o e)
  case' b2 =>
    obtain ⟨bs4, hD4, bx, S4⟩ : ∃ bs4 : List Str, H3 D = some (.lst (bs4.map V.str)) ∧ Boxes bs4 ∧ Same H H3 := ⟨bs, hD3, ⟨by omega, by omega, bk⟩, S3⟩
  all_goals
    refine ⟨_, rfl, a, ns, 2, rfl, S4.seq hS, h63, by decide, by decide, fun f2 H5 f20 s5 F5 => ?_⟩
    have D2 : D ≠ f2 := ne_of_none hD4 f20
    refine ⟨_, rfl, _, rfl, f2, D, bs4, rfl, F5, s5 _ _ hD4, D2, bx, fun gl tv H6 gl0 glf hgl R6 l60 F6 B6 => ?_⟩
    have hD6 := B6 _ _ D2 (s5 _ _ hD4)
    refine ⟨_, rfl, ?_⟩
    refine ⟨_, rfl, f2, 4, rfl, F6, by decide, by decide, fun d4 H7 e0 e1 F7 B7 => ?_⟩
    refine ⟨_, rfl, (by show 0 ≤ sizeLine; decide), fun L hL => ?_⟩
    have GL := Same.new hL (.lst [])
    have B67 : SameBut f2 H6 (upd H7 L (.lst [])) := SameBut.new B7 hL
    have F8 := F7.same GL
    refine ⟨gl, L, tv, rfl, rfl, SqL.of (GL _ _ (B7 _ _ glf hgl)), SqL.of upd_same, .inr ⟨_, rfl, _, _, rfl, rfl, .inl ⟨by omega, by omega⟩, ?_⟩⟩
    obtain ⟨n, en, n3, nn⟩ : ∃ n : Int, d4 * (if (!tv.isEmpty) = true then 1 else 0) = n ∧ (0 ≤ n ∧ n ≤ 3) ∧ (0 < n → 1 ≤ tv.length) := by
      cases tv with
      | nil => exact ⟨_, rfl, by simp, by simp⟩
      | cons x r => exact ⟨_, rfl, by simp; omega, by simp⟩
    have hgl8 := GL _ _ (B7 _ _ glf hgl)
    have hD8 := GL _ _ (B7 _ _ D2 hD6)
    have R8 : Rows _ tv := (R6.mono (keepT_feed F6 B7)).mono (keepT_same GL)
    generalize upd H7 L (.lst []) = H8 at *
    refine ⟨n, congrArg (fun z => [V.int z]) en, by omega, by omega, for_range (n := n.toNat) (fun i σ H' => ∃ (l : Addr) (uv : List V) (x5 x6 : Option V), σ = [some (.ref a), some (.ref f2), some (.ref D), some (.ref gl), some (.ref l), x5, x6] ∧ l ≠ f2 ∧ H' l = some (.lst uv) ∧ Rows H' uv ∧ (0 < n → 1 ≤ uv.length) ∧ uv.length + 1 ≤ 61 * 2 ^ i ∧ FeedAt H' f2 ∧ SameBut f2 H8 H')
      ⟨gl, tv, _, _, rfl, glf, hgl8, R8, nn, by omega, F8, SameBut.refl _ _⟩ ?_ ?_⟩
    · rintro i σ H9 hi ⟨l, uv, x5, x6, rfl, lf, hl, R9, u1, u2, F9, B9⟩
      have p4 : 2 ^ i ≤ 4 := Nat.le_trans (Nat.pow_le_pow_right (by decide) (show i ≤ 2 by omega)) (by decide)
      refine ⟨_, rfl, _, rfl, _, rfl, f2, D, l, bs4, uv, rfl, F9, B9 _ _ D2 hD8, D2, bx, hl, lf, R9, u1 (by omega), by omega, fun l' wv H10 lf' hl' R10 w1 w2 F10 B10 => ?_⟩
      refine ⟨l', wv, _, _, rfl, lf', hl', R10, fun _ => w1, ?_, F10, B9.trans B10⟩
      rw [Nat.pow_succ]
      omega
    · rintro σ H9 ⟨l, uv, x5, x6, rfl, lf, hl, R9, u1, u2, F9, B9⟩
      have p8 : 2 ^ n.toNat ≤ 8 := Nat.le_trans (Nat.pow_le_pow_right (by decide) (show n.toNat ≤ 3 by omega)) (by decide)
      have R9t : Rows H9 tv := R8.mono (keepT_feed F8 B9)
      have hgl9 := B9 _ _ glf hgl8
      refine ⟨_, rfl, l, uv, rfl, .inl ⟨SqL.of hl, fun t ht => ?_⟩⟩
      have G := Same.new ht (.tup uv)
      refine ⟨_, rfl, t, uv, rfl, upd_same, R9.mono (keepT_same G), by omega, fun Ha Sa => ⟨_, rfl, iteT ?_⟩⟩
      refine ⟨_, rfl, gl, tv, rfl, .inl ⟨SqL.of (Sa _ _ (G _ _ hgl9)), fun t2 ht2 => ?_⟩⟩
      have G2 := Same.new ht2 (.tup tv)
      refine ⟨t2, tv, rfl, upd_same, (R9t.mono (keepT_same (G.trans Sa))).mono (keepT_same G2), by omega, fun Hb Sb => ⟨_, rfl, iteT ?_⟩⟩
      have Sab := Sa.trans (G2.trans Sb)
      refine ⟨_, rfl, t, uv, rfl, Sab _ _ upd_same, (R9.mono (keepT_same G)).mono (keepT_same Sab), by omega, fun Hc Sc => ⟨_, rfl, iteT ?_⟩⟩
      exact ⟨Nat.zero_le _, fun t3 ht3 => ⟨t3, [], rfl, upd_same, (fun v hv => by cases hv), by simp, fun Hd Sd => q Hd⟩⟩
theorem clsfc {K : PySem.W.Frag} {C g : Addr} {m : Str} (h : PySem.W.findCls K (.ref C) (.type "type") m = some (.val (.ref g))) : (match PySem.W.findCls K (.ref C) (.type "type") m with | some (.val v) => some v | _ => none) = some (.ref g) := by
  rw [h]
end
theorem all_mk {l : PySem.W.OpenLaw} {w : World} {K : PySem.W.Frag} {h : Heap} {mg : Str → Option Value} {fa f0 f1 f2 f3 f4 f5 f6 f7 f8 f9 f10 f11 f12 f13 : Addr} (X : K.In h) (G : h.Ns mainGlobals mg) (hfa : mg "law" = some (.ref fa))
    {od0 an0 od1 an1 od2 an2 od3 an3 od4 an4 od5 an5 od6 an6 od7 an7 od8 an8 od9 an9 od10 an10 od11 an11 od12 an12 od13 an13 : Option Addr} {sl0 sl1 sl2 sl3 sl4 sl5 sl6 sl7 sl8 sl9 sl10 sl11 sl12 sl13 : Array (Option Value)} {oc0 kV0 dc0 pm0 cd0 ct0 oc1 kV1 dc1 pm1 cd1 ct1 oc2 kV2 dc2 pm2 cd2 ct2 oc3 kV3 dc3 pm3 cd3 ct3 oc4 kV4 dc4 pm4 cd4 ct4 oc5 kV5 dc5 pm5 cd5 ct5 oc6 kV6 dc6 pm6 cd6 ct6 oc7 kV7 dc7 pm7 cd7 ct7 oc8 kV8 dc8 pm8 cd8 ct8 oc9 kV9 dc9 pm9 cd9 ct9 oc10 kV10 dc10 pm10 cd10 ct10 oc11 kV11 dc11 pm11 cd11 ct11 oc12 kV12 dc12 pm12 cd12 ct12 oc13 kV13 dc13 pm13 cd13 ct13 : Value}
    (a0 : PySem.W.nsIn K mainGlobals "look_helper" = some (some (.ref f0))) (l0 : K.lookup f0 = some ⟨oc0, od0, .func (PySem.W.fnOf "look_helper" "look_helper" (defArgs s_look_helper) (defBody s_look_helper) (defScope s_look_helper) .none kV0 dc0 pm0 an0 cd0 ct0), sl0⟩) (c0 : PySem.W.codeIn K cd0 "look_helper" = true) (k0 : PySem.W.keepIn K (.ref f0) = true)
    (a1 : PySem.W.nsIn K mainGlobals "_law_feed" = some (some (.ref f1))) (l1 : K.lookup f1 = some ⟨oc1, od1, .func (PySem.W.fnOf "_law_feed" "_law_feed" (defArgs s_l_feed) (defBody s_l_feed) (defScope s_l_feed) .none kV1 dc1 pm1 an1 cd1 ct1), sl1⟩) (c1 : PySem.W.codeIn K cd1 "_law_feed" = true) (k1 : PySem.W.keepIn K (.ref f1) = true)
    (a2 : PySem.W.nsIn K mainGlobals "_law_take" = some (some (.ref f2))) (l2 : K.lookup f2 = some ⟨oc2, od2, .func (PySem.W.fnOf "_law_take" "_law_take" (defArgs s_l_take) (defBody s_l_take) (defScope s_l_take) .none kV2 dc2 pm2 an2 cd2 ct2), sl2⟩) (c2 : PySem.W.codeIn K cd2 "_law_take" = true) (k2 : PySem.W.keepIn K (.ref f2) = true)
    (a3 : PySem.W.nsIn K mainGlobals "_law_name" = some (some (.ref f3))) (l3 : K.lookup f3 = some ⟨oc3, od3, .func (PySem.W.fnOf "_law_name" "_law_name" (defArgs s_l_name) (defBody s_l_name) (defScope s_l_name) .none kV3 dc3 pm3 an3 cd3 ct3), sl3⟩) (c3 : PySem.W.codeIn K cd3 "_law_name" = true) (k3 : PySem.W.keepIn K (.ref f3) = true)
    (a4 : PySem.W.nsIn K mainGlobals "_law_some" = some (some (.ref f4))) (l4 : K.lookup f4 = some ⟨oc4, od4, .func (PySem.W.fnOf "_law_some" "_law_some" (defArgs s_l_some) (defBody s_l_some) (defScope s_l_some) .none kV4 dc4 pm4 an4 cd4 ct4), sl4⟩) (c4 : PySem.W.codeIn K cd4 "_law_some" = true) (k4 : PySem.W.keepIn K (.ref f4) = true)
    (a5 : PySem.W.nsIn K mainGlobals "_law_whole" = some (some (.ref f5))) (l5 : K.lookup f5 = some ⟨oc5, od5, .func (PySem.W.fnOf "_law_whole" "_law_whole" (defArgs s_l_whole) (defBody s_l_whole) (defScope s_l_whole) .none kV5 dc5 pm5 an5 cd5 ct5), sl5⟩) (c5 : PySem.W.codeIn K cd5 "_law_whole" = true) (k5 : PySem.W.keepIn K (.ref f5) = true)
    (a6 : PySem.W.nsIn K mainGlobals "_law_any_term" = some (some (.ref f6))) (l6 : K.lookup f6 = some ⟨oc6, od6, .func (PySem.W.fnOf "_law_any_term" "_law_any_term" (defArgs s_l_any_term) (defBody s_l_any_term) (defScope s_l_any_term) .none kV6 dc6 pm6 an6 cd6 ct6), sl6⟩) (c6 : PySem.W.codeIn K cd6 "_law_any_term" = true) (k6 : PySem.W.keepIn K (.ref f6) = true)
    (a7 : PySem.W.nsIn K mainGlobals "_law_any_row" = some (some (.ref f7))) (l7 : K.lookup f7 = some ⟨oc7, od7, .func (PySem.W.fnOf "_law_any_row" "_law_any_row" (defArgs s_l_any_row) (defBody s_l_any_row) (defScope s_l_any_row) .none kV7 dc7 pm7 an7 cd7 ct7), sl7⟩) (c7 : PySem.W.codeIn K cd7 "_law_any_row" = true) (k7 : PySem.W.keepIn K (.ref f7) = true)
    (a8 : PySem.W.nsIn K mainGlobals "_law_led" = some (some (.ref f8))) (l8 : K.lookup f8 = some ⟨oc8, od8, .func (PySem.W.fnOf "_law_led" "_law_led" (defArgs s_l_led) (defBody s_l_led) (defScope s_l_led) .none kV8 dc8 pm8 an8 cd8 ct8), sl8⟩) (c8 : PySem.W.codeIn K cd8 "_law_led" = true) (k8 : PySem.W.keepIn K (.ref f8) = true)
    (a9 : PySem.W.nsIn K mainGlobals "_law_good" = some (some (.ref f9))) (l9 : K.lookup f9 = some ⟨oc9, od9, .func (PySem.W.fnOf "_law_good" "_law_good" (defArgs s_l_good) (defBody s_l_good) (defScope s_l_good) .none kV9 dc9 pm9 an9 cd9 ct9), sl9⟩) (c9 : PySem.W.codeIn K cd9 "_law_good" = true) (k9 : PySem.W.keepIn K (.ref f9) = true)
    (a10 : PySem.W.nsIn K mainGlobals "_law_beyond" = some (some (.ref f10))) (l10 : K.lookup f10 = some ⟨oc10, od10, .func (PySem.W.fnOf "_law_beyond" "_law_beyond" (defArgs s_l_beyond) (defBody s_l_beyond) (defScope s_l_beyond) .none kV10 dc10 pm10 an10 cd10 ct10), sl10⟩) (c10 : PySem.W.codeIn K cd10 "_law_beyond" = true) (k10 : PySem.W.keepIn K (.ref f10) = true)
    (a11 : PySem.W.nsIn K mainGlobals "_law_due" = some (some (.ref f11))) (l11 : K.lookup f11 = some ⟨oc11, od11, .func (PySem.W.fnOf "_law_due" "_law_due" (defArgs s_l_due) (defBody s_l_due) (defScope s_l_due) .none kV11 dc11 pm11 an11 cd11 ct11), sl11⟩) (c11 : PySem.W.codeIn K cd11 "_law_due" = true) (k11 : PySem.W.keepIn K (.ref f11) = true)
    (a12 : PySem.W.nsIn K mainGlobals "_law_right" = some (some (.ref f12))) (l12 : K.lookup f12 = some ⟨oc12, od12, .func (PySem.W.fnOf "_law_right" "_law_right" (defArgs s_l_right) (defBody s_l_right) (defScope s_l_right) .none kV12 dc12 pm12 an12 cd12 ct12), sl12⟩) (c12 : PySem.W.codeIn K cd12 "_law_right" = true) (k12 : PySem.W.keepIn K (.ref f12) = true)
    (a13 : PySem.W.nsIn K mainGlobals "law" = some (some (.ref f13))) (l13 : K.lookup f13 = some ⟨oc13, od13, .func (PySem.W.fnOf "law" "law" (defArgs s_law) (defBody s_law) (defScope s_law) .none kV13 dc13 pm13 an13 cd13 ct13), sl13⟩) (c13 : PySem.W.codeIn K cd13 "law" = true) (k13 : PySem.W.keepIn K (.ref f13) = true)
    {CA gA TA NA cc0 N0 cc1 N1 cc2 N2 cc3 N3 cc4 N4 cc5 g5 N5 cc6 N6 cc7 N7 cc8 N8 cc9 N9 : Addr} {odA anA tdA ddA dd0 dd1 dd2 dd3 dd4 od_5 an_5 dd5 dd6 dd7 dd8 dd9 : Option Addr} {slA tslA sl_5 : Array (Option Value)} {ocA kVA dcA pmA cdA ctA kV_5 dc_5 pm_5 cd_5 ct_5 : Value} {tkA : Tok} {tnA : Nat} {nm0 qn0 nm1 qn1 nm2 qn2 nm3 qn3 nm4 qn4 nm5 qn5 nm6 qn6 nm7 qn7 nm8 qn8 nm9 qn9 nmA qnA : Str} {bs0 sub0 bs1 sub1 bs2 sub2 bs3 sub3 bs4 sub4 bs5 sub5 bs6 sub6 bs7 sub7 bs8 sub8 bs9 sub9 bsA subA : List Value} {sn0 sn1 sn2 sn3 sn4 sn5 sn6 sn7 sn8 sn9 snA : List Str} {ab0 ab1 ab2 ab3 ab4 ab5 ab6 ab7 ab8 ab9 abA : Bool} {col0 col1 col2 col3 col4 col5 col6 col7 col8 col9 colA : Option Bool} {q00 q10 q20 q30 q50 q01 q11 q21 q31 q51 q02 q12 q22 q32 q52 q03 q13 q23 q33 q53 q04 q14 q24 q34 q54 q05 q15 q25 q35 q55 q06 q16 q26 q36 q56 q07 q17 q27 q37 q57 q08 q18 q28 q38 q58 q09 q19 q29 q39 q59 q0A q1A q2A q3A q5A : Option Value}
    (gAs : PySem.W.nsIn K mainGlobals "AskError" = some (some (.ref CA)))
    (iAs0 : K.lookup CA = some (excClassObj nmA qnA CA NA bsA bmV true snA subA abA colA ddA q0A q1A q2A q3A q5A "ValueError.__new__"))
    (xga : PySem.W.specialIn K (.ref CA) "__getattribute__" = some (some (.builtin "type.__getattribute__")))
    (xrd : PySem.W.readsIn K CA (.type "type") = true)
    (xfc0 : PySem.W.findCls K (.ref CA) (.type "type") "__init__" = some (.val (.ref gA)))
    (xlk : K.lookup gA = some ⟨ocA, odA, .func (PySem.W.fnOf "__init__" "AskError.__init__" (defArgs s_AskError) (defBody s_AskError) (defScope s_AskError) (.ref TA) kVA dcA pmA anA cdA ctA), slA⟩)
    (xtp : K.lookup TA = some ⟨.type "tuple", tdA, .seq #[.str "" tkA] tnA, tslA⟩)
    (xcd : PySem.W.codeIn K cdA "AskError.__init__" = true)
    (xkp : PySem.W.keepIn K (.ref gA) = true)
    (yg0 : PySem.W.nsIn K mainGlobals "NoText" = some (some (.ref cc0)))
    (yo0 : K.lookup cc0 = some (excClassObj nm0 qn0 cc0 N0 bs0 (.ref CA :: bmV) true sn0 sub0 ab0 col0 dd0 q00 q10 q20 q30 q50 "ValueError.__new__"))
    (ys0 : PySem.W.findIn K (.ref cc0) "__setattr__" = some (some (.builtin "object.__setattr__")))
    (ya0 : PySem.W.findIn K (.ref cc0) "__getattribute__" = some (some (.builtin "BaseException.__getattribute__")))
    (yt0 : PySem.W.findIn K (.ref cc0) "__getattr__" = some none)
    (yc0 : PySem.W.findIn K (.ref cc0) "__class__" = some (some (.builtin "object.__class__")))
    (ye0 : cc0 ≠ CA)
    (yg1 : PySem.W.nsIn K mainGlobals "Twice" = some (some (.ref cc1)))
    (yo1 : K.lookup cc1 = some (excClassObj nm1 qn1 cc1 N1 bs1 (.ref CA :: bmV) true sn1 sub1 ab1 col1 dd1 q01 q11 q21 q31 q51 "ValueError.__new__"))
    (ys1 : PySem.W.findIn K (.ref cc1) "__setattr__" = some (some (.builtin "object.__setattr__")))
    (ya1 : PySem.W.findIn K (.ref cc1) "__getattribute__" = some (some (.builtin "BaseException.__getattribute__")))
    (yt1 : PySem.W.findIn K (.ref cc1) "__getattr__" = some none)
    (yc1 : PySem.W.findIn K (.ref cc1) "__class__" = some (some (.builtin "object.__class__")))
    (ye1 : cc1 ≠ CA)
    (yg2 : PySem.W.nsIn K mainGlobals "NoName" = some (some (.ref cc2)))
    (yo2 : K.lookup cc2 = some (excClassObj nm2 qn2 cc2 N2 bs2 (.ref CA :: bmV) true sn2 sub2 ab2 col2 dd2 q02 q12 q22 q32 q52 "ValueError.__new__"))
    (ys2 : PySem.W.findIn K (.ref cc2) "__setattr__" = some (some (.builtin "object.__setattr__")))
    (ya2 : PySem.W.findIn K (.ref cc2) "__getattribute__" = some (some (.builtin "BaseException.__getattribute__")))
    (yt2 : PySem.W.findIn K (.ref cc2) "__getattr__" = some none)
    (yc2 : PySem.W.findIn K (.ref cc2) "__class__" = some (some (.builtin "object.__class__")))
    (ye2 : cc2 ≠ CA)
    (yg3 : PySem.W.nsIn K mainGlobals "NoField" = some (some (.ref cc3)))
    (yo3 : K.lookup cc3 = some (excClassObj nm3 qn3 cc3 N3 bs3 (.ref CA :: bmV) true sn3 sub3 ab3 col3 dd3 q03 q13 q23 q33 q53 "ValueError.__new__"))
    (ys3 : PySem.W.findIn K (.ref cc3) "__setattr__" = some (some (.builtin "object.__setattr__")))
    (ya3 : PySem.W.findIn K (.ref cc3) "__getattribute__" = some (some (.builtin "BaseException.__getattribute__")))
    (yt3 : PySem.W.findIn K (.ref cc3) "__getattr__" = some none)
    (yc3 : PySem.W.findIn K (.ref cc3) "__class__" = some (some (.builtin "object.__class__")))
    (ye3 : cc3 ≠ CA)
    (yg4 : PySem.W.nsIn K mainGlobals "SmallField" = some (some (.ref cc4)))
    (yo4 : K.lookup cc4 = some (excClassObj nm4 qn4 cc4 N4 bs4 (.ref CA :: bmV) true sn4 sub4 ab4 col4 dd4 q04 q14 q24 q34 q54 "ValueError.__new__"))
    (ys4 : PySem.W.findIn K (.ref cc4) "__setattr__" = some (some (.builtin "object.__setattr__")))
    (ya4 : PySem.W.findIn K (.ref cc4) "__getattribute__" = some (some (.builtin "BaseException.__getattribute__")))
    (yt4 : PySem.W.findIn K (.ref cc4) "__getattr__" = some none)
    (yc4 : PySem.W.findIn K (.ref cc4) "__class__" = some (some (.builtin "object.__class__")))
    (ye4 : cc4 ≠ CA)
    (yg5 : PySem.W.nsIn K mainGlobals "NoRow" = some (some (.ref cc5)))
    (yo5 : K.lookup cc5 = some (excClassObj nm5 qn5 cc5 N5 bs5 (.ref CA :: bmV) true sn5 sub5 ab5 col5 dd5 q05 q15 q25 q35 q55 "ValueError.__new__"))
    (ys5 : PySem.W.findIn K (.ref cc5) "__setattr__" = some (some (.builtin "object.__setattr__")))
    (ya5 : PySem.W.findIn K (.ref cc5) "__getattribute__" = some (some (.builtin "BaseException.__getattribute__")))
    (yt5 : PySem.W.findIn K (.ref cc5) "__getattr__" = some none)
    (yc5 : PySem.W.findIn K (.ref cc5) "__class__" = some (some (.builtin "object.__class__")))
    (yi5 : PySem.W.findIn K (.ref cc5) "__init__" = some (some (.ref g5)))
    (yl5 : K.lookup g5 = some ⟨.type "function", od_5, .func (PySem.W.fnOf "__init__" "NoRow.__init__" (defArgs s_NoRow) (defBody s_NoRow) (defScope s_NoRow) .none kV_5 dc_5 pm_5 an_5 cd_5 ct_5), sl_5⟩)
    (yk5 : PySem.W.codeIn K cd_5 "NoRow.__init__" = true)
    (yp5 : PySem.W.keepIn K (.ref g5) = true)
    (yq5 : PySem.W.keepIn K (.ref cc5) = true)
    (yn5 : PySem.W.findIn K (.ref cc5) "row" = some none)
    (ye5 : cc5 ≠ CA)
    (yg6 : PySem.W.nsIn K mainGlobals "NoTurn" = some (some (.ref cc6)))
    (yo6 : K.lookup cc6 = some (excClassObj nm6 qn6 cc6 N6 bs6 (.ref CA :: bmV) true sn6 sub6 ab6 col6 dd6 q06 q16 q26 q36 q56 "ValueError.__new__"))
    (ys6 : PySem.W.findIn K (.ref cc6) "__setattr__" = some (some (.builtin "object.__setattr__")))
    (ya6 : PySem.W.findIn K (.ref cc6) "__getattribute__" = some (some (.builtin "BaseException.__getattribute__")))
    (yt6 : PySem.W.findIn K (.ref cc6) "__getattr__" = some none)
    (yc6 : PySem.W.findIn K (.ref cc6) "__class__" = some (some (.builtin "object.__class__")))
    (ye6 : cc6 ≠ CA)
    (yg7 : PySem.W.nsIn K mainGlobals "NoCount" = some (some (.ref cc7)))
    (yo7 : K.lookup cc7 = some (excClassObj nm7 qn7 cc7 N7 bs7 (.ref CA :: bmV) true sn7 sub7 ab7 col7 dd7 q07 q17 q27 q37 q57 "ValueError.__new__"))
    (ys7 : PySem.W.findIn K (.ref cc7) "__setattr__" = some (some (.builtin "object.__setattr__")))
    (ya7 : PySem.W.findIn K (.ref cc7) "__getattribute__" = some (some (.builtin "BaseException.__getattribute__")))
    (yt7 : PySem.W.findIn K (.ref cc7) "__getattr__" = some none)
    (yc7 : PySem.W.findIn K (.ref cc7) "__class__" = some (some (.builtin "object.__class__")))
    (ye7 : cc7 ≠ CA)
    (yg8 : PySem.W.nsIn K mainGlobals "NoNumber" = some (some (.ref cc8)))
    (yo8 : K.lookup cc8 = some (excClassObj nm8 qn8 cc8 N8 bs8 (.ref CA :: bmV) true sn8 sub8 ab8 col8 dd8 q08 q18 q28 q38 q58 "ValueError.__new__"))
    (ys8 : PySem.W.findIn K (.ref cc8) "__setattr__" = some (some (.builtin "object.__setattr__")))
    (ya8 : PySem.W.findIn K (.ref cc8) "__getattribute__" = some (some (.builtin "BaseException.__getattribute__")))
    (yt8 : PySem.W.findIn K (.ref cc8) "__getattr__" = some none)
    (yc8 : PySem.W.findIn K (.ref cc8) "__class__" = some (some (.builtin "object.__class__")))
    (ye8 : cc8 ≠ CA)
    (yg9 : PySem.W.nsIn K mainGlobals "TooMany" = some (some (.ref cc9)))
    (yo9 : K.lookup cc9 = some (excClassObj nm9 qn9 cc9 N9 bs9 (.ref CA :: bmV) true sn9 sub9 ab9 col9 dd9 q09 q19 q29 q39 q59 "ValueError.__new__"))
    (ys9 : PySem.W.findIn K (.ref cc9) "__setattr__" = some (some (.builtin "object.__setattr__")))
    (ya9 : PySem.W.findIn K (.ref cc9) "__getattribute__" = some (some (.builtin "BaseException.__getattribute__")))
    (yt9 : PySem.W.findIn K (.ref cc9) "__getattr__" = some none)
    (yc9 : PySem.W.findIn K (.ref cc9) "__class__" = some (some (.builtin "object.__class__")))
    (ye9 : cc9 ≠ CA)
    (hV0 : PySem.W.nsIn K mainGlobals "ValueError" = some none)
    (ynd : [cc0, cc1, cc2, cc3, cc4, cc5, cc6, cc7, cc8, cc9].Nodup)
    (z0 : PySem.W.nsIn K mainGlobals "len" = some none) (z1 : PySem.W.nsIn K mainGlobals "range" = some none) (z2 : PySem.W.nsIn K mainGlobals "isinstance" = some none) (z3 : PySem.W.nsIn K mainGlobals "int" = some none) (z4 : PySem.W.nsIn K mainGlobals "bool" = some none) (z5 : PySem.W.nsIn K mainGlobals "list" = some none) (z6 : PySem.W.nsIn K mainGlobals "tuple" = some none) (z7 : PySem.W.nsIn K mainGlobals "str" = some none) (z8 : PySem.W.nsIn K mainGlobals "all" = some none) (z9 : PySem.W.nsIn K mainGlobals "zip" = some none) (z10 : PySem.W.nsIn K mainGlobals "enumerate" = some none) :
    ∃ fd : FuncData, (∀ (s : Shared) (v : Value), BindsTo s fd ⟨[v], []⟩ [("_law_script", v)]) ∧ ∀ base : Heap, K.In base → base.Ns mainGlobals mg → FnOk l.prog w K mg base CX0 14 fa fd ["_law_script"] (spLaw K) := by
  have e := hfa.symm.trans (PySem.W.mg_of X G a13)
  cases e
  have F_look_helper := fun_mk (st := s_look_helper) l0 c0 k0
  have m_look_helper := PySem.W.mg_of X G a0
  have F_l_feed := fun_mk (st := s_l_feed) l1 c1 k1
  have m_l_feed := PySem.W.mg_of X G a1
  have F_l_take := fun_mk (st := s_l_take) l2 c2 k2
  have m_l_take := PySem.W.mg_of X G a2
  have F_l_name := fun_mk (st := s_l_name) l3 c3 k3
  have m_l_name := PySem.W.mg_of X G a3
  have F_l_some := fun_mk (st := s_l_some) l4 c4 k4
  have m_l_some := PySem.W.mg_of X G a4
  have F_l_whole := fun_mk (st := s_l_whole) l5 c5 k5
  have m_l_whole := PySem.W.mg_of X G a5
  have F_l_any_term := fun_mk (st := s_l_any_term) l6 c6 k6
  have m_l_any_term := PySem.W.mg_of X G a6
  have F_l_any_row := fun_mk (st := s_l_any_row) l7 c7 k7
  have m_l_any_row := PySem.W.mg_of X G a7
  have F_l_led := fun_mk (st := s_l_led) l8 c8 k8
  have m_l_led := PySem.W.mg_of X G a8
  have F_l_good := fun_mk (st := s_l_good) l9 c9 k9
  have m_l_good := PySem.W.mg_of X G a9
  have F_l_beyond := fun_mk (st := s_l_beyond) l10 c10 k10
  have m_l_beyond := PySem.W.mg_of X G a10
  have F_l_due := fun_mk (st := s_l_due) l11 c11 k11
  have m_l_due := PySem.W.mg_of X G a11
  have F_l_right := fun_mk (st := s_l_right) l12 c12 k12
  have m_l_right := PySem.W.mg_of X G a12
  have F_law := fun_mk (st := s_law) l13 c13 k13
  have B : Bl mg := ⟨PySem.W.mg_none_of X G z0, PySem.W.mg_none_of X G z1, PySem.W.mg_none_of X G z2, PySem.W.mg_none_of X G z3, PySem.W.mg_none_of X G z4, PySem.W.mg_none_of X G z5, PySem.W.mg_none_of X G z6, PySem.W.mg_none_of X G z7, PySem.W.mg_none_of X G z8, PySem.W.mg_none_of X G z9, PySem.W.mg_none_of X G z10⟩
  refine ⟨PySem.W.fnOf "law" "law" (defArgs s_law) (defBody s_law) (defScope s_law) .none kV13 dc13 pm13 an13 cd13 ct13, fun s v => .of_eq rfl, fun base _ _ => ?_⟩
  have iAs : isBaseX K CA := ⟨_, _, _, _, _, _, _, _, _, _, _, _, _, _, iAs0⟩
  have xfc := clsfc xfc0
  have hV := PySem.W.mg_none_of X G hV0
  have F_A := funD_mk (st := s_AskError) xlk xcd xkp
  have K_A : AskC l.prog w K mg base CA gA _ := ⟨PySem.W.mg_of X G gAs, ⟨xga, xrd, xfc, xkp⟩, ok_AskError (P := l.prog) (w := w) (base := base) F_A hV, fun s us KX hl => match us, hl with | [_, _], _ => PySem.W.binds_K KX rfl xtp rfl rfl rfl⟩
  have L_0 : ClsX K cc0 CA := ⟨⟨_, _, _, _, _, _, _, _, _, _, _, _, _, _, yo0⟩, ys0, ya0, yt0, yc0⟩
  have L_1 : ClsX K cc1 CA := ⟨⟨_, _, _, _, _, _, _, _, _, _, _, _, _, _, yo1⟩, ys1, ya1, yt1, yc1⟩
  have L_2 : ClsX K cc2 CA := ⟨⟨_, _, _, _, _, _, _, _, _, _, _, _, _, _, yo2⟩, ys2, ya2, yt2, yc2⟩
  have L_3 : ClsX K cc3 CA := ⟨⟨_, _, _, _, _, _, _, _, _, _, _, _, _, _, yo3⟩, ys3, ya3, yt3, yc3⟩
  have L_4 : ClsX K cc4 CA := ⟨⟨_, _, _, _, _, _, _, _, _, _, _, _, _, _, yo4⟩, ys4, ya4, yt4, yc4⟩
  have L_5 : ClsX K cc5 CA := ⟨⟨_, _, _, _, _, _, _, _, _, _, _, _, _, _, yo5⟩, ys5, ya5, yt5, yc5⟩
  have J_5 : MkX K cc5 g5 := L_5.mk' yi5 ⟨_, yl5, rfl⟩ yq5
  have F_5 := funD_mk (st := s_NoRow) yl5 yk5 yp5
  have M_5 : Mkr l.prog w K mg base cc5 "row" g5 _ := ⟨J_5, ok_NoRow (P := l.prog) (w := w) (base := base) F_5 K_A J_5 L_5 yn5, .all fun us hl => by obtain ⟨u0, u1, rfl⟩ := len2 hl; rfl, yn5⟩
  have L_6 : ClsX K cc6 CA := ⟨⟨_, _, _, _, _, _, _, _, _, _, _, _, _, _, yo6⟩, ys6, ya6, yt6, yc6⟩
  have L_7 : ClsX K cc7 CA := ⟨⟨_, _, _, _, _, _, _, _, _, _, _, _, _, _, yo7⟩, ys7, ya7, yt7, yc7⟩
  have L_8 : ClsX K cc8 CA := ⟨⟨_, _, _, _, _, _, _, _, _, _, _, _, _, _, yo8⟩, ys8, ya8, yt8, yc8⟩
  have L_9 : ClsX K cc9 CA := ⟨⟨_, _, _, _, _, _, _, _, _, _, _, _, _, _, yo9⟩, ys9, ya9, yt9, yc9⟩
  have T : Exs K mg CA cc0 cc1 cc2 cc3 cc4 cc5 cc6 cc7 cc8 cc9 := ⟨PySem.W.mg_of X G yg0, L_0, ye0, PySem.W.mg_of X G yg1, L_1, ye1, PySem.W.mg_of X G yg2, L_2, ye2, PySem.W.mg_of X G yg3, L_3, ye3, PySem.W.mg_of X G yg4, L_4, ye4, PySem.W.mg_of X G yg5, L_5, ye5, PySem.W.mg_of X G yg6, L_6, ye6, PySem.W.mg_of X G yg7, L_7, ye7, PySem.W.mg_of X G yg8, L_8, ye8, PySem.W.mg_of X G yg9, L_9, ye9, PySem.W.mg_of X G gAs, iAs, ynd⟩
  have C_look_helper := CalR.of (P := l.prog) (w := w) (base := base) F_look_helper (ok_look_helper F_look_helper B T M_5) m_look_helper (fun _ _ _ _ _ _ us hl => by obtain ⟨u0, rfl⟩ := len1 hl; rfl)
  have C_l_feed := Cal.of (P := l.prog) (w := w) (base := base) F_l_feed (ok_l_feed F_l_feed B.len) m_l_feed (fun _ _ _ _ _ _ us hl => by obtain ⟨u0, u1, rfl⟩ := len2 hl; rfl)
  have C_l_take := Cal.of (P := l.prog) (w := w) (base := base) F_l_take (ok_l_take F_l_take ) m_l_take (fun _ _ _ _ _ _ us hl => by obtain ⟨u0, u1, rfl⟩ := len2 hl; rfl)
  have C_l_name := Cal.of (P := l.prog) (w := w) (base := base) F_l_name (ok_l_name F_l_name B C_l_take) m_l_name (fun _ _ _ _ _ _ us hl => by obtain ⟨u0, rfl⟩ := len1 hl; rfl)
  have C_l_some := Cal.of (P := l.prog) (w := w) (base := base) F_l_some (ok_l_some F_l_some B C_l_take) m_l_some (fun _ _ _ _ _ _ us hl => by obtain ⟨u0, u1, rfl⟩ := len2 hl; rfl)
  have C_l_whole := Cal.of (P := l.prog) (w := w) (base := base) F_l_whole (ok_l_whole F_l_whole C_l_take) m_l_whole (fun _ _ _ _ _ _ us hl => by obtain ⟨u0, rfl⟩ := len1 hl; rfl)
  have C_l_any_term := Cal.of (P := l.prog) (w := w) (base := base) F_l_any_term (ok_l_any_term F_l_any_term m_l_any_term C_l_take C_l_some C_l_whole 8) m_l_any_term (fun _ _ _ _ _ _ us hl => by obtain ⟨u0, u1, u2, u3, rfl⟩ := len4 hl; rfl)
  have C_l_any_row := Cal.of (P := l.prog) (w := w) (base := base) F_l_any_row (ok_l_any_row F_l_any_row C_l_take C_l_some C_l_whole C_l_any_term) m_l_any_row (fun _ _ _ _ _ _ us hl => by obtain ⟨u0, u1, u2, rfl⟩ := len3 hl; rfl)
  have C_l_led := Cal.of (P := l.prog) (w := w) (base := base) F_l_led (ok_l_led F_l_led C_l_take) m_l_led (fun _ _ _ _ _ _ us hl => by obtain ⟨u0, u1, u2, rfl⟩ := len3 hl; rfl)
  have C_l_good := Cal.of (P := l.prog) (w := w) (base := base) F_l_good (ok_l_good F_l_good B C_l_take C_l_any_row C_l_led) m_l_good (fun _ _ _ _ _ _ us hl => by obtain ⟨u0, u1, rfl⟩ := len2 hl; rfl)
  have C_l_beyond := Cal.of (P := l.prog) (w := w) (base := base) F_l_beyond (ok_l_beyond F_l_beyond B C_l_take C_l_any_term) m_l_beyond (fun _ _ _ _ _ _ us hl => by obtain ⟨u0, u1, u2, rfl⟩ := len3 hl; rfl)
  have C_l_due := Cal.of (P := l.prog) (w := w) (base := base) F_l_due (ok_l_due F_l_due B) m_l_due (fun _ _ _ _ _ _ us hl => by obtain ⟨u0, rfl⟩ := len1 hl; rfl)
  have C_l_right := Cal.of (P := l.prog) (w := w) (base := base) F_l_right (ok_l_right F_l_right B hV T yn5 C_l_due C_look_helper) m_l_right (fun _ _ _ _ _ _ us hl => by obtain ⟨u0, rfl⟩ := len1 hl; rfl)
  exact ok_law F_law B C_l_feed C_l_take C_l_name C_l_good C_l_beyond C_l_right
theorem walk {l : PySem.W.OpenLaw} {q : Program} {loose : List Str} {XP : (Str → Option Value) → Heap → Prop} {YP : World → Heap → Prop} {d : DefRec} {K : Params → PySem.W.Frag} (hn : l.most = some 63) (hdf : d.params.defaults = [])
    (hY : ∀ (w : World) (h : Heap), YP w h → (K w.params).In h)
    (F : ∀ (w : World) (mg : Str → Option Value) (fa : Addr) (h : Heap), (K w.params).In h → h.Ns mainGlobals mg → mg d.name = some (.ref fa) →
      ∃ fd : FuncData, (∀ (s : Shared) (u : Value), BindsTo s fd ⟨[u], []⟩ [("_law_script", u)]) ∧ ∀ base : Heap, (K w.params).In base → base.Ns mainGlobals mg → FnOk l.prog w (K w.params) mg base CX0 14 fa fd ["_law_script"] (spLaw (K w.params))) :
    PySem.W.WalkO q loose XP YP l.row.toRowW d [] (fun f vs => PySem.call f vs) :=
  L2.walk_of (n := 63) (k := 14) (x := "_law_script") (CX := fun _ => CX0) (sp := fun w => spLaw (K w.params)) hn (by decide) hdf ⟨rfl, by decide, by decide⟩ hY F (fun _ _ a ns hl _ hS => ⟨a, ns, rfl, hS, hl, fun _ => rfl⟩) fun _ _ _ _ _ z => z
end Mine
def PySem.W.Fast.tw2537151327607419748 : Unit := ()
def PySem.W.Fast.tw12113303158102023809 : Unit := ()
def PySem.W.Fast.tw4115901004626555645 : Unit := ()
def PySem.W.Fast.tw10167829618563666726 : Unit := ()
def PySem.W.Fast.tw3675478890208879082 : Unit := ()
def PySem.W.Fast.tw11448024188961998185 : Unit := ()
def PySem.W.Fast.tw7691845762832433802 : Unit := ()
def PySem.W.Fast.tw5632864709122940993 : Unit := ()
def PySem.W.Fast.tw14367388454413089675 : Unit := ()
def PySem.W.Fast.tw2551077583105992632 : Unit := ()
def PySem.W.Fast.tw12704374214473596419 : Unit := ()
def PySem.W.Fast.tw17500821843280790586 : Unit := ()
def PySem.W.Fast.tw17586571679312999007 : Unit := ()
def PySem.W.Fast.tw1769273663072842731 : Unit := ()
def PySem.W.Fast.tw1771195740724020251 : Unit := ()
def PySem.W.Fast.tw1968664606073740296 : Unit := ()
def PySem.W.Fast.tw10343384149399145760 : Unit := ()
def PySem.W.Fast.tw487653907387508696 : Unit := ()
def PySem.W.Fast.tw10420621887370226246 : Unit := ()
def PySem.W.Fast.tw1134153674992257813 : Unit := ()
def PySem.W.Fast.tw9623487357431896583 : Unit := ()
def PySem.W.Fast.tw10040706078383807563 : Unit := ()
def PySem.W.Fast.tw5236128740167192776 : Unit := ()
def PySem.W.Fast.tw12925241356076915490 : Unit := ()
def PySem.W.Fast.tw14054519068458807174 : Unit := ()
def PySem.W.Fast.tw9478475784860141526 : Unit := ()
def PySem.W.Fast.tw14262198478157957948 : Unit := ()
def PySem.W.Fast.tw15857466084440019599 : Unit := ()
def PySem.W.Fast.tw10955238576582897436 : Unit := ()
def PySem.W.Fast.tw1614493370860051495 : Unit := ()
def PySem.W.Fast.tw12749561520342783103 : Unit := ()
def PySem.W.Fast.tw9250195505779201436 : Unit := ()
def PySem.W.Fast.tw12376294215416112319 : Unit := ()
def PySem.W.Fast.tw2432722738882375882 : Unit := ()
def PySem.W.Fast.tw3408288389098057694 : Unit := ()
def PySem.W.Fast.tw10731412636063767384 : Unit := ()
def PySem.W.Fast.tw11881732272951167007 : Unit := ()
def PySem.W.Fast.tw11070384831879375126 : Unit := ()
def PySem.W.Fast.tw12358690626536290986 : Unit := ()
def PySem.W.Fast.tw6393529482144648931 : Unit := ()
def PySem.W.Fast.tw16087631444627372053 : Unit := ()
def PySem.W.Fast.tw12354860124834214855 : Unit := ()
def PySem.W.Fast.tw7304169183425545575 : Unit := ()
def PySem.W.Fast.tw16742086338235063276 : Unit := ()
def PySem.W.Fast.tw18089142822616164424 : Unit := ()
def PySem.W.Fast.tw4213762003063596695 : Unit := ()
def PySem.W.Fast.tw18194274842150816159 : Unit := ()
def PySem.W.Fast.tw14753490419947342316 : Unit := ()
def PySem.W.Fast.tw958745661879919120 : Unit := ()
def PySem.W.Fast.tw15176516214318188152 : Unit := ()
def PySem.W.Fast.tw5768168802130769375 : Unit := ()
def PySem.W.Fast.tw16648295587304721341 : Unit := ()
def PySem.W.Fast.tw2954796578135366370 : Unit := ()
def PySem.W.Fast.tw2977799958028741953 : Unit := ()
def PySem.W.Fast.tw2644050536159507049 : Unit := ()
def PySem.W.Fast.tw16708726979727976938 : Unit := ()
def PySem.W.Fast.tw6527899741091523279 : Unit := ()
def PySem.W.Fast.tw1627538169202760117 : Unit := ()
def PySem.W.Fast.tw6533321854828919831 : Unit := ()
def PySem.W.Fast.tw9883054688573911655 : Unit := ()
def PySem.W.Fast.tw11330190250793760420 : Unit := ()
def PySem.W.Fast.tw6793837481440352255 : Unit := ()
def PySem.W.Fast.tw14616681767644610589 : Unit := ()
def PySem.W.Fast.tw14571317872608894531 : Unit := ()
def PySem.W.Fast.tw8869402594841002905 : Unit := ()
def PySem.W.Fast.tw9679815056296165438 : Unit := ()
def PySem.W.Fast.tw15027879455858964816 : Unit := ()
def PySem.W.Fast.tw1046437514247335414 : Unit := ()
def PySem.W.Fast.tw2831725417519739447 : Unit := ()
def PySem.W.Fast.tw9870235242286194967 : Unit := ()
def PySem.W.Fast.tw15228821108293604979 : Unit := ()
def PySem.W.Fast.tw6527177713288268126 : Unit := ()
def PySem.W.Fast.tw13618445665602075232 : Unit := ()
def PySem.W.Fast.tw5393637619053636628 : Unit := ()
def PySem.W.Fast.tw10041267521674116657 : Unit := ()
def PySem.W.Fast.tw6666701224059762197 : Unit := ()
def PySem.W.Fast.tw17106092212358222651 : Unit := ()
def PySem.W.Fast.tw7488448036845072495 : Unit := ()
def PySem.W.Fast.tw9888587689163593068 : Unit := ()
def PySem.W.Fast.tw16423620577039851933 : Unit := ()
def PySem.W.Fast.tw3185268038285055838 : Unit := ()
def PySem.W.Fast.tw16655481945277898567 : Unit := ()
def PySem.W.Fast.tw8160657195608732179 : Unit := ()
def PySem.W.Fast.tw10974245716010685571 : Unit := ()
def PySem.W.Fast.tw9272387697895765710 : Unit := ()
def PySem.W.Fast.tw3538565235895441012 : Unit := ()
def PySem.W.Fast.tw1592393464147721055 : Unit := ()
def PySem.W.Fast.tw5941843050607946831 : Unit := ()
def PySem.W.Fast.tw16835822570714017951 : Unit := ()
def PySem.W.Fast.tw13712202939980957303 : Unit := ()
def PySem.W.Fast.tw4945517327107869263 : Unit := ()
def PySem.W.Fast.tw3035993533925836184 : Unit := ()
def PySem.W.Fast.tw7232413324098958028 : Unit := ()
def PySem.W.Fast.tw1115421545411036632 : Unit := ()
def PySem.W.Fast.tw8953759263306275545 : Unit := ()
def PySem.W.Fast.tw3210892770116766395 : Unit := ()
def PySem.W.Fast.tw2678937162608866860 : Unit := ()
def PySem.W.Fast.tw10223934876798082965 : Unit := ()
def PySem.W.Fast.tw2784644281100831195 : Unit := ()
def PySem.W.Fast.tw7595189733030087971 : Unit := ()
def PySem.W.Fast.tw5447656797797841520 : Unit := ()
def PySem.W.Fast.tw2092889549785937717 : Unit := ()
def PySem.W.Fast.tw9993568614135912228 : Unit := ()
def PySem.W.Fast.tw14292872995848231773 : Unit := ()
def PySem.W.Fast.tw2441763838886898112 : Unit := ()
def PySem.W.Fast.tw7783047007042626342 : Unit := ()
def PySem.W.Fast.tw16843349512514025929 : Unit := ()
def PySem.W.Fast.tw11155966966568297707 : Unit := ()
def PySem.W.Fast.tw8593723130648603665 : Unit := ()
def PySem.W.Fast.tw6457150785339561080 : Unit := ()
def PySem.W.Fast.tw15445197939731350623 : Unit := ()
def PySem.W.Fast.tw6104003700353095116 : Unit := ()
def PySem.W.Fast.tw5521777417638187050 : Unit := ()
def PySem.W.Fast.tw7416094890616252930 : Unit := ()
def PySem.W.Fast.tw113186697135667644 : Unit := ()
def PySem.W.Fast.tw13629244395854349012 : Unit := ()
def PySem.W.Fast.tw17871983238358243863 : Unit := ()
def PySem.W.Fast.tw2272595290678920208 : Unit := ()
def PySem.W.Fast.tw849953516965647483 : Unit := ()
def PySem.W.Fast.tw1661171489505671234 : Unit := ()
def PySem.W.Fast.tw5800574727760076066 : Unit := ()
def PySem.W.Fast.tw9625287030775183673 : Unit := ()
def PySem.W.Fast.tw9533181571438107029 : Unit := ()
def PySem.W.Fast.tw2111716404812589334 : Unit := ()
def PySem.W.Fast.tw10571405806112859138 : Unit := ()
def PySem.W.Fast.tw11873507933966995422 : Unit := ()
def PySem.W.Fast.tw15079596509870172114 : Unit := ()
def PySem.W.Fast.tw7563511492239065331 : Unit := ()
def PySem.W.Fast.tw12803518227988405302 : Unit := ()
def PySem.W.Fast.tw734185900176048199 : Unit := ()
def PySem.W.Fast.tw7130642414735631049 : Unit := ()
def PySem.W.Fast.tw1030321738614243491 : Unit := ()
def PySem.W.Fast.tw4873793820670445817 : Unit := ()
def PySem.W.Fast.tw3586939262942236215 : Unit := ()
def PySem.W.Fast.tw17341277131880511124 : Unit := ()
def PySem.W.Fast.tw13032177122998319172 : Unit := ()
def PySem.W.Fast.tw296234710473095637 : Unit := ()
def PySem.W.Fast.tw13581592456468149589 : Unit := ()
def PySem.W.Fast.tw6654476612554160069 : Unit := ()
def PySem.W.Fast.tw11470348672904846780 : Unit := ()
def PySem.W.Fast.tw5101773395972689595 : Unit := ()
def PySem.W.Fast.tw8511787678031581580 : Unit := ()
def PySem.W.Fast.tw7595213612389963678 : Unit := ()
def PySem.W.Fast.tw17719498209717023934 : Unit := ()
def PySem.W.Fast.tw15262458494936802943 : Unit := ()
def PySem.W.Fast.tw17441234870657042475 : Unit := ()
def PySem.W.Fast.tw4119788219204479449 : Unit := ()
def PySem.W.Fast.tw15370614453928124256 : Unit := ()
def PySem.W.Fast.tw10263790431394076185 : Unit := ()
def PySem.W.Fast.tw14531297336642090442 : Unit := ()
def PySem.W.Fast.tw11932238813075577464 : Unit := ()
def PySem.W.Fast.tw441813720308065360 : Unit := ()
def PySem.W.Fast.tw17065719639018315864 : Unit := ()
def PySem.W.Fast.tw2268842274768085856 : Unit := ()
def PySem.W.Fast.tw10735715451584664676 : Unit := ()
def PySem.W.Fast.tw6646187749343665887 : Unit := ()
def PySem.W.Fast.tw7742357859280449867 : Unit := ()
def PySem.W.Fast.tw10207032114600159084 : Unit := ()
def PySem.W.Fast.tw18282173898987153494 : Unit := ()
def PySem.W.Fast.tw16277978443713510640 : Unit := ()
def PySem.W.Fast.tw8958937797618629449 : Unit := ()
def PySem.W.Fast.tw10752699896951565135 : Unit := ()
def PySem.W.Fast.tw7152858911404666229 : Unit := ()
def PySem.W.Fast.tw15356330138993026872 : Unit := ()
def PySem.W.Fast.tw12933238884195903134 : Unit := ()
def PySem.W.Fast.tw11053710733457982570 : Unit := ()
def PySem.W.Fast.tw4798406666009664622 : Unit := ()
def PySem.W.Fast.tw6982792135954797498 : Unit := ()
def PySem.W.Fast.tw7680879893248734647 : Unit := ()
def PySem.W.Fast.tw3759200290420538105 : Unit := ()
def PySem.W.Fast.tw11694615467248242755 : Unit := ()
def PySem.W.Fast.tw3986428795377242726 : Unit := ()
def PySem.W.Fast.tw342243732857017718 : Unit := ()
def PySem.W.Fast.tw11479997537589583919 : Unit := ()
def PySem.W.Fast.tw14219604891104332420 : Unit := ()
def PySem.W.Fast.tw12492421765913472253 : Unit := ()
def PySem.W.Fast.tw638114906679048675 : Unit := ()
def PySem.W.Fast.tw532668022964648248 : Unit := ()
def PySem.W.Fast.tw11654343867862506292 : Unit := ()
def PySem.W.Fast.tw8909766070159486660 : Unit := ()
def PySem.W.Fast.tw4005024627151243387 : Unit := ()
def PySem.W.Fast.tw13887133897782994830 : Unit := ()
def PySem.W.Fast.tw3812699947528342586 : Unit := ()
def PySem.W.Fast.tw7229627652417464764 : Unit := ()
def PySem.W.Fast.tw14892975100081581102 : Unit := ()
def PySem.W.Fast.tw7166855554828646544 : Unit := ()
def PySem.W.Fast.tw2879178909520647501 : Unit := ()
def PySem.W.Fast.tw15553510512650174014 : Unit := ()
def PySem.W.Fast.tw15966430605411748109 : Unit := ()
def PySem.W.Fast.tw13606688570352128211 : Unit := ()
def PySem.W.Fast.tw9355695796128895312 : Unit := ()
def PySem.W.Fast.tw16013785810258806343 : Unit := ()
def PySem.W.Fast.tw13556952260496400835 : Unit := ()
def PySem.W.Fast.tw16282156359790308394 : Unit := ()
def PySem.W.Fast.tw4969586713477620545 : Unit := ()
def PySem.W.Fast.tw3298972470266571791 : Unit := ()
def PySem.W.Fast.tw1570495155411761911 : Unit := ()
def PySem.W.Fast.tw956852114726343653 : Unit := ()
def PySem.W.Fast.tw6380795393796186745 : Unit := ()
def PySem.W.Fast.tw1223144119713658803 : Unit := ()
def PySem.W.Fast.tw13733591515007916014 : Unit := ()
def PySem.W.Fast.tw8713953138128045185 : Unit := ()
def PySem.W.Fast.tw158602641904820629 : Unit := ()
def PySem.W.Fast.tw2955193697612692292 : Unit := ()
def PySem.W.Fast.tw2245441475808764508 : Unit := ()
def PySem.W.Fast.tw1954358372582845159 : Unit := ()
def PySem.W.Fast.tw3390884982979589107 : Unit := ()
def PySem.W.Fast.tw7045570887678156566 : Unit := ()
def PySem.W.Fast.tw7014841884057256100 : Unit := ()
def PySem.W.Fast.tw13413011146132921732 : Unit := ()
def PySem.W.Fast.tw18042084304717897918 : Unit := ()
def PySem.W.Fast.tw10466848093550335515 : Unit := ()
def PySem.W.Fast.tw1864114933951542470 : Unit := ()
def PySem.W.Fast.tw11634707015629698899 : Unit := ()
def PySem.W.Fast.tw17177003116691312295 : Unit := ()
def PySem.W.Fast.tw12577099027967528173 : Unit := ()
def PySem.W.Fast.tw12802611116606609197 : Unit := ()
def PySem.W.Fast.tw14322161567811337597 : Unit := ()
def PySem.W.Fast.tw5545211857025314474 : Unit := ()
def PySem.W.Fast.tw6460583681135822412 : Unit := ()
def PySem.W.Fast.tw5543053017544750619 : Unit := ()
def PySem.W.Fast.tw6147697843031600035 : Unit := ()
def PySem.W.Fast.tw17839143781433375424 : Unit := ()
def PySem.W.Fast.tw9531700269157283602 : Unit := ()
def PySem.W.Fast.tw929161369859243432 : Unit := ()
def PySem.W.Fast.tw4242784563577999041 : Unit := ()
def PySem.W.Fast.tw11564867911225935312 : Unit := ()
def PySem.W.Fast.tw7232701777117189696 : Unit := ()
def PySem.W.Fast.tw14396602953261062867 : Unit := ()
def PySem.W.Fast.tw11078408010019635945 : Unit := ()
def PySem.W.Fast.tw15854101810364858663 : Unit := ()
def PySem.W.Fast.tw15382966140215409663 : Unit := ()
def PySem.W.Fast.tw6235694840778986343 : Unit := ()
def PySem.W.Fast.tw15798646873262757787 : Unit := ()
def PySem.W.Fast.tw9979700886539150645 : Unit := ()
def PySem.W.Fast.tw14400003774657521316 : Unit := ()
def PySem.W.Fast.tw2279465112690895321 : Unit := ()
def PySem.W.Fast.tw13475157830418197537 : Unit := ()
def PySem.W.Fast.tw14934679090986355850 : Unit := ()
def PySem.W.Fast.tw2076226093632055358 : Unit := ()
def PySem.W.Fast.tw9312867232844030081 : Unit := ()
def PySem.W.Fast.tw14528887003312504715 : Unit := ()
def PySem.W.Fast.tw17320032138231435007 : Unit := ()
def PySem.W.Fast.tw15313000532798286403 : Unit := ()
def PySem.W.Fast.tw15958835961241000943 : Unit := ()
def PySem.W.Fast.tw12075498581362917983 : Unit := ()
def PySem.W.Fast.tw8946839226481844780 : Unit := ()
def PySem.W.Fast.tw7359349497009879480 : Unit := ()
def PySem.W.Fast.tw7131959062625188797 : Unit := ()
def PySem.W.Fast.tw18116344103051981110 : Unit := ()
def PySem.W.Fast.tw14009728424352400213 : Unit := ()
def PySem.W.Fast.tw14089250035271417317 : Unit := ()
def PySem.W.Fast.tw10270575697782257841 : Unit := ()
def PySem.W.Fast.tw8363483233257497918 : Unit := ()
def PySem.W.Fast.tw6066456884662835482 : Unit := ()
def PySem.W.Fast.tw12199263726979240889 : Unit := ()
def PySem.W.Fast.tw17258894159680647888 : Unit := ()
def PySem.W.Fast.tw3298722246428047706 : Unit := ()
def PySem.W.Fast.tw186210830306063111 : Unit := ()
def PySem.W.Fast.tw4304396108815069779 : Unit := ()
def PySem.W.Fast.tw9280893940617748650 : Unit := ()
def PySem.W.Fast.tw9313412881267077108 : Unit := ()
def PySem.W.Fast.tw7180309313046469236 : Unit := ()
def PySem.W.Fast.tw10372235694006131359 : Unit := ()
def PySem.W.Fast.tw5595325666540053296 : Unit := ()
def PySem.W.Fast.tw11105541364253756974 : Unit := ()
def PySem.W.Fast.tw2918878876169624210 : Unit := ()
def PySem.W.Fast.tw3361965264457914289 : Unit := ()
def PySem.W.Fast.tw18133337469952240862 : Unit := ()
def PySem.W.Fast.tw2557477372150595202 : Unit := ()
def PySem.W.Fast.tw13715737285069046282 : Unit := ()
def PySem.W.Fast.tw2927923917517196834 : Unit := ()
def PySem.W.Fast.tw14793287020186382434 : Unit := ()
def PySem.W.Fast.tw14688447660048758972 : Unit := ()
def PySem.W.Fast.tw10123466842745678653 : Unit := ()
def PySem.W.Fast.tw9096467926271545293 : Unit := ()
def PySem.W.Fast.tw8745958804730683846 : Unit := ()
def PySem.W.Fast.tw13469049366170502494 : Unit := ()
def PySem.W.Fast.tw7289884157671260257 : Unit := ()
def PySem.W.Fast.tw15431062812621201903 : Unit := ()
def PySem.W.Fast.tw16709746510934833046 : Unit := ()
def PySem.W.Fast.tw10631735937115989609 : Unit := ()
def PySem.W.Fast.tw13906013848300120058 : Unit := ()
def PySem.W.Fast.tw17862606015453927813 : Unit := ()
def PySem.W.Fast.tw942783661291393254 : Unit := ()
def PySem.W.Fast.tw16131098959538858088 : Unit := ()
def PySem.W.Fast.tw3194488473144989198 : Unit := ()
def PySem.W.Fast.tw7171495496442932816 : Unit := ()
def PySem.W.Fast.tw7715886436179800188 : Unit := ()
def PySem.W.Fast.tw3129369484897243278 : Unit := ()
def PySem.W.Fast.tw18316443221410622178 : Unit := ()
def PySem.W.Fast.tw14576169901198433803 : Unit := ()
def PySem.W.Fast.tw6576427601863914142 : Unit := ()
def PySem.W.Fast.tw6673887014759011184 : Unit := ()
def PySem.W.Fast.tw13637523338745726871 : Unit := ()
def PySem.W.Fast.tw11012097139943022181 : Unit := ()
def PySem.W.Fast.tw686205859285505976 : Unit := ()
def PySem.W.Fast.tw2453732665028196673 : Unit := ()
def PySem.W.Fast.tw9713065843119844514 : Unit := ()
def PySem.W.Fast.tw12846658203840696613 : Unit := ()
def PySem.W.Fast.tw4675341539219791511 : Unit := ()
def PySem.W.Fast.tw8392139530147785262 : Unit := ()
def PySem.W.Fast.tw18139555283829338396 : Unit := ()
def PySem.W.Fast.tw10155274747306570530 : Unit := ()
def PySem.W.Fast.tw12752231650744372838 : Unit := ()
def PySem.W.Fast.tw4098059880924340538 : Unit := ()
def PySem.W.Fast.tw13688904361386003252 : Unit := ()
def PySem.W.Fast.tw12044305465639155014 : Unit := ()
def PySem.W.Fast.tw10352267240083037038 : Unit := ()
def PySem.W.Fast.tw7263581858932012016 : Unit := ()
def PySem.W.Fast.tw12703047179612159468 : Unit := ()
def PySem.W.Fast.tw2766236839032913150 : Unit := ()
def PySem.W.Fast.tw8639648555337604233 : Unit := ()
def PySem.W.Fast.tw4980999146561037557 : Unit := ()
def PySem.W.Fast.tw11687334725769594871 : Unit := ()
def PySem.W.Fast.tw1160704265847783575 : Unit := ()
def PySem.W.Fast.tw12390056272004916056 : Unit := ()
def PySem.W.Fast.tw11550051862051287308 : Unit := ()
def PySem.W.Fast.tw11046568947295002142 : Unit := ()
def PySem.W.Fast.tw10536701514132892755 : Unit := ()
def PySem.W.Fast.tw11921997445823025564 : Unit := ()
def PySem.W.Fast.tw4513461053423358422 : Unit := ()
def PySem.W.Fast.tw8952410230727677045 : Unit := ()
def PySem.W.Fast.tw16034397232285838026 : Unit := ()
def PySem.W.Fast.tw222404460791566758 : Unit := ()
def PySem.W.Fast.tw5819612573125582671 : Unit := ()
def PySem.W.Fast.tw6980283058010627742 : Unit := ()
open PySem PySem.W PyProof.Rows
set_option maxRecDepth 100000 in
set_option maxHeartbeats 0 in
theorem PySem.Challenge.cw_asktally_k33_rows_that_lead_to_none_holds : PySem.Challenge.rw_asktally_k33_rows_that_lead_to_none.Holds := by
  w_on; o_law; k_head; (case hw => w_witness2)
  k_fill
  refine Mine.walk (l := PySem.Challenge.rw_asktally_k33_rows_that_lead_to_none) rfl rfl (fun w h Y => PySem.W.kIn_of Y) ?F
  case F =>
    intro w mg fa h KX G hmg
    refine' Mine.all_mk KX G hmg ?a0 ?l0 ?c0 ?k0 ?a1 ?l1 ?c1 ?k1 ?a2 ?l2 ?c2 ?k2 ?a3 ?l3 ?c3 ?k3 ?a4 ?l4 ?c4 ?k4 ?a5 ?l5 ?c5 ?k5 ?a6 ?l6 ?c6 ?k6 ?a7 ?l7 ?c7 ?k7 ?a8 ?l8 ?c8 ?k8 ?a9 ?l9 ?c9 ?k9 ?a10 ?l10 ?c10 ?k10 ?a11 ?l11 ?c11 ?k11 ?a12 ?l12 ?c12 ?k12 ?a13 ?l13 ?c13 ?k13 ?gAs ?iAs0 ?xga ?xrd ?xfc0 ?xlk ?xtp ?xcd ?xkp ?yg0 ?yo0 ?ys0 ?ya0 ?yt0 ?yc0 ?ye0 ?yg1 ?yo1 ?ys1 ?ya1 ?yt1 ?yc1 ?ye1 ?yg2 ?yo2 ?ys2 ?ya2 ?yt2 ?yc2 ?ye2 ?yg3 ?yo3 ?ys3 ?ya3 ?yt3 ?yc3 ?ye3 ?yg4 ?yo4 ?ys4 ?ya4 ?yt4 ?yc4 ?ye4 ?yg5 ?yo5 ?ys5 ?ya5 ?yt5 ?yc5 ?yi5 ?yl5 ?yk5 ?yp5 ?yq5 ?yn5 ?ye5 ?yg6 ?yo6 ?ys6 ?ya6 ?yt6 ?yc6 ?ye6 ?yg7 ?yo7 ?ys7 ?ya7 ?yt7 ?yc7 ?ye7 ?yg8 ?yo8 ?ys8 ?ya8 ?yt8 ?yc8 ?ye8 ?yg9 ?yo9 ?ys9 ?ya9 ?yt9 ?yc9 ?ye9 ?hV0 ?ynd ?z0 ?z1 ?z2 ?z3 ?z4 ?z5 ?z6 ?z7 ?z8 ?z9 ?z10
    (case a0 => k_is); (case l0 => k_is); (case c0 => k_is); (case k0 => k_is)
    (case a1 => k_is); (case l1 => k_is); (case c1 => k_is); (case k1 => k_is)
    (case a2 => k_is); (case l2 => k_is); (case c2 => k_is); (case k2 => k_is)
    (case a3 => k_is); (case l3 => k_is); (case c3 => k_is); (case k3 => k_is)
    (case a4 => k_is); (case l4 => k_is); (case c4 => k_is); (case k4 => k_is)
    (case a5 => k_is); (case l5 => k_is); (case c5 => k_is); (case k5 => k_is)
    (case a6 => k_is); (case l6 => k_is); (case c6 => k_is); (case k6 => k_is)
    (case a7 => k_is); (case l7 => k_is); (case c7 => k_is); (case k7 => k_is)
    (case a8 => k_is); (case l8 => k_is); (case c8 => k_is); (case k8 => k_is)
    (case a9 => k_is); (case l9 => k_is); (case c9 => k_is); (case k9 => k_is)
    (case a10 => k_is); (case l10 => k_is); (case c10 => k_is); (case k10 => k_is)
    (case a11 => k_is); (case l11 => k_is); (case c11 => k_is); (case k11 => k_is)
    (case a12 => k_is); (case l12 => k_is); (case c12 => k_is); (case k12 => k_is)
    (case a13 => k_is); (case l13 => k_is); (case c13 => k_is); (case k13 => k_is)
    (case gAs => k_is)
    (case iAs0 => k_is)
    (case xga => k_is)
    (case xrd => k_is)
    (case xfc0 => k_is)
    (case xlk => k_is)
    (case xtp => k_is)
    (case xcd => k_is)
    (case xkp => k_is)
    (case yg0 => k_is)
    (case yo0 => k_is)
    (case ys0 => k_is)
    (case ya0 => k_is)
    (case yt0 => k_is)
    (case yc0 => k_is)
    (case ye0 => decide)
    (case yg1 => k_is)
    (case yo1 => k_is)
    (case ys1 => k_is)
    (case ya1 => k_is)
    (case yt1 => k_is)
    (case yc1 => k_is)
    (case ye1 => decide)
    (case yg2 => k_is)
    (case yo2 => k_is)
    (case ys2 => k_is)
    (case ya2 => k_is)
    (case yt2 => k_is)
    (case yc2 => k_is)
    (case ye2 => decide)
    (case yg3 => k_is)
    (case yo3 => k_is)
    (case ys3 => k_is)
    (case ya3 => k_is)
    (case yt3 => k_is)
    (case yc3 => k_is)
    (case ye3 => decide)
    (case yg4 => k_is)
    (case yo4 => k_is)
    (case ys4 => k_is)
    (case ya4 => k_is)
    (case yt4 => k_is)
    (case yc4 => k_is)
    (case ye4 => decide)
    (case yg5 => k_is)
    (case yo5 => k_is)
    (case ys5 => k_is)
    (case ya5 => k_is)
    (case yt5 => k_is)
    (case yc5 => k_is)
    (case yi5 => k_is)
    (case yl5 => k_is)
    (case yk5 => k_is)
    (case yp5 => k_is)
    (case yq5 => k_is)
    (case yn5 => k_is)
    (case ye5 => decide)
    (case yg6 => k_is)
    (case yo6 => k_is)
    (case ys6 => k_is)
    (case ya6 => k_is)
    (case yt6 => k_is)
    (case yc6 => k_is)
    (case ye6 => decide)
    (case yg7 => k_is)
    (case yo7 => k_is)
    (case ys7 => k_is)
    (case ya7 => k_is)
    (case yt7 => k_is)
    (case yc7 => k_is)
    (case ye7 => decide)
    (case yg8 => k_is)
    (case yo8 => k_is)
    (case ys8 => k_is)
    (case ya8 => k_is)
    (case yt8 => k_is)
    (case yc8 => k_is)
    (case ye8 => decide)
    (case yg9 => k_is)
    (case yo9 => k_is)
    (case ys9 => k_is)
    (case ya9 => k_is)
    (case yt9 => k_is)
    (case yc9 => k_is)
    (case ye9 => decide)
    (case hV0 => k_is)
    (case ynd => decide)
    (case z0 => k_is)
    (case z1 => k_is)
    (case z2 => k_is)
    (case z3 => k_is)
    (case z4 => k_is)
    (case z5 => k_is)
    (case z6 => k_is)
    (case z7 => k_is)
    (case z8 => k_is)
    (case z9 => k_is)
    (case z10 => k_is)
