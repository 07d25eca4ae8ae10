import PyProof.Rows.All
import Wide.All
import OpenK.AllK
import Wide.FinOn
import Lean
import PyProof.EqAt
import PyProof.EqKinds
import PyProof.TupleCall
import PySem.Challenge.RW_asktally_k74_counts_and_bounds_at_the_de
set_option Elab.async false
set_option linter.all false
set_option maxRecDepth 100000
namespace L2
open PySem PySem.Spec PyProof.Rows
abbrev Key:=Sum Int Str
def keyIs:Key→Value→Bool
  | .inl k,v=>Value.isInt k v
  | .inr x,v=>Value.isStrOf x v
def keyH (w:World):Key→Int
  | .inl k=>hashInt k
  | .inr x=>hashStr w x
theorem keyIs_shape:∀ {k:Key} {v:Value},keyIs k v=true→(∃ i t,k=Sum.inl i∧v=Value.int i t)∨(∃ x t,k=Sum.inr x∧v=Value.str x t)
  | .inl i,v,h=>by
    obtain ⟨t,e⟩:=Value.isInt_shape (k:=i) (v:=v) h
    exact .inl ⟨i,t,rfl,e⟩
  | .inr x,v,h=>by
    obtain ⟨t,e⟩:=Value.isStrOf_shape (x:=x) (v:=v) h
    exact .inr ⟨x,t,rfl,e⟩
theorem key_ll (a b:Int):decide ((Sum.inl a:Key)=Sum.inl b)=(a == b):=by
  by_cases e:a=b
  · subst e; simp
  · have h:¬ (Sum.inl a:Key)=Sum.inl b:=fun q=>e (Sum.inl.inj q)
    rw [decide_eq_false h]
    exact (beq_eq_false_iff_ne.mpr e).symm
theorem key_rr (a b:Str):decide ((Sum.inr a:Key)=Sum.inr b)=decide (a=b):=by
  by_cases e:a=b
  · subst e; simp
  · have h:¬ (Sum.inr a:Key)=Sum.inr b:=fun q=>e (Sum.inr.inj q)
    rw [decide_eq_false h,decide_eq_false e]
theorem key_lr (a:Int) (b:Str):decide ((Sum.inl a:Key)=Sum.inr b)=false:=decide_eq_false (fun q=>nomatch q)
theorem key_rl (a:Str) (b:Int):decide ((Sum.inr a:Key)=Sum.inl b)=false:=decide_eq_false (fun q=>nomatch q)
def mixKind (prog:Program) (w:World):PySem.KeyKind prog w Key where
  is:=keyIs
  hash:=keyH w
  inj:=fun v a b ha hb=>by
    rcases keyIs_shape ha with ⟨i,t,rfl,rfl⟩ | ⟨x,t,rfl,rfl⟩
    · rcases keyIs_shape hb with ⟨j,u,rfl,e⟩ | ⟨y,u,rfl,e⟩
      · injection e with e1 _; rw [e1]
      · exact nomatch e
    · rcases keyIs_shape hb with ⟨j,u,rfl,e⟩ | ⟨y,u,rfl,e⟩
      · exact nomatch e
      · injection e with e1 _; rw [e1]
  byValue:=fun k v h=>by
    rcases keyIs_shape h with ⟨i,t,rfl,rfl⟩ | ⟨x,t,rfl,rfl⟩ <;> rfl
  pyHash:=fun hv h=>by
    rcases keyIs_shape hv with ⟨i,t,rfl,rfl⟩ | ⟨x,t,rfl,rfl⟩
    · exact wpAny_pyHash_int h
    · exact wpAny_pyHash_str h
  eqBool:=fun hu hv h=>by
    rcases keyIs_shape hu with ⟨i,t,rfl,rfl⟩ | ⟨x,t,rfl,rfl⟩
    · rcases keyIs_shape hv with ⟨j,u,rfl,rfl⟩ | ⟨y,u,rfl,rfl⟩
      · rw [key_ll] at h; exact wpAny_eqBool_int h
      · rw [key_lr] at h; exact SeqAt.EqAt.int_str i t y u _ _ _ _ h
    · rcases keyIs_shape hv with ⟨j,u,rfl,rfl⟩ | ⟨y,u,rfl,rfl⟩
      · rw [key_rl] at h; exact SeqAt.EqAt.str_int x t j u _ _ _ _ h
      · rw [key_rr] at h; exact wpAny_eqBool_str h
  «strs»:=fun k x t v h=>by
    rcases keyIs_shape h with ⟨i,u,rfl,e⟩ | ⟨y,u,rfl,e⟩
    · exact nomatch e
    · injection e with e1 _
      subst e1
      cases v <;> rfl
end L2
namespace L2
open PySem PySem.Spec PyProof.Rows
inductive V where
  | non | bl (b:Bool) | int (i:Int) | str (x:Str) | byt (b:Array UInt8) | flt (b:UInt64) | ref (a:Addr) | ty (n:String)
  deriving DecidableEq
def RelV:V→Value→Prop
  | .non,u=>u=Value.none
  | .bl b,u=>u=Value.bool b
  | .int i,u=>∃ t,u=Value.int i t
  | .str x,u=>∃ t,u=Value.str x t
  | .byt b,u=>∃ t,u=Value.bytes b t
  | .flt b,u=>∃ t,u=Value.float b t
  | .ref a,u=>u=Value.ref a
  | .ty n,u=>u=Value.type n
abbrev Vals:List V→List Value→Prop:=Paired RelV
theorem Vals.length {xs:List V} {us:List Value} (r:Vals xs us):xs.length=us.length:=Paired.length r
theorem Vals.get:∀ {xs:List V} {us:List Value} {i:Nat} {x:V},Vals xs us→xs[i]?=some x→∃ u,us[i]?=some u∧RelV x u
  | _,_,_,_,.nil,e=>by simp at e
  | _,_,0,_,.cons r _,e=>by simp at e; subst e; exact ⟨_,rfl,r⟩
  | _,_,i+1,x,.cons _ t,e=>by
    obtain ⟨u,h1,h2⟩:=Vals.get (i:=i) (x:=x) t (by simpa using e)
    exact ⟨u,by simpa using h1,h2⟩
theorem Vals.set {x:V} {u:Value} (r:RelV x u):∀ {xs:List V} {us:List Value} (i:Nat),Vals xs us→Vals (xs.set i x) (us.set i u)
  | _,_,_,.nil=>.nil
  | _,_,0,.cons _ t=>.cons r t
  | _,_,i+1,.cons q t=>.cons q (Vals.set r i t)
theorem Vals.append:∀ {xs ys:List V} {us ws:List Value},Vals xs us→Vals ys ws→Vals (xs++ys) (us++ws)
  | _,_,_,_,.nil,s=>s
  | _,_,_,_,.cons r t,s=>.cons r (Vals.append t s)
theorem Vals.take:∀ {xs:List V} {us:List Value} (n:Nat),Vals xs us→Vals (xs.take n) (us.take n)
  | _,_,0,_=>.nil
  | _,_,_+1,.nil=>.nil
  | _,_,n+1,.cons r t=>.cons r (Vals.take n t)
theorem Vals.drop:∀ {xs:List V} {us:List Value} (n:Nat),Vals xs us→Vals (xs.drop n) (us.drop n)
  | _,_,0,r=>r
  | _,_,_+1,.nil=>.nil
  | _,_,n+1,.cons _ t=>Vals.drop n t
def RelO:Option V→Option Value→Prop
  | some v,some u=>RelV v u
  | none,none=>True
  | _,_=>False
def KV {κ:Type}:List (κ × V)→List (κ × Value)→Prop:=Paired fun (p:κ × V) (q:κ × Value)=>p.1=q.1∧RelV p.2 q.2
def kV:Key→V
  | .inl i=>.int i
  | .inr x=>.str x
inductive HO where
    | lst (xs:List V)
    | tup (xs:List V)
    | dK (kvs:List (Key × V)) | dT (kvs:List (List Key × V))
    | set (S:Int→Bool) (n:Nat)
    | ins (C dx:Addr) (fs:List (Str × V))
    | own (x:Addr)
    | xd (fs:List (Str × V))
    | met (f x:Addr)
    | rng (lo hi:Int)
    | frz (o:Obj) (u:HO)
    | tbl (ps:Array Value)
    | ext (φ:Heap→Prop)
abbrev Hp:=Addr→Option HO
def upd (H:Hp) (a:Addr) (o:HO):Hp:=fun b=>if b=a then some o else H b
theorem upd_same {H:Hp} {a:Addr} {o:HO}:upd H a o a=some o:=by unfold upd; rw [if_pos rfl]
theorem upd_ne {H:Hp} {a b:Addr} {o:HO} (h:b ≠ a):upd H a o b=H b:=by unfold upd; rw [if_neg h]
theorem ne_of {H:Hp} {a b:Addr} {o u:HO} (h:H a=some o) (h':H b=some u) (d:o ≠ u):a ≠ b:=by
  intro e; subst e; rw [h] at h'; exact d (Option.some.inj h')
theorem ne_of_none {H:Hp} {a b:Addr} {o:HO} (h:H a=some o) (h':H b=none):a ≠ b:=by
  intro e; subst e; rw [h] at h'; cases h'
section
variable (P:Program) (w:World)
def ObjOk (H:Hp) (h:Heap) (a:Addr):HO→Prop
  | .lst xs=>xs.length≤sizeLine∧∃ (its:List Value) (n:Nat),Vals xs its∧h.get? a=some { cls:=.type "list", data:=.seq its.toArray n }
  | .tup xs=>xs.length≤sizeLine∧∃ its:List Value,Vals xs its∧IsTup h a its.toArray∧∃ o,h.get? a=some o∧o.dict=none
  | .dK kvs=>kvs.length≤sizeLine∧(a == sysModules)=false∧∃ vs,KV kvs vs∧h.DictOf (mixKind P w) a vs
  | .dT kvs=>kvs.length≤sizeLine∧(a == sysModules)=false∧∃ xs:List (List Key × Addr × Value),
      Paired (fun (p:List Key × V) (q:List Key × Addr × Value)=>p.1=q.1∧H q.2.1=some (.tup (p.1.map kV))∧RelV p.2 q.2.2) kvs xs ∧
      ∃ o es ep,h.get? a=some o∧o.ExactDict∧o.data=.dict es ep∧es.toList=xs.map (entryOfKey (tupleKind (mixKind P w)))∧(xs.map (·.1)).Nodup
  | .set S n=>h.SetOf (intKind P w) a S n
  | .ins C dx fs=>H dx=some (.own a)∧fs.length≤1000∧dx ≠ a∧h.get? a=some (PySem.W.instObj C dx) ∧
      ∃ mA,h.Ns1 dx mA∧(∀ f,RelO (fs.lookup f) (mA f))∧PySem.Within mA (fs.map (·.1))
  | .own _=>∃ o,h.get? a=some o
  | .xd fs=>∃ mA,h.Ns1 a mA∧∀ f,RelO (fs.lookup f) (mA f)
  | .rng lo hi=>∃ t u v,h.get? a=some { cls:=.type "range", data:=.fields #[.int lo t,.int hi u,.int 1 v] }
  | .frz o u=>h.get? a=some o∧ObjOk H h a u
  | .tbl ps=>h.get? a=some { cls:=.none,data:=.fields ps }
  | .met f x=>h.get? a=some (PySem.W.methodObj (.ref f) (.ref x))
  | .ext φ=>φ h∧(∃ o,h.get? a=some o)∧∀ h1 h2:Heap,φ h1→(∀ o,h1.get? a=some o→h2.get? a=some o)→φ h2
def HOk (H:Hp) (h:Heap):Prop:=∀ a o,H a=some o→ObjOk P w H h a o
end
section
variable {P:Program} {w:World} {H H':Hp} {h h':Heap} {a:Addr} {o:HO}
theorem ObjOk.lt (x:ObjOk P w H h a o):a < h.objs.size:=by
  cases o with
  | lst xs=>obtain ⟨_,_,_,_,e⟩:=x; exact Heap.lt_size e
  | tup xs=>obtain ⟨_,_,_,p,_⟩:=x; exact p.lt
  | dK kvs=>obtain ⟨_,_,_,_,o,_,_,e,_⟩:=x; exact Heap.lt_size e
  | dT kvs=>obtain ⟨_,_,_,_,o,_,_,e,_⟩:=x; exact Heap.lt_size e
  | set S n=>obtain ⟨o,_,_,_,e,_⟩:=x; exact Heap.lt_size e
  | ins C dx fs=>obtain ⟨_,_,_,e,_⟩:=x; exact Heap.lt_size e
  | own y=>obtain ⟨_,e⟩:=x; exact Heap.lt_size e
  | xd fs=>obtain ⟨_,⟨_,_,_,e,_⟩,_⟩:=x; exact Heap.lt_size e
  | rng lo hi=>obtain ⟨_,_,_,e⟩:=x; exact Heap.lt_size e
  | frz ob u=>obtain ⟨e,_⟩:=x; exact Heap.lt_size e
  | tbl ps=>exact Heap.lt_size (show h.get? a=some _ from x)
  | met f y=>exact Heap.lt_size (show h.get? a=some _ from x)
  | ext φ=>obtain ⟨_,⟨_,e⟩,_⟩:=x; exact Heap.lt_size e
theorem Paired.mapP {α β:Type} {F G:α→β→Prop}:∀ {l₁:List α} {l₂:List β},Paired F l₁ l₂→(∀ a b,F a b→G a b)→Paired G l₁ l₂
  | _,_,.nil,_=>.nil
  | _,_,.cons r t,f=>.cons (f _ _ r) (Paired.mapP t f)
theorem ObjOk.stay (x:ObjOk P w H h a o) (k:∀ b u,(b=a∨H b=some (.own a))→h.get? b=some u→h'.get? b=some u)
    (ho:∀ b,H b=some (.own a)→H' b=some (.own a)) (ht:∀ b xs,H b=some (.tup xs)→H' b=some (.tup xs)):ObjOk P w H' h' a o:=by
  induction o with
  | lst xs=>obtain ⟨z,its,n,r,e⟩:=x; exact ⟨z,its,n,r,k _ _ (.inl rfl) e⟩
  | tup xs=>obtain ⟨z,its,r,⟨ob,e,c⟩,od,e2,d⟩:=x; exact ⟨z,its,r,⟨ob,k _ _ (.inl rfl) e,c⟩,od,k _ _ (.inl rfl) e2,d⟩
  | dK kvs=>obtain ⟨z,y,vs,r,ob,es,ep,e,c⟩:=x; exact ⟨z,y,vs,r,ob,es,ep,k _ _ (.inl rfl) e,c⟩
  | dT kvs =>
    obtain ⟨z,y,xs,r,ob,es,ep,e,c⟩:=x
    exact ⟨z,y,xs,Paired.mapP r fun p q z=>⟨z.1,ht _ _ z.2.1,z.2.2⟩,ob,es,ep,k _ _ (.inl rfl) e,c⟩
  | set S n=>obtain ⟨ob,es,ep,t,e,c⟩:=x; exact ⟨ob,es,ep,t,k _ _ (.inl rfl) e,c⟩
  | ins C dx fs =>
    obtain ⟨d,z,ne,e,mA,⟨od,es,ep,e2,c⟩,r⟩:=x
    exact ⟨ho _ d,z,ne,k _ _ (.inl rfl) e,mA,⟨od,es,ep,k _ _ (.inr d) e2,c⟩,r⟩
  | own y=>obtain ⟨ob,e⟩:=x; exact ⟨ob,k _ _ (.inl rfl) e⟩
  | xd fs=>obtain ⟨mA,⟨od,es,ep,e,c⟩,r⟩:=x; exact ⟨mA,⟨od,es,ep,k _ _ (.inl rfl) e,c⟩,r⟩
  | rng lo hi=>obtain ⟨t,u,v,e⟩:=x; exact ⟨t,u,v,k _ _ (.inl rfl) e⟩
  | frz ob u ih=>obtain ⟨e,q⟩:=x; exact ⟨k _ _ (.inl rfl) e,ih q⟩
  | tbl ps =>
    have e:h.get? a=some { cls:=.none,data:=.fields ps }:=x
    show h'.get? a=some { cls:=.none,data:=.fields ps }
    exact k a _ (.inl rfl) e
  | met f y =>
    have e:h.get? a=some (PySem.W.methodObj (.ref f) (.ref y)):=x
    show h'.get? a=some (PySem.W.methodObj (.ref f) (.ref y))
    exact k a _ (.inl rfl) e
  | ext φ=>obtain ⟨p,⟨o,e⟩,st⟩:=x; exact ⟨st _ _ p fun o q=>k _ _ (.inl rfl) q,⟨o,k _ _ (.inl rfl) e⟩,st⟩
theorem HOk.lt (x:HOk P w H h) (e:H a=some o):a < h.objs.size:=(x a o e).lt
theorem HOk.fresh (x:HOk P w H h) (e:h.objs.size≤a):H a=none:=by
  cases q:H a with
  | none=>rfl
  | some u=>exact absurd (Nat.lt_of_lt_of_le (x.lt q) e) (Nat.lt_irrefl _)
theorem HOk.kept (x:HOk P w H h) (k:∀ b u,h.get? b=some u→h'.get? b=some u):HOk P w H h':=fun a o e =>
  (x a o e).stay (fun b u _ q=>k b u q) (fun _ q=>q) fun _ _ q=>q
theorem HOk.laid (x:HOk P w H h) (k:∀ b u,h.get? b=some u→h'.get? b=some u) (hp:h.objs.size≤a) (new:ObjOk P w (upd H a o) h' a o):HOk P w (upd H a o) h':=fun b u e=>by
  have hn:=x.fresh hp
  by_cases hb:b=a
  · subst hb; rw [upd_same] at e; cases e; exact new
  · rw [upd_ne hb] at e
    exact (x b u e).stay (fun c v _ q=>k c v q) (fun c q=>by rw [upd_ne (ne_of_none q hn)]; exact q) fun c xs q=>by rw [upd_ne (ne_of_none q hn)]; exact q
end
def Rd (H:Hp) (a:Addr) (u:HO):Prop:=H a=some u∨∃ o,H a=some (.frz o u)
theorem Rd.ok {P:Program} {w:World} {H:Hp} {h:Heap} {a:Addr} {u:HO} (r:Rd H a u) (x:HOk P w H h):ObjOk P w H h a u:=by
  rcases r with r | ⟨o,r⟩
  · exact x a u r
  · obtain ⟨_,q⟩:=x a _ r
    exact q
def Mut:Option HO→Prop
  | some (.lst _)=>True
  | some (.dK _)=>True
  | some (.dT _)=>True
  | some (.set _ _)=>True
  | some (.ins _ _ _)=>True
  | some (.ext _)=>True
  | _=>False
section
variable {P:Program} {w:World} {H:Hp} {h h':Heap} {x e:Addr} {o':HO}
theorem HOk.write (ok:HOk P w H h) (mu:Mut (H x)) (he:e=x∨H e=some (.own x)) (k:∀ b u,b ≠ e→h.get? b=some u→h'.get? b=some u) (heo:∃ u,h'.get? e=some u)
    (new:ObjOk P w (upd H x o') h' x o'):HOk P w (upd H x o') h':=fun b u q=>by
  have nown:∀ c y,H c=some (.own y)→c ≠ x:=fun c y r z=>by subst z; rw [r] at mu; exact mu
  have ntup:∀ c xs,H c=some (.tup xs)→c ≠ x:=fun c xs r z=>by subst z; rw [r] at mu; exact mu
  by_cases hb:b=x
  · subst hb; rw [upd_same] at q; cases q; exact new
  · rw [upd_ne hb] at q
    by_cases hbe:b=e
    · have q':H b=some (.own x):=by
        rcases he with z | z
        · exact absurd (hbe.trans z) hb
        · rw [hbe]; exact z
      rw [q] at q'; cases q'
      obtain ⟨v,hv⟩:=heo
      exact ⟨v,by rw [hbe]; exact hv⟩
    · refine (ok b u q).stay (fun c v hc r=>k c v ?_ r) (fun c r=>by rw [upd_ne (nown c b r)]; exact r) fun c xs r=>by rw [upd_ne (ntup c xs r)]; exact r
      rcases hc with rfl | hc
      · exact hbe
      · rintro rfl
        rcases he with z | z
        · exact nown c b hc z
        · rw [hc] at z; cases z; exact hb rfl
end
structure Un (fs ex:List Addr) (H H':Hp) (h h':Heap):Prop where
  keep:∀ b o,h.get? b=some o→H b=none→b ∉ fs→b ∉ ex→h'.get? b=some o
  slot:∀ b o,h.get? b=some o→H b=none→b ∈ fs→b ∉ ex→∃ sl,h'.get? b=some { o with slots:=sl }
  free:∀ b o,h.get? b=some o→H b=none→b ∉ ex→H' b=none
  there:∀ b o,h.get? b=some o→b ∉ ex→∃ o',h'.get? b=some o'
  tups:∀ b xs,H b=some (.tup xs)→H' b=some (.tup xs)
  frzs:∀ b o u,H b=some (.frz o u)→H' b=some (.frz o u)
  tbls:∀ b ps,H b=some (.tbl ps)→∃ more,H' b=some (.tbl (ps++more))
section
variable {fs fs' ex ex':List Addr} {H H1 H2:Hp} {h h1 h2 h':Heap} {a x e:Addr} {o:HO}
theorem Un.any (u:Un fs ex H H1 h h1) {b:Addr} {ob:Obj} (q:h.get? b=some ob) (n:H b=none) (hx:b ∉ ex):∃ sl,h1.get? b=some { ob with slots:=sl }:=by
  by_cases hb:b ∈ fs
  · exact u.slot b ob q n hb hx
  · exact ⟨ob.slots,u.keep b ob q n hb hx⟩
theorem Un.kept (k:∀ b u,h.get? b=some u→h'.get? b=some u):Un fs ex H H h h' :=
  ⟨fun b ob q _ _ _=>k b ob q,fun b ob q _ _ _=>⟨ob.slots,k b ob q⟩,fun _ _ _ n _=>n,fun b ob q _=>⟨ob,k b ob q⟩,fun _ _ q=>q,fun _ _ _ q=>q,fun _ ps q=>⟨#[],by rw [q]; simp⟩⟩
theorem Un.refl:Un fs ex H H h h:=Un.kept fun _ _ q=>q
theorem Un.laid (k:∀ b u,h.get? b=some u→h'.get? b=some u) (hp:h.objs.size≤a) (hn:H a=none):Un fs ex H (upd H a o) h h' where
  keep:=fun b u q _ _ _=>k b u q
  slot:=fun b u q _ _ _=>⟨u.slots,k b u q⟩
  free:=fun b u q n _=>by rw [upd_ne (Nat.ne_of_lt (Nat.lt_of_lt_of_le (Heap.lt_size q) hp))]; exact n
  there:=fun b u q _=>⟨u,k b u q⟩
  tups:=fun b xs q=>by rw [upd_ne (ne_of_none q hn)]; exact q
  frzs:=fun b u xs q=>by rw [upd_ne (ne_of_none q hn)]; exact q
  tbls:=fun b ps q=>⟨#[],by rw [upd_ne (ne_of_none q hn),q]; simp⟩
theorem Un.write (mu:Mut (H x)) (he:e=x∨H e=some (.own x)) (k:∀ b u,b ≠ e→h.get? b=some u→h'.get? b=some u) (heo:∃ u,h'.get? e=some u):Un fs ex H (upd H x o) h h':=by
  have hx:∀ b,H b=none→b ≠ x:=fun b n z=>by subst z; rw [n] at mu; exact mu
  have hb:∀ b,H b=none→b ≠ e:=fun b n z=>by
    subst z
    rcases he with r | r
    · exact hx b n r
    · rw [n] at r; cases r
  have hm:∀ b u,H b=some u→¬ Mut (some u)→b ≠ x:=fun b u q nm z=>by subst z; rw [q] at mu; exact nm mu
  refine ⟨fun b u q n _ _=>k b u (hb b n) q,fun b u q n _ _=>⟨u.slots,k b u (hb b n) q⟩,fun b u q n _=>by rw [upd_ne (hx b n)]; exact n,fun b u q _=>?_,
    fun b xs q=>by rw [upd_ne (hm b _ q fun z=>z)]; exact q,fun b u xs q=>by rw [upd_ne (hm b _ q fun z=>z)]; exact q,fun b ps q=>⟨#[],by rw [upd_ne (hm b _ q fun z=>z),q]; simp⟩⟩
  by_cases hbe:b=e
  · subst hbe; exact heo
  · exact ⟨u,k b u hbe q⟩
end
def trk (h:Heap) (H:Hp):List Addr:=(List.range h.objs.size).filter fun a=>(H a).isSome
def hidT (h:Heap) (H:Hp):Heap:=PySem.W.hideAll h (trk h H)
theorem hidT_size (h:Heap) (H:Hp):(hidT h H).objs.size=h.objs.size:=PySem.W.hideAll_size _ _
theorem hidT_get {h:Heap} {H:Hp} {b:Addr} {o:Obj} (e:h.get? b=some o) (n:H b=none):(hidT h H).get? b=some o :=
  PySem.W.hideAll_get _ e fun hm=>by
    have q:(H b).isSome=true:=(List.mem_filter.mp hm).2
    rw [n] at q; simp at q
theorem of_hidT {h:Heap} {H:Hp} {b:Addr} {o:Obj} (e:(hidT h H).get? b=some o):h.get? b=some o∧H b=none:=by
  have e':h.get? b=some o:=PySem.W.of_hideAll (trk h H) e
  refine ⟨e',?_⟩
  cases q:H b with
  | none=>rfl
  | some x =>
    have hm:b ∈ trk h H:=List.mem_filter.mpr ⟨List.mem_range.mpr (Heap.lt_size e'),by simp [q]⟩
    have z:(hidT h H).get? b=none:=PySem.W.hideAll_none (trk h H) hm
    rw [z] at e; cases e
def allNews (g h:Heap) (L:Addr):List (Addr × Obj):=(List.range h.objs.size).filterMap fun a=>if a=L∨(g.get? a).isSome=true then none else (h.get? a).map fun o=>(a,o)
def rest (g h:Heap) (L d:Addr):List (Addr × Obj):=(allNews g h L).filter fun p=>decide (p.1 ≠ d)
end L2
namespace L2
open PySem PySem.Spec PyProof.Rows
structure Mod (K:PySem.W.Frag) (mg:Str→Option Value) (base:Heap):Prop where
  kin:K.In base
  glob:base.Ns mainGlobals mg
  blt:∃ mb,base.Ns builtinsNs mb∧∀ x:Str,x ≠ "__name__" → mb x=bootBuiltins x
  nolimit:base.NoLimit
structure Cx where
  prog:Program
  w:World
  K:PySem.W.Frag
  mg:Str→Option Value
  base:Heap
  A:Around
  N:List Str
  s₀:Shared
  H₀:Hp
  env:Env
  outer:List Env
  stack:List Env
  ex:List Addr
  fn:Str→Bool
  calm:Bool
  pn:List (Addr × Obj)
  xe:Value→Shared→Prop
def frs (l:List Env):List Addr:=l.filterMap (·.frame)
abbrev Cx.fs (X:Cx):List Addr:=frs X.outer
def Vis (sc:Scope) (x:Str):Prop:=sc.names.lookup x=some .local∨sc.names.lookup x=some .cell∨sc.names.lookup x=some .free
def Loc (sc:Scope) (x:Str):Prop:=sc.names.lookup x=some .local∨sc.names.lookup x=some .cell
def Look (env:Env) (h:Heap) (m:Str→Option Value) (x:Str) (u:Value):Prop :=
  (env.kindOf x=some .local∧m x=some u)∨((env.kindOf x=some .cell∨env.kindOf x=some .free)∧∃ c,env.cells.lookup x=some c∧h.IsCell c (some u))
structure Cx.Ok (X:Cx):Prop where
  mod:Mod X.K X.mg X.base
  kind:X.env.scope.kind=.function
  glob:X.env.globals=mainGlobals
  blt:X.env.builtins=builtinsNs
  above:X.s₀.heap.objs.size≤X.env.locals
  inj:∀ x y c,X.env.cells.lookup x=some c→X.env.cells.lookup y=some c→x=y
  has:∀ x,(X.env.kindOf x=some .cell∨X.env.kindOf x=some .free)→∃ c,X.env.cells.lookup x=some c
  cab:∀ x c,X.fn x=true→X.env.cells.lookup x=some c→X.s₀.heap.objs.size≤c
  hd:X.calm=true→X.A.handled=none
  frames:X.A.frames=some X.stack
  stk:X.stack=X.outer∨(X.stack=X.env::X.outer∧X.env.frame=some X.env.locals)
  exf:∀ b ∈ X.ex,b ≠ X.env.locals∧∀ x c,X.env.cells.lookup x=some c→c ≠ b
  bs:∀ b o,X.base.get? b=some o→X.s₀.heap.get? b=some o∧X.H₀ b=none
  bsz:X.base.objs.size≤X.s₀.heap.objs.size
  noex:∀ b o,X.base.get? b=some o→b ∉ X.ex
  exfs:∀ b ∈ X.ex,b ∉ X.fs
  funs:X.s₀.heap.FunFrames X.base X.outer
  frf:∀ b ∈ X.fs,X.H₀ b=none
structure Inv (X:Cx) (pins:List (Addr × Obj)) (σ:List (Option V)) (H:Hp) (s:Shared):Prop where
  ok:X.Ok
  os:s.os=X.s₀.os
  bare:AllBare s.gens
  base:Un X.fs X.ex X.H₀ H X.s₀.heap s.heap
  loc:∃ m,s.heap.Ns X.env.locals m∧∀ (i:Nat) (x:Str) (v:V),X.N[i]?=some x→σ[i]?=some (some v)→Vis X.env.scope x→∃ u,RelV v u∧Look X.env s.heap m x u
  cell:∀ x c,X.env.cells.lookup x=some c→∃ v,s.heap.IsCell c v
  free:H X.env.locals=none
  freeC:∀ x c,X.env.cells.lookup x=some c→H c=none
  pin:∀ p ∈ X.pn++pins,s.heap.get? p.1=some p.2∧H p.1=none∧p.1 ≠ X.env.locals∧p.1 ∉ X.fs∧∀ v,p.2.data ≠ .cell v
  hok:HOk X.prog X.w H s.heap
  len:σ.length=X.N.length
section
variable {X:Cx} {pins:List (Addr × Obj)} {σ:List (Option V)} {H H':Hp} {s:Shared} {h':Heap}
theorem Cx.Ok.nofr (ok:X.Ok) {b:Addr} {o:Obj} (e:X.base.get? b=some o):b ∉ X.fs:=fun hb=>by
  have:=(ok.funs.mem hb).1
  rw [e] at this; cases this
theorem Inv.bs (I:Inv X pins σ H s):∀ b o,X.base.get? b=some o→s.heap.get? b=some o∧H b=none:=fun b o e =>
  ⟨I.base.keep b o (I.ok.bs b o e).1 (I.ok.bs b o e).2 (I.ok.nofr e) (I.ok.noex b o e),I.base.free b o (I.ok.bs b o e).1 (I.ok.bs b o e).2 (I.ok.noex b o e)⟩
theorem Inv.bk (I:Inv X pins σ H s):∀ b o,X.base.get? b=some o→s.heap.get? b=some o:=fun b o e=>(I.bs b o e).1
theorem Inv.mod (I:Inv X pins σ H s):Mod X.K X.mg X.base:=I.ok.mod
theorem Inv.kIn (I:Inv X pins σ H s):X.K.In s.heap:=I.ok.mod.kin.keeps I.bk
theorem Inv.lt (I:Inv X pins σ H s):X.env.locals < s.heap.objs.size:=let ⟨_,hn,_⟩:=I.loc; hn.lt
theorem Inv.sz (I:Inv X pins σ H s):X.s₀.heap.objs.size≤s.heap.objs.size:=Nat.le_trans I.ok.above (Nat.le_of_lt I.lt)
theorem Inv.nofs (I:Inv X pins σ H s) {a:Addr} (h:s.heap.objs.size≤a):a ∉ X.fs:=fun hb=>by
  obtain ⟨_,o,ho,_⟩:=I.ok.funs.mem hb
  exact absurd (Nat.lt_of_lt_of_le (Heap.lt_size ho) (Nat.le_trans I.sz h)) (Nat.lt_irrefl _)
theorem Inv.cne (I:Inv X pins σ H s):∀ x c,X.env.cells.lookup x=some c→c ≠ X.env.locals:=fun x c e z=>by
  obtain ⟨v,o,ho,hd⟩:=I.cell x c e
  obtain ⟨m,⟨o',es,ep,ho',hd',_⟩,_⟩:=I.loc
  rw [z,ho'] at ho; cases ho; rw [hd'] at hd; cases hd
theorem Inv.funs (I:Inv X pins σ H s):s.heap.FunFrames X.base X.outer:=by
  have all:∀ (l:List Env),(∀ b ∈ frs l,b ∈ X.fs)→X.s₀.heap.FunFrames X.base l→s.heap.FunFrames X.base l:=by
    intro l
    induction l with
    | nil=>intro _ _; trivial
    | cons env r ih =>
      intro hs hl
      obtain ⟨hk,⟨L,o,hf,hn,ho,hd⟩,hr⟩:=hl
      have hL:L ∈ X.fs:=hs L (by unfold frs; rw [List.filterMap_cons,hf]; exact List.mem_cons_self)
      obtain ⟨sl,e⟩:=I.base.slot L o ho (I.ok.frf L hL) hL fun z=>I.ok.exfs L z hL
      exact ⟨hk,⟨L,_,hf,hn,e,hd⟩,ih (fun b hb=>hs b (by unfold frs; rw [List.filterMap_cons,hf]; exact List.mem_cons_of_mem _ hb)) hr⟩
  exact all X.outer (fun _ hb=>hb) I.ok.funs
theorem Inv.stack (I:Inv X pins σ H s):s.heap.FunFrames X.base X.stack:=by
  rcases I.ok.stk with e | ⟨e,hf⟩
  · rw [e]; exact I.funs
  · rw [e]
    obtain ⟨m,hn,_⟩:=I.loc
    refine .cons (by rw [I.ok.kind]; decide) hf hn ?_ I.funs
    exact Heap.get?_none_of_le (Nat.le_trans I.ok.bsz I.ok.above)
theorem Inv.stkSub (I:Inv X pins σ H s):∀ b ∈ frs X.stack,b ∈ X.env.locals::X.fs:=fun b hb=>by
  rcases I.ok.stk with e | ⟨e,hf⟩
  · rw [e] at hb; exact List.mem_cons_of_mem _ hb
  · rw [e] at hb
    unfold frs at hb
    rw [List.filterMap_cons,hf] at hb
    exact hb
theorem Inv.stkFree (I:Inv X pins σ H s):∀ b ∈ frs X.stack,H b=none:=fun b hb=>by
  rcases List.mem_cons.mp (I.stkSub b hb) with e | hb
  · rw [e]; exact I.free
  · obtain ⟨_,o,ho,_⟩:=I.ok.funs.mem hb
    exact I.base.free b o ho (I.ok.frf b hb) fun z=>I.ok.exfs b z hb
theorem Inv.step {g':Array GenState} {t':Nat} {d':Drawn} {ch:List Addr} (I:Inv X pins σ H s)
    (hch:∀ b ∈ ch,(b ∈ X.ex∨X.s₀.heap.objs.size≤b)∧b ≠ X.env.locals∧(∀ x c,X.env.cells.lookup x=some c→c ≠ b)∧∀ p ∈ X.pn++pins,p.1 ≠ b)
    (keep:∀ b o,b ≠ X.env.locals→b ∉ X.fs→b ∉ ch→s.heap.get? b=some o→H b=none→h'.get? b=some o)
    (slot:∀ b o,b ≠ X.env.locals→b ∈ X.fs→b ∉ ch→s.heap.get? b=some o→H b=none→∃ sl,h'.get? b=some { o with slots:=sl }) (free:∀ b o,b ∉ ch→s.heap.get? b=some o→H b=none→H' b=none)
    (there:∀ b o,b ∉ ch→s.heap.get? b=some o→∃ o',h'.get? b=some o')
    (tups:∀ b xs,H b=some (.tup xs)→H' b=some (.tup xs)) (frzs:∀ b o u,H b=some (.frz o u)→H' b=some (.frz o u)) (tbls:∀ b ps,H b=some (.tbl ps)→∃ more,H' b=some (.tbl (ps++more)))
    (ns:∀ m,s.heap.Ns X.env.locals m→h'.Ns X.env.locals m) (hok:HOk X.prog X.w H' h') (hg:AllBare g') :
    Inv X pins σ H' { s with heap:=h',gens:=g',drawn:=d',toks:=t' }:=by
  have neL:∀ b o,X.s₀.heap.get? b=some o→b ≠ X.env.locals:=fun b o e=>Nat.ne_of_lt (Nat.lt_of_lt_of_le (Heap.lt_size e) I.ok.above)
  have neC:∀ b o,X.s₀.heap.get? b=some o→b ∉ X.ex→b ∉ ch:=fun b o e hx hb=>by
    rcases (hch b hb).1 with z | z
    · exact hx z
    · exact absurd (Nat.lt_of_lt_of_le (Heap.lt_size e) z) (Nat.lt_irrefl _)
  have cellK:∀ x c,X.env.cells.lookup x=some c→∀ v,s.heap.IsCell c v→h'.IsCell c v:=fun x c e v ⟨o,ho,hd⟩=>by
    have nch:c ∉ ch:=fun z=>(hch c z).2.2.1 x c e rfl
    by_cases hc:c ∈ X.fs
    · obtain ⟨sl,q⟩:=slot c o (I.cne x c e) hc nch ho (I.freeC x c e)
      exact ⟨_,q,hd⟩
    · exact ⟨o,keep c o (I.cne x c e) hc nch ho (I.freeC x c e),hd⟩
  refine ⟨I.ok,I.os,hg,⟨fun b o e n hb hx=>?_,fun b o e n hb hx=>?_,fun b o e n hx=>?_,fun b o e hx=>?_,fun b xs e=>tups b xs (I.base.tups b xs e),fun b o xs e=>frzs b o xs (I.base.frzs b o xs e),fun b ps e=>?_⟩,?_,fun x c e=>?_,?_,fun x c e=>?_,fun p hp=>?_,hok,I.len⟩
  · exact keep b o (neL b o e) hb (neC b o e hx) (I.base.keep b o e n hb hx) (I.base.free b o e n hx)
  · obtain ⟨sl,e1⟩:=I.base.slot b o e n hb hx
    obtain ⟨sl',e2⟩:=slot b _ (neL b o e) hb (neC b o e hx) e1 (I.base.free b o e n hx)
    exact ⟨sl',e2⟩
  · obtain ⟨o',e1⟩:=I.base.there b o e hx
    exact free b o' (neC b o e hx) e1 (I.base.free b o e n hx)
  · obtain ⟨o',e1⟩:=I.base.there b o e hx
    exact there b o' (neC b o e hx) e1
  · obtain ⟨m1,e1⟩:=I.base.tbls b ps e
    obtain ⟨m2,e2⟩:=tbls b _ e1
    exact ⟨m1++m2,by rw [e2,Array.append_assoc]⟩
  · obtain ⟨m,hn,hl⟩:=I.loc
    refine ⟨m,ns m hn,fun i x v e1 e2 e3=>?_⟩
    obtain ⟨u,r,l⟩:=hl i x v e1 e2 e3
    refine ⟨u,r,?_⟩
    rcases l with l | ⟨k,c,e,z⟩
    · exact .inl l
    · exact .inr ⟨k,c,e,cellK x c e _ z⟩
  · obtain ⟨v,z⟩:=I.cell x c e
    exact ⟨v,cellK x c e v z⟩
  · obtain ⟨m,⟨o,_,_,ho,_⟩,_⟩:=I.loc
    exact free _ o (fun z=>(hch _ z).2.1 rfl) ho I.free
  · obtain ⟨v,o,ho,hd⟩:=I.cell x c e
    exact free c o (fun z=>(hch c z).2.2.1 x c e rfl) ho (I.freeC x c e)
  · obtain ⟨e,n,ne,nf,d⟩:=I.pin p hp
    have nch:p.1 ∉ ch:=fun z=>(hch p.1 z).2.2.2 p hp rfl
    exact ⟨keep p.1 p.2 ne nf nch e n,free p.1 p.2 nch e n,ne,nf,d⟩
theorem Inv.un {t':Nat} (I:Inv X pins σ H s) (u:Un X.fs [] H H' s.heap h') (hok:HOk X.prog X.w H' h'):Inv X pins σ H' { s with heap:=h',toks:=t' }:=by
  obtain ⟨m,⟨o,es,ep,ho,r⟩,_⟩:=id I.loc
  obtain ⟨sl,hL⟩:=u.any ho I.free (by simp)
  exact I.step (g':=s.gens) (d':=s.drawn) (ch:=[]) (fun _ z=>nomatch z) (fun b o _ hb _ e n=>u.keep b o e n hb (by simp)) (fun b o _ hb _ e n=>u.slot b o e n hb (by simp)) (fun b o _ e n=>u.free b o e n (by simp)) (fun b o _ e=>u.there b o e (by simp)) u.tups u.frzs u.tbls (fun m' hm=>by
    obtain ⟨o',es',ep',ho',r'⟩:=hm
    rw [ho] at ho'; cases ho'
    exact ⟨_,es',ep',hL,r'⟩) hok I.bare
theorem Inv.call {g':Array GenState} {t':Nat} {d':Drawn} {ch:List Addr} (I:Inv X pins σ H s) (u:Un (frs X.stack) ch H H' s.heap h') (hok:HOk X.prog X.w H' h') (hg:AllBare g')
    (hch:∀ b ∈ ch,(b ∈ X.ex∨X.s₀.heap.objs.size≤b)∧b ≠ X.env.locals∧(∀ x c,X.env.cells.lookup x=some c→c ≠ b)∧∀ p ∈ X.pn++pins,p.1 ≠ b) :
    Inv X pins σ H' { s with heap:=h',gens:=g',drawn:=d',toks:=t' }:=by
  obtain ⟨m,⟨o,es,ep,ho,r⟩,_⟩:=id I.loc
  obtain ⟨sl,hL⟩:=u.any ho I.free fun z=>(hch _ z).2.1 rfl
  exact I.step (ch:=ch) hch (fun b o hL hb hc e n=>u.keep b o e n (fun z=>(List.mem_cons.mp (I.stkSub b z)).elim hL hb) hc) (fun b o _ _ hc e n=>u.any e n hc) (fun b o hc e n=>u.free b o e n hc) (fun b o hc e=>u.there b o e hc) u.tups u.frzs u.tbls (fun m' hm=>by
    obtain ⟨o',es',ep',ho',r'⟩:=hm
    rw [ho] at ho'; cases ho'
    exact ⟨_,es',ep',hL,r'⟩) hok hg
theorem Inv.turned {t':Nat} {it:Addr} (I:Inv X pins σ H s) (k:∀ b o,b ≠ it→s.heap.get? b=some o→h'.get? b=some o) (hn:H it=none) (hL:it ≠ X.env.locals)
    (h1:it ∈ X.ex∨X.s₀.heap.objs.size≤it) (h2:∀ x c,X.env.cells.lookup x=some c→c ≠ it) (h3:∀ p ∈ X.pn++pins,p.1 ≠ it):Inv X pins σ H { s with heap:=h',toks:=t' }:=by
  have nit:∀ b u,H b=some u→b ≠ it:=fun b u e z=>by rw [z,hn] at e; cases e
  refine I.step (g':=s.gens) (d':=s.drawn) (ch:=[it]) (fun b hb=>?_) (fun b o _ _ hc e _=>k b o (fun z=>hc (by simp [z])) e) (fun b o _ _ hc e _=>⟨o.slots,k b o (fun z=>hc (by simp [z])) e⟩) (fun _ _ _ _ n=>n)
    (fun b o hc e=>⟨o,k b o (fun z=>hc (by simp [z])) e⟩) (fun _ _ e=>e) (fun _ _ _ e=>e) (fun b ps e=>⟨#[],by rw [e]; simp⟩) (fun m hm=>?_) (fun b u e=>?_) I.bare
  · have e:b=it:=by simpa using hb
    subst e
    exact ⟨h1,hL,h2,h3⟩
  · obtain ⟨o,es,ep,ho,r⟩:=hm
    exact ⟨o,es,ep,k _ o (Ne.symm hL) ho,r⟩
  · refine (I.hok b u e).stay (fun c v hc q=>k c v ?_ q) (fun _ q=>q) fun _ _ q=>q
    rcases hc with z | z
    · rw [z]; exact nit b u e
    · exact nit c _ z
theorem Inv.tok (I:Inv X pins σ H s) (t:Nat):Inv X pins σ H { s with toks:=t }:=I.un (h':=s.heap) (t':=t) Un.refl I.hok
theorem Inv.kept {t':Nat} (I:Inv X pins σ H s) (k:∀ b u,s.heap.get? b=some u→h'.get? b=some u):Inv X pins σ H { s with heap:=h',toks:=t' }:=I.un (Un.kept k) (I.hok.kept k)
theorem Inv.laid {a:Addr} {o:HO} {t':Nat} (I:Inv X pins σ H s) (k:∀ b u,s.heap.get? b=some u→h'.get? b=some u) (hp:s.heap.objs.size≤a) (new:ObjOk X.prog X.w (upd H a o) h' a o) :
    Inv X pins σ (upd H a o) { s with heap:=h',toks:=t' }:=I.un (Un.laid k hp (I.hok.fresh hp)) (I.hok.laid k hp new)
theorem Inv.write {x e:Addr} {o:HO} {t':Nat} (I:Inv X pins σ H s) (mu:Mut (H x)) (he:e=x∨H e=some (.own x)) (k:∀ b u,b ≠ e→s.heap.get? b=some u→h'.get? b=some u) (heo:∃ u,h'.get? e=some u)
    (new:ObjOk X.prog X.w (upd H x o) h' x o):Inv X pins σ (upd H x o) { s with heap:=h',toks:=t' }:=I.un (Un.write mu he k heo) (I.hok.write mu he k heo new)
theorem Inv.pins_of {pins':List (Addr × Obj)} (I:Inv X pins σ H s) (h:∀ p ∈ pins',s.heap.get? p.1=some p.2∧H p.1=none∧p.1 ≠ X.env.locals∧p.1 ∉ X.fs∧∀ v,p.2.data ≠ .cell v):Inv X pins' σ H s :=
  ⟨I.ok,I.os,I.bare,I.base,I.loc,I.cell,I.free,I.freeC,fun p hp=>(List.mem_append.mp hp).elim (fun z=>I.pin p (List.mem_append_left _ z)) (h p),I.hok,I.len⟩
theorem nodup_ix {N:List Str} (hN:N.Nodup) {i j:Nat} {x:Str} (a:N[i]?=some x) (b:N[j]?=some x):i=j:=by
  obtain ⟨h1,e1⟩:=List.getElem?_eq_some_iff.mp a
  obtain ⟨h2,e2⟩:=List.getElem?_eq_some_iff.mp b
  exact (List.getElem_inj hN).mp (e1.trans e2.symm)
theorem store_ok2 {M:Model} {A:Around} {E:Value→Shared→Prop} {i:Nat} {x:Str} {v:V} {u:Value} {Q:Unit→Shared→Prop} (I:Inv X pins σ H s) (hN:X.N.Nodup) (hi:X.N[i]?=some x) (hx:Loc X.env.scope x) (r:RelV v u)
    (h:∀ s',Inv X pins (σ.set i (some v)) H s'→(∃ a,Heap.SameBut a s.heap s'.heap∧(a=X.env.locals∨X.env.cells.lookup x=some a))→Q () s') (hf:X.fn x=true∨X.env.scope.names.lookup x=some .local:=by first | exact .inl rfl | exact .inr rfl | assumption):wpAny M A (storeName X.env x u) Q E s:=by
  obtain ⟨m,hn,hl⟩:=id I.loc
  have hcls:(X.env.scope.kind == .class || (X.env.scope.kind == .module && X.env.locals != X.env.globals))=false:=by rw [I.ok.kind]; rfl
  have hiσ:i < σ.length:=by rw [I.len]; exact (List.getElem?_eq_some_iff.mp hi).1
  have cne:=I.cne
  have tracked:∀ {a:Addr} {h':Heap},(∃ o,s.heap.get? a=some o∧H a=none)→Heap.SameBut a s.heap h'→HOk X.prog X.w H h':=fun {a h'} ha hs b ob e=>by
    obtain ⟨_,_,hfree⟩:=ha
    refine (I.hok b ob e).stay (fun c w' hc q=>(hs.2 c ?_).trans q) (fun _ q=>q) fun _ _ q=>q
    rintro rfl
    rcases hc with rfl | hc
    · rw [hfree] at e; cases e
    · rw [hfree] at hc; cases hc
  rcases hx with hk | hk
  · refine wpAny_storeName_local hk hn (fun h' hn' hs=>?_) hcls
    obtain ⟨oL,_,_,hoL,_⟩:=id hn
    refine h _ ⟨I.ok,I.os,I.bare,⟨fun b o e n hb hx=>?_,fun b o e n hb hx=>?_,I.base.free,fun b o e hx=>?_,I.base.tups,I.base.frzs,I.base.tbls⟩,⟨_,hn',fun j y v' e1 e2 e3=>?_⟩,fun y c e=>?_,I.free,I.freeC,fun p hp=>?_,tracked ⟨oL,hoL,I.free⟩ hs,by simpa using I.len⟩ ⟨_,hs,.inl rfl⟩
    · exact (hs.2 b (Nat.ne_of_lt (Nat.lt_of_lt_of_le (Heap.lt_size e) I.ok.above))).trans (I.base.keep b o e n hb hx)
    · obtain ⟨sl,e1⟩:=I.base.slot b o e n hb hx
      exact ⟨sl,(hs.2 b (Nat.ne_of_lt (Nat.lt_of_lt_of_le (Heap.lt_size e) I.ok.above))).trans e1⟩
    · obtain ⟨o',e1⟩:=I.base.there b o e hx
      exact ⟨o',(hs.2 b (Nat.ne_of_lt (Nat.lt_of_lt_of_le (Heap.lt_size e) I.ok.above))).trans e1⟩
    · by_cases hj:j=i
      · subst hj
        rw [hi] at e1; cases e1
        rw [List.getElem?_set_self hiσ] at e2
        cases e2
        exact ⟨u,r,.inl ⟨hk,by simp⟩⟩
      · rw [List.getElem?_set_ne (Ne.symm hj)] at e2
        obtain ⟨u',r',q⟩:=hl j y v' e1 e2 e3
        refine ⟨u',r',?_⟩
        rcases q with ⟨k,e⟩ | ⟨k,c,e,z⟩
        · refine .inl ⟨k,?_⟩
          have:y ≠ x:=fun e=>hj (nodup_ix hN e1 (e ▸ hi))
          simp [this,e]
        · exact .inr ⟨k,c,e,z.sameBut hs (cne y c e)⟩
    · obtain ⟨w',z⟩:=I.cell y c e
      exact ⟨w',z.sameBut hs (cne y c e)⟩
    · obtain ⟨e,n,ne,nf,d⟩:=I.pin p hp
      exact ⟨(hs.2 p.1 ne).trans e,n,ne,nf,d⟩
  · have hfn:X.fn x=true:=by
      rcases hf with z | z
      · exact z
      · rw [z] at hk; cases hk
    obtain ⟨c,hc⟩:=I.ok.has x (.inl hk)
    obtain ⟨w',z⟩:=I.cell x c hc
    refine wpAny_storeName_cell I.ok.kind hk hc z (fun h' hc' hs=>?_)
    obtain ⟨oc,hoc,hocd⟩:=id z
    refine h { s with heap:=h' } ⟨I.ok,I.os,I.bare,⟨fun b o e n hb hx=>?_,fun b o e n hb hx=>?_,I.base.free,fun b o e hx=>?_,I.base.tups,I.base.frzs,I.base.tbls⟩,⟨m,hn.sameBut hs (Ne.symm (cne x c hc)),fun j y v' e1 e2 e3=>?_⟩,fun y c' e=>?_,I.free,I.freeC,fun p hp=>?_,tracked ⟨oc,hoc,I.freeC x c hc⟩ hs,by simpa using I.len⟩ ⟨c,hs,.inr hc⟩
    · exact (hs.2 b (Nat.ne_of_lt (Nat.lt_of_lt_of_le (Heap.lt_size e) (I.ok.cab x c hfn hc)))).trans (I.base.keep b o e n hb hx)
    · obtain ⟨sl,e1⟩:=I.base.slot b o e n hb hx
      exact ⟨sl,(hs.2 b (Nat.ne_of_lt (Nat.lt_of_lt_of_le (Heap.lt_size e) (I.ok.cab x c hfn hc)))).trans e1⟩
    · obtain ⟨o',e1⟩:=I.base.there b o e hx
      exact ⟨o',(hs.2 b (Nat.ne_of_lt (Nat.lt_of_lt_of_le (Heap.lt_size e) (I.ok.cab x c hfn hc)))).trans e1⟩
    · by_cases hj:j=i
      · subst hj
        rw [hi] at e1; cases e1
        rw [List.getElem?_set_self hiσ] at e2
        cases e2
        exact ⟨u,r,.inr ⟨.inl hk,c,hc,hc'⟩⟩
      · rw [List.getElem?_set_ne (Ne.symm hj)] at e2
        obtain ⟨u',r',q⟩:=hl j y v' e1 e2 e3
        refine ⟨u',r',?_⟩
        rcases q with q | ⟨k,c',e,z'⟩
        · exact .inl q
        · refine .inr ⟨k,c',e,z'.sameBut hs ?_⟩
          rintro rfl
          exact hj (nodup_ix hN e1 (I.ok.inj _ _ _ e hc ▸ hi))
    · by_cases hcc:c'=c
      · subst hcc; exact ⟨_,hc'⟩
      · obtain ⟨w2,z2⟩:=I.cell y c' e
        exact ⟨w2,z2.sameBut hs hcc⟩
    · obtain ⟨e,n,ne,nf,d⟩:=I.pin p hp
      refine ⟨(hs.2 p.1 ?_).trans e,n,ne,nf,d⟩
      intro q
      rw [q,hoc] at e
      have q':oc=p.2:=Option.some.inj e
      exact d w' (by rw [← q']; exact hocd)
theorem store_ok {M:Model} {A:Around} {E:Value→Shared→Prop} {i:Nat} {x:Str} {v:V} {u:Value} {Q:Unit→Shared→Prop} (I:Inv X pins σ H s) (hN:X.N.Nodup) (hi:X.N[i]?=some x) (hx:Loc X.env.scope x) (r:RelV v u)
    (h:∀ s',Inv X pins (σ.set i (some v)) H s'→Q () s') (hf:X.fn x=true∨X.env.scope.names.lookup x=some .local:=by first | exact .inl rfl | exact .inr rfl | assumption):wpAny M A (storeName X.env x u) Q E s :=
  store_ok2 I hN hi hx r (fun s' I' _=>h s' I') hf
theorem Inv.call' {s':Shared} {ch:List Addr} (I:Inv X pins σ H s) (ho:s'.os=s.os) (u:Un (frs X.stack) ch H H' s.heap s'.heap) (hok:HOk X.prog X.w H' s'.heap) (hg:AllBare s'.gens)
    (hch:∀ b ∈ ch,(b ∈ X.ex∨X.s₀.heap.objs.size≤b)∧b ≠ X.env.locals∧(∀ x c,X.env.cells.lookup x=some c→c ≠ b)∧∀ p ∈ X.pn++pins,p.1 ≠ b):Inv X pins σ H' s':=by
  obtain ⟨h',g',d',t',o'⟩:=s'
  have e:o'=s.os:=ho
  subst e
  exact I.call (g':=g') (t':=t') (d':=d') u hok hg hch
end
abbrev XK:=Value→Option Addr→Hp→Prop
abbrev St:=List (Option V)
abbrev VK:=V→Hp→Prop
abbrev TE:=St→Hp→VK→Prop
abbrev TT:=St→Hp→(Bool→Hp→Prop)→Prop
abbrev TA:=St→Hp→(List V→Hp→Prop)→Prop
structure Ends where
  nx:St→Hp→Prop
  rt:VK
  bk:St→Hp→Prop:=fun _ _=>False
  ct:St→Hp→Prop:=fun _ _=>False
abbrev TS:=Ends→St→Hp→Prop
def EP (X:Cx) (pins:List (Addr × Obj)) (σ:St) (Q:VK) (u:Value) (s':Shared):Prop:=∃ v H',Inv X pins σ H' s'∧RelV v u∧Q v H'
def TP (X:Cx) (pins:List (Addr × Obj)) (σ:St) (Q:Bool→Hp→Prop) (b:Bool) (s':Shared):Prop:=∃ H',Inv X pins σ H' s'∧Q b H'
def AP (X:Cx) (pins:List (Addr × Obj)) (σ:St) (Q:List V→Hp→Prop) (us:List Value) (s':Shared):Prop:=∃ vs H',Inv X pins σ H' s'∧Vals vs us∧Q vs H'
def SP (X:Cx) (pins:List (Addr × Obj)) (D:Ends) (f:Flow) (s':Shared):Prop :=
  match f with
  | .next=>∃ σ' H',Inv X pins σ' H' s'∧D.nx σ' H'
  | .brk=>∃ σ' H',Inv X pins σ' H' s'∧D.bk σ' H'
  | .cont=>∃ σ' H',Inv X pins σ' H' s'∧D.ct σ' H'
  | .ret u=>∃ v σ' H',Inv X pins σ' H' s'∧RelV v u∧D.rt v H'
def PE (X:Cx) (e:Expr) (t:TE):Prop :=
  ∀ (pins:List (Addr × Obj)) (s:Shared) (σ:St) (H:Hp) (Q:VK),Inv X pins σ H s→t σ H Q→wpAny (model X.prog X.w) X.A (eval e X.env) (EP X pins σ Q) X.xe s
def PT (X:Cx) (e:Expr) (t:TT):Prop :=
  ∀ (pins:List (Addr × Obj)) (s:Shared) (σ:St) (H:Hp) (Q:Bool→Hp→Prop),Inv X pins σ H s→t σ H Q→wpAny (model X.prog X.w) X.A (isTrue e X.env (eval e X.env)) (TP X pins σ Q) X.xe s
def PW (X:Cx) (e:Expr) (t:TT):Prop :=
  ∀ (whole:Sem Value) (pins:List (Addr × Obj)) (s:Shared) (σ:St) (H:Hp) (Q:Bool→Hp→Prop),Inv X pins σ H s→t σ H Q→wpAny (model X.prog X.w) X.A (isTrue e X.env whole) (TP X pins σ Q) X.xe s
theorem PW.pt {X:Cx} {e:Expr} {t:TT} (h:PW X e t):PT X e t:=h _
def PA (X:Cx) (es:List Expr) (t:TA):Prop :=
  ∀ (pos:Pos) (pins:List (Addr × Obj)) (s:Shared) (σ:St) (H:Hp) (Q:List V→Hp→Prop),Inv X pins σ H s→t σ H Q→wpAny (model X.prog X.w) X.A (spliced (backTo pos (starEach es X.env))) (AP X pins σ Q) X.xe s
def PS (X:Cx) (st:Stmt) (t:TS):Prop :=
  ∀ (pins:List (Addr × Obj)) (s:Shared) (σ:St) (H:Hp) (D:Ends),Inv X pins σ H s→t D σ H→wpAny (model X.prog X.w) X.A (exec st X.env) (SP X pins D) X.xe s
def PSs (X:Cx) (st:List Stmt) (t:TS):Prop :=
  ∀ (pins:List (Addr × Obj)) (s:Shared) (σ:St) (H:Hp) (D:Ends),Inv X pins σ H s→t D σ H→wpAny (model X.prog X.w) X.A (execs st X.env) (SP X pins D) X.xe s
theorem thn {α:Type} {t:Sem α} {Q Q':α→Shared→Prop} {M:Model} {A:Around} {E:Value→Shared→Prop} {s:Shared} (h:wpAny M A t Q E s) (hQ:∀ a s,Q a s→Q' a s):wpAny M A t Q' E s:=wpAny_mono h hQ fun _ _ x=>x
end L2
namespace L2
open PySem PySem.Spec PyProof.Rows
section
variable {X:Cx}
def tVar (i:Nat):TE:=fun σ H Q=>∃ v,σ[i]?=some (some v)∧Q v H
def tC (v:V):TE:=fun _ H Q=>Q v H
theorem pe_var {i:Nat} {x:Str} {pos:Pos} (hN:X.N[i]?=some x) (hv:Vis X.env.scope x) (hd:(x == ("__debug__" : Str))=false:=by decide) (hcd:(x == ("__classdict__" : Str))=false:=by decide):PE X (.Name x pos) (tVar i):=by
  intro pins s σ H Q I h
  obtain ⟨v,e,h⟩:=h
  obtain ⟨m,hn,hl⟩:=I.loc
  obtain ⟨u,r,l⟩:=hl i x v hN e hv
  have fin:EP X pins σ Q u s:=⟨v,H,I,r,h⟩
  rcases l with ⟨hk,hm⟩ | ⟨hk,c,hc,hcell⟩
  · exact wpAny_Name (wpAny_loadName_local I.ok.kind hk hn hm fin) hd
  · rcases hk with hk | hk
    · exact wpAny_Name (wpAny_loadName_cell I.ok.kind hk hc hcell fin) hd
    · exact wpAny_Name (wpAny_loadName_free I.ok.kind hk hc hcell fin hcd) hd
theorem pe_int {i j pos}:PE X (.Constant (.int i) j pos) (tC (.int i)):=fun _ _ _ H _ I h=>wpAny_Constant_int ⟨.int i,H,I.tok _,⟨_,rfl⟩,h⟩
theorem pe_bl {b j pos}:PE X (.Constant (.bool b) j pos) (tC (.bl b)):=fun _ _ _ H _ I h=>Constant_bool ⟨.bl b,H,I,rfl,h⟩
theorem pe_str {x j pos}:PE X (.Constant (.str x) j pos) (tC (.str x)):=fun _ _ _ H _ I h=>Calls.Constant_str ⟨.str x,H,I.tok _,⟨_,rfl⟩,h⟩
def Gl (X:Cx) (x:Str):Prop:=X.env.kindOf x=some .globalImplicit
theorem ld_glob {E:Value→Shared→Prop} {pins:List (Addr × Obj)} {s:Shared} {σ:St} {H:Hp} {x:Str} {u:Value} {pos:Pos} {Q:Value→Shared→Prop} (I:Inv X pins σ H s) (hg:Gl X x) (hm:X.mg x=some u) (h:Q u s)
    (hd:(x == ("__debug__" : Str))=false:=by decide):wpAny (model X.prog X.w) X.A (eval (.Name x pos) X.env) Q E s :=
  Calls.Name_function_global I.ok.kind hg (Calls.loadGlobal_global (by rw [I.ok.glob]; exact I.mod.glob.keeps I.bk) hm h) hd
theorem ld_blt {E:Value→Shared→Prop} {pins:List (Addr × Obj)} {s:Shared} {σ:St} {H:Hp} {x:Str} {u:Value} {pos:Pos} {Q:Value→Shared→Prop} (I:Inv X pins σ H s) (hg:Gl X x) (hm:X.mg x=none) (hv:bootBuiltins x=some u) (h:Q u s)
    (hn:x ≠ "__name__" := by decide) (hd:(x == ("__debug__" : Str))=false:=by decide):wpAny (model X.prog X.w) X.A (eval (.Name x pos) X.env) Q E s:=by
  obtain ⟨mb,h1,h2⟩:=I.mod.blt
  exact Calls.Name_function_global I.ok.kind hg (Calls.loadGlobal_builtin (by rw [I.ok.glob]; exact I.mod.glob.keeps I.bk) hm (by rw [I.ok.blt]; exact h1.keeps I.bk) ((h2 x hn).trans hv) h) hd
theorem pe_glob {x:Str} {v:V} {u:Value} {pos:Pos} (hg:Gl X x) (hm:X.mg x=some u) (r:RelV v u) (hd:(x == ("__debug__" : Str))=false:=by decide):PE X (.Name x pos) (tC v) :=
  fun _ _ _ H _ I h=>ld_glob I hg hm ⟨v,H,I,r,h⟩ hd
theorem pe_bltn {x:Str} {v:V} {u:Value} {pos:Pos} (hg:Gl X x) (hm:X.mg x=none) (hv:bootBuiltins x=some u) (r:RelV v u) (hn:x ≠ "__name__" := by decide) (hd:(x == ("__debug__" : Str))=false:=by decide):PE X (.Name x pos) (tC v) :=
  fun _ _ _ H _ I h=>ld_blt I hg hm hv ⟨v,H,I,r,h⟩ hn hd
def t2I (ta tb:TE) (k:Int→Int→Hp→Prop):St→Hp→Prop:=fun σ H=>ta σ H fun x H1=>tb σ H1 fun y H2=>∃ i j,x=.int i∧y=.int j∧k i j H2
def tAdd (ta tb:TE):TE:=fun σ H Q=>t2I ta tb (fun i j H2=>Q (.int (i+j)) H2) σ H
def tSub (ta tb:TE):TE:=fun σ H Q=>t2I ta tb (fun i j H2=>Q (.int (i - j)) H2) σ H
def tMul (ta tb:TE):TE:=fun σ H Q=>t2I ta tb (fun i j H2=>(-(2 ^ 64) < i∧i < 2 ^ 64)∧Q (.int (i*j)) H2) σ H
variable {a b:Expr} {ta tb:TE} {pos:Pos}
def PC (X:Cx) (op:CmpOp) (a b:Expr) (t:TE):Prop :=
  ∀ (pins:List (Addr × Obj)) (s:Shared) (σ:St) (H:Hp) (Q:VK),Inv X pins σ H s→t σ H Q →
    wpAny (model X.prog X.w) X.A (eval a X.env) (fun v s₁=>wpAny (model X.prog X.w) X.A (eval b X.env) (fun u s₂=>wpAny (model X.prog X.w) X.A (compareOp op v u) (EP X pins σ Q) X.xe s₂) X.xe s₁) X.xe s
def tCmp (p:Int→Int→Bool) (ta tb:TE):TE:=fun σ H Q=>t2I ta tb (fun i j H2=>Q (.bl (p i j)) H2) σ H
abbrev tLt:TE→TE→TE:=tCmp fun i j=>decide (i < j)
abbrev tLe:TE→TE→TE:=tCmp fun i j=>decide (i≤j)
abbrev tGt:TE→TE→TE:=tCmp fun i j=>decide (j < i)
abbrev tGe:TE→TE→TE:=tCmp fun i j=>decide (j≤i)
abbrev tEqI:TE→TE→TE:=tCmp fun i j=>decide (i=j)
abbrev tNeI:TE→TE→TE:=tCmp fun i j=>!decide (i=j)
def tIsN (ta:TE):TE:=fun σ H Q=>ta σ H fun x H1=>Q (.bl (decide (x=.non))) H1
def tNotN (ta:TE):TE:=fun σ H Q=>ta σ H fun x H1=>Q (.bl (!decide (x=.non))) H1
def tB (t:TE):TT:=fun σ H Q=>t σ H fun x H1=>∃ c,x=.bl c∧Q c H1
theorem pt_val {e:Expr} {t:TE} (h:PE X e t) (he:∀ whole,isTrue e X.env whole=(do let v ← whole; standAt e.pos; holding [v] (truthy v)):=by intro _; rfl):PT X e (tB t):=by
  intro pins s σ H Q I hw
  refine isTrue_plain (thn (h pins s σ H _ I hw) fun v s1 ⟨x,H1,I1,r1,q1⟩=>?_) (he _)
  obtain ⟨d,rfl,q⟩:=q1
  cases r1
  exact wpAny_truthy_bool ⟨H1,I1,q⟩
variable {tA tB':TT} {rest:List Expr}
def tAnd (t u:TT):TT:=fun σ H Q=>t σ H fun c H1=>if c=true then u σ H1 Q else Q false H1
def tOr (t u:TT):TT:=fun σ H Q=>t σ H fun c H1=>if c=true then Q true H1 else u σ H1 Q
def tNot (t:TT):TT:=fun σ H Q=>t σ H fun c H1=>Q (!c) H1
theorem pw_and1 (ha:PT X a tA):PW X (.BoolOp .And [a] pos) tA:=by
  intro wh pins s σ H Q I h
  refine isTrue_and (thn (ha pins s σ H Q I h) fun c s1 e=>?_)
  cases c with
  | true=>exact isTrue_and_nil e
  | false=>exact e
theorem pw_or1 (ha:PT X a tA):PW X (.BoolOp .Or [a] pos) tA:=by
  intro wh pins s σ H Q I h
  refine isTrue_or (thn (ha pins s σ H Q I h) fun c s1 e=>?_)
  cases c with
  | false=>exact isTrue_or_nil e
  | true=>exact e
theorem pw_and (ha:PT X a tA) (hb:PW X (.BoolOp .And (b::rest) pos) tB'):PW X (.BoolOp .And (a::b::rest) pos) (tAnd tA tB'):=by
  intro wh pins s σ H Q I h
  refine isTrue_and (thn (ha pins s σ H _ I h) fun c s1 ⟨H1,I1,q1⟩=>?_)
  cases c with
  | true=>exact hb wh pins s1 σ H1 Q I1 q1
  | false=>exact ⟨H1,I1,q1⟩
theorem pw_or (ha:PT X a tA) (hb:PW X (.BoolOp .Or (b::rest) pos) tB'):PW X (.BoolOp .Or (a::b::rest) pos) (tOr tA tB'):=by
  intro wh pins s σ H Q I h
  refine isTrue_or (thn (ha pins s σ H _ I h) fun c s1 ⟨H1,I1,q1⟩=>?_)
  cases c with
  | true=>exact ⟨H1,I1,q1⟩
  | false=>exact hb wh pins s1 σ H1 Q I1 q1
theorem pt_not (ha:PT X a tA):PT X (.UnaryOp .Not a pos) (tNot tA):=by
  intro pins s σ H Q I h
  exact isTrue_not (ha pins s σ H (fun c H1=>Q (!c) H1) I h)
def tAndV (ta tb:TE):TE:=fun σ H Q=>ta σ H fun x H1=>∃ c,x=.bl c∧if c=true then tb σ H1 Q else Q (.bl false) H1
def tOrV (ta tb:TE):TE:=fun σ H Q=>ta σ H fun x H1=>∃ c,x=.bl c∧if c=true then Q (.bl true) H1 else tb σ H1 Q
def tNotV (ta:TE):TE:=fun σ H Q=>ta σ H fun x H1=>∃ c,x=.bl c∧Q (.bl (!c)) H1
theorem pe_one {op} {t:TE} (h:PE X a t):PE X (.BoolOp op [a] pos) t:=fun pins s σ H Q I hw=>BoolOp_one (h pins s σ H Q I hw)
theorem pe_and (ha:PE X a ta) (hb:PE X (.BoolOp .And (b::rest) pos) tb):PE X (.BoolOp .And (a::b::rest) pos) (tAndV ta tb):=by
  intro pins s σ H Q I h
  refine BoolOp_and (thn (ha pins s σ H _ I h) fun v s1 ⟨x,H1,I1,r1,q1⟩=>?_)
  obtain ⟨c,rfl,q1⟩:=q1
  cases r1
  refine wpAny_truthy_bool ?_
  cases c with
  | true=>exact hb pins s1 σ H1 Q I1 q1
  | false=>exact ⟨.bl false,H1,I1,rfl,q1⟩
theorem pe_or (ha:PE X a ta) (hb:PE X (.BoolOp .Or (b::rest) pos) tb):PE X (.BoolOp .Or (a::b::rest) pos) (tOrV ta tb):=by
  intro pins s σ H Q I h
  refine BoolOp_or (thn (ha pins s σ H _ I h) fun v s1 ⟨x,H1,I1,r1,q1⟩=>?_)
  obtain ⟨c,rfl,q1⟩:=q1
  cases r1
  refine wpAny_truthy_bool ?_
  cases c with
  | false=>exact hb pins s1 σ H1 Q I1 q1
  | true=>exact ⟨.bl true,H1,I1,rfl,q1⟩
theorem pe_not (ha:PE X a ta):PE X (.UnaryOp .Not a pos) (tNotV ta):=by
  intro pins s σ H Q I h
  refine UnaryOp_ (thn (ha pins s σ H _ I h) fun v s1 ⟨x,H1,I1,r1,q1⟩=>?_)
  obtain ⟨c,rfl,q1⟩:=q1
  cases r1
  exact not_of (wpAny_truthy_bool ⟨.bl (!c),H1,I1,rfl,q1⟩)
def tIf (t:TT) (ta tb:TE):TE:=fun σ H Q=>t σ H fun c H1=>if c=true then ta σ H1 Q else tb σ H1 Q
theorem pe_ifExp {c:Expr} (hc:PT X c tA) (ha:PE X a ta) (hb:PE X b tb):PE X (.IfExp c a b pos) (tIf tA ta tb):=by
  intro pins s σ H Q I h
  refine wpAny_IfExp (thn (hc pins s σ H _ I h) fun d s1 ⟨H1,I1,q1⟩=>?_)
  cases d with
  | true=>exact ha pins s1 σ H1 Q I1 q1
  | false=>exact hb pins s1 σ H1 Q I1 q1
end
end L2
namespace L2
open PySem PySem.Spec PyProof.Rows
def SqL (K:PySem.W.Frag) (H:Hp) (a:Addr) (xs:List V):Prop :=
  Rd H a (.lst xs) ∨
    ∃ (o:Obj) (its:Array Value) (n:Nat),K.lookup a=some o∧o.cls=.type "list" ∧ o.dict=none∧o.data=.seq its n∧its.size≤sizeLine∧Vals xs its.toList
def SqT (K:PySem.W.Frag) (H:Hp) (a:Addr) (xs:List V):Prop :=
  Rd H a (.tup xs) ∨
    ∃ (o:Obj) (its:Array Value) (n:Nat),K.lookup a=some o∧o.cls=.type "tuple" ∧ o.data=.seq its n∧its.size≤sizeLine∧Vals xs its.toList
def absV:Value→Option V
  | .none=>some .non
  | .bool b=>some (.bl b)
  | .int i _=>some (.int i)
  | .str x _=>some (.str x)
  | .bytes b _=>some (.byt b)
  | .float b _=>some (.flt b)
  | .ref a=>some (.ref a)
  | .type n=>some (.ty n)
  | _=>none
theorem RelV.abs {x:V} {u:Value} (r:RelV x u):absV u=some x:=by
  cases x with
  | non=>cases r; rfl
  | bl _=>cases r; rfl
  | int _=>obtain ⟨t,rfl⟩:=r; rfl
  | str _=>obtain ⟨t,rfl⟩:=r; rfl
  | byt _=>obtain ⟨t,rfl⟩:=r; rfl
  | flt _=>obtain ⟨t,rfl⟩:=r; rfl
  | ref _=>cases r; rfl
  | ty _=>cases r; rfl
theorem RelV.inj {x y:V} {u:Value} (r:RelV x u) (q:RelV y u):x=y:=Option.some.inj (r.abs.symm.trans q.abs)
theorem Vals.inj:∀ {xs ys:List V} {us:List Value},Vals xs us→Vals ys us→xs=ys
  | _,_,_,.nil,.nil=>rfl
  | _,_,_,.cons r t,.cons r' t'=>by rw [r.inj r',Vals.inj t t']
section
variable {X:Cx} {pins:List (Addr × Obj)} {σ:St} {H:Hp} {s:Shared} {a:Addr} {xs ys:List V}
theorem SqL.of {K:PySem.W.Frag} (h:H a=some (.lst xs)):SqL K H a xs:=.inl (.inl h)
theorem SqT.of {K:PySem.W.Frag} (h:H a=some (.tup xs)):SqT K H a xs:=.inl (.inl h)
theorem Inv.list (I:Inv X pins σ H s) (h:SqL X.K H a xs):∃ its:List Value,Vals xs its∧PlainL s.heap a its.toArray∧xs.length≤sizeLine:=by
  rcases h with h | ⟨o,its,n,hk,hc,hd,hs,hz,r⟩
  · obtain ⟨z,its,n,r,e⟩:=h.ok I.hok
    exact ⟨its,r,⟨_,n,e,rfl,rfl,rfl⟩,z⟩
  · refine ⟨its.toList,r,⟨o,n,I.kIn a o hk,hc,hd,by simpa using hs⟩,?_⟩
    have e:=r.length
    simp only [Array.length_toList] at e
    omega
theorem Inv.tuple (I:Inv X pins σ H s) (h:SqT X.K H a xs):∃ its:List Value,Vals xs its∧IsTup s.heap a its.toArray∧xs.length≤sizeLine:=by
  rcases h with h | ⟨o,its,n,hk,hc,hs,hz,r⟩
  · obtain ⟨z,its,r,p,_⟩:=h.ok I.hok
    exact ⟨its,r,p,z⟩
  · refine ⟨its.toList,r,⟨o,I.kIn a o hk,hc,n,by simpa using hs⟩,?_⟩
    have e:=r.length
    simp only [Array.length_toList] at e
    omega
theorem Inv.list_inj (I:Inv X pins σ H s) (h:SqL X.K H a xs) (h':SqL X.K H a ys):xs=ys:=by
  obtain ⟨its,r,⟨o,n,e,_,_,d⟩,_⟩:=I.list h
  obtain ⟨its',r',⟨o',n',e',_,_,d'⟩,_⟩:=I.list h'
  rw [e] at e'; cases e'
  rw [d] at d'
  injection d' with d1 _
  have:its=its':=by simpa using congrArg Array.toList d1
  subst this
  exact r.inj r'
theorem Inv.tuple_inj (I:Inv X pins σ H s) (h:SqT X.K H a xs) (h':SqT X.K H a ys):xs=ys:=by
  obtain ⟨its,r,⟨o,e,_,n,d⟩,_⟩:=I.tuple h
  obtain ⟨its',r',⟨o',e',_,n',d'⟩,_⟩:=I.tuple h'
  rw [e] at e'; cases e'
  rw [d] at d'
  injection d' with d1 _
  have:its=its':=by simpa using congrArg Array.toList d1
  subst this
  exact r.inj r'
end
abbrev Cx.wish (X:Cx) (E:Value→Shared→Prop):Cx:={ X with xe:=E }
abbrev Cx.nox (X:Cx):Cx:=X.wish fun _ _=>False
theorem Cx.Ok.wish {X:Cx} (ok:X.Ok) (E:Value→Shared→Prop):(X.wish E).Ok :=
  ⟨ok.mod,ok.kind,ok.glob,ok.blt,ok.above,ok.inj,ok.has,ok.cab,ok.hd,ok.frames,ok.stk,ok.exf,ok.bs,ok.bsz,ok.noex,ok.exfs,ok.funs,ok.frf⟩
theorem Cx.Ok.unwish {X:Cx} {E:Value→Shared→Prop} (ok:(X.wish E).Ok):X.Ok :=
  ⟨ok.mod,ok.kind,ok.glob,ok.blt,ok.above,ok.inj,ok.has,ok.cab,ok.hd,ok.frames,ok.stk,ok.exf,ok.bs,ok.bsz,ok.noex,ok.exfs,ok.funs,ok.frf⟩
section
variable {X:Cx} {pins:List (Addr × Obj)} {σ:St} {H:Hp} {s:Shared} {E:Value→Shared→Prop}
theorem Inv.wish (I:Inv X pins σ H s) (E:Value→Shared→Prop):Inv (X.wish E) pins σ H s:=⟨I.ok.wish E,I.os,I.bare,I.base,I.loc,I.cell,I.free,I.freeC,I.pin,I.hok,I.len⟩
theorem Inv.unwish (I:Inv (X.wish E) pins σ H s):Inv X pins σ H s:=⟨I.ok.unwish,I.os,I.bare,I.base,I.loc,I.cell,I.free,I.freeC,I.pin,I.hok,I.len⟩
theorem SP.unwish {D:Ends} {f:Flow} {s':Shared} (h:SP (X.wish E) pins D f s'):SP X pins D f s':=by
  cases f with
  | next=>obtain ⟨σ',H',I,q⟩:=h; exact ⟨σ',H',I.unwish,q⟩
  | brk=>obtain ⟨σ',H',I,q⟩:=h; exact ⟨σ',H',I.unwish,q⟩
  | cont=>obtain ⟨σ',H',I,q⟩:=h; exact ⟨σ',H',I.unwish,q⟩
  | ret u=>obtain ⟨v,σ',H',I,r,q⟩:=h; exact ⟨v,σ',H',I.unwish,r,q⟩
theorem PSs.nox {st:List Stmt} {t:TS} (h:PSs X.nox st t):PSs X st t:=fun pins s σ H D I hw =>
  wpAny_mono (h pins s σ H D (I.wish _) hw) (fun _ _ q=>q.unwish) fun _ _ z=>False.elim z
end
section
variable {X:Cx} {st:Stmt} {rest:List Stmt} {t u:TS} {e:Expr} {te:TE} {pos:Pos}
def tNext:TS:=fun D σ H=>D.nx σ H
def tSeq (t u:TS):TS:=fun D σ H=>t { D with nx:=u D } σ H
theorem pss_nil:PSs X [] tNext:=fun _ _ σ H _ I h=>wpAny_execs_nil ⟨σ,H,I,h⟩
theorem pss_cons (h1:PS X st t) (h2:PSs X rest u):PSs X (st::rest) (tSeq t u):=by
  intro pins s σ H D I h
  refine wpAny_execs_cons (thn (h1 pins s σ H { D with nx:=u D } I h) fun f s1 q=>?_)
  cases f with
  | next =>
    obtain ⟨σ',H',I',q⟩:=q
    exact h2 pins s1 σ' H' D I' q
  | ret v=>exact q
  | brk=>exact q
  | cont=>exact q
theorem pss_one (h1:PS X st t):PSs X [st] t:=by
  intro pins s σ H D I h
  refine wpAny_execs_cons (thn (h1 pins s σ H D I h) fun f s1 q=>?_)
  cases f with
  | next=>exact wpAny_execs_nil q
  | ret v=>exact q
  | brk=>exact q
  | cont=>exact q
def tBreak:TS:=fun D σ H=>D.bk σ H
def tCont:TS:=fun D σ H=>D.ct σ H
theorem Inv.quiet {pins:List (Addr × Obj)} {σ:St} {H:Hp} {s:Shared} (I:Inv X pins σ H s):interactive X.env=false:=by simp [interactive,I.ok.kind]
def tDrop (te:TE):TS:=fun D σ H=>te σ H fun _ H1=>D.nx σ H1
theorem ps_expr (he:PE X e te) (hs:swapsWith e none pos.line X.env=pure false:=by rfl):PS X (.Expr e pos) (tDrop te):=by
  intro pins s σ H D I h
  exact wpAny_Expr_any (thn (he pins s σ H _ I h) fun v s1 ⟨x,H1,I1,r1,q1⟩=>⟨σ,H1,I1,q1⟩) I.quiet hs
def tRet (te:TE):TS:=fun D σ H=>te σ H D.rt
theorem ps_ret (he:PE X e te):PS X (.Return (some e) pos) (tRet te):=by
  intro pins s σ H D I h
  exact wpAny_Return_some (thn (he pins s σ H _ I h) fun v s1 ⟨x,H1,I1,r1,q1⟩=>⟨x,σ,H1,I1,r1,q1⟩)
def tRetN:TS:=fun D _ H=>D.rt .non H
def tIfS (c:TT) (t u:TS):TS:=fun D σ H=>c σ H fun b H1=>if b=true then t D σ H1 else u D σ H1
theorem ps_if {c:Expr} {a b:List Stmt} {tc:TT} (hc:PT X c tc) (ha:PSs X a t) (hb:PSs X b u):PS X (.If c a b pos) (tIfS tc t u):=by
  intro pins s σ H D I h
  refine wpAny_If (thn (hc pins s σ H _ I h) fun d s1 ⟨H1,I1,q1⟩=>?_)
  cases d with
  | true=>exact ha pins s1 σ H1 D I1 q1
  | false=>exact hb pins s1 σ H1 D I1 q1
def tNever:TS:=fun _ _ _=>False
theorem pss_never {sts:List Stmt}:PSs X sts tNever:=fun _ _ _ _ _ _ h=>h.elim
end
abbrev TG:=V→St→Hp→(St→Hp→Prop)→Prop
abbrev TGs:=List V→St→Hp→(St→Hp→Prop)→Prop
def PG (X:Cx) (target:Expr) (t:TG):Prop :=
  ∀ (pins:List (Addr × Obj)) (s:Shared) (σ:St) (H:Hp) (v:V) (u:Value) (Q:St→Hp→Prop),Inv X pins σ H s→RelV v u→t v σ H Q →
    wpAny (model X.prog X.w) X.A (assign target X.env u) (fun _ s'=>∃ σ' H',Inv X pins σ' H' s'∧Q σ' H') X.xe s
def PGs (X:Cx) (ts:List Expr) (t:TGs):Prop :=
  ∀ (pins:List (Addr × Obj)) (s:Shared) (σ:St) (H:Hp) (vs:List V) (us:List Value) (Q:St→Hp→Prop),Inv X pins σ H s→Vals vs us→t vs σ H Q →
    wpAny (model X.prog X.w) X.A (assignInOrder ((assignEach ts X.env).map (·.2)) us) (fun _ s'=>∃ σ' H',Inv X pins σ' H' s'∧Q σ' H') X.xe s
abbrev TSet:=V→V→V→Hp→(Hp→Prop)→Prop
def PSet (X:Cx) (t:TSet):Prop :=
  ∀ (pins:List (Addr × Obj)) (s:Shared) (σ:St) (H:Hp) (o i v:V) (ov iv u:Value) (Q:Hp→Prop),Inv X pins σ H s→RelV o ov→RelV i iv→RelV v u→t o i v H Q →
    wpAny (model X.prog X.w) X.A (setItem ov iv u) (fun _ s'=>∃ H',Inv X pins σ H' s'∧Q H') X.xe s
abbrev TIp:=V→V→Hp→VK→Prop
def PIp (X:Cx) (op:Operator) (t:TIp):Prop :=
  ∀ (pins:List (Addr × Obj)) (s:Shared) (σ:St) (H:Hp) (x y:V) (v u:Value) (Q:VK),Inv X pins σ H s→RelV x v→RelV y u→t x y H Q →
    wpAny (model X.prog X.w) X.A (inplaceOp op v u) (EP X pins σ Q) X.xe s
section
variable {X:Cx} {pos:Pos}
def gName (i:Nat):TG:=fun v σ H Q=>Q (σ.set i (some v)) H
theorem pg_name {i:Nat} {x:Str} (hN:X.N.Nodup) (hi:X.N[i]?=some x) (hx:Loc X.env.scope x) (hf:X.fn x=true∨X.env.scope.names.lookup x=some .local:=by first | exact .inl rfl | exact .inr rfl | assumption):PG X (.Name x pos) (gName i):=by
  intro pins s σ H v u Q I r h
  exact wpAny_assign_Name (store_ok I hN hi hx r (fun s' I'=>⟨_,H,I',h⟩) hf)
def gNil:TGs:=fun vs σ H Q=>vs=[]∧Q σ H
def gCons (t:TG) (u:TGs):TGs:=fun vs σ H Q=>∃ v r,vs=v::r∧t v σ H fun σ' H'=>u r σ' H' Q
theorem pgs_nil:PGs X [] gNil:=by
  intro pins s σ H vs us Q I r h
  obtain ⟨e,h⟩:=h
  subst e
  cases r
  exact assignInOrder_nil ⟨σ,H,I,h⟩
theorem pgs_cons {e:Expr} {es:List Expr} {t:TG} {u:TGs} (h1:PG X e t) (h2:PGs X es u)
    (hs:(assignEach (e::es) X.env).map (·.2)=assign e X.env::(assignEach es X.env).map (·.2):=by rfl):PGs X (e::es) (gCons t u):=by
  intro pins s σ H vs us Q I r h
  obtain ⟨v,vr,e1,h⟩:=h
  subst e1
  cases r with
  | cons r rr =>
    rw [hs]
    refine assignInOrder_cons (thn (h1 pins s σ H _ _ _ I r h) fun _ s1 ⟨σ1,H1,I1,q1⟩=>?_)
    exact h2 pins s1 σ1 H1 _ _ Q I1 rr q1
def gTup (K:PySem.W.Frag) (n:Nat) (t:TGs):TG:=fun v σ H Q=>∃ a xs,v=.ref a∧SqT K H a xs∧xs.length=n∧t xs σ H Q
theorem pg_tup {es:List Expr} {k:Nat} {t:TGs} {n:Nat} (hc:X.calm=true) (h:PGs X es t)
    (hn:(assignEach es X.env).length=n:=by rfl) (hst:(assignEach es X.env).findIdx? (·.1)=none:=by rfl):PG X (.Tuple es k pos) (gTup X.K n t):=by
  intro pins s σ H v u Q I r hw
  obtain ⟨a,xs,e1,hq,hl,hw⟩:=hw
  subst e1
  cases r
  obtain ⟨its,rv,ht,hz⟩:=I.tuple hq
  refine assign_Tuple_tuple (I.ok.hd hc) ht (by simp [hn,← hl,rv.length]) hst fun h' hx=>?_
  have I1:Inv X pins σ H { s with heap:=h' }:=I.kept (t':=s.toks) fun b o e=>hx b o (Nat.ne_of_lt (Heap.lt_size e)) e
  exact h pins _ σ H xs _ Q I1 (by simpa using rv) hw
def gSub (to ti:TE) (t:TSet):TG:=fun v σ H Q=>to σ H fun o H1=>ti σ H1 fun i H2=>t o i v H2 fun H3=>Q σ H3
theorem pg_sub {o i:Expr} {to ti:TE} {t:TSet} (ho:PE X o to) (hi:PE X i ti) (hs:PSet X t)
    (ha:∀ v,assign (.Subscript o i pos) X.env v=(do
      let ov ← holding [v] (eval o X.env)
      let iv ← holding [v,ov] (eval i X.env)
      standAt pos
      holding [v,ov,iv] (setItem ov iv v)
      release [v,ov,iv] []):=by intro _; rfl):PG X (.Subscript o i pos) (gSub to ti t):=by
  intro pins s σ H v u Q I r h
  rw [ha]
  refine wpAny_bind (wpAny_holding (thn (ho pins s σ H _ I h) fun ov s1 ⟨x,H1,I1,r1,q1⟩=>?_))
  refine wpAny_bind (wpAny_holding (thn (hi pins s1 σ H1 _ I1 q1) fun iv s2 ⟨y,H2,I2,r2,q2⟩=>?_))
  refine wpAny_bind (wpAny_standAt (wpAny_bind (wpAny_holding (thn (hs pins s2 σ H2 x y v ov iv u _ I2 r1 r2 r q2) fun _ s3 ⟨H3,I3,q3⟩=>?_))))
  exact wpAny_release ⟨σ,H3,I3,q3⟩
def tAsg (te:TE) (g:TG):TS:=fun D σ H=>te σ H fun x H1=>g x σ H1 D.nx
theorem ps_asg {tg e:Expr} {te:TE} {g:TG} (he:PE X e te) (hg:PG X tg g) (hs:swapsWithSole [tg] e pos.line X.env=pure false:=by rfl) (hw:swappedStores [tg] e X.env=pure none:=by rfl)
    (h1:(assignEach [tg] X.env).map (·.2)=[assign tg X.env]:=by rfl):PS X (.Assign [tg] e pos) (tAsg te g):=by
  intro pins s σ H D I h
  refine wpAny_Assign_stores (thn (he pins s σ H _ I h) fun v s1 ⟨x,H1,I1,r1,q1⟩=>?_) hs hw
  rw [h1]
  exact thn (hg pins s1 σ H1 x v _ I1 r1 q1) fun _ s2 q=>q
theorem ps_set {i:Nat} {x:Str} {e:Expr} {te:TE} {pos':Pos} (hN:X.N.Nodup) (hi:X.N[i]?=some x) (hx:Loc X.env.scope x) (he:PE X e te) (hs:swapsWith e (some (.Name x pos')) pos.line X.env=pure false:=by rfl) (hf:X.fn x=true∨X.env.scope.names.lookup x=some .local:=by first | exact .inl rfl | exact .inr rfl | assumption) :
    PS X (.Assign [.Name x pos'] e pos) (tAsg te (gName i)):=by
  intro pins s σ H D I h
  refine wpAny_Assign_Name (thn (he pins s σ H _ I h) fun v s1 ⟨y,H1,I1,r1,q1⟩=>?_) hs
  exact store_ok I1 hN hi hx r1 (fun s2 I2=>⟨_,H1,I2,q1⟩) hf
def tPar (i j:Nat) (ta:TA):TS:=fun D σ H=>ta σ H fun vs H1=>∃ v w,vs=[v,w]∧D.nx ((σ.set i (some v)).set j (some w)) H1
def tAug (i:Nat) (te:TE) (ti:TIp):TS:=fun D σ H=>∃ x,σ[i]?=some (some x)∧te σ H fun y H1=>ti x y H1 fun z H2=>D.nx (σ.set i (some z)) H2
def tAugS (to ti te:TE) (tget:V→V→Hp→VK→Prop) (tip:TIp) (tset:TSet):TS:=fun D σ H=>to σ H fun o H1=>ti σ H1 fun i H2=>tget o i H2 fun x H3=>te σ H3 fun y H4=>tip x y H4 fun z H5=>tset o i z H5 fun H6=>D.nx σ H6
def PGet (X:Cx) (t:V→V→Hp→VK→Prop):Prop :=
  ∀ (pins:List (Addr × Obj)) (s:Shared) (σ:St) (H:Hp) (o i:V) (ov iv:Value) (Q:VK),Inv X pins σ H s→RelV o ov→RelV i iv→t o i H Q →
    wpAny (model X.prog X.w) X.A (getItem ov iv) (EP X pins σ Q) X.xe s
def ipI (f:Int→Int→Int):TIp:=fun x y H Q=>∃ i j,x=.int i∧y=.int j∧Q (.int (f i j)) H
end
section
variable {X:Cx} {pos:Pos}
def tWhile (c:TT) (tb:TS):TS:=fun D σ H=>∃ W:Nat→St→Hp→Prop,(∃ m,W m σ H)∧∀ m σ H,W m σ H →
  c σ H fun b H1=>if b=true then ∃ N:St→Hp→Prop,(∀ σ' H',N σ' H'→∃ m',m' < m∧W m' σ' H')∧tb { D with nx:=N,ct:=N,bk:=D.nx } σ H1 else D.nx σ H1
theorem ps_while {c:Expr} {body:List Stmt} {tc:TT} {tb:TS} (hp:PassesOwn (model X.prog X.w) X.A X.env X.xe) (hc:PT X c tc) (hb:PSs X body tb):PS X (.While c body [] pos) (tWhile tc tb):=by
  intro pins s σ H D I h
  obtain ⟨W,⟨m0,w0⟩,turn⟩:=h
  refine wpAny_While (codeAny_whileLoop (fun n s'=>∃ σ' H',Inv X pins σ' H' s'∧W n σ' H') ?_ m0 ⟨σ,H,I,w0⟩)
  rintro n s1 ⟨σ1,H1,I1,w1⟩
  refine wpAny_passesOwn hp (thn (hc pins s1 σ1 H1 _ I1 (turn n σ1 H1 w1)) fun b s2 ⟨H2,I2,q2⟩=>?_)
  cases b with
  | true =>
    obtain ⟨N,hN,q2⟩:=q2
    rw [if_pos rfl]
    refine wpAny_passesOwn hp (thn (hb pins s2 σ1 H2 _ I2 q2) fun f s3 q3=>?_)
    cases f with
    | next =>
      obtain ⟨σ3,H3,I3,n3⟩:=q3
      obtain ⟨m',hm,w3⟩:=hN σ3 H3 n3
      exact ⟨m',hm,σ3,H3,I3,w3⟩
    | cont =>
      obtain ⟨σ3,H3,I3,n3⟩:=q3
      obtain ⟨m',hm,w3⟩:=hN σ3 H3 n3
      exact ⟨m',hm,σ3,H3,I3,w3⟩
    | brk=>exact q3
    | ret v=>exact q3
  | false =>
    rw [if_neg Bool.false_ne_true]
    exact wpAny_execs_nil ⟨σ1,H2,I2,q2⟩
end
structure It where
  go:Nat→Hp→Prop
  yld:Nat→Hp→V→Hp→Prop
  stop:Nat→Hp→Prop
def FpOk (X:Cx) (pins:List (Addr × Obj)) (H:Hp) (b:Addr):Prop :=
  H b=none∧b ≠ X.env.locals∧b ∉ X.fs∧(b ∈ X.ex∨X.s₀.heap.objs.size≤b)∧(∀ x c,X.env.cells.lookup x=some c→c ≠ b)∧∀ p ∈ X.pn++pins,p.1 ≠ b
theorem Inv.fpOk {X:Cx} {pins:List (Addr × Obj)} {σ:St} {H H':Hp} {s:Shared} {b:Addr} (I:Inv X pins σ H s) (hb:s.heap.objs.size≤b) (hn:H' b=none):FpOk X pins H' b:=by
  refine ⟨hn,Nat.ne_of_gt (Nat.lt_of_lt_of_le I.lt hb),I.nofs hb,.inr (Nat.le_trans I.sz hb),fun x c e z=>?_,fun p hp z=>?_⟩
  · obtain ⟨v,q⟩:=I.cell x c e
    exact absurd (Nat.lt_of_lt_of_le q.lt (by rw [z]; exact hb)) (Nat.lt_irrefl _)
  · exact absurd (Nat.lt_of_lt_of_le (Heap.lt_size (I.pin p hp).1) (by rw [z]; exact hb)) (Nat.lt_irrefl _)
structure Turn (P:Program) (w:World) (K:PySem.W.Frag) (tg:Expr) (J:It) (fp:List Addr) (it:Addr) (tn:Nat→Heap→Prop):Prop where
  mem:it ∈ fp
  obj:∀ i h,tn i h→∀ b ∈ fp,∃ o,h.get? b=some o∧∀ v,o.data ≠ .cell v
  keep:∀ i h h',tn i h→(∀ b ∈ fp,∀ o,h.get? b=some o→h'.get? b=some o)→tn i h'
  item:∀ (X:Cx),X.prog=P→X.w=w→X.K=K→X.calm=true→∀ (i:Nat) (pins:List (Addr × Obj)) (s:Shared) (σ:St) (H:Hp) (E:Value→Shared→Prop),Inv X pins σ H s→(∀ b ∈ fp,FpOk X pins H b)→tn i s.heap→J.go i H →
    wpAny (model P w) X.A (pyNext (.ref it)) (fun r s1=>∃ u,r=some u ∧
      wpAny (model P w) X.A (letOwnedTupleGo tg (.ref it) u) (fun _ s2=>∃ x H',Inv X pins σ H' s2∧RelV x u∧J.yld i H x H'∧tn (i+1) s2.heap∧∀ b ∈ fp,H' b=none) E s1) E s
  done:∀ (X:Cx),X.prog=P→X.w=w→X.K=K→X.calm=true→∀ (i:Nat) (pins:List (Addr × Obj)) (s:Shared) (σ:St) (H:Hp) (E:Value→Shared→Prop),Inv X pins σ H s→(∀ b ∈ fp,FpOk X pins H b)→tn i s.heap→J.stop i H →
    wpAny (model P w) X.A (pyNext (.ref it)) (fun r s1=>r=none∧Inv X pins σ H s1) E s
  self:∀ (A:Around) (i:Nat) (s:Shared) (Q:Value→Shared→Prop) (E:Value→Shared→Prop),tn i s.heap→Q (.ref it) s→wpAny (model P w) A (pyIter (.ref it)) Q E s
abbrev TI:=St→Hp→(It→Hp→Prop)→Prop
def PIE (X:Cx) (pins:List (Addr × Obj)) (σ:St) (tg:Expr) (R:It→Hp→Prop) (itv:Value) (s2:Shared):Prop :=
  ∃ (it:Addr) (fp:List Addr) (tn:Nat→Heap→Prop) (J:It) (H':Hp),itv=.ref it∧Inv X pins σ H' s2∧Turn X.prog X.w X.K tg J fp it tn∧tn 0 s2.heap∧(∀ b ∈ fp,FpOk X pins H' b)∧R J H'
def PI (X:Cx) (tg iter:Expr) (wi:TI):Prop :=
  ∀ (pins:List (Addr × Obj)) (s:Shared) (σ:St) (H:Hp) (R:It→Hp→Prop),Inv X pins σ H s→wi σ H R →
    wpAny (model X.prog X.w) X.A (eval iter X.env) (fun v s1=>wpAny (model X.prog X.w) X.A (pyIter v) (PIE X pins σ tg R) X.xe s1) X.xe s
theorem go_of {M:Model} {A:Around} {E:Value→Shared→Prop} {s:Shared} {tg:Expr} {it:Addr} {u:Value} {o:Obj} {n:String} {vs:Array Value} {Q:Unit→Shared→Prop} (ho:s.heap.get? it=some o) (hc:o.cls=.type n) (hd:o.data=.fields vs)
    (hn:["enumerate", "zip", "dict_itemiterator", "dict_reverseitemiterator", "odict_iterator", "itertools.zip_longest", "itertools.pairwise"].contains n=false) (hQ:Q () s):wpAny M A (letOwnedTupleGo tg (.ref it) u) Q E s:=by
  unfold letOwnedTupleGo
  cases tg <;> first
    | exact wpAny_pure hQ
    | (cases u <;> first
        | exact wpAny_pure hQ
        | (refine wpAny_bind (wpAny_load ho ?_)
           rw [hc,hd]
           show wpAny M A (if (["enumerate", "zip", "dict_itemiterator", "dict_reverseitemiterator", "odict_iterator", "itertools.zip_longest", "itertools.pairwise"].contains n && vs[0]? == some (rawInt _))=true then _ else _) Q E s
           rw [if_neg (by intro h; rw [hn,Bool.false_and] at h; cases h)]
           exact wpAny_pure hQ))
def Itl (K:PySem.W.Frag) (a:Addr):It :=
  ⟨fun i H=>∃ xs x,SqL K H a xs∧xs[i]?=some x,fun i H x H'=>H'=H∧∀ xs,SqL K H a xs→xs[i]?=some x,fun i H=>∃ xs,SqL K H a xs∧xs.length≤i⟩
def Itt (K:PySem.W.Frag) (a:Addr):It :=
  ⟨fun i H=>∃ xs x,SqT K H a xs∧xs[i]?=some x,fun i H x H'=>H'=H∧∀ xs,SqT K H a xs→xs[i]?=some x,fun i H=>∃ xs,SqT K H a xs∧xs.length≤i⟩
def Itr (lo:Int) (n:Nat):It:=⟨fun i _=>i < n,fun i H x H'=>H'=H∧x=.int (lo+i),fun i _=>n≤i⟩
theorem turn_list {P:Program} {w:World} {K:PySem.W.Frag} {tg:Expr} (a it:Addr):Turn P w K tg (Itl K a) [it] it (fun i h=>h.IsListIter it a i) where
  mem:=by simp
  obj:=fun i h st b hb=>by
    have e:b=it:=by simpa using hb
    subst e
    obtain ⟨o,e,c,d⟩:=st
    exact ⟨o,e,fun v z=>by rw [d] at z; cases z⟩
  keep:=fun i h h' st k=>st.at fun o e=>k it (by simp) o e
  item:=by
    intro X hP hw hK hc i pins s σ H E I hf st hg
    subst hP hw hK
    obtain ⟨xs,x,hq,hx⟩:=hg
    obtain ⟨its,rv,p,hz⟩:=I.list hq
    obtain ⟨u,hu,ru⟩:=rv.get hx
    obtain ⟨f0,f1,f2,f3,f4,f5⟩:=hf it (by simp)
    refine wpAny_pyNext_list_item st p.isList (x:=u) (by simpa using hu) fun h' st' sb=>?_
    have I1:Inv X pins σ H { s with heap:=h' }:=I.turned (t':=s.toks) (fun b o hb e=>(sb.2 b hb).trans e) f0 f1 f3 f4 f5
    obtain ⟨o,e,c,d⟩:=id st'
    exact ⟨u,rfl,go_of (s:={ s with heap:=h' }) e c d (by decide) ⟨x,H,I1,ru,⟨rfl,fun ys hy=>by rw [I.list_inj hy hq]; exact hx⟩,st',fun b hb=>(hf b hb).1⟩⟩
  done:=by
    intro X hP hw hK hc i pins s σ H E I hf st hg
    subst hP hw hK
    obtain ⟨xs,hq,hx⟩:=hg
    obtain ⟨its,rv,p,hz⟩:=I.list hq
    obtain ⟨f0,f1,f2,f3,f4,f5⟩:=hf it (by simp)
    have hl:=rv.length
    exact wpAny_pyNext_list_end (I.ok.hd hc) st p.isList (by simp; omega) fun h' eb=>⟨rfl,I.turned (t':=s.toks) (fun b o hb e=>eb b o hb e) f0 f1 f3 f4 f5⟩
  self:=fun _ _ _ _ _ st h=>wpAny_pyIter_listiter st h
theorem turn_tuple {P:Program} {w:World} {K:PySem.W.Frag} {tg:Expr} (a it:Addr):Turn P w K tg (Itt K a) [it] it (fun i h=>h.IsTupleIter it a i) where
  mem:=by simp
  obj:=fun i h st b hb=>by
    have e:b=it:=by simpa using hb
    subst e
    obtain ⟨o,e,c,d⟩:=st
    exact ⟨o,e,fun v z=>by rw [d] at z; cases z⟩
  keep:=fun i h h' st k=>st.at fun o e=>k it (by simp) o e
  item:=by
    intro X hP hw hK hc i pins s σ H E I hf st hg
    subst hP hw hK
    obtain ⟨xs,x,hq,hx⟩:=hg
    obtain ⟨its,rv,p,hz⟩:=I.tuple hq
    obtain ⟨u,hu,ru⟩:=rv.get hx
    obtain ⟨f0,f1,f2,f3,f4,f5⟩:=hf it (by simp)
    refine wpAny_pyNext_tuple_item st (show s.heap.IsTuple a its.toArray from p) (x:=u) (by simpa using hu) fun h' st' sb=>?_
    have I1:Inv X pins σ H { s with heap:=h' }:=I.turned (t':=s.toks) (fun b o hb e=>(sb.2 b hb).trans e) f0 f1 f3 f4 f5
    obtain ⟨o,e,c,d⟩:=id st'
    exact ⟨u,rfl,go_of (s:={ s with heap:=h' }) e c d (by decide) ⟨x,H,I1,ru,⟨rfl,fun ys hy=>by rw [I.tuple_inj hy hq]; exact hx⟩,st',fun b hb=>(hf b hb).1⟩⟩
  done:=by
    intro X hP hw hK hc i pins s σ H E I hf st hg
    subst hP hw hK
    obtain ⟨xs,hq,hx⟩:=hg
    obtain ⟨its,rv,p,hz⟩:=I.tuple hq
    obtain ⟨f0,f1,f2,f3,f4,f5⟩:=hf it (by simp)
    have hl:=rv.length
    exact wpAny_pyNext_tuple_end (I.ok.hd hc) st (show s.heap.IsTuple a its.toArray from p) (by simp; omega) fun h' eb=>⟨rfl,I.turned (t':=s.toks) (fun b o hb e=>eb b o hb e) f0 f1 f3 f4 f5⟩
  self:=fun _ _ _ _ _ st h=>wpAny_pyIter_tupleiter st h
theorem turn_range {P:Program} {w:World} {K:PySem.W.Frag} {tg:Expr} (it:Addr) (lo:Int) (n:Nat):Turn P w K tg (Itr lo n) [it] it (fun i h=>IsRangeIter h it (lo+(i:Nat)*1) ((n:Int) - (i:Nat)) 1) where
  mem:=by simp
  obj:=fun i h st b hb=>by
    have e:b=it:=by simpa using hb
    subst e
    exact ⟨_,st,fun v z=>by
      have z':Data.fields _=Data.cell v:=z
      cases z'⟩
  keep:=fun i h h' st k=>k it (by simp) _ st
  item:=by
    intro X hP hw hK hc i pins s σ H E I hf st hg
    subst hP hw hK
    obtain ⟨f0,f1,f2,f3,f4,f5⟩:=hf it (by simp)
    have W:=Walks.range (prog:=X.prog) (w:=X.w) (I.ok.hd hc) it lo 1 n
    refine W.item i s _ _ hg st fun v h' tk hv st' kk=>?_
    obtain ⟨t,rfl⟩:=hv
    have I1:Inv X pins σ H { s with heap:=h',toks:=tk }:=I.turned (fun b o hb e=>kk b o (by simpa using hb) e) f0 f1 f3 f4 f5
    refine ⟨_,rfl,go_of (s:={ s with heap:=h',toks:=tk }) (n := "range_iterator") st' rfl rfl (by decide) ⟨.int (lo+i),H,I1,⟨t,?_⟩,⟨rfl,rfl⟩,st',fun b hb=>(hf b hb).1⟩⟩
    rw [Int.mul_one]
  done:=by
    intro X hP hw hK hc i pins s σ H E I hf st hg
    subst hP hw hK
    obtain ⟨f0,f1,f2,f3,f4,f5⟩:=hf it (by simp)
    exact wpAny_pyNext_range_end (I.ok.hd hc) st (by have:n≤i:=hg; omega) fun h' eb=>⟨rfl,I.turned (t':=s.toks) (fun b o hb e=>eb b o hb e) f0 f1 f3 f4 f5⟩
  self:=fun _ _ _ _ _ st h=>wpAny_pyIter_rangeiter st h
end L2
namespace L2
open PySem PySem.Spec PyProof.Rows
section
variable {X:Cx} {tg:Expr}
def iList (K:PySem.W.Frag) (tl:TE):TI:=fun σ H R=>tl σ H fun x H1=>∃ a,x=.ref a∧(∃ xs,SqL K H1 a xs)∧R (Itl K a) H1
def iTup (K:PySem.W.Frag) (tl:TE):TI:=fun σ H R=>tl σ H fun x H1=>∃ a,x=.ref a∧(∃ xs,SqT K H1 a xs)∧R (Itt K a) H1
theorem pi_list {l:Expr} {tl:TE} (hl:PE X l tl):PI X tg l (iList X.K tl):=by
  intro pins s σ H R I h
  refine thn (hl pins s σ H _ I h) fun v s1 ⟨x,H1,I1,r1,q1⟩=>?_
  obtain ⟨a,e,⟨xs,hq⟩,q⟩:=q1
  subst e
  cases r1
  obtain ⟨its,rv,p,hz⟩:=I1.list hq
  refine wpAny_pyIter_list p.isList ?_
  refine ⟨s1.heap.objs.size,[s1.heap.objs.size],_,_,H1,rfl,I1.kept (t':=s1.toks) fun b o e=>Heap.get?_push_of_some _ e,turn_list a _,⟨_,Heap.get?_push_size _ rfl,rfl,rfl⟩,fun b hb=>?_,q⟩
  have e:b=s1.heap.objs.size:=by simpa using hb
  subst e
  exact I1.fpOk (Nat.le_refl _) (I1.hok.fresh (Nat.le_refl _))
theorem pi_tup {l:Expr} {tl:TE} (hl:PE X l tl):PI X tg l (iTup X.K tl):=by
  intro pins s σ H R I h
  refine thn (hl pins s σ H _ I h) fun v s1 ⟨x,H1,I1,r1,q1⟩=>?_
  obtain ⟨a,e,⟨xs,hq⟩,q⟩:=q1
  subst e
  cases r1
  obtain ⟨its,rv,p,hz⟩:=I1.tuple hq
  refine wpAny_pyIter_tuple (show s1.heap.IsTuple a its.toArray from p) ?_
  refine ⟨s1.heap.objs.size,[s1.heap.objs.size],_,_,H1,rfl,I1.kept (t':=s1.toks) fun b o e=>Heap.get?_push_of_some _ e,turn_tuple a _,⟨_,Heap.get?_push_size _ rfl,rfl,rfl⟩,fun b hb=>?_,q⟩
  have e:b=s1.heap.objs.size:=by simpa using hb
  subst e
  exact I1.fpOk (Nat.le_refl _) (I1.hok.fresh (Nat.le_refl _))
theorem range_it {pins:List (Addr × Obj)} {σ:St} {H:Hp} {s:Shared} {R:It→Hp→Prop} {E:Value→Shared→Prop} {lo hi:Int} {t u v:Tok} {tk:Nat} (I:Inv X pins σ H s) (h1:-(2 ^ 62)≤lo) (h2:lo < 2 ^ 62) (h3:-(2 ^ 62)≤hi) (h4:hi < 2 ^ 62)
    (q:R (Itr lo (hi - lo).toNat) H):wpAny (model X.prog X.w) X.A (pyIter (.ref s.heap.objs.size)) (PIE X pins σ tg R) E { s with heap:=s.heap.push { cls:=.type "range", data:=.fields #[.int lo t,.int hi u,.int 1 v] },toks:=tk }:=by
  refine wpAny_pyIter_range (IsRange.new ..) (small_one h1 h2 h3 h4) ?_
  have I1:Inv X pins σ H { s with heap:=s.heap.push { cls:=.type "range", data:=.fields #[.int lo t,.int hi u,.int 1 v] },toks:=tk }:=I.kept fun b o e=>Heap.get?_push_of_some _ e
  refine ⟨(s.heap.push { cls:=.type "range", data:=.fields #[.int lo t,.int hi u,.int 1 v] }).objs.size,[(s.heap.push { cls:=.type "range", data:=.fields #[.int lo t,.int hi u,.int 1 v] }).objs.size],_,_,H,rfl,
    I1.kept (t':=tk) fun b o e=>Heap.get?_push_of_some _ e,turn_range _ lo (hi - lo).toNat,?_,fun b hb=>?_,q⟩
  · have e1:lo+((0:Nat):Int)*1=lo:=by simp
    have e2:(((hi - lo).toNat:Nat):Int) - ((0:Nat):Int)=Builtin.Range.rangeSize lo hi 1:=by rw [rangeSize_one]; split <;> omega
    show IsRangeIter _ _ (lo+((0:Nat):Int)*1) ((((hi - lo).toNat:Nat):Int) - ((0:Nat):Int)) 1
    rw [e1,e2]
    exact Heap.get?_push_size _ rfl
  · have e:b=(s.heap.push { cls:=.type "range", data:=.fields #[.int lo t,.int hi u,.int 1 v] }).objs.size:=by simpa using hb
    subst e
    exact I1.fpOk (Nat.le_refl _) (I1.hok.fresh (Nat.le_refl _))
def iRng1 (ta:TA):TI:=fun σ H R=>ta σ H fun vs H1=>∃ j:Int,vs=[.int j]∧-(2 ^ 62)≤j∧j < 2 ^ 62∧R (Itr 0 j.toNat) H1
def iRng2 (ta:TA):TI:=fun σ H R=>ta σ H fun vs H1=>∃ i j:Int,vs=[.int i,.int j]∧(-(2 ^ 62)≤i∧i < 2 ^ 62∧-(2 ^ 62)≤j∧j < 2 ^ 62)∧R (Itr i (j - i).toNat) H1
theorem pi_range1 {a:Expr} {ta:TA} {p pos:Pos} (hg:Gl X "range") (hm:X.mg "range" = none) (ha:PA X [a] ta) (hs:starEach [a] X.env=[(false,eval a X.env)]:=by rfl):PI X tg (.Call (.Name "range" p) [a] [] pos) (iRng1 ta):=by
  intro pins s σ H R I h
  refine Call_ (ld_blt I hg hm boot_range (PyProof.Rows.callWith_type1 (thn (ha pos pins s σ H _ I h) fun us s1 ⟨vs,H1,I1,r1,q1⟩=>?_) hs rfl))
  obtain ⟨j,e,q1,q2,q⟩:=q1
  subst e
  cases r1 with
  | cons r rr =>
    cases rr
    obtain ⟨t,rfl⟩:=r
    exact call_range_1 (range_it I1 (by omega) (by omega) q1 q2 (by simpa using q))
theorem pi_range2 {a b:Expr} {ta:TA} {p pos:Pos} (hg:Gl X "range") (hm:X.mg "range" = none) (ha:PA X [a,b] ta) (hs:starEach [a,b] X.env=[(false,eval a X.env),(false,eval b X.env)]:=by rfl) (hs2:starEach [b] X.env=[(false,eval b X.env)]:=by rfl) :
    PI X tg (.Call (.Name "range" p) [a,b] [] pos) (iRng2 ta):=by
  intro pins s σ H R I h
  refine Call_ (ld_blt I hg hm boot_range (PyProof.Rows.callWith_type1 (thn (ha pos pins s σ H _ I h) fun us s1 ⟨vs,H1,I1,r1,q1⟩=>?_) (by rw [hs,hs2]) (by rw [hs2]; rfl)))
  obtain ⟨i,j,e,⟨q1,q2,q3,q4⟩,q⟩:=q1
  subst e
  cases r1 with
  | cons r rr =>
    cases rr with
    | cons r' rr =>
      cases rr
      obtain ⟨t,rfl⟩:=r
      obtain ⟨t',rfl⟩:=r'
      exact call_range_2 (range_it I1 q1 q2 q3 q4 q)
def tFor (wi:TI) (g:TG) (tb:TS):TS:=fun D σ H=>wi σ H fun J H1=>∃ W:Nat→Nat→St→Hp→Prop,(∃ m,W 0 m σ H1)∧∀ i m σ H,W i m σ H →
  (J.stop i H∧D.nx σ H)∨(J.go i H∧∃ N:St→Hp→Prop,(∀ σ' H',N σ' H'→∃ m',m' < m∧W (i+1) m' σ' H')∧∀ x H',J.yld i H x H'→g x σ H' fun σ2 H2=>tb { D with nx:=N,ct:=N,bk:=D.nx } σ2 H2)
def pinsAt (fp:List Addr) (h:Heap):List (Addr × Obj):=fp.filterMap fun b=>(h.get? b).map fun o=>(b,o)
theorem mem_pinsAt {fp:List Addr} {h:Heap} {b:Addr} {o:Obj} (hb:b ∈ fp) (e:h.get? b=some o):(b,o) ∈ pinsAt fp h:=List.mem_filterMap.mpr ⟨b,hb,by rw [e]; rfl⟩
theorem of_pinsAt {fp:List Addr} {h:Heap} {p:Addr × Obj} (hp:p ∈ pinsAt fp h):p.1 ∈ fp∧h.get? p.1=some p.2:=by
  obtain ⟨b,hb,e⟩:=List.mem_filterMap.mp hp
  cases q:h.get? b with
  | none=>rw [q] at e; cases e
  | some o =>
    rw [q] at e
    have e':(b,o)=p:=Option.some.inj e
    subst e'
    exact ⟨hb,q⟩
theorem Inv.pinned {pins:List (Addr × Obj)} {σ:St} {H:Hp} {s:Shared} {fp:List Addr} (I:Inv X pins σ H s) (hf:∀ b ∈ fp,FpOk X pins H b) (ho:∀ b ∈ fp,∃ o,s.heap.get? b=some o∧∀ v,o.data ≠ .cell v):Inv X (pins++pinsAt fp s.heap) σ H s :=
  I.pins_of fun p hp=>(List.mem_append.mp hp).elim (fun z=>I.pin p (List.mem_append_right _ z)) fun z=>by
    obtain ⟨hb,e⟩:=of_pinsAt z
    obtain ⟨f0,f1,f2,_⟩:=hf p.1 hb
    obtain ⟨o,e',d⟩:=ho p.1 hb
    rw [e] at e'; cases e'
    exact ⟨e,f0,f1,f2,d⟩
theorem Inv.unpinned {pins pl:List (Addr × Obj)} {σ:St} {H:Hp} {s:Shared} (I:Inv X (pins++pl) σ H s):Inv X pins σ H s:=I.pins_of fun p hp=>I.pin p (List.mem_append_right _ (List.mem_append_left _ hp))
theorem ps_for {iter:Expr} {body:List Stmt} {wi:TI} {g:TG} {tb:TS} {pos:Pos} (hp:PassesOwn (model X.prog X.w) X.A X.env X.xe) (hc:X.calm=true) (hi:PI X tg iter wi) (hg:PG X tg g) (hb:PSs X body tb)
    (hs:∀ x,foldedSetIterable iter X.env x=pure x:=by intro _; rfl):PS X (.For tg iter body [] pos) (tFor wi g tb):=by
  intro pins s σ H D I h
  refine wpAny_For (thn (hi pins s σ H _ I h) fun v s1 h1=>thn h1 fun itv s2 h2=>?_) hs
  obtain ⟨it,fp,tn,J,H2,e,I2,T,st2,f2,W,⟨m0,w0⟩,turn⟩:=h2
  subst e
  have stat:∀ {H':Hp},(∀ b ∈ fp,H' b=none)→∀ b ∈ fp,FpOk X pins H' b:=fun hn b hb=>⟨hn b hb,(f2 b hb).2⟩
  refine codeAny_forLoop_any (fun n s'=>∃ i σ' H',Inv X pins σ' H' s'∧tn i s'.heap∧(∀ b ∈ fp,H' b=none)∧W i n σ' H') ?_ m0 ⟨0,σ,H2,I2,st2,fun b hb=>(f2 b hb).1,w0⟩
  rintro n s3 ⟨i,σ3,H3,I3,st3,fr3,w3⟩
  rcases turn i n σ3 H3 w3 with ⟨stop,qn⟩ | ⟨go,N,hN,step⟩
  · refine wpAny_passesOwn hp (thn (T.done X rfl rfl rfl hc i pins s3 σ3 H3 X.xe I3 (stat fr3) st3 stop) fun r s4 ⟨hr,I4⟩=>?_)
    subst hr
    exact wpAny_execs_nil ⟨σ3,H3,I4,qn⟩
  · refine wpAny_passesOwn hp (thn (T.item X rfl rfl rfl hc i pins s3 σ3 H3 X.xe I3 (stat fr3) st3 go) fun r s4 ⟨u,hr,h4⟩=>?_)
    subst hr
    refine wpAny_passesOwn hp (thn h4 fun _ s5 ⟨x,H5,I5,r5,y5,st5,fr5⟩=>?_)
    have I5':=I5.pinned (stat fr5) (T.obj _ _ st5)
    refine wpAny_passesOwn hp (thn (hg _ s5 σ3 H5 x u _ I5' r5 (step x H5 y5)) fun _ s6 ⟨σ6,H6,I6,q6⟩=>?_)
    refine wpAny_passesOwn hp (thn (hb _ s6 σ6 H6 _ I6 q6) fun f s7 q7=>?_)
    have again:∀ {σ7:St} {H7:Hp},Inv X (pins++pinsAt fp s5.heap) σ7 H7 s7→N σ7 H7→∃ m,m < n∧∃ i σ' H',Inv X pins σ' H' s7∧tn i s7.heap∧(∀ b ∈ fp,H' b=none)∧W i m σ' H':=fun {σ7 H7} I7 n7=>by
      obtain ⟨m',hm,w7⟩:=hN σ7 H7 n7
      refine ⟨m',hm,i+1,σ7,H7,I7.unpinned,T.keep _ _ _ st5 fun b hb o e=>(I7.pin (b,o) (List.mem_append_right _ (List.mem_append_right _ (mem_pinsAt hb e)))).1,fun b hb=>?_,w7⟩
      obtain ⟨o,e,d⟩:=T.obj _ _ st5 b hb
      exact (I7.pin (b,o) (List.mem_append_right _ (List.mem_append_right _ (mem_pinsAt hb e)))).2.1
    cases f with
    | next=>obtain ⟨σ7,H7,I7,n7⟩:=q7; exact again I7 n7
    | cont=>obtain ⟨σ7,H7,I7,n7⟩:=q7; exact again I7 n7
    | brk=>obtain ⟨σ7,H7,I7,q7⟩:=q7; exact ⟨σ7,H7,I7.unpinned,q7⟩
    | ret v=>obtain ⟨x7,σ7,H7,I7,r7,q7⟩:=q7; exact ⟨x7,σ7,H7,I7.unpinned,r7,q7⟩
end
theorem for_list {K:PySem.W.Frag} {a:Addr} {xs:List V} {g:TG} {tb:TS} {D:Ends} {σ:St} {H:Hp} (Pv:Nat→St→Hp→Prop) (h0:Pv 0 σ H) (hl:∀ i σ H,i≤xs.length→Pv i σ H→SqL K H a xs)
    (hs:∀ i x σ H,xs[i]?=some x→Pv i σ H→g x σ H fun σ2 H2=>tb { D with nx:=Pv (i+1),ct:=Pv (i+1),bk:=D.nx } σ2 H2) (hd:∀ σ H,Pv xs.length σ H→D.nx σ H) :
    ∃ W:Nat→Nat→St→Hp→Prop,(∃ m,W 0 m σ H)∧∀ i m σ H,W i m σ H →
      ((Itl K a).stop i H∧D.nx σ H)∨((Itl K a).go i H∧∃ N:St→Hp→Prop,(∀ σ' H',N σ' H'→∃ m',m' < m∧W (i+1) m' σ' H')∧∀ x H',(Itl K a).yld i H x H'→g x σ H' fun σ2 H2=>tb { D with nx:=N,ct:=N,bk:=D.nx } σ2 H2):=by
  refine ⟨fun i m σ H=>m=xs.length - i∧i≤xs.length∧Pv i σ H,⟨xs.length,by simp,Nat.zero_le _,h0⟩,?_⟩
  rintro i m σ H ⟨rfl,hi,p⟩
  have q:=hl i σ H hi p
  by_cases hlt:i < xs.length
  · refine .inr ⟨⟨xs,xs[i],q,by simp [hlt]⟩,Pv (i+1),fun σ' H' p'=>⟨xs.length - (i+1),by omega,rfl,hlt,p'⟩,fun x H' y=>?_⟩
    obtain ⟨e,y⟩:=y
    subst e
    exact hs i x σ _ (y xs q) p
  · have e:i=xs.length:=by omega
    subst e
    exact .inl ⟨⟨xs,q,Nat.le_refl _⟩,hd σ H p⟩
theorem for_tup {K:PySem.W.Frag} {a:Addr} {xs:List V} {g:TG} {tb:TS} {D:Ends} {σ:St} {H:Hp} (Pv:Nat→St→Hp→Prop) (h0:Pv 0 σ H) (hl:∀ i σ H,i≤xs.length→Pv i σ H→SqT K H a xs)
    (hs:∀ i x σ H,xs[i]?=some x→Pv i σ H→g x σ H fun σ2 H2=>tb { D with nx:=Pv (i+1),ct:=Pv (i+1),bk:=D.nx } σ2 H2) (hd:∀ σ H,Pv xs.length σ H→D.nx σ H) :
    ∃ W:Nat→Nat→St→Hp→Prop,(∃ m,W 0 m σ H)∧∀ i m σ H,W i m σ H →
      ((Itt K a).stop i H∧D.nx σ H)∨((Itt K a).go i H∧∃ N:St→Hp→Prop,(∀ σ' H',N σ' H'→∃ m',m' < m∧W (i+1) m' σ' H')∧∀ x H',(Itt K a).yld i H x H'→g x σ H' fun σ2 H2=>tb { D with nx:=N,ct:=N,bk:=D.nx } σ2 H2):=by
  refine ⟨fun i m σ H=>m=xs.length - i∧i≤xs.length∧Pv i σ H,⟨xs.length,by simp,Nat.zero_le _,h0⟩,?_⟩
  rintro i m σ H ⟨rfl,hi,p⟩
  have q:=hl i σ H hi p
  by_cases hlt:i < xs.length
  · refine .inr ⟨⟨xs,xs[i],q,by simp [hlt]⟩,Pv (i+1),fun σ' H' p'=>⟨xs.length - (i+1),by omega,rfl,hlt,p'⟩,fun x H' y=>?_⟩
    obtain ⟨e,y⟩:=y
    subst e
    exact hs i x σ _ (y xs q) p
  · have e:i=xs.length:=by omega
    subst e
    exact .inl ⟨⟨xs,q,Nat.le_refl _⟩,hd σ H p⟩
theorem for_range {lo:Int} {n:Nat} {g:TG} {tb:TS} {D:Ends} {σ:St} {H:Hp} (Pv:Nat→St→Hp→Prop) (h0:Pv 0 σ H)
    (hs:∀ i σ H,i < n→Pv i σ H→g (.int (lo+i)) σ H fun σ2 H2=>tb { D with nx:=Pv (i+1),ct:=Pv (i+1),bk:=D.nx } σ2 H2) (hd:∀ σ H,Pv n σ H→D.nx σ H) :
    ∃ W:Nat→Nat→St→Hp→Prop,(∃ m,W 0 m σ H)∧∀ i m σ H,W i m σ H →
      ((Itr lo n).stop i H∧D.nx σ H)∨((Itr lo n).go i H∧∃ N:St→Hp→Prop,(∀ σ' H',N σ' H'→∃ m',m' < m∧W (i+1) m' σ' H')∧∀ x H',(Itr lo n).yld i H x H'→g x σ H' fun σ2 H2=>tb { D with nx:=N,ct:=N,bk:=D.nx } σ2 H2):=by
  refine ⟨fun i m σ H=>m=n - i∧i≤n∧Pv i σ H,⟨n,by simp,Nat.zero_le _,h0⟩,?_⟩
  rintro i m σ H ⟨rfl,hi,p⟩
  by_cases hlt:i < n
  · refine .inr ⟨hlt,Pv (i+1),fun σ' H' p'=>⟨n - (i+1),by omega,rfl,hlt,p'⟩,fun x H' y=>?_⟩
    obtain ⟨e,y⟩:=y
    subst e y
    exact hs i σ _ hlt p
  · have e:i=n:=by omega
    subst e
    exact .inl ⟨Nat.le_refl _,hd σ H p⟩
end L2
namespace L2
open PySem PySem.Spec PyProof.Rows
abbrev R2:=V→V→Hp→VK→Prop
def OpR (X:Cx) (f:Value→Value→Sem Value) (r:R2):Prop :=
  ∀ (pins:List (Addr × Obj)) (s:Shared) (σ:St) (H:Hp) (x y:V) (v u:Value) (Q:VK),Inv X pins σ H s→RelV x v→RelV y u→r x y H Q →
    wpAny (model X.prog X.w) X.A (f v u) (EP X pins σ Q) X.xe s
def UnR (X:Cx) (f:Value→Sem Value) (r:V→Hp→VK→Prop):Prop :=
  ∀ (pins:List (Addr × Obj)) (s:Shared) (σ:St) (H:Hp) (x:V) (v:Value) (Q:VK),Inv X pins σ H s→RelV x v→r x H Q →
    wpAny (model X.prog X.w) X.A (f v) (EP X pins σ Q) X.xe s
def CallR (X:Cx) (f:Value) (r:List V→Hp→VK→Prop):Prop :=
  ∀ (pins:List (Addr × Obj)) (s:Shared) (σ:St) (H:Hp) (xs:List V) (us:List Value) (Q:VK),Inv X pins σ H s→Vals xs us→r xs H Q →
    wpAny (model X.prog X.w) X.A (call f us) (EP X pins σ Q) X.xe s
def TruR (X:Cx) (r:V→Hp→(Bool→Hp→Prop)→Prop):Prop :=
  ∀ (pins:List (Addr × Obj)) (s:Shared) (σ:St) (H:Hp) (x:V) (v:Value) (Q:Bool→Hp→Prop),Inv X pins σ H s→RelV x v→r x H Q →
    wpAny (model X.prog X.w) X.A (truthy v) (TP X pins σ Q) X.xe s
def tOp (r:R2) (ta tb:TE):TE:=fun σ H Q=>ta σ H fun x H1=>tb σ H1 fun y H2=>r x y H2 Q
def tUn (r:V→Hp→VK→Prop) (ta:TE):TE:=fun σ H Q=>ta σ H fun x H1=>r x H1 Q
def rI (C:Int→Int→Prop) (g:Int→Int→V):R2:=fun x y H Q=>∃ i j,x=.int i∧y=.int j∧C i j∧Q (g i j) H
def rI0 (g:Int→Int→V):R2:=fun x y H Q=>∃ i j,x=.int i∧y=.int j∧Q (g i j) H
def rU (g:Int→V):V→Hp→VK→Prop:=fun x H Q=>∃ i,x=.int i∧Q (g i) H
section
variable {X:Cx} {a b c:Expr} {ta tb tc:TE} {pos:Pos}
theorem binT (ha:PE X a ta) (hb:PE X b tb) {pins:List (Addr × Obj)} {s:Shared} {σ:St} {H:Hp} {R:V→V→Hp→Prop} (I:Inv X pins σ H s)
    (h:ta σ H fun x H1=>tb σ H1 fun y H2=>R x y H2) {Q:Value→Shared→Prop} {f:Value→Value→Sem Value}
    (hf:∀ v u s2 x y H2,Inv X pins σ H2 s2→RelV x v→RelV y u→R x y H2→wpAny (model X.prog X.w) X.A (f v u) Q X.xe s2) :
    wpAny (model X.prog X.w) X.A (eval a X.env) (fun v s₁=>wpAny (model X.prog X.w) X.A (eval b X.env) (fun u s₂=>wpAny (model X.prog X.w) X.A (f v u) Q X.xe s₂) X.xe s₁) X.xe s:=by
  refine thn (ha pins s σ H _ I h) fun v s1 ⟨x,H1,I1,r1,q1⟩=>?_
  refine thn (hb pins s1 σ H1 _ I1 q1) fun u s2 ⟨y,H2,I2,r2,q2⟩=>?_
  exact hf v u s2 x y H2 I2 r1 r2 q2
theorem pe_op {op:Operator} {r:R2} (ho:OpR X (binaryOp op) r) (ha:PE X a ta) (hb:PE X b tb):PE X (.BinOp a op b pos) (tOp r ta tb):=by
  intro pins s σ H Q I h
  exact wpAny_BinOp (binT ha hb I h fun v u s2 x y H2 I2 rx ry q=>ho pins s2 σ H2 x y v u Q I2 rx ry q)
theorem opI {f:Value→Value→Sem Value} {C:Int→Int→Prop} {g:Int→Int→Int}
    (rule:∀ (i j:Int) (t u:Tok) (s:Shared) (Q:Value→Shared→Prop) (E:Value→Shared→Prop),C i j→Q (.int (g i j) s.toks) { s with toks:=s.toks+1 }→wpAny (model X.prog X.w) X.A (f (.int i t) (.int j u)) Q E s) :
    OpR X f (rI C fun i j=>.int (g i j)):=by
  intro pins s σ H x y v u Q I rx ry h
  obtain ⟨i,j,rfl,rfl,hc,q⟩:=h
  obtain ⟨t,rfl⟩:=rx
  obtain ⟨t',rfl⟩:=ry
  exact rule i j t t' s _ _ hc ⟨.int (g i j),H,I.tok _,⟨_,rfl⟩,q⟩
theorem opI0 {f:Value→Value→Sem Value} {g:Int→Int→Int}
    (rule:∀ (i j:Int) (t u:Tok) (s:Shared) (Q:Value→Shared→Prop) (E:Value→Shared→Prop),Q (.int (g i j) s.toks) { s with toks:=s.toks+1 }→wpAny (model X.prog X.w) X.A (f (.int i t) (.int j u)) Q E s) :
    OpR X f (rI0 fun i j=>.int (g i j)):=by
  intro pins s σ H x y v u Q I rx ry h
  obtain ⟨i,j,rfl,rfl,q⟩:=h
  obtain ⟨t,rfl⟩:=rx
  obtain ⟨t',rfl⟩:=ry
  exact rule i j t t' s _ _ ⟨.int (g i j),H,I.tok _,⟨_,rfl⟩,q⟩
theorem opB0 {f:Value→Value→Sem Value} {g:Int→Int→Bool}
    (rule:∀ (i j:Int) (t u:Tok) (s:Shared) (Q:Value→Shared→Prop) (E:Value→Shared→Prop),Q (.bool (g i j)) s→wpAny (model X.prog X.w) X.A (f (.int i t) (.int j u)) Q E s) :
    OpR X f (rI0 fun i j=>.bl (g i j)):=by
  intro pins s σ H x y v u Q I rx ry h
  obtain ⟨i,j,rfl,rfl,q⟩:=h
  obtain ⟨t,rfl⟩:=rx
  obtain ⟨t',rfl⟩:=ry
  exact rule i j t t' s _ _ ⟨.bl (g i j),H,I,rfl,q⟩
def CDiv (i j:Int):Prop:=0 < j∧j < 1073741824
def CDivN (i j:Int):Prop:=j ≠ 0∧j.natAbs < 1073741824
def CPow (i j:Int):Prop:=0≤j∧j≤1000000∧i.natAbs < 2 ^ 64
def CMul (i j:Int):Prop:=(-(2 ^ 64) < i∧i < 2 ^ 64)∨(-(2 ^ 64) < j∧j < 2 ^ 64)
theorem CMul.ok {i j:Int} (h:CMul i j):IntMulOk i j:=by
  rcases h with ⟨h1,h2⟩ | ⟨h1,h2⟩
  · exact .of_left (intBits_le_64 h1 h2)
  · exact .of_right (intBits_le_64 h1 h2)
theorem op_add:OpR X (binaryOp .Add) (rI0 fun i j=>.int (i+j)):=opI0 fun _ _ _ _ _ _ _ q=>add_int q
theorem op_sub:OpR X (binaryOp .Sub) (rI0 fun i j=>.int (i - j)):=opI0 fun _ _ _ _ _ _ _ q=>sub_int q
theorem op_mul:OpR X (binaryOp .Mult) (rI CMul fun i j=>.int (i*j)):=opI fun _ _ _ _ _ _ _ hc q=>mul_int q hc.ok
theorem op_fdiv:OpR X (binaryOp .FloorDiv) (rI CDiv fun i j=>.int (i / j)):=opI fun i j _ _ _ _ _ hc q=>by
  have h1:(0:Int) < j:=hc.1
  have h2:j < 1073741824:=hc.2
  exact floordiv_int (by omega) (by rw [Int.fdiv_eq_ediv_of_nonneg i (by omega)]; exact q) (.inl (PyProof.noPylong_small (by omega)))
theorem op_mod:OpR X (binaryOp .Mod) (rI (fun _ j=>0 < j) fun i j=>.int (i % j)):=opI fun i j _ _ _ _ _ hc q=>by
  have h1:(0:Int) < j:=hc
  exact mod_int' (by omega) (by rw [Int.fmod_eq_emod_of_nonneg i (by omega)]; exact q)
theorem op_pow:OpR X (binaryOp .Pow) (rI CPow fun i j=>.int (i ^ j.toNat)):=opI fun _ _ _ _ _ _ _ hc q=>pow_int_small hc.1 hc.2.1 hc.2.2 q
end
def scal:V→V→Bool
  | .non,.non=>true | .non,.int _=>true | .int _,.non=>true | .non,.bl _=>true | .bl _,.non=>true | .non,.str _=>true | .str _,.non=>true
  | .int _,.int _=>true | .bl _,.bl _=>true | .str _,.str _=>true | .byt _,.byt _=>true
  | .int _,.str _=>true | .str _,.int _=>true | .bl _,.str _=>true | .str _,.bl _=>true
  | _,_=>false
def rEq:R2:=fun x y H Q=>scal x y=true∧Q (.bl (decide (x=y))) H
def rNe:R2:=fun x y H Q=>scal x y=true∧Q (.bl (!decide (x=y))) H
theorem dec_int {i j:Int}:decide (V.int i=V.int j)=(i == j):=by
  rw [Bool.eq_iff_iff]
  simp
theorem dec_bl {i j:Bool}:decide (V.bl i=V.bl j)=(i == j):=by
  rw [Bool.eq_iff_iff]
  simp
theorem dec_str {i j:Str}:decide (V.str i=V.str j)=(i == j):=by
  rw [Bool.eq_iff_iff]
  simp
theorem dec_byt {i j:Array UInt8}:decide (V.byt i=V.byt j)=(i.toList == j.toList):=by
  rw [Bool.eq_iff_iff]
  cases i
  cases j
  simp
section
variable {X:Cx} {a b c:Expr} {ta tb tc:TE} {pos:Pos}
theorem fin_bl {pins:List (Addr × Obj)} {σ:St} {H:Hp} {s:Shared} {Q:VK} {k k':Bool} (I:Inv X pins σ H s) (q:Q (.bl k) H) (e:k=k'):EP X pins σ Q (.bool k') s:=by
  subst e
  exact ⟨.bl k,H,I,rfl,q⟩
theorem op_eq:OpR X (compareOp .Eq) rEq:=by
  intro pins s σ H x y v u Q I rx ry h
  obtain ⟨hs,q⟩:=h
  cases x with
  | non =>
    cases rx
    cases y with
    | non=>cases ry; exact PySem.EqNone.eq_none_none (fin_bl I q (by simp))
    | bl j=>cases ry; exact PySem.EqNone.eq_none_bool (fin_bl I q (by simp))
    | int j=>obtain ⟨t',rfl⟩:=ry; exact PySem.EqNone.eq_none_int (fin_bl I q (by simp))
    | str j=>obtain ⟨t',rfl⟩:=ry; exact PySem.EqNone.eq_none_str (fin_bl I q (by simp))
    | _=>exact absurd (show false=true from hs) Bool.false_ne_true
  | bl i =>
    cases rx
    cases y with
    | non=>cases ry; exact PySem.EqNone.eq_bool_none (fin_bl I q (by simp))
    | bl j=>cases ry; exact eq_bool (fin_bl I q dec_bl)
    | str j=>obtain ⟨t',rfl⟩:=ry; exact PySem.EqMixed.eq_bool_str (fin_bl I q (by simp))
    | _=>exact absurd (show false=true from hs) Bool.false_ne_true
  | int i =>
    obtain ⟨t,rfl⟩:=rx
    cases y with
    | non=>cases ry; exact PySem.EqNone.eq_int_none (fin_bl I q (by simp))
    | int j=>obtain ⟨t',rfl⟩:=ry; exact eq_int (fin_bl I q dec_int)
    | str j=>obtain ⟨t',rfl⟩:=ry; exact PySem.EqMixed.eq_int_str (fin_bl I q (by simp))
    | _=>exact absurd (show false=true from hs) Bool.false_ne_true
  | str i =>
    obtain ⟨t,rfl⟩:=rx
    cases y with
    | non=>cases ry; exact PySem.EqNone.eq_str_none (fin_bl I q (by simp))
    | bl j=>cases ry; exact PySem.EqMixed.eq_str_bool (fin_bl I q (by simp))
    | int j=>obtain ⟨t',rfl⟩:=ry; exact PySem.EqMixed.eq_str_int (fin_bl I q (by simp))
    | str j=>obtain ⟨t',rfl⟩:=ry; exact eq_str (fin_bl I q dec_str)
    | _=>exact absurd (show false=true from hs) Bool.false_ne_true
  | byt i =>
    obtain ⟨t,rfl⟩:=rx
    cases y with
    | byt j=>obtain ⟨t',rfl⟩:=ry; exact PySem.W.eq_bytes (fin_bl I q dec_byt)
    | _=>exact absurd (show false=true from hs) Bool.false_ne_true
  | _=>cases y <;> exact absurd (show false=true from hs) Bool.false_ne_true
theorem op_ne:OpR X (compareOp .NotEq) rNe:=by
  intro pins s σ H x y v u Q I rx ry h
  obtain ⟨hs,q⟩:=h
  cases x with
  | non =>
    cases rx
    cases y with
    | non=>cases ry; exact PySem.EqNone.ne_none_none (fin_bl I q (by simp))
    | bl j=>cases ry; exact PySem.EqNone.ne_none_bool (fin_bl I q (by simp))
    | int j=>obtain ⟨t',rfl⟩:=ry; exact PySem.EqNone.ne_none_int (fin_bl I q (by simp))
    | str j=>obtain ⟨t',rfl⟩:=ry; exact PySem.EqNone.ne_none_str (fin_bl I q (by simp))
    | _=>exact absurd (show false=true from hs) Bool.false_ne_true
  | bl i =>
    cases rx
    cases y with
    | non=>cases ry; exact PySem.EqNone.ne_bool_none (fin_bl I q (by simp))
    | bl j=>cases ry; exact ne_bool (fin_bl I q (congrArg not dec_bl))
    | str j=>obtain ⟨t',rfl⟩:=ry; exact PySem.EqMixed.ne_bool_str (fin_bl I q (by simp))
    | _=>exact absurd (show false=true from hs) Bool.false_ne_true
  | int i =>
    obtain ⟨t,rfl⟩:=rx
    cases y with
    | non=>cases ry; exact PySem.EqNone.ne_int_none (fin_bl I q (by simp))
    | int j=>obtain ⟨t',rfl⟩:=ry; exact ne_int (fin_bl I q (congrArg not dec_int))
    | str j=>obtain ⟨t',rfl⟩:=ry; exact PySem.EqMixed.ne_int_str (fin_bl I q (by simp))
    | _=>exact absurd (show false=true from hs) Bool.false_ne_true
  | str i =>
    obtain ⟨t,rfl⟩:=rx
    cases y with
    | non=>cases ry; exact PySem.EqNone.ne_str_none (fin_bl I q (by simp))
    | bl j=>cases ry; exact PySem.EqMixed.ne_str_bool (fin_bl I q (by simp))
    | int j=>obtain ⟨t',rfl⟩:=ry; exact PySem.EqMixed.ne_str_int (fin_bl I q (by simp))
    | str j=>obtain ⟨t',rfl⟩:=ry; exact ne_str (fin_bl I q (congrArg not dec_str))
    | _=>exact absurd (show false=true from hs) Bool.false_ne_true
  | byt i =>
    obtain ⟨t,rfl⟩:=rx
    cases y with
    | byt j=>obtain ⟨t',rfl⟩:=ry; exact PySem.W.ne_bytes (fin_bl I q (congrArg not dec_byt))
    | _=>exact absurd (show false=true from hs) Bool.false_ne_true
  | _=>cases y <;> exact absurd (show false=true from hs) Bool.false_ne_true
theorem op_lt:OpR X (compareOp .Lt) (rI0 fun i j=>.bl (decide (i < j))):=opB0 fun _ _ _ _ _ _ _ q=>lt_int q
theorem op_le:OpR X (compareOp .LtE) (rI0 fun i j=>.bl (decide (i≤j))):=opB0 fun _ _ _ _ _ _ _ q=>le_int q
theorem op_gt:OpR X (compareOp .Gt) (rI0 fun i j=>.bl (decide (j < i))):=opB0 fun _ _ _ _ _ _ _ q=>gt_int q
theorem op_ge:OpR X (compareOp .GtE) (rI0 fun i j=>.bl (decide (j≤i))):=opB0 fun _ _ _ _ _ _ _ q=>ge_int q
theorem op_in_str:OpR X (compareOp .In) (fun x y H Q=>∃ i j,x=.str i∧y=.str j∧Q (.bl (!(Builtin.Str.occurrences j i 0 j.length 1).isEmpty)) H):=by
  intro pins s σ H x y v u Q I rx ry h
  obtain ⟨i,j,rfl,rfl,q⟩:=h
  obtain ⟨t,rfl⟩:=rx
  obtain ⟨t',rfl⟩:=ry
  exact in_str (fin_bl I q rfl)
def isObj:HO→Bool
  | .lst _=>true
  | .ins _ _ _=>true
  | _=>false
theorem OpR.or {f:Value→Value→Sem Value} {r r':R2} (h:OpR X f r) (h':OpR X f r'):OpR X f (fun x y H Q=>r x y H Q∨r' x y H Q):=by
  intro pins s σ H x y v u Q I rx ry q
  rcases q with q | q
  · exact h pins s σ H x y v u Q I rx ry q
  · exact h' pins s σ H x y v u Q I rx ry q
theorem nomark (b:Expr) {op:CmpOp} (h:op ≠ .In:=by decide) (h2:op ≠ .NotIn:=by decide):behindInMarks op b=false:=by
  have e1:(op == CmpOp.In)=false:=by cases op <;> first | rfl | exact absurd rfl h
  have e2:(op == CmpOp.NotIn)=false:=by cases op <;> first | rfl | exact absurd rfl h2
  cases b <;> simp [behindInMarks,e1,e2]
theorem pe_cmpR {op:CmpOp} {r:R2} (ho:OpR X (compareOp op) r) (ha:PE X a ta) (hb:PE X b tb) (hm:behindInMarks op b=false):PE X (.Compare a [op] [b] pos) (tOp r ta tb):=by
  intro pins s σ H Q I h
  exact wpAny_Compare1 (binT ha hb I h fun v u s2 x y H2 I2 rx ry q=>ho pins s2 σ H2 x y v u Q I2 rx ry q) hm
def tTest (t:TE):TT:=fun σ H Q=>t σ H fun x H'=>∃ k,x=.bl k∧Q k H'
theorem pt_cmpR {op:CmpOp} {r:R2} (ho:OpR X (compareOp op) r) (ha:PE X a ta) (hb:PE X b tb) (hm:behindInMarks op b=false):PT X (.Compare a [op] [b] pos) (tTest (tOp r ta tb)):=by
  intro pins s σ H Q I h
  refine wpAny_isTrue_Compare1 (thn (ha pins s σ H _ I h) fun v s1 ⟨x,H1,I1,r1,q1⟩=>thn (hb pins s1 σ H1 _ I1 q1) fun u s2 ⟨y,H2,I2,r2,q2⟩ =>
    thn (ho pins s2 σ H2 x y v u _ I2 r1 r2 q2) fun c s3 ⟨z,H3,I3,r3,k,e,q3⟩=>?_) hm
  subst e
  cases r3
  exact wpAny_truthy_bool ⟨H3,I3,q3⟩
def tChain (r r':R2) (ta tb tc:TE):TE:=fun σ H Q=>ta σ H fun x H1=>tb σ H1 fun y H2=>r x y H2 fun z H3=>∃ k,z=.bl k ∧
  (if k=true then tc σ H3 fun w' H4=>r' y w' H4 Q else Q (.bl false) H3)
theorem pe_chain {op op':CmpOp} {r r':R2} (ho:OpR X (compareOp op) r) (ho':OpR X (compareOp op') r') (ha:PE X a ta) (hb:PE X b tb) (hc:PE X c tc)
    (hm:lastMarks [op,op'] [b,c]=false:=by with_unfolding_all rfl):PE X (.Compare a [op,op'] [b,c] pos) (tChain r r' ta tb tc):=by
  intro pins s σ H Q I h
  refine Compare_chain (thn (ha pins s σ H _ I h) fun v s1 ⟨x,H1,I1,r1,q1⟩=>chain_link (thn (hb pins s1 σ H1 _ I1 q1) fun u s2 ⟨y,H2,I2,r2,q2⟩ =>
    thn (ho pins s2 σ H2 x y v u _ I2 r1 r2 q2) fun d s3 ⟨z,H3,I3,r3,k,e,q3⟩=>?_)) hm
  subst e
  cases r3
  refine wpAny_truthy_bool ?_
  cases k with
  | false=>exact ite_ff ⟨.bl false,H3,I3,rfl,q3⟩
  | true=>exact ite_tt (chain_last (thn (hc pins s3 σ H3 _ I3 q3) fun w' s4 ⟨z',H4,I4,r4,q4⟩=>ho' pins s4 σ H4 y z' u w' Q I4 r2 r4 q4))
def TruV (K:PySem.W.Frag) (x:V) (H:Hp) (k:Bool):Prop :=
  match x with
  | .non=>k=false
  | .bl b=>k=b
  | .int i=>k=(i != 0)
  | .str y=>y.length≤sizeLine∧k=((y.length:Int) != 0)
  | .byt y=>y.size≤sizeLine∧k=((y.size:Int) != 0)
  | .ref p=>(∃ xs,SqL K H p xs∧k=!xs.isEmpty)∨(∃ xs,SqT K H p xs∧k=!xs.isEmpty)∨∃ kvs,H p=some (.dK kvs)∧k=!kvs.isEmpty
  | _=>False
theorem line63:(sizeLine:Nat) < 2 ^ 63:=by rw [sizeLine_eq]; decide
theorem op_add_str:OpR X (binaryOp .Add) (fun x y H Q=>∃ i j,x=.str i∧y=.str j∧i.length+j.length≤sizeLine∧Q (.str (i++j)) H):=by
  intro pins s σ H x y v u Q I rx ry h
  obtain ⟨i,j,rfl,rfl,hz,q⟩:=h
  obtain ⟨t,rfl⟩:=rx
  obtain ⟨t',rfl⟩:=ry
  exact add_str (fun t' tk=>⟨.str (i++j),H,I.tok _,⟨_,rfl⟩,q⟩) hz
def PlainIxT (b:Expr):Prop:=∀ o i,subscripted b false o i=operate [o,i] (getItem o i)
theorem vals1 {x:V} {us:List Value} (r:Vals [x] us):∃ u,us=[u]∧RelV x u:=by
  cases r with
  | cons r1 r2=>cases r2; exact ⟨_,rfl,r1⟩
theorem vals2 {x y:V} {us:List Value} (r:Vals [x,y] us):∃ u w',us=[u,w']∧RelV x u∧RelV y w':=by
  cases r with
  | cons r1 r2 =>
    cases r2 with
    | cons r3 r4=>cases r4; exact ⟨_,_,rfl,r1,r3⟩
theorem call_max2 (hc:X.calm=true):CallR X (.builtin "max") (fun xs H Q=>∃ i j,xs=[.int i,.int j]∧Q (.int (if j > i then j else i)) H):=by
  intro pins s σ H xs us Q I r h
  obtain ⟨i,j,rfl,q⟩:=h
  obtain ⟨u,w',rfl,⟨t,rfl⟩,⟨t',rfl⟩⟩:=vals2 r
  refine max_two_ints (I.ok.hd hc) fun h' tk k=>⟨_,H,I.kept k,?_,q⟩
  by_cases hj:j > i
  · rw [if_pos hj,if_pos hj]; exact ⟨_,rfl⟩
  · rw [if_neg hj,if_neg hj]; exact ⟨_,rfl⟩
theorem call_int1:CallR X (.type "int") (fun xs H Q=>(∃ i,xs=[.int i]∧Q (.int i) H)∨∃ k,xs=[.bl k]∧Q (.int (if k then 1 else 0)) H):=by
  intro pins s σ H xs us Q I r h
  rcases h with ⟨i,rfl,q⟩ | ⟨k,rfl,q⟩
  · obtain ⟨u,rfl,t,rfl⟩:=vals1 r
    exact call_int_int ⟨.int i,H,I,⟨_,rfl⟩,q⟩
  · obtain ⟨u,rfl,r1⟩:=vals1 r
    cases r1
    exact call_int_bool ⟨.int (if k then 1 else 0),H,I.tok _,⟨_,rfl⟩,q⟩
theorem call_str_int:CallR X (.type "str") (fun xs H Q=>∃ i,xs=[.int i]∧i.natAbs.log2 < 1920∧Q (.str (toString i)) H):=by
  intro pins s σ H xs us Q I r h
  obtain ⟨i,rfl,hz,q⟩:=h
  obtain ⟨u,rfl,t,rfl⟩:=vals1 r
  exact PySem.P.str_of_int hz ⟨.str _,H,I.tok _,⟨_,rfl⟩,q⟩
def LenV (K:PySem.W.Frag) (x:V) (H:Hp) (n:Nat):Prop :=
  match x with
  | .str y=>y.length≤sizeLine∧n=y.length
  | .byt y=>y.size≤sizeLine∧n=y.size
  | .ref p=>(∃ xs,SqL K H p xs∧n=xs.length)∨∃ xs,SqT K H p xs∧n=xs.length
  | _=>False
end
end L2
namespace L2
open PySem PySem.Spec PyProof.Rows
structure ObjM (h:Heap) (x dx C:Addr) (mA:Str→Option Value):Prop where
  obj:h.get? x=some (PySem.W.instObj C dx)
  ns:h.Ns1 dx mA
  ne:dx ≠ x
theorem lookIn_ns {h:Heap} {dx:Addr} {mA:Str→Option Value} (n:h.Ns1 dx mA):∃ od,h.get? dx=some od∧∀ name,PySem.W.lookIn name od=some (mA name):=by
  obtain ⟨o,es,ep,ho,hd,hk,_,hm⟩:=n
  refine ⟨o,ho,fun name=>?_⟩
  have e:=hm name
  unfold nsFind findBy at e
  rw [← Array.find?_toList] at e
  unfold PySem.W.lookIn
  rw [hd]
  dsimp only
  split
  · rename_i y q
    rw [q] at e
    exact congrArg some e
  · rename_i q
    rw [q] at e
    have a:es.toList.any (·.refKey)=false:=by
      rw [List.any_eq_false]
      intro y hy
      obtain ⟨z,t,hkey⟩:=hk y (Array.mem_toList_iff.mp hy)
      simp [DictEntry.refKey,hkey]
    have a':¬ es.toList.any (·.refKey)=true:=by rw [a]; exact Bool.false_ne_true
    rw [if_neg a']
    exact congrArg some e
theorem ObjM.look {h:Heap} {x dx C:Addr} {mA:Str→Option Value} (I:ObjM h x dx C mA):∃ od,PySem.W.InstAt h x (PySem.W.instObj C dx) C (some od)∧∀ name,PySem.W.lookIn name od=some (mA name) :=
  let ⟨od,ho,hl⟩:=lookIn_ns I.ns
  ⟨od,⟨I.obj,rfl,rfl,ho⟩,hl⟩
section
variable {prog:Program} {w:World} {A:Around} {E:Value→Shared→Prop} {s:Shared} {K:PySem.W.Frag} {x dx C f:Addr} {mA:Str→Option Value} {name:Str} {v:Value}
theorem get_map {expr:Bool} {Q:Value→Shared→Prop} (X:K.In s.heap) (I:ObjM s.heap x dx C mA) (hg:PySem.W.plainGet K C name=true) (hh:PySem.W.hasDictIn K C=true)
    (ha:PySem.W.findIn K (.ref C) name=some none) (hv:mA name=some v) (hv':PySem.W.handedIn v=true) (h:Q v { s with toks:=s.toks+1 }) :
    wpAny (model prog w) A (getAttr (.ref x) name expr) Q E s:=by
  obtain ⟨od,J,hl⟩:=I.look
  exact PySem.W.get_value X J (PySem.W.plainGet_of hg).1 (PySem.W.findObj_own hh ha rfl (by rw [hl,hv])) hv' h
theorem get_meth {pl:Sem Bool} {Q:Value × List Value→Shared→Prop} (X:K.In s.heap) (I:ObjM s.heap x dx C mA) (hg:PySem.W.plainGet K C name=true)
    (hf:PySem.W.findIn K (.ref C) name=some (some (.ref f))) (ht:PySem.W.isFn K (.ref f)=true) (hv:mA name=none) (h:Q (.ref f,[.ref x]) s) :
    wpAny (model prog w) A (getMethod (.ref x) name pl) Q E s:=by
  obtain ⟨od,J,hl⟩:=I.look
  exact PySem.W.method_fn X J (PySem.W.plainGet_of hg).1 (PySem.W.plainGet_of hg).2 hf (beq_iff_eq.mp ht) (by show (PySem.W.lookIn name od).map (·.isSome)=some false; rw [hl,hv]; rfl) h
theorem set_map {ns:List Str} {Q:Unit→Shared→Prop} (X:K.In s.heap) (I:ObjM s.heap x dx C mA)
    (hs:PySem.W.findIn K (.ref C) "__setattr__" = some (some (.builtin "object.__setattr__"))) (hp:PySem.W.plainOver K C=true) (ht:PySem.W.takerIn K C name=some none) (hh:PySem.W.hasDictIn K C=true)
    (hw:PySem.Within mA ns) (hsz:ns.length≤sizeLine)
    (h:∀ h',ObjM h' x dx C (fun y=>if y=name then some v else mA y)→Heap.SameBut dx s.heap h'→Q () { s with heap:=h',toks:=s.toks+2 }) :
    wpAny (model prog w) A (setAttr (.ref x) name v) Q E s:=by
  obtain ⟨od,J,hl⟩:=I.look
  refine PySem.W.set_plain X J hs (PySem.W.osa_open (s:={ s with toks:=s.toks+1 }) (r:=none) X J hp ht fun b=>?_)
  obtain ⟨cd,hc,hd'⟩:=PySem.W.any_some hh
  have hx:s.heap.get? x=some ⟨.ref C,some dx,.plain,#[]⟩:=I.obj
  refine wpAny_bind (wpAny_pure (wpAny_bind (wpAny_bind (wpAny_loadPart hx (wpAny_bind (PySem.W.Looks.here (s:={ s with toks:=s.toks+1 }) (PySem.W.looks_clsIn X hc) ?_))))))
  rw [hd']
  refine wpAny_pure (a:=some dx) (wpAny_bind (wpAny_pure (wpAny_bind ?_)))
  refine wpAny_nsSet1 (s:={ s with toks:=s.toks+1 }) I.ns fun h' hn2 hs2=>?_
  obtain ⟨oD,esD,epD,hoD,hdD,hcD⟩:=hn2.count (PySem.Within.cons name v hw)
  refine wpAny_bind (wpAny_lookBehind hoD (by rw [hdD]; exact pastItsLine_dict (Nat.le_trans hcD (by rw [List.length_cons]; omega))) ?_)
  exact wpAny_pure (h _ ⟨(hs2.2 _ (Ne.symm I.ne)).trans I.obj,hn2,I.ne⟩ hs2)
theorem make_map {R:Result→Shared→Prop} {vs:List Value} {kw:List (Str × Value)} (X:K.In s.heap) (hm:PySem.W.makesIn K C=true)
    (hi:PySem.W.findIn K (.ref C) "__init__" = some (some (.ref f))) (hf:PySem.W.typeIn K (.ref f)=some (.type "function"))
    (h:codeAny (model prog w) (A.under (.builtin "type.__call__" ⟨.ref C::vs,kw⟩)) (.call (.ref f) ⟨.ref (s.heap.objs.size+1)::vs,kw⟩) (PySem.W.InitBack (s.heap.objs.size+1) R)
      { s with heap:=(s.heap.push PySem.W.emptyDict).push (PySem.W.instObj C s.heap.objs.size) }) :
    codeAny (model prog w) A (.call (.ref C) ⟨vs,kw⟩) R s:=by
  obtain ⟨hh,g,d,t,os⟩:=s
  exact PySem.W.make_core (PySem.W.makes_of X hm) (PySem.W.looks_findIn X hi) (fun self=>PySem.W.bind_fn X self hf) (.inl rfl) h
end
def putF (f:Str) (v:V):List (Str × V)→List (Str × V)
  | []=>[(f,v)]
  | (g,x)::r=>if g=f then (g,v)::r else (g,x)::putF f v r
theorem lookup_putF (f g:Str) (v:V):∀ fs:List (Str × V),(putF f v fs).lookup g=if g=f then some v else fs.lookup g
  | []=>by
    show List.lookup g [(f,v)]=_
    by_cases h:g=f
    · have hb:(g == f)=true:=beq_iff_eq.mpr h
      simp only [List.lookup,hb,if_pos h]
    · have hb:(g == f)=false:=beq_eq_false_iff_ne.mpr h
      simp only [List.lookup,hb,if_neg h]
  | (k,x)::r=>by
    have ih:=lookup_putF f g v r
    rw [show putF f v ((k,x)::r)=(if k=f then (k,v)::r else (k,x)::putF f v r) from rfl]
    by_cases hk:k=f
    · rw [if_pos hk]
      by_cases h:g=k
      · have hb:(g == k)=true:=beq_iff_eq.mpr h
        simp only [List.lookup,hb,if_pos (h.trans hk)]
      · have hb:(g == k)=false:=beq_eq_false_iff_ne.mpr h
        simp only [List.lookup,hb,if_neg (fun e:g=f=>h (e.trans hk.symm))]
    · rw [if_neg hk]
      by_cases h:g=k
      · have hb:(g == k)=true:=beq_iff_eq.mpr h
        simp only [List.lookup,hb,if_neg (fun e:g=f=>hk (h.symm.trans e))]
      · have hb:(g == k)=false:=beq_eq_false_iff_ne.mpr h
        simp only [List.lookup,hb]
        exact ih
theorem keys_putF (f:Str) (v:V):∀ fs:List (Str × V),f ∈ (putF f v fs).map (·.1)∧∀ g,g ∈ fs.map (·.1)→g ∈ (putF f v fs).map (·.1)
  | []=>⟨by simp [putF],fun g h=>by simp at h⟩
  | (k,x)::r=>by
    obtain ⟨i1,i2⟩:=keys_putF f v r
    rw [show putF f v ((k,x)::r)=(if k=f then (k,v)::r else (k,x)::putF f v r) from rfl]
    by_cases hk:k=f
    · rw [if_pos hk]
      subst hk
      exact ⟨by simp,fun g h=>by simpa using h⟩
    · rw [if_neg hk]
      refine ⟨?_,fun g h=>?_⟩
      · rw [List.map_cons]
        exact List.mem_cons_of_mem _ i1
      · rw [List.map_cons] at h ⊢
        rcases List.mem_cons.mp h with e | e
        · exact List.mem_cons.mpr (.inl e)
        · exact List.mem_cons_of_mem _ (i2 g e)
theorem length_putF (f:Str) (v:V):∀ fs:List (Str × V),(putF f v fs).length≤fs.length+1
  | []=>by simp [putF]
  | (k,x)::r=>by
    have ih:=length_putF f v r
    rw [show putF f v ((k,x)::r)=(if k=f then (k,v)::r else (k,x)::putF f v r) from rfl]
    by_cases hk:k=f
    · rw [if_pos hk,List.length_cons,List.length_cons]; omega
    · rw [if_neg hk,List.length_cons,List.length_cons]; omega
theorem RelO.some_of {v:V} {o:Option Value} (r:RelO (some v) o):∃ u,o=some u∧RelV v u:=by
  cases o with
  | none=>exact (show False from r).elim
  | some u=>exact ⟨u,rfl,r⟩
theorem RelO.none_of {o:Option Value} (r:RelO none o):o=none:=by
  cases o with
  | none=>rfl
  | some u=>exact (show False from r).elim
theorem handed_of {v:V} {u:Value} (r:RelV v u):PySem.W.handedIn u=true:=by
  cases v with
  | non=>cases (show u=Value.none from r); rfl
  | bl b=>cases (show u=Value.bool b from r); rfl
  | int i=>obtain ⟨t,e⟩:=(show ∃ t,u=Value.int i t from r); cases e; rfl
  | str x=>obtain ⟨t,e⟩:=(show ∃ t,u=Value.str x t from r); cases e; rfl
  | byt b=>obtain ⟨t,e⟩:=(show ∃ t,u=Value.bytes b t from r); cases e; rfl
  | flt b=>obtain ⟨t,e⟩:=(show ∃ t,u=Value.float b t from r); cases e; rfl
  | ref a=>cases (show u=Value.ref a from r); rfl
  | ty n=>cases (show u=Value.type n from r); rfl
section
variable {P:Program} {w:World} {H H':Hp} {h h':Heap} {a C dx:Addr} {fs fs':List (Str × V)}
theorem ins_get (hok:HOk P w H h) (e:H a=some (.ins C dx fs)):∃ mA,ObjM h a dx C mA∧(∀ f,RelO (fs.lookup f) (mA f))∧PySem.Within mA (fs.map (·.1))∧fs.length≤1000∧H dx=some (.own a):=by
  obtain ⟨d,z,ne,ob,mA,n,r,q⟩:=(show ObjOk P w H h a (.ins C dx fs) from hok a _ e)
  exact ⟨mA,⟨ob,n,ne⟩,r,q,z,d⟩
end
structure Cls (K:PySem.W.Frag) (C:Addr):Prop where
  pg:PySem.W.plainGet K C Str.empty=true
  hd:PySem.W.hasDictIn K C=true
  po:PySem.W.plainOver K C=true
  sa:PySem.W.findIn K (.ref C) "__setattr__" = some (some (.builtin "object.__setattr__"))
theorem Cls.get {K:PySem.W.Frag} {C:Addr} (c:Cls K C) (f:Str):PySem.W.plainGet K C f=true:=c.pg
def NoAttr (K:PySem.W.Frag) (C:Addr) (f:Str):Prop:=PySem.W.findIn K (.ref C) f=some none
theorem NoAttr.taker {K:PySem.W.Frag} {C:Addr} {f:Str} (n:NoAttr K C f):PySem.W.takerIn K C f=some none:=by
  unfold PySem.W.takerIn
  rw [show PySem.W.findIn K (.ref C) f=some none from n]
  rfl
structure Con (K:PySem.W.Frag) (C:Addr) (f:Str) (v:V) (u:Value):Prop where
  at_:PySem.W.findIn K (.ref C) f=some (some u)
  rel:RelV v u
  get:PySem.W.specialIn K u "__get__" = some none
  cp:PySem.W.copiedNames.contains f=false
structure Meth (K:PySem.W.Frag) (C:Addr) (m:Str) (f:Addr):Prop where
  at_:PySem.W.findIn K (.ref C) m=some (some (.ref f))
  fn:PySem.W.isFn K (.ref f)=true
  kp:PySem.W.keepIn K (.ref f)=true
section
variable {X:Cx} {pins:List (Addr × Obj)} {σ:St} {H:Hp} {s:Shared} {a C dx:Addr} {fs:List (Str × V)} {f:Str} {v:V} {A:Around} {E:Value→Shared→Prop}
theorem getattr_ok {b:Bool} {Q:Value→Shared→Prop} (I:Inv X pins σ H s) (e:H a=some (.ins C dx fs)) (c:Cls X.K C) (n:NoAttr X.K C f) (l:fs.lookup f=some v)
    (h:∀ u s',Inv X pins σ H s'→RelV v u→Q u s'):wpAny (model X.prog X.w) A (getAttr (.ref a) f b) Q E s:=by
  obtain ⟨mA,O,r,_,_,_⟩:=ins_get I.hok e
  obtain ⟨u,hu,ru⟩:=RelO.some_of (v:=v) (o:=mA f) (by rw [← l]; exact r f)
  exact get_map I.kIn O (c.get f) c.hd n hu (handed_of ru) (h u _ (I.tok _) ru)
theorem getmeth_ok {m:Str} {g:Addr} {pl:Sem Bool} {Q:Value × List Value→Shared→Prop} (I:Inv X pins σ H s) (e:H a=some (.ins C dx fs)) (c:Cls X.K C) (k:Meth X.K C m g) (l:fs.lookup m=none)
    (h:Q (.ref g,[.ref a]) s):wpAny (model X.prog X.w) A (getMethod (.ref a) m pl) Q E s:=by
  obtain ⟨mA,O,r,_,_,_⟩:=ins_get I.hok e
  have hn:mA m=none:=RelO.none_of (by rw [← l]; exact r m)
  exact get_meth I.kIn O (c.get m) k.at_ k.fn hn h
theorem setattr_ok {y:V} {u:Value} {Q:Unit→Shared→Prop} (I:Inv X pins σ H s) (e:H a=some (.ins C dx fs)) (c:Cls X.K C) (n:NoAttr X.K C f) (hl:fs.length < 1000) (ry:RelV y u)
    (h:∀ s',Inv X pins σ (upd H a (.ins C dx (putF f y fs))) s'→Q () s'):wpAny (model X.prog X.w) A (setAttr (.ref a) f u) Q E s:=by
  obtain ⟨mA,O,r,wi,_,ho⟩:=ins_get I.hok e
  have hz:(fs.map (·.1)).length≤sizeLine:=by rw [List.length_map,sizeLine_eq]; omega
  refine set_map I.kIn O c.sa c.po n.taker c.hd wi hz fun h' O' sb=>h _ ?_
  have hd:∃ o,h'.get? dx=some o:=let ⟨o,_,_,e',_⟩:=O'.ns; ⟨o,e'⟩
  refine I.write (x:=a) (e:=dx) (by rw [e]; exact True.intro) (.inr ho) (fun b q hb z=>(sb.2 b hb).trans z) hd ?_
  refine ⟨by rw [upd_ne O.ne]; exact ho,?_,O.ne,O'.obj,_,O'.ns,fun g=>?_,fun g hg=>?_⟩
  · have:=length_putF f y fs; omega
  · show RelO ((putF f y fs).lookup g) (if g=f then some u else mA g)
    rw [lookup_putF]
    by_cases q:g=f
    · rw [if_pos q,if_pos q]; exact ry
    · rw [if_neg q,if_neg q]; exact r g
  · by_cases q:g=f
    · rw [q]; exact (keys_putF f y fs).1
    · refine (keys_putF f y fs).2 g (wi g fun z=>hg ?_)
      show (if g=f then some u else mA g)=none
      rw [if_neg q]; exact z
theorem Inv.made (I:Inv X pins σ H s):Inv X pins σ (upd (upd H s.heap.objs.size (.own (s.heap.objs.size+1))) (s.heap.objs.size+1) (.ins C s.heap.objs.size []))
    { s with heap:=(s.heap.push PySem.W.emptyDict).push (PySem.W.instObj C s.heap.objs.size) }:=by
  have e1:(s.heap.push PySem.W.emptyDict).get? s.heap.objs.size=some PySem.W.emptyDict:=Heap.get?_push_size s.heap rfl
  have e2:((s.heap.push PySem.W.emptyDict).push (PySem.W.instObj C s.heap.objs.size)).get? (s.heap.objs.size+1)=some (PySem.W.instObj C s.heap.objs.size):=by
    have:=Heap.get?_push_size (s.heap.push PySem.W.emptyDict) (o:=PySem.W.instObj C s.heap.objs.size) rfl
    rwa [Heap.size_push] at this
  have e3:(s.heap.push PySem.W.emptyDict).Ns s.heap.objs.size (fun _=>none):=⟨PySem.W.emptyDict,#[],_,e1,rfl,(fun e he=>absurd he (by simp)),fun _=>rfl⟩
  have I1:=I.laid (a:=s.heap.objs.size) (o:=.own (s.heap.objs.size+1)) (h':=s.heap.push PySem.W.emptyDict) (t':=s.toks) (fun b u q=>Heap.get?_push_of_some _ q) (Nat.le_refl _) ⟨_,e1⟩
  refine I1.laid (a:=s.heap.objs.size+1) (o:=.ins C s.heap.objs.size []) (t':=s.toks) (fun b u q=>Heap.get?_push_of_some _ q) (Nat.le_of_eq (Heap.size_push _ _)) ?_
  have ne:s.heap.objs.size ≠ s.heap.objs.size+1:=Nat.ne_of_lt (Nat.lt_succ_self _)
  refine ⟨by rw [upd_ne ne,upd_same],Nat.zero_le _,ne,e2,fun _=>none,(Heap.Ns1.of_empty e3).at fun o q=>Heap.get?_push_of_some _ q,fun _=>True.intro,fun y hy=>absurd rfl hy⟩
theorem attr_of {prog:Program} {w:World} {env:Env} {e:Expr} {f:Str} {pos:Pos} {s:Shared} {Q:Value→Shared→Prop} (hb:attributeBase e f env (eval e env)=eval e env)
    (h:wpAny (model prog w) A (eval e env) (fun o s₁=>wpAny (model prog w) A (getAttr o f true) Q E s₁) E s):wpAny (model prog w) A (eval (.Attribute e f pos) env) Q E s :=
  Attribute_any_ h (by rw [arm_eval_Attribute,hb])
end
def tFld (K:PySem.W.Frag) (ta:TE) (f:Str):TE:=fun σ H Q=>ta σ H fun x H1=>∃ a C dx fs v,x=.ref a∧H1 a=some (.ins C dx fs)∧Cls K C∧NoAttr K C f∧fs.lookup f=some v∧Q v H1
def tCon (K:PySem.W.Frag) (ta:TE) (f:Str):TE:=fun σ H Q=>ta σ H fun x H1=>∃ a C dx fs v u,x=.ref a∧H1 a=some (.ins C dx fs)∧Cls K C∧Con K C f v u∧fs.lookup f=none∧Q v H1
def sFld (K:PySem.W.Frag) (ta tv:TE) (f:Str):TS:=fun D σ H=>tv σ H fun y H1=>ta σ H1 fun x H2=>∃ a C dx fs,x=.ref a∧H2 a=some (.ins C dx fs)∧Cls K C∧NoAttr K C f∧fs.length < 1000 ∧
  D.nx σ (upd H2 a (.ins C dx (putF f y fs)))
def InOp (X:Cx) (op:Operator) (rd:V→V→Hp→VK→Prop):Prop :=
  ∀ (pins:List (Addr × Obj)) (s:Shared) (σ:St) (H:Hp) (x y:V) (u v:Value) (Q:VK),Inv X pins σ H s→RelV x u→RelV y v→rd x y H Q→wpAny (model X.prog X.w) X.A (inplaceOp op u v) (EP X pins σ Q) X.xe s
def sFldAug (K:PySem.W.Frag) (ta tv:TE) (rd:V→V→Hp→VK→Prop) (f:Str):TS:=fun D σ H=>ta σ H fun x H1=>∃ a C dx fs v,x=.ref a∧H1 a=some (.ins C dx fs)∧Cls K C∧NoAttr K C f∧fs.lookup f=some v ∧
  tv σ H1 fun y H2=>rd v y H2 fun z H3=>∃ dx' fs',H3 a=some (.ins C dx' fs')∧fs'.length < 1000∧D.nx σ (upd H3 a (.ins C dx' (putF f z fs')))
section
variable {X:Cx} {o e value:Expr} {f:Str} {pos pos' tpos:Pos} {ta tv:TE}
theorem pe_fld (he:PE X e ta) (hb:attributeBase e f X.env (eval e X.env)=eval e X.env):PE X (.Attribute e f pos) (tFld X.K ta f):=by
  intro pins s σ H Q I h
  refine attr_of hb (thn (he pins s σ H _ I h) fun u s1 ⟨x,H1,I1,rx,a,C,dx,fs,v,ex,ea,c,n,l,q⟩=>?_)
  subst ex
  obtain rfl:u=Value.ref a:=rx
  exact getattr_ok I1 ea c n l fun u' s2 I2 ru=>⟨v,H1,I2,ru,q⟩
theorem ps_fld (ha:PE X o ta) (hv:PE X value tv) (hs:swapsWith value (some (.Attribute o f pos')) pos.line X.env=pure false):PS X (.Assign [.Attribute o f pos'] value pos) (sFld X.K ta tv f):=by
  intro pins s σ H D I h
  refine plainObj_wpAny_Assign_Attribute (thn (hv pins s σ H _ I h) fun u s1 ⟨y,H1,I1,ry,q⟩=>thn (ha pins s1 σ H1 _ I1 q) fun ov s2 ⟨x,H2,I2,rx,a,C,dx,fs,ex,ea,c,n,l,q2⟩=>?_) hs
  subst ex
  obtain rfl:ov=Value.ref a:=rx
  exact setattr_ok I2 ea c n l ry fun s3 I3=>⟨σ,_,I3,q2⟩
def rAdd:V→V→Hp→VK→Prop:=fun x y H Q=>∃ i j,x=.int i∧y=.int j∧Q (.int (i+j)) H
def rSub:V→V→Hp→VK→Prop:=fun x y H Q=>∃ i j,x=.int i∧y=.int j∧Q (.int (i - j)) H
end
section
variable {X:Cx} {pins:List (Addr × Obj)} {σ:St} {H:Hp} {s:Shared} {A:Around} {E:Value→Shared→Prop} {Q:Value→Shared→Prop} {c:Value} {b:Bool}
inductive TyOf (K:PySem.W.Frag) (H:Hp):V→Value→Prop where
  | non:TyOf K H .non (.type "NoneType")
  | bl (x:Bool):TyOf K H (.bl x) (.type "bool")
  | int (i:Int):TyOf K H (.int i) (.type "int")
  | str (x:Str):TyOf K H (.str x) (.type "str")
  | flt (x:UInt64):TyOf K H (.flt x) (.type "float")
  | lst {a:Addr} {xs:List V} (e:H a=some (.lst xs)):TyOf K H (.ref a) (.type "list")
  | frz {a:Addr} {o:Obj} {xs:List V} (e:H a=some (.frz o (.lst xs))):TyOf K H (.ref a) (.type "list")
  | tup {a:Addr} {xs:List V} (e:H a=some (.tup xs)):TyOf K H (.ref a) (.type "tuple")
  | dK {a:Addr} {kvs:List (Key × V)} (e:H a=some (.dK kvs)):TyOf K H (.ref a) (.type "dict")
  | dT {a:Addr} {kvs:List (List Key × V)} (e:H a=some (.dT kvs)):TyOf K H (.ref a) (.type "dict")
  | ins {a C dx:Addr} {fs:List (Str × V)} (e:H a=some (.ins C dx fs)) (cl:Cls K C) (ha:PySem.W.findIn K (.ref C) "__class__" = some (some (.builtin "object.__class__")))
      (hn:PySem.W.specialIn K (.builtin "object.__class__") "__get__" = some (some (.builtin "getset_descriptor.__get__"))) (htk:PySem.W.takesIn K (.builtin "object.__class__")=some true)
      (hm:PySem.W.mroIn K C (.type "object")=some true):TyOf K H (.ref a) (.ref C)
theorem isinst_ok {x:V} {u t:Value} (I:Inv X pins σ H s) (rx:RelV x u) (ty:TyOf X.K H x t) (e:PySem.W.kitOne X.K t c=some b) (h:∀ tk,Q (.bool b) { s with toks:=tk }) :
    wpAny (model X.prog X.w) A (call (.builtin "isinstance") [u,c]) Q E s:=by
  cases ty with
  | non=>cases (show u=Value.none from rx); exact PySem.W.kia_one PySem.W.kitx_none I.kIn True.intro e (fun z=>nomatch z) h
  | bl y=>cases (show u=Value.bool y from rx); exact PySem.W.kia_one PySem.W.kitx_bool I.kIn True.intro e (fun z=>nomatch z) h
  | int i=>obtain ⟨t,q⟩:=(show ∃ t,u=Value.int i t from rx); cases q; exact PySem.W.kia_one PySem.W.kitx_int I.kIn True.intro e (fun z=>nomatch z) h
  | str y=>obtain ⟨t,q⟩:=(show ∃ t,u=Value.str y t from rx); cases q; exact PySem.W.kia_one PySem.W.kitx_str I.kIn True.intro e (fun z=>nomatch z) h
  | flt y=>obtain ⟨t,q⟩:=(show ∃ t,u=Value.float y t from rx); cases q; exact PySem.W.kia_one PySem.W.kitx_float I.kIn True.intro e (fun z=>nomatch z) h
  | @lst a xs ea =>
    cases (show u=Value.ref a from rx)
    obtain ⟨_,_,n,_,h1⟩:=(show ObjOk X.prog X.w H s.heap a (.lst xs) from I.hok a _ ea)
    exact PySem.W.kia_one PySem.W.kitx_list I.kIn ⟨_,h1,rfl⟩ e (fun z=>nomatch z) h
  | @frz a ob xs ea =>
    cases (show u=Value.ref a from rx)
    obtain ⟨_,_,_,n,_,h1⟩:=(show ObjOk X.prog X.w H s.heap a (.frz ob (.lst xs)) from I.hok a _ ea)
    exact PySem.W.kia_one PySem.W.kitx_list I.kIn ⟨_,h1,rfl⟩ e (fun z=>nomatch z) h
  | @tup a xs ea =>
    cases (show u=Value.ref a from rx)
    obtain ⟨_,_,_,p,_⟩:=(show ObjOk X.prog X.w H s.heap a (.tup xs) from I.hok a _ ea)
    obtain ⟨o,h1,h2,_⟩:=p
    exact PySem.W.kia_one PySem.W.kitx_tuple I.kIn ⟨o,h1,h2⟩ e (fun z=>nomatch z) h
  | @dK a kvs ea =>
    cases (show u=Value.ref a from rx)
    obtain ⟨_,_,vs,_,p⟩:=(show ObjOk X.prog X.w H s.heap a (.dK kvs) from I.hok a _ ea)
    obtain ⟨o,es,ep,h1,h2,_⟩:=p
    exact PySem.W.kia_one PySem.W.kitx_dict I.kIn ⟨o,h1,h2.1⟩ e (fun z=>nomatch z) h
  | @dT a kvs ea =>
    cases (show u=Value.ref a from rx)
    obtain ⟨_,_,xs,_,o,es,ep,h1,h2,_⟩:=(show ObjOk X.prog X.w H s.heap a (.dT kvs) from I.hok a _ ea)
    exact PySem.W.kia_one PySem.W.kitx_dict I.kIn ⟨o,h1,h2.1⟩ e (fun z=>nomatch z) h
  | @ins a C dx fs ea cl ha hn htk hm =>
    cases (show u=Value.ref a from rx)
    obtain ⟨mA,O,_⟩:=ins_get I.hok ea
    obtain ⟨od,J,_⟩:=O.look
    exact PySem.W.kia_one (PySem.W.kitx_own (cl.get _) cl.hd ha hn htk hm) I.kIn J e (fun z=>nomatch z) h
end
end L2
namespace L2
open PySem PySem.Spec PyProof.Rows
structure Room (k:Nat) (A:Around):Prop where
  hd:A.handled=none
  dp:A.depth+3*k+5 < recursionLimit
  un:A.units+16*k+200 < cLine
theorem Room.mono {j k:Nat} {A:Around} (r:Room k A) (h:j≤k):Room j A:=⟨r.hd,by have:=r.dp; omega,by have:=r.un; omega⟩
theorem Room.deeper {k:Nat} {A:Around} (r:Room (k+1) A) (env:Env):Room k (A.deeper env) :=
  ⟨r.hd,by have:=r.dp; show A.depth+1+3*k+5 < _; omega,by have:=r.un; show A.units+3+16*k+200 < _; omega⟩
theorem make_depth {A:Around} {C:Addr} {us:List Value} {kw:List (Str × Value)}:(A.under (.builtin "type.__call__" ⟨.ref C::us,kw⟩)).depth=A.depth+1:=by
  first | rfl | simp [Around.under,Code.weight,Code.isCreation,Code.isGuard,Code.isCaller,Code.frames,Code.isFrame,guardIds]
theorem make_units {A:Around} {C:Addr} {us:List Value} {kw:List (Str × Value)}:(A.under (.builtin "type.__call__" ⟨.ref C::us,kw⟩)).units=A.units+1:=by
  first | rfl | simp [Around.under,Code.cUnits,Code.frames,Code.isFrame]
theorem Room.make {k:Nat} {A:Around} (r:Room (k+1) A) (C:Addr) (us:List Value) (kw:List (Str × Value)):Room k (A.under (.builtin "type.__call__" ⟨.ref C::us,kw⟩)) :=
  ⟨r.hd,by have:=r.dp; rw [make_depth]; omega,by have:=r.un; rw [make_units]; omega⟩
theorem Room.depth {k:Nat} {A:Around} (r:Room k A):A.depth < recursionLimit:=by have:=r.dp; omega
def tNil:TA:=fun _ H Q=>Q [] H
def tCons (ta:TE) (tr:TA):TA:=fun σ H Q=>ta σ H fun x H1=>tr σ H1 fun xs H2=>Q (x::xs) H2
section
variable {X:Cx} {e:Expr} {es:List Expr} {te:TE} {t:TA} {pos:Pos}
theorem pa_nil:PA X [] tNil:=fun _ _ _ _ H Q I h=>Calls.spliced_nil ⟨[],H,I,.nil,h⟩
theorem pa_cons (ha:PE X e te) (hr:PA X es t) (hs:starEach (e::es) X.env=(false,eval e X.env)::starEach es X.env:=by rfl):PA X (e::es) (tCons te t):=by
  intro pos pins s σ H Q I h
  rw [hs]
  show wpAny _ _ (spliced ((false,eval e X.env)::backTo pos (starEach es X.env))) _ _ s
  refine Calls.spliced_cons (thn (ha pins s σ H _ I h) fun u s1 ⟨x,H1,I1,r1,q1⟩=>?_)
  exact thn (hr pos pins s1 σ H1 _ I1 q1) fun us s2 ⟨xs,H2,I2,r2,q2⟩=>⟨x::xs,H2,I2,.cons r1 r2,q2⟩
def tTup (t:TA):TE:=fun σ H Q=>t σ H fun xs H1=>xs.length≤sizeLine∧∀ p,H1 p=none→Q (.ref p) (upd H1 p (.tup xs))
def tLst (t:TA):TE:=fun σ H Q=>t σ H fun xs H1=>xs.length≤sizeLine∧∀ p,H1 p=none→Q (.ref p) (upd H1 p (.lst xs))
theorem pe_tup {x1} (h:PA X es t):PE X (.Tuple es x1 pos) (tTup t):=by
  intro pins s σ H Q I hq
  refine wpAny_Tuple_spliced (thn (h pos pins s σ H _ I hq) fun us s1 ⟨xs,H1,I1,r,z,q⟩=>⟨by rw [← r.length]; exact z,?_⟩)
  have hf:H1 s1.heap.objs.size=none:=I1.hok.fresh (Nat.le_refl _)
  refine ⟨.ref s1.heap.objs.size,upd H1 s1.heap.objs.size (.tup xs),I1.laid (t':=s1.toks) (fun b u e=>Heap.get?_push_of_some _ e) (Nat.le_refl _) ?_,rfl,q _ hf⟩
  exact ⟨z,us,r,⟨_,Heap.get?_push_size _ rfl,rfl,_,rfl⟩,_,Heap.get?_push_size _ rfl,rfl⟩
theorem pe_lst (h:PA X es t):PE X (.List es pos) (tLst t):=by
  intro pins s σ H Q I hq
  refine wpAny_List_spliced (thn (h pos pins s σ H _ I hq) fun us s1 ⟨xs,H1,I1,r,z,q⟩=>⟨by rw [← r.length]; exact z,?_⟩)
  have hf:H1 s1.heap.objs.size=none:=I1.hok.fresh (Nat.le_refl _)
  refine ⟨.ref s1.heap.objs.size,upd H1 s1.heap.objs.size (.lst xs),I1.laid (t':=s1.toks) (fun b u e=>Heap.get?_push_of_some _ e) (Nat.le_refl _) ?_,rfl,q _ hf⟩
  exact ⟨z,us,0,r,Heap.get?_push_size _ rfl⟩
end
abbrev Sp:=List V→Hp→VK→XK→Prop
abbrev CXT:=List Env→Hp→Shared→XK→Value→Shared→Prop
structure Env0 (P:Program) (w:World) (K:PySem.W.Frag) (mg:Str→Option Value) (base:Heap) (A:Around) (outer:List Env) (s:Shared) (H:Hp):Prop where
  frames:A.frames=some outer
  mod:Mod K mg base
  bs:∀ b o,base.get? b=some o→s.heap.get? b=some o∧H b=none
  bsz:base.objs.size≤s.heap.objs.size
  funs:s.heap.FunFrames base outer
  frf:∀ b ∈ frs outer,H b=none
  hok:HOk P w H s.heap
  bare:AllBare s.gens
def CE (outer:List Env) (P:Program) (w:World) (H:Hp) (s:Shared) (Q:VK) (u:Value) (s':Shared):Prop :=
  ∃ v H',s'.os=s.os∧AllBare s'.gens∧Un (frs outer) [] H H' s.heap s'.heap∧HOk P w H' s'.heap∧RelV v u∧Q v H'
def CR (CX:CXT) (outer:List Env) (P:Program) (w:World) (H:Hp) (s:Shared) (Q:VK) (E:XK) (r:Result) (s':Shared):Prop :=
  match r with
  | .ok (.ret u)=>CE outer P w H s Q u s'
  | .ok _=>False
  | .error e=>CX outer H s E e s'
structure FnOk (P:Program) (w:World) (K:PySem.W.Frag) (mg:Str→Option Value) (base:Heap) (CX:CXT) (k:Nat) (f:Addr) (fd:FuncData) (ps:List Str) (sp:Sp):Prop where
  len:∀ vs H Q E,sp vs H Q E→vs.length=ps.length
  run:∀ (A:Around) (outer:List Env) (s:Shared) (H:Hp) (args:Args) (us:List Value) (vs:List V) (Q:VK) (E:XK),Room k A→Env0 P w K mg base A outer s H→BindsTo s fd args (ps.zip us)→Vals vs us→sp vs H Q E →
    codeAny (model P w) A (.call (.ref f) args) (CR CX outer P w H s Q E) s
theorem Env0.make {P:Program} {w:World} {K:PySem.W.Frag} {mg:Str→Option Value} {base:Heap} {A:Around} {outer:List Env} {s:Shared} {H:Hp} (e:Env0 P w K mg base A outer s H) (C:Addr) (us:List Value) (kw:List (Str × Value)) :
    Env0 P w K mg base (A.under (.builtin "type.__call__" ⟨.ref C::us,kw⟩)) outer s H:=⟨by first | exact e.frames | (simpa [Around.under,Code.envs,Code.isFrame,pushEnvs] using e.frames),e.mod,e.bs,e.bsz,e.funs,e.frf,e.hok,e.bare⟩
section
variable {X:Cx} {pins:List (Addr × Obj)} {σ:St} {H:Hp} {s s':Shared}
theorem Inv.env0 (I:Inv X pins σ H s):Env0 X.prog X.w X.K X.mg X.base X.A X.stack s H :=
  ⟨I.ok.frames,I.ok.mod,I.bs,Nat.le_trans I.ok.bsz I.sz,I.stack,I.stkFree,I.hok,I.bare⟩
theorem Inv.after {Q:VK} {u:Value} (I:Inv X pins σ H s) (h:CE X.stack X.prog X.w H s Q u s'):EP X pins σ Q u s':=by
  obtain ⟨v,H',os,bare,un,hok,r,q⟩:=h
  obtain ⟨hh,g,d,t,os'⟩:=s'
  obtain rfl:os'=s.os:=os
  exact ⟨v,H',I.call (h':=hh) (g':=g) (d':=d) (t':=t) (ch:=[]) un hok bare (fun b z=>absurd z (by simp)),r,q⟩
end
def tCall (sp:Sp) (dvs:List V) (E:XK) (t:TA):TE:=fun σ H Q=>t σ H fun vs H1=>sp (vs++dvs) H1 Q E
def tMeth (C:Addr) (m:Str) (sp:Sp) (dvs:List V) (E:XK) (ta:TE) (t:TA):TE:=fun σ H Q=>ta σ H fun x H1=>∃ a dx fs,x=.ref a∧H1 a=some (.ins C dx fs)∧fs.lookup m=none ∧
  t σ H1 fun vs H2=>sp (x::(vs++dvs)) H2 Q E
def tMake (C:Addr) (sp:Sp) (dvs:List V) (E:XK) (t:TA):TE:=fun σ H Q=>t σ H fun vs H1=>∀ x dx,H1 x=none→H1 dx=none→dx ≠ x →
  sp (.ref x::(vs++dvs)) (upd (upd H1 dx (.own x)) x (.ins C dx [])) (fun v H2=>v=.non∧Q (.ref x) H2) E
def Binds (K:PySem.W.Frag) (fd:FuncData) (ps:List Str) (ds:List Value):Prop :=
  ∀ (s:Shared) (us:List Value),K.In s.heap→(us++ds).length=ps.length→BindsTo s fd ⟨us,[]⟩ (ps.zip (us++ds))
theorem Binds.all {K:PySem.W.Frag} {fd:FuncData} {ps:List Str} (h:∀ us:List Value,us.length=ps.length→bindArgs fd ⟨us,[]⟩=pure (ps.zip us)):Binds K fd ps []:=fun s us _ hl=>by
  rw [List.append_nil] at hl ⊢
  exact .of_eq (h us hl)
def Passes (CX:CXT) (X:Cx) (E:XK):Prop:=∀ (pins:List (Addr × Obj)) (σ:St) (H:Hp) (s:Shared) (e:Value) (s':Shared),Inv X pins σ H s→CX X.stack H s E e s'→X.xe e s'
section
variable {X:Cx} {CX:CXT} {k:Nat} {f C:Addr} {fd:FuncData} {ps:List Str} {sp:Sp} {dvs:List V} {ds:List Value} {E:XK} {x m:Str} {p pos apos:Pos} {e o:Expr} {es:List Expr} {ta:TE} {t:TA}
theorem run_fn {pins:List (Addr × Obj)} {σ:St} {H:Hp} {s:Shared} {Q:VK} {us:List Value} {vs:List V} (F:FnOk X.prog X.w X.K X.mg X.base CX k f fd ps sp) (hr:Room k X.A) (hb:Binds X.K fd ps ds) (hd:Vals dvs ds) (hx:Passes CX X E)
    (I:Inv X pins σ H s) (r:Vals vs us) (h:sp (vs++dvs) H Q E):wpAny (model X.prog X.w) X.A (call (.ref f) us) (EP X pins σ Q) X.xe s:=by
  have r2:Vals (vs++dvs) (us++ds):=r.append hd
  have hl:(us++ds).length=ps.length:=by rw [← r2.length]; exact F.len _ _ _ _ h
  refine wpAny_call (codeAny_mono (F.run X.A X.stack s H ⟨us,[]⟩ (us++ds) (vs++dvs) Q E hr I.env0 (hb s us I.kIn hl) r2 h) fun r s' hq=>?_)
  cases r with
  | error e=>exact hx pins σ H s e s' I hq
  | ok fl =>
    cases fl with
    | ret u=>exact I.after hq
    | next=>exact False.elim hq
    | brk=>exact False.elim hq
    | cont=>exact False.elim hq
theorem pe_call (F:FnOk X.prog X.w X.K X.mg X.base CX k f fd ps sp) (hr:Room k X.A) (hg:Gl X x) (hm:X.mg x=some (.ref f)) (hk:PySem.W.keepIn X.K (.ref f)=true) (hb:Binds X.K fd ps ds) (hd:Vals dvs ds) (hx:Passes CX X E)
    (ha:PA X (e::es) t) (hdb:(x == ("__debug__" : Str))=false:=by decide) (he:starEach (e::es) X.env=(false,eval e X.env)::starEach es X.env:=by rfl) (hpl:(backTo pos (starEach es X.env)).any (·.1)=false:=by rfl) :
    PE X (.Call (.Name x p) (e::es) [] pos) (tCall sp dvs E t):=by
  intro pins s σ H Q I h
  refine wpAny_Call_Name_kw (ld_glob I hg hm ?_ hdb)
  refine PySem.W.callWith_K (h₀:=X.base) I.ok.mod.kin hk (thn (ha pos pins s σ H _ I h) fun us s1 ⟨vs,H1,I1,r,q⟩=>⟨I1.kIn,?_⟩) he hpl
  exact run_fn F hr hb hd hx I1 r q
theorem pe_meth {pl:Sem Bool} (he:PE X o ta) (c:Cls X.K C) (hm:Meth X.K C m f) (F:FnOk X.prog X.w X.K X.mg X.base CX k f fd ps sp) (hr:Room k X.A) (hb:Binds X.K fd ps ds) (hd:Vals dvs ds) (hx:Passes CX X E) (ha:PA X (e::es) t)
    (hst:starEach (e::es) X.env=(false,eval e X.env)::starEach es X.env:=by rfl) (hpl:(backTo pos (starEach es X.env)).any (·.1)=false:=by rfl)
    (ht:eval (.Call (.Attribute o m apos) (e::es) [] pos) X.env=(do
      let ov ← eval o X.env
      standAt apos.atName
      let (f,first) ← holding [ov] (getMethod ov m pl)
      callWith pos f first (backTo pos (starEach (e::es) X.env)) (backToKw pos (keywordEach [] X.env))):=by rfl) :
    PE X (.Call (.Attribute o m apos) (e::es) [] pos) (tMeth C m sp dvs E ta t):=by
  intro pins s σ H Q I h
  refine PySem.W.methodCall_KW (pl:=pl) (thn (he pins s σ H _ I h) fun u s1 ⟨x,H1,I1,rx,a,dx,fs,ex,ea,l,q⟩=>?_) ht
  subst ex
  obtain rfl:u=Value.ref a:=rx
  refine getmeth_ok I1 ea c hm l ?_
  refine PySem.W.callWith_K (first:=[.ref a]) (h₀:=X.base) I.ok.mod.kin hm.kp (thn (ha pos pins s1 σ H1 _ I1 q) fun us s2 ⟨vs,H2,I2,r,q2⟩=>⟨I2.kIn,?_⟩) hst hpl
  exact run_fn (us:=.ref a::us) (vs:=.ref a::vs) F hr hb hd hx I2 (.cons rfl r) q2
theorem pe_meth0 {pl:Sem Bool} (he:PE X o ta) (c:Cls X.K C) (hm:Meth X.K C m f) (F:FnOk X.prog X.w X.K X.mg X.base CX k f fd ps sp) (hr:Room k X.A) (hb:Binds X.K fd ps ds) (hd:Vals dvs ds) (hx:Passes CX X E)
    (ht:eval (.Call (.Attribute o m apos) [] [] pos) X.env=(do
      let ov ← eval o X.env
      standAt apos.atName
      let (f,first) ← holding [ov] (getMethod ov m pl)
      callWith pos f first (backTo pos (starEach [] X.env)) (backToKw pos (keywordEach [] X.env))):=by rfl) :
    PE X (.Call (.Attribute o m apos) [] [] pos) (tMeth C m sp dvs E ta tNil):=by
  intro pins s σ H Q I h
  refine PySem.W.methodCall_KW (pl:=pl) (thn (he pins s σ H _ I h) fun u s1 ⟨x,H1,I1,rx,a,dx,fs,ex,ea,l,q⟩=>?_) ht
  subst ex
  obtain rfl:u=Value.ref a:=rx
  refine getmeth_ok I1 ea c hm l ?_
  exact PySem.W.callWith_K0 (first:=[.ref a]) I1.kIn hm.kp (run_fn (us:=[.ref a]) (vs:=[.ref a]) F hr hb hd hx I1 (.cons rfl .nil) q)
structure Mk (K:PySem.W.Frag) (C f:Addr):Prop where
  makes:PySem.W.makesIn K C=true
  init:PySem.W.findIn K (.ref C) "__init__" = some (some (.ref f))
  fn:PySem.W.isFn K (.ref f)=true
  kp:PySem.W.keepIn K (.ref C)=true
theorem run_make {pins:List (Addr × Obj)} {σ:St} {H:Hp} {s:Shared} {Q:VK} {us:List Value} {vs:List V} (M:Mk X.K C f) (F:FnOk X.prog X.w X.K X.mg X.base CX k f fd ps sp) (hr:Room (k+1) X.A) (hb:Binds X.K fd ps ds) (hd:Vals dvs ds)
    (hx:Passes CX X E) (I:Inv X pins σ H s) (r:Vals vs us)
    (h:∀ x dx,H x=none→H dx=none→dx ≠ x→sp (.ref x::(vs++dvs)) (upd (upd H dx (.own x)) x (.ins C dx [])) (fun v H2=>v=.non∧Q (.ref x) H2) E) :
    wpAny (model X.prog X.w) X.A (call (.ref C) us) (EP X pins σ Q) X.xe s:=by
  have hq:=h (s.heap.objs.size+1) s.heap.objs.size (I.hok.fresh (Nat.le_succ _)) (I.hok.fresh (Nat.le_refl _)) (Nat.ne_of_lt (Nat.lt_succ_self _))
  have I2:=Inv.made (C:=C) I
  have r2:Vals (V.ref (s.heap.objs.size+1)::(vs++dvs)) (Value.ref (s.heap.objs.size+1)::(us++ds)):=.cons rfl (r.append hd)
  have hl:(Value.ref (s.heap.objs.size+1)::us++ds).length=ps.length:=by
    have e:=r2.length
    rw [F.len _ _ _ _ hq] at e
    exact e.symm
  refine wpAny_call (make_map (f:=f) I.kIn M.makes M.init (beq_iff_eq.mp M.fn) (codeAny_mono (F.run _ X.stack _ _ ⟨Value.ref (s.heap.objs.size+1)::us,[]⟩ (Value.ref (s.heap.objs.size+1)::(us++ds)) _ _ E (hr.make C us [])
    (I2.env0.make C us []) (hb _ (Value.ref (s.heap.objs.size+1)::us) I2.kIn hl) r2 hq) fun r s' hq'=>?_))
  cases r with
  | error e=>exact hx pins σ _ _ e s' I2 hq'
  | ok fl =>
    cases fl with
    | ret u =>
      obtain ⟨v,H',I3,rv,ev,q3⟩:=I2.after hq'
      subst ev
      exact ⟨rv,⟨V.ref (s.heap.objs.size+1),H',I3,rfl,q3⟩⟩
    | next=>exact False.elim hq'
    | brk=>exact False.elim hq'
    | cont=>exact False.elim hq'
theorem pe_make (M:Mk X.K C f) (F:FnOk X.prog X.w X.K X.mg X.base CX k f fd ps sp) (hr:Room (k+1) X.A) (hg:Gl X x) (hm:X.mg x=some (.ref C)) (hb:Binds X.K fd ps ds) (hd:Vals dvs ds) (hx:Passes CX X E)
    (ha:PA X (e::es) t) (hdb:(x == ("__debug__" : Str))=false:=by decide) (he:starEach (e::es) X.env=(false,eval e X.env)::starEach es X.env:=by rfl) (hpl:(backTo pos (starEach es X.env)).any (·.1)=false:=by rfl) :
    PE X (.Call (.Name x p) (e::es) [] pos) (tMake C sp dvs E t):=by
  intro pins s σ H Q I h
  refine wpAny_Call_Name_kw (ld_glob I hg hm ?_ hdb)
  refine PySem.W.callWith_K (h₀:=X.base) I.ok.mod.kin M.kp (thn (ha pos pins s σ H _ I h) fun us s1 ⟨vs,H1,I1,r,q⟩=>⟨I1.kIn,?_⟩) he hpl
  exact run_make M F hr hb hd hx I1 r q
end
def PK (X:Cx) (kws:List Keyword) (t:TA):Prop :=
  ∀ (pos:Pos) (pins:List (Addr × Obj)) (s:Shared) (σ:St) (H:Hp) (Q:List V→Hp→Prop),Inv X pins σ H s→t σ H Q→wpAny (model X.prog X.w) X.A (evalAll ((backToKw pos (keywordEach kws X.env)).map (·.2))) (AP X pins σ Q) X.xe s
section
variable {X:Cx} {CX:CXT} {k:Nat} {f C:Addr} {fd:FuncData} {ps ks:List Str} {sp:Sp} {E:XK} {x m:Str} {p pos apos kpos:Pos} {e o:Expr} {es:List Expr} {kws:List Keyword} {te ta:TE} {t tk:TA} {nm:Option Str}
structure KBinds (K:PySem.W.Frag) (fd:FuncData) (ps ks:List Str) (g:List Value→List Value→List Value) (gV:List V→List V→List V):Prop where
  to:∀ (s:Shared) (us ws:List Value),K.In s.heap→(g us ws).length=ps.length→BindsTo s fd ⟨us,ks.zip ws⟩ (ps.zip (g us ws))
  rel:∀ {vs:List V} {us:List Value} {zs:List V} {ws:List Value},Vals vs us→Vals zs ws→Vals (gV vs zs) (g us ws)
def tCallK (sp:Sp) (gV:List V→List V→List V) (E:XK) (t tk:TA):TE:=fun σ H Q=>t σ H fun vs H1=>tk σ H1 fun zs H2=>sp (gV vs zs) H2 Q E
variable {g:List Value→List Value→List Value} {gV:List V→List V→List V}
end
structure FnScope (N P:List Str) (sc:Scope):Prop where
  kind:sc.kind=.function
  co:sc.isCoroutine=false
  gen:sc.isGenerator=false
  nd:N.Nodup
  pre:N.take P.length=P
  par:∀ x ∈ P,sc.names.lookup x=some .local∨sc.names.lookup x=some .cell
  nofree:∀ y ∈ sc.names,y.2 ≠ .free
theorem bindL_out {kindOf:Str→Option NameKind} {x:Str}:∀ {binds:List (Str × Value)} {m:Str→Option Value},(∀ v,(x,v) ∉ binds)→bindL kindOf binds m x=m x
  | [],_,_=>rfl
  | (n,v)::r,m,h=>by
    unfold bindL
    rw [bindL_out fun w hw=>h w (List.mem_cons_of_mem _ hw)]
    split
    · have:x ≠ n:=by rintro rfl; exact h v List.mem_cons_self
      simp [this]
    · rfl
theorem bindC_out {kindOf:Str→Option NameKind} {x:Str}:∀ {binds:List (Str × Value)} {m:Str→Option Value},(∀ v,(x,v) ∉ binds)→bindC kindOf binds m x=m x
  | [],_,_=>rfl
  | (n,v)::r,m,h=>by
    unfold bindC
    rw [bindC_out fun w hw=>h w (List.mem_cons_of_mem _ hw)]
    split
    · rfl
    · have:x ≠ n:=by rintro rfl; exact h v List.mem_cons_self
      simp [this]
theorem bindL_get {kindOf:Str→Option NameKind} {x:Str} {v:Value}:∀ {P:List Str} {vs:List Value} {i:Nat} {m:Str→Option Value},P.Nodup→P[i]?=some x→vs[i]?=some v→kindOf x=some .local →
    bindL kindOf (P.zip vs) m x=some v
  | [],_,_,_,_,h,_,_=>by simp at h
  | _::_,[],_,_,_,_,h,_=>by simp at h
  | p::P,w::vs,0,m,nd,h1,h2,hk=>by
    simp at h1 h2; subst h1; subst h2
    show bindL kindOf ((p,w)::P.zip vs) m p=_
    unfold bindL
    rw [bindL_out fun v hv=>(List.nodup_cons.mp nd).1 (List.of_mem_zip hv).1,if_pos hk]
    simp
  | p::P,w::vs,i+1,m,nd,h1,h2,hk=>by
    show bindL kindOf ((p,w)::P.zip vs) m x=_
    unfold bindL
    exact bindL_get (i:=i) (List.nodup_cons.mp nd).2 (by simpa using h1) (by simpa using h2) hk
theorem bindC_get {kindOf:Str→Option NameKind} {x:Str} {v:Value}:∀ {P:List Str} {vs:List Value} {i:Nat} {m:Str→Option Value},P.Nodup→P[i]?=some x→vs[i]?=some v→kindOf x ≠ some .local →
    bindC kindOf (P.zip vs) m x=some v
  | [],_,_,_,_,h,_,_=>by simp at h
  | _::_,[],_,_,_,_,h,_=>by simp at h
  | p::P,w::vs,0,m,nd,h1,h2,hk=>by
    simp at h1 h2; subst h1; subst h2
    show bindC kindOf ((p,w)::P.zip vs) m p=_
    unfold bindC
    rw [bindC_out fun v hv=>(List.nodup_cons.mp nd).1 (List.of_mem_zip hv).1,if_neg hk]
    simp
  | p::P,w::vs,i+1,m,nd,h1,h2,hk=>by
    show bindC kindOf ((p,w)::P.zip vs) m x=_
    unfold bindC
    exact bindC_get (i:=i) (List.nodup_cons.mp nd).2 (by simpa using h1) (by simpa using h2) hk
def start (N:List Str) (vs:List V):St:=vs.map some++List.replicate (N.length - vs.length) none
def cxOf (CX:CXT) (P:Program) (w:World) (K:PySem.W.Frag) (mg:Str→Option Value) (base:Heap) (N:List Str) (qual:Str) (scope:Scope) (f:Addr) (cd:Value) (A:Around) (outer:List Env) (s:Shared) (H:Hp) (E:XK):Cx where
  prog:=P
  w:=w
  K:=K
  mg:=mg
  base:=base
  A:=A.deeper (envOfC qual scope s.heap.objs.size f cd)
  N:=N
  s₀:=s
  H₀:=H
  env:=envOfC qual scope s.heap.objs.size f cd
  outer:=outer
  stack:=envOfC qual scope s.heap.objs.size f cd::outer
  ex:=[]
  calm:=true
  fn:=fun _=>true
  pn:=[]
  xe:=fun e s'=>wpAny (model P w) (A.deeper (envOfC qual scope s.heap.objs.size f cd)) (leaving (envOfC qual scope s.heap.objs.size f cd) e) (fun _ s''=>CX outer H s E e s'') (fun e' s''=>CX outer H s E e' s'') s'
theorem cell_has {sc:Scope} {n:Nat} {x:Str} (h:sc.names.lookup x=some .cell):∃ c,(cellsFrom n sc.names []).lookup x=some c:=by
  have q:=PySem.W.cellsFrom_some sc.names n [] (.inl h)
  exact Option.isSome_iff_exists.mp q
theorem inv_start {CX:CXT} {P:Program} {w:World} {K:PySem.W.Frag} {mg:Str→Option Value} {base:Heap} {N ps:List Str} {qual:Str} {scope:Scope} {f:Addr} {cd:Value} {A:Around} {outer:List Env} {s s1:Shared} {H:Hp} {E:XK} {us:List Value} {vs:List V}
    (S:FnScope N ps scope) (hd:A.handled=none) (e0:Env0 P w K mg base A outer s H) (hl:vs.length=ps.length) (r:Vals vs us)
    (x:InCallC s s.heap.objs.size (bindL (envOfC qual scope s.heap.objs.size f cd).kindOf (ps.zip us) fun _=>none) (cellsFrom (s.heap.objs.size+1) scope.names []) (bindC (envOfC qual scope s.heap.objs.size f cd).kindOf (ps.zip us) fun _=>none) s1) :
    Inv (cxOf CX P w K mg base N qual scope f cd A outer s H E) [] (start N vs) H s1:=by
  have hpl:ps.length≤N.length:=by have:=congrArg List.length S.pre; rw [List.length_take] at this; omega
  obtain ⟨h1,tk,rfl,hk⟩:=x.done
  have noA:∀ b:Addr,b ∉ (cxOf CX P w K mg base N qual scope f cd A outer s H E).ex:=fun b z=>absurd (show b ∈ ([]:List Addr) from z) (by simp)
  refine ⟨⟨e0.mod,S.kind,rfl,rfl,Nat.le_refl _,fun y z c h1 h2=>?_,fun y hy=>?_,fun y c _ h=>?_,fun _=>hd,Around.frames_deeper e0.frames,.inr ⟨rfl,rfl⟩,fun b z=>absurd z (noA b),e0.bs,e0.bsz,fun b _ _=>noA b,fun b z=>absurd z (noA b),e0.funs,e0.frf⟩,
    rfl,e0.bare,Un.kept hk,⟨_,x.toInCall.ns,fun i y v h1 h2 h3=>?_⟩,fun y c h=>⟨_,x.cell y c h⟩,e0.hok.fresh (Nat.le_refl _),fun y c h=>?_,fun p hp=>absurd (show p ∈ ([]:List (Addr × Obj)) from hp) (by simp),e0.hok.kept hk,?_⟩
  · exact name_of_addr x.apart (PySem.mem_of_lookup h1) (PySem.mem_of_lookup h2)
  · have hy:scope.names.lookup y=some .cell∨scope.names.lookup y=some .free:=hy
    rcases hy with hy | hy
    · exact cell_has hy
    · exact absurd rfl (S.nofree _ (PySem.mem_of_lookup hy))
  · exact Nat.le_of_lt (x.above y c (PySem.mem_of_lookup h))
  · have hi:i < vs.length:=by
      unfold start at h2
      by_cases hi:i < vs.length
      · exact hi
      · rw [List.getElem?_append_right (by simpa using hi)] at h2
        rw [List.getElem?_replicate] at h2
        split at h2 <;> cases h2
    have ha:vs[i]?=some v:=by
      unfold start at h2
      rw [List.getElem?_append_left (by simpa using hi),List.getElem?_map] at h2
      cases e:vs[i]? with
      | none=>rw [e] at h2; cases h2
      | some a=>rw [e] at h2; cases h2; rfl
    obtain ⟨u,hu,rv⟩:=r.get ha
    have hp:ps[i]?=some y:=by
      rw [← S.pre,List.getElem?_take_of_lt (by omega)]; exact h1
    have ndP:ps.Nodup:=by rw [← S.pre]; exact S.nd.sublist (List.take_sublist _ _)
    refine ⟨u,rv,?_⟩
    rcases S.par y (List.mem_of_getElem? hp) with k | k
    · exact .inl ⟨k,bindL_get ndP hp hu k⟩
    · obtain ⟨c,e⟩:=cell_has (n:=s.heap.objs.size+1) k
      refine .inr ⟨.inl k,c,e,?_⟩
      have q:=x.cell y c e
      rw [bindC_get ndP hp hu (by show scope.names.lookup y ≠ _; rw [k]; decide)] at q
      exact q
  · exact e0.hok.fresh (Nat.le_of_lt (x.above y c (PySem.mem_of_lookup h)))
  · unfold start
    show _=N.length
    rw [List.length_append,List.length_map,List.length_replicate]
    omega
theorem fn_of {CX:CXT} {P:Program} {w:World} {K:PySem.W.Frag} {mg:Str→Option Value} {base:Heap} {k:Nat} {f:Addr} {name qual:Str} {params:Arguments} {body:List Stmt} {scope:Scope} {dV kV doc pm cdv ct oc:Value} {an od:Option Addr}
    {osl:Array (Option Value)} {N ps:List Str} {sp:Sp} (lk:K.lookup f=some ⟨oc,od,.func (PySem.W.fnOf name qual params body scope dV kV doc pm an cdv ct),osl⟩) (hcd:PySem.W.codeIn K cdv qual=true) (S:FnScope N ps scope)
    (len:∀ vs H Q E,sp vs H Q E→vs.length=ps.length)
    (hbody:∀ (A:Around) (outer:List Env) (s:Shared) (H:Hp) (vs:List V) (Q:VK) (E:XK),Room k (A.deeper (envOfC qual scope s.heap.objs.size f cdv))→sp vs H Q E →
      ∃ t,PSs (cxOf CX P w K mg base N qual scope f cdv A outer s H E) body t∧t { nx:=fun _ H'=>Q .non H',rt:=Q } (start N vs) H) :
    FnOk P w K mg base CX (k+1) f (PySem.W.fnOf name qual params body scope dV kV doc pm an cdv ct) ps sp:=by
  refine ⟨len,fun A outer s H args us vs Q E hr e0 hb r hsp=>?_⟩
  have hl:=len _ _ _ _ hsp
  have KX:K.In s.heap:=e0.mod.kin.keeps fun b o e=>(e0.bs b o e).1
  have lim:s.heap.NoLimit:=e0.mod.nolimit.keeps fun b o e=>(e0.bs b o e).1
  have hkind:∀ y ∈ ps.zip us,scope.names.lookup y.1=some .local∨(scope.names.lookup y.1=some .cell∧((cellsFrom (s.heap.objs.size+1) scope.names []).lookup y.1).isSome=true):=fun ⟨n,v⟩ hy=>by
    rcases S.par n (List.of_mem_zip hy).1 with q | q
    · exact .inl q
    · exact .inr ⟨q,PySem.W.cellsFrom_some _ _ _ (.inl q)⟩
  refine codeAny_call_function hr.depth (KX _ _ lk) rfl S.co S.gen rfl (PySem.W.codeRec_of KX hcd) (hb _ _ _ _ ?_)
  refine wpAny_newFunctionEnv_cells S.kind hkind fun env he s1 x=>?_
  subst he
  refine ⟨lim.keeps x.toInCall.keep,codeAny_func ?_⟩
  obtain ⟨t,ht,hq⟩:=hbody A outer s H vs Q E (hr.deeper _) hsp
  have I:Inv (cxOf CX P w K mg base N qual scope f cdv A outer s H E) [] (start N vs) H s1:=inv_start S hr.hd e0 hl r x
  refine wpAny_mono (ht [] s1 (start N vs) H _ I hq) (fun fl s' hs=>?_) fun e s' hs=>hs
  have fin:∀ {σ':St} {H':Hp} {v:V} {u:Value},Inv (cxOf CX P w K mg base N qual scope f cdv A outer s H E) [] σ' H' s'→RelV v u→Q v H'→CE outer P w H s Q u s' :=
    fun {σ' H' v u} J rv q=>⟨v,H',J.os,J.bare,J.base,J.hok,rv,q⟩
  cases fl with
  | ret u =>
    obtain ⟨v,σ',H',J,rv,q⟩:=hs
    exact fin J rv q
  | next =>
    obtain ⟨σ',H',J,q⟩:=hs
    exact fin (v:=V.non) (u:=Value.none) J rfl q
  | brk =>
    obtain ⟨_,_,_,q⟩:=hs
    exact False.elim q
  | cont =>
    obtain ⟨_,_,_,q⟩:=hs
    exact False.elim q
end L2
namespace L2
open PySem PySem.Spec PyProof.Rows
section
variable {X:Cx} {x:Str} {p pos:Pos} {e:Expr} {es:List Expr} {t:TA} {id T:String} {r:List V→Hp→VK→Prop}
def tCB (r:List V→Hp→VK→Prop) (t:TA):TE:=fun σ H Q=>t σ H fun vs H1=>r vs H1 Q
theorem pe_callB (hc:CallR X (.builtin id) r) (hg:Gl X x) (hm:X.mg x=none) (hv:bootBuiltins x=some (.builtin id)) (ha:PA X (e::es) t) (hn:x ≠ "__name__" := by decide) (hdb:(x == ("__debug__" : Str))=false:=by decide)
    (he:starEach (e::es) X.env=(false,eval e X.env)::starEach es X.env:=by rfl) (hpl:(backTo pos (starEach es X.env)).any (·.1)=false:=by rfl):PE X (.Call (.Name x p) (e::es) [] pos) (tCB r t):=by
  intro pins s σ H Q I h
  refine wpAny_Call_Name_kw (ld_blt I hg hm hv ?_ hn hdb)
  exact PyProof.Rows.callWith_builtin1 (thn (ha pos pins s σ H _ I h) fun us s1 ⟨vs,H1,I1,r1,q1⟩=>hc pins s1 σ H1 vs us Q I1 r1 q1) he hpl
theorem pe_callTy (hc:CallR X (.type T) r) (hg:Gl X x) (hm:X.mg x=none) (hv:bootBuiltins x=some (.type T)) (ha:PA X (e::es) t) (hn:x ≠ "__name__" := by decide) (hdb:(x == ("__debug__" : Str))=false:=by decide)
    (he:starEach (e::es) X.env=(false,eval e X.env)::starEach es X.env:=by rfl) (hpl:(backTo pos (starEach es X.env)).any (·.1)=false:=by rfl):PE X (.Call (.Name x p) (e::es) [] pos) (tCB r t):=by
  intro pins s σ H Q I h
  refine wpAny_Call_Name_kw (ld_blt I hg hm hv ?_ hn hdb)
  exact PyProof.Rows.callWith_type1 (thn (ha pos pins s σ H _ I h) fun us s1 ⟨vs,H1,I1,r1,q1⟩=>hc pins s1 σ H1 vs us Q I1 r1 q1) he hpl
end
end L2
namespace HT
open PySem PyProof.Rows
def lexLt:List Int→List Int→Bool
  | [],[]=>false
  | [],_::_=>true
  | _::_,[]=>false
  | x::xs,y::ys=>if x=y then lexLt xs ys else decide (x < y)
section
open PySem.SeqAt
open PySem.AutoSeq1 (wpAny_loadPart')
open PySem.MeetsSeq PySem.MeetsSeq2 PySem.MeetsSeq3
end
section
variable {prog:Program} {w:World} {A:Around} {E:Value→Shared→Prop} {s:Shared}
theorem cat_tup {t b:Addr} {vs ws:List Value} {Q:Value→Shared→Prop} (ht:IsTup s.heap t vs.toArray) (hb:IsTup s.heap b ws.toArray) (hv:vs ≠ [])
    (h1:ws=[]→Q (.ref t) s) (h2:ws ≠ []→Q (.ref s.heap.objs.size) { s with heap:=s.heap.push { cls:=.type "tuple", data:=.seq (vs++ws).toArray } })
    (hsz:vs.length+ws.length≤sizeLine):wpAny (model prog w) A (binaryOp .Add (.ref t) (.ref b)) Q E s:=by
  obtain ⟨⟨cls,dd,data,sl⟩,ho,hc,n,hd⟩:=id ht
  obtain ⟨⟨cls2,dd2,data2,sl2⟩,ho2,hc2,n2,hd2⟩:=id hb
  simp only at hc hd hc2 hd2
  subst hc hd hc2 hd2
  have e:vs.toArray++ws.toArray=(vs++ws).toArray:=by simp
  by_cases hw:ws=[]
  · exact concat_meets ⟨_,ho,rfl⟩ ⟨_,ho2,rfl⟩ noFill_tuple_add seq_tuple_add PySem.F.slot_tuple_add PySem.F.entry_tuple_add (PySem.F.args_tuple_add_2 _ _)
      (tuple_addW1 t b vs.toArray ws.toArray n n2 dd dd2 sl sl2 (by simpa using hv) (by simp [hw])) ⟨ho,ho2,h1 hw⟩
  · refine concat_meets ⟨_,ho,rfl⟩ ⟨_,ho2,rfl⟩ noFill_tuple_add seq_tuple_add PySem.F.slot_tuple_add PySem.F.entry_tuple_add (PySem.F.args_tuple_add_2 _ _)
      (tuple_addW2 t b vs.toArray ws.toArray n n2 dd dd2 sl sl2 (by simpa using hv) (by simpa using hw) (by rw [List.size_toArray,List.size_toArray]; exact hsz)) ⟨ho,ho2,?_⟩
    rw [e]
    exact h2 hw
def sIx (n d:Nat):Option Int→Nat
  | none=>d
  | some v=>if v < 0 then (v+(n:Int)).toNat else min v.toNat n
theorem sIx_none (n d:Nat):sIx n d none=d:=rfl
theorem sIx_nat (n d k:Nat):sIx n d (some (k:Int))=min k n:=by
  show (if (k:Int) < 0 then ((k:Int)+(n:Int)).toNat else min (k:Int).toNat n)=min k n
  rw [if_neg (by omega),Int.toNat_natCast]
theorem sIx_le (n d:Nat) (hd:d≤n) (o:Option Int):sIx n d o≤n:=by
  cases o with
  | none=>exact hd
  | some v =>
    show (if v < 0 then (v+(n:Int)).toNat else min v.toNat n)≤n
    by_cases hv:v < 0
    · rw [if_pos hv]; omega
    · rw [if_neg hv]; exact Nat.min_le_right _ _
theorem clip_eq (v:Int) (n d:Nat):(if v < 0 then max (v+(n:Int)) 0 else min v (n:Int))=((sIx n d (some v):Nat):Int):=by
  show (if v < 0 then max (v+(n:Int)) 0 else min v (n:Int))=(((if v < 0 then (v+(n:Int)).toNat else min v.toNat n):Nat):Int)
  by_cases hv:v < 0
  · simp only [if_pos hv]; omega
  · simp only [if_neg hv]; omega
theorem adjust_gen (lo hi:Option Int) (n:Nat):Builtin.Slice.sliceAdjust lo hi 1 (n:Int)=(((sIx n 0 lo:Nat):Int),((sIx n n hi:Nat):Int)):=by
  have h1:¬ ((1:Int) < 0):=by omega
  unfold Builtin.Slice.sliceAdjust
  simp only [h1,if_false]
  refine Prod.ext ?_ ?_
  · cases lo with
    | none=>rfl
    | some v=>exact clip_eq v n 0
  · cases hi with
    | none=>rfl
    | some v=>exact clip_eq v n n
theorem places_gen (i j:Nat):Builtin.Slice.slicePlaces (i:Int) (j:Int) 1=j - i:=by
  unfold Builtin.Slice.slicePlaces
  have h1:(1:Int) > 0:=by omega
  simp only [h1,if_true,Int.ediv_one]
  split <;> omega
theorem slicePart_ {v:Value} {o:Option Int} {Q:Option Int→Shared→Prop} (p:IsPart v o) (h:Q o s):wpAny (model prog w) A (Builtin.Slice.slicePartIndex v) Q E s:=by
  cases p with
  | none=>exact slicePart_none h
  | int i t=>exact slicePart_int h
theorem sliceApplied_gen {sl:Addr} {vl vu:Value} {lo hi:Option Int} {n:Nat} {Q:Int × Int × Nat→Shared→Prop} (hs:s.heap.IsSliceOf sl vl vu .none) (pl:IsPart vl lo) (pu:IsPart vu hi)
    (h:Q (((sIx n 0 lo:Nat):Int),1,sIx n n hi - sIx n 0 lo) s):wpAny (model prog w) A (Builtin.Slice.sliceApplied (.ref sl) (pure (n:Int))) Q E s:=by
  obtain ⟨os,hos,hcs,hds⟩:=id hs
  unfold Builtin.Slice.sliceApplied Builtin.Slice.sliceFields
  refine wpAny_bind (wpAny_bind (wpAny_field hos hds (x:=vl) rfl (wpAny_bind (wpAny_field hos hds (x:=vu) rfl (wpAny_bind (wpAny_field hos hds (x:=.none) rfl (wpAny_pure ?_)))))))
  refine wpAny_bind (slicePart_none ?_)
  show wpAny _ _ (if ((1:Int) == 0)=true then _ else _) _ _ s
  rw [if_neg (by decide)]
  refine wpAny_bind (slicePart_ pl (wpAny_bind (slicePart_ pu (wpAny_bind (wpAny_pure ?_)))))
  show wpAny _ _ (match Builtin.Slice.sliceAdjust lo hi 1 (n:Int) with | (lo,hi)=>pure (lo,(1:Int),Builtin.Slice.slicePlaces lo hi 1)) _ _ s
  rw [adjust_gen lo hi n]
  show wpAny _ _ (pure (((sIx n 0 lo:Nat):Int),(1:Int),Builtin.Slice.slicePlaces ((sIx n 0 lo:Nat):Int) ((sIx n n hi:Nat):Int) 1)) _ _ s
  rw [places_gen]
  exact wpAny_pure h
theorem pick_gen (xs:Array Value) (i k:Nat):((List.range k).filterMap fun (m:Nat)=>xs[((i:Int)+(m:Int)*1).toNat]?).toArray=((xs.toList.drop i).take k).toArray:=by
  have e:(fun (m:Nat)=>xs[((i:Int)+(m:Int)*1).toNat]?)=fun m=>xs[i+m]?:=by
    funext m
    have:((i:Int)+(m:Int)*1).toNat=i+m:=by omega
    rw [this]
  rw [e]
  have:=pick_run xs i k
  rw [List.filterMap_map] at this
  have e2:((fun x=>xs[x]?) ∘ fun x=>i+x)=fun m=>xs[i+m]?:=rfl
  rw [e2] at this
  rw [this]
theorem getItem_tuple_cut {t sl:Addr} {items:Array Value} {vl vu:Value} {lo hi:Option Int} {Q:Value→Shared→Prop} (ht:IsTup s.heap t items) (hs:s.heap.IsSliceOf sl vl vu .none) (pl:IsPart vl lo) (pu:IsPart vu hi)
    (hw:¬ (sIx items.size 0 lo=0∧sIx items.size items.size hi=items.size))
    (h:Q (.ref s.heap.objs.size) { s with heap:=s.heap.push { cls:=.type "tuple", data:=.seq ((items.toList.drop (sIx items.size 0 lo)).take (sIx items.size items.size hi - sIx items.size 0 lo)).toArray } })
    (hsz:items.size≤sizeLine):wpAny (model prog w) A (getItem (.ref t) (.ref sl)) Q E s:=by
  have htake:sizeOk (.seq ((items.toList.drop (sIx items.size 0 lo)).take (sIx items.size items.size hi - sIx items.size 0 lo)).toArray):=by
    show ((items.toList.drop (sIx items.size 0 lo)).take (sIx items.size items.size hi - sIx items.size 0 lo)).toArray.size≤sizeLine
    rw [List.size_toArray,List.length_take,List.length_drop,Array.length_toList]
    omega
  have hj:sIx items.size items.size hi≤items.size:=sIx_le _ _ (Nat.le_refl _) hi
  obtain ⟨os,hos,hcs,hds⟩:=id hs
  have hTs:s.TypeIs (.ref sl) "slice" := ⟨os,hos,hcs⟩
  unfold getItem
  try with_reducible refine wpAny_holding ?_
  first | refine wpAny_bind (wpAny_pure ?_) | skip
  refine wpAny_bind (wpAny_sequenceKey ht.typeIs (by decide) ?_)
  refine wpAny_bind (wpAny_callSpecial?_slot (name:=Str.ofString "__getitem__") ht.typeIs PyProof.Rows.slot_tuple_getitem
    (wpAny_call_entry PyProof.Rows.slot_tuple_getitem ht.typeIs entry_tuple_getitem ?_ (args_tuple_getitem _ _)))
  show wpAny _ _ (Builtin.Tuple.tupleItemsOf (.ref t) >>= _) _ _ s
  refine wpAny_bind (tupleItemsOf_ ht ?_)
  refine wpAny_bind (wpAny_typeOf hTs ?_)
  rw [if_pos (by decide)]
  refine wpAny_bind (sliceApplied_gen hs pl pu ?_)
  have hno:¬ ((((sIx items.size 0 lo:Nat):Int) == 0 && (1:Int) == 1 && (sIx items.size items.size hi - sIx items.size 0 lo) == items.size)=true):=by
    intro q
    rw [Bool.and_eq_true,Bool.and_eq_true] at q
    have q1:((sIx items.size 0 lo:Nat):Int)=0:=eq_of_beq q.1.1
    have q2:sIx items.size items.size hi - sIx items.size 0 lo=items.size:=eq_of_beq q.2
    exact hw ⟨by omega,by omega⟩
  show wpAny _ _ (if (((sIx items.size 0 lo:Nat):Int) == 0 && (1:Int) == 1 && (sIx items.size items.size hi - sIx items.size 0 lo) == items.size)=true then _ else _) _ _ s
  rw [if_neg hno,pick_gen]
  first
    | exact wpAny_bind (m:=Builtin.Tuple.tupleExact _) (wpAny_newObj_type (wpAny_pure ⟨_,rfl,wpAny_pure h⟩) htake)
    | exact wpAny_bind (m:=Builtin.Tuple.tupleExact _) (wpAny_newObj_type (wpAny_bind (wpAny_pure (wpAny_pure ⟨_,rfl,wpAny_pure h⟩))) htake)
    | exact wpAny_bind (wpAny_bind (m:=Builtin.Tuple.tupleExact _) (wpAny_newObj_type (wpAny_pure (wpAny_pure ⟨_,rfl,wpAny_pure h⟩)) htake))
    | exact wpAny_bind (wpAny_bind (m:=Builtin.Tuple.tupleExact _) (wpAny_newObj_type (wpAny_pure ⟨_,rfl,wpAny_pure h⟩) htake))
end
end HT
namespace L2
open PySem PySem.Spec PyProof.Rows
abbrev TO:=St→Hp→(Option Int→Hp→Prop)→Prop
def PO (X:Cx) (e:Option Expr) (t:TO):Prop :=
  ∀ (pins:List (Addr × Obj)) (s:Shared) (σ:St) (H:Hp) (Q:Option Int→Hp→Prop),Inv X pins σ H s→t σ H Q →
    wpAny (model X.prog X.w) X.A (evalPart e X.env) (fun u s'=>∃ o H',Inv X pins σ H' s'∧IsPart u o∧Q o H') X.xe s
def tNoPart:TO:=fun _ H Q=>Q none H
def tPart (t:TE):TO:=fun σ H Q=>t σ H fun x H1=>∃ i,x=.int i∧Q (some i) H1
section
variable {X:Cx} {e:Expr} {te:TE} {lo hi:Option Expr} {tl th:TO} {pos p2:Pos}
theorem po_none:PO X none tNoPart:=by
  intro pins s σ H Q I h
  rw [evalPart_none]
  exact wpAny_pure ⟨none,H,I,.none,h⟩
theorem po_some (h:PE X e te):PO X (some e) (tPart te):=by
  intro pins s σ H Q I hw
  rw [evalPart_some]
  refine thn (h pins s σ H _ I hw) fun u s1 ⟨x,H1,I1,r1,q1⟩=>?_
  obtain ⟨i,rfl,q⟩:=q1
  obtain ⟨t,rfl⟩:=r1
  exact ⟨some i,H1,I1,.int i t,q⟩
def SlR (X:Cx) (r:V→Option Int→Option Int→Hp→VK→Prop):Prop :=
  ∀ (pins:List (Addr × Obj)) (s:Shared) (σ:St) (H:Hp) (x:V) (v vl vu:Value) (lo hi:Option Int) (sl:Addr) (Q:VK),Inv X pins σ H s→RelV x v→s.heap.IsSliceOf sl vl vu .none→IsPart vl lo→IsPart vu hi→r x lo hi H Q →
    ∃ T id,typeLookup (.type T) "__getitem__" = pure (some (.builtin id))∧s.TypeIs v T∧wpAny (model X.prog X.w) X.A (getItem v (.ref sl)) (EP X pins σ Q) X.xe s
def tSl (r:V→Option Int→Option Int→Hp→VK→Prop) (te:TE) (tl th:TO):TE:=fun σ H Q=>te σ H fun x H1=>tl σ H1 fun l H2=>th σ H2 fun u H3=>r x l u H3 Q
theorem pe_slice {r:V→Option Int→Option Int→Hp→VK→Prop} (hr:SlR X r) (he:PE X e te) (hl:PO X lo tl) (hu:PO X hi th):PE X (.Subscript e (.Slice lo hi none p2) pos) (tSl r te tl th):=by
  intro pins s σ H Q I h
  refine Subscript_ (thn (he pins s σ H _ I h) fun v s1 ⟨x,H1,I1,r1,q1⟩=>?_)
  refine wpAny_Slice (thn (hl pins s1 σ H1 _ I1 q1) fun vl s2 ⟨l,H2,I2,pl,q2⟩=>thn (hu pins s2 σ H2 _ I2 q2) fun vu s3 ⟨u,H3,I3,pu,q3⟩=>?_)
  rw [evalPart_none]
  refine wpAny_pure ?_
  have I4:Inv X pins σ H3 { s3 with heap:=s3.heap.push { cls:=.type "slice", data:=.fields #[vl,vu,.none] } }:=I3.kept (t':=s3.toks) fun b ob q=>Heap.get?_push_of_some _ q
  obtain ⟨T,id,hT,ht,hg⟩:=hr pins { s3 with heap:=s3.heap.push { cls:=.type "slice", data:=.fields #[vl,vu,.none] } } σ H3 x v vl vu l u s3.heap.objs.size Q I4 r1 (Heap.IsSliceOf.new ..) pl pu q3
  show wpAny (model X.prog X.w) X.A (subscriptTail e (.Slice lo hi none p2) v (.ref s3.heap.objs.size)) (EP X pins σ Q) X.xe { s3 with heap:=s3.heap.push { cls:=.type "slice", data:=.fields #[vl,vu,.none] } }
  exact tail_any (ops:=[.ref s3.heap.objs.size,v]) ht hT hg (by with_unfolding_all rfl)
def cutV (xs:List V) (lo hi:Option Int):List V:=(xs.drop (HT.sIx xs.length 0 lo)).take (HT.sIx xs.length xs.length hi - HT.sIx xs.length 0 lo)
theorem cutV_length (xs:List V) (lo hi:Option Int):(cutV xs lo hi).length≤xs.length:=by
  unfold cutV
  rw [List.length_take,List.length_drop]
  omega
def rSlT (K:PySem.W.Frag):V→Option Int→Option Int→Hp→VK→Prop:=fun x lo hi H Q=>∃ a xs,x=.ref a∧SqT K H a xs ∧
  ¬ (HT.sIx xs.length 0 lo=0∧HT.sIx xs.length xs.length hi=xs.length)∧∀ p,H p=none→Q (.ref p) (upd H p (.tup (cutV xs lo hi)))
theorem sl_tup:SlR X (rSlT X.K):=by
  intro pins s σ H x v vl vu lo hi sl Q I rx hs pl pu h
  obtain ⟨a,xs,rfl,hx,hw,q⟩:=h
  cases rx
  obtain ⟨its,r,ht,hz⟩:=I.tuple hx
  have hlen:its.toArray.size=xs.length:=by rw [List.size_toArray]; exact r.length.symm
  refine ⟨"tuple", _,PyProof.Rows.slot_tuple_getitem.lookup,ht.typeIs,?_⟩
  refine HT.getItem_tuple_cut ht hs pl pu (by rw [hlen]; exact hw) ?_ (by rw [hlen]; exact hz)
  rw [hlen]
  refine ⟨.ref s.heap.objs.size,_,I.laid (t':=s.toks) (o:=.tup (cutV xs lo hi)) (fun b ob q=>Heap.get?_push_of_some _ q) (Nat.le_refl _) ?_,rfl,q _ (I.hok.fresh (Nat.le_refl _))⟩
  exact ⟨Nat.le_trans (cutV_length xs lo hi) hz,_,(r.drop (HT.sIx xs.length 0 lo)).take (HT.sIx xs.length xs.length hi - HT.sIx xs.length 0 lo),IsTup.new _ _,_,Heap.get?_push_size _ rfl,rfl⟩
def rLtT (K:PySem.W.Frag):R2:=fun x y H Q=>∃ a b ns ms,x=.ref a∧y=.ref b∧SqT K H a (ns.map V.int)∧SqT K H b (ms.map V.int)∧Q (.bl (HT.lexLt ns ms)) H
def rCatT (K:PySem.W.Frag):R2:=fun x y H Q=>∃ a b xs ys,x=.ref a∧y=.ref b∧SqT K H a xs∧SqT K H b ys∧xs ≠ []∧xs.length+ys.length≤sizeLine ∧
  (ys=[]→Q (.ref a) H)∧(ys ≠ []→∀ p,H p=none→Q (.ref p) (upd H p (.tup (xs++ys))))
theorem Vals.nil_iff {xs:List V} {us:List Value} (r:Vals xs us):us=[]↔xs=[]:=by
  cases r with
  | nil=>simp
  | cons _ _=>simp
theorem op_catT:OpR X (binaryOp .Add) (rCatT X.K):=by
  intro pins s σ H x y v u Q I rx ry h
  obtain ⟨a,b,xs,ys,rfl,rfl,ha,hb,hx,hz,q1,q2⟩:=h
  cases rx
  cases ry
  obtain ⟨its,r1,p1,_⟩:=I.tuple ha
  obtain ⟨its2,r2,p2,_⟩:=I.tuple hb
  refine HT.cat_tup p1 p2 (fun z=>hx (r1.nil_iff.mp z)) (fun z=>⟨.ref a,H,I,rfl,q1 (r2.nil_iff.mp z)⟩) (fun z=>?_) (by rw [← r1.length,← r2.length]; exact hz)
  refine ⟨.ref s.heap.objs.size,_,I.laid (t':=s.toks) (o:=.tup (xs++ys)) (fun b ob q=>Heap.get?_push_of_some _ q) (Nat.le_refl _) ?_,rfl,q2 (fun w=>z (r2.nil_iff.mpr w)) _ (I.hok.fresh (Nat.le_refl _))⟩
  exact ⟨by rw [List.length_append]; exact hz,_,r1.append r2,IsTup.new _ _,_,Heap.get?_push_size _ rfl,rfl⟩
end
end L2
namespace L2
open PySem PySem.Spec PyProof.Rows
def ixN (n:Nat) (i:Int):Option Nat:=if 0≤i then (if i < n then some i.toNat else none) else if -(n:Int)≤i then some (i+n).toNat else none
def atI {α:Type} (xs:List α) (i:Int):Option α:=(ixN xs.length i).bind fun j=>xs[j]?
theorem ixN_seq {n:Nat} {i:Int} {j:Nat} (h:ixN n i=some j):seqIndex? i n=some j∧j < n∧-(n:Int)≤i∧i < n:=by
  unfold ixN at h
  by_cases h0:0≤i
  · rw [if_pos h0] at h
    by_cases h1:i < n
    · rw [if_pos h1] at h
      have e:i.toNat=j:=Option.some.inj h
      exact ⟨by rw [seqIndex_of h0 h1,e],by omega,by omega,h1⟩
    · rw [if_neg h1] at h; cases h
  · rw [if_neg h0] at h
    by_cases h1:-(n:Int)≤i
    · rw [if_pos h1] at h
      have e:(i+n).toNat=j:=Option.some.inj h
      exact ⟨by rw [seqIndex_neg (by omega) h1,e],by omega,h1,by omega⟩
    · rw [if_neg h1] at h; cases h
theorem atI_get {α:Type} {xs:List α} {i:Int} {v:α} (h:atI xs i=some v):∃ j,seqIndex? i xs.length=some j∧xs[j]?=some v∧j < xs.length∧-(xs.length:Int)≤i∧i < xs.length:=by
  unfold atI at h
  cases e:ixN xs.length i with
  | none=>rw [e] at h; cases h
  | some j =>
    rw [e] at h
    obtain ⟨h1,h2,h3,h4⟩:=ixN_seq e
    exact ⟨j,h1,h,h2,h3,h4⟩
theorem atI_nat {α:Type} {xs:List α} {j:Nat} {v:α} (h:xs[j]?=some v):atI xs (j:Int)=some v:=by
  have hj:j < xs.length:=(List.getElem?_eq_some_iff.mp h).1
  have e:ixN xs.length (j:Int)=some j:=by
    unfold ixN
    rw [if_pos (by omega),if_pos (by omega)]; simp
  unfold atI; rw [e]; exact h
def PlainIx (b:Expr):Prop:=∀ o i,subscripted b false o i=operate [o,i] (getItem o i)
def IxR (X:Cx) (r:R2):Prop :=
  ∀ (value slice:Expr) (pins:List (Addr × Obj)) (s:Shared) (σ:St) (H:Hp) (x y:V) (v u:Value) (Q:VK),Inv X pins σ H s→RelV x v→RelV y u→r x y H Q →
    subscripted slice false v u=operate [v,u] (getItem v u)→wpAny (model X.prog X.w) X.A (subscriptTail value slice v u) (EP X pins σ Q) X.xe s
def MtR (X:Cx) (id:String) (r:V→List V→Hp→VK→Prop):Prop :=
  ∀ (pins:List (Addr × Obj)) (s:Shared) (σ:St) (H:Hp) (x:V) (xs:List V) (v:Value) (us:List Value) (Q:VK),Inv X pins σ H s→RelV x v→Vals xs us→r x xs H Q →
    wpAny (model X.prog X.w) X.A (call (.builtin id) (v::us)) (EP X pins σ Q) X.xe s
section
variable {X:Cx} {a b:Expr} {ta tb:TE} {pos:Pos}
theorem IxR.or {r r':R2} (h:IxR X r) (h':IxR X r'):IxR X (fun x y H Q=>r x y H Q∨r' x y H Q):=by
  intro value slice pins s σ H x y v u Q I rx ry q hs
  rcases q with q | q
  · exact h value slice pins s σ H x y v u Q I rx ry q hs
  · exact h' value slice pins s σ H x y v u Q I rx ry q hs
theorem pe_ix {r:R2} (hr:IxR X r) (ha:PE X a ta) (hb:PE X b tb) (hs:PlainIx b):PE X (.Subscript a b pos) (tOp r ta tb):=by
  intro pins s σ H Q I h
  exact Subscript_ (binT ha hb I h fun v u s2 x y H2 I2 rx ry q=>hr a b pins s2 σ H2 x y v u Q I2 rx ry q (hs _ _))
def rIxL (K:PySem.W.Frag):R2:=fun x y H Q=>∃ p xs i v,x=.ref p∧y=.int i∧SqL K H p xs∧atI xs i=some v∧Q v H
def rIxT (K:PySem.W.Frag):R2:=fun x y H Q=>∃ p xs i v,x=.ref p∧y=.int i∧SqT K H p xs∧atI xs i=some v∧Q v H
def rIxS:R2:=fun x y H Q=>∃ z i c,x=.str z∧y=.int i∧z.length≤sizeLine∧atI z.cps.toList i=some c∧Q (.str ⟨#[c]⟩) H
theorem ix_list:IxR X (rIxL X.K):=by
  intro value slice pins s σ H x y v u Q I rx ry h hs
  obtain ⟨p,xs,i,z,rfl,rfl,hq,he,q⟩:=h
  cases rx
  obtain ⟨t,rfl⟩:=ry
  obtain ⟨its,r,pl,hz⟩:=I.list hq
  obtain ⟨j,h1,h2,h3,h4,h5⟩:=atI_get he
  obtain ⟨w,ew,rw'⟩:=r.get h2
  have hl:=r.length
  have hn:=line63
  have fin:EP X pins σ Q w s:=⟨z,H,I,rw',q⟩
  by_cases h0:0≤i
  · have hj:i.toNat=j:=by
      rw [seqIndex_of h0 h5] at h1
      exact Option.some.inj h1
    exact item_listR pl.isList h0 (by omega) (by rw [hj]; simpa using ew) fin hs
  · have hj:(i+(its.toArray.size:Int)).toNat=j:=by
      rw [seqIndex_neg (by omega) h4] at h1
      rw [List.size_toArray,← hl]
      exact Option.some.inj h1
    exact subscriptTail_builtinR (x:=w) pl.isList.typeIs slot_list_getitem.lookup
      (wpAny_getItem_list_neg (Q:=fun r s'=>r=w∧EP X pins σ Q r s') pl.isList (by omega) (by rw [List.size_toArray] <;> omega) (by omega) (by rw [hj]; simpa using ew) ⟨rfl,fin⟩) hs
theorem ix_tup:IxR X (rIxT X.K):=by
  intro value slice pins s σ H x y v u Q I rx ry h hs
  obtain ⟨p,xs,i,z,rfl,rfl,hq,he,q⟩:=h
  cases rx
  obtain ⟨t,rfl⟩:=ry
  obtain ⟨its,r,pl,hz⟩:=I.tuple hq
  obtain ⟨j,h1,h2,h3,h4,h5⟩:=atI_get he
  obtain ⟨w,ew,rw'⟩:=r.get h2
  have hl:=r.length
  have hn:=line63
  have fin:EP X pins σ Q w s:=⟨z,H,I,rw',q⟩
  exact subscriptTail_builtinR (x:=w) pl.typeIs slot_tuple_getitem.lookup
    (getItem_tuple (j:=j) (Q:=fun r s'=>r=w∧EP X pins σ Q r s') pl (by omega) (by omega) (by rw [List.size_toArray,← hl]; exact h1) (by simpa using ew) ⟨rfl,fin⟩) hs
theorem ix_str:IxR X rIxS:=by
  intro value slice pins s σ H x y v u Q I rx ry h hs
  obtain ⟨z,i,c,rfl,rfl,hz,he,q⟩:=h
  obtain ⟨t,rfl⟩:=rx
  obtain ⟨t',rfl⟩:=ry
  obtain ⟨j,h1,h2,h3,h4,h5⟩:=atI_get he
  have hl:z.cps.toList.length=z.length:=by simp [Str.length]
  rw [hl] at h1 h4 h5
  have hn:=line63
  exact tail_any (typeIs_str s z t) slot_str_getitem.lookup (getItem_str (c:=c) (by
    have e1:decide (i < -(2 ^ 63:Int))=false:=decide_eq_false (by omega)
    have e2:decide (i ≥ 2 ^ 63)=false:=decide_eq_false (by omega)
    rw [e1,e2,Bool.or_false]) (by rw [h1]; simpa using h2) ⟨.str ⟨#[c]⟩,H,I.tok _,⟨_,rfl⟩,q⟩) hs
def rIx (K:PySem.W.Frag):R2:=fun x y H Q=>rIxL K x y H Q∨rIxT K x y H Q∨rIxS x y H Q
theorem mapSeq_set (its:List Value) (n j:Nat) (u:Value):Obj.mapSeq (·.setIfInBounds j u) { cls:=.type "list", data:=.seq its.toArray n }={ cls:=.type "list", data:=.seq (its.set j u).toArray n }:=by
  simp [Obj.mapSeq]
theorem Inv.lst {pins:List (Addr × Obj)} {σ:St} {H:Hp} {s:Shared} {p:Addr} {xs:List V} (I:Inv X pins σ H s) (h:H p=some (.lst xs)) :
    ∃ (its:List Value) (n:Nat),Vals xs its∧s.heap.get? p=some { cls:=.type "list", data:=.seq its.toArray n }∧xs.length≤sizeLine:=by
  obtain ⟨z,its,n,r,e⟩:=I.hok p _ h
  exact ⟨its,n,r,e,z⟩
theorem Inv.lstUpd {pins:List (Addr × Obj)} {σ:St} {H:Hp} {s:Shared} {p:Addr} {xs ys:List V} {its its':List Value} {n n':Nat} {f:Obj→Obj} (I:Inv X pins σ H s) (h:H p=some (.lst xs))
    (ho:s.heap.get? p=some { cls:=.type "list", data:=.seq its.toArray n }) (hf:f { cls:=.type "list", data:=.seq its.toArray n }={ cls:=.type "list", data:=.seq its'.toArray n' }) (r:Vals ys its') (hz:ys.length≤sizeLine) (t:Nat) :
    Inv X pins σ (upd H p (.lst ys)) { s with heap:=s.heap.update p f,toks:=t }:=by
  have e:(s.heap.update p f).get? p=some { cls:=.type "list", data:=.seq its'.toArray n' }:=by
    rw [Heap.get?_update_self f ho (by rw [hf] <;> rfl),hf]
  refine I.write (x:=p) (e:=p) (by rw [h]; trivial) (.inl rfl) (fun b u hb q=>(Heap.get?_update_other _ _ (Ne.symm hb)).trans q) ⟨_,e⟩ ?_
  exact ⟨hz,its',n',r,e⟩
def rSetL:V→V→V→Hp→(Hp→Prop)→Prop:=fun o i v H Q=>∃ p xs k j,o=.ref p∧i=.int k∧H p=some (.lst xs)∧ixN xs.length k=some j∧Q (upd H p (.lst (xs.set j v)))
theorem set_list:PSet X rSetL:=by
  intro pins s σ H o i v ov iv u Q I ro ri rv h
  obtain ⟨p,xs,k,j,rfl,rfl,hp,hj,q⟩:=h
  cases ro
  obtain ⟨t,rfl⟩:=ri
  obtain ⟨its,n,r,ho,hz⟩:=I.lst hp
  obtain ⟨h1,h2,h3,h4⟩:=ixN_seq hj
  have hl:=r.length
  have hn:=line63
  have I':Inv X pins σ (upd H p (.lst (xs.set j v))) { s with heap:=s.heap.update p (Obj.mapSeq (·.setIfInBounds j u)) } :=
    I.lstUpd hp ho (mapSeq_set its n j u) (r.set rv j) (by rw [List.length_set]; exact hz) s.toks
  by_cases h0:0≤k
  · have hk:k.toNat=j:=by
      rw [seqIndex_of h0 h4] at h1
      exact Option.some.inj h1
    exact PySem.W.ki_setAt ho h0 (by omega) (by rw [List.size_toArray,← hl]; exact h4) (by rw [hk]; exact ⟨_,I',q⟩)
  · have hk:(k+(its.toArray.size:Int)).toNat=j:=by
      rw [seqIndex_neg (by omega) h3] at h1
      rw [List.size_toArray,← hl]
      exact Option.some.inj h1
    exact PySem.W.ki_setBack ho (by omega) (by rw [List.size_toArray,← hl]; exact h3) (by omega) (by rw [hk]; exact ⟨_,I',q⟩)
theorem slice_bounds (lo hi:Option Int) (n:Nat):(sliceBounds lo hi none n).1=((HT.sIx n 0 lo:Nat):Int)∧(sliceBounds lo hi none n).2.1=((HT.sIx n n hi:Nat):Int)∧(sliceBounds lo hi none n).2.2=1:=by
  refine ⟨?_,?_,rfl⟩
  · cases lo with
    | none=>simp [sliceBounds,HT.sIx]
    | some i =>
      simp only [sliceBounds,HT.sIx,Option.getD_none,show (1:Int) > 0 by decide,if_true]
      by_cases h:i < 0
      · simp only [h,if_true] <;> omega
      · simp only [h,if_false] <;> omega
  · cases hi with
    | none=>simp [sliceBounds,HT.sIx]
    | some i =>
      simp only [sliceBounds,HT.sIx,Option.getD_none,show (1:Int) > 0 by decide,if_true]
      by_cases h:i < 0
      · simp only [h,if_true] <;> omega
      · simp only [h,if_false] <;> omega
theorem slicePick_cut (its:List Value) (lo hi:Option Int):slicePick its.toArray lo hi none=((its.drop (HT.sIx its.length 0 lo)).take (HT.sIx its.length its.length hi - HT.sIx its.length 0 lo)).toArray:=by
  obtain ⟨h1,h2,h3⟩:=slice_bounds lo hi its.toArray.size
  unfold slicePick
  rw [h1,h2,h3]
  simp only [sliceRange_one,pick_run,List.size_toArray] <;> rfl
def rSlL (K:PySem.W.Frag):V→Option Int→Option Int→Hp→VK→Prop:=fun x lo hi H Q=>∃ a xs,x=.ref a∧SqL K H a xs∧∀ p,H p=none→Q (.ref p) (upd H p (.lst (cutV xs lo hi)))
theorem sl_list:SlR X (rSlL X.K):=by
  intro pins s σ H x v vl vu lo hi sl Q I rx hs pl pu h
  obtain ⟨a,xs,rfl,hx,q⟩:=h
  cases rx
  obtain ⟨its,r,ht,hz⟩:=I.list hx
  have hlen:=r.length
  refine ⟨"list", _,slot_list_getitem.lookup,ht.isList.typeIs,?_⟩
  refine wpAny_getItem_list_slice ht.isList hs pl pu .none (by simp) ?_ (by rw [List.size_toArray] <;> omega)
  rw [slicePick_cut,← hlen]
  refine ⟨.ref s.heap.objs.size,_,I.laid (t':=s.toks) (o:=.lst (cutV xs lo hi)) (fun b ob q=>Heap.get?_push_of_some _ q) (Nat.le_refl _) ?_,rfl,q _ (I.hok.fresh (Nat.le_refl _))⟩
  exact ⟨Nat.le_trans (cutV_length xs lo hi) hz,_,0,(r.drop (HT.sIx xs.length 0 lo)).take (HT.sIx xs.length xs.length hi - HT.sIx xs.length 0 lo),Heap.get?_push_size _ rfl⟩
def flatV:V→Bool
  | .non=>true
  | .bl _=>true
  | .int _=>true
  | .str _=>true
  | _=>false
def eqV:V→V→Bool
  | .non,.non=>true
  | .bl a,.bl b=>a == b
  | .bl a,.int b=>(if a then 1 else 0) == b
  | .int a,.bl b=>a == (if b then 1 else 0)
  | .int a,.int b=>a == b
  | .str a,.str b=>a == b
  | _,_=>false
theorem eqAt_V {A:Around} {s:Shared} {y x:V} {u v:Value} (ry:RelV y u) (rx:RelV x v) (fy:flatV y=true) (fx:flatV x=true):SeqAt.EqAt A s u v (eqV y x):=by
  cases y with
  | non =>
    cases ry
    cases x with
    | non=>cases rx; exact SeqAt.EqAt.same _
    | bl b=>cases rx; exact SeqAt.EqAt.none_bool b
    | int b=>obtain ⟨t,rfl⟩:=rx; exact SeqAt.EqAt.none_int b t
    | str b=>obtain ⟨t,rfl⟩:=rx; exact SeqAt.EqAt.none_str b t
    | _=>exact absurd (show false=true from fx) Bool.false_ne_true
  | bl a =>
    cases ry
    cases x with
    | non=>cases rx; exact SeqAt.EqAt.bool_none a
    | bl b=>cases rx; exact SeqAt.EqAt.bool_bool a b
    | int b=>obtain ⟨t,rfl⟩:=rx; exact SeqAt.EqAt.bool_int a b t
    | str b=>obtain ⟨t,rfl⟩:=rx; exact SeqAt.EqAt.bool_str a b t
    | _=>exact absurd (show false=true from fx) Bool.false_ne_true
  | int a =>
    obtain ⟨t',rfl⟩:=ry
    cases x with
    | non=>cases rx; exact SeqAt.EqAt.int_none a t'
    | bl b=>cases rx; exact SeqAt.EqAt.int_bool a t' b
    | int b=>obtain ⟨t,rfl⟩:=rx; exact SeqAt.EqAt.int_int a t' b t
    | str b=>obtain ⟨t,rfl⟩:=rx; exact SeqAt.EqAt.int_str a t' b t
    | _=>exact absurd (show false=true from fx) Bool.false_ne_true
  | str a =>
    obtain ⟨t',rfl⟩:=ry
    cases x with
    | non=>cases rx; exact SeqAt.EqAt.str_none a t'
    | bl b=>cases rx; exact SeqAt.EqAt.str_bool a t' b
    | int b=>obtain ⟨t,rfl⟩:=rx; exact SeqAt.EqAt.str_int a t' b t
    | str b=>obtain ⟨t,rfl⟩:=rx; exact SeqAt.EqAt.str_str a t' b t
    | _=>exact absurd (show false=true from fx) Bool.false_ne_true
  | _=>exact absurd (show false=true from fy) Bool.false_ne_true
def eqU (x:V) (u:Value):Bool:=match u with
  | .none=>eqV .non x
  | .bool b=>eqV (.bl b) x
  | .int i _=>eqV (.int i) x
  | .str z _=>eqV (.str z) x
  | _=>false
theorem eqU_of {x y:V} {u:Value} (r:RelV y u) (f:flatV y=true):eqU x u=eqV y x:=by
  cases y with
  | non=>cases r; rfl
  | bl b=>cases r; rfl
  | int i=>obtain ⟨t,rfl⟩:=r; rfl
  | str z=>obtain ⟨t,rfl⟩:=r; rfl
  | _=>exact absurd (show false=true from f) Bool.false_ne_true
theorem any_eqU {x:V}:∀ {xs:List V} {us:List Value},Vals xs us→xs.all flatV=true→us.any (eqU x)=xs.any fun y=>eqV y x
  | _,_,.nil,_=>rfl
  | y::xs,u::us,.cons r t,f=>by
    rw [List.all_cons,Bool.and_eq_true] at f
    rw [List.any_cons,List.any_cons,eqU_of r f.1,any_eqU t f.2]
theorem mem_eqAt {A:Around} {s:Shared} {x:V} {v:Value} (rx:RelV x v) (fx:flatV x=true):∀ {xs:List V} {us:List Value},Vals xs us→xs.all flatV=true→∀ u ∈ us,SeqAt.EqAt A s u v (eqU x u)
  | _,_,.nil,_=>fun u hu=>by cases hu
  | y::xs,u::us,.cons r t,f=>fun u' hu=>by
    rw [List.all_cons,Bool.and_eq_true] at f
    rcases List.mem_cons.mp hu with rfl | hu
    · rw [eqU_of r f.1]; exact eqAt_V r rx f.1 fx
    · exact mem_eqAt rx fx t f.2 u' hu
def inV (x:V) (xs:List V):Bool:=xs.any fun y=>eqV y x
def rIn (K:PySem.W.Frag) (neg:Bool):R2:=fun x y H Q=>∃ p xs,y=.ref p∧(SqL K H p xs∨SqT K H p xs)∧flatV x=true∧xs.all flatV=true∧Q (.bl (if neg then !inV x xs else inV x xs)) H
theorem op_in_seq:OpR X (compareOp .In) (rIn X.K false):=by
  intro pins s σ H x y v u Q I rx ry h
  obtain ⟨p,xs,rfl,hq,fx,fs,q⟩:=h
  cases ry
  rcases hq with hq | hq
  · obtain ⟨its,r,pl,hz⟩:=I.list hq
    refine SeqAt.in_listAt (eqU x) pl.isList (fun w hw=>mem_eqAt rx fx r fs w (by simpa using hw)) ⟨.bl _,H,I,rfl,?_⟩
    rw [show its.toArray.any (eqU x)=its.any (eqU x) by simp,any_eqU r fs]
    exact q
  · obtain ⟨its,r,pl,hz⟩:=I.tuple hq
    refine SeqAt.in_tupleAt (eqU x) pl (fun w hw=>mem_eqAt rx fx r fs w (by simpa using hw)) ⟨.bl _,H,I,rfl,?_⟩
    rw [show its.toArray.any (eqU x)=its.any (eqU x) by simp,any_eqU r fs]
    exact q
theorem op_notIn_seq:OpR X (compareOp .NotIn) (rIn X.K true):=by
  intro pins s σ H x y v u Q I rx ry h
  obtain ⟨p,xs,rfl,hq,fx,fs,q⟩:=h
  cases ry
  rcases hq with hq | hq
  · obtain ⟨its,r,pl,hz⟩:=I.list hq
    refine SeqAt.notIn_listAt (eqU x) pl.isList (fun w hw=>mem_eqAt rx fx r fs w (by simpa using hw)) ⟨.bl _,H,I,rfl,?_⟩
    rw [show its.toArray.any (eqU x)=its.any (eqU x) by simp,any_eqU r fs]
    exact q
  · obtain ⟨its,r,pl,hz⟩:=I.tuple hq
    refine SeqAt.notIn_tupleAt (eqU x) pl (fun w hw=>mem_eqAt rx fx r fs w (by simpa using hw)) ⟨.bl _,H,I,rfl,?_⟩
    rw [show its.toArray.any (eqU x)=its.any (eqU x) by simp,any_eqU r fs]
    exact q
theorem op_notIn_str:OpR X (compareOp .NotIn) (fun x y H Q=>∃ i j,x=.str i∧y=.str j∧Q (.bl (!(!(Builtin.Str.occurrences j i 0 j.length 1).isEmpty))) H):=by
  intro pins s σ H x y v u Q I rx ry h
  obtain ⟨i,j,rfl,rfl,q⟩:=h
  obtain ⟨t,rfl⟩:=rx
  obtain ⟨t',rfl⟩:=ry
  exact notIn_str ⟨.bl _,H,I,rfl,q⟩
theorem call_len_seq:CallR X (.builtin "len") (fun xs H Q=>∃ p ys,xs=[.ref p]∧(SqL X.K H p ys∨SqT X.K H p ys)∧Q (.int ys.length) H):=by
  intro pins s σ H xs us Q I r h
  obtain ⟨p,ys,rfl,hq,q⟩:=h
  obtain ⟨u,rfl,rx⟩:=vals1 r
  cases rx
  have hn:=line63
  rcases hq with hq | hq
  · obtain ⟨its,r',pl,hz⟩:=I.list hq
    have hlen:=r'.length
    exact Calls.call_len_list pl.isList (by simp only [List.size_toArray] <;> omega) ⟨.int ys.length,H,I.tok _,⟨s.toks+1,by rw [List.size_toArray,hlen]⟩,q⟩
  · obtain ⟨its,r',pl,hz⟩:=I.tuple hq
    have hlen:=r'.length
    exact len_tuple pl (by simp only [List.size_toArray] <;> omega) ⟨.int ys.length,H,I.tok _,⟨s.toks+1,by rw [List.size_toArray,hlen]⟩,q⟩
theorem call_len_str:CallR X (.builtin "len") (fun xs H Q=>∃ z,xs=[.str z]∧z.length≤sizeLine∧Q (.int z.length) H):=by
  intro pins s σ H xs us Q I r h
  obtain ⟨z,rfl,hz,q⟩:=h
  obtain ⟨u,rfl,t,rfl⟩:=vals1 r
  have hn:=line63
  exact len_str (by omega) ⟨.int z.length,H,I.tok _,⟨_,rfl⟩,q⟩
theorem call_list_of:CallR X (.type "list") (fun xs H Q=>∃ p ys,xs=[.ref p]∧(SqL X.K H p ys∨SqT X.K H p ys)∧∀ l,H l=none→Q (.ref l) (upd H l (.lst ys))):=by
  intro pins s σ H xs us Q I r h
  obtain ⟨p,ys,rfl,hq,q⟩:=h
  obtain ⟨u,rfl,rx⟩:=vals1 r
  cases rx
  have fin:∀ (its:List Value),Vals ys its→ys.length≤sizeLine→∀ (h':Heap) (c':Nat),(∀ b o',s.heap.get? b=some o'→h'.get? b=some o') →
      h'.get? s.heap.objs.size=some { cls:=.type "list", dict:=none,data:=.seq its.toArray c',slots:=#[] }→EP X pins σ Q (.ref s.heap.objs.size) { s with heap:=h' }:=fun its r' hz h' c' kp e =>
    ⟨.ref s.heap.objs.size,_,I.laid (t':=s.toks) kp (Nat.le_refl _) (show ObjOk X.prog X.w _ h' _ (.lst ys) from ⟨hz,its,c',r',e⟩),rfl,q _ (I.hok.fresh (Nat.le_refl _))⟩
  rcases hq with hq | hq
  · obtain ⟨its,r',pl,hz⟩:=I.list hq
    have hlen:=r'.length
    obtain ⟨o,ho,hc,n,hd⟩:=pl.isList
    exact call_list_seq p (.inl rfl) ho hc hd (fun h' c' kp e=>fin its r' hz h' c' kp e) (by simp only [List.size_toArray] <;> omega)
  · obtain ⟨its,r',pl,hz⟩:=I.tuple hq
    have hlen:=r'.length
    obtain ⟨o,ho,hc,n,hd⟩:=pl
    exact call_list_seq p (.inr rfl) ho hc hd (fun h' c' kp e=>fin its r' hz h' c' kp e) (by simp only [List.size_toArray] <;> omega)
theorem call_tuple_of:CallR X (.type "tuple") (fun xs H Q=>∃ p ys,xs=[.ref p]∧((SqL X.K H p ys∧∀ l,H l=none→Q (.ref l) (upd H l (.tup ys)))∨(SqT X.K H p ys∧Q (.ref p) H))):=by
  intro pins s σ H xs us Q I r h
  obtain ⟨p,ys,rfl,h⟩:=h
  obtain ⟨u,rfl,rx⟩:=vals1 r
  cases rx
  rcases h with ⟨hq,q⟩ | ⟨hq,q⟩
  · obtain ⟨its,r',pl,hz⟩:=I.list hq
    have hlen:=r'.length
    refine call_tuple_list pl.isList (fun h' kp=>?_) (by simp only [List.size_toArray] <;> omega)
    have I1:Inv X pins σ H { s with heap:=h' }:=I.kept (t':=s.toks) kp
    have I2:Inv X pins σ (upd H h'.objs.size (.tup ys)) { s with heap:=h'.push { cls:=.type "tuple", data:=.seq its.toArray } } :=
      I1.laid (t':=s.toks) (fun b o e=>Heap.get?_push_of_some _ e) (Nat.le_refl _) (show ObjOk X.prog X.w _ _ _ (.tup ys) from ⟨hz,its,r',IsTup.new _ _,_,Heap.get?_push_size _ rfl,rfl⟩)
    exact ⟨.ref h'.objs.size,_,I2,rfl,q _ (I1.hok.fresh (Nat.le_refl _))⟩
  · obtain ⟨its,r',pl,hz⟩:=I.tuple hq
    exact call_tuple_same pl ⟨.ref p,H,I,rfl,q⟩
def tyV (K:PySem.W.Frag) (T:String) (x:V) (H:Hp):Prop:=match x with
  | .str _=>T = "str"
  | .int _=>T = "int"
  | .ref p=>(T = "list" ∧ ∃ xs,SqL K H p xs)∨(T = "tuple" ∧ ∃ o,K.lookup p=some o∧o.cls=.type "tuple" ∧ o.dict=none) ∨
      (T = "dict" ∧ ((∃ kvs,H p=some (.dK kvs))∨∃ kvs,H p=some (.dT kvs)))∨(T = "set" ∧ ∃ S n,H p=some (.set S n))
  | _=>False
theorem tyV_is {pins:List (Addr × Obj)} {σ:St} {H:Hp} {s:Shared} {T:String} {x:V} {v:Value} (I:Inv X pins σ H s) (r:RelV x v) (ty:tyV X.K T x H) :
    s.TypeIs v T∧∀ a,v=.ref a→∃ ob,s.heap.get? a=some ob∧ob.dict=none:=by
  cases x with
  | str z =>
    obtain ⟨t,rfl⟩:=r
    cases (show T = "str" from ty)
    exact ⟨typeIs_str s z t,fun _ e=>nomatch e⟩
  | int i =>
    obtain ⟨t,rfl⟩:=r
    cases (show T = "int" from ty)
    exact ⟨typeIs_int s i t,fun _ e=>nomatch e⟩
  | ref p =>
    cases r
    rcases ty with ⟨rfl,xs,hq⟩ | ⟨rfl,o,hk,hc,hd⟩ | ⟨rfl,hk⟩ | ⟨rfl,S,n,hk⟩
    · obtain ⟨its,_,pl,_⟩:=I.list hq
      refine ⟨pl.isList.typeIs,fun a e=>?_⟩
      cases e
      obtain ⟨o,n,e,c,hd,_⟩:=pl
      exact ⟨o,e,hd⟩
    · refine ⟨⟨o,I.kIn p o hk,hc⟩,fun a e=>?_⟩
      cases e
      exact ⟨o,I.kIn _ o hk,hd⟩
    · have z:∃ o,s.heap.get? p=some o∧o.ExactDict:=by
        rcases hk with ⟨kvs,hk⟩ | ⟨kvs,hk⟩
        · obtain ⟨_,_,_,_,o,_,_,e,ex,_⟩:=I.hok p _ hk
          exact ⟨o,e,ex⟩
        · obtain ⟨_,_,_,_,o,_,_,e,ex,_⟩:=I.hok p _ hk
          exact ⟨o,e,ex⟩
      obtain ⟨o,e,ex⟩:=z
      refine ⟨⟨o,e,ex.1⟩,fun a e2=>?_⟩
      cases e2
      exact ⟨o,e,ex.2.1⟩
    · obtain ⟨o,_,_,_,e,ex,_⟩:=I.hok p _ hk
      refine ⟨⟨o,e,ex.1⟩,fun a e2=>?_⟩
      cases e2
      exact ⟨o,e,ex.2.1⟩
  | _=>exact False.elim ty
def tBM0 (K:PySem.W.Frag) (T:String) (r:V→List V→Hp→VK→Prop) (to:TE):TE:=fun σ H Q=>to σ H fun x H1=>tyV K T x H1∧r x [] H1 Q
def tBM (K:PySem.W.Frag) (T:String) (r:V→List V→Hp→VK→Prop) (to:TE) (t:TA):TE:=fun σ H Q=>to σ H fun x H1=>tyV K T x H1∧t σ H1 fun xs H2=>r x xs H2 Q
variable {o e:Expr} {es:List Expr} {to:TE} {t:TA} {name:Str} {apos cpos:Pos} {T id:String} {r:V→List V→Hp→VK→Prop}
theorem pe_bm (pa:PlainAttrs T) (slot:Slot T name id) (hty:typeOf (.builtin id)=pure (.type "method_descriptor")) (hm:MtR X id r) (ho:PE X o to) (ha:PA X (e::es) t)
    (hbase:attributeBase o name X.env (eval o X.env)=eval o X.env:=by rfl)
    (hfew:((backTo cpos (starEach (e::es) X.env)).all (fun x=>!x.1) && (backToKw cpos (keywordEach [] X.env)).all (fun x=>x.1.isSome)
      && decide ((e::es).length+([]:List Keyword).length+(if ([]:List Keyword).isEmpty then 0 else 1) < 30))=true:=by rfl)
    (hline:(apos.endLine == cpos.line)=true:=by rfl) (hs:starEach (e::es) X.env=(false,eval e X.env)::starEach es X.env:=by rfl) (hplain:(backTo cpos (starEach es X.env)).any (·.1)=false:=by rfl) :
    PE X (.Call (.Attribute o name apos) (e::es) [] cpos) (tBM X.K T r to t):=by
  intro pins s σ H Q I h
  refine wpAny_Call_method_late hbase hfew hline rfl (thn (ho pins s σ H _ I h) fun v s1 ⟨x,H1,I1,r1,ty,q1⟩=>?_)
  obtain ⟨h1,h2⟩:=tyV_is I1 r1 ty
  refine ⟨T,id,pa,slot,hty,h1,h2,?_⟩
  have hA:=ha cpos pins s1 σ H1 _ I1 q1
  rw [hs] at hA ⊢
  refine Calls.callWith_builtin (by show (false || (backTo cpos (starEach es X.env)).any (·.1))=false; rw [hplain] <;> rfl) (Calls.evalArgs_plain ?_)
  exact thn hA fun us s2 ⟨vs,H2,I2,r2,q2⟩=>hm pins s2 σ H2 x vs v us Q I2 r1 r2 q2
/- xs.append(e),list.index on a module's tuple .. are MtR facts of 06m -/
end
end L2
namespace L2
open PySem PySem.Spec PyProof.Rows
def MtM (X:Cx) (id:String) (r:V→List V→Hp→VK→Prop):Prop :=
  ∀ (pins:List (Addr × Obj)) (s:Shared) (σ:St) (H:Hp) (x:V) (xs:List V) (v:Value) (us:List Value) (Q:VK),Inv X pins σ H s→RelV x v→Vals xs us→r x xs H Q →
    wpAny (model X.prog X.w) X.A (call (.builtin id) (v::us)) (EP X pins σ Q) X.xe s
theorem Vals.one:∀ {x:V} {us:List Value},Vals [x] us→∃ u,us=[u]∧RelV x u
  | _,_,.cons r .nil=>⟨_,rfl,r⟩
section
variable {X:Cx} {pins:List (Addr × Obj)} {σ:St} {H:Hp} {s:Shared} {l b:Addr} {xs ys zs:List V}
theorem Inv.lset {its its':List Value} {n:Nat} {f:Array Value→Array Value} {t':Nat} (I:Inv X pins σ H s) (hH:H l=some (.lst xs))
    (e:s.heap.get? l=some { cls:=.type "list", data:=.seq its.toArray n }) (hf:f its.toArray=its'.toArray) (hv:Vals ys its') (hz:ys.length≤sizeLine) :
    Inv X pins σ (upd H l (.lst ys)) { s with heap:=s.heap.update l (Obj.mapSeq f),toks:=t' }:=by
  have q:=PySem.IsL.update e f
  rw [hf] at q
  refine I.write (x:=l) (e:=l) (by rw [hH]; exact trivial) (.inl rfl) (fun b' u hb hu=>(Heap.get?_update_other s.heap (Obj.mapSeq f) (Ne.symm hb)).trans hu) ⟨_,q⟩ ?_
  exact ⟨hz,its',_,hv,q⟩
theorem Inv.lnew {its:List Value} {t':Nat} (I:Inv X pins σ H s) (hv:Vals ys its) (hz:ys.length≤sizeLine) :
    Inv X pins σ (upd H s.heap.objs.size (.lst ys)) { s with heap:=s.heap.push { cls:=.type "list", data:=.seq its.toArray },toks:=t' } :=
  I.laid (fun _ _ q=>Heap.get?_push_of_some _ q) (Nat.le_refl _) ⟨hz,its,0,hv,Heap.get?_push_size _ rfl⟩
theorem Inv.fresh (I:Inv X pins σ H s):H s.heap.objs.size=none:=I.hok.fresh (Nat.le_refl _)
theorem Inv.lstM (I:Inv X pins σ H s) (hH:H l=some (.lst xs)):xs.length≤sizeLine∧∃ (its:List Value) (n:Nat),Vals xs its∧xs.length=its.length∧s.heap.get? l=some { cls:=.type "list", data:=.seq its.toArray n }:=by
  obtain ⟨z,its,n,r,e⟩:=I.hok l _ hH
  exact ⟨z,its,n,r,r.length,e⟩
theorem notLongL {n:Nat} (h:n≤sizeLine):Builtin.List.listTooLong n=false:=by
  unfold Builtin.List.listTooLong
  exact decide_eq_false (by omega)
end
section
variable {X:Cx}
def rAppend:V→List V→Hp→VK→Prop:=fun x vs H Q=>∃ l xs y,x=.ref l∧vs=[y]∧H l=some (.lst xs)∧xs.length < sizeLine∧Q .non (upd H l (.lst (xs++[y])))
theorem mt_append:MtM X "list.append" rAppend:=by
  intro pins s σ H x vs v us Q I rx rv h
  obtain ⟨l,xs,y,rfl,rfl,hH,hz,q⟩:=h
  cases rx
  obtain ⟨u,rfl,ru⟩:=rv.one
  obtain ⟨z,its,n,r,hl,e⟩:=I.lstM hH
  refine call_meets F.slot_list_append ⟨_,e,rfl⟩ F.entry_list_append (F.args_list_append_2 _ _) (PySem.list_append l its.toArray n u (by rw [List.size_toArray]; omega)) ⟨e,?_⟩
  refine ⟨.non,_,I.lset (its':=its++[u]) hH e (by simp) (r.append (.cons ru .nil)) ?_,rfl,q⟩
  rw [List.length_append,List.length_singleton]
  omega
def rExtend:V→List V→Hp→VK→Prop:=fun x vs H Q=>∃ l b xs zs,x=.ref l∧vs=[.ref b]∧H l=some (.lst xs)∧H b=some (.lst zs)∧xs.length+zs.length≤sizeLine∧Q .non (upd H l (.lst (xs++zs)))
theorem mt_extend:MtM X "list.extend" rExtend:=by
  intro pins s σ H x vs v us Q I rx rv h
  obtain ⟨l,b,xs,zs,rfl,rfl,hH,hB,hz,q⟩:=h
  cases rx
  obtain ⟨u,rfl,ru⟩:=rv.one
  cases ru
  obtain ⟨z,its,n,r,hl,e⟩:=I.lstM hH
  obtain ⟨z2,its2,n2,r2,hl2,e2⟩:=I.lstM hB
  have hsz:its.toArray.size+its2.toArray.size≤sizeLine:=by rw [List.size_toArray,List.size_toArray]; omega
  have hlong:¬ (!its.toArray.isEmpty && Builtin.List.listTooLong (its.toArray.size+its2.toArray.size))=true:=by
    rw [notLongL hsz,Bool.and_false]
    exact Bool.false_ne_true
  refine call_meets F.slot_list_extend ⟨_,e,rfl⟩ F.entry_list_extend (F.args_list_extend_2 _ _)
    (AutoSeq1.list_extend_list_list_0 l its.toArray n b its2.toArray n2 hlong (by rw [List.size_toArray]; omega) (by omega)) ⟨e,e2,?_⟩
  refine ⟨.non,_,I.lset (its':=its++its2) hH e (by simp) (r.append r2) ?_,rfl,q⟩
  rw [List.length_append]
  omega
def rPop:V→List V→Hp→VK→Prop:=fun x vs H Q=>∃ l xs y,x=.ref l∧vs=[]∧H l=some (.lst xs)∧xs[xs.length - 1]?=some y∧Q y (upd H l (.lst xs.dropLast))
def rPopAt:V→List V→Hp→VK→Prop:=fun x vs H Q=>∃ l xs i k y,x=.ref l∧vs=[.int i]∧H l=some (.lst xs)∧-(2 ^ 63)≤i∧i < 2 ^ 63∧seqIndex? i xs.length=some k∧xs[k]?=some y∧Q y (upd H l (.lst (xs.eraseIdx k)))
def rReverse:V→List V→Hp→VK→Prop:=fun x vs H Q=>∃ l xs,x=.ref l∧vs=[]∧H l=some (.lst xs)∧Q .non (upd H l (.lst xs.reverse))
def rClear:V→List V→Hp→VK→Prop:=fun x vs H Q=>∃ l xs,x=.ref l∧vs=[]∧H l=some (.lst xs)∧Q .non (upd H l (.lst []))
def rCat:R2:=fun x y H Q=>∃ l b xs zs,x=.ref l∧y=.ref b∧H l=some (.lst xs)∧H b=some (.lst zs)∧xs.length+zs.length≤sizeLine∧∀ p,H p=none→Q (.ref p) (upd H p (.lst (xs++zs)))
theorem op_cat:OpR X (binaryOp .Add) rCat:=by
  intro pins s σ H x y v u Q I rx ry h
  obtain ⟨l,b,xs,zs,rfl,rfl,hH,hB,hz,q⟩:=h
  cases rx
  cases ry
  obtain ⟨z,its,n,r,hl,e⟩:=I.lstM hH
  obtain ⟨z2,its2,n2,r2,hl2,e2⟩:=I.lstM hB
  refine PySem.P.add_list e e2 ?_ (by rw [List.size_toArray,List.size_toArray]; omega)
  have ea:its.toArray++its2.toArray=(its++its2).toArray:=by simp
  rw [ea]
  exact ⟨.ref _,_,I.lnew (t':=s.toks) (r.append r2) (by rw [List.length_append]; omega),rfl,q _ I.fresh⟩
def rRep:R2:=fun x y H Q=>∃ l k xs,x=.ref l∧y=.int k∧H l=some (.lst xs)∧-(2 ^ 63)≤k∧k < 2 ^ 63∧xs.length*k.toNat≤sizeLine ∧
  ∀ p,H p=none→Q (.ref p) (upd H p (.lst (List.replicate k.toNat xs).flatten))
end
section
variable {prog:Program} {w:World} {A:Around} {E:Value→Shared→Prop} {s:Shared}
end
section
variable {X:Cx}
end
end L2
namespace Att
open PySem PySem.W PySem.Calls PyProof.Rows
theorem ints_of_wellAll {P:Params} {h:Heap}:∀ (ns:List Int) (vs:List Value),WellAll P h vs (ns.map WData.int)→IntsAre vs ns:=by
  intro ns
  induction ns with
  | nil =>
    intro vs w
    rw [List.map_nil] at w
    cases w
    exact .nil
  | cons n ns ih =>
    intro vs w
    rw [List.map_cons] at w
    cases w with
    | cons a b =>
      cases a
      exact .cons _ _ (ih _ b)
theorem script_of {l:OpenLaw} {n:Nat} (hn:l.most=some n) {P:Params} {h:Heap} {args:List WData} {vals:List Value}
    (hpre:l.row.toRowW.claim.pre args=true) (hwl:WellAll P h vals args) :
    ∃ a vs ns,vals=[Value.ref a]∧args=[WData.list (ns.map WData.int)]∧h.get? a=some { cls:=.type "list", data:=.seq vs.toArray }∧IntsAre vs ns∧ns.length≤n:=by
  have hsh:WShape.hasAll [] args [.list .int]=true:=(pre_splitW hpre).1
  have hc:l.pre.holds [] { args:=args }=true:=(pre_splitW hpre).2
  obtain ⟨d,r,rfl,h1,h2⟩:=hasAllW_cons hsh
  obtain rfl:=hasAllW_nil h2
  obtain ⟨xs,rfl,h3⟩:=hasW_list h1
  obtain ⟨ns,rfl⟩:=items_int h3
  have hlen:ns.length≤n:=by
    unfold OpenLaw.pre at hc
    have h4:(WTm.not (.lt (.lit (.int (n:Int))) (.len (.arg 0)))).holds [] { args:=[.list (ns.map .int)] }=true:=by
      have h4:=(holds_andW hc).1
      rw [hn] at h4
      exact h4
    have h5:=condW_of h4 (w_not (w_lt w_lit (w_len_list (w_arg rfl))))
    rw [List.length_map] at h5
    refine Nat.le_of_not_lt fun q=>?_
    have q':(n:Int) < ((ns.length:Nat):Int):=by omega
    first
      | (rw [decide_eq_true q'] at h5; exact absurd h5 (by decide))
      | (simp at h5; omega)
  cases hwl with
  | cons w1 w2 =>
    cases w2
    cases w1 with
    | list ho hall=>exact ⟨_,_,ns,rfl,rfl,ho,ints_of_wellAll ns _ hall,hlen⟩
theorem post_true (l:OpenLaw) (args:List WData):l.row.toRowW.claim.post args (.bool true) args=true :=
  postW_of (r:=l.row.toRowW) (X:=(true == true))
    (show WShape.has [] (.bool true) .bool=true by first | rfl | decide | simp [WShape.has,WShape.arms,WShape.armsAll])
    (show (WTm.eq .res (.lit (.bool true))).value [] { args:=args,res:=some (.bool true),after:=args }=some (.bool (true == true)) from w_eq_bool (w_res rfl) w_lit) rfl
theorem attach_call {l:OpenLaw} {n:Nat} {q:Program} {loose:List Str} {XP:(Str→Option Value)→Heap→Prop} {YP:World→Heap→Prop} {d:DefRec}
    (hn:l.most=some n) (hdf:d.params.defaults=[])
    (call:∀ (w:World) (s₀ s₁:Shared) (mg mb:Str→Option Value) (fa:Addr) (o:Obj) (pm cd doc:Value) (a:Addr) (vs:List Value) (ns:List Int),
      Ground q loose [] XP w s₀ mg mb s₁.heap→YP w s₁.heap →
      s₁.heap.get? fa=some o→o.data=.func (docDef d.name d.params d.body d.scope pm cd doc)→s₁.heap.CodeRec cd d.name→mg d.name=some (.ref fa) →
      s₁.heap.get? a=some { cls:=.type "list", data:=.seq vs.toArray }→IntsAre vs ns→ns.length≤n→s₁.gens=#[] →
      codeAny (model l.prog w) callerA (.call (.ref fa) ⟨[.ref a],[]⟩) (fun r s'=>r=.ok (.ret (.bool true))∧OldK s₁.heap s'.heap∧s'.os=s₁.os∧AllBare s'.gens) s₁) :
    WalkO q loose XP YP l.row.toRowW d [] (fun f vs=>PySem.call f vs):=by
  intro w s₀ s₁ mg mb G Y fa o pm cd doc dV kV ho hd hcd hD hmg hg args vals as hpre hlay hrd hwl hlo
  obtain rfl:dV=.none:=Dflts.none hD hdf
  obtain rfl:kV=.none:=Dflts.noKw hD
  obtain ⟨a,vs,ns,rfl,rfl,hobj,hints,hlen⟩:=script_of hn hpre hwl
  refine enter_call (codeAny_mono (call w s₀ s₁ mg mb fa o pm cd doc a vs ns G Y ho (fd_plain hd) hcd hmg hobj hints hlen hg) fun r s' hq=>?_)
  obtain ⟨rfl,h2,h3,h4⟩:=hq
  exact ⟨.inl ⟨.bool true,.bool true,[],rfl,fun _=>rfl,.bool true,post_true l _,fun _=>⟨List.Pairwise.nil,fun _ hm=>(nomatch hm)⟩⟩,h2,h3,h4⟩
section
variable {prog:Program} {w:World} {A:Around} {E:Value→Shared→Prop} {s:Shared} {K:Frag}
def noObjs (h:Heap):Heap:={ h with objs:=#[] }
def ledger (h:Heap) (L d:Addr):List (Addr × Obj):=(List.range h.objs.size).filterMap fun a=>if a=L∨a=d then none else (h.get? a).map fun o=>(a,o)
end
end Att
namespace L2
open PySem PySem.Spec PyProof.Rows
theorem vals_ints:∀ {vs:List Value} {ns:List Int},IntsAre vs ns→Vals (ns.map V.int) vs
  | _,_,.nil=>.nil
  | _,_,.cons n t h=>.cons ⟨t,rfl⟩ (vals_ints h)
def Only (H:Hp):Prop:=∀ b,H b=none∨∃ o xs,H b=some (.frz o (.lst xs))
theorem law_call {P:Program} {w:World} {K:PySem.W.Frag} {mg mb:Str→Option Value} {CX:CXT} {k:Nat} {fa a:Addr} {fd:FuncData} {x:Str} {sp:Sp} {s₁:Shared} {vs:List Value} {ns:List Int}
    (KX:K.In s₁.heap) (hns:s₁.heap.Ns mainGlobals mg) (hb:s₁.heap.Ns builtinsNs mb) (hbb:∀ x:Str,x ≠ "__name__" → mb x=bootBuiltins x) (hlim:s₁.heap.NoLimit) (hg:s₁.gens=#[])
    (ha:s₁.heap.get? a=some { cls:=.type "list", data:=.seq vs.toArray }) (hi:IntsAre vs ns) (hl:ns.length≤sizeLine) (hr:Room k callerA)
    (F:∀ base:Heap,K.In base→base.Ns mainGlobals mg→FnOk P w K mg base CX k fa fd [x] sp) (hbind:∀ (s:Shared) (u:Value),BindsTo s fd ⟨[u],[]⟩ [(x,u)])
    (hsp:∀ H:Hp,Only H→SqL K H a (ns.map V.int)→sp [.ref a] H (fun v _=>v=.bl true) fun _ _ _=>False)
    (hCX:∀ H e s',CX [] H s₁ (fun _ _ _=>False) e s'→False) :
    codeAny (model P w) callerA (.call (.ref fa) ⟨[.ref a],[]⟩) (fun r s'=>r=.ok (.ret (.bool true))∧OldK s₁.heap s'.heap∧s'.os=s₁.os∧AllBare s'.gens) s₁:=by
  have rv:=vals_ints hi
  have lenV:=hi.length
  have core:∀ H:Hp,Only H→SqL K H a (ns.map V.int)→HOk P w H s₁.heap→(∀ b,H b ≠ none→b=a)→(H a ≠ none→K.lookup a=none) →
      codeAny (model P w) callerA (.call (.ref fa) ⟨[.ref a],[]⟩) (fun r s'=>r=.ok (.ret (.bool true))∧OldK s₁.heap s'.heap∧s'.os=s₁.os∧AllBare s'.gens) s₁:=by
    intro H hO hS hok hA hK
    have base_of:∀ {b:Addr} {o:Obj},s₁.heap.get? b=some o→H b=none→(hidT s₁.heap H).get? b=some o:=fun e n=>hidT_get e n
    have noA:∀ {b:Addr} {o:Obj} {es:Array DictEntry} {ep:Nat},s₁.heap.get? b=some o→o.data=.dict es ep→H b=none:=fun {b o es ep} e d=>by
      cases q:H b with
      | none=>rfl
      | some u =>
        have e':b=a:=hA b (by rw [q]; simp)
        subst e'
        rw [ha] at e; cases e
        have d':Data.seq vs.toArray _=Data.dict es ep:=d
        cases d'
    have nsK:∀ {b:Addr} {m:Str→Option Value},s₁.heap.Ns b m→(hidT s₁.heap H).Ns b m:=fun {b m} ⟨o,es,ep,e,d,r⟩=>⟨o,es,ep,base_of e (noA e d),d,r⟩
    have hKb:K.In (hidT s₁.heap H):=fun b o e=>base_of (KX b o e) (by
      cases q:H b with
      | none=>rfl
      | some u =>
        have e':b=a:=hA b (by rw [q]; simp)
        subst e'
        rw [hK (by rw [q]; simp)] at e; cases e)
    have hM:Mod K mg (hidT s₁.heap H):=⟨hKb,nsK hns,⟨mb,nsK hb,hbb⟩,let ⟨mc,h1,h2⟩:=hlim; ⟨mc,nsK h1,h2⟩⟩
    have e0:Env0 P w K mg (hidT s₁.heap H) callerA [] s₁ H:=⟨rfl,hM,fun b o e=>of_hidT e,Nat.le_of_eq (hidT_size _ _),trivial,fun b hb=>absurd (show b ∈ ([]:List Addr) from hb) (by simp),hok,.of_eq hg⟩
    refine codeAny_mono ((F _ hKb (nsK hns)).run callerA [] s₁ H ⟨[.ref a],[]⟩ [.ref a] [.ref a] _ _ hr e0 (hbind s₁ (.ref a)) (.cons rfl .nil) (hsp H hO hS)) fun r s' h=>?_
    cases r with
    | error e=>exact (hCX H e s' h).elim
    | ok fl =>
      cases fl with
      | next=>exact False.elim h
      | brk=>exact False.elim h
      | cont=>exact False.elim h
      | ret u =>
        obtain ⟨v,H',os,bare,un,hok',r',q⟩:=h
        have q':v=.bl true:=q
        subst q'
        obtain rfl:u=Value.bool true:=r'
        refine ⟨rfl,OldK.of_keep fun b o e=>?_,os,bare⟩
        cases q:H b with
        | none=>exact un.keep b o e q (by intro z; exact absurd (show b ∈ ([]:List Addr) from z) (by simp)) (by simp)
        | some u =>
          rcases hO b with z | ⟨ob,xs,z⟩
          · rw [q] at z; cases z
          · have z2:=un.frzs b ob _ z
            obtain ⟨e1,_⟩:=hok b _ z
            obtain ⟨e2,_⟩:=hok' b _ z2
            rw [e] at e1; cases e1
            exact e2
  cases hk:K.lookup a with
  | some o =>
    have e:=KX a o hk
    rw [ha] at e
    cases e
    refine core (fun _=>none) (fun _=>.inl rfl) (.inr ⟨_,vs.toArray,_,hk,rfl,rfl,rfl,by rw [List.size_toArray,lenV]; exact hl,by simpa using rv⟩) (fun b u z=>by have z':(none:Option HO)=some u:=z; cases z') (fun b z=>absurd rfl z) fun z=>absurd rfl z
  | none =>
    refine core (fun b=>if b=a then some (.frz { cls:=.type "list", data:=.seq vs.toArray } (.lst (ns.map V.int))) else none) (fun b=>?_) (.inl (.inr ⟨{ cls:=.type "list", data:=.seq vs.toArray },if_pos rfl⟩)) (fun b u z=>?_) (fun b z=>?_) fun _=>hk
    · by_cases hb:b=a
      · exact .inr ⟨_,_,if_pos hb⟩
      · exact .inl (if_neg hb)
    · by_cases hb:b=a
      · have z':=(if_pos hb).symm.trans z
        cases z'
        subst hb
        exact ⟨ha,by rw [List.length_map]; exact hl,vs,_,rv,ha⟩
      · have z':=(if_neg hb).symm.trans z
        cases z'
    · by_cases hb:b=a
      · exact hb
      · exact absurd (if_neg hb) z
end L2
namespace L2
open PySem PySem.Spec PyProof.Rows
abbrev KOf {K:PySem.W.Frag} {h:Heap} (_:K.In h):PySem.W.Frag:=K
theorem walk_of {l:PySem.W.OpenLaw} {n k:Nat} {q:Program} {loose:List Str} {XP:(Str→Option Value)→Heap→Prop} {YP:World→Heap→Prop} {d:DefRec} {K:Params→PySem.W.Frag} {CX:World→CXT} {sp:World→Sp} {x:Str}
    (hn:l.most=some n) (hn2:n≤sizeLine) (hdf:d.params.defaults=[]) (hr:Room k callerA)
    (hY:∀ (w:World) (h:Heap),YP w h→(K w.params).In h)
    (F:∀ (w:World) (mg:Str→Option Value) (fa:Addr) (h:Heap),(K w.params).In h→h.Ns mainGlobals mg→mg d.name=some (.ref fa) →
      ∃ fd:FuncData,(∀ (s:Shared) (u:Value),BindsTo s fd ⟨[u],[]⟩ [(x,u)]) ∧
        ∀ base:Heap,(K w.params).In base→base.Ns mainGlobals mg→FnOk l.prog w (K w.params) mg base (CX w) k fa fd [x] (sp w))
    (hsp:∀ (w:World) (H:Hp) (a:Addr) (ns:List Int),ns.length≤n→Only H→SqL (K w.params) H a (ns.map V.int)→sp w [.ref a] H (fun v _=>v=.bl true) fun _ _ _=>False)
    (hCX:∀ (w:World) (H:Hp) (s:Shared) (e:Value) (s':Shared),CX w [] H s (fun _ _ _=>False) e s'→False) :
    PySem.W.WalkO q loose XP YP l.row.toRowW d [] (fun f vs=>PySem.call f vs):=by
  refine Att.attach_call hn hdf fun w s₀ s₁ mg mb fa o pm cd doc a vs ns G Y ho hd hcd hmg hobj hints hlen hg=>?_
  have KX:=hY w _ Y
  obtain ⟨fd,hb,hF⟩:=F w mg fa _ KX G.T.g hmg
  exact law_call KX G.T.g G.T.b G.T.builtins G.T.nolimit hg hobj hints (Nat.le_trans hlen hn2) hr hF hb (fun H hO hS=>hsp w H a ns hlen hO hS) fun H e s'=>hCX w H s₁ e s'
end L2
/- THE LAST THEOREM (shape; LID,My.* are yours):
   My.Adr: a structure of the addresses that your layer names (classes,functions); My.Txt K t: a structure (Prop) of the equations over K;
   My.txt_mk:{K} {implicit addresses ..} (e1:nsIn K mainGlobals "law" = some (some (.ref f))) (e2:K.lookup f=some ⟨oc,od,.func (fnOf "law" "law" params body scope dV kV doc pm an cdv ct),sl⟩) (e3:codeIn K cdv "law" = true) ..:∃ t,My.Txt K t
set_option maxRecDepth 100000 in
set_option maxHeartbeats 0 in
theorem PySem.Challenge.cw_LID_holds : PySem.Challenge.rw_LID.Holds := by
  w_on; o_law; k_head; (case hw=>w_witness2)
  k_fill
  refine L2.walk_of (l:=PySem.Challenge.rw_LID) (n:=63) (k:=40) (x := "script") (CX:=fun w=>..) (sp:=fun _=>My.sp_law) rfl (by decide) rfl ⟨rfl,by decide,by decide⟩ (fun w h Y=>PySem.W.kIn_of Y) ?F ?S ?C
  case F =>
    intro w mg fa h KX G hmg
    have T:∃ t,My.Txt (L2.KOf KX) t:=by
      dsimp only [L2.KOf]                          -- K must stand as «<heap const> w.params» for k_is
      refine' My.txt_mk ?e1 ?e2 ?e3 ..
      (case e1=>PySem.W.k_is)                    -- in the order: a name -> its address -> its object -> its parts
      (case e2=>PySem.W.k_is)
      ..
    obtain ⟨t,T⟩:=T
    have e0:=hmg.symm.trans (PySem.W.mg_of KX G T.law)
    cases e0                                       -- fa is the law's own address
    exact ⟨_,fun s u=>.of_eq rfl,fun base kb nb=>My.law_fn T kb nb⟩     -- if «.of_eq rfl» comes too early: refine' ⟨_,?b,fun base kb nb=>My.law_fn T kb nb⟩; exact fun s u=>.of_eq rfl
  case S=>exact fun w H a ns hl hO hS=>..
  case C=>exact ..
(the tactic k_is has no namespace: write k_is) -/
namespace L2
open PySem PySem.Spec PyProof.Rows
def inClass (s:Stmt) (j:Nat):Stmt:=match s with
  | .ClassDef _ _ _ body _ _ _ _ _ _ _=>body.getD j (.Pass ⟨0,0,0,0⟩)
  | _=>.Pass ⟨0,0,0,0⟩
def defArgs (s:Stmt):Arguments:=match s with
  | .FunctionDef _ a _ _ _ _ _ _ _ _=>a
  | _=>{ posonlyargs:=[],args:=[],vararg:=none,kwonlyargs:=[],kw_defaults:=[],kwarg:=none,defaults:=[] }
def defBody (s:Stmt):List Stmt:=match s with
  | .FunctionDef _ _ b _ _ _ _ _ _ _=>b
  | _=>[]
def defScope (s:Stmt):Scope:=match s with
  | .FunctionDef _ _ _ _ _ _ sc _ _ _=>sc
  | _=>{ kind:=.function,names:=[],isGenerator:=false,isCoroutine:=false }
abbrev CX0:CXT:=fun _ _ _ _ _ _=>False
abbrev E0:XK:=fun _ _ _=>False
theorem pass0 {X:Cx}:Passes CX0 X E0:=fun _ _ _ _ _ _ _ h=>h.elim
structure Fun (K:PySem.W.Frag) (x qual:Str) (st:Stmt) (f:Addr) (fd:FuncData):Prop where
  ex:∃ (oc:Value) (od:Option Addr) (kV doc pm:Value) (an:Option Addr) (cdv ct:Value) (osl:Array (Option Value)),
    fd=PySem.W.fnOf x qual (defArgs st) (defBody st) (defScope st) .none kV doc pm an cdv ct∧K.lookup f=some ⟨oc,od,.func fd,osl⟩∧PySem.W.codeIn K cdv qual=true
  kp:PySem.W.keepIn K (.ref f)=true
section
variable {P:Program} {w:World} {K:PySem.W.Frag} {mg:Str→Option Value} {base:Heap}
theorem Fun.ok {x qual:Str} {st:Stmt} {f:Addr} {fd:FuncData} {N ps:List Str} {k:Nat} {sp:Sp} (F:Fun K x qual st f fd) (S:FnScope N ps (defScope st)) (len:∀ vs H Q E,sp vs H Q E→vs.length=ps.length)
    (hbody:∀ (cdv:Value) (A:Around) (outer:List Env) (s:Shared) (H:Hp) (vs:List V) (Q:VK) (E:XK),Room k (A.deeper (envOfC qual (defScope st) s.heap.objs.size f cdv))→sp vs H Q E →
      ∃ t,PSs (cxOf CX0 P w K mg base N qual (defScope st) f cdv A outer s H E).nox (defBody st) t∧t { nx:=fun _ H'=>Q .non H',rt:=Q } (start N vs) H):FnOk P w K mg base CX0 (k+1) f fd ps sp:=by
  obtain ⟨oc,od,kV,doc,pm,an,cdv,ct,osl,rfl,lk,hcd⟩:=F.ex
  refine fn_of lk hcd S len fun A outer s H vs Q E hr hsp=>?_
  obtain ⟨t,h,q⟩:=hbody cdv A outer s H vs Q E hr hsp
  exact ⟨t,h.nox,q⟩
theorem Fun.binds {x qual:Str} {st:Stmt} {f:Addr} {fd:FuncData} {ps:List Str} (F:Fun K x qual st f fd)
    (h:∀ (kV doc pm:Value) (an:Option Addr) (cdv ct:Value) (us:List Value),us.length=ps.length→bindArgs (PySem.W.fnOf x qual (defArgs st) (defBody st) (defScope st) .none kV doc pm an cdv ct) ⟨us,[]⟩=pure (ps.zip us)):Binds K fd ps []:=by
  obtain ⟨oc,od,kV,doc,pm,an,cdv,ct,osl,rfl,lk,hcd⟩:=F.ex
  exact .all (h kV doc pm an cdv ct)
theorem fun_mk {x qual:Str} {st:Stmt} {f:Addr} {oc:Value} {od an:Option Addr} {osl:Array (Option Value)} {kV doc pm cdv ct:Value} (l:K.lookup f=some ⟨oc,od,.func (PySem.W.fnOf x qual (defArgs st) (defBody st) (defScope st) .none kV doc pm an cdv ct),osl⟩)
    (c:PySem.W.codeIn K cdv qual=true) (k:PySem.W.keepIn K (.ref f)=true):Fun K x qual st f (PySem.W.fnOf x qual (defArgs st) (defBody st) (defScope st) .none kV doc pm an cdv ct):=⟨⟨oc,od,kV,doc,pm,an,cdv,ct,osl,rfl,l,c⟩,k⟩
end
theorem small1000 {n:Nat} (h:n≤1000):n < sizeLine:=Nat.lt_of_le_of_lt h (by decide)
section
variable {X:Cx}
theorem pv (i:Nat) {x:Str} {pos:Pos} (hN:X.N[i]?=some x:=by rfl) (hv:Vis X.env.scope x:=by first | exact Or.inl rfl | exact Or.inr (Or.inl rfl) | exact Or.inr (Or.inr rfl)) (hd:(x == ("__debug__" : Str))=false:=by decide)
    (hcd:(x == ("__classdict__" : Str))=false:=by decide):PE X (.Name x pos) (tVar i):=pe_var hN hv hd hcd
end
theorem iteF {A B:Prop} (h:B):if false=true then A else B:=by
  rw [if_neg Bool.false_ne_true]
  exact h
theorem iteT {A B:Prop} (h:A):if true=true then A else B:=by
  rw [if_pos rfl]
  exact h
theorem ite2 {c A B:Prop} [Decidable c] (h1:c→A) (h2:¬ c→B):if c then A else B:=by
  by_cases h:c
  · rw [if_pos h]
    exact h1 h
  · rw [if_neg h]
    exact h2 h
def Same (H H':Hp):Prop:=∀ b o,H b=some o→H' b=some o
theorem Same.refl (H:Hp):Same H H:=fun _ _ h=>h
theorem Same.trans {H H1 H2:Hp} (a:Same H H1) (b:Same H1 H2):Same H H2:=fun c o h=>b c o (a c o h)
theorem Same.free {H H':Hp} (e:Same H H') {l:Addr} (h:H' l=Option.none):H l=Option.none:=by
  cases q:H l with
  | none=>rfl
  | some o =>
    rw [e l o q] at h
    cases h
theorem Same.seq {K:PySem.W.Frag} {H H':Hp} {a:Addr} {xs:List V} (e:Same H H') (h:SqL K H a xs):SqL K H' a xs:=by
  rcases h with (h | ⟨o,h⟩) | h
  · exact .inl (.inl (e _ _ h))
  · exact .inl (.inr ⟨o,e _ _ h⟩)
  · exact .inr h
end L2
set_option maxHeartbeats 4000000
namespace L2
open PySem PySem.Spec PyProof.Rows
section
variable {X:Cx}
theorem call_isinst:CallR X (.builtin "isinstance") (fun xs H Q=>∃ x t n b,xs=[x,.ty n]∧TyOf X.K H x t∧PySem.W.kitOne X.K t (.type n)=some b∧Q (.bl b) H):=by
  intro pins s σ H xs us Q I r h
  obtain ⟨x,t,n,b,rfl,ty,e,q⟩:=h
  obtain ⟨u,w',rfl,r1,r2⟩:=vals2 r
  cases r2
  exact isinst_ok I r1 ty e (fun tk=>⟨.bl b,H,I.tok tk,rfl,q⟩)
theorem kit_self (K:PySem.W.Frag) (n:String):PySem.W.kitOne K (.type n) (.type n)=some true:=by
  unfold PySem.W.kitOne
  rw [if_pos (by simp)]
theorem kit_int_bool (K:PySem.W.Frag):PySem.W.kitOne K (.type "int") (.type "bool")=some false:=by
  show (if ((Value.type "int" == Value.type "bool")=true) then some true else if PySem.W.kitMeta "bool" = true then ((fastBuiltinMro "int").map (·.contains (.type "bool"))) else none)=some false
  decide +kernel
def CDivL (_ j:Int):Prop:=0 < j∧j < 2 ^ 63
theorem op_fdivL:OpR X (binaryOp .FloorDiv) (rI CDivL fun i j=>.int (i / j)):=opI fun i j _ _ _ _ _ hc q=>by
  have e:Int.fdiv i j=i / j:=Int.fdiv_eq_ediv_of_nonneg i (Int.le_of_lt hc.1)
  rw [← e] at q
  refine floordiv_int (by have:=hc.1; omega) q (.inl (PyProof.noPylong_of_log2 ?_))
  have h1:=hc.1
  have h2:=hc.2
  have h3:j.natAbs < 2 ^ 63:=by omega
  have h4:=(Nat.log2_lt (n:=j.natAbs) (k:=63) (by omega)).mpr h3
  omega
end
theorem boot_int':bootBuiltins "int" = some (.type "int"):=by decide +kernel
theorem boot_bool':bootBuiltins "bool" = some (.type "bool"):=by decide +kernel
theorem boot_list':bootBuiltins "list" = some (.type "list"):=by decide +kernel
theorem boot_tuple':bootBuiltins "tuple" = some (.type "tuple"):=by decide +kernel
theorem boot_reversed':bootBuiltins "reversed" = some (.type "reversed"):=by decide +kernel
structure Cal (P:Program) (w:World) (K:PySem.W.Frag) (mg:Str→Option Value) (base:Heap) (n:Nat) (x:Str) (ps:List Str) (sp:Sp):Prop where
  ex:∃ (f:Addr) (fd:FuncData),FnOk P w K mg base CX0 n f fd ps sp∧Binds K fd ps []∧PySem.W.keepIn K (.ref f)=true∧mg x=some (.ref f)
theorem pe_cal {X:Cx} {n k:Nat} {x:Str} {ps:List Str} {sp:Sp} {e:Expr} {es:List Expr} {t:TA} {p pos:Pos} (C:Cal X.prog X.w X.K X.mg X.base n x ps sp) (hr:Room k X.A) (hk:n≤k) (hg:Gl X x)
    (ha:PA X (e::es) t) (hdb:(x == ("__debug__" : Str))=false:=by decide) (he:starEach (e::es) X.env=(false,eval e X.env)::starEach es X.env:=by rfl) (hpl:(backTo pos (starEach es X.env)).any (·.1)=false:=by rfl) :
    PE X (.Call (.Name x p) (e::es) [] pos) (tCall sp [] E0 t):=by
  obtain ⟨f,fd,F,b,kp,m⟩:=C.ex
  exact pe_call F (hr.mono hk) hg m kp b .nil pass0 ha hdb he hpl
theorem Cal.of {P:Program} {w:World} {K:PySem.W.Frag} {mg:Str→Option Value} {base:Heap} {n:Nat} {x qual:Str} {ps:List Str} {sp:Sp} {st:Stmt} {f:Addr} {fd:FuncData} (F:Fun K x qual st f fd) (O:FnOk P w K mg base CX0 n f fd ps sp) (m:mg x=some (.ref f))
    (h:∀ (kV doc pm:Value) (an:Option Addr) (cdv ct:Value) (us:List Value),us.length=ps.length→bindArgs (PySem.W.fnOf x qual (defArgs st) (defBody st) (defScope st) .none kV doc pm an cdv ct) ⟨us,[]⟩=pure (ps.zip us)):Cal P w K mg base n x ps sp :=
  ⟨f,fd,O,F.binds h,F.kp,m⟩
theorem iteD {c A B:Prop} [Decidable c] (hc:c) (h:A):if decide c=true then A else B:=by
  rw [decide_eq_true hc]
  exact iteT h
theorem iteDF {c A B:Prop} [Decidable c] (hc:¬ c) (h:B):if decide c=true then A else B:=by
  rw [decide_eq_false hc]
  exact iteF h
def SameBut (f:Addr) (H H':Hp):Prop:=∀ b o,b ≠ f→H b=some o→H' b=some o
theorem SameBut.trans {f:Addr} {H H1 H2:Hp} (a:SameBut f H H1) (b:SameBut f H1 H2):SameBut f H H2:=fun c o h e=>b c o h (a c o h e)
theorem SameBut.refl (f:Addr) (H:Hp):SameBut f H H:=fun _ _ _ h=>h
theorem SameBut.of {f:Addr} {H H':Hp} (h:Same H H'):SameBut f H H':=fun b o _ e=>h b o e
theorem SameBut.upd {f:Addr} {H:Hp} (o:HO):SameBut f H (upd H f o):=fun b u h e=>by rw [upd_ne h]; exact e
theorem Same.new {H:Hp} {p:Addr} (h:H p=none) (o:HO):Same H (upd H p o):=fun b u q=>by rw [upd_ne (ne_of_none q h)]; exact q
theorem Same.but {f:Addr} {H0 H H':Hp} (a:Same H0 H) (n:H0 f=none) (b:SameBut f H H'):Same H0 H':=fun c o e=>b c o (ne_of_none e n) (a c o e)
def FeedAt (H:Hp) (f:Addr):Prop:=∃ own st:Int,H f=some (.lst [.int own,.int st])∧0≤own∧0≤st∧st≤2147483646
theorem FeedAt.ne {H:Hp} {f b:Addr} (F:FeedAt H f) (h:H b=none):b ≠ f:=by
  obtain ⟨o,s,e,_⟩:=F
  intro z
  subst z
  rw [h] at e
  cases e
theorem FeedAt.same {H H':Hp} {f:Addr} (F:FeedAt H f) (s:Same H H'):FeedAt H' f:=by
  obtain ⟨o,t,e,h⟩:=F
  exact ⟨o,t,s _ _ e,h⟩
def spTake:Sp:=fun vs H Q _=>∃ (f:Addr) (m:Int),vs=[.ref f,.int m]∧FeedAt H f∧0 < m∧m < 2 ^ 63∧∀ (d:Int) (H':Hp),0≤d→d < m→FeedAt H' f→SameBut f H H'→Q (.int d) H'
def spFeed (K:PySem.W.Frag):Sp:=fun vs H Q _=>∃ (a:Addr) (ns:List Int) (k:Int),vs=[.ref a,.int k]∧SqL K H a (ns.map V.int)∧ns.length≤63∧0≤k∧k < 1000000∧∀ (p:Addr) (H':Hp),H p=none→Same H H'→FeedAt H' p→Q (.ref p) H'
def spLaw (K:PySem.W.Frag):Sp:=fun vs H Q _=>∃ (a:Addr) (ns:List Int),vs=[.ref a]∧SqL K H a (ns.map V.int)∧ns.length≤63∧∀ H',Q (.bl true) H'
theorem small {n:Nat} (h:n≤1000):n≤sizeLine:=Nat.le_of_lt (small1000 h)
theorem at_int {ns:List Int} {k:Int} (h0:0≤k) (h:k < (ns.length:Int)):∃ v:Int,atI (ns.map V.int) k=some (.int v):=by
  have hk:k.toNat < ns.length:=by omega
  have q:atI (ns.map V.int) ((k.toNat:Nat):Int)=some (.int ns[k.toNat]):=atI_nat (by rw [List.getElem?_map,List.getElem?_eq_getElem hk] <;> rfl)
  have ek:((k.toNat:Nat):Int)=k:=by omega
  rw [ek] at q
  exact ⟨_,q⟩
end L2
namespace L2
open PySem PySem.Spec PyProof.Rows
@[reducible] def cxComp (X:Cx) (N:List Str) (scope:Scope) (cl:List (Str × Addr)) (s:Shared) (H:Hp) (fp:List Addr):Cx where
  prog:=X.prog
  w:=X.w
  K:=X.K
  mg:=X.mg
  base:=X.base
  A:=X.A
  N:=N
  s₀:=s
  H₀:=H
  env:=compEnvC scope cl s.heap.objs.size X.env
  outer:=X.stack
  stack:=X.stack
  ex:=fp
  fn:=fun _=>false
  calm:=X.calm
  pn:=[]
  xe:=fun _ _=>False
structure CompScope (X:Cx) (x:Str) (N:List Str) (ix:List Nat) (scope:Scope) (cl:List (Str × Addr)):Prop where
  clos:closureFor scope X.env=pure cl
  nocell:∀ y ∈ scope.names,y.2 ≠ .cell
  kind:scope.kind=.function
  names:∀ y ∈ scope.names,y.2=.local→scope.names.lookup y.1=some .local
  own:scope.names.lookup x=some .local
  nd:(x::N).Nodup
  sub:∀ p ∈ cl,X.env.cells.lookup p.1=some p.2
  has:((relabel scope X.env).names.all fun p=>!(p.2 == .cell || p.2 == .free) || (cl.lookup p.1).isSome)=true
  outs:∀ (j:Nat) (y:Str),N[j]?=some y→(relabel scope X.env).names.lookup y=some .cell∧∃ k c,ix[j]?=some k∧X.N[k]?=some y∧cl.lookup y=some c∧X.env.scope.names.lookup y=some .cell
def outs (ix:List Nat) (σ:St):St:=ix.map fun k=>(σ[k]?).join
section
variable {X:Cx} {pins:List (Addr × Obj)} {σ:St} {x:Str} {N:List Str} {ix:List Nat} {scope:Scope} {cl:List (Str × Addr)} {fp:List Addr} {H3:Hp} {s3:Shared}
theorem CompScope.cells (S:CompScope X x N ix scope cl) {y:Str} {c:Addr} (h:cl.lookup y=some c):X.env.cells.lookup y=some c:=S.sub _ (PySem.mem_of_lookup h)
theorem comp_cx (S:CompScope X x N ix scope cl) (I3:Inv X pins σ H3 s3) (hf:∀ b ∈ fp,FpOk X pins H3 b) (hlt:∀ b ∈ fp,b < s3.heap.objs.size):(cxComp X (x::N) scope cl s3 H3 fp).Ok where
  mod:=I3.ok.mod
  kind:=S.kind
  glob:=I3.ok.glob
  blt:=I3.ok.blt
  above:=Nat.le_refl _
  inj:=fun y z c h1 h2=>I3.ok.inj y z c (S.cells h1) (S.cells h2)
  has:=fun y hy=>by
    have q:=List.all_eq_true.mp S.has
    have hy:(relabel scope X.env).names.lookup y=some .cell∨(relabel scope X.env).names.lookup y=some .free:=hy
    have z:∀ k:NameKind,(k == .cell || k == .free)=true→(relabel scope X.env).names.lookup y=some k→∃ c,cl.lookup y=some c:=fun k hk e=>by
      have r:=q _ (PySem.mem_of_lookup e)
      rw [hk] at r
      exact Option.isSome_iff_exists.mp (by simpa using r)
    rcases hy with e | e
    · exact z _ (by rfl) e
    · exact z _ (by rfl) e
  cab:=fun _ _ h _=>nomatch h
  hd:=I3.ok.hd
  frames:=I3.ok.frames
  stk:=.inl rfl
  exf:=fun b hb=>⟨Nat.ne_of_lt (hlt b hb),fun y c e=>(hf b hb).2.2.2.2.1 y c (S.cells e)⟩
  bs:=fun b o e=>I3.bs b o e
  bsz:=Nat.le_trans I3.ok.bsz I3.sz
  noex:=fun b o e hb=>by
    rcases (hf b hb).2.2.2.1 with z | z
    · exact I3.ok.noex b o e z
    · exact absurd (Nat.lt_of_lt_of_le (Heap.lt_size e) (Nat.le_trans I3.ok.bsz z)) (Nat.lt_irrefl _)
  exfs:=fun b hb z=>by
    rcases List.mem_cons.mp (I3.stkSub b z) with e | e
    · exact (hf b hb).2.1 e
    · exact (hf b hb).2.2.1 e
  funs:=I3.stack
  frf:=I3.stkFree
theorem comp_start (S:CompScope X x N ix scope cl) (I3:Inv X pins σ H3 s3) (hf:∀ b ∈ fp,FpOk X pins H3 b) (hlt:∀ b ∈ fp,b < s3.heap.objs.size) (hix:ix.length=N.length) {h1:Heap} {t':Nat} {m:Str→Option Value}
    (hn:h1.Ns s3.heap.objs.size m) (hk:∀ b o,s3.heap.get? b=some o→h1.get? b=some o):Inv (cxComp X (x::N) scope cl s3 H3 fp) [] (none::outs ix σ) H3 { s3 with heap:=h1,toks:=t' } where
  ok:=comp_cx S I3 hf hlt
  os:=rfl
  bare:=I3.bare
  base:=Un.kept hk
  loc:=by
    refine ⟨m,hn,fun i y v h1' h2 h3=>?_⟩
    cases i with
    | zero =>
      have h2':(some (none:Option V))=some (some v):=h2
      cases h2'
    | succ j =>
      have h1'':N[j]?=some y:=h1'
      have h2':(outs ix σ)[j]?=some (some v):=h2
      obtain ⟨hr,k,c,e1,e2,e3,e4⟩:=S.outs j y h1''
      unfold outs at h2'
      rw [List.getElem?_map,e1] at h2'
      have h2'':(σ[k]?).join=some v:=Option.some.inj h2'
      have e5:σ[k]?=some (some v):=by
        cases q:σ[k]? with
        | none=>rw [q] at h2''; cases h2''
        | some o=>rw [q] at h2''; exact congrArg some h2''
      obtain ⟨m0,_,hl⟩:=I3.loc
      obtain ⟨u,r,l⟩:=hl k y v e2 e5 (.inr (.inl e4))
      refine ⟨u,r,.inr ⟨.inl hr,c,e3,?_⟩⟩
      rcases l with ⟨kk,_⟩ | ⟨_,c',ec,z⟩
      · have kk':X.env.scope.names.lookup y=some .local:=kk
        rw [e4] at kk'; cases kk'
      · rw [S.cells e3] at ec
        cases ec
        obtain ⟨o,ho,hd⟩:=z
        exact ⟨o,hk _ _ ho,hd⟩
  cell:=fun y c e=>by
    obtain ⟨v,o,ho,hd⟩:=I3.cell y c (S.cells e)
    exact ⟨v,o,hk _ _ ho,hd⟩
  free:=I3.hok.fresh (Nat.le_refl _)
  freeC:=fun y c e=>I3.freeC y c (S.cells e)
  pin:=fun p hp=>absurd (show p ∈ ([]:List (Addr × Obj)) from hp) (by simp)
  hok:=I3.hok.kept hk
  len:=by
    show (none::outs ix σ).length=(x::N).length
    rw [List.length_cons,List.length_cons]
    unfold outs
    rw [List.length_map,hix]
theorem comp_back (I3:Inv X pins σ H3 s3) (hf:∀ b ∈ fp,FpOk X pins H3 b) {σ':St} {H':Hp} {s':Shared} {h'':Heap} {N':List Str} (J:Inv (cxComp X N' scope cl s3 H3 fp) [] σ' H' s') (hb:Heap.SameBut s3.heap.objs.size s'.heap h'') :
    Inv X pins σ H' { s' with heap:=h'' }:=by
  have ne:∀ b o,s3.heap.get? b=some o→b ≠ s3.heap.objs.size:=fun b o e=>Nat.ne_of_lt (Heap.lt_size e)
  have B:Un (frs X.stack) fp H3 H' s3.heap s'.heap:=J.base
  refine I3.call' (s':={ s' with heap:=h'' }) (ch:=fp) J.os ⟨fun b o e n h1 h2=>(hb.2 b (ne b o e)).trans (B.keep b o e n h1 h2),fun b o e n h1 h2=>?_,B.free,fun b o e h2=>?_,B.tups,B.frzs,B.tbls⟩ (fun b ob e=>?_) J.bare (fun b z=>?_)
  · obtain ⟨sl,q⟩:=B.slot b o e n h1 h2
    exact ⟨sl,(hb.2 b (ne b o e)).trans q⟩
  · obtain ⟨o',q⟩:=B.there b o e h2
    exact ⟨o',(hb.2 b (ne b o e)).trans q⟩
  · have fr:H' s3.heap.objs.size=none:=J.free
    refine (J.hok b ob e).stay (fun c w' hc q=>(hb.2 c ?_).trans q) (fun _ q=>q) fun _ _ q=>q
    rintro rfl
    rcases hc with rfl | hc
    · rw [fr] at e; cases e
    · rw [fr] at hc; cases hc
  · obtain ⟨_,h2,_,h4,h5,h6⟩:=hf b z
    exact ⟨h4,h2,h5,h6⟩
end
abbrev TBl:=St→Hp→(Hp→Prop)→VK→Prop
def PB (X:Cx) (ifs:List Expr) (elt:Expr) (tb:TBl):Prop :=
  ∀ (pins:List (Addr × Obj)) (s:Shared) (σ:St) (H:Hp) (skip:Hp→Prop) (keep:VK),Inv X pins σ H s→tb σ H skip keep →
    wpAny (model X.prog X.w) X.A (forIn ifs true fun c r=>if r=true then do let ok ← isTrue c X.env (eval c X.env); pure (ForInStep.yield ok) else pure (ForInStep.yield r))
      (fun ok s3=>if ok=true then wpAny (model X.prog X.w) X.A (eval elt X.env) (EP X pins σ keep) X.xe s3 else ∃ H',Inv X pins σ H' s3∧skip H') X.xe s
def tB0 (te:TE):TBl:=fun σ H _ keep=>te σ H keep
def tB1 (tc:TT) (te:TE):TBl:=fun σ H skip keep=>tc σ H fun b H1=>if b=true then te σ H1 keep else skip H1
theorem pb_all {X:Cx} {elt:Expr} {te:TE} (he:PE X elt te):PB X [] elt (tB0 te):=by
  intro pins s σ H skip keep I h
  refine wpAny_tests_nil ?_
  rw [if_pos rfl]
  exact he pins s σ H keep I h
theorem pb_if {X:Cx} {c elt:Expr} {tc:TT} {te:TE} (hc:PT X c tc) (he:PE X elt te):PB X [c] elt (tB1 tc te):=by
  intro pins s σ H skip keep I h
  refine wpAny_tests_one (thn (hc pins s σ H _ I h) fun b s1 ⟨H1,I1,q1⟩=>?_)
  cases b with
  | true =>
    rw [if_pos rfl] at q1 ⊢
    exact he pins s1 σ H1 keep I1 q1
  | false =>
    rw [if_neg (by decide)] at q1 ⊢
    exact ⟨H1,I1,q1⟩
def CompEx (J:It) (D:Addr) (ix:List Nat) (tb:TBl) (σ:St) (H:Hp) (Q:VK):Prop:=∃ W:Nat→Nat→Hp→Prop,(∃ m,W 0 m (upd H D (.lst [])))∧∀ i m H2,W i m H2 →
  (J.stop i H2∧Q (.ref D) H2)∨(J.go i H2∧∀ y H3,J.yld i H2 y H3→tb (some y::outs ix σ) H3 (fun H4=>∃ m',m' < m∧W (i+1) m' H4)
    fun z H4=>∃ ys,H4 D=some (.lst ys)∧ys.length < sizeLine∧∃ m',m' < m∧W (i+1) m' (upd H4 D (.lst (ys++[z]))))
def tCompR (wi:TI) (ix:List Nat) (tb:TBl):TE:=fun σ H Q=>wi σ H fun J H1=>∀ D,H1 D=none→CompEx J D ix tb σ H1 Q
section
variable {prog:Program} {w:World} {A:Around} {E:Value→Shared→Prop} {R:Result→Shared→Prop} {s:Shared}
theorem compLoop_go {elt target iter:Expr} {ifs:List Expr} {scope:Scope} {pos:Pos} {it acc:Value} {env:Env} (I:Nat→Shared→Prop)
    (turn:∀ n s,I n s→wpAny (model prog w) A (pyNext it) (fun r s1=>match r with
      | none=>R (.ok .next) s1
      | some v=>wpAny (model prog w) A (letOwnedTupleGo target it v) (fun _ s1'=>wpAny (model prog w) A (assign target env v) (fun _ s2 =>
          wpAny (model prog w) A (forIn ifs true fun c r=>if r=true then do let ok ← isTrue c env (eval c env); pure (ForInStep.yield ok) else pure (ForInStep.yield r)) (fun ok s3 =>
            if ok=true then wpAny (model prog w) A (eval elt env) (fun x s4 =>
              wpAny (model prog w) A (call (.builtin "list.append") [acc,x]) (fun _ s5=>∃ m,m < n∧I m s5) (fun _ _=>False) s4) (fun _ _=>False) s3
            else ∃ m,m < n∧I m s3) (fun _ _=>False) s2) (fun _ _=>False) s1') (fun _ _=>False) s1) (fun _ _=>False) s)
    (n:Nat) (h:I n s) :
    codeAny (model prog w) A (.compLoop (.ListComp elt [⟨target,iter,ifs,0⟩] scope pos) 0 it acc env) R s:=by
  have up:∀ {α:Type} {t:Sem α} {Q Q':α→Shared→Prop} {E':Value→Shared→Prop} {s:Shared},wpAny (model prog w) A t Q (fun _ _=>False) s→(∀ a s,Q a s→Q' a s)→wpAny (model prog w) A t Q' E' s :=
    fun h q=>wpAny_mono h q fun _ _ f=>f.elim
  refine codeAny_loop rfl I (fun n s hI=>?_) n h
  show wpAny _ A ((compTurn (.ListComp elt [⟨target,iter,ifs,0⟩] scope pos) 0 it acc env).onRaise (fun x=>do noteFrame x env; theTreesLotGoes x)) _ _ s
  refine wpAny_noted ?_
  rw [compTurn_list]
  refine wpAny_bind (wpAny_standAt (wpAny_bind (up (turn n s hI) fun r s1 h1=>?_)))
  cases r with
  | none=>exact wpAny_pure h1
  | some v =>
    refine wpAny_bind (up h1 fun _ s1' h1'=>?_)
    refine wpAny_bind (up h1' fun _ s2 h2=>wpAny_bind (up h2 fun ok s3 h3=>?_))
    cases ok with
    | false=>exact wpAny_pure ⟨rfl,h3⟩
    | true =>
      exact wpAny_bind (wpAny_bind (up h3 fun x s4 h4=>wpAny_bind (up h4 fun _ s5 h5=>wpAny_pure (wpAny_pure ⟨rfl,h5⟩))))
end
structure Apart (X:Cx) (pins:List (Addr × Obj)) (H:Hp) (C:Addr):Prop where
  fr:H C=none
  lo:C ≠ X.env.locals
  sz:X.s₀.heap.objs.size≤C
  ce:∀ y c,X.env.cells.lookup y=some c→c ≠ C
  pi:∀ p ∈ X.pn++pins,p.1 ≠ C
theorem Apart.turn {X:Cx} {pins:List (Addr × Obj)} {σ:St} {H:Hp} {C:Addr} {s:Shared} {h':Heap} (a:Apart X pins H C) (I:Inv X pins σ H s) (hs:Heap.SameBut C s.heap h'):Inv X pins σ H { s with heap:=h' } :=
  I.turned (t':=s.toks) (fun b o ne e=>(hs.2 b ne).trans e) a.fr a.lo (.inr a.sz) a.ce a.pi
section
variable {X:Cx} {x:Str} {N:List Str} {ix:List Nat} {scope:Scope} {cl:List (Str × Addr)} {elt iter:Expr} {ifs:List Expr} {px pos:Pos} {wi:TI} {tb:TBl}
theorem comp_run (hc:X.calm=true) (S:CompScope X x N ix scope cl) (hix:ix.length=N.length) (hb:∀ s3 H3 fp,PB (cxComp X (x::N) scope cl s3 H3 fp) ifs elt tb)
    {pins:List (Addr × Obj)} {s2:Shared} {σ:St} {H2:Hp} {Q:VK} {it:Addr} {fp:List Addr} {tn:Nat→Heap→Prop} {J:It} {RR:Value→Addr→Result→Shared→Prop} {E:Value→Shared→Prop}
    (I2:Inv X pins σ H2 s2) (T:Turn X.prog X.w X.K (.Name x px) J fp it tn) (st2:tn 0 s2.heap) (f2:∀ b ∈ fp,FpOk X pins H2 b)
    (h:∀ D,H2 D=none→∃ W:Nat→Nat→Hp→Prop,(∃ m,W 0 m (upd H2 D (.lst [])))∧∀ i m H3,W i m H3 →
      (J.stop i H3∧Q (.ref D) H3)∨(J.go i H3∧∀ y H4,J.yld i H3 y H4→tb (some y::outs ix σ) H4 (fun H5=>∃ m',m' < m∧W (i+1) m' H5)
        fun z H5=>∃ ys,H5 D=some (.lst ys)∧ys.length < sizeLine∧∃ m',m' < m∧W (i+1) m' (upd H5 D (.lst (ys++[z])))))
    (hRR:∀ (D C:Addr) (H':Hp) (s':Shared) (m:Str→Option Value),s'.heap.Ns C m→Apart X pins H' C→Inv X pins σ H' s'→Q (.ref D) H'→RR (.ref D) C (.ok .next) s') :
    wpAny (model X.prog X.w) X.A (newList []) (fun acc s3=>wpAny (model X.prog X.w) X.A (newFunctionEnv scope X.env.globals cl [] X.env.qual none .none (some X.env)) (fun cenv s4 =>
      codeAny (model X.prog X.w) X.A (.compStart (.ListComp elt [⟨.Name x px,iter,ifs,0⟩] scope pos) 0 (.ref it) acc { cenv with scope:=relabel scope X.env }) (RR acc cenv.locals) s4) E s3) E s2:=by
  refine wpAny_newObj_type (wpAny_newFunctionEnv S.nocell (by intro y hy; simp at hy) (fun h1 hns1 hsb1=>?_) S.kind)
  dsimp only at hns1 hsb1 ⊢
  have I3:Inv X pins σ (upd H2 s2.heap.objs.size (.lst [])) { s2 with heap:=s2.heap.push { cls:=.type "list", dict:=none,data:=.seq ([]:List Value).toArray } }:=I2.lnew (its:=[]) (ys:=[]) (t':=s2.toks) .nil (Nat.zero_le _)
  have hD:H2 s2.heap.objs.size=none:=I2.fresh
  obtain ⟨W,⟨m0,w0⟩,turn⟩:=h s2.heap.objs.size hD
  have hltF:∀ b ∈ fp,b < s2.heap.objs.size:=fun b hb=>by
    obtain ⟨o,e,_⟩:=T.obj 0 _ st2 b hb
    exact Heap.lt_size e
  generalize hs3:({ s2 with heap:=s2.heap.push { cls:=.type "list", dict:=none,data:=.seq ([]:List Value).toArray } }:Shared)=s3 at I3
  have eh:s2.heap.push { cls:=.type "list", dict:=none,data:=.seq ([]:List Value).toArray }=s3.heap:=by rw [← hs3]
  have et:s2.toks=s3.toks:=by rw [← hs3]
  rw [eh] at hns1 hsb1 ⊢
  have sz3:s3.heap.objs.size=s2.heap.objs.size+1:=by rw [← eh,Heap.size_push]
  have hlt3:∀ b ∈ fp,b < s3.heap.objs.size:=fun b hb=>Nat.lt_of_lt_of_le (hltF b hb) (by rw [sz3]; exact Nat.le_succ _)
  have f3:∀ b ∈ fp,FpOk X pins (upd H2 s2.heap.objs.size (.lst [])) b:=fun b hb=>by
    obtain ⟨q1,q2⟩:=f2 b hb
    exact ⟨by rw [upd_ne (Nat.ne_of_lt (hltF b hb))]; exact q1,q2⟩
  have up:∀ b o,s3.heap.get? b=some o→h1.get? b=some o:=fun b o e=>hsb1.extBut b o (Nat.ne_of_lt (Heap.lt_size e)) (Heap.get?_push_of_some _ e)
  have old:∀ b o,s2.heap.get? b=some o→h1.get? b=some o:=fun b o e=>up b o (by rw [← eh]; exact Heap.get?_push_of_some _ e)
  have es:({ s2 with heap:=h1,toks:=s2.toks+([]:List (Str × Value)).length }:Shared)={ s3 with heap:=h1,toks:=s2.toks+([]:List (Str × Value)).length }:=by rw [← hs3]
  rw [es]
  have I4:Inv (cxComp X (x::N) scope cl s3 (upd H2 s2.heap.objs.size (.lst [])) fp) [] (none::outs ix σ) (upd H2 s2.heap.objs.size (.lst [])) { s3 with heap:=h1,toks:=s2.toks+([]:List (Str × Value)).length } :=
    comp_start S I3 f3 hlt3 hix hns1 up
  have st4:tn 0 h1:=T.keep 0 _ _ st2 fun b _ o e=>old b o e
  have loop:codeAny (model X.prog X.w) X.A (.compLoop (.ListComp elt [⟨.Name x px,iter,ifs,0⟩] scope pos) 0 (.ref it) (.ref s2.heap.objs.size) (compEnvC scope cl s3.heap.objs.size X.env)) (RR (.ref s2.heap.objs.size) s3.heap.objs.size)
      { s3 with heap:=h1,toks:=s2.toks+([]:List (Str × Value)).length }:=by
    refine compLoop_go (fun n s'=>∃ i v0 H',Inv (cxComp X (x::N) scope cl s3 (upd H2 s2.heap.objs.size (.lst [])) fp) [] (v0::outs ix σ) H' s'∧tn i s'.heap∧(∀ b ∈ fp,H' b=none)∧W i n H') ?_ m0 ⟨0,none,_,I4,st4,fun b hb=>(f3 b hb).1,w0⟩
    rintro n s5 ⟨i,v0,H5,I5,st5,fr5,w5⟩
    have stat:∀ {H':Hp},(∀ b ∈ fp,H' b=none)→∀ b ∈ fp,FpOk (cxComp X (x::N) scope cl s3 (upd H2 s2.heap.objs.size (.lst [])) fp) [] H' b:=fun hn b hb =>
      ⟨hn b hb,((comp_cx S I3 f3 hlt3).exf b hb).1,(comp_cx S I3 f3 hlt3).exfs b hb,.inl hb,((comp_cx S I3 f3 hlt3).exf b hb).2,fun p hp=>absurd (show p ∈ ([]:List (Addr × Obj)) from hp) (by simp)⟩
    rcases turn i n H5 w5 with ⟨stop,qn⟩ | ⟨go,step⟩
    · refine thn (T.done (cxComp X (x::N) scope cl s3 (upd H2 s2.heap.objs.size (.lst [])) fp) rfl rfl rfl hc i [] s5 _ H5 _ I5 (stat fr5) st5 stop) fun r s6 ⟨hr,I6⟩=>?_
      subst hr
      obtain ⟨m6,hn6,_⟩:=I6.loc
      exact hRR _ _ H5 s6 m6 hn6 ⟨I6.free,Ne.symm (Nat.ne_of_lt I3.lt),I3.sz,fun y c e z=>by
        obtain ⟨v,q⟩:=I3.cell y c e
        exact absurd q.lt (by rw [z]; exact Nat.lt_irrefl _),fun p hp z=>absurd (Heap.lt_size (I3.pin p hp).1) (by rw [z]; exact Nat.lt_irrefl _)⟩ (comp_back I3 f3 I6 (Heap.SameBut.refl _ _)) qn
    · refine thn (T.item (cxComp X (x::N) scope cl s3 (upd H2 s2.heap.objs.size (.lst [])) fp) rfl rfl rfl hc i [] s5 _ H5 _ I5 (stat fr5) st5 go) fun r s6 ⟨u,hr,h6⟩=>?_
      subst hr
      refine thn h6 fun _ s7 ⟨y,H7,I7,r7,y7,st7,fr7⟩=>?_
      have I7':=I7.pinned (stat fr7) (T.obj _ _ st7)
      refine wpAny_assign_Name (store_ok (i:=0) I7' S.nd rfl (.inl (lookup_relabel_local S.own)) r7 (fun s8 I8=>?_) (.inr (lookup_relabel_local S.own)))
      have I8':Inv (cxComp X (x::N) scope cl s3 (upd H2 s2.heap.objs.size (.lst [])) fp) ([]++pinsAt fp s7.heap) (some y::outs ix σ) H7 s8:=I8
      have again:∀ {v9:Option V} {H9:Hp} {s9:Shared},Inv (cxComp X (x::N) scope cl s3 (upd H2 s2.heap.objs.size (.lst [])) fp) ([]++pinsAt fp s7.heap) (v9::outs ix σ) H9 s9→(∃ m',m' < n∧W (i+1) m' H9) →
          ∃ m,m < n∧∃ i v0 H',Inv (cxComp X (x::N) scope cl s3 (upd H2 s2.heap.objs.size (.lst [])) fp) [] (v0::outs ix σ) H' s9∧tn i s9.heap∧(∀ b ∈ fp,H' b=none)∧W i m H':=fun {v9 H9 s9} I9 ⟨m',hm,w9⟩=>by
        refine ⟨m',hm,i+1,v9,H9,I9.unpinned,T.keep _ _ _ st7 fun b hb o e=>(I9.pin (b,o) (List.mem_append_right _ (List.mem_append_right _ (mem_pinsAt hb e)))).1,fun b hb=>?_,w9⟩
        obtain ⟨o,e,d⟩:=T.obj _ _ st7 b hb
        exact (I9.pin (b,o) (List.mem_append_right _ (List.mem_append_right _ (mem_pinsAt hb e)))).2.1
      refine thn (hb s3 (upd H2 s2.heap.objs.size (.lst [])) fp _ s8 _ H7 _ _ I8' (step y H7 y7)) fun ok s9 q9=>?_
      cases ok with
      | false =>
        rw [if_neg (by decide)] at q9 ⊢
        obtain ⟨H9,I9,q9⟩:=q9
        exact again I9 q9
      | true =>
        rw [if_pos rfl] at q9 ⊢
        refine thn q9 fun u s10 ⟨z,H10,I10,r10,ys,hy,hz,q10⟩=>?_
        refine thn (mt_append _ s10 _ H10 (.ref s2.heap.objs.size) [z] (.ref s2.heap.objs.size) [u] (fun _ H'=>∃ m',m' < n∧W (i+1) m' H') I10 rfl (.cons r10 .nil) ⟨_,ys,z,rfl,rfl,hy,hz,q10⟩) fun _ s11 ⟨_,H11,I11,_,q11⟩=>?_
        exact again I11 q11
  exact codeAny_compStart_list loop (T.self _ 0 _ _ _ st4 loop)
theorem pe_comp (hc:X.calm=true) (S:CompScope X x N ix scope cl) (hix:ix.length=N.length) (hi:PI X (.Name x px) iter wi) (hb:∀ s3 H3 fp,PB (cxComp X (x::N) scope cl s3 H3 fp) ifs elt tb)
    (hs:∀ x,foldedSetIterable iter X.env x=pure x:=by intro _; rfl):PE X (.ListComp elt [⟨.Name x px,iter,ifs,0⟩] scope pos) (tCompR wi ix tb):=by
  intro pins s σ H Q I h
  rw [eval_ListComp]
  refine wpAny_comprehension_free (use:=none) rfl hs S.clos S.kind S.names (thn (hi pins s σ H _ I h) fun xv s1 h1=>thn h1 fun itv s2 h2=>?_)
  obtain ⟨it,fp,tn,J,H2,rfl,I2,T,st2,f2,R⟩:=h2
  refine comp_run hc S hix hb (RR:=fun acc C=>compPost (model X.prog X.w) X.A X.xe none (EP X pins σ Q) acc C) I2 T st2 f2 R ?_
  intro D C H' s' m hn ap I' q
  exact ⟨m,hn,fun h'' hb''=>⟨.ref D,H',ap.turn I' hb'',rfl,q⟩⟩
theorem ps_comp {i:Nat} {y:Str} {py spos:Pos} (hN:X.N.Nodup) (hi0:X.N[i]?=some y) (hx:Loc X.env.scope y) (hc:X.calm=true) (S:CompScope X x N ix scope cl) (hix:ix.length=N.length) (hi:PI X (.Name x px) iter wi) (hb:∀ s3 H3 fp,PB (cxComp X (x::N) scope cl s3 H3 fp) ifs elt tb)
    (hsw:swapsWith (.ListComp elt [⟨.Name x px,iter,ifs,0⟩] scope pos) (some (.Name y py)) spos.line X.env=pure true:=by with_unfolding_all rfl)
    (hs:∀ x,foldedSetIterable iter X.env x=pure x:=by intro _; rfl) (hf:X.fn y=true∨X.env.scope.names.lookup y=some .local:=by first | exact .inl rfl | exact .inr rfl | assumption) :
    PS X (.Assign [.Name y py] (.ListComp elt [⟨.Name x px,iter,ifs,0⟩] scope pos) spos) (fun D σ H=>tCompR wi ix tb σ H fun v H'=>D.nx (σ.set i (some v)) H'):=by
  intro pins s σ H Dn I h
  rw [exec_Assign_Name_used _ _ _ _ hsw]
  refine wpAny_bind (wpAny_standAt (wpAny_bind ?_))
  show wpAny _ X.A (do let _ ← comprehension (.ListComp elt [⟨.Name x px,iter,ifs,0⟩] scope pos) scope X.env _ (newList []) false (eval iter X.env) (some (assign (.Name y py) X.env))) _ _ s
  refine wpAny_bind (wpAny_mono (wpAny_comprehension_free (use:=some (assign (.Name y py) X.env)) (Q:=fun _ s'=>SP X pins Dn .next s') rfl hs S.clos S.kind S.names
    (thn (hi pins s σ H _ I h) fun xv s1 h1=>thn h1 fun itv s2 h2=>?_)) (fun _ s' hq=>wpAny_pure (wpAny_pure hq)) fun _ _ e=>e)
  obtain ⟨it,fp,tn,J,H2,rfl,I2,T,st2,f2,R⟩:=h2
  refine comp_run hc S hix hb (RR:=fun acc C=>compPost (model X.prog X.w) X.A X.xe (some (assign (.Name y py) X.env)) (fun _ s'=>SP X pins Dn .next s') acc C) (Q:=fun v H'=>Dn.nx (σ.set i (some v)) H') I2 T st2 f2 R ?_
  intro D C H' s' m hn ap I' q
  show wpAny _ X.A (assign (.Name y py) X.env (.ref D)) _ _ _
  refine wpAny_assign_Name (store_ok2 I' hN hi0 hx (v:=.ref D) rfl (fun s'' I'' hsb=>?_) hf)
  obtain ⟨a,hsb,ha⟩:=hsb
  have ne:C ≠ a:=by
    rcases ha with z | z
    · rw [z]; exact ap.lo
    · exact Ne.symm (ap.ce y a z)
  exact ⟨m,hn.sameBut hsb ne,fun h'' hb''=>⟨_,H',ap.turn I'' hb'',q⟩⟩
end
end L2
namespace L2
open PySem PySem.Spec PyProof.Rows
section
variable {X:Cx} {pins:List (Addr × Obj)} {σ:St} {H:Hp} {s:Shared} {h':Heap}
theorem Inv.turnedNew {t':Nat} {ch:List Addr} {T:Addr} {o:HO} (I:Inv X pins σ H s) (k:∀ b u,b ∉ ch→s.heap.get? b=some u→h'.get? b=some u) (hf:∀ b ∈ ch,FpOk X pins H b) (hT:s.heap.objs.size≤T)
    (new:ObjOk X.prog X.w (upd H T o) h' T o):Inv X pins σ (upd H T o) { s with heap:=h',toks:=t' }:=by
  have nit:∀ b u,H b=some u→b ∉ ch:=fun b u e z=>by rw [(hf b z).1] at e; cases e
  have hn:H T=none:=I.hok.fresh hT
  have lt:∀ b u,s.heap.get? b=some u→b ≠ T:=fun b u e=>Nat.ne_of_lt (Nat.lt_of_lt_of_le (Heap.lt_size e) hT)
  refine I.step (g':=s.gens) (d':=s.drawn) (ch:=ch) (fun b hb=>?_) (fun b u _ _ hc e _=>k b u hc e) (fun b u _ _ hc e _=>⟨u.slots,k b u hc e⟩) (fun b u _ e n=>by rw [upd_ne (lt b u e)]; exact n) (fun b u hc e=>⟨u,k b u hc e⟩)
    (fun b xs e=>by rw [upd_ne (ne_of_none e hn)]; exact e) (fun b ob u e=>by rw [upd_ne (ne_of_none e hn)]; exact e) (fun b ps e=>⟨#[],by rw [upd_ne (ne_of_none e hn),e]; simp⟩) (fun m hm=>?_) (fun b u e=>?_) I.bare
  · obtain ⟨_,h2,_,h4,h5,h6⟩:=hf b hb
    exact ⟨h4,h2,h5,h6⟩
  · obtain ⟨ob,es,ep,ho,r⟩:=hm
    exact ⟨ob,es,ep,k _ ob (fun z=>(hf _ z).2.1 rfl) ho,r⟩
  · by_cases hb:b=T
    · subst hb
      rw [upd_same] at e
      cases e
      exact new
    · rw [upd_ne hb] at e
      refine (I.hok b u e).stay (fun c v hc q=>k c v ?_ q) (fun c q=>by rw [upd_ne (ne_of_none q hn)]; exact q) fun c xs q=>by rw [upd_ne (ne_of_none q hn)]; exact q
      rcases hc with z | z
      · rw [z]; exact nit b u e
      · exact nit c _ z
theorem Inv.turnedL {t':Nat} {ch:List Addr} (I:Inv X pins σ H s) (k:∀ b u,b ∉ ch→s.heap.get? b=some u→h'.get? b=some u) (hf:∀ b ∈ ch,FpOk X pins H b):Inv X pins σ H { s with heap:=h',toks:=t' }:=by
  have nit:∀ b u,H b=some u→b ∉ ch:=fun b u e z=>by rw [(hf b z).1] at e; cases e
  refine I.step (g':=s.gens) (d':=s.drawn) (ch:=ch) (fun b hb=>?_) (fun b u _ _ hc e _=>k b u hc e) (fun b u _ _ hc e _=>⟨u.slots,k b u hc e⟩) (fun _ _ _ _ n=>n) (fun b u hc e=>⟨u,k b u hc e⟩)
    (fun _ _ e=>e) (fun _ _ _ e=>e) (fun b ps e=>⟨#[],by rw [e]; simp⟩) (fun m hm=>?_) (fun b u e=>?_) I.bare
  · obtain ⟨_,h2,_,h4,h5,h6⟩:=hf b hb
    exact ⟨h4,h2,h5,h6⟩
  · obtain ⟨ob,es,ep,ho,r⟩:=hm
    exact ⟨ob,es,ep,k _ ob (fun z=>(hf _ z).2.1 rfl) ho,r⟩
  · refine (I.hok b u e).stay (fun c v hc q=>k c v ?_ q) (fun _ q=>q) fun _ _ q=>q
    rcases hc with z | z
    · rw [z]; exact nit b u e
    · exact nit c _ z
end
def Ite (K:PySem.W.Frag) (a:Addr):It :=
  ⟨fun i H=>∃ xs x,SqL K H a xs∧xs[i]?=some x,fun i H y H'=>∃ t,y=.ref t∧H t=none∧∀ xs x,SqL K H a xs→xs[i]?=some x→H'=upd H t (.tup [.int i,x]),fun i H=>∃ xs,SqL K H a xs∧xs.length≤i⟩
section
variable {X:Cx} {elts:List Expr} {k:Nat} {tpos:Pos}
def iEnum (K:PySem.W.Frag) (tl:TE):TI:=fun σ H R=>tl σ H fun x H1=>∃ a,x=.ref a∧(∃ xs,SqL K H1 a xs)∧R (Ite K a) H1
end
end L2
namespace L2
open PySem PySem.Spec PyProof.Rows
mutual
inductive Rep (K:PySem.W.Frag) (H:Hp):V→PyData→Prop
  | non:Rep K H .non .none
  | bl (b:Bool):Rep K H (.bl b) (.bool b)
  | int (i:Int):Rep K H (.int i) (.int i)
  | str (x:Str):Rep K H (.str x) (.str x)
  | tup {a:Addr} {xs:List V} {ds:List PyData}:SqT K H a xs→RepAll K H xs ds→Rep K H (.ref a) (.tuple ds)
  | lst {a:Addr} {xs:List V} {ds:List PyData}:SqL K H a xs→RepAll K H xs ds→Rep K H (.ref a) (.list ds)
inductive RepAll (K:PySem.W.Frag) (H:Hp):List V→List PyData→Prop
  | nil:RepAll K H [] []
  | cons {x:V} {d:PyData} {xs:List V} {ds:List PyData}:Rep K H x d→RepAll K H xs ds→RepAll K H (x::xs) (d::ds)
end
section
variable {X:Cx} {pins:List (Addr × Obj)} {σ:St} {H:Hp} {s:Shared}
mutual
theorem Rep.reads (I:Inv X pins σ H s):∀ {x:V} {d:PyData} {v:Value},Rep X.K H x d→RelV x v→∃ as,Reads s.heap v d as
  | _,_,v,.non,r=>by cases (show v=Value.none from r); exact ⟨_,Reads.none⟩
  | _,_,v,.bl b,r=>by cases (show v=Value.bool b from r); exact ⟨_,Reads.bool b⟩
  | _,_,v,.int i,r=>by obtain ⟨t,e⟩:=(show ∃ t,v=Value.int i t from r); cases e; exact ⟨_,Reads.int i t⟩
  | _,_,v,.str x,r=>by obtain ⟨t,e⟩:=(show ∃ t,v=Value.str x t from r); cases e; exact ⟨_,Reads.str x t⟩
  | _,_,v,.tup (a:=a) h q,r=>by
    cases (show v=Value.ref a from r)
    obtain ⟨its,rv,⟨o,ho,hc,n,hd⟩,_⟩:=I.tuple h
    obtain ⟨as,z⟩:=RepAll.reads I q rv
    exact ⟨_,reads_tuple_at ho hc hd (by simpa using z)⟩
  | _,_,v,.lst (a:=a) h q,r=>by
    cases (show v=Value.ref a from r)
    obtain ⟨its,rv,⟨o,n,ho,hc,_,hd⟩,_⟩:=I.list h
    obtain ⟨as,z⟩:=RepAll.reads I q rv
    exact ⟨_,reads_list_at ho hc hd (by simpa using z)⟩
theorem RepAll.reads (I:Inv X pins σ H s):∀ {xs:List V} {ds:List PyData} {vs:List Value},RepAll X.K H xs ds→Vals xs vs→∃ as,ReadsAll s.heap vs ds as
  | _,_,_,.nil,.nil=>⟨_,ReadsAll.nil⟩
  | _,_,_,.cons h q,.cons r rs=>by
    obtain ⟨as,z⟩:=Rep.reads I h r
    obtain ⟨bs,y⟩:=RepAll.reads I q rs
    exact ⟨_,ReadsAll.cons z y⟩
end
end
section
variable {X:Cx}
def rEqD (K:PySem.W.Frag):R2:=fun x y H Q=>∃ d e,Rep K H x d∧Rep K H y e∧SeqAt.shaped d=true∧SeqAt.shaped e=true∧Q (.bl (PyData.eqv d e)) H
def rNeD (K:PySem.W.Frag):R2:=fun x y H Q=>∃ d e,Rep K H x d∧Rep K H y e∧SeqAt.shaped d=true∧SeqAt.shaped e=true∧Q (.bl (!PyData.eqv d e)) H
def rCatT0 (K:PySem.W.Frag):R2:=fun x y H Q=>∃ a b ys,x=.ref a∧y=.ref b∧SqT K H a []∧SqT K H b ys∧Q (.ref b) H
theorem op_catT0:OpR X (binaryOp .Add) (rCatT0 X.K):=by
  intro pins s σ H x y v u Q I rx ry h
  obtain ⟨a,b,ys,rfl,rfl,ha,hb,q⟩:=h
  cases rx
  cases ry
  obtain ⟨its,r1,p1,_⟩:=I.tuple ha
  obtain ⟨its2,r2,p2,_⟩:=I.tuple hb
  obtain ⟨⟨cls,dd,data,sl⟩,ho,hc,n,hd⟩:=id p1
  obtain ⟨⟨cls2,dd2,data2,sl2⟩,ho2,hc2,n2,hd2⟩:=id p2
  simp only at hc hd hc2 hd2
  subst hc hd hc2 hd2
  have e:its=[]:=r1.nil_iff.mpr rfl
  exact concat_meets ⟨_,ho,rfl⟩ ⟨_,ho2,rfl⟩ noFill_tuple_add seq_tuple_add PySem.F.slot_tuple_add PySem.F.entry_tuple_add (PySem.F.args_tuple_add_2 _ _)
    (tuple_addW0 a b its.toArray its2.toArray n n2 dd dd2 sl sl2 (by simp [e])) ⟨ho,ho2,⟨.ref b,H,I,rfl,q⟩⟩
end
end L2
namespace L2
open PySem PySem.Spec PyProof.Rows
section
variable {prog:Program} {w:World} {A:Around} {E:Value→Shared→Prop} {s:Shared} {R:Result→Shared→Prop}
end
section
variable {X:Cx}
def tListRev (K:PySem.W.Frag) (te:TE):TE:=fun σ H Q=>te σ H fun x H1=>∃ l ys,x=.ref l∧SqL K H1 l ys∧∀ p,H1 p=none→Q (.ref p) (upd H1 p (.lst ys.reverse))
end
end L2
namespace L2
open PySem PySem.Spec PyProof.Rows
def Nx (n i:Nat) (Pv:Nat→Hp→Prop) (H:Hp):Prop:=∃ m',m' < n - i∧(m'=n - (i+1)∧i+1≤n∧Pv (i+1) H)
theorem Nx.of {n i:Nat} {Pv:Nat→Hp→Prop} {H:Hp} (h:i < n) (p:Pv (i+1) H):Nx n i Pv H:=⟨n - (i+1),by omega,rfl,h,p⟩
theorem comp_tup {K:PySem.W.Frag} {a D:Addr} {xs:List V} {ix:List Nat} {tb:TBl} {σ:St} {H:Hp} {Q:VK} (Pv:Nat→Hp→Prop) (h0:Pv 0 (upd H D (.lst []))) (hl:∀ i H,i≤xs.length→Pv i H→SqT K H a xs)
    (hs:∀ i x H,xs[i]?=some x→Pv i H→tb (some x::outs ix σ) H (Nx xs.length i Pv) fun z H'=>∃ ys,H' D=some (.lst ys)∧ys.length < sizeLine∧Nx xs.length i Pv (upd H' D (.lst (ys++[z])))) (hd:∀ H,Pv xs.length H→Q (.ref D) H) :
    CompEx (Itt K a) D ix tb σ H Q:=by
  refine ⟨fun i m H=>m=xs.length - i∧i≤xs.length∧Pv i H,⟨xs.length,by simp,Nat.zero_le _,h0⟩,?_⟩
  rintro i m H ⟨rfl,hi,p⟩
  have q:=hl i H hi p
  by_cases hlt:i < xs.length
  · refine .inr ⟨⟨xs,xs[i],q,by simp [hlt]⟩,fun x H' y=>?_⟩
    obtain ⟨e,y⟩:=y
    subst e
    exact hs i x _ (y xs q) p
  · have e:i=xs.length:=by omega
    subst e
    exact .inl ⟨⟨xs,q,Nat.le_refl _⟩,hd H p⟩
theorem comp_list {K:PySem.W.Frag} {a D:Addr} {xs:List V} {ix:List Nat} {tb:TBl} {σ:St} {H:Hp} {Q:VK} (Pv:Nat→Hp→Prop) (h0:Pv 0 (upd H D (.lst []))) (hl:∀ i H,i≤xs.length→Pv i H→SqL K H a xs)
    (hs:∀ i x H,xs[i]?=some x→Pv i H→tb (some x::outs ix σ) H (Nx xs.length i Pv) fun z H'=>∃ ys,H' D=some (.lst ys)∧ys.length < sizeLine∧Nx xs.length i Pv (upd H' D (.lst (ys++[z])))) (hd:∀ H,Pv xs.length H→Q (.ref D) H) :
    CompEx (Itl K a) D ix tb σ H Q:=by
  refine ⟨fun i m H=>m=xs.length - i∧i≤xs.length∧Pv i H,⟨xs.length,by simp,Nat.zero_le _,h0⟩,?_⟩
  rintro i m H ⟨rfl,hi,p⟩
  have q:=hl i H hi p
  by_cases hlt:i < xs.length
  · refine .inr ⟨⟨xs,xs[i],q,by simp [hlt]⟩,fun x H' y=>?_⟩
    obtain ⟨e,y⟩:=y
    subst e
    exact hs i x _ (y xs q) p
  · have e:i=xs.length:=by omega
    subst e
    exact .inl ⟨⟨xs,q,Nat.le_refl _⟩,hd H p⟩
theorem comp_range {lo:Int} {n:Nat} {D:Addr} {ix:List Nat} {tb:TBl} {σ:St} {H:Hp} {Q:VK} (Pv:Nat→Hp→Prop) (h0:Pv 0 (upd H D (.lst [])))
    (hs:∀ i H,i < n→Pv i H→tb (some (.int (lo+i))::outs ix σ) H (Nx n i Pv) fun z H'=>∃ ys,H' D=some (.lst ys)∧ys.length < sizeLine∧Nx n i Pv (upd H' D (.lst (ys++[z])))) (hd:∀ H,Pv n H→Q (.ref D) H) :
    CompEx (Itr lo n) D ix tb σ H Q:=by
  refine ⟨fun i m H=>m=n - i∧i≤n∧Pv i H,⟨n,by simp,Nat.zero_le _,h0⟩,?_⟩
  rintro i m H ⟨rfl,hi,p⟩
  by_cases hlt:i < n
  · refine .inr ⟨hlt,fun x H' y=>?_⟩
    obtain ⟨e,y⟩:=y
    subst e y
    exact hs i _ hlt p
  · have e:i=n:=by omega
    subst e
    exact .inl ⟨Nat.le_refl _,hd H p⟩
theorem CompScope.closed {X:Cx} {x:Str} {scope:Scope} (c1:closureFor scope X.env=pure []) (c2:∀ y ∈ scope.names,y.2 ≠ .cell) (c3:scope.kind=.function) (c4:∀ y ∈ scope.names,y.2=.local→scope.names.lookup y.1=some .local)
    (c5:scope.names.lookup x=some .local) (c6:((relabel scope X.env).names.all fun p=>!(p.2 == .cell || p.2 == .free) || ((([]:List (Str × Addr))).lookup p.1).isSome)=true):CompScope X x [] [] scope [] where
  clos:=c1
  nocell:=c2
  kind:=c3
  names:=c4
  own:=c5
  nd:=by simp
  sub:=fun p hp=>absurd hp (by simp)
  has:=c6
  outs:=fun j y h=>by simp at h
end L2
namespace L2
open PySem PySem.Spec PyProof.Rows
section
variable {X:Cx}
def rIsi (K:PySem.W.Frag):List V→Hp→VK→Prop:=fun xs H Q=>∃ x t n b,xs=[x,.ty n]∧TyOf K H x t∧PySem.W.kitOne K t (.type n)=some b∧Q (.bl b) H
def rLen (K:PySem.W.Frag):List V→Hp→VK→Prop:=fun xs H Q=>∃ p ys,xs=[.ref p]∧(SqL K H p ys∨SqT K H p ys)∧Q (.int ys.length) H
theorem ix_listK (K:PySem.W.Frag) (hK:X.K=K:=by rfl):IxR X (rIxL K):=by subst hK; exact ix_list
theorem ix_tupK (K:PySem.W.Frag) (hK:X.K=K:=by rfl):IxR X (rIxT K):=by subst hK; exact ix_tup
end
end L2
namespace L2
open PySem PySem.Spec PyProof.Rows
def Its (z:Str):It:=⟨fun i _=>i < z.cps.size,fun i H x H'=>H'=H∧∃ c,z.cps[i]?=some c∧x=.str ⟨#[c]⟩,fun i _=>z.cps.size≤i⟩
theorem walks_strU {prog:Program} {w:World} {A:Around} (hh:A.handled=none) (I:Addr) (x:Str) (t:Tok):Walks prog w A I [I] [I] x.cps.size (SignAt x) (fun i h=>h.IsStrIter I (strIterType x) x t i):=by
  unfold strIterType
  split
  · exact Walks.strAscii hh I x t
  · exact Walks.strWide hh I x t
theorem turn_str {P:Program} {w:World} {K:PySem.W.Frag} {y:Str} {py:Pos} (z:Str) (t:Tok) (it:Addr):Turn P w K (.Name y py) (Its z) [it] it (fun i h=>i≤z.cps.size∧h.IsStrIter it (strIterType z) z t i) where
  mem:=by simp
  obj:=fun i h st b hb=>by
    have e:b=it:=by simpa using hb
    subst e
    obtain ⟨_,o,e,c,d⟩:=st
    exact ⟨o,e,fun v z=>by rw [d] at z; cases z⟩
  keep:=fun i h h' st k=>by
    obtain ⟨hi,o,e,r⟩:=st
    exact ⟨hi,o,k it (by simp) o e,r⟩
  item:=by
    intro X hP hw hK hc i pins s σ H E I hf st hg
    subst hP hw hK
    obtain ⟨f0,f1,f2,f3,f4,f5⟩:=hf it (by simp)
    refine (walks_strU (I.ok.hd hc) it z t).item i s _ E hg st.2 fun v h' tk hP hst hk=>?_
    obtain ⟨c,u,hcx,rfl⟩:=hP
    have I1:Inv X pins σ H { s with heap:=h',toks:=tk }:=I.turned (fun b o hb e=>hk b o (by simpa using hb) e) f0 f1 f3 f4 f5
    exact ⟨_,rfl,wpAny_of_eq (a:=()) rfl ⟨.str ⟨#[c]⟩,H,I1,⟨_,rfl⟩,⟨rfl,c,hcx,rfl⟩,⟨hg,hst⟩,fun b hb=>(hf b hb).1⟩⟩
  done:=by
    intro X hP hw hK hc i pins s σ H E I hf st hg
    subst hP hw hK
    obtain ⟨f0,f1,f2,f3,f4,f5⟩:=hf it (by simp)
    have e:i=z.cps.size:=Nat.le_antisymm st.1 hg
    subst e
    refine (walks_strU (I.ok.hd hc) it z t).done s _ E st.2 fun h' tk hk=>?_
    exact ⟨rfl,I.turned (fun b o hb e=>hk b o (by simpa using hb) e) f0 f1 f3 f4 f5⟩
  self:=fun A i s Q E st h=>by
    obtain ⟨_,st⟩:=st
    unfold strIterType at st
    split at st
    · exact wpAny_pyIter_striter_ascii st h
    · exact wpAny_pyIter_striter_wide st h
section
variable {X:Cx} {y:Str} {py:Pos}
def iStr (tl:TE):TI:=fun σ H R=>tl σ H fun x H1=>∃ z,x=.str z∧R (Its z) H1
theorem pi_str {l:Expr} {tl:TE} (hl:PE X l tl):PI X (.Name y py) l (iStr tl):=by
  intro pins s σ H R I h
  refine thn (hl pins s σ H _ I h) fun v s1 ⟨x,H1,I1,r1,q1⟩=>?_
  obtain ⟨z,e,q⟩:=q1
  subst e
  obtain ⟨t,rfl⟩:=r1
  refine wpAny_pyIter_strU ?_
  refine ⟨s1.heap.objs.size,[s1.heap.objs.size],_,_,H1,rfl,I1.kept (t':=s1.toks) fun b o e=>Heap.get?_push_of_some _ e,turn_str z t _,⟨Nat.zero_le _,_,Heap.get?_push_size _ rfl,rfl,rfl⟩,fun b hb=>?_,q⟩
  have e:b=s1.heap.objs.size:=by simpa using hb
  subst e
  exact I1.fpOk (Nat.le_refl _) (I1.hok.fresh (Nat.le_refl _))
end
theorem comp_str {z:Str} {D:Addr} {ix:List Nat} {tb:TBl} {σ:St} {H:Hp} {Q:VK} (Pv:Nat→Hp→Prop) (h0:Pv 0 (upd H D (.lst [])))
    (hs:∀ i c H,z.cps[i]?=some c→Pv i H→tb (some (.str ⟨#[c]⟩)::outs ix σ) H (Nx z.cps.size i Pv) fun u H'=>∃ ys,H' D=some (.lst ys)∧ys.length < sizeLine∧Nx z.cps.size i Pv (upd H' D (.lst (ys++[u])))) (hd:∀ H,Pv z.cps.size H→Q (.ref D) H) :
    CompEx (Its z) D ix tb σ H Q:=by
  refine ⟨fun i m H=>m=z.cps.size - i∧i≤z.cps.size∧Pv i H,⟨z.cps.size,by simp,Nat.zero_le _,h0⟩,?_⟩
  rintro i m H ⟨rfl,hi,p⟩
  by_cases hlt:i < z.cps.size
  · refine .inr ⟨hlt,fun x H' y=>?_⟩
    obtain ⟨e,c,hc,rfl⟩:=y
    subst e
    exact hs i c _ hc p
  · have e:i=z.cps.size:=by omega
    subst e
    exact .inl ⟨Nat.le_refl _,hd H p⟩
section
variable {X:Cx}
def rSlS:V→Option Int→Option Int→Hp→VK→Prop:=fun x lo hi H Q=>∃ z,x=.str z∧z.length≤sizeLine∧Q (.str (Txt.slice z lo hi)) H
theorem sl_str:SlR X rSlS:=by
  intro pins s σ H x v vl vu lo hi sl Q I rx hs pl pu h
  obtain ⟨z,rfl,hz,q⟩:=h
  obtain ⟨t,rfl⟩:=rx
  refine ⟨"str", _,F.slot_str_getitem.lookup,typeIs_str _ _ _,?_⟩
  have fin:∀ t' k,EP X pins σ Q (.str (Txt.slice z lo hi) t') { s with toks:=k }:=fun t' k=>⟨.str _,H,I.tok k,⟨_,rfl⟩,q⟩
  obtain ⟨o,ho,hc,hd⟩:=hs
  cases pl with
  | none =>
    cases pu with
    | none=>exact wpAny_getItem_str_slice (l:=none) (u:=none) (st:=none) ⟨o,ho,hc,hd⟩ rfl (post_val_or_str ⟨Nat.le_trans (Txt.slice_le z _ _) hz,fin⟩)
    | int j u=>exact wpAny_getItem_str_slice (l:=none) (u:=some (j,u)) (st:=none) ⟨o,ho,hc,hd⟩ rfl (post_val_or_str ⟨Nat.le_trans (Txt.slice_le z _ _) hz,fin⟩)
  | int i u' =>
    cases pu with
    | none=>exact wpAny_getItem_str_slice (l:=some (i,u')) (u:=none) (st:=none) ⟨o,ho,hc,hd⟩ rfl (post_val_or_str ⟨Nat.le_trans (Txt.slice_le z _ _) hz,fin⟩)
    | int j u=>exact wpAny_getItem_str_slice (l:=some (i,u')) (u:=some (j,u)) (st:=none) ⟨o,ho,hc,hd⟩ rfl (post_val_or_str ⟨Nat.le_trans (Txt.slice_le z _ _) hz,fin⟩)
def rStarts:V→List V→Hp→VK→Prop:=fun x vs H Q=>∃ z u,x=.str z∧vs=[.str u]∧Q (.bl (Txt.startswith z u)) H
theorem mt_startswith:MtR X "str.startswith" rStarts:=by
  intro pins s σ H x vs v us Q I rx rv h
  obtain ⟨z,u,rfl,rfl,q⟩:=h
  obtain ⟨t,rfl⟩:=rx
  obtain ⟨w',rfl,t',rfl⟩:=rv.one
  exact SC.startswith ⟨.bl _,H,I,rfl,q⟩
theorem strsAre_of:∀ {zs:List Str} {us:List Value},Vals (zs.map V.str) us→StrsAre us zs
  | [],_,.nil=>.nil
  | _::_,_,.cons ⟨t,e⟩ r=>by subst e; exact .cons _ t (strsAre_of r)
def rJoin (K:PySem.W.Frag):V→List V→Hp→VK→Prop:=fun x vs H Q=>∃ z a ys,x=.str z∧vs=[.ref a]∧SqL K H a (ys.map V.str)∧z.length≤16∧(ys.map (·.length)).sum+ys.length≤1048576∧Q (.str (Txt.join z ys)) H
theorem mt_join:MtR X "str.join" (rJoin X.K):=by
  intro pins s σ H x vs v us Q I rx rv h
  obtain ⟨z,a,ys,rfl,rfl,hq,hz,hw,q⟩:=h
  obtain ⟨t,rfl⟩:=rx
  obtain ⟨w',rfl,ra⟩:=rv.one
  cases ra
  obtain ⟨its,r',p,_⟩:=I.list hq
  exact join_listW p.isList (by simpa using strsAre_of r') hz hw fun t' k=>⟨.str _,H,I.tok k,⟨_,rfl⟩,q⟩
def rMulS:R2:=fun x y H Q=>∃ z n,x=.str z∧y=.int n∧MulOk z n∧Q (.str (Txt.mul z n)) H
def rAll (K:PySem.W.Frag):List V→Hp→VK→Prop:=fun xs H Q=>∃ (a:Addr) (bs:List Bool),xs=[.ref a]∧SqL K H a (bs.map V.bl)∧Q (.bl (bs.all id)) H
theorem bools_get:∀ {bs:List Bool} {us:List Value} {i:Nat} {v:Value},Vals (bs.map V.bl) us→us[i]?=some v→∃ b,bs[i]?=some b∧v=.bool b
  | [],_,_,_,.nil,h=>by simp at h
  | b::_,_,0,_,.cons r _,h=>by
    simp at h
    subst h
    exact ⟨b,rfl,r⟩
  | _::_,_,i+1,_,.cons _ t,h=>by
    obtain ⟨b,h1,h2⟩:=bools_get (i:=i) t (by simpa using h)
    exact ⟨b,by simpa using h1,h2⟩
theorem call_all (hc:X.calm=true):CallR X (.builtin "all") (rAll X.K):=by
  intro pins s σ H xs us Q I r h
  obtain ⟨a,bs,rfl,hq,q⟩:=h
  obtain ⟨u,rfl,ru⟩:=vals1 r
  cases ru
  obtain ⟨its,r',p,hz⟩:=I.list hq
  have hl:=r'.length
  rw [List.length_map] at hl
  have hlt:a < s.heap.objs.size:=by obtain ⟨o,n,e,_⟩:=p; exact Heap.lt_size e
  refine call_all_walk (wpAny_pyIter_list p.isList ?_)
  refine ⟨s.heap.objs.size,_,_,_,_,_,fun i=>bs[i]?.getD true,rfl,Walks.list (A:=X.A.in1) (I.ok.hd hc) s.heap.objs.size a (Nat.ne_of_lt hlt) its.toArray,⟨⟨_,Heap.get?_push_size _ rfl,rfl,rfl⟩,p.isList.push _⟩,?_,?_⟩
  · intro i v s' Q' E' hP hQ
    obtain ⟨b,hb,rfl⟩:=bools_get r' (i:=i) (v:=v) (by simpa using hP)
    have hQ':Q' b s':=by simpa [hb] using hQ
    exact wpAny_truthy_bool hQ'
  · intro h' tk hk
    have e:(List.range its.toArray.size).all (fun i=>bs[i]?.getD true)=bs.all id:=by
      rw [List.size_toArray,← hl]
      rw [Bool.eq_iff_iff,List.all_eq_true,List.all_eq_true]
      constructor
      · intro h b hb
        obtain ⟨i,hi,e⟩:=List.getElem_of_mem hb
        have:=h i (List.mem_range.mpr hi)
        rw [List.getElem?_eq_getElem hi] at this
        simpa [e] using this
      · intro h i hi
        have hi':=List.mem_range.mp hi
        rw [List.getElem?_eq_getElem hi']
        exact h _ (List.getElem_mem hi')
    rw [e]
    refine ⟨.bl _,H,?_,rfl,q⟩
    have I1:Inv X pins σ H { s with heap:=s.heap.push { cls:=.type "list_iterator", data:=.fields #[.ref a,.int 0 0] } }:=I.kept (t':=s.toks) fun b o e=>Heap.get?_push_of_some _ e
    refine I1.turnedL (t':=tk) (ch:=[s.heap.objs.size]) (fun b o hb e=>hk b o (by simpa using hb) e) fun b hb=>?_
    rw [List.mem_singleton.mp hb]
    exact I.fpOk (Nat.le_refl _) (I.hok.fresh (Nat.le_refl _))
end
end L2
namespace L2
open PySem PySem.Spec PyProof.Rows
inductive Consts:List Expr→List Str→Prop
  | nil:Consts [] []
  | cons {x:Str} {j:Nat} {pos:Pos} {es:List Expr} {zs:List Str}:Consts es zs→Consts (.Constant (.str x) j pos::es) (x::zs)
theorem pa_consts {X:Cx}:∀ {es:List Expr} {zs:List Str},Consts es zs→PA X es (fun _ H Q=>Q (zs.map V.str) H)
  | _,_,.nil=>pa_nil
  | _,_,.cons h=>fun pos pins s σ H Q I q=>pa_cons pe_str (pa_consts h) (by rfl) pos pins s σ H Q I q
theorem CompScope.one {X:Cx} {x y:Str} {scope:Scope} {k:Nat} {c:Addr} (c1:closureFor scope X.env=pure [(y,c)]) (c2:∀ y ∈ scope.names,y.2 ≠ .cell) (c3:scope.kind=.function) (c4:∀ y ∈ scope.names,y.2=.local→scope.names.lookup y.1=some .local)
    (c5:scope.names.lookup x=some .local) (nd:[x,y].Nodup) (hc:X.env.cells.lookup y=some c) (c6:((relabel scope X.env).names.all fun p=>!(p.2 == .cell || p.2 == .free) || (([(y,c)]:List (Str × Addr)).lookup p.1).isSome)=true)
    (hr:(relabel scope X.env).names.lookup y=some .cell) (hk:X.N[k]?=some y) (hs:X.env.scope.names.lookup y=some .cell):CompScope X x [y] [k] scope [(y,c)] where
  clos:=c1
  nocell:=c2
  kind:=c3
  names:=c4
  own:=c5
  nd:=nd
  sub:=fun p hp=>by
    rw [List.mem_singleton.mp hp]
    exact hc
  has:=c6
  outs:=fun j z h=>by
    cases j with
    | zero =>
      have e:y=z:=Option.some.inj h
      subst e
      exact ⟨hr,k,c,rfl,hk,by simp [List.lookup],hs⟩
    | succ j=>simp at h
theorem CompScope.two {X:Cx} {x y z:Str} {scope:Scope} {k l:Nat} {c d:Addr} {cl:List (Str × Addr)} (c1:closureFor scope X.env=pure cl) (c2:∀ y ∈ scope.names,y.2 ≠ .cell) (c3:scope.kind=.function) (c4:∀ y ∈ scope.names,y.2=.local→scope.names.lookup y.1=some .local)
    (c5:scope.names.lookup x=some .local) (nd:[x,y,z].Nodup) (hcl:cl=[(z,d),(y,c)]∨cl=[(y,c),(z,d)]) (hc:X.env.cells.lookup y=some c) (hd:X.env.cells.lookup z=some d) (c6:((relabel scope X.env).names.all fun p=>!(p.2 == .cell || p.2 == .free) || (cl.lookup p.1).isSome)=true)
    (hr:(relabel scope X.env).names.lookup y=some .cell) (hk:X.N[k]?=some y) (hs:X.env.scope.names.lookup y=some .cell)
    (hr2:(relabel scope X.env).names.lookup z=some .cell) (hk2:X.N[l]?=some z) (hs2:X.env.scope.names.lookup z=some .cell):CompScope X x [y,z] [k,l] scope cl where
  clos:=c1
  nocell:=c2
  kind:=c3
  names:=c4
  own:=c5
  nd:=nd
  sub:=fun p hp=>by
    rcases hcl with rfl | rfl
    all_goals
      rcases List.mem_cons.mp hp with e | e
      · rw [e]; assumption
      · rw [List.mem_singleton.mp e]; assumption
  has:=c6
  outs:=fun j w h=>by
    have nyz:y ≠ z:=fun e=>by simp [e] at nd
    match j,h with
    | 0,h =>
      have e:y=w:=Option.some.inj h
      subst e
      refine ⟨hr,k,c,rfl,hk,?_,hs⟩
      rcases hcl with rfl | rfl
      · have:(y == z)=false:=by simpa using nyz
        simp [List.lookup,this]
      · simp [List.lookup]
    | 1,h =>
      have e:z=w:=Option.some.inj h
      subst e
      refine ⟨hr2,l,d,rfl,hk2,?_,hs2⟩
      rcases hcl with rfl | rfl
      · simp [List.lookup]
      · have:(z == y)=false:=by simpa using Ne.symm nyz
        simp [List.lookup,this]
    | j+2,h=>simp at h
end L2
namespace Mine
open PySem L2
def NmOk (x:Str):Prop:=x.length≤20∧(∀ c ∈ x.cps.toList,97≤c∧c≤122)∧x ≠ "aa"
theorem mem_slice {x:Str} {l u:Option Int} {c:Nat} (h:c ∈ (Txt.slice x l u).cps.toList):c ∈ x.cps.toList:=by
  have e:Txt.slice x l u=StrLaws.sliceText x l u:=rfl
  rw [e] at h
  unfold StrLaws.sliceText at h
  split at h
  · exact h
  · obtain ⟨i,_,hi⟩:=List.mem_filterMap.mp (show c ∈ (List.filterMap _ _) by simpa using h)
    have:=Array.mem_of_getElem? hi
    simpa using this
theorem mem_append {x y:Str} {c:Nat} (h:c ∈ (x++y).cps.toList):c ∈ x.cps.toList∨c ∈ y.cps.toList:=by
  have e:(x++y).cps.toList=x.cps.toList++y.cps.toList:=by simp [Str.cps_append]
  rw [e] at h
  exact List.mem_append.mp h
theorem mem_join0 {zs:List Str} {c:Nat} (h:c ∈ (Txt.join "" zs).cps.toList):∃ z ∈ zs,c ∈ z.cps.toList:=by
  have e:Txt.join "" zs=Str.join "" zs:=by
    cases zs with
    | nil=>rfl
    | cons a r=>exact StrLaws.glued_cons "" r a
  rw [e] at h
  rcases (PyProof.Rows.mem_join "" c zs).mp h with h | ⟨_,h⟩
  · exact h
  · have e0:(("" : Str)).cps.toList=[]:=by decide +kernel
    rw [e0] at h
    cases h
inductive Tr where
  | is (x:Str) | yes | no | not (a:Tr) | bin (w:Str) (a b:Tr)
def Tr.size:Tr→Nat
  | .is _=>1 | .yes=>1 | .no=>1 | .not a=>a.size+1 | .bin _ a b=>a.size+b.size+1
def Tr.depth:Tr→Nat
  | .is _=>1 | .yes=>1 | .no=>1 | .not a=>a.depth+1 | .bin _ a b=>max a.depth b.depth+1
def Tr.names:Tr→List Str
  | .is x=>[x] | .yes=>[] | .no=>[] | .not a=>a.names | .bin _ a b=>a.names++b.names
def joinW:List Str:=["and", "or", "odd", "same"]
def Tr.ok (ns:List Str):Tr→Prop
  | .is x=>x ∈ ns | .yes=>True | .no=>True | .not a=>a.ok ns | .bin w a b=>w ∈ joinW∧a.ok ns∧b.ok ns
inductive TreeAt (H:Hp):V→Tr→Prop
  | is {a:Addr} {x:Str}:H a=some (.tup [.str "is", .str x])→TreeAt H (.ref a) (.is x)
  | yes {a:Addr}:H a=some (.tup [.str "yes"])→TreeAt H (.ref a) .yes
  | no {a:Addr}:H a=some (.tup [.str "no"])→TreeAt H (.ref a) .no
  | not {a:Addr} {v:V} {t:Tr}:H a=some (.tup [.str "not", v])→TreeAt H v t→TreeAt H (.ref a) (.not t)
  | bin {a:Addr} {w:Str} {v u:V} {t r:Tr}:H a=some (.tup [.str w,v,u])→TreeAt H v t→TreeAt H u r→TreeAt H (.ref a) (.bin w t r)
abbrev KeepT (H H':Hp):Prop:=∀ a xs,H a=some (.tup xs)→H' a=some (.tup xs)
theorem TreeAt.mono {H H':Hp} (k:KeepT H H') {v:V} {t:Tr} (h:TreeAt H v t):TreeAt H' v t:=by
  induction h with
  | is e=>exact .is (k _ _ e)
  | yes e=>exact .yes (k _ _ e)
  | no e=>exact .no (k _ _ e)
  | not e _ ih=>exact .not (k _ _ e) ih
  | bin e _ _ i1 i2=>exact .bin (k _ _ e) i1 i2
theorem keepT_same {H H':Hp} (s:Same H H'):KeepT H H':=fun a _ h=>s a _ h
theorem keepT_feed {H H':Hp} {f:Addr} (F:FeedAt H f) (s:SameBut f H H'):KeepT H H':=fun a xs h=>s a _ (fun z=>by
  obtain ⟨o,t,e,_⟩:=F
  rw [z,e] at h
  cases h) h
def NamesAt (H:Hp) (a:Addr) (ns:List Str):Prop:=H a=some (.lst (ns.map V.str))∨H a=some (.tup (ns.map V.str))
theorem NamesAt.ne {H:Hp} {f a:Addr} {ns:List Str} (F:FeedAt H f) (h:NamesAt H a ns):a ≠ f:=fun z=>by
  obtain ⟨o,t,e,_⟩:=F
  subst z
  rcases h with h | h
  · rw [e] at h
    have h':=HO.lst.inj (Option.some.inj h)
    cases ns with
    | nil=>cases h'
    | cons x r=>simp at h'
  · rw [e] at h
    cases h
theorem NamesAt.feed {H H':Hp} {f a:Addr} {ns:List Str} (F:FeedAt H f) (s:SameBut f H H') (h:NamesAt H a ns):NamesAt H' a ns:=by
  have ne:=h.ne F
  rcases h with h | h
  · exact .inl (s _ _ ne h)
  · exact .inr (s _ _ ne h)
theorem NamesAt.same {H H':Hp} {a:Addr} {ns:List Str} (s:Same H H') (h:NamesAt H a ns):NamesAt H' a ns:=by
  rcases h with h | h
  · exact .inl (s _ _ h)
  · exact .inr (s _ _ h)
theorem NamesAt.seq {K:PySem.W.Frag} {H:Hp} {a:Addr} {ns:List Str} (h:NamesAt H a ns):SqL K H a (ns.map V.str)∨SqT K H a (ns.map V.str):=by
  rcases h with h | h
  · exact .inl (SqL.of h)
  · exact .inr (SqT.of h)
theorem NamesAt.ix {K:PySem.W.Frag} {H:Hp} {a:Addr} {ns:List Str} {i:Int} {x:V} {Q:VK} (h:NamesAt H a ns) (hx:atI (ns.map V.str) i=some x) (q:Q x H):rIxL K (.ref a) (.int i) H Q∨rIxT K (.ref a) (.int i) H Q:=by
  rcases h with h | h
  · exact .inl ⟨a,_,i,x,rfl,rfl,SqL.of h,hx,q⟩
  · exact .inr ⟨a,_,i,x,rfl,rfl,SqT.of h,hx,q⟩
def spNames:Sp:=fun vs H Q _=>∃ (f:Addr) (m:Int),vs=[.ref f,.int m]∧FeedAt H f∧0≤m∧m≤6∧∀ (l:Addr) (ns:List Str) (H':Hp),H l=none→l ≠ f→H' l=some (.lst (ns.map V.str))→ns.length=m.toNat→(∀ x ∈ ns,NmOk x)→FeedAt H' f→SameBut f H H'→Q (.ref l) H'
def spTree (n:Nat):Sp:=fun vs H Q _=>∃ (f a:Addr) (room deep:Int) (ns:List Str),vs=[.ref f,.ref a,.int room,.int deep]∧FeedAt H f∧NamesAt H a ns∧ns.length≤6∧1≤room∧room≤100∧1≤deep∧deep+1≤(n:Int)+1 ∧
  ∀ (v:V) (t:Tr) (H':Hp),FeedAt H' f→SameBut f H H'→TreeAt H' v t→t.ok ns→(t.size:Int)≤room→(t.depth:Int)≤deep→Q v H'
theorem at_in {α:Type} {l:List α} {i:Int} (h0:0≤i) (h:i < (l.length:Int)):∃ v,atI l i=some v∧v ∈ l:=by
  have hk:i.toNat < l.length:=by omega
  have q:atI l ((i.toNat:Nat):Int)=some l[i.toNat]:=atI_nat (List.getElem?_eq_getElem hk)
  have ek:((i.toNat:Nat):Int)=i:=by omega
  rw [ek] at q
  exact ⟨_,q,List.getElem_mem hk⟩
end Mine
namespace L2
open PySem PySem.Spec PyProof.Rows
section
variable {X:Cx}
def rngV (lo:Int) (n:Nat):List Int:=(List.range n).map fun i:Nat=>lo+(i:Int)
def tListRng (ta:TA):TE:=fun σ H Q=>ta σ H fun vs H1=>∃ i j:Int,vs=[.int i,.int j]∧(-(2 ^ 62)≤i∧i < 2 ^ 62∧-(2 ^ 62)≤j∧j < 2 ^ 62)∧j - i≤1000∧∀ p,H1 p=none→Q (.ref p) (upd H1 p (.lst ((rngV i (j - i).toNat).map V.int)))
def rSum (K:PySem.W.Frag):List V→Hp→VK→Prop:=fun xs H Q=>∃ (a:Addr) (ns:List Int),xs=[.ref a]∧SqL K H a (ns.map V.int)∧(∀ n ∈ ns,0≤n)∧ns.sum < 2 ^ 63∧Q (.int ns.sum) H
theorem ints_get:∀ {bs:List Int} {us:List Value} {i:Nat} {v:Value},Vals (bs.map V.int) us→us[i]?=some v→∃ b t,bs[i]?=some b∧v=.int b t
  | [],_,_,_,.nil,h=>by simp at h
  | b::_,_,0,_,.cons r _,h=>by
    simp at h
    subst h
    obtain ⟨t,e⟩:=r
    exact ⟨b,t,rfl,e⟩
  | _::_,_,i+1,_,.cons _ t,h=>by
    obtain ⟨b,t,h1,h2⟩:=ints_get (i:=i) t (by simpa using h)
    exact ⟨b,t,by simpa using h1,h2⟩
end
end L2
namespace L2
open PySem PySem.Spec PyProof.Rows
def RevT (h:Heap) (it t:Addr) (i:Int):Prop:=h.get? it=some { cls:=.type "reversed", data:=.fields #[.ref t,rawInt i] }
section
variable {prog:Program} {w:World} {A:Around} {E:Value→Shared→Prop} {s:Shared} {R:Result→Shared→Prop} {it t:Addr}
end
section
variable {X:Cx}
def tListRevT (K:PySem.W.Frag) (te:TE):TE:=fun σ H Q=>te σ H fun x H1=>∃ l ys,x=.ref l∧SqT K H1 l ys∧∀ p,H1 p=none→Q (.ref p) (upd H1 p (.lst ys.reverse))
end
end L2
namespace Mine
open PySem L2
def Tr.wf:Tr→Prop
  | .is x=>NmOk x | .yes=>True | .no=>True | .not a=>a.wf | .bin w a b=>w ∈ joinW∧a.wf∧b.wf
def Tr.parts:Tr→List Tr
  | .is _=>[] | .yes=>[] | .no=>[] | .not a=>[a] | .bin _ a b=>[a,b]
theorem Tr.ok_wf {ns:List Str} (hn:∀ x ∈ ns,NmOk x):∀ t:Tr,t.ok ns→t.wf
  | .is _,h=>hn _ h
  | .yes,_=>trivial
  | .no,_=>trivial
  | .not a,h=>Tr.ok_wf hn a h
  | .bin _ a b,⟨h,h1,h2⟩=>⟨h,Tr.ok_wf hn a h1,Tr.ok_wf hn b h2⟩
theorem Tr.size_pos:∀ t:Tr,1≤t.size
  | .is _=>Nat.le_refl _ | .yes=>Nat.le_refl _ | .no=>Nat.le_refl _ | .not a=>Nat.le_add_left .. | .bin _ a b=>Nat.le_add_left ..
theorem Tr.depth_pos:∀ t:Tr,1≤t.depth
  | .is _=>Nat.le_refl _ | .yes=>Nat.le_refl _ | .no=>Nat.le_refl _ | .not a=>Nat.le_add_left .. | .bin _ a b=>Nat.le_add_left ..
def sizes (ts:List Tr):Nat:=(ts.map Tr.size).sum
def namesL (ts:List Tr):List Str:=(ts.map Tr.names).flatten
theorem Tr.size_parts (t:Tr):t.size=sizes t.parts+1:=by
  cases t <;> simp [Tr.size,Tr.parts,sizes]
theorem Tr.names_parts (t:Tr) (h:∀ x,t ≠ .is x):t.names=namesL t.parts:=by
  cases t with
  | is x=>exact absurd rfl (h x)
  | _=>simp [Tr.names,Tr.parts,namesL]
theorem Tr.parts_mem {t u:Tr} (h:u ∈ t.parts) (w:t.wf):u.wf∧u.depth+1≤t.depth∧u.size+1≤t.size:=by
  cases t with
  | is x=>simp [Tr.parts] at h
  | yes=>simp [Tr.parts] at h
  | no=>simp [Tr.parts] at h
  | not a =>
    rw [List.mem_singleton.mp h]
    exact ⟨w,Nat.le_refl _,Nat.le_refl _⟩
  | bin o a b =>
    obtain ⟨_,w1,w2⟩:=w
    rcases List.mem_cons.mp h with e | e
    · rw [e]
      refine ⟨w1,?_,?_⟩
      · show a.depth+1≤max a.depth b.depth+1
        omega
      · show a.size+1≤a.size+b.size+1
        omega
    · rw [List.mem_singleton.mp e]
      refine ⟨w2,?_,?_⟩
      · show b.depth+1≤max a.depth b.depth+1
        omega
      · show b.size+1≤a.size+b.size+1
        omega
inductive TreesAt (H:Hp):List V→List Tr→Prop
  | nil:TreesAt H [] []
  | cons {v:V} {t:Tr} {vs:List V} {ts:List Tr}:TreeAt H v t→TreesAt H vs ts→TreesAt H (v::vs) (t::ts)
theorem TreesAt.mono {H H':Hp} (k:KeepT H H') {vs:List V} {ts:List Tr} (h:TreesAt H vs ts):TreesAt H' vs ts:=by
  induction h with
  | nil=>exact .nil
  | cons a _ ih=>exact .cons (a.mono k) ih
theorem TreesAt.append {H:Hp} {vs us:List V} {ts rs:List Tr} (h:TreesAt H vs ts) (g:TreesAt H us rs):TreesAt H (vs++us) (ts++rs):=by
  induction h with
  | nil=>exact g
  | cons a _ ih=>exact .cons a ih
theorem TreesAt.length {H:Hp} {vs:List V} {ts:List Tr} (h:TreesAt H vs ts):vs.length=ts.length:=by
  induction h with
  | nil=>rfl
  | cons _ _ ih=>rw [List.length_cons,List.length_cons,ih]
theorem TreesAt.get {H:Hp} {vs:List V} {ts:List Tr} (h:TreesAt H vs ts):∀ {i:Nat} {v:V},vs[i]?=some v→∃ t,ts[i]?=some t∧TreeAt H v t:=by
  induction h with
  | nil=>intro i v e; simp at e
  | cons a _ ih =>
    intro i v e
    cases i with
    | zero=>cases (Option.some.inj e); exact ⟨_,rfl,a⟩
    | succ i=>exact ih (i:=i) (by simpa using e)
theorem join_ne_is {w:Str} (h:w ∈ joinW):w ≠ "is" := (by decide +kernel:∀ w ∈ joinW,w ≠ ("is" : Str)) w h
theorem TreeAt.view {H:Hp} {v:V} {t:Tr} (h:TreeAt H v t) (w:t.wf):(∃ (a:Addr) (x:Str),v=.ref a∧t=.is x∧NmOk x∧H a=some (.tup [.str "is", .str x])) ∨
    ∃ (a:Addr) (o:Str) (xs:List V),v=.ref a∧o ≠ "is" ∧ xs.length≤2∧H a=some (.tup (.str o::xs))∧TreesAt H xs t.parts∧(∀ x,t ≠ .is x):=by
  cases h with
  | is e=>exact .inl ⟨_,_,rfl,rfl,w,e⟩
  | yes e=>exact .inr ⟨_,_,[],rfl,by decide +kernel,by simp,e,.nil,fun x z=>by cases z⟩
  | no e=>exact .inr ⟨_,_,[],rfl,by decide +kernel,by simp,e,.nil,fun x z=>by cases z⟩
  | not e g=>exact .inr ⟨_,_,[_],rfl,by decide +kernel,by simp,e,.cons g .nil,fun x z=>by cases z⟩
  | bin e g g2=>exact .inr ⟨_,_,[_,_],rfl,join_ne_is w.1,by simp,e,.cons g (.cons g2 .nil),fun x z=>by cases z⟩
theorem cut1 (o:V):∀ xs:List V,xs.length≤2→cutV (o::xs) (some 1) none=xs∧¬ (HT.sIx (o::xs).length 0 (some 1)=0∧HT.sIx (o::xs).length (o::xs).length none=(o::xs).length)
  | [],_=>⟨rfl,fun h=>absurd h.1 (show ¬ HT.sIx 1 0 (some 1)=0 by decide)⟩
  | [_],_=>⟨rfl,fun h=>absurd h.1 (show ¬ HT.sIx 2 0 (some 1)=0 by decide)⟩
  | [_,_],_=>⟨rfl,fun h=>absurd h.1 (show ¬ HT.sIx 3 0 (some 1)=0 by decide)⟩
  | _::_::_::_,h=>absurd h (by simp)
def Tr.data:Tr→PyData
  | .is x=>.tuple [.str "is", .str x] | .yes=>.tuple [.str "yes"] | .no=>.tuple [.str "no"] | .not a=>.tuple [.str "not", a.data] | .bin w a b=>.tuple [.str w,a.data,b.data]
theorem Tr.names_len:∀ t:Tr,t.names.length≤t.size
  | .is _=>Nat.le_refl _
  | .yes=>Nat.zero_le _
  | .no=>Nat.zero_le _
  | .not a=>Nat.le_succ_of_le (Tr.names_len a)
  | .bin _ a b=>by
    have:=Tr.names_len a
    have:=Tr.names_len b
    show (a.names++b.names).length≤a.size+b.size+1
    rw [List.length_append]
    omega
end Mine
namespace L2
open PySem PySem.Spec PyProof.Rows
section
variable {prog:Program} {w:World} {A:Around} {E:Value→Shared→Prop} {s:Shared}
def idxF (xs:Array Value) (x:Value):Nat→Option PySem.Fin × Unit→Sem (ForInStep (Option PySem.Fin × Unit)):=fun i _=>match xs[i]? with
  | some y=>do
    let b ← eqBool y x
    if b=true then do
        let r ← retInt (i:Int)
        pure (ForInStep.done (some r,()))
      else pure (ForInStep.yield (none,()))
  | _=>pure (ForInStep.yield (none,()))
theorem idx_loop {xs:Array Value} {x:Value} {e:Value→Bool} (he:∀ y ∈ xs,SeqAt.EqAt A s y x (e y)) {j:Nat} (hj:j < xs.size) (ej:e xs[j]=true) (bf:∀ (m:Nat) (hm:m < xs.size),m < j→e xs[m]=false) {Q:Option PySem.Fin × Unit→Shared→Prop}
    (q:Q (some (.done (.ret (.int (j:Int) s.toks))),()) { s with toks:=s.toks+1 }):∀ (n k:Nat),k≤j→j < k+n→k+n≤xs.size→wpAny (model prog w) A (forIn (List.range' k n 1) ((none:Option PySem.Fin),()) (idxF xs x)) Q E s
  | 0,k,h1,h2,_=>absurd h2 (by omega)
  | n+1,k,h1,h2,h3=>by
    have hk:k < xs.size:=by omega
    rw [List.range'_succ,List.forIn_cons]
    refine wpAny_bind ?_
    have e1:idxF xs x k ((none:Option PySem.Fin),())=(do
        let b ← eqBool xs[k] x
        if b=true then do
            let r ← retInt (k:Int)
            pure (ForInStep.done (some r,()))
          else pure (ForInStep.yield (none,()))):=by
      unfold idxF
      rw [Array.getElem?_eq_getElem hk]
    rw [e1]
    refine wpAny_bind (he _ (Array.getElem_mem hk) prog w _ _ ?_)
    by_cases c:k=j
    · subst c
      rw [ej]
      refine wpAny_ite_split (fun _=>?_) (fun hab=>absurd rfl hab)
      refine wpAny_bind ?_
      refine wpAny_bind (wpAny_mkInt ?_)
      refine wpAny_pure ?_
      refine wpAny_pure ?_
      exact wpAny_pure q
    · rw [bf k hk (by omega)]
      refine wpAny_ite_split (fun hab=>absurd hab (by decide)) (fun _=>?_)
      refine wpAny_pure ?_
      exact idx_loop he hj ej bf q n (k+1) (by omega) (by omega) (by omega)
theorem meets_tupIndex (l:Addr) (items:Array Value) (n:Nat) (dd:Option Addr) (sl:Array (Option Value)) (x:Value) (e:Value→Bool) (j:Nat) (hj:j < items.size) (ej:e items[j]=true) (bf:∀ (m:Nat) (hm:m < items.size),m < j→e items[m]=false) :
    Meets (Builtin.«tuple.index» { pos:=[.ref l,x] }) fun A R s=>s.heap.get? l=some { cls:=.type "tuple", dict:=dd,data:=.seq items n,slots:=sl }∧(∀ y ∈ items,SeqAt.EqAt A.in1 s y x (e y))∧R (.ok (.ret (.int (j:Int) s.toks))) { s with toks:=s.toks+1 }:=by
  intro prog w A R s ⟨hl,he,q⟩
  unfold Builtin.«tuple.index»
  refine wpAny_bind (wpAny_of_eq (a:=(Value.ref l,[x])) rfl ?_)
  refine wpAny_bind (wpAny_tupleItemsOf hl rfl ?_)
  refine wpAny_bind (wpAny_pure ?_)
  refine wpAny_bind (wpAny_pure ?_)
  refine wpAny_bind ?_
  rw [Std.Legacy.Range.forIn_eq_forIn_range']
  have e1:Std.Legacy.Range.size [0:min items.size items.size]=items.size:=by simp [Std.Legacy.Range.size]
  rw [e1]
  refine idx_loop he hj ej bf ?_ items.size 0 (Nat.zero_le _) (by omega) (by omega)
  exact wpAny_pure q
end
section
variable {X:Cx}
def posOf (z:Str):List Str→Option Nat
  | []=>none
  | a::r=>if a=z then some 0 else (posOf z r).map (·+1)
theorem posOf_lt {z:Str}:∀ {ns:List Str} {j:Nat},posOf z ns=some j→ns[j]?=some z∧∀ m,m < j→∀ y,ns[m]?=some y→y ≠ z
  | [],_,h=>by simp [posOf] at h
  | a::r,j,h=>by
    unfold posOf at h
    by_cases c:a=z
    · rw [if_pos c] at h
      cases h
      exact ⟨by simp [c],fun m hm=>absurd hm (by omega)⟩
    · rw [if_neg c] at h
      obtain ⟨i,hi,rfl⟩:=Option.map_eq_some_iff.mp h
      obtain ⟨h1,h2⟩:=posOf_lt hi
      refine ⟨by simpa using h1,fun m hm y hy=>?_⟩
      cases m with
      | zero=>cases (Option.some.inj hy); exact c
      | succ m=>exact h2 m (by omega) y (by simpa using hy)
theorem strs_get:∀ {bs:List Str} {us:List Value} {i:Nat} {v:Value},Vals (bs.map V.str) us→us[i]?=some v→∃ b t,bs[i]?=some b∧v=.str b t
  | [],_,_,_,.nil,h=>by simp at h
  | b::_,_,0,_,.cons r _,h=>by
    simp at h
    subst h
    obtain ⟨t,e⟩:=r
    exact ⟨b,t,rfl,e⟩
  | _::_,_,i+1,_,.cons _ t,h=>by
    obtain ⟨b,t,h1,h2⟩:=strs_get (i:=i) t (by simpa using h)
    exact ⟨b,t,by simpa using h1,h2⟩
theorem flat_strs (ns:List Str):(ns.map V.str).all flatV=true:=by
  induction ns with
  | nil=>rfl
  | cons a r ih=>rw [List.map_cons,List.all_cons,ih]; rfl
theorem index_facts {ns:List Str} {its:List Value} {z:Str} {j:Nat} (r:Vals (ns.map V.str) its) (h:posOf z ns=some j) :
    ∃ hj:j < its.toArray.size,eqU (.str z) its.toArray[j]=true∧∀ (m:Nat) (hm:m < its.toArray.size),m < j→eqU (.str z) its.toArray[m]=false:=by
  obtain ⟨h1,h2⟩:=posOf_lt h
  have hl:=r.length
  rw [List.length_map] at hl
  have jl:j < ns.length:=(List.getElem?_eq_some_iff.mp h1).1
  have hj:j < its.toArray.size:=by rw [List.size_toArray,← hl]; exact jl
  refine ⟨hj,?_,fun m hm mj=>?_⟩
  · obtain ⟨b,t,e1,e2⟩:=strs_get r (i:=j) (v:=its.toArray[j]) (by simp)
    rw [e2]
    rw [h1] at e1
    cases e1
    show (z == z)=true
    simp
  · obtain ⟨b,t,e1,e2⟩:=strs_get r (i:=m) (v:=its.toArray[m]) (by simp)
    rw [e2]
    show (b == z)=false
    have:=h2 m mj b e1
    simpa using this
def rIndexT (K:PySem.W.Frag):V→List V→Hp→VK→Prop:=fun x vs H Q=>∃ (a:Addr) (ns:List Str) (z:Str) (j:Nat),x=.ref a∧vs=[.str z]∧SqT K H a (ns.map V.str)∧posOf z ns=some j∧Q (.int (j:Int)) H
theorem mt_indexT:MtR X "tuple.index" (rIndexT X.K):=by
  intro pins s σ H x vs v us Q I rx rv h
  obtain ⟨a,ns,z,j,rfl,rfl,hq,hp,q⟩:=h
  cases rx
  obtain ⟨u,rfl,ru⟩:=rv.one
  obtain ⟨its,r,⟨⟨cls,dd,data,sl⟩,ho,hc,n,hd⟩,hz⟩:=I.tuple hq
  simp only at hc hd
  subst hc hd
  obtain ⟨hj,e1,e2⟩:=index_facts r hp
  refine call_meets F.slot_tuple_index ⟨_,ho,rfl⟩ F.entry_tuple_index (F.args_tuple_index_2 _ _) (meets_tupIndex a its.toArray n dd sl u (eqU (.str z)) j hj e1 e2) ⟨ho,fun y hy=>?_,?_⟩
  · exact mem_eqAt ru rfl r (flat_strs ns) y (by simpa using hy)
  · exact ⟨.int (j:Int),H,I.tok _,⟨_,rfl⟩,q⟩
def rIndexL (K:PySem.W.Frag):V→List V→Hp→VK→Prop:=fun x vs H Q=>∃ (a:Addr) (ns:List Str) (z:Str) (j:Nat),x=.ref a∧vs=[.str z]∧SqL K H a (ns.map V.str)∧posOf z ns=some j∧Q (.int (j:Int)) H
theorem mt_indexL:MtR X "list.index" (rIndexL X.K):=by
  intro pins s σ H x vs v us Q I rx rv h
  obtain ⟨a,ns,z,j,rfl,rfl,hq,hp,q⟩:=h
  cases rx
  obtain ⟨u,rfl,ru⟩:=rv.one
  obtain ⟨its,r,⟨⟨cls,dd,data,sl⟩,n,ho,hc,hdd,hd⟩,hz⟩:=I.list hq
  simp only at hc hd
  subst hc hd
  obtain ⟨hj,e1,e2⟩:=index_facts r hp
  have h63:=line63
  have hl:=r.length
  refine call_meets F.slot_list_index ⟨_,ho,rfl⟩ F.entry_list_index (F.args_list_index_2 _ _) (SeqAt.list_indexAt a its.toArray n dd sl u (eqU (.str z)) j hj (by rw [List.size_toArray] at hj; omega) e1 e2) ⟨ho,fun y hy=>?_,?_⟩
  · exact mem_eqAt ru rfl r (flat_strs ns) y (by simpa using hy)
  · exact ⟨.int (j:Int),H,I.tok _,⟨_,rfl⟩,q⟩
end
end L2
namespace L2
open PySem PySem.Spec PyProof.Rows
section
variable {κ:Type} [DecidableEq κ]
def valV (kvs:List (κ × V)) (k:κ):Option V:=(kvs.find? fun kv=>decide (kv.1=k)).map (·.2)
def putK (kvs:List (κ × V)) (k:κ) (v:V):List (κ × V) :=
  if (kvs.any fun kv=>decide (kv.1=k))=true then kvs.map (fun kv=>if kv.1=k then (kv.1,v) else kv) else kvs++[(k,v)]
def dropK (kvs:List (κ × V)) (k:κ):List (κ × V):=kvs.filter fun kv=>decide (kv.1 ≠ k)
end
abbrev KT (H:Hp):List (List Key × V)→List (List Key × Addr × Value)→Prop:=Paired fun p q=>p.1=q.1∧H q.2.1=some (.tup (p.1.map kV))∧RelV p.2 q.2.2
section
variable {P:Program} {w:World} {H:Hp} {h:Heap} {a:Addr}
end
def DGet (H:Hp) (a:Addr) (y:V) (r:Option V):Prop :=
  (∃ kvs k,Rd H a (.dK kvs)∧y=kV k∧r=valV kvs k)∨∃ kvs k b,Rd H a (.dT kvs)∧y=.ref b∧H b=some (.tup (k.map kV))∧r=valV kvs k
def DPut (H:Hp) (a:Addr) (y v:V) (H':Hp):Prop :=
  (∃ kvs k,H a=some (.dK kvs)∧y=kV k∧kvs.length < sizeLine∧H'=upd H a (.dK (putK kvs k v))) ∨
  ∃ kvs k b,H a=some (.dT kvs)∧y=.ref b∧H b=some (.tup (k.map kV))∧kvs.length < sizeLine∧H'=upd H a (.dT (putK kvs k v))
section
variable {X:Cx} {pins:List (Addr × Obj)} {σ:St} {H:Hp} {s:Shared} {a:Addr} {y v:V} {u r:Value} {o:Option V} {A:Around} {E:Value→Shared→Prop}
end
section
variable {X:Cx} {pins:List (Addr × Obj)} {σ:St} {H:Hp} {s:Shared} {a:Addr} {kvs:List (Key × V)} {k:Key} {u:Value} {A:Around} {E:Value→Shared→Prop}
end
def NoSl (i:Expr):Prop:=∀ ov iv,subscripted i false ov iv=operate [ov,iv] (getItem ov iv)
def tDGet (td ty:TE):TE:=fun σ H Q=>td σ H fun x H1=>ty σ H1 fun y H2=>∃ a v,x=.ref a∧DGet H2 a y (some v)∧Q v H2
def tDIn (ty td:TE):TE:=fun σ H Q=>ty σ H fun y H1=>td σ H1 fun x H2=>∃ a o,x=.ref a∧DGet H2 a y o∧Q (.bl o.isSome) H2
def tDNotIn (ty td:TE):TE:=fun σ H Q=>ty σ H fun y H1=>td σ H1 fun x H2=>∃ a o,x=.ref a∧DGet H2 a y o∧Q (.bl (!o.isSome)) H2
def sDPut (td ty tv:TE):TS:=fun D σ H=>tv σ H fun v H1=>td σ H1 fun x H2=>ty σ H2 fun y H3=>∃ a H4,x=.ref a∧DPut H3 a y v H4∧D.nx σ H4
def sDAug (td ty tv:TE) (rd:V→V→Hp→VK→Prop):TS:=fun D σ H=>td σ H fun x H1=>ty σ H1 fun y H2=>∃ a v,x=.ref a∧DGet H2 a y (some v) ∧
  tv σ H2 fun y2 H3=>rd v y2 H3 fun z H4=>∃ H5,DPut H4 a y z H5∧D.nx σ H5
def sDDel (td ty:TE):TS:=fun D σ H=>td σ H fun x H1=>ty σ H1 fun y H2=>∃ a kvs k,x=.ref a∧H2 a=some (.dK kvs)∧y=kV k∧(valV kvs k).isSome=true∧D.nx σ (upd H2 a (.dK (dropK kvs k)))
section
variable {X:Cx} {o i e value:Expr} {pos pos' tpos:Pos} {td ty tv:TE}
end
def tDNewK:TE:=fun _ H Q=>∀ p,H p=none→Q (.ref p) (upd H p (.dK []))
def tDNewT:TE:=fun _ H Q=>∀ p,H p=none→Q (.ref p) (upd H p (.dT []))
section
variable {X:Cx} {pos:Pos}
end
def tPairs:List (TE × TE)→St→Hp→(List (V × V)→Hp→Prop)→Prop
  | [],_,H,Q=>Q [] H
  | (tk,tv)::r,σ,H,Q=>tk σ H fun x H1=>tv σ H1 fun y H2=>tPairs r σ H2 fun ps H3=>Q ((x,y)::ps) H3
abbrev VV:List (V × V)→List (Value × Value)→Prop:=Paired fun p q=>RelV p.1 q.1∧RelV p.2 q.2
def PPs (X:Cx) (pos:Pos) (keys:List (Option Expr)) (values:List Expr) (trs:List (TE × TE)):Prop :=
  ∀ (pins:List (Addr × Obj)) (s:Shared) (σ:St) (H:Hp) (Q:List (V × V)→Hp→Prop),Inv X pins σ H s→tPairs trs σ H Q →
    wpAny (model X.prog X.w) X.A (evalPairs (pairTrees keys values X.env pos)) (fun vs s'=>∃ ps H',Inv X pins σ H' s'∧VV ps vs∧Q ps H') X.xe s
def mergeK (kvs more:List (Key × V)):List (Key × V):=more.foldl (fun acc kv=>putK acc kv.1 kv.2) kvs
def tDisp (trs:List (TE × TE)):TE:=fun σ H Q=>∀ p,H p=none→tPairs trs σ (upd H p (.dK [])) fun ps H2=>H2 p=some (.dK [])∧∃ kvs:List (Key × V),ps=kvs.map (fun kv=>(kV kv.1,kv.2))∧kvs.length≤15∧Q (.ref p) (upd H2 p (.dK (mergeK [] kvs)))
structure M1 (X:Cx) (o:Expr) (m:Str) (apos:Pos) (e:Expr) (cpos:Pos):Prop where
  base:attributeBase o m X.env (eval o X.env)=eval o X.env
  few:((backTo cpos (starEach [e] X.env)).all (fun x=>!x.1) && (backToKw cpos (keywordEach [] X.env)).all (fun x=>x.1.isSome)
    && decide (([e]:List Expr).length+([]:List Keyword).length+(if ([]:List Keyword).isEmpty then 0 else 1) < 30))=true
  line:(apos.endLine == cpos.line)=true
  trees:backTo cpos (starEach [e] X.env)=[(false,eval e X.env)]
structure M2 (X:Cx) (o:Expr) (m:Str) (apos:Pos) (e f:Expr) (cpos:Pos):Prop where
  base:attributeBase o m X.env (eval o X.env)=eval o X.env
  few:((backTo cpos (starEach [e,f] X.env)).all (fun x=>!x.1) && (backToKw cpos (keywordEach [] X.env)).all (fun x=>x.1.isSome)
    && decide (([e,f]:List Expr).length+([]:List Keyword).length+(if ([]:List Keyword).isEmpty then 0 else 1) < 30))=true
  line:(apos.endLine == cpos.line)=true
  trees:backTo cpos (starEach [e,f] X.env)=[(false,eval e X.env),(false,eval f X.env)]
def IsD (H:Hp) (a:Addr):Prop:=(∃ kvs,Rd H a (.dK kvs))∨∃ kvs,Rd H a (.dT kvs)
section
variable {X:Cx} {pins:List (Addr × Obj)} {σ:St} {H:Hp} {s:Shared} {a:Addr} {y d:V} {u r:Value} {o:Option V} {A:Around} {E:Value→Shared→Prop}
end
def tDGet1 (td ty:TE):TE:=fun σ H Q=>td σ H fun x H1=>∃ a,x=.ref a∧IsD H1 a∧ty σ H1 fun y H2=>∃ o,DGet H2 a y o∧Q (o.getD .non) H2
def tDGet2 (td ty tx:TE):TE:=fun σ H Q=>td σ H fun x H1=>∃ a,x=.ref a∧IsD H1 a∧ty σ H1 fun y H2=>tx σ H2 fun z H3=>∃ o,DGet H3 a y o∧Q (o.getD z) H3
def tDPop1 (td ty:TE):TE:=fun σ H Q=>td σ H fun x H1=>∃ a,x=.ref a∧IsD H1 a∧ty σ H1 fun y H2=>∃ kvs k v,H2 a=some (.dK kvs)∧y=kV k∧valV kvs k=some v∧Q v (upd H2 a (.dK (dropK kvs k)))
def tDPop2 (td ty tx:TE):TE:=fun σ H Q=>td σ H fun x H1=>∃ a,x=.ref a∧IsD H1 a∧ty σ H1 fun y H2=>tx σ H2 fun z H3=>∃ kvs k,H3 a=some (.dK kvs)∧y=kV k ∧
  (∀ v,valV kvs k=some v→Q v (upd H3 a (.dK (dropK kvs k))))∧(valV kvs k=none→Q z H3)
section
variable {X:Cx} {o e f:Expr} {apos cpos:Pos} {td ty tx:TE}
end
section
variable {X:Cx} {pins:List (Addr × Obj)} {σ:St} {H:Hp} {s:Shared} {a:Addr} {kvs:List (Key × V)} {A:Around} {E:Value→Shared→Prop}
end
section
variable {X:Cx} {pins:List (Addr × Obj)} {σ:St} {H:Hp} {s:Shared} {a:Addr} {y:V} {u:Value} {A:Around} {E:Value→Shared→Prop}
end
end L2
namespace L2
open PySem PySem.Spec PyProof.Rows
section
variable {X:Cx}
theorem Inv.tupD {pins:List (Addr × Obj)} {σ:St} {H:Hp} {s:Shared} {a:Addr} {xs:List V} (I:Inv X pins σ H s) (h:H a=some (.tup xs)):∃ ob,s.heap.get? a=some ob∧ob.dict=none:=by
  obtain ⟨_,_,_,_,o,e,d⟩:=(show ObjOk X.prog X.w H s.heap a (.tup xs) from I.hok a _ h)
  exact ⟨o,e,d⟩
def tIndex (K:PySem.W.Frag) (to:TE) (t:TA):TE:=fun σ H Q=>to σ H fun x H1=>∃ (a:Addr) (ns:List Str),x=.ref a∧(H1 a=some (.lst (ns.map V.str))∨H1 a=some (.tup (ns.map V.str)))∧t σ H1 fun vs H2=>(H2 a=H1 a)∧∃ (z:Str) (j:Nat),vs=[.str z]∧posOf z ns=some j∧Q (.int (j:Int)) H2
variable {o e:Expr} {es:List Expr} {to:TE} {t:TA} {apos cpos:Pos}
theorem pe_index (pl:PlainAttrs "list") (pt:PlainAttrs "tuple") (ho:PE X o to) (ha:PA X (e::es) t)
    (hbase:attributeBase o "index" X.env (eval o X.env)=eval o X.env:=by rfl)
    (hfew:((backTo cpos (starEach (e::es) X.env)).all (fun x=>!x.1) && (backToKw cpos (keywordEach [] X.env)).all (fun x=>x.1.isSome)
      && decide ((e::es).length+([]:List Keyword).length+(if ([]:List Keyword).isEmpty then 0 else 1) < 30))=true:=by rfl)
    (hline:(apos.endLine == cpos.line)=true:=by rfl) (hs:starEach (e::es) X.env=(false,eval e X.env)::starEach es X.env:=by rfl) (hplain:(backTo cpos (starEach es X.env)).any (·.1)=false:=by rfl) :
    PE X (.Call (.Attribute o "index" apos) (e::es) [] cpos) (tIndex X.K to t):=by
  intro pins s σ H Q I h
  refine wpAny_Call_method_late hbase hfew hline rfl (thn (ho pins s σ H _ I h) fun v s1 ⟨x,H1,I1,r1,a,ns,ex,hh,q1⟩=>?_)
  subst ex
  cases r1
  have hA:=ha cpos pins s1 σ H1 _ I1 q1
  rw [hs] at hA ⊢
  rcases hh with hh | hh
  · obtain ⟨its,_,p,_⟩:=I1.list (SqL.of hh)
    obtain ⟨ob,n,e1,c,d,_⟩:=id p
    refine ⟨"list", "list.index", pl,F.slot_list_index,F.type_list_index,p.isList.typeIs,fun b eb=>?_,?_⟩
    · cases eb
      exact ⟨ob,e1,d⟩
    · refine Calls.callWith_builtin (by show (false || (backTo cpos (starEach es X.env)).any (·.1))=false; rw [hplain] <;> rfl) (Calls.evalArgs_plain ?_)
      exact thn hA fun us s2 ⟨vs,H2,I2,r2,ek,z,j,ez,hp,q2⟩=>mt_indexL pins s2 σ H2 (.ref a) vs (.ref a) us Q I2 rfl r2 ⟨a,ns,z,j,rfl,ez,SqL.of (ek.trans hh),hp,q2⟩
  · obtain ⟨its,_,p,_⟩:=I1.tuple (SqT.of hh)
    refine ⟨"tuple", "tuple.index", pt,F.slot_tuple_index,F.type_tuple_index,p.typeIs,fun b eb=>?_,?_⟩
    · cases eb
      exact I1.tupD hh
    · refine Calls.callWith_builtin (by show (false || (backTo cpos (starEach es X.env)).any (·.1))=false; rw [hplain] <;> rfl) (Calls.evalArgs_plain ?_)
      exact thn hA fun us s2 ⟨vs,H2,I2,r2,ek,z,j,ez,hp,q2⟩=>mt_indexT pins s2 σ H2 (.ref a) vs (.ref a) us Q I2 rfl r2 ⟨a,ns,z,j,rfl,ez,SqT.of (ek.trans hh),hp,q2⟩
end
end L2
namespace L2
open PySem PySem.Spec PyProof.Rows
theorem CompScope.three {X:Cx} {x y z u:Str} {scope:Scope} {k l m:Nat} {c d e:Addr} {cl:List (Str × Addr)} (c1:closureFor scope X.env=pure cl) (c2:∀ y ∈ scope.names,y.2 ≠ .cell) (c3:scope.kind=.function) (c4:∀ y ∈ scope.names,y.2=.local→scope.names.lookup y.1=some .local)
    (c5:scope.names.lookup x=some .local) (nd:[x,y,z,u].Nodup) (hcl:cl=[(y,c),(z,d),(u,e)]) (hc:X.env.cells.lookup y=some c) (hd:X.env.cells.lookup z=some d) (he:X.env.cells.lookup u=some e) (c6:((relabel scope X.env).names.all fun p=>!(p.2 == .cell || p.2 == .free) || (cl.lookup p.1).isSome)=true)
    (hr:(relabel scope X.env).names.lookup y=some .cell) (hk:X.N[k]?=some y) (hs:X.env.scope.names.lookup y=some .cell)
    (hr2:(relabel scope X.env).names.lookup z=some .cell) (hk2:X.N[l]?=some z) (hs2:X.env.scope.names.lookup z=some .cell)
    (hr3:(relabel scope X.env).names.lookup u=some .cell) (hk3:X.N[m]?=some u) (hs3:X.env.scope.names.lookup u=some .cell):CompScope X x [y,z,u] [k,l,m] scope cl where
  clos:=c1
  nocell:=c2
  kind:=c3
  names:=c4
  own:=c5
  nd:=nd
  sub:=fun p hp=>by
    subst hcl
    rcases List.mem_cons.mp hp with h | h
    · rw [h]; assumption
    · rcases List.mem_cons.mp h with h | h
      · rw [h]; assumption
      · rw [List.mem_singleton.mp h]; assumption
  has:=c6
  outs:=fun j w h=>by
    have nyz:y ≠ z:=fun e=>by simp [e] at nd
    have nyu:y ≠ u:=fun e=>by simp [e] at nd
    have nzu:z ≠ u:=fun e=>by simp [e] at nd
    subst hcl
    match j,h with
    | 0,h =>
      have e:y=w:=Option.some.inj h
      subst e
      exact ⟨hr,k,c,rfl,hk,by simp [List.lookup],hs⟩
    | 1,h =>
      have e:z=w:=Option.some.inj h
      subst e
      have:(z == y)=false:=by simpa using Ne.symm nyz
      exact ⟨hr2,l,d,rfl,hk2,by simp [List.lookup,this],hs2⟩
    | 2,h =>
      have ew:u=w:=Option.some.inj h
      subst ew
      have h1:(u == y)=false:=by simpa using Ne.symm nyu
      have h2:(u == z)=false:=by simpa using Ne.symm nzu
      exact ⟨hr3,m,e,rfl,hk3,by simp [List.lookup,h1,h2],hs3⟩
    | j+3,h=>simp at h
end L2
namespace L2
open PySem PySem.Spec PyProof.Rows
section
variable {X:Cx}
theorem count_eqU {x:V}:∀ {xs:List V} {us:List Value},Vals xs us→xs.all flatV=true→us.countP (eqU x)=xs.countP fun y=>eqV y x
  | _,_,.nil,_=>rfl
  | y::xs,u::us,.cons r t,f=>by
    rw [List.all_cons,Bool.and_eq_true] at f
    rw [List.countP_cons,List.countP_cons,eqU_of r f.1,count_eqU t f.2]
def rCountL (K:PySem.W.Frag):V→List V→Hp→VK→Prop:=fun x vs H Q=>∃ (a:Addr) (xs:List V) (z:V),x=.ref a∧vs=[z]∧SqL K H a xs∧xs.all flatV=true∧flatV z=true∧Q (.int ((xs.countP fun y=>eqV y z:Nat):Int)) H
theorem mt_count:MtR X "list.count" (rCountL X.K):=by
  intro pins s σ H x vs v us Q I rx rv h
  obtain ⟨a,xs,z,rfl,rfl,hq,fs,fz,q⟩:=h
  cases rx
  obtain ⟨u,rfl,ru⟩:=rv.one
  obtain ⟨its,r,⟨⟨cls,dd,data,sl⟩,n,ho,hc,hdd,hd⟩,hz⟩:=I.list hq
  simp only at hc hd
  subst hc hd
  refine call_meets F.slot_list_count ⟨_,ho,rfl⟩ F.entry_list_count (F.args_list_count_2 _ _) (SeqAt.list_countAt a its.toArray n dd sl u (eqU z)) ⟨ho,fun y hy=>?_,?_⟩
  · exact mem_eqAt ru fz r fs y (by simpa using hy)
  · rw [show its.toArray.toList=its from rfl,count_eqU r fs]
    exact ⟨.int ((xs.countP fun y=>eqV y z:Nat):Int),H,I.tok _,⟨_,rfl⟩,q⟩
end
section
variable {prog:Program} {w:World} {A:Around} {E:Value→Shared→Prop} {s:Shared}
end
section
variable {X:Cx} {e k:Expr} {te tk:TE} {pos p2:Pos}
def tRev (K:PySem.W.Frag) (te tk:TE):TE:=fun σ H Q=>te σ H fun x H1=>tk σ H1 fun y H2=>y=.int (-1)∧∃ a xs,x=.ref a ∧
  ((SqL K H2 a xs∧∀ p,H2 p=none→Q (.ref p) (upd H2 p (.lst xs.reverse)))∨(SqT K H2 a xs∧∀ p,H2 p=none→Q (.ref p) (upd H2 p (.tup xs.reverse))))
end
def bestI (g:Nat→Int):Nat→Int
  | 0=>g 0
  | k+1=>if bestI g k < g (k+1) then g (k+1) else bestI g k
def maxD (ns:List Int) (d:Int):Int:=match ns with | []=>d | _::_=>bestI (fun i=>ns[i]?.getD 0) (ns.length - 1)
section
variable {prog:Program} {w:World} {A:Around} {R:Result→Shared→Prop} {I S:Addr} {fp wr:List Addr} {n:Nat} {P:Nat→Value→Prop} {St:Nat→Heap→Prop} {g:Nat→Int} {kw:List (Str × Value)}
theorem mx_name:(toString "max" ++ toString ".loop" : String) = "max.loop" := by decide
theorem mx_turns (W:Walks prog w A.in1 I fp wr n P St) (gv:∀ i v,P i v→∃ t,v=Value.int (g i) t) (nS:S ∉ fp):∀ (k j:Nat) (s:Shared) (t:Tok) (c:Nat),j+1+k=n→St (j+1) s.heap →
    s.heap.get? S=some { cls:=.type "list", dict:=none,data:=.seq #[.int (bestI g j) t,.int (bestI g j) t] c,slots:=#[] } →
    (∀ t' h' tk,(∀ b o,b ∉ wr→b ≠ S→s.heap.get? b=some o→h'.get? b=some o)→R (.ok (.ret (.int (bestI g (n - 1)) t'))) { s with heap:=h',toks:=tk }) →
    codeAny (model prog w) A (.builtin "max.loop" ⟨[.ref I,.none,.ref S],kw⟩) R s:=by
  have nw:S ∉ wr:=fun z=>nS (W.sub _ z)
  intro k
  induction k with
  | zero =>
    intro j s t c ek st eS q
    refine codeAny_builtin F.entry_max_loop ?_; rw [Around.under_plainId F.plain_max_loop _]
    show wpAny _ A.in1 (seqItems? (.ref S) >>= _) _ _ s; refine wpAny_bind (wpAny_seqItems eS rfl ?_)
    show wpAny _ A.in1 (tryCatch (pyNext (.ref I)) _ >>= _) _ _ s; refine wpAny_bind (wpAny_tryCatch (W.done s _ _ (by rw [← ek]; exact st) fun h' tk kp=>?_))
    show wpAny _ A.in1 (updateSeq S (fun _=>#[]) >>= _) _ _ _; refine wpAny_bind ?_
    refine wpAny_updateSeq (kp S _ nw eS) rfl (wpAny_bind (wpAny_letGo (wpAny_pure ?_)))
    have e:n - 1=j:=by omega
    rw [e] at q
    exact q t _ tk fun b o h1 h2 eb=>(Heap.get?_update_other _ _ (Ne.symm h2)).trans (kp b o h1 eb)
  | succ k ih =>
    intro j s t c ek st eS q
    refine codeAny_builtin F.entry_max_loop ?_; rw [Around.under_plainId F.plain_max_loop _]
    show wpAny _ A.in1 (seqItems? (.ref S) >>= _) _ _ s; refine wpAny_bind (wpAny_seqItems eS rfl ?_)
    show wpAny _ A.in1 (tryCatch (pyNext (.ref I)) _ >>= _) _ _ s; refine wpAny_bind (wpAny_tryCatch (W.item (j+1) s _ _ (by omega) st fun v h' tk pv st' kp=>?_))
    obtain ⟨tv,rfl⟩:=gv _ _ pv
    have eS':=kp S _ nw eS
    show wpAny _ A.in1 (tryCatch (holding [Value.int (g (j+1)) tv,Value.int (g (j+1)) tv] (richCompare .Gt (Value.int (g (j+1)) tv) (Value.int (bestI g j) t) >>= _)) _ >>= _) _ _ _
    refine wpAny_bind (wpAny_tryCatch (wpAny_holding (wpAny_bind (CmpOf.ints_gt (prog:=prog) (w:=w) (A:=A.in1) (P:=fun i v=>∃ t,v=Value.int (if i=0 then bestI g j else g (j+1)) t) (fun i=>if i=0 then bestI g j else g (j+1)) (fun i v h=>h) 1 0 _ _ _ _ _ ⟨tv,rfl⟩ ⟨t,rfl⟩ ?_))))
    refine wpAny_bind (wpAny_holding (wpAny_truthy_bool ?_)); refine wpAny_bind (wpAny_letGo (wpAny_pure ?_))
    by_cases c1:bestI g j < g (j+1)
    · have e1:bestI g (j+1)=g (j+1):=by unfold bestI; rw [if_pos c1]
      refine wpAny_ite_split (fun _=>?_) (fun hab=>absurd (decide_eq_true c1) hab)
      refine wpAny_bind ?_
      refine wpAny_updateSeq eS' rfl (wpAny_bind (wpAny_letGo ?_)); rw [mx_name]
      refine wpAny_pure ⟨plainId_quiet F.plain_max_loop _,ih (j+1) _ tv _ (by omega) (W.frame _ _ _ st' fun b hb o eb=>?_) (by rw [e1]; exact Heap.get?_update_self _ eS' rfl) fun t' h2 tk2 kp2=>?_⟩
      · exact (Heap.get?_update_other _ _ (fun z:S=b=>nS (by rw [z]; exact hb))).trans eb
      · exact q t' h2 tk2 fun b o h1 h3 eb=>kp2 b o h1 h3 ((Heap.get?_update_other _ _ (Ne.symm h3)).trans (kp b o h1 eb))
    · have e1:bestI g (j+1)=bestI g j:=by unfold bestI; rw [if_neg c1]; cases j <;> rfl
      refine wpAny_ite_split (fun hab=>absurd (of_decide_eq_true hab) c1) (fun _=>?_)
      refine wpAny_bind (wpAny_letGo ?_); rw [mx_name]
      refine wpAny_pure ⟨plainId_quiet F.plain_max_loop _,ih (j+1) _ t c (by omega) st' (by rw [e1]; exact eS') fun t' h2 tk2 kp2=>?_⟩
      exact q t' h2 tk2 fun b o h1 h3 eb=>kp2 b o h1 h3 (kp b o h1 eb)
theorem mx_first (W:Walks prog w A.in1 I fp wr n P St) (gv:∀ i v,P i v→∃ t,v=Value.int (g i) t) (nS:S ∉ fp) (hn:0 < n) {s:Shared} {c:Nat} (st:St 0 s.heap) (eS:s.heap.get? S=some { cls:=.type "list", dict:=none,data:=.seq #[] c,slots:=#[] })
    (q:∀ t' h' tk,(∀ b o,b ∉ wr→b ≠ S→s.heap.get? b=some o→h'.get? b=some o)→R (.ok (.ret (.int (bestI g (n - 1)) t'))) { s with heap:=h',toks:=tk }) :
    codeAny (model prog w) A (.builtin "max.loop" ⟨[.ref I,.none,.ref S],kw⟩) R s:=by
  have nw:S ∉ wr:=fun z=>nS (W.sub _ z)
  refine codeAny_builtin F.entry_max_loop ?_; rw [Around.under_plainId F.plain_max_loop _]
  show wpAny _ A.in1 (seqItems? (.ref S) >>= _) _ _ s; refine wpAny_bind (wpAny_seqItems eS rfl ?_)
  show wpAny _ A.in1 (tryCatch (pyNext (.ref I)) _ >>= _) _ _ s; refine wpAny_bind (wpAny_tryCatch (W.item 0 s _ _ hn st fun v h' tk pv st' kp=>?_))
  obtain ⟨tv,rfl⟩:=gv _ _ pv
  have eS':=kp S _ nw eS
  show wpAny _ A.in1 (updateSeq S (fun _=>#[Value.int (g 0) tv,Value.int (g 0) tv]) >>= _) _ _ _; refine wpAny_bind ?_
  refine wpAny_updateSeq eS' rfl ?_; rw [mx_name]
  refine wpAny_pure ⟨plainId_quiet F.plain_max_loop _,mx_turns W gv nS (n - 1) 0 _ tv _ (by omega) (W.frame _ _ _ st' fun b hb o eb=>?_) (Heap.get?_update_self _ eS' rfl) fun t' h2 tk2 kp2=>?_⟩
  · exact (Heap.get?_update_other _ _ (fun z:S=b=>nS (by rw [z]; exact hb))).trans eb
  · exact q t' h2 tk2 fun b o h1 h3 eb=>kp2 b o h1 h3 ((Heap.get?_update_other _ _ (Ne.symm h3)).trans (kp b o h1 eb))
end
section
variable {X:Cx} {e k:Expr} {te tk:TE} {pos p1 kp:Pos}
def tMaxD (K:PySem.W.Frag) (te tk:TE):TE:=fun σ H Q=>te σ H fun x H1=>tk σ H1 fun y H2=>∃ a ns d,x=.ref a∧y=.int d∧SqT K H2 a (ns.map V.int)∧Q (.int (maxD ns d)) H2
def rMax1 (K:PySem.W.Frag):List V→Hp→VK→Prop:=fun xs H Q=>∃ a ns,xs=[.ref a]∧SqL K H a (ns.map V.int)∧ns ≠ []∧Q (.int (maxD ns 0)) H
theorem call_max1 (hc:X.calm=true):CallR X (.builtin "max") (rMax1 X.K):=by
  intro pins s2 σ H2 xs us Q I2 r h
  obtain ⟨a,ns,rfl,hq,hn,q⟩:=h
  obtain ⟨u,rfl,ru⟩:=vals1 r
  cases ru
  obtain ⟨its,r',p,hz⟩:=I2.list hq
  have hl:=r'.length
  rw [List.length_map] at hl
  have hlt:a < s2.heap.objs.size:=by obtain ⟨o,n,e,_⟩:=p; exact Heap.lt_size e
  refine call_function_tree F.kind_max F.plain_max F.entry_max (F.args_max1 _) ?_
  show wpAny _ X.A.in1 (Builtin.Builtins.bindParams "max" ["key", "default"] 0 ⟨[],[]⟩ >>= fun _=>_) _ _ s2
  refine wpAny_bind (wpAny_of_eq (a:=[none,none]) rfl ?_)
  refine wpAny_bind (wpAny_pure ?_)
  refine wpAny_bind (wpAny_pyIter_list p.isList ?_)
  refine wpAny_bind (wpAny_newObj_type ?_); rw [mx_name]
  have hne:a ≠ s2.heap.objs.size:=Nat.ne_of_lt hlt
  have W:=Walks.list (prog:=X.prog) (w:=X.w) (A:=X.A.in1) (I2.ok.hd hc) s2.heap.objs.size a hne its.toArray
  have I3:Inv X pins σ H2 { s2 with heap:=s2.heap.push { cls:=.type "list_iterator", data:=.fields #[.ref a,.int 0 0] } }:=I2.kept (t':=s2.toks) fun b o eb=>Heap.get?_push_of_some _ eb
  have I4:Inv X pins σ H2 { s2 with heap:=(s2.heap.push { cls:=.type "list_iterator", data:=.fields #[.ref a,.int 0 0] }).push { cls:=.type "list", data:=.seq #[] } }:=I3.kept (t':=s2.toks) fun b o eb=>Heap.get?_push_of_some _ eb
  have hz1:∀ o:Obj,(s2.heap.push o).objs.size=s2.heap.objs.size+1:=fun o=>by simp [Heap.push]
  have nS:(s2.heap.push { cls:=.type "list_iterator", data:=.fields #[.ref a,.int 0 0] }).objs.size ∉ [s2.heap.objs.size,a]:=by
    intro hm
    rcases List.mem_cons.mp hm with z | z
    · rw [hz1] at z
      exact absurd z (Nat.succ_ne_self _)
    · have z:=List.mem_singleton.mp z
      rw [hz1] at z
      exact absurd z (Nat.ne_of_gt (Nat.lt_succ_of_lt hlt))
  have gv:∀ i v,its.toArray[i]?=some v→∃ t,v=Value.int (ns[i]?.getD 0) t:=fun i v hv=>by
    obtain ⟨b,t,hb,rfl⟩:=ints_get r' (i:=i) (v:=v) (by first | exact hv | simpa using hv | (rw [List.getElem?_toArray] at hv; exact hv))
    exact ⟨t,by rw [hb]; rfl⟩
  have n0:0 < ns.length:=List.length_pos_iff.mpr hn
  refine wpAny_pure ⟨plainId_quiet F.plain_max_loop _,mx_first (g:=fun i=>ns[i]?.getD 0) W gv nS (by rw [List.size_toArray,← hl]; exact n0) ⟨⟨_,Heap.get?_push_of_some _ (Heap.get?_push_size _ rfl),rfl,rfl⟩,(p.isList.push _).push _⟩ (Heap.get?_push_size _ rfl) fun t' h' tk kp=>?_⟩
  rw [List.size_toArray,← hl]
  have em:bestI (fun i=>ns[i]?.getD 0) (ns.length - 1)=maxD ns 0:=by
    cases ns with
    | nil=>exact absurd rfl hn
    | cons _ _=>rfl
  rw [em]
  refine ⟨.int _,H2,?_,⟨_,rfl⟩,q⟩
  have J:=Inv.turnedL (h':=h') (t':=tk) (ch:=[s2.heap.objs.size,s2.heap.objs.size+1]) I4 (fun b o hb eb=>kp b o (fun z=>hb (by rw [List.mem_singleton.mp z]; exact List.mem_cons_self)) (fun z=>hb (by rw [z,hz1]; exact List.mem_cons_of_mem _ List.mem_cons_self)) eb)
  refine J fun b hb=>?_
  rcases List.mem_cons.mp hb with h | h
  · rw [h]
    exact I2.fpOk (Nat.le_refl _) (I2.hok.fresh (Nat.le_refl _))
  · rw [List.mem_singleton.mp h]
    exact I2.fpOk (Nat.le_succ _) (I2.hok.fresh (Nat.le_succ _))
end
end L2
namespace L2
open PySem PySem.Spec PyProof.Rows
section
variable {prog:Program} {w:World} {A:Around} {E:Value→Shared→Prop} {s:Shared}
theorem tn_item {it t:Addr} {i:Nat} {items:Array Value} {x:Value} {Q:Value→Shared→Prop} (hit:s.heap.IsTupleIter it t i) (ht:s.heap.IsTuple t items) (hx:items[i]?=some x)
    (q:∀ h',h'.IsTupleIter it t (i+1)→Heap.SameBut it s.heap h'→Q x { s with heap:=h' }):wpAny (model prog w) A (Builtin.SmallTypes.nextOf (.ref it)) Q E s:=by
  obtain ⟨o,ho,hc,hd⟩:=id hit; obtain ⟨ol,hol,_,nl,hdl⟩:=ht
  unfold Builtin.SmallTypes.nextOf
  refine wpAny_bind (wpAny_callSpecial?_slot (name:=Str.ofString "__next__") hit.typeIs F.slot_tuple_iterator_next (wpAny_call_entry F.slot_tuple_iterator_next hit.typeIs F.entry_tuple_iterator_next ?_ (F.args_tuple_iterator_next_1 _)))
  show wpAny _ _ (field (.ref it) 0 >>= _) _ _ s; refine wpAny_bind (wpAny_field ho hd (x:=.ref t) rfl ?_)
  show wpAny _ _ (if (Value.ref t == Value.none)=true then _ else _) _ _ s; rw [if_neg (show ¬ ((Value.ref t == Value.none)=true) from Bool.false_ne_true)]
  show wpAny _ _ (field (.ref it) 1 >>= _) _ _ s; refine wpAny_bind (wpAny_field ho hd (x:=.int i 0) rfl ?_)
  show wpAny _ _ (seqItems? (.ref t) >>= _) _ _ s; refine wpAny_bind (wpAny_seqItems hol hdl ?_)
  simp only [Int.toNat_natCast,hx]
  refine wpAny_bind (wpAny_setField ho hd (by simp) (wpAny_pure ⟨x,rfl,wpAny_pure (q _ ?_ (Heap.SameBut.update ..))⟩))
  exact ⟨_,Heap.get?_update_self _ ho (Obj.isFreed_of_fields (Obj.data_mapFields hd _)),(Obj.cls_mapFields ..).trans hc,by rw [Obj.data_mapFields hd]; simp [rawInt]⟩
theorem tn_end {it t:Addr} {i:Nat} {items:Array Value} {Q:Value→Shared→Prop} (hh:A.handled=none) (hit:s.heap.IsTupleIter it t i) (ht:s.heap.IsTuple t items) (hx:items[i]?=none)
    (q:∀ h' e,Heap.ExtBut it s.heap h'→(∃ o,h'.get? e=some o∧o.cls=.type "StopIteration")→E (.ref e) { s with heap:=h' }):wpAny (model prog w) A (Builtin.SmallTypes.nextOf (.ref it)) Q E s:=by
  obtain ⟨o,ho,hc,hd⟩:=id hit; obtain ⟨ol,hol,_,nl,hdl⟩:=ht
  unfold Builtin.SmallTypes.nextOf
  refine wpAny_bind (wpAny_callSpecial?_slot (name:=Str.ofString "__next__") hit.typeIs F.slot_tuple_iterator_next (wpAny_call_entry F.slot_tuple_iterator_next hit.typeIs F.entry_tuple_iterator_next ?_ (F.args_tuple_iterator_next_1 _)))
  show wpAny _ _ (field (.ref it) 0 >>= _) _ _ s; refine wpAny_bind (wpAny_field ho hd (x:=.ref t) rfl ?_)
  show wpAny _ _ (if (Value.ref t == Value.none)=true then _ else _) _ _ s; rw [if_neg (show ¬ ((Value.ref t == Value.none)=true) from Bool.false_ne_true)]
  show wpAny _ _ (field (.ref it) 1 >>= _) _ _ s; refine wpAny_bind (wpAny_field ho hd (x:=.int i 0) rfl ?_)
  show wpAny _ _ (seqItems? (.ref t) >>= _) _ _ s; refine wpAny_bind (wpAny_seqItems hol hdl ?_)
  simp only [Int.toNat_natCast,hx]
  first
    | refine wpAny_bind (wpAny_rule (wpAny_bind (wpAny_setField ho hd (by simp) (wpAny_bind (wpAny_letGo ?_)))))
    | refine wpAny_bind (wpAny_rule (wpAny_bind (wpAny_setField ho hd (by simp) ?_)))
  show wpAny _ _ (newExc (.type "StopIteration") [] >>= _) _ _ _; refine wpAny_bind ?_
  simp only [newExc,newTuple]; refine wpAny_bind (wpAny_newObj_type ?_ (by size_fits))
  refine wpAny_bind (m:=firstArgMember _ _) (wpAny_of_eq (a:=Value.none) (by first | rfl | (simp only [firstArgMember]; rfl)) ?_); refine wpAny_newObj_type ?_ (by size_fits)
  simp only [raiseNew]; refine wpAny_bind (wpAny_handled ?_)
  first | rw [show A.in1.handled=none from hh] | rw [hh]
  refine wpAny_bind (wpAny_pure (wpAny_throw ?_)); exact q _ _ (((Heap.SameBut.update ..).extBut.push _).push _) ⟨_,Heap.get?_push_size _ rfl,rfl⟩
theorem enumT_end {e it t:Addr} {j:Nat} {i:Int} {old:Value} {items:Array Value} {Q:Option Value→Shared→Prop} (hh:A.handled=none) (he:IsEnum s.heap e it i old) (hit:s.heap.IsTupleIter it t j) (ht:s.heap.IsTuple t items) (hx:items[j]?=none)
    (q:∀ h',Heap.ExtBut it s.heap h'→Q none { s with heap:=h' }):wpAny (model prog w) A (pyNext (.ref e)) Q E s:=by
  have hT:s.TypeIs (.ref e) "enumerate" := ⟨_,he,rfl⟩
  unfold pyNext
  refine wpAny_bind (wpAny_attempt (wpAny_callSpecial?_slot (name:=Str.ofString "__next__") hT F.slot_enumerate_next (wpAny_call_entry F.slot_enumerate_next hT F.entry_enumerate_next ?_ (F.args_enumerate_next_1 _))))
  show wpAny _ _ (field (.ref e) 2 >>= _) _ _ _; refine wpAny_bind (wpAny_field he rfl (x:=.ref it) rfl ?_)
  refine wpAny_bind (tn_end hh hit ht hx fun h' x he' hx'=>?_)
  obtain ⟨o,ho,hc⟩:=hx'
  refine wpAny_bind (wpAny_isInstance (T := "StopIteration") (b:=true) ⟨o,ho,hc⟩ isSubtype_stop ?_); exact wpAny_pure (q h' he')
end
theorem draws_tup {prog:Program} {w:World} {A:Around} (hh:A.handled=none) (it l:Addr) (hne:l ≠ it) (items:Array Value):Draws prog w A it [it,l] items.size (fun i v=>items[i]?=some v) (fun i h=>h.IsTupleIter it l i∧h.IsTuple l items) where
  live:=fun _ _ st=>let ⟨o,ho,_⟩:=st.1; ⟨o,ho⟩
  frame:=fun _ _ _ st k=>⟨st.1.at fun o e=>k it (by simp) o e,st.2.at fun o e=>k l (by simp) o e⟩
  item:=fun i s Q E hi st q=>by
    refine tn_item st.1 st.2 (x:=items[i]) (by simp [hi]) fun h' a b=>?_
    exact q _ h' s.toks (by simp [hi]) ⟨a,st.2.extBut b.extBut hne⟩ b
  done:=fun s Q E st q=>tn_end hh st.1 st.2 (by simp) q
open AutoSeq1 (wpAny_loadPart') in
set_option maxHeartbeats 1000000 in
theorem meets_enumT (l:Addr) (items:Array Value) (n:Nat) (dct:Option Addr) (sl:Array (Option Value)) :
    Meets (Builtin.«enumerate.__new__» ⟨[.type "enumerate", .ref l],[]⟩) (fun _ R s=>s.heap.get? l=some { cls:=.type "tuple", dict:=dct,data:=.seq items n,slots:=sl } ∧
      R (.ok (.ret (.ref (s.heap.push { cls:=.type "tuple_iterator", data:=.fields #[.ref l,.int 0 0] }).objs.size)))
        { s with heap:=(s.heap.push { cls:=.type "tuple_iterator", data:=.fields #[.ref l,.int 0 0] }).push { cls:=.type "enumerate", data:=.fields #[.none,.bool false,.ref s.heap.objs.size,rawInt 0,.none,.none] } }) :=
  .of_wp fun prog w A R s h=>by
    obtain ⟨hp,g,d,tk,os⟩:=s; obtain ⟨hl,h⟩:=h
    have hsub:=sub_enumerate; have hL:Heap.IsTuple (Shared.heap ⟨hp,g,d,tk,os⟩) l items:=⟨_,hl,rfl,n,rfl⟩
    wp_walk using wpAny_loadPart' hl
    refine wpAny_stack_any fun st=>wpAny_pure ?_
    split
    · rename_i c _ _ _ _ _
      cases (c == Value.type "enumerate")
      · wp_walk using wpAny_loadPart' hl,wpAny_pyIter_tuple hL
        exact ⟨_,rfl,h⟩
      · wp_walk using wpAny_loadPart' hl,wpAny_pyIter_tuple hL
        exact ⟨_,rfl,h⟩
    · wp_walk using wpAny_loadPart' hl,wpAny_pyIter_tuple hL
      exact ⟨_,rfl,h⟩
section
variable {prog:Program} {w:World} {A:Around} {E:Value→Shared→Prop} {s:Shared}
theorem call_enumT {l:Addr} {items:Array Value} {Q:Value→Shared→Prop} (hL:s.heap.IsTuple l items)
    (q:∀ h',IsEnum h' (s.heap.objs.size+1) s.heap.objs.size 0 .none→h'.IsTupleIter s.heap.objs.size l 0→(∀ b o,s.heap.get? b=some o→h'.get? b=some o)→Q (.ref (s.heap.objs.size+1)) { s with heap:=h' }) :
    wpAny (model prog w) A (call (.type "enumerate") [.ref l]) Q E s:=by
  obtain ⟨⟨c,dct,dt,sl⟩,hl,hc,n,hd⟩:=hL
  replace hc:c=.type "tuple" := hc
  replace hd:dt=.seq items n:=hd
  subst hc hd
  refine callType_new F.called_enumerate (by decide) (F.typeCall_enumerate_1 _) (F.newCall_enumerate_1 _) (fun obj=>F.args_object_init_2 obj _) F.entry_enumerate_new (meets_enumT l items n dct sl) ⟨hl,?_⟩
  have hz:(s.heap.push { cls:=.type "tuple_iterator", data:=.fields #[.ref l,.int 0 0] }).objs.size=s.heap.objs.size+1:=Heap.size_push ..
  show _∧_
  rw [hz]
  have he:IsEnum ((s.heap.push { cls:=.type "tuple_iterator", data:=.fields #[.ref l,.int 0 0] }).push { cls:=.type "enumerate", data:=.fields #[.none,.bool false,.ref s.heap.objs.size,rawInt 0,.none,.none] }) (s.heap.objs.size+1) s.heap.objs.size 0 .none:=by
    have:=Heap.get?_push_size (s.heap.push { cls:=.type "tuple_iterator", data:=.fields #[.ref l,.int 0 0] }) (o:={ cls:=.type "enumerate", data:=.fields #[.none,.bool false,.ref s.heap.objs.size,rawInt 0,.none,.none] }) rfl
    rw [hz] at this; exact this
  exact ⟨⟨_,he,rfl⟩,q _ he ⟨_,Heap.get?_push_of_some _ (Heap.get?_push_size _ rfl),rfl,rfl⟩ fun b o x=>Heap.get?_push_of_some _ (Heap.get?_push_of_some _ x)⟩
end
def IteT (K:PySem.W.Frag) (a:Addr):It :=
  ⟨fun i H=>∃ xs x,SqT K H a xs∧xs[i]?=some x,fun i H y H'=>∃ t,y=.ref t∧H t=none∧∀ xs x,SqT K H a xs→xs[i]?=some x→H'=upd H t (.tup [.int i,x]),fun i H=>∃ xs,SqT K H a xs∧xs.length≤i⟩
theorem turn_enumT {P:Program} {w:World} {K:PySem.W.Frag} {elts:List Expr} {k:Nat} {pos:Pos} (a e it:Addr) (hei:e ≠ it) (hai:a ≠ it) (hae:a ≠ e) :
    Turn P w K (.Tuple elts k pos) (IteT K a) [e,it] e (fun i h=>(∃ old,IsEnum h e it i old)∧h.IsTupleIter it a i) where
  mem:=by simp
  obj:=fun i h st b hb=>by
    obtain ⟨⟨old,he⟩,o,e2,c,d⟩:=st
    rcases List.mem_cons.mp hb with z | z
    · subst z
      exact ⟨_,he,fun v z=>nomatch z⟩
    · have z':=List.mem_singleton.mp z
      subst z'
      exact ⟨o,e2,fun v z=>by rw [d] at z; cases z⟩
  keep:=fun i h h' st k=>by
    obtain ⟨⟨old,he⟩,hit⟩:=st
    exact ⟨⟨old,k e (by simp) _ he⟩,hit.at fun o x=>k it (by simp) o x⟩
  item:=by
    intro X hP hw hK hc i pins s σ H E I hf st hg
    subst hP hw hK
    obtain ⟨xs,x,hq,hx⟩:=hg
    obtain ⟨its,rv,p,hz⟩:=I.tuple hq
    obtain ⟨u,hu,ru⟩:=rv.get hx
    obtain ⟨⟨old,he⟩,hit⟩:=st
    have hi:i < its.toArray.size:=by
      rw [List.size_toArray]
      exact (List.getElem?_eq_some_iff.mp hu).1
    refine wpAny_pyNext_enum_itemD (draws_tup (prog:=X.prog) (w:=X.w) (A:=X.A.in1) (I.ok.hd hc) it a hai its.toArray) he ⟨hit,p⟩ hi hei (by simp [hei,Ne.symm hae]) fun y h1 tk hy ho hst1 hT hsz hk=>?_
    have ey:y=u:=by
      have h1:its.toArray[i]?=some u:=by simpa using hu
      rw [h1] at hy
      exact (Option.some.inj hy).symm
    subst ey
    refine ⟨_,rfl,wpAny_letOwnedTupleGo_enum ho fun h2 he2 hs2=>?_⟩
    have elt:e < s.heap.objs.size:=Heap.lt_size he
    have hT2:h2.get? s.heap.objs.size=some { cls:=.type "tuple", data:=.seq #[.int i tk,y] }:=(hs2.2 _ (Ne.symm (Nat.ne_of_lt elt))).trans hT
    have I2:Inv X pins σ (upd H s.heap.objs.size (.tup [.int i,x])) { s with heap:=h2,toks:=tk+1 }:=by
      refine I.turnedNew (ch:=[e,it]) (fun b ob hb eb=>?_) hf (Nat.le_refl _) ⟨by show 2≤sizeLine; decide,[.int i tk,y],.cons ⟨_,rfl⟩ (.cons ru .nil),⟨_,hT2,rfl,_,rfl⟩,_,hT2,rfl⟩
      have b1:b ≠ e:=fun z=>hb (by simp [z])
      have b2:b ≠ it:=fun z=>hb (by simp [z])
      exact (hs2.2 b b1).trans (hk b ob b1 b2 eb)
    refine ⟨.ref s.heap.objs.size,_,I2,rfl,⟨_,rfl,I.hok.fresh (Nat.le_refl _),fun ys z hy hyi=>?_⟩,⟨⟨y,by simpa using he2⟩,hst1.1.at fun o z=>(hs2.2 it (Ne.symm hei)).trans z⟩,fun b hb=>?_⟩
    · have e1:=I.tuple_inj hy hq
      subst e1
      rw [hx] at hyi
      cases hyi
      rfl
    · have z:=hf b hb
      have hlt:b < s.heap.objs.size:=by
        rcases List.mem_cons.mp hb with y | y
        · rw [y]; exact elt
        · rw [List.mem_singleton.mp y]
          obtain ⟨o,e2,_⟩:=hit
          exact Heap.lt_size e2
      rw [upd_ne (Nat.ne_of_lt hlt)]
      exact z.1
  done:=by
    intro X hP hw hK hc i pins s σ H E I hf st hg
    subst hP hw hK
    obtain ⟨xs,hq,hx⟩:=hg
    obtain ⟨its,rv,p,hz⟩:=I.tuple hq
    obtain ⟨⟨old,he⟩,hit⟩:=st
    have hl:=rv.length
    exact enumT_end (I.ok.hd hc) he hit p (Array.getElem?_eq_none (by simp; omega)) fun h' eb=>⟨rfl,I.turnedL (t':=s.toks) (ch:=[e,it]) (fun b o hb eo=>eb b o (fun z=>hb (by simp [z])) eo) hf⟩
  self:=fun _ _ _ _ _ st h=>by
    obtain ⟨⟨old,he⟩,_⟩:=st
    exact wpAny_pyIter_enum he h
section
variable {X:Cx} {elts:List Expr} {k:Nat} {tpos:Pos}
def iEnumT (K:PySem.W.Frag) (tl:TE):TI:=fun σ H R=>tl σ H fun x H1=>∃ a,x=.ref a∧(∃ xs,SqT K H1 a xs)∧R (IteT K a) H1
theorem pi_enumT {l:Expr} {tl:TE} {p pos:Pos} (hg:Gl X "enumerate") (hm:X.mg "enumerate" = none) (hl:PE X l tl) (hs:starEach [l] X.env=[(false,eval l X.env)]:=by rfl) :
    PI X (.Tuple elts k tpos) (.Call (.Name "enumerate" p) [l] [] pos) (iEnumT X.K tl):=by
  intro pins s σ H R I h
  refine Call_ (ld_blt I hg hm boot_enumerate (PyProof.Rows.callWith_type1 ?_ hs rfl))
  rw [hs]
  show wpAny _ _ (spliced ((false,eval l X.env)::backTo pos (starEach [] X.env))) _ _ s
  refine Calls.spliced_cons (thn (hl pins s σ H _ I h) fun u s1 ⟨x,H1,I1,r1,a,ex,⟨xs,hq⟩,q⟩=>?_)
  subst ex
  cases r1
  obtain ⟨its,rv,p,hz⟩:=I1.tuple hq
  have alt:=p.lt
  refine Calls.spliced_nil ?_
  refine call_enumT p fun h' he hit hk=>?_
  refine wpAny_pyIter_enum he ?_
  have I2:Inv X pins σ H1 { s1 with heap:=h' }:=I1.kept (t':=s1.toks) hk
  refine ⟨s1.heap.objs.size+1,[s1.heap.objs.size+1,s1.heap.objs.size],_,_,H1,rfl,I2,turn_enumT a _ _ (Nat.ne_of_gt (Nat.lt_succ_self _)) (Nat.ne_of_lt alt) (Nat.ne_of_lt (Nat.lt_succ_of_lt alt)),⟨⟨_,he⟩,hit⟩,fun b hb=>?_,q⟩
  rcases List.mem_cons.mp hb with z | z
  · rw [z]
    exact I1.fpOk (Nat.le_succ _) (I1.hok.fresh (Nat.le_succ _))
  · rw [List.mem_singleton.mp z]
    exact I1.fpOk (Nat.le_refl _) (I1.hok.fresh (Nat.le_refl _))
end
theorem for_enumT {K:PySem.W.Frag} {a:Addr} {xs:List V} {g:TG} {tb:TS} {D:Ends} {σ:St} {H:Hp} (Pv:Nat→St→Hp→Prop) (h0:Pv 0 σ H) (hl:∀ i σ H,i≤xs.length→Pv i σ H→SqT K H a xs)
    (hs:∀ i x σ H t,xs[i]?=some x→Pv i σ H→H t=none→g (.ref t) σ (upd H t (.tup [.int i,x])) fun σ2 H2=>tb { D with nx:=Pv (i+1),ct:=Pv (i+1),bk:=D.nx } σ2 H2) (hd:∀ σ H,Pv xs.length σ H→D.nx σ H) :
    ∃ W:Nat→Nat→St→Hp→Prop,(∃ m,W 0 m σ H)∧∀ i m σ H,W i m σ H →
      ((IteT K a).stop i H∧D.nx σ H)∨((IteT K a).go i H∧∃ N:St→Hp→Prop,(∀ σ' H',N σ' H'→∃ m',m' < m∧W (i+1) m' σ' H')∧∀ x H',(IteT K a).yld i H x H'→g x σ H' fun σ2 H2=>tb { D with nx:=N,ct:=N,bk:=D.nx } σ2 H2):=by
  refine ⟨fun i m σ H=>m=xs.length - i∧i≤xs.length∧Pv i σ H,⟨xs.length,by simp,Nat.zero_le _,h0⟩,?_⟩
  rintro i m σ H ⟨rfl,hi,p⟩
  have q:=hl i σ H hi p
  by_cases hlt:i < xs.length
  · refine .inr ⟨⟨xs,xs[i],q,by simp [hlt]⟩,Pv (i+1),fun σ' H' p'=>⟨xs.length - (i+1),by omega,rfl,hlt,p'⟩,fun x H' y=>?_⟩
    obtain ⟨t,rfl,ht,e⟩:=y
    have e':=e xs xs[i] q (by simp [hlt])
    subst e'
    exact hs i xs[i] σ H t (by simp [hlt]) p ht
  · have e:i=xs.length:=by omega
    subst e
    exact .inl ⟨⟨xs,q,Nat.le_refl _⟩,hd σ H p⟩
end L2
namespace L2
open PySem PySem.Spec PyProof.Rows
def ItV (K:PySem.W.Frag) (a:Addr) (xs:List V):It:=⟨fun i H=>SqL K H a xs∧i < xs.length,fun i H y H'=>H'=H∧xs.reverse[i]?=some y,fun i _=>xs.length≤i⟩
theorem turn_revl {P:Program} {w:World} {K:PySem.W.Frag} {tg:Expr} (a it:Addr) (xs:List V):Turn P w K tg (ItV K a xs) [it] it (fun i h=>i≤xs.length∧h.IsRevIter it a ((xs.length:Int) - 1 - (i:Int))) where
  mem:=by simp
  obj:=fun i h st b hb=>by
    have e:b=it:=by simpa using hb
    subst e
    obtain ⟨_,o,e,c,d⟩:=st
    exact ⟨o,e,fun v z=>by rw [d] at z; cases z⟩
  keep:=fun i h h' st k=>⟨st.1,st.2.at fun o e=>k it (by simp) o e⟩
  item:=by
    intro X hP hw hK hc i pins s σ H E I hf st hg
    subst hP hw hK
    obtain ⟨hq,hi⟩:=hg
    obtain ⟨its,rv,p,hz⟩:=I.list hq
    have hj:xs.length - 1 - i < xs.length:=by omega
    have hx:xs[xs.length - 1 - i]?=some xs[xs.length - 1 - i]:=List.getElem?_eq_getElem hj
    obtain ⟨u,hu,ru⟩:=rv.get hx
    obtain ⟨f0,f1,f2,f3,f4,f5⟩:=hf it (by simp)
    obtain ⟨_,hit⟩:=st
    have e1:((xs.length:Int) - 1 - (i:Int))=((xs.length - 1 - i:Nat):Int):=by omega
    rw [e1] at hit
    refine wpAny_pyNext_rev_item hit p.isList (x:=u) (by simpa using hu) fun h' st' sb=>?_
    have I1:Inv X pins σ H { s with heap:=h' }:=I.turned (t':=s.toks) (fun b o hb e=>(sb.2 b hb).trans e) f0 f1 f3 f4 f5
    have e2:((xs.length - 1 - i:Nat):Int) - 1=(xs.length:Int) - 1 - ((i+1:Nat):Int):=by omega
    rw [e2] at st'
    obtain ⟨o,e,c,d⟩:=id st'
    refine ⟨u,rfl,go_of (s:={ s with heap:=h' }) e c d (by decide) ⟨xs[xs.length - 1 - i],H,I1,ru,⟨rfl,?_⟩,⟨by omega,st'⟩,fun b hb=>(hf b hb).1⟩⟩
    rw [List.getElem?_reverse hi,hx]
  done:=by
    intro X hP hw hK hc i pins s σ H E I hf st hg
    subst hP hw hK
    have hg:xs.length≤i:=hg
    obtain ⟨f0,f1,f2,f3,f4,f5⟩:=hf it (by simp)
    obtain ⟨hi,hit⟩:=st
    have e1:(xs.length:Int) - 1 - (i:Int)=-1:=by omega
    rw [e1] at hit
    exact wpAny_pyNext_rev_end (I.ok.hd hc) hit fun h' eb=>⟨rfl,I.turned (t':=s.toks) (fun b o hb e=>eb b o hb e) f0 f1 f3 f4 f5⟩
  self:=fun _ _ _ _ _ st h=>wpAny_pyIter_revIter st.2 h
section
variable {X:Cx} {tg:Expr}
def iRevL (K:PySem.W.Frag) (tl:TE):TI:=fun σ H R=>tl σ H fun x H1=>∃ a xs,x=.ref a∧SqL K H1 a xs∧R (ItV K a xs) H1
theorem pi_revl {l:Expr} {tl:TE} {p pos:Pos} (hg:Gl X "reversed") (hm:X.mg "reversed" = none) (hl:PE X l tl) (hs:starEach [l] X.env=[(false,eval l X.env)]:=by rfl) :
    PI X tg (.Call (.Name "reversed" p) [l] [] pos) (iRevL X.K tl):=by
  intro pins s σ H R I h
  refine wpAny_Call_Name_kw (ld_blt I hg hm boot_reversed' ?_)
  refine PyProof.Rows.callWith_type1 ?_ hs rfl
  rw [hs]
  show wpAny _ _ (spliced ((false,eval l X.env)::backTo pos (starEach [] X.env))) _ _ s
  refine Calls.spliced_cons (thn (hl pins s σ H _ I h) fun u s1 ⟨x,H1,I1,r1,a,xs,ex,hq,q⟩=>?_)
  subst ex
  cases r1
  obtain ⟨its,rv,p,hz⟩:=I1.list hq
  have hlen:=rv.length
  refine Calls.spliced_nil ?_
  refine call_reversed_list p.isList ?_
  have hr:(s1.heap.push (revObj a ((its.toArray.size:Int) - 1))).IsRevIter s1.heap.objs.size a ((xs.length:Int) - 1 - ((0:Nat):Int)):=by
    have e:(xs.length:Int) - 1 - ((0:Nat):Int)=(its.toArray.size:Int) - 1:=by rw [List.size_toArray]; omega
    rw [e]
    exact ⟨_,Heap.get?_push_size _ rfl,rfl,rfl⟩
  refine wpAny_pyIter_revIter hr ?_
  refine ⟨s1.heap.objs.size,[s1.heap.objs.size],_,_,H1,rfl,I1.kept (t':=s1.toks) fun b o e=>Heap.get?_push_of_some _ e,turn_revl a _ xs,⟨Nat.zero_le _,hr⟩,fun b hb=>?_,q⟩
  have e:b=s1.heap.objs.size:=by simpa using hb
  subst e
  exact I1.fpOk (Nat.le_refl _) (I1.hok.fresh (Nat.le_refl _))
end
theorem for_revl {K:PySem.W.Frag} {a:Addr} {xs:List V} {g:TG} {tb:TS} {D:Ends} {σ:St} {H:Hp} (Pv:Nat→St→Hp→Prop) (h0:Pv 0 σ H) (hl:∀ i σ H,i≤xs.length→Pv i σ H→SqL K H a xs)
    (hs:∀ i x σ H,i < xs.length→xs.reverse[i]?=some x→Pv i σ H→g x σ H fun σ2 H2=>tb { D with nx:=Pv (i+1),ct:=Pv (i+1),bk:=D.nx } σ2 H2) (hd:∀ σ H,Pv xs.length σ H→D.nx σ H) :
    ∃ W:Nat→Nat→St→Hp→Prop,(∃ m,W 0 m σ H)∧∀ i m σ H,W i m σ H →
      ((ItV K a xs).stop i H∧D.nx σ H)∨((ItV K a xs).go i H∧∃ N:St→Hp→Prop,(∀ σ' H',N σ' H'→∃ m',m' < m∧W (i+1) m' σ' H')∧∀ x H',(ItV K a xs).yld i H x H'→g x σ H' fun σ2 H2=>tb { D with nx:=N,ct:=N,bk:=D.nx } σ2 H2):=by
  refine ⟨fun i m σ H=>m=xs.length - i∧i≤xs.length∧Pv i σ H,⟨xs.length,by simp,Nat.zero_le _,h0⟩,?_⟩
  rintro i m σ H ⟨rfl,hi,p⟩
  have q:=hl i σ H hi p
  by_cases hlt:i < xs.length
  · refine .inr ⟨⟨q,hlt⟩,Pv (i+1),fun σ' H' p'=>⟨xs.length - (i+1),by omega,rfl,hlt,p'⟩,fun x H' y=>?_⟩
    obtain ⟨e,ex⟩:=y
    subst e
    exact hs i x σ _ hlt ex p
  · have e:i=xs.length:=by omega
    subst e
    exact .inl ⟨Nat.le_refl _,hd σ H p⟩
end L2
namespace L2
open PySem PySem.Spec PyProof.Rows
theorem mt_countK {X:Cx} (K:PySem.W.Frag) (h:X.K=K:=by rfl):MtR X "list.count" (rCountL K):=by subst h; exact mt_count
section
variable {X:Cx} {o e:Expr} {es:List Expr} {to ta:TE} {t:TA} {T id:String} {name f:Str} {r:V→List V→Hp→VK→Prop} {apos cpos pos:Pos}
theorem pe_bmK (K:PySem.W.Frag) (pa:PlainAttrs T) (slot:Slot T name id) (hty:typeOf (.builtin id)=pure (.type "method_descriptor")) (hm:MtR X id r) (ho:PE X o to) (ha:PA X (e::es) t) (hK:X.K=K:=by rfl)
    (hbase:attributeBase o name X.env (eval o X.env)=eval o X.env:=by rfl)
    (hfew:((backTo cpos (starEach (e::es) X.env)).all (fun x=>!x.1) && (backToKw cpos (keywordEach [] X.env)).all (fun x=>x.1.isSome) && decide ((e::es).length+([]:List Keyword).length+(if ([]:List Keyword).isEmpty then 0 else 1) < 30))=true:=by rfl)
    (hline:(apos.endLine == cpos.line)=true:=by rfl) (hs:starEach (e::es) X.env=(false,eval e X.env)::starEach es X.env:=by rfl) (hplain:(backTo cpos (starEach es X.env)).any (·.1)=false:=by rfl) :
    PE X (.Call (.Attribute o name apos) (e::es) [] cpos) (tBM K T r to t):=by subst hK; exact pe_bm pa slot hty hm ho ha hbase hfew hline hs hplain
theorem pe_fldK (K:PySem.W.Frag) (he:PE X e ta) (hK:X.K=K:=by rfl) (hb:attributeBase e f X.env (eval e X.env)=eval e X.env:=by rfl):PE X (.Attribute e f pos) (tFld K ta f):=by subst hK; exact pe_fld he hb
end
end L2
namespace L2
open PySem PySem.Spec PyProof.Rows
@[reducible] def cxCompO (X:Cx) (x:Str) (N:List Str) (scope:Scope) (cl:List (Str × Addr)) (s:Shared) (H:Hp) (fp:List Addr):Cx where
  prog:=X.prog
  w:=X.w
  K:=X.K
  mg:=X.mg
  base:=X.base
  A:=X.A
  N:=x::N
  s₀:=s
  H₀:=H
  env:=compEnvC scope ((x,s.heap.objs.size+1)::cl) s.heap.objs.size X.env
  outer:=X.stack
  stack:=X.stack
  ex:=fp
  fn:=fun y=>y == x
  calm:=X.calm
  pn:=[]
  xe:=fun _ _=>False
structure CompScopeO (X:Cx) (x:Str) (N:List Str) (ix:List Nat) (scope:Scope) (cl:List (Str × Addr)):Prop where
  clos:closureFor scope X.env=pure cl
  lay:∀ (n:Addr) (h:Heap),cellsFrom n scope.names cl=(x,n)::cl∧pushCells h scope.names=h.push { cls:=.type "cell", data:=.cell none }
  kind:scope.kind=.function
  names:∀ y ∈ scope.names,y.2=.local→scope.names.lookup y.1=some .local
  own:(relabel scope X.env).names.lookup x=some .cell
  nd:(x::N).Nodup
  sub:∀ p ∈ cl,X.env.cells.lookup p.1=some p.2
  has:((relabel scope X.env).names.all fun p=>!(p.2 == .cell || p.2 == .free) || (p.1 == x || (cl.lookup p.1).isSome))=true
  outs:∀ (j:Nat) (y:Str),N[j]?=some y→(relabel scope X.env).names.lookup y=some .cell∧∃ k c,ix[j]?=some k∧X.N[k]?=some y∧cl.lookup y=some c∧X.env.scope.names.lookup y=some .cell
section
variable {X:Cx} {pins:List (Addr × Obj)} {σ:St} {x:Str} {N:List Str} {ix:List Nat} {scope:Scope} {cl:List (Str × Addr)} {fp:List Addr} {H3:Hp} {s3:Shared}
end
section
variable {M:Model} {A:Around} {E:Value→Shared→Prop} {s:Shared}
end
section
variable {X:Cx} {x:Str} {N:List Str} {ix:List Nat} {scope:Scope} {cl:List (Str × Addr)} {elt iter:Expr} {ifs:List Expr} {px pos:Pos} {wi:TI} {tb:TBl}
end
end L2
namespace L2
open PySem PySem.Spec PyProof.Rows
end L2
namespace L2
open PySem PySem.Spec PyProof.Rows
def ItrS (lo c:Int) (n:Nat):It:=⟨fun i _=>i < n,fun i H x H'=>H'=H∧x=.int (lo+i*c),fun i _=>n≤i⟩
section
variable {X:Cx} {tg:Expr}
def iRng3 (ta:TA):TI:=fun σ H R=>ta σ H fun vs H1=>∃ i j c:Int,vs=[.int i,.int j,.int c]∧0 < c∧c < 1000000∧Builtin.Range.small i j c=true∧R (ItrS i c (Builtin.Range.rangeSize i j c).toNat) H1
end
end L2
namespace L2
open PySem PySem.Spec PyProof.Rows
section
variable {X:Cx}
def tListRng1 (ta:TA):TE:=fun σ H Q=>ta σ H fun vs H1=>∃ j:Int,vs=[.int j]∧0≤j∧j≤1000∧∀ p,H1 p=none→Q (.ref p) (upd H1 p (.lst ((rngV 0 j.toNat).map V.int)))
def rSorted (K:PySem.W.Frag):List V→Hp→VK→Prop:=fun xs H Q=>∃ a ns,xs=[.ref a]∧SqL K H a (ns.map V.int)∧ns.length < 64∧∀ p ms,H p=none→List.Perm ms ns→ms.Pairwise (·≤·)→Q (.ref p) (upd H p (.lst (ms.map V.int)))
end
end L2
namespace L2
open PySem PySem.Spec PyProof.Rows PySem.Builtin PySem.Builtin.Str
section
variable {prog:Program} {w:World} {A:Around} {E:Value→Shared→Prop} {s:Shared} {Q:Value→Shared→Prop} {x:PySem.Str} {t:Tok}
theorem split_push {y:PySem.Str} {u:Tok} (hy:(y.length == 0)=false)
    (h:∀ l k,l.map (·.1)=Txt.split x y→Q (.ref s.heap.objs.size) { s with heap:=s.heap.push { cls:=.type "list", data:=.seq (strValues l).toArray },toks:=k })
    (hsz:x.length+2≤sizeLine):wpAny (model prog w) A (call (.builtin "str.split") [.str x t,.str y u]) Q E s:=by
  have hn:(partsBetween x (occurrences x y 0 x.length (x.length+1)) y.length).length≤sizeLine:=by
    have e1:=StrLaws.occ_length_le x y 0 x.length (x.length+1)
    rw [length_partsBetween]; omega
  cases h1:(decide (x.length < y.length) || decide (strKind x < strKind y))
  · cases hf:(occurrences x y 0 x.length (x.length+1)).isEmpty
    · refine call_meets F.slot_str_split (typeIs_str _ _ _) F.entry_str_split (F.args_str_split_2 _ _) (meets_str_split_sep x y t u h1 hy hf (by omega) hn) ?_
      show wants Q E _ { s with toks:=_,heap:=s.heap.push { cls:=.type "list", data:=.seq (strsFrom s.toks (partsBetween x (occurrences x y 0 x.length (x.length+1)) y.length)).toArray } }
      rw [strsFrom_eq]
      exact h (numbered s.toks _) _ ((numbered_texts _ _).trans ((if_neg (ne_true_of_eq_false h1)).trans (if_neg (ne_true_of_eq_false hf))).symm)
    · exact call_meets F.slot_str_split (typeIs_str _ _ _) F.entry_str_split (F.args_str_split_2 _ _) (meets_str_split_not_found x y t u h1 hy hf)
        (h [(x,t)] s.toks ((if_neg (ne_true_of_eq_false h1)).trans (if_pos hf)).symm)
  · exact call_meets F.slot_str_split (typeIs_str _ _ _) F.entry_str_split (F.args_str_split_2 _ _) (meets_str_split_cannot_occur x y t u h1)
      (h [(x,t)] s.toks (if_pos h1).symm)
end
theorem strVals:∀ l:List (PySem.Str × Tok),Vals ((l.map (·.1)).map V.str) (strValues l)
  | []=>.nil
  | (x,t)::r=>.cons ⟨t,rfl⟩ (strVals r)
section
variable {X:Cx}
def rSplit:V→List V→Hp→VK→Prop:=fun x vs H Q=>∃ z u,x=.str z∧vs=[.str u]∧0 < u.length∧z.length≤100000∧(Txt.split z u).length≤100000∧∀ p,H p=none→Q (.ref p) (upd H p (.lst ((Txt.split z u).map V.str)))
theorem mt_split:MtR X "str.split" rSplit:=by
  intro pins s σ H x vs v us Q I rx rv h
  obtain ⟨z,u,rfl,rfl,hu,hz,hl,q⟩:=h
  obtain ⟨t,rfl⟩:=rx
  obtain ⟨w',rfl,t',rfl⟩:=rv.one
  have sl:sizeLine=16777216:=sizeLine_eq
  refine split_push (by rw [beq_eq_false_iff_ne]; omega) (fun l k e=>?_) (by omega)
  have r:=strVals l
  rw [e] at r
  exact ⟨.ref _,_,I.lnew (t':=k) r (by rw [List.length_map]; omega),rfl,q _ I.fresh⟩
theorem call_int_text:CallR X (.type "int") (fun xs H Q=>∃ x n,xs=[.str x]∧PySem.intText? x=some n∧x.length≤640∧Q (.int n) H):=by
  intro pins s σ H xs us Q I r h
  obtain ⟨x,n,rfl,e,hl,q⟩:=h
  obtain ⟨u,rfl,t,rfl⟩:=vals1 r
  exact PySem.W.KIN.call_text e hl ⟨.int n,H,I.tok _,⟨_,rfl⟩,q⟩
end
end L2
namespace L2
open PySem PySem.Spec PyProof.Rows
section
variable {X:Cx} {e:Expr} {te:TE} {p pos pos1:Pos}
def tIsiT (te:TE):TE:=fun σ H Q=>te σ H fun x H1=>∃ a xs,x=.ref a∧(H1 a=some (.lst xs)∨H1 a=some (.tup xs))∧Q (.bl true) H1
end
end L2
namespace HT
open PySem PyProof.Rows
section
variable {prog:Program} {w:World} {A:Around} {E:Value→Shared→Prop} {s:Shared}
theorem getItem_tuple_whole {t sl:Addr} {items:Array Value} {vl vu:Value} {lo hi:Option Int} {Q:Value→Shared→Prop} (ht:IsTup s.heap t items) (hs:s.heap.IsSliceOf sl vl vu .none) (pl:IsPart vl lo) (pu:IsPart vu hi)
    (hw:sIx items.size 0 lo=0∧sIx items.size items.size hi=items.size) (h:Q (.ref t) s):wpAny (model prog w) A (getItem (.ref t) (.ref sl)) Q E s:=by
  obtain ⟨os,hos,hcs,hds⟩:=id hs
  have hTs:s.TypeIs (.ref sl) "slice" := ⟨os,hos,hcs⟩
  unfold getItem
  try with_reducible refine wpAny_holding ?_
  first | refine wpAny_bind (wpAny_pure ?_) | skip
  refine wpAny_bind (wpAny_sequenceKey ht.typeIs (by decide) ?_)
  refine wpAny_bind (wpAny_callSpecial?_slot (name:=Str.ofString "__getitem__") ht.typeIs PyProof.Rows.slot_tuple_getitem
    (wpAny_call_entry PyProof.Rows.slot_tuple_getitem ht.typeIs entry_tuple_getitem ?_ (args_tuple_getitem _ _)))
  show wpAny _ _ (Builtin.Tuple.tupleItemsOf (.ref t) >>= _) _ _ s
  refine wpAny_bind (tupleItemsOf_ ht ?_)
  refine wpAny_bind (wpAny_typeOf hTs ?_)
  rw [if_pos (by decide)]
  refine wpAny_bind (sliceApplied_gen hs pl pu ?_)
  have hyes:(((sIx items.size 0 lo:Nat):Int) == 0 && (1:Int) == 1 && (sIx items.size items.size hi - sIx items.size 0 lo) == items.size)=true:=by
    rw [hw.1,hw.2,Nat.sub_zero]
    simp
  show wpAny _ _ (if (((sIx items.size 0 lo:Nat):Int) == 0 && (1:Int) == 1 && (sIx items.size items.size hi - sIx items.size 0 lo) == items.size)=true then _ else _) _ _ s
  rw [if_pos hyes]
  refine wpAny_bind ?_
  unfold Builtin.Tuple.tupleIsExact
  refine wpAny_bind (wpAny_typeOf ht.typeIs (wpAny_pure ?_))
  rw [if_pos (by decide)]
  first
    | exact wpAny_bind (wpAny_rule (wpAny_pure ⟨_,rfl,wpAny_pure h⟩))
    | (refine wpAny_pure ?_; exact ⟨_,rfl,wpAny_pure h⟩)
    | (refine wpAny_bind (wpAny_pure ?_); refine wpAny_pure ?_; exact ⟨_,rfl,wpAny_pure h⟩)
    | (refine wpAny_bind (wpAny_pure ?_); refine wpAny_bind (wpAny_pure ?_); refine wpAny_pure ?_; exact ⟨_,rfl,wpAny_pure h⟩)
    | (refine wpAny_bind (wpAny_bind (wpAny_pure ?_)); refine wpAny_pure ?_; exact ⟨_,rfl,wpAny_pure h⟩)
end
end HT
namespace L2
open PySem PySem.Spec PyProof.Rows
section
variable {X:Cx}
def rSlTW (K:PySem.W.Frag):V→Option Int→Option Int→Hp→VK→Prop:=fun x lo hi H Q=>∃ a xs,x=.ref a∧SqT K H a xs ∧
  (HT.sIx xs.length 0 lo=0∧HT.sIx xs.length xs.length hi=xs.length)∧Q (.ref a) H
theorem sl_tupW:SlR X (rSlTW X.K):=by
  intro pins s σ H x v vl vu lo hi sl Q I rx hs pl pu h
  obtain ⟨a,xs,rfl,hx,hw,q⟩:=h
  cases rx
  obtain ⟨its,r,ht,hz⟩:=I.tuple hx
  have hlen:its.toArray.size=xs.length:=by rw [List.size_toArray]; exact r.length.symm
  refine ⟨"tuple", _,PyProof.Rows.slot_tuple_getitem.lookup,ht.typeIs,?_⟩
  exact HT.getItem_tuple_whole ht hs pl pu (by rw [hlen]; exact hw) ⟨.ref a,H,I,rfl,q⟩
theorem cutV_whole {xs:List V} {lo hi:Option Int} (hw:HT.sIx xs.length 0 lo=0∧HT.sIx xs.length xs.length hi=xs.length):cutV xs lo hi=xs:=by
  unfold cutV
  rw [hw.1,hw.2,List.drop_zero,Nat.sub_zero,List.take_length]
def rSlTA (K:PySem.W.Frag):V→Option Int→Option Int→Hp→VK→Prop:=fun x lo hi H Q=>∃ a xs,x=.ref a∧SqT K H a xs∧H a=some (.tup xs)∧∀ p H',Same H H'→H' p=some (.tup (cutV xs lo hi))→Q (.ref p) H'
theorem sl_tupA:SlR X (rSlTA X.K):=by
  intro pins s σ H x v vl vu lo hi sl Q I rx hs pl pu h
  obtain ⟨a,xs,rfl,hx,ha,q⟩:=h
  by_cases hw:HT.sIx xs.length 0 lo=0∧HT.sIx xs.length xs.length hi=xs.length
  · exact sl_tupW pins s σ H _ v vl vu lo hi sl Q I rx hs pl pu ⟨a,xs,rfl,hx,hw,q a H (Same.refl _) (by rw [cutV_whole hw]; exact ha)⟩
  · exact sl_tup pins s σ H _ v vl vu lo hi sl Q I rx hs pl pu ⟨a,xs,rfl,hx,hw,fun p hp=>q p _ (Same.new hp _) upd_same⟩
end
end L2
namespace L2
open PySem PySem.Spec PyProof.Rows
def SqIt (h:Heap) (i l:Addr) (k:Nat) (xs:Array Value):Prop:=(h.IsListIter i l k∧h.IsList l xs)∨(h.IsTupleIter i l k∧h.IsTuple l xs)
theorem SqIt.at {h h':Heap} {i l:Addr} {k:Nat} {xs:Array Value} (q:SqIt h i l k xs) (e1:∀ o,h.get? i=some o→h'.get? i=some o) (e2:∀ o,h.get? l=some o→h'.get? l=some o):SqIt h' i l k xs:=by
  rcases q with ⟨a,b⟩ | ⟨a,b⟩
  · exact .inl ⟨a.at e1,b.at e2⟩
  · exact .inr ⟨a.at e1,b.at e2⟩
theorem SqIt.ext {h h':Heap} {i l c:Addr} {k:Nat} {xs:Array Value} (q:SqIt h i l k xs) (e:Heap.ExtBut c h h') (n1:i ≠ c) (n2:l ≠ c):SqIt h' i l k xs:=q.at (fun o z=>e _ o n1 z) (fun o z=>e _ o n2 z)
section
variable {prog:Program} {w:World} {A:Around} {E:Value→Shared→Prop} {s:Shared}
theorem sq_item {i l:Addr} {k:Nat} {xs:Array Value} {x:Value} {Q:Value→Shared→Prop} (q:SqIt s.heap i l k xs) (n:l ≠ i) (hx:xs[k]?=some x)
    (hQ:∀ h',SqIt h' i l (k+1) xs→Heap.SameBut i s.heap h'→Q x { s with heap:=h' }):wpAny (model prog w) A (Builtin.SmallTypes.nextOf (.ref i)) Q E s:=by
  rcases q with ⟨a,b⟩ | ⟨a,b⟩
  · exact wpAny_nextOf_list_item a b hx fun h' a' e=>hQ h' (.inl ⟨a',b.extBut e.extBut n⟩) e
  · exact tn_item a b hx fun h' a' e=>hQ h' (.inr ⟨a',b.extBut e.extBut n⟩) e
theorem sq_end {i l:Addr} {k:Nat} {xs:Array Value} {Q:Value→Shared→Prop} (hh:A.handled=none) (q:SqIt s.heap i l k xs) (hx:xs[k]?=none)
    (hE:∀ h' e,Heap.ExtBut i s.heap h'→(∃ o,h'.get? e=some o∧o.cls=.type "StopIteration")→E (.ref e) { s with heap:=h' }):wpAny (model prog w) A (Builtin.SmallTypes.nextOf (.ref i)) Q E s:=by
  rcases q with ⟨a,b⟩ | ⟨a,b⟩
  · exact wpAny_nextOf_list_end hh a b hx hE
  · exact tn_end hh a b hx hE
theorem zq_item {z TI TO i1 i2 l1 l2:Addr} {k1 k2:Nat} {xs ys:Array Value} {x y a b:Value} {Q:Option Value→Shared→Prop} (D:ZipApart z TI TO i1 i2 l1 l2)
    (hz:IsZip s.heap z TI TO .none) (hTI:IsPair s.heap TI (.ref i1) (.ref i2)) (hTO:IsPair s.heap TO a b) (h1:SqIt s.heap i1 l1 k1 xs) (h2:SqIt s.heap i2 l2 k2 ys) (hx:xs[k1]?=some x) (hy:ys[k2]?=some y)
    (hQ:∀ h',IsZip h' z TI TO (rawInt s.heap.objs.size)→IsPair h' TO x y→SqIt h' i1 l1 (k1+1) xs→SqIt h' i2 l2 (k2+1) ys→IsPair h' s.heap.objs.size x y →
      (∀ c o,c ≠ z→c ≠ TO→c ≠ i1→c ≠ i2→s.heap.get? c=some o→h'.get? c=some o)→Q (some (.ref s.heap.objs.size)) { s with heap:=h' }) :
    wpAny (model prog w) A (pyNext (.ref z)) Q E s:=by
  have hT:s.TypeIs (.ref z) "zip" := ⟨_,hz,rfl⟩
  unfold pyNext
  refine wpAny_bind (wpAny_attempt (wpAny_callSpecial?_slot (name:=Str.ofString "__next__") hT F.slot_zip_next (wpAny_call_entry F.slot_zip_next hT F.entry_zip_next ?_ (F.args_zip_next_1 _))))
  show wpAny _ _ (field (.ref z) 2 >>= _) _ _ _
  refine wpAny_bind (wpAny_field hz rfl (x:=.bool false) rfl ?_)
  show wpAny _ _ (field (.ref z) 3 >>= _) _ _ _
  refine wpAny_bind (wpAny_field hz rfl (x:=.ref TI) rfl (wpAny_bind (wpAny_seqItems hTI rfl ?_)))
  show wpAny _ _ (Builtin.SmallTypes.ownedTupleIsFree (.ref z) >>= _) _ _ _
  refine wpAny_bind ?_
  unfold Builtin.SmallTypes.ownedTupleIsFree
  refine wpAny_bind (wpAny_field hz rfl (x:=.none) rfl (wpAny_pure ?_))
  simp only [if_true]
  refine wpAny_bind (wpAny_rule (wpAny_bind (wpAny_field hz rfl (x:=.ref TO) rfl (wpAny_bind (wpAny_setField_rec hz (by simp) fun ha za sa=>wpAny_bind ?_)))))
  replace za:IsZip ha z TI TO .ellipsis:=za
  simp only [List.zipIdx_cons,List.zipIdx_nil,List.forIn_cons,List.forIn_nil]
  refine wpAny_bind (wpAny_bind (wpAny_onRaise ?_))
  show wpAny _ _ (Builtin.SmallTypes.nextOf (.ref i1) >>= _) _ _ _
  refine wpAny_bind (sq_item (h1.ext sa.extBut D.i1z D.l1z) D.l1i1 hx fun hb q1 sb=>wpAny_pure ?_)
  have TOb:IsPair hb TO a b:=sb.extBut _ _ D.TOi1 (sa.extBut _ _ D.TOz hTO)
  refine wpAny_bind (wpAny_seqItems TOb rfl (wpAny_bind (wpAny_updateSeq_pair TOb fun hc TOc sc=>?_)))
  replace TOc:IsPair hc TO x b:=TOc
  refine wpAny_bind (wpAny_letGo (wpAny_pure (wpAny_bind (wpAny_bind (wpAny_onRaise ?_)))))
  show wpAny _ _ (Builtin.SmallTypes.nextOf (.ref i2) >>= _) _ _ _
  refine wpAny_bind (sq_item (((h2.ext sa.extBut D.i2z D.l2z).ext sb.extBut D.i12.symm D.l2i1).ext sc.extBut D.TOi2.symm D.l2TO) D.l2i2 hy fun hd q2 sd=>wpAny_pure ?_)
  have TOd:IsPair hd TO x b:=sd.extBut _ _ D.TOi2 TOc
  refine wpAny_bind (wpAny_seqItems TOd rfl (wpAny_bind (wpAny_updateSeq_pair TOd fun he TOe se=>?_)))
  replace TOe:IsPair he TO x y:=TOe
  refine wpAny_bind (wpAny_letGo (wpAny_pure (wpAny_pure (wpAny_bind (wpAny_seqItems TOe rfl (wpAny_bind (wpAny_newTuple ?_)))))))
  have sz:he.objs.size=s.heap.objs.size:=by rw [se.1,sd.1,sc.1,sb.1,sa.1]
  have ze:IsZip he z TI TO .ellipsis:=se.extBut _ _ D.TOz.symm (sd.extBut _ _ D.i2z.symm (sc.extBut _ _ D.TOz.symm (sb.extBut _ _ D.i1z.symm za)))
  have ke:∀ c o,c ≠ z→c ≠ TO→c ≠ i1→c ≠ i2→s.heap.get? c=some o→he.get? c=some o:=fun c o c1 c2 c3 c4 e=>se.extBut _ _ c2 (sd.extBut _ _ c4 (sc.extBut _ _ c2 (sb.extBut _ _ c3 (sa.extBut _ _ c1 e))))
  have q1e:=((q1.ext sc.extBut D.TOi1.symm D.l1TO).ext sd.extBut D.i12 D.l1i2).ext se.extBut D.TOi1.symm D.l1TO
  have q2e:=q2.ext se.extBut D.TOi2.symm D.l2TO
  have zlt:z < he.objs.size:=Heap.lt_size ze
  show wpAny _ _ (Builtin.SmallTypes.ownedTupleHandOut (.ref z) (.ref he.objs.size) >>= _) _ _ _
  refine wpAny_bind ?_
  unfold Builtin.SmallTypes.ownedTupleHandOut
  have zf:IsZip (he.push { cls:=.type "tuple", data:=.seq #[x,y] }) z TI TO .ellipsis:=Heap.get?_push_of_some _ ze
  refine wpAny_bind (wpAny_setField_rec zf (by simp) fun hg zg sg=>?_)
  replace zg:IsZip hg z TI TO (rawInt he.objs.size):=zg
  refine wpAny_setField_rec zg (by simp) fun hi zi si=>?_
  replace zi:IsZip hi z TI TO (rawInt he.objs.size):=zi
  have up:∀ c o,c ≠ z→he.get? c=some o→hi.get? c=some o:=fun c o c1 e=>si.extBut _ _ c1 (sg.extBut _ _ c1 (Heap.get?_push_of_some _ e))
  have Ti:IsPair hi he.objs.size x y:=si.extBut _ _ (Nat.ne_of_gt zlt) (sg.extBut _ _ (Nat.ne_of_gt zlt) (Heap.get?_push_size _ rfl))
  rw [sz] at zi Ti
  refine wpAny_pure ⟨_,rfl,wpAny_pure ?_⟩
  show Q (some (.ref he.objs.size)) _
  rw [sz]
  exact hQ hi zi (up _ _ D.TOz TOe) (q1e.at (fun o e=>up _ o D.i1z e) (fun o e=>up _ o D.l1z e)) (q2e.at (fun o e=>up _ o D.i2z e) (fun o e=>up _ o D.l2z e)) Ti fun c o c1 c2 c3 c4 e=>up c o c1 (ke c o c1 c2 c3 c4 e)
theorem zq_end {z TI TO i1 i2 l1 l2:Addr} {k1 k2:Nat} {xs ys:Array Value} {a b:Value} {Q:Option Value→Shared→Prop} (hh:A.handled=none) (D:ZipApart z TI TO i1 i2 l1 l2)
    (hz:IsZip s.heap z TI TO .none) (hTI:IsPair s.heap TI (.ref i1) (.ref i2)) (hTO:IsPair s.heap TO a b) (h1:SqIt s.heap i1 l1 k1 xs) (h2:SqIt s.heap i2 l2 k2 ys) (hend:xs[k1]?=none∨ys[k2]?=none)
    (hQ:∀ h',(∀ c o,c ≠ z→c ≠ TO→c ≠ i1→c ≠ i2→s.heap.get? c=some o→h'.get? c=some o)→Q none { s with heap:=h' }):wpAny (model prog w) A (pyNext (.ref z)) Q E s:=by
  have hT:s.TypeIs (.ref z) "zip" := ⟨_,hz,rfl⟩
  unfold pyNext
  have hh1:A.in1.handled=none:=hh
  suffices hs:wpAny (model prog w) A.in1 (Builtin.«zip.__next__» ⟨[.ref z],[]⟩) (fun fin s'=>∃ v,fin=.done (.ret v)∧False)
      (fun v s'=>∃ h' e,v=.ref e∧s'={ s with heap:=h' }∧(∀ c o,c ≠ z→c ≠ TO→c ≠ i1→c ≠ i2→s.heap.get? c=some o→h'.get? c=some o)∧∃ o,h'.get? e=some o∧o.cls=.type "StopIteration") s by
    refine wpAny_bind (wpAny_attempt (wpAny_callSpecial?_slot (name:=Str.ofString "__next__") hT F.slot_zip_next (wpAny_call_entry F.slot_zip_next hT F.entry_zip_next (wpAny_mono hs (fun _ _ h=>by obtain ⟨_,_,f⟩:=h; exact f.elim) ?_) (F.args_zip_next_1 _))))
    rintro _ _ ⟨h',e,rfl,rfl,hk,o,ho,hc⟩
    exact wpAny_bind (wpAny_isInstance (T := "StopIteration") (b:=true) ⟨o,ho,hc⟩ isSubtype_stop (wpAny_pure (hQ _ hk)))
  show wpAny _ _ (field (.ref z) 2 >>= _) _ _ _
  refine wpAny_bind (wpAny_field hz rfl (x:=.bool false) rfl ?_)
  show wpAny _ _ (field (.ref z) 3 >>= _) _ _ _
  refine wpAny_bind (wpAny_field hz rfl (x:=.ref TI) rfl (wpAny_bind (wpAny_seqItems hTI rfl ?_)))
  show wpAny _ _ (Builtin.SmallTypes.ownedTupleIsFree (.ref z) >>= _) _ _ _
  refine wpAny_bind ?_
  unfold Builtin.SmallTypes.ownedTupleIsFree
  refine wpAny_bind (wpAny_field hz rfl (x:=.none) rfl (wpAny_pure ?_))
  simp only [if_true]
  refine wpAny_bind (wpAny_rule (wpAny_bind (wpAny_field hz rfl (x:=.ref TO) rfl (wpAny_bind (wpAny_setField_rec hz (by simp) fun ha za sa=>wpAny_bind ?_)))))
  replace za:IsZip ha z TI TO .ellipsis:=za
  simp only [List.zipIdx_cons,List.zipIdx_nil,List.forIn_cons,List.forIn_nil]
  refine wpAny_bind (wpAny_bind (wpAny_onRaise ?_))
  show wpAny _ _ (Builtin.SmallTypes.nextOf (.ref i1) >>= _) _ _ _
  cases hx:xs[k1]? with
  | none =>
    refine wpAny_bind (sq_end hh1 (h1.ext sa.extBut D.i1z D.l1z) hx fun hb e sb ⟨oe,hoe,hce⟩=>?_)
    have zb:IsZip hb z TI TO .ellipsis:=sb _ _ D.i1z.symm za
    have ez:e ≠ z:=fun x=>by subst x; rw [zb] at hoe; cases hoe; simp at hce
    exact wpAny_setField_rec zb (by simp) fun hc _ sc=>⟨hc,e,rfl,rfl,fun c o c1 _ c3 _ x=>sc.extBut _ _ c1 (sb _ _ c3 (sa.extBut _ _ c1 x)),oe,sc.extBut _ _ ez hoe,hce⟩
  | some x =>
    have hy:ys[k2]?=none:=by
      rcases hend with h | h
      · rw [hx] at h; cases h
      · exact h
    refine wpAny_bind (sq_item (h1.ext sa.extBut D.i1z D.l1z) D.l1i1 hx fun hb q1 sb=>wpAny_pure ?_)
    have TOb:IsPair hb TO a b:=sb.extBut _ _ D.TOi1 (sa.extBut _ _ D.TOz hTO)
    refine wpAny_bind (wpAny_seqItems TOb rfl (wpAny_bind (wpAny_updateSeq_pair TOb fun hc TOc sc=>?_)))
    refine wpAny_bind (wpAny_letGo (wpAny_pure (wpAny_bind (wpAny_bind (wpAny_onRaise ?_)))))
    show wpAny _ _ (Builtin.SmallTypes.nextOf (.ref i2) >>= _) _ _ _
    refine wpAny_bind (sq_end hh1 (((h2.ext sa.extBut D.i2z D.l2z).ext sb.extBut D.i12.symm D.l2i1).ext sc.extBut D.TOi2.symm D.l2TO) hy fun hd e sd ⟨oe,hoe,hce⟩=>?_)
    have zd:IsZip hd z TI TO .ellipsis:=sd _ _ D.i2z.symm (sc.extBut _ _ D.TOz.symm (sb.extBut _ _ D.i1z.symm za))
    have ez:e ≠ z:=fun x=>by subst x; rw [zd] at hoe; cases hoe; simp at hce
    exact wpAny_setField_rec zd (by simp) fun he _ se=>⟨he,e,rfl,rfl,fun c o c1 c2 c3 c4 x=>se.extBut _ _ c1 (sd _ _ c4 (sc.extBut _ _ c2 (sb.extBut _ _ c3 (sa.extBut _ _ c1 x)))),oe,se.extBut _ _ ez hoe,hce⟩
end
def itO (b:Bool) (l:Addr):Obj:={ cls:=.type (if b=true then "list_iterator" else "tuple_iterator"),data:=.fields #[.ref l,.int 0 0] }
def SqO (b:Bool) (h:Heap) (l:Addr) (xs:Array Value):Prop:=if b=true then h.IsList l xs else h.IsTuple l xs
abbrev zqH (h:Heap) (b1 b2:Bool) (l1 l2:Addr):Heap:=((((h.push (itO b1 l1)).push (itO b2 l2)).push { cls:=.type "tuple", data:=.seq #[.ref h.objs.size,.ref (h.push (itO b1 l1)).objs.size] }).push { cls:=.type "tuple", data:=.seq #[.none,.none] }).push
  { cls:=.type "zip", data:=.fields #[.none,.bool false,.bool false,.ref ((h.push (itO b1 l1)).push (itO b2 l2)).objs.size,.ref (((h.push (itO b1 l1)).push (itO b2 l2)).push { cls:=.type "tuple", data:=.seq #[.ref h.objs.size,.ref (h.push (itO b1 l1)).objs.size] }).objs.size] }
abbrev zqA (h:Heap) (b1 b2:Bool) (l1 l2:Addr):Addr:=((((h.push (itO b1 l1)).push (itO b2 l2)).push { cls:=.type "tuple", data:=.seq #[.ref h.objs.size,.ref (h.push (itO b1 l1)).objs.size] }).push { cls:=.type "tuple", data:=.seq #[.none,.none] }).objs.size
theorem sqO_push {b:Bool} {h:Heap} {l:Addr} {xs:Array Value} (q:SqO b h l xs) (o:Obj):SqO b (h.push o) l xs:=by
  cases b
  · exact Heap.IsTuple.at q fun o' e=>Heap.get?_push_of_some _ e
  · exact Heap.IsList.push q _
theorem sqO_iter {prog:Program} {w:World} {A:Around} {E:Value→Shared→Prop} {s:Shared} {b:Bool} {l:Addr} {xs:Array Value} {Q:Value→Shared→Prop} (q:SqO b s.heap l xs) (hQ:Q (.ref s.heap.objs.size) { s with heap:=s.heap.push (itO b l) }) :
    wpAny (model prog w) A (pyIter (.ref l)) Q E s:=by
  cases b
  · exact wpAny_pyIter_tuple (t:=l) (items:=xs) q hQ
  · exact wpAny_pyIter_list (l:=l) (items:=xs) q hQ
set_option maxHeartbeats 1000000 in
theorem meets_zq (b1 b2:Bool) (l1 l2:Addr) (xs ys:Array Value) :
    Meets (Builtin.«zip.__new__» ⟨[.type "zip", .ref l1,.ref l2],[]⟩) (fun _ R s=>SqO b1 s.heap l1 xs∧SqO b2 s.heap l2 ys ∧
      R (.ok (.ret (.ref (zqA s.heap b1 b2 l1 l2)))) { s with heap:=zqH s.heap b1 b2 l1 l2 }) :=
  .of_wp fun prog w A R s h=>by
    obtain ⟨hp,g,d,tk,os⟩:=s
    obtain ⟨hl1,hl2,h⟩:=h
    have hsub:=sub_zip
    have hL1:SqO b1 (Shared.heap ⟨hp,g,d,tk,os⟩) l1 xs:=hl1
    have hL2:SqO b2 (Shared.heap ⟨hp.push (itO b1 l1),g,d,tk,os⟩) l2 ys:=sqO_push hl2 _
    wp_walk using sqO_iter hL1,sqO_iter hL2
    exact ⟨_,rfl,h⟩
end L2
namespace L2
open PySem PySem.Spec PyProof.Rows
section
variable {prog:Program} {w:World} {A:Around} {E:Value→Shared→Prop} {s:Shared}
theorem itO_sq {b:Bool} {h h':Heap} {n l:Addr} {xs:Array Value} (e:h'.get? n=some (itO b l)) (q:SqO b h l xs) (k:∀ o,h.get? l=some o→h'.get? l=some o):SqIt h' n l 0 xs:=by
  cases b
  · exact .inr ⟨⟨_,e,rfl,rfl⟩,Heap.IsTuple.at q k⟩
  · exact .inl ⟨⟨_,e,rfl,rfl⟩,Heap.IsList.at q k⟩
theorem call_zq {b1 b2:Bool} {l1 l2:Addr} {xs ys:Array Value} {Q:Value→Shared→Prop} (hl1:SqO b1 s.heap l1 xs) (hl2:SqO b2 s.heap l2 ys)
    (h:∀ h',IsZip h' (s.heap.objs.size+4) (s.heap.objs.size+2) (s.heap.objs.size+3) .none→IsPair h' (s.heap.objs.size+2) (.ref s.heap.objs.size) (.ref (s.heap.objs.size+1)) →
      IsPair h' (s.heap.objs.size+3) .none .none→SqIt h' s.heap.objs.size l1 0 xs→SqIt h' (s.heap.objs.size+1) l2 0 ys →
      (∀ c o,s.heap.get? c=some o→h'.get? c=some o)→Q (.ref (s.heap.objs.size+4)) { s with heap:=h' }) :
    wpAny (model prog w) A (call (.type "zip") [.ref l1,.ref l2]) Q E s:=by
  refine callType_new F.called_zip (by decide) (F.typeCall_zip_2 _ _) (F.newCall_zip_2 _ _) (fun obj=>F.args_object_init_3 obj _ _) F.entry_zip_new (meets_zq b1 b2 l1 l2 xs ys) ⟨hl1,hl2,?_⟩
  have z1:∀ (h:Heap) (o:Obj),(h.push o).objs.size=h.objs.size+1:=fun h o=>Heap.size_push ..
  have up:∀ (h:Heap) (o:Obj) (c:Addr) (u:Obj),h.get? c=some u→(h.push o).get? c=some u:=fun h o c u e=>Heap.get?_push_of_some _ e
  have top:∀ (h:Heap) (o:Obj) (n:Nat),o.isFreed=false→h.objs.size=n→(h.push o).get? n=some o:=fun h o n f e=>by rw [← e]; exact Heap.get?_push_size _ f
  have f1:∀ b l,(itO b l).isFreed=false:=fun _ _=>rfl
  show _∧_
  have g1:(zqH s.heap b1 b2 l1 l2).get? s.heap.objs.size=some (itO b1 l1):=up _ _ _ _ (up _ _ _ _ (up _ _ _ _ (up _ _ _ _ (top _ _ _ (f1 _ _) rfl))))
  have g2:(zqH s.heap b1 b2 l1 l2).get? (s.heap.objs.size+1)=some (itO b2 l2):=up _ _ _ _ (up _ _ _ _ (up _ _ _ _ (top _ _ _ (f1 _ _) (z1 _ _))))
  have g3:IsPair (zqH s.heap b1 b2 l1 l2) (s.heap.objs.size+2) (.ref s.heap.objs.size) (.ref (s.heap.objs.size+1)):=by
    have:=up _ { cls:=.type "zip", data:=.fields #[.none,.bool false,.bool false,.ref ((s.heap.push (itO b1 l1)).push (itO b2 l2)).objs.size,.ref (((s.heap.push (itO b1 l1)).push (itO b2 l2)).push { cls:=.type "tuple", data:=.seq #[.ref s.heap.objs.size,.ref (s.heap.push (itO b1 l1)).objs.size] }).objs.size] } _ _ (up _ { cls:=.type "tuple", data:=.seq #[.none,.none] } _ _ (top ((s.heap.push (itO b1 l1)).push (itO b2 l2)) { cls:=.type "tuple", data:=.seq #[.ref s.heap.objs.size,.ref (s.heap.push (itO b1 l1)).objs.size] } (s.heap.objs.size+2) rfl (by rw [z1,z1])))
    exact this.trans (by rw [z1])
  have g4:IsPair (zqH s.heap b1 b2 l1 l2) (s.heap.objs.size+3) .none .none:=up _ _ _ _ (top _ _ _ rfl (by rw [z1,z1,z1]))
  have g5:IsZip (zqH s.heap b1 b2 l1 l2) (s.heap.objs.size+4) (s.heap.objs.size+2) (s.heap.objs.size+3) .none:=by
    have:=top ((((s.heap.push (itO b1 l1)).push (itO b2 l2)).push { cls:=.type "tuple", data:=.seq #[.ref s.heap.objs.size,.ref (s.heap.push (itO b1 l1)).objs.size] }).push { cls:=.type "tuple", data:=.seq #[.none,.none] })
      { cls:=.type "zip", data:=.fields #[.none,.bool false,.bool false,.ref ((s.heap.push (itO b1 l1)).push (itO b2 l2)).objs.size,.ref (((s.heap.push (itO b1 l1)).push (itO b2 l2)).push { cls:=.type "tuple", data:=.seq #[.ref s.heap.objs.size,.ref (s.heap.push (itO b1 l1)).objs.size] }).objs.size] } (s.heap.objs.size+4) rfl (by rw [z1,z1,z1,z1])
    exact this.trans (by simp only [z1])
  have ea:zqA s.heap b1 b2 l1 l2=s.heap.objs.size+4:=by simp only [zqA,z1]
  have keep:∀ c o,s.heap.get? c=some o→(zqH s.heap b1 b2 l1 l2).get? c=some o:=fun c o e=>up _ _ _ _ (up _ _ _ _ (up _ _ _ _ (up _ _ _ _ (up _ _ _ _ e))))
  rw [ea]
  exact ⟨⟨_,g5,rfl⟩,h _ g5 g3 g4 (itO_sq g1 hl1 (keep _)) (itO_sq g2 hl2 (keep _)) keep⟩
end
def SqB (K:PySem.W.Frag) (b:Bool) (H:Hp) (a:Addr) (xs:List V):Prop:=if b=true then SqL K H a xs else SqT K H a xs
theorem SqB.at {X:Cx} {pins:List (Addr × Obj)} {σ:St} {H:Hp} {s:Shared} {b:Bool} {a:Addr} {xs:List V} (I:Inv X pins σ H s) (q:SqB X.K b H a xs):∃ its,Vals xs its∧SqO b s.heap a its.toArray∧a < s.heap.objs.size:=by
  cases b
  · obtain ⟨its,rv,p,_⟩:=I.tuple q
    exact ⟨its,rv,p,p.lt⟩
  · obtain ⟨its,rv,p,_⟩:=I.list q
    exact ⟨its,rv,p.isList,p.lt⟩
theorem SqB.inj {X:Cx} {pins:List (Addr × Obj)} {σ:St} {H:Hp} {s:Shared} {b:Bool} {a:Addr} {xs ys:List V} (I:Inv X pins σ H s) (q:SqB X.K b H a xs) (r:SqB X.K b H a ys):xs=ys:=by
  cases b
  · exact I.tuple_inj q r
  · exact I.list_inj q r
def Itz (K:PySem.W.Frag) (c d:Bool) (a b:Addr):It :=
  ⟨fun i H=>∃ xs ys x y,SqB K c H a xs∧SqB K d H b ys∧xs[i]?=some x∧ys[i]?=some y,fun i H v H'=>∃ t,v=.ref t∧H t=none∧∀ xs ys x y,SqB K c H a xs→SqB K d H b ys→xs[i]?=some x→ys[i]?=some y→H'=upd H t (.tup [x,y]),
    fun i H=>∃ xs ys,SqB K c H a xs∧SqB K d H b ys∧(xs.length≤i∨ys.length≤i)⟩
end L2
namespace L2
open PySem PySem.Spec PyProof.Rows
theorem zipAp {n l1 l2:Nat} (h1:l1 < n) (h2:l2 < n):ZipApart (n+4) (n+2) (n+3) n (n+1) l1 l2:=by
  constructor <;> exact fun y=>by
    have y':(_:Nat)=_:=y
    omega
theorem turn_zip {P:Program} {w:World} {K:PySem.W.Frag} {elts:List Expr} {k:Nat} {pos:Pos} (c d:Bool) (a b z TI TO i1 i2:Addr) (D:ZipApart z TI TO i1 i2 a b) :
    Turn P w K (.Tuple elts k pos) (Itz K c d a b) [z,TI,TO,i1,i2] z (fun i h=>IsZip h z TI TO .none∧IsPair h TI (.ref i1) (.ref i2)∧(∃ p q,IsPair h TO p q)∧(∃ o,h.get? i1=some o∧o.cls=.type (if c=true then "list_iterator" else "tuple_iterator")∧o.data=.fields #[.ref a,.int i 0]) ∧
      ∃ o,h.get? i2=some o∧o.cls=.type (if d=true then "list_iterator" else "tuple_iterator")∧o.data=.fields #[.ref b,.int i 0]) where
  mem:=by simp
  obj:=fun i h st x hx=>by
    obtain ⟨hz,hTI,⟨p,q,hTO⟩,⟨o1,e1,_,d1⟩,o2,e2,_,d2⟩:=st
    simp only [List.mem_cons,List.not_mem_nil,or_false] at hx
    rcases hx with rfl | rfl | rfl | rfl | rfl
    · exact ⟨_,hz,fun v y=>nomatch y⟩
    · exact ⟨_,hTI,fun v y=>nomatch y⟩
    · exact ⟨_,hTO,fun v y=>nomatch y⟩
    · exact ⟨o1,e1,fun v y=>by rw [d1] at y; cases y⟩
    · exact ⟨o2,e2,fun v y=>by rw [d2] at y; cases y⟩
  keep:=fun i h h' st kp=>by
    obtain ⟨hz,hTI,⟨p,q,hTO⟩,⟨o1,e1,r1⟩,o2,e2,r2⟩:=st
    exact ⟨kp z (by simp) _ hz,kp TI (by simp) _ hTI,⟨p,q,kp TO (by simp) _ hTO⟩,⟨o1,kp i1 (by simp) _ e1,r1⟩,o2,kp i2 (by simp) _ e2,r2⟩
  item:=by
    intro X hP hw hK hc i pins s σ H E I hf st hg
    subst hP hw hK
    obtain ⟨xs,ys,x,y,hq1,hq2,hx,hy⟩:=hg
    obtain ⟨its1,rv1,s1,_⟩:=SqB.at I hq1
    obtain ⟨its2,rv2,s2,_⟩:=SqB.at I hq2
    obtain ⟨u,hu,ru⟩:=rv1.get hx
    obtain ⟨v,hv,rv⟩:=rv2.get hy
    obtain ⟨hz,hTI,⟨p,q,hTO⟩,it1,it2⟩:=st
    have S1:SqIt s.heap i1 a i its1.toArray:=by
      cases c
      · exact .inr ⟨it1,s1⟩
      · exact .inl ⟨it1,s1⟩
    have S2:SqIt s.heap i2 b i its2.toArray:=by
      cases d
      · exact .inr ⟨it2,s2⟩
      · exact .inl ⟨it2,s2⟩
    refine zq_item D hz hTI hTO S1 S2 (x:=u) (y:=v) (by simpa using hu) (by simpa using hv) fun h1 z1 TO1 q1 q2 T1 k1=>?_
    refine ⟨_,rfl,wpAny_letOwnedTupleGo_zip z1 fun h2 z2 s2'=>?_⟩
    have zlt:z < s.heap.objs.size:=Heap.lt_size hz
    have T2:h2.get? s.heap.objs.size=some { cls:=.type "tuple", data:=.seq #[u,v] }:=(s2'.2 _ (Ne.symm (Nat.ne_of_lt zlt))).trans T1
    have I2:Inv X pins σ (upd H s.heap.objs.size (.tup [x,y])) { s with heap:=h2 }:=by
      refine I.turnedNew (t':=s.toks) (ch:=[z,TI,TO,i1,i2]) (fun e ob he ee=>?_) hf (Nat.le_refl _) ⟨by show 2≤sizeLine; decide,[u,v],.cons ru (.cons rv .nil),⟨_,T2,rfl,_,rfl⟩,_,T2,rfl⟩
      have n1:e ≠ z:=fun y=>he (by simp [y])
      exact (s2'.2 e n1).trans (k1 e ob n1 (fun y=>he (by simp [y])) (fun y=>he (by simp [y])) (fun y=>he (by simp [y])) ee)
    have g1:SqIt h2 i1 a (i+1) its1.toArray:=q1.at (fun o e=>(s2'.2 _ D.i1z).trans e) (fun o e=>(s2'.2 _ D.l1z).trans e)
    have g2:SqIt h2 i2 b (i+1) its2.toArray:=q2.at (fun o e=>(s2'.2 _ D.i2z).trans e) (fun o e=>(s2'.2 _ D.l2z).trans e)
    have kd:∀ {c:Bool} {i1 a:Addr} {its its':Array Value},SqO c h2 a its'→SqIt h2 i1 a (i+1) its→∃ o,h2.get? i1=some o∧o.cls=.type (if c=true then "list_iterator" else "tuple_iterator")∧o.data=.fields #[.ref a,.int ((i+1:Nat):Int) 0]:=fun {c i1 a its its'} o q=>by
      cases c
      · rcases q with ⟨_,⟨o1,e1,c1,_⟩⟩ | ⟨q,_⟩
        · obtain ⟨o2,e2,c2,_⟩:=(show h2.IsTuple a its' from o)
          rw [e1] at e2
          cases e2
          rw [c1] at c2
          exact absurd (Value.type.inj c2) (by decide)
        · exact q
      · rcases q with ⟨q,_⟩ | ⟨_,⟨o1,e1,c1,_⟩⟩
        · exact q
        · obtain ⟨o2,e2,c2,_⟩:=(show h2.IsList a its' from o)
          rw [e1] at e2
          cases e2
          rw [c1] at c2
          exact absurd (Value.type.inj c2) (by decide)
    have ko:∀ {c:Bool} {a:Addr} {its:Array Value},SqO c s.heap a its→a ≠ z→a ≠ TO→a ≠ i1→a ≠ i2→SqO c h2 a its:=fun {c a its} o n1 n2 n3 n4=>by
      have kk:∀ ob,s.heap.get? a=some ob→h2.get? a=some ob:=fun ob e=>(s2'.2 _ n1).trans (k1 _ _ n1 n2 n3 n4 e)
      cases c
      · exact Heap.IsTuple.at o kk
      · exact Heap.IsList.at o kk
    refine ⟨.ref s.heap.objs.size,_,I2,rfl,⟨_,rfl,I.hok.fresh (Nat.le_refl _),fun xs' ys' x' y' h1' h2' hx' hy'=>?_⟩,⟨z2,(s2'.2 _ D.TIz).trans (k1 _ _ D.TIz D.TITO D.TIi1 D.TIi2 hTI),⟨_,_,(s2'.2 _ D.TOz).trans TO1⟩,kd (ko s1 D.l1z D.l1TO D.l1i1 D.l1i2) g1,kd (ko s2 D.l2z D.l2TO D.l2i1 D.l2i2) g2⟩,fun e he=>?_⟩
    · have e1:=SqB.inj I h1' hq1
      have e2:=SqB.inj I h2' hq2
      subst e1 e2
      rw [hx] at hx'
      rw [hy] at hy'
      cases hx'
      cases hy'
      rfl
    · have zf:=hf e he
      have hlt:e < s.heap.objs.size:=by
        simp only [List.mem_cons,List.not_mem_nil,or_false] at he
        rcases he with rfl | rfl | rfl | rfl | rfl
        · exact zlt
        · exact Heap.lt_size hTI
        · exact Heap.lt_size hTO
        · obtain ⟨_,e,_⟩:=it1; exact Heap.lt_size e
        · obtain ⟨_,e,_⟩:=it2; exact Heap.lt_size e
      rw [upd_ne (Nat.ne_of_lt hlt)]
      exact zf.1
  done:=by
    intro X hP hw hK hc i pins s σ H E I hf st hg
    subst hP hw hK
    obtain ⟨xs,ys,hq1,hq2,hend⟩:=hg
    obtain ⟨its1,rv1,s1,_⟩:=SqB.at I hq1
    obtain ⟨its2,rv2,s2,_⟩:=SqB.at I hq2
    obtain ⟨hz,hTI,⟨p,q,hTO⟩,it1,it2⟩:=st
    have S1:SqIt s.heap i1 a i its1.toArray:=by
      cases c
      · exact .inr ⟨it1,s1⟩
      · exact .inl ⟨it1,s1⟩
    have S2:SqIt s.heap i2 b i its2.toArray:=by
      cases d
      · exact .inr ⟨it2,s2⟩
      · exact .inl ⟨it2,s2⟩
    have l1:=rv1.length
    have l2:=rv2.length
    exact zq_end (I.ok.hd hc) D hz hTI hTO S1 S2 (hend.imp (fun h=>Array.getElem?_eq_none (by simp; omega)) (fun h=>Array.getElem?_eq_none (by simp; omega))) fun h' eb =>
      ⟨rfl,I.turnedL (t':=s.toks) (ch:=[z,TI,TO,i1,i2]) (fun e o he eo=>eb e o (fun y=>he (by simp [y])) (fun y=>he (by simp [y])) (fun y=>he (by simp [y])) (fun y=>he (by simp [y])) eo) hf⟩
  self:=fun _ _ _ _ _ st h=>wpAny_pyIter_zip st.1 h
section
variable {X:Cx} {elts:List Expr} {k:Nat} {tpos:Pos}
def iZip (K:PySem.W.Frag) (tl:TA):TI:=fun σ H R=>tl σ H fun vs H1=>∃ a b c d,vs=[.ref a,.ref b]∧(∃ xs,SqB K c H1 a xs)∧(∃ ys,SqB K d H1 b ys)∧R (Itz K c d a b) H1
theorem boot_zip':bootBuiltins ("zip" : Str)=some (.type "zip"):=by decide +kernel
theorem zip_kd {c:Bool} {h h':Heap} {n l:Addr} {its its':Array Value} (keep:∀ e o,h.get? e=some o→h'.get? e=some o) (o:SqO c h l its') (q:SqIt h' n l 0 its) :
    ∃ o,h'.get? n=some o∧o.cls=.type (if c=true then "list_iterator" else "tuple_iterator")∧o.data=.fields #[.ref l,.int ((0:Nat):Int) 0]:=by
  cases c
  · rcases q with ⟨_,⟨o1,e1,c1,_⟩⟩ | ⟨q,_⟩
    · obtain ⟨o2,e2,c2,_⟩:=(show h'.IsTuple l its' from Heap.IsTuple.at o fun ob e=>keep _ _ e)
      rw [e1] at e2
      cases e2
      rw [c1] at c2
      exact absurd (Value.type.inj c2) (by decide)
    · exact q
  · rcases q with ⟨q,_⟩ | ⟨_,⟨o1,e1,c1,_⟩⟩
    · exact q
    · obtain ⟨o2,e2,c2,_⟩:=(show h'.IsList l its' from Heap.IsList.at o fun ob e=>keep _ _ e)
      rw [e1] at e2
      cases e2
      rw [c1] at c2
      exact absurd (Value.type.inj c2) (by decide)
theorem zip_it {pins:List (Addr × Obj)} {s1:Shared} {σ:St} {H1:Hp} {R:It→Hp→Prop} {a b:Addr} {c d:Bool} {xs ys:List V} {E:Value→Shared→Prop} (I1:Inv X pins σ H1 s1) (hq1:SqB X.K c H1 a xs) (hq2:SqB X.K d H1 b ys) (q:R (Itz X.K c d a b) H1) :
    wpAny (model X.prog X.w) X.A (call (.type "zip") [.ref a,.ref b]) (fun v s2=>wpAny (model X.prog X.w) X.A (pyIter v) (PIE X pins σ (.Tuple elts k tpos) R) E s2) E s1:=by
  obtain ⟨its1,rv1,o1,l1⟩:=SqB.at I1 hq1
  obtain ⟨its2,rv2,o2,l2⟩:=SqB.at I1 hq2
  refine call_zq o1 o2 fun h' z1 p1 p2 q1 q2 keep=>?_
  refine wpAny_pyIter_zip z1 ?_
  have I2:Inv X pins σ H1 { s1 with heap:=h' }:=I1.kept (t':=s1.toks) keep
  refine ⟨s1.heap.objs.size+4,[s1.heap.objs.size+4,s1.heap.objs.size+2,s1.heap.objs.size+3,s1.heap.objs.size,s1.heap.objs.size+1],_,_,H1,rfl,I2,turn_zip c d a b _ _ _ _ _ (zipAp l1 l2),⟨z1,p1,⟨_,_,p2⟩,zip_kd keep o1 q1,zip_kd keep o2 q2⟩,fun e he=>?_,q⟩
  have ge:s1.heap.objs.size≤e:=by
    simp only [List.mem_cons,List.not_mem_nil,or_false] at he
    rcases he with h | h | h | h | h <;> rw [h]
    · exact Nat.le_add_right ..
    · exact Nat.le_add_right ..
    · exact Nat.le_add_right ..
    · exact Nat.le_refl _
    · exact Nat.le_add_right ..
  exact I1.fpOk ge (I1.hok.fresh ge)
theorem pi_zip {e1 e2:Expr} {t:TA} {p pos:Pos} (hg:Gl X "zip") (hm:X.mg "zip" = none) (ha:PA X [e1,e2] t) (hs:starEach [e1,e2] X.env=[(false,eval e1 X.env),(false,eval e2 X.env)]:=by rfl) (hs2:starEach [e2] X.env=[(false,eval e2 X.env)]:=by rfl) :
    PI X (.Tuple elts k tpos) (.Call (.Name "zip" p) [e1,e2] [] pos) (iZip X.K t):=by
  intro pins s σ H R I h
  refine Call_ (ld_blt I hg hm boot_zip' (PyProof.Rows.callWith_type1 (thn (ha pos pins s σ H _ I h) fun us s1 ⟨vs,H1,I1,r1,q1⟩=>?_) (by rw [hs,hs2]) (by rw [hs2]; rfl)))
  obtain ⟨a,b,c,d,ev,⟨xs,hq1⟩,⟨ys,hq2⟩,q⟩:=q1
  subst ev
  cases r1 with
  | cons r rr =>
    cases rr with
    | cons r' rr =>
      cases rr
      cases r
      cases r'
      exact zip_it I1 hq1 hq2 q
end
end L2
namespace L2
open PySem PySem.Spec PyProof.Rows
section
variable {X:Cx} {pins:List (Addr × Obj)} {σ:St} {x y2:Str} {N:List Str} {ix:List Nat} {scope:Scope} {cl:List (Str × Addr)} {fp:List Addr} {H3:Hp} {s3:Shared}
theorem comp_cx2 (S:CompScope X x N ix scope cl) (I3:Inv X pins σ H3 s3) (hf:∀ b ∈ fp,FpOk X pins H3 b) (hlt:∀ b ∈ fp,b < s3.heap.objs.size):(cxComp X (x::y2::N) scope cl s3 H3 fp).Ok :=
  have h:=comp_cx S I3 hf hlt
  ⟨h.mod,h.kind,h.glob,h.blt,h.above,h.inj,h.has,h.cab,h.hd,h.frames,h.stk,h.exf,h.bs,h.bsz,h.noex,h.exfs,h.funs,h.frf⟩
theorem comp_start2 (S:CompScope X x N ix scope cl) (I3:Inv X pins σ H3 s3) (hf:∀ b ∈ fp,FpOk X pins H3 b) (hlt:∀ b ∈ fp,b < s3.heap.objs.size) (hix:ix.length=N.length) {h1:Heap} {t':Nat} {m:Str→Option Value}
    (hn:h1.Ns s3.heap.objs.size m) (hk:∀ b o,s3.heap.get? b=some o→h1.get? b=some o):Inv (cxComp X (x::y2::N) scope cl s3 H3 fp) [] (none::none::outs ix σ) H3 { s3 with heap:=h1,toks:=t' } where
  ok:=comp_cx2 S I3 hf hlt
  os:=rfl
  bare:=I3.bare
  base:=Un.kept hk
  loc:=by
    refine ⟨m,hn,fun i y v h1' h2 h3=>?_⟩
    cases i with
    | zero =>
      have h2':(some (none:Option V))=some (some v):=h2
      cases h2'
    | succ j =>
     cases j with
     | zero =>
      have h2':(some (none:Option V))=some (some v):=h2
      cases h2'
     | succ j =>
      have h1'':N[j]?=some y:=h1'
      have h2':(outs ix σ)[j]?=some (some v):=h2
      obtain ⟨hr,k,c,e1,e2,e3,e4⟩:=S.outs j y h1''
      unfold outs at h2'
      rw [List.getElem?_map,e1] at h2'
      have h2'':(σ[k]?).join=some v:=Option.some.inj h2'
      have e5:σ[k]?=some (some v):=by
        cases q:σ[k]? with
        | none=>rw [q] at h2''; cases h2''
        | some o=>rw [q] at h2''; exact congrArg some h2''
      obtain ⟨m0,_,hl⟩:=I3.loc
      obtain ⟨u,r,l⟩:=hl k y v e2 e5 (.inr (.inl e4))
      refine ⟨u,r,.inr ⟨.inl hr,c,e3,?_⟩⟩
      rcases l with ⟨kk,_⟩ | ⟨_,c',ec,z⟩
      · have kk':X.env.scope.names.lookup y=some .local:=kk
        rw [e4] at kk'; cases kk'
      · rw [S.cells e3] at ec
        cases ec
        obtain ⟨o,ho,hd⟩:=z
        exact ⟨o,hk _ _ ho,hd⟩
  cell:=fun y c e=>by
    obtain ⟨v,o,ho,hd⟩:=I3.cell y c (S.cells e)
    exact ⟨v,o,hk _ _ ho,hd⟩
  free:=I3.hok.fresh (Nat.le_refl _)
  freeC:=fun y c e=>I3.freeC y c (S.cells e)
  pin:=fun p hp=>absurd (show p ∈ ([]:List (Addr × Obj)) from hp) (by simp)
  hok:=I3.hok.kept hk
  len:=by
    show (none::none::outs ix σ).length=(x::y2::N).length
    rw [List.length_cons,List.length_cons,List.length_cons,List.length_cons]
    unfold outs
    rw [List.length_map,hix]
end
section
variable {X:Cx} {x y2:Str} {N:List Str} {ix:List Nat} {scope:Scope} {cl:List (Str × Addr)} {elt iter:Expr} {ifs:List Expr} {px py pt pos:Pos} {kt:Nat} {wi:TI} {tb:TBl}
def CompEx2 (K:PySem.W.Frag) (J:It) (D:Addr) (ix:List Nat) (tb:TBl) (σ:St) (H:Hp) (Q:VK):Prop:=∃ W:Nat→Nat→Hp→Prop,(∃ m,W 0 m (upd H D (.lst [])))∧∀ i m H2,W i m H2 →
  (J.stop i H2∧Q (.ref D) H2)∨(J.go i H2∧∀ y H3,J.yld i H2 y H3→∃ t v1 v2,y=.ref t∧SqT K H3 t [v1,v2]∧tb (some v1::some v2::outs ix σ) H3 (fun H4=>∃ m',m' < m∧W (i+1) m' H4)
    fun z H4=>∃ ys,H4 D=some (.lst ys)∧ys.length < sizeLine∧∃ m',m' < m∧W (i+1) m' (upd H4 D (.lst (ys++[z]))))
def tCompR2 (K:PySem.W.Frag) (wi:TI) (ix:List Nat) (tb:TBl):TE:=fun σ H Q=>wi σ H fun J H1=>∀ D,H1 D=none→CompEx2 K J D ix tb σ H1 Q
theorem comp_run2 (hc:X.calm=true) (S:CompScope X x N ix scope cl) (S2:scope.names.lookup y2=some .local) (nd2:(x::y2::N).Nodup) (hix:ix.length=N.length) (hb:∀ s3 H3 fp,PB (cxComp X (x::y2::N) scope cl s3 H3 fp) ifs elt tb)
    {pins:List (Addr × Obj)} {s2:Shared} {σ:St} {H2:Hp} {Q:VK} {it:Addr} {fp:List Addr} {tn:Nat→Heap→Prop} {J:It} {RR:Value→Addr→Result→Shared→Prop} {E:Value→Shared→Prop}
    (I2:Inv X pins σ H2 s2) (T:Turn X.prog X.w X.K (.Tuple [.Name x px,.Name y2 py] kt pt) J fp it tn) (st2:tn 0 s2.heap) (f2:∀ b ∈ fp,FpOk X pins H2 b)
    (h:∀ D,H2 D=none→∃ W:Nat→Nat→Hp→Prop,(∃ m,W 0 m (upd H2 D (.lst [])))∧∀ i m H3,W i m H3 →
      (J.stop i H3∧Q (.ref D) H3)∨(J.go i H3∧∀ y H4,J.yld i H3 y H4→∃ t v1 v2,y=.ref t∧SqT X.K H4 t [v1,v2]∧tb (some v1::some v2::outs ix σ) H4 (fun H5=>∃ m',m' < m∧W (i+1) m' H5)
        fun z H5=>∃ ys,H5 D=some (.lst ys)∧ys.length < sizeLine∧∃ m',m' < m∧W (i+1) m' (upd H5 D (.lst (ys++[z])))))
    (hRR:∀ (D C:Addr) (H':Hp) (s':Shared) (m:Str→Option Value),s'.heap.Ns C m→Apart X pins H' C→Inv X pins σ H' s'→Q (.ref D) H'→RR (.ref D) C (.ok .next) s') :
    wpAny (model X.prog X.w) X.A (newList []) (fun acc s3=>wpAny (model X.prog X.w) X.A (newFunctionEnv scope X.env.globals cl [] X.env.qual none .none (some X.env)) (fun cenv s4 =>
      codeAny (model X.prog X.w) X.A (.compStart (.ListComp elt [⟨.Tuple [.Name x px,.Name y2 py] kt pt,iter,ifs,0⟩] scope pos) 0 (.ref it) acc { cenv with scope:=relabel scope X.env }) (RR acc cenv.locals) s4) E s3) E s2:=by
  refine wpAny_newObj_type (wpAny_newFunctionEnv S.nocell (by intro y hy; simp at hy) (fun h1 hns1 hsb1=>?_) S.kind)
  dsimp only at hns1 hsb1 ⊢
  have I3:Inv X pins σ (upd H2 s2.heap.objs.size (.lst [])) { s2 with heap:=s2.heap.push { cls:=.type "list", dict:=none,data:=.seq ([]:List Value).toArray } }:=I2.lnew (its:=[]) (ys:=[]) (t':=s2.toks) .nil (Nat.zero_le _)
  have hD:H2 s2.heap.objs.size=none:=I2.fresh
  obtain ⟨W,⟨m0,w0⟩,turn⟩:=h s2.heap.objs.size hD
  have hltF:∀ b ∈ fp,b < s2.heap.objs.size:=fun b hb=>by
    obtain ⟨o,e,_⟩:=T.obj 0 _ st2 b hb
    exact Heap.lt_size e
  generalize hs3:({ s2 with heap:=s2.heap.push { cls:=.type "list", dict:=none,data:=.seq ([]:List Value).toArray } }:Shared)=s3 at I3
  have eh:s2.heap.push { cls:=.type "list", dict:=none,data:=.seq ([]:List Value).toArray }=s3.heap:=by rw [← hs3]
  have et:s2.toks=s3.toks:=by rw [← hs3]
  rw [eh] at hns1 hsb1 ⊢
  have sz3:s3.heap.objs.size=s2.heap.objs.size+1:=by rw [← eh,Heap.size_push]
  have hlt3:∀ b ∈ fp,b < s3.heap.objs.size:=fun b hb=>Nat.lt_of_lt_of_le (hltF b hb) (by rw [sz3]; exact Nat.le_succ _)
  have f3:∀ b ∈ fp,FpOk X pins (upd H2 s2.heap.objs.size (.lst [])) b:=fun b hb=>by
    obtain ⟨q1,q2⟩:=f2 b hb
    exact ⟨by rw [upd_ne (Nat.ne_of_lt (hltF b hb))]; exact q1,q2⟩
  have up:∀ b o,s3.heap.get? b=some o→h1.get? b=some o:=fun b o e=>hsb1.extBut b o (Nat.ne_of_lt (Heap.lt_size e)) (Heap.get?_push_of_some _ e)
  have old:∀ b o,s2.heap.get? b=some o→h1.get? b=some o:=fun b o e=>up b o (by rw [← eh]; exact Heap.get?_push_of_some _ e)
  have es:({ s2 with heap:=h1,toks:=s2.toks+([]:List (Str × Value)).length }:Shared)={ s3 with heap:=h1,toks:=s2.toks+([]:List (Str × Value)).length }:=by rw [← hs3]
  rw [es]
  have I4:Inv (cxComp X (x::y2::N) scope cl s3 (upd H2 s2.heap.objs.size (.lst [])) fp) [] (none::none::outs ix σ) (upd H2 s2.heap.objs.size (.lst [])) { s3 with heap:=h1,toks:=s2.toks+([]:List (Str × Value)).length } :=
    comp_start2 S I3 f3 hlt3 hix hns1 up
  have st4:tn 0 h1:=T.keep 0 _ _ st2 fun b _ o e=>old b o e
  have loop:codeAny (model X.prog X.w) X.A (.compLoop (.ListComp elt [⟨.Tuple [.Name x px,.Name y2 py] kt pt,iter,ifs,0⟩] scope pos) 0 (.ref it) (.ref s2.heap.objs.size) (compEnvC scope cl s3.heap.objs.size X.env)) (RR (.ref s2.heap.objs.size) s3.heap.objs.size)
      { s3 with heap:=h1,toks:=s2.toks+([]:List (Str × Value)).length }:=by
    refine compLoop_go (fun n s'=>∃ i v0 v00 H',Inv (cxComp X (x::y2::N) scope cl s3 (upd H2 s2.heap.objs.size (.lst [])) fp) [] (v0::v00::outs ix σ) H' s'∧tn i s'.heap∧(∀ b ∈ fp,H' b=none)∧W i n H') ?_ m0 ⟨0,none,none,_,I4,st4,fun b hb=>(f3 b hb).1,w0⟩
    rintro n s5 ⟨i,v0,v00,H5,I5,st5,fr5,w5⟩
    have stat:∀ {H':Hp},(∀ b ∈ fp,H' b=none)→∀ b ∈ fp,FpOk (cxComp X (x::y2::N) scope cl s3 (upd H2 s2.heap.objs.size (.lst [])) fp) [] H' b:=fun hn b hb =>
      ⟨hn b hb,((comp_cx2 S I3 f3 hlt3).exf b hb).1,(comp_cx2 S I3 f3 hlt3).exfs b hb,.inl hb,((comp_cx2 S I3 f3 hlt3).exf b hb).2,fun p hp=>absurd (show p ∈ ([]:List (Addr × Obj)) from hp) (by simp)⟩
    rcases turn i n H5 w5 with ⟨stop,qn⟩ | ⟨go,step⟩
    · refine thn (T.done (cxComp X (x::y2::N) scope cl s3 (upd H2 s2.heap.objs.size (.lst [])) fp) rfl rfl rfl hc i [] s5 _ H5 _ I5 (stat fr5) st5 stop) fun r s6 ⟨hr,I6⟩=>?_
      subst hr
      obtain ⟨m6,hn6,_⟩:=I6.loc
      exact hRR _ _ H5 s6 m6 hn6 ⟨I6.free,Ne.symm (Nat.ne_of_lt I3.lt),I3.sz,fun y c e z=>by
        obtain ⟨v,q⟩:=I3.cell y c e
        exact absurd q.lt (by rw [z]; exact Nat.lt_irrefl _),fun p hp z=>absurd (Heap.lt_size (I3.pin p hp).1) (by rw [z]; exact Nat.lt_irrefl _)⟩ (comp_back I3 f3 I6 (Heap.SameBut.refl _ _)) qn
    · refine thn (T.item (cxComp X (x::y2::N) scope cl s3 (upd H2 s2.heap.objs.size (.lst [])) fp) rfl rfl rfl hc i [] s5 _ H5 _ I5 (stat fr5) st5 go) fun r s6 ⟨u,hr,h6⟩=>?_
      subst hr
      refine thn h6 fun _ s7 ⟨y,H7,I7,r7,y7,st7,fr7⟩=>?_
      have I7':=I7.pinned (stat fr7) (T.obj _ _ st7)
      obtain ⟨tt,v1,v2,ey,sq,stp⟩:=step y H7 y7
      subst ey
      have pg:PG (cxComp X (x::y2::N) scope cl s3 (upd H2 s2.heap.objs.size (.lst [])) fp) (.Tuple [.Name x px,.Name y2 py] kt pt) (gTup X.K 2 (gCons (gName 0) (gCons (gName 1) gNil))) :=
        pg_tup hc (pgs_cons (pg_name (i:=0) nd2 rfl (.inl (lookup_relabel_local S.own)) (.inr (lookup_relabel_local S.own))) (pgs_cons (pg_name (i:=1) nd2 rfl (.inl (lookup_relabel_local S2)) (.inr (lookup_relabel_local S2))) pgs_nil))
      refine thn (pg _ s7 _ H7 (.ref tt) u (fun σ' H'=>σ'=some v1::some v2::outs ix σ∧H'=H7) I7' r7 ⟨tt,_,rfl,sq,rfl,v1,_,rfl,v2,_,rfl,rfl,rfl,rfl⟩) fun _ s8 ⟨σ8,H8,I8,e1,e2⟩=>?_
      subst e1 e2
      have I8':=I8
      have again:∀ {v9 v99:Option V} {H9:Hp} {s9:Shared},Inv (cxComp X (x::y2::N) scope cl s3 (upd H2 s2.heap.objs.size (.lst [])) fp) ([]++pinsAt fp s7.heap) (v9::v99::outs ix σ) H9 s9→(∃ m',m' < n∧W (i+1) m' H9) →
          ∃ m,m < n∧∃ i v0 v00 H',Inv (cxComp X (x::y2::N) scope cl s3 (upd H2 s2.heap.objs.size (.lst [])) fp) [] (v0::v00::outs ix σ) H' s9∧tn i s9.heap∧(∀ b ∈ fp,H' b=none)∧W i m H':=fun {v9 v99 H9 s9} I9 ⟨m',hm,w9⟩=>by
        refine ⟨m',hm,i+1,v9,v99,H9,I9.unpinned,T.keep _ _ _ st7 fun b hb o e=>(I9.pin (b,o) (List.mem_append_right _ (List.mem_append_right _ (mem_pinsAt hb e)))).1,fun b hb=>?_,w9⟩
        obtain ⟨o,e,d⟩:=T.obj _ _ st7 b hb
        exact (I9.pin (b,o) (List.mem_append_right _ (List.mem_append_right _ (mem_pinsAt hb e)))).2.1
      refine thn (hb s3 (upd H2 s2.heap.objs.size (.lst [])) fp _ s8 _ _ _ _ I8' stp) fun ok s9 q9=>?_
      cases ok with
      | false =>
        rw [if_neg (by decide)] at q9 ⊢
        obtain ⟨H9,I9,q9⟩:=q9
        exact again I9 q9
      | true =>
        rw [if_pos rfl] at q9 ⊢
        refine thn q9 fun u s10 ⟨z,H10,I10,r10,ys,hy,hz,q10⟩=>?_
        refine thn (mt_append _ s10 _ H10 (.ref s2.heap.objs.size) [z] (.ref s2.heap.objs.size) [u] (fun _ H'=>∃ m',m' < n∧W (i+1) m' H') I10 rfl (.cons r10 .nil) ⟨_,ys,z,rfl,rfl,hy,hz,q10⟩) fun _ s11 ⟨_,H11,I11,_,q11⟩=>?_
        exact again I11 q11
  exact codeAny_compStart_list loop (T.self _ 0 _ _ _ st4 loop)
theorem pe_comp2 (hc:X.calm=true) (S:CompScope X x N ix scope cl) (S2:scope.names.lookup y2=some .local) (nd2:(x::y2::N).Nodup) (hix:ix.length=N.length) (hi:PI X (.Tuple [.Name x px,.Name y2 py] kt pt) iter wi) (hb:∀ s3 H3 fp,PB (cxComp X (x::y2::N) scope cl s3 H3 fp) ifs elt tb)
    (hs:∀ x,foldedSetIterable iter X.env x=pure x:=by intro _; rfl):PE X (.ListComp elt [⟨.Tuple [.Name x px,.Name y2 py] kt pt,iter,ifs,0⟩] scope pos) (tCompR2 X.K wi ix tb):=by
  intro pins s σ H Q I h
  rw [eval_ListComp]
  refine wpAny_comprehension_free (use:=none) rfl hs S.clos S.kind S.names (thn (hi pins s σ H _ I h) fun xv s1 h1=>thn h1 fun itv s2 h2=>?_)
  obtain ⟨it,fp,tn,J,H2,rfl,I2,T,st2,f2,R⟩:=h2
  refine comp_run2 hc S S2 nd2 hix hb (RR:=fun acc C=>compPost (model X.prog X.w) X.A X.xe none (EP X pins σ Q) acc C) I2 T st2 f2 R ?_
  intro D C H' s' m hn ap I' q
  exact ⟨m,hn,fun h'' hb''=>⟨.ref D,H',ap.turn I' hb'',rfl,q⟩⟩
end
theorem comp_zip {K:PySem.W.Frag} {c d:Bool} {a b D:Addr} {xs ys:List V} {ix:List Nat} {tb:TBl} {σ:St} {H:Hp} {Q:VK} (hxy:xs.length=ys.length) (Pv:Nat→Hp→Prop) (h0:Pv 0 (upd H D (.lst []))) (hl:∀ i H,i≤xs.length→Pv i H→SqB K c H a xs∧SqB K d H b ys)
    (hs:∀ i x y t H,xs[i]?=some x→ys[i]?=some y→Pv i H→H t=none→tb (some x::some y::outs ix σ) (upd H t (.tup [x,y])) (Nx xs.length i Pv) fun z H'=>∃ ys,H' D=some (.lst ys)∧ys.length < sizeLine∧Nx xs.length i Pv (upd H' D (.lst (ys++[z])))) (hd:∀ H,Pv xs.length H→Q (.ref D) H) :
    CompEx2 K (Itz K c d a b) D ix tb σ H Q:=by
  refine ⟨fun i m H=>m=xs.length - i∧i≤xs.length∧Pv i H,⟨xs.length,by simp,Nat.zero_le _,h0⟩,?_⟩
  rintro i m H ⟨rfl,hi,p⟩
  obtain ⟨q1,q2⟩:=hl i H hi p
  by_cases hlt:i < xs.length
  · have hlt2:i < ys.length:=by omega
    refine .inr ⟨⟨xs,ys,xs[i],ys[i],q1,q2,by simp [hlt],by simp [hlt2]⟩,fun v H' y=>?_⟩
    obtain ⟨t,rfl,ht,e⟩:=y
    have e':=e xs ys xs[i] ys[i] q1 q2 (by simp [hlt]) (by simp [hlt2])
    subst e'
    exact ⟨t,_,_,rfl,SqT.of upd_same,hs i xs[i] ys[i] t H (by simp [hlt]) (by simp [hlt2]) p ht⟩
  · have e:i=xs.length:=by omega
    subst e
    exact .inl ⟨⟨xs,ys,q1,q2,.inl (Nat.le_refl _)⟩,hd H p⟩
end L2
namespace L2
open PySem PyProof.Rows HT
section
variable {X:Cx}
theorem bls_get:∀ {bs:List Bool} {us:List Value} {i:Nat} {v:Value},Vals (bs.map V.bl) us→us[i]?=some v→∃ b,bs[i]?=some b∧v=.bool b
  | [],_,_,_,.nil,h=>by simp at h
  | b::_,_,0,_,.cons r _,h=>by
    simp at h
    subst h
    cases r
    exact ⟨b,rfl,rfl⟩
  | _::_,_,i+1,_,.cons _ t,h=>by
    obtain ⟨b,h1,h2⟩:=bls_get (i:=i) t (by simpa using h)
    exact ⟨b,by simpa using h1,h2⟩
theorem boot_any':bootBuiltins ("any" : Str)=some (.builtin "any"):=by decide +kernel
theorem any_rng (bs:List Bool):((List.range bs.length).any fun i=>(bs[i]?).getD false)=bs.any id:=by
  cases h:bs.any id with
  | true =>
    obtain ⟨b,hb,e⟩:=List.any_eq_true.mp h
    obtain ⟨i,hi,e2⟩:=List.getElem_of_mem hb
    refine List.any_eq_true.mpr ⟨i,List.mem_range.mpr hi,?_⟩
    rw [List.getElem?_eq_getElem hi,Option.getD_some,e2]
    exact e
  | false =>
    refine List.any_eq_false.mpr fun i hi=>?_
    have hi':=List.mem_range.mp hi
    rw [List.getElem?_eq_getElem hi',Option.getD_some]
    exact List.any_eq_false.mp h _ (List.getElem_mem hi')
def rAny (K:PySem.W.Frag):List V→Hp→VK→Prop:=fun xs H Q=>∃ (a:Addr) (bs:List Bool),xs=[.ref a]∧SqL K H a (bs.map V.bl)∧Q (.bl (bs.any id)) H
theorem call_any (hc:X.calm=true):CallR X (.builtin "any") (rAny X.K):=by
  intro pins s2 σ H2 xs us Q I2 r h
  obtain ⟨a,bs,rfl,hq,q⟩:=h
  obtain ⟨u,rfl,ru⟩:=vals1 r
  cases ru
  obtain ⟨its,r',p,hz⟩:=I2.list hq
  have hl:=r'.length
  rw [List.length_map] at hl
  have hlt:a < s2.heap.objs.size:=by obtain ⟨o,n,e,_⟩:=p; exact Heap.lt_size e
  have hne:a ≠ s2.heap.objs.size:=Nat.ne_of_lt hlt
  refine call_any_walk (wpAny_pyIter_list p.isList ?_)
  refine ⟨s2.heap.objs.size,[s2.heap.objs.size,a],[s2.heap.objs.size],its.toArray.size,_,_,fun i=>(bs[i]?).getD false,rfl,Walks.list (prog:=X.prog) (w:=X.w) (A:=X.A.in1) (I2.ok.hd hc) s2.heap.objs.size a hne its.toArray,
    ⟨⟨_,Heap.get?_push_size _ rfl,rfl,rfl⟩,p.isList.push _⟩,fun i v s' Q' E' hP hQ=>?_,fun h' tk hk=>?_⟩
  · obtain ⟨b,e,rfl⟩:=bls_get r' (i:=i) (v:=v) (by first | exact hP | simpa using hP | (rw [List.getElem?_toArray] at hP; exact hP))
    simp only [e,Option.getD_some] at hQ
    exact wpAny_truthy_bool hQ
  · rw [List.size_toArray,← hl,any_rng]
    have I3:Inv X pins σ H2 { s2 with heap:=s2.heap.push { cls:=.type "list_iterator", data:=.fields #[.ref a,.int 0 0] } }:=I2.kept (t':=s2.toks) fun b o eb=>Heap.get?_push_of_some _ eb
    refine ⟨.bl _,H2,?_,rfl,q⟩
    have J:=Inv.turnedL (h':=h') (t':=tk) (ch:=[s2.heap.objs.size]) I3 (fun b o hb eb=>hk b o hb eb)
    refine J fun b hb=>?_
    rw [List.mem_singleton.mp hb]
    exact I2.fpOk (Nat.le_refl _) (I2.hok.fresh (Nat.le_refl _))
end
end L2
namespace L2
open PySem PySem.Spec PyProof.Rows
section
variable {X:Cx}
def startsAt (z u:Str) (i:Int):Bool:=decide (PySem.fromIndex z.length i+u.length≤z.length) && Builtin.Str.subAt z u (PySem.fromIndex z.length i)
def rStartsAt:V→List V→Hp→VK→Prop:=fun x vs H Q=>∃ z u i,x=.str z∧vs=[.str u,.int i]∧Q (.bl (startsAt z u i)) H
theorem mt_startsAt:MtR X "str.startswith" rStartsAt:=by
  intro pins s σ H x vs v us Q I rx rv h
  obtain ⟨z,u,i,rfl,rfl,q⟩:=h
  obtain ⟨t,rfl⟩:=rx
  cases rv with
  | cons r1 rv1 =>
    cases rv1 with
    | cons r2 rv2 =>
      cases rv2
      obtain ⟨t1,rfl⟩:=r1
      obtain ⟨t2,rfl⟩:=r2
      exact call_gives F.slot_str_startswith (typeIs_str _ _ _) F.entry_str_startswith (F.args_str_startswith_3 _ _ _) (gives_str_startswith_from z u i t t1 t2) ⟨.bl _,H,I,rfl,q⟩
abbrev TJ:=St→Hp→Str→VK→Prop
def PJ (X:Cx) (es:List Expr) (t:TJ):Prop :=
  ∀ (pins:List (Addr × Obj)) (s:Shared) (σ:St) (H:Hp) (out:Str) (Q:VK),Inv X pins σ H s→t σ H out Q→wpAny (model X.prog X.w) X.A (joinParts out (evalEach es X.env)) (EP X pins σ Q) X.xe s
theorem pj_nil:PJ X [] (fun _ H out Q=>out.length≤sizeLine∧Q (.str out) H):=by
  intro pins s σ H out Q I h
  exact joinParts_nil ⟨.str out,H,I.tok _,⟨_,rfl⟩,h.2⟩ h.1
theorem pj_cons {e:Expr} {es:List Expr} {te:TE} {t:TJ} (he:PE X e te) (ht:PJ X es t):PJ X (e::es) (fun σ H out Q=>te σ H fun v H1=>∃ y,v=.str y∧(out++y).length≤sizeLine∧t σ H1 (out++y) Q):=by
  intro pins s σ H out Q I h
  show wpAny _ _ (joinParts out (eval e X.env::evalEach es X.env)) _ _ s
  refine joinParts_cons (thn (he pins s σ H _ I h) fun v s1 ⟨x,H1,I1,r1,y,ex,hz,q⟩=>?_)
  subst ex
  obtain ⟨t',rfl⟩:=r1
  exact ⟨hz,ht pins s1 σ H1 _ Q I1 q⟩
theorem pe_fstr {e1 e2:Expr} {es:List Expr} {t:TJ} {pos:Pos} (h:PJ X (e1::e2::es) t):PE X (.JoinedStr (e1::e2::es) pos) (fun σ H Q=>t σ H Str.empty Q) :=
  fun pins s σ H Q I k=>JoinedStr_many (h pins s σ H Str.empty Q I k)
theorem pe_fmt {e:Expr} {te:TE} {pos:Pos} (he:PE X e te):PE X (.FormattedValue e (-1) none pos) (fun σ H Q=>te σ H fun v H1=>∃ y,v=.str y∧y.length≤sizeLine∧Q (.str y) H1):=by
  intro pins s σ H Q I h
  refine FormattedValue_plain (thn (he pins s σ H _ I h) fun v s1 ⟨x,H1,I1,r1,y,ex,hz,q⟩=>?_)
  subst ex
  obtain ⟨t',rfl⟩:=r1
  exact formatField_str (fun t'' tk=>⟨.str y,H1,I1.tok _,⟨_,rfl⟩,q⟩) hz
end
end L2
namespace L2
open PySem PySem.Spec PyProof.Rows
section
variable {X:Cx}
theorem pe_fmtI {e:Expr} {te:TE} {pos:Pos} (he:PE X e te):PE X (.FormattedValue e (-1) none pos) (fun σ H Q=>te σ H fun v H1=>∃ i:Int,v=.int i∧i.natAbs.log2 < 1920∧Q (.str (toString i)) H1):=by
  intro pins s σ H Q I h
  refine FormattedValue_plain (thn (he pins s σ H _ I h) fun v s1 ⟨x,H1,I1,r1,i,ex,hz,q⟩=>?_)
  subst ex
  obtain ⟨t',rfl⟩:=r1
  exact formatField_int_small hz ⟨.str (toString i),H1,I1.tok _,⟨_,rfl⟩,q⟩
end
end L2
namespace L2
open PySem PySem.Spec PyProof.Rows
abbrev IsZipB (h:Heap) (z TI TO:Addr) (f0:Value) (b:Bool):Prop :=
  h.get? z=some { cls:=.type "zip", dict:=none,data:=.fields #[f0,.bool b,.bool false,.ref TI,.ref TO],slots:=#[] }
section
variable {prog:Program} {w:World} {A:Around} {E:Value→Shared→Prop} {s:Shared}
end
end L2
namespace L2
open PySem PySem.Spec PyProof.Rows
def ItK (c:Bool) (h:Heap) (i1 a:Addr) (k:Nat):Prop:=∃ o,h.get? i1=some o∧o.cls=.type (if c=true then "list_iterator" else "tuple_iterator")∧o.data=.fields #[.ref a,.int k 0]
def ZSt (c d:Bool) (a b z TI TO i1 i2:Addr) (cs:List Addr) (i:Nat) (h:Heap):Prop :=
  ((i=0∧IsZip h z TI TO .none)∨∃ (t:Addr) (f:Bool),cs[0]?=some t∧IsZipB h z TI TO (rawInt t) f)∧IsPair h TI (.ref i1) (.ref i2)∧(∃ p q,IsPair h TO p q)∧ItK c h i1 a i∧ItK d h i2 b i
def PairsAt (H:Hp) (cs:List Addr) (xs ys:List V):Prop:=∀ (j:Nat) (t:Addr) (x y:V),cs[j]?=some t→xs[j]?=some x→ys[j]?=some y→H t=some (.tup [x,y])
section
variable {X:Cx} {pins:List (Addr × Obj)} {σ:St}
end
end L2
namespace L2
open PySem PySem.Spec PyProof.Rows
section
variable {X:Cx} {pins:List (Addr × Obj)} {σ:St}
def tListZip (K:PySem.W.Frag) (t:TA):TE:=fun σ H Q=>t σ H fun vs H1=>∃ a b c d xs ys,vs=[.ref a,.ref b]∧SqB K c H1 a xs∧SqB K d H1 b ys∧xs.length=ys.length∧xs.length≤sizeLine ∧
  ∀ S cs H2,H1 S=none→H2 S=some (.lst (cs.map V.ref))→cs.length=xs.length→PairsAt H2 cs xs ys→(∀ t ∈ cs,H1 t=none∧t ≠ S)→Same H1 H2→Q (.ref S) H2
def rNeNil (K:PySem.W.Frag):R2:=fun x y H Q=>∃ a b xs,x=.ref a∧y=.ref b∧SqL K H a xs∧SqL K H b []∧Q (.bl (!xs.isEmpty)) H
end
end L2
namespace L2
open PySem PySem.Spec PyProof.Rows
section
variable {X:Cx}
theorem call_strV:CallR X (.type "str") (fun xs H Q=>(∃ i,xs=[.int i]∧i.natAbs.log2 < 1920∧Q (.str (toString i)) H)∨∃ x,xs=[.str x]∧Q (.str x) H):=by
  intro pins s σ H xs us Q I r h
  rcases h with ⟨i,rfl,hz,q⟩ | ⟨x,rfl,q⟩
  · obtain ⟨u,rfl,t,rfl⟩:=vals1 r
    exact PySem.P.str_of_int hz ⟨.str _,H,I.tok _,⟨_,rfl⟩,q⟩
  · obtain ⟨u,rfl,t,rfl⟩:=vals1 r
    exact PySem.P.str_of_str ⟨.str x,H,I,⟨_,rfl⟩,q⟩
end
end L2
namespace Mine
def Pr (n:Int):Prop:=2≤n∧∀ k:Int,2≤k→k≤1000→k*k≤n→n % k ≠ 0
def PrUpTo (n:Int) (j:Int):Prop:=∀ k:Int,2≤k→k < j→k*k≤n∧n % k ≠ 0
theorem sq_le {a b:Int} (h0:0≤a) (h:a≤b):a*a≤b*b:=Int.mul_le_mul h h h0 (Int.le_trans h0 h)
theorem pr_big {n k:Int} (h2:2≤n) (h0:2≤k) (u:PrUpTo n k) (h:n < k*k):Pr n:=by
  refine ⟨h2,fun j j2 _ js=>?_⟩
  by_cases c:j < k
  · exact (u j j2 c).2
  · have:=sq_le (a:=k) (b:=j) (by omega) (by omega)
    omega
theorem pr_all {n:Int} (h2:2≤n) (u:PrUpTo n 1001):Pr n:=⟨h2,fun j j2 j3 _=>(u j j2 (by omega)).2⟩
theorem pr_not {n k:Int} (h0:2≤k) (h1:k≤1000) (hs:k*k≤n) (h:n % k=0):¬ Pr n:=fun p=>p.2 k h0 h1 hs h
theorem upTo_start (n:Int):PrUpTo n 2:=fun k a b=>by omega
theorem upTo_next {n k:Int} (u:PrUpTo n k) (hs:k*k≤n) (h:n % k ≠ 0):PrUpTo n (k+1):=fun j a b=>by
  by_cases c:j < k
  · exact u j a c
  · have e:j=k:=by omega
    subst e; exact ⟨hs,h⟩
def prB (n:Int):Bool:=decide (2≤n) && (List.range 999).all fun i=>decide (n < ((i:Int)+2)*((i:Int)+2)) || decide (n % ((i:Int)+2) ≠ 0)
theorem pr_of_b {n:Int} (h:prB n=true):Pr n:=by
  unfold prB at h
  rw [Bool.and_eq_true] at h
  refine ⟨of_decide_eq_true h.1,fun k k2 k3 ks=>?_⟩
  have q:=List.all_eq_true.mp h.2 (k.toNat - 2) (List.mem_range.mpr (by omega))
  have e:(((k.toNat - 2:Nat):Int)+2)=k:=by omega
  rw [e,Bool.or_eq_true] at q
  rcases q with q | q
  · have:=of_decide_eq_true q; omega
  · exact of_decide_eq_true q
theorem pr_999983:Pr 999983:=pr_of_b (by decide +kernel)
def Cop (x y:Int):Prop:=∀ d:Int,0 < d→d ∣ x→d ∣ y→d=1
structure Eu (a p former ff rest f:Int):Prop where
  r0:0 < rest
  rp:rest < p
  fr:rest < former
  f0:0≤f
  f1:f < p
  g0:0≤ff
  g1:ff < p
  cop:Cop former rest
  d1:p ∣ former - a*ff
  d2:p ∣ rest - a*f
end Mine
namespace Mine
def OddUp (n d:Int):Prop:=∀ k:Int,3≤k→k % 2=1→k < d→n % k ≠ 0
theorem odd_start (n:Int):OddUp n 3:=fun k a _ c=>by omega
theorem odd_next {n d:Int} (u:OddUp n d) (hd:d % 2=1) (h:n % d ≠ 0):OddUp n (d+2):=fun k a b c=>by
  by_cases e:k < d
  · exact u k a b e
  · have:k=d:=by omega
    subst this; exact h
theorem field_yes {n d:Int} (h3:3≤n) (h2:n % 2 ≠ 0) (h0:3≤d) (u:OddUp n d) (hd:n < d*d):Pr n:=by
  refine ⟨by omega,fun k k2 k3 ks z=>?_⟩
  obtain ⟨q,hq⟩:=Int.dvd_of_emod_eq_zero z
  by_cases e:k % 2=1
  · by_cases c:k < d
    · exact u k (by omega) e c z
    · have:=sq_le (a:=d) (b:=k) (by omega) (by omega)
      omega
  · obtain ⟨j,hj⟩:∃ j,k=2*j:=⟨k / 2,by omega⟩
    rw [hj,Int.mul_assoc] at hq
    omega
theorem field_no2 {n:Int} (h2:n % 2=0) (h3:2 < n):¬ Pr n:=fun p=>p.2 2 (by omega) (by omega) (by omega) h2
theorem field_nod {n d:Int} (h9:n≤999999) (h0:3≤d) (hs:d*d≤n) (h:n % d=0):¬ Pr n:=fun p=>by
  have t:d≤1000:=by
    by_cases c2:1001≤d
    · have:=sq_le (a:=1001) (b:=d) (by omega) c2
      omega
    · omega
  exact p.2 d (by omega) t hs h
theorem small_root {n d:Int} (h9:n≤999999) (h0:3≤d) (hs:d*d≤n):d≤999:=by
  by_cases c2:1000≤d
  · have:=sq_le (a:=1000) (b:=d) (by omega) c2
    omega
  · omega
theorem root_le {n d:Int} (h0:3≤d) (hs:d*d≤n):d≤n:=by
  have:=Int.mul_le_mul_of_nonneg_left (show (1:Int)≤d by omega) (show (0:Int)≤d by omega)
  omega
end Mine
namespace Mine
def setts:Nat→List (List Int)
  | 0=>[[]]
  | n+1=>(setts n).flatMap fun s=>[s++[0],s++[1]]
def byTwos (k:Int):Nat→List Int
  | 0=>[]
  | j+1=>(k / 2 ^ j % 2)::byTwos k j
theorem flat2_len {α β:Type} (f g:α→β):∀ l:List α,(l.flatMap fun s=>[f s,g s]).length=2*l.length
  | []=>rfl
  | x::r=>by
    have ih:=flat2_len f g r
    simp only [List.flatMap_cons,List.length_append,List.length_cons,List.length_nil]
    omega
theorem setts_len:∀ n:Nat,(setts n).length=2 ^ n
  | 0=>rfl
  | n+1=>by rw [setts,flat2_len,setts_len n,Nat.pow_succ]; omega
theorem setts_mem_len:∀ (n:Nat) (s:List Int),s ∈ setts n→s.length=n
  | 0,s,h=>by
    have:s=[]:=by simpa [setts] using h
    subst this; rfl
  | n+1,s,h=>by
    rw [setts,List.mem_flatMap] at h
    obtain ⟨t,ht,hs⟩:=h
    have:=setts_mem_len n t ht
    simp at hs
    rcases hs with rfl | rfl <;> simp [this]
theorem pow_le_64 {n:Nat} (h:n≤6):2 ^ n≤64:=Nat.pow_le_pow_right (by decide) h
end Mine
namespace Mine
def Pm (p:Int):Prop:=1 < p∧∀ a:Int,¬ p ∣ a→∃ f:Int,p ∣ f*a - 1
def ch:Nat→Nat→Nat
  | _,0=>1
  | 0,_+1=>0
  | n+1,k+1=>ch n k+ch n (k+1)
def sm (f:Nat→Int):Nat→Int
  | 0=>0
  | n+1=>sm f n+f n
def IsPoly:Nat→(Int→Int)→Prop
  | 0,f=>∀ x,f x=0
  | n+1,f=>∃ (a:Int) (g:Int→Int),IsPoly n g∧∀ x,f x=a+x*g x
end Mine
namespace Mine
def pr (g:Nat→Int):Nat→Int
  | 0=>1
  | n+1=>pr g n*g n
def px (x:Int) (i:Nat):Nat→Int
  | 0=>1
  | n+1=>if n=i then px x i n else px x i n*(x - n)
def lag (v u:Nat→Int) (n:Nat) (x:Int):Int:=sm (fun i=>v i*px x i n*u i) n
def Wgt (p:Int) (n:Nat) (u:Nat→Int):Prop:=∀ i,i < n→p ∣ px (i:Int) i n*u i - 1
def fac:Nat→Int
  | 0=>1
  | n+1=>fac n*((n:Int)+1)
end Mine
namespace Mine
def fnd (g:Nat→Bool) (i:Nat):List Int:=((List.range i).filter g).map fun k:Nat=>(k:Int)
theorem fnd_succ (g:Nat→Bool) (i:Nat):fnd g (i+1)=fnd g i++if g i=true then [(i:Int)] else []:=by
  unfold fnd
  rw [List.range_succ,List.filter_append,List.map_append]
  cases h:g i <;> simp [List.filter,h]
theorem fnd_len (g:Nat→Bool) (i:Nat):(fnd g i).length≤i:=by
  unfold fnd
  rw [List.length_map]
  exact Nat.le_trans (List.length_filter_le _ _) (by rw [List.length_range]; exact Nat.le_refl _)
def pRt (x:Int):List Int→Int
  | []=>1
  | r::rs=>(x - r)*pRt x rs
def pRm (p x:Int):Int→List Int→Int
  | a,[]=>a
  | a,r::rs=>pRm p x (a*(x - r) % p) rs
end Mine
namespace Mine
end Mine
namespace Mine
def evl (x:Int) (c:List Int):Int:=c.foldr (fun a r=>a+x*r) 0
theorem evl_cons (x a:Int) (r:List Int):evl x (a::r)=a+x*evl x r:=rfl
theorem evl_mod {x p:Int}:∀ c:List Int,evl x (c.map (· % p)) % p=evl x c % p
  | []=>rfl
  | a::r=>by
    rw [List.map_cons,evl_cons,evl_cons,Int.add_emod,Int.mul_emod,evl_mod r,← Int.mul_emod,Int.emod_emod_of_dvd _ (Int.dvd_refl p),← Int.add_emod]
def spots (p:Int) (c:List Int):List Int:=fnd (fun s=>decide (evl (s:Int) c % p=0)) p.toNat
def ovr (xs cs:List Int):List Int:=List.zipWith (· - ·) xs cs
theorem ovr_len {xs cs:List Int} (h:xs.length=cs.length):(ovr xs cs).length=xs.length:=by
  unfold ovr
  rw [List.length_zipWith]
  omega
theorem ovr_take {xs cs:List Int} {i:Nat} {x c:Int} (hx:xs[i]?=some x) (hc:cs[i]?=some c):(ovr xs cs).take (i+1)=(ovr xs cs).take i++[x - c]:=by
  have:(ovr xs cs)[i]?=some (x - c):=by
    unfold ovr
    rw [List.getElem?_zipWith,hx,hc]
  rw [List.take_add_one,this]
  rfl
def wrg (p:Int) (c:List Int):Bool:=c.any fun n=>!decide (n % p=0)
theorem any_ne {p:Int}:∀ c:List Int,((c.map (· % p)).map fun n=>!decide (n=0)).any id=wrg p c
  | []=>rfl
  | a::r=>by
    have:=any_ne (p:=p) r
    unfold wrg at this ⊢
    rw [List.map_cons,List.map_cons,List.any_cons,List.any_cons,this]
    rfl
end Mine
namespace Mine
def cgt (p:Int) (ds:List Int):Int:=ds.foldl (fun a d=>a*(p - d)) 1
theorem cgt_snoc (p:Int) (ds:List Int) (d:Int):cgt p (ds++[d])=cgt p ds*(p - d):=by
  unfold cgt
  rw [List.foldl_append]
  rfl
def dueV (p:Int) (n m:Nat) (g:Int) (c:List Int):Int :=
  if m=1 then (if c.headD 0 % p=0 then p ^ n else p ^ n - g) else ((spots p c).length:Int)*p ^ n+(p - ((spots p c).length:Int))*(p ^ n - g)
def letV (p:Int) (n m:Nat) (g:Int) (c:List Int):Int :=
  if wrg p c=true then (if m=1 then p ^ n - g else ((spots p c).length:Int)*p ^ n+(p - ((spots p c).length:Int))*(p ^ n - g)) else p ^ (if m=1 then n else n+1)
theorem pow_pos {p:Int} (h:0 < p):∀ n:Nat,0 < p ^ n
  | 0=>by rw [Int.pow_zero]; decide
  | n+1=>by rw [Int.pow_succ]; exact Int.mul_pos (pow_pos h n) h
end Mine
namespace Mine
open PySem L2
theorem len1 {us:List Value} (h:us.length=1):∃ a,us=[a]:=by
  cases us with
  | nil=>cases h
  | cons a r =>
    cases r with
    | nil=>exact ⟨a,rfl⟩
    | cons _ _=>cases h
theorem lenS {us:List Value} {n:Nat} (h:us.length=n+1):∃ a r,us=a::r∧r.length=n:=by
  cases us with
  | nil=>cases h
  | cons a r=>exact ⟨a,r,rfl,Nat.succ.inj h⟩
theorem len2 {us:List Value} (h:us.length=2):∃ a b,us=[a,b]:=by
  obtain ⟨a,r,rfl,h1⟩:=lenS h
  obtain ⟨b,rfl⟩:=len1 h1
  exact ⟨a,b,rfl⟩
theorem len3 {us:List Value} (h:us.length=3):∃ a b c,us=[a,b,c]:=by
  obtain ⟨a,r,rfl,h1⟩:=lenS h
  obtain ⟨b,c,rfl⟩:=len2 h1
  exact ⟨a,b,c,rfl⟩
theorem len4 {us:List Value} (h:us.length=4):∃ a b c d,us=[a,b,c,d]:=by
  obtain ⟨a,r,rfl,h1⟩:=lenS h
  obtain ⟨b,c,d,rfl⟩:=len3 h1
  exact ⟨a,b,c,d,rfl⟩
theorem len5 {us:List Value} (h:us.length=5):∃ a b c d e,us=[a,b,c,d,e]:=by
  obtain ⟨a,r,rfl,h1⟩:=lenS h
  obtain ⟨b,c,d,e,rfl⟩:=len4 h1
  exact ⟨a,b,c,d,e,rfl⟩
theorem len6 {us:List Value} (h:us.length=6):∃ a b c d e f,us=[a,b,c,d,e,f]:=by
  obtain ⟨a,r,rfl,h1⟩:=lenS h
  obtain ⟨b,c,d,e,f,rfl⟩:=len5 h1
  exact ⟨a,b,c,d,e,f,rfl⟩
theorem len7 {us:List Value} (h:us.length=7):∃ a b c d e f g,us=[a,b,c,d,e,f,g]:=by
  obtain ⟨a,r,rfl,h1⟩:=lenS h
  obtain ⟨b,c,d,e,f,g,rfl⟩:=len6 h1
  exact ⟨a,b,c,d,e,f,g,rfl⟩
def top (i:Nat):Stmt:=PySem.Challenge.pw_asktally_k74_counts_and_bounds_at_the_de.main.body.getD i (.Pass ⟨0,0,0,0⟩)
abbrev s__wall:Stmt:=top 0
abbrev s_is_field:Stmt:=top 11
abbrev s_is_number:Stmt:=top 12
abbrev s_all_settings:Stmt:=top 14
abbrev s_holds_at:Stmt:=top 15
abbrev s_joined:Stmt:=top 16
abbrev s_count_of:Stmt:=top 17
abbrev s_trees_within:Stmt:=top 18
abbrev s_names_in:Stmt:=top 19
abbrev s_degree_of:Stmt:=top 23
abbrev s_look_switches:Stmt:=top 24
abbrev s_look_names:Stmt:=top 25
abbrev s_look_field:Stmt:=top 26
abbrev s_look_size:Stmt:=top 27
abbrev s_is_name:Stmt:=top 37
abbrev s_is_figures:Stmt:=top 38
abbrev s_power:Stmt:=top 40
abbrev s_rows_of_coins:Stmt:=top 41
abbrev s_counts_of:Stmt:=top 43
abbrev s_differences:Stmt:=top 45
abbrev s_are_wrong:Stmt:=top 46
abbrev s_blind_spots:Stmt:=top 47
abbrev s_let_by_at_most:Stmt:=top 48
abbrev s_caught_rows:Stmt:=top 49
abbrev s_read_game:Stmt:=top 59
abbrev s_row_or_end:Stmt:=top 60
abbrev s_field_in_row:Stmt:=top 61
abbrev s_switches_in_row:Stmt:=top 62
abbrev s_trees_in_rows:Stmt:=top 63
abbrev s_tree_in_row:Stmt:=top 64
abbrev s_next_tree:Stmt:=top 65
abbrev s_joined_tree:Stmt:=top 66
abbrev s_counted:Stmt:=top 68
abbrev s_most_of:Stmt:=top 69
abbrev s_game_in:Stmt:=top 70
abbrev s_numbers_in:Stmt:=top 71
abbrev s_words_text:Stmt:=top 72
abbrev s_tree_text:Stmt:=top 74
abbrev s_game_text:Stmt:=top 75
abbrev s_l_feed:Stmt:=top 77
abbrev s_l_take:Stmt:=top 78
abbrev s_l_names:Stmt:=top 79
abbrev s_l_tree:Stmt:=top 80
abbrev s_l_names_of:Stmt:=top 81
abbrev s_l_need:Stmt:=top 82
abbrev s_l_is_prime:Stmt:=top 83
abbrev s_l_field:Stmt:=top 84
abbrev s_l_game:Stmt:=top 85
abbrev s_l_claims:Stmt:=top 86
abbrev s_l_right:Stmt:=top 87
abbrev s_law:Stmt:=top 88
section
variable {P:Program} {w:World} {K:PySem.W.Frag} {mg:Str→Option Value} {base:Heap}
abbrev s_game:Stmt:=top 22
structure Bl (mg:Str→Option Value):Prop where
  len:mg "len" = none
  range:mg "range" = none
  isinstance:mg "isinstance" = none
  bool:mg "bool" = none
  list:mg "list" = none
  tuple:mg "tuple" = none
  max:mg "max" = none
  min:mg "min" = none
  reversed:mg "reversed" = none
  enumerate:mg "enumerate" = none
  zip:mg "zip" = none
  any:mg "any" = none
  int:mg "int" = none
  str:mg "str" = none
  all:mg "all" = none
theorem feedB (z:Int):0≤z % 2147483646+1∧z % 2147483646+1≤2147483646:=by omega
theorem sc_l_feed:FnScope ["_law_script", "_law_k", "_law_cell", "_law_own"] ["_law_script", "_law_k"] (defScope s_l_feed):=⟨rfl,rfl,rfl,by decide +kernel,rfl,by decide +kernel,by decide +kernel⟩
theorem ok_l_feed {f:Addr} {fd:FuncData} (F:Fun K "_law_feed" "_law_feed" s_l_feed f fd) (hlen:mg "len" = none):FnOk P w K mg base CX0 1 f fd ["_law_script", "_law_k"] (spFeed K):=by
  refine F.ok sc_l_feed (fun vs H Q E h=>?_) (fun cdv A outer s H vs Q E hr h=>?_)
  · obtain ⟨a,ns,k,rfl,_⟩:=h
    rfl
  obtain ⟨a,ns,k,rfl,hS,h63,k0,k1,q⟩:=h
  refine ⟨_,(pss_cons (ps_set (i:=2) sc_l_feed.nd rfl (Or.inl rfl) (pe_op op_add (pe_op op_mul pe_int (pv 1)) pe_int))
      (pss_cons (ps_if (pt_cmpR op_lt (pv 1) (pe_callB call_len_seq rfl hlen PySem.boot_len (pa_cons (pv 0) pa_nil)) (nomark _)) (pss_one (ps_set (i:=2) sc_l_feed.nd rfl (Or.inl rfl) (pe_ix ix_list (pv 0) (pv 1) (fun _ _=>rfl)))) (pss_one (ps_if (pt_cmpR op_gt (pe_callB call_len_seq rfl hlen PySem.boot_len (pa_cons (pv 0) pa_nil)) pe_int (nomark _)) (pss_one (ps_set (i:=2) sc_l_feed.nd rfl (Or.inl rfl) (pe_op op_add (pe_op op_mul (pe_op op_mod (pe_ix ix_list (pv 0) (pe_op op_mod (pv 1) (pe_callB call_len_seq rfl hlen PySem.boot_len (pa_cons (pv 0) pa_nil))) (fun _ _=>rfl)) pe_int) pe_int) (pe_op op_mul pe_int (pv 1))))) pss_nil)))
      (pss_cons (ps_set (i:=3) sc_l_feed.nd rfl (Or.inl rfl) pe_int)
      (pss_cons (ps_if (pt_cmpR op_ge (pv 2) (pe_op op_pow pe_int pe_int) (nomark _)) (pss_one (ps_set (i:=3) sc_l_feed.nd rfl (Or.inl rfl) (pv 2))) pss_nil)
      (pss_one (ps_ret (pe_lst (pa_cons (pv 3) (pa_cons (pe_op op_add (pe_op op_mod (pe_op op_add (pe_op op_mul (pe_op op_mod (pv 2) pe_int) pe_int) (pe_op op_mul pe_int (pv 1))) pe_int) pe_int) pa_nil))))))))),?_⟩
  have hl:(ns.map V.int).length=ns.length:=List.length_map _
  have hp:(10:Int) ^ (18:Int).toNat=1000000000000000000:=by decide
  refine ⟨_,rfl,_,_,rfl,rfl,.inl ⟨by decide,by decide⟩,_,_,rfl,rfl,?_⟩
  refine ⟨_,rfl,_,rfl,a,_,rfl,.inl hS,_,_,rfl,rfl,_,rfl,?_⟩
  refine ite2 (fun c=>?b1) (fun c=>?b2)
  case' b1 =>
    have c':k < (((ns.map V.int).length:Nat):Int):=of_decide_eq_true c
    rw [hl] at c'
    obtain ⟨v,hv⟩:=at_int (ns:=ns) k0 c'
    refine ⟨_,rfl,_,rfl,a,_,_,_,rfl,rfl,hS,hv,?_⟩
  case' b2 =>
    refine ⟨_,rfl,a,_,rfl,.inl hS,_,_,rfl,rfl,_,rfl,?_⟩
    refine ite2 (fun c2=>?b3) (fun c2=>?b4)
    case' b3 =>
      have c':(0:Int) < (((ns.map V.int).length:Nat):Int):=of_decide_eq_true c2
      have m0:=Int.emod_nonneg k (b:=(((ns.map V.int).length:Nat):Int)) (by omega)
      have m1:=Int.emod_lt_of_pos k c'
      obtain ⟨v,hv⟩:=at_int (ns:=ns) m0 (by rw [hl] at m1 ⊢; exact m1)
      have n0:=Int.emod_nonneg v (b:=2147483629) (by decide)
      have n1:=Int.emod_lt_of_pos v (b:=2147483629) (by decide)
      refine ⟨_,rfl,_,rfl,_,rfl,a,_,rfl,.inl hS,_,_,rfl,rfl,c',a,_,_,_,rfl,rfl,hS,hv,_,_,rfl,rfl,(by show (0:Int) < _; decide),_,_,rfl,rfl,.inr ⟨by decide,by decide⟩,_,rfl,_,_,rfl,rfl,.inl ⟨by decide,by decide⟩,_,_,rfl,rfl,?_⟩
  all_goals
    refine ⟨_,rfl,_,_,rfl,rfl,⟨by decide,by decide,by decide⟩,_,_,rfl,rfl,_,rfl,?_⟩
    refine ite2 (fun c3=>?_) (fun c3=>?_)
    · have c4:=of_decide_eq_true c3
      rw [hp] at c4
      refine ⟨_,rfl,_,rfl,_,rfl,_,_,rfl,rfl,(by show (0:Int) < _; decide),_,_,rfl,rfl,.inr ⟨by decide,by decide⟩,_,rfl,_,_,rfl,rfl,.inl ⟨by decide,by decide⟩,_,_,rfl,rfl,_,_,rfl,rfl,(by show (0:Int) < _; decide),_,_,rfl,rfl,(by show 2≤sizeLine; decide),fun p hp=>?_⟩
      refine q p _ hp (Same.new hp _) ⟨_,_,upd_same,Int.le_trans (by decide) c4,(feedB _).1,(feedB _).2⟩
    · refine ⟨_,rfl,_,rfl,_,_,rfl,rfl,(by show (0:Int) < _; decide),_,_,rfl,rfl,.inr ⟨by decide,by decide⟩,_,rfl,_,_,rfl,rfl,.inl ⟨by decide,by decide⟩,_,_,rfl,rfl,_,_,rfl,rfl,(by show (0:Int) < _; decide),_,_,rfl,rfl,(by show 2≤sizeLine; decide),fun p hp=>?_⟩
      refine q p _ hp (Same.new hp _) ⟨_,_,upd_same,Int.le_refl 0,(feedB _).1,(feedB _).2⟩
theorem sc_l_take:FnScope ["_law_feed_here", "_law_many", "_law_digit", "_law_one"] ["_law_feed_here", "_law_many"] (defScope s_l_take):=⟨rfl,rfl,rfl,by decide +kernel,rfl,by decide +kernel,by decide +kernel⟩
theorem ok_l_take {f:Addr} {fd:FuncData} (F:Fun K "_law_take" "_law_take" s_l_take f fd):FnOk P w K mg base CX0 1 f fd ["_law_feed_here", "_law_many"] spTake:=by
  refine F.ok sc_l_take (fun vs H Q E h=>?_) (fun cdv A outer s H vs Q E hr h=>?_)
  · obtain ⟨f,m,rfl,_⟩:=h
    rfl
  obtain ⟨f,m,rfl,⟨own,st,hf,o0,s0,s1⟩,m0,m1,q⟩:=h
  refine ⟨_,(pss_cons (ps_if (pt_cmpR op_gt (pe_ix ix_list (pv 0) pe_int (fun _ _=>rfl)) pe_int (nomark _)) (pss_cons (ps_set (i:=2) sc_l_take.nd rfl (Or.inl rfl) (pe_op op_mod (pe_ix ix_list (pv 0) pe_int (fun _ _=>rfl)) (pv 1)))
        (pss_cons (ps_asg (pe_op op_fdivL (pe_ix ix_list (pv 0) pe_int (fun _ _=>rfl)) (pv 1)) (pg_sub (pv 0) pe_int set_list))
        (pss_one (ps_ret (pv 2))))) pss_nil)
      (pss_cons (ps_set (i:=3) sc_l_take.nd rfl (Or.inl rfl) (pe_op op_mod (pe_op op_mul (pe_ix ix_list (pv 0) pe_int (fun _ _=>rfl)) pe_int) pe_int))
      (pss_cons (ps_asg (pe_op op_add (pe_op op_mod (pe_op op_add (pe_op op_mul (pv 3) pe_int) pe_int) pe_int) pe_int) (pg_sub (pv 0) pe_int set_list))
      (pss_one (ps_ret (pe_op op_mod (pe_op op_fdiv (pe_op op_add (pe_op op_mul (pv 3) pe_int) (pe_ix ix_list (pv 0) pe_int (fun _ _=>rfl))) pe_int) (pv 1))))))),?_⟩
  refine ⟨_,rfl,f,_,0,_,rfl,rfl,SqL.of hf,rfl,_,_,rfl,rfl,_,rfl,?_⟩
  refine ite2 (fun c=>?_) (fun c=>?_)
  · refine ⟨_,rfl,f,_,0,_,rfl,rfl,SqL.of hf,rfl,_,rfl,_,_,rfl,rfl,m0,?_⟩
    refine ⟨_,rfl,f,_,0,_,rfl,rfl,SqL.of hf,rfl,_,rfl,_,_,rfl,rfl,⟨m0,m1⟩,_,rfl,f,_,0,0,rfl,rfl,hf,rfl,?_⟩
    refine ⟨_,rfl,?_⟩
    exact q _ _ (Int.emod_nonneg _ (by omega)) (Int.emod_lt_of_pos _ m0) ⟨_,_,upd_same,Int.ediv_nonneg o0 (by omega),s0,s1⟩ (SameBut.upd _)
  · have a0:=Int.emod_nonneg (st*69621) (b:=2147483647) (by decide)
    have a1:=Int.emod_lt_of_pos (st*69621) (b:=2147483647) (by decide)
    refine ⟨_,rfl,f,_,1,_,rfl,rfl,SqL.of hf,rfl,_,_,rfl,rfl,.inr ⟨by decide,by decide⟩,_,_,rfl,rfl,(by show (0:Int) < _; decide),?_⟩
    refine ⟨_,rfl,_,_,rfl,rfl,.inr ⟨by decide,by decide⟩,_,_,rfl,rfl,_,_,rfl,rfl,(by show (0:Int) < _; decide),_,_,rfl,rfl,_,rfl,f,_,1,1,rfl,rfl,hf,rfl,?_⟩
    have b0:=Int.emod_nonneg (st*69621 % 2147483647*48271+30103) (b:=2147483646) (by decide)
    have b1:=Int.emod_lt_of_pos (st*69621 % 2147483647*48271+30103) (b:=2147483646) (by decide)
    refine ⟨_,rfl,_,_,rfl,rfl,.inr ⟨by decide,by decide⟩,_,rfl,f,_,1,_,rfl,rfl,SqL.of upd_same,rfl,_,_,rfl,rfl,_,_,rfl,rfl,⟨by decide,by decide⟩,_,rfl,_,_,rfl,rfl,m0,?_⟩
    exact q _ _ (Int.emod_nonneg _ (by omega)) (Int.emod_lt_of_pos _ m0) ⟨_,_,upd_same,o0,by omega,by omega⟩ (SameBut.upd _)
theorem sc_l_tree:FnScope ["_law_feed_here", "_law_names_here", "_law_room", "_law_deep", "_law_form", "_law_more", "_law_one", "_law_word"] ["_law_feed_here", "_law_names_here", "_law_room", "_law_deep"] (defScope s_l_tree):=⟨rfl,rfl,rfl,by decide +kernel,rfl,by decide +kernel,by decide +kernel⟩
theorem lf {a X Y B:Prop} [Decidable a] (x:X) (h:¬ a→X→B):if decide a=true then (if true=true then X else Y) else B:=by
  by_cases c:a
  · rw [decide_eq_true c]
    exact iteT (iteT x)
  · rw [decide_eq_false c]
    exact iteF (h c x)
theorem tree_step {n:Nat} {f:Addr} {fd:FuncData} (F:Fun K "_law_tree" "_law_tree" s_l_tree f fd) (hlen:mg "len" = none) (C_l_take:Cal P w K mg base 1 "_law_take" ["_law_feed_here", "_law_many"] spTake)
    (C_l_tree:Cal P w K mg base (n+2) "_law_tree" ["_law_feed_here", "_law_names_here", "_law_room", "_law_deep"] (spTree n)):FnOk P w K mg base CX0 (n+3) f fd ["_law_feed_here", "_law_names_here", "_law_room", "_law_deep"] (spTree (n+1)):=by
  refine F.ok sc_l_tree (fun vs H Q E h=>?_) (fun cdv A outer s H vs Q E hr h=>?_)
  · obtain ⟨f,a,room,deep,ns,rfl,_⟩:=h
    rfl
  obtain ⟨f,a,room,deep,ns,rfl,hF,hN,nl,r1,r100,d1,dn,q⟩:=h
  refine ⟨_,(pss_cons (ps_set (i:=4) sc_l_tree.nd rfl (Or.inl rfl) (pe_cal C_l_take hr (Nat.succ_le_succ (Nat.zero_le _)) rfl (pa_cons (pv 0) (pa_cons pe_int pa_nil))))
      (pss_cons (ps_if (PW.pt (pw_or (pt_cmpR op_lt (pv 2) pe_int (nomark _)) (pw_or (pt_cmpR op_lt (pv 3) pe_int (nomark _)) (pw_or1 (pt_cmpR op_eq (pv 4) pe_int (nomark _)))))) (pss_cons (ps_if (PW.pt (pw_or (pt_cmpR op_eq (pe_op op_mod (pv 4) pe_int) pe_int (nomark _)) (pw_or1 (pt_cmpR op_eq (pe_callB call_len_seq rfl hlen PySem.boot_len (pa_cons (pv 1) pa_nil)) pe_int (nomark _))))) (pss_one (ps_ret (pe_ix ix_list (pe_lst (pa_cons (pe_tup (pa_cons pe_str pa_nil)) (pa_cons (pe_tup (pa_cons pe_str pa_nil)) pa_nil))) (pe_cal C_l_take hr (Nat.succ_le_succ (Nat.zero_le _)) rfl (pa_cons (pv 0) (pa_cons pe_int pa_nil))) (fun _ _=>rfl)))) pss_nil)
        (pss_one (ps_ret (pe_tup (pa_cons pe_str (pa_cons (pe_ix (ix_list.or ix_tup) (pv 1) (pe_cal C_l_take hr (Nat.succ_le_succ (Nat.zero_le _)) rfl (pa_cons (pv 0) (pa_cons (pe_callB call_len_seq rfl hlen PySem.boot_len (pa_cons (pv 1) pa_nil)) pa_nil))) (fun _ _=>rfl)) pa_nil)))))) pss_nil)
      (pss_cons (ps_if (PW.pt (pw_or (pt_cmpR op_lt (pv 2) pe_int (nomark _)) (pw_or1 (pt_cmpR op_eq (pv 4) pe_int (nomark _))))) (pss_one (ps_ret (pe_tup (pa_cons pe_str (pa_cons (pe_cal C_l_tree hr (Nat.le_refl _) rfl (pa_cons (pv 0) (pa_cons (pv 1) (pa_cons (pe_op op_sub (pv 2) pe_int) (pa_cons (pe_op op_sub (pv 3) pe_int) pa_nil))))) pa_nil))))) pss_nil)
      (pss_cons (ps_set (i:=5) sc_l_tree.nd rfl (Or.inl rfl) (pe_op op_add pe_int (pe_cal C_l_take hr (Nat.succ_le_succ (Nat.zero_le _)) rfl (pa_cons (pv 0) (pa_cons (pe_op op_sub (pv 2) pe_int) pa_nil)))))
      (pss_cons (ps_set (i:=6) sc_l_tree.nd rfl (Or.inl rfl) (pe_cal C_l_tree hr (Nat.le_refl _) rfl (pa_cons (pv 0) (pa_cons (pv 1) (pa_cons (pv 5) (pa_cons (pe_op op_sub (pv 3) pe_int) pa_nil))))))
      (pss_cons (ps_set (i:=7) sc_l_tree.nd rfl (Or.inl rfl) (pe_ix ix_list (pe_lst (pa_cons pe_str (pa_cons pe_str (pa_cons pe_str (pa_cons pe_str pa_nil))))) (pe_op op_mod (pv 4) pe_int) (fun _ _=>rfl)))
      (pss_one (ps_ret (pe_tup (pa_cons (pv 7) (pa_cons (pv 6) (pa_cons (pe_cal C_l_tree hr (Nat.le_refl _) rfl (pa_cons (pv 0) (pa_cons (pv 1) (pa_cons (pe_op op_sub (pe_op op_sub (pv 2) pe_int) (pv 5)) (pa_cons (pe_op op_sub (pv 3) pe_int) pa_nil))))) pa_nil)))))))))))),?_⟩
  refine ⟨_,rfl,f,10,rfl,hF,by decide,by decide,fun fm H1 f0 f10 F1 S1=>?_⟩
  have N1:=hN.feed hF S1
  refine ⟨_,rfl,_,_,rfl,rfl,_,rfl,?_⟩
  refine lf ?leaf fun c1 hX=>?_
  case leaf =>
    refine ⟨_,rfl,_,_,rfl,rfl,(by show (0:Int) < _; decide),rfl,_,rfl,?_⟩
    refine lf ?yn fun c6 hY=>?_
    case yn =>
      refine ⟨(by show 1≤sizeLine; decide),fun p1 h1=>?_⟩
      refine ⟨(by show 1≤sizeLine; decide),fun p2 h2=>?_⟩
      refine ⟨(by show 2≤sizeLine; decide),fun l hl=>?_⟩
      have ga:=Same.new h1 (.tup [.str "yes"])
      have gb:=Same.new h2 (.tup [.str "no"])
      have gc:=Same.new hl (.lst [.ref p1,.ref p2])
      have G:=ga.trans (gb.trans gc)
      have nlf:=(F1.same (ga.trans gb)).ne hl
      refine ⟨_,rfl,f,2,rfl,F1.same G,by decide,by decide,fun d H2 d0 d2 F2 S2=>?_⟩
      have y2:H2 p1=some (.tup [.str "yes"]):=keepT_feed (F1.same G) S2 _ _ (gc _ _ (gb _ _ upd_same))
      have n2:H2 p2=some (.tup [.str "no"]):=keepT_feed (F1.same G) S2 _ _ (gc _ _ upd_same)
      have l2:=S2 l _ nlf upd_same
      have:d=0∨d=1:=by omega
      rcases this with rfl | rfl
      · exact ⟨l,_,0,_,rfl,rfl,SqL.of l2,rfl,q (.ref p1) .yes H2 F2 (S1.trans ((SameBut.of G).trans S2)) (.yes y2) trivial (show (1:Int)≤room from r1) (show (1:Int)≤deep from d1)⟩
      · exact ⟨l,_,1,_,rfl,rfl,SqL.of l2,rfl,q (.ref p2) .no H2 F2 (S1.trans ((SameBut.of G).trans S2)) (.no n2) trivial (show (1:Int)≤room from r1) (show (1:Int)≤deep from d1)⟩
    refine ⟨_,rfl,a,_,rfl,N1.seq,rfl,_,rfl,?_⟩
    by_cases c7:V.int ((ns.map V.str).length:Int)=V.int 0
    · exact iteD c7 hY
    refine iteDF c7 ?_
    have nz:0 < ns.length:=by
      have z:¬ ((ns.map V.str).length:Int)=0:=fun z=>c7 (congrArg V.int z)
      rw [List.length_map] at z
      omega
    refine ⟨_,rfl,_,rfl,_,rfl,a,_,rfl,N1.seq,f,_,rfl,F1,(show (0:Int) < ((ns.map V.str).length:Int) by rw [List.length_map]; omega),by rw [List.length_map]; omega,fun d H2 d0 d9 F2 S2=>?_⟩
    obtain ⟨v,hv,vm⟩:=at_in (l:=ns.map V.str) (i:=d) d0 d9
    obtain ⟨x,hx,rfl⟩:=List.mem_map.mp vm
    refine (N1.feed F1 S2).ix hv ?_
    refine ⟨(by show 2≤sizeLine; decide),fun p hp=>?_⟩
    have G:=Same.new hp (.tup [.str "is", .str x])
    exact q (.ref p) (.is x) _ (F2.same G) (S1.trans (S2.trans (SameBut.of G))) (.is upd_same) hx (show (1:Int)≤room from r1) (show (1:Int)≤deep from d1)
  refine ⟨_,rfl,_,_,rfl,rfl,_,rfl,?_⟩
  by_cases c2:deep < 2
  · exact iteD c2 (iteT hX)
  refine iteDF c2 ?_
  refine ⟨_,rfl,rfl,_,rfl,?_⟩
  by_cases c3:V.int fm=V.int 9
  · exact iteD c3 hX
  refine iteDF c3 ?_
  refine ⟨_,rfl,_,_,rfl,rfl,_,rfl,?_⟩
  have d2:2≤deep:=by omega
  have dd:1≤deep - 1:=by omega
  have ddn:deep - 1+1≤(n:Int)+1:=by omega
  refine lf ?nt fun c4 hN=>?_
  case nt =>
    refine ⟨_,rfl,_,rfl,_,rfl,_,_,rfl,rfl,_,rfl,_,_,rfl,rfl,f,a,_,_,ns,rfl,F1,N1,nl,(show 1≤room - 1 by omega),by omega,dd,ddn,fun v1 t1 H3 F3 S3 T1 o1 z1 p1=>?_⟩
    refine ⟨(by show 2≤sizeLine; decide),fun p hp=>?_⟩
    have G5:=Same.new hp (.tup [.str "not", v1])
    refine q (.ref p) (.not t1) _ (F3.same G5) (S1.trans (S3.trans (SameBut.of G5))) (.not upd_same (T1.mono (keepT_same G5))) o1 ?_ ?_
    · show ((t1.size+1:Nat):Int)≤room
      omega
    · show ((t1.depth+1:Nat):Int)≤deep
      omega
  refine ⟨_,rfl,rfl,_,rfl,?_⟩
  by_cases c5:V.int fm=V.int 8
  · exact iteD c5 hN
  refine iteDF c5 ?_
  refine ⟨_,rfl,_,rfl,_,_,rfl,rfl,f,_,rfl,F1,(show (0:Int) < room - 2 by omega),(show room - 2 < 2 ^ 63 by omega),fun e H2 e0 e1 F2 S2=>?_⟩
  refine ⟨_,_,rfl,rfl,?_⟩
  have N2:=N1.feed F1 S2
  refine ⟨_,rfl,_,rfl,_,rfl,_,rfl,_,_,rfl,rfl,f,a,_,_,ns,rfl,F2,N2,nl,by omega,by omega,dd,ddn,fun v1 t1 H3 F3 S3 T1 o1 z1 p1=>?_⟩
  have N3:=N2.feed F2 S3
  refine ⟨(by show 4≤sizeLine; decide),fun l hl=>?_⟩
  obtain ⟨wd,hw,wm⟩:=at_in (l:=joinW.map V.str) (i:=fm % 4) (by omega) (by
    have:(joinW.map V.str).length=4:=by rfl
    omega)
  obtain ⟨x,hx,rfl⟩:=List.mem_map.mp wm
  refine ⟨_,rfl,_,_,rfl,rfl,(by show (0:Int) < _; decide),l,_,_,_,rfl,rfl,SqL.of upd_same,hw,?_⟩
  have G:=Same.new hl (.lst [.str "and", .str "or", .str "odd", .str "same"])
  refine ⟨_,rfl,_,rfl,_,rfl,_,rfl,_,rfl,_,_,rfl,rfl,_,rfl,_,_,rfl,rfl,_,rfl,_,_,rfl,rfl,f,a,_,_,ns,rfl,F3.same G,N3.same G,nl,(show 1≤room - 1 - (1+e) by omega),by omega,dd,ddn,fun v2 t2 H4 F4 S4 T2 o2 z2 p2=>?_⟩
  refine ⟨(by show 3≤sizeLine; decide),fun p hp=>?_⟩
  have G5:=Same.new hp (.tup [.str x,v1,v2])
  have T1':TreeAt H4 v1 t1:=(T1.mono (keepT_same G)).mono (keepT_feed (F3.same G) S4)
  refine q (.ref p) (.bin x t1 t2) _ (F4.same G5) (S1.trans (S2.trans (S3.trans ((SameBut.of G).trans (S4.trans (SameBut.of G5)))))) (.bin upd_same (T1'.mono (keepT_same G5)) (T2.mono (keepT_same G5))) ⟨hx,o1,o2⟩ ?_ ?_
  · show ((t1.size+t2.size+1:Nat):Int)≤room
    omega
  · show ((max t1.depth t2.depth+1:Nat):Int)≤deep
    omega
theorem tree_zero {f:Addr} {fd:FuncData}:FnOk P w K mg base CX0 2 f fd ["_law_feed_here", "_law_names_here", "_law_room", "_law_deep"] (spTree 0):=by
  have no:∀ vs H Q E,¬ spTree 0 vs H Q E:=fun vs H Q E h=>by
    obtain ⟨f,a,room,deep,ns,_,_,_,_,_,_,h1,h2,_⟩:=h
    omega
  exact ⟨fun vs H Q E h=>absurd h (no vs H Q E),fun A outer s H args us vs Q E _ _ _ _ h=>absurd h (no vs H Q E)⟩
theorem ok_l_tree {f:Addr} {fd:FuncData} (F:Fun K "_law_tree" "_law_tree" s_l_tree f fd) (hlen:mg "len" = none) (m:mg "_law_tree" = some (.ref f)) (C_l_take:Cal P w K mg base 1 "_law_take" ["_law_feed_here", "_law_many"] spTake) :
    ∀ n:Nat,FnOk P w K mg base CX0 (n+2) f fd ["_law_feed_here", "_law_names_here", "_law_room", "_law_deep"] (spTree n)
  | 0=>tree_zero
  | n+1=>tree_step F hlen C_l_take (Cal.of F (ok_l_tree F hlen m C_l_take n) m (fun _ _ _ _ _ _ us hl=>by obtain ⟨u0,u1,u2,u3,rfl⟩:=len4 hl; rfl))
def ifBody:Stmt→List Stmt
  | .If _ b _ _=>b
  | _=>[]
def ifTest:Stmt→Expr
  | .If c _ _ _=>c
  | _=>.Constant .none 0 ⟨0,0,0,0⟩
def valOf:Stmt→Expr
  | .Assign _ v _=>v
  | .Return (some v) _=>v
  | _=>.Constant .none 0 ⟨0,0,0,0⟩
def eltsOf:Expr→List Expr
  | .List es _=>es
  | .BinOp _ _ (.List es _) _=>es
  | .Subscript (.List es _) _ _=>es
  | _=>[]
abbrev stm (s:Stmt) (i:Nat):Stmt:=(defBody s).getD i (.Pass ⟨0,0,0,0⟩)
abbrev stmI (s:Stmt) (i j:Nat):Stmt:=(ifBody (stm s i)).getD j (.Pass ⟨0,0,0,0⟩)
def wordsA:List Str:=["is", "set", "say", "if", "go", "end", "num", "box", "op", "field", "holds", "claims"]
def wordsB:List Str:=["nota", "nob", "yesx", "andy", "ors", "oddly"]
def wordsC:List Str:=["samey", "rounds", "dues", "coins", "truex", "asks"]
@[irreducible] def namesA:List Expr:=eltsOf (valOf (stmI s_l_names 6 0))
@[irreducible] def namesB:List Expr:=eltsOf (valOf (stmI s_l_names 6 1))
@[irreducible] def namesC:List Expr:=eltsOf (valOf (stmI s_l_names 6 2))
theorem namesA_w:Consts namesA wordsA:=by
  unfold namesA
  exact .cons (.cons (.cons (.cons (.cons (.cons (.cons (.cons (.cons (.cons (.cons (.cons .nil)))))))))))
theorem namesB_w:Consts namesB wordsB:=by
  unfold namesB
  exact .cons (.cons (.cons (.cons (.cons (.cons .nil)))))
theorem namesC_w:Consts namesC wordsC:=by
  unfold namesC
  exact .cons (.cons (.cons (.cons (.cons (.cons .nil)))))
theorem names_body:∃ p1 p2 p3 p4 p5 p6 p7 p8 p9 q1 q2 q3 q4 q5,defBody s_l_names=[stm s_l_names 0,stm s_l_names 1,stm s_l_names 2,stm s_l_names 3,stm s_l_names 4,stm s_l_names 5,
    .If (ifTest (stm s_l_names 6)) [.Assign [.Name "_law_words" p1] (.List namesA p2) p3,.Assign [.Name "_law_words" p4] (.BinOp (.Name "_law_words" p5) .Add (.List namesB p6) p7) p8,.Assign [.Name "_law_words" p9] (.BinOp (.Name "_law_words" q1) .Add (.List namesC q2) q3) q4,stmI s_l_names 6 3] [] q5,stm s_l_names 7] :=
  ⟨_,_,_,_,_,_,_,_,_,_,_,_,_,_,by with_unfolding_all rfl⟩
def LTR:Str := "bcdfghjklmnpqrstvwxz"
theorem ltr_na:∀ c ∈ LTR.cps.toList,c ≠ 97:=by decide +kernel
theorem ltr_ok:∀ c ∈ LTR.cps.toList,97≤c∧c≤122:=by decide +kernel
def kept:List Str:=["yes", "no", "not", "and", "or", "odd", "same", "round", "due", "asked", "true", "coin"]
def NmK (x:Str):Prop:=NmOk x∧1≤x.length∧x.length≤6∧x ∉ kept
theorem words_ok0:∀ x ∈ (wordsA++wordsB)++wordsC,(x.length≤20∧(∀ c ∈ x.cps.toList,97≤c∧c≤122)∧x ≠ "aa")∧1≤x.length∧x.length≤6∧x ∉ kept:=by decide +kernel
theorem words_ok (x:Str) (h:x ∈ (wordsA++wordsB)++wordsC):NmK x:=words_ok0 x h
theorem kept_out:∀ x ∈ kept,∃ c ∈ x.cps.toList,c ∉ LTR.cps.toList:=by decide +kernel
def spNamesN:Sp:=fun vs H Q _=>∃ (f:Addr) (m:Int),vs=[.ref f,.int m]∧FeedAt H f∧0≤m∧m≤6∧∀ (l:Addr) (ns:List Str) (H':Hp),H l=none→l ≠ f→H' l=some (.lst (ns.map V.str))→ns.length=m.toNat→(∀ x ∈ ns,NmK x)→ns.Nodup→FeedAt H' f→SameBut f H H'→Q (.ref l) H'
theorem words_out:∀ x ∈ (wordsA++wordsB)++wordsC,∃ c ∈ x.cps.toList,c ∉ LTR.cps.toList:=by decide +kernel
theorem ltr_inj:∀ a b:Fin 20,LTR.cps.toList[a.val]?=LTR.cps.toList[b.val]?→a=b:=by decide +kernel
theorem nd_names {ns:List Str} {t:Nat} {u:Int} (u0:0≤u) (u20:u < 20) (hl:ns.length≤6) (h:∀ (k:Nat) x,ns[k]?=some x→x.cps.toList[t]?=LTR.cps.toList[((u+7*(k:Int)) % 20).toNat]?):ns.Nodup:=by
  refine List.pairwise_iff_getElem.mpr fun i j hi hj ij e=>?_
  have h1:=h i _ (List.getElem?_eq_getElem hi)
  have h2:=h j _ (List.getElem?_eq_getElem hj)
  rw [e] at h1
  have h3:=h1.symm.trans h2
  have h4:=ltr_inj ⟨((u+7*(i:Int)) % 20).toNat,by omega⟩ ⟨((u+7*(j:Int)) % 20).toNat,by omega⟩ h3
  have h5:=congrArg Fin.val h4
  simp only at h5
  omega
theorem nd_set {ns:List Str} {x:Str} {j:Nat} (h:ns.Nodup) (hx:x ∉ ns):(ns.set j x).Nodup:=by
  refine List.pairwise_iff_getElem.mpr fun a b ha hb ab=>?_
  rw [List.length_set] at ha hb
  rw [List.getElem_set,List.getElem_set]
  split
  · split
    · omega
    · intro e
      exact hx (e ▸ List.getElem_mem hb)
  · split
    · intro e
      exact hx (e ▸ List.getElem_mem ha)
    · exact List.pairwise_iff_getElem.mp h a b ha hb ab
theorem at_get {α:Type} {l:List α} {i:Int} {v:α} (h0:0≤i) (h:atI l i=some v):l[i.toNat]?=some v:=by
  have ek:((i.toNat:Nat):Int)=i:=by omega
  by_cases c:i.toNat < l.length
  · have q:atI l ((i.toNat:Nat):Int)=some l[i.toNat]:=atI_nat (List.getElem?_eq_getElem c)
    rw [ek,h] at q
    rw [List.getElem?_eq_getElem c]
    exact q.symm
  · exfalso
    unfold atI ixN at h
    rw [if_pos h0,if_neg (by omega)] at h
    cases h
theorem sum_ones {zs:List Str} (h:∀ z ∈ zs,z.length=1∧∀ c ∈ z.cps.toList,c ∈ LTR.cps.toList):(zs.map (·.length)).sum=zs.length:=by
  induction zs with
  | nil=>rfl
  | cons a r ih =>
    rw [List.map_cons,List.sum_cons,ih fun z hz=>h z (List.mem_cons_of_mem _ hz),(h a List.mem_cons_self).1,List.length_cons]
    omega
theorem sc_l_names:FnScope ["_law_feed_here", "_law_many", "_law_letters", "_law_common", "_law_at", "_law_first", "_law_found", "_law_k", "_law_tail", "_law_sign", "_law_words"] ["_law_feed_here", "_law_many"] (defScope s_l_names):=⟨rfl,rfl,rfl,by decide +kernel,rfl,by decide +kernel,by decide +kernel⟩
theorem feed_upd {H:Hp} {f p:Addr} {o:HO} (F:FeedAt H f) (h:p ≠ f):FeedAt (upd H p o) f:=by
  obtain ⟨x,t,e,r⟩:=F
  exact ⟨x,t,by rw [upd_ne (Ne.symm h)]; exact e,r⟩
theorem ok_l_names {f:Addr} {fd:FuncData} (F:Fun K "_law_names" "_law_names" s_l_names f fd) (hrange:mg "range" = none) (C_l_take:Cal P w K mg base 1 "_law_take" ["_law_feed_here", "_law_many"] spTake):FnOk P w K mg base CX0 2 f fd ["_law_feed_here", "_law_many"] spNamesN:=by
  refine F.ok sc_l_names (fun vs H Q E h=>?_) (fun cdv A outer s H vs Q E hr h=>?_)
  · obtain ⟨f,m,rfl,_⟩:=h
    rfl
  obtain ⟨f,m,rfl,hF,m0,m6,q⟩:=h
  obtain ⟨p1,p2,p3,p4,p5,p6,p7,p8,p9,q1,q2,q3,q4,q5,ebody⟩:=names_body
  rw [ebody]
  refine ⟨_,(pss_cons (ps_set (i:=2) sc_l_names.nd rfl (Or.inr rfl) pe_str)
      (pss_cons (ps_set (i:=3) sc_l_names.nd rfl (Or.inl rfl) (pe_bm PySem.F.plainAttrs_str PySem.F.slot_str_join PySem.F.type_str_join mt_join pe_str (pa_cons (pe_comp (N:=["_law_letters", "_law_feed_here"]) (ix:=[2,0]) rfl
          (CompScope.two (by with_unfolding_all rfl) (by decide) rfl (by decide) rfl (by decide +kernel) (by first | exact Or.inl rfl | exact Or.inr rfl) (by with_unfolding_all rfl) (by with_unfolding_all rfl) (by with_unfolding_all rfl) (by with_unfolding_all rfl) rfl rfl (by with_unfolding_all rfl) rfl rfl) rfl
          (pi_range1 rfl hrange (pa_cons pe_int pa_nil))
          (fun _ _ _=>pb_all (pe_ix ix_str (pv 1) (pe_cal C_l_take hr (by decide) rfl (pa_cons (pv 2) (pa_cons pe_int pa_nil))) (fun _ _=>rfl)))) pa_nil)))
      (pss_cons (ps_set (i:=4) sc_l_names.nd rfl (Or.inl rfl) (pe_cal C_l_take hr (by decide) rfl (pa_cons (pv 0) (pa_cons pe_int pa_nil))))
      (pss_cons (ps_set (i:=5) sc_l_names.nd rfl (Or.inl rfl) (pe_cal C_l_take hr (by decide) rfl (pa_cons (pv 0) (pa_cons pe_int pa_nil))))
      (pss_cons (ps_set (i:=6) sc_l_names.nd rfl (Or.inl rfl) (pe_lst pa_nil))
      (pss_cons (ps_for PassesOwn.never rfl (pi_range1 rfl hrange (pa_cons (pv 1) pa_nil)) (pg_name (i:=7) sc_l_names.nd rfl (Or.inl rfl)) (pss_cons (ps_set (i:=8) sc_l_names.nd rfl (Or.inl rfl) (pe_op op_mod (pe_cal C_l_take hr (by decide) rfl (pa_cons (pv 0) (pa_cons (pe_op op_sub pe_int (pv 4)) pa_nil))) pe_int))
        (pss_cons (ps_set (i:=9) sc_l_names.nd rfl (Or.inl rfl) (pe_ix ix_str (pv 2) (pe_op op_mod (pe_op op_add (pv 5) (pe_op op_mul pe_int (pv 7))) pe_int) (fun _ _=>rfl)))
        (pss_one (ps_expr (pe_bm PySem.F.plainAttrs_list PySem.F.slot_list_append PySem.F.type_list_append mt_append (pv 6) (pa_cons (pe_op op_add_str (pe_op op_add_str (pe_slice sl_str (pv 3) po_none (po_some (pv 4))) (pv 9)) (pe_slice sl_str (pv 3) (po_some (pv 4)) (po_some (pe_op op_add (pv 4) (pv 8))))) pa_nil)))))))
      (pss_cons (ps_if (PW.pt (pw_and (pt_cmpR op_gt (pv 1) pe_int (nomark _)) (pw_and1 (pt_cmpR op_eq (pe_cal C_l_take hr (by decide) rfl (pa_cons (pv 0) (pa_cons pe_int pa_nil))) pe_int (nomark _))))) (pss_cons (ps_set (i:=10) sc_l_names.nd rfl (Or.inl rfl) (pe_lst (pa_consts namesA_w)))
        (pss_cons (ps_set (i:=10) sc_l_names.nd rfl (Or.inl rfl) (pe_op op_cat (pv 10) (pe_lst (pa_consts namesB_w))))
        (pss_cons (ps_set (i:=10) sc_l_names.nd rfl (Or.inl rfl) (pe_op op_cat (pv 10) (pe_lst (pa_consts namesC_w))))
        (pss_one (ps_asg (pe_ix ix_list (pv 10) (pe_cal C_l_take hr (by decide) rfl (pa_cons (pv 0) (pa_cons pe_int pa_nil))) (fun _ _=>rfl)) (pg_sub (pv 6) (pe_cal C_l_take hr (by decide) rfl (pa_cons (pv 0) (pa_cons (pv 1) pa_nil))) set_list)))))) pss_nil)
      (pss_one (ps_ret (pv 6)))))))))),?_⟩
  refine ⟨rfl,5,rfl,by decide,by decide,fun D hD=>?_⟩
  have Df:=hF.ne hD
  have L20:LTR.cps.toList.length=20:=by decide +kernel
  refine comp_range (fun i H'=>∃ zs:List Str,H' D=some (.lst (zs.map V.str))∧zs.length=i∧(∀ z ∈ zs,z.length=1∧∀ c ∈ z.cps.toList,c ∈ LTR.cps.toList)∧FeedAt H' f∧SameBut f H H') ⟨[],by rw [upd_same]; rfl,rfl,by simp,hF.same (Same.new hD _),SameBut.of (Same.new hD _)⟩ ?_ ?_
  · rintro i H3 hi ⟨zs,hl,zl,z1,F3,S3⟩
    have i5:i < 5:=hi
    refine ⟨_,rfl,_,rfl,f,20,rfl,F3,by decide,by decide,fun d H4 d0 d26 F4 S4=>?_⟩
    obtain ⟨c,hc,hm⟩:=at_in (l:=LTR.cps.toList) (i:=d) d0 (by rw [L20]; exact d26)
    have hD4:H4 D=some (.lst (zs.map V.str)):=S4 D _ Df hl
    refine ⟨_,d,c,rfl,rfl,small (by decide +kernel),hc,_,hD4,?_,Nx.of hi ⟨zs++[⟨#[c]⟩],?_,?_,?_,feed_upd F4 Df,?_⟩⟩
    · rw [List.length_map,zl]
      exact small1000 (Nat.le_of_lt (Nat.lt_trans i5 (by decide)))
    · rw [upd_same,List.map_append]
      rfl
    · rw [List.length_append,List.length_singleton,zl]
    · intro z hz
      rcases List.mem_append.mp hz with h | h
      · exact z1 z h
      · rw [List.mem_singleton.mp h]
        refine ⟨rfl,fun c' hc'=>?_⟩
        have:c'=c:=by simpa using hc'
        subst this
        exact hm
    · intro b o hb e
      rw [upd_ne (ne_of_none e hD)]
      exact S4 b o hb (S3 b o hb e)
  rintro H3 ⟨zs,hl,zl,z1,F3,S3⟩
  have sl:=sum_ones z1
  have zl5:zs.length=5:=zl
  refine ⟨_,D,zs,rfl,rfl,SqL.of hl,(by decide +kernel),by omega,?_⟩
  have jl:(Txt.join "" zs).length=5:=by
    have:=size_glued "" zs
    have e0:(("" : Str)).length=0:=by decide +kernel
    rw [e0,Nat.mul_zero] at this
    show (Builtin.Str.glued "" zs).length=5
    omega
  have jc:∀ c ∈ (Txt.join "" zs).cps.toList,c ∈ LTR.cps.toList:=fun c hc=>by
    obtain ⟨z,hz,h⟩:=mem_join0 hc
    exact (z1 z hz).2 c h
  generalize Txt.join "" zs=cm at jl jc
  refine ⟨_,rfl,f,6,rfl,F3,by decide,by decide,fun t H4 t0 t6 F4 S4=>?_⟩
  refine ⟨_,rfl,f,20,rfl,F4,by decide,by decide,fun u H5 u0 u20 F5 S5=>?_⟩
  refine ⟨(by show 0≤sizeLine; decide),fun L hL=>?_⟩
  have S05:SameBut f H H5:=S3.trans (S4.trans S5)
  have Lf:=F5.ne hL
  have L0:H L=none:=by
    cases e:H L with
    | none=>rfl
    | some o=>rw [S05 L o Lf e] at hL; cases hL
  refine ⟨_,rfl,m,rfl,by omega,by omega,for_range (fun i σ H'=>∃ (x7 x8 x9:Option V) (ns:List Str),σ=[some (.ref f),some (.int m),some (.str LTR),some (.str cm),some (.int t),some (.int u),some (.ref L),x7,x8,x9,none]∧H' L=some (.lst (ns.map V.str))∧ns.length=i∧(∀ x ∈ ns,NmK x)∧(∀ x ∈ ns,∀ c ∈ x.cps.toList,c ∈ LTR.cps.toList)∧(∀ (k:Nat) x,ns[k]?=some x→x.cps.toList[t.toNat]?=LTR.cps.toList[((u+7*(k:Int)) % 20).toNat]?)∧FeedAt H' f∧SameBut f H H')
    ⟨_,_,_,[],rfl,by rw [upd_same]; rfl,rfl,by simp,by simp,by simp,F5.same (Same.new hL _),S05.trans (SameBut.of (Same.new hL _))⟩ ?_ ?_⟩
  · rintro i σ H6 hi ⟨x7,x8,x9,ns,rfl,hns,nl,nok,nlt,nat,F6,S6⟩
    refine ⟨_,rfl,_,rfl,_,_,rfl,rfl,f,_,rfl,F6,(Int.sub_pos_of_lt t6),(Int.lt_of_le_of_lt (Int.sub_le_self 6 t0) (by decide)),fun d H7 d0 d1 F7 S7=>?_⟩
    refine ⟨_,_,rfl,rfl,(by show (0:Int) < _; decide),?_⟩
    obtain ⟨c,hc,hm⟩:=at_in (l:=LTR.cps.toList) (i:=(u+7*(0+(i:Int))) % 20) (Int.emod_nonneg _ (by decide)) (by rw [L20]; exact Int.emod_lt_of_pos _ (by decide))
    refine ⟨_,rfl,_,rfl,_,rfl,_,_,rfl,rfl,?_,_,_,rfl,rfl,_,_,rfl,rfl,(by show (0:Int) < _; decide),_,_,c,rfl,rfl,small (by decide +kernel),hc,?_⟩
    · exact .inl ⟨by decide,by decide⟩
    have hL7:=S7 L _ Lf hns
    have z1:(Txt.slice cm none (some t)).length≤cm.length:=Txt.slice_le cm none (some t)
    have z2:(Txt.slice cm (some t) (some (t+d % 3))).length≤cm.length:=Txt.slice_le cm _ _
    have z3:((⟨#[c]⟩:Str)).length=1:=rfl
    refine ⟨_,rfl,.inl ⟨rfl,_,SqL.of hL7⟩,?_⟩
    refine ⟨_,rfl,_,rfl,_,rfl,_,rfl,small (by rw [jl]; decide),_,rfl,_,_,rfl,rfl,small (by rw [z3]; omega),?_⟩
    refine ⟨_,rfl,_,rfl,_,rfl,_,rfl,_,rfl,_,_,rfl,rfl,_,rfl,_,rfl,small (by rw [jl]; decide),_,_,rfl,rfl,small (by rw [Str.length_append,z3]; omega),?_⟩
    refine ⟨L,_,_,rfl,rfl,hL7,?_,?_⟩
    · rw [List.length_map]
      exact small1000 (by omega)
    refine ⟨_,_,_,ns++[(Txt.slice cm none (some t)++⟨#[c]⟩)++Txt.slice cm (some t) (some (t+d % 3))],rfl,?_,?_,?_,?_,?_,feed_upd F7 Lf,?_⟩
    · rw [upd_same,List.map_append]
      rfl
    · rw [List.length_append,List.length_singleton,nl]
    · intro x hx
      rcases List.mem_append.mp hx with h | h
      · exact nok x h
      · rw [List.mem_singleton.mp h]
        have old:NmOk ((Txt.slice cm none (some t)++⟨#[c]⟩)++Txt.slice cm (some t) (some (t+d % 3))):=by
          refine ⟨?_,fun c' hc'=>?_,fun ea=>?_⟩
          · rw [Str.length_append,Str.length_append,z3]
            omega
          rotate_left
          · have cm1:c ∈ (((Txt.slice cm none (some t)++⟨#[c]⟩)++Txt.slice cm (some t) (some (t+d % 3)):Str)).cps.toList:=by
              rw [Str.cps_append,Str.cps_append]
              simp
            rw [ea] at cm1
            exact ltr_na c hm ((by decide +kernel:∀ c ∈ (("aa" : Str)).cps.toList,c=97) c cm1)
          · rcases mem_append hc' with h | h
            · rcases mem_append h with h | h
              · exact ltr_ok _ (jc _ (mem_slice h))
              · have:c'=c:=by simpa using h
                subst this
                exact ltr_ok _ hm
            · exact ltr_ok _ (jc _ (mem_slice h))
        have cl:cm.cps.toList.length=5:=jl
        have e1:(Txt.slice cm none (some t)).length=t.toNat:=by
          have es:Txt.slice cm none (some t)=⟨((cm.cps.toList.drop 0).take (t - 0).toNat).toArray⟩:=StrLaws.sliceText_to ⟨t0,by omega⟩
          rw [es]
          show (((cm.cps.toList.drop 0).take (t - 0).toNat).toArray).size=_
          simp only [List.drop_zero,Int.sub_zero,List.size_toArray,List.length_take]
          omega
        have e2:(Txt.slice cm (some t) (some (t+d % 3))).length≤(d % 3).toNat:=by
          have es:Txt.slice cm (some t) (some (t+d % 3))=_:=StrLaws.sliceText_plain ⟨t0,by omega,by omega⟩
          rw [es]
          show (List.toArray _).size≤_
          simp only [List.size_toArray,List.length_take]
          omega
        refine ⟨old,?_,?_,fun hk=>?_⟩
        · rw [Str.length_append,Str.length_append,z3]
          omega
        · rw [Str.length_append,Str.length_append,z3]
          omega
        · obtain ⟨c',hc',hn⟩:=kept_out _ hk
          refine hn ?_
          rcases mem_append hc' with h | h
          · rcases mem_append h with h | h
            · exact jc _ (mem_slice h)
            · have:c'=c:=by simpa using h
              subst this
              exact hm
          · exact jc _ (mem_slice h)
    · intro x hx c' hc'
      rcases List.mem_append.mp hx with h | h
      · exact nlt x h c' hc'
      · rw [List.mem_singleton.mp h] at hc'
        rcases mem_append hc' with h | h
        · rcases mem_append h with h | h
          · exact jc _ (mem_slice h)
          · have:c'=c:=by simpa using h
            subst this
            exact hm
        · exact jc _ (mem_slice h)
    · intro k x hx
      by_cases ck:k < ns.length
      · rw [List.getElem?_append_left ck] at hx
        exact nat k x hx
      · have kl:k < (ns++[(Txt.slice cm none (some t)++⟨#[c]⟩)++Txt.slice cm (some t) (some (t+d % 3))]).length:=(List.getElem?_eq_some_iff.mp hx).1
        rw [List.length_append,List.length_singleton] at kl
        have ek:k=i:=by omega
        subst ek
        rw [List.getElem?_append_right (by omega),nl,Nat.sub_self] at hx
        have ex:(Txt.slice cm none (some t)++⟨#[c]⟩)++Txt.slice cm (some t) (some (t+d % 3))=x:=Option.some.inj hx
        rw [← ex]
        have cl:cm.cps.toList.length=5:=jl
        have es:Txt.slice cm none (some t)=⟨((cm.cps.toList.drop 0).take (t - 0).toNat).toArray⟩:=StrLaws.sliceText_to ⟨t0,by omega⟩
        have el:(Txt.slice cm none (some t)).cps.toList.length=t.toNat:=by
          rw [es]
          simp only [List.drop_zero,Int.sub_zero,List.length_take]
          omega
        have ea:((Txt.slice cm none (some t)++⟨#[c]⟩)++Txt.slice cm (some t) (some (t+d % 3))).cps.toList=(Txt.slice cm none (some t)).cps.toList++([c]++(Txt.slice cm (some t) (some (t+d % 3))).cps.toList):=by
          rw [Str.cps_append,Str.cps_append]
          simp
        rw [ea,List.getElem?_append_right (by omega),el,Nat.sub_self]
        have hc2:LTR.cps.toList[((u+7*(0+(k:Int))) % 20).toNat]?=some c:=at_get (Int.emod_nonneg _ (by decide)) hc
        rw [Int.zero_add] at hc2
        rw [hc2]
        rfl
    · intro b o hb e
      rw [upd_ne (ne_of_none e L0)]
      exact S7 b o hb (S6 b o hb e)
  · rintro σ H6 ⟨x7,x8,x9,ns,rfl,hns,nl,nok,nlt,nat,F6,S6⟩
    have nnd:ns.Nodup:=nd_names u0 u20 (by omega) nat
    refine ⟨_,rfl,_,_,rfl,rfl,_,rfl,?_⟩
    have fin:∀ H':Hp,∀ ns:List Str,H' L=some (.lst (ns.map V.str))→ns.length=m.toNat→(∀ x ∈ ns,NmK x)→ns.Nodup→FeedAt H' f→SameBut f H H'→Q (.ref L) H':=fun H' ns a b c nd d e=>q L ns H' L0 Lf a b c nd d e
    by_cases c1:(0:Int) < m
    · refine iteD c1 ?_
      refine ⟨_,rfl,f,3,rfl,F6,by decide,by decide,fun d H7 d0 d1 F7 S7=>?_⟩
      refine ⟨rfl,_,rfl,?_⟩
      have hL7:=S7 L _ Lf hns
      refine ite2 (fun _=>?_) (fun _=>?_)
      · refine ⟨(by show 12≤sizeLine; decide),fun l1 h1=>?_⟩
        refine ⟨_,rfl,(by show 6≤sizeLine; decide),fun l2 h2=>?_⟩
        refine ⟨l1,l2,wordsA.map V.str,wordsB.map V.str,rfl,rfl,Same.new h2 _ _ _ upd_same,upd_same,(by show 18≤sizeLine; decide),fun l3 h3=>?_⟩
        refine ⟨_,rfl,(by show 6≤sizeLine; decide),fun l4 h4=>?_⟩
        refine ⟨l3,l4,wordsA.map V.str++wordsB.map V.str,wordsC.map V.str,rfl,rfl,Same.new h4 _ _ _ upd_same,upd_same,(by show 24≤sizeLine; decide),fun l5 h5=>?_⟩
        have G:=(Same.new h1 (.lst (wordsA.map V.str))).trans ((Same.new h2 (.lst (wordsB.map V.str))).trans ((Same.new h3 (.lst (wordsA.map V.str++wordsB.map V.str))).trans ((Same.new h4 (.lst (wordsC.map V.str))).trans (Same.new h5 (.lst ((wordsA.map V.str++wordsB.map V.str)++wordsC.map V.str))))))
        have F8:=F7.same G
        have n5:=(F7.same ((Same.new h1 (.lst (wordsA.map V.str))).trans ((Same.new h2 (.lst (wordsB.map V.str))).trans ((Same.new h3 (.lst (wordsA.map V.str++wordsB.map V.str))).trans (Same.new h4 (.lst (wordsC.map V.str))))))).ne h5
        refine ⟨_,rfl,_,rfl,f,24,rfl,F8,by decide,by decide,fun e H9 e0 e1 F9 S9=>?_⟩
        obtain ⟨v,hv,vm⟩:=at_in (l:=(wordsA.map V.str++wordsB.map V.str)++wordsC.map V.str) (i:=e) e0 (by
          have:((wordsA.map V.str++wordsB.map V.str)++wordsC.map V.str).length=24:=by rfl
          omega)
        rw [← List.map_append,← List.map_append] at vm
        obtain ⟨x,hx,rfl⟩:=List.mem_map.mp vm
        refine ⟨l5,_,e,_,rfl,rfl,SqL.of (S9 l5 _ n5 upd_same),hv,?_⟩
        refine ⟨_,rfl,_,rfl,_,rfl,f,m,rfl,F9,c1,by omega,fun j H10 j0 j1 F10 S10=>?_⟩
        have hL10:=S10 L _ Lf (S9 L _ Lf (G L _ hL7))
        refine ⟨L,_,j,j.toNat,rfl,rfl,hL10,?_,?_⟩
        · have jl:j < ((ns.map V.str).length:Int):=by rw [List.length_map]; omega
          unfold ixN
          rw [if_pos j0,if_pos jl]
        refine ⟨_,rfl,?_⟩
        refine fin _ (ns.set j.toNat x) (by rw [upd_same,List.map_set]) (by rw [List.length_set]; exact nl) ?_ ?_ (feed_upd F10 Lf) ?_
        · intro y hy
          rcases List.mem_or_eq_of_mem_set hy with h | h
          · exact nok y h
          · rw [h]
            exact words_ok x hx
        · refine nd_set nnd fun hm=>?_
          obtain ⟨c,c1,c2⟩:=words_out x hx
          exact c2 (nlt x hm c c1)
        · intro b o hb e'
          rw [upd_ne (ne_of_none e' L0)]
          exact S10 b o hb (S9 b o hb (G b o (S7 b o hb (S6 b o hb e'))))
      · refine ⟨_,rfl,?_⟩
        exact fin H7 ns hL7 nl nok nnd F7 (S6.trans S7)
    · refine iteDF c1 ?_
      refine iteF ?_
      refine ⟨_,rfl,?_⟩
      exact fin H6 ns hns nl nok nnd F6 S6
def joinB (o:Str) (p q:Bool):Bool:=if o = "and" then p && q else if o = "or" then p || q else if o = "odd" then p != q else p == q
def Tr.holds (ns:List Str) (st:List Int):Tr→Bool
  | .is x=>match posOf x ns with | some j=>decide (st.getD j 0=1) | none=>false
  | .yes=>true
  | .no=>false
  | .not a=>!a.holds ns st
  | .bin o a b=>joinB o (a.holds ns st) (b.holds ns st)
theorem posOf_mem {x:Str}:∀ {ns:List Str},x ∈ ns→∃ j,posOf x ns=some j∧j < ns.length
  | [],h=>by cases h
  | a::r,h=>by
    unfold posOf
    by_cases c:a=x
    · exact ⟨0,by rw [if_pos c],by simp⟩
    · rw [if_neg c]
      rcases List.mem_cons.mp h with e | e
      · exact absurd e.symm c
      · obtain ⟨j,h1,h2⟩:=posOf_mem e
        exact ⟨j+1,by rw [h1]; rfl,by simpa using h2⟩
def spJoined:Sp:=fun vs H Q _=>∃ (o:Str) (p q:Bool),vs=[.str o,.bl p,.bl q]∧Q (.bl (joinB o p q)) H
theorem sc_joined:FnScope ["word", "first", "second"] ["word", "first", "second"] (defScope s_joined):=⟨rfl,rfl,rfl,by decide +kernel,rfl,by decide +kernel,by decide +kernel⟩
theorem str_inj {a b:Str} (h:V.str a=V.str b):a=b:=by injection h
theorem ok_joined {f:Addr} {fd:FuncData} (F:Fun K "joined" "joined" s_joined f fd):FnOk P w K mg base CX0 1 f fd ["word", "first", "second"] spJoined:=by
  refine F.ok sc_joined (fun vs H Q E h=>?_) (fun cdv A outer s H vs Q E hr h=>?_)
  · obtain ⟨o,p,q,rfl,_⟩:=h
    rfl
  obtain ⟨o,p,q,rfl,k⟩:=h
  refine ⟨_,(pss_cons (ps_if (pt_cmpR op_eq (pv 0) pe_str (nomark _)) (pss_one (ps_ret (pe_and (pv 1) (pe_one (pv 2))))) pss_nil)
      (pss_cons (ps_if (pt_cmpR op_eq (pv 0) pe_str (nomark _)) (pss_one (ps_ret (pe_or (pv 1) (pe_one (pv 2))))) pss_nil)
      (pss_cons (ps_if (pt_cmpR op_eq (pv 0) pe_str (nomark _)) (pss_one (ps_ret (pe_cmpR op_ne (pv 1) (pv 2) (nomark _)))) pss_nil)
      (pss_one (ps_ret (pe_cmpR op_eq (pv 1) (pv 2) (nomark _))))))),?_⟩
  refine ⟨_,rfl,rfl,_,rfl,?_⟩
  by_cases c1:V.str o=V.str "and"
  · refine iteD c1 ?_
    have e:joinB o p q=(p && q):=by unfold joinB; rw [if_pos (str_inj c1)]
    rw [e] at k
    refine ⟨_,rfl,p,rfl,?_⟩
    cases p with
    | true=>exact iteT ⟨_,rfl,by simpa using k⟩
    | false=>exact iteF (by simpa using k)
  refine iteDF c1 ?_
  have n1:¬ o = "and" := fun z=>c1 (by rw [z])
  refine ⟨_,rfl,rfl,_,rfl,?_⟩
  by_cases c2:V.str o=V.str "or"
  · refine iteD c2 ?_
    have e:joinB o p q=(p || q):=by unfold joinB; rw [if_neg n1,if_pos (str_inj c2)]
    rw [e] at k
    refine ⟨_,rfl,p,rfl,?_⟩
    cases p with
    | true=>exact iteT (by simpa using k)
    | false=>exact iteF ⟨_,rfl,by simpa using k⟩
  refine iteDF c2 ?_
  have n2:¬ o = "or" := fun z=>c2 (by rw [z])
  refine ⟨_,rfl,rfl,_,rfl,?_⟩
  by_cases c3:V.str o=V.str "odd"
  · refine iteD c3 ?_
    have e:joinB o p q=(p != q):=by unfold joinB; rw [if_neg n1,if_neg n2,if_pos (str_inj c3)]
    rw [e] at k
    refine ⟨_,rfl,_,rfl,rfl,?_⟩
    have e2:(!decide (V.bl p=V.bl q))=(p != q):=by cases p <;> cases q <;> decide
    show Q (.bl (!decide (V.bl p=V.bl q))) H
    rw [e2]
    exact k
  refine iteDF c3 ?_
  have n3:¬ o = "odd" := fun z=>c3 (by rw [z])
  have e:joinB o p q=(p == q):=by unfold joinB; rw [if_neg n1,if_neg n2,if_neg n3]
  rw [e] at k
  refine ⟨_,rfl,_,rfl,rfl,?_⟩
  have e2:decide (V.bl p=V.bl q)=(p == q):=by cases p <;> cases q <;> decide
  show Q (.bl (decide (V.bl p=V.bl q))) H
  rw [e2]
  exact k
def spHolds (n:Nat):Sp:=fun vs H Q _=>∃ (v:V) (t:Tr) (a b:Addr) (ns:List Str) (st:List Int),vs=[v,.ref a,.ref b]∧TreeAt H v t∧t.ok ns∧t.depth≤n∧NamesAt H a ns∧H b=some (.tup (st.map V.int))∧st.length=ns.length∧Q (.bl (t.holds ns st)) H
theorem sc_holds_at:FnScope ["tree", "switches", "setting", "word", "first"] ["tree", "switches", "setting"] (defScope s_holds_at):=⟨rfl,rfl,rfl,by decide +kernel,rfl,by decide +kernel,by decide +kernel⟩
theorem holds_step {n:Nat} {f:Addr} {fd:FuncData} (F:Fun K "holds_at" "holds_at" s_holds_at f fd) (C_joined:Cal P w K mg base 1 "joined" ["word", "first", "second"] spJoined) (C_holds_at:Cal P w K mg base (n+2) "holds_at" ["tree", "switches", "setting"] (spHolds n)):FnOk P w K mg base CX0 (n+3) f fd ["tree", "switches", "setting"] (spHolds (n+1)):=by
  refine F.ok sc_holds_at (fun vs H Q E h=>?_) (fun cdv A outer s H vs Q E hr h=>?_)
  · obtain ⟨v,t,a,b,ns,st,rfl,_⟩:=h
    rfl
  obtain ⟨v,t,a,b,ns,st,rfl,T,ok,dn,hN,hb,sl,k⟩:=h
  refine ⟨_,(pss_cons (ps_set (i:=3) sc_holds_at.nd rfl (Or.inl rfl) (pe_ix ix_tup (pv 0) pe_int (fun _ _=>rfl)))
      (pss_cons (ps_if (pt_cmpR op_eq (pv 3) pe_str (nomark _)) (pss_one (ps_ret (pe_cmpR op_eq (pe_ix ix_tup (pv 2) (pe_index PySem.F.plainAttrs_list PySem.F.plainAttrs_tuple (pv 1) (pa_cons (pe_ix ix_tup (pv 0) pe_int (fun _ _=>rfl)) pa_nil)) (fun _ _=>rfl)) pe_int (nomark _)))) pss_nil)
      (pss_cons (ps_if (PW.pt (pw_or (pt_cmpR op_eq (pv 3) pe_str (nomark _)) (pw_or1 (pt_cmpR op_eq (pv 3) pe_str (nomark _))))) (pss_one (ps_ret (pe_cmpR op_eq (pv 3) pe_str (nomark _)))) pss_nil)
      (pss_cons (ps_set (i:=4) sc_holds_at.nd rfl (Or.inl rfl) (pe_cal C_holds_at hr (Nat.le_refl _) rfl (pa_cons (pe_ix ix_tup (pv 0) pe_int (fun _ _=>rfl)) (pa_cons (pv 1) (pa_cons (pv 2) pa_nil)))))
      (pss_cons (ps_if (pt_cmpR op_eq (pv 3) pe_str (nomark _)) (pss_one (ps_ret (pe_not (pv 4)))) pss_nil)
      (pss_one (ps_ret (pe_cal C_joined hr (by omega) rfl (pa_cons (pv 3) (pa_cons (pv 4) (pa_cons (pe_cal C_holds_at hr (Nat.le_refl _) rfl (pa_cons (pe_ix ix_tup (pv 0) pe_int (fun _ _=>rfl)) (pa_cons (pv 1) (pa_cons (pv 2) pa_nil)))) pa_nil))))))))))),?_⟩
  cases T with
  | @is p x e =>
    refine ⟨_,rfl,p,_,0,_,rfl,rfl,SqT.of e,rfl,?_⟩
    refine ⟨_,rfl,rfl,_,rfl,?_⟩
    refine iteD rfl ?_
    obtain ⟨j,hj,jl⟩:=posOf_mem ok
    have jl':j < st.length:=by omega
    refine ⟨_,rfl,_,rfl,a,ns,rfl,hN,_,rfl,p,_,1,_,rfl,rfl,SqT.of e,rfl,rfl,x,j,rfl,hj,b,_,(j:Int),.int st[j],rfl,rfl,SqT.of hb,?_,rfl,?_⟩
    · refine atI_nat ?_
      rw [List.getElem?_map,List.getElem?_eq_getElem jl']
      rfl
    · have e1:(Tr.is x).holds ns st=decide (V.int st[j]=V.int 1):=by
        show (match posOf x ns with | some j=>decide (st.getD j 0=1) | none=>false)=_
        rw [hj]
        show decide (st.getD j 0=1)=_
        rw [List.getD_eq_getElem?_getD,List.getElem?_eq_getElem jl']
        simp
      rw [e1] at k
      exact k
  | @yes p e =>
    refine ⟨_,rfl,p,_,0,_,rfl,rfl,SqT.of e,rfl,?_⟩
    refine ⟨_,rfl,rfl,_,rfl,?_⟩
    refine iteDF (by decide +kernel) ?_
    refine ⟨_,rfl,rfl,_,rfl,?_⟩
    refine iteD rfl (iteT ?_)
    exact ⟨_,rfl,rfl,k⟩
  | @no p e =>
    refine ⟨_,rfl,p,_,0,_,rfl,rfl,SqT.of e,rfl,?_⟩
    refine ⟨_,rfl,rfl,_,rfl,?_⟩
    refine iteDF (by decide +kernel) ?_
    refine ⟨_,rfl,rfl,_,rfl,?_⟩
    refine iteDF (by decide +kernel) ?_
    refine ⟨_,rfl,rfl,_,rfl,?_⟩
    refine iteD rfl ?_
    refine ⟨_,rfl,rfl,?_⟩
    have e1:decide (V.str "no" = V.str "yes")=false:=by decide +kernel
    show Q (.bl (decide (V.str "no" = V.str "yes"))) H
    rw [e1]
    exact k
  | @not p u r e T1 =>
    have dp:r.depth+1≤n+1:=dn
    refine ⟨_,rfl,p,_,0,_,rfl,rfl,SqT.of e,rfl,?_⟩
    refine ⟨_,rfl,rfl,_,rfl,?_⟩
    refine iteDF (by decide +kernel) ?_
    refine ⟨_,rfl,rfl,_,rfl,?_⟩
    refine iteDF (by decide +kernel) ?_
    refine ⟨_,rfl,rfl,_,rfl,?_⟩
    refine iteDF (by decide +kernel) ?_
    refine ⟨_,rfl,p,_,1,_,rfl,rfl,SqT.of e,rfl,_,rfl,_,rfl,u,r,a,b,ns,st,rfl,T1,ok,by omega,hN,hb,sl,?_⟩
    refine ⟨_,rfl,rfl,_,rfl,?_⟩
    refine iteD rfl ?_
    exact ⟨_,rfl,_,rfl,k⟩
  | @bin p o u u2 r r2 e T1 T2 =>
    obtain ⟨ho,ok1,ok2⟩:=ok
    have dp:max r.depth r2.depth+1≤n+1:=dn
    have ne:∀ z:Str,z ∉ joinW→¬ V.str o=V.str z:=fun z hz h=>hz (str_inj h ▸ ho)
    refine ⟨_,rfl,p,_,0,_,rfl,rfl,SqT.of e,rfl,?_⟩
    refine ⟨_,rfl,rfl,_,rfl,?_⟩
    refine iteDF (ne _ (by decide +kernel)) ?_
    refine ⟨_,rfl,rfl,_,rfl,?_⟩
    refine iteDF (ne _ (by decide +kernel)) ?_
    refine ⟨_,rfl,rfl,_,rfl,?_⟩
    refine iteDF (ne _ (by decide +kernel)) ?_
    refine ⟨_,rfl,p,_,1,_,rfl,rfl,SqT.of e,rfl,_,rfl,_,rfl,u,r,a,b,ns,st,rfl,T1,ok1,by omega,hN,hb,sl,?_⟩
    refine ⟨_,rfl,rfl,_,rfl,?_⟩
    refine iteDF (ne _ (by decide +kernel)) ?_
    refine ⟨_,rfl,_,rfl,_,rfl,p,_,2,_,rfl,rfl,SqT.of e,rfl,_,rfl,_,rfl,u2,r2,a,b,ns,st,rfl,T2,ok2,by omega,hN,hb,sl,?_⟩
    exact ⟨o,_,_,rfl,k⟩
theorem holds_zero {f:Addr} {fd:FuncData}:FnOk P w K mg base CX0 2 f fd ["tree", "switches", "setting"] (spHolds 0):=by
  have no:∀ vs H Q E,¬ spHolds 0 vs H Q E:=fun vs H Q E h=>by
    obtain ⟨v,t,_,_,_,_,_,_,_,h1,_⟩:=h
    have:=t.depth_pos
    omega
  exact ⟨fun vs H Q E h=>absurd h (no vs H Q E),fun A outer s H args us vs Q E _ _ _ _ h=>absurd h (no vs H Q E)⟩
theorem ok_holds_at {f:Addr} {fd:FuncData} (F:Fun K "holds_at" "holds_at" s_holds_at f fd) (m:mg "holds_at" = some (.ref f)) (C_joined:Cal P w K mg base 1 "joined" ["word", "first", "second"] spJoined) :
    ∀ n:Nat,FnOk P w K mg base CX0 (n+2) f fd ["tree", "switches", "setting"] (spHolds n)
  | 0=>holds_zero
  | n+1=>holds_step F C_joined (Cal.of F (ok_holds_at F m C_joined n) m (fun _ _ _ _ _ _ us hl=>by obtain ⟨u0,u1,u2,rfl⟩:=len3 hl; rfl))
def TupAt (H:Hp) (v:V) (s:List Int):Prop:=∃ a,v=.ref a∧H a=some (.tup (s.map V.int))
abbrev TupsAt (H:Hp):List V→List (List Int)→Prop:=PySem.Paired (TupAt H)
def SetsAt (H:Hp) (r:Addr) (ss:List (List Int)):Prop:=∃ rs,H r=some (.lst rs)∧TupsAt H rs ss
theorem TupsAt.mono {H H':Hp} (k:∀ a xs,H a=some (.tup xs)→H' a=some (.tup xs)):∀ {rs:List V} {ss:List (List Int)},TupsAt H rs ss→TupsAt H' rs ss
  | _,_,.nil=>.nil
  | _,_,.cons ⟨a,e,h⟩ t=>.cons ⟨a,e,k _ _ h⟩ (TupsAt.mono k t)
theorem TupsAt.get {H:Hp}:∀ {rs:List V} {ss:List (List Int)} {i:Nat} {v:V},TupsAt H rs ss→rs[i]?=some v→∃ s,ss[i]?=some s∧TupAt H v s
  | _,_,_,_,.nil,h=>by simp at h
  | _,_,0,_,.cons h _,e=>by
    simp at e
    subst e
    exact ⟨_,rfl,h⟩
  | _,_,i+1,v,.cons _ t,e=>by
    obtain ⟨s,h1,h2⟩:=TupsAt.get (i:=i) t (by simpa using e)
    exact ⟨s,by simpa using h1,h2⟩
theorem keepT_lst {H:Hp} {b:Addr} {ys zs:List V} (h:H b=some (.lst ys)):∀ a xs,H a=some (.tup xs)→(upd H b (.lst zs)) a=some (.tup xs):=fun a xs e=>by
  rw [upd_ne]
  · exact e
  · intro z
    rw [z,h] at e
    cases e
theorem keepT_but {H H':Hp} {b:Addr} {ys:List V} (s:SameBut b H H') (h:H b=some (.lst ys)∨H b=none):∀ a xs,H a=some (.tup xs)→H' a=some (.tup xs):=fun a xs e=>s a _ (fun z=>by
  rw [z] at e
  rcases h with h | h
  · rw [h] at e; cases e
  · rw [h] at e; cases e) e
theorem cat_step {K:PySem.W.Frag} {H1:Hp} {a p:Addr} {s:List Int} {z:Int} {Q:VK} (ha:H1 a=some (.tup (s.map V.int))) (hp:H1 p=some (.tup [.int z])) (hl:s.length≤100)
    (q:∀ t H2,Same H1 H2→H2 t=some (.tup ((s++[z]).map V.int))→Q (.ref t) H2):rCatT K (.ref a) (.ref p) H1 Q∨rCatT0 K (.ref a) (.ref p) H1 Q:=by
  cases s with
  | nil=>exact .inr ⟨a,p,_,rfl,rfl,SqT.of ha,SqT.of hp,q p H1 (Same.refl _) hp⟩
  | cons x r =>
    refine .inl ⟨a,p,_,_,rfl,rfl,SqT.of ha,SqT.of hp,by simp,small (by simp at hl ⊢; omega),(fun z=>nomatch z),(fun _ t ht=>q t _ (Same.new ht _) ?_)⟩
    rw [upd_same,List.map_append]
    rfl
def spSetts:Sp:=fun vs H Q _=>∃ n:Int,vs=[.int n]∧0≤n∧n≤6∧∀ (r:Addr) (H':Hp),H r=none→Same H H'→SetsAt H' r (setts n.toNat)→Q (.ref r) H'
theorem sc_all_settings:FnScope ["n", "told", "switch", "longer", "setting"] ["n"] (defScope s_all_settings):=⟨rfl,rfl,rfl,by decide +kernel,rfl,by decide +kernel,by decide +kernel⟩
theorem ok_all_settings {f:Addr} {fd:FuncData} (F:Fun K "all_settings" "all_settings" s_all_settings f fd) (hrange:mg "range" = none):FnOk P w K mg base CX0 1 f fd ["n"] spSetts:=by
  refine F.ok sc_all_settings (fun vs H Q E h=>?_) (fun cdv A outer s H vs Q E hr h=>?_)
  · obtain ⟨n,rfl,_⟩:=h
    rfl
  obtain ⟨n,rfl,n0,n6,q⟩:=h
  refine ⟨_,(pss_cons (ps_set (i:=1) sc_all_settings.nd rfl (Or.inl rfl) (pe_lst (pa_cons (pe_tup pa_nil) pa_nil)))
      (pss_cons (ps_for PassesOwn.never rfl (pi_range1 rfl hrange (pa_cons (pv 0) pa_nil)) (pg_name (i:=2) sc_all_settings.nd rfl (Or.inl rfl)) (pss_cons (ps_set (i:=3) sc_all_settings.nd rfl (Or.inl rfl) (pe_lst pa_nil))
        (pss_cons (ps_for PassesOwn.never rfl (pi_list (pv 1)) (pg_name (i:=4) sc_all_settings.nd rfl (Or.inl rfl)) (pss_cons (ps_expr (pe_bm PySem.F.plainAttrs_list PySem.F.slot_list_append PySem.F.type_list_append mt_append (pv 3) (pa_cons (pe_op (op_catT.or op_catT0) (pv 4) (pe_tup (pa_cons pe_int pa_nil))) pa_nil)))
          (pss_one (ps_expr (pe_bm PySem.F.plainAttrs_list PySem.F.slot_list_append PySem.F.type_list_append mt_append (pv 3) (pa_cons (pe_op (op_catT.or op_catT0) (pv 4) (pe_tup (pa_cons pe_int pa_nil))) pa_nil))))))
        (pss_one (ps_set (i:=1) sc_all_settings.nd rfl (Or.inl rfl) (pv 3))))))
      (pss_one (ps_ret (pv 1))))),?_⟩
  refine ⟨(by show 0≤sizeLine; decide),fun p hp=>?_⟩
  refine ⟨(by show 1≤sizeLine; decide),fun a ha=>?_⟩
  have np:p ≠ a:=fun z=>by
    subst z
    rw [upd_same] at ha
    cases ha
  have ha0:H a=none:=(Same.new hp _).free ha
  refine ⟨_,rfl,n,rfl,by omega,by omega,for_range (fun i σ H'=>∃ (a:Addr) (x2 x3 x4:Option V),σ=[some (.int n),some (.ref a),x2,x3,x4]∧H a=none∧Same H H'∧SetsAt H' a (setts i))
    ⟨a,_,_,_,rfl,ha0,(Same.new hp _).trans (Same.new ha _),[.ref p],upd_same,.cons ⟨p,rfl,by rw [upd_ne np,upd_same]; rfl⟩ .nil⟩ ?_ ?_⟩
  · rintro i σ H' hi ⟨a,x2,x3,x4,rfl,a0,s0,rs,hrs,T⟩
    have i6:i < 6:=by omega
    have sl:=setts_len i
    have s64:=pow_le_64 (n:=i) (by omega)
    refine ⟨(by show 0≤sizeLine; decide),fun b hb=>?_⟩
    have ab:a ≠ b:=ne_of_none hrs hb
    refine ⟨_,rfl,a,rfl,⟨_,SqL.of (by rw [upd_ne ab]; exact hrs)⟩,for_list (K:=K) (xs:=rs) (fun j σ H2=>∃ (x4:Option V) (bs:List V),σ=[some (.int n),some (.ref a),some (.int (0+(i:Int))),some (.ref b),x4]∧SameBut b H' H2∧H2 b=some (.lst bs)∧TupsAt H2 bs (((setts i).take j).flatMap fun s=>[s++[0],s++[1]]))
      ⟨_,[],rfl,SameBut.upd _,upd_same,.nil⟩ (fun j σ H2 _ hst=>by obtain ⟨_,_,_,sb,_⟩:=hst; exact SqL.of (sb a _ ab hrs)) ?_ ?_⟩
    · rintro j y σ H2 hj ⟨x4,bs,rfl,sb,hbs,TB⟩
      have T2:TupsAt H2 rs (setts i):=T.mono (keepT_but (ys:=[]) sb (.inr hb))
      obtain ⟨s,hs,t,rfl,ht⟩:=T2.get hj
      have hsm:s ∈ setts i:=List.mem_of_getElem? hs
      have hsl:=setts_mem_len i s hsm
      have hbl:=TB.length
      rw [flat2_len,List.length_take] at hbl
      refine ⟨_,rfl,.inl ⟨rfl,_,SqL.of hbs⟩,?_⟩
      refine ⟨_,rfl,(by show 1≤sizeLine; decide),fun p1 hp1=>?_⟩
      have S1:Same H2 (upd H2 p1 (.tup [.int 0])):=Same.new hp1 _
      refine cat_step (s:=s) (z:=0) (S1 _ _ ht) upd_same (by omega) fun t1 H3 S3 e3=>?_
      have S13:Same H2 H3:=S1.trans S3
      refine ⟨b,bs,_,rfl,rfl,S13 _ _ hbs,small1000 (by omega),?_⟩
      have K4:=keepT_lst (H:=H3) (b:=b) (ys:=bs) (zs:=bs++[.ref t1]) (S13 _ _ hbs)
      have e4:=K4 _ _ e3
      have t4:=K4 _ _ (S13 _ _ ht)
      refine ⟨_,rfl,.inl ⟨rfl,_,SqL.of upd_same⟩,?_⟩
      refine ⟨_,rfl,(by show 1≤sizeLine; decide),fun p2 hp2=>?_⟩
      have S4:Same (upd H3 b (.lst (bs++[.ref t1]))) (upd (upd H3 b (.lst (bs++[.ref t1]))) p2 (.tup [.int 1])):=Same.new hp2 _
      refine cat_step (s:=s) (z:=1) (S4 _ _ t4) upd_same (by omega) fun t2 H5 S5 e5=>?_
      have S45:=S4.trans S5
      have hb5:H5 b=some (.lst (bs++[.ref t1])):=S45 _ _ upd_same
      refine ⟨b,bs++[.ref t1],_,rfl,rfl,hb5,small1000 (by rw [List.length_append,List.length_singleton]; omega),?_⟩
      have K6:=keepT_lst (H:=H5) (b:=b) (ys:=bs++[.ref t1]) (zs:=bs++[.ref t1]++[.ref t2]) hb5
      refine ⟨_,bs++[.ref t1]++[.ref t2],rfl,?_,upd_same,?_⟩
      · have q1:SameBut b H' H3:=sb.trans (SameBut.of S13)
        have q2:SameBut b H' H5:=(q1.trans (SameBut.upd _)).trans (SameBut.of S45)
        exact q2.trans (SameBut.upd _)
      · have hbase:TupsAt (upd H5 b (.lst (bs++[.ref t1]++[.ref t2]))) bs (((setts i).take j).flatMap fun s=>[s++[0],s++[1]]) :=
          TB.mono fun a xs e=>K6 _ _ (S45 _ _ (K4 _ _ (S13 _ _ e)))
        rw [List.take_add_one,hs,List.flatMap_append]
        have e:((some s).toList.flatMap fun s:List Int=>[s++[0],s++[1]])=[s++[0]]++[s++[1]]:=by simp
        rw [e,← List.append_assoc]
        exact (hbase.snoc ⟨t1,rfl,K6 _ _ (S45 _ _ e4)⟩).snoc ⟨t2,rfl,K6 _ _ e5⟩
    · rintro σ H2 ⟨x4,bs,rfl,sb,hbs,TB⟩
      have rl:=T.length
      rw [rl,List.take_length] at TB
      exact ⟨_,rfl,b,_,_,_,rfl,s0.free hb,s0.but (s0.free hb) sb,bs,hbs,TB⟩
  · rintro σ H' ⟨a,x2,x3,x4,rfl,a0,s0,S⟩
    exact ⟨_,rfl,q a H' a0 s0 S⟩
def cnt (t:Tr) (ns:List Str):Nat:=((setts ns.length).filter fun st=>t.holds ns st).length
def spCount:Sp:=fun vs H Q _=>∃ (v:V) (t:Tr) (a:Addr) (ns:List Str),vs=[v,.ref a]∧TreeAt H v t∧t.ok ns∧t.depth≤12∧NamesAt H a ns∧ns.length≤6∧∀ H',Same H H'→Q (.int (cnt t ns:Int)) H'
theorem sc_count_of:FnScope ["tree", "switches", "holding"] ["tree", "switches"] (defScope s_count_of):=⟨rfl,rfl,rfl,by decide +kernel,rfl,by decide +kernel,by decide +kernel⟩
theorem ok_count_of {f:Addr} {fd:FuncData} (F:Fun K "count_of" "count_of" s_count_of f fd) (hlen:mg "len" = none) (C_all_settings:Cal P w K mg base 1 "all_settings" ["n"] spSetts) (C_holds_at:Cal P w K mg base 14 "holds_at" ["tree", "switches", "setting"] (spHolds 12)):FnOk P w K mg base CX0 15 f fd ["tree", "switches"] spCount:=by
  refine F.ok sc_count_of (fun vs H Q E h=>?_) (fun cdv A outer s H vs Q E hr h=>?_)
  · obtain ⟨v,t,a,ns,rfl,_⟩:=h
    rfl
  obtain ⟨v,t,a,ns,rfl,T,ok,dp,hN,nl,q⟩:=h
  refine ⟨_,(pss_cons (ps_comp (i:=2) (N:=["tree", "switches"]) (ix:=[0,1]) sc_count_of.nd rfl (Or.inl rfl) rfl
        (CompScope.two (by with_unfolding_all rfl) (by decide) rfl (by decide) rfl (by decide +kernel) (by first | exact Or.inl rfl | exact Or.inr rfl) (by with_unfolding_all rfl) (by with_unfolding_all rfl) (by with_unfolding_all rfl) (by with_unfolding_all rfl) rfl rfl (by with_unfolding_all rfl) rfl rfl) rfl
        (pi_list (pe_cal C_all_settings hr (by decide) rfl (pa_cons (pe_callB call_len_seq rfl hlen PySem.boot_len (pa_cons (pv 1) pa_nil)) pa_nil)))
        (fun _ _ _=>pb_if (pt_val (pe_cal C_holds_at hr (by decide) rfl (pa_cons (pv 1) (pa_cons (pv 2) (pa_cons (pv 0) pa_nil))))) (pv 0)))
      (pss_one (ps_ret (pe_callB call_len_seq rfl hlen PySem.boot_len (pa_cons (pv 2) pa_nil))))),?_⟩
  have en:((ns.map V.str).length:Int)=(ns.length:Int):=by rw [List.length_map]
  refine ⟨_,rfl,a,_,rfl,hN.seq,_,rfl,by omega,by omega,fun r H1 r0 S1 R1=>?_⟩
  rw [en] at R1
  have e2:((ns.length:Int)).toNat=ns.length:=by omega
  rw [e2] at R1
  obtain ⟨rs,hrs,TS⟩:=R1
  have rl:=TS.length
  have sl:=setts_len ns.length
  have s64:=pow_le_64 nl
  refine ⟨r,rfl,⟨_,SqL.of hrs⟩,fun D hD=>?_⟩
  refine comp_list (K:=K) (xs:=rs) (fun i H'=>∃ ys,H' D=some (.lst ys)∧ys.length=(((setts ns.length).take i).filter fun st=>t.holds ns st).length∧Same H1 H') ⟨[],upd_same,rfl,Same.new hD _⟩ (fun i H' _ hst=>by obtain ⟨_,_,_,h⟩:=hst; exact SqL.of (h _ _ hrs)) ?_ ?_
  · rintro i x H2 hx ⟨ys,hl,yl,S2⟩
    have hi:i < rs.length:=(List.getElem?_eq_some_iff.mp hx).1
    have TS2:=TS.mono (keepT_same S2)
    obtain ⟨st,hst,b,rfl,hb⟩:=TS2.get hx
    have stl:=setts_mem_len _ _ (List.mem_of_getElem? hst)
    have S02:=S1.trans S2
    have tk:((setts ns.length).take (i+1)).filter (fun st=>t.holds ns st)=((setts ns.length).take i).filter (fun st=>t.holds ns st)++[st].filter (fun st=>t.holds ns st):=by
      rw [List.take_add_one,hst,List.filter_append]
      rfl
    refine ⟨_,rfl,_,rfl,_,rfl,v,t,a,b,ns,st,rfl,T.mono (keepT_same S02),ok,dp,hN.same S02,hb,stl,_,rfl,?_⟩
    cases c:t.holds ns st with
    | true =>
      refine iteT ?_
      refine ⟨_,rfl,ys,hl,?_,Nx.of hi ⟨_,upd_same,?_,fun b' o e=>?_⟩⟩
      · have:=List.length_filter_le (fun st=>t.holds ns st) ((setts ns.length).take i)
        rw [List.length_take] at this
        exact small1000 (by omega)
      · rw [tk,List.length_append,List.length_append,yl]
        simp [c]
      · rw [upd_ne (ne_of_none e hD)]
        exact S2 _ _ e
    | false =>
      refine iteF ?_
      refine Nx.of hi ⟨ys,hl,?_,S2⟩
      rw [tk,List.length_append,yl]
      simp [c]
  · rintro H2 ⟨ys,hl,yl,S2⟩
    have e3:rs.length=(setts ns.length).length:=rl
    rw [e3,List.take_length] at yl
    refine ⟨_,rfl,D,_,rfl,.inl (SqL.of hl),?_⟩
    rw [yl]
    exact q H2 (S1.trans S2)
theorem at0 (x:V) (xs:List V):atI (x::xs) 0=some x:=atI_nat (j:=0) rfl
theorem namesL_take {ts:List Tr} {i:Nat} {u:Tr} (h:ts[i]?=some u):namesL (ts.take (i+1))=namesL (ts.take i)++u.names:=by
  unfold namesL
  rw [List.take_add_one,h,List.map_append,List.flatten_append]
  simp
theorem namesL_len (ts:List Tr):(namesL ts).length≤sizes ts:=by
  induction ts with
  | nil=>simp [namesL,sizes]
  | cons a r ih =>
    have:=a.names_len
    simp only [namesL,sizes,List.map_cons,List.flatten_cons,List.length_append,List.sum_cons] at ih ⊢
    omega
theorem sizes_take (ts:List Tr) (i:Nat):sizes (ts.take i)≤sizes ts:=by
  induction ts generalizing i with
  | nil=>simp
  | cons a r ih =>
    cases i with
    | zero=>simp [sizes]
    | succ i =>
      have:=ih i
      simp only [sizes,List.take_succ_cons,List.map_cons,List.sum_cons] at this ⊢
      omega
def spNO (n:Nat):Sp:=fun vs H Q _=>∃ (v:V) (t:Tr),vs=[v]∧TreeAt H v t∧t.wf∧t.depth≤n∧t.size≤400∧∀ (l:Addr) (H':Hp),H l=none→Same H H'→H' l=some (.lst (t.names.map V.str))→Q (.ref l) H'
theorem sc_l_names_of:FnScope ["_law_tree_here", "_law_found", "_law_part"] ["_law_tree_here"] (defScope s_l_names_of):=⟨rfl,rfl,rfl,by decide +kernel,rfl,by decide +kernel,by decide +kernel⟩
theorem no_step {n:Nat} {f:Addr} {fd:FuncData} (F:Fun K "_law_names_of" "_law_names_of" s_l_names_of f fd) (C_l_names_of:Cal P w K mg base (n+2) "_law_names_of" ["_law_tree_here"] (spNO n)):FnOk P w K mg base CX0 (n+3) f fd ["_law_tree_here"] (spNO (n+1)):=by
  refine F.ok sc_l_names_of (fun vs H Q E h=>?_) (fun cdv A outer s H vs Q E hr h=>?_)
  · obtain ⟨v,t,rfl,_⟩:=h
    rfl
  obtain ⟨v,t,rfl,T,wf,dn,sz,q⟩:=h
  refine ⟨_,(pss_cons (ps_if (pt_cmpR op_eq (pe_ix ix_tup (pv 0) pe_int (fun _ _=>rfl)) pe_str (nomark _)) (pss_one (ps_ret (pe_lst (pa_cons (pe_ix ix_tup (pv 0) pe_int (fun _ _=>rfl)) pa_nil)))) pss_nil)
      (pss_cons (ps_set (i:=1) sc_l_names_of.nd rfl (Or.inl rfl) (pe_lst pa_nil))
      (pss_cons (ps_for PassesOwn.never rfl (pi_tup (pe_slice sl_tup (pv 0) (po_some pe_int) po_none)) (pg_name (i:=2) sc_l_names_of.nd rfl (Or.inl rfl)) (pss_one (ps_set (i:=1) sc_l_names_of.nd rfl (Or.inl rfl) (pe_op op_cat (pv 1) (pe_cal C_l_names_of hr (Nat.le_refl _) rfl (pa_cons (pv 2) pa_nil))))))
      (pss_one (ps_ret (pv 1)))))),?_⟩
  rcases T.view wf with ⟨a,x,rfl,rfl,_,e⟩ | ⟨a,o,xs,rfl,no,xl0,e,TS0,nis⟩
  · refine ⟨_,rfl,a,_,0,_,rfl,rfl,SqT.of e,rfl,rfl,_,rfl,?_⟩
    refine iteD rfl ?_
    refine ⟨_,rfl,a,_,1,_,rfl,rfl,SqT.of e,rfl,(by show 1≤sizeLine; decide),fun p hp=>?_⟩
    exact q p _ hp (Same.new hp _) upd_same
  · refine ⟨_,rfl,a,_,0,.str o,rfl,rfl,SqT.of e,at0 ..,rfl,_,rfl,?_⟩
    refine iteDF (fun z=>no (by injection z)) ?_
    refine ⟨(by show 0≤sizeLine; decide),fun L hL=>?_⟩
    have G0:=Same.new hL (.lst [])
    obtain ⟨c1,c2⟩:=cut1 (.str o) xs xl0
    refine ⟨_,rfl,1,rfl,a,_,rfl,SqT.of (G0 _ _ e),c2,fun p hp=>?_⟩
    rw [c1]
    have G1:=Same.new hp (.tup xs)
    have hp1:upd (upd H L (.lst [])) p (.tup xs) p=some (.tup xs):=upd_same
    have hL1:upd (upd H L (.lst [])) p (.tup xs) L=some (.lst []):=G1 _ _ upd_same
    have S1:Same H (upd (upd H L (.lst [])) p (.tup xs)):=G0.trans G1
    generalize upd (upd H L (.lst [])) p (.tup xs)=H1 at hp1 hL1 S1
    have TS:=TS0.mono (keepT_same S1)
    have xl:=TS.length
    have sp:=t.size_parts
    refine ⟨p,rfl,⟨_,SqT.of hp1⟩,for_tup (K:=K) (xs:=xs) (fun i σ H'=>∃ (M:Addr) (x2:Option V),σ=[some (.ref a),some (.ref M),x2]∧H M=none∧H' M=some (.lst ((namesL (t.parts.take i)).map V.str))∧Same H1 H') ⟨L,_,rfl,hL,hL1,Same.refl _⟩ (fun i σ H' _ hst=>by obtain ⟨_,_,_,_,_,h⟩:=hst; exact SqT.of (h _ _ hp1)) ?_ ?_⟩
    · rintro i x σ H2 hx ⟨M,x2,rfl,M0,hM,S2⟩
      obtain ⟨u,hu,Tu⟩:=TS.get hx
      have um:=List.mem_of_getElem? hu
      obtain ⟨uw,ud,us⟩:=Tr.parts_mem um wf
      refine ⟨_,rfl,_,rfl,x,u,rfl,Tu.mono (keepT_same S2),uw,by omega,by omega,fun l H3 l0 S3 hl3=>?_⟩
      have nl:=u.names_len
      have nl2:=namesL_len (t.parts.take i)
      have nl3:=sizes_take t.parts i
      refine ⟨M,l,_,_,rfl,rfl,S3 _ _ hM,hl3,?_,fun r hr0=>?_⟩
      · rw [List.length_map,List.length_map]
        exact small (by omega)
      · have S4:=(S2.trans S3).trans (Same.new hr0 (.lst ((namesL (t.parts.take i)).map V.str++u.names.map V.str)))
        refine ⟨r,_,rfl,(S1.trans (S2.trans S3)).free hr0,?_,S4⟩
        rw [upd_same,namesL_take hu,List.map_append]
    · rintro σ H2 ⟨M,x2,rfl,M0,hM,S2⟩
      rw [xl,List.take_length,← t.names_parts nis] at hM
      exact ⟨_,rfl,q M H2 M0 (S1.trans S2) hM⟩
theorem no_zero {f:Addr} {fd:FuncData}:FnOk P w K mg base CX0 2 f fd ["_law_tree_here"] (spNO 0):=by
  have no:∀ vs H Q E,¬ spNO 0 vs H Q E:=fun vs H Q E h=>by
    obtain ⟨v,t,_,_,_,h1,_⟩:=h
    have:=t.depth_pos
    omega
  exact ⟨fun vs H Q E h=>absurd h (no vs H Q E),fun A outer s H args us vs Q E _ _ _ _ h=>absurd h (no vs H Q E)⟩
theorem ok_l_names_of {f:Addr} {fd:FuncData} (F:Fun K "_law_names_of" "_law_names_of" s_l_names_of f fd) (m:mg "_law_names_of" = some (.ref f)) :
    ∀ n:Nat,FnOk P w K mg base CX0 (n+2) f fd ["_law_tree_here"] (spNO n)
  | 0=>no_zero
  | n+1=>no_step F (Cal.of F (ok_l_names_of F m n) m (fun _ _ _ _ _ _ us hl=>by obtain ⟨u0,rfl⟩:=len1 hl; rfl))
theorem count_strs (ns:List Str) (z:Str):((ns.map V.str).countP fun y=>eqV y (.str z))=ns.count z:=by
  rw [List.countP_map]
  rfl
def spNeed:Sp:=fun vs H Q _=>∃ (a b:Addr) (ns:List Str) (tv:List V) (ts:List Tr),vs=[.ref a,.ref b]∧H a=some (.lst (ns.map V.str))∧H b=some (.lst tv)∧TreesAt H tv ts∧ts.length≤10∧(∀ t ∈ ts,t.wf∧t.depth≤10∧t.size≤400) ∧
  ∀ (m:Int) (H':Hp),Same H H'→2≤m→m≤400→(ts.length:Int)≤m+1→(∀ t ∈ ts,∀ x ∈ ns,(t.names.count x:Int)≤m)→Q (.int m) H'
theorem sc_l_need:FnScope ["_law_names_here", "_law_trees", "_law_need_here", "_law_tree_here", "_law_found", "_law_name"] ["_law_names_here", "_law_trees"] (defScope s_l_need):=⟨rfl,rfl,rfl,by decide +kernel,rfl,by decide +kernel,by decide +kernel⟩
theorem ok_l_need {f:Addr} {fd:FuncData} (F:Fun K "_law_need" "_law_need" s_l_need f fd) (hlen:mg "len" = none) (hmax:mg "max" = none) (C_l_names_of:Cal P w K mg base 12 "_law_names_of" ["_law_tree_here"] (spNO 10)):FnOk P w K mg base CX0 13 f fd ["_law_names_here", "_law_trees"] spNeed:=by
  refine F.ok sc_l_need (fun vs H Q E h=>?_) (fun cdv A outer s H vs Q E hr h=>?_)
  · obtain ⟨a,b,ns,tv,ts,rfl,_⟩:=h
    rfl
  obtain ⟨a,b,ns,tv,ts,rfl,ha,hb,TS,tl,tok,q⟩:=h
  refine ⟨_,(pss_cons (ps_set (i:=2) sc_l_need.nd rfl (Or.inl rfl) (pe_callB (call_max2 rfl) rfl hmax PyProof.Rows.boot_max (pa_cons pe_int (pa_cons (pe_op op_sub (pe_callB call_len_seq rfl hlen PySem.boot_len (pa_cons (pv 1) pa_nil)) pe_int) pa_nil))))
      (pss_cons (ps_for PassesOwn.never rfl (pi_list (pv 1)) (pg_name (i:=3) sc_l_need.nd rfl (Or.inl rfl)) (pss_cons (ps_set (i:=4) sc_l_need.nd rfl (Or.inl rfl) (pe_cal C_l_names_of hr (by decide) rfl (pa_cons (pv 3) pa_nil)))
        (pss_one (ps_for PassesOwn.never rfl (pi_list (pv 0)) (pg_name (i:=5) sc_l_need.nd rfl (Or.inl rfl)) (pss_one (ps_set (i:=2) sc_l_need.nd rfl (Or.inl rfl) (pe_callB (call_max2 rfl) rfl hmax PyProof.Rows.boot_max (pa_cons (pv 2) (pa_cons (pe_bm PySem.F.plainAttrs_list PySem.F.slot_list_count PySem.F.type_list_count mt_count (pv 4) (pa_cons (pv 5) pa_nil)) pa_nil)))))))))
      (pss_one (ps_ret (pv 2))))),?_⟩
  have vl:=TS.length
  refine ⟨_,rfl,b,_,rfl,.inl (SqL.of hb),_,_,rfl,rfl,_,_,rfl,?_⟩
  obtain ⟨m,em,m2,m4,mt⟩:∃ m:Int,(if ((tv.length:Int) - 1) > 2 then ((tv.length:Int) - 1) else 2)=m∧2≤m∧m≤400∧(ts.length:Int)≤m+1:=⟨_,rfl,by split <;> omega,by split <;> omega,by split <;> omega⟩
  rw [em]
  refine ⟨_,rfl,b,rfl,⟨_,SqL.of hb⟩,for_list (K:=K) (xs:=tv) (fun i σ H'=>∃ (m:Int) (x3 x4 x5:Option V),σ=[some (.ref a),some (.ref b),some (.int m),x3,x4,x5]∧2≤m∧m≤400∧(ts.length:Int)≤m+1∧(∀ t ∈ ts.take i,∀ x ∈ ns,(t.names.count x:Int)≤m)∧Same H H')
    ⟨m,_,_,_,rfl,m2,m4,mt,by simp,Same.refl _⟩ (fun i σ H' _ hst=>by obtain ⟨_,_,_,_,_,_,_,_,_,h⟩:=hst; exact SqL.of (h _ _ hb)) ?_ ?_⟩
  · rintro i v σ H1 hv ⟨m,x3,x4,x5,rfl,m2,m4,mt,mc,S1⟩
    obtain ⟨t,ht,T⟩:=TS.get hv
    have tm:=List.mem_of_getElem? ht
    obtain ⟨tw,td,tz⟩:=tok t tm
    refine ⟨_,rfl,v,t,rfl,T.mono (keepT_same S1),tw,by omega,tz,fun l H2 l0 S2 hl=>?_⟩
    have S12:=S1.trans S2
    have tn:=t.names_len
    refine ⟨_,rfl,a,rfl,⟨_,SqL.of (S12 _ _ ha)⟩,for_list (K:=K) (xs:=ns.map V.str) (fun j σ H'=>∃ (m':Int) (x5:Option V),σ=[some (.ref a),some (.ref b),some (.int m'),some v,some (.ref l),x5]∧m≤m'∧m'≤400∧(∀ x ∈ ns.take j,(t.names.count x:Int)≤m')∧H'=H2)
      ⟨m,_,rfl,Int.le_refl _,m4,by simp,rfl⟩ (fun j σ H' _ hst=>by obtain ⟨_,_,_,_,_,_,h⟩:=hst; subst h; exact SqL.of (S12 _ _ ha)) ?_ ?_⟩
    · rintro j y σ H3 hy ⟨m',y5,rfl,mm,m4',mc',rfl⟩
      rw [List.getElem?_map] at hy
      obtain ⟨x,hx,rfl⟩:=Option.map_eq_some_iff.mp hy
      refine ⟨_,rfl,_,rfl,.inl ⟨rfl,_,SqL.of hl⟩,_,rfl,l,_,_,rfl,rfl,SqL.of hl,flat_strs _,rfl,_,_,rfl,?_⟩
      rw [count_strs]
      have cl:=List.count_le_length (a:=x) (l:=t.names)
      refine ⟨_,_,rfl,by split <;> omega,by split <;> omega,fun z hz=>?_,rfl⟩
      rw [List.take_add_one,hx] at hz
      rcases List.mem_append.mp hz with h | h
      · have:=mc' z h
        split <;> omega
      · have e:z=x:=by simpa using h
        subst e
        split <;> omega
    · rintro σ H3 ⟨m',y5,rfl,mm,m4',mc',rfl⟩
      rw [List.length_map,List.take_length] at mc'
      refine ⟨m',_,_,_,rfl,by omega,m4',by omega,fun u hu x hx=>?_,S12⟩
      rw [List.take_add_one,ht] at hu
      rcases List.mem_append.mp hu with h | h
      · have:=mc u h x hx
        omega
      · have e:u=t:=by simpa using h
        subst e
        exact mc' x hx
  · rintro σ H1 ⟨m,x3,x4,x5,rfl,m2,m4,mt,mc,S1⟩
    rw [vl,List.take_length] at mc
    exact ⟨_,rfl,q m H1 S1 m2 m4 mt mc⟩
def spPrimeB:Sp:=fun vs H Q _=>∃ n:Int,vs=[.int n]∧∀ b:Bool,(b=true↔Pr n)→Q (.bl b) H
theorem sc_l_is_prime:FnScope ["_law_number", "_law_k"] ["_law_number"] (defScope s_l_is_prime):=⟨rfl,rfl,rfl,by decide +kernel,rfl,by decide +kernel,by decide +kernel⟩
theorem ok_l_is_prime {f:Addr} {fd:FuncData} (F:Fun K "_law_is_prime" "_law_is_prime" s_l_is_prime f fd) (hrange:mg "range" = none):FnOk P w K mg base CX0 1 f fd ["_law_number"] spPrimeB:=by
  refine F.ok sc_l_is_prime (fun vs H Q E h=>?_) (fun cdv A outer s H vs Q E hr h=>?_)
  · obtain ⟨n,rfl,_⟩:=h
    rfl
  obtain ⟨n,rfl,q⟩:=h
  refine ⟨_,(pss_cons (ps_if (pt_cmpR op_lt (pv 0) pe_int (nomark _)) (pss_one (ps_ret pe_bl)) pss_nil)
      (pss_cons (ps_for PassesOwn.never rfl (pi_range2 rfl hrange (pa_cons pe_int (pa_cons pe_int pa_nil))) (pg_name (i:=1) sc_l_is_prime.nd rfl (Or.inl rfl)) (pss_cons (ps_if (pt_cmpR op_gt (pe_op op_mul (pv 1) (pv 1)) (pv 0) (nomark _)) (pss_one (ps_ret pe_bl)) pss_nil)
        (pss_one (ps_if (pt_cmpR op_eq (pe_op op_mod (pv 0) (pv 1)) pe_int (nomark _)) (pss_one (ps_ret pe_bl)) pss_nil))))
      (pss_one (ps_ret pe_bl)))),?_⟩
  refine ⟨_,rfl,_,_,rfl,rfl,_,rfl,?_⟩
  refine ite2 (fun c=>?_) (fun c=>?_)
  · have c':=of_decide_eq_true c
    exact q false ⟨fun z=>(nomatch z),fun z=>by have:=z.1; omega⟩
  have c':¬ n < 2:=of_decide_eq_false (Bool.eq_false_iff.mpr c)
  refine ⟨2,1001,rfl,⟨by decide,by decide,by decide,by decide⟩,for_range (fun i σ H'=>∃ x,σ=[some (.int n),x]∧H'=H∧PrUpTo n (2+(i:Int))) ⟨_,rfl,rfl,by simpa using upTo_start n⟩ ?_ ?_⟩
  · rintro i σ H' hi ⟨x,rfl,rfl,u⟩
    have hi':i < 999:=hi
    refine ⟨_,rfl,_,rfl,_,_,rfl,rfl,.inl ⟨by omega,by omega⟩,_,rfl,_,_,rfl,rfl,_,rfl,?_⟩
    refine ite2 (fun c1=>?_) (fun c1=>?_)
    · have c2:=of_decide_eq_true c1
      exact q true ⟨fun _=>pr_big (by omega) (by omega) u c2,fun _=>rfl⟩
    · have c2:=of_decide_eq_false (Bool.eq_false_iff.mpr c1)
      refine ⟨_,rfl,_,rfl,_,_,rfl,rfl,(show (0:Int) < 2+(i:Int) by omega),rfl,_,rfl,?_⟩
      refine ite2 (fun c3=>?_) (fun c3=>?_)
      · have c4:=V.int.inj (of_decide_eq_true c3)
        exact q false ⟨fun z=>(nomatch z),fun z=>(pr_not (by omega) (by omega) (by omega) c4 z).elim⟩
      · have c4:=of_decide_eq_false (Bool.eq_false_iff.mpr c3)
        refine ⟨_,rfl,rfl,?_⟩
        have e:(2:Int)+((i+1:Nat):Int)=2+(i:Int)+1:=by omega
        rw [e]
        exact upTo_next u (by omega) (fun z=>c4 (congrArg V.int z))
  · rintro σ H' ⟨x,rfl,rfl,u⟩
    exact q true ⟨fun _=>pr_all (by omega) u,fun _=>rfl⟩
def spFieldL:Sp:=fun vs H Q _=>∃ (f:Addr) (m:Int),vs=[.ref f,.int m]∧FeedAt H f∧2≤m∧m≤400∧∀ (p:Int) (H':Hp),Pr p→m < p→p≤999983→FeedAt H' f→SameBut f H H'→Q (.int p) H'
theorem prime_loop {f:Addr} {m fm:Int} {D:Ends} {H:Hp} (hD:∀ p:Int,Pr p→m < p→p≤999983→D.nx [some (.ref f),some (.int m),some (.int fm),some (.int p)] H) (n:Int) (h1:m < n) (h2:n≤999983) :
    tWhile (tNot (tB (tCall spPrimeB [] E0 (tCons (tVar 3) tNil)))) (tAsg (tOp (rI0 fun i j=>V.int (i+j)) (tVar 3) (tC (V.int 1))) (gName 3)) D [some (.ref f),some (.int m),some (.int fm),some (.int n)] H:=by
  refine ⟨fun mm σ H'=>∃ n:Int,σ=[some (.ref f),some (.int m),some (.int fm),some (.int n)]∧H'=H∧m < n∧n≤999983∧mm=(999983 - n).toNat,⟨_,_,rfl,rfl,h1,h2,rfl⟩,?_⟩
  rintro mm σ H' ⟨n,rfl,rfl,n0,n1,rfl⟩
  refine ⟨_,rfl,n,rfl,fun b hb=>⟨b,rfl,?_⟩⟩
  cases b with
  | true=>exact iteF (hD n (hb.mp rfl) n0 n1)
  | false =>
    refine iteT ?_
    refine ⟨_,fun _ _ h=>h,?_⟩
    have ne:n ≠ 999983:=fun z=>by
      subst z
      exact nomatch hb.mpr pr_999983
    refine ⟨_,rfl,_,_,rfl,rfl,?_⟩
    exact ⟨_,by omega,n+1,rfl,rfl,by omega,by omega,rfl⟩
theorem sc_l_field:FnScope ["_law_feed_here", "_law_need_here", "_law_form", "_law_number"] ["_law_feed_here", "_law_need_here"] (defScope s_l_field):=⟨rfl,rfl,rfl,by decide +kernel,rfl,by decide +kernel,by decide +kernel⟩
theorem ok_l_field {f:Addr} {fd:FuncData} (F:Fun K "_law_field" "_law_field" s_l_field f fd) (C_l_take:Cal P w K mg base 1 "_law_take" ["_law_feed_here", "_law_many"] spTake) (C_l_is_prime:Cal P w K mg base 1 "_law_is_prime" ["_law_number"] spPrimeB):FnOk P w K mg base CX0 2 f fd ["_law_feed_here", "_law_need_here"] spFieldL:=by
  refine F.ok sc_l_field (fun vs H Q E h=>?_) (fun cdv A outer s H vs Q E hr h=>?_)
  · obtain ⟨f,m,rfl,_⟩:=h
    rfl
  obtain ⟨f,m,rfl,hF,m2,m4,q⟩:=h
  refine ⟨_,(pss_cons (ps_set (i:=2) sc_l_field.nd rfl (Or.inl rfl) (pe_cal C_l_take hr (by decide) rfl (pa_cons (pv 0) (pa_cons pe_int pa_nil))))
      (pss_cons (ps_set (i:=3) sc_l_field.nd rfl (Or.inl rfl) (pe_op op_add (pv 1) pe_int))
      (pss_cons (ps_if (pt_cmpR op_eq (pv 2) pe_int (nomark _)) (pss_one (ps_set (i:=3) sc_l_field.nd rfl (Or.inl rfl) (pe_op op_add (pe_op op_add (pv 1) pe_int) (pe_cal C_l_take hr (by decide) rfl (pa_cons (pv 0) (pa_cons pe_int pa_nil)))))) pss_nil)
      (pss_cons (ps_if (pt_cmpR op_eq (pv 2) pe_int (nomark _)) (pss_one (ps_set (i:=3) sc_l_field.nd rfl (Or.inl rfl) (pe_op op_add (pe_op op_add (pv 1) pe_int) (pe_cal C_l_take hr (by decide) rfl (pa_cons (pv 0) (pa_cons (pe_op op_sub pe_int (pv 1)) pa_nil)))))) pss_nil)
      (pss_cons (ps_while PassesOwn.never (pt_not (pt_val (pe_cal C_l_is_prime hr (by decide) rfl (pa_cons (pv 3) pa_nil)))) (pss_one (ps_set (i:=3) sc_l_field.nd rfl (Or.inl rfl) (pe_op op_add (pv 3) pe_int))))
      (pss_one (ps_ret (pv 3)))))))),?_⟩
  refine ⟨_,rfl,f,4,rfl,hF,by decide,by decide,fun fm H1 _ _ F1 S1=>?_⟩
  refine ⟨_,rfl,_,_,rfl,rfl,?_⟩
  refine ⟨_,rfl,rfl,_,rfl,?_⟩
  refine ite2 (fun c1=>?b1) (fun c1=>?b2)
  case' b1 =>
    refine ⟨_,rfl,_,_,rfl,rfl,_,rfl,f,60,rfl,F1,by decide,by decide,fun d H2 d0 d1 F2 S2=>?_⟩
    refine ⟨_,_,rfl,rfl,?_⟩
    have G2:=S1.trans S2
    have n1:m < m+1+d:=by omega
    have n2:m+1+d≤999983:=by omega
  case' b2 =>
    have F2:=F1
    have G2:=S1
    have n1:m < m+1:=by omega
    have n2:m+1≤999983:=by omega
  all_goals
    refine ⟨_,rfl,rfl,_,rfl,?_⟩
    refine ite2 (fun c2=>?_) (fun c2=>?_)
    refine ⟨_,rfl,_,_,rfl,rfl,_,rfl,_,rfl,_,_,rfl,rfl,f,_,rfl,F2,(show (0:Int) < 999983 - m by omega),(show (999983:Int) - m < 2 ^ 63 by omega),fun d H3 d0 d1 F3 S3=>?_⟩
    refine ⟨_,_,rfl,rfl,?_⟩
    have G3:=G2.trans S3
    clear n1 n2
    have n1:m < m+1+d:=by omega
    have n2:m+1+d≤999983:=by
      have:d < 999983 - m:=d1
      omega
    rotate_left
    have F3:=F2
    have G3:=G2
    rotate_left
    all_goals
      refine prime_loop (fun p pp mp p9=>?_) _ n1 n2
      exact ⟨_,rfl,q p _ pp mp p9 F3 G3⟩
def spGame:Sp:=fun vs H Q _=>∃ (f:Addr) (most room:Int),vs=[.ref f,.int most,.int room]∧FeedAt H f∧0≤most∧most≤6∧1≤room∧room≤30 ∧
  ∀ (g a b:Addr) (ns:List Str) (tv:List V) (ts:List Tr) (p:Int) (H':Hp),H' g=some (.tup [.ref a,.ref b,.int p])→H' a=some (.tup (ns.map V.str))→(ns.length:Int)≤most→(∀ x ∈ ns,NmK x)→ns.Nodup→H' b=some (.tup tv)→TreesAt H' tv ts→1≤ts.length→ts.length≤4 →
    (∀ t ∈ ts,t.ok ns∧t.depth≤9∧(t.size:Int)≤room)→Pr p→2 < p→p≤999983→(ts.length:Int)≤p→(∀ t ∈ ts,∀ x ∈ ns,(t.names.count x:Int) < p)→FeedAt H' f→SameBut f H H'→Q (.ref g) H'
theorem mB {m:Int} (h0:0≤m) (h6:m≤6):(0:Int) < m+1∧m+1 < 2 ^ 63:=by omega
theorem zB {z:Int} (h0:1≤z) (h6:z≤4):-(2 ^ 62)≤z∧z < 2 ^ 62:=by omega
theorem rB {r:Int} (h0:1≤r) (h6:r≤30):0 < r∧r < 2 ^ 63:=by omega
theorem eB {e r:Int} (h0:0≤e) (h1:e < r) (h6:r≤30):(1:Int)≤1+e∧(1:Int)+e≤100:=by omega
theorem sc_l_game:FnScope ["_law_feed_here", "_law_most", "_law_room", "_law_names_here", "_law_many", "_law_trees"] ["_law_feed_here", "_law_most", "_law_room"] (defScope s_l_game):=⟨rfl,rfl,rfl,by decide +kernel,rfl,by decide +kernel,by decide +kernel⟩
theorem ok_l_game {f:Addr} {fd:FuncData} (F:Fun K "_law_game" "_law_game" s_l_game f fd) (hrange:mg "range" = none) (htuple:mg "tuple" = none) (C_l_take:Cal P w K mg base 1 "_law_take" ["_law_feed_here", "_law_many"] spTake) (C_l_names:Cal P w K mg base 2 "_law_names" ["_law_feed_here", "_law_many"] spNamesN)
    (C_l_tree:Cal P w K mg base 12 "_law_tree" ["_law_feed_here", "_law_names_here", "_law_room", "_law_deep"] (spTree 10)) (C_l_need:Cal P w K mg base 13 "_law_need" ["_law_names_here", "_law_trees"] spNeed) (C_l_field:Cal P w K mg base 2 "_law_field" ["_law_feed_here", "_law_need_here"] spFieldL):FnOk P w K mg base CX0 14 f fd ["_law_feed_here", "_law_most", "_law_room"] spGame:=by
  refine F.ok sc_l_game (fun vs H Q E h=>?_) (fun cdv A outer s H vs Q E hr h=>?_)
  · obtain ⟨f,most,room,rfl,_⟩:=h
    rfl
  obtain ⟨f,most,room,rfl,hF,m0,m6,r1,r30,q⟩:=h
  refine ⟨_,(pss_cons (ps_set (i:=3) sc_l_game.nd rfl (Or.inr rfl) (pe_cal C_l_names hr (by decide) rfl (pa_cons (pv 0) (pa_cons (pe_cal C_l_take hr (by decide) rfl (pa_cons (pv 0) (pa_cons (pe_op op_add (pv 1) pe_int) pa_nil))) pa_nil))))
      (pss_cons (ps_set (i:=4) sc_l_game.nd rfl (Or.inl rfl) (pe_ix ix_list (pe_lst (pa_cons pe_int (pa_cons pe_int (pa_cons pe_int (pa_cons pe_int (pa_cons pe_int (pa_cons pe_int pa_nil))))))) (pe_cal C_l_take hr (by decide) rfl (pa_cons (pv 0) (pa_cons pe_int pa_nil))) (fun _ _=>rfl)))
      (pss_cons (ps_comp (i:=5) (N:=["_law_room", "_law_names_here", "_law_feed_here"]) (ix:=[2,3,0]) sc_l_game.nd rfl (Or.inl rfl) rfl
        (CompScope.three (by with_unfolding_all rfl) (by decide) rfl (by decide) rfl (by decide +kernel) rfl (by with_unfolding_all rfl) (by with_unfolding_all rfl) (by with_unfolding_all rfl) (by with_unfolding_all rfl) (by with_unfolding_all rfl) rfl rfl (by with_unfolding_all rfl) rfl rfl (by with_unfolding_all rfl) rfl rfl) rfl
        (pi_range1 rfl hrange (pa_cons (pv 4) pa_nil))
        (fun _ _ _=>pb_all (pe_cal C_l_tree hr (by decide) rfl (pa_cons (pv 3) (pa_cons (pv 2) (pa_cons (pe_op op_add pe_int (pe_cal C_l_take hr (by decide) rfl (pa_cons (pv 3) (pa_cons (pv 1) pa_nil)))) (pa_cons pe_int pa_nil)))))))
      (pss_one (ps_ret (pe_tup (pa_cons (pe_callTy call_tuple_of rfl htuple boot_tuple' (pa_cons (pv 3) pa_nil)) (pa_cons (pe_callTy call_tuple_of rfl htuple boot_tuple' (pa_cons (pv 5) pa_nil)) (pa_cons (pe_cal C_l_field hr (by decide) rfl (pa_cons (pv 0) (pa_cons (pe_cal C_l_need hr (by decide) rfl (pa_cons (pv 3) (pa_cons (pv 5) pa_nil))) pa_nil))) pa_nil))))))))),?_⟩
  refine ⟨_,rfl,_,rfl,_,rfl,_,_,rfl,rfl,f,_,rfl,hF,(mB m0 m6).1,(mB m0 m6).2,fun mk H1 k0 k7 F1 S1=>?_⟩
  refine ⟨f,mk,rfl,F1,k0,by omega,fun nl ns H2 nl0 nlf hnl nsl nok nnd F2 S2=>?_⟩
  have S02:=S1.trans S2
  refine ⟨(by show 6≤sizeLine; decide),fun l hl=>?_⟩
  have lf:=F2.ne hl
  have G2:=Same.new hl (.lst [.int 1,.int 1,.int 1,.int 2,.int 3,.int 4])
  refine ⟨_,rfl,f,6,rfl,F2.same G2,by decide,by decide,fun j H3 j0 j6 F3 S3=>?_⟩
  have hl3:=S3 l _ lf upd_same
  obtain ⟨x,hx,xm⟩:=at_in (l:=[V.int 1,V.int 1,V.int 1,V.int 2,V.int 3,V.int 4]) (i:=j) j0 (by show j < 6; omega)
  obtain ⟨z,rfl,z0,z4⟩:∃ z:Int,x=.int z∧1≤z∧z≤4:=by
    simp only [List.mem_cons,List.not_mem_nil,or_false] at xm
    rcases xm with h | h | h | h | h | h <;> exact ⟨_,h,by decide,by decide⟩
  refine ⟨l,_,_,_,rfl,rfl,SqL.of hl3,hx,?_⟩
  have S23:SameBut f H2 H3:=(SameBut.of G2).trans S3
  have hnl3:=S23 nl _ nlf hnl
  have S03:=S02.trans S23
  have nl6:ns.length≤6:=by omega
  refine ⟨_,rfl,z,rfl,(zB z0 z4).1,(zB z0 z4).2,fun D hD=>?_⟩
  have Df:=F3.ne hD
  have nD:nl ≠ D:=ne_of_none hnl3 hD
  have GD:=Same.new hD (.lst [])
  refine comp_range (fun i H'=>∃ (tv:List V) (ts:List Tr),H' D=some (.lst tv)∧TreesAt H' tv ts∧ts.length=i∧(∀ t ∈ ts,t.ok ns∧t.depth≤9∧(t.size:Int)≤room)∧FeedAt H' f∧SameBut f H3 H') ⟨[],[],upd_same,.nil,rfl,(fun t ht=>by cases ht),F3.same GD,SameBut.of GD⟩ ?_ ?_
  · rintro i H4 hi ⟨tv,ts,hD4,TS,tl,tok,F4,S4⟩
    have hi':i < z.toNat:=hi
    have hnl4:=S4 nl _ nlf hnl3
    refine ⟨_,rfl,_,rfl,_,rfl,_,rfl,f,room,rfl,F4,(rB r1 r30).1,(rB r1 r30).2,fun e H5 e0 e1 F5 S5=>?_⟩
    have hnl5:=S5 nl _ nlf hnl4
    refine ⟨_,_,rfl,rfl,f,nl,_,_,ns,rfl,F5,.inl hnl5,nl6,(eB e0 e1 r30).1,(eB e0 e1 r30).2,by decide,by decide,fun v t H6 F6 S6 T6 ok6 sz6 dp6=>?_⟩
    have S46:=S5.trans S6
    have hD6:=S46 D _ Df hD4
    have k46:=keepT_feed F4 S46
    have vl:=TS.length
    refine ⟨_,hD6,small1000 (by omega),Nx.of hi ⟨tv++[v],ts++[t],upd_same,?_,?_,?_,feed_upd F6 Df,?_⟩⟩
    · have k:=keepT_lst (H:=H6) (b:=D) (ys:=tv) (zs:=tv++[v]) hD6
      exact ((TS.mono k46).mono k).append (.cons (T6.mono k) .nil)
    · rw [List.length_append,List.length_singleton,tl]
    · intro u hu
      rcases List.mem_append.mp hu with h | h
      · exact tok u h
      · rw [List.mem_singleton.mp h]
        have d9:(t.depth:Int)≤9:=dp6
        have s9:(t.size:Int)≤1+e:=sz6
        exact ⟨ok6,by omega,by omega⟩
    · intro b o hb eb
      rw [upd_ne (ne_of_none eb hD)]
      exact S46 b o hb (S4 b o hb eb)
  · rintro H4 ⟨tv,ts,hD4,TS,tl,tok,F4,S4⟩
    have hnl4:=S4 nl _ nlf hnl3
    have tl':ts.length=z.toNat:=tl
    have tl1:1≤ts.length:=by omega
    have tl4:ts.length≤4:=by omega
    refine ⟨_,rfl,nl,_,rfl,.inl ⟨SqL.of hnl4,fun a ha=>?_⟩⟩
    have Ga:=Same.new ha (.tup (ns.map V.str))
    refine ⟨_,rfl,D,_,rfl,.inl ⟨SqL.of (Ga _ _ hD4),fun b hb=>?_⟩⟩
    have Gb:=Same.new hb (.tup tv)
    have Gab:=Ga.trans Gb
    have wfs:∀ t ∈ ts,t.wf:=fun t ht=>Tr.ok_wf (fun x hx=>(nok x hx).1) t (tok t ht).1
    refine ⟨_,rfl,_,rfl,_,rfl,nl,D,ns,tv,ts,rfl,Gab _ _ hnl4,Gab _ _ hD4,TS.mono (keepT_same Gab),Nat.le_trans tl4 (by decide),fun t ht=>⟨wfs t ht,Nat.le_trans (tok t ht).2.1 (by decide),by have:=(tok t ht).2.2; omega⟩,fun m H5 S5 m2 m4 mt mc=>?_⟩
    have F5:=(F4.same Gab).same S5
    refine ⟨f,m,rfl,F5,m2,m4,fun p H6 pp mp p9 F6 S6=>?_⟩
    refine ⟨(by show 3≤sizeLine; decide),fun g hg=>?_⟩
    have Gg:=Same.new hg (.tup [.ref a,.ref b,.int p])
    have k6:KeepT (upd (upd H4 a (.tup (ns.map V.str))) b (.tup tv)) (upd H6 g (.tup [.ref a,.ref b,.int p])):=fun c ys h=>Gg _ _ (keepT_feed F5 S6 _ _ (S5 _ _ h))
    refine q g a b ns tv ts p _ upd_same (k6 _ _ (Gb _ _ upd_same)) (by omega) nok nnd (k6 _ _ upd_same) ((TS.mono (keepT_same Gab)).mono k6) tl1 tl4 tok pp (by omega) p9 (by omega) (fun t ht x hx=>by have:=mc t ht x hx; omega) (F6.same Gg) ?_
    exact S03.trans (S4.trans ((SameBut.of (Gab.trans S5)).trans (S6.trans (SameBut.of Gg))))
def spWithin:Sp:=fun vs H Q _=>∃ (v:V) (t:Tr),vs=[v]∧TreeAt H v t∧t.wf∧∀ (p:Addr) (xs:List V) (H':Hp),Same H H'→H' p=some (.tup xs)→TreesAt H' xs t.parts→Q (.ref p) H'
theorem sc_trees_within:FnScope ["tree"] ["tree"] (defScope s_trees_within):=⟨rfl,rfl,rfl,by decide +kernel,rfl,by decide +kernel,by decide +kernel⟩
theorem ok_trees_within {f:Addr} {fd:FuncData} (F:Fun K "trees_within" "trees_within" s_trees_within f fd):FnOk P w K mg base CX0 1 f fd ["tree"] spWithin:=by
  refine F.ok sc_trees_within (fun vs H Q E h=>?_) (fun cdv A outer s H vs Q E hr h=>?_)
  · obtain ⟨v,t,rfl,_⟩:=h
    rfl
  obtain ⟨v,t,rfl,T,wf,q⟩:=h
  refine ⟨_,(pss_cons (ps_if (pt_cmpR op_eq (pe_ix ix_tup (pv 0) pe_int (fun _ _=>rfl)) pe_str (nomark _)) (pss_one (ps_ret (pe_tup pa_nil))) pss_nil)
      (pss_one (ps_ret (pe_slice sl_tup (pv 0) (po_some pe_int) po_none)))),?_⟩
  rcases T.view wf with ⟨a,x,rfl,rfl,_,e⟩ | ⟨a,o,xs,rfl,no,xl,e,TS,_⟩
  · refine ⟨_,rfl,a,_,0,_,rfl,rfl,SqT.of e,rfl,rfl,_,rfl,?_⟩
    refine iteD rfl ?_
    refine ⟨(by show 0≤sizeLine; decide),fun p hp=>?_⟩
    exact q p [] _ (Same.new hp _) upd_same .nil
  · refine ⟨_,rfl,a,_,0,.str o,rfl,rfl,SqT.of e,at0 ..,rfl,_,rfl,?_⟩
    refine iteDF (fun z=>no (by injection z)) ?_
    obtain ⟨c1,c2⟩:=cut1 (.str o) xs xl
    refine ⟨_,rfl,1,rfl,a,_,rfl,SqT.of e,c2,fun p hp=>?_⟩
    rw [c1]
    exact q p xs _ (Same.new hp _) upd_same (TS.mono (keepT_same (Same.new hp _)))
def spNamesIn (n:Nat):Sp:=fun vs H Q _=>∃ (v:V) (t:Tr),vs=[v]∧TreeAt H v t∧t.wf∧t.depth≤n∧t.size≤400∧∀ (l:Addr) (H':Hp),H l=none→Same H H'→H' l=some (.lst (t.names.map V.str))→Q (.ref l) H'
theorem sc_names_in:FnScope ["tree", "names", "part"] ["tree"] (defScope s_names_in):=⟨rfl,rfl,rfl,by decide +kernel,rfl,by decide +kernel,by decide +kernel⟩
theorem names_step {n:Nat} {f:Addr} {fd:FuncData} (F:Fun K "names_in" "names_in" s_names_in f fd) (C_trees_within:Cal P w K mg base 1 "trees_within" ["tree"] spWithin) (C_names_in:Cal P w K mg base (n+2) "names_in" ["tree"] (spNamesIn n)):FnOk P w K mg base CX0 (n+3) f fd ["tree"] (spNamesIn (n+1)):=by
  refine F.ok sc_names_in (fun vs H Q E h=>?_) (fun cdv A outer s H vs Q E hr h=>?_)
  · obtain ⟨v,t,rfl,_⟩:=h
    rfl
  obtain ⟨v,t,rfl,T,wf,dn,sz,q⟩:=h
  refine ⟨_,(pss_cons (ps_if (pt_cmpR op_eq (pe_ix ix_tup (pv 0) pe_int (fun _ _=>rfl)) pe_str (nomark _)) (pss_one (ps_ret (pe_lst (pa_cons (pe_ix ix_tup (pv 0) pe_int (fun _ _=>rfl)) pa_nil)))) pss_nil)
      (pss_cons (ps_set (i:=1) sc_names_in.nd rfl (Or.inl rfl) (pe_lst pa_nil))
      (pss_cons (ps_for PassesOwn.never rfl (pi_tup (pe_cal C_trees_within hr (by omega) rfl (pa_cons (pv 0) pa_nil))) (pg_name (i:=2) sc_names_in.nd rfl (Or.inl rfl)) (pss_one (ps_expr (pe_bm PySem.F.plainAttrs_list PySem.F.slot_list_extend PySem.F.type_list_extend mt_extend (pv 1) (pa_cons (pe_cal C_names_in hr (Nat.le_refl _) rfl (pa_cons (pv 2) pa_nil)) pa_nil)))))
      (pss_one (ps_ret (pv 1)))))),?_⟩
  have wf':=wf
  rcases T.view wf with ⟨a,x,rfl,rfl,_,e⟩ | ⟨a,o,xs0,rfl,no,xl0,e,_,nis⟩
  · refine ⟨_,rfl,a,_,0,_,rfl,rfl,SqT.of e,rfl,rfl,_,rfl,?_⟩
    refine iteD rfl ?_
    refine ⟨_,rfl,a,_,1,_,rfl,rfl,SqT.of e,rfl,(by show 1≤sizeLine; decide),fun p hp=>?_⟩
    exact q p _ hp (Same.new hp _) upd_same
  · refine ⟨_,rfl,a,_,0,.str o,rfl,rfl,SqT.of e,at0 ..,rfl,_,rfl,?_⟩
    refine iteDF (fun z=>no (by injection z)) ?_
    refine ⟨(by show 0≤sizeLine; decide),fun L hL=>?_⟩
    have G0:=Same.new hL (.lst [])
    refine ⟨_,rfl,_,t,rfl,T.mono (keepT_same G0),wf,fun p xs H1 S1 hp TS=>?_⟩
    have hL1:H1 L=some (.lst []):=S1 _ _ upd_same
    have pL:p ≠ L:=fun z=>by rw [z,hL1] at hp; cases hp
    have xl:=TS.length
    have sp:=t.size_parts
    refine ⟨p,rfl,⟨_,SqT.of hp⟩,for_tup (K:=K) (xs:=xs) (fun i σ H'=>∃ x2,σ=[some (.ref a),some (.ref L),x2]∧H' L=some (.lst ((namesL (t.parts.take i)).map V.str))∧SameBut L H1 H') ⟨_,rfl,hL1,SameBut.refl _ _⟩ (fun i σ H' _ hst=>by obtain ⟨_,_,_,h⟩:=hst; exact SqT.of (h _ _ pL hp)) ?_ ?_⟩
    · rintro i x σ H2 hx ⟨x2,rfl,hl,S2⟩
      obtain ⟨u,hu,Tu⟩:=TS.get hx
      have um:=List.mem_of_getElem? hu
      obtain ⟨uw,ud,us⟩:=Tr.parts_mem um wf
      have Tu2:TreeAt H2 x u:=Tu.mono fun b ys h=>S2 b _ (fun z=>by rw [z,hL1] at h; cases h) h
      refine ⟨_,rfl,.inl ⟨rfl,_,SqL.of hl⟩,_,rfl,x,u,rfl,Tu2,uw,by omega,by omega,fun l H3 l0 S3 hl3=>?_⟩
      have nl:=u.names_len
      have nl2:=namesL_len (t.parts.take i)
      have nl3:=sizes_take t.parts i
      refine ⟨L,l,_,_,rfl,rfl,S3 _ _ hl,hl3,?_,?_⟩
      · rw [List.length_map,List.length_map]
        exact small (by omega)
      refine ⟨_,rfl,?_,fun b o hb h=>?_⟩
      · rw [upd_same,namesL_take hu,List.map_append]
      · rw [upd_ne hb]
        exact S3 _ _ (S2 _ _ hb h)
    · rintro σ H2 ⟨x2,rfl,hl,S2⟩
      rw [xl,List.take_length,← t.names_parts nis] at hl
      refine ⟨_,rfl,?_⟩
      refine q L H2 hL (fun b o h=>?_) hl
      exact S2 b o (ne_of_none h hL) (S1 _ _ (G0 _ _ h))
theorem names_zero {f:Addr} {fd:FuncData}:FnOk P w K mg base CX0 2 f fd ["tree"] (spNamesIn 0):=by
  have no:∀ vs H Q E,¬ spNamesIn 0 vs H Q E:=fun vs H Q E h=>by
    obtain ⟨v,t,_,_,_,h1,_⟩:=h
    have:=t.depth_pos
    omega
  exact ⟨fun vs H Q E h=>absurd h (no vs H Q E),fun A outer s H args us vs Q E _ _ _ _ h=>absurd h (no vs H Q E)⟩
theorem ok_names_in {f:Addr} {fd:FuncData} (F:Fun K "names_in" "names_in" s_names_in f fd) (m:mg "names_in" = some (.ref f)) (C_trees_within:Cal P w K mg base 1 "trees_within" ["tree"] spWithin) :
    ∀ n:Nat,FnOk P w K mg base CX0 (n+2) f fd ["tree"] (spNamesIn n)
  | 0=>names_zero
  | n+1=>names_step F C_trees_within (Cal.of F (ok_names_in F m C_trees_within n) m (fun _ _ _ _ _ _ us hl=>by obtain ⟨u0,rfl⟩:=len1 hl; rfl))
def spField:Sp:=fun vs H Q _=>∃ n:Int,vs=[.int n]∧n≤999999∧∀ b:Bool,(b=true↔2 < n∧Pr n)→Q (.bl b) H
theorem sc_is_field:FnScope ["number", "divisor"] ["number"] (defScope s_is_field):=⟨rfl,rfl,rfl,by decide +kernel,rfl,by decide +kernel,by decide +kernel⟩
theorem ok_is_field {f:Addr} {fd:FuncData} (F:Fun K "is_field" "is_field" s_is_field f fd):FnOk P w K mg base CX0 1 f fd ["number"] spField:=by
  refine F.ok sc_is_field (fun vs H Q E h=>?_) (fun cdv A outer s H vs Q E hr h=>?_)
  · obtain ⟨n,rfl,_⟩:=h
    rfl
  obtain ⟨n,rfl,n9,q⟩:=h
  refine ⟨_,(pss_cons (ps_if (PW.pt (pw_or (pt_cmpR op_lt (pv 0) pe_int (nomark _)) (pw_or1 (pt_cmpR op_eq (pe_op op_mod (pv 0) pe_int) pe_int (nomark _))))) (pss_one (ps_ret pe_bl)) pss_nil)
      (pss_cons (ps_set (i:=1) sc_is_field.nd rfl (Or.inl rfl) pe_int)
      (pss_cons (ps_while PassesOwn.never (pt_cmpR op_le (pe_op op_mul (pv 1) (pv 1)) (pv 0) (nomark _)) (pss_cons (ps_if (pt_cmpR op_eq (pe_op op_mod (pv 0) (pv 1)) pe_int (nomark _)) (pss_one (ps_ret pe_bl)) pss_nil)
        (pss_one (ps_set (i:=1) sc_is_field.nd rfl (Or.inl rfl) (pe_op op_add (pv 1) pe_int)))))
      (pss_one (ps_ret pe_bl))))),?_⟩
  refine ⟨_,rfl,_,_,rfl,rfl,_,rfl,?_⟩
  by_cases c:n < 3
  · refine iteD c ?_
    refine iteT ?_
    exact q false ⟨fun z=>(nomatch z),fun z=>by omega⟩
  refine iteDF c ?_
  refine ⟨_,rfl,_,_,rfl,rfl,(by show (0:Int) < _; decide),rfl,_,rfl,?_⟩
  by_cases c2:n % 2=0
  · refine iteD (congrArg V.int c2) ?_
    exact q false ⟨fun z=>(nomatch z),fun z=>absurd z.2 (field_no2 c2 (by omega))⟩
  refine iteDF (fun z=>c2 (V.int.inj z)) ?_
  refine ⟨fun m σ H'=>∃ d:Int,σ=[some (.int n),some (.int d)]∧H'=H∧3≤d∧d≤1001∧d % 2=1∧OddUp n d∧m=(n+3 - d).toNat,⟨_,3,rfl,rfl,by omega,by omega,by omega,odd_start n,rfl⟩,?_⟩
  rintro m σ H' ⟨d,rfl,rfl,d3,d9,d2,u,rfl⟩
  refine ⟨_,rfl,_,rfl,_,_,rfl,rfl,.inl ⟨by omega,by omega⟩,_,rfl,_,_,rfl,rfl,_,rfl,?_⟩
  by_cases c3:d*d≤n
  · refine iteD c3 ?_
    have r1:=small_root n9 d3 c3
    have r2:=root_le d3 c3
    refine ⟨_,fun _ _ h=>h,?_⟩
    refine ⟨_,rfl,_,rfl,_,_,rfl,rfl,(show 0 < d by omega),rfl,_,rfl,?_⟩
    by_cases c4:n % d=0
    · refine iteD (congrArg V.int c4) ?_
      exact q false ⟨fun z=>(nomatch z),fun z=>absurd z.2 (field_nod n9 d3 c3 c4)⟩
    refine iteDF (fun z=>c4 (V.int.inj z)) ?_
    refine ⟨_,rfl,_,_,rfl,rfl,?_⟩
    exact ⟨_,by omega,d+2,rfl,rfl,by omega,by omega,by omega,odd_next u d2 c4,rfl⟩
  · refine iteDF c3 ?_
    exact q true ⟨fun _=>⟨by omega,field_yes (by omega) c2 d3 u (by omega)⟩,fun _=>rfl⟩
abbrev s_ginit:Stmt:=inClass s_game 0
abbrev s_gmix:Stmt:=inClass s_game 1
abbrev s_gworth:Stmt:=inClass s_game 2
abbrev s_gcoins:Stmt:=inClass s_game 3
def gf (a b:Addr) (p:Int) (d:Addr):List (Str × V):=putF "degrees" (.ref d) (putF "field" (.int p) (putF "trees" (.ref b) (putF "switches" (.ref a) [])))
theorem gf_sw (a b:Addr) (p:Int) (d:Addr):(gf a b p d).lookup ("switches" : Str)=some (.ref a):=by
  unfold gf
  rw [lookup_putF,if_neg (by decide +kernel),lookup_putF,if_neg (by decide +kernel),lookup_putF,if_neg (by decide +kernel),lookup_putF,if_pos rfl]
theorem gf_tr (a b:Addr) (p:Int) (d:Addr):(gf a b p d).lookup ("trees" : Str)=some (.ref b):=by
  unfold gf
  rw [lookup_putF,if_neg (by decide +kernel),lookup_putF,if_neg (by decide +kernel),lookup_putF,if_pos rfl]
theorem gf_fi (a b:Addr) (p:Int) (d:Addr):(gf a b p d).lookup ("field" : Str)=some (.int p):=by
  unfold gf
  rw [lookup_putF,if_neg (by decide +kernel),lookup_putF,if_pos rfl]
theorem gf_de (a b:Addr) (p:Int) (d:Addr):(gf a b p d).lookup ("degrees" : Str)=some (.ref d):=by
  unfold gf
  rw [lookup_putF,if_pos rfl]
theorem gf_no (a b:Addr) (p:Int) (d:Addr) {m:Str} (h1:¬ m = "degrees") (h2:¬ m = "field") (h3:¬ m = "trees") (h4:¬ m = "switches"):(gf a b p d).lookup m=none:=by
  unfold gf
  rw [lookup_putF,if_neg h1,lookup_putF,if_neg h2,lookup_putF,if_neg h3,lookup_putF,if_neg h4]
  all_goals rfl
structure GTxt (K:PySem.W.Frag) (mg:Str→Option Value) (C:Addr):Prop where
  cl:Cls K C
  nS:NoAttr K C "switches"
  nT:NoAttr K C "trees"
  nF:NoAttr K C "field"
  nD:NoAttr K C "degrees"
  mgC:mg "Game" = some (.ref C)
theorem bestI_at (g:Nat→Int):∀ n,∃ k,k≤n∧bestI g n=g k
  | 0=>⟨0,Nat.le_refl _,rfl⟩
  | n+1=>by
    obtain ⟨k,hk,e⟩:=bestI_at g n
    unfold bestI
    split
    · exact ⟨n+1,Nat.le_refl _,rfl⟩
    · exact ⟨k,by omega,e⟩
theorem maxD_mem {ns:List Int} (h:ns ≠ []):maxD ns 0 ∈ ns:=by
  cases ns with
  | nil=>exact absurd rfl h
  | cons a r =>
    obtain ⟨k,hk,e⟩:=bestI_at (fun i=>(a::r)[i]?.getD 0) ((a::r).length - 1)
    have e1:maxD (a::r) 0=bestI (fun i=>(a::r)[i]?.getD 0) ((a::r).length - 1):=rfl
    have hl:k < (a::r).length:=by
      rw [List.length_cons] at hk ⊢
      omega
    rw [e1,e]
    show (a::r)[k]?.getD 0 ∈ a::r
    rw [List.getElem?_eq_getElem hl]
    exact List.getElem_mem hl
def degOf (ts:List Tr) (x:Str):Int:=maxD (ts.map fun t=>(t.names.count x:Int)) 0
theorem degOf_lt {ts:List Tr} {x:Str} {p:Int} (h0:ts ≠ []) (h:∀ t ∈ ts,(t.names.count x:Int) < p):degOf ts x < p:=by
  have:=maxD_mem (ns:=ts.map fun t=>(t.names.count x:Int)) (by simpa using h0)
  obtain ⟨t,ht,e⟩:=List.mem_map.mp this
  unfold degOf
  rw [← e]
  exact h t ht
def spDeg:Sp:=fun vs H Q _=>∃ (x:Str) (b:Addr) (tv:List V) (ts:List Tr),vs=[.str x,.ref b]∧H b=some (.tup tv)∧TreesAt H tv ts∧ts ≠ []∧ts.length≤10∧(∀ t ∈ ts,t.wf∧t.depth≤10∧t.size≤400)∧∀ H',Same H H'→Q (.int (degOf ts x)) H'
theorem sc_degree_of:FnScope ["name", "trees"] ["name", "trees"] (defScope s_degree_of):=⟨rfl,rfl,rfl,by decide +kernel,rfl,by decide +kernel,by decide +kernel⟩
theorem ok_degree_of {f:Addr} {fd:FuncData} (F:Fun K "degree_of" "degree_of" s_degree_of f fd) (hmax:mg "max" = none) (C_names_in:Cal P w K mg base 12 "names_in" ["tree"] (spNamesIn 10)):FnOk P w K mg base CX0 13 f fd ["name", "trees"] spDeg:=by
  refine F.ok sc_degree_of (fun vs H Q E h=>?_) (fun cdv A outer s H vs Q E hr h=>?_)
  · obtain ⟨x,b,tv,ts,rfl,_⟩:=h
    rfl
  obtain ⟨x,b,tv,ts,rfl,hb,TS,t0,tl,tok,q⟩:=h
  refine ⟨_,(pss_one (ps_ret (pe_callB (call_max1 rfl) rfl hmax PyProof.Rows.boot_max (pa_cons (pe_comp (N:=["name"]) (ix:=[0]) rfl
        (CompScope.one (by with_unfolding_all rfl) (by decide) rfl (by decide) rfl (by decide +kernel) (by with_unfolding_all rfl) (by with_unfolding_all rfl) (by with_unfolding_all rfl) rfl rfl) rfl
        (pi_tup (pv 1)) (fun _ _ _=>pb_all (pe_bmK K PySem.F.plainAttrs_list PySem.F.slot_list_count PySem.F.type_list_count (mt_countK K) (pe_cal C_names_in hr (by decide) rfl (pa_cons (pv 0) pa_nil)) (pa_cons (pv 1) pa_nil)))) pa_nil)))),?_⟩
  have vl:=TS.length
  refine ⟨_,rfl,b,rfl,⟨_,SqT.of hb⟩,fun D hD=>?_⟩
  refine comp_tup (K:=K) (xs:=tv) (fun i H'=>H' D=some (.lst (((ts.take i).map fun t=>(t.names.count x:Int)).map V.int))∧Same H H') ⟨by rw [upd_same]; rfl,Same.new hD _⟩ (fun i H' _ h=>SqT.of (h.2 _ _ hb)) ?_ ?_
  · rintro i z H2 hz ⟨hl,S2⟩
    obtain ⟨t,ht,T⟩:=TS.get hz
    obtain ⟨tw,td,tz⟩:=tok t (List.mem_of_getElem? ht)
    have hi:i < tv.length:=(List.getElem?_eq_some_iff.mp hz).1
    refine ⟨_,rfl,z,t,rfl,T.mono (keepT_same S2),tw,by omega,tz,fun l H3 l0 S3 hl3=>?_⟩
    refine ⟨.inl ⟨rfl,_,SqL.of hl3⟩,_,rfl,l,_,_,rfl,rfl,SqL.of hl3,flat_strs _,rfl,?_⟩
    rw [count_strs]
    refine ⟨_,S3 _ _ hl,?_,Nx.of hi ⟨?_,fun b' o' e'=>?_⟩⟩
    · rw [List.length_map,List.length_map,List.length_take]
      exact small1000 (by omega)
    · rw [upd_same,List.take_add_one,ht,List.map_append,List.map_append]
      rfl
    · rw [upd_ne (ne_of_none e' hD)]
      exact S3 _ _ (S2 _ _ e')
  · rintro H2 ⟨hl,S2⟩
    rw [vl,List.take_length] at hl
    exact ⟨D,_,rfl,SqL.of hl,by simpa using t0,q H2 S2⟩
def spLookS:Sp:=fun vs H Q _=>∃ (a:Addr) (ns:List Str),vs=[.ref a]∧H a=some (.tup (ns.map V.str))∧ns.Nodup∧ns.length≤10∧∀ H',Same H H'→Q .non H'
theorem in_strs (x:Str) (ns:List Str):inV (.str x) (ns.map V.str)=decide (x ∈ ns):=by
  unfold inV
  induction ns with
  | nil=>rfl
  | cons a r ih =>
    rw [List.map_cons,List.any_cons,ih]
    have e:eqV (.str a) (.str x)=decide (x=a):=by
      show (a == x)=_
      by_cases c:x=a
      · subst c; simp
      · rw [decide_eq_false c]; simpa using fun h=>c h.symm
    rw [e]
    by_cases c1:x=a <;> by_cases c2:x ∈ r <;> simp [c1,c2]
theorem sc_look_switches:FnScope ["switches", "place", "name"] ["switches"] (defScope s_look_switches):=⟨rfl,rfl,rfl,by decide +kernel,rfl,by decide +kernel,by decide +kernel⟩
theorem ok_look_switches {f:Addr} {fd:FuncData} (F:Fun K "look_switches" "look_switches" s_look_switches f fd) (henum:mg "enumerate" = none):FnOk P w K mg base CX0 1 f fd ["switches"] spLookS:=by
  refine F.ok sc_look_switches (fun vs H Q E h=>?_) (fun cdv A outer s H vs Q E hr h=>?_)
  · obtain ⟨a,ns,rfl,_⟩:=h
    rfl
  obtain ⟨a,ns,rfl,ha,nd,nl,q⟩:=h
  refine ⟨_,(pss_one (ps_for PassesOwn.never rfl (pi_enumT rfl henum (pv 0)) (pg_tup rfl (pgs_cons (pg_name (i:=1) sc_look_switches.nd rfl (Or.inl rfl)) (pgs_cons (pg_name (i:=2) sc_look_switches.nd rfl (Or.inl rfl)) pgs_nil)))
      (pss_one (ps_if (pt_cmpR op_in_seq (pv 2) (pe_slice sl_tup (pv 0) po_none (po_some (pv 1))) (by with_unfolding_all rfl)) pss_never pss_nil)))),?_⟩
  refine ⟨_,rfl,a,rfl,⟨_,SqT.of ha⟩,for_enumT (K:=K) (xs:=ns.map V.str) (fun i σ H'=>∃ x1 x2:Option V,σ=[some (.ref a),x1,x2]∧Same H H') ⟨_,_,rfl,Same.refl _⟩ (fun i σ H' _ hst=>by obtain ⟨_,_,_,h⟩:=hst; exact SqT.of (h _ _ ha)) ?_ ?_⟩
  · rintro i z σ H1 t hz ⟨x1,x2,rfl,S1⟩ ht
    have hi:i < (ns.map V.str).length:=(List.getElem?_eq_some_iff.mp hz).1
    rw [List.getElem?_map] at hz
    obtain ⟨x,hx,rfl⟩:=Option.map_eq_some_iff.mp hz
    have G:=Same.new ht (.tup [.int (i:Int),.str x])
    have S2:=S1.trans G
    have hi':i < ns.length:=by rw [List.length_map] at hi; exact hi
    refine ⟨t,_,rfl,SqT.of upd_same,rfl,_,_,rfl,_,_,rfl,rfl,?_⟩
    refine ⟨_,rfl,_,rfl,_,rfl,(i:Int),rfl,a,_,rfl,SqT.of (S2 _ _ ha),?_,fun c hc=>?_⟩
    · rintro ⟨_,h⟩
      rw [HT.sIx_nat] at h
      omega
    · refine ⟨c,_,rfl,.inr (SqT.of upd_same),rfl,?_,_,rfl,?_⟩
      · have ec:cutV (ns.map V.str) none (some (i:Int))=(ns.take i).map V.str:=by
          unfold cutV
          rw [HT.sIx_none,HT.sIx_nat,List.drop_zero,Nat.sub_zero,List.map_take]
          congr 1
          omega
        rw [ec]
        exact flat_strs _
      · have ec:cutV (ns.map V.str) none (some (i:Int))=(ns.take i).map V.str:=by
          unfold cutV
          rw [HT.sIx_none,HT.sIx_nat,List.drop_zero,Nat.sub_zero,List.map_take]
          congr 1
          omega
        show if inV (.str x) (cutV (ns.map V.str) none (some (i:Int)))=true then _ else _
        rw [ec,in_strs,decide_eq_false ?_]
        · refine iteF ?_
          exact ⟨_,_,rfl,S2.trans (Same.new hc _)⟩
        · intro hm
          obtain ⟨j,hj,e⟩:=List.getElem_of_mem hm
          rw [List.length_take] at hj
          rw [List.getElem_take] at e
          have ex:ns[i]=x:=by
            rw [List.getElem?_eq_getElem hi'] at hx
            exact Option.some.inj hx
          exact List.pairwise_iff_getElem.mp nd j i (by omega) hi' (by omega) (e.trans ex.symm)
  · rintro σ H1 ⟨x1,x2,rfl,S1⟩
    exact q H1 S1
theorem names_ok {ns:List Str}:∀ t:Tr,t.ok ns→∀ x ∈ t.names,x ∈ ns
  | .is y,h,x,hx=>by rw [List.mem_singleton.mp hx]; exact h
  | .yes,_,x,hx=>by cases hx
  | .no,_,x,hx=>by cases hx
  | .not a,h,x,hx=>names_ok a h x hx
  | .bin _ a b,⟨_,h1,h2⟩,x,hx=>by
    rcases List.mem_append.mp hx with h | h
    · exact names_ok a h1 x h
    · exact names_ok b h2 x h
def spLookN:Sp:=fun vs H Q _=>∃ (a b:Addr) (ns:List Str) (tv:List V) (ts:List Tr),vs=[.ref b,.ref a]∧H a=some (.tup (ns.map V.str))∧H b=some (.tup tv)∧TreesAt H tv ts∧(∀ t ∈ ts,t.ok ns∧t.wf∧t.depth≤10∧t.size≤400)∧∀ H',Same H H'→Q .non H'
theorem sc_look_names:FnScope ["trees", "switches", "tree", "name"] ["trees", "switches"] (defScope s_look_names):=⟨rfl,rfl,rfl,by decide +kernel,rfl,by decide +kernel,by decide +kernel⟩
theorem ok_look_names {f:Addr} {fd:FuncData} (F:Fun K "look_names" "look_names" s_look_names f fd) (C_names_in:Cal P w K mg base 12 "names_in" ["tree"] (spNamesIn 10)):FnOk P w K mg base CX0 13 f fd ["trees", "switches"] spLookN:=by
  refine F.ok sc_look_names (fun vs H Q E h=>?_) (fun cdv A outer s H vs Q E hr h=>?_)
  · obtain ⟨a,b,ns,tv,ts,rfl,_⟩:=h
    rfl
  obtain ⟨a,b,ns,tv,ts,rfl,ha,hb,TS,tok,q⟩:=h
  refine ⟨_,(pss_one (ps_for PassesOwn.never rfl (pi_tup (pv 0)) (pg_name (i:=2) sc_look_names.nd rfl (Or.inl rfl))
      (pss_one (ps_for PassesOwn.never rfl (pi_list (pe_cal C_names_in hr (by decide) rfl (pa_cons (pv 2) pa_nil))) (pg_name (i:=3) sc_look_names.nd rfl (Or.inl rfl))
        (pss_one (ps_if (pt_cmpR op_notIn_seq (pv 3) (pv 1) (by with_unfolding_all rfl)) pss_never pss_nil)))))),?_⟩
  refine ⟨_,rfl,b,rfl,⟨_,SqT.of hb⟩,for_tup (K:=K) (xs:=tv) (fun i σ H'=>∃ x2 x3:Option V,σ=[some (.ref b),some (.ref a),x2,x3]∧Same H H') ⟨_,_,rfl,Same.refl _⟩ (fun i σ H' _ hst=>by obtain ⟨_,_,_,h⟩:=hst; exact SqT.of (h _ _ hb)) ?_ ?_⟩
  · rintro i z σ H1 hz ⟨x2,x3,rfl,S1⟩
    obtain ⟨t,ht,T⟩:=TS.get hz
    obtain ⟨tk,tw,td,tz⟩:=tok t (List.mem_of_getElem? ht)
    refine ⟨_,rfl,z,t,rfl,T.mono (keepT_same S1),tw,by omega,tz,fun l H2 l0 S2 hl=>?_⟩
    have S12:=S1.trans S2
    refine ⟨l,rfl,⟨_,SqL.of hl⟩,for_list (K:=K) (xs:=t.names.map V.str) (fun j σ H'=>∃ x3:Option V,σ=[some (.ref b),some (.ref a),some z,x3]∧H'=H2) ⟨_,rfl,rfl⟩ (fun j σ H' _ hst=>by obtain ⟨_,_,h⟩:=hst; subst h; exact SqL.of hl) ?_ ?_⟩
    · rintro j y σ H3 hy ⟨y3,rfl,rfl⟩
      rw [List.getElem?_map] at hy
      obtain ⟨x,hx,rfl⟩:=Option.map_eq_some_iff.mp hy
      refine ⟨_,rfl,_,rfl,a,_,rfl,.inr (SqT.of (S12 _ _ ha)),rfl,flat_strs _,_,rfl,?_⟩
      show if (!inV (.str x) (ns.map V.str))=true then _ else _
      rw [in_strs,decide_eq_true (names_ok t tk x (List.mem_of_getElem? hx))]
      refine iteF ?_
      exact ⟨_,rfl,rfl⟩
    · rintro σ H3 ⟨y3,rfl,rfl⟩
      exact ⟨_,_,rfl,S12⟩
  · rintro σ H1 ⟨x2,x3,rfl,S1⟩
    exact q H1 S1
def spLookF:Sp:=fun vs H Q _=>∃ p:Int,vs=[.int p]∧Pr p∧2 < p∧p≤999983∧Q .non H
theorem sc_look_field:FnScope ["field"] ["field"] (defScope s_look_field):=⟨rfl,rfl,rfl,by decide +kernel,rfl,by decide +kernel,by decide +kernel⟩
theorem ok_look_field {f:Addr} {fd:FuncData} (F:Fun K "look_field" "look_field" s_look_field f fd) (hend:∃ t,mg "FIELDS_END" = some (.int 1000000 t)) (C_is_field:Cal P w K mg base 1 "is_field" ["number"] spField):FnOk P w K mg base CX0 2 f fd ["field"] spLookF:=by
  refine F.ok sc_look_field (fun vs H Q E h=>?_) (fun cdv A outer s H vs Q E hr h=>?_)
  · obtain ⟨p,rfl,_⟩:=h
    rfl
  obtain ⟨p,rfl,pp,p2,p9,q⟩:=h
  obtain ⟨te,ge⟩:=hend
  refine ⟨_,(pss_one (ps_if (PW.pt (pw_or (pt_cmpR op_ge (pv 0) (pe_glob (v:=.int 1000000) rfl ge ⟨_,rfl⟩) (nomark _)) (pw_or1 (pt_not (pt_val (pe_cal C_is_field hr (by decide) rfl (pa_cons (pv 0) pa_nil))))))) pss_never pss_nil)),?_⟩
  refine ⟨_,rfl,_,_,rfl,rfl,_,rfl,?_⟩
  refine iteDF (by omega) ?_
  refine ⟨_,rfl,p,rfl,by omega,fun b hb=>⟨b,rfl,?_⟩⟩
  rw [hb.mpr ⟨p2,pp⟩]
  exact iteF q
def spLookZ:Sp:=fun vs H Q _=>∃ (p:Int) (d:Addr) (ns:List Int),vs=[.int p,.ref d]∧H d=some (.lst (ns.map V.int))∧ns ≠ []∧(∀ n ∈ ns,n < p)∧Q .non H
theorem sc_look_size:FnScope ["field", "degrees", "greatest"] ["field", "degrees"] (defScope s_look_size):=⟨rfl,rfl,rfl,by decide +kernel,rfl,by decide +kernel,by decide +kernel⟩
theorem ok_look_size {f:Addr} {fd:FuncData} (F:Fun K "look_size" "look_size" s_look_size f fd) (hmax:mg "max" = none):FnOk P w K mg base CX0 1 f fd ["field", "degrees"] spLookZ:=by
  refine F.ok sc_look_size (fun vs H Q E h=>?_) (fun cdv A outer s H vs Q E hr h=>?_)
  · obtain ⟨p,d,ns,rfl,_⟩:=h
    rfl
  obtain ⟨p,d,ns,rfl,hd,n0,nl,q⟩:=h
  refine ⟨_,(pss_cons (ps_set (i:=2) sc_look_size.nd rfl (Or.inl rfl) (pe_callB (call_max1 rfl) rfl hmax PyProof.Rows.boot_max (pa_cons (pv 1) pa_nil)))
      (pss_one (ps_if (pt_cmpR op_le (pv 0) (pv 2) (nomark _)) pss_never pss_nil))),?_⟩
  refine ⟨_,rfl,d,ns,rfl,SqL.of hd,n0,?_⟩
  refine ⟨_,rfl,_,rfl,_,_,rfl,rfl,_,rfl,?_⟩
  have:=nl _ (maxD_mem n0)
  exact iteDF (by omega) q
theorem putF_len (f:Str) (v:V):∀ fs:List (Str × V),(putF f v fs).length≤fs.length+1
  | []=>Nat.le_refl _
  | (g,u)::r=>by
    have:=putF_len f v r
    unfold putF
    split
    · simp
    · simp only [List.length_cons]
      omega
def gf3 (a b:Addr) (p:Int):List (Str × V):=putF "field" (.int p) (putF "trees" (.ref b) (putF "switches" (.ref a) []))
theorem gf3_sw (a b:Addr) (p:Int):(gf3 a b p).lookup ("switches" : Str)=some (.ref a):=by
  unfold gf3
  rw [lookup_putF,if_neg (by decide +kernel),lookup_putF,if_neg (by decide +kernel),lookup_putF,if_pos rfl]
theorem gf3_tr (a b:Addr) (p:Int):(gf3 a b p).lookup ("trees" : Str)=some (.ref b):=by
  unfold gf3
  rw [lookup_putF,if_neg (by decide +kernel),lookup_putF,if_pos rfl]
def GameAt (C:Addr) (H:Hp) (g a b d:Addr) (p:Int):Prop:=∃ dx,H g=some (.ins C dx (gf a b p d))
theorem GameAt.same {C:Addr} {H H':Hp} {g a b d:Addr} {p:Int} (h:GameAt C H g a b d p) (s:Same H H'):GameAt C H' g a b d p:=by
  obtain ⟨dx,e⟩:=h
  exact ⟨dx,s _ _ e⟩
def spGInit (C:Addr):Sp:=fun vs H Q _=>∃ (g dx a b:Addr) (ns:List Str) (tv:List V) (ts:List Tr) (p:Int),vs=[.ref g,.ref a,.ref b,.int p]∧H g=some (.ins C dx [])∧H a=some (.tup (ns.map V.str))∧ns.Nodup∧ns.length≤10∧H b=some (.tup tv)∧TreesAt H tv ts∧1≤ts.length∧ts.length≤10 ∧
  (∀ t ∈ ts,t.ok ns∧t.wf∧t.depth≤10∧t.size≤400)∧Pr p∧2 < p∧p≤999983∧(ts.length:Int)≤p∧(∀ t ∈ ts,∀ x ∈ ns,(t.names.count x:Int) < p) ∧
  ∀ (d:Addr) (H':Hp),H d=none→GameAt C H' g a b d p→H' d=some (.lst ((ns.map (degOf ts)).map V.int))→SameBut g H H'→Q .non H'
theorem sc_ginit:FnScope ["self", "switches", "trees", "field"] ["self", "switches", "trees", "field"] (defScope s_ginit):=⟨rfl,rfl,rfl,by decide +kernel,rfl,by decide +kernel,by decide +kernel⟩
theorem ok_ginit {f C:Addr} {fd:FuncData} (F:Fun K "__init__" "Game.__init__" s_ginit f fd) (T:GTxt K mg C) (htuple:mg "tuple" = none) (hlen:mg "len" = none) (C_degree_of:Cal P w K mg base 13 "degree_of" ["name", "trees"] spDeg) (C_look_switches:Cal P w K mg base 1 "look_switches" ["switches"] spLookS)
    (C_look_names:Cal P w K mg base 13 "look_names" ["trees", "switches"] spLookN) (C_look_field:Cal P w K mg base 2 "look_field" ["field"] spLookF) (C_look_size:Cal P w K mg base 1 "look_size" ["field", "degrees"] spLookZ):FnOk P w K mg base CX0 14 f fd ["self", "switches", "trees", "field"] (spGInit C):=by
  refine F.ok sc_ginit (fun vs H Q E h=>?_) (fun cdv A outer s H vs Q E hr h=>?_)
  · obtain ⟨g,dx,a,b,ns,tv,ts,p,rfl,_⟩:=h
    rfl
  obtain ⟨g,dx,a,b,ns,tv,ts,p,rfl,hg,ha,nd,nl,hb,TS,t1,t10,tok,pp,p2,p9,tp,tc,q⟩:=h
  refine ⟨_,(pss_cons (ps_fld (pv 0) (pe_callTy call_tuple_of rfl htuple boot_tuple' (pa_cons (pv 1) pa_nil)) rfl)
      (pss_cons (ps_fld (pv 0) (pe_callTy call_tuple_of rfl htuple boot_tuple' (pa_cons (pv 2) pa_nil)) rfl)
      (pss_cons (ps_fld (pv 0) (pv 3) rfl)
      (pss_cons (ps_fld (pv 0) (pe_comp (N:=["self"]) (ix:=[0]) rfl
          (CompScope.one (by with_unfolding_all rfl) (by decide) rfl (by decide) rfl (by decide +kernel) (by with_unfolding_all rfl) (by with_unfolding_all rfl) (by with_unfolding_all rfl) rfl rfl) rfl
          (pi_tup (pe_fld (pv 0) rfl)) (fun _ _ _=>pb_all (pe_cal C_degree_of hr (by decide) rfl (pa_cons (pv 0) (pa_cons (pe_fldK K (pv 1)) pa_nil))))) rfl)
      (pss_cons (ps_expr (pe_cal C_look_switches hr (by decide) rfl (pa_cons (pe_fld (pv 0) rfl) pa_nil)))
      (pss_cons (ps_expr (pe_cal C_look_names hr (by decide) rfl (pa_cons (pe_fld (pv 0) rfl) (pa_cons (pe_fld (pv 0) rfl) pa_nil))))
      (pss_cons (ps_expr (pe_cal C_look_field hr (by decide) rfl (pa_cons (pv 3) pa_nil)))
      (pss_one (ps_expr (pe_cal C_look_size hr (by decide) rfl (pa_cons (pv 3) (pa_cons (pe_op op_cat (pe_fld (pv 0) rfl) (pe_lst (pa_cons (pe_op op_sub (pe_callB call_len_seq rfl hlen PySem.boot_len (pa_cons (pe_fld (pv 0) rfl) pa_nil)) pe_int) pa_nil))) pa_nil)))))))))))),?_⟩
  have nag:a ≠ g:=ne_of ha hg (by intro z; cases z)
  have nbg:b ≠ g:=ne_of hb hg (by intro z; cases z)
  have vl:=TS.length
  refine ⟨_,rfl,a,_,rfl,.inr ⟨SqT.of ha,_,rfl,g,C,dx,[],rfl,hg,T.cl,T.nS,(by show 0 < 1000; decide),?_⟩⟩
  refine ⟨_,rfl,b,_,rfl,.inr ⟨SqT.of (by rw [upd_ne nbg]; exact hb),_,rfl,g,C,dx,_,rfl,upd_same,T.cl,T.nT,(Nat.lt_of_le_of_lt (putF_len _ _ _) (by show 1 < 1000; decide)),?_⟩⟩
  refine ⟨_,rfl,_,rfl,g,C,dx,_,rfl,upd_same,T.cl,T.nF,(Nat.lt_of_le_of_lt (putF_len _ _ _) (Nat.lt_of_le_of_lt (Nat.succ_le_succ (putF_len _ _ _)) (by show 2 < 1000; decide))),?_⟩
  have S3:SameBut g H (upd (upd (upd H g (.ins C dx (putF "switches" (.ref a) []))) g (.ins C dx (putF "trees" (.ref b) (putF "switches" (.ref a) [])))) g (.ins C dx (putF "field" (.int p) (putF "trees" (.ref b) (putF "switches" (.ref a) []))))) :=
    (SameBut.upd _).trans ((SameBut.upd _).trans (SameBut.upd _))
  have hg3:upd (upd (upd H g (.ins C dx (putF "switches" (.ref a) []))) g (.ins C dx (putF "trees" (.ref b) (putF "switches" (.ref a) [])))) g (.ins C dx (putF "field" (.int p) (putF "trees" (.ref b) (putF "switches" (.ref a) [])))) g=some (.ins C dx (gf3 a b p)):=upd_same
  generalize upd (upd (upd H g (.ins C dx (putF "switches" (.ref a) []))) g (.ins C dx (putF "trees" (.ref b) (putF "switches" (.ref a) [])))) g (.ins C dx (putF "field" (.int p) (putF "trees" (.ref b) (putF "switches" (.ref a) []))))=H3 at S3 hg3
  have kT:KeepT H H3:=fun c xs h=>S3 c _ (ne_of h hg (by intro z; cases z)) h
  have ha3:=kT _ _ ha
  have hb3:=kT _ _ hb
  have TS3:=TS.mono kT
  refine ⟨_,rfl,g,C,dx,_,_,rfl,hg3,T.cl,T.nS,gf3_sw ..,a,rfl,⟨_,SqT.of ha3⟩,fun D hD=>?_⟩
  have D0:H D=none:=by
    cases e:H D with
    | none=>rfl
    | some o =>
      by_cases c:D=g
      · rw [c,hg3] at hD; cases hD
      · rw [S3 D o c e] at hD; cases hD
  refine comp_tup (K:=K) (xs:=ns.map V.str) (fun i H'=>H' D=some (.lst (((ns.take i).map (degOf ts)).map V.int))∧Same H3 H') ⟨by rw [upd_same]; rfl,Same.new hD _⟩ (fun i H' _ h=>SqT.of (h.2 _ _ ha3)) ?_ ?_
  · rintro i z H4 hz ⟨hl,S4⟩
    have hi:i < (ns.map V.str).length:=(List.getElem?_eq_some_iff.mp hz).1
    rw [List.getElem?_map] at hz
    obtain ⟨x,hx,rfl⟩:=Option.map_eq_some_iff.mp hz
    refine ⟨_,rfl,_,rfl,g,C,dx,_,_,rfl,S4 _ _ hg3,T.cl,T.nT,gf3_tr ..,x,b,tv,ts,rfl,S4 _ _ hb3,TS3.mono (keepT_same S4),?_,t10,fun t ht=>(tok t ht).2,fun H5 S5=>?_⟩
    · intro e
      rw [e] at t1
      exact absurd t1 (by decide)
    refine ⟨_,S5 _ _ hl,?_,Nx.of hi ⟨?_,fun b' o' e'=>?_⟩⟩
    · rw [List.length_map,List.length_map,List.length_take]
      exact small1000 (by omega)
    · rw [upd_same,List.take_add_one,hx,List.map_append,List.map_append]
      rfl
    · rw [upd_ne (ne_of_none e' hD)]
      exact S5 _ _ (S4 _ _ e')
  rintro H4 ⟨hl,S4⟩
  rw [List.length_map,List.take_length] at hl
  refine ⟨_,rfl,g,C,dx,_,rfl,S4 _ _ hg3,T.cl,T.nD,?_,?_⟩
  · exact Nat.lt_of_le_of_lt (Nat.le_trans (putF_len _ _ _) (Nat.succ_le_succ (Nat.le_trans (putF_len _ _ _) (Nat.succ_le_succ (putF_len _ _ _))))) (by show 3 < 1000; decide)
  have nDg:D ≠ g:=fun z=>by rw [z,hg3] at hD; cases hD
  have hg5:upd H4 g (.ins C dx (gf a b p D)) g=some (.ins C dx (gf a b p D)):=upd_same
  have S5:SameBut g H (upd H4 g (.ins C dx (gf a b p D))):=S3.trans ((SameBut.of S4).trans (SameBut.upd _))
  have hD5:upd H4 g (.ins C dx (gf a b p D)) D=some (.lst ((ns.map (degOf ts)).map V.int)):=by rw [upd_ne nDg]; exact hl
  show _
  generalize he5:upd H4 g (.ins C dx (gf a b p D))=H5 at hg5 S5 hD5
  have kT5:KeepT H H5:=fun c xs h=>S5 c _ (ne_of h hg (by intro z; cases z)) h
  rw [show upd H4 g (.ins C dx (putF "degrees" (.ref D) (gf3 a b p)))=H5 from he5]
  refine ⟨_,rfl,g,C,dx,_,_,rfl,hg5,T.cl,T.nS,gf_sw ..,a,ns,rfl,kT5 _ _ ha,nd,nl,fun H6 S6=>?_⟩
  have kT6:KeepT H H6:=fun c xs h=>S6 _ _ (kT5 c xs h)
  refine ⟨_,rfl,g,C,dx,_,_,rfl,S6 _ _ hg5,T.cl,T.nT,gf_tr ..,_,rfl,g,C,dx,_,_,rfl,S6 _ _ hg5,T.cl,T.nS,gf_sw ..,a,b,ns,tv,ts,rfl,kT6 _ _ ha,kT6 _ _ hb,TS.mono kT6,tok,fun H7 S7=>?_⟩
  have S57:=S6.trans S7
  refine ⟨_,rfl,p,rfl,pp,p2,p9,?_⟩
  refine ⟨_,rfl,_,rfl,g,C,dx,_,_,rfl,S57 _ _ hg5,T.cl,T.nD,gf_de ..,_,rfl,g,C,dx,_,_,rfl,S57 _ _ hg5,T.cl,T.nT,gf_tr ..,b,_,rfl,.inr (SqT.of (S57 _ _ (kT5 _ _ hb))),_,_,rfl,rfl,(by show 1≤sizeLine; decide),fun l hl2=>?_⟩
  have Gl:=Same.new hl2 (.lst [.int ((tv.length:Int) - 1)])
  refine ⟨D,l,_,_,rfl,rfl,Gl _ _ (S57 _ _ hD5),upd_same,?_,fun r hr0=>?_⟩
  · rw [List.length_map,List.length_map]
    exact small (by simp; omega)
  have Gr:=Same.new hr0 (.lst ((ns.map (degOf ts)).map V.int++[.int ((tv.length:Int) - 1)]))
  refine ⟨p,r,ns.map (degOf ts)++[(tv.length:Int) - 1],rfl,?_,by simp,fun n hn=>?_,?_⟩
  · rw [upd_same,List.map_append]
    rfl
  · rcases List.mem_append.mp hn with h | h
    · obtain ⟨x,hx,rfl⟩:=List.mem_map.mp h
      refine degOf_lt ?_ fun t ht=>tc t ht x hx
      intro e
      rw [e] at t1
      exact absurd t1 (by decide)
    · rw [List.mem_singleton.mp h]
      omega
  · have S59:=S57.trans (Gl.trans Gr)
    exact q D _ D0 ⟨dx,S59 _ _ hg5⟩ (S59 _ _ hD5) (S5.trans (SameBut.of S59))
def hor (s p:Int):List Int→Int
  | []=>0
  | a::r=>(hor s p r*s+a) % p
theorem hor_rng {s p:Int} (hp:0 < p):∀ ns,0≤hor s p ns∧hor s p ns < p
  | []=>⟨Int.le_refl 0,hp⟩
  | a::r=>⟨Int.emod_nonneg _ (by omega),Int.emod_lt_of_pos _ hp⟩
def spMix (C:Addr):Sp:=fun vs H Q _=>∃ (g a b d l:Addr) (ns:List Int) (s p:Int),vs=[.ref g,.ref l,.int s]∧GameAt C H g a b d p∧0 < p∧p < 2 ^ 40∧H l=some (.lst (ns.map V.int))∧Q (.int (hor s p ns)) H
theorem sc_gmix:FnScope ["self", "numbers", "s", "total", "number"] ["self", "numbers", "s"] (defScope s_gmix):=⟨rfl,rfl,rfl,by decide +kernel,rfl,by decide +kernel,by decide +kernel⟩
theorem ok_gmix {f C:Addr} {fd:FuncData} (F:Fun K "mix" "Game.mix" s_gmix f fd) (T:GTxt K mg C) (hrev:mg "reversed" = none):FnOk P w K mg base CX0 1 f fd ["self", "numbers", "s"] (spMix C):=by
  refine F.ok sc_gmix (fun vs H Q E h=>?_) (fun cdv A outer s H vs Q E hr h=>?_)
  · obtain ⟨g,a,b,d,l,ns,s,p,rfl,_⟩:=h
    rfl
  obtain ⟨g,a,b,d,l,ns,s,p,rfl,⟨dx,hg⟩,p0,p40,hl,q⟩:=h
  refine ⟨_,(pss_cons (ps_set (i:=3) sc_gmix.nd rfl (Or.inl rfl) pe_int)
      (pss_cons (ps_for PassesOwn.never rfl (pi_revl rfl hrev (pv 1)) (pg_name (i:=4) sc_gmix.nd rfl (Or.inl rfl)) (pss_one (ps_set (i:=3) sc_gmix.nd rfl (Or.inl rfl) (pe_op op_mod (pe_op op_add (pe_op op_mul (pv 3) (pv 2)) (pv 4)) (pe_fld (pv 0) rfl)))))
      (pss_one (ps_ret (pv 3))))),?_⟩
  refine ⟨_,rfl,l,_,rfl,SqL.of hl,for_revl (K:=K) (xs:=ns.map V.int) (fun i σ H'=>∃ (x4:Option V) (t:Int),σ=[some (.ref g),some (.ref l),some (.int s),some (.int t),x4]∧t=hor s p (ns.drop (ns.length - i))∧H'=H)
    ⟨_,0,rfl,by rw [Nat.sub_zero,List.drop_length]; rfl,rfl⟩ (fun i σ H' _ hst=>by obtain ⟨_,_,_,_,h⟩:=hst; subst h; exact SqL.of hl) ?_ ?_⟩
  · rintro i z σ H1 hi hz ⟨x4,t,rfl,rfl,rfl⟩
    rw [List.length_map] at hi
    rw [← List.map_reverse,List.getElem?_map] at hz
    obtain ⟨x,hx,rfl⟩:=Option.map_eq_some_iff.mp hz
    rw [List.getElem?_reverse hi] at hx
    have hr2:=hor_rng (s:=s) p0 (ns.drop (ns.length - i))
    refine ⟨_,rfl,_,rfl,_,_,rfl,rfl,.inl ⟨by omega,by omega⟩,_,rfl,_,_,rfl,rfl,_,rfl,g,C,dx,_,_,rfl,hg,T.cl,T.nF,gf_fi ..,_,_,rfl,rfl,p0,?_⟩
    refine ⟨_,_,rfl,?_,rfl⟩
    have hj:ns.length - 1 - i < ns.length:=by omega
    have ed:ns.drop (ns.length - (i+1))=x::ns.drop (ns.length - i):=by
      have e1:ns.length - (i+1)=ns.length - 1 - i:=by omega
      have e2:ns.length - i=ns.length - 1 - i+1:=by omega
      rw [e1,e2,List.drop_eq_getElem_cons hj]
      congr 1
      rw [List.getElem?_eq_getElem hj] at hx
      exact Option.some.inj hx
    rw [ed]
    rfl
  · rintro σ H1 ⟨x4,t,rfl,rfl,rfl⟩
    rw [List.length_map,Nat.sub_self,List.drop_zero]
    exact ⟨_,rfl,q⟩
def spCoins (C:Addr):Sp:=fun vs H Q _=>∃ (g a b d:Addr) (ns:List Str) (tv:List V) (p:Int),vs=[.ref g]∧GameAt C H g a b d p∧H a=some (.tup (ns.map V.str))∧H b=some (.tup tv)∧Q (.int (if tv.length=1 then (ns.length:Int) else (ns.length:Int)+1)) H
theorem sc_gcoins:FnScope ["self"] ["self"] (defScope s_gcoins):=⟨rfl,rfl,rfl,by decide +kernel,rfl,by decide +kernel,by decide +kernel⟩
theorem ok_gcoins {f C:Addr} {fd:FuncData} (F:Fun K "coins" "Game.coins" s_gcoins f fd) (T:GTxt K mg C) (hlen:mg "len" = none):FnOk P w K mg base CX0 1 f fd ["self"] (spCoins C):=by
  refine F.ok sc_gcoins (fun vs H Q E h=>?_) (fun cdv A outer s H vs Q E hr h=>?_)
  · obtain ⟨g,a,b,d,ns,tv,p,rfl,_⟩:=h
    rfl
  obtain ⟨g,a,b,d,ns,tv,p,rfl,⟨dx,hg⟩,ha,hb,q⟩:=h
  refine ⟨_,(pss_cons (ps_if (pt_cmpR op_eq (pe_callB call_len_seq rfl hlen PySem.boot_len (pa_cons (pe_fld (pv 0) rfl) pa_nil)) pe_int (nomark _)) (pss_one (ps_ret (pe_callB call_len_seq rfl hlen PySem.boot_len (pa_cons (pe_fld (pv 0) rfl) pa_nil)))) pss_nil)
      (pss_one (ps_ret (pe_op op_add (pe_callB call_len_seq rfl hlen PySem.boot_len (pa_cons (pe_fld (pv 0) rfl) pa_nil)) pe_int)))),?_⟩
  refine ⟨_,rfl,g,C,dx,_,_,rfl,hg,T.cl,T.nT,gf_tr ..,b,_,rfl,.inr (SqT.of hb),rfl,_,rfl,?_⟩
  by_cases c:V.int (tv.length:Int)=V.int 1
  · refine iteD c ?_
    have c':tv.length=1:=by have:=V.int.inj c; omega
    rw [if_pos c'] at q
    refine ⟨_,rfl,g,C,dx,_,_,rfl,hg,T.cl,T.nS,gf_sw ..,a,_,rfl,.inr (SqT.of ha),?_⟩
    rw [List.length_map]
    exact q
  · refine iteDF c ?_
    have c':¬ tv.length=1:=fun z=>c (by rw [z]; rfl)
    rw [if_neg c'] at q
    refine ⟨_,rfl,g,C,dx,_,_,rfl,hg,T.cl,T.nS,gf_sw ..,a,_,rfl,.inr (SqT.of ha),?_⟩
    rw [List.length_map]
    exact ⟨_,_,rfl,rfl,q⟩
def spCounts (C:Addr):Sp:=fun vs H Q _=>∃ (g a b d:Addr) (ns:List Str) (tv:List V) (ts:List Tr) (p:Int),vs=[.ref g]∧GameAt C H g a b d p∧H a=some (.tup (ns.map V.str))∧ns.length≤6∧H b=some (.tup tv)∧TreesAt H tv ts∧ts.length≤10∧(∀ t ∈ ts,t.ok ns∧t.depth≤12) ∧
  ∀ (l:Addr) (H':Hp),H l=none→Same H H'→H' l=some (.lst ((ts.map fun t=>(cnt t ns:Int)).map V.int))→Q (.ref l) H'
theorem sc_counts_of:FnScope ["game"] ["game"] (defScope s_counts_of):=⟨rfl,rfl,rfl,by decide +kernel,rfl,by decide +kernel,by decide +kernel⟩
theorem ok_counts_of {f C:Addr} {fd:FuncData} (F:Fun K "counts_of" "counts_of" s_counts_of f fd) (T:GTxt K mg C) (C_count_of:Cal P w K mg base 15 "count_of" ["tree", "switches"] spCount):FnOk P w K mg base CX0 16 f fd ["game"] (spCounts C):=by
  refine F.ok sc_counts_of (fun vs H Q E h=>?_) (fun cdv A outer s H vs Q E hr h=>?_)
  · obtain ⟨g,a,b,d,ns,tv,ts,p,rfl,_⟩:=h
    rfl
  obtain ⟨g,a,b,d,ns,tv,ts,p,rfl,⟨dx,hg⟩,ha,nl,hb,TS,t10,tok,q⟩:=h
  refine ⟨_,(pss_one (ps_ret (pe_comp (N:=["game"]) (ix:=[0]) rfl
      (CompScope.one (by with_unfolding_all rfl) (by decide) rfl (by decide) rfl (by decide +kernel) (by with_unfolding_all rfl) (by with_unfolding_all rfl) (by with_unfolding_all rfl) rfl rfl) rfl
      (pi_tup (pe_fld (pv 0) rfl)) (fun _ _ _=>pb_all (pe_cal C_count_of hr (by decide) rfl (pa_cons (pv 0) (pa_cons (pe_fldK K (pv 1)) pa_nil))))))),?_⟩
  have vl:=TS.length
  refine ⟨_,rfl,g,C,dx,_,_,rfl,hg,T.cl,T.nT,gf_tr ..,b,rfl,⟨_,SqT.of hb⟩,fun D hD=>?_⟩
  refine comp_tup (K:=K) (xs:=tv) (fun i H'=>H' D=some (.lst (((ts.take i).map fun t=>(cnt t ns:Int)).map V.int))∧Same H H') ⟨by rw [upd_same]; rfl,Same.new hD _⟩ (fun i H' _ h=>SqT.of (h.2 _ _ hb)) ?_ ?_
  · rintro i z H2 hz ⟨hl,S2⟩
    obtain ⟨t,ht,Tt⟩:=TS.get hz
    obtain ⟨tk,td⟩:=tok t (List.mem_of_getElem? ht)
    have hi:i < tv.length:=(List.getElem?_eq_some_iff.mp hz).1
    refine ⟨_,rfl,_,rfl,g,C,dx,_,_,rfl,S2 _ _ hg,T.cl,T.nS,gf_sw ..,z,t,a,ns,rfl,Tt.mono (keepT_same S2),tk,td,.inr (S2 _ _ ha),nl,fun H3 S3=>?_⟩
    refine ⟨_,S3 _ _ hl,?_,Nx.of hi ⟨?_,fun b' o' e'=>?_⟩⟩
    · rw [List.length_map,List.length_map,List.length_take]
      exact small1000 (by omega)
    · rw [upd_same,List.take_add_one,ht,List.map_append,List.map_append]
      rfl
    · rw [upd_ne (ne_of_none e' hD)]
      exact S3 _ _ (S2 _ _ e')
  · rintro H2 ⟨hl,S2⟩
    rw [vl,List.take_length] at hl
    exact q D H2 hD S2 hl
def cnts (ts:List Tr) (ns:List Str):List Int:=ts.map fun t=>(cnt t ns:Int)
theorem cnts_len (ts:List Tr) (ns:List Str):(cnts ts ns).length=ts.length:=List.length_map _
def GameOk (C:Addr) (H:Hp) (g:Addr) (ns:List Str) (ts:List Tr) (p:Int):Prop:=∃ (a b d:Addr) (tv:List V),GameAt C H g a b d p∧H a=some (.tup (ns.map V.str))∧ns.length≤6∧H b=some (.tup tv)∧TreesAt H tv ts∧ts.length≤10∧(∀ t ∈ ts,t.ok ns∧t.depth≤12)
theorem GameOk.same {C:Addr} {H H':Hp} {g:Addr} {ns:List Str} {ts:List Tr} {p:Int} (h:GameOk C H g ns ts p) (s:Same H H'):GameOk C H' g ns ts p:=by
  obtain ⟨a,b,d,tv,h1,h2,h3,h4,h5,h6⟩:=h
  exact ⟨a,b,d,tv,h1.same s,s _ _ h2,h3,s _ _ h4,h5.mono (keepT_same s),h6⟩
theorem hor_evl (s p:Int):∀ c:List Int,hor s p c=evl s c % p
  | []=>(Int.zero_emod p).symm
  | a::r=>by
    show (hor s p r*s+a) % p=(a+s*evl s r) % p
    rw [hor_evl s p r,Int.add_emod,Int.mul_emod,Int.emod_emod_of_dvd _ (Int.dvd_refl p),← Int.mul_emod,← Int.add_emod,Int.mul_comm,Int.add_comm]
def spDiff (C:Addr):Sp:=fun vs H Q _=>∃ (g l:Addr) (ns:List Str) (ts:List Tr) (xs:List Int) (p:Int),vs=[.ref g,.ref l]∧GameOk C H g ns ts p∧0 < p∧H l=some (.lst (xs.map V.int))∧xs.length=ts.length ∧
  ∀ (D:Addr) (H':Hp),H D=none→Same H H'→H' D=some (.lst (((ovr xs (cnts ts ns)).map (· % p)).map V.int))→Q (.ref D) H'
theorem sc_differences:FnScope ["game", "claims"] ["game", "claims"] (defScope s_differences):=⟨rfl,rfl,rfl,by decide +kernel,rfl,by decide +kernel,by decide +kernel⟩
theorem ok_differences {f C:Addr} {fd:FuncData} (F:Fun K "differences" "differences" s_differences f fd) (B:Bl mg) (T:GTxt K mg C) (C_counts_of:Cal P w K mg base 16 "counts_of" ["game"] (spCounts C)):FnOk P w K mg base CX0 17 f fd ["game", "claims"] (spDiff C):=by
  refine F.ok sc_differences (fun vs H Q E h=>?_) (fun cdv A outer s H vs Q E hr h=>?_)
  · obtain ⟨g,l,ns,ts,xs,p,rfl,_⟩:=h
    rfl
  obtain ⟨g,l,ns,ts,xs,p,rfl,G,p0,hl,xl,q⟩:=h
  refine ⟨_,(pss_one (ps_ret (pe_comp2 (N:=["game"]) (ix:=[0]) rfl
      (CompScope.one (by with_unfolding_all rfl) (by decide) rfl (by decide) rfl (by decide +kernel) (by with_unfolding_all rfl) (by with_unfolding_all rfl) (by with_unfolding_all rfl) rfl rfl) rfl (by decide +kernel) rfl
      (pi_zip rfl B.zip (pa_cons (pv 1) (pa_cons (pe_cal C_counts_of hr (by decide) rfl (pa_cons (pv 0) pa_nil)) pa_nil)))
      (fun _ _ _=>pb_all (pe_op op_mod (pe_op op_sub (pv 0) (pv 1)) (pe_fldK K (pv 2))))))),?_⟩
  obtain ⟨a,b,d,tv,GA,ha,nl,hb,TS,t10,tok⟩:=G
  refine ⟨_,rfl,_,rfl,g,a,b,d,ns,tv,ts,p,rfl,GA,ha,nl,hb,TS,t10,tok,fun c H1 c0 S1 hc=>?_⟩
  have hl1:=S1 _ _ hl
  have cl:(cnts ts ns).length=ts.length:=cnts_len ts ns
  have ol:(ovr xs (cnts ts ns)).length=xs.length:=ovr_len (xl.trans cl.symm)
  obtain ⟨dx,hg⟩:=GA
  refine ⟨l,c,true,true,rfl,⟨_,SqL.of hl1⟩,⟨_,SqL.of hc⟩,fun D hD=>?_⟩
  refine comp_zip (K:=K) (c:=true) (d:=true) (xs:=xs.map V.int) (ys:=(cnts ts ns).map V.int) (by rw [List.length_map,List.length_map,cl,xl]) (fun i H'=>H' D=some (.lst ((((ovr xs (cnts ts ns)).take i).map (· % p)).map V.int))∧Same H1 H') ⟨by rw [upd_same]; rfl,Same.new hD _⟩ (fun i H' _ h=>⟨SqL.of (h.2 _ _ hl1),SqL.of (h.2 _ _ hc)⟩) ?_ ?_
  · rintro i x y t H2 hx hy ⟨hD2,S2⟩ ht
    have hi:=(List.getElem?_eq_some_iff.mp hx).1
    rw [List.getElem?_map] at hx hy
    obtain ⟨x',hx',rfl⟩:=Option.map_eq_some_iff.mp hx
    obtain ⟨y',hy',rfl⟩:=Option.map_eq_some_iff.mp hy
    have G2:=Same.new ht (.tup [.int x',.int y'])
    have S12:=S2.trans G2
    refine ⟨_,rfl,_,rfl,_,_,rfl,rfl,_,rfl,g,C,dx,_,_,rfl,S12 _ _ (S1 _ _ hg),T.cl,T.nF,gf_fi ..,_,_,rfl,rfl,p0,?_⟩
    refine ⟨_,G2 _ _ hD2,?_,Nx.of hi ⟨?_,fun b' o' e'=>?_⟩⟩
    · rw [List.length_map,List.length_map,List.length_take]
      exact small1000 (by omega)
    · rw [upd_same,ovr_take hx' hy',List.map_append,List.map_append]
      rfl
    · rw [upd_ne (ne_of_none e' hD)]
      exact S12 _ _ e'
  · rintro H2 ⟨hD2,S2⟩
    rw [List.length_map,← ol,List.take_length] at hD2
    exact q D H2 (S1.free hD) (S1.trans S2) hD2
def spAre (C:Addr):Sp:=fun vs H Q _=>∃ (g l:Addr) (ns:List Str) (ts:List Tr) (xs:List Int) (p:Int),vs=[.ref g,.ref l]∧GameOk C H g ns ts p∧0 < p∧H l=some (.lst (xs.map V.int))∧xs.length=ts.length ∧
  ∀ (H':Hp),Same H H'→Q (.bl (wrg p (ovr xs (cnts ts ns)))) H'
theorem sc_are_wrong:FnScope ["game", "claims"] ["game", "claims"] (defScope s_are_wrong):=⟨rfl,rfl,rfl,by decide +kernel,rfl,by decide +kernel,by decide +kernel⟩
theorem ok_are_wrong {f C:Addr} {fd:FuncData} (F:Fun K "are_wrong" "are_wrong" s_are_wrong f fd) (B:Bl mg) (C_differences:Cal P w K mg base 17 "differences" ["game", "claims"] (spDiff C)):FnOk P w K mg base CX0 18 f fd ["game", "claims"] (spAre C):=by
  refine F.ok sc_are_wrong (fun vs H Q E h=>?_) (fun cdv A outer s H vs Q E hr h=>?_)
  · obtain ⟨g,l,ns,ts,xs,p,rfl,_⟩:=h
    rfl
  obtain ⟨g,l,ns,ts,xs,p,rfl,G,p0,hl,xl,q⟩:=h
  refine ⟨_,(pss_one (ps_ret (pe_callB (call_any rfl) rfl B.any boot_any' (pa_cons (pe_comp (N:=[]) (ix:=[]) (cl:=[]) rfl (CompScope.closed (by with_unfolding_all rfl) (by decide) rfl (by decide) rfl (by with_unfolding_all rfl)) rfl
      (pi_list (pe_cal C_differences hr (by decide) rfl (pa_cons (pv 0) (pa_cons (pv 1) pa_nil)))) (fun _ _ _=>pb_all (pe_cmpR op_ne (pv 0) pe_int (nomark _)))) pa_nil)))),?_⟩
  have t10:ts.length≤10:=by obtain ⟨_,_,_,_,_,_,_,_,_,h,_⟩:=G; exact h
  have ol:(ovr xs (cnts ts ns)).length=xs.length:=ovr_len (xl.trans (cnts_len ts ns).symm)
  refine ⟨_,rfl,_,rfl,g,l,ns,ts,xs,p,rfl,G,p0,hl,xl,fun c H1 c0 S1 hc=>?_⟩
  refine ⟨c,rfl,⟨_,SqL.of hc⟩,fun D hD=>?_⟩
  refine comp_list (K:=K) (xs:=((ovr xs (cnts ts ns)).map (· % p)).map V.int) (fun i H'=>H' D=some (.lst (((((ovr xs (cnts ts ns)).map (· % p)).take i).map fun n=>!decide (n=0)).map V.bl))∧Same H1 H') ⟨by rw [upd_same]; rfl,Same.new hD _⟩ (fun i H' _ h=>SqL.of (h.2 _ _ hc)) ?_ ?_
  · rintro i z H2 hz ⟨hD2,S2⟩
    have hi:=(List.getElem?_eq_some_iff.mp hz).1
    rw [List.getElem?_map] at hz
    obtain ⟨n,hn,rfl⟩:=Option.map_eq_some_iff.mp hz
    refine ⟨_,rfl,rfl,?_⟩
    refine ⟨_,hD2,?_,Nx.of hi ⟨?_,fun b' o' e'=>?_⟩⟩
    · rw [List.length_map,List.length_map,List.length_take,List.length_map]
      exact small1000 (by omega)
    · have e1:decide (V.int n=V.int 0)=decide (n=0):=by
        by_cases c:n=0
        · subst c; simp
        · rw [decide_eq_false c,decide_eq_false fun z=>c (V.int.inj z)]
      rw [upd_same,List.take_add_one,hn,List.map_append,List.map_append]
      show some (HO.lst (_++[V.bl (!decide (V.int n=V.int 0))]))=_
      rw [e1]
      rfl
    · rw [upd_ne (ne_of_none e' hD)]
      exact S2 _ _ e'
  · rintro H2 ⟨hD2,S2⟩
    rw [List.length_map,List.take_length] at hD2
    refine ⟨D,_,rfl,SqL.of hD2,?_⟩
    rw [any_ne]
    exact q H2 (S1.trans S2)
def spBlind (C:Addr):Sp:=fun vs H Q _=>∃ (g l:Addr) (ns:List Str) (ts:List Tr) (xs:List Int) (p:Int),vs=[.ref g,.ref l]∧GameOk C H g ns ts p∧0 < p∧p < 10000∧H l=some (.lst (xs.map V.int))∧xs.length=ts.length ∧
  ∀ (D:Addr) (H':Hp),H D=none→Same H H'→H' D=some (.lst ((spots p (ovr xs (cnts ts ns))).map V.int))→Q (.ref D) H'
theorem small10000 {n:Nat} (h:n≤10000):n < sizeLine:=Nat.lt_of_le_of_lt h (by decide)
theorem sc_blind_spots:FnScope ["game", "claims", "above"] ["game", "claims"] (defScope s_blind_spots):=⟨rfl,rfl,rfl,by decide +kernel,rfl,by decide +kernel,by decide +kernel⟩
theorem ok_blind_spots {f C fM:Addr} {fd fdM:FuncData} (F:Fun K "blind_spots" "blind_spots" s_blind_spots f fd) (B:Bl mg) (T:GTxt K mg C)
    (mM:Meth K C "mix" fM) (GM:FnOk P w K mg base CX0 1 fM fdM ["self", "numbers", "s"] (spMix C)) (bM:Binds K fdM ["self", "numbers", "s"] []) (C_differences:Cal P w K mg base 17 "differences" ["game", "claims"] (spDiff C)):FnOk P w K mg base CX0 18 f fd ["game", "claims"] (spBlind C):=by
  refine F.ok sc_blind_spots (fun vs H Q E h=>?_) (fun cdv A outer s H vs Q E hr h=>?_)
  · obtain ⟨g,l,ns,ts,xs,p,rfl,_⟩:=h
    rfl
  obtain ⟨g,l,ns,ts,xs,p,rfl,G,p0,p15,hl,xl,q⟩:=h
  have hr1:Room 1 _:=hr.mono (by decide)
  refine ⟨_,(pss_cons (ps_set (i:=2) sc_blind_spots.nd rfl (Or.inr rfl) (pe_cal C_differences hr (by decide) rfl (pa_cons (pv 0) (pa_cons (pv 1) pa_nil))))
      (pss_one (ps_ret (pe_comp (N:=["game", "above"]) (ix:=[0,2]) rfl
        (CompScope.two (by with_unfolding_all rfl) (by decide) rfl (by decide) rfl (by decide +kernel) (by first | exact Or.inl rfl | exact Or.inr rfl) (by with_unfolding_all rfl) (by with_unfolding_all rfl) (by with_unfolding_all rfl) (by with_unfolding_all rfl) rfl rfl (by with_unfolding_all rfl) rfl rfl) rfl
        (pi_range1 rfl B.range (pa_cons (pe_fld (pv 0) rfl) pa_nil)) (fun _ _ _=>pb_if (pt_cmpR op_eq (pe_meth (pv 1) T.cl mM GM hr1 bM .nil pass0 (pa_cons (pv 2) (pa_cons (pv 0) pa_nil))) pe_int (nomark _)) (pv 0)))))),?_⟩
  refine ⟨_,rfl,_,rfl,g,l,ns,ts,xs,p,rfl,G,p0,hl,xl,fun c H1 c0 S1 hc=>?_⟩
  have G1:=G.same S1
  obtain ⟨a,b,d,tv,⟨dx,hg⟩,_⟩:=G1
  have nomix:(gf a b p d).lookup ("mix" : Str)=none:=gf_no _ _ _ _ (by decide +kernel) (by decide +kernel) (by decide +kernel) (by decide +kernel)
  refine ⟨_,rfl,g,C,dx,_,_,rfl,hg,T.cl,T.nF,gf_fi ..,p,rfl,by omega,by omega,fun D hD=>?_⟩
  refine comp_range (n:=p.toNat) (fun i H'=>H' D=some (.lst ((fnd (fun s=>decide (evl (s:Int) (ovr xs (cnts ts ns)) % p=0)) i).map V.int))∧Same H1 H') ⟨by rw [upd_same]; rfl,Same.new hD _⟩ ?_ ?_
  · rintro i H2 hi ⟨hD2,S2⟩
    refine ⟨_,rfl,g,dx,_,rfl,S2 _ _ hg,nomix,?_⟩
    refine ⟨_,rfl,_,rfl,g,a,b,d,c,_,0+(i:Int),p,rfl,⟨dx,S2 _ _ hg⟩,p0,by omega,S2 _ _ hc,?_⟩
    refine ⟨rfl,_,rfl,?_⟩
    have ei:hor (0+(i:Int)) p ((ovr xs (cnts ts ns)).map (· % p))=evl (i:Int) (ovr xs (cnts ts ns)) % p:=by rw [hor_evl,evl_mod,Int.zero_add]
    rw [ei]
    by_cases e:evl (i:Int) (ovr xs (cnts ts ns)) % p=0
    · refine iteD (by rw [e]) ?_
      refine ⟨_,rfl,_,hD2,?_,Nx.of hi ⟨?_,fun b' o' e'=>?_⟩⟩
      · rw [List.length_map]
        have:=fnd_len (fun s=>decide (evl (s:Int) (ovr xs (cnts ts ns)) % p=0)) i
        exact small10000 (by omega)
      · rw [upd_same,fnd_succ,decide_eq_true e,if_pos rfl,List.map_append,Int.zero_add]
        rfl
      · rw [upd_ne (ne_of_none e' hD)]
        exact S2 _ _ e'
    · refine iteDF (fun z=>e (V.int.inj z)) ?_
      refine Nx.of hi ⟨?_,S2⟩
      rw [fnd_succ,decide_eq_false e,if_neg Bool.false_ne_true,List.append_nil]
      exact hD2
  · rintro H2 ⟨hD2,S2⟩
    exact q D H2 (S1.free hD) (S1.trans S2) hD2
def spPow:Sp:=fun vs H Q _=>∃ (x k:Int),vs=[.int x,.int k]∧0≤k∧k≤100∧0 < x∧x < 2 ^ 40∧Q (.int (x ^ k.toNat)) H
theorem sc_power:FnScope ["number", "times", "told", "step"] ["number", "times"] (defScope s_power):=⟨rfl,rfl,rfl,by decide +kernel,rfl,by decide +kernel,by decide +kernel⟩
theorem ok_power {f:Addr} {fd:FuncData} (F:Fun K "power" "power" s_power f fd) (B:Bl mg):FnOk P w K mg base CX0 1 f fd ["number", "times"] spPow:=by
  refine F.ok sc_power (fun vs H Q E h=>?_) (fun cdv A outer s H vs Q E hr h=>?_)
  · obtain ⟨x,k,rfl,_⟩:=h
    rfl
  obtain ⟨x,k,rfl,k0,k1,x0,x1,q⟩:=h
  refine ⟨_,(pss_cons (ps_set (i:=2) sc_power.nd rfl (Or.inl rfl) pe_int)
      (pss_cons (ps_for PassesOwn.never rfl (pi_range1 rfl B.range (pa_cons (pv 1) pa_nil)) (pg_name (i:=3) sc_power.nd rfl (Or.inl rfl)) (pss_one (ps_set (i:=2) sc_power.nd rfl (Or.inl rfl) (pe_op op_mul (pv 2) (pv 0)))))
      (pss_one (ps_ret (pv 2))))),?_⟩
  refine ⟨_,rfl,k,rfl,by omega,by omega,for_range (n:=k.toNat) (fun i σ H'=>∃ x3:Option V,σ=[some (.int x),some (.int k),some (.int (x ^ i)),x3]∧H'=H) ⟨none,by rw [Int.pow_zero]; rfl,rfl⟩ ?_ ?_⟩
  · rintro i σ H1 hi ⟨x3,rfl,rfl⟩
    refine ⟨_,rfl,_,rfl,_,_,rfl,rfl,.inr ⟨by omega,by omega⟩,?_⟩
    refine ⟨some (.int (0+(i:Int))),?_,rfl⟩
    rw [Int.pow_succ]
    rfl
  · rintro σ H1 ⟨x3,rfl,rfl⟩
    exact ⟨_,rfl,q⟩
def GameD (C:Addr) (H:Hp) (g d:Addr) (ns:List Str) (ts:List Tr) (p:Int):Prop:=∃ (a b:Addr) (tv:List V),GameAt C H g a b d p∧H a=some (.tup (ns.map V.str))∧ns.length≤6∧H b=some (.tup tv)∧TreesAt H tv ts∧ts.length≤10∧(∀ t ∈ ts,t.ok ns∧t.depth≤12)∧H d=some (.lst ((ns.map (degOf ts)).map V.int))∧(∀ x ∈ ns,-(2 ^ 40) < degOf ts x∧degOf ts x < p)
theorem GameD.ok {C:Addr} {H:Hp} {g d:Addr} {ns:List Str} {ts:List Tr} {p:Int} (h:GameD C H g d ns ts p):GameOk C H g ns ts p:=by
  obtain ⟨a,b,tv,h1,h2,h3,h4,h5,h6,h7,_⟩:=h
  exact ⟨a,b,d,tv,h1,h2,h3,h4,h5,h6,h7⟩
theorem GameD.same {C:Addr} {H H':Hp} {g d:Addr} {ns:List Str} {ts:List Tr} {p:Int} (h:GameD C H g d ns ts p) (s:Same H H'):GameD C H' g d ns ts p:=by
  obtain ⟨a,b,tv,h1,h2,h3,h4,h5,h6,h7,h8,h9⟩:=h
  exact ⟨a,b,tv,h1.same s,s _ _ h2,h3,s _ _ h4,h5.mono (keepT_same s),h6,h7,s _ _ h8,h9⟩
theorem GameD.but {C:Addr} {H H':Hp} {f g d:Addr} {ns:List Str} {ts:List Tr} {p:Int} (h:GameD C H g d ns ts p) (hf:∃ xs,H f=some (.lst xs)) (hn:d ≠ f) (s:SameBut f H H'):GameD C H' g d ns ts p:=by
  obtain ⟨a,b,tv,⟨dx,h1⟩,h2,h3,h4,h5,h6,h7,h8,h9⟩:=h
  obtain ⟨xs,hf⟩:=hf
  have n:∀ {c:Addr} {o:HO},H c=some o→(∀ ys,o ≠ .lst ys)→c ≠ f:=fun {c o} hc hn z=>by
    rw [z,hf] at hc
    exact hn _ (Option.some.inj hc).symm
  exact ⟨a,b,tv,⟨dx,s _ _ (n h1 (fun ys z=>by cases z)) h1⟩,s _ _ (n h2 (fun ys z=>by cases z)) h2,h3,s _ _ (n h4 (fun ys z=>by cases z)) h4,h5.mono (fun c xs hc=>s _ _ (n hc (fun ys z=>by cases z)) hc),h6,h7,s _ _ hn h8,h9⟩
def spRows (C:Addr):Sp:=fun vs H Q _=>∃ (g d:Addr) (ns:List Str) (ts:List Tr) (p:Int),vs=[.ref g]∧GameD C H g d ns ts p∧0 < p∧p < 10000∧Q (.int (p ^ (if ts.length=1 then ns.length else ns.length+1))) H
theorem sc_rows_of_coins:FnScope ["game"] ["game"] (defScope s_rows_of_coins):=⟨rfl,rfl,rfl,by decide +kernel,rfl,by decide +kernel,by decide +kernel⟩
theorem ok_rows_of_coins {f C fC:Addr} {fd fdC:FuncData} (F:Fun K "rows_of_coins" "rows_of_coins" s_rows_of_coins f fd) (T:GTxt K mg C) (mC:Meth K C "coins" fC) (GC:FnOk P w K mg base CX0 1 fC fdC ["self"] (spCoins C)) (bC:Binds K fdC ["self"] []) (C_power:Cal P w K mg base 1 "power" ["number", "times"] spPow):FnOk P w K mg base CX0 2 f fd ["game"] (spRows C):=by
  refine F.ok sc_rows_of_coins (fun vs H Q E h=>?_) (fun cdv A outer s H vs Q E hr h=>?_)
  · obtain ⟨g,d,ns,ts,p,rfl,_⟩:=h
    rfl
  obtain ⟨g,d,ns,ts,p,rfl,⟨a,b,tv,⟨dx,hg⟩,ha,nl,hb,TS,t10,_⟩,p0,p15,q⟩:=h
  have hr1:Room 1 _:=hr.mono (by decide)
  refine ⟨_,(pss_one (ps_ret (pe_cal C_power hr (by decide) rfl (pa_cons (pe_fld (pv 0) rfl) (pa_cons (pe_meth0 (pv 0) T.cl mC GC hr1 bC .nil pass0) pa_nil))))),?_⟩
  have noc:(gf a b p d).lookup ("coins" : Str)=none:=gf_no _ _ _ _ (by decide +kernel) (by decide +kernel) (by decide +kernel) (by decide +kernel)
  have vl:=TS.length
  refine ⟨_,rfl,g,C,dx,_,_,rfl,hg,T.cl,T.nF,gf_fi ..,_,rfl,g,dx,_,rfl,hg,noc,g,a,b,d,ns,tv,p,rfl,⟨dx,hg⟩,ha,hb,p,_,rfl,?_,?_,p0,by omega,?_⟩
  · split <;> omega
  · split <;> omega
  · have e:(if tv.length=1 then (ns.length:Int) else (ns.length:Int)+1).toNat=(if ts.length=1 then ns.length else ns.length+1):=by
      rw [vl]
      split <;> omega
    rw [e]
    exact q
def spCaught (C:Addr):Sp:=fun vs H Q _=>∃ (g d:Addr) (ns:List Str) (ts:List Tr) (p:Int),vs=[.ref g]∧GameD C H g d ns ts p∧0 < p∧p < 10000∧Q (.int (cgt p (ns.map (degOf ts)))) H
theorem sc_caught_rows:FnScope ["game", "told", "degree"] ["game"] (defScope s_caught_rows):=⟨rfl,rfl,rfl,by decide +kernel,rfl,by decide +kernel,by decide +kernel⟩
theorem ok_caught_rows {f C:Addr} {fd:FuncData} (F:Fun K "caught_rows" "caught_rows" s_caught_rows f fd) (T:GTxt K mg C):FnOk P w K mg base CX0 1 f fd ["game"] (spCaught C):=by
  refine F.ok sc_caught_rows (fun vs H Q E h=>?_) (fun cdv A outer s H vs Q E hr h=>?_)
  · obtain ⟨g,d,ns,ts,p,rfl,_⟩:=h
    rfl
  obtain ⟨g,d,ns,ts,p,rfl,⟨a,b,tv,⟨dx,hg⟩,ha,nl,hb,TS,t10,tok,hd,dr⟩,p0,p15,q⟩:=h
  refine ⟨_,(pss_cons (ps_set (i:=1) sc_caught_rows.nd rfl (Or.inl rfl) pe_int)
      (pss_cons (ps_for PassesOwn.never rfl (pi_list (pe_fld (pv 0) rfl)) (pg_name (i:=2) sc_caught_rows.nd rfl (Or.inl rfl)) (pss_one (ps_set (i:=1) sc_caught_rows.nd rfl (Or.inl rfl) (pe_op op_mul (pv 1) (pe_op op_sub (pe_fld (pv 0) rfl) (pv 2))))))
      (pss_one (ps_ret (pv 1))))),?_⟩
  refine ⟨_,rfl,g,C,dx,_,_,rfl,hg,T.cl,T.nD,gf_de ..,d,rfl,⟨_,SqL.of hd⟩,for_list (K:=K) (xs:=(ns.map (degOf ts)).map V.int) (fun i σ H'=>∃ x2:Option V,σ=[some (.ref g),some (.int (cgt p ((ns.map (degOf ts)).take i))),x2]∧H'=H) ⟨_,rfl,rfl⟩ (fun i σ H' _ hst=>by obtain ⟨_,_,h⟩:=hst; subst h; exact SqL.of hd) ?_ ?_⟩
  · rintro i z σ H1 hz ⟨x2,rfl,rfl⟩
    rw [List.getElem?_map] at hz
    obtain ⟨n,hn,rfl⟩:=Option.map_eq_some_iff.mp hz
    have nr:-(2 ^ 40) < n∧n < p:=by
      obtain ⟨x,hx,rfl⟩:=List.mem_map.mp (List.mem_of_getElem? hn)
      exact dr x hx
    have et:cgt p ((ns.map (degOf ts)).take (i+1))=cgt p ((ns.map (degOf ts)).take i)*(p - n):=by
      rw [List.take_add_one,hn]
      exact cgt_snoc p _ n
    refine ⟨_,rfl,_,rfl,g,C,dx,_,_,rfl,hg,T.cl,T.nF,gf_fi ..,_,rfl,_,_,rfl,rfl,_,_,rfl,rfl,.inr ⟨by omega,by omega⟩,?_⟩
    refine ⟨some (.int n),?_,rfl⟩
    rw [et]
    rfl
  · rintro σ H1 ⟨x2,rfl,rfl⟩
    rw [List.length_map,List.take_length]
    exact ⟨_,rfl,q⟩
def spLet (C:Addr):Sp:=fun vs H Q _=>∃ (g d l:Addr) (ns:List Str) (ts:List Tr) (xs:List Int) (p:Int),vs=[.ref g,.ref l]∧GameD C H g d ns ts p∧0 < p∧p < 10000∧H l=some (.lst (xs.map V.int))∧xs.length=ts.length ∧
  ∀ (H':Hp),Same H H'→Q (.int (letV p ns.length ts.length (cgt p (ns.map (degOf ts))) (ovr xs (cnts ts ns)))) H'
theorem sc_let_by_at_most:FnScope ["game", "claims", "rows", "by_chance", "blind"] ["game", "claims"] (defScope s_let_by_at_most):=⟨rfl,rfl,rfl,by decide +kernel,rfl,by decide +kernel,by decide +kernel⟩
theorem ok_let_by_at_most {f C:Addr} {fd:FuncData} (F:Fun K "let_by_at_most" "let_by_at_most" s_let_by_at_most f fd) (B:Bl mg) (T:GTxt K mg C) (C_power:Cal P w K mg base 1 "power" ["number", "times"] spPow) (C_rows_of_coins:Cal P w K mg base 2 "rows_of_coins" ["game"] (spRows C)) (C_caught_rows:Cal P w K mg base 1 "caught_rows" ["game"] (spCaught C))
    (C_are_wrong:Cal P w K mg base 18 "are_wrong" ["game", "claims"] (spAre C)) (C_blind_spots:Cal P w K mg base 18 "blind_spots" ["game", "claims"] (spBlind C)):FnOk P w K mg base CX0 19 f fd ["game", "claims"] (spLet C):=by
  refine F.ok sc_let_by_at_most (fun vs H Q E h=>?_) (fun cdv A outer s H vs Q E hr h=>?_)
  · obtain ⟨g,d,l,ns,ts,xs,p,rfl,_⟩:=h
    rfl
  obtain ⟨g,d,l,ns,ts,xs,p,rfl,G,p0,p15,hl,xl,q⟩:=h
  refine ⟨_,(pss_cons (ps_if (pt_not (pt_val (pe_cal C_are_wrong hr (by decide) rfl (pa_cons (pv 0) (pa_cons (pv 1) pa_nil))))) (pss_one (ps_ret (pe_cal C_rows_of_coins hr (by decide) rfl (pa_cons (pv 0) pa_nil)))) pss_nil)
      (pss_cons (ps_set (i:=2) sc_let_by_at_most.nd rfl (Or.inl rfl) (pe_cal C_power hr (by decide) rfl (pa_cons (pe_fld (pv 0) rfl) (pa_cons (pe_callB call_len_seq rfl B.len PySem.boot_len (pa_cons (pe_fld (pv 0) rfl) pa_nil)) pa_nil))))
      (pss_cons (ps_set (i:=3) sc_let_by_at_most.nd rfl (Or.inl rfl) (pe_op op_sub (pv 2) (pe_cal C_caught_rows hr (by decide) rfl (pa_cons (pv 0) pa_nil))))
      (pss_cons (ps_if (pt_cmpR op_eq (pe_callB call_len_seq rfl B.len PySem.boot_len (pa_cons (pe_fld (pv 0) rfl) pa_nil)) pe_int (nomark _)) (pss_one (ps_ret (pv 3))) pss_nil)
      (pss_cons (ps_set (i:=4) sc_let_by_at_most.nd rfl (Or.inl rfl) (pe_callB call_len_seq rfl B.len PySem.boot_len (pa_cons (pe_cal C_blind_spots hr (by decide) rfl (pa_cons (pv 0) (pa_cons (pv 1) pa_nil))) pa_nil)))
      (pss_one (ps_ret (pe_op op_add (pe_op op_mul (pv 4) (pv 2)) (pe_op op_mul (pe_op op_sub (pe_fld (pv 0) rfl) (pv 4)) (pv 3)))))))))),?_⟩
  refine ⟨_,rfl,_,rfl,g,l,ns,ts,xs,p,rfl,G.ok,p0,hl,xl,fun H1 S1=>⟨_,rfl,?_⟩⟩
  have G1:=G.same S1
  have q1:=q H1 S1
  unfold letV at q1
  cases W:wrg p (ovr xs (cnts ts ns)) with
  | false =>
    rw [W,if_neg Bool.false_ne_true] at q1
    refine iteT ?_
    exact ⟨_,rfl,g,d,ns,ts,p,rfl,G1,p0,p15,q1⟩
  | true =>
    rw [W,if_pos rfl] at q1
    refine iteF ?_
    obtain ⟨a,b,tv,⟨dx,hg⟩,ha,nl,hb,TS,t10,tok,hd,dr⟩:=id G1
    have vl:=TS.length
    refine ⟨_,rfl,g,C,dx,_,_,rfl,hg,T.cl,T.nF,gf_fi ..,_,rfl,g,C,dx,_,_,rfl,hg,T.cl,T.nS,gf_sw ..,a,_,rfl,.inr (SqT.of ha),p,_,rfl,by omega,by rw [List.length_map]; omega,p0,by omega,?_⟩
    have en:(((ns.map V.str).length:Nat):Int).toNat=ns.length:=by rw [List.length_map]; omega
    rw [en]
    refine ⟨_,rfl,_,rfl,g,d,ns,ts,p,rfl,G1,p0,p15,_,_,rfl,rfl,?_⟩
    refine ⟨_,rfl,g,C,dx,_,_,rfl,hg,T.cl,T.nT,gf_tr ..,b,_,rfl,.inr (SqT.of hb),rfl,_,rfl,?_⟩
    by_cases c:V.int (tv.length:Int)=V.int 1
    · refine iteD c ?_
      have c':ts.length=1:=by have:=V.int.inj c; omega
      rw [if_pos c'] at q1
      exact ⟨_,rfl,q1⟩
    · refine iteDF c ?_
      have c':¬ ts.length=1:=fun z=>c (by rw [vl,z]; rfl)
      refine ⟨_,rfl,_,rfl,g,l,ns,ts,xs,p,rfl,G1.ok,p0,p15,S1 _ _ hl,xl,fun D H2 D0 S2 hD=>?_⟩
      have q2:=q H2 (S1.trans S2)
      unfold letV at q2
      rw [W,if_pos rfl,if_neg c'] at q2
      have bl:=fnd_len (fun s=>decide (evl (s:Int) (ovr xs (cnts ts ns)) % p=0)) p.toNat
      have bl':(spots p (ovr xs (cnts ts ns))).length≤p.toNat:=bl
      refine ⟨D,_,rfl,.inl (SqL.of hD),?_⟩
      rw [List.length_map]
      refine ⟨_,rfl,_,rfl,_,_,rfl,rfl,.inl ⟨by omega,by omega⟩,_,rfl,g,C,dx,_,_,rfl,S2 _ _ hg,T.cl,T.nF,gf_fi ..,_,rfl,_,_,rfl,rfl,_,rfl,_,_,rfl,rfl,.inl ⟨by omega,by omega⟩,_,_,rfl,rfl,q2⟩
def LET:Str := "abcdefghijklmnopqrstuvwxyz"
def ENDS:Str := " ()"
def isIn (L:Str) (c:Nat):Bool:=!(Builtin.Str.occurrences L ⟨#[c]⟩ 0 L.length 1).isEmpty
def nameB (z:Str):Bool:=decide (1≤z.length) && decide (z.length≤6) && !inV (.str z) (kept.map V.str) && z.cps.toList.all (isIn LET)
def FIG:Str := "0123456789"
def figB (z:Str):Bool:=decide (1≤z.length) && decide (z.length≤12) && !(decide (1 < z.length) && Txt.startswith z "0") && z.cps.toList.all (isIn FIG)
theorem starts_zero {z:Str} {c:Nat} (h:z.cps.toList[0]?=some c):Txt.startswith z "0" = decide (V.str ⟨#[c]⟩=V.str "0"):=by
  have q:=StrLaws.subAt_one z 48 0
  have e0:("0" : Str)=⟨#[48]⟩:=by decide +kernel
  unfold Txt.startswith
  rw [e0]
  by_cases hc:c=48
  · subst hc
    have:=q.mpr h
    rw [show decide (V.str (⟨#[48]⟩:Str)=V.str ⟨#[48]⟩)=true from decide_eq_true rfl]
    simp only [Bool.and_eq_true,decide_eq_true_eq]
    exact this
  · have hne:¬ (V.str (⟨#[c]⟩:Str)=V.str ⟨#[48]⟩):=fun e=>hc (by
      have:=V.str.inj e
      injection this with this
      simpa using this)
    rw [show decide (V.str (⟨#[c]⟩:Str)=V.str ⟨#[48]⟩)=false from decide_eq_false hne]
    rw [Bool.eq_false_iff]
    intro e
    simp only [Bool.and_eq_true,decide_eq_true_eq] at e
    have:=q.mp e
    rw [h] at this
    exact hc (Option.some.inj this)
def spTxt (fB:Str→Bool):Sp:=fun vs H Q _=>∃ z:Str,vs=[.str z]∧z.length≤1000∧∀ H',Same H H'→Q (.bl (fB z)) H'
structure Tx (K:PySem.W.Frag) (mg:Str→Option Value):Prop where
  letters:∃ t,mg "LETTERS" = some (.str LET t)
  longest:∃ t,mg "LONGEST_NAME" = some (.int 6 t)
  keptW:∃ a,mg "KEPT_WORDS" = some (.ref a)∧∀ H,SqT K H a (kept.map V.str)
  ends:∃ t,mg "WORD_ENDS" = some (.str ENDS t)
  within:∃ t,mg "MOST_WITHIN" = some (.int 10 t)
  parts:∃ t,mg "MOST_PARTS" = some (.int 30 t)
  figures:∃ t,mg "FIGURES" = some (.str FIG t)
  most:∃ t,mg "MOST_FIGURES" = some (.int 12 t)
  switches:∃ t,mg "MOST_SWITCHES" = some (.int 6 t)
  trees:∃ t,mg "MOST_TREES" = some (.int 4 t)
  fhead:∃ t,mg "FIELD_HEAD" = some (.str "field " t)
  thead:∃ t,mg "TREE_HEAD" = some (.str "holds " t)
  first:∃ t,mg "FIRST_TREE_ROW" = some (.int 2 t)
  joining:∃ a,mg "JOINING_WORDS" = some (.ref a)∧∀ H,SqT K H a (joinW.map V.str)
theorem len_size (z:Str):z.cps.size=z.length:=rfl
theorem boot_str':bootBuiltins "str" = some (.type "str"):=by decide +kernel
theorem sc_is_name:FnScope ["text"] ["text"] (defScope s_is_name):=⟨rfl,rfl,rfl,by decide +kernel,rfl,by decide +kernel,by decide +kernel⟩
theorem ok_is_name {f:Addr} {fd:FuncData} (F:Fun K "is_name" "is_name" s_is_name f fd) (B:Bl mg) (T:Tx K mg):FnOk P w K mg base CX0 1 f fd ["text"] (spTxt nameB):=by
  refine F.ok sc_is_name (fun vs H Q E h=>?_) (fun cdv A outer s H vs Q E hr h=>?_)
  · obtain ⟨z,rfl,_⟩:=h
    rfl
  obtain ⟨z,rfl,hz,q⟩:=h
  obtain ⟨t1,g1⟩:=T.letters
  obtain ⟨t3,g3⟩:=T.longest
  obtain ⟨ka,g5,hk⟩:=T.keptW
  refine ⟨_,(pss_cons (ps_if (PW.pt (pw_or (pt_cmpR op_lt (pe_callB call_len_str rfl B.len PySem.boot_len (pa_cons (pv 0) pa_nil)) pe_int (nomark _)) (pw_or (pt_cmpR op_gt (pe_callB call_len_str rfl B.len PySem.boot_len (pa_cons (pv 0) pa_nil)) (pe_glob (v:=.int 6) rfl g3 ⟨_,rfl⟩) (nomark _)) (pw_or1 (pt_cmpR op_in_seq (pv 0) (pe_glob (v:=.ref ka) rfl g5 rfl) (by with_unfolding_all rfl)))))) (pss_one (ps_ret pe_bl)) pss_nil)
      (pss_one (ps_ret (pe_callB (call_all rfl) rfl B.all PyProof.Rows.boot_all (pa_cons (pe_comp (N:=[]) (ix:=[]) (cl:=[]) rfl (CompScope.closed (by with_unfolding_all rfl) (by decide) rfl (by decide) rfl (by with_unfolding_all rfl)) rfl (pi_str (pv 0))
        (fun _ _ _=>pb_all (pe_cmpR op_in_str (pv 0) (pe_glob (v:=.str LET) rfl g1 ⟨_,rfl⟩) (by with_unfolding_all rfl)))) pa_nil))))),?_⟩
  have fls:nameB z=false→Q (.bl false) H:=fun e=>by
    have:=q H (Same.refl H)
    rw [e] at this
    exact this
  refine ⟨_,rfl,z,rfl,small hz,_,_,rfl,rfl,_,rfl,?_⟩
  by_cases c1:(z.length:Int) < 1
  · refine iteD c1 (iteT ?_)
    exact fls (by unfold nameB; rw [decide_eq_false (show ¬ 1≤z.length by omega)]; rfl)
  refine iteDF c1 ?_
  refine ⟨_,rfl,z,rfl,small hz,_,_,rfl,rfl,_,rfl,?_⟩
  by_cases c2:(6:Int) < (z.length:Int)
  · refine iteD c2 (iteT ?_)
    exact fls (by unfold nameB; rw [decide_eq_false (show ¬ z.length≤6 by omega)]; simp)
  refine iteDF c2 ?_
  refine ⟨_,rfl,ka,_,rfl,.inr (hk _),rfl,(by decide),_,rfl,?_⟩
  cases c3:inV (.str z) (kept.map V.str) with
  | true =>
    refine iteT ?_
    exact fls (by unfold nameB; rw [c3]; simp)
  | false =>
    refine iteF ?_
    refine ⟨_,rfl,z,rfl,fun D hD=>?_⟩
    refine comp_str (z:=z) (fun i H'=>H' D=some (.lst (((z.cps.toList.take i).map (isIn LET)).map V.bl))∧Same H H') ⟨by rw [upd_same]; rfl,Same.new hD _⟩ ?_ ?_
    · rintro i c H' hc ⟨hl,s0⟩
      have hi:i < z.cps.size:=(Array.getElem?_eq_some_iff.mp hc).1
      rw [len_size] at hi
      refine ⟨_,rfl,_,_,rfl,rfl,_,hl,?_,Nx.of hi ⟨?_,?_⟩⟩
      · rw [List.length_map,List.length_map,List.length_take]
        exact small1000 (by omega)
      · rw [upd_same]
        have ec:z.cps.toList[i]?=some c:=by simpa using hc
        rw [List.take_add_one,ec,List.map_append,List.map_append]
        rfl
      · intro b o e
        rw [upd_ne (ne_of_none e hD)]
        exact s0 b o e
    · rintro H' ⟨hl,s0⟩
      rw [show z.cps.toList.take z.cps.size=z.cps.toList by rw [← Array.length_toList]; exact List.take_length] at hl
      refine ⟨D,_,rfl,SqL.of hl,?_⟩
      have e:nameB z=(z.cps.toList.map (isIn LET)).all id:=by
        unfold nameB
        rw [c3,decide_eq_true (show 1≤z.length by omega),decide_eq_true (show z.length≤6 by omega),List.all_map]
        rfl
      rw [← e]
      exact q H' s0
theorem sc_is_figures:FnScope ["text"] ["text"] (defScope s_is_figures):=⟨rfl,rfl,rfl,by decide +kernel,rfl,by decide +kernel,by decide +kernel⟩
theorem ok_is_figures {f:Addr} {fd:FuncData} (F:Fun K "is_figures" "is_figures" s_is_figures f fd) (B:Bl mg) (T:Tx K mg):FnOk P w K mg base CX0 1 f fd ["text"] (spTxt figB):=by
  refine F.ok sc_is_figures (fun vs H Q E h=>?_) (fun cdv A outer s H vs Q E hr h=>?_)
  · obtain ⟨z,rfl,_⟩:=h
    rfl
  obtain ⟨z,rfl,hz,q⟩:=h
  obtain ⟨t1,g1⟩:=T.figures
  obtain ⟨t3,g3⟩:=T.most
  refine ⟨_,(pss_cons (ps_if (PW.pt (pw_or (pt_cmpR op_lt (pe_callB call_len_str rfl B.len PySem.boot_len (pa_cons (pv 0) pa_nil)) pe_int (nomark _)) (pw_or1 (pt_cmpR op_gt (pe_callB call_len_str rfl B.len PySem.boot_len (pa_cons (pv 0) pa_nil)) (pe_glob (v:=.int 12) rfl g3 ⟨_,rfl⟩) (nomark _))))) (pss_one (ps_ret pe_bl)) pss_nil)
      (pss_cons (ps_if (PW.pt (pw_and (pt_cmpR op_gt (pe_callB call_len_str rfl B.len PySem.boot_len (pa_cons (pv 0) pa_nil)) pe_int (nomark _)) (pw_and1 (pt_val (pe_bm PySem.F.plainAttrs_str PySem.F.slot_str_startswith PySem.F.type_str_startswith mt_startswith (pv 0) (pa_cons pe_str pa_nil)))))) (pss_one (ps_ret pe_bl)) pss_nil)
      (pss_one (ps_ret (pe_callB (call_all rfl) rfl B.all PyProof.Rows.boot_all (pa_cons (pe_comp (N:=[]) (ix:=[]) (cl:=[]) rfl (CompScope.closed (by with_unfolding_all rfl) (by decide) rfl (by decide) rfl (by with_unfolding_all rfl)) rfl (pi_str (pv 0))
        (fun _ _ _=>pb_all (pe_cmpR op_in_str (pv 0) (pe_glob (v:=.str FIG) rfl g1 ⟨_,rfl⟩) (by with_unfolding_all rfl)))) pa_nil)))))),?_⟩
  have fls:figB z=false→Q (.bl false) H:=fun e=>by
    have:=q H (Same.refl H)
    rw [e] at this
    exact this
  refine ⟨_,rfl,z,rfl,small hz,_,_,rfl,rfl,_,rfl,?_⟩
  by_cases c1:(z.length:Int) < 1
  · refine iteD c1 (iteT ?_)
    exact fls (by unfold figB; rw [decide_eq_false (show ¬ 1≤z.length by omega)]; rfl)
  refine iteDF c1 ?_
  refine ⟨_,rfl,z,rfl,small hz,_,_,rfl,rfl,_,rfl,?_⟩
  by_cases c2:(12:Int) < (z.length:Int)
  · refine iteD c2 ?_
    exact fls (by unfold figB; rw [decide_eq_false (show ¬ z.length≤12 by omega)]; simp)
  refine iteDF c2 ?_
  refine ⟨_,rfl,z,rfl,small hz,_,_,rfl,rfl,_,rfl,?_⟩
  by_cases c4:(1:Int) < (z.length:Int)
  · refine iteD c4 ?_
    refine ⟨_,rfl,rfl,z,_,rfl,rfl,_,rfl,?_⟩
    cases c5:Txt.startswith z "0" with
    | true =>
      refine iteT ?_
      exact fls (by unfold figB; rw [c5,decide_eq_true (show 1 < z.length by omega)]; simp)
    | false =>
      refine iteF ?_
      have c3:(decide (1 < z.length) && Txt.startswith z "0")=false:=by rw [c5]; simp
      refine ⟨_,rfl,z,rfl,fun D hD=>?_⟩
      refine comp_str (z:=z) (fun i H'=>H' D=some (.lst (((z.cps.toList.take i).map (isIn FIG)).map V.bl))∧Same H H') ⟨by rw [upd_same]; rfl,Same.new hD _⟩ ?_ ?_
      · rintro i c H' hc ⟨hl,s0⟩
        have hi:i < z.cps.size:=(Array.getElem?_eq_some_iff.mp hc).1
        rw [len_size] at hi
        refine ⟨_,rfl,_,_,rfl,rfl,_,hl,?_,Nx.of hi ⟨?_,?_⟩⟩
        · rw [List.length_map,List.length_map,List.length_take]
          exact small1000 (by omega)
        · rw [upd_same]
          have ec:z.cps.toList[i]?=some c:=by simpa using hc
          rw [List.take_add_one,ec,List.map_append,List.map_append]
          rfl
        · intro b o e
          rw [upd_ne (ne_of_none e hD)]
          exact s0 b o e
      · rintro H' ⟨hl,s0⟩
        rw [show z.cps.toList.take z.cps.size=z.cps.toList by rw [← Array.length_toList]; exact List.take_length] at hl
        refine ⟨D,_,rfl,SqL.of hl,?_⟩
        have e:figB z=(z.cps.toList.map (isIn FIG)).all id:=by
          unfold figB
          rw [c3,decide_eq_true (show 1≤z.length by omega),decide_eq_true (show z.length≤12 by omega),List.all_map]
          rfl
        rw [← e]
        exact q H' s0
  · refine iteDF c4 ?_
    refine iteF ?_
    have c3:(decide (1 < z.length) && Txt.startswith z "0")=false:=by rw [decide_eq_false (show ¬ 1 < z.length by omega)]; rfl
    refine ⟨_,rfl,z,rfl,fun D hD=>?_⟩
    refine comp_str (z:=z) (fun i H'=>H' D=some (.lst (((z.cps.toList.take i).map (isIn FIG)).map V.bl))∧Same H H') ⟨by rw [upd_same]; rfl,Same.new hD _⟩ ?_ ?_
    · rintro i c H' hc ⟨hl,s0⟩
      have hi:i < z.cps.size:=(Array.getElem?_eq_some_iff.mp hc).1
      rw [len_size] at hi
      refine ⟨_,rfl,_,_,rfl,rfl,_,hl,?_,Nx.of hi ⟨?_,?_⟩⟩
      · rw [List.length_map,List.length_map,List.length_take]
        exact small1000 (by omega)
      · rw [upd_same]
        have ec:z.cps.toList[i]?=some c:=by simpa using hc
        rw [List.take_add_one,ec,List.map_append,List.map_append]
        rfl
      · intro b o e
        rw [upd_ne (ne_of_none e hD)]
        exact s0 b o e
    · rintro H' ⟨hl,s0⟩
      rw [show z.cps.toList.take z.cps.size=z.cps.toList by rw [← Array.length_toList]; exact List.take_length] at hl
      refine ⟨D,_,rfl,SqL.of hl,?_⟩
      have e:figB z=(z.cps.toList.map (isIn FIG)).all id:=by
        unfold figB
        rw [c3,decide_eq_true (show 1≤z.length by omega),decide_eq_true (show z.length≤12 by omega),List.all_map]
        rfl
      rw [← e]
      exact q H' s0
theorem let_in:∀ c:Fin 26,isIn LET (97+c.val)=true:=by decide +kernel
theorem let_out:∀ c:Fin 26,isIn ENDS (97+c.val)=false:=by decide +kernel
theorem ends_in:isIn ENDS 32=true∧isIn ENDS 40=true∧isIn ENDS 41=true:=by decide +kernel
theorem isIn_let {c:Nat} (h:97≤c∧c≤122):isIn LET c=true:=by
  have:=let_in ⟨c - 97,by omega⟩
  rwa [show 97+(⟨c - 97,by omega⟩:Fin 26).val=c by show 97+(c - 97)=c; omega] at this
theorem isIn_ends {c:Nat} (h:97≤c∧c≤122):isIn ENDS c=false:=by
  have:=let_out ⟨c - 97,by omega⟩
  rwa [show 97+(⟨c - 97,by omega⟩:Fin 26).val=c by show 97+(c - 97)=c; omega] at this
theorem nameB_K {x:Str} (h:NmK x):nameB x=true:=by
  obtain ⟨⟨_,hl,_⟩,h1,h6,hk⟩:=h
  unfold nameB
  rw [in_strs,decide_eq_true h1,decide_eq_true h6,decide_eq_false hk]
  simp only [Bool.and_self,Bool.not_false,Bool.true_and]
  rw [List.all_eq_true]
  exact fun c hc=>isIn_let (hl c hc)
def stl (l:List Nat):Str:=⟨l.toArray⟩
theorem str_ext {a b:Str} (h:a.cps.toList=b.cps.toList):a=b:=by
  cases a with
  | mk x =>
    cases b with
    | mk y =>
      have:x=y:=Array.toList_inj.mp h
      rw [this]
theorem stl_of (x:Str):stl x.cps.toList=x:=rfl
theorem stl_len (l:List Nat):(stl l).length=l.length:=by
  show l.toArray.size=_
  simp
theorem cat_list (a b:Str):(a++b).cps.toList=a.cps.toList++b.cps.toList:=by simp [Str.cps_append]
theorem lit_po:(("(" : Str)).cps.toList=[40]:=by decide +kernel
theorem lit_pc:((")" : Str)).cps.toList=[41]:=by decide +kernel
theorem lit_sp:((" " : Str)).cps.toList=[32]:=by decide +kernel
theorem lit_not:(("not " : Str)).cps.toList=[110,111,116,32]:=by decide +kernel
theorem lit_n:(("not" : Str)).cps.toList=[110,111,116]:=by decide +kernel
theorem lit_y:(("yes" : Str)).cps.toList=[121,101,115]:=by decide +kernel
theorem lit_o:(("no" : Str)).cps.toList=[110,111]:=by decide +kernel
def Tr.txt:Tr→List Nat
  | .is x=>x.cps.toList
  | .yes=>[121,101,115]
  | .no=>[110,111]
  | .not a=>[110,111,116,32]++a.txt
  | .bin o a b=>[40]++(a.txt++([32]++(o.cps.toList++([32]++(b.txt++[41])))))
def Tr.nm:Tr→Prop
  | .is x=>NmK x | .yes=>True | .no=>True | .not a=>a.nm | .bin w a b=>w ∈ joinW∧a.nm∧b.nm
theorem Tr.ok_nm {ns:List Str} (hn:∀ x ∈ ns,NmK x):∀ t:Tr,t.ok ns→t.nm
  | .is _,h=>hn _ h
  | .yes,_=>trivial
  | .no,_=>trivial
  | .not a,h=>Tr.ok_nm hn a h
  | .bin _ a b,⟨h,h1,h2⟩=>⟨h,Tr.ok_nm hn a h1,Tr.ok_nm hn b h2⟩
theorem join_letters:∀ w ∈ joinW,w.length≤4∧(∀ c ∈ w.cps.toList,97≤c∧c≤122)∧1≤w.length:=by decide +kernel
theorem Tr.txt_len:∀ t:Tr,t.nm→t.txt.length≤8*t.size
  | .is x,h=>by
    have:x.cps.toList.length=x.length:=by rw [Array.length_toList]; rfl
    show x.cps.toList.length≤8
    have:=h.2.2.1
    omega
  | .yes,_=>by decide
  | .no,_=>by decide
  | .not a,h=>by
    have:=Tr.txt_len a h
    show ([110,111,116,32]++a.txt).length≤8*(a.size+1)
    rw [List.length_append]
    simp only [List.length_cons,List.length_nil]
    omega
  | .bin o a b,⟨h,h1,h2⟩=>by
    have e1:=Tr.txt_len a h1
    have e2:=Tr.txt_len b h2
    have e3:o.cps.toList.length=o.length:=by rw [Array.length_toList]; rfl
    have e4:=(join_letters o h).1
    show ([40]++(a.txt++([32]++(o.cps.toList++([32]++(b.txt++[41])))))).length≤8*(a.size+b.size+1)
    simp only [List.length_append,List.length_cons,List.length_nil]
    omega
def Tr.str (t:Tr):Str:=stl t.txt
theorem Tr.str_len {t:Tr} (h:t.nm):t.str.length≤8*t.size:=by
  unfold Tr.str
  rw [stl_len]
  exact t.txt_len h
def spTT (n:Nat):Sp:=fun vs H Q _=>∃ (v:V) (t:Tr),vs=[v]∧TreeAt H v t∧t.nm∧t.depth≤n∧t.size≤100∧∀ H',Same H H'→Q (.str t.str) H'
theorem sc_tree_text:FnScope ["tree", "word", "first", "second"] ["tree"] (defScope s_tree_text):=⟨rfl,rfl,rfl,by decide +kernel,rfl,by decide +kernel,by decide +kernel⟩
theorem join_ne:∀ w ∈ joinW,w ≠ "is" ∧ w ≠ "yes" ∧ w ≠ "no" ∧ w ≠ "not" := by decide +kernel
theorem ne_str {a b:Str} (h:a ≠ b):¬ V.str a=V.str b:=fun z=>h (str_inj z)
theorem txt_not (a:Tr):(Str.empty++("not " : Str))++a.str=(Tr.not a).str:=by
  refine str_ext ?_
  rw [cat_list,cat_list,lit_not]
  show ([]++[110,111,116,32])++a.txt=[110,111,116,32]++a.txt
  rw [List.nil_append]
theorem txt_bin (o:Str) (a b:Tr):((((((Str.empty++("(" : Str))++a.str)++(" " : Str))++o)++(" " : Str))++b.str)++(")" : Str)=(Tr.bin o a b).str:=by
  refine str_ext ?_
  simp only [cat_list,lit_po,lit_sp,lit_pc]
  show ((((((([]:List Nat)++[40])++a.txt)++[32])++o.cps.toList)++[32])++b.txt)++[41]=[40]++(a.txt++([32]++(o.cps.toList++([32]++(b.txt++[41])))))
  simp
theorem txt_yes:Tr.yes.str = "yes" := str_ext lit_y.symm
theorem txt_no:Tr.no.str = "no" := str_ext lit_o.symm
theorem at1 (x y:V) (xs:List V):atI (x::y::xs) 1=some y:=atI_nat (j:=1) rfl
theorem at2 (x y z:V) (xs:List V):atI (x::y::z::xs) 2=some z:=atI_nat (j:=2) rfl
theorem tt_step {n:Nat} {f:Addr} {fd:FuncData} (F:Fun K "tree_text" "tree_text" s_tree_text f fd) (C_tree_text:Cal P w K mg base (n+1) "tree_text" ["tree"] (spTT n)):FnOk P w K mg base CX0 (n+2) f fd ["tree"] (spTT (n+1)):=by
  refine F.ok sc_tree_text (fun vs H Q E h=>?_) (fun cdv A outer s H vs Q E hr h=>?_)
  · obtain ⟨v,t,rfl,_⟩:=h
    rfl
  obtain ⟨v,t,rfl,T,ok,dn,sz,k⟩:=h
  refine ⟨_,(pss_cons (ps_set (i:=1) sc_tree_text.nd rfl (Or.inl rfl) (pe_ix ix_tup (pv 0) pe_int (fun _ _=>rfl)))
      (pss_cons (ps_if (pt_cmpR op_eq (pv 1) pe_str (nomark _)) (pss_one (ps_ret (pe_ix ix_tup (pv 0) pe_int (fun _ _=>rfl)))) pss_nil)
      (pss_cons (ps_if (PW.pt (pw_or (pt_cmpR op_eq (pv 1) pe_str (nomark _)) (pw_or1 (pt_cmpR op_eq (pv 1) pe_str (nomark _))))) (pss_one (ps_ret (pv 1))) pss_nil)
      (pss_cons (ps_set (i:=2) sc_tree_text.nd rfl (Or.inl rfl) (pe_cal C_tree_text hr (Nat.le_refl _) rfl (pa_cons (pe_ix ix_tup (pv 0) pe_int (fun _ _=>rfl)) pa_nil)))
      (pss_cons (ps_if (pt_cmpR op_eq (pv 1) pe_str (nomark _)) (pss_one (ps_ret (pe_fstr (pj_cons pe_str (pj_cons (pe_fmt (pv 2)) pj_nil))))) pss_nil)
      (pss_cons (ps_set (i:=3) sc_tree_text.nd rfl (Or.inl rfl) (pe_cal C_tree_text hr (Nat.le_refl _) rfl (pa_cons (pe_ix ix_tup (pv 0) pe_int (fun _ _=>rfl)) pa_nil)))
      (pss_one (ps_ret (pe_fstr (pj_cons pe_str (pj_cons (pe_fmt (pv 2)) (pj_cons pe_str (pj_cons (pe_fmt (pv 1)) (pj_cons pe_str (pj_cons (pe_fmt (pv 3)) (pj_cons pe_str pj_nil)))))))))))))))),?_⟩
  have z0:(Str.empty).length=0:=by decide +kernel
  cases T with
  | @is a x e =>
    refine ⟨_,rfl,a,_,0,_,rfl,rfl,SqT.of e,at0 ..,?_⟩
    refine ⟨_,rfl,rfl,_,rfl,?_⟩
    refine iteD rfl ?_
    exact ⟨_,rfl,a,_,1,_,rfl,rfl,SqT.of e,at1 ..,k H (Same.refl H)⟩
  | @yes a e =>
    refine ⟨_,rfl,a,_,0,_,rfl,rfl,SqT.of e,at0 ..,?_⟩
    refine ⟨_,rfl,rfl,_,rfl,?_⟩
    refine iteDF (ne_str (by decide +kernel)) ?_
    refine ⟨_,rfl,rfl,_,rfl,?_⟩
    refine iteD rfl ?_
    refine iteT ?_
    have k':=k H (Same.refl H)
    rw [txt_yes] at k'
    exact ⟨_,rfl,k'⟩
  | @no a e =>
    refine ⟨_,rfl,a,_,0,_,rfl,rfl,SqT.of e,at0 ..,?_⟩
    refine ⟨_,rfl,rfl,_,rfl,?_⟩
    refine iteDF (ne_str (by decide +kernel)) ?_
    refine ⟨_,rfl,rfl,_,rfl,?_⟩
    refine iteDF (ne_str (by decide +kernel)) ?_
    refine ⟨_,rfl,rfl,_,rfl,?_⟩
    refine iteD rfl ?_
    have k':=k H (Same.refl H)
    rw [txt_no] at k'
    exact ⟨_,rfl,k'⟩
  | @not a u r e g =>
    have dr:r.depth≤n:=Nat.le_of_succ_le_succ dn
    have sr:r.size+1≤100:=sz
    have lr:=Tr.str_len (t:=r) ok
    refine ⟨_,rfl,a,_,0,_,rfl,rfl,SqT.of e,at0 ..,?_⟩
    refine ⟨_,rfl,rfl,_,rfl,?_⟩
    refine iteDF (ne_str (by decide +kernel)) ?_
    refine ⟨_,rfl,rfl,_,rfl,?_⟩
    refine iteDF (ne_str (by decide +kernel)) ?_
    refine ⟨_,rfl,rfl,_,rfl,?_⟩
    refine iteDF (ne_str (by decide +kernel)) ?_
    refine ⟨_,rfl,a,_,1,_,rfl,rfl,SqT.of e,at1 ..,u,r,rfl,g,ok,dr,by omega,fun H1 S1=>?_⟩
    refine ⟨_,rfl,rfl,_,rfl,?_⟩
    refine iteD rfl ?_
    have l4:(("not " : Str)).length=4:=by decide +kernel
    refine ⟨_,rfl,small (by rw [Str.length_append,z0,l4]; omega),_,rfl,_,rfl,small (by omega),_,rfl,small (by rw [Str.length_append,Str.length_append,z0,l4]; omega),small (by rw [Str.length_append,Str.length_append,z0,l4]; omega),?_⟩
    rw [txt_not]
    exact k H1 S1
  | @bin a o u u2 r r2 e g g2 =>
    obtain ⟨oj,ok1,ok2⟩:=ok
    obtain ⟨n1,n2,n3,n4⟩:=join_ne o oj
    have dd:r.depth≤n∧r2.depth≤n:=by
      have:max r.depth r2.depth+1≤n+1:=dn
      omega
    have sr:r.size+r2.size+1≤100:=sz
    have lr:=Tr.str_len (t:=r) ok1
    have lr2:=Tr.str_len (t:=r2) ok2
    have ol:=(join_letters o oj).1
    refine ⟨_,rfl,a,_,0,.str o,rfl,rfl,SqT.of e,at0 ..,?_⟩
    refine ⟨_,rfl,rfl,_,rfl,?_⟩
    refine iteDF (ne_str n1) ?_
    refine ⟨_,rfl,rfl,_,rfl,?_⟩
    refine iteDF (ne_str n2) ?_
    refine ⟨_,rfl,rfl,_,rfl,?_⟩
    refine iteDF (ne_str n3) ?_
    refine ⟨_,rfl,a,_,1,u,rfl,rfl,SqT.of e,at1 ..,u,r,rfl,g,ok1,dd.1,by omega,fun H1 S1=>?_⟩
    refine ⟨_,rfl,rfl,_,rfl,?_⟩
    refine iteDF (ne_str n4) ?_
    refine ⟨_,rfl,a,_,2,u2,rfl,rfl,SqT.of (S1 _ _ e),at2 ..,u2,r2,rfl,g2.mono (keepT_same S1),ok2,dd.2,by omega,fun H2 S2=>?_⟩
    have l1:(("(" : Str)).length=1:=by decide +kernel
    have l2:((" " : Str)).length=1:=by decide +kernel
    have l3:((")" : Str)).length=1:=by decide +kernel
    refine ⟨_,rfl,small (by simp only [Str.length_append,z0,l1]; omega),_,rfl,_,rfl,small (by omega),_,rfl,small (by simp only [Str.length_append,z0,l1]; omega),_,rfl,small (by simp only [Str.length_append,z0,l1,l2]; omega),_,rfl,_,rfl,small (by omega),_,rfl,small (by simp only [Str.length_append,z0,l1,l2]; omega),_,rfl,small (by simp only [Str.length_append,z0,l1,l2]; omega),_,rfl,_,rfl,small (by omega),_,rfl,small (by simp only [Str.length_append,z0,l1,l2]; omega),_,rfl,small (by simp only [Str.length_append,z0,l1,l2,l3]; omega),small (by simp only [Str.length_append,z0,l1,l2,l3]; omega),?_⟩
    rw [txt_bin]
    exact k H2 (S1.trans S2)
theorem tt_zero {f:Addr} {fd:FuncData}:FnOk P w K mg base CX0 1 f fd ["tree"] (spTT 0):=by
  have no:∀ vs H Q E,¬ spTT 0 vs H Q E:=fun vs H Q E h=>by
    obtain ⟨v,t,_,_,_,h1,_⟩:=h
    have:=t.depth_pos
    omega
  exact ⟨fun vs H Q E h=>absurd h (no vs H Q E),fun A outer s H args us vs Q E _ _ _ _ h=>absurd h (no vs H Q E)⟩
theorem ok_tree_text {f:Addr} {fd:FuncData} (F:Fun K "tree_text" "tree_text" s_tree_text f fd) (m:mg "tree_text" = some (.ref f)) :
    ∀ n:Nat,FnOk P w K mg base CX0 (n+1) f fd ["tree"] (spTT n)
  | 0=>tt_zero
  | n+1=>tt_step F (Cal.of F (ok_tree_text F m n) m (fun _ _ _ _ _ _ us hl=>by obtain ⟨u0,rfl⟩:=len1 hl; rfl))
def jn (c:Nat):List (List Nat)→List Nat
  | []=>[]
  | [a]=>a
  | a::b::r=>a++c::jn c (b::r)
theorem cut_at {c:Nat}:∀ {a b x y:List Nat},c ∉ a→c ∉ b→a++c::x=b++c::y→a=b∧x=y
  | [],[],_,_,_,_,h=>⟨rfl,(List.cons.inj h).2⟩
  | [],d::b,x,y,_,hb,h=>by
    have:=(List.cons.inj h).1
    exact absurd (by rw [this]; exact List.mem_cons_self) hb
  | d::a,[],x,y,ha,_,h=>by
    have:=(List.cons.inj h).1
    exact absurd (by rw [← this]; exact List.mem_cons_self) ha
  | d::a,e::b,x,y,ha,hb,h=>by
    have h':=List.cons.inj h
    have r:=cut_at (fun z=>ha (List.mem_cons_of_mem _ z)) (fun z=>hb (List.mem_cons_of_mem _ z)) h'.2
    exact ⟨by rw [h'.1,r.1],r.2⟩
theorem jn_inj {c:Nat}:∀ {l m:List (List Nat)},l ≠ []→m ≠ []→(∀ a ∈ l,c ∉ a)→(∀ a ∈ m,c ∉ a)→jn c l=jn c m→l=m
  | [],_,h,_,_,_,_=>absurd rfl h
  | _::_,[],_,h,_,_,_=>absurd rfl h
  | [a],[b],_,_,_,_,h=>congrArg (fun z=>[z]) h
  | [a],b::d::r,_,_,hl,_,h=>by
    have:c ∈ a:=by
      rw [show a=b++c::jn c (d::r) from h]
      simp
    exact absurd this (hl a List.mem_cons_self)
  | a::d::r,[b],_,_,_,hm,h=>by
    have:c ∈ b:=by
      rw [show b=a++c::jn c (d::r) from h.symm]
      simp
    exact absurd this (hm b List.mem_cons_self)
  | a::d::r,b::e::s,_,_,hl,hm,h=>by
    have q:=cut_at (hl a List.mem_cons_self) (hm b List.mem_cons_self) (show a++c::jn c (d::r)=b++c::jn c (e::s) from h)
    have:=jn_inj (by simp) (by simp) (fun z hz=>hl z (List.mem_cons_of_mem _ hz)) (fun z hz=>hm z (List.mem_cons_of_mem _ hz)) q.2
    rw [q.1,this]
def cd (x:Str):List Nat:=x.cps.toList
theorem cd_inj {x y:Str} (h:cd x=cd y):x=y:=by
  have:x.cps=y.cps:=Array.toList_inj.mp h
  cases x
  cases y
  exact congrArg Str.mk this
theorem cd_append (x y:Str):cd (x++y)=cd x++cd y:=by
  unfold cd
  rw [Str.cps_append]
  simp
theorem cd_join (c:Nat):∀ ps:List Str,cd (Str.join ⟨#[c]⟩ ps)=jn c (ps.map cd)
  | []=>rfl
  | [a]=>rfl
  | a::b::r=>by
    show cd (a++⟨#[c]⟩++Str.join ⟨#[c]⟩ (b::r))=cd a++c::jn c ((b::r).map cd)
    rw [cd_append,cd_append,cd_join c (b::r)]
    simp [cd]
theorem join_tx (sep:Str):∀ ps:List Str,Txt.join sep ps=Str.join sep ps
  | []=>rfl
  | a::r=>StrLaws.glued_cons sep r a
theorem split_some (x y:Str):Txt.split x y ≠ []:=by
  unfold Txt.split
  split
  · exact List.cons_ne_nil _ _
  · split
    · exact List.cons_ne_nil _ _
    · intro h
      have:=length_partsBetween x (Builtin.Str.occurrences x y 0 x.length (x.length+1)) y.length
      rw [h] at this
      simp at this
theorem map_cd_inj:∀ {l m:List Str},l.map cd=m.map cd→l=m
  | [],[],_=>rfl
  | [],_::_,h=>by simp at h
  | _::_,[],h=>by simp at h
  | a::l,b::m,h=>by
    have h':=List.cons.inj h
    rw [cd_inj h'.1,map_cd_inj h'.2]
theorem split_join {c:Nat} {ps:List Str} (h0:ps ≠ []) (hf:∀ p ∈ ps,c ∉ cd p):Txt.split (Str.join ⟨#[c]⟩ ps) ⟨#[c]⟩=ps:=by
  apply map_cd_inj
  refine jn_inj (c:=c) (fun h=>split_some _ _ (List.map_eq_nil_iff.mp h)) (fun h=>h0 (List.map_eq_nil_iff.mp h)) ?_ ?_ ?_
  · intro a ha
    obtain ⟨p,hp,rfl⟩:=List.mem_map.mp ha
    exact StrLaws.split_free _ c p hp
  · intro a ha
    obtain ⟨p,hp,rfl⟩:=List.mem_map.mp ha
    exact hf p hp
  · rw [← cd_join,← cd_join,StrLaws.join_split]
def numT (n:Int):Str:=toString n
theorem num_cd (m:Nat):cd (numT (m:Int))=(Nat.toDigits 10 m).map Char.toNat:=PySem.W.KIN.signs_num m
theorem num_dig {n:Int} (h0:0≤n):∀ c ∈ cd (numT n),48≤c∧c≤57:=by
  obtain ⟨m,rfl⟩:=Int.eq_ofNat_of_zero_le h0
  intro c hc
  rw [num_cd] at hc
  obtain ⟨ch,hch,e⟩:=List.mem_map.mp hc
  rw [← e]
  exact PyProof.Rows.digit_range (Nat.isDigit_of_mem_toDigits (by decide) (by decide) hch)
theorem num_ne {n:Int} (h0:0≤n):cd (numT n) ≠ []:=by
  obtain ⟨m,rfl⟩:=Int.eq_ofNat_of_zero_le h0
  rw [num_cd]
  intro e
  have h:=PySem.toDigits_len_ge 10 m
  rw [List.map_eq_nil_iff.mp e] at h
  exact absurd h (by decide)
theorem num_len {n:Int} (h0:0≤n) (h1:n < 1000000000000):(numT n).length≤12:=PyProof.Rows.toString_length_le h0 (by decide) (by show n < 10 ^ 12; omega)
theorem num_len1 {n:Int} (h0:0≤n):1≤(numT n).length:=by
  have h:=num_ne h0
  have e:(cd (numT n)).length=(numT n).length:=rfl
  cases c:cd (numT n) with
  | nil=>exact absurd c h
  | cons a r=>rw [← e,c]; simp
theorem num_int {n:Int} (h0:0≤n) (h1:n < 1000000000000):PySem.intText? (numT n)=some n:=by
  have e:=intText_digits (x:=numT n) (num_dig h0) (num_ne h0) (Nat.le_trans (num_len h0 h1) (by decide))
  obtain ⟨m,rfl⟩:=Int.eq_ofNat_of_zero_le h0
  have e2:=num_cd m
  unfold cd at e2
  rw [e2,PySem.W.KIN.val_back] at e
  exact e
theorem head_ne (m:Nat) (h:0 < m):∃ d r,Nat.toDigits 10 m=d::r∧d.toNat ≠ 48:=by
  induction m using Nat.strongRecOn with
  | _ m ih =>
    by_cases c:m < 10
    · refine ⟨Nat.digitChar m,[],Nat.toDigits_of_lt_base c,?_⟩
      have:∀ d:Nat,d < 10→0 < d→(Nat.digitChar d).toNat ≠ 48:=by decide
      exact this m c h
    · have hm:m % 10 < 10:=Nat.mod_lt m (by decide)
      have t:Nat.toDigits 10 (m / 10)++Nat.toDigits 10 (m % 10)=Nat.toDigits 10 (10*(m / 10)+m % 10):=Nat.toDigits_append_toDigits (by decide) (by omega) hm
      rw [Nat.div_add_mod] at t
      obtain ⟨d,r,e,hd⟩:=ih (m / 10) (by omega) (by omega)
      exact ⟨d,r++Nat.toDigits 10 (m % 10),by rw [← t,e]; rfl,hd⟩
theorem fig_in:∀ c:Nat,c < 58→48≤c→isIn FIG c=true:=by decide +kernel
theorem num_fig {n:Int} (h0:0≤n) (h1:n < 1000000000000):figB (numT n)=true:=by
  unfold figB
  rw [decide_eq_true (num_len1 h0),decide_eq_true (num_len h0 h1)]
  have a:(cd (numT n)).all (isIn FIG)=true:=List.all_eq_true.mpr fun c hc=>by
    have:=num_dig h0 c hc
    exact fig_in c (by omega) this.1
  have a':(numT n).cps.toList.all (isIn FIG)=true:=a
  rw [a']
  have b:(decide (1 < (numT n).length) && Txt.startswith (numT n) "0")=false:=by
    by_cases c:1 < (numT n).length
    · obtain ⟨m,rfl⟩:=Int.eq_ofNat_of_zero_le h0
      have hm:0 < m:=by
        apply Nat.pos_of_ne_zero
        intro z
        subst z
        revert c
        decide +kernel
      obtain ⟨d,r,e,hd⟩:=head_ne m hm
      have e0:(numT (m:Int)).cps.toList[0]?=some d.toNat:=by
        have:=num_cd m
        unfold cd at this
        rw [this,e]
        rfl
      have z:decide (V.str (⟨#[d.toNat]⟩:Str)=V.str "0")=false:=decide_eq_false fun z=>by
        have:=V.str.inj z
        have e1:("0" : Str)=⟨#[48]⟩:=by decide +kernel
        rw [e1] at this
        injection this with this
        have:=congrArg Array.toList this
        simp at this
        exact hd this
      rw [starts_zero e0,z,Bool.and_false]
    · rw [decide_eq_false c]
      rfl
  rw [b]
  rfl
def SP:Str:=⟨#[32]⟩
def NL:Str:=⟨#[10]⟩
theorem sp_eq:(" " : Str)=SP:=by decide +kernel
theorem nl_eq:("\n" : Str)=NL:=by decide +kernel
theorem mem_jn {c x:Nat}:∀ {l:List (List Nat)},x ∈ jn c l→x=c∨∃ a ∈ l,x ∈ a
  | [],h=>by cases h
  | [a],h=>.inr ⟨a,List.mem_cons_self,h⟩
  | a::b::r,h=>by
    rcases List.mem_append.mp (show x ∈ a++c::jn c (b::r) from h) with h | h
    · exact .inr ⟨a,List.mem_cons_self,h⟩
    · rcases List.mem_cons.mp h with h | h
      · exact .inl h
      · rcases mem_jn h with h | ⟨d,hd,h⟩
        · exact .inl h
        · exact .inr ⟨d,List.mem_cons_of_mem _ hd,h⟩
theorem sum_le {l:List Str} {b:Nat} (h:∀ p ∈ l,p.length≤b):(l.map (·.length)).sum≤l.length*b:=by
  induction l with
  | nil=>simp
  | cons a r ih =>
    have h1:=h a List.mem_cons_self
    have h2:=ih fun p hp=>h p (List.mem_cons_of_mem _ hp)
    simp only [List.map_cons,List.sum_cons,List.length_cons]
    rw [Nat.succ_mul]
    omega
theorem log_small {n:Int} (h0:0≤n) (h1:n < 1000000000000):n.natAbs.log2 < 1920:=by
  have h2:n.natAbs < 2 ^ 40:=by omega
  by_cases c:n.natAbs=0
  · rw [c]
    decide
  · have:=(Nat.log2_lt c).mpr h2
    omega
theorem cut_from {xs:List V} {k:Nat} (hk:k≤xs.length):cutV xs (some (k:Int)) none=xs.drop k:=by
  unfold cutV
  rw [HT.sIx_none,HT.sIx_nat,Nat.min_eq_left hk]
  exact List.take_of_length_le (by rw [List.length_drop]; exact Nat.le_refl _)
abbrev s_scan:Stmt:=top 30
abbrev s_sinit:Stmt:=inClass s_scan 0
abbrev s_senter:Stmt:=inClass s_scan 1
abbrev s_ssees:Stmt:=inClass s_scan 2
abbrev s_stake:Stmt:=inClass s_scan 3
abbrev s_sword:Stmt:=inClass s_scan 4
abbrev s_sfinish:Stmt:=inClass s_scan 5
structure STxt (K:PySem.W.Frag) (mg:Str→Option Value) (C:Addr):Prop where
  cl:Cls K C
  nX:NoAttr K C "text"
  nR:NoAttr K C "row"
  nW:NoAttr K C "most_within"
  nP:NoAttr K C "most_parts"
  nL:NoAttr K C "place"
  nN:NoAttr K C "parts"
  mgC:mg "Scan" = some (.ref C)
theorem putF_has (f:Str) (v:V):∀ (fs:List (Str × V)) (u:V),fs.lookup f=some u→(putF f v fs).length=fs.length
  | [],u,h=>by cases h
  | (g,x)::r,u,h=>by
    unfold putF
    by_cases e:g=f
    · rw [if_pos e]
      rfl
    · rw [if_neg e]
      have e':(f == g)=false:=by simpa using fun z=>e z.symm
      simp only [List.lookup,e'] at h
      rw [List.length_cons,List.length_cons,putF_has f v r u h]
structure SF (T:Str) (p n:Nat) (fs:List (Str × V)):Prop where
  text:fs.lookup ("text" : Str)=some (.str T)
  mw:fs.lookup ("most_within" : Str)=some (.int 10)
  mp:fs.lookup ("most_parts" : Str)=some (.int 30)
  place:fs.lookup ("place" : Str)=some (.int (p:Int))
  parts:fs.lookup ("parts" : Str)=some (.int (n:Int))
  no1:fs.lookup ("enter" : Str)=none
  no2:fs.lookup ("sees" : Str)=none
  no3:fs.lookup ("take" : Str)=none
  no4:fs.lookup ("word" : Str)=none
  no5:fs.lookup ("finish" : Str)=none
  len:fs.length≤6
theorem SF.toPlace {T:Str} {p n:Nat} {fs:List (Str × V)} (h:SF T p n fs) (p':Nat):SF T p' n (putF "place" (.int (p':Int)) fs):=by
  refine ⟨?_,?_,?_,?_,?_,?_,?_,?_,?_,?_,?_⟩
  · rw [lookup_putF,if_neg (by decide +kernel)]; exact h.text
  · rw [lookup_putF,if_neg (by decide +kernel)]; exact h.mw
  · rw [lookup_putF,if_neg (by decide +kernel)]; exact h.mp
  · rw [lookup_putF,if_pos rfl]
  · rw [lookup_putF,if_neg (by decide +kernel)]; exact h.parts
  · rw [lookup_putF,if_neg (by decide +kernel)]; exact h.no1
  · rw [lookup_putF,if_neg (by decide +kernel)]; exact h.no2
  · rw [lookup_putF,if_neg (by decide +kernel)]; exact h.no3
  · rw [lookup_putF,if_neg (by decide +kernel)]; exact h.no4
  · rw [lookup_putF,if_neg (by decide +kernel)]; exact h.no5
  · rw [putF_has _ _ _ _ h.place]; exact h.len
theorem SF.toParts {T:Str} {p n:Nat} {fs:List (Str × V)} (h:SF T p n fs) (n':Nat):SF T p n' (putF "parts" (.int (n':Int)) fs):=by
  refine ⟨?_,?_,?_,?_,?_,?_,?_,?_,?_,?_,?_⟩
  · rw [lookup_putF,if_neg (by decide +kernel)]; exact h.text
  · rw [lookup_putF,if_neg (by decide +kernel)]; exact h.mw
  · rw [lookup_putF,if_neg (by decide +kernel)]; exact h.mp
  · rw [lookup_putF,if_neg (by decide +kernel)]; exact h.place
  · rw [lookup_putF,if_pos rfl]
  · rw [lookup_putF,if_neg (by decide +kernel)]; exact h.no1
  · rw [lookup_putF,if_neg (by decide +kernel)]; exact h.no2
  · rw [lookup_putF,if_neg (by decide +kernel)]; exact h.no3
  · rw [lookup_putF,if_neg (by decide +kernel)]; exact h.no4
  · rw [lookup_putF,if_neg (by decide +kernel)]; exact h.no5
  · rw [putF_has _ _ _ _ h.parts]; exact h.len
def sfs (T:Str) (k:Int):List (Str × V):=putF "parts" (.int 0) (putF "place" (.int 0) (putF "most_parts" (.int 30) (putF "most_within" (.int 10) (putF "row" (.int k) (putF "text" (.str T) [])))))
theorem sfs_ok (T:Str) (k:Int):SF T 0 0 (sfs T k):=by
  have no:∀ m:Str,m ≠ "parts" → m ≠ "place" → m ≠ "most_parts" → m ≠ "most_within" → m ≠ "row" → m ≠ "text" → (sfs T k).lookup m=none:=fun m h1 h2 h3 h4 h5 h6=>by
    unfold sfs
    rw [lookup_putF,if_neg h1,lookup_putF,if_neg h2,lookup_putF,if_neg h3,lookup_putF,if_neg h4,lookup_putF,if_neg h5,lookup_putF,if_neg h6]
    rfl
  refine ⟨?_,?_,?_,?_,?_,no _ (by decide +kernel) (by decide +kernel) (by decide +kernel) (by decide +kernel) (by decide +kernel) (by decide +kernel),no _ (by decide +kernel) (by decide +kernel) (by decide +kernel) (by decide +kernel) (by decide +kernel) (by decide +kernel),no _ (by decide +kernel) (by decide +kernel) (by decide +kernel) (by decide +kernel) (by decide +kernel) (by decide +kernel),no _ (by decide +kernel) (by decide +kernel) (by decide +kernel) (by decide +kernel) (by decide +kernel) (by decide +kernel),no _ (by decide +kernel) (by decide +kernel) (by decide +kernel) (by decide +kernel) (by decide +kernel) (by decide +kernel),?_⟩
  · unfold sfs
    rw [lookup_putF,if_neg (by decide +kernel),lookup_putF,if_neg (by decide +kernel),lookup_putF,if_neg (by decide +kernel),lookup_putF,if_neg (by decide +kernel),lookup_putF,if_neg (by decide +kernel),lookup_putF,if_pos rfl]
  · unfold sfs
    rw [lookup_putF,if_neg (by decide +kernel),lookup_putF,if_neg (by decide +kernel),lookup_putF,if_neg (by decide +kernel),lookup_putF,if_pos rfl]
  · unfold sfs
    rw [lookup_putF,if_neg (by decide +kernel),lookup_putF,if_neg (by decide +kernel),lookup_putF,if_pos rfl]
  · unfold sfs
    rw [lookup_putF,if_neg (by decide +kernel),lookup_putF,if_pos rfl]
    rfl
  · unfold sfs
    rw [lookup_putF,if_pos rfl]
    rfl
  · unfold sfs
    refine Nat.le_trans (putF_len _ _ _) (Nat.succ_le_succ (Nat.le_trans (putF_len _ _ _) (Nat.succ_le_succ (Nat.le_trans (putF_len _ _ _) (Nat.succ_le_succ (Nat.le_trans (putF_len _ _ _) (Nat.succ_le_succ (Nat.le_trans (putF_len _ _ _) (Nat.succ_le_succ (putF_len _ _ _))))))))))
def ScanAt (C:Addr) (H:Hp) (sc:Addr) (T:Str) (p n:Nat):Prop:=∃ dx fs,H sc=some (.ins C dx fs)∧SF T p n fs
def spSInit (C:Addr):Sp:=fun vs H Q _=>∃ (g dx:Addr) (T:Str) (k:Int),vs=[.ref g,.str T,.int k,.int 10,.int 30]∧H g=some (.ins C dx [])∧∀ H',ScanAt C H' g T 0 0→SameBut g H H'→Q .non H'
theorem sc_sinit:FnScope ["self", "text", "row", "most_within", "most_parts"] ["self", "text", "row", "most_within", "most_parts"] (defScope s_sinit):=⟨rfl,rfl,rfl,by decide +kernel,rfl,by decide +kernel,by decide +kernel⟩
theorem ok_sinit {f C:Addr} {fd:FuncData} (F:Fun K "__init__" "Scan.__init__" s_sinit f fd) (T:STxt K mg C):FnOk P w K mg base CX0 1 f fd ["self", "text", "row", "most_within", "most_parts"] (spSInit C):=by
  refine F.ok sc_sinit (fun vs H Q E h=>?_) (fun cdv A outer s H vs Q E hr h=>?_)
  · obtain ⟨g,dx,Tx,kr,rfl,_⟩:=h
    rfl
  obtain ⟨g,dx,Tx,kr,rfl,hg,q⟩:=h
  refine ⟨_,(pss_cons (ps_fld (pv 0) (pv 1) rfl) (pss_cons (ps_fld (pv 0) (pv 2) rfl) (pss_cons (ps_fld (pv 0) (pv 3) rfl) (pss_cons (ps_fld (pv 0) (pv 4) rfl) (pss_cons (ps_fld (pv 0) pe_int rfl) (pss_one (ps_fld (pv 0) pe_int rfl))))))),?_⟩
  refine ⟨_,rfl,_,rfl,g,C,dx,[],rfl,hg,T.cl,T.nX,(by show 0 < 1000; decide),?_⟩
  refine ⟨_,rfl,_,rfl,g,C,dx,_,rfl,upd_same,T.cl,T.nR,(Nat.lt_of_le_of_lt (putF_len _ _ _) (by show 1 < 1000; decide)),?_⟩
  refine ⟨_,rfl,_,rfl,g,C,dx,_,rfl,upd_same,T.cl,T.nW,(Nat.lt_of_le_of_lt (putF_len _ _ _) (Nat.lt_of_le_of_lt (Nat.succ_le_succ (putF_len _ _ _)) (by show 2 < 1000; decide))),?_⟩
  refine ⟨_,rfl,_,rfl,g,C,dx,_,rfl,upd_same,T.cl,T.nP,(Nat.lt_of_le_of_lt (putF_len _ _ _) (Nat.lt_of_le_of_lt (Nat.succ_le_succ (Nat.le_trans (putF_len _ _ _) (Nat.succ_le_succ (putF_len _ _ _)))) (by show 3 < 1000; decide))),?_⟩
  refine ⟨_,rfl,g,C,dx,_,rfl,upd_same,T.cl,T.nL,(Nat.lt_of_le_of_lt (putF_len _ _ _) (Nat.lt_of_le_of_lt (Nat.succ_le_succ (Nat.le_trans (putF_len _ _ _) (Nat.succ_le_succ (Nat.le_trans (putF_len _ _ _) (Nat.succ_le_succ (putF_len _ _ _)))))) (by show 4 < 1000; decide))),?_⟩
  refine ⟨_,rfl,g,C,dx,_,rfl,upd_same,T.cl,T.nN,(Nat.lt_of_le_of_lt (putF_len _ _ _) (Nat.lt_of_le_of_lt (Nat.succ_le_succ (Nat.le_trans (putF_len _ _ _) (Nat.succ_le_succ (Nat.le_trans (putF_len _ _ _) (Nat.succ_le_succ (Nat.le_trans (putF_len _ _ _) (Nat.succ_le_succ (putF_len _ _ _)))))))) (by show 5 < 1000; decide))),?_⟩
  exact q _ ⟨dx,sfs Tx kr,upd_same,sfs_ok Tx kr⟩ ((SameBut.upd _).trans ((SameBut.upd _).trans ((SameBut.upd _).trans ((SameBut.upd _).trans ((SameBut.upd _).trans (SameBut.upd _))))))
theorem SF.size {T:Str} {p n:Nat} {fs:List (Str × V)} (h:SF T p n fs):fs.length < 1000:=Nat.lt_of_le_of_lt h.len (by decide)
def spEnter (C:Addr):Sp:=fun vs H Q _=>∃ (sc:Addr) (T:Str) (p n:Nat) (wi:Int),vs=[.ref sc,.int wi]∧ScanAt C H sc T p n∧wi≤10∧n+1≤30∧∀ H',ScanAt C H' sc T p (n+1)→SameBut sc H H'→Q .non H'
theorem sc_senter:FnScope ["self", "within"] ["self", "within"] (defScope s_senter):=⟨rfl,rfl,rfl,by decide +kernel,rfl,by decide +kernel,by decide +kernel⟩
theorem ok_senter {f C:Addr} {fd:FuncData} (F:Fun K "enter" "Scan.enter" s_senter f fd) (T:STxt K mg C):FnOk P w K mg base CX0 1 f fd ["self", "within"] (spEnter C):=by
  refine F.ok sc_senter (fun vs H Q E h=>?_) (fun cdv A outer s H vs Q E hr h=>?_)
  · obtain ⟨sc,Tx,p,n,wi,rfl,_⟩:=h
    rfl
  obtain ⟨sc,Tx,p,n,wi,rfl,⟨dx,fs,hs,sf⟩,w10,n30,q⟩:=h
  refine ⟨_,(pss_cons (ps_fld (pv 0) (pe_op op_add (pe_fld (pv 0) rfl) pe_int) rfl)
      (pss_one (ps_if (PW.pt (pw_or (pt_cmpR op_gt (pv 1) (pe_fld (pv 0) rfl) (nomark _)) (pw_or1 (pt_cmpR op_gt (pe_fld (pv 0) rfl) (pe_fld (pv 0) rfl) (nomark _))))) pss_never pss_nil))),?_⟩
  have sf':=sf.toParts (n+1)
  refine ⟨_,rfl,sc,C,dx,fs,_,rfl,hs,T.cl,T.nN,sf.parts,_,_,rfl,rfl,_,rfl,sc,C,dx,fs,rfl,hs,T.cl,T.nN,sf.size,?_⟩
  have hs':upd H sc (.ins C dx (putF "parts" (.int ((n:Int)+1)) fs)) sc=some (.ins C dx (putF "parts" (.int ((n+1:Nat):Int)) fs)):=upd_same
  refine ⟨_,rfl,_,rfl,sc,C,dx,_,_,rfl,hs',T.cl,T.nW,sf'.mw,_,_,rfl,rfl,_,rfl,?_⟩
  refine iteDF (by omega) ?_
  refine ⟨_,rfl,sc,C,dx,_,_,rfl,hs',T.cl,T.nN,sf'.parts,_,rfl,sc,C,dx,_,_,rfl,hs',T.cl,T.nP,sf'.mp,_,_,rfl,rfl,_,rfl,?_⟩
  refine iteDF (by omega) ?_
  exact q _ ⟨dx,_,hs',sf'⟩ (SameBut.upd _)
def spSees (C:Addr):Sp:=fun vs H Q _=>∃ (sc:Addr) (T u:Str) (p n:Nat),vs=[.ref sc,.str u]∧ScanAt C H sc T p n∧Q (.bl (startsAt T u p)) H
theorem sc_ssees:FnScope ["self", "signs"] ["self", "signs"] (defScope s_ssees):=⟨rfl,rfl,rfl,by decide +kernel,rfl,by decide +kernel,by decide +kernel⟩
theorem ok_ssees {f C:Addr} {fd:FuncData} (F:Fun K "sees" "Scan.sees" s_ssees f fd) (T:STxt K mg C):FnOk P w K mg base CX0 1 f fd ["self", "signs"] (spSees C):=by
  refine F.ok sc_ssees (fun vs H Q E h=>?_) (fun cdv A outer s H vs Q E hr h=>?_)
  · obtain ⟨sc,Tx,u,p,n,rfl,_⟩:=h
    rfl
  obtain ⟨sc,Tx,u,p,n,rfl,⟨dx,fs,hs,sf⟩,q⟩:=h
  refine ⟨_,(pss_one (ps_ret (pe_bm PySem.F.plainAttrs_str PySem.F.slot_str_startswith PySem.F.type_str_startswith mt_startsAt (pe_fld (pv 0) rfl) (pa_cons (pv 1) (pa_cons (pe_fld (pv 0) rfl) pa_nil))))),?_⟩
  exact ⟨_,rfl,sc,C,dx,fs,_,rfl,hs,T.cl,T.nX,sf.text,rfl,_,rfl,_,rfl,sc,C,dx,fs,_,rfl,hs,T.cl,T.nL,sf.place,Tx,u,_,rfl,rfl,q⟩
def spTake' (C:Addr):Sp:=fun vs H Q _=>∃ (sc:Addr) (T u:Str) (p n:Nat),vs=[.ref sc,.str u]∧ScanAt C H sc T p n∧startsAt T u p=true∧u.length≤10∧∀ H',ScanAt C H' sc T (p+u.length) n→SameBut sc H H'→Q .non H'
theorem sc_stake:FnScope ["self", "signs"] ["self", "signs"] (defScope s_stake):=⟨rfl,rfl,rfl,by decide +kernel,rfl,by decide +kernel,by decide +kernel⟩
theorem ok_stake {f C fS:Addr} {fd fdS:FuncData} (F:Fun K "take" "Scan.take" s_stake f fd) (B:Bl mg) (T:STxt K mg C) (mS:Meth K C "sees" fS) (GS:FnOk P w K mg base CX0 1 fS fdS ["self", "signs"] (spSees C)) (bS:Binds K fdS ["self", "signs"] []):FnOk P w K mg base CX0 2 f fd ["self", "signs"] (spTake' C):=by
  refine F.ok sc_stake (fun vs H Q E h=>?_) (fun cdv A outer s H vs Q E hr h=>?_)
  · obtain ⟨sc,Tx,u,p,n,rfl,_⟩:=h
    rfl
  obtain ⟨sc,Tx,u,p,n,rfl,S,hu,u10,q⟩:=h
  have hr1:Room 1 _:=hr.mono (by decide)
  refine ⟨_,(pss_cons (ps_if (pt_not (pt_val (pe_meth (pv 0) T.cl mS GS hr1 bS .nil pass0 (pa_cons (pv 1) pa_nil)))) pss_never pss_nil)
      (pss_one (ps_fld (pv 0) (pe_op op_add (pe_fld (pv 0) rfl) (pe_callB call_len_str rfl B.len PySem.boot_len (pa_cons (pv 1) pa_nil))) rfl))),?_⟩
  obtain ⟨dx,fs,hs,sf⟩:=id S
  refine ⟨_,rfl,sc,dx,fs,rfl,hs,sf.no2,_,rfl,sc,Tx,u,p,n,rfl,S,_,rfl,?_⟩
  rw [hu]
  refine iteF ?_
  refine ⟨_,rfl,sc,C,dx,fs,_,rfl,hs,T.cl,T.nL,sf.place,_,rfl,u,rfl,small (by omega),_,_,rfl,rfl,_,rfl,sc,C,dx,fs,rfl,hs,T.cl,T.nL,sf.size,?_⟩
  have hs':upd H sc (.ins C dx (putF "place" (.int ((p:Int)+(u.length:Int))) fs)) sc=some (.ins C dx (putF "place" (.int ((p+u.length:Nat):Int)) fs)):=by rw [upd_same,Int.natCast_add]
  exact q _ ⟨dx,_,hs',sf.toPlace _⟩ (SameBut.upd _)
def EndOk (r:List Nat):Prop:=r=[]∨∃ c r',r=c::r'∧(c=32∨c=40∨c=41)
def spWord (C:Addr):Sp:=fun vs H Q _=>∃ (sc:Addr) (T:Str) (p n:Nat) (x r:List Nat),vs=[.ref sc]∧ScanAt C H sc T p n∧T.length≤1000∧p≤T.length∧T.cps.toList.drop p=x++r∧(∀ c ∈ x,97≤c∧c≤122)∧EndOk r∧∀ H',ScanAt C H' sc T (p+x.length) n→SameBut sc H H'→Q (.str (stl x)) H'
theorem sc_sword:FnScope ["self", "start"] ["self"] (defScope s_sword):=⟨rfl,rfl,rfl,by decide +kernel,rfl,by decide +kernel,by decide +kernel⟩
theorem ok_sword {f C:Addr} {fd:FuncData} (F:Fun K "word" "Scan.word" s_sword f fd) (B:Bl mg) (X:Tx K mg) (T:STxt K mg C):FnOk P w K mg base CX0 1 f fd ["self"] (spWord C):=by
  refine F.ok sc_sword (fun vs H Q E h=>?_) (fun cdv A outer s H vs Q E hr h=>?_)
  · obtain ⟨sc,Tx,p,n,x,r,rfl,_⟩:=h
    rfl
  obtain ⟨sc,Tx,p,n,x,r,rfl,⟨dx,fs,hs,sf⟩,tl,pl,hd,xl,er,q⟩:=h
  obtain ⟨te,ge⟩:=X.ends
  refine ⟨_,(pss_cons (ps_set (i:=1) sc_sword.nd rfl (Or.inl rfl) (pe_fld (pv 0) rfl))
      (pss_cons (ps_while PassesOwn.never (PW.pt (pw_and (pt_cmpR op_lt (pe_fld (pv 0) rfl) (pe_callB call_len_str rfl B.len PySem.boot_len (pa_cons (pe_fld (pv 0) rfl) pa_nil)) (nomark _)) (pw_and1 (pt_cmpR op_notIn_str (pe_ix ix_str (pe_fld (pv 0) rfl) (pe_fld (pv 0) rfl) (fun _ _=>rfl)) (pe_glob (v:=.str ENDS) rfl ge ⟨_,rfl⟩) (by with_unfolding_all rfl))))) (pss_one (ps_fld (pv 0) (pe_op op_add (pe_fld (pv 0) rfl) pe_int) rfl)))
      (pss_one (ps_ret (pe_slice sl_str (pe_fld (pv 0) rfl) (po_some (pv 1)) (po_some (pe_fld (pv 0) rfl))))))),?_⟩
  have L:Tx.cps.toList.length=Tx.length:=by rw [Array.length_toList]; rfl
  have hlen:Tx.length=p+(x.length+r.length):=by
    have:=congrArg List.length hd
    rw [List.length_drop,List.length_append,L] at this
    omega
  refine ⟨_,rfl,sc,C,dx,fs,_,rfl,hs,T.cl,T.nL,sf.place,?_⟩
  refine ⟨fun m σ H'=>∃ j:Nat,j≤x.length∧σ=[some (.ref sc),some (.int (p:Int))]∧ScanAt C H' sc Tx (p+j) n∧SameBut sc H H'∧m=x.length - j,⟨_,0,Nat.zero_le _,rfl,⟨dx,fs,hs,sf⟩,SameBut.refl _ _,rfl⟩,?_⟩
  rintro m σ H1 ⟨j,hj,rfl,⟨dx1,fs1,hs1,sf1⟩,S1,rfl⟩
  refine ⟨_,rfl,sc,C,dx1,fs1,_,rfl,hs1,T.cl,T.nL,sf1.place,_,rfl,sc,C,dx1,fs1,_,rfl,hs1,T.cl,T.nX,sf1.text,Tx,rfl,small tl,_,_,rfl,rfl,_,rfl,?_⟩
  have sl:j=x.length→Txt.slice Tx (some (p:Int)) (some ((p+j:Nat):Int))=stl x:=fun ej=>by
    have es:Txt.slice Tx (some (p:Int)) (some ((p+j:Nat):Int))=_:=StrLaws.sliceText_plain (i:=(p:Int)) (j:=((p+j:Nat):Int)) ⟨by omega,by omega,by rw [L]; omega⟩
    rw [es]
    refine str_ext ?_
    show (Tx.cps.toList.drop (p:Int).toNat).take (((p+j:Nat):Int) - (p:Int)).toNat=x
    rw [show (p:Int).toNat=p by omega,show (((p+j:Nat):Int) - (p:Int)).toNat=x.length by omega,hd,List.take_left']
    rfl
  by_cases c1:(((p+j:Nat):Int)) < (Tx.length:Int)
  · refine iteD c1 ?_
    have hk:p+j < Tx.cps.toList.length:=by rw [L]; omega
    have ha:atI Tx.cps.toList ((p+j:Nat):Int)=some Tx.cps.toList[p+j]:=atI_nat (List.getElem?_eq_getElem hk)
    have hx:Tx.cps.toList[p+j]?=(x++r)[j]?:=by rw [← hd,List.getElem?_drop]
    refine ⟨_,rfl,sc,C,dx1,fs1,_,rfl,hs1,T.cl,T.nX,sf1.text,_,rfl,sc,C,dx1,fs1,_,rfl,hs1,T.cl,T.nL,sf1.place,Tx,_,_,rfl,rfl,small tl,ha,_,_,rfl,rfl,_,rfl,?_⟩
    by_cases c2:j < x.length
    · have ec:Tx.cps.toList[p+j]=x[j]:=by
        rw [List.getElem?_eq_getElem hk,List.getElem?_append_left c2,List.getElem?_eq_getElem c2] at hx
        exact Option.some.inj hx
      have en:(!isIn ENDS Tx.cps.toList[p+j])=true:=by rw [ec,isIn_ends (xl _ (List.getElem_mem c2))]; rfl
      have en':(!(!(Builtin.Str.occurrences ENDS ⟨#[Tx.cps.toList[p+j]]⟩ 0 ENDS.length 1).isEmpty))=true:=en
      rw [en']
      refine ⟨_,fun _ _ h=>h,?_⟩
      refine ⟨_,rfl,sc,C,dx1,fs1,_,rfl,hs1,T.cl,T.nL,sf1.place,_,_,rfl,rfl,_,rfl,sc,C,dx1,fs1,rfl,hs1,T.cl,T.nL,sf1.size,?_⟩
      have hs':upd H1 sc (.ins C dx1 (putF "place" (.int (((p+j:Nat):Int)+1)) fs1)) sc=some (.ins C dx1 (putF "place" (.int ((p+(j+1):Nat):Int)) fs1)):=by
        rw [upd_same,show ((p+j:Nat):Int)+1=((p+(j+1):Nat):Int) by omega]
      exact ⟨_,by omega,j+1,by omega,rfl,⟨dx1,_,hs',sf1.toPlace _⟩,S1.trans (SameBut.upd _),rfl⟩
    · have ej:j=x.length:=by omega
      have en:(!isIn ENDS Tx.cps.toList[p+j])=false:=by
        rcases er with rfl | ⟨c,r',rfl,hc⟩
        · rw [List.length_nil] at hlen
          omega
        · rw [List.getElem?_eq_getElem hk,List.getElem?_append_right (by omega),show j - x.length=0 by omega] at hx
          have ec:Tx.cps.toList[p+j]=c:=Option.some.inj hx
          rw [ec]
          rcases hc with rfl | rfl | rfl
          · rw [ends_in.1]; rfl
          · rw [ends_in.2.1]; rfl
          · rw [ends_in.2.2]; rfl
      have en':(!(!(Builtin.Str.occurrences ENDS ⟨#[Tx.cps.toList[p+j]]⟩ 0 ENDS.length 1).isEmpty))=false:=en
      rw [en']
      refine ⟨_,rfl,sc,C,dx1,fs1,_,rfl,hs1,T.cl,T.nX,sf1.text,_,rfl,_,rfl,_,rfl,sc,C,dx1,fs1,_,rfl,hs1,T.cl,T.nL,sf1.place,_,rfl,Tx,rfl,small tl,?_⟩
      rw [sl ej]
      rw [ej] at sf1
      exact q H1 ⟨dx1,fs1,hs1,sf1⟩ S1
  · refine iteDF c1 ?_
    have ej:j=x.length:=by omega
    refine ⟨_,rfl,sc,C,dx1,fs1,_,rfl,hs1,T.cl,T.nX,sf1.text,_,rfl,_,rfl,_,rfl,sc,C,dx1,fs1,_,rfl,hs1,T.cl,T.nL,sf1.place,_,rfl,Tx,rfl,small tl,?_⟩
    rw [sl ej]
    rw [ej] at sf1
    exact q H1 ⟨dx1,fs1,hs1,sf1⟩ S1
def spFinish (C:Addr):Sp:=fun vs H Q _=>∃ (sc:Addr) (T:Str) (n:Nat),vs=[.ref sc]∧ScanAt C H sc T T.length n∧T.length≤1000∧Q .non H
theorem sc_sfinish:FnScope ["self"] ["self"] (defScope s_sfinish):=⟨rfl,rfl,rfl,by decide +kernel,rfl,by decide +kernel,by decide +kernel⟩
theorem ok_sfinish {f C:Addr} {fd:FuncData} (F:Fun K "finish" "Scan.finish" s_sfinish f fd) (B:Bl mg) (T:STxt K mg C):FnOk P w K mg base CX0 1 f fd ["self"] (spFinish C):=by
  refine F.ok sc_sfinish (fun vs H Q E h=>?_) (fun cdv A outer s H vs Q E hr h=>?_)
  · obtain ⟨sc,Tx,n,rfl,_⟩:=h
    rfl
  obtain ⟨sc,Tx,n,rfl,⟨dx,fs,hs,sf⟩,tl,q⟩:=h
  refine ⟨_,(pss_one (ps_if (pt_cmpR op_ne (pe_fld (pv 0) rfl) (pe_callB call_len_str rfl B.len PySem.boot_len (pa_cons (pe_fld (pv 0) rfl) pa_nil)) (nomark _)) pss_never pss_nil)),?_⟩
  refine ⟨_,rfl,sc,C,dx,fs,_,rfl,hs,T.cl,T.nL,sf.place,_,rfl,sc,C,dx,fs,_,rfl,hs,T.cl,T.nX,sf.text,Tx,rfl,small tl,rfl,_,rfl,?_⟩
  show if (!decide (V.int (Tx.length:Int)=V.int (Tx.length:Int)))=true then _ else _
  rw [decide_eq_true rfl]
  exact iteF q
theorem fi_nat (n p:Nat):PySem.fromIndex n (p:Int)=p:=by
  unfold PySem.fromIndex
  rw [if_neg (by omega)]
  omega
theorem sub_iff (T u:Str) (p:Nat):Builtin.Str.subAt T u p=decide ((T.cps.toList.drop p).take u.length=u.cps.toList):=by
  unfold Builtin.Str.subAt
  have e:(T.cps.extract p (p+u.length)).toList=(T.cps.toList.drop p).take u.length:=by
    rw [Array.toList_extract,List.extract_eq_drop_take]
    congr 1
    omega
  by_cases c:(T.cps.toList.drop p).take u.length=u.cps.toList
  · rw [decide_eq_true c]
    have:T.cps.extract p (p+u.length)=u.cps:=Array.toList_inj.mp (e.trans c)
    rw [this]
    simp
  · rw [decide_eq_false c]
    have:¬ T.cps.extract p (p+u.length)=u.cps:=fun z=>c (by rw [← e,z])
    simpa using this
theorem len_list (T:Str):T.cps.toList.length=T.length:=by rw [Array.length_toList]; rfl
theorem len_app {T:Str} {p:Nat} {u v:List Nat} (h:T.cps.toList.drop p=u++v) (hp:p≤T.length):p+u.length+v.length=T.length:=by
  have:=congrArg List.length h
  rw [List.length_drop,List.length_append,len_list] at this
  omega
theorem drop_app {T:Str} {p:Nat} {u v:List Nat} (h:T.cps.toList.drop p=u++v):T.cps.toList.drop (p+u.length)=v:=by
  rw [← List.drop_drop,h,List.drop_left]
theorem starts_yes {T u:Str} {p:Nat} {r:List Nat} (h:T.cps.toList.drop p=u.cps.toList++r) (hp:p≤T.length):startsAt T u (p:Int)=true:=by
  unfold startsAt
  have hl:=len_app h hp
  rw [len_list] at hl
  rw [fi_nat,sub_iff,decide_eq_true (by omega),h,← len_list u,List.take_left,decide_eq_true rfl]
  rfl
theorem starts_no {T:Str} {p:Nat} {c:Nat} {r:List Nat} (h:T.cps.toList.drop p=c::r) (hc:c ≠ 40):startsAt T ("(" : Str) (p:Int)=false:=by
  unfold startsAt
  have l1:(("(" : Str)).length=1:=by decide +kernel
  rw [fi_nat,sub_iff,h,lit_po,l1]
  have:¬ (c::r).take 1=[40]:=fun z=>hc (by simpa using z)
  rw [decide_eq_false this,Bool.and_false]
theorem keepT_scan {C:Addr} {H H':Hp} {sc:Addr} {T:Str} {p n:Nat} (S:ScanAt C H sc T p n) (s:SameBut sc H H'):KeepT H H':=fun a xs h=>s a _ (fun z=>by
  obtain ⟨dx,fs,e,_⟩:=S
  rw [z,e] at h
  cases h) h
theorem ScanAt.same {C:Addr} {H H':Hp} {sc:Addr} {T:Str} {p n:Nat} (S:ScanAt C H sc T p n) (s:Same H H'):ScanAt C H' sc T p n:=by
  obtain ⟨dx,fs,e,sf⟩:=S
  exact ⟨dx,fs,s _ _ e,sf⟩
structure Mths (P:Program) (w:World) (K:PySem.W.Frag) (mg:Str→Option Value) (base:Heap) (C fE fS fT fW fF:Addr) (dE dS dT dW dF:FuncData):Prop where
  mE:Meth K C "enter" fE
  gE:FnOk P w K mg base CX0 1 fE dE ["self", "within"] (spEnter C)
  bE:Binds K dE ["self", "within"] []
  mS:Meth K C "sees" fS
  gS:FnOk P w K mg base CX0 1 fS dS ["self", "signs"] (spSees C)
  bS:Binds K dS ["self", "signs"] []
  mT:Meth K C "take" fT
  gT:FnOk P w K mg base CX0 2 fT dT ["self", "signs"] (spTake' C)
  bT:Binds K dT ["self", "signs"] []
  mW:Meth K C "word" fW
  gW:FnOk P w K mg base CX0 1 fW dW ["self"] (spWord C)
  bW:Binds K dW ["self"] []
  mF:Meth K C "finish" fF
  gF:FnOk P w K mg base CX0 1 fF dF ["self"] (spFinish C)
  bF:Binds K dF ["self"] []
def spNext (C:Addr) (n:Nat):Sp:=fun vs H Q _=>∃ (sc:Addr) (wi:Int) (T:Str) (p k:Nat) (t:Tr) (r:List Nat),vs=[.ref sc,.int wi]∧ScanAt C H sc T p k∧T.length≤1000∧p≤T.length∧T.cps.toList.drop p=t.txt++r∧EndOk r∧t.nm∧t.depth≤n∧wi+(t.depth:Int)≤11∧k+t.size≤30 ∧
  ∀ (v:V) (H':Hp),TreeAt H' v t→ScanAt C H' sc T (p+t.txt.length) (k+t.size)→SameBut sc H H'→Q v H'
def spJoinT (C:Addr) (n:Nat):Sp:=fun vs H Q _=>∃ (sc:Addr) (wi:Int) (T:Str) (p k:Nat) (o:Str) (a b:Tr) (r:List Nat),vs=[.ref sc,.int wi]∧ScanAt C H sc T p k∧T.length≤1000∧p≤T.length∧T.cps.toList.drop p=(Tr.bin o a b).txt++r∧o ∈ joinW∧a.nm∧b.nm∧a.depth≤n∧b.depth≤n∧wi+(a.depth:Int)≤10∧wi+(b.depth:Int)≤10∧k+a.size+b.size≤30 ∧
  ∀ (v:V) (H':Hp),TreeAt H' v (.bin o a b)→ScanAt C H' sc T (p+(Tr.bin o a b).txt.length) (k+a.size+b.size)→SameBut sc H H'→Q v H'
theorem sc_joined_tree:FnScope ["scan", "within", "left", "word", "right"] ["scan", "within"] (defScope s_joined_tree):=⟨rfl,rfl,rfl,by decide +kernel,rfl,by decide +kernel,by decide +kernel⟩
theorem jt_step {n:Nat} {f C fE fS fT fW fF:Addr} {fd dE dS dT dW dF:FuncData} (F:Fun K "joined_tree" "joined_tree" s_joined_tree f fd) (X:Tx K mg) (T:STxt K mg C) (M:Mths P w K mg base C fE fS fT fW fF dE dS dT dW dF) (C_next_tree:Cal P w K mg base (2*n+3) "next_tree" ["scan", "within"] (spNext C n)):FnOk P w K mg base CX0 (2*n+4) f fd ["scan", "within"] (spJoinT C n):=by
  refine F.ok sc_joined_tree (fun vs H Q E h=>?_) (fun cdv A outer s H vs Q E hr h=>?_)
  · obtain ⟨sc,wi,Tx,p,k,o,a,b,r,rfl,_⟩:=h
    rfl
  obtain ⟨sc,wi,Tx,p,k,o,a,b,r,rfl,S0,tl,pl,hd,oj,na,nb,da,db,wa,wb,k30,q⟩:=h
  obtain ⟨ja,gj,hj⟩:=X.joining
  have hr1:Room 1 _:=hr.mono (by omega)
  have hr2:Room 2 _:=hr.mono (by omega)
  refine ⟨_,(pss_cons (ps_expr (pe_meth (pv 0) T.cl M.mT M.gT hr2 M.bT .nil pass0 (pa_cons pe_str pa_nil)))
      (pss_cons (ps_set (i:=2) sc_joined_tree.nd rfl (Or.inl rfl) (pe_cal C_next_tree hr (by omega) rfl (pa_cons (pv 0) (pa_cons (pe_op op_add (pv 1) pe_int) pa_nil))))
      (pss_cons (ps_expr (pe_meth (pv 0) T.cl M.mT M.gT hr2 M.bT .nil pass0 (pa_cons pe_str pa_nil)))
      (pss_cons (ps_set (i:=3) sc_joined_tree.nd rfl (Or.inl rfl) (pe_meth0 (pv 0) T.cl M.mW M.gW hr1 M.bW .nil pass0))
      (pss_cons (ps_if (pt_cmpR op_notIn_seq (pv 3) (pe_glob (v:=.ref ja) rfl gj rfl) (by with_unfolding_all rfl)) pss_never pss_nil)
      (pss_cons (ps_expr (pe_meth (pv 0) T.cl M.mT M.gT hr2 M.bT .nil pass0 (pa_cons pe_str pa_nil)))
      (pss_cons (ps_set (i:=4) sc_joined_tree.nd rfl (Or.inl rfl) (pe_cal C_next_tree hr (by omega) rfl (pa_cons (pv 0) (pa_cons (pe_op op_add (pv 1) pe_int) pa_nil))))
      (pss_cons (ps_expr (pe_meth (pv 0) T.cl M.mT M.gT hr2 M.bT .nil pass0 (pa_cons pe_str pa_nil)))
      (pss_one (ps_ret (pe_tup (pa_cons (pv 3) (pa_cons (pv 2) (pa_cons (pv 4) pa_nil)))))))))))))),?_⟩
  have l1:(("(" : Str)).length=1:=by decide +kernel
  have l2:((" " : Str)).length=1:=by decide +kernel
  have l3:((")" : Str)).length=1:=by decide +kernel
  have olen:o.cps.toList.length=o.length:=len_list o
  have hd0:Tx.cps.toList.drop p=[40]++(a.txt++([32]++(o.cps.toList++([32]++(b.txt++([41]++r)))))):=by
    rw [hd]
    show ([40]++(a.txt++([32]++(o.cps.toList++([32]++(b.txt++[41]))))))++r=_
    simp
  have tlen:(Tr.bin o a b).txt.length=1+(a.txt.length+(1+(o.length+(1+(b.txt.length+1))))):=by
    show ([40]++(a.txt++([32]++(o.cps.toList++([32]++(b.txt++[41])))))).length=_
    simp only [List.length_append,List.length_cons,List.length_nil,olen]
  have hl0:=len_app hd0 pl
  simp only [List.length_append,List.length_cons,List.length_nil,olen] at hl0
  have hd1:=drop_app hd0
  have hd2:=drop_app hd1
  have hd3:=drop_app hd2
  have hd4:=drop_app hd3
  have hd5:=drop_app hd4
  have hd6:=drop_app hd5
  simp only [List.length_cons,List.length_nil,olen] at hd1 hd2 hd3 hd4 hd5 hd6
  obtain ⟨dx0,fs0,hs0,sf0⟩:=id S0
  refine ⟨_,rfl,sc,dx0,fs0,rfl,hs0,sf0.no3,sc,Tx,_,p,k,rfl,S0,starts_yes (r:=a.txt++([32]++(o.cps.toList++([32]++(b.txt++([41]++r)))))) (by rw [lit_po]; exact hd0) pl,by rw [l1]; decide,fun H1 S1 B1=>?_⟩
  rw [l1] at S1
  refine ⟨_,rfl,_,rfl,_,_,rfl,rfl,sc,wi+1,Tx,p+1,k,a,_,rfl,S1,tl,by omega,hd1,.inr ⟨32,_,rfl,.inl rfl⟩,na,da,by omega,by omega,fun v1 H2 T1 S2 B2=>?_⟩
  obtain ⟨dx2,fs2,hs2,sf2⟩:=id S2
  refine ⟨_,rfl,sc,dx2,fs2,rfl,hs2,sf2.no3,sc,Tx,_,_,_,rfl,S2,starts_yes (r:=o.cps.toList++([32]++(b.txt++([41]++r)))) (by rw [lit_sp]; exact hd2) (by omega),by rw [l2]; decide,fun H3 S3 B3=>?_⟩
  rw [l2] at S3
  have T3:=T1.mono (keepT_scan S2 B3)
  obtain ⟨dx3,fs3,hs3,sf3⟩:=id S3
  refine ⟨_,rfl,sc,dx3,fs3,rfl,hs3,sf3.no4,sc,Tx,_,_,o.cps.toList,_,rfl,S3,tl,by omega,hd3,(join_letters o oj).2.1,.inr ⟨32,_,rfl,.inl rfl⟩,fun H4 S4 B4=>?_⟩
  rw [olen] at S4
  have T4:=T3.mono (keepT_scan S3 B4)
  refine ⟨_,rfl,ja,_,rfl,.inr (hj _),rfl,(by decide),_,rfl,?_⟩
  have einj:inV (.str (stl o.cps.toList)) (joinW.map V.str)=true:=by rw [stl_of,in_strs,decide_eq_true oj]
  rw [einj]
  refine iteF ?_
  obtain ⟨dx4,fs4,hs4,sf4⟩:=id S4
  refine ⟨_,rfl,sc,dx4,fs4,rfl,hs4,sf4.no3,sc,Tx,_,_,_,rfl,S4,starts_yes (r:=b.txt++([41]++r)) (by rw [lit_sp]; exact hd4) (by omega),by rw [l2]; decide,fun H5 S5 B5=>?_⟩
  rw [l2] at S5
  have T5:=T4.mono (keepT_scan S4 B5)
  refine ⟨_,rfl,_,rfl,_,_,rfl,rfl,sc,wi+1,Tx,_,_,b,_,rfl,S5,tl,by omega,hd5,.inr ⟨41,r,rfl,.inr (.inr rfl)⟩,nb,db,by omega,by omega,fun v2 H6 T6 S6 B6=>?_⟩
  have T6':=T5.mono (keepT_scan S5 B6)
  obtain ⟨dx6,fs6,hs6,sf6⟩:=id S6
  refine ⟨_,rfl,sc,dx6,fs6,rfl,hs6,sf6.no3,sc,Tx,_,_,_,rfl,S6,starts_yes (r:=r) (by rw [lit_pc]; exact hd6) (by omega),by rw [l3]; decide,fun H7 S7 B7=>?_⟩
  rw [l3] at S7
  have T7:=T6'.mono (keepT_scan S6 B7)
  have T7b:=T6.mono (keepT_scan S6 B7)
  refine ⟨_,rfl,_,rfl,_,rfl,(by show 3≤sizeLine; decide),fun c hc=>?_⟩
  have G:=Same.new hc (.tup [.str (stl o.cps.toList),v1,v2])
  have ep:p+1+a.txt.length+1+o.length+1+b.txt.length+1=p+(Tr.bin o a b).txt.length:=by rw [tlen]; omega
  rw [ep] at S7
  refine q _ _ (.bin upd_same (T7.mono (keepT_same G)) (T7b.mono (keepT_same G))) (S7.same G) ?_
  exact B1.trans (B2.trans (B3.trans (B4.trans (B5.trans (B6.trans (B7.trans (SameBut.of G)))))))
theorem sc_next_tree:FnScope ["scan", "within", "word"] ["scan", "within"] (defScope s_next_tree):=⟨rfl,rfl,rfl,by decide +kernel,rfl,by decide +kernel,by decide +kernel⟩
theorem letters_ne {l:List Nat} (h:∀ c ∈ l,97≤c∧c≤122) (h1:1≤l.length) (r:List Nat):∃ c r',l++r=c::r'∧c ≠ 40:=by
  cases l with
  | nil=>cases h1
  | cons c l' =>
    have:=h c List.mem_cons_self
    exact ⟨c,l'++r,rfl,by omega⟩
theorem nt_step {n:Nat} {f C fE fS fT fW fF:Addr} {fd dE dS dT dW dF:FuncData} (F:Fun K "next_tree" "next_tree" s_next_tree f fd) (T:STxt K mg C) (M:Mths P w K mg base C fE fS fT fW fF dE dS dT dW dF) (C_is_name:Cal P w K mg base 1 "is_name" ["text"] (spTxt nameB)) (C_next_tree:Cal P w K mg base (2*n+3) "next_tree" ["scan", "within"] (spNext C n)) (C_joined_tree:Cal P w K mg base (2*n+4) "joined_tree" ["scan", "within"] (spJoinT C n)):FnOk P w K mg base CX0 (2*n+5) f fd ["scan", "within"] (spNext C (n+1)):=by
  refine F.ok sc_next_tree (fun vs H Q E h=>?_) (fun cdv A outer s H vs Q E hr h=>?_)
  · obtain ⟨sc,wi,Tx,p,k,t,r,rfl,_⟩:=h
    rfl
  obtain ⟨sc,wi,Tx,p,k,t,r,rfl,S0,tl,pl,hd,er,nm,dn,wd,k30,q⟩:=h
  have hr1:Room 1 _:=hr.mono (by omega)
  have hr2:Room 2 _:=hr.mono (by omega)
  refine ⟨_,(pss_cons (ps_expr (pe_meth (pv 0) T.cl M.mE M.gE hr1 M.bE .nil pass0 (pa_cons (pv 1) pa_nil)))
      (pss_cons (ps_if (pt_val (pe_meth (pv 0) T.cl M.mS M.gS hr1 M.bS .nil pass0 (pa_cons pe_str pa_nil))) (pss_one (ps_ret (pe_cal C_joined_tree hr (by omega) rfl (pa_cons (pv 0) (pa_cons (pv 1) pa_nil))))) pss_nil)
      (pss_cons (ps_set (i:=2) sc_next_tree.nd rfl (Or.inl rfl) (pe_meth0 (pv 0) T.cl M.mW M.gW hr1 M.bW .nil pass0))
      (pss_cons (ps_if (pt_cmpR op_eq (pv 2) pe_str (nomark _)) (pss_cons (ps_expr (pe_meth (pv 0) T.cl M.mT M.gT hr2 M.bT .nil pass0 (pa_cons pe_str pa_nil)))
        (pss_one (ps_ret (pe_tup (pa_cons pe_str (pa_cons (pe_cal C_next_tree hr (by omega) rfl (pa_cons (pv 0) (pa_cons (pe_op op_add (pv 1) pe_int) pa_nil))) pa_nil)))))) pss_nil)
      (pss_cons (ps_if (PW.pt (pw_or (pt_cmpR op_eq (pv 2) pe_str (nomark _)) (pw_or1 (pt_cmpR op_eq (pv 2) pe_str (nomark _))))) (pss_one (ps_ret (pe_tup (pa_cons (pv 2) pa_nil)))) pss_nil)
      (pss_cons (ps_if (pt_not (pt_val (pe_cal C_is_name hr (by omega) rfl (pa_cons (pv 2) pa_nil)))) pss_never pss_nil)
      (pss_one (ps_ret (pe_tup (pa_cons pe_str (pa_cons (pv 2) pa_nil))))))))))),?_⟩
  have dp:=t.depth_pos
  have sp:=t.size_pos
  obtain ⟨dx0,fs0,hs0,sf0⟩:=id S0
  refine ⟨_,rfl,sc,dx0,fs0,rfl,hs0,sf0.no1,_,rfl,sc,Tx,p,k,wi,rfl,S0,by omega,by omega,fun H1 S1 B1=>?_⟩
  obtain ⟨dx1,fs1,hs1,sf1⟩:=id S1
  refine ⟨_,rfl,sc,dx1,fs1,rfl,hs1,sf1.no2,sc,Tx,_,p,_,rfl,S1,_,rfl,?_⟩
  cases t with
  | bin o a b =>
    obtain ⟨oj,na,nb⟩:=nm
    have dd:a.depth≤n∧b.depth≤n∧wi+(a.depth:Int)≤10∧wi+(b.depth:Int)≤10:=by
      have e1:(Tr.bin o a b).depth=max a.depth b.depth+1:=rfl
      rw [e1] at dn wd
      omega
    have e2:(Tr.bin o a b).size=a.size+b.size+1:=rfl
    have hs:startsAt Tx ("(" : Str) (p:Int)=true:=starts_yes (r:=(a.txt++([32]++(o.cps.toList++([32]++(b.txt++[41])))))++r) (by rw [lit_po]; exact hd) pl
    rw [hs]
    refine iteT ?_
    refine ⟨_,rfl,_,rfl,sc,wi,Tx,p,k+1,o,a,b,r,rfl,S1,tl,pl,hd,oj,na,nb,dd.1,dd.2.1,dd.2.2.1,dd.2.2.2,by omega,fun v H2 T2 S2 B2=>?_⟩
    rw [show k+1+a.size+b.size=k+(Tr.bin o a b).size by rw [e2]; omega] at S2
    exact q v H2 T2 S2 (B1.trans B2)
  | is x =>
    obtain ⟨⟨_,xl,_⟩,x1,x6,xk⟩:=id nm
    have x1':1≤x.cps.toList.length:=by rw [len_list]; exact x1
    obtain ⟨c,r',hc,c40⟩:=letters_ne xl x1' r
    have hd':Tx.cps.toList.drop p=x.cps.toList++r:=hd
    rw [starts_no (hd'.trans hc) c40]
    refine iteF ?_
    refine ⟨_,rfl,sc,dx1,fs1,rfl,hs1,sf1.no4,sc,Tx,p,_,x.cps.toList,r,rfl,S1,tl,pl,hd',xl,er,fun H2 S2 B2=>?_⟩
    rw [stl_of]
    have ne:∀ z:Str,z ∈ kept→¬ V.str x=V.str z:=fun z hz h=>xk (str_inj h ▸ hz)
    refine ⟨_,rfl,rfl,_,rfl,?_⟩
    refine iteDF (ne _ (by decide +kernel)) ?_
    refine ⟨_,rfl,rfl,_,rfl,?_⟩
    refine iteDF (ne _ (by decide +kernel)) ?_
    refine ⟨_,rfl,rfl,_,rfl,?_⟩
    refine iteDF (ne _ (by decide +kernel)) ?_
    refine ⟨_,rfl,x,rfl,by omega,fun H3 S3=>⟨_,rfl,?_⟩⟩
    rw [nameB_K nm]
    refine iteF ?_
    refine ⟨_,rfl,(by show 2≤sizeLine; decide),fun a ha=>?_⟩
    have G:=Same.new ha (.tup [.str "is", .str x])
    exact q _ _ (.is upd_same) (S2.same (S3.trans G)) (B1.trans (B2.trans (SameBut.of (S3.trans G))))
  | yes =>
    have hd':Tx.cps.toList.drop p=[121,101,115]++r:=hd
    rw [starts_no (hd'.trans rfl) (by decide)]
    refine iteF ?_
    refine ⟨_,rfl,sc,dx1,fs1,rfl,hs1,sf1.no4,sc,Tx,p,_,[121,101,115],r,rfl,S1,tl,pl,hd',by decide,er,fun H2 S2 B2=>?_⟩
    rw [show stl [121,101,115]=("yes" : Str) from txt_yes]
    refine ⟨_,rfl,rfl,_,rfl,?_⟩
    refine iteDF (ne_str (by decide +kernel)) ?_
    refine ⟨_,rfl,rfl,_,rfl,?_⟩
    refine iteD rfl ?_
    refine iteT ?_
    refine ⟨_,rfl,(by show 1≤sizeLine; decide),fun a ha=>?_⟩
    have G:=Same.new ha (.tup [.str "yes"])
    exact q _ _ (.yes upd_same) (S2.same G) (B1.trans (B2.trans (SameBut.of G)))
  | no =>
    have hd':Tx.cps.toList.drop p=[110,111]++r:=hd
    rw [starts_no (hd'.trans rfl) (by decide)]
    refine iteF ?_
    refine ⟨_,rfl,sc,dx1,fs1,rfl,hs1,sf1.no4,sc,Tx,p,_,[110,111],r,rfl,S1,tl,pl,hd',by decide,er,fun H2 S2 B2=>?_⟩
    rw [show stl [110,111]=("no" : Str) from txt_no]
    refine ⟨_,rfl,rfl,_,rfl,?_⟩
    refine iteDF (ne_str (by decide +kernel)) ?_
    refine ⟨_,rfl,rfl,_,rfl,?_⟩
    refine iteDF (ne_str (by decide +kernel)) ?_
    refine ⟨_,rfl,rfl,_,rfl,?_⟩
    refine iteD rfl ?_
    refine ⟨_,rfl,(by show 1≤sizeLine; decide),fun a ha=>?_⟩
    have G:=Same.new ha (.tup [.str "no"])
    exact q _ _ (.no upd_same) (S2.same G) (B1.trans (B2.trans (SameBut.of G)))
  | not a =>
    have hd':Tx.cps.toList.drop p=[110,111,116]++([32]++(a.txt++r)):=hd
    have hl:=len_app hd' pl
    have dd:a.depth≤n∧wi+1+(a.depth:Int)≤11:=by
      have e1:(Tr.not a).depth=a.depth+1:=rfl
      rw [e1] at dn wd
      omega
    have e2:(Tr.not a).size=a.size+1:=rfl
    have e3:(Tr.not a).txt.length=4+a.txt.length:=by
      show ([110,111,116,32]++a.txt).length=_
      rw [List.length_append]
      rfl
    rw [starts_no (hd'.trans rfl) (by decide)]
    refine iteF ?_
    refine ⟨_,rfl,sc,dx1,fs1,rfl,hs1,sf1.no4,sc,Tx,p,_,[110,111,116],_,rfl,S1,tl,pl,hd',by decide,.inr ⟨32,_,rfl,.inl rfl⟩,fun H2 S2 B2=>?_⟩
    rw [show stl [110,111,116]=("not" : Str) from str_ext lit_n.symm]
    refine ⟨_,rfl,rfl,_,rfl,?_⟩
    refine iteD rfl ?_
    have hd2:=drop_app hd'
    have hd3:=drop_app hd2
    obtain ⟨dx2,fs2,hs2,sf2⟩:=id S2
    have l2:((" " : Str)).length=1:=by decide +kernel
    have hl':p+3+(1+(a.txt.length+r.length))=Tx.length:=by
      simp only [List.length_append,List.length_cons,List.length_nil] at hl
      omega
    refine ⟨_,rfl,sc,dx2,fs2,rfl,hs2,sf2.no3,sc,Tx,_,_,_,rfl,S2,starts_yes (r:=a.txt++r) (by rw [lit_sp]; exact hd2) (by show p+3≤Tx.length; omega),by rw [l2]; decide,fun H3 S3 B3=>?_⟩
    rw [l2] at S3
    refine ⟨_,rfl,_,rfl,_,_,rfl,rfl,sc,wi+1,Tx,_,_,a,r,rfl,S3,tl,by show p+3+1≤Tx.length; omega,hd3,er,nm,dd.1,dd.2,by omega,fun v H4 T4 S4 B4=>?_⟩
    refine ⟨(by show 2≤sizeLine; decide),fun c hc=>?_⟩
    have G:=Same.new hc (.tup [.str "not", v])
    have S4':ScanAt C H4 sc Tx (p+(Tr.not a).txt.length) (k+(Tr.not a).size):=by
      rw [e2,e3,show p+(4+a.txt.length)=p+3+1+a.txt.length by omega,show k+(a.size+1)=k+1+a.size by omega]
      exact S4
    exact q _ _ (.not upd_same (T4.mono (keepT_same G))) (S4'.same G) (B1.trans (B2.trans (B3.trans (B4.trans (SameBut.of G)))))
theorem nt_zero {f C:Addr} {fd:FuncData}:FnOk P w K mg base CX0 3 f fd ["scan", "within"] (spNext C 0):=by
  have no:∀ vs H Q E,¬ spNext C 0 vs H Q E:=fun vs H Q E h=>by
    obtain ⟨_,_,_,_,_,t,_,_,_,_,_,_,_,_,h1,_⟩:=h
    have:=t.depth_pos
    omega
  exact ⟨fun vs H Q E h=>absurd h (no vs H Q E),fun A outer s H args us vs Q E _ _ _ _ h=>absurd h (no vs H Q E)⟩
theorem ok_next_tree {f fj C fE fS fT fW fF:Addr} {fd fdj dE dS dT dW dF:FuncData} (F:Fun K "next_tree" "next_tree" s_next_tree f fd) (m:mg "next_tree" = some (.ref f)) (Fj:Fun K "joined_tree" "joined_tree" s_joined_tree fj fdj) (mj:mg "joined_tree" = some (.ref fj)) (X:Tx K mg) (T:STxt K mg C) (M:Mths P w K mg base C fE fS fT fW fF dE dS dT dW dF) (C_is_name:Cal P w K mg base 1 "is_name" ["text"] (spTxt nameB)) :
    ∀ n:Nat,FnOk P w K mg base CX0 (2*n+3) f fd ["scan", "within"] (spNext C n)
  | 0=>nt_zero
  | n+1 =>
    have c1:=Cal.of F (ok_next_tree F m Fj mj X T M C_is_name n) m (fun _ _ _ _ _ _ us hl=>by obtain ⟨u0,u1,rfl⟩:=len2 hl; rfl)
    nt_step F T M C_is_name c1 (Cal.of Fj (jt_step Fj X T M c1) mj (fun _ _ _ _ _ _ us hl=>by obtain ⟨u0,u1,rfl⟩:=len2 hl; rfl))
def spReadK:Sp:=fun vs H Q _=>∃ (t:Tr) (k:Int),vs=[.str t.str,.int k]∧t.nm∧t.depth≤10∧t.size≤30∧∀ (v:V) (H':Hp),TreeAt H' v t→Same H H'→Q v H'
theorem sc_tree_in_row:FnScope ["text", "row", "scan", "tree"] ["text", "row"] (defScope s_tree_in_row):=⟨rfl,rfl,rfl,by decide +kernel,rfl,by decide +kernel,by decide +kernel⟩
theorem ok_tree_in_row {f C fI fE fS fT fW fF:Addr} {fd fdI dE dS dT dW dF:FuncData} (F:Fun K "tree_in_row" "tree_in_row" s_tree_in_row f fd) (X:Tx K mg) (T:STxt K mg C) (M:Mths P w K mg base C fE fS fT fW fF dE dS dT dW dF) (MK:Mk K C fI) (GI:FnOk P w K mg base CX0 1 fI fdI ["self", "text", "row", "most_within", "most_parts"] (spSInit C)) (bI:Binds K fdI ["self", "text", "row", "most_within", "most_parts"] [])
    (C_next_tree:Cal P w K mg base 23 "next_tree" ["scan", "within"] (spNext C 10)):FnOk P w K mg base CX0 24 f fd ["text", "row"] spReadK:=by
  refine F.ok sc_tree_in_row (fun vs H Q E h=>?_) (fun cdv A outer s H vs Q E hr h=>?_)
  · obtain ⟨t,k,rfl,_⟩:=h
    rfl
  obtain ⟨t,k,rfl,nm,dp,sz,q⟩:=h
  obtain ⟨tw,gw⟩:=X.within
  obtain ⟨tp,gp⟩:=X.parts
  have hr1:Room 1 _:=hr.mono (by decide)
  have hr2:Room 2 _:=hr.mono (by decide)
  refine ⟨_,(pss_cons (ps_set (i:=2) sc_tree_in_row.nd rfl (Or.inl rfl) (pe_make MK GI hr2 rfl T.mgC bI .nil pass0 (pa_cons (pv 0) (pa_cons (pv 1) (pa_cons (pe_glob (v:=.int 10) rfl gw ⟨_,rfl⟩) (pa_cons (pe_glob (v:=.int 30) rfl gp ⟨_,rfl⟩) pa_nil))))))
      (pss_cons (ps_set (i:=3) sc_tree_in_row.nd rfl (Or.inl rfl) (pe_cal C_next_tree hr (by decide) rfl (pa_cons (pv 2) (pa_cons pe_int pa_nil))))
      (pss_cons (ps_expr (pe_meth0 (pv 2) T.cl M.mF M.gF hr1 M.bF .nil pass0))
      (pss_one (ps_ret (pv 3)))))),?_⟩
  refine ⟨_,rfl,_,rfl,fun g dx nx ndx nex=>?_⟩
  have s3:Same H (upd (upd H dx (.own g)) g (.ins C dx [])):=fun b o e=>by
    rw [upd_ne (ne_of_none e nx),upd_ne (ne_of_none e ndx)]
    exact e
  refine ⟨g,dx,t.str,k,rfl,upd_same,fun H1 S1 B1=>⟨rfl,?_⟩⟩
  have tl:=Tr.str_len nm
  have e0:t.str.length=t.txt.length:=stl_len _
  refine ⟨_,rfl,g,1,t.str,0,0,t,[],rfl,S1,by omega,Nat.zero_le _,by rw [List.drop_zero,List.append_nil]; rfl,.inl rfl,nm,dp,by omega,by omega,fun v H2 T2 S2 B2=>?_⟩
  rw [Nat.zero_add,← e0] at S2
  obtain ⟨dx2,fs2,hs2,sf2⟩:=id S2
  refine ⟨_,rfl,g,dx2,fs2,rfl,hs2,sf2.no5,g,t.str,_,rfl,S2,by omega,?_⟩
  exact ⟨_,rfl,q v H2 T2 fun b o e=>B2 b o (ne_of_none e nx) (B1 b o (ne_of_none e nx) (s3 b o e))⟩
theorem all_true:∀ n:Nat,(List.replicate n true).all id=true
  | 0=>rfl
  | n+1=>by rw [List.replicate_succ,List.all_cons,all_true n]; rfl
def fieldRow (n:Int):Str:=("field " : Str)++numT n
def swRow (xs:List Str):Str:=Str.join SP (("switches" : Str)::xs)
def treeRow (t:Tr):Str:=("holds " : Str)++t.str
def gameRows (n:Int) (xs:List Str) (ts:List Tr):List Str:=fieldRow n::swRow xs::ts.map treeRow
def gameT (n:Int) (xs:List Str) (ts:List Tr):Str:=Str.join NL (gameRows n xs ts)
structure Gm (n:Int) (xs:List Str) (ts:List Tr):Prop where
  n0:0≤n
  n1:n < 1000000000000
  x6:xs.length≤6
  xk:∀ x ∈ xs,NmK x
  t1:1≤ts.length
  t4:ts.length≤4
  tk:∀ t ∈ ts,t.nm∧t.depth≤10∧t.size≤30
theorem cd_f:cd (("field " : Str))=[102,105,101,108,100,32]:=by decide +kernel
theorem cd_h:cd (("holds " : Str))=[104,111,108,100,115,32]:=by decide +kernel
theorem cd_s:cd (("switches" : Str))=[115,119,105,116,99,104,101,115]:=by decide +kernel
theorem len_f:(("field " : Str)).length=6:=by decide +kernel
theorem len_h:(("holds " : Str)).length=6:=by decide +kernel
theorem len_s:(("switches" : Str)).length=8:=by decide +kernel
theorem Tr.txt_hi:∀ t:Tr,t.nm→∀ c ∈ t.txt,32≤c
  | .is x,h,c,hc=>by have:=h.1.2.1 c hc; omega
  | .yes,_,c,hc=>by revert c; decide
  | .no,_,c,hc=>by revert c; decide
  | .not a,h,c,hc=>by
    rcases List.mem_append.mp (show c ∈ [110,111,116,32]++a.txt from hc) with h1 | h1
    · exact (by decide:∀ c ∈ ([110,111,116,32]:List Nat),32≤c) c h1
    · exact Tr.txt_hi a h c h1
  | .bin o a b,⟨h,h1,h2⟩,c,hc=>by
    have hc':c ∈ [40]++(a.txt++([32]++(o.cps.toList++([32]++(b.txt++[41]))))):=hc
    simp only [List.mem_append,List.mem_singleton] at hc'
    rcases hc' with e | e | e | e | e | e | e
    · omega
    · exact Tr.txt_hi a h1 c e
    · omega
    · have:=(join_letters o h).2.1 c e; omega
    · omega
    · exact Tr.txt_hi b h2 c e
    · omega
theorem row_hi {n:Int} {xs:List Str} {ts:List Tr} (g:Gm n xs ts):∀ r ∈ gameRows n xs ts,∀ c ∈ cd r,32≤c:=by
  intro r hr c hc
  rcases List.mem_cons.mp hr with rfl | hr
  · unfold fieldRow at hc
    rw [cd_append,cd_f] at hc
    rcases List.mem_append.mp hc with h | h
    · exact (by decide:∀ c ∈ ([102,105,101,108,100,32]:List Nat),32≤c) c h
    · have:=num_dig g.n0 c h; omega
  rcases List.mem_cons.mp hr with rfl | hr
  · unfold swRow at hc
    rw [show SP=⟨#[32]⟩ from rfl,cd_join] at hc
    rcases mem_jn hc with e | ⟨a,ha,h⟩
    · omega
    · obtain ⟨x,hx,rfl⟩:=List.mem_map.mp ha
      rcases List.mem_cons.mp hx with rfl | hx
      · rw [cd_s] at h
        exact (by decide:∀ c ∈ ([115,119,105,116,99,104,101,115]:List Nat),32≤c) c h
      · have:=(g.xk x hx).1.2.1 c h; omega
  · obtain ⟨t,ht,rfl⟩:=List.mem_map.mp hr
    unfold treeRow at hc
    rw [cd_append,cd_h] at hc
    rcases List.mem_append.mp hc with h | h
    · exact (by decide:∀ c ∈ ([104,111,108,100,115,32]:List Nat),32≤c) c h
    · exact Tr.txt_hi t (g.tk t ht).1 c h
theorem rows_split {n:Int} {xs:List Str} {ts:List Tr} (g:Gm n xs ts):Txt.split (gameT n xs ts) NL=gameRows n xs ts:=split_join (c:=10) (List.cons_ne_nil _ _) fun p hp hc=>by
  have:=row_hi g p hp 10 hc
  omega
theorem join_len (c:Nat):∀ ps:List Str,(Str.join ⟨#[c]⟩ ps).length≤(ps.map (·.length)).sum+ps.length
  | []=>Nat.zero_le _
  | [a]=>by
    show a.length≤a.length+0+1
    omega
  | a::b::r=>by
    have ih:=join_len c (b::r)
    have e:(Str.join ⟨#[c]⟩ (a::b::r)).length=a.length+1+(Str.join ⟨#[c]⟩ (b::r)).length:=by
      show (a++⟨#[c]⟩++Str.join ⟨#[c]⟩ (b::r)).length=_
      rw [Str.length_append,Str.length_append]
      rfl
    rw [e,List.map_cons,List.sum_cons,List.length_cons]
    omega
theorem field_len {n:Int} (h0:0≤n) (h1:n < 1000000000000):(fieldRow n).length≤18:=by
  unfold fieldRow
  rw [Str.length_append,len_f]
  have:=num_len h0 h1
  omega
theorem sw_sum {xs:List Str} (x6:xs.length≤6) (xk:∀ x ∈ xs,NmK x):(((("switches" : Str)::xs)).map (·.length)).sum+((("switches" : Str)::xs)).length≤60:=by
  have:=sum_le (l:=xs) (b:=6) fun p hp=>(xk p hp).2.2.1
  rw [List.map_cons,List.sum_cons,len_s,List.length_cons]
  have:xs.length*6≤36:=by omega
  omega
theorem sw_len {xs:List Str} (x6:xs.length≤6) (xk:∀ x ∈ xs,NmK x):(swRow xs).length≤60:=Nat.le_trans (join_len 32 _) (sw_sum x6 xk)
theorem tree_len {t:Tr} (h:t.nm) (hs:t.size≤30):(treeRow t).length≤246:=by
  unfold treeRow
  rw [Str.length_append,len_h]
  have:=Tr.str_len h
  omega
theorem rows_sum {n:Int} {xs:List Str} {ts:List Tr} (g:Gm n xs ts):((gameRows n xs ts).map (·.length)).sum+(gameRows n xs ts).length≤2000:=by
  have h1:=sum_le (l:=gameRows n xs ts) (b:=246) fun p hp=>by
    rcases List.mem_cons.mp hp with rfl | hp
    · have:=field_len g.n0 g.n1; omega
    rcases List.mem_cons.mp hp with rfl | hp
    · have:=sw_len g.x6 g.xk; omega
    · obtain ⟨t,ht,rfl⟩:=List.mem_map.mp hp
      exact tree_len (g.tk t ht).1 (g.tk t ht).2.2
  have h2:(gameRows n xs ts).length=ts.length+2:=by
    unfold gameRows
    simp
  have h3:=g.t4
  rw [h2] at h1 ⊢
  have:(ts.length+2)*246≤6*246:=Nat.mul_le_mul_right _ (by omega)
  omega
theorem game_len {n:Int} {xs:List Str} {ts:List Tr} (g:Gm n xs ts):(gameT n xs ts).length≤2000:=Nat.le_trans (join_len 10 _) (rows_sum g)
theorem starts_txt {z u:Str} {r:List Nat} (h:z.cps.toList=u.cps.toList++r):Txt.startswith z u=true:=by
  have hl:=congrArg List.length h
  rw [List.length_append,len_list,len_list] at hl
  show (decide (0+u.length≤z.length) && Builtin.Str.subAt z u 0)=true
  rw [sub_iff,List.drop_zero,h,← len_list u,List.take_left,decide_eq_true rfl,decide_eq_true (by rw [len_list]; omega)]
  rfl
theorem slice_from {u y:Str}:Txt.slice (u++y) (some (u.length:Int)) none=y:=by
  have e:(u++y).cps.toList=u.cps.toList++y.cps.toList:=cat_list u y
  have es:Txt.slice (u++y) (some (u.length:Int)) none=_:=StrLaws.sliceText_from (x:=u++y) (i:=(u.length:Int)) ⟨by omega,by rw [e,List.length_append,len_list]; omega⟩
  rw [es]
  refine str_ext ?_
  show ((u++y).cps.toList.drop (u.length:Int).toNat).take (((u++y).cps.toList.length:Int) - (u.length:Int)).toNat=y.cps.toList
  rw [e,show (u.length:Int).toNat=u.cps.toList.length by rw [len_list]; omega,List.drop_left,List.take_of_length_le]
  rw [List.length_append,len_list,len_list]
  omega
def spFieldR:Sp:=fun vs H Q _=>∃ n:Int,vs=[.str (fieldRow n)]∧0≤n∧n < 1000000000000∧∀ H',Same H H'→Q (.int n) H'
theorem sc_field_in_row:FnScope ["text", "figures"] ["text"] (defScope s_field_in_row):=⟨rfl,rfl,rfl,by decide +kernel,rfl,by decide +kernel,by decide +kernel⟩
theorem ok_field_in_row {f:Addr} {fd:FuncData} (F:Fun K "field_in_row" "field_in_row" s_field_in_row f fd) (B:Bl mg) (X:Tx K mg) (C_is_figures:Cal P w K mg base 1 "is_figures" ["text"] (spTxt figB)):FnOk P w K mg base CX0 2 f fd ["text"] spFieldR:=by
  refine F.ok sc_field_in_row (fun vs H Q E h=>?_) (fun cdv A outer s H vs Q E hr h=>?_)
  · obtain ⟨n,rfl,_⟩:=h
    rfl
  obtain ⟨n,rfl,n0,n1,q⟩:=h
  obtain ⟨th,gh⟩:=X.fhead
  refine ⟨_,(pss_cons (ps_set (i:=1) sc_field_in_row.nd rfl (Or.inl rfl) (pe_slice sl_str (pv 0) (po_some (pe_callB call_len_str rfl B.len PySem.boot_len (pa_cons (pe_glob (v:=.str "field ") rfl gh ⟨_,rfl⟩) pa_nil))) po_none))
      (pss_cons (ps_if (PW.pt (pw_or (pt_not (pt_val (pe_bm PySem.F.plainAttrs_str PySem.F.slot_str_startswith PySem.F.type_str_startswith mt_startswith (pv 0) (pa_cons (pe_glob (v:=.str "field ") rfl gh ⟨_,rfl⟩) pa_nil)))) (pw_or1 (pt_not (pt_val (pe_cal C_is_figures hr (by decide) rfl (pa_cons (pv 1) pa_nil))))))) pss_never pss_nil)
      (pss_one (ps_ret (pe_callTy call_int_text rfl B.int boot_int' (pa_cons (pv 1) pa_nil)))))),?_⟩
  have fl:=field_len n0 n1
  have nl:=num_len n0 n1
  refine ⟨_,rfl,_,rfl,small (by rw [len_f]; decide),_,rfl,_,rfl,small (by omega),?_⟩
  have es:Txt.slice (fieldRow n) (some ((("field " : Str)).length:Int)) none=numT n:=slice_from
  rw [es]
  refine ⟨_,rfl,rfl,_,_,rfl,rfl,_,rfl,?_⟩
  rw [starts_txt (z:=fieldRow n) (u := "field ") (r:=(numT n).cps.toList) (cat_list _ _)]
  refine iteF ?_
  refine ⟨_,rfl,numT n,rfl,by omega,fun H1 S1=>⟨_,rfl,?_⟩⟩
  rw [num_fig n0 n1]
  refine iteF ?_
  exact ⟨_,rfl,_,_,rfl,num_int n0 n1,by omega,q H1 S1⟩
def spRowE:Sp:=fun vs H Q _=>∃ (a:Addr) (rs:List Str) (k:Nat) (r:Str),vs=[.ref a,.int (k:Int)]∧H a=some (.lst (rs.map V.str))∧rs[k]?=some r∧Q (.str r) H
theorem sc_row_or_end:FnScope ["rows", "number"] ["rows", "number"] (defScope s_row_or_end):=⟨rfl,rfl,rfl,by decide +kernel,rfl,by decide +kernel,by decide +kernel⟩
theorem at_row {rs:List Str} {k:Nat} {r:Str} (h:rs[k]?=some r):atI (rs.map V.str) (k:Int)=some (.str r):=atI_nat (by rw [List.getElem?_map,h]; rfl)
theorem ok_row_or_end {f:Addr} {fd:FuncData} (F:Fun K "row_or_end" "row_or_end" s_row_or_end f fd) (B:Bl mg):FnOk P w K mg base CX0 1 f fd ["rows", "number"] spRowE:=by
  refine F.ok sc_row_or_end (fun vs H Q E h=>?_) (fun cdv A outer s H vs Q E hr h=>?_)
  · obtain ⟨a,rs,k,r,rfl,_⟩:=h
    rfl
  obtain ⟨a,rs,k,r,rfl,ha,hk,q⟩:=h
  refine ⟨_,(pss_cons (ps_if (pt_cmpR op_ge (pv 1) (pe_callB call_len_seq rfl B.len PySem.boot_len (pa_cons (pv 0) pa_nil)) (nomark _)) pss_never pss_nil)
      (pss_one (ps_ret (pe_ix ix_list (pv 0) (pv 1) (fun _ _=>rfl))))),?_⟩
  have hi:=(List.getElem?_eq_some_iff.mp hk).1
  refine ⟨_,rfl,_,rfl,a,_,rfl,.inl (SqL.of ha),_,_,rfl,rfl,_,rfl,?_⟩
  refine iteDF (by rw [List.length_map]; omega) ?_
  exact ⟨_,rfl,_,rfl,a,_,_,_,rfl,rfl,SqL.of ha,at_row hk,q⟩
def spSwR:Sp:=fun vs H Q _=>∃ (xs:List Str),vs=[.str (swRow xs)]∧xs.length≤6∧(∀ x ∈ xs,NmK x)∧∀ (a:Addr) (H':Hp),H' a=some (.tup (xs.map V.str))→Same H H'→Q (.ref a) H'
theorem sw_split' {xs:List Str} (xk:∀ x ∈ xs,NmK x):Txt.split (swRow xs) SP=("switches" : Str)::xs:=split_join (c:=32) (List.cons_ne_nil _ _) fun p hp hc=>by
  rcases List.mem_cons.mp hp with rfl | hp
  · rw [cd_s] at hc
    revert hc; decide
  · have:=(xk p hp).1.2.1 32 hc; omega
theorem sc_switches_in_row:FnScope ["text", "words", "names"] ["text"] (defScope s_switches_in_row):=⟨rfl,rfl,rfl,by decide +kernel,rfl,by decide +kernel,by decide +kernel⟩
theorem ok_switches_in_row {f:Addr} {fd:FuncData} (F:Fun K "switches_in_row" "switches_in_row" s_switches_in_row f fd) (B:Bl mg) (X:Tx K mg) (C_is_name:Cal P w K mg base 1 "is_name" ["text"] (spTxt nameB)):FnOk P w K mg base CX0 2 f fd ["text"] spSwR:=by
  refine F.ok sc_switches_in_row (fun vs H Q E h=>?_) (fun cdv A outer s H vs Q E hr h=>?_)
  · obtain ⟨xs,rfl,_⟩:=h
    rfl
  obtain ⟨xs,rfl,x6,xk,q⟩:=h
  obtain ⟨tm,gm⟩:=X.switches
  refine ⟨_,(pss_cons (ps_set (i:=1) sc_switches_in_row.nd rfl (Or.inl rfl) (pe_bm PySem.F.plainAttrs_str PySem.F.slot_str_split PySem.F.type_str_split mt_split (pv 0) (pa_cons pe_str pa_nil)))
      (pss_cons (ps_set (i:=2) sc_switches_in_row.nd rfl (Or.inl rfl) (pe_slice sl_list (pv 1) (po_some pe_int) po_none))
      (pss_cons (ps_if (PW.pt (pw_or (pt_cmpR op_ne (pe_ix ix_list (pv 1) pe_int (fun _ _=>rfl)) pe_str (nomark _)) (pw_or1 (pt_cmpR op_gt (pe_callB call_len_seq rfl B.len PySem.boot_len (pa_cons (pv 2) pa_nil)) (pe_glob (v:=.int 6) rfl gm ⟨_,rfl⟩) (nomark _))))) pss_never pss_nil)
      (pss_cons (ps_if (pt_not (pt_val (pe_callB (call_all rfl) rfl B.all PyProof.Rows.boot_all (pa_cons (pe_comp (N:=[]) (ix:=[]) (cl:=[]) rfl (CompScope.closed (by with_unfolding_all rfl) (by decide) rfl (by decide) rfl (by with_unfolding_all rfl)) rfl
        (pi_list (pv 2)) (fun _ _ _=>pb_all (pe_cal C_is_name hr (by decide) rfl (pa_cons (pv 0) pa_nil)))) pa_nil)))) pss_never pss_nil)
      (pss_one (ps_ret (pe_callTy call_tuple_of rfl B.tuple boot_tuple' (pa_cons (pv 2) pa_nil)))))))),?_⟩
  have sl:=sw_len x6 xk
  have ps:=sw_split' xk
  have psp:Txt.split (swRow xs) (" " : Str)=("switches" : Str)::xs:=by rw [sp_eq]; exact ps
  refine ⟨_,rfl,rfl,swRow xs,_,rfl,rfl,(by decide +kernel),by omega,by rw [psp,List.length_cons]; omega,fun W hW=>?_⟩
  rw [psp]
  have GW:=Same.new hW (.lst ((("switches" : Str)::xs).map V.str))
  have hW1:upd H W (.lst ((("switches" : Str)::xs).map V.str)) W=some (.lst ((("switches" : Str)::xs).map V.str)):=upd_same
  generalize upd H W (.lst ((("switches" : Str)::xs).map V.str))=H1 at GW hW1
  refine ⟨_,rfl,1,rfl,W,_,rfl,SqL.of hW1,fun N hN=>?_⟩
  have ec:cutV ((("switches" : Str)::xs).map V.str) (some 1) none=xs.map V.str:=by
    have:=cut_from (xs:=(("switches" : Str)::xs).map V.str) (k:=1) (by simp)
    exact this
  rw [ec]
  have GN:=Same.new hN (.lst (xs.map V.str))
  have hN2:upd H1 N (.lst (xs.map V.str)) N=some (.lst (xs.map V.str)):=upd_same
  generalize upd H1 N (.lst (xs.map V.str))=H2 at GN hN2
  refine ⟨_,rfl,W,_,0,.str "switches", rfl,rfl,SqL.of (GN _ _ hW1),at0 ..,rfl,_,rfl,?_⟩
  show if (!decide (V.str "switches" = V.str "switches"))=true then _ else _
  rw [decide_eq_true rfl]
  refine iteF ?_
  refine ⟨_,rfl,N,_,rfl,.inl (SqL.of hN2),_,_,rfl,rfl,_,rfl,?_⟩
  refine iteDF (by rw [List.length_map]; omega) ?_
  refine ⟨_,rfl,N,rfl,⟨_,SqL.of hN2⟩,fun D hD=>?_⟩
  refine comp_list (K:=K) (xs:=xs.map V.str) (fun i H'=>H' D=some (.lst ((List.replicate i true).map V.bl))∧Same H2 H') ⟨by rw [upd_same]; rfl,Same.new hD _⟩ (fun i H' _ h=>SqL.of (h.2 _ _ hN2)) ?_ ?_
  · rintro i z H3 hz ⟨hD3,S3⟩
    have hi:=(List.getElem?_eq_some_iff.mp hz).1
    have hi':=hi
    rw [List.length_map] at hi'
    rw [List.getElem?_map] at hz
    obtain ⟨x,hx,rfl⟩:=Option.map_eq_some_iff.mp hz
    have xk':=xk x (List.mem_of_getElem? hx)
    refine ⟨_,rfl,x,rfl,by have:=xk'.2.2.1; omega,fun H4 S4=>?_⟩
    rw [nameB_K xk']
    refine ⟨_,S4 _ _ hD3,?_,Nx.of hi ⟨?_,fun b' o' e'=>?_⟩⟩
    · rw [List.length_map,List.length_replicate]
      exact small1000 (by omega)
    · rw [upd_same,List.replicate_succ',List.map_append]
      rfl
    · rw [upd_ne (ne_of_none e' hD)]
      exact S4 _ _ (S3 _ _ e')
  · rintro H3 ⟨hD3,S3⟩
    refine ⟨D,_,rfl,SqL.of hD3,_,rfl,?_⟩
    rw [all_true]
    refine iteF ?_
    refine ⟨_,rfl,N,_,rfl,.inl ⟨SqL.of (S3 _ _ hN2),fun t ht=>?_⟩⟩
    exact q t _ upd_same (GW.trans (GN.trans (S3.trans (Same.new ht _))))
def TsAt (H:Hp) (tv:List V) (ts:List Tr):Prop:=tv.length=ts.length∧∀ (i:Nat) (v:V) (t:Tr),tv[i]?=some v→ts[i]?=some t→TreeAt H v t
theorem TsAt.mono {H H':Hp} {tv:List V} {ts:List Tr} (h:TsAt H tv ts) (k:KeepT H H'):TsAt H' tv ts:=⟨h.1,fun i v t hv ht=>(h.2 i v t hv ht).mono k⟩
theorem TsAt.snoc {H:Hp} {tv:List V} {ts:List Tr} {v:V} {t:Tr} (h:TsAt H tv ts) (a:TreeAt H v t):TsAt H (tv++[v]) (ts++[t]):=by
  refine ⟨by rw [List.length_append,List.length_append,h.1]; rfl,fun i u r hu hr=>?_⟩
  have hl:=h.1
  by_cases c:i < tv.length
  · rw [List.getElem?_append_left c] at hu
    rw [List.getElem?_append_left (by omega)] at hr
    exact h.2 i u r hu hr
  · rw [List.getElem?_append_right (by omega)] at hu
    rw [List.getElem?_append_right (by omega)] at hr
    have e1:i - tv.length=0:=by
      have:=(List.getElem?_eq_some_iff.mp hu).1
      rw [List.length_singleton] at this
      omega
    have e2:i - ts.length=0:=by omega
    rw [e1] at hu
    rw [e2] at hr
    cases hu
    cases hr
    exact a
def spTsR:Sp:=fun vs H Q _=>∃ (a:Addr) (r0 r1:Str) (ts:List Tr),vs=[.ref a]∧H a=some (.lst ((r0::r1::ts.map treeRow).map V.str))∧ts.length≤4∧(∀ t ∈ ts,t.nm∧t.depth≤10∧t.size≤30)∧∀ (b:Addr) (tv:List V) (H':Hp),H' b=some (.tup tv)→TsAt H' tv ts→Same H H'→Q (.ref b) H'
theorem sc_trees_in_rows:FnScope ["rows", "trees", "number"] ["rows"] (defScope s_trees_in_rows):=⟨rfl,rfl,rfl,by decide +kernel,rfl,by decide +kernel,by decide +kernel⟩
theorem ok_trees_in_rows {f:Addr} {fd:FuncData} (F:Fun K "trees_in_rows" "trees_in_rows" s_trees_in_rows f fd) (B:Bl mg) (X:Tx K mg) (C_tree_in_row:Cal P w K mg base 24 "tree_in_row" ["text", "row"] spReadK):FnOk P w K mg base CX0 25 f fd ["rows"] spTsR:=by
  refine F.ok sc_trees_in_rows (fun vs H Q E h=>?_) (fun cdv A outer s H vs Q E hr h=>?_)
  · obtain ⟨a,r0,r1,ts,rfl,_⟩:=h
    rfl
  obtain ⟨a,r0,r1,ts,rfl,ha,t4,tk,q⟩:=h
  obtain ⟨tf,gf⟩:=X.first
  obtain ⟨tm,gm⟩:=X.trees
  obtain ⟨th,gh⟩:=X.thead
  refine ⟨_,(pss_cons (ps_set (i:=1) sc_trees_in_rows.nd rfl (Or.inl rfl) (pe_lst pa_nil))
      (pss_cons (ps_for PassesOwn.never rfl (pi_range2 rfl B.range (pa_cons (pe_glob (v:=.int 2) rfl gf ⟨_,rfl⟩) (pa_cons (pe_callB call_len_seq rfl B.len PySem.boot_len (pa_cons (pv 0) pa_nil)) pa_nil))) (pg_name (i:=2) sc_trees_in_rows.nd rfl (Or.inl rfl)) (pss_cons (ps_if (PW.pt (pw_or (pt_cmpR op_eq (pe_callB call_len_seq rfl B.len PySem.boot_len (pa_cons (pv 1) pa_nil)) (pe_glob (v:=.int 4) rfl gm ⟨_,rfl⟩) (nomark _)) (pw_or1 (pt_not (pt_val (pe_bm PySem.F.plainAttrs_str PySem.F.slot_str_startswith PySem.F.type_str_startswith mt_startswith (pe_ix ix_list (pv 0) (pv 2) (fun _ _=>rfl)) (pa_cons (pe_glob (v:=.str "holds ") rfl gh ⟨_,rfl⟩) pa_nil))))))) pss_never pss_nil)
        (pss_one (ps_expr (pe_bm PySem.F.plainAttrs_list PySem.F.slot_list_append PySem.F.type_list_append mt_append (pv 1) (pa_cons (pe_cal C_tree_in_row hr (by decide) rfl (pa_cons (pe_slice sl_str (pe_ix ix_list (pv 0) (pv 2) (fun _ _=>rfl)) (po_some (pe_callB call_len_str rfl B.len PySem.boot_len (pa_cons (pe_glob (v:=.str "holds ") rfl gh ⟨_,rfl⟩) pa_nil))) po_none) (pa_cons (pv 2) pa_nil))) pa_nil))))))
      (pss_one (ps_ret (pe_callTy call_tuple_of rfl B.tuple boot_tuple' (pa_cons (pv 1) pa_nil)))))),?_⟩
  refine ⟨(by show 0≤sizeLine; decide),fun L hL=>?_⟩
  have GL:=Same.new hL (.lst [])
  have naL:a ≠ L:=ne_of_none ha hL
  have rl:((r0::r1::ts.map treeRow).map V.str).length=ts.length+2:=by simp
  refine ⟨_,rfl,a,_,rfl,.inl (SqL.of (GL _ _ ha)),_,_,rfl,⟨by decide,by decide,by omega,by rw [rl]; omega⟩,?_⟩
  rw [rl,show (((ts.length+2:Nat):Int) - 2).toNat=ts.length by omega]
  refine for_range (fun i σ H'=>∃ (x2:Option V) (tv:List V),σ=[some (.ref a),some (.ref L),x2]∧H' L=some (.lst tv)∧TsAt H' tv (ts.take i)∧SameBut L H H') ⟨_,[],rfl,upd_same,⟨rfl,fun i v t hv=>by simp at hv⟩,SameBut.of GL⟩ ?_ ?_
  · rintro i σ H1 hi ⟨x2,tv,rfl,hL1,TS1,B1⟩
    have ht:ts[i]?=some ts[i]:=List.getElem?_eq_getElem hi
    obtain ⟨nm,td,tz⟩:=tk ts[i] (List.getElem_mem hi)
    have tvl:tv.length=i:=by rw [TS1.1,List.length_take]; omega
    have ha1:=B1 _ _ naL ha
    have hr':(r0::r1::ts.map treeRow)[i+2]?=some (treeRow ts[i]):=by
      show (ts.map treeRow)[i]?=_
      rw [List.getElem?_map,ht]
      rfl
    have hat:atI ((r0::r1::ts.map treeRow).map V.str) (2+(i:Int))=some (.str (treeRow ts[i])):=by
      have:=at_row hr'
      rwa [show ((i+2:Nat):Int)=2+(i:Int) by omega] at this
    have tl:=tree_len nm tz
    refine ⟨_,rfl,L,_,rfl,.inl (SqL.of hL1),rfl,_,rfl,?_⟩
    refine iteDF (fun z=>by have:=V.int.inj z; omega) ?_
    refine ⟨_,rfl,_,rfl,a,_,_,_,rfl,rfl,SqL.of ha1,hat,rfl,_,_,rfl,rfl,_,rfl,?_⟩
    rw [starts_txt (z:=treeRow ts[i]) (u := "holds ") (r:=ts[i].str.cps.toList) (cat_list _ _)]
    refine iteF ?_
    refine ⟨_,rfl,.inl ⟨rfl,_,SqL.of hL1⟩,_,rfl,_,rfl,a,_,_,_,rfl,rfl,SqL.of ha1,hat,_,rfl,small (by rw [len_h]; decide),_,rfl,_,rfl,small (by omega),?_⟩
    have es:Txt.slice (treeRow ts[i]) (some ((("holds " : Str)).length:Int)) none=ts[i].str:=slice_from
    rw [es]
    refine ⟨_,rfl,ts[i],_,rfl,nm,td,tz,fun v H2 T2 S2=>?_⟩
    have hL2:=S2 _ _ hL1
    refine ⟨L,_,_,rfl,rfl,hL2,small1000 (by omega),?_⟩
    have k1:KeepT H2 (upd H2 L (.lst (tv++[v]))):=keepT_lst hL2
    refine ⟨_,tv++[v],rfl,upd_same,?_,fun b o hb e=>?_⟩
    · rw [List.take_add_one,ht]
      exact ((TS1.mono (keepT_same S2)).mono k1).snoc (T2.mono k1)
    · rw [upd_ne hb]
      exact S2 _ _ (B1 b o hb e)
  · rintro σ H1 ⟨x2,tv,rfl,hL1,TS1,B1⟩
    rw [List.take_length] at TS1
    refine ⟨_,rfl,L,_,rfl,.inl ⟨SqL.of hL1,fun t ht=>?_⟩⟩
    have G:=Same.new ht (.tup tv)
    exact q t tv _ upd_same (TS1.mono (keepT_same G)) fun b o e=>G _ _ (B1 b o (ne_of_none e hL) e)
def GameV (H:Hp) (v:V) (n:Int) (xs:List Str) (ts:List Tr):Prop:=∃ (g a b:Addr) (tv:List V),v=.ref g∧H g=some (.tup [.ref a,.ref b,.int n])∧H a=some (.tup (xs.map V.str))∧H b=some (.tup tv)∧TsAt H tv ts
def spReadG:Sp:=fun vs H Q _=>∃ (n:Int) (xs:List Str) (ts:List Tr),vs=[.str (gameT n xs ts)]∧Gm n xs ts∧∀ (v:V) (H':Hp),GameV H' v n xs ts→Same H H'→Q v H'
theorem sc_read_game:FnScope ["text", "rows", "field", "switches", "trees"] ["text"] (defScope s_read_game):=⟨rfl,rfl,rfl,by decide +kernel,rfl,by decide +kernel,by decide +kernel⟩
theorem ok_read_game {f:Addr} {fd:FuncData} (F:Fun K "read_game" "read_game" s_read_game f fd) (X:Tx K mg) (C_field_in_row:Cal P w K mg base 2 "field_in_row" ["text"] spFieldR) (C_switches_in_row:Cal P w K mg base 2 "switches_in_row" ["text"] spSwR) (C_row_or_end:Cal P w K mg base 1 "row_or_end" ["rows", "number"] spRowE) (C_trees_in_rows:Cal P w K mg base 25 "trees_in_rows" ["rows"] spTsR):FnOk P w K mg base CX0 26 f fd ["text"] spReadG:=by
  refine F.ok sc_read_game (fun vs H Q E h=>?_) (fun cdv A outer s H vs Q E hr h=>?_)
  · obtain ⟨n,xs,ts,rfl,_⟩:=h
    rfl
  obtain ⟨n,xs,ts,rfl,g,q⟩:=h
  obtain ⟨tf,gf⟩:=X.first
  refine ⟨_,(pss_cons (ps_set (i:=1) sc_read_game.nd rfl (Or.inl rfl) (pe_bm PySem.F.plainAttrs_str PySem.F.slot_str_split PySem.F.type_str_split mt_split (pv 0) (pa_cons pe_str pa_nil)))
      (pss_cons (ps_set (i:=2) sc_read_game.nd rfl (Or.inl rfl) (pe_cal C_field_in_row hr (by decide) rfl (pa_cons (pe_ix ix_list (pv 1) pe_int (fun _ _=>rfl)) pa_nil)))
      (pss_cons (ps_set (i:=3) sc_read_game.nd rfl (Or.inl rfl) (pe_cal C_switches_in_row hr (by decide) rfl (pa_cons (pe_cal C_row_or_end hr (by decide) rfl (pa_cons (pv 1) (pa_cons pe_int pa_nil))) pa_nil)))
      (pss_cons (ps_expr (pe_cal C_row_or_end hr (by decide) rfl (pa_cons (pv 1) (pa_cons (pe_glob (v:=.int 2) rfl gf ⟨_,rfl⟩) pa_nil))))
      (pss_cons (ps_set (i:=4) sc_read_game.nd rfl (Or.inl rfl) (pe_cal C_trees_in_rows hr (by decide) rfl (pa_cons (pv 1) pa_nil)))
      (pss_one (ps_ret (pe_tup (pa_cons (pv 3) (pa_cons (pv 4) (pa_cons (pv 2) pa_nil))))))))))),?_⟩
  have gl:=game_len g
  have rs:=rows_split g
  have rsp:Txt.split (gameT n xs ts) ("\n" : Str)=gameRows n xs ts:=by rw [nl_eq]; exact rs
  have rlen:(gameRows n xs ts).length=ts.length+2:=by unfold gameRows; simp
  have t4:=g.t4
  have t1:=g.t1
  refine ⟨_,rfl,rfl,gameT n xs ts,_,rfl,rfl,(by decide +kernel),by omega,by rw [rsp,rlen]; omega,fun W hW=>?_⟩
  rw [rsp]
  have GW:=Same.new hW (.lst ((gameRows n xs ts).map V.str))
  have hW1:upd H W (.lst ((gameRows n xs ts).map V.str)) W=some (.lst ((gameRows n xs ts).map V.str)):=upd_same
  generalize upd H W (.lst ((gameRows n xs ts).map V.str))=H1 at GW hW1
  have g0:(gameRows n xs ts)[0]?=some (fieldRow n):=rfl
  have g1:(gameRows n xs ts)[1]?=some (swRow xs):=rfl
  have g2:(gameRows n xs ts)[2]?=some (treeRow ts[0]):=by
    show (ts.map treeRow)[0]?=_
    rw [List.getElem?_map,List.getElem?_eq_getElem (show 0 < ts.length by omega)]
    rfl
  refine ⟨_,rfl,W,_,0,_,rfl,rfl,SqL.of hW1,at_row g0,n,rfl,g.n0,g.n1,fun H2 S2=>?_⟩
  refine ⟨_,rfl,W,_,1,_,rfl,S2 _ _ hW1,g1,xs,rfl,g.x6,g.xk,fun a H3 ha3 S3=>?_⟩
  have S13:=S2.trans S3
  refine ⟨_,rfl,W,_,2,_,rfl,S13 _ _ hW1,g2,?_⟩
  refine ⟨_,rfl,W,_,_,ts,rfl,S13 _ _ hW1,t4,g.tk,fun b tv H4 hb4 TS4 S4=>?_⟩
  refine ⟨_,rfl,_,rfl,_,rfl,(by show 3≤sizeLine; decide),fun c hc=>?_⟩
  have G:=Same.new hc (.tup [.ref a,.ref b,.int n])
  exact q _ _ ⟨c,a,b,tv,rfl,upd_same,G _ _ (S4 _ _ ha3),G _ _ hb4,TS4.mono (keepT_same G)⟩ (GW.trans (S13.trans (S4.trans G)))
theorem TsAt.get {H:Hp} {tv:List V} {ts:List Tr} (h:TsAt H tv ts) {i:Nat} {v:V} (hv:tv[i]?=some v):∃ t,ts[i]?=some t∧TreeAt H v t:=by
  have hi:=(List.getElem?_eq_some_iff.mp hv).1
  have hi':i < ts.length:=by rw [← h.1]; exact hi
  exact ⟨ts[i],List.getElem?_eq_getElem hi',h.2 i v _ hv (List.getElem?_eq_getElem hi')⟩
def spGText:Sp:=fun vs H Q _=>∃ (a b:Addr) (tv:List V) (n:Int) (xs:List Str) (ts:List Tr),vs=[.ref a,.ref b,.int n]∧H a=some (.tup (xs.map V.str))∧H b=some (.tup tv)∧TsAt H tv ts∧Gm n xs ts∧∀ H',Same H H'→Q (.str (gameT n xs ts)) H'
theorem sc_game_text:FnScope ["switches", "trees", "field", "rows", "tree", "text"] ["switches", "trees", "field"] (defScope s_game_text):=⟨rfl,rfl,rfl,by decide +kernel,rfl,by decide +kernel,by decide +kernel⟩
theorem f_field (n:Int):(Str.empty++("field " : Str))++numT n=fieldRow n:=by
  refine str_ext ?_
  unfold fieldRow
  rw [cat_list,cat_list,cat_list]
  rfl
theorem f_tree (t:Tr):(Str.empty++("holds " : Str))++t.str=treeRow t:=by
  refine str_ext ?_
  unfold treeRow
  rw [cat_list,cat_list,cat_list]
  rfl
theorem j_sw (xs:List Str):Txt.join (" " : Str) (("switches" : Str)::xs)=swRow xs:=by rw [join_tx,sp_eq]; rfl
theorem j_nl (rs:List Str):Txt.join ("\n" : Str) rs=Str.join NL rs:=by rw [join_tx,nl_eq]
theorem ok_game_text {f:Addr} {fd:FuncData} (F:Fun K "game_text" "game_text" s_game_text f fd) (B:Bl mg) (C_tree_text:Cal P w K mg base 11 "tree_text" ["tree"] (spTT 10)):FnOk P w K mg base CX0 12 f fd ["switches", "trees", "field"] spGText:=by
  refine F.ok sc_game_text (fun vs H Q E h=>?_) (fun cdv A outer s H vs Q E hr h=>?_)
  · obtain ⟨a,b,tv,n,xs,ts,rfl,_⟩:=h
    rfl
  obtain ⟨a,b,tv,n,xs,ts,rfl,ha,hb,TS,g,q⟩:=h
  refine ⟨_,(pss_cons (ps_set (i:=3) sc_game_text.nd rfl (Or.inl rfl) (pe_lst (pa_cons (pe_fstr (pj_cons pe_str (pj_cons (pe_fmtI (pv 2)) pj_nil))) (pa_cons (pe_bm PySem.F.plainAttrs_str PySem.F.slot_str_join PySem.F.type_str_join mt_join pe_str (pa_cons (pe_op op_cat (pe_lst (pa_cons pe_str pa_nil)) (pe_callTy call_list_of rfl B.list boot_list' (pa_cons (pv 0) pa_nil))) pa_nil)) pa_nil))))
      (pss_cons (ps_for PassesOwn.never rfl (pi_tup (pv 1)) (pg_name (i:=4) sc_game_text.nd rfl (Or.inl rfl)) (pss_cons (ps_set (i:=5) sc_game_text.nd rfl (Or.inl rfl) (pe_cal C_tree_text hr (by decide) rfl (pa_cons (pv 4) pa_nil)))
        (pss_one (ps_expr (pe_bm PySem.F.plainAttrs_list PySem.F.slot_list_append PySem.F.type_list_append mt_append (pv 3) (pa_cons (pe_fstr (pj_cons pe_str (pj_cons (pe_fmt (pv 5)) pj_nil))) pa_nil))))))
      (pss_one (ps_ret (pe_bm PySem.F.plainAttrs_str PySem.F.slot_str_join PySem.F.type_str_join mt_join pe_str (pa_cons (pv 3) pa_nil)))))),?_⟩
  have z0:(Str.empty).length=0:=by decide +kernel
  have nl:=num_len g.n0 g.n1
  have lg:=log_small g.n0 g.n1
  have x6:=g.x6
  have t4:=g.t4
  have l1:((" " : Str)).length=1:=by decide +kernel
  have l2:(("\n" : Str)).length=1:=by decide +kernel
  refine ⟨_,rfl,small (by rw [Str.length_append,z0,len_f]; decide),_,rfl,n,rfl,lg,_,rfl,small (by rw [Str.length_append,Str.length_append,z0,len_f]; show _+(numT n).length≤1000; omega),small (by rw [Str.length_append,Str.length_append,z0,len_f]; show _+(numT n).length≤1000; omega),?_⟩
  refine ⟨rfl,(by show 1≤sizeLine; decide),fun L0 hL0=>?_⟩
  have G0:=Same.new hL0 (.lst [.str "switches"])
  have e0:upd H L0 (.lst [.str "switches"]) L0=some (.lst [.str "switches"]):=upd_same
  refine ⟨_,rfl,a,_,rfl,.inr (SqT.of (G0 _ _ ha)),fun L1 hL1=>?_⟩
  have G1:=Same.new hL1 (.lst (xs.map V.str))
  refine ⟨L0,L1,_,_,rfl,rfl,G1 _ _ e0,upd_same,small (by rw [List.length_map,List.length_singleton]; omega),fun L2 hL2=>?_⟩
  have G2:=Same.new hL2 (.lst ([.str "switches"]++xs.map V.str))
  have e2:upd (upd (upd H L0 (.lst [.str "switches"])) L1 (.lst (xs.map V.str))) L2 (.lst ([.str "switches"]++xs.map V.str)) L2=some (.lst (((("switches" : Str)::xs)).map V.str)):=upd_same
  have S2:=G0.trans (G1.trans G2)
  generalize upd (upd (upd H L0 (.lst [.str "switches"])) L1 (.lst (xs.map V.str))) L2 (.lst ([.str "switches"]++xs.map V.str))=H2 at S2 e2
  refine ⟨_,L2,_,rfl,rfl,SqL.of e2,by rw [l1]; decide,Nat.le_trans (sw_sum x6 g.xk) (by decide),?_⟩
  refine ⟨(by show 2≤sizeLine; decide),fun R hR=>?_⟩
  have ef:(Str.empty++("field " : Str))++(toString n:Str)=fieldRow n:=f_field n
  rw [ef,j_sw]
  have GR:=Same.new hR (.lst [.str (fieldRow n),.str (swRow xs)])
  have S3:=S2.trans GR
  have nbR:b ≠ R:=ne_of_none (S2 _ _ hb) hR
  have hR0:H R=none:=S2.free hR
  refine ⟨_,rfl,b,rfl,⟨_,SqT.of (S3 _ _ hb)⟩,for_tup (K:=K) (xs:=tv) (fun i σ H'=>∃ (x4 x5:Option V),σ=[some (.ref a),some (.ref b),some (.int n),some (.ref R),x4,x5]∧H' R=some (.lst ((fieldRow n::swRow xs::(ts.take i).map treeRow).map V.str))∧SameBut R H H')
    ⟨_,_,rfl,upd_same,SameBut.of S3⟩ (fun i σ H' _ hst=>by obtain ⟨_,_,_,_,h⟩:=hst; exact SqT.of (h _ _ nbR hb)) ?_ ?_⟩
  · rintro i v σ H4 hv ⟨x4,x5,rfl,hR4,B4⟩
    obtain ⟨t,ht,T⟩:=TS.get hv
    obtain ⟨nm,td,tz⟩:=g.tk t (List.mem_of_getElem? ht)
    have hi:=(List.getElem?_eq_some_iff.mp hv).1
    have kT:KeepT H H4:=fun c ys e=>B4 _ _ (ne_of_none e hR0) e
    refine ⟨_,rfl,v,t,rfl,T.mono kT,nm,td,by omega,fun H5 S5=>?_⟩
    have hR5:=S5 _ _ hR4
    have sl:=Tr.str_len nm
    refine ⟨_,rfl,.inl ⟨rfl,_,SqL.of hR5⟩,_,rfl,small (by rw [Str.length_append,z0,len_h]; decide),_,rfl,_,rfl,small (by omega),_,rfl,small (by rw [Str.length_append,Str.length_append,z0,len_h]; omega),small (by rw [Str.length_append,Str.length_append,z0,len_h]; omega),?_⟩
    refine ⟨R,_,_,rfl,rfl,hR5,?_,?_⟩
    · rw [List.length_map,List.length_cons,List.length_cons,List.length_map,List.length_take]
      exact small1000 (by omega)
    rw [f_tree]
    refine ⟨_,_,rfl,?_,fun c o hc e=>?_⟩
    · rw [upd_same,List.take_add_one,ht]
      simp
    · rw [upd_ne hc]
      exact S5 _ _ (B4 c o hc e)
  · rintro σ H4 ⟨x4,x5,rfl,hR4,B4⟩
    rw [TS.1,List.take_length] at hR4
    refine ⟨rfl,_,rfl,_,R,_,rfl,rfl,SqL.of hR4,by rw [l2]; decide,Nat.le_trans (rows_sum g) (by decide),?_⟩
    rw [j_nl]
    exact q H4 fun c o e=>B4 c o (ne_of_none e hR0) e
def spIsNum:Sp:=fun vs H Q _=>∃ n p:Int,vs=[.int n,.int p]∧Q (.bl (decide (0≤n) && decide (n < p))) H
theorem sc_is_number:FnScope ["value", "p"] ["value", "p"] (defScope s_is_number):=⟨rfl,rfl,rfl,by decide +kernel,rfl,by decide +kernel,by decide +kernel⟩
theorem ok_is_number {f:Addr} {fd:FuncData} (F:Fun K "is_number" "is_number" s_is_number f fd) (B:Bl mg):FnOk P w K mg base CX0 1 f fd ["value", "p"] spIsNum:=by
  refine F.ok sc_is_number (fun vs H Q E h=>?_) (fun cdv A outer s H vs Q E hr h=>?_)
  · obtain ⟨n,p,rfl,_⟩:=h
    rfl
  obtain ⟨n,p,rfl,q⟩:=h
  refine ⟨_,(pss_one (ps_ret (pe_and (pe_callB call_isinst rfl B.isinstance PyProof.Rows.boot_isinstance (pa_cons (pv 0) (pa_cons (pe_bltn (v:=V.ty "int") rfl B.int boot_int' rfl) pa_nil))) (pe_and (pe_not (pe_callB call_isinst rfl B.isinstance PyProof.Rows.boot_isinstance (pa_cons (pv 0) (pa_cons (pe_bltn (v:=V.ty "bool") rfl B.bool boot_bool' rfl) pa_nil)))) (pe_one (pe_chain op_le op_lt pe_int (pv 0) (pv 1))))))),?_⟩
  refine ⟨_,rfl,_,_, "int", true,rfl,TyOf.int _,kit_self _ _,true,rfl,iteT ?_⟩
  refine ⟨_,rfl,_,_, "bool", false,rfl,TyOf.int _,kit_int_bool _,false,rfl,true,rfl,iteT ?_⟩
  refine ⟨_,rfl,_,_,rfl,rfl,_,rfl,?_⟩
  by_cases c:0≤n
  · rw [decide_eq_true c] at q
    refine iteD c ⟨_,rfl,_,_,rfl,rfl,?_⟩
    exact q
  · rw [decide_eq_false c] at q
    refine iteDF c ?_
    exact q
def wtx:V→Str
  | .int i=>numT i
  | .str x=>x
  | _=>SP
def WdOk (v:V):Prop:=((∃ i:Int,v=.int i∧i.natAbs.log2 < 1920)∨∃ x:Str,v=.str x)∧(wtx v).length≤100
def spWords:Sp:=fun vs H Q _=>∃ (l:Addr) (ws:List V),vs=[.ref l]∧H l=some (.lst ws)∧ws.length≤10∧(∀ v ∈ ws,WdOk v)∧∀ H',Same H H'→Q (.str (Str.join SP (ws.map wtx))) H'
theorem sc_words_text:FnScope ["words"] ["words"] (defScope s_words_text):=⟨rfl,rfl,rfl,by decide +kernel,rfl,by decide +kernel,by decide +kernel⟩
theorem ok_words_text {f:Addr} {fd:FuncData} (F:Fun K "words_text" "words_text" s_words_text f fd) (B:Bl mg):FnOk P w K mg base CX0 1 f fd ["words"] spWords:=by
  refine F.ok sc_words_text (fun vs H Q E h=>?_) (fun cdv A outer s H vs Q E hr h=>?_)
  · obtain ⟨l,ws,rfl,_⟩:=h
    rfl
  obtain ⟨l,ws,rfl,hl,wl,wok,q⟩:=h
  refine ⟨_,(pss_one (ps_ret (pe_bm PySem.F.plainAttrs_str PySem.F.slot_str_join PySem.F.type_str_join mt_join pe_str (pa_cons (pe_comp (N:=[]) (ix:=[]) (cl:=[]) rfl
        (CompScope.closed (by with_unfolding_all rfl) (by decide) rfl (by decide) rfl (by with_unfolding_all rfl)) rfl (pi_list (pv 0)) (fun _ _ _=>pb_all (pe_callTy call_strV rfl B.str boot_str' (pa_cons (pv 0) pa_nil)))) pa_nil)))),?_⟩
  refine ⟨rfl,_,rfl,l,rfl,⟨_,SqL.of hl⟩,fun D hD=>?_⟩
  refine comp_list (K:=K) (xs:=ws) (fun i H'=>H' D=some (.lst (((ws.take i).map wtx).map V.str))∧Same H H') ⟨by rw [upd_same]; rfl,Same.new hD _⟩ (fun i H' _ h=>SqL.of (h.2 _ _ hl)) ?_ ?_
  · rintro i z H3 hz ⟨hD3,S3⟩
    have hi:=(List.getElem?_eq_some_iff.mp hz).1
    have fin:∃ ys,H3 D=some (.lst ys)∧ys.length < sizeLine∧Nx ws.length i (fun j H'=>H' D=some (.lst (((ws.take j).map wtx).map V.str))∧Same H H') (upd H3 D (.lst (ys++[V.str (wtx z)]))):=by
      refine ⟨_,hD3,?_,Nx.of hi ⟨?_,fun b o e=>?_⟩⟩
      · rw [List.length_map,List.length_map,List.length_take]
        exact small1000 (by omega)
      · rw [upd_same,List.take_add_one,hz,List.map_append,List.map_append]
        rfl
      · rw [upd_ne (ne_of_none e hD)]
        exact S3 _ _ e
    refine ⟨_,rfl,?_⟩
    rcases (wok z (List.mem_of_getElem? hz)).1 with ⟨n,rfl,hn⟩ | ⟨x,rfl⟩
    · exact .inl ⟨n,rfl,hn,fin⟩
    · exact .inr ⟨x,rfl,fin⟩
  rintro H3 ⟨hD3,S3⟩
  rw [List.take_length] at hD3
  refine ⟨_,D,ws.map wtx,rfl,rfl,SqL.of hD3,(by decide +kernel),?_,?_⟩
  · have:=sum_le (l:=ws.map wtx) (b:=100) fun p hp=>by
      obtain ⟨v,hv,rfl⟩:=List.mem_map.mp hp
      exact (wok v hv).2
    rw [List.length_map] at this ⊢
    omega
  · rw [sp_eq,join_tx]
    exact q _ S3
def spNumsIn:Sp:=fun vs H Q _=>∃ (xs:List Int) (m p:Int),vs=[.str (Str.join SP (xs.map numT)),.int m,.int p]∧(xs.length:Int)=m∧1≤xs.length∧xs.length≤10∧(∀ x ∈ xs,0≤x∧x < p)∧p < 1000000 ∧
  ∀ (l:Addr) (H':Hp),H l=none→H' l=some (.lst (xs.map V.int))→Same H H'→Q (.ref l) H'
theorem sc_numbers_in:FnScope ["text", "many", "p", "words", "numbers"] ["text", "many", "p"] (defScope s_numbers_in):=⟨rfl,rfl,rfl,by decide +kernel,rfl,by decide +kernel,by decide +kernel⟩
theorem nums_split {xs:List Int} (h1:1≤xs.length) (h:∀ x ∈ xs,0≤x):Txt.split (Str.join SP (xs.map numT)) SP=xs.map numT:=split_join (c:=32) (by simpa using fun z=>by rw [z] at h1; simp at h1) fun p hp hc=>by
  obtain ⟨x,hx,rfl⟩:=List.mem_map.mp hp
  have:=num_dig (h x hx) 32 hc
  omega
theorem nums_len {xs:List Int} (h1:1≤xs.length) (h10:xs.length≤10) (h:∀ x ∈ xs,0≤x∧x < 1000000000000):(Str.join SP (xs.map numT)).length≤200∧1≤(Str.join SP (xs.map numT)).length:=by
  constructor
  · have a:=join_len 32 (xs.map numT)
    have b:=sum_le (l:=xs.map numT) (b:=12) fun p hp=>by
      obtain ⟨x,hx,rfl⟩:=List.mem_map.mp hp
      exact num_len (h x hx).1 (h x hx).2
    rw [List.length_map] at a b
    show (Str.join ⟨#[32]⟩ (xs.map numT)).length≤200
    omega
  · cases xs with
    | nil=>simp at h1
    | cons x r =>
      have l1:=num_len1 (h x List.mem_cons_self).1
      have e:cd (Str.join ⟨#[32]⟩ ((x::r).map numT))=jn 32 (((x::r).map numT).map cd):=cd_join 32 _
      have e2:(cd (Str.join ⟨#[32]⟩ ((x::r).map numT))).length=(Str.join SP ((x::r).map numT)).length:=rfl
      rw [← e2,e]
      have e3:(cd (numT x)).length=(numT x).length:=rfl
      cases r with
      | nil=>show 1≤(cd (numT x)).length; omega
      | cons y r' =>
        show 1≤(cd (numT x)++32::_).length
        rw [List.length_append]
        omega
theorem iteNT {c A B:Prop} [Decidable c] (hc:c) (h:B):if (!decide c)=true then A else B:=by
  rw [decide_eq_true hc]
  exact iteF h
theorem ok_numbers_in {f:Addr} {fd:FuncData} (F:Fun K "numbers_in" "numbers_in" s_numbers_in f fd) (B:Bl mg) (C_is_figures:Cal P w K mg base 1 "is_figures" ["text"] (spTxt figB)) (C_is_number:Cal P w K mg base 1 "is_number" ["value", "p"] spIsNum):FnOk P w K mg base CX0 2 f fd ["text", "many", "p"] spNumsIn:=by
  refine F.ok sc_numbers_in (fun vs H Q E h=>?_) (fun cdv A outer s H vs Q E hr h=>?_)
  · obtain ⟨xs,m,p,rfl,_⟩:=h
    rfl
  obtain ⟨xs,m,p,rfl,xm,x1,x10,xr,p6,q⟩:=h
  refine ⟨_,(pss_cons (ps_set (i:=3) sc_numbers_in.nd rfl (Or.inl rfl) (pe_ifExp (pt_cmpR op_eq (pv 0) pe_str (nomark _)) (pe_lst pa_nil) (pe_bm PySem.F.plainAttrs_str PySem.F.slot_str_split PySem.F.type_str_split mt_split (pv 0) (pa_cons pe_str pa_nil))))
      (pss_cons (ps_if (pt_not (pt_val (pe_callB (call_all rfl) rfl B.all PyProof.Rows.boot_all (pa_cons (pe_comp (N:=[]) (ix:=[]) (cl:=[]) rfl (CompScope.closed (by with_unfolding_all rfl) (by decide) rfl (by decide) rfl (by with_unfolding_all rfl)) rfl
        (pi_list (pv 3)) (fun _ _ _=>pb_all (pe_cal C_is_figures hr (by decide) rfl (pa_cons (pv 0) pa_nil)))) pa_nil)))) pss_never pss_nil)
      (pss_cons (ps_if (pt_cmpR op_ne (pe_callB call_len_seq rfl B.len PySem.boot_len (pa_cons (pv 3) pa_nil)) (pv 1) (nomark _)) pss_never pss_nil)
      (pss_cons (ps_comp (i:=4) (N:=[]) (ix:=[]) (cl:=[]) sc_numbers_in.nd rfl (Or.inl rfl) rfl (CompScope.closed (by with_unfolding_all rfl) (by decide) rfl (by decide) rfl (by with_unfolding_all rfl)) rfl
        (pi_list (pv 3)) (fun _ _ _=>pb_all (pe_callTy call_int_text rfl B.int boot_int' (pa_cons (pv 0) pa_nil))))
      (pss_cons (ps_if (pt_not (pt_val (pe_callB (call_all rfl) rfl B.all PyProof.Rows.boot_all (pa_cons (pe_comp (N:=["p"]) (ix:=[2]) rfl
          (CompScope.one (by with_unfolding_all rfl) (by decide) rfl (by decide) rfl (by decide +kernel) (by with_unfolding_all rfl) (by with_unfolding_all rfl) (by with_unfolding_all rfl) rfl rfl) rfl
        (pi_list (pv 4)) (fun _ _ _=>pb_all (pe_cal C_is_number hr (by decide) rfl (pa_cons (pv 0) (pa_cons (pv 1) pa_nil))))) pa_nil)))) pss_never pss_nil)
      (pss_one (ps_ret (pv 4)))))))),?_⟩
  have xr':∀ x ∈ xs,0≤x∧x < 1000000000000:=fun x hx=>⟨(xr x hx).1,by have:=(xr x hx).2; omega⟩
  have nl:=nums_len x1 x10 xr'
  have sp:Txt.split (Str.join SP (xs.map numT)) (" " : Str)=xs.map numT:=by rw [sp_eq]; exact nums_split x1 fun x hx=>(xr x hx).1
  have ne:¬ V.str (Str.join SP (xs.map numT))=V.str "" := fun z=>by
    have z':=V.str.inj z
    rw [z'] at nl
    exact absurd nl.2 (by decide +kernel)
  generalize Str.join SP (xs.map numT)=T at nl sp ne
  refine ⟨_,rfl,rfl,_,rfl,?_⟩
  refine iteDF ne ?_
  refine ⟨_,rfl,rfl,T,_,rfl,rfl,(by decide +kernel),by omega,by rw [sp,List.length_map]; omega,fun W hW=>?_⟩
  rw [sp]
  have GW:=Same.new hW (.lst ((xs.map numT).map V.str))
  have hW1:upd H W (.lst ((xs.map numT).map V.str)) W=some (.lst ((xs.map numT).map V.str)):=upd_same
  generalize upd H W (.lst ((xs.map numT).map V.str))=H1 at GW hW1
  refine ⟨_,rfl,W,rfl,⟨_,SqL.of hW1⟩,fun D hD=>?_⟩
  refine comp_list (K:=K) (xs:=(xs.map numT).map V.str) (fun i H'=>H' D=some (.lst ((List.replicate i true).map V.bl))∧Same H1 H') ⟨by rw [upd_same]; rfl,Same.new hD _⟩ (fun i H' _ h=>SqL.of (h.2 _ _ hW1)) ?_ ?_
  · rintro i z H3 hz ⟨hD3,S3⟩
    have hi:=(List.getElem?_eq_some_iff.mp hz).1
    have hi':=hi
    rw [List.length_map,List.length_map] at hi'
    rw [List.getElem?_map,List.getElem?_map] at hz
    obtain ⟨y,hy,rfl⟩:=Option.map_eq_some_iff.mp hz
    obtain ⟨x,hx,rfl⟩:=Option.map_eq_some_iff.mp hy
    have xk:=xr' x (List.mem_of_getElem? hx)
    refine ⟨_,rfl,_,rfl,by have:=num_len xk.1 xk.2; omega,fun H4 S4=>?_⟩
    rw [num_fig xk.1 xk.2]
    refine ⟨_,S4 _ _ hD3,?_,Nx.of hi ⟨?_,fun b' o' e'=>?_⟩⟩
    · rw [List.length_map,List.length_replicate]
      exact small1000 (by omega)
    · rw [upd_same,List.replicate_succ',List.map_append]
      rfl
    · rw [upd_ne (ne_of_none e' hD)]
      exact S4 _ _ (S3 _ _ e')
  rintro H3 ⟨hD3,S3⟩
  refine ⟨D,_,rfl,SqL.of hD3,_,rfl,?_⟩
  rw [all_true]
  refine iteF ?_
  have hW3:=S3 _ _ hW1
  have G3:=GW.trans S3
  refine ⟨_,rfl,W,_,rfl,.inl (SqL.of hW3),_,rfl,rfl,_,rfl,?_⟩
  refine iteNT (by rw [List.length_map,List.length_map,xm]) ?_
  refine ⟨_,rfl,W,rfl,⟨_,SqL.of hW3⟩,fun N hN=>?_⟩
  refine comp_list (K:=K) (xs:=(xs.map numT).map V.str) (fun i H'=>H' N=some (.lst ((xs.take i).map V.int))∧Same H3 H') ⟨by rw [upd_same]; rfl,Same.new hN _⟩ (fun i H' _ h=>SqL.of (h.2 _ _ hW3)) ?_ ?_
  · rintro i z H4 hz ⟨hN4,S4⟩
    have hi:=(List.getElem?_eq_some_iff.mp hz).1
    rw [List.getElem?_map,List.getElem?_map] at hz
    obtain ⟨y,hy,rfl⟩:=Option.map_eq_some_iff.mp hz
    obtain ⟨x,hx,rfl⟩:=Option.map_eq_some_iff.mp hy
    have xk:=xr' x (List.mem_of_getElem? hx)
    refine ⟨_,rfl,_,_,rfl,num_int xk.1 xk.2,by have:=num_len xk.1 xk.2; omega,?_⟩
    refine ⟨_,hN4,?_,Nx.of hi ⟨?_,fun b' o' e'=>?_⟩⟩
    · rw [List.length_map,List.length_take]
      exact small1000 (by omega)
    · rw [upd_same,List.take_add_one,hx,List.map_append]
      rfl
    · rw [upd_ne (ne_of_none e' hN)]
      exact S4 _ _ e'
  rintro H4 ⟨hN4,S4⟩
  rw [List.length_map,List.length_map,List.take_length] at hN4
  refine ⟨_,rfl,N,rfl,⟨_,SqL.of hN4⟩,fun D2 hD2=>?_⟩
  refine comp_list (K:=K) (xs:=xs.map V.int) (fun i H'=>H' D2=some (.lst ((List.replicate i true).map V.bl))∧Same H4 H') ⟨by rw [upd_same]; rfl,Same.new hD2 _⟩ (fun i H' _ h=>SqL.of (h.2 _ _ hN4)) ?_ ?_
  · rintro i z H5 hz ⟨hD5,S5⟩
    have hi:=(List.getElem?_eq_some_iff.mp hz).1
    have hi':=hi
    rw [List.length_map] at hi'
    rw [List.getElem?_map] at hz
    obtain ⟨x,hx,rfl⟩:=Option.map_eq_some_iff.mp hz
    have xk:=xr x (List.mem_of_getElem? hx)
    refine ⟨_,rfl,_,rfl,x,p,rfl,?_⟩
    rw [decide_eq_true xk.1,decide_eq_true xk.2]
    refine ⟨_,hD5,?_,Nx.of hi ⟨?_,fun b' o' e'=>?_⟩⟩
    · rw [List.length_map,List.length_replicate]
      exact small1000 (by omega)
    · rw [upd_same,List.replicate_succ',List.map_append]
      rfl
    · rw [upd_ne (ne_of_none e' hD2)]
      exact S5 _ _ e'
  rintro H5 ⟨hD5,S5⟩
  refine ⟨D2,_,rfl,SqL.of hD5,_,rfl,?_⟩
  rw [all_true]
  refine iteF ?_
  exact ⟨_,rfl,q N H5 (G3.free hN) (S5 _ _ hN4) (G3.trans (S4.trans S5))⟩
structure Gk (ns:List Str) (ts:List Tr) (p:Int):Prop where
  n4:ns.length≤4
  nk:∀ x ∈ ns,NmK x
  nd:ns.Nodup
  t1:1≤ts.length
  t4:ts.length≤4
  tok:∀ t ∈ ts,t.ok ns∧t.depth≤9∧(t.size:Int)≤8
  pp:Pr p
  p2:2 < p
  p9:p < 10000
  tp:(ts.length:Int)≤p
  tc:∀ t ∈ ts,∀ x ∈ ns,(t.names.count x:Int) < p
theorem Gk.gm {ns:List Str} {ts:List Tr} {p:Int} (g:Gk ns ts p):Gm p ns ts :=
  ⟨by have:=g.p2; omega,by have:=g.p9; omega,by have:=g.n4; omega,g.nk,g.t1,g.t4,fun t ht=>⟨Tr.ok_nm g.nk t (g.tok t ht).1,by have:=(g.tok t ht).2.1; omega,by have:=(g.tok t ht).2.2; omega⟩⟩
theorem Gk.wfs {ns:List Str} {ts:List Tr} {p:Int} (g:Gk ns ts p):∀ t ∈ ts,t.ok ns∧t.wf∧t.depth≤10∧t.size≤400:=fun t ht=>⟨(g.tok t ht).1,Tr.ok_wf (fun x hx=>(g.nk x hx).1) t (g.tok t ht).1,by have:=(g.tok t ht).2.1; omega,by have:=(g.tok t ht).2.2; omega⟩
theorem Gk.tok12 {ns:List Str} {ts:List Tr} {p:Int} (g:Gk ns ts p):∀ t ∈ ts,t.ok ns∧t.depth≤12:=fun t ht=>⟨(g.tok t ht).1,by have:=(g.tok t ht).2.1; omega⟩
theorem Gk.ne {ns:List Str} {ts:List Tr} {p:Int} (g:Gk ns ts p):ts ≠ []:=fun z=>by
  have:=g.t1
  rw [z] at this
  cases this
theorem degOf_nn {ts:List Tr} {x:Str} (h0:ts ≠ []):0≤degOf ts x:=by
  have:=maxD_mem (ns:=ts.map fun t=>(t.names.count x:Int)) (by simpa using h0)
  obtain ⟨t,ht,e⟩:=List.mem_map.mp this
  unfold degOf
  rw [← e]
  omega
theorem Gk.dr {ns:List Str} {ts:List Tr} {p:Int} (g:Gk ns ts p):∀ x ∈ ns,-(2 ^ 40) < degOf ts x∧degOf ts x < p:=fun x hx=>by
  have:=degOf_nn (x:=x) g.ne
  exact ⟨by omega,degOf_lt g.ne fun t ht=>g.tc t ht x hx⟩
theorem TsAt.trees {H:Hp}:∀ {tv:List V} {ts:List Tr},TsAt H tv ts→TreesAt H tv ts
  | [],[],_=>.nil
  | [],_::_,h=>absurd h.1 (by simp)
  | _::_,[],h=>absurd h.1 (by simp)
  | v::vs,t::ts,h=>.cons (h.2 0 v t rfl rfl) (TsAt.trees ⟨by simpa using h.1,fun i v' t' hv ht=>h.2 (i+1) v' t' hv ht⟩)
theorem TreesAt.ts {H:Hp} {tv:List V} {ts:List Tr} (h:TreesAt H tv ts):TsAt H tv ts:=⟨h.length,fun i v t hv ht=>by
  obtain ⟨u,hu,T⟩:=h.get hv
  rw [ht] at hu
  cases hu
  exact T⟩
def spGameIn (C:Addr):Sp:=fun vs H Q _=>∃ (ns:List Str) (ts:List Tr) (p:Int),vs=[.str (gameT p ns ts)]∧Gk ns ts p∧∀ (g d:Addr) (H':Hp),GameD C H' g d ns ts p→Same H H'→Q (.ref g) H'
theorem sc_game_in:FnScope ["text", "parts"] ["text"] (defScope s_game_in):=⟨rfl,rfl,rfl,by decide +kernel,rfl,by decide +kernel,by decide +kernel⟩
theorem ok_game_in {f C fI:Addr} {fd fdI:FuncData} (F:Fun K "game_in" "game_in" s_game_in f fd) (T:GTxt K mg C) (M:Mk K C fI) (GI:FnOk P w K mg base CX0 14 fI fdI ["self", "switches", "trees", "field"] (spGInit C)) (bI:Binds K fdI ["self", "switches", "trees", "field"] [])
    (C_read_game:Cal P w K mg base 26 "read_game" ["text"] spReadG):FnOk P w K mg base CX0 27 f fd ["text"] (spGameIn C):=by
  refine F.ok sc_game_in (fun vs H Q E h=>?_) (fun cdv A outer s H vs Q E hr h=>?_)
  · obtain ⟨ns,ts,p,rfl,_⟩:=h
    rfl
  obtain ⟨ns,ts,p,rfl,gk,q⟩:=h
  have hr15:Room 15 _:=hr.mono (by decide)
  refine ⟨_,(pss_cons (ps_set (i:=1) sc_game_in.nd rfl (Or.inl rfl) (pe_cal C_read_game hr (by decide) rfl (pa_cons (pv 0) pa_nil)))
      (pss_one (ps_ret (pe_make M GI hr15 rfl T.mgC bI .nil pass0 (pa_cons (pe_ix ix_tup (pv 1) pe_int (fun _ _=>rfl)) (pa_cons (pe_ix ix_tup (pv 1) pe_int (fun _ _=>rfl)) (pa_cons (pe_ix ix_tup (pv 1) pe_int (fun _ _=>rfl)) pa_nil))))))),?_⟩
  refine ⟨_,rfl,p,ns,ts,rfl,gk.gm,fun v H1 GV S1=>?_⟩
  obtain ⟨g0,a,b,tv,rfl,hg,ha,hb,TS0⟩:=GV
  have TS:=TS0.trees
  refine ⟨_,rfl,g0,_,0,_,rfl,rfl,SqT.of hg,at0 ..,_,rfl,g0,_,1,_,rfl,rfl,SqT.of hg,at1 ..,_,rfl,g0,_,2,_,rfl,rfl,SqT.of hg,at2 ..,fun g dx nx ndx nex=>?_⟩
  have s3:Same H1 (upd (upd H1 dx (.own g)) g (.ins C dx [])):=fun b o e=>by
    rw [upd_ne (ne_of_none e nx),upd_ne (ne_of_none e ndx)]
    exact e
  refine ⟨g,dx,a,b,ns,tv,ts,p,rfl,upd_same,s3 _ _ ha,gk.nd,by have:=gk.n4; omega,s3 _ _ hb,TS.mono (keepT_same s3),gk.t1,by have:=gk.t4; omega,gk.wfs,gk.pp,gk.p2,by have:=gk.p9; omega,gk.tp,gk.tc,fun d H3 d0 GA hd S3=>⟨rfl,?_⟩⟩
  have S23:Same H1 H3:=fun b o e=>S3 b o (ne_of_none e nx) (s3 b o e)
  exact q g d H3 ⟨a,b,tv,GA,S23 _ _ ha,by have:=gk.n4; omega,S23 _ _ hb,TS.mono (keepT_same S23),by have:=gk.t4; omega,gk.tok12,hd,gk.dr⟩ (S1.trans S23)
theorem cnt_rng {t:Tr} {ns:List Str} (h:ns.length≤6):(0:Int)≤(cnt t ns:Int)∧(cnt t ns:Int)≤100:=by
  have h1:cnt t ns≤(setts ns.length).length:=List.length_filter_le _ _
  rw [setts_len] at h1
  have:=pow_le_64 h
  omega
theorem num_wd {n:Int} (h0:0≤n) (h1:n < 10 ^ 24):WdOk (.int n):=by
  refine ⟨.inl ⟨n,rfl,?_⟩,Nat.le_trans (PyProof.Rows.toString_length_le h0 (by decide) h1:(numT n).length≤24) (by decide)⟩
  have h2:n.natAbs < 2 ^ 100:=by omega
  by_cases c:n.natAbs=0
  · rw [c]
    decide
  · have:=(Nat.log2_lt c).mpr h2
    omega
def countsT (cs:List Int):Str:=Str.join SP (("counts" : Str)::cs.map numT)
def spCounted:Sp:=fun vs H Q _=>∃ (ns:List Str) (ts:List Tr) (p:Int),vs=[.str (gameT p ns ts)]∧Gk ns ts p∧∀ H',Same H H'→Q (.str (countsT (cnts ts ns))) H'
theorem sc_counted:FnScope ["text"] ["text"] (defScope s_counted):=⟨rfl,rfl,rfl,by decide +kernel,rfl,by decide +kernel,by decide +kernel⟩
theorem ok_counted {f C:Addr} {fd:FuncData} (F:Fun K "counted" "counted" s_counted f fd) (C_game_in:Cal P w K mg base 27 "game_in" ["text"] (spGameIn C)) (C_counts_of:Cal P w K mg base 16 "counts_of" ["game"] (spCounts C)) (C_words_text:Cal P w K mg base 1 "words_text" ["words"] spWords):FnOk P w K mg base CX0 28 f fd ["text"] spCounted:=by
  refine F.ok sc_counted (fun vs H Q E h=>?_) (fun cdv A outer s H vs Q E hr h=>?_)
  · obtain ⟨ns,ts,p,rfl,_⟩:=h
    rfl
  obtain ⟨ns,ts,p,rfl,gk,q⟩:=h
  refine ⟨_,(pss_one (ps_ret (pe_cal C_words_text hr (by decide) rfl (pa_cons (pe_op op_cat (pe_lst (pa_cons pe_str pa_nil)) (pe_cal C_counts_of hr (by decide) rfl (pa_cons (pe_cal C_game_in hr (by decide) rfl (pa_cons (pv 0) pa_nil)) pa_nil))) pa_nil)))),?_⟩
  refine ⟨(by show 1≤sizeLine; decide),fun l hl=>?_⟩
  refine ⟨_,rfl,ns,ts,p,rfl,gk,fun g d H1 G S1=>?_⟩
  obtain ⟨a,b,tv,GA,ha,n6,hb,TS,t10,tok,_⟩:=G
  refine ⟨g,a,b,d,ns,tv,ts,p,rfl,GA,ha,n6,hb,TS,t10,tok,fun c H2 c0 S2 hc=>?_⟩
  have hl2:=S2 _ _ (S1 _ _ (upd_same (H:=H) (a:=l) (o:=.lst [.str "counts"])))
  have cl:(cnts ts ns).length≤4:=by rw [cnts_len]; exact gk.t4
  refine ⟨l,c,_,_,rfl,rfl,hl2,hc,?_,fun o ho=>?_⟩
  · rw [List.length_map]
    exact small (by show 1+(cnts ts ns).length≤1000; omega)
  refine ⟨o,_,rfl,upd_same,?_,?_,fun H3 S3=>?_⟩
  · show (.str "counts" :: (cnts ts ns).map V.int).length≤10
    rw [List.length_cons,List.length_map]
    omega
  · intro v hv
    rcases List.mem_cons.mp hv with rfl | h
    · exact ⟨.inr ⟨_,rfl⟩,(by decide +kernel:("counts" : Str).length≤100)⟩
    · obtain ⟨x,hx,rfl⟩:=List.mem_map.mp h
      obtain ⟨t,_,rfl⟩:=List.mem_map.mp hx
      have:=cnt_rng (t:=t) n6
      exact num_wd this.1 (by omega)
  have e:([V.str "counts"]++(cnts ts ns).map V.int).map wtx=("counts" : Str)::(cnts ts ns).map numT:=by
    show wtx (V.str "counts")::(((cnts ts ns).map V.int).map wtx)=_
    rw [List.map_map]
    rfl
  have q3:=q H3 ((Same.new hl _).trans (S1.trans (S2.trans ((Same.new ho _).trans S3))))
  unfold countsT at q3
  rw [← e] at q3
  exact q3
theorem cgt_le_from {p:Int} (p0:0 < p):∀ (ds:List Int) (a:Int),0 < a→(∀ d ∈ ds,0≤d∧d < p)→0 < ds.foldl (fun a d=>a*(p - d)) a∧ds.foldl (fun a d=>a*(p - d)) a≤a*p ^ ds.length
  | [],a,h,_=>⟨h,by show a≤a*p ^ 0; rw [Int.pow_zero,Int.mul_one]; exact Int.le_refl _⟩
  | d::r,a,h,hd=>by
    have h1:=hd d List.mem_cons_self
    have ih:=cgt_le_from p0 r (a*(p - d)) (Int.mul_pos h (by omega)) fun e he=>hd e (List.mem_cons_of_mem _ he)
    refine ⟨ih.1,Int.le_trans ih.2 ?_⟩
    rw [List.length_cons,Int.pow_succ]
    have e1:a*(p - d)≤a*p:=Int.mul_le_mul_of_nonneg_left (by omega) (Int.le_of_lt h)
    have e2:=Int.mul_le_mul_of_nonneg_right e1 (Int.le_of_lt (pow_pos p0 r.length))
    have e3:a*p*p ^ r.length=a*(p ^ r.length*p):=by grind
    rw [← e3]
    exact e2
theorem cgt_le {p:Int} (p0:0 < p) (ds:List Int) (h:∀ d ∈ ds,0≤d∧d < p):0 < cgt p ds∧cgt p ds≤p ^ ds.length:=by
  have:=cgt_le_from p0 ds 1 (by decide) h
  rw [Int.one_mul] at this
  exact this
theorem let_rng {p g:Int} {n m:Nat} {c:List Int} (p0:0 < p) (g0:0 < g) (g1:g≤p ^ n):0≤letV p n m g c∧letV p n m g c≤p ^ (n+1):=by
  have P0:=pow_pos p0 n
  have bl':(spots p c).length≤p.toNat:=fnd_len (fun s=>decide (evl (s:Int) c % p=0)) p.toNat
  have up:p ^ n≤p ^ (n+1):=by
    rw [Int.pow_succ]
    have:=Int.mul_le_mul_of_nonneg_left (show (1:Int)≤p by omega) (Int.le_of_lt P0)
    omega
  unfold letV
  generalize (spots p c).length=b at bl'
  have hb:(b:Int)≤p:=by omega
  split
  · split
    · omega
    · have e1:=Int.mul_nonneg (show (0:Int)≤b by omega) (Int.le_of_lt P0)
      have e2:=Int.mul_nonneg (show (0:Int)≤p - b by omega) (show (0:Int)≤p ^ n - g by omega)
      have e3:=Int.mul_nonneg (show (0:Int)≤p - b by omega) (Int.le_of_lt g0)
      have e:(b:Int)*p ^ n+(p - b)*(p ^ n - g)=p ^ n*p - (p - b)*g:=by grind
      rw [Int.pow_succ]
      omega
  · split
    · omega
    · exact ⟨Int.le_of_lt (pow_pos p0 _),Int.le_refl _⟩
theorem pow_mono {p q:Int} (p0:0≤p) (h:p≤q):∀ n:Nat,0≤p ^ n∧p ^ n≤q ^ n
  | 0=>⟨by rw [Int.pow_zero]; decide,by rw [Int.pow_zero,Int.pow_zero]; exact Int.le_refl _⟩
  | n+1=>by
    have:=pow_mono p0 h n
    rw [Int.pow_succ,Int.pow_succ]
    exact ⟨Int.mul_nonneg this.1 p0,Int.mul_le_mul this.2 h p0 (by omega)⟩
theorem pow_big {p:Int} {n:Nat} (p0:0 < p) (p9:p < 10000) (hn:n≤5):0≤p ^ n∧p ^ n < 10 ^ 24:=by
  have h:=pow_mono (p:=p) (q:=10000) (by omega) (by omega) n
  refine ⟨h.1,Int.lt_of_le_of_lt h.2 ?_⟩
  have:n=0∨n=1∨n=2∨n=3∨n=4∨n=5:=by omega
  rcases this with rfl | rfl | rfl | rfl | rfl | rfl <;> decide
def mostT (a b:Int):Str:=Str.join SP [("at most" : Str),numT a,("of" : Str),numT b]
def letG (ns:List Str) (ts:List Tr) (p:Int) (xs:List Int):Int:=letV p ns.length ts.length (cgt p (ns.map (degOf ts))) (ovr xs (cnts ts ns))
def rowsG (ns:List Str) (ts:List Tr) (p:Int):Int:=p ^ (if ts.length=1 then ns.length else ns.length+1)
theorem Gk.let_r {ns:List Str} {ts:List Tr} {p:Int} (g:Gk ns ts p) (xs:List Int):0≤letG ns ts p xs∧letG ns ts p xs < 10 ^ 24:=by
  have p0:0 < p:=by have:=g.p2; omega
  have c:=cgt_le p0 (ns.map (degOf ts)) fun d hd=>by
    obtain ⟨x,hx,rfl⟩:=List.mem_map.mp hd
    exact ⟨degOf_nn g.ne,(g.dr x hx).2⟩
  rw [List.length_map] at c
  have r:=let_rng (m:=ts.length) (c:=ovr xs (cnts ts ns)) p0 c.1 c.2
  exact ⟨r.1,Int.lt_of_le_of_lt r.2 (pow_big p0 g.p9 (by have:=g.n4; omega)).2⟩
theorem Gk.rows_r {ns:List Str} {ts:List Tr} {p:Int} (g:Gk ns ts p):0≤rowsG ns ts p∧rowsG ns ts p < 10 ^ 24:=by
  have p0:0 < p:=by have:=g.p2; omega
  have:=g.n4
  exact pow_big p0 g.p9 (by split <;> omega)
def spMost:Sp:=fun vs H Q _=>∃ (ns:List Str) (ts:List Tr) (p:Int) (xs:List Int),vs=[.str (gameT p ns ts),.str (Str.join SP (xs.map numT))]∧Gk ns ts p∧xs.length=ts.length∧(∀ x ∈ xs,0≤x∧x < p)∧∀ H',Same H H'→Q (.str (mostT (letG ns ts p xs) (rowsG ns ts p))) H'
theorem sc_most_of:FnScope ["game", "claims", "asked", "numbers"] ["game", "claims"] (defScope s_most_of):=⟨rfl,rfl,rfl,by decide +kernel,rfl,by decide +kernel,by decide +kernel⟩
theorem ok_most_of {f C:Addr} {fd:FuncData} (F:Fun K "most_of" "most_of" s_most_of f fd) (B:Bl mg) (T:GTxt K mg C) (C_game_in:Cal P w K mg base 27 "game_in" ["text"] (spGameIn C)) (C_numbers_in:Cal P w K mg base 2 "numbers_in" ["text", "many", "p"] spNumsIn) (C_let_by_at_most:Cal P w K mg base 19 "let_by_at_most" ["game", "claims"] (spLet C)) (C_rows_of_coins:Cal P w K mg base 2 "rows_of_coins" ["game"] (spRows C)) (C_words_text:Cal P w K mg base 1 "words_text" ["words"] spWords):FnOk P w K mg base CX0 28 f fd ["game", "claims"] spMost:=by
  refine F.ok sc_most_of (fun vs H Q E h=>?_) (fun cdv A outer s H vs Q E hr h=>?_)
  · obtain ⟨ns,ts,p,xs,rfl,_⟩:=h
    rfl
  obtain ⟨ns,ts,p,xs,rfl,gk,xl,xr,q⟩:=h
  refine ⟨_,(pss_cons (ps_set (i:=2) sc_most_of.nd rfl (Or.inl rfl) (pe_cal C_game_in hr (by decide) rfl (pa_cons (pv 0) pa_nil)))
      (pss_cons (ps_set (i:=3) sc_most_of.nd rfl (Or.inl rfl) (pe_cal C_numbers_in hr (by decide) rfl (pa_cons (pv 1) (pa_cons (pe_callB call_len_seq rfl B.len PySem.boot_len (pa_cons (pe_fld (pv 2) rfl) pa_nil)) (pa_cons (pe_fld (pv 2) rfl) pa_nil)))))
      (pss_one (ps_ret (pe_cal C_words_text hr (by decide) rfl (pa_cons (pe_lst (pa_cons pe_str (pa_cons (pe_cal C_let_by_at_most hr (by decide) rfl (pa_cons (pv 2) (pa_cons (pv 3) pa_nil))) (pa_cons pe_str (pa_cons (pe_cal C_rows_of_coins hr (by decide) rfl (pa_cons (pv 2) pa_nil)) pa_nil))))) pa_nil)))))),?_⟩
  refine ⟨_,rfl,ns,ts,p,rfl,gk,fun g d H1 G S1=>?_⟩
  obtain ⟨a,b,tv,⟨dx,hg⟩,ha,n6,hb,TS,t10,tok,hd,dr⟩:=id G
  have vl:=TS.length
  have p0:0 < p:=by have:=gk.p2; omega
  have p9:=gk.p9
  refine ⟨_,rfl,_,rfl,g,C,dx,_,_,rfl,hg,T.cl,T.nT,gf_tr ..,b,_,rfl,.inr (SqT.of hb),_,rfl,g,C,dx,_,_,rfl,hg,T.cl,T.nF,gf_fi ..,xs,_,p,rfl,by rw [xl,vl],by rw [xl]; exact gk.t1,by omega,xr,by omega,fun l H2 l0 hl S2=>?_⟩
  have G2:=G.same S2
  refine ⟨_,rfl,_,rfl,g,d,l,ns,ts,xs,p,rfl,G2,p0,p9,hl,xl,fun H3 S3=>?_⟩
  have G3:=G2.same S3
  refine ⟨_,rfl,g,d,ns,ts,p,rfl,G3,p0,p9,?_⟩
  refine ⟨(by show 4≤sizeLine; decide),fun o ho=>?_⟩
  refine ⟨o,_,rfl,upd_same,(by show 4≤10; decide),?_,fun H4 S4=>?_⟩
  · intro v hv
    simp only [List.mem_cons,List.not_mem_nil,or_false] at hv
    rcases hv with rfl | rfl | rfl | rfl
    · exact ⟨.inr ⟨_,rfl⟩,(by decide +kernel:("at most" : Str).length≤100)⟩
    · exact num_wd (gk.let_r xs).1 (gk.let_r xs).2
    · exact ⟨.inr ⟨_,rfl⟩,(by decide +kernel:("of" : Str).length≤100)⟩
    · exact num_wd gk.rows_r.1 gk.rows_r.2
  exact q H4 (S1.trans (S2.trans (S3.trans ((Same.new ho _).trans S4))))
def spLClaims:Sp:=fun vs H Q _=>∃ (f gt cl a b:Addr) (p:Int) (cs:List Int),vs=[.ref f,.ref gt,.ref cl]∧FeedAt H f∧H gt=some (.tup [.ref a,.ref b,.int p])∧H cl=some (.lst (cs.map V.int))∧cl ≠ f∧1≤cs.length∧cs.length≤10∧0 < p∧p < 1000000 ∧
  ∀ (l:Addr) (xs:List Int) (H':Hp),l ≠ f→H' l=some (.lst (xs.map V.int))→xs.length=cs.length→(∀ x ∈ xs,0≤x∧x < p)→FeedAt H' f→SameBut f H H'→Q (.ref l) H'
theorem sc_l_claims:FnScope ["_law_feed_here", "_law_game_here", "_law_counts", "_law_claims_here", "_law_form", "_law_at"] ["_law_feed_here", "_law_game_here", "_law_counts"] (defScope s_l_claims):=⟨rfl,rfl,rfl,by decide +kernel,rfl,by decide +kernel,by decide +kernel⟩
theorem set_rng {xs:List Int} {j:Nat} {x p:Int} (h:∀ y ∈ xs,0≤y∧y < p) (hx:0≤x∧x < p):∀ y ∈ xs.set j x,0≤y∧y < p:=fun y hy=>by
  rcases List.mem_or_eq_of_mem_set hy with h1 | h1
  · exact h y h1
  · rw [h1]; exact hx
theorem ok_l_claims {f:Addr} {fd:FuncData} (F:Fun K "_law_claims" "_law_claims" s_l_claims f fd) (B:Bl mg) (C_l_take:Cal P w K mg base 1 "_law_take" ["_law_feed_here", "_law_many"] spTake):FnOk P w K mg base CX0 2 f fd ["_law_feed_here", "_law_game_here", "_law_counts"] spLClaims:=by
  refine F.ok sc_l_claims (fun vs H Q E h=>?_) (fun cdv A outer s H vs Q E hr h=>?_)
  · obtain ⟨f,gt,cl,a,b,p,cs,rfl,_⟩:=h
    rfl
  obtain ⟨f,gt,cl,a,b,p,cs,rfl,hF,hgt,hcl,ncf,c1,c10,p0,p6,q⟩:=h
  refine ⟨_,(pss_cons (ps_comp (i:=3) (N:=["_law_game_here"]) (ix:=[1]) sc_l_claims.nd rfl (Or.inl rfl) rfl
          (CompScope.one (by with_unfolding_all rfl) (by decide) rfl (by decide) rfl (by decide +kernel) (by with_unfolding_all rfl) (by with_unfolding_all rfl) (by with_unfolding_all rfl) rfl rfl) rfl
          (pi_list (pv 2)) (fun _ _ _=>pb_all (pe_op op_mod (pv 0) (pe_ix (ix_tupK K) (pv 1) pe_int (fun _ _=>rfl)))))
      (pss_cons (ps_set (i:=4) sc_l_claims.nd rfl (Or.inl rfl) (pe_cal C_l_take hr (by decide) rfl (pa_cons (pv 0) (pa_cons pe_int pa_nil))))
      (pss_cons (ps_if (pt_cmpR op_gt (pv 4) pe_int (nomark _)) (pss_cons (ps_set (i:=5) sc_l_claims.nd rfl (Or.inl rfl) (pe_cal C_l_take hr (by decide) rfl (pa_cons (pv 0) (pa_cons (pe_callB call_len_seq rfl B.len PySem.boot_len (pa_cons (pv 3) pa_nil)) pa_nil))))
        (pss_one (ps_asg (pe_cal C_l_take hr (by decide) rfl (pa_cons (pv 0) (pa_cons (pe_ix ix_tup (pv 1) pe_int (fun _ _=>rfl)) pa_nil))) (pg_sub (pv 3) (pv 5) set_list)))) pss_nil)
      (pss_cons (ps_if (pt_cmpR op_eq (pv 4) pe_int (nomark _)) (pss_one (ps_comp (i:=3) (N:=["_law_game_here", "_law_feed_here"]) (ix:=[1,0]) sc_l_claims.nd rfl (Or.inl rfl) rfl
          (CompScope.two (by with_unfolding_all rfl) (by decide) rfl (by decide) rfl (by decide +kernel) (by first | exact Or.inl rfl | exact Or.inr rfl) (by with_unfolding_all rfl) (by with_unfolding_all rfl) (by with_unfolding_all rfl) (by with_unfolding_all rfl) rfl rfl (by with_unfolding_all rfl) rfl rfl) rfl
          (pi_list (pv 3)) (fun _ _ _=>pb_all (pe_cal C_l_take hr (by decide) rfl (pa_cons (pv 2) (pa_cons (pe_ix (ix_tupK K) (pv 1) pe_int (fun _ _=>rfl)) pa_nil)))))) pss_nil)
      (pss_one (ps_ret (pv 3))))))),?_⟩
  refine ⟨_,rfl,cl,rfl,⟨_,SqL.of hcl⟩,fun D hD=>?_⟩
  have Df:=hF.ne hD
  refine comp_list (K:=K) (xs:=cs.map V.int) (fun i H'=>H' D=some (.lst (((cs.take i).map (· % p)).map V.int))∧Same H H') ⟨by rw [upd_same]; rfl,Same.new hD _⟩ (fun i H' _ h=>SqL.of (h.2 _ _ hcl)) ?_ ?_
  · rintro i z H1 hz ⟨hD1,S1⟩
    have hi:=(List.getElem?_eq_some_iff.mp hz).1
    rw [List.getElem?_map] at hz
    obtain ⟨x,hx,rfl⟩:=Option.map_eq_some_iff.mp hz
    refine ⟨_,rfl,_,rfl,gt,_,2,_,rfl,rfl,SqT.of (S1 _ _ hgt),at2 ..,_,_,rfl,rfl,p0,?_⟩
    refine ⟨_,hD1,?_,Nx.of hi ⟨?_,fun b o e=>?_⟩⟩
    · rw [List.length_map,List.length_map,List.length_take]
      exact small1000 (by omega)
    · rw [upd_same,List.take_add_one,hx,List.map_append,List.map_append]
      rfl
    · rw [upd_ne (ne_of_none e hD)]
      exact S1 _ _ e
  rintro H1 ⟨hD1,S1⟩
  rw [List.length_map,List.take_length] at hD1
  have F1:=hF.same S1
  have xl:(cs.map (· % p)).length=cs.length:=List.length_map _
  have xr:∀ y ∈ cs.map (· % p),0≤y∧y < p:=fun y hy=>by
    obtain ⟨c,_,rfl⟩:=List.mem_map.mp hy
    exact ⟨Int.emod_nonneg _ (by omega),Int.emod_lt_of_pos _ p0⟩
  generalize cs.map (· % p)=xs at hD1 xl xr
  refine ⟨_,rfl,f,4,rfl,F1,by decide,by decide,fun fm H2 f0 f4 F2 S2=>?_⟩
  have S02:SameBut f H H2:=(SameBut.of S1).trans S2
  have hD2:=S2 _ _ Df hD1
  have gne:∀ {H':Hp},FeedAt H' f→H' gt=some (.tup [.ref a,.ref b,.int p])→gt ≠ f:=fun {H'} F' e z=>by
    obtain ⟨u,t,e',_⟩:=F'
    rw [z,e'] at e
    cases e
  have gf0:=gne hF hgt
  refine ⟨_,rfl,_,_,rfl,rfl,_,rfl,?_⟩
  refine ite2 (fun c=>?b1) (fun c=>?b2)
  case' b1 =>
    have xp:(0:Int) < ((xs.map V.int).length:Int):=by rw [List.length_map]; omega
    refine ⟨_,rfl,_,rfl,D,_,rfl,.inl (SqL.of hD2),f,_,rfl,F2,xp,by rw [List.length_map]; omega,fun k H3 k0 k1 F3 S3=>?_⟩
    have hgt3:=S3 _ _ gf0 (S02 _ _ gf0 hgt)
    refine ⟨_,rfl,_,rfl,gt,_,2,_,rfl,rfl,SqT.of hgt3,at2 ..,f,_,rfl,F3,p0,by omega,fun x H4 x0 x1 F4 S4=>?_⟩
    have hD4:=S4 _ _ Df (S3 _ _ Df hD2)
    refine ⟨_,rfl,_,rfl,D,_,k,k.toNat,rfl,rfl,hD4,?_,?_⟩
    · unfold ixN
      rw [if_pos k0,if_pos k1]
    have hD5:upd H4 D (.lst ((xs.map V.int).set k.toNat (.int x))) D=some (.lst ((xs.set k.toNat x).map V.int)):=by rw [upd_same,List.map_set]
    have xl5:(xs.set k.toNat x).length=cs.length:=by rw [List.length_set]; exact xl
    have xr5:=set_rng (j:=k.toNat) xr ⟨x0,x1⟩
    have F5:FeedAt (upd H4 D (.lst ((xs.map V.int).set k.toNat (.int x)))) f:=feed_upd F4 Df
    have S5:SameBut f H (upd H4 D (.lst ((xs.map V.int).set k.toNat (.int x)))):=fun b o hb e=>by
      rw [upd_ne (ne_of_none e hD)]
      exact S4 b o hb (S3 b o hb (S02 b o hb e))
    generalize upd H4 D (.lst ((xs.map V.int).set k.toNat (.int x)))=H5 at hD5 F5 S5
    generalize xs.set k.toNat x=ys at hD5 xl5 xr5
  case' b2 =>
    have hD5:=hD2
    have xl5:=xl
    have xr5:=xr
    have F5:=F2
    have S5:=S02
    generalize H2=H5 at hD5 F5 S5
    generalize xs=ys at hD5 xl5 xr5
  all_goals
    have hgt5:=S5 _ _ gf0 hgt
    refine ⟨_,rfl,rfl,_,rfl,?_⟩
    refine ite2 (fun c3=>?_) (fun c3=>?_)
    · refine ⟨_,rfl,D,rfl,⟨_,SqL.of hD5⟩,fun D2 hD2'=>?_⟩
      have Df2:=F5.ne hD2'
      have nDD:D ≠ D2:=ne_of_none hD5 hD2'
      refine comp_list (K:=K) (xs:=ys.map V.int) (fun i H'=>∃ zs:List Int,H' D2=some (.lst (zs.map V.int))∧zs.length=i∧(∀ x ∈ zs,0≤x∧x < p)∧FeedAt H' f∧SameBut f H5 H') ⟨[],by rw [upd_same]; rfl,rfl,(fun x hx=>by cases hx),F5.same (Same.new hD2' _),SameBut.of (Same.new hD2' _)⟩ (fun i H' _ h=>by obtain ⟨zs,_,_,_,_,h5⟩:=h; exact SqL.of (h5 _ _ Df hD5)) ?_ ?_
      · rintro i z H6 hz ⟨zs,hz6,zl,zr,F6,S6⟩
        have hi:=(List.getElem?_eq_some_iff.mp hz).1
        have hi':=hi
        rw [List.length_map] at hi'
        refine ⟨_,rfl,_,rfl,gt,_,2,_,rfl,rfl,SqT.of (S6 _ _ gf0 hgt5),at2 ..,f,_,rfl,F6,p0,by omega,fun x H7 x0 x1 F7 S7=>?_⟩
        refine ⟨_,S7 _ _ Df2 hz6,?_,Nx.of hi ⟨zs++[x],?_,?_,?_,feed_upd F7 Df2,fun b o hb e=>?_⟩⟩
        · rw [List.length_map]
          exact small1000 (by omega)
        · rw [upd_same,List.map_append]
          rfl
        · rw [List.length_append,List.length_singleton,zl]
        · intro y hy
          rcases List.mem_append.mp hy with h | h
          · exact zr y h
          · rw [List.mem_singleton.mp h]; exact ⟨x0,x1⟩
        · rw [upd_ne (ne_of_none e hD2')]
          exact S7 b o hb (S6 b o hb e)
      · rintro H6 ⟨zs,hz6,zl,zr,F6,S6⟩
        rw [List.length_map] at zl
        exact ⟨_,rfl,q D2 zs H6 Df2 hz6 (by rw [zl]; exact xl5) zr F6 (S5.trans S6)⟩
    · exact ⟨_,rfl,q D ys H5 Df hD5 xl5 xr5 F5 S5⟩
theorem lit_c:cd ("counts " : Str)=cd ("counts" : Str)++[32]:=by decide +kernel
theorem lit_m:cd ("at most " : Str)=cd ("at most" : Str)++[32]:=by decide +kernel
theorem lit_of:cd (" of " : Str)=32::(cd ("of" : Str)++[32]):=by decide +kernel
theorem counts_tx {cs:List Int} (h:1≤cs.length):("counts " : Str)++Txt.join (" " : Str) (cs.map numT)=countsT cs:=by
  rw [sp_eq,join_tx]
  refine cd_inj ?_
  have e1:cd (countsT cs)=jn 32 ((("counts" : Str)::cs.map numT).map cd):=cd_join 32 _
  have e2:cd (Str.join SP (cs.map numT))=jn 32 ((cs.map numT).map cd):=cd_join 32 _
  rw [cd_append,e1,e2,lit_c]
  cases cs with
  | nil=>cases h
  | cons x r =>
    show (cd ("counts" : Str)++[32])++jn 32 _=cd ("counts" : Str)++32::jn 32 _
    rw [List.append_assoc]
    rfl
theorem most_tx (a b:Int):((("at most " : Str)++numT a)++(" of " : Str))++numT b=mostT a b:=by
  refine cd_inj ?_
  have e1:cd (mostT a b)=jn 32 ([("at most" : Str),numT a,("of" : Str),numT b].map cd):=cd_join 32 _
  rw [cd_append,cd_append,cd_append,e1,lit_m,lit_of]
  show (((cd ("at most" : Str)++[32])++cd (numT a))++32::(cd ("of" : Str)++[32]))++cd (numT b)=cd ("at most" : Str)++32::(cd (numT a)++32::(cd ("of" : Str)++32::cd (numT b)))
  simp
def GtAt (H:Hp) (gt a b:Addr) (ns:List Str) (tv:List V) (ts:List Tr) (p:Int):Prop:=H gt=some (.tup [.ref a,.ref b,.int p])∧H a=some (.tup (ns.map V.str))∧H b=some (.tup tv)∧TreesAt H tv ts
theorem GtAt.mono {H H':Hp} {gt a b:Addr} {ns:List Str} {tv:List V} {ts:List Tr} {p:Int} (h:GtAt H gt a b ns tv ts p) (k:KeepT H H'):GtAt H' gt a b ns tv ts p:=⟨k _ _ h.1,k _ _ h.2.1,k _ _ h.2.2.1,h.2.2.2.mono k⟩
theorem feed_lst {H:Hp} {f:Addr} (F:FeedAt H f):∃ xs,H f=some (.lst xs):=by
  obtain ⟨u,t,e,_⟩:=F
  exact ⟨_,e⟩
def spRight:Sp:=fun vs H Q _=>∃ (gt f a b:Addr) (ns:List Str) (tv:List V) (ts:List Tr) (p:Int),vs=[.ref gt,.ref f]∧GtAt H gt a b ns tv ts p∧Gk ns ts p∧FeedAt H f∧∀ H',SameBut f H H'→Q (.bl true) H'
theorem sc_l_right:FnScope ["_law_game_here", "_law_feed_here", "_law_text", "_law_known", "_law_counts", "_law_coins", "_law_total", "_law_k", "_law_turn", "_law_claims_here", "_law_due"] ["_law_game_here", "_law_feed_here"] (defScope s_l_right):=⟨rfl,rfl,rfl,by decide +kernel,rfl,by decide +kernel,by decide +kernel⟩
theorem ok_l_right {f C fI:Addr} {fd fdI:FuncData} (F:Fun K "_law_right" "_law_right" s_l_right f fd) (B:Bl mg) (T:GTxt K mg C) (M:Mk K C fI) (GI:FnOk P w K mg base CX0 14 fI fdI ["self", "switches", "trees", "field"] (spGInit C)) (bI:Binds K fdI ["self", "switches", "trees", "field"] [])
    (C_game_text:Cal P w K mg base 12 "game_text" ["switches", "trees", "field"] spGText) (C_counts_of:Cal P w K mg base 16 "counts_of" ["game"] (spCounts C)) (C_counted:Cal P w K mg base 28 "counted" ["text"] spCounted) (C_l_claims:Cal P w K mg base 2 "_law_claims" ["_law_feed_here", "_law_game_here", "_law_counts"] spLClaims)
    (C_let_by_at_most:Cal P w K mg base 19 "let_by_at_most" ["game", "claims"] (spLet C)) (C_most_of:Cal P w K mg base 28 "most_of" ["game", "claims"] spMost):FnOk P w K mg base CX0 29 f fd ["_law_game_here", "_law_feed_here"] spRight:=by
  refine F.ok sc_l_right (fun vs H Q E h=>?_) (fun cdv A outer s H vs Q E hr h=>?_)
  · obtain ⟨gt,f,a,b,ns,tv,ts,p,rfl,_⟩:=h
    rfl
  obtain ⟨gt,f,a,b,ns,tv,ts,p,rfl,⟨hgt,ha,hb,TS⟩,gk,hF,q⟩:=h
  have hr15:Room 15 _:=hr.mono (by decide)
  refine ⟨_,(pss_cons (ps_set (i:=2) sc_l_right.nd rfl (Or.inl rfl) (pe_cal C_game_text hr (by decide) rfl (pa_cons (pe_ix ix_tup (pv 0) pe_int (fun _ _=>rfl)) (pa_cons (pe_ix ix_tup (pv 0) pe_int (fun _ _=>rfl)) (pa_cons (pe_ix ix_tup (pv 0) pe_int (fun _ _=>rfl)) pa_nil)))))
      (pss_cons (ps_set (i:=3) sc_l_right.nd rfl (Or.inl rfl) (pe_make M GI hr15 rfl T.mgC bI .nil pass0 (pa_cons (pe_ix ix_tup (pv 0) pe_int (fun _ _=>rfl)) (pa_cons (pe_ix ix_tup (pv 0) pe_int (fun _ _=>rfl)) (pa_cons (pe_ix ix_tup (pv 0) pe_int (fun _ _=>rfl)) pa_nil)))))
      (pss_cons (ps_set (i:=4) sc_l_right.nd rfl (Or.inl rfl) (pe_cal C_counts_of hr (by decide) rfl (pa_cons (pv 3) pa_nil)))
      (pss_cons (ps_if (pt_cmpR op_ne (pe_cal C_counted hr (by decide) rfl (pa_cons (pv 2) pa_nil)) (pe_op op_add_str pe_str (pe_bm PySem.F.plainAttrs_str PySem.F.slot_str_join PySem.F.type_str_join mt_join pe_str (pa_cons (pe_comp (N:=[]) (ix:=[]) (cl:=[]) rfl
        (CompScope.closed (by with_unfolding_all rfl) (by decide) rfl (by decide) rfl (by with_unfolding_all rfl)) rfl (pi_list (pv 4)) (fun _ _ _=>pb_all (pe_callTy call_str_int rfl B.str boot_str' (pa_cons (pv 0) pa_nil)))) pa_nil))) (nomark _)) (pss_one (ps_ret pe_bl)) pss_nil)
      (pss_cons (ps_set (i:=5) sc_l_right.nd rfl (Or.inl rfl) (pe_op op_add (pe_callB call_len_seq rfl B.len PySem.boot_len (pa_cons (pe_ix ix_tup (pv 0) pe_int (fun _ _=>rfl)) pa_nil)) (pe_callTy call_int1 rfl B.int boot_int' (pa_cons (pe_cmpR op_gt (pe_callB call_len_seq rfl B.len PySem.boot_len (pa_cons (pe_ix ix_tup (pv 0) pe_int (fun _ _=>rfl)) pa_nil)) pe_int (nomark _)) pa_nil))))
      (pss_cons (ps_set (i:=6) sc_l_right.nd rfl (Or.inl rfl) pe_int)
      (pss_cons (ps_for PassesOwn.never rfl (pi_range1 rfl B.range (pa_cons (pv 5) pa_nil)) (pg_name (i:=7) sc_l_right.nd rfl (Or.inl rfl)) (pss_one (ps_set (i:=6) sc_l_right.nd rfl (Or.inl rfl) (pe_op op_mul (pv 6) (pe_ix ix_tup (pv 0) pe_int (fun _ _=>rfl))))))
      (pss_cons (ps_for PassesOwn.never rfl (pi_range1 rfl B.range (pa_cons (pe_ix ix_list (pe_lst (pa_cons pe_int (pa_cons pe_int pa_nil))) (pe_callTy call_int1 rfl B.int boot_int' (pa_cons (pe_cmpR op_gt (pe_ix ix_tup (pv 0) pe_int (fun _ _=>rfl)) pe_int (nomark _)) pa_nil)) (fun _ _=>rfl)) pa_nil)) (pg_name (i:=8) sc_l_right.nd rfl (Or.inl rfl)) (pss_cons (ps_set (i:=9) sc_l_right.nd rfl (Or.inl rfl) (pe_cal C_l_claims hr (by decide) rfl (pa_cons (pv 1) (pa_cons (pv 0) (pa_cons (pv 4) pa_nil)))))
        (pss_cons (ps_set (i:=10) sc_l_right.nd rfl (Or.inl rfl) (pe_op op_add_str (pe_op op_add_str (pe_op op_add_str pe_str (pe_callTy call_str_int rfl B.str boot_str' (pa_cons (pe_cal C_let_by_at_most hr (by decide) rfl (pa_cons (pv 3) (pa_cons (pe_callTy call_list_of rfl B.list boot_list' (pa_cons (pv 9) pa_nil)) pa_nil))) pa_nil))) pe_str) (pe_callTy call_str_int rfl B.str boot_str' (pa_cons (pv 6) pa_nil))))
        (pss_one (ps_if (pt_cmpR op_ne (pe_cal C_most_of hr (by decide) rfl (pa_cons (pv 2) (pa_cons (pe_bm PySem.F.plainAttrs_str PySem.F.slot_str_join PySem.F.type_str_join mt_join pe_str (pa_cons (pe_comp (N:=[]) (ix:=[]) (cl:=[]) rfl
          (CompScope.closed (by with_unfolding_all rfl) (by decide) rfl (by decide) rfl (by with_unfolding_all rfl)) rfl (pi_list (pv 9)) (fun _ _ _=>pb_all (pe_callTy call_str_int rfl B.str boot_str' (pa_cons (pv 0) pa_nil)))) pa_nil)) pa_nil))) (pv 10) (nomark _)) (pss_one (ps_ret pe_bl)) pss_nil)))))
      (pss_one (ps_ret pe_bl)))))))))),?_⟩
  have p0:0 < p:=by have:=gk.p2; omega
  have p9:=gk.p9
  have n4:=gk.n4
  have t4:=gk.t4
  have t1:=gk.t1
  have vl:=TS.length
  refine ⟨_,rfl,gt,_,0,_,rfl,rfl,SqT.of hgt,at0 ..,_,rfl,gt,_,1,_,rfl,rfl,SqT.of hgt,at1 ..,_,rfl,gt,_,2,_,rfl,rfl,SqT.of hgt,at2 ..,a,b,tv,p,ns,ts,rfl,ha,hb,TS.ts,gk.gm,fun H1 S1=>?_⟩
  refine ⟨_,rfl,gt,_,0,_,rfl,rfl,SqT.of (S1 _ _ hgt),at0 ..,_,rfl,gt,_,1,_,rfl,rfl,SqT.of (S1 _ _ hgt),at1 ..,_,rfl,gt,_,2,_,rfl,rfl,SqT.of (S1 _ _ hgt),at2 ..,fun g dx nx ndx nex=>?_⟩
  have s3:Same H1 (upd (upd H1 dx (.own g)) g (.ins C dx [])):=fun b o e=>by
    rw [upd_ne (ne_of_none e nx),upd_ne (ne_of_none e ndx)]
    exact e
  have s03:=S1.trans s3
  refine ⟨g,dx,a,b,ns,tv,ts,p,rfl,upd_same,s03 _ _ ha,gk.nd,by omega,s03 _ _ hb,TS.mono (keepT_same s03),t1,by omega,gk.wfs,gk.pp,gk.p2,by omega,gk.tp,gk.tc,fun d H3 d0 GA hd S3=>⟨rfl,?_⟩⟩
  have S23:Same H1 H3:=fun b o e=>S3 b o (ne_of_none e nx) (s3 b o e)
  have S03:=S1.trans S23
  have ndf:d ≠ f:=(hF.same s03).ne d0
  have G3:GameD C H3 g d ns ts p:=⟨a,b,tv,GA,S03 _ _ ha,by omega,S03 _ _ hb,TS.mono (keepT_same S03),by omega,gk.tok12,hd,gk.dr⟩
  refine ⟨_,rfl,g,a,b,d,ns,tv,ts,p,rfl,GA,S03 _ _ ha,by omega,S03 _ _ hb,TS.mono (keepT_same S03),by omega,gk.tok12,fun c H4 c0 S4 hc4=>?_⟩
  have S04:=S03.trans S4
  have ncf:c ≠ f:=(hF.same S03).ne c0
  have cl:=cnts_len ts ns
  have cr:∀ x ∈ cnts ts ns,0≤x∧x < 1000000000000:=fun x hx=>by
    obtain ⟨t,_,rfl⟩:=List.mem_map.mp hx
    have:=cnt_rng (t:=t) (ns:=ns) (by omega)
    exact ⟨this.1,by omega⟩
  have hc4':H4 c=some (.lst ((cnts ts ns).map V.int)):=hc4
  refine ⟨_,rfl,ns,ts,p,rfl,gk,fun H5 S5=>?_⟩
  have hc5:=S5 _ _ hc4'
  refine ⟨rfl,_,rfl,c,rfl,⟨_,SqL.of hc5⟩,fun D hD=>?_⟩
  refine comp_list (K:=K) (xs:=(cnts ts ns).map V.int) (fun i H'=>H' D=some (.lst ((((cnts ts ns).take i).map numT).map V.str))∧Same H5 H') ⟨by rw [upd_same]; rfl,Same.new hD _⟩ (fun i H' _ h=>SqL.of (h.2 _ _ hc5)) ?_ ?_
  · rintro i z H6 hz ⟨hD6,S6⟩
    have hi:=(List.getElem?_eq_some_iff.mp hz).1
    rw [List.getElem?_map] at hz
    obtain ⟨m,hm,rfl⟩:=Option.map_eq_some_iff.mp hz
    have bm:=cr m (List.mem_of_getElem? hm)
    refine ⟨_,rfl,m,rfl,log_small bm.1 bm.2,?_⟩
    refine ⟨_,hD6,?_,Nx.of hi ⟨?_,fun b o e=>?_⟩⟩
    · rw [List.length_map,List.length_map,List.length_take]
      exact small1000 (by omega)
    · rw [upd_same,List.take_add_one,hm,List.map_append,List.map_append]
      rfl
    · rw [upd_ne (ne_of_none e hD)]
      exact S6 _ _ e
  rintro H6 ⟨hD6,S6⟩
  rw [List.length_map,List.take_length] at hD6
  have nl6:(((cnts ts ns).map numT).map (·.length)).sum≤60:=by
    have:=sum_le (l:=(cnts ts ns).map numT) (b:=12) fun x hx=>by
      obtain ⟨y,hy,rfl⟩:=List.mem_map.mp hx
      exact num_len (cr y hy).1 (cr y hy).2
    rw [List.length_map] at this
    omega
  refine ⟨_,D,(cnts ts ns).map numT,rfl,rfl,SqL.of hD6,(by decide +kernel),by rw [List.length_map]; omega,?_⟩
  have jl:(Txt.join (" " : Str) ((cnts ts ns).map numT)).length≤100:=by
    rw [sp_eq,join_tx]
    have:=join_len 32 ((cnts ts ns).map numT)
    rw [List.length_map] at this
    show (Str.join ⟨#[32]⟩ ((cnts ts ns).map numT)).length≤100
    omega
  refine ⟨_,_,rfl,rfl,small (by have:("counts " : Str).length=7:=(by decide +kernel); omega),rfl,_,rfl,?_⟩
  refine iteNT (by rw [counts_tx (by omega)]) ?_
  have S06:Same H H6:=S04.trans (S5.trans S6)
  have F6:=hF.same S06
  have G6:GameD C H6 g d ns ts p:=G3.same (S4.trans (S5.trans S6))
  have hc6:=S6 _ _ hc5
  refine ⟨_,rfl,gt,_,0,_,rfl,rfl,SqT.of (S06 _ _ hgt),at0 ..,a,_,rfl,.inr (SqT.of (S06 _ _ ha)),_,rfl,gt,_,1,_,rfl,rfl,SqT.of (S06 _ _ hgt),at1 ..,b,_,rfl,.inr (SqT.of (S06 _ _ hb)),_,_,rfl,rfl,.inr ⟨_,rfl,_,_,rfl,rfl,?_⟩⟩
  have ec:(((ns.map V.str).length:Nat):Int)+(if decide ((1:Int) < ((tv.length:Nat):Int))=true then 1 else 0)=((if ts.length=1 then ns.length else ns.length+1:Nat):Int):=by
    rw [List.length_map,vl]
    by_cases z:ts.length=1
    · rw [if_pos z,decide_eq_false (by omega),if_neg Bool.false_ne_true]
      omega
    · rw [if_neg z,decide_eq_true (by omega),if_pos rfl]
      omega
  show gName 5 (V.int ((((ns.map V.str).length:Nat):Int)+(if decide ((1:Int) < ((tv.length:Nat):Int))=true then 1 else 0))) _ _ _
  rw [ec]
  have nw:(if ts.length=1 then ns.length else ns.length+1)≤5:=by split <;> omega
  generalize hn:(if ts.length=1 then ns.length else ns.length+1)=n at nw
  have er:rowsG ns ts p=p ^ n:=by unfold rowsG; rw [hn]
  refine ⟨_,rfl,_,rfl,by omega,by omega,for_range (n:=(n:Int).toNat) (fun i σ H'=>∃ x7:Option V,σ=[some (.ref gt),some (.ref f),some (.str (gameT p ns ts)),some (.ref g),some (.ref c),some (.int (n:Int)),some (.int (p ^ i)),x7,none,none,none]∧H'=H6) ⟨none,by rw [Int.pow_zero]; rfl,rfl⟩ ?_ ?_⟩
  · rintro i σ H7 hi ⟨x7,rfl,rfl⟩
    refine ⟨_,rfl,_,rfl,gt,_,2,_,rfl,rfl,SqT.of (S06 _ _ hgt),at2 ..,_,_,rfl,rfl,.inr ⟨by omega,by omega⟩,?_⟩
    refine ⟨some (.int (0+(i:Int))),?_,rfl⟩
    rw [Int.pow_succ]
    rfl
  rintro σ H7 ⟨x7,rfl,rfl⟩
  rw [Int.toNat_natCast,← er]
  refine ⟨(by show 2≤sizeLine; decide),fun l hl=>?_⟩
  refine ⟨_,rfl,gt,_,2,_,rfl,rfl,SqT.of (Same.new hl _ _ _ (S06 _ _ hgt)),at2 ..,_,_,rfl,rfl,.inr ⟨_,rfl,?_⟩⟩
  obtain ⟨rn,hrn,r3⟩:∃ rn:Nat,atI [V.int 3,V.int 1] (if decide ((600:Int) < p)=true then 1 else 0)=some (.int (rn:Int))∧rn≤3:=by
    by_cases z:(600:Int) < p
    · rw [decide_eq_true z,if_pos rfl]
      exact ⟨1,rfl,by decide⟩
    · rw [decide_eq_false z,if_neg Bool.false_ne_true]
      exact ⟨3,rfl,by decide⟩
  refine ⟨l,_,_,_,rfl,rfl,SqL.of upd_same,hrn,_,rfl,by omega,by omega,?_⟩
  have Sl:=Same.new hl (.lst [.int 3,.int 1])
  have S8:=S06.trans Sl
  have F8:=F6.same Sl
  have G8:=G6.same Sl
  have hc8:=Sl _ _ hc6
  have bB:=gk.rows_r
  have bt:=num_wd bB.1 bB.2
  generalize upd H7 l (.lst [.int 3,.int 1])=H8 at S8 F8 G8 hc8
  refine for_range (n:=(rn:Int).toNat) (fun i σ H'=>∃ x7 x8 x9 x10:Option V,σ=[some (.ref gt),some (.ref f),some (.str (gameT p ns ts)),some (.ref g),some (.ref c),some (.int (n:Int)),some (.int (rowsG ns ts p)),x7,x8,x9,x10]∧FeedAt H' f∧SameBut f H8 H') ⟨_,_,_,_,rfl,F8,SameBut.refl _ _⟩ ?_ ?_
  · rintro i σ H9 hi ⟨x7,x8,x9,x10,rfl,F9,S9⟩
    have G9:GameD C H9 g d ns ts p:=G8.but (feed_lst F8) ndf S9
    have hc9:=S9 _ _ ncf hc8
    have k9:=keepT_feed F8 S9
    have hgt9:=k9 _ _ (S8 _ _ hgt)
    refine ⟨_,rfl,_,rfl,_,rfl,f,gt,c,a,b,p,cnts ts ns,rfl,F9,hgt9,hc9,ncf,by omega,by omega,p0,by omega,fun q1 xs H10 q1f hq1 xl xr F10 S10=>?_⟩
    have G10:GameD C H10 g d ns ts p:=G9.but (feed_lst F9) ndf S10
    refine ⟨_,rfl,_,rfl,q1,_,rfl,.inl (SqL.of hq1),fun q2 hq2=>?_⟩
    have Sq:=Same.new hq2 (.lst (xs.map V.int))
    have G11:=G10.same Sq
    refine ⟨g,d,q2,ns,ts,xs,p,rfl,G11,p0,p9,upd_same,by rw [xl,cl],fun H12 S12=>?_⟩
    have aB:=gk.let_r xs
    have at':=num_wd aB.1 aB.2
    have hle:(numT (letG ns ts p xs)).length≤100:=at'.2
    have hri:(numT (rowsG ns ts p)).length≤100:=bt.2
    have l1:("at most " : Str).length=8:=by decide +kernel
    have l2:(" of " : Str).length=4:=by decide +kernel
    have wlog:∀ {m:Int},WdOk (.int m)→m.natAbs.log2 < 1920:=fun {m} h=>by
      rcases h.1 with ⟨i,e,hi⟩ | ⟨x,e⟩
      · cases e; exact hi
      · cases e
    refine ⟨_,rfl,wlog at',_,_,rfl,rfl,small (by show _+(numT (letG ns ts p xs)).length≤1000; omega),_,_,rfl,rfl,small (by rw [Str.length_append]; show _+(numT (letG ns ts p xs)).length+_≤1000; omega),?_⟩
    refine ⟨_,rfl,_,rfl,wlog bt,_,_,rfl,rfl,small (by rw [Str.length_append,Str.length_append]; show _+(numT (letG ns ts p xs)).length+_+(numT (rowsG ns ts p)).length≤1000; omega),?_⟩
    have S10':SameBut f H8 H12:=(S9.trans S10).trans (SameBut.of (Sq.trans S12))
    have F12:=F10.same (Sq.trans S12)
    have hq12:=(Sq.trans S12) _ _ hq1
    have xr':∀ x ∈ xs,0≤x∧x < 1000000000000:=fun x hx=>⟨(xr x hx).1,by have:=(xr x hx).2; omega⟩
    refine ⟨_,rfl,rfl,_,rfl,q1,rfl,⟨_,SqL.of hq12⟩,fun D3 hD3=>?_⟩
    refine comp_list (K:=K) (xs:=xs.map V.int) (fun i H'=>H' D3=some (.lst (((xs.take i).map numT).map V.str))∧Same H12 H') ⟨by rw [upd_same]; rfl,Same.new hD3 _⟩ (fun i H' _ h=>SqL.of (h.2 _ _ hq12)) ?_ ?_
    · rintro i z H6 hz ⟨hD6,S6⟩
      have hi:=(List.getElem?_eq_some_iff.mp hz).1
      rw [List.getElem?_map] at hz
      obtain ⟨m,hm,rfl⟩:=Option.map_eq_some_iff.mp hz
      have bm:=xr' m (List.mem_of_getElem? hm)
      refine ⟨_,rfl,m,rfl,log_small bm.1 bm.2,?_⟩
      refine ⟨_,hD6,?_,Nx.of hi ⟨?_,fun b o e=>?_⟩⟩
      · rw [List.length_map,List.length_map,List.length_take]
        exact small1000 (by omega)
      · rw [upd_same,List.take_add_one,hm,List.map_append,List.map_append]
        rfl
      · rw [upd_ne (ne_of_none e hD3)]
        exact S6 _ _ e
    rintro H13 ⟨hD13,S13⟩
    rw [List.length_map,List.take_length] at hD13
    have nl13:((xs.map numT).map (·.length)).sum≤60:=by
      have:=sum_le (l:=xs.map numT) (b:=12) fun x hx=>by
        obtain ⟨y,hy,rfl⟩:=List.mem_map.mp hx
        exact num_len (xr' y hy).1 (xr' y hy).2
      rw [List.length_map] at this
      omega
    refine ⟨_,D3,xs.map numT,rfl,rfl,SqL.of hD13,(by decide +kernel),by rw [List.length_map]; omega,?_⟩
    rw [show Txt.join (" " : Str) (xs.map numT)=Str.join SP (xs.map numT) by rw [sp_eq,join_tx]]
    refine ⟨ns,ts,p,xs,rfl,gk,by rw [xl,cl],xr,fun H14 S14=>?_⟩
    refine ⟨_,rfl,rfl,_,rfl,?_⟩
    refine iteNT (congrArg V.str (most_tx (letG ns ts p xs) (rowsG ns ts p)).symm) ?_
    exact ⟨_,_,_,_,rfl,F12.same (S13.trans S14),S10'.trans (SameBut.of (S13.trans S14))⟩
  · rintro σ H9 ⟨x7,x8,x9,x10,rfl,F9,S9⟩
    exact q H9 ((SameBut.of S8).trans S9)
structure Ge (ns:List Str) (ts:List Tr) (p:Int):Prop where
  n4:ns.length≤4
  nk:∀ x ∈ ns,NmK x
  nd:ns.Nodup
  t1:1≤ts.length
  t4:ts.length≤4
  tok:∀ t ∈ ts,t.ok ns∧t.depth≤9∧(t.size:Int)≤8
  pp:Pr p
  p2:2 < p
  tp:(ts.length:Int)≤p
  tc:∀ t ∈ ts,∀ x ∈ ns,(t.names.count x:Int) < p
theorem Ge.gk {ns:List Str} {ts:List Tr} {p:Int} (g:Ge ns ts p) (h:p < 10000):Gk ns ts p:=⟨g.n4,g.nk,g.nd,g.t1,g.t4,g.tok,g.pp,g.p2,h,g.tp,g.tc⟩
theorem pr11:Pr 11:=⟨by decide,fun k h2 h1000 hk=>by
  have:k < 4:=by
    by_cases c:k < 4
    · exact c
    · have:=Int.mul_le_mul (show (4:Int)≤k by omega) (show (4:Int)≤k by omega) (by decide) (by omega)
      omega
  have:k=2∨k=3:=by omega
  rcases this with rfl | rfl <;> decide⟩
theorem Ge.e11 {ns:List Str} {ts:List Tr} {p:Int} (g:Ge ns ts p):Gk ns ts 11:=⟨g.n4,g.nk,g.nd,g.t1,g.t4,g.tok,pr11,by decide,by decide,by have:=g.t4; omega,fun t ht x hx=>by
  have h1:=(g.tok t ht).2.2
  have h2:=t.names_len
  have h3:=List.count_le_length (a:=x) (l:=t.names)
  omega⟩
def Gd (H:Hp) (b:Bool) (v:V):Prop:=∃ (gt ga gb:Addr) (ns:List Str) (tv:List V) (ts:List Tr) (p:Int),v=.ref gt∧GtAt H gt ga gb ns tv ts p∧Ge ns ts p∧(b=true→p < 10000)
theorem Gd.mono {H H':Hp} {b:Bool} {v:V} (h:Gd H b v) (k:KeepT H H'):Gd H' b v:=by
  obtain ⟨gt,ga,gb,ns,tv,ts,p,e,G,r⟩:=h
  exact ⟨gt,ga,gb,ns,tv,ts,p,e,G.mono k,r⟩
theorem sc_law:FnScope ["_law_script", "_law_games", "_law_k"] ["_law_script"] (defScope s_law):=⟨rfl,rfl,rfl,by decide +kernel,rfl,by decide +kernel,by decide +kernel⟩
theorem cut2 (a b c:V):cutV [a,b,c] none (some 2)=[a,b]:=rfl
theorem ok_law {f:Addr} {fd:FuncData} (F:Fun K "law" "law" s_law f fd) (B:Bl mg) (C_l_feed:Cal P w K mg base 1 "_law_feed" ["_law_script", "_law_k"] (spFeed K)) (C_l_game:Cal P w K mg base 14 "_law_game" ["_law_feed_here", "_law_most", "_law_room"] spGame) (C_l_right:Cal P w K mg base 29 "_law_right" ["_law_game_here", "_law_feed_here"] spRight):FnOk P w K mg base CX0 30 f fd ["_law_script"] (spLaw K):=by
  refine F.ok sc_law (fun vs H Q E h=>?_) (fun cdv A outer s H vs Q E hr h=>?_)
  · obtain ⟨a,ns,rfl,_⟩:=h
    rfl
  obtain ⟨a,ns,rfl,hS,h63,q⟩:=h
  refine ⟨_,(pss_cons (ps_set (i:=1) sc_law.nd rfl (Or.inr rfl) (pe_comp (N:=["_law_script"]) (ix:=[0]) rfl
          (CompScope.one (by with_unfolding_all rfl) (by decide) rfl (by decide) rfl (by decide +kernel) (by with_unfolding_all rfl) (by with_unfolding_all rfl) (by with_unfolding_all rfl) rfl rfl) rfl
          (pi_tup (pe_tup (pa_cons pe_int (pa_cons pe_int pa_nil)))) (fun _ _ _=>pb_all (pe_cal C_l_game hr (by decide) rfl (pa_cons (pe_cal C_l_feed hr (by decide) rfl (pa_cons (pv 1) (pa_cons (pv 0) pa_nil))) (pa_cons pe_int (pa_cons pe_int pa_nil)))))))
      (pss_cons (ps_for PassesOwn.never rfl (pi_range1 rfl B.range (pa_cons pe_int pa_nil)) (pg_name (i:=2) sc_law.nd rfl (Or.inl rfl)) (pss_one (ps_if (pt_cmpR op_gt (pe_ix ix_tup (pe_ix ix_list (pv 1) (pv 2) (fun _ _=>rfl)) pe_int (fun _ _=>rfl)) pe_int (nomark _)) (pss_one (ps_asg (pe_op op_catT (pe_slice sl_tupA (pe_ix ix_list (pv 1) (pv 2) (fun _ _=>rfl)) po_none (po_some pe_int)) (pe_tup (pa_cons pe_int pa_nil))) (pg_sub (pv 1) (pv 2) set_list))) pss_nil)))
      (pss_one (ps_ret (pe_callB (call_all rfl) rfl B.all PyProof.Rows.boot_all (pa_cons (pe_comp (N:=["_law_script", "_law_games"]) (ix:=[0,1]) rfl
          (CompScope.two (by with_unfolding_all rfl) (by decide) rfl (by decide) rfl (by decide +kernel) (by first | exact Or.inl rfl | exact Or.inr rfl) (by with_unfolding_all rfl) (by with_unfolding_all rfl) (by with_unfolding_all rfl) (by with_unfolding_all rfl) rfl rfl (by with_unfolding_all rfl) rfl rfl) rfl
          (pi_tup (pe_tup (pa_cons pe_int (pa_cons pe_int (pa_cons pe_int pa_nil))))) (fun _ _ _=>pb_all (pe_cal C_l_right hr (by decide) rfl (pa_cons (pe_ix (ix_listK K) (pv 2) (pv 0) (fun _ _=>rfl)) (pa_cons (pe_cal C_l_feed hr (by decide) rfl (pa_cons (pv 1) (pa_cons (pe_op op_add pe_int (pv 0)) pa_nil))) pa_nil))))) pa_nil)))))),?_⟩
  refine ⟨(by show 2≤sizeLine; decide),fun t0 ht0=>?_⟩
  have s0:=Same.new ht0 (.tup [.int 1,.int 3])
  have g0:upd H t0 (.tup [.int 1,.int 3]) t0=some (.tup [.int 1,.int 3]):=upd_same
  generalize upd H t0 (.tup [.int 1,.int 3])=H0 at s0 g0
  refine ⟨t0,rfl,⟨_,SqT.of g0⟩,fun D hD=>?_⟩
  refine comp_tup (K:=K) (xs:=[.int 1,.int 3]) (fun i H'=>∃ gs:List V,H' D=some (.lst gs)∧gs.length=i∧(∀ v ∈ gs,Gd H' false v)∧Same H0 H') ⟨[],by rw [upd_same],rfl,(fun v hv=>by cases hv),Same.new hD _⟩ (fun i H' _ h=>by obtain ⟨_,_,_,_,h4⟩:=h; exact SqT.of (h4 _ _ g0)) ?_ ?_
  · rintro i z H1 hz ⟨gs,hD1,gl,gd,S1⟩
    have hi:=(List.getElem?_eq_some_iff.mp hz).1
    have hi2:i < 2:=hi
    obtain ⟨k,rfl,k0,k9⟩:∃ k:Int,z=.int k∧0≤k∧k≤3:=by
      have:=List.mem_of_getElem? hz
      simp only [List.mem_cons,List.not_mem_nil,or_false] at this
      rcases this with h | h <;> exact ⟨_,h,by decide,by decide⟩
    refine ⟨_,rfl,_,rfl,a,ns,k,rfl,(s0.trans S1).seq hS,h63,k0,by omega,fun f0 H2 f00 s2 F2=>?_⟩
    refine ⟨f0,4,8,rfl,F2,by decide,by decide,by decide,by decide,fun gt sa sb sn tv ts p H3 hgt hsa snl snok snd hsb TS tl1 tl4 tok pp p3 p9 tp tc F3 S3=>?_⟩
    have S13:Same H1 H3:=s2.but f00 S3
    have hD3:=S13 _ _ hD1
    refine ⟨_,hD3,small1000 (by omega),Nx.of hi ⟨gs++[.ref gt],upd_same,by rw [List.length_append,List.length_singleton,gl],?_,fun b o e=>?_⟩⟩
    · have k3:=keepT_lst (H:=H3) (b:=D) (ys:=gs) (zs:=gs++[.ref gt]) hD3
      intro v hv
      rcases List.mem_append.mp hv with h | h
      · exact ((gd v h).mono (keepT_same S13)).mono k3
      · rw [List.mem_singleton.mp h]
        exact ⟨gt,sa,sb,sn,tv,ts,p,rfl,⟨k3 _ _ hgt,k3 _ _ hsa,k3 _ _ hsb,TS.mono k3⟩,⟨by omega,snok,snd,tl1,tl4,tok,pp,p3,tp,tc⟩,fun z=>by cases z⟩
    · rw [upd_ne (ne_of_none e hD)]
      exact S13 _ _ (S1 _ _ e)
  rintro H1 ⟨gs,hD1,gl,gd,S1⟩
  have gl2:gs.length=2:=gl
  refine ⟨2,rfl,by decide,by decide,for_range (n:=(2:Int).toNat) (fun i σ H'=>∃ (x2:Option V) (gs:List V),σ=[some (.ref a),some (.ref D),x2]∧H' D=some (.lst gs)∧gs.length=2∧(∀ (k:Nat) v,gs[k]?=some v→Gd H' (decide (k < i)) v)∧Same H0 H') ⟨_,gs,rfl,hD1,gl2,fun k v hv=>?_,S1⟩ ?_ ?_⟩
  · have:=gd v (List.mem_of_getElem? hv)
    obtain ⟨gt,ga,gb,ns,tv,ts,p,e,G,ge,_⟩:=this
    exact ⟨gt,ga,gb,ns,tv,ts,p,e,G,ge,fun z=>by simp at z⟩
  · rintro i σ H2 hi ⟨x2,gs,rfl,hD2,gl,gd,S2⟩
    have hi2:i < 2:=hi
    obtain ⟨v,hv⟩:∃ v,gs[i]?=some v:=⟨_,List.getElem?_eq_getElem (by omega)⟩
    have av:atI gs (0+(i:Int))=some v:=by rw [Int.zero_add]; exact atI_nat hv
    obtain ⟨gt,ga,gb,sn,tv,ts,p,rfl,⟨hgt,hga,hgb,TS⟩,ge,_⟩:=gd i v hv
    refine ⟨_,rfl,_,rfl,D,_,_,_,rfl,rfl,SqL.of hD2,av,gt,_,2,_,rfl,rfl,SqT.of hgt,at2 ..,_,_,rfl,rfl,_,rfl,?_⟩
    refine ite2 (fun c=>?_) (fun c=>?_)
    · refine ⟨_,rfl,_,rfl,D,_,_,_,rfl,rfl,SqL.of hD2,av,2,rfl,gt,_,rfl,SqT.of hgt,hgt,fun t1 H3 S3 ht1=>?_⟩
      rw [cut2] at ht1
      refine ⟨(by show 1≤sizeLine; decide),fun t2 ht2=>?_⟩
      have s4:=Same.new ht2 (.tup [.int 11])
      refine ⟨t1,t2,_,_,rfl,rfl,SqT.of (s4 _ _ ht1),SqT.of upd_same,by simp,(by show 3≤sizeLine; decide),(fun z=>by cases z),fun _ t3 ht3=>?_⟩
      have s5:=Same.new ht3 (.tup ([.ref ga,.ref gb]++[.int 11]))
      have S25:=S3.trans (s4.trans s5)
      have hD5:=S25 _ _ hD2
      refine ⟨_,rfl,_,rfl,D,gs,_,i,rfl,rfl,hD5,?_,?_⟩
      · unfold ixN
        rw [if_pos (by omega),if_pos (by omega)]
        congr 1
        omega
      have k5:=keepT_lst (b:=D) (ys:=gs) (zs:=gs.set i (.ref t3)) hD5
      refine ⟨_,gs.set i (.ref t3),rfl,upd_same,by rw [List.length_set]; exact gl,fun k w hw=>?_,fun b o e=>?_⟩
      · by_cases ck:k=i
        · subst ck
          rw [List.getElem?_set_self (by omega)] at hw
          cases hw
          exact ⟨t3,ga,gb,sn,tv,ts,11,rfl,⟨k5 _ _ upd_same,k5 _ _ (S25 _ _ hga),k5 _ _ (S25 _ _ hgb),(TS.mono (keepT_same S25)).mono k5⟩,⟨ge.n4,ge.nk,ge.nd,ge.t1,ge.t4,ge.tok,ge.e11.pp,ge.e11.p2,ge.e11.tp,ge.e11.tc⟩,fun _=>by decide⟩
        · rw [List.getElem?_set_ne (Ne.symm ck)] at hw
          have old:=((gd k w hw).mono (keepT_same S25)).mono k5
          have ed:decide (k < i+1)=decide (k < i):=decide_eq_decide.mpr (by omega)
          rw [ed]
          exact old
      · rw [upd_ne (ne_of_none e hD)]
        exact S25 _ _ (S2 _ _ e)
    · refine ⟨_,gs,rfl,hD2,gl,fun k w hw=>?_,S2⟩
      by_cases ck:k=i
      · subst ck
        rw [hv] at hw
        cases hw
        refine ⟨gt,ga,gb,sn,tv,ts,p,rfl,⟨hgt,hga,hgb,TS⟩,ge,fun _=>?_⟩
        have:¬ (9999:Int) < p:=fun z=>by
          rw [decide_eq_true z] at c
          exact c rfl
        omega
      · have ed:decide (k < i+1)=decide (k < i):=decide_eq_decide.mpr (by omega)
        rw [ed]
        exact gd k w hw
  rintro σ H2 ⟨x2,gs,rfl,hD2,gl,gd,S2⟩
  refine ⟨(by show 3≤sizeLine; decide),fun t1 ht1=>?_⟩
  have s3:=Same.new ht1 (.tup [.int 0,.int 1,.int 0])
  have g3:upd H2 t1 (.tup [.int 0,.int 1,.int 0]) t1=some (.tup [.int 0,.int 1,.int 0]):=upd_same
  generalize upd H2 t1 (.tup [.int 0,.int 1,.int 0])=H3 at s3 g3
  have hD3:=s3 _ _ hD2
  refine ⟨t1,rfl,⟨_,SqT.of g3⟩,fun D2 hDD=>?_⟩
  refine comp_tup (K:=K) (xs:=[.int 0,.int 1,.int 0]) (fun i H'=>H' D2=some (.lst ((List.replicate i true).map V.bl))∧Same H3 H') ⟨by rw [upd_same]; rfl,Same.new hDD _⟩ (fun i H' _ h=>SqT.of (h.2 _ _ g3)) ?_ ?_
  · rintro i z H4 hz ⟨hD4,S4⟩
    have hi:=(List.getElem?_eq_some_iff.mp hz).1
    have hi3:i < 3:=hi
    obtain ⟨k,rfl,k2⟩:∃ k:Nat,z=.int (k:Int)∧k < 2:=by
      have:=List.mem_of_getElem? hz
      simp only [List.mem_cons,List.not_mem_nil,or_false] at this
      rcases this with h | h | h
      · exact ⟨0,h,by decide⟩
      · exact ⟨1,h,by decide⟩
      · exact ⟨0,h,by decide⟩
    obtain ⟨v,hv⟩:∃ v,gs[k]?=some v:=⟨_,List.getElem?_eq_getElem (by omega)⟩
    have g1:=gd k v hv
    have k2':decide (k < (2:Int).toNat)=true:=decide_eq_true k2
    rw [k2'] at g1
    obtain ⟨gt,ga,gb,sn,tv,ts,p,rfl,G,ge,gp⟩:=g1
    have S24:=s3.trans S4
    refine ⟨_,rfl,_,rfl,D,_,_,_,rfl,rfl,SqL.of (S4 _ _ hD3),atI_nat hv,_,rfl,_,rfl,_,_,rfl,rfl,a,ns,_,rfl,(s0.trans (S2.trans S24)).seq hS,h63,by omega,by omega,fun f0 H5 f00 s5 F5=>?_⟩
    refine ⟨gt,f0,ga,gb,sn,tv,ts,p,rfl,(G.mono (keepT_same S24)).mono (keepT_same s5),ge.gk (gp rfl),F5,fun H6 S6=>?_⟩
    have S46:Same H4 H6:=s5.but f00 S6
    refine ⟨_,S46 _ _ hD4,?_,Nx.of hi ⟨?_,fun b' o' e'=>?_⟩⟩
    · rw [List.length_map,List.length_replicate]
      exact small1000 (by omega)
    · rw [upd_same,List.replicate_succ',List.map_append]
      rfl
    · rw [upd_ne (ne_of_none e' hDD)]
      exact S46 _ _ (S4 _ _ e')
  rintro H4 ⟨hD4,S4⟩
  refine ⟨D2,_,rfl,SqL.of hD4,?_⟩
  rw [all_true]
  exact q H4
theorem kept_vals {a b c d e f g h i j k l:Tok}:Vals (kept.map V.str) [.str "yes" a,.str "no" b,.str "not" c,.str "and" d,.str "or" e,.str "odd" f,.str "same" g,.str "round" h,.str "due" i,.str "asked" j,.str "true" k,.str "coin" l] :=
  .cons ⟨_,rfl⟩ (.cons ⟨_,rfl⟩ (.cons ⟨_,rfl⟩ (.cons ⟨_,rfl⟩ (.cons ⟨_,rfl⟩ (.cons ⟨_,rfl⟩ (.cons ⟨_,rfl⟩ (.cons ⟨_,rfl⟩ (.cons ⟨_,rfl⟩ (.cons ⟨_,rfl⟩ (.cons ⟨_,rfl⟩ (.cons ⟨_,rfl⟩ .nil)))))))))))
theorem join_vals {a b c d:Tok}:Vals (joinW.map V.str) [.str "and" a,.str "or" b,.str "odd" c,.str "same" d] :=
  .cons ⟨_,rfl⟩ (.cons ⟨_,rfl⟩ (.cons ⟨_,rfl⟩ (.cons ⟨_,rfl⟩ .nil)))
end
theorem all_mk {l:PySem.W.OpenLaw} {w:World} {K:PySem.W.Frag} {h:Heap} {mg:Str→Option Value} {fa f0 f1 f2 f3 f4 f5 f6 f7 f8 f9 f10 f11 f12 f13 f14 f15 f16 f17 f18 f19 f20 f21 f22 f23 f24 f25 f26 f27 f28 f29 f30 f31 f32 f33 f34 f35 f36 f37 f38 f39 f40 f41 f42 f43 f44 f45 f46 f47 f48 f49 f50:Addr} (X:K.In h) (G:h.Ns mainGlobals mg) (hfa:mg "law" = some (.ref fa))
    {od0 an0 od1 an1 od2 an2 od3 an3 od4 an4 od5 an5 od6 an6 od7 an7 od8 an8 od9 an9 od10 an10 od11 an11 od12 an12 od13 an13 od14 an14 od15 an15 od16 an16 od17 an17 od18 an18 od19 an19 od20 an20 od21 an21 od22 an22 od23 an23 od24 an24 od25 an25 od26 an26 od27 an27 od28 an28 od29 an29 od30 an30 od31 an31 od32 an32 od33 an33 od34 an34 od35 an35 od36 an36 od37 an37 od38 an38 od39 an39 od40 an40 od41 an41 od42 an42 od43 an43 od44 an44 od45 an45 od46 an46 od47 an47 od48 an48 od49 an49 od50 an50:Option Addr} {sl0 sl1 sl2 sl3 sl4 sl5 sl6 sl7 sl8 sl9 sl10 sl11 sl12 sl13 sl14 sl15 sl16 sl17 sl18 sl19 sl20 sl21 sl22 sl23 sl24 sl25 sl26 sl27 sl28 sl29 sl30 sl31 sl32 sl33 sl34 sl35 sl36 sl37 sl38 sl39 sl40 sl41 sl42 sl43 sl44 sl45 sl46 sl47 sl48 sl49 sl50:Array (Option Value)} {oc0 kV0 dc0 pm0 cd0 ct0 oc1 kV1 dc1 pm1 cd1 ct1 oc2 kV2 dc2 pm2 cd2 ct2 oc3 kV3 dc3 pm3 cd3 ct3 oc4 kV4 dc4 pm4 cd4 ct4 oc5 kV5 dc5 pm5 cd5 ct5 oc6 kV6 dc6 pm6 cd6 ct6 oc7 kV7 dc7 pm7 cd7 ct7 oc8 kV8 dc8 pm8 cd8 ct8 oc9 kV9 dc9 pm9 cd9 ct9 oc10 kV10 dc10 pm10 cd10 ct10 oc11 kV11 dc11 pm11 cd11 ct11 oc12 kV12 dc12 pm12 cd12 ct12 oc13 kV13 dc13 pm13 cd13 ct13 oc14 kV14 dc14 pm14 cd14 ct14 oc15 kV15 dc15 pm15 cd15 ct15 oc16 kV16 dc16 pm16 cd16 ct16 oc17 kV17 dc17 pm17 cd17 ct17 oc18 kV18 dc18 pm18 cd18 ct18 oc19 kV19 dc19 pm19 cd19 ct19 oc20 kV20 dc20 pm20 cd20 ct20 oc21 kV21 dc21 pm21 cd21 ct21 oc22 kV22 dc22 pm22 cd22 ct22 oc23 kV23 dc23 pm23 cd23 ct23 oc24 kV24 dc24 pm24 cd24 ct24 oc25 kV25 dc25 pm25 cd25 ct25 oc26 kV26 dc26 pm26 cd26 ct26 oc27 kV27 dc27 pm27 cd27 ct27 oc28 kV28 dc28 pm28 cd28 ct28 oc29 kV29 dc29 pm29 cd29 ct29 oc30 kV30 dc30 pm30 cd30 ct30 oc31 kV31 dc31 pm31 cd31 ct31 oc32 kV32 dc32 pm32 cd32 ct32 oc33 kV33 dc33 pm33 cd33 ct33 oc34 kV34 dc34 pm34 cd34 ct34 oc35 kV35 dc35 pm35 cd35 ct35 oc36 kV36 dc36 pm36 cd36 ct36 oc37 kV37 dc37 pm37 cd37 ct37 oc38 kV38 dc38 pm38 cd38 ct38 oc39 kV39 dc39 pm39 cd39 ct39 oc40 kV40 dc40 pm40 cd40 ct40 oc41 kV41 dc41 pm41 cd41 ct41 oc42 kV42 dc42 pm42 cd42 ct42 oc43 kV43 dc43 pm43 cd43 ct43 oc44 kV44 dc44 pm44 cd44 ct44 oc45 kV45 dc45 pm45 cd45 ct45 oc46 kV46 dc46 pm46 cd46 ct46 oc47 kV47 dc47 pm47 cd47 ct47 oc48 kV48 dc48 pm48 cd48 ct48 oc49 kV49 dc49 pm49 cd49 ct49 oc50 kV50 dc50 pm50 cd50 ct50:Value}
    (a0:PySem.W.nsIn K mainGlobals "_wall" = some (some (.ref f0))) (l0:K.lookup f0=some ⟨oc0,od0,.func (PySem.W.fnOf "_wall" "_wall" (defArgs s__wall) (defBody s__wall) (defScope s__wall) .none kV0 dc0 pm0 an0 cd0 ct0),sl0⟩) (c0:PySem.W.codeIn K cd0 "_wall" = true) (k0:PySem.W.keepIn K (.ref f0)=true)
    (a1:PySem.W.nsIn K mainGlobals "is_field" = some (some (.ref f1))) (l1:K.lookup f1=some ⟨oc1,od1,.func (PySem.W.fnOf "is_field" "is_field" (defArgs s_is_field) (defBody s_is_field) (defScope s_is_field) .none kV1 dc1 pm1 an1 cd1 ct1),sl1⟩) (c1:PySem.W.codeIn K cd1 "is_field" = true) (k1:PySem.W.keepIn K (.ref f1)=true)
    (a2:PySem.W.nsIn K mainGlobals "is_number" = some (some (.ref f2))) (l2:K.lookup f2=some ⟨oc2,od2,.func (PySem.W.fnOf "is_number" "is_number" (defArgs s_is_number) (defBody s_is_number) (defScope s_is_number) .none kV2 dc2 pm2 an2 cd2 ct2),sl2⟩) (c2:PySem.W.codeIn K cd2 "is_number" = true) (k2:PySem.W.keepIn K (.ref f2)=true)
    (a3:PySem.W.nsIn K mainGlobals "all_settings" = some (some (.ref f3))) (l3:K.lookup f3=some ⟨oc3,od3,.func (PySem.W.fnOf "all_settings" "all_settings" (defArgs s_all_settings) (defBody s_all_settings) (defScope s_all_settings) .none kV3 dc3 pm3 an3 cd3 ct3),sl3⟩) (c3:PySem.W.codeIn K cd3 "all_settings" = true) (k3:PySem.W.keepIn K (.ref f3)=true)
    (a4:PySem.W.nsIn K mainGlobals "holds_at" = some (some (.ref f4))) (l4:K.lookup f4=some ⟨oc4,od4,.func (PySem.W.fnOf "holds_at" "holds_at" (defArgs s_holds_at) (defBody s_holds_at) (defScope s_holds_at) .none kV4 dc4 pm4 an4 cd4 ct4),sl4⟩) (c4:PySem.W.codeIn K cd4 "holds_at" = true) (k4:PySem.W.keepIn K (.ref f4)=true)
    (a5:PySem.W.nsIn K mainGlobals "joined" = some (some (.ref f5))) (l5:K.lookup f5=some ⟨oc5,od5,.func (PySem.W.fnOf "joined" "joined" (defArgs s_joined) (defBody s_joined) (defScope s_joined) .none kV5 dc5 pm5 an5 cd5 ct5),sl5⟩) (c5:PySem.W.codeIn K cd5 "joined" = true) (k5:PySem.W.keepIn K (.ref f5)=true)
    (a6:PySem.W.nsIn K mainGlobals "count_of" = some (some (.ref f6))) (l6:K.lookup f6=some ⟨oc6,od6,.func (PySem.W.fnOf "count_of" "count_of" (defArgs s_count_of) (defBody s_count_of) (defScope s_count_of) .none kV6 dc6 pm6 an6 cd6 ct6),sl6⟩) (c6:PySem.W.codeIn K cd6 "count_of" = true) (k6:PySem.W.keepIn K (.ref f6)=true)
    (a7:PySem.W.nsIn K mainGlobals "trees_within" = some (some (.ref f7))) (l7:K.lookup f7=some ⟨oc7,od7,.func (PySem.W.fnOf "trees_within" "trees_within" (defArgs s_trees_within) (defBody s_trees_within) (defScope s_trees_within) .none kV7 dc7 pm7 an7 cd7 ct7),sl7⟩) (c7:PySem.W.codeIn K cd7 "trees_within" = true) (k7:PySem.W.keepIn K (.ref f7)=true)
    (a8:PySem.W.nsIn K mainGlobals "names_in" = some (some (.ref f8))) (l8:K.lookup f8=some ⟨oc8,od8,.func (PySem.W.fnOf "names_in" "names_in" (defArgs s_names_in) (defBody s_names_in) (defScope s_names_in) .none kV8 dc8 pm8 an8 cd8 ct8),sl8⟩) (c8:PySem.W.codeIn K cd8 "names_in" = true) (k8:PySem.W.keepIn K (.ref f8)=true)
    (a9:PySem.W.nsIn K mainGlobals "degree_of" = some (some (.ref f9))) (l9:K.lookup f9=some ⟨oc9,od9,.func (PySem.W.fnOf "degree_of" "degree_of" (defArgs s_degree_of) (defBody s_degree_of) (defScope s_degree_of) .none kV9 dc9 pm9 an9 cd9 ct9),sl9⟩) (c9:PySem.W.codeIn K cd9 "degree_of" = true) (k9:PySem.W.keepIn K (.ref f9)=true)
    (a10:PySem.W.nsIn K mainGlobals "look_switches" = some (some (.ref f10))) (l10:K.lookup f10=some ⟨oc10,od10,.func (PySem.W.fnOf "look_switches" "look_switches" (defArgs s_look_switches) (defBody s_look_switches) (defScope s_look_switches) .none kV10 dc10 pm10 an10 cd10 ct10),sl10⟩) (c10:PySem.W.codeIn K cd10 "look_switches" = true) (k10:PySem.W.keepIn K (.ref f10)=true)
    (a11:PySem.W.nsIn K mainGlobals "look_names" = some (some (.ref f11))) (l11:K.lookup f11=some ⟨oc11,od11,.func (PySem.W.fnOf "look_names" "look_names" (defArgs s_look_names) (defBody s_look_names) (defScope s_look_names) .none kV11 dc11 pm11 an11 cd11 ct11),sl11⟩) (c11:PySem.W.codeIn K cd11 "look_names" = true) (k11:PySem.W.keepIn K (.ref f11)=true)
    (a12:PySem.W.nsIn K mainGlobals "look_field" = some (some (.ref f12))) (l12:K.lookup f12=some ⟨oc12,od12,.func (PySem.W.fnOf "look_field" "look_field" (defArgs s_look_field) (defBody s_look_field) (defScope s_look_field) .none kV12 dc12 pm12 an12 cd12 ct12),sl12⟩) (c12:PySem.W.codeIn K cd12 "look_field" = true) (k12:PySem.W.keepIn K (.ref f12)=true)
    (a13:PySem.W.nsIn K mainGlobals "look_size" = some (some (.ref f13))) (l13:K.lookup f13=some ⟨oc13,od13,.func (PySem.W.fnOf "look_size" "look_size" (defArgs s_look_size) (defBody s_look_size) (defScope s_look_size) .none kV13 dc13 pm13 an13 cd13 ct13),sl13⟩) (c13:PySem.W.codeIn K cd13 "look_size" = true) (k13:PySem.W.keepIn K (.ref f13)=true)
    (a14:PySem.W.nsIn K mainGlobals "is_name" = some (some (.ref f14))) (l14:K.lookup f14=some ⟨oc14,od14,.func (PySem.W.fnOf "is_name" "is_name" (defArgs s_is_name) (defBody s_is_name) (defScope s_is_name) .none kV14 dc14 pm14 an14 cd14 ct14),sl14⟩) (c14:PySem.W.codeIn K cd14 "is_name" = true) (k14:PySem.W.keepIn K (.ref f14)=true)
    (a15:PySem.W.nsIn K mainGlobals "is_figures" = some (some (.ref f15))) (l15:K.lookup f15=some ⟨oc15,od15,.func (PySem.W.fnOf "is_figures" "is_figures" (defArgs s_is_figures) (defBody s_is_figures) (defScope s_is_figures) .none kV15 dc15 pm15 an15 cd15 ct15),sl15⟩) (c15:PySem.W.codeIn K cd15 "is_figures" = true) (k15:PySem.W.keepIn K (.ref f15)=true)
    (a16:PySem.W.nsIn K mainGlobals "power" = some (some (.ref f16))) (l16:K.lookup f16=some ⟨oc16,od16,.func (PySem.W.fnOf "power" "power" (defArgs s_power) (defBody s_power) (defScope s_power) .none kV16 dc16 pm16 an16 cd16 ct16),sl16⟩) (c16:PySem.W.codeIn K cd16 "power" = true) (k16:PySem.W.keepIn K (.ref f16)=true)
    (a17:PySem.W.nsIn K mainGlobals "rows_of_coins" = some (some (.ref f17))) (l17:K.lookup f17=some ⟨oc17,od17,.func (PySem.W.fnOf "rows_of_coins" "rows_of_coins" (defArgs s_rows_of_coins) (defBody s_rows_of_coins) (defScope s_rows_of_coins) .none kV17 dc17 pm17 an17 cd17 ct17),sl17⟩) (c17:PySem.W.codeIn K cd17 "rows_of_coins" = true) (k17:PySem.W.keepIn K (.ref f17)=true)
    (a18:PySem.W.nsIn K mainGlobals "counts_of" = some (some (.ref f18))) (l18:K.lookup f18=some ⟨oc18,od18,.func (PySem.W.fnOf "counts_of" "counts_of" (defArgs s_counts_of) (defBody s_counts_of) (defScope s_counts_of) .none kV18 dc18 pm18 an18 cd18 ct18),sl18⟩) (c18:PySem.W.codeIn K cd18 "counts_of" = true) (k18:PySem.W.keepIn K (.ref f18)=true)
    (a19:PySem.W.nsIn K mainGlobals "differences" = some (some (.ref f19))) (l19:K.lookup f19=some ⟨oc19,od19,.func (PySem.W.fnOf "differences" "differences" (defArgs s_differences) (defBody s_differences) (defScope s_differences) .none kV19 dc19 pm19 an19 cd19 ct19),sl19⟩) (c19:PySem.W.codeIn K cd19 "differences" = true) (k19:PySem.W.keepIn K (.ref f19)=true)
    (a20:PySem.W.nsIn K mainGlobals "are_wrong" = some (some (.ref f20))) (l20:K.lookup f20=some ⟨oc20,od20,.func (PySem.W.fnOf "are_wrong" "are_wrong" (defArgs s_are_wrong) (defBody s_are_wrong) (defScope s_are_wrong) .none kV20 dc20 pm20 an20 cd20 ct20),sl20⟩) (c20:PySem.W.codeIn K cd20 "are_wrong" = true) (k20:PySem.W.keepIn K (.ref f20)=true)
    (a21:PySem.W.nsIn K mainGlobals "blind_spots" = some (some (.ref f21))) (l21:K.lookup f21=some ⟨oc21,od21,.func (PySem.W.fnOf "blind_spots" "blind_spots" (defArgs s_blind_spots) (defBody s_blind_spots) (defScope s_blind_spots) .none kV21 dc21 pm21 an21 cd21 ct21),sl21⟩) (c21:PySem.W.codeIn K cd21 "blind_spots" = true) (k21:PySem.W.keepIn K (.ref f21)=true)
    (a22:PySem.W.nsIn K mainGlobals "let_by_at_most" = some (some (.ref f22))) (l22:K.lookup f22=some ⟨oc22,od22,.func (PySem.W.fnOf "let_by_at_most" "let_by_at_most" (defArgs s_let_by_at_most) (defBody s_let_by_at_most) (defScope s_let_by_at_most) .none kV22 dc22 pm22 an22 cd22 ct22),sl22⟩) (c22:PySem.W.codeIn K cd22 "let_by_at_most" = true) (k22:PySem.W.keepIn K (.ref f22)=true)
    (a23:PySem.W.nsIn K mainGlobals "caught_rows" = some (some (.ref f23))) (l23:K.lookup f23=some ⟨oc23,od23,.func (PySem.W.fnOf "caught_rows" "caught_rows" (defArgs s_caught_rows) (defBody s_caught_rows) (defScope s_caught_rows) .none kV23 dc23 pm23 an23 cd23 ct23),sl23⟩) (c23:PySem.W.codeIn K cd23 "caught_rows" = true) (k23:PySem.W.keepIn K (.ref f23)=true)
    (a24:PySem.W.nsIn K mainGlobals "read_game" = some (some (.ref f24))) (l24:K.lookup f24=some ⟨oc24,od24,.func (PySem.W.fnOf "read_game" "read_game" (defArgs s_read_game) (defBody s_read_game) (defScope s_read_game) .none kV24 dc24 pm24 an24 cd24 ct24),sl24⟩) (c24:PySem.W.codeIn K cd24 "read_game" = true) (k24:PySem.W.keepIn K (.ref f24)=true)
    (a25:PySem.W.nsIn K mainGlobals "row_or_end" = some (some (.ref f25))) (l25:K.lookup f25=some ⟨oc25,od25,.func (PySem.W.fnOf "row_or_end" "row_or_end" (defArgs s_row_or_end) (defBody s_row_or_end) (defScope s_row_or_end) .none kV25 dc25 pm25 an25 cd25 ct25),sl25⟩) (c25:PySem.W.codeIn K cd25 "row_or_end" = true) (k25:PySem.W.keepIn K (.ref f25)=true)
    (a26:PySem.W.nsIn K mainGlobals "field_in_row" = some (some (.ref f26))) (l26:K.lookup f26=some ⟨oc26,od26,.func (PySem.W.fnOf "field_in_row" "field_in_row" (defArgs s_field_in_row) (defBody s_field_in_row) (defScope s_field_in_row) .none kV26 dc26 pm26 an26 cd26 ct26),sl26⟩) (c26:PySem.W.codeIn K cd26 "field_in_row" = true) (k26:PySem.W.keepIn K (.ref f26)=true)
    (a27:PySem.W.nsIn K mainGlobals "switches_in_row" = some (some (.ref f27))) (l27:K.lookup f27=some ⟨oc27,od27,.func (PySem.W.fnOf "switches_in_row" "switches_in_row" (defArgs s_switches_in_row) (defBody s_switches_in_row) (defScope s_switches_in_row) .none kV27 dc27 pm27 an27 cd27 ct27),sl27⟩) (c27:PySem.W.codeIn K cd27 "switches_in_row" = true) (k27:PySem.W.keepIn K (.ref f27)=true)
    (a28:PySem.W.nsIn K mainGlobals "trees_in_rows" = some (some (.ref f28))) (l28:K.lookup f28=some ⟨oc28,od28,.func (PySem.W.fnOf "trees_in_rows" "trees_in_rows" (defArgs s_trees_in_rows) (defBody s_trees_in_rows) (defScope s_trees_in_rows) .none kV28 dc28 pm28 an28 cd28 ct28),sl28⟩) (c28:PySem.W.codeIn K cd28 "trees_in_rows" = true) (k28:PySem.W.keepIn K (.ref f28)=true)
    (a29:PySem.W.nsIn K mainGlobals "tree_in_row" = some (some (.ref f29))) (l29:K.lookup f29=some ⟨oc29,od29,.func (PySem.W.fnOf "tree_in_row" "tree_in_row" (defArgs s_tree_in_row) (defBody s_tree_in_row) (defScope s_tree_in_row) .none kV29 dc29 pm29 an29 cd29 ct29),sl29⟩) (c29:PySem.W.codeIn K cd29 "tree_in_row" = true) (k29:PySem.W.keepIn K (.ref f29)=true)
    (a30:PySem.W.nsIn K mainGlobals "next_tree" = some (some (.ref f30))) (l30:K.lookup f30=some ⟨oc30,od30,.func (PySem.W.fnOf "next_tree" "next_tree" (defArgs s_next_tree) (defBody s_next_tree) (defScope s_next_tree) .none kV30 dc30 pm30 an30 cd30 ct30),sl30⟩) (c30:PySem.W.codeIn K cd30 "next_tree" = true) (k30:PySem.W.keepIn K (.ref f30)=true)
    (a31:PySem.W.nsIn K mainGlobals "joined_tree" = some (some (.ref f31))) (l31:K.lookup f31=some ⟨oc31,od31,.func (PySem.W.fnOf "joined_tree" "joined_tree" (defArgs s_joined_tree) (defBody s_joined_tree) (defScope s_joined_tree) .none kV31 dc31 pm31 an31 cd31 ct31),sl31⟩) (c31:PySem.W.codeIn K cd31 "joined_tree" = true) (k31:PySem.W.keepIn K (.ref f31)=true)
    (a32:PySem.W.nsIn K mainGlobals "counted" = some (some (.ref f32))) (l32:K.lookup f32=some ⟨oc32,od32,.func (PySem.W.fnOf "counted" "counted" (defArgs s_counted) (defBody s_counted) (defScope s_counted) .none kV32 dc32 pm32 an32 cd32 ct32),sl32⟩) (c32:PySem.W.codeIn K cd32 "counted" = true) (k32:PySem.W.keepIn K (.ref f32)=true)
    (a33:PySem.W.nsIn K mainGlobals "most_of" = some (some (.ref f33))) (l33:K.lookup f33=some ⟨oc33,od33,.func (PySem.W.fnOf "most_of" "most_of" (defArgs s_most_of) (defBody s_most_of) (defScope s_most_of) .none kV33 dc33 pm33 an33 cd33 ct33),sl33⟩) (c33:PySem.W.codeIn K cd33 "most_of" = true) (k33:PySem.W.keepIn K (.ref f33)=true)
    (a34:PySem.W.nsIn K mainGlobals "game_in" = some (some (.ref f34))) (l34:K.lookup f34=some ⟨oc34,od34,.func (PySem.W.fnOf "game_in" "game_in" (defArgs s_game_in) (defBody s_game_in) (defScope s_game_in) .none kV34 dc34 pm34 an34 cd34 ct34),sl34⟩) (c34:PySem.W.codeIn K cd34 "game_in" = true) (k34:PySem.W.keepIn K (.ref f34)=true)
    (a35:PySem.W.nsIn K mainGlobals "numbers_in" = some (some (.ref f35))) (l35:K.lookup f35=some ⟨oc35,od35,.func (PySem.W.fnOf "numbers_in" "numbers_in" (defArgs s_numbers_in) (defBody s_numbers_in) (defScope s_numbers_in) .none kV35 dc35 pm35 an35 cd35 ct35),sl35⟩) (c35:PySem.W.codeIn K cd35 "numbers_in" = true) (k35:PySem.W.keepIn K (.ref f35)=true)
    (a36:PySem.W.nsIn K mainGlobals "words_text" = some (some (.ref f36))) (l36:K.lookup f36=some ⟨oc36,od36,.func (PySem.W.fnOf "words_text" "words_text" (defArgs s_words_text) (defBody s_words_text) (defScope s_words_text) .none kV36 dc36 pm36 an36 cd36 ct36),sl36⟩) (c36:PySem.W.codeIn K cd36 "words_text" = true) (k36:PySem.W.keepIn K (.ref f36)=true)
    (a37:PySem.W.nsIn K mainGlobals "tree_text" = some (some (.ref f37))) (l37:K.lookup f37=some ⟨oc37,od37,.func (PySem.W.fnOf "tree_text" "tree_text" (defArgs s_tree_text) (defBody s_tree_text) (defScope s_tree_text) .none kV37 dc37 pm37 an37 cd37 ct37),sl37⟩) (c37:PySem.W.codeIn K cd37 "tree_text" = true) (k37:PySem.W.keepIn K (.ref f37)=true)
    (a38:PySem.W.nsIn K mainGlobals "game_text" = some (some (.ref f38))) (l38:K.lookup f38=some ⟨oc38,od38,.func (PySem.W.fnOf "game_text" "game_text" (defArgs s_game_text) (defBody s_game_text) (defScope s_game_text) .none kV38 dc38 pm38 an38 cd38 ct38),sl38⟩) (c38:PySem.W.codeIn K cd38 "game_text" = true) (k38:PySem.W.keepIn K (.ref f38)=true)
    (a39:PySem.W.nsIn K mainGlobals "_law_feed" = some (some (.ref f39))) (l39:K.lookup f39=some ⟨oc39,od39,.func (PySem.W.fnOf "_law_feed" "_law_feed" (defArgs s_l_feed) (defBody s_l_feed) (defScope s_l_feed) .none kV39 dc39 pm39 an39 cd39 ct39),sl39⟩) (c39:PySem.W.codeIn K cd39 "_law_feed" = true) (k39:PySem.W.keepIn K (.ref f39)=true)
    (a40:PySem.W.nsIn K mainGlobals "_law_take" = some (some (.ref f40))) (l40:K.lookup f40=some ⟨oc40,od40,.func (PySem.W.fnOf "_law_take" "_law_take" (defArgs s_l_take) (defBody s_l_take) (defScope s_l_take) .none kV40 dc40 pm40 an40 cd40 ct40),sl40⟩) (c40:PySem.W.codeIn K cd40 "_law_take" = true) (k40:PySem.W.keepIn K (.ref f40)=true)
    (a41:PySem.W.nsIn K mainGlobals "_law_names" = some (some (.ref f41))) (l41:K.lookup f41=some ⟨oc41,od41,.func (PySem.W.fnOf "_law_names" "_law_names" (defArgs s_l_names) (defBody s_l_names) (defScope s_l_names) .none kV41 dc41 pm41 an41 cd41 ct41),sl41⟩) (c41:PySem.W.codeIn K cd41 "_law_names" = true) (k41:PySem.W.keepIn K (.ref f41)=true)
    (a42:PySem.W.nsIn K mainGlobals "_law_tree" = some (some (.ref f42))) (l42:K.lookup f42=some ⟨oc42,od42,.func (PySem.W.fnOf "_law_tree" "_law_tree" (defArgs s_l_tree) (defBody s_l_tree) (defScope s_l_tree) .none kV42 dc42 pm42 an42 cd42 ct42),sl42⟩) (c42:PySem.W.codeIn K cd42 "_law_tree" = true) (k42:PySem.W.keepIn K (.ref f42)=true)
    (a43:PySem.W.nsIn K mainGlobals "_law_names_of" = some (some (.ref f43))) (l43:K.lookup f43=some ⟨oc43,od43,.func (PySem.W.fnOf "_law_names_of" "_law_names_of" (defArgs s_l_names_of) (defBody s_l_names_of) (defScope s_l_names_of) .none kV43 dc43 pm43 an43 cd43 ct43),sl43⟩) (c43:PySem.W.codeIn K cd43 "_law_names_of" = true) (k43:PySem.W.keepIn K (.ref f43)=true)
    (a44:PySem.W.nsIn K mainGlobals "_law_need" = some (some (.ref f44))) (l44:K.lookup f44=some ⟨oc44,od44,.func (PySem.W.fnOf "_law_need" "_law_need" (defArgs s_l_need) (defBody s_l_need) (defScope s_l_need) .none kV44 dc44 pm44 an44 cd44 ct44),sl44⟩) (c44:PySem.W.codeIn K cd44 "_law_need" = true) (k44:PySem.W.keepIn K (.ref f44)=true)
    (a45:PySem.W.nsIn K mainGlobals "_law_is_prime" = some (some (.ref f45))) (l45:K.lookup f45=some ⟨oc45,od45,.func (PySem.W.fnOf "_law_is_prime" "_law_is_prime" (defArgs s_l_is_prime) (defBody s_l_is_prime) (defScope s_l_is_prime) .none kV45 dc45 pm45 an45 cd45 ct45),sl45⟩) (c45:PySem.W.codeIn K cd45 "_law_is_prime" = true) (k45:PySem.W.keepIn K (.ref f45)=true)
    (a46:PySem.W.nsIn K mainGlobals "_law_field" = some (some (.ref f46))) (l46:K.lookup f46=some ⟨oc46,od46,.func (PySem.W.fnOf "_law_field" "_law_field" (defArgs s_l_field) (defBody s_l_field) (defScope s_l_field) .none kV46 dc46 pm46 an46 cd46 ct46),sl46⟩) (c46:PySem.W.codeIn K cd46 "_law_field" = true) (k46:PySem.W.keepIn K (.ref f46)=true)
    (a47:PySem.W.nsIn K mainGlobals "_law_game" = some (some (.ref f47))) (l47:K.lookup f47=some ⟨oc47,od47,.func (PySem.W.fnOf "_law_game" "_law_game" (defArgs s_l_game) (defBody s_l_game) (defScope s_l_game) .none kV47 dc47 pm47 an47 cd47 ct47),sl47⟩) (c47:PySem.W.codeIn K cd47 "_law_game" = true) (k47:PySem.W.keepIn K (.ref f47)=true)
    (a48:PySem.W.nsIn K mainGlobals "_law_claims" = some (some (.ref f48))) (l48:K.lookup f48=some ⟨oc48,od48,.func (PySem.W.fnOf "_law_claims" "_law_claims" (defArgs s_l_claims) (defBody s_l_claims) (defScope s_l_claims) .none kV48 dc48 pm48 an48 cd48 ct48),sl48⟩) (c48:PySem.W.codeIn K cd48 "_law_claims" = true) (k48:PySem.W.keepIn K (.ref f48)=true)
    (a49:PySem.W.nsIn K mainGlobals "_law_right" = some (some (.ref f49))) (l49:K.lookup f49=some ⟨oc49,od49,.func (PySem.W.fnOf "_law_right" "_law_right" (defArgs s_l_right) (defBody s_l_right) (defScope s_l_right) .none kV49 dc49 pm49 an49 cd49 ct49),sl49⟩) (c49:PySem.W.codeIn K cd49 "_law_right" = true) (k49:PySem.W.keepIn K (.ref f49)=true)
    (a50:PySem.W.nsIn K mainGlobals "law" = some (some (.ref f50))) (l50:K.lookup f50=some ⟨oc50,od50,.func (PySem.W.fnOf "law" "law" (defArgs s_law) (defBody s_law) (defScope s_law) .none kV50 dc50 pm50 an50 cd50 ct50),sl50⟩) (c50:PySem.W.codeIn K cd50 "law" = true) (k50:PySem.W.keepIn K (.ref f50)=true)
    {Cq gIq gMq gCq:Addr} {odIq anIq odMq anMq odCq anCq:Option Addr} {slIq slMq slCq:Array (Option Value)} {ocIq kVIq dcIq pmIq cdIq ctIq ocMq kVMq dcMq pmMq cdMq ctMq ocCq kVCq dcCq pmCq cdCq ctCq:Value} {teq:Tok} {C gI gE gS gT gW gF:Addr} {odI anI odE anE odS anS odT anT odW anW odF anF:Option Addr} {slI slE slS slT slW slF:Array (Option Value)} {ocI kVI dcI pmI cdI ctI ocE kVE dcE pmE cdE ctE ocS kVS dcS pmS cdS ctS ocT kVT dcT pmT cdT ctT ocW kVW dcW pmW cdW ctW ocF kVF dcF pmF cdF ctF:Value} {t1 t3 t4 t5 t6 u1 u2 u3 u4 u5 u6 u7:Tok} {ka ja:Addr} {kd jd:Option Addr} {kits jits:Array Value} {kn jn:Nat} {ksl jsl:Array (Option Value)}
    (ggq:PySem.W.nsIn K mainGlobals "Game" = some (some (.ref Cq)))
    (aIq:PySem.W.findIn K (.ref Cq) "__init__" = some (some (.ref gIq)))
    (iIq:PySem.W.isFn K (.ref gIq)=true)
    (lIq:K.lookup gIq=some ⟨ocIq,odIq,.func (PySem.W.fnOf "__init__" "Game.__init__" (defArgs s_ginit) (defBody s_ginit) (defScope s_ginit) .none kVIq dcIq pmIq anIq cdIq ctIq),slIq⟩)
    (cIq:PySem.W.codeIn K cdIq "Game.__init__" = true)
    (kIq:PySem.W.keepIn K (.ref gIq)=true)
    (aMq:PySem.W.findIn K (.ref Cq) "mix" = some (some (.ref gMq)))
    (iMq:PySem.W.isFn K (.ref gMq)=true)
    (lMq:K.lookup gMq=some ⟨ocMq,odMq,.func (PySem.W.fnOf "mix" "Game.mix" (defArgs s_gmix) (defBody s_gmix) (defScope s_gmix) .none kVMq dcMq pmMq anMq cdMq ctMq),slMq⟩)
    (cMq:PySem.W.codeIn K cdMq "Game.mix" = true)
    (kMq:PySem.W.keepIn K (.ref gMq)=true)
    (aCq:PySem.W.findIn K (.ref Cq) "coins" = some (some (.ref gCq)))
    (iCq:PySem.W.isFn K (.ref gCq)=true)
    (lCq:K.lookup gCq=some ⟨ocCq,odCq,.func (PySem.W.fnOf "coins" "Game.coins" (defArgs s_gcoins) (defBody s_gcoins) (defScope s_gcoins) .none kVCq dcCq pmCq anCq cdCq ctCq),slCq⟩)
    (cCq:PySem.W.codeIn K cdCq "Game.coins" = true)
    (kCq:PySem.W.keepIn K (.ref gCq)=true)
    (pgq:PySem.W.plainGet K Cq Str.empty=true)
    (hdiq:PySem.W.hasDictIn K Cq=true)
    (povq:PySem.W.plainOver K Cq=true)
    (satq:PySem.W.findIn K (.ref Cq) "__setattr__" = some (some (.builtin "object.__setattr__")))
    (mkiq:PySem.W.makesIn K Cq=true)
    (kclq:PySem.W.keepIn K (.ref Cq)=true)
    (nSq:PySem.W.findIn K (.ref Cq) "switches" = some none)
    (nTq:PySem.W.findIn K (.ref Cq) "trees" = some none)
    (nFq:PySem.W.findIn K (.ref Cq) "field" = some none)
    (nDq:PySem.W.findIn K (.ref Cq) "degrees" = some none)
    (geq:PySem.W.nsIn K mainGlobals "FIELDS_END" = some (some (.int 1000000 teq)))
    (gg:PySem.W.nsIn K mainGlobals "Scan" = some (some (.ref C)))
    (aI:PySem.W.findIn K (.ref C) "__init__" = some (some (.ref gI)))
    (iI:PySem.W.isFn K (.ref gI)=true)
    (lI:K.lookup gI=some ⟨ocI,odI,.func (PySem.W.fnOf "__init__" "Scan.__init__" (defArgs s_sinit) (defBody s_sinit) (defScope s_sinit) .none kVI dcI pmI anI cdI ctI),slI⟩)
    (cI:PySem.W.codeIn K cdI "Scan.__init__" = true)
    (kI:PySem.W.keepIn K (.ref gI)=true)
    (aE:PySem.W.findIn K (.ref C) "enter" = some (some (.ref gE)))
    (iE:PySem.W.isFn K (.ref gE)=true)
    (lE:K.lookup gE=some ⟨ocE,odE,.func (PySem.W.fnOf "enter" "Scan.enter" (defArgs s_senter) (defBody s_senter) (defScope s_senter) .none kVE dcE pmE anE cdE ctE),slE⟩)
    (cE:PySem.W.codeIn K cdE "Scan.enter" = true)
    (kE:PySem.W.keepIn K (.ref gE)=true)
    (aS:PySem.W.findIn K (.ref C) "sees" = some (some (.ref gS)))
    (iS:PySem.W.isFn K (.ref gS)=true)
    (lS:K.lookup gS=some ⟨ocS,odS,.func (PySem.W.fnOf "sees" "Scan.sees" (defArgs s_ssees) (defBody s_ssees) (defScope s_ssees) .none kVS dcS pmS anS cdS ctS),slS⟩)
    (cS:PySem.W.codeIn K cdS "Scan.sees" = true)
    (kS:PySem.W.keepIn K (.ref gS)=true)
    (aT:PySem.W.findIn K (.ref C) "take" = some (some (.ref gT)))
    (iT:PySem.W.isFn K (.ref gT)=true)
    (lT:K.lookup gT=some ⟨ocT,odT,.func (PySem.W.fnOf "take" "Scan.take" (defArgs s_stake) (defBody s_stake) (defScope s_stake) .none kVT dcT pmT anT cdT ctT),slT⟩)
    (cT:PySem.W.codeIn K cdT "Scan.take" = true)
    (kT:PySem.W.keepIn K (.ref gT)=true)
    (aW:PySem.W.findIn K (.ref C) "word" = some (some (.ref gW)))
    (iW:PySem.W.isFn K (.ref gW)=true)
    (lW:K.lookup gW=some ⟨ocW,odW,.func (PySem.W.fnOf "word" "Scan.word" (defArgs s_sword) (defBody s_sword) (defScope s_sword) .none kVW dcW pmW anW cdW ctW),slW⟩)
    (cW:PySem.W.codeIn K cdW "Scan.word" = true)
    (kW:PySem.W.keepIn K (.ref gW)=true)
    (aF:PySem.W.findIn K (.ref C) "finish" = some (some (.ref gF)))
    (iF:PySem.W.isFn K (.ref gF)=true)
    (lF:K.lookup gF=some ⟨ocF,odF,.func (PySem.W.fnOf "finish" "Scan.finish" (defArgs s_sfinish) (defBody s_sfinish) (defScope s_sfinish) .none kVF dcF pmF anF cdF ctF),slF⟩)
    (cF:PySem.W.codeIn K cdF "Scan.finish" = true)
    (kF:PySem.W.keepIn K (.ref gF)=true)
    (pg:PySem.W.plainGet K C Str.empty=true)
    (hdi:PySem.W.hasDictIn K C=true)
    (pov:PySem.W.plainOver K C=true)
    (sat:PySem.W.findIn K (.ref C) "__setattr__" = some (some (.builtin "object.__setattr__")))
    (mki:PySem.W.makesIn K C=true)
    (kcl:PySem.W.keepIn K (.ref C)=true)
    (nX:PySem.W.findIn K (.ref C) "text" = some none)
    (nR:PySem.W.findIn K (.ref C) "row" = some none)
    (nW:PySem.W.findIn K (.ref C) "most_within" = some none)
    (nP:PySem.W.findIn K (.ref C) "most_parts" = some none)
    (nL:PySem.W.findIn K (.ref C) "place" = some none)
    (nN:PySem.W.findIn K (.ref C) "parts" = some none)
    (g1:PySem.W.nsIn K mainGlobals "LETTERS" = some (some (.str LET t1)))
    (g3:PySem.W.nsIn K mainGlobals "LONGEST_NAME" = some (some (.int 6 t3)))
    (g5:PySem.W.nsIn K mainGlobals "KEPT_WORDS" = some (some (.ref ka)))
    (g6:K.lookup ka=some ⟨.type "tuple", kd,.seq kits kn,ksl⟩)
    (g7:kits.size≤100)
    (g8:Vals (kept.map V.str) kits.toList)
    (e1:PySem.W.nsIn K mainGlobals "WORD_ENDS" = some (some (.str ENDS t4)))
    (e2:PySem.W.nsIn K mainGlobals "MOST_WITHIN" = some (some (.int 10 t5)))
    (e3:PySem.W.nsIn K mainGlobals "MOST_PARTS" = some (some (.int 30 t6)))
    (w1:PySem.W.nsIn K mainGlobals "FIGURES" = some (some (.str FIG u1)))
    (w2:PySem.W.nsIn K mainGlobals "MOST_FIGURES" = some (some (.int 12 u2)))
    (w3:PySem.W.nsIn K mainGlobals "MOST_SWITCHES" = some (some (.int 6 u3)))
    (w4:PySem.W.nsIn K mainGlobals "MOST_TREES" = some (some (.int 4 u4)))
    (w5:PySem.W.nsIn K mainGlobals "FIELD_HEAD" = some (some (.str "field " u5)))
    (w6:PySem.W.nsIn K mainGlobals "TREE_HEAD" = some (some (.str "holds " u6)))
    (w7:PySem.W.nsIn K mainGlobals "FIRST_TREE_ROW" = some (some (.int 2 u7)))
    (e5:PySem.W.nsIn K mainGlobals "JOINING_WORDS" = some (some (.ref ja)))
    (e6:K.lookup ja=some ⟨.type "tuple", jd,.seq jits jn,jsl⟩)
    (e7:jits.size≤100)
    (e8:Vals (joinW.map V.str) jits.toList)
    (z0:PySem.W.nsIn K mainGlobals "len" = some none) (z1:PySem.W.nsIn K mainGlobals "range" = some none) (z2:PySem.W.nsIn K mainGlobals "isinstance" = some none) (z3:PySem.W.nsIn K mainGlobals "bool" = some none) (z4:PySem.W.nsIn K mainGlobals "list" = some none) (z5:PySem.W.nsIn K mainGlobals "tuple" = some none) (z6:PySem.W.nsIn K mainGlobals "max" = some none) (z7:PySem.W.nsIn K mainGlobals "min" = some none) (z8:PySem.W.nsIn K mainGlobals "reversed" = some none) (z9:PySem.W.nsIn K mainGlobals "enumerate" = some none) (z10:PySem.W.nsIn K mainGlobals "zip" = some none) (z11:PySem.W.nsIn K mainGlobals "any" = some none) (z12:PySem.W.nsIn K mainGlobals "int" = some none) (z13:PySem.W.nsIn K mainGlobals "str" = some none) (z14:PySem.W.nsIn K mainGlobals "all" = some none) :
    ∃ fd:FuncData,(∀ (s:Shared) (v:Value),BindsTo s fd ⟨[v],[]⟩ [("_law_script", v)])∧∀ base:Heap,K.In base→base.Ns mainGlobals mg→FnOk l.prog w K mg base CX0 30 fa fd ["_law_script"] (spLaw K):=by
  have e:=hfa.symm.trans (PySem.W.mg_of X G a50)
  cases e
  have F__wall:=fun_mk (st:=s__wall) l0 c0 k0
  have m__wall:=PySem.W.mg_of X G a0
  have F_is_field:=fun_mk (st:=s_is_field) l1 c1 k1
  have m_is_field:=PySem.W.mg_of X G a1
  have F_is_number:=fun_mk (st:=s_is_number) l2 c2 k2
  have m_is_number:=PySem.W.mg_of X G a2
  have F_all_settings:=fun_mk (st:=s_all_settings) l3 c3 k3
  have m_all_settings:=PySem.W.mg_of X G a3
  have F_holds_at:=fun_mk (st:=s_holds_at) l4 c4 k4
  have m_holds_at:=PySem.W.mg_of X G a4
  have F_joined:=fun_mk (st:=s_joined) l5 c5 k5
  have m_joined:=PySem.W.mg_of X G a5
  have F_count_of:=fun_mk (st:=s_count_of) l6 c6 k6
  have m_count_of:=PySem.W.mg_of X G a6
  have F_trees_within:=fun_mk (st:=s_trees_within) l7 c7 k7
  have m_trees_within:=PySem.W.mg_of X G a7
  have F_names_in:=fun_mk (st:=s_names_in) l8 c8 k8
  have m_names_in:=PySem.W.mg_of X G a8
  have F_degree_of:=fun_mk (st:=s_degree_of) l9 c9 k9
  have m_degree_of:=PySem.W.mg_of X G a9
  have F_look_switches:=fun_mk (st:=s_look_switches) l10 c10 k10
  have m_look_switches:=PySem.W.mg_of X G a10
  have F_look_names:=fun_mk (st:=s_look_names) l11 c11 k11
  have m_look_names:=PySem.W.mg_of X G a11
  have F_look_field:=fun_mk (st:=s_look_field) l12 c12 k12
  have m_look_field:=PySem.W.mg_of X G a12
  have F_look_size:=fun_mk (st:=s_look_size) l13 c13 k13
  have m_look_size:=PySem.W.mg_of X G a13
  have F_is_name:=fun_mk (st:=s_is_name) l14 c14 k14
  have m_is_name:=PySem.W.mg_of X G a14
  have F_is_figures:=fun_mk (st:=s_is_figures) l15 c15 k15
  have m_is_figures:=PySem.W.mg_of X G a15
  have F_power:=fun_mk (st:=s_power) l16 c16 k16
  have m_power:=PySem.W.mg_of X G a16
  have F_rows_of_coins:=fun_mk (st:=s_rows_of_coins) l17 c17 k17
  have m_rows_of_coins:=PySem.W.mg_of X G a17
  have F_counts_of:=fun_mk (st:=s_counts_of) l18 c18 k18
  have m_counts_of:=PySem.W.mg_of X G a18
  have F_differences:=fun_mk (st:=s_differences) l19 c19 k19
  have m_differences:=PySem.W.mg_of X G a19
  have F_are_wrong:=fun_mk (st:=s_are_wrong) l20 c20 k20
  have m_are_wrong:=PySem.W.mg_of X G a20
  have F_blind_spots:=fun_mk (st:=s_blind_spots) l21 c21 k21
  have m_blind_spots:=PySem.W.mg_of X G a21
  have F_let_by_at_most:=fun_mk (st:=s_let_by_at_most) l22 c22 k22
  have m_let_by_at_most:=PySem.W.mg_of X G a22
  have F_caught_rows:=fun_mk (st:=s_caught_rows) l23 c23 k23
  have m_caught_rows:=PySem.W.mg_of X G a23
  have F_read_game:=fun_mk (st:=s_read_game) l24 c24 k24
  have m_read_game:=PySem.W.mg_of X G a24
  have F_row_or_end:=fun_mk (st:=s_row_or_end) l25 c25 k25
  have m_row_or_end:=PySem.W.mg_of X G a25
  have F_field_in_row:=fun_mk (st:=s_field_in_row) l26 c26 k26
  have m_field_in_row:=PySem.W.mg_of X G a26
  have F_switches_in_row:=fun_mk (st:=s_switches_in_row) l27 c27 k27
  have m_switches_in_row:=PySem.W.mg_of X G a27
  have F_trees_in_rows:=fun_mk (st:=s_trees_in_rows) l28 c28 k28
  have m_trees_in_rows:=PySem.W.mg_of X G a28
  have F_tree_in_row:=fun_mk (st:=s_tree_in_row) l29 c29 k29
  have m_tree_in_row:=PySem.W.mg_of X G a29
  have F_next_tree:=fun_mk (st:=s_next_tree) l30 c30 k30
  have m_next_tree:=PySem.W.mg_of X G a30
  have F_joined_tree:=fun_mk (st:=s_joined_tree) l31 c31 k31
  have m_joined_tree:=PySem.W.mg_of X G a31
  have F_counted:=fun_mk (st:=s_counted) l32 c32 k32
  have m_counted:=PySem.W.mg_of X G a32
  have F_most_of:=fun_mk (st:=s_most_of) l33 c33 k33
  have m_most_of:=PySem.W.mg_of X G a33
  have F_game_in:=fun_mk (st:=s_game_in) l34 c34 k34
  have m_game_in:=PySem.W.mg_of X G a34
  have F_numbers_in:=fun_mk (st:=s_numbers_in) l35 c35 k35
  have m_numbers_in:=PySem.W.mg_of X G a35
  have F_words_text:=fun_mk (st:=s_words_text) l36 c36 k36
  have m_words_text:=PySem.W.mg_of X G a36
  have F_tree_text:=fun_mk (st:=s_tree_text) l37 c37 k37
  have m_tree_text:=PySem.W.mg_of X G a37
  have F_game_text:=fun_mk (st:=s_game_text) l38 c38 k38
  have m_game_text:=PySem.W.mg_of X G a38
  have F_l_feed:=fun_mk (st:=s_l_feed) l39 c39 k39
  have m_l_feed:=PySem.W.mg_of X G a39
  have F_l_take:=fun_mk (st:=s_l_take) l40 c40 k40
  have m_l_take:=PySem.W.mg_of X G a40
  have F_l_names:=fun_mk (st:=s_l_names) l41 c41 k41
  have m_l_names:=PySem.W.mg_of X G a41
  have F_l_tree:=fun_mk (st:=s_l_tree) l42 c42 k42
  have m_l_tree:=PySem.W.mg_of X G a42
  have F_l_names_of:=fun_mk (st:=s_l_names_of) l43 c43 k43
  have m_l_names_of:=PySem.W.mg_of X G a43
  have F_l_need:=fun_mk (st:=s_l_need) l44 c44 k44
  have m_l_need:=PySem.W.mg_of X G a44
  have F_l_is_prime:=fun_mk (st:=s_l_is_prime) l45 c45 k45
  have m_l_is_prime:=PySem.W.mg_of X G a45
  have F_l_field:=fun_mk (st:=s_l_field) l46 c46 k46
  have m_l_field:=PySem.W.mg_of X G a46
  have F_l_game:=fun_mk (st:=s_l_game) l47 c47 k47
  have m_l_game:=PySem.W.mg_of X G a47
  have F_l_claims:=fun_mk (st:=s_l_claims) l48 c48 k48
  have m_l_claims:=PySem.W.mg_of X G a48
  have F_l_right:=fun_mk (st:=s_l_right) l49 c49 k49
  have m_l_right:=PySem.W.mg_of X G a49
  have F_law:=fun_mk (st:=s_law) l50 c50 k50
  have B:Bl mg:=⟨PySem.W.mg_none_of X G z0,PySem.W.mg_none_of X G z1,PySem.W.mg_none_of X G z2,PySem.W.mg_none_of X G z3,PySem.W.mg_none_of X G z4,PySem.W.mg_none_of X G z5,PySem.W.mg_none_of X G z6,PySem.W.mg_none_of X G z7,PySem.W.mg_none_of X G z8,PySem.W.mg_none_of X G z9,PySem.W.mg_none_of X G z10,PySem.W.mg_none_of X G z11,PySem.W.mg_none_of X G z12,PySem.W.mg_none_of X G z13,PySem.W.mg_none_of X G z14⟩
  refine ⟨PySem.W.fnOf "law" "law" (defArgs s_law) (defBody s_law) (defScope s_law) .none kV50 dc50 pm50 an50 cd50 ct50,fun s v=>.of_eq rfl,fun base _ _=>?_⟩
  have T:STxt K mg C:=⟨⟨pg,hdi,pov,sat⟩,nX,nR,nW,nP,nL,nN,PySem.W.mg_of X G gg⟩
  have TX:Tx K mg:=⟨⟨t1,PySem.W.mg_of X G g1⟩,⟨t3,PySem.W.mg_of X G g3⟩,⟨ka,PySem.W.mg_of X G g5,fun _=>.inr ⟨_,kits,kn,g6,rfl,rfl,Nat.le_trans g7 (small (by decide)),g8⟩⟩,⟨t4,PySem.W.mg_of X G e1⟩,⟨t5,PySem.W.mg_of X G e2⟩,⟨t6,PySem.W.mg_of X G e3⟩,⟨u1,PySem.W.mg_of X G w1⟩,⟨u2,PySem.W.mg_of X G w2⟩,⟨u3,PySem.W.mg_of X G w3⟩,⟨u4,PySem.W.mg_of X G w4⟩,⟨u5,PySem.W.mg_of X G w5⟩,⟨u6,PySem.W.mg_of X G w6⟩,⟨u7,PySem.W.mg_of X G w7⟩,⟨ja,PySem.W.mg_of X G e5,fun _=>.inr ⟨_,jits,jn,e6,rfl,rfl,Nat.le_trans e7 (small (by decide)),e8⟩⟩⟩
  have F_gI:=fun_mk (st:=s_sinit) lI cI kI
  have b_gI:=F_gI.binds (ps:=["self", "text", "row", "most_within", "most_parts"]) fun _ _ _ _ _ _ us hl=>by obtain ⟨u0,u1,u2,u3,u4,rfl⟩:=len5 hl; rfl
  have F_gE:=fun_mk (st:=s_senter) lE cE kE
  have b_gE:=F_gE.binds (ps:=["self", "within"]) fun _ _ _ _ _ _ us hl=>by obtain ⟨u0,u1,rfl⟩:=len2 hl; rfl
  have F_gS:=fun_mk (st:=s_ssees) lS cS kS
  have b_gS:=F_gS.binds (ps:=["self", "signs"]) fun _ _ _ _ _ _ us hl=>by obtain ⟨u0,u1,rfl⟩:=len2 hl; rfl
  have F_gT:=fun_mk (st:=s_stake) lT cT kT
  have b_gT:=F_gT.binds (ps:=["self", "signs"]) fun _ _ _ _ _ _ us hl=>by obtain ⟨u0,u1,rfl⟩:=len2 hl; rfl
  have F_gW:=fun_mk (st:=s_sword) lW cW kW
  have b_gW:=F_gW.binds (ps:=["self"]) fun _ _ _ _ _ _ us hl=>by obtain ⟨u0,rfl⟩:=len1 hl; rfl
  have F_gF:=fun_mk (st:=s_sfinish) lF cF kF
  have b_gF:=F_gF.binds (ps:=["self"]) fun _ _ _ _ _ _ us hl=>by obtain ⟨u0,rfl⟩:=len1 hl; rfl
  have G_gI:=ok_sinit (P:=l.prog) (w:=w) (base:=base) F_gI T
  have G_gE:=ok_senter (P:=l.prog) (w:=w) (base:=base) F_gE T
  have G_gS:=ok_ssees (P:=l.prog) (w:=w) (base:=base) F_gS T
  have G_gT:=ok_stake (P:=l.prog) (w:=w) (base:=base) F_gT B T ⟨aS,iS,kS⟩ G_gS b_gS
  have G_gW:=ok_sword (P:=l.prog) (w:=w) (base:=base) F_gW B TX T
  have G_gF:=ok_sfinish (P:=l.prog) (w:=w) (base:=base) F_gF B T
  have M:Mths l.prog w K mg base C gE gS gT gW gF _ _ _ _ _:=⟨⟨aE,iE,kE⟩,G_gE,b_gE,⟨aS,iS,kS⟩,G_gS,b_gS,⟨aT,iT,kT⟩,G_gT,b_gT,⟨aW,iW,kW⟩,G_gW,b_gW,⟨aF,iF,kF⟩,G_gF,b_gF⟩
  have Tq:GTxt K mg Cq:=⟨⟨pgq,hdiq,povq,satq⟩,nSq,nTq,nFq,nDq,PySem.W.mg_of X G ggq⟩
  have F_gIq:=fun_mk (st:=s_ginit) lIq cIq kIq
  have b_gIq:=F_gIq.binds (ps:=["self", "switches", "trees", "field"]) fun _ _ _ _ _ _ us hl=>by obtain ⟨u0,u1,u2,u3,rfl⟩:=len4 hl; rfl
  have F_gMq:=fun_mk (st:=s_gmix) lMq cMq kMq
  have b_gMq:=F_gMq.binds (ps:=["self", "numbers", "s"]) fun _ _ _ _ _ _ us hl=>by obtain ⟨u0,u1,u2,rfl⟩:=len3 hl; rfl
  have F_gCq:=fun_mk (st:=s_gcoins) lCq cCq kCq
  have b_gCq:=F_gCq.binds (ps:=["self"]) fun _ _ _ _ _ _ us hl=>by obtain ⟨u0,rfl⟩:=len1 hl; rfl
  have C_l_feed:=Cal.of (P:=l.prog) (w:=w) (base:=base) F_l_feed (ok_l_feed F_l_feed B.len) m_l_feed (fun _ _ _ _ _ _ us hl=>by obtain ⟨u0,u1,rfl⟩:=len2 hl; rfl)
  have C_l_take:=Cal.of (P:=l.prog) (w:=w) (base:=base) F_l_take (ok_l_take F_l_take ) m_l_take (fun _ _ _ _ _ _ us hl=>by obtain ⟨u0,u1,rfl⟩:=len2 hl; rfl)
  have C_all_settings:=Cal.of (P:=l.prog) (w:=w) (base:=base) F_all_settings (ok_all_settings F_all_settings B.range) m_all_settings (fun _ _ _ _ _ _ us hl=>by obtain ⟨u0,rfl⟩:=len1 hl; rfl)
  have C_joined:=Cal.of (P:=l.prog) (w:=w) (base:=base) F_joined (ok_joined F_joined ) m_joined (fun _ _ _ _ _ _ us hl=>by obtain ⟨u0,u1,u2,rfl⟩:=len3 hl; rfl)
  have C_holds_at:=Cal.of (P:=l.prog) (w:=w) (base:=base) F_holds_at (ok_holds_at F_holds_at m_holds_at C_joined 12) m_holds_at (fun _ _ _ _ _ _ us hl=>by obtain ⟨u0,u1,u2,rfl⟩:=len3 hl; rfl)
  have C_count_of:=Cal.of (P:=l.prog) (w:=w) (base:=base) F_count_of (ok_count_of F_count_of B.len C_all_settings C_holds_at) m_count_of (fun _ _ _ _ _ _ us hl=>by obtain ⟨u0,u1,rfl⟩:=len2 hl; rfl)
  have C_is_field:=Cal.of (P:=l.prog) (w:=w) (base:=base) F_is_field (ok_is_field F_is_field ) m_is_field (fun _ _ _ _ _ _ us hl=>by obtain ⟨u0,rfl⟩:=len1 hl; rfl)
  have C_trees_within:=Cal.of (P:=l.prog) (w:=w) (base:=base) F_trees_within (ok_trees_within F_trees_within ) m_trees_within (fun _ _ _ _ _ _ us hl=>by obtain ⟨u0,rfl⟩:=len1 hl; rfl)
  have C_names_in:=Cal.of (P:=l.prog) (w:=w) (base:=base) F_names_in (ok_names_in F_names_in m_names_in C_trees_within 10) m_names_in (fun _ _ _ _ _ _ us hl=>by obtain ⟨u0,rfl⟩:=len1 hl; rfl)
  have C_degree_of:=Cal.of (P:=l.prog) (w:=w) (base:=base) F_degree_of (ok_degree_of F_degree_of B.max C_names_in) m_degree_of (fun _ _ _ _ _ _ us hl=>by obtain ⟨u0,u1,rfl⟩:=len2 hl; rfl)
  have C_look_switches:=Cal.of (P:=l.prog) (w:=w) (base:=base) F_look_switches (ok_look_switches F_look_switches B.enumerate) m_look_switches (fun _ _ _ _ _ _ us hl=>by obtain ⟨u0,rfl⟩:=len1 hl; rfl)
  have C_look_names:=Cal.of (P:=l.prog) (w:=w) (base:=base) F_look_names (ok_look_names F_look_names C_names_in) m_look_names (fun _ _ _ _ _ _ us hl=>by obtain ⟨u0,u1,rfl⟩:=len2 hl; rfl)
  have C_look_field:=Cal.of (P:=l.prog) (w:=w) (base:=base) F_look_field (ok_look_field F_look_field ⟨teq,PySem.W.mg_of X G geq⟩ C_is_field) m_look_field (fun _ _ _ _ _ _ us hl=>by obtain ⟨u0,rfl⟩:=len1 hl; rfl)
  have C_look_size:=Cal.of (P:=l.prog) (w:=w) (base:=base) F_look_size (ok_look_size F_look_size B.max) m_look_size (fun _ _ _ _ _ _ us hl=>by obtain ⟨u0,u1,rfl⟩:=len2 hl; rfl)
  have C_counts_of:=Cal.of (P:=l.prog) (w:=w) (base:=base) F_counts_of (ok_counts_of F_counts_of Tq C_count_of) m_counts_of (fun _ _ _ _ _ _ us hl=>by obtain ⟨u0,rfl⟩:=len1 hl; rfl)
  have C_l_names:=Cal.of (P:=l.prog) (w:=w) (base:=base) F_l_names (ok_l_names F_l_names B.range C_l_take) m_l_names (fun _ _ _ _ _ _ us hl=>by obtain ⟨u0,u1,rfl⟩:=len2 hl; rfl)
  have C_l_tree:=Cal.of (P:=l.prog) (w:=w) (base:=base) F_l_tree (ok_l_tree F_l_tree B.len m_l_tree C_l_take 10) m_l_tree (fun _ _ _ _ _ _ us hl=>by obtain ⟨u0,u1,u2,u3,rfl⟩:=len4 hl; rfl)
  have C_l_names_of:=Cal.of (P:=l.prog) (w:=w) (base:=base) F_l_names_of (ok_l_names_of F_l_names_of m_l_names_of 10) m_l_names_of (fun _ _ _ _ _ _ us hl=>by obtain ⟨u0,rfl⟩:=len1 hl; rfl)
  have C_l_need:=Cal.of (P:=l.prog) (w:=w) (base:=base) F_l_need (ok_l_need F_l_need B.len B.max C_l_names_of) m_l_need (fun _ _ _ _ _ _ us hl=>by obtain ⟨u0,u1,rfl⟩:=len2 hl; rfl)
  have C_l_is_prime:=Cal.of (P:=l.prog) (w:=w) (base:=base) F_l_is_prime (ok_l_is_prime F_l_is_prime B.range) m_l_is_prime (fun _ _ _ _ _ _ us hl=>by obtain ⟨u0,rfl⟩:=len1 hl; rfl)
  have C_l_field:=Cal.of (P:=l.prog) (w:=w) (base:=base) F_l_field (ok_l_field F_l_field C_l_take C_l_is_prime) m_l_field (fun _ _ _ _ _ _ us hl=>by obtain ⟨u0,u1,rfl⟩:=len2 hl; rfl)
  have C_l_game:=Cal.of (P:=l.prog) (w:=w) (base:=base) F_l_game (ok_l_game F_l_game B.range B.tuple C_l_take C_l_names C_l_tree C_l_need C_l_field) m_l_game (fun _ _ _ _ _ _ us hl=>by obtain ⟨u0,u1,u2,rfl⟩:=len3 hl; rfl)
  have G_gIq:=ok_ginit (P:=l.prog) (w:=w) (base:=base) F_gIq Tq B.tuple B.len C_degree_of C_look_switches C_look_names C_look_field C_look_size
  have G_gMq:=ok_gmix (P:=l.prog) (w:=w) (base:=base) F_gMq Tq B.reversed
  have m_gMq:Meth K Cq "mix" gMq:=⟨aMq,iMq,kMq⟩
  have G_gCq:=ok_gcoins (P:=l.prog) (w:=w) (base:=base) F_gCq Tq B.len
  have C_is_name:=Cal.of (P:=l.prog) (w:=w) (base:=base) F_is_name (ok_is_name F_is_name B TX) m_is_name (fun _ _ _ _ _ _ us hl=>by obtain ⟨u0,rfl⟩:=len1 hl; rfl)
  have C_tree_text:=Cal.of (P:=l.prog) (w:=w) (base:=base) F_tree_text (ok_tree_text F_tree_text m_tree_text 10) m_tree_text (fun _ _ _ _ _ _ us hl=>by obtain ⟨u0,rfl⟩:=len1 hl; rfl)
  have C_next_tree:=Cal.of (P:=l.prog) (w:=w) (base:=base) F_next_tree (ok_next_tree F_next_tree m_next_tree F_joined_tree m_joined_tree TX T M C_is_name 10) m_next_tree (fun _ _ _ _ _ _ us hl=>by obtain ⟨u0,u1,rfl⟩:=len2 hl; rfl)
  have C_tree_in_row:=Cal.of (P:=l.prog) (w:=w) (base:=base) F_tree_in_row (ok_tree_in_row F_tree_in_row TX T M ⟨mki,aI,iI,kcl⟩ G_gI b_gI C_next_tree) m_tree_in_row (fun _ _ _ _ _ _ us hl=>by obtain ⟨u0,u1,rfl⟩:=len2 hl; rfl)
  have C_is_figures:=Cal.of (P:=l.prog) (w:=w) (base:=base) F_is_figures (ok_is_figures F_is_figures B TX) m_is_figures (fun _ _ _ _ _ _ us hl=>by obtain ⟨u0,rfl⟩:=len1 hl; rfl)
  have C_field_in_row:=Cal.of (P:=l.prog) (w:=w) (base:=base) F_field_in_row (ok_field_in_row F_field_in_row B TX C_is_figures) m_field_in_row (fun _ _ _ _ _ _ us hl=>by obtain ⟨u0,rfl⟩:=len1 hl; rfl)
  have C_switches_in_row:=Cal.of (P:=l.prog) (w:=w) (base:=base) F_switches_in_row (ok_switches_in_row F_switches_in_row B TX C_is_name) m_switches_in_row (fun _ _ _ _ _ _ us hl=>by obtain ⟨u0,rfl⟩:=len1 hl; rfl)
  have C_row_or_end:=Cal.of (P:=l.prog) (w:=w) (base:=base) F_row_or_end (ok_row_or_end F_row_or_end B) m_row_or_end (fun _ _ _ _ _ _ us hl=>by obtain ⟨u0,u1,rfl⟩:=len2 hl; rfl)
  have C_trees_in_rows:=Cal.of (P:=l.prog) (w:=w) (base:=base) F_trees_in_rows (ok_trees_in_rows F_trees_in_rows B TX C_tree_in_row) m_trees_in_rows (fun _ _ _ _ _ _ us hl=>by obtain ⟨u0,rfl⟩:=len1 hl; rfl)
  have C_read_game:=Cal.of (P:=l.prog) (w:=w) (base:=base) F_read_game (ok_read_game F_read_game TX C_field_in_row C_switches_in_row C_row_or_end C_trees_in_rows) m_read_game (fun _ _ _ _ _ _ us hl=>by obtain ⟨u0,rfl⟩:=len1 hl; rfl)
  have C_game_text:=Cal.of (P:=l.prog) (w:=w) (base:=base) F_game_text (ok_game_text F_game_text B C_tree_text) m_game_text (fun _ _ _ _ _ _ us hl=>by obtain ⟨u0,u1,u2,rfl⟩:=len3 hl; rfl)
  have C_is_number:=Cal.of (P:=l.prog) (w:=w) (base:=base) F_is_number (ok_is_number F_is_number B) m_is_number (fun _ _ _ _ _ _ us hl=>by obtain ⟨u0,u1,rfl⟩:=len2 hl; rfl)
  have C_differences:=Cal.of (P:=l.prog) (w:=w) (base:=base) F_differences (ok_differences F_differences B Tq C_counts_of) m_differences (fun _ _ _ _ _ _ us hl=>by obtain ⟨u0,u1,rfl⟩:=len2 hl; rfl)
  have C_are_wrong:=Cal.of (P:=l.prog) (w:=w) (base:=base) F_are_wrong (ok_are_wrong F_are_wrong B C_differences) m_are_wrong (fun _ _ _ _ _ _ us hl=>by obtain ⟨u0,u1,rfl⟩:=len2 hl; rfl)
  have C_blind_spots:=Cal.of (P:=l.prog) (w:=w) (base:=base) F_blind_spots (ok_blind_spots F_blind_spots B Tq m_gMq G_gMq b_gMq C_differences) m_blind_spots (fun _ _ _ _ _ _ us hl=>by obtain ⟨u0,u1,rfl⟩:=len2 hl; rfl)
  have C_power:=Cal.of (P:=l.prog) (w:=w) (base:=base) F_power (ok_power F_power B) m_power (fun _ _ _ _ _ _ us hl=>by obtain ⟨u0,u1,rfl⟩:=len2 hl; rfl)
  have C_rows_of_coins:=Cal.of (P:=l.prog) (w:=w) (base:=base) F_rows_of_coins (ok_rows_of_coins F_rows_of_coins Tq ⟨aCq,iCq,kCq⟩ G_gCq b_gCq C_power) m_rows_of_coins (fun _ _ _ _ _ _ us hl=>by obtain ⟨u0,rfl⟩:=len1 hl; rfl)
  have C_caught_rows:=Cal.of (P:=l.prog) (w:=w) (base:=base) F_caught_rows (ok_caught_rows F_caught_rows Tq) m_caught_rows (fun _ _ _ _ _ _ us hl=>by obtain ⟨u0,rfl⟩:=len1 hl; rfl)
  have C_let_by_at_most:=Cal.of (P:=l.prog) (w:=w) (base:=base) F_let_by_at_most (ok_let_by_at_most F_let_by_at_most B Tq C_power C_rows_of_coins C_caught_rows C_are_wrong C_blind_spots) m_let_by_at_most (fun _ _ _ _ _ _ us hl=>by obtain ⟨u0,u1,rfl⟩:=len2 hl; rfl)
  have C_words_text:=Cal.of (P:=l.prog) (w:=w) (base:=base) F_words_text (ok_words_text F_words_text B) m_words_text (fun _ _ _ _ _ _ us hl=>by obtain ⟨u0,rfl⟩:=len1 hl; rfl)
  have C_numbers_in:=Cal.of (P:=l.prog) (w:=w) (base:=base) F_numbers_in (ok_numbers_in F_numbers_in B C_is_figures C_is_number) m_numbers_in (fun _ _ _ _ _ _ us hl=>by obtain ⟨u0,u1,u2,rfl⟩:=len3 hl; rfl)
  have C_game_in:=Cal.of (P:=l.prog) (w:=w) (base:=base) F_game_in (ok_game_in F_game_in Tq ⟨mkiq,aIq,iIq,kclq⟩ G_gIq b_gIq C_read_game) m_game_in (fun _ _ _ _ _ _ us hl=>by obtain ⟨u0,rfl⟩:=len1 hl; rfl)
  have C_counted:=Cal.of (P:=l.prog) (w:=w) (base:=base) F_counted (ok_counted F_counted C_game_in C_counts_of C_words_text) m_counted (fun _ _ _ _ _ _ us hl=>by obtain ⟨u0,rfl⟩:=len1 hl; rfl)
  have C_most_of:=Cal.of (P:=l.prog) (w:=w) (base:=base) F_most_of (ok_most_of F_most_of B Tq C_game_in C_numbers_in C_let_by_at_most C_rows_of_coins C_words_text) m_most_of (fun _ _ _ _ _ _ us hl=>by obtain ⟨u0,u1,rfl⟩:=len2 hl; rfl)
  have C_l_claims:=Cal.of (P:=l.prog) (w:=w) (base:=base) F_l_claims (ok_l_claims F_l_claims B C_l_take) m_l_claims (fun _ _ _ _ _ _ us hl=>by obtain ⟨u0,u1,u2,rfl⟩:=len3 hl; rfl)
  have C_l_right:=Cal.of (P:=l.prog) (w:=w) (base:=base) F_l_right (ok_l_right F_l_right B Tq ⟨mkiq,aIq,iIq,kclq⟩ G_gIq b_gIq C_game_text C_counts_of C_counted C_l_claims C_let_by_at_most C_most_of) m_l_right (fun _ _ _ _ _ _ us hl=>by obtain ⟨u0,u1,rfl⟩:=len2 hl; rfl)
  exact ok_law F_law B C_l_feed C_l_game C_l_right
theorem walk {l:PySem.W.OpenLaw} {q:Program} {loose:List Str} {XP:(Str→Option Value)→Heap→Prop} {YP:World→Heap→Prop} {d:DefRec} {K:Params→PySem.W.Frag} (hn:l.most=some 63) (hdf:d.params.defaults=[])
    (hY:∀ (w:World) (h:Heap),YP w h→(K w.params).In h)
    (F:∀ (w:World) (mg:Str→Option Value) (fa:Addr) (h:Heap),(K w.params).In h→h.Ns mainGlobals mg→mg d.name=some (.ref fa) →
      ∃ fd:FuncData,(∀ (s:Shared) (u:Value),BindsTo s fd ⟨[u],[]⟩ [("_law_script", u)])∧∀ base:Heap,(K w.params).In base→base.Ns mainGlobals mg→FnOk l.prog w (K w.params) mg base CX0 30 fa fd ["_law_script"] (spLaw (K w.params))) :
    PySem.W.WalkO q loose XP YP l.row.toRowW d [] (fun f vs=>PySem.call f vs) :=
  L2.walk_of (n:=63) (k:=30) (x := "_law_script") (CX:=fun _=>CX0) (sp:=fun w=>spLaw (K w.params)) hn (by decide) hdf ⟨rfl,by decide,by decide⟩ hY F (fun _ _ a ns hl _ hS=>⟨a,ns,rfl,hS,hl,fun _=>rfl⟩) fun _ _ _ _ _ z=>z
end Mine
namespace PySem.W.Fast
def tw3274263548966161419:=()
def tw9700798745283821534:=()
def tw13821088996274572785:=()
def tw7538312312178189206:=()
def tw14534005573896764711:=()
def tw15518590510971967960:=()
def tw7543316228748463089:=()
def tw14674292678189021874:=()
def tw5361849371727585855:=()
def tw9249422874449618561:=()
def tw17389173974654336207:=()
def tw5660447794958741533:=()
def tw3145542867765727026:=()
def tw9218427263236279220:=()
def tw14002225272855851166:=()
def tw16076927944376251113:=()
def tw9815572510511568138:=()
def tw7989399184523620942:=()
def tw10677665477837748599:=()
def tw11077484914263365131:=()
def tw4024196286856958516:=()
def tw1312241497891210372:=()
def tw16870539115537945600:=()
def tw1413769901216506473:=()
def tw11353196306146714183:=()
def tw8423252146795060425:=()
def tw17498803692844071629:=()
def tw4704291288404048341:=()
def tw11472241902278621866:=()
def tw6181102987638408550:=()
def tw15132954047122682495:=()
def tw9192331700688814088:=()
def tw5732647558585246935:=()
def tw11198853678930185682:=()
def tw11976476960418487538:=()
def tw17608378105680774993:=()
def tw6009763198342969824:=()
def tw1808356221773379409:=()
def tw13099726198755558296:=()
def tw10080270454667402856:=()
def tw11907010735236609588:=()
def tw9666694097237467395:=()
def tw2714284789930183169:=()
def tw14966359687003396011:=()
def tw1821127921058213199:=()
def tw14944611553984231653:=()
def tw5847922518382026426:=()
def tw2134908699611167203:=()
def tw7098434597500264153:=()
def tw16806719317602873773:=()
def tw11570296945764111110:=()
def tw15091089220361372927:=()
def tw6825072705852567046:=()
def tw4022001163404520170:=()
def tw11850179650758920389:=()
def tw16846129158914024655:=()
def tw5824959005556912875:=()
def tw2975682019259652383:=()
def tw13445363775504459595:=()
def tw3838425077656772854:=()
def tw1512886442321837781:=()
def tw12331441034076315798:=()
def tw16848419775379091766:=()
def tw15016880648417654970:=()
def tw16978669516863283006:=()
def tw9751869860570414914:=()
def tw7992963003861056699:=()
def tw11923675132437588213:=()
def tw13455494700151091768:=()
def tw18302230482850115118:=()
def tw12013373001870577430:=()
def tw17305763040805345137:=()
def tw8103450420387138768:=()
def tw7822290827294197969:=()
def tw16011367061302685892:=()
def tw492117727013201732:=()
def tw399664691352969960:=()
def tw17326422295102641631:=()
def tw4949622117511953614:=()
def tw7939410548592202559:=()
def tw4465807102874260605:=()
def tw14962526686575780971:=()
def tw17088253062452030485:=()
def tw1416594399163382489:=()
def tw8328470092560780597:=()
def tw4541194653136415735:=()
def tw18122154329035223152:=()
def tw13801124940984961345:=()
def tw508051582841799120:=()
def tw12265354128047348331:=()
def tw5443399116812038544:=()
def tw6568612329974432787:=()
def tw7754946765337909350:=()
def tw15666778527945565689:=()
def tw1386640310070455008:=()
def tw10899448689463336393:=()
def tw16888585171004601736:=()
def tw7702232348354502753:=()
def tw12355217250462832235:=()
def tw17048408667659748254:=()
def tw8709538570669469481:=()
def tw16962976295777335115:=()
def tw4794049138628868335:=()
def tw4104595377598124863:=()
def tw6916568199208706441:=()
def tw9956427690848041116:=()
def tw18420676450151059691:=()
def tw2190327459332899477:=()
def tw17014657214065419553:=()
def tw13846954980638505831:=()
def tw15126670339521715670:=()
def tw231112140853247776:=()
def tw14070362803148212687:=()
def tw15116788172333148517:=()
def tw8536360678886864981:=()
def tw7026773185162801704:=()
def tw8993761668003417806:=()
def tw7466275799816535514:=()
def tw8359037217173163425:=()
def tw2379759429695853348:=()
def tw15009950881670331324:=()
def tw11875337070872257674:=()
def tw2445293491211099164:=()
def tw17605462351724149656:=()
def tw2810238541907188163:=()
def tw14678878794807671246:=()
def tw13020792473833814234:=()
def tw6672555143065758825:=()
def tw10995044633867108802:=()
def tw5009380498481765108:=()
def tw18317393354989913768:=()
def tw17992040234871926455:=()
def tw16723671023295686509:=()
def tw15883718831239504082:=()
def tw1675416237507313335:=()
def tw2497125584884158666:=()
def tw3415133754478312269:=()
def tw17124668510026431169:=()
def tw12460907921752231460:=()
def tw2259399209389377529:=()
def tw11299083581038729279:=()
def tw17762109401728463337:=()
def tw2481459822699065354:=()
def tw15881645852445981619:=()
def tw17736665120187967330:=()
def tw10899364263919040816:=()
def tw3404111549980411782:=()
def tw7107487097530679138:=()
def tw6156574274854167742:=()
def tw10844318436978492145:=()
def tw4237353064550467093:=()
def tw14355517691870392633:=()
def tw17026439437921025941:=()
def tw10557074077233954434:=()
def tw1118313707524821547:=()
def tw1257794943512071105:=()
def tw5983493960411510187:=()
def tw11491107391179898262:=()
def tw1222521396913063092:=()
def tw8391456404547189002:=()
def tw7902059074765683870:=()
def tw1106685035469539987:=()
def tw12533768369280164520:=()
def tw17878221285673304260:=()
def tw846928015037592048:=()
def tw5960310264915418275:=()
def tw7807406376113791089:=()
def tw13144546572738202611:=()
def tw8069845365696857220:=()
def tw802681905547547232:=()
def tw17209338114009038141:=()
def tw1959988739822085670:=()
def tw10489060921136263971:=()
def tw2377311151538645447:=()
def tw6686505466282667197:=()
def tw6585462214798397712:=()
def tw6240371144860863684:=()
def tw2380187602534743845:=()
def tw15576740224433531364:=()
def tw9718021364960264778:=()
def tw2888401361363865291:=()
def tw1847216172448021588:=()
def tw3046974193969236210:=()
def tw3251687926740501199:=()
def tw18345294553428192830:=()
def tw837490559057514687:=()
def tw1198817775807746924:=()
def tw1358685857343416527:=()
def tw6629797271375509799:=()
def tw1893472061100344243:=()
def tw493430530768408026:=()
def tw14366357267254703382:=()
def tw10386483947703388177:=()
def tw10906691555224316782:=()
def tw13554697172703071415:=()
def tw5171077847112819977:=()
def tw3404828081141148171:=()
def tw3035217936906451470:=()
def tw9733450829035883809:=()
def tw9372342524656725778:=()
def tw16015927229025926332:=()
def tw13137361227224228792:=()
def tw1813807487703125859:=()
def tw7912274769048560399:=()
def tw1259758601331468310:=()
def tw961953052512502050:=()
def tw5609954179525439468:=()
def tw10196944942352535407:=()
def tw2276333825121703439:=()
def tw6586998077759735977:=()
def tw11219818643898889855:=()
def tw8104460737936669412:=()
def tw15245684003007046344:=()
def tw15689697912074479723:=()
def tw3166474582914825899:=()
def tw7647086222812341327:=()
def tw17705651849032904891:=()
def tw10520826371378992075:=()
def tw3283136918101626781:=()
def tw10036985246391337378:=()
def tw9277099938098102414:=()
def tw16643412708619045302:=()
def tw11896760181764020225:=()
def tw7648802553548720361:=()
def tw9596169323082076148:=()
def tw6520649269047769702:=()
def tw1499642610234576832:=()
def tw5889728255276930701:=()
def tw17685409734119374612:=()
def tw5571886955152122090:=()
def tw14347229150224339374:=()
def tw13100128546942954374:=()
def tw10693425380406097636:=()
def tw7579072364867898832:=()
def tw14813971421312622104:=()
def tw3925331547708608478:=()
def tw16332255469866899245:=()
def tw10091792114363581822:=()
def tw16722652562246770839:=()
def tw12979416956156101116:=()
def tw6271311862673543994:=()
def tw475161486214660329:=()
def tw1395995478054942403:=()
def tw6347138100080260692:=()
def tw2922403700336363360:=()
def tw16342110054445684132:=()
def tw15226991541581632812:=()
def tw16787577690163240271:=()
def tw10416383993048583506:=()
def tw14940987476768578200:=()
def tw1211973263973131030:=()
def tw16605393800560446744:=()
def tw16988401977328719779:=()
def tw6427240483213228001:=()
def tw2313030783740462586:=()
def tw5905776222394954895:=()
def tw8952958764335539874:=()
def tw1725450855595665060:=()
def tw180047888599674825:=()
def tw2122131840998823468:=()
def tw5847611139588921446:=()
def tw14045324814228843133:=()
def tw7911506223797417336:=()
def tw647946502341662542:=()
def tw9491800035031873340:=()
def tw3774504578062007587:=()
def tw5916475289632600893:=()
def tw14116702779895511924:=()
def tw18270462182113492358:=()
def tw17200655277188518733:=()
def tw489987454921545978:=()
def tw6891820348946048299:=()
def tw6477636030197259618:=()
def tw6433463354245469616:=()
def tw12814069460111623520:=()
def tw8380236285276956634:=()
def tw8754336990599918535:=()
def tw2932396681351622556:=()
def tw679457194121432313:=()
def tw4871701229726948529:=()
def tw11418681189908990138:=()
def tw10365338153672770771:=()
def tw8424003720242608340:=()
def tw6363159382367406537:=()
def tw96083434206638933:=()
def tw15370354835523828200:=()
def tw2443766644982256968:=()
def tw3651966677279346574:=()
def tw4829037688848152049:=()
def tw16673285533413609360:=()
def tw7850141636081629243:=()
def tw2491619469445448340:=()
def tw14821583669777672426:=()
def tw13251883748903733674:=()
def tw6343657755939059426:=()
def tw2843480422267607951:=()
def tw2165662686650493491:=()
def tw7240799218767476336:=()
def tw6801635731230276493:=()
def tw10083095817738857552:=()
def tw13517698352273115157:=()
def tw7249616727370969696:=()
def tw14503266259268754921:=()
def tw17000247004614695667:=()
def tw16689867232891250463:=()
def tw7579234374289498066:=()
def tw15009800520912452239:=()
def tw2440871037775536622:=()
def tw8879206333101927574:=()
def tw16039840599444790044:=()
def tw16783218022414484676:=()
def tw4453576521385196216:=()
def tw3015066520943132664:=()
def tw17229356263247372021:=()
def tw16787162910285030357:=()
def tw7025213711306052173:=()
def tw8024401645486863980:=()
def tw17967494616592274382:=()
def tw2985994104047342226:=()
def tw2095430671051487692:=()
def tw13880422666027630136:=()
def tw6789152526305516577:=()
def tw11608864554191328358:=()
def tw1040679799518044955:=()
def tw14570602942833427280:=()
def tw14687563920719639275:=()
def tw4175830375570848834:=()
def tw4604616099384983160:=()
def tw15040905333675084595:=()
def tw18051911064881080634:=()
def tw1878550394505235458:=()
def tw5883482238175712425:=()
def tw7278806913834871856:=()
def tw18323728299456603661:=()
def tw1310069137748572432:=()
def tw14006101520840703362:=()
def tw17166649510921432687:=()
def tw404935305854957961:=()
def tw1002382810553738391:=()
def tw13272478432895230181:=()
def tw3479252436578876413:=()
def tw18045279958825604071:=()
def tw16325003674166901897:=()
def tw17194014376604693257:=()
def tw14750204543008600567:=()
def tw9382247950693780357:=()
def tw18320028379753282256:=()
def tw3317590514003167893:=()
def tw10539749812146179389:=()
def tw12569617704595987205:=()
def tw15527150616334793662:=()
def tw3849500891736986045:=()
def tw13161573753780757954:=()
def tw17484117800866902877:=()
def tw14012177677362679497:=()
def tw7097618876946929457:=()
def tw6358503526320903231:=()
def tw12841627969370982721:=()
def tw8362651593569071304:=()
def tw17386089985410763548:=()
def tw4613425649488166956:=()
def tw14473891503741813709:=()
def tw13564270562809558057:=()
def tw10182618510460143461:=()
def tw1005830451079894304:=()
def tw18339423521996551942:=()
def tw10886769567097187868:=()
def tw13388649452138224338:=()
def tw1259005129796806625:=()
def tw10128948639474844178:=()
def tw1953255268142372663:=()
def tw7707181930822756236:=()
def tw12911615641652014324:=()
def tw7501185962761546969:=()
def tw17954189574280977575:=()
def tw14279546866728572687:=()
def tw748642080899377560:=()
def tw8434575465304339727:=()
def tw5930221116840348875:=()
def tw6044947830971878065:=()
def tw13508801062132752042:=()
def tw1181614023446012001:=()
def tw5018176254001989767:=()
def tw9526003813304212181:=()
def tw6120419614834976276:=()
def tw8831816888159821414:=()
def tw3708169280564390113:=()
def tw7614108366324020554:=()
def tw10713997327604191903:=()
def tw13492836805324972836:=()
def tw7623394533674996483:=()
def tw15164644085242566436:=()
def tw7695350637520524185:=()
def tw9376107753154473695:=()
def tw13443516802894600666:=()
def tw18389517109555963264:=()
def tw10551357830877091096:=()
def tw18109150513684227157:=()
def tw12536742387442898026:=()
def tw6906165491977990767:=()
def tw5265636682071691313:=()
def tw6355775958565004056:=()
def tw10188487612656234092:=()
def tw11796011882097785624:=()
def tw9112128435573904836:=()
def tw3784164885561854769:=()
def tw5365895736311249255:=()
def tw4156896695000670825:=()
def tw1593791061935488052:=()
def tw6683445086394375361:=()
def tw8173775340558415061:=()
def tw12985880841740295458:=()
def tw1012321168186177378:=()
def tw12272849354204135043:=()
def tw702297366126850714:=()
def tw11705620687405857215:=()
def tw3986577044991345035:=()
def tw17000877873581722578:=()
def tw12775129450835936324:=()
def tw7735764431309714944:=()
def tw13444019874961036342:=()
def tw17783599645473257797:=()
def tw13889935270403776506:=()
def tw9984140425797128460:=()
def tw10154827520646310257:=()
def tw11852131213593606855:=()
def tw9431610250870977083:=()
def tw8593242277037603175:=()
def tw18116757828603832633:=()
def tw933601754674873371:=()
def tw1616439536228066793:=()
def tw534668323706737027:=()
def tw5089430818083571145:=()
def tw3515454653024280897:=()
def tw1870946944062211388:=()
def tw12170158192130332203:=()
def tw3632229355360157032:=()
def tw12492035623737518038:=()
def tw4056577937832751854:=()
def tw16753145040086556684:=()
def tw1218101431334209986:=()
def tw12550958332690696964:=()
def tw2157048514598582095:=()
def tw13352765990928360839:=()
def tw9441852143146964731:=()
def tw1382443500368787734:=()
def tw6176541603738651508:=()
def tw2218631771822270549:=()
def tw14215350405882052712:=()
def tw47300918317510683:=()
def tw16828459958499896171:=()
def tw6936799083641193189:=()
def tw9226348262646184291:=()
def tw14214420037308775336:=()
def tw4779052877008274901:=()
def tw1793037326579709132:=()
def tw2437588777289730484:=()
def tw18114814517839007387:=()
def tw10301034142776156764:=()
def tw14224436060726791758:=()
def tw8467578244272134765:=()
def tw13038282906279572965:=()
def tw2838156075178946921:=()
def tw8125281201055113195:=()
def tw920055091297387977:=()
def tw2245913509972647433:=()
def tw5511674453076561852:=()
def tw18026523614455913568:=()
def tw5927791499285326765:=()
def tw9354900017844116340:=()
def tw2280533291225644758:=()
def tw12046798603039830195:=()
def tw11475718748712795473:=()
def tw16712784657482767698:=()
def tw13389653722633515729:=()
def tw11163718349981785390:=()
def tw12877128319189621254:=()
def tw25052804023891561:=()
def tw14532856404824563480:=()
def tw9939233337614660910:=()
def tw8408185532659088441:=()
def tw17063661292982089670:=()
def tw12122331925245196700:=()
def tw15524510108999105119:=()
def tw666692055535249054:=()
def tw10179033573217654356:=()
def tw15011949376857804517:=()
def tw3172557342039097962:=()
def tw1301509530958065542:=()
def tw6776878994329652187:=()
def tw17060639980192276721:=()
def tw4387350805690491206:=()
def tw15734168355472018802:=()
def tw6388411416942314416:=()
def tw6224923703228369920:=()
def tw11468839506535283865:=()
def tw4464544510211168846:=()
def tw6337955057253032586:=()
def tw13122712071084601734:=()
def tw16785905629122480570:=()
def tw199862132834775648:=()
def tw9831564954973668728:=()
def tw15129488083861011705:=()
def tw9315486857254293788:=()
def tw10604532649563835444:=()
def tw9672717253021608437:=()
def tw2000202241137954719:=()
def tw10488503471430527338:=()
def tw17918873406122199207:=()
def tw12850437385101931924:=()
def tw10797611724228776590:=()
def tw10583458130889034016:=()
def tw2192651103202677843:=()
def tw7357698698069033721:=()
def tw17641125305044728407:=()
def tw7030850544866366833:=()
def tw4889751081102892554:=()
def tw580576331449446606:=()
def tw15679798166797185186:=()
def tw6989702326455304347:=()
def tw1192649394243721428:=()
def tw833293498731558843:=()
def tw9277670072070939850:=()
def tw13972020942804918459:=()
def tw13197339261364975546:=()
def tw17718907531540404021:=()
def tw16867844332733206428:=()
def tw1823158155964022183:=()
def tw13843310035464330948:=()
def tw3468697955272963548:=()
def tw13036932087179964037:=()
def tw11439759654735414103:=()
def tw11391239333873824461:=()
def tw5895708835644860500:=()
def tw918710573470381663:=()
def tw5520084536337080789:=()
def tw2867113592152167578:=()
def tw12270004648535034123:=()
def tw15627980815822406967:=()
def tw999227479268010369:=()
def tw1175253963196156876:=()
def tw1697979004366390231:=()
def tw6527752715583634716:=()
def tw8798460720351972803:=()
def tw5235500845252273678:=()
def tw16716647517284233856:=()
def tw10304705884184600403:=()
def tw14754071633669634600:=()
def tw7626904698171185876:=()
def tw15976235293419464545:=()
def tw2757023156734991884:=()
def tw15624660559056999578:=()
def tw2241759592399436244:=()
def tw10782258539415575689:=()
def tw7277974625799179665:=()
def tw13377806484035283396:=()
def tw11933530473787327134:=()
def tw17309772584411395023:=()
def tw16595152061453816575:=()
def tw17771267960460837234:=()
def tw16708383193043674706:=()
def tw14185711751127536310:=()
def tw10586672059528499032:=()
def tw17776433174271896022:=()
def tw12578889001920203394:=()
def tw12940244907062690773:=()
end PySem.W.Fast
open PySem PySem.W PyProof.Rows
set_option maxRecDepth 100000 in
set_option maxHeartbeats 0 in
theorem PySem.Challenge.cw_asktally_k74_counts_and_bounds_at_the_de_holds : PySem.Challenge.rw_asktally_k74_counts_and_bounds_at_the_de.Holds := by
  w_on; o_law; k_head; (case hw=>w_witness2)
  k_fill
  refine Mine.walk (l:=PySem.Challenge.rw_asktally_k74_counts_and_bounds_at_the_de) rfl rfl (fun w h Y=>PySem.W.kIn_of Y) ?F
  case F =>
    intro w mg fa h KX G hmg
    refine' Mine.all_mk KX G hmg ?a0 ?l0 ?c0 ?k0 ?a1 ?l1 ?c1 ?k1 ?a2 ?l2 ?c2 ?k2 ?a3 ?l3 ?c3 ?k3 ?a4 ?l4 ?c4 ?k4 ?a5 ?l5 ?c5 ?k5 ?a6 ?l6 ?c6 ?k6 ?a7 ?l7 ?c7 ?k7 ?a8 ?l8 ?c8 ?k8 ?a9 ?l9 ?c9 ?k9 ?a10 ?l10 ?c10 ?k10 ?a11 ?l11 ?c11 ?k11 ?a12 ?l12 ?c12 ?k12 ?a13 ?l13 ?c13 ?k13 ?a14 ?l14 ?c14 ?k14 ?a15 ?l15 ?c15 ?k15 ?a16 ?l16 ?c16 ?k16 ?a17 ?l17 ?c17 ?k17 ?a18 ?l18 ?c18 ?k18 ?a19 ?l19 ?c19 ?k19 ?a20 ?l20 ?c20 ?k20 ?a21 ?l21 ?c21 ?k21 ?a22 ?l22 ?c22 ?k22 ?a23 ?l23 ?c23 ?k23 ?a24 ?l24 ?c24 ?k24 ?a25 ?l25 ?c25 ?k25 ?a26 ?l26 ?c26 ?k26 ?a27 ?l27 ?c27 ?k27 ?a28 ?l28 ?c28 ?k28 ?a29 ?l29 ?c29 ?k29 ?a30 ?l30 ?c30 ?k30 ?a31 ?l31 ?c31 ?k31 ?a32 ?l32 ?c32 ?k32 ?a33 ?l33 ?c33 ?k33 ?a34 ?l34 ?c34 ?k34 ?a35 ?l35 ?c35 ?k35 ?a36 ?l36 ?c36 ?k36 ?a37 ?l37 ?c37 ?k37 ?a38 ?l38 ?c38 ?k38 ?a39 ?l39 ?c39 ?k39 ?a40 ?l40 ?c40 ?k40 ?a41 ?l41 ?c41 ?k41 ?a42 ?l42 ?c42 ?k42 ?a43 ?l43 ?c43 ?k43 ?a44 ?l44 ?c44 ?k44 ?a45 ?l45 ?c45 ?k45 ?a46 ?l46 ?c46 ?k46 ?a47 ?l47 ?c47 ?k47 ?a48 ?l48 ?c48 ?k48 ?a49 ?l49 ?c49 ?k49 ?a50 ?l50 ?c50 ?k50 ?ggq ?aIq ?iIq ?lIq ?cIq ?kIq ?aMq ?iMq ?lMq ?cMq ?kMq ?aCq ?iCq ?lCq ?cCq ?kCq ?pgq ?hdiq ?povq ?satq ?mkiq ?kclq ?nSq ?nTq ?nFq ?nDq ?geq ?gg ?aI ?iI ?lI ?cI ?kI ?aE ?iE ?lE ?cE ?kE ?aS ?iS ?lS ?cS ?kS ?aT ?iT ?lT ?cT ?kT ?aW ?iW ?lW ?cW ?kW ?aF ?iF ?lF ?cF ?kF ?pg ?hdi ?pov ?sat ?mki ?kcl ?nX ?nR ?nW ?nP ?nL ?nN ?g1 ?g3 ?g5 ?g6 ?g7 ?g8 ?e1 ?e2 ?e3 ?w1 ?w2 ?w3 ?w4 ?w5 ?w6 ?w7 ?e5 ?e6 ?e7 ?e8 ?z0 ?z1 ?z2 ?z3 ?z4 ?z5 ?z6 ?z7 ?z8 ?z9 ?z10 ?z11 ?z12 ?z13 ?z14
    (case a0=>k_is); (case l0=>k_is); (case c0=>k_is); (case k0=>k_is)
    (case a1=>k_is); (case l1=>k_is); (case c1=>k_is); (case k1=>k_is)
    (case a2=>k_is); (case l2=>k_is); (case c2=>k_is); (case k2=>k_is)
    (case a3=>k_is); (case l3=>k_is); (case c3=>k_is); (case k3=>k_is)
    (case a4=>k_is); (case l4=>k_is); (case c4=>k_is); (case k4=>k_is)
    (case a5=>k_is); (case l5=>k_is); (case c5=>k_is); (case k5=>k_is)
    (case a6=>k_is); (case l6=>k_is); (case c6=>k_is); (case k6=>k_is)
    (case a7=>k_is); (case l7=>k_is); (case c7=>k_is); (case k7=>k_is)
    (case a8=>k_is); (case l8=>k_is); (case c8=>k_is); (case k8=>k_is)
    (case a9=>k_is); (case l9=>k_is); (case c9=>k_is); (case k9=>k_is)
    (case a10=>k_is); (case l10=>k_is); (case c10=>k_is); (case k10=>k_is)
    (case a11=>k_is); (case l11=>k_is); (case c11=>k_is); (case k11=>k_is)
    (case a12=>k_is); (case l12=>k_is); (case c12=>k_is); (case k12=>k_is)
    (case a13=>k_is); (case l13=>k_is); (case c13=>k_is); (case k13=>k_is)
    (case a14=>k_is); (case l14=>k_is); (case c14=>k_is); (case k14=>k_is)
    (case a15=>k_is); (case l15=>k_is); (case c15=>k_is); (case k15=>k_is)
    (case a16=>k_is); (case l16=>k_is); (case c16=>k_is); (case k16=>k_is)
    (case a17=>k_is); (case l17=>k_is); (case c17=>k_is); (case k17=>k_is)
    (case a18=>k_is); (case l18=>k_is); (case c18=>k_is); (case k18=>k_is)
    (case a19=>k_is); (case l19=>k_is); (case c19=>k_is); (case k19=>k_is)
    (case a20=>k_is); (case l20=>k_is); (case c20=>k_is); (case k20=>k_is)
    (case a21=>k_is); (case l21=>k_is); (case c21=>k_is); (case k21=>k_is)
    (case a22=>k_is); (case l22=>k_is); (case c22=>k_is); (case k22=>k_is)
    (case a23=>k_is); (case l23=>k_is); (case c23=>k_is); (case k23=>k_is)
    (case a24=>k_is); (case l24=>k_is); (case c24=>k_is); (case k24=>k_is)
    (case a25=>k_is); (case l25=>k_is); (case c25=>k_is); (case k25=>k_is)
    (case a26=>k_is); (case l26=>k_is); (case c26=>k_is); (case k26=>k_is)
    (case a27=>k_is); (case l27=>k_is); (case c27=>k_is); (case k27=>k_is)
    (case a28=>k_is); (case l28=>k_is); (case c28=>k_is); (case k28=>k_is)
    (case a29=>k_is); (case l29=>k_is); (case c29=>k_is); (case k29=>k_is)
    (case a30=>k_is); (case l30=>k_is); (case c30=>k_is); (case k30=>k_is)
    (case a31=>k_is); (case l31=>k_is); (case c31=>k_is); (case k31=>k_is)
    (case a32=>k_is); (case l32=>k_is); (case c32=>k_is); (case k32=>k_is)
    (case a33=>k_is); (case l33=>k_is); (case c33=>k_is); (case k33=>k_is)
    (case a34=>k_is); (case l34=>k_is); (case c34=>k_is); (case k34=>k_is)
    (case a35=>k_is); (case l35=>k_is); (case c35=>k_is); (case k35=>k_is)
    (case a36=>k_is); (case l36=>k_is); (case c36=>k_is); (case k36=>k_is)
    (case a37=>k_is); (case l37=>k_is); (case c37=>k_is); (case k37=>k_is)
    (case a38=>k_is); (case l38=>k_is); (case c38=>k_is); (case k38=>k_is)
    (case a39=>k_is); (case l39=>k_is); (case c39=>k_is); (case k39=>k_is)
    (case a40=>k_is); (case l40=>k_is); (case c40=>k_is); (case k40=>k_is)
    (case a41=>k_is); (case l41=>k_is); (case c41=>k_is); (case k41=>k_is)
    (case a42=>k_is); (case l42=>k_is); (case c42=>k_is); (case k42=>k_is)
    (case a43=>k_is); (case l43=>k_is); (case c43=>k_is); (case k43=>k_is)
    (case a44=>k_is); (case l44=>k_is); (case c44=>k_is); (case k44=>k_is)
    (case a45=>k_is); (case l45=>k_is); (case c45=>k_is); (case k45=>k_is)
    (case a46=>k_is); (case l46=>k_is); (case c46=>k_is); (case k46=>k_is)
    (case a47=>k_is); (case l47=>k_is); (case c47=>k_is); (case k47=>k_is)
    (case a48=>k_is); (case l48=>k_is); (case c48=>k_is); (case k48=>k_is)
    (case a49=>k_is); (case l49=>k_is); (case c49=>k_is); (case k49=>k_is)
    (case a50=>k_is); (case l50=>k_is); (case c50=>k_is); (case k50=>k_is)
    (case ggq=>k_is)
    (case aIq=>k_is)
    (case iIq=>k_is)
    (case lIq=>k_is)
    (case cIq=>k_is)
    (case kIq=>k_is)
    (case aMq=>k_is)
    (case iMq=>k_is)
    (case lMq=>k_is)
    (case cMq=>k_is)
    (case kMq=>k_is)
    (case aCq=>k_is)
    (case iCq=>k_is)
    (case lCq=>k_is)
    (case cCq=>k_is)
    (case kCq=>k_is)
    (case pgq=>k_is)
    (case hdiq=>k_is)
    (case povq=>k_is)
    (case satq=>k_is)
    (case mkiq=>k_is)
    (case kclq=>k_is)
    (case nSq=>k_is)
    (case nTq=>k_is)
    (case nFq=>k_is)
    (case nDq=>k_is)
    (case geq=>k_is)
    (case gg=>k_is)
    (case aI=>k_is)
    (case iI=>k_is)
    (case lI=>k_is)
    (case cI=>k_is)
    (case kI=>k_is)
    (case aE=>k_is)
    (case iE=>k_is)
    (case lE=>k_is)
    (case cE=>k_is)
    (case kE=>k_is)
    (case aS=>k_is)
    (case iS=>k_is)
    (case lS=>k_is)
    (case cS=>k_is)
    (case kS=>k_is)
    (case aT=>k_is)
    (case iT=>k_is)
    (case lT=>k_is)
    (case cT=>k_is)
    (case kT=>k_is)
    (case aW=>k_is)
    (case iW=>k_is)
    (case lW=>k_is)
    (case cW=>k_is)
    (case kW=>k_is)
    (case aF=>k_is)
    (case iF=>k_is)
    (case lF=>k_is)
    (case cF=>k_is)
    (case kF=>k_is)
    (case pg=>k_is)
    (case hdi=>k_is)
    (case pov=>k_is)
    (case sat=>k_is)
    (case mki=>k_is)
    (case kcl=>k_is)
    (case nX=>k_is)
    (case nR=>k_is)
    (case nW=>k_is)
    (case nP=>k_is)
    (case nL=>k_is)
    (case nN=>k_is)
    (case g1=>k_is)
    (case g3=>k_is)
    (case g5=>k_is)
    (case g6=>k_is)
    (case g7=>decide)
    (case g8=>exact Mine.kept_vals)
    (case e1=>k_is)
    (case e2=>k_is)
    (case e3=>k_is)
    (case w1=>k_is)
    (case w2=>k_is)
    (case w3=>k_is)
    (case w4=>k_is)
    (case w5=>k_is)
    (case w6=>k_is)
    (case w7=>k_is)
    (case e5=>k_is)
    (case e6=>k_is)
    (case e7=>decide)
    (case e8=>exact Mine.join_vals)
    (case z0=>k_is)
    (case z1=>k_is)
    (case z2=>k_is)
    (case z3=>k_is)
    (case z4=>k_is)
    (case z5=>k_is)
    (case z6=>k_is)
    (case z7=>k_is)
    (case z8=>k_is)
    (case z9=>k_is)
    (case z10=>k_is)
    (case z11=>k_is)
    (case z12=>k_is)
    (case z13=>k_is)
    (case z14=>k_is)
