import PyProof.Rows.All
import Wide.All
import OpenK.AllK
import Wide.FinOn
import Lean
import PyProof.EqAt
import PyProof.EqKinds
import PyProof.TupleCall
import PySem.Challenge.RW_asktally_k36_what_terms_tell
set_option Elab.async false
set_option linter.all false
set_option maxRecDepth 100000
namespace L2
open PySem PySem.Spec PyProof.Rows
abbrev Key:=Sum Int Str
def keyIs:Key->Value->Bool
 | .inl k,v=>Value.isInt k v
 | .inr x,v=>Value.isStrOf x v
def keyH (w:World):Key->Int
 | .inl k=>hashInt k
 | .inr x=>hashStr w x
theorem bJ:∀ {k:Key} {v:Value},keyIs k v=true->(∃ i t,k=Sum.inl i/\v=Value.int i t)∨(∃ x t,k=Sum.inr x/\v=Value.str x t)
 | .inl i,v,h=>by
   obtain ⟨t,e⟩:=Value.isInt_shape (k:=i) (v:=v) h
   exact .inl ⟨i,t,rfl,e⟩
 | .inr x,v,h=>by
   obtain ⟨t,e⟩:=Value.isStrOf_shape (x:=x) (v:=v) h
   exact .inr ⟨x,t,rfl,e⟩
theorem keyIs_int (i:Int) (t:Tok):keyIs (.inl i) (.int i t)=true:=by simp [keyIs,Value.isInt]
theorem keyIs_str (x:Str) (t:Tok):keyIs (.inr x) (.str x t)=true:=by simp [keyIs,Value.isStrOf]
theorem key_ll (a b:Int):decide ((Sum.inl a:Key)=Sum.inl b)=(a == b):=by
 by_cases e:a=b
 . subst e; simp
 . have h:¬ (Sum.inl a:Key)=Sum.inl b:=fun q=>e (Sum.inl.inj q)
   rw [decide_eq_false h]
   exact (beq_eq_false_iff_ne.mpr e).symm
theorem key_rr (a b:Str):decide ((Sum.inr a:Key)=Sum.inr b)=decide (a=b):=by
 by_cases e:a=b
 . subst e; simp
 . have h:¬ (Sum.inr a:Key)=Sum.inr b:=fun q=>e (Sum.inr.inj q)
   rw [decide_eq_false h,decide_eq_false e]
theorem key_lr (a:Int) (b:Str):decide ((Sum.inl a:Key)=Sum.inr b)=false:=decide_eq_false (fun q=>nomatch q)
theorem key_rl (a:Str) (b:Int):decide ((Sum.inr a:Key)=Sum.inl b)=false:=decide_eq_false (fun q=>nomatch q)
def bc (prog:Program) (w:World):PySem.KeyKind prog w Key where
 is:=keyIs
 hash:=keyH w
 inj:=fun v a b ha hb=>by
  rcases bJ ha with ⟨i,t,rfl,rfl⟩ | ⟨x,t,rfl,rfl⟩
  . rcases bJ hb with ⟨j,u,rfl,e⟩ | ⟨y,u,rfl,e⟩
    . injection e with e1 _; rw [e1]
    . exact nomatch e
  . rcases bJ hb with ⟨j,u,rfl,e⟩ | ⟨y,u,rfl,e⟩
    . exact nomatch e
    . injection e with e1 _; rw [e1]
 byValue:=fun k v h=>by
  rcases bJ h with ⟨i,t,rfl,rfl⟩ | ⟨x,t,rfl,rfl⟩ <;> rfl
 pyHash:=fun hv h=>by
  rcases bJ hv with ⟨i,t,rfl,rfl⟩ | ⟨x,t,rfl,rfl⟩
  . exact wpAny_pyHash_int h
  . exact wpAny_pyHash_str h
 eqBool:=fun hu hv h=>by
  rcases bJ hu with ⟨i,t,rfl,rfl⟩ | ⟨x,t,rfl,rfl⟩
  . rcases bJ hv with ⟨j,u,rfl,rfl⟩ | ⟨y,u,rfl,rfl⟩
    . rw [key_ll] at h; exact wpAny_eqBool_int h
    . rw [key_lr] at h; exact SeqAt.EqAt.int_str i t y u _ _ _ _ h
  . rcases bJ hv with ⟨j,u,rfl,rfl⟩ | ⟨y,u,rfl,rfl⟩
    . rw [key_rl] at h; exact SeqAt.EqAt.str_int x t j u _ _ _ _ h
    . rw [key_rr] at h; exact wpAny_eqBool_str h
 «strs»:=fun k x t v h=>by
  rcases bJ h with ⟨i,u,rfl,e⟩ | ⟨y,u,rfl,e⟩
  . exact nomatch e
  . injection e with e1 _
    subst e1
    cases v <;> rfl
theorem mixKind_int (prog:Program) (w:World) (i:Int) (t:Tok):(bc prog w).is (.inl i) (.int i t)=true:=keyIs_int i t
theorem mixKind_str (prog:Program) (w:World) (x:Str) (t:Tok):(bc prog w).is (.inr x) (.str x t)=true:=keyIs_str x t
inductive V where
 | non | bl (b:Bool) | int (i:Int) | str (x:Str) | byt (b:Array UInt8) | flt (b:UInt64) | ref (a:Addr) | ty (n:String)
 deriving DecidableEq
def RelV:V->Value->Prop
 | .non,u=>u=Value.none
 | .bl b,u=>u=Value.bool b
 | .int i,u=>∃ t,u=Value.int i t
 | .str x,u=>∃ t,u=Value.str x t
 | .byt b,u=>∃ t,u=Value.bytes b t
 | .flt b,u=>∃ t,u=Value.float b t
 | .ref a,u=>u=Value.ref a
 | .ty n,u=>u=Value.type n
abbrev Vals:List V->List Value->Prop:=Paired RelV
theorem Vals.length {xs:List V} {us:List Value} (r:Vals xs us):xs.length=us.length:=Paired.length r
theorem Vals.get:∀ {xs:List V} {us:List Value} {i:Nat} {x:V},Vals xs us->xs[i]?=some x->∃ u,us[i]?=some u/\RelV x u
 | _,_,_,_,.nil,e=>by simp at e
 | _,_,0,_,.cons r _,e=>by simp at e; subst e; exact ⟨_,rfl,r⟩
 | _,_,i+1,x,.cons _ t,e=>by
   obtain ⟨u,h1,h2⟩:=Vals.get (i:=i) (x:=x) t (by simpa using e)
   exact ⟨u,by simpa using h1,h2⟩
theorem Vals.set {x:V} {u:Value} (r:RelV x u):∀ {xs:List V} {us:List Value} (i:Nat),Vals xs us->Vals (xs.set i x) (us.set i u)
 | _,_,_,.nil=>.nil
 | _,_,0,.cons _ t=>.cons r t
 | _,_,i+1,.cons q t=>.cons q (Vals.set r i t)
theorem Vals.append:∀ {xs ys:List V} {us ws:List Value},Vals xs us->Vals ys ws->Vals (xs++ys) (us++ws)
 | _,_,_,_,.nil,s=>s
 | _,_,_,_,.cons r t,s=>.cons r (Vals.append t s)
theorem Vals.take:∀ {xs:List V} {us:List Value} (n:Nat),Vals xs us->Vals (xs.take n) (us.take n)
 | _,_,0,_=>.nil
 | _,_,_+1,.nil=>.nil
 | _,_,n+1,.cons r t=>.cons r (Vals.take n t)
theorem Vals.drop:∀ {xs:List V} {us:List Value} (n:Nat),Vals xs us->Vals (xs.drop n) (us.drop n)
 | _,_,0,r=>r
 | _,_,_+1,.nil=>.nil
 | _,_,n+1,.cons _ t=>Vals.drop n t
def RelO:Option V->Option Value->Prop
 | some v,some u=>RelV v u
 | none,none=>True
 | _,_=>False
def KV {κ:Type}:List (κ × V)->List (κ × Value)->Prop:=Paired fun (p:κ × V) (q:κ × Value)=>p.1=q.1/\RelV p.2 q.2
def kV:Key->V
 | .inl i=>.int i
 | .inr x=>.str x
inductive HO where
 | lst (xs:List V)
 | tup (xs:List V)
 | dK (kvs:List (Key × V)) | dT (kvs:List (List Key × V))
 | set (S:Int->Bool) (n:Nat)
 | ins (C dx:Addr) (fs:List (Str × V))
 | own (x:Addr)
 | xd (fs:List (Str × V))
 | met (f x:Addr)
 | rng (lo hi:Int)
 | frz (o:Obj) (u:HO)
 | tbl (ps:Array Value)
 | ext (φ:Heap->Prop)
abbrev Hp:=Addr->Option HO
def upd (H:Hp) (a:Addr) (o:HO):Hp:=fun b=>if b=a then some o else H b
theorem upd_same {H:Hp} {a:Addr} {o:HO}:upd H a o a=some o:=by unfold upd; rw [if_pos rfl]
theorem au {H:Hp} {a b:Addr} {o:HO} (h:b ≠ a):upd H a o b=H b:=by unfold upd; rw [if_neg h]
theorem ne_of {H:Hp} {a b:Addr} {o u:HO} (h:H a=some o) (h':H b=some u) (d:o ≠ u):a ≠ b:=by
 intro e; subst e; rw [h] at h'; exact d (Option.some.inj h')
theorem ne_of_none {H:Hp} {a b:Addr} {o:HO} (h:H a=some o) (h':H b=none):a ≠ b:=by
 intro e; subst e; rw [h] at h'; cases h'
section
variable (P:Program) (w:World)
def ObjOk (H:Hp) (h:Heap) (a:Addr):HO->Prop
 | .lst xs=>xs.length<=sizeLine/\∃ (its:List Value) (n:Nat),Vals xs its/\h.get? a=some { cls:=.type "list", data:=.seq its.toArray n }
 | .tup xs=>xs.length<=sizeLine/\∃ its:List Value,Vals xs its/\IsTup h a its.toArray/\∃ o,h.get? a=some o/\o.dict=none
 | .dK kvs=>kvs.length<=sizeLine/\(a == sysModules)=false/\∃ vs,KV kvs vs/\h.DictOf (bc P w) a vs
 | .dT kvs=>kvs.length<=sizeLine/\(a == sysModules)=false/\∃ xs:List (List Key × Addr × Value),
  Paired (fun (p:List Key × V) (q:List Key × Addr × Value)=>p.1=q.1/\H q.2.1=some (.tup (p.1.map kV))/\RelV p.2 q.2.2) kvs xs /\
  ∃ o es ep,h.get? a=some o/\o.ExactDict/\o.data=.dict es ep/\es.toList=xs.map (entryOfKey (tupleKind (bc P w)))/\(xs.map (·.1)).Nodup
 | .set S n=>h.SetOf (intKind P w) a S n
 | .ins C dx fs=>H dx=some (.own a)/\fs.length<=1000/\dx ≠ a/\h.get? a=some (PySem.W.instObj C dx) /\
  ∃ mA,h.Ns1 dx mA/\(∀ f,RelO (fs.lookup f) (mA f))/\PySem.Within mA (fs.map (·.1))
 | .own _=>∃ o,h.get? a=some o
 | .xd fs=>∃ mA,h.Ns1 a mA/\∀ f,RelO (fs.lookup f) (mA f)
 | .rng lo hi=>∃ t u v,h.get? a=some { cls:=.type "range", data:=.fields #[.int lo t,.int hi u,.int 1 v] }
 | .frz o u=>h.get? a=some o/\ObjOk H h a u
 | .tbl ps=>h.get? a=some { cls:=.none,data:=.fields ps }
 | .met f x=>h.get? a=some (PySem.W.methodObj (.ref f) (.ref x))
 | .ext φ=>φ h/\(∃ o,h.get? a=some o)/\∀ h1 h2:Heap,φ h1->(∀ o,h1.get? a=some o->h2.get? a=some o)->φ h2
def HOk (H:Hp) (h:Heap):Prop:=∀ a o,H a=some o->ObjOk P w H h a o
end
section
variable {P:Program} {w:World} {H H':Hp} {h h':Heap} {a:Addr} {o:HO}
theorem ObjOk.lt (x:ObjOk P w H h a o):a < h.objs.size:=by
 cases o with
 | lst xs=>obtain ⟨_,_,_,_,e⟩:=x; exact Heap.lt_size e
 | tup xs=>obtain ⟨_,_,_,p,_⟩:=x; exact p.lt
 | dK kvs=>obtain ⟨_,_,_,_,o,_,_,e,_⟩:=x; exact Heap.lt_size e
 | dT kvs=>obtain ⟨_,_,_,_,o,_,_,e,_⟩:=x; exact Heap.lt_size e
 | set S n=>obtain ⟨o,_,_,_,e,_⟩:=x; exact Heap.lt_size e
 | ins C dx fs=>obtain ⟨_,_,_,e,_⟩:=x; exact Heap.lt_size e
 | own y=>obtain ⟨_,e⟩:=x; exact Heap.lt_size e
 | xd fs=>obtain ⟨_,⟨_,_,_,e,_⟩,_⟩:=x; exact Heap.lt_size e
 | rng lo hi=>obtain ⟨_,_,_,e⟩:=x; exact Heap.lt_size e
 | frz ob u=>obtain ⟨e,_⟩:=x; exact Heap.lt_size e
 | tbl ps=>exact Heap.lt_size (show h.get? a=some _ from x)
 | met f y=>exact Heap.lt_size (show h.get? a=some _ from x)
 | ext φ=>obtain ⟨_,⟨_,e⟩,_⟩:=x; exact Heap.lt_size e
theorem Paired.mapP {α β:Type} {F G:α->β->Prop}:∀ {l₁:List α} {l₂:List β},Paired F l₁ l₂->(∀ a b,F a b->G a b)->Paired G l₁ l₂
 | _,_,.nil,_=>.nil
 | _,_,.cons r t,f=>.cons (f _ _ r) (Paired.mapP t f)
theorem ObjOk.stay (x:ObjOk P w H h a o) (k:∀ b u,(b=a∨H b=some (.own a))->h.get? b=some u->h'.get? b=some u)
 (ho:∀ b,H b=some (.own a)->H' b=some (.own a)) (ht:∀ b xs,H b=some (.tup xs)->H' b=some (.tup xs)):ObjOk P w H' h' a o:=by
 induction o with
 | lst xs=>obtain ⟨z,its,n,r,e⟩:=x; exact ⟨z,its,n,r,k _ _ (.inl rfl) e⟩
 | tup xs=>obtain ⟨z,its,r,⟨ob,e,c⟩,od,e2,d⟩:=x; exact ⟨z,its,r,⟨ob,k _ _ (.inl rfl) e,c⟩,od,k _ _ (.inl rfl) e2,d⟩
 | dK kvs=>obtain ⟨z,y,vs,r,ob,es,ep,e,c⟩:=x; exact ⟨z,y,vs,r,ob,es,ep,k _ _ (.inl rfl) e,c⟩
 | dT kvs =>
   obtain ⟨z,y,xs,r,ob,es,ep,e,c⟩:=x
   exact ⟨z,y,xs,Paired.mapP r fun p q z=>⟨z.1,ht _ _ z.2.1,z.2.2⟩,ob,es,ep,k _ _ (.inl rfl) e,c⟩
 | set S n=>obtain ⟨ob,es,ep,t,e,c⟩:=x; exact ⟨ob,es,ep,t,k _ _ (.inl rfl) e,c⟩
 | ins C dx fs =>
   obtain ⟨d,z,ne,e,mA,⟨od,es,ep,e2,c⟩,r⟩:=x
   exact ⟨ho _ d,z,ne,k _ _ (.inl rfl) e,mA,⟨od,es,ep,k _ _ (.inr d) e2,c⟩,r⟩
 | own y=>obtain ⟨ob,e⟩:=x; exact ⟨ob,k _ _ (.inl rfl) e⟩
 | xd fs=>obtain ⟨mA,⟨od,es,ep,e,c⟩,r⟩:=x; exact ⟨mA,⟨od,es,ep,k _ _ (.inl rfl) e,c⟩,r⟩
 | rng lo hi=>obtain ⟨t,u,v,e⟩:=x; exact ⟨t,u,v,k _ _ (.inl rfl) e⟩
 | frz ob u ih=>obtain ⟨e,q⟩:=x; exact ⟨k _ _ (.inl rfl) e,ih q⟩
 | tbl ps =>
   have e:h.get? a=some { cls:=.none,data:=.fields ps }:=x
   show h'.get? a=some { cls:=.none,data:=.fields ps }
   exact k a _ (.inl rfl) e
 | met f y =>
   have e:h.get? a=some (PySem.W.methodObj (.ref f) (.ref y)):=x
   show h'.get? a=some (PySem.W.methodObj (.ref f) (.ref y))
   exact k a _ (.inl rfl) e
 | ext φ=>obtain ⟨p,⟨o,e⟩,st⟩:=x; exact ⟨st _ _ p fun o q=>k _ _ (.inl rfl) q,⟨o,k _ _ (.inl rfl) e⟩,st⟩
theorem HOk.lt (x:HOk P w H h) (e:H a=some o):a < h.objs.size:=(x a o e).lt
theorem HOk.fresh (x:HOk P w H h) (e:h.objs.size<=a):H a=none:=by
 cases q:H a with
 | none=>rfl
 | some u=>exact absurd (Nat.lt_of_lt_of_le (x.lt q) e) (Nat.lt_irrefl _)
theorem HOk.kept (x:HOk P w H h) (k:∀ b u,h.get? b=some u->h'.get? b=some u):HOk P w H h':=fun a o e =>
 (x a o e).stay (fun b u _ q=>k b u q) (fun _ q=>q) fun _ _ q=>q
theorem HOk.laid (x:HOk P w H h) (k:∀ b u,h.get? b=some u->h'.get? b=some u) (hp:h.objs.size<=a) (new:ObjOk P w (upd H a o) h' a o):HOk P w (upd H a o) h':=fun b u e=>by
 have hn:=x.fresh hp
 by_cases hb:b=a
 . subst hb; rw [upd_same] at e; cases e; exact new
 . rw [au hb] at e
   exact (x b u e).stay (fun c v _ q=>k c v q) (fun c q=>by rw [au (ne_of_none q hn)]; exact q) fun c xs q=>by rw [au (ne_of_none q hn)]; exact q
end
def Rd (H:Hp) (a:Addr) (u:HO):Prop:=H a=some u∨∃ o,H a=some (.frz o u)
theorem Rd.ok {P:Program} {w:World} {H:Hp} {h:Heap} {a:Addr} {u:HO} (r:Rd H a u) (x:HOk P w H h):ObjOk P w H h a u:=by
 rcases r with r | ⟨o,r⟩
 . exact x a u r
 . obtain ⟨_,q⟩:=x a _ r
   exact q
def Mut:Option HO->Prop
 | some (.lst _)=>True
 | some (.dK _)=>True
 | some (.dT _)=>True
 | some (.set _ _)=>True
 | some (.ins _ _ _)=>True
 | some (.ext _)=>True
 | _=>False
section
variable {P:Program} {w:World} {H:Hp} {h h':Heap} {x e:Addr} {o':HO}
theorem HOk.write (ok:HOk P w H h) (mu:Mut (H x)) (he:e=x∨H e=some (.own x)) (k:∀ b u,b ≠ e->h.get? b=some u->h'.get? b=some u) (heo:∃ u,h'.get? e=some u)
 (new:ObjOk P w (upd H x o') h' x o'):HOk P w (upd H x o') h':=fun b u q=>by
 have nown:∀ c y,H c=some (.own y)->c ≠ x:=fun c y r z=>by subst z; rw [r] at mu; exact mu
 have ntup:∀ c xs,H c=some (.tup xs)->c ≠ x:=fun c xs r z=>by subst z; rw [r] at mu; exact mu
 by_cases hb:b=x
 . subst hb; rw [upd_same] at q; cases q; exact new
 . rw [au hb] at q
   by_cases hbe:b=e
   . have q':H b=some (.own x):=by
      rcases he with z | z
      . exact absurd (hbe.trans z) hb
      . rw [hbe]; exact z
     rw [q] at q'; cases q'
     obtain ⟨v,hv⟩:=heo
     exact ⟨v,by rw [hbe]; exact hv⟩
   . refine (ok b u q).stay (fun c v hc r=>k c v ?_ r) (fun c r=>by rw [au (nown c b r)]; exact r) fun c xs r=>by rw [au (ntup c xs r)]; exact r
     rcases hc with rfl | hc
     . exact hbe
     . rintro rfl
       rcases he with z | z
       . exact nown c b hc z
       . rw [hc] at z; cases z; exact hb rfl
end
structure Un (fs ex:List Addr) (H H':Hp) (h h':Heap):Prop where
 keep:∀ b o,h.get? b=some o->H b=none->b ∉ fs->b ∉ ex->h'.get? b=some o
 slot:∀ b o,h.get? b=some o->H b=none->b ∈ fs->b ∉ ex->∃ sl,h'.get? b=some { o with slots:=sl }
 free:∀ b o,h.get? b=some o->H b=none->b ∉ ex->H' b=none
 there:∀ b o,h.get? b=some o->b ∉ ex->∃ o',h'.get? b=some o'
 tups:∀ b xs,H b=some (.tup xs)->H' b=some (.tup xs)
 frzs:∀ b o u,H b=some (.frz o u)->H' b=some (.frz o u)
 tbls:∀ b ps,H b=some (.tbl ps)->∃ more,H' b=some (.tbl (ps++more))
section
variable {fs fs' ex ex':List Addr} {H H1 H2:Hp} {h h1 h2 h':Heap} {a x e:Addr} {o:HO}
theorem Un.any (u:Un fs ex H H1 h h1) {b:Addr} {ob:Obj} (q:h.get? b=some ob) (n:H b=none) (hx:b ∉ ex):∃ sl,h1.get? b=some { ob with slots:=sl }:=by
 by_cases hb:b ∈ fs
 . exact u.slot b ob q n hb hx
 . exact ⟨ob.slots,u.keep b ob q n hb hx⟩
theorem Un.kept (k:∀ b u,h.get? b=some u->h'.get? b=some u):Un fs ex H H h h' :=
 ⟨fun b ob q _ _ _=>k b ob q,fun b ob q _ _ _=>⟨ob.slots,k b ob q⟩,fun _ _ _ n _=>n,fun b ob q _=>⟨ob,k b ob q⟩,fun _ _ q=>q,fun _ _ _ q=>q,fun _ ps q=>⟨#[],by rw [q]; simp⟩⟩
theorem Un.refl:Un fs ex H H h h:=Un.kept fun _ _ q=>q
theorem Un.laid (k:∀ b u,h.get? b=some u->h'.get? b=some u) (hp:h.objs.size<=a) (hn:H a=none):Un fs ex H (upd H a o) h h' where
 keep:=fun b u q _ _ _=>k b u q
 slot:=fun b u q _ _ _=>⟨u.slots,k b u q⟩
 free:=fun b u q n _=>by rw [au (Nat.ne_of_lt (Nat.lt_of_lt_of_le (Heap.lt_size q) hp))]; exact n
 there:=fun b u q _=>⟨u,k b u q⟩
 tups:=fun b xs q=>by rw [au (ne_of_none q hn)]; exact q
 frzs:=fun b u xs q=>by rw [au (ne_of_none q hn)]; exact q
 tbls:=fun b ps q=>⟨#[],by rw [au (ne_of_none q hn),q]; simp⟩
theorem Un.write (mu:Mut (H x)) (he:e=x∨H e=some (.own x)) (k:∀ b u,b ≠ e->h.get? b=some u->h'.get? b=some u) (heo:∃ u,h'.get? e=some u):Un fs ex H (upd H x o) h h':=by
 have hx:∀ b,H b=none->b ≠ x:=fun b n z=>by subst z; rw [n] at mu; exact mu
 have hb:∀ b,H b=none->b ≠ e:=fun b n z=>by
  subst z
  rcases he with r | r
  . exact hx b n r
  . rw [n] at r; cases r
 have hm:∀ b u,H b=some u->¬ Mut (some u)->b ≠ x:=fun b u q nm z=>by subst z; rw [q] at mu; exact nm mu
 refine ⟨fun b u q n _ _=>k b u (hb b n) q,fun b u q n _ _=>⟨u.slots,k b u (hb b n) q⟩,fun b u q n _=>by rw [au (hx b n)]; exact n,fun b u q _=>?_,
  fun b xs q=>by rw [au (hm b _ q fun z=>z)]; exact q,fun b u xs q=>by rw [au (hm b _ q fun z=>z)]; exact q,fun b ps q=>⟨#[],by rw [au (hm b _ q fun z=>z),q]; simp⟩⟩
 by_cases hbe:b=e
 . subst hbe; exact heo
 . exact ⟨u,k b u hbe q⟩
end
def trk (h:Heap) (H:Hp):List Addr:=(List.range h.objs.size).filter fun a=>(H a).isSome
def hidT (h:Heap) (H:Hp):Heap:=PySem.W.hideAll h (trk h H)
theorem hidT_size (h:Heap) (H:Hp):(hidT h H).objs.size=h.objs.size:=PySem.W.hideAll_size _ _
theorem hidT_get {h:Heap} {H:Hp} {b:Addr} {o:Obj} (e:h.get? b=some o) (n:H b=none):(hidT h H).get? b=some o :=
 PySem.W.hideAll_get _ e fun hm=>by
  have q:(H b).isSome=true:=(List.mem_filter.mp hm).2
  rw [n] at q; simp at q
theorem of_hidT {h:Heap} {H:Hp} {b:Addr} {o:Obj} (e:(hidT h H).get? b=some o):h.get? b=some o/\H b=none:=by
 have e':h.get? b=some o:=PySem.W.of_hideAll (trk h H) e
 refine ⟨e',?_⟩
 cases q:H b with
 | none=>rfl
 | some x =>
   have hm:b ∈ trk h H:=List.mem_filter.mpr ⟨List.mem_range.mpr (Heap.lt_size e'),by simp [q]⟩
   have z:(hidT h H).get? b=none:=PySem.W.hideAll_none (trk h H) hm
   rw [z] at e; cases e
structure Mod (K:W.Frag) (mg:Str->Option Value) (base:Heap):Prop where
 kin:K.In base
 glob:base.Ns mainGlobals mg
 blt:∃ mb,base.Ns builtinsNs mb/\∀ x:Str,x ≠ "__name__" -> mb x=bootBuiltins x
 nolimit:base.NoLimit
structure Cx where
 prog:Program
 w:World
 K:W.Frag
 mg:Str->Option Value
 base:Heap
 A:Around
 N:List Str
 s₀:Shared
 H₀:Hp
 env:Env
 outer:List Env
 stack:List Env
 ex:List Addr
 fn:Str->Bool
 calm:Bool
 pn:List (Addr × Obj)
 xe:Value->Shared->Prop
def frs (l:List Env):List Addr:=l.filterMap (·.frame)
abbrev Cx.fs (X:Cx):List Addr:=frs X.outer
def Vis (sc:Scope) (x:Str):Prop:=sc.names.lookup x=some .local∨sc.names.lookup x=some .cell∨sc.names.lookup x=some .free
def Loc (sc:Scope) (x:Str):Prop:=sc.names.lookup x=some .local∨sc.names.lookup x=some .cell
def Look (env:Env) (h:Heap) (m:Str->Option Value) (x:Str) (u:Value):Prop :=
 (env.kindOf x=some .local/\m x=some u)∨((env.kindOf x=some .cell∨env.kindOf x=some .free)/\∃ c,env.cells.lookup x=some c/\h.IsCell c (some u))
structure Cx.Ok (X:Cx):Prop where
 mod:Mod X.K X.mg X.base
 kind:X.env.scope.kind=.function
 glob:X.env.globals=mainGlobals
 blt:X.env.builtins=builtinsNs
 above:X.s₀.heap.objs.size<=X.env.locals
 inj:∀ x y c,X.env.cells.lookup x=some c->X.env.cells.lookup y=some c->x=y
 has:∀ x,(X.env.kindOf x=some .cell∨X.env.kindOf x=some .free)->∃ c,X.env.cells.lookup x=some c
 cab:∀ x c,X.fn x=true->X.env.cells.lookup x=some c->X.s₀.heap.objs.size<=c
 hd:X.calm=true->X.A.handled=none
 frames:X.A.frames=some X.stack
 stk:X.stack=X.outer∨(X.stack=X.env::X.outer/\X.env.frame=some X.env.locals)
 exf:∀ b ∈ X.ex,b ≠ X.env.locals/\∀ x c,X.env.cells.lookup x=some c->c ≠ b
 bs:∀ b o,X.base.get? b=some o->X.s₀.heap.get? b=some o/\X.H₀ b=none
 bsz:X.base.objs.size<=X.s₀.heap.objs.size
 noex:∀ b o,X.base.get? b=some o->b ∉ X.ex
 exfs:∀ b ∈ X.ex,b ∉ X.fs
 funs:X.s₀.heap.FunFrames X.base X.outer
 frf:∀ b ∈ X.fs,X.H₀ b=none
structure Inv (X:Cx) (pins:List (Addr × Obj)) (σ:List (Option V)) (H:Hp) (s:Shared):Prop where
 ok:X.Ok
 os:s.os=X.s₀.os
 bare:AllBare s.gens
 base:Un X.fs X.ex X.H₀ H X.s₀.heap s.heap
 loc:∃ m,s.heap.Ns X.env.locals m/\∀ (i:Nat) (x:Str) (v:V),X.N[i]?=some x->σ[i]?=some (some v)->Vis X.env.scope x->∃ u,RelV v u/\Look X.env s.heap m x u
 cell:∀ x c,X.env.cells.lookup x=some c->∃ v,s.heap.IsCell c v
 free:H X.env.locals=none
 freeC:∀ x c,X.env.cells.lookup x=some c->H c=none
 pin:∀ p ∈ X.pn++pins,s.heap.get? p.1=some p.2/\H p.1=none/\p.1 ≠ X.env.locals/\p.1 ∉ X.fs/\∀ v,p.2.data ≠ .cell v
 hok:HOk X.prog X.w H s.heap
 len:σ.length=X.N.length
section
variable {X:Cx} {pins:List (Addr × Obj)} {σ:List (Option V)} {H H':Hp} {s:Shared} {h':Heap}
theorem Cx.Ok.nofr (ok:X.Ok) {b:Addr} {o:Obj} (e:X.base.get? b=some o):b ∉ X.fs:=fun hb=>by
 have:=(ok.funs.mem hb).1
 rw [e] at this; cases this
theorem Inv.bs (I:Inv X pins σ H s):∀ b o,X.base.get? b=some o->s.heap.get? b=some o/\H b=none:=fun b o e =>
 ⟨I.base.keep b o (I.ok.bs b o e).1 (I.ok.bs b o e).2 (I.ok.nofr e) (I.ok.noex b o e),I.base.free b o (I.ok.bs b o e).1 (I.ok.bs b o e).2 (I.ok.noex b o e)⟩
theorem Inv.bk (I:Inv X pins σ H s):∀ b o,X.base.get? b=some o->s.heap.get? b=some o:=fun b o e=>(I.bs b o e).1
theorem Inv.mod (I:Inv X pins σ H s):Mod X.K X.mg X.base:=I.ok.mod
theorem Inv.kIn (I:Inv X pins σ H s):X.K.In s.heap:=I.ok.mod.kin.keeps I.bk
theorem Inv.lt (I:Inv X pins σ H s):X.env.locals < s.heap.objs.size:=let ⟨_,hn,_⟩:=I.loc; hn.lt
theorem Inv.sz (I:Inv X pins σ H s):X.s₀.heap.objs.size<=s.heap.objs.size:=Nat.le_trans I.ok.above (Nat.le_of_lt I.lt)
theorem Inv.nofs (I:Inv X pins σ H s) {a:Addr} (h:s.heap.objs.size<=a):a ∉ X.fs:=fun hb=>by
 obtain ⟨_,o,ho,_⟩:=I.ok.funs.mem hb
 exact absurd (Nat.lt_of_lt_of_le (Heap.lt_size ho) (Nat.le_trans I.sz h)) (Nat.lt_irrefl _)
theorem Inv.cne (I:Inv X pins σ H s):∀ x c,X.env.cells.lookup x=some c->c ≠ X.env.locals:=fun x c e z=>by
 obtain ⟨v,o,ho,hd⟩:=I.cell x c e
 obtain ⟨m,⟨o',es,ep,ho',hd',_⟩,_⟩:=I.loc
 rw [z,ho'] at ho; cases ho; rw [hd'] at hd; cases hd
theorem Inv.funs (I:Inv X pins σ H s):s.heap.FunFrames X.base X.outer:=by
 have all:∀ (l:List Env),(∀ b ∈ frs l,b ∈ X.fs)->X.s₀.heap.FunFrames X.base l->s.heap.FunFrames X.base l:=by
  intro l
  induction l with
  | nil=>intro _ _; trivial
  | cons env r ih =>
    intro hs hl
    obtain ⟨hk,⟨L,o,hf,hn,ho,hd⟩,hr⟩:=hl
    have hL:L ∈ X.fs:=hs L (by unfold frs; rw [List.filterMap_cons,hf]; exact List.mem_cons_self)
    obtain ⟨sl,e⟩:=I.base.slot L o ho (I.ok.frf L hL) hL fun z=>I.ok.exfs L z hL
    exact ⟨hk,⟨L,_,hf,hn,e,hd⟩,ih (fun b hb=>hs b (by unfold frs; rw [List.filterMap_cons,hf]; exact List.mem_cons_of_mem _ hb)) hr⟩
 exact all X.outer (fun _ hb=>hb) I.ok.funs
theorem Inv.stack (I:Inv X pins σ H s):s.heap.FunFrames X.base X.stack:=by
 rcases I.ok.stk with e | ⟨e,hf⟩
 . rw [e]; exact I.funs
 . rw [e]
   obtain ⟨m,hn,_⟩:=I.loc
   refine .cons (by rw [I.ok.kind]; decide) hf hn ?_ I.funs
   exact Heap.get?_none_of_le (Nat.le_trans I.ok.bsz I.ok.above)
theorem Inv.stkSub (I:Inv X pins σ H s):∀ b ∈ frs X.stack,b ∈ X.env.locals::X.fs:=fun b hb=>by
 rcases I.ok.stk with e | ⟨e,hf⟩
 . rw [e] at hb; exact List.mem_cons_of_mem _ hb
 . rw [e] at hb
   unfold frs at hb
   rw [List.filterMap_cons,hf] at hb
   exact hb
theorem Inv.stkFree (I:Inv X pins σ H s):∀ b ∈ frs X.stack,H b=none:=fun b hb=>by
 rcases List.mem_cons.mp (I.stkSub b hb) with e | hb
 . rw [e]; exact I.free
 . obtain ⟨_,o,ho,_⟩:=I.ok.funs.mem hb
   exact I.base.free b o ho (I.ok.frf b hb) fun z=>I.ok.exfs b z hb
theorem Inv.step {g':Array GenState} {t':Nat} {d':Drawn} {ch:List Addr} (I:Inv X pins σ H s)
 (hch:∀ b ∈ ch,(b ∈ X.ex∨X.s₀.heap.objs.size<=b)/\b ≠ X.env.locals/\(∀ x c,X.env.cells.lookup x=some c->c ≠ b)/\∀ p ∈ X.pn++pins,p.1 ≠ b)
 (keep:∀ b o,b ≠ X.env.locals->b ∉ X.fs->b ∉ ch->s.heap.get? b=some o->H b=none->h'.get? b=some o)
 (slot:∀ b o,b ≠ X.env.locals->b ∈ X.fs->b ∉ ch->s.heap.get? b=some o->H b=none->∃ sl,h'.get? b=some { o with slots:=sl }) (free:∀ b o,b ∉ ch->s.heap.get? b=some o->H b=none->H' b=none)
 (there:∀ b o,b ∉ ch->s.heap.get? b=some o->∃ o',h'.get? b=some o')
 (tups:∀ b xs,H b=some (.tup xs)->H' b=some (.tup xs)) (frzs:∀ b o u,H b=some (.frz o u)->H' b=some (.frz o u)) (tbls:∀ b ps,H b=some (.tbl ps)->∃ more,H' b=some (.tbl (ps++more)))
 (ns:∀ m,s.heap.Ns X.env.locals m->h'.Ns X.env.locals m) (hok:HOk X.prog X.w H' h') (hg:AllBare g') :
 Inv X pins σ H' { s with heap:=h',gens:=g',drawn:=d',toks:=t' }:=by
 have neL:∀ b o,X.s₀.heap.get? b=some o->b ≠ X.env.locals:=fun b o e=>Nat.ne_of_lt (Nat.lt_of_lt_of_le (Heap.lt_size e) I.ok.above)
 have neC:∀ b o,X.s₀.heap.get? b=some o->b ∉ X.ex->b ∉ ch:=fun b o e hx hb=>by
  rcases (hch b hb).1 with z | z
  . exact hx z
  . exact absurd (Nat.lt_of_lt_of_le (Heap.lt_size e) z) (Nat.lt_irrefl _)
 have cellK:∀ x c,X.env.cells.lookup x=some c->∀ v,s.heap.IsCell c v->h'.IsCell c v:=fun x c e v ⟨o,ho,hd⟩=>by
  have nch:c ∉ ch:=fun z=>(hch c z).2.2.1 x c e rfl
  by_cases hc:c ∈ X.fs
  . obtain ⟨sl,q⟩:=slot c o (I.cne x c e) hc nch ho (I.freeC x c e)
    exact ⟨_,q,hd⟩
  . exact ⟨o,keep c o (I.cne x c e) hc nch ho (I.freeC x c e),hd⟩
 refine ⟨I.ok,I.os,hg,⟨fun b o e n hb hx=>?_,fun b o e n hb hx=>?_,fun b o e n hx=>?_,fun b o e hx=>?_,fun b xs e=>tups b xs (I.base.tups b xs e),fun b o xs e=>frzs b o xs (I.base.frzs b o xs e),fun b ps e=>?_⟩,?_,fun x c e=>?_,?_,fun x c e=>?_,fun p hp=>?_,hok,I.len⟩
 . exact keep b o (neL b o e) hb (neC b o e hx) (I.base.keep b o e n hb hx) (I.base.free b o e n hx)
 . obtain ⟨sl,e1⟩:=I.base.slot b o e n hb hx
   obtain ⟨sl',e2⟩:=slot b _ (neL b o e) hb (neC b o e hx) e1 (I.base.free b o e n hx)
   exact ⟨sl',e2⟩
 . obtain ⟨o',e1⟩:=I.base.there b o e hx
   exact free b o' (neC b o e hx) e1 (I.base.free b o e n hx)
 . obtain ⟨o',e1⟩:=I.base.there b o e hx
   exact there b o' (neC b o e hx) e1
 . obtain ⟨m1,e1⟩:=I.base.tbls b ps e
   obtain ⟨m2,e2⟩:=tbls b _ e1
   exact ⟨m1++m2,by rw [e2,Array.append_assoc]⟩
 . obtain ⟨m,hn,hl⟩:=I.loc
   refine ⟨m,ns m hn,fun i x v e1 e2 e3=>?_⟩
   obtain ⟨u,r,l⟩:=hl i x v e1 e2 e3
   refine ⟨u,r,?_⟩
   rcases l with l | ⟨k,c,e,z⟩
   . exact .inl l
   . exact .inr ⟨k,c,e,cellK x c e _ z⟩
 . obtain ⟨v,z⟩:=I.cell x c e
   exact ⟨v,cellK x c e v z⟩
 . obtain ⟨m,⟨o,_,_,ho,_⟩,_⟩:=I.loc
   exact free _ o (fun z=>(hch _ z).2.1 rfl) ho I.free
 . obtain ⟨v,o,ho,hd⟩:=I.cell x c e
   exact free c o (fun z=>(hch c z).2.2.1 x c e rfl) ho (I.freeC x c e)
 . obtain ⟨e,n,ne,nf,d⟩:=I.pin p hp
   have nch:p.1 ∉ ch:=fun z=>(hch p.1 z).2.2.2 p hp rfl
   exact ⟨keep p.1 p.2 ne nf nch e n,free p.1 p.2 nch e n,ne,nf,d⟩
theorem Inv.un {t':Nat} (I:Inv X pins σ H s) (u:Un X.fs [] H H' s.heap h') (hok:HOk X.prog X.w H' h'):Inv X pins σ H' { s with heap:=h',toks:=t' }:=by
 obtain ⟨m,⟨o,es,ep,ho,r⟩,_⟩:=id I.loc
 obtain ⟨sl,hL⟩:=u.any ho I.free (by simp)
 exact I.step (g':=s.gens) (d':=s.drawn) (ch:=[]) (fun _ z=>nomatch z) (fun b o _ hb _ e n=>u.keep b o e n hb (by simp)) (fun b o _ hb _ e n=>u.slot b o e n hb (by simp)) (fun b o _ e n=>u.free b o e n (by simp)) (fun b o _ e=>u.there b o e (by simp)) u.tups u.frzs u.tbls (fun m' hm=>by
  obtain ⟨o',es',ep',ho',r'⟩:=hm
  rw [ho] at ho'; cases ho'
  exact ⟨_,es',ep',hL,r'⟩) hok I.bare
theorem Inv.call {g':Array GenState} {t':Nat} {d':Drawn} {ch:List Addr} (I:Inv X pins σ H s) (u:Un (frs X.stack) ch H H' s.heap h') (hok:HOk X.prog X.w H' h') (hg:AllBare g')
 (hch:∀ b ∈ ch,(b ∈ X.ex∨X.s₀.heap.objs.size<=b)/\b ≠ X.env.locals/\(∀ x c,X.env.cells.lookup x=some c->c ≠ b)/\∀ p ∈ X.pn++pins,p.1 ≠ b) :
 Inv X pins σ H' { s with heap:=h',gens:=g',drawn:=d',toks:=t' }:=by
 obtain ⟨m,⟨o,es,ep,ho,r⟩,_⟩:=id I.loc
 obtain ⟨sl,hL⟩:=u.any ho I.free fun z=>(hch _ z).2.1 rfl
 exact I.step (ch:=ch) hch (fun b o hL hb hc e n=>u.keep b o e n (fun z=>(List.mem_cons.mp (I.stkSub b z)).elim hL hb) hc) (fun b o _ _ hc e n=>u.any e n hc) (fun b o hc e n=>u.free b o e n hc) (fun b o hc e=>u.there b o e hc) u.tups u.frzs u.tbls (fun m' hm=>by
  obtain ⟨o',es',ep',ho',r'⟩:=hm
  rw [ho] at ho'; cases ho'
  exact ⟨_,es',ep',hL,r'⟩) hok hg
theorem Inv.turned {t':Nat} {it:Addr} (I:Inv X pins σ H s) (k:∀ b o,b ≠ it->s.heap.get? b=some o->h'.get? b=some o) (hn:H it=none) (hL:it ≠ X.env.locals)
 (h1:it ∈ X.ex∨X.s₀.heap.objs.size<=it) (h2:∀ x c,X.env.cells.lookup x=some c->c ≠ it) (h3:∀ p ∈ X.pn++pins,p.1 ≠ it):Inv X pins σ H { s with heap:=h',toks:=t' }:=by
 have nit:∀ b u,H b=some u->b ≠ it:=fun b u e z=>by rw [z,hn] at e; cases e
 refine I.step (g':=s.gens) (d':=s.drawn) (ch:=[it]) (fun b hb=>?_) (fun b o _ _ hc e _=>k b o (fun z=>hc (by simp [z])) e) (fun b o _ _ hc e _=>⟨o.slots,k b o (fun z=>hc (by simp [z])) e⟩) (fun _ _ _ _ n=>n)
  (fun b o hc e=>⟨o,k b o (fun z=>hc (by simp [z])) e⟩) (fun _ _ e=>e) (fun _ _ _ e=>e) (fun b ps e=>⟨#[],by rw [e]; simp⟩) (fun m hm=>?_) (fun b u e=>?_) I.bare
 . have e:b=it:=by simpa using hb
   subst e
   exact ⟨h1,hL,h2,h3⟩
 . obtain ⟨o,es,ep,ho,r⟩:=hm
   exact ⟨o,es,ep,k _ o (Ne.symm hL) ho,r⟩
 . refine (I.hok b u e).stay (fun c v hc q=>k c v ?_ q) (fun _ q=>q) fun _ _ q=>q
   rcases hc with z | z
   . rw [z]; exact nit b u e
   . exact nit c _ z
theorem Inv.tok (I:Inv X pins σ H s) (t:Nat):Inv X pins σ H { s with toks:=t }:=I.un (h':=s.heap) (t':=t) Un.refl I.hok
theorem Inv.kept {t':Nat} (I:Inv X pins σ H s) (k:∀ b u,s.heap.get? b=some u->h'.get? b=some u):Inv X pins σ H { s with heap:=h',toks:=t' }:=I.un (Un.kept k) (I.hok.kept k)
theorem Inv.laid {a:Addr} {o:HO} {t':Nat} (I:Inv X pins σ H s) (k:∀ b u,s.heap.get? b=some u->h'.get? b=some u) (hp:s.heap.objs.size<=a) (new:ObjOk X.prog X.w (upd H a o) h' a o) :
 Inv X pins σ (upd H a o) { s with heap:=h',toks:=t' }:=I.un (Un.laid k hp (I.hok.fresh hp)) (I.hok.laid k hp new)
theorem Inv.write {x e:Addr} {o:HO} {t':Nat} (I:Inv X pins σ H s) (mu:Mut (H x)) (he:e=x∨H e=some (.own x)) (k:∀ b u,b ≠ e->s.heap.get? b=some u->h'.get? b=some u) (heo:∃ u,h'.get? e=some u)
 (new:ObjOk X.prog X.w (upd H x o) h' x o):Inv X pins σ (upd H x o) { s with heap:=h',toks:=t' }:=I.un (Un.write mu he k heo) (I.hok.write mu he k heo new)
theorem Inv.pins_of {pins':List (Addr × Obj)} (I:Inv X pins σ H s) (h:∀ p ∈ pins',s.heap.get? p.1=some p.2/\H p.1=none/\p.1 ≠ X.env.locals/\p.1 ∉ X.fs/\∀ v,p.2.data ≠ .cell v):Inv X pins' σ H s :=
 ⟨I.ok,I.os,I.bare,I.base,I.loc,I.cell,I.free,I.freeC,fun p hp=>(List.mem_append.mp hp).elim (fun z=>I.pin p (List.mem_append_left _ z)) (h p),I.hok,I.len⟩
theorem nodup_ix {N:List Str} (hN:N.Nodup) {i j:Nat} {x:Str} (a:N[i]?=some x) (b:N[j]?=some x):i=j:=by
 obtain ⟨h1,e1⟩:=List.getElem?_eq_some_iff.mp a
 obtain ⟨h2,e2⟩:=List.getElem?_eq_some_iff.mp b
 exact (List.getElem_inj hN).mp (e1.trans e2.symm)
theorem store_ok2 {M:Model} {A:Around} {E:Value->Shared->Prop} {i:Nat} {x:Str} {v:V} {u:Value} {Q:Unit->Shared->Prop} (I:Inv X pins σ H s) (hN:X.N.Nodup) (hi:X.N[i]?=some x) (hx:Loc X.env.scope x) (r:RelV v u)
 (h:∀ s',Inv X pins (σ.set i (some v)) H s'->(∃ a,Heap.SameBut a s.heap s'.heap/\(a=X.env.locals∨X.env.cells.lookup x=some a))->Q () s') (hf:X.fn x=true∨X.env.scope.names.lookup x=some .local:=by first | exact .inl rfl | exact .inr rfl | assumption):wpAny M A (storeName X.env x u) Q E s:=by
 obtain ⟨m,hn,hl⟩:=id I.loc
 have hcls:(X.env.scope.kind == .class || (X.env.scope.kind == .module && X.env.locals != X.env.globals))=false:=by rw [I.ok.kind]; rfl
 have hiσ:i < σ.length:=by rw [I.len]; exact (List.getElem?_eq_some_iff.mp hi).1
 have cne:=I.cne
 have tracked:∀ {a:Addr} {h':Heap},(∃ o,s.heap.get? a=some o/\H a=none)->Heap.SameBut a s.heap h'->HOk X.prog X.w H h':=fun {a h'} ha hs b ob e=>by
  obtain ⟨_,_,hfree⟩:=ha
  refine (I.hok b ob e).stay (fun c w' hc q=>(hs.2 c ?_).trans q) (fun _ q=>q) fun _ _ q=>q
  rintro rfl
  rcases hc with rfl | hc
  . rw [hfree] at e; cases e
  . rw [hfree] at hc; cases hc
 rcases hx with hk | hk
 . refine wpAny_storeName_local hk hn (fun h' hn' hs=>?_) hcls
   obtain ⟨oL,_,_,hoL,_⟩:=id hn
   refine h _ ⟨I.ok,I.os,I.bare,⟨fun b o e n hb hx=>?_,fun b o e n hb hx=>?_,I.base.free,fun b o e hx=>?_,I.base.tups,I.base.frzs,I.base.tbls⟩,⟨_,hn',fun j y v' e1 e2 e3=>?_⟩,fun y c e=>?_,I.free,I.freeC,fun p hp=>?_,tracked ⟨oL,hoL,I.free⟩ hs,by simpa using I.len⟩ ⟨_,hs,.inl rfl⟩
   . exact (hs.2 b (Nat.ne_of_lt (Nat.lt_of_lt_of_le (Heap.lt_size e) I.ok.above))).trans (I.base.keep b o e n hb hx)
   . obtain ⟨sl,e1⟩:=I.base.slot b o e n hb hx
     exact ⟨sl,(hs.2 b (Nat.ne_of_lt (Nat.lt_of_lt_of_le (Heap.lt_size e) I.ok.above))).trans e1⟩
   . obtain ⟨o',e1⟩:=I.base.there b o e hx
     exact ⟨o',(hs.2 b (Nat.ne_of_lt (Nat.lt_of_lt_of_le (Heap.lt_size e) I.ok.above))).trans e1⟩
   . by_cases hj:j=i
     . subst hj
       rw [hi] at e1; cases e1
       rw [List.getElem?_set_self hiσ] at e2
       cases e2
       exact ⟨u,r,.inl ⟨hk,by simp⟩⟩
     . rw [List.getElem?_set_ne (Ne.symm hj)] at e2
       obtain ⟨u',r',q⟩:=hl j y v' e1 e2 e3
       refine ⟨u',r',?_⟩
       rcases q with ⟨k,e⟩ | ⟨k,c,e,z⟩
       . refine .inl ⟨k,?_⟩
         have:y ≠ x:=fun e=>hj (nodup_ix hN e1 (e ▸ hi))
         simp [this,e]
       . exact .inr ⟨k,c,e,z.sameBut hs (cne y c e)⟩
   . obtain ⟨w',z⟩:=I.cell y c e
     exact ⟨w',z.sameBut hs (cne y c e)⟩
   . obtain ⟨e,n,ne,nf,d⟩:=I.pin p hp
     exact ⟨(hs.2 p.1 ne).trans e,n,ne,nf,d⟩
 . have hfn:X.fn x=true:=by
    rcases hf with z | z
    . exact z
    . rw [z] at hk; cases hk
   obtain ⟨c,hc⟩:=I.ok.has x (.inl hk)
   obtain ⟨w',z⟩:=I.cell x c hc
   refine wpAny_storeName_cell I.ok.kind hk hc z (fun h' hc' hs=>?_)
   obtain ⟨oc,hoc,hocd⟩:=id z
   refine h { s with heap:=h' } ⟨I.ok,I.os,I.bare,⟨fun b o e n hb hx=>?_,fun b o e n hb hx=>?_,I.base.free,fun b o e hx=>?_,I.base.tups,I.base.frzs,I.base.tbls⟩,⟨m,hn.sameBut hs (Ne.symm (cne x c hc)),fun j y v' e1 e2 e3=>?_⟩,fun y c' e=>?_,I.free,I.freeC,fun p hp=>?_,tracked ⟨oc,hoc,I.freeC x c hc⟩ hs,by simpa using I.len⟩ ⟨c,hs,.inr hc⟩
   . exact (hs.2 b (Nat.ne_of_lt (Nat.lt_of_lt_of_le (Heap.lt_size e) (I.ok.cab x c hfn hc)))).trans (I.base.keep b o e n hb hx)
   . obtain ⟨sl,e1⟩:=I.base.slot b o e n hb hx
     exact ⟨sl,(hs.2 b (Nat.ne_of_lt (Nat.lt_of_lt_of_le (Heap.lt_size e) (I.ok.cab x c hfn hc)))).trans e1⟩
   . obtain ⟨o',e1⟩:=I.base.there b o e hx
     exact ⟨o',(hs.2 b (Nat.ne_of_lt (Nat.lt_of_lt_of_le (Heap.lt_size e) (I.ok.cab x c hfn hc)))).trans e1⟩
   . by_cases hj:j=i
     . subst hj
       rw [hi] at e1; cases e1
       rw [List.getElem?_set_self hiσ] at e2
       cases e2
       exact ⟨u,r,.inr ⟨.inl hk,c,hc,hc'⟩⟩
     . rw [List.getElem?_set_ne (Ne.symm hj)] at e2
       obtain ⟨u',r',q⟩:=hl j y v' e1 e2 e3
       refine ⟨u',r',?_⟩
       rcases q with q | ⟨k,c',e,z'⟩
       . exact .inl q
       . refine .inr ⟨k,c',e,z'.sameBut hs ?_⟩
         rintro rfl
         exact hj (nodup_ix hN e1 (I.ok.inj _ _ _ e hc ▸ hi))
   . by_cases hcc:c'=c
     . subst hcc; exact ⟨_,hc'⟩
     . obtain ⟨w2,z2⟩:=I.cell y c' e
       exact ⟨w2,z2.sameBut hs hcc⟩
   . obtain ⟨e,n,ne,nf,d⟩:=I.pin p hp
     refine ⟨(hs.2 p.1 ?_).trans e,n,ne,nf,d⟩
     intro q
     rw [q,hoc] at e
     have q':oc=p.2:=Option.some.inj e
     exact d w' (by rw [← q']; exact hocd)
theorem store_ok {M:Model} {A:Around} {E:Value->Shared->Prop} {i:Nat} {x:Str} {v:V} {u:Value} {Q:Unit->Shared->Prop} (I:Inv X pins σ H s) (hN:X.N.Nodup) (hi:X.N[i]?=some x) (hx:Loc X.env.scope x) (r:RelV v u)
 (h:∀ s',Inv X pins (σ.set i (some v)) H s'->Q () s') (hf:X.fn x=true∨X.env.scope.names.lookup x=some .local:=by first | exact .inl rfl | exact .inr rfl | assumption):wpAny M A (storeName X.env x u) Q E s :=
 store_ok2 I hN hi hx r (fun s' I' _=>h s' I') hf
theorem Inv.call' {s':Shared} {ch:List Addr} (I:Inv X pins σ H s) (ho:s'.os=s.os) (u:Un (frs X.stack) ch H H' s.heap s'.heap) (hok:HOk X.prog X.w H' s'.heap) (hg:AllBare s'.gens)
 (hch:∀ b ∈ ch,(b ∈ X.ex∨X.s₀.heap.objs.size<=b)/\b ≠ X.env.locals/\(∀ x c,X.env.cells.lookup x=some c->c ≠ b)/\∀ p ∈ X.pn++pins,p.1 ≠ b):Inv X pins σ H' s':=by
 obtain ⟨h',g',d',t',o'⟩:=s'
 have e:o'=s.os:=ho
 subst e
 exact I.call (g':=g') (t':=t') (d':=d') u hok hg hch
end
abbrev XK:=Value->Option Addr->Hp->Prop
abbrev St:=List (Option V)
abbrev VK:=V->Hp->Prop
abbrev TE:=St->Hp->VK->Prop
abbrev TT:=St->Hp->(Bool->Hp->Prop)->Prop
abbrev TA:=St->Hp->(List V->Hp->Prop)->Prop
structure Ends where
 nx:St->Hp->Prop
 rt:VK
 bk:St->Hp->Prop:=fun _ _=>False
 ct:St->Hp->Prop:=fun _ _=>False
abbrev TS:=Ends->St->Hp->Prop
def EP (X:Cx) (pins:List (Addr × Obj)) (σ:St) (Q:VK) (u:Value) (s':Shared):Prop:=∃ v H',Inv X pins σ H' s'/\RelV v u/\Q v H'
def TP (X:Cx) (pins:List (Addr × Obj)) (σ:St) (Q:Bool->Hp->Prop) (b:Bool) (s':Shared):Prop:=∃ H',Inv X pins σ H' s'/\Q b H'
def AP (X:Cx) (pins:List (Addr × Obj)) (σ:St) (Q:List V->Hp->Prop) (us:List Value) (s':Shared):Prop:=∃ vs H',Inv X pins σ H' s'/\Vals vs us/\Q vs H'
def SP (X:Cx) (pins:List (Addr × Obj)) (D:Ends) (f:Flow) (s':Shared):Prop :=
 match f with
 | .next=>∃ σ' H',Inv X pins σ' H' s'/\D.nx σ' H'
 | .brk=>∃ σ' H',Inv X pins σ' H' s'/\D.bk σ' H'
 | .cont=>∃ σ' H',Inv X pins σ' H' s'/\D.ct σ' H'
 | .ret u=>∃ v σ' H',Inv X pins σ' H' s'/\RelV v u/\D.rt v H'
def PE (X:Cx) (e:Expr) (t:TE):Prop :=
 ∀ (pins:List (Addr × Obj)) (s:Shared) (σ:St) (H:Hp) (Q:VK),Inv X pins σ H s->t σ H Q->wpAny (model X.prog X.w) X.A (eval e X.env) (EP X pins σ Q) X.xe s
def PT (X:Cx) (e:Expr) (t:TT):Prop :=
 ∀ (pins:List (Addr × Obj)) (s:Shared) (σ:St) (H:Hp) (Q:Bool->Hp->Prop),Inv X pins σ H s->t σ H Q->wpAny (model X.prog X.w) X.A (isTrue e X.env (eval e X.env)) (TP X pins σ Q) X.xe s
def PW (X:Cx) (e:Expr) (t:TT):Prop :=
 ∀ (whole:Sem Value) (pins:List (Addr × Obj)) (s:Shared) (σ:St) (H:Hp) (Q:Bool->Hp->Prop),Inv X pins σ H s->t σ H Q->wpAny (model X.prog X.w) X.A (isTrue e X.env whole) (TP X pins σ Q) X.xe s
theorem PW.pt {X:Cx} {e:Expr} {t:TT} (h:PW X e t):PT X e t:=h _
def PA (X:Cx) (es:List Expr) (t:TA):Prop :=
 ∀ (pos:Pos) (pins:List (Addr × Obj)) (s:Shared) (σ:St) (H:Hp) (Q:List V->Hp->Prop),Inv X pins σ H s->t σ H Q->wpAny (model X.prog X.w) X.A (spliced (backTo pos (starEach es X.env))) (AP X pins σ Q) X.xe s
def PS (X:Cx) (st:Stmt) (t:TS):Prop :=
 ∀ (pins:List (Addr × Obj)) (s:Shared) (σ:St) (H:Hp) (D:Ends),Inv X pins σ H s->t D σ H->wpAny (model X.prog X.w) X.A (exec st X.env) (SP X pins D) X.xe s
def PSs (X:Cx) (st:List Stmt) (t:TS):Prop :=
 ∀ (pins:List (Addr × Obj)) (s:Shared) (σ:St) (H:Hp) (D:Ends),Inv X pins σ H s->t D σ H->wpAny (model X.prog X.w) X.A (execs st X.env) (SP X pins D) X.xe s
theorem thn {α:Type} {t:Sem α} {Q Q':α->Shared->Prop} {M:Model} {A:Around} {E:Value->Shared->Prop} {s:Shared} (h:wpAny M A t Q E s) (hQ:∀ a s,Q a s->Q' a s):wpAny M A t Q' E s:=wpAny_mono h hQ fun _ _ x=>x
section
variable {X:Cx}
def tVar (i:Nat):TE:=fun σ H Q=>∃ v,σ[i]?=some (some v)/\Q v H
def tC (v:V):TE:=fun _ H Q=>Q v H
theorem pe_var {i:Nat} {x:Str} {pos:Pos} (hN:X.N[i]?=some x) (hv:Vis X.env.scope x) (hd:(x == ("__debug__" : Str))=false:=by decide) (hcd:(x == ("__classdict__" : Str))=false:=by decide):PE X (.Name x pos) (tVar i):=by
 intro pins s σ H Q I h
 obtain ⟨v,e,h⟩:=h
 obtain ⟨m,hn,hl⟩:=I.loc
 obtain ⟨u,r,l⟩:=hl i x v hN e hv
 have fin:EP X pins σ Q u s:=⟨v,H,I,r,h⟩
 rcases l with ⟨hk,hm⟩ | ⟨hk,c,hc,hcell⟩
 . exact wpAny_Name (wpAny_loadName_local I.ok.kind hk hn hm fin) hd
 . rcases hk with hk | hk
   . exact wpAny_Name (wpAny_loadName_cell I.ok.kind hk hc hcell fin) hd
   . exact wpAny_Name (wpAny_loadName_free I.ok.kind hk hc hcell fin hcd) hd
theorem ad {i j pos}:PE X (.Constant (.int i) j pos) (tC (.int i)):=fun _ _ _ H _ I h=>wpAny_Constant_int ⟨.int i,H,I.tok _,⟨_,rfl⟩,h⟩
theorem pe_bl {b j pos}:PE X (.Constant (.bool b) j pos) (tC (.bl b)):=fun _ _ _ H _ I h=>Constant_bool ⟨.bl b,H,I,rfl,h⟩
theorem pe_non {j pos}:PE X (.Constant .none j pos) (tC .non):=fun _ _ _ H _ I h=>Constant_none ⟨.non,H,I,rfl,h⟩
theorem aD {x j pos}:PE X (.Constant (.str x) j pos) (tC (.str x)):=fun _ _ _ H _ I h=>Calls.Constant_str ⟨.str x,H,I.tok _,⟨_,rfl⟩,h⟩
def Gl (X:Cx) (x:Str):Prop:=X.env.kindOf x=some .globalImplicit
theorem ld_glob {E:Value->Shared->Prop} {pins:List (Addr × Obj)} {s:Shared} {σ:St} {H:Hp} {x:Str} {u:Value} {pos:Pos} {Q:Value->Shared->Prop} (I:Inv X pins σ H s) (hg:Gl X x) (hm:X.mg x=some u) (h:Q u s)
 (hd:(x == ("__debug__" : Str))=false:=by decide):wpAny (model X.prog X.w) X.A (eval (.Name x pos) X.env) Q E s :=
 Calls.Name_function_global I.ok.kind hg (Calls.loadGlobal_global (by rw [I.ok.glob]; exact I.mod.glob.keeps I.bk) hm h) hd
theorem ld_blt {E:Value->Shared->Prop} {pins:List (Addr × Obj)} {s:Shared} {σ:St} {H:Hp} {x:Str} {u:Value} {pos:Pos} {Q:Value->Shared->Prop} (I:Inv X pins σ H s) (hg:Gl X x) (hm:X.mg x=none) (hv:bootBuiltins x=some u) (h:Q u s)
 (hn:x ≠ "__name__" := by decide) (hd:(x == ("__debug__" : Str))=false:=by decide):wpAny (model X.prog X.w) X.A (eval (.Name x pos) X.env) Q E s:=by
 obtain ⟨mb,h1,h2⟩:=I.mod.blt
 exact Calls.Name_function_global I.ok.kind hg (Calls.loadGlobal_builtin (by rw [I.ok.glob]; exact I.mod.glob.keeps I.bk) hm (by rw [I.ok.blt]; exact h1.keeps I.bk) ((h2 x hn).trans hv) h) hd
theorem pe_glob {x:Str} {v:V} {u:Value} {pos:Pos} (hg:Gl X x) (hm:X.mg x=some u) (r:RelV v u) (hd:(x == ("__debug__" : Str))=false:=by decide):PE X (.Name x pos) (tC v) :=
 fun _ _ _ H _ I h=>ld_glob I hg hm ⟨v,H,I,r,h⟩ hd
theorem pe_bltn {x:Str} {v:V} {u:Value} {pos:Pos} (hg:Gl X x) (hm:X.mg x=none) (hv:bootBuiltins x=some u) (r:RelV v u) (hn:x ≠ "__name__" := by decide) (hd:(x == ("__debug__" : Str))=false:=by decide):PE X (.Name x pos) (tC v) :=
 fun _ _ _ H _ I h=>ld_blt I hg hm hv ⟨v,H,I,r,h⟩ hn hd
variable {a b:Expr} {ta tb:TE} {pos:Pos}
def tB (t:TE):TT:=fun σ H Q=>t σ H fun x H1=>∃ c,x=.bl c/\Q c H1
theorem pt_val {e:Expr} {t:TE} (h:PE X e t) (he:∀ whole,isTrue e X.env whole=(do let v ← whole; standAt e.pos; holding [v] (truthy v)):=by intro _; rfl):PT X e (tB t):=by
 intro pins s σ H Q I hw
 refine isTrue_plain (thn (h pins s σ H _ I hw) fun v s1 ⟨x,H1,I1,r1,q1⟩=>?_) (he _)
 obtain ⟨d,rfl,q⟩:=q1
 cases r1
 exact wpAny_truthy_bool ⟨H1,I1,q⟩
variable {tA tB':TT} {rest:List Expr}
def tAnd (t u:TT):TT:=fun σ H Q=>t σ H fun c H1=>if c=true then u σ H1 Q else Q false H1
def tOr (t u:TT):TT:=fun σ H Q=>t σ H fun c H1=>if c=true then Q true H1 else u σ H1 Q
def tNot (t:TT):TT:=fun σ H Q=>t σ H fun c H1=>Q (!c) H1
theorem pw_and1 (ha:PT X a tA):PW X (.BoolOp .And [a] pos) tA:=by
 intro wh pins s σ H Q I h
 refine isTrue_and (thn (ha pins s σ H Q I h) fun c s1 e=>?_)
 cases c with
 | true=>exact isTrue_and_nil e
 | false=>exact e
theorem pw_or1 (ha:PT X a tA):PW X (.BoolOp .Or [a] pos) tA:=by
 intro wh pins s σ H Q I h
 refine isTrue_or (thn (ha pins s σ H Q I h) fun c s1 e=>?_)
 cases c with
 | false=>exact isTrue_or_nil e
 | true=>exact e
theorem pw_and (ha:PT X a tA) (hb:PW X (.BoolOp .And (b::rest) pos) tB'):PW X (.BoolOp .And (a::b::rest) pos) (tAnd tA tB'):=by
 intro wh pins s σ H Q I h
 refine isTrue_and (thn (ha pins s σ H _ I h) fun c s1 ⟨H1,I1,q1⟩=>?_)
 cases c with
 | true=>exact hb wh pins s1 σ H1 Q I1 q1
 | false=>exact ⟨H1,I1,q1⟩
theorem pw_or (ha:PT X a tA) (hb:PW X (.BoolOp .Or (b::rest) pos) tB'):PW X (.BoolOp .Or (a::b::rest) pos) (tOr tA tB'):=by
 intro wh pins s σ H Q I h
 refine isTrue_or (thn (ha pins s σ H _ I h) fun c s1 ⟨H1,I1,q1⟩=>?_)
 cases c with
 | true=>exact ⟨H1,I1,q1⟩
 | false=>exact hb wh pins s1 σ H1 Q I1 q1
theorem pt_not (ha:PT X a tA):PT X (.UnaryOp .Not a pos) (tNot tA):=by
 intro pins s σ H Q I h
 exact isTrue_not (ha pins s σ H (fun c H1=>Q (!c) H1) I h)
def tAndV (ta tb:TE):TE:=fun σ H Q=>ta σ H fun x H1=>∃ c,x=.bl c/\if c=true then tb σ H1 Q else Q (.bl false) H1
def tOrV (ta tb:TE):TE:=fun σ H Q=>ta σ H fun x H1=>∃ c,x=.bl c/\if c=true then Q (.bl true) H1 else tb σ H1 Q
def tNotV (ta:TE):TE:=fun σ H Q=>ta σ H fun x H1=>∃ c,x=.bl c/\Q (.bl (!c)) H1
theorem pe_one {op} {t:TE} (h:PE X a t):PE X (.BoolOp op [a] pos) t:=fun pins s σ H Q I hw=>BoolOp_one (h pins s σ H Q I hw)
theorem pe_and (ha:PE X a ta) (hb:PE X (.BoolOp .And (b::rest) pos) tb):PE X (.BoolOp .And (a::b::rest) pos) (tAndV ta tb):=by
 intro pins s σ H Q I h
 refine BoolOp_and (thn (ha pins s σ H _ I h) fun v s1 ⟨x,H1,I1,r1,q1⟩=>?_)
 obtain ⟨c,rfl,q1⟩:=q1
 cases r1
 refine wpAny_truthy_bool ?_
 cases c with
 | true=>exact hb pins s1 σ H1 Q I1 q1
 | false=>exact ⟨.bl false,H1,I1,rfl,q1⟩
theorem pe_or (ha:PE X a ta) (hb:PE X (.BoolOp .Or (b::rest) pos) tb):PE X (.BoolOp .Or (a::b::rest) pos) (tOrV ta tb):=by
 intro pins s σ H Q I h
 refine BoolOp_or (thn (ha pins s σ H _ I h) fun v s1 ⟨x,H1,I1,r1,q1⟩=>?_)
 obtain ⟨c,rfl,q1⟩:=q1
 cases r1
 refine wpAny_truthy_bool ?_
 cases c with
 | false=>exact hb pins s1 σ H1 Q I1 q1
 | true=>exact ⟨.bl true,H1,I1,rfl,q1⟩
theorem pe_not (ha:PE X a ta):PE X (.UnaryOp .Not a pos) (tNotV ta):=by
 intro pins s σ H Q I h
 refine UnaryOp_ (thn (ha pins s σ H _ I h) fun v s1 ⟨x,H1,I1,r1,q1⟩=>?_)
 obtain ⟨c,rfl,q1⟩:=q1
 cases r1
 exact not_of (wpAny_truthy_bool ⟨.bl (!c),H1,I1,rfl,q1⟩)
def tIf (t:TT) (ta tb:TE):TE:=fun σ H Q=>t σ H fun c H1=>if c=true then ta σ H1 Q else tb σ H1 Q
theorem pe_ifExp {c:Expr} (hc:PT X c tA) (ha:PE X a ta) (hb:PE X b tb):PE X (.IfExp c a b pos) (tIf tA ta tb):=by
 intro pins s σ H Q I h
 refine wpAny_IfExp (thn (hc pins s σ H _ I h) fun d s1 ⟨H1,I1,q1⟩=>?_)
 cases d with
 | true=>exact ha pins s1 σ H1 Q I1 q1
 | false=>exact hb pins s1 σ H1 Q I1 q1
end
def SqL (K:W.Frag) (H:Hp) (a:Addr) (xs:List V):Prop :=
 Rd H a (.lst xs) ∨
  ∃ (o:Obj) (its:Array Value) (n:Nat),K.lookup a=some o/\o.cls=.type "list" /\ o.dict=none/\o.data=.seq its n/\its.size<=sizeLine/\Vals xs its.toList
def SqT (K:W.Frag) (H:Hp) (a:Addr) (xs:List V):Prop :=
 Rd H a (.tup xs) ∨
  ∃ (o:Obj) (its:Array Value) (n:Nat),K.lookup a=some o/\o.cls=.type "tuple" /\ o.data=.seq its n/\its.size<=sizeLine/\Vals xs its.toList
def absV:Value->Option V
 | .none=>some .non
 | .bool b=>some (.bl b)
 | .int i _=>some (.int i)
 | .str x _=>some (.str x)
 | .bytes b _=>some (.byt b)
 | .float b _=>some (.flt b)
 | .ref a=>some (.ref a)
 | .type n=>some (.ty n)
 | _=>none
theorem RelV.abs {x:V} {u:Value} (r:RelV x u):absV u=some x:=by
 cases x with
 | non=>cases r; rfl
 | bl _=>cases r; rfl
 | int _=>obtain ⟨t,rfl⟩:=r; rfl
 | str _=>obtain ⟨t,rfl⟩:=r; rfl
 | byt _=>obtain ⟨t,rfl⟩:=r; rfl
 | flt _=>obtain ⟨t,rfl⟩:=r; rfl
 | ref _=>cases r; rfl
 | ty _=>cases r; rfl
theorem RelV.inj {x y:V} {u:Value} (r:RelV x u) (q:RelV y u):x=y:=Option.some.inj (r.abs.symm.trans q.abs)
theorem Vals.inj:∀ {xs ys:List V} {us:List Value},Vals xs us->Vals ys us->xs=ys
 | _,_,_,.nil,.nil=>rfl
 | _,_,_,.cons r t,.cons r' t'=>by rw [r.inj r',Vals.inj t t']
section
variable {X:Cx} {pins:List (Addr × Obj)} {σ:St} {H:Hp} {s:Shared} {a:Addr} {xs ys:List V}
theorem SqL.of {K:W.Frag} (h:H a=some (.lst xs)):SqL K H a xs:=.inl (.inl h)
theorem SqT.of {K:W.Frag} (h:H a=some (.tup xs)):SqT K H a xs:=.inl (.inl h)
theorem Inv.list (I:Inv X pins σ H s) (h:SqL X.K H a xs):∃ its:List Value,Vals xs its/\PlainL s.heap a its.toArray/\xs.length<=sizeLine:=by
 rcases h with h | ⟨o,its,n,hk,hc,hd,hs,hz,r⟩
 . obtain ⟨z,its,n,r,e⟩:=h.ok I.hok
   exact ⟨its,r,⟨_,n,e,rfl,rfl,rfl⟩,z⟩
 . refine ⟨its.toList,r,⟨o,n,I.kIn a o hk,hc,hd,by simpa using hs⟩,?_⟩
   have e:=r.length
   simp only [Array.length_toList] at e
   omega
theorem Inv.tuple (I:Inv X pins σ H s) (h:SqT X.K H a xs):∃ its:List Value,Vals xs its/\IsTup s.heap a its.toArray/\xs.length<=sizeLine:=by
 rcases h with h | ⟨o,its,n,hk,hc,hs,hz,r⟩
 . obtain ⟨z,its,r,p,_⟩:=h.ok I.hok
   exact ⟨its,r,p,z⟩
 . refine ⟨its.toList,r,⟨o,I.kIn a o hk,hc,n,by simpa using hs⟩,?_⟩
   have e:=r.length
   simp only [Array.length_toList] at e
   omega
theorem Inv.list_inj (I:Inv X pins σ H s) (h:SqL X.K H a xs) (h':SqL X.K H a ys):xs=ys:=by
 obtain ⟨its,r,⟨o,n,e,_,_,d⟩,_⟩:=I.list h
 obtain ⟨its',r',⟨o',n',e',_,_,d'⟩,_⟩:=I.list h'
 rw [e] at e'; cases e'
 rw [d] at d'
 injection d' with d1 _
 have:its=its':=by simpa using congrArg Array.toList d1
 subst this
 exact r.inj r'
theorem Inv.tuple_inj (I:Inv X pins σ H s) (h:SqT X.K H a xs) (h':SqT X.K H a ys):xs=ys:=by
 obtain ⟨its,r,⟨o,e,_,n,d⟩,_⟩:=I.tuple h
 obtain ⟨its',r',⟨o',e',_,n',d'⟩,_⟩:=I.tuple h'
 rw [e] at e'; cases e'
 rw [d] at d'
 injection d' with d1 _
 have:its=its':=by simpa using congrArg Array.toList d1
 subst this
 exact r.inj r'
end
abbrev Cx.wish (X:Cx) (E:Value->Shared->Prop):Cx:={ X with xe:=E }
abbrev Cx.nox (X:Cx):Cx:=X.wish fun _ _=>False
theorem Cx.Ok.wish {X:Cx} (ok:X.Ok) (E:Value->Shared->Prop):(X.wish E).Ok :=
 ⟨ok.mod,ok.kind,ok.glob,ok.blt,ok.above,ok.inj,ok.has,ok.cab,ok.hd,ok.frames,ok.stk,ok.exf,ok.bs,ok.bsz,ok.noex,ok.exfs,ok.funs,ok.frf⟩
theorem Cx.Ok.unwish {X:Cx} {E:Value->Shared->Prop} (ok:(X.wish E).Ok):X.Ok :=
 ⟨ok.mod,ok.kind,ok.glob,ok.blt,ok.above,ok.inj,ok.has,ok.cab,ok.hd,ok.frames,ok.stk,ok.exf,ok.bs,ok.bsz,ok.noex,ok.exfs,ok.funs,ok.frf⟩
section
variable {X:Cx} {pins:List (Addr × Obj)} {σ:St} {H:Hp} {s:Shared} {E:Value->Shared->Prop}
theorem Inv.wish (I:Inv X pins σ H s) (E:Value->Shared->Prop):Inv (X.wish E) pins σ H s:=⟨I.ok.wish E,I.os,I.bare,I.base,I.loc,I.cell,I.free,I.freeC,I.pin,I.hok,I.len⟩
theorem Inv.unwish (I:Inv (X.wish E) pins σ H s):Inv X pins σ H s:=⟨I.ok.unwish,I.os,I.bare,I.base,I.loc,I.cell,I.free,I.freeC,I.pin,I.hok,I.len⟩
theorem SP.unwish {D:Ends} {f:Flow} {s':Shared} (h:SP (X.wish E) pins D f s'):SP X pins D f s':=by
 cases f with
 | next=>obtain ⟨σ',H',I,q⟩:=h; exact ⟨σ',H',I.unwish,q⟩
 | brk=>obtain ⟨σ',H',I,q⟩:=h; exact ⟨σ',H',I.unwish,q⟩
 | cont=>obtain ⟨σ',H',I,q⟩:=h; exact ⟨σ',H',I.unwish,q⟩
 | ret u=>obtain ⟨v,σ',H',I,r,q⟩:=h; exact ⟨v,σ',H',I.unwish,r,q⟩
theorem PSs.nox {st:List Stmt} {t:TS} (h:PSs X.nox st t):PSs X st t:=fun pins s σ H D I hw =>
 wpAny_mono (h pins s σ H D (I.wish _) hw) (fun _ _ q=>q.unwish) fun _ _ z=>False.elim z
end
section
variable {X:Cx} {st:Stmt} {rest:List Stmt} {t u:TS} {e:Expr} {te:TE} {pos:Pos}
def tNext:TS:=fun D σ H=>D.nx σ H
def tSeq (t u:TS):TS:=fun D σ H=>t { D with nx:=u D } σ H
theorem ax:PSs X [] tNext:=fun _ _ σ H _ I h=>wpAny_execs_nil ⟨σ,H,I,h⟩
theorem ac (h1:PS X st t) (h2:PSs X rest u):PSs X (st::rest) (tSeq t u):=by
 intro pins s σ H D I h
 refine wpAny_execs_cons (thn (h1 pins s σ H { D with nx:=u D } I h) fun f s1 q=>?_)
 cases f with
 | next =>
   obtain ⟨σ',H',I',q⟩:=q
   exact h2 pins s1 σ' H' D I' q
 | ret v=>exact q
 | brk=>exact q
 | cont=>exact q
theorem af (h1:PS X st t):PSs X [st] t:=by
 intro pins s σ H D I h
 refine wpAny_execs_cons (thn (h1 pins s σ H D I h) fun f s1 q=>?_)
 cases f with
 | next=>exact wpAny_execs_nil q
 | ret v=>exact q
 | brk=>exact q
 | cont=>exact q
theorem Inv.quiet {pins:List (Addr × Obj)} {σ:St} {H:Hp} {s:Shared} (I:Inv X pins σ H s):interactive X.env=false:=by simp [interactive,I.ok.kind]
def tDrop (te:TE):TS:=fun D σ H=>te σ H fun _ H1=>D.nx σ H1
theorem dc (he:PE X e te) (hs:swapsWith e none pos.line X.env=pure false:=by rfl):PS X (.Expr e pos) (tDrop te):=by
 intro pins s σ H D I h
 exact wpAny_Expr_any (thn (he pins s σ H _ I h) fun v s1 ⟨x,H1,I1,r1,q1⟩=>⟨σ,H1,I1,q1⟩) I.quiet hs
def tRet (te:TE):TS:=fun D σ H=>te σ H D.rt
theorem ao (he:PE X e te):PS X (.Return (some e) pos) (tRet te):=by
 intro pins s σ H D I h
 exact wpAny_Return_some (thn (he pins s σ H _ I h) fun v s1 ⟨x,H1,I1,r1,q1⟩=>⟨x,σ,H1,I1,r1,q1⟩)
def tIfS (c:TT) (t u:TS):TS:=fun D σ H=>c σ H fun b H1=>if b=true then t D σ H1 else u D σ H1
theorem aG {c:Expr} {a b:List Stmt} {tc:TT} (hc:PT X c tc) (ha:PSs X a t) (hb:PSs X b u):PS X (.If c a b pos) (tIfS tc t u):=by
 intro pins s σ H D I h
 refine wpAny_If (thn (hc pins s σ H _ I h) fun d s1 ⟨H1,I1,q1⟩=>?_)
 cases d with
 | true=>exact ha pins s1 σ H1 D I1 q1
 | false=>exact hb pins s1 σ H1 D I1 q1
def tNever:TS:=fun _ _ _=>False
theorem pss_never {sts:List Stmt}:PSs X sts tNever:=fun _ _ _ _ _ _ h=>h.elim
end
abbrev TG:=V->St->Hp->(St->Hp->Prop)->Prop
abbrev TGs:=List V->St->Hp->(St->Hp->Prop)->Prop
def PG (X:Cx) (target:Expr) (t:TG):Prop :=
 ∀ (pins:List (Addr × Obj)) (s:Shared) (σ:St) (H:Hp) (v:V) (u:Value) (Q:St->Hp->Prop),Inv X pins σ H s->RelV v u->t v σ H Q ->
  wpAny (model X.prog X.w) X.A (assign target X.env u) (fun _ s'=>∃ σ' H',Inv X pins σ' H' s'/\Q σ' H') X.xe s
def PGs (X:Cx) (ts:List Expr) (t:TGs):Prop :=
 ∀ (pins:List (Addr × Obj)) (s:Shared) (σ:St) (H:Hp) (vs:List V) (us:List Value) (Q:St->Hp->Prop),Inv X pins σ H s->Vals vs us->t vs σ H Q ->
  wpAny (model X.prog X.w) X.A (assignInOrder ((assignEach ts X.env).map (·.2)) us) (fun _ s'=>∃ σ' H',Inv X pins σ' H' s'/\Q σ' H') X.xe s
abbrev TSet:=V->V->V->Hp->(Hp->Prop)->Prop
def PSet (X:Cx) (t:TSet):Prop :=
 ∀ (pins:List (Addr × Obj)) (s:Shared) (σ:St) (H:Hp) (o i v:V) (ov iv u:Value) (Q:Hp->Prop),Inv X pins σ H s->RelV o ov->RelV i iv->RelV v u->t o i v H Q ->
  wpAny (model X.prog X.w) X.A (setItem ov iv u) (fun _ s'=>∃ H',Inv X pins σ H' s'/\Q H') X.xe s
section
variable {X:Cx} {pos:Pos}
def gName (i:Nat):TG:=fun v σ H Q=>Q (σ.set i (some v)) H
theorem aS {i:Nat} {x:Str} (hN:X.N.Nodup) (hi:X.N[i]?=some x) (hx:Loc X.env.scope x) (hf:X.fn x=true∨X.env.scope.names.lookup x=some .local:=by first | exact .inl rfl | exact .inr rfl | assumption):PG X (.Name x pos) (gName i):=by
 intro pins s σ H v u Q I r h
 exact wpAny_assign_Name (store_ok I hN hi hx r (fun s' I'=>⟨_,H,I',h⟩) hf)
def gNil:TGs:=fun vs σ H Q=>vs=[]/\Q σ H
def gCons (t:TG) (u:TGs):TGs:=fun vs σ H Q=>∃ v r,vs=v::r/\t v σ H fun σ' H'=>u r σ' H' Q
theorem pgs_nil:PGs X [] gNil:=by
 intro pins s σ H vs us Q I r h
 obtain ⟨e,h⟩:=h
 subst e
 cases r
 exact assignInOrder_nil ⟨σ,H,I,h⟩
theorem bD {e:Expr} {es:List Expr} {t:TG} {u:TGs} (h1:PG X e t) (h2:PGs X es u)
 (hs:(assignEach (e::es) X.env).map (·.2)=assign e X.env::(assignEach es X.env).map (·.2):=by rfl):PGs X (e::es) (gCons t u):=by
 intro pins s σ H vs us Q I r h
 obtain ⟨v,vr,e1,h⟩:=h
 subst e1
 cases r with
 | cons r rr =>
   rw [hs]
   refine assignInOrder_cons (thn (h1 pins s σ H _ _ _ I r h) fun _ s1 ⟨σ1,H1,I1,q1⟩=>?_)
   exact h2 pins s1 σ1 H1 _ _ Q I1 rr q1
def gTup (K:W.Frag) (n:Nat) (t:TGs):TG:=fun v σ H Q=>∃ a xs,v=.ref a/\SqT K H a xs/\xs.length=n/\t xs σ H Q
theorem pg_tup {es:List Expr} {k:Nat} {t:TGs} {n:Nat} (hc:X.calm=true) (h:PGs X es t)
 (hn:(assignEach es X.env).length=n:=by rfl) (hst:(assignEach es X.env).findIdx? (·.1)=none:=by rfl):PG X (.Tuple es k pos) (gTup X.K n t):=by
 intro pins s σ H v u Q I r hw
 obtain ⟨a,xs,e1,hq,hl,hw⟩:=hw
 subst e1
 cases r
 obtain ⟨its,rv,ht,hz⟩:=I.tuple hq
 refine assign_Tuple_tuple (I.ok.hd hc) ht (by simp [hn,← hl,rv.length]) hst fun h' hx=>?_
 have I1:Inv X pins σ H { s with heap:=h' }:=I.kept (t':=s.toks) fun b o e=>hx b o (Nat.ne_of_lt (Heap.lt_size e)) e
 exact h pins _ σ H xs _ Q I1 (by simpa using rv) hw
def gSub (to ti:TE) (t:TSet):TG:=fun v σ H Q=>to σ H fun o H1=>ti σ H1 fun i H2=>t o i v H2 fun H3=>Q σ H3
theorem pg_sub {o i:Expr} {to ti:TE} {t:TSet} (ho:PE X o to) (hi:PE X i ti) (hs:PSet X t)
 (ha:∀ v,assign (.Subscript o i pos) X.env v=(do
  let ov ← holding [v] (eval o X.env)
  let iv ← holding [v,ov] (eval i X.env)
  standAt pos
  holding [v,ov,iv] (setItem ov iv v)
  release [v,ov,iv] []):=by intro _; rfl):PG X (.Subscript o i pos) (gSub to ti t):=by
 intro pins s σ H v u Q I r h
 rw [ha]
 refine wpAny_bind (wpAny_holding (thn (ho pins s σ H _ I h) fun ov s1 ⟨x,H1,I1,r1,q1⟩=>?_))
 refine wpAny_bind (wpAny_holding (thn (hi pins s1 σ H1 _ I1 q1) fun iv s2 ⟨y,H2,I2,r2,q2⟩=>?_))
 refine wpAny_bind (wpAny_standAt (wpAny_bind (wpAny_holding (thn (hs pins s2 σ H2 x y v ov iv u _ I2 r1 r2 r q2) fun _ s3 ⟨H3,I3,q3⟩=>?_))))
 exact wpAny_release ⟨σ,H3,I3,q3⟩
def tAsg (te:TE) (g:TG):TS:=fun D σ H=>te σ H fun x H1=>g x σ H1 D.nx
theorem ps_asg {tg e:Expr} {te:TE} {g:TG} (he:PE X e te) (hg:PG X tg g) (hs:swapsWithSole [tg] e pos.line X.env=pure false:=by rfl) (hw:swappedStores [tg] e X.env=pure none:=by rfl)
 (h1:(assignEach [tg] X.env).map (·.2)=[assign tg X.env]:=by rfl):PS X (.Assign [tg] e pos) (tAsg te g):=by
 intro pins s σ H D I h
 refine wpAny_Assign_stores (thn (he pins s σ H _ I h) fun v s1 ⟨x,H1,I1,r1,q1⟩=>?_) hs hw
 rw [h1]
 exact thn (hg pins s1 σ H1 x v _ I1 r1 q1) fun _ s2 q=>q
theorem ak {i:Nat} {x:Str} {e:Expr} {te:TE} {pos':Pos} (hN:X.N.Nodup) (hi:X.N[i]?=some x) (hx:Loc X.env.scope x) (he:PE X e te) (hs:swapsWith e (some (.Name x pos')) pos.line X.env=pure false:=by rfl) (hf:X.fn x=true∨X.env.scope.names.lookup x=some .local:=by first | exact .inl rfl | exact .inr rfl | assumption) :
 PS X (.Assign [.Name x pos'] e pos) (tAsg te (gName i)):=by
 intro pins s σ H D I h
 refine wpAny_Assign_Name (thn (he pins s σ H _ I h) fun v s1 ⟨y,H1,I1,r1,q1⟩=>?_) hs
 exact store_ok I1 hN hi hx r1 (fun s2 I2=>⟨_,H1,I2,q1⟩) hf
end
section
variable {X:Cx} {pos:Pos}
def tWhile (c:TT) (tb:TS):TS:=fun D σ H=>∃ W:Nat->St->Hp->Prop,(∃ m,W m σ H)/\∀ m σ H,W m σ H ->
 c σ H fun b H1=>if b=true then ∃ N:St->Hp->Prop,(∀ σ' H',N σ' H'->∃ m',m' < m/\W m' σ' H')/\tb { D with nx:=N,ct:=N,bk:=D.nx } σ H1 else D.nx σ H1
theorem ps_while {c:Expr} {body:List Stmt} {tc:TT} {tb:TS} (hp:PassesOwn (model X.prog X.w) X.A X.env X.xe) (hc:PT X c tc) (hb:PSs X body tb):PS X (.While c body [] pos) (tWhile tc tb):=by
 intro pins s σ H D I h
 obtain ⟨W,⟨m0,w0⟩,turn⟩:=h
 refine wpAny_While (codeAny_whileLoop (fun n s'=>∃ σ' H',Inv X pins σ' H' s'/\W n σ' H') ?_ m0 ⟨σ,H,I,w0⟩)
 rintro n s1 ⟨σ1,H1,I1,w1⟩
 refine wpAny_passesOwn hp (thn (hc pins s1 σ1 H1 _ I1 (turn n σ1 H1 w1)) fun b s2 ⟨H2,I2,q2⟩=>?_)
 cases b with
 | true =>
   obtain ⟨N,hN,q2⟩:=q2
   rw [if_pos rfl]
   refine wpAny_passesOwn hp (thn (hb pins s2 σ1 H2 _ I2 q2) fun f s3 q3=>?_)
   cases f with
   | next =>
     obtain ⟨σ3,H3,I3,n3⟩:=q3
     obtain ⟨m',hm,w3⟩:=hN σ3 H3 n3
     exact ⟨m',hm,σ3,H3,I3,w3⟩
   | cont =>
     obtain ⟨σ3,H3,I3,n3⟩:=q3
     obtain ⟨m',hm,w3⟩:=hN σ3 H3 n3
     exact ⟨m',hm,σ3,H3,I3,w3⟩
   | brk=>exact q3
   | ret v=>exact q3
 | false =>
   rw [if_neg Bool.false_ne_true]
   exact wpAny_execs_nil ⟨σ1,H2,I2,q2⟩
end
structure It where
 go:Nat->Hp->Prop
 yld:Nat->Hp->V->Hp->Prop
 stop:Nat->Hp->Prop
def FpOk (X:Cx) (pins:List (Addr × Obj)) (H:Hp) (b:Addr):Prop :=
 H b=none/\b ≠ X.env.locals/\b ∉ X.fs/\(b ∈ X.ex∨X.s₀.heap.objs.size<=b)/\(∀ x c,X.env.cells.lookup x=some c->c ≠ b)/\∀ p ∈ X.pn++pins,p.1 ≠ b
theorem Inv.fpOk {X:Cx} {pins:List (Addr × Obj)} {σ:St} {H H':Hp} {s:Shared} {b:Addr} (I:Inv X pins σ H s) (hb:s.heap.objs.size<=b) (hn:H' b=none):FpOk X pins H' b:=by
 refine ⟨hn,Nat.ne_of_gt (Nat.lt_of_lt_of_le I.lt hb),I.nofs hb,.inr (Nat.le_trans I.sz hb),fun x c e z=>?_,fun p hp z=>?_⟩
 . obtain ⟨v,q⟩:=I.cell x c e
   exact absurd (Nat.lt_of_lt_of_le q.lt (by rw [z]; exact hb)) (Nat.lt_irrefl _)
 . exact absurd (Nat.lt_of_lt_of_le (Heap.lt_size (I.pin p hp).1) (by rw [z]; exact hb)) (Nat.lt_irrefl _)
structure Turn (P:Program) (w:World) (K:W.Frag) (tg:Expr) (J:It) (fp:List Addr) (it:Addr) (tn:Nat->Heap->Prop):Prop where
 mem:it ∈ fp
 obj:∀ i h,tn i h->∀ b ∈ fp,∃ o,h.get? b=some o/\∀ v,o.data ≠ .cell v
 keep:∀ i h h',tn i h->(∀ b ∈ fp,∀ o,h.get? b=some o->h'.get? b=some o)->tn i h'
 item:∀ (X:Cx),X.prog=P->X.w=w->X.K=K->X.calm=true->∀ (i:Nat) (pins:List (Addr × Obj)) (s:Shared) (σ:St) (H:Hp) (E:Value->Shared->Prop),Inv X pins σ H s->(∀ b ∈ fp,FpOk X pins H b)->tn i s.heap->J.go i H ->
  wpAny (model P w) X.A (pyNext (.ref it)) (fun r s1=>∃ u,r=some u /\
   wpAny (model P w) X.A (letOwnedTupleGo tg (.ref it) u) (fun _ s2=>∃ x H',Inv X pins σ H' s2/\RelV x u/\J.yld i H x H'/\tn (i+1) s2.heap/\∀ b ∈ fp,H' b=none) E s1) E s
 done:∀ (X:Cx),X.prog=P->X.w=w->X.K=K->X.calm=true->∀ (i:Nat) (pins:List (Addr × Obj)) (s:Shared) (σ:St) (H:Hp) (E:Value->Shared->Prop),Inv X pins σ H s->(∀ b ∈ fp,FpOk X pins H b)->tn i s.heap->J.stop i H ->
  wpAny (model P w) X.A (pyNext (.ref it)) (fun r s1=>r=none/\Inv X pins σ H s1) E s
 self:∀ (A:Around) (i:Nat) (s:Shared) (Q:Value->Shared->Prop) (E:Value->Shared->Prop),tn i s.heap->Q (.ref it) s->wpAny (model P w) A (pyIter (.ref it)) Q E s
abbrev TI:=St->Hp->(It->Hp->Prop)->Prop
def PIE (X:Cx) (pins:List (Addr × Obj)) (σ:St) (tg:Expr) (R:It->Hp->Prop) (itv:Value) (s2:Shared):Prop :=
 ∃ (it:Addr) (fp:List Addr) (tn:Nat->Heap->Prop) (J:It) (H':Hp),itv=.ref it/\Inv X pins σ H' s2/\Turn X.prog X.w X.K tg J fp it tn/\tn 0 s2.heap/\(∀ b ∈ fp,FpOk X pins H' b)/\R J H'
def PI (X:Cx) (tg iter:Expr) (wi:TI):Prop :=
 ∀ (pins:List (Addr × Obj)) (s:Shared) (σ:St) (H:Hp) (R:It->Hp->Prop),Inv X pins σ H s->wi σ H R ->
  wpAny (model X.prog X.w) X.A (eval iter X.env) (fun v s1=>wpAny (model X.prog X.w) X.A (pyIter v) (PIE X pins σ tg R) X.xe s1) X.xe s
theorem go_of {M:Model} {A:Around} {E:Value->Shared->Prop} {s:Shared} {tg:Expr} {it:Addr} {u:Value} {o:Obj} {n:String} {vs:Array Value} {Q:Unit->Shared->Prop} (ho:s.heap.get? it=some o) (hc:o.cls=.type n) (hd:o.data=.fields vs)
 (hn:["enumerate", "zip", "dict_itemiterator", "dict_reverseitemiterator", "odict_iterator", "itertools.zip_longest", "itertools.pairwise"].contains n=false) (hQ:Q () s):wpAny M A (letOwnedTupleGo tg (.ref it) u) Q E s:=by
 unfold letOwnedTupleGo
 cases tg <;> first
  | exact wpAny_pure hQ
  | (cases u <;> first
   | exact wpAny_pure hQ
   | (refine wpAny_bind (wpAny_load ho ?_)
      rw [hc,hd]
      show wpAny M A (if (["enumerate", "zip", "dict_itemiterator", "dict_reverseitemiterator", "odict_iterator", "itertools.zip_longest", "itertools.pairwise"].contains n && vs[0]? == some (rawInt _))=true then _ else _) Q E s
      rw [if_neg (by intro h; rw [hn,Bool.false_and] at h; cases h)]
      exact wpAny_pure hQ))
def Itl (K:W.Frag) (a:Addr):It :=
 ⟨fun i H=>∃ xs x,SqL K H a xs/\xs[i]?=some x,fun i H x H'=>H'=H/\∀ xs,SqL K H a xs->xs[i]?=some x,fun i H=>∃ xs,SqL K H a xs/\xs.length<=i⟩
def Itt (K:W.Frag) (a:Addr):It :=
 ⟨fun i H=>∃ xs x,SqT K H a xs/\xs[i]?=some x,fun i H x H'=>H'=H/\∀ xs,SqT K H a xs->xs[i]?=some x,fun i H=>∃ xs,SqT K H a xs/\xs.length<=i⟩
def Itr (lo:Int) (n:Nat):It:=⟨fun i _=>i < n,fun i H x H'=>H'=H/\x=.int (lo+i),fun i _=>n<=i⟩
theorem turn_list {P:Program} {w:World} {K:W.Frag} {tg:Expr} (a it:Addr):Turn P w K tg (Itl K a) [it] it (fun i h=>h.IsListIter it a i) where
 mem:=by simp
 obj:=fun i h st b hb=>by
  have e:b=it:=by simpa using hb
  subst e
  obtain ⟨o,e,c,d⟩:=st
  exact ⟨o,e,fun v z=>by rw [d] at z; cases z⟩
 keep:=fun i h h' st k=>st.at fun o e=>k it (by simp) o e
 item:=by
  intro X hP hw hK hc i pins s σ H E I hf st hg
  subst hP hw hK
  obtain ⟨xs,x,hq,hx⟩:=hg
  obtain ⟨its,rv,p,hz⟩:=I.list hq
  obtain ⟨u,hu,ru⟩:=rv.get hx
  obtain ⟨f0,f1,f2,f3,f4,f5⟩:=hf it (by simp)
  refine wpAny_pyNext_list_item st p.isList (x:=u) (by simpa using hu) fun h' st' sb=>?_
  have I1:Inv X pins σ H { s with heap:=h' }:=I.turned (t':=s.toks) (fun b o hb e=>(sb.2 b hb).trans e) f0 f1 f3 f4 f5
  obtain ⟨o,e,c,d⟩:=id st'
  exact ⟨u,rfl,go_of (s:={ s with heap:=h' }) e c d (by decide) ⟨x,H,I1,ru,⟨rfl,fun ys hy=>by rw [I.list_inj hy hq]; exact hx⟩,st',fun b hb=>(hf b hb).1⟩⟩
 done:=by
  intro X hP hw hK hc i pins s σ H E I hf st hg
  subst hP hw hK
  obtain ⟨xs,hq,hx⟩:=hg
  obtain ⟨its,rv,p,hz⟩:=I.list hq
  obtain ⟨f0,f1,f2,f3,f4,f5⟩:=hf it (by simp)
  have hl:=rv.length
  exact wpAny_pyNext_list_end (I.ok.hd hc) st p.isList (by simp; omega) fun h' eb=>⟨rfl,I.turned (t':=s.toks) (fun b o hb e=>eb b o hb e) f0 f1 f3 f4 f5⟩
 self:=fun _ _ _ _ _ st h=>wpAny_pyIter_listiter st h
theorem turn_tuple {P:Program} {w:World} {K:W.Frag} {tg:Expr} (a it:Addr):Turn P w K tg (Itt K a) [it] it (fun i h=>h.IsTupleIter it a i) where
 mem:=by simp
 obj:=fun i h st b hb=>by
  have e:b=it:=by simpa using hb
  subst e
  obtain ⟨o,e,c,d⟩:=st
  exact ⟨o,e,fun v z=>by rw [d] at z; cases z⟩
 keep:=fun i h h' st k=>st.at fun o e=>k it (by simp) o e
 item:=by
  intro X hP hw hK hc i pins s σ H E I hf st hg
  subst hP hw hK
  obtain ⟨xs,x,hq,hx⟩:=hg
  obtain ⟨its,rv,p,hz⟩:=I.tuple hq
  obtain ⟨u,hu,ru⟩:=rv.get hx
  obtain ⟨f0,f1,f2,f3,f4,f5⟩:=hf it (by simp)
  refine wpAny_pyNext_tuple_item st (show s.heap.IsTuple a its.toArray from p) (x:=u) (by simpa using hu) fun h' st' sb=>?_
  have I1:Inv X pins σ H { s with heap:=h' }:=I.turned (t':=s.toks) (fun b o hb e=>(sb.2 b hb).trans e) f0 f1 f3 f4 f5
  obtain ⟨o,e,c,d⟩:=id st'
  exact ⟨u,rfl,go_of (s:={ s with heap:=h' }) e c d (by decide) ⟨x,H,I1,ru,⟨rfl,fun ys hy=>by rw [I.tuple_inj hy hq]; exact hx⟩,st',fun b hb=>(hf b hb).1⟩⟩
 done:=by
  intro X hP hw hK hc i pins s σ H E I hf st hg
  subst hP hw hK
  obtain ⟨xs,hq,hx⟩:=hg
  obtain ⟨its,rv,p,hz⟩:=I.tuple hq
  obtain ⟨f0,f1,f2,f3,f4,f5⟩:=hf it (by simp)
  have hl:=rv.length
  exact wpAny_pyNext_tuple_end (I.ok.hd hc) st (show s.heap.IsTuple a its.toArray from p) (by simp; omega) fun h' eb=>⟨rfl,I.turned (t':=s.toks) (fun b o hb e=>eb b o hb e) f0 f1 f3 f4 f5⟩
 self:=fun _ _ _ _ _ st h=>wpAny_pyIter_tupleiter st h
theorem turn_range {P:Program} {w:World} {K:W.Frag} {tg:Expr} (it:Addr) (lo:Int) (n:Nat):Turn P w K tg (Itr lo n) [it] it (fun i h=>IsRangeIter h it (lo+(i:Nat)*1) ((n:Int) - (i:Nat)) 1) where
 mem:=by simp
 obj:=fun i h st b hb=>by
  have e:b=it:=by simpa using hb
  subst e
  exact ⟨_,st,fun v z=>by
   have z':Data.fields _=Data.cell v:=z
   cases z'⟩
 keep:=fun i h h' st k=>k it (by simp) _ st
 item:=by
  intro X hP hw hK hc i pins s σ H E I hf st hg
  subst hP hw hK
  obtain ⟨f0,f1,f2,f3,f4,f5⟩:=hf it (by simp)
  have W:=Walks.range (prog:=X.prog) (w:=X.w) (I.ok.hd hc) it lo 1 n
  refine W.item i s _ _ hg st fun v h' tk hv st' kk=>?_
  obtain ⟨t,rfl⟩:=hv
  have I1:Inv X pins σ H { s with heap:=h',toks:=tk }:=I.turned (fun b o hb e=>kk b o (by simpa using hb) e) f0 f1 f3 f4 f5
  refine ⟨_,rfl,go_of (s:={ s with heap:=h',toks:=tk }) (n := "range_iterator") st' rfl rfl (by decide) ⟨.int (lo+i),H,I1,⟨t,?_⟩,⟨rfl,rfl⟩,st',fun b hb=>(hf b hb).1⟩⟩
  rw [Int.mul_one]
 done:=by
  intro X hP hw hK hc i pins s σ H E I hf st hg
  subst hP hw hK
  obtain ⟨f0,f1,f2,f3,f4,f5⟩:=hf it (by simp)
  exact wpAny_pyNext_range_end (I.ok.hd hc) st (by have:n<=i:=hg; omega) fun h' eb=>⟨rfl,I.turned (t':=s.toks) (fun b o hb e=>eb b o hb e) f0 f1 f3 f4 f5⟩
 self:=fun _ _ _ _ _ st h=>wpAny_pyIter_rangeiter st h
section
variable {X:Cx} {tg:Expr}
def iList (K:W.Frag) (tl:TE):TI:=fun σ H R=>tl σ H fun x H1=>∃ a,x=.ref a/\(∃ xs,SqL K H1 a xs)/\R (Itl K a) H1
def iTup (K:W.Frag) (tl:TE):TI:=fun σ H R=>tl σ H fun x H1=>∃ a,x=.ref a/\(∃ xs,SqT K H1 a xs)/\R (Itt K a) H1
theorem cN {l:Expr} {tl:TE} (hl:PE X l tl):PI X tg l (iList X.K tl):=by
 intro pins s σ H R I h
 refine thn (hl pins s σ H _ I h) fun v s1 ⟨x,H1,I1,r1,q1⟩=>?_
 obtain ⟨a,e,⟨xs,hq⟩,q⟩:=q1
 subst e
 cases r1
 obtain ⟨its,rv,p,hz⟩:=I1.list hq
 refine wpAny_pyIter_list p.isList ?_
 refine ⟨s1.heap.objs.size,[s1.heap.objs.size],_,_,H1,rfl,I1.kept (t':=s1.toks) fun b o e=>Heap.get?_push_of_some _ e,turn_list a _,⟨_,Heap.get?_push_size _ rfl,rfl,rfl⟩,fun b hb=>?_,q⟩
 have e:b=s1.heap.objs.size:=by simpa using hb
 subst e
 exact I1.fpOk (Nat.le_refl _) (I1.hok.fresh (Nat.le_refl _))
theorem pi_tup {l:Expr} {tl:TE} (hl:PE X l tl):PI X tg l (iTup X.K tl):=by
 intro pins s σ H R I h
 refine thn (hl pins s σ H _ I h) fun v s1 ⟨x,H1,I1,r1,q1⟩=>?_
 obtain ⟨a,e,⟨xs,hq⟩,q⟩:=q1
 subst e
 cases r1
 obtain ⟨its,rv,p,hz⟩:=I1.tuple hq
 refine wpAny_pyIter_tuple (show s1.heap.IsTuple a its.toArray from p) ?_
 refine ⟨s1.heap.objs.size,[s1.heap.objs.size],_,_,H1,rfl,I1.kept (t':=s1.toks) fun b o e=>Heap.get?_push_of_some _ e,turn_tuple a _,⟨_,Heap.get?_push_size _ rfl,rfl,rfl⟩,fun b hb=>?_,q⟩
 have e:b=s1.heap.objs.size:=by simpa using hb
 subst e
 exact I1.fpOk (Nat.le_refl _) (I1.hok.fresh (Nat.le_refl _))
theorem range_it {pins:List (Addr × Obj)} {σ:St} {H:Hp} {s:Shared} {R:It->Hp->Prop} {E:Value->Shared->Prop} {lo hi:Int} {t u v:Tok} {tk:Nat} (I:Inv X pins σ H s) (h1:-(2 ^ 62)<=lo) (h2:lo < 2 ^ 62) (h3:-(2 ^ 62)<=hi) (h4:hi < 2 ^ 62)
 (q:R (Itr lo (hi - lo).toNat) H):wpAny (model X.prog X.w) X.A (pyIter (.ref s.heap.objs.size)) (PIE X pins σ tg R) E { s with heap:=s.heap.push { cls:=.type "range", data:=.fields #[.int lo t,.int hi u,.int 1 v] },toks:=tk }:=by
 refine wpAny_pyIter_range (IsRange.new ..) (small_one h1 h2 h3 h4) ?_
 have I1:Inv X pins σ H { s with heap:=s.heap.push { cls:=.type "range", data:=.fields #[.int lo t,.int hi u,.int 1 v] },toks:=tk }:=I.kept fun b o e=>Heap.get?_push_of_some _ e
 refine ⟨(s.heap.push { cls:=.type "range", data:=.fields #[.int lo t,.int hi u,.int 1 v] }).objs.size,[(s.heap.push { cls:=.type "range", data:=.fields #[.int lo t,.int hi u,.int 1 v] }).objs.size],_,_,H,rfl,
  I1.kept (t':=tk) fun b o e=>Heap.get?_push_of_some _ e,turn_range _ lo (hi - lo).toNat,?_,fun b hb=>?_,q⟩
 . have e1:lo+((0:Nat):Int)*1=lo:=by simp
   have e2:(((hi - lo).toNat:Nat):Int) - ((0:Nat):Int)=Builtin.Range.rangeSize lo hi 1:=by rw [rangeSize_one]; split <;> omega
   show IsRangeIter _ _ (lo+((0:Nat):Int)*1) ((((hi - lo).toNat:Nat):Int) - ((0:Nat):Int)) 1
   rw [e1,e2]
   exact Heap.get?_push_size _ rfl
 . have e:b=(s.heap.push { cls:=.type "range", data:=.fields #[.int lo t,.int hi u,.int 1 v] }).objs.size:=by simpa using hb
   subst e
   exact I1.fpOk (Nat.le_refl _) (I1.hok.fresh (Nat.le_refl _))
def iRng1 (ta:TA):TI:=fun σ H R=>ta σ H fun vs H1=>∃ j:Int,vs=[.int j]/\-(2 ^ 62)<=j/\j < 2 ^ 62/\R (Itr 0 j.toNat) H1
def iRng2 (ta:TA):TI:=fun σ H R=>ta σ H fun vs H1=>∃ i j:Int,vs=[.int i,.int j]/\(-(2 ^ 62)<=i/\i < 2 ^ 62/\-(2 ^ 62)<=j/\j < 2 ^ 62)/\R (Itr i (j - i).toNat) H1
theorem bp {a:Expr} {ta:TA} {p pos:Pos} (hg:Gl X "range") (hm:X.mg "range" = none) (ha:PA X [a] ta) (hs:starEach [a] X.env=[(false,eval a X.env)]:=by rfl):PI X tg (.Call (.Name "range" p) [a] [] pos) (iRng1 ta):=by
 intro pins s σ H R I h
 refine Call_ (ld_blt I hg hm boot_range (PyProof.Rows.callWith_type1 (thn (ha pos pins s σ H _ I h) fun us s1 ⟨vs,H1,I1,r1,q1⟩=>?_) hs rfl))
 obtain ⟨j,e,q1,q2,q⟩:=q1
 subst e
 cases r1 with
 | cons r rr =>
   cases rr
   obtain ⟨t,rfl⟩:=r
   exact call_range_1 (range_it I1 (by omega) (by omega) q1 q2 (by simpa using q))
theorem pi_range2 {a b:Expr} {ta:TA} {p pos:Pos} (hg:Gl X "range") (hm:X.mg "range" = none) (ha:PA X [a,b] ta) (hs:starEach [a,b] X.env=[(false,eval a X.env),(false,eval b X.env)]:=by rfl) (hs2:starEach [b] X.env=[(false,eval b X.env)]:=by rfl) :
 PI X tg (.Call (.Name "range" p) [a,b] [] pos) (iRng2 ta):=by
 intro pins s σ H R I h
 refine Call_ (ld_blt I hg hm boot_range (PyProof.Rows.callWith_type1 (thn (ha pos pins s σ H _ I h) fun us s1 ⟨vs,H1,I1,r1,q1⟩=>?_) (by rw [hs,hs2]) (by rw [hs2]; rfl)))
 obtain ⟨i,j,e,⟨q1,q2,q3,q4⟩,q⟩:=q1
 subst e
 cases r1 with
 | cons r rr =>
   cases rr with
   | cons r' rr =>
     cases rr
     obtain ⟨t,rfl⟩:=r
     obtain ⟨t',rfl⟩:=r'
     exact call_range_2 (range_it I1 q1 q2 q3 q4 q)
def tFor (wi:TI) (g:TG) (tb:TS):TS:=fun D σ H=>wi σ H fun J H1=>∃ W:Nat->Nat->St->Hp->Prop,(∃ m,W 0 m σ H1)/\∀ i m σ H,W i m σ H ->
 (J.stop i H/\D.nx σ H)∨(J.go i H/\∃ N:St->Hp->Prop,(∀ σ' H',N σ' H'->∃ m',m' < m/\W (i+1) m' σ' H')/\∀ x H',J.yld i H x H'->g x σ H' fun σ2 H2=>tb { D with nx:=N,ct:=N,bk:=D.nx } σ2 H2)
def pinsAt (fp:List Addr) (h:Heap):List (Addr × Obj):=fp.filterMap fun b=>(h.get? b).map fun o=>(b,o)
theorem cB {fp:List Addr} {h:Heap} {b:Addr} {o:Obj} (hb:b ∈ fp) (e:h.get? b=some o):(b,o) ∈ pinsAt fp h:=List.mem_filterMap.mpr ⟨b,hb,by rw [e]; rfl⟩
theorem of_pinsAt {fp:List Addr} {h:Heap} {p:Addr × Obj} (hp:p ∈ pinsAt fp h):p.1 ∈ fp/\h.get? p.1=some p.2:=by
 obtain ⟨b,hb,e⟩:=List.mem_filterMap.mp hp
 cases q:h.get? b with
 | none=>rw [q] at e; cases e
 | some o =>
   rw [q] at e
   have e':(b,o)=p:=Option.some.inj e
   subst e'
   exact ⟨hb,q⟩
theorem Inv.pinned {pins:List (Addr × Obj)} {σ:St} {H:Hp} {s:Shared} {fp:List Addr} (I:Inv X pins σ H s) (hf:∀ b ∈ fp,FpOk X pins H b) (ho:∀ b ∈ fp,∃ o,s.heap.get? b=some o/\∀ v,o.data ≠ .cell v):Inv X (pins++pinsAt fp s.heap) σ H s :=
 I.pins_of fun p hp=>(List.mem_append.mp hp).elim (fun z=>I.pin p (List.mem_append_right _ z)) fun z=>by
  obtain ⟨hb,e⟩:=of_pinsAt z
  obtain ⟨f0,f1,f2,_⟩:=hf p.1 hb
  obtain ⟨o,e',d⟩:=ho p.1 hb
  rw [e] at e'; cases e'
  exact ⟨e,f0,f1,f2,d⟩
theorem Inv.unpinned {pins pl:List (Addr × Obj)} {σ:St} {H:Hp} {s:Shared} (I:Inv X (pins++pl) σ H s):Inv X pins σ H s:=I.pins_of fun p hp=>I.pin p (List.mem_append_right _ (List.mem_append_left _ hp))
theorem ci {iter:Expr} {body:List Stmt} {wi:TI} {g:TG} {tb:TS} {pos:Pos} (hp:PassesOwn (model X.prog X.w) X.A X.env X.xe) (hc:X.calm=true) (hi:PI X tg iter wi) (hg:PG X tg g) (hb:PSs X body tb)
 (hs:∀ x,foldedSetIterable iter X.env x=pure x:=by intro _; rfl):PS X (.For tg iter body [] pos) (tFor wi g tb):=by
 intro pins s σ H D I h
 refine wpAny_For (thn (hi pins s σ H _ I h) fun v s1 h1=>thn h1 fun itv s2 h2=>?_) hs
 obtain ⟨it,fp,tn,J,H2,e,I2,T,st2,f2,W,⟨m0,w0⟩,turn⟩:=h2
 subst e
 have stat:∀ {H':Hp},(∀ b ∈ fp,H' b=none)->∀ b ∈ fp,FpOk X pins H' b:=fun hn b hb=>⟨hn b hb,(f2 b hb).2⟩
 refine codeAny_forLoop_any (fun n s'=>∃ i σ' H',Inv X pins σ' H' s'/\tn i s'.heap/\(∀ b ∈ fp,H' b=none)/\W i n σ' H') ?_ m0 ⟨0,σ,H2,I2,st2,fun b hb=>(f2 b hb).1,w0⟩
 rintro n s3 ⟨i,σ3,H3,I3,st3,fr3,w3⟩
 rcases turn i n σ3 H3 w3 with ⟨stop,qn⟩ | ⟨go,N,hN,step⟩
 . refine wpAny_passesOwn hp (thn (T.done X rfl rfl rfl hc i pins s3 σ3 H3 X.xe I3 (stat fr3) st3 stop) fun r s4 ⟨hr,I4⟩=>?_)
   subst hr
   exact wpAny_execs_nil ⟨σ3,H3,I4,qn⟩
 . refine wpAny_passesOwn hp (thn (T.item X rfl rfl rfl hc i pins s3 σ3 H3 X.xe I3 (stat fr3) st3 go) fun r s4 ⟨u,hr,h4⟩=>?_)
   subst hr
   refine wpAny_passesOwn hp (thn h4 fun _ s5 ⟨x,H5,I5,r5,y5,st5,fr5⟩=>?_)
   have I5':=I5.pinned (stat fr5) (T.obj _ _ st5)
   refine wpAny_passesOwn hp (thn (hg _ s5 σ3 H5 x u _ I5' r5 (step x H5 y5)) fun _ s6 ⟨σ6,H6,I6,q6⟩=>?_)
   refine wpAny_passesOwn hp (thn (hb _ s6 σ6 H6 _ I6 q6) fun f s7 q7=>?_)
   have again:∀ {σ7:St} {H7:Hp},Inv X (pins++pinsAt fp s5.heap) σ7 H7 s7->N σ7 H7->∃ m,m < n/\∃ i σ' H',Inv X pins σ' H' s7/\tn i s7.heap/\(∀ b ∈ fp,H' b=none)/\W i m σ' H':=fun {σ7 H7} I7 n7=>by
    obtain ⟨m',hm,w7⟩:=hN σ7 H7 n7
    refine ⟨m',hm,i+1,σ7,H7,I7.unpinned,T.keep _ _ _ st5 fun b hb o e=>(I7.pin (b,o) (List.mem_append_right _ (List.mem_append_right _ (cB hb e)))).1,fun b hb=>?_,w7⟩
    obtain ⟨o,e,d⟩:=T.obj _ _ st5 b hb
    exact (I7.pin (b,o) (List.mem_append_right _ (List.mem_append_right _ (cB hb e)))).2.1
   cases f with
   | next=>obtain ⟨σ7,H7,I7,n7⟩:=q7; exact again I7 n7
   | cont=>obtain ⟨σ7,H7,I7,n7⟩:=q7; exact again I7 n7
   | brk=>obtain ⟨σ7,H7,I7,q7⟩:=q7; exact ⟨σ7,H7,I7.unpinned,q7⟩
   | ret v=>obtain ⟨x7,σ7,H7,I7,r7,q7⟩:=q7; exact ⟨x7,σ7,H7,I7.unpinned,r7,q7⟩
end
theorem for_list {K:W.Frag} {a:Addr} {xs:List V} {g:TG} {tb:TS} {D:Ends} {σ:St} {H:Hp} (Pv:Nat->St->Hp->Prop) (h0:Pv 0 σ H) (hl:∀ i σ H,i<=xs.length->Pv i σ H->SqL K H a xs)
 (hs:∀ i x σ H,xs[i]?=some x->Pv i σ H->g x σ H fun σ2 H2=>tb { D with nx:=Pv (i+1),ct:=Pv (i+1),bk:=D.nx } σ2 H2) (hd:∀ σ H,Pv xs.length σ H->D.nx σ H) :
 ∃ W:Nat->Nat->St->Hp->Prop,(∃ m,W 0 m σ H)/\∀ i m σ H,W i m σ H ->
  ((Itl K a).stop i H/\D.nx σ H)∨((Itl K a).go i H/\∃ N:St->Hp->Prop,(∀ σ' H',N σ' H'->∃ m',m' < m/\W (i+1) m' σ' H')/\∀ x H',(Itl K a).yld i H x H'->g x σ H' fun σ2 H2=>tb { D with nx:=N,ct:=N,bk:=D.nx } σ2 H2):=by
 refine ⟨fun i m σ H=>m=xs.length - i/\i<=xs.length/\Pv i σ H,⟨xs.length,by simp,Nat.zero_le _,h0⟩,?_⟩
 rintro i m σ H ⟨rfl,hi,p⟩
 have q:=hl i σ H hi p
 by_cases hlt:i < xs.length
 . refine .inr ⟨⟨xs,xs[i],q,by simp [hlt]⟩,Pv (i+1),fun σ' H' p'=>⟨xs.length - (i+1),by omega,rfl,hlt,p'⟩,fun x H' y=>?_⟩
   obtain ⟨e,y⟩:=y
   subst e
   exact hs i x σ _ (y xs q) p
 . have e:i=xs.length:=by omega
   subst e
   exact .inl ⟨⟨xs,q,Nat.le_refl _⟩,hd σ H p⟩
theorem for_tup {K:W.Frag} {a:Addr} {xs:List V} {g:TG} {tb:TS} {D:Ends} {σ:St} {H:Hp} (Pv:Nat->St->Hp->Prop) (h0:Pv 0 σ H) (hl:∀ i σ H,i<=xs.length->Pv i σ H->SqT K H a xs)
 (hs:∀ i x σ H,xs[i]?=some x->Pv i σ H->g x σ H fun σ2 H2=>tb { D with nx:=Pv (i+1),ct:=Pv (i+1),bk:=D.nx } σ2 H2) (hd:∀ σ H,Pv xs.length σ H->D.nx σ H) :
 ∃ W:Nat->Nat->St->Hp->Prop,(∃ m,W 0 m σ H)/\∀ i m σ H,W i m σ H ->
  ((Itt K a).stop i H/\D.nx σ H)∨((Itt K a).go i H/\∃ N:St->Hp->Prop,(∀ σ' H',N σ' H'->∃ m',m' < m/\W (i+1) m' σ' H')/\∀ x H',(Itt K a).yld i H x H'->g x σ H' fun σ2 H2=>tb { D with nx:=N,ct:=N,bk:=D.nx } σ2 H2):=by
 refine ⟨fun i m σ H=>m=xs.length - i/\i<=xs.length/\Pv i σ H,⟨xs.length,by simp,Nat.zero_le _,h0⟩,?_⟩
 rintro i m σ H ⟨rfl,hi,p⟩
 have q:=hl i σ H hi p
 by_cases hlt:i < xs.length
 . refine .inr ⟨⟨xs,xs[i],q,by simp [hlt]⟩,Pv (i+1),fun σ' H' p'=>⟨xs.length - (i+1),by omega,rfl,hlt,p'⟩,fun x H' y=>?_⟩
   obtain ⟨e,y⟩:=y
   subst e
   exact hs i x σ _ (y xs q) p
 . have e:i=xs.length:=by omega
   subst e
   exact .inl ⟨⟨xs,q,Nat.le_refl _⟩,hd σ H p⟩
theorem for_range {lo:Int} {n:Nat} {g:TG} {tb:TS} {D:Ends} {σ:St} {H:Hp} (Pv:Nat->St->Hp->Prop) (h0:Pv 0 σ H)
 (hs:∀ i σ H,i < n->Pv i σ H->g (.int (lo+i)) σ H fun σ2 H2=>tb { D with nx:=Pv (i+1),ct:=Pv (i+1),bk:=D.nx } σ2 H2) (hd:∀ σ H,Pv n σ H->D.nx σ H) :
 ∃ W:Nat->Nat->St->Hp->Prop,(∃ m,W 0 m σ H)/\∀ i m σ H,W i m σ H ->
  ((Itr lo n).stop i H/\D.nx σ H)∨((Itr lo n).go i H/\∃ N:St->Hp->Prop,(∀ σ' H',N σ' H'->∃ m',m' < m/\W (i+1) m' σ' H')/\∀ x H',(Itr lo n).yld i H x H'->g x σ H' fun σ2 H2=>tb { D with nx:=N,ct:=N,bk:=D.nx } σ2 H2):=by
 refine ⟨fun i m σ H=>m=n - i/\i<=n/\Pv i σ H,⟨n,by simp,Nat.zero_le _,h0⟩,?_⟩
 rintro i m σ H ⟨rfl,hi,p⟩
 by_cases hlt:i < n
 . refine .inr ⟨hlt,Pv (i+1),fun σ' H' p'=>⟨n - (i+1),by omega,rfl,hlt,p'⟩,fun x H' y=>?_⟩
   obtain ⟨e,y⟩:=y
   subst e y
   exact hs i σ _ hlt p
 . have e:i=n:=by omega
   subst e
   exact .inl ⟨Nat.le_refl _,hd σ H p⟩
abbrev R2:=V->V->Hp->VK->Prop
def OpR (X:Cx) (f:Value->Value->Sem Value) (r:R2):Prop :=
 ∀ (pins:List (Addr × Obj)) (s:Shared) (σ:St) (H:Hp) (x y:V) (v u:Value) (Q:VK),Inv X pins σ H s->RelV x v->RelV y u->r x y H Q ->
  wpAny (model X.prog X.w) X.A (f v u) (EP X pins σ Q) X.xe s
def UnR (X:Cx) (f:Value->Sem Value) (r:V->Hp->VK->Prop):Prop :=
 ∀ (pins:List (Addr × Obj)) (s:Shared) (σ:St) (H:Hp) (x:V) (v:Value) (Q:VK),Inv X pins σ H s->RelV x v->r x H Q ->
  wpAny (model X.prog X.w) X.A (f v) (EP X pins σ Q) X.xe s
def CallR (X:Cx) (f:Value) (r:List V->Hp->VK->Prop):Prop :=
 ∀ (pins:List (Addr × Obj)) (s:Shared) (σ:St) (H:Hp) (xs:List V) (us:List Value) (Q:VK),Inv X pins σ H s->Vals xs us->r xs H Q ->
  wpAny (model X.prog X.w) X.A (call f us) (EP X pins σ Q) X.xe s
def tOp (r:R2) (ta tb:TE):TE:=fun σ H Q=>ta σ H fun x H1=>tb σ H1 fun y H2=>r x y H2 Q
def tUn (r:V->Hp->VK->Prop) (ta:TE):TE:=fun σ H Q=>ta σ H fun x H1=>r x H1 Q
def rI (C:Int->Int->Prop) (g:Int->Int->V):R2:=fun x y H Q=>∃ i j,x=.int i/\y=.int j/\C i j/\Q (g i j) H
def rI0 (g:Int->Int->V):R2:=fun x y H Q=>∃ i j,x=.int i/\y=.int j/\Q (g i j) H
def rU (g:Int->V):V->Hp->VK->Prop:=fun x H Q=>∃ i,x=.int i/\Q (g i) H
section
variable {X:Cx} {a b c:Expr} {ta tb tc:TE} {pos:Pos}
theorem binT (ha:PE X a ta) (hb:PE X b tb) {pins:List (Addr × Obj)} {s:Shared} {σ:St} {H:Hp} {R:V->V->Hp->Prop} (I:Inv X pins σ H s)
 (h:ta σ H fun x H1=>tb σ H1 fun y H2=>R x y H2) {Q:Value->Shared->Prop} {f:Value->Value->Sem Value}
 (hf:∀ v u s2 x y H2,Inv X pins σ H2 s2->RelV x v->RelV y u->R x y H2->wpAny (model X.prog X.w) X.A (f v u) Q X.xe s2) :
 wpAny (model X.prog X.w) X.A (eval a X.env) (fun v s₁=>wpAny (model X.prog X.w) X.A (eval b X.env) (fun u s₂=>wpAny (model X.prog X.w) X.A (f v u) Q X.xe s₂) X.xe s₁) X.xe s:=by
 refine thn (ha pins s σ H _ I h) fun v s1 ⟨x,H1,I1,r1,q1⟩=>?_
 refine thn (hb pins s1 σ H1 _ I1 q1) fun u s2 ⟨y,H2,I2,r2,q2⟩=>?_
 exact hf v u s2 x y H2 I2 r1 r2 q2
theorem ah {op:Operator} {r:R2} (ho:OpR X (binaryOp op) r) (ha:PE X a ta) (hb:PE X b tb):PE X (.BinOp a op b pos) (tOp r ta tb):=by
 intro pins s σ H Q I h
 exact wpAny_BinOp (binT ha hb I h fun v u s2 x y H2 I2 rx ry q=>ho pins s2 σ H2 x y v u Q I2 rx ry q)
theorem pe_un {op:UnaryOp} {r:V->Hp->VK->Prop} (ho:UnR X (unaryOp op) r) (ha:PE X a ta):PE X (.UnaryOp op a pos) (tUn r ta):=by
 intro pins s σ H Q I h
 exact UnaryOp_ (thn (ha pins s σ H _ I h) fun v s1 ⟨x,H1,I1,r1,q1⟩=>ho pins s1 σ H1 x v Q I1 r1 q1)
theorem opI {f:Value->Value->Sem Value} {C:Int->Int->Prop} {g:Int->Int->Int}
 (rule:∀ (i j:Int) (t u:Tok) (s:Shared) (Q:Value->Shared->Prop) (E:Value->Shared->Prop),C i j->Q (.int (g i j) s.toks) { s with toks:=s.toks+1 }->wpAny (model X.prog X.w) X.A (f (.int i t) (.int j u)) Q E s) :
 OpR X f (rI C fun i j=>.int (g i j)):=by
 intro pins s σ H x y v u Q I rx ry h
 obtain ⟨i,j,rfl,rfl,hc,q⟩:=h
 obtain ⟨t,rfl⟩:=rx
 obtain ⟨t',rfl⟩:=ry
 exact rule i j t t' s _ _ hc ⟨.int (g i j),H,I.tok _,⟨_,rfl⟩,q⟩
theorem opI0 {f:Value->Value->Sem Value} {g:Int->Int->Int}
 (rule:∀ (i j:Int) (t u:Tok) (s:Shared) (Q:Value->Shared->Prop) (E:Value->Shared->Prop),Q (.int (g i j) s.toks) { s with toks:=s.toks+1 }->wpAny (model X.prog X.w) X.A (f (.int i t) (.int j u)) Q E s) :
 OpR X f (rI0 fun i j=>.int (g i j)):=by
 intro pins s σ H x y v u Q I rx ry h
 obtain ⟨i,j,rfl,rfl,q⟩:=h
 obtain ⟨t,rfl⟩:=rx
 obtain ⟨t',rfl⟩:=ry
 exact rule i j t t' s _ _ ⟨.int (g i j),H,I.tok _,⟨_,rfl⟩,q⟩
theorem opB0 {f:Value->Value->Sem Value} {g:Int->Int->Bool}
 (rule:∀ (i j:Int) (t u:Tok) (s:Shared) (Q:Value->Shared->Prop) (E:Value->Shared->Prop),Q (.bool (g i j)) s->wpAny (model X.prog X.w) X.A (f (.int i t) (.int j u)) Q E s) :
 OpR X f (rI0 fun i j=>.bl (g i j)):=by
 intro pins s σ H x y v u Q I rx ry h
 obtain ⟨i,j,rfl,rfl,q⟩:=h
 obtain ⟨t,rfl⟩:=rx
 obtain ⟨t',rfl⟩:=ry
 exact rule i j t t' s _ _ ⟨.bl (g i j),H,I,rfl,q⟩
def CDiv (i j:Int):Prop:=0 < j/\j < 1073741824
def CPow (i j:Int):Prop:=0<=j/\j<=1000000/\i.natAbs < 2 ^ 64
def CMul (i j:Int):Prop:=(-(2 ^ 64) < i/\i < 2 ^ 64)∨(-(2 ^ 64) < j/\j < 2 ^ 64)
theorem CMul.ok {i j:Int} (h:CMul i j):IntMulOk i j:=by
 rcases h with ⟨h1,h2⟩ | ⟨h1,h2⟩
 . exact .of_left (intBits_le_64 h1 h2)
 . exact .of_right (intBits_le_64 h1 h2)
theorem aU:OpR X (binaryOp .Add) (rI0 fun i j=>.int (i+j)):=opI0 fun _ _ _ _ _ _ _ q=>add_int q
theorem aR:OpR X (binaryOp .Sub) (rI0 fun i j=>.int (i - j)):=opI0 fun _ _ _ _ _ _ _ q=>sub_int q
theorem aX:OpR X (binaryOp .Mult) (rI CMul fun i j=>.int (i*j)):=opI fun _ _ _ _ _ _ _ hc q=>mul_int q hc.ok
theorem op_fdiv:OpR X (binaryOp .FloorDiv) (rI CDiv fun i j=>.int (i / j)):=opI fun i j _ _ _ _ _ hc q=>by
 have h1:(0:Int) < j:=hc.1
 have h2:j < 1073741824:=hc.2
 exact floordiv_int (by omega) (by rw [Int.fdiv_eq_ediv_of_nonneg i (by omega)]; exact q) (.inl (PyProof.noPylong_small (by omega)))
theorem aI:OpR X (binaryOp .Mod) (rI (fun _ j=>0 < j) fun i j=>.int (i % j)):=opI fun i j _ _ _ _ _ hc q=>by
 have h1:(0:Int) < j:=hc
 exact mod_int' (by omega) (by rw [Int.fmod_eq_emod_of_nonneg i (by omega)]; exact q)
theorem op_pow:OpR X (binaryOp .Pow) (rI CPow fun i j=>.int (i ^ j.toNat)):=opI fun _ _ _ _ _ _ _ hc q=>pow_int_small hc.1 hc.2.1 hc.2.2 q
theorem unI {f:Value->Sem Value} {g:Int->Int}
 (rule:∀ (i:Int) (t:Tok) (s:Shared) (Q:Value->Shared->Prop) (E:Value->Shared->Prop),Q (.int (g i) s.toks) { s with toks:=s.toks+1 }->wpAny (model X.prog X.w) X.A (f (.int i t)) Q E s) :
 UnR X f (rU fun i=>.int (g i)):=by
 intro pins s σ H x v Q I rx h
 obtain ⟨i,rfl,q⟩:=h
 obtain ⟨t,rfl⟩:=rx
 exact rule i t s _ _ ⟨.int (g i),H,I.tok _,⟨_,rfl⟩,q⟩
theorem un_neg:UnR X (unaryOp .USub) (rU fun i=>.int (-i)):=unI fun _ _ _ _ _ q=>neg_int q
end
def scal:V->V->Bool
 | .non,.non=>true | .non,.int _=>true | .int _,.non=>true | .non,.bl _=>true | .bl _,.non=>true | .non,.str _=>true | .str _,.non=>true
 | .int _,.int _=>true | .bl _,.bl _=>true | .str _,.str _=>true | .byt _,.byt _=>true
 | .int _,.str _=>true | .str _,.int _=>true | .bl _,.str _=>true | .str _,.bl _=>true
 | _,_=>false
def rEq:R2:=fun x y H Q=>scal x y=true/\Q (.bl (decide (x=y))) H
def rNe:R2:=fun x y H Q=>scal x y=true/\Q (.bl (!decide (x=y))) H
theorem dec_int {i j:Int}:decide (V.int i=V.int j)=(i == j):=by
 rw [Bool.eq_iff_iff]
 simp
theorem dec_bl {i j:Bool}:decide (V.bl i=V.bl j)=(i == j):=by
 rw [Bool.eq_iff_iff]
 simp
theorem dec_str {i j:Str}:decide (V.str i=V.str j)=(i == j):=by
 rw [Bool.eq_iff_iff]
 simp
theorem dec_byt {i j:Array UInt8}:decide (V.byt i=V.byt j)=(i.toList == j.toList):=by
 rw [Bool.eq_iff_iff]
 cases i
 cases j
 simp
section
variable {X:Cx} {a b c:Expr} {ta tb tc:TE} {pos:Pos}
theorem bg {pins:List (Addr × Obj)} {σ:St} {H:Hp} {s:Shared} {Q:VK} {k k':Bool} (I:Inv X pins σ H s) (q:Q (.bl k) H) (e:k=k'):EP X pins σ Q (.bool k') s:=by
 subst e
 exact ⟨.bl k,H,I,rfl,q⟩
theorem aN:OpR X (compareOp .Eq) rEq:=by
 intro pins s σ H x y v u Q I rx ry h
 obtain ⟨hs,q⟩:=h
 cases x with
 | non =>
   cases rx
   cases y with
   | non=>cases ry; exact PySem.EqNone.eq_none_none (bg I q (by simp))
   | bl j=>cases ry; exact PySem.EqNone.eq_none_bool (bg I q (by simp))
   | int j=>obtain ⟨t',rfl⟩:=ry; exact PySem.EqNone.eq_none_int (bg I q (by simp))
   | str j=>obtain ⟨t',rfl⟩:=ry; exact PySem.EqNone.eq_none_str (bg I q (by simp))
   | _=>exact absurd (show false=true from hs) Bool.false_ne_true
 | bl i =>
   cases rx
   cases y with
   | non=>cases ry; exact PySem.EqNone.eq_bool_none (bg I q (by simp))
   | bl j=>cases ry; exact eq_bool (bg I q dec_bl)
   | str j=>obtain ⟨t',rfl⟩:=ry; exact PySem.EqMixed.eq_bool_str (bg I q (by simp))
   | _=>exact absurd (show false=true from hs) Bool.false_ne_true
 | int i =>
   obtain ⟨t,rfl⟩:=rx
   cases y with
   | non=>cases ry; exact PySem.EqNone.eq_int_none (bg I q (by simp))
   | int j=>obtain ⟨t',rfl⟩:=ry; exact eq_int (bg I q dec_int)
   | str j=>obtain ⟨t',rfl⟩:=ry; exact PySem.EqMixed.eq_int_str (bg I q (by simp))
   | _=>exact absurd (show false=true from hs) Bool.false_ne_true
 | str i =>
   obtain ⟨t,rfl⟩:=rx
   cases y with
   | non=>cases ry; exact PySem.EqNone.eq_str_none (bg I q (by simp))
   | bl j=>cases ry; exact PySem.EqMixed.eq_str_bool (bg I q (by simp))
   | int j=>obtain ⟨t',rfl⟩:=ry; exact PySem.EqMixed.eq_str_int (bg I q (by simp))
   | str j=>obtain ⟨t',rfl⟩:=ry; exact eq_str (bg I q dec_str)
   | _=>exact absurd (show false=true from hs) Bool.false_ne_true
 | byt i =>
   obtain ⟨t,rfl⟩:=rx
   cases y with
   | byt j=>obtain ⟨t',rfl⟩:=ry; exact PySem.W.eq_bytes (bg I q dec_byt)
   | _=>exact absurd (show false=true from hs) Bool.false_ne_true
 | _=>cases y <;> exact absurd (show false=true from hs) Bool.false_ne_true
theorem op_ne:OpR X (compareOp .NotEq) rNe:=by
 intro pins s σ H x y v u Q I rx ry h
 obtain ⟨hs,q⟩:=h
 cases x with
 | non =>
   cases rx
   cases y with
   | non=>cases ry; exact PySem.EqNone.ne_none_none (bg I q (by simp))
   | bl j=>cases ry; exact PySem.EqNone.ne_none_bool (bg I q (by simp))
   | int j=>obtain ⟨t',rfl⟩:=ry; exact PySem.EqNone.ne_none_int (bg I q (by simp))
   | str j=>obtain ⟨t',rfl⟩:=ry; exact PySem.EqNone.ne_none_str (bg I q (by simp))
   | _=>exact absurd (show false=true from hs) Bool.false_ne_true
 | bl i =>
   cases rx
   cases y with
   | non=>cases ry; exact PySem.EqNone.ne_bool_none (bg I q (by simp))
   | bl j=>cases ry; exact ne_bool (bg I q (congrArg not dec_bl))
   | str j=>obtain ⟨t',rfl⟩:=ry; exact PySem.EqMixed.ne_bool_str (bg I q (by simp))
   | _=>exact absurd (show false=true from hs) Bool.false_ne_true
 | int i =>
   obtain ⟨t,rfl⟩:=rx
   cases y with
   | non=>cases ry; exact PySem.EqNone.ne_int_none (bg I q (by simp))
   | int j=>obtain ⟨t',rfl⟩:=ry; exact ne_int (bg I q (congrArg not dec_int))
   | str j=>obtain ⟨t',rfl⟩:=ry; exact PySem.EqMixed.ne_int_str (bg I q (by simp))
   | _=>exact absurd (show false=true from hs) Bool.false_ne_true
 | str i =>
   obtain ⟨t,rfl⟩:=rx
   cases y with
   | non=>cases ry; exact PySem.EqNone.ne_str_none (bg I q (by simp))
   | bl j=>cases ry; exact PySem.EqMixed.ne_str_bool (bg I q (by simp))
   | int j=>obtain ⟨t',rfl⟩:=ry; exact PySem.EqMixed.ne_str_int (bg I q (by simp))
   | str j=>obtain ⟨t',rfl⟩:=ry; exact ne_str (bg I q (congrArg not dec_str))
   | _=>exact absurd (show false=true from hs) Bool.false_ne_true
 | byt i =>
   obtain ⟨t,rfl⟩:=rx
   cases y with
   | byt j=>obtain ⟨t',rfl⟩:=ry; exact PySem.W.ne_bytes (bg I q (congrArg not dec_byt))
   | _=>exact absurd (show false=true from hs) Bool.false_ne_true
 | _=>cases y <;> exact absurd (show false=true from hs) Bool.false_ne_true
theorem op_lt:OpR X (compareOp .Lt) (rI0 fun i j=>.bl (decide (i < j))):=opB0 fun _ _ _ _ _ _ _ q=>lt_int q
theorem op_le:OpR X (compareOp .LtE) (rI0 fun i j=>.bl (decide (i<=j))):=opB0 fun _ _ _ _ _ _ _ q=>le_int q
theorem op_gt:OpR X (compareOp .Gt) (rI0 fun i j=>.bl (decide (j < i))):=opB0 fun _ _ _ _ _ _ _ q=>gt_int q
theorem op_ge:OpR X (compareOp .GtE) (rI0 fun i j=>.bl (decide (j<=i))):=opB0 fun _ _ _ _ _ _ _ q=>ge_int q
theorem op_isN:OpR X (compareOp .Is) (fun x y H Q=>y=.non/\Q (.bl (decide (x=.non))) H):=by
 intro pins s σ H x y v u Q I rx ry h
 obtain ⟨rfl,q⟩:=h
 cases ry
 refine is_none_gen (bg I q ?_)
 cases x <;> first
  | (cases rx; rfl)
  | (obtain ⟨t,rfl⟩:=rx; rfl)
theorem OpR.or {f:Value->Value->Sem Value} {r r':R2} (h:OpR X f r) (h':OpR X f r'):OpR X f (fun x y H Q=>r x y H Q∨r' x y H Q):=by
 intro pins s σ H x y v u Q I rx ry q
 rcases q with q | q
 . exact h pins s σ H x y v u Q I rx ry q
 . exact h' pins s σ H x y v u Q I rx ry q
theorem aq (b:Expr) {op:CmpOp} (h:op ≠ .In:=by decide) (h2:op ≠ .NotIn:=by decide):behindInMarks op b=false:=by
 have e1:(op == CmpOp.In)=false:=by cases op <;> first | rfl | exact absurd rfl h
 have e2:(op == CmpOp.NotIn)=false:=by cases op <;> first | rfl | exact absurd rfl h2
 cases b <;> simp [behindInMarks,e1,e2]
theorem bH {op:CmpOp} {r:R2} (ho:OpR X (compareOp op) r) (ha:PE X a ta) (hb:PE X b tb) (hm:behindInMarks op b=false):PE X (.Compare a [op] [b] pos) (tOp r ta tb):=by
 intro pins s σ H Q I h
 exact wpAny_Compare1 (binT ha hb I h fun v u s2 x y H2 I2 rx ry q=>ho pins s2 σ H2 x y v u Q I2 rx ry q) hm
def tTest (t:TE):TT:=fun σ H Q=>t σ H fun x H'=>∃ k,x=.bl k/\Q k H'
theorem aj {op:CmpOp} {r:R2} (ho:OpR X (compareOp op) r) (ha:PE X a ta) (hb:PE X b tb) (hm:behindInMarks op b=false):PT X (.Compare a [op] [b] pos) (tTest (tOp r ta tb)):=by
 intro pins s σ H Q I h
 refine wpAny_isTrue_Compare1 (thn (ha pins s σ H _ I h) fun v s1 ⟨x,H1,I1,r1,q1⟩=>thn (hb pins s1 σ H1 _ I1 q1) fun u s2 ⟨y,H2,I2,r2,q2⟩ =>
  thn (ho pins s2 σ H2 x y v u _ I2 r1 r2 q2) fun c s3 ⟨z,H3,I3,r3,k,e,q3⟩=>?_) hm
 subst e
 cases r3
 exact wpAny_truthy_bool ⟨H3,I3,q3⟩
def tChain (r r':R2) (ta tb tc:TE):TE:=fun σ H Q=>ta σ H fun x H1=>tb σ H1 fun y H2=>r x y H2 fun z H3=>∃ k,z=.bl k /\
 (if k=true then tc σ H3 fun w' H4=>r' y w' H4 Q else Q (.bl false) H3)
theorem pt_chain {op op':CmpOp} {r r':R2} (ho:OpR X (compareOp op) r) (ho':OpR X (compareOp op') r') (ha:PE X a ta) (hb:PE X b tb) (hc:PE X c tc)
 (hm:lastMarks [op,op'] [b,c]=false:=by with_unfolding_all rfl):PT X (.Compare a [op,op'] [b,c] pos) (tTest (tChain r r' ta tb tc)):=by
 intro pins s σ H Q I h
 refine isTrue_chain (thn (ha pins s σ H _ I h) fun v s1 ⟨x,H1,I1,r1,q1⟩=>test_link (thn (hb pins s1 σ H1 _ I1 q1) fun u s2 ⟨y,H2,I2,r2,q2⟩ =>
  thn (ho pins s2 σ H2 x y v u _ I2 r1 r2 q2) fun d s3 ⟨z,H3,I3,r3,k,e,q3⟩=>?_)) hm
 subst e
 cases r3
 refine wpAny_truthy_bool ?_
 cases k with
 | false =>
   obtain ⟨k',e',q'⟩:=q3
   cases e'
   exact ite_ff ⟨H3,I3,q'⟩
 | true =>
   refine ite_tt (test_last (thn (hc pins s3 σ H3 _ I3 q3) fun w' s4 ⟨z',H4,I4,r4,q4⟩=>thn (ho' pins s4 σ H4 y z' u w' _ I4 r2 r4 q4) fun d' s5 ⟨z2,H5,I5,r5,k2,e2,q5⟩=>?_))
   subst e2
   cases r5
   exact wpAny_truthy_bool ⟨H5,I5,q5⟩
theorem line63:(sizeLine:Nat) < 2 ^ 63:=by rw [sizeLine_eq]; decide
theorem op_add_str:OpR X (binaryOp .Add) (fun x y H Q=>∃ i j,x=.str i/\y=.str j/\i.length+j.length<=sizeLine/\Q (.str (i++j)) H):=by
 intro pins s σ H x y v u Q I rx ry h
 obtain ⟨i,j,rfl,rfl,hz,q⟩:=h
 obtain ⟨t,rfl⟩:=rx
 obtain ⟨t',rfl⟩:=ry
 exact add_str (fun t' tk=>⟨.str (i++j),H,I.tok _,⟨_,rfl⟩,q⟩) hz
theorem vals1 {x:V} {us:List Value} (r:Vals [x] us):∃ u,us=[u]/\RelV x u:=by
 cases r with
 | cons r1 r2=>cases r2; exact ⟨_,rfl,r1⟩
theorem vals2 {x y:V} {us:List Value} (r:Vals [x,y] us):∃ u w',us=[u,w']/\RelV x u/\RelV y w':=by
 cases r with
 | cons r1 r2 =>
   cases r2 with
   | cons r3 r4=>cases r4; exact ⟨_,_,rfl,r1,r3⟩
theorem call_max2 (hc:X.calm=true):CallR X (.builtin "max") (fun xs H Q=>∃ i j,xs=[.int i,.int j]/\Q (.int (if j > i then j else i)) H):=by
 intro pins s σ H xs us Q I r h
 obtain ⟨i,j,rfl,q⟩:=h
 obtain ⟨u,w',rfl,⟨t,rfl⟩,⟨t',rfl⟩⟩:=vals2 r
 refine max_two_ints (I.ok.hd hc) fun h' tk k=>⟨_,H,I.kept k,?_,q⟩
 by_cases hj:j > i
 . rw [if_pos hj,if_pos hj]; exact ⟨_,rfl⟩
 . rw [if_neg hj,if_neg hj]; exact ⟨_,rfl⟩
theorem call_min2 (hc:X.calm=true):CallR X (.builtin "min") (fun xs H Q=>∃ i j,xs=[.int i,.int j]/\Q (.int (if j < i then j else i)) H):=by
 intro pins s σ H xs us Q I r h
 obtain ⟨i,j,rfl,q⟩:=h
 obtain ⟨u,w',rfl,⟨t,rfl⟩,⟨t',rfl⟩⟩:=vals2 r
 refine min_two_ints (I.ok.hd hc) fun h' tk k=>⟨_,H,I.kept k,?_,q⟩
 by_cases hj:j < i
 . rw [if_pos hj,if_pos hj]; exact ⟨_,rfl⟩
 . rw [if_neg hj,if_neg hj]; exact ⟨_,rfl⟩
theorem call_int1:CallR X (.type "int") (fun xs H Q=>(∃ i,xs=[.int i]/\Q (.int i) H)∨∃ k,xs=[.bl k]/\Q (.int (if k then 1 else 0)) H):=by
 intro pins s σ H xs us Q I r h
 rcases h with ⟨i,rfl,q⟩ | ⟨k,rfl,q⟩
 . obtain ⟨u,rfl,t,rfl⟩:=vals1 r
   exact call_int_int ⟨.int i,H,I,⟨_,rfl⟩,q⟩
 . obtain ⟨u,rfl,r1⟩:=vals1 r
   cases r1
   exact call_int_bool ⟨.int (if k then 1 else 0),H,I.tok _,⟨_,rfl⟩,q⟩
end
structure ObjM (h:Heap) (x dx C:Addr) (mA:Str->Option Value):Prop where
 obj:h.get? x=some (PySem.W.instObj C dx)
 ns:h.Ns1 dx mA
 ne:dx ≠ x
theorem lookIn_ns {h:Heap} {dx:Addr} {mA:Str->Option Value} (n:h.Ns1 dx mA):∃ od,h.get? dx=some od/\∀ name,PySem.W.lookIn name od=some (mA name):=by
 obtain ⟨o,es,ep,ho,hd,hk,_,hm⟩:=n
 refine ⟨o,ho,fun name=>?_⟩
 have e:=hm name
 unfold nsFind findBy at e
 rw [← Array.find?_toList] at e
 unfold PySem.W.lookIn
 rw [hd]
 dsimp only
 split
 . rename_i y q
   rw [q] at e
   exact congrArg some e
 . rename_i q
   rw [q] at e
   have a:es.toList.any (·.refKey)=false:=by
    rw [List.any_eq_false]
    intro y hy
    obtain ⟨z,t,hkey⟩:=hk y (Array.mem_toList_iff.mp hy)
    simp [DictEntry.refKey,hkey]
   have a':¬ es.toList.any (·.refKey)=true:=by rw [a]; exact Bool.false_ne_true
   rw [if_neg a']
   exact congrArg some e
theorem ObjM.look {h:Heap} {x dx C:Addr} {mA:Str->Option Value} (I:ObjM h x dx C mA):∃ od,PySem.W.InstAt h x (PySem.W.instObj C dx) C (some od)/\∀ name,PySem.W.lookIn name od=some (mA name) :=
 let ⟨od,ho,hl⟩:=lookIn_ns I.ns
 ⟨od,⟨I.obj,rfl,rfl,ho⟩,hl⟩
section
variable {prog:Program} {w:World} {A:Around} {E:Value->Shared->Prop} {s:Shared} {K:W.Frag} {x dx C f:Addr} {mA:Str->Option Value} {name:Str} {v:Value}
theorem get_map {expr:Bool} {Q:Value->Shared->Prop} (X:K.In s.heap) (I:ObjM s.heap x dx C mA) (hg:PySem.W.plainGet K C name=true) (hh:PySem.W.hasDictIn K C=true)
 (ha:PySem.W.findIn K (.ref C) name=some none) (hv:mA name=some v) (hv':PySem.W.handedIn v=true) (h:Q v { s with toks:=s.toks+1 }) :
 wpAny (model prog w) A (getAttr (.ref x) name expr) Q E s:=by
 obtain ⟨od,J,hl⟩:=I.look
 exact PySem.W.get_value X J (PySem.W.plainGet_of hg).1 (PySem.W.findObj_own hh ha rfl (by rw [hl,hv])) hv' h
theorem get_meth {pl:Sem Bool} {Q:Value × List Value->Shared->Prop} (X:K.In s.heap) (I:ObjM s.heap x dx C mA) (hg:PySem.W.plainGet K C name=true)
 (hf:PySem.W.findIn K (.ref C) name=some (some (.ref f))) (ht:PySem.W.isFn K (.ref f)=true) (hv:mA name=none) (h:Q (.ref f,[.ref x]) s) :
 wpAny (model prog w) A (getMethod (.ref x) name pl) Q E s:=by
 obtain ⟨od,J,hl⟩:=I.look
 exact PySem.W.method_fn X J (PySem.W.plainGet_of hg).1 (PySem.W.plainGet_of hg).2 hf (beq_iff_eq.mp ht) (by show (PySem.W.lookIn name od).map (·.isSome)=some false; rw [hl,hv]; rfl) h
theorem set_map {ns:List Str} {Q:Unit->Shared->Prop} (X:K.In s.heap) (I:ObjM s.heap x dx C mA)
 (hs:PySem.W.findIn K (.ref C) "__setattr__" = some (some (.builtin "object.__setattr__"))) (hp:PySem.W.plainOver K C=true) (ht:PySem.W.takerIn K C name=some none) (hh:PySem.W.hasDictIn K C=true)
 (hw:PySem.Within mA ns) (hsz:ns.length<=sizeLine)
 (h:∀ h',ObjM h' x dx C (fun y=>if y=name then some v else mA y)->Heap.SameBut dx s.heap h'->Q () { s with heap:=h',toks:=s.toks+2 }) :
 wpAny (model prog w) A (setAttr (.ref x) name v) Q E s:=by
 obtain ⟨od,J,hl⟩:=I.look
 refine PySem.W.set_plain X J hs (PySem.W.osa_open (s:={ s with toks:=s.toks+1 }) (r:=none) X J hp ht fun b=>?_)
 obtain ⟨cd,hc,hd'⟩:=PySem.W.any_some hh
 have hx:s.heap.get? x=some ⟨.ref C,some dx,.plain,#[]⟩:=I.obj
 refine wpAny_bind (wpAny_pure (wpAny_bind (wpAny_bind (wpAny_loadPart hx (wpAny_bind (PySem.W.Looks.here (s:={ s with toks:=s.toks+1 }) (PySem.W.looks_clsIn X hc) ?_))))))
 rw [hd']
 refine wpAny_pure (a:=some dx) (wpAny_bind (wpAny_pure (wpAny_bind ?_)))
 refine wpAny_nsSet1 (s:={ s with toks:=s.toks+1 }) I.ns fun h' hn2 hs2=>?_
 obtain ⟨oD,esD,epD,hoD,hdD,hcD⟩:=hn2.count (PySem.Within.cons name v hw)
 refine wpAny_bind (wpAny_lookBehind hoD (by rw [hdD]; exact pastItsLine_dict (Nat.le_trans hcD (by rw [List.length_cons]; omega))) ?_)
 exact wpAny_pure (h _ ⟨(hs2.2 _ (Ne.symm I.ne)).trans I.obj,hn2,I.ne⟩ hs2)
theorem make_map {R:Result->Shared->Prop} {vs:List Value} {kw:List (Str × Value)} (X:K.In s.heap) (hm:PySem.W.makesIn K C=true)
 (hi:PySem.W.findIn K (.ref C) "__init__" = some (some (.ref f))) (hf:PySem.W.typeIn K (.ref f)=some (.type "function"))
 (h:codeAny (model prog w) (A.under (.builtin "type.__call__" ⟨.ref C::vs,kw⟩)) (.call (.ref f) ⟨.ref (s.heap.objs.size+1)::vs,kw⟩) (PySem.W.InitBack (s.heap.objs.size+1) R)
  { s with heap:=(s.heap.push PySem.W.emptyDict).push (PySem.W.instObj C s.heap.objs.size) }) :
 codeAny (model prog w) A (.call (.ref C) ⟨vs,kw⟩) R s:=by
 obtain ⟨hh,g,d,t,os⟩:=s
 exact PySem.W.make_core (PySem.W.makes_of X hm) (PySem.W.looks_findIn X hi) (fun self=>PySem.W.bind_fn X self hf) (.inl rfl) h
end
def putF (f:Str) (v:V):List (Str × V)->List (Str × V)
 | []=>[(f,v)]
 | (g,x)::r=>if g=f then (g,v)::r else (g,x)::putF f v r
theorem aM (f g:Str) (v:V):∀ fs:List (Str × V),(putF f v fs).lookup g=if g=f then some v else fs.lookup g
 | []=>by
   show List.lookup g [(f,v)]=_
   by_cases h:g=f
   . have hb:(g == f)=true:=beq_iff_eq.mpr h
     simp only [List.lookup,hb,if_pos h]
   . have hb:(g == f)=false:=beq_eq_false_iff_ne.mpr h
     simp only [List.lookup,hb,if_neg h]
 | (k,x)::r=>by
   have ih:=aM f g v r
   rw [show putF f v ((k,x)::r)=(if k=f then (k,v)::r else (k,x)::putF f v r) from rfl]
   by_cases hk:k=f
   . rw [if_pos hk]
     by_cases h:g=k
     . have hb:(g == k)=true:=beq_iff_eq.mpr h
       simp only [List.lookup,hb,if_pos (h.trans hk)]
     . have hb:(g == k)=false:=beq_eq_false_iff_ne.mpr h
       simp only [List.lookup,hb,if_neg (fun e:g=f=>h (e.trans hk.symm))]
   . rw [if_neg hk]
     by_cases h:g=k
     . have hb:(g == k)=true:=beq_iff_eq.mpr h
       simp only [List.lookup,hb,if_neg (fun e:g=f=>hk (h.symm.trans e))]
     . have hb:(g == k)=false:=beq_eq_false_iff_ne.mpr h
       simp only [List.lookup,hb]
       exact ih
theorem keys_putF (f:Str) (v:V):∀ fs:List (Str × V),f ∈ (putF f v fs).map (·.1)/\∀ g,g ∈ fs.map (·.1)->g ∈ (putF f v fs).map (·.1)
 | []=>⟨by simp [putF],fun g h=>by simp at h⟩
 | (k,x)::r=>by
   obtain ⟨i1,i2⟩:=keys_putF f v r
   rw [show putF f v ((k,x)::r)=(if k=f then (k,v)::r else (k,x)::putF f v r) from rfl]
   by_cases hk:k=f
   . rw [if_pos hk]
     subst hk
     exact ⟨by simp,fun g h=>by simpa using h⟩
   . rw [if_neg hk]
     refine ⟨?_,fun g h=>?_⟩
     . rw [List.map_cons]
       exact List.mem_cons_of_mem _ i1
     . rw [List.map_cons] at h ⊢
       rcases List.mem_cons.mp h with e | e
       . exact List.mem_cons.mpr (.inl e)
       . exact List.mem_cons_of_mem _ (i2 g e)
theorem length_putF (f:Str) (v:V):∀ fs:List (Str × V),(putF f v fs).length<=fs.length+1
 | []=>by simp [putF]
 | (k,x)::r=>by
   have ih:=length_putF f v r
   rw [show putF f v ((k,x)::r)=(if k=f then (k,v)::r else (k,x)::putF f v r) from rfl]
   by_cases hk:k=f
   . rw [if_pos hk,List.length_cons,List.length_cons]; omega
   . rw [if_neg hk,List.length_cons,List.length_cons]; omega
theorem RelO.some_of {v:V} {o:Option Value} (r:RelO (some v) o):∃ u,o=some u/\RelV v u:=by
 cases o with
 | none=>exact (show False from r).elim
 | some u=>exact ⟨u,rfl,r⟩
theorem RelO.none_of {o:Option Value} (r:RelO none o):o=none:=by
 cases o with
 | none=>rfl
 | some u=>exact (show False from r).elim
theorem handed_of {v:V} {u:Value} (r:RelV v u):PySem.W.handedIn u=true:=by
 cases v with
 | non=>cases (show u=Value.none from r); rfl
 | bl b=>cases (show u=Value.bool b from r); rfl
 | int i=>obtain ⟨t,e⟩:=(show ∃ t,u=Value.int i t from r); cases e; rfl
 | str x=>obtain ⟨t,e⟩:=(show ∃ t,u=Value.str x t from r); cases e; rfl
 | byt b=>obtain ⟨t,e⟩:=(show ∃ t,u=Value.bytes b t from r); cases e; rfl
 | flt b=>obtain ⟨t,e⟩:=(show ∃ t,u=Value.float b t from r); cases e; rfl
 | ref a=>cases (show u=Value.ref a from r); rfl
 | ty n=>cases (show u=Value.type n from r); rfl
section
variable {P:Program} {w:World} {H H':Hp} {h h':Heap} {a C dx:Addr} {fs fs':List (Str × V)}
theorem ins_get (hok:HOk P w H h) (e:H a=some (.ins C dx fs)):∃ mA,ObjM h a dx C mA/\(∀ f,RelO (fs.lookup f) (mA f))/\PySem.Within mA (fs.map (·.1))/\fs.length<=1000/\H dx=some (.own a):=by
 obtain ⟨d,z,ne,ob,mA,n,r,q⟩:=(show ObjOk P w H h a (.ins C dx fs) from hok a _ e)
 exact ⟨mA,⟨ob,n,ne⟩,r,q,z,d⟩
end
structure Cls (K:W.Frag) (C:Addr):Prop where
 pg:PySem.W.plainGet K C Str.empty=true
 hd:PySem.W.hasDictIn K C=true
 po:PySem.W.plainOver K C=true
 sa:PySem.W.findIn K (.ref C) "__setattr__" = some (some (.builtin "object.__setattr__"))
theorem Cls.get {K:W.Frag} {C:Addr} (c:Cls K C) (f:Str):PySem.W.plainGet K C f=true:=c.pg
def NoAttr (K:W.Frag) (C:Addr) (f:Str):Prop:=PySem.W.findIn K (.ref C) f=some none
theorem NoAttr.taker {K:W.Frag} {C:Addr} {f:Str} (n:NoAttr K C f):PySem.W.takerIn K C f=some none:=by
 unfold PySem.W.takerIn
 rw [show PySem.W.findIn K (.ref C) f=some none from n]
 rfl
structure Meth (K:W.Frag) (C:Addr) (m:Str) (f:Addr):Prop where
 at_:PySem.W.findIn K (.ref C) m=some (some (.ref f))
 fn:PySem.W.isFn K (.ref f)=true
 kp:PySem.W.keepIn K (.ref f)=true
section
variable {X:Cx} {pins:List (Addr × Obj)} {σ:St} {H:Hp} {s:Shared} {a C dx:Addr} {fs:List (Str × V)} {f:Str} {v:V} {A:Around} {E:Value->Shared->Prop}
theorem getattr_ok {b:Bool} {Q:Value->Shared->Prop} (I:Inv X pins σ H s) (e:H a=some (.ins C dx fs)) (c:Cls X.K C) (n:NoAttr X.K C f) (l:fs.lookup f=some v)
 (h:∀ u s',Inv X pins σ H s'->RelV v u->Q u s'):wpAny (model X.prog X.w) A (getAttr (.ref a) f b) Q E s:=by
 obtain ⟨mA,O,r,_,_,_⟩:=ins_get I.hok e
 obtain ⟨u,hu,ru⟩:=RelO.some_of (v:=v) (o:=mA f) (by rw [← l]; exact r f)
 exact get_map I.kIn O (c.get f) c.hd n hu (handed_of ru) (h u _ (I.tok _) ru)
theorem getmeth_ok {m:Str} {g:Addr} {pl:Sem Bool} {Q:Value × List Value->Shared->Prop} (I:Inv X pins σ H s) (e:H a=some (.ins C dx fs)) (c:Cls X.K C) (k:Meth X.K C m g) (l:fs.lookup m=none)
 (h:Q (.ref g,[.ref a]) s):wpAny (model X.prog X.w) A (getMethod (.ref a) m pl) Q E s:=by
 obtain ⟨mA,O,r,_,_,_⟩:=ins_get I.hok e
 have hn:mA m=none:=RelO.none_of (by rw [← l]; exact r m)
 exact get_meth I.kIn O (c.get m) k.at_ k.fn hn h
theorem setattr_ok {y:V} {u:Value} {Q:Unit->Shared->Prop} (I:Inv X pins σ H s) (e:H a=some (.ins C dx fs)) (c:Cls X.K C) (n:NoAttr X.K C f) (hl:fs.length < 1000) (ry:RelV y u)
 (h:∀ s',Inv X pins σ (upd H a (.ins C dx (putF f y fs))) s'->Q () s'):wpAny (model X.prog X.w) A (setAttr (.ref a) f u) Q E s:=by
 obtain ⟨mA,O,r,wi,_,ho⟩:=ins_get I.hok e
 have hz:(fs.map (·.1)).length<=sizeLine:=by rw [List.length_map,sizeLine_eq]; omega
 refine set_map I.kIn O c.sa c.po n.taker c.hd wi hz fun h' O' sb=>h _ ?_
 have hd:∃ o,h'.get? dx=some o:=let ⟨o,_,_,e',_⟩:=O'.ns; ⟨o,e'⟩
 refine I.write (x:=a) (e:=dx) (by rw [e]; exact True.intro) (.inr ho) (fun b q hb z=>(sb.2 b hb).trans z) hd ?_
 refine ⟨by rw [au O.ne]; exact ho,?_,O.ne,O'.obj,_,O'.ns,fun g=>?_,fun g hg=>?_⟩
 . have:=length_putF f y fs; omega
 . show RelO ((putF f y fs).lookup g) (if g=f then some u else mA g)
   rw [aM]
   by_cases q:g=f
   . rw [if_pos q,if_pos q]; exact ry
   . rw [if_neg q,if_neg q]; exact r g
 . by_cases q:g=f
   . rw [q]; exact (keys_putF f y fs).1
   . refine (keys_putF f y fs).2 g (wi g fun z=>hg ?_)
     show (if g=f then some u else mA g)=none
     rw [if_neg q]; exact z
theorem Inv.made (I:Inv X pins σ H s):Inv X pins σ (upd (upd H s.heap.objs.size (.own (s.heap.objs.size+1))) (s.heap.objs.size+1) (.ins C s.heap.objs.size []))
 { s with heap:=(s.heap.push PySem.W.emptyDict).push (PySem.W.instObj C s.heap.objs.size) }:=by
 have e1:(s.heap.push PySem.W.emptyDict).get? s.heap.objs.size=some PySem.W.emptyDict:=Heap.get?_push_size s.heap rfl
 have e2:((s.heap.push PySem.W.emptyDict).push (PySem.W.instObj C s.heap.objs.size)).get? (s.heap.objs.size+1)=some (PySem.W.instObj C s.heap.objs.size):=by
  have:=Heap.get?_push_size (s.heap.push PySem.W.emptyDict) (o:=PySem.W.instObj C s.heap.objs.size) rfl
  rwa [Heap.size_push] at this
 have e3:(s.heap.push PySem.W.emptyDict).Ns s.heap.objs.size (fun _=>none):=⟨PySem.W.emptyDict,#[],_,e1,rfl,(fun e he=>absurd he (by simp)),fun _=>rfl⟩
 have I1:=I.laid (a:=s.heap.objs.size) (o:=.own (s.heap.objs.size+1)) (h':=s.heap.push PySem.W.emptyDict) (t':=s.toks) (fun b u q=>Heap.get?_push_of_some _ q) (Nat.le_refl _) ⟨_,e1⟩
 refine I1.laid (a:=s.heap.objs.size+1) (o:=.ins C s.heap.objs.size []) (t':=s.toks) (fun b u q=>Heap.get?_push_of_some _ q) (Nat.le_of_eq (Heap.size_push _ _)) ?_
 have ne:s.heap.objs.size ≠ s.heap.objs.size+1:=Nat.ne_of_lt (Nat.lt_succ_self _)
 refine ⟨by rw [au ne,upd_same],Nat.zero_le _,ne,e2,fun _=>none,(Heap.Ns1.of_empty e3).at fun o q=>Heap.get?_push_of_some _ q,fun _=>True.intro,fun y hy=>absurd rfl hy⟩
theorem attr_of {prog:Program} {w:World} {env:Env} {e:Expr} {f:Str} {pos:Pos} {s:Shared} {Q:Value->Shared->Prop} (hb:attributeBase e f env (eval e env)=eval e env)
 (h:wpAny (model prog w) A (eval e env) (fun o s₁=>wpAny (model prog w) A (getAttr o f true) Q E s₁) E s):wpAny (model prog w) A (eval (.Attribute e f pos) env) Q E s :=
 Attribute_any_ h (by rw [arm_eval_Attribute,hb])
end
def tFld (K:W.Frag) (ta:TE) (f:Str):TE:=fun σ H Q=>ta σ H fun x H1=>∃ a C dx fs v,x=.ref a/\H1 a=some (.ins C dx fs)/\Cls K C/\NoAttr K C f/\fs.lookup f=some v/\Q v H1
def sFld (K:W.Frag) (ta tv:TE) (f:Str):TS:=fun D σ H=>tv σ H fun y H1=>ta σ H1 fun x H2=>∃ a C dx fs,x=.ref a/\H2 a=some (.ins C dx fs)/\Cls K C/\NoAttr K C f/\fs.length < 1000 /\
 D.nx σ (upd H2 a (.ins C dx (putF f y fs)))
section
variable {X:Cx} {o e value:Expr} {f:Str} {pos pos' tpos:Pos} {ta tv:TE}
theorem aH (he:PE X e ta) (hb:attributeBase e f X.env (eval e X.env)=eval e X.env):PE X (.Attribute e f pos) (tFld X.K ta f):=by
 intro pins s σ H Q I h
 refine attr_of hb (thn (he pins s σ H _ I h) fun u s1 ⟨x,H1,I1,rx,a,C,dx,fs,v,ex,ea,c,n,l,q⟩=>?_)
 subst ex
 obtain rfl:u=Value.ref a:=rx
 exact getattr_ok I1 ea c n l fun u' s2 I2 ru=>⟨v,H1,I2,ru,q⟩
theorem cq (ha:PE X o ta) (hv:PE X value tv) (hs:swapsWith value (some (.Attribute o f pos')) pos.line X.env=pure false):PS X (.Assign [.Attribute o f pos'] value pos) (sFld X.K ta tv f):=by
 intro pins s σ H D I h
 refine plainObj_wpAny_Assign_Attribute (thn (hv pins s σ H _ I h) fun u s1 ⟨y,H1,I1,ry,q⟩=>thn (ha pins s1 σ H1 _ I1 q) fun ov s2 ⟨x,H2,I2,rx,a,C,dx,fs,ex,ea,c,n,l,q2⟩=>?_) hs
 subst ex
 obtain rfl:ov=Value.ref a:=rx
 exact setattr_ok I2 ea c n l ry fun s3 I3=>⟨σ,_,I3,q2⟩
end
section
variable {X:Cx} {pins:List (Addr × Obj)} {σ:St} {H:Hp} {s:Shared} {A:Around} {E:Value->Shared->Prop} {Q:Value->Shared->Prop} {c:Value} {b:Bool}
inductive TyOf (K:W.Frag) (H:Hp):V->Value->Prop where
 | non:TyOf K H .non (.type "NoneType")
 | bl (x:Bool):TyOf K H (.bl x) (.type "bool")
 | int (i:Int):TyOf K H (.int i) (.type "int")
 | str (x:Str):TyOf K H (.str x) (.type "str")
 | flt (x:UInt64):TyOf K H (.flt x) (.type "float")
 | lst {a:Addr} {xs:List V} (e:H a=some (.lst xs)):TyOf K H (.ref a) (.type "list")
 | frz {a:Addr} {o:Obj} {xs:List V} (e:H a=some (.frz o (.lst xs))):TyOf K H (.ref a) (.type "list")
 | tup {a:Addr} {xs:List V} (e:H a=some (.tup xs)):TyOf K H (.ref a) (.type "tuple")
 | dK {a:Addr} {kvs:List (Key × V)} (e:H a=some (.dK kvs)):TyOf K H (.ref a) (.type "dict")
 | dT {a:Addr} {kvs:List (List Key × V)} (e:H a=some (.dT kvs)):TyOf K H (.ref a) (.type "dict")
 | ins {a C dx:Addr} {fs:List (Str × V)} (e:H a=some (.ins C dx fs)) (cl:Cls K C) (ha:PySem.W.findIn K (.ref C) "__class__" = some (some (.builtin "object.__class__")))
  (hn:PySem.W.specialIn K (.builtin "object.__class__") "__get__" = some (some (.builtin "getset_descriptor.__get__"))) (htk:PySem.W.takesIn K (.builtin "object.__class__")=some true)
  (hm:PySem.W.mroIn K C (.type "object")=some true):TyOf K H (.ref a) (.ref C)
theorem isinst_ok {x:V} {u t:Value} (I:Inv X pins σ H s) (rx:RelV x u) (ty:TyOf X.K H x t) (e:PySem.W.kitOne X.K t c=some b) (h:∀ tk,Q (.bool b) { s with toks:=tk }) :
 wpAny (model X.prog X.w) A (call (.builtin "isinstance") [u,c]) Q E s:=by
 cases ty with
 | non=>cases (show u=Value.none from rx); exact PySem.W.kia_one PySem.W.kitx_none I.kIn True.intro e (fun z=>nomatch z) h
 | bl y=>cases (show u=Value.bool y from rx); exact PySem.W.kia_one PySem.W.kitx_bool I.kIn True.intro e (fun z=>nomatch z) h
 | int i=>obtain ⟨t,q⟩:=(show ∃ t,u=Value.int i t from rx); cases q; exact PySem.W.kia_one PySem.W.kitx_int I.kIn True.intro e (fun z=>nomatch z) h
 | str y=>obtain ⟨t,q⟩:=(show ∃ t,u=Value.str y t from rx); cases q; exact PySem.W.kia_one PySem.W.kitx_str I.kIn True.intro e (fun z=>nomatch z) h
 | flt y=>obtain ⟨t,q⟩:=(show ∃ t,u=Value.float y t from rx); cases q; exact PySem.W.kia_one PySem.W.kitx_float I.kIn True.intro e (fun z=>nomatch z) h
 | @lst a xs ea =>
   cases (show u=Value.ref a from rx)
   obtain ⟨_,_,n,_,h1⟩:=(show ObjOk X.prog X.w H s.heap a (.lst xs) from I.hok a _ ea)
   exact PySem.W.kia_one PySem.W.kitx_list I.kIn ⟨_,h1,rfl⟩ e (fun z=>nomatch z) h
 | @frz a ob xs ea =>
   cases (show u=Value.ref a from rx)
   obtain ⟨_,_,_,n,_,h1⟩:=(show ObjOk X.prog X.w H s.heap a (.frz ob (.lst xs)) from I.hok a _ ea)
   exact PySem.W.kia_one PySem.W.kitx_list I.kIn ⟨_,h1,rfl⟩ e (fun z=>nomatch z) h
 | @tup a xs ea =>
   cases (show u=Value.ref a from rx)
   obtain ⟨_,_,_,p,_⟩:=(show ObjOk X.prog X.w H s.heap a (.tup xs) from I.hok a _ ea)
   obtain ⟨o,h1,h2,_⟩:=p
   exact PySem.W.kia_one PySem.W.kitx_tuple I.kIn ⟨o,h1,h2⟩ e (fun z=>nomatch z) h
 | @dK a kvs ea =>
   cases (show u=Value.ref a from rx)
   obtain ⟨_,_,vs,_,p⟩:=(show ObjOk X.prog X.w H s.heap a (.dK kvs) from I.hok a _ ea)
   obtain ⟨o,es,ep,h1,h2,_⟩:=p
   exact PySem.W.kia_one PySem.W.kitx_dict I.kIn ⟨o,h1,h2.1⟩ e (fun z=>nomatch z) h
 | @dT a kvs ea =>
   cases (show u=Value.ref a from rx)
   obtain ⟨_,_,xs,_,o,es,ep,h1,h2,_⟩:=(show ObjOk X.prog X.w H s.heap a (.dT kvs) from I.hok a _ ea)
   exact PySem.W.kia_one PySem.W.kitx_dict I.kIn ⟨o,h1,h2.1⟩ e (fun z=>nomatch z) h
 | @ins a C dx fs ea cl ha hn htk hm =>
   cases (show u=Value.ref a from rx)
   obtain ⟨mA,O,_⟩:=ins_get I.hok ea
   obtain ⟨od,J,_⟩:=O.look
   exact PySem.W.kia_one (PySem.W.kitx_own (cl.get _) cl.hd ha hn htk hm) I.kIn J e (fun z=>nomatch z) h
end
structure Room (k:Nat) (A:Around):Prop where
 hd:A.handled=none
 dp:A.depth+3*k+5 < recursionLimit
 un:A.units+16*k+200 < cLine
theorem Room.mono {j k:Nat} {A:Around} (r:Room k A) (h:j<=k):Room j A:=⟨r.hd,by have:=r.dp; omega,by have:=r.un; omega⟩
theorem Room.deeper {k:Nat} {A:Around} (r:Room (k+1) A) (env:Env):Room k (A.deeper env) :=
 ⟨r.hd,by have:=r.dp; show A.depth+1+3*k+5 < _; omega,by have:=r.un; show A.units+3+16*k+200 < _; omega⟩
theorem make_depth {A:Around} {C:Addr} {us:List Value} {kw:List (Str × Value)}:(A.under (.builtin "type.__call__" ⟨.ref C::us,kw⟩)).depth=A.depth+1:=by
 first | rfl | simp [Around.under,Code.weight,Code.isCreation,Code.isGuard,Code.isCaller,Code.frames,Code.isFrame,guardIds]
theorem make_units {A:Around} {C:Addr} {us:List Value} {kw:List (Str × Value)}:(A.under (.builtin "type.__call__" ⟨.ref C::us,kw⟩)).units=A.units+1:=by
 first | rfl | simp [Around.under,Code.cUnits,Code.frames,Code.isFrame]
theorem Room.make {k:Nat} {A:Around} (r:Room (k+1) A) (C:Addr) (us:List Value) (kw:List (Str × Value)):Room k (A.under (.builtin "type.__call__" ⟨.ref C::us,kw⟩)) :=
 ⟨r.hd,by have:=r.dp; rw [make_depth]; omega,by have:=r.un; rw [make_units]; omega⟩
theorem Room.depth {k:Nat} {A:Around} (r:Room k A):A.depth < recursionLimit:=by have:=r.dp; omega
theorem Room.units {k:Nat} {A:Around} (r:Room k A):A.units+64 < cLine:=by have:=r.un; omega
def tNil:TA:=fun _ H Q=>Q [] H
def tCons (ta:TE) (tr:TA):TA:=fun σ H Q=>ta σ H fun x H1=>tr σ H1 fun xs H2=>Q (x::xs) H2
section
variable {X:Cx} {e:Expr} {es:List Expr} {te:TE} {t:TA} {pos:Pos}
theorem ae:PA X [] tNil:=fun _ _ _ _ H Q I h=>Calls.spliced_nil ⟨[],H,I,.nil,h⟩
theorem aa (ha:PE X e te) (hr:PA X es t) (hs:starEach (e::es) X.env=(false,eval e X.env)::starEach es X.env:=by rfl):PA X (e::es) (tCons te t):=by
 intro pos pins s σ H Q I h
 rw [hs]
 show wpAny _ _ (spliced ((false,eval e X.env)::backTo pos (starEach es X.env))) _ _ s
 refine Calls.spliced_cons (thn (ha pins s σ H _ I h) fun u s1 ⟨x,H1,I1,r1,q1⟩=>?_)
 exact thn (hr pos pins s1 σ H1 _ I1 q1) fun us s2 ⟨xs,H2,I2,r2,q2⟩=>⟨x::xs,H2,I2,.cons r1 r2,q2⟩
def tTup (t:TA):TE:=fun σ H Q=>t σ H fun xs H1=>xs.length<=sizeLine/\∀ p,H1 p=none->Q (.ref p) (upd H1 p (.tup xs))
def tLst (t:TA):TE:=fun σ H Q=>t σ H fun xs H1=>xs.length<=sizeLine/\∀ p,H1 p=none->Q (.ref p) (upd H1 p (.lst xs))
theorem bu {x1} (h:PA X es t):PE X (.Tuple es x1 pos) (tTup t):=by
 intro pins s σ H Q I hq
 refine wpAny_Tuple_spliced (thn (h pos pins s σ H _ I hq) fun us s1 ⟨xs,H1,I1,r,z,q⟩=>⟨by rw [← r.length]; exact z,?_⟩)
 have hf:H1 s1.heap.objs.size=none:=I1.hok.fresh (Nat.le_refl _)
 refine ⟨.ref s1.heap.objs.size,upd H1 s1.heap.objs.size (.tup xs),I1.laid (t':=s1.toks) (fun b u e=>Heap.get?_push_of_some _ e) (Nat.le_refl _) ?_,rfl,q _ hf⟩
 exact ⟨z,us,r,⟨_,Heap.get?_push_size _ rfl,rfl,_,rfl⟩,_,Heap.get?_push_size _ rfl,rfl⟩
theorem bi (h:PA X es t):PE X (.List es pos) (tLst t):=by
 intro pins s σ H Q I hq
 refine wpAny_List_spliced (thn (h pos pins s σ H _ I hq) fun us s1 ⟨xs,H1,I1,r,z,q⟩=>⟨by rw [← r.length]; exact z,?_⟩)
 have hf:H1 s1.heap.objs.size=none:=I1.hok.fresh (Nat.le_refl _)
 refine ⟨.ref s1.heap.objs.size,upd H1 s1.heap.objs.size (.lst xs),I1.laid (t':=s1.toks) (fun b u e=>Heap.get?_push_of_some _ e) (Nat.le_refl _) ?_,rfl,q _ hf⟩
 exact ⟨z,us,0,r,Heap.get?_push_size _ rfl⟩
end
abbrev Sp:=List V->Hp->VK->XK->Prop
abbrev CXT:=List Env->Hp->Shared->XK->Value->Shared->Prop
structure Env0 (P:Program) (w:World) (K:W.Frag) (mg:Str->Option Value) (base:Heap) (A:Around) (outer:List Env) (s:Shared) (H:Hp):Prop where
 frames:A.frames=some outer
 mod:Mod K mg base
 bs:∀ b o,base.get? b=some o->s.heap.get? b=some o/\H b=none
 bsz:base.objs.size<=s.heap.objs.size
 funs:s.heap.FunFrames base outer
 frf:∀ b ∈ frs outer,H b=none
 hok:HOk P w H s.heap
 bare:AllBare s.gens
def CE (outer:List Env) (P:Program) (w:World) (H:Hp) (s:Shared) (Q:VK) (u:Value) (s':Shared):Prop :=
 ∃ v H',s'.os=s.os/\AllBare s'.gens/\Un (frs outer) [] H H' s.heap s'.heap/\HOk P w H' s'.heap/\RelV v u/\Q v H'
def CR (CX:CXT) (outer:List Env) (P:Program) (w:World) (H:Hp) (s:Shared) (Q:VK) (E:XK) (r:Result) (s':Shared):Prop :=
 match r with
 | .ok (.ret u)=>CE outer P w H s Q u s'
 | .ok _=>False
 | .error e=>CX outer H s E e s'
structure FnOk (P:Program) (w:World) (K:W.Frag) (mg:Str->Option Value) (base:Heap) (CX:CXT) (k:Nat) (f:Addr) (fd:FuncData) (ps:List Str) (sp:Sp):Prop where
 len:∀ vs H Q E,sp vs H Q E->vs.length=ps.length
 run:∀ (A:Around) (outer:List Env) (s:Shared) (H:Hp) (args:Args) (us:List Value) (vs:List V) (Q:VK) (E:XK),Room k A->Env0 P w K mg base A outer s H->BindsTo s fd args (ps.zip us)->Vals vs us->sp vs H Q E ->
  codeAny (model P w) A (.call (.ref f) args) (CR CX outer P w H s Q E) s
theorem FnOk.imp {P:Program} {w:World} {K:W.Frag} {mg:Str->Option Value} {base:Heap} {CX:CXT} {k:Nat} {f:Addr} {fd:FuncData} {ps:List Str} {sp sp':Sp} (F:FnOk P w K mg base CX k f fd ps sp)
 (h:∀ vs H Q E,sp' vs H Q E->sp vs H Q E):FnOk P w K mg base CX k f fd ps sp' :=
 ⟨fun vs H Q E q=>F.len vs H Q E (h _ _ _ _ q),fun A outer s H args us vs Q E hr he hb hv hs=>F.run A outer s H args us vs Q E hr he hb hv (h _ _ _ _ hs)⟩
theorem Env0.make {P:Program} {w:World} {K:W.Frag} {mg:Str->Option Value} {base:Heap} {A:Around} {outer:List Env} {s:Shared} {H:Hp} (e:Env0 P w K mg base A outer s H) (C:Addr) (us:List Value) (kw:List (Str × Value)) :
 Env0 P w K mg base (A.under (.builtin "type.__call__" ⟨.ref C::us,kw⟩)) outer s H:=⟨by first | exact e.frames | (simpa [Around.under,Code.envs,Code.isFrame,pushEnvs] using e.frames),e.mod,e.bs,e.bsz,e.funs,e.frf,e.hok,e.bare⟩
section
variable {X:Cx} {pins:List (Addr × Obj)} {σ:St} {H:Hp} {s s':Shared}
theorem Inv.env0 (I:Inv X pins σ H s):Env0 X.prog X.w X.K X.mg X.base X.A X.stack s H :=
 ⟨I.ok.frames,I.ok.mod,I.bs,Nat.le_trans I.ok.bsz I.sz,I.stack,I.stkFree,I.hok,I.bare⟩
theorem Inv.after {Q:VK} {u:Value} (I:Inv X pins σ H s) (h:CE X.stack X.prog X.w H s Q u s'):EP X pins σ Q u s':=by
 obtain ⟨v,H',os,bare,un,hok,r,q⟩:=h
 obtain ⟨hh,g,d,t,os'⟩:=s'
 obtain rfl:os'=s.os:=os
 exact ⟨v,H',I.call (h':=hh) (g':=g) (d':=d) (t':=t) (ch:=[]) un hok bare (fun b z=>absurd z (by simp)),r,q⟩
end
def tCall (sp:Sp) (dvs:List V) (E:XK) (t:TA):TE:=fun σ H Q=>t σ H fun vs H1=>sp (vs++dvs) H1 Q E
def tMeth (C:Addr) (m:Str) (sp:Sp) (dvs:List V) (E:XK) (ta:TE) (t:TA):TE:=fun σ H Q=>ta σ H fun x H1=>∃ a dx fs,x=.ref a/\H1 a=some (.ins C dx fs)/\fs.lookup m=none /\
 t σ H1 fun vs H2=>sp (x::(vs++dvs)) H2 Q E
def tMake (C:Addr) (sp:Sp) (dvs:List V) (E:XK) (t:TA):TE:=fun σ H Q=>t σ H fun vs H1=>∀ x dx,H1 x=none->H1 dx=none->dx ≠ x ->
 sp (.ref x::(vs++dvs)) (upd (upd H1 dx (.own x)) x (.ins C dx [])) (fun v H2=>v=.non/\Q (.ref x) H2) E
def Binds (K:W.Frag) (fd:FuncData) (ps:List Str) (ds:List Value):Prop :=
 ∀ (s:Shared) (us:List Value),K.In s.heap->(us++ds).length=ps.length->BindsTo s fd ⟨us,[]⟩ (ps.zip (us++ds))
theorem Binds.all {K:W.Frag} {fd:FuncData} {ps:List Str} (h:∀ us:List Value,us.length=ps.length->bindArgs fd ⟨us,[]⟩=pure (ps.zip us)):Binds K fd ps []:=fun s us _ hl=>by
 rw [List.append_nil] at hl ⊢
 exact .of_eq (h us hl)
def Passes (CX:CXT) (X:Cx) (E:XK):Prop:=∀ (pins:List (Addr × Obj)) (σ:St) (H:Hp) (s:Shared) (e:Value) (s':Shared),Inv X pins σ H s->CX X.stack H s E e s'->X.xe e s'
section
variable {X:Cx} {CX:CXT} {k:Nat} {f C:Addr} {fd:FuncData} {ps:List Str} {sp:Sp} {dvs:List V} {ds:List Value} {E:XK} {x m:Str} {p pos apos:Pos} {e o:Expr} {es:List Expr} {ta:TE} {t:TA}
theorem run_fn {pins:List (Addr × Obj)} {σ:St} {H:Hp} {s:Shared} {Q:VK} {us:List Value} {vs:List V} (F:FnOk X.prog X.w X.K X.mg X.base CX k f fd ps sp) (hr:Room k X.A) (hb:Binds X.K fd ps ds) (hd:Vals dvs ds) (hx:Passes CX X E)
 (I:Inv X pins σ H s) (r:Vals vs us) (h:sp (vs++dvs) H Q E):wpAny (model X.prog X.w) X.A (call (.ref f) us) (EP X pins σ Q) X.xe s:=by
 have r2:Vals (vs++dvs) (us++ds):=r.append hd
 have hl:(us++ds).length=ps.length:=by rw [← r2.length]; exact F.len _ _ _ _ h
 refine wpAny_call (codeAny_mono (F.run X.A X.stack s H ⟨us,[]⟩ (us++ds) (vs++dvs) Q E hr I.env0 (hb s us I.kIn hl) r2 h) fun r s' hq=>?_)
 cases r with
 | error e=>exact hx pins σ H s e s' I hq
 | ok fl =>
   cases fl with
   | ret u=>exact I.after hq
   | next=>exact False.elim hq
   | brk=>exact False.elim hq
   | cont=>exact False.elim hq
theorem pe_call (F:FnOk X.prog X.w X.K X.mg X.base CX k f fd ps sp) (hr:Room k X.A) (hg:Gl X x) (hm:X.mg x=some (.ref f)) (hk:PySem.W.keepIn X.K (.ref f)=true) (hb:Binds X.K fd ps ds) (hd:Vals dvs ds) (hx:Passes CX X E)
 (ha:PA X (e::es) t) (hdb:(x == ("__debug__" : Str))=false:=by decide) (he:starEach (e::es) X.env=(false,eval e X.env)::starEach es X.env:=by rfl) (hpl:(backTo pos (starEach es X.env)).any (·.1)=false:=by rfl) :
 PE X (.Call (.Name x p) (e::es) [] pos) (tCall sp dvs E t):=by
 intro pins s σ H Q I h
 refine wpAny_Call_Name_kw (ld_glob I hg hm ?_ hdb)
 refine PySem.W.callWith_K (h₀:=X.base) I.ok.mod.kin hk (thn (ha pos pins s σ H _ I h) fun us s1 ⟨vs,H1,I1,r,q⟩=>⟨I1.kIn,?_⟩) he hpl
 exact run_fn F hr hb hd hx I1 r q
theorem pe_meth {pl:Sem Bool} (he:PE X o ta) (c:Cls X.K C) (hm:Meth X.K C m f) (F:FnOk X.prog X.w X.K X.mg X.base CX k f fd ps sp) (hr:Room k X.A) (hb:Binds X.K fd ps ds) (hd:Vals dvs ds) (hx:Passes CX X E) (ha:PA X (e::es) t)
 (hst:starEach (e::es) X.env=(false,eval e X.env)::starEach es X.env:=by rfl) (hpl:(backTo pos (starEach es X.env)).any (·.1)=false:=by rfl)
 (ht:eval (.Call (.Attribute o m apos) (e::es) [] pos) X.env=(do
  let ov ← eval o X.env
  standAt apos.atName
  let (f,first) ← holding [ov] (getMethod ov m pl)
  callWith pos f first (backTo pos (starEach (e::es) X.env)) (backToKw pos (keywordEach [] X.env))):=by rfl) :
 PE X (.Call (.Attribute o m apos) (e::es) [] pos) (tMeth C m sp dvs E ta t):=by
 intro pins s σ H Q I h
 refine PySem.W.methodCall_KW (pl:=pl) (thn (he pins s σ H _ I h) fun u s1 ⟨x,H1,I1,rx,a,dx,fs,ex,ea,l,q⟩=>?_) ht
 subst ex
 obtain rfl:u=Value.ref a:=rx
 refine getmeth_ok I1 ea c hm l ?_
 refine PySem.W.callWith_K (first:=[.ref a]) (h₀:=X.base) I.ok.mod.kin hm.kp (thn (ha pos pins s1 σ H1 _ I1 q) fun us s2 ⟨vs,H2,I2,r,q2⟩=>⟨I2.kIn,?_⟩) hst hpl
 exact run_fn (us:=.ref a::us) (vs:=.ref a::vs) F hr hb hd hx I2 (.cons rfl r) q2
theorem pe_meth0 {pl:Sem Bool} (he:PE X o ta) (c:Cls X.K C) (hm:Meth X.K C m f) (F:FnOk X.prog X.w X.K X.mg X.base CX k f fd ps sp) (hr:Room k X.A) (hb:Binds X.K fd ps ds) (hd:Vals dvs ds) (hx:Passes CX X E)
 (ht:eval (.Call (.Attribute o m apos) [] [] pos) X.env=(do
  let ov ← eval o X.env
  standAt apos.atName
  let (f,first) ← holding [ov] (getMethod ov m pl)
  callWith pos f first (backTo pos (starEach [] X.env)) (backToKw pos (keywordEach [] X.env))):=by rfl) :
 PE X (.Call (.Attribute o m apos) [] [] pos) (tMeth C m sp dvs E ta tNil):=by
 intro pins s σ H Q I h
 refine PySem.W.methodCall_KW (pl:=pl) (thn (he pins s σ H _ I h) fun u s1 ⟨x,H1,I1,rx,a,dx,fs,ex,ea,l,q⟩=>?_) ht
 subst ex
 obtain rfl:u=Value.ref a:=rx
 refine getmeth_ok I1 ea c hm l ?_
 exact PySem.W.callWith_K0 (first:=[.ref a]) I1.kIn hm.kp (run_fn (us:=[.ref a]) (vs:=[.ref a]) F hr hb hd hx I1 (.cons rfl .nil) q)
structure Mk (K:W.Frag) (C f:Addr):Prop where
 makes:PySem.W.makesIn K C=true
 init:PySem.W.findIn K (.ref C) "__init__" = some (some (.ref f))
 fn:PySem.W.isFn K (.ref f)=true
 kp:PySem.W.keepIn K (.ref C)=true
theorem run_make {pins:List (Addr × Obj)} {σ:St} {H:Hp} {s:Shared} {Q:VK} {us:List Value} {vs:List V} (M:Mk X.K C f) (F:FnOk X.prog X.w X.K X.mg X.base CX k f fd ps sp) (hr:Room (k+1) X.A) (hb:Binds X.K fd ps ds) (hd:Vals dvs ds)
 (hx:Passes CX X E) (I:Inv X pins σ H s) (r:Vals vs us)
 (h:∀ x dx,H x=none->H dx=none->dx ≠ x->sp (.ref x::(vs++dvs)) (upd (upd H dx (.own x)) x (.ins C dx [])) (fun v H2=>v=.non/\Q (.ref x) H2) E) :
 wpAny (model X.prog X.w) X.A (call (.ref C) us) (EP X pins σ Q) X.xe s:=by
 have hq:=h (s.heap.objs.size+1) s.heap.objs.size (I.hok.fresh (Nat.le_succ _)) (I.hok.fresh (Nat.le_refl _)) (Nat.ne_of_lt (Nat.lt_succ_self _))
 have I2:=Inv.made (C:=C) I
 have r2:Vals (V.ref (s.heap.objs.size+1)::(vs++dvs)) (Value.ref (s.heap.objs.size+1)::(us++ds)):=.cons rfl (r.append hd)
 have hl:(Value.ref (s.heap.objs.size+1)::us++ds).length=ps.length:=by
  have e:=r2.length
  rw [F.len _ _ _ _ hq] at e
  exact e.symm
 refine wpAny_call (make_map (f:=f) I.kIn M.makes M.init (beq_iff_eq.mp M.fn) (codeAny_mono (F.run _ X.stack _ _ ⟨Value.ref (s.heap.objs.size+1)::us,[]⟩ (Value.ref (s.heap.objs.size+1)::(us++ds)) _ _ E (hr.make C us [])
  (I2.env0.make C us []) (hb _ (Value.ref (s.heap.objs.size+1)::us) I2.kIn hl) r2 hq) fun r s' hq'=>?_))
 cases r with
 | error e=>exact hx pins σ _ _ e s' I2 hq'
 | ok fl =>
   cases fl with
   | ret u =>
     obtain ⟨v,H',I3,rv,ev,q3⟩:=I2.after hq'
     subst ev
     exact ⟨rv,⟨V.ref (s.heap.objs.size+1),H',I3,rfl,q3⟩⟩
   | next=>exact False.elim hq'
   | brk=>exact False.elim hq'
   | cont=>exact False.elim hq'
theorem pe_make (M:Mk X.K C f) (F:FnOk X.prog X.w X.K X.mg X.base CX k f fd ps sp) (hr:Room (k+1) X.A) (hg:Gl X x) (hm:X.mg x=some (.ref C)) (hb:Binds X.K fd ps ds) (hd:Vals dvs ds) (hx:Passes CX X E)
 (ha:PA X (e::es) t) (hdb:(x == ("__debug__" : Str))=false:=by decide) (he:starEach (e::es) X.env=(false,eval e X.env)::starEach es X.env:=by rfl) (hpl:(backTo pos (starEach es X.env)).any (·.1)=false:=by rfl) :
 PE X (.Call (.Name x p) (e::es) [] pos) (tMake C sp dvs E t):=by
 intro pins s σ H Q I h
 refine wpAny_Call_Name_kw (ld_glob I hg hm ?_ hdb)
 refine PySem.W.callWith_K (h₀:=X.base) I.ok.mod.kin M.kp (thn (ha pos pins s σ H _ I h) fun us s1 ⟨vs,H1,I1,r,q⟩=>⟨I1.kIn,?_⟩) he hpl
 exact run_make M F hr hb hd hx I1 r q
end
structure FnScope (N P:List Str) (sc:Scope):Prop where
 kind:sc.kind=.function
 co:sc.isCoroutine=false
 gen:sc.isGenerator=false
 nd:N.Nodup
 pre:N.take P.length=P
 par:∀ x ∈ P,sc.names.lookup x=some .local∨sc.names.lookup x=some .cell
 nofree:∀ y ∈ sc.names,y.2 ≠ .free
theorem bindL_out {kindOf:Str->Option NameKind} {x:Str}:∀ {binds:List (Str × Value)} {m:Str->Option Value},(∀ v,(x,v) ∉ binds)->bindL kindOf binds m x=m x
 | [],_,_=>rfl
 | (n,v)::r,m,h=>by
   unfold bindL
   rw [bindL_out fun w hw=>h w (List.mem_cons_of_mem _ hw)]
   split
   . have:x ≠ n:=by rintro rfl; exact h v List.mem_cons_self
     simp [this]
   . rfl
theorem bindC_out {kindOf:Str->Option NameKind} {x:Str}:∀ {binds:List (Str × Value)} {m:Str->Option Value},(∀ v,(x,v) ∉ binds)->bindC kindOf binds m x=m x
 | [],_,_=>rfl
 | (n,v)::r,m,h=>by
   unfold bindC
   rw [bindC_out fun w hw=>h w (List.mem_cons_of_mem _ hw)]
   split
   . rfl
   . have:x ≠ n:=by rintro rfl; exact h v List.mem_cons_self
     simp [this]
theorem bindL_get {kindOf:Str->Option NameKind} {x:Str} {v:Value}:∀ {P:List Str} {vs:List Value} {i:Nat} {m:Str->Option Value},P.Nodup->P[i]?=some x->vs[i]?=some v->kindOf x=some .local ->
 bindL kindOf (P.zip vs) m x=some v
 | [],_,_,_,_,h,_,_=>by simp at h
 | _::_,[],_,_,_,_,h,_=>by simp at h
 | p::P,w::vs,0,m,nd,h1,h2,hk=>by
   simp at h1 h2; subst h1; subst h2
   show bindL kindOf ((p,w)::P.zip vs) m p=_
   unfold bindL
   rw [bindL_out fun v hv=>(List.nodup_cons.mp nd).1 (List.of_mem_zip hv).1,if_pos hk]
   simp
 | p::P,w::vs,i+1,m,nd,h1,h2,hk=>by
   show bindL kindOf ((p,w)::P.zip vs) m x=_
   unfold bindL
   exact bindL_get (i:=i) (List.nodup_cons.mp nd).2 (by simpa using h1) (by simpa using h2) hk
theorem bindC_get {kindOf:Str->Option NameKind} {x:Str} {v:Value}:∀ {P:List Str} {vs:List Value} {i:Nat} {m:Str->Option Value},P.Nodup->P[i]?=some x->vs[i]?=some v->kindOf x ≠ some .local ->
 bindC kindOf (P.zip vs) m x=some v
 | [],_,_,_,_,h,_,_=>by simp at h
 | _::_,[],_,_,_,_,h,_=>by simp at h
 | p::P,w::vs,0,m,nd,h1,h2,hk=>by
   simp at h1 h2; subst h1; subst h2
   show bindC kindOf ((p,w)::P.zip vs) m p=_
   unfold bindC
   rw [bindC_out fun v hv=>(List.nodup_cons.mp nd).1 (List.of_mem_zip hv).1,if_neg hk]
   simp
 | p::P,w::vs,i+1,m,nd,h1,h2,hk=>by
   show bindC kindOf ((p,w)::P.zip vs) m x=_
   unfold bindC
   exact bindC_get (i:=i) (List.nodup_cons.mp nd).2 (by simpa using h1) (by simpa using h2) hk
def start (N:List Str) (vs:List V):St:=vs.map some++List.replicate (N.length - vs.length) none
def cxOf (CX:CXT) (P:Program) (w:World) (K:W.Frag) (mg:Str->Option Value) (base:Heap) (N:List Str) (qual:Str) (scope:Scope) (f:Addr) (cd:Value) (A:Around) (outer:List Env) (s:Shared) (H:Hp) (E:XK):Cx where
 prog:=P
 w:=w
 K:=K
 mg:=mg
 base:=base
 A:=A.deeper (envOfC qual scope s.heap.objs.size f cd)
 N:=N
 s₀:=s
 H₀:=H
 env:=envOfC qual scope s.heap.objs.size f cd
 outer:=outer
 stack:=envOfC qual scope s.heap.objs.size f cd::outer
 ex:=[]
 calm:=true
 fn:=fun _=>true
 pn:=[]
 xe:=fun e s'=>wpAny (model P w) (A.deeper (envOfC qual scope s.heap.objs.size f cd)) (leaving (envOfC qual scope s.heap.objs.size f cd) e) (fun _ s''=>CX outer H s E e s'') (fun e' s''=>CX outer H s E e' s'') s'
theorem cell_has {sc:Scope} {n:Nat} {x:Str} (h:sc.names.lookup x=some .cell):∃ c,(cellsFrom n sc.names []).lookup x=some c:=by
 have q:=PySem.W.cellsFrom_some sc.names n [] (.inl h)
 exact Option.isSome_iff_exists.mp q
theorem inv_start {CX:CXT} {P:Program} {w:World} {K:W.Frag} {mg:Str->Option Value} {base:Heap} {N ps:List Str} {qual:Str} {scope:Scope} {f:Addr} {cd:Value} {A:Around} {outer:List Env} {s s1:Shared} {H:Hp} {E:XK} {us:List Value} {vs:List V}
 (S:FnScope N ps scope) (hd:A.handled=none) (e0:Env0 P w K mg base A outer s H) (hl:vs.length=ps.length) (r:Vals vs us)
 (x:InCallC s s.heap.objs.size (bindL (envOfC qual scope s.heap.objs.size f cd).kindOf (ps.zip us) fun _=>none) (cellsFrom (s.heap.objs.size+1) scope.names []) (bindC (envOfC qual scope s.heap.objs.size f cd).kindOf (ps.zip us) fun _=>none) s1) :
 Inv (cxOf CX P w K mg base N qual scope f cd A outer s H E) [] (start N vs) H s1:=by
 have hpl:ps.length<=N.length:=by have:=congrArg List.length S.pre; rw [List.length_take] at this; omega
 obtain ⟨h1,tk,rfl,hk⟩:=x.done
 have noA:∀ b:Addr,b ∉ (cxOf CX P w K mg base N qual scope f cd A outer s H E).ex:=fun b z=>absurd (show b ∈ ([]:List Addr) from z) (by simp)
 refine ⟨⟨e0.mod,S.kind,rfl,rfl,Nat.le_refl _,fun y z c h1 h2=>?_,fun y hy=>?_,fun y c _ h=>?_,fun _=>hd,Around.frames_deeper e0.frames,.inr ⟨rfl,rfl⟩,fun b z=>absurd z (noA b),e0.bs,e0.bsz,fun b _ _=>noA b,fun b z=>absurd z (noA b),e0.funs,e0.frf⟩,
  rfl,e0.bare,Un.kept hk,⟨_,x.toInCall.ns,fun i y v h1 h2 h3=>?_⟩,fun y c h=>⟨_,x.cell y c h⟩,e0.hok.fresh (Nat.le_refl _),fun y c h=>?_,fun p hp=>absurd (show p ∈ ([]:List (Addr × Obj)) from hp) (by simp),e0.hok.kept hk,?_⟩
 . exact name_of_addr x.apart (PySem.mem_of_lookup h1) (PySem.mem_of_lookup h2)
 . have hy:scope.names.lookup y=some .cell∨scope.names.lookup y=some .free:=hy
   rcases hy with hy | hy
   . exact cell_has hy
   . exact absurd rfl (S.nofree _ (PySem.mem_of_lookup hy))
 . exact Nat.le_of_lt (x.above y c (PySem.mem_of_lookup h))
 . have hi:i < vs.length:=by
    unfold start at h2
    by_cases hi:i < vs.length
    . exact hi
    . rw [List.getElem?_append_right (by simpa using hi)] at h2
      rw [List.getElem?_replicate] at h2
      split at h2 <;> cases h2
   have ha:vs[i]?=some v:=by
    unfold start at h2
    rw [List.getElem?_append_left (by simpa using hi),List.getElem?_map] at h2
    cases e:vs[i]? with
    | none=>rw [e] at h2; cases h2
    | some a=>rw [e] at h2; cases h2; rfl
   obtain ⟨u,hu,rv⟩:=r.get ha
   have hp:ps[i]?=some y:=by
    rw [← S.pre,List.getElem?_take_of_lt (by omega)]; exact h1
   have ndP:ps.Nodup:=by rw [← S.pre]; exact S.nd.sublist (List.take_sublist _ _)
   refine ⟨u,rv,?_⟩
   rcases S.par y (List.mem_of_getElem? hp) with k | k
   . exact .inl ⟨k,bindL_get ndP hp hu k⟩
   . obtain ⟨c,e⟩:=cell_has (n:=s.heap.objs.size+1) k
     refine .inr ⟨.inl k,c,e,?_⟩
     have q:=x.cell y c e
     rw [bindC_get ndP hp hu (by show scope.names.lookup y ≠ _; rw [k]; decide)] at q
     exact q
 . exact e0.hok.fresh (Nat.le_of_lt (x.above y c (PySem.mem_of_lookup h)))
 . unfold start
   show _=N.length
   rw [List.length_append,List.length_map,List.length_replicate]
   omega
theorem fn_of {CX:CXT} {P:Program} {w:World} {K:W.Frag} {mg:Str->Option Value} {base:Heap} {k:Nat} {f:Addr} {name qual:Str} {params:Arguments} {body:List Stmt} {scope:Scope} {dV kV doc pm cdv ct oc:Value} {an od:Option Addr}
 {osl:Array (Option Value)} {N ps:List Str} {sp:Sp} (lk:K.lookup f=some ⟨oc,od,.func (PySem.W.fnOf name qual params body scope dV kV doc pm an cdv ct),osl⟩) (hcd:PySem.W.codeIn K cdv qual=true) (S:FnScope N ps scope)
 (len:∀ vs H Q E,sp vs H Q E->vs.length=ps.length)
 (hbody:∀ (A:Around) (outer:List Env) (s:Shared) (H:Hp) (vs:List V) (Q:VK) (E:XK),Room k (A.deeper (envOfC qual scope s.heap.objs.size f cdv))->sp vs H Q E ->
  ∃ t,PSs (cxOf CX P w K mg base N qual scope f cdv A outer s H E) body t/\t { nx:=fun _ H'=>Q .non H',rt:=Q } (start N vs) H) :
 FnOk P w K mg base CX (k+1) f (PySem.W.fnOf name qual params body scope dV kV doc pm an cdv ct) ps sp:=by
 refine ⟨len,fun A outer s H args us vs Q E hr e0 hb r hsp=>?_⟩
 have hl:=len _ _ _ _ hsp
 have KX:K.In s.heap:=e0.mod.kin.keeps fun b o e=>(e0.bs b o e).1
 have lim:s.heap.NoLimit:=e0.mod.nolimit.keeps fun b o e=>(e0.bs b o e).1
 have hkind:∀ y ∈ ps.zip us,scope.names.lookup y.1=some .local∨(scope.names.lookup y.1=some .cell/\((cellsFrom (s.heap.objs.size+1) scope.names []).lookup y.1).isSome=true):=fun ⟨n,v⟩ hy=>by
  rcases S.par n (List.of_mem_zip hy).1 with q | q
  . exact .inl q
  . exact .inr ⟨q,PySem.W.cellsFrom_some _ _ _ (.inl q)⟩
 refine codeAny_call_function hr.depth (KX _ _ lk) rfl S.co S.gen rfl (PySem.W.codeRec_of KX hcd) (hb _ _ _ _ ?_)
 refine wpAny_newFunctionEnv_cells S.kind hkind fun env he s1 x=>?_
 subst he
 refine ⟨lim.keeps x.toInCall.keep,codeAny_func ?_⟩
 obtain ⟨t,ht,hq⟩:=hbody A outer s H vs Q E (hr.deeper _) hsp
 have I:Inv (cxOf CX P w K mg base N qual scope f cdv A outer s H E) [] (start N vs) H s1:=inv_start S hr.hd e0 hl r x
 refine wpAny_mono (ht [] s1 (start N vs) H _ I hq) (fun fl s' hs=>?_) fun e s' hs=>hs
 have fin:∀ {σ':St} {H':Hp} {v:V} {u:Value},Inv (cxOf CX P w K mg base N qual scope f cdv A outer s H E) [] σ' H' s'->RelV v u->Q v H'->CE outer P w H s Q u s' :=
  fun {σ' H' v u} J rv q=>⟨v,H',J.os,J.bare,J.base,J.hok,rv,q⟩
 cases fl with
 | ret u =>
   obtain ⟨v,σ',H',J,rv,q⟩:=hs
   exact fin J rv q
 | next =>
   obtain ⟨σ',H',J,q⟩:=hs
   exact fin (v:=V.non) (u:=Value.none) J rfl q
 | brk =>
   obtain ⟨_,_,_,q⟩:=hs
   exact False.elim q
 | cont =>
   obtain ⟨_,_,_,q⟩:=hs
   exact False.elim q
section
variable {X:Cx} {x:Str} {p pos:Pos} {e:Expr} {es:List Expr} {t:TA} {id T:String} {r:List V->Hp->VK->Prop}
def tCB (r:List V->Hp->VK->Prop) (t:TA):TE:=fun σ H Q=>t σ H fun vs H1=>r vs H1 Q
theorem aE (hc:CallR X (.builtin id) r) (hg:Gl X x) (hm:X.mg x=none) (hv:bootBuiltins x=some (.builtin id)) (ha:PA X (e::es) t) (hn:x ≠ "__name__" := by decide) (hdb:(x == ("__debug__" : Str))=false:=by decide)
 (he:starEach (e::es) X.env=(false,eval e X.env)::starEach es X.env:=by rfl) (hpl:(backTo pos (starEach es X.env)).any (·.1)=false:=by rfl):PE X (.Call (.Name x p) (e::es) [] pos) (tCB r t):=by
 intro pins s σ H Q I h
 refine wpAny_Call_Name_kw (ld_blt I hg hm hv ?_ hn hdb)
 exact PyProof.Rows.callWith_builtin1 (thn (ha pos pins s σ H _ I h) fun us s1 ⟨vs,H1,I1,r1,q1⟩=>hc pins s1 σ H1 vs us Q I1 r1 q1) he hpl
theorem bq (hc:CallR X (.type T) r) (hg:Gl X x) (hm:X.mg x=none) (hv:bootBuiltins x=some (.type T)) (ha:PA X (e::es) t) (hn:x ≠ "__name__" := by decide) (hdb:(x == ("__debug__" : Str))=false:=by decide)
 (he:starEach (e::es) X.env=(false,eval e X.env)::starEach es X.env:=by rfl) (hpl:(backTo pos (starEach es X.env)).any (·.1)=false:=by rfl):PE X (.Call (.Name x p) (e::es) [] pos) (tCB r t):=by
 intro pins s σ H Q I h
 refine wpAny_Call_Name_kw (ld_blt I hg hm hv ?_ hn hdb)
 exact PyProof.Rows.callWith_type1 (thn (ha pos pins s σ H _ I h) fun us s1 ⟨vs,H1,I1,r1,q1⟩=>hc pins s1 σ H1 vs us Q I1 r1 q1) he hpl
end
end L2
namespace HT
open PySem PyProof.Rows
section
variable {prog:Program} {w:World} {A:Around} {E:Value->Shared->Prop} {s:Shared}
theorem cat_tup {t b:Addr} {vs ws:List Value} {Q:Value->Shared->Prop} (ht:IsTup s.heap t vs.toArray) (hb:IsTup s.heap b ws.toArray) (hv:vs ≠ [])
 (h1:ws=[]->Q (.ref t) s) (h2:ws ≠ []->Q (.ref s.heap.objs.size) { s with heap:=s.heap.push { cls:=.type "tuple", data:=.seq (vs++ws).toArray } })
 (hsz:vs.length+ws.length<=sizeLine):wpAny (model prog w) A (binaryOp .Add (.ref t) (.ref b)) Q E s:=by
 obtain ⟨⟨cls,dd,data,sl⟩,ho,hc,n,hd⟩:=id ht
 obtain ⟨⟨cls2,dd2,data2,sl2⟩,ho2,hc2,n2,hd2⟩:=id hb
 simp only at hc hd hc2 hd2
 subst hc hd hc2 hd2
 have e:vs.toArray++ws.toArray=(vs++ws).toArray:=by simp
 by_cases hw:ws=[]
 . exact concat_meets ⟨_,ho,rfl⟩ ⟨_,ho2,rfl⟩ noFill_tuple_add seq_tuple_add PySem.F.slot_tuple_add PySem.F.entry_tuple_add (PySem.F.args_tuple_add_2 _ _)
    (tuple_addW1 t b vs.toArray ws.toArray n n2 dd dd2 sl sl2 (by simpa using hv) (by simp [hw])) ⟨ho,ho2,h1 hw⟩
 . refine concat_meets ⟨_,ho,rfl⟩ ⟨_,ho2,rfl⟩ noFill_tuple_add seq_tuple_add PySem.F.slot_tuple_add PySem.F.entry_tuple_add (PySem.F.args_tuple_add_2 _ _)
    (tuple_addW2 t b vs.toArray ws.toArray n n2 dd dd2 sl sl2 (by simpa using hv) (by simpa using hw) (by rw [List.size_toArray,List.size_toArray]; exact hsz)) ⟨ho,ho2,?_⟩
   rw [e]
   exact h2 hw
def sIx (n d:Nat):Option Int->Nat
 | none=>d
 | some v=>if v < 0 then (v+(n:Int)).toNat else min v.toNat n
theorem sIx_none (n d:Nat):sIx n d none=d:=rfl
theorem sIx_nat (n d k:Nat):sIx n d (some (k:Int))=min k n:=by
 show (if (k:Int) < 0 then ((k:Int)+(n:Int)).toNat else min (k:Int).toNat n)=min k n
 rw [if_neg (by omega),Int.toNat_natCast]
theorem sIx_le (n d:Nat) (hd:d<=n) (o:Option Int):sIx n d o<=n:=by
 cases o with
 | none=>exact hd
 | some v =>
   show (if v < 0 then (v+(n:Int)).toNat else min v.toNat n)<=n
   by_cases hv:v < 0
   . rw [if_pos hv]; omega
   . rw [if_neg hv]; exact Nat.min_le_right _ _
theorem clip_eq (v:Int) (n d:Nat):(if v < 0 then max (v+(n:Int)) 0 else min v (n:Int))=((sIx n d (some v):Nat):Int):=by
 show (if v < 0 then max (v+(n:Int)) 0 else min v (n:Int))=(((if v < 0 then (v+(n:Int)).toNat else min v.toNat n):Nat):Int)
 by_cases hv:v < 0
 . simp only [if_pos hv]; omega
 . simp only [if_neg hv]; omega
theorem adjust_gen (lo hi:Option Int) (n:Nat):Builtin.Slice.sliceAdjust lo hi 1 (n:Int)=(((sIx n 0 lo:Nat):Int),((sIx n n hi:Nat):Int)):=by
 have h1:¬ ((1:Int) < 0):=by omega
 unfold Builtin.Slice.sliceAdjust
 simp only [h1,if_false]
 refine Prod.ext ?_ ?_
 . cases lo with
   | none=>rfl
   | some v=>exact clip_eq v n 0
 . cases hi with
   | none=>rfl
   | some v=>exact clip_eq v n n
theorem places_gen (i j:Nat):Builtin.Slice.slicePlaces (i:Int) (j:Int) 1=j - i:=by
 unfold Builtin.Slice.slicePlaces
 have h1:(1:Int) > 0:=by omega
 simp only [h1,if_true,Int.ediv_one]
 split <;> omega
theorem slicePart_ {v:Value} {o:Option Int} {Q:Option Int->Shared->Prop} (p:IsPart v o) (h:Q o s):wpAny (model prog w) A (Builtin.Slice.slicePartIndex v) Q E s:=by
 cases p with
 | none=>exact slicePart_none h
 | int i t=>exact slicePart_int h
theorem sliceApplied_gen {sl:Addr} {vl vu:Value} {lo hi:Option Int} {n:Nat} {Q:Int × Int × Nat->Shared->Prop} (hs:s.heap.IsSliceOf sl vl vu .none) (pl:IsPart vl lo) (pu:IsPart vu hi)
 (h:Q (((sIx n 0 lo:Nat):Int),1,sIx n n hi - sIx n 0 lo) s):wpAny (model prog w) A (Builtin.Slice.sliceApplied (.ref sl) (pure (n:Int))) Q E s:=by
 obtain ⟨os,hos,hcs,hds⟩:=id hs
 unfold Builtin.Slice.sliceApplied Builtin.Slice.sliceFields
 refine wpAny_bind (wpAny_bind (wpAny_field hos hds (x:=vl) rfl (wpAny_bind (wpAny_field hos hds (x:=vu) rfl (wpAny_bind (wpAny_field hos hds (x:=.none) rfl (wpAny_pure ?_)))))))
 refine wpAny_bind (slicePart_none ?_)
 show wpAny _ _ (if ((1:Int) == 0)=true then _ else _) _ _ s
 rw [if_neg (by decide)]
 refine wpAny_bind (slicePart_ pl (wpAny_bind (slicePart_ pu (wpAny_bind (wpAny_pure ?_)))))
 show wpAny _ _ (match Builtin.Slice.sliceAdjust lo hi 1 (n:Int) with | (lo,hi)=>pure (lo,(1:Int),Builtin.Slice.slicePlaces lo hi 1)) _ _ s
 rw [adjust_gen lo hi n]
 show wpAny _ _ (pure (((sIx n 0 lo:Nat):Int),(1:Int),Builtin.Slice.slicePlaces ((sIx n 0 lo:Nat):Int) ((sIx n n hi:Nat):Int) 1)) _ _ s
 rw [places_gen]
 exact wpAny_pure h
theorem pick_gen (xs:Array Value) (i k:Nat):((List.range k).filterMap fun (m:Nat)=>xs[((i:Int)+(m:Int)*1).toNat]?).toArray=((xs.toList.drop i).take k).toArray:=by
 have e:(fun (m:Nat)=>xs[((i:Int)+(m:Int)*1).toNat]?)=fun m=>xs[i+m]?:=by
  funext m
  have:((i:Int)+(m:Int)*1).toNat=i+m:=by omega
  rw [this]
 rw [e]
 have:=pick_run xs i k
 rw [List.filterMap_map] at this
 have e2:((fun x=>xs[x]?) ∘ fun x=>i+x)=fun m=>xs[i+m]?:=rfl
 rw [e2] at this
 rw [this]
theorem getItem_tuple_cut {t sl:Addr} {items:Array Value} {vl vu:Value} {lo hi:Option Int} {Q:Value->Shared->Prop} (ht:IsTup s.heap t items) (hs:s.heap.IsSliceOf sl vl vu .none) (pl:IsPart vl lo) (pu:IsPart vu hi)
 (hw:¬ (sIx items.size 0 lo=0/\sIx items.size items.size hi=items.size))
 (h:Q (.ref s.heap.objs.size) { s with heap:=s.heap.push { cls:=.type "tuple", data:=.seq ((items.toList.drop (sIx items.size 0 lo)).take (sIx items.size items.size hi - sIx items.size 0 lo)).toArray } })
 (hsz:items.size<=sizeLine):wpAny (model prog w) A (getItem (.ref t) (.ref sl)) Q E s:=by
 have htake:sizeOk (.seq ((items.toList.drop (sIx items.size 0 lo)).take (sIx items.size items.size hi - sIx items.size 0 lo)).toArray):=by
  show ((items.toList.drop (sIx items.size 0 lo)).take (sIx items.size items.size hi - sIx items.size 0 lo)).toArray.size<=sizeLine
  rw [List.size_toArray,List.length_take,List.length_drop,Array.length_toList]
  omega
 have hj:sIx items.size items.size hi<=items.size:=sIx_le _ _ (Nat.le_refl _) hi
 obtain ⟨os,hos,hcs,hds⟩:=id hs
 have hTs:s.TypeIs (.ref sl) "slice" := ⟨os,hos,hcs⟩
 unfold getItem
 try with_reducible refine wpAny_holding ?_
 first | refine wpAny_bind (wpAny_pure ?_) | skip
 refine wpAny_bind (wpAny_sequenceKey ht.typeIs (by decide) ?_)
 refine wpAny_bind (wpAny_callSpecial?_slot (name:=Str.ofString "__getitem__") ht.typeIs PyProof.Rows.slot_tuple_getitem
  (wpAny_call_entry PyProof.Rows.slot_tuple_getitem ht.typeIs entry_tuple_getitem ?_ (args_tuple_getitem _ _)))
 show wpAny _ _ (Builtin.Tuple.tupleItemsOf (.ref t) >>= _) _ _ s
 refine wpAny_bind (tupleItemsOf_ ht ?_)
 refine wpAny_bind (wpAny_typeOf hTs ?_)
 rw [if_pos (by decide)]
 refine wpAny_bind (sliceApplied_gen hs pl pu ?_)
 have hno:¬ ((((sIx items.size 0 lo:Nat):Int) == 0 && (1:Int) == 1 && (sIx items.size items.size hi - sIx items.size 0 lo) == items.size)=true):=by
  intro q
  rw [Bool.and_eq_true,Bool.and_eq_true] at q
  have q1:((sIx items.size 0 lo:Nat):Int)=0:=eq_of_beq q.1.1
  have q2:sIx items.size items.size hi - sIx items.size 0 lo=items.size:=eq_of_beq q.2
  exact hw ⟨by omega,by omega⟩
 show wpAny _ _ (if (((sIx items.size 0 lo:Nat):Int) == 0 && (1:Int) == 1 && (sIx items.size items.size hi - sIx items.size 0 lo) == items.size)=true then _ else _) _ _ s
 rw [if_neg hno,pick_gen]
 first
  | exact wpAny_bind (m:=Builtin.Tuple.tupleExact _) (wpAny_newObj_type (wpAny_pure ⟨_,rfl,wpAny_pure h⟩) htake)
  | exact wpAny_bind (m:=Builtin.Tuple.tupleExact _) (wpAny_newObj_type (wpAny_bind (wpAny_pure (wpAny_pure ⟨_,rfl,wpAny_pure h⟩))) htake)
  | exact wpAny_bind (wpAny_bind (m:=Builtin.Tuple.tupleExact _) (wpAny_newObj_type (wpAny_pure (wpAny_pure ⟨_,rfl,wpAny_pure h⟩)) htake))
  | exact wpAny_bind (wpAny_bind (m:=Builtin.Tuple.tupleExact _) (wpAny_newObj_type (wpAny_pure ⟨_,rfl,wpAny_pure h⟩) htake))
end
end HT
namespace L2
open PySem PySem.Spec PyProof.Rows
abbrev TO:=St->Hp->(Option Int->Hp->Prop)->Prop
def PO (X:Cx) (e:Option Expr) (t:TO):Prop :=
 ∀ (pins:List (Addr × Obj)) (s:Shared) (σ:St) (H:Hp) (Q:Option Int->Hp->Prop),Inv X pins σ H s->t σ H Q ->
  wpAny (model X.prog X.w) X.A (evalPart e X.env) (fun u s'=>∃ o H',Inv X pins σ H' s'/\IsPart u o/\Q o H') X.xe s
def tNoPart:TO:=fun _ H Q=>Q none H
def tPart (t:TE):TO:=fun σ H Q=>t σ H fun x H1=>∃ i,x=.int i/\Q (some i) H1
section
variable {X:Cx} {e:Expr} {te:TE} {lo hi:Option Expr} {tl th:TO} {pos p2:Pos}
theorem po_none:PO X none tNoPart:=by
 intro pins s σ H Q I h
 rw [evalPart_none]
 exact wpAny_pure ⟨none,H,I,.none,h⟩
theorem po_some (h:PE X e te):PO X (some e) (tPart te):=by
 intro pins s σ H Q I hw
 rw [evalPart_some]
 refine thn (h pins s σ H _ I hw) fun u s1 ⟨x,H1,I1,r1,q1⟩=>?_
 obtain ⟨i,rfl,q⟩:=q1
 obtain ⟨t,rfl⟩:=r1
 exact ⟨some i,H1,I1,.int i t,q⟩
def SlR (X:Cx) (r:V->Option Int->Option Int->Hp->VK->Prop):Prop :=
 ∀ (pins:List (Addr × Obj)) (s:Shared) (σ:St) (H:Hp) (x:V) (v vl vu:Value) (lo hi:Option Int) (sl:Addr) (Q:VK),Inv X pins σ H s->RelV x v->s.heap.IsSliceOf sl vl vu .none->IsPart vl lo->IsPart vu hi->r x lo hi H Q ->
  ∃ T id,typeLookup (.type T) "__getitem__" = pure (some (.builtin id))/\s.TypeIs v T/\wpAny (model X.prog X.w) X.A (getItem v (.ref sl)) (EP X pins σ Q) X.xe s
def tSl (r:V->Option Int->Option Int->Hp->VK->Prop) (te:TE) (tl th:TO):TE:=fun σ H Q=>te σ H fun x H1=>tl σ H1 fun l H2=>th σ H2 fun u H3=>r x l u H3 Q
theorem pe_slice {r:V->Option Int->Option Int->Hp->VK->Prop} (hr:SlR X r) (he:PE X e te) (hl:PO X lo tl) (hu:PO X hi th):PE X (.Subscript e (.Slice lo hi none p2) pos) (tSl r te tl th):=by
 intro pins s σ H Q I h
 refine Subscript_ (thn (he pins s σ H _ I h) fun v s1 ⟨x,H1,I1,r1,q1⟩=>?_)
 refine wpAny_Slice (thn (hl pins s1 σ H1 _ I1 q1) fun vl s2 ⟨l,H2,I2,pl,q2⟩=>thn (hu pins s2 σ H2 _ I2 q2) fun vu s3 ⟨u,H3,I3,pu,q3⟩=>?_)
 rw [evalPart_none]
 refine wpAny_pure ?_
 have I4:Inv X pins σ H3 { s3 with heap:=s3.heap.push { cls:=.type "slice", data:=.fields #[vl,vu,.none] } }:=I3.kept (t':=s3.toks) fun b ob q=>Heap.get?_push_of_some _ q
 obtain ⟨T,id,hT,ht,hg⟩:=hr pins { s3 with heap:=s3.heap.push { cls:=.type "slice", data:=.fields #[vl,vu,.none] } } σ H3 x v vl vu l u s3.heap.objs.size Q I4 r1 (Heap.IsSliceOf.new ..) pl pu q3
 show wpAny (model X.prog X.w) X.A (subscriptTail e (.Slice lo hi none p2) v (.ref s3.heap.objs.size)) (EP X pins σ Q) X.xe { s3 with heap:=s3.heap.push { cls:=.type "slice", data:=.fields #[vl,vu,.none] } }
 exact tail_any (ops:=[.ref s3.heap.objs.size,v]) ht hT hg (by with_unfolding_all rfl)
def cutV (xs:List V) (lo hi:Option Int):List V:=(xs.drop (HT.sIx xs.length 0 lo)).take (HT.sIx xs.length xs.length hi - HT.sIx xs.length 0 lo)
theorem cutV_length (xs:List V) (lo hi:Option Int):(cutV xs lo hi).length<=xs.length:=by
 unfold cutV
 rw [List.length_take,List.length_drop]
 omega
def rSlT (K:W.Frag):V->Option Int->Option Int->Hp->VK->Prop:=fun x lo hi H Q=>∃ a xs,x=.ref a/\SqT K H a xs /\
 ¬ (HT.sIx xs.length 0 lo=0/\HT.sIx xs.length xs.length hi=xs.length)/\∀ p,H p=none->Q (.ref p) (upd H p (.tup (cutV xs lo hi)))
theorem sl_tup:SlR X (rSlT X.K):=by
 intro pins s σ H x v vl vu lo hi sl Q I rx hs pl pu h
 obtain ⟨a,xs,rfl,hx,hw,q⟩:=h
 cases rx
 obtain ⟨its,r,ht,hz⟩:=I.tuple hx
 have hlen:its.toArray.size=xs.length:=by rw [List.size_toArray]; exact r.length.symm
 refine ⟨"tuple", _,PyProof.Rows.slot_tuple_getitem.lookup,ht.typeIs,?_⟩
 refine HT.getItem_tuple_cut ht hs pl pu (by rw [hlen]; exact hw) ?_ (by rw [hlen]; exact hz)
 rw [hlen]
 refine ⟨.ref s.heap.objs.size,_,I.laid (t':=s.toks) (o:=.tup (cutV xs lo hi)) (fun b ob q=>Heap.get?_push_of_some _ q) (Nat.le_refl _) ?_,rfl,q _ (I.hok.fresh (Nat.le_refl _))⟩
 exact ⟨Nat.le_trans (cutV_length xs lo hi) hz,_,(r.drop (HT.sIx xs.length 0 lo)).take (HT.sIx xs.length xs.length hi - HT.sIx xs.length 0 lo),IsTup.new _ _,_,Heap.get?_push_size _ rfl,rfl⟩
def rCatT (K:W.Frag):R2:=fun x y H Q=>∃ a b xs ys,x=.ref a/\y=.ref b/\SqT K H a xs/\SqT K H b ys/\xs ≠ []/\xs.length+ys.length<=sizeLine /\
 (ys=[]->Q (.ref a) H)/\(ys ≠ []->∀ p,H p=none->Q (.ref p) (upd H p (.tup (xs++ys))))
theorem Vals.nil_iff {xs:List V} {us:List Value} (r:Vals xs us):us=[]↔xs=[]:=by
 cases r with
 | nil=>simp
 | cons _ _=>simp
theorem op_catT:OpR X (binaryOp .Add) (rCatT X.K):=by
 intro pins s σ H x y v u Q I rx ry h
 obtain ⟨a,b,xs,ys,rfl,rfl,ha,hb,hx,hz,q1,q2⟩:=h
 cases rx
 cases ry
 obtain ⟨its,r1,p1,_⟩:=I.tuple ha
 obtain ⟨its2,r2,p2,_⟩:=I.tuple hb
 refine HT.cat_tup p1 p2 (fun z=>hx (r1.nil_iff.mp z)) (fun z=>⟨.ref a,H,I,rfl,q1 (r2.nil_iff.mp z)⟩) (fun z=>?_) (by rw [← r1.length,← r2.length]; exact hz)
 refine ⟨.ref s.heap.objs.size,_,I.laid (t':=s.toks) (o:=.tup (xs++ys)) (fun b ob q=>Heap.get?_push_of_some _ q) (Nat.le_refl _) ?_,rfl,q2 (fun w=>z (r2.nil_iff.mpr w)) _ (I.hok.fresh (Nat.le_refl _))⟩
 exact ⟨by rw [List.length_append]; exact hz,_,r1.append r2,IsTup.new _ _,_,Heap.get?_push_size _ rfl,rfl⟩
end
def ixN (n:Nat) (i:Int):Option Nat:=if 0<=i then (if i < n then some i.toNat else none) else if -(n:Int)<=i then some (i+n).toNat else none
def atI {α:Type} (xs:List α) (i:Int):Option α:=(ixN xs.length i).bind fun j=>xs[j]?
theorem ixN_seq {n:Nat} {i:Int} {j:Nat} (h:ixN n i=some j):seqIndex? i n=some j/\j < n/\-(n:Int)<=i/\i < n:=by
 unfold ixN at h
 by_cases h0:0<=i
 . rw [if_pos h0] at h
   by_cases h1:i < n
   . rw [if_pos h1] at h
     have e:i.toNat=j:=Option.some.inj h
     exact ⟨by rw [seqIndex_of h0 h1,e],by omega,by omega,h1⟩
   . rw [if_neg h1] at h; cases h
 . rw [if_neg h0] at h
   by_cases h1:-(n:Int)<=i
   . rw [if_pos h1] at h
     have e:(i+n).toNat=j:=Option.some.inj h
     exact ⟨by rw [seqIndex_neg (by omega) h1,e],by omega,h1,by omega⟩
   . rw [if_neg h1] at h; cases h
theorem atI_get {α:Type} {xs:List α} {i:Int} {v:α} (h:atI xs i=some v):∃ j,seqIndex? i xs.length=some j/\xs[j]?=some v/\j < xs.length/\-(xs.length:Int)<=i/\i < xs.length:=by
 unfold atI at h
 cases e:ixN xs.length i with
 | none=>rw [e] at h; cases h
 | some j =>
   rw [e] at h
   obtain ⟨h1,h2,h3,h4⟩:=ixN_seq e
   exact ⟨j,h1,h,h2,h3,h4⟩
theorem cn {α:Type} {xs:List α} {j:Nat} {v:α} (h:xs[j]?=some v):atI xs (j:Int)=some v:=by
 have hj:j < xs.length:=(List.getElem?_eq_some_iff.mp h).1
 have e:ixN xs.length (j:Int)=some j:=by
  unfold ixN
  rw [if_pos (by omega),if_pos (by omega)]; simp
 unfold atI; rw [e]; exact h
theorem atI_last {α:Type} (xs:List α) (v:α):atI (xs++[v]) (-1)=some v:=by
 have hl:(xs++[v]).length=xs.length+1:=by simp
 have e:ixN (xs++[v]).length (-1)=some xs.length:=by
  unfold ixN
  rw [hl,if_neg (by decide),if_pos (by omega)]
  congr 1
  omega
 unfold atI
 rw [e]
 show (xs++[v])[xs.length]?=some v
 simp
def PlainIx (b:Expr):Prop:=∀ o i,subscripted b false o i=operate [o,i] (getItem o i)
def IxR (X:Cx) (r:R2):Prop :=
 ∀ (value slice:Expr) (pins:List (Addr × Obj)) (s:Shared) (σ:St) (H:Hp) (x y:V) (v u:Value) (Q:VK),Inv X pins σ H s->RelV x v->RelV y u->r x y H Q ->
  subscripted slice false v u=operate [v,u] (getItem v u)->wpAny (model X.prog X.w) X.A (subscriptTail value slice v u) (EP X pins σ Q) X.xe s
def MtR (X:Cx) (id:String) (r:V->List V->Hp->VK->Prop):Prop :=
 ∀ (pins:List (Addr × Obj)) (s:Shared) (σ:St) (H:Hp) (x:V) (xs:List V) (v:Value) (us:List Value) (Q:VK),Inv X pins σ H s->RelV x v->Vals xs us->r x xs H Q ->
  wpAny (model X.prog X.w) X.A (call (.builtin id) (v::us)) (EP X pins σ Q) X.xe s
section
variable {X:Cx} {a b:Expr} {ta tb:TE} {pos:Pos}
theorem IxR.or {r r':R2} (h:IxR X r) (h':IxR X r'):IxR X (fun x y H Q=>r x y H Q∨r' x y H Q):=by
 intro value slice pins s σ H x y v u Q I rx ry q hs
 rcases q with q | q
 . exact h value slice pins s σ H x y v u Q I rx ry q hs
 . exact h' value slice pins s σ H x y v u Q I rx ry q hs
theorem ay {r:R2} (hr:IxR X r) (ha:PE X a ta) (hb:PE X b tb) (hs:PlainIx b):PE X (.Subscript a b pos) (tOp r ta tb):=by
 intro pins s σ H Q I h
 exact Subscript_ (binT ha hb I h fun v u s2 x y H2 I2 rx ry q=>hr a b pins s2 σ H2 x y v u Q I2 rx ry q (hs _ _))
def rIxL (K:W.Frag):R2:=fun x y H Q=>∃ p xs i v,x=.ref p/\y=.int i/\SqL K H p xs/\atI xs i=some v/\Q v H
def rIxT (K:W.Frag):R2:=fun x y H Q=>∃ p xs i v,x=.ref p/\y=.int i/\SqT K H p xs/\atI xs i=some v/\Q v H
def rIxS:R2:=fun x y H Q=>∃ z i c,x=.str z/\y=.int i/\z.length<=sizeLine/\atI z.cps.toList i=some c/\Q (.str ⟨#[c]⟩) H
theorem ix_list:IxR X (rIxL X.K):=by
 intro value slice pins s σ H x y v u Q I rx ry h hs
 obtain ⟨p,xs,i,z,rfl,rfl,hq,he,q⟩:=h
 cases rx
 obtain ⟨t,rfl⟩:=ry
 obtain ⟨its,r,pl,hz⟩:=I.list hq
 obtain ⟨j,h1,h2,h3,h4,h5⟩:=atI_get he
 obtain ⟨w,ew,rw'⟩:=r.get h2
 have hl:=r.length
 have hn:=line63
 have fin:EP X pins σ Q w s:=⟨z,H,I,rw',q⟩
 by_cases h0:0<=i
 . have hj:i.toNat=j:=by
    rw [seqIndex_of h0 h5] at h1
    exact Option.some.inj h1
   exact item_listR pl.isList h0 (by omega) (by rw [hj]; simpa using ew) fin hs
 . have hj:(i+(its.toArray.size:Int)).toNat=j:=by
    rw [seqIndex_neg (by omega) h4] at h1
    rw [List.size_toArray,← hl]
    exact Option.some.inj h1
   exact subscriptTail_builtinR (x:=w) pl.isList.typeIs slot_list_getitem.lookup
    (wpAny_getItem_list_neg (Q:=fun r s'=>r=w/\EP X pins σ Q r s') pl.isList (by omega) (by rw [List.size_toArray] <;> omega) (by omega) (by rw [hj]; simpa using ew) ⟨rfl,fin⟩) hs
theorem aA:IxR X (rIxT X.K):=by
 intro value slice pins s σ H x y v u Q I rx ry h hs
 obtain ⟨p,xs,i,z,rfl,rfl,hq,he,q⟩:=h
 cases rx
 obtain ⟨t,rfl⟩:=ry
 obtain ⟨its,r,pl,hz⟩:=I.tuple hq
 obtain ⟨j,h1,h2,h3,h4,h5⟩:=atI_get he
 obtain ⟨w,ew,rw'⟩:=r.get h2
 have hl:=r.length
 have hn:=line63
 have fin:EP X pins σ Q w s:=⟨z,H,I,rw',q⟩
 exact subscriptTail_builtinR (x:=w) pl.typeIs slot_tuple_getitem.lookup
  (getItem_tuple (j:=j) (Q:=fun r s'=>r=w/\EP X pins σ Q r s') pl (by omega) (by omega) (by rw [List.size_toArray,← hl]; exact h1) (by simpa using ew) ⟨rfl,fin⟩) hs
theorem ix_str:IxR X rIxS:=by
 intro value slice pins s σ H x y v u Q I rx ry h hs
 obtain ⟨z,i,c,rfl,rfl,hz,he,q⟩:=h
 obtain ⟨t,rfl⟩:=rx
 obtain ⟨t',rfl⟩:=ry
 obtain ⟨j,h1,h2,h3,h4,h5⟩:=atI_get he
 have hl:z.cps.toList.length=z.length:=by simp [Str.length]
 rw [hl] at h1 h4 h5
 have hn:=line63
 exact tail_any (typeIs_str s z t) slot_str_getitem.lookup (getItem_str (c:=c) (by
  have e1:decide (i < -(2 ^ 63:Int))=false:=decide_eq_false (by omega)
  have e2:decide (i ≥ 2 ^ 63)=false:=decide_eq_false (by omega)
  rw [e1,e2,Bool.or_false]) (by rw [h1]; simpa using h2) ⟨.str ⟨#[c]⟩,H,I.tok _,⟨_,rfl⟩,q⟩) hs
theorem mapSeq_set (its:List Value) (n j:Nat) (u:Value):Obj.mapSeq (·.setIfInBounds j u) { cls:=.type "list", data:=.seq its.toArray n }={ cls:=.type "list", data:=.seq (its.set j u).toArray n }:=by
 simp [Obj.mapSeq]
theorem Inv.lst {pins:List (Addr × Obj)} {σ:St} {H:Hp} {s:Shared} {p:Addr} {xs:List V} (I:Inv X pins σ H s) (h:H p=some (.lst xs)) :
 ∃ (its:List Value) (n:Nat),Vals xs its/\s.heap.get? p=some { cls:=.type "list", data:=.seq its.toArray n }/\xs.length<=sizeLine:=by
 obtain ⟨z,its,n,r,e⟩:=I.hok p _ h
 exact ⟨its,n,r,e,z⟩
theorem Inv.lstUpd {pins:List (Addr × Obj)} {σ:St} {H:Hp} {s:Shared} {p:Addr} {xs ys:List V} {its its':List Value} {n n':Nat} {f:Obj->Obj} (I:Inv X pins σ H s) (h:H p=some (.lst xs))
 (ho:s.heap.get? p=some { cls:=.type "list", data:=.seq its.toArray n }) (hf:f { cls:=.type "list", data:=.seq its.toArray n }={ cls:=.type "list", data:=.seq its'.toArray n' }) (r:Vals ys its') (hz:ys.length<=sizeLine) (t:Nat) :
 Inv X pins σ (upd H p (.lst ys)) { s with heap:=s.heap.update p f,toks:=t }:=by
 have e:(s.heap.update p f).get? p=some { cls:=.type "list", data:=.seq its'.toArray n' }:=by
  rw [Heap.get?_update_self f ho (by rw [hf] <;> rfl),hf]
 refine I.write (x:=p) (e:=p) (by rw [h]; trivial) (.inl rfl) (fun b u hb q=>(Heap.get?_update_other _ _ (Ne.symm hb)).trans q) ⟨_,e⟩ ?_
 exact ⟨hz,its',n',r,e⟩
def rSetL:V->V->V->Hp->(Hp->Prop)->Prop:=fun o i v H Q=>∃ p xs k j,o=.ref p/\i=.int k/\H p=some (.lst xs)/\ixN xs.length k=some j/\Q (upd H p (.lst (xs.set j v)))
theorem set_list:PSet X rSetL:=by
 intro pins s σ H o i v ov iv u Q I ro ri rv h
 obtain ⟨p,xs,k,j,rfl,rfl,hp,hj,q⟩:=h
 cases ro
 obtain ⟨t,rfl⟩:=ri
 obtain ⟨its,n,r,ho,hz⟩:=I.lst hp
 obtain ⟨h1,h2,h3,h4⟩:=ixN_seq hj
 have hl:=r.length
 have hn:=line63
 have I':Inv X pins σ (upd H p (.lst (xs.set j v))) { s with heap:=s.heap.update p (Obj.mapSeq (·.setIfInBounds j u)) } :=
  I.lstUpd hp ho (mapSeq_set its n j u) (r.set rv j) (by rw [List.length_set]; exact hz) s.toks
 by_cases h0:0<=k
 . have hk:k.toNat=j:=by
    rw [seqIndex_of h0 h4] at h1
    exact Option.some.inj h1
   exact PySem.W.ki_setAt ho h0 (by omega) (by rw [List.size_toArray,← hl]; exact h4) (by rw [hk]; exact ⟨_,I',q⟩)
 . have hk:(k+(its.toArray.size:Int)).toNat=j:=by
    rw [seqIndex_neg (by omega) h3] at h1
    rw [List.size_toArray,← hl]
    exact Option.some.inj h1
   exact PySem.W.ki_setBack ho (by omega) (by rw [List.size_toArray,← hl]; exact h3) (by omega) (by rw [hk]; exact ⟨_,I',q⟩)
theorem slice_bounds (lo hi:Option Int) (n:Nat):(sliceBounds lo hi none n).1=((HT.sIx n 0 lo:Nat):Int)/\(sliceBounds lo hi none n).2.1=((HT.sIx n n hi:Nat):Int)/\(sliceBounds lo hi none n).2.2=1:=by
 refine ⟨?_,?_,rfl⟩
 . cases lo with
   | none=>simp [sliceBounds,HT.sIx]
   | some i =>
     simp only [sliceBounds,HT.sIx,Option.getD_none,show (1:Int) > 0 by decide,if_true]
     by_cases h:i < 0
     . simp only [h,if_true] <;> omega
     . simp only [h,if_false] <;> omega
 . cases hi with
   | none=>simp [sliceBounds,HT.sIx]
   | some i =>
     simp only [sliceBounds,HT.sIx,Option.getD_none,show (1:Int) > 0 by decide,if_true]
     by_cases h:i < 0
     . simp only [h,if_true] <;> omega
     . simp only [h,if_false] <;> omega
theorem slicePick_cut (its:List Value) (lo hi:Option Int):slicePick its.toArray lo hi none=((its.drop (HT.sIx its.length 0 lo)).take (HT.sIx its.length its.length hi - HT.sIx its.length 0 lo)).toArray:=by
 obtain ⟨h1,h2,h3⟩:=slice_bounds lo hi its.toArray.size
 unfold slicePick
 rw [h1,h2,h3]
 simp only [sliceRange_one,pick_run,List.size_toArray] <;> rfl
def rSlL (K:W.Frag):V->Option Int->Option Int->Hp->VK->Prop:=fun x lo hi H Q=>∃ a xs,x=.ref a/\SqL K H a xs/\∀ p,H p=none->Q (.ref p) (upd H p (.lst (cutV xs lo hi)))
theorem sl_list:SlR X (rSlL X.K):=by
 intro pins s σ H x v vl vu lo hi sl Q I rx hs pl pu h
 obtain ⟨a,xs,rfl,hx,q⟩:=h
 cases rx
 obtain ⟨its,r,ht,hz⟩:=I.list hx
 have hlen:=r.length
 refine ⟨"list", _,slot_list_getitem.lookup,ht.isList.typeIs,?_⟩
 refine wpAny_getItem_list_slice ht.isList hs pl pu .none (by simp) ?_ (by rw [List.size_toArray] <;> omega)
 rw [slicePick_cut,← hlen]
 refine ⟨.ref s.heap.objs.size,_,I.laid (t':=s.toks) (o:=.lst (cutV xs lo hi)) (fun b ob q=>Heap.get?_push_of_some _ q) (Nat.le_refl _) ?_,rfl,q _ (I.hok.fresh (Nat.le_refl _))⟩
 exact ⟨Nat.le_trans (cutV_length xs lo hi) hz,_,0,(r.drop (HT.sIx xs.length 0 lo)).take (HT.sIx xs.length xs.length hi - HT.sIx xs.length 0 lo),Heap.get?_push_size _ rfl⟩
def flatV:V->Bool
 | .non=>true
 | .bl _=>true
 | .int _=>true
 | .str _=>true
 | _=>false
def eqV:V->V->Bool
 | .non,.non=>true
 | .bl a,.bl b=>a == b
 | .bl a,.int b=>(if a then 1 else 0) == b
 | .int a,.bl b=>a == (if b then 1 else 0)
 | .int a,.int b=>a == b
 | .str a,.str b=>a == b
 | _,_=>false
theorem eqAt_V {A:Around} {s:Shared} {y x:V} {u v:Value} (ry:RelV y u) (rx:RelV x v) (fy:flatV y=true) (fx:flatV x=true):SeqAt.EqAt A s u v (eqV y x):=by
 cases y with
 | non =>
   cases ry
   cases x with
   | non=>cases rx; exact SeqAt.EqAt.same _
   | bl b=>cases rx; exact SeqAt.EqAt.none_bool b
   | int b=>obtain ⟨t,rfl⟩:=rx; exact SeqAt.EqAt.none_int b t
   | str b=>obtain ⟨t,rfl⟩:=rx; exact SeqAt.EqAt.none_str b t
   | _=>exact absurd (show false=true from fx) Bool.false_ne_true
 | bl a =>
   cases ry
   cases x with
   | non=>cases rx; exact SeqAt.EqAt.bool_none a
   | bl b=>cases rx; exact SeqAt.EqAt.bool_bool a b
   | int b=>obtain ⟨t,rfl⟩:=rx; exact SeqAt.EqAt.bool_int a b t
   | str b=>obtain ⟨t,rfl⟩:=rx; exact SeqAt.EqAt.bool_str a b t
   | _=>exact absurd (show false=true from fx) Bool.false_ne_true
 | int a =>
   obtain ⟨t',rfl⟩:=ry
   cases x with
   | non=>cases rx; exact SeqAt.EqAt.int_none a t'
   | bl b=>cases rx; exact SeqAt.EqAt.int_bool a t' b
   | int b=>obtain ⟨t,rfl⟩:=rx; exact SeqAt.EqAt.int_int a t' b t
   | str b=>obtain ⟨t,rfl⟩:=rx; exact SeqAt.EqAt.int_str a t' b t
   | _=>exact absurd (show false=true from fx) Bool.false_ne_true
 | str a =>
   obtain ⟨t',rfl⟩:=ry
   cases x with
   | non=>cases rx; exact SeqAt.EqAt.str_none a t'
   | bl b=>cases rx; exact SeqAt.EqAt.str_bool a t' b
   | int b=>obtain ⟨t,rfl⟩:=rx; exact SeqAt.EqAt.str_int a t' b t
   | str b=>obtain ⟨t,rfl⟩:=rx; exact SeqAt.EqAt.str_str a t' b t
   | _=>exact absurd (show false=true from fx) Bool.false_ne_true
 | _=>exact absurd (show false=true from fy) Bool.false_ne_true
def eqU (x:V) (u:Value):Bool:=match u with
 | .none=>eqV .non x
 | .bool b=>eqV (.bl b) x
 | .int i _=>eqV (.int i) x
 | .str z _=>eqV (.str z) x
 | _=>false
theorem eqU_of {x y:V} {u:Value} (r:RelV y u) (f:flatV y=true):eqU x u=eqV y x:=by
 cases y with
 | non=>cases r; rfl
 | bl b=>cases r; rfl
 | int i=>obtain ⟨t,rfl⟩:=r; rfl
 | str z=>obtain ⟨t,rfl⟩:=r; rfl
 | _=>exact absurd (show false=true from f) Bool.false_ne_true
theorem any_eqU {x:V}:∀ {xs:List V} {us:List Value},Vals xs us->xs.all flatV=true->us.any (eqU x)=xs.any fun y=>eqV y x
 | _,_,.nil,_=>rfl
 | y::xs,u::us,.cons r t,f=>by
   rw [List.all_cons,Bool.and_eq_true] at f
   rw [List.any_cons,List.any_cons,eqU_of r f.1,any_eqU t f.2]
theorem mem_eqAt {A:Around} {s:Shared} {x:V} {v:Value} (rx:RelV x v) (fx:flatV x=true):∀ {xs:List V} {us:List Value},Vals xs us->xs.all flatV=true->∀ u ∈ us,SeqAt.EqAt A s u v (eqU x u)
 | _,_,.nil,_=>fun u hu=>by cases hu
 | y::xs,u::us,.cons r t,f=>fun u' hu=>by
   rw [List.all_cons,Bool.and_eq_true] at f
   rcases List.mem_cons.mp hu with rfl | hu
   . rw [eqU_of r f.1]; exact eqAt_V r rx f.1 fx
   . exact mem_eqAt rx fx t f.2 u' hu
def inV (x:V) (xs:List V):Bool:=xs.any fun y=>eqV y x
def rIn (K:W.Frag) (neg:Bool):R2:=fun x y H Q=>∃ p xs,y=.ref p/\(SqL K H p xs∨SqT K H p xs)/\flatV x=true/\xs.all flatV=true/\Q (.bl (if neg then !inV x xs else inV x xs)) H
theorem op_in_seq:OpR X (compareOp .In) (rIn X.K false):=by
 intro pins s σ H x y v u Q I rx ry h
 obtain ⟨p,xs,rfl,hq,fx,fs,q⟩:=h
 cases ry
 rcases hq with hq | hq
 . obtain ⟨its,r,pl,hz⟩:=I.list hq
   refine SeqAt.in_listAt (eqU x) pl.isList (fun w hw=>mem_eqAt rx fx r fs w (by simpa using hw)) ⟨.bl _,H,I,rfl,?_⟩
   rw [show its.toArray.any (eqU x)=its.any (eqU x) by simp,any_eqU r fs]
   exact q
 . obtain ⟨its,r,pl,hz⟩:=I.tuple hq
   refine SeqAt.in_tupleAt (eqU x) pl (fun w hw=>mem_eqAt rx fx r fs w (by simpa using hw)) ⟨.bl _,H,I,rfl,?_⟩
   rw [show its.toArray.any (eqU x)=its.any (eqU x) by simp,any_eqU r fs]
   exact q
theorem op_notIn_seq:OpR X (compareOp .NotIn) (rIn X.K true):=by
 intro pins s σ H x y v u Q I rx ry h
 obtain ⟨p,xs,rfl,hq,fx,fs,q⟩:=h
 cases ry
 rcases hq with hq | hq
 . obtain ⟨its,r,pl,hz⟩:=I.list hq
   refine SeqAt.notIn_listAt (eqU x) pl.isList (fun w hw=>mem_eqAt rx fx r fs w (by simpa using hw)) ⟨.bl _,H,I,rfl,?_⟩
   rw [show its.toArray.any (eqU x)=its.any (eqU x) by simp,any_eqU r fs]
   exact q
 . obtain ⟨its,r,pl,hz⟩:=I.tuple hq
   refine SeqAt.notIn_tupleAt (eqU x) pl (fun w hw=>mem_eqAt rx fx r fs w (by simpa using hw)) ⟨.bl _,H,I,rfl,?_⟩
   rw [show its.toArray.any (eqU x)=its.any (eqU x) by simp,any_eqU r fs]
   exact q
theorem aB:CallR X (.builtin "len") (fun xs H Q=>∃ p ys,xs=[.ref p]/\(SqL X.K H p ys∨SqT X.K H p ys)/\Q (.int ys.length) H):=by
 intro pins s σ H xs us Q I r h
 obtain ⟨p,ys,rfl,hq,q⟩:=h
 obtain ⟨u,rfl,rx⟩:=vals1 r
 cases rx
 have hn:=line63
 rcases hq with hq | hq
 . obtain ⟨its,r',pl,hz⟩:=I.list hq
   have hlen:=r'.length
   exact Calls.call_len_list pl.isList (by simp only [List.size_toArray] <;> omega) ⟨.int ys.length,H,I.tok _,⟨s.toks+1,by rw [List.size_toArray,hlen]⟩,q⟩
 . obtain ⟨its,r',pl,hz⟩:=I.tuple hq
   have hlen:=r'.length
   exact len_tuple pl (by simp only [List.size_toArray] <;> omega) ⟨.int ys.length,H,I.tok _,⟨s.toks+1,by rw [List.size_toArray,hlen]⟩,q⟩
theorem call_len_str:CallR X (.builtin "len") (fun xs H Q=>∃ z,xs=[.str z]/\z.length<=sizeLine/\Q (.int z.length) H):=by
 intro pins s σ H xs us Q I r h
 obtain ⟨z,rfl,hz,q⟩:=h
 obtain ⟨u,rfl,t,rfl⟩:=vals1 r
 have hn:=line63
 exact len_str (by omega) ⟨.int z.length,H,I.tok _,⟨_,rfl⟩,q⟩
theorem call_list_of:CallR X (.type "list") (fun xs H Q=>∃ p ys,xs=[.ref p]/\(SqL X.K H p ys∨SqT X.K H p ys)/\∀ l,H l=none->Q (.ref l) (upd H l (.lst ys))):=by
 intro pins s σ H xs us Q I r h
 obtain ⟨p,ys,rfl,hq,q⟩:=h
 obtain ⟨u,rfl,rx⟩:=vals1 r
 cases rx
 have fin:∀ (its:List Value),Vals ys its->ys.length<=sizeLine->∀ (h':Heap) (c':Nat),(∀ b o',s.heap.get? b=some o'->h'.get? b=some o') ->
  h'.get? s.heap.objs.size=some { cls:=.type "list", dict:=none,data:=.seq its.toArray c',slots:=#[] }->EP X pins σ Q (.ref s.heap.objs.size) { s with heap:=h' }:=fun its r' hz h' c' kp e =>
  ⟨.ref s.heap.objs.size,_,I.laid (t':=s.toks) kp (Nat.le_refl _) (show ObjOk X.prog X.w _ h' _ (.lst ys) from ⟨hz,its,c',r',e⟩),rfl,q _ (I.hok.fresh (Nat.le_refl _))⟩
 rcases hq with hq | hq
 . obtain ⟨its,r',pl,hz⟩:=I.list hq
   have hlen:=r'.length
   obtain ⟨o,ho,hc,n,hd⟩:=pl.isList
   exact call_list_seq p (.inl rfl) ho hc hd (fun h' c' kp e=>fin its r' hz h' c' kp e) (by simp only [List.size_toArray] <;> omega)
 . obtain ⟨its,r',pl,hz⟩:=I.tuple hq
   have hlen:=r'.length
   obtain ⟨o,ho,hc,n,hd⟩:=pl
   exact call_list_seq p (.inr rfl) ho hc hd (fun h' c' kp e=>fin its r' hz h' c' kp e) (by simp only [List.size_toArray] <;> omega)
theorem bz:CallR X (.type "tuple") (fun xs H Q=>∃ p ys,xs=[.ref p]/\((SqL X.K H p ys/\∀ l,H l=none->Q (.ref l) (upd H l (.tup ys)))∨(SqT X.K H p ys/\Q (.ref p) H))):=by
 intro pins s σ H xs us Q I r h
 obtain ⟨p,ys,rfl,h⟩:=h
 obtain ⟨u,rfl,rx⟩:=vals1 r
 cases rx
 rcases h with ⟨hq,q⟩ | ⟨hq,q⟩
 . obtain ⟨its,r',pl,hz⟩:=I.list hq
   have hlen:=r'.length
   refine call_tuple_list pl.isList (fun h' kp=>?_) (by simp only [List.size_toArray] <;> omega)
   have I1:Inv X pins σ H { s with heap:=h' }:=I.kept (t':=s.toks) kp
   have I2:Inv X pins σ (upd H h'.objs.size (.tup ys)) { s with heap:=h'.push { cls:=.type "tuple", data:=.seq its.toArray } } :=
    I1.laid (t':=s.toks) (fun b o e=>Heap.get?_push_of_some _ e) (Nat.le_refl _) (show ObjOk X.prog X.w _ _ _ (.tup ys) from ⟨hz,its,r',IsTup.new _ _,_,Heap.get?_push_size _ rfl,rfl⟩)
   exact ⟨.ref h'.objs.size,_,I2,rfl,q _ (I1.hok.fresh (Nat.le_refl _))⟩
 . obtain ⟨its,r',pl,hz⟩:=I.tuple hq
   exact call_tuple_same pl ⟨.ref p,H,I,rfl,q⟩
def tyV (K:W.Frag) (T:String) (x:V) (H:Hp):Prop:=match x with
 | .str _=>T = "str"
 | .int _=>T = "int"
 | .ref p=>(T = "list" /\ ∃ xs,SqL K H p xs)∨(T = "tuple" /\ ∃ o,K.lookup p=some o/\o.cls=.type "tuple" /\ o.dict=none) ∨
  (T = "dict" /\ ((∃ kvs,H p=some (.dK kvs))∨∃ kvs,H p=some (.dT kvs)))∨(T = "set" /\ ∃ S n,H p=some (.set S n))
 | _=>False
theorem tyV_is {pins:List (Addr × Obj)} {σ:St} {H:Hp} {s:Shared} {T:String} {x:V} {v:Value} (I:Inv X pins σ H s) (r:RelV x v) (ty:tyV X.K T x H) :
 s.TypeIs v T/\∀ a,v=.ref a->∃ ob,s.heap.get? a=some ob/\ob.dict=none:=by
 cases x with
 | str z =>
   obtain ⟨t,rfl⟩:=r
   cases (show T = "str" from ty)
   exact ⟨typeIs_str s z t,fun _ e=>nomatch e⟩
 | int i =>
   obtain ⟨t,rfl⟩:=r
   cases (show T = "int" from ty)
   exact ⟨typeIs_int s i t,fun _ e=>nomatch e⟩
 | ref p =>
   cases r
   rcases ty with ⟨rfl,xs,hq⟩ | ⟨rfl,o,hk,hc,hd⟩ | ⟨rfl,hk⟩ | ⟨rfl,S,n,hk⟩
   . obtain ⟨its,_,pl,_⟩:=I.list hq
     refine ⟨pl.isList.typeIs,fun a e=>?_⟩
     cases e
     obtain ⟨o,n,e,c,hd,_⟩:=pl
     exact ⟨o,e,hd⟩
   . refine ⟨⟨o,I.kIn p o hk,hc⟩,fun a e=>?_⟩
     cases e
     exact ⟨o,I.kIn _ o hk,hd⟩
   . have z:∃ o,s.heap.get? p=some o/\o.ExactDict:=by
      rcases hk with ⟨kvs,hk⟩ | ⟨kvs,hk⟩
      . obtain ⟨_,_,_,_,o,_,_,e,ex,_⟩:=I.hok p _ hk
        exact ⟨o,e,ex⟩
      . obtain ⟨_,_,_,_,o,_,_,e,ex,_⟩:=I.hok p _ hk
        exact ⟨o,e,ex⟩
     obtain ⟨o,e,ex⟩:=z
     refine ⟨⟨o,e,ex.1⟩,fun a e2=>?_⟩
     cases e2
     exact ⟨o,e,ex.2.1⟩
   . obtain ⟨o,_,_,_,e,ex,_⟩:=I.hok p _ hk
     refine ⟨⟨o,e,ex.1⟩,fun a e2=>?_⟩
     cases e2
     exact ⟨o,e,ex.2.1⟩
 | _=>exact False.elim ty
def tBM (K:W.Frag) (T:String) (r:V->List V->Hp->VK->Prop) (to:TE) (t:TA):TE:=fun σ H Q=>to σ H fun x H1=>tyV K T x H1/\t σ H1 fun xs H2=>r x xs H2 Q
variable {o e:Expr} {es:List Expr} {to:TE} {t:TA} {name:Str} {apos cpos:Pos} {T id:String} {r:V->List V->Hp->VK->Prop}
theorem pe_bm (pa:PlainAttrs T) (slot:Slot T name id) (hty:typeOf (.builtin id)=pure (.type "method_descriptor")) (hm:MtR X id r) (ho:PE X o to) (ha:PA X (e::es) t)
 (hbase:attributeBase o name X.env (eval o X.env)=eval o X.env:=by rfl)
 (hfew:((backTo cpos (starEach (e::es) X.env)).all (fun x=>!x.1) && (backToKw cpos (keywordEach [] X.env)).all (fun x=>x.1.isSome)
  && decide ((e::es).length+([]:List Keyword).length+(if ([]:List Keyword).isEmpty then 0 else 1) < 30))=true:=by rfl)
 (hline:(apos.endLine == cpos.line)=true:=by rfl) (hs:starEach (e::es) X.env=(false,eval e X.env)::starEach es X.env:=by rfl) (hplain:(backTo cpos (starEach es X.env)).any (·.1)=false:=by rfl) :
 PE X (.Call (.Attribute o name apos) (e::es) [] cpos) (tBM X.K T r to t):=by
 intro pins s σ H Q I h
 refine wpAny_Call_method_late hbase hfew hline rfl (thn (ho pins s σ H _ I h) fun v s1 ⟨x,H1,I1,r1,ty,q1⟩=>?_)
 obtain ⟨h1,h2⟩:=tyV_is I1 r1 ty
 refine ⟨T,id,pa,slot,hty,h1,h2,?_⟩
 have hA:=ha cpos pins s1 σ H1 _ I1 q1
 rw [hs] at hA ⊢
 refine Calls.callWith_builtin (by show (false || (backTo cpos (starEach es X.env)).any (·.1))=false; rw [hplain] <;> rfl) (Calls.evalArgs_plain ?_)
 exact thn hA fun us s2 ⟨vs,H2,I2,r2,q2⟩=>hm pins s2 σ H2 x vs v us Q I2 r1 r2 q2
/- xs.append(e),list.index on a module's tuple .. are MtR facts of 06m -/
end
def MtM (X:Cx) (id:String) (r:V->List V->Hp->VK->Prop):Prop :=
 ∀ (pins:List (Addr × Obj)) (s:Shared) (σ:St) (H:Hp) (x:V) (xs:List V) (v:Value) (us:List Value) (Q:VK),Inv X pins σ H s->RelV x v->Vals xs us->r x xs H Q ->
  wpAny (model X.prog X.w) X.A (call (.builtin id) (v::us)) (EP X pins σ Q) X.xe s
theorem Vals.one:∀ {x:V} {us:List Value},Vals [x] us->∃ u,us=[u]/\RelV x u
 | _,_,.cons r .nil=>⟨_,rfl,r⟩
theorem Vals.rep {xs:List V} {us:List Value} (h:Vals xs us):∀ k:Nat,Vals (List.replicate k xs).flatten (List.replicate k us).flatten
 | 0=>.nil
 | k+1=>by
   rw [List.replicate_succ,List.replicate_succ,List.flatten_cons,List.flatten_cons]
   exact Vals.append h (Vals.rep h k)
theorem foldl_rep (its:List Value):∀ (k:Nat) (acc:List Value),
 List.foldl (fun x1 x2=>x1++x2) acc.toArray (List.replicate k its.toArray)=(acc++(List.replicate k its).flatten).toArray
 | 0,acc=>by simp
 | k+1,acc=>by
   have e:acc.toArray++its.toArray=(acc++its).toArray:=by simp
   have e2:(acc++its)++(List.replicate k its).flatten=acc++(List.replicate (k+1) its).flatten:=by
    rw [List.replicate_succ,List.flatten_cons,List.append_assoc]
   rw [← e2,← foldl_rep its k (acc++its),← e,List.replicate_succ,List.foldl_cons]
section
variable {X:Cx} {pins:List (Addr × Obj)} {σ:St} {H:Hp} {s:Shared} {l b:Addr} {xs ys zs:List V}
theorem Inv.lset {its its':List Value} {n:Nat} {f:Array Value->Array Value} {t':Nat} (I:Inv X pins σ H s) (hH:H l=some (.lst xs))
 (e:s.heap.get? l=some { cls:=.type "list", data:=.seq its.toArray n }) (hf:f its.toArray=its'.toArray) (hv:Vals ys its') (hz:ys.length<=sizeLine) :
 Inv X pins σ (upd H l (.lst ys)) { s with heap:=s.heap.update l (Obj.mapSeq f),toks:=t' }:=by
 have q:=PySem.IsL.update e f
 rw [hf] at q
 refine I.write (x:=l) (e:=l) (by rw [hH]; exact trivial) (.inl rfl) (fun b' u hb hu=>(Heap.get?_update_other s.heap (Obj.mapSeq f) (Ne.symm hb)).trans hu) ⟨_,q⟩ ?_
 exact ⟨hz,its',_,hv,q⟩
theorem Inv.lnew {its:List Value} {t':Nat} (I:Inv X pins σ H s) (hv:Vals ys its) (hz:ys.length<=sizeLine) :
 Inv X pins σ (upd H s.heap.objs.size (.lst ys)) { s with heap:=s.heap.push { cls:=.type "list", data:=.seq its.toArray },toks:=t' } :=
 I.laid (fun _ _ q=>Heap.get?_push_of_some _ q) (Nat.le_refl _) ⟨hz,its,0,hv,Heap.get?_push_size _ rfl⟩
theorem Inv.fresh (I:Inv X pins σ H s):H s.heap.objs.size=none:=I.hok.fresh (Nat.le_refl _)
theorem Inv.lstM (I:Inv X pins σ H s) (hH:H l=some (.lst xs)):xs.length<=sizeLine/\∃ (its:List Value) (n:Nat),Vals xs its/\xs.length=its.length/\s.heap.get? l=some { cls:=.type "list", data:=.seq its.toArray n }:=by
 obtain ⟨z,its,n,r,e⟩:=I.hok l _ hH
 exact ⟨z,its,n,r,r.length,e⟩
theorem notLongL {n:Nat} (h:n<=sizeLine):Builtin.List.listTooLong n=false:=by
 unfold Builtin.List.listTooLong
 exact decide_eq_false (by omega)
end
section
variable {X:Cx}
def rAppend:V->List V->Hp->VK->Prop:=fun x vs H Q=>∃ l xs y,x=.ref l/\vs=[y]/\H l=some (.lst xs)/\xs.length < sizeLine/\Q .non (upd H l (.lst (xs++[y])))
theorem cI:MtM X "list.append" rAppend:=by
 intro pins s σ H x vs v us Q I rx rv h
 obtain ⟨l,xs,y,rfl,rfl,hH,hz,q⟩:=h
 cases rx
 obtain ⟨u,rfl,ru⟩:=rv.one
 obtain ⟨z,its,n,r,hl,e⟩:=I.lstM hH
 refine call_meets F.slot_list_append ⟨_,e,rfl⟩ F.entry_list_append (F.args_list_append_2 _ _) (PySem.list_append l its.toArray n u (by rw [List.size_toArray]; omega)) ⟨e,?_⟩
 refine ⟨.non,_,I.lset (its':=its++[u]) hH e (by simp) (r.append (.cons ru .nil)) ?_,rfl,q⟩
 rw [List.length_append,List.length_singleton]
 omega
def rExtend:V->List V->Hp->VK->Prop:=fun x vs H Q=>∃ l b xs zs,x=.ref l/\vs=[.ref b]/\H l=some (.lst xs)/\H b=some (.lst zs)/\xs.length+zs.length<=sizeLine/\Q .non (upd H l (.lst (xs++zs)))
theorem mt_extend:MtM X "list.extend" rExtend:=by
 intro pins s σ H x vs v us Q I rx rv h
 obtain ⟨l,b,xs,zs,rfl,rfl,hH,hB,hz,q⟩:=h
 cases rx
 obtain ⟨u,rfl,ru⟩:=rv.one
 cases ru
 obtain ⟨z,its,n,r,hl,e⟩:=I.lstM hH
 obtain ⟨z2,its2,n2,r2,hl2,e2⟩:=I.lstM hB
 have hsz:its.toArray.size+its2.toArray.size<=sizeLine:=by rw [List.size_toArray,List.size_toArray]; omega
 have hlong:¬ (!its.toArray.isEmpty && Builtin.List.listTooLong (its.toArray.size+its2.toArray.size))=true:=by
  rw [notLongL hsz,Bool.and_false]
  exact Bool.false_ne_true
 refine call_meets F.slot_list_extend ⟨_,e,rfl⟩ F.entry_list_extend (F.args_list_extend_2 _ _)
  (AutoSeq1.list_extend_list_list_0 l its.toArray n b its2.toArray n2 hlong (by rw [List.size_toArray]; omega) (by omega)) ⟨e,e2,?_⟩
 refine ⟨.non,_,I.lset (its':=its++its2) hH e (by simp) (r.append r2) ?_,rfl,q⟩
 rw [List.length_append]
 omega
def rCat:R2:=fun x y H Q=>∃ l b xs zs,x=.ref l/\y=.ref b/\H l=some (.lst xs)/\H b=some (.lst zs)/\xs.length+zs.length<=sizeLine/\∀ p,H p=none->Q (.ref p) (upd H p (.lst (xs++zs)))
theorem op_cat:OpR X (binaryOp .Add) rCat:=by
 intro pins s σ H x y v u Q I rx ry h
 obtain ⟨l,b,xs,zs,rfl,rfl,hH,hB,hz,q⟩:=h
 cases rx
 cases ry
 obtain ⟨z,its,n,r,hl,e⟩:=I.lstM hH
 obtain ⟨z2,its2,n2,r2,hl2,e2⟩:=I.lstM hB
 refine PySem.P.add_list e e2 ?_ (by rw [List.size_toArray,List.size_toArray]; omega)
 have ea:its.toArray++its2.toArray=(its++its2).toArray:=by simp
 rw [ea]
 exact ⟨.ref _,_,I.lnew (t':=s.toks) (r.append r2) (by rw [List.length_append]; omega),rfl,q _ I.fresh⟩
def rRep:R2:=fun x y H Q=>∃ l k xs,x=.ref l/\y=.int k/\H l=some (.lst xs)/\-(2 ^ 63)<=k/\k < 2 ^ 63/\xs.length*k.toNat<=sizeLine /\
 ∀ p,H p=none->Q (.ref p) (upd H p (.lst (List.replicate k.toNat xs).flatten))
theorem len_rep {α:Type} (xs:List α) (k:Nat):(List.replicate k xs).flatten.length=k*xs.length:=by
 induction k with
 | zero=>simp
 | succ k ih=>rw [List.replicate_succ,List.flatten_cons,List.length_append,ih,Nat.succ_mul,Nat.add_comm]
theorem op_rep:OpR X (binaryOp .Mult) rRep:=by
 intro pins s σ H x y v u Q I rx ry h
 obtain ⟨l,k,xs,rfl,rfl,hH,h1,h2,hz,q⟩:=h
 cases rx
 obtain ⟨t,rfl⟩:=ry
 obtain ⟨z,its,n,r,hl,e⟩:=I.lstM hH
 have hlen:its.toArray.size*k.toNat<=sizeLine:=by rw [List.size_toArray,← hl]; exact hz
 have hcap:¬ its.toArray.size*k.toNat > (2 ^ 63 - 1) / 8:=by
  have:(sizeLine:Nat)<=(2 ^ 63 - 1) / 8:=by decide
  omega
 have hfit:¬ (!Builtin.List.listFitsIndex k)=true:=by
  rw [fitsIndex_both h1 h2]
  exact Bool.false_ne_true
 have hlong:¬ Builtin.List.listTooLong (its.toArray.size*k.toNat)=true:=by
  rw [notLongL hlen]
  exact Bool.false_ne_true
 have hnew:List.foldl (fun x1 x2=>x1++x2) #[] (List.replicate (if its.toArray.isEmpty=true then 0 else k.toNat) its.toArray)=(List.replicate k.toNat its).flatten.toArray:=by
  have f0:∀ m:Nat,List.foldl (fun x1 x2=>x1++x2) #[] (List.replicate m its.toArray)=(List.replicate m its).flatten.toArray:=fun m=>by
   have:=foldl_rep its m []
   rw [List.nil_append] at this
   exact this
  rw [f0]
  cases its with
  | nil=>simp
  | cons a r'=>rw [if_neg (by simp)]
 refine wpAny_binaryOp_repeat_ref (T := "list") (U := "int") (by decide) ⟨_,e,rfl⟩ (fun s'=>typeIs_int s' k t) noFill_list_mul F.fills_int_mul F.slot_int_rmul repeat_list F.slot_int_index.lookup
  (call_meets F.slot_int_rmul (typeIs_int s k t) F.entry_int_rmul (F.args_int_rmul_2 _ _) (int___rmul___int_list k t l its.toArray n)
   ⟨e,rfl,⟨_,e,rfl⟩,call_meets F.slot_list_mul ⟨_,e,rfl⟩ F.entry_list_mul (F.args_list_mul_2 _ _) (AutoListH.list___mul___list_int_3 l its.toArray n k t hfit hcap hlong) ⟨e,?_⟩⟩)
 rw [hnew]
 exact ⟨.ref _,_,I.lnew (t':=s.toks) (r.rep k.toNat) (by rw [len_rep,Nat.mul_comm]; exact hz),rfl,q _ I.fresh⟩
end
end L2
namespace Att
open PySem PySem.W PySem.Calls PyProof.Rows
theorem ints_of_wellAll {P:Params} {h:Heap}:∀ (ns:List Int) (vs:List Value),WellAll P h vs (ns.map WData.int)->IntsAre vs ns:=by
 intro ns
 induction ns with
 | nil =>
   intro vs w
   rw [List.map_nil] at w
   cases w
   exact .nil
 | cons n ns ih =>
   intro vs w
   rw [List.map_cons] at w
   cases w with
   | cons a b =>
     cases a
     exact .cons _ _ (ih _ b)
theorem script_of {l:OpenLaw} {n:Nat} (hn:l.most=some n) {P:Params} {h:Heap} {args:List WData} {vals:List Value}
 (hpre:l.row.toRowW.claim.pre args=true) (hwl:WellAll P h vals args) :
 ∃ a vs ns,vals=[Value.ref a]/\args=[WData.list (ns.map WData.int)]/\h.get? a=some { cls:=.type "list", data:=.seq vs.toArray }/\IntsAre vs ns/\ns.length<=n:=by
 have hsh:WShape.hasAll [] args [.list .int]=true:=(pre_splitW hpre).1
 have hc:l.pre.holds [] { args:=args }=true:=(pre_splitW hpre).2
 obtain ⟨d,r,rfl,h1,h2⟩:=hasAllW_cons hsh
 obtain rfl:=hasAllW_nil h2
 obtain ⟨xs,rfl,h3⟩:=hasW_list h1
 obtain ⟨ns,rfl⟩:=items_int h3
 have hlen:ns.length<=n:=by
  unfold OpenLaw.pre at hc
  have h4:(WTm.not (.lt (.lit (.int (n:Int))) (.len (.arg 0)))).holds [] { args:=[.list (ns.map .int)] }=true:=by
   have h4:=(holds_andW hc).1
   rw [hn] at h4
   exact h4
  have h5:=condW_of h4 (w_not (w_lt w_lit (w_len_list (w_arg rfl))))
  rw [List.length_map] at h5
  refine Nat.le_of_not_lt fun q=>?_
  have q':(n:Int) < ((ns.length:Nat):Int):=by omega
  first
   | (rw [decide_eq_true q'] at h5; exact absurd h5 (by decide))
   | (simp at h5; omega)
 cases hwl with
 | cons w1 w2 =>
   cases w2
   cases w1 with
   | list ho hall=>exact ⟨_,_,ns,rfl,rfl,ho,ints_of_wellAll ns _ hall,hlen⟩
theorem post_true (l:OpenLaw) (args:List WData):l.row.toRowW.claim.post args (.bool true) args=true :=
 postW_of (r:=l.row.toRowW) (X:=(true == true))
  (show WShape.has [] (.bool true) .bool=true by first | rfl | decide | simp [WShape.has,WShape.arms,WShape.armsAll])
  (show (WTm.eq .res (.lit (.bool true))).value [] { args:=args,res:=some (.bool true),after:=args }=some (.bool (true == true)) from w_eq_bool (w_res rfl) w_lit) rfl
theorem attach_call {l:OpenLaw} {n:Nat} {q:Program} {loose:List Str} {XP:(Str->Option Value)->Heap->Prop} {YP:World->Heap->Prop} {d:DefRec}
 (hn:l.most=some n) (hdf:d.params.defaults=[])
 (call:∀ (w:World) (s₀ s₁:Shared) (mg mb:Str->Option Value) (fa:Addr) (o:Obj) (pm cd doc:Value) (a:Addr) (vs:List Value) (ns:List Int),
  Ground q loose [] XP w s₀ mg mb s₁.heap->YP w s₁.heap ->
  s₁.heap.get? fa=some o->o.data=.func (docDef d.name d.params d.body d.scope pm cd doc)->s₁.heap.CodeRec cd d.name->mg d.name=some (.ref fa) ->
  s₁.heap.get? a=some { cls:=.type "list", data:=.seq vs.toArray }->IntsAre vs ns->ns.length<=n->s₁.gens=#[] ->
  codeAny (model l.prog w) callerA (.call (.ref fa) ⟨[.ref a],[]⟩) (fun r s'=>r=.ok (.ret (.bool true))/\OldK s₁.heap s'.heap/\s'.os=s₁.os/\AllBare s'.gens) s₁) :
 WalkO q loose XP YP l.row.toRowW d [] (fun f vs=>PySem.call f vs):=by
 intro w s₀ s₁ mg mb G Y fa o pm cd doc dV kV ho hd hcd hD hmg hg args vals as hpre hlay hrd hwl hlo
 obtain rfl:dV=.none:=Dflts.none hD hdf
 obtain rfl:kV=.none:=Dflts.noKw hD
 obtain ⟨a,vs,ns,rfl,rfl,hobj,hints,hlen⟩:=script_of hn hpre hwl
 refine enter_call (codeAny_mono (call w s₀ s₁ mg mb fa o pm cd doc a vs ns G Y ho (fd_plain hd) hcd hmg hobj hints hlen hg) fun r s' hq=>?_)
 obtain ⟨rfl,h2,h3,h4⟩:=hq
 exact ⟨.inl ⟨.bool true,.bool true,[],rfl,fun _=>rfl,.bool true,post_true l _,fun _=>⟨List.Pairwise.nil,fun _ hm=>(nomatch hm)⟩⟩,h2,h3,h4⟩
end Att
namespace L2
open PySem PySem.Spec PyProof.Rows
theorem vals_ints:∀ {vs:List Value} {ns:List Int},IntsAre vs ns->Vals (ns.map V.int) vs
 | _,_,.nil=>.nil
 | _,_,.cons n t h=>.cons ⟨t,rfl⟩ (vals_ints h)
def Only (H:Hp):Prop:=∀ b,H b=none∨∃ o xs,H b=some (.frz o (.lst xs))
theorem law_call {P:Program} {w:World} {K:W.Frag} {mg mb:Str->Option Value} {CX:CXT} {k:Nat} {fa a:Addr} {fd:FuncData} {x:Str} {sp:Sp} {s₁:Shared} {vs:List Value} {ns:List Int}
 (KX:K.In s₁.heap) (hns:s₁.heap.Ns mainGlobals mg) (hb:s₁.heap.Ns builtinsNs mb) (hbb:∀ x:Str,x ≠ "__name__" -> mb x=bootBuiltins x) (hlim:s₁.heap.NoLimit) (hg:s₁.gens=#[])
 (ha:s₁.heap.get? a=some { cls:=.type "list", data:=.seq vs.toArray }) (hi:IntsAre vs ns) (hl:ns.length<=sizeLine) (hr:Room k callerA)
 (F:∀ base:Heap,K.In base->base.Ns mainGlobals mg->FnOk P w K mg base CX k fa fd [x] sp) (hbind:∀ (s:Shared) (u:Value),BindsTo s fd ⟨[u],[]⟩ [(x,u)])
 (hsp:∀ H:Hp,Only H->SqL K H a (ns.map V.int)->sp [.ref a] H (fun v _=>v=.bl true) fun _ _ _=>False)
 (hCX:∀ H e s',CX [] H s₁ (fun _ _ _=>False) e s'->False) :
 codeAny (model P w) callerA (.call (.ref fa) ⟨[.ref a],[]⟩) (fun r s'=>r=.ok (.ret (.bool true))/\OldK s₁.heap s'.heap/\s'.os=s₁.os/\AllBare s'.gens) s₁:=by
 have rv:=vals_ints hi
 have lenV:=hi.length
 have core:∀ H:Hp,Only H->SqL K H a (ns.map V.int)->HOk P w H s₁.heap->(∀ b,H b ≠ none->b=a)->(H a ≠ none->K.lookup a=none) ->
  codeAny (model P w) callerA (.call (.ref fa) ⟨[.ref a],[]⟩) (fun r s'=>r=.ok (.ret (.bool true))/\OldK s₁.heap s'.heap/\s'.os=s₁.os/\AllBare s'.gens) s₁:=by
  intro H hO hS hok hA hK
  have base_of:∀ {b:Addr} {o:Obj},s₁.heap.get? b=some o->H b=none->(hidT s₁.heap H).get? b=some o:=fun e n=>hidT_get e n
  have noA:∀ {b:Addr} {o:Obj} {es:Array DictEntry} {ep:Nat},s₁.heap.get? b=some o->o.data=.dict es ep->H b=none:=fun {b o es ep} e d=>by
   cases q:H b with
   | none=>rfl
   | some u =>
     have e':b=a:=hA b (by rw [q]; simp)
     subst e'
     rw [ha] at e; cases e
     have d':Data.seq vs.toArray _=Data.dict es ep:=d
     cases d'
  have nsK:∀ {b:Addr} {m:Str->Option Value},s₁.heap.Ns b m->(hidT s₁.heap H).Ns b m:=fun {b m} ⟨o,es,ep,e,d,r⟩=>⟨o,es,ep,base_of e (noA e d),d,r⟩
  have hKb:K.In (hidT s₁.heap H):=fun b o e=>base_of (KX b o e) (by
   cases q:H b with
   | none=>rfl
   | some u =>
     have e':b=a:=hA b (by rw [q]; simp)
     subst e'
     rw [hK (by rw [q]; simp)] at e; cases e)
  have hM:Mod K mg (hidT s₁.heap H):=⟨hKb,nsK hns,⟨mb,nsK hb,hbb⟩,let ⟨mc,h1,h2⟩:=hlim; ⟨mc,nsK h1,h2⟩⟩
  have e0:Env0 P w K mg (hidT s₁.heap H) callerA [] s₁ H:=⟨rfl,hM,fun b o e=>of_hidT e,Nat.le_of_eq (hidT_size _ _),trivial,fun b hb=>absurd (show b ∈ ([]:List Addr) from hb) (by simp),hok,.of_eq hg⟩
  refine codeAny_mono ((F _ hKb (nsK hns)).run callerA [] s₁ H ⟨[.ref a],[]⟩ [.ref a] [.ref a] _ _ hr e0 (hbind s₁ (.ref a)) (.cons rfl .nil) (hsp H hO hS)) fun r s' h=>?_
  cases r with
  | error e=>exact (hCX H e s' h).elim
  | ok fl =>
    cases fl with
    | next=>exact False.elim h
    | brk=>exact False.elim h
    | cont=>exact False.elim h
    | ret u =>
      obtain ⟨v,H',os,bare,un,hok',r',q⟩:=h
      have q':v=.bl true:=q
      subst q'
      obtain rfl:u=Value.bool true:=r'
      refine ⟨rfl,OldK.of_keep fun b o e=>?_,os,bare⟩
      cases q:H b with
      | none=>exact un.keep b o e q (by intro z; exact absurd (show b ∈ ([]:List Addr) from z) (by simp)) (by simp)
      | some u =>
        rcases hO b with z | ⟨ob,xs,z⟩
        . rw [q] at z; cases z
        . have z2:=un.frzs b ob _ z
          obtain ⟨e1,_⟩:=hok b _ z
          obtain ⟨e2,_⟩:=hok' b _ z2
          rw [e] at e1; cases e1
          exact e2
 cases hk:K.lookup a with
 | some o =>
   have e:=KX a o hk
   rw [ha] at e
   cases e
   refine core (fun _=>none) (fun _=>.inl rfl) (.inr ⟨_,vs.toArray,_,hk,rfl,rfl,rfl,by rw [List.size_toArray,lenV]; exact hl,by simpa using rv⟩) (fun b u z=>by have z':(none:Option HO)=some u:=z; cases z') (fun b z=>absurd rfl z) fun z=>absurd rfl z
 | none =>
   refine core (fun b=>if b=a then some (.frz { cls:=.type "list", data:=.seq vs.toArray } (.lst (ns.map V.int))) else none) (fun b=>?_) (.inl (.inr ⟨{ cls:=.type "list", data:=.seq vs.toArray },if_pos rfl⟩)) (fun b u z=>?_) (fun b z=>?_) fun _=>hk
   . by_cases hb:b=a
     . exact .inr ⟨_,_,if_pos hb⟩
     . exact .inl (if_neg hb)
   . by_cases hb:b=a
     . have z':=(if_pos hb).symm.trans z
       cases z'
       subst hb
       exact ⟨ha,by rw [List.length_map]; exact hl,vs,_,rv,ha⟩
     . have z':=(if_neg hb).symm.trans z
       cases z'
   . by_cases hb:b=a
     . exact hb
     . exact absurd (if_neg hb) z
theorem walk_of {l:PySem.W.OpenLaw} {n k:Nat} {q:Program} {loose:List Str} {XP:(Str->Option Value)->Heap->Prop} {YP:World->Heap->Prop} {d:DefRec} {K:Params->PySem.W.Frag} {CX:World->CXT} {sp:World->Sp} {x:Str}
 (hn:l.most=some n) (hn2:n<=sizeLine) (hdf:d.params.defaults=[]) (hr:Room k callerA)
 (hY:∀ (w:World) (h:Heap),YP w h->(K w.params).In h)
 (F:∀ (w:World) (mg:Str->Option Value) (fa:Addr) (h:Heap),(K w.params).In h->h.Ns mainGlobals mg->mg d.name=some (.ref fa) ->
  ∃ fd:FuncData,(∀ (s:Shared) (u:Value),BindsTo s fd ⟨[u],[]⟩ [(x,u)]) /\
   ∀ base:Heap,(K w.params).In base->base.Ns mainGlobals mg->FnOk l.prog w (K w.params) mg base (CX w) k fa fd [x] (sp w))
 (hsp:∀ (w:World) (H:Hp) (a:Addr) (ns:List Int),ns.length<=n->Only H->SqL (K w.params) H a (ns.map V.int)->sp w [.ref a] H (fun v _=>v=.bl true) fun _ _ _=>False)
 (hCX:∀ (w:World) (H:Hp) (s:Shared) (e:Value) (s':Shared),CX w [] H s (fun _ _ _=>False) e s'->False) :
 PySem.W.WalkO q loose XP YP l.row.toRowW d [] (fun f vs=>PySem.call f vs):=by
 refine Att.attach_call hn hdf fun w s₀ s₁ mg mb fa o pm cd doc a vs ns G Y ho hd hcd hmg hobj hints hlen hg=>?_
 have KX:=hY w _ Y
 obtain ⟨fd,hb,hF⟩:=F w mg fa _ KX G.T.g hmg
 exact law_call KX G.T.g G.T.b G.T.builtins G.T.nolimit hg hobj hints (Nat.le_trans hlen hn2) hr hF hb (fun H hO hS=>hsp w H a ns hlen hO hS) fun H e s'=>hCX w H s₁ e s'
end L2
/- THE LAST THEOREM (shape; LID,My.* are yours):
 My.Adr: a structure of the addresses that your layer names (classes,functions); My.Txt K t: a structure (Prop) of the equations over K;
 My.txt_mk:{K} {implicit addresses ..} (e1:nsIn K mainGlobals "law" = some (some (.ref f))) (e2:K.lookup f=some ⟨oc,od,.func (fnOf "law" "law" params body scope dV kV doc pm an cdv ct),sl⟩) (e3:codeIn K cdv "law" = true) ..:∃ t,My.Txt K t
set_option maxRecDepth 100000 in
set_option maxHeartbeats 0 in
theorem PySem.Challenge.cw_LID_holds : PySem.Challenge.rw_LID.Holds := by
 w_on; o_law; k_head; (case hw=>w_witness2)
 k_fill
 refine L2.walk_of (l:=PySem.Challenge.rw_LID) (n:=63) (k:=40) (x := "script") (CX:=fun w=>..) (sp:=fun _=>My.sp_law) rfl (by decide) rfl ⟨rfl,by decide,by decide⟩ (fun w h Y=>PySem.W.kIn_of Y) ?F ?S ?C
 case F =>
  intro w mg fa h KX G hmg
  have T:∃ t,My.Txt (L2.KOf KX) t:=by
   dsimp only [L2.KOf]                          -- K must stand as «<heap const> w.params» for k_is
   refine' My.txt_mk ?e1 ?e2 ?e3 ..
   (case e1=>PySem.W.k_is)                    -- in the order: a name -> its address -> its object -> its parts
   (case e2=>PySem.W.k_is)
   ..
  obtain ⟨t,T⟩:=T
  have e0:=hmg.symm.trans (PySem.W.mg_of KX G T.law)
  cases e0                                       -- fa is the law's own address
  exact ⟨_,fun s u=>.of_eq rfl,fun base kb nb=>My.law_fn T kb nb⟩     -- if «.of_eq rfl» comes too early: refine' ⟨_,?b,fun base kb nb=>My.law_fn T kb nb⟩; exact fun s u=>.of_eq rfl
 case S=>exact fun w H a ns hl hO hS=>..
 case C=>exact ..
(the tactic k_is has no namespace: write k_is) -/
namespace L2
open PySem PySem.Spec PyProof.Rows
def cO (s:Stmt) (j:Nat):Stmt:=match s with
 | .ClassDef _ _ _ body _ _ _ _ _ _ _=>body.getD j (.Pass ⟨0,0,0,0⟩)
 | _=>.Pass ⟨0,0,0,0⟩
def az (s:Stmt):Arguments:=match s with
 | .FunctionDef _ a _ _ _ _ _ _ _ _=>a
 | _=>{ posonlyargs:=[],args:=[],vararg:=none,kwonlyargs:=[],kw_defaults:=[],kwarg:=none,defaults:=[] }
def av (s:Stmt):List Stmt:=match s with
 | .FunctionDef _ _ b _ _ _ _ _ _ _=>b
 | _=>[]
def ag (s:Stmt):Scope:=match s with
 | .FunctionDef _ _ _ _ _ _ sc _ _ _=>sc
 | _=>{ kind:=.function,names:=[],isGenerator:=false,isCoroutine:=false }
abbrev CX0:CXT:=fun _ _ _ _ _ _=>False
abbrev E0:XK:=fun _ _ _=>False
theorem pass0 {X:Cx}:Passes CX0 X E0:=fun _ _ _ _ _ _ _ h=>h.elim
structure Fun (K:W.Frag) (x qual:Str) (st:Stmt) (f:Addr) (fd:FuncData):Prop where
 ex:∃ (oc:Value) (od:Option Addr) (kV doc pm:Value) (an:Option Addr) (cdv ct:Value) (osl:Array (Option Value)),
  fd=PySem.W.fnOf x qual (az st) (av st) (ag st) .none kV doc pm an cdv ct/\K.lookup f=some ⟨oc,od,.func fd,osl⟩/\PySem.W.codeIn K cdv qual=true
 kp:PySem.W.keepIn K (.ref f)=true
section
variable {P:Program} {w:World} {K:W.Frag} {mg:Str->Option Value} {base:Heap}
theorem Fun.ok {x qual:Str} {st:Stmt} {f:Addr} {fd:FuncData} {N ps:List Str} {k:Nat} {sp:Sp} (F:Fun K x qual st f fd) (S:FnScope N ps (ag st)) (len:∀ vs H Q E,sp vs H Q E->vs.length=ps.length)
 (hbody:∀ (cdv:Value) (A:Around) (outer:List Env) (s:Shared) (H:Hp) (vs:List V) (Q:VK) (E:XK),Room k (A.deeper (envOfC qual (ag st) s.heap.objs.size f cdv))->sp vs H Q E ->
  ∃ t,PSs (cxOf CX0 P w K mg base N qual (ag st) f cdv A outer s H E).nox (av st) t/\t { nx:=fun _ H'=>Q .non H',rt:=Q } (start N vs) H):FnOk P w K mg base CX0 (k+1) f fd ps sp:=by
 obtain ⟨oc,od,kV,doc,pm,an,cdv,ct,osl,rfl,lk,hcd⟩:=F.ex
 refine fn_of lk hcd S len fun A outer s H vs Q E hr hsp=>?_
 obtain ⟨t,h,q⟩:=hbody cdv A outer s H vs Q E hr hsp
 exact ⟨t,h.nox,q⟩
theorem Fun.binds {x qual:Str} {st:Stmt} {f:Addr} {fd:FuncData} {ps:List Str} (F:Fun K x qual st f fd)
 (h:∀ (kV doc pm:Value) (an:Option Addr) (cdv ct:Value) (us:List Value),us.length=ps.length->bindArgs (PySem.W.fnOf x qual (az st) (av st) (ag st) .none kV doc pm an cdv ct) ⟨us,[]⟩=pure (ps.zip us)):Binds K fd ps []:=by
 obtain ⟨oc,od,kV,doc,pm,an,cdv,ct,osl,rfl,lk,hcd⟩:=F.ex
 exact .all (h kV doc pm an cdv ct)
theorem aF {x qual:Str} {st:Stmt} {f:Addr} {oc:Value} {od an:Option Addr} {osl:Array (Option Value)} {kV doc pm cdv ct:Value} (l:K.lookup f=some ⟨oc,od,.func (PySem.W.fnOf x qual (az st) (av st) (ag st) .none kV doc pm an cdv ct),osl⟩)
 (c:PySem.W.codeIn K cdv qual=true) (k:PySem.W.keepIn K (.ref f)=true):Fun K x qual st f (PySem.W.fnOf x qual (az st) (av st) (ag st) .none kV doc pm an cdv ct):=⟨⟨oc,od,kV,doc,pm,an,cdv,ct,osl,rfl,l,c⟩,k⟩
end
theorem hu_of {A:Around} {k:Nat} (hr:Room k A):A.units+1 < cLine:=Nat.lt_of_le_of_lt (Nat.add_le_add_left (by decide:1<=64) _) hr.units
theorem aJ {n:Nat} (h:n<=1000):n < sizeLine:=Nat.lt_of_le_of_lt h (by decide)
section
variable {X:Cx}
theorem pv (i:Nat) {x:Str} {pos:Pos} (hN:X.N[i]?=some x:=by rfl) (hv:Vis X.env.scope x:=by first | exact Or.inl rfl | exact Or.inr (Or.inl rfl) | exact Or.inr (Or.inr rfl)) (hd:(x == ("__debug__" : Str))=false:=by decide)
 (hcd:(x == ("__classdict__" : Str))=false:=by decide):PE X (.Name x pos) (tVar i):=pe_var hN hv hd hcd
end
theorem iteF {A B:Prop} (h:B):if false=true then A else B:=by
 rw [if_neg Bool.false_ne_true]
 exact h
theorem iteT {A B:Prop} (h:A):if true=true then A else B:=by
 rw [if_pos rfl]
 exact h
theorem ite2 {c A B:Prop} [Decidable c] (h1:c->A) (h2:¬ c->B):if c then A else B:=by
 by_cases h:c
 . rw [if_pos h]
   exact h1 h
 . rw [if_neg h]
   exact h2 h
theorem iteNS {c A B:Prop} [Decidable c] (hc:c) (h:B):if (!decide c)=true then A else B:=by
 rw [decide_eq_true hc]
 exact iteF h
def Same (H H':Hp):Prop:=∀ b o,H b=some o->H' b=some o
theorem Same.refl (H:Hp):Same H H:=fun _ _ h=>h
theorem Same.trans {H H1 H2:Hp} (a:Same H H1) (b:Same H1 H2):Same H H2:=fun c o h=>b c o (a c o h)
theorem Same.free {H H':Hp} (e:Same H H') {l:Addr} (h:H' l=Option.none):H l=Option.none:=by
 cases q:H l with
 | none=>rfl
 | some o =>
   rw [e l o q] at h
   cases h
theorem Same.seq {K:W.Frag} {H H':Hp} {a:Addr} {xs:List V} (e:Same H H') (h:SqL K H a xs):SqL K H' a xs:=by
 rcases h with (h | ⟨o,h⟩) | h
 . exact .inl (.inl (e _ _ h))
 . exact .inl (.inr ⟨o,e _ _ h⟩)
 . exact .inr h
end L2
set_option maxHeartbeats 4000000
namespace L2
open PySem PySem.Spec PyProof.Rows
section
variable {X:Cx}
theorem call_isinst:CallR X (.builtin "isinstance") (fun xs H Q=>∃ x t n b,xs=[x,.ty n]/\TyOf X.K H x t/\PySem.W.kitOne X.K t (.type n)=some b/\Q (.bl b) H):=by
 intro pins s σ H xs us Q I r h
 obtain ⟨x,t,n,b,rfl,ty,e,q⟩:=h
 obtain ⟨u,w',rfl,r1,r2⟩:=vals2 r
 cases r2
 exact isinst_ok I r1 ty e (fun tk=>⟨.bl b,H,I.tok tk,rfl,q⟩)
theorem kit_self (K:W.Frag) (n:String):PySem.W.kitOne K (.type n) (.type n)=some true:=by
 unfold PySem.W.kitOne
 rw [if_pos (by simp)]
theorem kit_int_bool (K:W.Frag):PySem.W.kitOne K (.type "int") (.type "bool")=some false:=by
 show (if ((Value.type "int" == Value.type "bool")=true) then some true else if PySem.W.kitMeta "bool" = true then ((fastBuiltinMro "int").map (·.contains (.type "bool"))) else none)=some false
 decide +kernel
def CDivL (_ j:Int):Prop:=0 < j/\j < 2 ^ 63
theorem op_fdivL:OpR X (binaryOp .FloorDiv) (rI CDivL fun i j=>.int (i / j)):=opI fun i j _ _ _ _ _ hc q=>by
 have e:Int.fdiv i j=i / j:=Int.fdiv_eq_ediv_of_nonneg i (Int.le_of_lt hc.1)
 rw [← e] at q
 refine floordiv_int (by have:=hc.1; omega) q (.inl (PyProof.noPylong_of_log2 ?_))
 have h1:=hc.1
 have h2:=hc.2
 have h3:j.natAbs < 2 ^ 63:=by omega
 have h4:=(Nat.log2_lt (n:=j.natAbs) (k:=63) (by omega)).mpr h3
 omega
end
theorem boot_int':bootBuiltins "int" = some (.type "int"):=by decide +kernel
theorem boot_bool':bootBuiltins "bool" = some (.type "bool"):=by decide +kernel
theorem boot_list':bootBuiltins "list" = some (.type "list"):=by decide +kernel
theorem cb:bootBuiltins "tuple" = some (.type "tuple"):=by decide +kernel
theorem boot_reversed':bootBuiltins "reversed" = some (.type "reversed"):=by decide +kernel
structure Cal (P:Program) (w:World) (K:W.Frag) (mg:Str->Option Value) (base:Heap) (n:Nat) (x:Str) (ps:List Str) (sp:Sp):Prop where
 ex:∃ (f:Addr) (fd:FuncData),FnOk P w K mg base CX0 n f fd ps sp/\Binds K fd ps []/\PySem.W.keepIn K (.ref f)=true/\mg x=some (.ref f)
theorem am {X:Cx} {n k:Nat} {x:Str} {ps:List Str} {sp:Sp} {e:Expr} {es:List Expr} {t:TA} {p pos:Pos} (C:Cal X.prog X.w X.K X.mg X.base n x ps sp) (hr:Room k X.A) (hk:n<=k) (hg:Gl X x)
 (ha:PA X (e::es) t) (hdb:(x == ("__debug__" : Str))=false:=by decide) (he:starEach (e::es) X.env=(false,eval e X.env)::starEach es X.env:=by rfl) (hpl:(backTo pos (starEach es X.env)).any (·.1)=false:=by rfl) :
 PE X (.Call (.Name x p) (e::es) [] pos) (tCall sp [] E0 t):=by
 obtain ⟨f,fd,F,b,kp,m⟩:=C.ex
 exact pe_call F (hr.mono hk) hg m kp b .nil pass0 ha hdb he hpl
theorem Cal.of {P:Program} {w:World} {K:W.Frag} {mg:Str->Option Value} {base:Heap} {n:Nat} {x qual:Str} {ps:List Str} {sp:Sp} {st:Stmt} {f:Addr} {fd:FuncData} (F:Fun K x qual st f fd) (O:FnOk P w K mg base CX0 n f fd ps sp) (m:mg x=some (.ref f))
 (h:∀ (kV doc pm:Value) (an:Option Addr) (cdv ct:Value) (us:List Value),us.length=ps.length->bindArgs (PySem.W.fnOf x qual (az st) (av st) (ag st) .none kV doc pm an cdv ct) ⟨us,[]⟩=pure (ps.zip us)):Cal P w K mg base n x ps sp :=
 ⟨f,fd,O,F.binds h,F.kp,m⟩
theorem iteN {c A B:Prop} [Decidable c] (hc:¬ c) (h:A):if (!decide c)=true then A else B:=by
 rw [decide_eq_false hc]
 exact iteT h
theorem be {c A B:Prop} [Decidable c] (hc:c) (h:A):if decide c=true then A else B:=by
 rw [decide_eq_true hc]
 exact iteT h
theorem aw {c A B:Prop} [Decidable c] (hc:¬ c) (h:B):if decide c=true then A else B:=by
 rw [decide_eq_false hc]
 exact iteF h
def SameBut (f:Addr) (H H':Hp):Prop:=∀ b o,b ≠ f->H b=some o->H' b=some o
theorem SameBut.trans {f:Addr} {H H1 H2:Hp} (a:SameBut f H H1) (b:SameBut f H1 H2):SameBut f H H2:=fun c o h e=>b c o h (a c o h e)
theorem SameBut.refl (f:Addr) (H:Hp):SameBut f H H:=fun _ _ _ h=>h
theorem SameBut.of {f:Addr} {H H':Hp} (h:Same H H'):SameBut f H H':=fun b o _ e=>h b o e
theorem SameBut.upd {f:Addr} {H:Hp} (o:HO):SameBut f H (upd H f o):=fun b u h e=>by rw [au h]; exact e
theorem Same.new {H:Hp} {p:Addr} (h:H p=none) (o:HO):Same H (upd H p o):=fun b u q=>by rw [au (ne_of_none q h)]; exact q
theorem Same.but {f:Addr} {H0 H H':Hp} (a:Same H0 H) (n:H0 f=none) (b:SameBut f H H'):Same H0 H':=fun c o e=>b c o (ne_of_none e n) (a c o e)
def FeedAt (H:Hp) (f:Addr):Prop:=∃ own st:Int,H f=some (.lst [.int own,.int st])/\0<=own/\0<=st/\st<=2147483646
theorem FeedAt.ne {H:Hp} {f b:Addr} (F:FeedAt H f) (h:H b=none):b ≠ f:=by
 obtain ⟨o,s,e,_⟩:=F
 intro z
 subst z
 rw [h] at e
 cases e
theorem FeedAt.same {H H':Hp} {f:Addr} (F:FeedAt H f) (s:Same H H'):FeedAt H' f:=by
 obtain ⟨o,t,e,h⟩:=F
 exact ⟨o,t,s _ _ e,h⟩
def spTake:Sp:=fun vs H Q _=>∃ (f:Addr) (m:Int),vs=[.ref f,.int m]/\FeedAt H f/\0 < m/\m < 2 ^ 63/\∀ (d:Int) (H':Hp),0<=d->d < m->FeedAt H' f->SameBut f H H'->Q (.int d) H'
def spFeed (K:W.Frag):Sp:=fun vs H Q _=>∃ (a:Addr) (ns:List Int) (k:Int),vs=[.ref a,.int k]/\SqL K H a (ns.map V.int)/\ns.length<=63/\0<=k/\k < 1000000/\∀ (p:Addr) (H':Hp),H p=none->Same H H'->FeedAt H' p->Q (.ref p) H'
def spLaw (K:W.Frag):Sp:=fun vs H Q _=>∃ (a:Addr) (ns:List Int),vs=[.ref a]/\SqL K H a (ns.map V.int)/\ns.length<=63/\∀ H',Q (.bl true) H'
theorem bv {n:Nat} (h:n<=1000):n<=sizeLine:=Nat.le_of_lt (aJ h)
theorem at_int {ns:List Int} {k:Int} (h0:0<=k) (h:k < (ns.length:Int)):∃ v:Int,atI (ns.map V.int) k=some (.int v):=by
 have hk:k.toNat < ns.length:=by omega
 have q:atI (ns.map V.int) ((k.toNat:Nat):Int)=some (.int ns[k.toNat]):=cn (by rw [List.getElem?_map,List.getElem?_eq_getElem hk] <;> rfl)
 have ek:((k.toNat:Nat):Int)=k:=by omega
 rw [ek] at q
 exact ⟨_,q⟩
@[reducible] def bn (X:Cx) (N:List Str) (scope:Scope) (cl:List (Str × Addr)) (s:Shared) (H:Hp) (fp:List Addr):Cx where
 prog:=X.prog
 w:=X.w
 K:=X.K
 mg:=X.mg
 base:=X.base
 A:=X.A
 N:=N
 s₀:=s
 H₀:=H
 env:=compEnvC scope cl s.heap.objs.size X.env
 outer:=X.stack
 stack:=X.stack
 ex:=fp
 fn:=fun _=>false
 calm:=X.calm
 pn:=[]
 xe:=fun _ _=>False
structure CompScope (X:Cx) (x:Str) (N:List Str) (ix:List Nat) (scope:Scope) (cl:List (Str × Addr)):Prop where
 clos:closureFor scope X.env=pure cl
 nocell:∀ y ∈ scope.names,y.2 ≠ .cell
 kind:scope.kind=.function
 names:∀ y ∈ scope.names,y.2=.local->scope.names.lookup y.1=some .local
 own:scope.names.lookup x=some .local
 nd:(x::N).Nodup
 sub:∀ p ∈ cl,X.env.cells.lookup p.1=some p.2
 has:((relabel scope X.env).names.all fun p=>!(p.2 == .cell || p.2 == .free) || (cl.lookup p.1).isSome)=true
 outs:∀ (j:Nat) (y:Str),N[j]?=some y->(relabel scope X.env).names.lookup y=some .cell/\∃ k c,ix[j]?=some k/\X.N[k]?=some y/\cl.lookup y=some c/\X.env.scope.names.lookup y=some .cell
def outs (ix:List Nat) (σ:St):St:=ix.map fun k=>(σ[k]?).join
section
variable {X:Cx} {pins:List (Addr × Obj)} {σ:St} {x:Str} {N:List Str} {ix:List Nat} {scope:Scope} {cl:List (Str × Addr)} {fp:List Addr} {H3:Hp} {s3:Shared}
theorem CompScope.cells (S:CompScope X x N ix scope cl) {y:Str} {c:Addr} (h:cl.lookup y=some c):X.env.cells.lookup y=some c:=S.sub _ (PySem.mem_of_lookup h)
theorem comp_cx (S:CompScope X x N ix scope cl) (I3:Inv X pins σ H3 s3) (hf:∀ b ∈ fp,FpOk X pins H3 b) (hlt:∀ b ∈ fp,b < s3.heap.objs.size):(bn X (x::N) scope cl s3 H3 fp).Ok where
 mod:=I3.ok.mod
 kind:=S.kind
 glob:=I3.ok.glob
 blt:=I3.ok.blt
 above:=Nat.le_refl _
 inj:=fun y z c h1 h2=>I3.ok.inj y z c (S.cells h1) (S.cells h2)
 has:=fun y hy=>by
  have q:=List.all_eq_true.mp S.has
  have hy:(relabel scope X.env).names.lookup y=some .cell∨(relabel scope X.env).names.lookup y=some .free:=hy
  have z:∀ k:NameKind,(k == .cell || k == .free)=true->(relabel scope X.env).names.lookup y=some k->∃ c,cl.lookup y=some c:=fun k hk e=>by
   have r:=q _ (PySem.mem_of_lookup e)
   rw [hk] at r
   exact Option.isSome_iff_exists.mp (by simpa using r)
  rcases hy with e | e
  . exact z _ (by rfl) e
  . exact z _ (by rfl) e
 cab:=fun _ _ h _=>nomatch h
 hd:=I3.ok.hd
 frames:=I3.ok.frames
 stk:=.inl rfl
 exf:=fun b hb=>⟨Nat.ne_of_lt (hlt b hb),fun y c e=>(hf b hb).2.2.2.2.1 y c (S.cells e)⟩
 bs:=fun b o e=>I3.bs b o e
 bsz:=Nat.le_trans I3.ok.bsz I3.sz
 noex:=fun b o e hb=>by
  rcases (hf b hb).2.2.2.1 with z | z
  . exact I3.ok.noex b o e z
  . exact absurd (Nat.lt_of_lt_of_le (Heap.lt_size e) (Nat.le_trans I3.ok.bsz z)) (Nat.lt_irrefl _)
 exfs:=fun b hb z=>by
  rcases List.mem_cons.mp (I3.stkSub b z) with e | e
  . exact (hf b hb).2.1 e
  . exact (hf b hb).2.2.1 e
 funs:=I3.stack
 frf:=I3.stkFree
theorem comp_start (S:CompScope X x N ix scope cl) (I3:Inv X pins σ H3 s3) (hf:∀ b ∈ fp,FpOk X pins H3 b) (hlt:∀ b ∈ fp,b < s3.heap.objs.size) (hix:ix.length=N.length) {h1:Heap} {t':Nat} {m:Str->Option Value}
 (hn:h1.Ns s3.heap.objs.size m) (hk:∀ b o,s3.heap.get? b=some o->h1.get? b=some o):Inv (bn X (x::N) scope cl s3 H3 fp) [] (none::outs ix σ) H3 { s3 with heap:=h1,toks:=t' } where
 ok:=comp_cx S I3 hf hlt
 os:=rfl
 bare:=I3.bare
 base:=Un.kept hk
 loc:=by
  refine ⟨m,hn,fun i y v h1' h2 h3=>?_⟩
  cases i with
  | zero =>
    have h2':(some (none:Option V))=some (some v):=h2
    cases h2'
  | succ j =>
    have h1'':N[j]?=some y:=h1'
    have h2':(outs ix σ)[j]?=some (some v):=h2
    obtain ⟨hr,k,c,e1,e2,e3,e4⟩:=S.outs j y h1''
    unfold outs at h2'
    rw [List.getElem?_map,e1] at h2'
    have h2'':(σ[k]?).join=some v:=Option.some.inj h2'
    have e5:σ[k]?=some (some v):=by
     cases q:σ[k]? with
     | none=>rw [q] at h2''; cases h2''
     | some o=>rw [q] at h2''; exact congrArg some h2''
    obtain ⟨m0,_,hl⟩:=I3.loc
    obtain ⟨u,r,l⟩:=hl k y v e2 e5 (.inr (.inl e4))
    refine ⟨u,r,.inr ⟨.inl hr,c,e3,?_⟩⟩
    rcases l with ⟨kk,_⟩ | ⟨_,c',ec,z⟩
    . have kk':X.env.scope.names.lookup y=some .local:=kk
      rw [e4] at kk'; cases kk'
    . rw [S.cells e3] at ec
      cases ec
      obtain ⟨o,ho,hd⟩:=z
      exact ⟨o,hk _ _ ho,hd⟩
 cell:=fun y c e=>by
  obtain ⟨v,o,ho,hd⟩:=I3.cell y c (S.cells e)
  exact ⟨v,o,hk _ _ ho,hd⟩
 free:=I3.hok.fresh (Nat.le_refl _)
 freeC:=fun y c e=>I3.freeC y c (S.cells e)
 pin:=fun p hp=>absurd (show p ∈ ([]:List (Addr × Obj)) from hp) (by simp)
 hok:=I3.hok.kept hk
 len:=by
  show (none::outs ix σ).length=(x::N).length
  rw [List.length_cons,List.length_cons]
  unfold outs
  rw [List.length_map,hix]
theorem comp_back (I3:Inv X pins σ H3 s3) (hf:∀ b ∈ fp,FpOk X pins H3 b) {σ':St} {H':Hp} {s':Shared} {h'':Heap} {N':List Str} (J:Inv (bn X N' scope cl s3 H3 fp) [] σ' H' s') (hb:Heap.SameBut s3.heap.objs.size s'.heap h'') :
 Inv X pins σ H' { s' with heap:=h'' }:=by
 have ne:∀ b o,s3.heap.get? b=some o->b ≠ s3.heap.objs.size:=fun b o e=>Nat.ne_of_lt (Heap.lt_size e)
 have B:Un (frs X.stack) fp H3 H' s3.heap s'.heap:=J.base
 refine I3.call' (s':={ s' with heap:=h'' }) (ch:=fp) J.os ⟨fun b o e n h1 h2=>(hb.2 b (ne b o e)).trans (B.keep b o e n h1 h2),fun b o e n h1 h2=>?_,B.free,fun b o e h2=>?_,B.tups,B.frzs,B.tbls⟩ (fun b ob e=>?_) J.bare (fun b z=>?_)
 . obtain ⟨sl,q⟩:=B.slot b o e n h1 h2
   exact ⟨sl,(hb.2 b (ne b o e)).trans q⟩
 . obtain ⟨o',q⟩:=B.there b o e h2
   exact ⟨o',(hb.2 b (ne b o e)).trans q⟩
 . have fr:H' s3.heap.objs.size=none:=J.free
   refine (J.hok b ob e).stay (fun c w' hc q=>(hb.2 c ?_).trans q) (fun _ q=>q) fun _ _ q=>q
   rintro rfl
   rcases hc with rfl | hc
   . rw [fr] at e; cases e
   . rw [fr] at hc; cases hc
 . obtain ⟨_,h2,_,h4,h5,h6⟩:=hf b z
   exact ⟨h4,h2,h5,h6⟩
end
abbrev TBl:=St->Hp->(Hp->Prop)->VK->Prop
def PB (X:Cx) (ifs:List Expr) (elt:Expr) (tb:TBl):Prop :=
 ∀ (pins:List (Addr × Obj)) (s:Shared) (σ:St) (H:Hp) (skip:Hp->Prop) (keep:VK),Inv X pins σ H s->tb σ H skip keep ->
  wpAny (model X.prog X.w) X.A (forIn ifs true fun c r=>if r=true then do let ok ← isTrue c X.env (eval c X.env); pure (ForInStep.yield ok) else pure (ForInStep.yield r))
   (fun ok s3=>if ok=true then wpAny (model X.prog X.w) X.A (eval elt X.env) (EP X pins σ keep) X.xe s3 else ∃ H',Inv X pins σ H' s3/\skip H') X.xe s
def tB0 (te:TE):TBl:=fun σ H _ keep=>te σ H keep
def tB1 (tc:TT) (te:TE):TBl:=fun σ H skip keep=>tc σ H fun b H1=>if b=true then te σ H1 keep else skip H1
theorem bL {X:Cx} {elt:Expr} {te:TE} (he:PE X elt te):PB X [] elt (tB0 te):=by
 intro pins s σ H skip keep I h
 refine wpAny_tests_nil ?_
 rw [if_pos rfl]
 exact he pins s σ H keep I h
theorem pb_if {X:Cx} {c elt:Expr} {tc:TT} {te:TE} (hc:PT X c tc) (he:PE X elt te):PB X [c] elt (tB1 tc te):=by
 intro pins s σ H skip keep I h
 refine wpAny_tests_one (thn (hc pins s σ H _ I h) fun b s1 ⟨H1,I1,q1⟩=>?_)
 cases b with
 | true =>
   rw [if_pos rfl] at q1 ⊢
   exact he pins s1 σ H1 keep I1 q1
 | false =>
   rw [if_neg (by decide)] at q1 ⊢
   exact ⟨H1,I1,q1⟩
def CompEx (J:It) (D:Addr) (ix:List Nat) (tb:TBl) (σ:St) (H:Hp) (Q:VK):Prop:=∃ W:Nat->Nat->Hp->Prop,(∃ m,W 0 m (upd H D (.lst [])))/\∀ i m H2,W i m H2 ->
 (J.stop i H2/\Q (.ref D) H2)∨(J.go i H2/\∀ y H3,J.yld i H2 y H3->tb (some y::outs ix σ) H3 (fun H4=>∃ m',m' < m/\W (i+1) m' H4)
  fun z H4=>∃ ys,H4 D=some (.lst ys)/\ys.length < sizeLine/\∃ m',m' < m/\W (i+1) m' (upd H4 D (.lst (ys++[z]))))
def tCompR (wi:TI) (ix:List Nat) (tb:TBl):TE:=fun σ H Q=>wi σ H fun J H1=>∀ D,H1 D=none->CompEx J D ix tb σ H1 Q
section
variable {prog:Program} {w:World} {A:Around} {E:Value->Shared->Prop} {R:Result->Shared->Prop} {s:Shared}
theorem compLoop_go {elt target iter:Expr} {ifs:List Expr} {scope:Scope} {pos:Pos} {it acc:Value} {env:Env} (I:Nat->Shared->Prop)
 (turn:∀ n s,I n s->wpAny (model prog w) A (pyNext it) (fun r s1=>match r with
  | none=>R (.ok .next) s1
  | some v=>wpAny (model prog w) A (letOwnedTupleGo target it v) (fun _ s1'=>wpAny (model prog w) A (assign target env v) (fun _ s2 =>
   wpAny (model prog w) A (forIn ifs true fun c r=>if r=true then do let ok ← isTrue c env (eval c env); pure (ForInStep.yield ok) else pure (ForInStep.yield r)) (fun ok s3 =>
    if ok=true then wpAny (model prog w) A (eval elt env) (fun x s4 =>
     wpAny (model prog w) A (call (.builtin "list.append") [acc,x]) (fun _ s5=>∃ m,m < n/\I m s5) (fun _ _=>False) s4) (fun _ _=>False) s3
    else ∃ m,m < n/\I m s3) (fun _ _=>False) s2) (fun _ _=>False) s1') (fun _ _=>False) s1) (fun _ _=>False) s)
 (n:Nat) (h:I n s) :
 codeAny (model prog w) A (.compLoop (.ListComp elt [⟨target,iter,ifs,0⟩] scope pos) 0 it acc env) R s:=by
 have up:∀ {α:Type} {t:Sem α} {Q Q':α->Shared->Prop} {E':Value->Shared->Prop} {s:Shared},wpAny (model prog w) A t Q (fun _ _=>False) s->(∀ a s,Q a s->Q' a s)->wpAny (model prog w) A t Q' E' s :=
  fun h q=>wpAny_mono h q fun _ _ f=>f.elim
 refine codeAny_loop rfl I (fun n s hI=>?_) n h
 show wpAny _ A ((compTurn (.ListComp elt [⟨target,iter,ifs,0⟩] scope pos) 0 it acc env).onRaise (fun x=>do noteFrame x env; theTreesLotGoes x)) _ _ s
 refine wpAny_noted ?_
 rw [compTurn_list]
 refine wpAny_bind (wpAny_standAt (wpAny_bind (up (turn n s hI) fun r s1 h1=>?_)))
 cases r with
 | none=>exact wpAny_pure h1
 | some v =>
   refine wpAny_bind (up h1 fun _ s1' h1'=>?_)
   refine wpAny_bind (up h1' fun _ s2 h2=>wpAny_bind (up h2 fun ok s3 h3=>?_))
   cases ok with
   | false=>exact wpAny_pure ⟨rfl,h3⟩
   | true =>
     exact wpAny_bind (wpAny_bind (up h3 fun x s4 h4=>wpAny_bind (up h4 fun _ s5 h5=>wpAny_pure (wpAny_pure ⟨rfl,h5⟩))))
end
structure Apart (X:Cx) (pins:List (Addr × Obj)) (H:Hp) (C:Addr):Prop where
 fr:H C=none
 lo:C ≠ X.env.locals
 sz:X.s₀.heap.objs.size<=C
 ce:∀ y c,X.env.cells.lookup y=some c->c ≠ C
 pi:∀ p ∈ X.pn++pins,p.1 ≠ C
theorem Apart.turn {X:Cx} {pins:List (Addr × Obj)} {σ:St} {H:Hp} {C:Addr} {s:Shared} {h':Heap} (a:Apart X pins H C) (I:Inv X pins σ H s) (hs:Heap.SameBut C s.heap h'):Inv X pins σ H { s with heap:=h' } :=
 I.turned (t':=s.toks) (fun b o ne e=>(hs.2 b ne).trans e) a.fr a.lo (.inr a.sz) a.ce a.pi
section
variable {X:Cx} {x:Str} {N:List Str} {ix:List Nat} {scope:Scope} {cl:List (Str × Addr)} {elt iter:Expr} {ifs:List Expr} {px pos:Pos} {wi:TI} {tb:TBl}
theorem comp_run (hc:X.calm=true) (S:CompScope X x N ix scope cl) (hix:ix.length=N.length) (hb:∀ s3 H3 fp,PB (bn X (x::N) scope cl s3 H3 fp) ifs elt tb)
 {pins:List (Addr × Obj)} {s2:Shared} {σ:St} {H2:Hp} {Q:VK} {it:Addr} {fp:List Addr} {tn:Nat->Heap->Prop} {J:It} {RR:Value->Addr->Result->Shared->Prop} {E:Value->Shared->Prop}
 (I2:Inv X pins σ H2 s2) (T:Turn X.prog X.w X.K (.Name x px) J fp it tn) (st2:tn 0 s2.heap) (f2:∀ b ∈ fp,FpOk X pins H2 b)
 (h:∀ D,H2 D=none->∃ W:Nat->Nat->Hp->Prop,(∃ m,W 0 m (upd H2 D (.lst [])))/\∀ i m H3,W i m H3 ->
  (J.stop i H3/\Q (.ref D) H3)∨(J.go i H3/\∀ y H4,J.yld i H3 y H4->tb (some y::outs ix σ) H4 (fun H5=>∃ m',m' < m/\W (i+1) m' H5)
   fun z H5=>∃ ys,H5 D=some (.lst ys)/\ys.length < sizeLine/\∃ m',m' < m/\W (i+1) m' (upd H5 D (.lst (ys++[z])))))
 (hRR:∀ (D C:Addr) (H':Hp) (s':Shared) (m:Str->Option Value),s'.heap.Ns C m->Apart X pins H' C->Inv X pins σ H' s'->Q (.ref D) H'->RR (.ref D) C (.ok .next) s') :
 wpAny (model X.prog X.w) X.A (newList []) (fun acc s3=>wpAny (model X.prog X.w) X.A (newFunctionEnv scope X.env.globals cl [] X.env.qual none .none (some X.env)) (fun cenv s4 =>
  codeAny (model X.prog X.w) X.A (.compStart (.ListComp elt [⟨.Name x px,iter,ifs,0⟩] scope pos) 0 (.ref it) acc { cenv with scope:=relabel scope X.env }) (RR acc cenv.locals) s4) E s3) E s2:=by
 refine wpAny_newObj_type (wpAny_newFunctionEnv S.nocell (by intro y hy; simp at hy) (fun h1 hns1 hsb1=>?_) S.kind)
 dsimp only at hns1 hsb1 ⊢
 have I3:Inv X pins σ (upd H2 s2.heap.objs.size (.lst [])) { s2 with heap:=s2.heap.push { cls:=.type "list", dict:=none,data:=.seq ([]:List Value).toArray } }:=I2.lnew (its:=[]) (ys:=[]) (t':=s2.toks) .nil (Nat.zero_le _)
 have hD:H2 s2.heap.objs.size=none:=I2.fresh
 obtain ⟨W,⟨m0,w0⟩,turn⟩:=h s2.heap.objs.size hD
 have hltF:∀ b ∈ fp,b < s2.heap.objs.size:=fun b hb=>by
  obtain ⟨o,e,_⟩:=T.obj 0 _ st2 b hb
  exact Heap.lt_size e
 generalize hs3:({ s2 with heap:=s2.heap.push { cls:=.type "list", dict:=none,data:=.seq ([]:List Value).toArray } }:Shared)=s3 at I3
 have eh:s2.heap.push { cls:=.type "list", dict:=none,data:=.seq ([]:List Value).toArray }=s3.heap:=by rw [← hs3]
 have et:s2.toks=s3.toks:=by rw [← hs3]
 rw [eh] at hns1 hsb1 ⊢
 have sz3:s3.heap.objs.size=s2.heap.objs.size+1:=by rw [← eh,Heap.size_push]
 have hlt3:∀ b ∈ fp,b < s3.heap.objs.size:=fun b hb=>Nat.lt_of_lt_of_le (hltF b hb) (by rw [sz3]; exact Nat.le_succ _)
 have f3:∀ b ∈ fp,FpOk X pins (upd H2 s2.heap.objs.size (.lst [])) b:=fun b hb=>by
  obtain ⟨q1,q2⟩:=f2 b hb
  exact ⟨by rw [au (Nat.ne_of_lt (hltF b hb))]; exact q1,q2⟩
 have up:∀ b o,s3.heap.get? b=some o->h1.get? b=some o:=fun b o e=>hsb1.extBut b o (Nat.ne_of_lt (Heap.lt_size e)) (Heap.get?_push_of_some _ e)
 have old:∀ b o,s2.heap.get? b=some o->h1.get? b=some o:=fun b o e=>up b o (by rw [← eh]; exact Heap.get?_push_of_some _ e)
 have es:({ s2 with heap:=h1,toks:=s2.toks+([]:List (Str × Value)).length }:Shared)={ s3 with heap:=h1,toks:=s2.toks+([]:List (Str × Value)).length }:=by rw [← hs3]
 rw [es]
 have I4:Inv (bn X (x::N) scope cl s3 (upd H2 s2.heap.objs.size (.lst [])) fp) [] (none::outs ix σ) (upd H2 s2.heap.objs.size (.lst [])) { s3 with heap:=h1,toks:=s2.toks+([]:List (Str × Value)).length } :=
  comp_start S I3 f3 hlt3 hix hns1 up
 have st4:tn 0 h1:=T.keep 0 _ _ st2 fun b _ o e=>old b o e
 have loop:codeAny (model X.prog X.w) X.A (.compLoop (.ListComp elt [⟨.Name x px,iter,ifs,0⟩] scope pos) 0 (.ref it) (.ref s2.heap.objs.size) (compEnvC scope cl s3.heap.objs.size X.env)) (RR (.ref s2.heap.objs.size) s3.heap.objs.size)
  { s3 with heap:=h1,toks:=s2.toks+([]:List (Str × Value)).length }:=by
  refine compLoop_go (fun n s'=>∃ i v0 H',Inv (bn X (x::N) scope cl s3 (upd H2 s2.heap.objs.size (.lst [])) fp) [] (v0::outs ix σ) H' s'/\tn i s'.heap/\(∀ b ∈ fp,H' b=none)/\W i n H') ?_ m0 ⟨0,none,_,I4,st4,fun b hb=>(f3 b hb).1,w0⟩
  rintro n s5 ⟨i,v0,H5,I5,st5,fr5,w5⟩
  have stat:∀ {H':Hp},(∀ b ∈ fp,H' b=none)->∀ b ∈ fp,FpOk (bn X (x::N) scope cl s3 (upd H2 s2.heap.objs.size (.lst [])) fp) [] H' b:=fun hn b hb =>
   ⟨hn b hb,((comp_cx S I3 f3 hlt3).exf b hb).1,(comp_cx S I3 f3 hlt3).exfs b hb,.inl hb,((comp_cx S I3 f3 hlt3).exf b hb).2,fun p hp=>absurd (show p ∈ ([]:List (Addr × Obj)) from hp) (by simp)⟩
  rcases turn i n H5 w5 with ⟨stop,qn⟩ | ⟨go,step⟩
  . refine thn (T.done (bn X (x::N) scope cl s3 (upd H2 s2.heap.objs.size (.lst [])) fp) rfl rfl rfl hc i [] s5 _ H5 _ I5 (stat fr5) st5 stop) fun r s6 ⟨hr,I6⟩=>?_
    subst hr
    obtain ⟨m6,hn6,_⟩:=I6.loc
    exact hRR _ _ H5 s6 m6 hn6 ⟨I6.free,Ne.symm (Nat.ne_of_lt I3.lt),I3.sz,fun y c e z=>by
     obtain ⟨v,q⟩:=I3.cell y c e
     exact absurd q.lt (by rw [z]; exact Nat.lt_irrefl _),fun p hp z=>absurd (Heap.lt_size (I3.pin p hp).1) (by rw [z]; exact Nat.lt_irrefl _)⟩ (comp_back I3 f3 I6 (Heap.SameBut.refl _ _)) qn
  . refine thn (T.item (bn X (x::N) scope cl s3 (upd H2 s2.heap.objs.size (.lst [])) fp) rfl rfl rfl hc i [] s5 _ H5 _ I5 (stat fr5) st5 go) fun r s6 ⟨u,hr,h6⟩=>?_
    subst hr
    refine thn h6 fun _ s7 ⟨y,H7,I7,r7,y7,st7,fr7⟩=>?_
    have I7':=I7.pinned (stat fr7) (T.obj _ _ st7)
    refine wpAny_assign_Name (store_ok (i:=0) I7' S.nd rfl (.inl (lookup_relabel_local S.own)) r7 (fun s8 I8=>?_) (.inr (lookup_relabel_local S.own)))
    have I8':Inv (bn X (x::N) scope cl s3 (upd H2 s2.heap.objs.size (.lst [])) fp) ([]++pinsAt fp s7.heap) (some y::outs ix σ) H7 s8:=I8
    have again:∀ {v9:Option V} {H9:Hp} {s9:Shared},Inv (bn X (x::N) scope cl s3 (upd H2 s2.heap.objs.size (.lst [])) fp) ([]++pinsAt fp s7.heap) (v9::outs ix σ) H9 s9->(∃ m',m' < n/\W (i+1) m' H9) ->
     ∃ m,m < n/\∃ i v0 H',Inv (bn X (x::N) scope cl s3 (upd H2 s2.heap.objs.size (.lst [])) fp) [] (v0::outs ix σ) H' s9/\tn i s9.heap/\(∀ b ∈ fp,H' b=none)/\W i m H':=fun {v9 H9 s9} I9 ⟨m',hm,w9⟩=>by
     refine ⟨m',hm,i+1,v9,H9,I9.unpinned,T.keep _ _ _ st7 fun b hb o e=>(I9.pin (b,o) (List.mem_append_right _ (List.mem_append_right _ (cB hb e)))).1,fun b hb=>?_,w9⟩
     obtain ⟨o,e,d⟩:=T.obj _ _ st7 b hb
     exact (I9.pin (b,o) (List.mem_append_right _ (List.mem_append_right _ (cB hb e)))).2.1
    refine thn (hb s3 (upd H2 s2.heap.objs.size (.lst [])) fp _ s8 _ H7 _ _ I8' (step y H7 y7)) fun ok s9 q9=>?_
    cases ok with
    | false =>
      rw [if_neg (by decide)] at q9 ⊢
      obtain ⟨H9,I9,q9⟩:=q9
      exact again I9 q9
    | true =>
      rw [if_pos rfl] at q9 ⊢
      refine thn q9 fun u s10 ⟨z,H10,I10,r10,ys,hy,hz,q10⟩=>?_
      refine thn (cI _ s10 _ H10 (.ref s2.heap.objs.size) [z] (.ref s2.heap.objs.size) [u] (fun _ H'=>∃ m',m' < n/\W (i+1) m' H') I10 rfl (.cons r10 .nil) ⟨_,ys,z,rfl,rfl,hy,hz,q10⟩) fun _ s11 ⟨_,H11,I11,_,q11⟩=>?_
      exact again I11 q11
 exact codeAny_compStart_list loop (T.self _ 0 _ _ _ st4 loop)
theorem bQ (hc:X.calm=true) (S:CompScope X x N ix scope cl) (hix:ix.length=N.length) (hi:PI X (.Name x px) iter wi) (hb:∀ s3 H3 fp,PB (bn X (x::N) scope cl s3 H3 fp) ifs elt tb)
 (hs:∀ x,foldedSetIterable iter X.env x=pure x:=by intro _; rfl):PE X (.ListComp elt [⟨.Name x px,iter,ifs,0⟩] scope pos) (tCompR wi ix tb):=by
 intro pins s σ H Q I h
 rw [eval_ListComp]
 refine wpAny_comprehension_free (use:=none) rfl hs S.clos S.kind S.names (thn (hi pins s σ H _ I h) fun xv s1 h1=>thn h1 fun itv s2 h2=>?_)
 obtain ⟨it,fp,tn,J,H2,rfl,I2,T,st2,f2,R⟩:=h2
 refine comp_run hc S hix hb (RR:=fun acc C=>compPost (model X.prog X.w) X.A X.xe none (EP X pins σ Q) acc C) I2 T st2 f2 R ?_
 intro D C H' s' m hn ap I' q
 exact ⟨m,hn,fun h'' hb''=>⟨.ref D,H',ap.turn I' hb'',rfl,q⟩⟩
theorem ps_comp {i:Nat} {y:Str} {py spos:Pos} (hN:X.N.Nodup) (hi0:X.N[i]?=some y) (hx:Loc X.env.scope y) (hc:X.calm=true) (S:CompScope X x N ix scope cl) (hix:ix.length=N.length) (hi:PI X (.Name x px) iter wi) (hb:∀ s3 H3 fp,PB (bn X (x::N) scope cl s3 H3 fp) ifs elt tb)
 (hsw:swapsWith (.ListComp elt [⟨.Name x px,iter,ifs,0⟩] scope pos) (some (.Name y py)) spos.line X.env=pure true:=by with_unfolding_all rfl)
 (hs:∀ x,foldedSetIterable iter X.env x=pure x:=by intro _; rfl) (hf:X.fn y=true∨X.env.scope.names.lookup y=some .local:=by first | exact .inl rfl | exact .inr rfl | assumption) :
 PS X (.Assign [.Name y py] (.ListComp elt [⟨.Name x px,iter,ifs,0⟩] scope pos) spos) (fun D σ H=>tCompR wi ix tb σ H fun v H'=>D.nx (σ.set i (some v)) H'):=by
 intro pins s σ H Dn I h
 rw [exec_Assign_Name_used _ _ _ _ hsw]
 refine wpAny_bind (wpAny_standAt (wpAny_bind ?_))
 show wpAny _ X.A (do let _ ← comprehension (.ListComp elt [⟨.Name x px,iter,ifs,0⟩] scope pos) scope X.env _ (newList []) false (eval iter X.env) (some (assign (.Name y py) X.env))) _ _ s
 refine wpAny_bind (wpAny_mono (wpAny_comprehension_free (use:=some (assign (.Name y py) X.env)) (Q:=fun _ s'=>SP X pins Dn .next s') rfl hs S.clos S.kind S.names
  (thn (hi pins s σ H _ I h) fun xv s1 h1=>thn h1 fun itv s2 h2=>?_)) (fun _ s' hq=>wpAny_pure (wpAny_pure hq)) fun _ _ e=>e)
 obtain ⟨it,fp,tn,J,H2,rfl,I2,T,st2,f2,R⟩:=h2
 refine comp_run hc S hix hb (RR:=fun acc C=>compPost (model X.prog X.w) X.A X.xe (some (assign (.Name y py) X.env)) (fun _ s'=>SP X pins Dn .next s') acc C) (Q:=fun v H'=>Dn.nx (σ.set i (some v)) H') I2 T st2 f2 R ?_
 intro D C H' s' m hn ap I' q
 show wpAny _ X.A (assign (.Name y py) X.env (.ref D)) _ _ _
 refine wpAny_assign_Name (store_ok2 I' hN hi0 hx (v:=.ref D) rfl (fun s'' I'' hsb=>?_) hf)
 obtain ⟨a,hsb,ha⟩:=hsb
 have ne:C ≠ a:=by
  rcases ha with z | z
  . rw [z]; exact ap.lo
  . exact Ne.symm (ap.ce y a z)
 exact ⟨m,hn.sameBut hsb ne,fun h'' hb''=>⟨_,H',ap.turn I'' hb'',q⟩⟩
end
section
variable {X:Cx} {pins:List (Addr × Obj)} {σ:St} {H:Hp} {s:Shared} {h':Heap}
theorem Inv.turnedNew {t':Nat} {ch:List Addr} {T:Addr} {o:HO} (I:Inv X pins σ H s) (k:∀ b u,b ∉ ch->s.heap.get? b=some u->h'.get? b=some u) (hf:∀ b ∈ ch,FpOk X pins H b) (hT:s.heap.objs.size<=T)
 (new:ObjOk X.prog X.w (upd H T o) h' T o):Inv X pins σ (upd H T o) { s with heap:=h',toks:=t' }:=by
 have nit:∀ b u,H b=some u->b ∉ ch:=fun b u e z=>by rw [(hf b z).1] at e; cases e
 have hn:H T=none:=I.hok.fresh hT
 have lt:∀ b u,s.heap.get? b=some u->b ≠ T:=fun b u e=>Nat.ne_of_lt (Nat.lt_of_lt_of_le (Heap.lt_size e) hT)
 refine I.step (g':=s.gens) (d':=s.drawn) (ch:=ch) (fun b hb=>?_) (fun b u _ _ hc e _=>k b u hc e) (fun b u _ _ hc e _=>⟨u.slots,k b u hc e⟩) (fun b u _ e n=>by rw [au (lt b u e)]; exact n) (fun b u hc e=>⟨u,k b u hc e⟩)
  (fun b xs e=>by rw [au (ne_of_none e hn)]; exact e) (fun b ob u e=>by rw [au (ne_of_none e hn)]; exact e) (fun b ps e=>⟨#[],by rw [au (ne_of_none e hn),e]; simp⟩) (fun m hm=>?_) (fun b u e=>?_) I.bare
 . obtain ⟨_,h2,_,h4,h5,h6⟩:=hf b hb
   exact ⟨h4,h2,h5,h6⟩
 . obtain ⟨ob,es,ep,ho,r⟩:=hm
   exact ⟨ob,es,ep,k _ ob (fun z=>(hf _ z).2.1 rfl) ho,r⟩
 . by_cases hb:b=T
   . subst hb
     rw [upd_same] at e
     cases e
     exact new
   . rw [au hb] at e
     refine (I.hok b u e).stay (fun c v hc q=>k c v ?_ q) (fun c q=>by rw [au (ne_of_none q hn)]; exact q) fun c xs q=>by rw [au (ne_of_none q hn)]; exact q
     rcases hc with z | z
     . rw [z]; exact nit b u e
     . exact nit c _ z
theorem Inv.turnedL {t':Nat} {ch:List Addr} (I:Inv X pins σ H s) (k:∀ b u,b ∉ ch->s.heap.get? b=some u->h'.get? b=some u) (hf:∀ b ∈ ch,FpOk X pins H b):Inv X pins σ H { s with heap:=h',toks:=t' }:=by
 have nit:∀ b u,H b=some u->b ∉ ch:=fun b u e z=>by rw [(hf b z).1] at e; cases e
 refine I.step (g':=s.gens) (d':=s.drawn) (ch:=ch) (fun b hb=>?_) (fun b u _ _ hc e _=>k b u hc e) (fun b u _ _ hc e _=>⟨u.slots,k b u hc e⟩) (fun _ _ _ _ n=>n) (fun b u hc e=>⟨u,k b u hc e⟩)
  (fun _ _ e=>e) (fun _ _ _ e=>e) (fun b ps e=>⟨#[],by rw [e]; simp⟩) (fun m hm=>?_) (fun b u e=>?_) I.bare
 . obtain ⟨_,h2,_,h4,h5,h6⟩:=hf b hb
   exact ⟨h4,h2,h5,h6⟩
 . obtain ⟨ob,es,ep,ho,r⟩:=hm
   exact ⟨ob,es,ep,k _ ob (fun z=>(hf _ z).2.1 rfl) ho,r⟩
 . refine (I.hok b u e).stay (fun c v hc q=>k c v ?_ q) (fun _ q=>q) fun _ _ q=>q
   rcases hc with z | z
   . rw [z]; exact nit b u e
   . exact nit c _ z
end
def Ite (K:W.Frag) (a:Addr):It :=
 ⟨fun i H=>∃ xs x,SqL K H a xs/\xs[i]?=some x,fun i H y H'=>∃ t,y=.ref t/\H t=none/\∀ xs x,SqL K H a xs->xs[i]?=some x->H'=upd H t (.tup [.int i,x]),fun i H=>∃ xs,SqL K H a xs/\xs.length<=i⟩
theorem turn_enum {P:Program} {w:World} {K:W.Frag} {elts:List Expr} {k:Nat} {pos:Pos} (a e it:Addr) (hei:e ≠ it) :
 Turn P w K (.Tuple elts k pos) (Ite K a) [e,it] e (fun i h=>(∃ old,IsEnum h e it i old)/\h.IsListIter it a i) where
 mem:=by simp
 obj:=fun i h st b hb=>by
  obtain ⟨⟨old,he⟩,o,e2,c,d⟩:=st
  rcases List.mem_cons.mp hb with z | z
  . subst z
    exact ⟨_,he,fun v z=>nomatch z⟩
  . have z':=List.mem_singleton.mp z
    subst z'
    exact ⟨o,e2,fun v z=>by rw [d] at z; cases z⟩
 keep:=fun i h h' st k=>by
  obtain ⟨⟨old,he⟩,hit⟩:=st
  exact ⟨⟨old,k e (by simp) _ he⟩,hit.at fun o x=>k it (by simp) o x⟩
 item:=by
  intro X hP hw hK hc i pins s σ H E I hf st hg
  subst hP hw hK
  obtain ⟨xs,x,hq,hx⟩:=hg
  obtain ⟨its,rv,p,hz⟩:=I.list hq
  obtain ⟨u,hu,ru⟩:=rv.get hx
  obtain ⟨⟨old,he⟩,hit⟩:=st
  refine wpAny_pyNext_enum_item he hit p.isList (x:=u) (by simpa using hu) hei fun h1 ho hit1 hT hsz hk=>?_
  refine ⟨_,rfl,wpAny_letOwnedTupleGo_enum ho fun h2 he2 hs2=>?_⟩
  have elt:e < s.heap.objs.size:=Heap.lt_size he
  have hT2:h2.get? s.heap.objs.size=some { cls:=.type "tuple", data:=.seq #[.int i s.toks,u] }:=(hs2.2 _ (Ne.symm (Nat.ne_of_lt elt))).trans hT
  have I2:Inv X pins σ (upd H s.heap.objs.size (.tup [.int i,x])) { s with heap:=h2,toks:=s.toks+1 }:=by
   refine I.turnedNew (ch:=[e,it]) (fun b ob hb eb=>?_) hf (Nat.le_refl _) ⟨by show 2<=sizeLine; decide,[.int i s.toks,u],.cons ⟨_,rfl⟩ (.cons ru .nil),⟨_,hT2,rfl,_,rfl⟩,_,hT2,rfl⟩
   have b1:b ≠ e:=fun z=>hb (by simp [z])
   have b2:b ≠ it:=fun z=>hb (by simp [z])
   exact (hs2.2 b b1).trans (hk b ob b1 b2 eb)
  refine ⟨.ref s.heap.objs.size,_,I2,rfl,⟨_,rfl,I.hok.fresh (Nat.le_refl _),fun ys y hy hyi=>?_⟩,⟨⟨u,by simpa using he2⟩,hit1.at fun o z=>(hs2.2 it (Ne.symm hei)).trans z⟩,fun b hb=>?_⟩
  . have e1:=I.list_inj hy hq
    subst e1
    rw [hx] at hyi
    cases hyi
    rfl
  . have z:=hf b hb
    have hlt:b < s.heap.objs.size:=by
     rcases List.mem_cons.mp hb with y | y
     . rw [y]; exact elt
     . rw [List.mem_singleton.mp y]
       obtain ⟨o,e2,_⟩:=hit
       exact Heap.lt_size e2
    rw [au (Nat.ne_of_lt hlt)]
    exact z.1
 done:=by
  intro X hP hw hK hc i pins s σ H E I hf st hg
  subst hP hw hK
  obtain ⟨xs,hq,hx⟩:=hg
  obtain ⟨its,rv,p,hz⟩:=I.list hq
  obtain ⟨⟨old,he⟩,hit⟩:=st
  have hl:=rv.length
  exact wpAny_pyNext_enum_end (I.ok.hd hc) he hit p.isList (Array.getElem?_eq_none (by simp; omega)) fun h' eb=>⟨rfl,I.turnedL (t':=s.toks) (ch:=[e,it]) (fun b o hb eo=>eb b o (fun z=>hb (by simp [z])) eo) hf⟩
 self:=fun _ _ _ _ _ st h=>by
  obtain ⟨⟨old,he⟩,_⟩:=st
  exact wpAny_pyIter_enum he h
section
variable {X:Cx} {elts:List Expr} {k:Nat} {tpos:Pos}
def iEnum (K:W.Frag) (tl:TE):TI:=fun σ H R=>tl σ H fun x H1=>∃ a,x=.ref a/\(∃ xs,SqL K H1 a xs)/\R (Ite K a) H1
theorem pi_enum {l:Expr} {tl:TE} {p pos:Pos} (hg:Gl X "enumerate") (hm:X.mg "enumerate" = none) (hl:PE X l tl) (hs:starEach [l] X.env=[(false,eval l X.env)]:=by rfl) :
 PI X (.Tuple elts k tpos) (.Call (.Name "enumerate" p) [l] [] pos) (iEnum X.K tl):=by
 intro pins s σ H R I h
 refine Call_ (ld_blt I hg hm boot_enumerate (PyProof.Rows.callWith_type1 ?_ hs rfl))
 rw [hs]
 show wpAny _ _ (spliced ((false,eval l X.env)::backTo pos (starEach [] X.env))) _ _ s
 refine Calls.spliced_cons (thn (hl pins s σ H _ I h) fun u s1 ⟨x,H1,I1,r1,a,ex,⟨xs,hq⟩,q⟩=>?_)
 subst ex
 cases r1
 obtain ⟨its,rv,p,hz⟩:=I1.list hq
 refine Calls.spliced_nil ?_
 refine call_enumerate_list p.isList fun h' he hit hsz hk=>?_
 refine wpAny_pyIter_enum he ?_
 have I2:Inv X pins σ H1 { s1 with heap:=h' }:=I1.kept (t':=s1.toks) hk
 refine ⟨s1.heap.objs.size+1,[s1.heap.objs.size+1,s1.heap.objs.size],_,_,H1,rfl,I2,turn_enum a _ _ (Nat.ne_of_gt (Nat.lt_succ_self _)),⟨⟨_,he⟩,hit⟩,fun b hb=>?_,q⟩
 rcases List.mem_cons.mp hb with z | z
 . rw [z]
   exact I1.fpOk (Nat.le_succ _) (I1.hok.fresh (Nat.le_succ _))
 . rw [List.mem_singleton.mp z]
   exact I1.fpOk (Nat.le_refl _) (I1.hok.fresh (Nat.le_refl _))
end
theorem for_enum {K:W.Frag} {a:Addr} {xs:List V} {g:TG} {tb:TS} {D:Ends} {σ:St} {H:Hp} (Pv:Nat->St->Hp->Prop) (h0:Pv 0 σ H) (hl:∀ i σ H,i<=xs.length->Pv i σ H->SqL K H a xs)
 (hs:∀ i x σ H t,xs[i]?=some x->Pv i σ H->H t=none->g (.ref t) σ (upd H t (.tup [.int i,x])) fun σ2 H2=>tb { D with nx:=Pv (i+1),ct:=Pv (i+1),bk:=D.nx } σ2 H2) (hd:∀ σ H,Pv xs.length σ H->D.nx σ H) :
 ∃ W:Nat->Nat->St->Hp->Prop,(∃ m,W 0 m σ H)/\∀ i m σ H,W i m σ H ->
  ((Ite K a).stop i H/\D.nx σ H)∨((Ite K a).go i H/\∃ N:St->Hp->Prop,(∀ σ' H',N σ' H'->∃ m',m' < m/\W (i+1) m' σ' H')/\∀ x H',(Ite K a).yld i H x H'->g x σ H' fun σ2 H2=>tb { D with nx:=N,ct:=N,bk:=D.nx } σ2 H2):=by
 refine ⟨fun i m σ H=>m=xs.length - i/\i<=xs.length/\Pv i σ H,⟨xs.length,by simp,Nat.zero_le _,h0⟩,?_⟩
 rintro i m σ H ⟨rfl,hi,p⟩
 have q:=hl i σ H hi p
 by_cases hlt:i < xs.length
 . refine .inr ⟨⟨xs,xs[i],q,by simp [hlt]⟩,Pv (i+1),fun σ' H' p'=>⟨xs.length - (i+1),by omega,rfl,hlt,p'⟩,fun x H' y=>?_⟩
   obtain ⟨t,rfl,ht,e⟩:=y
   have e':=e xs xs[i] q (by simp [hlt])
   subst e'
   exact hs i xs[i] σ H t (by simp [hlt]) p ht
 . have e:i=xs.length:=by omega
   subst e
   exact .inl ⟨⟨xs,q,Nat.le_refl _⟩,hd σ H p⟩
mutual
inductive Rep (K:W.Frag) (H:Hp):V->PyData->Prop
 | non:Rep K H .non .none
 | bl (b:Bool):Rep K H (.bl b) (.bool b)
 | int (i:Int):Rep K H (.int i) (.int i)
 | str (x:Str):Rep K H (.str x) (.str x)
 | tup {a:Addr} {xs:List V} {ds:List PyData}:SqT K H a xs->RepAll K H xs ds->Rep K H (.ref a) (.tuple ds)
 | lst {a:Addr} {xs:List V} {ds:List PyData}:SqL K H a xs->RepAll K H xs ds->Rep K H (.ref a) (.list ds)
inductive RepAll (K:W.Frag) (H:Hp):List V->List PyData->Prop
 | nil:RepAll K H [] []
 | cons {x:V} {d:PyData} {xs:List V} {ds:List PyData}:Rep K H x d->RepAll K H xs ds->RepAll K H (x::xs) (d::ds)
end
section
variable {X:Cx} {pins:List (Addr × Obj)} {σ:St} {H:Hp} {s:Shared}
mutual
theorem Rep.reads (I:Inv X pins σ H s):∀ {x:V} {d:PyData} {v:Value},Rep X.K H x d->RelV x v->∃ as,Reads s.heap v d as
 | _,_,v,.non,r=>by cases (show v=Value.none from r); exact ⟨_,Reads.none⟩
 | _,_,v,.bl b,r=>by cases (show v=Value.bool b from r); exact ⟨_,Reads.bool b⟩
 | _,_,v,.int i,r=>by obtain ⟨t,e⟩:=(show ∃ t,v=Value.int i t from r); cases e; exact ⟨_,Reads.int i t⟩
 | _,_,v,.str x,r=>by obtain ⟨t,e⟩:=(show ∃ t,v=Value.str x t from r); cases e; exact ⟨_,Reads.str x t⟩
 | _,_,v,.tup (a:=a) h q,r=>by
   cases (show v=Value.ref a from r)
   obtain ⟨its,rv,⟨o,ho,hc,n,hd⟩,_⟩:=I.tuple h
   obtain ⟨as,z⟩:=RepAll.reads I q rv
   exact ⟨_,reads_tuple_at ho hc hd (by simpa using z)⟩
 | _,_,v,.lst (a:=a) h q,r=>by
   cases (show v=Value.ref a from r)
   obtain ⟨its,rv,⟨o,n,ho,hc,_,hd⟩,_⟩:=I.list h
   obtain ⟨as,z⟩:=RepAll.reads I q rv
   exact ⟨_,reads_list_at ho hc hd (by simpa using z)⟩
theorem RepAll.reads (I:Inv X pins σ H s):∀ {xs:List V} {ds:List PyData} {vs:List Value},RepAll X.K H xs ds->Vals xs vs->∃ as,ReadsAll s.heap vs ds as
 | _,_,_,.nil,.nil=>⟨_,ReadsAll.nil⟩
 | _,_,_,.cons h q,.cons r rs=>by
   obtain ⟨as,z⟩:=Rep.reads I h r
   obtain ⟨bs,y⟩:=RepAll.reads I q rs
   exact ⟨_,ReadsAll.cons z y⟩
end
end
theorem rep_ints {K:W.Frag} {H:Hp}:∀ ns:List Int,RepAll K H (ns.map V.int) (ns.map PyData.int)
 | []=>.nil
 | n::r=>.cons (.int n) (rep_ints r)
section
variable {X:Cx}
def rEqD (K:W.Frag):R2:=fun x y H Q=>∃ d e,Rep K H x d/\Rep K H y e/\SeqAt.shaped d=true/\SeqAt.shaped e=true/\Q (.bl (PyData.eqv d e)) H
def rNeD (K:W.Frag):R2:=fun x y H Q=>∃ d e,Rep K H x d/\Rep K H y e/\SeqAt.shaped d=true/\SeqAt.shaped e=true/\Q (.bl (!PyData.eqv d e)) H
theorem op_eqD (hu:X.A.units+64 < cLine):OpR X (compareOp .Eq) (rEqD X.K):=by
 intro pins s σ H x y v u Q I rx ry h
 obtain ⟨d,e,hd,he,sd,se,q⟩:=h
 obtain ⟨as,r1⟩:=Rep.reads I hd rx
 obtain ⟨bs,r2⟩:=Rep.reads I he ry
 exact eq_dataH r1 r2 sd se hu ⟨.bl _,H,I,rfl,q⟩
theorem op_neD (hu:X.A.units+64 < cLine):OpR X (compareOp .NotEq) (rNeD X.K):=by
 intro pins s σ H x y v u Q I rx ry h
 obtain ⟨d,e,hd,he,sd,se,q⟩:=h
 obtain ⟨as,r1⟩:=Rep.reads I hd rx
 obtain ⟨bs,r2⟩:=Rep.reads I he ry
 exact ne_dataH r1 r2 sd se hu ⟨.bl _,H,I,rfl,q⟩
def rCatT0 (K:W.Frag):R2:=fun x y H Q=>∃ a b ys,x=.ref a/\y=.ref b/\SqT K H a []/\SqT K H b ys/\Q (.ref b) H
theorem op_catT0:OpR X (binaryOp .Add) (rCatT0 X.K):=by
 intro pins s σ H x y v u Q I rx ry h
 obtain ⟨a,b,ys,rfl,rfl,ha,hb,q⟩:=h
 cases rx
 cases ry
 obtain ⟨its,r1,p1,_⟩:=I.tuple ha
 obtain ⟨its2,r2,p2,_⟩:=I.tuple hb
 obtain ⟨⟨cls,dd,data,sl⟩,ho,hc,n,hd⟩:=id p1
 obtain ⟨⟨cls2,dd2,data2,sl2⟩,ho2,hc2,n2,hd2⟩:=id p2
 simp only at hc hd hc2 hd2
 subst hc hd hc2 hd2
 have e:its=[]:=r1.nil_iff.mpr rfl
 exact concat_meets ⟨_,ho,rfl⟩ ⟨_,ho2,rfl⟩ noFill_tuple_add seq_tuple_add PySem.F.slot_tuple_add PySem.F.entry_tuple_add (PySem.F.args_tuple_add_2 _ _)
  (tuple_addW0 a b its.toArray its2.toArray n n2 dd dd2 sl sl2 (by simp [e])) ⟨ho,ho2,⟨.ref b,H,I,rfl,q⟩⟩
end
def Nx (n i:Nat) (Pv:Nat->Hp->Prop) (H:Hp):Prop:=∃ m',m' < n - i/\(m'=n - (i+1)/\i+1<=n/\Pv (i+1) H)
theorem Nx.of {n i:Nat} {Pv:Nat->Hp->Prop} {H:Hp} (h:i < n) (p:Pv (i+1) H):Nx n i Pv H:=⟨n - (i+1),by omega,rfl,h,p⟩
theorem comp_tup {K:W.Frag} {a D:Addr} {xs:List V} {ix:List Nat} {tb:TBl} {σ:St} {H:Hp} {Q:VK} (Pv:Nat->Hp->Prop) (h0:Pv 0 (upd H D (.lst []))) (hl:∀ i H,i<=xs.length->Pv i H->SqT K H a xs)
 (hs:∀ i x H,xs[i]?=some x->Pv i H->tb (some x::outs ix σ) H (Nx xs.length i Pv) fun z H'=>∃ ys,H' D=some (.lst ys)/\ys.length < sizeLine/\Nx xs.length i Pv (upd H' D (.lst (ys++[z])))) (hd:∀ H,Pv xs.length H->Q (.ref D) H) :
 CompEx (Itt K a) D ix tb σ H Q:=by
 refine ⟨fun i m H=>m=xs.length - i/\i<=xs.length/\Pv i H,⟨xs.length,by simp,Nat.zero_le _,h0⟩,?_⟩
 rintro i m H ⟨rfl,hi,p⟩
 have q:=hl i H hi p
 by_cases hlt:i < xs.length
 . refine .inr ⟨⟨xs,xs[i],q,by simp [hlt]⟩,fun x H' y=>?_⟩
   obtain ⟨e,y⟩:=y
   subst e
   exact hs i x _ (y xs q) p
 . have e:i=xs.length:=by omega
   subst e
   exact .inl ⟨⟨xs,q,Nat.le_refl _⟩,hd H p⟩
theorem comp_list {K:W.Frag} {a D:Addr} {xs:List V} {ix:List Nat} {tb:TBl} {σ:St} {H:Hp} {Q:VK} (Pv:Nat->Hp->Prop) (h0:Pv 0 (upd H D (.lst []))) (hl:∀ i H,i<=xs.length->Pv i H->SqL K H a xs)
 (hs:∀ i x H,xs[i]?=some x->Pv i H->tb (some x::outs ix σ) H (Nx xs.length i Pv) fun z H'=>∃ ys,H' D=some (.lst ys)/\ys.length < sizeLine/\Nx xs.length i Pv (upd H' D (.lst (ys++[z])))) (hd:∀ H,Pv xs.length H->Q (.ref D) H) :
 CompEx (Itl K a) D ix tb σ H Q:=by
 refine ⟨fun i m H=>m=xs.length - i/\i<=xs.length/\Pv i H,⟨xs.length,by simp,Nat.zero_le _,h0⟩,?_⟩
 rintro i m H ⟨rfl,hi,p⟩
 have q:=hl i H hi p
 by_cases hlt:i < xs.length
 . refine .inr ⟨⟨xs,xs[i],q,by simp [hlt]⟩,fun x H' y=>?_⟩
   obtain ⟨e,y⟩:=y
   subst e
   exact hs i x _ (y xs q) p
 . have e:i=xs.length:=by omega
   subst e
   exact .inl ⟨⟨xs,q,Nat.le_refl _⟩,hd H p⟩
theorem cj {lo:Int} {n:Nat} {D:Addr} {ix:List Nat} {tb:TBl} {σ:St} {H:Hp} {Q:VK} (Pv:Nat->Hp->Prop) (h0:Pv 0 (upd H D (.lst [])))
 (hs:∀ i H,i < n->Pv i H->tb (some (.int (lo+i))::outs ix σ) H (Nx n i Pv) fun z H'=>∃ ys,H' D=some (.lst ys)/\ys.length < sizeLine/\Nx n i Pv (upd H' D (.lst (ys++[z])))) (hd:∀ H,Pv n H->Q (.ref D) H) :
 CompEx (Itr lo n) D ix tb σ H Q:=by
 refine ⟨fun i m H=>m=n - i/\i<=n/\Pv i H,⟨n,by simp,Nat.zero_le _,h0⟩,?_⟩
 rintro i m H ⟨rfl,hi,p⟩
 by_cases hlt:i < n
 . refine .inr ⟨hlt,fun x H' y=>?_⟩
   obtain ⟨e,y⟩:=y
   subst e y
   exact hs i _ hlt p
 . have e:i=n:=by omega
   subst e
   exact .inl ⟨Nat.le_refl _,hd H p⟩
theorem CompScope.closed {X:Cx} {x:Str} {scope:Scope} (c1:closureFor scope X.env=pure []) (c2:∀ y ∈ scope.names,y.2 ≠ .cell) (c3:scope.kind=.function) (c4:∀ y ∈ scope.names,y.2=.local->scope.names.lookup y.1=some .local)
 (c5:scope.names.lookup x=some .local) (c6:((relabel scope X.env).names.all fun p=>!(p.2 == .cell || p.2 == .free) || ((([]:List (Str × Addr))).lookup p.1).isSome)=true):CompScope X x [] [] scope [] where
 clos:=c1
 nocell:=c2
 kind:=c3
 names:=c4
 own:=c5
 nd:=by simp
 sub:=fun p hp=>absurd hp (by simp)
 has:=c6
 outs:=fun j y h=>by simp at h
section
variable {X:Cx}
theorem ix_listK (K:W.Frag) (hK:X.K=K:=by rfl):IxR X (rIxL K):=by subst hK; exact ix_list
theorem ix_tupK (K:W.Frag) (hK:X.K=K:=by rfl):IxR X (rIxT K):=by subst hK; exact aA
end
section
variable {X:Cx}
def rSlS:V->Option Int->Option Int->Hp->VK->Prop:=fun x lo hi H Q=>∃ z,x=.str z/\z.length<=sizeLine/\Q (.str (Txt.slice z lo hi)) H
theorem sl_str:SlR X rSlS:=by
 intro pins s σ H x v vl vu lo hi sl Q I rx hs pl pu h
 obtain ⟨z,rfl,hz,q⟩:=h
 obtain ⟨t,rfl⟩:=rx
 refine ⟨"str", _,F.slot_str_getitem.lookup,typeIs_str _ _ _,?_⟩
 have fin:∀ t' k,EP X pins σ Q (.str (Txt.slice z lo hi) t') { s with toks:=k }:=fun t' k=>⟨.str _,H,I.tok k,⟨_,rfl⟩,q⟩
 obtain ⟨o,ho,hc,hd⟩:=hs
 cases pl with
 | none =>
   cases pu with
   | none=>exact wpAny_getItem_str_slice (l:=none) (u:=none) (st:=none) ⟨o,ho,hc,hd⟩ rfl (post_val_or_str ⟨Nat.le_trans (Txt.slice_le z _ _) hz,fin⟩)
   | int j u=>exact wpAny_getItem_str_slice (l:=none) (u:=some (j,u)) (st:=none) ⟨o,ho,hc,hd⟩ rfl (post_val_or_str ⟨Nat.le_trans (Txt.slice_le z _ _) hz,fin⟩)
 | int i u' =>
   cases pu with
   | none=>exact wpAny_getItem_str_slice (l:=some (i,u')) (u:=none) (st:=none) ⟨o,ho,hc,hd⟩ rfl (post_val_or_str ⟨Nat.le_trans (Txt.slice_le z _ _) hz,fin⟩)
   | int j u=>exact wpAny_getItem_str_slice (l:=some (i,u')) (u:=some (j,u)) (st:=none) ⟨o,ho,hc,hd⟩ rfl (post_val_or_str ⟨Nat.le_trans (Txt.slice_le z _ _) hz,fin⟩)
theorem strsAre_of:∀ {zs:List Str} {us:List Value},Vals (zs.map V.str) us->StrsAre us zs
 | [],_,.nil=>.nil
 | _::_,_,.cons ⟨t,e⟩ r=>by subst e; exact .cons _ t (strsAre_of r)
def rJoin (K:W.Frag):V->List V->Hp->VK->Prop:=fun x vs H Q=>∃ z a ys,x=.str z/\vs=[.ref a]/\SqL K H a (ys.map V.str)/\z.length<=16/\(ys.map (·.length)).sum+ys.length<=1048576/\Q (.str (Txt.join z ys)) H
theorem mt_join:MtR X "str.join" (rJoin X.K):=by
 intro pins s σ H x vs v us Q I rx rv h
 obtain ⟨z,a,ys,rfl,rfl,hq,hz,hw,q⟩:=h
 obtain ⟨t,rfl⟩:=rx
 obtain ⟨w',rfl,ra⟩:=rv.one
 cases ra
 obtain ⟨its,r',p,_⟩:=I.list hq
 exact join_listW p.isList (by simpa using strsAre_of r') hz hw fun t' k=>⟨.str _,H,I.tok k,⟨_,rfl⟩,q⟩
end
inductive Consts:List Expr->List Str->Prop
 | nil:Consts [] []
 | cons {x:Str} {j:Nat} {pos:Pos} {es:List Expr} {zs:List Str}:Consts es zs->Consts (.Constant (.str x) j pos::es) (x::zs)
theorem pa_consts {X:Cx}:∀ {es:List Expr} {zs:List Str},Consts es zs->PA X es (fun _ H Q=>Q (zs.map V.str) H)
 | _,_,.nil=>ae
 | _,_,.cons h=>fun pos pins s σ H Q I q=>aa aD (pa_consts h) (by rfl) pos pins s σ H Q I q
theorem CompScope.one {X:Cx} {x y:Str} {scope:Scope} {k:Nat} {c:Addr} (c1:closureFor scope X.env=pure [(y,c)]) (c2:∀ y ∈ scope.names,y.2 ≠ .cell) (c3:scope.kind=.function) (c4:∀ y ∈ scope.names,y.2=.local->scope.names.lookup y.1=some .local)
 (c5:scope.names.lookup x=some .local) (nd:[x,y].Nodup) (hc:X.env.cells.lookup y=some c) (c6:((relabel scope X.env).names.all fun p=>!(p.2 == .cell || p.2 == .free) || (([(y,c)]:List (Str × Addr)).lookup p.1).isSome)=true)
 (hr:(relabel scope X.env).names.lookup y=some .cell) (hk:X.N[k]?=some y) (hs:X.env.scope.names.lookup y=some .cell):CompScope X x [y] [k] scope [(y,c)] where
 clos:=c1
 nocell:=c2
 kind:=c3
 names:=c4
 own:=c5
 nd:=nd
 sub:=fun p hp=>by
  rw [List.mem_singleton.mp hp]
  exact hc
 has:=c6
 outs:=fun j z h=>by
  cases j with
  | zero =>
    have e:y=z:=Option.some.inj h
    subst e
    exact ⟨hr,k,c,rfl,hk,by simp [List.lookup],hs⟩
  | succ j=>simp at h
theorem CompScope.two {X:Cx} {x y z:Str} {scope:Scope} {k l:Nat} {c d:Addr} {cl:List (Str × Addr)} (c1:closureFor scope X.env=pure cl) (c2:∀ y ∈ scope.names,y.2 ≠ .cell) (c3:scope.kind=.function) (c4:∀ y ∈ scope.names,y.2=.local->scope.names.lookup y.1=some .local)
 (c5:scope.names.lookup x=some .local) (nd:[x,y,z].Nodup) (hcl:cl=[(z,d),(y,c)]∨cl=[(y,c),(z,d)]) (hc:X.env.cells.lookup y=some c) (hd:X.env.cells.lookup z=some d) (c6:((relabel scope X.env).names.all fun p=>!(p.2 == .cell || p.2 == .free) || (cl.lookup p.1).isSome)=true)
 (hr:(relabel scope X.env).names.lookup y=some .cell) (hk:X.N[k]?=some y) (hs:X.env.scope.names.lookup y=some .cell)
 (hr2:(relabel scope X.env).names.lookup z=some .cell) (hk2:X.N[l]?=some z) (hs2:X.env.scope.names.lookup z=some .cell):CompScope X x [y,z] [k,l] scope cl where
 clos:=c1
 nocell:=c2
 kind:=c3
 names:=c4
 own:=c5
 nd:=nd
 sub:=fun p hp=>by
  rcases hcl with rfl | rfl
  all_goals
   rcases List.mem_cons.mp hp with e | e
   . rw [e]; assumption
   . rw [List.mem_singleton.mp e]; assumption
 has:=c6
 outs:=fun j w h=>by
  have nyz:y ≠ z:=fun e=>by simp [e] at nd
  match j,h with
  | 0,h =>
    have e:y=w:=Option.some.inj h
    subst e
    refine ⟨hr,k,c,rfl,hk,?_,hs⟩
    rcases hcl with rfl | rfl
    . have:(y == z)=false:=by simpa using nyz
      simp [List.lookup,this]
    . simp [List.lookup]
  | 1,h =>
    have e:z=w:=Option.some.inj h
    subst e
    refine ⟨hr2,l,d,rfl,hk2,?_,hs2⟩
    rcases hcl with rfl | rfl
    . simp [List.lookup]
    . have:(z == y)=false:=by simpa using Ne.symm nyz
      simp [List.lookup,this]
  | j+2,h=>simp at h
end L2
namespace Mine
open PySem L2
def NmOk (x:Str):Prop:=x.length<=20/\(∀ c ∈ x.cps.toList,97<=c/\c<=122)/\x ≠ "aa"
theorem mem_slice {x:Str} {l u:Option Int} {c:Nat} (h:c ∈ (Txt.slice x l u).cps.toList):c ∈ x.cps.toList:=by
 have e:Txt.slice x l u=StrLaws.sliceText x l u:=rfl
 rw [e] at h
 unfold StrLaws.sliceText at h
 split at h
 . exact h
 . obtain ⟨i,_,hi⟩:=List.mem_filterMap.mp (show c ∈ (List.filterMap _ _) by simpa using h)
   have:=Array.mem_of_getElem? hi
   simpa using this
theorem mem_append {x y:Str} {c:Nat} (h:c ∈ (x++y).cps.toList):c ∈ x.cps.toList∨c ∈ y.cps.toList:=by
 have e:(x++y).cps.toList=x.cps.toList++y.cps.toList:=by simp [Str.cps_append]
 rw [e] at h
 exact List.mem_append.mp h
theorem mem_join0 {zs:List Str} {c:Nat} (h:c ∈ (Txt.join "" zs).cps.toList):∃ z ∈ zs,c ∈ z.cps.toList:=by
 have e:Txt.join "" zs=Str.join "" zs:=by
  cases zs with
  | nil=>rfl
  | cons a r=>exact StrLaws.glued_cons "" r a
 rw [e] at h
 rcases (PyProof.Rows.mem_join "" c zs).mp h with h | ⟨_,h⟩
 . exact h
 . have e0:(("" : Str)).cps.toList=[]:=by decide +kernel
   rw [e0] at h
   cases h
inductive Tr where
 | is (x:Str) | yes | no | not (a:Tr) | bin (w:Str) (a b:Tr)
def Tr.size:Tr->Nat
 | .is _=>1 | .yes=>1 | .no=>1 | .not a=>a.size+1 | .bin _ a b=>a.size+b.size+1
def Tr.depth:Tr->Nat
 | .is _=>1 | .yes=>1 | .no=>1 | .not a=>a.depth+1 | .bin _ a b=>max a.depth b.depth+1
def Tr.names:Tr->List Str
 | .is x=>[x] | .yes=>[] | .no=>[] | .not a=>a.names | .bin _ a b=>a.names++b.names
def joinW:List Str:=["and", "or", "odd", "same"]
def Tr.ok (ns:List Str):Tr->Prop
 | .is x=>x ∈ ns | .yes=>True | .no=>True | .not a=>a.ok ns | .bin w a b=>w ∈ joinW/\a.ok ns/\b.ok ns
inductive TreeAt (H:Hp):V->Tr->Prop
 | is {a:Addr} {x:Str}:H a=some (.tup [.str "is", .str x])->TreeAt H (.ref a) (.is x)
 | yes {a:Addr}:H a=some (.tup [.str "yes"])->TreeAt H (.ref a) .yes
 | no {a:Addr}:H a=some (.tup [.str "no"])->TreeAt H (.ref a) .no
 | not {a:Addr} {v:V} {t:Tr}:H a=some (.tup [.str "not", v])->TreeAt H v t->TreeAt H (.ref a) (.not t)
 | bin {a:Addr} {w:Str} {v u:V} {t r:Tr}:H a=some (.tup [.str w,v,u])->TreeAt H v t->TreeAt H u r->TreeAt H (.ref a) (.bin w t r)
abbrev bO (H H':Hp):Prop:=∀ a xs,H a=some (.tup xs)->H' a=some (.tup xs)
theorem TreeAt.mono {H H':Hp} (k:bO H H') {v:V} {t:Tr} (h:TreeAt H v t):TreeAt H' v t:=by
 induction h with
 | is e=>exact .is (k _ _ e)
 | yes e=>exact .yes (k _ _ e)
 | no e=>exact .no (k _ _ e)
 | not e _ ih=>exact .not (k _ _ e) ih
 | bin e _ _ i1 i2=>exact .bin (k _ _ e) i1 i2
theorem keepT_same {H H':Hp} (s:Same H H'):bO H H':=fun a _ h=>s a _ h
theorem aY {H H':Hp} {f:Addr} (F:FeedAt H f) (s:SameBut f H H'):bO H H':=fun a xs h=>s a _ (fun z=>by
 obtain ⟨o,t,e,_⟩:=F
 rw [z,e] at h
 cases h) h
def NamesAt (H:Hp) (a:Addr) (ns:List Str):Prop:=H a=some (.lst (ns.map V.str))∨H a=some (.tup (ns.map V.str))
theorem NamesAt.ne {H:Hp} {f a:Addr} {ns:List Str} (F:FeedAt H f) (h:NamesAt H a ns):a ≠ f:=fun z=>by
 obtain ⟨o,t,e,_⟩:=F
 subst z
 rcases h with h | h
 . rw [e] at h
   have h':=HO.lst.inj (Option.some.inj h)
   cases ns with
   | nil=>cases h'
   | cons x r=>simp at h'
 . rw [e] at h
   cases h
theorem NamesAt.feed {H H':Hp} {f a:Addr} {ns:List Str} (F:FeedAt H f) (s:SameBut f H H') (h:NamesAt H a ns):NamesAt H' a ns:=by
 have ne:=h.ne F
 rcases h with h | h
 . exact .inl (s _ _ ne h)
 . exact .inr (s _ _ ne h)
theorem NamesAt.same {H H':Hp} {a:Addr} {ns:List Str} (s:Same H H') (h:NamesAt H a ns):NamesAt H' a ns:=by
 rcases h with h | h
 . exact .inl (s _ _ h)
 . exact .inr (s _ _ h)
theorem NamesAt.seq {K:W.Frag} {H:Hp} {a:Addr} {ns:List Str} (h:NamesAt H a ns):SqL K H a (ns.map V.str)∨SqT K H a (ns.map V.str):=by
 rcases h with h | h
 . exact .inl (SqL.of h)
 . exact .inr (SqT.of h)
theorem NamesAt.ix {K:W.Frag} {H:Hp} {a:Addr} {ns:List Str} {i:Int} {x:V} {Q:VK} (h:NamesAt H a ns) (hx:atI (ns.map V.str) i=some x) (q:Q x H):rIxL K (.ref a) (.int i) H Q∨rIxT K (.ref a) (.int i) H Q:=by
 rcases h with h | h
 . exact .inl ⟨a,_,i,x,rfl,rfl,SqL.of h,hx,q⟩
 . exact .inr ⟨a,_,i,x,rfl,rfl,SqT.of h,hx,q⟩
def spTree (n:Nat):Sp:=fun vs H Q _=>∃ (f a:Addr) (room deep:Int) (ns:List Str),vs=[.ref f,.ref a,.int room,.int deep]/\FeedAt H f/\NamesAt H a ns/\ns.length<=6/\1<=room/\room<=100/\1<=deep/\deep+1<=(n:Int)+1 /\
 ∀ (v:V) (t:Tr) (H':Hp),FeedAt H' f->SameBut f H H'->TreeAt H' v t->t.ok ns->(t.size:Int)<=room->(t.depth:Int)<=deep->Q v H'
theorem at_in {α:Type} {l:List α} {i:Int} (h0:0<=i) (h:i < (l.length:Int)):∃ v,atI l i=some v/\v ∈ l:=by
 have hk:i.toNat < l.length:=by omega
 have q:atI l ((i.toNat:Nat):Int)=some l[i.toNat]:=cn (List.getElem?_eq_getElem hk)
 have ek:((i.toNat:Nat):Int)=i:=by omega
 rw [ek] at q
 exact ⟨_,q,List.getElem_mem hk⟩
end Mine
namespace L2
open PySem PySem.Spec PyProof.Rows
section
variable {X:Cx}
def rngV (lo:Int) (n:Nat):List Int:=(List.range n).map fun i:Nat=>lo+(i:Int)
theorem rngV_len (lo:Int) (n:Nat):(rngV lo n).length=n:=by unfold rngV; rw [List.length_map,List.length_range]
theorem rng_items {lo:Int} {n:Nat} {acc:List Value} (h:ItemsOf (fun i v=>∃ t,v=Value.int (lo+(i:Int)*1) t) acc.toArray n):Vals ((rngV lo n).map V.int) acc:=by
 obtain ⟨h1,h2⟩:=h
 have l1:acc.length=n:=by simpa using h1
 have key:∀ (k:Nat) (l:List Value),(∀ i v,l[i]?=some v->∃ t,v=Value.int (lo+((k+i:Nat):Int)) t)->Vals (((List.range' k l.length).map fun i:Nat=>lo+(i:Int)).map V.int) l:=by
  intro k l
  induction l generalizing k with
  | nil=>intro _; exact .nil
  | cons a r ih =>
    intro h
    obtain ⟨t,e⟩:=h 0 a rfl
    rw [List.length_cons,List.range'_succ,List.map_cons,List.map_cons]
    refine .cons ⟨t,by simpa using e⟩ (ih (k+1) fun i v hv=>?_)
    obtain ⟨t,e⟩:=h (i+1) v (by simpa using hv)
    exact ⟨t,by rw [e]; congr 2; omega⟩
 have:=key 0 acc fun i v hv=>by
  obtain ⟨t,e⟩:=h2 i v (by simpa using hv)
  exact ⟨t,by simpa using e⟩
 unfold rngV
 rw [← l1,List.range_eq_range']
 exact this
def tListRng (ta:TA):TE:=fun σ H Q=>ta σ H fun vs H1=>∃ i j:Int,vs=[.int i,.int j]/\(-(2 ^ 62)<=i/\i < 2 ^ 62/\-(2 ^ 62)<=j/\j < 2 ^ 62)/\j - i<=1000/\∀ p,H1 p=none->Q (.ref p) (upd H1 p (.lst ((rngV i (j - i).toNat).map V.int)))
theorem pe_listrng {a b:Expr} {ta:TA} {p1 p2 pos1 pos2:Pos} (hc:X.calm=true) (hg1:Gl X "list") (hm1:X.mg "list" = none) (hg2:Gl X "range") (hm2:X.mg "range" = none) (ha:PA X [a,b] ta)
 (hs1:starEach [(.Call (.Name "range" p2) [a,b] [] pos2:Expr)] X.env=[(false,eval (.Call (.Name "range" p2) [a,b] [] pos2) X.env)]:=by rfl) (hs:starEach [a,b] X.env=[(false,eval a X.env),(false,eval b X.env)]:=by rfl) (hs2:starEach [b] X.env=[(false,eval b X.env)]:=by rfl) :
 PE X (.Call (.Name "list" p1) [.Call (.Name "range" p2) [a,b] [] pos2] [] pos1) (tListRng ta):=by
 intro pins s σ H Q I h
 refine wpAny_Call_Name_kw (ld_blt I hg1 hm1 boot_list' ?_)
 refine PyProof.Rows.callWith_type1 ?_ hs1 rfl
 rw [hs1]
 show wpAny _ _ (spliced ((false,eval (.Call (.Name "range" p2) [a,b] [] pos2) X.env)::backTo pos1 (starEach [] X.env))) _ _ s
 have step:wpAny (model X.prog X.w) X.A (eval (.Call (.Name "range" p2) [a,b] [] pos2) X.env) (fun v s1=>∃ (r:Addr) (i j:Int) (t u k:Tok) (H1:Hp),v=.ref r/\Inv X pins σ H1 s1/\IsRange s1.heap r i j 1 t u k/\(-(2 ^ 62)<=i/\i < 2 ^ 62/\-(2 ^ 62)<=j/\j < 2 ^ 62)/\j - i<=1000 /\
  ∀ p,H1 p=none->Q (.ref p) (upd H1 p (.lst ((rngV i (j - i).toNat).map V.int)))) X.xe s:=by
  refine Call_ (ld_blt I hg2 hm2 boot_range (PyProof.Rows.callWith_type1 (thn (ha pos2 pins s σ H _ I h) fun us s1 ⟨vs,H1,I1,r1,q1⟩=>?_) (by rw [hs,hs2]) (by rw [hs2]; rfl)))
  obtain ⟨i,j,e,q1,q2,q⟩:=q1
  subst e
  cases r1 with
  | cons r rr =>
    cases rr with
    | cons r' rr =>
      cases rr
      obtain ⟨t,rfl⟩:=r
      obtain ⟨t',rfl⟩:=r'
      refine call_range_2 ⟨_,i,j,_,_,_,H1,rfl,I1.kept fun b o e=>Heap.get?_push_of_some _ e,IsRange.new ..,q1,q2,q⟩
 refine Calls.spliced_cons (thn step fun v s1 hv=>?_)
 obtain ⟨r,i,j,t,u,k,H1,rfl,I1,hr,⟨a1,a2,a3,a4⟩,hle,q⟩:=hv
 refine Calls.spliced_nil ?_
 have e2:Builtin.Range.rangeSize i j 1=(((j - i).toNat:Nat):Int):=by rw [rangeSize_one]; split <;> omega
 refine call_list_range (I1.ok.hd hc) hr (small_one a1 a2 a3 a4) e2 (by omega) fun h' tk acc' c' hk hS hacc=>?_
 obtain ⟨acc,rfl⟩:∃ acc:List Value,acc'=acc.toArray:=⟨acc'.toList,by simp⟩
 have rr:=rng_items hacc
 have I2:Inv X pins σ (upd H1 s1.heap.objs.size (.lst ((rngV i (j - i).toNat).map V.int))) { s1 with heap:=h',toks:=tk }:=by
  refine I1.turnedNew (ch:=[]) (fun b ob _ eb=>hk b ob eb) (fun b hb=>absurd hb (by simp)) (Nat.le_refl _) ⟨?_,acc,c',rr,hS⟩
  rw [List.length_map,rngV_len]
  exact bv (by omega)
 exact ⟨.ref s1.heap.objs.size,_,I2,rfl,q _ (I1.hok.fresh (Nat.le_refl _))⟩
def rSum (K:W.Frag):List V->Hp->VK->Prop:=fun xs H Q=>∃ (a:Addr) (ns:List Int),xs=[.ref a]/\SqL K H a (ns.map V.int)/\(∀ n ∈ ns,0<=n)/\ns.sum < 2 ^ 63/\Q (.int ns.sum) H
theorem ints_get:∀ {bs:List Int} {us:List Value} {i:Nat} {v:Value},Vals (bs.map V.int) us->us[i]?=some v->∃ b t,bs[i]?=some b/\v=.int b t
 | [],_,_,_,.nil,h=>by simp at h
 | b::_,_,0,_,.cons r _,h=>by
   simp at h
   subst h
   obtain ⟨t,e⟩:=r
   exact ⟨b,t,rfl,e⟩
 | _::_,_,i+1,_,.cons _ t,h=>by
   obtain ⟨b,t,h1,h2⟩:=ints_get (i:=i) t (by simpa using h)
   exact ⟨b,t,by simpa using h1,h2⟩
theorem sum_take_le {ns:List Int} (h:∀ n ∈ ns,0<=n) (j:Nat):0<=(ns.take j).sum/\(ns.take j).sum<=ns.sum:=by
 induction ns generalizing j with
 | nil=>simp
 | cons a r ih =>
   cases j with
   | zero =>
     have:=ih (fun n hn=>h n (List.mem_cons_of_mem _ hn)) r.length
     rw [List.take_length] at this
     have a0:=h a List.mem_cons_self
     simp only [List.take_zero,List.sum_nil,List.sum_cons]
     omega
   | succ j =>
     have:=ih (fun n hn=>h n (List.mem_cons_of_mem _ hn)) j
     have a0:=h a List.mem_cons_self
     simp only [List.take_succ_cons,List.sum_cons]
     omega
theorem preSum_take (ns:List Int) (j:Nat):preSum (fun i=>ns[i]?.getD 0) j=(ns.take j).sum:=by
 induction j with
 | zero=>simp; rfl
 | succ j ih =>
   show preSum (fun i=>ns[i]?.getD 0) j+(fun i=>ns[i]?.getD 0) j=_
   rw [ih,List.take_add_one,List.sum_append]
   cases e:ns[j]? with
   | none=>simp [e]
   | some x=>simp [e]
theorem call_sum (hc:X.calm=true):CallR X (.builtin "sum") (rSum X.K):=by
 intro pins s σ H xs us Q I r h
 obtain ⟨a,ns,rfl,hq,n0,nb,q⟩:=h
 obtain ⟨u,rfl,ru⟩:=vals1 r
 cases ru
 obtain ⟨its,r',p,hz⟩:=I.list hq
 have hl:=r'.length
 rw [List.length_map] at hl
 have hlt:a < s.heap.objs.size:=by obtain ⟨o,n,e,_⟩:=p; exact Heap.lt_size e
 refine call_sum_walk (wpAny_pyIter_list p.isList ?_)
 refine ⟨s.heap.objs.size,_,_,_,_,_,fun i=>ns[i]?.getD 0,rfl,Walks.list (A:=X.A.in1) (I.ok.hd hc) s.heap.objs.size a (Nat.ne_of_lt hlt) its.toArray,⟨⟨_,Heap.get?_push_size _ rfl,rfl,rfl⟩,p.isList.push _⟩,?_,?_,?_,?_⟩
 . intro b hb
   have hpz:∀ o:Obj,(s.heap.push o).objs.size=s.heap.objs.size+1:=fun o=>by simp [Heap.push]
   show b < (s.heap.push _).objs.size
   rw [hpz]
   rcases List.mem_cons.mp hb with e | e
   . rw [e]; exact Nat.lt_succ_self _
   . rw [List.mem_singleton.mp e]; exact Nat.lt_succ_of_lt hlt
 . intro i v hP
   obtain ⟨b,t,hb,rfl⟩:=ints_get r' (i:=i) (v:=v) (by simpa using hP)
   exact ⟨t,by simp [hb]⟩
 . intro j hj
   have hj':j < ns.length:=by rw [hl]; simpa using hj
   have s1:=sum_take_le n0 (j+1)
   rw [preSum_take]
   refine ⟨?_,by unfold InLong; omega⟩
   have s2:=sum_take_le n0 j
   have e:(ns.take (j+1)).sum=(ns.take j).sum+ns[j]:=by rw [List.take_add_one,List.sum_append,List.getElem?_eq_getElem hj']; simp
   have n1:=n0 _ (List.getElem_mem hj')
   show InLong (ns[j]?.getD 0)
   rw [List.getElem?_eq_getElem hj']
   show InLong ns[j]
   unfold InLong
   omega
 . intro h' tk t' hk
   rw [preSum_take,List.size_toArray,← hl,List.take_length]
   refine ⟨.int _,H,?_,⟨_,rfl⟩,q⟩
   have I1:Inv X pins σ H { s with heap:=s.heap.push { cls:=.type "list_iterator", data:=.fields #[.ref a,.int 0 0] } }:=I.kept (t':=s.toks) fun b o e=>Heap.get?_push_of_some _ e
   refine I1.turnedL (t':=tk) (ch:=[s.heap.objs.size]) (fun b o hb e=>hk b o (by simpa using hb) e) fun b hb=>?_
   rw [List.mem_singleton.mp hb]
   exact I.fpOk (Nat.le_refl _) (I.hok.fresh (Nat.le_refl _))
end
theorem rv_iter:Slot "reversed" "__iter__" "reversed.__iter__" := Slot.of (owner := "reversed") (n := "__iter__") (by rw [typeLookup_type,builtinLookup_eq_fast]; kernel_rfl) (by decide +kernel) (by decide +kernel) (by decide +kernel) (by first | exact .inl (by decide +kernel) | exact .inr (by decide +kernel)) (by rw [isSubtype_type]; kernel_rfl) (by decide +kernel)
theorem rv_next:Slot "reversed" "__next__" "reversed.__next__" := Slot.of (owner := "reversed") (n := "__next__") (by rw [typeLookup_type,builtinLookup_eq_fast]; kernel_rfl) (by decide +kernel) (by decide +kernel) (by decide +kernel) (by first | exact .inl (by decide +kernel) | exact .inr (by decide +kernel)) (by rw [isSubtype_type]; kernel_rfl) (by decide +kernel)
theorem tp_norev:typeLookup (.type "tuple") "__reversed__" = pure none:=by rw [typeLookup_type,builtinLookup_eq_fast]; kernel_rfl
theorem rv_e_iter:entryFor table "reversed.__iter__" = some Builtin.«dict_keyiterator.__iter__»:=entryFor_alias (by kernel_rfl) rfl (show _ = "dict_keyiterator.__iter__" by decide +kernel) (by kernel_rfl)
theorem rv_e_next:entryFor table "reversed.__next__" = some Builtin.«reversed.__next__»:=entryFor_of_tree (by kernel_rfl)
def RevT (h:Heap) (it t:Addr) (i:Int):Prop:=h.get? it=some { cls:=.type "reversed", data:=.fields #[.ref t,rawInt i] }
section
variable {prog:Program} {w:World} {A:Around} {E:Value->Shared->Prop} {s:Shared} {R:Result->Shared->Prop} {it t:Addr}
theorem RevT.typeIs {i:Int} (h:RevT s.heap it t i):s.TypeIs (.ref it) "reversed" := ⟨_,h,rfl⟩
theorem iter_revT {i:Int} {Q:Value->Shared->Prop} (h:RevT s.heap it t i) (q:Q (.ref it) s):wpAny (model prog w) A (pyIter (.ref it)) Q E s :=
 wpAny_pyIter_slot h.typeIs rv_iter (wpAny_call_entry rv_iter h.typeIs rv_e_iter (wpAny_pure ⟨_,rfl, "reversed", _,h.typeIs,rv_next.lookup,q⟩) (by rfl))
theorem next_revT_item {i:Nat} {items:Array Value} {x:Value} {Q:Option Value->Shared->Prop} (h:RevT s.heap it t (i:Int)) (ht:IsTup s.heap t items) (hx:items[i]?=some x) (hi:(i:Int) < 2 ^ 63)
 (q:∀ h' tk,RevT h' it t ((i:Int) - 1)->Heap.SameBut it s.heap h'->Q (some x) { s with heap:=h',toks:=tk }):wpAny (model prog w) A (pyNext (.ref it)) Q E s:=by
 have hT:=h.typeIs
 have hs:i < items.size:=(Array.getElem?_eq_some_iff.mp hx).1
 unfold pyNext
 refine wpAny_bind (wpAny_attempt (wpAny_callSpecial?_slot hT rv_next (wpAny_call_entry rv_next hT rv_e_next ?_ (by rfl))))
 unfold Builtin.«reversed.__next__»
 refine wpAny_bind (wpAny_of_eq (show slotArgs "__next__" 0 ⟨[.ref it],[]⟩=pure (.ref it,[]) from rfl) ?_)
 refine wpAny_bind (wpAny_field h rfl rfl ?_)
 refine wpAny_bind (wpAny_field h rfl rfl ?_)
 refine wpAny_ite_split (fun hab=>absurd hab (by omega)) (fun _=>?_)
 refine wpAny_bind (wpAny_specialOf (show s.TypeIs (.ref t) "tuple" from ht.typeIs) PyProof.Rows.slot_tuple_getitem.lookup ?_)
 refine wpAny_ite_split (fun hab=>absurd hab (by simp)) (fun _=>?_)
 refine wpAny_bind (wpAny_mkInt ?_)
 have e1:seqIndex? (i:Int) items.size=some i:=(ixN_seq (by unfold ixN; rw [if_pos (by omega),if_pos (by omega)]; simp)).1
 refine wpAny_bind (wpAny_attempt (PyProof.Rows.getItem_tuple (items:=items) (x:=x) ht (by omega) hi e1 hx ?_))
 refine wpAny_bind (wpAny_field h rfl rfl ?_)
 refine wpAny_bind (wpAny_setField_rec h (by simp) fun h' e hb=>?_)
 refine wpAny_pure ⟨_,rfl,wpAny_pure (q h' _ ?_ hb)⟩
 exact e
theorem next_revT_end {Q:Option Value->Shared->Prop} (hh:A.handled=none) (h:RevT s.heap it t (-1))
 (q:∀ h' tk,Heap.ExtBut it s.heap h'->Q none { s with heap:=h',toks:=tk }):wpAny (model prog w) A (pyNext (.ref it)) Q E s:=by
 have hT:=h.typeIs
 unfold pyNext
 refine wpAny_bind (wpAny_attempt (wpAny_callSpecial?_slot hT rv_next (wpAny_call_entry rv_next hT rv_e_next ?_ (by rfl))))
 unfold Builtin.«reversed.__next__»
 refine wpAny_bind (wpAny_of_eq (show slotArgs "__next__" 0 ⟨[.ref it],[]⟩=pure (.ref it,[]) from rfl) ?_)
 refine wpAny_bind (wpAny_field h rfl rfl ?_)
 refine wpAny_bind (wpAny_field h rfl rfl ?_)
 refine wpAny_ite_split (fun _=>?_) (fun hab=>absurd (by decide) hab)
 refine wpAny_bind (wpAny_rule ?_)
 refine wpAny_bind ?_
 show wpAny _ _ (setField (.ref it) 1 (rawInt (-1)) >>= fun _=>setField (.ref it) 0 Value.none) _ _ _
 refine wpAny_bind (wpAny_setField_rec h (by simp) fun h1 e1 b1=>?_)
 refine wpAny_setField_rec e1 (by simp) fun h2 e2 b2=>?_
 refine wpAny_bind ?_
 unfold Builtin.SmallTypes.stopIteration newExc newTuple
 refine wpAny_bind (wpAny_bind (wpAny_newObj_type ?_ (by show 0<=sizeLine; decide)))
 refine wpAny_bind (wpAny_of_eq (show firstArgMember (.type "StopIteration") []=pure .none by with_unfolding_all rfl) ?_)
 refine wpAny_newObj_type ?_ (sizeOk_excFields ..)
 refine wpAny_raiseNew_none hh ?_
 refine wpAny_bind (wpAny_isInstance (T := "StopIteration") ⟨_,Heap.get?_push_size _ rfl,rfl⟩ isSubtype_stop ?_)
 refine wpAny_ite_split (fun _=>?_) (fun hab=>absurd rfl hab)
 refine wpAny_pure (q _ _ ?_)
 exact (b1.extBut.trans b2.extBut).trans fun b o hb e=>Heap.get?_push_of_some _ (Heap.get?_push_of_some _ e)
theorem rv_init:Slot "reversed" "__init__" "object.__init__" := Slot.of (owner := "object") (n := "__init__") (by rw [typeLookup_type,builtinLookup_eq_fast]; kernel_rfl) (by decide +kernel) (by decide +kernel) (by decide +kernel) (by first | exact .inl (by decide +kernel) | exact .inr (by decide +kernel)) (by rw [isSubtype_type]; kernel_rfl) (by decide +kernel)
theorem rv_called:TypeCalled "reversed" "reversed.__new__" "object.__init__" := ⟨by decide,F.create_reversed,⟨_,_,F.mro_reversed⟩,F.made_reversed,F.plain_reversed_new,F.sub_reversed_self,rv_init⟩
theorem tp_nodict:isSubtype (.type "tuple") (.type "dict")=pure false:=by rw [isSubtype_type]; kernel_rfl
theorem call_reversed_tup {items:Array Value} {Q:Value->Shared->Prop} (ht:IsTup s.heap t items) (hz:items.size<=sizeLine)
 (q:∀ tk,Q (.ref s.heap.objs.size) { s with heap:=s.heap.push { cls:=.type "reversed", data:=.fields #[.ref t,rawInt ((items.size:Int) - 1)] },toks:=tk }):wpAny (model prog w) A (call (.type "reversed") [.ref t]) Q E s:=by
 have h63:=line63
 refine callType_newIn rv_called (by decide) (F.typeCall_reversed_1 _) (F.newCall_reversed_1 _) (fun _=>by rfl) F.entry_reversed_new
  (S:=fun A R s=>wpAny (model prog w) A.in1 (Builtin.«reversed.__new__» ⟨[.type "reversed", .ref t],[]⟩) (fun fin s'=>match fin with | .done f=>R (.ok f) s' | .again c'=>c'.quiet=true/\codeAny (model prog w) A c' R s') (fun e s'=>R (.error e) s') s) (fun A R s h=>h) ?_
 unfold Builtin.«reversed.__new__»
 refine wpAny_bind (wpAny_of_eq (newClass_reversed _) ?_)
 refine wpAny_bind (wpAny_of_eq (a:=()) rfl ?_)
 refine wpAny_bind (wpAny_of_eq (a:=()) rfl ?_)
 refine wpAny_bind (wpAny_specialOf ht.typeIs tp_norev ?_)
 refine wpAny_bind ?_
 refine wpAny_bind (wpAny_isInstance ht.typeIs tp_nodict ?_)
 refine wpAny_ite_split (fun hab=>absurd hab (by decide)) (fun _=>?_)
 refine wpAny_bind (wpAny_specialOf ht.typeIs PyProof.Rows.slot_tuple_getitem.lookup ?_)
 refine wpAny_ite_split (fun _=>?_) (fun hab=>absurd (by decide +kernel) hab)
 refine wpAny_pure ?_
 refine wpAny_ite_split (fun hab=>absurd hab (by decide)) (fun _=>?_)
 refine wpAny_bind (len_tuple ht (by omega) ?_)
 refine wpAny_bind (wpAny_pure ?_)
 refine wpAny_bind (wpAny_newObj_type (data:=.fields #[.ref t,rawInt ((items.size:Int) - 1)]) ?_ (by show 2<=sizeLine+2; decide))
 refine wpAny_pure ?_
 exact ⟨⟨_,Heap.get?_push_size _ rfl,rfl⟩,q _⟩
end
end L2
namespace Mine
open PySem L2
def Tr.wf:Tr->Prop
 | .is x=>NmOk x | .yes=>True | .no=>True | .not a=>a.wf | .bin w a b=>w ∈ joinW/\a.wf/\b.wf
def Tr.parts:Tr->List Tr
 | .is _=>[] | .yes=>[] | .no=>[] | .not a=>[a] | .bin _ a b=>[a,b]
theorem Tr.ok_wf {ns:List Str} (hn:∀ x ∈ ns,NmOk x):∀ t:Tr,t.ok ns->t.wf
 | .is _,h=>hn _ h
 | .yes,_=>trivial
 | .no,_=>trivial
 | .not a,h=>Tr.ok_wf hn a h
 | .bin _ a b,⟨h,h1,h2⟩=>⟨h,Tr.ok_wf hn a h1,Tr.ok_wf hn b h2⟩
theorem Tr.depth_pos:∀ t:Tr,1<=t.depth
 | .is _=>Nat.le_refl _ | .yes=>Nat.le_refl _ | .no=>Nat.le_refl _ | .not a=>Nat.le_add_left .. | .bin _ a b=>Nat.le_add_left ..
def sizes (ts:List Tr):Nat:=(ts.map Tr.size).sum
def namesL (ts:List Tr):List Str:=(ts.map Tr.names).flatten
theorem Tr.size_parts (t:Tr):t.size=sizes t.parts+1:=by
 cases t <;> simp [Tr.size,Tr.parts,sizes]
theorem Tr.names_parts (t:Tr) (h:∀ x,t ≠ .is x):t.names=namesL t.parts:=by
 cases t with
 | is x=>exact absurd rfl (h x)
 | _=>simp [Tr.names,Tr.parts,namesL]
theorem Tr.parts_mem {t u:Tr} (h:u ∈ t.parts) (w:t.wf):u.wf/\u.depth+1<=t.depth/\u.size+1<=t.size:=by
 cases t with
 | is x=>simp [Tr.parts] at h
 | yes=>simp [Tr.parts] at h
 | no=>simp [Tr.parts] at h
 | not a =>
   rw [List.mem_singleton.mp h]
   exact ⟨w,Nat.le_refl _,Nat.le_refl _⟩
 | bin o a b =>
   obtain ⟨_,w1,w2⟩:=w
   rcases List.mem_cons.mp h with e | e
   . rw [e]
     refine ⟨w1,?_,?_⟩
     . show a.depth+1<=max a.depth b.depth+1
       omega
     . show a.size+1<=a.size+b.size+1
       omega
   . rw [List.mem_singleton.mp e]
     refine ⟨w2,?_,?_⟩
     . show b.depth+1<=max a.depth b.depth+1
       omega
     . show b.size+1<=a.size+b.size+1
       omega
inductive TreesAt (H:Hp):List V->List Tr->Prop
 | nil:TreesAt H [] []
 | cons {v:V} {t:Tr} {vs:List V} {ts:List Tr}:TreeAt H v t->TreesAt H vs ts->TreesAt H (v::vs) (t::ts)
theorem TreesAt.mono {H H':Hp} (k:bO H H') {vs:List V} {ts:List Tr} (h:TreesAt H vs ts):TreesAt H' vs ts:=by
 induction h with
 | nil=>exact .nil
 | cons a _ ih=>exact .cons (a.mono k) ih
theorem TreesAt.append {H:Hp} {vs us:List V} {ts rs:List Tr} (h:TreesAt H vs ts) (g:TreesAt H us rs):TreesAt H (vs++us) (ts++rs):=by
 induction h with
 | nil=>exact g
 | cons a _ ih=>exact .cons a ih
theorem TreesAt.length {H:Hp} {vs:List V} {ts:List Tr} (h:TreesAt H vs ts):vs.length=ts.length:=by
 induction h with
 | nil=>rfl
 | cons _ _ ih=>rw [List.length_cons,List.length_cons,ih]
theorem TreesAt.get {H:Hp} {vs:List V} {ts:List Tr} (h:TreesAt H vs ts):∀ {i:Nat} {v:V},vs[i]?=some v->∃ t,ts[i]?=some t/\TreeAt H v t:=by
 induction h with
 | nil=>intro i v e; simp at e
 | cons a _ ih =>
   intro i v e
   cases i with
   | zero=>cases (Option.some.inj e); exact ⟨_,rfl,a⟩
   | succ i=>exact ih (i:=i) (by simpa using e)
theorem join_ne_is {w:Str} (h:w ∈ joinW):w ≠ "is" := (by decide +kernel:∀ w ∈ joinW,w ≠ ("is" : Str)) w h
theorem TreeAt.view {H:Hp} {v:V} {t:Tr} (h:TreeAt H v t) (w:t.wf):(∃ (a:Addr) (x:Str),v=.ref a/\t=.is x/\NmOk x/\H a=some (.tup [.str "is", .str x])) ∨
 ∃ (a:Addr) (o:Str) (xs:List V),v=.ref a/\o ≠ "is" /\ xs.length<=2/\H a=some (.tup (.str o::xs))/\TreesAt H xs t.parts/\(∀ x,t ≠ .is x):=by
 cases h with
 | is e=>exact .inl ⟨_,_,rfl,rfl,w,e⟩
 | yes e=>exact .inr ⟨_,_,[],rfl,by decide +kernel,by simp,e,.nil,fun x z=>by cases z⟩
 | no e=>exact .inr ⟨_,_,[],rfl,by decide +kernel,by simp,e,.nil,fun x z=>by cases z⟩
 | not e g=>exact .inr ⟨_,_,[_],rfl,by decide +kernel,by simp,e,.cons g .nil,fun x z=>by cases z⟩
 | bin e g g2=>exact .inr ⟨_,_,[_,_],rfl,join_ne_is w.1,by simp,e,.cons g (.cons g2 .nil),fun x z=>by cases z⟩
theorem cut1 (o:V):∀ xs:List V,xs.length<=2->cutV (o::xs) (some 1) none=xs/\¬ (HT.sIx (o::xs).length 0 (some 1)=0/\HT.sIx (o::xs).length (o::xs).length none=(o::xs).length)
 | [],_=>⟨rfl,fun h=>absurd h.1 (show ¬ HT.sIx 1 0 (some 1)=0 by decide)⟩
 | [_],_=>⟨rfl,fun h=>absurd h.1 (show ¬ HT.sIx 2 0 (some 1)=0 by decide)⟩
 | [_,_],_=>⟨rfl,fun h=>absurd h.1 (show ¬ HT.sIx 3 0 (some 1)=0 by decide)⟩
 | _::_::_::_,h=>absurd h (by simp)
theorem Tr.names_len:∀ t:Tr,t.names.length<=t.size
 | .is _=>Nat.le_refl _
 | .yes=>Nat.zero_le _
 | .no=>Nat.zero_le _
 | .not a=>Nat.le_succ_of_le (Tr.names_len a)
 | .bin _ a b=>by
   have:=Tr.names_len a
   have:=Tr.names_len b
   show (a.names++b.names).length<=a.size+b.size+1
   rw [List.length_append]
   omega
end Mine
namespace L2
open PySem PySem.Spec PyProof.Rows
section
variable {prog:Program} {w:World} {A:Around} {E:Value->Shared->Prop} {s:Shared}
def idxF (xs:Array Value) (x:Value):Nat->Option PySem.Fin × Unit->Sem (ForInStep (Option PySem.Fin × Unit)):=fun i _=>match xs[i]? with
 | some y=>do
   let b ← eqBool y x
   if b=true then do
    let r ← retInt (i:Int)
    pure (ForInStep.done (some r,()))
    else pure (ForInStep.yield (none,()))
 | _=>pure (ForInStep.yield (none,()))
theorem idx_loop {xs:Array Value} {x:Value} {e:Value->Bool} (he:∀ y ∈ xs,SeqAt.EqAt A s y x (e y)) {j:Nat} (hj:j < xs.size) (ej:e xs[j]=true) (bf:∀ (m:Nat) (hm:m < xs.size),m < j->e xs[m]=false) {Q:Option PySem.Fin × Unit->Shared->Prop}
 (q:Q (some (.done (.ret (.int (j:Int) s.toks))),()) { s with toks:=s.toks+1 }):∀ (n k:Nat),k<=j->j < k+n->k+n<=xs.size->wpAny (model prog w) A (forIn (List.range' k n 1) ((none:Option PySem.Fin),()) (idxF xs x)) Q E s
 | 0,k,h1,h2,_=>absurd h2 (by omega)
 | n+1,k,h1,h2,h3=>by
   have hk:k < xs.size:=by omega
   rw [List.range'_succ,List.forIn_cons]
   refine wpAny_bind ?_
   have e1:idxF xs x k ((none:Option PySem.Fin),())=(do
    let b ← eqBool xs[k] x
    if b=true then do
     let r ← retInt (k:Int)
     pure (ForInStep.done (some r,()))
     else pure (ForInStep.yield (none,()))):=by
    unfold idxF
    rw [Array.getElem?_eq_getElem hk]
   rw [e1]
   refine wpAny_bind (he _ (Array.getElem_mem hk) prog w _ _ ?_)
   by_cases c:k=j
   . subst c
     rw [ej]
     refine wpAny_ite_split (fun _=>?_) (fun hab=>absurd rfl hab)
     refine wpAny_bind ?_
     refine wpAny_bind (wpAny_mkInt ?_)
     refine wpAny_pure ?_
     refine wpAny_pure ?_
     exact wpAny_pure q
   . rw [bf k hk (by omega)]
     refine wpAny_ite_split (fun hab=>absurd hab (by decide)) (fun _=>?_)
     refine wpAny_pure ?_
     exact idx_loop he hj ej bf q n (k+1) (by omega) (by omega) (by omega)
theorem meets_tupIndex (l:Addr) (items:Array Value) (n:Nat) (dd:Option Addr) (sl:Array (Option Value)) (x:Value) (e:Value->Bool) (j:Nat) (hj:j < items.size) (ej:e items[j]=true) (bf:∀ (m:Nat) (hm:m < items.size),m < j->e items[m]=false) :
 Meets (Builtin.«tuple.index» { pos:=[.ref l,x] }) fun A R s=>s.heap.get? l=some { cls:=.type "tuple", dict:=dd,data:=.seq items n,slots:=sl }/\(∀ y ∈ items,SeqAt.EqAt A.in1 s y x (e y))/\R (.ok (.ret (.int (j:Int) s.toks))) { s with toks:=s.toks+1 }:=by
 intro prog w A R s ⟨hl,he,q⟩
 unfold Builtin.«tuple.index»
 refine wpAny_bind (wpAny_of_eq (a:=(Value.ref l,[x])) rfl ?_)
 refine wpAny_bind (wpAny_tupleItemsOf hl rfl ?_)
 refine wpAny_bind (wpAny_pure ?_)
 refine wpAny_bind (wpAny_pure ?_)
 refine wpAny_bind ?_
 rw [Std.Legacy.Range.forIn_eq_forIn_range']
 have e1:Std.Legacy.Range.size [0:min items.size items.size]=items.size:=by simp [Std.Legacy.Range.size]
 rw [e1]
 refine idx_loop he hj ej bf ?_ items.size 0 (Nat.zero_le _) (by omega) (by omega)
 exact wpAny_pure q
end
section
variable {X:Cx}
def cp (z:Str):List Str->Option Nat
 | []=>none
 | a::r=>if a=z then some 0 else (cp z r).map (·+1)
theorem posOf_lt {z:Str}:∀ {ns:List Str} {j:Nat},cp z ns=some j->ns[j]?=some z/\∀ m,m < j->∀ y,ns[m]?=some y->y ≠ z
 | [],_,h=>by simp [cp] at h
 | a::r,j,h=>by
   unfold cp at h
   by_cases c:a=z
   . rw [if_pos c] at h
     cases h
     exact ⟨by simp [c],fun m hm=>absurd hm (by omega)⟩
   . rw [if_neg c] at h
     obtain ⟨i,hi,rfl⟩:=Option.map_eq_some_iff.mp h
     obtain ⟨h1,h2⟩:=posOf_lt hi
     refine ⟨by simpa using h1,fun m hm y hy=>?_⟩
     cases m with
     | zero=>cases (Option.some.inj hy); exact c
     | succ m=>exact h2 m (by omega) y (by simpa using hy)
theorem strs_get:∀ {bs:List Str} {us:List Value} {i:Nat} {v:Value},Vals (bs.map V.str) us->us[i]?=some v->∃ b t,bs[i]?=some b/\v=.str b t
 | [],_,_,_,.nil,h=>by simp at h
 | b::_,_,0,_,.cons r _,h=>by
   simp at h
   subst h
   obtain ⟨t,e⟩:=r
   exact ⟨b,t,rfl,e⟩
 | _::_,_,i+1,_,.cons _ t,h=>by
   obtain ⟨b,t,h1,h2⟩:=strs_get (i:=i) t (by simpa using h)
   exact ⟨b,t,by simpa using h1,h2⟩
theorem flat_strs (ns:List Str):(ns.map V.str).all flatV=true:=by
 induction ns with
 | nil=>rfl
 | cons a r ih=>rw [List.map_cons,List.all_cons,ih]; rfl
theorem index_facts {ns:List Str} {its:List Value} {z:Str} {j:Nat} (r:Vals (ns.map V.str) its) (h:cp z ns=some j) :
 ∃ hj:j < its.toArray.size,eqU (.str z) its.toArray[j]=true/\∀ (m:Nat) (hm:m < its.toArray.size),m < j->eqU (.str z) its.toArray[m]=false:=by
 obtain ⟨h1,h2⟩:=posOf_lt h
 have hl:=r.length
 rw [List.length_map] at hl
 have jl:j < ns.length:=(List.getElem?_eq_some_iff.mp h1).1
 have hj:j < its.toArray.size:=by rw [List.size_toArray,← hl]; exact jl
 refine ⟨hj,?_,fun m hm mj=>?_⟩
 . obtain ⟨b,t,e1,e2⟩:=strs_get r (i:=j) (v:=its.toArray[j]) (by simp)
   rw [e2]
   rw [h1] at e1
   cases e1
   show (z == z)=true
   simp
 . obtain ⟨b,t,e1,e2⟩:=strs_get r (i:=m) (v:=its.toArray[m]) (by simp)
   rw [e2]
   show (b == z)=false
   have:=h2 m mj b e1
   simpa using this
def rIndexT (K:W.Frag):V->List V->Hp->VK->Prop:=fun x vs H Q=>∃ (a:Addr) (ns:List Str) (z:Str) (j:Nat),x=.ref a/\vs=[.str z]/\SqT K H a (ns.map V.str)/\cp z ns=some j/\Q (.int (j:Int)) H
theorem mt_indexT:MtR X "tuple.index" (rIndexT X.K):=by
 intro pins s σ H x vs v us Q I rx rv h
 obtain ⟨a,ns,z,j,rfl,rfl,hq,hp,q⟩:=h
 cases rx
 obtain ⟨u,rfl,ru⟩:=rv.one
 obtain ⟨its,r,⟨⟨cls,dd,data,sl⟩,ho,hc,n,hd⟩,hz⟩:=I.tuple hq
 simp only at hc hd
 subst hc hd
 obtain ⟨hj,e1,e2⟩:=index_facts r hp
 refine call_meets F.slot_tuple_index ⟨_,ho,rfl⟩ F.entry_tuple_index (F.args_tuple_index_2 _ _) (meets_tupIndex a its.toArray n dd sl u (eqU (.str z)) j hj e1 e2) ⟨ho,fun y hy=>?_,?_⟩
 . exact mem_eqAt ru rfl r (flat_strs ns) y (by simpa using hy)
 . exact ⟨.int (j:Int),H,I.tok _,⟨_,rfl⟩,q⟩
def rIndexL (K:W.Frag):V->List V->Hp->VK->Prop:=fun x vs H Q=>∃ (a:Addr) (ns:List Str) (z:Str) (j:Nat),x=.ref a/\vs=[.str z]/\SqL K H a (ns.map V.str)/\cp z ns=some j/\Q (.int (j:Int)) H
theorem mt_indexL:MtR X "list.index" (rIndexL X.K):=by
 intro pins s σ H x vs v us Q I rx rv h
 obtain ⟨a,ns,z,j,rfl,rfl,hq,hp,q⟩:=h
 cases rx
 obtain ⟨u,rfl,ru⟩:=rv.one
 obtain ⟨its,r,⟨⟨cls,dd,data,sl⟩,n,ho,hc,hdd,hd⟩,hz⟩:=I.list hq
 simp only at hc hd
 subst hc hd
 obtain ⟨hj,e1,e2⟩:=index_facts r hp
 have h63:=line63
 have hl:=r.length
 refine call_meets F.slot_list_index ⟨_,ho,rfl⟩ F.entry_list_index (F.args_list_index_2 _ _) (SeqAt.list_indexAt a its.toArray n dd sl u (eqU (.str z)) j hj (by rw [List.size_toArray] at hj; omega) e1 e2) ⟨ho,fun y hy=>?_,?_⟩
 . exact mem_eqAt ru rfl r (flat_strs ns) y (by simpa using hy)
 . exact ⟨.int (j:Int),H,I.tok _,⟨_,rfl⟩,q⟩
end
section
variable {κ:Type} [DecidableEq κ]
def cw (kvs:List (κ × V)) (k:κ):Option V:=(kvs.find? fun kv=>decide (kv.1=k)).map (·.2)
def putK (kvs:List (κ × V)) (k:κ) (v:V):List (κ × V) :=
 if (kvs.any fun kv=>decide (kv.1=k))=true then kvs.map (fun kv=>if kv.1=k then (kv.1,v) else kv) else kvs++[(k,v)]
theorem cu {p:κ × V} {r:List (κ × V)} {k:κ} (e:p.1=k):cw (p::r) k=some p.2:=by simp [cw,List.find?_cons,e]
theorem cv {p:κ × V} {r:List (κ × V)} {k:κ} (e:¬ p.1=k):cw (p::r) k=cw r k:=by simp [cw,List.find?_cons,e]
theorem valV_any (k:κ):∀ kvs:List (κ × V),(kvs.any fun kv=>decide (kv.1=k))=(cw kvs k).isSome
 | []=>rfl
 | p::r=>by
   rw [List.any_cons]
   by_cases e:p.1=k
   . simp only [cu e,decide_eq_true e,Bool.true_or,Option.isSome_some]
   . rw [cv e,decide_eq_false e,Bool.false_or]; exact valV_any k r
theorem valV_map (k j:κ) (y:V):∀ kvs:List (κ × V),cw (kvs.map fun kv=>if kv.1=k then (kv.1,y) else kv) j=(cw kvs j).map fun x=>if j=k then y else x
 | []=>rfl
 | p::r=>by
   have ih:=valV_map k j y r
   rw [List.map_cons]
   by_cases h:p.1=k
   . rw [if_pos h]
     by_cases e:p.1=j
     . rw [cu (p:=(p.1,y)) e,cu e,Option.map_some,if_pos (e.symm.trans h)]
     . rw [cv (p:=(p.1,y)) e,cv e,ih]
   . rw [if_neg h]
     by_cases e:p.1=j
     . rw [cu (p:=p) e,cu e,Option.map_some,if_neg (fun z=>h (e.trans z))]
     . rw [cv (p:=p) e,cv e,ih]
theorem valV_snoc (k j:κ) (y:V):∀ kvs:List (κ × V),cw kvs k=none->cw (kvs++[(k,y)]) j=if j=k then some y else cw kvs j
 | [],_=>by
   by_cases e:k=j
   . rw [if_pos e.symm]; exact cu (p:=(k,y)) e
   . rw [if_neg (fun z=>e z.symm)]; exact cv (p:=(k,y)) e
 | p::r,hn=>by
   rw [List.cons_append]
   have hk:¬ p.1=k:=fun z=>by rw [cu z] at hn; cases hn
   rw [cv hk] at hn
   have ih:=valV_snoc k j y r hn
   by_cases e:p.1=j
   . rw [cu e,cu e,if_neg (fun z=>hk (e.trans z))]
   . rw [cv e,cv e,ih]
theorem valV_put (kvs:List (κ × V)) (k j:κ) (y:V):cw (putK kvs k y) j=if j=k then some y else cw kvs j:=by
 unfold putK
 by_cases a:(kvs.any fun kv=>decide (kv.1=k))=true
 . rw [if_pos a,valV_map]
   rw [valV_any] at a
   by_cases e:j=k
   . obtain ⟨x,hx⟩:=Option.isSome_iff_exists.mp a
     rw [if_pos e,e,hx,Option.map_some,if_pos rfl]
   . rw [if_neg e]
     cases cw kvs j with
     | none=>rfl
     | some x=>rw [Option.map_some,if_neg e]
 . rw [if_neg a]
   refine valV_snoc k j y kvs ?_
   rw [valV_any] at a
   cases q:cw kvs k with
   | none=>rfl
   | some x=>rw [q] at a; exact (a rfl).elim
theorem length_putK (kvs:List (κ × V)) (k:κ) (v:V):(putK kvs k v).length<=kvs.length+1:=by
 unfold putK
 split
 . rw [List.length_map]; omega
 . rw [List.length_append,List.length_cons,List.length_nil]; omega
theorem RelO.isSome_eq {o:Option V} {u:Option Value} (r:RelO o u):o.isSome=u.isSome:=by
 cases o with
 | none=>cases u with
   | none=>rfl
   | some _=>exact (show False from r).elim
 | some _=>cases u with
   | none=>exact (show False from r).elim
   | some _=>rfl
theorem RelO.getD {o:Option V} {u:Option Value} {d:V} {d':Value} (r:RelO o u) (rd:RelV d d'):RelV (o.getD d) (u.getD d'):=by
 cases o with
 | none=>cases u with
   | none=>exact rd
   | some _=>exact (show False from r).elim
 | some _=>cases u with
   | none=>exact (show False from r).elim
   | some _=>exact r
theorem KV.val {kvs:List (κ × V)} {vs:List (κ × Value)} (r:KV kvs vs) (k:κ):RelO (cw kvs k) (valueAt vs k):=by
 unfold KV at r
 induction r with
 | nil=>exact True.intro
 | @cons p q ps qs h t ih =>
   obtain ⟨h1,h2⟩:=h
   by_cases e:p.1=k
   . have e':q.1=k:=h1.symm.trans e
     have b:valueAt (q::qs) k=some q.2:=by simp [valueAt,List.find?_cons,e']
     rw [cu e,b]; exact h2
   . have e':¬ q.1=k:=fun z=>e (h1.trans z)
     have b:valueAt (q::qs) k=valueAt qs k:=by simp [valueAt,List.find?_cons,e']
     rw [cv e,b]; exact ih
theorem KV.any {kvs:List (κ × V)} {vs:List (κ × Value)} (r:KV kvs vs) (k:κ):(kvs.any fun kv=>decide (kv.1=k))=vs.any fun kv=>decide (kv.1=k):=by
 unfold KV at r
 induction r with
 | nil=>rfl
 | cons h t ih=>rw [List.any_cons,List.any_cons,ih,h.1]
theorem KV.repl {kvs:List (κ × V)} {vs:List (κ × Value)} (r:KV kvs vs) (k:κ) {y:V} {u:Value} (ry:RelV y u) :
 KV (kvs.map fun kv=>if kv.1=k then (kv.1,y) else kv) (vs.map fun kv=>if kv.1=k then (kv.1,u) else kv):=by
 unfold KV at r ⊢
 induction r with
 | nil=>exact .nil
 | @cons p q ps qs h t ih =>
   rw [List.map_cons,List.map_cons]
   refine .cons ?_ ih
   obtain ⟨h1,h2⟩:=h
   by_cases e:p.1=k
   . rw [if_pos e,if_pos (h1.symm.trans e)]; exact ⟨h1,ry⟩
   . rw [if_neg e,if_neg (fun z=>e (h1.trans z))]; exact ⟨h1,h2⟩
theorem KV.put {kvs:List (κ × V)} {vs:List (κ × Value)} (r:KV kvs vs) (k:κ) {y:V} {u:Value} (ry:RelV y u):KV (putK kvs k y) (stored vs k u):=by
 unfold putK stored
 rw [r.any k]
 by_cases e:(vs.any fun kv=>decide (kv.1=k))=true
 . rw [if_pos e,if_pos e]; exact r.repl k ry
 . rw [if_neg e,if_neg e]; exact Paired.snoc r ⟨rfl,ry⟩
theorem KV.length {kvs:List (κ × V)} {vs:List (κ × Value)} (r:KV kvs vs):kvs.length=vs.length:=Paired.length r
end
theorem kV_is {P:Program} {w:World} {k:Key} {u:Value} (r:RelV (kV k) u):(bc P w).is k u=true:=by
 cases k with
 | inl i=>obtain ⟨t,e⟩:=(show ∃ t,u=Value.int i t from r); subst e; exact mixKind_int P w i t
 | inr x=>obtain ⟨t,e⟩:=(show ∃ t,u=Value.str x t from r); subst e; exact mixKind_str P w x t
theorem items_are {P:Program} {w:World}:∀ {ks:List Key} {us:List Value},Vals (ks.map kV) us->ItemsAre (bc P w) ks us
 | [],_,r=>by rw [List.map_nil] at r; cases r; exact .nil
 | k::ks,_,r=>by
   rw [List.map_cons] at r
   cases r with
   | cons h t=>exact .cons (kV_is h) (items_are t)
abbrev KT (H:Hp):List (List Key × V)->List (List Key × Addr × Value)->Prop:=Paired fun p q=>p.1=q.1/\H q.2.1=some (.tup (p.1.map kV))/\RelV p.2 q.2.2
theorem KT.val {H:Hp} {kvs:List (List Key × V)} {xs:List (List Key × Addr × Value)} (r:KT H kvs xs) (k:List Key):RelO (cw kvs k) ((atKey xs k).map (·.2)):=by
 induction r with
 | nil=>exact True.intro
 | @cons p q ps qs h t ih =>
   obtain ⟨h1,_,h2⟩:=h
   by_cases e:p.1=k
   . have e':q.1=k:=h1.symm.trans e
     have b:atKey (q::qs) k=some q.2:=by simp [atKey,List.find?_cons,e']
     rw [cu e,b]; exact h2
   . have e':¬ q.1=k:=fun z=>e (h1.trans z)
     have b:atKey (q::qs) k=atKey qs k:=by simp [atKey,List.find?_cons,e']
     rw [cv e,b]; exact ih
theorem KT.repl {H:Hp} {kvs:List (List Key × V)} {xs:List (List Key × Addr × Value)} (r:KT H kvs xs) (k:List Key) {y:V} {u:Value} (ry:RelV y u) :
 KT H (kvs.map fun kv=>if kv.1=k then (kv.1,y) else kv) (xs.map (putAt k u)):=by
 induction r with
 | nil=>exact .nil
 | @cons p q ps qs h t ih =>
   rw [List.map_cons,List.map_cons]
   refine .cons ?_ ih
   obtain ⟨h1,h2,h3⟩:=h
   unfold putAt
   by_cases e:p.1=k
   . rw [if_pos e,if_pos (h1.symm.trans e)]; exact ⟨h1,h2,ry⟩
   . rw [if_neg e,if_neg (fun z=>e (h1.trans z))]; exact ⟨h1,h2,h3⟩
theorem KT.put {H:Hp} {kvs:List (List Key × V)} {xs:List (List Key × Addr × Value)} (r:KT H kvs xs) (k:List Key) {b:Addr} {y:V} {u:Value} (hb:H b=some (.tup (k.map kV))) (ry:RelV y u) :
 KT H (putK kvs k y) (storedH xs k b u):=by
 have e:(kvs.any fun kv=>decide (kv.1=k))=(atKey xs k).isSome:=by
  rw [valV_any,(r.val k).isSome_eq,Option.isSome_map]
 unfold putK storedH
 rw [e]
 by_cases q:(atKey xs k).isSome=true
 . rw [if_pos q,if_pos q]; exact r.repl k ry
 . rw [if_neg q,if_neg q]; exact Paired.snoc r ⟨rfl,hb,ry⟩
theorem KT.keeps {H H':Hp} {kvs:List (List Key × V)} {xs:List (List Key × Addr × Value)} (r:KT H kvs xs) (ht:∀ b ys,H b=some (.tup ys)->H' b=some (.tup ys)):KT H' kvs xs :=
 Paired.mapP r fun _ _ z=>⟨z.1,ht _ _ z.2.1,z.2.2⟩
section
variable {P:Program} {w:World} {H:Hp} {h:Heap} {a:Addr}
theorem rd_of {u:HO} (ok:HOk P w H h) (e:Rd H a u):ObjOk P w H h a u:=e.ok ok
theorem dk_rd {kvs:List (Key × V)} (ok:HOk P w H h) (e:Rd H a (.dK kvs)):kvs.length<=sizeLine/\(a == sysModules)=false/\∃ vs,KV kvs vs/\h.DictOf (bc P w) a vs :=
 show ObjOk P w H h a (.dK kvs) from rd_of ok e
theorem dk_of {kvs:List (Key × V)} (ok:HOk P w H h) (e:H a=some (.dK kvs)):kvs.length<=sizeLine/\(a == sysModules)=false/\∃ vs,KV kvs vs/\h.DictOf (bc P w) a vs:=dk_rd ok (.inl e)
theorem key_of {ks:List Key} (ok:HOk P w H h) (e:H a=some (.tup (ks.map kV))):(tupleKind (bc P w)).is h ks a:=by
 obtain ⟨_,its,r,⟨o,h1,h2,n,h3⟩,_⟩:=(show ObjOk P w H h a (.tup (ks.map kV)) from ok a _ e)
 exact ⟨o,its.toArray,n,h1,h2,h3,by simpa using items_are r⟩
theorem dt_rd {kvs:List (List Key × V)} (ok:HOk P w H h) (e:Rd H a (.dT kvs)):kvs.length<=sizeLine/\(a == sysModules)=false /\
 ∃ xs,KT H kvs xs/\h.DictOfH (tupleKind (bc P w)) a xs:=by
 obtain ⟨z,y,xs,r,o,es,ep,h1,h2,h3,h4,h5⟩:=(show ObjOk P w H h a (.dT kvs) from rd_of ok e)
 refine ⟨z,y,xs,r,o,es,ep,h1,h2,h3,h4,fun x hx=>?_,h5⟩
 have all:∀ {l:List (List Key × V)} {m:List (List Key × Addr × Value)},KT H l m->∀ x ∈ m,(tupleKind (bc P w)).is h x.1 x.2.1:=by
  intro l m q
  induction q with
  | nil=>intro x hx; exact nomatch hx
  | @cons p q ps qs hq t ih =>
    intro x hx
    rcases List.mem_cons.mp hx with e | hx
    . subst e
      exact key_of ok (by rw [← hq.1]; exact hq.2.1)
    . exact ih x hx
 exact all r x hx
theorem dt_of {kvs:List (List Key × V)} (ok:HOk P w H h) (e:H a=some (.dT kvs)):kvs.length<=sizeLine/\(a == sysModules)=false /\
 ∃ xs,KT H kvs xs/\h.DictOfH (tupleKind (bc P w)) a xs:=dt_rd ok (.inl e)
end
def DGet (H:Hp) (a:Addr) (y:V) (r:Option V):Prop :=
 (∃ kvs k,Rd H a (.dK kvs)/\y=kV k/\r=cw kvs k)∨∃ kvs k b,Rd H a (.dT kvs)/\y=.ref b/\H b=some (.tup (k.map kV))/\r=cw kvs k
def DPut (H:Hp) (a:Addr) (y v:V) (H':Hp):Prop :=
 (∃ kvs k,H a=some (.dK kvs)/\y=kV k/\kvs.length < sizeLine/\H'=upd H a (.dK (putK kvs k v))) ∨
 ∃ kvs k b,H a=some (.dT kvs)/\y=.ref b/\H b=some (.tup (k.map kV))/\kvs.length < sizeLine/\H'=upd H a (.dT (putK kvs k v))
theorem DGet.k {H:Hp} {a:Addr} {kvs:List (Key × V)} {k:Key} (e:H a=some (.dK kvs)):DGet H a (kV k) (cw kvs k):=.inl ⟨kvs,k,.inl e,rfl,rfl⟩
theorem DPut.k {H:Hp} {a:Addr} {kvs:List (Key × V)} {k:Key} {v:V} (e:H a=some (.dK kvs)) (hl:kvs.length < sizeLine):DPut H a (kV k) v (upd H a (.dK (putK kvs k v))):=.inl ⟨kvs,k,e,rfl,hl,rfl⟩
section
variable {X:Cx} {pins:List (Addr × Obj)} {σ:St} {H:Hp} {s:Shared} {a:Addr} {y v:V} {u r:Value} {o:Option V} {A:Around} {E:Value->Shared->Prop}
theorem Inv.big (I:Inv X pins σ H s):sysModules < s.heap.objs.size:=by
 have h:mainGlobals < s.heap.objs.size:=(I.mod.glob.keeps I.bk).lt
 exact Nat.lt_trans (by decide) h
theorem d_getItem {Q:Value->Shared->Prop} (hu:A.units+1 < cLine) (I:Inv X pins σ H s) (g:DGet H a y (some v)) (ry:RelV y u) (h:∀ w' s',Inv X pins σ H s'->RelV v w'->Q w' s') :
 wpAny (model X.prog X.w) A (getItem (.ref a) u) Q E s:=by
 rcases g with ⟨kvs,k,e,ey,l⟩ | ⟨kvs,k,b,e,ey,eb,l⟩
 . subst ey
   obtain ⟨z,hd,vs,rel,dd⟩:=dk_rd I.hok e
   obtain ⟨w',hw,rw'⟩:=RelO.some_of (v:=v) (o:=valueAt vs k) (by rw [l]; exact rel.val k)
   exact wpAny_getItem_of (kV_is ry) dd.mapOf hw (h w' _ (I.tok _) rw')
 . subst ey
   cases (show u=Value.ref b from ry)
   obtain ⟨z,hd,xs,rel,dd⟩:=dt_rd I.hok e
   obtain ⟨w',hw,rw'⟩:=RelO.some_of (v:=v) (o:=(atKey xs k).map (·.2)) (by rw [l]; exact rel.val k)
   obtain ⟨p,hp,hp2⟩:=Option.map_eq_some_iff.mp hw
   refine wpAny_getItem_heap (tupleKind_room_in1 hu) (key_of I.hok eb) dd hp ?_
   rw [hp2]
   exact h w' _ (I.tok _) rw'
theorem d_write {h':Heap} {t':Nat} {ob:HO} (I:Inv X pins σ H s) (mu:Mut (H a)) (hs:Heap.SameBut a s.heap h') (he:∃ q,h'.get? a=some q) (new:ObjOk X.prog X.w (upd H a ob) h' a ob) :
 Inv X pins σ (upd H a ob) { s with heap:=h',toks:=t' } :=
 I.write (x:=a) (e:=a) mu (.inl rfl) (fun b q hb z=>(hs.2 b hb).trans z) he new
theorem dk_new {P:Program} {w:World} {H':Hp} {h':Heap} {kvs:List (Key × V)} {vs:List (Key × Value)} (z:kvs.length<=sizeLine) (hd:(a == sysModules)=false) (rel:KV kvs vs) (dd:h'.DictOf (bc P w) a vs) :
 ObjOk P w H' h' a (.dK kvs):=⟨z,hd,vs,rel,dd⟩
theorem d_setItem {H':Hp} {Q:Unit->Shared->Prop} (hu:A.units+1 < cLine) (I:Inv X pins σ H s) (g:DPut H a y v H') (ry:RelV y u) (rv:RelV v r) (h:∀ s',Inv X pins σ H' s'->Q () s') :
 wpAny (model X.prog X.w) A (setItem (.ref a) u r) Q E s:=by
 rcases g with ⟨kvs,k,e,ey,l,eH⟩ | ⟨kvs,k,b,e,ey,eb,l,eH⟩
 . subst ey eH
   obtain ⟨z,hd,vs,rel,dd⟩:=dk_of I.hok e
   have hz:vs.length<=sizeLine:=by rw [← rel.length]; exact z
   have hl:(putK kvs k v).length<=sizeLine:=by have:=length_putK kvs k v; omega
   refine wpAny_setItem_pairs (hsz:=hz) (kV_is ry) dd fun h' dd' hs=>h _ ?_
   have he:∃ q,h'.get? a=some q:=let ⟨q,_,_,hq,_⟩:=dd'; ⟨q,hq⟩
   exact d_write I (by rw [e]; exact True.intro) hs he (dk_new hl hd (rel.put k rv) dd')
 . subst ey eH
   cases (show u=Value.ref b from ry)
   obtain ⟨z,hd,xs,rel,dd⟩:=dt_of I.hok e
   have hz:xs.length<=sizeLine:=by rw [← Paired.length rel]; exact z
   have hl:(putK kvs k v).length<=sizeLine:=by have:=length_putK kvs k v; omega
   refine wpAny_setItem_heap (hsz:=hz) (tupleKind_room_in1 hu) (key_of I.hok eb) dd fun h' dd' hs=>h _ ?_
   obtain ⟨q,es,ep,hq,h2,h3,h4,_,h5⟩:=dd'
   refine d_write I (by rw [e]; exact True.intro) hs ⟨q,hq⟩ ⟨hl,hd,_,(rel.put k eb rv).keeps fun c ys ec=>?_,q,es,ep,hq,h2,h3,h4,h5⟩
   rw [au (ne_of ec e (fun z=>nomatch z))]
   exact ec
end
def NoSl (i:Expr):Prop:=∀ ov iv,subscripted i false ov iv=operate [ov,iv] (getItem ov iv)
theorem subD_of {prog:Program} {w:World} {A:Around} {E:Value->Shared->Prop} {s:Shared} {env:Env} {value slice:Expr} {pos:Pos} {T id:String} {Q:Value->Shared->Prop}
 (hl:typeLookup (.type T) "__getitem__" = pure (some (.builtin id))) (hs:NoSl slice)
 (h:wpAny (model prog w) A (eval value env) (fun o s₁=>wpAny (model prog w) A (eval slice env) (fun i s₂=>s₂.TypeIs o T/\wpAny (model prog w) A (getItem o i) Q E s₂) E s₁) E s) :
 wpAny (model prog w) A (eval (.Subscript value slice pos) env) Q E s:=by
 refine Subscript_ (wpAny_mono h (fun o s₁ h₁=>wpAny_mono h₁ (fun i s₂ h₂=>?_) fun _ _ x=>x) fun _ _ x=>x)
 obtain ⟨hT,h₂⟩:=h₂
 unfold subscriptTail
 refine wpAny_bind ?_
 rw [getitemInPython_of_ne hT.not_modules]
 refine wpAny_bind (wpAny_specialOf hT hl ?_)
 have fin:wpAny (model prog w) A (subscripted slice false o i) (fun r s₃=>wpAny (model prog w) A (letTemporaryGo value o r >>= fun _=>pure r) Q E s₃) E s₂:=by
  rw [hs o i]
  exact wpAny_operating (wpAny_mono h₂ (fun r s₃ h₃=>wpAny_bind (wpAny_letTemporaryGo (wpAny_pure h₃))) fun _ _ x=>x)
 first
  | exact wpAny_pure (wpAny_bind fin)
  | exact wpAny_bind (wpAny_pure (wpAny_bind fin))
  | exact wpAny_bind fin
theorem dict_typeIs {X:Cx} {pins:List (Addr × Obj)} {σ:St} {H:Hp} {s:Shared} {a:Addr} {y:V} {o:Option V} (I:Inv X pins σ H s) (g:DGet H a y o):s.TypeIs (.ref a) "dict" := by
 rcases g with ⟨kvs,k,e,_,_⟩ | ⟨kvs,k,b,e,_,_,_⟩
 . obtain ⟨_,_,vs,_,dd⟩:=dk_rd I.hok e
   exact dd.typeIs
 . obtain ⟨_,_,xs,_,dd⟩:=dt_rd I.hok e
   exact dd.typeIs
def tDGet (td ty:TE):TE:=fun σ H Q=>td σ H fun x H1=>ty σ H1 fun y H2=>∃ a v,x=.ref a/\DGet H2 a y (some v)/\Q v H2
def sDPut (td ty tv:TE):TS:=fun D σ H=>tv σ H fun v H1=>td σ H1 fun x H2=>ty σ H2 fun y H3=>∃ a H4,x=.ref a/\DPut H3 a y v H4/\D.nx σ H4
section
variable {X:Cx} {o i e value:Expr} {pos pos' tpos:Pos} {td ty tv:TE}
theorem pe_dget (hu:X.A.units+1 < cLine) (ho:PE X o td) (hi:PE X i ty) (hs:NoSl i):PE X (.Subscript o i pos) (tDGet td ty):=by
 intro pins s σ H Q I h
 refine subD_of PySem.F.slot_dict_getitem.lookup hs (thn (ho pins s σ H _ I h) fun u s1 ⟨x,H1,I1,rx,q1⟩=>thn (hi pins s1 σ H1 _ I1 q1) fun iv s2 ⟨y,H2,I2,ry,a,v,ex,g,q2⟩=>?_)
 subst ex
 obtain rfl:u=Value.ref a:=rx
 exact ⟨dict_typeIs I2 g,d_getItem hu I2 g ry fun w' s3 I3 rw'=>⟨v,H2,I3,rw',q2⟩⟩
theorem ps_dput (hu:X.A.units+1 < cLine) (ho:PE X o td) (hi:PE X i ty) (hv:PE X value tv) (hs:swapsWith value (some (.Subscript o i pos')) pos.line X.env=pure false) :
 PS X (.Assign [.Subscript o i pos'] value pos) (sDPut td ty tv):=by
 intro pins s σ H D I h
 refine wpAny_Assign_Subscript (thn (hv pins s σ H _ I h) fun r s1 ⟨v,H1,I1,rv,q1⟩=>thn (ho pins s1 σ H1 _ I1 q1) fun u s2 ⟨x,H2,I2,rx,q2⟩=>thn (hi pins s2 σ H2 _ I2 q2) fun iv s3 ⟨y,H3,I3,ry,a,H4,ex,g,q3⟩=>?_) hs
 subst ex
 obtain rfl:u=Value.ref a:=rx
 exact d_setItem hu I3 g ry rv fun s4 I4=>⟨σ,H4,I4,q3⟩
end
theorem dk_empty {P:Program} {w:World} {H:Hp} (h:Heap) (hb:sysModules < h.objs.size):ObjOk P w H (h.push { cls:=.type "dict", data:=.dict #[] }) h.objs.size (.dK []) :=
 ⟨Nat.zero_le _,beq_eq_false_iff_ne.mpr (Ne.symm (Nat.ne_of_lt hb)),[],.nil,Heap.DictOf.new h⟩
def tDNewK:TE:=fun _ H Q=>∀ p,H p=none->Q (.ref p) (upd H p (.dK []))
section
variable {X:Cx} {pos:Pos}
theorem pe_dnewK:PE X (.Dict [] [] pos) tDNewK:=fun pins s σ H Q I h =>
 wpAny_Dict_empty ⟨.ref s.heap.objs.size,_,I.laid (a:=s.heap.objs.size) (o:=.dK []) (t':=s.toks) (fun _ _ q=>Heap.get?_push_of_some _ q) (Nat.le_refl _) (dk_empty s.heap I.big),rfl,h _ (I.hok.fresh (Nat.le_refl _))⟩
end
def tPairs:List (TE × TE)->St->Hp->(List (V × V)->Hp->Prop)->Prop
 | [],_,H,Q=>Q [] H
 | (tk,tv)::r,σ,H,Q=>tk σ H fun x H1=>tv σ H1 fun y H2=>tPairs r σ H2 fun ps H3=>Q ((x,y)::ps) H3
abbrev VV:List (V × V)->List (Value × Value)->Prop:=Paired fun p q=>RelV p.1 q.1/\RelV p.2 q.2
def PPs (X:Cx) (pos:Pos) (keys:List (Option Expr)) (values:List Expr) (trs:List (TE × TE)):Prop :=
 ∀ (pins:List (Addr × Obj)) (s:Shared) (σ:St) (H:Hp) (Q:List (V × V)->Hp->Prop),Inv X pins σ H s->tPairs trs σ H Q ->
  wpAny (model X.prog X.w) X.A (evalPairs (pairTrees keys values X.env pos)) (fun vs s'=>∃ ps H',Inv X pins σ H' s'/\VV ps vs/\Q ps H') X.xe s
theorem pps_nil {X:Cx} {pos:Pos}:PPs X pos [] [] []:=fun pins s σ H Q I h=>pairTrees_nil_walk ⟨[],H,I,.nil,h⟩
theorem pps_cons {X:Cx} {pos:Pos} {k v:Expr} {ks:List (Option Expr)} {vs:List Expr} {tk tv:TE} {trs:List (TE × TE)} (hk:PE X k tk) (hv:PE X v tv) (hr:PPs X pos ks vs trs) :
 PPs X pos (some k::ks) (v::vs) ((tk,tv)::trs):=fun pins s σ H Q I h =>
 pairTrees_cons_walk (thn (hk pins s σ H _ I h) fun u s1 ⟨x,H1,I1,rx,q1⟩=>thn (hv pins s1 σ H1 _ I1 q1) fun w2 s2 ⟨y,H2,I2,ry,q2⟩ =>
  thn (hr pins s2 σ H2 _ I2 q2) fun ws s3 ⟨ps,H3,I3,rel,q3⟩=>⟨(x,y)::ps,H3,I3,.cons ⟨rx,ry⟩ rel,q3⟩)
def mergeK (kvs more:List (Key × V)):List (Key × V):=more.foldl (fun acc kv=>putK acc kv.1 kv.2) kvs
theorem KV.merge:∀ {more:List (Key × V)} {rs:List (Key × Value)} {kvs:List (Key × V)} {vs:List (Key × Value)},KV more rs->KV kvs vs->KV (mergeK kvs more) (merged vs rs):=by
 intro more rs kvs vs r
 unfold KV at r
 induction r generalizing kvs vs with
 | nil=>intro q; exact q
 | @cons p q ps qs h t ih =>
   intro r0
   have e:KV (putK kvs p.1 p.2) (stored vs q.1 q.2):=by
    have:=r0.put p.1 h.2
    rw [← h.1]; exact this
   exact ih e
theorem length_mergeK:∀ (more kvs:List (Key × V)),(mergeK kvs more).length<=kvs.length+more.length
 | [],kvs=>by show kvs.length<=kvs.length+0; omega
 | p::r,kvs=>by
   have h1:=length_mergeK r (putK kvs p.1 p.2)
   have h2:=length_putK kvs p.1 p.2
   show (mergeK (putK kvs p.1 p.2) r).length<=_
   rw [List.length_cons]; omega
theorem carries_of {P:Program} {w:World}:∀ {kvs:List (Key × V)} {ws:List (Value × Value)},VV (kvs.map fun kv=>(kV kv.1,kv.2)) ws->∃ rs,Carries (bc P w) ws rs/\KV kvs rs
 | [],_,r=>by rw [List.map_nil] at r; cases r; exact ⟨[],True.intro,.nil⟩
 | p::kvs,_,r=>by
   rw [List.map_cons] at r
   cases r with
   | @cons a b as bs h t =>
     obtain ⟨rs,c,q⟩:=carries_of (P:=P) (w:=w) t
     obtain ⟨b1,b2⟩:=b
     exact ⟨(p.1,b2)::rs,⟨kV_is h.1,rfl,c⟩,.cons ⟨rfl,h.2⟩ q⟩
def tDisp (trs:List (TE × TE)):TE:=fun σ H Q=>∀ p,H p=none->tPairs trs σ (upd H p (.dK [])) fun ps H2=>H2 p=some (.dK [])/\∃ kvs:List (Key × V),ps=kvs.map (fun kv=>(kV kv.1,kv.2))/\kvs.length<=15/\Q (.ref p) (upd H2 p (.dK (mergeK [] kvs)))
theorem pe_disp {X:Cx} {pos:Pos} {keys:List (Option Expr)} {values:List Expr} {trs:List (TE × TE)} (h:PPs X pos keys values trs) (hall:keys.all (·.isSome)=true) (hl:keys.length=values.length) (h0:keys ≠ [])
 (h15:keys.length<=15):PE X (.Dict keys values pos) (tDisp trs):=by
 intro pins s σ H Q I q
 have hn:=I.hok.fresh (Nat.le_refl s.heap.objs.size)
 have I1:=I.laid (a:=s.heap.objs.size) (o:=.dK []) (h':=s.heap.push { cls:=.type "dict", data:=.dict #[] }) (t':=s.toks) (fun _ _ q=>Heap.get?_push_of_some _ q) (Nat.le_refl _) (dk_empty s.heap I.big)
 refine wpAny_Dict_walk (knd:=bc X.prog X.w) hall hl h0 h15 (thn (h pins _ σ _ _ I1 (q _ hn)) fun ws s2 ⟨ps,H2,I2,rel,e,kvs,ep,lk,q2⟩=>?_)
 subst ep
 obtain ⟨rs,c,rk⟩:=carries_of (P:=X.prog) (w:=X.w) rel
 obtain ⟨z,hd,vs0,r0,dd⟩:=dk_of I2.hok e
 cases r0
 refine ⟨rs,c,dd,fun h' dd' hs=>⟨.ref s.heap.objs.size,_,?_,rfl,q2⟩⟩
 have hz:(mergeK [] kvs).length<=sizeLine:=by
  have h1:=length_mergeK kvs []
  rw [List.length_nil] at h1
  rw [sizeLine_eq]; omega
 have he:∃ q,h'.get? s.heap.objs.size=some q:=let ⟨q,_,_,hq,_⟩:=dd'; ⟨q,hq⟩
 exact d_write I2 (by rw [e]; exact True.intro) hs he (dk_new hz hd (rk.merge .nil) dd')
structure M2 (X:Cx) (o:Expr) (m:Str) (apos:Pos) (e f:Expr) (cpos:Pos):Prop where
 base:attributeBase o m X.env (eval o X.env)=eval o X.env
 few:((backTo cpos (starEach [e,f] X.env)).all (fun x=>!x.1) && (backToKw cpos (keywordEach [] X.env)).all (fun x=>x.1.isSome)
  && decide (([e,f]:List Expr).length+([]:List Keyword).length+(if ([]:List Keyword).isEmpty then 0 else 1) < 30))=true
 line:(apos.endLine == cpos.line)=true
 trees:backTo cpos (starEach [e,f] X.env)=[(false,eval e X.env),(false,eval f X.env)]
def IsD (H:Hp) (a:Addr):Prop:=(∃ kvs,Rd H a (.dK kvs))∨∃ kvs,Rd H a (.dT kvs)
theorem isD_at {X:Cx} {pins:List (Addr × Obj)} {σ:St} {H:Hp} {s:Shared} {a:Addr} (I:Inv X pins σ H s) (d:IsD H a) :
 s.TypeIs (.ref a) "dict" /\ (∀ b,Value.ref a=.ref b->∃ ob,s.heap.get? b=some ob/\ob.dict=none)/\(a == sysModules)=false:=by
 rcases d with ⟨kvs,e⟩ | ⟨kvs,e⟩
 . obtain ⟨_,hd,vs,_,dd⟩:=dk_rd I.hok e
   refine ⟨dd.typeIs,fun b q=>?_,hd⟩
   cases q
   obtain ⟨ob,_,_,h1,h2,_⟩:=dd
   exact ⟨ob,h1,h2.2.1⟩
 . obtain ⟨_,hd,xs,_,dd⟩:=dt_rd I.hok e
   refine ⟨dd.typeIs,fun b q=>?_,hd⟩
   cases q
   obtain ⟨ob,_,_,h1,h2,_⟩:=dd
   exact ⟨ob,h1,h2.2.1⟩
section
variable {X:Cx} {pins:List (Addr × Obj)} {σ:St} {H:Hp} {s:Shared} {a:Addr} {y d:V} {u r:Value} {o:Option V} {A:Around} {E:Value->Shared->Prop}
theorem d_get2 {Q:Value->Shared->Prop} (hu:A.units+1 < cLine) (I:Inv X pins σ H s) (g:DGet H a y o) (ry:RelV y u) (rd:RelV d r) (h:∀ w' s',Inv X pins σ H s'->RelV (o.getD d) w'->Q w' s') :
 wpAny (model X.prog X.w) A (call (.builtin "dict.get") [.ref a,u,r]) Q E s:=by
 rcases g with ⟨kvs,k,e,ey,l⟩ | ⟨kvs,k,b,e,ey,eb,l⟩
 . subst ey
   obtain ⟨z,hd,vs,rel,dd⟩:=dk_rd I.hok e
   refine call_meetsIn PySem.F.slot_dict_get dd.typeIs PySem.F.entry_dict_get (PySem.F.args_dict_get_3 _ _ _) (meets_dict_get_default (bc X.prog X.w) a (kV_is ry) hd r) ⟨_,dd.mapOf,h _ _ (I.tok _) ?_⟩
   rw [l]
   exact (rel.val k).getD rd
 . subst ey
   cases (show u=Value.ref b from ry)
   obtain ⟨z,hd,xs,rel,dd⟩:=dt_rd I.hok e
   refine call_meetsIn PySem.F.slot_dict_get dd.typeIs PySem.F.entry_dict_get (PySem.F.args_dict_get_3 _ _ _) (meetsH_dict_get_default (tupleKind (bc X.prog X.w)) a b hd r) ⟨tupleKind_room_in1 hu,k,xs,key_of I.hok eb,dd,h _ _ (I.tok _) ?_⟩
   rw [l]
   exact (rel.val k).getD rd
end
def tDGet2 (td ty tx:TE):TE:=fun σ H Q=>td σ H fun x H1=>∃ a,x=.ref a/\IsD H1 a/\ty σ H1 fun y H2=>tx σ H2 fun z H3=>∃ o,DGet H3 a y o/\Q (o.getD z) H3
section
variable {X:Cx} {o e f:Expr} {apos cpos:Pos} {td ty tx:TE}
theorem pe_dget2 (hu:X.A.units+1 < cLine) (ho:PE X o td) (he:PE X e ty) (hf:PE X f tx) (m:M2 X o "get" apos e f cpos):PE X (.Call (.Attribute o "get" apos) [e,f] [] cpos) (tDGet2 td ty tx):=by
 intro pins s σ H Q I h
 refine wpAny_Call_method m.base m.few m.line PySem.F.plainAttrs_dict PySem.F.slot_dict_get PySem.F.type_dict_get (thn (ho pins s σ H _ I h) fun u s1 ⟨x,H1,I1,rx,a,ex,d,q1⟩=>?_)
 subst ex
 obtain rfl:u=Value.ref a:=rx
 obtain ⟨t1,t2,_⟩:=isD_at I1 d
 refine ⟨t1,t2,?_⟩
 rw [m.trees]
 refine Calls.callWith_builtin rfl (Calls.evalArgs_plain (Calls.spliced_cons (thn (he pins s1 σ H1 _ I1 q1) fun iv s2 ⟨y,H2,I2,ry,q2⟩ =>
  Calls.spliced_cons (thn (hf pins s2 σ H2 _ I2 q2) fun fv s3 ⟨z,H3,I3,rz,ov,g,q3⟩=>Calls.spliced_nil ?_))))
 exact d_get2 hu I3 g ry rz fun w' s4 I4 rw'=>⟨_,H3,I4,rw',q3⟩
end
section
variable {X:Cx}
theorem Inv.tupD {pins:List (Addr × Obj)} {σ:St} {H:Hp} {s:Shared} {a:Addr} {xs:List V} (I:Inv X pins σ H s) (h:H a=some (.tup xs)):∃ ob,s.heap.get? a=some ob/\ob.dict=none:=by
 obtain ⟨_,_,_,_,o,e,d⟩:=(show ObjOk X.prog X.w H s.heap a (.tup xs) from I.hok a _ h)
 exact ⟨o,e,d⟩
def tIndex (K:W.Frag) (to:TE) (t:TA):TE:=fun σ H Q=>to σ H fun x H1=>∃ (a:Addr) (ns:List Str),x=.ref a/\(H1 a=some (.lst (ns.map V.str))∨H1 a=some (.tup (ns.map V.str)))/\t σ H1 fun vs H2=>(H2 a=H1 a)/\∃ (z:Str) (j:Nat),vs=[.str z]/\cp z ns=some j/\Q (.int (j:Int)) H2
variable {o e:Expr} {es:List Expr} {to:TE} {t:TA} {apos cpos:Pos}
theorem pe_index (pl:PlainAttrs "list") (pt:PlainAttrs "tuple") (ho:PE X o to) (ha:PA X (e::es) t)
 (hbase:attributeBase o "index" X.env (eval o X.env)=eval o X.env:=by rfl)
 (hfew:((backTo cpos (starEach (e::es) X.env)).all (fun x=>!x.1) && (backToKw cpos (keywordEach [] X.env)).all (fun x=>x.1.isSome)
  && decide ((e::es).length+([]:List Keyword).length+(if ([]:List Keyword).isEmpty then 0 else 1) < 30))=true:=by rfl)
 (hline:(apos.endLine == cpos.line)=true:=by rfl) (hs:starEach (e::es) X.env=(false,eval e X.env)::starEach es X.env:=by rfl) (hplain:(backTo cpos (starEach es X.env)).any (·.1)=false:=by rfl) :
 PE X (.Call (.Attribute o "index" apos) (e::es) [] cpos) (tIndex X.K to t):=by
 intro pins s σ H Q I h
 refine wpAny_Call_method_late hbase hfew hline rfl (thn (ho pins s σ H _ I h) fun v s1 ⟨x,H1,I1,r1,a,ns,ex,hh,q1⟩=>?_)
 subst ex
 cases r1
 have hA:=ha cpos pins s1 σ H1 _ I1 q1
 rw [hs] at hA ⊢
 rcases hh with hh | hh
 . obtain ⟨its,_,p,_⟩:=I1.list (SqL.of hh)
   obtain ⟨ob,n,e1,c,d,_⟩:=id p
   refine ⟨"list", "list.index", pl,F.slot_list_index,F.type_list_index,p.isList.typeIs,fun b eb=>?_,?_⟩
   . cases eb
     exact ⟨ob,e1,d⟩
   . refine Calls.callWith_builtin (by show (false || (backTo cpos (starEach es X.env)).any (·.1))=false; rw [hplain] <;> rfl) (Calls.evalArgs_plain ?_)
     exact thn hA fun us s2 ⟨vs,H2,I2,r2,ek,z,j,ez,hp,q2⟩=>mt_indexL pins s2 σ H2 (.ref a) vs (.ref a) us Q I2 rfl r2 ⟨a,ns,z,j,rfl,ez,SqL.of (ek.trans hh),hp,q2⟩
 . obtain ⟨its,_,p,_⟩:=I1.tuple (SqT.of hh)
   refine ⟨"tuple", "tuple.index", pt,F.slot_tuple_index,F.type_tuple_index,p.typeIs,fun b eb=>?_,?_⟩
   . cases eb
     exact I1.tupD hh
   . refine Calls.callWith_builtin (by show (false || (backTo cpos (starEach es X.env)).any (·.1))=false; rw [hplain] <;> rfl) (Calls.evalArgs_plain ?_)
     exact thn hA fun us s2 ⟨vs,H2,I2,r2,ek,z,j,ez,hp,q2⟩=>mt_indexT pins s2 σ H2 (.ref a) vs (.ref a) us Q I2 rfl r2 ⟨a,ns,z,j,rfl,ez,SqT.of (ek.trans hh),hp,q2⟩
end
theorem CompScope.three {X:Cx} {x y z u:Str} {scope:Scope} {k l m:Nat} {c d e:Addr} {cl:List (Str × Addr)} (c1:closureFor scope X.env=pure cl) (c2:∀ y ∈ scope.names,y.2 ≠ .cell) (c3:scope.kind=.function) (c4:∀ y ∈ scope.names,y.2=.local->scope.names.lookup y.1=some .local)
 (c5:scope.names.lookup x=some .local) (nd:[x,y,z,u].Nodup) (hcl:cl=[(y,c),(z,d),(u,e)]) (hc:X.env.cells.lookup y=some c) (hd:X.env.cells.lookup z=some d) (he:X.env.cells.lookup u=some e) (c6:((relabel scope X.env).names.all fun p=>!(p.2 == .cell || p.2 == .free) || (cl.lookup p.1).isSome)=true)
 (hr:(relabel scope X.env).names.lookup y=some .cell) (hk:X.N[k]?=some y) (hs:X.env.scope.names.lookup y=some .cell)
 (hr2:(relabel scope X.env).names.lookup z=some .cell) (hk2:X.N[l]?=some z) (hs2:X.env.scope.names.lookup z=some .cell)
 (hr3:(relabel scope X.env).names.lookup u=some .cell) (hk3:X.N[m]?=some u) (hs3:X.env.scope.names.lookup u=some .cell):CompScope X x [y,z,u] [k,l,m] scope cl where
 clos:=c1
 nocell:=c2
 kind:=c3
 names:=c4
 own:=c5
 nd:=nd
 sub:=fun p hp=>by
  subst hcl
  rcases List.mem_cons.mp hp with h | h
  . rw [h]; assumption
  . rcases List.mem_cons.mp h with h | h
    . rw [h]; assumption
    . rw [List.mem_singleton.mp h]; assumption
 has:=c6
 outs:=fun j w h=>by
  have nyz:y ≠ z:=fun e=>by simp [e] at nd
  have nyu:y ≠ u:=fun e=>by simp [e] at nd
  have nzu:z ≠ u:=fun e=>by simp [e] at nd
  subst hcl
  match j,h with
  | 0,h =>
    have e:y=w:=Option.some.inj h
    subst e
    exact ⟨hr,k,c,rfl,hk,by simp [List.lookup],hs⟩
  | 1,h =>
    have e:z=w:=Option.some.inj h
    subst e
    have:(z == y)=false:=by simpa using Ne.symm nyz
    exact ⟨hr2,l,d,rfl,hk2,by simp [List.lookup,this],hs2⟩
  | 2,h =>
    have ew:u=w:=Option.some.inj h
    subst ew
    have h1:(u == y)=false:=by simpa using Ne.symm nyu
    have h2:(u == z)=false:=by simpa using Ne.symm nzu
    exact ⟨hr3,m,e,rfl,hk3,by simp [List.lookup,h1,h2],hs3⟩
  | j+3,h=>simp at h
section
variable {X:Cx}
theorem count_eqU {x:V}:∀ {xs:List V} {us:List Value},Vals xs us->xs.all flatV=true->us.countP (eqU x)=xs.countP fun y=>eqV y x
 | _,_,.nil,_=>rfl
 | y::xs,u::us,.cons r t,f=>by
   rw [List.all_cons,Bool.and_eq_true] at f
   rw [List.countP_cons,List.countP_cons,eqU_of r f.1,count_eqU t f.2]
def rCountL (K:W.Frag):V->List V->Hp->VK->Prop:=fun x vs H Q=>∃ (a:Addr) (xs:List V) (z:V),x=.ref a/\vs=[z]/\SqL K H a xs/\xs.all flatV=true/\flatV z=true/\Q (.int ((xs.countP fun y=>eqV y z:Nat):Int)) H
theorem mt_count:MtR X "list.count" (rCountL X.K):=by
 intro pins s σ H x vs v us Q I rx rv h
 obtain ⟨a,xs,z,rfl,rfl,hq,fs,fz,q⟩:=h
 cases rx
 obtain ⟨u,rfl,ru⟩:=rv.one
 obtain ⟨its,r,⟨⟨cls,dd,data,sl⟩,n,ho,hc,hdd,hd⟩,hz⟩:=I.list hq
 simp only at hc hd
 subst hc hd
 refine call_meets F.slot_list_count ⟨_,ho,rfl⟩ F.entry_list_count (F.args_list_count_2 _ _) (SeqAt.list_countAt a its.toArray n dd sl u (eqU z)) ⟨ho,fun y hy=>?_,?_⟩
 . exact mem_eqAt ru fz r fs y (by simpa using hy)
 . rw [show its.toArray.toList=its from rfl,count_eqU r fs]
   exact ⟨.int ((xs.countP fun y=>eqV y z:Nat):Int),H,I.tok _,⟨_,rfl⟩,q⟩
end
def cK (g:Nat->Int):Nat->Int
 | 0=>g 0
 | k+1=>if cK g k < g (k+1) then g (k+1) else cK g k
theorem bestI_ge (g:Nat->Int):∀ n k,k<=n->g k<=cK g n
 | 0,k,h=>by
   have e:k=0:=by omega
   subst e
   exact Int.le_refl _
 | n+1,k,h=>by
   unfold cK
   by_cases c:k=n+1
   . subst c
     split <;> omega
   . have:=bestI_ge g n k (by omega)
     split <;> omega
def maxD (ns:List Int) (d:Int):Int:=match ns with | []=>d | _::_=>cK (fun i=>ns[i]?.getD 0) (ns.length - 1)
theorem maxD_ge {ns:List Int} {d x:Int} (h:x ∈ ns):x<=maxD ns d:=by
 obtain ⟨i,hi,e⟩:=List.getElem_of_mem h
 cases ns with
 | nil=>cases h
 | cons a r =>
   have:=bestI_ge (fun i=>(a::r)[i]?.getD 0) ((a::r).length - 1) i (by omega)
   simp only [List.getElem?_eq_getElem hi,Option.getD_some,e] at this
   exact this
section
variable {prog:Program} {w:World} {A:Around} {R:Result->Shared->Prop} {I S:Addr} {fp wr:List Addr} {n:Nat} {P:Nat->Value->Prop} {St:Nat->Heap->Prop} {g:Nat->Int} {kw:List (Str × Value)}
theorem mx_name:(toString "max" ++ toString ".loop" : String) = "max.loop" := by decide
theorem mx_turns (W:Walks prog w A.in1 I fp wr n P St) (gv:∀ i v,P i v->∃ t,v=Value.int (g i) t) (nS:S ∉ fp):∀ (k j:Nat) (s:Shared) (t:Tok) (c:Nat),j+1+k=n->St (j+1) s.heap ->
 s.heap.get? S=some { cls:=.type "list", dict:=none,data:=.seq #[.int (cK g j) t,.int (cK g j) t] c,slots:=#[] } ->
 (∀ t' h' tk,(∀ b o,b ∉ wr->b ≠ S->s.heap.get? b=some o->h'.get? b=some o)->R (.ok (.ret (.int (cK g (n - 1)) t'))) { s with heap:=h',toks:=tk }) ->
 codeAny (model prog w) A (.builtin "max.loop" ⟨[.ref I,.none,.ref S],kw⟩) R s:=by
 have nw:S ∉ wr:=fun z=>nS (W.sub _ z)
 intro k
 induction k with
 | zero =>
   intro j s t c ek st eS q
   refine codeAny_builtin F.entry_max_loop ?_; rw [Around.under_plainId F.plain_max_loop _]
   show wpAny _ A.in1 (seqItems? (.ref S) >>= _) _ _ s; refine wpAny_bind (wpAny_seqItems eS rfl ?_)
   show wpAny _ A.in1 (tryCatch (pyNext (.ref I)) _ >>= _) _ _ s; refine wpAny_bind (wpAny_tryCatch (W.done s _ _ (by rw [← ek]; exact st) fun h' tk kp=>?_))
   show wpAny _ A.in1 (updateSeq S (fun _=>#[]) >>= _) _ _ _; refine wpAny_bind ?_
   refine wpAny_updateSeq (kp S _ nw eS) rfl (wpAny_bind (wpAny_letGo (wpAny_pure ?_)))
   have e:n - 1=j:=by omega
   rw [e] at q
   exact q t _ tk fun b o h1 h2 eb=>(Heap.get?_update_other _ _ (Ne.symm h2)).trans (kp b o h1 eb)
 | succ k ih =>
   intro j s t c ek st eS q
   refine codeAny_builtin F.entry_max_loop ?_; rw [Around.under_plainId F.plain_max_loop _]
   show wpAny _ A.in1 (seqItems? (.ref S) >>= _) _ _ s; refine wpAny_bind (wpAny_seqItems eS rfl ?_)
   show wpAny _ A.in1 (tryCatch (pyNext (.ref I)) _ >>= _) _ _ s; refine wpAny_bind (wpAny_tryCatch (W.item (j+1) s _ _ (by omega) st fun v h' tk pv st' kp=>?_))
   obtain ⟨tv,rfl⟩:=gv _ _ pv
   have eS':=kp S _ nw eS
   show wpAny _ A.in1 (tryCatch (holding [Value.int (g (j+1)) tv,Value.int (g (j+1)) tv] (richCompare .Gt (Value.int (g (j+1)) tv) (Value.int (cK g j) t) >>= _)) _ >>= _) _ _ _
   refine wpAny_bind (wpAny_tryCatch (wpAny_holding (wpAny_bind (CmpOf.ints_gt (prog:=prog) (w:=w) (A:=A.in1) (P:=fun i v=>∃ t,v=Value.int (if i=0 then cK g j else g (j+1)) t) (fun i=>if i=0 then cK g j else g (j+1)) (fun i v h=>h) 1 0 _ _ _ _ _ ⟨tv,rfl⟩ ⟨t,rfl⟩ ?_))))
   refine wpAny_bind (wpAny_holding (wpAny_truthy_bool ?_)); refine wpAny_bind (wpAny_letGo (wpAny_pure ?_))
   by_cases c1:cK g j < g (j+1)
   . have e1:cK g (j+1)=g (j+1):=by unfold cK; rw [if_pos c1]
     refine wpAny_ite_split (fun _=>?_) (fun hab=>absurd (decide_eq_true c1) hab)
     refine wpAny_bind ?_
     refine wpAny_updateSeq eS' rfl (wpAny_bind (wpAny_letGo ?_)); rw [mx_name]
     refine wpAny_pure ⟨plainId_quiet F.plain_max_loop _,ih (j+1) _ tv _ (by omega) (W.frame _ _ _ st' fun b hb o eb=>?_) (by rw [e1]; exact Heap.get?_update_self _ eS' rfl) fun t' h2 tk2 kp2=>?_⟩
     . exact (Heap.get?_update_other _ _ (fun z:S=b=>nS (by rw [z]; exact hb))).trans eb
     . exact q t' h2 tk2 fun b o h1 h3 eb=>kp2 b o h1 h3 ((Heap.get?_update_other _ _ (Ne.symm h3)).trans (kp b o h1 eb))
   . have e1:cK g (j+1)=cK g j:=by unfold cK; rw [if_neg c1]; cases j <;> rfl
     refine wpAny_ite_split (fun hab=>absurd (of_decide_eq_true hab) c1) (fun _=>?_)
     refine wpAny_bind (wpAny_letGo ?_); rw [mx_name]
     refine wpAny_pure ⟨plainId_quiet F.plain_max_loop _,ih (j+1) _ t c (by omega) st' (by rw [e1]; exact eS') fun t' h2 tk2 kp2=>?_⟩
     exact q t' h2 tk2 fun b o h1 h3 eb=>kp2 b o h1 h3 (kp b o h1 eb)
theorem mx_first (W:Walks prog w A.in1 I fp wr n P St) (gv:∀ i v,P i v->∃ t,v=Value.int (g i) t) (nS:S ∉ fp) (hn:0 < n) {s:Shared} {c:Nat} (st:St 0 s.heap) (eS:s.heap.get? S=some { cls:=.type "list", dict:=none,data:=.seq #[] c,slots:=#[] })
 (q:∀ t' h' tk,(∀ b o,b ∉ wr->b ≠ S->s.heap.get? b=some o->h'.get? b=some o)->R (.ok (.ret (.int (cK g (n - 1)) t'))) { s with heap:=h',toks:=tk }) :
 codeAny (model prog w) A (.builtin "max.loop" ⟨[.ref I,.none,.ref S],kw⟩) R s:=by
 have nw:S ∉ wr:=fun z=>nS (W.sub _ z)
 refine codeAny_builtin F.entry_max_loop ?_; rw [Around.under_plainId F.plain_max_loop _]
 show wpAny _ A.in1 (seqItems? (.ref S) >>= _) _ _ s; refine wpAny_bind (wpAny_seqItems eS rfl ?_)
 show wpAny _ A.in1 (tryCatch (pyNext (.ref I)) _ >>= _) _ _ s; refine wpAny_bind (wpAny_tryCatch (W.item 0 s _ _ hn st fun v h' tk pv st' kp=>?_))
 obtain ⟨tv,rfl⟩:=gv _ _ pv
 have eS':=kp S _ nw eS
 show wpAny _ A.in1 (updateSeq S (fun _=>#[Value.int (g 0) tv,Value.int (g 0) tv]) >>= _) _ _ _; refine wpAny_bind ?_
 refine wpAny_updateSeq eS' rfl ?_; rw [mx_name]
 refine wpAny_pure ⟨plainId_quiet F.plain_max_loop _,mx_turns W gv nS (n - 1) 0 _ tv _ (by omega) (W.frame _ _ _ st' fun b hb o eb=>?_) (Heap.get?_update_self _ eS' rfl) fun t' h2 tk2 kp2=>?_⟩
 . exact (Heap.get?_update_other _ _ (fun z:S=b=>nS (by rw [z]; exact hb))).trans eb
 . exact q t' h2 tk2 fun b o h1 h3 eb=>kp2 b o h1 h3 ((Heap.get?_update_other _ _ (Ne.symm h3)).trans (kp b o h1 eb))
end
section
variable {X:Cx} {e k:Expr} {te tk:TE} {pos p1 kp:Pos}
def rMax1 (K:W.Frag):List V->Hp->VK->Prop:=fun xs H Q=>∃ a ns,xs=[.ref a]/\SqL K H a (ns.map V.int)/\ns ≠ []/\Q (.int (maxD ns 0)) H
theorem call_max1 (hc:X.calm=true):CallR X (.builtin "max") (rMax1 X.K):=by
 intro pins s2 σ H2 xs us Q I2 r h
 obtain ⟨a,ns,rfl,hq,hn,q⟩:=h
 obtain ⟨u,rfl,ru⟩:=vals1 r
 cases ru
 obtain ⟨its,r',p,hz⟩:=I2.list hq
 have hl:=r'.length
 rw [List.length_map] at hl
 have hlt:a < s2.heap.objs.size:=by obtain ⟨o,n,e,_⟩:=p; exact Heap.lt_size e
 refine call_function_tree F.kind_max F.plain_max F.entry_max (F.args_max1 _) ?_
 show wpAny _ X.A.in1 (Builtin.Builtins.bindParams "max" ["key", "default"] 0 ⟨[],[]⟩ >>= fun _=>_) _ _ s2
 refine wpAny_bind (wpAny_of_eq (a:=[none,none]) rfl ?_)
 refine wpAny_bind (wpAny_pure ?_)
 refine wpAny_bind (wpAny_pyIter_list p.isList ?_)
 refine wpAny_bind (wpAny_newObj_type ?_); rw [mx_name]
 have hne:a ≠ s2.heap.objs.size:=Nat.ne_of_lt hlt
 have W:=Walks.list (prog:=X.prog) (w:=X.w) (A:=X.A.in1) (I2.ok.hd hc) s2.heap.objs.size a hne its.toArray
 have I3:Inv X pins σ H2 { s2 with heap:=s2.heap.push { cls:=.type "list_iterator", data:=.fields #[.ref a,.int 0 0] } }:=I2.kept (t':=s2.toks) fun b o eb=>Heap.get?_push_of_some _ eb
 have I4:Inv X pins σ H2 { s2 with heap:=(s2.heap.push { cls:=.type "list_iterator", data:=.fields #[.ref a,.int 0 0] }).push { cls:=.type "list", data:=.seq #[] } }:=I3.kept (t':=s2.toks) fun b o eb=>Heap.get?_push_of_some _ eb
 have hz1:∀ o:Obj,(s2.heap.push o).objs.size=s2.heap.objs.size+1:=fun o=>by simp [Heap.push]
 have nS:(s2.heap.push { cls:=.type "list_iterator", data:=.fields #[.ref a,.int 0 0] }).objs.size ∉ [s2.heap.objs.size,a]:=by
  intro hm
  rcases List.mem_cons.mp hm with z | z
  . rw [hz1] at z
    exact absurd z (Nat.succ_ne_self _)
  . have z:=List.mem_singleton.mp z
    rw [hz1] at z
    exact absurd z (Nat.ne_of_gt (Nat.lt_succ_of_lt hlt))
 have gv:∀ i v,its.toArray[i]?=some v->∃ t,v=Value.int (ns[i]?.getD 0) t:=fun i v hv=>by
  obtain ⟨b,t,hb,rfl⟩:=ints_get r' (i:=i) (v:=v) (by first | exact hv | simpa using hv | (rw [List.getElem?_toArray] at hv; exact hv))
  exact ⟨t,by rw [hb]; rfl⟩
 have n0:0 < ns.length:=List.length_pos_iff.mpr hn
 refine wpAny_pure ⟨plainId_quiet F.plain_max_loop _,mx_first (g:=fun i=>ns[i]?.getD 0) W gv nS (by rw [List.size_toArray,← hl]; exact n0) ⟨⟨_,Heap.get?_push_of_some _ (Heap.get?_push_size _ rfl),rfl,rfl⟩,(p.isList.push _).push _⟩ (Heap.get?_push_size _ rfl) fun t' h' tk kp=>?_⟩
 rw [List.size_toArray,← hl]
 have em:cK (fun i=>ns[i]?.getD 0) (ns.length - 1)=maxD ns 0:=by
  cases ns with
  | nil=>exact absurd rfl hn
  | cons _ _=>rfl
 rw [em]
 refine ⟨.int _,H2,?_,⟨_,rfl⟩,q⟩
 have J:=Inv.turnedL (h':=h') (t':=tk) (ch:=[s2.heap.objs.size,s2.heap.objs.size+1]) I4 (fun b o hb eb=>kp b o (fun z=>hb (by rw [List.mem_singleton.mp z]; exact List.mem_cons_self)) (fun z=>hb (by rw [z,hz1]; exact List.mem_cons_of_mem _ List.mem_cons_self)) eb)
 refine J fun b hb=>?_
 rcases List.mem_cons.mp hb with h | h
 . rw [h]
   exact I2.fpOk (Nat.le_refl _) (I2.hok.fresh (Nat.le_refl _))
 . rw [List.mem_singleton.mp h]
   exact I2.fpOk (Nat.le_succ _) (I2.hok.fresh (Nat.le_succ _))
end
section
variable {prog:Program} {w:World} {A:Around} {E:Value->Shared->Prop} {s:Shared}
theorem tn_item {it t:Addr} {i:Nat} {items:Array Value} {x:Value} {Q:Value->Shared->Prop} (hit:s.heap.IsTupleIter it t i) (ht:s.heap.IsTuple t items) (hx:items[i]?=some x)
 (q:∀ h',h'.IsTupleIter it t (i+1)->Heap.SameBut it s.heap h'->Q x { s with heap:=h' }):wpAny (model prog w) A (Builtin.SmallTypes.nextOf (.ref it)) Q E s:=by
 obtain ⟨o,ho,hc,hd⟩:=id hit; obtain ⟨ol,hol,_,nl,hdl⟩:=ht
 unfold Builtin.SmallTypes.nextOf
 refine wpAny_bind (wpAny_callSpecial?_slot (name:=Str.ofString "__next__") hit.typeIs F.slot_tuple_iterator_next (wpAny_call_entry F.slot_tuple_iterator_next hit.typeIs F.entry_tuple_iterator_next ?_ (F.args_tuple_iterator_next_1 _)))
 show wpAny _ _ (field (.ref it) 0 >>= _) _ _ s; refine wpAny_bind (wpAny_field ho hd (x:=.ref t) rfl ?_)
 show wpAny _ _ (if (Value.ref t == Value.none)=true then _ else _) _ _ s; rw [if_neg (show ¬ ((Value.ref t == Value.none)=true) from Bool.false_ne_true)]
 show wpAny _ _ (field (.ref it) 1 >>= _) _ _ s; refine wpAny_bind (wpAny_field ho hd (x:=.int i 0) rfl ?_)
 show wpAny _ _ (seqItems? (.ref t) >>= _) _ _ s; refine wpAny_bind (wpAny_seqItems hol hdl ?_)
 simp only [Int.toNat_natCast,hx]
 refine wpAny_bind (wpAny_setField ho hd (by simp) (wpAny_pure ⟨x,rfl,wpAny_pure (q _ ?_ (Heap.SameBut.update ..))⟩))
 exact ⟨_,Heap.get?_update_self _ ho (Obj.isFreed_of_fields (Obj.data_mapFields hd _)),(Obj.cls_mapFields ..).trans hc,by rw [Obj.data_mapFields hd]; simp [rawInt]⟩
theorem tn_end {it t:Addr} {i:Nat} {items:Array Value} {Q:Value->Shared->Prop} (hh:A.handled=none) (hit:s.heap.IsTupleIter it t i) (ht:s.heap.IsTuple t items) (hx:items[i]?=none)
 (q:∀ h' e,Heap.ExtBut it s.heap h'->(∃ o,h'.get? e=some o/\o.cls=.type "StopIteration")->E (.ref e) { s with heap:=h' }):wpAny (model prog w) A (Builtin.SmallTypes.nextOf (.ref it)) Q E s:=by
 obtain ⟨o,ho,hc,hd⟩:=id hit; obtain ⟨ol,hol,_,nl,hdl⟩:=ht
 unfold Builtin.SmallTypes.nextOf
 refine wpAny_bind (wpAny_callSpecial?_slot (name:=Str.ofString "__next__") hit.typeIs F.slot_tuple_iterator_next (wpAny_call_entry F.slot_tuple_iterator_next hit.typeIs F.entry_tuple_iterator_next ?_ (F.args_tuple_iterator_next_1 _)))
 show wpAny _ _ (field (.ref it) 0 >>= _) _ _ s; refine wpAny_bind (wpAny_field ho hd (x:=.ref t) rfl ?_)
 show wpAny _ _ (if (Value.ref t == Value.none)=true then _ else _) _ _ s; rw [if_neg (show ¬ ((Value.ref t == Value.none)=true) from Bool.false_ne_true)]
 show wpAny _ _ (field (.ref it) 1 >>= _) _ _ s; refine wpAny_bind (wpAny_field ho hd (x:=.int i 0) rfl ?_)
 show wpAny _ _ (seqItems? (.ref t) >>= _) _ _ s; refine wpAny_bind (wpAny_seqItems hol hdl ?_)
 simp only [Int.toNat_natCast,hx]
 first
  | refine wpAny_bind (wpAny_rule (wpAny_bind (wpAny_setField ho hd (by simp) (wpAny_bind (wpAny_letGo ?_)))))
  | refine wpAny_bind (wpAny_rule (wpAny_bind (wpAny_setField ho hd (by simp) ?_)))
 show wpAny _ _ (newExc (.type "StopIteration") [] >>= _) _ _ _; refine wpAny_bind ?_
 simp only [newExc,newTuple]; refine wpAny_bind (wpAny_newObj_type ?_ (by size_fits))
 refine wpAny_bind (m:=firstArgMember _ _) (wpAny_of_eq (a:=Value.none) (by first | rfl | (simp only [firstArgMember]; rfl)) ?_); refine wpAny_newObj_type ?_ (by size_fits)
 simp only [raiseNew]; refine wpAny_bind (wpAny_handled ?_)
 first | rw [show A.in1.handled=none from hh] | rw [hh]
 refine wpAny_bind (wpAny_pure (wpAny_throw ?_)); exact q _ _ (((Heap.SameBut.update ..).extBut.push _).push _) ⟨_,Heap.get?_push_size _ rfl,rfl⟩
theorem enumT_end {e it t:Addr} {j:Nat} {i:Int} {old:Value} {items:Array Value} {Q:Option Value->Shared->Prop} (hh:A.handled=none) (he:IsEnum s.heap e it i old) (hit:s.heap.IsTupleIter it t j) (ht:s.heap.IsTuple t items) (hx:items[j]?=none)
 (q:∀ h',Heap.ExtBut it s.heap h'->Q none { s with heap:=h' }):wpAny (model prog w) A (pyNext (.ref e)) Q E s:=by
 have hT:s.TypeIs (.ref e) "enumerate" := ⟨_,he,rfl⟩
 unfold pyNext
 refine wpAny_bind (wpAny_attempt (wpAny_callSpecial?_slot (name:=Str.ofString "__next__") hT F.slot_enumerate_next (wpAny_call_entry F.slot_enumerate_next hT F.entry_enumerate_next ?_ (F.args_enumerate_next_1 _))))
 show wpAny _ _ (field (.ref e) 2 >>= _) _ _ _; refine wpAny_bind (wpAny_field he rfl (x:=.ref it) rfl ?_)
 refine wpAny_bind (tn_end hh hit ht hx fun h' x he' hx'=>?_)
 obtain ⟨o,ho,hc⟩:=hx'
 refine wpAny_bind (wpAny_isInstance (T := "StopIteration") (b:=true) ⟨o,ho,hc⟩ isSubtype_stop ?_); exact wpAny_pure (q h' he')
end
theorem draws_tup {prog:Program} {w:World} {A:Around} (hh:A.handled=none) (it l:Addr) (hne:l ≠ it) (items:Array Value):Draws prog w A it [it,l] items.size (fun i v=>items[i]?=some v) (fun i h=>h.IsTupleIter it l i/\h.IsTuple l items) where
 live:=fun _ _ st=>let ⟨o,ho,_⟩:=st.1; ⟨o,ho⟩
 frame:=fun _ _ _ st k=>⟨st.1.at fun o e=>k it (by simp) o e,st.2.at fun o e=>k l (by simp) o e⟩
 item:=fun i s Q E hi st q=>by
  refine tn_item st.1 st.2 (x:=items[i]) (by simp [hi]) fun h' a b=>?_
  exact q _ h' s.toks (by simp [hi]) ⟨a,st.2.extBut b.extBut hne⟩ b
 done:=fun s Q E st q=>tn_end hh st.1 st.2 (by simp) q
open AutoSeq1 (wpAny_loadPart') in
set_option maxHeartbeats 1000000 in
theorem meets_enumT (l:Addr) (items:Array Value) (n:Nat) (dct:Option Addr) (sl:Array (Option Value)) :
 Meets (Builtin.«enumerate.__new__» ⟨[.type "enumerate", .ref l],[]⟩) (fun _ R s=>s.heap.get? l=some { cls:=.type "tuple", dict:=dct,data:=.seq items n,slots:=sl } /\
  R (.ok (.ret (.ref (s.heap.push { cls:=.type "tuple_iterator", data:=.fields #[.ref l,.int 0 0] }).objs.size)))
   { s with heap:=(s.heap.push { cls:=.type "tuple_iterator", data:=.fields #[.ref l,.int 0 0] }).push { cls:=.type "enumerate", data:=.fields #[.none,.bool false,.ref s.heap.objs.size,rawInt 0,.none,.none] } }) :=
 .of_wp fun prog w A R s h=>by
  obtain ⟨hp,g,d,tk,os⟩:=s; obtain ⟨hl,h⟩:=h
  have hsub:=sub_enumerate; have hL:Heap.IsTuple (Shared.heap ⟨hp,g,d,tk,os⟩) l items:=⟨_,hl,rfl,n,rfl⟩
  wp_walk using wpAny_loadPart' hl
  refine wpAny_stack_any fun st=>wpAny_pure ?_
  split
  . rename_i c _ _ _ _ _
    cases (c == Value.type "enumerate")
    . wp_walk using wpAny_loadPart' hl,wpAny_pyIter_tuple hL
      exact ⟨_,rfl,h⟩
    . wp_walk using wpAny_loadPart' hl,wpAny_pyIter_tuple hL
      exact ⟨_,rfl,h⟩
  . wp_walk using wpAny_loadPart' hl,wpAny_pyIter_tuple hL
    exact ⟨_,rfl,h⟩
section
variable {prog:Program} {w:World} {A:Around} {E:Value->Shared->Prop} {s:Shared}
theorem call_enumT {l:Addr} {items:Array Value} {Q:Value->Shared->Prop} (hL:s.heap.IsTuple l items)
 (q:∀ h',IsEnum h' (s.heap.objs.size+1) s.heap.objs.size 0 .none->h'.IsTupleIter s.heap.objs.size l 0->(∀ b o,s.heap.get? b=some o->h'.get? b=some o)->Q (.ref (s.heap.objs.size+1)) { s with heap:=h' }) :
 wpAny (model prog w) A (call (.type "enumerate") [.ref l]) Q E s:=by
 obtain ⟨⟨c,dct,dt,sl⟩,hl,hc,n,hd⟩:=hL
 replace hc:c=.type "tuple" := hc
 replace hd:dt=.seq items n:=hd
 subst hc hd
 refine callType_new F.called_enumerate (by decide) (F.typeCall_enumerate_1 _) (F.newCall_enumerate_1 _) (fun obj=>F.args_object_init_2 obj _) F.entry_enumerate_new (meets_enumT l items n dct sl) ⟨hl,?_⟩
 have hz:(s.heap.push { cls:=.type "tuple_iterator", data:=.fields #[.ref l,.int 0 0] }).objs.size=s.heap.objs.size+1:=Heap.size_push ..
 show _/\_
 rw [hz]
 have he:IsEnum ((s.heap.push { cls:=.type "tuple_iterator", data:=.fields #[.ref l,.int 0 0] }).push { cls:=.type "enumerate", data:=.fields #[.none,.bool false,.ref s.heap.objs.size,rawInt 0,.none,.none] }) (s.heap.objs.size+1) s.heap.objs.size 0 .none:=by
  have:=Heap.get?_push_size (s.heap.push { cls:=.type "tuple_iterator", data:=.fields #[.ref l,.int 0 0] }) (o:={ cls:=.type "enumerate", data:=.fields #[.none,.bool false,.ref s.heap.objs.size,rawInt 0,.none,.none] }) rfl
  rw [hz] at this; exact this
 exact ⟨⟨_,he,rfl⟩,q _ he ⟨_,Heap.get?_push_of_some _ (Heap.get?_push_size _ rfl),rfl,rfl⟩ fun b o x=>Heap.get?_push_of_some _ (Heap.get?_push_of_some _ x)⟩
end
def IteT (K:W.Frag) (a:Addr):It :=
 ⟨fun i H=>∃ xs x,SqT K H a xs/\xs[i]?=some x,fun i H y H'=>∃ t,y=.ref t/\H t=none/\∀ xs x,SqT K H a xs->xs[i]?=some x->H'=upd H t (.tup [.int i,x]),fun i H=>∃ xs,SqT K H a xs/\xs.length<=i⟩
theorem turn_enumT {P:Program} {w:World} {K:W.Frag} {elts:List Expr} {k:Nat} {pos:Pos} (a e it:Addr) (hei:e ≠ it) (hai:a ≠ it) (hae:a ≠ e) :
 Turn P w K (.Tuple elts k pos) (IteT K a) [e,it] e (fun i h=>(∃ old,IsEnum h e it i old)/\h.IsTupleIter it a i) where
 mem:=by simp
 obj:=fun i h st b hb=>by
  obtain ⟨⟨old,he⟩,o,e2,c,d⟩:=st
  rcases List.mem_cons.mp hb with z | z
  . subst z
    exact ⟨_,he,fun v z=>nomatch z⟩
  . have z':=List.mem_singleton.mp z
    subst z'
    exact ⟨o,e2,fun v z=>by rw [d] at z; cases z⟩
 keep:=fun i h h' st k=>by
  obtain ⟨⟨old,he⟩,hit⟩:=st
  exact ⟨⟨old,k e (by simp) _ he⟩,hit.at fun o x=>k it (by simp) o x⟩
 item:=by
  intro X hP hw hK hc i pins s σ H E I hf st hg
  subst hP hw hK
  obtain ⟨xs,x,hq,hx⟩:=hg
  obtain ⟨its,rv,p,hz⟩:=I.tuple hq
  obtain ⟨u,hu,ru⟩:=rv.get hx
  obtain ⟨⟨old,he⟩,hit⟩:=st
  have hi:i < its.toArray.size:=by
   rw [List.size_toArray]
   exact (List.getElem?_eq_some_iff.mp hu).1
  refine wpAny_pyNext_enum_itemD (draws_tup (prog:=X.prog) (w:=X.w) (A:=X.A.in1) (I.ok.hd hc) it a hai its.toArray) he ⟨hit,p⟩ hi hei (by simp [hei,Ne.symm hae]) fun y h1 tk hy ho hst1 hT hsz hk=>?_
  have ey:y=u:=by
   have h1:its.toArray[i]?=some u:=by simpa using hu
   rw [h1] at hy
   exact (Option.some.inj hy).symm
  subst ey
  refine ⟨_,rfl,wpAny_letOwnedTupleGo_enum ho fun h2 he2 hs2=>?_⟩
  have elt:e < s.heap.objs.size:=Heap.lt_size he
  have hT2:h2.get? s.heap.objs.size=some { cls:=.type "tuple", data:=.seq #[.int i tk,y] }:=(hs2.2 _ (Ne.symm (Nat.ne_of_lt elt))).trans hT
  have I2:Inv X pins σ (upd H s.heap.objs.size (.tup [.int i,x])) { s with heap:=h2,toks:=tk+1 }:=by
   refine I.turnedNew (ch:=[e,it]) (fun b ob hb eb=>?_) hf (Nat.le_refl _) ⟨by show 2<=sizeLine; decide,[.int i tk,y],.cons ⟨_,rfl⟩ (.cons ru .nil),⟨_,hT2,rfl,_,rfl⟩,_,hT2,rfl⟩
   have b1:b ≠ e:=fun z=>hb (by simp [z])
   have b2:b ≠ it:=fun z=>hb (by simp [z])
   exact (hs2.2 b b1).trans (hk b ob b1 b2 eb)
  refine ⟨.ref s.heap.objs.size,_,I2,rfl,⟨_,rfl,I.hok.fresh (Nat.le_refl _),fun ys z hy hyi=>?_⟩,⟨⟨y,by simpa using he2⟩,hst1.1.at fun o z=>(hs2.2 it (Ne.symm hei)).trans z⟩,fun b hb=>?_⟩
  . have e1:=I.tuple_inj hy hq
    subst e1
    rw [hx] at hyi
    cases hyi
    rfl
  . have z:=hf b hb
    have hlt:b < s.heap.objs.size:=by
     rcases List.mem_cons.mp hb with y | y
     . rw [y]; exact elt
     . rw [List.mem_singleton.mp y]
       obtain ⟨o,e2,_⟩:=hit
       exact Heap.lt_size e2
    rw [au (Nat.ne_of_lt hlt)]
    exact z.1
 done:=by
  intro X hP hw hK hc i pins s σ H E I hf st hg
  subst hP hw hK
  obtain ⟨xs,hq,hx⟩:=hg
  obtain ⟨its,rv,p,hz⟩:=I.tuple hq
  obtain ⟨⟨old,he⟩,hit⟩:=st
  have hl:=rv.length
  exact enumT_end (I.ok.hd hc) he hit p (Array.getElem?_eq_none (by simp; omega)) fun h' eb=>⟨rfl,I.turnedL (t':=s.toks) (ch:=[e,it]) (fun b o hb eo=>eb b o (fun z=>hb (by simp [z])) eo) hf⟩
 self:=fun _ _ _ _ _ st h=>by
  obtain ⟨⟨old,he⟩,_⟩:=st
  exact wpAny_pyIter_enum he h
section
variable {X:Cx} {elts:List Expr} {k:Nat} {tpos:Pos}
def iEnumT (K:W.Frag) (tl:TE):TI:=fun σ H R=>tl σ H fun x H1=>∃ a,x=.ref a/\(∃ xs,SqT K H1 a xs)/\R (IteT K a) H1
theorem pi_enumT {l:Expr} {tl:TE} {p pos:Pos} (hg:Gl X "enumerate") (hm:X.mg "enumerate" = none) (hl:PE X l tl) (hs:starEach [l] X.env=[(false,eval l X.env)]:=by rfl) :
 PI X (.Tuple elts k tpos) (.Call (.Name "enumerate" p) [l] [] pos) (iEnumT X.K tl):=by
 intro pins s σ H R I h
 refine Call_ (ld_blt I hg hm boot_enumerate (PyProof.Rows.callWith_type1 ?_ hs rfl))
 rw [hs]
 show wpAny _ _ (spliced ((false,eval l X.env)::backTo pos (starEach [] X.env))) _ _ s
 refine Calls.spliced_cons (thn (hl pins s σ H _ I h) fun u s1 ⟨x,H1,I1,r1,a,ex,⟨xs,hq⟩,q⟩=>?_)
 subst ex
 cases r1
 obtain ⟨its,rv,p,hz⟩:=I1.tuple hq
 have alt:=p.lt
 refine Calls.spliced_nil ?_
 refine call_enumT p fun h' he hit hk=>?_
 refine wpAny_pyIter_enum he ?_
 have I2:Inv X pins σ H1 { s1 with heap:=h' }:=I1.kept (t':=s1.toks) hk
 refine ⟨s1.heap.objs.size+1,[s1.heap.objs.size+1,s1.heap.objs.size],_,_,H1,rfl,I2,turn_enumT a _ _ (Nat.ne_of_gt (Nat.lt_succ_self _)) (Nat.ne_of_lt alt) (Nat.ne_of_lt (Nat.lt_succ_of_lt alt)),⟨⟨_,he⟩,hit⟩,fun b hb=>?_,q⟩
 rcases List.mem_cons.mp hb with z | z
 . rw [z]
   exact I1.fpOk (Nat.le_succ _) (I1.hok.fresh (Nat.le_succ _))
 . rw [List.mem_singleton.mp z]
   exact I1.fpOk (Nat.le_refl _) (I1.hok.fresh (Nat.le_refl _))
end
theorem for_enumT {K:W.Frag} {a:Addr} {xs:List V} {g:TG} {tb:TS} {D:Ends} {σ:St} {H:Hp} (Pv:Nat->St->Hp->Prop) (h0:Pv 0 σ H) (hl:∀ i σ H,i<=xs.length->Pv i σ H->SqT K H a xs)
 (hs:∀ i x σ H t,xs[i]?=some x->Pv i σ H->H t=none->g (.ref t) σ (upd H t (.tup [.int i,x])) fun σ2 H2=>tb { D with nx:=Pv (i+1),ct:=Pv (i+1),bk:=D.nx } σ2 H2) (hd:∀ σ H,Pv xs.length σ H->D.nx σ H) :
 ∃ W:Nat->Nat->St->Hp->Prop,(∃ m,W 0 m σ H)/\∀ i m σ H,W i m σ H ->
  ((IteT K a).stop i H/\D.nx σ H)∨((IteT K a).go i H/\∃ N:St->Hp->Prop,(∀ σ' H',N σ' H'->∃ m',m' < m/\W (i+1) m' σ' H')/\∀ x H',(IteT K a).yld i H x H'->g x σ H' fun σ2 H2=>tb { D with nx:=N,ct:=N,bk:=D.nx } σ2 H2):=by
 refine ⟨fun i m σ H=>m=xs.length - i/\i<=xs.length/\Pv i σ H,⟨xs.length,by simp,Nat.zero_le _,h0⟩,?_⟩
 rintro i m σ H ⟨rfl,hi,p⟩
 have q:=hl i σ H hi p
 by_cases hlt:i < xs.length
 . refine .inr ⟨⟨xs,xs[i],q,by simp [hlt]⟩,Pv (i+1),fun σ' H' p'=>⟨xs.length - (i+1),by omega,rfl,hlt,p'⟩,fun x H' y=>?_⟩
   obtain ⟨t,rfl,ht,e⟩:=y
   have e':=e xs xs[i] q (by simp [hlt])
   subst e'
   exact hs i xs[i] σ H t (by simp [hlt]) p ht
 . have e:i=xs.length:=by omega
   subst e
   exact .inl ⟨⟨xs,q,Nat.le_refl _⟩,hd σ H p⟩
def ItV (K:W.Frag) (a:Addr) (xs:List V):It:=⟨fun i H=>SqL K H a xs/\i < xs.length,fun i H y H'=>H'=H/\xs.reverse[i]?=some y,fun i _=>xs.length<=i⟩
theorem turn_revl {P:Program} {w:World} {K:W.Frag} {tg:Expr} (a it:Addr) (xs:List V):Turn P w K tg (ItV K a xs) [it] it (fun i h=>i<=xs.length/\h.IsRevIter it a ((xs.length:Int) - 1 - (i:Int))) where
 mem:=by simp
 obj:=fun i h st b hb=>by
  have e:b=it:=by simpa using hb
  subst e
  obtain ⟨_,o,e,c,d⟩:=st
  exact ⟨o,e,fun v z=>by rw [d] at z; cases z⟩
 keep:=fun i h h' st k=>⟨st.1,st.2.at fun o e=>k it (by simp) o e⟩
 item:=by
  intro X hP hw hK hc i pins s σ H E I hf st hg
  subst hP hw hK
  obtain ⟨hq,hi⟩:=hg
  obtain ⟨its,rv,p,hz⟩:=I.list hq
  have hj:xs.length - 1 - i < xs.length:=by omega
  have hx:xs[xs.length - 1 - i]?=some xs[xs.length - 1 - i]:=List.getElem?_eq_getElem hj
  obtain ⟨u,hu,ru⟩:=rv.get hx
  obtain ⟨f0,f1,f2,f3,f4,f5⟩:=hf it (by simp)
  obtain ⟨_,hit⟩:=st
  have e1:((xs.length:Int) - 1 - (i:Int))=((xs.length - 1 - i:Nat):Int):=by omega
  rw [e1] at hit
  refine wpAny_pyNext_rev_item hit p.isList (x:=u) (by simpa using hu) fun h' st' sb=>?_
  have I1:Inv X pins σ H { s with heap:=h' }:=I.turned (t':=s.toks) (fun b o hb e=>(sb.2 b hb).trans e) f0 f1 f3 f4 f5
  have e2:((xs.length - 1 - i:Nat):Int) - 1=(xs.length:Int) - 1 - ((i+1:Nat):Int):=by omega
  rw [e2] at st'
  obtain ⟨o,e,c,d⟩:=id st'
  refine ⟨u,rfl,go_of (s:={ s with heap:=h' }) e c d (by decide) ⟨xs[xs.length - 1 - i],H,I1,ru,⟨rfl,?_⟩,⟨by omega,st'⟩,fun b hb=>(hf b hb).1⟩⟩
  rw [List.getElem?_reverse hi,hx]
 done:=by
  intro X hP hw hK hc i pins s σ H E I hf st hg
  subst hP hw hK
  have hg:xs.length<=i:=hg
  obtain ⟨f0,f1,f2,f3,f4,f5⟩:=hf it (by simp)
  obtain ⟨hi,hit⟩:=st
  have e1:(xs.length:Int) - 1 - (i:Int)=-1:=by omega
  rw [e1] at hit
  exact wpAny_pyNext_rev_end (I.ok.hd hc) hit fun h' eb=>⟨rfl,I.turned (t':=s.toks) (fun b o hb e=>eb b o hb e) f0 f1 f3 f4 f5⟩
 self:=fun _ _ _ _ _ st h=>wpAny_pyIter_revIter st.2 h
theorem for_revl {K:W.Frag} {a:Addr} {xs:List V} {g:TG} {tb:TS} {D:Ends} {σ:St} {H:Hp} (Pv:Nat->St->Hp->Prop) (h0:Pv 0 σ H) (hl:∀ i σ H,i<=xs.length->Pv i σ H->SqL K H a xs)
 (hs:∀ i x σ H,i < xs.length->xs.reverse[i]?=some x->Pv i σ H->g x σ H fun σ2 H2=>tb { D with nx:=Pv (i+1),ct:=Pv (i+1),bk:=D.nx } σ2 H2) (hd:∀ σ H,Pv xs.length σ H->D.nx σ H) :
 ∃ W:Nat->Nat->St->Hp->Prop,(∃ m,W 0 m σ H)/\∀ i m σ H,W i m σ H ->
  ((ItV K a xs).stop i H/\D.nx σ H)∨((ItV K a xs).go i H/\∃ N:St->Hp->Prop,(∀ σ' H',N σ' H'->∃ m',m' < m/\W (i+1) m' σ' H')/\∀ x H',(ItV K a xs).yld i H x H'->g x σ H' fun σ2 H2=>tb { D with nx:=N,ct:=N,bk:=D.nx } σ2 H2):=by
 refine ⟨fun i m σ H=>m=xs.length - i/\i<=xs.length/\Pv i σ H,⟨xs.length,by simp,Nat.zero_le _,h0⟩,?_⟩
 rintro i m σ H ⟨rfl,hi,p⟩
 have q:=hl i σ H hi p
 by_cases hlt:i < xs.length
 . refine .inr ⟨⟨q,hlt⟩,Pv (i+1),fun σ' H' p'=>⟨xs.length - (i+1),by omega,rfl,hlt,p'⟩,fun x H' y=>?_⟩
   obtain ⟨e,ex⟩:=y
   subst e
   exact hs i x σ _ hlt ex p
 . have e:i=xs.length:=by omega
   subst e
   exact .inl ⟨Nat.le_refl _,hd σ H p⟩
theorem mt_countK {X:Cx} (K:W.Frag) (h:X.K=K:=by rfl):MtR X "list.count" (rCountL K):=by subst h; exact mt_count
section
variable {X:Cx} {o e:Expr} {es:List Expr} {to ta:TE} {t:TA} {T id:String} {name f:Str} {r:V->List V->Hp->VK->Prop} {apos cpos pos:Pos}
theorem pe_bmK (K:W.Frag) (pa:PlainAttrs T) (slot:Slot T name id) (hty:typeOf (.builtin id)=pure (.type "method_descriptor")) (hm:MtR X id r) (ho:PE X o to) (ha:PA X (e::es) t) (hK:X.K=K:=by rfl)
 (hbase:attributeBase o name X.env (eval o X.env)=eval o X.env:=by rfl)
 (hfew:((backTo cpos (starEach (e::es) X.env)).all (fun x=>!x.1) && (backToKw cpos (keywordEach [] X.env)).all (fun x=>x.1.isSome) && decide ((e::es).length+([]:List Keyword).length+(if ([]:List Keyword).isEmpty then 0 else 1) < 30))=true:=by rfl)
 (hline:(apos.endLine == cpos.line)=true:=by rfl) (hs:starEach (e::es) X.env=(false,eval e X.env)::starEach es X.env:=by rfl) (hplain:(backTo cpos (starEach es X.env)).any (·.1)=false:=by rfl) :
 PE X (.Call (.Attribute o name apos) (e::es) [] cpos) (tBM K T r to t):=by subst hK; exact pe_bm pa slot hty hm ho ha hbase hfew hline hs hplain
theorem pe_fldK (K:W.Frag) (he:PE X e ta) (hK:X.K=K:=by rfl) (hb:attributeBase e f X.env (eval e X.env)=eval e X.env:=by rfl):PE X (.Attribute e f pos) (tFld K ta f):=by subst hK; exact aH he hb
end
@[reducible] def cJ (X:Cx) (x:Str) (N:List Str) (scope:Scope) (cl:List (Str × Addr)) (s:Shared) (H:Hp) (fp:List Addr):Cx where
 prog:=X.prog
 w:=X.w
 K:=X.K
 mg:=X.mg
 base:=X.base
 A:=X.A
 N:=x::N
 s₀:=s
 H₀:=H
 env:=compEnvC scope ((x,s.heap.objs.size+1)::cl) s.heap.objs.size X.env
 outer:=X.stack
 stack:=X.stack
 ex:=fp
 fn:=fun y=>y == x
 calm:=X.calm
 pn:=[]
 xe:=fun _ _=>False
structure CompScopeO (X:Cx) (x:Str) (N:List Str) (ix:List Nat) (scope:Scope) (cl:List (Str × Addr)):Prop where
 clos:closureFor scope X.env=pure cl
 lay:∀ (n:Addr) (h:Heap),cellsFrom n scope.names cl=(x,n)::cl/\pushCells h scope.names=h.push { cls:=.type "cell", data:=.cell none }
 kind:scope.kind=.function
 names:∀ y ∈ scope.names,y.2=.local->scope.names.lookup y.1=some .local
 own:(relabel scope X.env).names.lookup x=some .cell
 nd:(x::N).Nodup
 sub:∀ p ∈ cl,X.env.cells.lookup p.1=some p.2
 has:((relabel scope X.env).names.all fun p=>!(p.2 == .cell || p.2 == .free) || (p.1 == x || (cl.lookup p.1).isSome))=true
 outs:∀ (j:Nat) (y:Str),N[j]?=some y->(relabel scope X.env).names.lookup y=some .cell/\∃ k c,ix[j]?=some k/\X.N[k]?=some y/\cl.lookup y=some c/\X.env.scope.names.lookup y=some .cell
section
variable {X:Cx} {pins:List (Addr × Obj)} {σ:St} {x:Str} {N:List Str} {ix:List Nat} {scope:Scope} {cl:List (Str × Addr)} {fp:List Addr} {H3:Hp} {s3:Shared}
theorem CompScopeO.cells (S:CompScopeO X x N ix scope cl) {y:Str} {c:Addr} (h:cl.lookup y=some c):X.env.cells.lookup y=some c:=S.sub _ (PySem.mem_of_lookup h)
theorem db {x y:Str} {n c:Addr} {cl:List (Str × Addr)} (h:((x,n)::cl).lookup y=some c):(y=x/\c=n)∨(y ≠ x/\cl.lookup y=some c):=by
 by_cases e:y=x
 . subst e
   simp [List.lookup] at h
   exact .inl ⟨rfl,h.symm⟩
 . have e':(y == x)=false:=by simpa using e
   simp only [List.lookup,e'] at h
   exact .inr ⟨e,h⟩
theorem cons_lookup_ne {x y:Str} {n:Addr} {cl:List (Str × Addr)} (e:y ≠ x):((x,n)::cl).lookup y=cl.lookup y:=by
 have e':(y == x)=false:=by simpa using e
 simp only [List.lookup,e']
theorem compO_cx (S:CompScopeO X x N ix scope cl) (I3:Inv X pins σ H3 s3) (hf:∀ b ∈ fp,FpOk X pins H3 b) (hlt:∀ b ∈ fp,b < s3.heap.objs.size):(cJ X x N scope cl s3 H3 fp).Ok where
 mod:=I3.ok.mod
 kind:=S.kind
 glob:=I3.ok.glob
 blt:=I3.ok.blt
 above:=Nat.le_refl _
 inj:=fun y z c h1 h2=>by
  have lt:∀ y c,cl.lookup y=some c->c < s3.heap.objs.size:=fun y c e=>by
   obtain ⟨v,q⟩:=I3.cell y c (S.cells e)
   exact q.lt
  rcases db h1 with ⟨e1,c1⟩ | ⟨e1,l1⟩ <;> rcases db h2 with ⟨e2,c2⟩ | ⟨e2,l2⟩
  . rw [e1,e2]
  . exact absurd (lt z c l2) (by rw [c1]; exact Nat.not_lt.mpr (Nat.le_succ _))
  . exact absurd (lt y c l1) (by rw [c2]; exact Nat.not_lt.mpr (Nat.le_succ _))
  . exact I3.ok.inj y z c (S.cells l1) (S.cells l2)
 has:=fun y hy=>by
  by_cases e:y=x
  . subst e
    exact ⟨s3.heap.objs.size+1,by show ((y,s3.heap.objs.size+1)::cl).lookup y=_; simp [List.lookup]⟩
  have q:=List.all_eq_true.mp S.has
  have hy:(relabel scope X.env).names.lookup y=some .cell∨(relabel scope X.env).names.lookup y=some .free:=hy
  have z:∀ k:NameKind,(k == .cell || k == .free)=true->(relabel scope X.env).names.lookup y=some k->∃ c,((x,s3.heap.objs.size+1)::cl).lookup y=some c:=fun k hk e2=>by
   have r:=q _ (PySem.mem_of_lookup e2)
   have ey:(y == x)=false:=by simpa using e
   rw [hk] at r
   rw [cons_lookup_ne e]
   have r':(cl.lookup y).isSome=true:=by simpa [ey] using r
   exact Option.isSome_iff_exists.mp r'
  rcases hy with e | e
  . exact z _ (by rfl) e
  . exact z _ (by rfl) e
 cab:=fun y c h e=>by
  have ey:y=x:=by simpa using (show (y == x)=true from h)
  rcases db e with ⟨_,c1⟩ | ⟨n,_⟩
  . rw [c1]; exact Nat.le_succ _
  . exact absurd ey n
 hd:=I3.ok.hd
 frames:=I3.ok.frames
 stk:=.inl rfl
 exf:=fun b hb=>⟨Nat.ne_of_lt (hlt b hb),fun y c e=>by
  rcases db e with ⟨_,c1⟩ | ⟨_,l⟩
  . rw [c1]; exact Nat.ne_of_gt (Nat.lt_succ_of_lt (hlt b hb))
  . exact (hf b hb).2.2.2.2.1 y c (S.cells l)⟩
 bs:=fun b o e=>I3.bs b o e
 bsz:=Nat.le_trans I3.ok.bsz I3.sz
 noex:=fun b o e hb=>by
  rcases (hf b hb).2.2.2.1 with z | z
  . exact I3.ok.noex b o e z
  . exact absurd (Nat.lt_of_lt_of_le (Heap.lt_size e) (Nat.le_trans I3.ok.bsz z)) (Nat.lt_irrefl _)
 exfs:=fun b hb z=>by
  rcases List.mem_cons.mp (I3.stkSub b z) with e | e
  . exact (hf b hb).2.1 e
  . exact (hf b hb).2.2.1 e
 funs:=I3.stack
 frf:=I3.stkFree
theorem compO_start (S:CompScopeO X x N ix scope cl) (I3:Inv X pins σ H3 s3) (hf:∀ b ∈ fp,FpOk X pins H3 b) (hlt:∀ b ∈ fp,b < s3.heap.objs.size) (hix:ix.length=N.length) {h1:Heap} {t':Nat} {m:Str->Option Value}
 (hn:h1.Ns s3.heap.objs.size m) (hc:h1.IsCell (s3.heap.objs.size+1) none) (hk:∀ b o,s3.heap.get? b=some o->h1.get? b=some o):Inv (cJ X x N scope cl s3 H3 fp) [] (none::outs ix σ) H3 { s3 with heap:=h1,toks:=t' } where
 ok:=compO_cx S I3 hf hlt
 os:=rfl
 bare:=I3.bare
 base:=Un.kept hk
 loc:=by
  refine ⟨m,hn,fun i y v h1' h2 h3=>?_⟩
  cases i with
  | zero =>
    have h2':(some (none:Option V))=some (some v):=h2
    cases h2'
  | succ j =>
    have h1'':N[j]?=some y:=h1'
    have h2':(outs ix σ)[j]?=some (some v):=h2
    have nyx:y ≠ x:=fun z=>(List.nodup_cons.mp S.nd).1 (z ▸ List.mem_of_getElem? h1'')
    obtain ⟨hr,k,c,e1,e2,e3,e4⟩:=S.outs j y h1''
    unfold outs at h2'
    rw [List.getElem?_map,e1] at h2'
    have h2'':(σ[k]?).join=some v:=Option.some.inj h2'
    have e5:σ[k]?=some (some v):=by
     cases q:σ[k]? with
     | none=>rw [q] at h2''; cases h2''
     | some o=>rw [q] at h2''; exact congrArg some h2''
    obtain ⟨m0,_,hl⟩:=I3.loc
    obtain ⟨u,r,l⟩:=hl k y v e2 e5 (.inr (.inl e4))
    refine ⟨u,r,.inr ⟨.inl hr,c,(cons_lookup_ne nyx).trans e3,?_⟩⟩
    rcases l with ⟨kk,_⟩ | ⟨_,c',ec,z⟩
    . have kk':X.env.scope.names.lookup y=some .local:=kk
      rw [e4] at kk'; cases kk'
    . rw [S.cells e3] at ec
      cases ec
      obtain ⟨o,ho,hd⟩:=z
      exact ⟨o,hk _ _ ho,hd⟩
 cell:=fun y c e=>by
  rcases db e with ⟨_,c1⟩ | ⟨_,l⟩
  . rw [c1]; exact ⟨none,hc⟩
  . obtain ⟨v,o,ho,hd⟩:=I3.cell y c (S.cells l)
    exact ⟨v,o,hk _ _ ho,hd⟩
 free:=I3.hok.fresh (Nat.le_refl _)
 freeC:=fun y c e=>by
  rcases db e with ⟨_,c1⟩ | ⟨_,l⟩
  . rw [c1]; exact I3.hok.fresh (Nat.le_succ _)
  . exact I3.freeC y c (S.cells l)
 pin:=fun p hp=>absurd (show p ∈ ([]:List (Addr × Obj)) from hp) (by simp)
 hok:=I3.hok.kept hk
 len:=by
  show (none::outs ix σ).length=(x::N).length
  rw [List.length_cons,List.length_cons]
  unfold outs
  rw [List.length_map,hix]
theorem compO_back (I3:Inv X pins σ H3 s3) (hf:∀ b ∈ fp,FpOk X pins H3 b) {σ':St} {H':Hp} {s':Shared} {h'':Heap} (J:Inv (cJ X x N scope cl s3 H3 fp) [] σ' H' s') (hb:Heap.SameBut s3.heap.objs.size s'.heap h'') :
 Inv X pins σ H' { s' with heap:=h'' }:=by
 have ne:∀ b o,s3.heap.get? b=some o->b ≠ s3.heap.objs.size:=fun b o e=>Nat.ne_of_lt (Heap.lt_size e)
 have B:Un (frs X.stack) fp H3 H' s3.heap s'.heap:=J.base
 refine I3.call' (s':={ s' with heap:=h'' }) (ch:=fp) J.os ⟨fun b o e n h1 h2=>(hb.2 b (ne b o e)).trans (B.keep b o e n h1 h2),fun b o e n h1 h2=>?_,B.free,fun b o e h2=>?_,B.tups,B.frzs,B.tbls⟩ (fun b ob e=>?_) J.bare (fun b z=>?_)
 . obtain ⟨sl,q⟩:=B.slot b o e n h1 h2
   exact ⟨sl,(hb.2 b (ne b o e)).trans q⟩
 . obtain ⟨o',q⟩:=B.there b o e h2
   exact ⟨o',(hb.2 b (ne b o e)).trans q⟩
 . have fr:H' s3.heap.objs.size=none:=J.free
   refine (J.hok b ob e).stay (fun c w' hc q=>(hb.2 c ?_).trans q) (fun _ q=>q) fun _ _ q=>q
   rintro rfl
   rcases hc with rfl | hc
   . rw [fr] at e; cases e
   . rw [fr] at hc; cases hc
 . obtain ⟨_,h2,_,h4,h5,h6⟩:=hf b z
   exact ⟨h4,h2,h5,h6⟩
end
section
variable {M:Model} {A:Around} {E:Value->Shared->Prop} {s:Shared}
theorem new_envO {scope:Scope} {globals:Addr} {cl:List (Str × Addr)} {x qual:Str} {env:Env} {Q:Env->Shared->Prop} (lay:∀ (n:Addr) (h:Heap),cellsFrom n scope.names cl=(x,n)::cl/\pushCells h scope.names=h.push { cls:=.type "cell", data:=.cell none })
 (q:∀ h',h'.Ns s.heap.objs.size (fun _=>none)->h'.IsCell (s.heap.objs.size+1) none->(∀ b o,s.heap.get? b=some o->h'.get? b=some o) ->
  Q { scope:=scope,locals:=s.heap.objs.size,globals:=globals,cells:=(x,s.heap.objs.size+1)::cl,qual:=qual,func:=none,code:=env.code,frame:=env.frame,builtins:=env.builtins } { s with heap:=h' }) :
 wpAny M A (newFunctionEnv scope globals cl [] qual none .none (some env)) Q E s:=by
 simp only [newFunctionEnv,Option.isSome_some,if_true]
 refine wpAny_bind (wpAny_alloc ?_)
 refine wpAny_bind (wpAny_layCells _ (fun name kind cells=>by cases hkc:kind == NameKind.cell <;> simp [hkc]) _ _ _ _ ?_)
 have hz:(s.heap.push { cls:=.type "dict", data:=.dict #[] }).objs.size=s.heap.objs.size+1:=Heap.size_push ..
 rw [show ({ s with heap:=s.heap.push { cls:=.type "dict", data:=.dict #[] } }:Shared).heap.objs.size=s.heap.objs.size+1 from hz,(lay _ s.heap).1]
 show wpAny M A (do let _ ← (forIn [] PUnit.unit fun _ _=>_:Sem PUnit); pure _) Q E _
 rw [List.forIn_nil]
 refine wpAny_bind (wpAny_pure (wpAny_pure ?_))
 rw [(lay 0 _).2]
 refine q _ ((Heap.Ns.new s.heap (.type "dict")).keeps fun b o e=>Heap.get?_push_of_some _ e) ?_ fun b o e=>Heap.get?_push_of_some _ (Heap.get?_push_of_some _ e)
 rw [← hz]
 exact ⟨_,Heap.get?_push_size _ rfl,rfl⟩
end
section
variable {X:Cx} {x:Str} {N:List Str} {ix:List Nat} {scope:Scope} {cl:List (Str × Addr)} {elt iter:Expr} {ifs:List Expr} {px pos:Pos} {wi:TI} {tb:TBl}
theorem compO_run (hc:X.calm=true) (S:CompScopeO X x N ix scope cl) (hix:ix.length=N.length) (hb:∀ s3 H3 fp,PB (cJ X x N scope cl s3 H3 fp) ifs elt tb)
 {pins:List (Addr × Obj)} {s2:Shared} {σ:St} {H2:Hp} {Q:VK} {it:Addr} {fp:List Addr} {tn:Nat->Heap->Prop} {J:It} {RR:Value->Addr->Result->Shared->Prop} {E:Value->Shared->Prop}
 (I2:Inv X pins σ H2 s2) (T:Turn X.prog X.w X.K (.Name x px) J fp it tn) (st2:tn 0 s2.heap) (f2:∀ b ∈ fp,FpOk X pins H2 b)
 (h:∀ D,H2 D=none->∃ W:Nat->Nat->Hp->Prop,(∃ m,W 0 m (upd H2 D (.lst [])))/\∀ i m H3,W i m H3 ->
  (J.stop i H3/\Q (.ref D) H3)∨(J.go i H3/\∀ y H4,J.yld i H3 y H4->tb (some y::outs ix σ) H4 (fun H5=>∃ m',m' < m/\W (i+1) m' H5)
   fun z H5=>∃ ys,H5 D=some (.lst ys)/\ys.length < sizeLine/\∃ m',m' < m/\W (i+1) m' (upd H5 D (.lst (ys++[z])))))
 (hRR:∀ (D C:Addr) (H':Hp) (s':Shared) (m:Str->Option Value),s'.heap.Ns C m->Apart X pins H' C->Inv X pins σ H' s'->Q (.ref D) H'->RR (.ref D) C (.ok .next) s') :
 wpAny (model X.prog X.w) X.A (newList []) (fun acc s3=>wpAny (model X.prog X.w) X.A (newFunctionEnv scope X.env.globals cl [] X.env.qual none .none (some X.env)) (fun cenv s4 =>
  codeAny (model X.prog X.w) X.A (.compStart (.ListComp elt [⟨.Name x px,iter,ifs,0⟩] scope pos) 0 (.ref it) acc { cenv with scope:=relabel scope X.env }) (RR acc cenv.locals) s4) E s3) E s2:=by
 refine wpAny_newObj_type (new_envO S.lay fun h1 hns1 hcl1 up1=>?_)
 dsimp only at hns1 hcl1 up1 ⊢
 have I3:Inv X pins σ (upd H2 s2.heap.objs.size (.lst [])) { s2 with heap:=s2.heap.push { cls:=.type "list", dict:=none,data:=.seq ([]:List Value).toArray } }:=I2.lnew (its:=[]) (ys:=[]) (t':=s2.toks) .nil (Nat.zero_le _)
 have hD:H2 s2.heap.objs.size=none:=I2.fresh
 obtain ⟨W,⟨m0,w0⟩,turn⟩:=h s2.heap.objs.size hD
 have hltF:∀ b ∈ fp,b < s2.heap.objs.size:=fun b hb=>by
  obtain ⟨o,e,_⟩:=T.obj 0 _ st2 b hb
  exact Heap.lt_size e
 generalize hs3:({ s2 with heap:=s2.heap.push { cls:=.type "list", dict:=none,data:=.seq ([]:List Value).toArray } }:Shared)=s3 at I3
 have eh:s2.heap.push { cls:=.type "list", dict:=none,data:=.seq ([]:List Value).toArray }=s3.heap:=by rw [← hs3]
 have et:s2.toks=s3.toks:=by rw [← hs3]
 rw [eh] at hns1 hcl1 up1 ⊢
 have sz3:s3.heap.objs.size=s2.heap.objs.size+1:=by rw [← eh,Heap.size_push]
 have hlt3:∀ b ∈ fp,b < s3.heap.objs.size:=fun b hb=>Nat.lt_of_lt_of_le (hltF b hb) (by rw [sz3]; exact Nat.le_succ _)
 have f3:∀ b ∈ fp,FpOk X pins (upd H2 s2.heap.objs.size (.lst [])) b:=fun b hb=>by
  obtain ⟨q1,q2⟩:=f2 b hb
  exact ⟨by rw [au (Nat.ne_of_lt (hltF b hb))]; exact q1,q2⟩
 have up:∀ b o,s3.heap.get? b=some o->h1.get? b=some o:=up1
 have old:∀ b o,s2.heap.get? b=some o->h1.get? b=some o:=fun b o e=>up b o (by rw [← eh]; exact Heap.get?_push_of_some _ e)
 have es:({ s2 with heap:=h1 }:Shared)={ s3 with heap:=h1,toks:=s3.toks }:=by rw [← hs3]
 rw [es]
 have I4:Inv (cJ X x N scope cl s3 (upd H2 s2.heap.objs.size (.lst [])) fp) [] (none::outs ix σ) (upd H2 s2.heap.objs.size (.lst [])) { s3 with heap:=h1,toks:=s3.toks } :=
  compO_start S I3 f3 hlt3 hix hns1 hcl1 up
 have st4:tn 0 h1:=T.keep 0 _ _ st2 fun b _ o e=>old b o e
 have loop:codeAny (model X.prog X.w) X.A (.compLoop (.ListComp elt [⟨.Name x px,iter,ifs,0⟩] scope pos) 0 (.ref it) (.ref s2.heap.objs.size) (compEnvC scope ((x,s3.heap.objs.size+1)::cl) s3.heap.objs.size X.env)) (RR (.ref s2.heap.objs.size) s3.heap.objs.size)
  { s3 with heap:=h1,toks:=s3.toks }:=by
  refine compLoop_go (fun n s'=>∃ i v0 H',Inv (cJ X x N scope cl s3 (upd H2 s2.heap.objs.size (.lst [])) fp) [] (v0::outs ix σ) H' s'/\tn i s'.heap/\(∀ b ∈ fp,H' b=none)/\W i n H') ?_ m0 ⟨0,none,_,I4,st4,fun b hb=>(f3 b hb).1,w0⟩
  rintro n s5 ⟨i,v0,H5,I5,st5,fr5,w5⟩
  have stat:∀ {H':Hp},(∀ b ∈ fp,H' b=none)->∀ b ∈ fp,FpOk (cJ X x N scope cl s3 (upd H2 s2.heap.objs.size (.lst [])) fp) [] H' b:=fun hn b hb =>
   ⟨hn b hb,((compO_cx S I3 f3 hlt3).exf b hb).1,(compO_cx S I3 f3 hlt3).exfs b hb,.inl hb,((compO_cx S I3 f3 hlt3).exf b hb).2,fun p hp=>absurd (show p ∈ ([]:List (Addr × Obj)) from hp) (by simp)⟩
  rcases turn i n H5 w5 with ⟨stop,qn⟩ | ⟨go,step⟩
  . refine thn (T.done (cJ X x N scope cl s3 (upd H2 s2.heap.objs.size (.lst [])) fp) rfl rfl rfl hc i [] s5 _ H5 _ I5 (stat fr5) st5 stop) fun r s6 ⟨hr,I6⟩=>?_
    subst hr
    obtain ⟨m6,hn6,_⟩:=I6.loc
    exact hRR _ _ H5 s6 m6 hn6 ⟨I6.free,Ne.symm (Nat.ne_of_lt I3.lt),I3.sz,fun y c e z=>by
     obtain ⟨v,q⟩:=I3.cell y c e
     exact absurd q.lt (by rw [z]; exact Nat.lt_irrefl _),fun p hp z=>absurd (Heap.lt_size (I3.pin p hp).1) (by rw [z]; exact Nat.lt_irrefl _)⟩ (compO_back I3 f3 I6 (Heap.SameBut.refl _ _)) qn
  . refine thn (T.item (cJ X x N scope cl s3 (upd H2 s2.heap.objs.size (.lst [])) fp) rfl rfl rfl hc i [] s5 _ H5 _ I5 (stat fr5) st5 go) fun r s6 ⟨u,hr,h6⟩=>?_
    subst hr
    refine thn h6 fun _ s7 ⟨y,H7,I7,r7,y7,st7,fr7⟩=>?_
    have I7':=I7.pinned (stat fr7) (T.obj _ _ st7)
    refine wpAny_assign_Name (store_ok (i:=0) I7' S.nd rfl (.inr S.own) r7 (fun s8 I8=>?_) (.inl (by show (x == x)=true; simp)))
    have I8':Inv (cJ X x N scope cl s3 (upd H2 s2.heap.objs.size (.lst [])) fp) ([]++pinsAt fp s7.heap) (some y::outs ix σ) H7 s8:=I8
    have again:∀ {v9:Option V} {H9:Hp} {s9:Shared},Inv (cJ X x N scope cl s3 (upd H2 s2.heap.objs.size (.lst [])) fp) ([]++pinsAt fp s7.heap) (v9::outs ix σ) H9 s9->(∃ m',m' < n/\W (i+1) m' H9) ->
     ∃ m,m < n/\∃ i v0 H',Inv (cJ X x N scope cl s3 (upd H2 s2.heap.objs.size (.lst [])) fp) [] (v0::outs ix σ) H' s9/\tn i s9.heap/\(∀ b ∈ fp,H' b=none)/\W i m H':=fun {v9 H9 s9} I9 ⟨m',hm,w9⟩=>by
     refine ⟨m',hm,i+1,v9,H9,I9.unpinned,T.keep _ _ _ st7 fun b hb o e=>(I9.pin (b,o) (List.mem_append_right _ (List.mem_append_right _ (cB hb e)))).1,fun b hb=>?_,w9⟩
     obtain ⟨o,e,d⟩:=T.obj _ _ st7 b hb
     exact (I9.pin (b,o) (List.mem_append_right _ (List.mem_append_right _ (cB hb e)))).2.1
    refine thn (hb s3 (upd H2 s2.heap.objs.size (.lst [])) fp _ s8 _ H7 _ _ I8' (step y H7 y7)) fun ok s9 q9=>?_
    cases ok with
    | false =>
      rw [if_neg (by decide)] at q9 ⊢
      obtain ⟨H9,I9,q9⟩:=q9
      exact again I9 q9
    | true =>
      rw [if_pos rfl] at q9 ⊢
      refine thn q9 fun u s10 ⟨z,H10,I10,r10,ys,hy,hz,q10⟩=>?_
      refine thn (cI _ s10 _ H10 (.ref s2.heap.objs.size) [z] (.ref s2.heap.objs.size) [u] (fun _ H'=>∃ m',m' < n/\W (i+1) m' H') I10 rfl (.cons r10 .nil) ⟨_,ys,z,rfl,rfl,hy,hz,q10⟩) fun _ s11 ⟨_,H11,I11,_,q11⟩=>?_
      exact again I11 q11
 exact codeAny_compStart_list loop (T.self _ 0 _ _ _ st4 loop)
theorem pe_compO (hc:X.calm=true) (S:CompScopeO X x N ix scope cl) (hix:ix.length=N.length) (hi:PI X (.Name x px) iter wi) (hb:∀ s3 H3 fp,PB (cJ X x N scope cl s3 H3 fp) ifs elt tb)
 (hs:∀ x,foldedSetIterable iter X.env x=pure x:=by intro _; rfl):PE X (.ListComp elt [⟨.Name x px,iter,ifs,0⟩] scope pos) (tCompR wi ix tb):=by
 intro pins s σ H Q I h
 rw [eval_ListComp]
 refine wpAny_comprehension_free (use:=none) rfl hs S.clos S.kind S.names (thn (hi pins s σ H _ I h) fun xv s1 h1=>thn h1 fun itv s2 h2=>?_)
 obtain ⟨it,fp,tn,J,H2,rfl,I2,T,st2,f2,R⟩:=h2
 refine compO_run hc S hix hb (RR:=fun acc C=>compPost (model X.prog X.w) X.A X.xe none (EP X pins σ Q) acc C) I2 T st2 f2 R ?_
 intro D C H' s' m hn ap I' q
 exact ⟨m,hn,fun h'' hb''=>⟨.ref D,H',ap.turn I' hb'',rfl,q⟩⟩
theorem CompScopeO.one {y:Str} {k:Nat} {c:Addr} (c1:closureFor scope X.env=pure [(y,c)]) (c2:∀ (n:Addr) (h:Heap),cellsFrom n scope.names [(y,c)]=(x,n)::[(y,c)]/\pushCells h scope.names=h.push { cls:=.type "cell", data:=.cell none }) (c3:scope.kind=.function) (c4:∀ y ∈ scope.names,y.2=.local->scope.names.lookup y.1=some .local)
 (c5:(relabel scope X.env).names.lookup x=some .cell) (nd:[x,y].Nodup) (hc:X.env.cells.lookup y=some c) (c6:((relabel scope X.env).names.all fun p=>!(p.2 == .cell || p.2 == .free) || (p.1 == x || (([(y,c)]:List (Str × Addr)).lookup p.1).isSome))=true)
 (hr:(relabel scope X.env).names.lookup y=some .cell) (hk:X.N[k]?=some y) (hs:X.env.scope.names.lookup y=some .cell):CompScopeO X x [y] [k] scope [(y,c)] where
 clos:=c1
 lay:=c2
 kind:=c3
 names:=c4
 own:=c5
 nd:=nd
 sub:=fun p hp=>by
  rw [List.mem_singleton.mp hp]
  exact hc
 has:=c6
 outs:=fun j z h=>by
  cases j with
  | zero =>
    have e:y=z:=Option.some.inj h
    subst e
    exact ⟨hr,k,c,rfl,hk,by simp [List.lookup],hs⟩
  | succ j=>simp at h
theorem call_tuple_ofK (K:W.Frag) (hK:X.K=K:=by rfl):CallR X (.type "tuple") (fun xs H Q=>∃ p ys,xs=[.ref p]/\((SqL K H p ys/\∀ l,H l=none->Q (.ref l) (upd H l (.tup ys)))∨(SqT K H p ys/\Q (.ref p) H))):=by subst hK; exact bz
end
theorem CompScope.four {X:Cx} {x y z u v:Str} {scope:Scope} {k l m n:Nat} {c d e g:Addr} {cl:List (Str × Addr)} (c1:closureFor scope X.env=pure cl) (c2:∀ y ∈ scope.names,y.2 ≠ .cell) (c3:scope.kind=.function) (c4:∀ y ∈ scope.names,y.2=.local->scope.names.lookup y.1=some .local)
 (c5:scope.names.lookup x=some .local) (nd:[x,y,z,u,v].Nodup) (hcl:cl=[(y,c),(z,d),(u,e),(v,g)]) (hc:X.env.cells.lookup y=some c) (hd:X.env.cells.lookup z=some d) (he:X.env.cells.lookup u=some e) (hg:X.env.cells.lookup v=some g) (c6:((relabel scope X.env).names.all fun p=>!(p.2 == .cell || p.2 == .free) || (cl.lookup p.1).isSome)=true)
 (hr:(relabel scope X.env).names.lookup y=some .cell) (hk:X.N[k]?=some y) (hs:X.env.scope.names.lookup y=some .cell)
 (hr2:(relabel scope X.env).names.lookup z=some .cell) (hk2:X.N[l]?=some z) (hs2:X.env.scope.names.lookup z=some .cell)
 (hr3:(relabel scope X.env).names.lookup u=some .cell) (hk3:X.N[m]?=some u) (hs3:X.env.scope.names.lookup u=some .cell)
 (hr4:(relabel scope X.env).names.lookup v=some .cell) (hk4:X.N[n]?=some v) (hs4:X.env.scope.names.lookup v=some .cell):CompScope X x [y,z,u,v] [k,l,m,n] scope cl where
 clos:=c1
 nocell:=c2
 kind:=c3
 names:=c4
 own:=c5
 nd:=nd
 sub:=fun p hp=>by
  subst hcl
  rcases List.mem_cons.mp hp with h | h
  . rw [h]; assumption
  . rcases List.mem_cons.mp h with h | h
    . rw [h]; assumption
    . rcases List.mem_cons.mp h with h | h
      . rw [h]; assumption
      . rw [List.mem_singleton.mp h]; assumption
 has:=c6
 outs:=fun j w h=>by
  have nyz:y ≠ z:=fun e=>by simp [e] at nd
  have nyu:y ≠ u:=fun e=>by simp [e] at nd
  have nyv:y ≠ v:=fun e=>by simp [e] at nd
  have nzu:z ≠ u:=fun e=>by simp [e] at nd
  have nzv:z ≠ v:=fun e=>by simp [e] at nd
  have nuv:u ≠ v:=fun e=>by simp [e] at nd
  subst hcl
  match j,h with
  | 0,h =>
    have e:y=w:=Option.some.inj h
    subst e
    exact ⟨hr,k,c,rfl,hk,by simp [List.lookup],hs⟩
  | 1,h =>
    have e:z=w:=Option.some.inj h
    subst e
    have:(z == y)=false:=by simpa using Ne.symm nyz
    exact ⟨hr2,l,d,rfl,hk2,by simp [List.lookup,this],hs2⟩
  | 2,h =>
    have ew:u=w:=Option.some.inj h
    subst ew
    have h1:(u == y)=false:=by simpa using Ne.symm nyu
    have h2:(u == z)=false:=by simpa using Ne.symm nzu
    exact ⟨hr3,m,e,rfl,hk3,by simp [List.lookup,h1,h2],hs3⟩
  | 3,h =>
    have ew:v=w:=Option.some.inj h
    subst ew
    have h1:(v == y)=false:=by simpa using Ne.symm nyv
    have h2:(v == z)=false:=by simpa using Ne.symm nzv
    have h3:(v == u)=false:=by simpa using Ne.symm nuv
    exact ⟨hr4,n,g,rfl,hk4,by simp [List.lookup,h1,h2,h3],hs4⟩
  | j+4,h=>simp at h
def SqIt (h:Heap) (i l:Addr) (k:Nat) (xs:Array Value):Prop:=(h.IsListIter i l k/\h.IsList l xs)∨(h.IsTupleIter i l k/\h.IsTuple l xs)
theorem SqIt.at {h h':Heap} {i l:Addr} {k:Nat} {xs:Array Value} (q:SqIt h i l k xs) (e1:∀ o,h.get? i=some o->h'.get? i=some o) (e2:∀ o,h.get? l=some o->h'.get? l=some o):SqIt h' i l k xs:=by
 rcases q with ⟨a,b⟩ | ⟨a,b⟩
 . exact .inl ⟨a.at e1,b.at e2⟩
 . exact .inr ⟨a.at e1,b.at e2⟩
theorem SqIt.ext {h h':Heap} {i l c:Addr} {k:Nat} {xs:Array Value} (q:SqIt h i l k xs) (e:Heap.ExtBut c h h') (n1:i ≠ c) (n2:l ≠ c):SqIt h' i l k xs:=q.at (fun o z=>e _ o n1 z) (fun o z=>e _ o n2 z)
theorem SqIt.obj {h:Heap} {i l:Addr} {k:Nat} {xs:Array Value} (q:SqIt h i l k xs):∃ o,h.get? i=some o/\∀ v,o.data ≠ .cell v:=by
 rcases q with ⟨⟨o,e,_,d⟩,_⟩ | ⟨⟨o,e,_,d⟩,_⟩
 . exact ⟨o,e,fun v z=>by rw [d] at z; cases z⟩
 . exact ⟨o,e,fun v z=>by rw [d] at z; cases z⟩
section
variable {prog:Program} {w:World} {A:Around} {E:Value->Shared->Prop} {s:Shared}
theorem sq_item {i l:Addr} {k:Nat} {xs:Array Value} {x:Value} {Q:Value->Shared->Prop} (q:SqIt s.heap i l k xs) (n:l ≠ i) (hx:xs[k]?=some x)
 (hQ:∀ h',SqIt h' i l (k+1) xs->Heap.SameBut i s.heap h'->Q x { s with heap:=h' }):wpAny (model prog w) A (Builtin.SmallTypes.nextOf (.ref i)) Q E s:=by
 rcases q with ⟨a,b⟩ | ⟨a,b⟩
 . exact wpAny_nextOf_list_item a b hx fun h' a' e=>hQ h' (.inl ⟨a',b.extBut e.extBut n⟩) e
 . exact tn_item a b hx fun h' a' e=>hQ h' (.inr ⟨a',b.extBut e.extBut n⟩) e
theorem sq_end {i l:Addr} {k:Nat} {xs:Array Value} {Q:Value->Shared->Prop} (hh:A.handled=none) (q:SqIt s.heap i l k xs) (hx:xs[k]?=none)
 (hE:∀ h' e,Heap.ExtBut i s.heap h'->(∃ o,h'.get? e=some o/\o.cls=.type "StopIteration")->E (.ref e) { s with heap:=h' }):wpAny (model prog w) A (Builtin.SmallTypes.nextOf (.ref i)) Q E s:=by
 rcases q with ⟨a,b⟩ | ⟨a,b⟩
 . exact wpAny_nextOf_list_end hh a b hx hE
 . exact tn_end hh a b hx hE
theorem zq_item {z TI TO i1 i2 l1 l2:Addr} {k1 k2:Nat} {xs ys:Array Value} {x y a b:Value} {Q:Option Value->Shared->Prop} (D:ZipApart z TI TO i1 i2 l1 l2)
 (hz:IsZip s.heap z TI TO .none) (hTI:IsPair s.heap TI (.ref i1) (.ref i2)) (hTO:IsPair s.heap TO a b) (h1:SqIt s.heap i1 l1 k1 xs) (h2:SqIt s.heap i2 l2 k2 ys) (hx:xs[k1]?=some x) (hy:ys[k2]?=some y)
 (hQ:∀ h',IsZip h' z TI TO (rawInt s.heap.objs.size)->IsPair h' TO x y->SqIt h' i1 l1 (k1+1) xs->SqIt h' i2 l2 (k2+1) ys->IsPair h' s.heap.objs.size x y ->
  (∀ c o,c ≠ z->c ≠ TO->c ≠ i1->c ≠ i2->s.heap.get? c=some o->h'.get? c=some o)->Q (some (.ref s.heap.objs.size)) { s with heap:=h' }) :
 wpAny (model prog w) A (pyNext (.ref z)) Q E s:=by
 have hT:s.TypeIs (.ref z) "zip" := ⟨_,hz,rfl⟩
 unfold pyNext
 refine wpAny_bind (wpAny_attempt (wpAny_callSpecial?_slot (name:=Str.ofString "__next__") hT F.slot_zip_next (wpAny_call_entry F.slot_zip_next hT F.entry_zip_next ?_ (F.args_zip_next_1 _))))
 show wpAny _ _ (field (.ref z) 2 >>= _) _ _ _
 refine wpAny_bind (wpAny_field hz rfl (x:=.bool false) rfl ?_)
 show wpAny _ _ (field (.ref z) 3 >>= _) _ _ _
 refine wpAny_bind (wpAny_field hz rfl (x:=.ref TI) rfl (wpAny_bind (wpAny_seqItems hTI rfl ?_)))
 show wpAny _ _ (Builtin.SmallTypes.ownedTupleIsFree (.ref z) >>= _) _ _ _
 refine wpAny_bind ?_
 unfold Builtin.SmallTypes.ownedTupleIsFree
 refine wpAny_bind (wpAny_field hz rfl (x:=.none) rfl (wpAny_pure ?_))
 simp only [if_true]
 refine wpAny_bind (wpAny_rule (wpAny_bind (wpAny_field hz rfl (x:=.ref TO) rfl (wpAny_bind (wpAny_setField_rec hz (by simp) fun ha za sa=>wpAny_bind ?_)))))
 replace za:IsZip ha z TI TO .ellipsis:=za
 simp only [List.zipIdx_cons,List.zipIdx_nil,List.forIn_cons,List.forIn_nil]
 refine wpAny_bind (wpAny_bind (wpAny_onRaise ?_))
 show wpAny _ _ (Builtin.SmallTypes.nextOf (.ref i1) >>= _) _ _ _
 refine wpAny_bind (sq_item (h1.ext sa.extBut D.i1z D.l1z) D.l1i1 hx fun hb q1 sb=>wpAny_pure ?_)
 have TOb:IsPair hb TO a b:=sb.extBut _ _ D.TOi1 (sa.extBut _ _ D.TOz hTO)
 refine wpAny_bind (wpAny_seqItems TOb rfl (wpAny_bind (wpAny_updateSeq_pair TOb fun hc TOc sc=>?_)))
 replace TOc:IsPair hc TO x b:=TOc
 refine wpAny_bind (wpAny_letGo (wpAny_pure (wpAny_bind (wpAny_bind (wpAny_onRaise ?_)))))
 show wpAny _ _ (Builtin.SmallTypes.nextOf (.ref i2) >>= _) _ _ _
 refine wpAny_bind (sq_item (((h2.ext sa.extBut D.i2z D.l2z).ext sb.extBut D.i12.symm D.l2i1).ext sc.extBut D.TOi2.symm D.l2TO) D.l2i2 hy fun hd q2 sd=>wpAny_pure ?_)
 have TOd:IsPair hd TO x b:=sd.extBut _ _ D.TOi2 TOc
 refine wpAny_bind (wpAny_seqItems TOd rfl (wpAny_bind (wpAny_updateSeq_pair TOd fun he TOe se=>?_)))
 replace TOe:IsPair he TO x y:=TOe
 refine wpAny_bind (wpAny_letGo (wpAny_pure (wpAny_pure (wpAny_bind (wpAny_seqItems TOe rfl (wpAny_bind (wpAny_newTuple ?_)))))))
 have sz:he.objs.size=s.heap.objs.size:=by rw [se.1,sd.1,sc.1,sb.1,sa.1]
 have ze:IsZip he z TI TO .ellipsis:=se.extBut _ _ D.TOz.symm (sd.extBut _ _ D.i2z.symm (sc.extBut _ _ D.TOz.symm (sb.extBut _ _ D.i1z.symm za)))
 have ke:∀ c o,c ≠ z->c ≠ TO->c ≠ i1->c ≠ i2->s.heap.get? c=some o->he.get? c=some o:=fun c o c1 c2 c3 c4 e=>se.extBut _ _ c2 (sd.extBut _ _ c4 (sc.extBut _ _ c2 (sb.extBut _ _ c3 (sa.extBut _ _ c1 e))))
 have q1e:=((q1.ext sc.extBut D.TOi1.symm D.l1TO).ext sd.extBut D.i12 D.l1i2).ext se.extBut D.TOi1.symm D.l1TO
 have q2e:=q2.ext se.extBut D.TOi2.symm D.l2TO
 have zlt:z < he.objs.size:=Heap.lt_size ze
 show wpAny _ _ (Builtin.SmallTypes.ownedTupleHandOut (.ref z) (.ref he.objs.size) >>= _) _ _ _
 refine wpAny_bind ?_
 unfold Builtin.SmallTypes.ownedTupleHandOut
 have zf:IsZip (he.push { cls:=.type "tuple", data:=.seq #[x,y] }) z TI TO .ellipsis:=Heap.get?_push_of_some _ ze
 refine wpAny_bind (wpAny_setField_rec zf (by simp) fun hg zg sg=>?_)
 replace zg:IsZip hg z TI TO (rawInt he.objs.size):=zg
 refine wpAny_setField_rec zg (by simp) fun hi zi si=>?_
 replace zi:IsZip hi z TI TO (rawInt he.objs.size):=zi
 have up:∀ c o,c ≠ z->he.get? c=some o->hi.get? c=some o:=fun c o c1 e=>si.extBut _ _ c1 (sg.extBut _ _ c1 (Heap.get?_push_of_some _ e))
 have Ti:IsPair hi he.objs.size x y:=si.extBut _ _ (Nat.ne_of_gt zlt) (sg.extBut _ _ (Nat.ne_of_gt zlt) (Heap.get?_push_size _ rfl))
 rw [sz] at zi Ti
 refine wpAny_pure ⟨_,rfl,wpAny_pure ?_⟩
 show Q (some (.ref he.objs.size)) _
 rw [sz]
 exact hQ hi zi (up _ _ D.TOz TOe) (q1e.at (fun o e=>up _ o D.i1z e) (fun o e=>up _ o D.l1z e)) (q2e.at (fun o e=>up _ o D.i2z e) (fun o e=>up _ o D.l2z e)) Ti fun c o c1 c2 c3 c4 e=>up c o c1 (ke c o c1 c2 c3 c4 e)
theorem zq_end {z TI TO i1 i2 l1 l2:Addr} {k1 k2:Nat} {xs ys:Array Value} {a b:Value} {Q:Option Value->Shared->Prop} (hh:A.handled=none) (D:ZipApart z TI TO i1 i2 l1 l2)
 (hz:IsZip s.heap z TI TO .none) (hTI:IsPair s.heap TI (.ref i1) (.ref i2)) (hTO:IsPair s.heap TO a b) (h1:SqIt s.heap i1 l1 k1 xs) (h2:SqIt s.heap i2 l2 k2 ys) (hend:xs[k1]?=none∨ys[k2]?=none)
 (hQ:∀ h',(∀ c o,c ≠ z->c ≠ TO->c ≠ i1->c ≠ i2->s.heap.get? c=some o->h'.get? c=some o)->Q none { s with heap:=h' }):wpAny (model prog w) A (pyNext (.ref z)) Q E s:=by
 have hT:s.TypeIs (.ref z) "zip" := ⟨_,hz,rfl⟩
 unfold pyNext
 have hh1:A.in1.handled=none:=hh
 suffices hs:wpAny (model prog w) A.in1 (Builtin.«zip.__next__» ⟨[.ref z],[]⟩) (fun fin s'=>∃ v,fin=.done (.ret v)/\False)
  (fun v s'=>∃ h' e,v=.ref e/\s'={ s with heap:=h' }/\(∀ c o,c ≠ z->c ≠ TO->c ≠ i1->c ≠ i2->s.heap.get? c=some o->h'.get? c=some o)/\∃ o,h'.get? e=some o/\o.cls=.type "StopIteration") s by
  refine wpAny_bind (wpAny_attempt (wpAny_callSpecial?_slot (name:=Str.ofString "__next__") hT F.slot_zip_next (wpAny_call_entry F.slot_zip_next hT F.entry_zip_next (wpAny_mono hs (fun _ _ h=>by obtain ⟨_,_,f⟩:=h; exact f.elim) ?_) (F.args_zip_next_1 _))))
  rintro _ _ ⟨h',e,rfl,rfl,hk,o,ho,hc⟩
  exact wpAny_bind (wpAny_isInstance (T := "StopIteration") (b:=true) ⟨o,ho,hc⟩ isSubtype_stop (wpAny_pure (hQ _ hk)))
 show wpAny _ _ (field (.ref z) 2 >>= _) _ _ _
 refine wpAny_bind (wpAny_field hz rfl (x:=.bool false) rfl ?_)
 show wpAny _ _ (field (.ref z) 3 >>= _) _ _ _
 refine wpAny_bind (wpAny_field hz rfl (x:=.ref TI) rfl (wpAny_bind (wpAny_seqItems hTI rfl ?_)))
 show wpAny _ _ (Builtin.SmallTypes.ownedTupleIsFree (.ref z) >>= _) _ _ _
 refine wpAny_bind ?_
 unfold Builtin.SmallTypes.ownedTupleIsFree
 refine wpAny_bind (wpAny_field hz rfl (x:=.none) rfl (wpAny_pure ?_))
 simp only [if_true]
 refine wpAny_bind (wpAny_rule (wpAny_bind (wpAny_field hz rfl (x:=.ref TO) rfl (wpAny_bind (wpAny_setField_rec hz (by simp) fun ha za sa=>wpAny_bind ?_)))))
 replace za:IsZip ha z TI TO .ellipsis:=za
 simp only [List.zipIdx_cons,List.zipIdx_nil,List.forIn_cons,List.forIn_nil]
 refine wpAny_bind (wpAny_bind (wpAny_onRaise ?_))
 show wpAny _ _ (Builtin.SmallTypes.nextOf (.ref i1) >>= _) _ _ _
 cases hx:xs[k1]? with
 | none =>
   refine wpAny_bind (sq_end hh1 (h1.ext sa.extBut D.i1z D.l1z) hx fun hb e sb ⟨oe,hoe,hce⟩=>?_)
   have zb:IsZip hb z TI TO .ellipsis:=sb _ _ D.i1z.symm za
   have ez:e ≠ z:=fun x=>by subst x; rw [zb] at hoe; cases hoe; simp at hce
   exact wpAny_setField_rec zb (by simp) fun hc _ sc=>⟨hc,e,rfl,rfl,fun c o c1 _ c3 _ x=>sc.extBut _ _ c1 (sb _ _ c3 (sa.extBut _ _ c1 x)),oe,sc.extBut _ _ ez hoe,hce⟩
 | some x =>
   have hy:ys[k2]?=none:=by
    rcases hend with h | h
    . rw [hx] at h; cases h
    . exact h
   refine wpAny_bind (sq_item (h1.ext sa.extBut D.i1z D.l1z) D.l1i1 hx fun hb q1 sb=>wpAny_pure ?_)
   have TOb:IsPair hb TO a b:=sb.extBut _ _ D.TOi1 (sa.extBut _ _ D.TOz hTO)
   refine wpAny_bind (wpAny_seqItems TOb rfl (wpAny_bind (wpAny_updateSeq_pair TOb fun hc TOc sc=>?_)))
   refine wpAny_bind (wpAny_letGo (wpAny_pure (wpAny_bind (wpAny_bind (wpAny_onRaise ?_)))))
   show wpAny _ _ (Builtin.SmallTypes.nextOf (.ref i2) >>= _) _ _ _
   refine wpAny_bind (sq_end hh1 (((h2.ext sa.extBut D.i2z D.l2z).ext sb.extBut D.i12.symm D.l2i1).ext sc.extBut D.TOi2.symm D.l2TO) hy fun hd e sd ⟨oe,hoe,hce⟩=>?_)
   have zd:IsZip hd z TI TO .ellipsis:=sd _ _ D.i2z.symm (sc.extBut _ _ D.TOz.symm (sb.extBut _ _ D.i1z.symm za))
   have ez:e ≠ z:=fun x=>by subst x; rw [zd] at hoe; cases hoe; simp at hce
   exact wpAny_setField_rec zd (by simp) fun he _ se=>⟨he,e,rfl,rfl,fun c o c1 c2 c3 c4 x=>se.extBut _ _ c1 (sd _ _ c4 (sc.extBut _ _ c2 (sb.extBut _ _ c3 (sa.extBut _ _ c1 x)))),oe,se.extBut _ _ ez hoe,hce⟩
end
def itO (b:Bool) (l:Addr):Obj:={ cls:=.type (if b=true then "list_iterator" else "tuple_iterator"),data:=.fields #[.ref l,.int 0 0] }
def SqO (b:Bool) (h:Heap) (l:Addr) (xs:Array Value):Prop:=if b=true then h.IsList l xs else h.IsTuple l xs
abbrev zqH (h:Heap) (b1 b2:Bool) (l1 l2:Addr):Heap:=((((h.push (itO b1 l1)).push (itO b2 l2)).push { cls:=.type "tuple", data:=.seq #[.ref h.objs.size,.ref (h.push (itO b1 l1)).objs.size] }).push { cls:=.type "tuple", data:=.seq #[.none,.none] }).push
 { cls:=.type "zip", data:=.fields #[.none,.bool false,.bool false,.ref ((h.push (itO b1 l1)).push (itO b2 l2)).objs.size,.ref (((h.push (itO b1 l1)).push (itO b2 l2)).push { cls:=.type "tuple", data:=.seq #[.ref h.objs.size,.ref (h.push (itO b1 l1)).objs.size] }).objs.size] }
abbrev zqA (h:Heap) (b1 b2:Bool) (l1 l2:Addr):Addr:=((((h.push (itO b1 l1)).push (itO b2 l2)).push { cls:=.type "tuple", data:=.seq #[.ref h.objs.size,.ref (h.push (itO b1 l1)).objs.size] }).push { cls:=.type "tuple", data:=.seq #[.none,.none] }).objs.size
theorem sqO_push {b:Bool} {h:Heap} {l:Addr} {xs:Array Value} (q:SqO b h l xs) (o:Obj):SqO b (h.push o) l xs:=by
 cases b
 . exact Heap.IsTuple.at q fun o' e=>Heap.get?_push_of_some _ e
 . exact Heap.IsList.push q _
theorem sqO_iter {prog:Program} {w:World} {A:Around} {E:Value->Shared->Prop} {s:Shared} {b:Bool} {l:Addr} {xs:Array Value} {Q:Value->Shared->Prop} (q:SqO b s.heap l xs) (hQ:Q (.ref s.heap.objs.size) { s with heap:=s.heap.push (itO b l) }) :
 wpAny (model prog w) A (pyIter (.ref l)) Q E s:=by
 cases b
 . exact wpAny_pyIter_tuple (t:=l) (items:=xs) q hQ
 . exact wpAny_pyIter_list (l:=l) (items:=xs) q hQ
set_option maxHeartbeats 1000000 in
theorem meets_zq (b1 b2:Bool) (l1 l2:Addr) (xs ys:Array Value) :
 Meets (Builtin.«zip.__new__» ⟨[.type "zip", .ref l1,.ref l2],[]⟩) (fun _ R s=>SqO b1 s.heap l1 xs/\SqO b2 s.heap l2 ys /\
  R (.ok (.ret (.ref (zqA s.heap b1 b2 l1 l2)))) { s with heap:=zqH s.heap b1 b2 l1 l2 }) :=
 .of_wp fun prog w A R s h=>by
  obtain ⟨hp,g,d,tk,os⟩:=s
  obtain ⟨hl1,hl2,h⟩:=h
  have hsub:=sub_zip
  have hL1:SqO b1 (Shared.heap ⟨hp,g,d,tk,os⟩) l1 xs:=hl1
  have hL2:SqO b2 (Shared.heap ⟨hp.push (itO b1 l1),g,d,tk,os⟩) l2 ys:=sqO_push hl2 _
  wp_walk using sqO_iter hL1,sqO_iter hL2
  exact ⟨_,rfl,h⟩
section
variable {prog:Program} {w:World} {A:Around} {E:Value->Shared->Prop} {s:Shared}
theorem itO_sq {b:Bool} {h h':Heap} {n l:Addr} {xs:Array Value} (e:h'.get? n=some (itO b l)) (q:SqO b h l xs) (k:∀ o,h.get? l=some o->h'.get? l=some o):SqIt h' n l 0 xs:=by
 cases b
 . exact .inr ⟨⟨_,e,rfl,rfl⟩,Heap.IsTuple.at q k⟩
 . exact .inl ⟨⟨_,e,rfl,rfl⟩,Heap.IsList.at q k⟩
theorem call_zq {b1 b2:Bool} {l1 l2:Addr} {xs ys:Array Value} {Q:Value->Shared->Prop} (hl1:SqO b1 s.heap l1 xs) (hl2:SqO b2 s.heap l2 ys)
 (h:∀ h',IsZip h' (s.heap.objs.size+4) (s.heap.objs.size+2) (s.heap.objs.size+3) .none->IsPair h' (s.heap.objs.size+2) (.ref s.heap.objs.size) (.ref (s.heap.objs.size+1)) ->
  IsPair h' (s.heap.objs.size+3) .none .none->SqIt h' s.heap.objs.size l1 0 xs->SqIt h' (s.heap.objs.size+1) l2 0 ys ->
  (∀ c o,s.heap.get? c=some o->h'.get? c=some o)->Q (.ref (s.heap.objs.size+4)) { s with heap:=h' }) :
 wpAny (model prog w) A (call (.type "zip") [.ref l1,.ref l2]) Q E s:=by
 refine callType_new F.called_zip (by decide) (F.typeCall_zip_2 _ _) (F.newCall_zip_2 _ _) (fun obj=>F.args_object_init_3 obj _ _) F.entry_zip_new (meets_zq b1 b2 l1 l2 xs ys) ⟨hl1,hl2,?_⟩
 have z1:∀ (h:Heap) (o:Obj),(h.push o).objs.size=h.objs.size+1:=fun h o=>Heap.size_push ..
 have up:∀ (h:Heap) (o:Obj) (c:Addr) (u:Obj),h.get? c=some u->(h.push o).get? c=some u:=fun h o c u e=>Heap.get?_push_of_some _ e
 have top:∀ (h:Heap) (o:Obj) (n:Nat),o.isFreed=false->h.objs.size=n->(h.push o).get? n=some o:=fun h o n f e=>by rw [← e]; exact Heap.get?_push_size _ f
 have f1:∀ b l,(itO b l).isFreed=false:=fun _ _=>rfl
 show _/\_
 have g1:(zqH s.heap b1 b2 l1 l2).get? s.heap.objs.size=some (itO b1 l1):=up _ _ _ _ (up _ _ _ _ (up _ _ _ _ (up _ _ _ _ (top _ _ _ (f1 _ _) rfl))))
 have g2:(zqH s.heap b1 b2 l1 l2).get? (s.heap.objs.size+1)=some (itO b2 l2):=up _ _ _ _ (up _ _ _ _ (up _ _ _ _ (top _ _ _ (f1 _ _) (z1 _ _))))
 have g3:IsPair (zqH s.heap b1 b2 l1 l2) (s.heap.objs.size+2) (.ref s.heap.objs.size) (.ref (s.heap.objs.size+1)):=by
  have:=up _ { cls:=.type "zip", data:=.fields #[.none,.bool false,.bool false,.ref ((s.heap.push (itO b1 l1)).push (itO b2 l2)).objs.size,.ref (((s.heap.push (itO b1 l1)).push (itO b2 l2)).push { cls:=.type "tuple", data:=.seq #[.ref s.heap.objs.size,.ref (s.heap.push (itO b1 l1)).objs.size] }).objs.size] } _ _ (up _ { cls:=.type "tuple", data:=.seq #[.none,.none] } _ _ (top ((s.heap.push (itO b1 l1)).push (itO b2 l2)) { cls:=.type "tuple", data:=.seq #[.ref s.heap.objs.size,.ref (s.heap.push (itO b1 l1)).objs.size] } (s.heap.objs.size+2) rfl (by rw [z1,z1])))
  exact this.trans (by rw [z1])
 have g4:IsPair (zqH s.heap b1 b2 l1 l2) (s.heap.objs.size+3) .none .none:=up _ _ _ _ (top _ _ _ rfl (by rw [z1,z1,z1]))
 have g5:IsZip (zqH s.heap b1 b2 l1 l2) (s.heap.objs.size+4) (s.heap.objs.size+2) (s.heap.objs.size+3) .none:=by
  have:=top ((((s.heap.push (itO b1 l1)).push (itO b2 l2)).push { cls:=.type "tuple", data:=.seq #[.ref s.heap.objs.size,.ref (s.heap.push (itO b1 l1)).objs.size] }).push { cls:=.type "tuple", data:=.seq #[.none,.none] })
   { cls:=.type "zip", data:=.fields #[.none,.bool false,.bool false,.ref ((s.heap.push (itO b1 l1)).push (itO b2 l2)).objs.size,.ref (((s.heap.push (itO b1 l1)).push (itO b2 l2)).push { cls:=.type "tuple", data:=.seq #[.ref s.heap.objs.size,.ref (s.heap.push (itO b1 l1)).objs.size] }).objs.size] } (s.heap.objs.size+4) rfl (by rw [z1,z1,z1,z1])
  exact this.trans (by simp only [z1])
 have ea:zqA s.heap b1 b2 l1 l2=s.heap.objs.size+4:=by simp only [zqA,z1]
 have keep:∀ c o,s.heap.get? c=some o->(zqH s.heap b1 b2 l1 l2).get? c=some o:=fun c o e=>up _ _ _ _ (up _ _ _ _ (up _ _ _ _ (up _ _ _ _ (up _ _ _ _ e))))
 rw [ea]
 exact ⟨⟨_,g5,rfl⟩,h _ g5 g3 g4 (itO_sq g1 hl1 (keep _)) (itO_sq g2 hl2 (keep _)) keep⟩
end
def SqB (K:W.Frag) (b:Bool) (H:Hp) (a:Addr) (xs:List V):Prop:=if b=true then SqL K H a xs else SqT K H a xs
theorem SqB.at {X:Cx} {pins:List (Addr × Obj)} {σ:St} {H:Hp} {s:Shared} {b:Bool} {a:Addr} {xs:List V} (I:Inv X pins σ H s) (q:SqB X.K b H a xs):∃ its,Vals xs its/\SqO b s.heap a its.toArray/\a < s.heap.objs.size:=by
 cases b
 . obtain ⟨its,rv,p,_⟩:=I.tuple q
   exact ⟨its,rv,p,p.lt⟩
 . obtain ⟨its,rv,p,_⟩:=I.list q
   exact ⟨its,rv,p.isList,p.lt⟩
theorem SqB.inj {X:Cx} {pins:List (Addr × Obj)} {σ:St} {H:Hp} {s:Shared} {b:Bool} {a:Addr} {xs ys:List V} (I:Inv X pins σ H s) (q:SqB X.K b H a xs) (r:SqB X.K b H a ys):xs=ys:=by
 cases b
 . exact I.tuple_inj q r
 . exact I.list_inj q r
def Itz (K:W.Frag) (c d:Bool) (a b:Addr):It :=
 ⟨fun i H=>∃ xs ys x y,SqB K c H a xs/\SqB K d H b ys/\xs[i]?=some x/\ys[i]?=some y,fun i H v H'=>∃ t,v=.ref t/\H t=none/\∀ xs ys x y,SqB K c H a xs->SqB K d H b ys->xs[i]?=some x->ys[i]?=some y->H'=upd H t (.tup [x,y]),
  fun i H=>∃ xs ys,SqB K c H a xs/\SqB K d H b ys/\(xs.length<=i∨ys.length<=i)⟩
theorem zipAp {n l1 l2:Nat} (h1:l1 < n) (h2:l2 < n):ZipApart (n+4) (n+2) (n+3) n (n+1) l1 l2:=by
 constructor <;> exact fun y=>by
  have y':(_:Nat)=_:=y
  omega
theorem turn_zip {P:Program} {w:World} {K:W.Frag} {elts:List Expr} {k:Nat} {pos:Pos} (c d:Bool) (a b z TI TO i1 i2:Addr) (D:ZipApart z TI TO i1 i2 a b) :
 Turn P w K (.Tuple elts k pos) (Itz K c d a b) [z,TI,TO,i1,i2] z (fun i h=>IsZip h z TI TO .none/\IsPair h TI (.ref i1) (.ref i2)/\(∃ p q,IsPair h TO p q)/\(∃ o,h.get? i1=some o/\o.cls=.type (if c=true then "list_iterator" else "tuple_iterator")/\o.data=.fields #[.ref a,.int i 0]) /\
  ∃ o,h.get? i2=some o/\o.cls=.type (if d=true then "list_iterator" else "tuple_iterator")/\o.data=.fields #[.ref b,.int i 0]) where
 mem:=by simp
 obj:=fun i h st x hx=>by
  obtain ⟨hz,hTI,⟨p,q,hTO⟩,⟨o1,e1,_,d1⟩,o2,e2,_,d2⟩:=st
  simp only [List.mem_cons,List.not_mem_nil,or_false] at hx
  rcases hx with rfl | rfl | rfl | rfl | rfl
  . exact ⟨_,hz,fun v y=>nomatch y⟩
  . exact ⟨_,hTI,fun v y=>nomatch y⟩
  . exact ⟨_,hTO,fun v y=>nomatch y⟩
  . exact ⟨o1,e1,fun v y=>by rw [d1] at y; cases y⟩
  . exact ⟨o2,e2,fun v y=>by rw [d2] at y; cases y⟩
 keep:=fun i h h' st kp=>by
  obtain ⟨hz,hTI,⟨p,q,hTO⟩,⟨o1,e1,r1⟩,o2,e2,r2⟩:=st
  exact ⟨kp z (by simp) _ hz,kp TI (by simp) _ hTI,⟨p,q,kp TO (by simp) _ hTO⟩,⟨o1,kp i1 (by simp) _ e1,r1⟩,o2,kp i2 (by simp) _ e2,r2⟩
 item:=by
  intro X hP hw hK hc i pins s σ H E I hf st hg
  subst hP hw hK
  obtain ⟨xs,ys,x,y,hq1,hq2,hx,hy⟩:=hg
  obtain ⟨its1,rv1,s1,_⟩:=SqB.at I hq1
  obtain ⟨its2,rv2,s2,_⟩:=SqB.at I hq2
  obtain ⟨u,hu,ru⟩:=rv1.get hx
  obtain ⟨v,hv,rv⟩:=rv2.get hy
  obtain ⟨hz,hTI,⟨p,q,hTO⟩,it1,it2⟩:=st
  have S1:SqIt s.heap i1 a i its1.toArray:=by
   cases c
   . exact .inr ⟨it1,s1⟩
   . exact .inl ⟨it1,s1⟩
  have S2:SqIt s.heap i2 b i its2.toArray:=by
   cases d
   . exact .inr ⟨it2,s2⟩
   . exact .inl ⟨it2,s2⟩
  refine zq_item D hz hTI hTO S1 S2 (x:=u) (y:=v) (by simpa using hu) (by simpa using hv) fun h1 z1 TO1 q1 q2 T1 k1=>?_
  refine ⟨_,rfl,wpAny_letOwnedTupleGo_zip z1 fun h2 z2 s2'=>?_⟩
  have zlt:z < s.heap.objs.size:=Heap.lt_size hz
  have T2:h2.get? s.heap.objs.size=some { cls:=.type "tuple", data:=.seq #[u,v] }:=(s2'.2 _ (Ne.symm (Nat.ne_of_lt zlt))).trans T1
  have I2:Inv X pins σ (upd H s.heap.objs.size (.tup [x,y])) { s with heap:=h2 }:=by
   refine I.turnedNew (t':=s.toks) (ch:=[z,TI,TO,i1,i2]) (fun e ob he ee=>?_) hf (Nat.le_refl _) ⟨by show 2<=sizeLine; decide,[u,v],.cons ru (.cons rv .nil),⟨_,T2,rfl,_,rfl⟩,_,T2,rfl⟩
   have n1:e ≠ z:=fun y=>he (by simp [y])
   exact (s2'.2 e n1).trans (k1 e ob n1 (fun y=>he (by simp [y])) (fun y=>he (by simp [y])) (fun y=>he (by simp [y])) ee)
  have g1:SqIt h2 i1 a (i+1) its1.toArray:=q1.at (fun o e=>(s2'.2 _ D.i1z).trans e) (fun o e=>(s2'.2 _ D.l1z).trans e)
  have g2:SqIt h2 i2 b (i+1) its2.toArray:=q2.at (fun o e=>(s2'.2 _ D.i2z).trans e) (fun o e=>(s2'.2 _ D.l2z).trans e)
  have kd:∀ {c:Bool} {i1 a:Addr} {its its':Array Value},SqO c h2 a its'->SqIt h2 i1 a (i+1) its->∃ o,h2.get? i1=some o/\o.cls=.type (if c=true then "list_iterator" else "tuple_iterator")/\o.data=.fields #[.ref a,.int ((i+1:Nat):Int) 0]:=fun {c i1 a its its'} o q=>by
   cases c
   . rcases q with ⟨_,⟨o1,e1,c1,_⟩⟩ | ⟨q,_⟩
     . obtain ⟨o2,e2,c2,_⟩:=(show h2.IsTuple a its' from o)
       rw [e1] at e2
       cases e2
       rw [c1] at c2
       exact absurd (Value.type.inj c2) (by decide)
     . exact q
   . rcases q with ⟨q,_⟩ | ⟨_,⟨o1,e1,c1,_⟩⟩
     . exact q
     . obtain ⟨o2,e2,c2,_⟩:=(show h2.IsList a its' from o)
       rw [e1] at e2
       cases e2
       rw [c1] at c2
       exact absurd (Value.type.inj c2) (by decide)
  have ko:∀ {c:Bool} {a:Addr} {its:Array Value},SqO c s.heap a its->a ≠ z->a ≠ TO->a ≠ i1->a ≠ i2->SqO c h2 a its:=fun {c a its} o n1 n2 n3 n4=>by
   have kk:∀ ob,s.heap.get? a=some ob->h2.get? a=some ob:=fun ob e=>(s2'.2 _ n1).trans (k1 _ _ n1 n2 n3 n4 e)
   cases c
   . exact Heap.IsTuple.at o kk
   . exact Heap.IsList.at o kk
  refine ⟨.ref s.heap.objs.size,_,I2,rfl,⟨_,rfl,I.hok.fresh (Nat.le_refl _),fun xs' ys' x' y' h1' h2' hx' hy'=>?_⟩,⟨z2,(s2'.2 _ D.TIz).trans (k1 _ _ D.TIz D.TITO D.TIi1 D.TIi2 hTI),⟨_,_,(s2'.2 _ D.TOz).trans TO1⟩,kd (ko s1 D.l1z D.l1TO D.l1i1 D.l1i2) g1,kd (ko s2 D.l2z D.l2TO D.l2i1 D.l2i2) g2⟩,fun e he=>?_⟩
  . have e1:=SqB.inj I h1' hq1
    have e2:=SqB.inj I h2' hq2
    subst e1 e2
    rw [hx] at hx'
    rw [hy] at hy'
    cases hx'
    cases hy'
    rfl
  . have zf:=hf e he
    have hlt:e < s.heap.objs.size:=by
     simp only [List.mem_cons,List.not_mem_nil,or_false] at he
     rcases he with rfl | rfl | rfl | rfl | rfl
     . exact zlt
     . exact Heap.lt_size hTI
     . exact Heap.lt_size hTO
     . obtain ⟨_,e,_⟩:=it1; exact Heap.lt_size e
     . obtain ⟨_,e,_⟩:=it2; exact Heap.lt_size e
    rw [au (Nat.ne_of_lt hlt)]
    exact zf.1
 done:=by
  intro X hP hw hK hc i pins s σ H E I hf st hg
  subst hP hw hK
  obtain ⟨xs,ys,hq1,hq2,hend⟩:=hg
  obtain ⟨its1,rv1,s1,_⟩:=SqB.at I hq1
  obtain ⟨its2,rv2,s2,_⟩:=SqB.at I hq2
  obtain ⟨hz,hTI,⟨p,q,hTO⟩,it1,it2⟩:=st
  have S1:SqIt s.heap i1 a i its1.toArray:=by
   cases c
   . exact .inr ⟨it1,s1⟩
   . exact .inl ⟨it1,s1⟩
  have S2:SqIt s.heap i2 b i its2.toArray:=by
   cases d
   . exact .inr ⟨it2,s2⟩
   . exact .inl ⟨it2,s2⟩
  have l1:=rv1.length
  have l2:=rv2.length
  exact zq_end (I.ok.hd hc) D hz hTI hTO S1 S2 (hend.imp (fun h=>Array.getElem?_eq_none (by simp; omega)) (fun h=>Array.getElem?_eq_none (by simp; omega))) fun h' eb =>
   ⟨rfl,I.turnedL (t':=s.toks) (ch:=[z,TI,TO,i1,i2]) (fun e o he eo=>eb e o (fun y=>he (by simp [y])) (fun y=>he (by simp [y])) (fun y=>he (by simp [y])) (fun y=>he (by simp [y])) eo) hf⟩
 self:=fun _ _ _ _ _ st h=>wpAny_pyIter_zip st.1 h
section
variable {X:Cx} {elts:List Expr} {k:Nat} {tpos:Pos}
def iZip (K:W.Frag) (tl:TA):TI:=fun σ H R=>tl σ H fun vs H1=>∃ a b c d,vs=[.ref a,.ref b]/\(∃ xs,SqB K c H1 a xs)/\(∃ ys,SqB K d H1 b ys)/\R (Itz K c d a b) H1
theorem boot_zip':bootBuiltins ("zip" : Str)=some (.type "zip"):=by decide +kernel
theorem zip_kd {c:Bool} {h h':Heap} {n l:Addr} {its its':Array Value} (keep:∀ e o,h.get? e=some o->h'.get? e=some o) (o:SqO c h l its') (q:SqIt h' n l 0 its) :
 ∃ o,h'.get? n=some o/\o.cls=.type (if c=true then "list_iterator" else "tuple_iterator")/\o.data=.fields #[.ref l,.int ((0:Nat):Int) 0]:=by
 cases c
 . rcases q with ⟨_,⟨o1,e1,c1,_⟩⟩ | ⟨q,_⟩
   . obtain ⟨o2,e2,c2,_⟩:=(show h'.IsTuple l its' from Heap.IsTuple.at o fun ob e=>keep _ _ e)
     rw [e1] at e2
     cases e2
     rw [c1] at c2
     exact absurd (Value.type.inj c2) (by decide)
   . exact q
 . rcases q with ⟨q,_⟩ | ⟨_,⟨o1,e1,c1,_⟩⟩
   . exact q
   . obtain ⟨o2,e2,c2,_⟩:=(show h'.IsList l its' from Heap.IsList.at o fun ob e=>keep _ _ e)
     rw [e1] at e2
     cases e2
     rw [c1] at c2
     exact absurd (Value.type.inj c2) (by decide)
theorem zip_it {pins:List (Addr × Obj)} {s1:Shared} {σ:St} {H1:Hp} {R:It->Hp->Prop} {a b:Addr} {c d:Bool} {xs ys:List V} {E:Value->Shared->Prop} (I1:Inv X pins σ H1 s1) (hq1:SqB X.K c H1 a xs) (hq2:SqB X.K d H1 b ys) (q:R (Itz X.K c d a b) H1) :
 wpAny (model X.prog X.w) X.A (call (.type "zip") [.ref a,.ref b]) (fun v s2=>wpAny (model X.prog X.w) X.A (pyIter v) (PIE X pins σ (.Tuple elts k tpos) R) E s2) E s1:=by
 obtain ⟨its1,rv1,o1,l1⟩:=SqB.at I1 hq1
 obtain ⟨its2,rv2,o2,l2⟩:=SqB.at I1 hq2
 refine call_zq o1 o2 fun h' z1 p1 p2 q1 q2 keep=>?_
 refine wpAny_pyIter_zip z1 ?_
 have I2:Inv X pins σ H1 { s1 with heap:=h' }:=I1.kept (t':=s1.toks) keep
 refine ⟨s1.heap.objs.size+4,[s1.heap.objs.size+4,s1.heap.objs.size+2,s1.heap.objs.size+3,s1.heap.objs.size,s1.heap.objs.size+1],_,_,H1,rfl,I2,turn_zip c d a b _ _ _ _ _ (zipAp l1 l2),⟨z1,p1,⟨_,_,p2⟩,zip_kd keep o1 q1,zip_kd keep o2 q2⟩,fun e he=>?_,q⟩
 have ge:s1.heap.objs.size<=e:=by
  simp only [List.mem_cons,List.not_mem_nil,or_false] at he
  rcases he with h | h | h | h | h <;> rw [h]
  . exact Nat.le_add_right ..
  . exact Nat.le_add_right ..
  . exact Nat.le_add_right ..
  . exact Nat.le_refl _
  . exact Nat.le_add_right ..
 exact I1.fpOk ge (I1.hok.fresh ge)
theorem pi_zip {e1 e2:Expr} {t:TA} {p pos:Pos} (hg:Gl X "zip") (hm:X.mg "zip" = none) (ha:PA X [e1,e2] t) (hs:starEach [e1,e2] X.env=[(false,eval e1 X.env),(false,eval e2 X.env)]:=by rfl) (hs2:starEach [e2] X.env=[(false,eval e2 X.env)]:=by rfl) :
 PI X (.Tuple elts k tpos) (.Call (.Name "zip" p) [e1,e2] [] pos) (iZip X.K t):=by
 intro pins s σ H R I h
 refine Call_ (ld_blt I hg hm boot_zip' (PyProof.Rows.callWith_type1 (thn (ha pos pins s σ H _ I h) fun us s1 ⟨vs,H1,I1,r1,q1⟩=>?_) (by rw [hs,hs2]) (by rw [hs2]; rfl)))
 obtain ⟨a,b,c,d,ev,⟨xs,hq1⟩,⟨ys,hq2⟩,q⟩:=q1
 subst ev
 cases r1 with
 | cons r rr =>
   cases rr with
   | cons r' rr =>
     cases rr
     cases r
     cases r'
     exact zip_it I1 hq1 hq2 q
end
section
variable {X:Cx} {pins:List (Addr × Obj)} {σ:St} {x y2:Str} {N:List Str} {ix:List Nat} {scope:Scope} {cl:List (Str × Addr)} {fp:List Addr} {H3:Hp} {s3:Shared}
theorem comp_cx2 (S:CompScope X x N ix scope cl) (I3:Inv X pins σ H3 s3) (hf:∀ b ∈ fp,FpOk X pins H3 b) (hlt:∀ b ∈ fp,b < s3.heap.objs.size):(bn X (x::y2::N) scope cl s3 H3 fp).Ok :=
 have h:=comp_cx S I3 hf hlt
 ⟨h.mod,h.kind,h.glob,h.blt,h.above,h.inj,h.has,h.cab,h.hd,h.frames,h.stk,h.exf,h.bs,h.bsz,h.noex,h.exfs,h.funs,h.frf⟩
theorem comp_start2 (S:CompScope X x N ix scope cl) (I3:Inv X pins σ H3 s3) (hf:∀ b ∈ fp,FpOk X pins H3 b) (hlt:∀ b ∈ fp,b < s3.heap.objs.size) (hix:ix.length=N.length) {h1:Heap} {t':Nat} {m:Str->Option Value}
 (hn:h1.Ns s3.heap.objs.size m) (hk:∀ b o,s3.heap.get? b=some o->h1.get? b=some o):Inv (bn X (x::y2::N) scope cl s3 H3 fp) [] (none::none::outs ix σ) H3 { s3 with heap:=h1,toks:=t' } where
 ok:=comp_cx2 S I3 hf hlt
 os:=rfl
 bare:=I3.bare
 base:=Un.kept hk
 loc:=by
  refine ⟨m,hn,fun i y v h1' h2 h3=>?_⟩
  cases i with
  | zero =>
    have h2':(some (none:Option V))=some (some v):=h2
    cases h2'
  | succ j =>
   cases j with
   | zero =>
    have h2':(some (none:Option V))=some (some v):=h2
    cases h2'
   | succ j =>
    have h1'':N[j]?=some y:=h1'
    have h2':(outs ix σ)[j]?=some (some v):=h2
    obtain ⟨hr,k,c,e1,e2,e3,e4⟩:=S.outs j y h1''
    unfold outs at h2'
    rw [List.getElem?_map,e1] at h2'
    have h2'':(σ[k]?).join=some v:=Option.some.inj h2'
    have e5:σ[k]?=some (some v):=by
     cases q:σ[k]? with
     | none=>rw [q] at h2''; cases h2''
     | some o=>rw [q] at h2''; exact congrArg some h2''
    obtain ⟨m0,_,hl⟩:=I3.loc
    obtain ⟨u,r,l⟩:=hl k y v e2 e5 (.inr (.inl e4))
    refine ⟨u,r,.inr ⟨.inl hr,c,e3,?_⟩⟩
    rcases l with ⟨kk,_⟩ | ⟨_,c',ec,z⟩
    . have kk':X.env.scope.names.lookup y=some .local:=kk
      rw [e4] at kk'; cases kk'
    . rw [S.cells e3] at ec
      cases ec
      obtain ⟨o,ho,hd⟩:=z
      exact ⟨o,hk _ _ ho,hd⟩
 cell:=fun y c e=>by
  obtain ⟨v,o,ho,hd⟩:=I3.cell y c (S.cells e)
  exact ⟨v,o,hk _ _ ho,hd⟩
 free:=I3.hok.fresh (Nat.le_refl _)
 freeC:=fun y c e=>I3.freeC y c (S.cells e)
 pin:=fun p hp=>absurd (show p ∈ ([]:List (Addr × Obj)) from hp) (by simp)
 hok:=I3.hok.kept hk
 len:=by
  show (none::none::outs ix σ).length=(x::y2::N).length
  rw [List.length_cons,List.length_cons,List.length_cons,List.length_cons]
  unfold outs
  rw [List.length_map,hix]
end
section
variable {X:Cx} {x y2:Str} {N:List Str} {ix:List Nat} {scope:Scope} {cl:List (Str × Addr)} {elt iter:Expr} {ifs:List Expr} {px py pt pos:Pos} {kt:Nat} {wi:TI} {tb:TBl}
def CompEx2 (K:W.Frag) (J:It) (D:Addr) (ix:List Nat) (tb:TBl) (σ:St) (H:Hp) (Q:VK):Prop:=∃ W:Nat->Nat->Hp->Prop,(∃ m,W 0 m (upd H D (.lst [])))/\∀ i m H2,W i m H2 ->
 (J.stop i H2/\Q (.ref D) H2)∨(J.go i H2/\∀ y H3,J.yld i H2 y H3->∃ t v1 v2,y=.ref t/\SqT K H3 t [v1,v2]/\tb (some v1::some v2::outs ix σ) H3 (fun H4=>∃ m',m' < m/\W (i+1) m' H4)
  fun z H4=>∃ ys,H4 D=some (.lst ys)/\ys.length < sizeLine/\∃ m',m' < m/\W (i+1) m' (upd H4 D (.lst (ys++[z]))))
def tCompR2 (K:W.Frag) (wi:TI) (ix:List Nat) (tb:TBl):TE:=fun σ H Q=>wi σ H fun J H1=>∀ D,H1 D=none->CompEx2 K J D ix tb σ H1 Q
theorem comp_run2 (hc:X.calm=true) (S:CompScope X x N ix scope cl) (S2:scope.names.lookup y2=some .local) (nd2:(x::y2::N).Nodup) (hix:ix.length=N.length) (hb:∀ s3 H3 fp,PB (bn X (x::y2::N) scope cl s3 H3 fp) ifs elt tb)
 {pins:List (Addr × Obj)} {s2:Shared} {σ:St} {H2:Hp} {Q:VK} {it:Addr} {fp:List Addr} {tn:Nat->Heap->Prop} {J:It} {RR:Value->Addr->Result->Shared->Prop} {E:Value->Shared->Prop}
 (I2:Inv X pins σ H2 s2) (T:Turn X.prog X.w X.K (.Tuple [.Name x px,.Name y2 py] kt pt) J fp it tn) (st2:tn 0 s2.heap) (f2:∀ b ∈ fp,FpOk X pins H2 b)
 (h:∀ D,H2 D=none->∃ W:Nat->Nat->Hp->Prop,(∃ m,W 0 m (upd H2 D (.lst [])))/\∀ i m H3,W i m H3 ->
  (J.stop i H3/\Q (.ref D) H3)∨(J.go i H3/\∀ y H4,J.yld i H3 y H4->∃ t v1 v2,y=.ref t/\SqT X.K H4 t [v1,v2]/\tb (some v1::some v2::outs ix σ) H4 (fun H5=>∃ m',m' < m/\W (i+1) m' H5)
   fun z H5=>∃ ys,H5 D=some (.lst ys)/\ys.length < sizeLine/\∃ m',m' < m/\W (i+1) m' (upd H5 D (.lst (ys++[z])))))
 (hRR:∀ (D C:Addr) (H':Hp) (s':Shared) (m:Str->Option Value),s'.heap.Ns C m->Apart X pins H' C->Inv X pins σ H' s'->Q (.ref D) H'->RR (.ref D) C (.ok .next) s') :
 wpAny (model X.prog X.w) X.A (newList []) (fun acc s3=>wpAny (model X.prog X.w) X.A (newFunctionEnv scope X.env.globals cl [] X.env.qual none .none (some X.env)) (fun cenv s4 =>
  codeAny (model X.prog X.w) X.A (.compStart (.ListComp elt [⟨.Tuple [.Name x px,.Name y2 py] kt pt,iter,ifs,0⟩] scope pos) 0 (.ref it) acc { cenv with scope:=relabel scope X.env }) (RR acc cenv.locals) s4) E s3) E s2:=by
 refine wpAny_newObj_type (wpAny_newFunctionEnv S.nocell (by intro y hy; simp at hy) (fun h1 hns1 hsb1=>?_) S.kind)
 dsimp only at hns1 hsb1 ⊢
 have I3:Inv X pins σ (upd H2 s2.heap.objs.size (.lst [])) { s2 with heap:=s2.heap.push { cls:=.type "list", dict:=none,data:=.seq ([]:List Value).toArray } }:=I2.lnew (its:=[]) (ys:=[]) (t':=s2.toks) .nil (Nat.zero_le _)
 have hD:H2 s2.heap.objs.size=none:=I2.fresh
 obtain ⟨W,⟨m0,w0⟩,turn⟩:=h s2.heap.objs.size hD
 have hltF:∀ b ∈ fp,b < s2.heap.objs.size:=fun b hb=>by
  obtain ⟨o,e,_⟩:=T.obj 0 _ st2 b hb
  exact Heap.lt_size e
 generalize hs3:({ s2 with heap:=s2.heap.push { cls:=.type "list", dict:=none,data:=.seq ([]:List Value).toArray } }:Shared)=s3 at I3
 have eh:s2.heap.push { cls:=.type "list", dict:=none,data:=.seq ([]:List Value).toArray }=s3.heap:=by rw [← hs3]
 have et:s2.toks=s3.toks:=by rw [← hs3]
 rw [eh] at hns1 hsb1 ⊢
 have sz3:s3.heap.objs.size=s2.heap.objs.size+1:=by rw [← eh,Heap.size_push]
 have hlt3:∀ b ∈ fp,b < s3.heap.objs.size:=fun b hb=>Nat.lt_of_lt_of_le (hltF b hb) (by rw [sz3]; exact Nat.le_succ _)
 have f3:∀ b ∈ fp,FpOk X pins (upd H2 s2.heap.objs.size (.lst [])) b:=fun b hb=>by
  obtain ⟨q1,q2⟩:=f2 b hb
  exact ⟨by rw [au (Nat.ne_of_lt (hltF b hb))]; exact q1,q2⟩
 have up:∀ b o,s3.heap.get? b=some o->h1.get? b=some o:=fun b o e=>hsb1.extBut b o (Nat.ne_of_lt (Heap.lt_size e)) (Heap.get?_push_of_some _ e)
 have old:∀ b o,s2.heap.get? b=some o->h1.get? b=some o:=fun b o e=>up b o (by rw [← eh]; exact Heap.get?_push_of_some _ e)
 have es:({ s2 with heap:=h1,toks:=s2.toks+([]:List (Str × Value)).length }:Shared)={ s3 with heap:=h1,toks:=s2.toks+([]:List (Str × Value)).length }:=by rw [← hs3]
 rw [es]
 have I4:Inv (bn X (x::y2::N) scope cl s3 (upd H2 s2.heap.objs.size (.lst [])) fp) [] (none::none::outs ix σ) (upd H2 s2.heap.objs.size (.lst [])) { s3 with heap:=h1,toks:=s2.toks+([]:List (Str × Value)).length } :=
  comp_start2 S I3 f3 hlt3 hix hns1 up
 have st4:tn 0 h1:=T.keep 0 _ _ st2 fun b _ o e=>old b o e
 have loop:codeAny (model X.prog X.w) X.A (.compLoop (.ListComp elt [⟨.Tuple [.Name x px,.Name y2 py] kt pt,iter,ifs,0⟩] scope pos) 0 (.ref it) (.ref s2.heap.objs.size) (compEnvC scope cl s3.heap.objs.size X.env)) (RR (.ref s2.heap.objs.size) s3.heap.objs.size)
  { s3 with heap:=h1,toks:=s2.toks+([]:List (Str × Value)).length }:=by
  refine compLoop_go (fun n s'=>∃ i v0 v00 H',Inv (bn X (x::y2::N) scope cl s3 (upd H2 s2.heap.objs.size (.lst [])) fp) [] (v0::v00::outs ix σ) H' s'/\tn i s'.heap/\(∀ b ∈ fp,H' b=none)/\W i n H') ?_ m0 ⟨0,none,none,_,I4,st4,fun b hb=>(f3 b hb).1,w0⟩
  rintro n s5 ⟨i,v0,v00,H5,I5,st5,fr5,w5⟩
  have stat:∀ {H':Hp},(∀ b ∈ fp,H' b=none)->∀ b ∈ fp,FpOk (bn X (x::y2::N) scope cl s3 (upd H2 s2.heap.objs.size (.lst [])) fp) [] H' b:=fun hn b hb =>
   ⟨hn b hb,((comp_cx2 S I3 f3 hlt3).exf b hb).1,(comp_cx2 S I3 f3 hlt3).exfs b hb,.inl hb,((comp_cx2 S I3 f3 hlt3).exf b hb).2,fun p hp=>absurd (show p ∈ ([]:List (Addr × Obj)) from hp) (by simp)⟩
  rcases turn i n H5 w5 with ⟨stop,qn⟩ | ⟨go,step⟩
  . refine thn (T.done (bn X (x::y2::N) scope cl s3 (upd H2 s2.heap.objs.size (.lst [])) fp) rfl rfl rfl hc i [] s5 _ H5 _ I5 (stat fr5) st5 stop) fun r s6 ⟨hr,I6⟩=>?_
    subst hr
    obtain ⟨m6,hn6,_⟩:=I6.loc
    exact hRR _ _ H5 s6 m6 hn6 ⟨I6.free,Ne.symm (Nat.ne_of_lt I3.lt),I3.sz,fun y c e z=>by
     obtain ⟨v,q⟩:=I3.cell y c e
     exact absurd q.lt (by rw [z]; exact Nat.lt_irrefl _),fun p hp z=>absurd (Heap.lt_size (I3.pin p hp).1) (by rw [z]; exact Nat.lt_irrefl _)⟩ (comp_back I3 f3 I6 (Heap.SameBut.refl _ _)) qn
  . refine thn (T.item (bn X (x::y2::N) scope cl s3 (upd H2 s2.heap.objs.size (.lst [])) fp) rfl rfl rfl hc i [] s5 _ H5 _ I5 (stat fr5) st5 go) fun r s6 ⟨u,hr,h6⟩=>?_
    subst hr
    refine thn h6 fun _ s7 ⟨y,H7,I7,r7,y7,st7,fr7⟩=>?_
    have I7':=I7.pinned (stat fr7) (T.obj _ _ st7)
    obtain ⟨tt,v1,v2,ey,sq,stp⟩:=step y H7 y7
    subst ey
    have pg:PG (bn X (x::y2::N) scope cl s3 (upd H2 s2.heap.objs.size (.lst [])) fp) (.Tuple [.Name x px,.Name y2 py] kt pt) (gTup X.K 2 (gCons (gName 0) (gCons (gName 1) gNil))) :=
     pg_tup hc (bD (aS (i:=0) nd2 rfl (.inl (lookup_relabel_local S.own)) (.inr (lookup_relabel_local S.own))) (bD (aS (i:=1) nd2 rfl (.inl (lookup_relabel_local S2)) (.inr (lookup_relabel_local S2))) pgs_nil))
    refine thn (pg _ s7 _ H7 (.ref tt) u (fun σ' H'=>σ'=some v1::some v2::outs ix σ/\H'=H7) I7' r7 ⟨tt,_,rfl,sq,rfl,v1,_,rfl,v2,_,rfl,rfl,rfl,rfl⟩) fun _ s8 ⟨σ8,H8,I8,e1,e2⟩=>?_
    subst e1 e2
    have I8':=I8
    have again:∀ {v9 v99:Option V} {H9:Hp} {s9:Shared},Inv (bn X (x::y2::N) scope cl s3 (upd H2 s2.heap.objs.size (.lst [])) fp) ([]++pinsAt fp s7.heap) (v9::v99::outs ix σ) H9 s9->(∃ m',m' < n/\W (i+1) m' H9) ->
     ∃ m,m < n/\∃ i v0 v00 H',Inv (bn X (x::y2::N) scope cl s3 (upd H2 s2.heap.objs.size (.lst [])) fp) [] (v0::v00::outs ix σ) H' s9/\tn i s9.heap/\(∀ b ∈ fp,H' b=none)/\W i m H':=fun {v9 v99 H9 s9} I9 ⟨m',hm,w9⟩=>by
     refine ⟨m',hm,i+1,v9,v99,H9,I9.unpinned,T.keep _ _ _ st7 fun b hb o e=>(I9.pin (b,o) (List.mem_append_right _ (List.mem_append_right _ (cB hb e)))).1,fun b hb=>?_,w9⟩
     obtain ⟨o,e,d⟩:=T.obj _ _ st7 b hb
     exact (I9.pin (b,o) (List.mem_append_right _ (List.mem_append_right _ (cB hb e)))).2.1
    refine thn (hb s3 (upd H2 s2.heap.objs.size (.lst [])) fp _ s8 _ _ _ _ I8' stp) fun ok s9 q9=>?_
    cases ok with
    | false =>
      rw [if_neg (by decide)] at q9 ⊢
      obtain ⟨H9,I9,q9⟩:=q9
      exact again I9 q9
    | true =>
      rw [if_pos rfl] at q9 ⊢
      refine thn q9 fun u s10 ⟨z,H10,I10,r10,ys,hy,hz,q10⟩=>?_
      refine thn (cI _ s10 _ H10 (.ref s2.heap.objs.size) [z] (.ref s2.heap.objs.size) [u] (fun _ H'=>∃ m',m' < n/\W (i+1) m' H') I10 rfl (.cons r10 .nil) ⟨_,ys,z,rfl,rfl,hy,hz,q10⟩) fun _ s11 ⟨_,H11,I11,_,q11⟩=>?_
      exact again I11 q11
 exact codeAny_compStart_list loop (T.self _ 0 _ _ _ st4 loop)
theorem pe_comp2 (hc:X.calm=true) (S:CompScope X x N ix scope cl) (S2:scope.names.lookup y2=some .local) (nd2:(x::y2::N).Nodup) (hix:ix.length=N.length) (hi:PI X (.Tuple [.Name x px,.Name y2 py] kt pt) iter wi) (hb:∀ s3 H3 fp,PB (bn X (x::y2::N) scope cl s3 H3 fp) ifs elt tb)
 (hs:∀ x,foldedSetIterable iter X.env x=pure x:=by intro _; rfl):PE X (.ListComp elt [⟨.Tuple [.Name x px,.Name y2 py] kt pt,iter,ifs,0⟩] scope pos) (tCompR2 X.K wi ix tb):=by
 intro pins s σ H Q I h
 rw [eval_ListComp]
 refine wpAny_comprehension_free (use:=none) rfl hs S.clos S.kind S.names (thn (hi pins s σ H _ I h) fun xv s1 h1=>thn h1 fun itv s2 h2=>?_)
 obtain ⟨it,fp,tn,J,H2,rfl,I2,T,st2,f2,R⟩:=h2
 refine comp_run2 hc S S2 nd2 hix hb (RR:=fun acc C=>compPost (model X.prog X.w) X.A X.xe none (EP X pins σ Q) acc C) I2 T st2 f2 R ?_
 intro D C H' s' m hn ap I' q
 exact ⟨m,hn,fun h'' hb''=>⟨.ref D,H',ap.turn I' hb'',rfl,q⟩⟩
end
theorem comp_zip {K:W.Frag} {c d:Bool} {a b D:Addr} {xs ys:List V} {ix:List Nat} {tb:TBl} {σ:St} {H:Hp} {Q:VK} (hxy:xs.length=ys.length) (Pv:Nat->Hp->Prop) (h0:Pv 0 (upd H D (.lst []))) (hl:∀ i H,i<=xs.length->Pv i H->SqB K c H a xs/\SqB K d H b ys)
 (hs:∀ i x y t H,xs[i]?=some x->ys[i]?=some y->Pv i H->H t=none->tb (some x::some y::outs ix σ) (upd H t (.tup [x,y])) (Nx xs.length i Pv) fun z H'=>∃ ys,H' D=some (.lst ys)/\ys.length < sizeLine/\Nx xs.length i Pv (upd H' D (.lst (ys++[z])))) (hd:∀ H,Pv xs.length H->Q (.ref D) H) :
 CompEx2 K (Itz K c d a b) D ix tb σ H Q:=by
 refine ⟨fun i m H=>m=xs.length - i/\i<=xs.length/\Pv i H,⟨xs.length,by simp,Nat.zero_le _,h0⟩,?_⟩
 rintro i m H ⟨rfl,hi,p⟩
 obtain ⟨q1,q2⟩:=hl i H hi p
 by_cases hlt:i < xs.length
 . have hlt2:i < ys.length:=by omega
   refine .inr ⟨⟨xs,ys,xs[i],ys[i],q1,q2,by simp [hlt],by simp [hlt2]⟩,fun v H' y=>?_⟩
   obtain ⟨t,rfl,ht,e⟩:=y
   have e':=e xs ys xs[i] ys[i] q1 q2 (by simp [hlt]) (by simp [hlt2])
   subst e'
   exact ⟨t,_,_,rfl,SqT.of upd_same,hs i xs[i] ys[i] t H (by simp [hlt]) (by simp [hlt2]) p ht⟩
 . have e:i=xs.length:=by omega
   subst e
   exact .inl ⟨⟨xs,ys,q1,q2,.inl (Nat.le_refl _)⟩,hd H p⟩
end L2
namespace L2
open PySem PyProof.Rows HT
section
variable {X:Cx}
theorem pi_tupK (K:W.Frag) {tg l:Expr} {tl:TE} (hl:PE X l tl) (hK:X.K=K:=by rfl):PI X tg l (iTup K tl):=by subst hK; exact pi_tup hl
end
end L2
namespace L2
open PySem PySem.Spec PyProof.Rows
abbrev IsZipB (h:Heap) (z TI TO:Addr) (f0:Value) (b:Bool):Prop :=
 h.get? z=some { cls:=.type "zip", dict:=none,data:=.fields #[f0,.bool b,.bool false,.ref TI,.ref TO],slots:=#[] }
section
variable {prog:Program} {w:World} {A:Around} {E:Value->Shared->Prop} {s:Shared}
theorem wpAny_alive {a:Addr} {Q:Option Obj->Shared->Prop} (h:Q (s.heap.get? a) s):wpAny (model prog w) A (loadIfAlive a) Q E s:=fun Γ p _=>by
 unfold loadIfAlive
 rw [Sem.wp_loadIfAlive]
 exact h
theorem zb_notFree {z TI TO t:Addr} {b:Bool} {ob:Obj} {Q:Bool->Shared->Prop} (hz:IsZipB s.heap z TI TO (rawInt t) b) (ht:s.heap.get? t=some ob)
 (hQ:∀ h',IsZipB h' z TI TO (rawInt t) true->Heap.SameBut z s.heap h'->Q false { s with heap:=h' }):wpAny (model prog w) A (Builtin.SmallTypes.ownedTupleIsFree (.ref z)) Q E s:=by
 unfold Builtin.SmallTypes.ownedTupleIsFree
 refine wpAny_bind (wpAny_field hz rfl (x:=rawInt t) rfl ?_)
 show wpAny _ _ (loadIfAlive (Int.toNat (t:Int)) >>= _) _ _ _
 rw [Int.toNat_natCast]
 refine wpAny_bind (wpAny_alive ?_)
 rw [ht]
 simp only [Option.isNone_some,Bool.false_eq_true,if_false]
 refine wpAny_bind (wpAny_field hz rfl (x:=.bool b) rfl ?_)
 cases b with
 | true =>
   rw [if_neg (by decide)]
   exact wpAny_pure (hQ s.heap hz (Heap.SameBut.refl _ _))
 | false =>
   rw [if_pos (by decide)]
   refine wpAny_bind (wpAny_setField_rec hz (by simp) fun ha za sa=>wpAny_pure ?_)
   exact hQ ha za sa
theorem zb_item {z TI TO i1 i2 l1 l2 t:Addr} {k1 k2:Nat} {xs ys:Array Value} {x y:Value} {b:Bool} {ob:Obj} {Q:Option Value->Shared->Prop} (D:ZipApart z TI TO i1 i2 l1 l2)
 (hz:IsZipB s.heap z TI TO (rawInt t) b) (ht:s.heap.get? t=some ob) (hTI:IsPair s.heap TI (.ref i1) (.ref i2)) (h1:SqIt s.heap i1 l1 k1 xs) (h2:SqIt s.heap i2 l2 k2 ys) (hx:xs[k1]?=some x) (hy:ys[k2]?=some y)
 (hQ:∀ h',IsZipB h' z TI TO (rawInt t) true->SqIt h' i1 l1 (k1+1) xs->SqIt h' i2 l2 (k2+1) ys->IsPair h' s.heap.objs.size x y ->
  (∀ c o,c ≠ z->c ≠ i1->c ≠ i2->s.heap.get? c=some o->h'.get? c=some o)->Q (some (.ref s.heap.objs.size)) { s with heap:=h' }) :
 wpAny (model prog w) A (pyNext (.ref z)) Q E s:=by
 have hT:s.TypeIs (.ref z) "zip" := ⟨_,hz,rfl⟩
 unfold pyNext
 refine wpAny_bind (wpAny_attempt (wpAny_callSpecial?_slot (name:=Str.ofString "__next__") hT F.slot_zip_next (wpAny_call_entry F.slot_zip_next hT F.entry_zip_next ?_ (F.args_zip_next_1 _))))
 show wpAny _ _ (field (.ref z) 2 >>= _) _ _ _
 refine wpAny_bind (wpAny_field hz rfl (x:=.bool false) rfl ?_)
 show wpAny _ _ (field (.ref z) 3 >>= _) _ _ _
 refine wpAny_bind (wpAny_field hz rfl (x:=.ref TI) rfl (wpAny_bind (wpAny_seqItems hTI rfl ?_)))
 show wpAny _ _ (Builtin.SmallTypes.ownedTupleIsFree (.ref z) >>= _) _ _ _
 refine wpAny_bind (zb_notFree hz ht fun ha za sa=>?_)
 simp only [Bool.false_eq_true,if_false]
 refine wpAny_bind ?_
 rw [← Array.forIn_toList]
 simp only [List.forIn_cons,List.forIn_nil]
 refine wpAny_bind (wpAny_bind (wpAny_holding ?_))
 show wpAny _ _ (Builtin.SmallTypes.nextOf (.ref i1) >>= _) _ _ _
 refine wpAny_bind (sq_item (h1.ext sa.extBut D.i1z D.l1z) D.l1i1 hx fun hb q1 sb=>wpAny_pure ?_)
 refine wpAny_pure (wpAny_bind (wpAny_bind (wpAny_holding ?_)))
 show wpAny _ _ (Builtin.SmallTypes.nextOf (.ref i2) >>= _) _ _ _
 refine wpAny_bind (sq_item ((h2.ext sa.extBut D.i2z D.l2z).ext sb.extBut D.i12.symm D.l2i1) D.l2i2 hy fun hd q2 sd=>wpAny_pure ?_)
 refine wpAny_pure (wpAny_pure (wpAny_bind (wpAny_newTuple (hsz:=by show 2<=sizeLine; decide) ?_)))
 have sz:hd.objs.size=s.heap.objs.size:=by rw [sd.1,sb.1,sa.1]
 have zd:IsZipB hd z TI TO (rawInt t) true:=sd.extBut _ _ D.i2z.symm (sb.extBut _ _ D.i1z.symm za)
 have q1d:=q1.ext sd.extBut D.i12 D.l1i2
 have up:∀ c o,hd.get? c=some o->(hd.push { cls:=.type "tuple", data:=.seq #[x,y] }).get? c=some o:=fun c o e=>Heap.get?_push_of_some _ e
 refine wpAny_pure ⟨_,rfl,wpAny_pure ?_⟩
 show Q (some (.ref hd.objs.size)) _
 rw [sz]
 refine hQ _ (up _ _ zd) (q1d.at (fun o e=>up _ o e) (fun o e=>up _ o e)) (q2.at (fun o e=>up _ o e) (fun o e=>up _ o e)) ?_ fun c o c1 c2 c3 e=>up _ _ (sd.extBut _ _ c3 (sb.extBut _ _ c2 (sa.extBut _ _ c1 e)))
 rw [← sz]
 exact Heap.get?_push_size _ rfl
theorem zb_end {z TI TO i1 i2 l1 l2 t:Addr} {k1:Nat} {xs:Array Value} {b:Bool} {ob:Obj} {Q:Option Value->Shared->Prop} (hh:A.handled=none) (D:ZipApart z TI TO i1 i2 l1 l2)
 (hz:IsZipB s.heap z TI TO (rawInt t) b) (ht:s.heap.get? t=some ob) (hTI:IsPair s.heap TI (.ref i1) (.ref i2)) (h1:SqIt s.heap i1 l1 k1 xs) (hx:xs[k1]?=none)
 (hQ:∀ h',(∀ c o,c ≠ z->c ≠ i1->c ≠ i2->s.heap.get? c=some o->h'.get? c=some o)->Q none { s with heap:=h' }):wpAny (model prog w) A (pyNext (.ref z)) Q E s:=by
 have hT:s.TypeIs (.ref z) "zip" := ⟨_,hz,rfl⟩
 unfold pyNext
 have hh1:A.in1.handled=none:=hh
 suffices hs:wpAny (model prog w) A.in1 (Builtin.«zip.__next__» ⟨[.ref z],[]⟩) (fun fin s'=>∃ v,fin=.done (.ret v)/\False)
  (fun v s'=>∃ h' e,v=.ref e/\s'={ s with heap:=h' }/\(∀ c o,c ≠ z->c ≠ i1->c ≠ i2->s.heap.get? c=some o->h'.get? c=some o)/\∃ o,h'.get? e=some o/\o.cls=.type "StopIteration") s by
  refine wpAny_bind (wpAny_attempt (wpAny_callSpecial?_slot (name:=Str.ofString "__next__") hT F.slot_zip_next (wpAny_call_entry F.slot_zip_next hT F.entry_zip_next (wpAny_mono hs (fun _ _ h=>by obtain ⟨_,_,f⟩:=h; exact f.elim) ?_) (F.args_zip_next_1 _))))
  rintro _ _ ⟨h',e,rfl,rfl,hk,o,ho,hc⟩
  exact wpAny_bind (wpAny_isInstance (T := "StopIteration") (b:=true) ⟨o,ho,hc⟩ isSubtype_stop (wpAny_pure (hQ _ hk)))
 show wpAny _ _ (field (.ref z) 2 >>= _) _ _ _
 refine wpAny_bind (wpAny_field hz rfl (x:=.bool false) rfl ?_)
 show wpAny _ _ (field (.ref z) 3 >>= _) _ _ _
 refine wpAny_bind (wpAny_field hz rfl (x:=.ref TI) rfl (wpAny_bind (wpAny_seqItems hTI rfl ?_)))
 show wpAny _ _ (Builtin.SmallTypes.ownedTupleIsFree (.ref z) >>= _) _ _ _
 refine wpAny_bind (zb_notFree hz ht fun ha za sa=>?_)
 simp only [Bool.false_eq_true,if_false]
 refine wpAny_bind ?_
 rw [← Array.forIn_toList]
 simp only [List.forIn_cons,List.forIn_nil]
 refine wpAny_bind (wpAny_bind (wpAny_holding ?_))
 show wpAny _ _ (Builtin.SmallTypes.nextOf (.ref i1) >>= _) _ _ _
 refine wpAny_bind (sq_end hh1 (h1.ext sa.extBut D.i1z D.l1z) hx fun hb e sb hoe=>?_)
 exact ⟨hb,e,rfl,rfl,fun c o c1 c3 _ x=>sb _ _ c3 (sa.extBut _ _ c1 x),hoe⟩
end
def ItVT (K:W.Frag) (a:Addr) (xs:List V):It:=⟨fun i H=>SqT K H a xs/\i < xs.length,fun i H y H'=>H'=H/\xs.reverse[i]?=some y,fun i _=>xs.length<=i⟩
theorem RevT.keep {h h':Heap} {it t:Addr} {i:Int} (x:RevT h it t i) (k:∀ o,h.get? it=some o->h'.get? it=some o):RevT h' it t i:=k _ x
theorem turn_revT {P:Program} {w:World} {K:W.Frag} {tg:Expr} (a it:Addr) (xs:List V):Turn P w K tg (ItVT K a xs) [it] it (fun i h=>i<=xs.length/\RevT h it a ((xs.length:Int) - 1 - (i:Int))) where
 mem:=by simp
 obj:=fun i h st b hb=>by
  have e:b=it:=by simpa using hb
  subst e
  exact ⟨_,st.2,fun v z=>by cases z⟩
 keep:=fun i h h' st k=>⟨st.1,st.2.keep fun o e=>k it (by simp) o e⟩
 item:=by
  intro X hP hw hK hc i pins s σ H E I hf st hg
  subst hP hw hK
  obtain ⟨hq,hi⟩:=hg
  obtain ⟨its,rv,p,hz⟩:=I.tuple hq
  have hj:xs.length - 1 - i < xs.length:=by omega
  have hx:xs[xs.length - 1 - i]?=some xs[xs.length - 1 - i]:=List.getElem?_eq_getElem hj
  obtain ⟨u,hu,ru⟩:=rv.get hx
  obtain ⟨f0,f1,f2,f3,f4,f5⟩:=hf it (by simp)
  obtain ⟨_,hit⟩:=st
  have e1:((xs.length:Int) - 1 - (i:Int))=((xs.length - 1 - i:Nat):Int):=by omega
  rw [e1] at hit
  have h63:=line63
  refine next_revT_item hit p (x:=u) (by simpa using hu) (by omega) fun h' tk st' sb=>?_
  have I1:Inv X pins σ H { s with heap:=h',toks:=tk }:=I.turned (t':=tk) (fun b o hb e=>(sb.2 b hb).trans e) f0 f1 f3 f4 f5
  have e2:((xs.length - 1 - i:Nat):Int) - 1=(xs.length:Int) - 1 - ((i+1:Nat):Int):=by omega
  rw [e2] at st'
  refine ⟨u,rfl,go_of (s:={ s with heap:=h',toks:=tk }) st' rfl rfl (by decide) ⟨xs[xs.length - 1 - i],H,I1,ru,⟨rfl,?_⟩,⟨by omega,st'⟩,fun b hb=>(hf b hb).1⟩⟩
  rw [List.getElem?_reverse hi,hx]
 done:=by
  intro X hP hw hK hc i pins s σ H E I hf st hg
  subst hP hw hK
  have hg:xs.length<=i:=hg
  obtain ⟨f0,f1,f2,f3,f4,f5⟩:=hf it (by simp)
  obtain ⟨hi,hit⟩:=st
  have e1:(xs.length:Int) - 1 - (i:Int)=-1:=by omega
  rw [e1] at hit
  exact next_revT_end (I.ok.hd hc) hit fun h' tk eb=>⟨rfl,I.turned (t':=tk) (fun b o hb e=>eb b o hb e) f0 f1 f3 f4 f5⟩
 self:=fun _ _ _ _ _ st h=>iter_revT st.2 h
def ItVB (K:W.Frag) (c:Bool) (a:Addr) (xs:List V):It:=if c=true then ItV K a xs else ItVT K a xs
section
variable {X:Cx} {tg:Expr}
def iRevB (K:W.Frag) (tl:TE):TI:=fun σ H R=>tl σ H fun x H1=>∃ c a xs,x=.ref a/\SqB K c H1 a xs/\R (ItVB K c a xs) H1
theorem pi_revb {l:Expr} {tl:TE} {p pos:Pos} (hg:Gl X "reversed") (hm:X.mg "reversed" = none) (hl:PE X l tl) (hs:starEach [l] X.env=[(false,eval l X.env)]:=by rfl) :
 PI X tg (.Call (.Name "reversed" p) [l] [] pos) (iRevB X.K tl):=by
 intro pins s σ H R I h
 refine wpAny_Call_Name_kw (ld_blt I hg hm boot_reversed' ?_)
 refine PyProof.Rows.callWith_type1 ?_ hs rfl
 rw [hs]
 show wpAny _ _ (spliced ((false,eval l X.env)::backTo pos (starEach [] X.env))) _ _ s
 refine Calls.spliced_cons (thn (hl pins s σ H _ I h) fun u s1 ⟨x,H1,I1,r1,c,a,xs,ex,hq,q⟩=>?_)
 subst ex
 cases r1
 refine Calls.spliced_nil ?_
 cases c with
 | true =>
   have hq:SqL X.K H1 a xs:=hq
   have q:R (ItV X.K a xs) H1:=q
   obtain ⟨its,rv,p,hz⟩:=I1.list hq
   have hlen:=rv.length
   refine call_reversed_list p.isList ?_
   have hr:(s1.heap.push (revObj a ((its.toArray.size:Int) - 1))).IsRevIter s1.heap.objs.size a ((xs.length:Int) - 1 - ((0:Nat):Int)):=by
    have e:(xs.length:Int) - 1 - ((0:Nat):Int)=(its.toArray.size:Int) - 1:=by rw [List.size_toArray]; omega
    rw [e]
    exact ⟨_,Heap.get?_push_size _ rfl,rfl,rfl⟩
   refine wpAny_pyIter_revIter hr ?_
   refine ⟨s1.heap.objs.size,[s1.heap.objs.size],_,_,H1,rfl,I1.kept (t':=s1.toks) fun b o e=>Heap.get?_push_of_some _ e,turn_revl a _ xs,⟨Nat.zero_le _,hr⟩,fun b hb=>?_,q⟩
   have e:b=s1.heap.objs.size:=by simpa using hb
   subst e
   exact I1.fpOk (Nat.le_refl _) (I1.hok.fresh (Nat.le_refl _))
 | false =>
   have hq:SqT X.K H1 a xs:=hq
   have q:R (ItVT X.K a xs) H1:=q
   obtain ⟨its,rv,p,hz⟩:=I1.tuple hq
   have hlen:=rv.length
   refine call_reversed_tup p (by rw [List.size_toArray,← rv.length]; exact hz) fun tk=>?_
   have hr:RevT (s1.heap.push { cls:=.type "reversed", data:=.fields #[.ref a,rawInt ((its.toArray.size:Int) - 1)] }) s1.heap.objs.size a ((xs.length:Int) - 1 - ((0:Nat):Int)):=by
    have e:(xs.length:Int) - 1 - ((0:Nat):Int)=(its.toArray.size:Int) - 1:=by rw [List.size_toArray]; omega
    rw [e]
    exact Heap.get?_push_size _ rfl
   refine iter_revT hr ?_
   refine ⟨s1.heap.objs.size,[s1.heap.objs.size],_,_,H1,rfl,I1.kept (t':=tk) fun b o e=>Heap.get?_push_of_some _ e,turn_revT a _ xs,⟨Nat.zero_le _,hr⟩,fun b hb=>?_,q⟩
   have e:b=s1.heap.objs.size:=by simpa using hb
   subst e
   exact I1.fpOk (Nat.le_refl _) (I1.hok.fresh (Nat.le_refl _))
end
theorem for_revb {K:W.Frag} {c:Bool} {a:Addr} {xs:List V} {g:TG} {tb:TS} {D:Ends} {σ:St} {H:Hp} (Pv:Nat->St->Hp->Prop) (h0:Pv 0 σ H) (hl:∀ i σ H,i<=xs.length->Pv i σ H->SqB K c H a xs)
 (hs:∀ i x σ H,i < xs.length->xs.reverse[i]?=some x->Pv i σ H->g x σ H fun σ2 H2=>tb { D with nx:=Pv (i+1),ct:=Pv (i+1),bk:=D.nx } σ2 H2) (hd:∀ σ H,Pv xs.length σ H->D.nx σ H) :
 ∃ W:Nat->Nat->St->Hp->Prop,(∃ m,W 0 m σ H)/\∀ i m σ H,W i m σ H ->
  ((ItVB K c a xs).stop i H/\D.nx σ H)∨((ItVB K c a xs).go i H/\∃ N:St->Hp->Prop,(∀ σ' H',N σ' H'->∃ m',m' < m/\W (i+1) m' σ' H')/\∀ x H',(ItVB K c a xs).yld i H x H'->g x σ H' fun σ2 H2=>tb { D with nx:=N,ct:=N,bk:=D.nx } σ2 H2):=by
 cases c with
 | true=>exact for_revl Pv h0 hl hs hd
 | false =>
   refine ⟨fun i m σ H=>m=xs.length - i/\i<=xs.length/\Pv i σ H,⟨xs.length,by simp,Nat.zero_le _,h0⟩,?_⟩
   rintro i m σ H ⟨rfl,hi,p⟩
   have q:=hl i σ H hi p
   by_cases hlt:i < xs.length
   . refine .inr ⟨⟨q,hlt⟩,Pv (i+1),fun σ' H' p'=>⟨xs.length - (i+1),by omega,rfl,hlt,p'⟩,fun x H' y=>?_⟩
     obtain ⟨e,ex⟩:=y
     subst e
     exact hs i x σ _ hlt ex p
   . have e:i=xs.length:=by omega
     subst e
     exact .inl ⟨Nat.le_refl _,hd σ H p⟩
theorem for_zip {K:W.Frag} {c d:Bool} {a b:Addr} {xs ys:List V} {g:TG} {tb:TS} {D:Ends} {σ:St} {H:Hp} (hxy:xs.length=ys.length) (Pv:Nat->St->Hp->Prop) (h0:Pv 0 σ H) (hl:∀ i σ H,i<=xs.length->Pv i σ H->SqB K c H a xs/\SqB K d H b ys)
 (hs:∀ i x y σ H t,xs[i]?=some x->ys[i]?=some y->Pv i σ H->H t=none->g (.ref t) σ (upd H t (.tup [x,y])) fun σ2 H2=>tb { D with nx:=Pv (i+1),ct:=Pv (i+1),bk:=D.nx } σ2 H2) (hd:∀ σ H,Pv xs.length σ H->D.nx σ H) :
 ∃ W:Nat->Nat->St->Hp->Prop,(∃ m,W 0 m σ H)/\∀ i m σ H,W i m σ H ->
  ((Itz K c d a b).stop i H/\D.nx σ H)∨((Itz K c d a b).go i H/\∃ N:St->Hp->Prop,(∀ σ' H',N σ' H'->∃ m',m' < m/\W (i+1) m' σ' H')/\∀ x H',(Itz K c d a b).yld i H x H'->g x σ H' fun σ2 H2=>tb { D with nx:=N,ct:=N,bk:=D.nx } σ2 H2):=by
 refine ⟨fun i m σ H=>m=xs.length - i/\i<=xs.length/\Pv i σ H,⟨xs.length,by simp,Nat.zero_le _,h0⟩,?_⟩
 rintro i m σ H ⟨rfl,hi,p⟩
 obtain ⟨q1,q2⟩:=hl i σ H hi p
 by_cases hlt:i < xs.length
 . have hlt2:i < ys.length:=by omega
   refine .inr ⟨⟨xs,ys,xs[i],ys[i],q1,q2,by simp [hlt],by simp [hlt2]⟩,Pv (i+1),fun σ' H' p'=>⟨xs.length - (i+1),by omega,rfl,hlt,p'⟩,fun x H' y=>?_⟩
   obtain ⟨t,rfl,ht,e⟩:=y
   have e':=e xs ys xs[i] ys[i] q1 q2 (by simp [hlt]) (by simp [hlt2])
   subst e'
   exact hs i xs[i] ys[i] σ H t (by simp [hlt]) (by simp [hlt2]) p ht
 . have e:i=xs.length:=by omega
   subst e
   exact .inl ⟨⟨xs,ys,q1,q2,.inl (Nat.le_refl _)⟩,hd σ H p⟩
theorem zip_no_keys:typeLookup (.type "zip") "keys" = pure none:=by rw [typeLookup_type,builtinLookup_eq_fast]; kernel_rfl
theorem zip_getattr_none:typeLookup (.type "zip") "__getattr__" = pure none:=by rw [typeLookup_type,builtinLookup_eq_fast]; kernel_rfl
theorem entry_zip_getattribute:entryFor table "zip.__getattribute__" = some Builtin.«object.__getattribute__»:=entryFor_alias (id' := "object.__getattribute__") (by kernel_rfl) (by decide +kernel) (by decide +kernel) (by kernel_rfl)
theorem meets_miss_zip (a:Addr) (fs:Array Value) (name:Str) (u:Tok) (hmiss:typeLookup (.type "zip") name=pure none) (hname:(["__module__", "__name__", "__qualname__", "__doc__", "__annotations__"]:List Str).contains name=false) (hsz:name.length+100<=sizeLine:=by size_fits) :
 Meets (Builtin.«object.__getattribute__» ⟨[.ref a,.str name u],[]⟩) (fun A R s=>s.heap.get? a=some { cls:=.type "zip", dict:=none,data:=.fields fs,slots:=#[] }/\raisesAttr (.ref a) name A R s) :=
 Meets.of_wp fun prog w A R s hs=>by
  obtain ⟨hp,g,d,tk,os⟩:=s
  obtain ⟨hx,hs⟩:=hs
  have hT:(⟨hp,g,d,tk,os⟩:Shared).TypeIs (.ref a) "zip" := ⟨_,hx,rfl⟩
  unfold Builtin.«object.__getattribute__»
  repeat (any_goals (first | assumption | wp_step))
  simp only [hname,Bool.false_eq_true,if_false]
  repeat (any_goals (first | assumption | wp_step))
  exact wpAny_raiseAttrError hs.1 hs.2 (attrMsg_fits (by decide +kernel) hsz)
section
variable {prog:Program} {w:World} {A:Around} {E:Value->Shared->Prop} {s:Shared}
theorem noKeysZ {a:Addr} {fs:Array Value} {Q:Option Value->Shared->Prop} (hx:s.heap.get? a=some { cls:=.type "zip", dict:=none,data:=.fields fs,slots:=#[] }) (hA:A.handled=none)
 (h:∀ h' tk,(∀ b o,s.heap.get? b=some o->h'.get? b=some o)->Q none { s with heap:=h',toks:=tk }):wpAny (model prog w) A (getAttr? (.ref a) "keys") Q E s:=by
 obtain ⟨hp,g,d,tk,os⟩:=s
 have hT:∀ tk',(⟨hp,g,d,tk',os⟩:Shared).TypeIs (.ref a) "zip" := fun _=>⟨_,hx,rfl⟩
 have f1:=sub_AttributeError
 have f3:=F.slot_zip_getattribute.lookup
 have f4:=F.slot_zip_getattribute.bind (.ref a)
 have f5:=zip_getattr_none
 unfold getAttr? getAttrBy? getAttrBy
 repeat (any_goals (first | assumption | exact hT _ | ((with_reducible show wpAny _ _ (call (Value.builtin "zip.__getattribute__") _ _) _ _ _); refine call_meets F.slot_zip_getattribute (hT _) entry_zip_getattribute (F.args_zip_getattribute_2 _ _) (meets_miss_zip a fs "keys" _ zip_no_keys (by decide) (by decide)) ⟨hx,hA,fun h' tk' e hx'=>?_⟩) | wp_step))
 obtain ⟨t',u',he⟩:=hx'.there
 show wpAny _ _ (getattributeRaised _ _ _ _ _ _ _) _ _ _
 unfold getattributeRaised
 repeat (any_goals (first | assumption | wp_step))
 exact h _ _ hx'.keeps
theorem entry_dict_loopZ:entryFor table "dict.update.loop" = some Builtin.«dict.update.loop»:=entryFor_of_tree (by kernel_rfl)
theorem cH:plainId "dict.update.loop" = true:=by decide +kernel
theorem stored_len {vs:List (Key × Value)} {k:Key} {v:Value}:(stored vs k v).length<=vs.length+1:=by
 unfold stored
 split
 . rw [List.length_map]
   exact Nat.le_succ _
 . rw [List.length_append,List.length_singleton]
   exact Nat.le_refl _
def ZS (d z TI TO i1 i2:Addr) (i:Nat) (h:Heap):Prop:=((i=0/\IsZip h z TI TO .none)∨∃ (t:Addr) (f:Bool) (ob:Obj),IsZipB h z TI TO (rawInt t) f/\h.get? t=some ob/\t ∉ [d,z,TO,i1,i2])/\IsPair h TI (.ref i1) (.ref i2)/\∃ p q,IsPair h TO p q
theorem dz_loop {d z TI TO i1 i2 l1 l2:Addr} {xs ys:Array Value} {rs:List (Key × Value)} {R:Result->Shared->Prop} (hh:A.handled=none) (D:ZipApart z TI TO i1 i2 l1 l2) (dn:d ∉ [z,TI,TO,i1,i2,l1,l2]) (hl:xs.size=rs.length)
 (hk:∀ (j:Nat) (kv:Key × Value),rs[j]?=some kv->∃ ky,xs[j]?=some ky/\ys[j]?=some kv.2/\(bc prog w).is kv.1 ky=true) :
 ∀ (k i:Nat) (s:Shared) (kvs:List (Key × Value)),rs.length - i=k->i<=rs.length->ZS d z TI TO i1 i2 i s.heap->SqIt s.heap i1 l1 i xs->SqIt s.heap i2 l2 i ys->s.heap.DictOf (bc prog w) d kvs->kvs.length+k<=sizeLine ->
  (∀ h' tk,h'.DictOf (bc prog w) d (merged kvs (rs.drop i))->(∀ b o,b ∉ [d,z,TO,i1,i2]->s.heap.get? b=some o->h'.get? b=some o)->R (.ok (.ret .none)) { s with heap:=h',toks:=tk }) ->
  codeAny (model prog w) A (.builtin "dict.update.loop" ⟨[.ref d,.ref z,.int i 0,.none],[]⟩) R s:=by
 have dz:d ≠ z:=fun e=>dn (by simp [e])
 have dTI:d ≠ TI:=fun e=>dn (by simp [e])
 have dTO:d ≠ TO:=fun e=>dn (by simp [e])
 have d1:d ≠ i1:=fun e=>dn (by simp [e])
 have d2:d ≠ i2:=fun e=>dn (by simp [e])
 have dl1:d ≠ l1:=fun e=>dn (by simp [e])
 have dl2:d ≠ l2:=fun e=>dn (by simp [e])
 intro k
 induction k with
 | zero =>
   intro i s kvs hk0 hi zs q1 q2 hd hz hR
   have hin:i=rs.length:=by omega
   refine codeAny_builtin entry_dict_loopZ ?_
   rw [Around.under_plainId cH _]
   show wpAny _ A.in1 (pyNext (.ref z) >>= _) _ _ s
   have hx:xs[i]?=none:=Array.getElem?_eq_none (by omega)
   have fin:∀ h',(∀ c o,c ≠ z->c ≠ TO->c ≠ i1->c ≠ i2->s.heap.get? c=some o->h'.get? c=some o)->R (.ok (.ret .none)) { s with heap:=h' }:=fun h' kp=>by
    refine hR h' s.toks ?_ fun b o nb e=>kp b o (fun y=>nb (by simp [y])) (fun y=>nb (by simp [y])) (fun y=>nb (by simp [y])) (fun y=>nb (by simp [y])) e
    rw [hin,List.drop_length]
    obtain ⟨o,es,ep,e,r⟩:=hd
    exact ⟨o,es,ep,kp _ _ dz dTO d1 d2 e,r⟩
   obtain ⟨hz',hTI,⟨p,q,hTO⟩⟩:=zs
   rcases hz' with ⟨_,hz'⟩ | ⟨t,f,ob,hz',ht,_⟩
   . refine wpAny_bind (zq_end (A:=A.in1) hh D hz' hTI hTO q1 q2 (.inl hx) fun h' kp=>?_)
     show wpAny _ A.in1 (Builtin.Dict.addKeywords d [] >>= _) _ _ _
     exact wpAny_bind (wpAny_pure (wpAny_pure (fin h' kp)))
   . refine wpAny_bind (zb_end (A:=A.in1) hh D hz' ht hTI q1 hx fun h' kp=>?_)
     show wpAny _ A.in1 (Builtin.Dict.addKeywords d [] >>= _) _ _ _
     exact wpAny_bind (wpAny_pure (wpAny_pure (fin h' fun c o n1 n2 n3 n4 e=>kp c o n1 n3 n4 e)))
 | succ k ih =>
   intro i s kvs hk0 hi zs q1 q2 hd hz hR
   have hlt:i < rs.length:=by omega
   obtain ⟨ky,hx,hy,hkey⟩:=hk i rs[i] (List.getElem?_eq_getElem hlt)
   refine codeAny_builtin entry_dict_loopZ ?_
   rw [Around.under_plainId cH _]
   show wpAny _ A.in1 (pyNext (.ref z) >>= _) _ _ s
   have dlt:d < s.heap.objs.size:=by
    obtain ⟨_,_,_,e,_⟩:=hd
    exact Heap.lt_size e
   have sfr:s.heap.get? s.heap.objs.size=none:=by
    cases e:s.heap.get? s.heap.objs.size with
    | none=>rfl
    | some o=>exact absurd (Heap.lt_size e) (Nat.lt_irrefl _)
   have step:∀ ha,(∃ (t:Addr) (f:Bool) (ob:Obj),IsZipB ha z TI TO (rawInt t) f/\ha.get? t=some ob/\t ∉ [d,z,TO,i1,i2])->IsPair ha TI (.ref i1) (.ref i2)->(∃ p q,IsPair ha TO p q)->SqIt ha i1 l1 (i+1) xs->SqIt ha i2 l2 (i+1) ys->IsPair ha s.heap.objs.size ky rs[i].2 ->
    (∀ c o,c ≠ z->c ≠ TO->c ≠ i1->c ≠ i2->s.heap.get? c=some o->ha.get? c=some o) ->
    wpAny (model prog w) A.in1 (holding [Value.ref s.heap.objs.size] (do
     let pair ← (Builtin.Dict.pairItems (.ref s.heap.objs.size)).tryCatch fun e=>do
      if !(← isInstance e (.type "TypeError")) then throw e
      rule "dict.update.element-no-sequence"
      raiseError "TypeError" s!"cannot convert dictionary update sequence element #{(i : Int)} to a sequence"
     match pair with
     | [k,v]=>holding [k,v] (dictSet d k v)
     | l =>
       rule "dict.update.element-length"
       raiseError "ValueError" s!"dictionary update sequence element #{(i : Int)} has length {l.length}; 2 is required") >>= fun _=>again (.builtin "dict.update.loop" ⟨[.ref d,.ref z,rawInt ((i:Int)+1),.none],[]⟩))
     (fun fin s'=>match fin with | .done f=>R (.ok f) s' | .again c'=>c'.quiet=true/\codeAny (model prog w) A c' R s') (fun e s'=>R (.error e) s') { s with heap:=ha }:=fun ha za hTIa hTOa g1 g2 pr kp=>by
    refine wpAny_bind (wpAny_holding ?_)
    refine wpAny_bind ?_
    have hT:Shared.TypeIs { s with heap:=ha } (.ref s.heap.objs.size) "tuple" := ⟨_,pr,rfl⟩
    refine wpAny_tryCatch ?_
    unfold Builtin.Dict.pairItems
    refine wpAny_bind (wpAny_typeOf hT ?_)
    rw [if_pos (by decide)]
    refine wpAny_bind (wpAny_seqItems pr rfl (wpAny_pure ?_))
    show wpAny _ A.in1 (holding [ky,rs[i].2] (dictSet d ky rs[i].2)) _ _ _
    have hda:ha.DictOf (bc prog w) d kvs:=by
     obtain ⟨o,es,ep,e,r⟩:=hd
     exact ⟨o,es,ep,kp _ _ dz dTO d1 d2 e,r⟩
    refine wpAny_holding (wpAny_dictSet_pairs (knd:=bc prog w) (hsz:=by omega) hkey hda fun hb hdb sb=>?_)
    refine wpAny_pure ⟨plainId_quiet cH _,?_⟩
    have ii:((i:Int)+1)=((i+1:Nat):Int):=by omega
    show codeAny _ A (.builtin "dict.update.loop" ⟨[.ref d,.ref z,.int ((i:Int)+1) 0,.none],[]⟩) R _
    rw [ii]
    obtain ⟨t,f,ob,hzt,ht,tn⟩:=za
    obtain ⟨p,q,hTO⟩:=hTOa
    refine ih (i+1) _ (stored kvs rs[i].1 rs[i].2) (by omega) (by omega) ⟨.inr ⟨t,f,ob,sb.extBut _ _ (Ne.symm dz) hzt,sb.extBut _ _ (fun y=>tn (by simp [y])) ht,tn⟩,sb.extBut _ _ (Ne.symm dTI) hTIa,p,q,sb.extBut _ _ (Ne.symm dTO) hTO⟩ (g1.ext sb.extBut (Ne.symm d1) (Ne.symm dl1)) (g2.ext sb.extBut (Ne.symm d2) (Ne.symm dl2)) hdb (by have:=stored_len (vs:=kvs) (k:=rs[i].1) (v:=rs[i].2); omega) fun h' tk hd' kp'=>?_
    refine hR h' tk ?_ fun b o nb e=>kp' b o nb (sb.extBut _ _ (fun y=>nb (by simp [y])) (kp b o (fun y=>nb (by simp [y])) (fun y=>nb (by simp [y])) (fun y=>nb (by simp [y])) (fun y=>nb (by simp [y])) e))
    rw [List.drop_eq_getElem_cons hlt]
    exact hd'
   have lts:∀ {c:Addr} {o:Obj},s.heap.get? c=some o->s.heap.objs.size ≠ c:=fun {c o} e y=>by rw [← y,sfr] at e; cases e
   obtain ⟨hz',hTI,⟨p,q,hTO⟩⟩:=zs
   have ns:∀ {zo:Obj},s.heap.get? z=some zo->s.heap.objs.size ∉ [d,z,TO,i1,i2]:=fun {zo} ez hm=>by
    simp only [List.mem_cons,List.not_mem_nil,or_false] at hm
    obtain ⟨o1,e1,_⟩:=q1.obj
    obtain ⟨o2,e2,_⟩:=q2.obj
    rcases hm with h | h | h | h | h
    . exact absurd h (Nat.ne_of_gt dlt)
    . exact lts ez h
    . exact lts hTO h
    . exact lts e1 h
    . exact lts e2 h
   rcases hz' with ⟨_,hz'⟩ | ⟨t,f,ob,hz',ht,tn⟩
   . refine wpAny_bind (zq_item D hz' hTI hTO q1 q2 hx hy fun h' z1 TO1 g1 g2 T1 k1=>?_)
     exact step h' ⟨_,_,_,z1,T1,ns hz'⟩ (k1 _ _ D.TIz D.TITO D.TIi1 D.TIi2 hTI) ⟨_,_,TO1⟩ g1 g2 T1 k1
   . refine wpAny_bind (zb_item D hz' ht hTI q1 q2 hx hy fun h' z1 g1 g2 T1 k1=>?_)
     exact step h' ⟨t,_,ob,z1,k1 _ _ (fun y=>tn (by simp [y])) (fun y=>tn (by simp [y])) (fun y=>tn (by simp [y])) ht,tn⟩ (k1 _ _ D.TIz D.TIi1 D.TIi2 hTI) ⟨p,q,k1 _ _ D.TOz D.TOi1 D.TOi2 hTO⟩ g1 g2 T1 fun c o n1 n2 n3 n4 e=>k1 c o n1 n3 n4 e
theorem call_dict_zip {z TI TO i1 i2 l1 l2:Addr} {xs ys:Array Value} {rs:List (Key × Value)} {p q:Value} {Q:Value->Shared->Prop} (hh:A.handled=none) (D:ZipApart z TI TO i1 i2 l1 l2) (hz:IsZip s.heap z TI TO .none) (hTI:IsPair s.heap TI (.ref i1) (.ref i2)) (hTO:IsPair s.heap TO p q)
 (q1:SqIt s.heap i1 l1 0 xs) (q2:SqIt s.heap i2 l2 0 ys) (ll1:l1 < s.heap.objs.size) (ll2:l2 < s.heap.objs.size) (hl:xs.size=rs.length) (hk:∀ (j:Nat) (kv:Key × Value),rs[j]?=some kv->∃ ky,xs[j]?=some ky/\ys[j]?=some kv.2/\(bc prog w).is kv.1 ky=true) (hn:rs.length<=sizeLine)
 (h:∀ h' tk,h'.DictOf (bc prog w) s.heap.objs.size (merged [] rs)->(∀ b o,b ∉ [z,TO,i1,i2]->s.heap.get? b=some o->h'.get? b=some o)->Q (.ref s.heap.objs.size) { s with heap:=h',toks:=tk }) :
 wpAny (model prog w) A (call (.type "dict") [.ref z]) Q E s:=by
 refine callType_codes (Q₁:=fun obj s₁=>obj=.ref s.heap.objs.size/\s₁={ s with heap:=s.heap.push { cls:=.type "dict", data:=.dict #[] } }) F.kt_called_dict (F.kt_typeCall_dict_1 _) F.entry_dict_init (kt_code_dict_new _ ⟨rfl,rfl⟩) ?_
 rintro obj s₁ ⟨rfl,rfl⟩
 have hnew:(s.heap.push { cls:=.type "dict", data:=.dict #[] }).DictOf (bc prog w) s.heap.objs.size []:=Heap.DictOf.new s.heap
 have up:∀ b o,s.heap.get? b=some o->(s.heap.push { cls:=.type "dict", data:=.dict #[] }).get? b=some o:=fun b o e=>Heap.get?_push_of_some _ e
 have lt:∀ {b o},s.heap.get? b=some o->b < s.heap.objs.size:=fun e=>Heap.lt_size e
 refine ⟨hnew.typeIs,F.args_dict_init_2 _ _,?_⟩
 unfold Builtin.«dict.__init__»
 refine wpAny_bind ?_
 unfold Builtin.Dict.selfAndRest
 refine wpAny_bind (wpAny_notOrdered_dict hnew.typeIs ?_)
 show wpAny _ _ (pure (s.heap.objs.size,[Value.ref z])) _ _ _
 refine wpAny_pure ?_
 show wpAny _ _ (Builtin.Dict.updateFrom "dict.__init__" s.heap.objs.size (.ref z) [] .none) _ _ _
 unfold Builtin.Dict.updateFrom
 have hz1:=up _ _ hz
 refine wpAny_bind (wpAny_typeOf (T := "zip") ⟨_,hz1,rfl⟩ ?_)
 rw [if_pos (by decide)]
 refine wpAny_bind (noKeysZ hz1 hh fun h2 tk kp=>?_)
 simp only [Option.isNone_none,if_true]
 have hd2:h2.DictOf (bc prog w) s.heap.objs.size []:=by
  obtain ⟨o,es,ep,e,r⟩:=hnew
  exact ⟨o,es,ep,kp _ _ e,r⟩
 have k2:∀ b o,s.heap.get? b=some o->h2.get? b=some o:=fun b o e=>kp _ _ (up _ _ e)
 refine wpAny_bind (wpAny_rule ?_)
 refine wpAny_bind (wpAny_pyIter_zip (k2 _ _ hz) (wpAny_pure ?_))
 refine ⟨plainId_quiet cH _,?_⟩
 show codeAny _ A.in1 (.builtin "dict.update.loop" ⟨[.ref s.heap.objs.size,.ref z,.int ((0:Nat):Int) 0,.none],[]⟩) _ _
 obtain ⟨o1,e1,_⟩:=q1.obj
 obtain ⟨o2,e2,_⟩:=q2.obj
 refine dz_loop (A:=A.in1) (xs:=xs) (ys:=ys) (rs:=rs) hh D (fun hm=>?_) hl hk (rs.length - 0) 0 _ [] rfl (Nat.zero_le _) ⟨.inl ⟨rfl,k2 _ _ hz⟩,k2 _ _ hTI,_,_,k2 _ _ hTO⟩ (q1.at (fun o e=>k2 _ _ e) (fun o e=>k2 _ _ e)) (q2.at (fun o e=>k2 _ _ e) (fun o e=>k2 _ _ e)) hd2 (by rw [List.length_nil]; omega) fun h' tk' hd' kp'=>?_
 . simp only [List.mem_cons,List.not_mem_nil,or_false] at hm
   rcases hm with y | y | y | y | y | y | y
   . exact Nat.ne_of_gt (lt hz) y
   . exact Nat.ne_of_gt (lt hTI) y
   . exact Nat.ne_of_gt (lt hTO) y
   . exact Nat.ne_of_gt (lt e1) y
   . exact Nat.ne_of_gt (lt e2) y
   . exact Nat.ne_of_gt ll1 y
   . exact Nat.ne_of_gt ll2 y
 . refine ⟨rfl,h h' tk' hd' fun b o nb e=>kp' b o (fun hm=>?_) (k2 _ _ e)⟩
   rcases List.mem_cons.mp hm with y | y
   . exact Nat.ne_of_lt (lt e) y
   . exact nb y
end
section
variable {X:Cx}
theorem kv_zip {P:Program} {w:World} {xs ys:List V} {its1 its2:List Value} (rv1:Vals xs its1) (rv2:Vals ys its2):∀ (kvs:List (Key × V)) (n:Nat),(∀ (j:Nat) (kv:Key × V),kvs[j]?=some kv->xs[n+j]?=some (kV kv.1)/\ys[n+j]?=some kv.2) ->
 ∃ rs:List (Key × Value),KV kvs rs/\∀ (j:Nat) (kv:Key × Value),rs[j]?=some kv->∃ ky,its1[n+j]?=some ky/\its2[n+j]?=some kv.2/\(bc P w).is kv.1 ky=true
 | [],_,_=>⟨[],.nil,fun j kv hj=>by simp at hj⟩
 | kv::kvs,n,h=>by
   obtain ⟨e1,e2⟩:=h 0 kv rfl
   obtain ⟨ky,hky,rk⟩:=rv1.get e1
   obtain ⟨u,hu,ru⟩:=rv2.get e2
   obtain ⟨rs,h1,h2⟩:=kv_zip rv1 rv2 kvs (n+1) (fun j kv' hj=>by
    have:=h (j+1) kv' hj
    rwa [show n+(j+1)=n+1+j by omega] at this)
   refine ⟨(kv.1,u)::rs,.cons ⟨rfl,ru⟩ h1,fun j kv' hj=>?_⟩
   cases j with
   | zero =>
     have e:(kv.1,u)=kv':=Option.some.inj hj
     subst e
     exact ⟨ky,hky,hu,kV_is rk⟩
   | succ j =>
     have:=h2 j kv' hj
     rwa [show n+1+j=n+(j+1) by omega] at this
def tDictZip (K:W.Frag) (t:TA):TE:=fun σ H Q=>t σ H fun vs H1=>∃ (a b:Addr) (c d:Bool) (xs ys:List V) (kvs:List (Key × V)),vs=[.ref a,.ref b]/\SqB K c H1 a xs/\SqB K d H1 b ys/\xs.length=kvs.length/\kvs.length<=sizeLine/\(∀ (j:Nat) (kv:Key × V),kvs[j]?=some kv->xs[j]?=some (kV kv.1)/\ys[j]?=some kv.2) /\
 ∀ p,H1 p=none->Q (.ref p) (upd H1 p (.dK (mergeK [] kvs)))
theorem boot_dictZ:bootBuiltins ("dict" : Str)=some (.type "dict"):=by decide +kernel
theorem pe_dictzip {e1 e2:Expr} {t:TA} {p1 p2 pos1 pos2:Pos} (hc:X.calm=true) (hg1:Gl X "dict") (hm1:X.mg "dict" = none) (hg2:Gl X "zip") (hm2:X.mg "zip" = none) (ha:PA X [e1,e2] t)
 (hs1:starEach [(.Call (.Name "zip" p2) [e1,e2] [] pos2:Expr)] X.env=[(false,eval (.Call (.Name "zip" p2) [e1,e2] [] pos2) X.env)]:=by rfl) (hs:starEach [e1,e2] X.env=[(false,eval e1 X.env),(false,eval e2 X.env)]:=by rfl) (hs2:starEach [e2] X.env=[(false,eval e2 X.env)]:=by rfl) :
 PE X (.Call (.Name "dict" p1) [.Call (.Name "zip" p2) [e1,e2] [] pos2] [] pos1) (tDictZip X.K t):=by
 intro pins s σ H Q I h
 refine wpAny_Call_Name_kw (ld_blt I hg1 hm1 boot_dictZ ?_)
 refine PyProof.Rows.callWith_type1 ?_ hs1 rfl
 rw [hs1]
 show wpAny _ _ (spliced ((false,eval (.Call (.Name "zip" p2) [e1,e2] [] pos2) X.env)::backTo pos1 (starEach [] X.env))) _ _ s
 have step:wpAny (model X.prog X.w) X.A (eval (.Call (.Name "zip" p2) [e1,e2] [] pos2) X.env) (fun v s2=>∃ (a b:Addr) (c d:Bool) (xs ys:List V) (kvs:List (Key × V)) (H1:Hp) (s1:Shared) (h':Heap) (its1 its2:List Value),s2={ s1 with heap:=h' }/\v=.ref (s1.heap.objs.size+4)/\Inv X pins σ H1 s1/\Vals xs its1/\Vals ys its2/\a < s1.heap.objs.size/\b < s1.heap.objs.size /\
  IsZip h' (s1.heap.objs.size+4) (s1.heap.objs.size+2) (s1.heap.objs.size+3) .none/\IsPair h' (s1.heap.objs.size+2) (.ref s1.heap.objs.size) (.ref (s1.heap.objs.size+1))/\IsPair h' (s1.heap.objs.size+3) .none .none/\SqIt h' s1.heap.objs.size a 0 its1.toArray/\SqIt h' (s1.heap.objs.size+1) b 0 its2.toArray/\(∀ c o,s1.heap.get? c=some o->h'.get? c=some o) /\
  xs.length=kvs.length/\kvs.length<=sizeLine/\(∀ (j:Nat) (kv:Key × V),kvs[j]?=some kv->xs[j]?=some (kV kv.1)/\ys[j]?=some kv.2)/\∀ p,H1 p=none->Q (.ref p) (upd H1 p (.dK (mergeK [] kvs)))) X.xe s:=by
  refine Call_ (ld_blt I hg2 hm2 boot_zip' (PyProof.Rows.callWith_type1 (thn (ha pos2 pins s σ H _ I h) fun us s1 ⟨vs,H1,I1,r1,q1⟩=>?_) (by rw [hs,hs2]) (by rw [hs2]; rfl)))
  obtain ⟨a,b,c,d,xs,ys,kvs,ev,hq1,hq2,hxl,hn,hkv,q⟩:=q1
  subst ev
  cases r1 with
  | cons r rr =>
    cases rr with
    | cons r' rr =>
      cases rr
      cases r
      cases r'
      obtain ⟨its1,rv1,o1,l1⟩:=SqB.at I1 hq1
      obtain ⟨its2,rv2,o2,l2⟩:=SqB.at I1 hq2
      exact call_zq o1 o2 fun h' z1 p1 p2 k1 k2 keep=>⟨a,b,c,d,xs,ys,kvs,H1,s1,h',its1,its2,rfl,rfl,I1,rv1,rv2,l1,l2,z1,p1,p2,k1,k2,keep,hxl,hn,hkv,q⟩
 refine Calls.spliced_cons (thn step fun v s2 hv=>?_)
 obtain ⟨a,b,c,d,xs,ys,kvs,H1,s1,h',its1,its2,rfl,rfl,I1,rv1,rv2,l1,l2,z1,p1,p2,k1,k2,keep,hxl,hn,hkv,q⟩:=hv
 refine Calls.spliced_nil ?_
 obtain ⟨rs,hrs,hk⟩:=kv_zip (P:=X.prog) (w:=X.w) rv1 rv2 kvs 0 (fun j kv hj=>by rw [Nat.zero_add]; exact hkv j kv hj)
 have rl:kvs.length=rs.length:=hrs.length
 have il:=rv1.length
 have sz:s1.heap.objs.size+4 < h'.objs.size:=Heap.lt_size z1
 refine call_dict_zip (rs:=rs) (I1.ok.hd hc) (zipAp l1 l2) z1 p1 p2 k1 k2 (Nat.lt_trans l1 (by show s1.heap.objs.size < h'.objs.size; omega)) (Nat.lt_trans l2 (by show s1.heap.objs.size < h'.objs.size; omega)) (by simp; omega) (fun j kv hj=>?_) (by omega) fun h2 tk dd kp=>?_
 . obtain ⟨ky,e1,e2,e3⟩:=hk j kv hj
   rw [Nat.zero_add] at e1 e2
   exact ⟨ky,by simpa using e1,by simpa using e2,e3⟩
 . have m:=KV.merge (kvs:=[]) (vs:=[]) hrs .nil
   have ml:=length_mergeK kvs []
   have kp2:∀ b o,s1.heap.get? b=some o->h2.get? b=some o:=fun b o e=>kp b o (fun hm=>by
    have lb:=Heap.lt_size e
    simp only [List.mem_cons,List.not_mem_nil,or_false] at hm
    rcases hm with y | y | y | y
    . exact Nat.ne_of_lt (Nat.lt_of_lt_of_le lb (Nat.le_add_right _ 4)) y
    . exact Nat.ne_of_lt (Nat.lt_of_lt_of_le lb (Nat.le_add_right _ 3)) y
    . exact Nat.ne_of_lt lb y
    . exact Nat.ne_of_lt (Nat.lt_of_lt_of_le lb (Nat.le_add_right _ 1)) y) (keep _ _ e)
   exact ⟨.ref h'.objs.size,_,I1.laid (a:=h'.objs.size) (o:=.dK (mergeK [] kvs)) (t':=tk) kp2 (by omega) (dk_new (by rw [List.length_nil] at ml; omega) (beq_eq_false_iff_ne.mpr (Ne.symm (Nat.ne_of_lt (Nat.lt_of_lt_of_le I1.big (by omega))))) m dd),rfl,q _ (I1.hok.fresh (by omega))⟩
end
end L2
namespace Mine
def Pr (n:Int):Prop:=2<=n/\∀ k:Int,2<=k->k<=1000->k*k<=n->n % k ≠ 0
def PrUpTo (n:Int) (j:Int):Prop:=∀ k:Int,2<=k->k < j->k*k<=n/\n % k ≠ 0
theorem sq_le {a b:Int} (h0:0<=a) (h:a<=b):a*a<=b*b:=Int.mul_le_mul h h h0 (Int.le_trans h0 h)
theorem pr_big {n k:Int} (h2:2<=n) (h0:2<=k) (u:PrUpTo n k) (h:n < k*k):Pr n:=by
 refine ⟨h2,fun j j2 _ js=>?_⟩
 by_cases c:j < k
 . exact (u j j2 c).2
 . have:=sq_le (a:=k) (b:=j) (by omega) (by omega)
   omega
theorem pr_all {n:Int} (h2:2<=n) (u:PrUpTo n 1001):Pr n:=⟨h2,fun j j2 j3 _=>(u j j2 (by omega)).2⟩
theorem pr_not {n k:Int} (h0:2<=k) (h1:k<=1000) (hs:k*k<=n) (h:n % k=0):¬ Pr n:=fun p=>p.2 k h0 h1 hs h
theorem upTo_start (n:Int):PrUpTo n 2:=fun k a b=>by omega
theorem upTo_next {n k:Int} (u:PrUpTo n k) (hs:k*k<=n) (h:n % k ≠ 0):PrUpTo n (k+1):=fun j a b=>by
 by_cases c:j < k
 . exact u j a c
 . have e:j=k:=by omega
   subst e; exact ⟨hs,h⟩
def prB (n:Int):Bool:=decide (2<=n) && (List.range 999).all fun i=>decide (n < ((i:Int)+2)*((i:Int)+2)) || decide (n % ((i:Int)+2) ≠ 0)
theorem pr_of_b {n:Int} (h:prB n=true):Pr n:=by
 unfold prB at h
 rw [Bool.and_eq_true] at h
 refine ⟨of_decide_eq_true h.1,fun k k2 k3 ks=>?_⟩
 have q:=List.all_eq_true.mp h.2 (k.toNat - 2) (List.mem_range.mpr (by omega))
 have e:(((k.toNat - 2:Nat):Int)+2)=k:=by omega
 rw [e,Bool.or_eq_true] at q
 rcases q with q | q
 . have:=of_decide_eq_true q; omega
 . exact of_decide_eq_true q
theorem pr_999983:Pr 999983:=pr_of_b (by decide +kernel)
theorem pr_dvd {p d:Int} (h:Pr p) (hp:p < 1002001) (d0:1 < d) (d1:d < p) (hd:d ∣ p):False:=by
 obtain ⟨e,he⟩:=hd
 have e0:1 < e:=by
  by_cases c:e<=1
  . have:d*e<=d*1:=Int.mul_le_mul_of_nonneg_left c (by omega)
    omega
  . omega
 by_cases c:d<=e
 . have s:d*d<=p:=by
    have:=Int.mul_le_mul_of_nonneg_left c (show (0:Int)<=d by omega)
    omega
   have t:d<=1000:=by
    by_cases c2:1001<=d
    . have:=sq_le (a:=1001) (b:=d) (by omega) c2
      omega
    . omega
   refine h.2 d (by omega) t s ?_
   rw [he]; exact Int.mul_emod_right d e
 . have c':e<=d:=by omega
   have s:e*e<=p:=by
    have:=Int.mul_le_mul_of_nonneg_right c' (show (0:Int)<=e by omega)
    omega
   have t:e<=1000:=by
    by_cases c2:1001<=e
    . have:=sq_le (a:=1001) (b:=e) (by omega) c2
      omega
    . omega
   refine h.2 e (by omega) t s ?_
   rw [he,Int.mul_comm]; exact Int.mul_emod_right e d
def Cop (x y:Int):Prop:=∀ d:Int,0 < d->d ∣ x->d ∣ y->d=1
theorem cop_pr {p a:Int} (h:Pr p) (hp:p < 1002001) (a0:0 < a) (a1:a < p):Cop p a:=fun d d0 h1 h2=>by
 have:=Int.le_of_dvd a0 h2
 by_cases c:1 < d
 . exact (pr_dvd h hp c (by omega) h1).elim
 . omega
structure Eu (a p former ff rest f:Int):Prop where
 r0:0 < rest
 rp:rest < p
 fr:rest < former
 f0:0<=f
 f1:f < p
 g0:0<=ff
 g1:ff < p
 cop:Cop former rest
 d1:p ∣ former - a*ff
 d2:p ∣ rest - a*f
theorem eu_start {a p:Int} (h:Pr p) (hp:p < 1002001) (a0:0 < a) (a1:a < p):Eu a p p 0 (a % p) 1:=by
 have e:a % p=a:=Int.emod_eq_of_lt (by omega) a1
 rw [e]
 exact ⟨a0,a1,a1,by omega,by omega,by omega,by omega,cop_pr h hp a0 a1,by rw [Int.mul_zero,Int.sub_zero]; exact Int.dvd_refl p,by rw [Int.mul_one,Int.sub_self]; exact Int.dvd_zero p⟩
theorem eu_next {a p former ff rest f:Int} (E:Eu a p former ff rest f) (h1:rest ≠ 1):Eu a p rest f (former - former / rest*rest) ((ff - former / rest*f) % p)/\(former - former / rest*rest).toNat < rest.toNat:=by
 have r0:=E.r0
 have rp:=E.rp
 have em:former - former / rest*rest=former % rest:=by
  have:=Int.emod_add_mul_ediv former rest
  rw [Int.mul_comm] at this
  omega
 have l0:0<=former % rest:=Int.emod_nonneg _ (by omega)
 have l1:former % rest < rest:=Int.emod_lt_of_pos _ r0
 have cop':Cop rest (former % rest):=fun d d0 x y=>by
  refine E.cop d d0 ?_ x
  have:=Int.emod_add_mul_ediv former rest
  rw [← this]
  exact Int.dvd_add y (Int.dvd_trans x (Int.dvd_mul_right _ _))
 have lz:former % rest ≠ 0:=fun z=>by
  have:=cop' rest r0 (Int.dvd_refl _) (by rw [z]; exact Int.dvd_zero _)
  exact h1 this
 rw [em]
 refine ⟨⟨by omega,by omega,l1,Int.emod_nonneg _ (by omega),Int.emod_lt_of_pos _ (by omega),E.f0,E.f1,cop',E.d2,?_⟩,by omega⟩
 have q:p ∣ (former - a*ff) - former / rest*(rest - a*f):=Int.dvd_sub E.d1 (Int.dvd_trans E.d2 (Int.dvd_mul_left _ _))
 have q2:p ∣ (ff - former / rest*f) - (ff - former / rest*f) % p:=Int.dvd_self_sub_emod
 have q3:p ∣ a*((ff - former / rest*f) - (ff - former / rest*f) % p):=Int.dvd_trans q2 (Int.dvd_mul_left _ _)
 have q4:=Int.dvd_add q q3
 have e2:former - a*ff - former / rest*(rest - a*f)+a*(ff - former / rest*f - (ff - former / rest*f) % p)=former % rest - a*((ff - former / rest*f) % p):=by
  rw [← em]
  generalize former / rest=t
  generalize (ff - t*f) % p=u
  rw [Int.mul_sub,Int.mul_sub,Int.mul_sub,Int.mul_left_comm t a f]
  omega
 rw [e2] at q4
 exact q4
theorem eu_end {a p former ff rest f:Int} (E:Eu a p former ff rest f) (h1:rest=1) (hp:1 < p):0 < f/\f < p/\f*a % p=1:=by
 subst h1
 have d2:=E.d2
 have f0:=E.f0
 have hm:f*a % p=1:=by
  obtain ⟨c,hc⟩:=d2
  have e:f*a=1+p*(-c):=by
   rw [Int.mul_comm f a,Int.mul_neg]; omega
  rw [e,Int.add_mul_emod_self_left]
  exact Int.emod_eq_of_lt (by omega) hp
 refine ⟨?_,E.f1,hm⟩
 by_cases c:f=0
 . subst c; simp at hm
 . omega
end Mine
namespace Mine
def OddUp (n d:Int):Prop:=∀ k:Int,3<=k->k % 2=1->k < d->n % k ≠ 0
theorem odd_start (n:Int):OddUp n 3:=fun k a _ c=>by omega
theorem odd_next {n d:Int} (u:OddUp n d) (hd:d % 2=1) (h:n % d ≠ 0):OddUp n (d+2):=fun k a b c=>by
 by_cases e:k < d
 . exact u k a b e
 . have:k=d:=by omega
   subst this; exact h
theorem field_yes {n d:Int} (h3:3<=n) (h2:n % 2 ≠ 0) (h0:3<=d) (u:OddUp n d) (hd:n < d*d):Pr n:=by
 refine ⟨by omega,fun k k2 k3 ks z=>?_⟩
 obtain ⟨q,hq⟩:=Int.dvd_of_emod_eq_zero z
 by_cases e:k % 2=1
 . by_cases c:k < d
   . exact u k (by omega) e c z
   . have:=sq_le (a:=d) (b:=k) (by omega) (by omega)
     omega
 . obtain ⟨j,hj⟩:∃ j,k=2*j:=⟨k / 2,by omega⟩
   rw [hj,Int.mul_assoc] at hq
   omega
theorem field_no2 {n:Int} (h2:n % 2=0) (h3:2 < n):¬ Pr n:=fun p=>p.2 2 (by omega) (by omega) (by omega) h2
theorem field_nod {n d:Int} (h9:n<=999999) (h0:3<=d) (hs:d*d<=n) (h:n % d=0):¬ Pr n:=fun p=>by
 have t:d<=1000:=by
  by_cases c2:1001<=d
  . have:=sq_le (a:=1001) (b:=d) (by omega) c2
    omega
  . omega
 exact p.2 d (by omega) t hs h
theorem small_root {n d:Int} (h9:n<=999999) (h0:3<=d) (hs:d*d<=n):d<=999:=by
 by_cases c2:1000<=d
 . have:=sq_le (a:=1000) (b:=d) (by omega) c2
   omega
 . omega
theorem root_le {n d:Int} (h0:3<=d) (hs:d*d<=n):d<=n:=by
 have:=Int.mul_le_mul_of_nonneg_left (show (1:Int)<=d by omega) (show (0:Int)<=d by omega)
 omega
end Mine
namespace Mine
def bm:Nat->List (List Int)
 | 0=>[[]]
 | n+1=>(bm n).flatMap fun s=>[s++[0],s++[1]]
theorem flat2_len {α β:Type} (f g:α->β):∀ l:List α,(l.flatMap fun s=>[f s,g s]).length=2*l.length
 | []=>rfl
 | x::r=>by
   have ih:=flat2_len f g r
   simp only [List.flatMap_cons,List.length_append,List.length_cons,List.length_nil]
   omega
theorem setts_len:∀ n:Nat,(bm n).length=2 ^ n
 | 0=>rfl
 | n+1=>by rw [bm,flat2_len,setts_len n,Nat.pow_succ]; omega
theorem cM:∀ (n:Nat) (s:List Int),s ∈ bm n->s.length=n
 | 0,s,h=>by
   have:s=[]:=by simpa [bm] using h
   subst this; rfl
 | n+1,s,h=>by
   rw [bm,List.mem_flatMap] at h
   obtain ⟨t,ht,hs⟩:=h
   have:=cM n t ht
   simp at hs
   rcases hs with rfl | rfl <;> simp [this]
theorem pow_le_64 {n:Nat} (h:n<=6):2 ^ n<=64:=Nat.pow_le_pow_right (by decide) h
end Mine
namespace Mine
def Pm (p:Int):Prop:=1 < p/\∀ a:Int,¬ p ∣ a->∃ f:Int,p ∣ f*a - 1
theorem eu_run {a p:Int} (hp:1 < p):∀ (n:Nat) {former ff rest f:Int},rest.toNat<=n->Eu a p former ff rest f->∃ g:Int,g*a % p=1
 | 0,former,ff,rest,f,hn,E=>by
   have:=E.r0
   omega
 | n+1,former,ff,rest,f,hn,E=>by
   by_cases c:rest=1
   . exact ⟨f,(eu_end E c hp).2.2⟩
   . obtain ⟨E2,lt⟩:=eu_next E c
     exact eu_run hp n (by omega) E2
theorem pm_of {p:Int} (h:Pr p) (hp:p < 1002001):Pm p:=by
 have p1:1 < p:=by have:=h.1; omega
 refine ⟨p1,fun a ha=>?_⟩
 have a0:0 < a % p:=by
  have:=Int.emod_nonneg a (show p ≠ 0 by omega)
  by_cases c:a % p=0
  . exact absurd (Int.dvd_of_emod_eq_zero c) ha
  . omega
 have a1:a % p < p:=Int.emod_lt_of_pos _ (by omega)
 obtain ⟨g,hg⟩:=eu_run p1 _ (Nat.le_refl _) (eu_start h hp a0 a1)
 refine ⟨g,?_⟩
 have e1:g*a % p=1:=by rw [← hg,Int.mul_emod g (a % p),Int.emod_emod,← Int.mul_emod]
 have:=Int.emod_add_mul_ediv (g*a) p
 exact ⟨g*a / p,by omega⟩
theorem Pm.mul {p a b:Int} (h:Pm p) (hd:p ∣ a*b) (ha:¬ p ∣ a):p ∣ b:=by
 obtain ⟨f,k,hk⟩:=h.2 a ha
 obtain ⟨m,hm⟩:=hd
 exact ⟨f*m - k*b,by grind⟩
theorem Pm.not_mul {p a b:Int} (h:Pm p) (ha:¬ p ∣ a) (hb:¬ p ∣ b):¬ p ∣ a*b:=fun z=>hb (h.mul z ha)
def ch:Nat->Nat->Nat
 | _,0=>1
 | 0,_+1=>0
 | n+1,k+1=>ch n k+ch n (k+1)
theorem ch_zero (n:Nat):ch n 0=1:=by cases n <;> rfl
theorem ch_big:∀ (n k:Nat),n < k->ch n k=0
 | 0,k+1,_=>rfl
 | n+1,k+1,h=>by
   show ch n k+ch n (k+1)=0
   rw [ch_big n k (by omega),ch_big n (k+1) (by omega)]
theorem ch_self (n:Nat):ch n n=1:=by
 induction n with
 | zero=>rfl
 | succ n ih =>
   show ch n n+ch n (n+1)=1
   rw [ih,ch_big n (n+1) (by omega)]
theorem ch_abs:∀ (n k:Nat),(k+1)*ch (n+1) (k+1)=(n+1)*ch n k
 | 0,0=>rfl
 | 0,k+1=>by
   show (k+2)*(ch 0 (k+1)+ch 0 (k+2))=1*ch 0 (k+1)
   rw [ch_big 0 (k+1) (by omega),ch_big 0 (k+2) (by omega)]
   simp
 | n+1,0=>by
   have h:=ch_abs n 0
   rw [ch_zero n] at h
   show (0+1)*(ch (n+1) 0+ch (n+1) (0+1))=(n+1+1)*ch (n+1) 0
   rw [ch_zero (n+1)]
   omega
 | n+1,k+1=>by
   have h1:=ch_abs n k
   have h2:=ch_abs n (k+1)
   show (k+2)*(ch (n+1) (k+1)+ch (n+1) (k+2))=(n+2)*ch (n+1) (k+1)
   have e:ch (n+1) (k+1)=ch n k+ch n (k+1):=rfl
   grind
def sm (f:Nat->Int):Nat->Int
 | 0=>0
 | n+1=>sm f n+f n
theorem sm_congr {f g:Nat->Int}:∀ n,(∀ k,k < n->f k=g k)->sm f n=sm g n
 | 0,_=>rfl
 | n+1,h=>by
   show sm f n+f n=sm g n+g n
   rw [sm_congr n (fun k hk=>h k (by omega)),h n (by omega)]
theorem sm_add (f g:Nat->Int):∀ n,sm (fun k=>f k+g k) n=sm f n+sm g n
 | 0=>rfl
 | n+1=>by
   show sm (fun k=>f k+g k) n+(f n+g n)=(sm f n+f n)+(sm g n+g n)
   rw [sm_add f g n]
   omega
theorem sm_mul (c:Int) (f:Nat->Int):∀ n,sm (fun k=>c*f k) n=c*sm f n
 | 0=>by simp [sm]
 | n+1=>by
   show sm (fun k=>c*f k) n+c*f n=c*(sm f n+f n)
   rw [sm_mul c f n]
   grind
theorem sm_front (f:Nat->Int):∀ n,sm f (n+1)=f 0+sm (fun k=>f (k+1)) n
 | 0=>by simp [sm]
 | n+1=>by
   show sm f (n+1)+f (n+1)=f 0+(sm (fun k=>f (k+1)) n+f (n+1))
   rw [sm_front f n]
   omega
theorem sm_dvd {p:Int} {f:Nat->Int}:∀ n,(∀ k,k < n->p ∣ f k)->p ∣ sm f n
 | 0,_=>⟨0,by simp [sm]⟩
 | n+1,h=>Int.dvd_add (sm_dvd n fun k hk=>h k (by omega)) (h n (by omega))
theorem binom (a:Int):∀ n:Nat,(a+1) ^ n=sm (fun k=>(ch n k:Int)*a ^ k) (n+1)
 | 0=>by simp [sm,ch]
 | n+1=>by
   have ih:=binom a n
   rw [Int.pow_succ,ih,sm_front (fun k=>((ch (n+1) k:Nat):Int)*a ^ k) (n+1)]
   have e1:sm (fun k=>((ch (n+1) (k+1):Nat):Int)*a ^ (k+1)) (n+1)=a*sm (fun k=>(ch n k:Int)*a ^ k) (n+1)+sm (fun k=>(ch n (k+1):Int)*a ^ (k+1)) (n+1):=by
    rw [← sm_mul,← sm_add]
    refine sm_congr _ fun k _=>?_
    have:ch (n+1) (k+1)=ch n k+ch n (k+1):=rfl
    rw [this,Int.natCast_add,Int.pow_succ]
    grind
   have e2:sm (fun k=>(ch n k:Int)*a ^ k) (n+1)=1+sm (fun k=>(ch n (k+1):Int)*a ^ (k+1)) (n+1):=by
    rw [sm_front]
    have:sm (fun k=>(ch n (k+1):Int)*a ^ (k+1)) (n+1)=sm (fun k=>(ch n (k+1):Int)*a ^ (k+1)) n:=by
     show _+(ch n (n+1):Int)*a ^ (n+1)=_
     rw [ch_big n (n+1) (by omega)]
     simp
    rw [this,ch_zero]
    simp
   rw [e1,ch_zero]
   grind
theorem ch_dvd {p:Int} (h:Pm p) {n k:Nat} (hn:(n:Int)+1=p) (hk:k < n):p ∣ ((ch (n+1) (k+1):Nat):Int):=by
 have e:((k:Int)+1)*((ch (n+1) (k+1):Nat):Int)=p*((ch n k:Nat):Int):=by
  have:=ch_abs n k
  rw [← hn]
  exact_mod_cast this
 refine h.mul (a:=(k:Int)+1) ⟨_,e⟩ fun hd=>?_
 have:=Int.le_of_dvd (by omega) hd
 omega
theorem fermat_nat {p:Int} (h:Pm p):∀ a:Nat,p ∣ (a:Int) ^ p.toNat - a
 | 0=>by
   have:p.toNat ≠ 0:=by have:=h.1; omega
   simp [Int.zero_pow this]
 | a+1=>by
   have ih:=fermat_nat h a
   obtain ⟨n,hn⟩:∃ n:Nat,p.toNat=n+1:=⟨p.toNat - 1,by have:=h.1; omega⟩
   have hp:(n:Int)+1=p:=by have:=h.1; omega
   rw [hn] at ih ⊢
   have b:=binom (a:Int) (n+1)
   have e:sm (fun k=>(ch (n+1) k:Int)*(a:Int) ^ k) (n+1+1)=sm (fun k=>(ch (n+1) (k+1):Int)*(a:Int) ^ (k+1)) n+(a:Int) ^ (n+1)+1:=by
    rw [sm_front]
    show _+(sm _ n+(ch (n+1) (n+1):Int)*(a:Int) ^ (n+1))=_
    rw [ch_self,ch_zero]
    simp
    omega
   have d:p ∣ sm (fun k=>(ch (n+1) (k+1):Int)*(a:Int) ^ (k+1)) n:=sm_dvd n fun k hk=>Int.dvd_mul_of_dvd_left (ch_dvd h hp hk)
   obtain ⟨u,hu⟩:=ih
   obtain ⟨v,hv⟩:=d
   refine ⟨u+v,?_⟩
   rw [Int.natCast_add]
   show ((a:Int)+1) ^ (n+1) - ((a:Int)+1)=_
   rw [b,e]
   grind
theorem fermat {p a:Int} (h:Pm p) (ha:¬ p ∣ a) (a0:0<=a):p ∣ a*a ^ (p - 2).toNat - 1:=by
 obtain ⟨n,hn⟩:∃ n:Nat,p.toNat=n+2:=⟨p.toNat - 2,by have:=h.1; omega⟩
 have e:(p - 2).toNat=n:=by omega
 have f:=fermat_nat h a.toNat
 rw [Int.toNat_of_nonneg a0,hn] at f
 rw [e]
 have g:a ^ (n+2) - a=a*(a*a ^ n - 1):=by
  rw [Int.pow_succ,Int.pow_succ]
  grind
 rw [g] at f
 exact h.mul f ha
def IsPoly:Nat->(Int->Int)->Prop
 | 0,f=>∀ x,f x=0
 | n+1,f=>∃ (a:Int) (g:Int->Int),IsPoly n g/\∀ x,f x=a+x*g x
theorem IsPoly.congr:∀ {n:Nat} {f g:Int->Int},IsPoly n f->(∀ x,g x=f x)->IsPoly n g
 | 0,_,_,h,e=>fun x=>(e x).trans (h x)
 | _+1,_,_,⟨a,k,hk,h⟩,e=>⟨a,k,hk,fun x=>(e x).trans (h x)⟩
theorem IsPoly.zero:∀ n:Nat,IsPoly n fun _=>0
 | 0=>fun _=>rfl
 | n+1=>⟨0,fun _=>0,IsPoly.zero n,fun x=>by simp⟩
theorem IsPoly.up:∀ {n:Nat} {f:Int->Int},IsPoly n f->IsPoly (n+1) f
 | 0,f,h=>⟨0,fun _=>0,fun _=>rfl,fun x=>by rw [h x]; simp⟩
 | n+1,f,⟨a,g,hg,h⟩=>⟨a,g,hg.up,h⟩
theorem IsPoly.upTo {n:Nat} {f:Int->Int} (h:IsPoly n f):∀ m,n<=m->IsPoly m f:=fun m hm=>by
 obtain ⟨k,rfl⟩:∃ k,m=n+k:=⟨m - n,by omega⟩
 clear hm
 induction k with
 | zero=>exact h
 | succ k ih=>exact ih.up
theorem IsPoly.add:∀ {n:Nat} {f g:Int->Int},IsPoly n f->IsPoly n g->IsPoly n fun x=>f x+g x
 | 0,f,g,h,k=>fun x=>by show f x+g x=0; rw [h x,k x]; rfl
 | n+1,f,g,⟨a,u,hu,h⟩,⟨b,v,hv,k⟩=>⟨a+b,fun x=>u x+v x,hu.add hv,fun x=>by show f x+g x=a+b+x*(u x+v x); rw [h x,k x]; grind⟩
theorem IsPoly.mul (c:Int):∀ {n:Nat} {f:Int->Int},IsPoly n f->IsPoly n fun x=>c*f x
 | 0,f,h=>fun x=>by show c*f x=0; rw [h x]; simp
 | n+1,f,⟨a,u,hu,h⟩=>⟨c*a,fun x=>c*u x,hu.mul c,fun x=>by show c*f x=c*a+x*(c*u x); rw [h x]; grind⟩
theorem IsPoly.lin {n:Nat} {f:Int->Int} (h:IsPoly n f) (r:Int):IsPoly (n+1) fun x=>(x - r)*f x:=by
 have h1:IsPoly (n+1) fun x=>x*f x:=⟨0,f,h,fun x=>by simp⟩
 exact (h1.add (h.up.mul (-r))).congr fun x=>by grind
theorem IsPoly.div:∀ {n:Nat} {f:Int->Int},IsPoly (n+1) f->∀ r:Int,∃ q,IsPoly n q/\∀ x,f x - f r=(x - r)*q x
 | 0,f,⟨a,g,hg,h⟩,r=>⟨fun _=>0,fun _=>rfl,fun x=>by rw [h x,h r,hg x,hg r]; simp⟩
 | n+1,f,⟨a,g,hg,h⟩,r=>by
   obtain ⟨q,hq,e⟩:=IsPoly.div hg r
   refine ⟨fun x=>g x+r*q x,hg.add (hq.up.mul r),fun x=>?_⟩
   have:=e x
   rw [h x,h r]
   grind
theorem IsPoly.roots {p:Int} (hp:Pm p):∀ {n:Nat} {f:Int->Int} (rs:List Int),IsPoly n f->rs.length=n->rs.Pairwise (fun a b=>¬ p ∣ b - a)->(∀ r ∈ rs,p ∣ f r)->∀ x,p ∣ f x
 | 0,f,_,h,_,_,_,x=>⟨0,by rw [h x]; simp⟩
 | n+1,f,[],_,hl,_,_,_=>by simp at hl
 | n+1,f,r::rs,h,hl,hd,hr,x=>by
   obtain ⟨q,hq,e⟩:=h.div r
   have hd':=List.pairwise_cons.mp hd
   have z:=IsPoly.roots hp rs hq (by simpa using hl) hd'.2 (fun s hs=>by
    have h1:p ∣ (s - r)*q s:=by
     rw [← e s]
     exact Int.dvd_sub (hr s (List.mem_cons_of_mem _ hs)) (hr r List.mem_cons_self)
    exact hp.mul h1 (hd'.1 s hs)) x
   have:f x=f r+(x - r)*q x:=by have:=e x; omega
   rw [this]
   exact Int.dvd_add (hr r List.mem_cons_self) (Int.dvd_mul_of_dvd_right z)
end Mine
namespace Mine
def pr (g:Nat->Int):Nat->Int
 | 0=>1
 | n+1=>pr g n*g n
theorem pr_congr {f g:Nat->Int}:∀ n,(∀ k,k < n->f k=g k)->pr f n=pr g n
 | 0,_=>rfl
 | n+1,h=>by
   show pr f n*f n=pr g n*g n
   rw [pr_congr n (fun k hk=>h k (by omega)),h n (by omega)]
theorem pr_front (g:Nat->Int):∀ n,pr g (n+1)=g 0*pr (fun k=>g (k+1)) n
 | 0=>by simp [pr]
 | n+1=>by
   show pr g (n+1)*g (n+1)=g 0*(pr (fun k=>g (k+1)) n*g (n+1))
   rw [pr_front g n,Int.mul_assoc]
def px (x:Int) (i:Nat):Nat->Int
 | 0=>1
 | n+1=>if n=i then px x i n else px x i n*(x - n)
theorem px_poly (i:Nat):∀ n,IsPoly (if i < n then n else n+1) fun x=>px x i n
 | 0=>⟨1,fun _=>0,fun _=>rfl,fun x=>by simp [px]⟩
 | n+1=>by
   have ih:=px_poly i n
   by_cases c:n=i
   . subst c
     rw [if_neg (Nat.lt_irrefl n)] at ih
     rw [if_pos (Nat.lt_succ_self n)]
     exact ih.congr fun x=>by simp [px]
   . have e:∀ x,px x i (n+1)=(x - n)*px x i n:=fun x=>by
      show (if n=i then px x i n else px x i n*(x - n))=_
      rw [if_neg c,Int.mul_comm]
     by_cases c2:i < n
     . rw [if_pos c2] at ih
       rw [if_pos (by omega)]
       exact (ih.lin n).congr e
     . rw [if_neg c2] at ih
       rw [if_neg (by omega)]
       exact (ih.lin n).congr e
theorem px_zero {k i:Nat} (h:k ≠ i):∀ n,k < n->px (k:Int) i n=0
 | n+1,hk=>by
   show (if n=i then px (k:Int) i n else px (k:Int) i n*((k:Int) - n))=0
   by_cases c:n=i
   . rw [if_pos c]
     exact px_zero h n (by omega)
   . rw [if_neg c]
     by_cases c2:k=n
     . subst c2
       simp
     . rw [px_zero h n (by omega)]
       simp
def lag (v u:Nat->Int) (n:Nat) (x:Int):Int:=sm (fun i=>v i*px x i n*u i) n
theorem sm_poly {n m:Nat} {f:Nat->Int->Int}:(∀ i,i < m->IsPoly n (f i))->IsPoly n fun x=>sm (fun i=>f i x) m:=by
 induction m with
 | zero=>exact fun _=>IsPoly.zero n
 | succ m ih=>exact fun h=>(ih fun i hi=>h i (by omega)).add (h m (by omega))
theorem lag_poly (v u:Nat->Int) (n:Nat):IsPoly n (lag v u n):=sm_poly fun i hi=>by
 have h:=px_poly i n
 rw [if_pos hi] at h
 exact (h.mul (v i*u i)).congr fun x=>by grind
theorem sm_one {f:Nat->Int} {k:Nat}:∀ n,k < n->(∀ i,i < n->i ≠ k->f i=0)->sm f n=f k
 | n+1,hk,h=>by
   show sm f n+f n=f k
   by_cases c:k=n
   . subst c
     have z:sm f k=0:=by
      have:sm f k=sm (fun _=>0) k:=sm_congr k fun i hi=>h i (by omega) (by omega)
      rw [this]
      clear this h hk
      induction k with
      | zero=>rfl
      | succ k ih=>show sm (fun _=>0) k+0=0; rw [ih]; rfl
     rw [z]
     simp
   . rw [sm_one n (by omega) (fun i hi=>h i (by omega)),h n (by omega) (by omega)]
     simp
def Wgt (p:Int) (n:Nat) (u:Nat->Int):Prop:=∀ i,i < n->p ∣ px (i:Int) i n*u i - 1
theorem lag_at {p:Int} {v u:Nat->Int} {n k:Nat} (hu:Wgt p n u) (hk:k < n):p ∣ lag v u n k - v k:=by
 unfold lag
 rw [sm_one n hk fun i hi hne=>by rw [px_zero (Ne.symm hne) n hk]; simp]
 obtain ⟨m,hm⟩:=hu k hk
 exact ⟨v k*m,by grind⟩
theorem far {p:Int} {n:Nat} (hn:(n:Int)<=p):((List.range n).map fun k:Nat=>(k:Int)).Pairwise fun a b=>¬ p ∣ b - a:=by
 rw [List.pairwise_map]
 refine List.Pairwise.imp_of_mem (fun {a b} ha hb h=>?_) List.pairwise_lt_range
 intro d
 have:=Int.le_of_dvd (by omega) d
 have hb':=List.mem_range.mp hb
 omega
theorem alike {p:Int} (hp:Pm p) {n:Nat} (hn:(n:Int)<=p) {f g:Int->Int} (hf:IsPoly n f) (hg:IsPoly n g) (h:∀ k:Nat,k < n->p ∣ f k - g k) (x:Int):p ∣ f x - g x:=by
 have hd:IsPoly n fun x=>f x - g x:=(hf.add (hg.mul (-1))).congr fun x=>by grind
 refine hd.roots hp ((List.range n).map fun k:Nat=>(k:Int)) (by simp) (far hn) (fun r hr=>?_) x
 obtain ⟨k,hk,rfl⟩:=List.mem_map.mp hr
 exact h k (List.mem_range.mp hk)
theorem lag_rule {p:Int} (hp:Pm p) {n:Nat} (hn:(n:Int)<=p) {v u:Nat->Int} {P:Int->Int} (hu:Wgt p n u) (hP:IsPoly n P) (h:∀ k:Nat,k < n->p ∣ v k - P k) (x:Int):p ∣ lag v u n x - P x :=
 alike hp hn (lag_poly v u n) hP (fun k hk=>by
  have h1:=lag_at (v:=v) hu hk
  have h2:=h k hk
  have:lag v u n k - P k=(lag v u n k - v k)+(v k - P k):=by omega
  rw [this]
  exact Int.dvd_add h1 h2) x
theorem lag_same {p:Int} (hp:Pm p) {n:Nat} (hn:(n:Int)<=p) {v u u':Nat->Int} (hu:Wgt p n u) (hu':Wgt p n u') (x:Int):p ∣ lag v u n x - lag v u' n x :=
 lag_rule hp hn hu (lag_poly v u' n) (fun k hk=>by
  obtain ⟨m,hm⟩:=lag_at (v:=v) hu' hk
  exact ⟨-m,by grind⟩) x
theorem px_split (x:Int) (i:Nat):∀ m,px x i (i+1+m)=pr (fun j=>x - j) i*pr (fun j=>x - (i+1+j:Nat)) m
 | 0=>by
   have h:∀ k,k<=i->px x i k=pr (fun j=>x - j) k:=fun k=>by
    induction k with
    | zero=>exact fun _=>rfl
    | succ k ih =>
      intro hk
      show (if k=i then px x i k else px x i k*(x - k))=pr (fun j=>x - j) k*(x - k)
      rw [if_neg (by omega),ih (by omega)]
   show (if i=i then px x i i else _)=_*1
   rw [if_pos rfl,h i (Nat.le_refl _),Int.mul_one]
 | m+1=>by
   show (if i+1+m=i then _ else px x i (i+1+m)*(x - (i+1+m:Nat)))=pr (fun j=>x - j) i*(pr (fun j=>x - (i+1+j:Nat)) m*(x - (i+1+m:Nat)))
   rw [if_neg (by omega),px_split x i m,Int.mul_assoc]
theorem pr_turn (x:Int) (i:Nat):∀ m,pr (fun j=>x - (i+m:Nat)+j) m=pr (fun j=>x - (i+1+j:Nat)) m
 | 0=>rfl
 | m+1=>by
   rw [pr_front]
   show _=pr (fun j=>x - (i+1+j:Nat)) m*(x - (i+1+m:Nat))
   have e:pr (fun k=>x - (i+(m+1):Nat)+(k+1:Nat)) m=pr (fun j=>x - (i+m:Nat)+j) m:=pr_congr m fun k _=>by omega
   rw [e,pr_turn x i m,Int.mul_comm]
   congr 1
   omega
def fac:Nat->Int
 | 0=>1
 | n+1=>fac n*((n:Int)+1)
theorem fac_down:∀ n:Nat,pr (fun j=>(n:Int) - j) n=fac n
 | 0=>rfl
 | n+1=>by
   rw [pr_front]
   have e:pr (fun k=>((n+1:Nat):Int) - (k+1:Nat)) n=pr (fun j=>(n:Int) - j) n:=pr_congr n fun k _=>by omega
   rw [e,fac_down n]
   show ((n+1:Nat) - (0:Nat):Int)*fac n=fac n*((n:Int)+1)
   rw [Int.mul_comm]
   congr 1
theorem fac_neg (i:Nat):∀ m:Nat,pr (fun j=>(i:Int) - (i+1+j:Nat)) m=(-1) ^ m*fac m
 | 0=>rfl
 | m+1=>by
   show pr _ m*((i:Int) - (i+1+m:Nat))=(-1) ^ (m+1)*(fac m*((m:Int)+1))
   rw [fac_neg i m,Int.pow_succ]
   have:((i:Int) - (i+1+m:Nat))=-((m:Int)+1):=by omega
   rw [this]
   grind
theorem px_own (i m:Nat):px (i:Int) i (i+1+m)=fac i*((-1) ^ m*fac m):=by rw [px_split,fac_down,fac_neg]
theorem fac_part:∀ (k d:Nat),fac d*pr (fun j=>((d+k:Nat):Int) - j) k=fac (d+k)
 | 0,d=>by simp [pr]
 | k+1,d=>by
   have ih:=fac_part k (d+1)
   rw [show d+1+k=d+(k+1) by omega] at ih
   rw [← ih]
   show fac d*(pr (fun j=>((d+(k+1):Nat):Int) - j) k*(((d+(k+1):Nat):Int) - k))=fac d*((d:Int)+1)*pr (fun j=>((d+(k+1):Nat):Int) - j) k
   have:(((d+(k+1):Nat):Int) - k)=(d:Int)+1:=by omega
   rw [this]
   grind
theorem fac_ne {p:Int} (hp:Pm p):∀ n:Nat,(n:Int) < p->¬ p ∣ fac n
 | 0,_=>fun d=>by
   have:=Int.le_of_dvd (by decide) (show p ∣ 1 from d)
   have:=hp.1
   omega
 | n+1,h=>hp.not_mul (fac_ne hp n (by omega)) fun d=>by
   have:=Int.le_of_dvd (by omega) d
   omega
theorem sq_sign (m:Nat):((-1:Int) ^ m)*(-1) ^ m=1:=by
 induction m with
 | zero=>rfl
 | succ m ih=>rw [Int.pow_succ]; grind
theorem own_ne {p:Int} (hp:Pm p) {n i:Nat} (hn:(n:Int)<=p) (hi:i < n):¬ p ∣ px (i:Int) i n:=by
 obtain ⟨m,rfl⟩:∃ m,n=i+1+m:=⟨n - (i+1),by omega⟩
 rw [px_own]
 refine hp.not_mul (fac_ne hp i (by omega)) (hp.not_mul (fun d=>?_) (fac_ne hp m (by omega)))
 obtain ⟨k,hk⟩:=d
 have s:=sq_sign m
 have:p ∣ 1:=⟨k*(-1) ^ m,by grind⟩
 have:=Int.le_of_dvd (by decide) this
 have:=hp.1
 omega
theorem wgt_fac {p:Int} {last:Nat} {sh:Nat->Int} (h:∀ k,k<=last->p ∣ sh k*fac k - 1):Wgt p (last+1) fun i=>(-1) ^ (last - i)*(sh i*sh (last - i)):=fun i hi=>by
 obtain ⟨m,rfl⟩:∃ m,last=i+m:=⟨last - i,by omega⟩
 show p ∣ px (i:Int) i (i+m+1)*((-1) ^ (i+m - i)*(sh i*sh (i+m - i))) - 1
 rw [show i+m+1=i+1+m by omega,px_own,show i+m - i=m by omega]
 obtain ⟨a,ha⟩:=h i (by omega)
 obtain ⟨b,hb⟩:=h m (by omega)
 have s:=sq_sign m
 refine ⟨a*(sh m*fac m)+b,?_⟩
 have e:fac i*((-1) ^ m*fac m)*((-1) ^ m*(sh i*sh m))=((-1) ^ m*(-1) ^ m)*((sh i*fac i)*(sh m*fac m)):=by grind
 rw [e,s]
 grind
end Mine
namespace Mine
theorem IsPoly.prod:∀ {m n:Nat} {f g:Int->Int},IsPoly (m+1) f->IsPoly (n+1) g->IsPoly (m+n+1) fun x=>f x*g x
 | 0,n,f,g,⟨a,u,hu,e⟩,hg=>by
   rw [Nat.zero_add]
   exact (hg.mul a).congr fun x=>by rw [e x,hu x]; simp
 | m+1,n,f,g,⟨a,u,hu,e⟩,hg=>by
   have ih:=IsPoly.prod hu hg
   have h1:IsPoly (m+n+1+1) fun x=>x*(u x*g x):=⟨0,_,ih,fun x=>by simp⟩
   have h2:IsPoly (m+n+1+1) fun x=>a*g x:=(hg.mul a).upTo _ (by omega)
   rw [show m+1+n+1=m+n+1+1 by omega]
   exact (h2.add h1).congr fun x=>by rw [e x]; grind
theorem IsPoly.const (c:Int) (n:Nat):IsPoly (n+1) fun _=>c:=⟨c,fun _=>0,IsPoly.zero n,fun x=>by simp⟩
theorem IsPoly.self:IsPoly 2 fun x=>x:=⟨0,fun _=>1,IsPoly.const 1 0,fun x=>by simp⟩
theorem emod_dvd (p x:Int):p ∣ x % p - x:=⟨-(x / p),by
 have:=Int.emod_add_mul_ediv x p
 rw [Int.mul_neg]
 omega⟩
end Mine
namespace Mine
open PySem L2
theorem len1 {us:List Value} (h:us.length=1):∃ a,us=[a]:=by
 cases us with
 | nil=>cases h
 | cons a r =>
   cases r with
   | nil=>exact ⟨a,rfl⟩
   | cons _ _=>cases h
theorem lenS {us:List Value} {n:Nat} (h:us.length=n+1):∃ a r,us=a::r/\r.length=n:=by
 cases us with
 | nil=>cases h
 | cons a r=>exact ⟨a,r,rfl,Nat.succ.inj h⟩
theorem len2 {us:List Value} (h:us.length=2):∃ a b,us=[a,b]:=by
 obtain ⟨a,r,rfl,h1⟩:=lenS h
 obtain ⟨b,rfl⟩:=len1 h1
 exact ⟨a,b,rfl⟩
theorem len3 {us:List Value} (h:us.length=3):∃ a b c,us=[a,b,c]:=by
 obtain ⟨a,r,rfl,h1⟩:=lenS h
 obtain ⟨b,c,rfl⟩:=len2 h1
 exact ⟨a,b,c,rfl⟩
theorem len4 {us:List Value} (h:us.length=4):∃ a b c d,us=[a,b,c,d]:=by
 obtain ⟨a,r,rfl,h1⟩:=lenS h
 obtain ⟨b,c,d,rfl⟩:=len3 h1
 exact ⟨a,b,c,d,rfl⟩
theorem len5 {us:List Value} (h:us.length=5):∃ a b c d e,us=[a,b,c,d,e]:=by
 obtain ⟨a,r,rfl,h1⟩:=lenS h
 obtain ⟨b,c,d,e,rfl⟩:=len4 h1
 exact ⟨a,b,c,d,e,rfl⟩
theorem len6 {us:List Value} (h:us.length=6):∃ a b c d e f,us=[a,b,c,d,e,f]:=by
 obtain ⟨a,r,rfl,h1⟩:=lenS h
 obtain ⟨b,c,d,e,f,rfl⟩:=len5 h1
 exact ⟨a,b,c,d,e,f,rfl⟩
theorem len7 {us:List Value} (h:us.length=7):∃ a b c d e f g,us=[a,b,c,d,e,f,g]:=by
 obtain ⟨a,r,rfl,h1⟩:=lenS h
 obtain ⟨b,c,d,e,f,g,rfl⟩:=len6 h1
 exact ⟨a,b,c,d,e,f,g,rfl⟩
def top (i:Nat):Stmt:=PySem.Challenge.pw_asktally_k36_what_terms_tell.main.body.getD i (.Pass ⟨0,0,0,0⟩)
abbrev s_is_field:Stmt:=top 2
abbrev cG:Stmt:=top 3
abbrev s_value_at:Stmt:=top 5
abbrev bV:Stmt:=top 6
abbrev s_products:Stmt:=top 7
abbrev bh:Stmt:=top 8
abbrev bZ:Stmt:=top 10
abbrev cU:Stmt:=top 11
abbrev s_joined:Stmt:=top 12
abbrev s_count_of:Stmt:=top 13
abbrev bX:Stmt:=top 14
abbrev cT:Stmt:=top 15
abbrev cZ:Stmt:=top 17
abbrev s_true_row:Stmt:=top 18
abbrev cS:Stmt:=top 22
abbrev s_op_value:Stmt:=top 23
abbrev s_divided:Stmt:=top 24
abbrev cR:Stmt:=top 35
abbrev bY:Stmt:=top 36
abbrev cY:Stmt:=top 40
abbrev bG:Stmt:=top 41
abbrev cD:Stmt:=top 42
abbrev cE:Stmt:=top 43
abbrev cV:Stmt:=top 44
abbrev s_l_feed:Stmt:=top 46
abbrev s_l_take:Stmt:=top 47
abbrev bb:Stmt:=top 48
abbrev s_l_tree:Stmt:=top 49
abbrev cg:Stmt:=top 50
abbrev s_l_need:Stmt:=top 51
abbrev cF:Stmt:=top 52
abbrev s_l_field:Stmt:=top 53
abbrev s_l_game:Stmt:=top 54
abbrev cX:Stmt:=top 55
abbrev s_l_worth:Stmt:=top 56
abbrev s_l_mixed:Stmt:=top 57
abbrev s_l_all:Stmt:=top 58
abbrev s_l_sum:Stmt:=top 59
abbrev s_l_count:Stmt:=top 60
abbrev s_l_whole:Stmt:=top 61
abbrev cW:Stmt:=top 62
abbrev s_l_index:Stmt:=top 63
abbrev s_l_terms:Stmt:=top 64
abbrev s_l_true:Stmt:=top 65
abbrev s_l_right:Stmt:=top 66
abbrev s_law:Stmt:=top 67
section
variable {P:Program} {w:World} {K:W.Frag} {mg:Str->Option Value} {base:Heap}
abbrev s_asking:Stmt:=top 20
abbrev s_machine:Stmt:=top 27
abbrev s_game:Stmt:=top 39
structure Bl (mg:Str->Option Value):Prop where
 len:mg "len" = none
 range:mg "range" = none
 isinstance:mg "isinstance" = none
 int:mg "int" = none
 bool:mg "bool" = none
 list:mg "list" = none
 tuple:mg "tuple" = none
 max:mg "max" = none
 min:mg "min" = none
 reversed:mg "reversed" = none
 enumerate:mg "enumerate" = none
 sum:mg "sum" = none
 all:mg "all" = none
 zip:mg "zip" = none
 dict:mg "dict" = none
theorem feedB (z:Int):0<=z % 2147483646+1/\z % 2147483646+1<=2147483646:=by omega
theorem sc_l_feed:FnScope ["_law_script", "_law_k", "_law_cell", "_law_own"] ["_law_script", "_law_k"] (ag s_l_feed):=⟨rfl,rfl,rfl,by decide +kernel,rfl,by decide +kernel,by decide +kernel⟩
theorem ok_l_feed {f:Addr} {fd:FuncData} (F:Fun K "_law_feed" "_law_feed" s_l_feed f fd) (hlen:mg "len" = none):FnOk P w K mg base CX0 1 f fd ["_law_script", "_law_k"] (spFeed K):=by
 refine F.ok sc_l_feed (fun vs H Q E h=>?_) (fun cdv A outer s H vs Q E hr h=>?_)
 . obtain ⟨a,ns,k,rfl,_⟩:=h
   rfl
 obtain ⟨a,ns,k,rfl,hS,h63,k0,k1,q⟩:=h
 refine ⟨_,(ac (ak (i:=2) sc_l_feed.nd rfl (Or.inl rfl) (ah aU (ah aX ad (pv 1)) ad))
  (ac (aG (aj op_lt (pv 1) (aE aB rfl hlen PySem.boot_len (aa (pv 0) ae)) (aq _)) (af (ak (i:=2) sc_l_feed.nd rfl (Or.inl rfl) (ay ix_list (pv 0) (pv 1) (fun _ _=>rfl)))) (af (aG (aj op_gt (aE aB rfl hlen PySem.boot_len (aa (pv 0) ae)) ad (aq _)) (af (ak (i:=2) sc_l_feed.nd rfl (Or.inl rfl) (ah aU (ah aX (ah aI (ay ix_list (pv 0) (ah aI (pv 1) (aE aB rfl hlen PySem.boot_len (aa (pv 0) ae))) (fun _ _=>rfl)) ad) ad) (ah aX ad (pv 1))))) ax)))
  (ac (ak (i:=3) sc_l_feed.nd rfl (Or.inl rfl) ad)
  (ac (aG (aj op_ge (pv 2) (ah op_pow ad ad) (aq _)) (af (ak (i:=3) sc_l_feed.nd rfl (Or.inl rfl) (pv 2))) ax)
  (af (ao (bi (aa (pv 3) (aa (ah aU (ah aI (ah aU (ah aX (ah aI (pv 2) ad) ad) (ah aX ad (pv 1))) ad) ad) ae))))))))),?_⟩
 have hl:(ns.map V.int).length=ns.length:=List.length_map _
 have hp:(10:Int) ^ (18:Int).toNat=1000000000000000000:=by decide
 refine ⟨_,rfl,_,_,rfl,rfl,.inl ⟨by decide,by decide⟩,_,_,rfl,rfl,?_⟩
 refine ⟨_,rfl,_,rfl,a,_,rfl,.inl hS,_,_,rfl,rfl,_,rfl,?_⟩
 refine ite2 (fun c=>?b1) (fun c=>?b2)
 case' b1 =>
  have c':k < (((ns.map V.int).length:Nat):Int):=of_decide_eq_true c
  rw [hl] at c'
  obtain ⟨v,hv⟩:=at_int (ns:=ns) k0 c'
  refine ⟨_,rfl,_,rfl,a,_,_,_,rfl,rfl,hS,hv,?_⟩
 case' b2 =>
  refine ⟨_,rfl,a,_,rfl,.inl hS,_,_,rfl,rfl,_,rfl,?_⟩
  refine ite2 (fun c2=>?b3) (fun c2=>?b4)
  case' b3 =>
   have c':(0:Int) < (((ns.map V.int).length:Nat):Int):=of_decide_eq_true c2
   have m0:=Int.emod_nonneg k (b:=(((ns.map V.int).length:Nat):Int)) (by omega)
   have m1:=Int.emod_lt_of_pos k c'
   obtain ⟨v,hv⟩:=at_int (ns:=ns) m0 (by rw [hl] at m1 ⊢; exact m1)
   have n0:=Int.emod_nonneg v (b:=2147483629) (by decide)
   have n1:=Int.emod_lt_of_pos v (b:=2147483629) (by decide)
   refine ⟨_,rfl,_,rfl,_,rfl,a,_,rfl,.inl hS,_,_,rfl,rfl,c',a,_,_,_,rfl,rfl,hS,hv,_,_,rfl,rfl,(by show (0:Int) < _; decide),_,_,rfl,rfl,.inr ⟨by decide,by decide⟩,_,rfl,_,_,rfl,rfl,.inl ⟨by decide,by decide⟩,_,_,rfl,rfl,?_⟩
 all_goals
  refine ⟨_,rfl,_,_,rfl,rfl,⟨by decide,by decide,by decide⟩,_,_,rfl,rfl,_,rfl,?_⟩
  refine ite2 (fun c3=>?_) (fun c3=>?_)
  . have c4:=of_decide_eq_true c3
    rw [hp] at c4
    refine ⟨_,rfl,_,rfl,_,rfl,_,_,rfl,rfl,(by show (0:Int) < _; decide),_,_,rfl,rfl,.inr ⟨by decide,by decide⟩,_,rfl,_,_,rfl,rfl,.inl ⟨by decide,by decide⟩,_,_,rfl,rfl,_,_,rfl,rfl,(by show (0:Int) < _; decide),_,_,rfl,rfl,(by show 2<=sizeLine; decide),fun p hp=>?_⟩
    refine q p _ hp (Same.new hp _) ⟨_,_,upd_same,Int.le_trans (by decide) c4,(feedB _).1,(feedB _).2⟩
  . refine ⟨_,rfl,_,rfl,_,_,rfl,rfl,(by show (0:Int) < _; decide),_,_,rfl,rfl,.inr ⟨by decide,by decide⟩,_,rfl,_,_,rfl,rfl,.inl ⟨by decide,by decide⟩,_,_,rfl,rfl,_,_,rfl,rfl,(by show (0:Int) < _; decide),_,_,rfl,rfl,(by show 2<=sizeLine; decide),fun p hp=>?_⟩
    refine q p _ hp (Same.new hp _) ⟨_,_,upd_same,Int.le_refl 0,(feedB _).1,(feedB _).2⟩
theorem sc_l_take:FnScope ["_law_feed_here", "_law_many", "_law_digit", "_law_one"] ["_law_feed_here", "_law_many"] (ag s_l_take):=⟨rfl,rfl,rfl,by decide +kernel,rfl,by decide +kernel,by decide +kernel⟩
theorem ok_l_take {f:Addr} {fd:FuncData} (F:Fun K "_law_take" "_law_take" s_l_take f fd):FnOk P w K mg base CX0 1 f fd ["_law_feed_here", "_law_many"] spTake:=by
 refine F.ok sc_l_take (fun vs H Q E h=>?_) (fun cdv A outer s H vs Q E hr h=>?_)
 . obtain ⟨f,m,rfl,_⟩:=h
   rfl
 obtain ⟨f,m,rfl,⟨own,st,hf,o0,s0,s1⟩,m0,m1,q⟩:=h
 refine ⟨_,(ac (aG (aj op_gt (ay ix_list (pv 0) ad (fun _ _=>rfl)) ad (aq _)) (ac (ak (i:=2) sc_l_take.nd rfl (Or.inl rfl) (ah aI (ay ix_list (pv 0) ad (fun _ _=>rfl)) (pv 1)))
  (ac (ps_asg (ah op_fdivL (ay ix_list (pv 0) ad (fun _ _=>rfl)) (pv 1)) (pg_sub (pv 0) ad set_list))
  (af (ao (pv 2))))) ax)
  (ac (ak (i:=3) sc_l_take.nd rfl (Or.inl rfl) (ah aI (ah aX (ay ix_list (pv 0) ad (fun _ _=>rfl)) ad) ad))
  (ac (ps_asg (ah aU (ah aI (ah aU (ah aX (pv 3) ad) ad) ad) ad) (pg_sub (pv 0) ad set_list))
  (af (ao (ah aI (ah op_fdiv (ah aU (ah aX (pv 3) ad) (ay ix_list (pv 0) ad (fun _ _=>rfl))) ad) (pv 1))))))),?_⟩
 refine ⟨_,rfl,f,_,0,_,rfl,rfl,SqL.of hf,rfl,_,_,rfl,rfl,_,rfl,?_⟩
 refine ite2 (fun c=>?_) (fun c=>?_)
 . refine ⟨_,rfl,f,_,0,_,rfl,rfl,SqL.of hf,rfl,_,rfl,_,_,rfl,rfl,m0,?_⟩
   refine ⟨_,rfl,f,_,0,_,rfl,rfl,SqL.of hf,rfl,_,rfl,_,_,rfl,rfl,⟨m0,m1⟩,_,rfl,f,_,0,0,rfl,rfl,hf,rfl,?_⟩
   refine ⟨_,rfl,?_⟩
   exact q _ _ (Int.emod_nonneg _ (by omega)) (Int.emod_lt_of_pos _ m0) ⟨_,_,upd_same,Int.ediv_nonneg o0 (by omega),s0,s1⟩ (SameBut.upd _)
 . have a0:=Int.emod_nonneg (st*69621) (b:=2147483647) (by decide)
   have a1:=Int.emod_lt_of_pos (st*69621) (b:=2147483647) (by decide)
   refine ⟨_,rfl,f,_,1,_,rfl,rfl,SqL.of hf,rfl,_,_,rfl,rfl,.inr ⟨by decide,by decide⟩,_,_,rfl,rfl,(by show (0:Int) < _; decide),?_⟩
   refine ⟨_,rfl,_,_,rfl,rfl,.inr ⟨by decide,by decide⟩,_,_,rfl,rfl,_,_,rfl,rfl,(by show (0:Int) < _; decide),_,_,rfl,rfl,_,rfl,f,_,1,1,rfl,rfl,hf,rfl,?_⟩
   have b0:=Int.emod_nonneg (st*69621 % 2147483647*48271+30103) (b:=2147483646) (by decide)
   have b1:=Int.emod_lt_of_pos (st*69621 % 2147483647*48271+30103) (b:=2147483646) (by decide)
   refine ⟨_,rfl,_,_,rfl,rfl,.inr ⟨by decide,by decide⟩,_,rfl,f,_,1,_,rfl,rfl,SqL.of upd_same,rfl,_,_,rfl,rfl,_,_,rfl,rfl,⟨by decide,by decide⟩,_,rfl,_,_,rfl,rfl,m0,?_⟩
   exact q _ _ (Int.emod_nonneg _ (by omega)) (Int.emod_lt_of_pos _ m0) ⟨_,_,upd_same,o0,by omega,by omega⟩ (SameBut.upd _)
theorem sc_l_tree:FnScope ["_law_feed_here", "_law_names_here", "_law_room", "_law_deep", "_law_form", "_law_more", "_law_one", "_law_word"] ["_law_feed_here", "_law_names_here", "_law_room", "_law_deep"] (ag s_l_tree):=⟨rfl,rfl,rfl,by decide +kernel,rfl,by decide +kernel,by decide +kernel⟩
theorem lf {a X Y B:Prop} [Decidable a] (x:X) (h:¬ a->X->B):if decide a=true then (if true=true then X else Y) else B:=by
 by_cases c:a
 . rw [decide_eq_true c]
   exact iteT (iteT x)
 . rw [decide_eq_false c]
   exact iteF (h c x)
theorem tree_step {n:Nat} {f:Addr} {fd:FuncData} (F:Fun K "_law_tree" "_law_tree" s_l_tree f fd) (hlen:mg "len" = none) (C_l_take:Cal P w K mg base 1 "_law_take" ["_law_feed_here", "_law_many"] spTake)
 (C_l_tree:Cal P w K mg base (n+2) "_law_tree" ["_law_feed_here", "_law_names_here", "_law_room", "_law_deep"] (spTree n)):FnOk P w K mg base CX0 (n+3) f fd ["_law_feed_here", "_law_names_here", "_law_room", "_law_deep"] (spTree (n+1)):=by
 refine F.ok sc_l_tree (fun vs H Q E h=>?_) (fun cdv A outer s H vs Q E hr h=>?_)
 . obtain ⟨f,a,room,deep,ns,rfl,_⟩:=h
   rfl
 obtain ⟨f,a,room,deep,ns,rfl,hF,hN,nl,r1,r100,d1,dn,q⟩:=h
 refine ⟨_,(ac (ak (i:=4) sc_l_tree.nd rfl (Or.inl rfl) (am C_l_take hr (Nat.succ_le_succ (Nat.zero_le _)) rfl (aa (pv 0) (aa ad ae))))
  (ac (aG (PW.pt (pw_or (aj op_lt (pv 2) ad (aq _)) (pw_or (aj op_lt (pv 3) ad (aq _)) (pw_or1 (aj aN (pv 4) ad (aq _)))))) (ac (aG (PW.pt (pw_or (aj aN (ah aI (pv 4) ad) ad (aq _)) (pw_or1 (aj aN (aE aB rfl hlen PySem.boot_len (aa (pv 1) ae)) ad (aq _))))) (af (ao (ay ix_list (bi (aa (bu (aa aD ae)) (aa (bu (aa aD ae)) ae))) (am C_l_take hr (Nat.succ_le_succ (Nat.zero_le _)) rfl (aa (pv 0) (aa ad ae))) (fun _ _=>rfl)))) ax)
   (af (ao (bu (aa aD (aa (ay (ix_list.or aA) (pv 1) (am C_l_take hr (Nat.succ_le_succ (Nat.zero_le _)) rfl (aa (pv 0) (aa (aE aB rfl hlen PySem.boot_len (aa (pv 1) ae)) ae))) (fun _ _=>rfl)) ae)))))) ax)
  (ac (aG (PW.pt (pw_or (aj op_lt (pv 2) ad (aq _)) (pw_or1 (aj aN (pv 4) ad (aq _))))) (af (ao (bu (aa aD (aa (am C_l_tree hr (Nat.le_refl _) rfl (aa (pv 0) (aa (pv 1) (aa (ah aR (pv 2) ad) (aa (ah aR (pv 3) ad) ae))))) ae))))) ax)
  (ac (ak (i:=5) sc_l_tree.nd rfl (Or.inl rfl) (ah aU ad (am C_l_take hr (Nat.succ_le_succ (Nat.zero_le _)) rfl (aa (pv 0) (aa (ah aR (pv 2) ad) ae)))))
  (ac (ak (i:=6) sc_l_tree.nd rfl (Or.inl rfl) (am C_l_tree hr (Nat.le_refl _) rfl (aa (pv 0) (aa (pv 1) (aa (pv 5) (aa (ah aR (pv 3) ad) ae))))))
  (ac (ak (i:=7) sc_l_tree.nd rfl (Or.inl rfl) (ay ix_list (bi (aa aD (aa aD (aa aD (aa aD ae))))) (ah aI (pv 4) ad) (fun _ _=>rfl)))
  (af (ao (bu (aa (pv 7) (aa (pv 6) (aa (am C_l_tree hr (Nat.le_refl _) rfl (aa (pv 0) (aa (pv 1) (aa (ah aR (ah aR (pv 2) ad) (pv 5)) (aa (ah aR (pv 3) ad) ae))))) ae)))))))))))),?_⟩
 refine ⟨_,rfl,f,10,rfl,hF,by decide,by decide,fun fm H1 f0 f10 F1 S1=>?_⟩
 have N1:=hN.feed hF S1
 refine ⟨_,rfl,_,_,rfl,rfl,_,rfl,?_⟩
 refine lf ?leaf fun c1 hX=>?_
 case leaf =>
  refine ⟨_,rfl,_,_,rfl,rfl,(by show (0:Int) < _; decide),rfl,_,rfl,?_⟩
  refine lf ?yn fun c6 hY=>?_
  case yn =>
   refine ⟨(by show 1<=sizeLine; decide),fun p1 h1=>?_⟩
   refine ⟨(by show 1<=sizeLine; decide),fun p2 h2=>?_⟩
   refine ⟨(by show 2<=sizeLine; decide),fun l hl=>?_⟩
   have ga:=Same.new h1 (.tup [.str "yes"])
   have gb:=Same.new h2 (.tup [.str "no"])
   have gc:=Same.new hl (.lst [.ref p1,.ref p2])
   have G:=ga.trans (gb.trans gc)
   have nlf:=(F1.same (ga.trans gb)).ne hl
   refine ⟨_,rfl,f,2,rfl,F1.same G,by decide,by decide,fun d H2 d0 d2 F2 S2=>?_⟩
   have y2:H2 p1=some (.tup [.str "yes"]):=aY (F1.same G) S2 _ _ (gc _ _ (gb _ _ upd_same))
   have n2:H2 p2=some (.tup [.str "no"]):=aY (F1.same G) S2 _ _ (gc _ _ upd_same)
   have l2:=S2 l _ nlf upd_same
   have:d=0∨d=1:=by omega
   rcases this with rfl | rfl
   . exact ⟨l,_,0,_,rfl,rfl,SqL.of l2,rfl,q (.ref p1) .yes H2 F2 (S1.trans ((SameBut.of G).trans S2)) (.yes y2) trivial (show (1:Int)<=room from r1) (show (1:Int)<=deep from d1)⟩
   . exact ⟨l,_,1,_,rfl,rfl,SqL.of l2,rfl,q (.ref p2) .no H2 F2 (S1.trans ((SameBut.of G).trans S2)) (.no n2) trivial (show (1:Int)<=room from r1) (show (1:Int)<=deep from d1)⟩
  refine ⟨_,rfl,a,_,rfl,N1.seq,rfl,_,rfl,?_⟩
  by_cases c7:V.int ((ns.map V.str).length:Int)=V.int 0
  . exact be c7 hY
  refine aw c7 ?_
  have nz:0 < ns.length:=by
   have z:¬ ((ns.map V.str).length:Int)=0:=fun z=>c7 (congrArg V.int z)
   rw [List.length_map] at z
   omega
  refine ⟨_,rfl,_,rfl,_,rfl,a,_,rfl,N1.seq,f,_,rfl,F1,(show (0:Int) < ((ns.map V.str).length:Int) by rw [List.length_map]; omega),by rw [List.length_map]; omega,fun d H2 d0 d9 F2 S2=>?_⟩
  obtain ⟨v,hv,vm⟩:=at_in (l:=ns.map V.str) (i:=d) d0 d9
  obtain ⟨x,hx,rfl⟩:=List.mem_map.mp vm
  refine (N1.feed F1 S2).ix hv ?_
  refine ⟨(by show 2<=sizeLine; decide),fun p hp=>?_⟩
  have G:=Same.new hp (.tup [.str "is", .str x])
  exact q (.ref p) (.is x) _ (F2.same G) (S1.trans (S2.trans (SameBut.of G))) (.is upd_same) hx (show (1:Int)<=room from r1) (show (1:Int)<=deep from d1)
 refine ⟨_,rfl,_,_,rfl,rfl,_,rfl,?_⟩
 by_cases c2:deep < 2
 . exact be c2 (iteT hX)
 refine aw c2 ?_
 refine ⟨_,rfl,rfl,_,rfl,?_⟩
 by_cases c3:V.int fm=V.int 9
 . exact be c3 hX
 refine aw c3 ?_
 refine ⟨_,rfl,_,_,rfl,rfl,_,rfl,?_⟩
 have d2:2<=deep:=by omega
 have dd:1<=deep - 1:=by omega
 have ddn:deep - 1+1<=(n:Int)+1:=by omega
 refine lf ?nt fun c4 hN=>?_
 case nt =>
  refine ⟨_,rfl,_,rfl,_,rfl,_,_,rfl,rfl,_,rfl,_,_,rfl,rfl,f,a,_,_,ns,rfl,F1,N1,nl,(show 1<=room - 1 by omega),by omega,dd,ddn,fun v1 t1 H3 F3 S3 T1 o1 z1 p1=>?_⟩
  refine ⟨(by show 2<=sizeLine; decide),fun p hp=>?_⟩
  have G5:=Same.new hp (.tup [.str "not", v1])
  refine q (.ref p) (.not t1) _ (F3.same G5) (S1.trans (S3.trans (SameBut.of G5))) (.not upd_same (T1.mono (keepT_same G5))) o1 ?_ ?_
  . show ((t1.size+1:Nat):Int)<=room
    omega
  . show ((t1.depth+1:Nat):Int)<=deep
    omega
 refine ⟨_,rfl,rfl,_,rfl,?_⟩
 by_cases c5:V.int fm=V.int 8
 . exact be c5 hN
 refine aw c5 ?_
 refine ⟨_,rfl,_,rfl,_,_,rfl,rfl,f,_,rfl,F1,(show (0:Int) < room - 2 by omega),(show room - 2 < 2 ^ 63 by omega),fun e H2 e0 e1 F2 S2=>?_⟩
 refine ⟨_,_,rfl,rfl,?_⟩
 have N2:=N1.feed F1 S2
 refine ⟨_,rfl,_,rfl,_,rfl,_,rfl,_,_,rfl,rfl,f,a,_,_,ns,rfl,F2,N2,nl,by omega,by omega,dd,ddn,fun v1 t1 H3 F3 S3 T1 o1 z1 p1=>?_⟩
 have N3:=N2.feed F2 S3
 refine ⟨(by show 4<=sizeLine; decide),fun l hl=>?_⟩
 obtain ⟨wd,hw,wm⟩:=at_in (l:=joinW.map V.str) (i:=fm % 4) (by omega) (by
  have:(joinW.map V.str).length=4:=by rfl
  omega)
 obtain ⟨x,hx,rfl⟩:=List.mem_map.mp wm
 refine ⟨_,rfl,_,_,rfl,rfl,(by show (0:Int) < _; decide),l,_,_,_,rfl,rfl,SqL.of upd_same,hw,?_⟩
 have G:=Same.new hl (.lst [.str "and", .str "or", .str "odd", .str "same"])
 refine ⟨_,rfl,_,rfl,_,rfl,_,rfl,_,rfl,_,_,rfl,rfl,_,rfl,_,_,rfl,rfl,_,rfl,_,_,rfl,rfl,f,a,_,_,ns,rfl,F3.same G,N3.same G,nl,(show 1<=room - 1 - (1+e) by omega),by omega,dd,ddn,fun v2 t2 H4 F4 S4 T2 o2 z2 p2=>?_⟩
 refine ⟨(by show 3<=sizeLine; decide),fun p hp=>?_⟩
 have G5:=Same.new hp (.tup [.str x,v1,v2])
 have T1':TreeAt H4 v1 t1:=(T1.mono (keepT_same G)).mono (aY (F3.same G) S4)
 refine q (.ref p) (.bin x t1 t2) _ (F4.same G5) (S1.trans (S2.trans (S3.trans ((SameBut.of G).trans (S4.trans (SameBut.of G5)))))) (.bin upd_same (T1'.mono (keepT_same G5)) (T2.mono (keepT_same G5))) ⟨hx,o1,o2⟩ ?_ ?_
 . show ((t1.size+t2.size+1:Nat):Int)<=room
   omega
 . show ((max t1.depth t2.depth+1:Nat):Int)<=deep
   omega
theorem tree_zero {f:Addr} {fd:FuncData}:FnOk P w K mg base CX0 2 f fd ["_law_feed_here", "_law_names_here", "_law_room", "_law_deep"] (spTree 0):=by
 have no:∀ vs H Q E,¬ spTree 0 vs H Q E:=fun vs H Q E h=>by
  obtain ⟨f,a,room,deep,ns,_,_,_,_,_,_,h1,h2,_⟩:=h
  omega
 exact ⟨fun vs H Q E h=>absurd h (no vs H Q E),fun A outer s H args us vs Q E _ _ _ _ h=>absurd h (no vs H Q E)⟩
theorem ok_l_tree {f:Addr} {fd:FuncData} (F:Fun K "_law_tree" "_law_tree" s_l_tree f fd) (hlen:mg "len" = none) (m:mg "_law_tree" = some (.ref f)) (C_l_take:Cal P w K mg base 1 "_law_take" ["_law_feed_here", "_law_many"] spTake) :
 ∀ n:Nat,FnOk P w K mg base CX0 (n+2) f fd ["_law_feed_here", "_law_names_here", "_law_room", "_law_deep"] (spTree n)
 | 0=>tree_zero
 | n+1=>tree_step F hlen C_l_take (Cal.of F (ok_l_tree F hlen m C_l_take n) m (fun _ _ _ _ _ _ us hl=>by obtain ⟨u0,u1,u2,u3,rfl⟩:=len4 hl; rfl))
def ifBody:Stmt->List Stmt
 | .If _ b _ _=>b
 | _=>[]
def ifTest:Stmt->Expr
 | .If c _ _ _=>c
 | _=>.Constant .none 0 ⟨0,0,0,0⟩
def valOf:Stmt->Expr
 | .Assign _ v _=>v
 | .Return (some v) _=>v
 | _=>.Constant .none 0 ⟨0,0,0,0⟩
def eltsOf:Expr->List Expr
 | .List es _=>es
 | .BinOp _ _ (.List es _) _=>es
 | .Subscript (.List es _) _ _=>es
 | _=>[]
abbrev stm (s:Stmt) (i:Nat):Stmt:=(av s).getD i (.Pass ⟨0,0,0,0⟩)
abbrev stmI (s:Stmt) (i j:Nat):Stmt:=(ifBody (stm s i)).getD j (.Pass ⟨0,0,0,0⟩)
def wordsA:List Str:=["is", "set", "say", "if", "go", "end", "num", "box", "op", "field", "holds", "claims"]
def wordsB:List Str:=["nota", "nob", "yesx", "andy", "ors", "oddly"]
def wordsC:List Str:=["samey", "rounds", "dues", "coins", "truex", "asks"]
@[irreducible] def namesA:List Expr:=eltsOf (valOf (stmI bb 6 0))
@[irreducible] def namesB:List Expr:=eltsOf (valOf (stmI bb 6 1))
@[irreducible] def namesC:List Expr:=eltsOf (valOf (stmI bb 6 2))
theorem namesA_w:Consts namesA wordsA:=by
 unfold namesA
 exact .cons (.cons (.cons (.cons (.cons (.cons (.cons (.cons (.cons (.cons (.cons (.cons .nil)))))))))))
theorem namesB_w:Consts namesB wordsB:=by
 unfold namesB
 exact .cons (.cons (.cons (.cons (.cons (.cons .nil)))))
theorem namesC_w:Consts namesC wordsC:=by
 unfold namesC
 exact .cons (.cons (.cons (.cons (.cons (.cons .nil)))))
theorem names_body:∃ p1 p2 p3 p4 p5 p6 p7 p8 p9 q1 q2 q3 q4 q5,av bb=[stm bb 0,stm bb 1,stm bb 2,stm bb 3,stm bb 4,stm bb 5,
 .If (ifTest (stm bb 6)) [.Assign [.Name "_law_words" p1] (.List namesA p2) p3,.Assign [.Name "_law_words" p4] (.BinOp (.Name "_law_words" p5) .Add (.List namesB p6) p7) p8,.Assign [.Name "_law_words" p9] (.BinOp (.Name "_law_words" q1) .Add (.List namesC q2) q3) q4,stmI bb 6 3] [] q5,stm bb 7] :=
 ⟨_,_,_,_,_,_,_,_,_,_,_,_,_,_,by with_unfolding_all rfl⟩
def LTR:Str := "bcdfghjklmnpqrstvwxz"
theorem ltr_na:∀ c ∈ LTR.cps.toList,c ≠ 97:=by decide +kernel
theorem ltr_ok:∀ c ∈ LTR.cps.toList,97<=c/\c<=122:=by decide +kernel
theorem words_ok:∀ x ∈ (wordsA++wordsB)++wordsC,x.length<=20/\(∀ c ∈ x.cps.toList,97<=c/\c<=122)/\x ≠ "aa" := by decide +kernel
def spNamesN:Sp:=fun vs H Q _=>∃ (f:Addr) (m:Int),vs=[.ref f,.int m]/\FeedAt H f/\0<=m/\m<=6/\∀ (l:Addr) (ns:List Str) (H':Hp),H l=none->l ≠ f->H' l=some (.lst (ns.map V.str))->ns.length=m.toNat->(∀ x ∈ ns,NmOk x)->ns.Nodup->FeedAt H' f->SameBut f H H'->Q (.ref l) H'
theorem words_out:∀ x ∈ (wordsA++wordsB)++wordsC,∃ c ∈ x.cps.toList,c ∉ LTR.cps.toList:=by decide +kernel
theorem ltr_inj:∀ a b:Fin 20,LTR.cps.toList[a.val]?=LTR.cps.toList[b.val]?->a=b:=by decide +kernel
theorem nd_set {ns:List Str} {x:Str} {j:Nat} (h:ns.Nodup) (hx:x ∉ ns):(ns.set j x).Nodup:=by
 refine List.pairwise_iff_getElem.mpr fun a b ha hb ab=>?_
 rw [List.length_set] at ha hb
 rw [List.getElem_set,List.getElem_set]
 split
 . split
   . omega
   . intro e
     exact hx (e ▸ List.getElem_mem hb)
 . split
   . intro e
     exact hx (e ▸ List.getElem_mem ha)
   . exact List.pairwise_iff_getElem.mp h a b ha hb ab
theorem at_get {α:Type} {l:List α} {i:Int} {v:α} (h0:0<=i) (h:atI l i=some v):l[i.toNat]?=some v:=by
 have ek:((i.toNat:Nat):Int)=i:=by omega
 by_cases c:i.toNat < l.length
 . have q:atI l ((i.toNat:Nat):Int)=some l[i.toNat]:=cn (List.getElem?_eq_getElem c)
   rw [ek,h] at q
   rw [List.getElem?_eq_getElem c]
   exact q.symm
 . exfalso
   unfold atI ixN at h
   rw [if_pos h0,if_neg (by omega)] at h
   cases h
theorem sum_ones {zs:List Str} (h:∀ z ∈ zs,z.length=1/\∀ c ∈ z.cps.toList,c ∈ LTR.cps.toList):(zs.map (·.length)).sum=zs.length:=by
 induction zs with
 | nil=>rfl
 | cons a r ih =>
   rw [List.map_cons,List.sum_cons,ih fun z hz=>h z (List.mem_cons_of_mem _ hz),(h a List.mem_cons_self).1,List.length_cons]
   omega
theorem sc_l_names:FnScope ["_law_feed_here", "_law_many", "_law_letters", "_law_common", "_law_at", "_law_first", "_law_found", "_law_k", "_law_tail", "_law_sign", "_law_words"] ["_law_feed_here", "_law_many"] (ag bb):=⟨rfl,rfl,rfl,by decide +kernel,rfl,by decide +kernel,by decide +kernel⟩
theorem feed_upd {H:Hp} {f p:Addr} {o:HO} (F:FeedAt H f) (h:p ≠ f):FeedAt (upd H p o) f:=by
 obtain ⟨x,t,e,r⟩:=F
 exact ⟨x,t,by rw [au (Ne.symm h)]; exact e,r⟩
theorem posOf_mem {x:Str}:∀ {ns:List Str},x ∈ ns->∃ j,cp x ns=some j/\j < ns.length
 | [],h=>by cases h
 | a::r,h=>by
   unfold cp
   by_cases c:a=x
   . exact ⟨0,by rw [if_pos c],by simp⟩
   . rw [if_neg c]
     rcases List.mem_cons.mp h with e | e
     . exact absurd e.symm c
     . obtain ⟨j,h1,h2⟩:=posOf_mem e
       exact ⟨j+1,by rw [h1]; rfl,by simpa using h2⟩
theorem str_inj {a b:Str} (h:V.str a=V.str b):a=b:=by injection h
def cC (p:Int) (o:Str) (x y:Int):Int:=if o = "and" then x*y % p else if o = "or" then (x+y - x*y) % p else if o = "odd" then (x+y - 2*(x*y)) % p else (1 - (x+y - 2*(x*y))) % p
def Tr.worth (ns:List Str) (pt:List Int) (p:Int):Tr->Int
 | .is x=>match cp x ns with | some j=>pt.getD j 0 | none=>0
 | .yes=>1
 | .no=>0
 | .not a=>(1 - a.worth ns pt p) % p
 | .bin o a b=>cC p o (a.worth ns pt p) (b.worth ns pt p)
def PtOk (pt:List Int) (p:Int):Prop:=∀ x ∈ pt,0<=x/\x < p
theorem joinI_rng {p:Int} (hp:0 < p) (o:Str) (x y:Int):0<=cC p o x y/\cC p o x y < p:=by
 have key:∀ z:Int,0<=z % p/\z % p < p:=fun z=>⟨Int.emod_nonneg _ (by omega),Int.emod_lt_of_pos _ hp⟩
 unfold cC
 repeat' split
 all_goals exact key _
theorem getD_mem {l:List Int} {j:Nat} (h:j < l.length):l.getD j 0=l[j]:=by
 rw [List.getD_eq_getElem?_getD,List.getElem?_eq_getElem h]
 rfl
theorem worth_rng {ns:List Str} {pt:List Int} {p:Int} (hp:1 < p) (h:PtOk pt p) (hl:pt.length=ns.length):∀ t:Tr,t.ok ns->0<=t.worth ns pt p/\t.worth ns pt p < p
 | .is x,ok=>by
   obtain ⟨j,hj,jl⟩:=posOf_mem ok
   show 0<=(match cp x ns with | some j=>pt.getD j 0 | none=>0)/\(match cp x ns with | some j=>pt.getD j 0 | none=>0) < p
   rw [hj]
   show 0<=pt.getD j 0/\pt.getD j 0 < p
   rw [getD_mem (by omega)]
   exact h _ (List.getElem_mem _)
 | .yes,_=>⟨by show (0:Int)<=1; decide,hp⟩
 | .no,_=>⟨Int.le_refl 0,by show (0:Int) < p; omega⟩
 | .not a,_=>⟨Int.emod_nonneg _ (by omega),Int.emod_lt_of_pos _ (by omega)⟩
 | .bin o a b,_=>joinI_rng (by omega) _ _ _
def spJW:Sp:=fun vs H Q _=>∃ (o:Str) (x y p:Int),vs=[.str o,.int x,.int y,.int p]/\0<=x/\x < p/\p < 2 ^ 40/\Q (.int (cC p o x y)) H
theorem sc_joined_worth:FnScope ["word", "first", "second", "p", "both", "odd"] ["word", "first", "second", "p"] (ag bY):=⟨rfl,rfl,rfl,by decide +kernel,rfl,by decide +kernel,by decide +kernel⟩
theorem ok_joined_worth {f:Addr} {fd:FuncData} (F:Fun K "joined_worth" "joined_worth" bY f fd):FnOk P w K mg base CX0 1 f fd ["word", "first", "second", "p"] spJW:=by
 refine F.ok sc_joined_worth (fun vs H Q E h=>?_) (fun cdv A outer s H vs Q E hr h=>?_)
 . obtain ⟨o,x,y,p,rfl,_⟩:=h
   rfl
 obtain ⟨o,x,y,p,rfl,x0,xp,pb,k⟩:=h
 refine ⟨_,(ac (ak (i:=4) sc_joined_worth.nd rfl (Or.inl rfl) (ah aX (pv 1) (pv 2)))
  (ac (aG (aj aN (pv 0) aD (aq _)) (af (ao (ah aI (pv 4) (pv 3)))) ax)
  (ac (aG (aj aN (pv 0) aD (aq _)) (af (ao (ah aI (ah aR (ah aU (pv 1) (pv 2)) (pv 4)) (pv 3)))) ax)
  (ac (ak (i:=5) sc_joined_worth.nd rfl (Or.inl rfl) (ah aR (ah aU (pv 1) (pv 2)) (ah aX ad (pv 4))))
  (ac (aG (aj aN (pv 0) aD (aq _)) (af (ao (ah aI (pv 5) (pv 3)))) ax)
  (af (ao (ah aI (ah aR ad (pv 5)) (pv 3))))))))),?_⟩
 refine ⟨_,rfl,_,rfl,_,_,rfl,rfl,.inl ⟨by omega,by omega⟩,?_⟩
 refine ⟨_,rfl,rfl,_,rfl,?_⟩
 by_cases c1:V.str o=V.str "and"
 . refine be c1 ?_
   have e:cC p o x y=x*y % p:=by unfold cC; rw [if_pos (str_inj c1)]
   rw [e] at k
   exact ⟨_,rfl,_,rfl,_,_,rfl,rfl,(show (0:Int) < p by omega),k⟩
 refine aw c1 ?_
 have n1:¬ o = "and" := fun z=>c1 (by rw [z])
 refine ⟨_,rfl,rfl,_,rfl,?_⟩
 by_cases c2:V.str o=V.str "or"
 . refine be c2 ?_
   have e:cC p o x y=(x+y - x*y) % p:=by unfold cC; rw [if_neg n1,if_pos (str_inj c2)]
   rw [e] at k
   exact ⟨_,rfl,_,rfl,_,_,rfl,rfl,_,rfl,_,_,rfl,rfl,_,rfl,_,_,rfl,rfl,(show (0:Int) < p by omega),k⟩
 refine aw c2 ?_
 have n2:¬ o = "or" := fun z=>c2 (by rw [z])
 refine ⟨_,rfl,_,rfl,_,_,rfl,rfl,_,rfl,_,_,rfl,rfl,.inl ⟨by decide,by decide⟩,_,_,rfl,rfl,?_⟩
 refine ⟨_,rfl,rfl,_,rfl,?_⟩
 by_cases c3:V.str o=V.str "odd"
 . refine be c3 ?_
   have e:cC p o x y=(x+y - 2*(x*y)) % p:=by unfold cC; rw [if_neg n1,if_neg n2,if_pos (str_inj c3)]
   rw [e] at k
   exact ⟨_,rfl,_,rfl,_,_,rfl,rfl,(show (0:Int) < p by omega),k⟩
 refine aw c3 ?_
 have n3:¬ o = "odd" := fun z=>c3 (by rw [z])
 have e:cC p o x y=(1 - (x+y - 2*(x*y))) % p:=by unfold cC; rw [if_neg n1,if_neg n2,if_neg n3]
 rw [e] at k
 exact ⟨_,rfl,_,_,rfl,rfl,_,rfl,_,_,rfl,rfl,(show (0:Int) < p by omega),k⟩
def spWorth (n:Nat):Sp:=fun vs H Q _=>∃ (v:V) (t:Tr) (a b:Addr) (ns:List Str) (pt:List Int) (p:Int),vs=[v,.ref a,.ref b,.int p]/\TreeAt H v t/\t.ok ns/\t.depth<=n/\NamesAt H a ns/\H b=some (.tup (pt.map V.int))/\pt.length=ns.length/\1 < p/\p < 2 ^ 40/\PtOk pt p/\Q (.int (t.worth ns pt p)) H
theorem sc_worth_of:FnScope ["tree", "switches", "point", "p", "word", "first"] ["tree", "switches", "point", "p"] (ag cR):=⟨rfl,rfl,rfl,by decide +kernel,rfl,by decide +kernel,by decide +kernel⟩
theorem worth_step {n:Nat} {f:Addr} {fd:FuncData} (F:Fun K "worth_of" "worth_of" cR f fd) (C_joined_worth:Cal P w K mg base 1 "joined_worth" ["word", "first", "second", "p"] spJW) (C_worth_of:Cal P w K mg base (n+2) "worth_of" ["tree", "switches", "point", "p"] (spWorth n)):FnOk P w K mg base CX0 (n+3) f fd ["tree", "switches", "point", "p"] (spWorth (n+1)):=by
 refine F.ok sc_worth_of (fun vs H Q E h=>?_) (fun cdv A outer s H vs Q E hr h=>?_)
 . obtain ⟨v,t,a,b,ns,pt,p,rfl,_⟩:=h
   rfl
 obtain ⟨v,t,a,b,ns,pt,p,rfl,T,ok,dn,hN,hb,sl,p1,p40,po,k⟩:=h
 have p0:(0:Int) < p:=by omega
 refine ⟨_,(ac (ak (i:=4) sc_worth_of.nd rfl (Or.inl rfl) (ay aA (pv 0) ad (fun _ _=>rfl)))
  (ac (aG (aj aN (pv 4) aD (aq _)) (af (ao (ah aI (ay aA (pv 2) (pe_index PySem.F.plainAttrs_list PySem.F.plainAttrs_tuple (pv 1) (aa (ay aA (pv 0) ad (fun _ _=>rfl)) ae)) (fun _ _=>rfl)) (pv 3)))) ax)
  (ac (aG (aj aN (pv 4) aD (aq _)) (af (ao ad)) ax)
  (ac (aG (aj aN (pv 4) aD (aq _)) (af (ao ad)) ax)
  (ac (ak (i:=5) sc_worth_of.nd rfl (Or.inl rfl) (am C_worth_of hr (Nat.le_refl _) rfl (aa (ay aA (pv 0) ad (fun _ _=>rfl)) (aa (pv 1) (aa (pv 2) (aa (pv 3) ae))))))
  (ac (aG (aj aN (pv 4) aD (aq _)) (af (ao (ah aI (ah aR ad (pv 5)) (pv 3)))) ax)
  (af (ao (am C_joined_worth hr (by omega) rfl (aa (pv 4) (aa (pv 5) (aa (am C_worth_of hr (Nat.le_refl _) rfl (aa (ay aA (pv 0) ad (fun _ _=>rfl)) (aa (pv 1) (aa (pv 2) (aa (pv 3) ae))))) (aa (pv 3) ae))))))))))))),?_⟩
 cases T with
 | @is q x e =>
   refine ⟨_,rfl,q,_,0,_,rfl,rfl,SqT.of e,rfl,?_⟩
   refine ⟨_,rfl,rfl,_,rfl,?_⟩
   refine be rfl ?_
   obtain ⟨j,hj,jl⟩:=posOf_mem ok
   have jl':j < pt.length:=by omega
   refine ⟨_,rfl,_,rfl,a,ns,rfl,hN,_,rfl,q,_,1,_,rfl,rfl,SqT.of e,rfl,rfl,x,j,rfl,hj,b,_,(j:Int),.int pt[j],rfl,rfl,SqT.of hb,?_,_,rfl,_,_,rfl,rfl,p0,?_⟩
   . refine cn ?_
     rw [List.getElem?_map,List.getElem?_eq_getElem jl']
     rfl
   . have e1:(Tr.is x).worth ns pt p=pt[j] % p:=by
      show (match cp x ns with | some j=>pt.getD j 0 | none=>0)=_
      rw [hj]
      show pt.getD j 0=_
      rw [getD_mem jl']
      have:=po _ (List.getElem_mem jl')
      rw [Int.emod_eq_of_lt this.1 this.2]
     rw [e1] at k
     exact k
 | @yes q e =>
   refine ⟨_,rfl,q,_,0,_,rfl,rfl,SqT.of e,rfl,?_⟩
   refine ⟨_,rfl,rfl,_,rfl,?_⟩
   refine aw (by decide +kernel) ?_
   refine ⟨_,rfl,rfl,_,rfl,?_⟩
   exact be rfl k
 | @no q e =>
   refine ⟨_,rfl,q,_,0,_,rfl,rfl,SqT.of e,rfl,?_⟩
   refine ⟨_,rfl,rfl,_,rfl,?_⟩
   refine aw (by decide +kernel) ?_
   refine ⟨_,rfl,rfl,_,rfl,?_⟩
   refine aw (by decide +kernel) ?_
   refine ⟨_,rfl,rfl,_,rfl,?_⟩
   exact be rfl k
 | @not q u r e T1 =>
   have dp:r.depth+1<=n+1:=dn
   refine ⟨_,rfl,q,_,0,_,rfl,rfl,SqT.of e,rfl,?_⟩
   refine ⟨_,rfl,rfl,_,rfl,?_⟩
   refine aw (by decide +kernel) ?_
   refine ⟨_,rfl,rfl,_,rfl,?_⟩
   refine aw (by decide +kernel) ?_
   refine ⟨_,rfl,rfl,_,rfl,?_⟩
   refine aw (by decide +kernel) ?_
   refine ⟨_,rfl,q,_,1,_,rfl,rfl,SqT.of e,rfl,_,rfl,_,rfl,_,rfl,u,r,a,b,ns,pt,p,rfl,T1,ok,by omega,hN,hb,sl,p1,p40,po,?_⟩
   refine ⟨_,rfl,rfl,_,rfl,?_⟩
   refine be rfl ?_
   exact ⟨_,rfl,_,_,rfl,rfl,_,rfl,_,_,rfl,rfl,p0,k⟩
 | @bin q o u u2 r r2 e T1 T2 =>
   obtain ⟨ho,ok1,ok2⟩:=ok
   have dp:max r.depth r2.depth+1<=n+1:=dn
   have ne:∀ z:Str,z ∉ joinW->¬ V.str o=V.str z:=fun z hz h=>hz (str_inj h ▸ ho)
   refine ⟨_,rfl,q,_,0,_,rfl,rfl,SqT.of e,rfl,?_⟩
   refine ⟨_,rfl,rfl,_,rfl,?_⟩
   refine aw (ne _ (by decide +kernel)) ?_
   refine ⟨_,rfl,rfl,_,rfl,?_⟩
   refine aw (ne _ (by decide +kernel)) ?_
   refine ⟨_,rfl,rfl,_,rfl,?_⟩
   refine aw (ne _ (by decide +kernel)) ?_
   refine ⟨_,rfl,q,_,1,_,rfl,rfl,SqT.of e,rfl,_,rfl,_,rfl,_,rfl,u,r,a,b,ns,pt,p,rfl,T1,ok1,by omega,hN,hb,sl,p1,p40,po,?_⟩
   refine ⟨_,rfl,rfl,_,rfl,?_⟩
   refine aw (ne _ (by decide +kernel)) ?_
   have wr:=worth_rng p1 po sl r ok1
   refine ⟨_,rfl,_,rfl,_,rfl,q,_,2,_,rfl,rfl,SqT.of e,rfl,_,rfl,_,rfl,_,rfl,u2,r2,a,b,ns,pt,p,rfl,T2,ok2,by omega,hN,hb,sl,p1,p40,po,?_⟩
   exact ⟨_,rfl,o,_,_,p,rfl,wr.1,wr.2,p40,k⟩
theorem worth_zero {f:Addr} {fd:FuncData}:FnOk P w K mg base CX0 2 f fd ["tree", "switches", "point", "p"] (spWorth 0):=by
 have no:∀ vs H Q E,¬ spWorth 0 vs H Q E:=fun vs H Q E h=>by
  obtain ⟨v,t,_,_,_,_,_,_,_,_,h1,_⟩:=h
  have:=t.depth_pos
  omega
 exact ⟨fun vs H Q E h=>absurd h (no vs H Q E),fun A outer s H args us vs Q E _ _ _ _ h=>absurd h (no vs H Q E)⟩
theorem ok_worth_of {f:Addr} {fd:FuncData} (F:Fun K "worth_of" "worth_of" cR f fd) (m:mg "worth_of" = some (.ref f)) (C_joined_worth:Cal P w K mg base 1 "joined_worth" ["word", "first", "second", "p"] spJW) :
 ∀ n:Nat,FnOk P w K mg base CX0 (n+2) f fd ["tree", "switches", "point", "p"] (spWorth n)
 | 0=>worth_zero
 | n+1=>worth_step F C_joined_worth (Cal.of F (ok_worth_of F m C_joined_worth n) m (fun _ _ _ _ _ _ us hl=>by obtain ⟨u0,u1,u2,u3,rfl⟩:=len4 hl; rfl))
theorem da {H:Hp} {b:Addr} {ys zs:List V} (h:H b=some (.lst ys)):∀ a xs,H a=some (.tup xs)->(upd H b (.lst zs)) a=some (.tup xs):=fun a xs e=>by
 rw [au]
 . exact e
 . intro z
   rw [z,h] at e
   cases e
theorem at0 (x:V) (xs:List V):atI (x::xs) 0=some x:=cn (j:=0) rfl
theorem namesL_take {ts:List Tr} {i:Nat} {u:Tr} (h:ts[i]?=some u):namesL (ts.take (i+1))=namesL (ts.take i)++u.names:=by
 unfold namesL
 rw [List.take_add_one,h,List.map_append,List.flatten_append]
 simp
theorem namesL_len (ts:List Tr):(namesL ts).length<=sizes ts:=by
 induction ts with
 | nil=>simp [namesL,sizes]
 | cons a r ih =>
   have:=a.names_len
   simp only [namesL,sizes,List.map_cons,List.flatten_cons,List.length_append,List.sum_cons] at ih ⊢
   omega
theorem sizes_take (ts:List Tr) (i:Nat):sizes (ts.take i)<=sizes ts:=by
 induction ts generalizing i with
 | nil=>simp
 | cons a r ih =>
   cases i with
   | zero=>simp [sizes]
   | succ i =>
     have:=ih i
     simp only [sizes,List.take_succ_cons,List.map_cons,List.sum_cons] at this ⊢
     omega
def spNO (n:Nat):Sp:=fun vs H Q _=>∃ (v:V) (t:Tr),vs=[v]/\TreeAt H v t/\t.wf/\t.depth<=n/\t.size<=400/\∀ (l:Addr) (H':Hp),H l=none->Same H H'->H' l=some (.lst (t.names.map V.str))->Q (.ref l) H'
theorem sc_l_names_of:FnScope ["_law_tree_here", "_law_found", "_law_part"] ["_law_tree_here"] (ag cg):=⟨rfl,rfl,rfl,by decide +kernel,rfl,by decide +kernel,by decide +kernel⟩
theorem no_step {n:Nat} {f:Addr} {fd:FuncData} (F:Fun K "_law_names_of" "_law_names_of" cg f fd) (C_l_names_of:Cal P w K mg base (n+2) "_law_names_of" ["_law_tree_here"] (spNO n)):FnOk P w K mg base CX0 (n+3) f fd ["_law_tree_here"] (spNO (n+1)):=by
 refine F.ok sc_l_names_of (fun vs H Q E h=>?_) (fun cdv A outer s H vs Q E hr h=>?_)
 . obtain ⟨v,t,rfl,_⟩:=h
   rfl
 obtain ⟨v,t,rfl,T,wf,dn,sz,q⟩:=h
 refine ⟨_,(ac (aG (aj aN (ay aA (pv 0) ad (fun _ _=>rfl)) aD (aq _)) (af (ao (bi (aa (ay aA (pv 0) ad (fun _ _=>rfl)) ae)))) ax)
  (ac (ak (i:=1) sc_l_names_of.nd rfl (Or.inl rfl) (bi ae))
  (ac (ci PassesOwn.never rfl (pi_tup (pe_slice sl_tup (pv 0) (po_some ad) po_none)) (aS (i:=2) sc_l_names_of.nd rfl (Or.inl rfl)) (af (ak (i:=1) sc_l_names_of.nd rfl (Or.inl rfl) (ah op_cat (pv 1) (am C_l_names_of hr (Nat.le_refl _) rfl (aa (pv 2) ae))))))
  (af (ao (pv 1)))))),?_⟩
 rcases T.view wf with ⟨a,x,rfl,rfl,_,e⟩ | ⟨a,o,xs,rfl,no,xl0,e,TS0,nis⟩
 . refine ⟨_,rfl,a,_,0,_,rfl,rfl,SqT.of e,rfl,rfl,_,rfl,?_⟩
   refine be rfl ?_
   refine ⟨_,rfl,a,_,1,_,rfl,rfl,SqT.of e,rfl,(by show 1<=sizeLine; decide),fun p hp=>?_⟩
   exact q p _ hp (Same.new hp _) upd_same
 . refine ⟨_,rfl,a,_,0,.str o,rfl,rfl,SqT.of e,at0 ..,rfl,_,rfl,?_⟩
   refine aw (fun z=>no (by injection z)) ?_
   refine ⟨(by show 0<=sizeLine; decide),fun L hL=>?_⟩
   have G0:=Same.new hL (.lst [])
   obtain ⟨c1,c2⟩:=cut1 (.str o) xs xl0
   refine ⟨_,rfl,1,rfl,a,_,rfl,SqT.of (G0 _ _ e),c2,fun p hp=>?_⟩
   rw [c1]
   have G1:=Same.new hp (.tup xs)
   have hp1:upd (upd H L (.lst [])) p (.tup xs) p=some (.tup xs):=upd_same
   have hL1:upd (upd H L (.lst [])) p (.tup xs) L=some (.lst []):=G1 _ _ upd_same
   have S1:Same H (upd (upd H L (.lst [])) p (.tup xs)):=G0.trans G1
   generalize upd (upd H L (.lst [])) p (.tup xs)=H1 at hp1 hL1 S1
   have TS:=TS0.mono (keepT_same S1)
   have xl:=TS.length
   have sp:=t.size_parts
   refine ⟨p,rfl,⟨_,SqT.of hp1⟩,for_tup (K:=K) (xs:=xs) (fun i σ H'=>∃ (M:Addr) (x2:Option V),σ=[some (.ref a),some (.ref M),x2]/\H M=none/\H' M=some (.lst ((namesL (t.parts.take i)).map V.str))/\Same H1 H') ⟨L,_,rfl,hL,hL1,Same.refl _⟩ (fun i σ H' _ hst=>by obtain ⟨_,_,_,_,_,h⟩:=hst; exact SqT.of (h _ _ hp1)) ?_ ?_⟩
   . rintro i x σ H2 hx ⟨M,x2,rfl,M0,hM,S2⟩
     obtain ⟨u,hu,Tu⟩:=TS.get hx
     have um:=List.mem_of_getElem? hu
     obtain ⟨uw,ud,us⟩:=Tr.parts_mem um wf
     refine ⟨_,rfl,_,rfl,x,u,rfl,Tu.mono (keepT_same S2),uw,by omega,by omega,fun l H3 l0 S3 hl3=>?_⟩
     have nl:=u.names_len
     have nl2:=namesL_len (t.parts.take i)
     have nl3:=sizes_take t.parts i
     refine ⟨M,l,_,_,rfl,rfl,S3 _ _ hM,hl3,?_,fun r hr0=>?_⟩
     . rw [List.length_map,List.length_map]
       exact bv (by omega)
     . have S4:=(S2.trans S3).trans (Same.new hr0 (.lst ((namesL (t.parts.take i)).map V.str++u.names.map V.str)))
       refine ⟨r,_,rfl,(S1.trans (S2.trans S3)).free hr0,?_,S4⟩
       rw [upd_same,namesL_take hu,List.map_append]
   . rintro σ H2 ⟨M,x2,rfl,M0,hM,S2⟩
     rw [xl,List.take_length,← t.names_parts nis] at hM
     exact ⟨_,rfl,q M H2 M0 (S1.trans S2) hM⟩
theorem no_zero {f:Addr} {fd:FuncData}:FnOk P w K mg base CX0 2 f fd ["_law_tree_here"] (spNO 0):=by
 have no:∀ vs H Q E,¬ spNO 0 vs H Q E:=fun vs H Q E h=>by
  obtain ⟨v,t,_,_,_,h1,_⟩:=h
  have:=t.depth_pos
  omega
 exact ⟨fun vs H Q E h=>absurd h (no vs H Q E),fun A outer s H args us vs Q E _ _ _ _ h=>absurd h (no vs H Q E)⟩
theorem ok_l_names_of {f:Addr} {fd:FuncData} (F:Fun K "_law_names_of" "_law_names_of" cg f fd) (m:mg "_law_names_of" = some (.ref f)) :
 ∀ n:Nat,FnOk P w K mg base CX0 (n+2) f fd ["_law_tree_here"] (spNO n)
 | 0=>no_zero
 | n+1=>no_step F (Cal.of F (ok_l_names_of F m n) m (fun _ _ _ _ _ _ us hl=>by obtain ⟨u0,rfl⟩:=len1 hl; rfl))
theorem count_strs (ns:List Str) (z:Str):((ns.map V.str).countP fun y=>eqV y (.str z))=ns.count z:=by
 rw [List.countP_map]
 rfl
def spNeed:Sp:=fun vs H Q _=>∃ (a b:Addr) (ns:List Str) (tv:List V) (ts:List Tr),vs=[.ref a,.ref b]/\H a=some (.lst (ns.map V.str))/\H b=some (.lst tv)/\TreesAt H tv ts/\ts.length<=10/\(∀ t ∈ ts,t.wf/\t.depth<=10/\t.size<=400) /\
 ∀ (m:Int) (H':Hp),Same H H'->2<=m->m<=400->(ts.length:Int)<=m+1->(∀ t ∈ ts,∀ x ∈ ns,(t.names.count x:Int)<=m)->Q (.int m) H'
theorem sc_l_need:FnScope ["_law_names_here", "_law_trees", "_law_need_here", "_law_tree_here", "_law_found", "_law_name"] ["_law_names_here", "_law_trees"] (ag s_l_need):=⟨rfl,rfl,rfl,by decide +kernel,rfl,by decide +kernel,by decide +kernel⟩
theorem ok_l_need {f:Addr} {fd:FuncData} (F:Fun K "_law_need" "_law_need" s_l_need f fd) (hlen:mg "len" = none) (hmax:mg "max" = none) (C_l_names_of:Cal P w K mg base 12 "_law_names_of" ["_law_tree_here"] (spNO 10)):FnOk P w K mg base CX0 13 f fd ["_law_names_here", "_law_trees"] spNeed:=by
 refine F.ok sc_l_need (fun vs H Q E h=>?_) (fun cdv A outer s H vs Q E hr h=>?_)
 . obtain ⟨a,b,ns,tv,ts,rfl,_⟩:=h
   rfl
 obtain ⟨a,b,ns,tv,ts,rfl,ha,hb,TS,tl,tok,q⟩:=h
 refine ⟨_,(ac (ak (i:=2) sc_l_need.nd rfl (Or.inl rfl) (aE (call_max2 rfl) rfl hmax PyProof.Rows.boot_max (aa ad (aa (ah aR (aE aB rfl hlen PySem.boot_len (aa (pv 1) ae)) ad) ae))))
  (ac (ci PassesOwn.never rfl (cN (pv 1)) (aS (i:=3) sc_l_need.nd rfl (Or.inl rfl)) (ac (ak (i:=4) sc_l_need.nd rfl (Or.inl rfl) (am C_l_names_of hr (by decide) rfl (aa (pv 3) ae)))
   (af (ci PassesOwn.never rfl (cN (pv 0)) (aS (i:=5) sc_l_need.nd rfl (Or.inl rfl)) (af (ak (i:=2) sc_l_need.nd rfl (Or.inl rfl) (aE (call_max2 rfl) rfl hmax PyProof.Rows.boot_max (aa (pv 2) (aa (pe_bm PySem.F.plainAttrs_list PySem.F.slot_list_count PySem.F.type_list_count mt_count (pv 4) (aa (pv 5) ae)) ae)))))))))
  (af (ao (pv 2))))),?_⟩
 have vl:=TS.length
 refine ⟨_,rfl,b,_,rfl,.inl (SqL.of hb),_,_,rfl,rfl,_,_,rfl,?_⟩
 obtain ⟨m,em,m2,m4,mt⟩:∃ m:Int,(if ((tv.length:Int) - 1) > 2 then ((tv.length:Int) - 1) else 2)=m/\2<=m/\m<=400/\(ts.length:Int)<=m+1:=⟨_,rfl,by split <;> omega,by split <;> omega,by split <;> omega⟩
 rw [em]
 refine ⟨_,rfl,b,rfl,⟨_,SqL.of hb⟩,for_list (K:=K) (xs:=tv) (fun i σ H'=>∃ (m:Int) (x3 x4 x5:Option V),σ=[some (.ref a),some (.ref b),some (.int m),x3,x4,x5]/\2<=m/\m<=400/\(ts.length:Int)<=m+1/\(∀ t ∈ ts.take i,∀ x ∈ ns,(t.names.count x:Int)<=m)/\Same H H')
  ⟨m,_,_,_,rfl,m2,m4,mt,by simp,Same.refl _⟩ (fun i σ H' _ hst=>by obtain ⟨_,_,_,_,_,_,_,_,_,h⟩:=hst; exact SqL.of (h _ _ hb)) ?_ ?_⟩
 . rintro i v σ H1 hv ⟨m,x3,x4,x5,rfl,m2,m4,mt,mc,S1⟩
   obtain ⟨t,ht,T⟩:=TS.get hv
   have tm:=List.mem_of_getElem? ht
   obtain ⟨tw,td,tz⟩:=tok t tm
   refine ⟨_,rfl,v,t,rfl,T.mono (keepT_same S1),tw,by omega,tz,fun l H2 l0 S2 hl=>?_⟩
   have S12:=S1.trans S2
   have tn:=t.names_len
   refine ⟨_,rfl,a,rfl,⟨_,SqL.of (S12 _ _ ha)⟩,for_list (K:=K) (xs:=ns.map V.str) (fun j σ H'=>∃ (m':Int) (x5:Option V),σ=[some (.ref a),some (.ref b),some (.int m'),some v,some (.ref l),x5]/\m<=m'/\m'<=400/\(∀ x ∈ ns.take j,(t.names.count x:Int)<=m')/\H'=H2)
    ⟨m,_,rfl,Int.le_refl _,m4,by simp,rfl⟩ (fun j σ H' _ hst=>by obtain ⟨_,_,_,_,_,_,h⟩:=hst; subst h; exact SqL.of (S12 _ _ ha)) ?_ ?_⟩
   . rintro j y σ H3 hy ⟨m',y5,rfl,mm,m4',mc',rfl⟩
     rw [List.getElem?_map] at hy
     obtain ⟨x,hx,rfl⟩:=Option.map_eq_some_iff.mp hy
     refine ⟨_,rfl,_,rfl,.inl ⟨rfl,_,SqL.of hl⟩,_,rfl,l,_,_,rfl,rfl,SqL.of hl,flat_strs _,rfl,_,_,rfl,?_⟩
     rw [count_strs]
     have cl:=List.count_le_length (a:=x) (l:=t.names)
     refine ⟨_,_,rfl,by split <;> omega,by split <;> omega,fun z hz=>?_,rfl⟩
     rw [List.take_add_one,hx] at hz
     rcases List.mem_append.mp hz with h | h
     . have:=mc' z h
       split <;> omega
     . have e:z=x:=by simpa using h
       subst e
       split <;> omega
   . rintro σ H3 ⟨m',y5,rfl,mm,m4',mc',rfl⟩
     rw [List.length_map,List.take_length] at mc'
     refine ⟨m',_,_,_,rfl,by omega,m4',by omega,fun u hu x hx=>?_,S12⟩
     rw [List.take_add_one,ht] at hu
     rcases List.mem_append.mp hu with h | h
     . have:=mc u h x hx
       omega
     . have e:u=t:=by simpa using h
       subst e
       exact mc' x hx
 . rintro σ H1 ⟨m,x3,x4,x5,rfl,m2,m4,mt,mc,S1⟩
   rw [vl,List.take_length] at mc
   exact ⟨_,rfl,q m H1 S1 m2 m4 mt mc⟩
def spPrimeB:Sp:=fun vs H Q _=>∃ n:Int,vs=[.int n]/\∀ b:Bool,(b=true↔Pr n)->Q (.bl b) H
theorem sc_l_is_prime:FnScope ["_law_number", "_law_k"] ["_law_number"] (ag cF):=⟨rfl,rfl,rfl,by decide +kernel,rfl,by decide +kernel,by decide +kernel⟩
theorem ok_l_is_prime {f:Addr} {fd:FuncData} (F:Fun K "_law_is_prime" "_law_is_prime" cF f fd) (hrange:mg "range" = none):FnOk P w K mg base CX0 1 f fd ["_law_number"] spPrimeB:=by
 refine F.ok sc_l_is_prime (fun vs H Q E h=>?_) (fun cdv A outer s H vs Q E hr h=>?_)
 . obtain ⟨n,rfl,_⟩:=h
   rfl
 obtain ⟨n,rfl,q⟩:=h
 refine ⟨_,(ac (aG (aj op_lt (pv 0) ad (aq _)) (af (ao pe_bl)) ax)
  (ac (ci PassesOwn.never rfl (pi_range2 rfl hrange (aa ad (aa ad ae))) (aS (i:=1) sc_l_is_prime.nd rfl (Or.inl rfl)) (ac (aG (aj op_gt (ah aX (pv 1) (pv 1)) (pv 0) (aq _)) (af (ao pe_bl)) ax)
   (af (aG (aj aN (ah aI (pv 0) (pv 1)) ad (aq _)) (af (ao pe_bl)) ax))))
  (af (ao pe_bl)))),?_⟩
 refine ⟨_,rfl,_,_,rfl,rfl,_,rfl,?_⟩
 refine ite2 (fun c=>?_) (fun c=>?_)
 . have c':=of_decide_eq_true c
   exact q false ⟨fun z=>(nomatch z),fun z=>by have:=z.1; omega⟩
 have c':¬ n < 2:=of_decide_eq_false (Bool.eq_false_iff.mpr c)
 refine ⟨2,1001,rfl,⟨by decide,by decide,by decide,by decide⟩,for_range (fun i σ H'=>∃ x,σ=[some (.int n),x]/\H'=H/\PrUpTo n (2+(i:Int))) ⟨_,rfl,rfl,by simpa using upTo_start n⟩ ?_ ?_⟩
 . rintro i σ H' hi ⟨x,rfl,rfl,u⟩
   have hi':i < 999:=hi
   refine ⟨_,rfl,_,rfl,_,_,rfl,rfl,.inl ⟨by omega,by omega⟩,_,rfl,_,_,rfl,rfl,_,rfl,?_⟩
   refine ite2 (fun c1=>?_) (fun c1=>?_)
   . have c2:=of_decide_eq_true c1
     exact q true ⟨fun _=>pr_big (by omega) (by omega) u c2,fun _=>rfl⟩
   . have c2:=of_decide_eq_false (Bool.eq_false_iff.mpr c1)
     refine ⟨_,rfl,_,rfl,_,_,rfl,rfl,(show (0:Int) < 2+(i:Int) by omega),rfl,_,rfl,?_⟩
     refine ite2 (fun c3=>?_) (fun c3=>?_)
     . have c4:=V.int.inj (of_decide_eq_true c3)
       exact q false ⟨fun z=>(nomatch z),fun z=>(pr_not (by omega) (by omega) (by omega) c4 z).elim⟩
     . have c4:=of_decide_eq_false (Bool.eq_false_iff.mpr c3)
       refine ⟨_,rfl,rfl,?_⟩
       have e:(2:Int)+((i+1:Nat):Int)=2+(i:Int)+1:=by omega
       rw [e]
       exact upTo_next u (by omega) (fun z=>c4 (congrArg V.int z))
 . rintro σ H' ⟨x,rfl,rfl,u⟩
   exact q true ⟨fun _=>pr_all (by omega) u,fun _=>rfl⟩
def spFieldL:Sp:=fun vs H Q _=>∃ (f:Addr) (m:Int),vs=[.ref f,.int m]/\FeedAt H f/\2<=m/\m<=400/\∀ (p:Int) (H':Hp),Pr p->m < p->p<=999983->FeedAt H' f->SameBut f H H'->Q (.int p) H'
theorem prime_loop {f:Addr} {m fm:Int} {D:Ends} {H:Hp} (hD:∀ p:Int,Pr p->m < p->p<=999983->D.nx [some (.ref f),some (.int m),some (.int fm),some (.int p)] H) (n:Int) (h1:m < n) (h2:n<=999983) :
 tWhile (tNot (tB (tCall spPrimeB [] E0 (tCons (tVar 3) tNil)))) (tAsg (tOp (rI0 fun i j=>V.int (i+j)) (tVar 3) (tC (V.int 1))) (gName 3)) D [some (.ref f),some (.int m),some (.int fm),some (.int n)] H:=by
 refine ⟨fun mm σ H'=>∃ n:Int,σ=[some (.ref f),some (.int m),some (.int fm),some (.int n)]/\H'=H/\m < n/\n<=999983/\mm=(999983 - n).toNat,⟨_,_,rfl,rfl,h1,h2,rfl⟩,?_⟩
 rintro mm σ H' ⟨n,rfl,rfl,n0,n1,rfl⟩
 refine ⟨_,rfl,n,rfl,fun b hb=>⟨b,rfl,?_⟩⟩
 cases b with
 | true=>exact iteF (hD n (hb.mp rfl) n0 n1)
 | false =>
   refine iteT ?_
   refine ⟨_,fun _ _ h=>h,?_⟩
   have ne:n ≠ 999983:=fun z=>by
    subst z
    exact nomatch hb.mpr pr_999983
   refine ⟨_,rfl,_,_,rfl,rfl,?_⟩
   exact ⟨_,by omega,n+1,rfl,rfl,by omega,by omega,rfl⟩
theorem sc_l_field:FnScope ["_law_feed_here", "_law_need_here", "_law_form", "_law_number"] ["_law_feed_here", "_law_need_here"] (ag s_l_field):=⟨rfl,rfl,rfl,by decide +kernel,rfl,by decide +kernel,by decide +kernel⟩
theorem ok_l_field {f:Addr} {fd:FuncData} (F:Fun K "_law_field" "_law_field" s_l_field f fd) (C_l_take:Cal P w K mg base 1 "_law_take" ["_law_feed_here", "_law_many"] spTake) (C_l_is_prime:Cal P w K mg base 1 "_law_is_prime" ["_law_number"] spPrimeB):FnOk P w K mg base CX0 2 f fd ["_law_feed_here", "_law_need_here"] spFieldL:=by
 refine F.ok sc_l_field (fun vs H Q E h=>?_) (fun cdv A outer s H vs Q E hr h=>?_)
 . obtain ⟨f,m,rfl,_⟩:=h
   rfl
 obtain ⟨f,m,rfl,hF,m2,m4,q⟩:=h
 refine ⟨_,(ac (ak (i:=2) sc_l_field.nd rfl (Or.inl rfl) (am C_l_take hr (by decide) rfl (aa (pv 0) (aa ad ae))))
  (ac (ak (i:=3) sc_l_field.nd rfl (Or.inl rfl) (ah aU (pv 1) ad))
  (ac (aG (aj aN (pv 2) ad (aq _)) (af (ak (i:=3) sc_l_field.nd rfl (Or.inl rfl) (ah aU (ah aU (pv 1) ad) (am C_l_take hr (by decide) rfl (aa (pv 0) (aa ad ae)))))) ax)
  (ac (aG (aj aN (pv 2) ad (aq _)) (af (ak (i:=3) sc_l_field.nd rfl (Or.inl rfl) (ah aU (ah aU (pv 1) ad) (am C_l_take hr (by decide) rfl (aa (pv 0) (aa (ah aR ad (pv 1)) ae)))))) ax)
  (ac (ps_while PassesOwn.never (pt_not (pt_val (am C_l_is_prime hr (by decide) rfl (aa (pv 3) ae)))) (af (ak (i:=3) sc_l_field.nd rfl (Or.inl rfl) (ah aU (pv 3) ad))))
  (af (ao (pv 3)))))))),?_⟩
 refine ⟨_,rfl,f,4,rfl,hF,by decide,by decide,fun fm H1 _ _ F1 S1=>?_⟩
 refine ⟨_,rfl,_,_,rfl,rfl,?_⟩
 refine ⟨_,rfl,rfl,_,rfl,?_⟩
 refine ite2 (fun c1=>?b1) (fun c1=>?b2)
 case' b1 =>
  refine ⟨_,rfl,_,_,rfl,rfl,_,rfl,f,60,rfl,F1,by decide,by decide,fun d H2 d0 d1 F2 S2=>?_⟩
  refine ⟨_,_,rfl,rfl,?_⟩
  have G2:=S1.trans S2
  have n1:m < m+1+d:=by omega
  have n2:m+1+d<=999983:=by omega
 case' b2 =>
  have F2:=F1
  have G2:=S1
  have n1:m < m+1:=by omega
  have n2:m+1<=999983:=by omega
 all_goals
  refine ⟨_,rfl,rfl,_,rfl,?_⟩
  refine ite2 (fun c2=>?_) (fun c2=>?_)
  refine ⟨_,rfl,_,_,rfl,rfl,_,rfl,_,rfl,_,_,rfl,rfl,f,_,rfl,F2,(show (0:Int) < 999983 - m by omega),(show (999983:Int) - m < 2 ^ 63 by omega),fun d H3 d0 d1 F3 S3=>?_⟩
  refine ⟨_,_,rfl,rfl,?_⟩
  have G3:=G2.trans S3
  clear n1 n2
  have n1:m < m+1+d:=by omega
  have n2:m+1+d<=999983:=by
   have:d < 999983 - m:=d1
   omega
  rotate_left
  have F3:=F2
  have G3:=G2
  rotate_left
  all_goals
   refine prime_loop (fun p pp mp p9=>?_) _ n1 n2
   exact ⟨_,rfl,q p _ pp mp p9 F3 G3⟩
def spGame:Sp:=fun vs H Q _=>∃ (f:Addr) (most room:Int),vs=[.ref f,.int most,.int room]/\FeedAt H f/\0<=most/\most<=6/\1<=room/\room<=30 /\
 ∀ (g a b:Addr) (ns:List Str) (tv:List V) (ts:List Tr) (p:Int) (H':Hp),H' g=some (.tup [.ref a,.ref b,.int p])->H' a=some (.tup (ns.map V.str))->(ns.length:Int)<=most->(∀ x ∈ ns,NmOk x)->ns.Nodup->H' b=some (.tup tv)->TreesAt H' tv ts->1<=ts.length->ts.length<=4 ->
  (∀ t ∈ ts,t.ok ns/\t.depth<=9/\(t.size:Int)<=room)->Pr p->2 < p->p<=999983->(ts.length:Int)<=p->(∀ t ∈ ts,∀ x ∈ ns,(t.names.count x:Int) < p)->FeedAt H' f->SameBut f H H'->Q (.ref g) H'
theorem mB {m:Int} (h0:0<=m) (h6:m<=6):(0:Int) < m+1/\m+1 < 2 ^ 63:=by omega
theorem zB {z:Int} (h0:1<=z) (h6:z<=4):-(2 ^ 62)<=z/\z < 2 ^ 62:=by omega
theorem rB {r:Int} (h0:1<=r) (h6:r<=30):0 < r/\r < 2 ^ 63:=by omega
theorem eB {e r:Int} (h0:0<=e) (h1:e < r) (h6:r<=30):(1:Int)<=1+e/\(1:Int)+e<=100:=by omega
theorem sc_l_game:FnScope ["_law_feed_here", "_law_most", "_law_room", "_law_names_here", "_law_many", "_law_trees"] ["_law_feed_here", "_law_most", "_law_room"] (ag s_l_game):=⟨rfl,rfl,rfl,by decide +kernel,rfl,by decide +kernel,by decide +kernel⟩
theorem ok_l_game {f:Addr} {fd:FuncData} (F:Fun K "_law_game" "_law_game" s_l_game f fd) (hrange:mg "range" = none) (htuple:mg "tuple" = none) (C_l_take:Cal P w K mg base 1 "_law_take" ["_law_feed_here", "_law_many"] spTake) (C_l_names:Cal P w K mg base 2 "_law_names" ["_law_feed_here", "_law_many"] spNamesN)
 (C_l_tree:Cal P w K mg base 12 "_law_tree" ["_law_feed_here", "_law_names_here", "_law_room", "_law_deep"] (spTree 10)) (C_l_need:Cal P w K mg base 13 "_law_need" ["_law_names_here", "_law_trees"] spNeed) (C_l_field:Cal P w K mg base 2 "_law_field" ["_law_feed_here", "_law_need_here"] spFieldL):FnOk P w K mg base CX0 14 f fd ["_law_feed_here", "_law_most", "_law_room"] spGame:=by
 refine F.ok sc_l_game (fun vs H Q E h=>?_) (fun cdv A outer s H vs Q E hr h=>?_)
 . obtain ⟨f,most,room,rfl,_⟩:=h
   rfl
 obtain ⟨f,most,room,rfl,hF,m0,m6,r1,r30,q⟩:=h
 refine ⟨_,(ac (ak (i:=3) sc_l_game.nd rfl (Or.inr rfl) (am C_l_names hr (by decide) rfl (aa (pv 0) (aa (am C_l_take hr (by decide) rfl (aa (pv 0) (aa (ah aU (pv 1) ad) ae))) ae))))
  (ac (ak (i:=4) sc_l_game.nd rfl (Or.inl rfl) (ay ix_list (bi (aa ad (aa ad (aa ad (aa ad (aa ad (aa ad ae))))))) (am C_l_take hr (by decide) rfl (aa (pv 0) (aa ad ae))) (fun _ _=>rfl)))
  (ac (ps_comp (i:=5) (N:=["_law_room", "_law_names_here", "_law_feed_here"]) (ix:=[2,3,0]) sc_l_game.nd rfl (Or.inl rfl) rfl
   (CompScope.three (by with_unfolding_all rfl) (by decide) rfl (by decide) rfl (by decide +kernel) rfl (by with_unfolding_all rfl) (by with_unfolding_all rfl) (by with_unfolding_all rfl) (by with_unfolding_all rfl) (by with_unfolding_all rfl) rfl rfl (by with_unfolding_all rfl) rfl rfl (by with_unfolding_all rfl) rfl rfl) rfl
   (bp rfl hrange (aa (pv 4) ae))
   (fun _ _ _=>bL (am C_l_tree hr (by decide) rfl (aa (pv 3) (aa (pv 2) (aa (ah aU ad (am C_l_take hr (by decide) rfl (aa (pv 3) (aa (pv 1) ae)))) (aa ad ae)))))))
  (af (ao (bu (aa (bq bz rfl htuple cb (aa (pv 3) ae)) (aa (bq bz rfl htuple cb (aa (pv 5) ae)) (aa (am C_l_field hr (by decide) rfl (aa (pv 0) (aa (am C_l_need hr (by decide) rfl (aa (pv 3) (aa (pv 5) ae))) ae))) ae))))))))),?_⟩
 refine ⟨_,rfl,_,rfl,_,rfl,_,_,rfl,rfl,f,_,rfl,hF,(mB m0 m6).1,(mB m0 m6).2,fun mk H1 k0 k7 F1 S1=>?_⟩
 refine ⟨f,mk,rfl,F1,k0,by omega,fun nl ns H2 nl0 nlf hnl nsl nok nnd F2 S2=>?_⟩
 have S02:=S1.trans S2
 refine ⟨(by show 6<=sizeLine; decide),fun l hl=>?_⟩
 have lf:=F2.ne hl
 have G2:=Same.new hl (.lst [.int 1,.int 1,.int 1,.int 2,.int 3,.int 4])
 refine ⟨_,rfl,f,6,rfl,F2.same G2,by decide,by decide,fun j H3 j0 j6 F3 S3=>?_⟩
 have hl3:=S3 l _ lf upd_same
 obtain ⟨x,hx,xm⟩:=at_in (l:=[V.int 1,V.int 1,V.int 1,V.int 2,V.int 3,V.int 4]) (i:=j) j0 (by show j < 6; omega)
 obtain ⟨z,rfl,z0,z4⟩:∃ z:Int,x=.int z/\1<=z/\z<=4:=by
  simp only [List.mem_cons,List.not_mem_nil,or_false] at xm
  rcases xm with h | h | h | h | h | h <;> exact ⟨_,h,by decide,by decide⟩
 refine ⟨l,_,_,_,rfl,rfl,SqL.of hl3,hx,?_⟩
 have S23:SameBut f H2 H3:=(SameBut.of G2).trans S3
 have hnl3:=S23 nl _ nlf hnl
 have S03:=S02.trans S23
 have nl6:ns.length<=6:=by omega
 refine ⟨_,rfl,z,rfl,(zB z0 z4).1,(zB z0 z4).2,fun D hD=>?_⟩
 have Df:=F3.ne hD
 have nD:nl ≠ D:=ne_of_none hnl3 hD
 have GD:=Same.new hD (.lst [])
 refine cj (fun i H'=>∃ (tv:List V) (ts:List Tr),H' D=some (.lst tv)/\TreesAt H' tv ts/\ts.length=i/\(∀ t ∈ ts,t.ok ns/\t.depth<=9/\(t.size:Int)<=room)/\FeedAt H' f/\SameBut f H3 H') ⟨[],[],upd_same,.nil,rfl,(fun t ht=>by cases ht),F3.same GD,SameBut.of GD⟩ ?_ ?_
 . rintro i H4 hi ⟨tv,ts,hD4,TS,tl,tok,F4,S4⟩
   have hi':i < z.toNat:=hi
   have hnl4:=S4 nl _ nlf hnl3
   refine ⟨_,rfl,_,rfl,_,rfl,_,rfl,f,room,rfl,F4,(rB r1 r30).1,(rB r1 r30).2,fun e H5 e0 e1 F5 S5=>?_⟩
   have hnl5:=S5 nl _ nlf hnl4
   refine ⟨_,_,rfl,rfl,f,nl,_,_,ns,rfl,F5,.inl hnl5,nl6,(eB e0 e1 r30).1,(eB e0 e1 r30).2,by decide,by decide,fun v t H6 F6 S6 T6 ok6 sz6 dp6=>?_⟩
   have S46:=S5.trans S6
   have hD6:=S46 D _ Df hD4
   have k46:=aY F4 S46
   have vl:=TS.length
   refine ⟨_,hD6,aJ (by omega),Nx.of hi ⟨tv++[v],ts++[t],upd_same,?_,?_,?_,feed_upd F6 Df,?_⟩⟩
   . have k:=da (H:=H6) (b:=D) (ys:=tv) (zs:=tv++[v]) hD6
     exact ((TS.mono k46).mono k).append (.cons (T6.mono k) .nil)
   . rw [List.length_append,List.length_singleton,tl]
   . intro u hu
     rcases List.mem_append.mp hu with h | h
     . exact tok u h
     . rw [List.mem_singleton.mp h]
       have d9:(t.depth:Int)<=9:=dp6
       have s9:(t.size:Int)<=1+e:=sz6
       exact ⟨ok6,by omega,by omega⟩
   . intro b o hb eb
     rw [au (ne_of_none eb hD)]
     exact S46 b o hb (S4 b o hb eb)
 . rintro H4 ⟨tv,ts,hD4,TS,tl,tok,F4,S4⟩
   have hnl4:=S4 nl _ nlf hnl3
   have tl':ts.length=z.toNat:=tl
   have tl1:1<=ts.length:=by omega
   have tl4:ts.length<=4:=by omega
   refine ⟨_,rfl,nl,_,rfl,.inl ⟨SqL.of hnl4,fun a ha=>?_⟩⟩
   have Ga:=Same.new ha (.tup (ns.map V.str))
   refine ⟨_,rfl,D,_,rfl,.inl ⟨SqL.of (Ga _ _ hD4),fun b hb=>?_⟩⟩
   have Gb:=Same.new hb (.tup tv)
   have Gab:=Ga.trans Gb
   have wfs:∀ t ∈ ts,t.wf:=fun t ht=>Tr.ok_wf nok t (tok t ht).1
   refine ⟨_,rfl,_,rfl,_,rfl,nl,D,ns,tv,ts,rfl,Gab _ _ hnl4,Gab _ _ hD4,TS.mono (keepT_same Gab),Nat.le_trans tl4 (by decide),fun t ht=>⟨wfs t ht,Nat.le_trans (tok t ht).2.1 (by decide),by have:=(tok t ht).2.2; omega⟩,fun m H5 S5 m2 m4 mt mc=>?_⟩
   have F5:=(F4.same Gab).same S5
   refine ⟨f,m,rfl,F5,m2,m4,fun p H6 pp mp p9 F6 S6=>?_⟩
   refine ⟨(by show 3<=sizeLine; decide),fun g hg=>?_⟩
   have Gg:=Same.new hg (.tup [.ref a,.ref b,.int p])
   have k6:bO (upd (upd H4 a (.tup (ns.map V.str))) b (.tup tv)) (upd H6 g (.tup [.ref a,.ref b,.int p])):=fun c ys h=>Gg _ _ (aY F5 S6 _ _ (S5 _ _ h))
   refine q g a b ns tv ts p _ upd_same (k6 _ _ (Gb _ _ upd_same)) (by omega) nok nnd (k6 _ _ upd_same) ((TS.mono (keepT_same Gab)).mono k6) tl1 tl4 tok pp (by omega) p9 (by omega) (fun t ht x hx=>by have:=mc t ht x hx; omega) (F6.same Gg) ?_
   exact S03.trans (S4.trans ((SameBut.of (Gab.trans S5)).trans (S6.trans (SameBut.of Gg))))
def spWithin:Sp:=fun vs H Q _=>∃ (v:V) (t:Tr),vs=[v]/\TreeAt H v t/\t.wf/\∀ (p:Addr) (xs:List V) (H':Hp),Same H H'->H' p=some (.tup xs)->TreesAt H' xs t.parts->Q (.ref p) H'
theorem sc_trees_within:FnScope ["tree"] ["tree"] (ag bX):=⟨rfl,rfl,rfl,by decide +kernel,rfl,by decide +kernel,by decide +kernel⟩
theorem ok_trees_within {f:Addr} {fd:FuncData} (F:Fun K "trees_within" "trees_within" bX f fd):FnOk P w K mg base CX0 1 f fd ["tree"] spWithin:=by
 refine F.ok sc_trees_within (fun vs H Q E h=>?_) (fun cdv A outer s H vs Q E hr h=>?_)
 . obtain ⟨v,t,rfl,_⟩:=h
   rfl
 obtain ⟨v,t,rfl,T,wf,q⟩:=h
 refine ⟨_,(ac (aG (aj aN (ay aA (pv 0) ad (fun _ _=>rfl)) aD (aq _)) (af (ao (bu ae))) ax)
  (af (ao (pe_slice sl_tup (pv 0) (po_some ad) po_none)))),?_⟩
 rcases T.view wf with ⟨a,x,rfl,rfl,_,e⟩ | ⟨a,o,xs,rfl,no,xl,e,TS,_⟩
 . refine ⟨_,rfl,a,_,0,_,rfl,rfl,SqT.of e,rfl,rfl,_,rfl,?_⟩
   refine be rfl ?_
   refine ⟨(by show 0<=sizeLine; decide),fun p hp=>?_⟩
   exact q p [] _ (Same.new hp _) upd_same .nil
 . refine ⟨_,rfl,a,_,0,.str o,rfl,rfl,SqT.of e,at0 ..,rfl,_,rfl,?_⟩
   refine aw (fun z=>no (by injection z)) ?_
   obtain ⟨c1,c2⟩:=cut1 (.str o) xs xl
   refine ⟨_,rfl,1,rfl,a,_,rfl,SqT.of e,c2,fun p hp=>?_⟩
   rw [c1]
   exact q p xs _ (Same.new hp _) upd_same (TS.mono (keepT_same (Same.new hp _)))
def spNamesIn (n:Nat):Sp:=fun vs H Q _=>∃ (v:V) (t:Tr),vs=[v]/\TreeAt H v t/\t.wf/\t.depth<=n/\t.size<=400/\∀ (l:Addr) (H':Hp),H l=none->Same H H'->H' l=some (.lst (t.names.map V.str))->Q (.ref l) H'
theorem sc_names_in:FnScope ["tree", "names", "part"] ["tree"] (ag cT):=⟨rfl,rfl,rfl,by decide +kernel,rfl,by decide +kernel,by decide +kernel⟩
theorem names_step {n:Nat} {f:Addr} {fd:FuncData} (F:Fun K "names_in" "names_in" cT f fd) (C_trees_within:Cal P w K mg base 1 "trees_within" ["tree"] spWithin) (C_names_in:Cal P w K mg base (n+2) "names_in" ["tree"] (spNamesIn n)):FnOk P w K mg base CX0 (n+3) f fd ["tree"] (spNamesIn (n+1)):=by
 refine F.ok sc_names_in (fun vs H Q E h=>?_) (fun cdv A outer s H vs Q E hr h=>?_)
 . obtain ⟨v,t,rfl,_⟩:=h
   rfl
 obtain ⟨v,t,rfl,T,wf,dn,sz,q⟩:=h
 refine ⟨_,(ac (aG (aj aN (ay aA (pv 0) ad (fun _ _=>rfl)) aD (aq _)) (af (ao (bi (aa (ay aA (pv 0) ad (fun _ _=>rfl)) ae)))) ax)
  (ac (ak (i:=1) sc_names_in.nd rfl (Or.inl rfl) (bi ae))
  (ac (ci PassesOwn.never rfl (pi_tup (am C_trees_within hr (by omega) rfl (aa (pv 0) ae))) (aS (i:=2) sc_names_in.nd rfl (Or.inl rfl)) (af (dc (pe_bm PySem.F.plainAttrs_list PySem.F.slot_list_extend PySem.F.type_list_extend mt_extend (pv 1) (aa (am C_names_in hr (Nat.le_refl _) rfl (aa (pv 2) ae)) ae)))))
  (af (ao (pv 1)))))),?_⟩
 have wf':=wf
 rcases T.view wf with ⟨a,x,rfl,rfl,_,e⟩ | ⟨a,o,xs0,rfl,no,xl0,e,_,nis⟩
 . refine ⟨_,rfl,a,_,0,_,rfl,rfl,SqT.of e,rfl,rfl,_,rfl,?_⟩
   refine be rfl ?_
   refine ⟨_,rfl,a,_,1,_,rfl,rfl,SqT.of e,rfl,(by show 1<=sizeLine; decide),fun p hp=>?_⟩
   exact q p _ hp (Same.new hp _) upd_same
 . refine ⟨_,rfl,a,_,0,.str o,rfl,rfl,SqT.of e,at0 ..,rfl,_,rfl,?_⟩
   refine aw (fun z=>no (by injection z)) ?_
   refine ⟨(by show 0<=sizeLine; decide),fun L hL=>?_⟩
   have G0:=Same.new hL (.lst [])
   refine ⟨_,rfl,_,t,rfl,T.mono (keepT_same G0),wf,fun p xs H1 S1 hp TS=>?_⟩
   have hL1:H1 L=some (.lst []):=S1 _ _ upd_same
   have pL:p ≠ L:=fun z=>by rw [z,hL1] at hp; cases hp
   have xl:=TS.length
   have sp:=t.size_parts
   refine ⟨p,rfl,⟨_,SqT.of hp⟩,for_tup (K:=K) (xs:=xs) (fun i σ H'=>∃ x2,σ=[some (.ref a),some (.ref L),x2]/\H' L=some (.lst ((namesL (t.parts.take i)).map V.str))/\SameBut L H1 H') ⟨_,rfl,hL1,SameBut.refl _ _⟩ (fun i σ H' _ hst=>by obtain ⟨_,_,_,h⟩:=hst; exact SqT.of (h _ _ pL hp)) ?_ ?_⟩
   . rintro i x σ H2 hx ⟨x2,rfl,hl,S2⟩
     obtain ⟨u,hu,Tu⟩:=TS.get hx
     have um:=List.mem_of_getElem? hu
     obtain ⟨uw,ud,us⟩:=Tr.parts_mem um wf
     have Tu2:TreeAt H2 x u:=Tu.mono fun b ys h=>S2 b _ (fun z=>by rw [z,hL1] at h; cases h) h
     refine ⟨_,rfl,.inl ⟨rfl,_,SqL.of hl⟩,_,rfl,x,u,rfl,Tu2,uw,by omega,by omega,fun l H3 l0 S3 hl3=>?_⟩
     have nl:=u.names_len
     have nl2:=namesL_len (t.parts.take i)
     have nl3:=sizes_take t.parts i
     refine ⟨L,l,_,_,rfl,rfl,S3 _ _ hl,hl3,?_,?_⟩
     . rw [List.length_map,List.length_map]
       exact bv (by omega)
     refine ⟨_,rfl,?_,fun b o hb h=>?_⟩
     . rw [upd_same,namesL_take hu,List.map_append]
     . rw [au hb]
       exact S3 _ _ (S2 _ _ hb h)
   . rintro σ H2 ⟨x2,rfl,hl,S2⟩
     rw [xl,List.take_length,← t.names_parts nis] at hl
     refine ⟨_,rfl,?_⟩
     refine q L H2 hL (fun b o h=>?_) hl
     exact S2 b o (ne_of_none h hL) (S1 _ _ (G0 _ _ h))
theorem names_zero {f:Addr} {fd:FuncData}:FnOk P w K mg base CX0 2 f fd ["tree"] (spNamesIn 0):=by
 have no:∀ vs H Q E,¬ spNamesIn 0 vs H Q E:=fun vs H Q E h=>by
  obtain ⟨v,t,_,_,_,h1,_⟩:=h
  have:=t.depth_pos
  omega
 exact ⟨fun vs H Q E h=>absurd h (no vs H Q E),fun A outer s H args us vs Q E _ _ _ _ h=>absurd h (no vs H Q E)⟩
theorem ok_names_in {f:Addr} {fd:FuncData} (F:Fun K "names_in" "names_in" cT f fd) (m:mg "names_in" = some (.ref f)) (C_trees_within:Cal P w K mg base 1 "trees_within" ["tree"] spWithin) :
 ∀ n:Nat,FnOk P w K mg base CX0 (n+2) f fd ["tree"] (spNamesIn n)
 | 0=>names_zero
 | n+1=>names_step F C_trees_within (Cal.of F (ok_names_in F m C_trees_within n) m (fun _ _ _ _ _ _ us hl=>by obtain ⟨u0,rfl⟩:=len1 hl; rfl))
def spField:Sp:=fun vs H Q _=>∃ n:Int,vs=[.int n]/\n<=999999/\∀ b:Bool,(b=true↔2 < n/\Pr n)->Q (.bl b) H
theorem sc_is_field:FnScope ["number", "divisor"] ["number"] (ag s_is_field):=⟨rfl,rfl,rfl,by decide +kernel,rfl,by decide +kernel,by decide +kernel⟩
theorem ok_is_field {f:Addr} {fd:FuncData} (F:Fun K "is_field" "is_field" s_is_field f fd):FnOk P w K mg base CX0 1 f fd ["number"] spField:=by
 refine F.ok sc_is_field (fun vs H Q E h=>?_) (fun cdv A outer s H vs Q E hr h=>?_)
 . obtain ⟨n,rfl,_⟩:=h
   rfl
 obtain ⟨n,rfl,n9,q⟩:=h
 refine ⟨_,(ac (aG (PW.pt (pw_or (aj op_lt (pv 0) ad (aq _)) (pw_or1 (aj aN (ah aI (pv 0) ad) ad (aq _))))) (af (ao pe_bl)) ax)
  (ac (ak (i:=1) sc_is_field.nd rfl (Or.inl rfl) ad)
  (ac (ps_while PassesOwn.never (aj op_le (ah aX (pv 1) (pv 1)) (pv 0) (aq _)) (ac (aG (aj aN (ah aI (pv 0) (pv 1)) ad (aq _)) (af (ao pe_bl)) ax)
   (af (ak (i:=1) sc_is_field.nd rfl (Or.inl rfl) (ah aU (pv 1) ad)))))
  (af (ao pe_bl))))),?_⟩
 refine ⟨_,rfl,_,_,rfl,rfl,_,rfl,?_⟩
 by_cases c:n < 3
 . refine be c ?_
   refine iteT ?_
   exact q false ⟨fun z=>(nomatch z),fun z=>by omega⟩
 refine aw c ?_
 refine ⟨_,rfl,_,_,rfl,rfl,(by show (0:Int) < _; decide),rfl,_,rfl,?_⟩
 by_cases c2:n % 2=0
 . refine be (congrArg V.int c2) ?_
   exact q false ⟨fun z=>(nomatch z),fun z=>absurd z.2 (field_no2 c2 (by omega))⟩
 refine aw (fun z=>c2 (V.int.inj z)) ?_
 refine ⟨fun m σ H'=>∃ d:Int,σ=[some (.int n),some (.int d)]/\H'=H/\3<=d/\d<=1001/\d % 2=1/\OddUp n d/\m=(n+3 - d).toNat,⟨_,3,rfl,rfl,by omega,by omega,by omega,odd_start n,rfl⟩,?_⟩
 rintro m σ H' ⟨d,rfl,rfl,d3,d9,d2,u,rfl⟩
 refine ⟨_,rfl,_,rfl,_,_,rfl,rfl,.inl ⟨by omega,by omega⟩,_,rfl,_,_,rfl,rfl,_,rfl,?_⟩
 by_cases c3:d*d<=n
 . refine be c3 ?_
   have r1:=small_root n9 d3 c3
   have r2:=root_le d3 c3
   refine ⟨_,fun _ _ h=>h,?_⟩
   refine ⟨_,rfl,_,rfl,_,_,rfl,rfl,(show 0 < d by omega),rfl,_,rfl,?_⟩
   by_cases c4:n % d=0
   . refine be (congrArg V.int c4) ?_
     exact q false ⟨fun z=>(nomatch z),fun z=>absurd z.2 (field_nod n9 d3 c3 c4)⟩
   refine aw (fun z=>c4 (V.int.inj z)) ?_
   refine ⟨_,rfl,_,_,rfl,rfl,?_⟩
   exact ⟨_,by omega,d+2,rfl,rfl,by omega,by omega,by omega,odd_next u d2 c4,rfl⟩
 . refine aw c3 ?_
   exact q true ⟨fun _=>⟨by omega,field_yes (by omega) c2 d3 u (by omega)⟩,fun _=>rfl⟩
abbrev s_ginit:Stmt:=cO s_game 0
abbrev s_gmix:Stmt:=cO s_game 1
abbrev s_gworth:Stmt:=cO s_game 2
def gf (a b:Addr) (p:Int) (d:Addr):List (Str × V):=putF "degrees" (.ref d) (putF "field" (.int p) (putF "trees" (.ref b) (putF "switches" (.ref a) [])))
theorem gf_sw (a b:Addr) (p:Int) (d:Addr):(gf a b p d).lookup ("switches" : Str)=some (.ref a):=by
 unfold gf
 rw [aM,if_neg (by decide +kernel),aM,if_neg (by decide +kernel),aM,if_neg (by decide +kernel),aM,if_pos rfl]
theorem gf_tr (a b:Addr) (p:Int) (d:Addr):(gf a b p d).lookup ("trees" : Str)=some (.ref b):=by
 unfold gf
 rw [aM,if_neg (by decide +kernel),aM,if_neg (by decide +kernel),aM,if_pos rfl]
theorem gf_fi (a b:Addr) (p:Int) (d:Addr):(gf a b p d).lookup ("field" : Str)=some (.int p):=by
 unfold gf
 rw [aM,if_neg (by decide +kernel),aM,if_pos rfl]
theorem gf_de (a b:Addr) (p:Int) (d:Addr):(gf a b p d).lookup ("degrees" : Str)=some (.ref d):=by
 unfold gf
 rw [aM,if_pos rfl]
theorem gf_no (a b:Addr) (p:Int) (d:Addr) {m:Str} (h1:¬ m = "degrees") (h2:¬ m = "field") (h3:¬ m = "trees") (h4:¬ m = "switches"):(gf a b p d).lookup m=none:=by
 unfold gf
 rw [aM,if_neg h1,aM,if_neg h2,aM,if_neg h3,aM,if_neg h4]
 all_goals rfl
structure GTxt (K:W.Frag) (mg:Str->Option Value) (C:Addr):Prop where
 cl:Cls K C
 nS:NoAttr K C "switches"
 nT:NoAttr K C "trees"
 nF:NoAttr K C "field"
 nD:NoAttr K C "degrees"
 mgC:mg "Game" = some (.ref C)
theorem bestI_at (g:Nat->Int):∀ n,∃ k,k<=n/\cK g n=g k
 | 0=>⟨0,Nat.le_refl _,rfl⟩
 | n+1=>by
   obtain ⟨k,hk,e⟩:=bestI_at g n
   unfold cK
   split
   . exact ⟨n+1,Nat.le_refl _,rfl⟩
   . exact ⟨k,by omega,e⟩
theorem maxD_mem {ns:List Int} (h:ns ≠ []):maxD ns 0 ∈ ns:=by
 cases ns with
 | nil=>exact absurd rfl h
 | cons a r =>
   obtain ⟨k,hk,e⟩:=bestI_at (fun i=>(a::r)[i]?.getD 0) ((a::r).length - 1)
   have e1:maxD (a::r) 0=cK (fun i=>(a::r)[i]?.getD 0) ((a::r).length - 1):=rfl
   have hl:k < (a::r).length:=by
    rw [List.length_cons] at hk ⊢
    omega
   rw [e1,e]
   show (a::r)[k]?.getD 0 ∈ a::r
   rw [List.getElem?_eq_getElem hl]
   exact List.getElem_mem hl
def aZ (ts:List Tr) (x:Str):Int:=maxD (ts.map fun t=>(t.names.count x:Int)) 0
theorem degOf_lt {ts:List Tr} {x:Str} {p:Int} (h0:ts ≠ []) (h:∀ t ∈ ts,(t.names.count x:Int) < p):aZ ts x < p:=by
 have:=maxD_mem (ns:=ts.map fun t=>(t.names.count x:Int)) (by simpa using h0)
 obtain ⟨t,ht,e⟩:=List.mem_map.mp this
 unfold aZ
 rw [← e]
 exact h t ht
def spDeg:Sp:=fun vs H Q _=>∃ (x:Str) (b:Addr) (tv:List V) (ts:List Tr),vs=[.str x,.ref b]/\H b=some (.tup tv)/\TreesAt H tv ts/\ts ≠ []/\ts.length<=10/\(∀ t ∈ ts,t.wf/\t.depth<=10/\t.size<=400)/\∀ H',Same H H'->Q (.int (aZ ts x)) H'
theorem sc_degree_of:FnScope ["name", "trees"] ["name", "trees"] (ag cY):=⟨rfl,rfl,rfl,by decide +kernel,rfl,by decide +kernel,by decide +kernel⟩
theorem ok_degree_of {f:Addr} {fd:FuncData} (F:Fun K "degree_of" "degree_of" cY f fd) (hmax:mg "max" = none) (C_names_in:Cal P w K mg base 12 "names_in" ["tree"] (spNamesIn 10)):FnOk P w K mg base CX0 13 f fd ["name", "trees"] spDeg:=by
 refine F.ok sc_degree_of (fun vs H Q E h=>?_) (fun cdv A outer s H vs Q E hr h=>?_)
 . obtain ⟨x,b,tv,ts,rfl,_⟩:=h
   rfl
 obtain ⟨x,b,tv,ts,rfl,hb,TS,t0,tl,tok,q⟩:=h
 refine ⟨_,(af (ao (aE (call_max1 rfl) rfl hmax PyProof.Rows.boot_max (aa (bQ (N:=["name"]) (ix:=[0]) rfl
  (CompScope.one (by with_unfolding_all rfl) (by decide) rfl (by decide) rfl (by decide +kernel) (by with_unfolding_all rfl) (by with_unfolding_all rfl) (by with_unfolding_all rfl) rfl rfl) rfl
  (pi_tup (pv 1)) (fun _ _ _=>bL (pe_bmK K PySem.F.plainAttrs_list PySem.F.slot_list_count PySem.F.type_list_count (mt_countK K) (am C_names_in hr (by decide) rfl (aa (pv 0) ae)) (aa (pv 1) ae)))) ae)))),?_⟩
 have vl:=TS.length
 refine ⟨_,rfl,b,rfl,⟨_,SqT.of hb⟩,fun D hD=>?_⟩
 refine comp_tup (K:=K) (xs:=tv) (fun i H'=>H' D=some (.lst (((ts.take i).map fun t=>(t.names.count x:Int)).map V.int))/\Same H H') ⟨by rw [upd_same]; rfl,Same.new hD _⟩ (fun i H' _ h=>SqT.of (h.2 _ _ hb)) ?_ ?_
 . rintro i z H2 hz ⟨hl,S2⟩
   obtain ⟨t,ht,T⟩:=TS.get hz
   obtain ⟨tw,td,tz⟩:=tok t (List.mem_of_getElem? ht)
   have hi:i < tv.length:=(List.getElem?_eq_some_iff.mp hz).1
   refine ⟨_,rfl,z,t,rfl,T.mono (keepT_same S2),tw,by omega,tz,fun l H3 l0 S3 hl3=>?_⟩
   refine ⟨.inl ⟨rfl,_,SqL.of hl3⟩,_,rfl,l,_,_,rfl,rfl,SqL.of hl3,flat_strs _,rfl,?_⟩
   rw [count_strs]
   refine ⟨_,S3 _ _ hl,?_,Nx.of hi ⟨?_,fun b' o' e'=>?_⟩⟩
   . rw [List.length_map,List.length_map,List.length_take]
     exact aJ (by omega)
   . rw [upd_same,List.take_add_one,ht,List.map_append,List.map_append]
     rfl
   . rw [au (ne_of_none e' hD)]
     exact S3 _ _ (S2 _ _ e')
 . rintro H2 ⟨hl,S2⟩
   rw [vl,List.take_length] at hl
   exact ⟨D,_,rfl,SqL.of hl,by simpa using t0,q H2 S2⟩
def spLookS:Sp:=fun vs H Q _=>∃ (a:Addr) (ns:List Str),vs=[.ref a]/\H a=some (.tup (ns.map V.str))/\ns.Nodup/\ns.length<=10/\∀ H',Same H H'->Q .non H'
theorem in_strs (x:Str) (ns:List Str):inV (.str x) (ns.map V.str)=decide (x ∈ ns):=by
 unfold inV
 induction ns with
 | nil=>rfl
 | cons a r ih =>
   rw [List.map_cons,List.any_cons,ih]
   have e:eqV (.str a) (.str x)=decide (x=a):=by
    show (a == x)=_
    by_cases c:x=a
    . subst c; simp
    . rw [decide_eq_false c]; simpa using fun h=>c h.symm
   rw [e]
   by_cases c1:x=a <;> by_cases c2:x ∈ r <;> simp [c1,c2]
theorem sc_look_switches:FnScope ["switches", "place", "name"] ["switches"] (ag bG):=⟨rfl,rfl,rfl,by decide +kernel,rfl,by decide +kernel,by decide +kernel⟩
theorem ok_look_switches {f:Addr} {fd:FuncData} (F:Fun K "look_switches" "look_switches" bG f fd) (henum:mg "enumerate" = none):FnOk P w K mg base CX0 1 f fd ["switches"] spLookS:=by
 refine F.ok sc_look_switches (fun vs H Q E h=>?_) (fun cdv A outer s H vs Q E hr h=>?_)
 . obtain ⟨a,ns,rfl,_⟩:=h
   rfl
 obtain ⟨a,ns,rfl,ha,nd,nl,q⟩:=h
 refine ⟨_,(af (ci PassesOwn.never rfl (pi_enumT rfl henum (pv 0)) (pg_tup rfl (bD (aS (i:=1) sc_look_switches.nd rfl (Or.inl rfl)) (bD (aS (i:=2) sc_look_switches.nd rfl (Or.inl rfl)) pgs_nil)))
  (af (aG (aj op_in_seq (pv 2) (pe_slice sl_tup (pv 0) po_none (po_some (pv 1))) (by with_unfolding_all rfl)) pss_never ax)))),?_⟩
 refine ⟨_,rfl,a,rfl,⟨_,SqT.of ha⟩,for_enumT (K:=K) (xs:=ns.map V.str) (fun i σ H'=>∃ x1 x2:Option V,σ=[some (.ref a),x1,x2]/\Same H H') ⟨_,_,rfl,Same.refl _⟩ (fun i σ H' _ hst=>by obtain ⟨_,_,_,h⟩:=hst; exact SqT.of (h _ _ ha)) ?_ ?_⟩
 . rintro i z σ H1 t hz ⟨x1,x2,rfl,S1⟩ ht
   have hi:i < (ns.map V.str).length:=(List.getElem?_eq_some_iff.mp hz).1
   rw [List.getElem?_map] at hz
   obtain ⟨x,hx,rfl⟩:=Option.map_eq_some_iff.mp hz
   have G:=Same.new ht (.tup [.int (i:Int),.str x])
   have S2:=S1.trans G
   have hi':i < ns.length:=by rw [List.length_map] at hi; exact hi
   refine ⟨t,_,rfl,SqT.of upd_same,rfl,_,_,rfl,_,_,rfl,rfl,?_⟩
   refine ⟨_,rfl,_,rfl,_,rfl,(i:Int),rfl,a,_,rfl,SqT.of (S2 _ _ ha),?_,fun c hc=>?_⟩
   . rintro ⟨_,h⟩
     rw [HT.sIx_nat] at h
     omega
   . refine ⟨c,_,rfl,.inr (SqT.of upd_same),rfl,?_,_,rfl,?_⟩
     . have ec:cutV (ns.map V.str) none (some (i:Int))=(ns.take i).map V.str:=by
        unfold cutV
        rw [HT.sIx_none,HT.sIx_nat,List.drop_zero,Nat.sub_zero,List.map_take]
        congr 1
        omega
       rw [ec]
       exact flat_strs _
     . have ec:cutV (ns.map V.str) none (some (i:Int))=(ns.take i).map V.str:=by
        unfold cutV
        rw [HT.sIx_none,HT.sIx_nat,List.drop_zero,Nat.sub_zero,List.map_take]
        congr 1
        omega
       show if inV (.str x) (cutV (ns.map V.str) none (some (i:Int)))=true then _ else _
       rw [ec,in_strs,decide_eq_false ?_]
       . refine iteF ?_
         exact ⟨_,_,rfl,S2.trans (Same.new hc _)⟩
       . intro hm
         obtain ⟨j,hj,e⟩:=List.getElem_of_mem hm
         rw [List.length_take] at hj
         rw [List.getElem_take] at e
         have ex:ns[i]=x:=by
          rw [List.getElem?_eq_getElem hi'] at hx
          exact Option.some.inj hx
         exact List.pairwise_iff_getElem.mp nd j i (by omega) hi' (by omega) (e.trans ex.symm)
 . rintro σ H1 ⟨x1,x2,rfl,S1⟩
   exact q H1 S1
theorem names_ok {ns:List Str}:∀ t:Tr,t.ok ns->∀ x ∈ t.names,x ∈ ns
 | .is y,h,x,hx=>by rw [List.mem_singleton.mp hx]; exact h
 | .yes,_,x,hx=>by cases hx
 | .no,_,x,hx=>by cases hx
 | .not a,h,x,hx=>names_ok a h x hx
 | .bin _ a b,⟨_,h1,h2⟩,x,hx=>by
   rcases List.mem_append.mp hx with h | h
   . exact names_ok a h1 x h
   . exact names_ok b h2 x h
def spLookN:Sp:=fun vs H Q _=>∃ (a b:Addr) (ns:List Str) (tv:List V) (ts:List Tr),vs=[.ref b,.ref a]/\H a=some (.tup (ns.map V.str))/\H b=some (.tup tv)/\TreesAt H tv ts/\(∀ t ∈ ts,t.ok ns/\t.wf/\t.depth<=10/\t.size<=400)/\∀ H',Same H H'->Q .non H'
theorem sc_look_names:FnScope ["trees", "switches", "tree", "name"] ["trees", "switches"] (ag cD):=⟨rfl,rfl,rfl,by decide +kernel,rfl,by decide +kernel,by decide +kernel⟩
theorem ok_look_names {f:Addr} {fd:FuncData} (F:Fun K "look_names" "look_names" cD f fd) (C_names_in:Cal P w K mg base 12 "names_in" ["tree"] (spNamesIn 10)):FnOk P w K mg base CX0 13 f fd ["trees", "switches"] spLookN:=by
 refine F.ok sc_look_names (fun vs H Q E h=>?_) (fun cdv A outer s H vs Q E hr h=>?_)
 . obtain ⟨a,b,ns,tv,ts,rfl,_⟩:=h
   rfl
 obtain ⟨a,b,ns,tv,ts,rfl,ha,hb,TS,tok,q⟩:=h
 refine ⟨_,(af (ci PassesOwn.never rfl (pi_tup (pv 0)) (aS (i:=2) sc_look_names.nd rfl (Or.inl rfl))
  (af (ci PassesOwn.never rfl (cN (am C_names_in hr (by decide) rfl (aa (pv 2) ae))) (aS (i:=3) sc_look_names.nd rfl (Or.inl rfl))
   (af (aG (aj op_notIn_seq (pv 3) (pv 1) (by with_unfolding_all rfl)) pss_never ax)))))),?_⟩
 refine ⟨_,rfl,b,rfl,⟨_,SqT.of hb⟩,for_tup (K:=K) (xs:=tv) (fun i σ H'=>∃ x2 x3:Option V,σ=[some (.ref b),some (.ref a),x2,x3]/\Same H H') ⟨_,_,rfl,Same.refl _⟩ (fun i σ H' _ hst=>by obtain ⟨_,_,_,h⟩:=hst; exact SqT.of (h _ _ hb)) ?_ ?_⟩
 . rintro i z σ H1 hz ⟨x2,x3,rfl,S1⟩
   obtain ⟨t,ht,T⟩:=TS.get hz
   obtain ⟨tk,tw,td,tz⟩:=tok t (List.mem_of_getElem? ht)
   refine ⟨_,rfl,z,t,rfl,T.mono (keepT_same S1),tw,by omega,tz,fun l H2 l0 S2 hl=>?_⟩
   have S12:=S1.trans S2
   refine ⟨l,rfl,⟨_,SqL.of hl⟩,for_list (K:=K) (xs:=t.names.map V.str) (fun j σ H'=>∃ x3:Option V,σ=[some (.ref b),some (.ref a),some z,x3]/\H'=H2) ⟨_,rfl,rfl⟩ (fun j σ H' _ hst=>by obtain ⟨_,_,h⟩:=hst; subst h; exact SqL.of hl) ?_ ?_⟩
   . rintro j y σ H3 hy ⟨y3,rfl,rfl⟩
     rw [List.getElem?_map] at hy
     obtain ⟨x,hx,rfl⟩:=Option.map_eq_some_iff.mp hy
     refine ⟨_,rfl,_,rfl,a,_,rfl,.inr (SqT.of (S12 _ _ ha)),rfl,flat_strs _,_,rfl,?_⟩
     show if (!inV (.str x) (ns.map V.str))=true then _ else _
     rw [in_strs,decide_eq_true (names_ok t tk x (List.mem_of_getElem? hx))]
     refine iteF ?_
     exact ⟨_,rfl,rfl⟩
   . rintro σ H3 ⟨y3,rfl,rfl⟩
     exact ⟨_,_,rfl,S12⟩
 . rintro σ H1 ⟨x2,x3,rfl,S1⟩
   exact q H1 S1
def spLookF:Sp:=fun vs H Q _=>∃ p:Int,vs=[.int p]/\Pr p/\2 < p/\p<=999983/\Q .non H
theorem sc_look_field:FnScope ["field"] ["field"] (ag cE):=⟨rfl,rfl,rfl,by decide +kernel,rfl,by decide +kernel,by decide +kernel⟩
theorem ok_look_field {f:Addr} {fd:FuncData} (F:Fun K "look_field" "look_field" cE f fd) (hend:∃ t,mg "FIELDS_END" = some (.int 1000000 t)) (C_is_field:Cal P w K mg base 1 "is_field" ["number"] spField):FnOk P w K mg base CX0 2 f fd ["field"] spLookF:=by
 refine F.ok sc_look_field (fun vs H Q E h=>?_) (fun cdv A outer s H vs Q E hr h=>?_)
 . obtain ⟨p,rfl,_⟩:=h
   rfl
 obtain ⟨p,rfl,pp,p2,p9,q⟩:=h
 obtain ⟨te,ge⟩:=hend
 refine ⟨_,(af (aG (PW.pt (pw_or (aj op_ge (pv 0) (pe_glob (v:=.int 1000000) rfl ge ⟨_,rfl⟩) (aq _)) (pw_or1 (pt_not (pt_val (am C_is_field hr (by decide) rfl (aa (pv 0) ae))))))) pss_never ax)),?_⟩
 refine ⟨_,rfl,_,_,rfl,rfl,_,rfl,?_⟩
 refine aw (by omega) ?_
 refine ⟨_,rfl,p,rfl,by omega,fun b hb=>⟨b,rfl,?_⟩⟩
 rw [hb.mpr ⟨p2,pp⟩]
 exact iteF q
def spLookZ:Sp:=fun vs H Q _=>∃ (p:Int) (d:Addr) (ns:List Int),vs=[.int p,.ref d]/\H d=some (.lst (ns.map V.int))/\ns ≠ []/\(∀ n ∈ ns,n < p)/\Q .non H
theorem sc_look_size:FnScope ["field", "degrees", "greatest"] ["field", "degrees"] (ag cV):=⟨rfl,rfl,rfl,by decide +kernel,rfl,by decide +kernel,by decide +kernel⟩
theorem ok_look_size {f:Addr} {fd:FuncData} (F:Fun K "look_size" "look_size" cV f fd) (hmax:mg "max" = none):FnOk P w K mg base CX0 1 f fd ["field", "degrees"] spLookZ:=by
 refine F.ok sc_look_size (fun vs H Q E h=>?_) (fun cdv A outer s H vs Q E hr h=>?_)
 . obtain ⟨p,d,ns,rfl,_⟩:=h
   rfl
 obtain ⟨p,d,ns,rfl,hd,n0,nl,q⟩:=h
 refine ⟨_,(ac (ak (i:=2) sc_look_size.nd rfl (Or.inl rfl) (aE (call_max1 rfl) rfl hmax PyProof.Rows.boot_max (aa (pv 1) ae)))
  (af (aG (aj op_le (pv 0) (pv 2) (aq _)) pss_never ax))),?_⟩
 refine ⟨_,rfl,d,ns,rfl,SqL.of hd,n0,?_⟩
 refine ⟨_,rfl,_,rfl,_,_,rfl,rfl,_,rfl,?_⟩
 have:=nl _ (maxD_mem n0)
 exact aw (by omega) q
theorem putF_len (f:Str) (v:V):∀ fs:List (Str × V),(putF f v fs).length<=fs.length+1
 | []=>Nat.le_refl _
 | (g,u)::r=>by
   have:=putF_len f v r
   unfold putF
   split
   . simp
   . simp only [List.length_cons]
     omega
def gf3 (a b:Addr) (p:Int):List (Str × V):=putF "field" (.int p) (putF "trees" (.ref b) (putF "switches" (.ref a) []))
theorem gf3_sw (a b:Addr) (p:Int):(gf3 a b p).lookup ("switches" : Str)=some (.ref a):=by
 unfold gf3
 rw [aM,if_neg (by decide +kernel),aM,if_neg (by decide +kernel),aM,if_pos rfl]
theorem gf3_tr (a b:Addr) (p:Int):(gf3 a b p).lookup ("trees" : Str)=some (.ref b):=by
 unfold gf3
 rw [aM,if_neg (by decide +kernel),aM,if_pos rfl]
def GameAt (C:Addr) (H:Hp) (g a b d:Addr) (p:Int):Prop:=∃ dx,H g=some (.ins C dx (gf a b p d))
theorem GameAt.same {C:Addr} {H H':Hp} {g a b d:Addr} {p:Int} (h:GameAt C H g a b d p) (s:Same H H'):GameAt C H' g a b d p:=by
 obtain ⟨dx,e⟩:=h
 exact ⟨dx,s _ _ e⟩
def spGInit (C:Addr):Sp:=fun vs H Q _=>∃ (g dx a b:Addr) (ns:List Str) (tv:List V) (ts:List Tr) (p:Int),vs=[.ref g,.ref a,.ref b,.int p]/\H g=some (.ins C dx [])/\H a=some (.tup (ns.map V.str))/\ns.Nodup/\ns.length<=10/\H b=some (.tup tv)/\TreesAt H tv ts/\1<=ts.length/\ts.length<=10 /\
 (∀ t ∈ ts,t.ok ns/\t.wf/\t.depth<=10/\t.size<=400)/\Pr p/\2 < p/\p<=999983/\(ts.length:Int)<=p/\(∀ t ∈ ts,∀ x ∈ ns,(t.names.count x:Int) < p) /\
 ∀ (d:Addr) (H':Hp),H d=none->GameAt C H' g a b d p->H' d=some (.lst ((ns.map (aZ ts)).map V.int))->SameBut g H H'->Q .non H'
theorem sc_ginit:FnScope ["self", "switches", "trees", "field"] ["self", "switches", "trees", "field"] (ag s_ginit):=⟨rfl,rfl,rfl,by decide +kernel,rfl,by decide +kernel,by decide +kernel⟩
theorem ok_ginit {f C:Addr} {fd:FuncData} (F:Fun K "__init__" "Game.__init__" s_ginit f fd) (T:GTxt K mg C) (htuple:mg "tuple" = none) (hlen:mg "len" = none) (C_degree_of:Cal P w K mg base 13 "degree_of" ["name", "trees"] spDeg) (C_look_switches:Cal P w K mg base 1 "look_switches" ["switches"] spLookS)
 (C_look_names:Cal P w K mg base 13 "look_names" ["trees", "switches"] spLookN) (C_look_field:Cal P w K mg base 2 "look_field" ["field"] spLookF) (C_look_size:Cal P w K mg base 1 "look_size" ["field", "degrees"] spLookZ):FnOk P w K mg base CX0 14 f fd ["self", "switches", "trees", "field"] (spGInit C):=by
 refine F.ok sc_ginit (fun vs H Q E h=>?_) (fun cdv A outer s H vs Q E hr h=>?_)
 . obtain ⟨g,dx,a,b,ns,tv,ts,p,rfl,_⟩:=h
   rfl
 obtain ⟨g,dx,a,b,ns,tv,ts,p,rfl,hg,ha,nd,nl,hb,TS,t1,t10,tok,pp,p2,p9,tp,tc,q⟩:=h
 refine ⟨_,(ac (cq (pv 0) (bq bz rfl htuple cb (aa (pv 1) ae)) rfl)
  (ac (cq (pv 0) (bq bz rfl htuple cb (aa (pv 2) ae)) rfl)
  (ac (cq (pv 0) (pv 3) rfl)
  (ac (cq (pv 0) (bQ (N:=["self"]) (ix:=[0]) rfl
   (CompScope.one (by with_unfolding_all rfl) (by decide) rfl (by decide) rfl (by decide +kernel) (by with_unfolding_all rfl) (by with_unfolding_all rfl) (by with_unfolding_all rfl) rfl rfl) rfl
   (pi_tup (aH (pv 0) rfl)) (fun _ _ _=>bL (am C_degree_of hr (by decide) rfl (aa (pv 0) (aa (pe_fldK K (pv 1)) ae))))) rfl)
  (ac (dc (am C_look_switches hr (by decide) rfl (aa (aH (pv 0) rfl) ae)))
  (ac (dc (am C_look_names hr (by decide) rfl (aa (aH (pv 0) rfl) (aa (aH (pv 0) rfl) ae))))
  (ac (dc (am C_look_field hr (by decide) rfl (aa (pv 3) ae)))
  (af (dc (am C_look_size hr (by decide) rfl (aa (pv 3) (aa (ah op_cat (aH (pv 0) rfl) (bi (aa (ah aR (aE aB rfl hlen PySem.boot_len (aa (aH (pv 0) rfl) ae)) ad) ae))) ae)))))))))))),?_⟩
 have nag:a ≠ g:=ne_of ha hg (by intro z; cases z)
 have nbg:b ≠ g:=ne_of hb hg (by intro z; cases z)
 have vl:=TS.length
 refine ⟨_,rfl,a,_,rfl,.inr ⟨SqT.of ha,_,rfl,g,C,dx,[],rfl,hg,T.cl,T.nS,(by show 0 < 1000; decide),?_⟩⟩
 refine ⟨_,rfl,b,_,rfl,.inr ⟨SqT.of (by rw [au nbg]; exact hb),_,rfl,g,C,dx,_,rfl,upd_same,T.cl,T.nT,(Nat.lt_of_le_of_lt (putF_len _ _ _) (by show 1 < 1000; decide)),?_⟩⟩
 refine ⟨_,rfl,_,rfl,g,C,dx,_,rfl,upd_same,T.cl,T.nF,(Nat.lt_of_le_of_lt (putF_len _ _ _) (Nat.lt_of_le_of_lt (Nat.succ_le_succ (putF_len _ _ _)) (by show 2 < 1000; decide))),?_⟩
 have S3:SameBut g H (upd (upd (upd H g (.ins C dx (putF "switches" (.ref a) []))) g (.ins C dx (putF "trees" (.ref b) (putF "switches" (.ref a) [])))) g (.ins C dx (putF "field" (.int p) (putF "trees" (.ref b) (putF "switches" (.ref a) []))))) :=
  (SameBut.upd _).trans ((SameBut.upd _).trans (SameBut.upd _))
 have hg3:upd (upd (upd H g (.ins C dx (putF "switches" (.ref a) []))) g (.ins C dx (putF "trees" (.ref b) (putF "switches" (.ref a) [])))) g (.ins C dx (putF "field" (.int p) (putF "trees" (.ref b) (putF "switches" (.ref a) [])))) g=some (.ins C dx (gf3 a b p)):=upd_same
 generalize upd (upd (upd H g (.ins C dx (putF "switches" (.ref a) []))) g (.ins C dx (putF "trees" (.ref b) (putF "switches" (.ref a) [])))) g (.ins C dx (putF "field" (.int p) (putF "trees" (.ref b) (putF "switches" (.ref a) []))))=H3 at S3 hg3
 have kT:bO H H3:=fun c xs h=>S3 c _ (ne_of h hg (by intro z; cases z)) h
 have ha3:=kT _ _ ha
 have hb3:=kT _ _ hb
 have TS3:=TS.mono kT
 refine ⟨_,rfl,g,C,dx,_,_,rfl,hg3,T.cl,T.nS,gf3_sw ..,a,rfl,⟨_,SqT.of ha3⟩,fun D hD=>?_⟩
 have D0:H D=none:=by
  cases e:H D with
  | none=>rfl
  | some o =>
    by_cases c:D=g
    . rw [c,hg3] at hD; cases hD
    . rw [S3 D o c e] at hD; cases hD
 refine comp_tup (K:=K) (xs:=ns.map V.str) (fun i H'=>H' D=some (.lst (((ns.take i).map (aZ ts)).map V.int))/\Same H3 H') ⟨by rw [upd_same]; rfl,Same.new hD _⟩ (fun i H' _ h=>SqT.of (h.2 _ _ ha3)) ?_ ?_
 . rintro i z H4 hz ⟨hl,S4⟩
   have hi:i < (ns.map V.str).length:=(List.getElem?_eq_some_iff.mp hz).1
   rw [List.getElem?_map] at hz
   obtain ⟨x,hx,rfl⟩:=Option.map_eq_some_iff.mp hz
   refine ⟨_,rfl,_,rfl,g,C,dx,_,_,rfl,S4 _ _ hg3,T.cl,T.nT,gf3_tr ..,x,b,tv,ts,rfl,S4 _ _ hb3,TS3.mono (keepT_same S4),?_,t10,fun t ht=>(tok t ht).2,fun H5 S5=>?_⟩
   . intro e
     rw [e] at t1
     exact absurd t1 (by decide)
   refine ⟨_,S5 _ _ hl,?_,Nx.of hi ⟨?_,fun b' o' e'=>?_⟩⟩
   . rw [List.length_map,List.length_map,List.length_take]
     exact aJ (by omega)
   . rw [upd_same,List.take_add_one,hx,List.map_append,List.map_append]
     rfl
   . rw [au (ne_of_none e' hD)]
     exact S5 _ _ (S4 _ _ e')
 rintro H4 ⟨hl,S4⟩
 rw [List.length_map,List.take_length] at hl
 refine ⟨_,rfl,g,C,dx,_,rfl,S4 _ _ hg3,T.cl,T.nD,?_,?_⟩
 . exact Nat.lt_of_le_of_lt (Nat.le_trans (putF_len _ _ _) (Nat.succ_le_succ (Nat.le_trans (putF_len _ _ _) (Nat.succ_le_succ (putF_len _ _ _))))) (by show 3 < 1000; decide)
 have nDg:D ≠ g:=fun z=>by rw [z,hg3] at hD; cases hD
 have hg5:upd H4 g (.ins C dx (gf a b p D)) g=some (.ins C dx (gf a b p D)):=upd_same
 have S5:SameBut g H (upd H4 g (.ins C dx (gf a b p D))):=S3.trans ((SameBut.of S4).trans (SameBut.upd _))
 have hD5:upd H4 g (.ins C dx (gf a b p D)) D=some (.lst ((ns.map (aZ ts)).map V.int)):=by rw [au nDg]; exact hl
 show _
 generalize he5:upd H4 g (.ins C dx (gf a b p D))=H5 at hg5 S5 hD5
 have kT5:bO H H5:=fun c xs h=>S5 c _ (ne_of h hg (by intro z; cases z)) h
 rw [show upd H4 g (.ins C dx (putF "degrees" (.ref D) (gf3 a b p)))=H5 from he5]
 refine ⟨_,rfl,g,C,dx,_,_,rfl,hg5,T.cl,T.nS,gf_sw ..,a,ns,rfl,kT5 _ _ ha,nd,nl,fun H6 S6=>?_⟩
 have kT6:bO H H6:=fun c xs h=>S6 _ _ (kT5 c xs h)
 refine ⟨_,rfl,g,C,dx,_,_,rfl,S6 _ _ hg5,T.cl,T.nT,gf_tr ..,_,rfl,g,C,dx,_,_,rfl,S6 _ _ hg5,T.cl,T.nS,gf_sw ..,a,b,ns,tv,ts,rfl,kT6 _ _ ha,kT6 _ _ hb,TS.mono kT6,tok,fun H7 S7=>?_⟩
 have S57:=S6.trans S7
 refine ⟨_,rfl,p,rfl,pp,p2,p9,?_⟩
 refine ⟨_,rfl,_,rfl,g,C,dx,_,_,rfl,S57 _ _ hg5,T.cl,T.nD,gf_de ..,_,rfl,g,C,dx,_,_,rfl,S57 _ _ hg5,T.cl,T.nT,gf_tr ..,b,_,rfl,.inr (SqT.of (S57 _ _ (kT5 _ _ hb))),_,_,rfl,rfl,(by show 1<=sizeLine; decide),fun l hl2=>?_⟩
 have Gl:=Same.new hl2 (.lst [.int ((tv.length:Int) - 1)])
 refine ⟨D,l,_,_,rfl,rfl,Gl _ _ (S57 _ _ hD5),upd_same,?_,fun r hr0=>?_⟩
 . rw [List.length_map,List.length_map]
   exact bv (by simp; omega)
 have Gr:=Same.new hr0 (.lst ((ns.map (aZ ts)).map V.int++[.int ((tv.length:Int) - 1)]))
 refine ⟨p,r,ns.map (aZ ts)++[(tv.length:Int) - 1],rfl,?_,by simp,fun n hn=>?_,?_⟩
 . rw [upd_same,List.map_append]
   rfl
 . rcases List.mem_append.mp hn with h | h
   . obtain ⟨x,hx,rfl⟩:=List.mem_map.mp h
     refine degOf_lt ?_ fun t ht=>tc t ht x hx
     intro e
     rw [e] at t1
     exact absurd t1 (by decide)
   . rw [List.mem_singleton.mp h]
     omega
 . have S59:=S57.trans (Gl.trans Gr)
   exact q D _ D0 ⟨dx,S59 _ _ hg5⟩ (S59 _ _ hD5) (S5.trans (SameBut.of S59))
def spInv:Sp:=fun vs H Q _=>∃ a p:Int,vs=[.int a,.int p]/\Pr p/\p<=999983/\0 < a/\a < p/\∀ g:Int,0 < g->g < p->g*a % p=1->Q (.int g) H
theorem sc_inverse_of:FnScope ["a", "p", "former", "former_factor", "rest", "factor", "times", "lesser", "lesser_factor"] ["a", "p"] (ag cG):=⟨rfl,rfl,rfl,by decide +kernel,rfl,by decide +kernel,by decide +kernel⟩
theorem ok_inverse_of {f:Addr} {fd:FuncData} (F:Fun K "inverse_of" "inverse_of" cG f fd):FnOk P w K mg base CX0 1 f fd ["a", "p"] spInv:=by
 refine F.ok sc_inverse_of (fun vs H Q E h=>?_) (fun cdv A outer s H vs Q E hr h=>?_)
 . obtain ⟨a,p,rfl,_⟩:=h
   rfl
 obtain ⟨a,p,rfl,pr,p1,a0,a1,q⟩:=h
 have p2:2<=p:=pr.1
 refine ⟨_,(ac (ak (i:=2) sc_inverse_of.nd rfl (Or.inl rfl) (pv 1))
  (ac (ak (i:=3) sc_inverse_of.nd rfl (Or.inl rfl) ad)
  (ac (ak (i:=4) sc_inverse_of.nd rfl (Or.inl rfl) (ah aI (pv 0) (pv 1)))
  (ac (ak (i:=5) sc_inverse_of.nd rfl (Or.inl rfl) ad)
  (ac (ps_while PassesOwn.never (aj op_ne (pv 4) ad (aq _)) (ac (ak (i:=6) sc_inverse_of.nd rfl (Or.inl rfl) (ah op_fdiv (pv 2) (pv 4)))
   (ac (ak (i:=7) sc_inverse_of.nd rfl (Or.inl rfl) (ah aR (pv 2) (ah aX (pv 6) (pv 4))))
   (ac (ak (i:=8) sc_inverse_of.nd rfl (Or.inl rfl) (ah aI (ah aR (pv 3) (ah aX (pv 6) (pv 5))) (pv 1)))
   (ac (ak (i:=2) sc_inverse_of.nd rfl (Or.inl rfl) (pv 4))
   (ac (ak (i:=3) sc_inverse_of.nd rfl (Or.inl rfl) (pv 5))
   (ac (ak (i:=4) sc_inverse_of.nd rfl (Or.inl rfl) (pv 7))
   (af (ak (i:=5) sc_inverse_of.nd rfl (Or.inl rfl) (pv 8))))))))))
  (af (ao (pv 5)))))))),?_⟩
 refine ⟨_,rfl,?_⟩
 refine ⟨_,rfl,_,rfl,_,_,rfl,rfl,(show 0 < p by omega),?_⟩
 refine ⟨fun m σ H'=>∃ (former ff rest g:Int) (x6 x7 x8:Option V),σ=[some (.int a),some (.int p),some (.int former),some (.int ff),some (.int rest),some (.int g),x6,x7,x8]/\H'=H/\Eu a p former ff rest g/\m=rest.toNat,
  ⟨_,_,_,_,_,_,_,_,rfl,rfl,eu_start pr (by omega) a0 a1,rfl⟩,?_⟩
 rintro m σ H' ⟨former,ff,rest,g,x6,x7,x8,rfl,rfl,eu,rfl⟩
 refine ⟨_,rfl,rfl,_,rfl,?_⟩
 by_cases c:rest=1
 . refine iteNS (congrArg V.int c) ?_
   obtain ⟨g0,g1,g2⟩:=eu_end eu c (by omega)
   exact ⟨_,rfl,q g g0 g1 g2⟩
 . refine iteN (fun z=>c (V.int.inj z)) ?_
   refine ⟨_,fun _ _ h=>h,?_⟩
   have r0:=eu.r0
   have rp:=eu.rp
   have f0:=eu.f0
   have f1:=eu.f1
   obtain ⟨nx,lt⟩:=eu_next eu c
   refine ⟨_,rfl,_,rfl,_,_,rfl,rfl,⟨r0,by omega⟩,?_⟩
   refine ⟨_,rfl,_,rfl,_,rfl,_,_,rfl,rfl,.inr ⟨by omega,by omega⟩,_,_,rfl,rfl,?_⟩
   refine ⟨_,rfl,_,rfl,_,rfl,_,_,rfl,rfl,.inr ⟨by omega,by omega⟩,_,_,rfl,rfl,_,rfl,_,_,rfl,rfl,(show 0 < p by omega),?_⟩
   refine ⟨_,rfl,_,rfl,_,rfl,_,rfl,?_⟩
   exact ⟨_,lt,_,_,_,_,_,_,_,rfl,rfl,nx,rfl⟩
theorem md {p x y:Int} (h:p ∣ x - y):x % p=y % p:=by
 obtain ⟨k,hk⟩:=h
 have:x=y+p*k:=by omega
 rw [this,Int.add_mul_emod_self_left]
theorem dm (p x:Int):p ∣ x % p - x:=⟨-(x / p),by
 have:=Int.emod_add_mul_ediv x p
 rw [Int.mul_neg]
 omega⟩
def pmd (p:Int) (g:Nat->Int):Nat->Int
 | 0=>1
 | k+1=>pmd p g k*g k % p
theorem pmd_dvd (p:Int) (g:Nat->Int):∀ k,p ∣ pmd p g k - pr g k
 | 0=>⟨0,by simp [pmd,pr]⟩
 | k+1=>by
   obtain ⟨a,ha⟩:=pmd_dvd p g k
   obtain ⟨b,hb⟩:=dm p (pmd p g k*g k)
   exact ⟨b+a*g k,by show pmd p g k*g k % p - pr g k*g k=_; grind⟩
theorem pmd_rng {p:Int} (hp:1 < p) (g:Nat->Int):∀ k,0<=pmd p g k/\pmd p g k < p
 | 0=>⟨by show (0:Int)<=1; decide,hp⟩
 | k+1=>⟨Int.emod_nonneg _ (by omega),Int.emod_lt_of_pos _ (by omega)⟩
def prL (p:Int) (g:Nat->Int) (n:Nat):List V:=((List.range n).map (pmd p g)).map V.int
theorem prL_succ (p:Int) (g:Nat->Int) (n:Nat):prL p g (n+1)=prL p g n++[.int (pmd p g n)]:=by
 unfold prL
 rw [List.range_succ,List.map_append,List.map_append]
 rfl
theorem prL_len (p:Int) (g:Nat->Int) (n:Nat):(prL p g n).length=n:=by
 unfold prL
 rw [List.length_map,List.length_map,List.length_range]
theorem map_at {f:Nat->Int} {n k:Nat} (h:k < n):atI (((List.range n).map f).map V.int) (k:Int)=some (.int (f k)):=by
 refine cn ?_
 rw [List.getElem?_map,List.getElem?_map,List.getElem?_range h]
 rfl
theorem prL_at {p:Int} {g:Nat->Int} {n k:Nat} (h:k < n):atI (prL p g n) (k:Int)=some (.int (pmd p g k)):=map_at h
def spProd:Sp:=fun vs H Q _=>∃ (a:Addr) (g:Nat->Int) (n:Nat) (p:Int),vs=[.ref a,.int p]/\H a=some (.lst (((List.range n).map g).map V.int))/\n<=500/\1 < p/\p < 2 ^ 40/\∀ (l:Addr) (H':Hp),H l=none->Same H H'->H' l=some (.lst (prL p g (n+1)))->Q (.ref l) H'
theorem sc_products:FnScope ["numbers", "p", "told", "number"] ["numbers", "p"] (ag s_products):=⟨rfl,rfl,rfl,by decide +kernel,rfl,by decide +kernel,by decide +kernel⟩
theorem ok_products {f:Addr} {fd:FuncData} (F:Fun K "products" "products" s_products f fd):FnOk P w K mg base CX0 1 f fd ["numbers", "p"] spProd:=by
 refine F.ok sc_products (fun vs H Q E h=>?_) (fun cdv A outer s H vs Q E hr h=>?_)
 . obtain ⟨a,g,n,p,rfl,_⟩:=h
   rfl
 obtain ⟨a,g,n,p,rfl,ha,n5,p1,p40,q⟩:=h
 refine ⟨_,(ac (ak (i:=2) sc_products.nd rfl (Or.inl rfl) (bi (aa ad ae)))
  (ac (ci PassesOwn.never rfl (cN (pv 0)) (aS (i:=3) sc_products.nd rfl (Or.inl rfl)) (af (dc (pe_bm PySem.F.plainAttrs_list PySem.F.slot_list_append PySem.F.type_list_append cI (pv 2) (aa (ah aI (ah aX (ay ix_list (pv 2) (pe_un un_neg ad) (fun _ _=>rfl)) (pv 3)) (pv 1)) ae)))))
  (af (ao (pv 2))))),?_⟩
 refine ⟨(by show 1<=sizeLine; decide),fun L hL=>?_⟩
 have aL:a ≠ L:=ne_of_none ha hL
 refine ⟨_,rfl,a,rfl,⟨_,SqL.of ((Same.new hL _) _ _ ha)⟩,for_list (K:=K) (xs:=((List.range n).map g).map V.int) (fun i σ H'=>∃ x3:Option V,σ=[some (.ref a),some (.int p),some (.ref L),x3]/\H' L=some (.lst (prL p g (i+1)))/\SameBut L H H')
  ⟨_,rfl,by rw [upd_same]; rfl,SameBut.upd _⟩ (fun i σ H' _ hst=>by obtain ⟨_,_,_,h⟩:=hst; exact SqL.of (h _ _ aL ha)) ?_ ?_⟩
 . rintro i z σ H1 hz ⟨x3,rfl,hL1,S1⟩
   have hi:=(List.getElem?_eq_some_iff.mp hz).1
   rw [List.length_map,List.length_map,List.length_range] at hi
   rw [List.getElem?_map,List.getElem?_map,List.getElem?_range hi] at hz
   obtain rfl:V.int (g i)=z:=Option.some.inj hz
   have rg:=pmd_rng p1 g i
   refine ⟨_,rfl,.inl ⟨rfl,_,SqL.of hL1⟩,?_⟩
   refine ⟨_,rfl,_,rfl,L,_,_,.int (pmd p g i),rfl,rfl,SqL.of hL1,?_,_,rfl,_,_,rfl,rfl,.inl ⟨by omega,by omega⟩,_,rfl,_,_,rfl,rfl,(by omega),L,_,_,rfl,rfl,hL1,?_,?_⟩
   . rw [prL_succ]
     exact atI_last _ _
   . rw [prL_len]
     exact aJ (by omega)
   . refine ⟨_,rfl,?_,fun c o hc e=>?_⟩
     . rw [upd_same,prL_succ p g (i+1)]
       rfl
     . rw [au hc]
       exact S1 c o hc e
 . rintro σ H1 ⟨x3,rfl,hL1,S1⟩
   rw [List.length_map,List.length_map,List.length_range] at hL1
   exact ⟨_,rfl,q L H1 hL (fun b o e=>S1 b o (ne_of_none e hL) e) hL1⟩
theorem pr_fac:∀ n:Nat,pr (fun k=>1+(k:Int)) n=fac n
 | 0=>rfl
 | n+1=>by
   show pr (fun k=>1+(k:Int)) n*(1+(n:Int))=fac n*((n:Int)+1)
   rw [pr_fac n,Int.add_comm]
theorem share_ok {p g a t s:Int} {k m:Nat} (hg:g*a % p=1) (p1:1 < p) (ha:p ∣ a - fac (k+m)) (ht:p ∣ t - pr (fun j=>((k+m:Nat):Int) - j) m) (hs:p ∣ s - g*t):p ∣ s*fac k - 1:=by
 have f:=fac_part m k
 obtain ⟨x,hx⟩:=ha
 obtain ⟨y,hy⟩:=ht
 obtain ⟨z,hz⟩:=hs
 obtain ⟨e,he⟩:=dm p (g*a)
 rw [hg] at he
 exact ⟨z*fac k+g*y*fac k - g*x - e,by grind⟩
def spFacs:Sp:=fun vs H Q _=>∃ (L:Nat) (p:Int),vs=[.int (L:Int),.int p]/\L<=500/\(L:Int) < p/\Pr p/\p<=999983/\∀ (l:Addr) (H':Hp) (sh:Nat->Int),H l=none->Same H H'->(∀ k,k<=L->p ∣ sh k*fac k - 1)->(∀ k,0<=sh k/\sh k < p)->H' l=some (.lst (((List.range (L+1)).map sh).map V.int))->Q (.ref l) H'
theorem sc_inverse_factorials:FnScope ["last", "p", "numbers", "whole", "told"] ["last", "p"] (ag bh):=⟨rfl,rfl,rfl,by decide +kernel,rfl,by decide +kernel,by decide +kernel⟩
theorem ok_inverse_factorials {f:Addr} {fd:FuncData} (F:Fun K "inverse_factorials" "inverse_factorials" bh f fd) (B:Bl mg) (C_products:Cal P w K mg base 1 "products" ["numbers", "p"] spProd) (C_inverse_of:Cal P w K mg base 1 "inverse_of" ["a", "p"] spInv):FnOk P w K mg base CX0 2 f fd ["last", "p"] spFacs:=by
 refine F.ok sc_inverse_factorials (fun vs H Q E h=>?_) (fun cdv A outer s H vs Q E hr h=>?_)
 . obtain ⟨L,p,rfl,_⟩:=h
   rfl
 obtain ⟨L,p,rfl,L5,Lp,pp,p9,q⟩:=h
 refine ⟨_,(ac (ak (i:=2) sc_inverse_factorials.nd rfl (Or.inl rfl) (pe_listrng rfl rfl B.list rfl B.range (aa ad (aa (ah aU (pv 0) ad) ae))))
  (ac (ak (i:=3) sc_inverse_factorials.nd rfl (Or.inr rfl) (am C_inverse_of hr (by decide) rfl (aa (ay ix_list (am C_products hr (by decide) rfl (aa (pv 2) (aa (pv 1) ae))) (pe_un un_neg ad) (fun _ _=>rfl)) (aa (pv 1) ae))))
  (ac (ak (i:=4) sc_inverse_factorials.nd rfl (Or.inr rfl) (am C_products hr (by decide) rfl (aa (bQ (N:=["last"]) (ix:=[0]) rfl
   (CompScope.one (by with_unfolding_all rfl) (by decide) rfl (by decide) rfl (by decide +kernel) (by with_unfolding_all rfl) (by with_unfolding_all rfl) (by with_unfolding_all rfl) rfl rfl) rfl
   (bp rfl B.range (aa (pv 0) ae)) (fun _ _ _=>bL (ah aR (pv 1) (pv 0)))) (aa (pv 1) ae))))
  (af (ao (bQ (N:=["whole", "told", "p", "last"]) (ix:=[3,4,1,0]) rfl
   (CompScope.four (by with_unfolding_all rfl) (by decide) rfl (by decide) rfl (by decide +kernel) rfl (by with_unfolding_all rfl) (by with_unfolding_all rfl) (by with_unfolding_all rfl) (by with_unfolding_all rfl) (by with_unfolding_all rfl) (by with_unfolding_all rfl) rfl rfl (by with_unfolding_all rfl) rfl rfl (by with_unfolding_all rfl) rfl rfl (by with_unfolding_all rfl) rfl rfl) rfl
   (bp rfl B.range (aa (ah aU (pv 0) ad) ae)) (fun _ _ _=>bL (ah aI (ah aX (pv 1) (ay (ix_listK K) (pv 2) (ah aR (pv 4) (pv 0)) (fun _ _=>rfl))) (pv 3))))))))),?_⟩
 have p2:=pp.1
 have hP:=pm_of pp (by omega)
 refine ⟨_,rfl,_,_,rfl,rfl,1,_,rfl,⟨by decide,by decide,by omega,by omega⟩,by omega,fun a ha=>?_⟩
 have e1:rngV 1 ((L:Int)+1 - 1).toNat=(List.range L).map fun k:Nat=>1+(k:Int):=by
  unfold rngV
  rw [show ((L:Int)+1 - 1).toNat=L by omega]
 rw [e1]
 have Ga:=Same.new ha (.lst (((List.range L).map fun k:Nat=>1+(k:Int)).map V.int))
 refine ⟨_,rfl,_,rfl,a,_,L,p,rfl,upd_same,L5,by omega,by omega,fun l H2 l0 S2 hl2=>?_⟩
 have rg:=pmd_rng (show 1 < p by omega) (fun k:Nat=>1+(k:Int)) L
 have dv:=pmd_dvd p (fun k:Nat=>1+(k:Int)) L
 rw [pr_fac] at dv
 have ne0:pmd p (fun k:Nat=>1+(k:Int)) L ≠ 0:=fun z=>by
  rw [z] at dv
  obtain ⟨m,hm⟩:=dv
  exact fac_ne hP L Lp ⟨-m,by rw [Int.mul_neg]; omega⟩
 refine ⟨_,rfl,l,_,_,.int (pmd p (fun k:Nat=>1+(k:Int)) L),rfl,rfl,SqL.of hl2,by rw [prL_succ]; exact atI_last _ _,_,rfl,_,p,rfl,pp,p9,by omega,rg.2,fun g g0 g1 hg=>?_⟩
 have SH2:=Ga.trans S2
 refine ⟨_,rfl,_,rfl,by omega,by omega,fun D hD=>?_⟩
 refine cj (fun i H'=>H' D=some (.lst (((List.range i).map fun j:Nat=>(L:Int) - j).map V.int))/\Same H2 H') ⟨by rw [upd_same]; rfl,Same.new hD _⟩ ?_ ?_
 . rintro i H3 hi ⟨hD3,S3⟩
   refine ⟨_,rfl,_,rfl,_,_,rfl,rfl,_,hD3,?_,Nx.of hi ⟨?_,fun b o e=>?_⟩⟩
   . rw [List.length_map,List.length_map,List.length_range]
     exact aJ (by omega)
   . rw [upd_same,List.range_succ,List.map_append,List.map_append,Int.zero_add]
     rfl
   . rw [au (ne_of_none e hD)]
     exact S3 _ _ e
 rintro H3 ⟨hD3,S3⟩
 rw [show ((L:Int)).toNat=L from Int.toNat_natCast L] at hD3
 refine ⟨_,rfl,D,_,L,p,rfl,hD3,L5,by omega,by omega,fun t H4 t0 S4 ht4=>?_⟩
 refine ⟨_,rfl,_,_,rfl,rfl,_,rfl,by omega,by omega,fun D2 hD2=>?_⟩
 refine cj (fun i H'=>H' D2=some (.lst (((List.range i).map fun k:Nat=>g*pmd p (fun j:Nat=>(L:Int) - j) (L - k) % p).map V.int))/\Same H4 H') ⟨by rw [upd_same]; rfl,Same.new hD2 _⟩ ?_ ?_
 . rintro i H5 hi ⟨hD5,S5⟩
   have hi':i < L+1:=by omega
   have rg2:=pmd_rng (show 1 < p by omega) (fun j:Nat=>(L:Int) - j) (L - i)
   have e2:(L:Int) - (0+(i:Int))=((L - i:Nat):Int):=by omega
   refine ⟨_,rfl,_,rfl,_,rfl,_,rfl,_,_,rfl,rfl,t,_,_,.int (pmd p (fun j:Nat=>(L:Int) - j) (L - i)),rfl,rfl,SqL.of (S5 _ _ ht4),by rw [e2]; exact prL_at (by omega),_,_,rfl,rfl,.inl ⟨by omega,by omega⟩,_,rfl,_,_,rfl,rfl,(by omega),_,hD5,?_,Nx.of hi ⟨?_,fun b o e=>?_⟩⟩
   . rw [List.length_map,List.length_map,List.length_range]
     exact aJ (by omega)
   . rw [upd_same,List.range_succ,List.map_append,List.map_append]
     rfl
   . rw [au (ne_of_none e hD2)]
     exact S5 _ _ e
 rintro H5 ⟨hD5,S5⟩
 rw [show ((L:Int)+1).toNat=L+1 by omega] at hD5
 have S05:=SH2.trans (S3.trans (S4.trans S5))
 refine q D2 H5 (fun k=>g*pmd p (fun j:Nat=>(L:Int) - j) (L - k) % p) ((SH2.trans (S3.trans S4)).free hD2) S05 (fun k hk=>?_) (fun k=>⟨Int.emod_nonneg _ (by omega),Int.emod_lt_of_pos _ (by omega)⟩) hD5
 obtain ⟨m,rfl⟩:∃ m,L=k+m:=⟨L - k,by omega⟩
 rw [show k+m - k=m by omega]
 exact share_ok hg (by omega) dv (pmd_dvd p _ m) (dm p _)
def wt (p:Int) (n i:Nat):Int:=(px (i:Int) i n % p) ^ (p - 2).toNat
theorem wgt_wt {p:Int} (hp:Pm p) {n:Nat} (hn:(n:Int)<=p):Wgt p n (wt p n):=fun i hi=>by
 have h1:=own_ne hp hn hi
 obtain ⟨k,hk⟩:=dm p (px (i:Int) i n)
 have h2:¬ p ∣ px (i:Int) i n % p:=fun ⟨m,hm⟩=>h1 ⟨m - k,by grind⟩
 obtain ⟨m,hm⟩:=fermat hp h2 (Int.emod_nonneg _ (by have:=hp.1; omega))
 exact ⟨m - k*(px (i:Int) i n % p) ^ (p - 2).toNat,by unfold wt; grind⟩
def val (p:Int) (xs:List Int) (r:Int):Int:=lag (fun i=>xs.getD i 0) (wt p xs.length) xs.length r % p
theorem val_of {p t r:Int} {xs:List Int} {u:Nat->Int} (hp:Pm p) (hn:(xs.length:Int)<=p) (hu:Wgt p xs.length u) (t0:0<=t) (t1:t < p) (h:p ∣ t - lag (fun i=>xs.getD i 0) u xs.length r):t=val p xs r:=by
 have e:p ∣ t - lag (fun i=>xs.getD i 0) (wt p xs.length) xs.length r:=by
  have:=lag_same hp hn (v:=fun i=>xs.getD i 0) hu (wgt_wt hp hn) r
  have z:=Int.dvd_add h this
  have e2:t - lag (fun i=>xs.getD i 0) u xs.length r+(lag (fun i=>xs.getD i 0) u xs.length r - lag (fun i=>xs.getD i 0) (wt p xs.length) xs.length r)=t - lag (fun i=>xs.getD i 0) (wt p xs.length) xs.length r:=by omega
  rw [e2] at z
  exact z
 have:=md e
 rw [Int.emod_eq_of_lt t0 t1] at this
 exact this
theorem val_at {p:Int} {xs:List Int} {k:Nat} (hp:Pm p) (hn:(xs.length:Int)<=p) (hk:k < xs.length):val p xs k=xs.getD k 0 % p:=md (lag_at (wgt_wt hp hn) hk)
theorem sgn (m:Nat):(-1:Int) ^ m=if m % 2=1 then -1 else 1:=by
 induction m with
 | zero=>rfl
 | succ m ih =>
   rw [Int.pow_succ,ih]
   by_cases c:m % 2=1
   . rw [if_pos c,if_neg (by omega)]
     rfl
   . rw [if_neg c,if_pos (by omega)]
     rfl
theorem vb_step {p r v t s a b c d e:Int} {i m:Nat} {x y:Int} (ht:p ∣ t - s) (ha:p ∣ a - pr (fun j=>r - j) i) (hb:p ∣ b - pr (fun j=>r - (i+m:Nat)+j) m) (hc:p ∣ c - v*a*b) (hd:p ∣ d - x*y) (he:p ∣ e - (t+(if m % 2=1 then -(c*d) else c*d))) :
 p ∣ e - (s+v*px r i (i+m+1)*((-1) ^ m*(x*y))):=by
 rw [show i+m+1=i+1+m by omega,px_split,sgn]
 rw [pr_turn] at hb
 generalize pr (fun j=>r - j) i=A at *
 generalize pr (fun j=>r - (i+1+j:Nat)) m=B at *
 obtain ⟨t',ht⟩:=ht
 obtain ⟨a',ha⟩:=ha
 obtain ⟨b',hb⟩:=hb
 obtain ⟨c',hc⟩:=hc
 obtain ⟨d',hd⟩:=hd
 obtain ⟨e',he⟩:=he
 have e1:c*d - v*(A*B)*(x*y)=p*(c'*d+v*(a'*b+A*b')*d+v*A*B*d'):=by grind
 by_cases z:m % 2=1
 . rw [if_pos z] at *
   exact ⟨e'+t' - (c'*d+v*(a'*b+A*b')*d+v*A*B*d'),by grind⟩
 . rw [if_neg z] at *
   exact ⟨e'+t'+(c'*d+v*(a'*b+A*b')*d+v*A*B*d'),by grind⟩
def IntsAt (H:Hp) (a:Addr) (xs:List Int):Prop:=H a=some (.lst (xs.map V.int))∨H a=some (.tup (xs.map V.int))
theorem IntsAt.same {H H':Hp} {a:Addr} {xs:List Int} (h:IntsAt H a xs) (s:Same H H'):IntsAt H' a xs:=h.elim (fun e=>.inl (s _ _ e)) (fun e=>.inr (s _ _ e))
theorem IntsAt.seq {K:W.Frag} {H:Hp} {a:Addr} {xs:List Int} (h:IntsAt H a xs):SqL K H a (xs.map V.int)∨SqT K H a (xs.map V.int):=h.elim (fun e=>.inl (SqL.of e)) (fun e=>.inr (SqT.of e))
theorem IntsAt.ix {K:W.Frag} {H:Hp} {a:Addr} {xs:List Int} {k:Nat} {Q:VK} (h:IntsAt H a xs) (hk:k < xs.length) (q:Q (.int (xs.getD k 0)) H):rIxL K (.ref a) (.int (k:Int)) H Q∨rIxT K (.ref a) (.int (k:Int)) H Q:=by
 have e:atI (xs.map V.int) (k:Int)=some (.int (xs.getD k 0)):=cn (by rw [List.getElem?_map,List.getElem?_eq_getElem hk,List.getD_eq_getElem?_getD,List.getElem?_eq_getElem hk]; rfl)
 rcases h with h | h
 . exact .inl ⟨a,_,_,_,rfl,rfl,SqL.of h,e,q⟩
 . exact .inr ⟨a,_,_,_,rfl,rfl,SqT.of h,e,q⟩
def RowOk (xs:List Int) (p:Int):Prop:=1<=xs.length/\xs.length<=500/\(xs.length:Int)<=p/\∀ k,0<=xs.getD k 0/\xs.getD k 0 < 2 ^ 40
def spVal:Sp:=fun vs H Q _=>∃ (a:Addr) (xs:List Int) (r p:Int),vs=[.ref a,.int r,.int p]/\IntsAt H a xs/\RowOk xs p/\Pr p/\p<=999983/\0<=r/\r < p/\∀ H',Same H H'->Q (.int (val p xs r)) H'
theorem sc_value_behind:FnScope ["values", "r", "p", "last", "ahead", "behind", "shares", "total", "place", "share", "part"] ["values", "r", "p"] (ag bV):=⟨rfl,rfl,rfl,by decide +kernel,rfl,by decide +kernel,by decide +kernel⟩
theorem ok_value_behind {f:Addr} {fd:FuncData} (F:Fun K "value_behind" "value_behind" bV f fd) (B:Bl mg) (C_products:Cal P w K mg base 1 "products" ["numbers", "p"] spProd) (C_inverse_factorials:Cal P w K mg base 2 "inverse_factorials" ["last", "p"] spFacs):FnOk P w K mg base CX0 3 f fd ["values", "r", "p"] spVal:=by
 refine F.ok sc_value_behind (fun vs H Q E h=>?_) (fun cdv A outer s H vs Q E hr h=>?_)
 . obtain ⟨a,xs,r,p,rfl,_⟩:=h
   rfl
 obtain ⟨a,xs,r,p,rfl,ha,⟨x1,x5,xp,xb⟩,pp,p9,r0,r1,q⟩:=h
 refine ⟨_,(ac (ak (i:=3) sc_value_behind.nd rfl (Or.inr rfl) (ah aR (aE aB rfl B.len PySem.boot_len (aa (pv 0) ae)) ad))
  (ac (ak (i:=4) sc_value_behind.nd rfl (Or.inl rfl) (am C_products hr (by decide) rfl (aa (bQ (N:=["r"]) (ix:=[1]) rfl
   (CompScope.one (by with_unfolding_all rfl) (by decide) rfl (by decide) rfl (by decide +kernel) (by with_unfolding_all rfl) (by with_unfolding_all rfl) (by with_unfolding_all rfl) rfl rfl) rfl
   (bp rfl B.range (aa (pv 3) ae)) (fun _ _ _=>bL (ah aR (pv 1) (pv 0)))) (aa (pv 2) ae))))
  (ac (ak (i:=5) sc_value_behind.nd rfl (Or.inl rfl) (am C_products hr (by decide) rfl (aa (bQ (N:=["r", "last"]) (ix:=[1,3]) rfl
   (CompScope.two (by with_unfolding_all rfl) (by decide) rfl (by decide) rfl (by decide +kernel) (by first | exact Or.inl rfl | exact Or.inr rfl) (by with_unfolding_all rfl) (by with_unfolding_all rfl) (by with_unfolding_all rfl) (by with_unfolding_all rfl) rfl rfl (by with_unfolding_all rfl) rfl rfl) rfl
   (bp rfl B.range (aa (pv 3) ae)) (fun _ _ _=>bL (ah aU (ah aR (pv 1) (pv 2)) (pv 0)))) (aa (pv 2) ae))))
  (ac (ak (i:=6) sc_value_behind.nd rfl (Or.inl rfl) (am C_inverse_factorials hr (by decide) rfl (aa (pv 3) (aa (pv 2) ae))))
  (ac (ak (i:=7) sc_value_behind.nd rfl (Or.inl rfl) ad)
  (ac (ci PassesOwn.never rfl (bp rfl B.range (aa (ah aU (pv 3) ad) ae)) (aS (i:=8) sc_value_behind.nd rfl (Or.inl rfl)) (ac (ak (i:=9) sc_value_behind.nd rfl (Or.inl rfl) (ah aI (ah aX (ay ix_list (pv 6) (pv 8) (fun _ _=>rfl)) (ay ix_list (pv 6) (ah aR (pv 3) (pv 8)) (fun _ _=>rfl))) (pv 2)))
   (ac (ak (i:=10) sc_value_behind.nd rfl (Or.inl rfl) (ah aX (ah aI (ah aX (ah aX (ay (ix_list.or aA) (pv 0) (pv 8) (fun _ _=>rfl)) (ay ix_list (pv 4) (pv 8) (fun _ _=>rfl))) (ay ix_list (pv 5) (ah aR (pv 3) (pv 8)) (fun _ _=>rfl))) (pv 2)) (pv 9)))
   (ac (aG (aj aN (ah aI (ah aR (pv 3) (pv 8)) ad) ad (aq _)) (af (ak (i:=10) sc_value_behind.nd rfl (Or.inl rfl) (pe_un un_neg (pv 10)))) ax)
   (af (ak (i:=7) sc_value_behind.nd rfl (Or.inl rfl) (ah aI (ah aU (pv 7) (pv 10)) (pv 2))))))))
  (af (ao (pv 7))))))))),?_⟩
 have p2:=pp.1
 have p1:1 < p:=by omega
 have p0:0 < p:=by omega
 have hP:=pm_of pp (by omega)
 obtain ⟨L,hL⟩:∃ L,xs.length=L+1:=⟨xs.length - 1,by omega⟩
 have eL:(((xs.map V.int).length:Nat):Int) - 1=(L:Int):=by rw [List.length_map]; omega
 refine ⟨_,rfl,a,_,rfl,ha.seq,_,_,rfl,rfl,?_⟩
 dsimp only
 rw [eL]
 refine ⟨_,rfl,(L:Int),rfl,by omega,by omega,fun D hD=>?_⟩
 refine cj (fun i H'=>H' D=some (.lst (((List.range i).map fun j:Nat=>r - j).map V.int))/\Same H H') ⟨by rw [upd_same]; rfl,Same.new hD _⟩ ?_ ?_
 . rintro i H3 hi ⟨hD3,S3⟩
   refine ⟨_,rfl,_,rfl,_,_,rfl,rfl,_,hD3,?_,Nx.of hi ⟨?_,fun b o e=>?_⟩⟩
   . rw [List.length_map,List.length_map,List.length_range]
     exact aJ (by omega)
   . rw [upd_same,List.range_succ,List.map_append,List.map_append,Int.zero_add]
     rfl
   . rw [au (ne_of_none e hD)]
     exact S3 _ _ e
 rintro H1 ⟨hD1,S1⟩
 rw [show ((L:Int)).toNat=L from Int.toNat_natCast L] at hD1
 refine ⟨_,rfl,D,_,L,p,rfl,hD1,by omega,p1,by omega,fun la H2 la0 S2 hla=>?_⟩
 refine ⟨_,rfl,(L:Int),rfl,by omega,by omega,fun D2 hD2=>?_⟩
 refine cj (fun i H'=>H' D2=some (.lst (((List.range i).map fun j:Nat=>r - (L:Int)+j).map V.int))/\Same H2 H') ⟨by rw [upd_same]; rfl,Same.new hD2 _⟩ ?_ ?_
 . rintro i H3 hi ⟨hD3,S3⟩
   refine ⟨_,rfl,_,rfl,_,_,rfl,rfl,_,rfl,_,_,rfl,rfl,_,hD3,?_,Nx.of hi ⟨?_,fun b o e=>?_⟩⟩
   . rw [List.length_map,List.length_map,List.length_range]
     exact aJ (by omega)
   . rw [upd_same,List.range_succ,List.map_append,List.map_append,Int.zero_add]
     rfl
   . rw [au (ne_of_none e hD2)]
     exact S3 _ _ e
 rintro H3 ⟨hD3,S3⟩
 rw [show ((L:Int)).toNat=L from Int.toNat_natCast L] at hD3
 refine ⟨_,rfl,D2,_,L,p,rfl,hD3,by omega,p1,by omega,fun lb H4 lb0 S4 hlb=>?_⟩
 refine ⟨_,rfl,_,rfl,L,p,rfl,by omega,by omega,pp,p9,fun ls H5 sh ls0 S5 hsh hsr hls=>?_⟩
 have S25:=S3.trans (S4.trans S5)
 have S05:=S1.trans (S2.trans S25)
 have hla5:=S25 _ _ hla
 have hlb5:=S5 _ _ hlb
 have ha5:=ha.same S05
 have hW:=wgt_fac hsh
 refine ⟨_,rfl,_,_,rfl,rfl,_,rfl,by omega,by omega,for_range (fun i σ H'=>∃ (t:Int) (x8 x9 x10:Option V),σ=[some (.ref a),some (.int r),some (.int p),some (.int L),some (.ref la),some (.ref lb),some (.ref ls),some (.int t),x8,x9,x10]/\0<=t/\t < p/\p ∣ t - sm (fun i=>xs.getD i 0*px r i (L+1)*((-1) ^ (L - i)*(sh i*sh (L - i)))) i/\H'=H5)
  ⟨0,_,_,_,rfl,by decide,p0,⟨0,by simp [sm]⟩,rfl⟩ ?_ ?_⟩
 . rintro i σ H6 hi ⟨t,x8,x9,x10,rfl,t0,t1,td,rfl⟩
   have hi':i < L+1:=by omega
   obtain ⟨m,hm⟩:∃ m,L=i+m:=⟨L - i,by omega⟩
   have e0:(0:Int)+(i:Int)=(i:Int):=Int.zero_add _
   have e1:(L:Int) - (0+(i:Int))=(m:Int):=by omega
   have r1':=hsr i
   have r2':=hsr m
   have ar:=pmd_rng p1 (fun j:Nat=>r - j) i
   have br:=pmd_rng p1 (fun j:Nat=>r - (L:Int)+j) m
   have xi:=xb i
   have m1:∀ z:Int,0<=z % p:=fun z=>Int.emod_nonneg _ (by omega)
   have m2:∀ z:Int,z % p < p:=fun z=>Int.emod_lt_of_pos _ p0
   refine ⟨_,rfl,_,rfl,ls,_,_,.int (sh i),rfl,rfl,SqL.of hls,by rw [e0]; exact map_at hi',_,rfl,_,rfl,_,rfl,_,_,rfl,rfl,ls,_,_,.int (sh m),rfl,rfl,SqL.of hls,by rw [e1]; exact map_at (by omega),_,_,rfl,rfl,.inl ⟨by omega,by omega⟩,_,rfl,_,_,rfl,rfl,p0,?_⟩
   refine ⟨_,rfl,_,rfl,?_⟩
   rw [e0]
   refine ha5.ix (by omega) ?_
   refine ⟨_,rfl,_,rfl,la,_,_,.int (pmd p (fun j:Nat=>r - j) i),rfl,rfl,SqL.of hla5,prL_at hi',_,_,rfl,rfl,.inl ⟨by omega,by omega⟩,?_⟩
   refine ⟨_,rfl,_,rfl,_,rfl,_,_,rfl,rfl,lb,_,_,.int (pmd p (fun j:Nat=>r - (L:Int)+j) m),rfl,rfl,SqL.of hlb5,by rw [← e0,e1]; exact prL_at (by omega),_,_,rfl,rfl,.inr ⟨by omega,by omega⟩,_,rfl,_,_,rfl,rfl,p0,?_⟩
   have s1:=m1 (sh i*sh m)
   have s2:=m2 (sh i*sh m)
   refine ⟨_,rfl,_,_,rfl,rfl,.inr ⟨by omega,by omega⟩,?_⟩
   refine ⟨_,rfl,_,rfl,_,_,rfl,rfl,_,_,rfl,rfl,(by show (0:Int) < _; decide),rfl,_,rfl,?_⟩
   have fin:∀ z:Int,z=(if m % 2=1 then -(xs.getD i 0*pmd p (fun j:Nat=>r - j) i*pmd p (fun j:Nat=>r - (L:Int)+j) m % p*(sh i*sh m % p)) else xs.getD i 0*pmd p (fun j:Nat=>r - j) i*pmd p (fun j:Nat=>r - (L:Int)+j) m % p*(sh i*sh m % p)) ->
    p ∣ (t+z) % p - sm (fun i=>xs.getD i 0*px r i (L+1)*((-1) ^ (L - i)*(sh i*sh (L - i)))) (i+1):=fun z hz=>by
    show p ∣ _ - (sm _ i+xs.getD i 0*px r i (L+1)*((-1) ^ (L - i)*(sh i*sh (L - i))))
    have em:L - i=m:=by omega
    have hb:p ∣ pmd p (fun j:Nat=>r - (L:Int)+j) m - pr (fun j=>r - (i+m:Nat)+j) m:=by
     rw [← hm]
     exact pmd_dvd p _ m
    subst hz
    rw [em]
    have el:L+1=i+m+1:=by omega
    rw [el] at td ⊢
    exact vb_step td (pmd_dvd p _ i) hb (dm p _) (dm p _) (dm p _)
   by_cases c:m % 2=1
   . refine be (congrArg V.int (by omega)) ?_
     refine ⟨_,rfl,_,rfl,?_⟩
     refine ⟨_,rfl,_,rfl,_,_,rfl,rfl,_,rfl,_,_,rfl,rfl,p0,?_⟩
     exact ⟨_,_,_,_,rfl,m1 _,m2 _,fin _ (by rw [if_pos c]),rfl⟩
   . refine aw (fun z=>c (by have:=V.int.inj z; omega)) ?_
     refine ⟨_,rfl,_,rfl,_,_,rfl,rfl,_,rfl,_,_,rfl,rfl,p0,?_⟩
     exact ⟨_,_,_,_,rfl,m1 _,m2 _,fin _ (by rw [if_neg c]),rfl⟩
 . rintro σ H6 ⟨t,x8,x9,x10,rfl,t0,t1,td,rfl⟩
   rw [show ((L:Int)+1).toNat=L+1 by omega] at td
   rw [← hL] at hW
   have e:=val_of (r:=r) hP xp hW t0 t1 (by
    unfold lag
    rw [hL]
    exact td)
   rw [e]
   exact ⟨_,rfl,q H6 S05⟩
theorem sc_value_at:FnScope ["values", "r", "p", "place"] ["values", "r", "p"] (ag s_value_at):=⟨rfl,rfl,rfl,by decide +kernel,rfl,by decide +kernel,by decide +kernel⟩
theorem ok_value_at {f:Addr} {fd:FuncData} (F:Fun K "value_at" "value_at" s_value_at f fd) (B:Bl mg) (C_value_behind:Cal P w K mg base 3 "value_behind" ["values", "r", "p"] spVal):FnOk P w K mg base CX0 4 f fd ["values", "r", "p"] spVal:=by
 refine F.ok sc_value_at (fun vs H Q E h=>?_) (fun cdv A outer s H vs Q E hr h=>?_)
 . obtain ⟨a,xs,r,p,rfl,_⟩:=h
   rfl
 obtain ⟨a,xs,r,p,rfl,ha,ok,pp,p9,r0,r1,q⟩:=h
 refine ⟨_,(ac (ak (i:=3) sc_value_at.nd rfl (Or.inl rfl) (ah aI (pv 1) (pv 2)))
  (ac (aG (aj op_lt (pv 3) (aE aB rfl B.len PySem.boot_len (aa (pv 0) ae)) (aq _)) (af (ao (ah aI (ay (ix_list.or aA) (pv 0) (pv 3) (fun _ _=>rfl)) (pv 2)))) ax)
  (af (ao (am C_value_behind hr (by decide) rfl (aa (pv 0) (aa (pv 3) (aa (pv 2) ae)))))))),?_⟩
 have p0:0 < p:=by omega
 have hP:=pm_of pp (by omega)
 have er:r % p=r:=Int.emod_eq_of_lt r0 r1
 refine ⟨_,rfl,_,rfl,_,_,rfl,rfl,p0,?_⟩
 dsimp only
 rw [er]
 refine ⟨_,rfl,_,rfl,a,_,rfl,ha.seq,_,_,rfl,rfl,_,rfl,?_⟩
 refine ite2 (fun c=>?_) (fun c=>?_)
 . have c':=of_decide_eq_true c
   rw [List.length_map] at c'
   obtain ⟨k,rfl⟩:∃ k:Nat,r=(k:Int):=⟨r.toNat,by omega⟩
   refine ⟨_,rfl,_,rfl,?_⟩
   refine ha.ix (by omega) ?_
   refine ⟨_,rfl,_,_,rfl,rfl,p0,?_⟩
   show Q (.int (xs.getD k 0 % p)) H
   rw [← val_at hP ok.2.2.1 (by omega)]
   exact q H (Same.refl _)
 . exact ⟨_,rfl,_,rfl,_,rfl,a,xs,r,p,rfl,ha,ok,pp,p9,r0,r1,q⟩
theorem IntsAt.sqB {K:W.Frag} {H:Hp} {a:Addr} {xs:List Int} (h:IntsAt H a xs):∃ c,SqB K c H a (xs.map V.int):=h.elim (fun e=>⟨true,SqL.of e⟩) (fun e=>⟨false,SqT.of e⟩)
def hor (s p:Int):List Int->Int
 | []=>0
 | a::r=>(hor s p r*s+a) % p
theorem hor_rng {s p:Int} (hp:0 < p):∀ ns,0<=hor s p ns/\hor s p ns < p
 | []=>⟨Int.le_refl 0,hp⟩
 | a::r=>⟨Int.emod_nonneg _ (by omega),Int.emod_lt_of_pos _ hp⟩
def spMix (C:Addr):Sp:=fun vs H Q _=>∃ (g a b d l:Addr) (ns:List Int) (s p:Int),vs=[.ref g,.ref l,.int s]/\GameAt C H g a b d p/\0 < p/\p < 2 ^ 40/\IntsAt H l ns/\Q (.int (hor s p ns)) H
theorem sc_gmix:FnScope ["self", "numbers", "s", "total", "number"] ["self", "numbers", "s"] (ag s_gmix):=⟨rfl,rfl,rfl,by decide +kernel,rfl,by decide +kernel,by decide +kernel⟩
theorem ok_gmix {f C:Addr} {fd:FuncData} (F:Fun K "mix" "Game.mix" s_gmix f fd) (T:GTxt K mg C) (hrev:mg "reversed" = none):FnOk P w K mg base CX0 1 f fd ["self", "numbers", "s"] (spMix C):=by
 refine F.ok sc_gmix (fun vs H Q E h=>?_) (fun cdv A outer s H vs Q E hr h=>?_)
 . obtain ⟨g,a,b,d,l,ns,s,p,rfl,_⟩:=h
   rfl
 obtain ⟨g,a,b,d,l,ns,s,p,rfl,⟨dx,hg⟩,p0,p40,hl,q⟩:=h
 refine ⟨_,(ac (ak (i:=3) sc_gmix.nd rfl (Or.inl rfl) ad)
  (ac (ci PassesOwn.never rfl (pi_revb rfl hrev (pv 1)) (aS (i:=4) sc_gmix.nd rfl (Or.inl rfl)) (af (ak (i:=3) sc_gmix.nd rfl (Or.inl rfl) (ah aI (ah aU (ah aX (pv 3) (pv 2)) (pv 4)) (aH (pv 0) rfl)))))
  (af (ao (pv 3))))),?_⟩
 obtain ⟨c,hl⟩:=hl.sqB (K:=K)
 refine ⟨_,rfl,c,l,_,rfl,hl,for_revb (K:=K) (c:=c) (xs:=ns.map V.int) (fun i σ H'=>∃ (x4:Option V) (t:Int),σ=[some (.ref g),some (.ref l),some (.int s),some (.int t),x4]/\t=hor s p (ns.drop (ns.length - i))/\H'=H)
  ⟨_,0,rfl,by rw [Nat.sub_zero,List.drop_length]; rfl,rfl⟩ (fun i σ H' _ hst=>by obtain ⟨_,_,_,_,h⟩:=hst; subst h; exact hl) ?_ ?_⟩
 . rintro i z σ H1 hi hz ⟨x4,t,rfl,rfl,rfl⟩
   rw [List.length_map] at hi
   rw [← List.map_reverse,List.getElem?_map] at hz
   obtain ⟨x,hx,rfl⟩:=Option.map_eq_some_iff.mp hz
   rw [List.getElem?_reverse hi] at hx
   have hr2:=hor_rng (s:=s) p0 (ns.drop (ns.length - i))
   refine ⟨_,rfl,_,rfl,_,_,rfl,rfl,.inl ⟨by omega,by omega⟩,_,rfl,_,_,rfl,rfl,_,rfl,g,C,dx,_,_,rfl,hg,T.cl,T.nF,gf_fi ..,_,_,rfl,rfl,p0,?_⟩
   refine ⟨_,_,rfl,?_,rfl⟩
   have hj:ns.length - 1 - i < ns.length:=by omega
   have ed:ns.drop (ns.length - (i+1))=x::ns.drop (ns.length - i):=by
    have e1:ns.length - (i+1)=ns.length - 1 - i:=by omega
    have e2:ns.length - i=ns.length - 1 - i+1:=by omega
    rw [e1,e2,List.drop_eq_getElem_cons hj]
    congr 1
    rw [List.getElem?_eq_getElem hj] at hx
    exact Option.some.inj hx
   rw [ed]
   rfl
 . rintro σ H1 ⟨x4,t,rfl,rfl,rfl⟩
   rw [List.length_map,Nat.sub_self,List.drop_zero]
   exact ⟨_,rfl,q⟩
def spWAt (C:Addr):Sp:=fun vs H Q _=>∃ (g a b d r:Addr) (ns:List Str) (tv:List V) (ts:List Tr) (pt:List Int) (s p:Int),vs=[.ref g,.ref r,.int s]/\GameAt C H g a b d p/\1 < p/\p < 2 ^ 40/\H a=some (.tup (ns.map V.str))/\H b=some (.tup tv)/\TreesAt H tv ts/\ts.length<=10/\(∀ t ∈ ts,t.ok ns/\t.depth<=10) /\
 H r=some (.tup (pt.map V.int))/\pt.length=ns.length/\PtOk pt p/\∀ H',Same H H'->Q (.int (hor s p (ts.map fun t=>t.worth ns pt p))) H'
theorem sc_gworth:FnScope ["self", "point", "s"] ["self", "point", "s"] (ag s_gworth):=⟨rfl,rfl,rfl,by decide +kernel,rfl,by decide +kernel,by decide +kernel⟩
theorem ok_gworth {f fm C:Addr} {fd fdm:FuncData} (F:Fun K "worth_at" "Game.worth_at" s_gworth f fd) (T:GTxt K mg C) (mM:Meth K C "mix" fm) (GM:FnOk P w K mg base CX0 1 fm fdm ["self", "numbers", "s"] (spMix C)) (bM:Binds K fdm ["self", "numbers", "s"] []) (C_worth_of:Cal P w K mg base 12 "worth_of" ["tree", "switches", "point", "p"] (spWorth 10)):FnOk P w K mg base CX0 13 f fd ["self", "point", "s"] (spWAt C):=by
 refine F.ok sc_gworth (fun vs H Q E h=>?_) (fun cdv A outer s H vs Q E hr h=>?_)
 . obtain ⟨g,a,b,d,r,ns,tv,ts,pt,s,p,rfl,_⟩:=h
   rfl
 obtain ⟨g,a,b,d,r,ns,tv,ts,pt,s,p,rfl,⟨dx,hg⟩,p1,p40,ha,hb,TS,t10,tok,hr0,pl,po,q⟩:=h
 have hr1:Room 1 _:=hr.mono (by decide)
 refine ⟨_,(af (ao (pe_meth (pv 0) T.cl mM GM hr1 bM .nil pass0 (aa (bQ (N:=["self", "point"]) (ix:=[0,1]) rfl
  (CompScope.two (by with_unfolding_all rfl) (by decide) rfl (by decide) rfl (by decide +kernel) (by first | exact Or.inl rfl | exact Or.inr rfl) (by with_unfolding_all rfl) (by with_unfolding_all rfl) (by with_unfolding_all rfl) (by with_unfolding_all rfl) rfl rfl (by with_unfolding_all rfl) rfl rfl) rfl
  (pi_tup (aH (pv 0) rfl)) (fun _ _ _=>bL (am C_worth_of hr (by decide) rfl (aa (pv 0) (aa (pe_fldK K (pv 1)) (aa (pv 2) (aa (pe_fldK K (pv 1)) ae))))))) (aa (pv 2) ae))))),?_⟩
 have vl:=TS.length
 refine ⟨_,rfl,g,dx,_,rfl,hg,gf_no _ _ _ _ (by decide +kernel) (by decide +kernel) (by decide +kernel) (by decide +kernel),?_⟩
 refine ⟨_,rfl,g,C,dx,_,_,rfl,hg,T.cl,T.nT,gf_tr ..,b,rfl,⟨_,SqT.of hb⟩,fun D hD=>?_⟩
 refine comp_tup (K:=K) (xs:=tv) (fun i H'=>H' D=some (.lst (((ts.take i).map fun t=>t.worth ns pt p).map V.int))/\Same H H') ⟨by rw [upd_same]; rfl,Same.new hD _⟩ (fun i H' _ h=>SqT.of (h.2 _ _ hb)) ?_ ?_
 . rintro i z H2 hz ⟨hl,S2⟩
   obtain ⟨t,ht,Tt⟩:=TS.get hz
   obtain ⟨tk,td⟩:=tok t (List.mem_of_getElem? ht)
   have hi:i < tv.length:=(List.getElem?_eq_some_iff.mp hz).1
   refine ⟨_,rfl,_,rfl,g,C,dx,_,_,rfl,S2 _ _ hg,T.cl,T.nS,gf_sw ..,_,rfl,_,rfl,g,C,dx,_,_,rfl,S2 _ _ hg,T.cl,T.nF,gf_fi ..,z,t,a,r,ns,pt,p,rfl,Tt.mono (keepT_same S2),tk,td,.inr (S2 _ _ ha),S2 _ _ hr0,pl,p1,p40,po,?_⟩
   refine ⟨_,hl,?_,Nx.of hi ⟨?_,fun b' o' e'=>?_⟩⟩
   . rw [List.length_map,List.length_map,List.length_take]
     exact aJ (by omega)
   . rw [upd_same,List.take_add_one,ht,List.map_append,List.map_append]
     rfl
   . rw [au (ne_of_none e' hD)]
     exact S2 _ _ e'
 . rintro H2 ⟨hl,S2⟩
   rw [vl,List.take_length] at hl
   exact ⟨_,rfl,g,a,b,d,D,_,s,p,rfl,⟨dx,S2 _ _ hg⟩,by omega,p40,.inl hl,q H2 S2⟩
def Gm (CG:Addr) (H:Hp) (g:Addr) (ns:List Str) (ts:List Tr) (p:Int):Prop:=∃ (a b d:Addr) (tv:List V),GameAt CG H g a b d p/\H a=some (.tup (ns.map V.str))/\H b=some (.tup tv)/\TreesAt H tv ts/\H d=some (.lst ((ns.map (aZ ts)).map V.int))
theorem gf_game (a b:Addr) (p:Int) (d:Addr):(gf a b p d).lookup ("game" : Str)=none:=gf_no _ _ _ _ (by decide +kernel) (by decide +kernel) (by decide +kernel) (by decide +kernel)
structure GmK (ns:List Str) (ts:List Tr) (p:Int):Prop where
 pr:Pr p
 p2:2 < p
 p9:p<=999983
 n10:ns.length<=10
 t1:1<=ts.length
 t10:ts.length<=10
 tok:∀ t ∈ ts,t.ok ns/\t.wf/\t.depth<=10/\t.size<=400
 tp:(ts.length:Int)<=p
 tc:∀ t ∈ ts,∀ x ∈ ns,(t.names.count x:Int) < p
theorem GmK.deg {ns:List Str} {ts:List Tr} {p:Int} (k:GmK ns ts p):∀ x ∈ ns,0<=aZ ts x/\aZ ts x < p:=fun x hx=>by
 have t0:ts ≠ []:=fun z=>by have:=k.t1; rw [z] at this; cases this
 refine ⟨?_,degOf_lt t0 fun t ht=>k.tc t ht x hx⟩
 have:=maxD_mem (ns:=ts.map fun t=>(t.names.count x:Int)) (by simpa using t0)
 obtain ⟨t,_,e⟩:=List.mem_map.mp this
 unfold aZ
 rw [← e]
 omega
theorem ints_at {xs:List Int} {j:Nat} (h:j < xs.length):atI (xs.map V.int) (j:Int)=some (.int (xs.getD j 0)):=cn (by rw [List.getElem?_map,List.getElem?_eq_getElem h,List.getD_eq_getElem?_getD,List.getElem?_eq_getElem h]; rfl)
theorem ne_feed {H:Hp} {f b:Addr} {o:HO} (F:FeedAt H f) (h:H b=some o) (n:∀ ys,o ≠ .lst ys):b ≠ f:=fun z=>by
 obtain ⟨u,t,e,_⟩:=F
 rw [z,e] at h
 exact n _ (Option.some.inj h).symm
theorem eqvAll_ints:∀ ns ms:List Int,PyData.eqvAll (ns.map PyData.int) (ms.map PyData.int)=decide (ns=ms)
 | [],[]=>rfl
 | [],_::_=>rfl
 | _::_,[]=>rfl
 | a::r,b::t=>by
   simp only [List.map_cons,PyData.eqvAll,PyData.eqv,eqvAll_ints r t]
   by_cases h1:a=b <;> by_cases h2:r=t <;> simp [h1,h2]
theorem eqv_li (ns ms:List Int):PyData.eqv (.list (ns.map PyData.int)) (.list (ms.map PyData.int))=decide (ns=ms):=by simp [PyData.eqv,eqvAll_ints]
theorem shaped_li (ns:List Int):SeqAt.shaped (.list (ns.map PyData.int))=true:=by
 simp [SeqAt.shaped,PyData.canLay0,PyData.depth,W.ke_canLayAll0,W.ke_depthAll]
def joinB (o:Str) (p q:Bool):Bool:=if o = "and" then p && q else if o = "or" then p || q else if o = "odd" then p != q else p == q
def Tr.holds (ns:List Str) (st:List Int):Tr->Bool
 | .is x=>match cp x ns with | some j=>decide (st.getD j 0=1) | none=>false
 | .yes=>true
 | .no=>false
 | .not a=>!a.holds ns st
 | .bin o a b=>joinB o (a.holds ns st) (b.holds ns st)
def spJoined:Sp:=fun vs H Q _=>∃ (o:Str) (p q:Bool),vs=[.str o,.bl p,.bl q]/\Q (.bl (joinB o p q)) H
theorem sc_joined:FnScope ["word", "first", "second"] ["word", "first", "second"] (ag s_joined):=⟨rfl,rfl,rfl,by decide +kernel,rfl,by decide +kernel,by decide +kernel⟩
theorem ok_joined {f:Addr} {fd:FuncData} (F:Fun K "joined" "joined" s_joined f fd):FnOk P w K mg base CX0 1 f fd ["word", "first", "second"] spJoined:=by
 refine F.ok sc_joined (fun vs H Q E h=>?_) (fun cdv A outer s H vs Q E hr h=>?_)
 . obtain ⟨o,p,q,rfl,_⟩:=h
   rfl
 obtain ⟨o,p,q,rfl,k⟩:=h
 refine ⟨_,(ac (aG (aj aN (pv 0) aD (aq _)) (af (ao (pe_and (pv 1) (pe_one (pv 2))))) ax)
  (ac (aG (aj aN (pv 0) aD (aq _)) (af (ao (pe_or (pv 1) (pe_one (pv 2))))) ax)
  (ac (aG (aj aN (pv 0) aD (aq _)) (af (ao (bH op_ne (pv 1) (pv 2) (aq _)))) ax)
  (af (ao (bH aN (pv 1) (pv 2) (aq _))))))),?_⟩
 refine ⟨_,rfl,rfl,_,rfl,?_⟩
 by_cases c1:V.str o=V.str "and"
 . refine be c1 ?_
   have e:joinB o p q=(p && q):=by unfold joinB; rw [if_pos (str_inj c1)]
   rw [e] at k
   refine ⟨_,rfl,p,rfl,?_⟩
   cases p with
   | true=>exact iteT ⟨_,rfl,by simpa using k⟩
   | false=>exact iteF (by simpa using k)
 refine aw c1 ?_
 have n1:¬ o = "and" := fun z=>c1 (by rw [z])
 refine ⟨_,rfl,rfl,_,rfl,?_⟩
 by_cases c2:V.str o=V.str "or"
 . refine be c2 ?_
   have e:joinB o p q=(p || q):=by unfold joinB; rw [if_neg n1,if_pos (str_inj c2)]
   rw [e] at k
   refine ⟨_,rfl,p,rfl,?_⟩
   cases p with
   | true=>exact iteT (by simpa using k)
   | false=>exact iteF ⟨_,rfl,by simpa using k⟩
 refine aw c2 ?_
 have n2:¬ o = "or" := fun z=>c2 (by rw [z])
 refine ⟨_,rfl,rfl,_,rfl,?_⟩
 by_cases c3:V.str o=V.str "odd"
 . refine be c3 ?_
   have e:joinB o p q=(p != q):=by unfold joinB; rw [if_neg n1,if_neg n2,if_pos (str_inj c3)]
   rw [e] at k
   refine ⟨_,rfl,_,rfl,rfl,?_⟩
   have e2:(!decide (V.bl p=V.bl q))=(p != q):=by cases p <;> cases q <;> decide
   show Q (.bl (!decide (V.bl p=V.bl q))) H
   rw [e2]
   exact k
 refine aw c3 ?_
 have n3:¬ o = "odd" := fun z=>c3 (by rw [z])
 have e:joinB o p q=(p == q):=by unfold joinB; rw [if_neg n1,if_neg n2,if_neg n3]
 rw [e] at k
 refine ⟨_,rfl,_,rfl,rfl,?_⟩
 have e2:decide (V.bl p=V.bl q)=(p == q):=by cases p <;> cases q <;> decide
 show Q (.bl (decide (V.bl p=V.bl q))) H
 rw [e2]
 exact k
def spHolds (n:Nat):Sp:=fun vs H Q _=>∃ (v:V) (t:Tr) (a b:Addr) (ns:List Str) (st:List Int),vs=[v,.ref a,.ref b]/\TreeAt H v t/\t.ok ns/\t.depth<=n/\NamesAt H a ns/\H b=some (.tup (st.map V.int))/\st.length=ns.length/\Q (.bl (t.holds ns st)) H
theorem sc_holds_at:FnScope ["tree", "switches", "setting", "word", "first"] ["tree", "switches", "setting"] (ag cU):=⟨rfl,rfl,rfl,by decide +kernel,rfl,by decide +kernel,by decide +kernel⟩
theorem holds_step {n:Nat} {f:Addr} {fd:FuncData} (F:Fun K "holds_at" "holds_at" cU f fd) (C_joined:Cal P w K mg base 1 "joined" ["word", "first", "second"] spJoined) (C_holds_at:Cal P w K mg base (n+2) "holds_at" ["tree", "switches", "setting"] (spHolds n)):FnOk P w K mg base CX0 (n+3) f fd ["tree", "switches", "setting"] (spHolds (n+1)):=by
 refine F.ok sc_holds_at (fun vs H Q E h=>?_) (fun cdv A outer s H vs Q E hr h=>?_)
 . obtain ⟨v,t,a,b,ns,st,rfl,_⟩:=h
   rfl
 obtain ⟨v,t,a,b,ns,st,rfl,T,ok,dn,hN,hb,sl,k⟩:=h
 refine ⟨_,(ac (ak (i:=3) sc_holds_at.nd rfl (Or.inl rfl) (ay aA (pv 0) ad (fun _ _=>rfl)))
  (ac (aG (aj aN (pv 3) aD (aq _)) (af (ao (bH aN (ay aA (pv 2) (pe_index PySem.F.plainAttrs_list PySem.F.plainAttrs_tuple (pv 1) (aa (ay aA (pv 0) ad (fun _ _=>rfl)) ae)) (fun _ _=>rfl)) ad (aq _)))) ax)
  (ac (aG (PW.pt (pw_or (aj aN (pv 3) aD (aq _)) (pw_or1 (aj aN (pv 3) aD (aq _))))) (af (ao (bH aN (pv 3) aD (aq _)))) ax)
  (ac (ak (i:=4) sc_holds_at.nd rfl (Or.inl rfl) (am C_holds_at hr (Nat.le_refl _) rfl (aa (ay aA (pv 0) ad (fun _ _=>rfl)) (aa (pv 1) (aa (pv 2) ae)))))
  (ac (aG (aj aN (pv 3) aD (aq _)) (af (ao (pe_not (pv 4)))) ax)
  (af (ao (am C_joined hr (by omega) rfl (aa (pv 3) (aa (pv 4) (aa (am C_holds_at hr (Nat.le_refl _) rfl (aa (ay aA (pv 0) ad (fun _ _=>rfl)) (aa (pv 1) (aa (pv 2) ae)))) ae))))))))))),?_⟩
 cases T with
 | @is p x e =>
   refine ⟨_,rfl,p,_,0,_,rfl,rfl,SqT.of e,rfl,?_⟩
   refine ⟨_,rfl,rfl,_,rfl,?_⟩
   refine be rfl ?_
   obtain ⟨j,hj,jl⟩:=posOf_mem ok
   have jl':j < st.length:=by omega
   refine ⟨_,rfl,_,rfl,a,ns,rfl,hN,_,rfl,p,_,1,_,rfl,rfl,SqT.of e,rfl,rfl,x,j,rfl,hj,b,_,(j:Int),.int st[j],rfl,rfl,SqT.of hb,?_,rfl,?_⟩
   . refine cn ?_
     rw [List.getElem?_map,List.getElem?_eq_getElem jl']
     rfl
   . have e1:(Tr.is x).holds ns st=decide (V.int st[j]=V.int 1):=by
      show (match cp x ns with | some j=>decide (st.getD j 0=1) | none=>false)=_
      rw [hj]
      show decide (st.getD j 0=1)=_
      rw [List.getD_eq_getElem?_getD,List.getElem?_eq_getElem jl']
      simp
     rw [e1] at k
     exact k
 | @yes p e =>
   refine ⟨_,rfl,p,_,0,_,rfl,rfl,SqT.of e,rfl,?_⟩
   refine ⟨_,rfl,rfl,_,rfl,?_⟩
   refine aw (by decide +kernel) ?_
   refine ⟨_,rfl,rfl,_,rfl,?_⟩
   refine be rfl (iteT ?_)
   exact ⟨_,rfl,rfl,k⟩
 | @no p e =>
   refine ⟨_,rfl,p,_,0,_,rfl,rfl,SqT.of e,rfl,?_⟩
   refine ⟨_,rfl,rfl,_,rfl,?_⟩
   refine aw (by decide +kernel) ?_
   refine ⟨_,rfl,rfl,_,rfl,?_⟩
   refine aw (by decide +kernel) ?_
   refine ⟨_,rfl,rfl,_,rfl,?_⟩
   refine be rfl ?_
   refine ⟨_,rfl,rfl,?_⟩
   have e1:decide (V.str "no" = V.str "yes")=false:=by decide +kernel
   show Q (.bl (decide (V.str "no" = V.str "yes"))) H
   rw [e1]
   exact k
 | @not p u r e T1 =>
   have dp:r.depth+1<=n+1:=dn
   refine ⟨_,rfl,p,_,0,_,rfl,rfl,SqT.of e,rfl,?_⟩
   refine ⟨_,rfl,rfl,_,rfl,?_⟩
   refine aw (by decide +kernel) ?_
   refine ⟨_,rfl,rfl,_,rfl,?_⟩
   refine aw (by decide +kernel) ?_
   refine ⟨_,rfl,rfl,_,rfl,?_⟩
   refine aw (by decide +kernel) ?_
   refine ⟨_,rfl,p,_,1,_,rfl,rfl,SqT.of e,rfl,_,rfl,_,rfl,u,r,a,b,ns,st,rfl,T1,ok,by omega,hN,hb,sl,?_⟩
   refine ⟨_,rfl,rfl,_,rfl,?_⟩
   refine be rfl ?_
   exact ⟨_,rfl,_,rfl,k⟩
 | @bin p o u u2 r r2 e T1 T2 =>
   obtain ⟨ho,ok1,ok2⟩:=ok
   have dp:max r.depth r2.depth+1<=n+1:=dn
   have ne:∀ z:Str,z ∉ joinW->¬ V.str o=V.str z:=fun z hz h=>hz (str_inj h ▸ ho)
   refine ⟨_,rfl,p,_,0,_,rfl,rfl,SqT.of e,rfl,?_⟩
   refine ⟨_,rfl,rfl,_,rfl,?_⟩
   refine aw (ne _ (by decide +kernel)) ?_
   refine ⟨_,rfl,rfl,_,rfl,?_⟩
   refine aw (ne _ (by decide +kernel)) ?_
   refine ⟨_,rfl,rfl,_,rfl,?_⟩
   refine aw (ne _ (by decide +kernel)) ?_
   refine ⟨_,rfl,p,_,1,_,rfl,rfl,SqT.of e,rfl,_,rfl,_,rfl,u,r,a,b,ns,st,rfl,T1,ok1,by omega,hN,hb,sl,?_⟩
   refine ⟨_,rfl,rfl,_,rfl,?_⟩
   refine aw (ne _ (by decide +kernel)) ?_
   refine ⟨_,rfl,_,rfl,_,rfl,p,_,2,_,rfl,rfl,SqT.of e,rfl,_,rfl,_,rfl,u2,r2,a,b,ns,st,rfl,T2,ok2,by omega,hN,hb,sl,?_⟩
   exact ⟨o,_,_,rfl,k⟩
theorem holds_zero {f:Addr} {fd:FuncData}:FnOk P w K mg base CX0 2 f fd ["tree", "switches", "setting"] (spHolds 0):=by
 have no:∀ vs H Q E,¬ spHolds 0 vs H Q E:=fun vs H Q E h=>by
  obtain ⟨v,t,_,_,_,_,_,_,_,h1,_⟩:=h
  have:=t.depth_pos
  omega
 exact ⟨fun vs H Q E h=>absurd h (no vs H Q E),fun A outer s H args us vs Q E _ _ _ _ h=>absurd h (no vs H Q E)⟩
theorem ok_holds_at {f:Addr} {fd:FuncData} (F:Fun K "holds_at" "holds_at" cU f fd) (m:mg "holds_at" = some (.ref f)) (C_joined:Cal P w K mg base 1 "joined" ["word", "first", "second"] spJoined) :
 ∀ n:Nat,FnOk P w K mg base CX0 (n+2) f fd ["tree", "switches", "setting"] (spHolds n)
 | 0=>holds_zero
 | n+1=>holds_step F C_joined (Cal.of F (ok_holds_at F m C_joined n) m (fun _ _ _ _ _ _ us hl=>by obtain ⟨u0,u1,u2,rfl⟩:=len3 hl; rfl))
def TupAt (H:Hp) (v:V) (s:List Int):Prop:=∃ a,v=.ref a/\H a=some (.tup (s.map V.int))
abbrev TupsAt (H:Hp):List V->List (List Int)->Prop:=PySem.Paired (TupAt H)
def SetsAt (H:Hp) (r:Addr) (ss:List (List Int)):Prop:=∃ rs,H r=some (.lst rs)/\TupsAt H rs ss
theorem TupsAt.mono {H H':Hp} (k:∀ a xs,H a=some (.tup xs)->H' a=some (.tup xs)):∀ {rs:List V} {ss:List (List Int)},TupsAt H rs ss->TupsAt H' rs ss
 | _,_,.nil=>.nil
 | _,_,.cons ⟨a,e,h⟩ t=>.cons ⟨a,e,k _ _ h⟩ (TupsAt.mono k t)
theorem TupsAt.get {H:Hp}:∀ {rs:List V} {ss:List (List Int)} {i:Nat} {v:V},TupsAt H rs ss->rs[i]?=some v->∃ s,ss[i]?=some s/\TupAt H v s
 | _,_,_,_,.nil,h=>by simp at h
 | _,_,0,_,.cons h _,e=>by
   simp at e
   subst e
   exact ⟨_,rfl,h⟩
 | _,_,i+1,v,.cons _ t,e=>by
   obtain ⟨s,h1,h2⟩:=TupsAt.get (i:=i) t (by simpa using e)
   exact ⟨s,by simpa using h1,h2⟩
theorem keepT_but {H H':Hp} {b:Addr} {ys:List V} (s:SameBut b H H') (h:H b=some (.lst ys)∨H b=none):∀ a xs,H a=some (.tup xs)->H' a=some (.tup xs):=fun a xs e=>s a _ (fun z=>by
 rw [z] at e
 rcases h with h | h
 . rw [h] at e; cases e
 . rw [h] at e; cases e) e
theorem cat_step {K:W.Frag} {H1:Hp} {a p:Addr} {s:List Int} {z:Int} {Q:VK} (ha:H1 a=some (.tup (s.map V.int))) (hp:H1 p=some (.tup [.int z])) (hl:s.length<=100)
 (q:∀ t H2,Same H1 H2->H2 t=some (.tup ((s++[z]).map V.int))->Q (.ref t) H2):rCatT K (.ref a) (.ref p) H1 Q∨rCatT0 K (.ref a) (.ref p) H1 Q:=by
 cases s with
 | nil=>exact .inr ⟨a,p,_,rfl,rfl,SqT.of ha,SqT.of hp,q p H1 (Same.refl _) hp⟩
 | cons x r =>
   refine .inl ⟨a,p,_,_,rfl,rfl,SqT.of ha,SqT.of hp,by simp,bv (by simp at hl ⊢; omega),(fun z=>nomatch z),(fun _ t ht=>q t _ (Same.new ht _) ?_)⟩
   rw [upd_same,List.map_append]
   rfl
def spSetts:Sp:=fun vs H Q _=>∃ n:Int,vs=[.int n]/\0<=n/\n<=6/\∀ (r:Addr) (H':Hp),H r=none->Same H H'->SetsAt H' r (bm n.toNat)->Q (.ref r) H'
theorem sc_all_settings:FnScope ["n", "told", "switch", "longer", "setting"] ["n"] (ag bZ):=⟨rfl,rfl,rfl,by decide +kernel,rfl,by decide +kernel,by decide +kernel⟩
theorem ok_all_settings {f:Addr} {fd:FuncData} (F:Fun K "all_settings" "all_settings" bZ f fd) (hrange:mg "range" = none):FnOk P w K mg base CX0 1 f fd ["n"] spSetts:=by
 refine F.ok sc_all_settings (fun vs H Q E h=>?_) (fun cdv A outer s H vs Q E hr h=>?_)
 . obtain ⟨n,rfl,_⟩:=h
   rfl
 obtain ⟨n,rfl,n0,n6,q⟩:=h
 refine ⟨_,(ac (ak (i:=1) sc_all_settings.nd rfl (Or.inl rfl) (bi (aa (bu ae) ae)))
  (ac (ci PassesOwn.never rfl (bp rfl hrange (aa (pv 0) ae)) (aS (i:=2) sc_all_settings.nd rfl (Or.inl rfl)) (ac (ak (i:=3) sc_all_settings.nd rfl (Or.inl rfl) (bi ae))
   (ac (ci PassesOwn.never rfl (cN (pv 1)) (aS (i:=4) sc_all_settings.nd rfl (Or.inl rfl)) (ac (dc (pe_bm PySem.F.plainAttrs_list PySem.F.slot_list_append PySem.F.type_list_append cI (pv 3) (aa (ah (op_catT.or op_catT0) (pv 4) (bu (aa ad ae))) ae)))
    (af (dc (pe_bm PySem.F.plainAttrs_list PySem.F.slot_list_append PySem.F.type_list_append cI (pv 3) (aa (ah (op_catT.or op_catT0) (pv 4) (bu (aa ad ae))) ae))))))
   (af (ak (i:=1) sc_all_settings.nd rfl (Or.inl rfl) (pv 3))))))
  (af (ao (pv 1))))),?_⟩
 refine ⟨(by show 0<=sizeLine; decide),fun p hp=>?_⟩
 refine ⟨(by show 1<=sizeLine; decide),fun a ha=>?_⟩
 have np:p ≠ a:=fun z=>by
  subst z
  rw [upd_same] at ha
  cases ha
 have ha0:H a=none:=(Same.new hp _).free ha
 refine ⟨_,rfl,n,rfl,by omega,by omega,for_range (fun i σ H'=>∃ (a:Addr) (x2 x3 x4:Option V),σ=[some (.int n),some (.ref a),x2,x3,x4]/\H a=none/\Same H H'/\SetsAt H' a (bm i))
  ⟨a,_,_,_,rfl,ha0,(Same.new hp _).trans (Same.new ha _),[.ref p],upd_same,.cons ⟨p,rfl,by rw [au np,upd_same]; rfl⟩ .nil⟩ ?_ ?_⟩
 . rintro i σ H' hi ⟨a,x2,x3,x4,rfl,a0,s0,rs,hrs,T⟩
   have i6:i < 6:=by omega
   have sl:=setts_len i
   have s64:=pow_le_64 (n:=i) (by omega)
   refine ⟨(by show 0<=sizeLine; decide),fun b hb=>?_⟩
   have ab:a ≠ b:=ne_of_none hrs hb
   refine ⟨_,rfl,a,rfl,⟨_,SqL.of (by rw [au ab]; exact hrs)⟩,for_list (K:=K) (xs:=rs) (fun j σ H2=>∃ (x4:Option V) (bs:List V),σ=[some (.int n),some (.ref a),some (.int (0+(i:Int))),some (.ref b),x4]/\SameBut b H' H2/\H2 b=some (.lst bs)/\TupsAt H2 bs (((bm i).take j).flatMap fun s=>[s++[0],s++[1]]))
    ⟨_,[],rfl,SameBut.upd _,upd_same,.nil⟩ (fun j σ H2 _ hst=>by obtain ⟨_,_,_,sb,_⟩:=hst; exact SqL.of (sb a _ ab hrs)) ?_ ?_⟩
   . rintro j y σ H2 hj ⟨x4,bs,rfl,sb,hbs,TB⟩
     have T2:TupsAt H2 rs (bm i):=T.mono (keepT_but (ys:=[]) sb (.inr hb))
     obtain ⟨s,hs,t,rfl,ht⟩:=T2.get hj
     have hsm:s ∈ bm i:=List.mem_of_getElem? hs
     have hsl:=cM i s hsm
     have hbl:=TB.length
     rw [flat2_len,List.length_take] at hbl
     refine ⟨_,rfl,.inl ⟨rfl,_,SqL.of hbs⟩,?_⟩
     refine ⟨_,rfl,(by show 1<=sizeLine; decide),fun p1 hp1=>?_⟩
     have S1:Same H2 (upd H2 p1 (.tup [.int 0])):=Same.new hp1 _
     refine cat_step (s:=s) (z:=0) (S1 _ _ ht) upd_same (by omega) fun t1 H3 S3 e3=>?_
     have S13:Same H2 H3:=S1.trans S3
     refine ⟨b,bs,_,rfl,rfl,S13 _ _ hbs,aJ (by omega),?_⟩
     have K4:=da (H:=H3) (b:=b) (ys:=bs) (zs:=bs++[.ref t1]) (S13 _ _ hbs)
     have e4:=K4 _ _ e3
     have t4:=K4 _ _ (S13 _ _ ht)
     refine ⟨_,rfl,.inl ⟨rfl,_,SqL.of upd_same⟩,?_⟩
     refine ⟨_,rfl,(by show 1<=sizeLine; decide),fun p2 hp2=>?_⟩
     have S4:Same (upd H3 b (.lst (bs++[.ref t1]))) (upd (upd H3 b (.lst (bs++[.ref t1]))) p2 (.tup [.int 1])):=Same.new hp2 _
     refine cat_step (s:=s) (z:=1) (S4 _ _ t4) upd_same (by omega) fun t2 H5 S5 e5=>?_
     have S45:=S4.trans S5
     have hb5:H5 b=some (.lst (bs++[.ref t1])):=S45 _ _ upd_same
     refine ⟨b,bs++[.ref t1],_,rfl,rfl,hb5,aJ (by rw [List.length_append,List.length_singleton]; omega),?_⟩
     have K6:=da (H:=H5) (b:=b) (ys:=bs++[.ref t1]) (zs:=bs++[.ref t1]++[.ref t2]) hb5
     refine ⟨_,bs++[.ref t1]++[.ref t2],rfl,?_,upd_same,?_⟩
     . have q1:SameBut b H' H3:=sb.trans (SameBut.of S13)
       have q2:SameBut b H' H5:=(q1.trans (SameBut.upd _)).trans (SameBut.of S45)
       exact q2.trans (SameBut.upd _)
     . have hbase:TupsAt (upd H5 b (.lst (bs++[.ref t1]++[.ref t2]))) bs (((bm i).take j).flatMap fun s=>[s++[0],s++[1]]) :=
        TB.mono fun a xs e=>K6 _ _ (S45 _ _ (K4 _ _ (S13 _ _ e)))
       rw [List.take_add_one,hs,List.flatMap_append]
       have e:((some s).toList.flatMap fun s:List Int=>[s++[0],s++[1]])=[s++[0]]++[s++[1]]:=by simp
       rw [e,← List.append_assoc]
       exact (hbase.snoc ⟨t1,rfl,K6 _ _ (S45 _ _ e4)⟩).snoc ⟨t2,rfl,K6 _ _ e5⟩
   . rintro σ H2 ⟨x4,bs,rfl,sb,hbs,TB⟩
     have rl:=T.length
     rw [rl,List.take_length] at TB
     exact ⟨_,rfl,b,_,_,_,rfl,s0.free hb,s0.but (s0.free hb) sb,bs,hbs,TB⟩
 . rintro σ H' ⟨a,x2,x3,x4,rfl,a0,s0,S⟩
   exact ⟨_,rfl,q a H' a0 s0 S⟩
def cnt (t:Tr) (ns:List Str):Nat:=((bm ns.length).filter fun st=>t.holds ns st).length
def spCount:Sp:=fun vs H Q _=>∃ (v:V) (t:Tr) (a:Addr) (ns:List Str),vs=[v,.ref a]/\TreeAt H v t/\t.ok ns/\t.depth<=12/\NamesAt H a ns/\ns.length<=6/\∀ H',Same H H'->Q (.int (cnt t ns:Int)) H'
theorem sc_count_of:FnScope ["tree", "switches", "holding"] ["tree", "switches"] (ag s_count_of):=⟨rfl,rfl,rfl,by decide +kernel,rfl,by decide +kernel,by decide +kernel⟩
theorem ok_count_of {f:Addr} {fd:FuncData} (F:Fun K "count_of" "count_of" s_count_of f fd) (hlen:mg "len" = none) (C_all_settings:Cal P w K mg base 1 "all_settings" ["n"] spSetts) (C_holds_at:Cal P w K mg base 14 "holds_at" ["tree", "switches", "setting"] (spHolds 12)):FnOk P w K mg base CX0 15 f fd ["tree", "switches"] spCount:=by
 refine F.ok sc_count_of (fun vs H Q E h=>?_) (fun cdv A outer s H vs Q E hr h=>?_)
 . obtain ⟨v,t,a,ns,rfl,_⟩:=h
   rfl
 obtain ⟨v,t,a,ns,rfl,T,ok,dp,hN,nl,q⟩:=h
 refine ⟨_,(ac (ps_comp (i:=2) (N:=["tree", "switches"]) (ix:=[0,1]) sc_count_of.nd rfl (Or.inl rfl) rfl
  (CompScope.two (by with_unfolding_all rfl) (by decide) rfl (by decide) rfl (by decide +kernel) (by first | exact Or.inl rfl | exact Or.inr rfl) (by with_unfolding_all rfl) (by with_unfolding_all rfl) (by with_unfolding_all rfl) (by with_unfolding_all rfl) rfl rfl (by with_unfolding_all rfl) rfl rfl) rfl
  (cN (am C_all_settings hr (by decide) rfl (aa (aE aB rfl hlen PySem.boot_len (aa (pv 1) ae)) ae)))
  (fun _ _ _=>pb_if (pt_val (am C_holds_at hr (by decide) rfl (aa (pv 1) (aa (pv 2) (aa (pv 0) ae))))) (pv 0)))
  (af (ao (aE aB rfl hlen PySem.boot_len (aa (pv 2) ae))))),?_⟩
 have en:((ns.map V.str).length:Int)=(ns.length:Int):=by rw [List.length_map]
 refine ⟨_,rfl,a,_,rfl,hN.seq,_,rfl,by omega,by omega,fun r H1 r0 S1 R1=>?_⟩
 rw [en] at R1
 have e2:((ns.length:Int)).toNat=ns.length:=by omega
 rw [e2] at R1
 obtain ⟨rs,hrs,TS⟩:=R1
 have rl:=TS.length
 have sl:=setts_len ns.length
 have s64:=pow_le_64 nl
 refine ⟨r,rfl,⟨_,SqL.of hrs⟩,fun D hD=>?_⟩
 refine comp_list (K:=K) (xs:=rs) (fun i H'=>∃ ys,H' D=some (.lst ys)/\ys.length=(((bm ns.length).take i).filter fun st=>t.holds ns st).length/\Same H1 H') ⟨[],upd_same,rfl,Same.new hD _⟩ (fun i H' _ hst=>by obtain ⟨_,_,_,h⟩:=hst; exact SqL.of (h _ _ hrs)) ?_ ?_
 . rintro i x H2 hx ⟨ys,hl,yl,S2⟩
   have hi:i < rs.length:=(List.getElem?_eq_some_iff.mp hx).1
   have TS2:=TS.mono (keepT_same S2)
   obtain ⟨st,hst,b,rfl,hb⟩:=TS2.get hx
   have stl:=cM _ _ (List.mem_of_getElem? hst)
   have S02:=S1.trans S2
   have tk:((bm ns.length).take (i+1)).filter (fun st=>t.holds ns st)=((bm ns.length).take i).filter (fun st=>t.holds ns st)++[st].filter (fun st=>t.holds ns st):=by
    rw [List.take_add_one,hst,List.filter_append]
    rfl
   refine ⟨_,rfl,_,rfl,_,rfl,v,t,a,b,ns,st,rfl,T.mono (keepT_same S02),ok,dp,hN.same S02,hb,stl,_,rfl,?_⟩
   cases c:t.holds ns st with
   | true =>
     refine iteT ?_
     refine ⟨_,rfl,ys,hl,?_,Nx.of hi ⟨_,upd_same,?_,fun b' o e=>?_⟩⟩
     . have:=List.length_filter_le (fun st=>t.holds ns st) ((bm ns.length).take i)
       rw [List.length_take] at this
       exact aJ (by omega)
     . rw [tk,List.length_append,List.length_append,yl]
       simp [c]
     . rw [au (ne_of_none e hD)]
       exact S2 _ _ e
   | false =>
     refine iteF ?_
     refine Nx.of hi ⟨ys,hl,?_,S2⟩
     rw [tk,List.length_append,yl]
     simp [c]
 . rintro H2 ⟨ys,hl,yl,S2⟩
   have e3:rs.length=(bm ns.length).length:=rl
   rw [e3,List.take_length] at yl
   refine ⟨_,rfl,D,_,rfl,.inl (SqL.of hl),?_⟩
   rw [yl]
   exact q H2 (S1.trans S2)
def spCounts (C:Addr):Sp:=fun vs H Q _=>∃ (g a b d:Addr) (ns:List Str) (tv:List V) (ts:List Tr) (p:Int),vs=[.ref g]/\GameAt C H g a b d p/\H a=some (.tup (ns.map V.str))/\ns.length<=6/\H b=some (.tup tv)/\TreesAt H tv ts/\ts.length<=10/\(∀ t ∈ ts,t.ok ns/\t.depth<=12) /\
 ∀ (l:Addr) (H':Hp),H l=none->Same H H'->H' l=some (.lst ((ts.map fun t=>(cnt t ns:Int)).map V.int))->Q (.ref l) H'
theorem sc_counts_of:FnScope ["game"] ["game"] (ag cZ):=⟨rfl,rfl,rfl,by decide +kernel,rfl,by decide +kernel,by decide +kernel⟩
theorem ok_counts_of {f C:Addr} {fd:FuncData} (F:Fun K "counts_of" "counts_of" cZ f fd) (T:GTxt K mg C) (C_count_of:Cal P w K mg base 15 "count_of" ["tree", "switches"] spCount):FnOk P w K mg base CX0 16 f fd ["game"] (spCounts C):=by
 refine F.ok sc_counts_of (fun vs H Q E h=>?_) (fun cdv A outer s H vs Q E hr h=>?_)
 . obtain ⟨g,a,b,d,ns,tv,ts,p,rfl,_⟩:=h
   rfl
 obtain ⟨g,a,b,d,ns,tv,ts,p,rfl,⟨dx,hg⟩,ha,nl,hb,TS,t10,tok,q⟩:=h
 refine ⟨_,(af (ao (bQ (N:=["game"]) (ix:=[0]) rfl
  (CompScope.one (by with_unfolding_all rfl) (by decide) rfl (by decide) rfl (by decide +kernel) (by with_unfolding_all rfl) (by with_unfolding_all rfl) (by with_unfolding_all rfl) rfl rfl) rfl
  (pi_tup (aH (pv 0) rfl)) (fun _ _ _=>bL (am C_count_of hr (by decide) rfl (aa (pv 0) (aa (pe_fldK K (pv 1)) ae))))))),?_⟩
 have vl:=TS.length
 refine ⟨_,rfl,g,C,dx,_,_,rfl,hg,T.cl,T.nT,gf_tr ..,b,rfl,⟨_,SqT.of hb⟩,fun D hD=>?_⟩
 refine comp_tup (K:=K) (xs:=tv) (fun i H'=>H' D=some (.lst (((ts.take i).map fun t=>(cnt t ns:Int)).map V.int))/\Same H H') ⟨by rw [upd_same]; rfl,Same.new hD _⟩ (fun i H' _ h=>SqT.of (h.2 _ _ hb)) ?_ ?_
 . rintro i z H2 hz ⟨hl,S2⟩
   obtain ⟨t,ht,Tt⟩:=TS.get hz
   obtain ⟨tk,td⟩:=tok t (List.mem_of_getElem? ht)
   have hi:i < tv.length:=(List.getElem?_eq_some_iff.mp hz).1
   refine ⟨_,rfl,_,rfl,g,C,dx,_,_,rfl,S2 _ _ hg,T.cl,T.nS,gf_sw ..,z,t,a,ns,rfl,Tt.mono (keepT_same S2),tk,td,.inr (S2 _ _ ha),nl,fun H3 S3=>?_⟩
   refine ⟨_,S3 _ _ hl,?_,Nx.of hi ⟨?_,fun b' o' e'=>?_⟩⟩
   . rw [List.length_map,List.length_map,List.length_take]
     exact aJ (by omega)
   . rw [upd_same,List.take_add_one,ht,List.map_append,List.map_append]
     rfl
   . rw [au (ne_of_none e' hD)]
     exact S3 _ _ (S2 _ _ e')
 . rintro H2 ⟨hl,S2⟩
   rw [vl,List.take_length] at hl
   exact q D H2 hD S2 hl
theorem iteNE {c A B:Prop} [Decidable c] (hc:c) (h:B):if (!decide c)=true then A else B:=by
 rw [decide_eq_true hc]
 exact iteF h
def poly (s:Int):List Int->Int
 | []=>0
 | a::r=>a+s*poly s r
theorem hor_poly (s p:Int):∀ ns,hor s p ns=poly s ns % p
 | []=>(Int.zero_emod p).symm
 | a::r=>by
   show (hor s p r*s+a) % p=(a+s*poly s r) % p
   rw [hor_poly s p r,Int.add_emod,Int.mul_emod,Int.emod_emod,← Int.mul_emod,← Int.add_emod,Int.mul_comm,Int.add_comm]
theorem setts_01:∀ (n:Nat) (s:List Int),s ∈ bm n->∀ x ∈ s,x=0∨x=1
 | 0,s,h,x,hx=>by
   have:s=[]:=by simpa [bm] using h
   subst this
   cases hx
 | n+1,s,h,x,hx=>by
   rw [bm,List.mem_flatMap] at h
   obtain ⟨t,ht,hs⟩:=h
   simp at hs
   rcases hs with rfl | rfl
   . rcases List.mem_append.mp hx with h | h
     . exact setts_01 n t ht x h
     . exact .inl (List.mem_singleton.mp h)
   . rcases List.mem_append.mp hx with h | h
     . exact setts_01 n t ht x h
     . exact .inr (List.mem_singleton.mp h)
theorem cat_any {K:W.Frag} {H1:Hp} {a b:Addr} {xs ys:List Int} {Q:VK} (ha:H1 a=some (.tup (xs.map V.int))) (hb:H1 b=some (.tup (ys.map V.int))) (hl:xs.length+ys.length<=100)
 (q:∀ t H2,Same H1 H2->H2 t=some (.tup ((xs++ys).map V.int))->Q (.ref t) H2):rCatT K (.ref a) (.ref b) H1 Q∨rCatT0 K (.ref a) (.ref b) H1 Q:=by
 cases xs with
 | nil=>exact .inr ⟨a,b,_,rfl,rfl,SqT.of ha,SqT.of hb,q b H1 (Same.refl _) hb⟩
 | cons x r =>
   refine .inl ⟨a,b,_,_,rfl,rfl,SqT.of ha,SqT.of hb,by simp,bv (by simp at hl ⊢; omega),(fun z=>?_),(fun _ t ht=>q t _ (Same.new ht _) ?_)⟩
   . cases ys with
     | nil =>
       refine q a H1 (Same.refl _) ?_
       rw [List.append_nil]
       exact ha
     | cons y r2=>exact nomatch z
   . rw [upd_same,List.map_append]
def rowAt (ns:List Str) (ts:List Tr) (s p:Int) (pt:List Int):Int:=((bm (ns.length - pt.length)).map fun st=>poly s (ts.map fun t=>t.worth ns (pt++st) p)).sum % p
theorem sum_mod {α:Type} (p:Int) (f:α->Int):∀ l:List α,(l.map fun x=>f x % p).sum % p=(l.map f).sum % p
 | []=>rfl
 | a::r=>by
   rw [List.map_cons,List.map_cons,List.sum_cons,List.sum_cons,Int.add_emod,Int.emod_emod,sum_mod p f r,← Int.add_emod]
theorem sum_rng {α:Type} {p:Int} (hp:0 < p) (f:α->Int) (h:∀ x,0<=f x/\f x < p):∀ l:List α,0<=(l.map f).sum/\(l.map f).sum<=p*l.length
 | []=>⟨Int.le_refl 0,by simp⟩
 | a::r=>by
   have h1:=h a
   have h2:=sum_rng hp f h r
   rw [List.map_cons,List.sum_cons,List.length_cons]
   refine ⟨by omega,?_⟩
   have:p*((r.length+1:Nat):Int)=p*(r.length:Int)+p:=by
    rw [Int.natCast_add,Int.mul_add]
    simp
   omega
theorem ptOk_cat {a b:List Int} {p:Int} (h:PtOk a p) (h2:PtOk b p):PtOk (a++b) p:=fun x hx=>by
 rcases List.mem_append.mp hx with e | e
 . exact h x e
 . exact h2 x e
theorem pt01 {a b:List Int} {p:Int} (h:PtOk a p) (p1:1 < p) (h2:∀ x ∈ b,x=0∨x=1):PtOk (a++b) p:=ptOk_cat h fun x hx=>by rcases h2 x hx with e | e <;> omega
theorem lenB {n k:Nat} (h:k<=n) (h6:n<=6):0<=(n:Int) - k/\(n:Int) - k<=6/\((n:Int) - k).toNat=n - k:=by omega
theorem op_catK {X:Cx} (K:W.Frag) (hK:X.K=K:=by rfl):OpR X (binaryOp .Add) (fun x y H Q=>rCatT K x y H Q∨rCatT0 K x y H Q):=by subst hK; exact op_catT.or op_catT0
theorem degOf_ge {ts:List Tr} {x:Str} (h0:ts ≠ []):0<=aZ ts x:=by
 have:=maxD_mem (ns:=ts.map fun t=>(t.names.count x:Int)) (by simpa using h0)
 obtain ⟨t,ht,e⟩:=List.mem_map.mp this
 unfold aZ
 rw [← e]
 exact Int.natCast_nonneg _
def rowL (ns:List Str) (ts:List Tr) (s p:Int) (cs:List Int) (n:Nat):List Int:=(List.range n).map fun k:Nat=>rowAt ns ts s p (cs++[(k:Int)])
theorem smallR {ns:List Str} {ts:List Tr} {s p d:Int} {cs:List Int} {i:Nat} (hi:i < (d+1).toNat) (h:d<=500):((rowL ns ts s p cs i).map V.int).length < sizeLine:=by
 unfold rowL
 rw [List.length_map,List.length_map,List.length_range]
 exact aJ (by omega)
theorem ptI {a:List Int} {p d:Int} {i:Nat} (h:PtOk a p) (hi:i < (d+1).toNat) (hd:d < p):PtOk (a++[(i:Int)]) p:=ptOk_cat h fun x hx=>by
 rw [List.mem_singleton.mp hx]
 omega
theorem cat1 {n k:Nat} (h:n < k) (h6:k<=6):n+([(0:Int)]:List Int).length<=100/\n+1<=k:=by
 rw [List.length_singleton]
 omega
theorem s64 {n k:Nat} (h6:n<=6):(bm (n - (k+1))).length<=64:=by
 have s64:=setts_len (n - (k+1))
 have p64:=pow_le_64 (n:=n - (k+1)) (by omega)
 omega
theorem smallS {α:Type} {f:α->Int} {l:List α} {j:Nat} (h:l.length<=64):(((l.take j).map f).map V.int).length < sizeLine:=by
 rw [List.length_map,List.length_map,List.length_take]
 exact aJ (by omega)
theorem sum63 {p x:Int} {n:Nat} (p0:0 < p) (p40:p < 2 ^ 40) (h:n<=64) (hx:x<=p*(n:Int)):x < 2 ^ 63:=by
 have:p*(n:Int)<=p*64:=Int.mul_le_mul_of_nonneg_left (by omega) (by omega)
 omega
def spTrue (C:Addr):Sp:=fun vs H Q _=>∃ (g a b d c:Addr) (ns:List Str) (tv:List V) (ts:List Tr) (cs:List Int) (x:Str) (s p:Int),vs=[.ref g,.int s,.ref c]/\GameAt C H g a b d p/\H a=some (.tup (ns.map V.str))/\ns.length<=6/\H b=some (.tup tv)/\TreesAt H tv ts/\ts ≠ []/\ts.length<=10/\(∀ t ∈ ts,t.ok ns/\t.depth<=10) /\
 H d=some (.lst ((ns.map (aZ ts)).map V.int))/\H c=some (.tup (cs.map V.int))/\ns[cs.length]?=some x/\aZ ts x < p/\aZ ts x<=500/\PtOk cs p/\1 < p/\p < 2 ^ 40 /\
 ∀ (l:Addr) (H':Hp),H l=none->Same H H'->H' l=some (.lst ((rowL ns ts s p cs (aZ ts x+1).toNat).map V.int))->Q (.ref l) H'
theorem sc_true_row:FnScope ["game", "s", "coins", "ahead", "switch", "behind", "row", "x", "worths"] ["game", "s", "coins"] (ag s_true_row):=⟨rfl,rfl,rfl,by decide +kernel,rfl,by decide +kernel,by decide +kernel⟩
theorem ok_true_row {f fW C:Addr} {fd fdW:FuncData} (F:Fun K "true_row" "true_row" s_true_row f fd) (B:Bl mg) (T:GTxt K mg C) (mW:Meth K C "worth_at" fW) (GW:FnOk P w K mg base CX0 13 fW fdW ["self", "point", "s"] (spWAt C)) (bW:Binds K fdW ["self", "point", "s"] []) (C_all_settings:Cal P w K mg base 1 "all_settings" ["n"] spSetts):FnOk P w K mg base CX0 14 f fd ["game", "s", "coins"] (spTrue C):=by
 refine F.ok sc_true_row (fun vs H Q E h=>?_) (fun cdv A outer s H vs Q E hr h=>?_)
 . obtain ⟨g,a,b,d,c,ns,tv,ts,cs,x,s,p,rfl,_⟩:=h
   rfl
 obtain ⟨g,a,b,d,c,ns,tv,ts,cs,x,s,p,rfl,⟨dx,hg⟩,ha,nl,hb,TS,tne,t10,tok,hd,hc,hx,dp,d500,po,p1,p40,q⟩:=h
 refine ⟨_,(ac (ak (i:=3) sc_true_row.nd rfl (Or.inr rfl) (bq bz rfl B.tuple cb (aa (pv 2) ae)))
  (ac (ak (i:=4) sc_true_row.nd rfl (Or.inl rfl) (aE aB rfl B.len PySem.boot_len (aa (pv 3) ae)))
  (ac (ak (i:=5) sc_true_row.nd rfl (Or.inl rfl) (am C_all_settings hr (by decide) rfl (aa (ah aR (ah aR (aE aB rfl B.len PySem.boot_len (aa (aH (pv 0) rfl) ae)) (pv 4)) ad) ae)))
  (ac (ak (i:=6) sc_true_row.nd rfl (Or.inl rfl) (bi ae))
  (ac (ci PassesOwn.never rfl (bp rfl B.range (aa (ah aU (ay ix_list (aH (pv 0) rfl) (pv 4) (fun _ _=>rfl)) ad) ae)) (aS (i:=7) sc_true_row.nd rfl (Or.inr rfl)) (ac (ps_comp (i:=8) (N:=["x", "s", "game", "ahead"]) (ix:=[7,1,0,3]) sc_true_row.nd rfl (Or.inl rfl) rfl
   (CompScope.four (by with_unfolding_all rfl) (by decide) rfl (by decide) rfl (by decide +kernel) rfl (by with_unfolding_all rfl) (by with_unfolding_all rfl) (by with_unfolding_all rfl) (by with_unfolding_all rfl) (by with_unfolding_all rfl) (by with_unfolding_all rfl) rfl rfl (by with_unfolding_all rfl) rfl rfl (by with_unfolding_all rfl) rfl rfl (by with_unfolding_all rfl) rfl rfl) rfl
   (cN (pv 5)) (fun _ _ _=>bL (pe_meth (pv 3) T.cl mW GW hr bW .nil pass0 (aa (ah (op_catK K) (ah (op_catK K) (pv 4) (bu (aa (pv 1) ae))) (pv 0)) (aa (pv 2) ae)))))
   (af (dc (pe_bm PySem.F.plainAttrs_list PySem.F.slot_list_append PySem.F.type_list_append cI (pv 6) (aa (ah aI (aE (call_sum rfl) rfl B.sum PyProof.Rows.boot_sum (aa (pv 8) ae)) (aH (pv 0) rfl)) ae))))))
  (af (ao (pv 6)))))))),?_⟩
 have kl:cs.length < ns.length:=(List.getElem?_eq_some_iff.mp hx).1
 have d0:=degOf_ge (x:=x) tne
 have p0:0 < p:=Int.lt_trans Int.zero_lt_one p1
 refine ⟨_,rfl,c,_,rfl,.inr ⟨SqT.of hc,?_⟩⟩
 have G1:Same H H:=fun _ _ e=>e
 have hah1:=hc
 refine ⟨_,rfl,c,_,rfl,.inr (SqT.of hah1),?_⟩
 refine ⟨_,rfl,g,C,dx,_,_,rfl,G1 _ _ hg,T.cl,T.nS,gf_sw ..,a,_,rfl,.inr (SqT.of (G1 _ _ ha)),_,rfl,_,_,rfl,rfl,_,_,rfl,rfl,_,rfl,by rw [List.length_map,List.length_map]; omega,by rw [List.length_map,List.length_map]; omega,fun r H2 r0 S2 R2=>?_⟩
 have en:((((ns.map V.str).length:Nat):Int) - (((cs.map V.int).length:Nat):Int) - 1).toNat=ns.length - (cs.length+1):=by rw [List.length_map,List.length_map]; omega
 rw [en] at R2
 obtain ⟨rs,hrs,TB⟩:=R2
 have rl:=TB.length
 refine ⟨(by show 0<=sizeLine; decide),fun L hL=>?_⟩
 have S02:=G1.trans S2
 have GL:=Same.new hL (.lst [])
 have S03:=S02.trans GL
 have L0:H L=none:=S02.free hL
 have e1:(((cs.map V.int).length:Nat):Int)=(cs.length:Int):=by rw [List.length_map]
 refine ⟨_,rfl,g,C,dx,_,_,rfl,S03 _ _ hg,T.cl,T.nD,gf_de ..,_,rfl,d,_,_,.int (aZ ts x),rfl,rfl,SqL.of (S03 _ _ hd),?_,_,_,rfl,rfl,_,rfl,by omega,by omega,for_range (fun i σ H'=>∃ x7 x8:Option V,σ=[some (.ref g),some (.int s),some (.ref c),some (.ref c),some (.int (((cs.map V.int).length:Nat):Int)),some (.ref r),some (.ref L),x7,x8]/\H' L=some (.lst ((rowL ns ts s p cs i).map V.int))/\SameBut L H2 H') ⟨_,_,rfl,by rw [upd_same]; rfl,SameBut.upd _⟩ ?_ ?_⟩
 . rw [e1]
   refine cn ?_
   rw [List.getElem?_map,List.getElem?_map,hx]
   rfl
 . rintro i σ H4 hi ⟨x7,x8,rfl,hL4,S4⟩
   have gL:g ≠ L:=ne_of_none (S02 _ _ hg) hL
   have rL:r ≠ L:=ne_of_none hrs hL
   have kT:bO H2 H4:=fun c xs h=>S4 c _ (ne_of_none h hL) h
   have hg4:=S4 g _ gL (S02 _ _ hg)
   have hrs4:=S4 r _ rL hrs
   have ha4:=kT _ _ (S02 _ _ ha)
   have hb4:=kT _ _ (S02 _ _ hb)
   have hah4:=kT _ _ (S2 _ _ hah1)
   have TS4:=(TS.mono (keepT_same S02)).mono kT
   have TB4:=TB.mono kT
   refine ⟨_,rfl,r,rfl,⟨_,SqL.of hrs4⟩,fun D hD=>?_⟩
   refine comp_list (K:=K) (xs:=rs) (fun j H'=>H' D=some (.lst ((((bm (ns.length - (cs.length+1))).take j).map fun st=>hor s p (ts.map fun t=>t.worth ns (cs++[(i:Int)]++st) p)).map V.int))/\Same H4 H') ⟨by rw [upd_same]; rfl,Same.new hD _⟩ (fun j H' _ h=>SqL.of (h.2 _ _ hrs4)) ?_ ?_
   . rintro j z H5 hz ⟨hD5,S5⟩
     obtain ⟨st,hst,y,rfl,hy⟩:=(TB4.mono (keepT_same S5)).get hz
     have stm:=List.mem_of_getElem? hst
     have stl:=cM _ _ stm
     have s01:=setts_01 _ _ stm
     have hj:j < rs.length:=(List.getElem?_eq_some_iff.mp hz).1
     have po2:PtOk (cs++[(i:Int)]++st) p:=pt01 (ptI po hi dp) p1 s01
     have pl2:(cs++[(i:Int)]++st).length=ns.length:=by rw [List.length_append,List.length_append,List.length_singleton]; omega
     refine ⟨_,rfl,g,dx,_,rfl,S5 _ _ hg4,gf_no _ _ _ _ (by decide +kernel) (by decide +kernel) (by decide +kernel) (by decide +kernel),?_⟩
     refine ⟨_,rfl,_,rfl,(by show 1<=sizeLine; decide),fun u hu=>?_⟩
     have Gu:=Same.new hu (.tup [.int (0+(i:Int))])
     have hu6:upd H5 u (.tup [.int (0+(i:Int))]) u=some (.tup ([(i:Int)].map V.int)):=by rw [upd_same,Int.zero_add]; rfl
     generalize upd H5 u (.tup [.int (0+(i:Int))])=H6 at Gu hu6
     refine cat_any (Gu _ _ (S5 _ _ hah4)) hu6 (cat1 kl nl).1 fun t1 H7 S7 h7=>?_
     refine ⟨_,rfl,?_⟩
     have S57:=Gu.trans S7
     refine cat_any h7 (S57 _ _ hy) (by rw [List.length_append,List.length_singleton]; omega) fun t2 H8 S8 h8=>?_
     have S48:=S5.trans (S57.trans S8)
     refine ⟨_,rfl,g,a,b,d,t2,ns,tv,ts,_,s,p,rfl,⟨dx,S48 _ _ hg4⟩,p1,p40,S48 _ _ ha4,S48 _ _ hb4,TS4.mono (keepT_same S48),t10,tok,h8,pl2,po2,fun H9 S9=>?_⟩
     refine ⟨_,S9 _ _ ((S57.trans S8) _ _ hD5),?_,Nx.of hj ⟨?_,fun b' o' e'=>?_⟩⟩
     . exact smallS (s64 nl)
     . rw [upd_same,List.take_add_one,hst,List.map_append,List.map_append]
       rfl
     . rw [au (ne_of_none e' hD)]
       exact S9 _ _ (S48 _ _ e')
   rintro H5 ⟨hD5,S5⟩
   rw [rl,List.take_length] at hD5
   have hor_r:=fun st:List Int=>hor_rng (s:=s) (p:=p) p0 (ts.map fun t=>t.worth ns (cs++[(i:Int)]++st) p)
   have sr:=sum_rng (p:=p) p0 (fun st:List Int=>hor s p (ts.map fun t=>t.worth ns (cs++[(i:Int)]++st) p)) hor_r (bm (ns.length - (cs.length+1)))
   have hL5:=S5 _ _ hL4
   refine ⟨_,rfl,.inl ⟨rfl,_,SqL.of hL5⟩,_,rfl,D,_,rfl,SqL.of hD5,?_,?_,?_⟩
   . intro n hn
     obtain ⟨st,_,rfl⟩:=List.mem_map.mp hn
     exact (hor_r st).1
   . exact sum63 p0 p40 (s64 nl) sr.2
   refine ⟨_,rfl,g,C,dx,_,_,rfl,S5 _ _ hg4,T.cl,T.nF,gf_fi ..,_,_,rfl,rfl,p0,L,_,_,rfl,rfl,hL5,?_,?_⟩
   . exact smallR hi d500
   . refine ⟨_,_,rfl,?_,fun c o hc e=>?_⟩
     . rw [upd_same]
       unfold rowL
       rw [List.range_succ,List.map_append,List.map_append]
       have e2:((bm (ns.length - (cs.length+1))).map fun st=>hor s p (ts.map fun t=>t.worth ns (cs++[(i:Int)]++st) p)).sum % p=rowAt ns ts s p (cs++[(i:Int)]):=by
        unfold rowAt
        rw [List.length_append,List.length_singleton,show (fun st:List Int=>hor s p (ts.map fun t=>t.worth ns (cs++[(i:Int)]++st) p))=fun st=>poly s (ts.map fun t=>t.worth ns (cs++[(i:Int)]++st) p) % p from funext fun st=>hor_poly _ _ _]
        exact sum_mod p (fun st:List Int=>poly s (ts.map fun t=>t.worth ns (cs++[(i:Int)]++st) p)) _
       show some (HO.lst (_++[V.int (((bm (ns.length - (cs.length+1))).map fun st=>hor s p (ts.map fun t=>t.worth ns (cs++[(i:Int)]++st) p)).sum % p)]))=_
       rw [e2]
       rfl
     . rw [au hc]
       exact S5 _ _ (S4 c o hc e)
 . rintro σ H4 ⟨x7,x8,rfl,hL4,S4⟩
   exact ⟨_,rfl,q L H4 L0 (S02.but L0 S4) hL4⟩
theorem neS {a b:Str} (h:¬ a=b):¬ V.str a=V.str b:=fun z=>h (V.str.inj z)
open Classical in
noncomputable def invI (p a:Int):Int:=if h:∃ g:Int,0 < g/\g < p/\g*a % p=1 then h.choose else 0
theorem invI_one {p a g k:Int} (g0:0 < g) (g1:g < p) (hg:g*a % p=1) (k0:0 < k) (k1:k < p) (hk:k*a % p=1):g=k:=by
 have e1:g*(k*a) % p=g:=by
  rw [Int.mul_emod,hk,Int.mul_one,Int.emod_emod,Int.emod_eq_of_lt (by omega) g1]
 have e2:k*(g*a) % p=k:=by
  rw [Int.mul_emod,hg,Int.mul_one,Int.emod_emod,Int.emod_eq_of_lt (by omega) k1]
 have e3:g*(k*a) % p=k*(g*a) % p:=by rw [Int.mul_left_comm]
 exact e1.symm.trans (e3.trans e2)
theorem invI_eq {p a g:Int} (g0:0 < g) (g1:g < p) (hg:g*a % p=1):invI p a=g:=by
 have h:∃ g:Int,0 < g/\g < p/\g*a % p=1:=⟨g,g0,g1,hg⟩
 unfold invI
 rw [dif_pos h]
 obtain ⟨k0,k1,hk⟩:=h.choose_spec
 exact invI_one k0 k1 hk g0 g1 hg
noncomputable def divI (p x y:Int):Int:=if y=0 then 0 else x*invI p y % p
noncomputable def opV (p:Int) (s:Str) (x y:Int):Int :=
 if s = "+" then (x+y) % p else if s = "-" then (x - y) % p else if s = "*" then x*y % p else if s = "/" then divI p x y else if s = "=" then (if x=y then 1 else 0) else if x < y then 1 else 0
theorem divI_rng {p x y:Int} (hp:0 < p):0<=divI p x y/\divI p x y < p:=by
 unfold divI
 split
 . omega
 . exact ⟨Int.emod_nonneg _ (by omega),Int.emod_lt_of_pos _ hp⟩
theorem opV_rng {p x y:Int} {s:Str} (hp:1 < p):0<=opV p s x y/\opV p s x y < p:=by
 have m:∀ z:Int,0<=z % p/\z % p < p:=fun z=>⟨Int.emod_nonneg _ (by omega),Int.emod_lt_of_pos _ (by omega)⟩
 unfold opV
 split
 . exact m _
 . split
   . exact m _
   . split
     . exact m _
     . split
       . exact divI_rng (by omega)
       . split <;> split <;> omega
def spDiv:Sp:=fun vs H Q _=>∃ (x y p:Int),vs=[.int x,.int y,.int p]/\Pr p/\p<=999983/\0<=x/\x < p/\0<=y/\y < p/\Q (.int (divI p x y)) H
theorem sc_divided:FnScope ["first", "second", "p"] ["first", "second", "p"] (ag s_divided):=⟨rfl,rfl,rfl,by decide +kernel,rfl,by decide +kernel,by decide +kernel⟩
theorem ok_divided {f:Addr} {fd:FuncData} (F:Fun K "divided" "divided" s_divided f fd) (C_inverse_of:Cal P w K mg base 1 "inverse_of" ["a", "p"] spInv):FnOk P w K mg base CX0 2 f fd ["first", "second", "p"] spDiv:=by
 refine F.ok sc_divided (fun vs H Q E h=>?_) (fun cdv A outer s H vs Q E hr h=>?_)
 . obtain ⟨x,y,p,rfl,_⟩:=h
   rfl
 obtain ⟨x,y,p,rfl,pp,p9,x0,x1,y0,y1,q⟩:=h
 refine ⟨_,(ac (aG (aj aN (pv 1) ad (aq _)) (af (ao ad)) ax)
  (af (ao (ah aI (ah aX (pv 0) (am C_inverse_of hr (by decide) rfl (aa (pv 1) (aa (pv 2) ae)))) (pv 2))))),?_⟩
 unfold divI at q
 refine ⟨_,rfl,rfl,_,rfl,?_⟩
 by_cases c:y=0
 . rw [if_pos c] at q
   exact be (congrArg V.int c) q
 . rw [if_neg c] at q
   refine aw (fun z=>c (V.int.inj z)) ?_
   refine ⟨_,rfl,_,rfl,_,rfl,y,p,rfl,pp,p9,by omega,y1,fun g g0 g1 hg=>?_⟩
   rw [invI_eq g0 g1 hg] at q
   exact ⟨_,_,rfl,rfl,.inl ⟨by omega,by omega⟩,_,rfl,_,_,rfl,rfl,(by show 0 < p; omega),q⟩
def signW:List Str:=["+", "-", "*", "/", "=", "<"]
def spOp:Sp:=fun vs H Q _=>∃ (s:Str) (x y p:Int),vs=[.str s,.int x,.int y,.int p]/\s ∈ signW/\Pr p/\p<=999983/\0<=x/\x < p/\0<=y/\y < p/\Q (.int (opV p s x y)) H
theorem sc_op_value:FnScope ["sign", "first", "second", "p"] ["sign", "first", "second", "p"] (ag s_op_value):=⟨rfl,rfl,rfl,by decide +kernel,rfl,by decide +kernel,by decide +kernel⟩
theorem opV_1 {p x y:Int}:opV p "+" x y=(x+y) % p:=if_pos rfl
theorem opV_2 {p x y:Int}:opV p "-" x y=(x - y) % p:=by unfold opV; rw [if_neg (by decide +kernel),if_pos rfl]
theorem opV_3 {p x y:Int}:opV p "*" x y=x*y % p:=by unfold opV; rw [if_neg (by decide +kernel),if_neg (by decide +kernel),if_pos rfl]
theorem opV_4 {p x y:Int}:opV p "/" x y=divI p x y:=by unfold opV; rw [if_neg (by decide +kernel),if_neg (by decide +kernel),if_neg (by decide +kernel),if_pos rfl]
theorem opV_5 {p x y:Int}:opV p "=" x y=if x=y then 1 else 0:=by unfold opV; rw [if_neg (by decide +kernel),if_neg (by decide +kernel),if_neg (by decide +kernel),if_neg (by decide +kernel),if_pos rfl]
theorem opV_6 {p x y:Int}:opV p "<" x y=if x < y then 1 else 0:=by unfold opV; rw [if_neg (by decide +kernel),if_neg (by decide +kernel),if_neg (by decide +kernel),if_neg (by decide +kernel),if_neg (by decide +kernel)]
theorem ok_op_value {f:Addr} {fd:FuncData} (F:Fun K "op_value" "op_value" s_op_value f fd) (C_divided:Cal P w K mg base 2 "divided" ["first", "second", "p"] spDiv):FnOk P w K mg base CX0 3 f fd ["sign", "first", "second", "p"] spOp:=by
 refine F.ok sc_op_value (fun vs H Q E h=>?_) (fun cdv A outer s H vs Q E hr h=>?_)
 . obtain ⟨s,x,y,p,rfl,_⟩:=h
   rfl
 obtain ⟨s,x,y,p,rfl,hs,pp,p9,x0,x1,y0,y1,q⟩:=h
 have p0:0 < p:=by omega
 refine ⟨_,(ac (aG (aj aN (pv 0) aD (aq _)) (af (ao (ah aI (ah aU (pv 1) (pv 2)) (pv 3)))) ax)
  (ac (aG (aj aN (pv 0) aD (aq _)) (af (ao (ah aI (ah aR (pv 1) (pv 2)) (pv 3)))) ax)
  (ac (aG (aj aN (pv 0) aD (aq _)) (af (ao (ah aI (ah aX (pv 1) (pv 2)) (pv 3)))) ax)
  (ac (aG (aj aN (pv 0) aD (aq _)) (af (ao (am C_divided hr (by decide) rfl (aa (pv 1) (aa (pv 2) (aa (pv 3) ae)))))) ax)
  (ac (aG (aj aN (pv 0) aD (aq _)) (af (ao (pe_ifExp (aj aN (pv 1) (pv 2) (aq _)) ad ad))) ax)
  (af (ao (pe_ifExp (aj op_lt (pv 1) (pv 2) (aq _)) ad ad)))))))),?_⟩
 have hs':s = "+" ∨ s = "-" ∨ s = "*" ∨ s = "/" ∨ s = "=" ∨ s = "<" := by simpa [signW] using hs
 rcases hs' with rfl | rfl | rfl | rfl | rfl | rfl
 . rw [opV_1] at q
   refine ⟨_,rfl,rfl,_,rfl,be rfl ?_⟩
   exact ⟨_,rfl,_,rfl,_,_,rfl,rfl,_,rfl,_,_,rfl,rfl,p0,q⟩
 . rw [opV_2] at q
   refine ⟨_,rfl,rfl,_,rfl,aw (neS (by decide +kernel)) ?_⟩
   refine ⟨_,rfl,rfl,_,rfl,be rfl ?_⟩
   exact ⟨_,rfl,_,rfl,_,_,rfl,rfl,_,rfl,_,_,rfl,rfl,p0,q⟩
 . rw [opV_3] at q
   refine ⟨_,rfl,rfl,_,rfl,aw (neS (by decide +kernel)) ?_⟩
   refine ⟨_,rfl,rfl,_,rfl,aw (neS (by decide +kernel)) ?_⟩
   refine ⟨_,rfl,rfl,_,rfl,be rfl ?_⟩
   exact ⟨_,rfl,_,rfl,_,_,rfl,rfl,.inl ⟨by omega,by omega⟩,_,rfl,_,_,rfl,rfl,p0,q⟩
 . rw [opV_4] at q
   refine ⟨_,rfl,rfl,_,rfl,aw (neS (by decide +kernel)) ?_⟩
   refine ⟨_,rfl,rfl,_,rfl,aw (neS (by decide +kernel)) ?_⟩
   refine ⟨_,rfl,rfl,_,rfl,aw (neS (by decide +kernel)) ?_⟩
   refine ⟨_,rfl,rfl,_,rfl,be rfl ?_⟩
   exact ⟨_,rfl,_,rfl,_,rfl,x,y,p,rfl,pp,p9,x0,x1,y0,y1,q⟩
 . rw [opV_5] at q
   refine ⟨_,rfl,rfl,_,rfl,aw (neS (by decide +kernel)) ?_⟩
   refine ⟨_,rfl,rfl,_,rfl,aw (neS (by decide +kernel)) ?_⟩
   refine ⟨_,rfl,rfl,_,rfl,aw (neS (by decide +kernel)) ?_⟩
   refine ⟨_,rfl,rfl,_,rfl,aw (neS (by decide +kernel)) ?_⟩
   refine ⟨_,rfl,rfl,_,rfl,be rfl ?_⟩
   refine ⟨_,rfl,_,rfl,rfl,_,rfl,?_⟩
   by_cases c:x=y
   . rw [if_pos c] at q
     exact be (congrArg V.int c) q
   . rw [if_neg c] at q
     exact aw (fun z=>c (V.int.inj z)) q
 . rw [opV_6] at q
   refine ⟨_,rfl,rfl,_,rfl,aw (neS (by decide +kernel)) ?_⟩
   refine ⟨_,rfl,rfl,_,rfl,aw (neS (by decide +kernel)) ?_⟩
   refine ⟨_,rfl,rfl,_,rfl,aw (neS (by decide +kernel)) ?_⟩
   refine ⟨_,rfl,rfl,_,rfl,aw (neS (by decide +kernel)) ?_⟩
   refine ⟨_,rfl,rfl,_,rfl,aw (neS (by decide +kernel)) ?_⟩
   refine ⟨_,rfl,_,rfl,_,_,rfl,rfl,_,rfl,?_⟩
   by_cases c:x < y
   . rw [if_pos c] at q
     exact be c q
   . rw [if_neg c] at q
     exact aw c q
theorem pss_cut {X:Cx} {ss:List Stmt} {t t':TS} (h:PSs X ss t) (hw:∀ D σ H,t' D σ H->t D σ H):PSs X ss t':=fun pins s σ H D I k=>h pins s σ H D I (hw _ _ _ k)
inductive Tm where
 | num (n:Int) | box (x:Str) | plain (w:Str) | ask (w:Str) (a:Tm) | op (s:Str) (a b:Tm)
def Tm.depth:Tm->Nat
 | .num _=>1 | .box _=>1 | .plain _=>1 | .ask _ a=>a.depth+1 | .op _ a b=>max a.depth b.depth+1
theorem Tm.depth_pos:∀ t:Tm,1<=t.depth
 | .num _=>Nat.le_refl _ | .box _=>Nat.le_refl _ | .plain _=>Nat.le_refl _ | .ask _ a=>Nat.le_add_left .. | .op _ a b=>Nat.le_add_left ..
def plainW:List Str:=["round", "due", "asked"]
def askW:List Str:=["coin", "true"]
inductive TmAt (H:Hp):V->Tm->Prop
 | num {a:Addr} {n:Int}:H a=some (.tup [.str "num", .int n])->TmAt H (.ref a) (.num n)
 | box {a:Addr} {x:Str}:H a=some (.tup [.str "box", .str x])->TmAt H (.ref a) (.box x)
 | plain {a:Addr} {w:Str}:H a=some (.tup [.str w])->TmAt H (.ref a) (.plain w)
 | ask {a:Addr} {w:Str} {v:V} {t:Tm}:H a=some (.tup [.str w,v])->TmAt H v t->TmAt H (.ref a) (.ask w t)
 | op {a:Addr} {s:Str} {v u:V} {t r:Tm}:H a=some (.tup [.str "op", .str s,v,u])->TmAt H v t->TmAt H u r->TmAt H (.ref a) (.op s t r)
theorem TmAt.mono {H H':Hp} (k:bO H H') {v:V} {t:Tm} (h:TmAt H v t):TmAt H' v t:=by
 induction h with
 | num e=>exact .num (k _ _ e)
 | box e=>exact .box (k _ _ e)
 | plain e=>exact .plain (k _ _ e)
 | ask e _ ih=>exact .ask (k _ _ e) ih
 | op e _ _ i1 i2=>exact .op (k _ _ e) i1 i2
inductive Hr where
 | fin | go (n:Int) | iff (t:Tm) (n:Int) | set (x:Str) (t:Tm) | say (t:Tm)
inductive HrAt (H:Hp):V->Hr->Prop
 | fin {a:Addr}:H a=some (.tup [.str "end"])->HrAt H (.ref a) .fin
 | go {a:Addr} {n:Int}:H a=some (.tup [.str "go", .int n])->HrAt H (.ref a) (.go n)
 | iff {a:Addr} {v:V} {t:Tm} {n:Int}:H a=some (.tup [.str "if", v,.int n])->TmAt H v t->HrAt H (.ref a) (.iff t n)
 | set {a:Addr} {x:Str} {v:V} {t:Tm}:H a=some (.tup [.str "set", .str x,v])->TmAt H v t->HrAt H (.ref a) (.set x t)
 | say {a:Addr} {v:V} {t:Tm}:H a=some (.tup [.str "say", v])->TmAt H v t->HrAt H (.ref a) (.say t)
theorem HrAt.mono {H H':Hp} (k:bO H H') {v:V} {r:Hr} (h:HrAt H v r):HrAt H' v r:=by
 cases h with
 | fin e=>exact .fin (k _ _ e)
 | go e=>exact .go (k _ _ e)
 | iff e t=>exact .iff (k _ _ e) (t.mono k)
 | set e t=>exact .set (k _ _ e) (t.mono k)
 | say e t=>exact .say (k _ _ e) (t.mono k)
section
variable {CM CA CG:Addr}
abbrev s_ainit:Stmt:=cO s_asking 0
abbrev s_aplain:Stmt:=cO s_asking 1
abbrev s_acoin:Stmt:=cO s_asking 2
abbrev s_atruths:Stmt:=cO s_asking 3
abbrev s_atrue:Stmt:=cO s_asking 4
abbrev s_minit:Stmt:=cO s_machine 0
abbrev s_msay:Stmt:=cO s_machine 1
abbrev s_mrow:Stmt:=cO s_machine 2
abbrev s_mbox:Stmt:=cO s_machine 3
def al (g:Addr) (nr mn hd s:Int) (aT:Addr) (tr:V):List (Str × V):=[("game", .ref g),("number", .int nr),("many", .int mn),("held", .int hd),("s", .int s),("tossed", .ref aT),("truths", tr)]
theorem al_g {g:Addr} {nr mn hd s:Int} {aT:Addr} {tr:V}:(al g nr mn hd s aT tr).lookup ("game" : Str)=some (.ref g):=by with_unfolding_all rfl
structure ATxt (K:W.Frag) (mg:Str->Option Value) (C:Addr):Prop where
 cl:Cls K C
 nG:NoAttr K C "game"
 nN:NoAttr K C "number"
 nM:NoAttr K C "many"
 nH:NoAttr K C "held"
 nS:NoAttr K C "s"
 nT:NoAttr K C "tossed"
 nR:NoAttr K C "truths"
 mgC:mg "Asking" = some (.ref C)
def ml (g h:Addr) (r:Int) (b:Addr):List (Str × V):=[("game", .ref g),("helper", .ref h),("next_round", .int r),("boxes", .ref b)]
section
variable {g h b:Addr} {r:Int}
theorem ml_g:(ml g h r b).lookup ("game" : Str)=some (.ref g):=by with_unfolding_all rfl
theorem ml_h:(ml g h r b).lookup ("helper" : Str)=some (.ref h):=by with_unfolding_all rfl
theorem ml_r:(ml g h r b).lookup ("next_round" : Str)=some (.int r):=by with_unfolding_all rfl
theorem ml_b:(ml g h r b).lookup ("boxes" : Str)=some (.ref b):=by with_unfolding_all rfl
theorem ml_n1:(ml g h r b).lookup ("do_row" : Str)=none:=by with_unfolding_all rfl
theorem ml_n2:(ml g h r b).lookup ("say" : Str)=none:=by with_unfolding_all rfl
theorem ml_n3:(ml g h r b).lookup ("box" : Str)=none:=by with_unfolding_all rfl
theorem ml_len:(ml g h r b).length < 1000:=by show 4 < 1000; decide
theorem ml_put {v:Int}:putF "next_round" (.int v) (ml g h r b)=ml g h v b:=by with_unfolding_all rfl
end
structure MTxt (K:W.Frag) (mg:Str->Option Value) (C:Addr):Prop where
 cl:Cls K C
 nG:NoAttr K C "game"
 nH:NoAttr K C "helper"
 nR:NoAttr K C "next_round"
 nB:NoAttr K C "boxes"
 mgC:mg "Machine" = some (.ref C)
def BxAt (H:Hp) (b:Addr) (bx:Str->Int) (m:Nat):Prop:=∃ kvs:List (Key × V),H b=some (.dK kvs)/\kvs.length<=m/\∀ x:Str,(cw kvs (.inr x)).getD (.int 0)=.int (bx x)
def bxPut (bx:Str->Int) (x:Str) (n:Int):Str->Int:=fun y=>if y=x then n else bx y
theorem BxAt.keep {H H':Hp} {b:Addr} {bx:Str->Int} {m:Nat} (h:BxAt H b bx m) (k:∀ o,H b=some o->H' b=some o):BxAt H' b bx m:=by
 obtain ⟨kvs,e,r⟩:=h
 exact ⟨kvs,k _ e,r⟩
theorem bx_put {kvs:List (Key × V)} {bx:Str->Int} (x:Str) (n:Int) (h:∀ x:Str,(cw kvs (.inr x)).getD (.int 0)=.int (bx x)):∀ y:Str,(cw (putK kvs (.inr x) (.int n)) (.inr y)).getD (.int 0)=.int (bxPut bx x n y):=fun y=>by
 rw [valV_put]
 unfold bxPut
 by_cases c:y=x
 . rw [if_pos (by rw [c]),if_pos c]
   rfl
 . rw [if_neg (fun z=>c (Sum.inr.inj z)),if_neg c]
   exact h y
section
variable {g aT:Addr} {nr mn hd s:Int} {tr:V}
theorem al_n:(al g nr mn hd s aT tr).lookup ("number" : Str)=some (.int nr):=by with_unfolding_all rfl
theorem al_m:(al g nr mn hd s aT tr).lookup ("many" : Str)=some (.int mn):=by with_unfolding_all rfl
theorem al_h:(al g nr mn hd s aT tr).lookup ("held" : Str)=some (.int hd):=by with_unfolding_all rfl
theorem al_s:(al g nr mn hd s aT tr).lookup ("s" : Str)=some (.int s):=by with_unfolding_all rfl
theorem al_t:(al g nr mn hd s aT tr).lookup ("tossed" : Str)=some (.ref aT):=by with_unfolding_all rfl
theorem al_r:(al g nr mn hd s aT tr).lookup ("truths" : Str)=some tr:=by with_unfolding_all rfl
theorem al_n1:(al g nr mn hd s aT tr).lookup ("plain_value" : Str)=none:=by with_unfolding_all rfl
theorem al_n2:(al g nr mn hd s aT tr).lookup ("coin_at" : Str)=none:=by with_unfolding_all rfl
theorem al_n3:(al g nr mn hd s aT tr).lookup ("true_numbers" : Str)=none:=by with_unfolding_all rfl
theorem al_n4:(al g nr mn hd s aT tr).lookup ("true_at" : Str)=none:=by with_unfolding_all rfl
theorem al_put {v:V}:putF "truths" v (al g nr mn hd s aT tr)=al g nr mn hd s aT v:=by with_unfolding_all rfl
theorem al_len:(al g nr mn hd s aT tr).length < 1000:=by show 7 < 1000; decide
end
structure Ak where
 ns:List Str
 ts:List Tr
 p:Int
 nr:Int
 mn:Int
 hd:Int
 s:Int
 to:List Int
def Ak.tru (z:Ak):List Int:=if z.nr=0 then z.ts.map (fun t=>(cnt t z.ns:Int)) else rowL z.ns z.ts z.s z.p z.to (aZ z.ts (z.ns.getD z.to.length "")+1).toNat
structure AkOk (z:Ak):Prop where
 gk:GmK z.ns z.ts z.p
 n6:z.ns.length<=6
 nr0:0<=z.nr
 nrt:0 < z.nr->z.to.length < z.ns.length
 po:PtOk z.to z.p
 s0:0<=z.s
 s1:z.s < z.p
 h0:0<=z.hd
 h1:z.hd < z.p
 tl:z.to.length<=100
def AkAt (CA CG:Addr) (H:Hp) (k g v:Addr) (z:Ak):Prop:=∃ (dk aT a b d:Addr) (tv:List V) (tr:V),H k=some (.ins CA dk (al g z.nr z.mn z.hd z.s aT tr))/\GameAt CG H g a b d z.p/\H a=some (.tup (z.ns.map V.str))/\H b=some (.tup tv)/\TreesAt H tv z.ts/\H d=some (.lst ((z.ns.map (aZ z.ts)).map V.int))/\d ≠ v/\H aT=some (.tup (z.to.map V.int))/\(tr=.non∨∃ l,tr=.ref l/\l ≠ v/\H l=some (.lst (z.tru.map V.int)))
theorem AkAt.same {H H':Hp} {k g v:Addr} {z:Ak} (h:AkAt CA CG H k g v z) (s:Same H H'):AkAt CA CG H' k g v z:=by
 obtain ⟨dk,aT,a,b,d,tv,tr,h1,h2,h3,h4,h5,h6,h7,h8,h9⟩:=h
 exact ⟨dk,aT,a,b,d,tv,tr,s _ _ h1,h2.same s,s _ _ h3,s _ _ h4,h5.mono (keepT_same s),s _ _ h6,h7,s _ _ h8,h9.imp_right fun ⟨l,e,n,r⟩=>⟨l,e,n,s _ _ r⟩⟩
theorem AkAt.but2 {H H':Hp} {k g v b:Addr} {z:Ak} {kvs:List (Key × V)} {ys:List V} (h:AkAt CA CG H k g v z) (hb:H b=some (.dK kvs)) (hv:H v=some (.lst ys)) (s:∀ a o,a ≠ b->a ≠ v->H a=some o->H' a=some o):AkAt CA CG H' k g v z:=by
 obtain ⟨dk,aT,a,b',d,tv,tr,h1,⟨dg,h2⟩,h3,h4,h5,h6,h7,h8,h9⟩:=h
 have T:bO H H':=fun c xs e=>s _ _ (ne_of e hb (by intro z; cases z)) (ne_of e hv (by intro z; cases z)) e
 exact ⟨dk,aT,a,b',d,tv,tr,s _ _ (ne_of h1 hb (by intro z; cases z)) (ne_of h1 hv (by intro z; cases z)) h1,⟨dg,s _ _ (ne_of h2 hb (by intro z; cases z)) (ne_of h2 hv (by intro z; cases z)) h2⟩,T _ _ h3,T _ _ h4,h5.mono T,s _ _ (ne_of h6 hb (by intro z; cases z)) h7 h6,h7,T _ _ h8,h9.imp_right fun ⟨l,e,n,r⟩=>⟨l,e,n,s _ _ (ne_of r hb (by intro z; cases z)) n r⟩⟩
def coinL (z:Ak):List Int:=if 1 < z.ts.length then z.s::z.to else z.to
def coinI (z:Ak) (i:Int):Int:=if 1<=i/\i<=((coinL z).length:Int) then (coinL z).getD (i - 1).toNat 0 else 0
def trueI (z:Ak) (i:Int):Int:=if 0 < z.nr then val z.p z.tru i else if i < (z.tru.length:Int) then z.tru.getD i.toNat 0 % z.p else 0
def plainI (z:Ak) (w:Str):Int:=if w = "round" then z.nr % z.p else if w = "asked" then z.mn % z.p else z.hd
theorem AkOk.p0 {z:Ak} (k:AkOk z):2 < z.p:=k.gk.p2
theorem getD_rng {p:Int} {xs:List Int} (h:PtOk xs p) (p0:0 < p) (i:Nat):0<=xs.getD i 0/\xs.getD i 0 < p:=by
 rw [List.getD_eq_getElem?_getD]
 cases e:xs[i]? with
 | none=>exact ⟨Int.le_refl 0,p0⟩
 | some x=>exact h x (List.mem_of_getElem? e)
theorem coinL_ok {z:Ak} (k:AkOk z):PtOk (coinL z) z.p:=by
 unfold coinL
 split
 . intro x hx
   rcases List.mem_cons.mp hx with rfl | hx
   . exact ⟨k.s0,k.s1⟩
   . exact k.po x hx
 . exact k.po
theorem coinI_rng {z:Ak} (k:AkOk z) (i:Int):0<=coinI z i/\coinI z i < z.p:=by
 have:=k.p0
 unfold coinI
 split
 . exact getD_rng (coinL_ok k) (by omega) _
 . omega
theorem trueI_rng {z:Ak} (k:AkOk z) (i:Int):0<=trueI z i/\trueI z i < z.p:=by
 have:=k.p0
 unfold trueI
 split
 . exact ⟨Int.emod_nonneg _ (by omega),Int.emod_lt_of_pos _ (by omega)⟩
 . split
   . exact ⟨Int.emod_nonneg _ (by omega),Int.emod_lt_of_pos _ (by omega)⟩
   . omega
theorem plainI_rng {z:Ak} (k:AkOk z) (w:Str):0<=plainI z w/\plainI z w < z.p:=by
 have:=k.p0
 unfold plainI
 split
 . exact ⟨Int.emod_nonneg _ (by omega),Int.emod_lt_of_pos _ (by omega)⟩
 . split
   . exact ⟨Int.emod_nonneg _ (by omega),Int.emod_lt_of_pos _ (by omega)⟩
   . exact ⟨k.h0,k.h1⟩
def spPlain (CA CG:Addr):Sp:=fun vs H Q _=>∃ (k g v:Addr) (z:Ak) (w:Str),vs=[.ref k,.str w]/\AkAt CA CG H k g v z/\0 < z.p/\Q (.int (plainI z w)) H
theorem sc_aplain:FnScope ["self", "word"] ["self", "word"] (ag s_aplain):=⟨rfl,rfl,rfl,by decide +kernel,rfl,by decide +kernel,by decide +kernel⟩
theorem ok_aplain {f:Addr} {fd:FuncData} (F:Fun K "plain_value" "Asking.plain_value" s_aplain f fd) (TA:ATxt K mg CA) (TG:GTxt K mg CG):FnOk P w K mg base CX0 1 f fd ["self", "word"] (spPlain CA CG):=by
 refine F.ok sc_aplain (fun vs H Q E h=>?_) (fun cdv A outer s H vs Q E hr h=>?_)
 . obtain ⟨k,g,v,z,w,rfl,_⟩:=h
   rfl
 obtain ⟨k,g,v,z,w,rfl,⟨dk,aT,a,b,d,tv,tr,hk,⟨dg,hg⟩,_⟩,p0,q⟩:=h
 refine ⟨_,(ac (aG (aj aN (pv 1) aD (aq _)) (af (ao (ah aI (aH (pv 0) rfl) (aH (aH (pv 0) rfl) rfl)))) ax)
  (ac (aG (aj aN (pv 1) aD (aq _)) (af (ao (ah aI (aH (pv 0) rfl) (aH (aH (pv 0) rfl) rfl)))) ax)
  (af (ao (aH (pv 0) rfl))))),?_⟩
 unfold plainI at q
 refine ⟨_,rfl,rfl,_,rfl,?_⟩
 by_cases c:w = "round"
 . rw [if_pos c] at q
   refine be (congrArg V.str c) ?_
   exact ⟨_,rfl,k,CA,dk,_,_,rfl,hk,TA.cl,TA.nN,al_n,_,rfl,k,CA,dk,_,_,rfl,hk,TA.cl,TA.nG,al_g,g,CG,dg,_,_,rfl,hg,TG.cl,TG.nF,gf_fi ..,_,_,rfl,rfl,p0,q⟩
 . rw [if_neg c] at q
   refine aw (neS c) ?_
   refine ⟨_,rfl,rfl,_,rfl,?_⟩
   by_cases c:w = "asked"
   . rw [if_pos c] at q
     refine be (congrArg V.str c) ?_
     exact ⟨_,rfl,k,CA,dk,_,_,rfl,hk,TA.cl,TA.nM,al_m,_,rfl,k,CA,dk,_,_,rfl,hk,TA.cl,TA.nG,al_g,g,CG,dg,_,_,rfl,hg,TG.cl,TG.nF,gf_fi ..,_,_,rfl,rfl,p0,q⟩
   . rw [if_neg c] at q
     refine aw (neS c) ?_
     exact ⟨_,rfl,k,CA,dk,_,_,rfl,hk,TA.cl,TA.nH,al_h,q⟩
def spCoinAt (CA CG:Addr):Sp:=fun vs H Q _=>∃ (k g v:Addr) (z:Ak) (i:Int),vs=[.ref k,.int i]/\AkAt CA CG H k g v z/\z.to.length<=100/\∀ H',Same H H'->Q (.int (coinI z i)) H'
theorem sc_acoin:FnScope ["self", "place", "tossed"] ["self", "place"] (ag s_acoin):=⟨rfl,rfl,rfl,by decide +kernel,rfl,by decide +kernel,by decide +kernel⟩
def tCoinE (z:Ak):TS:=fun Dn σ H=>∃ (x0:Option V) (a:Addr) (i:Int),σ=[x0,some (.int i),some (.ref a)]/\H a=some (.tup ((coinL z).map V.int))/\Dn.rt (.int (coinI z i)) H
theorem ok_acoin {f:Addr} {fd:FuncData} (F:Fun K "coin_at" "Asking.coin_at" s_acoin f fd) (B:Bl mg) (TA:ATxt K mg CA) (TG:GTxt K mg CG):FnOk P w K mg base CX0 1 f fd ["self", "place"] (spCoinAt CA CG):=by
 refine F.ok sc_acoin (fun vs H Q E h=>?_) (fun cdv A outer s H vs Q E hr h=>?_)
 . obtain ⟨k,g,v,z,i,rfl,_⟩:=h
   rfl
 obtain ⟨k,g,v,z,i,rfl,⟨dk,aT,a,b,d,tv,tr,hk,⟨dg,hg⟩,ha,hb,TS,_,_,hT,_⟩,tl,q⟩:=h
 have vl:=TS.length
 refine ⟨_,(ac (ak (i:=2) sc_acoin.nd rfl (Or.inl rfl) (aH (pv 0) rfl))
  (ac (aG (aj op_gt (aE aB rfl B.len PySem.boot_len (aa (aH (aH (pv 0) rfl) rfl) ae)) ad (aq _)) (af (ak (i:=2) sc_acoin.nd rfl (Or.inl rfl) (ah op_catT (bu (aa (aH (pv 0) rfl) ae)) (pv 2)))) ax)
  (pss_cut (t':=tCoinE z) (ac (aG (pt_chain op_le op_le ad (pv 1) (aE aB rfl B.len PySem.boot_len (aa (pv 2) ae))) (af (ao (ay aA (pv 2) (ah aR (pv 1) ad) (fun _ _=>rfl)))) ax)
  (af (ao ad))) (by
   rintro Dn σ H ⟨x0,a,i,rfl,ha,q⟩
   unfold coinI at q
   refine ⟨_,rfl,_,_,rfl,rfl,_,rfl,?_⟩
   have el:(((coinL z).map V.int).length:Int)=((coinL z).length:Int):=by rw [List.length_map]
   by_cases c1:1<=i
   . refine be c1 ?_
     refine ⟨_,rfl,a,_,rfl,.inr (SqT.of ha),_,_,rfl,rfl,_,rfl,?_⟩
     by_cases c2:i<=((coinL z).length:Int)
     . rw [if_pos ⟨c1,c2⟩] at q
       refine be (by rw [el]; exact c2) ?_
       obtain ⟨j,ej⟩:∃ j:Nat,i - 1=(j:Int):=⟨(i - 1).toNat,by omega⟩
       rw [ej,Int.toNat_natCast] at q
       refine ⟨_,rfl,_,rfl,_,_,rfl,rfl,a,_,_,_,rfl,rfl,SqT.of ha,?_,q⟩
       rw [ej]
       exact ints_at (by omega)
     . rw [if_neg (fun z=>c2 z.2)] at q
       exact aw (by rw [el]; exact c2) q
   . rw [if_neg (fun z=>c1 z.1)] at q
     exact aw c1 ⟨_,rfl,iteF q⟩)))),?_⟩
 refine ⟨_,rfl,k,CA,dk,_,_,rfl,hk,TA.cl,TA.nT,al_t,?_⟩
 refine ⟨_,rfl,k,CA,dk,_,_,rfl,hk,TA.cl,TA.nG,al_g,g,CG,dg,_,_,rfl,hg,TG.cl,TG.nT,gf_tr ..,b,_,rfl,.inr (SqT.of hb),_,_,rfl,rfl,_,rfl,?_⟩
 by_cases c:1 < z.ts.length
 . refine be (by rw [vl]; omega) ?_
   have ec:coinL z=z.s::z.to:=if_pos c
   refine ⟨_,rfl,k,CA,dk,_,_,rfl,hk,TA.cl,TA.nS,al_s,(by show 1<=sizeLine; decide),fun t ht=>?_⟩
   have I:=Same.new ht (.tup [.int z.s])
   have g1:upd H t (.tup [.int z.s]) t=some (.tup [.int z.s]):=upd_same
   generalize upd H t (.tup [.int z.s])=H1 at I g1
   refine ⟨_,rfl,t,aT,_,_,rfl,rfl,SqT.of g1,SqT.of (I _ _ hT),(fun z=>nomatch z),bv (by show 1+(z.to.map V.int).length<=1000; rw [List.length_map]; omega),fun e=>?_,fun _ y hy=>?_⟩
   . refine ⟨_,t,i,rfl,?_,q _ I⟩
     rw [ec,g1,List.map_cons,e]
   . refine ⟨_,y,i,rfl,?_,q _ (I.trans (Same.new hy _))⟩
     rw [upd_same,ec]
     rfl
 . refine aw (by rw [vl]; omega) ?_
   have ec:coinL z=z.to:=if_neg c
   exact ⟨_,aT,i,rfl,by rw [ec]; exact hT,q _ fun _ _ e=>e⟩
end
section
variable {CM CA CG:Addr}
theorem rowL_len (ns:List Str) (ts:List Tr) (s p:Int) (cs:List Int) (n:Nat):(rowL ns ts s p cs n).length=n:=by
 unfold rowL
 rw [List.length_map,List.length_range]
theorem rowL_rng {ns:List Str} {ts:List Tr} {s p:Int} {cs:List Int} {n:Nat} (hp:0 < p):PtOk (rowL ns ts s p cs n) p:=fun x hx=>by
 unfold rowL at hx
 obtain ⟨k,_,rfl⟩:=List.mem_map.mp hx
 exact ⟨Int.emod_nonneg _ (by omega),Int.emod_lt_of_pos _ hp⟩
theorem AkOk.deg {z:Ak} (k:AkOk z) (h:0 < z.nr):∃ x,z.ns[z.to.length]?=some x/\z.ns.getD z.to.length "" = x/\0<=aZ z.ts x/\aZ z.ts x < z.p/\aZ z.ts x<=400:=by
 have hl:=k.nrt h
 refine ⟨z.ns[z.to.length],List.getElem?_eq_getElem hl,by rw [List.getD_eq_getElem?_getD,List.getElem?_eq_getElem hl]; rfl,?_⟩
 have hm:=List.getElem_mem hl
 obtain ⟨d0,d1⟩:=k.gk.deg _ hm
 refine ⟨d0,d1,?_⟩
 have t0:z.ts ≠ []:=fun e=>by have:=k.gk.t1; rw [e] at this; cases this
 have:=degOf_lt (p:=401) (x:=z.ns[z.to.length]) t0 fun t ht=>by
  have h1:=(k.gk.tok t ht).2.2.2
  have h2:=t.names_len
  have h3:=List.count_le_length (a:=z.ns[z.to.length]) (l:=t.names)
  omega
 omega
theorem AkOk.row {z:Ak} (k:AkOk z) (h:0 < z.nr):RowOk z.tru z.p:=by
 obtain ⟨x,hx,ex,d0,d1,d4⟩:=k.deg h
 have p2:=k.p0
 have p9:=k.gk.p9
 have e:z.tru=rowL z.ns z.ts z.s z.p z.to (aZ z.ts x+1).toNat:=by
  unfold Ak.tru
  rw [if_neg (by omega),ex]
 rw [e]
 unfold RowOk
 rw [rowL_len]
 refine ⟨by omega,by omega,by omega,fun j=>?_⟩
 have:=getD_rng (rowL_rng (ns:=z.ns) (ts:=z.ts) (s:=z.s) (cs:=z.to) (n:=(aZ z.ts x+1).toNat) (show 0 < z.p by omega)) (by omega) j
 omega
def spTruths (CA CG:Addr):Sp:=fun vs H Q _=>∃ (k g v:Addr) (z:Ak) (ys:List V),vs=[.ref k]/\AkAt CA CG H k g v z/\AkOk z/\H v=some (.lst ys)/\∀ (l:Addr) (H':Hp),H' l=some (.lst (z.tru.map V.int))->AkAt CA CG H' k g v z->SameBut k H H'->Q (.ref l) H'
theorem sc_atruths:FnScope ["self"] ["self"] (ag s_atruths):=⟨rfl,rfl,rfl,by decide +kernel,rfl,by decide +kernel,by decide +kernel⟩
theorem ok_atruths {f:Addr} {fd:FuncData} (F:Fun K "true_numbers" "Asking.true_numbers" s_atruths f fd) (TA:ATxt K mg CA) (C_counts_of:Cal P w K mg base 16 "counts_of" ["game"] (spCounts CG)) (C_true_row:Cal P w K mg base 14 "true_row" ["game", "s", "coins"] (spTrue CG)):FnOk P w K mg base CX0 17 f fd ["self"] (spTruths CA CG):=by
 refine F.ok sc_atruths (fun vs H Q E h=>?_) (fun cdv A outer s H vs Q E hr h=>?_)
 . obtain ⟨k,g,v,z,ys,rfl,_⟩:=h
   rfl
 obtain ⟨k,g,v,z,ys,rfl,AK,ok,hv,q⟩:=h
 refine ⟨_,(ac (aG (aj op_isN (aH (pv 0) rfl) pe_non (aq _)) (af (aG (aj aN (aH (pv 0) rfl) ad (aq _)) (af (cq (pv 0) (am C_counts_of hr (by decide) rfl (aa (aH (pv 0) rfl) ae)) rfl)) (af (cq (pv 0) (am C_true_row hr (by decide) rfl (aa (aH (pv 0) rfl) (aa (aH (pv 0) rfl) (aa (aH (pv 0) rfl) ae)))) rfl)))) ax)
  (af (ao (aH (pv 0) rfl)))),?_⟩
 have AK':=AK
 obtain ⟨dk,aT,a,b,d,tv,tr,hk,GA,ha,hb,TS,hd,dv,hT,ht⟩:=AK'
 have t0:z.ts ≠ []:=fun e=>by have:=ok.gk.t1; rw [e] at this; cases this
 have t10:=ok.gk.t10
 have p2:=ok.p0
 have p9:=ok.gk.p9
 refine ⟨_,rfl,k,CA,dk,_,_,rfl,hk,TA.cl,TA.nR,al_r,?_⟩
 rcases ht with rfl | ⟨l,rfl,lv,hl⟩
 . -- not yet asked
   have put:∀ (l:Addr) (H1:Hp),H l=none->Same H H1->H1 l=some (.lst (z.tru.map V.int))->AkAt CA CG (upd H1 k (.ins CA dk (al g z.nr z.mn z.hd z.s aT (.ref l)))) k g v z/\(upd H1 k (.ins CA dk (al g z.nr z.mn z.hd z.s aT (.ref l)))) l=some (.lst (z.tru.map V.int))/\SameBut k H (upd H1 k (.ins CA dk (al g z.nr z.mn z.hd z.s aT (.ref l)))):=by
    intro l H1 l0 S1 hl
    have lk:l ≠ k:=(ne_of_none hk l0).symm
    have U:∀ {c:Addr} {o:HO},c ≠ k->H1 c=some o->(upd H1 k (.ins CA dk (al g z.nr z.mn z.hd z.s aT (.ref l)))) c=some o:=fun n e=>by rw [au n]; exact e
    have gk:g ≠ k:=fun e=>by
     obtain ⟨dg,hg⟩:=GA
     rw [e,hk] at hg
     cases hg
    have kT:bO H (upd H1 k (.ins CA dk (al g z.nr z.mn z.hd z.s aT (.ref l)))):=fun c xs e=>U (ne_of e hk (by intro z; cases z)) (S1 _ _ e)
    obtain ⟨dg,hg⟩:=GA
    exact ⟨⟨dk,aT,a,b,d,tv,.ref l,upd_same,⟨dg,U gk (S1 _ _ hg)⟩,kT _ _ ha,kT _ _ hb,TS.mono kT,U (ne_of hd hk (by intro z; cases z)) (S1 _ _ hd),dv,kT _ _ hT,.inr ⟨l,rfl,(ne_of_none hv l0).symm,U lk hl⟩⟩,U lk hl,(SameBut.of S1).trans (SameBut.upd _)⟩
   refine ⟨rfl,_,rfl,iteT ?_⟩
   refine ⟨_,rfl,k,CA,dk,_,_,rfl,hk,TA.cl,TA.nN,al_n,rfl,_,rfl,?_⟩
   by_cases c:z.nr=0
   . refine be (congrArg V.int c) ?_
     refine ⟨_,rfl,k,CA,dk,_,_,rfl,hk,TA.cl,TA.nG,al_g,g,a,b,d,z.ns,tv,z.ts,z.p,rfl,GA,ha,ok.n6,hb,TS,t10,fun t ht=>⟨(ok.gk.tok t ht).1,by have:=(ok.gk.tok t ht).2.2.1; omega⟩,fun l H1 l0 S1 hl=>?_⟩
     have et:z.tru=z.ts.map (fun t=>(cnt t z.ns:Int)):=if_pos c
     rw [← et] at hl
     obtain ⟨A1,L1,B1⟩:=put l H1 l0 S1 hl
     refine ⟨_,rfl,k,CA,dk,_,rfl,S1 _ _ hk,TA.cl,TA.nR,al_len,?_⟩
     rw [al_put]
     exact ⟨_,rfl,k,CA,dk,_,_,rfl,upd_same,TA.cl,TA.nR,al_r,q l _ L1 A1 B1⟩
   . refine aw (fun e=>c (V.int.inj e)) ?_
     have n0:=ok.nr0
     obtain ⟨x,hx,ex,d0,d1,d4⟩:=ok.deg (by omega)
     refine ⟨_,rfl,k,CA,dk,_,_,rfl,hk,TA.cl,TA.nG,al_g,_,rfl,k,CA,dk,_,_,rfl,hk,TA.cl,TA.nS,al_s,_,rfl,k,CA,dk,_,_,rfl,hk,TA.cl,TA.nT,al_t,g,a,b,d,aT,z.ns,tv,z.ts,z.to,x,z.s,z.p,rfl,GA,ha,ok.n6,hb,TS,t0,t10,fun t ht=>⟨(ok.gk.tok t ht).1,(ok.gk.tok t ht).2.2.1⟩,hd,hT,hx,d1,by omega,ok.po,by omega,by omega,fun l H1 l0 S1 hl=>?_⟩
     have et:z.tru=rowL z.ns z.ts z.s z.p z.to (aZ z.ts x+1).toNat:=by
      unfold Ak.tru
      rw [if_neg c,ex]
     rw [← et] at hl
     obtain ⟨A1,L1,B1⟩:=put l H1 l0 S1 hl
     refine ⟨_,rfl,k,CA,dk,_,rfl,S1 _ _ hk,TA.cl,TA.nR,al_len,?_⟩
     rw [al_put]
     exact ⟨_,rfl,k,CA,dk,_,_,rfl,upd_same,TA.cl,TA.nR,al_r,q l _ L1 A1 B1⟩
 . refine ⟨rfl,_,rfl,iteF ?_⟩
   exact ⟨_,rfl,k,CA,dk,_,_,rfl,hk,TA.cl,TA.nR,al_r,q l H hl AK (SameBut.refl _ _)⟩
def spTrueAt (CA CG:Addr):Sp:=fun vs H Q _=>∃ (k g v:Addr) (z:Ak) (ys:List V) (i:Int),vs=[.ref k,.int i]/\AkAt CA CG H k g v z/\AkOk z/\H v=some (.lst ys)/\0<=i/\i < z.p/\∀ H',AkAt CA CG H' k g v z->SameBut k H H'->Q (.int (trueI z i)) H'
theorem sc_atrue:FnScope ["self", "place", "truths"] ["self", "place"] (ag s_atrue):=⟨rfl,rfl,rfl,by decide +kernel,rfl,by decide +kernel,by decide +kernel⟩
theorem ok_atrue {f fT:Addr} {fd fdT:FuncData} (F:Fun K "true_at" "Asking.true_at" s_atrue f fd) (B:Bl mg) (TA:ATxt K mg CA) (TG:GTxt K mg CG) (mT:Meth K CA "true_numbers" fT) (GT:FnOk P w K mg base CX0 17 fT fdT ["self"] (spTruths CA CG)) (bT:Binds K fdT ["self"] []) (C_value_at:Cal P w K mg base 4 "value_at" ["values", "r", "p"] spVal):FnOk P w K mg base CX0 18 f fd ["self", "place"] (spTrueAt CA CG):=by
 refine F.ok sc_atrue (fun vs H Q E h=>?_) (fun cdv A outer s H vs Q E hr h=>?_)
 . obtain ⟨k,g,v,z,ys,i,rfl,_⟩:=h
   rfl
 obtain ⟨k,g,v,z,ys,i,rfl,AK,ok,hv,i0,i1,q⟩:=h
 refine ⟨_,(ac (ak (i:=2) sc_atrue.nd rfl (Or.inl rfl) (pe_meth0 (pv 0) TA.cl mT GT hr bT .nil pass0))
  (ac (aG (aj op_gt (aH (pv 0) rfl) ad (aq _)) (af (ao (am C_value_at hr (by decide) rfl (aa (pv 2) (aa (pv 1) (aa (aH (aH (pv 0) rfl) rfl) ae)))))) ax)
  (ac (aG (aj op_lt (pv 1) (aE aB rfl B.len PySem.boot_len (aa (pv 2) ae)) (aq _)) (af (ao (ah aI (ay ix_list (pv 2) (pv 1) (fun _ _=>rfl)) (aH (aH (pv 0) rfl) rfl)))) ax)
  (af (ao ad))))),?_⟩
 have p2:=ok.p0
 have p9:=ok.gk.p9
 obtain ⟨dk,aT,_,_,_,_,tr,hk,_⟩:=id AK
 refine ⟨_,rfl,k,dk,_,rfl,hk,al_n3,k,g,v,z,ys,rfl,AK,ok,hv,fun l H1 hl A1 S1=>?_⟩
 have A1':=A1
 obtain ⟨dk1,aT1,a1,b1,d1,tv1,tr1,hk1,⟨dg1,hg1⟩,_⟩:=A1'
 unfold trueI at q
 refine ⟨_,rfl,k,CA,dk1,_,_,rfl,hk1,TA.cl,TA.nN,al_n,_,_,rfl,rfl,_,rfl,?_⟩
 by_cases c:0 < z.nr
 . rw [if_pos c] at q
   refine be c ?_
   exact ⟨_,rfl,_,rfl,_,rfl,k,CA,dk1,_,_,rfl,hk1,TA.cl,TA.nG,al_g,g,CG,dg1,_,_,rfl,hg1,TG.cl,TG.nF,gf_fi ..,l,z.tru,i,z.p,rfl,.inl hl,ok.row c,ok.gk.pr,p9,i0,i1,fun H2 S2=>q H2 (A1.same S2) (S1.trans (SameBut.of S2))⟩
 . rw [if_neg c] at q
   refine aw c ?_
   refine ⟨_,rfl,_,rfl,l,_,rfl,.inl (SqL.of hl),_,_,rfl,rfl,_,rfl,?_⟩
   have el:((z.tru.map V.int).length:Int)=(z.tru.length:Int):=by rw [List.length_map]
   by_cases c2:i < (z.tru.length:Int)
   . rw [if_pos c2] at q
     refine be (by rw [el]; exact c2) ?_
     obtain ⟨j,rfl⟩:=Int.eq_ofNat_of_zero_le i0
     rw [Int.toNat_natCast] at q
     exact ⟨_,rfl,_,rfl,l,_,_,_,rfl,rfl,SqL.of hl,ints_at (by omega),_,rfl,k,CA,dk1,_,_,rfl,hk1,TA.cl,TA.nG,al_g,g,CG,dg1,_,_,rfl,hg1,TG.cl,TG.nF,gf_fi ..,_,_,rfl,rfl,(by show 0 < z.p; omega),q H1 A1 S1⟩
   . rw [if_neg c2] at q
     refine aw (by rw [el]; exact c2) ?_
     exact q H1 A1 S1
noncomputable def Tm.worth (z:Ak) (bx:Str->Int):Tm->Int
 | .num n=>n % z.p | .box x=>bx x | .plain w=>plainI z w
 | .ask w a=>if w = "coin" then coinI z (a.worth z bx) else trueI z (a.worth z bx)
 | .op s a b=>opV z.p s (a.worth z bx) (b.worth z bx)
def Tm.good:Tm->Prop
 | .num _=>True | .box _=>True | .plain w=>w ∈ plainW | .ask w a=>w ∈ askW/\a.good | .op s a b=>s ∈ signW/\a.good/\b.good
def BxOk (p:Int) (bx:Str->Int):Prop:=∀ x,0<=bx x/\bx x < p
theorem Tm.worth_rng {z:Ak} {bx:Str->Int} (k:AkOk z) (hb:BxOk z.p bx):∀ t:Tm,0<=t.worth z bx/\t.worth z bx < z.p
 | .num n=>by have:=k.p0; exact ⟨Int.emod_nonneg _ (by omega),Int.emod_lt_of_pos _ (by omega)⟩
 | .box x=>hb x
 | .plain w=>plainI_rng k w
 | .ask w a=>by
   show 0<=(if w = "coin" then coinI z (a.worth z bx) else trueI z (a.worth z bx))/\(if w = "coin" then coinI z (a.worth z bx) else trueI z (a.worth z bx)) < z.p
   split
   . exact coinI_rng k _
   . exact trueI_rng k _
 | .op s a b=>by have:=k.p0; exact opV_rng (by omega)
def spTm (CA CG:Addr) (n:Nat):Sp:=fun vs H Q _=>∃ (v:V) (t:Tm) (b k g sd:Addr) (z:Ak) (ys:List V) (bx:Str->Int) (m:Nat),vs=[v,.ref b,.ref k]/\TmAt H v t/\t.good/\t.depth<=n/\BxAt H b bx m/\BxOk z.p bx/\AkAt CA CG H k g sd z/\AkOk z/\H sd=some (.lst ys) /\
 ∀ H',AkAt CA CG H' k g sd z->SameBut k H H'->Q (.int (t.worth z bx)) H'
theorem sc_value_of:FnScope ["term", "boxes", "asking", "word", "first", "second"] ["term", "boxes", "asking"] (ag cS):=⟨rfl,rfl,rfl,by decide +kernel,rfl,by decide +kernel,by decide +kernel⟩
structure AskF (P:Program) (w:World) (K:W.Frag) (mg:Str->Option Value) (base:Heap) (CA CG fP fC fR:Addr) (fdP fdC fdR:FuncData):Prop where
 mP:Meth K CA "plain_value" fP
 GP:FnOk P w K mg base CX0 1 fP fdP ["self", "word"] (spPlain CA CG)
 bP:Binds K fdP ["self", "word"] []
 mC:Meth K CA "coin_at" fC
 GC:FnOk P w K mg base CX0 1 fC fdC ["self", "place"] (spCoinAt CA CG)
 bC:Binds K fdC ["self", "place"] []
 mR:Meth K CA "true_at" fR
 GR:FnOk P w K mg base CX0 18 fR fdR ["self", "place"] (spTrueAt CA CG)
 bR:Binds K fdR ["self", "place"] []
theorem val_step {n:Nat} {f fP fC fR:Addr} {fd fdP fdC fdR:FuncData} (F:Fun K "value_of" "value_of" cS f fd) (TA:ATxt K mg CA) (TG:GTxt K mg CG) (M:AskF P w K mg base CA CG fP fC fR fdP fdC fdR) (C_op_value:Cal P w K mg base 3 "op_value" ["sign", "first", "second", "p"] spOp) (C_value_of:Cal P w K mg base (n+18) "value_of" ["term", "boxes", "asking"] (spTm CA CG n)):FnOk P w K mg base CX0 (n+19) f fd ["term", "boxes", "asking"] (spTm CA CG (n+1)):=by
 refine F.ok sc_value_of (fun vs H Q E h=>?_) (fun cdv A outer s H vs Q E hr h=>?_)
 . obtain ⟨v,t,b,k,g,sd,z,ys,bx,m,rfl,_⟩:=h
   rfl
 obtain ⟨v,t,b,k,g,sd,z,ys,bx,m,rfl,T,tg,td,BX,bo,AK,ok,hs,q⟩:=h
 have hu:=hu_of hr
 have hr1:Room 1 _:=hr.mono (by omega)
 have hr18:Room 18 _:=hr.mono (by omega)
 refine ⟨_,(ac (ak (i:=3) sc_value_of.nd rfl (Or.inl rfl) (ay aA (pv 0) ad (fun _ _=>rfl)))
  (ac (aG (aj aN (pv 3) aD (aq _)) (af (ao (ah aI (ay aA (pv 0) ad (fun _ _=>rfl)) (aH (aH (pv 2) rfl) rfl)))) ax)
  (ac (aG (aj aN (pv 3) aD (aq _)) (af (ao (pe_dget2 hu (pv 1) (ay aA (pv 0) ad (fun _ _=>rfl)) ad ⟨rfl,rfl,rfl,rfl⟩))) ax)
  (ac (aG (aj aN (pv 3) aD (aq _)) (af (ao (pe_meth (pv 2) TA.cl M.mC M.GC hr1 M.bC .nil pass0 (aa (am C_value_of hr (Nat.le_refl _) rfl (aa (ay aA (pv 0) ad (fun _ _=>rfl)) (aa (pv 1) (aa (pv 2) ae)))) ae)))) ax)
  (ac (aG (aj aN (pv 3) aD (aq _)) (af (ao (pe_meth (pv 2) TA.cl M.mR M.GR hr18 M.bR .nil pass0 (aa (am C_value_of hr (Nat.le_refl _) rfl (aa (ay aA (pv 0) ad (fun _ _=>rfl)) (aa (pv 1) (aa (pv 2) ae)))) ae)))) ax)
  (ac (aG (aj aN (pv 3) aD (aq _)) (ac (ak (i:=4) sc_value_of.nd rfl (Or.inl rfl) (am C_value_of hr (Nat.le_refl _) rfl (aa (ay aA (pv 0) ad (fun _ _=>rfl)) (aa (pv 1) (aa (pv 2) ae)))))
   (ac (ak (i:=5) sc_value_of.nd rfl (Or.inl rfl) (am C_value_of hr (Nat.le_refl _) rfl (aa (ay aA (pv 0) ad (fun _ _=>rfl)) (aa (pv 1) (aa (pv 2) ae)))))
   (af (ao (am C_op_value hr (by omega) rfl (aa (ay aA (pv 0) ad (fun _ _=>rfl)) (aa (pv 4) (aa (pv 5) (aa (aH (aH (pv 2) rfl) rfl) ae))))))))) ax)
  (af (ao (pe_meth (pv 2) TA.cl M.mP M.GP hr1 M.bP .nil pass0 (aa (pv 3) ae)))))))))),?_⟩
 have AK':=AK
 obtain ⟨dk,aT,ga,gb,gd,tv,tr,hk,⟨dg,hg⟩,_⟩:=AK'
 have p2:=ok.p0
 have p0:0 < z.p:=by omega
 have kT:∀ {H':Hp},SameBut k H H'->bO H H':=fun s c xs e=>s _ _ (ne_of e hk (by intro z; cases z)) e
 have kB:∀ {H':Hp},SameBut k H H'->BxAt H' b bx m:=fun s=>BX.keep fun o e=>s _ _ (by
  obtain ⟨kvs,e',_⟩:=BX
  exact ne_of e' hk (by intro z; cases z)) e
 have kS:∀ {H':Hp},SameBut k H H'->H' sd=some (.lst ys):=fun s=>s _ _ (ne_of hs hk (by intro z; cases z)) hs
 cases T with
 | @num a n e =>
   refine ⟨_,rfl,a,_,0,_,rfl,rfl,SqT.of e,rfl,?_⟩
   refine ⟨_,rfl,rfl,_,rfl,be rfl ?_⟩
   exact ⟨_,rfl,a,_,1,_,rfl,rfl,SqT.of e,rfl,_,rfl,k,CA,dk,_,_,rfl,hk,TA.cl,TA.nG,al_g,g,CG,dg,_,_,rfl,hg,TG.cl,TG.nF,gf_fi ..,_,_,rfl,rfl,p0,q H AK (SameBut.refl _ _)⟩
 | @box a x e =>
   refine ⟨_,rfl,a,_,0,_,rfl,rfl,SqT.of e,rfl,?_⟩
   refine ⟨_,rfl,rfl,_,rfl,aw (neS (by decide +kernel)) ?_⟩
   refine ⟨_,rfl,rfl,_,rfl,be rfl ?_⟩
   obtain ⟨kvs,hb,_,hx⟩:=BX
   refine ⟨_,rfl,b,rfl,.inl ⟨kvs,.inl hb⟩,_,rfl,a,_,1,_,rfl,rfl,SqT.of e,rfl,_,DGet.k (k:=.inr x) hb,?_⟩
   rw [hx]
   exact q H AK (SameBut.refl _ _)
 | @plain a wd e =>
   have no:∀ x:Str,x ∉ plainW->¬ V.str wd=V.str x:=fun x hx e=>hx (by rw [← V.str.inj e]; exact tg)
   refine ⟨_,rfl,a,_,0,_,rfl,rfl,SqT.of e,rfl,?_⟩
   refine ⟨_,rfl,rfl,_,rfl,aw (no _ (by decide +kernel)) ?_⟩
   refine ⟨_,rfl,rfl,_,rfl,aw (no _ (by decide +kernel)) ?_⟩
   refine ⟨_,rfl,rfl,_,rfl,aw (no _ (by decide +kernel)) ?_⟩
   refine ⟨_,rfl,rfl,_,rfl,aw (no _ (by decide +kernel)) ?_⟩
   refine ⟨_,rfl,rfl,_,rfl,aw (no _ (by decide +kernel)) ?_⟩
   exact ⟨_,rfl,k,dk,_,rfl,hk,al_n1,_,rfl,k,g,sd,z,wd,rfl,AK,p0,q H AK (SameBut.refl _ _)⟩
 | @ask a wd v1 t1 e T1 =>
   obtain ⟨wq,tq⟩:=tg
   have hw:wd = "coin" ∨ wd = "true" := by simpa [askW] using wq
   have d1:t1.depth<=n:=by have:t1.depth+1<=n+1:=td; omega
   have wr:=Tm.worth_rng ok bo t1
   refine ⟨_,rfl,a,_,0,_,rfl,rfl,SqT.of e,rfl,?_⟩
   rcases hw with rfl | rfl
   . refine ⟨_,rfl,rfl,_,rfl,aw (neS (by decide +kernel)) ?_⟩
     refine ⟨_,rfl,rfl,_,rfl,aw (neS (by decide +kernel)) ?_⟩
     refine ⟨_,rfl,rfl,_,rfl,be rfl ?_⟩
     refine ⟨_,rfl,k,dk,_,rfl,hk,al_n2,_,rfl,a,_,1,_,rfl,rfl,SqT.of e,rfl,_,rfl,_,rfl,v1,t1,b,k,g,sd,z,ys,bx,m,rfl,T1,tq,d1,BX,bo,AK,ok,hs,fun H1 A1 S1=>?_⟩
     refine ⟨k,g,sd,z,_,rfl,A1,ok.tl,fun H2 S2=>?_⟩
     have qq:=q H2 (A1.same S2) (S1.trans (SameBut.of S2))
     have e1:(Tm.ask "coin" t1).worth z bx=coinI z (t1.worth z bx):=if_pos rfl
     rw [e1] at qq
     exact qq
   . refine ⟨_,rfl,rfl,_,rfl,aw (neS (by decide +kernel)) ?_⟩
     refine ⟨_,rfl,rfl,_,rfl,aw (neS (by decide +kernel)) ?_⟩
     refine ⟨_,rfl,rfl,_,rfl,aw (neS (by decide +kernel)) ?_⟩
     refine ⟨_,rfl,rfl,_,rfl,be rfl ?_⟩
     refine ⟨_,rfl,k,dk,_,rfl,hk,al_n4,_,rfl,a,_,1,_,rfl,rfl,SqT.of e,rfl,_,rfl,_,rfl,v1,t1,b,k,g,sd,z,ys,bx,m,rfl,T1,tq,d1,BX,bo,AK,ok,hs,fun H1 A1 S1=>?_⟩
     refine ⟨k,g,sd,z,ys,_,rfl,A1,ok,kS S1,wr.1,wr.2,fun H2 A2 S2=>?_⟩
     have qq:=q H2 A2 (S1.trans S2)
     have e1:(Tm.ask "true" t1).worth z bx=trueI z (t1.worth z bx):=if_neg (by decide +kernel)
     rw [e1] at qq
     exact qq
 | @op a o v1 v2 t1 t2 e T1 T2 =>
   obtain ⟨oq,q1,q2⟩:=tg
   have d1:t1.depth<=n:=by have:max t1.depth t2.depth+1<=n+1:=td; omega
   have d2:t2.depth<=n:=by have:max t1.depth t2.depth+1<=n+1:=td; omega
   have w1:=Tm.worth_rng ok bo t1
   have w2:=Tm.worth_rng ok bo t2
   refine ⟨_,rfl,a,_,0,_,rfl,rfl,SqT.of e,rfl,?_⟩
   refine ⟨_,rfl,rfl,_,rfl,aw (neS (by decide +kernel)) ?_⟩
   refine ⟨_,rfl,rfl,_,rfl,aw (neS (by decide +kernel)) ?_⟩
   refine ⟨_,rfl,rfl,_,rfl,aw (neS (by decide +kernel)) ?_⟩
   refine ⟨_,rfl,rfl,_,rfl,aw (neS (by decide +kernel)) ?_⟩
   refine ⟨_,rfl,rfl,_,rfl,be rfl ?_⟩
   refine ⟨_,rfl,a,_,2,_,rfl,rfl,SqT.of e,rfl,_,rfl,_,rfl,v1,t1,b,k,g,sd,z,ys,bx,m,rfl,T1,q1,d1,BX,bo,AK,ok,hs,fun H1 A1 S1=>?_⟩
   have e1:=kT S1 _ _ e
   refine ⟨_,rfl,a,_,3,_,rfl,rfl,SqT.of e1,rfl,_,rfl,_,rfl,v2,t2,b,k,g,sd,z,ys,bx,m,rfl,T2.mono (kT S1),q2,d2,kB S1,bo,A1,ok,kS S1,fun H2 A2 S2=>?_⟩
   have e2:=kT (S1.trans S2) _ _ e
   obtain ⟨dk2,aT2,_,_,_,_,tr2,hk2,⟨dg2,hg2⟩,_⟩:=id A2
   exact ⟨_,rfl,a,_,1,_,rfl,rfl,SqT.of e2,rfl,_,rfl,_,rfl,_,rfl,k,CA,dk2,_,_,rfl,hk2,TA.cl,TA.nG,al_g,g,CG,dg2,_,_,rfl,hg2,TG.cl,TG.nF,gf_fi ..,o,_,_,z.p,rfl,oq,ok.gk.pr,ok.gk.p9,w1.1,w1.2,w2.1,w2.2,q H2 A2 (S1.trans S2)⟩
theorem val_zero {f:Addr} {fd:FuncData}:FnOk P w K mg base CX0 18 f fd ["term", "boxes", "asking"] (spTm CA CG 0):=by
 have no:∀ vs H Q E,¬ spTm CA CG 0 vs H Q E:=fun vs H Q E h=>by
  obtain ⟨v,t,_,_,_,_,_,_,_,_,_,_,_,h1,_⟩:=h
  have:=t.depth_pos
  omega
 exact ⟨fun vs H Q E h=>absurd h (no vs H Q E),fun A outer s H args us vs Q E _ _ _ _ h=>absurd h (no vs H Q E)⟩
theorem ok_value_of {f fP fC fR:Addr} {fd fdP fdC fdR:FuncData} (F:Fun K "value_of" "value_of" cS f fd) (m:mg "value_of" = some (.ref f)) (TA:ATxt K mg CA) (TG:GTxt K mg CG) (M:AskF P w K mg base CA CG fP fC fR fdP fdC fdR) (C_op_value:Cal P w K mg base 3 "op_value" ["sign", "first", "second", "p"] spOp) :
 ∀ n:Nat,FnOk P w K mg base CX0 (n+18) f fd ["term", "boxes", "asking"] (spTm CA CG n)
 | 0=>val_zero
 | n+1=>val_step F TA TG M C_op_value (Cal.of F (ok_value_of F m TA TG M C_op_value n) m (fun _ _ _ _ _ _ us hl=>by obtain ⟨u0,u1,u2,rfl⟩:=len3 hl; rfl))
end
section
variable {CM CA CG:Addr}
structure MS where
 pl:Int
 bx:Str->Int
 sd:List Int
noncomputable def stepR (z:Ak) (len:Int) (s:MS):Hr->MS
 | .fin=>⟨len,s.bx,s.sd⟩
 | .go n=>⟨n,s.bx,s.sd⟩
 | .iff t n=>⟨if t.worth z s.bx=0 then s.pl+1 else n,s.bx,s.sd⟩
 | .set x t=>⟨s.pl+1,bxPut s.bx x (t.worth z s.bx),s.sd⟩
 | .say t=>⟨s.pl+1,s.bx,s.sd++[t.worth z s.bx]⟩
noncomputable def stepM (z:Ak) (rows:List Hr) (s:MS):MS:=match rows[s.pl.toNat]? with
 | some r=>stepR z rows.length s r
 | none=>s
noncomputable def runM (z:Ak) (rows:List Hr):Nat->MS->MS
 | 0,s=>s
 | n+1,s=>if s.pl < (rows.length:Int)/\(s.sd.length:Int) < z.mn then runM z rows n (stepM z rows s) else s
def outM (mn:Int) (sd:List Int):List Int:=sd++List.replicate (mn - (sd.length:Int)).toNat 0
def Hr.good:Hr->Prop
 | .fin=>True | .go n=>0<=n | .iff t n=>t.good/\t.depth<=5/\0<=n | .set _ t=>t.good/\t.depth<=5 | .say t=>t.good/\t.depth<=5
theorem stepM_pl {z:Ak} {rows:List Hr} (hq:∀ r ∈ rows,r.good) {s:MS} (h:0<=s.pl):0<=(stepM z rows s).pl:=by
 unfold stepM
 cases e:rows[s.pl.toNat]? with
 | none=>exact h
 | some r =>
   have q:=hq r (List.mem_of_getElem? e)
   cases r with
   | fin=>exact Int.natCast_nonneg _
   | go n=>exact q
   | iff t n =>
     show 0<=if t.worth z s.bx=0 then s.pl+1 else n
     by_cases c:t.worth z s.bx=0
     . rw [if_pos c]; omega
     . rw [if_neg c]; exact q.2.2
   | set x t=>show 0<=s.pl+1; omega
   | say t=>show 0<=s.pl+1; omega
theorem stepM_sd {z:Ak} {rows:List Hr} {s:MS}:(stepM z rows s).sd.length<=s.sd.length+1:=by
 unfold stepM
 cases e:rows[s.pl.toNat]? with
 | none=>exact Nat.le_succ _
 | some r =>
   cases r with
   | fin=>exact Nat.le_succ _
   | go n=>exact Nat.le_succ _
   | iff t n=>exact Nat.le_succ _
   | set x t=>exact Nat.le_succ _
   | say t=>show (s.sd++[_]).length<=_; rw [List.length_append]; exact Nat.le_refl _
theorem bxPut_ok {p n:Int} {bx:Str->Int} {x:Str} (h:BxOk p bx) (h0:0<=n) (h1:n < p):BxOk p (bxPut bx x n):=fun y=>by
 unfold bxPut
 split
 . exact ⟨h0,h1⟩
 . exact h y
theorem stepM_ok {z:Ak} {rows:List Hr} {s:MS} (k:AkOk z) (h:BxOk z.p s.bx) (hs:PtOk s.sd z.p):BxOk z.p (stepM z rows s).bx/\PtOk (stepM z rows s).sd z.p:=by
 unfold stepM
 cases e:rows[s.pl.toNat]? with
 | none=>exact ⟨h,hs⟩
 | some r =>
   cases r with
   | fin=>exact ⟨h,hs⟩
   | go n=>exact ⟨h,hs⟩
   | iff t n=>exact ⟨h,hs⟩
   | set x t =>
     have w:=Tm.worth_rng k h t
     exact ⟨bxPut_ok h w.1 w.2,hs⟩
   | say t =>
     have w:=Tm.worth_rng k h t
     refine ⟨h,fun y hy=>?_⟩
     rcases List.mem_append.mp hy with hy | hy
     . exact hs y hy
     . rw [List.mem_singleton.mp hy]
       exact w
theorem runM_ok {z:Ak} {rows:List Hr} (k:AkOk z):∀ (n:Nat) (s:MS),BxOk z.p s.bx->PtOk s.sd z.p->(s.sd.length:Int)<=z.mn->BxOk z.p (runM z rows n s).bx/\PtOk (runM z rows n s).sd z.p/\((runM z rows n s).sd.length:Int)<=z.mn
 | 0,s,h,hs,hl=>⟨h,hs,hl⟩
 | n+1,s,h,hs,hl=>by
   show BxOk z.p (if _ then _ else _:MS).bx/\PtOk (if _ then _ else _:MS).sd z.p/\((if _ then _ else _:MS).sd.length:Int)<=z.mn
   by_cases c:s.pl < (rows.length:Int)/\(s.sd.length:Int) < z.mn
   . rw [if_pos c]
     obtain ⟨h1,h2⟩:=stepM_ok (rows:=rows) k h hs
     have:=stepM_sd (z:=z) (rows:=rows) (s:=s)
     exact runM_ok k n _ h1 h2 (by omega)
   . rw [if_neg c]
     exact ⟨h,hs,hl⟩
def RowsAt (H:Hp) (rv:List V) (rows:List Hr):Prop:=rv.length=rows.length/\∀ (i:Nat) (v:V) (r:Hr),rv[i]?=some v->rows[i]?=some r->HrAt H v r
theorem RowsAt.mono {H H':Hp} {rv:List V} {rows:List Hr} (h:RowsAt H rv rows) (k:bO H H'):RowsAt H' rv rows:=⟨h.1,fun i v r h1 h2=>(h.2 i v r h1 h2).mono k⟩
def But2 (b c:Addr) (H H':Hp):Prop:=∀ a o,a ≠ b->a ≠ c->H a=some o->H' a=some o
theorem BxAt.le {H:Hp} {b:Addr} {bx:Str->Int} {m n:Nat} (h:BxAt H b bx m) (k:m<=n):BxAt H b bx n:=by
 obtain ⟨kvs,e,l,r⟩:=h
 exact ⟨kvs,e,Nat.le_trans l k,r⟩
def But3 (b c d:Addr) (H H':Hp):Prop:=∀ a o,a ≠ b->a ≠ c->a ≠ d->H a=some o->H' a=some o
theorem But3.trans {b c d:Addr} {H H1 H2:Hp} (x:But3 b c d H H1) (y:But3 b c d H1 H2):But3 b c d H H2:=fun a o h1 h2 h3 e=>y a o h1 h2 h3 (x a o h1 h2 h3 e)
def spRowM (CM CA CG:Addr):Sp:=fun vs H Q _=>∃ (M g h b dm k sd:Addr) (rv:List V) (r pl:Int) (z:Ak) (rows:List Hr) (bx:Str->Int) (m:Nat) (said:List Int),
 vs=[.ref M,.int pl,.ref sd,.ref k]/\H M=some (.ins CM dm (ml g h r b))/\M ≠ k/\H h=some (.tup rv)/\RowsAt H rv rows/\(∀ r ∈ rows,r.good)/\0<=pl/\pl < (rows.length:Int)/\BxAt H b bx m/\BxOk z.p bx/\m<=10000/\H sd=some (.lst (said.map V.int))/\said.length<=900/\AkAt CA CG H k g sd z/\AkOk z /\
 ∀ H',H' sd=some (.lst ((stepM z rows ⟨pl,bx,said⟩).sd.map V.int))->BxAt H' b (stepM z rows ⟨pl,bx,said⟩).bx (m+1)->AkAt CA CG H' k g sd z->But3 b sd k H H'->Q (.int (stepM z rows ⟨pl,bx,said⟩).pl) H'
theorem sc_mrow:FnScope ["self", "place", "said", "asking", "row", "word"] ["self", "place", "said", "asking"] (ag s_mrow):=⟨rfl,rfl,rfl,by decide +kernel,rfl,by decide +kernel,by decide +kernel⟩
theorem ok_mrow {f:Addr} {fd:FuncData} (F:Fun K "do_row" "Machine.do_row" s_mrow f fd) (B:Bl mg) (TM:MTxt K mg CM) (C_value_of:Cal P w K mg base 23 "value_of" ["term", "boxes", "asking"] (spTm CA CG 5)):FnOk P w K mg base CX0 24 f fd ["self", "place", "said", "asking"] (spRowM CM CA CG):=by
 refine F.ok sc_mrow (fun vs H Q E h=>?_) (fun cdv A outer s H vs Q E hr h=>?_)
 . obtain ⟨M,g,h,b,dm,k,sd,rv,r,pl,z,rows,bx,m,said,rfl,_⟩:=h
   rfl
 obtain ⟨M,g,h,b,dm,k,sd,rv,rn,pl,z,rows,bx,m,said,rfl,hM,nMk,hh,RW,rq,pl0,pl1,BX,bo,m1,hsd,sl,AK,ok,q⟩:=h
 have hu:=hu_of hr
 refine ⟨_,(ac (ak (i:=4) sc_mrow.nd rfl (Or.inl rfl) (ay aA (aH (pv 0) rfl) (pv 1) (fun _ _=>rfl)))
  (ac (ak (i:=5) sc_mrow.nd rfl (Or.inl rfl) (ay aA (pv 4) ad (fun _ _=>rfl)))
  (ac (aG (aj aN (pv 5) aD (aq _)) (af (ao (aE aB rfl B.len PySem.boot_len (aa (aH (pv 0) rfl) ae)))) ax)
  (ac (aG (aj aN (pv 5) aD (aq _)) (af (ao (ay aA (pv 4) ad (fun _ _=>rfl)))) ax)
  (ac (aG (aj aN (pv 5) aD (aq _)) (af (ps_dput hu (aH (pv 0) rfl) (ay aA (pv 4) ad (fun _ _=>rfl)) (am C_value_of hr (by decide) rfl (aa (ay aA (pv 4) ad (fun _ _=>rfl)) (aa (aH (pv 0) rfl) (aa (pv 3) ae)))) rfl)) (af (aG (aj aN (pv 5) aD (aq _)) (af (dc (pe_bm PySem.F.plainAttrs_list PySem.F.slot_list_append PySem.F.type_list_append cI (pv 2) (aa (am C_value_of hr (by decide) rfl (aa (ay aA (pv 4) ad (fun _ _=>rfl)) (aa (aH (pv 0) rfl) (aa (pv 3) ae)))) ae)))) (af (aG (aj op_ne (am C_value_of hr (by decide) rfl (aa (ay aA (pv 4) ad (fun _ _=>rfl)) (aa (aH (pv 0) rfl) (aa (pv 3) ae)))) ad (aq _)) (af (ao (ay aA (pv 4) ad (fun _ _=>rfl)))) ax)))))
  (af (ao (ah aU (pv 1) ad)))))))),?_⟩
 obtain ⟨i,rfl⟩:=Int.eq_ofNat_of_zero_le pl0
 have hi:i < rows.length:=by omega
 have hi':i < rv.length:=by rw [RW.1]; exact hi
 have er:rows[i]?=some rows[i]:=List.getElem?_eq_getElem hi
 have ev:rv[i]?=some rv[i]:=List.getElem?_eq_getElem hi'
 have RA:=RW.2 i _ _ ev er
 have rqi:=rq _ (List.getElem_mem hi)
 have hst:stepM z rows ⟨(i:Int),bx,said⟩=stepR z rows.length ⟨(i:Int),bx,said⟩ rows[i]:=by
  unfold stepM
  rw [show ((⟨(i:Int),bx,said⟩:MS).pl.toNat)=i from Int.toNat_natCast i,er]
 rw [hst] at q
 generalize rows[i]=row at RA rqi q er hst
 have at_:atI rv (i:Int)=some rv[i]:=cn ev
 generalize rv[i]=v at RA at_ ev
 refine ⟨_,rfl,M,CM,dm,_,_,rfl,hM,TM.cl,TM.nH,ml_h,_,rfl,h,_,_,v,rfl,rfl,SqT.of hh,at_,?_⟩
 have K0:But3 b sd k H H:=fun _ _ _ _ _ e=>e
 have nBS:sd ≠ b:=by
  obtain ⟨kvs,e,_⟩:=BX
  exact ne_of hsd e (by intro z; cases z)
 obtain ⟨kvs,hb,kl,hx⟩:=id BX
 obtain ⟨dk,_,_,_,_,_,_,hk,_⟩:=id AK
 have kT:∀ {H':Hp},SameBut k H H'->bO H H':=fun s c xs e=>s _ _ (ne_of e hk (by intro z; cases z)) e
 have nbk:b ≠ k:=ne_of hb hk (by intro z; cases z)
 have nsk:sd ≠ k:=ne_of hsd hk (by intro z; cases z)
 cases RA with
 | @fin a e =>
   refine ⟨_,rfl,a,_,0,_,rfl,rfl,SqT.of e,rfl,?_⟩
   refine ⟨_,rfl,rfl,_,rfl,be rfl ?_⟩
   refine ⟨_,rfl,M,CM,dm,_,_,rfl,hM,TM.cl,TM.nH,ml_h,h,_,rfl,.inr (SqT.of hh),?_⟩
   rw [RW.1]
   exact q H hsd (BX.le (Nat.le_succ _)) AK K0
 | @go a n e =>
   refine ⟨_,rfl,a,_,0,_,rfl,rfl,SqT.of e,rfl,?_⟩
   refine ⟨_,rfl,rfl,_,rfl,aw (neS (by decide +kernel)) ?_⟩
   refine ⟨_,rfl,rfl,_,rfl,be rfl ?_⟩
   exact ⟨_,rfl,a,_,1,_,rfl,rfl,SqT.of e,rfl,q H hsd (BX.le (Nat.le_succ _)) AK K0⟩
 | @iff a u t n e T =>
   refine ⟨_,rfl,a,_,0,_,rfl,rfl,SqT.of e,rfl,?_⟩
   refine ⟨_,rfl,rfl,_,rfl,aw (neS (by decide +kernel)) ?_⟩
   refine ⟨_,rfl,rfl,_,rfl,aw (neS (by decide +kernel)) ?_⟩
   refine ⟨_,rfl,rfl,_,rfl,aw (neS (by decide +kernel)) ?_⟩
   refine ⟨_,rfl,rfl,_,rfl,aw (neS (by decide +kernel)) ?_⟩
   refine ⟨_,rfl,a,_,1,_,rfl,rfl,SqT.of e,rfl,_,rfl,M,CM,dm,_,_,rfl,hM,TM.cl,TM.nB,ml_b,_,rfl,u,t,b,k,g,sd,z,_,bx,m,rfl,T,rqi.1,rqi.2.1,BX,bo,AK,ok,hsd,fun H1 A1 S1=>?_⟩
   refine ⟨rfl,_,rfl,?_⟩
   have q':∀ H',H' sd=some (.lst (said.map V.int))->BxAt H' b bx (m+1)->AkAt CA CG H' k g sd z->But3 b sd k H H'->Q (.int (if t.worth z bx=0 then (i:Int)+1 else n)) H':=q
   have q1:=q' H1 (S1 _ _ nsk hsd) ((BX.keep fun o e=>S1 _ _ nbk e).le (Nat.le_succ _)) A1 (fun c o _ _ h3 e=>S1 _ _ h3 e)
   by_cases c:t.worth z bx=0
   . rw [if_pos c] at q1
     refine iteNS (congrArg V.int c) ?_
     exact ⟨_,rfl,_,_,rfl,rfl,q1⟩
   . rw [if_neg c] at q1
     refine iteN (fun z=>c (V.int.inj z)) ?_
     exact ⟨_,rfl,a,_,2,_,rfl,rfl,SqT.of (kT S1 _ _ e),rfl,q1⟩
 | @set a x u t e T =>
   refine ⟨_,rfl,a,_,0,_,rfl,rfl,SqT.of e,rfl,?_⟩
   refine ⟨_,rfl,rfl,_,rfl,aw (neS (by decide +kernel)) ?_⟩
   refine ⟨_,rfl,rfl,_,rfl,aw (neS (by decide +kernel)) ?_⟩
   refine ⟨_,rfl,rfl,_,rfl,be rfl ?_⟩
   refine ⟨_,rfl,a,_,2,_,rfl,rfl,SqT.of e,rfl,_,rfl,M,CM,dm,_,_,rfl,hM,TM.cl,TM.nB,ml_b,_,rfl,u,t,b,k,g,sd,z,_,bx,m,rfl,T,rqi.1,rqi.2,BX,bo,AK,ok,hsd,fun H1 A1 S1=>?_⟩
   have hb1:=S1 _ _ nbk hb
   have hs1:=S1 _ _ nsk hsd
   refine ⟨_,rfl,M,CM,dm,_,_,rfl,S1 _ _ nMk hM,TM.cl,TM.nB,ml_b,_,rfl,a,_,1,_,rfl,rfl,SqT.of (kT S1 _ _ e),rfl,b,_,rfl,DPut.k (k:=.inr x) hb1 ?_,?_⟩
   . exact Nat.lt_of_le_of_lt kl (Nat.lt_of_le_of_lt m1 (by decide))
   refine ⟨_,rfl,_,_,rfl,rfl,?_⟩
   refine q _ ?_ ⟨_,upd_same,Nat.le_trans (length_putK _ _ _) (Nat.succ_le_succ kl),bx_put x _ hx⟩ (A1.but2 hb1 hs1 fun c o h1 _ e=>by rw [au h1]; exact e) (fun c o h1 _ h3 e=>by rw [au h1]; exact S1 _ _ h3 e)
   rw [au nBS]
   exact hs1
 | @say a u t e T =>
   refine ⟨_,rfl,a,_,0,_,rfl,rfl,SqT.of e,rfl,?_⟩
   refine ⟨_,rfl,rfl,_,rfl,aw (neS (by decide +kernel)) ?_⟩
   refine ⟨_,rfl,rfl,_,rfl,aw (neS (by decide +kernel)) ?_⟩
   refine ⟨_,rfl,rfl,_,rfl,aw (neS (by decide +kernel)) ?_⟩
   refine ⟨_,rfl,rfl,_,rfl,be rfl ?_⟩
   refine ⟨_,rfl,.inl ⟨rfl,_,SqL.of hsd⟩,?_⟩
   refine ⟨_,rfl,a,_,1,_,rfl,rfl,SqT.of e,rfl,_,rfl,M,CM,dm,_,_,rfl,hM,TM.cl,TM.nB,ml_b,_,rfl,u,t,b,k,g,sd,z,_,bx,m,rfl,T,rqi.1,rqi.2,BX,bo,AK,ok,hsd,fun H1 A1 S1=>?_⟩
   have hb1:=S1 _ _ nbk hb
   have hs1:=S1 _ _ nsk hsd
   refine ⟨sd,_,_,rfl,rfl,hs1,?_,?_⟩
   . rw [List.length_map]
     exact aJ (by omega)
   refine ⟨_,rfl,_,_,rfl,rfl,?_⟩
   refine q _ ?_ ((BX.keep fun o e=>by rw [au nBS.symm]; exact S1 _ _ nbk e).le (Nat.le_succ _)) (A1.but2 hb1 hs1 fun c o _ h2 e=>by rw [au h2]; exact e) (fun c o _ h2 h3 e=>by rw [au h2]; exact S1 _ _ h3 e)
   rw [upd_same]
   show _=some (HO.lst ((said++[t.worth z bx]).map V.int))
   rw [List.map_append]
   rfl
end
section
variable {CM CA CG:Addr}
def m1 (g:Addr):List (Str × V):=[("game", .ref g)]
def m2 (g h:Addr):List (Str × V):=[("game", .ref g),("helper", .ref h)]
def m3 (g h:Addr):List (Str × V):=[("game", .ref g),("helper", .ref h),("next_round", .int 0)]
theorem pm1 {g:Addr}:putF "game" (.ref g) []=m1 g:=by with_unfolding_all rfl
theorem pm2 {g h:Addr}:putF "helper" (.ref h) (m1 g)=m2 g h:=by with_unfolding_all rfl
theorem pm3 {g h:Addr}:putF "next_round" (.int 0) (m2 g h)=m3 g h:=by with_unfolding_all rfl
theorem pm4 {g h b:Addr}:putF "boxes" (.ref b) (m3 g h)=ml g h 0 b:=by with_unfolding_all rfl
def spMInit (CM:Addr):Sp:=fun vs H Q _=>∃ (M g h dm:Addr),vs=[.ref M,.ref g,.ref h]/\H M=some (.ins CM dm [])/\∀ (b:Addr) (H':Hp),H b=none->H' M=some (.ins CM dm (ml g h 0 b))->H' b=some (.dK [])->SameBut M H H'->Q .non H'
theorem sc_minit:FnScope ["self", "game", "helper"] ["self", "game", "helper"] (ag s_minit):=⟨rfl,rfl,rfl,by decide +kernel,rfl,by decide +kernel,by decide +kernel⟩
theorem ok_minit {f:Addr} {fd:FuncData} (F:Fun K "__init__" "Machine.__init__" s_minit f fd) (T:MTxt K mg CM):FnOk P w K mg base CX0 1 f fd ["self", "game", "helper"] (spMInit CM):=by
 refine F.ok sc_minit (fun vs H Q E h=>?_) (fun cdv A outer s H vs Q E hr h=>?_)
 . obtain ⟨M,g,h,dm,rfl,_⟩:=h
   rfl
 obtain ⟨M,g,h,dm,rfl,hM,q⟩:=h
 refine ⟨_,(ac (cq (pv 0) (pv 1) rfl)
  (ac (cq (pv 0) (pv 2) rfl)
  (ac (cq (pv 0) ad rfl)
  (af (cq (pv 0) pe_dnewK rfl))))),?_⟩
 refine ⟨_,rfl,_,rfl,M,CM,dm,_,rfl,hM,T.cl,T.nG,(by show 0 < 1000; decide),?_⟩
 rw [pm1]
 refine ⟨_,rfl,_,rfl,M,CM,dm,_,rfl,upd_same,T.cl,T.nH,(by show 1 < 1000; decide),?_⟩
 rw [pm2]
 refine ⟨_,rfl,M,CM,dm,_,rfl,upd_same,T.cl,T.nR,(by show 2 < 1000; decide),?_⟩
 rw [pm3]
 have S3:SameBut M H (upd (upd (upd H M (.ins CM dm (m1 g))) M (.ins CM dm (m2 g h))) M (.ins CM dm (m3 g h))):=(SameBut.upd _).trans ((SameBut.upd _).trans (SameBut.upd _))
 have g3:upd (upd (upd H M (.ins CM dm (m1 g))) M (.ins CM dm (m2 g h))) M (.ins CM dm (m3 g h)) M=some (.ins CM dm (m3 g h)):=upd_same
 generalize upd (upd (upd H M (.ins CM dm (m1 g))) M (.ins CM dm (m2 g h))) M (.ins CM dm (m3 g h))=H3 at S3 g3
 intro b hb
 have bM:b ≠ M:=(ne_of_none g3 hb).symm
 refine ⟨_,rfl,M,CM,dm,_,rfl,by rw [au bM.symm]; exact g3,T.cl,T.nB,(by show 3 < 1000; decide),?_⟩
 rw [pm4]
 refine q b _ ?_ upd_same (by rw [au bM]; exact upd_same) (S3.trans ((SameBut.of (Same.new hb _)).trans (SameBut.upd _)))
 cases e:H b with
 | none=>rfl
 | some o=>rw [S3 b o bM e] at hb; cases hb
def a1 (g:Addr):List (Str × V):=[("game", .ref g)]
def a2 (g:Addr) (nr:Int):List (Str × V):=[("game", .ref g),("number", .int nr)]
def a3 (g:Addr) (nr mn:Int):List (Str × V):=[("game", .ref g),("number", .int nr),("many", .int mn)]
def a4 (g:Addr) (nr mn hd:Int):List (Str × V):=[("game", .ref g),("number", .int nr),("many", .int mn),("held", .int hd)]
def a5 (g:Addr) (nr mn hd s:Int):List (Str × V):=[("game", .ref g),("number", .int nr),("many", .int mn),("held", .int hd),("s", .int s)]
def a6 (g:Addr) (nr mn hd s:Int) (aT:Addr):List (Str × V):=[("game", .ref g),("number", .int nr),("many", .int mn),("held", .int hd),("s", .int s),("tossed", .ref aT)]
section
variable {g aT:Addr} {nr mn hd s:Int}
theorem pa1:putF "game" (.ref g) []=a1 g:=by with_unfolding_all rfl
theorem pa2:putF "number" (.int nr) (a1 g)=a2 g nr:=by with_unfolding_all rfl
theorem pa3:putF "many" (.int mn) (a2 g nr)=a3 g nr mn:=by with_unfolding_all rfl
theorem pa4:putF "held" (.int hd) (a3 g nr mn)=a4 g nr mn hd:=by with_unfolding_all rfl
theorem pa5:putF "s" (.int s) (a4 g nr mn hd)=a5 g nr mn hd s:=by with_unfolding_all rfl
theorem pa6:putF "tossed" (.ref aT) (a5 g nr mn hd s)=a6 g nr mn hd s aT:=by with_unfolding_all rfl
theorem pa7:putF "truths" .non (a6 g nr mn hd s aT)=al g nr mn hd s aT .non:=by with_unfolding_all rfl
end
def spAInit (CA:Addr):Sp:=fun vs H Q _=>∃ (k dk g c:Addr) (nr mn hd s:Int) (xs:List V),vs=[.ref k,.ref g,.int nr,.int mn,.int hd,.int s,.ref c]/\H k=some (.ins CA dk [])/\(H c=some (.lst xs)∨H c=some (.tup xs)) /\
 ∀ (aT:Addr) (H':Hp),H' k=some (.ins CA dk (al g nr mn hd s aT .non))->H' aT=some (.tup xs)->SameBut k H H'->Q .non H'
theorem sc_ainit:FnScope ["self", "game", "number", "many", "due", "s", "coins"] ["self", "game", "number", "many", "due", "s", "coins"] (ag s_ainit):=⟨rfl,rfl,rfl,by decide +kernel,rfl,by decide +kernel,by decide +kernel⟩
theorem ok_ainit {f:Addr} {fd:FuncData} (F:Fun K "__init__" "Asking.__init__" s_ainit f fd) (B:Bl mg) (T:ATxt K mg CA):FnOk P w K mg base CX0 1 f fd ["self", "game", "number", "many", "due", "s", "coins"] (spAInit CA):=by
 refine F.ok sc_ainit (fun vs H Q E h=>?_) (fun cdv A outer s H vs Q E hr h=>?_)
 . obtain ⟨k,dk,g,c,nr,mn,hd,s,xs,rfl,_⟩:=h
   rfl
 obtain ⟨k,dk,g,c,nr,mn,hd,s,xs,rfl,hk,hc,q⟩:=h
 refine ⟨_,(ac (cq (pv 0) (pv 1) rfl)
  (ac (cq (pv 0) (pv 2) rfl)
  (ac (cq (pv 0) (pv 3) rfl)
  (ac (cq (pv 0) (pv 4) rfl)
  (ac (cq (pv 0) (pv 5) rfl)
  (ac (cq (pv 0) (bq bz rfl B.tuple cb (aa (pv 6) ae)) rfl)
  (af (cq (pv 0) pe_non rfl)))))))),?_⟩
 refine ⟨_,rfl,_,rfl,k,CA,dk,_,rfl,hk,T.cl,T.nG,(by show 0 < 1000; decide),?_⟩
 rw [pa1]
 refine ⟨_,rfl,_,rfl,k,CA,dk,_,rfl,upd_same,T.cl,T.nN,(by show 1 < 1000; decide),?_⟩
 rw [pa2]
 refine ⟨_,rfl,_,rfl,k,CA,dk,_,rfl,upd_same,T.cl,T.nM,(by show 2 < 1000; decide),?_⟩
 rw [pa3]
 refine ⟨_,rfl,_,rfl,k,CA,dk,_,rfl,upd_same,T.cl,T.nH,(by show 3 < 1000; decide),?_⟩
 rw [pa4]
 refine ⟨_,rfl,_,rfl,k,CA,dk,_,rfl,upd_same,T.cl,T.nS,(by show 4 < 1000; decide),?_⟩
 rw [pa5]
 have S5:SameBut k H (upd (upd (upd (upd (upd H k (.ins CA dk (a1 g))) k (.ins CA dk (a2 g nr))) k (.ins CA dk (a3 g nr mn))) k (.ins CA dk (a4 g nr mn hd))) k (.ins CA dk (a5 g nr mn hd s))):=(SameBut.upd _).trans ((SameBut.upd _).trans ((SameBut.upd _).trans ((SameBut.upd _).trans (SameBut.upd _))))
 have g5:upd (upd (upd (upd (upd H k (.ins CA dk (a1 g))) k (.ins CA dk (a2 g nr))) k (.ins CA dk (a3 g nr mn))) k (.ins CA dk (a4 g nr mn hd))) k (.ins CA dk (a5 g nr mn hd s)) k=some (.ins CA dk (a5 g nr mn hd s)):=upd_same
 generalize upd (upd (upd (upd (upd H k (.ins CA dk (a1 g))) k (.ins CA dk (a2 g nr))) k (.ins CA dk (a3 g nr mn))) k (.ins CA dk (a4 g nr mn hd))) k (.ins CA dk (a5 g nr mn hd s))=H5 at S5 g5
 rcases hc with hc | hc
 . have hc5:=S5 _ _ (ne_of hc hk (by intro z; cases z)) hc
   refine ⟨_,rfl,c,_,rfl,.inl ⟨SqL.of hc5,fun aT ha=>?_⟩⟩
   have aK:aT ≠ k:=(ne_of_none g5 ha).symm
   refine ⟨_,rfl,k,CA,dk,_,rfl,by rw [au aK.symm]; exact g5,T.cl,T.nT,(by show 5 < 1000; decide),?_⟩
   rw [pa6]
   refine ⟨_,rfl,k,CA,dk,_,rfl,upd_same,T.cl,T.nR,(by show 6 < 1000; decide),?_⟩
   rw [pa7]
   exact q aT _ upd_same (by rw [au aK,au aK]; exact upd_same) (S5.trans ((SameBut.of (Same.new ha _)).trans ((SameBut.upd _).trans (SameBut.upd _))))
 . have nc:=ne_of hc hk (by intro z; cases z)
   have hc5:=S5 _ _ nc hc
   refine ⟨_,rfl,c,_,rfl,.inr ⟨SqT.of hc5,?_⟩⟩
   refine ⟨_,rfl,k,CA,dk,_,rfl,g5,T.cl,T.nT,(by show 5 < 1000; decide),?_⟩
   rw [pa6]
   refine ⟨_,rfl,k,CA,dk,_,rfl,upd_same,T.cl,T.nR,(by show 6 < 1000; decide),?_⟩
   rw [pa7]
   exact q c _ upd_same (by rw [au nc,au nc]; exact hc5) (S5.trans ((SameBut.upd _).trans (SameBut.upd _)))
def spSay (CM CG:Addr):Sp:=fun vs H Q _=>∃ (M g h b dm c:Addr) (rv:List V) (z:Ak) (rows:List Hr) (bx:Str->Int) (m:Nat),
 vs=[.ref M,.int z.mn,.int z.hd,.int z.s,.ref c]/\H M=some (.ins CM dm (ml g h z.nr b))/\H h=some (.tup rv)/\RowsAt H rv rows/\(∀ r ∈ rows,r.good)/\BxAt H b bx m/\BxOk z.p bx/\m<=5000/\Gm CG H g z.ns z.ts z.p/\AkOk z/\(H c=some (.lst (z.to.map V.int))∨H c=some (.tup (z.to.map V.int)))/\0<=z.mn/\z.mn<=500 /\
 ∀ (l:Addr) (H':Hp),H l=none->H' l=some (.lst ((outM z.mn (runM z rows 200 ⟨0,bx,[]⟩).sd).map V.int))->BxAt H' b (runM z rows 200 ⟨0,bx,[]⟩).bx (m+200)->H' M=some (.ins CM dm (ml g h (z.nr+1) b))->But2 M b H H'->Q (.ref l) H'
theorem sc_msay:FnScope ["self", "many", "due", "s", "coins", "asking", "said", "place", "done"] ["self", "many", "due", "s", "coins"] (ag s_msay):=⟨rfl,rfl,rfl,by decide +kernel,rfl,by decide +kernel,by decide +kernel⟩
theorem rep_flat (k:Nat) (x:V):(List.replicate k [x]).flatten=List.replicate k x:=by
 induction k with
 | zero=>rfl
 | succ k ih=>rw [List.replicate_succ,List.flatten_cons,ih,List.replicate_succ]; rfl
def tSayE:TS:=fun Dn σ H=>∃ (x0 x2 x3 x4 x5 x7 x8:Option V) (sd:Addr) (mn:Int) (xs:List Int),σ=[x0,some (.int mn),x2,x3,x4,x5,some (.ref sd),x7,x8]/\H sd=some (.lst (xs.map V.int))/\xs.length<=200/\0<=mn/\mn<=500 /\
 ∀ (l:Addr) (H':Hp),H l=none->Same H H'->H' l=some (.lst ((outM mn xs).map V.int))->Dn.rt (.ref l) H'
theorem ok_msay {f fA fR:Addr} {fd fdA fdR:FuncData} (F:Fun K "say" "Machine.say" s_msay f fd) (B:Bl mg) (TM:MTxt K mg CM) (TA:ATxt K mg CA) (hmost:∃ t,mg "MOST_ROWS_DONE" = some (.int 200 t))
 (MA:Mk K CA fA) (GA:FnOk P w K mg base CX0 1 fA fdA ["self", "game", "number", "many", "due", "s", "coins"] (spAInit CA)) (bA:Binds K fdA ["self", "game", "number", "many", "due", "s", "coins"] [])
 (mR:Meth K CM "do_row" fR) (GR:FnOk P w K mg base CX0 24 fR fdR ["self", "place", "said", "asking"] (spRowM CM CA CG)) (bR:Binds K fdR ["self", "place", "said", "asking"] []):FnOk P w K mg base CX0 25 f fd ["self", "many", "due", "s", "coins"] (spSay CM CG):=by
 refine F.ok sc_msay (fun vs H Q E h=>?_) (fun cdv A outer s H vs Q E hr h=>?_)
 . obtain ⟨M,g,h,b,dm,c,rv,z,rows,bx,m,rfl,_⟩:=h
   rfl
 obtain ⟨M,g,h,b,dm,c,rv,z,rows,bx,m,rfl,hM,hh,RW,rq,BX,bo,mm,GG,ok,hc,mn0,mn1,q⟩:=h
 obtain ⟨a',b',d',tv,G,hga,hgb,TS,hgd⟩:=GG
 obtain ⟨te,ge⟩:=hmost
 have hr2:Room (1+1) _:=hr.mono (by decide)
 have hr7:Room 24 _:=hr.mono (by decide)
 refine ⟨_,(ac (ak (i:=5) sc_msay.nd rfl (Or.inl rfl) (pe_make MA GA hr2 rfl TA.mgC bA .nil pass0 (aa (aH (pv 0) rfl) (aa (aH (pv 0) rfl) (aa (pv 1) (aa (pv 2) (aa (pv 3) (aa (pv 4) ae))))))))
  (ac (cq (pv 0) (ah aU (aH (pv 0) rfl) ad) rfl)
  (ac (ak (i:=6) sc_msay.nd rfl (Or.inl rfl) (bi ae))
  (ac (ak (i:=7) sc_msay.nd rfl (Or.inl rfl) ad)
  (ac (ak (i:=8) sc_msay.nd rfl (Or.inl rfl) ad)
  (ac (ps_while PassesOwn.never (PW.pt (pw_and (aj op_lt (pv 7) (aE aB rfl B.len PySem.boot_len (aa (aH (pv 0) rfl) ae)) (aq _)) (pw_and (aj op_lt (aE aB rfl B.len PySem.boot_len (aa (pv 6) ae)) (pv 1) (aq _)) (pw_and1 (aj op_lt (pv 8) (pe_glob (v:=.int 200) rfl ge ⟨_,rfl⟩) (aq _)))))) (ac (ak (i:=7) sc_msay.nd rfl (Or.inl rfl) (pe_meth (pv 0) TM.cl mR GR hr7 bR .nil pass0 (aa (pv 7) (aa (pv 6) (aa (pv 5) ae)))))
   (af (ak (i:=8) sc_msay.nd rfl (Or.inl rfl) (ah aU (pv 8) ad)))))
  (pss_cut (t':=tSayE) (af (ao (ah op_cat (pv 6) (ah op_rep (bi (aa ad ae)) (ah aR (pv 1) (aE aB rfl B.len PySem.boot_len (aa (pv 6) ae))))))) (by
   rintro Dn σ H ⟨x0,x2,x3,x4,x5,x7,x8,sd,mn,xs,rfl,hsd,xl,mn0,mn1,q⟩
   refine ⟨_,rfl,(by show 1<=sizeLine; decide),fun z hz=>?_⟩
   have I1:=Same.new hz (.lst [.int 0])
   have g1:upd H z (.lst [.int 0]) z=some (.lst [.int 0]):=upd_same
   generalize upd H z (.lst [.int 0])=H1 at I1 g1
   refine ⟨_,rfl,_,rfl,sd,_,rfl,.inl (SqL.of (I1 _ _ hsd)),_,_,rfl,rfl,?_⟩
   have el:((xs.map V.int).length:Int)=(xs.length:Int):=by rw [List.length_map]
   refine ⟨z,_,_,rfl,rfl,g1,by omega,by omega,bv (by show 1*(mn - ((xs.map V.int).length:Int)).toNat<=1000; omega),fun y hy=>?_⟩
   rw [rep_flat]
   have I2:=Same.new hy (.lst (List.replicate (mn - ((xs.map V.int).length:Int)).toNat (.int 0)))
   have g2:upd H1 y (.lst (List.replicate (mn - ((xs.map V.int).length:Int)).toNat (.int 0))) y=some (.lst (List.replicate (mn - ((xs.map V.int).length:Int)).toNat (.int 0))):=upd_same
   generalize upd H1 y (.lst (List.replicate (mn - ((xs.map V.int).length:Int)).toNat (.int 0)))=H2 at I2 g2
   refine ⟨sd,y,_,_,rfl,rfl,I2 _ _ (I1 _ _ hsd),g2,?_,fun l hl=>?_⟩
   . rw [List.length_replicate,List.length_map]
     exact bv (by omega)
   refine q l _ ?_ (I1.trans (I2.trans (Same.new hl _))) ?_
   . cases e:H l with
     | none=>rfl
     | some o=>rw [I2 _ _ (I1 _ _ e)] at hl; cases hl
   . rw [upd_same,el]
     unfold outM
     rw [List.map_append,List.map_replicate])))))))),?_⟩
 refine ⟨_,rfl,M,CM,dm,_,_,rfl,hM,TM.cl,TM.nG,ml_g,_,rfl,M,CM,dm,_,_,rfl,hM,TM.cl,TM.nR,ml_r,_,rfl,_,rfl,_,rfl,_,rfl,fun k dk hk hdk nk=>?_⟩
 have S1:Same H (upd (upd H dk (.own k)) k (.ins CA dk [])):=fun a o e=>by
  rw [au (ne_of_none e hk),au (ne_of_none e hdk)]
  exact e
 have g1:upd (upd H dk (.own k)) k (.ins CA dk []) k=some (.ins CA dk []):=upd_same
 generalize upd (upd H dk (.own k)) k (.ins CA dk [])=H1 at S1 g1
 refine ⟨k,dk,g,c,z.nr,z.mn,z.hd,z.s,z.to.map V.int,rfl,g1,hc.imp (S1 _ _) (S1 _ _),fun aT H2 hk2 hT2 S2=>⟨rfl,?_⟩⟩
 have S02:Same H H2:=Same.but S1 hk S2
 clear S1 S2 g1
 have hM2:=S02 _ _ hM
 refine ⟨_,rfl,M,CM,dm,_,_,rfl,hM2,TM.cl,TM.nR,ml_r,_,_,rfl,rfl,_,rfl,M,CM,dm,_,rfl,hM2,TM.cl,TM.nR,ml_len,?_⟩
 rw [ml_put]
 have nMk:M ≠ k:=ne_of_none hM hk
 have S3:SameBut M H2 (upd H2 M (.ins CM dm (ml g h (z.nr+1) b))):=SameBut.upd _
 have hM3:upd H2 M (.ins CM dm (ml g h (z.nr+1) b)) M=some (.ins CM dm (ml g h (z.nr+1) b)):=upd_same
 generalize upd H2 M (.ins CM dm (ml g h (z.nr+1) b))=H3 at S3 hM3
 refine ⟨(by show 0<=sizeLine; decide),fun sd hsd=>?_⟩
 have I4:=Same.new hsd (.lst [])
 have g4:upd H3 sd (.lst []) sd=some (.lst []):=upd_same
 generalize upd H3 sd (.lst [])=H4 at I4 g4
 have gM:g ≠ M:=fun e=>by
  obtain ⟨dg,hg⟩:=G
  rw [e,hM] at hg
  cases hg
 have nbM:b ≠ M:=by
  obtain ⟨kvs,e,_⟩:=BX
  exact ne_of e hM (by intro z; cases z)
 have S04:SameBut M H H4:=(SameBut.of S02).trans (S3.trans (SameBut.of I4))
 have hM4:=I4 _ _ hM3
 have kT:bO H H4:=fun c xs h=>S04 c _ (ne_of h hM (by intro z; cases z)) h
 have hh4:=kT _ _ hh
 have RW4:=RW.mono kT
 have BX4:BxAt H4 b bx m:=BX.keep fun o e=>S04 b o nbM e
 have G4:GameAt CG H4 g a' b' d' z.p:=by
  obtain ⟨dg,hg⟩:=G
  exact ⟨dg,S04 _ _ gM hg⟩
 have hT4:H4 aT=some (.tup (z.to.map V.int)):=I4 _ _ (S3 _ _ (ne_of hT2 hM2 (by intro z; cases z)) hT2)
 have hgd4:=S04 _ _ (ne_of hgd hM (by intro z; cases z)) hgd
 have nds:d' ≠ sd:=ne_of_none (S3 _ _ (ne_of hgd hM (by intro z; cases z)) (S02 _ _ hgd)) hsd
 have hk4:=I4 _ _ (S3 _ _ nMk.symm hk2)
 have b4:∃ kvs,H4 b=some (.dK kvs):=by
  obtain ⟨kvs,e,_⟩:=BX4
  exact ⟨kvs,e⟩
 obtain ⟨kv4,hb4⟩:=b4
 have nbs:b ≠ sd:=ne_of hb4 g4 (by intro z; cases z)
 have nhb:h ≠ b:=ne_of hh4 hb4 (by intro z; cases z)
 have nhs:h ≠ sd:=ne_of hh4 g4 (by intro z; cases z)
 have nMs:M ≠ sd:=ne_of hM4 g4 (by intro z; cases z)
 have nkb:k ≠ b:=ne_of hk4 hb4 (by intro z; cases z)
 have nks:k ≠ sd:=ne_of hk4 g4 (by intro z; cases z)
 have AK4:AkAt CA CG H4 k g sd z:=⟨dk,aT,a',b',d',tv,.non,hk4,G4,kT _ _ hga,kT _ _ hgb,TS.mono kT,hgd4,nds,hT4,.inl rfl⟩
 have sd0:H sd=none:=by
  cases e:H sd with
  | none=>rfl
  | some o=>rw [S3 _ _ nMs.symm (S02 _ _ e)] at hsd; cases hsd
 refine ⟨fun mm σ H'=>∃ (st:MS) (d:Nat),σ=[some (.ref M),some (.int z.mn),some (.int z.hd),some (.int z.s),some (.ref c),some (.ref k),some (.ref sd),some (.int st.pl),some (.int (d:Int))]/\d<=200/\mm=200 - d/\0<=st.pl/\st.sd.length<=d/\runM z rows (200 - d) st=runM z rows 200 ⟨0,bx,[]⟩/\H' sd=some (.lst (st.sd.map V.int))/\BxAt H' b st.bx (m+d)/\BxOk z.p st.bx/\PtOk st.sd z.p/\AkAt CA CG H' k g sd z/\But3 b sd k H4 H',
  ⟨_,⟨0,bx,[]⟩,0,rfl,Nat.zero_le _,rfl,Int.le_refl 0,Nat.le_refl _,rfl,g4,BX4,bo,(fun x hx=>by cases hx),AK4,fun _ _ _ _ _ e=>e⟩,?_⟩
 rintro mm σ H' ⟨st,d,rfl,d2,rfl,st0,sl,hrun,hsd',BX',bo',so',AK',S'⟩
 have hM':=S' _ _ nbM.symm nMs nMk hM4
 have hh':=S' _ _ nhb nhs (ne_of hh4 hk4 (by intro z; cases z)) hh4
 have kT':bO H4 H':=fun c xs h=>S' c _ (ne_of h hb4 (by intro z; cases z)) (ne_of h g4 (by intro z; cases z)) (ne_of h hk4 (by intro z; cases z)) h
 have RW':=RW4.mono kT'
 have fin:runM z rows (200 - d) st=st->∀ (l:Addr) (H5:Hp),H' l=none->Same H' H5->H5 l=some (.lst ((outM z.mn st.sd).map V.int))->Q (.ref l) H5:=fun er l H5 l0 S5 hl=>by
  rw [er] at hrun
  rw [← hrun] at q
  refine q l H5 ?_ hl ((BX'.keep fun o e=>S5 b o e).le (by omega)) (S5 _ _ hM') (fun a o h1 h2 e=>?_)
  . cases e:H l with
    | none=>rfl
    | some o =>
      have lM:l ≠ M:=fun z=>by rw [z,hM'] at l0; cases l0
      have lb:l ≠ b:=fun z=>by
       obtain ⟨kvs,e',_⟩:=BX'
       rw [z,e'] at l0; cases l0
      have ls:l ≠ sd:=fun z=>by rw [z,hsd'] at l0; cases l0
      rw [S' _ _ lb ls (ne_of_none e hk) (S04 _ _ lM e)] at l0
      cases l0
  . exact S5 _ _ (S' _ _ h2 (ne_of_none e sd0) (ne_of_none e hk) (S04 _ _ h1 e))
 refine ⟨_,rfl,_,rfl,M,CM,dm,_,_,rfl,hM',TM.cl,TM.nH,ml_h,h,_,rfl,.inr (SqT.of hh'),_,_,rfl,rfl,_,rfl,?_⟩
 rw [RW.1]
 by_cases c1:st.pl < (rows.length:Int)
 . refine be c1 ?_
   refine ⟨_,rfl,sd,_,rfl,.inl (SqL.of hsd'),_,rfl,_,_,rfl,rfl,_,rfl,?_⟩
   rw [List.length_map]
   by_cases c2:(st.sd.length:Int) < z.mn
   . refine be c2 ?_
     refine ⟨_,rfl,_,_,rfl,rfl,_,rfl,?_⟩
     by_cases c3:d < 200
     . refine be (by omega) ?_
       refine ⟨_,fun _ _ h=>h,?_⟩
       refine ⟨_,rfl,M,dm,_,rfl,hM',ml_n1,_,rfl,_,rfl,_,rfl,M,g,h,b,dm,k,sd,rv,_,st.pl,z,rows,st.bx,m+d,st.sd,rfl,hM',nMk,hh',RW',rq,st0,c1,BX',bo',by omega,hsd',by omega,AK',ok,fun H6 hs6 BX6 A6 S6=>?_⟩
       refine ⟨_,rfl,_,_,rfl,rfl,?_⟩
       refine ⟨_,(show 200 - (d+1) < 200 - d by omega),stepM z rows st,d+1,rfl,c3,rfl,stepM_pl rq st0,Nat.le_trans stepM_sd (Nat.succ_le_succ sl),?_,hs6,BX6,(stepM_ok ok bo' so').1,(stepM_ok ok bo' so').2,A6,S'.trans S6⟩
       rw [← hrun,show 200 - d=(200 - (d+1))+1 by omega]
       exact (if_pos ⟨c1,c2⟩).symm
     . refine aw (by omega) ?_
       have ed:200 - d=0:=by omega
       exact ⟨_,_,_,_,_,_,_,sd,z.mn,st.sd,rfl,hsd',by omega,mn0,mn1,fin (by rw [ed]; rfl)⟩
   . refine aw c2 (iteF ?_)
     refine ⟨_,_,_,_,_,_,_,sd,z.mn,st.sd,rfl,hsd',by omega,mn0,mn1,fin ?_⟩
     cases 200 - d with
     | zero=>rfl
     | succ n=>exact if_neg (fun z=>c2 z.2)
 . refine aw c1 (iteF ?_)
   refine ⟨_,_,_,_,_,_,_,sd,z.mn,st.sd,rfl,hsd',by omega,mn0,mn1,fin ?_⟩
   cases 200 - d with
   | zero=>rfl
   | succ n=>exact if_neg (fun z=>c1 z.1)
end
section
theorem at0S (x:V) (xs:List V):atI (x::xs) 0=some x:=cn (j:=0) rfl
theorem yn_inS (o:Str):inV (.str o) [.str "yes", .str "no"]=(decide (o = "yes") || decide (o = "no")):=by
 show (("yes" == o) || (("no" == o) || false))=_
 rw [Bool.or_false]
 have e:∀ z:Str,(z == o)=decide (o=z):=fun z=>by
  by_cases c:o=z
  . subst c; simp
  . rw [decide_eq_false c]; simpa using fun h=>c h.symm
 rw [e,e]
def valS (o:Str) (x y:Int):Int:=if o = "and" then x*y else if o = "or" then x+y - x*y else if o = "odd" then x+y - 2*x*y else 1 - x - y+2*x*y
def dS (x y:Int):List (Key × V):=[(Sum.inr "and", V.int (x*y)),(Sum.inr "or", V.int (x+y - x*y)),(Sum.inr "odd", V.int (x+y - 2*x*y)),(Sum.inr "same", V.int (1 - x - y+2*x*y))]
theorem dS_merge (x y:Int):mergeK [] (dS x y)=dS x y:=by with_unfolding_all rfl
theorem dS_get (x y:Int):∀ o ∈ joinW,cw (dS x y) (Sum.inr o)=some (V.int (valS o x y)):=by
 intro o ho
 simp only [joinW,List.mem_cons,List.not_mem_nil,or_false] at ho
 rcases ho with rfl | rfl | rfl | rfl
 . have e:valS "and" x y=x*y:=by unfold valS; rw [if_pos rfl]
   rw [e]; with_unfolding_all rfl
 . have e:valS "or" x y=x+y - x*y:=by unfold valS; rw [if_neg (by decide +kernel),if_pos rfl]
   rw [e]; with_unfolding_all rfl
 . have e:valS "odd" x y=x+y - 2*x*y:=by unfold valS; rw [if_neg (by decide +kernel),if_neg (by decide +kernel),if_pos rfl]
   rw [e]; with_unfolding_all rfl
 . have e:valS "same" x y=1 - x - y+2*x*y:=by unfold valS; rw [if_neg (by decide +kernel),if_neg (by decide +kernel),if_neg (by decide +kernel)]
   rw [e]; with_unfolding_all rfl
theorem joinI_valS (o:Str) (p x y:Int):cC p o x y=valS o x y % p:=by
 unfold cC valS
 rw [Int.mul_assoc]
 repeat' split
 . rfl
 . rfl
 . rfl
 . congr 1
   omega
theorem join_noS {o x:Str} (h:o ∈ joinW) (hx:x ∉ joinW):¬ V.str o=V.str x:=fun z=>hx (by rw [← V.str.inj z]; exact h)
def NdAt (H:Hp) (d:Addr) (ns:List Str) (pt:List Int):Prop:=∃ kvs:List (Key × V),H d=some (.dK kvs)/\∀ (x:Str) (j:Nat),cp x ns=some j->cw kvs (Sum.inr x)=some (.int (pt.getD j 0))
theorem NdAt.same {H H':Hp} {d:Addr} {ns:List Str} {pt:List Int} (h:NdAt H d ns pt) (S:Same H H'):NdAt H' d ns pt:=by
 obtain ⟨kvs,e,r⟩:=h
 exact ⟨kvs,S _ _ e,r⟩
def spLWd (n:Nat):Sp:=fun vs H Q _=>∃ (v:V) (t:Tr) (d:Addr) (ns:List Str) (pt:List Int) (p:Int),vs=[v,.ref d,.int p]/\TreeAt H v t/\t.ok ns/\t.depth<=n/\NdAt H d ns pt/\pt.length=ns.length/\1 < p/\p < 2 ^ 40/\PtOk pt p/\∀ H',Same H H'->Q (.int (t.worth ns pt p)) H'
theorem sc_l_worth:FnScope ["_law_tree_here", "_law_point", "_law_p", "_law_word", "_law_a", "_law_b", "_law_some"] ["_law_tree_here", "_law_point", "_law_p"] (ag s_l_worth):=⟨rfl,rfl,rfl,by decide +kernel,rfl,by decide +kernel,by decide +kernel⟩
theorem lwd_step {n:Nat} {f:Addr} {fd:FuncData} (F:Fun K "_law_worth" "_law_worth" s_l_worth f fd) (B:Bl mg) (C_l_worth:Cal P w K mg base (n+2) "_law_worth" ["_law_tree_here", "_law_point", "_law_p"] (spLWd n)):FnOk P w K mg base CX0 (n+3) f fd ["_law_tree_here", "_law_point", "_law_p"] (spLWd (n+1)):=by
 refine F.ok sc_l_worth (fun vs H Q E h=>?_) (fun cdv A outer s H vs Q E hr h=>?_)
 . obtain ⟨v,t,d,ns,pt,p,rfl,_⟩:=h
   rfl
 obtain ⟨v,t,d,ns,pt,p,rfl,T,ok,dn,hO,sl,p1,p40,po,k⟩:=h
 have hu:=hu_of hr
 have p0:(0:Int) < p:=by omega
 refine ⟨_,(ac (ak (i:=3) sc_l_worth.nd rfl (Or.inl rfl) (ay aA (pv 0) ad (fun _ _=>rfl)))
  (ac (aG (aj aN (pv 3) aD (aq _)) (af (ao (pe_dget hu (pv 1) (ay aA (pv 0) ad (fun _ _=>rfl)) (fun _ _=>rfl)))) ax)
  (ac (aG (aj op_in_seq (pv 3) (bi (aa aD (aa aD ae))) (by with_unfolding_all rfl)) (af (ao (bq call_int1 rfl B.int boot_int' (aa (bH aN (pv 3) aD (aq _)) ae)))) ax)
  (ac (ak (i:=4) sc_l_worth.nd rfl (Or.inl rfl) (am C_l_worth hr (Nat.le_refl _) rfl (aa (ay aA (pv 0) ad (fun _ _=>rfl)) (aa (pv 1) (aa (pv 2) ae)))))
  (ac (aG (aj aN (pv 3) aD (aq _)) (af (ao (ah aI (ah aR ad (pv 4)) (pv 2)))) ax)
  (ac (ak (i:=5) sc_l_worth.nd rfl (Or.inl rfl) (am C_l_worth hr (Nat.le_refl _) rfl (aa (ay aA (pv 0) ad (fun _ _=>rfl)) (aa (pv 1) (aa (pv 2) ae)))))
  (ac (ak (i:=6) sc_l_worth.nd rfl (Or.inl rfl) (pe_disp (pps_cons aD (ah aX (pv 4) (pv 5)) (pps_cons aD (ah aR (ah aU (pv 4) (pv 5)) (ah aX (pv 4) (pv 5))) (pps_cons aD (ah aR (ah aU (pv 4) (pv 5)) (ah aX (ah aX ad (pv 4)) (pv 5))) (pps_cons aD (ah aU (ah aR (ah aR ad (pv 4)) (pv 5)) (ah aX (ah aX ad (pv 4)) (pv 5))) pps_nil)))) rfl rfl (by simp) (by decide)))
  (af (ao (ah aI (pe_dget hu (pv 6) (pv 3) (fun _ _=>rfl)) (pv 2))))))))))),?_⟩
 cases T with
 | @is q x e =>
   refine ⟨_,rfl,q,_,0,_,rfl,rfl,SqT.of e,rfl,_,rfl,rfl,_,rfl,?_⟩
   refine be rfl ?_
   obtain ⟨j,hj,jl⟩:=posOf_mem (show x ∈ ns from ok)
   obtain ⟨kvs,hd,hv⟩:=hO
   refine ⟨_,rfl,_,rfl,q,_,1,_,rfl,rfl,SqT.of e,rfl,d,.int (pt.getD j 0),rfl,?_,?_⟩
   . rw [← hv x j hj]
     exact DGet.k (k:=Sum.inr x) hd
   . have e1:(Tr.is x).worth ns pt p=pt.getD j 0:=by
      show (match cp x ns with | some j=>pt.getD j 0 | none=>0)=_
      rw [hj]
     have k':=k _ (Same.refl _)
     rw [e1] at k'
     exact k'
 | @yes q e =>
   refine ⟨_,rfl,q,_,0,_,rfl,rfl,SqT.of e,rfl,_,rfl,rfl,_,rfl,?_⟩
   refine aw (by decide +kernel) ?_
   refine ⟨_,rfl,(by show 2<=sizeLine; decide),fun c hc=>?_⟩
   have G:=Same.new hc (.lst [.str "yes", .str "no"])
   refine ⟨c,_,rfl,.inl (SqL.of upd_same),rfl,rfl,_,rfl,?_⟩
   have e0:inV (.str "yes") [.str "yes", .str "no"]=true:=by rw [yn_inS]; decide +kernel
   show if inV (.str "yes") [.str "yes", .str "no"]=true then _ else _
   rw [e0]
   refine iteT ?_
   refine ⟨_,rfl,rfl,.inr ⟨_,rfl,?_⟩⟩
   have e1:decide (V.str "yes" = V.str "yes")=true:=decide_eq_true rfl
   rw [e1]
   exact k _ G
 | @no q e =>
   refine ⟨_,rfl,q,_,0,_,rfl,rfl,SqT.of e,rfl,_,rfl,rfl,_,rfl,?_⟩
   refine aw (by decide +kernel) ?_
   refine ⟨_,rfl,(by show 2<=sizeLine; decide),fun c hc=>?_⟩
   have G:=Same.new hc (.lst [.str "yes", .str "no"])
   refine ⟨c,_,rfl,.inl (SqL.of upd_same),rfl,rfl,_,rfl,?_⟩
   have e0:inV (.str "no") [.str "yes", .str "no"]=true:=by rw [yn_inS]; decide +kernel
   show if inV (.str "no") [.str "yes", .str "no"]=true then _ else _
   rw [e0]
   refine iteT ?_
   refine ⟨_,rfl,rfl,.inr ⟨_,rfl,?_⟩⟩
   have e1:decide (V.str "no" = V.str "yes")=false:=by decide +kernel
   rw [e1]
   exact k _ G
 | @not q u r e g =>
   refine ⟨_,rfl,q,_,0,_,rfl,rfl,SqT.of e,rfl,_,rfl,rfl,_,rfl,?_⟩
   refine aw (by decide +kernel) ?_
   refine ⟨_,rfl,(by show 2<=sizeLine; decide),fun c hc=>?_⟩
   have G:=Same.new hc (.lst [.str "yes", .str "no"])
   refine ⟨c,_,rfl,.inl (SqL.of upd_same),rfl,rfl,_,rfl,?_⟩
   have e0:inV (.str "not") [.str "yes", .str "no"]=false:=by rw [yn_inS]; decide +kernel
   show if inV (.str "not") [.str "yes", .str "no"]=true then _ else _
   rw [e0]
   refine iteF ?_
   have dn':r.depth<=n:=by
    have:r.depth+1<=n+1:=dn
    omega
   refine ⟨_,rfl,q,_,1,_,rfl,rfl,SqT.of (G _ _ e),rfl,_,rfl,_,rfl,u,r,d,ns,pt,p,rfl,g.mono (keepT_same G),ok,dn',hO.same G,sl,p1,p40,po,fun H2 S2=>?_⟩
   refine ⟨_,rfl,rfl,_,rfl,?_⟩
   refine be rfl ?_
   refine ⟨_,rfl,_,_,rfl,rfl,_,rfl,_,_,rfl,rfl,p0,?_⟩
   exact k _ (G.trans S2)
 | @bin q o u u2 r r2 e g g2 =>
   obtain ⟨ho,ok1,ok2⟩:=ok
   refine ⟨_,rfl,q,_,0,.str o,rfl,rfl,SqT.of e,at0S ..,_,rfl,rfl,_,rfl,?_⟩
   refine aw (join_noS ho (by decide +kernel)) ?_
   refine ⟨_,rfl,(by show 2<=sizeLine; decide),fun c hc=>?_⟩
   have G:=Same.new hc (.lst [.str "yes", .str "no"])
   refine ⟨c,_,rfl,.inl (SqL.of upd_same),rfl,rfl,_,rfl,?_⟩
   have e0:inV (.str o) [.str "yes", .str "no"]=false:=by
    rw [yn_inS,decide_eq_false,decide_eq_false]
    . rfl
    . exact fun z=>join_noS ho (by decide +kernel) (congrArg V.str z)
    . exact fun z=>join_noS ho (by decide +kernel) (congrArg V.str z)
   show if inV (.str o) [.str "yes", .str "no"]=true then _ else _
   rw [e0]
   refine iteF ?_
   have dn':r.depth<=n/\r2.depth<=n:=by
    have:max r.depth r2.depth+1<=n+1:=dn
    omega
   refine ⟨_,rfl,q,_,1,_,rfl,rfl,SqT.of (G _ _ e),rfl,_,rfl,_,rfl,u,r,d,ns,pt,p,rfl,g.mono (keepT_same G),ok1,dn'.1,hO.same G,sl,p1,p40,po,fun H2 S2=>?_⟩
   have S02:=G.trans S2
   have w1:=worth_rng p1 po sl r ok1
   have w2:=worth_rng p1 po sl r2 ok2
   have ew:(Tr.bin o r r2).worth ns pt p=valS o (r.worth ns pt p) (r2.worth ns pt p) % p:=joinI_valS o p _ _
   rw [ew] at k
   refine ⟨_,rfl,rfl,_,rfl,?_⟩
   refine aw (join_noS ho (by decide +kernel)) ?_
   refine ⟨_,rfl,q,_,2,_,rfl,rfl,SqT.of (S02 _ _ e),rfl,_,rfl,_,rfl,u2,r2,d,ns,pt,p,rfl,g2.mono (keepT_same S02),ok2,dn'.2,hO.same S02,sl,p1,p40,po,fun H3 S3=>?_⟩
   have S03:=S02.trans S3
   generalize r.worth ns pt p=x at w1 k
   generalize r2.worth ns pt p=y at w2 k
   refine fun m hm=>?_
   refine ⟨_,rfl,_,rfl,_,_,rfl,rfl,.inl ⟨by omega,by omega⟩,_,rfl,_,rfl,_,_,rfl,rfl,_,rfl,_,rfl,_,_,rfl,rfl,.inl ⟨by omega,by omega⟩,_,_,rfl,rfl,_,rfl,_,rfl,_,_,rfl,rfl,_,rfl,_,_,rfl,rfl,.inl ⟨by decide,by decide⟩,_,rfl,_,_,rfl,rfl,.inr ⟨by omega,by omega⟩,_,_,rfl,rfl,?_⟩
   refine ⟨_,rfl,_,_,rfl,rfl,_,rfl,_,_,rfl,rfl,_,rfl,_,_,rfl,rfl,.inl ⟨by decide,by decide⟩,_,rfl,_,_,rfl,rfl,.inr ⟨by omega,by omega⟩,_,_,rfl,rfl,?_⟩
   refine ⟨upd_same,dS x y,rfl,by show 4<=15; decide,?_⟩
   rw [dS_merge]
   have Sd:Same H3 (upd (upd H3 m (.dK [])) m (.dK (dS x y))):=fun b' o' e'=>by
    have nb:=ne_of_none e' hm
    rw [au nb,au nb]
    exact e'
   have hd2:upd (upd H3 m (.dK [])) m (.dK (dS x y)) m=some (.dK (dS x y)):=upd_same
   generalize upd (upd H3 m (.dK [])) m (.dK (dS x y))=H4 at Sd hd2
   refine ⟨_,rfl,_,rfl,m,_,rfl,(by rw [← dS_get x y o ho]; exact DGet.k (k:=Sum.inr _) hd2),_,rfl,_,_,rfl,rfl,p0,?_⟩
   exact k _ (S03.trans Sd)
theorem lwd_zero {f:Addr} {fd:FuncData}:FnOk P w K mg base CX0 2 f fd ["_law_tree_here", "_law_point", "_law_p"] (spLWd 0):=by
 have no:∀ vs H Q E,¬ spLWd 0 vs H Q E:=fun vs H Q E h=>by
  obtain ⟨v,t,_,_,_,_,_,_,_,h1,_⟩:=h
  have:=t.depth_pos
  omega
 exact ⟨fun vs H Q E h=>absurd h (no vs H Q E),fun A outer s H args us vs Q E _ _ _ _ h=>absurd h (no vs H Q E)⟩
theorem ok_l_worth {f:Addr} {fd:FuncData} (F:Fun K "_law_worth" "_law_worth" s_l_worth f fd) (B:Bl mg) (m:mg "_law_worth" = some (.ref f)) :
 ∀ n:Nat,FnOk P w K mg base CX0 (n+2) f fd ["_law_tree_here", "_law_point", "_law_p"] (spLWd n)
 | 0=>lwd_zero
 | n+1=>lwd_step F B (Cal.of F (ok_l_worth F B m n) m (fun _ _ _ _ _ _ us hl=>by obtain ⟨u0,u1,u2,rfl⟩:=len3 hl; rfl))
end
theorem join_both {p x y:Int} (hp:1 < p) {o:Str} (bx cy:Bool) (hx:x=if bx then 1 else 0) (hy:y=if cy then 1 else 0):cC p o x y=if joinB o bx cy then 1 else 0:=by
 have m0:(0:Int) % p=0:=Int.zero_emod p
 have m1:(1:Int) % p=1:=Int.emod_eq_of_lt (by decide) hp
 subst hx hy
 unfold cC joinB
 cases bx <;> cases cy <;> (repeat' split) <;> simp_all
theorem worth_holds {ns:List Str} {st:List Int} {p:Int} (hp:1 < p) (h:∀ x ∈ st,x=0∨x=1) (hl:st.length=ns.length):∀ t:Tr,t.ok ns->t.worth ns st p=if t.holds ns st then 1 else 0
 | .is x,ok=>by
   obtain ⟨j,hj,jl⟩:=posOf_mem ok
   show (match cp x ns with | some j=>st.getD j 0 | none=>0)=if (match cp x ns with | some j=>decide (st.getD j 0=1) | none=>false)=true then 1 else 0
   rw [hj]
   show st.getD j 0=if decide (st.getD j 0=1)=true then 1 else 0
   rw [getD_mem (by omega)]
   rcases h _ (List.getElem_mem (show j < st.length by omega)) with e | e <;> rw [e] <;> rfl
 | .yes,_=>rfl
 | .no,_=>rfl
 | .not a,ok=>by
   have m0:(0:Int) % p=0:=Int.zero_emod p
   have m1:(1:Int) % p=1:=Int.emod_eq_of_lt (by decide) hp
   show (1 - a.worth ns st p) % p=if (!a.holds ns st)=true then 1 else 0
   rw [worth_holds hp h hl a ok]
   cases a.holds ns st
   . exact m1
   . exact m0
 | .bin o a b,⟨_,k1,k2⟩=>join_both hp _ _ (worth_holds hp h hl a k1) (worth_holds hp h hl b k2)
section
theorem cut_to {xs:List V} {k:Nat} (hk:k<=xs.length):cutV xs none (some (k:Int))=xs.take k:=by
 unfold cutV
 rw [HT.sIx_none,HT.sIx_nat,List.drop_zero,Nat.sub_zero,Nat.min_eq_left hk]
structure GmT (H:Hp) (gh a b:Addr) (ns:List Str) (tv:List V) (ts:List Tr) (p:Int):Prop where
 hg:H gh=some (.tup [.ref a,.ref b,.int p])
 ha:H a=some (.tup (ns.map V.str))
 hb:H b=some (.tup tv)
 tr:TreesAt H tv ts
theorem GmT.mono {H H':Hp} {gh a b:Addr} {ns:List Str} {tv:List V} {ts:List Tr} {p:Int} (h:GmT H gh a b ns tv ts p) (k:bO H H'):GmT H' gh a b ns tv ts p:=⟨k _ _ h.hg,k _ _ h.ha,k _ _ h.hb,h.tr.mono k⟩
theorem call_max1K {X:Cx} (K:W.Frag) (hc:X.calm=true) (h:X.K=K:=by rfl):CallR X (.builtin "max") (rMax1 K):=by subst h; exact call_max1 hc
def spLDeg:Sp:=fun vs H Q _=>∃ (gh a b:Addr) (ns:List Str) (tv:List V) (ts:List Tr) (p:Int),vs=[.ref gh]/\GmT H gh a b ns tv ts p/\GmK ns ts p/\∀ (l:Addr) (H':Hp),H l=none->Same H H'->H' l=some (.lst ((ns.map (aZ ts)).map V.int))->Q (.ref l) H'
theorem sc_l_degrees:FnScope ["_law_game_here"] ["_law_game_here"] (ag cX):=⟨rfl,rfl,rfl,by decide +kernel,rfl,by decide +kernel,by decide +kernel⟩
theorem ok_l_degrees {f:Addr} {fd:FuncData} (F:Fun K "_law_degrees" "_law_degrees" cX f fd) (B:Bl mg) (C_l_names_of:Cal P w K mg base 12 "_law_names_of" ["_law_tree_here"] (spNO 10)):FnOk P w K mg base CX0 13 f fd ["_law_game_here"] spLDeg:=by
 refine F.ok sc_l_degrees (fun vs H Q E h=>?_) (fun cdv A outer s H vs Q E hr h=>?_)
 . obtain ⟨gh,a,b,ns,tv,ts,p,rfl,_⟩:=h
   rfl
 obtain ⟨gh,a,b,ns,tv,ts,p,rfl,G,k,q⟩:=h
 refine ⟨_,(af (ao (pe_compO (N:=["_law_game_here"]) (ix:=[0]) rfl
  (CompScopeO.one (by with_unfolding_all rfl) (fun _ _=>⟨by with_unfolding_all rfl,by with_unfolding_all rfl⟩) rfl (by decide) (by with_unfolding_all rfl) (by decide +kernel) (by with_unfolding_all rfl) (by with_unfolding_all rfl) (by with_unfolding_all rfl) rfl rfl) rfl
  (pi_tup (ay aA (pv 0) ad (fun _ _=>rfl)))
  (fun _ _ _=>bL (aE (call_max1K K rfl) rfl B.max PyProof.Rows.boot_max (aa (bQ (N:=["_law_name"]) (ix:=[0]) rfl
   (CompScope.one (by with_unfolding_all rfl) (by decide) rfl (by decide) rfl (by decide +kernel) (by with_unfolding_all rfl) (by with_unfolding_all rfl) (by with_unfolding_all rfl) (by with_unfolding_all rfl) (by with_unfolding_all rfl)) rfl
   (pi_tupK K (ay (ix_tupK K) (pv 1) ad (fun _ _=>rfl)))
   (fun _ _ _=>bL (pe_bmK K PySem.F.plainAttrs_list PySem.F.slot_list_count PySem.F.type_list_count (mt_countK K) (am C_l_names_of hr (by decide) rfl (aa (pv 0) ae)) (aa (pv 1) ae)))) ae)))))),?_⟩
 obtain ⟨hg,ha,hb,TS⟩:=G
 have vl:=TS.length
 have t10:=k.t10
 have n10:=k.n10
 have t0:ts ≠ []:=fun z=>by have:=k.t1; rw [z] at this; cases this
 refine ⟨_,rfl,gh,_,0,_,rfl,rfl,SqT.of hg,rfl,a,rfl,⟨_,SqT.of ha⟩,fun D hD=>?_⟩
 refine comp_tup (K:=K) (xs:=ns.map V.str) (fun i H'=>H' D=some (.lst (((ns.take i).map (aZ ts)).map V.int))/\Same H H') ⟨by rw [upd_same]; rfl,Same.new hD _⟩ (fun i H' _ h=>SqT.of (h.2 _ _ ha)) ?_ ?_
 . rintro i z H2 hz ⟨hl,S2⟩
   have hi:i < (ns.map V.str).length:=(List.getElem?_eq_some_iff.mp hz).1
   rw [List.getElem?_map] at hz
   obtain ⟨x,hx,rfl⟩:=Option.map_eq_some_iff.mp hz
   refine ⟨_,rfl,gh,_,1,_,rfl,rfl,SqT.of (S2 _ _ hg),rfl,b,rfl,⟨_,SqT.of (S2 _ _ hb)⟩,fun D2 hD2=>?_⟩
   refine comp_tup (K:=K) (xs:=tv) (fun j H'=>H' D2=some (.lst (((ts.take j).map fun t=>(t.names.count x:Int)).map V.int))/\Same H2 H') ⟨by rw [upd_same]; rfl,Same.new hD2 _⟩ (fun j H' _ h=>SqT.of (h.2 _ _ (S2 _ _ hb))) ?_ ?_
   . rintro j u H3 hu ⟨hl3,S3⟩
     obtain ⟨t,ht,Tt⟩:=TS.get hu
     obtain ⟨_,tw,td,tz⟩:=k.tok t (List.mem_of_getElem? ht)
     have hj:j < tv.length:=(List.getElem?_eq_some_iff.mp hu).1
     refine ⟨_,rfl,u,t,rfl,Tt.mono (keepT_same (S2.trans S3)),tw,by omega,tz,fun l H4 l0 S4 hl4=>?_⟩
     refine ⟨.inl ⟨rfl,_,SqL.of hl4⟩,_,rfl,l,_,_,rfl,rfl,SqL.of hl4,flat_strs _,rfl,?_⟩
     rw [count_strs]
     refine ⟨_,S4 _ _ hl3,?_,Nx.of hj ⟨?_,fun b' o' e'=>?_⟩⟩
     . rw [List.length_map,List.length_map,List.length_take]
       exact aJ (by omega)
     . rw [upd_same,List.take_add_one,ht,List.map_append,List.map_append]
       rfl
     . rw [au (ne_of_none e' hD2)]
       exact S4 _ _ (S3 _ _ e')
   . rintro H3 ⟨hl3,S3⟩
     rw [vl,List.take_length] at hl3
     refine ⟨D2,_,rfl,SqL.of hl3,by simpa using t0,?_⟩
     refine ⟨_,S3 _ _ hl,?_,Nx.of hi ⟨?_,fun b' o' e'=>?_⟩⟩
     . rw [List.length_map,List.length_map,List.length_take]
       exact aJ (by omega)
     . rw [upd_same,List.take_add_one,hx,List.map_append,List.map_append]
       rfl
     . rw [au (ne_of_none e' hD)]
       exact S3 _ _ (S2 _ _ e')
 . rintro H2 ⟨hl,S2⟩
   rw [List.length_map,List.take_length] at hl
   exact q D H2 hD S2 hl
end
section
theorem posOf_at {x:Str}:∀ {ns:List Str} {j:Nat},cp x ns=some j->ns[j]?=some x
 | [],j,h=>by simp [cp] at h
 | a::r,j,h=>by
   unfold cp at h
   by_cases c:a=x
   . rw [if_pos c] at h
     cases h
     rw [c]
     rfl
   . rw [if_neg c] at h
     obtain ⟨i,hi,rfl⟩:=Option.map_eq_some_iff.mp h
     show r[i]?=some x
     exact posOf_at hi
theorem valV_merge_not {k:Key}:∀ (more acc:List (Key × V)),k ∉ more.map (·.1)->cw (mergeK acc more) k=cw acc k
 | [],acc,_=>rfl
 | kv::r,acc,h=>by
   have h1:k ≠ kv.1:=fun e=>h (by rw [e]; exact List.mem_cons_self)
   have h2:k ∉ r.map (·.1):=fun e=>h (List.mem_cons_of_mem _ e)
   show cw (mergeK (putK acc kv.1 kv.2) r) k=_
   rw [valV_merge_not r _ h2,valV_put,if_neg h1]
theorem valV_merge_mem {k:Key} {v:V}:∀ (more acc:List (Key × V)),(more.map (·.1)).Nodup->(k,v) ∈ more->cw (mergeK acc more) k=some v
 | [],_,_,h=>by cases h
 | kv::r,acc,nd,h=>by
   have nd':kv.1 ∉ r.map (·.1)/\(r.map (·.1)).Nodup:=List.nodup_cons.mp nd
   show cw (mergeK (putK acc kv.1 kv.2) r) k=_
   rcases List.mem_cons.mp h with e | e
   . subst e
     rw [valV_merge_not r _ nd'.1,valV_put,if_pos rfl]
   . exact valV_merge_mem r _ nd'.2 e
def ndL (ns:List Str) (pt:List Int):List (Key × V):=List.zipWith (fun (x:Str) (n:Int)=>((Sum.inr x:Key),V.int n)) ns pt
theorem ndL_at {ns:List Str} {pt:List Int} {j:Nat} {x:Str} {n:Int} (h1:ns[j]?=some x) (h2:pt[j]?=some n):(ndL ns pt)[j]?=some (Sum.inr x,V.int n):=by
 unfold ndL
 rw [List.getElem?_zipWith,h1,h2]
theorem ndL_len {ns:List Str} {pt:List Int} (h:pt.length=ns.length):(ndL ns pt).length=ns.length:=by
 unfold ndL
 rw [List.length_zipWith,h,Nat.min_self]
theorem ndL_keys:∀ {ns:List Str} {pt:List Int},pt.length=ns.length->(ndL ns pt).map (·.1)=ns.map fun x=>(Sum.inr x:Key)
 | [],[],_=>rfl
 | a::ns,b::pt,h=>by
   have:=ndL_keys (ns:=ns) (pt:=pt) (by simpa using h)
   show (Sum.inr a:Key)::(ndL ns pt).map (·.1)=_
   rw [this]
   rfl
 | [],_::_,h=>by simp at h
 | _::_,[],h=>by simp at h
theorem ndL_on {ns:List Str} {pt:List Int} (nd:ns.Nodup) (hl:pt.length=ns.length) (x:Str) (j:Nat) (h:cp x ns=some j):cw (mergeK [] (ndL ns pt)) (Sum.inr x)=some (.int (pt.getD j 0)):=by
 have h1:=posOf_at h
 have jl:j < pt.length:=by
  have:=(List.getElem?_eq_some_iff.mp h1).1
  omega
 have h2:pt[j]?=some pt[j]:=List.getElem?_eq_getElem jl
 have nk:((ndL ns pt).map (·.1)).Nodup:=by
  rw [ndL_keys hl]
  exact List.Pairwise.map _ (fun a b (hab:a ≠ b) e=>hab (Sum.inr.inj e)) nd
 rw [valV_merge_mem _ _ nk (List.mem_of_getElem? (ndL_at h1 h2)),List.getD_eq_getElem?_getD,h2]
 rfl
def spMixd:Sp:=fun vs H Q _=>∃ (gh a b r:Addr) (ns:List Str) (tv:List V) (ts:List Tr) (pt:List Int) (s p:Int),vs=[.ref gh,.int s,.ref r]/\GmT H gh a b ns tv ts p/\ns.Nodup/\ns.length<=10/\(∀ t ∈ ts,t.ok ns/\t.depth<=10)/\IntsAt H r pt/\pt.length=ns.length/\PtOk pt p/\1 < p/\p < 2 ^ 40/\∀ H',Same H H'->Q (.int (hor s p (ts.map fun t=>t.worth ns pt p))) H'
theorem sc_l_mixed:FnScope ["_law_game_here", "_law_s", "_law_point", "_law_switches", "_law_trees", "_law_p", "_law_named", "_law_total", "_law_tree_here"] ["_law_game_here", "_law_s", "_law_point"] (ag s_l_mixed):=⟨rfl,rfl,rfl,by decide +kernel,rfl,by decide +kernel,by decide +kernel⟩
theorem ok_l_mixed {f:Addr} {fd:FuncData} (F:Fun K "_law_mixed" "_law_mixed" s_l_mixed f fd) (B:Bl mg) (C_l_worth:Cal P w K mg base 12 "_law_worth" ["_law_tree_here", "_law_point", "_law_p"] (spLWd 10)):FnOk P w K mg base CX0 13 f fd ["_law_game_here", "_law_s", "_law_point"] spMixd:=by
 refine F.ok sc_l_mixed (fun vs H Q E h=>?_) (fun cdv A outer s H vs Q E hr h=>?_)
 . obtain ⟨gh,a,b,r,ns,tv,ts,pt,s,p,rfl,_⟩:=h
   rfl
 obtain ⟨gh,a,b,r,ns,tv,ts,pt,s,p,rfl,G,nd,n10,tok,hr0,pl,po,p1,p40,q⟩:=h
 refine ⟨_,(ac (ps_asg (pv 0) (pg_tup rfl (bD (aS (i:=3) sc_l_mixed.nd rfl (Or.inl rfl)) (bD (aS (i:=4) sc_l_mixed.nd rfl (Or.inl rfl)) (bD (aS (i:=5) sc_l_mixed.nd rfl (Or.inl rfl)) pgs_nil)))))
  (ac (ak (i:=6) sc_l_mixed.nd rfl (Or.inl rfl) (pe_dictzip rfl rfl B.dict rfl B.zip (aa (pv 3) (aa (pv 2) ae))))
  (ac (ak (i:=7) sc_l_mixed.nd rfl (Or.inl rfl) ad)
  (ac (ci PassesOwn.never rfl (pi_revb rfl B.reversed (pv 4)) (aS (i:=8) sc_l_mixed.nd rfl (Or.inl rfl)) (af (ak (i:=7) sc_l_mixed.nd rfl (Or.inl rfl) (ah aI (ah aU (ah aX (pv 7) (pv 1)) (am C_l_worth hr (by decide) rfl (aa (pv 8) (aa (pv 6) (aa (pv 5) ae))))) (pv 5)))))
  (af (ao (pv 7))))))),?_⟩
 have p0:0 < p:=by omega
 have vl:=G.tr.length
 obtain ⟨c,hr1⟩:=hr0.sqB (K:=K)
 refine ⟨_,rfl,gh,_,rfl,SqT.of G.hg,rfl,_,_,rfl,_,_,rfl,_,_,rfl,rfl,?_⟩
 refine ⟨_,rfl,_,rfl,a,r,false,c,_,_,ndL ns pt,rfl,SqT.of G.ha,hr1,by rw [List.length_map,ndL_len pl],bv (by rw [ndL_len pl]; omega),fun j kv hj=>?_,fun d hd=>?_⟩
 . have jl:j < ns.length:=by
    have:=(List.getElem?_eq_some_iff.mp hj).1
    rw [ndL_len pl] at this
    exact this
   have h1:ns[j]?=some ns[j]:=List.getElem?_eq_getElem jl
   have h2:pt[j]?=some (pt[j]'(by omega)):=List.getElem?_eq_getElem _
   rw [ndL_at h1 h2] at hj
   cases hj
   exact ⟨by rw [List.getElem?_map,h1]; rfl,by rw [List.getElem?_map,h2]; rfl⟩
 have Id:=Same.new hd (.dK (mergeK [] (ndL ns pt)))
 have Nd:NdAt (upd H d (.dK (mergeK [] (ndL ns pt)))) d ns pt:=⟨_,upd_same,ndL_on nd pl⟩
 generalize upd H d (.dK (mergeK [] (ndL ns pt)))=H1 at Id Nd
 have hb1:=Id _ _ G.hb
 refine ⟨_,rfl,false,b,_,rfl,SqT.of hb1,for_revb (K:=K) (c:=false) (xs:=tv) (fun i σ H'=>∃ (x8:Option V) (t:Int),σ=[some (.ref gh),some (.int s),some (.ref r),some (.ref a),some (.ref b),some (.int p),some (.ref d),some (.int t),x8]/\t=hor s p ((ts.map fun t=>t.worth ns pt p).drop (ts.length - i))/\Same H1 H')
  ⟨_,0,rfl,by rw [Nat.sub_zero,← List.length_map (as:=ts) (f:=fun t=>t.worth ns pt p),List.drop_length]; rfl,Same.refl _⟩ (fun i σ H' _ hst=>by obtain ⟨_,_,_,_,h⟩:=hst; exact SqT.of (h _ _ hb1)) ?_ ?_⟩
 . rintro i z σ H2 hi hz ⟨x8,t,rfl,rfl,S2⟩
   rw [List.getElem?_reverse hi] at hz
   obtain ⟨u,hu,Tu⟩:=(G.tr.mono (keepT_same (Id.trans S2))).get hz
   obtain ⟨uk,ud⟩:=tok u (List.mem_of_getElem? hu)
   have hr2:=hor_rng (s:=s) p0 ((ts.map fun t=>t.worth ns pt p).drop (ts.length - i))
   refine ⟨_,rfl,_,rfl,_,_,rfl,rfl,.inl ⟨by omega,by omega⟩,_,rfl,_,rfl,_,rfl,z,u,d,ns,pt,p,rfl,Tu,uk,ud,Nd.same S2,pl,p1,p40,po,fun H3 S3=>?_⟩
   refine ⟨_,_,rfl,rfl,_,rfl,_,_,rfl,rfl,p0,?_⟩
   refine ⟨_,_,rfl,?_,S2.trans S3⟩
   have hj:ts.length - 1 - i < (ts.map fun t=>t.worth ns pt p).length:=by rw [List.length_map]; omega
   have ed:(ts.map fun t=>t.worth ns pt p).drop (ts.length - (i+1))=u.worth ns pt p::(ts.map fun t=>t.worth ns pt p).drop (ts.length - i):=by
    have e1:ts.length - (i+1)=ts.length - 1 - i:=by omega
    have e2:ts.length - i=ts.length - 1 - i+1:=by omega
    rw [e1,e2,List.drop_eq_getElem_cons hj]
    congr 1
    rw [List.getElem_map]
    rw [vl] at hu
    rw [(List.getElem?_eq_some_iff.mp hu).2]
   rw [ed]
   rfl
 . rintro σ H2 ⟨x8,t,rfl,rfl,S2⟩
   rw [vl,Nat.sub_self,List.drop_zero]
   exact ⟨_,rfl,q _ (Id.trans S2)⟩
def allL:Nat->List (List Int)
 | 0=>[[]]
 | n+1=>(allL n).map (·++[0])++(allL n).map (·++[1])
theorem allL_len:∀ n,(allL n).length=2 ^ n
 | 0=>rfl
 | n+1=>by
   show ((allL n).map (·++[0])++(allL n).map (·++[1])).length=_
   rw [List.length_append,List.length_map,List.length_map,allL_len n,Nat.pow_succ]
   omega
theorem allL_mem:∀ (n:Nat) (s:List Int),s ∈ allL n->s.length=n/\∀ x ∈ s,x=0∨x=1
 | 0,s,h=>by
   rw [List.mem_singleton.mp h]
   exact ⟨rfl,fun x hx=>by cases hx⟩
 | n+1,s,h=>by
   have cl:∀ (z:Int),(z=0∨z=1)->s ∈ (allL n).map (·++[z])->s.length=n+1/\∀ x ∈ s,x=0∨x=1:=fun z hz hm=>by
    obtain ⟨t,ht,rfl⟩:=List.mem_map.mp hm
    obtain ⟨l,o⟩:=allL_mem n t ht
    refine ⟨by rw [List.length_append,l]; rfl,fun x hx=>?_⟩
    rcases List.mem_append.mp hx with hx | hx
    . exact o x hx
    . rw [List.mem_singleton.mp hx]
      exact hz
   rcases List.mem_append.mp h with h | h
   . exact cl 0 (.inl rfl) h
   . exact cl 1 (.inr rfl) h
theorem sum_two' {α:Type} (F G:α->Int):∀ l:List α,(l.map fun s=>F s+G s).sum=(l.map F).sum+(l.map G).sum
 | []=>rfl
 | a::l=>by
   simp only [List.map_cons,List.sum_cons,sum_two' F G l]
   omega
theorem sum_flat' (F:List Int->Int):∀ l:List (List Int),((l.flatMap fun s=>[s++[0],s++[1]]).map F).sum=(l.map fun s=>F (s++[0])+F (s++[1])).sum
 | []=>rfl
 | a::l=>by
   rw [List.flatMap_cons,List.map_append,List.sum_append,sum_flat' F l]
   simp
theorem allL_sum:∀ (n:Nat) (F:List Int->Int),((allL n).map F).sum=((bm n).map F).sum
 | 0,F=>by simp [allL,bm]
 | n+1,F=>by
   have e1:((bm (n+1)).map F).sum=((bm n).map fun s=>F (s++[0])+F (s++[1])).sum:=sum_flat' F _
   rw [e1,sum_two' (fun s=>F (s++[0])) (fun s=>F (s++[1]))]
   show (((allL n).map (·++[0])++(allL n).map (·++[1])).map F).sum=_
   rw [List.map_append,List.sum_append,List.map_map,List.map_map]
   rw [← allL_sum n (fun s=>F (s++[0])),← allL_sum n (fun s=>F (s++[1]))]
   rfl
theorem pow6 {i:Nat} (h:i<=6):2 ^ i<=64:=by
 have:i=0∨i=1∨i=2∨i=3∨i=4∨i=5∨i=6:=by omega
 rcases this with h | h | h | h | h | h | h <;> subst h <;> decide
def spAllS:Sp:=fun vs H Q _=>∃ n:Int,vs=[.int n]/\0<=n/\n<=6/\∀ (r:Addr) (H':Hp),H r=none->Same H H'->SetsAt H' r (allL n.toNat)->Q (.ref r) H'
theorem sc_l_all:FnScope ["_law_many", "_law_rows", "_law_k"] ["_law_many"] (ag s_l_all):=⟨rfl,rfl,rfl,by decide +kernel,rfl,by decide +kernel,by decide +kernel⟩
theorem TupsAt.app {H:Hp}:∀ {rs us:List V} {ss tt:List (List Int)},TupsAt H rs ss->TupsAt H us tt->TupsAt H (rs++us) (ss++tt)
 | _,_,_,_,.nil,h=>h
 | _,_,_,_,.cons a r,h=>.cons a (TupsAt.app r h)
theorem ok_l_all {f:Addr} {fd:FuncData} (F:Fun K "_law_all" "_law_all" s_l_all f fd) (B:Bl mg):FnOk P w K mg base CX0 1 f fd ["_law_many"] spAllS:=by
 refine F.ok sc_l_all (fun vs H Q E h=>?_) (fun cdv A outer s H vs Q E hr h=>?_)
 . obtain ⟨n,rfl,_⟩:=h
   rfl
 obtain ⟨n,rfl,n0,n6,q⟩:=h
 refine ⟨_,(ac (ak (i:=1) sc_l_all.nd rfl (Or.inl rfl) (bi (aa (bu ae) ae)))
  (ac (ci PassesOwn.never rfl (bp rfl B.range (aa (pv 0) ae)) (aS (i:=2) sc_l_all.nd rfl (Or.inl rfl)) (af (ak (i:=1) sc_l_all.nd rfl (Or.inl rfl) (ah op_cat
   (bQ (N:=[]) (ix:=[]) (cl:=[]) rfl (CompScope.closed (by with_unfolding_all rfl) (by decide) rfl (by decide) rfl (by with_unfolding_all rfl)) rfl (cN (pv 1)) (fun _ _ _=>bL (ah (op_catK K) (pv 0) (bu (aa ad ae)))))
   (bQ (N:=[]) (ix:=[]) (cl:=[]) rfl (CompScope.closed (by with_unfolding_all rfl) (by decide) rfl (by decide) rfl (by with_unfolding_all rfl)) rfl (cN (pv 1)) (fun _ _ _=>bL (ah (op_catK K) (pv 0) (bu (aa ad ae)))))))))
  (af (ao (pv 1))))),?_⟩
 refine ⟨(by show 0<=sizeLine; decide),fun p hp=>?_⟩
 have Ip:=Same.new hp (.tup [])
 have gp:upd H p (.tup []) p=some (.tup []):=upd_same
 generalize upd H p (.tup [])=H1 at Ip gp
 refine ⟨(by show 1<=sizeLine; decide),fun a ha=>?_⟩
 have Ia:=Same.new ha (.lst [.ref p])
 have ga:upd H1 a (.lst [.ref p]) a=some (.lst [.ref p]):=upd_same
 generalize upd H1 a (.lst [.ref p])=H2 at Ia ga
 have S02:=Ip.trans Ia
 refine ⟨_,rfl,n,rfl,by omega,by omega,for_range (fun i σ H'=>∃ (r:Addr) (x2:Option V),σ=[some (.int n),some (.ref r),x2]/\H r=none/\Same H H'/\SetsAt H' r (allL i)) ⟨a,_,rfl,Ip.free ha,S02,[.ref p],ga,.cons ⟨p,rfl,Ia _ _ gp⟩ .nil⟩ ?_ ?_⟩
 . rintro i σ H3 hi ⟨r,x2,rfl,r0,S3,rs,hrs,T⟩
   have i6:i < 6:=by omega
   have rl:=T.length
   have sl:=allL_len i
   have s64:=pow6 (i:=i) (by omega)
   have half:∀ (z:Int) (H4:Hp) (Q':VK),Same H3 H4->(∀ D us H5,H4 D=none->Same H4 H5->H5 D=some (.lst us)->TupsAt H5 us ((allL i).map (·++[z]))->Q' (.ref D) H5)->∀ D,H4 D=none->CompEx (Itl K r) D [] (tB0 (tOp (fun x y H Q=>rCatT K x y H Q∨rCatT0 K x y H Q) (tVar 0) (tTup (tCons (tC (.int z)) tNil)))) [some (.int n),some (.ref r),some (.int (0+(i:Int)))] H4 Q':=by
    intro z H4 Q' S4 q' D hD
    refine comp_list (K:=K) (xs:=rs) (fun j H'=>∃ us,H' D=some (.lst us)/\us.length=j/\Same H4 H'/\TupsAt H' us (((allL i).take j).map (·++[z]))) ⟨[],by rw [upd_same],rfl,Same.new hD _,.nil⟩ (fun j H' _ hst=>by obtain ⟨_,_,_,h,_⟩:=hst; exact SqL.of (h _ _ (S4 _ _ hrs))) ?_ ?_
    . rintro j v H5 hv ⟨us,hD5,ul,S5,TU⟩
      have hj:=(List.getElem?_eq_some_iff.mp hv).1
      obtain ⟨st,hst,t,rfl,ht⟩:=(T.mono (keepT_same (S4.trans S5))).get hv
      have stl:=(allL_mem i st (List.mem_of_getElem? hst)).1
      refine ⟨_,rfl,(by show 1<=sizeLine; decide),fun u hu=>?_⟩
      have I6:=Same.new hu (.tup [.int z])
      have g6:upd H5 u (.tup [.int z]) u=some (.tup ([z].map V.int)):=upd_same
      generalize upd H5 u (.tup [.int z])=H6 at I6 g6
      refine cat_any (I6 _ _ ht) g6 (by show st.length+1<=100; omega) fun t1 H7 S7 h7=>?_
      have S57:=I6.trans S7
      have hD7:=S57 _ _ hD5
      have kT:bO H7 (upd H7 D (.lst (us++[.ref t1]))):=da hD7
      refine ⟨_,hD7,aJ (by omega),Nx.of hj ⟨us++[.ref t1],upd_same,by rw [List.length_append,ul]; rfl,fun b' o' e'=>?_,?_⟩⟩
      . rw [au (ne_of_none e' hD)]
        exact S57 _ _ (S5 _ _ e')
      . rw [List.take_add_one,hst,List.map_append]
        exact ((TU.mono (keepT_same S57)).mono kT).app (.cons ⟨t1,rfl,kT _ _ h7⟩ .nil)
    . rintro H5 ⟨us,hD5,ul,S5,TU⟩
      rw [rl,List.take_length] at TU
      exact q' D us H5 hD S5 hD5 TU
   refine ⟨_,rfl,r,rfl,⟨_,SqL.of hrs⟩,fun D hD=>half 0 H3 _ (Same.refl _) (fun D1 us H4 D10 S4 hD1 TU=>?_) D hD⟩
   refine ⟨_,rfl,r,rfl,⟨_,SqL.of (S4 _ _ hrs)⟩,fun D' hD'=>half 1 H4 _ S4 (fun D2 vs H5 D20 S5 hD2 TV=>?_) D' hD'⟩
   have hD15:=S5 _ _ hD1
   have l1:=TU.length
   have l2:=TV.length
   rw [List.length_map,sl] at l1 l2
   refine ⟨D1,D2,_,_,rfl,rfl,hD15,hD2,bv (by omega),fun l hl=>?_⟩
   have Il:=Same.new hl (.lst (us++vs))
   exact ⟨l,_,rfl,(S3.trans (S4.trans S5)).free hl,S3.trans (S4.trans (S5.trans Il)),_,upd_same,(TU.mono (keepT_same (S5.trans Il))).app (TV.mono (keepT_same Il))⟩
 . rintro σ H3 ⟨r,x2,rfl,r0,S3,R⟩
   exact ⟨_,rfl,q r H3 r0 S3 R⟩
theorem hor_one (p w:Int) (h0:0<=w) (h1:w < p):hor 0 p [w]=w:=by
 show (0*0+w) % p=w
 rw [Int.mul_zero,Int.zero_add]
 exact Int.emod_eq_of_lt h0 h1
def spSumS:Sp:=fun vs H Q _=>∃ (gh a b r:Addr) (ns:List Str) (tv:List V) (ts:List Tr) (cs:List Int) (s p:Int),vs=[.ref gh,.int s,.ref r]/\GmT H gh a b ns tv ts p/\ns.Nodup/\ns.length<=6/\(∀ t ∈ ts,t.ok ns/\t.depth<=10)/\IntsAt H r cs/\cs.length<=ns.length/\PtOk cs p/\1 < p/\p < 2 ^ 40/\∀ H',Same H H'->Q (.int (rowAt ns ts s p cs)) H'
theorem sc_l_sum:FnScope ["_law_game_here", "_law_s", "_law_ahead", "_law_rest"] ["_law_game_here", "_law_s", "_law_ahead"] (ag s_l_sum):=⟨rfl,rfl,rfl,by decide +kernel,rfl,by decide +kernel,by decide +kernel⟩
theorem ok_l_sum {f:Addr} {fd:FuncData} (F:Fun K "_law_sum" "_law_sum" s_l_sum f fd) (B:Bl mg) (C_l_all:Cal P w K mg base 1 "_law_all" ["_law_many"] spAllS) (C_l_mixed:Cal P w K mg base 13 "_law_mixed" ["_law_game_here", "_law_s", "_law_point"] spMixd):FnOk P w K mg base CX0 14 f fd ["_law_game_here", "_law_s", "_law_ahead"] spSumS:=by
 refine F.ok sc_l_sum (fun vs H Q E h=>?_) (fun cdv A outer s H vs Q E hr h=>?_)
 . obtain ⟨gh,a,b,r,ns,tv,ts,cs,s,p,rfl,_⟩:=h
   rfl
 obtain ⟨gh,a,b,r,ns,tv,ts,cs,s,p,rfl,G,nd,n6,tok,hr0,cl,po,p1,p40,q⟩:=h
 refine ⟨_,(ac (ak (i:=3) sc_l_sum.nd rfl (Or.inl rfl) (am C_l_all hr (by decide) rfl (aa (ah aR (aE aB rfl B.len PySem.boot_len (aa (ay aA (pv 0) ad (fun _ _=>rfl)) ae)) (aE aB rfl B.len PySem.boot_len (aa (pv 2) ae))) ae)))
  (af (ao (ah aI (aE (call_sum rfl) rfl B.sum PyProof.Rows.boot_sum (aa (bQ (N:=["_law_s", "_law_game_here", "_law_ahead"]) (ix:=[1,0,2]) rfl
   (CompScope.three (by with_unfolding_all rfl) (by decide) rfl (by decide) rfl (by decide +kernel) rfl (by with_unfolding_all rfl) (by with_unfolding_all rfl) (by with_unfolding_all rfl) (by with_unfolding_all rfl) (by with_unfolding_all rfl) rfl rfl (by with_unfolding_all rfl) rfl rfl (by with_unfolding_all rfl) rfl rfl) rfl
   (cN (pv 3)) (fun _ _ _=>bL (am C_l_mixed hr (by decide) rfl (aa (pv 2) (aa (pv 1) (aa (ah (op_catK K) (bq (call_tuple_ofK K) rfl B.tuple cb (aa (pv 3) ae)) (pv 0)) ae)))))) ae)) (ay aA (pv 0) ad (fun _ _=>rfl)))))),?_⟩
 have p0:0 < p:=by omega
 obtain ⟨c,hr1⟩:=hr0.sqB (K:=K)
 have hrl:SqL K H r (cs.map V.int)∨SqT K H r (cs.map V.int):=hr0.elim (fun e=>.inl (SqL.of e)) (fun e=>.inr (SqT.of e))
 refine ⟨_,rfl,gh,_,0,_,rfl,rfl,SqT.of G.hg,rfl,a,_,rfl,.inr (SqT.of G.ha),_,rfl,r,_,rfl,hrl,_,_,rfl,rfl,?_⟩
 rw [List.length_map,List.length_map]
 have en:=lenB cl n6
 refine ⟨_,rfl,en.1,en.2.1,fun l H1 l0 S1 R1=>?_⟩
 rw [en.2.2] at R1
 obtain ⟨rs,hrs,T⟩:=R1
 have rl:=T.length
 have al:=allL_len (ns.length - cs.length)
 have s64:=pow6 (i:=ns.length - cs.length) (by omega)
 refine ⟨_,rfl,l,rfl,⟨_,SqL.of hrs⟩,fun D hD=>?_⟩
 refine comp_list (K:=K) (xs:=rs) (fun j H'=>H' D=some (.lst ((((allL (ns.length - cs.length)).take j).map fun st=>hor s p (ts.map fun t=>t.worth ns (cs++st) p)).map V.int))/\Same H1 H') ⟨by rw [upd_same]; rfl,Same.new hD _⟩ (fun j H' _ h=>SqL.of (h.2 _ _ hrs)) ?_ ?_
 . rintro j v H2 hv ⟨hD2,S2⟩
   have hj:=(List.getElem?_eq_some_iff.mp hv).1
   obtain ⟨st,hst,t,rfl,ht⟩:=(T.mono (keepT_same S2)).get hv
   obtain ⟨stl,s01⟩:=allL_mem _ st (List.mem_of_getElem? hst)
   have S02:=S1.trans S2
   have app:∀ H',Same H2 H'->∃ ys,H' D=some (.lst ys)/\ys.length < sizeLine/\Nx rs.length j (fun j H'=>H' D=some (.lst ((((allL (ns.length - cs.length)).take j).map fun st=>hor s p (ts.map fun t=>t.worth ns (cs++st) p)).map V.int))/\Same H1 H') (upd H' D (.lst (ys++[.int (hor s p (ts.map fun t=>t.worth ns (cs++st) p))]))):=fun H' S'=>by
    refine ⟨_,S' _ _ hD2,?_,Nx.of hj ⟨?_,fun b' o' e'=>?_⟩⟩
    . rw [List.length_map,List.length_map,List.length_take]
      exact aJ (by omega)
    . rw [upd_same,List.take_add_one,hst,List.map_append,List.map_append]
      rfl
    . rw [au (ne_of_none e' hD)]
      exact S' _ _ (S2 _ _ e')
   rcases hr0 with e | e
   . refine ⟨_,rfl,_,rfl,_,rfl,r,_,rfl,.inl ⟨SqL.of (S02 _ _ e),fun r2 hr2=>⟨_,rfl,?_⟩⟩⟩
     have Ir:=Same.new hr2 (.tup (cs.map V.int))
     refine cat_any upd_same (Ir _ _ ht) (by omega) fun t1 H4 S4 h4=>?_
     have S24:=Ir.trans S4
     exact ⟨gh,a,b,t1,ns,tv,ts,cs++st,s,p,rfl,G.mono (keepT_same (S02.trans S24)),nd,by omega,tok,.inr h4,by rw [List.length_append]; omega,pt01 po p1 s01,p1,p40,fun H' S'=>app H' (S24.trans S')⟩
   . refine ⟨_,rfl,_,rfl,_,rfl,r,_,rfl,.inr ⟨SqT.of (S02 _ _ e),⟨_,rfl,?_⟩⟩⟩
     refine cat_any (S02 _ _ e) ht (by omega) fun t1 H4 S24 h4=>?_
     exact ⟨gh,a,b,t1,ns,tv,ts,cs++st,s,p,rfl,G.mono (keepT_same (S02.trans S24)),nd,by omega,tok,.inr h4,by rw [List.length_append]; omega,pt01 po p1 s01,p1,p40,fun H' S'=>app H' (S24.trans S')⟩
 . rintro H2 ⟨hD2,S2⟩
   rw [rl,List.take_length] at hD2
   have hor_r:=fun st:List Int=>hor_rng (s:=s) (p:=p) p0 (ts.map fun t=>t.worth ns (cs++st) p)
   have sr:=sum_rng (p:=p) p0 (fun st:List Int=>hor s p (ts.map fun t=>t.worth ns (cs++st) p)) hor_r (allL (ns.length - cs.length))
   have bound:p*((allL (ns.length - cs.length)).length:Int)<=p*64:=Int.mul_le_mul_of_nonneg_left (by omega) (by omega)
   refine ⟨D,_,rfl,SqL.of hD2,fun n hn=>?_,by omega,?_⟩
   . obtain ⟨st,_,rfl⟩:=List.mem_map.mp hn
     exact (hor_r st).1
   refine ⟨_,rfl,gh,_,2,_,rfl,rfl,SqT.of (S2 _ _ (S1 _ _ G.hg)),rfl,_,_,rfl,rfl,p0,?_⟩
   have e:(((allL (ns.length - cs.length)).map fun st=>hor s p (ts.map fun t=>t.worth ns (cs++st) p)).sum) % p=rowAt ns ts s p cs:=by
    rw [allL_sum]
    unfold rowAt
    rw [← sum_mod p (fun st=>poly s (ts.map fun t=>t.worth ns (cs++st) p))]
    congr 3
    funext st
    exact hor_poly s p _
   show Q (.int (_ % p)) _
   rw [e]
   exact q _ (S1.trans S2)
theorem cnt_sum {ns:List Str} {t:Tr} {p:Int} (hp:1 < p) (ok:t.ok ns):∀ l:List (List Int),(∀ st ∈ l,st.length=ns.length/\∀ x ∈ st,x=0∨x=1)->(l.map fun st=>hor 0 p [t.worth ns st p]).sum=((l.filter fun st=>t.holds ns st).length:Int)
 | [],_=>rfl
 | st::l,h=>by
   obtain ⟨h1,h2⟩:=h st List.mem_cons_self
   have w:=worth_holds hp h2 h1 t ok
   rw [List.map_cons,List.sum_cons,cnt_sum hp ok l (fun u hu=>h u (List.mem_cons_of_mem _ hu)),w]
   cases c:t.holds ns st with
   | true =>
     rw [if_pos rfl,hor_one p 1 (by decide) hp,List.filter_cons,if_pos c,List.length_cons]
     omega
   | false =>
     rw [if_neg (by decide),hor_one p 0 (by decide) (by omega),List.filter_cons,if_neg (by rw [c]; decide)]
     omega
def spCntS:Sp:=fun vs H Q _=>∃ (gh a b:Addr) (ns:List Str) (tv:List V) (ts:List Tr) (p:Int) (k:Nat) (t:Tr),vs=[.ref gh,.int (k:Int)]/\GmT H gh a b ns tv ts p/\ns.Nodup/\ns.length<=6/\ts[k]?=some t/\t.ok ns/\t.depth<=10/\∀ H',Same H H'->Q (.int (cnt t ns:Int)) H'
theorem sc_l_count:FnScope ["_law_game_here", "_law_k", "_law_one"] ["_law_game_here", "_law_k"] (ag s_l_count):=⟨rfl,rfl,rfl,by decide +kernel,rfl,by decide +kernel,by decide +kernel⟩
theorem ok_l_count {f:Addr} {fd:FuncData} (F:Fun K "_law_count" "_law_count" s_l_count f fd) (B:Bl mg) (C_l_all:Cal P w K mg base 1 "_law_all" ["_law_many"] spAllS) (C_l_mixed:Cal P w K mg base 13 "_law_mixed" ["_law_game_here", "_law_s", "_law_point"] spMixd):FnOk P w K mg base CX0 14 f fd ["_law_game_here", "_law_k"] spCntS:=by
 refine F.ok sc_l_count (fun vs H Q E h=>?_) (fun cdv A outer s H vs Q E hr h=>?_)
 . obtain ⟨gh,a,b,ns,tv,ts,p,k,t,rfl,_⟩:=h
   rfl
 obtain ⟨gh,a,b,ns,tv,ts,p,k,t,rfl,G,nd,n6,ht,tk,td,q⟩:=h
 refine ⟨_,(ac (ak (i:=2) sc_l_count.nd rfl (Or.inr rfl) (bu (aa (ay aA (pv 0) ad (fun _ _=>rfl)) (aa (bu (aa (ay aA (ay aA (pv 0) ad (fun _ _=>rfl)) (pv 1) (fun _ _=>rfl)) ae)) (aa ad ae)))))
  (af (ao (aE (call_sum rfl) rfl B.sum PyProof.Rows.boot_sum (aa (bQ (N:=["_law_one"]) (ix:=[2]) rfl
   (CompScope.one (by with_unfolding_all rfl) (by decide) rfl (by decide) rfl (by decide +kernel) (by with_unfolding_all rfl) (by with_unfolding_all rfl) (by with_unfolding_all rfl) rfl rfl) rfl
   (cN (am C_l_all hr (by decide) rfl (aa (aE aB rfl B.len PySem.boot_len (aa (ay aA (pv 0) ad (fun _ _=>rfl)) ae)) ae))) (fun _ _ _=>bL (am C_l_mixed hr (by decide) rfl (aa (pv 1) (aa ad (aa (pv 0) ae)))))) ae))))),?_⟩
 have vl:=G.tr.length
 have hk:k < ts.length:=(List.getElem?_eq_some_iff.mp ht).1
 have hv:tv[k]?=some (tv[k]'(by omega)):=List.getElem?_eq_getElem _
 generalize tv[k]'(by omega)=v at hv
 obtain ⟨u,hu,Tu⟩:=G.tr.get hv
 rw [ht] at hu
 cases hu
 refine ⟨_,rfl,gh,_,0,_,rfl,rfl,SqT.of G.hg,rfl,_,rfl,gh,_,1,_,rfl,rfl,SqT.of G.hg,rfl,_,rfl,b,_,_,v,rfl,rfl,SqT.of G.hb,cn hv,(by show 1<=sizeLine; decide),fun b2 hb2=>⟨(by show 3<=sizeLine; decide),fun o ho=>?_⟩⟩
 have I1:=Same.new hb2 (.tup [v])
 have I2:=Same.new ho (.tup [.ref a,.ref b2,.int 999983])
 have J2:=I1.trans I2
 have G2:GmT (upd (upd H b2 (.tup [v])) o (.tup [.ref a,.ref b2,.int 999983])) o a b2 ns [v] [t] 999983:=⟨upd_same,J2 _ _ G.ha,I2 _ _ upd_same,.cons (Tu.mono (keepT_same J2)) .nil⟩
 generalize upd (upd H b2 (.tup [v])) o (.tup [.ref a,.ref b2,.int 999983])=H2 at J2 G2
 refine ⟨_,rfl,gh,_,0,_,rfl,rfl,SqT.of (J2 _ _ G.hg),rfl,a,_,rfl,.inr (SqT.of (J2 _ _ G.ha)),_,rfl,?_⟩
 rw [List.length_map]
 refine ⟨by omega,by omega,fun l H3 l0 S3 R3=>?_⟩
 rw [Int.toNat_natCast] at R3
 obtain ⟨rs,hrs,T⟩:=R3
 have rl:=T.length
 have al:=allL_len ns.length
 have s64:=pow6 (i:=ns.length) n6
 refine ⟨l,rfl,⟨_,SqL.of hrs⟩,fun D hD=>?_⟩
 refine comp_list (K:=K) (xs:=rs) (fun j H'=>H' D=some (.lst ((((allL ns.length).take j).map fun st=>hor 0 999983 [t.worth ns st 999983]).map V.int))/\Same H3 H') ⟨by rw [upd_same]; rfl,Same.new hD _⟩ (fun j H' _ h=>SqL.of (h.2 _ _ hrs)) ?_ ?_
 . rintro j x H4 hx ⟨hD4,S4⟩
   have hj:=(List.getElem?_eq_some_iff.mp hx).1
   obtain ⟨st,hst,r,rfl,hr0⟩:=(T.mono (keepT_same S4)).get hx
   obtain ⟨stl,s01⟩:=allL_mem _ st (List.mem_of_getElem? hst)
   have po:PtOk st 999983:=fun x hx=>by rcases s01 x hx with e | e <;> rw [e] <;> decide
   refine ⟨_,rfl,_,rfl,o,a,b2,r,ns,[v],[t],st,0,999983,rfl,G2.mono (keepT_same (S3.trans S4)),nd,by omega,(fun u hu=>by rw [List.mem_singleton.mp hu]; exact ⟨tk,td⟩),.inr hr0,stl,po,by decide,by decide,fun H5 S5=>?_⟩
   refine ⟨_,S5 _ _ hD4,?_,Nx.of hj ⟨?_,fun b' o' e'=>?_⟩⟩
   . rw [List.length_map,List.length_map,List.length_take]
     exact aJ (by omega)
   . rw [upd_same,List.take_add_one,hst,List.map_append,List.map_append]
     rfl
   . rw [au (ne_of_none e' hD)]
     exact S5 _ _ (S4 _ _ e')
 . rintro H4 ⟨hD4,S4⟩
   rw [rl,List.take_length] at hD4
   have cs:=cnt_sum (p:=999983) (by decide) tk (allL ns.length) (allL_mem ns.length)
   have e1:(((allL ns.length).filter fun st=>t.holds ns st).length:Int)=(cnt t ns:Int):=by
    rw [← cs,allL_sum]
    exact cnt_sum (by decide) tk (bm ns.length) (fun st hst=>⟨cM _ _ hst,setts_01 _ _ hst⟩)
   have fl:=List.length_filter_le (fun st=>t.holds ns st) (allL ns.length)
   refine ⟨D,_,rfl,SqL.of hD4,fun n hn=>?_,by rw [cs]; omega,?_⟩
   . obtain ⟨st,_,rfl⟩:=List.mem_map.mp hn
     exact (hor_rng (by decide) _).1
   . rw [cs,e1]
     exact q _ (J2.trans (S3.trans S4))
end
section
def spNamesQ:Sp:=fun vs H Q _=>∃ (f:Addr) (m:Int),vs=[.ref f,.int m]/\FeedAt H f/\0<=m/\m<=8/\∀ (l:Addr) (ns:List Str) (H':Hp),H l=none->l ≠ f->H' l=some (.lst (ns.map V.str))->ns.length=m.toNat->(∀ x ∈ ns,NmOk x)->ns.Nodup->(∀ x,ns[0]?=some x->x++("q" : Str) ∉ ns)->FeedAt H' f->SameBut f H H'->Q (.ref l) H'
theorem spNQ:∀ vs H Q E,spNamesN vs H Q E->spNamesQ vs H Q E:=fun vs H Q E ⟨f,m,e,F,m0,m6,q⟩=>⟨f,m,e,F,m0,by omega,fun l ns H' a b c d e g _=>q l ns H' a b c d e g⟩
theorem nd_names8 {ns:List Str} {t:Nat} {u:Int} (u0:0<=u) (u20:u < 20) (hl:ns.length<=8) (h:∀ (k:Nat) x,ns[k]?=some x->x.cps.toList[t]?=LTR.cps.toList[((u+7*(k:Int)) % 20).toNat]?):ns.Nodup:=by
 refine List.pairwise_iff_getElem.mpr fun i j hi hj ij e=>?_
 have h1:=h i _ (List.getElem?_eq_getElem hi)
 have h2:=h j _ (List.getElem?_eq_getElem hj)
 rw [e] at h1
 have h3:=h1.symm.trans h2
 have h4:=ltr_inj ⟨((u+7*(i:Int)) % 20).toNat,by omega⟩ ⟨((u+7*(j:Int)) % 20).toNat,by omega⟩ h3
 have h5:=congrArg Fin.val h4
 simp only at h5
 omega
theorem q_len (x:Str):x++("q" : Str) ≠ x:=fun e=>by
 have:=congrArg Str.length e
 rw [Str.length_append] at this
 have h1:(("q" : Str)).length=1:=by decide +kernel
 omega
theorem q_reg {ns:List Str} {t:Nat} {u:Int} (u0:0<=u) (u20:u < 20) (hl:ns.length<=8) (h:∀ (k:Nat) x,ns[k]?=some x->x.cps.toList[t]?=LTR.cps.toList[((u+7*(k:Int)) % 20).toNat]?):∀ x,ns[0]?=some x->x++("q" : Str) ∉ ns:=fun x hx hm=>by
 obtain ⟨k,hk⟩:=List.getElem?_of_mem hm
 have kl:=(List.getElem?_eq_some_iff.mp hk).1
 have h1:=h 0 x hx
 have h2:=h k _ hk
 have L20:LTR.cps.toList.length=20:=by decide +kernel
 have i0:((u+7*((0:Nat):Int)) % 20).toNat < LTR.cps.toList.length:=by rw [L20]; omega
 have tl:t < x.cps.toList.length:=by
  rw [List.getElem?_eq_getElem i0] at h1
  exact (List.getElem?_eq_some_iff.mp h1).1
 have e1:(x++("q" : Str)).cps.toList=x.cps.toList++(("q" : Str)).cps.toList:=by rw [Str.cps_append,Array.toList_append]
 rw [e1,List.getElem?_append_left tl,h1] at h2
 have h4:=ltr_inj ⟨((u+7*((0:Nat):Int)) % 20).toNat,by omega⟩ ⟨((u+7*(k:Int)) % 20).toNat,by omega⟩ h2
 have h5:=congrArg Fin.val h4
 simp only at h5
 have k0:k=0:=by omega
 rw [k0,hx] at hk
 exact q_len x (Option.some.inj hk).symm
theorem q_set {ns:List Str} {w:Str} {j:Nat} (nq:∀ x,ns[0]?=some x->x++("q" : Str) ∉ ns) (nlt:∀ x ∈ ns,∀ c ∈ x.cps.toList,c ∈ LTR.cps.toList) (hw:w ∈ (wordsA++wordsB)++wordsC):∀ x,(ns.set j w)[0]?=some x->x++("q" : Str) ∉ ns.set j w:=fun x hx hm=>by
 obtain ⟨c,c1,c2⟩:=words_out w hw
 have e1:∀ y:Str,(y++("q" : Str)).cps.toList=y.cps.toList++(("q" : Str)).cps.toList:=fun y=>by rw [Str.cps_append,Array.toList_append]
 have qq:∀ c ∈ (("q" : Str)).cps.toList,c ∈ LTR.cps.toList:=by decide +kernel
 rw [List.getElem?_set] at hx
 split at hx
 . split at hx
   . cases hx
     rcases List.mem_or_eq_of_mem_set hm with h | h
     . exact c2 (nlt _ h c (by rw [e1]; exact List.mem_append_left _ c1))
     . exact q_len w h
   . cases hx
 . rcases List.mem_or_eq_of_mem_set hm with h | h
   . exact nq x hx h
   . rw [← h,e1] at c1
     rcases List.mem_append.mp c1 with g | g
     . exact c2 (nlt x (List.mem_of_getElem? hx) c g)
     . exact c2 (qq c g)
theorem ok_l_namesQ {f:Addr} {fd:FuncData} (F:Fun K "_law_names" "_law_names" bb f fd) (hrange:mg "range" = none) (C_l_take:Cal P w K mg base 1 "_law_take" ["_law_feed_here", "_law_many"] spTake):FnOk P w K mg base CX0 2 f fd ["_law_feed_here", "_law_many"] spNamesQ:=by
 refine F.ok sc_l_names (fun vs H Q E h=>?_) (fun cdv A outer s H vs Q E hr h=>?_)
 . obtain ⟨f,m,rfl,_⟩:=h
   rfl
 obtain ⟨f,m,rfl,hF,m0,m6,q⟩:=h
 obtain ⟨p1,p2,p3,p4,p5,p6,p7,p8,p9,q1,q2,q3,q4,q5,ebody⟩:=names_body
 rw [ebody]
 refine ⟨_,(ac (ak (i:=2) sc_l_names.nd rfl (Or.inr rfl) aD)
  (ac (ak (i:=3) sc_l_names.nd rfl (Or.inl rfl) (pe_bm PySem.F.plainAttrs_str PySem.F.slot_str_join PySem.F.type_str_join mt_join aD (aa (bQ (N:=["_law_letters", "_law_feed_here"]) (ix:=[2,0]) rfl
   (CompScope.two (by with_unfolding_all rfl) (by decide) rfl (by decide) rfl (by decide +kernel) (by first | exact Or.inl rfl | exact Or.inr rfl) (by with_unfolding_all rfl) (by with_unfolding_all rfl) (by with_unfolding_all rfl) (by with_unfolding_all rfl) rfl rfl (by with_unfolding_all rfl) rfl rfl) rfl
   (bp rfl hrange (aa ad ae))
   (fun _ _ _=>bL (ay ix_str (pv 1) (am C_l_take hr (by decide) rfl (aa (pv 2) (aa ad ae))) (fun _ _=>rfl)))) ae)))
  (ac (ak (i:=4) sc_l_names.nd rfl (Or.inl rfl) (am C_l_take hr (by decide) rfl (aa (pv 0) (aa ad ae))))
  (ac (ak (i:=5) sc_l_names.nd rfl (Or.inl rfl) (am C_l_take hr (by decide) rfl (aa (pv 0) (aa ad ae))))
  (ac (ak (i:=6) sc_l_names.nd rfl (Or.inl rfl) (bi ae))
  (ac (ci PassesOwn.never rfl (bp rfl hrange (aa (pv 1) ae)) (aS (i:=7) sc_l_names.nd rfl (Or.inl rfl)) (ac (ak (i:=8) sc_l_names.nd rfl (Or.inl rfl) (ah aI (am C_l_take hr (by decide) rfl (aa (pv 0) (aa (ah aR ad (pv 4)) ae))) ad))
   (ac (ak (i:=9) sc_l_names.nd rfl (Or.inl rfl) (ay ix_str (pv 2) (ah aI (ah aU (pv 5) (ah aX ad (pv 7))) ad) (fun _ _=>rfl)))
   (af (dc (pe_bm PySem.F.plainAttrs_list PySem.F.slot_list_append PySem.F.type_list_append cI (pv 6) (aa (ah op_add_str (ah op_add_str (pe_slice sl_str (pv 3) po_none (po_some (pv 4))) (pv 9)) (pe_slice sl_str (pv 3) (po_some (pv 4)) (po_some (ah aU (pv 4) (pv 8))))) ae)))))))
  (ac (aG (PW.pt (pw_and (aj op_gt (pv 1) ad (aq _)) (pw_and1 (aj aN (am C_l_take hr (by decide) rfl (aa (pv 0) (aa ad ae))) ad (aq _))))) (ac (ak (i:=10) sc_l_names.nd rfl (Or.inl rfl) (bi (pa_consts namesA_w)))
   (ac (ak (i:=10) sc_l_names.nd rfl (Or.inl rfl) (ah op_cat (pv 10) (bi (pa_consts namesB_w))))
   (ac (ak (i:=10) sc_l_names.nd rfl (Or.inl rfl) (ah op_cat (pv 10) (bi (pa_consts namesC_w))))
   (af (ps_asg (ay ix_list (pv 10) (am C_l_take hr (by decide) rfl (aa (pv 0) (aa ad ae))) (fun _ _=>rfl)) (pg_sub (pv 6) (am C_l_take hr (by decide) rfl (aa (pv 0) (aa (pv 1) ae))) set_list)))))) ax)
  (af (ao (pv 6)))))))))),?_⟩
 refine ⟨rfl,5,rfl,by decide,by decide,fun D hD=>?_⟩
 have Df:=hF.ne hD
 have L20:LTR.cps.toList.length=20:=by decide +kernel
 refine cj (fun i H'=>∃ zs:List Str,H' D=some (.lst (zs.map V.str))/\zs.length=i/\(∀ z ∈ zs,z.length=1/\∀ c ∈ z.cps.toList,c ∈ LTR.cps.toList)/\FeedAt H' f/\SameBut f H H') ⟨[],by rw [upd_same]; rfl,rfl,by simp,hF.same (Same.new hD _),SameBut.of (Same.new hD _)⟩ ?_ ?_
 . rintro i H3 hi ⟨zs,hl,zl,z1,F3,S3⟩
   have i5:i < 5:=hi
   refine ⟨_,rfl,_,rfl,f,20,rfl,F3,by decide,by decide,fun d H4 d0 d26 F4 S4=>?_⟩
   obtain ⟨c,hc,hm⟩:=at_in (l:=LTR.cps.toList) (i:=d) d0 (by rw [L20]; exact d26)
   have hD4:H4 D=some (.lst (zs.map V.str)):=S4 D _ Df hl
   refine ⟨_,d,c,rfl,rfl,bv (by decide +kernel),hc,_,hD4,?_,Nx.of hi ⟨zs++[⟨#[c]⟩],?_,?_,?_,feed_upd F4 Df,?_⟩⟩
   . rw [List.length_map,zl]
     exact aJ (Nat.le_of_lt (Nat.lt_trans i5 (by decide)))
   . rw [upd_same,List.map_append]
     rfl
   . rw [List.length_append,List.length_singleton,zl]
   . intro z hz
     rcases List.mem_append.mp hz with h | h
     . exact z1 z h
     . rw [List.mem_singleton.mp h]
       refine ⟨rfl,fun c' hc'=>?_⟩
       have:c'=c:=by simpa using hc'
       subst this
       exact hm
   . intro b o hb e
     rw [au (ne_of_none e hD)]
     exact S4 b o hb (S3 b o hb e)
 rintro H3 ⟨zs,hl,zl,z1,F3,S3⟩
 have sl:=sum_ones z1
 have zl5:zs.length=5:=zl
 refine ⟨_,D,zs,rfl,rfl,SqL.of hl,(by decide +kernel),by omega,?_⟩
 have jl:(Txt.join "" zs).length=5:=by
  have:=size_glued "" zs
  have e0:(("" : Str)).length=0:=by decide +kernel
  rw [e0,Nat.mul_zero] at this
  show (Builtin.Str.glued "" zs).length=5
  omega
 have jc:∀ c ∈ (Txt.join "" zs).cps.toList,c ∈ LTR.cps.toList:=fun c hc=>by
  obtain ⟨z,hz,h⟩:=mem_join0 hc
  exact (z1 z hz).2 c h
 generalize Txt.join "" zs=cm at jl jc
 refine ⟨_,rfl,f,6,rfl,F3,by decide,by decide,fun t H4 t0 t6 F4 S4=>?_⟩
 refine ⟨_,rfl,f,20,rfl,F4,by decide,by decide,fun u H5 u0 u20 F5 S5=>?_⟩
 refine ⟨(by show 0<=sizeLine; decide),fun L hL=>?_⟩
 have S05:SameBut f H H5:=S3.trans (S4.trans S5)
 have Lf:=F5.ne hL
 have L0:H L=none:=by
  cases e:H L with
  | none=>rfl
  | some o=>rw [S05 L o Lf e] at hL; cases hL
 refine ⟨_,rfl,m,rfl,by omega,by omega,for_range (fun i σ H'=>∃ (x7 x8 x9:Option V) (ns:List Str),σ=[some (.ref f),some (.int m),some (.str LTR),some (.str cm),some (.int t),some (.int u),some (.ref L),x7,x8,x9,none]/\H' L=some (.lst (ns.map V.str))/\ns.length=i/\(∀ x ∈ ns,NmOk x)/\(∀ x ∈ ns,∀ c ∈ x.cps.toList,c ∈ LTR.cps.toList)/\(∀ (k:Nat) x,ns[k]?=some x->x.cps.toList[t.toNat]?=LTR.cps.toList[((u+7*(k:Int)) % 20).toNat]?)/\FeedAt H' f/\SameBut f H H')
  ⟨_,_,_,[],rfl,by rw [upd_same]; rfl,rfl,by simp,by simp,by simp,F5.same (Same.new hL _),S05.trans (SameBut.of (Same.new hL _))⟩ ?_ ?_⟩
 . rintro i σ H6 hi ⟨x7,x8,x9,ns,rfl,hns,nl,nok,nlt,nat,F6,S6⟩
   refine ⟨_,rfl,_,rfl,_,_,rfl,rfl,f,_,rfl,F6,(Int.sub_pos_of_lt t6),(Int.lt_of_le_of_lt (Int.sub_le_self 6 t0) (by decide)),fun d H7 d0 d1 F7 S7=>?_⟩
   refine ⟨_,_,rfl,rfl,(by show (0:Int) < _; decide),?_⟩
   obtain ⟨c,hc,hm⟩:=at_in (l:=LTR.cps.toList) (i:=(u+7*(0+(i:Int))) % 20) (Int.emod_nonneg _ (by decide)) (by rw [L20]; exact Int.emod_lt_of_pos _ (by decide))
   refine ⟨_,rfl,_,rfl,_,rfl,_,_,rfl,rfl,?_,_,_,rfl,rfl,_,_,rfl,rfl,(by show (0:Int) < _; decide),_,_,c,rfl,rfl,bv (by decide +kernel),hc,?_⟩
   . exact .inl ⟨by decide,by decide⟩
   have hL7:=S7 L _ Lf hns
   have z1:(Txt.slice cm none (some t)).length<=cm.length:=Txt.slice_le cm none (some t)
   have z2:(Txt.slice cm (some t) (some (t+d % 3))).length<=cm.length:=Txt.slice_le cm _ _
   have z3:((⟨#[c]⟩:Str)).length=1:=rfl
   refine ⟨_,rfl,.inl ⟨rfl,_,SqL.of hL7⟩,?_⟩
   refine ⟨_,rfl,_,rfl,_,rfl,_,rfl,bv (by rw [jl]; decide),_,rfl,_,_,rfl,rfl,bv (by rw [z3]; omega),?_⟩
   refine ⟨_,rfl,_,rfl,_,rfl,_,rfl,_,rfl,_,_,rfl,rfl,_,rfl,_,rfl,bv (by rw [jl]; decide),_,_,rfl,rfl,bv (by rw [Str.length_append,z3]; omega),?_⟩
   refine ⟨L,_,_,rfl,rfl,hL7,?_,?_⟩
   . rw [List.length_map]
     exact aJ (by omega)
   refine ⟨_,_,_,ns++[(Txt.slice cm none (some t)++⟨#[c]⟩)++Txt.slice cm (some t) (some (t+d % 3))],rfl,?_,?_,?_,?_,?_,feed_upd F7 Lf,?_⟩
   . rw [upd_same,List.map_append]
     rfl
   . rw [List.length_append,List.length_singleton,nl]
   . intro x hx
     rcases List.mem_append.mp hx with h | h
     . exact nok x h
     . rw [List.mem_singleton.mp h]
       refine ⟨?_,fun c' hc'=>?_,fun ea=>?_⟩
       . rw [Str.length_append,Str.length_append,z3]
         omega
       rotate_left
       . have cm1:c ∈ (((Txt.slice cm none (some t)++⟨#[c]⟩)++Txt.slice cm (some t) (some (t+d % 3)):Str)).cps.toList:=by
          rw [Str.cps_append,Str.cps_append]
          simp
         rw [ea] at cm1
         exact ltr_na c hm ((by decide +kernel:∀ c ∈ (("aa" : Str)).cps.toList,c=97) c cm1)
       . rcases mem_append hc' with h | h
         . rcases mem_append h with h | h
           . exact ltr_ok _ (jc _ (mem_slice h))
           . have:c'=c:=by simpa using h
             subst this
             exact ltr_ok _ hm
         . exact ltr_ok _ (jc _ (mem_slice h))
   . intro x hx c' hc'
     rcases List.mem_append.mp hx with h | h
     . exact nlt x h c' hc'
     . rw [List.mem_singleton.mp h] at hc'
       rcases mem_append hc' with h | h
       . rcases mem_append h with h | h
         . exact jc _ (mem_slice h)
         . have:c'=c:=by simpa using h
           subst this
           exact hm
       . exact jc _ (mem_slice h)
   . intro k x hx
     by_cases ck:k < ns.length
     . rw [List.getElem?_append_left ck] at hx
       exact nat k x hx
     . have kl:k < (ns++[(Txt.slice cm none (some t)++⟨#[c]⟩)++Txt.slice cm (some t) (some (t+d % 3))]).length:=(List.getElem?_eq_some_iff.mp hx).1
       rw [List.length_append,List.length_singleton] at kl
       have ek:k=i:=by omega
       subst ek
       rw [List.getElem?_append_right (by omega),nl,Nat.sub_self] at hx
       have ex:(Txt.slice cm none (some t)++⟨#[c]⟩)++Txt.slice cm (some t) (some (t+d % 3))=x:=Option.some.inj hx
       rw [← ex]
       have cl:cm.cps.toList.length=5:=jl
       have es:Txt.slice cm none (some t)=⟨((cm.cps.toList.drop 0).take (t - 0).toNat).toArray⟩:=StrLaws.sliceText_to ⟨t0,by omega⟩
       have el:(Txt.slice cm none (some t)).cps.toList.length=t.toNat:=by
        rw [es]
        simp only [List.drop_zero,Int.sub_zero,List.length_take]
        omega
       have ea:((Txt.slice cm none (some t)++⟨#[c]⟩)++Txt.slice cm (some t) (some (t+d % 3))).cps.toList=(Txt.slice cm none (some t)).cps.toList++([c]++(Txt.slice cm (some t) (some (t+d % 3))).cps.toList):=by
        rw [Str.cps_append,Str.cps_append]
        simp
       rw [ea,List.getElem?_append_right (by omega),el,Nat.sub_self]
       have hc2:LTR.cps.toList[((u+7*(0+(k:Int))) % 20).toNat]?=some c:=at_get (Int.emod_nonneg _ (by decide)) hc
       rw [Int.zero_add] at hc2
       rw [hc2]
       rfl
   . intro b o hb e
     rw [au (ne_of_none e L0)]
     exact S7 b o hb (S6 b o hb e)
 . rintro σ H6 ⟨x7,x8,x9,ns,rfl,hns,nl,nok,nlt,nat,F6,S6⟩
   have nnd:ns.Nodup:=nd_names8 u0 u20 (by omega) nat
   refine ⟨_,rfl,_,_,rfl,rfl,_,rfl,?_⟩
   have fin:∀ H':Hp,∀ ns:List Str,H' L=some (.lst (ns.map V.str))->ns.length=m.toNat->(∀ x ∈ ns,NmOk x)->ns.Nodup->(∀ x,ns[0]?=some x->x++("q" : Str) ∉ ns)->FeedAt H' f->SameBut f H H'->Q (.ref L) H':=fun H' ns a b c nd nq d e=>q L ns H' L0 Lf a b c nd nq d e
   have nq:=q_reg u0 u20 (by omega) nat
   by_cases c1:(0:Int) < m
   . refine be c1 ?_
     refine ⟨_,rfl,f,3,rfl,F6,by decide,by decide,fun d H7 d0 d1 F7 S7=>?_⟩
     refine ⟨rfl,_,rfl,?_⟩
     have hL7:=S7 L _ Lf hns
     refine ite2 (fun _=>?_) (fun _=>?_)
     . refine ⟨(by show 12<=sizeLine; decide),fun l1 h1=>?_⟩
       refine ⟨_,rfl,(by show 6<=sizeLine; decide),fun l2 h2=>?_⟩
       refine ⟨l1,l2,wordsA.map V.str,wordsB.map V.str,rfl,rfl,Same.new h2 _ _ _ upd_same,upd_same,(by show 18<=sizeLine; decide),fun l3 h3=>?_⟩
       refine ⟨_,rfl,(by show 6<=sizeLine; decide),fun l4 h4=>?_⟩
       refine ⟨l3,l4,wordsA.map V.str++wordsB.map V.str,wordsC.map V.str,rfl,rfl,Same.new h4 _ _ _ upd_same,upd_same,(by show 24<=sizeLine; decide),fun l5 h5=>?_⟩
       have G:=(Same.new h1 (.lst (wordsA.map V.str))).trans ((Same.new h2 (.lst (wordsB.map V.str))).trans ((Same.new h3 (.lst (wordsA.map V.str++wordsB.map V.str))).trans ((Same.new h4 (.lst (wordsC.map V.str))).trans (Same.new h5 (.lst ((wordsA.map V.str++wordsB.map V.str)++wordsC.map V.str))))))
       have F8:=F7.same G
       have n5:=(F7.same ((Same.new h1 (.lst (wordsA.map V.str))).trans ((Same.new h2 (.lst (wordsB.map V.str))).trans ((Same.new h3 (.lst (wordsA.map V.str++wordsB.map V.str))).trans (Same.new h4 (.lst (wordsC.map V.str))))))).ne h5
       refine ⟨_,rfl,_,rfl,f,24,rfl,F8,by decide,by decide,fun e H9 e0 e1 F9 S9=>?_⟩
       obtain ⟨v,hv,vm⟩:=at_in (l:=(wordsA.map V.str++wordsB.map V.str)++wordsC.map V.str) (i:=e) e0 (by
        have:((wordsA.map V.str++wordsB.map V.str)++wordsC.map V.str).length=24:=by rfl
        omega)
       rw [← List.map_append,← List.map_append] at vm
       obtain ⟨x,hx,rfl⟩:=List.mem_map.mp vm
       refine ⟨l5,_,e,_,rfl,rfl,SqL.of (S9 l5 _ n5 upd_same),hv,?_⟩
       refine ⟨_,rfl,_,rfl,_,rfl,f,m,rfl,F9,c1,by omega,fun j H10 j0 j1 F10 S10=>?_⟩
       have hL10:=S10 L _ Lf (S9 L _ Lf (G L _ hL7))
       refine ⟨L,_,j,j.toNat,rfl,rfl,hL10,?_,?_⟩
       . have jl:j < ((ns.map V.str).length:Int):=by rw [List.length_map]; omega
         unfold ixN
         rw [if_pos j0,if_pos jl]
       refine ⟨_,rfl,?_⟩
       refine fin _ (ns.set j.toNat x) (by rw [upd_same,List.map_set]) (by rw [List.length_set]; exact nl) ?_ ?_ (q_set nq nlt hx) (feed_upd F10 Lf) ?_
       . intro y hy
         rcases List.mem_or_eq_of_mem_set hy with h | h
         . exact nok y h
         . rw [h]
           exact words_ok x hx
       . refine nd_set nnd fun hm=>?_
         obtain ⟨c,c1,c2⟩:=words_out x hx
         exact c2 (nlt x hm c c1)
       . intro b o hb e'
         rw [au (ne_of_none e' L0)]
         exact S10 b o hb (S9 b o hb (G b o (S7 b o hb (S6 b o hb e'))))
     . refine ⟨_,rfl,?_⟩
       exact fin H7 ns hL7 nl nok nnd nq F7 (S6.trans S7)
   . refine aw c1 ?_
     refine iteF ?_
     refine ⟨_,rfl,?_⟩
     exact fin H6 ns hns nl nok nnd nq F6 S6
end
theorem nd_at {ns:List Str} (nd:ns.Nodup) {i j:Nat} {z:Str} (hi:ns[i]?=some z) (hj:ns[j]?=some z):i=j:=by
 obtain ⟨h1,e1⟩:=List.getElem?_eq_some_iff.mp hi
 obtain ⟨h2,e2⟩:=List.getElem?_eq_some_iff.mp hj
 rcases Nat.lt_trichotomy i j with h | h | h
 . exact absurd (e1.trans e2.symm) (List.pairwise_iff_getElem.mp nd i j h1 h2 h)
 . exact h
 . exact absurd (e2.trans e1.symm) (List.pairwise_iff_getElem.mp nd j i h2 h1 h)
theorem set_getD {pt:List Int} {j i:Nat} {x:Int} (hj:j < pt.length):(pt.set j x).getD i 0=if i=j then x else pt.getD i 0:=by
 rw [List.getD_eq_getElem?_getD,List.getD_eq_getElem?_getD,List.getElem?_set]
 by_cases c:j=i
 . subst c
   simp [hj]
 . rw [if_neg c,if_neg (Ne.symm c)]
theorem worth_poly {ns:List Str} {pt:List Int} {p:Int} {j:Nat} {y:Str} (hy:ns[j]?=some y) (hl:pt.length=ns.length) (nd:ns.Nodup):∀ t:Tr,t.ok ns->∃ f:Int->Int,IsPoly (t.names.count y+1) f/\∀ x:Int,p ∣ t.worth ns (pt.set j x) p - f x
 | .is z,ok=>by
   have jl:j < ns.length:=(List.getElem?_eq_some_iff.mp hy).1
   obtain ⟨i,hi,il⟩:=posOf_mem ok
   have hz:=(posOf_lt hi).1
   have e:∀ x,(Tr.is z).worth ns (pt.set j x) p=if i=j then x else pt.getD i 0:=fun x=>by
    show (match cp z ns with | some j'=>(pt.set j x).getD j' 0 | none=>0)=_
    rw [hi]
    exact set_getD (by omega)
   by_cases c:i=j
   . subst c
     have ez:z=y:=Option.some.inj (hz.symm.trans hy)
     subst ez
     refine ⟨fun x=>x,?_,fun x=>⟨0,by rw [e x,if_pos rfl]; simp⟩⟩
     have:(Tr.is z).names.count z=1:=by simp [Tr.names]
     rw [this]
     exact IsPoly.self
   . have ez:z ≠ y:=fun h=>c (by
      subst h
      exact nd_at nd hz hy)
     refine ⟨fun _=>pt.getD i 0,?_,fun x=>⟨0,by rw [e x,if_neg c]; simp⟩⟩
     exact IsPoly.const _ _
 | .yes,_=>⟨fun _=>1,IsPoly.const _ _,fun x=>⟨0,by show (1:Int) - 1=_; simp⟩⟩
 | .no,_=>⟨fun _=>0,IsPoly.const _ _,fun x=>⟨0,by show (0:Int) - 0=_; simp⟩⟩
 | .not a,ok=>by
   obtain ⟨f,hf,h⟩:=worth_poly (p:=p) hy hl nd a ok
   refine ⟨fun x=>1+(-1)*f x,(IsPoly.const 1 _).add (hf.mul (-1)),fun x=>?_⟩
   obtain ⟨k,hk⟩:=h x
   obtain ⟨m,hm⟩:=emod_dvd p (1 - a.worth ns (pt.set j x) p)
   show p ∣ (1 - a.worth ns (pt.set j x) p) % p - _
   exact ⟨m - k,by grind⟩
 | .bin o a b,⟨_,ok1,ok2⟩=>by
   obtain ⟨f,hf,h⟩:=worth_poly (p:=p) hy hl nd a ok1
   obtain ⟨g,hg,h'⟩:=worth_poly (p:=p) hy hl nd b ok2
   have ec:(Tr.bin o a b).names.count y+1=a.names.count y+b.names.count y+1:=by
    show (a.names++b.names).count y+1=_
    rw [List.count_append]
   rw [ec]
   have hF:IsPoly (a.names.count y+b.names.count y+1) f:=hf.upTo _ (by omega)
   have hG:IsPoly (a.names.count y+b.names.count y+1) g:=hg.upTo _ (by omega)
   have hP:=hf.prod hg
   have fin:∀ (c0 c1 c2:Int),(∀ u v:Int,cC p o u v=(c0+c1*(u+v)+c2*(u*v)) % p)->∃ F:Int->Int,IsPoly (a.names.count y+b.names.count y+1) F/\∀ x:Int,p ∣ (Tr.bin o a b).worth ns (pt.set j x) p - F x:=fun c0 c1 c2 hJ=>by
    refine ⟨fun x=>c0+c1*(f x+g x)+c2*(f x*g x),((IsPoly.const c0 _).add ((hF.add hG).mul c1)).add (hP.mul c2),fun x=>?_⟩
    obtain ⟨k,hk⟩:=h x
    obtain ⟨l,hl⟩:=h' x
    show p ∣ cC p o (a.worth ns (pt.set j x) p) (b.worth ns (pt.set j x) p) - _
    rw [hJ]
    generalize a.worth ns (pt.set j x) p=u at *
    generalize b.worth ns (pt.set j x) p=v at *
    obtain ⟨m,hm⟩:=emod_dvd p (c0+c1*(u+v)+c2*(u*v))
    exact ⟨m+c1*(k+l)+c2*(k*v+f x*l),by grind⟩
   by_cases c1:o = "and"
   . exact fin 0 0 1 fun u v=>by unfold cC; rw [if_pos c1]; congr 1; grind
   by_cases c2:o = "or"
   . exact fin 0 1 (-1) fun u v=>by unfold cC; rw [if_neg c1,if_pos c2]; congr 1; grind
   by_cases c3:o = "odd"
   . exact fin 0 1 (-2) fun u v=>by unfold cC; rw [if_neg c1,if_neg c2,if_pos c3]; congr 1; grind
   . exact fin 1 (-1) 2 fun u v=>by unfold cC; rw [if_neg c1,if_neg c2,if_neg c3]; congr 1; grind
theorem mix_poly {ns:List Str} {pt:List Int} {p s:Int} {j D:Nat} {y:Str} (hy:ns[j]?=some y) (hl:pt.length=ns.length) (nd:ns.Nodup):∀ ts:List Tr,(∀ t ∈ ts,t.ok ns/\t.names.count y<=D)->∃ f:Int->Int,IsPoly (D+1) f/\∀ x:Int,p ∣ poly s (ts.map fun t=>t.worth ns (pt.set j x) p) - f x
 | [],_=>⟨fun _=>0,IsPoly.const _ _,fun x=>⟨0,by simp [poly]⟩⟩
 | t::ts,h=>by
   obtain ⟨f,hf,h1⟩:=worth_poly (p:=p) hy hl nd t (h t List.mem_cons_self).1
   obtain ⟨g,hg,h2⟩:=mix_poly (p:=p) (s:=s) hy hl nd ts fun u hu=>h u (List.mem_cons_of_mem _ hu)
   have hd:=(h t List.mem_cons_self).2
   refine ⟨fun x=>f x+s*g x,(hf.upTo _ (by omega)).add (hg.mul s),fun x=>?_⟩
   obtain ⟨k,hk⟩:=h1 x
   obtain ⟨l,hl⟩:=h2 x
   show p ∣ t.worth ns (pt.set j x) p+s*poly s (ts.map fun t=>t.worth ns (pt.set j x) p) - _
   exact ⟨k+s*l,by grind⟩
theorem val_poly {p:Int} (hp:Pm p) {xs:List Int} {f:Int->Int} (hn:(xs.length:Int)<=p) (hf:IsPoly xs.length f) (h:∀ k,k < xs.length->p ∣ xs.getD k 0 - f k) (r:Int):val p xs r=f r % p :=
 md (lag_rule hp hn (wgt_wt hp hn) hf h r)
theorem deg_ge {ts:List Tr} {x:Str}:∀ t ∈ ts,t.names.count x<=(aZ ts x).toNat:=fun t ht=>by
 have:=maxD_ge (d:=0) (List.mem_map.mpr ⟨t,ht,rfl⟩:((t.names.count x:Nat):Int) ∈ ts.map fun t=>(t.names.count x:Int))
 unfold aZ
 omega
theorem set_mid:∀ (cs st:List Int) (x z:Int),(cs++[z]++st).set cs.length x=cs++[x]++st
 | [],_,_,_=>rfl
 | a::cs,st,x,z=>congrArg (a::·) (set_mid cs st x z)
theorem sum_poly {ns:List Str} {cs:List Int} {p s:Int} {D:Nat} {y:Str} {ts:List Tr} (hy:ns[cs.length]?=some y) (nd:ns.Nodup) (h:∀ t ∈ ts,t.ok ns/\t.names.count y<=D):∀ l:List (List Int),(∀ st ∈ l,cs.length+1+st.length=ns.length) ->
 ∃ f:Int->Int,IsPoly (D+1) f/\∀ x:Int,p ∣ (l.map fun st=>poly s (ts.map fun t=>t.worth ns (cs++[x]++st) p)).sum - f x
 | [],_=>⟨fun _=>0,IsPoly.const _ _,fun x=>⟨0,by simp⟩⟩
 | st::l,hs=>by
   obtain ⟨f,hf,h1⟩:=mix_poly (p:=p) (s:=s) (pt:=cs++[0]++st) hy (by rw [List.length_append,List.length_append,List.length_singleton]; exact hs st List.mem_cons_self) nd ts h
   obtain ⟨g,hg,h2⟩:=sum_poly (p:=p) (s:=s) hy nd h l fun u hu=>hs u (List.mem_cons_of_mem _ hu)
   refine ⟨fun x=>f x+g x,hf.add hg,fun x=>?_⟩
   obtain ⟨k,hk⟩:=h1 x
   rw [set_mid] at hk
   obtain ⟨m,hm⟩:=h2 x
   refine ⟨k+m,?_⟩
   simp only [List.map_cons,List.sum_cons]
   rw [Int.mul_add]
   omega
theorem setts_mem:∀ (n:Nat) (s:List Int),s ∈ bm n->s.length=n
 | 0,s,h=>by rw [List.mem_singleton.mp h]; rfl
 | n+1,s,h=>by
   obtain ⟨t,ht,h⟩:=List.mem_flatMap.mp h
   have:=setts_mem n t ht
   rcases List.mem_cons.mp h with h | h
   . rw [h,List.length_append,this]
     rfl
   . rw [List.mem_singleton.mp h,List.length_append,this]
     rfl
theorem val_row {ns:List Str} {ts:List Tr} {s p:Int} {cs:List Int} {y:Str} (hp:Pm p) (hy:ns[cs.length]?=some y) (nd:ns.Nodup) (ok:∀ t ∈ ts,t.ok ns) (tne:ts ≠ []) (dp:aZ ts y < p) (r:Int) :
 val p (rowL ns ts s p cs (aZ ts y+1).toNat) r=rowAt ns ts s p (cs++[r]):=by
 have cl:cs.length < ns.length:=(List.getElem?_eq_some_iff.mp hy).1
 have d0:=degOf_ge (x:=y) tne
 obtain ⟨f,hf,h⟩:=sum_poly (p:=p) (s:=s) hy nd (fun t ht=>⟨ok t ht,deg_ge t ht⟩) (bm (ns.length - (cs.length+1))) fun st hst=>by
  have:=setts_mem _ _ hst
  omega
 have ll:(rowL ns ts s p cs (aZ ts y+1).toNat).length=(aZ ts y).toNat+1:=by
  unfold rowL
  rw [List.length_map,List.length_range]
  omega
 have eq:∀ x:Int,rowAt ns ts s p (cs++[x])=((bm (ns.length - (cs.length+1))).map fun st=>poly s (ts.map fun t=>t.worth ns (cs++[x]++st) p)).sum % p:=fun x=>by
  unfold rowAt
  rw [List.length_append,List.length_singleton]
 rw [val_poly hp (f:=f) (by rw [ll]; omega) (by rw [ll]; exact hf) (fun k hk=>by
  have e:(rowL ns ts s p cs (aZ ts y+1).toNat).getD k 0=rowAt ns ts s p (cs++[(k:Int)]):=by
   unfold rowL at hk ⊢
   rw [List.length_map,List.length_range] at hk
   rw [List.getD_eq_getElem?_getD,List.getElem?_map,List.getElem?_range hk]
   rfl
  rw [e,eq]
  obtain ⟨a,ha⟩:=h k
  obtain ⟨b,hb⟩:=emod_dvd p ((bm (ns.length - (cs.length+1))).map fun st=>poly s (ts.map fun t=>t.worth ns (cs++[(k:Int)]++st) p)).sum
  exact ⟨a+b,by grind⟩) r,eq]
 obtain ⟨a,ha⟩:=h r
 exact md ⟨-a,by grind⟩
section
theorem true_row {z:Ak} (k:AkOk z) (nd:z.ns.Nodup) (i:Int) (h:0 < z.nr):trueI z i=rowAt z.ns z.ts z.s z.p (z.to++[i]):=by
 obtain ⟨x,hx,ex,d0,d1,d4⟩:=k.deg h
 unfold trueI
 rw [if_pos h]
 have e:z.tru=rowL z.ns z.ts z.s z.p z.to (aZ z.ts x+1).toNat:=by
  unfold Ak.tru
  rw [if_neg (by omega),ex]
 have t0:z.ts ≠ []:=fun e=>by have:=k.gk.t1; rw [e] at this; cases this
 rw [e]
 exact val_row (pm_of k.gk.pr (by have:=k.gk.p9; omega)) hx nd (fun t ht=>(k.gk.tok t ht).1) t0 d1 i
theorem true_cnt {z:Ak} (h:z.nr=0) (i:Nat) {t:Tr} (ht:z.ts[i]?=some t):trueI z (i:Int)=(cnt t z.ns:Int) % z.p:=by
 have hl:=(List.getElem?_eq_some_iff.mp ht).1
 unfold trueI
 have e:z.tru=z.ts.map (fun t=>(cnt t z.ns:Int)):=by
  unfold Ak.tru
  rw [if_pos h]
 rw [if_neg (by omega),e,List.length_map,if_pos (by omega),Int.toNat_natCast,List.getD_eq_getElem?_getD,List.getElem?_map,ht]
 rfl
theorem true_out {z:Ak} (h:z.nr=0) {i:Int} (hi:(z.ts.length:Int)<=i):trueI z i=0:=by
 unfold trueI
 have e:z.tru=z.ts.map (fun t=>(cnt t z.ns:Int)):=by
  unfold Ak.tru
  rw [if_pos h]
 rw [if_neg (by omega),e,List.length_map,if_neg (by omega)]
end
section
def spWh1:Sp:=fun vs H Q _=>∃ x:Int,vs=[.int x]/\Q (.bl true) H
theorem sc_l_whole:FnScope ["_law_found"] ["_law_found"] (ag s_l_whole):=⟨rfl,rfl,rfl,by decide +kernel,rfl,by decide +kernel,by decide +kernel⟩
theorem ok_l_whole {f:Addr} {fd:FuncData} (F:Fun K "_law_whole" "_law_whole" s_l_whole f fd) (B:Bl mg):FnOk P w K mg base CX0 1 f fd ["_law_found"] spWh1:=by
 refine F.ok sc_l_whole (fun vs H Q E h=>?_) (fun cdv A outer s H vs Q E hr h=>?_)
 . obtain ⟨x,rfl,_⟩:=h
   rfl
 obtain ⟨x,rfl,q⟩:=h
 refine ⟨_,(af (ao (pe_and (aE call_isinst rfl B.isinstance PyProof.Rows.boot_isinstance (aa (pv 0) (aa (pe_bltn (v:=V.ty "int") rfl B.int boot_int' rfl) ae))) (pe_one (pe_not (aE call_isinst rfl B.isinstance PyProof.Rows.boot_isinstance (aa (pv 0) (aa (pe_bltn (v:=V.ty "bool") rfl B.bool boot_bool' rfl) ae)))))))),?_⟩
 refine ⟨_,rfl,_,_, "int", true,rfl,TyOf.int _,kit_self _ _,true,rfl,iteT ?_⟩
 exact ⟨_,rfl,_,_, "bool", false,rfl,TyOf.int _,kit_int_bool _,false,rfl,q⟩
def spNumsL:Sp:=fun vs H Q _=>∃ (a b:Addr) (xs:List Int),vs=[.ref a,.ref b]/\H a=some (.lst (xs.map V.int))/\H b=some (.lst (xs.map V.int))/\∀ H',Same H H'->Q (.bl true) H'
theorem sc_l_numbers:FnScope ["_law_found", "_law_due"] ["_law_found", "_law_due"] (ag cW):=⟨rfl,rfl,rfl,by decide +kernel,rfl,by decide +kernel,by decide +kernel⟩
theorem ok_l_numbers {f:Addr} {fd:FuncData} (F:Fun K "_law_numbers" "_law_numbers" cW f fd) (B:Bl mg) (C_l_whole:Cal P w K mg base 1 "_law_whole" ["_law_found"] spWh1):FnOk P w K mg base CX0 2 f fd ["_law_found", "_law_due"] spNumsL:=by
 refine F.ok sc_l_numbers (fun vs H Q E h=>?_) (fun cdv A outer s H vs Q E hr h=>?_)
 . obtain ⟨a,b,xs,rfl,_⟩:=h
   rfl
 obtain ⟨a,b,xs,rfl,ha,hb,q⟩:=h
 refine ⟨_,(ac (aG (PW.pt (pw_or (pt_not (pt_val (aE call_isinst rfl B.isinstance PyProof.Rows.boot_isinstance (aa (pv 0) (aa (pe_bltn (v:=V.ty "list") rfl B.list boot_list' rfl) ae))))) (pw_or1 (aj (op_neD hr.units) (pv 0) (pv 1) (aq _))))) (af (ao pe_bl)) ax)
  (af (ao (bH (op_eqD hr.units) (bQ (N:=[]) (ix:=[]) (cl:=[]) rfl (CompScope.closed (by with_unfolding_all rfl) (by decide) rfl (by decide) rfl (by with_unfolding_all rfl)) rfl (cN (pv 0)) (fun _ _ _=>pb_if (pt_not (pt_val (am C_l_whole hr (by decide) rfl (aa (pv 0) ae)))) (pv 0))) (bi ae) (aq _))))),?_⟩
 refine ⟨_,rfl,_,_, "list", true,rfl,TyOf.lst ha,kit_self _ _,_,rfl,iteF ?_⟩
 refine ⟨_,rfl,_,rfl,_,_,.lst (SqL.of ha) (rep_ints _),.lst (SqL.of hb) (rep_ints _),shaped_li _,shaped_li _,_,rfl,?_⟩
 rw [eqv_li,decide_eq_true rfl]
 refine iteF ?_
 refine ⟨_,rfl,a,rfl,⟨_,SqL.of ha⟩,fun D hD=>?_⟩
 refine comp_list (K:=K) (xs:=xs.map V.int) (fun i H'=>H' D=some (.lst [])/\Same H H') ⟨upd_same,Same.new hD _⟩ (fun i H' _ h=>SqL.of (h.2 _ _ ha)) ?_ ?_
 . rintro i y H1 hy ⟨hD1,S1⟩
   have hi:=(List.getElem?_eq_some_iff.mp hy).1
   rw [List.getElem?_map] at hy
   obtain ⟨x,hx,rfl⟩:=Option.map_eq_some_iff.mp hy
   exact ⟨_,rfl,x,rfl,_,rfl,iteF (Nx.of hi ⟨hD1,S1⟩)⟩
 . rintro H1 ⟨hD1,S1⟩
   refine ⟨(by show 0<=sizeLine; decide),fun e he=>?_⟩
   have I2:=Same.new he (.lst [])
   refine ⟨_,_,.lst (SqL.of (I2 _ _ hD1)) (rep_ints []),.lst (SqL.of upd_same) (rep_ints []),shaped_li [],shaped_li [],?_⟩
   rw [eqv_li,decide_eq_true rfl]
   exact q _ (S1.trans I2)
def spIndex:Sp:=fun vs H Q _=>∃ (f gh a b:Addr) (p:Int),vs=[.ref f,.ref gh]/\FeedAt H f/\H gh=some (.tup [.ref a,.ref b,.int p])/\2 < p/\p<=999983/\∀ (i:Int) (H':Hp),0<=i->FeedAt H' f->SameBut f H H'->Q (.int i) H'
theorem sc_l_index:FnScope ["_law_feed_here", "_law_game_here", "_law_p", "_law_form"] ["_law_feed_here", "_law_game_here"] (ag s_l_index):=⟨rfl,rfl,rfl,by decide +kernel,rfl,by decide +kernel,by decide +kernel⟩
theorem ok_l_index {f:Addr} {fd:FuncData} (F:Fun K "_law_index" "_law_index" s_l_index f fd) (B:Bl mg) (C_l_take:Cal P w K mg base 1 "_law_take" ["_law_feed_here", "_law_many"] spTake):FnOk P w K mg base CX0 2 f fd ["_law_feed_here", "_law_game_here"] spIndex:=by
 refine F.ok sc_l_index (fun vs H Q E h=>?_) (fun cdv A outer s H vs Q E hr h=>?_)
 . obtain ⟨f,gh,a,b,p,rfl,_⟩:=h
   rfl
 obtain ⟨f,gh,a,b,p,rfl,F0,hg,p2,p9,q⟩:=h
 refine ⟨_,(ac (ak (i:=2) sc_l_index.nd rfl (Or.inl rfl) (ay aA (pv 1) ad (fun _ _=>rfl)))
  (ac (ak (i:=3) sc_l_index.nd rfl (Or.inl rfl) (am C_l_take hr (by decide) rfl (aa (pv 0) (aa ad ae))))
  (af (ao (ay ix_list (bi (aa (am C_l_take hr (by decide) rfl (aa (pv 0) (aa (aE (call_min2 rfl) rfl B.min PyProof.Rows.boot_min (aa (pv 2) (aa ad ae))) ae))) (aa (ah aR (ah aR (pv 2) ad) (am C_l_take hr (by decide) rfl (aa (pv 0) (aa ad ae)))) (aa (am C_l_take hr (by decide) rfl (aa (pv 0) (aa (pv 2) ae))) (aa (ah aU (pv 2) (am C_l_take hr (by decide) rfl (aa (pv 0) (aa ad ae)))) ae))))) (pv 3) (fun _ _=>rfl)))))),?_⟩
 refine ⟨_,rfl,gh,_,2,_,rfl,rfl,SqT.of hg,rfl,?_⟩
 refine ⟨_,rfl,f,4,rfl,F0,by decide,by decide,fun d H1 d0 d1 F1 B1=>?_⟩
 have m7:0 < (if (7:Int) < p then 7 else p)/\(if (7:Int) < p then 7 else p) < 2 ^ 63:=by split <;> omega
 refine ⟨_,rfl,_,rfl,_,_,rfl,f,_,rfl,F1,m7.1,m7.2,fun e1 H2 e10 e11 F2 B2=>?_⟩
 refine ⟨_,rfl,_,_,rfl,rfl,_,rfl,f,2,rfl,F2,by decide,by decide,fun e2 H3 e20 e21 F3 B3=>⟨_,_,rfl,rfl,?_⟩⟩
 refine ⟨_,rfl,_,rfl,f,_,rfl,F3,by omega,by omega,fun e3 H4 e30 e31 F4 B4=>?_⟩
 refine ⟨_,rfl,_,rfl,f,3,rfl,F4,by decide,by decide,fun e4 H5 e40 e41 F5 B5=>⟨_,_,rfl,rfl,(by show 4<=sizeLine; decide),fun l hl=>?_⟩⟩
 have Il:=Same.new hl (.lst [.int e1,.int (p - 1 - e2),.int e3,.int (p+e4)])
 have gl:upd H5 l (.lst [.int e1,.int (p - 1 - e2),.int e3,.int (p+e4)]) l=some (.lst ([e1,p - 1 - e2,e3,p+e4].map V.int)):=upd_same
 obtain ⟨v,hv,vm⟩:=at_in (l:=[e1,p - 1 - e2,e3,p+e4].map V.int) (i:=d) d0 (by show d < 4; omega)
 obtain ⟨i,hi,rfl⟩:=List.mem_map.mp vm
 have i0:0<=i:=by
  simp only [List.mem_cons,List.not_mem_nil,or_false] at hi
  rcases hi with h | h | h | h <;> omega
 refine ⟨_,rfl,l,_,d,.int i,rfl,rfl,SqL.of gl,hv,?_⟩
 exact q i _ i0 (F5.same Il) (B1.trans (B2.trans (B3.trans (B4.trans (B5.trans (SameBut.of Il))))))
end
section
structure PSW (X:Cx) (st:List Stmt) (t:TS):Prop where
 out:PSs X st t
end
section
structure PEW (X:Cx) (e:Expr) (t:TE):Prop where
 out:PE X e t
structure PAW (X:Cx) (es:List Expr) (t:TA):Prop where
 out:PA X es t
structure PTW (X:Cx) (s:Stmt) (t:TS):Prop where
 out:PS X s t
section
variable {X:Cx} {e:Expr} {es:List Expr} {te:TE} {t:TA} {pos:Pos}
theorem cP:PAW X [] tNil:=⟨ae⟩
theorem aO (ha:PEW X e te) (hr:PAW X es t) (hs:starEach (e::es) X.env=(false,eval e X.env)::starEach es X.env:=by rfl):PAW X (e::es) (tCons te t):=⟨aa ha.out hr.out hs⟩
theorem we_tup {x1} (h:PAW X es t):PEW X (.Tuple es x1 pos) (tTup t):=⟨bu h.out⟩
theorem we_str {x j}:PEW X (.Constant (.str x) j pos) (tC (.str x)):=⟨aD⟩
theorem we_int {i j}:PEW X (.Constant (.int i) j pos) (tC (.int i)):=⟨ad⟩
theorem wt_ret (h:PEW X e te):PTW X (.Return (some e) pos) (tRet te):=⟨ao h.out⟩
theorem wt_set {i:Nat} {x:Str} {pos':Pos} (hN:X.N.Nodup) (hi:X.N[i]?=some x) (hx:Loc X.env.scope x) (he:PEW X e te) (hs:swapsWith e (some (.Name x pos')) pos.line X.env=pure false:=by rfl) (hf:X.fn x=true∨X.env.scope.names.lookup x=some .local:=by first | exact .inl rfl | exact .inr rfl | assumption) :
 PTW X (.Assign [.Name x pos'] e pos) (tAsg te (gName i)):=⟨ak hN hi hx he.out hs hf⟩
theorem ws_nil:PSW X [] tNext:=⟨ax⟩
theorem bj {s:Stmt} {ss:List Stmt} {a b:TS} (h:PTW X s a) (k:PSW X ss b):PSW X (s::ss) (tSeq a b):=⟨ac h.out k.out⟩
theorem ws_one {s:Stmt} {a:TS} (h:PTW X s a):PSW X [s] a:=⟨af h.out⟩
theorem ws_cut {ss:List Stmt} {t t':TS} (h:PSW X ss t) (hw:∀ D σ H,t' D σ H->t D σ H):PSW X ss t':=⟨pss_cut h.out hw⟩
theorem wt_if {c:Expr} {a b:List Stmt} {tc:TT} {t u:TS} (hc:PT X c tc) (ha:PSW X a t) (hb:PSW X b u):PTW X (.If c a b pos) (tIfS tc t u):=⟨aG hc ha.out hb.out⟩
end
end
section
theorem we_lst {X:Cx} {es:List Expr} {t:TA} {pos:Pos} (h:PAW X es t):PEW X (.List es pos) (tLst t):=⟨bi h.out⟩
def plain3:List Str:=["round", "due", "asked"]
def TmK (p:Int) (t:Tm):Prop:=(∃ i:Int,0<=i/\t=.ask "true" (.num i))∨(∃ i:Int,0<=i/\t=.ask "coin" (.num i))∨(∃ a i:Int,0<=a/\a < p/\0<=i/\t=.op "/" (.num a) (.num i))∨(∃ w:Str,w ∈ plain3/\t=.plain w)∨∃ n:Int,0<=n/\t=.num n
def TmsAt (H:Hp) (vs:List V) (ts:List Tm):Prop:=vs.length=ts.length/\∀ (i:Nat) (v:V) (t:Tm),vs[i]?=some v->ts[i]?=some t->TmAt H v t
theorem TmsAt.mono {H H':Hp} {vs:List V} {ts:List Tm} (h:TmsAt H vs ts) (k:bO H H'):TmsAt H' vs ts:=⟨h.1,fun i v t h1 h2=>(h.2 i v t h1 h2).mono k⟩
theorem TmsAt.snoc {H:Hp} {vs:List V} {ts:List Tm} {v:V} {t:Tm} (h:TmsAt H vs ts) (k:TmAt H v t):TmsAt H (vs++[v]) (ts++[t]):=by
 refine ⟨by rw [List.length_append,List.length_append,h.1]; rfl,fun i u q e1 e2=>?_⟩
 by_cases c:i < vs.length
 . rw [List.getElem?_append_left c] at e1
   rw [List.getElem?_append_left (by rw [← h.1]; exact c)] at e2
   exact h.2 i u q e1 e2
 . rw [List.getElem?_append_right (by omega)] at e1
   rw [List.getElem?_append_right (by rw [← h.1]; omega),← h.1] at e2
   cases hz:i - vs.length with
   | zero=>rw [hz] at e1 e2; cases e1; cases e2; exact k
   | succ j=>rw [hz] at e1; cases e1
theorem TmsAt.app {H:Hp} {vs us:List V} {ts rs:List Tm} (h:TmsAt H vs ts) (k:TmsAt H us rs):TmsAt H (vs++us) (ts++rs):=by
 refine ⟨by rw [List.length_append,List.length_append,h.1,k.1],fun i u q e1 e2=>?_⟩
 by_cases c:i < vs.length
 . rw [List.getElem?_append_left c] at e1
   rw [List.getElem?_append_left (by rw [← h.1]; exact c)] at e2
   exact h.2 i u q e1 e2
 . rw [List.getElem?_append_right (by omega)] at e1
   rw [List.getElem?_append_right (by rw [← h.1]; omega),← h.1] at e2
   exact k.2 _ u q e1 e2
theorem tmk_app {p:Int} {ts rs:List Tm} (h:∀ t ∈ ts,TmK p t) (k:∀ t ∈ rs,TmK p t):∀ t ∈ ts++rs,TmK p t:=fun t ht=>(List.mem_append.mp ht).elim (h t) (k t)
theorem tmk_one {p:Int} {t:Tm} (h:TmK p t):∀ u ∈ [t],TmK p u:=fun u hu=>by rw [List.mem_singleton.mp hu]; exact h
theorem feed_lst {H:Hp} {f p:Addr} {o:HO} (F:FeedAt H f) (h:p ≠ f):FeedAt (upd H p o) f:=by
 obtain ⟨x,t,e,r⟩:=F
 exact ⟨x,t,by rw [au (Ne.symm h)]; exact e,r⟩
def spTerms:Sp:=fun vs H Q _=>∃ (f gh a b:Addr) (p:Int),vs=[.ref f,.ref gh]/\FeedAt H f/\H gh=some (.tup [.ref a,.ref b,.int p])/\2 < p/\p<=999983 /\
 ∀ (l:Addr) (tv:List V) (ts:List Tm) (H':Hp),H l=none->l ≠ f->H' l=some (.lst tv)->tv.length=8->TmsAt H' tv ts->(∀ t ∈ ts,TmK p t)->FeedAt H' f->SameBut f H H'->Q (.ref l) H'
theorem sc_l_terms:FnScope ["_law_feed_here", "_law_game_here", "_law_terms_here", "_law_share", "_law_plain"] ["_law_feed_here", "_law_game_here"] (ag s_l_terms):=⟨rfl,rfl,rfl,by decide +kernel,rfl,by decide +kernel,by decide +kernel⟩
theorem ok_l_terms {f:Addr} {fd:FuncData} (F:Fun K "_law_terms" "_law_terms" s_l_terms f fd) (B:Bl mg) (C_l_take:Cal P w K mg base 1 "_law_take" ["_law_feed_here", "_law_many"] spTake) (C_l_index:Cal P w K mg base 2 "_law_index" ["_law_feed_here", "_law_game_here"] spIndex):FnOk P w K mg base CX0 3 f fd ["_law_feed_here", "_law_game_here"] spTerms:=by
 refine F.ok sc_l_terms (fun vs H Q E h=>?_) (fun cdv A outer s H vs Q E hr h=>?_)
 . obtain ⟨f,gh,a,b,p,rfl,_⟩:=h
   rfl
 obtain ⟨f,gh,a,b,p,rfl,F0,hg,p2,p9,q⟩:=h
 refine ⟨_,PSW.out (bj ⟨ps_comp (i:=2) (N:=["_law_game_here", "_law_feed_here"]) (ix:=[1,0]) sc_l_terms.nd rfl (Or.inl rfl) rfl
  (CompScope.two (by with_unfolding_all rfl) (by decide) rfl (by decide) rfl (by decide +kernel) (by first | exact Or.inl rfl | exact Or.inr rfl) (by with_unfolding_all rfl) (by with_unfolding_all rfl) (by with_unfolding_all rfl) (by with_unfolding_all rfl) rfl rfl (by with_unfolding_all rfl) rfl rfl) rfl
  (bp rfl B.range (aa ad ae)) (fun _ _ _=>bL (bu (aa aD (aa (bu (aa aD (aa (am C_l_index hr (by decide) rfl (aa (pv 2) (aa (pv 1) ae))) ae))) ae))))⟩
  (bj (wt_set (i:=2) sc_l_terms.nd rfl (Or.inl rfl) ⟨ah op_cat (pv 2) (bQ (N:=["_law_game_here", "_law_feed_here"]) (ix:=[1,0]) rfl
   (CompScope.two (by with_unfolding_all rfl) (by decide) rfl (by decide) rfl (by decide +kernel) (by first | exact Or.inl rfl | exact Or.inr rfl) (by with_unfolding_all rfl) (by with_unfolding_all rfl) (by with_unfolding_all rfl) (by with_unfolding_all rfl) rfl rfl (by with_unfolding_all rfl) rfl rfl) rfl
   (bp rfl B.range (aa ad ae)) (fun _ _ _=>bL (bu (aa aD (aa (bu (aa aD (aa (am C_l_index hr (by decide) rfl (aa (pv 2) (aa (pv 1) ae))) ae))) ae)))))⟩)
  (bj (wt_set (i:=3) sc_l_terms.nd rfl (Or.inl rfl) (we_tup (aO we_str (aO we_str (aO (we_tup (aO we_str (aO ⟨am C_l_take hr (by decide) rfl (aa (pv 0) (aa (ay aA (pv 1) ad (fun _ _=>rfl)) ae))⟩ cP))) (aO (we_tup (aO we_str (aO ⟨am C_l_index hr (by decide) rfl (aa (pv 0) (aa (pv 1) ae))⟩ cP))) cP))))))
  (bj (wt_set (i:=4) sc_l_terms.nd rfl (Or.inl rfl) ⟨ay ix_list (PEW.out (we_lst (aO (we_tup (aO we_str cP)) (aO (we_tup (aO we_str cP)) (aO (we_tup (aO we_str cP)) cP))))) (am C_l_take hr (by decide) rfl (aa (pv 0) (aa ad ae))) (fun _ _=>rfl)⟩)
  (ws_one (wt_ret ⟨ah op_cat (pv 2) (PEW.out (we_lst (aO ⟨pv 3⟩ (aO ⟨pv 4⟩ (aO (we_tup (aO we_str (aO ⟨am C_l_take hr (by decide) rfl (aa (pv 0) (aa (ah op_pow ad ad) ae))⟩ cP))) cP)))))⟩)))))),?_⟩
 have nd:∀ {b:Addr} {o:HO},H b=some o->(∀ ys,o ≠ .lst ys)->b ≠ f:=fun h n=>ne_feed F0 h n
 have gf:gh ≠ f:=nd hg (by intro ys z; cases z)
 have s1:1<=sizeLine:=by decide
 have s2:2<=sizeLine:=by decide
 have s4:4<=sizeLine:=by decide
 have hp12:(10:Int) ^ (12:Int).toNat=1000000000000:=by decide
 refine ⟨3,rfl,by decide,by decide,fun D hD=>?_⟩
 have Df:D ≠ f:=F0.ne hD
 refine cj (fun i H'=>∃ (tv:List V) (ts:List Tm),H' D=some (.lst tv)/\tv.length=i/\TmsAt H' tv ts/\(∀ t ∈ ts,TmK p t)/\FeedAt H' f/\SameBut f H H') ⟨[],[],upd_same,rfl,⟨rfl,fun i v t e=>by cases e⟩,(fun t ht=>by cases ht),F0.same (Same.new hD _),SameBut.of (Same.new hD _)⟩ ?_ ?_
 . rintro i H1 hi ⟨tv,ts,hD1,tl,TA,tk,F1,S1⟩
   have hi3:i < 3:=hi
   refine ⟨_,rfl,_,rfl,f,gh,a,b,p,rfl,F1,S1 _ _ gf hg,p2,p9,fun j H2 j0 F2 S2=>⟨s2,fun u hu=>⟨s2,fun v hv=>?_⟩⟩⟩
   have I3:=Same.new hu (.tup [.str "num", .int j])
   have I4:=Same.new hv (.tup [.str "true", .ref u])
   have J4:=I3.trans I4
   have T4:TmAt (upd (upd H2 u (.tup [.str "num", .int j])) v (.tup [.str "true", .ref u])) (.ref v) (.ask "true" (.num j)):=.ask upd_same (.num (I4 _ _ upd_same))
   generalize upd (upd H2 u (.tup [.str "num", .int j])) v (.tup [.str "true", .ref u])=H4 at J4 T4
   have hD4:=J4 _ _ (S2 _ _ Df hD1)
   have kT:bO H4 (upd H4 D (.lst (tv++[.ref v]))):=da hD4
   refine ⟨_,hD4,aJ (by omega),Nx.of hi ⟨tv++[.ref v],ts++[.ask "true" (.num j)],upd_same,by rw [List.length_append,tl]; rfl,TmsAt.snoc (((TA.mono (aY F1 S2)).mono (keepT_same J4)).mono kT) (T4.mono kT),tmk_app tk (tmk_one (.inl ⟨j,j0,rfl⟩)),feed_lst (F2.same J4) Df,fun c o n e=>?_⟩⟩
   rw [au (ne_of_none e hD)]
   exact J4 _ _ (S2 _ _ n (S1 _ _ n e))
 rintro H1 ⟨tv,ts,hD1,tl,TA,tk,F1,S1⟩
 have tl3:tv.length=3:=tl
 refine ⟨_,rfl,2,rfl,by decide,by decide,fun E2 hE=>?_⟩
 have Ef:E2 ≠ f:=F1.ne hE
 have DE:D ≠ E2:=ne_of_none hD1 hE
 refine cj (fun i H'=>∃ (uv:List V) (us:List Tm),H' E2=some (.lst uv)/\uv.length=i/\TmsAt H' uv us/\(∀ t ∈ us,TmK p t)/\FeedAt H' f/\SameBut f H1 H') ⟨[],[],upd_same,rfl,⟨rfl,fun i v t e=>by cases e⟩,(fun t ht=>by cases ht),F1.same (Same.new hE _),SameBut.of (Same.new hE _)⟩ ?_ ?_
 . rintro i H2 hi ⟨uv,us,hE2,ul,UA,uk,F2,S2⟩
   have hi2:i < 2:=hi
   refine ⟨_,rfl,_,rfl,f,gh,a,b,p,rfl,F2,S2 _ _ gf (S1 _ _ gf hg),p2,p9,fun j H3 j0 F3 S3=>⟨s2,fun u hu=>⟨s2,fun v hv=>?_⟩⟩⟩
   have I3:=Same.new hu (.tup [.str "num", .int j])
   have I4:=Same.new hv (.tup [.str "coin", .ref u])
   have J4:=I3.trans I4
   have T4:TmAt (upd (upd H3 u (.tup [.str "num", .int j])) v (.tup [.str "coin", .ref u])) (.ref v) (.ask "coin" (.num j)):=.ask upd_same (.num (I4 _ _ upd_same))
   generalize upd (upd H3 u (.tup [.str "num", .int j])) v (.tup [.str "coin", .ref u])=H4 at J4 T4
   have hE4:=J4 _ _ (S3 _ _ Ef hE2)
   have kT:bO H4 (upd H4 E2 (.lst (uv++[.ref v]))):=da hE4
   refine ⟨_,hE4,aJ (by omega),Nx.of hi ⟨uv++[.ref v],us++[.ask "coin" (.num j)],upd_same,by rw [List.length_append,ul]; rfl,TmsAt.snoc (((UA.mono (aY F2 S3)).mono (keepT_same J4)).mono kT) (T4.mono kT),tmk_app uk (tmk_one (.inr (.inl ⟨j,j0,rfl⟩))),feed_lst (F3.same J4) Ef,fun c o n e=>?_⟩⟩
   rw [au (ne_of_none e hE)]
   exact J4 _ _ (S3 _ _ n (S2 _ _ n e))
 rintro H2 ⟨uv,us,hE2,ul,UA,uk,F2,S2⟩
 have ul2:uv.length=2:=ul
 have S02:=S1.trans S2
 refine ⟨D,E2,_,_,rfl,rfl,S2 _ _ Df hD1,hE2,bv (by omega),fun L hL=>?_⟩
 have IL:=Same.new hL (.lst (tv++uv))
 have gL:upd H2 L (.lst (tv++uv)) L=some (.lst (tv++uv)):=upd_same
 have Lf:L ≠ f:=F2.ne hL
 have A3:TmsAt (upd H2 L (.lst (tv++uv))) (tv++uv) (ts++us):=((TA.mono (aY F1 S2)).app UA).mono (keepT_same IL)
 have L00:H L=none:=by
  cases e:H L with
  | none=>rfl
  | some o=>rw [S02 L o Lf e] at hL; cases hL
 generalize upd H2 L (.lst (tv++uv))=H3 at IL gL A3
 have S03:=S02.trans (SameBut.of IL)
 have F3:=F2.same IL
 clear S1 S2 TA UA hD1 hE2
 refine ⟨_,rfl,_,rfl,gh,_,2,_,rfl,rfl,SqT.of (S03 _ _ gf hg),rfl,f,p,rfl,F3,by omega,by omega,fun d4 H4 d40 d41 F4 S4=>⟨s2,fun u1 hu1=>?_⟩⟩
 have I5:=Same.new hu1 (.tup [.str "num", .int d4])
 have g5:upd H4 u1 (.tup [.str "num", .int d4]) u1=some (.tup [.str "num", .int d4]):=upd_same
 generalize upd H4 u1 (.tup [.str "num", .int d4])=H5 at I5 g5
 have S05:=S03.trans (S4.trans (SameBut.of I5))
 have F5:=F4.same I5
 refine ⟨_,rfl,_,rfl,f,gh,a,b,p,rfl,F5,S05 _ _ gf hg,p2,p9,fun d6 H6 d60 F6 S6=>⟨s2,fun u2 hu2=>⟨s4,fun sh hsh=>?_⟩⟩⟩
 have I7:=Same.new hu2 (.tup [.str "num", .int d6])
 have I8:=Same.new hsh (.tup [.str "op", .str "/", .ref u1,.ref u2])
 have J8:=I7.trans I8
 have g6:=S6 _ _ (ne_feed F5 g5 (by intro ys z; cases z)) g5
 have T8:TmAt (upd (upd H6 u2 (.tup [.str "num", .int d6])) sh (.tup [.str "op", .str "/", .ref u1,.ref u2])) (.ref sh) (.op "/" (.num d4) (.num d6)):=.op upd_same (.num (J8 _ _ g6)) (.num (I8 _ _ upd_same))
 generalize upd (upd H6 u2 (.tup [.str "num", .int d6])) sh (.tup [.str "op", .str "/", .ref u1,.ref u2])=H8 at J8 T8
 have S38:SameBut f H3 H8:=S4.trans ((SameBut.of I5).trans (S6.trans (SameBut.of J8)))
 have F8:=F6.same J8
 have gL8:=S38 _ _ Lf gL
 have A8:=A3.mono (aY F3 S38)
 refine ⟨s1,fun w1 hw1=>⟨s1,fun w2 hw2=>⟨s1,fun w3 hw3=>⟨(by show 3<=sizeLine; decide),fun W hW=>?_⟩⟩⟩⟩
 have J1:=Same.new hw1 (.tup [.str "round"])
 have J2:=Same.new hw2 (.tup [.str "due"])
 have J3:=Same.new hw3 (.tup [.str "asked"])
 have JW:=Same.new hW (.lst [.ref w1,.ref w2,.ref w3])
 have JJ:=J1.trans (J2.trans (J3.trans JW))
 have gW:upd (upd (upd (upd H8 w1 (.tup [.str "round"])) w2 (.tup [.str "due"])) w3 (.tup [.str "asked"])) W (.lst [.ref w1,.ref w2,.ref w3]) W=some (.lst [.ref w1,.ref w2,.ref w3]):=upd_same
 have e1:=JW _ _ (J3 _ _ (J2 _ _ (upd_same (H:=H8) (a:=w1) (o:=.tup [.str "round"]))))
 have e2:=JW _ _ (J3 _ _ (upd_same (H:=upd H8 w1 (.tup [.str "round"])) (a:=w2) (o:=.tup [.str "due"])))
 have e3:=JW _ _ (upd_same (H:=upd (upd H8 w1 (.tup [.str "round"])) w2 (.tup [.str "due"])) (a:=w3) (o:=.tup [.str "asked"]))
 generalize upd (upd (upd (upd H8 w1 (.tup [.str "round"])) w2 (.tup [.str "due"])) w3 (.tup [.str "asked"])) W (.lst [.ref w1,.ref w2,.ref w3])=H9 at JJ gW e1 e2 e3
 have F9:=F8.same JJ
 have Wf:W ≠ f:=fun z=>by
  obtain ⟨u,t,e,_⟩:=F8
  rw [← z] at e
  have:=J3 _ _ (J2 _ _ (J1 _ _ e))
  rw [this] at hW
  cases hW
 refine ⟨_,rfl,f,3,rfl,F9,by decide,by decide,fun d9 H10 d90 d91 F10 S10=>?_⟩
 have k910:=aY F9 S10
 obtain ⟨w,wa,hat,wm,hwa⟩:∃ (w:Str) (wa:Addr),atI [V.ref w1,.ref w2,.ref w3] d9=some (.ref wa)/\w ∈ plain3/\H10 wa=some (.tup [.str w]):=by
  have:d9=0∨d9=1∨d9=2:=by omega
  rcases this with h | h | h <;> subst h
  . exact ⟨"round", w1,rfl,by decide +kernel,k910 _ _ e1⟩
  . exact ⟨"due", w2,rfl,by decide +kernel,k910 _ _ e2⟩
  . exact ⟨"asked", w3,rfl,by decide +kernel,k910 _ _ e3⟩
 refine ⟨W,_,_,.ref wa,rfl,rfl,SqL.of (S10 _ _ Wf gW),hat,?_⟩
 have S810:SameBut f H8 H10:=(SameBut.of JJ).trans S10
 refine ⟨_,rfl,_,rfl,_,rfl,_,rfl,_,_,rfl,rfl,⟨by decide,by decide,by decide⟩,f,_,rfl,F10,(by show (0:Int) < 10 ^ (12:Int).toNat; rw [hp12]; decide),(by show (10:Int) ^ (12:Int).toNat < 2 ^ 63; rw [hp12]; decide),fun d11 H11 d110 _ F11 S11=>⟨s2,fun n1 hn1=>⟨(by show 3<=sizeLine; decide),fun M hM=>?_⟩⟩⟩
 have I12:=Same.new hn1 (.tup [.str "num", .int d11])
 have I13:=Same.new hM (.lst [.ref sh,.ref wa,.ref n1])
 have J13:=I12.trans I13
 have S813:SameBut f H8 (upd (upd H11 n1 (.tup [.str "num", .int d11])) M (.lst [.ref sh,.ref wa,.ref n1])):=S810.trans (S11.trans (SameBut.of J13))
 have gM:upd (upd H11 n1 (.tup [.str "num", .int d11])) M (.lst [.ref sh,.ref wa,.ref n1]) M=some (.lst [.ref sh,.ref wa,.ref n1]):=upd_same
 have T1:TmAt (upd (upd H11 n1 (.tup [.str "num", .int d11])) M (.lst [.ref sh,.ref wa,.ref n1])) (.ref n1) (.num d11):=.num (I13 _ _ upd_same)
 have F13:=F11.same J13
 have T2:TmAt (upd (upd H11 n1 (.tup [.str "num", .int d11])) M (.lst [.ref sh,.ref wa,.ref n1])) (.ref wa) (.plain w):=.plain (J13 _ _ (aY F10 S11 _ _ hwa))
 generalize upd (upd H11 n1 (.tup [.str "num", .int d11])) M (.lst [.ref sh,.ref wa,.ref n1])=H13 at J13 S813 gM T1 T2 F13
 have k813:=aY F8 S813
 have gL13:=S813 _ _ Lf gL8
 refine ⟨L,M,_,_,rfl,rfl,gL13,gM,bv (by show (tv++uv).length+3<=1000; rw [List.length_append]; omega),fun R hR=>?_⟩
 have IR:=Same.new hR (.lst (tv++uv++[.ref sh,.ref wa,.ref n1]))
 have R00:H R=none:=by
  cases e:H R with
  | none=>rfl
  | some o =>
    have Rf:R ≠ f:=F13.ne hR
    rw [S813 _ _ Rf (S38 _ _ Rf (S03 _ _ Rf e))] at hR
    cases hR
 have A13:=A8.mono k813
 have three:TmsAt H13 [.ref sh,.ref wa,.ref n1] [.op "/" (.num d4) (.num d6),.plain w,.num d11]:=by
  refine ⟨rfl,fun i v t h1 h2=>?_⟩
  match i,h1,h2 with
  | 0,h1,h2=>cases h1; cases h2; exact T8.mono k813
  | 1,h1,h2=>cases h1; cases h2; exact T2
  | 2,h1,h2=>cases h1; cases h2; exact T1
 refine q R _ (ts++us++[.op "/" (.num d4) (.num d6),.plain w,.num d11]) _ R00 (F13.ne hR) upd_same (by rw [List.length_append,List.length_append]; show tv.length+uv.length+3=8; omega) ((A13.app three).mono (keepT_same IR)) (tmk_app (tmk_app tk uk) fun t ht=>?_) (F13.same IR) (S03.trans (S38.trans (S813.trans (SameBut.of IR))))
 simp only [List.mem_cons,List.not_mem_nil,or_false] at ht
 rcases ht with h | h | h <;> subst h
 . exact .inr (.inr (.inl ⟨d4,d6,d40,d41,d60,rfl⟩))
 . exact .inr (.inr (.inr (.inl ⟨w,wm,rfl⟩)))
 . exact .inr (.inr (.inr (.inr ⟨d11,d110,rfl⟩)))
end
section
theorem inv_ex {p a:Int} (hp:Pm p) (p1:1 < p) (a0:0 < a) (a1:a < p):∃ g:Int,0 < g/\g < p/\g*a % p=1:=by
 have na:¬ p ∣ a:=fun ⟨k,hk⟩=>by
  have:k=0∨1<=k∨k<=-1:=by omega
  rcases this with h | h | h
  . rw [h,Int.mul_zero] at hk; omega
  . have:=Int.mul_le_mul_of_nonneg_left h (show 0<=p by omega)
    omega
  . have:=Int.mul_le_mul_of_nonneg_left h (show 0<=p by omega)
    omega
 have f:=fermat hp na (by omega)
 have e:(a ^ (p - 2).toNat % p)*a % p=1:=by
  rw [Int.mul_emod,Int.emod_emod,← Int.mul_emod,Int.mul_comm]
  obtain ⟨k,hk⟩:=f
  have:a*a ^ (p - 2).toNat=1+p*k:=by omega
  rw [this,Int.add_mul_emod_self_left]
  exact Int.emod_eq_of_lt (by decide) p1
 have r0:=Int.emod_nonneg (a ^ (p - 2).toNat) (show p ≠ 0 by omega)
 have r1:=Int.emod_lt_of_pos (a ^ (p - 2).toNat) (show 0 < p by omega)
 refine ⟨_,?_,r1,e⟩
 have:a ^ (p - 2).toNat % p ≠ 0:=fun z=>by
  rw [z,Int.zero_mul,Int.zero_emod] at e
  omega
 omega
theorem div_back {p x y:Int} (hp:Pm p) (p1:1 < p) (x0:0<=x) (x1:x < p) (y0:0 < y) (y1:y < p):divI p x y*y % p=x:=by
 obtain ⟨g,g0,g1,hg⟩:=inv_ex hp p1 y0 y1
 unfold divI
 rw [if_neg (by omega),invI_eq g0 g1 hg,Int.mul_emod,Int.emod_emod,← Int.mul_emod,Int.mul_assoc,Int.mul_emod,hg,Int.mul_one,Int.emod_emod]
 exact Int.emod_eq_of_lt x0 x1
def spTrueS:Sp:=fun vs H Q _=>∃ (gh a b c:Addr) (tv:List V) (z:Ak) (i:Int),vs=[.ref gh,.int z.nr,.int i,.int z.s,.ref c]/\GmT H gh a b z.ns tv z.ts z.p/\z.ns.Nodup/\AkOk z/\H c=some (.lst (z.to.map V.int))/\0<=i/\i < z.p/\∀ H',Same H H'->Q (.int (trueI z i)) H'
theorem sc_l_true:FnScope ["_law_game_here", "_law_number", "_law_at", "_law_s", "_law_coins"] ["_law_game_here", "_law_number", "_law_at", "_law_s", "_law_coins"] (ag s_l_true):=⟨rfl,rfl,rfl,by decide +kernel,rfl,by decide +kernel,by decide +kernel⟩
theorem ok_l_true {f:Addr} {fd:FuncData} (F:Fun K "_law_true" "_law_true" s_l_true f fd) (B:Bl mg) (C_l_count:Cal P w K mg base 14 "_law_count" ["_law_game_here", "_law_k"] spCntS) (C_l_sum:Cal P w K mg base 14 "_law_sum" ["_law_game_here", "_law_s", "_law_ahead"] spSumS):FnOk P w K mg base CX0 15 f fd ["_law_game_here", "_law_number", "_law_at", "_law_s", "_law_coins"] spTrueS:=by
 refine F.ok sc_l_true (fun vs H Q E h=>?_) (fun cdv A outer s H vs Q E hr h=>?_)
 . obtain ⟨gh,a,b,c,tv,z,i,rfl,_⟩:=h
   rfl
 obtain ⟨gh,a,b,c,tv,z,i,rfl,G,nd,k,hc,i0,i1,q⟩:=h
 refine ⟨_,(ac (aG (aj aN (pv 1) ad (aq _)) (af (ao (pe_ifExp (aj op_lt (pv 2) (aE aB rfl B.len PySem.boot_len (aa (ay aA (pv 0) ad (fun _ _=>rfl)) ae)) (aq _)) (ah aI (am C_l_count hr (by decide) rfl (aa (pv 0) (aa (pv 2) ae))) (ay aA (pv 0) ad (fun _ _=>rfl))) ad))) ax)
  (af (ao (am C_l_sum hr (by decide) rfl (aa (pv 0) (aa (pv 3) (aa (ah op_cat (pv 4) (bi (aa (pv 2) ae))) ae))))))),?_⟩
 have vl:=G.tr.length
 have p2:=k.p0
 have p9:=k.gk.p9
 have n6:=k.n6
 refine ⟨_,rfl,rfl,_,rfl,?_⟩
 by_cases c0:z.nr=0
 . refine be (congrArg V.int c0) ?_
   refine ⟨_,rfl,_,rfl,gh,_,1,_,rfl,rfl,SqT.of G.hg,rfl,b,_,rfl,.inr (SqT.of G.hb),_,_,rfl,rfl,_,rfl,?_⟩
   by_cases c1:i < (z.ts.length:Int)
   . refine be (by rw [vl]; exact c1) ?_
     obtain ⟨j,rfl⟩:∃ j:Nat,i=(j:Int):=⟨i.toNat,by omega⟩
     have hj:j < z.ts.length:=by omega
     have ht:=List.getElem?_eq_getElem hj
     have tk:=k.gk.tok _ (List.getElem_mem hj)
     rw [true_cnt c0 j ht] at q
     refine ⟨_,rfl,_,rfl,gh,a,b,z.ns,tv,z.ts,z.p,j,_,rfl,G,nd,n6,ht,tk.1,tk.2.2.1,fun H1 S1=>?_⟩
     exact ⟨_,rfl,gh,_,2,_,rfl,rfl,SqT.of (S1 _ _ G.hg),rfl,_,_,rfl,rfl,(by show 0 < z.p; omega),q _ S1⟩
   . refine aw (by rw [vl]; exact c1) ?_
     rw [true_out c0 (by omega)] at q
     exact q _ (Same.refl _)
 . refine aw (fun e=>c0 (V.int.inj e)) ?_
   have nr0:=k.nr0
   have hlt:=k.nrt (by omega)
   rw [true_row k nd i (by omega)] at q
   refine ⟨_,rfl,_,rfl,_,rfl,_,rfl,(by show 1<=sizeLine; decide),fun u hu=>?_⟩
   have Iu:=Same.new hu (.lst [.int i])
   refine ⟨c,u,_,_,rfl,rfl,Iu _ _ hc,upd_same,bv (by rw [List.length_map]; show z.to.length+1<=1000; omega),fun l hl=>?_⟩
   have Il:=Same.new hl (.lst (z.to.map V.int++[.int i]))
   have J:=Iu.trans Il
   refine ⟨gh,a,b,l,z.ns,tv,z.ts,z.to++[i],z.s,z.p,rfl,G.mono (keepT_same J),nd,n6,fun t ht=>⟨(k.gk.tok t ht).1,(k.gk.tok t ht).2.2.1⟩,.inl (by rw [upd_same,List.map_append]; rfl),by rw [List.length_append]; show z.to.length+1<=_; omega,?_,by omega,by omega,fun H' S'=>q H' (J.trans S')⟩
   intro x hx
   rcases List.mem_append.mp hx with h | h
   . exact k.po x h
   . rw [List.mem_singleton.mp h]
     exact ⟨i0,i1⟩
def tossL (z:Ak):List Int:=(if 0 < z.nr/\1 < z.ts.length then [z.s] else [])++z.to
theorem coin_toss {z:Ak} (h0:z.nr=0->z.s=0/\z.to=[]) (n0:0<=z.nr) {i:Int} (i0:0<=i) :
 atI (([0]++tossL z++[0]).map V.int) (if ((tossL z).length:Int)+1 < i then ((tossL z).length:Int)+1 else i)=some (.int (coinI z i)):=by
 have key:∀ (T:List Int) (i:Int),0<=i->atI (([0]++T++[0]).map V.int) (if (T.length:Int)+1 < i then (T.length:Int)+1 else i)=some (.int (if 1<=i/\i<=(T.length:Int) then T.getD (i - 1).toNat 0 else 0)):=by
  intro T i i0
  obtain ⟨j,hj,jl⟩:∃ j:Nat,(if (T.length:Int)+1 < i then (T.length:Int)+1 else i)=(j:Int)/\j<=T.length+1:=by
   split
   . exact ⟨T.length+1,by omega,Nat.le_refl _⟩
   . exact ⟨i.toNat,by omega,by omega⟩
  rw [hj]
  refine cn ?_
  rw [List.getElem?_map]
  have e:([0]++T++[0])[j]?=some (if 1<=i/\i<=(T.length:Int) then T.getD (i - 1).toNat 0 else 0):=by
   cases j with
   | zero =>
     rw [if_neg (by split at hj <;> omega)]
     rfl
   | succ j =>
     show (T++[0])[j]?=_
     by_cases c:j < T.length
     . rw [List.getElem?_append_left c,if_pos (by split at hj <;> omega),List.getElem?_eq_getElem c,List.getD_eq_getElem?_getD]
       have:(i - 1).toNat=j:=by split at hj <;> omega
       rw [this,List.getElem?_eq_getElem c]
       rfl
     . have ej:j=T.length:=by omega
       rw [ej,List.getElem?_append_right (Nat.le_refl _),Nat.sub_self,if_neg (by split at hj <;> omega)]
       rfl
  rw [e]
  rfl
 rw [key _ i i0]
 congr 2
 by_cases c:z.nr=0
 . obtain ⟨s0,t0⟩:=h0 c
   have eT:tossL z=[]:=by
    unfold tossL
    rw [if_neg (fun h=>by omega),t0]
    rfl
   have eC:∀ n,(coinL z).getD n 0=0:=fun n=>by
    unfold coinL
    rw [t0,s0]
    split
    . cases n <;> rfl
    . rfl
   rw [eT,if_neg (by show ¬ (1<=i/\i<=((0:Nat):Int)); omega)]
   unfold coinI
   split
   . exact (eC _).symm
   . rfl
 . have eT:tossL z=coinL z:=by
    unfold tossL coinL
    by_cases c2:1 < z.ts.length
    . rw [if_pos c2,if_pos ⟨by omega,c2⟩]
      rfl
    . rw [if_neg c2,if_neg (fun h=>c2 h.2)]
      rfl
   rw [eT]
   rfl
end
section
theorem pe_disp3 {X:Cx} {k1 k2 k3:_} {p1 p2 p3 pd:Pos} {x1 x2 x3:Str} {v1 v2 v3:Expr} {t1 t2 t3:TE} (e1:PE X v1 t1) (e2:PE X v2 t2) (e3:PE X v3 t3) :
 PE X (.Dict [some (.Constant (.str x1) k1 p1),some (.Constant (.str x2) k2 p2),some (.Constant (.str x3) k3 p3)] [v1,v2,v3] pd) (tDisp [(tC (.str x1),t1),(tC (.str x2),t2),(tC (.str x3),t3)]) :=
 pe_disp (pps_cons aD e1 (pps_cons aD e2 (pps_cons aD e3 pps_nil))) rfl rfl (by simp) (by show 3<=15; decide)
def d3 (a b c:Int):List (Key × V):=[(Sum.inr "round", V.int a),(Sum.inr "due", V.int b),(Sum.inr "asked", V.int c)]
theorem d3_merge (a b c:Int):mergeK [] (d3 a b c)=d3 a b c:=by with_unfolding_all rfl
theorem d3_1 (a b c:Int):cw (d3 a b c) (Sum.inr "round")=some (V.int a):=by with_unfolding_all rfl
theorem d3_2 (a b c:Int):cw (d3 a b c) (Sum.inr "due")=some (V.int b):=by with_unfolding_all rfl
theorem d3_3 (a b c:Int):cw (d3 a b c) (Sum.inr "asked")=some (V.int c):=by with_unfolding_all rfl
theorem p3_in (o:Str):inV (.str o) [.str "round", .str "due", .str "asked"]=(decide (o = "round") || (decide (o = "due") || decide (o = "asked"))):=by
 show (("round" == o) || (("due" == o) || (("asked" == o) || false)))=_
 rw [Bool.or_false]
 have e:∀ z:Str,(z == o)=decide (o=z):=fun z=>by
  by_cases c:o=z
  . subst c; simp
  . rw [decide_eq_false c]; simpa using fun h=>c h.symm
 rw [e,e,e]
theorem plain_d3 {z:Ak} (k:AkOk z) {w:Str} (h:w ∈ plain3):∃ n:Int,cw (d3 z.nr z.hd z.mn) (Sum.inr w)=some (V.int n)/\n % z.p=plainI z w:=by
 simp only [plain3,List.mem_cons,List.not_mem_nil,or_false] at h
 have a1:=k.h0
 have a2:=k.h1
 unfold plainI
 rcases h with rfl | rfl | rfl
 . exact ⟨_,d3_1 ..,by rw [if_pos rfl]⟩
 . exact ⟨_,d3_2 ..,by rw [if_neg (by decide +kernel),if_neg (by decide +kernel)]; exact Int.emod_eq_of_lt a1 a2⟩
 . exact ⟨_,d3_3 ..,by rw [if_neg (by decide +kernel),if_pos rfl]⟩
def spRight:Sp:=fun vs H Q _=>∃ (v:V) (tm:Tm) (gh a b t c:Addr) (tv:List V) (z:Ak) (bx:Str->Int),vs=[v,.int (tm.worth z bx),.ref gh,.int z.nr,.ref t]/\TmAt H v tm/\TmK z.p tm/\GmT H gh a b z.ns tv z.ts z.p/\z.ns.Nodup/\AkOk z/\BxOk z.p bx/\(z.nr=0->z.s=0/\z.to=[])/\H t=some (.tup [.int z.mn,.int z.hd,.int z.s,.ref c])/\H c=some (.lst (z.to.map V.int))/\∀ H',Same H H'->Q (.bl true) H'
theorem sc_l_right:FnScope ["_law_term", "_law_found", "_law_game_here", "_law_number", "_law_told", "_law_many", "_law_due", "_law_s", "_law_coins", "_law_p", "_law_below", "_law_at", "_law_tossed"] ["_law_term", "_law_found", "_law_game_here", "_law_number", "_law_told"] (ag s_l_right):=⟨rfl,rfl,rfl,by decide +kernel,rfl,by decide +kernel,by decide +kernel⟩
def tCoR:TS:=fun Dn σ H=>∃ (z:Ak) (i xf:Int) (l3:Addr) (x0 x2 x3 x4 x5 x6 x7 x8 x9 x10:Option V),σ=[x0,some (.int xf),x2,x3,x4,x5,x6,x7,x8,x9,x10,some (.int i),some (.ref l3)]/\H l3=some (.lst ((tossL z).map V.int))/\0<=i/\xf=coinI z i/\(z.nr=0->z.s=0/\z.to=[])/\0<=z.nr/\(tossL z).length<=200/\∀ H',Same H H'->Dn.rt (.bl true) H'
theorem eqI {x y:Int} (h:x=y):decide (V.int x=V.int y)=true:=decide_eq_true (congrArg V.int h)
theorem ok_l_right {f:Addr} {fd:FuncData} (F:Fun K "_law_right" "_law_right" s_l_right f fd) (B:Bl mg) (C_l_whole:Cal P w K mg base 1 "_law_whole" ["_law_found"] spWh1) (C_l_true:Cal P w K mg base 15 "_law_true" ["_law_game_here", "_law_number", "_law_at", "_law_s", "_law_coins"] spTrueS):FnOk P w K mg base CX0 16 f fd ["_law_term", "_law_found", "_law_game_here", "_law_number", "_law_told"] spRight:=by
 refine F.ok sc_l_right (fun vs H Q E h=>?_) (fun cdv A outer s H vs Q E hr h=>?_)
 . obtain ⟨v,tm,gh,a,b,t,c,tv,z,bx,rfl,_⟩:=h
   rfl
 obtain ⟨v,tm,gh,a,b,t,c,tv,z,bx,rfl,T,tk,G,nd,k,bo,h0,ht,hc,q⟩:=h
 have hu:=hu_of hr
 have p2:=k.p0
 have p9:=k.gk.p9
 have wr:=Tm.worth_rng k bo tm
 refine ⟨_,PSW.out (bj ⟨ps_asg (pv 4) (pg_tup rfl (bD (aS (i:=5) sc_l_right.nd rfl (Or.inl rfl)) (bD (aS (i:=6) sc_l_right.nd rfl (Or.inl rfl)) (bD (aS (i:=7) sc_l_right.nd rfl (Or.inl rfl)) (bD (aS (i:=8) sc_l_right.nd rfl (Or.inl rfl)) pgs_nil)))))⟩
  (bj (wt_set (i:=9) sc_l_right.nd rfl (Or.inl rfl) ⟨ay aA (pv 2) ad (fun _ _=>rfl)⟩)
  (bj (wt_if (PW.pt (pw_or (pt_not (pt_val (am C_l_whole hr (by decide) rfl (aa (pv 1) ae)))) (pw_or1 (pt_not (pt_chain op_le op_lt ad (pv 1) (pv 9)))))) ⟨af (ao pe_bl)⟩ ws_nil)
  (bj (wt_if (aj aN (ay aA (pv 0) ad (fun _ _=>rfl)) aD (aq _)) ⟨af (ao (bH aN (pv 1) (ah aI (ay aA (pv 0) ad (fun _ _=>rfl)) (pv 9)) (aq _)))⟩ ws_nil)
  (bj (wt_if (aj aN (ay aA (pv 0) ad (fun _ _=>rfl)) aD (aq _)) ⟨ac (ak (i:=10) sc_l_right.nd rfl (Or.inl rfl) (ah aI (ay aA (ay aA (pv 0) ad (fun _ _=>rfl)) ad (fun _ _=>rfl)) (pv 9)))
   (af (ao (pe_ifExp (aj op_gt (pv 10) ad (aq _)) (bH aN (ah aI (ah aX (pv 1) (pv 10)) (pv 9)) (ay aA (ay aA (pv 0) ad (fun _ _=>rfl)) ad (fun _ _=>rfl)) (aq _)) (bH aN (pv 1) ad (aq _)))))⟩ ws_nil)
  (bj (wt_if (aj op_in_seq (ay aA (pv 0) ad (fun _ _=>rfl)) (PEW.out (we_lst (aO we_str (aO we_str (aO we_str cP))))) (by with_unfolding_all rfl)) (ws_one (wt_ret ⟨bH aN (pv 1) (ah aI (pe_dget hu (pe_disp3 (pv 3) (pv 6) (pv 5)) (ay aA (pv 0) ad (fun _ _=>rfl)) (fun _ _=>rfl)) (pv 9)) (aq _)⟩)) ws_nil)
  (bj (wt_set (i:=11) sc_l_right.nd rfl (Or.inl rfl) ⟨ah aI (ay aA (ay aA (pv 0) ad (fun _ _=>rfl)) ad (fun _ _=>rfl)) (pv 9)⟩)
  (bj (wt_if (aj aN (ay aA (pv 0) ad (fun _ _=>rfl)) aD (aq _)) ⟨af (ao (bH aN (pv 1) (am C_l_true hr (by decide) rfl (aa (pv 2) (aa (pv 3) (aa (pv 11) (aa (pv 7) (aa (pv 8) ae)))))) (aq _)))⟩ ws_nil)
  (bj (wt_set (i:=12) sc_l_right.nd rfl (Or.inl rfl) ⟨ah op_cat (ah op_rep (bi (aa (pv 7) ae)) (bq call_int1 rfl B.int boot_int' (aa (pe_and (bH op_gt (pv 3) ad (aq _)) (pe_one (bH op_gt (aE aB rfl B.len PySem.boot_len (aa (ay aA (pv 2) ad (fun _ _=>rfl)) ae)) ad (aq _)))) ae))) (pv 8)⟩)
  (ws_cut (t':=tCoR) (ws_one (wt_ret ⟨bH aN (pv 1) (ay ix_list (ah op_cat (ah op_cat (bi (aa ad ae)) (pv 12)) (bi (aa ad ae))) (aE (call_min2 rfl) rfl B.min PyProof.Rows.boot_min (aa (pv 11) (aa (ah aU (aE aB rfl B.len PySem.boot_len (aa (pv 12) ae)) ad) ae))) (fun _ _=>rfl)) (aq _)⟩)) (by
   rintro Dn σ H ⟨z,i,xf,l3,x0,x2,x3,x4,x5,x6,x7,x8,x9,x10,rfl,hl3,i0,rfl,h0,n0,tl,q⟩
   have ct:=coin_toss h0 n0 i0
   generalize tossL z=T at hl3 tl ct
   refine ⟨_,rfl,(by show 1<=sizeLine; decide),fun u hu=>?_⟩
   have I1:=Same.new hu (.lst [.int 0])
   have g1:upd H u (.lst [.int 0]) u=some (.lst [.int 0]):=upd_same
   generalize upd H u (.lst [.int 0])=H1 at I1 g1
   refine ⟨_,rfl,u,l3,_,_,rfl,rfl,g1,I1 _ _ hl3,bv (by rw [List.length_map]; show 1+T.length<=1000; omega),fun y hy=>?_⟩
   have I2:=Same.new hy (.lst ([V.int 0]++T.map V.int))
   have g2:upd H1 y (.lst ([V.int 0]++T.map V.int)) y=some (.lst ([V.int 0]++T.map V.int)):=upd_same
   generalize upd H1 y (.lst ([V.int 0]++T.map V.int))=H2 at I2 g2
   refine ⟨(by show 1<=sizeLine; decide),fun u2 hu2=>?_⟩
   have I3:=Same.new hu2 (.lst [.int 0])
   have g3:upd H2 u2 (.lst [.int 0]) u2=some (.lst [.int 0]):=upd_same
   generalize upd H2 u2 (.lst [.int 0])=H3 at I3 g3
   refine ⟨y,u2,_,_,rfl,rfl,I3 _ _ g2,g3,bv (by rw [List.length_append,List.length_map]; show 1+T.length+1<=1000; omega),fun w hw=>?_⟩
   have I4:=Same.new hw (.lst ([V.int 0]++T.map V.int++[V.int 0]))
   have g4:upd H3 w (.lst ([V.int 0]++T.map V.int++[V.int 0])) w=some (.lst (([0]++T++[0]).map V.int)):=by rw [upd_same,List.map_append,List.map_append]; rfl
   generalize upd H3 w (.lst ([V.int 0]++T.map V.int++[V.int 0]))=H4 at I4 g4
   have J:=I1.trans (I2.trans (I3.trans I4))
   refine ⟨_,rfl,_,rfl,l3,_,rfl,.inl (SqL.of (J _ _ hl3)),_,_,rfl,rfl,_,_,rfl,?_⟩
   rw [List.length_map]
   refine ⟨w,_,_,_,rfl,rfl,SqL.of g4,ct,rfl,?_⟩
   rw [decide_eq_true rfl]
   exact q _ J))))))))))),?_⟩
 refine ⟨_,rfl,t,_,rfl,SqT.of ht,rfl,_,_,rfl,_,_,rfl,_,_,rfl,_,_,rfl,rfl,?_⟩
 refine ⟨_,rfl,gh,_,2,_,rfl,rfl,SqT.of G.hg,rfl,?_⟩
 refine ⟨_,rfl,_,rfl,_,rfl,iteF ?_⟩
 refine ⟨_,rfl,_,_,rfl,rfl,_,rfl,be wr.1 ?_⟩
 refine ⟨_,rfl,_,_,rfl,rfl,_,rfl,iteNE wr.2 ?_⟩
 have p0:0 < z.p:=by omega
 have fin:∀ {x y:Int} {H':Hp},x=y->Same H H'->Q (.bl (decide (V.int x=V.int y))) H':=fun {x y H'} e S=>by
  rw [eqI e]
  exact q _ S
 have three:∀ {w:Str},(w = "num" ∨ w = "op" ∨ w = "true" ∨ w = "coin")->inV (.str w) [.str "round", .str "due", .str "asked"]=false:=fun {w} h=>by
  rw [p3_in]
  rcases h with rfl | rfl | rfl | rfl <;> decide +kernel
 have md:∀ i:Int,0<=i % z.p/\i % z.p < z.p:=fun i=>⟨Int.emod_nonneg _ (by omega),Int.emod_lt_of_pos _ p0⟩
 rcases tk with ⟨i,i0,rfl⟩ | ⟨i,i0,rfl⟩ | ⟨n,i,n0,n1,i0,rfl⟩ | ⟨w,wm,rfl⟩ | ⟨n,n0,rfl⟩
 . -- true
   cases T with
   | @ask ta _ u _ e Tu =>
   cases Tu with
   | @num tu _ e2 =>
   refine ⟨_,rfl,ta,_,0,_,rfl,rfl,SqT.of e,rfl,rfl,_,rfl,aw (by decide +kernel) ?_⟩
   refine ⟨_,rfl,ta,_,0,_,rfl,rfl,SqT.of e,rfl,rfl,_,rfl,aw (by decide +kernel) ?_⟩
   refine ⟨_,rfl,ta,_,0,_,rfl,rfl,SqT.of e,rfl,(by show 3<=sizeLine; decide),fun l hl=>?_⟩
   have I:=Same.new hl (.lst [.str "round", .str "due", .str "asked"])
   refine ⟨l,_,rfl,.inl (SqL.of upd_same),rfl,rfl,_,rfl,?_⟩
   show if inV (.str "true") [.str "round", .str "due", .str "asked"]=true then _ else _
   rw [three (by simp)]
   refine iteF ?_
   refine ⟨_,rfl,ta,_,1,_,rfl,rfl,SqT.of (I _ _ e),rfl,tu,_,1,_,rfl,rfl,SqT.of (I _ _ e2),rfl,_,rfl,_,_,rfl,rfl,p0,?_⟩
   refine ⟨_,rfl,ta,_,0,_,rfl,rfl,SqT.of (I _ _ e),rfl,rfl,_,rfl,be rfl ?_⟩
   refine ⟨_,rfl,_,rfl,_,rfl,_,rfl,_,rfl,_,rfl,gh,a,b,c,tv,z,i % z.p,rfl,G.mono (keepT_same I),nd,k,I _ _ hc,(md i).1,(md i).2,fun H' S'=>⟨rfl,?_⟩⟩
   refine fin ?_ (I.trans S')
   show (if ("true" : Str) = "coin" then coinI z (i % z.p) else trueI z (i % z.p))=_
   rw [if_neg (by decide +kernel)]
 . -- coin
   cases T with
   | @ask ta _ u _ e Tu =>
   cases Tu with
   | @num tu _ e2 =>
   refine ⟨_,rfl,ta,_,0,_,rfl,rfl,SqT.of e,rfl,rfl,_,rfl,aw (by decide +kernel) ?_⟩
   refine ⟨_,rfl,ta,_,0,_,rfl,rfl,SqT.of e,rfl,rfl,_,rfl,aw (by decide +kernel) ?_⟩
   refine ⟨_,rfl,ta,_,0,_,rfl,rfl,SqT.of e,rfl,(by show 3<=sizeLine; decide),fun l hl=>?_⟩
   have I:=Same.new hl (.lst [.str "round", .str "due", .str "asked"])
   refine ⟨l,_,rfl,.inl (SqL.of upd_same),rfl,rfl,_,rfl,?_⟩
   show if inV (.str "coin") [.str "round", .str "due", .str "asked"]=true then _ else _
   rw [three (by simp)]
   refine iteF ?_
   generalize upd H l (.lst [.str "round", .str "due", .str "asked"])=H1 at I
   refine ⟨_,rfl,ta,_,1,_,rfl,rfl,SqT.of (I _ _ e),rfl,tu,_,1,_,rfl,rfl,SqT.of (I _ _ e2),rfl,_,rfl,_,_,rfl,rfl,p0,?_⟩
   refine ⟨_,rfl,ta,_,0,_,rfl,rfl,SqT.of (I _ _ e),rfl,rfl,_,rfl,aw (by decide +kernel) ?_⟩
   refine ⟨_,rfl,(by show 1<=sizeLine; decide),fun u1 hu1=>?_⟩
   have I2:=Same.new hu1 (.lst [.int z.s])
   have g2:upd H1 u1 (.lst [.int z.s]) u1=some (.lst [.int z.s]):=upd_same
   generalize upd H1 u1 (.lst [.int z.s])=H2 at I2 g2
   have J2:=I.trans I2
   have hc2:=J2 _ _ hc
   have tl:=k.tl
   have vl:=G.tr.length
   have fin2:∀ (T:List Int) (H3:Hp) (l3:Addr),T=tossL z->Same H H3->H3 l3=some (.lst (T.map V.int))->tCoR { nx:=fun _ H'=>Q .non H',rt:=Q } [some (.ref ta),some (.int ((Tm.ask "coin" (.num i)).worth z bx)),some (.ref gh),some (.int z.nr),some (.ref t),some (.int z.mn),some (.int z.hd),some (.int z.s),some (.ref c),some (.int z.p),none,some (.int (i % z.p)),some (.ref l3)] H3:=fun T H3 l3 eT S3 h3=>by
    subst eT
    refine ⟨z,i % z.p,_,l3,_,_,_,_,_,_,_,_,_,_,rfl,h3,(md i).1,?_,h0,k.nr0,?_,fun H' S'=>q _ (S3.trans S')⟩
    . show (if ("coin" : Str) = "coin" then coinI z (i % z.p) else trueI z (i % z.p))=_
      rw [if_pos rfl]
    . unfold tossL
      rw [List.length_append]
      have:((if 0 < z.nr/\1 < z.ts.length then [z.s] else []):List Int).length<=1:=by split <;> simp
      omega
   refine ⟨_,rfl,_,_,rfl,rfl,_,rfl,?_⟩
   by_cases c1:0 < z.nr
   . refine be c1 ?_
     refine ⟨_,rfl,gh,_,1,_,rfl,rfl,SqT.of (J2 _ _ G.hg),rfl,b,_,rfl,.inr (SqT.of (J2 _ _ G.hb)),_,_,rfl,rfl,.inr ⟨_,rfl,?_⟩⟩
     by_cases c2:1 < z.ts.length
     . have e9:decide (1 < (tv.length:Int))=true:=decide_eq_true (by omega)
       show rRep _ (.int (if decide (1 < (tv.length:Int))=true then 1 else 0)) _ _
       rw [e9,if_pos rfl]
       refine ⟨u1,_,[.int z.s],rfl,rfl,g2,by decide,by decide,bv (by show 1*1<=1000; decide),fun p hp=>?_⟩
       have Ip:=Same.new hp (.lst ((List.replicate 1 z.s).map V.int))
       refine ⟨_,rfl,p,c,(List.replicate 1 z.s).map V.int,_,rfl,rfl,upd_same,Ip _ _ hc2,bv (by rw [List.length_map,List.length_map,List.length_replicate]; omega),fun p2 hp2=>?_⟩
       have I3:=Same.new hp2 (.lst ((List.replicate 1 z.s).map V.int++z.to.map V.int))
       exact fin2 (List.replicate 1 z.s++z.to) _ p2 (by unfold tossL; rw [if_pos ⟨c1,c2⟩]; rfl) (J2.trans (Ip.trans I3)) (by rw [List.map_append]; exact upd_same)
     . have e9:decide (1 < (tv.length:Int))=false:=decide_eq_false (by omega)
       show rRep _ (.int (if decide (1 < (tv.length:Int))=true then 1 else 0)) _ _
       rw [e9,if_neg (by decide)]
       refine ⟨u1,_,[.int z.s],rfl,rfl,g2,by decide,by decide,bv (by show 1*0<=1000; decide),fun p hp=>?_⟩
       have Ip:=Same.new hp (.lst ((List.replicate 0 z.s).map V.int))
       refine ⟨_,rfl,p,c,(List.replicate 0 z.s).map V.int,_,rfl,rfl,upd_same,Ip _ _ hc2,bv (by rw [List.length_map,List.length_map,List.length_replicate]; omega),fun p2 hp2=>?_⟩
       have I3:=Same.new hp2 (.lst ((List.replicate 0 z.s).map V.int++z.to.map V.int))
       exact fin2 (List.replicate 0 z.s++z.to) _ p2 (by unfold tossL; rw [if_neg (fun h=>c2 h.2)]; rfl) (J2.trans (Ip.trans I3)) (by rw [List.map_append]; exact upd_same)
   . refine aw c1 ?_
     refine .inr ⟨_,rfl,?_⟩
     show rRep _ (.int (if false=true then 1 else 0)) _ _
     rw [if_neg (by decide)]
     refine ⟨u1,_,[.int z.s],rfl,rfl,g2,by decide,by decide,bv (by show 1*0<=1000; decide),fun p hp=>?_⟩
     have Ip:=Same.new hp (.lst ((List.replicate 0 z.s).map V.int))
     refine ⟨_,rfl,p,c,(List.replicate 0 z.s).map V.int,_,rfl,rfl,upd_same,Ip _ _ hc2,bv (by rw [List.length_map,List.length_map,List.length_replicate]; omega),fun p2 hp2=>?_⟩
     have I3:=Same.new hp2 (.lst ((List.replicate 0 z.s).map V.int++z.to.map V.int))
     exact fin2 (List.replicate 0 z.s++z.to) _ p2 (by unfold tossL; rw [if_neg (fun h=>c1 h.1)]; rfl) (J2.trans (Ip.trans I3)) (by rw [List.map_append]; exact upd_same)
 . -- op
   cases T with
   | @op ta _ u1 u2 _ _ e T1 T2 =>
   cases T1 with
   | @num t1 _ e1 =>
   cases T2 with
   | @num t2 _ e2 =>
   refine ⟨_,rfl,ta,_,0,_,rfl,rfl,SqT.of e,rfl,rfl,_,rfl,aw (by decide +kernel) ?_⟩
   refine ⟨_,rfl,ta,_,0,_,rfl,rfl,SqT.of e,rfl,rfl,_,rfl,be rfl ?_⟩
   refine ⟨_,rfl,ta,_,3,_,rfl,rfl,SqT.of e,rfl,t2,_,1,_,rfl,rfl,SqT.of e2,rfl,_,rfl,_,_,rfl,rfl,p0,?_⟩
   have ew:(Tm.op "/" (.num n) (.num i)).worth z bx=divI z.p (n % z.p) (i % z.p):=opV_4
   have en:n % z.p=n:=Int.emod_eq_of_lt n0 n1
   refine ⟨_,rfl,_,_,rfl,rfl,_,rfl,?_⟩
   by_cases c0:0 < i % z.p
   . refine be c0 ?_
     refine ⟨_,rfl,_,rfl,_,_,rfl,rfl,.inl ⟨by omega,by omega⟩,_,rfl,_,_,rfl,rfl,p0,_,rfl,ta,_,2,_,rfl,rfl,SqT.of e,rfl,t1,_,1,_,rfl,rfl,SqT.of e1,rfl,rfl,?_⟩
     refine fin ?_ (Same.refl _)
     rw [ew,en]
     exact div_back (pm_of k.gk.pr (by omega)) (by omega) n0 n1 c0 (md i).2
   . refine aw c0 ?_
     refine ⟨_,rfl,rfl,?_⟩
     refine fin ?_ (Same.refl _)
     rw [ew]
     unfold divI
     rw [if_pos (by have:=(md i).1; omega)]
 . -- plain
   cases T with
   | @plain ta _ e =>
   have w1:w ≠ "num" := fun z=>by subst z; revert wm; decide +kernel
   have w2:w ≠ "op" := fun z=>by subst z; revert wm; decide +kernel
   refine ⟨_,rfl,ta,_,0,_,rfl,rfl,SqT.of e,rfl,rfl,_,rfl,aw (neS w1) ?_⟩
   refine ⟨_,rfl,ta,_,0,_,rfl,rfl,SqT.of e,rfl,rfl,_,rfl,aw (neS w2) ?_⟩
   refine ⟨_,rfl,ta,_,0,_,rfl,rfl,SqT.of e,rfl,(by show 3<=sizeLine; decide),fun l hl=>?_⟩
   have I:=Same.new hl (.lst [.str "round", .str "due", .str "asked"])
   refine ⟨l,_,rfl,.inl (SqL.of upd_same),rfl,rfl,_,rfl,?_⟩
   show if inV (.str w) [.str "round", .str "due", .str "asked"]=true then _ else _
   have e0:inV (.str w) [.str "round", .str "due", .str "asked"]=true:=by
    rw [p3_in]
    simp only [plain3,List.mem_cons,List.not_mem_nil,or_false] at wm
    rcases wm with rfl | rfl | rfl <;> decide +kernel
   rw [e0]
   refine iteT ?_
   generalize upd H l (.lst [.str "round", .str "due", .str "asked"])=H1 at I
   obtain ⟨n,hn,en⟩:=plain_d3 k wm
   refine ⟨_,rfl,fun d hd=>?_⟩
   refine ⟨_,rfl,_,rfl,_,rfl,upd_same,d3 z.nr z.hd z.mn,rfl,by show 3<=15; decide,?_⟩
   rw [d3_merge]
   have Sd:Same H1 (upd (upd H1 d (.dK [])) d (.dK (d3 z.nr z.hd z.mn))):=fun b' o' e'=>by
    have nb:=ne_of_none e' hd
    rw [au nb,au nb]
    exact e'
   have hd2:upd (upd H1 d (.dK [])) d (.dK (d3 z.nr z.hd z.mn)) d=some (.dK (d3 z.nr z.hd z.mn)):=upd_same
   generalize upd (upd H1 d (.dK [])) d (.dK (d3 z.nr z.hd z.mn))=H2 at Sd hd2
   have J:=I.trans Sd
   refine ⟨_,rfl,ta,_,0,_,rfl,rfl,SqT.of (J _ _ e),rfl,d,.int n,rfl,(by rw [← hn]; exact DGet.k (k:=Sum.inr _) hd2),_,rfl,_,_,rfl,rfl,p0,rfl,?_⟩
   exact fin en.symm J
 . -- num
   cases T with
   | @num ta _ e =>
   refine ⟨_,rfl,ta,_,0,_,rfl,rfl,SqT.of e,rfl,rfl,_,rfl,be rfl ?_⟩
   refine ⟨_,rfl,_,rfl,ta,_,1,_,rfl,rfl,SqT.of e,rfl,_,rfl,_,_,rfl,rfl,p0,rfl,?_⟩
   exact fin rfl (Same.refl _)
end
section
variable {CM CA CG:Addr}
def spBox (CM:Addr):Sp:=fun vs H Q _=>∃ (M g h b dm:Addr) (r:Int) (x:Str) (bx:Str->Int) (m:Nat),vs=[.ref M,.str x]/\H M=some (.ins CM dm (ml g h r b))/\BxAt H b bx m/\Q (.int (bx x)) H
theorem sc_mbox:FnScope ["self", "x"] ["self", "x"] (ag s_mbox):=⟨rfl,rfl,rfl,by decide +kernel,rfl,by decide +kernel,by decide +kernel⟩
theorem ok_mbox {f:Addr} {fd:FuncData} (F:Fun K "box" "Machine.box" s_mbox f fd) (T:MTxt K mg CM):FnOk P w K mg base CX0 1 f fd ["self", "x"] (spBox CM):=by
 refine F.ok sc_mbox (fun vs H Q E h=>?_) (fun cdv A outer s H vs Q E hr h=>?_)
 . obtain ⟨M,g,h,b,dm,r,x,bx,m,rfl,_⟩:=h
   rfl
 obtain ⟨M,g,h,b,dm,r,x,bx,m,rfl,hM,BX,q⟩:=h
 have hu:=hu_of hr
 refine ⟨_,(af (ao (pe_dget2 hu (aH (pv 0) rfl) (pv 1) ad ⟨rfl,rfl,rfl,rfl⟩))),?_⟩
 obtain ⟨kvs,hb,_,hx⟩:=BX
 refine ⟨_,rfl,M,CM,dm,_,_,rfl,hM,T.cl,T.nB,ml_b,b,rfl,.inl ⟨kvs,.inl hb⟩,_,rfl,_,DGet.k (k:=.inr x) hb,?_⟩
 rw [hx]
 exact q
end
section
variable {CM CA CG:Addr}
def HlpAt (H:Hp) (h:Addr) (rows:List Hr):Prop:=(∃ rv,H h=some (.tup rv)/\RowsAt H rv rows)/\∀ r ∈ rows,r.good
theorem HlpAt.mono {H H':Hp} {h:Addr} {rows:List Hr} (x:HlpAt H h rows) (k:bO H H'):HlpAt H' h rows:=by
 obtain ⟨⟨rv,e,R⟩,g⟩:=x
 exact ⟨⟨rv,k _ _ e,R.mono k⟩,g⟩
def StayO:HO->Prop
 | .dK _=>False
 | .ins _ _ fs=>fs.lookup ("game" : Str)=none
 | _=>True
def Kp (H H':Hp):Prop:=∀ a o,StayO o->H a=some o->H' a=some o
theorem Kp.T {H H':Hp} (x:Kp H H'):bO H H':=fun a xs e=>x a _ trivial e
theorem But2.kp {H H':Hp} {M b dm g h b0:Addr} {r:Int} {bx:Str->Int} {m:Nat} (x:But2 M b H H') (hM:H M=some (.ins CM dm (ml g h r b0))) (hb:BxAt H b bx m):Kp H H':=fun a o st e=>by
 obtain ⟨kvs,eb,_⟩:=hb
 refine x a o (fun z=>?_) (fun z=>?_) e
 . rw [z,hM] at e
   cases e
   have:=(show (ml g h r b0).lookup ("game" : Str)=none from st)
   rw [ml_g] at this
   cases this
 . rw [z,eb] at e
   cases e
   exact st
end
section
variable {CM CA CG:Addr}
noncomputable def setB (z:Ak):List (Str × Tm)->(Str->Int)->(Str->Int)
 | [],bx=>bx
 | y::r,bx=>setB z r (bxPut bx y.1 (y.2.worth z bx))
abbrev setR (y:Str × Tm):Hr:=.set y.1 y.2
theorem run_sets {z:Ak} {ps:List (Str × Tm)} (h1:0 < z.mn):∀ (k i n:Nat) (bx:Str->Int),ps.length - i=k->i<=ps.length->k<=n->runM z (ps.map setR) n ⟨(i:Int),bx,[]⟩=⟨(ps.length:Int),setB z (ps.drop i) bx,[]⟩:=by
 intro k
 induction k with
 | zero =>
   intro i n bx hk hi hn
   have e:i=ps.length:=by omega
   subst e
   rw [List.drop_length]
   cases n with
   | zero=>rfl
   | succ n =>
     show (if _/\_ then _ else _)=_
     rw [if_neg (fun h=>by have:=h.1; rw [List.length_map] at this; exact absurd this (Int.lt_irrefl _))]
     rfl
 | succ k ih =>
   intro i n bx hk hi hn
   have hlt:i < ps.length:=by omega
   obtain ⟨m,rfl⟩:∃ m,n=m+1:=⟨n - 1,by omega⟩
   show (if _/\_ then _ else _)=_
   rw [if_pos ⟨by rw [List.length_map]; show (i:Int) < _; omega,h1⟩]
   have st:stepM z (ps.map setR) ⟨(i:Int),bx,[]⟩=⟨((i+1:Nat):Int),bxPut bx ps[i].1 (ps[i].2.worth z bx),[]⟩:=by
    unfold stepM
    show (match (ps.map setR)[((i:Int)).toNat]? with | some r=>_ | none=>_)=_
    rw [Int.toNat_natCast,List.getElem?_map,List.getElem?_eq_getElem hlt]
    show (⟨(i:Int)+1,_,_⟩:MS)=_
    congr 1
   rw [st,ih (i+1) m _ (by omega) (by omega) (by omega),List.drop_eq_getElem_cons hlt]
   rfl
theorem setB_not {z:Ak} {x:Str}:∀ (ps:List (Str × Tm)) (bx:Str->Int),x ∉ ps.map (·.1)->setB z ps bx x=bx x
 | [],_,_=>rfl
 | y::r,bx,h=>by
   show setB z r _ x=_
   rw [setB_not r _ (fun m=>h (List.mem_cons_of_mem _ m))]
   show (if x=y.1 then _ else _)=_
   rw [if_neg (fun e=>h (by rw [e]; exact List.mem_cons_self))]
theorem tmk_ind {z:Ak} {p:Int} {t:Tm} (h:TmK p t) (bx by_:Str->Int):t.worth z bx=t.worth z by_:=by
 rcases h with ⟨i,_,rfl⟩ | ⟨i,_,rfl⟩ | ⟨a,i,_,_,_,rfl⟩ | ⟨w,_,rfl⟩ | ⟨n,_,rfl⟩ <;> rfl
theorem setB_get {z:Ak} {p:Int}:∀ (ps:List (Str × Tm)) (bx:Str->Int),(ps.map (·.1)).Nodup->(∀ y ∈ ps,TmK p y.2)->∀ y ∈ ps,setB z ps bx y.1=y.2.worth z bx
 | [],_,_,_,y,hy=>by cases hy
 | y0::r,bx,nd,tk,y,hy=>by
   have nd':y0.1 ∉ r.map (·.1)/\(r.map (·.1)).Nodup:=List.nodup_cons.mp nd
   show setB z r _ y.1=_
   rcases List.mem_cons.mp hy with rfl | hy
   . rw [setB_not r _ nd'.1]
     show (if y.1=y.1 then _ else _)=_
     rw [if_pos rfl]
   . rw [setB_get r _ nd'.2 (fun u hu=>tk u (List.mem_cons_of_mem _ hu)) y hy]
     exact tmk_ind (tk y (List.mem_cons_of_mem _ hy)) _ _
theorem tmk_good {p:Int} {t:Tm} (h:TmK p t):t.good/\t.depth<=5:=by
 rcases h with ⟨i,_,rfl⟩ | ⟨i,_,rfl⟩ | ⟨a,i,_,_,_,rfl⟩ | ⟨w,hw,rfl⟩ | ⟨n,_,rfl⟩
 . exact ⟨⟨by decide +kernel,trivial⟩,by show 2<=5; decide⟩
 . exact ⟨⟨by decide +kernel,trivial⟩,by show 2<=5; decide⟩
 . exact ⟨⟨by decide +kernel,trivial,trivial⟩,by show 2<=5; decide⟩
 . refine ⟨?_,by show 1<=5; decide⟩
   simp only [plain3,List.mem_cons,List.not_mem_nil,or_false] at hw
   rcases hw with rfl | rfl | rfl <;> (show _ ∈ plainW; decide +kernel)
 . exact ⟨trivial,by show 1<=5; decide⟩
theorem RowsAt.app {H:Hp} {a b:List V} {r s:List Hr} (h:RowsAt H a r) (k:RowsAt H b s):RowsAt H (a++b) (r++s):=by
 refine ⟨by rw [List.length_append,List.length_append,h.1,k.1],fun i v x e1 e2=>?_⟩
 by_cases c:i < a.length
 . rw [List.getElem?_append_left c] at e1
   rw [List.getElem?_append_left (by rw [← h.1]; exact c)] at e2
   exact h.2 i v x e1 e2
 . rw [List.getElem?_append_right (by omega)] at e1
   rw [List.getElem?_append_right (by rw [← h.1]; omega),← h.1] at e2
   exact k.2 _ v x e1 e2
theorem RowsAt.one {H:Hp} {v:V} {r:Hr} (h:HrAt H v r):RowsAt H [v] [r]:=⟨rfl,fun i u x e1 e2=>by
 cases i with
 | zero=>cases e1; cases e2; exact h
 | succ i=>cases e1⟩
theorem deg_400 {ns:List Str} {ts:List Tr} {p:Int} (k:GmK ns ts p) (x:Str):0<=aZ ts x/\aZ ts x<=400:=by
 have t0:ts ≠ []:=fun z=>by have:=k.t1; rw [z] at this; cases this
 have:=maxD_mem (ns:=ts.map fun t=>(t.names.count x:Int)) (by simpa using t0)
 obtain ⟨t,ht,e⟩:=List.mem_map.mp this
 unfold aZ
 rw [← e]
 have h1:=List.count_le_length (a:=x) (l:=t.names)
 have h2:=t.names_len
 have h3:=(k.tok t ht).2.2.2
 omega
def K1 (f:Addr) (H H':Hp):Prop:=∀ a o,a ≠ f->StayO o->H a=some o->H' a=some o
structure S36 (CG:Addr) (H:Hp) (f gh g h N TL C:Addr) (ns:List Str) (ts:List Tr) (p:Int) (rows:List Hr) (xs:List Str) (tv:List V) (tms:List Tm) (cs:List Int):Prop where
 gt:∃ (a b:Addr) (tv:List V),GmT H gh a b ns tv ts p
 gm:∃ (a b d:Addr) (tv:List V),GameAt CG H g a b d p/\H a=some (.tup (ns.map V.str))/\H b=some (.tup tv)/\TreesAt H tv ts/\H d=some (.lst ((ns.map (aZ ts)).map V.int))/\d ≠ f
 hl:HlpAt H h rows
 nm:H N=some (.lst (xs.map V.str))
 nf:N ≠ f
 tl:H TL=some (.lst tv)
 tf:TL ≠ f
 ta:TmsAt H tv tms
 co:H C=some (.lst (cs.map V.int))
 cf:C ≠ f
theorem S36.keep {H H':Hp} {f gh g h N TL C:Addr} {ns:List Str} {ts:List Tr} {p:Int} {rows:List Hr} {xs:List Str} {tv:List V} {tms:List Tm} {cs:List Int} (s:S36 CG H f gh g h N TL C ns ts p rows xs tv tms cs) (kT:bO H H') (k:K1 f H H') (kg:∀ a o,(∃ C dx fs,o=.ins C dx fs/\fs.lookup ("game" : Str)=none)->H a=some o->H' a=some o):S36 CG H' f gh g h N TL C ns ts p rows xs tv tms cs:=by
 obtain ⟨⟨a,b,tv0,g0⟩,⟨a',b',d,tv',⟨dx,h1⟩,h2,h3,h4,h5,h6⟩,hl,nm,nf,tl,tf,ta,co,cf⟩:=s
 exact ⟨⟨a,b,tv0,g0.mono kT⟩,⟨a',b',d,tv',⟨dx,kg _ _ ⟨_,_,_,rfl,gf_game ..⟩ h1⟩,kT _ _ h2,kT _ _ h3,h4.mono kT,k _ _ h6 trivial h5,h6⟩,hl.mono kT,k _ _ nf trivial nm,nf,k _ _ tf trivial tl,tf,ta.mono kT,k _ _ cf trivial co,cf⟩
theorem S36.feed {H H':Hp} {f gh g h N TL C:Addr} {ns:List Str} {ts:List Tr} {p:Int} {rows:List Hr} {xs:List Str} {tv:List V} {tms:List Tm} {cs:List Int} (s:S36 CG H f gh g h N TL C ns ts p rows xs tv tms cs) (F:FeedAt H f) (x:SameBut f H H'):S36 CG H' f gh g h N TL C ns ts p rows xs tv tms cs :=
 s.keep (aY F x) (fun a o n _ e=>x a o n e) (fun a o ho e=>x a o (ne_feed F e (by obtain ⟨C,dx,fs,rfl,_⟩:=ho; intro ys z; cases z)) e)
theorem S36.same {H H':Hp} {f gh g h N TL C:Addr} {ns:List Str} {ts:List Tr} {p:Int} {rows:List Hr} {xs:List Str} {tv:List V} {tms:List Tm} {cs:List Int} (s:S36 CG H f gh g h N TL C ns ts p rows xs tv tms cs) (x:Same H H'):S36 CG H' f gh g h N TL C ns ts p rows xs tv tms cs :=
 s.keep (keepT_same x) (fun a o n _ e=>x a o e) (fun a o ho e=>x a o e)
theorem S36.kp {H H':Hp} {f gh g h N TL C:Addr} {ns:List Str} {ts:List Tr} {p:Int} {rows:List Hr} {xs:List Str} {tv:List V} {tms:List Tm} {cs:List Int} (s:S36 CG H f gh g h N TL C ns ts p rows xs tv tms cs) (x:Kp H H'):S36 CG H' f gh g h N TL C ns ts p rows xs tv tms cs :=
 s.keep x.T (fun a o n st e=>x a o st e) (fun a o ho e=>x a o (by obtain ⟨C,dx,fs,rfl,hf⟩:=ho; exact hf) e)
theorem S36.g {H:Hp} {f gh g h N TL C:Addr} {ns:List Str} {ts:List Tr} {p:Int} {rows:List Hr} {xs:List Str} {tv:List V} {tms:List Tm} {cs:List Int} (s:S36 CG H f gh g h N TL C ns ts p rows xs tv tms cs):Gm CG H g ns ts p:=by
 obtain ⟨a,b,d,tv,h1,h2,h3,h4,h5,_⟩:=s.gm
 exact ⟨a,b,d,tv,h1,h2,h3,h4,h5⟩
end
section
variable {CM CA CG:Addr}
def tA36 (K:W.Frag):TS:=fun Dn σ H=>∃ (a0 f gh a b N:Addr) (x2:Option V) (ns0:List Int) (ns:List Str) (tv:List V) (ts:List Tr) (p:Int) (xs:List Str),σ=[some (.ref a0),some (.ref f),x2,some (.ref gh),some (.ref N),none,none,none,none,none,none,none,none,none,none]/\SqL K H a0 (ns0.map V.int)/\ns0.length<=63/\FeedAt H f/\GmT H gh a b ns tv ts p/\GmK ns ts p/\ns.length<=6/\ns.Nodup/\H N=some (.lst (xs.map V.str))/\xs.length=8/\xs.Nodup/\N ≠ f/\∀ H',Dn.rt (.bl true) H'
theorem sc_law:FnScope ["_law_script", "_law_feed_here", "_law_size", "_law_game_here", "_law_names_here", "_law_terms_here", "_law_machine", "_law_s", "_law_coins", "_law_number", "_law_degree", "_law_due", "_law_told", "_law_x", "_law_term"] ["_law_script"] (ag s_law):=⟨rfl,rfl,rfl,by decide +kernel,rfl,by decide +kernel,by decide +kernel⟩
theorem ok_law {f fI fM fS fB:Addr} {fd fdI fdM fdS fdB:FuncData} (F:Fun K "law" "law" s_law f fd) (B:Bl mg) (TM:MTxt K mg CM) (TG:GTxt K mg CG) (MG:Mk K CG fI) (GI:FnOk P w K mg base CX0 14 fI fdI ["self", "switches", "trees", "field"] (spGInit CG)) (bI:Binds K fdI ["self", "switches", "trees", "field"] [])
 (MM:Mk K CM fM) (GM:FnOk P w K mg base CX0 1 fM fdM ["self", "game", "helper"] (spMInit CM)) (bM:Binds K fdM ["self", "game", "helper"] []) (mS:Meth K CM "say" fS) (GS:FnOk P w K mg base CX0 25 fS fdS ["self", "many", "due", "s", "coins"] (spSay CM CG)) (bS:Binds K fdS ["self", "many", "due", "s", "coins"] []) (mB:Meth K CM "box" fB) (GB:FnOk P w K mg base CX0 1 fB fdB ["self", "x"] (spBox CM)) (bB:Binds K fdB ["self", "x"] [])
 (C_l_feed:Cal P w K mg base 1 "_law_feed" ["_law_script", "_law_k"] (spFeed K)) (C_l_take:Cal P w K mg base 1 "_law_take" ["_law_feed_here", "_law_many"] spTake) (C_l_names:Cal P w K mg base 2 "_law_names" ["_law_feed_here", "_law_many"] spNamesQ) (C_l_game:Cal P w K mg base 14 "_law_game" ["_law_feed_here", "_law_most", "_law_room"] spGame)
 (C_l_terms:Cal P w K mg base 3 "_law_terms" ["_law_feed_here", "_law_game_here"] spTerms) (C_l_degrees:Cal P w K mg base 13 "_law_degrees" ["_law_game_here"] spLDeg) (C_l_numbers:Cal P w K mg base 2 "_law_numbers" ["_law_found", "_law_due"] spNumsL) (C_l_right:Cal P w K mg base 16 "_law_right" ["_law_term", "_law_found", "_law_game_here", "_law_number", "_law_told"] spRight):FnOk P w K mg base CX0 26 f fd ["_law_script"] (spLaw K):=by
 refine F.ok sc_law (fun vs H Q E h=>?_) (fun cdv A outer s H vs Q E hr h=>?_)
 . obtain ⟨a,ns,rfl,_⟩:=h
   rfl
 obtain ⟨a0,ns0,rfl,hS,h63,q⟩:=h
 have hr15:Room (14+1) _:=hr.mono (by decide)
 have hr2:Room (1+1) _:=hr.mono (by decide)
 have hr1:Room 1 _:=hr.mono (by decide)
 refine ⟨_,PSW.out (bj (wt_set (i:=1) sc_law.nd rfl (Or.inr rfl) ⟨am C_l_feed hr (by decide) rfl (aa (pv 0) (aa ad ae))⟩)
  (bj (wt_set (i:=2) sc_law.nd rfl (Or.inl rfl) ⟨ay ix_list (PEW.out (we_lst (aO (we_tup (aO we_int (aO we_int cP))) (aO (we_tup (aO we_int (aO we_int cP))) (aO (we_tup (aO we_int (aO we_int cP))) (aO (we_tup (aO we_int (aO we_int cP))) cP)))))) (am C_l_take hr (by decide) rfl (aa (pv 1) (aa ad ae))) (fun _ _=>rfl)⟩)
  (bj (wt_set (i:=3) sc_law.nd rfl (Or.inr rfl) ⟨am C_l_game hr (by decide) rfl (aa (am C_l_feed hr (by decide) rfl (aa (pv 0) (aa ad ae))) (aa (ay aA (pv 2) ad (fun _ _=>rfl)) (aa (ay aA (pv 2) ad (fun _ _=>rfl)) ae)))⟩)
  (bj (wt_set (i:=4) sc_law.nd rfl (Or.inl rfl) ⟨am C_l_names hr (by decide) rfl (aa (am C_l_feed hr (by decide) rfl (aa (pv 0) (aa ad ae))) (aa ad ae))⟩)
  (bj (wt_if (PW.pt (pw_and (aj op_lt (aE call_len_str rfl B.len PySem.boot_len (aa (ay ix_list (pv 4) ad (fun _ _=>rfl)) ae)) ad (aq _)) (pw_and1 (aj op_gt (am C_l_take hr (by decide) rfl (aa (am C_l_feed hr (by decide) rfl (aa (pv 0) (aa ad ae))) (aa ad ae))) ad (aq _))))) ⟨af (ps_asg (ah op_add_str (ay ix_list (pv 4) ad (fun _ _=>rfl)) aD) (pg_sub (pv 4) ad set_list))⟩ ws_nil)
  (ws_cut (t':=tA36 K) (bj (wt_set (i:=5) sc_law.nd rfl (Or.inl rfl) ⟨am C_l_terms hr (by decide) rfl (aa (pv 1) (aa (pv 3) ae))⟩)
  (bj (wt_set (i:=6) sc_law.nd rfl (Or.inl rfl) ⟨pe_make MM GM hr2 rfl TM.mgC bM .nil pass0 (aa (pe_make MG GI hr15 rfl TG.mgC bI .nil pass0 (aa (ay aA (pv 3) ad (fun _ _=>rfl)) (aa (ay aA (pv 3) ad (fun _ _=>rfl)) (aa (ay aA (pv 3) ad (fun _ _=>rfl)) ae)))) (aa (bq bz rfl B.tuple cb (aa (pe_comp2 (N:=[]) (ix:=[]) (cl:=[]) rfl
   (CompScope.closed (by with_unfolding_all rfl) (by decide) rfl (by decide) rfl (by with_unfolding_all rfl)) rfl (by decide +kernel) rfl
   (pi_zip rfl B.zip (aa (pv 4) (aa (pv 5) ae))) (fun _ _ _=>bL (bu (aa aD (aa (pv 0) (aa (pv 1) ae)))))) ae)) ae))⟩)
  (bj (wt_set (i:=7) sc_law.nd rfl (Or.inl rfl) ⟨ah aX (am C_l_take hr (by decide) rfl (aa (pv 1) (aa (ay aA (pv 3) ad (fun _ _=>rfl)) ae))) (bq call_int1 rfl B.int boot_int' (aa (bH op_gt (aE aB rfl B.len PySem.boot_len (aa (ay aA (pv 3) ad (fun _ _=>rfl)) ae)) ad (aq _)) ae))⟩)
  (bj ⟨ps_comp (i:=8) (N:=["_law_game_here", "_law_feed_here"]) (ix:=[3,1]) sc_law.nd rfl (Or.inl rfl) rfl
   (CompScope.two (by with_unfolding_all rfl) (by decide) rfl (by decide) rfl (by decide +kernel) (by first | exact Or.inl rfl | exact Or.inr rfl) (by with_unfolding_all rfl) (by with_unfolding_all rfl) (by with_unfolding_all rfl) (by with_unfolding_all rfl) rfl rfl (by with_unfolding_all rfl) rfl rfl) rfl
   (bp rfl B.range (aa (aE aB rfl B.len PySem.boot_len (aa (ay aA (pv 3) ad (fun _ _=>rfl)) ae)) ae)) (fun _ _ _=>bL (am C_l_take hr (by decide) rfl (aa (pv 2) (aa (ay (ix_tupK K) (pv 1) ad (fun _ _=>rfl)) ae))))⟩
  (bj ⟨ci PassesOwn.never rfl (pi_enum rfl B.enumerate (ah op_cat (bi (aa (ah aR (aE aB rfl B.len PySem.boot_len (aa (ay aA (pv 3) ad (fun _ _=>rfl)) ae)) ad) ae)) (am C_l_degrees hr (by decide) rfl (aa (pv 3) ae)))) (pg_tup rfl (bD (aS (i:=9) sc_law.nd rfl (Or.inl rfl)) (bD (aS (i:=10) sc_law.nd rfl (Or.inl rfl)) pgs_nil))) (ac (ak (i:=11) sc_law.nd rfl (Or.inl rfl) (ah aX (am C_l_take hr (by decide) rfl (aa (pv 1) (aa (ay aA (pv 3) ad (fun _ _=>rfl)) ae))) (bq call_int1 rfl B.int boot_int' (aa (bH op_gt (pv 9) ad (aq _)) ae))))
   (ac (ak (i:=12) sc_law.nd rfl (Or.inl rfl) (bu (aa (ah aU (pv 10) ad) (aa (pv 11) (aa (ah aX (pv 7) (bq call_int1 rfl B.int boot_int' (aa (bH op_gt (pv 9) ad (aq _)) ae))) (aa (pe_slice sl_list (pv 8) po_none (po_some (aE (call_max2 rfl) rfl B.max PyProof.Rows.boot_max (aa ad (aa (ah aR (pv 9) ad) ae))))) ae))))))
   (ac (aG (pt_not (pt_val (am C_l_numbers hr (by decide) rfl (aa (pe_meth (pv 6) TM.cl mS GS hr bS .nil pass0 (aa (ay aA (pv 12) ad (fun _ _=>rfl)) (aa (ay aA (pv 12) ad (fun _ _=>rfl)) (aa (ay aA (pv 12) ad (fun _ _=>rfl)) (aa (bq call_list_of rfl B.list boot_list' (aa (ay aA (pv 12) ad (fun _ _=>rfl)) ae)) ae))))) (aa (ah op_rep (bi (aa ad ae)) (ay aA (pv 12) ad (fun _ _=>rfl))) ae))))) (af (ao pe_bl)) ax)
   (af (ci PassesOwn.never rfl (pi_zip rfl B.zip (aa (pv 4) (aa (pv 5) ae))) (pg_tup rfl (bD (aS (i:=13) sc_law.nd rfl (Or.inl rfl)) (bD (aS (i:=14) sc_law.nd rfl (Or.inl rfl)) pgs_nil))) (af (aG (pt_not (pt_val (am C_l_right hr (by decide) rfl (aa (pv 14) (aa (pe_meth (pv 6) TM.cl mB GB hr1 bB .nil pass0 (aa (pv 13) ae)) (aa (pv 3) (aa (pv 9) (aa (pv 12) ae)))))))) (af (ao pe_bl)) ax)))))))⟩
  (ws_one (wt_ret ⟨pe_bl⟩))))))) ?cA)))))),?_⟩
 case cA =>
  rintro Dn σ H ⟨a0,f,gh,a,b,N,x2,ns0,ns,tv,ts,p,xs,rfl,hS,h63,F0,G,k,n6,nd,hN,x8,xnd,nf,q⟩
  have p2:=k.p2
  have p9:=k.p9
  have t1:=k.t1
  have t10:=k.t10
  have el:((ns.map V.str).length:Int)=(ns.length:Int):=by rw [List.length_map]
  refine ⟨_,rfl,_,rfl,f,gh,a,b,p,rfl,F0,G.hg,p2,p9,fun TL uv tms H1 TL0 TLf hTL u8 TA tk F1 S1=>?_⟩
  have k1:=aY F0 S1
  have G1:=G.mono k1
  have hN1:=S1 _ _ nf hN
  have m8:tms.length=8:=by rw [← TA.1]; exact u8
  refine ⟨_,rfl,gh,_,0,_,rfl,rfl,SqT.of G1.hg,rfl,_,rfl,gh,_,1,_,rfl,rfl,SqT.of G1.hg,rfl,_,rfl,gh,_,2,_,rfl,rfl,SqT.of G1.hg,rfl,fun g dg hg0 hdg0 ng=>?_⟩
  have K2:Same H1 (upd (upd H1 dg (.own g)) g (.ins CG dg [])):=fun a o e=>by
   rw [au (ne_of_none e hg0),au (ne_of_none e hdg0)]
   exact e
  refine ⟨g,dg,a,b,ns,tv,ts,p,rfl,upd_same,K2 _ _ G1.ha,nd,by omega,K2 _ _ G1.hb,G1.tr.mono (keepT_same K2),t1,by omega,k.tok,k.pr,p2,p9,k.tp,k.tc,fun gd H2 gd0 GA hgd S2=>⟨rfl,?_⟩⟩
  have T12:Same H1 H2:=Same.but K2 hg0 S2
  have gdf:gd ≠ f:=(F1.same K2).ne gd0
  clear K2 S2
  have G2:=G1.mono (keepT_same T12)
  have hN2:=T12 _ _ hN1
  have hTL2:=T12 _ _ hTL
  have TA2:=TA.mono (keepT_same T12)
  let ps:List (Str × Tm):=List.zip xs tms
  have psl:ps.length=8:=by show (List.zip xs tms).length=8; rw [List.length_zip]; omega
  have psa:∀ (j:Nat) (x:Str) (t:Tm),xs[j]?=some x->tms[j]?=some t->ps[j]?=some (x,t):=fun j x t h1 h2=>by
   show (List.zip xs tms)[j]?=_
   rw [List.getElem?_zip_eq_some]
   exact ⟨h1,h2⟩
  have psn:ps.map (·.1)=xs:=by
   show (List.zip xs tms).map (·.1)=xs
   exact List.map_fst_zip (by omega)
  have pst:∀ y ∈ ps,TmK p y.2:=fun y hy=>tk _ (List.of_mem_zip hy).2
  refine ⟨_,rfl,_,rfl,N,TL,true,true,rfl,⟨_,SqL.of hN2⟩,⟨_,SqL.of hTL2⟩,fun D hD=>?_⟩
  refine comp_zip (K:=K) (c:=true) (d:=true) (xs:=xs.map V.str) (ys:=uv) (by rw [List.length_map]; omega) (fun i H'=>∃ rv,H' D=some (.lst rv)/\rv.length=i/\RowsAt H' rv ((ps.take i).map setR)/\Same H2 H') ⟨[],upd_same,rfl,⟨rfl,fun i v r e=>by cases e⟩,Same.new hD _⟩ (fun i H' _ hst=>by obtain ⟨_,_,_,_,h⟩:=hst; exact ⟨SqL.of (h _ _ hN2),SqL.of (h _ _ hTL2)⟩) ?_ ?_
  . rintro i x y t H3 hx hy ⟨rv,hD3,rl,RW,S3⟩ ht
    have hi:=(List.getElem?_eq_some_iff.mp hx).1
    have hi8:i < 8:=by rw [List.length_map] at hi; omega
    rw [List.getElem?_map] at hx
    obtain ⟨x',hx',rfl⟩:=Option.map_eq_some_iff.mp hx
    have htm:tms[i]?=some (tms[i]'(by omega)):=List.getElem?_eq_getElem _
    generalize tms[i]'(by omega)=tm at htm
    have Ty:=TA2.2 i y tm hy htm
    have It:=Same.new ht (.tup [.str x',y])
    generalize upd H3 t (.tup [.str x',y])=H4 at It
    refine ⟨_,rfl,_,rfl,(by show 3<=sizeLine; decide),fun u hu=>?_⟩
    have Iu:=Same.new hu (.tup [.str "set", .str x',y])
    have R4:HrAt (upd H4 u (.tup [.str "set", .str x',y])) (.ref u) (.set x' tm):=.set upd_same (Ty.mono (keepT_same (S3.trans (It.trans Iu))))
    generalize upd H4 u (.tup [.str "set", .str x',y])=H5 at Iu R4
    have hD5:=Iu _ _ (It _ _ hD3)
    have kT:bO H5 (upd H5 D (.lst (rv++[.ref u]))):=da hD5
    refine ⟨_,hD5,aJ (by omega),Nx.of hi ⟨rv++[.ref u],upd_same,by rw [List.length_append,rl]; rfl,?_,fun c o e=>?_⟩⟩
    . rw [List.take_add_one,psa i x' tm hx' htm,List.map_append]
      exact ((RW.mono (keepT_same (It.trans Iu))).mono kT).app (RowsAt.one (R4.mono kT))
    . rw [au (ne_of_none e hD)]
      exact Iu _ _ (It _ _ (S3 _ _ e))
  rintro H3 ⟨rv,hD3,rl,RW,S3⟩
  rw [List.length_map,List.take_of_length_le (by omega)] at RW
  refine ⟨D,_,rfl,.inl ⟨SqL.of hD3,fun h hh=>?_⟩⟩
  have Ih:=Same.new hh (.tup rv)
  have gh3:upd H3 h (.tup rv) h=some (.tup rv):=upd_same
  generalize upd H3 h (.tup rv)=H4 at Ih gh3
  have HL4:HlpAt H4 h (ps.map setR):=⟨⟨rv,gh3,RW.mono (keepT_same Ih)⟩,fun r hr=>by
   obtain ⟨y,hy,rfl⟩:=List.mem_map.mp hr
   exact tmk_good (pst y hy)⟩
  have T14:=T12.trans (S3.trans Ih)
  have T24:=S3.trans Ih
  refine fun M dm hM0 hdm0 nM=>?_
  have K5:Same H4 (upd (upd H4 dm (.own M)) M (.ins CM dm [])):=fun a o e=>by
   rw [au (ne_of_none e hM0),au (ne_of_none e hdm0)]
   exact e
  have g5:upd (upd H4 dm (.own M)) M (.ins CM dm []) M=some (.ins CM dm []):=upd_same
  generalize upd (upd H4 dm (.own M)) M (.ins CM dm [])=H5 at K5 g5
  refine ⟨M,g,h,dm,rfl,g5,fun mb H6 hb0 hM6 hb6 S6=>⟨rfl,?_⟩⟩
  have T46:Same H4 H6:=Same.but K5 hM0 S6
  have T16:=T14.trans T46
  have T26:=T24.trans T46
  have F6:=F1.same T16
  have G6:=G1.mono (keepT_same T16)
  refine ⟨_,rfl,_,rfl,gh,_,2,_,rfl,rfl,SqT.of G6.hg,rfl,f,p,rfl,F6,by omega,by omega,fun s0 H7 s00 s01 F7 S7=>?_⟩
  have k67:=aY F6 S7
  have G7:=G6.mono k67
  have tvl:=G7.tr.length
  refine ⟨_,rfl,gh,_,1,_,rfl,rfl,SqT.of G7.hg,rfl,b,_,rfl,.inr (SqT.of G7.hb),_,_,rfl,rfl,.inr ⟨_,rfl,?_⟩⟩
  refine ⟨_,_,rfl,rfl,.inl ⟨by omega,by omega⟩,?_⟩
  have x01:(if decide (1 < (tv.length:Int))=true then (1:Int) else 0)=0∨(if decide (1 < (tv.length:Int))=true then (1:Int) else 0)=1:=by split <;> simp
  generalize (if decide (1 < (tv.length:Int))=true then (1:Int) else 0)=ex at x01
  have sr:0<=s0*ex/\s0*ex < p:=by
   rcases x01 with rfl | rfl
   . rw [Int.mul_zero]; omega
   . rw [Int.mul_one]; omega
  show tSeq _ _ _ (List.set _ _ (some (.int (s0*ex)))) _
  generalize s0*ex=sv at sr
  refine ⟨_,rfl,gh,_,0,_,rfl,rfl,SqT.of G7.hg,rfl,a,_,rfl,.inr (SqT.of G7.ha),_,rfl,by omega,by omega,fun C hC=>?_⟩
  have Cf:C ≠ f:=F7.ne hC
  refine cj (fun i H'=>∃ cs:List Int,H' C=some (.lst (cs.map V.int))/\cs.length=i/\PtOk cs p/\FeedAt H' f/\SameBut f H7 H') ⟨[],by rw [upd_same]; rfl,rfl,(fun x hx=>by cases hx),F7.same (Same.new hC _),SameBut.of (Same.new hC _)⟩ ?_ ?_
  . rintro i H8 hi ⟨cs,hc,cl,co,F8,S8⟩
    have hi':i < ns.length:=by rw [el] at hi; omega
    have hg8:=S8 _ _ (ne_feed F7 G7.hg (by intro ys z; cases z)) G7.hg
    refine ⟨_,rfl,_,rfl,gh,_,2,_,rfl,rfl,SqT.of hg8,rfl,f,p,rfl,F8,by omega,by omega,fun r H9 r0 r1 F9 S9=>?_⟩
    refine ⟨_,S9 _ _ Cf hc,aJ (by rw [List.length_map]; omega),Nx.of hi ⟨cs++[r],by rw [upd_same,List.map_append]; rfl,by rw [List.length_append,cl]; rfl,(fun x hx=>by
     rcases List.mem_append.mp hx with h | h
     . exact co x h
     . rw [List.mem_singleton.mp h]; exact ⟨r0,r1⟩),feed_lst F9 Cf,fun c o n e=>?_⟩⟩
    rw [au (ne_of_none e hC)]
    exact S9 _ _ n (S8 _ _ n e)
  rintro H8 ⟨cs,hC8,cl,co,F8,S8⟩
  have cl':cs.length=ns.length:=by rw [cl,el]; omega
  have S68:=S7.trans S8
  have k68:=aY F6 S68
  have ST8:S36 CG H8 f gh g h N TL C ns ts p (ps.map setR) xs uv tms cs:=by
   refine ⟨⟨a,b,tv,G6.mono k68⟩,⟨a,b,gd,tv,?_,k68 _ _ G6.ha,k68 _ _ G6.hb,G6.tr.mono k68,S68 _ _ gdf (T26 _ _ hgd),gdf⟩,(HL4.mono (keepT_same T46)).mono k68,S68 _ _ nf (T26 _ _ hN2),nf,S68 _ _ TLf (T26 _ _ hTL2),TLf,(TA2.mono (keepT_same T26)).mono k68,hC8,Cf⟩
   obtain ⟨dx,e⟩:=GA
   have e6:=T26 _ _ e
   exact ⟨dx,S68 _ _ (ne_feed F6 e6 (by intro ys z; cases z)) e6⟩
  have hM8:=S68 _ _ (ne_feed F6 hM6 (by intro ys z; cases z)) hM6
  have hb8:=S68 _ _ (ne_feed F6 hb6 (by intro ys z; cases z)) hb6
  have G8:=G6.mono k68
  clear S68 k68 T26 T16 T46 T24 T14 S3 K5 S6 G6 G7 k67 S7 F7 hM6 hb6 hC8 TA TA2 hTL hTL2 hN1 hN2 GA hgd RW HL4 gh3
  refine ⟨_,rfl,gh,_,1,_,rfl,rfl,SqT.of G8.hg,rfl,b,_,rfl,.inr (SqT.of G8.hb),_,_,rfl,rfl,(by show 1<=sizeLine; decide),fun l1 hl1=>?_⟩
  rw [tvl]
  have I9:=Same.new hl1 (.lst [.int ((ts.length:Int) - 1)])
  have g9:upd H8 l1 (.lst [.int ((ts.length:Int) - 1)]) l1=some (.lst [.int ((ts.length:Int) - 1)]):=upd_same
  show tCall _ _ _ _ _ (upd H8 l1 (.lst [.int ((ts.length:Int) - 1)])) _
  generalize upd H8 l1 (.lst [.int ((ts.length:Int) - 1)])=H9 at I9 g9
  refine ⟨_,rfl,gh,a,b,ns,tv,ts,p,rfl,G8.mono (keepT_same I9),k,fun l2 H10 l20 S10 hl2=>?_⟩
  refine ⟨l1,l2,_,_,rfl,rfl,S10 _ _ g9,hl2,bv (by rw [List.length_map,List.length_map]; show 1+ns.length<=1000; omega),fun l hl=>?_⟩
  have Il:=Same.new hl (.lst ([V.int ((ts.length:Int) - 1)]++(ns.map (aZ ts)).map V.int))
  have gl:upd H10 l (.lst ([V.int ((ts.length:Int) - 1)]++(ns.map (aZ ts)).map V.int)) l=some (.lst ((((ts.length:Int) - 1)::ns.map (aZ ts)).map V.int)):=upd_same
  have T8l:=I9.trans (S10.trans Il)
  have lf:l ≠ f:=(F8.same (I9.trans S10)).ne hl
  generalize upd H10 l (.lst ([V.int ((ts.length:Int) - 1)]++(ns.map (aZ ts)).map V.int))=H11 at Il gl T8l
  refine ⟨l,rfl,⟨_,SqL.of gl⟩,for_enum (K:=K) (xs:=(((ts.length:Int) - 1)::ns.map (aZ ts)).map V.int) (fun i σ H'=>∃ (z9 z10 z11 z12 z13 z14:Option V) (bx:Str->Int),σ=[some (.ref a0),some (.ref f),x2,some (.ref gh),some (.ref N),some (.ref TL),some (.ref M),some (.int sv),some (.ref C),z9,z10,z11,z12,z13,z14]/\FeedAt H' f/\S36 CG H' f gh g h N TL C ns ts p (ps.map setR) xs uv tms cs/\H' M=some (.ins CM dm (ml g h (i:Int) mb))/\BxAt H' mb bx (200*i)/\BxOk p bx/\H' l=some (.lst ((((ts.length:Int) - 1)::ns.map (aZ ts)).map V.int)))
   ⟨_,_,_,_,_,_,fun _=>0,rfl,F8.same T8l,ST8.same T8l,T8l _ _ hM8,⟨[],T8l _ _ hb8,Nat.le_refl _,fun x=>rfl⟩,(fun x=>⟨Int.le_refl 0,by show (0:Int) < p; omega⟩),gl⟩ (fun i σ H' _ hst=>by obtain ⟨_,_,_,_,_,_,_,_,_,_,_,_,_,h⟩:=hst; exact SqL.of h) ?_ ?_⟩
  . rintro i y σ H12 t3 hy ⟨z9,z10,z11,z12,z13,z14,bx,rfl,F12,ST,hM,BX,bo,hl12⟩ ht3
    have hi:=(List.getElem?_eq_some_iff.mp hy).1
    rw [List.length_map,List.length_cons,List.length_map] at hi
    rw [List.getElem?_map] at hy
    obtain ⟨dv,hdv,rfl⟩:=Option.map_eq_some_iff.mp hy
    have dr:0<=dv/\dv<=400:=by
     cases i with
     | zero=>cases hdv; omega
     | succ i =>
       rw [List.getElem?_cons_succ,List.getElem?_map] at hdv
       obtain ⟨x,_,rfl⟩:=Option.map_eq_some_iff.mp hdv
       exact deg_400 k x
    have I13:=Same.new ht3 (.tup [.int (i:Int),.int dv])
    have g13:upd H12 t3 (.tup [.int (i:Int),.int dv]) t3=some (.tup [.int (i:Int),.int dv]):=upd_same
    generalize upd H12 t3 (.tup [.int (i:Int),.int dv])=H13 at I13 g13
    have F13:=F12.same I13
    have ST13:=ST.same I13
    refine ⟨t3,_,rfl,SqT.of g13,rfl,_,_,rfl,_,_,rfl,rfl,?_⟩
    obtain ⟨ga,gb,gtv,GT⟩:=ST13.gt
    refine ⟨_,rfl,_,rfl,gh,_,2,_,rfl,rfl,SqT.of GT.hg,rfl,f,p,rfl,F13,by omega,by omega,fun d1 H14 d10 d11 F14 S14=>?_⟩
    have ST14:=ST13.feed F13 S14
    have hM14:=S14 _ _ (ne_feed F13 (I13 _ _ hM) (by intro ys z; cases z)) (I13 _ _ hM)
    have BX14:BxAt H14 mb bx (200*i):=by
     obtain ⟨kvs,eb,_⟩:=id BX
     exact BX.keep fun o e=>S14 _ _ (ne_feed F13 (I13 _ _ eb) (by intro ys z; cases z)) (I13 _ _ e)
    have hl14:=S14 _ _ lf (I13 _ _ hl12)
    refine ⟨_,rfl,_,_,rfl,rfl,.inr ⟨_,rfl,?_⟩⟩
    have e01:∃ e:Int,(if decide (0 < (i:Int))=true then (1:Int) else 0)=e/\(e=0∨e=1)/\(i=0->e=0):=⟨_,rfl,by split <;> simp,fun h=>by subst h; rfl⟩
    obtain ⟨e,ee,e01,e0⟩:=e01
    show rI CMul _ (.int d1) (.int (if decide (0 < (i:Int))=true then (1:Int) else 0)) _ _
    rw [ee]
    refine ⟨_,_,rfl,rfl,.inl ⟨by omega,by omega⟩,?_⟩
    have dur:0<=d1*e/\d1*e < p:=by
     rcases e01 with rfl | rfl
     . rw [Int.mul_zero]; omega
     . rw [Int.mul_one]; omega
    have sur:0<=sv*e/\sv*e < p:=by
     rcases e01 with rfl | rfl
     . rw [Int.mul_zero]; omega
     . rw [Int.mul_one]; omega
    refine ⟨_,rfl,_,_,rfl,rfl,_,rfl,_,rfl,_,rfl,_,_,rfl,rfl,.inr ⟨_,rfl,?_⟩⟩
    show rI CMul _ (.int sv) (.int (if decide (0 < (i:Int))=true then (1:Int) else 0)) _ _
    rw [ee]
    refine ⟨_,_,rfl,rfl,.inl ⟨by omega,by omega⟩,?_⟩
    refine ⟨_,rfl,_,rfl,_,_,rfl,rfl,_,_,rfl,_,rfl,C,_,rfl,SqL.of ST14.co,fun c hc=>⟨(by show 4<=sizeLine; decide),fun t ht=>?_⟩⟩
    have em:(if ((i:Int) - 1) > 0 then ((i:Int) - 1) else 0)=((i - 1:Nat):Int):=by split <;> omega
    rw [em,cut_to (by rw [List.length_map]; omega),← List.map_take] at ht ⊢
    have I15:=Same.new hc (.lst ((cs.take (i - 1)).map V.int))
    have I16:=Same.new ht (.tup [.int (dv+1),.int (d1*e),.int (sv*e),.ref c])
    have J16:=I15.trans I16
    have gt16:upd (upd H14 c (.lst ((cs.take (i - 1)).map V.int))) t (.tup [.int (dv+1),.int (d1*e),.int (sv*e),.ref c]) t=some (.tup [.int (dv+1),.int (d1*e),.int (sv*e),.ref c]):=upd_same
    have gc16:upd (upd H14 c (.lst ((cs.take (i - 1)).map V.int))) t (.tup [.int (dv+1),.int (d1*e),.int (sv*e),.ref c]) c=some (.lst ((cs.take (i - 1)).map V.int)):=I16 _ _ upd_same
    have cf:c ≠ f:=F14.ne hc
    show tSeq _ _ _ _ (upd (upd H14 c (.lst ((cs.take (i - 1)).map V.int))) t (.tup [.int (dv+1),.int (d1*e),.int (sv*e),.ref c]))
    generalize upd (upd H14 c (.lst ((cs.take (i - 1)).map V.int))) t (.tup [.int (dv+1),.int (d1*e),.int (sv*e),.ref c])=H16 at J16 gt16 gc16
    have ST16:=ST14.same J16
    have hM16:=J16 _ _ hM14
    have BX16:=BX14.keep fun o e=>J16 _ _ e
    obtain ⟨z,ez⟩:∃ z:Ak,z=⟨ns,ts,p,(i:Int),dv+1,d1*e,sv*e,cs.take (i - 1)⟩:=⟨_,rfl⟩
    have tl1:(cs.take (i - 1)).length=i - 1:=by rw [List.length_take]; omega
    have zok:AkOk z:=by
     subst ez
     exact ⟨k,n6,by show 0<=(i:Int); omega,(fun h=>by have h':0 < (i:Int):=h; show (cs.take (i - 1)).length < ns.length; omega),(fun x hx=>co x (List.mem_of_mem_take hx)),sur.1,sur.2,dur.1,dur.2,by show (cs.take (i - 1)).length<=100; omega⟩
    have z0:z.nr=0->z.s=0/\z.to=[]:=by
     subst ez
     intro h
     have i0:i=0:=by have:(i:Int)=0:=h; omega
     subst i0
     exact ⟨by show sv*e=0; rw [e0 rfl,Int.mul_zero],rfl⟩
    obtain ⟨⟨rv,hh,RW⟩,rg⟩:=id ST16.hl
    have zmn:z.mn=dv+1:=by rw [ez]
    refine ⟨_,rfl,M,dm,_,rfl,hM16,ml_n2,_,rfl,t,_,0,_,rfl,rfl,SqT.of gt16,rfl,_,rfl,t,_,1,_,rfl,rfl,SqT.of gt16,rfl,_,rfl,t,_,2,_,rfl,rfl,SqT.of gt16,rfl,_,rfl,t,_,3,_,rfl,rfl,SqT.of gt16,rfl,c,_,rfl,.inl (SqL.of gc16),fun l0 hl0=>?_⟩
    have I17:=Same.new hl0 (.lst ((cs.take (i - 1)).map V.int))
    have ST17:=ST16.same I17
    refine ⟨M,g,h,mb,dm,l0,rv,z,ps.map setR,bx,200*i,(by rw [ez]; rfl),by rw [ez]; exact I17 _ _ hM16,I17 _ _ hh,RW.mono (keepT_same I17),rg,BX16.keep (fun o e=>I17 _ _ e),by rw [ez]; exact bo,by omega,by rw [ez]; exact ST17.g,zok,.inl (by rw [ez]; exact upd_same),by omega,by omega,fun o1 H18 o10 ho1 BX18 hM18 S18=>?_⟩
    have hM17:=I17 _ _ hM16
    have kp18:=S18.kp hM17 (BX16.keep fun o e=>I17 _ _ e)
    have ST18:=ST17.kp kp18
    have rs:=run_sets (z:=z) (ps:=ps) (by omega) 8 0 200 bx (by omega) (by omega) (by omega)
    rw [List.drop_zero] at rs
    have rs':runM z (ps.map setR) 200 ⟨0,bx,[]⟩=⟨(ps.length:Int),setB z ps bx,[]⟩:=rs
    rw [rs'] at ho1 BX18
    have bo18:BxOk p (setB z ps bx):=by
     have:=(runM_ok (rows:=ps.map setR) zok 200 ⟨0,bx,[]⟩ (by rw [ez]; exact bo) (fun x hx=>by cases hx) (by show (0:Int)<=z.mn; omega)).1
     rw [rs'] at this
     rw [ez] at this ⊢
     exact this
    have ho1':H18 o1=some (.lst ((List.replicate (dv+1).toNat (0:Int)).map V.int)):=by
     rw [ho1,zmn]
     unfold outM
     rw [List.nil_append]
     show _=some (HO.lst ((List.replicate (dv+1).toNat (0:Int)).map V.int))
     rw [show dv+1 - (([]:List Int).length:Int)=dv+1 by show dv+1 - 0=dv+1; omega]
    have F18:FeedAt H18 f:=by
     obtain ⟨u,tt,eu,r⟩:=F14
     exact ⟨u,tt,kp18 _ (.lst _) trivial (I17 _ _ (J16 _ _ eu)),r⟩
    have gt18:=kp18 _ (.tup _) trivial (I17 _ _ gt16)
    have gc18:=kp18 _ (.lst _) trivial (I17 _ _ gc16)
    have hl18:=kp18 _ (.lst _) trivial (I17 _ _ (J16 _ _ hl14))
    refine ⟨(by show 1<=sizeLine; decide),fun u hu=>?_⟩
    have I19:=Same.new hu (.lst [.int 0])
    have g19:upd H18 u (.lst [.int 0]) u=some (.lst [.int 0]):=upd_same
    generalize upd H18 u (.lst [.int 0])=H19 at I19 g19
    refine ⟨_,rfl,t,_,0,_,rfl,rfl,SqT.of (I19 _ _ gt18),rfl,u,_,_,rfl,rfl,g19,by omega,by omega,bv (by show 1*(dv+1).toNat<=1000; omega),fun y hy=>?_⟩
    have I20:=Same.new hy (.lst (List.replicate (dv+1).toNat [V.int 0]).flatten)
    have g20:upd H19 y (.lst (List.replicate (dv+1).toNat [V.int 0]).flatten) y=some (.lst ((List.replicate (dv+1).toNat (0:Int)).map V.int)):=by rw [upd_same,rep_flat,List.map_replicate]
    generalize upd H19 y (.lst (List.replicate (dv+1).toNat [V.int 0]).flatten)=H20 at I20 g20
    have J20:=I19.trans I20
    refine ⟨o1,y,_,rfl,J20 _ _ ho1',g20,fun H21 S21=>⟨_,rfl,iteF ?_⟩⟩
    have J21:=J20.trans S21
    have ST21:=ST18.same J21
    have F21:=F18.same J21
    have hM21:=J21 _ _ hM18
    have BX21:=BX18.keep fun o e=>J21 _ _ e
    have gt21:=J21 _ _ gt18
    have gc21:=J21 _ _ gc18
    have hl21:=J21 _ _ hl18
    refine ⟨_,rfl,_,rfl,N,TL,true,true,rfl,⟨_,SqL.of ST21.nm⟩,⟨_,SqL.of ST21.tl⟩,for_zip (K:=K) (c:=true) (d:=true) (xs:=xs.map V.str) (ys:=uv) (by rw [List.length_map]; omega) (fun j σ H'=>∃ (y13 y14:Option V),σ=[some (.ref a0),some (.ref f),x2,some (.ref gh),some (.ref N),some (.ref TL),some (.ref M),some (.int sv),some (.ref C),some (.int (i:Int)),some (.int dv),some (.int (d1*e)),some (.ref t),y13,y14]/\Same H21 H')
     ⟨_,_,rfl,Same.refl _⟩ (fun j σ H' _ hst=>by obtain ⟨_,_,_,h⟩:=hst; exact ⟨SqL.of (h _ _ ST21.nm),SqL.of (h _ _ ST21.tl)⟩) ?_ ?_⟩
    . rintro j x y' σ H22 t4 hx hy' ⟨y13,y14,rfl,S22⟩ ht4
      have hj:=(List.getElem?_eq_some_iff.mp hx).1
      rw [List.length_map] at hj
      rw [List.getElem?_map] at hx
      obtain ⟨x',hx',rfl⟩:=Option.map_eq_some_iff.mp hx
      have htm:tms[j]?=some (tms[j]'(by omega)):=List.getElem?_eq_getElem _
      generalize tms[j]'(by omega)=tm at htm
      have pj:=psa j x' tm hx' htm
      have pm:=List.mem_of_getElem? pj
      have It:=Same.new ht4 (.tup [.str x',y'])
      have g4:upd H22 t4 (.tup [.str x',y']) t4=some (.tup [.str x',y']):=upd_same
      generalize upd H22 t4 (.tup [.str x',y'])=H23 at It g4
      have J23:=S22.trans It
      have ST23:=ST21.same J23
      have Ty:=ST23.ta.2 j y' tm hy' htm
      obtain ⟨ga3,gb3,tv3,GT3⟩:=ST23.gt
      have bw:setB z ps bx x'=tm.worth z bx:=setB_get ps bx (by rw [psn]; exact xnd) pst (x',tm) pm
      refine ⟨t4,_,rfl,SqT.of g4,rfl,_,_,rfl,_,_,rfl,rfl,?_⟩
      refine ⟨_,rfl,_,rfl,M,dm,_,rfl,J23 _ _ hM21,ml_n3,_,rfl,M,g,h,mb,dm,_,x',setB z ps bx,_,rfl,J23 _ _ hM21,BX21.keep (fun o e=>J23 _ _ e),?_⟩
      refine ⟨_,rfl,_,rfl,_,rfl,y',tm,gh,ga3,gb3,t,c,tv3,z,bx,(by rw [bw,ez]; rfl),Ty,by rw [ez]; exact pst _ pm,by rw [ez]; exact GT3,by rw [ez]; exact nd,zok,by rw [ez]; exact bo,z0,by rw [ez]; exact J23 _ _ gt21,by rw [ez]; exact J23 _ _ gc21,fun H24 S24=>⟨_,rfl,iteF ?_⟩⟩
      exact ⟨_,_,rfl,J23.trans S24⟩
    . rintro σ H22 ⟨y13,y14,rfl,S22⟩
      refine ⟨_,_,_,_,_,_,setB z ps bx,rfl,F21.same S22,ST21.same S22,?_,(BX21.keep fun o e=>S22 _ _ e).le (by omega),bo18,S22 _ _ hl21⟩
      have e9:z.nr+1=((i+1:Nat):Int):=by rw [ez]; show (i:Int)+1=_; omega
      rw [← e9]
      exact S22 _ _ hM21
  . rintro σ H12 ⟨z9,z10,z11,z12,z13,z14,bx,rfl,F12,ST,hM,BX,bo,hl12⟩
    exact q _
 refine ⟨_,rfl,a0,ns0,3,rfl,hS,h63,by decide,by decide,fun f H1 f0 S1 F1=>?_⟩
 have s2:2<=sizeLine:=by decide
 refine ⟨s2,fun w1 hw1=>⟨s2,fun w2 hw2=>⟨s2,fun w3 hw3=>⟨s2,fun w4 hw4=>⟨(by show 4<=sizeLine; decide),fun W hW=>?_⟩⟩⟩⟩⟩
 have J1:=Same.new hw1 (.tup [.int 3,.int 6])
 have J2:=Same.new hw2 (.tup [.int 3,.int 6])
 have J3:=Same.new hw3 (.tup [.int 3,.int 6])
 have J4:=Same.new hw4 (.tup [.int 6,.int 3])
 have JW:=Same.new hW (.lst [.ref w1,.ref w2,.ref w3,.ref w4])
 have JJ:=J1.trans (J2.trans (J3.trans (J4.trans JW)))
 have Wf:W ≠ f:=fun z=>by
  obtain ⟨u,t,e,_⟩:=F1
  rw [← z] at e
  have:=J4 _ _ (J3 _ _ (J2 _ _ (J1 _ _ e)))
  rw [this] at hW
  cases hW
 have gW:=upd_same (H:=upd (upd (upd (upd H1 w1 (.tup [.int 3,.int 6])) w2 (.tup [.int 3,.int 6])) w3 (.tup [.int 3,.int 6])) w4 (.tup [.int 6,.int 3])) (a:=W) (o:=.lst [.ref w1,.ref w2,.ref w3,.ref w4])
 have e1:=JW _ _ (J4 _ _ (J3 _ _ (J2 _ _ (upd_same (H:=H1) (a:=w1) (o:=.tup [.int 3,.int 6])))))
 have e2:=JW _ _ (J4 _ _ (J3 _ _ (upd_same (H:=upd H1 w1 (.tup [.int 3,.int 6])) (a:=w2) (o:=.tup [.int 3,.int 6]))))
 have e3:=JW _ _ (J4 _ _ (upd_same (H:=upd (upd H1 w1 (.tup [.int 3,.int 6])) w2 (.tup [.int 3,.int 6])) (a:=w3) (o:=.tup [.int 3,.int 6])))
 have e4:=JW _ _ (upd_same (H:=upd (upd (upd H1 w1 (.tup [.int 3,.int 6])) w2 (.tup [.int 3,.int 6])) w3 (.tup [.int 3,.int 6])) (a:=w4) (o:=.tup [.int 6,.int 3]))
 generalize upd (upd (upd (upd (upd H1 w1 (.tup [.int 3,.int 6])) w2 (.tup [.int 3,.int 6])) w3 (.tup [.int 3,.int 6])) w4 (.tup [.int 6,.int 3])) W (.lst [.ref w1,.ref w2,.ref w3,.ref w4])=H2 at JJ gW e1 e2 e3 e4
 have F2:=F1.same JJ
 refine ⟨_,rfl,f,4,rfl,F2,by decide,by decide,fun d H3 d0 d1 F3 S3=>?_⟩
 have k23:=aY F2 S3
 obtain ⟨wa,m,r,hat,hwa,mr⟩:∃ (wa:Addr) (m r:Int),atI [V.ref w1,.ref w2,.ref w3,.ref w4] d=some (.ref wa)/\H3 wa=some (.tup [.int m,.int r])/\0<=m/\m<=6/\1<=r/\r<=30:=by
  have:d=0∨d=1∨d=2∨d=3:=by omega
  rcases this with h | h | h | h <;> subst h
  . exact ⟨w1,3,6,rfl,k23 _ _ e1,by decide⟩
  . exact ⟨w2,3,6,rfl,k23 _ _ e2,by decide⟩
  . exact ⟨w3,3,6,rfl,k23 _ _ e3,by decide⟩
  . exact ⟨w4,6,3,rfl,k23 _ _ e4,by decide⟩
 refine ⟨W,_,_,.ref wa,rfl,rfl,SqL.of (S3 _ _ Wf gW),hat,?_⟩
 have T3:Same H H3:=Same.but (S1.trans JJ) f0 S3
 refine ⟨_,rfl,a0,ns0,1,rfl,T3.seq hS,h63,by decide,by decide,fun f1 H4 f10 S4 F4=>?_⟩
 have hwa4:=S4 _ _ hwa
 refine ⟨_,rfl,wa,_,0,_,rfl,rfl,SqT.of hwa4,rfl,_,rfl,wa,_,1,_,rfl,rfl,SqT.of hwa4,rfl,f1,m,r,rfl,F4,mr.1,mr.2.1,mr.2.2.1,mr.2.2.2,fun gh a b ns tv ts p H5 hdr ha nl snok nd hb TS tl1 tl4 tok pp p3 p9 tp tc F5 S5=>?_⟩
 have T35:Same H3 H5:=Same.but S4 f10 S5
 have k:GmK ns ts p:=⟨pp,p3,p9,by omega,tl1,by omega,fun t ht=>⟨(tok t ht).1,Tr.ok_wf snok t (tok t ht).1,by have:=(tok t ht).2.1; omega,by have:=(tok t ht).2.2; omega⟩,tp,tc⟩
 have G5:GmT H5 gh a b ns tv ts p:=⟨hdr,ha,hb,TS⟩
 have F35:=F3.same T35
 have T5:=T3.trans T35
 refine ⟨_,rfl,a0,ns0,2,rfl,T5.seq hS,h63,by decide,by decide,fun f2 H6 f20 S6 F6=>?_⟩
 refine ⟨f2,8,rfl,F6,by decide,by decide,fun N xs H7 N0 nf2 hN xlen xok xnd xq F7 S7=>?_⟩
 have T57:Same H5 H7:=Same.but S6 f20 S7
 have T7:=T5.trans T57
 have G7:=G5.mono (keepT_same T57)
 have F57:=F35.same T57
 have nf:N ≠ f:=(F35.same S6).ne N0
 have x8:xs.length=8:=xlen
 have n6:ns.length<=6:=by omega
 have hx0:xs[0]?=some (xs[0]'(by omega)):=List.getElem?_eq_getElem _
 generalize xs[0]'(by omega)=x0 at hx0
 have at0x:atI (xs.map V.str) 0=some (.str x0):=cn (j:=0) (by rw [List.getElem?_map,hx0]; rfl)
 have x20:=(xok x0 (List.mem_of_getElem? hx0)).1
 refine ⟨_,rfl,N,_,0,.str x0,rfl,rfl,SqL.of hN,at0x,x0,rfl,bv (by omega),_,_,rfl,rfl,_,rfl,?_⟩
 refine ite2 (fun _=>?_) (fun _=>?_)
 . refine ⟨_,rfl,a0,ns0,6,rfl,T7.seq hS,h63,by decide,by decide,fun f6 H8 f60 S8 F8=>?_⟩
   refine ⟨f6,3,rfl,F8,by decide,by decide,fun d H9 d0 d1 F9 S9=>⟨_,_,rfl,rfl,_,rfl,?_⟩⟩
   have T79:Same H7 H9:=Same.but S8 f60 S9
   have hN9:=T79 _ _ hN
   refine ite2 (fun _=>?_) (fun _=>?_)
   . refine ⟨_,rfl,N,_,0,.str x0,rfl,rfl,SqL.of hN9,at0x,x0,_,rfl,rfl,bv (by show x0.length+1<=1000; omega),?_⟩
     refine ⟨_,rfl,N,_,_,1,rfl,rfl,hN9,(by unfold ixN; rw [if_pos (by decide),if_pos (by rw [List.length_map]; omega)]; rfl),?_⟩
     have kT:bO H9 (upd H9 N (.lst ((xs.map V.str).set 1 (.str (x0 ++ "q"))))):=da hN9
     have F10:FeedAt (upd H9 N (.lst ((xs.map V.str).set 1 (.str (x0 ++ "q"))))) f:=feed_lst (F57.same T79) nf
     have N00:H N=none:=(T5.trans S6).free N0
     have S10:Same H (upd H9 N (.lst ((xs.map V.str).set 1 (.str (x0 ++ "q"))))):=fun c o e=>by
      rw [au (ne_of_none e N00)]
      exact T79 _ _ (T7 _ _ e)
     exact ⟨a0,f,gh,a,b,N,_,ns0,ns,tv,ts,p,xs.set 1 (x0 ++ "q"),rfl,S10.seq hS,h63,F10,(G7.mono (keepT_same T79)).mono kT,k,n6,nd,by rw [upd_same,List.map_set],by rw [List.length_set]; exact x8,nd_set xnd (xq x0 hx0),nf,q⟩
   . exact ⟨a0,f,gh,a,b,N,_,ns0,ns,tv,ts,p,xs,rfl,(T7.trans T79).seq hS,h63,F57.same T79,G7.mono (keepT_same T79),k,n6,nd,hN9,x8,xnd,nf,q⟩
 . exact ⟨a0,f,gh,a,b,N,_,ns0,ns,tv,ts,p,xs,rfl,T7.seq hS,h63,F57,G7,k,n6,nd,hN,x8,xnd,nf,q⟩
end
end
theorem all_mk {l:PySem.W.OpenLaw} {w:World} {K:W.Frag} {h:Heap} {mg:Str->Option Value} {fa f0 f1 f2 f3 f4 f5 f6 f7 f8 f9 f10 f11 f12 f13 f14 f15 f16 f17 f18 f19 f20 f21 f22 f23 f24 f25 f26 f27 f28 f29 f30 f31 f32 f33 f34 f35 f36 f37 f38 f39 f40 f41 f42 f43 f44 f45:Addr} (X:K.In h) (G:h.Ns mainGlobals mg) (hfa:mg "law" = some (.ref fa))
 {od0 an0 od1 an1 od2 an2 od3 an3 od4 an4 od5 an5 od6 an6 od7 an7 od8 an8 od9 an9 od10 an10 od11 an11 od12 an12 od13 an13 od14 an14 od15 an15 od16 an16 od17 an17 od18 an18 od19 an19 od20 an20 od21 an21 od22 an22 od23 an23 od24 an24 od25 an25 od26 an26 od27 an27 od28 an28 od29 an29 od30 an30 od31 an31 od32 an32 od33 an33 od34 an34 od35 an35 od36 an36 od37 an37 od38 an38 od39 an39 od40 an40 od41 an41 od42 an42 od43 an43 od44 an44 od45 an45:Option Addr} {sl0 sl1 sl2 sl3 sl4 sl5 sl6 sl7 sl8 sl9 sl10 sl11 sl12 sl13 sl14 sl15 sl16 sl17 sl18 sl19 sl20 sl21 sl22 sl23 sl24 sl25 sl26 sl27 sl28 sl29 sl30 sl31 sl32 sl33 sl34 sl35 sl36 sl37 sl38 sl39 sl40 sl41 sl42 sl43 sl44 sl45:Array (Option Value)} {oc0 kV0 dc0 pm0 cd0 ct0 oc1 kV1 dc1 pm1 cd1 ct1 oc2 kV2 dc2 pm2 cd2 ct2 oc3 kV3 dc3 pm3 cd3 ct3 oc4 kV4 dc4 pm4 cd4 ct4 oc5 kV5 dc5 pm5 cd5 ct5 oc6 kV6 dc6 pm6 cd6 ct6 oc7 kV7 dc7 pm7 cd7 ct7 oc8 kV8 dc8 pm8 cd8 ct8 oc9 kV9 dc9 pm9 cd9 ct9 oc10 kV10 dc10 pm10 cd10 ct10 oc11 kV11 dc11 pm11 cd11 ct11 oc12 kV12 dc12 pm12 cd12 ct12 oc13 kV13 dc13 pm13 cd13 ct13 oc14 kV14 dc14 pm14 cd14 ct14 oc15 kV15 dc15 pm15 cd15 ct15 oc16 kV16 dc16 pm16 cd16 ct16 oc17 kV17 dc17 pm17 cd17 ct17 oc18 kV18 dc18 pm18 cd18 ct18 oc19 kV19 dc19 pm19 cd19 ct19 oc20 kV20 dc20 pm20 cd20 ct20 oc21 kV21 dc21 pm21 cd21 ct21 oc22 kV22 dc22 pm22 cd22 ct22 oc23 kV23 dc23 pm23 cd23 ct23 oc24 kV24 dc24 pm24 cd24 ct24 oc25 kV25 dc25 pm25 cd25 ct25 oc26 kV26 dc26 pm26 cd26 ct26 oc27 kV27 dc27 pm27 cd27 ct27 oc28 kV28 dc28 pm28 cd28 ct28 oc29 kV29 dc29 pm29 cd29 ct29 oc30 kV30 dc30 pm30 cd30 ct30 oc31 kV31 dc31 pm31 cd31 ct31 oc32 kV32 dc32 pm32 cd32 ct32 oc33 kV33 dc33 pm33 cd33 ct33 oc34 kV34 dc34 pm34 cd34 ct34 oc35 kV35 dc35 pm35 cd35 ct35 oc36 kV36 dc36 pm36 cd36 ct36 oc37 kV37 dc37 pm37 cd37 ct37 oc38 kV38 dc38 pm38 cd38 ct38 oc39 kV39 dc39 pm39 cd39 ct39 oc40 kV40 dc40 pm40 cd40 ct40 oc41 kV41 dc41 pm41 cd41 ct41 oc42 kV42 dc42 pm42 cd42 ct42 oc43 kV43 dc43 pm43 cd43 ct43 oc44 kV44 dc44 pm44 cd44 ct44 oc45 kV45 dc45 pm45 cd45 ct45:Value}
 (a0:W.nsIn K mainGlobals "is_field" = some (some (.ref f0))) (l0:K.lookup f0=some ⟨oc0,od0,.func (W.fnOf "is_field" "is_field" (az s_is_field) (av s_is_field) (ag s_is_field) .none kV0 dc0 pm0 an0 cd0 ct0),sl0⟩) (c0:W.codeIn K cd0 "is_field" = true) (k0:W.keepIn K (.ref f0)=true)
 (a1:W.nsIn K mainGlobals "inverse_of" = some (some (.ref f1))) (l1:K.lookup f1=some ⟨oc1,od1,.func (W.fnOf "inverse_of" "inverse_of" (az cG) (av cG) (ag cG) .none kV1 dc1 pm1 an1 cd1 ct1),sl1⟩) (c1:W.codeIn K cd1 "inverse_of" = true) (k1:W.keepIn K (.ref f1)=true)
 (a2:W.nsIn K mainGlobals "value_at" = some (some (.ref f2))) (l2:K.lookup f2=some ⟨oc2,od2,.func (W.fnOf "value_at" "value_at" (az s_value_at) (av s_value_at) (ag s_value_at) .none kV2 dc2 pm2 an2 cd2 ct2),sl2⟩) (c2:W.codeIn K cd2 "value_at" = true) (k2:W.keepIn K (.ref f2)=true)
 (a3:W.nsIn K mainGlobals "value_behind" = some (some (.ref f3))) (l3:K.lookup f3=some ⟨oc3,od3,.func (W.fnOf "value_behind" "value_behind" (az bV) (av bV) (ag bV) .none kV3 dc3 pm3 an3 cd3 ct3),sl3⟩) (c3:W.codeIn K cd3 "value_behind" = true) (k3:W.keepIn K (.ref f3)=true)
 (a4:W.nsIn K mainGlobals "products" = some (some (.ref f4))) (l4:K.lookup f4=some ⟨oc4,od4,.func (W.fnOf "products" "products" (az s_products) (av s_products) (ag s_products) .none kV4 dc4 pm4 an4 cd4 ct4),sl4⟩) (c4:W.codeIn K cd4 "products" = true) (k4:W.keepIn K (.ref f4)=true)
 (a5:W.nsIn K mainGlobals "inverse_factorials" = some (some (.ref f5))) (l5:K.lookup f5=some ⟨oc5,od5,.func (W.fnOf "inverse_factorials" "inverse_factorials" (az bh) (av bh) (ag bh) .none kV5 dc5 pm5 an5 cd5 ct5),sl5⟩) (c5:W.codeIn K cd5 "inverse_factorials" = true) (k5:W.keepIn K (.ref f5)=true)
 (a6:W.nsIn K mainGlobals "all_settings" = some (some (.ref f6))) (l6:K.lookup f6=some ⟨oc6,od6,.func (W.fnOf "all_settings" "all_settings" (az bZ) (av bZ) (ag bZ) .none kV6 dc6 pm6 an6 cd6 ct6),sl6⟩) (c6:W.codeIn K cd6 "all_settings" = true) (k6:W.keepIn K (.ref f6)=true)
 (a7:W.nsIn K mainGlobals "holds_at" = some (some (.ref f7))) (l7:K.lookup f7=some ⟨oc7,od7,.func (W.fnOf "holds_at" "holds_at" (az cU) (av cU) (ag cU) .none kV7 dc7 pm7 an7 cd7 ct7),sl7⟩) (c7:W.codeIn K cd7 "holds_at" = true) (k7:W.keepIn K (.ref f7)=true)
 (a8:W.nsIn K mainGlobals "joined" = some (some (.ref f8))) (l8:K.lookup f8=some ⟨oc8,od8,.func (W.fnOf "joined" "joined" (az s_joined) (av s_joined) (ag s_joined) .none kV8 dc8 pm8 an8 cd8 ct8),sl8⟩) (c8:W.codeIn K cd8 "joined" = true) (k8:W.keepIn K (.ref f8)=true)
 (a9:W.nsIn K mainGlobals "count_of" = some (some (.ref f9))) (l9:K.lookup f9=some ⟨oc9,od9,.func (W.fnOf "count_of" "count_of" (az s_count_of) (av s_count_of) (ag s_count_of) .none kV9 dc9 pm9 an9 cd9 ct9),sl9⟩) (c9:W.codeIn K cd9 "count_of" = true) (k9:W.keepIn K (.ref f9)=true)
 (a10:W.nsIn K mainGlobals "trees_within" = some (some (.ref f10))) (l10:K.lookup f10=some ⟨oc10,od10,.func (W.fnOf "trees_within" "trees_within" (az bX) (av bX) (ag bX) .none kV10 dc10 pm10 an10 cd10 ct10),sl10⟩) (c10:W.codeIn K cd10 "trees_within" = true) (k10:W.keepIn K (.ref f10)=true)
 (a11:W.nsIn K mainGlobals "names_in" = some (some (.ref f11))) (l11:K.lookup f11=some ⟨oc11,od11,.func (W.fnOf "names_in" "names_in" (az cT) (av cT) (ag cT) .none kV11 dc11 pm11 an11 cd11 ct11),sl11⟩) (c11:W.codeIn K cd11 "names_in" = true) (k11:W.keepIn K (.ref f11)=true)
 (a12:W.nsIn K mainGlobals "counts_of" = some (some (.ref f12))) (l12:K.lookup f12=some ⟨oc12,od12,.func (W.fnOf "counts_of" "counts_of" (az cZ) (av cZ) (ag cZ) .none kV12 dc12 pm12 an12 cd12 ct12),sl12⟩) (c12:W.codeIn K cd12 "counts_of" = true) (k12:W.keepIn K (.ref f12)=true)
 (a13:W.nsIn K mainGlobals "true_row" = some (some (.ref f13))) (l13:K.lookup f13=some ⟨oc13,od13,.func (W.fnOf "true_row" "true_row" (az s_true_row) (av s_true_row) (ag s_true_row) .none kV13 dc13 pm13 an13 cd13 ct13),sl13⟩) (c13:W.codeIn K cd13 "true_row" = true) (k13:W.keepIn K (.ref f13)=true)
 (a14:W.nsIn K mainGlobals "value_of" = some (some (.ref f14))) (l14:K.lookup f14=some ⟨oc14,od14,.func (W.fnOf "value_of" "value_of" (az cS) (av cS) (ag cS) .none kV14 dc14 pm14 an14 cd14 ct14),sl14⟩) (c14:W.codeIn K cd14 "value_of" = true) (k14:W.keepIn K (.ref f14)=true)
 (a15:W.nsIn K mainGlobals "op_value" = some (some (.ref f15))) (l15:K.lookup f15=some ⟨oc15,od15,.func (W.fnOf "op_value" "op_value" (az s_op_value) (av s_op_value) (ag s_op_value) .none kV15 dc15 pm15 an15 cd15 ct15),sl15⟩) (c15:W.codeIn K cd15 "op_value" = true) (k15:W.keepIn K (.ref f15)=true)
 (a16:W.nsIn K mainGlobals "divided" = some (some (.ref f16))) (l16:K.lookup f16=some ⟨oc16,od16,.func (W.fnOf "divided" "divided" (az s_divided) (av s_divided) (ag s_divided) .none kV16 dc16 pm16 an16 cd16 ct16),sl16⟩) (c16:W.codeIn K cd16 "divided" = true) (k16:W.keepIn K (.ref f16)=true)
 (a17:W.nsIn K mainGlobals "worth_of" = some (some (.ref f17))) (l17:K.lookup f17=some ⟨oc17,od17,.func (W.fnOf "worth_of" "worth_of" (az cR) (av cR) (ag cR) .none kV17 dc17 pm17 an17 cd17 ct17),sl17⟩) (c17:W.codeIn K cd17 "worth_of" = true) (k17:W.keepIn K (.ref f17)=true)
 (a18:W.nsIn K mainGlobals "joined_worth" = some (some (.ref f18))) (l18:K.lookup f18=some ⟨oc18,od18,.func (W.fnOf "joined_worth" "joined_worth" (az bY) (av bY) (ag bY) .none kV18 dc18 pm18 an18 cd18 ct18),sl18⟩) (c18:W.codeIn K cd18 "joined_worth" = true) (k18:W.keepIn K (.ref f18)=true)
 (a19:W.nsIn K mainGlobals "degree_of" = some (some (.ref f19))) (l19:K.lookup f19=some ⟨oc19,od19,.func (W.fnOf "degree_of" "degree_of" (az cY) (av cY) (ag cY) .none kV19 dc19 pm19 an19 cd19 ct19),sl19⟩) (c19:W.codeIn K cd19 "degree_of" = true) (k19:W.keepIn K (.ref f19)=true)
 (a20:W.nsIn K mainGlobals "look_switches" = some (some (.ref f20))) (l20:K.lookup f20=some ⟨oc20,od20,.func (W.fnOf "look_switches" "look_switches" (az bG) (av bG) (ag bG) .none kV20 dc20 pm20 an20 cd20 ct20),sl20⟩) (c20:W.codeIn K cd20 "look_switches" = true) (k20:W.keepIn K (.ref f20)=true)
 (a21:W.nsIn K mainGlobals "look_names" = some (some (.ref f21))) (l21:K.lookup f21=some ⟨oc21,od21,.func (W.fnOf "look_names" "look_names" (az cD) (av cD) (ag cD) .none kV21 dc21 pm21 an21 cd21 ct21),sl21⟩) (c21:W.codeIn K cd21 "look_names" = true) (k21:W.keepIn K (.ref f21)=true)
 (a22:W.nsIn K mainGlobals "look_field" = some (some (.ref f22))) (l22:K.lookup f22=some ⟨oc22,od22,.func (W.fnOf "look_field" "look_field" (az cE) (av cE) (ag cE) .none kV22 dc22 pm22 an22 cd22 ct22),sl22⟩) (c22:W.codeIn K cd22 "look_field" = true) (k22:W.keepIn K (.ref f22)=true)
 (a23:W.nsIn K mainGlobals "look_size" = some (some (.ref f23))) (l23:K.lookup f23=some ⟨oc23,od23,.func (W.fnOf "look_size" "look_size" (az cV) (av cV) (ag cV) .none kV23 dc23 pm23 an23 cd23 ct23),sl23⟩) (c23:W.codeIn K cd23 "look_size" = true) (k23:W.keepIn K (.ref f23)=true)
 (a24:W.nsIn K mainGlobals "_law_feed" = some (some (.ref f24))) (l24:K.lookup f24=some ⟨oc24,od24,.func (W.fnOf "_law_feed" "_law_feed" (az s_l_feed) (av s_l_feed) (ag s_l_feed) .none kV24 dc24 pm24 an24 cd24 ct24),sl24⟩) (c24:W.codeIn K cd24 "_law_feed" = true) (k24:W.keepIn K (.ref f24)=true)
 (a25:W.nsIn K mainGlobals "_law_take" = some (some (.ref f25))) (l25:K.lookup f25=some ⟨oc25,od25,.func (W.fnOf "_law_take" "_law_take" (az s_l_take) (av s_l_take) (ag s_l_take) .none kV25 dc25 pm25 an25 cd25 ct25),sl25⟩) (c25:W.codeIn K cd25 "_law_take" = true) (k25:W.keepIn K (.ref f25)=true)
 (a26:W.nsIn K mainGlobals "_law_names" = some (some (.ref f26))) (l26:K.lookup f26=some ⟨oc26,od26,.func (W.fnOf "_law_names" "_law_names" (az bb) (av bb) (ag bb) .none kV26 dc26 pm26 an26 cd26 ct26),sl26⟩) (c26:W.codeIn K cd26 "_law_names" = true) (k26:W.keepIn K (.ref f26)=true)
 (a27:W.nsIn K mainGlobals "_law_tree" = some (some (.ref f27))) (l27:K.lookup f27=some ⟨oc27,od27,.func (W.fnOf "_law_tree" "_law_tree" (az s_l_tree) (av s_l_tree) (ag s_l_tree) .none kV27 dc27 pm27 an27 cd27 ct27),sl27⟩) (c27:W.codeIn K cd27 "_law_tree" = true) (k27:W.keepIn K (.ref f27)=true)
 (a28:W.nsIn K mainGlobals "_law_names_of" = some (some (.ref f28))) (l28:K.lookup f28=some ⟨oc28,od28,.func (W.fnOf "_law_names_of" "_law_names_of" (az cg) (av cg) (ag cg) .none kV28 dc28 pm28 an28 cd28 ct28),sl28⟩) (c28:W.codeIn K cd28 "_law_names_of" = true) (k28:W.keepIn K (.ref f28)=true)
 (a29:W.nsIn K mainGlobals "_law_need" = some (some (.ref f29))) (l29:K.lookup f29=some ⟨oc29,od29,.func (W.fnOf "_law_need" "_law_need" (az s_l_need) (av s_l_need) (ag s_l_need) .none kV29 dc29 pm29 an29 cd29 ct29),sl29⟩) (c29:W.codeIn K cd29 "_law_need" = true) (k29:W.keepIn K (.ref f29)=true)
 (a30:W.nsIn K mainGlobals "_law_is_prime" = some (some (.ref f30))) (l30:K.lookup f30=some ⟨oc30,od30,.func (W.fnOf "_law_is_prime" "_law_is_prime" (az cF) (av cF) (ag cF) .none kV30 dc30 pm30 an30 cd30 ct30),sl30⟩) (c30:W.codeIn K cd30 "_law_is_prime" = true) (k30:W.keepIn K (.ref f30)=true)
 (a31:W.nsIn K mainGlobals "_law_field" = some (some (.ref f31))) (l31:K.lookup f31=some ⟨oc31,od31,.func (W.fnOf "_law_field" "_law_field" (az s_l_field) (av s_l_field) (ag s_l_field) .none kV31 dc31 pm31 an31 cd31 ct31),sl31⟩) (c31:W.codeIn K cd31 "_law_field" = true) (k31:W.keepIn K (.ref f31)=true)
 (a32:W.nsIn K mainGlobals "_law_game" = some (some (.ref f32))) (l32:K.lookup f32=some ⟨oc32,od32,.func (W.fnOf "_law_game" "_law_game" (az s_l_game) (av s_l_game) (ag s_l_game) .none kV32 dc32 pm32 an32 cd32 ct32),sl32⟩) (c32:W.codeIn K cd32 "_law_game" = true) (k32:W.keepIn K (.ref f32)=true)
 (a33:W.nsIn K mainGlobals "_law_degrees" = some (some (.ref f33))) (l33:K.lookup f33=some ⟨oc33,od33,.func (W.fnOf "_law_degrees" "_law_degrees" (az cX) (av cX) (ag cX) .none kV33 dc33 pm33 an33 cd33 ct33),sl33⟩) (c33:W.codeIn K cd33 "_law_degrees" = true) (k33:W.keepIn K (.ref f33)=true)
 (a34:W.nsIn K mainGlobals "_law_worth" = some (some (.ref f34))) (l34:K.lookup f34=some ⟨oc34,od34,.func (W.fnOf "_law_worth" "_law_worth" (az s_l_worth) (av s_l_worth) (ag s_l_worth) .none kV34 dc34 pm34 an34 cd34 ct34),sl34⟩) (c34:W.codeIn K cd34 "_law_worth" = true) (k34:W.keepIn K (.ref f34)=true)
 (a35:W.nsIn K mainGlobals "_law_mixed" = some (some (.ref f35))) (l35:K.lookup f35=some ⟨oc35,od35,.func (W.fnOf "_law_mixed" "_law_mixed" (az s_l_mixed) (av s_l_mixed) (ag s_l_mixed) .none kV35 dc35 pm35 an35 cd35 ct35),sl35⟩) (c35:W.codeIn K cd35 "_law_mixed" = true) (k35:W.keepIn K (.ref f35)=true)
 (a36:W.nsIn K mainGlobals "_law_all" = some (some (.ref f36))) (l36:K.lookup f36=some ⟨oc36,od36,.func (W.fnOf "_law_all" "_law_all" (az s_l_all) (av s_l_all) (ag s_l_all) .none kV36 dc36 pm36 an36 cd36 ct36),sl36⟩) (c36:W.codeIn K cd36 "_law_all" = true) (k36:W.keepIn K (.ref f36)=true)
 (a37:W.nsIn K mainGlobals "_law_sum" = some (some (.ref f37))) (l37:K.lookup f37=some ⟨oc37,od37,.func (W.fnOf "_law_sum" "_law_sum" (az s_l_sum) (av s_l_sum) (ag s_l_sum) .none kV37 dc37 pm37 an37 cd37 ct37),sl37⟩) (c37:W.codeIn K cd37 "_law_sum" = true) (k37:W.keepIn K (.ref f37)=true)
 (a38:W.nsIn K mainGlobals "_law_count" = some (some (.ref f38))) (l38:K.lookup f38=some ⟨oc38,od38,.func (W.fnOf "_law_count" "_law_count" (az s_l_count) (av s_l_count) (ag s_l_count) .none kV38 dc38 pm38 an38 cd38 ct38),sl38⟩) (c38:W.codeIn K cd38 "_law_count" = true) (k38:W.keepIn K (.ref f38)=true)
 (a39:W.nsIn K mainGlobals "_law_whole" = some (some (.ref f39))) (l39:K.lookup f39=some ⟨oc39,od39,.func (W.fnOf "_law_whole" "_law_whole" (az s_l_whole) (av s_l_whole) (ag s_l_whole) .none kV39 dc39 pm39 an39 cd39 ct39),sl39⟩) (c39:W.codeIn K cd39 "_law_whole" = true) (k39:W.keepIn K (.ref f39)=true)
 (a40:W.nsIn K mainGlobals "_law_numbers" = some (some (.ref f40))) (l40:K.lookup f40=some ⟨oc40,od40,.func (W.fnOf "_law_numbers" "_law_numbers" (az cW) (av cW) (ag cW) .none kV40 dc40 pm40 an40 cd40 ct40),sl40⟩) (c40:W.codeIn K cd40 "_law_numbers" = true) (k40:W.keepIn K (.ref f40)=true)
 (a41:W.nsIn K mainGlobals "_law_index" = some (some (.ref f41))) (l41:K.lookup f41=some ⟨oc41,od41,.func (W.fnOf "_law_index" "_law_index" (az s_l_index) (av s_l_index) (ag s_l_index) .none kV41 dc41 pm41 an41 cd41 ct41),sl41⟩) (c41:W.codeIn K cd41 "_law_index" = true) (k41:W.keepIn K (.ref f41)=true)
 (a42:W.nsIn K mainGlobals "_law_terms" = some (some (.ref f42))) (l42:K.lookup f42=some ⟨oc42,od42,.func (W.fnOf "_law_terms" "_law_terms" (az s_l_terms) (av s_l_terms) (ag s_l_terms) .none kV42 dc42 pm42 an42 cd42 ct42),sl42⟩) (c42:W.codeIn K cd42 "_law_terms" = true) (k42:W.keepIn K (.ref f42)=true)
 (a43:W.nsIn K mainGlobals "_law_true" = some (some (.ref f43))) (l43:K.lookup f43=some ⟨oc43,od43,.func (W.fnOf "_law_true" "_law_true" (az s_l_true) (av s_l_true) (ag s_l_true) .none kV43 dc43 pm43 an43 cd43 ct43),sl43⟩) (c43:W.codeIn K cd43 "_law_true" = true) (k43:W.keepIn K (.ref f43)=true)
 (a44:W.nsIn K mainGlobals "_law_right" = some (some (.ref f44))) (l44:K.lookup f44=some ⟨oc44,od44,.func (W.fnOf "_law_right" "_law_right" (az s_l_right) (av s_l_right) (ag s_l_right) .none kV44 dc44 pm44 an44 cd44 ct44),sl44⟩) (c44:W.codeIn K cd44 "_law_right" = true) (k44:W.keepIn K (.ref f44)=true)
 (a45:W.nsIn K mainGlobals "law" = some (some (.ref f45))) (l45:K.lookup f45=some ⟨oc45,od45,.func (W.fnOf "law" "law" (az s_law) (av s_law) (ag s_law) .none kV45 dc45 pm45 an45 cd45 ct45),sl45⟩) (c45:W.codeIn K cd45 "law" = true) (k45:W.keepIn K (.ref f45)=true)
 {CG gmgI gmgM gmgW:Addr} {gmodI gmanI gmodM gmanM gmodW gmanW:Option Addr} {gmslI gmslM gmslW:Array (Option Value)} {gmocI gmkVI gmdcI gmpmI gmcdI gmctI gmocM gmkVM gmdcM gmpmM gmcdM gmctM gmocW gmkVW gmdcW gmpmW gmcdW gmctW:Value}
 {CA asgI asgP asgC asgN asgR:Addr} {asodI asanI asodP asanP asodC asanC asodN asanN asodR asanR:Option Addr} {asslI asslP asslC asslN asslR:Array (Option Value)} {asocI askVI asdcI aspmI ascdI asctI asocP askVP asdcP aspmP ascdP asctP asocC askVC asdcC aspmC ascdC asctC asocN askVN asdcN aspmN ascdN asctN asocR askVR asdcR aspmR ascdR asctR:Value}
 {CM mcgI mcgS mcgR mcgB:Addr} {mcodI mcanI mcodS mcanS mcodR mcanR mcodB mcanB:Option Addr} {mcslI mcslS mcslR mcslB:Array (Option Value)} {mcocI mckVI mcdcI mcpmI mccdI mcctI mcocS mckVS mcdcS mcpmS mccdS mcctS mcocR mckVR mcdcR mcpmR mccdR mcctR mcocB mckVB mcdcB mcpmB mccdB mcctB:Value}
 {te tm:Tok}
 (gmgg:W.nsIn K mainGlobals "Game" = some (some (.ref CG)))
 (gmaI:W.findIn K (.ref CG) "__init__" = some (some (.ref gmgI)))
 (gmiI:W.isFn K (.ref gmgI)=true)
 (gmlI:K.lookup gmgI=some ⟨gmocI,gmodI,.func (W.fnOf "__init__" "Game.__init__" (az s_ginit) (av s_ginit) (ag s_ginit) .none gmkVI gmdcI gmpmI gmanI gmcdI gmctI),gmslI⟩)
 (gmcI:W.codeIn K gmcdI "Game.__init__" = true)
 (gmkI:W.keepIn K (.ref gmgI)=true)
 (gmaM:W.findIn K (.ref CG) "mix" = some (some (.ref gmgM)))
 (gmiM:W.isFn K (.ref gmgM)=true)
 (gmlM:K.lookup gmgM=some ⟨gmocM,gmodM,.func (W.fnOf "mix" "Game.mix" (az s_gmix) (av s_gmix) (ag s_gmix) .none gmkVM gmdcM gmpmM gmanM gmcdM gmctM),gmslM⟩)
 (gmcM:W.codeIn K gmcdM "Game.mix" = true)
 (gmkM:W.keepIn K (.ref gmgM)=true)
 (gmaW:W.findIn K (.ref CG) "worth_at" = some (some (.ref gmgW)))
 (gmiW:W.isFn K (.ref gmgW)=true)
 (gmlW:K.lookup gmgW=some ⟨gmocW,gmodW,.func (W.fnOf "worth_at" "Game.worth_at" (az s_gworth) (av s_gworth) (ag s_gworth) .none gmkVW gmdcW gmpmW gmanW gmcdW gmctW),gmslW⟩)
 (gmcW:W.codeIn K gmcdW "Game.worth_at" = true)
 (gmkW:W.keepIn K (.ref gmgW)=true)
 (gmpg:W.plainGet K CG Str.empty=true)
 (gmhdi:W.hasDictIn K CG=true)
 (gmpov:W.plainOver K CG=true)
 (gmsat:W.findIn K (.ref CG) "__setattr__" = some (some (.builtin "object.__setattr__")))
 (gmmki:W.makesIn K CG=true)
 (gmkcl:W.keepIn K (.ref CG)=true)
 (gmn_switches:W.findIn K (.ref CG) "switches" = some none)
 (gmn_trees:W.findIn K (.ref CG) "trees" = some none)
 (gmn_field:W.findIn K (.ref CG) "field" = some none)
 (gmn_degrees:W.findIn K (.ref CG) "degrees" = some none)
 (asgg:W.nsIn K mainGlobals "Asking" = some (some (.ref CA)))
 (asaI:W.findIn K (.ref CA) "__init__" = some (some (.ref asgI)))
 (asiI:W.isFn K (.ref asgI)=true)
 (aslI:K.lookup asgI=some ⟨asocI,asodI,.func (W.fnOf "__init__" "Asking.__init__" (az s_ainit) (av s_ainit) (ag s_ainit) .none askVI asdcI aspmI asanI ascdI asctI),asslI⟩)
 (ascI:W.codeIn K ascdI "Asking.__init__" = true)
 (askI:W.keepIn K (.ref asgI)=true)
 (asaP:W.findIn K (.ref CA) "plain_value" = some (some (.ref asgP)))
 (asiP:W.isFn K (.ref asgP)=true)
 (aslP:K.lookup asgP=some ⟨asocP,asodP,.func (W.fnOf "plain_value" "Asking.plain_value" (az s_aplain) (av s_aplain) (ag s_aplain) .none askVP asdcP aspmP asanP ascdP asctP),asslP⟩)
 (ascP:W.codeIn K ascdP "Asking.plain_value" = true)
 (askP:W.keepIn K (.ref asgP)=true)
 (asaC:W.findIn K (.ref CA) "coin_at" = some (some (.ref asgC)))
 (asiC:W.isFn K (.ref asgC)=true)
 (aslC:K.lookup asgC=some ⟨asocC,asodC,.func (W.fnOf "coin_at" "Asking.coin_at" (az s_acoin) (av s_acoin) (ag s_acoin) .none askVC asdcC aspmC asanC ascdC asctC),asslC⟩)
 (ascC:W.codeIn K ascdC "Asking.coin_at" = true)
 (askC:W.keepIn K (.ref asgC)=true)
 (asaN:W.findIn K (.ref CA) "true_numbers" = some (some (.ref asgN)))
 (asiN:W.isFn K (.ref asgN)=true)
 (aslN:K.lookup asgN=some ⟨asocN,asodN,.func (W.fnOf "true_numbers" "Asking.true_numbers" (az s_atruths) (av s_atruths) (ag s_atruths) .none askVN asdcN aspmN asanN ascdN asctN),asslN⟩)
 (ascN:W.codeIn K ascdN "Asking.true_numbers" = true)
 (askN:W.keepIn K (.ref asgN)=true)
 (asaR:W.findIn K (.ref CA) "true_at" = some (some (.ref asgR)))
 (asiR:W.isFn K (.ref asgR)=true)
 (aslR:K.lookup asgR=some ⟨asocR,asodR,.func (W.fnOf "true_at" "Asking.true_at" (az s_atrue) (av s_atrue) (ag s_atrue) .none askVR asdcR aspmR asanR ascdR asctR),asslR⟩)
 (ascR:W.codeIn K ascdR "Asking.true_at" = true)
 (askR:W.keepIn K (.ref asgR)=true)
 (aspg:W.plainGet K CA Str.empty=true)
 (ashdi:W.hasDictIn K CA=true)
 (aspov:W.plainOver K CA=true)
 (assat:W.findIn K (.ref CA) "__setattr__" = some (some (.builtin "object.__setattr__")))
 (asmki:W.makesIn K CA=true)
 (askcl:W.keepIn K (.ref CA)=true)
 (asn_game:W.findIn K (.ref CA) "game" = some none)
 (asn_number:W.findIn K (.ref CA) "number" = some none)
 (asn_many:W.findIn K (.ref CA) "many" = some none)
 (asn_held:W.findIn K (.ref CA) "held" = some none)
 (asn_s:W.findIn K (.ref CA) "s" = some none)
 (asn_tossed:W.findIn K (.ref CA) "tossed" = some none)
 (asn_truths:W.findIn K (.ref CA) "truths" = some none)
 (mcgg:W.nsIn K mainGlobals "Machine" = some (some (.ref CM)))
 (mcaI:W.findIn K (.ref CM) "__init__" = some (some (.ref mcgI)))
 (mciI:W.isFn K (.ref mcgI)=true)
 (mclI:K.lookup mcgI=some ⟨mcocI,mcodI,.func (W.fnOf "__init__" "Machine.__init__" (az s_minit) (av s_minit) (ag s_minit) .none mckVI mcdcI mcpmI mcanI mccdI mcctI),mcslI⟩)
 (mccI:W.codeIn K mccdI "Machine.__init__" = true)
 (mckI:W.keepIn K (.ref mcgI)=true)
 (mcaS:W.findIn K (.ref CM) "say" = some (some (.ref mcgS)))
 (mciS:W.isFn K (.ref mcgS)=true)
 (mclS:K.lookup mcgS=some ⟨mcocS,mcodS,.func (W.fnOf "say" "Machine.say" (az s_msay) (av s_msay) (ag s_msay) .none mckVS mcdcS mcpmS mcanS mccdS mcctS),mcslS⟩)
 (mccS:W.codeIn K mccdS "Machine.say" = true)
 (mckS:W.keepIn K (.ref mcgS)=true)
 (mcaR:W.findIn K (.ref CM) "do_row" = some (some (.ref mcgR)))
 (mciR:W.isFn K (.ref mcgR)=true)
 (mclR:K.lookup mcgR=some ⟨mcocR,mcodR,.func (W.fnOf "do_row" "Machine.do_row" (az s_mrow) (av s_mrow) (ag s_mrow) .none mckVR mcdcR mcpmR mcanR mccdR mcctR),mcslR⟩)
 (mccR:W.codeIn K mccdR "Machine.do_row" = true)
 (mckR:W.keepIn K (.ref mcgR)=true)
 (mcaB:W.findIn K (.ref CM) "box" = some (some (.ref mcgB)))
 (mciB:W.isFn K (.ref mcgB)=true)
 (mclB:K.lookup mcgB=some ⟨mcocB,mcodB,.func (W.fnOf "box" "Machine.box" (az s_mbox) (av s_mbox) (ag s_mbox) .none mckVB mcdcB mcpmB mcanB mccdB mcctB),mcslB⟩)
 (mccB:W.codeIn K mccdB "Machine.box" = true)
 (mckB:W.keepIn K (.ref mcgB)=true)
 (mcpg:W.plainGet K CM Str.empty=true)
 (mchdi:W.hasDictIn K CM=true)
 (mcpov:W.plainOver K CM=true)
 (mcsat:W.findIn K (.ref CM) "__setattr__" = some (some (.builtin "object.__setattr__")))
 (mcmki:W.makesIn K CM=true)
 (mckcl:W.keepIn K (.ref CM)=true)
 (mcn_game:W.findIn K (.ref CM) "game" = some none)
 (mcn_helper:W.findIn K (.ref CM) "helper" = some none)
 (mcn_next_round:W.findIn K (.ref CM) "next_round" = some none)
 (mcn_boxes:W.findIn K (.ref CM) "boxes" = some none)
 (ge:W.nsIn K mainGlobals "FIELDS_END" = some (some (.int 1000000 te)))
 (gmo:W.nsIn K mainGlobals "MOST_ROWS_DONE" = some (some (.int 200 tm)))
 (z0:W.nsIn K mainGlobals "len" = some none) (z1:W.nsIn K mainGlobals "range" = some none) (z2:W.nsIn K mainGlobals "isinstance" = some none) (z3:W.nsIn K mainGlobals "int" = some none) (z4:W.nsIn K mainGlobals "bool" = some none) (z5:W.nsIn K mainGlobals "list" = some none) (z6:W.nsIn K mainGlobals "tuple" = some none) (z7:W.nsIn K mainGlobals "max" = some none) (z8:W.nsIn K mainGlobals "min" = some none) (z9:W.nsIn K mainGlobals "reversed" = some none) (z10:W.nsIn K mainGlobals "enumerate" = some none) (z11:W.nsIn K mainGlobals "sum" = some none) (z12:W.nsIn K mainGlobals "all" = some none) (z13:W.nsIn K mainGlobals "zip" = some none) (z14:W.nsIn K mainGlobals "dict" = some none) :
 ∃ fd:FuncData,(∀ (s:Shared) (v:Value),BindsTo s fd ⟨[v],[]⟩ [("_law_script", v)])/\∀ base:Heap,K.In base->base.Ns mainGlobals mg->FnOk l.prog w K mg base CX0 26 fa fd ["_law_script"] (spLaw K):=by
 have e:=hfa.symm.trans (W.mg_of X G a45)
 cases e
 have F_is_field:=aF (st:=s_is_field) l0 c0 k0
 have m_is_field:=W.mg_of X G a0
 have F_inverse_of:=aF (st:=cG) l1 c1 k1
 have m_inverse_of:=W.mg_of X G a1
 have F_value_at:=aF (st:=s_value_at) l2 c2 k2
 have m_value_at:=W.mg_of X G a2
 have F_value_behind:=aF (st:=bV) l3 c3 k3
 have m_value_behind:=W.mg_of X G a3
 have F_products:=aF (st:=s_products) l4 c4 k4
 have m_products:=W.mg_of X G a4
 have F_inverse_factorials:=aF (st:=bh) l5 c5 k5
 have m_inverse_factorials:=W.mg_of X G a5
 have F_all_settings:=aF (st:=bZ) l6 c6 k6
 have m_all_settings:=W.mg_of X G a6
 have F_holds_at:=aF (st:=cU) l7 c7 k7
 have m_holds_at:=W.mg_of X G a7
 have F_joined:=aF (st:=s_joined) l8 c8 k8
 have m_joined:=W.mg_of X G a8
 have F_count_of:=aF (st:=s_count_of) l9 c9 k9
 have m_count_of:=W.mg_of X G a9
 have F_trees_within:=aF (st:=bX) l10 c10 k10
 have m_trees_within:=W.mg_of X G a10
 have F_names_in:=aF (st:=cT) l11 c11 k11
 have m_names_in:=W.mg_of X G a11
 have F_counts_of:=aF (st:=cZ) l12 c12 k12
 have m_counts_of:=W.mg_of X G a12
 have F_true_row:=aF (st:=s_true_row) l13 c13 k13
 have m_true_row:=W.mg_of X G a13
 have F_value_of:=aF (st:=cS) l14 c14 k14
 have m_value_of:=W.mg_of X G a14
 have F_op_value:=aF (st:=s_op_value) l15 c15 k15
 have m_op_value:=W.mg_of X G a15
 have F_divided:=aF (st:=s_divided) l16 c16 k16
 have m_divided:=W.mg_of X G a16
 have F_worth_of:=aF (st:=cR) l17 c17 k17
 have m_worth_of:=W.mg_of X G a17
 have F_joined_worth:=aF (st:=bY) l18 c18 k18
 have m_joined_worth:=W.mg_of X G a18
 have F_degree_of:=aF (st:=cY) l19 c19 k19
 have m_degree_of:=W.mg_of X G a19
 have F_look_switches:=aF (st:=bG) l20 c20 k20
 have m_look_switches:=W.mg_of X G a20
 have F_look_names:=aF (st:=cD) l21 c21 k21
 have m_look_names:=W.mg_of X G a21
 have F_look_field:=aF (st:=cE) l22 c22 k22
 have m_look_field:=W.mg_of X G a22
 have F_look_size:=aF (st:=cV) l23 c23 k23
 have m_look_size:=W.mg_of X G a23
 have F_l_feed:=aF (st:=s_l_feed) l24 c24 k24
 have m_l_feed:=W.mg_of X G a24
 have F_l_take:=aF (st:=s_l_take) l25 c25 k25
 have m_l_take:=W.mg_of X G a25
 have F_l_names:=aF (st:=bb) l26 c26 k26
 have m_l_names:=W.mg_of X G a26
 have F_l_tree:=aF (st:=s_l_tree) l27 c27 k27
 have m_l_tree:=W.mg_of X G a27
 have F_l_names_of:=aF (st:=cg) l28 c28 k28
 have m_l_names_of:=W.mg_of X G a28
 have F_l_need:=aF (st:=s_l_need) l29 c29 k29
 have m_l_need:=W.mg_of X G a29
 have F_l_is_prime:=aF (st:=cF) l30 c30 k30
 have m_l_is_prime:=W.mg_of X G a30
 have F_l_field:=aF (st:=s_l_field) l31 c31 k31
 have m_l_field:=W.mg_of X G a31
 have F_l_game:=aF (st:=s_l_game) l32 c32 k32
 have m_l_game:=W.mg_of X G a32
 have F_l_degrees:=aF (st:=cX) l33 c33 k33
 have m_l_degrees:=W.mg_of X G a33
 have F_l_worth:=aF (st:=s_l_worth) l34 c34 k34
 have m_l_worth:=W.mg_of X G a34
 have F_l_mixed:=aF (st:=s_l_mixed) l35 c35 k35
 have m_l_mixed:=W.mg_of X G a35
 have F_l_all:=aF (st:=s_l_all) l36 c36 k36
 have m_l_all:=W.mg_of X G a36
 have F_l_sum:=aF (st:=s_l_sum) l37 c37 k37
 have m_l_sum:=W.mg_of X G a37
 have F_l_count:=aF (st:=s_l_count) l38 c38 k38
 have m_l_count:=W.mg_of X G a38
 have F_l_whole:=aF (st:=s_l_whole) l39 c39 k39
 have m_l_whole:=W.mg_of X G a39
 have F_l_numbers:=aF (st:=cW) l40 c40 k40
 have m_l_numbers:=W.mg_of X G a40
 have F_l_index:=aF (st:=s_l_index) l41 c41 k41
 have m_l_index:=W.mg_of X G a41
 have F_l_terms:=aF (st:=s_l_terms) l42 c42 k42
 have m_l_terms:=W.mg_of X G a42
 have F_l_true:=aF (st:=s_l_true) l43 c43 k43
 have m_l_true:=W.mg_of X G a43
 have F_l_right:=aF (st:=s_l_right) l44 c44 k44
 have m_l_right:=W.mg_of X G a44
 have F_law:=aF (st:=s_law) l45 c45 k45
 have B:Bl mg:=⟨W.mg_none_of X G z0,W.mg_none_of X G z1,W.mg_none_of X G z2,W.mg_none_of X G z3,W.mg_none_of X G z4,W.mg_none_of X G z5,W.mg_none_of X G z6,W.mg_none_of X G z7,W.mg_none_of X G z8,W.mg_none_of X G z9,W.mg_none_of X G z10,W.mg_none_of X G z11,W.mg_none_of X G z12,W.mg_none_of X G z13,W.mg_none_of X G z14⟩
 refine ⟨W.fnOf "law" "law" (az s_law) (av s_law) (ag s_law) .none kV45 dc45 pm45 an45 cd45 ct45,fun s v=>.of_eq rfl,fun base _ _=>?_⟩
 have TG:GTxt K mg CG:=⟨⟨gmpg,gmhdi,gmpov,gmsat⟩,gmn_switches,gmn_trees,gmn_field,gmn_degrees,W.mg_of X G gmgg⟩
 have TA:ATxt K mg CA:=⟨⟨aspg,ashdi,aspov,assat⟩,asn_game,asn_number,asn_many,asn_held,asn_s,asn_tossed,asn_truths,W.mg_of X G asgg⟩
 have TM:MTxt K mg CM:=⟨⟨mcpg,mchdi,mcpov,mcsat⟩,mcn_game,mcn_helper,mcn_next_round,mcn_boxes,W.mg_of X G mcgg⟩
 have F_gmI:=aF (st:=s_ginit) gmlI gmcI gmkI
 have b_gmI:=F_gmI.binds (ps:=["self", "switches", "trees", "field"]) fun _ _ _ _ _ _ us hl=>by obtain ⟨u0,u1,u2,u3,rfl⟩:=len4 hl; rfl
 have F_gmM:=aF (st:=s_gmix) gmlM gmcM gmkM
 have b_gmM:=F_gmM.binds (ps:=["self", "numbers", "s"]) fun _ _ _ _ _ _ us hl=>by obtain ⟨u0,u1,u2,rfl⟩:=len3 hl; rfl
 have m_gmM:Meth K CG "mix" gmgM:=⟨gmaM,gmiM,gmkM⟩
 have F_gmW:=aF (st:=s_gworth) gmlW gmcW gmkW
 have b_gmW:=F_gmW.binds (ps:=["self", "point", "s"]) fun _ _ _ _ _ _ us hl=>by obtain ⟨u0,u1,u2,rfl⟩:=len3 hl; rfl
 have m_gmW:Meth K CG "worth_at" gmgW:=⟨gmaW,gmiW,gmkW⟩
 have F_asI:=aF (st:=s_ainit) aslI ascI askI
 have b_asI:=F_asI.binds (ps:=["self", "game", "number", "many", "due", "s", "coins"]) fun _ _ _ _ _ _ us hl=>by obtain ⟨u0,u1,u2,u3,u4,u5,u6,rfl⟩:=len7 hl; rfl
 have F_asP:=aF (st:=s_aplain) aslP ascP askP
 have b_asP:=F_asP.binds (ps:=["self", "word"]) fun _ _ _ _ _ _ us hl=>by obtain ⟨u0,u1,rfl⟩:=len2 hl; rfl
 have m_asP:Meth K CA "plain_value" asgP:=⟨asaP,asiP,askP⟩
 have F_asC:=aF (st:=s_acoin) aslC ascC askC
 have b_asC:=F_asC.binds (ps:=["self", "place"]) fun _ _ _ _ _ _ us hl=>by obtain ⟨u0,u1,rfl⟩:=len2 hl; rfl
 have m_asC:Meth K CA "coin_at" asgC:=⟨asaC,asiC,askC⟩
 have F_asN:=aF (st:=s_atruths) aslN ascN askN
 have b_asN:=F_asN.binds (ps:=["self"]) fun _ _ _ _ _ _ us hl=>by obtain ⟨u0,rfl⟩:=len1 hl; rfl
 have m_asN:Meth K CA "true_numbers" asgN:=⟨asaN,asiN,askN⟩
 have F_asR:=aF (st:=s_atrue) aslR ascR askR
 have b_asR:=F_asR.binds (ps:=["self", "place"]) fun _ _ _ _ _ _ us hl=>by obtain ⟨u0,u1,rfl⟩:=len2 hl; rfl
 have m_asR:Meth K CA "true_at" asgR:=⟨asaR,asiR,askR⟩
 have F_mcI:=aF (st:=s_minit) mclI mccI mckI
 have b_mcI:=F_mcI.binds (ps:=["self", "game", "helper"]) fun _ _ _ _ _ _ us hl=>by obtain ⟨u0,u1,u2,rfl⟩:=len3 hl; rfl
 have F_mcS:=aF (st:=s_msay) mclS mccS mckS
 have b_mcS:=F_mcS.binds (ps:=["self", "many", "due", "s", "coins"]) fun _ _ _ _ _ _ us hl=>by obtain ⟨u0,u1,u2,u3,u4,rfl⟩:=len5 hl; rfl
 have m_mcS:Meth K CM "say" mcgS:=⟨mcaS,mciS,mckS⟩
 have F_mcR:=aF (st:=s_mrow) mclR mccR mckR
 have b_mcR:=F_mcR.binds (ps:=["self", "place", "said", "asking"]) fun _ _ _ _ _ _ us hl=>by obtain ⟨u0,u1,u2,u3,rfl⟩:=len4 hl; rfl
 have m_mcR:Meth K CM "do_row" mcgR:=⟨mcaR,mciR,mckR⟩
 have F_mcB:=aF (st:=s_mbox) mclB mccB mckB
 have b_mcB:=F_mcB.binds (ps:=["self", "x"]) fun _ _ _ _ _ _ us hl=>by obtain ⟨u0,u1,rfl⟩:=len2 hl; rfl
 have m_mcB:Meth K CM "box" mcgB:=⟨mcaB,mciB,mckB⟩
 have C_l_feed:=Cal.of (P:=l.prog) (w:=w) (base:=base) F_l_feed (ok_l_feed F_l_feed B.len) m_l_feed (fun _ _ _ _ _ _ us hl=>by obtain ⟨u0,u1,rfl⟩:=len2 hl; rfl)
 have C_l_take:=Cal.of (P:=l.prog) (w:=w) (base:=base) F_l_take (ok_l_take F_l_take ) m_l_take (fun _ _ _ _ _ _ us hl=>by obtain ⟨u0,u1,rfl⟩:=len2 hl; rfl)
 have C_is_field:=Cal.of (P:=l.prog) (w:=w) (base:=base) F_is_field (ok_is_field F_is_field ) m_is_field (fun _ _ _ _ _ _ us hl=>by obtain ⟨u0,rfl⟩:=len1 hl; rfl)
 have C_inverse_of:=Cal.of (P:=l.prog) (w:=w) (base:=base) F_inverse_of (ok_inverse_of F_inverse_of ) m_inverse_of (fun _ _ _ _ _ _ us hl=>by obtain ⟨u0,u1,rfl⟩:=len2 hl; rfl)
 have C_products:=Cal.of (P:=l.prog) (w:=w) (base:=base) F_products (ok_products F_products ) m_products (fun _ _ _ _ _ _ us hl=>by obtain ⟨u0,u1,rfl⟩:=len2 hl; rfl)
 have C_inverse_factorials:=Cal.of (P:=l.prog) (w:=w) (base:=base) F_inverse_factorials (ok_inverse_factorials F_inverse_factorials B C_products C_inverse_of) m_inverse_factorials (fun _ _ _ _ _ _ us hl=>by obtain ⟨u0,u1,rfl⟩:=len2 hl; rfl)
 have C_value_behind:=Cal.of (P:=l.prog) (w:=w) (base:=base) F_value_behind (ok_value_behind F_value_behind B C_products C_inverse_factorials) m_value_behind (fun _ _ _ _ _ _ us hl=>by obtain ⟨u0,u1,u2,rfl⟩:=len3 hl; rfl)
 have C_value_at:=Cal.of (P:=l.prog) (w:=w) (base:=base) F_value_at (ok_value_at F_value_at B C_value_behind) m_value_at (fun _ _ _ _ _ _ us hl=>by obtain ⟨u0,u1,u2,rfl⟩:=len3 hl; rfl)
 have C_trees_within:=Cal.of (P:=l.prog) (w:=w) (base:=base) F_trees_within (ok_trees_within F_trees_within ) m_trees_within (fun _ _ _ _ _ _ us hl=>by obtain ⟨u0,rfl⟩:=len1 hl; rfl)
 have C_names_in:=Cal.of (P:=l.prog) (w:=w) (base:=base) F_names_in (ok_names_in F_names_in m_names_in C_trees_within 10) m_names_in (fun _ _ _ _ _ _ us hl=>by obtain ⟨u0,rfl⟩:=len1 hl; rfl)
 have C_joined_worth:=Cal.of (P:=l.prog) (w:=w) (base:=base) F_joined_worth (ok_joined_worth F_joined_worth ) m_joined_worth (fun _ _ _ _ _ _ us hl=>by obtain ⟨u0,u1,u2,u3,rfl⟩:=len4 hl; rfl)
 have C_worth_of:=Cal.of (P:=l.prog) (w:=w) (base:=base) F_worth_of (ok_worth_of F_worth_of m_worth_of C_joined_worth 10) m_worth_of (fun _ _ _ _ _ _ us hl=>by obtain ⟨u0,u1,u2,u3,rfl⟩:=len4 hl; rfl)
 have C_degree_of:=Cal.of (P:=l.prog) (w:=w) (base:=base) F_degree_of (ok_degree_of F_degree_of B.max C_names_in) m_degree_of (fun _ _ _ _ _ _ us hl=>by obtain ⟨u0,u1,rfl⟩:=len2 hl; rfl)
 have C_look_switches:=Cal.of (P:=l.prog) (w:=w) (base:=base) F_look_switches (ok_look_switches F_look_switches B.enumerate) m_look_switches (fun _ _ _ _ _ _ us hl=>by obtain ⟨u0,rfl⟩:=len1 hl; rfl)
 have C_look_names:=Cal.of (P:=l.prog) (w:=w) (base:=base) F_look_names (ok_look_names F_look_names C_names_in) m_look_names (fun _ _ _ _ _ _ us hl=>by obtain ⟨u0,u1,rfl⟩:=len2 hl; rfl)
 have C_look_field:=Cal.of (P:=l.prog) (w:=w) (base:=base) F_look_field (ok_look_field F_look_field ⟨te,W.mg_of X G ge⟩ C_is_field) m_look_field (fun _ _ _ _ _ _ us hl=>by obtain ⟨u0,rfl⟩:=len1 hl; rfl)
 have C_look_size:=Cal.of (P:=l.prog) (w:=w) (base:=base) F_look_size (ok_look_size F_look_size B.max) m_look_size (fun _ _ _ _ _ _ us hl=>by obtain ⟨u0,u1,rfl⟩:=len2 hl; rfl)
 have C_l_namesQ:=Cal.of (P:=l.prog) (w:=w) (base:=base) F_l_names (ok_l_namesQ F_l_names B.range C_l_take) m_l_names (fun _ _ _ _ _ _ us hl=>by obtain ⟨u0,u1,rfl⟩:=len2 hl; rfl)
 have C_l_names:=Cal.of (P:=l.prog) (w:=w) (base:=base) F_l_names ((ok_l_namesQ (P:=l.prog) (w:=w) (base:=base) F_l_names B.range C_l_take).imp spNQ) m_l_names (fun _ _ _ _ _ _ us hl=>by obtain ⟨u0,u1,rfl⟩:=len2 hl; rfl)
 have C_l_tree:=Cal.of (P:=l.prog) (w:=w) (base:=base) F_l_tree (ok_l_tree F_l_tree B.len m_l_tree C_l_take 10) m_l_tree (fun _ _ _ _ _ _ us hl=>by obtain ⟨u0,u1,u2,u3,rfl⟩:=len4 hl; rfl)
 have C_l_names_of:=Cal.of (P:=l.prog) (w:=w) (base:=base) F_l_names_of (ok_l_names_of F_l_names_of m_l_names_of 10) m_l_names_of (fun _ _ _ _ _ _ us hl=>by obtain ⟨u0,rfl⟩:=len1 hl; rfl)
 have C_l_need:=Cal.of (P:=l.prog) (w:=w) (base:=base) F_l_need (ok_l_need F_l_need B.len B.max C_l_names_of) m_l_need (fun _ _ _ _ _ _ us hl=>by obtain ⟨u0,u1,rfl⟩:=len2 hl; rfl)
 have C_l_is_prime:=Cal.of (P:=l.prog) (w:=w) (base:=base) F_l_is_prime (ok_l_is_prime F_l_is_prime B.range) m_l_is_prime (fun _ _ _ _ _ _ us hl=>by obtain ⟨u0,rfl⟩:=len1 hl; rfl)
 have C_l_field:=Cal.of (P:=l.prog) (w:=w) (base:=base) F_l_field (ok_l_field F_l_field C_l_take C_l_is_prime) m_l_field (fun _ _ _ _ _ _ us hl=>by obtain ⟨u0,u1,rfl⟩:=len2 hl; rfl)
 have C_l_game:=Cal.of (P:=l.prog) (w:=w) (base:=base) F_l_game (ok_l_game F_l_game B.range B.tuple C_l_take C_l_names C_l_tree C_l_need C_l_field) m_l_game (fun _ _ _ _ _ _ us hl=>by obtain ⟨u0,u1,u2,rfl⟩:=len3 hl; rfl)
 have G_gmI:=ok_ginit (P:=l.prog) (w:=w) (base:=base) F_gmI TG B.tuple B.len C_degree_of C_look_switches C_look_names C_look_field C_look_size
 have G_gmM:=ok_gmix (P:=l.prog) (w:=w) (base:=base) F_gmM TG B.reversed
 have G_gmW:=ok_gworth (P:=l.prog) (w:=w) (base:=base) F_gmW TG m_gmM G_gmM b_gmM C_worth_of
 have C_all_settings:=Cal.of (P:=l.prog) (w:=w) (base:=base) F_all_settings (ok_all_settings F_all_settings B.range) m_all_settings (fun _ _ _ _ _ _ us hl=>by obtain ⟨u0,rfl⟩:=len1 hl; rfl)
 have C_joined:=Cal.of (P:=l.prog) (w:=w) (base:=base) F_joined (ok_joined F_joined ) m_joined (fun _ _ _ _ _ _ us hl=>by obtain ⟨u0,u1,u2,rfl⟩:=len3 hl; rfl)
 have C_holds_at:=Cal.of (P:=l.prog) (w:=w) (base:=base) F_holds_at (ok_holds_at F_holds_at m_holds_at C_joined 12) m_holds_at (fun _ _ _ _ _ _ us hl=>by obtain ⟨u0,u1,u2,rfl⟩:=len3 hl; rfl)
 have C_count_of:=Cal.of (P:=l.prog) (w:=w) (base:=base) F_count_of (ok_count_of F_count_of B.len C_all_settings C_holds_at) m_count_of (fun _ _ _ _ _ _ us hl=>by obtain ⟨u0,u1,rfl⟩:=len2 hl; rfl)
 have C_counts_of:=Cal.of (P:=l.prog) (w:=w) (base:=base) F_counts_of (ok_counts_of F_counts_of TG C_count_of) m_counts_of (fun _ _ _ _ _ _ us hl=>by obtain ⟨u0,rfl⟩:=len1 hl; rfl)
 have C_true_row:=Cal.of (P:=l.prog) (w:=w) (base:=base) F_true_row (ok_true_row F_true_row B TG m_gmW G_gmW b_gmW C_all_settings) m_true_row (fun _ _ _ _ _ _ us hl=>by obtain ⟨u0,u1,u2,rfl⟩:=len3 hl; rfl)
 have C_divided:=Cal.of (P:=l.prog) (w:=w) (base:=base) F_divided (ok_divided F_divided C_inverse_of) m_divided (fun _ _ _ _ _ _ us hl=>by obtain ⟨u0,u1,u2,rfl⟩:=len3 hl; rfl)
 have C_op_value:=Cal.of (P:=l.prog) (w:=w) (base:=base) F_op_value (ok_op_value F_op_value C_divided) m_op_value (fun _ _ _ _ _ _ us hl=>by obtain ⟨u0,u1,u2,u3,rfl⟩:=len4 hl; rfl)
 have G_asI:=ok_ainit (P:=l.prog) (w:=w) (base:=base) F_asI B TA
 have G_asP:=ok_aplain (P:=l.prog) (w:=w) (base:=base) F_asP TA TG
 have G_asC:=ok_acoin (P:=l.prog) (w:=w) (base:=base) F_asC B TA TG
 have G_asN:=ok_atruths (P:=l.prog) (w:=w) (base:=base) F_asN TA C_counts_of C_true_row
 have G_asR:=ok_atrue (P:=l.prog) (w:=w) (base:=base) F_asR B TA TG m_asN G_asN b_asN C_value_at
 have AF:AskF l.prog w K mg base CA CG _ _ _ _ _ _:=⟨m_asP,G_asP,b_asP,m_asC,G_asC,b_asC,m_asR,G_asR,b_asR⟩
 have C_value_of:=Cal.of (P:=l.prog) (w:=w) (base:=base) F_value_of (ok_value_of F_value_of m_value_of TA TG AF C_op_value 5) m_value_of (fun _ _ _ _ _ _ us hl=>by obtain ⟨u0,u1,u2,rfl⟩:=len3 hl; rfl)
 have G_mcI:=ok_minit (P:=l.prog) (w:=w) (base:=base) F_mcI TM
 have G_mcR:=ok_mrow (P:=l.prog) (w:=w) (base:=base) F_mcR B TM C_value_of
 have G_mcS:=ok_msay (P:=l.prog) (w:=w) (base:=base) F_mcS B TM TA ⟨tm,W.mg_of X G gmo⟩ ⟨asmki,asaI,asiI,askcl⟩ G_asI b_asI m_mcR G_mcR b_mcR
 have MMk:Mk K CM mcgI:=⟨mcmki,mcaI,mciI,mckcl⟩
 have G_mcB:=ok_mbox (P:=l.prog) (w:=w) (base:=base) F_mcB TM
 have MGk:Mk K CG gmgI:=⟨gmmki,gmaI,gmiI,gmkcl⟩
 have C_l_degrees:=Cal.of (P:=l.prog) (w:=w) (base:=base) F_l_degrees (ok_l_degrees F_l_degrees B C_l_names_of) m_l_degrees (fun _ _ _ _ _ _ us hl=>by obtain ⟨u0,rfl⟩:=len1 hl; rfl)
 have C_l_worth:=Cal.of (P:=l.prog) (w:=w) (base:=base) F_l_worth (ok_l_worth F_l_worth B m_l_worth 10) m_l_worth (fun _ _ _ _ _ _ us hl=>by obtain ⟨u0,u1,u2,rfl⟩:=len3 hl; rfl)
 have C_l_mixed:=Cal.of (P:=l.prog) (w:=w) (base:=base) F_l_mixed (ok_l_mixed F_l_mixed B C_l_worth) m_l_mixed (fun _ _ _ _ _ _ us hl=>by obtain ⟨u0,u1,u2,rfl⟩:=len3 hl; rfl)
 have C_l_all:=Cal.of (P:=l.prog) (w:=w) (base:=base) F_l_all (ok_l_all F_l_all B) m_l_all (fun _ _ _ _ _ _ us hl=>by obtain ⟨u0,rfl⟩:=len1 hl; rfl)
 have C_l_sum:=Cal.of (P:=l.prog) (w:=w) (base:=base) F_l_sum (ok_l_sum F_l_sum B C_l_all C_l_mixed) m_l_sum (fun _ _ _ _ _ _ us hl=>by obtain ⟨u0,u1,u2,rfl⟩:=len3 hl; rfl)
 have C_l_count:=Cal.of (P:=l.prog) (w:=w) (base:=base) F_l_count (ok_l_count F_l_count B C_l_all C_l_mixed) m_l_count (fun _ _ _ _ _ _ us hl=>by obtain ⟨u0,u1,rfl⟩:=len2 hl; rfl)
 have C_l_whole:=Cal.of (P:=l.prog) (w:=w) (base:=base) F_l_whole (ok_l_whole F_l_whole B) m_l_whole (fun _ _ _ _ _ _ us hl=>by obtain ⟨u0,rfl⟩:=len1 hl; rfl)
 have C_l_numbers:=Cal.of (P:=l.prog) (w:=w) (base:=base) F_l_numbers (ok_l_numbers F_l_numbers B C_l_whole) m_l_numbers (fun _ _ _ _ _ _ us hl=>by obtain ⟨u0,u1,rfl⟩:=len2 hl; rfl)
 have C_l_index:=Cal.of (P:=l.prog) (w:=w) (base:=base) F_l_index (ok_l_index F_l_index B C_l_take) m_l_index (fun _ _ _ _ _ _ us hl=>by obtain ⟨u0,u1,rfl⟩:=len2 hl; rfl)
 have C_l_terms:=Cal.of (P:=l.prog) (w:=w) (base:=base) F_l_terms (ok_l_terms F_l_terms B C_l_take C_l_index) m_l_terms (fun _ _ _ _ _ _ us hl=>by obtain ⟨u0,u1,rfl⟩:=len2 hl; rfl)
 have C_l_true:=Cal.of (P:=l.prog) (w:=w) (base:=base) F_l_true (ok_l_true F_l_true B C_l_count C_l_sum) m_l_true (fun _ _ _ _ _ _ us hl=>by obtain ⟨u0,u1,u2,u3,u4,rfl⟩:=len5 hl; rfl)
 have C_l_right:=Cal.of (P:=l.prog) (w:=w) (base:=base) F_l_right (ok_l_right F_l_right B C_l_whole C_l_true) m_l_right (fun _ _ _ _ _ _ us hl=>by obtain ⟨u0,u1,u2,u3,u4,rfl⟩:=len5 hl; rfl)
 exact ok_law F_law B TM TG MGk G_gmI b_gmI MMk G_mcI b_mcI m_mcS G_mcS b_mcS m_mcB G_mcB b_mcB C_l_feed C_l_take C_l_namesQ C_l_game C_l_terms C_l_degrees C_l_numbers C_l_right
theorem walk {l:PySem.W.OpenLaw} {q:Program} {loose:List Str} {XP:(Str->Option Value)->Heap->Prop} {YP:World->Heap->Prop} {d:DefRec} {K:Params->PySem.W.Frag} (hn:l.most=some 63) (hdf:d.params.defaults=[])
 (hY:∀ (w:World) (h:Heap),YP w h->(K w.params).In h)
 (F:∀ (w:World) (mg:Str->Option Value) (fa:Addr) (h:Heap),(K w.params).In h->h.Ns mainGlobals mg->mg d.name=some (.ref fa) ->
  ∃ fd:FuncData,(∀ (s:Shared) (u:Value),BindsTo s fd ⟨[u],[]⟩ [("_law_script", u)])/\∀ base:Heap,(K w.params).In base->base.Ns mainGlobals mg->FnOk l.prog w (K w.params) mg base CX0 26 fa fd ["_law_script"] (spLaw (K w.params))) :
 PySem.W.WalkO q loose XP YP l.row.toRowW d [] (fun f vs=>PySem.call f vs) :=
 L2.walk_of (n:=63) (k:=26) (x := "_law_script") (CX:=fun _=>CX0) (sp:=fun w=>spLaw (K w.params)) hn (by decide) hdf ⟨rfl,by decide,by decide⟩ hY F (fun _ _ a ns hl _ hS=>⟨a,ns,rfl,hS,hl,fun _=>rfl⟩) fun _ _ _ _ _ z=>z
end Mine
namespace PySem.W.Fast
def tw9757970162117055512:=()
def tw9916978833911767882:=()
def tw16128423250797368155:=()
def tw2177198055877262960:=()
def tw14343409664196744862:=()
def tw9351613633790367302:=()
def tw17121309947098523527:=()
def tw16372282904033409472:=()
def tw7243370198999806649:=()
def tw10201232053939768481:=()
def tw12336752629407654025:=()
def tw16051964966619097051:=()
def tw1850117873102570741:=()
def tw4911419513282525476:=()
def tw3611384910428534416:=()
def tw1406291539787939324:=()
def tw16607613839887170737:=()
def tw8485667826470904815:=()
def tw3045865034403908319:=()
def tw3058034809970141417:=()
def tw6156765178093682282:=()
def tw831597756952676084:=()
def tw1245567224565931207:=()
def tw8876508604644595154:=()
def tw2155040265627543041:=()
def tw10711389498700292498:=()
def tw11304256515959256701:=()
def tw17100111635823092026:=()
def tw14749852808571206222:=()
def tw3047213812235505716:=()
def tw6900313924047078260:=()
def tw8948785511234594403:=()
def tw1559240019170413214:=()
def tw12718452128365834922:=()
def tw17686805651499539827:=()
def tw1420839037537055260:=()
def tw13856414604704996615:=()
def tw1896636286322245271:=()
def tw12991003513271415346:=()
def tw6462575933929728238:=()
def tw11085843325941247830:=()
def tw9296172762348726146:=()
def tw12518453652630671383:=()
def tw5744143786095260484:=()
def tw9425290574362850194:=()
def tw8806043820868173952:=()
def tw2385575775342432971:=()
def tw10993771546740470349:=()
def tw17656379946579444793:=()
def tw6787267066313071875:=()
def tw633486667999829793:=()
def tw426070039761675210:=()
def tw6158784255295466089:=()
def tw191762789723987969:=()
def tw13522880145048295468:=()
def tw4029066526392300291:=()
def tw10267158099283491331:=()
def tw11411013664685925505:=()
def tw17161400318200191152:=()
def tw1096458292419904705:=()
def tw7910623073617457120:=()
def tw2324081145820800930:=()
def tw15971097655398036366:=()
def tw16952194284750410688:=()
def tw12113954957231135486:=()
def tw7342185552724941774:=()
def tw14211092281400843894:=()
def tw470374227501336067:=()
def tw9347659715234508702:=()
def tw9889691968229480980:=()
def tw64377956405312999:=()
def tw8294962139478540266:=()
def tw2227331407491104148:=()
def tw12881688854717476309:=()
def tw14091970568605502715:=()
def tw12624518903558040927:=()
def tw16922380020561063539:=()
def tw6055012237659224285:=()
def tw6881311237486524360:=()
def tw11324436152084210147:=()
def tw6779933592244445701:=()
def tw13036015187409795497:=()
def tw10316307922388436053:=()
def tw8477369638424243192:=()
def tw2129464854689223632:=()
def tw11069419505525082909:=()
def tw16172103233923558895:=()
def tw254256976953473465:=()
def tw12340855621000776218:=()
def tw6272159934635719639:=()
def tw3952363396658607902:=()
def tw7215643872614614919:=()
def tw13106052442120740854:=()
def tw8845425619172729140:=()
def tw17501451020967690605:=()
def tw12973746837703507046:=()
def tw15519491075084120800:=()
def tw4716439757192508853:=()
def tw8690840057699834661:=()
def tw16773219262943320544:=()
def tw17922486003596414466:=()
def tw8743921081873292335:=()
def tw17919652444140488866:=()
def tw8847233625624396545:=()
def tw1131096412637967743:=()
def tw11779752219119129448:=()
def tw16593723829162819443:=()
def tw5540169007836129714:=()
def tw2892514548144557712:=()
def tw14732657007437322340:=()
def tw17285967529750772213:=()
def tw2552261514605178266:=()
def tw6457825852763766467:=()
def tw1914320853776354780:=()
def tw4165960883757698812:=()
def tw16821273174270897169:=()
def tw13748358532830041790:=()
def tw10246079428390188450:=()
def tw12213214488072189946:=()
def tw7314784575481604963:=()
def tw12952349116404487564:=()
def tw1022363272754126233:=()
def tw208244768886971467:=()
def tw13208407167746883775:=()
def tw24978731611777210:=()
def tw17741729716311122855:=()
def tw13411065562511166397:=()
def tw7925230706103987489:=()
def tw17922220672720262853:=()
def tw17429511167676044187:=()
def tw8105019365734345005:=()
def tw9763588514707864246:=()
def tw5990750095780718365:=()
def tw9393512592689383462:=()
def tw7322905966858619638:=()
def tw16466802280335671174:=()
def tw16714835546205824654:=()
def tw4309811677784642789:=()
def tw3487067599051163465:=()
def tw7173328731713232756:=()
def tw6683888721176491753:=()
def tw9611887940423802091:=()
def tw12370807890224476085:=()
def tw2351639201266437245:=()
def tw2510156792198556842:=()
def tw13895795381960106075:=()
def tw10726046618788870120:=()
def tw4013120453272814884:=()
def tw915265568584931998:=()
def tw11769335429946349880:=()
def tw12694536843697855023:=()
def tw1151489576153563397:=()
def tw8191636974157264035:=()
def tw10794227117737006582:=()
def tw14730650003887081433:=()
def tw9308999545399140052:=()
def tw8063384852944952625:=()
def tw1616746060884565051:=()
def tw17357987774125712499:=()
def tw4144538550929138034:=()
def tw17764602791664128253:=()
def tw13957762651981362847:=()
def tw17377297356360458864:=()
def tw10863903689665665118:=()
def tw6495392053109644382:=()
def tw15505586987908741884:=()
def tw18232817479809226374:=()
def tw2950692938808586869:=()
def tw13884301416830979330:=()
def tw14847343248454256837:=()
def tw332815104768505475:=()
def tw12846641012102086926:=()
def tw13424155710596272379:=()
def tw11820686379056336697:=()
def tw10682386646835602414:=()
def tw7939841464187003428:=()
def tw15602826699784774607:=()
def tw13926920171009840850:=()
def tw17010727810942166838:=()
def tw18446370378998586981:=()
def tw224619064803160714:=()
def tw1618126087055851792:=()
def tw16673900482193015976:=()
def tw1712769149325457571:=()
def tw741714478111302053:=()
def tw6773526609424762865:=()
def tw16818931860637450790:=()
def tw4559497566301503703:=()
def tw15436551068301845744:=()
def tw4611785599557563115:=()
def tw15781798263543245102:=()
def tw4460394670232424558:=()
def tw15275133779999756778:=()
def tw217076228900399463:=()
def tw13881084502444675153:=()
def tw1530177194241402731:=()
def tw17605368510020390163:=()
def tw68607664592646053:=()
def tw6182458384152047904:=()
def tw8246455478226073228:=()
def tw13549537640245607534:=()
def tw25776100938269510:=()
def tw6616158270802730563:=()
def tw17648125616070984273:=()
def tw13852526424174595776:=()
def tw13385229645981525984:=()
def tw11802582386623266046:=()
def tw9688547470106716750:=()
def tw6149981541290987896:=()
def tw10645605401925865370:=()
def tw8489029872984987312:=()
def tw5198856218621882139:=()
def tw17474239592543851787:=()
def tw7796721668289678938:=()
def tw7223584340284007800:=()
def tw2706083242810322205:=()
def tw4802743171251114607:=()
def tw13118119369920687908:=()
def tw10118040799717610163:=()
def tw8532706951766004717:=()
def tw669852998481533957:=()
def tw5442374273798385403:=()
def tw13345578829848913377:=()
def tw7532846046677119788:=()
def tw15354540525563590644:=()
def tw14704682480124732886:=()
def tw3529038107108680800:=()
def tw6883722631607222689:=()
def tw8450027267333209532:=()
def tw14251080468289056751:=()
def tw2132400525098117237:=()
def tw8367552395460661203:=()
def tw4815918657481120812:=()
def tw7942361725137521507:=()
def tw4701252997517136803:=()
def tw15362189892605263222:=()
def tw11620935441087636732:=()
def tw16045324411055710558:=()
def tw6969602246139675721:=()
def tw5439778391049342553:=()
def tw1060853715547155048:=()
def tw6632406920762812433:=()
def tw4045915163210448772:=()
def tw5369218209251198517:=()
def tw17834666536121766493:=()
def tw13541057998308821614:=()
def tw9017554968374793367:=()
def tw14040459448053707691:=()
def tw3833210654307607417:=()
def tw12763208944592714567:=()
def tw6304373490721586253:=()
def tw8661418787944439021:=()
def tw12021142994285071140:=()
def tw11926463332909505879:=()
def tw17449478858467000083:=()
def tw4248482727988226681:=()
def tw17118893268452200637:=()
def tw9896576618198730717:=()
def tw1336518191418447448:=()
def tw10731890792020014519:=()
def tw9350216339420830141:=()
def tw390917630817237374:=()
def tw8396094593113090929:=()
def tw163300455575254215:=()
def tw15754219065239195710:=()
def tw11088906485768591682:=()
def tw15420715514211917449:=()
def tw13032909081550921368:=()
def tw16504694123950947958:=()
def tw8510982885989710347:=()
def tw6104531192324248495:=()
def tw2008270607971461648:=()
def tw8246734023663197430:=()
def tw11941478373156973969:=()
def tw13532308667050423604:=()
def tw1584062586139583758:=()
def tw10430356436694170453:=()
def tw11691429034761105338:=()
def tw68912818789896744:=()
def tw15794201583747508973:=()
def tw5625975725980177397:=()
def tw4227262672065074132:=()
def tw9160845687267223398:=()
def tw18236591548913027410:=()
def tw17291418277247226999:=()
def tw3260337776930557191:=()
def tw12064048091755346868:=()
def tw17615003945854338122:=()
def tw2143154463383229993:=()
def tw10321250175063346114:=()
def tw4372665518900788466:=()
def tw3449315609750265637:=()
def tw621934522339894341:=()
def tw11553278897055194745:=()
def tw14625022356778079438:=()
def tw4267561906198242073:=()
def tw8198390664510265256:=()
def tw401035984851885683:=()
def tw8944264873706048465:=()
def tw6058785878704062479:=()
def tw8552339082334961596:=()
def tw12469095889694944696:=()
def tw2427225072838079850:=()
def tw12516756586707514421:=()
def tw15699118919264809235:=()
def tw2767851804922699762:=()
def tw10990614537305558739:=()
def tw3481387702520627454:=()
def tw16184106471680612469:=()
def tw10546689807620691025:=()
def tw3060990224690547188:=()
def tw8715614876947104555:=()
def tw8849463297410606175:=()
def tw13993268958110950850:=()
def tw8107276573808076349:=()
def tw12654450423118055686:=()
def tw18279378355742459352:=()
def tw1943033110410709174:=()
def tw962893711348343483:=()
def tw15307321181385289258:=()
def tw3374428484256860260:=()
def tw9848274974656914780:=()
def tw13038791702214547673:=()
def tw6779319490922240333:=()
def tw15212110053729177483:=()
def tw17977527188651249122:=()
def tw14860574736179021323:=()
def tw8807401597394968259:=()
def tw10786687728430122018:=()
def tw16908694618193606769:=()
def tw3695661554519733682:=()
def tw916947663249562491:=()
def tw14476253417096817934:=()
def tw2381521425158344840:=()
def tw5591064786725878254:=()
def tw256922381444758112:=()
def tw6108725826997918595:=()
def tw12184603158389648017:=()
def tw1169677088654332570:=()
def tw6162165221624651483:=()
def tw842600417278946608:=()
def tw347508750853373413:=()
def tw1415043908540977780:=()
def tw14208948936043760650:=()
def tw15456035902512540322:=()
def tw7342258917796570833:=()
def tw14971377595391509017:=()
def tw6191199687642609013:=()
def tw11070283294604342893:=()
def tw14485323458710087469:=()
def tw5787218867490927147:=()
def tw8866999365796313224:=()
def tw14191009670289405103:=()
def tw5839953731026793113:=()
def tw17105889631052311228:=()
def tw8732394931084110429:=()
def tw15842500900726216152:=()
def tw9135192833448295010:=()
def tw14300867149972295627:=()
def tw7316310890577751215:=()
def tw7914466695862124942:=()
def tw16884733525242035811:=()
def tw10071881147409931480:=()
def tw1190463297416822149:=()
def tw2858784565576864739:=()
def tw8500179197994774924:=()
def tw4733029227666384987:=()
def tw6053991154939154705:=()
def tw1063881690467771947:=()
def tw4830696630863986854:=()
def tw709096772516724997:=()
def tw10126554490621857804:=()
def tw6819555875291002740:=()
def tw11586397869052915194:=()
def tw9666584589860225660:=()
def tw14695839841801902930:=()
def tw1587178521506038797:=()
def tw767923029413518654:=()
def tw14625826568828406528:=()
def tw8639985326040911356:=()
def tw6310563928867787906:=()
def tw2096266873501566400:=()
def tw2133418201933906934:=()
def tw13077061253165740776:=()
def tw7872062130838080495:=()
def tw8612844028613342075:=()
def tw5290169520023571075:=()
def tw2833862787276246291:=()
def tw14119303684827071312:=()
def tw8604567451182715022:=()
def tw7823113604688684098:=()
def tw113131826393345262:=()
def tw13410192978615352318:=()
def tw267997086114514879:=()
def tw4568655986017035466:=()
def tw13642564326071159405:=()
def tw16114996896049090121:=()
def tw818746312680795390:=()
def tw1229940261499008706:=()
def tw1784524813330760070:=()
def tw6527482057155668445:=()
def tw3501242528086337385:=()
def tw15183357709644226629:=()
def tw11255119604240222778:=()
def tw4221894470641512963:=()
def tw1101895695732321038:=()
def tw3568773649619904972:=()
def tw6419936596355399798:=()
def tw4651283426181779324:=()
def tw16050079428079211140:=()
def tw4792393184377628165:=()
def tw17438600047576132850:=()
def tw10192163875085564897:=()
def tw11434067768586895565:=()
def tw4996092847803732972:=()
def tw11822402700699142641:=()
def tw10270535678148762826:=()
def tw13883756024329011514:=()
def tw8508206701063689525:=()
def tw4692855373047287744:=()
def tw8979029827688723139:=()
def tw6674404707192735386:=()
def tw12583062090691151098:=()
def tw11607386399775243319:=()
def tw842735844324817992:=()
def tw4894148269326735430:=()
def tw514311135092490992:=()
def tw16919488061360658779:=()
def tw11502158039688584059:=()
def tw11840444684196490262:=()
def tw3218752964299471322:=()
def tw2348643233734391664:=()
def tw8358047633621713895:=()
def tw12352558245899964326:=()
def tw3971239661038696918:=()
def tw2621054565660948306:=()
def tw1759035205398410172:=()
def tw16335399333948611642:=()
def tw13688327232582371421:=()
def tw7831525702164519948:=()
def tw8978898897586653614:=()
def tw16009427785110217232:=()
def tw16552146044510414209:=()
def tw5333701093930368087:=()
def tw8581227113161900369:=()
def tw2043199480398204073:=()
def tw6751701010392575157:=()
def tw2648222592688647625:=()
def tw124348915645346580:=()
def tw15505843736505398401:=()
def tw3512860873637676026:=()
def tw1740221062182768239:=()
def tw7435744147771518600:=()
def tw11375294882530741411:=()
def tw3669703503482529910:=()
def tw8949264258754362280:=()
def tw9672570749268713070:=()
def tw2044310501478401527:=()
def tw18129644983519325358:=()
def tw2212588070388273461:=()
def tw7991620976197402750:=()
def tw5151536724971787747:=()
def tw5151109867452070365:=()
def tw17641903836119059951:=()
def tw7759117490915334216:=()
def tw2177310948445823696:=()
def tw1316627540334583800:=()
def tw1548411684228647002:=()
def tw12474641726342393582:=()
def tw6230720327540190932:=()
def tw11522450781981028715:=()
def tw8489061453915291779:=()
def tw3140362920937056704:=()
def tw9463493226689916706:=()
def tw3667739576539093221:=()
def tw12270499536802176585:=()
def tw15355083408018538624:=()
def tw17856379064940261458:=()
def tw2505470245579528924:=()
def tw2186878649966363184:=()
def tw7973368185479347884:=()
def tw10986460591033678992:=()
def tw12473566158574953493:=()
def tw3192993155428403988:=()
def tw8926416855761169155:=()
def tw1886836359276400140:=()
def tw6481016580506427218:=()
def tw10317223536601496110:=()
def tw12820363119737571494:=()
def tw7860905015343090333:=()
def tw15335941977367316565:=()
def tw4557017858169780385:=()
def tw11198154639754752947:=()
def tw989527469693782152:=()
def tw7308523316488823610:=()
def tw8213435082203079186:=()
def tw4419117275393171023:=()
def tw8799663581392466562:=()
def tw3872862565228510395:=()
def tw18226290703837332063:=()
def tw14976963935052048215:=()
def tw16074340107151722958:=()
def tw10752759984811155851:=()
def tw17831078158326513285:=()
def tw4057341084805569551:=()
def tw12434288446365617995:=()
def tw440255976368448591:=()
def tw566583721033230362:=()
def tw10471653308214804609:=()
def tw9897986873904523317:=()
def tw9994276192007019146:=()
def tw9000370251806269056:=()
end PySem.W.Fast
open PySem PySem.W PyProof.Rows
set_option maxRecDepth 100000 in
set_option maxHeartbeats 0 in
theorem PySem.Challenge.cw_asktally_k36_what_terms_tell_holds : PySem.Challenge.rw_asktally_k36_what_terms_tell.Holds := by
 w_on; o_law; k_head; (case hw=>w_witness2)
 k_fill
 refine Mine.walk (l:=PySem.Challenge.rw_asktally_k36_what_terms_tell) rfl rfl (fun w h Y=>PySem.W.kIn_of Y) ?F
 case F =>
  intro w mg fa h KX G hmg
  refine' Mine.all_mk KX G hmg ?a0 ?l0 ?c0 ?k0 ?a1 ?l1 ?c1 ?k1 ?a2 ?l2 ?c2 ?k2 ?a3 ?l3 ?c3 ?k3 ?a4 ?l4 ?c4 ?k4 ?a5 ?l5 ?c5 ?k5 ?a6 ?l6 ?c6 ?k6 ?a7 ?l7 ?c7 ?k7 ?a8 ?l8 ?c8 ?k8 ?a9 ?l9 ?c9 ?k9 ?a10 ?l10 ?c10 ?k10 ?a11 ?l11 ?c11 ?k11 ?a12 ?l12 ?c12 ?k12 ?a13 ?l13 ?c13 ?k13 ?a14 ?l14 ?c14 ?k14 ?a15 ?l15 ?c15 ?k15 ?a16 ?l16 ?c16 ?k16 ?a17 ?l17 ?c17 ?k17 ?a18 ?l18 ?c18 ?k18 ?a19 ?l19 ?c19 ?k19 ?a20 ?l20 ?c20 ?k20 ?a21 ?l21 ?c21 ?k21 ?a22 ?l22 ?c22 ?k22 ?a23 ?l23 ?c23 ?k23 ?a24 ?l24 ?c24 ?k24 ?a25 ?l25 ?c25 ?k25 ?a26 ?l26 ?c26 ?k26 ?a27 ?l27 ?c27 ?k27 ?a28 ?l28 ?c28 ?k28 ?a29 ?l29 ?c29 ?k29 ?a30 ?l30 ?c30 ?k30 ?a31 ?l31 ?c31 ?k31 ?a32 ?l32 ?c32 ?k32 ?a33 ?l33 ?c33 ?k33 ?a34 ?l34 ?c34 ?k34 ?a35 ?l35 ?c35 ?k35 ?a36 ?l36 ?c36 ?k36 ?a37 ?l37 ?c37 ?k37 ?a38 ?l38 ?c38 ?k38 ?a39 ?l39 ?c39 ?k39 ?a40 ?l40 ?c40 ?k40 ?a41 ?l41 ?c41 ?k41 ?a42 ?l42 ?c42 ?k42 ?a43 ?l43 ?c43 ?k43 ?a44 ?l44 ?c44 ?k44 ?a45 ?l45 ?c45 ?k45 ?gmgg ?gmaI ?gmiI ?gmlI ?gmcI ?gmkI ?gmaM ?gmiM ?gmlM ?gmcM ?gmkM ?gmaW ?gmiW ?gmlW ?gmcW ?gmkW ?gmpg ?gmhdi ?gmpov ?gmsat ?gmmki ?gmkcl ?gmn_switches ?gmn_trees ?gmn_field ?gmn_degrees ?asgg ?asaI ?asiI ?aslI ?ascI ?askI ?asaP ?asiP ?aslP ?ascP ?askP ?asaC ?asiC ?aslC ?ascC ?askC ?asaN ?asiN ?aslN ?ascN ?askN ?asaR ?asiR ?aslR ?ascR ?askR ?aspg ?ashdi ?aspov ?assat ?asmki ?askcl ?asn_game ?asn_number ?asn_many ?asn_held ?asn_s ?asn_tossed ?asn_truths ?mcgg ?mcaI ?mciI ?mclI ?mccI ?mckI ?mcaS ?mciS ?mclS ?mccS ?mckS ?mcaR ?mciR ?mclR ?mccR ?mckR ?mcaB ?mciB ?mclB ?mccB ?mckB ?mcpg ?mchdi ?mcpov ?mcsat ?mcmki ?mckcl ?mcn_game ?mcn_helper ?mcn_next_round ?mcn_boxes ?ge ?gmo ?z0 ?z1 ?z2 ?z3 ?z4 ?z5 ?z6 ?z7 ?z8 ?z9 ?z10 ?z11 ?z12 ?z13 ?z14
  (case a0=>k_is); (case l0=>k_is); (case c0=>k_is); (case k0=>k_is)
  (case a1=>k_is); (case l1=>k_is); (case c1=>k_is); (case k1=>k_is)
  (case a2=>k_is); (case l2=>k_is); (case c2=>k_is); (case k2=>k_is)
  (case a3=>k_is); (case l3=>k_is); (case c3=>k_is); (case k3=>k_is)
  (case a4=>k_is); (case l4=>k_is); (case c4=>k_is); (case k4=>k_is)
  (case a5=>k_is); (case l5=>k_is); (case c5=>k_is); (case k5=>k_is)
  (case a6=>k_is); (case l6=>k_is); (case c6=>k_is); (case k6=>k_is)
  (case a7=>k_is); (case l7=>k_is); (case c7=>k_is); (case k7=>k_is)
  (case a8=>k_is); (case l8=>k_is); (case c8=>k_is); (case k8=>k_is)
  (case a9=>k_is); (case l9=>k_is); (case c9=>k_is); (case k9=>k_is)
  (case a10=>k_is); (case l10=>k_is); (case c10=>k_is); (case k10=>k_is)
  (case a11=>k_is); (case l11=>k_is); (case c11=>k_is); (case k11=>k_is)
  (case a12=>k_is); (case l12=>k_is); (case c12=>k_is); (case k12=>k_is)
  (case a13=>k_is); (case l13=>k_is); (case c13=>k_is); (case k13=>k_is)
  (case a14=>k_is); (case l14=>k_is); (case c14=>k_is); (case k14=>k_is)
  (case a15=>k_is); (case l15=>k_is); (case c15=>k_is); (case k15=>k_is)
  (case a16=>k_is); (case l16=>k_is); (case c16=>k_is); (case k16=>k_is)
  (case a17=>k_is); (case l17=>k_is); (case c17=>k_is); (case k17=>k_is)
  (case a18=>k_is); (case l18=>k_is); (case c18=>k_is); (case k18=>k_is)
  (case a19=>k_is); (case l19=>k_is); (case c19=>k_is); (case k19=>k_is)
  (case a20=>k_is); (case l20=>k_is); (case c20=>k_is); (case k20=>k_is)
  (case a21=>k_is); (case l21=>k_is); (case c21=>k_is); (case k21=>k_is)
  (case a22=>k_is); (case l22=>k_is); (case c22=>k_is); (case k22=>k_is)
  (case a23=>k_is); (case l23=>k_is); (case c23=>k_is); (case k23=>k_is)
  (case a24=>k_is); (case l24=>k_is); (case c24=>k_is); (case k24=>k_is)
  (case a25=>k_is); (case l25=>k_is); (case c25=>k_is); (case k25=>k_is)
  (case a26=>k_is); (case l26=>k_is); (case c26=>k_is); (case k26=>k_is)
  (case a27=>k_is); (case l27=>k_is); (case c27=>k_is); (case k27=>k_is)
  (case a28=>k_is); (case l28=>k_is); (case c28=>k_is); (case k28=>k_is)
  (case a29=>k_is); (case l29=>k_is); (case c29=>k_is); (case k29=>k_is)
  (case a30=>k_is); (case l30=>k_is); (case c30=>k_is); (case k30=>k_is)
  (case a31=>k_is); (case l31=>k_is); (case c31=>k_is); (case k31=>k_is)
  (case a32=>k_is); (case l32=>k_is); (case c32=>k_is); (case k32=>k_is)
  (case a33=>k_is); (case l33=>k_is); (case c33=>k_is); (case k33=>k_is)
  (case a34=>k_is); (case l34=>k_is); (case c34=>k_is); (case k34=>k_is)
  (case a35=>k_is); (case l35=>k_is); (case c35=>k_is); (case k35=>k_is)
  (case a36=>k_is); (case l36=>k_is); (case c36=>k_is); (case k36=>k_is)
  (case a37=>k_is); (case l37=>k_is); (case c37=>k_is); (case k37=>k_is)
  (case a38=>k_is); (case l38=>k_is); (case c38=>k_is); (case k38=>k_is)
  (case a39=>k_is); (case l39=>k_is); (case c39=>k_is); (case k39=>k_is)
  (case a40=>k_is); (case l40=>k_is); (case c40=>k_is); (case k40=>k_is)
  (case a41=>k_is); (case l41=>k_is); (case c41=>k_is); (case k41=>k_is)
  (case a42=>k_is); (case l42=>k_is); (case c42=>k_is); (case k42=>k_is)
  (case a43=>k_is); (case l43=>k_is); (case c43=>k_is); (case k43=>k_is)
  (case a44=>k_is); (case l44=>k_is); (case c44=>k_is); (case k44=>k_is)
  (case a45=>k_is); (case l45=>k_is); (case c45=>k_is); (case k45=>k_is)
  (case gmgg=>k_is)
  (case gmaI=>k_is)
  (case gmiI=>k_is)
  (case gmlI=>k_is)
  (case gmcI=>k_is)
  (case gmkI=>k_is)
  (case gmaM=>k_is)
  (case gmiM=>k_is)
  (case gmlM=>k_is)
  (case gmcM=>k_is)
  (case gmkM=>k_is)
  (case gmaW=>k_is)
  (case gmiW=>k_is)
  (case gmlW=>k_is)
  (case gmcW=>k_is)
  (case gmkW=>k_is)
  (case gmpg=>k_is)
  (case gmhdi=>k_is)
  (case gmpov=>k_is)
  (case gmsat=>k_is)
  (case gmmki=>k_is)
  (case gmkcl=>k_is)
  (case gmn_switches=>k_is)
  (case gmn_trees=>k_is)
  (case gmn_field=>k_is)
  (case gmn_degrees=>k_is)
  (case asgg=>k_is)
  (case asaI=>k_is)
  (case asiI=>k_is)
  (case aslI=>k_is)
  (case ascI=>k_is)
  (case askI=>k_is)
  (case asaP=>k_is)
  (case asiP=>k_is)
  (case aslP=>k_is)
  (case ascP=>k_is)
  (case askP=>k_is)
  (case asaC=>k_is)
  (case asiC=>k_is)
  (case aslC=>k_is)
  (case ascC=>k_is)
  (case askC=>k_is)
  (case asaN=>k_is)
  (case asiN=>k_is)
  (case aslN=>k_is)
  (case ascN=>k_is)
  (case askN=>k_is)
  (case asaR=>k_is)
  (case asiR=>k_is)
  (case aslR=>k_is)
  (case ascR=>k_is)
  (case askR=>k_is)
  (case aspg=>k_is)
  (case ashdi=>k_is)
  (case aspov=>k_is)
  (case assat=>k_is)
  (case asmki=>k_is)
  (case askcl=>k_is)
  (case asn_game=>k_is)
  (case asn_number=>k_is)
  (case asn_many=>k_is)
  (case asn_held=>k_is)
  (case asn_s=>k_is)
  (case asn_tossed=>k_is)
  (case asn_truths=>k_is)
  (case mcgg=>k_is)
  (case mcaI=>k_is)
  (case mciI=>k_is)
  (case mclI=>k_is)
  (case mccI=>k_is)
  (case mckI=>k_is)
  (case mcaS=>k_is)
  (case mciS=>k_is)
  (case mclS=>k_is)
  (case mccS=>k_is)
  (case mckS=>k_is)
  (case mcaR=>k_is)
  (case mciR=>k_is)
  (case mclR=>k_is)
  (case mccR=>k_is)
  (case mckR=>k_is)
  (case mcaB=>k_is)
  (case mciB=>k_is)
  (case mclB=>k_is)
  (case mccB=>k_is)
  (case mckB=>k_is)
  (case mcpg=>k_is)
  (case mchdi=>k_is)
  (case mcpov=>k_is)
  (case mcsat=>k_is)
  (case mcmki=>k_is)
  (case mckcl=>k_is)
  (case mcn_game=>k_is)
  (case mcn_helper=>k_is)
  (case mcn_next_round=>k_is)
  (case mcn_boxes=>k_is)
  (case ge=>k_is)
  (case gmo=>k_is)
  (case z0=>k_is)
  (case z1=>k_is)
  (case z2=>k_is)
  (case z3=>k_is)
  (case z4=>k_is)
  (case z5=>k_is)
  (case z6=>k_is)
  (case z7=>k_is)
  (case z8=>k_is)
  (case z9=>k_is)
  (case z10=>k_is)
  (case z11=>k_is)
  (case z12=>k_is)
  (case z13=>k_is)
  (case z14=>k_is)
