import PyProof.Rows.All
import Wide.All
import OpenK.AllK
import Wide.FinOn
import Lean
import PyProof.EqAt
import PyProof.EqKinds
import PyProof.TupleCall
import PySem.Challenge.RW_asktally_k65_idle_helper
set_option Elab.async false
set_option linter.all false
set_option maxRecDepth 100000
namespace L2
open PySem PySem.Spec PyProof.Rows
abbrev Key:=Sum Int Str
def keyIs:Key->Value->Bool
 | .inl k,v=>Value.isInt k v
 | .inr x,v=>Value.isStrOf x v
def keyH (w:World):Key->Int
 | .inl k=>hashInt k
 | .inr x=>hashStr w x
theorem cv:∀ {k:Key} {v:Value},keyIs k v=true->(∃ i t,k=Sum.inl i/\v=Value.int i t)∨(∃ x t,k=Sum.inr x/\v=Value.str x t)
 | .inl i,v,h=>by
   obtain ⟨t,e⟩:=Value.isInt_shape (k:=i) (v:=v) h
   exact .inl ⟨i,t,rfl,e⟩
 | .inr x,v,h=>by
   obtain ⟨t,e⟩:=Value.isStrOf_shape (x:=x) (v:=v) h
   exact .inr ⟨x,t,rfl,e⟩
theorem keyIs_int (i:Int) (t:Tok):keyIs (.inl i) (.int i t)=true:=by simp [keyIs,Value.isInt]
theorem keyIs_str (x:Str) (t:Tok):keyIs (.inr x) (.str x t)=true:=by simp [keyIs,Value.isStrOf]
theorem key_ll (a b:Int):decide ((Sum.inl a:Key)=Sum.inl b)=(a == b):=by
 by_cases e:a=b
 . subst e; simp
 . have h:¬ (Sum.inl a:Key)=Sum.inl b:=fun q=>e (Sum.inl.inj q)
   rw [decide_eq_false h]
   exact (beq_eq_false_iff_ne.mpr e).symm
theorem key_rr (a b:Str):decide ((Sum.inr a:Key)=Sum.inr b)=decide (a=b):=by
 by_cases e:a=b
 . subst e; simp
 . have h:¬ (Sum.inr a:Key)=Sum.inr b:=fun q=>e (Sum.inr.inj q)
   rw [decide_eq_false h,decide_eq_false e]
theorem key_lr (a:Int) (b:Str):decide ((Sum.inl a:Key)=Sum.inr b)=false:=decide_eq_false (fun q=>nomatch q)
theorem key_rl (a:Str) (b:Int):decide ((Sum.inr a:Key)=Sum.inl b)=false:=decide_eq_false (fun q=>nomatch q)
def cK (prog:Program) (w:World):PySem.KeyKind prog w Key where
 is:=keyIs
 hash:=keyH w
 inj:=fun v a b ha hb=>by
  rcases cv ha with ⟨i,t,rfl,rfl⟩ | ⟨x,t,rfl,rfl⟩
  . rcases cv hb with ⟨j,u,rfl,e⟩ | ⟨y,u,rfl,e⟩
    . injection e with e1 _; rw [e1]
    . exact nomatch e
  . rcases cv hb with ⟨j,u,rfl,e⟩ | ⟨y,u,rfl,e⟩
    . exact nomatch e
    . injection e with e1 _; rw [e1]
 byValue:=fun k v h=>by
  rcases cv h with ⟨i,t,rfl,rfl⟩ | ⟨x,t,rfl,rfl⟩ <;> rfl
 pyHash:=fun hv h=>by
  rcases cv hv with ⟨i,t,rfl,rfl⟩ | ⟨x,t,rfl,rfl⟩
  . exact wpAny_pyHash_int h
  . exact wpAny_pyHash_str h
 eqBool:=fun hu hv h=>by
  rcases cv hu with ⟨i,t,rfl,rfl⟩ | ⟨x,t,rfl,rfl⟩
  . rcases cv hv with ⟨j,u,rfl,rfl⟩ | ⟨y,u,rfl,rfl⟩
    . rw [key_ll] at h; exact wpAny_eqBool_int h
    . rw [key_lr] at h; exact SeqAt.EqAt.int_str i t y u _ _ _ _ h
  . rcases cv hv with ⟨j,u,rfl,rfl⟩ | ⟨y,u,rfl,rfl⟩
    . rw [key_rl] at h; exact SeqAt.EqAt.str_int x t j u _ _ _ _ h
    . rw [key_rr] at h; exact wpAny_eqBool_str h
 «strs»:=fun k x t v h=>by
  rcases cv h with ⟨i,u,rfl,e⟩ | ⟨y,u,rfl,e⟩
  . exact nomatch e
  . injection e with e1 _
    subst e1
    cases v <;> rfl
theorem mixKind_int (prog:Program) (w:World) (i:Int) (t:Tok):(cK prog w).is (.inl i) (.int i t)=true:=keyIs_int i t
theorem mixKind_str (prog:Program) (w:World) (x:Str) (t:Tok):(cK prog w).is (.inr x) (.str x t)=true:=keyIs_str x t
inductive V where
 | non | bl (b:Bool) | int (i:Int) | str (x:Str) | byt (b:Array UInt8) | flt (b:UInt64) | ref (a:Addr) | ty (n:String)
 deriving DecidableEq
def RelV:V->Value->Prop
 | .non,u=>u=Value.none
 | .bl b,u=>u=Value.bool b
 | .int i,u=>∃ t,u=Value.int i t
 | .str x,u=>∃ t,u=Value.str x t
 | .byt b,u=>∃ t,u=Value.bytes b t
 | .flt b,u=>∃ t,u=Value.float b t
 | .ref a,u=>u=Value.ref a
 | .ty n,u=>u=Value.type n
abbrev Vals:List V->List Value->Prop:=Paired RelV
theorem Vals.length {xs:List V} {us:List Value} (r:Vals xs us):xs.length=us.length:=Paired.length r
theorem Vals.get:∀ {xs:List V} {us:List Value} {i:Nat} {x:V},Vals xs us->xs[i]?=some x->∃ u,us[i]?=some u/\RelV x u
 | _,_,_,_,.nil,e=>by simp at e
 | _,_,0,_,.cons r _,e=>by simp at e; subst e; exact ⟨_,rfl,r⟩
 | _,_,i+1,x,.cons _ t,e=>by
   obtain ⟨u,h1,h2⟩:=Vals.get (i:=i) (x:=x) t (by simpa using e)
   exact ⟨u,by simpa using h1,h2⟩
theorem Vals.set {x:V} {u:Value} (r:RelV x u):∀ {xs:List V} {us:List Value} (i:Nat),Vals xs us->Vals (xs.set i x) (us.set i u)
 | _,_,_,.nil=>.nil
 | _,_,0,.cons _ t=>.cons r t
 | _,_,i+1,.cons q t=>.cons q (Vals.set r i t)
theorem Vals.append:∀ {xs ys:List V} {us ws:List Value},Vals xs us->Vals ys ws->Vals (xs++ys) (us++ws)
 | _,_,_,_,.nil,s=>s
 | _,_,_,_,.cons r t,s=>.cons r (Vals.append t s)
theorem Vals.take:∀ {xs:List V} {us:List Value} (n:Nat),Vals xs us->Vals (xs.take n) (us.take n)
 | _,_,0,_=>.nil
 | _,_,_+1,.nil=>.nil
 | _,_,n+1,.cons r t=>.cons r (Vals.take n t)
theorem Vals.drop:∀ {xs:List V} {us:List Value} (n:Nat),Vals xs us->Vals (xs.drop n) (us.drop n)
 | _,_,0,r=>r
 | _,_,_+1,.nil=>.nil
 | _,_,n+1,.cons _ t=>Vals.drop n t
def RelO:Option V->Option Value->Prop
 | some v,some u=>RelV v u
 | none,none=>True
 | _,_=>False
def KV {κ:Type}:List (κ × V)->List (κ × Value)->Prop:=Paired fun (p:κ × V) (q:κ × Value)=>p.1=q.1/\RelV p.2 q.2
def kV:Key->V
 | .inl i=>.int i
 | .inr x=>.str x
inductive HO where
 | lst (xs:List V)
 | tup (xs:List V)
 | dK (kvs:List (Key × V)) | dT (kvs:List (List Key × V))
 | set (S:Int->Bool) (n:Nat)
 | ins (C dx:Addr) (fs:List (Str × V))
 | own (x:Addr)
 | xd (fs:List (Str × V))
 | met (f x:Addr)
 | rng (lo hi:Int)
 | frz (o:Obj) (u:HO)
 | tbl (ps:Array Value)
 | ext (φ:Heap->Prop)
abbrev Hp:=Addr->Option HO
def upd (H:Hp) (a:Addr) (o:HO):Hp:=fun b=>if b=a then some o else H b
theorem upd_same {H:Hp} {a:Addr} {o:HO}:upd H a o a=some o:=by unfold upd; rw [if_pos rfl]
theorem ax {H:Hp} {a b:Addr} {o:HO} (h:b ≠ a):upd H a o b=H b:=by unfold upd; rw [if_neg h]
theorem ne_of {H:Hp} {a b:Addr} {o u:HO} (h:H a=some o) (h':H b=some u) (d:o ≠ u):a ≠ b:=by
 intro e; subst e; rw [h] at h'; exact d (Option.some.inj h')
theorem ai {H:Hp} {a b:Addr} {o:HO} (h:H a=some o) (h':H b=none):a ≠ b:=by
 intro e; subst e; rw [h] at h'; cases h'
section
variable (P:Program) (w:World)
def ObjOk (H:Hp) (h:Heap) (a:Addr):HO->Prop
 | .lst xs=>xs.length<=sizeLine/\∃ (its:List Value) (n:Nat),Vals xs its/\h.get? a=some { cls:=.type "list", data:=.seq its.toArray n }
 | .tup xs=>xs.length<=sizeLine/\∃ its:List Value,Vals xs its/\IsTup h a its.toArray/\∃ o,h.get? a=some o/\o.dict=none
 | .dK kvs=>kvs.length<=sizeLine/\(a == sysModules)=false/\∃ vs,KV kvs vs/\h.DictOf (cK P w) a vs
 | .dT kvs=>kvs.length<=sizeLine/\(a == sysModules)=false/\∃ xs:List (List Key × Addr × Value),
  Paired (fun (p:List Key × V) (q:List Key × Addr × Value)=>p.1=q.1/\H q.2.1=some (.tup (p.1.map kV))/\RelV p.2 q.2.2) kvs xs /\
  ∃ o es ep,h.get? a=some o/\o.ExactDict/\o.data=.dict es ep/\es.toList=xs.map (entryOfKey (tupleKind (cK P w)))/\(xs.map (·.1)).Nodup
 | .set S n=>h.SetOf (intKind P w) a S n
 | .ins C dx fs=>H dx=some (.own a)/\fs.length<=1000/\dx ≠ a/\h.get? a=some (PySem.W.instObj C dx) /\
  ∃ mA,h.Ns1 dx mA/\(∀ f,RelO (fs.lookup f) (mA f))/\PySem.Within mA (fs.map (·.1))
 | .own _=>∃ o,h.get? a=some o
 | .xd fs=>∃ mA,h.Ns1 a mA/\∀ f,RelO (fs.lookup f) (mA f)
 | .rng lo hi=>∃ t u v,h.get? a=some { cls:=.type "range", data:=.fields #[.int lo t,.int hi u,.int 1 v] }
 | .frz o u=>h.get? a=some o/\ObjOk H h a u
 | .tbl ps=>h.get? a=some { cls:=.none,data:=.fields ps }
 | .met f x=>h.get? a=some (PySem.W.methodObj (.ref f) (.ref x))
 | .ext φ=>φ h/\(∃ o,h.get? a=some o)/\∀ h1 h2:Heap,φ h1->(∀ o,h1.get? a=some o->h2.get? a=some o)->φ h2
def HOk (H:Hp) (h:Heap):Prop:=∀ a o,H a=some o->ObjOk P w H h a o
end
section
variable {P:Program} {w:World} {H H':Hp} {h h':Heap} {a:Addr} {o:HO}
theorem ObjOk.lt (x:ObjOk P w H h a o):a < h.objs.size:=by
 cases o with
 | lst xs=>obtain ⟨_,_,_,_,e⟩:=x; exact Heap.lt_size e
 | tup xs=>obtain ⟨_,_,_,p,_⟩:=x; exact p.lt
 | dK kvs=>obtain ⟨_,_,_,_,o,_,_,e,_⟩:=x; exact Heap.lt_size e
 | dT kvs=>obtain ⟨_,_,_,_,o,_,_,e,_⟩:=x; exact Heap.lt_size e
 | set S n=>obtain ⟨o,_,_,_,e,_⟩:=x; exact Heap.lt_size e
 | ins C dx fs=>obtain ⟨_,_,_,e,_⟩:=x; exact Heap.lt_size e
 | own y=>obtain ⟨_,e⟩:=x; exact Heap.lt_size e
 | xd fs=>obtain ⟨_,⟨_,_,_,e,_⟩,_⟩:=x; exact Heap.lt_size e
 | rng lo hi=>obtain ⟨_,_,_,e⟩:=x; exact Heap.lt_size e
 | frz ob u=>obtain ⟨e,_⟩:=x; exact Heap.lt_size e
 | tbl ps=>exact Heap.lt_size (show h.get? a=some _ from x)
 | met f y=>exact Heap.lt_size (show h.get? a=some _ from x)
 | ext φ=>obtain ⟨_,⟨_,e⟩,_⟩:=x; exact Heap.lt_size e
theorem Paired.mapP {α β:Type} {F G:α->β->Prop}:∀ {l₁:List α} {l₂:List β},Paired F l₁ l₂->(∀ a b,F a b->G a b)->Paired G l₁ l₂
 | _,_,.nil,_=>.nil
 | _,_,.cons r t,f=>.cons (f _ _ r) (Paired.mapP t f)
theorem ObjOk.stay (x:ObjOk P w H h a o) (k:∀ b u,(b=a∨H b=some (.own a))->h.get? b=some u->h'.get? b=some u)
 (ho:∀ b,H b=some (.own a)->H' b=some (.own a)) (ht:∀ b xs,H b=some (.tup xs)->H' b=some (.tup xs)):ObjOk P w H' h' a o:=by
 induction o with
 | lst xs=>obtain ⟨z,its,n,r,e⟩:=x; exact ⟨z,its,n,r,k _ _ (.inl rfl) e⟩
 | tup xs=>obtain ⟨z,its,r,⟨ob,e,c⟩,od,e2,d⟩:=x; exact ⟨z,its,r,⟨ob,k _ _ (.inl rfl) e,c⟩,od,k _ _ (.inl rfl) e2,d⟩
 | dK kvs=>obtain ⟨z,y,vs,r,ob,es,ep,e,c⟩:=x; exact ⟨z,y,vs,r,ob,es,ep,k _ _ (.inl rfl) e,c⟩
 | dT kvs =>
   obtain ⟨z,y,xs,r,ob,es,ep,e,c⟩:=x
   exact ⟨z,y,xs,Paired.mapP r fun p q z=>⟨z.1,ht _ _ z.2.1,z.2.2⟩,ob,es,ep,k _ _ (.inl rfl) e,c⟩
 | set S n=>obtain ⟨ob,es,ep,t,e,c⟩:=x; exact ⟨ob,es,ep,t,k _ _ (.inl rfl) e,c⟩
 | ins C dx fs =>
   obtain ⟨d,z,ne,e,mA,⟨od,es,ep,e2,c⟩,r⟩:=x
   exact ⟨ho _ d,z,ne,k _ _ (.inl rfl) e,mA,⟨od,es,ep,k _ _ (.inr d) e2,c⟩,r⟩
 | own y=>obtain ⟨ob,e⟩:=x; exact ⟨ob,k _ _ (.inl rfl) e⟩
 | xd fs=>obtain ⟨mA,⟨od,es,ep,e,c⟩,r⟩:=x; exact ⟨mA,⟨od,es,ep,k _ _ (.inl rfl) e,c⟩,r⟩
 | rng lo hi=>obtain ⟨t,u,v,e⟩:=x; exact ⟨t,u,v,k _ _ (.inl rfl) e⟩
 | frz ob u ih=>obtain ⟨e,q⟩:=x; exact ⟨k _ _ (.inl rfl) e,ih q⟩
 | tbl ps =>
   have e:h.get? a=some { cls:=.none,data:=.fields ps }:=x
   show h'.get? a=some { cls:=.none,data:=.fields ps }
   exact k a _ (.inl rfl) e
 | met f y =>
   have e:h.get? a=some (PySem.W.methodObj (.ref f) (.ref y)):=x
   show h'.get? a=some (PySem.W.methodObj (.ref f) (.ref y))
   exact k a _ (.inl rfl) e
 | ext φ=>obtain ⟨p,⟨o,e⟩,st⟩:=x; exact ⟨st _ _ p fun o q=>k _ _ (.inl rfl) q,⟨o,k _ _ (.inl rfl) e⟩,st⟩
theorem HOk.lt (x:HOk P w H h) (e:H a=some o):a < h.objs.size:=(x a o e).lt
theorem HOk.fresh (x:HOk P w H h) (e:h.objs.size<=a):H a=none:=by
 cases q:H a with
 | none=>rfl
 | some u=>exact absurd (Nat.lt_of_lt_of_le (x.lt q) e) (Nat.lt_irrefl _)
theorem HOk.kept (x:HOk P w H h) (k:∀ b u,h.get? b=some u->h'.get? b=some u):HOk P w H h':=fun a o e =>
 (x a o e).stay (fun b u _ q=>k b u q) (fun _ q=>q) fun _ _ q=>q
theorem HOk.laid (x:HOk P w H h) (k:∀ b u,h.get? b=some u->h'.get? b=some u) (hp:h.objs.size<=a) (new:ObjOk P w (upd H a o) h' a o):HOk P w (upd H a o) h':=fun b u e=>by
 have hn:=x.fresh hp
 by_cases hb:b=a
 . subst hb; rw [upd_same] at e; cases e; exact new
 . rw [ax hb] at e
   exact (x b u e).stay (fun c v _ q=>k c v q) (fun c q=>by rw [ax (ai q hn)]; exact q) fun c xs q=>by rw [ax (ai q hn)]; exact q
end
def Rd (H:Hp) (a:Addr) (u:HO):Prop:=H a=some u∨∃ o,H a=some (.frz o u)
theorem Rd.ok {P:Program} {w:World} {H:Hp} {h:Heap} {a:Addr} {u:HO} (r:Rd H a u) (x:HOk P w H h):ObjOk P w H h a u:=by
 rcases r with r | ⟨o,r⟩
 . exact x a u r
 . obtain ⟨_,q⟩:=x a _ r
   exact q
def Mut:Option HO->Prop
 | some (.lst _)=>True
 | some (.dK _)=>True
 | some (.dT _)=>True
 | some (.set _ _)=>True
 | some (.ins _ _ _)=>True
 | some (.ext _)=>True
 | _=>False
section
variable {P:Program} {w:World} {H:Hp} {h h':Heap} {x e:Addr} {o':HO}
theorem HOk.write (ok:HOk P w H h) (mu:Mut (H x)) (he:e=x∨H e=some (.own x)) (k:∀ b u,b ≠ e->h.get? b=some u->h'.get? b=some u) (heo:∃ u,h'.get? e=some u)
 (new:ObjOk P w (upd H x o') h' x o'):HOk P w (upd H x o') h':=fun b u q=>by
 have nown:∀ c y,H c=some (.own y)->c ≠ x:=fun c y r z=>by subst z; rw [r] at mu; exact mu
 have ntup:∀ c xs,H c=some (.tup xs)->c ≠ x:=fun c xs r z=>by subst z; rw [r] at mu; exact mu
 by_cases hb:b=x
 . subst hb; rw [upd_same] at q; cases q; exact new
 . rw [ax hb] at q
   by_cases hbe:b=e
   . have q':H b=some (.own x):=by
      rcases he with z | z
      . exact absurd (hbe.trans z) hb
      . rw [hbe]; exact z
     rw [q] at q'; cases q'
     obtain ⟨v,hv⟩:=heo
     exact ⟨v,by rw [hbe]; exact hv⟩
   . refine (ok b u q).stay (fun c v hc r=>k c v ?_ r) (fun c r=>by rw [ax (nown c b r)]; exact r) fun c xs r=>by rw [ax (ntup c xs r)]; exact r
     rcases hc with rfl | hc
     . exact hbe
     . rintro rfl
       rcases he with z | z
       . exact nown c b hc z
       . rw [hc] at z; cases z; exact hb rfl
end
structure Un (fs ex:List Addr) (H H':Hp) (h h':Heap):Prop where
 keep:∀ b o,h.get? b=some o->H b=none->b ∉ fs->b ∉ ex->h'.get? b=some o
 slot:∀ b o,h.get? b=some o->H b=none->b ∈ fs->b ∉ ex->∃ sl,h'.get? b=some { o with slots:=sl }
 free:∀ b o,h.get? b=some o->H b=none->b ∉ ex->H' b=none
 there:∀ b o,h.get? b=some o->b ∉ ex->∃ o',h'.get? b=some o'
 tups:∀ b xs,H b=some (.tup xs)->H' b=some (.tup xs)
 frzs:∀ b o u,H b=some (.frz o u)->H' b=some (.frz o u)
 tbls:∀ b ps,H b=some (.tbl ps)->∃ more,H' b=some (.tbl (ps++more))
section
variable {fs fs' ex ex':List Addr} {H H1 H2:Hp} {h h1 h2 h':Heap} {a x e:Addr} {o:HO}
theorem Un.any (u:Un fs ex H H1 h h1) {b:Addr} {ob:Obj} (q:h.get? b=some ob) (n:H b=none) (hx:b ∉ ex):∃ sl,h1.get? b=some { ob with slots:=sl }:=by
 by_cases hb:b ∈ fs
 . exact u.slot b ob q n hb hx
 . exact ⟨ob.slots,u.keep b ob q n hb hx⟩
theorem Un.kept (k:∀ b u,h.get? b=some u->h'.get? b=some u):Un fs ex H H h h' :=
 ⟨fun b ob q _ _ _=>k b ob q,fun b ob q _ _ _=>⟨ob.slots,k b ob q⟩,fun _ _ _ n _=>n,fun b ob q _=>⟨ob,k b ob q⟩,fun _ _ q=>q,fun _ _ _ q=>q,fun _ ps q=>⟨#[],by rw [q]; simp⟩⟩
theorem Un.refl:Un fs ex H H h h:=Un.kept fun _ _ q=>q
theorem Un.laid (k:∀ b u,h.get? b=some u->h'.get? b=some u) (hp:h.objs.size<=a) (hn:H a=none):Un fs ex H (upd H a o) h h' where
 keep:=fun b u q _ _ _=>k b u q
 slot:=fun b u q _ _ _=>⟨u.slots,k b u q⟩
 free:=fun b u q n _=>by rw [ax (Nat.ne_of_lt (Nat.lt_of_lt_of_le (Heap.lt_size q) hp))]; exact n
 there:=fun b u q _=>⟨u,k b u q⟩
 tups:=fun b xs q=>by rw [ax (ai q hn)]; exact q
 frzs:=fun b u xs q=>by rw [ax (ai q hn)]; exact q
 tbls:=fun b ps q=>⟨#[],by rw [ax (ai q hn),q]; simp⟩
theorem Un.write (mu:Mut (H x)) (he:e=x∨H e=some (.own x)) (k:∀ b u,b ≠ e->h.get? b=some u->h'.get? b=some u) (heo:∃ u,h'.get? e=some u):Un fs ex H (upd H x o) h h':=by
 have hx:∀ b,H b=none->b ≠ x:=fun b n z=>by subst z; rw [n] at mu; exact mu
 have hb:∀ b,H b=none->b ≠ e:=fun b n z=>by
  subst z
  rcases he with r | r
  . exact hx b n r
  . rw [n] at r; cases r
 have hm:∀ b u,H b=some u->¬ Mut (some u)->b ≠ x:=fun b u q nm z=>by subst z; rw [q] at mu; exact nm mu
 refine ⟨fun b u q n _ _=>k b u (hb b n) q,fun b u q n _ _=>⟨u.slots,k b u (hb b n) q⟩,fun b u q n _=>by rw [ax (hx b n)]; exact n,fun b u q _=>?_,
  fun b xs q=>by rw [ax (hm b _ q fun z=>z)]; exact q,fun b u xs q=>by rw [ax (hm b _ q fun z=>z)]; exact q,fun b ps q=>⟨#[],by rw [ax (hm b _ q fun z=>z),q]; simp⟩⟩
 by_cases hbe:b=e
 . subst hbe; exact heo
 . exact ⟨u,k b u hbe q⟩
end
def trk (h:Heap) (H:Hp):List Addr:=(List.range h.objs.size).filter fun a=>(H a).isSome
def hidT (h:Heap) (H:Hp):Heap:=PySem.W.hideAll h (trk h H)
theorem hidT_size (h:Heap) (H:Hp):(hidT h H).objs.size=h.objs.size:=PySem.W.hideAll_size _ _
theorem hidT_get {h:Heap} {H:Hp} {b:Addr} {o:Obj} (e:h.get? b=some o) (n:H b=none):(hidT h H).get? b=some o :=
 PySem.W.hideAll_get _ e fun hm=>by
  have q:(H b).isSome=true:=(List.mem_filter.mp hm).2
  rw [n] at q; simp at q
theorem of_hidT {h:Heap} {H:Hp} {b:Addr} {o:Obj} (e:(hidT h H).get? b=some o):h.get? b=some o/\H b=none:=by
 have e':h.get? b=some o:=PySem.W.of_hideAll (trk h H) e
 refine ⟨e',?_⟩
 cases q:H b with
 | none=>rfl
 | some x =>
   have hm:b ∈ trk h H:=List.mem_filter.mpr ⟨List.mem_range.mpr (Heap.lt_size e'),by simp [q]⟩
   have z:(hidT h H).get? b=none:=PySem.W.hideAll_none (trk h H) hm
   rw [z] at e; cases e
structure Mod (K:W.Frag) (mg:Str->Option Value) (base:Heap):Prop where
 kin:K.In base
 glob:base.Ns mainGlobals mg
 blt:∃ mb,base.Ns builtinsNs mb/\∀ x:Str,x ≠ "__name__" -> mb x=bootBuiltins x
 nolimit:base.NoLimit
structure Cx where
 prog:Program
 w:World
 K:W.Frag
 mg:Str->Option Value
 base:Heap
 A:Around
 N:List Str
 s₀:Shared
 H₀:Hp
 env:Env
 outer:List Env
 stack:List Env
 ex:List Addr
 fn:Str->Bool
 calm:Bool
 pn:List (Addr × Obj)
 xe:Value->Shared->Prop
def frs (l:List Env):List Addr:=l.filterMap (·.frame)
abbrev Cx.fs (X:Cx):List Addr:=frs X.outer
def Vis (sc:Scope) (x:Str):Prop:=sc.names.lookup x=some .local∨sc.names.lookup x=some .cell∨sc.names.lookup x=some .free
def Loc (sc:Scope) (x:Str):Prop:=sc.names.lookup x=some .local∨sc.names.lookup x=some .cell
def Look (env:Env) (h:Heap) (m:Str->Option Value) (x:Str) (u:Value):Prop :=
 (env.kindOf x=some .local/\m x=some u)∨((env.kindOf x=some .cell∨env.kindOf x=some .free)/\∃ c,env.cells.lookup x=some c/\h.IsCell c (some u))
structure Cx.Ok (X:Cx):Prop where
 mod:Mod X.K X.mg X.base
 kind:X.env.scope.kind=.function
 glob:X.env.globals=mainGlobals
 blt:X.env.builtins=builtinsNs
 above:X.s₀.heap.objs.size<=X.env.locals
 inj:∀ x y c,X.env.cells.lookup x=some c->X.env.cells.lookup y=some c->x=y
 has:∀ x,(X.env.kindOf x=some .cell∨X.env.kindOf x=some .free)->∃ c,X.env.cells.lookup x=some c
 cab:∀ x c,X.fn x=true->X.env.cells.lookup x=some c->X.s₀.heap.objs.size<=c
 hd:X.calm=true->X.A.handled=none
 frames:X.A.frames=some X.stack
 stk:X.stack=X.outer∨(X.stack=X.env::X.outer/\X.env.frame=some X.env.locals)
 exf:∀ b ∈ X.ex,b ≠ X.env.locals/\∀ x c,X.env.cells.lookup x=some c->c ≠ b
 bs:∀ b o,X.base.get? b=some o->X.s₀.heap.get? b=some o/\X.H₀ b=none
 bsz:X.base.objs.size<=X.s₀.heap.objs.size
 noex:∀ b o,X.base.get? b=some o->b ∉ X.ex
 exfs:∀ b ∈ X.ex,b ∉ X.fs
 funs:X.s₀.heap.FunFrames X.base X.outer
 frf:∀ b ∈ X.fs,X.H₀ b=none
structure Inv (X:Cx) (pins:List (Addr × Obj)) (σ:List (Option V)) (H:Hp) (s:Shared):Prop where
 ok:X.Ok
 os:s.os=X.s₀.os
 bare:AllBare s.gens
 base:Un X.fs X.ex X.H₀ H X.s₀.heap s.heap
 loc:∃ m,s.heap.Ns X.env.locals m/\∀ (i:Nat) (x:Str) (v:V),X.N[i]?=some x->σ[i]?=some (some v)->Vis X.env.scope x->∃ u,RelV v u/\Look X.env s.heap m x u
 cell:∀ x c,X.env.cells.lookup x=some c->∃ v,s.heap.IsCell c v
 free:H X.env.locals=none
 freeC:∀ x c,X.env.cells.lookup x=some c->H c=none
 pin:∀ p ∈ X.pn++pins,s.heap.get? p.1=some p.2/\H p.1=none/\p.1 ≠ X.env.locals/\p.1 ∉ X.fs/\∀ v,p.2.data ≠ .cell v
 hok:HOk X.prog X.w H s.heap
 len:σ.length=X.N.length
section
variable {X:Cx} {pins:List (Addr × Obj)} {σ:List (Option V)} {H H':Hp} {s:Shared} {h':Heap}
theorem Cx.Ok.nofr (ok:X.Ok) {b:Addr} {o:Obj} (e:X.base.get? b=some o):b ∉ X.fs:=fun hb=>by
 have:=(ok.funs.mem hb).1
 rw [e] at this; cases this
theorem Inv.bs (I:Inv X pins σ H s):∀ b o,X.base.get? b=some o->s.heap.get? b=some o/\H b=none:=fun b o e =>
 ⟨I.base.keep b o (I.ok.bs b o e).1 (I.ok.bs b o e).2 (I.ok.nofr e) (I.ok.noex b o e),I.base.free b o (I.ok.bs b o e).1 (I.ok.bs b o e).2 (I.ok.noex b o e)⟩
theorem Inv.bk (I:Inv X pins σ H s):∀ b o,X.base.get? b=some o->s.heap.get? b=some o:=fun b o e=>(I.bs b o e).1
theorem Inv.mod (I:Inv X pins σ H s):Mod X.K X.mg X.base:=I.ok.mod
theorem Inv.kIn (I:Inv X pins σ H s):X.K.In s.heap:=I.ok.mod.kin.keeps I.bk
theorem Inv.lt (I:Inv X pins σ H s):X.env.locals < s.heap.objs.size:=let ⟨_,hn,_⟩:=I.loc; hn.lt
theorem Inv.sz (I:Inv X pins σ H s):X.s₀.heap.objs.size<=s.heap.objs.size:=Nat.le_trans I.ok.above (Nat.le_of_lt I.lt)
theorem Inv.nofs (I:Inv X pins σ H s) {a:Addr} (h:s.heap.objs.size<=a):a ∉ X.fs:=fun hb=>by
 obtain ⟨_,o,ho,_⟩:=I.ok.funs.mem hb
 exact absurd (Nat.lt_of_lt_of_le (Heap.lt_size ho) (Nat.le_trans I.sz h)) (Nat.lt_irrefl _)
theorem Inv.cne (I:Inv X pins σ H s):∀ x c,X.env.cells.lookup x=some c->c ≠ X.env.locals:=fun x c e z=>by
 obtain ⟨v,o,ho,hd⟩:=I.cell x c e
 obtain ⟨m,⟨o',es,ep,ho',hd',_⟩,_⟩:=I.loc
 rw [z,ho'] at ho; cases ho; rw [hd'] at hd; cases hd
theorem Inv.funs (I:Inv X pins σ H s):s.heap.FunFrames X.base X.outer:=by
 have all:∀ (l:List Env),(∀ b ∈ frs l,b ∈ X.fs)->X.s₀.heap.FunFrames X.base l->s.heap.FunFrames X.base l:=by
  intro l
  induction l with
  | nil=>intro _ _; trivial
  | cons env r ih =>
    intro hs hl
    obtain ⟨hk,⟨L,o,hf,hn,ho,hd⟩,hr⟩:=hl
    have hL:L ∈ X.fs:=hs L (by unfold frs; rw [List.filterMap_cons,hf]; exact List.mem_cons_self)
    obtain ⟨sl,e⟩:=I.base.slot L o ho (I.ok.frf L hL) hL fun z=>I.ok.exfs L z hL
    exact ⟨hk,⟨L,_,hf,hn,e,hd⟩,ih (fun b hb=>hs b (by unfold frs; rw [List.filterMap_cons,hf]; exact List.mem_cons_of_mem _ hb)) hr⟩
 exact all X.outer (fun _ hb=>hb) I.ok.funs
theorem Inv.stack (I:Inv X pins σ H s):s.heap.FunFrames X.base X.stack:=by
 rcases I.ok.stk with e | ⟨e,hf⟩
 . rw [e]; exact I.funs
 . rw [e]
   obtain ⟨m,hn,_⟩:=I.loc
   refine .cons (by rw [I.ok.kind]; decide) hf hn ?_ I.funs
   exact Heap.get?_none_of_le (Nat.le_trans I.ok.bsz I.ok.above)
theorem Inv.stkSub (I:Inv X pins σ H s):∀ b ∈ frs X.stack,b ∈ X.env.locals::X.fs:=fun b hb=>by
 rcases I.ok.stk with e | ⟨e,hf⟩
 . rw [e] at hb; exact List.mem_cons_of_mem _ hb
 . rw [e] at hb
   unfold frs at hb
   rw [List.filterMap_cons,hf] at hb
   exact hb
theorem Inv.stkFree (I:Inv X pins σ H s):∀ b ∈ frs X.stack,H b=none:=fun b hb=>by
 rcases List.mem_cons.mp (I.stkSub b hb) with e | hb
 . rw [e]; exact I.free
 . obtain ⟨_,o,ho,_⟩:=I.ok.funs.mem hb
   exact I.base.free b o ho (I.ok.frf b hb) fun z=>I.ok.exfs b z hb
theorem Inv.step {g':Array GenState} {t':Nat} {d':Drawn} {ch:List Addr} (I:Inv X pins σ H s)
 (hch:∀ b ∈ ch,(b ∈ X.ex∨X.s₀.heap.objs.size<=b)/\b ≠ X.env.locals/\(∀ x c,X.env.cells.lookup x=some c->c ≠ b)/\∀ p ∈ X.pn++pins,p.1 ≠ b)
 (keep:∀ b o,b ≠ X.env.locals->b ∉ X.fs->b ∉ ch->s.heap.get? b=some o->H b=none->h'.get? b=some o)
 (slot:∀ b o,b ≠ X.env.locals->b ∈ X.fs->b ∉ ch->s.heap.get? b=some o->H b=none->∃ sl,h'.get? b=some { o with slots:=sl }) (free:∀ b o,b ∉ ch->s.heap.get? b=some o->H b=none->H' b=none)
 (there:∀ b o,b ∉ ch->s.heap.get? b=some o->∃ o',h'.get? b=some o')
 (tups:∀ b xs,H b=some (.tup xs)->H' b=some (.tup xs)) (frzs:∀ b o u,H b=some (.frz o u)->H' b=some (.frz o u)) (tbls:∀ b ps,H b=some (.tbl ps)->∃ more,H' b=some (.tbl (ps++more)))
 (ns:∀ m,s.heap.Ns X.env.locals m->h'.Ns X.env.locals m) (hok:HOk X.prog X.w H' h') (hg:AllBare g') :
 Inv X pins σ H' { s with heap:=h',gens:=g',drawn:=d',toks:=t' }:=by
 have neL:∀ b o,X.s₀.heap.get? b=some o->b ≠ X.env.locals:=fun b o e=>Nat.ne_of_lt (Nat.lt_of_lt_of_le (Heap.lt_size e) I.ok.above)
 have neC:∀ b o,X.s₀.heap.get? b=some o->b ∉ X.ex->b ∉ ch:=fun b o e hx hb=>by
  rcases (hch b hb).1 with z | z
  . exact hx z
  . exact absurd (Nat.lt_of_lt_of_le (Heap.lt_size e) z) (Nat.lt_irrefl _)
 have cellK:∀ x c,X.env.cells.lookup x=some c->∀ v,s.heap.IsCell c v->h'.IsCell c v:=fun x c e v ⟨o,ho,hd⟩=>by
  have nch:c ∉ ch:=fun z=>(hch c z).2.2.1 x c e rfl
  by_cases hc:c ∈ X.fs
  . obtain ⟨sl,q⟩:=slot c o (I.cne x c e) hc nch ho (I.freeC x c e)
    exact ⟨_,q,hd⟩
  . exact ⟨o,keep c o (I.cne x c e) hc nch ho (I.freeC x c e),hd⟩
 refine ⟨I.ok,I.os,hg,⟨fun b o e n hb hx=>?_,fun b o e n hb hx=>?_,fun b o e n hx=>?_,fun b o e hx=>?_,fun b xs e=>tups b xs (I.base.tups b xs e),fun b o xs e=>frzs b o xs (I.base.frzs b o xs e),fun b ps e=>?_⟩,?_,fun x c e=>?_,?_,fun x c e=>?_,fun p hp=>?_,hok,I.len⟩
 . exact keep b o (neL b o e) hb (neC b o e hx) (I.base.keep b o e n hb hx) (I.base.free b o e n hx)
 . obtain ⟨sl,e1⟩:=I.base.slot b o e n hb hx
   obtain ⟨sl',e2⟩:=slot b _ (neL b o e) hb (neC b o e hx) e1 (I.base.free b o e n hx)
   exact ⟨sl',e2⟩
 . obtain ⟨o',e1⟩:=I.base.there b o e hx
   exact free b o' (neC b o e hx) e1 (I.base.free b o e n hx)
 . obtain ⟨o',e1⟩:=I.base.there b o e hx
   exact there b o' (neC b o e hx) e1
 . obtain ⟨m1,e1⟩:=I.base.tbls b ps e
   obtain ⟨m2,e2⟩:=tbls b _ e1
   exact ⟨m1++m2,by rw [e2,Array.append_assoc]⟩
 . obtain ⟨m,hn,hl⟩:=I.loc
   refine ⟨m,ns m hn,fun i x v e1 e2 e3=>?_⟩
   obtain ⟨u,r,l⟩:=hl i x v e1 e2 e3
   refine ⟨u,r,?_⟩
   rcases l with l | ⟨k,c,e,z⟩
   . exact .inl l
   . exact .inr ⟨k,c,e,cellK x c e _ z⟩
 . obtain ⟨v,z⟩:=I.cell x c e
   exact ⟨v,cellK x c e v z⟩
 . obtain ⟨m,⟨o,_,_,ho,_⟩,_⟩:=I.loc
   exact free _ o (fun z=>(hch _ z).2.1 rfl) ho I.free
 . obtain ⟨v,o,ho,hd⟩:=I.cell x c e
   exact free c o (fun z=>(hch c z).2.2.1 x c e rfl) ho (I.freeC x c e)
 . obtain ⟨e,n,ne,nf,d⟩:=I.pin p hp
   have nch:p.1 ∉ ch:=fun z=>(hch p.1 z).2.2.2 p hp rfl
   exact ⟨keep p.1 p.2 ne nf nch e n,free p.1 p.2 nch e n,ne,nf,d⟩
theorem Inv.un {t':Nat} (I:Inv X pins σ H s) (u:Un X.fs [] H H' s.heap h') (hok:HOk X.prog X.w H' h'):Inv X pins σ H' { s with heap:=h',toks:=t' }:=by
 obtain ⟨m,⟨o,es,ep,ho,r⟩,_⟩:=id I.loc
 obtain ⟨sl,hL⟩:=u.any ho I.free (by simp)
 exact I.step (g':=s.gens) (d':=s.drawn) (ch:=[]) (fun _ z=>nomatch z) (fun b o _ hb _ e n=>u.keep b o e n hb (by simp)) (fun b o _ hb _ e n=>u.slot b o e n hb (by simp)) (fun b o _ e n=>u.free b o e n (by simp)) (fun b o _ e=>u.there b o e (by simp)) u.tups u.frzs u.tbls (fun m' hm=>by
  obtain ⟨o',es',ep',ho',r'⟩:=hm
  rw [ho] at ho'; cases ho'
  exact ⟨_,es',ep',hL,r'⟩) hok I.bare
theorem Inv.call {g':Array GenState} {t':Nat} {d':Drawn} {ch:List Addr} (I:Inv X pins σ H s) (u:Un (frs X.stack) ch H H' s.heap h') (hok:HOk X.prog X.w H' h') (hg:AllBare g')
 (hch:∀ b ∈ ch,(b ∈ X.ex∨X.s₀.heap.objs.size<=b)/\b ≠ X.env.locals/\(∀ x c,X.env.cells.lookup x=some c->c ≠ b)/\∀ p ∈ X.pn++pins,p.1 ≠ b) :
 Inv X pins σ H' { s with heap:=h',gens:=g',drawn:=d',toks:=t' }:=by
 obtain ⟨m,⟨o,es,ep,ho,r⟩,_⟩:=id I.loc
 obtain ⟨sl,hL⟩:=u.any ho I.free fun z=>(hch _ z).2.1 rfl
 exact I.step (ch:=ch) hch (fun b o hL hb hc e n=>u.keep b o e n (fun z=>(List.mem_cons.mp (I.stkSub b z)).elim hL hb) hc) (fun b o _ _ hc e n=>u.any e n hc) (fun b o hc e n=>u.free b o e n hc) (fun b o hc e=>u.there b o e hc) u.tups u.frzs u.tbls (fun m' hm=>by
  obtain ⟨o',es',ep',ho',r'⟩:=hm
  rw [ho] at ho'; cases ho'
  exact ⟨_,es',ep',hL,r'⟩) hok hg
theorem Inv.turned {t':Nat} {it:Addr} (I:Inv X pins σ H s) (k:∀ b o,b ≠ it->s.heap.get? b=some o->h'.get? b=some o) (hn:H it=none) (hL:it ≠ X.env.locals)
 (h1:it ∈ X.ex∨X.s₀.heap.objs.size<=it) (h2:∀ x c,X.env.cells.lookup x=some c->c ≠ it) (h3:∀ p ∈ X.pn++pins,p.1 ≠ it):Inv X pins σ H { s with heap:=h',toks:=t' }:=by
 have nit:∀ b u,H b=some u->b ≠ it:=fun b u e z=>by rw [z,hn] at e; cases e
 refine I.step (g':=s.gens) (d':=s.drawn) (ch:=[it]) (fun b hb=>?_) (fun b o _ _ hc e _=>k b o (fun z=>hc (by simp [z])) e) (fun b o _ _ hc e _=>⟨o.slots,k b o (fun z=>hc (by simp [z])) e⟩) (fun _ _ _ _ n=>n)
  (fun b o hc e=>⟨o,k b o (fun z=>hc (by simp [z])) e⟩) (fun _ _ e=>e) (fun _ _ _ e=>e) (fun b ps e=>⟨#[],by rw [e]; simp⟩) (fun m hm=>?_) (fun b u e=>?_) I.bare
 . have e:b=it:=by simpa using hb
   subst e
   exact ⟨h1,hL,h2,h3⟩
 . obtain ⟨o,es,ep,ho,r⟩:=hm
   exact ⟨o,es,ep,k _ o (Ne.symm hL) ho,r⟩
 . refine (I.hok b u e).stay (fun c v hc q=>k c v ?_ q) (fun _ q=>q) fun _ _ q=>q
   rcases hc with z | z
   . rw [z]; exact nit b u e
   . exact nit c _ z
theorem Inv.tok (I:Inv X pins σ H s) (t:Nat):Inv X pins σ H { s with toks:=t }:=I.un (h':=s.heap) (t':=t) Un.refl I.hok
theorem Inv.kept {t':Nat} (I:Inv X pins σ H s) (k:∀ b u,s.heap.get? b=some u->h'.get? b=some u):Inv X pins σ H { s with heap:=h',toks:=t' }:=I.un (Un.kept k) (I.hok.kept k)
theorem Inv.laid {a:Addr} {o:HO} {t':Nat} (I:Inv X pins σ H s) (k:∀ b u,s.heap.get? b=some u->h'.get? b=some u) (hp:s.heap.objs.size<=a) (new:ObjOk X.prog X.w (upd H a o) h' a o) :
 Inv X pins σ (upd H a o) { s with heap:=h',toks:=t' }:=I.un (Un.laid k hp (I.hok.fresh hp)) (I.hok.laid k hp new)
theorem Inv.write {x e:Addr} {o:HO} {t':Nat} (I:Inv X pins σ H s) (mu:Mut (H x)) (he:e=x∨H e=some (.own x)) (k:∀ b u,b ≠ e->s.heap.get? b=some u->h'.get? b=some u) (heo:∃ u,h'.get? e=some u)
 (new:ObjOk X.prog X.w (upd H x o) h' x o):Inv X pins σ (upd H x o) { s with heap:=h',toks:=t' }:=I.un (Un.write mu he k heo) (I.hok.write mu he k heo new)
theorem Inv.pins_of {pins':List (Addr × Obj)} (I:Inv X pins σ H s) (h:∀ p ∈ pins',s.heap.get? p.1=some p.2/\H p.1=none/\p.1 ≠ X.env.locals/\p.1 ∉ X.fs/\∀ v,p.2.data ≠ .cell v):Inv X pins' σ H s :=
 ⟨I.ok,I.os,I.bare,I.base,I.loc,I.cell,I.free,I.freeC,fun p hp=>(List.mem_append.mp hp).elim (fun z=>I.pin p (List.mem_append_left _ z)) (h p),I.hok,I.len⟩
theorem nodup_ix {N:List Str} (hN:N.Nodup) {i j:Nat} {x:Str} (a:N[i]?=some x) (b:N[j]?=some x):i=j:=by
 obtain ⟨h1,e1⟩:=List.getElem?_eq_some_iff.mp a
 obtain ⟨h2,e2⟩:=List.getElem?_eq_some_iff.mp b
 exact (List.getElem_inj hN).mp (e1.trans e2.symm)
theorem store_ok2 {M:Model} {A:Around} {E:Value->Shared->Prop} {i:Nat} {x:Str} {v:V} {u:Value} {Q:Unit->Shared->Prop} (I:Inv X pins σ H s) (hN:X.N.Nodup) (hi:X.N[i]?=some x) (hx:Loc X.env.scope x) (r:RelV v u)
 (h:∀ s',Inv X pins (σ.set i (some v)) H s'->(∃ a,Heap.SameBut a s.heap s'.heap/\(a=X.env.locals∨X.env.cells.lookup x=some a))->Q () s') (hf:X.fn x=true∨X.env.scope.names.lookup x=some .local:=by first | exact .inl rfl | exact .inr rfl | assumption):wpAny M A (storeName X.env x u) Q E s:=by
 obtain ⟨m,hn,hl⟩:=id I.loc
 have hcls:(X.env.scope.kind == .class || (X.env.scope.kind == .module && X.env.locals != X.env.globals))=false:=by rw [I.ok.kind]; rfl
 have hiσ:i < σ.length:=by rw [I.len]; exact (List.getElem?_eq_some_iff.mp hi).1
 have cne:=I.cne
 have tracked:∀ {a:Addr} {h':Heap},(∃ o,s.heap.get? a=some o/\H a=none)->Heap.SameBut a s.heap h'->HOk X.prog X.w H h':=fun {a h'} ha hs b ob e=>by
  obtain ⟨_,_,hfree⟩:=ha
  refine (I.hok b ob e).stay (fun c w' hc q=>(hs.2 c ?_).trans q) (fun _ q=>q) fun _ _ q=>q
  rintro rfl
  rcases hc with rfl | hc
  . rw [hfree] at e; cases e
  . rw [hfree] at hc; cases hc
 rcases hx with hk | hk
 . refine wpAny_storeName_local hk hn (fun h' hn' hs=>?_) hcls
   obtain ⟨oL,_,_,hoL,_⟩:=id hn
   refine h _ ⟨I.ok,I.os,I.bare,⟨fun b o e n hb hx=>?_,fun b o e n hb hx=>?_,I.base.free,fun b o e hx=>?_,I.base.tups,I.base.frzs,I.base.tbls⟩,⟨_,hn',fun j y v' e1 e2 e3=>?_⟩,fun y c e=>?_,I.free,I.freeC,fun p hp=>?_,tracked ⟨oL,hoL,I.free⟩ hs,by simpa using I.len⟩ ⟨_,hs,.inl rfl⟩
   . exact (hs.2 b (Nat.ne_of_lt (Nat.lt_of_lt_of_le (Heap.lt_size e) I.ok.above))).trans (I.base.keep b o e n hb hx)
   . obtain ⟨sl,e1⟩:=I.base.slot b o e n hb hx
     exact ⟨sl,(hs.2 b (Nat.ne_of_lt (Nat.lt_of_lt_of_le (Heap.lt_size e) I.ok.above))).trans e1⟩
   . obtain ⟨o',e1⟩:=I.base.there b o e hx
     exact ⟨o',(hs.2 b (Nat.ne_of_lt (Nat.lt_of_lt_of_le (Heap.lt_size e) I.ok.above))).trans e1⟩
   . by_cases hj:j=i
     . subst hj
       rw [hi] at e1; cases e1
       rw [List.getElem?_set_self hiσ] at e2
       cases e2
       exact ⟨u,r,.inl ⟨hk,by simp⟩⟩
     . rw [List.getElem?_set_ne (Ne.symm hj)] at e2
       obtain ⟨u',r',q⟩:=hl j y v' e1 e2 e3
       refine ⟨u',r',?_⟩
       rcases q with ⟨k,e⟩ | ⟨k,c,e,z⟩
       . refine .inl ⟨k,?_⟩
         have:y ≠ x:=fun e=>hj (nodup_ix hN e1 (e ▸ hi))
         simp [this,e]
       . exact .inr ⟨k,c,e,z.sameBut hs (cne y c e)⟩
   . obtain ⟨w',z⟩:=I.cell y c e
     exact ⟨w',z.sameBut hs (cne y c e)⟩
   . obtain ⟨e,n,ne,nf,d⟩:=I.pin p hp
     exact ⟨(hs.2 p.1 ne).trans e,n,ne,nf,d⟩
 . have hfn:X.fn x=true:=by
    rcases hf with z | z
    . exact z
    . rw [z] at hk; cases hk
   obtain ⟨c,hc⟩:=I.ok.has x (.inl hk)
   obtain ⟨w',z⟩:=I.cell x c hc
   refine wpAny_storeName_cell I.ok.kind hk hc z (fun h' hc' hs=>?_)
   obtain ⟨oc,hoc,hocd⟩:=id z
   refine h { s with heap:=h' } ⟨I.ok,I.os,I.bare,⟨fun b o e n hb hx=>?_,fun b o e n hb hx=>?_,I.base.free,fun b o e hx=>?_,I.base.tups,I.base.frzs,I.base.tbls⟩,⟨m,hn.sameBut hs (Ne.symm (cne x c hc)),fun j y v' e1 e2 e3=>?_⟩,fun y c' e=>?_,I.free,I.freeC,fun p hp=>?_,tracked ⟨oc,hoc,I.freeC x c hc⟩ hs,by simpa using I.len⟩ ⟨c,hs,.inr hc⟩
   . exact (hs.2 b (Nat.ne_of_lt (Nat.lt_of_lt_of_le (Heap.lt_size e) (I.ok.cab x c hfn hc)))).trans (I.base.keep b o e n hb hx)
   . obtain ⟨sl,e1⟩:=I.base.slot b o e n hb hx
     exact ⟨sl,(hs.2 b (Nat.ne_of_lt (Nat.lt_of_lt_of_le (Heap.lt_size e) (I.ok.cab x c hfn hc)))).trans e1⟩
   . obtain ⟨o',e1⟩:=I.base.there b o e hx
     exact ⟨o',(hs.2 b (Nat.ne_of_lt (Nat.lt_of_lt_of_le (Heap.lt_size e) (I.ok.cab x c hfn hc)))).trans e1⟩
   . by_cases hj:j=i
     . subst hj
       rw [hi] at e1; cases e1
       rw [List.getElem?_set_self hiσ] at e2
       cases e2
       exact ⟨u,r,.inr ⟨.inl hk,c,hc,hc'⟩⟩
     . rw [List.getElem?_set_ne (Ne.symm hj)] at e2
       obtain ⟨u',r',q⟩:=hl j y v' e1 e2 e3
       refine ⟨u',r',?_⟩
       rcases q with q | ⟨k,c',e,z'⟩
       . exact .inl q
       . refine .inr ⟨k,c',e,z'.sameBut hs ?_⟩
         rintro rfl
         exact hj (nodup_ix hN e1 (I.ok.inj _ _ _ e hc ▸ hi))
   . by_cases hcc:c'=c
     . subst hcc; exact ⟨_,hc'⟩
     . obtain ⟨w2,z2⟩:=I.cell y c' e
       exact ⟨w2,z2.sameBut hs hcc⟩
   . obtain ⟨e,n,ne,nf,d⟩:=I.pin p hp
     refine ⟨(hs.2 p.1 ?_).trans e,n,ne,nf,d⟩
     intro q
     rw [q,hoc] at e
     have q':oc=p.2:=Option.some.inj e
     exact d w' (by rw [← q']; exact hocd)
theorem store_ok {M:Model} {A:Around} {E:Value->Shared->Prop} {i:Nat} {x:Str} {v:V} {u:Value} {Q:Unit->Shared->Prop} (I:Inv X pins σ H s) (hN:X.N.Nodup) (hi:X.N[i]?=some x) (hx:Loc X.env.scope x) (r:RelV v u)
 (h:∀ s',Inv X pins (σ.set i (some v)) H s'->Q () s') (hf:X.fn x=true∨X.env.scope.names.lookup x=some .local:=by first | exact .inl rfl | exact .inr rfl | assumption):wpAny M A (storeName X.env x u) Q E s :=
 store_ok2 I hN hi hx r (fun s' I' _=>h s' I') hf
theorem Inv.call' {s':Shared} {ch:List Addr} (I:Inv X pins σ H s) (ho:s'.os=s.os) (u:Un (frs X.stack) ch H H' s.heap s'.heap) (hok:HOk X.prog X.w H' s'.heap) (hg:AllBare s'.gens)
 (hch:∀ b ∈ ch,(b ∈ X.ex∨X.s₀.heap.objs.size<=b)/\b ≠ X.env.locals/\(∀ x c,X.env.cells.lookup x=some c->c ≠ b)/\∀ p ∈ X.pn++pins,p.1 ≠ b):Inv X pins σ H' s':=by
 obtain ⟨h',g',d',t',o'⟩:=s'
 have e:o'=s.os:=ho
 subst e
 exact I.call (g':=g') (t':=t') (d':=d') u hok hg hch
end
abbrev XK:=Value->Option Addr->Hp->Prop
abbrev St:=List (Option V)
abbrev VK:=V->Hp->Prop
abbrev TE:=St->Hp->VK->Prop
abbrev TT:=St->Hp->(Bool->Hp->Prop)->Prop
abbrev TA:=St->Hp->(List V->Hp->Prop)->Prop
structure Ends where
 nx:St->Hp->Prop
 rt:VK
 bk:St->Hp->Prop:=fun _ _=>False
 ct:St->Hp->Prop:=fun _ _=>False
abbrev TS:=Ends->St->Hp->Prop
def EP (X:Cx) (pins:List (Addr × Obj)) (σ:St) (Q:VK) (u:Value) (s':Shared):Prop:=∃ v H',Inv X pins σ H' s'/\RelV v u/\Q v H'
def TP (X:Cx) (pins:List (Addr × Obj)) (σ:St) (Q:Bool->Hp->Prop) (b:Bool) (s':Shared):Prop:=∃ H',Inv X pins σ H' s'/\Q b H'
def AP (X:Cx) (pins:List (Addr × Obj)) (σ:St) (Q:List V->Hp->Prop) (us:List Value) (s':Shared):Prop:=∃ vs H',Inv X pins σ H' s'/\Vals vs us/\Q vs H'
def SP (X:Cx) (pins:List (Addr × Obj)) (D:Ends) (f:Flow) (s':Shared):Prop :=
 match f with
 | .next=>∃ σ' H',Inv X pins σ' H' s'/\D.nx σ' H'
 | .brk=>∃ σ' H',Inv X pins σ' H' s'/\D.bk σ' H'
 | .cont=>∃ σ' H',Inv X pins σ' H' s'/\D.ct σ' H'
 | .ret u=>∃ v σ' H',Inv X pins σ' H' s'/\RelV v u/\D.rt v H'
def PE (X:Cx) (e:Expr) (t:TE):Prop :=
 ∀ (pins:List (Addr × Obj)) (s:Shared) (σ:St) (H:Hp) (Q:VK),Inv X pins σ H s->t σ H Q->wpAny (model X.prog X.w) X.A (eval e X.env) (EP X pins σ Q) X.xe s
def PT (X:Cx) (e:Expr) (t:TT):Prop :=
 ∀ (pins:List (Addr × Obj)) (s:Shared) (σ:St) (H:Hp) (Q:Bool->Hp->Prop),Inv X pins σ H s->t σ H Q->wpAny (model X.prog X.w) X.A (isTrue e X.env (eval e X.env)) (TP X pins σ Q) X.xe s
def PW (X:Cx) (e:Expr) (t:TT):Prop :=
 ∀ (whole:Sem Value) (pins:List (Addr × Obj)) (s:Shared) (σ:St) (H:Hp) (Q:Bool->Hp->Prop),Inv X pins σ H s->t σ H Q->wpAny (model X.prog X.w) X.A (isTrue e X.env whole) (TP X pins σ Q) X.xe s
theorem PW.pt {X:Cx} {e:Expr} {t:TT} (h:PW X e t):PT X e t:=h _
def PA (X:Cx) (es:List Expr) (t:TA):Prop :=
 ∀ (pos:Pos) (pins:List (Addr × Obj)) (s:Shared) (σ:St) (H:Hp) (Q:List V->Hp->Prop),Inv X pins σ H s->t σ H Q->wpAny (model X.prog X.w) X.A (spliced (backTo pos (starEach es X.env))) (AP X pins σ Q) X.xe s
def PS (X:Cx) (st:Stmt) (t:TS):Prop :=
 ∀ (pins:List (Addr × Obj)) (s:Shared) (σ:St) (H:Hp) (D:Ends),Inv X pins σ H s->t D σ H->wpAny (model X.prog X.w) X.A (exec st X.env) (SP X pins D) X.xe s
def PSs (X:Cx) (st:List Stmt) (t:TS):Prop :=
 ∀ (pins:List (Addr × Obj)) (s:Shared) (σ:St) (H:Hp) (D:Ends),Inv X pins σ H s->t D σ H->wpAny (model X.prog X.w) X.A (execs st X.env) (SP X pins D) X.xe s
theorem thn {α:Type} {t:Sem α} {Q Q':α->Shared->Prop} {M:Model} {A:Around} {E:Value->Shared->Prop} {s:Shared} (h:wpAny M A t Q E s) (hQ:∀ a s,Q a s->Q' a s):wpAny M A t Q' E s:=wpAny_mono h hQ fun _ _ x=>x
section
variable {X:Cx}
def tVar (i:Nat):TE:=fun σ H Q=>∃ v,σ[i]?=some (some v)/\Q v H
def tC (v:V):TE:=fun _ H Q=>Q v H
theorem pe_var {i:Nat} {x:Str} {pos:Pos} (hN:X.N[i]?=some x) (hv:Vis X.env.scope x) (hd:(x == ("__debug__" : Str))=false:=by decide) (hcd:(x == ("__classdict__" : Str))=false:=by decide):PE X (.Name x pos) (tVar i):=by
 intro pins s σ H Q I h
 obtain ⟨v,e,h⟩:=h
 obtain ⟨m,hn,hl⟩:=I.loc
 obtain ⟨u,r,l⟩:=hl i x v hN e hv
 have fin:EP X pins σ Q u s:=⟨v,H,I,r,h⟩
 rcases l with ⟨hk,hm⟩ | ⟨hk,c,hc,hcell⟩
 . exact wpAny_Name (wpAny_loadName_local I.ok.kind hk hn hm fin) hd
 . rcases hk with hk | hk
   . exact wpAny_Name (wpAny_loadName_cell I.ok.kind hk hc hcell fin) hd
   . exact wpAny_Name (wpAny_loadName_free I.ok.kind hk hc hcell fin hcd) hd
theorem ag {i j pos}:PE X (.Constant (.int i) j pos) (tC (.int i)):=fun _ _ _ H _ I h=>wpAny_Constant_int ⟨.int i,H,I.tok _,⟨_,rfl⟩,h⟩
theorem pe_bl {b j pos}:PE X (.Constant (.bool b) j pos) (tC (.bl b)):=fun _ _ _ H _ I h=>Constant_bool ⟨.bl b,H,I,rfl,h⟩
theorem pe_non {j pos}:PE X (.Constant .none j pos) (tC .non):=fun _ _ _ H _ I h=>Constant_none ⟨.non,H,I,rfl,h⟩
theorem aO {x j pos}:PE X (.Constant (.str x) j pos) (tC (.str x)):=fun _ _ _ H _ I h=>Calls.Constant_str ⟨.str x,H,I.tok _,⟨_,rfl⟩,h⟩
def Gl (X:Cx) (x:Str):Prop:=X.env.kindOf x=some .globalImplicit
theorem ld_glob {E:Value->Shared->Prop} {pins:List (Addr × Obj)} {s:Shared} {σ:St} {H:Hp} {x:Str} {u:Value} {pos:Pos} {Q:Value->Shared->Prop} (I:Inv X pins σ H s) (hg:Gl X x) (hm:X.mg x=some u) (h:Q u s)
 (hd:(x == ("__debug__" : Str))=false:=by decide):wpAny (model X.prog X.w) X.A (eval (.Name x pos) X.env) Q E s :=
 Calls.Name_function_global I.ok.kind hg (Calls.loadGlobal_global (by rw [I.ok.glob]; exact I.mod.glob.keeps I.bk) hm h) hd
theorem ld_blt {E:Value->Shared->Prop} {pins:List (Addr × Obj)} {s:Shared} {σ:St} {H:Hp} {x:Str} {u:Value} {pos:Pos} {Q:Value->Shared->Prop} (I:Inv X pins σ H s) (hg:Gl X x) (hm:X.mg x=none) (hv:bootBuiltins x=some u) (h:Q u s)
 (hn:x ≠ "__name__" := by decide) (hd:(x == ("__debug__" : Str))=false:=by decide):wpAny (model X.prog X.w) X.A (eval (.Name x pos) X.env) Q E s:=by
 obtain ⟨mb,h1,h2⟩:=I.mod.blt
 exact Calls.Name_function_global I.ok.kind hg (Calls.loadGlobal_builtin (by rw [I.ok.glob]; exact I.mod.glob.keeps I.bk) hm (by rw [I.ok.blt]; exact h1.keeps I.bk) ((h2 x hn).trans hv) h) hd
theorem pe_glob {x:Str} {v:V} {u:Value} {pos:Pos} (hg:Gl X x) (hm:X.mg x=some u) (r:RelV v u) (hd:(x == ("__debug__" : Str))=false:=by decide):PE X (.Name x pos) (tC v) :=
 fun _ _ _ H _ I h=>ld_glob I hg hm ⟨v,H,I,r,h⟩ hd
theorem pe_bltn {x:Str} {v:V} {u:Value} {pos:Pos} (hg:Gl X x) (hm:X.mg x=none) (hv:bootBuiltins x=some u) (r:RelV v u) (hn:x ≠ "__name__" := by decide) (hd:(x == ("__debug__" : Str))=false:=by decide):PE X (.Name x pos) (tC v) :=
 fun _ _ _ H _ I h=>ld_blt I hg hm hv ⟨v,H,I,r,h⟩ hn hd
variable {a b:Expr} {ta tb:TE} {pos:Pos}
def tB (t:TE):TT:=fun σ H Q=>t σ H fun x H1=>∃ c,x=.bl c/\Q c H1
theorem pt_val {e:Expr} {t:TE} (h:PE X e t) (he:∀ whole,isTrue e X.env whole=(do let v ← whole; standAt e.pos; holding [v] (truthy v)):=by intro _; rfl):PT X e (tB t):=by
 intro pins s σ H Q I hw
 refine isTrue_plain (thn (h pins s σ H _ I hw) fun v s1 ⟨x,H1,I1,r1,q1⟩=>?_) (he _)
 obtain ⟨d,rfl,q⟩:=q1
 cases r1
 exact wpAny_truthy_bool ⟨H1,I1,q⟩
variable {tA tB':TT} {rest:List Expr}
def tAnd (t u:TT):TT:=fun σ H Q=>t σ H fun c H1=>if c=true then u σ H1 Q else Q false H1
def tOr (t u:TT):TT:=fun σ H Q=>t σ H fun c H1=>if c=true then Q true H1 else u σ H1 Q
def tNot (t:TT):TT:=fun σ H Q=>t σ H fun c H1=>Q (!c) H1
theorem pw_and1 (ha:PT X a tA):PW X (.BoolOp .And [a] pos) tA:=by
 intro wh pins s σ H Q I h
 refine isTrue_and (thn (ha pins s σ H Q I h) fun c s1 e=>?_)
 cases c with
 | true=>exact isTrue_and_nil e
 | false=>exact e
theorem pw_or1 (ha:PT X a tA):PW X (.BoolOp .Or [a] pos) tA:=by
 intro wh pins s σ H Q I h
 refine isTrue_or (thn (ha pins s σ H Q I h) fun c s1 e=>?_)
 cases c with
 | false=>exact isTrue_or_nil e
 | true=>exact e
theorem pw_and (ha:PT X a tA) (hb:PW X (.BoolOp .And (b::rest) pos) tB'):PW X (.BoolOp .And (a::b::rest) pos) (tAnd tA tB'):=by
 intro wh pins s σ H Q I h
 refine isTrue_and (thn (ha pins s σ H _ I h) fun c s1 ⟨H1,I1,q1⟩=>?_)
 cases c with
 | true=>exact hb wh pins s1 σ H1 Q I1 q1
 | false=>exact ⟨H1,I1,q1⟩
theorem pw_or (ha:PT X a tA) (hb:PW X (.BoolOp .Or (b::rest) pos) tB'):PW X (.BoolOp .Or (a::b::rest) pos) (tOr tA tB'):=by
 intro wh pins s σ H Q I h
 refine isTrue_or (thn (ha pins s σ H _ I h) fun c s1 ⟨H1,I1,q1⟩=>?_)
 cases c with
 | true=>exact ⟨H1,I1,q1⟩
 | false=>exact hb wh pins s1 σ H1 Q I1 q1
theorem pt_not (ha:PT X a tA):PT X (.UnaryOp .Not a pos) (tNot tA):=by
 intro pins s σ H Q I h
 exact isTrue_not (ha pins s σ H (fun c H1=>Q (!c) H1) I h)
def tAndV (ta tb:TE):TE:=fun σ H Q=>ta σ H fun x H1=>∃ c,x=.bl c/\if c=true then tb σ H1 Q else Q (.bl false) H1
def tNotV (ta:TE):TE:=fun σ H Q=>ta σ H fun x H1=>∃ c,x=.bl c/\Q (.bl (!c)) H1
theorem pe_one {op} {t:TE} (h:PE X a t):PE X (.BoolOp op [a] pos) t:=fun pins s σ H Q I hw=>BoolOp_one (h pins s σ H Q I hw)
theorem pe_and (ha:PE X a ta) (hb:PE X (.BoolOp .And (b::rest) pos) tb):PE X (.BoolOp .And (a::b::rest) pos) (tAndV ta tb):=by
 intro pins s σ H Q I h
 refine BoolOp_and (thn (ha pins s σ H _ I h) fun v s1 ⟨x,H1,I1,r1,q1⟩=>?_)
 obtain ⟨c,rfl,q1⟩:=q1
 cases r1
 refine wpAny_truthy_bool ?_
 cases c with
 | true=>exact hb pins s1 σ H1 Q I1 q1
 | false=>exact ⟨.bl false,H1,I1,rfl,q1⟩
theorem pe_not (ha:PE X a ta):PE X (.UnaryOp .Not a pos) (tNotV ta):=by
 intro pins s σ H Q I h
 refine UnaryOp_ (thn (ha pins s σ H _ I h) fun v s1 ⟨x,H1,I1,r1,q1⟩=>?_)
 obtain ⟨c,rfl,q1⟩:=q1
 cases r1
 exact not_of (wpAny_truthy_bool ⟨.bl (!c),H1,I1,rfl,q1⟩)
end
def SqL (K:W.Frag) (H:Hp) (a:Addr) (xs:List V):Prop :=
 Rd H a (.lst xs) ∨
  ∃ (o:Obj) (its:Array Value) (n:Nat),K.lookup a=some o/\o.cls=.type "list" /\ o.dict=none/\o.data=.seq its n/\its.size<=sizeLine/\Vals xs its.toList
def SqT (K:W.Frag) (H:Hp) (a:Addr) (xs:List V):Prop :=
 Rd H a (.tup xs) ∨
  ∃ (o:Obj) (its:Array Value) (n:Nat),K.lookup a=some o/\o.cls=.type "tuple" /\ o.data=.seq its n/\its.size<=sizeLine/\Vals xs its.toList
def absV:Value->Option V
 | .none=>some .non
 | .bool b=>some (.bl b)
 | .int i _=>some (.int i)
 | .str x _=>some (.str x)
 | .bytes b _=>some (.byt b)
 | .float b _=>some (.flt b)
 | .ref a=>some (.ref a)
 | .type n=>some (.ty n)
 | _=>none
theorem RelV.abs {x:V} {u:Value} (r:RelV x u):absV u=some x:=by
 cases x with
 | non=>cases r; rfl
 | bl _=>cases r; rfl
 | int _=>obtain ⟨t,rfl⟩:=r; rfl
 | str _=>obtain ⟨t,rfl⟩:=r; rfl
 | byt _=>obtain ⟨t,rfl⟩:=r; rfl
 | flt _=>obtain ⟨t,rfl⟩:=r; rfl
 | ref _=>cases r; rfl
 | ty _=>cases r; rfl
theorem RelV.inj {x y:V} {u:Value} (r:RelV x u) (q:RelV y u):x=y:=Option.some.inj (r.abs.symm.trans q.abs)
theorem Vals.inj:∀ {xs ys:List V} {us:List Value},Vals xs us->Vals ys us->xs=ys
 | _,_,_,.nil,.nil=>rfl
 | _,_,_,.cons r t,.cons r' t'=>by rw [r.inj r',Vals.inj t t']
section
variable {X:Cx} {pins:List (Addr × Obj)} {σ:St} {H:Hp} {s:Shared} {a:Addr} {xs ys:List V}
theorem SqL.of {K:W.Frag} (h:H a=some (.lst xs)):SqL K H a xs:=.inl (.inl h)
theorem SqT.of {K:W.Frag} (h:H a=some (.tup xs)):SqT K H a xs:=.inl (.inl h)
theorem Inv.list (I:Inv X pins σ H s) (h:SqL X.K H a xs):∃ its:List Value,Vals xs its/\PlainL s.heap a its.toArray/\xs.length<=sizeLine:=by
 rcases h with h | ⟨o,its,n,hk,hc,hd,hs,hz,r⟩
 . obtain ⟨z,its,n,r,e⟩:=h.ok I.hok
   exact ⟨its,r,⟨_,n,e,rfl,rfl,rfl⟩,z⟩
 . refine ⟨its.toList,r,⟨o,n,I.kIn a o hk,hc,hd,by simpa using hs⟩,?_⟩
   have e:=r.length
   simp only [Array.length_toList] at e
   omega
theorem Inv.tuple (I:Inv X pins σ H s) (h:SqT X.K H a xs):∃ its:List Value,Vals xs its/\IsTup s.heap a its.toArray/\xs.length<=sizeLine:=by
 rcases h with h | ⟨o,its,n,hk,hc,hs,hz,r⟩
 . obtain ⟨z,its,r,p,_⟩:=h.ok I.hok
   exact ⟨its,r,p,z⟩
 . refine ⟨its.toList,r,⟨o,I.kIn a o hk,hc,n,by simpa using hs⟩,?_⟩
   have e:=r.length
   simp only [Array.length_toList] at e
   omega
theorem Inv.list_inj (I:Inv X pins σ H s) (h:SqL X.K H a xs) (h':SqL X.K H a ys):xs=ys:=by
 obtain ⟨its,r,⟨o,n,e,_,_,d⟩,_⟩:=I.list h
 obtain ⟨its',r',⟨o',n',e',_,_,d'⟩,_⟩:=I.list h'
 rw [e] at e'; cases e'
 rw [d] at d'
 injection d' with d1 _
 have:its=its':=by simpa using congrArg Array.toList d1
 subst this
 exact r.inj r'
theorem Inv.tuple_inj (I:Inv X pins σ H s) (h:SqT X.K H a xs) (h':SqT X.K H a ys):xs=ys:=by
 obtain ⟨its,r,⟨o,e,_,n,d⟩,_⟩:=I.tuple h
 obtain ⟨its',r',⟨o',e',_,n',d'⟩,_⟩:=I.tuple h'
 rw [e] at e'; cases e'
 rw [d] at d'
 injection d' with d1 _
 have:its=its':=by simpa using congrArg Array.toList d1
 subst this
 exact r.inj r'
end
abbrev Cx.wish (X:Cx) (E:Value->Shared->Prop):Cx:={ X with xe:=E }
abbrev Cx.nox (X:Cx):Cx:=X.wish fun _ _=>False
theorem Cx.Ok.wish {X:Cx} (ok:X.Ok) (E:Value->Shared->Prop):(X.wish E).Ok :=
 ⟨ok.mod,ok.kind,ok.glob,ok.blt,ok.above,ok.inj,ok.has,ok.cab,ok.hd,ok.frames,ok.stk,ok.exf,ok.bs,ok.bsz,ok.noex,ok.exfs,ok.funs,ok.frf⟩
theorem Cx.Ok.unwish {X:Cx} {E:Value->Shared->Prop} (ok:(X.wish E).Ok):X.Ok :=
 ⟨ok.mod,ok.kind,ok.glob,ok.blt,ok.above,ok.inj,ok.has,ok.cab,ok.hd,ok.frames,ok.stk,ok.exf,ok.bs,ok.bsz,ok.noex,ok.exfs,ok.funs,ok.frf⟩
section
variable {X:Cx} {pins:List (Addr × Obj)} {σ:St} {H:Hp} {s:Shared} {E:Value->Shared->Prop}
theorem Inv.wish (I:Inv X pins σ H s) (E:Value->Shared->Prop):Inv (X.wish E) pins σ H s:=⟨I.ok.wish E,I.os,I.bare,I.base,I.loc,I.cell,I.free,I.freeC,I.pin,I.hok,I.len⟩
theorem Inv.unwish (I:Inv (X.wish E) pins σ H s):Inv X pins σ H s:=⟨I.ok.unwish,I.os,I.bare,I.base,I.loc,I.cell,I.free,I.freeC,I.pin,I.hok,I.len⟩
theorem SP.unwish {D:Ends} {f:Flow} {s':Shared} (h:SP (X.wish E) pins D f s'):SP X pins D f s':=by
 cases f with
 | next=>obtain ⟨σ',H',I,q⟩:=h; exact ⟨σ',H',I.unwish,q⟩
 | brk=>obtain ⟨σ',H',I,q⟩:=h; exact ⟨σ',H',I.unwish,q⟩
 | cont=>obtain ⟨σ',H',I,q⟩:=h; exact ⟨σ',H',I.unwish,q⟩
 | ret u=>obtain ⟨v,σ',H',I,r,q⟩:=h; exact ⟨v,σ',H',I.unwish,r,q⟩
theorem PSs.nox {st:List Stmt} {t:TS} (h:PSs X.nox st t):PSs X st t:=fun pins s σ H D I hw =>
 wpAny_mono (h pins s σ H D (I.wish _) hw) (fun _ _ q=>q.unwish) fun _ _ z=>False.elim z
end
section
variable {X:Cx} {st:Stmt} {rest:List Stmt} {t u:TS} {e:Expr} {te:TE} {pos:Pos}
def tNext:TS:=fun D σ H=>D.nx σ H
def tSeq (t u:TS):TS:=fun D σ H=>t { D with nx:=u D } σ H
theorem aN:PSs X [] tNext:=fun _ _ σ H _ I h=>wpAny_execs_nil ⟨σ,H,I,h⟩
theorem ad (h1:PS X st t) (h2:PSs X rest u):PSs X (st::rest) (tSeq t u):=by
 intro pins s σ H D I h
 refine wpAny_execs_cons (thn (h1 pins s σ H { D with nx:=u D } I h) fun f s1 q=>?_)
 cases f with
 | next =>
   obtain ⟨σ',H',I',q⟩:=q
   exact h2 pins s1 σ' H' D I' q
 | ret v=>exact q
 | brk=>exact q
 | cont=>exact q
theorem aj (h1:PS X st t):PSs X [st] t:=by
 intro pins s σ H D I h
 refine wpAny_execs_cons (thn (h1 pins s σ H D I h) fun f s1 q=>?_)
 cases f with
 | next=>exact wpAny_execs_nil q
 | ret v=>exact q
 | brk=>exact q
 | cont=>exact q
theorem Inv.quiet {pins:List (Addr × Obj)} {σ:St} {H:Hp} {s:Shared} (I:Inv X pins σ H s):interactive X.env=false:=by simp [interactive,I.ok.kind]
def tDrop (te:TE):TS:=fun D σ H=>te σ H fun _ H1=>D.nx σ H1
theorem bP (he:PE X e te) (hs:swapsWith e none pos.line X.env=pure false:=by rfl):PS X (.Expr e pos) (tDrop te):=by
 intro pins s σ H D I h
 exact wpAny_Expr_any (thn (he pins s σ H _ I h) fun v s1 ⟨x,H1,I1,r1,q1⟩=>⟨σ,H1,I1,q1⟩) I.quiet hs
def tRet (te:TE):TS:=fun D σ H=>te σ H D.rt
theorem aF (he:PE X e te):PS X (.Return (some e) pos) (tRet te):=by
 intro pins s σ H D I h
 exact wpAny_Return_some (thn (he pins s σ H _ I h) fun v s1 ⟨x,H1,I1,r1,q1⟩=>⟨x,σ,H1,I1,r1,q1⟩)
def tIfS (c:TT) (t u:TS):TS:=fun D σ H=>c σ H fun b H1=>if b=true then t D σ H1 else u D σ H1
theorem aU {c:Expr} {a b:List Stmt} {tc:TT} (hc:PT X c tc) (ha:PSs X a t) (hb:PSs X b u):PS X (.If c a b pos) (tIfS tc t u):=by
 intro pins s σ H D I h
 refine wpAny_If (thn (hc pins s σ H _ I h) fun d s1 ⟨H1,I1,q1⟩=>?_)
 cases d with
 | true=>exact ha pins s1 σ H1 D I1 q1
 | false=>exact hb pins s1 σ H1 D I1 q1
def tNever:TS:=fun _ _ _=>False
theorem cR {sts:List Stmt}:PSs X sts tNever:=fun _ _ _ _ _ _ h=>h.elim
end
abbrev TG:=V->St->Hp->(St->Hp->Prop)->Prop
abbrev TGs:=List V->St->Hp->(St->Hp->Prop)->Prop
def PG (X:Cx) (target:Expr) (t:TG):Prop :=
 ∀ (pins:List (Addr × Obj)) (s:Shared) (σ:St) (H:Hp) (v:V) (u:Value) (Q:St->Hp->Prop),Inv X pins σ H s->RelV v u->t v σ H Q ->
  wpAny (model X.prog X.w) X.A (assign target X.env u) (fun _ s'=>∃ σ' H',Inv X pins σ' H' s'/\Q σ' H') X.xe s
def PGs (X:Cx) (ts:List Expr) (t:TGs):Prop :=
 ∀ (pins:List (Addr × Obj)) (s:Shared) (σ:St) (H:Hp) (vs:List V) (us:List Value) (Q:St->Hp->Prop),Inv X pins σ H s->Vals vs us->t vs σ H Q ->
  wpAny (model X.prog X.w) X.A (assignInOrder ((assignEach ts X.env).map (·.2)) us) (fun _ s'=>∃ σ' H',Inv X pins σ' H' s'/\Q σ' H') X.xe s
abbrev TSet:=V->V->V->Hp->(Hp->Prop)->Prop
def PSet (X:Cx) (t:TSet):Prop :=
 ∀ (pins:List (Addr × Obj)) (s:Shared) (σ:St) (H:Hp) (o i v:V) (ov iv u:Value) (Q:Hp->Prop),Inv X pins σ H s->RelV o ov->RelV i iv->RelV v u->t o i v H Q ->
  wpAny (model X.prog X.w) X.A (setItem ov iv u) (fun _ s'=>∃ H',Inv X pins σ H' s'/\Q H') X.xe s
section
variable {X:Cx} {pos:Pos}
def gName (i:Nat):TG:=fun v σ H Q=>Q (σ.set i (some v)) H
theorem bw {i:Nat} {x:Str} (hN:X.N.Nodup) (hi:X.N[i]?=some x) (hx:Loc X.env.scope x) (hf:X.fn x=true∨X.env.scope.names.lookup x=some .local:=by first | exact .inl rfl | exact .inr rfl | assumption):PG X (.Name x pos) (gName i):=by
 intro pins s σ H v u Q I r h
 exact wpAny_assign_Name (store_ok I hN hi hx r (fun s' I'=>⟨_,H,I',h⟩) hf)
def gNil:TGs:=fun vs σ H Q=>vs=[]/\Q σ H
def gCons (t:TG) (u:TGs):TGs:=fun vs σ H Q=>∃ v r,vs=v::r/\t v σ H fun σ' H'=>u r σ' H' Q
theorem pgs_nil:PGs X [] gNil:=by
 intro pins s σ H vs us Q I r h
 obtain ⟨e,h⟩:=h
 subst e
 cases r
 exact assignInOrder_nil ⟨σ,H,I,h⟩
theorem pgs_cons {e:Expr} {es:List Expr} {t:TG} {u:TGs} (h1:PG X e t) (h2:PGs X es u)
 (hs:(assignEach (e::es) X.env).map (·.2)=assign e X.env::(assignEach es X.env).map (·.2):=by rfl):PGs X (e::es) (gCons t u):=by
 intro pins s σ H vs us Q I r h
 obtain ⟨v,vr,e1,h⟩:=h
 subst e1
 cases r with
 | cons r rr =>
   rw [hs]
   refine assignInOrder_cons (thn (h1 pins s σ H _ _ _ I r h) fun _ s1 ⟨σ1,H1,I1,q1⟩=>?_)
   exact h2 pins s1 σ1 H1 _ _ Q I1 rr q1
def gTup (K:W.Frag) (n:Nat) (t:TGs):TG:=fun v σ H Q=>∃ a xs,v=.ref a/\SqT K H a xs/\xs.length=n/\t xs σ H Q
theorem pg_tup {es:List Expr} {k:Nat} {t:TGs} {n:Nat} (hc:X.calm=true) (h:PGs X es t)
 (hn:(assignEach es X.env).length=n:=by rfl) (hst:(assignEach es X.env).findIdx? (·.1)=none:=by rfl):PG X (.Tuple es k pos) (gTup X.K n t):=by
 intro pins s σ H v u Q I r hw
 obtain ⟨a,xs,e1,hq,hl,hw⟩:=hw
 subst e1
 cases r
 obtain ⟨its,rv,ht,hz⟩:=I.tuple hq
 refine assign_Tuple_tuple (I.ok.hd hc) ht (by simp [hn,← hl,rv.length]) hst fun h' hx=>?_
 have I1:Inv X pins σ H { s with heap:=h' }:=I.kept (t':=s.toks) fun b o e=>hx b o (Nat.ne_of_lt (Heap.lt_size e)) e
 exact h pins _ σ H xs _ Q I1 (by simpa using rv) hw
def gSub (to ti:TE) (t:TSet):TG:=fun v σ H Q=>to σ H fun o H1=>ti σ H1 fun i H2=>t o i v H2 fun H3=>Q σ H3
theorem pg_sub {o i:Expr} {to ti:TE} {t:TSet} (ho:PE X o to) (hi:PE X i ti) (hs:PSet X t)
 (ha:∀ v,assign (.Subscript o i pos) X.env v=(do
  let ov ← holding [v] (eval o X.env)
  let iv ← holding [v,ov] (eval i X.env)
  standAt pos
  holding [v,ov,iv] (setItem ov iv v)
  release [v,ov,iv] []):=by intro _; rfl):PG X (.Subscript o i pos) (gSub to ti t):=by
 intro pins s σ H v u Q I r h
 rw [ha]
 refine wpAny_bind (wpAny_holding (thn (ho pins s σ H _ I h) fun ov s1 ⟨x,H1,I1,r1,q1⟩=>?_))
 refine wpAny_bind (wpAny_holding (thn (hi pins s1 σ H1 _ I1 q1) fun iv s2 ⟨y,H2,I2,r2,q2⟩=>?_))
 refine wpAny_bind (wpAny_standAt (wpAny_bind (wpAny_holding (thn (hs pins s2 σ H2 x y v ov iv u _ I2 r1 r2 r q2) fun _ s3 ⟨H3,I3,q3⟩=>?_))))
 exact wpAny_release ⟨σ,H3,I3,q3⟩
def tAsg (te:TE) (g:TG):TS:=fun D σ H=>te σ H fun x H1=>g x σ H1 D.nx
theorem ps_asg {tg e:Expr} {te:TE} {g:TG} (he:PE X e te) (hg:PG X tg g) (hs:swapsWithSole [tg] e pos.line X.env=pure false:=by rfl) (hw:swappedStores [tg] e X.env=pure none:=by rfl)
 (h1:(assignEach [tg] X.env).map (·.2)=[assign tg X.env]:=by rfl):PS X (.Assign [tg] e pos) (tAsg te g):=by
 intro pins s σ H D I h
 refine wpAny_Assign_stores (thn (he pins s σ H _ I h) fun v s1 ⟨x,H1,I1,r1,q1⟩=>?_) hs hw
 rw [h1]
 exact thn (hg pins s1 σ H1 x v _ I1 r1 q1) fun _ s2 q=>q
theorem aq {i:Nat} {x:Str} {e:Expr} {te:TE} {pos':Pos} (hN:X.N.Nodup) (hi:X.N[i]?=some x) (hx:Loc X.env.scope x) (he:PE X e te) (hs:swapsWith e (some (.Name x pos')) pos.line X.env=pure false:=by rfl) (hf:X.fn x=true∨X.env.scope.names.lookup x=some .local:=by first | exact .inl rfl | exact .inr rfl | assumption) :
 PS X (.Assign [.Name x pos'] e pos) (tAsg te (gName i)):=by
 intro pins s σ H D I h
 refine wpAny_Assign_Name (thn (he pins s σ H _ I h) fun v s1 ⟨y,H1,I1,r1,q1⟩=>?_) hs
 exact store_ok I1 hN hi hx r1 (fun s2 I2=>⟨_,H1,I2,q1⟩) hf
end
section
variable {X:Cx} {pos:Pos}
def tWhile (c:TT) (tb:TS):TS:=fun D σ H=>∃ W:Nat->St->Hp->Prop,(∃ m,W m σ H)/\∀ m σ H,W m σ H ->
 c σ H fun b H1=>if b=true then ∃ N:St->Hp->Prop,(∀ σ' H',N σ' H'->∃ m',m' < m/\W m' σ' H')/\tb { D with nx:=N,ct:=N,bk:=D.nx } σ H1 else D.nx σ H1
theorem ps_while {c:Expr} {body:List Stmt} {tc:TT} {tb:TS} (hp:PassesOwn (model X.prog X.w) X.A X.env X.xe) (hc:PT X c tc) (hb:PSs X body tb):PS X (.While c body [] pos) (tWhile tc tb):=by
 intro pins s σ H D I h
 obtain ⟨W,⟨m0,w0⟩,turn⟩:=h
 refine wpAny_While (codeAny_whileLoop (fun n s'=>∃ σ' H',Inv X pins σ' H' s'/\W n σ' H') ?_ m0 ⟨σ,H,I,w0⟩)
 rintro n s1 ⟨σ1,H1,I1,w1⟩
 refine wpAny_passesOwn hp (thn (hc pins s1 σ1 H1 _ I1 (turn n σ1 H1 w1)) fun b s2 ⟨H2,I2,q2⟩=>?_)
 cases b with
 | true =>
   obtain ⟨N,hN,q2⟩:=q2
   rw [if_pos rfl]
   refine wpAny_passesOwn hp (thn (hb pins s2 σ1 H2 _ I2 q2) fun f s3 q3=>?_)
   cases f with
   | next =>
     obtain ⟨σ3,H3,I3,n3⟩:=q3
     obtain ⟨m',hm,w3⟩:=hN σ3 H3 n3
     exact ⟨m',hm,σ3,H3,I3,w3⟩
   | cont =>
     obtain ⟨σ3,H3,I3,n3⟩:=q3
     obtain ⟨m',hm,w3⟩:=hN σ3 H3 n3
     exact ⟨m',hm,σ3,H3,I3,w3⟩
   | brk=>exact q3
   | ret v=>exact q3
 | false =>
   rw [if_neg Bool.false_ne_true]
   exact wpAny_execs_nil ⟨σ1,H2,I2,q2⟩
end
structure It where
 go:Nat->Hp->Prop
 yld:Nat->Hp->V->Hp->Prop
 stop:Nat->Hp->Prop
def FpOk (X:Cx) (pins:List (Addr × Obj)) (H:Hp) (b:Addr):Prop :=
 H b=none/\b ≠ X.env.locals/\b ∉ X.fs/\(b ∈ X.ex∨X.s₀.heap.objs.size<=b)/\(∀ x c,X.env.cells.lookup x=some c->c ≠ b)/\∀ p ∈ X.pn++pins,p.1 ≠ b
theorem Inv.fpOk {X:Cx} {pins:List (Addr × Obj)} {σ:St} {H H':Hp} {s:Shared} {b:Addr} (I:Inv X pins σ H s) (hb:s.heap.objs.size<=b) (hn:H' b=none):FpOk X pins H' b:=by
 refine ⟨hn,Nat.ne_of_gt (Nat.lt_of_lt_of_le I.lt hb),I.nofs hb,.inr (Nat.le_trans I.sz hb),fun x c e z=>?_,fun p hp z=>?_⟩
 . obtain ⟨v,q⟩:=I.cell x c e
   exact absurd (Nat.lt_of_lt_of_le q.lt (by rw [z]; exact hb)) (Nat.lt_irrefl _)
 . exact absurd (Nat.lt_of_lt_of_le (Heap.lt_size (I.pin p hp).1) (by rw [z]; exact hb)) (Nat.lt_irrefl _)
structure Turn (P:Program) (w:World) (K:W.Frag) (tg:Expr) (J:It) (fp:List Addr) (it:Addr) (tn:Nat->Heap->Prop):Prop where
 mem:it ∈ fp
 obj:∀ i h,tn i h->∀ b ∈ fp,∃ o,h.get? b=some o/\∀ v,o.data ≠ .cell v
 keep:∀ i h h',tn i h->(∀ b ∈ fp,∀ o,h.get? b=some o->h'.get? b=some o)->tn i h'
 item:∀ (X:Cx),X.prog=P->X.w=w->X.K=K->X.calm=true->∀ (i:Nat) (pins:List (Addr × Obj)) (s:Shared) (σ:St) (H:Hp) (E:Value->Shared->Prop),Inv X pins σ H s->(∀ b ∈ fp,FpOk X pins H b)->tn i s.heap->J.go i H ->
  wpAny (model P w) X.A (pyNext (.ref it)) (fun r s1=>∃ u,r=some u /\
   wpAny (model P w) X.A (letOwnedTupleGo tg (.ref it) u) (fun _ s2=>∃ x H',Inv X pins σ H' s2/\RelV x u/\J.yld i H x H'/\tn (i+1) s2.heap/\∀ b ∈ fp,H' b=none) E s1) E s
 done:∀ (X:Cx),X.prog=P->X.w=w->X.K=K->X.calm=true->∀ (i:Nat) (pins:List (Addr × Obj)) (s:Shared) (σ:St) (H:Hp) (E:Value->Shared->Prop),Inv X pins σ H s->(∀ b ∈ fp,FpOk X pins H b)->tn i s.heap->J.stop i H ->
  wpAny (model P w) X.A (pyNext (.ref it)) (fun r s1=>r=none/\Inv X pins σ H s1) E s
 self:∀ (A:Around) (i:Nat) (s:Shared) (Q:Value->Shared->Prop) (E:Value->Shared->Prop),tn i s.heap->Q (.ref it) s->wpAny (model P w) A (pyIter (.ref it)) Q E s
abbrev TI:=St->Hp->(It->Hp->Prop)->Prop
def PIE (X:Cx) (pins:List (Addr × Obj)) (σ:St) (tg:Expr) (R:It->Hp->Prop) (itv:Value) (s2:Shared):Prop :=
 ∃ (it:Addr) (fp:List Addr) (tn:Nat->Heap->Prop) (J:It) (H':Hp),itv=.ref it/\Inv X pins σ H' s2/\Turn X.prog X.w X.K tg J fp it tn/\tn 0 s2.heap/\(∀ b ∈ fp,FpOk X pins H' b)/\R J H'
def PI (X:Cx) (tg iter:Expr) (wi:TI):Prop :=
 ∀ (pins:List (Addr × Obj)) (s:Shared) (σ:St) (H:Hp) (R:It->Hp->Prop),Inv X pins σ H s->wi σ H R ->
  wpAny (model X.prog X.w) X.A (eval iter X.env) (fun v s1=>wpAny (model X.prog X.w) X.A (pyIter v) (PIE X pins σ tg R) X.xe s1) X.xe s
theorem go_of {M:Model} {A:Around} {E:Value->Shared->Prop} {s:Shared} {tg:Expr} {it:Addr} {u:Value} {o:Obj} {n:String} {vs:Array Value} {Q:Unit->Shared->Prop} (ho:s.heap.get? it=some o) (hc:o.cls=.type n) (hd:o.data=.fields vs)
 (hn:["enumerate", "zip", "dict_itemiterator", "dict_reverseitemiterator", "odict_iterator", "itertools.zip_longest", "itertools.pairwise"].contains n=false) (hQ:Q () s):wpAny M A (letOwnedTupleGo tg (.ref it) u) Q E s:=by
 unfold letOwnedTupleGo
 cases tg <;> first
  | exact wpAny_pure hQ
  | (cases u <;> first
   | exact wpAny_pure hQ
   | (refine wpAny_bind (wpAny_load ho ?_)
      rw [hc,hd]
      show wpAny M A (if (["enumerate", "zip", "dict_itemiterator", "dict_reverseitemiterator", "odict_iterator", "itertools.zip_longest", "itertools.pairwise"].contains n && vs[0]? == some (rawInt _))=true then _ else _) Q E s
      rw [if_neg (by intro h; rw [hn,Bool.false_and] at h; cases h)]
      exact wpAny_pure hQ))
def Itl (K:W.Frag) (a:Addr):It :=
 ⟨fun i H=>∃ xs x,SqL K H a xs/\xs[i]?=some x,fun i H x H'=>H'=H/\∀ xs,SqL K H a xs->xs[i]?=some x,fun i H=>∃ xs,SqL K H a xs/\xs.length<=i⟩
def Itt (K:W.Frag) (a:Addr):It :=
 ⟨fun i H=>∃ xs x,SqT K H a xs/\xs[i]?=some x,fun i H x H'=>H'=H/\∀ xs,SqT K H a xs->xs[i]?=some x,fun i H=>∃ xs,SqT K H a xs/\xs.length<=i⟩
def Itr (lo:Int) (n:Nat):It:=⟨fun i _=>i < n,fun i H x H'=>H'=H/\x=.int (lo+i),fun i _=>n<=i⟩
theorem turn_list {P:Program} {w:World} {K:W.Frag} {tg:Expr} (a it:Addr):Turn P w K tg (Itl K a) [it] it (fun i h=>h.IsListIter it a i) where
 mem:=by simp
 obj:=fun i h st b hb=>by
  have e:b=it:=by simpa using hb
  subst e
  obtain ⟨o,e,c,d⟩:=st
  exact ⟨o,e,fun v z=>by rw [d] at z; cases z⟩
 keep:=fun i h h' st k=>st.at fun o e=>k it (by simp) o e
 item:=by
  intro X hP hw hK hc i pins s σ H E I hf st hg
  subst hP hw hK
  obtain ⟨xs,x,hq,hx⟩:=hg
  obtain ⟨its,rv,p,hz⟩:=I.list hq
  obtain ⟨u,hu,ru⟩:=rv.get hx
  obtain ⟨f0,f1,f2,f3,f4,f5⟩:=hf it (by simp)
  refine wpAny_pyNext_list_item st p.isList (x:=u) (by simpa using hu) fun h' st' sb=>?_
  have I1:Inv X pins σ H { s with heap:=h' }:=I.turned (t':=s.toks) (fun b o hb e=>(sb.2 b hb).trans e) f0 f1 f3 f4 f5
  obtain ⟨o,e,c,d⟩:=id st'
  exact ⟨u,rfl,go_of (s:={ s with heap:=h' }) e c d (by decide) ⟨x,H,I1,ru,⟨rfl,fun ys hy=>by rw [I.list_inj hy hq]; exact hx⟩,st',fun b hb=>(hf b hb).1⟩⟩
 done:=by
  intro X hP hw hK hc i pins s σ H E I hf st hg
  subst hP hw hK
  obtain ⟨xs,hq,hx⟩:=hg
  obtain ⟨its,rv,p,hz⟩:=I.list hq
  obtain ⟨f0,f1,f2,f3,f4,f5⟩:=hf it (by simp)
  have hl:=rv.length
  exact wpAny_pyNext_list_end (I.ok.hd hc) st p.isList (by simp; omega) fun h' eb=>⟨rfl,I.turned (t':=s.toks) (fun b o hb e=>eb b o hb e) f0 f1 f3 f4 f5⟩
 self:=fun _ _ _ _ _ st h=>wpAny_pyIter_listiter st h
theorem turn_tuple {P:Program} {w:World} {K:W.Frag} {tg:Expr} (a it:Addr):Turn P w K tg (Itt K a) [it] it (fun i h=>h.IsTupleIter it a i) where
 mem:=by simp
 obj:=fun i h st b hb=>by
  have e:b=it:=by simpa using hb
  subst e
  obtain ⟨o,e,c,d⟩:=st
  exact ⟨o,e,fun v z=>by rw [d] at z; cases z⟩
 keep:=fun i h h' st k=>st.at fun o e=>k it (by simp) o e
 item:=by
  intro X hP hw hK hc i pins s σ H E I hf st hg
  subst hP hw hK
  obtain ⟨xs,x,hq,hx⟩:=hg
  obtain ⟨its,rv,p,hz⟩:=I.tuple hq
  obtain ⟨u,hu,ru⟩:=rv.get hx
  obtain ⟨f0,f1,f2,f3,f4,f5⟩:=hf it (by simp)
  refine wpAny_pyNext_tuple_item st (show s.heap.IsTuple a its.toArray from p) (x:=u) (by simpa using hu) fun h' st' sb=>?_
  have I1:Inv X pins σ H { s with heap:=h' }:=I.turned (t':=s.toks) (fun b o hb e=>(sb.2 b hb).trans e) f0 f1 f3 f4 f5
  obtain ⟨o,e,c,d⟩:=id st'
  exact ⟨u,rfl,go_of (s:={ s with heap:=h' }) e c d (by decide) ⟨x,H,I1,ru,⟨rfl,fun ys hy=>by rw [I.tuple_inj hy hq]; exact hx⟩,st',fun b hb=>(hf b hb).1⟩⟩
 done:=by
  intro X hP hw hK hc i pins s σ H E I hf st hg
  subst hP hw hK
  obtain ⟨xs,hq,hx⟩:=hg
  obtain ⟨its,rv,p,hz⟩:=I.tuple hq
  obtain ⟨f0,f1,f2,f3,f4,f5⟩:=hf it (by simp)
  have hl:=rv.length
  exact wpAny_pyNext_tuple_end (I.ok.hd hc) st (show s.heap.IsTuple a its.toArray from p) (by simp; omega) fun h' eb=>⟨rfl,I.turned (t':=s.toks) (fun b o hb e=>eb b o hb e) f0 f1 f3 f4 f5⟩
 self:=fun _ _ _ _ _ st h=>wpAny_pyIter_tupleiter st h
theorem turn_range {P:Program} {w:World} {K:W.Frag} {tg:Expr} (it:Addr) (lo:Int) (n:Nat):Turn P w K tg (Itr lo n) [it] it (fun i h=>IsRangeIter h it (lo+(i:Nat)*1) ((n:Int) - (i:Nat)) 1) where
 mem:=by simp
 obj:=fun i h st b hb=>by
  have e:b=it:=by simpa using hb
  subst e
  exact ⟨_,st,fun v z=>by
   have z':Data.fields _=Data.cell v:=z
   cases z'⟩
 keep:=fun i h h' st k=>k it (by simp) _ st
 item:=by
  intro X hP hw hK hc i pins s σ H E I hf st hg
  subst hP hw hK
  obtain ⟨f0,f1,f2,f3,f4,f5⟩:=hf it (by simp)
  have W:=Walks.range (prog:=X.prog) (w:=X.w) (I.ok.hd hc) it lo 1 n
  refine W.item i s _ _ hg st fun v h' tk hv st' kk=>?_
  obtain ⟨t,rfl⟩:=hv
  have I1:Inv X pins σ H { s with heap:=h',toks:=tk }:=I.turned (fun b o hb e=>kk b o (by simpa using hb) e) f0 f1 f3 f4 f5
  refine ⟨_,rfl,go_of (s:={ s with heap:=h',toks:=tk }) (n := "range_iterator") st' rfl rfl (by decide) ⟨.int (lo+i),H,I1,⟨t,?_⟩,⟨rfl,rfl⟩,st',fun b hb=>(hf b hb).1⟩⟩
  rw [Int.mul_one]
 done:=by
  intro X hP hw hK hc i pins s σ H E I hf st hg
  subst hP hw hK
  obtain ⟨f0,f1,f2,f3,f4,f5⟩:=hf it (by simp)
  exact wpAny_pyNext_range_end (I.ok.hd hc) st (by have:n<=i:=hg; omega) fun h' eb=>⟨rfl,I.turned (t':=s.toks) (fun b o hb e=>eb b o hb e) f0 f1 f3 f4 f5⟩
 self:=fun _ _ _ _ _ st h=>wpAny_pyIter_rangeiter st h
section
variable {X:Cx} {tg:Expr}
def iList (K:W.Frag) (tl:TE):TI:=fun σ H R=>tl σ H fun x H1=>∃ a,x=.ref a/\(∃ xs,SqL K H1 a xs)/\R (Itl K a) H1
def iTup (K:W.Frag) (tl:TE):TI:=fun σ H R=>tl σ H fun x H1=>∃ a,x=.ref a/\(∃ xs,SqT K H1 a xs)/\R (Itt K a) H1
theorem pi_list {l:Expr} {tl:TE} (hl:PE X l tl):PI X tg l (iList X.K tl):=by
 intro pins s σ H R I h
 refine thn (hl pins s σ H _ I h) fun v s1 ⟨x,H1,I1,r1,q1⟩=>?_
 obtain ⟨a,e,⟨xs,hq⟩,q⟩:=q1
 subst e
 cases r1
 obtain ⟨its,rv,p,hz⟩:=I1.list hq
 refine wpAny_pyIter_list p.isList ?_
 refine ⟨s1.heap.objs.size,[s1.heap.objs.size],_,_,H1,rfl,I1.kept (t':=s1.toks) fun b o e=>Heap.get?_push_of_some _ e,turn_list a _,⟨_,Heap.get?_push_size _ rfl,rfl,rfl⟩,fun b hb=>?_,q⟩
 have e:b=s1.heap.objs.size:=by simpa using hb
 subst e
 exact I1.fpOk (Nat.le_refl _) (I1.hok.fresh (Nat.le_refl _))
theorem pi_tup {l:Expr} {tl:TE} (hl:PE X l tl):PI X tg l (iTup X.K tl):=by
 intro pins s σ H R I h
 refine thn (hl pins s σ H _ I h) fun v s1 ⟨x,H1,I1,r1,q1⟩=>?_
 obtain ⟨a,e,⟨xs,hq⟩,q⟩:=q1
 subst e
 cases r1
 obtain ⟨its,rv,p,hz⟩:=I1.tuple hq
 refine wpAny_pyIter_tuple (show s1.heap.IsTuple a its.toArray from p) ?_
 refine ⟨s1.heap.objs.size,[s1.heap.objs.size],_,_,H1,rfl,I1.kept (t':=s1.toks) fun b o e=>Heap.get?_push_of_some _ e,turn_tuple a _,⟨_,Heap.get?_push_size _ rfl,rfl,rfl⟩,fun b hb=>?_,q⟩
 have e:b=s1.heap.objs.size:=by simpa using hb
 subst e
 exact I1.fpOk (Nat.le_refl _) (I1.hok.fresh (Nat.le_refl _))
theorem range_it {pins:List (Addr × Obj)} {σ:St} {H:Hp} {s:Shared} {R:It->Hp->Prop} {E:Value->Shared->Prop} {lo hi:Int} {t u v:Tok} {tk:Nat} (I:Inv X pins σ H s) (h1:-(2 ^ 62)<=lo) (h2:lo < 2 ^ 62) (h3:-(2 ^ 62)<=hi) (h4:hi < 2 ^ 62)
 (q:R (Itr lo (hi - lo).toNat) H):wpAny (model X.prog X.w) X.A (pyIter (.ref s.heap.objs.size)) (PIE X pins σ tg R) E { s with heap:=s.heap.push { cls:=.type "range", data:=.fields #[.int lo t,.int hi u,.int 1 v] },toks:=tk }:=by
 refine wpAny_pyIter_range (IsRange.new ..) (small_one h1 h2 h3 h4) ?_
 have I1:Inv X pins σ H { s with heap:=s.heap.push { cls:=.type "range", data:=.fields #[.int lo t,.int hi u,.int 1 v] },toks:=tk }:=I.kept fun b o e=>Heap.get?_push_of_some _ e
 refine ⟨(s.heap.push { cls:=.type "range", data:=.fields #[.int lo t,.int hi u,.int 1 v] }).objs.size,[(s.heap.push { cls:=.type "range", data:=.fields #[.int lo t,.int hi u,.int 1 v] }).objs.size],_,_,H,rfl,
  I1.kept (t':=tk) fun b o e=>Heap.get?_push_of_some _ e,turn_range _ lo (hi - lo).toNat,?_,fun b hb=>?_,q⟩
 . have e1:lo+((0:Nat):Int)*1=lo:=by simp
   have e2:(((hi - lo).toNat:Nat):Int) - ((0:Nat):Int)=Builtin.Range.rangeSize lo hi 1:=by rw [rangeSize_one]; split <;> omega
   show IsRangeIter _ _ (lo+((0:Nat):Int)*1) ((((hi - lo).toNat:Nat):Int) - ((0:Nat):Int)) 1
   rw [e1,e2]
   exact Heap.get?_push_size _ rfl
 . have e:b=(s.heap.push { cls:=.type "range", data:=.fields #[.int lo t,.int hi u,.int 1 v] }).objs.size:=by simpa using hb
   subst e
   exact I1.fpOk (Nat.le_refl _) (I1.hok.fresh (Nat.le_refl _))
def iRng1 (ta:TA):TI:=fun σ H R=>ta σ H fun vs H1=>∃ j:Int,vs=[.int j]/\-(2 ^ 62)<=j/\j < 2 ^ 62/\R (Itr 0 j.toNat) H1
def iRng2 (ta:TA):TI:=fun σ H R=>ta σ H fun vs H1=>∃ i j:Int,vs=[.int i,.int j]/\(-(2 ^ 62)<=i/\i < 2 ^ 62/\-(2 ^ 62)<=j/\j < 2 ^ 62)/\R (Itr i (j - i).toNat) H1
theorem bL {a:Expr} {ta:TA} {p pos:Pos} (hg:Gl X "range") (hm:X.mg "range" = none) (ha:PA X [a] ta) (hs:starEach [a] X.env=[(false,eval a X.env)]:=by rfl):PI X tg (.Call (.Name "range" p) [a] [] pos) (iRng1 ta):=by
 intro pins s σ H R I h
 refine Call_ (ld_blt I hg hm boot_range (PyProof.Rows.callWith_type1 (thn (ha pos pins s σ H _ I h) fun us s1 ⟨vs,H1,I1,r1,q1⟩=>?_) hs rfl))
 obtain ⟨j,e,q1,q2,q⟩:=q1
 subst e
 cases r1 with
 | cons r rr =>
   cases rr
   obtain ⟨t,rfl⟩:=r
   exact call_range_1 (range_it I1 (by omega) (by omega) q1 q2 (by simpa using q))
theorem pi_range2 {a b:Expr} {ta:TA} {p pos:Pos} (hg:Gl X "range") (hm:X.mg "range" = none) (ha:PA X [a,b] ta) (hs:starEach [a,b] X.env=[(false,eval a X.env),(false,eval b X.env)]:=by rfl) (hs2:starEach [b] X.env=[(false,eval b X.env)]:=by rfl) :
 PI X tg (.Call (.Name "range" p) [a,b] [] pos) (iRng2 ta):=by
 intro pins s σ H R I h
 refine Call_ (ld_blt I hg hm boot_range (PyProof.Rows.callWith_type1 (thn (ha pos pins s σ H _ I h) fun us s1 ⟨vs,H1,I1,r1,q1⟩=>?_) (by rw [hs,hs2]) (by rw [hs2]; rfl)))
 obtain ⟨i,j,e,⟨q1,q2,q3,q4⟩,q⟩:=q1
 subst e
 cases r1 with
 | cons r rr =>
   cases rr with
   | cons r' rr =>
     cases rr
     obtain ⟨t,rfl⟩:=r
     obtain ⟨t',rfl⟩:=r'
     exact call_range_2 (range_it I1 q1 q2 q3 q4 q)
def tFor (wi:TI) (g:TG) (tb:TS):TS:=fun D σ H=>wi σ H fun J H1=>∃ W:Nat->Nat->St->Hp->Prop,(∃ m,W 0 m σ H1)/\∀ i m σ H,W i m σ H ->
 (J.stop i H/\D.nx σ H)∨(J.go i H/\∃ N:St->Hp->Prop,(∀ σ' H',N σ' H'->∃ m',m' < m/\W (i+1) m' σ' H')/\∀ x H',J.yld i H x H'->g x σ H' fun σ2 H2=>tb { D with nx:=N,ct:=N,bk:=D.nx } σ2 H2)
def pinsAt (fp:List Addr) (h:Heap):List (Addr × Obj):=fp.filterMap fun b=>(h.get? b).map fun o=>(b,o)
theorem mem_pinsAt {fp:List Addr} {h:Heap} {b:Addr} {o:Obj} (hb:b ∈ fp) (e:h.get? b=some o):(b,o) ∈ pinsAt fp h:=List.mem_filterMap.mpr ⟨b,hb,by rw [e]; rfl⟩
theorem of_pinsAt {fp:List Addr} {h:Heap} {p:Addr × Obj} (hp:p ∈ pinsAt fp h):p.1 ∈ fp/\h.get? p.1=some p.2:=by
 obtain ⟨b,hb,e⟩:=List.mem_filterMap.mp hp
 cases q:h.get? b with
 | none=>rw [q] at e; cases e
 | some o =>
   rw [q] at e
   have e':(b,o)=p:=Option.some.inj e
   subst e'
   exact ⟨hb,q⟩
theorem Inv.pinned {pins:List (Addr × Obj)} {σ:St} {H:Hp} {s:Shared} {fp:List Addr} (I:Inv X pins σ H s) (hf:∀ b ∈ fp,FpOk X pins H b) (ho:∀ b ∈ fp,∃ o,s.heap.get? b=some o/\∀ v,o.data ≠ .cell v):Inv X (pins++pinsAt fp s.heap) σ H s :=
 I.pins_of fun p hp=>(List.mem_append.mp hp).elim (fun z=>I.pin p (List.mem_append_right _ z)) fun z=>by
  obtain ⟨hb,e⟩:=of_pinsAt z
  obtain ⟨f0,f1,f2,_⟩:=hf p.1 hb
  obtain ⟨o,e',d⟩:=ho p.1 hb
  rw [e] at e'; cases e'
  exact ⟨e,f0,f1,f2,d⟩
theorem Inv.unpinned {pins pl:List (Addr × Obj)} {σ:St} {H:Hp} {s:Shared} (I:Inv X (pins++pl) σ H s):Inv X pins σ H s:=I.pins_of fun p hp=>I.pin p (List.mem_append_right _ (List.mem_append_left _ hp))
theorem cG {iter:Expr} {body:List Stmt} {wi:TI} {g:TG} {tb:TS} {pos:Pos} (hp:PassesOwn (model X.prog X.w) X.A X.env X.xe) (hc:X.calm=true) (hi:PI X tg iter wi) (hg:PG X tg g) (hb:PSs X body tb)
 (hs:∀ x,foldedSetIterable iter X.env x=pure x:=by intro _; rfl):PS X (.For tg iter body [] pos) (tFor wi g tb):=by
 intro pins s σ H D I h
 refine wpAny_For (thn (hi pins s σ H _ I h) fun v s1 h1=>thn h1 fun itv s2 h2=>?_) hs
 obtain ⟨it,fp,tn,J,H2,e,I2,T,st2,f2,W,⟨m0,w0⟩,turn⟩:=h2
 subst e
 have stat:∀ {H':Hp},(∀ b ∈ fp,H' b=none)->∀ b ∈ fp,FpOk X pins H' b:=fun hn b hb=>⟨hn b hb,(f2 b hb).2⟩
 refine codeAny_forLoop_any (fun n s'=>∃ i σ' H',Inv X pins σ' H' s'/\tn i s'.heap/\(∀ b ∈ fp,H' b=none)/\W i n σ' H') ?_ m0 ⟨0,σ,H2,I2,st2,fun b hb=>(f2 b hb).1,w0⟩
 rintro n s3 ⟨i,σ3,H3,I3,st3,fr3,w3⟩
 rcases turn i n σ3 H3 w3 with ⟨stop,qn⟩ | ⟨go,N,hN,step⟩
 . refine wpAny_passesOwn hp (thn (T.done X rfl rfl rfl hc i pins s3 σ3 H3 X.xe I3 (stat fr3) st3 stop) fun r s4 ⟨hr,I4⟩=>?_)
   subst hr
   exact wpAny_execs_nil ⟨σ3,H3,I4,qn⟩
 . refine wpAny_passesOwn hp (thn (T.item X rfl rfl rfl hc i pins s3 σ3 H3 X.xe I3 (stat fr3) st3 go) fun r s4 ⟨u,hr,h4⟩=>?_)
   subst hr
   refine wpAny_passesOwn hp (thn h4 fun _ s5 ⟨x,H5,I5,r5,y5,st5,fr5⟩=>?_)
   have I5':=I5.pinned (stat fr5) (T.obj _ _ st5)
   refine wpAny_passesOwn hp (thn (hg _ s5 σ3 H5 x u _ I5' r5 (step x H5 y5)) fun _ s6 ⟨σ6,H6,I6,q6⟩=>?_)
   refine wpAny_passesOwn hp (thn (hb _ s6 σ6 H6 _ I6 q6) fun f s7 q7=>?_)
   have again:∀ {σ7:St} {H7:Hp},Inv X (pins++pinsAt fp s5.heap) σ7 H7 s7->N σ7 H7->∃ m,m < n/\∃ i σ' H',Inv X pins σ' H' s7/\tn i s7.heap/\(∀ b ∈ fp,H' b=none)/\W i m σ' H':=fun {σ7 H7} I7 n7=>by
    obtain ⟨m',hm,w7⟩:=hN σ7 H7 n7
    refine ⟨m',hm,i+1,σ7,H7,I7.unpinned,T.keep _ _ _ st5 fun b hb o e=>(I7.pin (b,o) (List.mem_append_right _ (List.mem_append_right _ (mem_pinsAt hb e)))).1,fun b hb=>?_,w7⟩
    obtain ⟨o,e,d⟩:=T.obj _ _ st5 b hb
    exact (I7.pin (b,o) (List.mem_append_right _ (List.mem_append_right _ (mem_pinsAt hb e)))).2.1
   cases f with
   | next=>obtain ⟨σ7,H7,I7,n7⟩:=q7; exact again I7 n7
   | cont=>obtain ⟨σ7,H7,I7,n7⟩:=q7; exact again I7 n7
   | brk=>obtain ⟨σ7,H7,I7,q7⟩:=q7; exact ⟨σ7,H7,I7.unpinned,q7⟩
   | ret v=>obtain ⟨x7,σ7,H7,I7,r7,q7⟩:=q7; exact ⟨x7,σ7,H7,I7.unpinned,r7,q7⟩
end
theorem for_list {K:W.Frag} {a:Addr} {xs:List V} {g:TG} {tb:TS} {D:Ends} {σ:St} {H:Hp} (Pv:Nat->St->Hp->Prop) (h0:Pv 0 σ H) (hl:∀ i σ H,i<=xs.length->Pv i σ H->SqL K H a xs)
 (hs:∀ i x σ H,xs[i]?=some x->Pv i σ H->g x σ H fun σ2 H2=>tb { D with nx:=Pv (i+1),ct:=Pv (i+1),bk:=D.nx } σ2 H2) (hd:∀ σ H,Pv xs.length σ H->D.nx σ H) :
 ∃ W:Nat->Nat->St->Hp->Prop,(∃ m,W 0 m σ H)/\∀ i m σ H,W i m σ H ->
  ((Itl K a).stop i H/\D.nx σ H)∨((Itl K a).go i H/\∃ N:St->Hp->Prop,(∀ σ' H',N σ' H'->∃ m',m' < m/\W (i+1) m' σ' H')/\∀ x H',(Itl K a).yld i H x H'->g x σ H' fun σ2 H2=>tb { D with nx:=N,ct:=N,bk:=D.nx } σ2 H2):=by
 refine ⟨fun i m σ H=>m=xs.length - i/\i<=xs.length/\Pv i σ H,⟨xs.length,by simp,Nat.zero_le _,h0⟩,?_⟩
 rintro i m σ H ⟨rfl,hi,p⟩
 have q:=hl i σ H hi p
 by_cases hlt:i < xs.length
 . refine .inr ⟨⟨xs,xs[i],q,by simp [hlt]⟩,Pv (i+1),fun σ' H' p'=>⟨xs.length - (i+1),by omega,rfl,hlt,p'⟩,fun x H' y=>?_⟩
   obtain ⟨e,y⟩:=y
   subst e
   exact hs i x σ _ (y xs q) p
 . have e:i=xs.length:=by omega
   subst e
   exact .inl ⟨⟨xs,q,Nat.le_refl _⟩,hd σ H p⟩
theorem for_tup {K:W.Frag} {a:Addr} {xs:List V} {g:TG} {tb:TS} {D:Ends} {σ:St} {H:Hp} (Pv:Nat->St->Hp->Prop) (h0:Pv 0 σ H) (hl:∀ i σ H,i<=xs.length->Pv i σ H->SqT K H a xs)
 (hs:∀ i x σ H,xs[i]?=some x->Pv i σ H->g x σ H fun σ2 H2=>tb { D with nx:=Pv (i+1),ct:=Pv (i+1),bk:=D.nx } σ2 H2) (hd:∀ σ H,Pv xs.length σ H->D.nx σ H) :
 ∃ W:Nat->Nat->St->Hp->Prop,(∃ m,W 0 m σ H)/\∀ i m σ H,W i m σ H ->
  ((Itt K a).stop i H/\D.nx σ H)∨((Itt K a).go i H/\∃ N:St->Hp->Prop,(∀ σ' H',N σ' H'->∃ m',m' < m/\W (i+1) m' σ' H')/\∀ x H',(Itt K a).yld i H x H'->g x σ H' fun σ2 H2=>tb { D with nx:=N,ct:=N,bk:=D.nx } σ2 H2):=by
 refine ⟨fun i m σ H=>m=xs.length - i/\i<=xs.length/\Pv i σ H,⟨xs.length,by simp,Nat.zero_le _,h0⟩,?_⟩
 rintro i m σ H ⟨rfl,hi,p⟩
 have q:=hl i σ H hi p
 by_cases hlt:i < xs.length
 . refine .inr ⟨⟨xs,xs[i],q,by simp [hlt]⟩,Pv (i+1),fun σ' H' p'=>⟨xs.length - (i+1),by omega,rfl,hlt,p'⟩,fun x H' y=>?_⟩
   obtain ⟨e,y⟩:=y
   subst e
   exact hs i x σ _ (y xs q) p
 . have e:i=xs.length:=by omega
   subst e
   exact .inl ⟨⟨xs,q,Nat.le_refl _⟩,hd σ H p⟩
theorem di {lo:Int} {n:Nat} {g:TG} {tb:TS} {D:Ends} {σ:St} {H:Hp} (Pv:Nat->St->Hp->Prop) (h0:Pv 0 σ H)
 (hs:∀ i σ H,i < n->Pv i σ H->g (.int (lo+i)) σ H fun σ2 H2=>tb { D with nx:=Pv (i+1),ct:=Pv (i+1),bk:=D.nx } σ2 H2) (hd:∀ σ H,Pv n σ H->D.nx σ H) :
 ∃ W:Nat->Nat->St->Hp->Prop,(∃ m,W 0 m σ H)/\∀ i m σ H,W i m σ H ->
  ((Itr lo n).stop i H/\D.nx σ H)∨((Itr lo n).go i H/\∃ N:St->Hp->Prop,(∀ σ' H',N σ' H'->∃ m',m' < m/\W (i+1) m' σ' H')/\∀ x H',(Itr lo n).yld i H x H'->g x σ H' fun σ2 H2=>tb { D with nx:=N,ct:=N,bk:=D.nx } σ2 H2):=by
 refine ⟨fun i m σ H=>m=n - i/\i<=n/\Pv i σ H,⟨n,by simp,Nat.zero_le _,h0⟩,?_⟩
 rintro i m σ H ⟨rfl,hi,p⟩
 by_cases hlt:i < n
 . refine .inr ⟨hlt,Pv (i+1),fun σ' H' p'=>⟨n - (i+1),by omega,rfl,hlt,p'⟩,fun x H' y=>?_⟩
   obtain ⟨e,y⟩:=y
   subst e y
   exact hs i σ _ hlt p
 . have e:i=n:=by omega
   subst e
   exact .inl ⟨Nat.le_refl _,hd σ H p⟩
abbrev R2:=V->V->Hp->VK->Prop
def OpR (X:Cx) (f:Value->Value->Sem Value) (r:R2):Prop :=
 ∀ (pins:List (Addr × Obj)) (s:Shared) (σ:St) (H:Hp) (x y:V) (v u:Value) (Q:VK),Inv X pins σ H s->RelV x v->RelV y u->r x y H Q ->
  wpAny (model X.prog X.w) X.A (f v u) (EP X pins σ Q) X.xe s
def UnR (X:Cx) (f:Value->Sem Value) (r:V->Hp->VK->Prop):Prop :=
 ∀ (pins:List (Addr × Obj)) (s:Shared) (σ:St) (H:Hp) (x:V) (v:Value) (Q:VK),Inv X pins σ H s->RelV x v->r x H Q ->
  wpAny (model X.prog X.w) X.A (f v) (EP X pins σ Q) X.xe s
def CallR (X:Cx) (f:Value) (r:List V->Hp->VK->Prop):Prop :=
 ∀ (pins:List (Addr × Obj)) (s:Shared) (σ:St) (H:Hp) (xs:List V) (us:List Value) (Q:VK),Inv X pins σ H s->Vals xs us->r xs H Q ->
  wpAny (model X.prog X.w) X.A (call f us) (EP X pins σ Q) X.xe s
def tOp (r:R2) (ta tb:TE):TE:=fun σ H Q=>ta σ H fun x H1=>tb σ H1 fun y H2=>r x y H2 Q
def tUn (r:V->Hp->VK->Prop) (ta:TE):TE:=fun σ H Q=>ta σ H fun x H1=>r x H1 Q
def rI (C:Int->Int->Prop) (g:Int->Int->V):R2:=fun x y H Q=>∃ i j,x=.int i/\y=.int j/\C i j/\Q (g i j) H
def rI0 (g:Int->Int->V):R2:=fun x y H Q=>∃ i j,x=.int i/\y=.int j/\Q (g i j) H
def rU (g:Int->V):V->Hp->VK->Prop:=fun x H Q=>∃ i,x=.int i/\Q (g i) H
section
variable {X:Cx} {a b c:Expr} {ta tb tc:TE} {pos:Pos}
theorem binT (ha:PE X a ta) (hb:PE X b tb) {pins:List (Addr × Obj)} {s:Shared} {σ:St} {H:Hp} {R:V->V->Hp->Prop} (I:Inv X pins σ H s)
 (h:ta σ H fun x H1=>tb σ H1 fun y H2=>R x y H2) {Q:Value->Shared->Prop} {f:Value->Value->Sem Value}
 (hf:∀ v u s2 x y H2,Inv X pins σ H2 s2->RelV x v->RelV y u->R x y H2->wpAny (model X.prog X.w) X.A (f v u) Q X.xe s2) :
 wpAny (model X.prog X.w) X.A (eval a X.env) (fun v s₁=>wpAny (model X.prog X.w) X.A (eval b X.env) (fun u s₂=>wpAny (model X.prog X.w) X.A (f v u) Q X.xe s₂) X.xe s₁) X.xe s:=by
 refine thn (ha pins s σ H _ I h) fun v s1 ⟨x,H1,I1,r1,q1⟩=>?_
 refine thn (hb pins s1 σ H1 _ I1 q1) fun u s2 ⟨y,H2,I2,r2,q2⟩=>?_
 exact hf v u s2 x y H2 I2 r1 r2 q2
theorem ao {op:Operator} {r:R2} (ho:OpR X (binaryOp op) r) (ha:PE X a ta) (hb:PE X b tb):PE X (.BinOp a op b pos) (tOp r ta tb):=by
 intro pins s σ H Q I h
 exact wpAny_BinOp (binT ha hb I h fun v u s2 x y H2 I2 rx ry q=>ho pins s2 σ H2 x y v u Q I2 rx ry q)
theorem pe_un {op:UnaryOp} {r:V->Hp->VK->Prop} (ho:UnR X (unaryOp op) r) (ha:PE X a ta):PE X (.UnaryOp op a pos) (tUn r ta):=by
 intro pins s σ H Q I h
 exact UnaryOp_ (thn (ha pins s σ H _ I h) fun v s1 ⟨x,H1,I1,r1,q1⟩=>ho pins s1 σ H1 x v Q I1 r1 q1)
theorem opI {f:Value->Value->Sem Value} {C:Int->Int->Prop} {g:Int->Int->Int}
 (rule:∀ (i j:Int) (t u:Tok) (s:Shared) (Q:Value->Shared->Prop) (E:Value->Shared->Prop),C i j->Q (.int (g i j) s.toks) { s with toks:=s.toks+1 }->wpAny (model X.prog X.w) X.A (f (.int i t) (.int j u)) Q E s) :
 OpR X f (rI C fun i j=>.int (g i j)):=by
 intro pins s σ H x y v u Q I rx ry h
 obtain ⟨i,j,rfl,rfl,hc,q⟩:=h
 obtain ⟨t,rfl⟩:=rx
 obtain ⟨t',rfl⟩:=ry
 exact rule i j t t' s _ _ hc ⟨.int (g i j),H,I.tok _,⟨_,rfl⟩,q⟩
theorem opI0 {f:Value->Value->Sem Value} {g:Int->Int->Int}
 (rule:∀ (i j:Int) (t u:Tok) (s:Shared) (Q:Value->Shared->Prop) (E:Value->Shared->Prop),Q (.int (g i j) s.toks) { s with toks:=s.toks+1 }->wpAny (model X.prog X.w) X.A (f (.int i t) (.int j u)) Q E s) :
 OpR X f (rI0 fun i j=>.int (g i j)):=by
 intro pins s σ H x y v u Q I rx ry h
 obtain ⟨i,j,rfl,rfl,q⟩:=h
 obtain ⟨t,rfl⟩:=rx
 obtain ⟨t',rfl⟩:=ry
 exact rule i j t t' s _ _ ⟨.int (g i j),H,I.tok _,⟨_,rfl⟩,q⟩
theorem opB0 {f:Value->Value->Sem Value} {g:Int->Int->Bool}
 (rule:∀ (i j:Int) (t u:Tok) (s:Shared) (Q:Value->Shared->Prop) (E:Value->Shared->Prop),Q (.bool (g i j)) s->wpAny (model X.prog X.w) X.A (f (.int i t) (.int j u)) Q E s) :
 OpR X f (rI0 fun i j=>.bl (g i j)):=by
 intro pins s σ H x y v u Q I rx ry h
 obtain ⟨i,j,rfl,rfl,q⟩:=h
 obtain ⟨t,rfl⟩:=rx
 obtain ⟨t',rfl⟩:=ry
 exact rule i j t t' s _ _ ⟨.bl (g i j),H,I,rfl,q⟩
def CDiv (i j:Int):Prop:=0 < j/\j < 1073741824
def CPow (i j:Int):Prop:=0<=j/\j<=1000000/\i.natAbs < 2 ^ 64
def CMul (i j:Int):Prop:=(-(2 ^ 64) < i/\i < 2 ^ 64)∨(-(2 ^ 64) < j/\j < 2 ^ 64)
theorem CMul.ok {i j:Int} (h:CMul i j):IntMulOk i j:=by
 rcases h with ⟨h1,h2⟩ | ⟨h1,h2⟩
 . exact .of_left (intBits_le_64 h1 h2)
 . exact .of_right (intBits_le_64 h1 h2)
theorem aX:OpR X (binaryOp .Add) (rI0 fun i j=>.int (i+j)):=opI0 fun _ _ _ _ _ _ _ q=>add_int q
theorem bq:OpR X (binaryOp .Sub) (rI0 fun i j=>.int (i - j)):=opI0 fun _ _ _ _ _ _ _ q=>sub_int q
theorem bO:OpR X (binaryOp .Mult) (rI CMul fun i j=>.int (i*j)):=opI fun _ _ _ _ _ _ _ hc q=>mul_int q hc.ok
theorem op_fdiv:OpR X (binaryOp .FloorDiv) (rI CDiv fun i j=>.int (i / j)):=opI fun i j _ _ _ _ _ hc q=>by
 have h1:(0:Int) < j:=hc.1
 have h2:j < 1073741824:=hc.2
 exact floordiv_int (by omega) (by rw [Int.fdiv_eq_ediv_of_nonneg i (by omega)]; exact q) (.inl (PyProof.noPylong_small (by omega)))
theorem bb:OpR X (binaryOp .Mod) (rI (fun _ j=>0 < j) fun i j=>.int (i % j)):=opI fun i j _ _ _ _ _ hc q=>by
 have h1:(0:Int) < j:=hc
 exact mod_int' (by omega) (by rw [Int.fmod_eq_emod_of_nonneg i (by omega)]; exact q)
theorem op_pow:OpR X (binaryOp .Pow) (rI CPow fun i j=>.int (i ^ j.toNat)):=opI fun _ _ _ _ _ _ _ hc q=>pow_int_small hc.1 hc.2.1 hc.2.2 q
theorem unI {f:Value->Sem Value} {g:Int->Int}
 (rule:∀ (i:Int) (t:Tok) (s:Shared) (Q:Value->Shared->Prop) (E:Value->Shared->Prop),Q (.int (g i) s.toks) { s with toks:=s.toks+1 }->wpAny (model X.prog X.w) X.A (f (.int i t)) Q E s) :
 UnR X f (rU fun i=>.int (g i)):=by
 intro pins s σ H x v Q I rx h
 obtain ⟨i,rfl,q⟩:=h
 obtain ⟨t,rfl⟩:=rx
 exact rule i t s _ _ ⟨.int (g i),H,I.tok _,⟨_,rfl⟩,q⟩
theorem un_neg:UnR X (unaryOp .USub) (rU fun i=>.int (-i)):=unI fun _ _ _ _ _ q=>neg_int q
end
def scal:V->V->Bool
 | .non,.non=>true | .non,.int _=>true | .int _,.non=>true | .non,.bl _=>true | .bl _,.non=>true | .non,.str _=>true | .str _,.non=>true
 | .int _,.int _=>true | .bl _,.bl _=>true | .str _,.str _=>true | .byt _,.byt _=>true
 | .int _,.str _=>true | .str _,.int _=>true | .bl _,.str _=>true | .str _,.bl _=>true
 | _,_=>false
def rEq:R2:=fun x y H Q=>scal x y=true/\Q (.bl (decide (x=y))) H
def rNe:R2:=fun x y H Q=>scal x y=true/\Q (.bl (!decide (x=y))) H
theorem dec_int {i j:Int}:decide (V.int i=V.int j)=(i == j):=by
 rw [Bool.eq_iff_iff]
 simp
theorem dec_bl {i j:Bool}:decide (V.bl i=V.bl j)=(i == j):=by
 rw [Bool.eq_iff_iff]
 simp
theorem dec_str {i j:Str}:decide (V.str i=V.str j)=(i == j):=by
 rw [Bool.eq_iff_iff]
 simp
theorem dec_byt {i j:Array UInt8}:decide (V.byt i=V.byt j)=(i.toList == j.toList):=by
 rw [Bool.eq_iff_iff]
 cases i
 cases j
 simp
section
variable {X:Cx} {a b c:Expr} {ta tb tc:TE} {pos:Pos}
theorem bt {pins:List (Addr × Obj)} {σ:St} {H:Hp} {s:Shared} {Q:VK} {k k':Bool} (I:Inv X pins σ H s) (q:Q (.bl k) H) (e:k=k'):EP X pins σ Q (.bool k') s:=by
 subst e
 exact ⟨.bl k,H,I,rfl,q⟩
theorem cu:OpR X (compareOp .Eq) rEq:=by
 intro pins s σ H x y v u Q I rx ry h
 obtain ⟨hs,q⟩:=h
 cases x with
 | non =>
   cases rx
   cases y with
   | non=>cases ry; exact PySem.EqNone.eq_none_none (bt I q (by simp))
   | bl j=>cases ry; exact PySem.EqNone.eq_none_bool (bt I q (by simp))
   | int j=>obtain ⟨t',rfl⟩:=ry; exact PySem.EqNone.eq_none_int (bt I q (by simp))
   | str j=>obtain ⟨t',rfl⟩:=ry; exact PySem.EqNone.eq_none_str (bt I q (by simp))
   | _=>exact absurd (show false=true from hs) Bool.false_ne_true
 | bl i =>
   cases rx
   cases y with
   | non=>cases ry; exact PySem.EqNone.eq_bool_none (bt I q (by simp))
   | bl j=>cases ry; exact eq_bool (bt I q dec_bl)
   | str j=>obtain ⟨t',rfl⟩:=ry; exact PySem.EqMixed.eq_bool_str (bt I q (by simp))
   | _=>exact absurd (show false=true from hs) Bool.false_ne_true
 | int i =>
   obtain ⟨t,rfl⟩:=rx
   cases y with
   | non=>cases ry; exact PySem.EqNone.eq_int_none (bt I q (by simp))
   | int j=>obtain ⟨t',rfl⟩:=ry; exact eq_int (bt I q dec_int)
   | str j=>obtain ⟨t',rfl⟩:=ry; exact PySem.EqMixed.eq_int_str (bt I q (by simp))
   | _=>exact absurd (show false=true from hs) Bool.false_ne_true
 | str i =>
   obtain ⟨t,rfl⟩:=rx
   cases y with
   | non=>cases ry; exact PySem.EqNone.eq_str_none (bt I q (by simp))
   | bl j=>cases ry; exact PySem.EqMixed.eq_str_bool (bt I q (by simp))
   | int j=>obtain ⟨t',rfl⟩:=ry; exact PySem.EqMixed.eq_str_int (bt I q (by simp))
   | str j=>obtain ⟨t',rfl⟩:=ry; exact eq_str (bt I q dec_str)
   | _=>exact absurd (show false=true from hs) Bool.false_ne_true
 | byt i =>
   obtain ⟨t,rfl⟩:=rx
   cases y with
   | byt j=>obtain ⟨t',rfl⟩:=ry; exact PySem.W.eq_bytes (bt I q dec_byt)
   | _=>exact absurd (show false=true from hs) Bool.false_ne_true
 | _=>cases y <;> exact absurd (show false=true from hs) Bool.false_ne_true
theorem op_ne:OpR X (compareOp .NotEq) rNe:=by
 intro pins s σ H x y v u Q I rx ry h
 obtain ⟨hs,q⟩:=h
 cases x with
 | non =>
   cases rx
   cases y with
   | non=>cases ry; exact PySem.EqNone.ne_none_none (bt I q (by simp))
   | bl j=>cases ry; exact PySem.EqNone.ne_none_bool (bt I q (by simp))
   | int j=>obtain ⟨t',rfl⟩:=ry; exact PySem.EqNone.ne_none_int (bt I q (by simp))
   | str j=>obtain ⟨t',rfl⟩:=ry; exact PySem.EqNone.ne_none_str (bt I q (by simp))
   | _=>exact absurd (show false=true from hs) Bool.false_ne_true
 | bl i =>
   cases rx
   cases y with
   | non=>cases ry; exact PySem.EqNone.ne_bool_none (bt I q (by simp))
   | bl j=>cases ry; exact ne_bool (bt I q (congrArg not dec_bl))
   | str j=>obtain ⟨t',rfl⟩:=ry; exact PySem.EqMixed.ne_bool_str (bt I q (by simp))
   | _=>exact absurd (show false=true from hs) Bool.false_ne_true
 | int i =>
   obtain ⟨t,rfl⟩:=rx
   cases y with
   | non=>cases ry; exact PySem.EqNone.ne_int_none (bt I q (by simp))
   | int j=>obtain ⟨t',rfl⟩:=ry; exact ne_int (bt I q (congrArg not dec_int))
   | str j=>obtain ⟨t',rfl⟩:=ry; exact PySem.EqMixed.ne_int_str (bt I q (by simp))
   | _=>exact absurd (show false=true from hs) Bool.false_ne_true
 | str i =>
   obtain ⟨t,rfl⟩:=rx
   cases y with
   | non=>cases ry; exact PySem.EqNone.ne_str_none (bt I q (by simp))
   | bl j=>cases ry; exact PySem.EqMixed.ne_str_bool (bt I q (by simp))
   | int j=>obtain ⟨t',rfl⟩:=ry; exact PySem.EqMixed.ne_str_int (bt I q (by simp))
   | str j=>obtain ⟨t',rfl⟩:=ry; exact ne_str (bt I q (congrArg not dec_str))
   | _=>exact absurd (show false=true from hs) Bool.false_ne_true
 | byt i =>
   obtain ⟨t,rfl⟩:=rx
   cases y with
   | byt j=>obtain ⟨t',rfl⟩:=ry; exact PySem.W.ne_bytes (bt I q (congrArg not dec_byt))
   | _=>exact absurd (show false=true from hs) Bool.false_ne_true
 | _=>cases y <;> exact absurd (show false=true from hs) Bool.false_ne_true
theorem op_lt:OpR X (compareOp .Lt) (rI0 fun i j=>.bl (decide (i < j))):=opB0 fun _ _ _ _ _ _ _ q=>lt_int q
theorem op_le:OpR X (compareOp .LtE) (rI0 fun i j=>.bl (decide (i<=j))):=opB0 fun _ _ _ _ _ _ _ q=>le_int q
theorem op_gt:OpR X (compareOp .Gt) (rI0 fun i j=>.bl (decide (j < i))):=opB0 fun _ _ _ _ _ _ _ q=>gt_int q
theorem op_ge:OpR X (compareOp .GtE) (rI0 fun i j=>.bl (decide (j<=i))):=opB0 fun _ _ _ _ _ _ _ q=>ge_int q
theorem op_isN:OpR X (compareOp .Is) (fun x y H Q=>y=.non/\Q (.bl (decide (x=.non))) H):=by
 intro pins s σ H x y v u Q I rx ry h
 obtain ⟨rfl,q⟩:=h
 cases ry
 refine is_none_gen (bt I q ?_)
 cases x <;> first
  | (cases rx; rfl)
  | (obtain ⟨t,rfl⟩:=rx; rfl)
theorem OpR.or {f:Value->Value->Sem Value} {r r':R2} (h:OpR X f r) (h':OpR X f r'):OpR X f (fun x y H Q=>r x y H Q∨r' x y H Q):=by
 intro pins s σ H x y v u Q I rx ry q
 rcases q with q | q
 . exact h pins s σ H x y v u Q I rx ry q
 . exact h' pins s σ H x y v u Q I rx ry q
theorem aI (b:Expr) {op:CmpOp} (h:op ≠ .In:=by decide) (h2:op ≠ .NotIn:=by decide):behindInMarks op b=false:=by
 have e1:(op == CmpOp.In)=false:=by cases op <;> first | rfl | exact absurd rfl h
 have e2:(op == CmpOp.NotIn)=false:=by cases op <;> first | rfl | exact absurd rfl h2
 cases b <;> simp [behindInMarks,e1,e2]
theorem pe_cmpR {op:CmpOp} {r:R2} (ho:OpR X (compareOp op) r) (ha:PE X a ta) (hb:PE X b tb) (hm:behindInMarks op b=false):PE X (.Compare a [op] [b] pos) (tOp r ta tb):=by
 intro pins s σ H Q I h
 exact wpAny_Compare1 (binT ha hb I h fun v u s2 x y H2 I2 rx ry q=>ho pins s2 σ H2 x y v u Q I2 rx ry q) hm
def tTest (t:TE):TT:=fun σ H Q=>t σ H fun x H'=>∃ k,x=.bl k/\Q k H'
theorem aB {op:CmpOp} {r:R2} (ho:OpR X (compareOp op) r) (ha:PE X a ta) (hb:PE X b tb) (hm:behindInMarks op b=false):PT X (.Compare a [op] [b] pos) (tTest (tOp r ta tb)):=by
 intro pins s σ H Q I h
 refine wpAny_isTrue_Compare1 (thn (ha pins s σ H _ I h) fun v s1 ⟨x,H1,I1,r1,q1⟩=>thn (hb pins s1 σ H1 _ I1 q1) fun u s2 ⟨y,H2,I2,r2,q2⟩ =>
  thn (ho pins s2 σ H2 x y v u _ I2 r1 r2 q2) fun c s3 ⟨z,H3,I3,r3,k,e,q3⟩=>?_) hm
 subst e
 cases r3
 exact wpAny_truthy_bool ⟨H3,I3,q3⟩
def tChain (r r':R2) (ta tb tc:TE):TE:=fun σ H Q=>ta σ H fun x H1=>tb σ H1 fun y H2=>r x y H2 fun z H3=>∃ k,z=.bl k /\
 (if k=true then tc σ H3 fun w' H4=>r' y w' H4 Q else Q (.bl false) H3)
theorem pe_chain {op op':CmpOp} {r r':R2} (ho:OpR X (compareOp op) r) (ho':OpR X (compareOp op') r') (ha:PE X a ta) (hb:PE X b tb) (hc:PE X c tc)
 (hm:lastMarks [op,op'] [b,c]=false:=by with_unfolding_all rfl):PE X (.Compare a [op,op'] [b,c] pos) (tChain r r' ta tb tc):=by
 intro pins s σ H Q I h
 refine Compare_chain (thn (ha pins s σ H _ I h) fun v s1 ⟨x,H1,I1,r1,q1⟩=>chain_link (thn (hb pins s1 σ H1 _ I1 q1) fun u s2 ⟨y,H2,I2,r2,q2⟩ =>
  thn (ho pins s2 σ H2 x y v u _ I2 r1 r2 q2) fun d s3 ⟨z,H3,I3,r3,k,e,q3⟩=>?_)) hm
 subst e
 cases r3
 refine wpAny_truthy_bool ?_
 cases k with
 | false=>exact ite_ff ⟨.bl false,H3,I3,rfl,q3⟩
 | true=>exact ite_tt (chain_last (thn (hc pins s3 σ H3 _ I3 q3) fun w' s4 ⟨z',H4,I4,r4,q4⟩=>ho' pins s4 σ H4 y z' u w' Q I4 r2 r4 q4))
theorem line63:(sizeLine:Nat) < 2 ^ 63:=by rw [sizeLine_eq]; decide
theorem op_add_str:OpR X (binaryOp .Add) (fun x y H Q=>∃ i j,x=.str i/\y=.str j/\i.length+j.length<=sizeLine/\Q (.str (i++j)) H):=by
 intro pins s σ H x y v u Q I rx ry h
 obtain ⟨i,j,rfl,rfl,hz,q⟩:=h
 obtain ⟨t,rfl⟩:=rx
 obtain ⟨t',rfl⟩:=ry
 exact add_str (fun t' tk=>⟨.str (i++j),H,I.tok _,⟨_,rfl⟩,q⟩) hz
theorem vals1 {x:V} {us:List Value} (r:Vals [x] us):∃ u,us=[u]/\RelV x u:=by
 cases r with
 | cons r1 r2=>cases r2; exact ⟨_,rfl,r1⟩
theorem vals2 {x y:V} {us:List Value} (r:Vals [x,y] us):∃ u w',us=[u,w']/\RelV x u/\RelV y w':=by
 cases r with
 | cons r1 r2 =>
   cases r2 with
   | cons r3 r4=>cases r4; exact ⟨_,_,rfl,r1,r3⟩
theorem call_max2 (hc:X.calm=true):CallR X (.builtin "max") (fun xs H Q=>∃ i j,xs=[.int i,.int j]/\Q (.int (if j > i then j else i)) H):=by
 intro pins s σ H xs us Q I r h
 obtain ⟨i,j,rfl,q⟩:=h
 obtain ⟨u,w',rfl,⟨t,rfl⟩,⟨t',rfl⟩⟩:=vals2 r
 refine max_two_ints (I.ok.hd hc) fun h' tk k=>⟨_,H,I.kept k,?_,q⟩
 by_cases hj:j > i
 . rw [if_pos hj,if_pos hj]; exact ⟨_,rfl⟩
 . rw [if_neg hj,if_neg hj]; exact ⟨_,rfl⟩
theorem call_min2 (hc:X.calm=true):CallR X (.builtin "min") (fun xs H Q=>∃ i j,xs=[.int i,.int j]/\Q (.int (if j < i then j else i)) H):=by
 intro pins s σ H xs us Q I r h
 obtain ⟨i,j,rfl,q⟩:=h
 obtain ⟨u,w',rfl,⟨t,rfl⟩,⟨t',rfl⟩⟩:=vals2 r
 refine min_two_ints (I.ok.hd hc) fun h' tk k=>⟨_,H,I.kept k,?_,q⟩
 by_cases hj:j < i
 . rw [if_pos hj,if_pos hj]; exact ⟨_,rfl⟩
 . rw [if_neg hj,if_neg hj]; exact ⟨_,rfl⟩
theorem call_int1:CallR X (.type "int") (fun xs H Q=>(∃ i,xs=[.int i]/\Q (.int i) H)∨∃ k,xs=[.bl k]/\Q (.int (if k then 1 else 0)) H):=by
 intro pins s σ H xs us Q I r h
 rcases h with ⟨i,rfl,q⟩ | ⟨k,rfl,q⟩
 . obtain ⟨u,rfl,t,rfl⟩:=vals1 r
   exact call_int_int ⟨.int i,H,I,⟨_,rfl⟩,q⟩
 . obtain ⟨u,rfl,r1⟩:=vals1 r
   cases r1
   exact call_int_bool ⟨.int (if k then 1 else 0),H,I.tok _,⟨_,rfl⟩,q⟩
end
structure ObjM (h:Heap) (x dx C:Addr) (mA:Str->Option Value):Prop where
 obj:h.get? x=some (PySem.W.instObj C dx)
 ns:h.Ns1 dx mA
 ne:dx ≠ x
theorem lookIn_ns {h:Heap} {dx:Addr} {mA:Str->Option Value} (n:h.Ns1 dx mA):∃ od,h.get? dx=some od/\∀ name,PySem.W.lookIn name od=some (mA name):=by
 obtain ⟨o,es,ep,ho,hd,hk,_,hm⟩:=n
 refine ⟨o,ho,fun name=>?_⟩
 have e:=hm name
 unfold nsFind findBy at e
 rw [← Array.find?_toList] at e
 unfold PySem.W.lookIn
 rw [hd]
 dsimp only
 split
 . rename_i y q
   rw [q] at e
   exact congrArg some e
 . rename_i q
   rw [q] at e
   have a:es.toList.any (·.refKey)=false:=by
    rw [List.any_eq_false]
    intro y hy
    obtain ⟨z,t,hkey⟩:=hk y (Array.mem_toList_iff.mp hy)
    simp [DictEntry.refKey,hkey]
   have a':¬ es.toList.any (·.refKey)=true:=by rw [a]; exact Bool.false_ne_true
   rw [if_neg a']
   exact congrArg some e
theorem ObjM.look {h:Heap} {x dx C:Addr} {mA:Str->Option Value} (I:ObjM h x dx C mA):∃ od,PySem.W.InstAt h x (PySem.W.instObj C dx) C (some od)/\∀ name,PySem.W.lookIn name od=some (mA name) :=
 let ⟨od,ho,hl⟩:=lookIn_ns I.ns
 ⟨od,⟨I.obj,rfl,rfl,ho⟩,hl⟩
section
variable {prog:Program} {w:World} {A:Around} {E:Value->Shared->Prop} {s:Shared} {K:W.Frag} {x dx C f:Addr} {mA:Str->Option Value} {name:Str} {v:Value}
theorem get_map {expr:Bool} {Q:Value->Shared->Prop} (X:K.In s.heap) (I:ObjM s.heap x dx C mA) (hg:PySem.W.plainGet K C name=true) (hh:PySem.W.hasDictIn K C=true)
 (ha:PySem.W.findIn K (.ref C) name=some none) (hv:mA name=some v) (hv':PySem.W.handedIn v=true) (h:Q v { s with toks:=s.toks+1 }) :
 wpAny (model prog w) A (getAttr (.ref x) name expr) Q E s:=by
 obtain ⟨od,J,hl⟩:=I.look
 exact PySem.W.get_value X J (PySem.W.plainGet_of hg).1 (PySem.W.findObj_own hh ha rfl (by rw [hl,hv])) hv' h
theorem get_meth {pl:Sem Bool} {Q:Value × List Value->Shared->Prop} (X:K.In s.heap) (I:ObjM s.heap x dx C mA) (hg:PySem.W.plainGet K C name=true)
 (hf:PySem.W.findIn K (.ref C) name=some (some (.ref f))) (ht:PySem.W.isFn K (.ref f)=true) (hv:mA name=none) (h:Q (.ref f,[.ref x]) s) :
 wpAny (model prog w) A (getMethod (.ref x) name pl) Q E s:=by
 obtain ⟨od,J,hl⟩:=I.look
 exact PySem.W.method_fn X J (PySem.W.plainGet_of hg).1 (PySem.W.plainGet_of hg).2 hf (beq_iff_eq.mp ht) (by show (PySem.W.lookIn name od).map (·.isSome)=some false; rw [hl,hv]; rfl) h
theorem set_map {ns:List Str} {Q:Unit->Shared->Prop} (X:K.In s.heap) (I:ObjM s.heap x dx C mA)
 (hs:PySem.W.findIn K (.ref C) "__setattr__" = some (some (.builtin "object.__setattr__"))) (hp:PySem.W.plainOver K C=true) (ht:PySem.W.takerIn K C name=some none) (hh:PySem.W.hasDictIn K C=true)
 (hw:PySem.Within mA ns) (hsz:ns.length<=sizeLine)
 (h:∀ h',ObjM h' x dx C (fun y=>if y=name then some v else mA y)->Heap.SameBut dx s.heap h'->Q () { s with heap:=h',toks:=s.toks+2 }) :
 wpAny (model prog w) A (setAttr (.ref x) name v) Q E s:=by
 obtain ⟨od,J,hl⟩:=I.look
 refine PySem.W.set_plain X J hs (PySem.W.osa_open (s:={ s with toks:=s.toks+1 }) (r:=none) X J hp ht fun b=>?_)
 obtain ⟨cd,hc,hd'⟩:=PySem.W.any_some hh
 have hx:s.heap.get? x=some ⟨.ref C,some dx,.plain,#[]⟩:=I.obj
 refine wpAny_bind (wpAny_pure (wpAny_bind (wpAny_bind (wpAny_loadPart hx (wpAny_bind (PySem.W.Looks.here (s:={ s with toks:=s.toks+1 }) (PySem.W.looks_clsIn X hc) ?_))))))
 rw [hd']
 refine wpAny_pure (a:=some dx) (wpAny_bind (wpAny_pure (wpAny_bind ?_)))
 refine wpAny_nsSet1 (s:={ s with toks:=s.toks+1 }) I.ns fun h' hn2 hs2=>?_
 obtain ⟨oD,esD,epD,hoD,hdD,hcD⟩:=hn2.count (PySem.Within.cons name v hw)
 refine wpAny_bind (wpAny_lookBehind hoD (by rw [hdD]; exact pastItsLine_dict (Nat.le_trans hcD (by rw [List.length_cons]; omega))) ?_)
 exact wpAny_pure (h _ ⟨(hs2.2 _ (Ne.symm I.ne)).trans I.obj,hn2,I.ne⟩ hs2)
theorem make_map {R:Result->Shared->Prop} {vs:List Value} {kw:List (Str × Value)} (X:K.In s.heap) (hm:PySem.W.makesIn K C=true)
 (hi:PySem.W.findIn K (.ref C) "__init__" = some (some (.ref f))) (hf:PySem.W.typeIn K (.ref f)=some (.type "function"))
 (h:codeAny (model prog w) (A.under (.builtin "type.__call__" ⟨.ref C::vs,kw⟩)) (.call (.ref f) ⟨.ref (s.heap.objs.size+1)::vs,kw⟩) (PySem.W.InitBack (s.heap.objs.size+1) R)
  { s with heap:=(s.heap.push PySem.W.emptyDict).push (PySem.W.instObj C s.heap.objs.size) }) :
 codeAny (model prog w) A (.call (.ref C) ⟨vs,kw⟩) R s:=by
 obtain ⟨hh,g,d,t,os⟩:=s
 exact PySem.W.make_core (PySem.W.makes_of X hm) (PySem.W.looks_findIn X hi) (fun self=>PySem.W.bind_fn X self hf) (.inl rfl) h
end
def putF (f:Str) (v:V):List (Str × V)->List (Str × V)
 | []=>[(f,v)]
 | (g,x)::r=>if g=f then (g,v)::r else (g,x)::putF f v r
theorem aP (f g:Str) (v:V):∀ fs:List (Str × V),(putF f v fs).lookup g=if g=f then some v else fs.lookup g
 | []=>by
   show List.lookup g [(f,v)]=_
   by_cases h:g=f
   . have hb:(g == f)=true:=beq_iff_eq.mpr h
     simp only [List.lookup,hb,if_pos h]
   . have hb:(g == f)=false:=beq_eq_false_iff_ne.mpr h
     simp only [List.lookup,hb,if_neg h]
 | (k,x)::r=>by
   have ih:=aP f g v r
   rw [show putF f v ((k,x)::r)=(if k=f then (k,v)::r else (k,x)::putF f v r) from rfl]
   by_cases hk:k=f
   . rw [if_pos hk]
     by_cases h:g=k
     . have hb:(g == k)=true:=beq_iff_eq.mpr h
       simp only [List.lookup,hb,if_pos (h.trans hk)]
     . have hb:(g == k)=false:=beq_eq_false_iff_ne.mpr h
       simp only [List.lookup,hb,if_neg (fun e:g=f=>h (e.trans hk.symm))]
   . rw [if_neg hk]
     by_cases h:g=k
     . have hb:(g == k)=true:=beq_iff_eq.mpr h
       simp only [List.lookup,hb,if_neg (fun e:g=f=>hk (h.symm.trans e))]
     . have hb:(g == k)=false:=beq_eq_false_iff_ne.mpr h
       simp only [List.lookup,hb]
       exact ih
theorem keys_putF (f:Str) (v:V):∀ fs:List (Str × V),f ∈ (putF f v fs).map (·.1)/\∀ g,g ∈ fs.map (·.1)->g ∈ (putF f v fs).map (·.1)
 | []=>⟨by simp [putF],fun g h=>by simp at h⟩
 | (k,x)::r=>by
   obtain ⟨i1,i2⟩:=keys_putF f v r
   rw [show putF f v ((k,x)::r)=(if k=f then (k,v)::r else (k,x)::putF f v r) from rfl]
   by_cases hk:k=f
   . rw [if_pos hk]
     subst hk
     exact ⟨by simp,fun g h=>by simpa using h⟩
   . rw [if_neg hk]
     refine ⟨?_,fun g h=>?_⟩
     . rw [List.map_cons]
       exact List.mem_cons_of_mem _ i1
     . rw [List.map_cons] at h ⊢
       rcases List.mem_cons.mp h with e | e
       . exact List.mem_cons.mpr (.inl e)
       . exact List.mem_cons_of_mem _ (i2 g e)
theorem length_putF (f:Str) (v:V):∀ fs:List (Str × V),(putF f v fs).length<=fs.length+1
 | []=>by simp [putF]
 | (k,x)::r=>by
   have ih:=length_putF f v r
   rw [show putF f v ((k,x)::r)=(if k=f then (k,v)::r else (k,x)::putF f v r) from rfl]
   by_cases hk:k=f
   . rw [if_pos hk,List.length_cons,List.length_cons]; omega
   . rw [if_neg hk,List.length_cons,List.length_cons]; omega
theorem RelO.some_of {v:V} {o:Option Value} (r:RelO (some v) o):∃ u,o=some u/\RelV v u:=by
 cases o with
 | none=>exact (show False from r).elim
 | some u=>exact ⟨u,rfl,r⟩
theorem RelO.none_of {o:Option Value} (r:RelO none o):o=none:=by
 cases o with
 | none=>rfl
 | some u=>exact (show False from r).elim
theorem handed_of {v:V} {u:Value} (r:RelV v u):PySem.W.handedIn u=true:=by
 cases v with
 | non=>cases (show u=Value.none from r); rfl
 | bl b=>cases (show u=Value.bool b from r); rfl
 | int i=>obtain ⟨t,e⟩:=(show ∃ t,u=Value.int i t from r); cases e; rfl
 | str x=>obtain ⟨t,e⟩:=(show ∃ t,u=Value.str x t from r); cases e; rfl
 | byt b=>obtain ⟨t,e⟩:=(show ∃ t,u=Value.bytes b t from r); cases e; rfl
 | flt b=>obtain ⟨t,e⟩:=(show ∃ t,u=Value.float b t from r); cases e; rfl
 | ref a=>cases (show u=Value.ref a from r); rfl
 | ty n=>cases (show u=Value.type n from r); rfl
section
variable {P:Program} {w:World} {H H':Hp} {h h':Heap} {a C dx:Addr} {fs fs':List (Str × V)}
theorem ins_get (hok:HOk P w H h) (e:H a=some (.ins C dx fs)):∃ mA,ObjM h a dx C mA/\(∀ f,RelO (fs.lookup f) (mA f))/\PySem.Within mA (fs.map (·.1))/\fs.length<=1000/\H dx=some (.own a):=by
 obtain ⟨d,z,ne,ob,mA,n,r,q⟩:=(show ObjOk P w H h a (.ins C dx fs) from hok a _ e)
 exact ⟨mA,⟨ob,n,ne⟩,r,q,z,d⟩
end
structure Cls (K:W.Frag) (C:Addr):Prop where
 pg:PySem.W.plainGet K C Str.empty=true
 hd:PySem.W.hasDictIn K C=true
 po:PySem.W.plainOver K C=true
 sa:PySem.W.findIn K (.ref C) "__setattr__" = some (some (.builtin "object.__setattr__"))
theorem Cls.get {K:W.Frag} {C:Addr} (c:Cls K C) (f:Str):PySem.W.plainGet K C f=true:=c.pg
def NoAttr (K:W.Frag) (C:Addr) (f:Str):Prop:=PySem.W.findIn K (.ref C) f=some none
theorem NoAttr.taker {K:W.Frag} {C:Addr} {f:Str} (n:NoAttr K C f):PySem.W.takerIn K C f=some none:=by
 unfold PySem.W.takerIn
 rw [show PySem.W.findIn K (.ref C) f=some none from n]
 rfl
structure Meth (K:W.Frag) (C:Addr) (m:Str) (f:Addr):Prop where
 at_:PySem.W.findIn K (.ref C) m=some (some (.ref f))
 fn:PySem.W.isFn K (.ref f)=true
 kp:PySem.W.keepIn K (.ref f)=true
section
variable {X:Cx} {pins:List (Addr × Obj)} {σ:St} {H:Hp} {s:Shared} {a C dx:Addr} {fs:List (Str × V)} {f:Str} {v:V} {A:Around} {E:Value->Shared->Prop}
theorem getattr_ok {b:Bool} {Q:Value->Shared->Prop} (I:Inv X pins σ H s) (e:H a=some (.ins C dx fs)) (c:Cls X.K C) (n:NoAttr X.K C f) (l:fs.lookup f=some v)
 (h:∀ u s',Inv X pins σ H s'->RelV v u->Q u s'):wpAny (model X.prog X.w) A (getAttr (.ref a) f b) Q E s:=by
 obtain ⟨mA,O,r,_,_,_⟩:=ins_get I.hok e
 obtain ⟨u,hu,ru⟩:=RelO.some_of (v:=v) (o:=mA f) (by rw [← l]; exact r f)
 exact get_map I.kIn O (c.get f) c.hd n hu (handed_of ru) (h u _ (I.tok _) ru)
theorem getmeth_ok {m:Str} {g:Addr} {pl:Sem Bool} {Q:Value × List Value->Shared->Prop} (I:Inv X pins σ H s) (e:H a=some (.ins C dx fs)) (c:Cls X.K C) (k:Meth X.K C m g) (l:fs.lookup m=none)
 (h:Q (.ref g,[.ref a]) s):wpAny (model X.prog X.w) A (getMethod (.ref a) m pl) Q E s:=by
 obtain ⟨mA,O,r,_,_,_⟩:=ins_get I.hok e
 have hn:mA m=none:=RelO.none_of (by rw [← l]; exact r m)
 exact get_meth I.kIn O (c.get m) k.at_ k.fn hn h
theorem setattr_ok {y:V} {u:Value} {Q:Unit->Shared->Prop} (I:Inv X pins σ H s) (e:H a=some (.ins C dx fs)) (c:Cls X.K C) (n:NoAttr X.K C f) (hl:fs.length < 1000) (ry:RelV y u)
 (h:∀ s',Inv X pins σ (upd H a (.ins C dx (putF f y fs))) s'->Q () s'):wpAny (model X.prog X.w) A (setAttr (.ref a) f u) Q E s:=by
 obtain ⟨mA,O,r,wi,_,ho⟩:=ins_get I.hok e
 have hz:(fs.map (·.1)).length<=sizeLine:=by rw [List.length_map,sizeLine_eq]; omega
 refine set_map I.kIn O c.sa c.po n.taker c.hd wi hz fun h' O' sb=>h _ ?_
 have hd:∃ o,h'.get? dx=some o:=let ⟨o,_,_,e',_⟩:=O'.ns; ⟨o,e'⟩
 refine I.write (x:=a) (e:=dx) (by rw [e]; exact True.intro) (.inr ho) (fun b q hb z=>(sb.2 b hb).trans z) hd ?_
 refine ⟨by rw [ax O.ne]; exact ho,?_,O.ne,O'.obj,_,O'.ns,fun g=>?_,fun g hg=>?_⟩
 . have:=length_putF f y fs; omega
 . show RelO ((putF f y fs).lookup g) (if g=f then some u else mA g)
   rw [aP]
   by_cases q:g=f
   . rw [if_pos q,if_pos q]; exact ry
   . rw [if_neg q,if_neg q]; exact r g
 . by_cases q:g=f
   . rw [q]; exact (keys_putF f y fs).1
   . refine (keys_putF f y fs).2 g (wi g fun z=>hg ?_)
     show (if g=f then some u else mA g)=none
     rw [if_neg q]; exact z
theorem Inv.made (I:Inv X pins σ H s):Inv X pins σ (upd (upd H s.heap.objs.size (.own (s.heap.objs.size+1))) (s.heap.objs.size+1) (.ins C s.heap.objs.size []))
 { s with heap:=(s.heap.push PySem.W.emptyDict).push (PySem.W.instObj C s.heap.objs.size) }:=by
 have e1:(s.heap.push PySem.W.emptyDict).get? s.heap.objs.size=some PySem.W.emptyDict:=Heap.get?_push_size s.heap rfl
 have e2:((s.heap.push PySem.W.emptyDict).push (PySem.W.instObj C s.heap.objs.size)).get? (s.heap.objs.size+1)=some (PySem.W.instObj C s.heap.objs.size):=by
  have:=Heap.get?_push_size (s.heap.push PySem.W.emptyDict) (o:=PySem.W.instObj C s.heap.objs.size) rfl
  rwa [Heap.size_push] at this
 have e3:(s.heap.push PySem.W.emptyDict).Ns s.heap.objs.size (fun _=>none):=⟨PySem.W.emptyDict,#[],_,e1,rfl,(fun e he=>absurd he (by simp)),fun _=>rfl⟩
 have I1:=I.laid (a:=s.heap.objs.size) (o:=.own (s.heap.objs.size+1)) (h':=s.heap.push PySem.W.emptyDict) (t':=s.toks) (fun b u q=>Heap.get?_push_of_some _ q) (Nat.le_refl _) ⟨_,e1⟩
 refine I1.laid (a:=s.heap.objs.size+1) (o:=.ins C s.heap.objs.size []) (t':=s.toks) (fun b u q=>Heap.get?_push_of_some _ q) (Nat.le_of_eq (Heap.size_push _ _)) ?_
 have ne:s.heap.objs.size ≠ s.heap.objs.size+1:=Nat.ne_of_lt (Nat.lt_succ_self _)
 refine ⟨by rw [ax ne,upd_same],Nat.zero_le _,ne,e2,fun _=>none,(Heap.Ns1.of_empty e3).at fun o q=>Heap.get?_push_of_some _ q,fun _=>True.intro,fun y hy=>absurd rfl hy⟩
theorem attr_of {prog:Program} {w:World} {env:Env} {e:Expr} {f:Str} {pos:Pos} {s:Shared} {Q:Value->Shared->Prop} (hb:attributeBase e f env (eval e env)=eval e env)
 (h:wpAny (model prog w) A (eval e env) (fun o s₁=>wpAny (model prog w) A (getAttr o f true) Q E s₁) E s):wpAny (model prog w) A (eval (.Attribute e f pos) env) Q E s :=
 Attribute_any_ h (by rw [arm_eval_Attribute,hb])
end
def tFld (K:W.Frag) (ta:TE) (f:Str):TE:=fun σ H Q=>ta σ H fun x H1=>∃ a C dx fs v,x=.ref a/\H1 a=some (.ins C dx fs)/\Cls K C/\NoAttr K C f/\fs.lookup f=some v/\Q v H1
def sFld (K:W.Frag) (ta tv:TE) (f:Str):TS:=fun D σ H=>tv σ H fun y H1=>ta σ H1 fun x H2=>∃ a C dx fs,x=.ref a/\H2 a=some (.ins C dx fs)/\Cls K C/\NoAttr K C f/\fs.length < 1000 /\
 D.nx σ (upd H2 a (.ins C dx (putF f y fs)))
section
variable {X:Cx} {o e value:Expr} {f:Str} {pos pos' tpos:Pos} {ta tv:TE}
theorem aG (he:PE X e ta) (hb:attributeBase e f X.env (eval e X.env)=eval e X.env):PE X (.Attribute e f pos) (tFld X.K ta f):=by
 intro pins s σ H Q I h
 refine attr_of hb (thn (he pins s σ H _ I h) fun u s1 ⟨x,H1,I1,rx,a,C,dx,fs,v,ex,ea,c,n,l,q⟩=>?_)
 subst ex
 obtain rfl:u=Value.ref a:=rx
 exact getattr_ok I1 ea c n l fun u' s2 I2 ru=>⟨v,H1,I2,ru,q⟩
theorem aQ (ha:PE X o ta) (hv:PE X value tv) (hs:swapsWith value (some (.Attribute o f pos')) pos.line X.env=pure false):PS X (.Assign [.Attribute o f pos'] value pos) (sFld X.K ta tv f):=by
 intro pins s σ H D I h
 refine plainObj_wpAny_Assign_Attribute (thn (hv pins s σ H _ I h) fun u s1 ⟨y,H1,I1,ry,q⟩=>thn (ha pins s1 σ H1 _ I1 q) fun ov s2 ⟨x,H2,I2,rx,a,C,dx,fs,ex,ea,c,n,l,q2⟩=>?_) hs
 subst ex
 obtain rfl:ov=Value.ref a:=rx
 exact setattr_ok I2 ea c n l ry fun s3 I3=>⟨σ,_,I3,q2⟩
end
section
variable {X:Cx} {pins:List (Addr × Obj)} {σ:St} {H:Hp} {s:Shared} {A:Around} {E:Value->Shared->Prop} {Q:Value->Shared->Prop} {c:Value} {b:Bool}
inductive TyOf (K:W.Frag) (H:Hp):V->Value->Prop where
 | non:TyOf K H .non (.type "NoneType")
 | bl (x:Bool):TyOf K H (.bl x) (.type "bool")
 | int (i:Int):TyOf K H (.int i) (.type "int")
 | str (x:Str):TyOf K H (.str x) (.type "str")
 | flt (x:UInt64):TyOf K H (.flt x) (.type "float")
 | lst {a:Addr} {xs:List V} (e:H a=some (.lst xs)):TyOf K H (.ref a) (.type "list")
 | frz {a:Addr} {o:Obj} {xs:List V} (e:H a=some (.frz o (.lst xs))):TyOf K H (.ref a) (.type "list")
 | tup {a:Addr} {xs:List V} (e:H a=some (.tup xs)):TyOf K H (.ref a) (.type "tuple")
 | dK {a:Addr} {kvs:List (Key × V)} (e:H a=some (.dK kvs)):TyOf K H (.ref a) (.type "dict")
 | dT {a:Addr} {kvs:List (List Key × V)} (e:H a=some (.dT kvs)):TyOf K H (.ref a) (.type "dict")
 | ins {a C dx:Addr} {fs:List (Str × V)} (e:H a=some (.ins C dx fs)) (cl:Cls K C) (ha:PySem.W.findIn K (.ref C) "__class__" = some (some (.builtin "object.__class__")))
  (hn:PySem.W.specialIn K (.builtin "object.__class__") "__get__" = some (some (.builtin "getset_descriptor.__get__"))) (htk:PySem.W.takesIn K (.builtin "object.__class__")=some true)
  (hm:PySem.W.mroIn K C (.type "object")=some true):TyOf K H (.ref a) (.ref C)
theorem isinst_ok {x:V} {u t:Value} (I:Inv X pins σ H s) (rx:RelV x u) (ty:TyOf X.K H x t) (e:PySem.W.kitOne X.K t c=some b) (h:∀ tk,Q (.bool b) { s with toks:=tk }) :
 wpAny (model X.prog X.w) A (call (.builtin "isinstance") [u,c]) Q E s:=by
 cases ty with
 | non=>cases (show u=Value.none from rx); exact PySem.W.kia_one PySem.W.kitx_none I.kIn True.intro e (fun z=>nomatch z) h
 | bl y=>cases (show u=Value.bool y from rx); exact PySem.W.kia_one PySem.W.kitx_bool I.kIn True.intro e (fun z=>nomatch z) h
 | int i=>obtain ⟨t,q⟩:=(show ∃ t,u=Value.int i t from rx); cases q; exact PySem.W.kia_one PySem.W.kitx_int I.kIn True.intro e (fun z=>nomatch z) h
 | str y=>obtain ⟨t,q⟩:=(show ∃ t,u=Value.str y t from rx); cases q; exact PySem.W.kia_one PySem.W.kitx_str I.kIn True.intro e (fun z=>nomatch z) h
 | flt y=>obtain ⟨t,q⟩:=(show ∃ t,u=Value.float y t from rx); cases q; exact PySem.W.kia_one PySem.W.kitx_float I.kIn True.intro e (fun z=>nomatch z) h
 | @lst a xs ea =>
   cases (show u=Value.ref a from rx)
   obtain ⟨_,_,n,_,h1⟩:=(show ObjOk X.prog X.w H s.heap a (.lst xs) from I.hok a _ ea)
   exact PySem.W.kia_one PySem.W.kitx_list I.kIn ⟨_,h1,rfl⟩ e (fun z=>nomatch z) h
 | @frz a ob xs ea =>
   cases (show u=Value.ref a from rx)
   obtain ⟨_,_,_,n,_,h1⟩:=(show ObjOk X.prog X.w H s.heap a (.frz ob (.lst xs)) from I.hok a _ ea)
   exact PySem.W.kia_one PySem.W.kitx_list I.kIn ⟨_,h1,rfl⟩ e (fun z=>nomatch z) h
 | @tup a xs ea =>
   cases (show u=Value.ref a from rx)
   obtain ⟨_,_,_,p,_⟩:=(show ObjOk X.prog X.w H s.heap a (.tup xs) from I.hok a _ ea)
   obtain ⟨o,h1,h2,_⟩:=p
   exact PySem.W.kia_one PySem.W.kitx_tuple I.kIn ⟨o,h1,h2⟩ e (fun z=>nomatch z) h
 | @dK a kvs ea =>
   cases (show u=Value.ref a from rx)
   obtain ⟨_,_,vs,_,p⟩:=(show ObjOk X.prog X.w H s.heap a (.dK kvs) from I.hok a _ ea)
   obtain ⟨o,es,ep,h1,h2,_⟩:=p
   exact PySem.W.kia_one PySem.W.kitx_dict I.kIn ⟨o,h1,h2.1⟩ e (fun z=>nomatch z) h
 | @dT a kvs ea =>
   cases (show u=Value.ref a from rx)
   obtain ⟨_,_,xs,_,o,es,ep,h1,h2,_⟩:=(show ObjOk X.prog X.w H s.heap a (.dT kvs) from I.hok a _ ea)
   exact PySem.W.kia_one PySem.W.kitx_dict I.kIn ⟨o,h1,h2.1⟩ e (fun z=>nomatch z) h
 | @ins a C dx fs ea cl ha hn htk hm =>
   cases (show u=Value.ref a from rx)
   obtain ⟨mA,O,_⟩:=ins_get I.hok ea
   obtain ⟨od,J,_⟩:=O.look
   exact PySem.W.kia_one (PySem.W.kitx_own (cl.get _) cl.hd ha hn htk hm) I.kIn J e (fun z=>nomatch z) h
end
structure Room (k:Nat) (A:Around):Prop where
 hd:A.handled=none
 dp:A.depth+3*k+5 < recursionLimit
 un:A.units+16*k+200 < cLine
theorem Room.mono {j k:Nat} {A:Around} (r:Room k A) (h:j<=k):Room j A:=⟨r.hd,by have:=r.dp; omega,by have:=r.un; omega⟩
theorem Room.deeper {k:Nat} {A:Around} (r:Room (k+1) A) (env:Env):Room k (A.deeper env) :=
 ⟨r.hd,by have:=r.dp; show A.depth+1+3*k+5 < _; omega,by have:=r.un; show A.units+3+16*k+200 < _; omega⟩
theorem make_depth {A:Around} {C:Addr} {us:List Value} {kw:List (Str × Value)}:(A.under (.builtin "type.__call__" ⟨.ref C::us,kw⟩)).depth=A.depth+1:=by
 first | rfl | simp [Around.under,Code.weight,Code.isCreation,Code.isGuard,Code.isCaller,Code.frames,Code.isFrame,guardIds]
theorem make_units {A:Around} {C:Addr} {us:List Value} {kw:List (Str × Value)}:(A.under (.builtin "type.__call__" ⟨.ref C::us,kw⟩)).units=A.units+1:=by
 first | rfl | simp [Around.under,Code.cUnits,Code.frames,Code.isFrame]
theorem Room.make {k:Nat} {A:Around} (r:Room (k+1) A) (C:Addr) (us:List Value) (kw:List (Str × Value)):Room k (A.under (.builtin "type.__call__" ⟨.ref C::us,kw⟩)) :=
 ⟨r.hd,by have:=r.dp; rw [make_depth]; omega,by have:=r.un; rw [make_units]; omega⟩
theorem Room.depth {k:Nat} {A:Around} (r:Room k A):A.depth < recursionLimit:=by have:=r.dp; omega
theorem Room.units {k:Nat} {A:Around} (r:Room k A):A.units+64 < cLine:=by have:=r.un; omega
def tNil:TA:=fun _ H Q=>Q [] H
def tCons (ta:TE) (tr:TA):TA:=fun σ H Q=>ta σ H fun x H1=>tr σ H1 fun xs H2=>Q (x::xs) H2
section
variable {X:Cx} {e:Expr} {es:List Expr} {te:TE} {t:TA} {pos:Pos}
theorem ae:PA X [] tNil:=fun _ _ _ _ H Q I h=>Calls.spliced_nil ⟨[],H,I,.nil,h⟩
theorem aa (ha:PE X e te) (hr:PA X es t) (hs:starEach (e::es) X.env=(false,eval e X.env)::starEach es X.env:=by rfl):PA X (e::es) (tCons te t):=by
 intro pos pins s σ H Q I h
 rw [hs]
 show wpAny _ _ (spliced ((false,eval e X.env)::backTo pos (starEach es X.env))) _ _ s
 refine Calls.spliced_cons (thn (ha pins s σ H _ I h) fun u s1 ⟨x,H1,I1,r1,q1⟩=>?_)
 exact thn (hr pos pins s1 σ H1 _ I1 q1) fun us s2 ⟨xs,H2,I2,r2,q2⟩=>⟨x::xs,H2,I2,.cons r1 r2,q2⟩
def tTup (t:TA):TE:=fun σ H Q=>t σ H fun xs H1=>xs.length<=sizeLine/\∀ p,H1 p=none->Q (.ref p) (upd H1 p (.tup xs))
def tLst (t:TA):TE:=fun σ H Q=>t σ H fun xs H1=>xs.length<=sizeLine/\∀ p,H1 p=none->Q (.ref p) (upd H1 p (.lst xs))
theorem aV {x1} (h:PA X es t):PE X (.Tuple es x1 pos) (tTup t):=by
 intro pins s σ H Q I hq
 refine wpAny_Tuple_spliced (thn (h pos pins s σ H _ I hq) fun us s1 ⟨xs,H1,I1,r,z,q⟩=>⟨by rw [← r.length]; exact z,?_⟩)
 have hf:H1 s1.heap.objs.size=none:=I1.hok.fresh (Nat.le_refl _)
 refine ⟨.ref s1.heap.objs.size,upd H1 s1.heap.objs.size (.tup xs),I1.laid (t':=s1.toks) (fun b u e=>Heap.get?_push_of_some _ e) (Nat.le_refl _) ?_,rfl,q _ hf⟩
 exact ⟨z,us,r,⟨_,Heap.get?_push_size _ rfl,rfl,_,rfl⟩,_,Heap.get?_push_size _ rfl,rfl⟩
theorem cH (h:PA X es t):PE X (.List es pos) (tLst t):=by
 intro pins s σ H Q I hq
 refine wpAny_List_spliced (thn (h pos pins s σ H _ I hq) fun us s1 ⟨xs,H1,I1,r,z,q⟩=>⟨by rw [← r.length]; exact z,?_⟩)
 have hf:H1 s1.heap.objs.size=none:=I1.hok.fresh (Nat.le_refl _)
 refine ⟨.ref s1.heap.objs.size,upd H1 s1.heap.objs.size (.lst xs),I1.laid (t':=s1.toks) (fun b u e=>Heap.get?_push_of_some _ e) (Nat.le_refl _) ?_,rfl,q _ hf⟩
 exact ⟨z,us,0,r,Heap.get?_push_size _ rfl⟩
end
abbrev Sp:=List V->Hp->VK->XK->Prop
abbrev CXT:=List Env->Hp->Shared->XK->Value->Shared->Prop
structure Env0 (P:Program) (w:World) (K:W.Frag) (mg:Str->Option Value) (base:Heap) (A:Around) (outer:List Env) (s:Shared) (H:Hp):Prop where
 frames:A.frames=some outer
 mod:Mod K mg base
 bs:∀ b o,base.get? b=some o->s.heap.get? b=some o/\H b=none
 bsz:base.objs.size<=s.heap.objs.size
 funs:s.heap.FunFrames base outer
 frf:∀ b ∈ frs outer,H b=none
 hok:HOk P w H s.heap
 bare:AllBare s.gens
def CE (outer:List Env) (P:Program) (w:World) (H:Hp) (s:Shared) (Q:VK) (u:Value) (s':Shared):Prop :=
 ∃ v H',s'.os=s.os/\AllBare s'.gens/\Un (frs outer) [] H H' s.heap s'.heap/\HOk P w H' s'.heap/\RelV v u/\Q v H'
def CR (CX:CXT) (outer:List Env) (P:Program) (w:World) (H:Hp) (s:Shared) (Q:VK) (E:XK) (r:Result) (s':Shared):Prop :=
 match r with
 | .ok (.ret u)=>CE outer P w H s Q u s'
 | .ok _=>False
 | .error e=>CX outer H s E e s'
structure FnOk (P:Program) (w:World) (K:W.Frag) (mg:Str->Option Value) (base:Heap) (CX:CXT) (k:Nat) (f:Addr) (fd:FuncData) (ps:List Str) (sp:Sp):Prop where
 len:∀ vs H Q E,sp vs H Q E->vs.length=ps.length
 run:∀ (A:Around) (outer:List Env) (s:Shared) (H:Hp) (args:Args) (us:List Value) (vs:List V) (Q:VK) (E:XK),Room k A->Env0 P w K mg base A outer s H->BindsTo s fd args (ps.zip us)->Vals vs us->sp vs H Q E ->
  codeAny (model P w) A (.call (.ref f) args) (CR CX outer P w H s Q E) s
theorem Env0.make {P:Program} {w:World} {K:W.Frag} {mg:Str->Option Value} {base:Heap} {A:Around} {outer:List Env} {s:Shared} {H:Hp} (e:Env0 P w K mg base A outer s H) (C:Addr) (us:List Value) (kw:List (Str × Value)) :
 Env0 P w K mg base (A.under (.builtin "type.__call__" ⟨.ref C::us,kw⟩)) outer s H:=⟨by first | exact e.frames | (simpa [Around.under,Code.envs,Code.isFrame,pushEnvs] using e.frames),e.mod,e.bs,e.bsz,e.funs,e.frf,e.hok,e.bare⟩
section
variable {X:Cx} {pins:List (Addr × Obj)} {σ:St} {H:Hp} {s s':Shared}
theorem Inv.env0 (I:Inv X pins σ H s):Env0 X.prog X.w X.K X.mg X.base X.A X.stack s H :=
 ⟨I.ok.frames,I.ok.mod,I.bs,Nat.le_trans I.ok.bsz I.sz,I.stack,I.stkFree,I.hok,I.bare⟩
theorem Inv.after {Q:VK} {u:Value} (I:Inv X pins σ H s) (h:CE X.stack X.prog X.w H s Q u s'):EP X pins σ Q u s':=by
 obtain ⟨v,H',os,bare,un,hok,r,q⟩:=h
 obtain ⟨hh,g,d,t,os'⟩:=s'
 obtain rfl:os'=s.os:=os
 exact ⟨v,H',I.call (h':=hh) (g':=g) (d':=d) (t':=t) (ch:=[]) un hok bare (fun b z=>absurd z (by simp)),r,q⟩
end
def tCall (sp:Sp) (dvs:List V) (E:XK) (t:TA):TE:=fun σ H Q=>t σ H fun vs H1=>sp (vs++dvs) H1 Q E
def tMeth (C:Addr) (m:Str) (sp:Sp) (dvs:List V) (E:XK) (ta:TE) (t:TA):TE:=fun σ H Q=>ta σ H fun x H1=>∃ a dx fs,x=.ref a/\H1 a=some (.ins C dx fs)/\fs.lookup m=none /\
 t σ H1 fun vs H2=>sp (x::(vs++dvs)) H2 Q E
def tMake (C:Addr) (sp:Sp) (dvs:List V) (E:XK) (t:TA):TE:=fun σ H Q=>t σ H fun vs H1=>∀ x dx,H1 x=none->H1 dx=none->dx ≠ x ->
 sp (.ref x::(vs++dvs)) (upd (upd H1 dx (.own x)) x (.ins C dx [])) (fun v H2=>v=.non/\Q (.ref x) H2) E
def Binds (K:W.Frag) (fd:FuncData) (ps:List Str) (ds:List Value):Prop :=
 ∀ (s:Shared) (us:List Value),K.In s.heap->(us++ds).length=ps.length->BindsTo s fd ⟨us,[]⟩ (ps.zip (us++ds))
theorem Binds.all {K:W.Frag} {fd:FuncData} {ps:List Str} (h:∀ us:List Value,us.length=ps.length->bindArgs fd ⟨us,[]⟩=pure (ps.zip us)):Binds K fd ps []:=fun s us _ hl=>by
 rw [List.append_nil] at hl ⊢
 exact .of_eq (h us hl)
def Passes (CX:CXT) (X:Cx) (E:XK):Prop:=∀ (pins:List (Addr × Obj)) (σ:St) (H:Hp) (s:Shared) (e:Value) (s':Shared),Inv X pins σ H s->CX X.stack H s E e s'->X.xe e s'
section
variable {X:Cx} {CX:CXT} {k:Nat} {f C:Addr} {fd:FuncData} {ps:List Str} {sp:Sp} {dvs:List V} {ds:List Value} {E:XK} {x m:Str} {p pos apos:Pos} {e o:Expr} {es:List Expr} {ta:TE} {t:TA}
theorem run_fn {pins:List (Addr × Obj)} {σ:St} {H:Hp} {s:Shared} {Q:VK} {us:List Value} {vs:List V} (F:FnOk X.prog X.w X.K X.mg X.base CX k f fd ps sp) (hr:Room k X.A) (hb:Binds X.K fd ps ds) (hd:Vals dvs ds) (hx:Passes CX X E)
 (I:Inv X pins σ H s) (r:Vals vs us) (h:sp (vs++dvs) H Q E):wpAny (model X.prog X.w) X.A (call (.ref f) us) (EP X pins σ Q) X.xe s:=by
 have r2:Vals (vs++dvs) (us++ds):=r.append hd
 have hl:(us++ds).length=ps.length:=by rw [← r2.length]; exact F.len _ _ _ _ h
 refine wpAny_call (codeAny_mono (F.run X.A X.stack s H ⟨us,[]⟩ (us++ds) (vs++dvs) Q E hr I.env0 (hb s us I.kIn hl) r2 h) fun r s' hq=>?_)
 cases r with
 | error e=>exact hx pins σ H s e s' I hq
 | ok fl =>
   cases fl with
   | ret u=>exact I.after hq
   | next=>exact False.elim hq
   | brk=>exact False.elim hq
   | cont=>exact False.elim hq
theorem pe_call (F:FnOk X.prog X.w X.K X.mg X.base CX k f fd ps sp) (hr:Room k X.A) (hg:Gl X x) (hm:X.mg x=some (.ref f)) (hk:PySem.W.keepIn X.K (.ref f)=true) (hb:Binds X.K fd ps ds) (hd:Vals dvs ds) (hx:Passes CX X E)
 (ha:PA X (e::es) t) (hdb:(x == ("__debug__" : Str))=false:=by decide) (he:starEach (e::es) X.env=(false,eval e X.env)::starEach es X.env:=by rfl) (hpl:(backTo pos (starEach es X.env)).any (·.1)=false:=by rfl) :
 PE X (.Call (.Name x p) (e::es) [] pos) (tCall sp dvs E t):=by
 intro pins s σ H Q I h
 refine wpAny_Call_Name_kw (ld_glob I hg hm ?_ hdb)
 refine PySem.W.callWith_K (h₀:=X.base) I.ok.mod.kin hk (thn (ha pos pins s σ H _ I h) fun us s1 ⟨vs,H1,I1,r,q⟩=>⟨I1.kIn,?_⟩) he hpl
 exact run_fn F hr hb hd hx I1 r q
theorem pe_call0 (F:FnOk X.prog X.w X.K X.mg X.base CX k f fd ps sp) (hr:Room k X.A) (hg:Gl X x) (hm:X.mg x=some (.ref f)) (hk:PySem.W.keepIn X.K (.ref f)=true) (hb:Binds X.K fd ps ds) (hd:Vals dvs ds) (hx:Passes CX X E)
 (hdb:(x == ("__debug__" : Str))=false:=by decide):PE X (.Call (.Name x p) [] [] pos) (tCall sp dvs E tNil):=by
 intro pins s σ H Q I h
 refine wpAny_Call_Name_kw (ld_glob I hg hm ?_ hdb)
 exact PySem.W.callWith_K0 I.kIn hk (run_fn (us:=[]) F hr hb hd hx I .nil h)
theorem du {pl:Sem Bool} (he:PE X o ta) (c:Cls X.K C) (hm:Meth X.K C m f) (F:FnOk X.prog X.w X.K X.mg X.base CX k f fd ps sp) (hr:Room k X.A) (hb:Binds X.K fd ps ds) (hd:Vals dvs ds) (hx:Passes CX X E) (ha:PA X (e::es) t)
 (hst:starEach (e::es) X.env=(false,eval e X.env)::starEach es X.env:=by rfl) (hpl:(backTo pos (starEach es X.env)).any (·.1)=false:=by rfl)
 (ht:eval (.Call (.Attribute o m apos) (e::es) [] pos) X.env=(do
  let ov ← eval o X.env
  standAt apos.atName
  let (f,first) ← holding [ov] (getMethod ov m pl)
  callWith pos f first (backTo pos (starEach (e::es) X.env)) (backToKw pos (keywordEach [] X.env))):=by rfl) :
 PE X (.Call (.Attribute o m apos) (e::es) [] pos) (tMeth C m sp dvs E ta t):=by
 intro pins s σ H Q I h
 refine PySem.W.methodCall_KW (pl:=pl) (thn (he pins s σ H _ I h) fun u s1 ⟨x,H1,I1,rx,a,dx,fs,ex,ea,l,q⟩=>?_) ht
 subst ex
 obtain rfl:u=Value.ref a:=rx
 refine getmeth_ok I1 ea c hm l ?_
 refine PySem.W.callWith_K (first:=[.ref a]) (h₀:=X.base) I.ok.mod.kin hm.kp (thn (ha pos pins s1 σ H1 _ I1 q) fun us s2 ⟨vs,H2,I2,r,q2⟩=>⟨I2.kIn,?_⟩) hst hpl
 exact run_fn (us:=.ref a::us) (vs:=.ref a::vs) F hr hb hd hx I2 (.cons rfl r) q2
theorem bQ {pl:Sem Bool} (he:PE X o ta) (c:Cls X.K C) (hm:Meth X.K C m f) (F:FnOk X.prog X.w X.K X.mg X.base CX k f fd ps sp) (hr:Room k X.A) (hb:Binds X.K fd ps ds) (hd:Vals dvs ds) (hx:Passes CX X E)
 (ht:eval (.Call (.Attribute o m apos) [] [] pos) X.env=(do
  let ov ← eval o X.env
  standAt apos.atName
  let (f,first) ← holding [ov] (getMethod ov m pl)
  callWith pos f first (backTo pos (starEach [] X.env)) (backToKw pos (keywordEach [] X.env))):=by rfl) :
 PE X (.Call (.Attribute o m apos) [] [] pos) (tMeth C m sp dvs E ta tNil):=by
 intro pins s σ H Q I h
 refine PySem.W.methodCall_KW (pl:=pl) (thn (he pins s σ H _ I h) fun u s1 ⟨x,H1,I1,rx,a,dx,fs,ex,ea,l,q⟩=>?_) ht
 subst ex
 obtain rfl:u=Value.ref a:=rx
 refine getmeth_ok I1 ea c hm l ?_
 exact PySem.W.callWith_K0 (first:=[.ref a]) I1.kIn hm.kp (run_fn (us:=[.ref a]) (vs:=[.ref a]) F hr hb hd hx I1 (.cons rfl .nil) q)
structure Mk (K:W.Frag) (C f:Addr):Prop where
 makes:PySem.W.makesIn K C=true
 init:PySem.W.findIn K (.ref C) "__init__" = some (some (.ref f))
 fn:PySem.W.isFn K (.ref f)=true
 kp:PySem.W.keepIn K (.ref C)=true
theorem run_make {pins:List (Addr × Obj)} {σ:St} {H:Hp} {s:Shared} {Q:VK} {us:List Value} {vs:List V} (M:Mk X.K C f) (F:FnOk X.prog X.w X.K X.mg X.base CX k f fd ps sp) (hr:Room (k+1) X.A) (hb:Binds X.K fd ps ds) (hd:Vals dvs ds)
 (hx:Passes CX X E) (I:Inv X pins σ H s) (r:Vals vs us)
 (h:∀ x dx,H x=none->H dx=none->dx ≠ x->sp (.ref x::(vs++dvs)) (upd (upd H dx (.own x)) x (.ins C dx [])) (fun v H2=>v=.non/\Q (.ref x) H2) E) :
 wpAny (model X.prog X.w) X.A (call (.ref C) us) (EP X pins σ Q) X.xe s:=by
 have hq:=h (s.heap.objs.size+1) s.heap.objs.size (I.hok.fresh (Nat.le_succ _)) (I.hok.fresh (Nat.le_refl _)) (Nat.ne_of_lt (Nat.lt_succ_self _))
 have I2:=Inv.made (C:=C) I
 have r2:Vals (V.ref (s.heap.objs.size+1)::(vs++dvs)) (Value.ref (s.heap.objs.size+1)::(us++ds)):=.cons rfl (r.append hd)
 have hl:(Value.ref (s.heap.objs.size+1)::us++ds).length=ps.length:=by
  have e:=r2.length
  rw [F.len _ _ _ _ hq] at e
  exact e.symm
 refine wpAny_call (make_map (f:=f) I.kIn M.makes M.init (beq_iff_eq.mp M.fn) (codeAny_mono (F.run _ X.stack _ _ ⟨Value.ref (s.heap.objs.size+1)::us,[]⟩ (Value.ref (s.heap.objs.size+1)::(us++ds)) _ _ E (hr.make C us [])
  (I2.env0.make C us []) (hb _ (Value.ref (s.heap.objs.size+1)::us) I2.kIn hl) r2 hq) fun r s' hq'=>?_))
 cases r with
 | error e=>exact hx pins σ _ _ e s' I2 hq'
 | ok fl =>
   cases fl with
   | ret u =>
     obtain ⟨v,H',I3,rv,ev,q3⟩:=I2.after hq'
     subst ev
     exact ⟨rv,⟨V.ref (s.heap.objs.size+1),H',I3,rfl,q3⟩⟩
   | next=>exact False.elim hq'
   | brk=>exact False.elim hq'
   | cont=>exact False.elim hq'
theorem pe_make (M:Mk X.K C f) (F:FnOk X.prog X.w X.K X.mg X.base CX k f fd ps sp) (hr:Room (k+1) X.A) (hg:Gl X x) (hm:X.mg x=some (.ref C)) (hb:Binds X.K fd ps ds) (hd:Vals dvs ds) (hx:Passes CX X E)
 (ha:PA X (e::es) t) (hdb:(x == ("__debug__" : Str))=false:=by decide) (he:starEach (e::es) X.env=(false,eval e X.env)::starEach es X.env:=by rfl) (hpl:(backTo pos (starEach es X.env)).any (·.1)=false:=by rfl) :
 PE X (.Call (.Name x p) (e::es) [] pos) (tMake C sp dvs E t):=by
 intro pins s σ H Q I h
 refine wpAny_Call_Name_kw (ld_glob I hg hm ?_ hdb)
 refine PySem.W.callWith_K (h₀:=X.base) I.ok.mod.kin M.kp (thn (ha pos pins s σ H _ I h) fun us s1 ⟨vs,H1,I1,r,q⟩=>⟨I1.kIn,?_⟩) he hpl
 exact run_make M F hr hb hd hx I1 r q
end
structure FnScope (N P:List Str) (sc:Scope):Prop where
 kind:sc.kind=.function
 co:sc.isCoroutine=false
 gen:sc.isGenerator=false
 nd:N.Nodup
 pre:N.take P.length=P
 par:∀ x ∈ P,sc.names.lookup x=some .local∨sc.names.lookup x=some .cell
 nofree:∀ y ∈ sc.names,y.2 ≠ .free
theorem bindL_out {kindOf:Str->Option NameKind} {x:Str}:∀ {binds:List (Str × Value)} {m:Str->Option Value},(∀ v,(x,v) ∉ binds)->bindL kindOf binds m x=m x
 | [],_,_=>rfl
 | (n,v)::r,m,h=>by
   unfold bindL
   rw [bindL_out fun w hw=>h w (List.mem_cons_of_mem _ hw)]
   split
   . have:x ≠ n:=by rintro rfl; exact h v List.mem_cons_self
     simp [this]
   . rfl
theorem bindC_out {kindOf:Str->Option NameKind} {x:Str}:∀ {binds:List (Str × Value)} {m:Str->Option Value},(∀ v,(x,v) ∉ binds)->bindC kindOf binds m x=m x
 | [],_,_=>rfl
 | (n,v)::r,m,h=>by
   unfold bindC
   rw [bindC_out fun w hw=>h w (List.mem_cons_of_mem _ hw)]
   split
   . rfl
   . have:x ≠ n:=by rintro rfl; exact h v List.mem_cons_self
     simp [this]
theorem bindL_get {kindOf:Str->Option NameKind} {x:Str} {v:Value}:∀ {P:List Str} {vs:List Value} {i:Nat} {m:Str->Option Value},P.Nodup->P[i]?=some x->vs[i]?=some v->kindOf x=some .local ->
 bindL kindOf (P.zip vs) m x=some v
 | [],_,_,_,_,h,_,_=>by simp at h
 | _::_,[],_,_,_,_,h,_=>by simp at h
 | p::P,w::vs,0,m,nd,h1,h2,hk=>by
   simp at h1 h2; subst h1; subst h2
   show bindL kindOf ((p,w)::P.zip vs) m p=_
   unfold bindL
   rw [bindL_out fun v hv=>(List.nodup_cons.mp nd).1 (List.of_mem_zip hv).1,if_pos hk]
   simp
 | p::P,w::vs,i+1,m,nd,h1,h2,hk=>by
   show bindL kindOf ((p,w)::P.zip vs) m x=_
   unfold bindL
   exact bindL_get (i:=i) (List.nodup_cons.mp nd).2 (by simpa using h1) (by simpa using h2) hk
theorem bindC_get {kindOf:Str->Option NameKind} {x:Str} {v:Value}:∀ {P:List Str} {vs:List Value} {i:Nat} {m:Str->Option Value},P.Nodup->P[i]?=some x->vs[i]?=some v->kindOf x ≠ some .local ->
 bindC kindOf (P.zip vs) m x=some v
 | [],_,_,_,_,h,_,_=>by simp at h
 | _::_,[],_,_,_,_,h,_=>by simp at h
 | p::P,w::vs,0,m,nd,h1,h2,hk=>by
   simp at h1 h2; subst h1; subst h2
   show bindC kindOf ((p,w)::P.zip vs) m p=_
   unfold bindC
   rw [bindC_out fun v hv=>(List.nodup_cons.mp nd).1 (List.of_mem_zip hv).1,if_neg hk]
   simp
 | p::P,w::vs,i+1,m,nd,h1,h2,hk=>by
   show bindC kindOf ((p,w)::P.zip vs) m x=_
   unfold bindC
   exact bindC_get (i:=i) (List.nodup_cons.mp nd).2 (by simpa using h1) (by simpa using h2) hk
def start (N:List Str) (vs:List V):St:=vs.map some++List.replicate (N.length - vs.length) none
def cxOf (CX:CXT) (P:Program) (w:World) (K:W.Frag) (mg:Str->Option Value) (base:Heap) (N:List Str) (qual:Str) (scope:Scope) (f:Addr) (cd:Value) (A:Around) (outer:List Env) (s:Shared) (H:Hp) (E:XK):Cx where
 prog:=P
 w:=w
 K:=K
 mg:=mg
 base:=base
 A:=A.deeper (envOfC qual scope s.heap.objs.size f cd)
 N:=N
 s₀:=s
 H₀:=H
 env:=envOfC qual scope s.heap.objs.size f cd
 outer:=outer
 stack:=envOfC qual scope s.heap.objs.size f cd::outer
 ex:=[]
 calm:=true
 fn:=fun _=>true
 pn:=[]
 xe:=fun e s'=>wpAny (model P w) (A.deeper (envOfC qual scope s.heap.objs.size f cd)) (leaving (envOfC qual scope s.heap.objs.size f cd) e) (fun _ s''=>CX outer H s E e s'') (fun e' s''=>CX outer H s E e' s'') s'
theorem cell_has {sc:Scope} {n:Nat} {x:Str} (h:sc.names.lookup x=some .cell):∃ c,(cellsFrom n sc.names []).lookup x=some c:=by
 have q:=PySem.W.cellsFrom_some sc.names n [] (.inl h)
 exact Option.isSome_iff_exists.mp q
theorem inv_start {CX:CXT} {P:Program} {w:World} {K:W.Frag} {mg:Str->Option Value} {base:Heap} {N ps:List Str} {qual:Str} {scope:Scope} {f:Addr} {cd:Value} {A:Around} {outer:List Env} {s s1:Shared} {H:Hp} {E:XK} {us:List Value} {vs:List V}
 (S:FnScope N ps scope) (hd:A.handled=none) (e0:Env0 P w K mg base A outer s H) (hl:vs.length=ps.length) (r:Vals vs us)
 (x:InCallC s s.heap.objs.size (bindL (envOfC qual scope s.heap.objs.size f cd).kindOf (ps.zip us) fun _=>none) (cellsFrom (s.heap.objs.size+1) scope.names []) (bindC (envOfC qual scope s.heap.objs.size f cd).kindOf (ps.zip us) fun _=>none) s1) :
 Inv (cxOf CX P w K mg base N qual scope f cd A outer s H E) [] (start N vs) H s1:=by
 have hpl:ps.length<=N.length:=by have:=congrArg List.length S.pre; rw [List.length_take] at this; omega
 obtain ⟨h1,tk,rfl,hk⟩:=x.done
 have noA:∀ b:Addr,b ∉ (cxOf CX P w K mg base N qual scope f cd A outer s H E).ex:=fun b z=>absurd (show b ∈ ([]:List Addr) from z) (by simp)
 refine ⟨⟨e0.mod,S.kind,rfl,rfl,Nat.le_refl _,fun y z c h1 h2=>?_,fun y hy=>?_,fun y c _ h=>?_,fun _=>hd,Around.frames_deeper e0.frames,.inr ⟨rfl,rfl⟩,fun b z=>absurd z (noA b),e0.bs,e0.bsz,fun b _ _=>noA b,fun b z=>absurd z (noA b),e0.funs,e0.frf⟩,
  rfl,e0.bare,Un.kept hk,⟨_,x.toInCall.ns,fun i y v h1 h2 h3=>?_⟩,fun y c h=>⟨_,x.cell y c h⟩,e0.hok.fresh (Nat.le_refl _),fun y c h=>?_,fun p hp=>absurd (show p ∈ ([]:List (Addr × Obj)) from hp) (by simp),e0.hok.kept hk,?_⟩
 . exact name_of_addr x.apart (PySem.mem_of_lookup h1) (PySem.mem_of_lookup h2)
 . have hy:scope.names.lookup y=some .cell∨scope.names.lookup y=some .free:=hy
   rcases hy with hy | hy
   . exact cell_has hy
   . exact absurd rfl (S.nofree _ (PySem.mem_of_lookup hy))
 . exact Nat.le_of_lt (x.above y c (PySem.mem_of_lookup h))
 . have hi:i < vs.length:=by
    unfold start at h2
    by_cases hi:i < vs.length
    . exact hi
    . rw [List.getElem?_append_right (by simpa using hi)] at h2
      rw [List.getElem?_replicate] at h2
      split at h2 <;> cases h2
   have ha:vs[i]?=some v:=by
    unfold start at h2
    rw [List.getElem?_append_left (by simpa using hi),List.getElem?_map] at h2
    cases e:vs[i]? with
    | none=>rw [e] at h2; cases h2
    | some a=>rw [e] at h2; cases h2; rfl
   obtain ⟨u,hu,rv⟩:=r.get ha
   have hp:ps[i]?=some y:=by
    rw [← S.pre,List.getElem?_take_of_lt (by omega)]; exact h1
   have ndP:ps.Nodup:=by rw [← S.pre]; exact S.nd.sublist (List.take_sublist _ _)
   refine ⟨u,rv,?_⟩
   rcases S.par y (List.mem_of_getElem? hp) with k | k
   . exact .inl ⟨k,bindL_get ndP hp hu k⟩
   . obtain ⟨c,e⟩:=cell_has (n:=s.heap.objs.size+1) k
     refine .inr ⟨.inl k,c,e,?_⟩
     have q:=x.cell y c e
     rw [bindC_get ndP hp hu (by show scope.names.lookup y ≠ _; rw [k]; decide)] at q
     exact q
 . exact e0.hok.fresh (Nat.le_of_lt (x.above y c (PySem.mem_of_lookup h)))
 . unfold start
   show _=N.length
   rw [List.length_append,List.length_map,List.length_replicate]
   omega
theorem fn_of {CX:CXT} {P:Program} {w:World} {K:W.Frag} {mg:Str->Option Value} {base:Heap} {k:Nat} {f:Addr} {name qual:Str} {params:Arguments} {body:List Stmt} {scope:Scope} {dV kV doc pm cdv ct oc:Value} {an od:Option Addr}
 {osl:Array (Option Value)} {N ps:List Str} {sp:Sp} (lk:K.lookup f=some ⟨oc,od,.func (PySem.W.fnOf name qual params body scope dV kV doc pm an cdv ct),osl⟩) (hcd:PySem.W.codeIn K cdv qual=true) (S:FnScope N ps scope)
 (len:∀ vs H Q E,sp vs H Q E->vs.length=ps.length)
 (hbody:∀ (A:Around) (outer:List Env) (s:Shared) (H:Hp) (vs:List V) (Q:VK) (E:XK),Room k (A.deeper (envOfC qual scope s.heap.objs.size f cdv))->sp vs H Q E ->
  ∃ t,PSs (cxOf CX P w K mg base N qual scope f cdv A outer s H E) body t/\t { nx:=fun _ H'=>Q .non H',rt:=Q } (start N vs) H) :
 FnOk P w K mg base CX (k+1) f (PySem.W.fnOf name qual params body scope dV kV doc pm an cdv ct) ps sp:=by
 refine ⟨len,fun A outer s H args us vs Q E hr e0 hb r hsp=>?_⟩
 have hl:=len _ _ _ _ hsp
 have KX:K.In s.heap:=e0.mod.kin.keeps fun b o e=>(e0.bs b o e).1
 have lim:s.heap.NoLimit:=e0.mod.nolimit.keeps fun b o e=>(e0.bs b o e).1
 have hkind:∀ y ∈ ps.zip us,scope.names.lookup y.1=some .local∨(scope.names.lookup y.1=some .cell/\((cellsFrom (s.heap.objs.size+1) scope.names []).lookup y.1).isSome=true):=fun ⟨n,v⟩ hy=>by
  rcases S.par n (List.of_mem_zip hy).1 with q | q
  . exact .inl q
  . exact .inr ⟨q,PySem.W.cellsFrom_some _ _ _ (.inl q)⟩
 refine codeAny_call_function hr.depth (KX _ _ lk) rfl S.co S.gen rfl (PySem.W.codeRec_of KX hcd) (hb _ _ _ _ ?_)
 refine wpAny_newFunctionEnv_cells S.kind hkind fun env he s1 x=>?_
 subst he
 refine ⟨lim.keeps x.toInCall.keep,codeAny_func ?_⟩
 obtain ⟨t,ht,hq⟩:=hbody A outer s H vs Q E (hr.deeper _) hsp
 have I:Inv (cxOf CX P w K mg base N qual scope f cdv A outer s H E) [] (start N vs) H s1:=inv_start S hr.hd e0 hl r x
 refine wpAny_mono (ht [] s1 (start N vs) H _ I hq) (fun fl s' hs=>?_) fun e s' hs=>hs
 have fin:∀ {σ':St} {H':Hp} {v:V} {u:Value},Inv (cxOf CX P w K mg base N qual scope f cdv A outer s H E) [] σ' H' s'->RelV v u->Q v H'->CE outer P w H s Q u s' :=
  fun {σ' H' v u} J rv q=>⟨v,H',J.os,J.bare,J.base,J.hok,rv,q⟩
 cases fl with
 | ret u =>
   obtain ⟨v,σ',H',J,rv,q⟩:=hs
   exact fin J rv q
 | next =>
   obtain ⟨σ',H',J,q⟩:=hs
   exact fin (v:=V.non) (u:=Value.none) J rfl q
 | brk =>
   obtain ⟨_,_,_,q⟩:=hs
   exact False.elim q
 | cont =>
   obtain ⟨_,_,_,q⟩:=hs
   exact False.elim q
section
variable {X:Cx} {x:Str} {p pos:Pos} {e:Expr} {es:List Expr} {t:TA} {id T:String} {r:List V->Hp->VK->Prop}
def tCB (r:List V->Hp->VK->Prop) (t:TA):TE:=fun σ H Q=>t σ H fun vs H1=>r vs H1 Q
theorem aJ (hc:CallR X (.builtin id) r) (hg:Gl X x) (hm:X.mg x=none) (hv:bootBuiltins x=some (.builtin id)) (ha:PA X (e::es) t) (hn:x ≠ "__name__" := by decide) (hdb:(x == ("__debug__" : Str))=false:=by decide)
 (he:starEach (e::es) X.env=(false,eval e X.env)::starEach es X.env:=by rfl) (hpl:(backTo pos (starEach es X.env)).any (·.1)=false:=by rfl):PE X (.Call (.Name x p) (e::es) [] pos) (tCB r t):=by
 intro pins s σ H Q I h
 refine wpAny_Call_Name_kw (ld_blt I hg hm hv ?_ hn hdb)
 exact PyProof.Rows.callWith_builtin1 (thn (ha pos pins s σ H _ I h) fun us s1 ⟨vs,H1,I1,r1,q1⟩=>hc pins s1 σ H1 vs us Q I1 r1 q1) he hpl
theorem bN (hc:CallR X (.type T) r) (hg:Gl X x) (hm:X.mg x=none) (hv:bootBuiltins x=some (.type T)) (ha:PA X (e::es) t) (hn:x ≠ "__name__" := by decide) (hdb:(x == ("__debug__" : Str))=false:=by decide)
 (he:starEach (e::es) X.env=(false,eval e X.env)::starEach es X.env:=by rfl) (hpl:(backTo pos (starEach es X.env)).any (·.1)=false:=by rfl):PE X (.Call (.Name x p) (e::es) [] pos) (tCB r t):=by
 intro pins s σ H Q I h
 refine wpAny_Call_Name_kw (ld_blt I hg hm hv ?_ hn hdb)
 exact PyProof.Rows.callWith_type1 (thn (ha pos pins s σ H _ I h) fun us s1 ⟨vs,H1,I1,r1,q1⟩=>hc pins s1 σ H1 vs us Q I1 r1 q1) he hpl
end
end L2
namespace HT
open PySem PyProof.Rows
section
variable {prog:Program} {w:World} {A:Around} {E:Value->Shared->Prop} {s:Shared}
theorem cat_tup {t b:Addr} {vs ws:List Value} {Q:Value->Shared->Prop} (ht:IsTup s.heap t vs.toArray) (hb:IsTup s.heap b ws.toArray) (hv:vs ≠ [])
 (h1:ws=[]->Q (.ref t) s) (h2:ws ≠ []->Q (.ref s.heap.objs.size) { s with heap:=s.heap.push { cls:=.type "tuple", data:=.seq (vs++ws).toArray } })
 (hsz:vs.length+ws.length<=sizeLine):wpAny (model prog w) A (binaryOp .Add (.ref t) (.ref b)) Q E s:=by
 obtain ⟨⟨cls,dd,data,sl⟩,ho,hc,n,hd⟩:=id ht
 obtain ⟨⟨cls2,dd2,data2,sl2⟩,ho2,hc2,n2,hd2⟩:=id hb
 simp only at hc hd hc2 hd2
 subst hc hd hc2 hd2
 have e:vs.toArray++ws.toArray=(vs++ws).toArray:=by simp
 by_cases hw:ws=[]
 . exact concat_meets ⟨_,ho,rfl⟩ ⟨_,ho2,rfl⟩ noFill_tuple_add seq_tuple_add PySem.F.slot_tuple_add PySem.F.entry_tuple_add (PySem.F.args_tuple_add_2 _ _)
    (tuple_addW1 t b vs.toArray ws.toArray n n2 dd dd2 sl sl2 (by simpa using hv) (by simp [hw])) ⟨ho,ho2,h1 hw⟩
 . refine concat_meets ⟨_,ho,rfl⟩ ⟨_,ho2,rfl⟩ noFill_tuple_add seq_tuple_add PySem.F.slot_tuple_add PySem.F.entry_tuple_add (PySem.F.args_tuple_add_2 _ _)
    (tuple_addW2 t b vs.toArray ws.toArray n n2 dd dd2 sl sl2 (by simpa using hv) (by simpa using hw) (by rw [List.size_toArray,List.size_toArray]; exact hsz)) ⟨ho,ho2,?_⟩
   rw [e]
   exact h2 hw
def sIx (n d:Nat):Option Int->Nat
 | none=>d
 | some v=>if v < 0 then (v+(n:Int)).toNat else min v.toNat n
theorem sIx_none (n d:Nat):sIx n d none=d:=rfl
theorem sIx_nat (n d k:Nat):sIx n d (some (k:Int))=min k n:=by
 show (if (k:Int) < 0 then ((k:Int)+(n:Int)).toNat else min (k:Int).toNat n)=min k n
 rw [if_neg (by omega),Int.toNat_natCast]
theorem sIx_le (n d:Nat) (hd:d<=n) (o:Option Int):sIx n d o<=n:=by
 cases o with
 | none=>exact hd
 | some v =>
   show (if v < 0 then (v+(n:Int)).toNat else min v.toNat n)<=n
   by_cases hv:v < 0
   . rw [if_pos hv]; omega
   . rw [if_neg hv]; exact Nat.min_le_right _ _
theorem clip_eq (v:Int) (n d:Nat):(if v < 0 then max (v+(n:Int)) 0 else min v (n:Int))=((sIx n d (some v):Nat):Int):=by
 show (if v < 0 then max (v+(n:Int)) 0 else min v (n:Int))=(((if v < 0 then (v+(n:Int)).toNat else min v.toNat n):Nat):Int)
 by_cases hv:v < 0
 . simp only [if_pos hv]; omega
 . simp only [if_neg hv]; omega
theorem adjust_gen (lo hi:Option Int) (n:Nat):Builtin.Slice.sliceAdjust lo hi 1 (n:Int)=(((sIx n 0 lo:Nat):Int),((sIx n n hi:Nat):Int)):=by
 have h1:¬ ((1:Int) < 0):=by omega
 unfold Builtin.Slice.sliceAdjust
 simp only [h1,if_false]
 refine Prod.ext ?_ ?_
 . cases lo with
   | none=>rfl
   | some v=>exact clip_eq v n 0
 . cases hi with
   | none=>rfl
   | some v=>exact clip_eq v n n
theorem places_gen (i j:Nat):Builtin.Slice.slicePlaces (i:Int) (j:Int) 1=j - i:=by
 unfold Builtin.Slice.slicePlaces
 have h1:(1:Int) > 0:=by omega
 simp only [h1,if_true,Int.ediv_one]
 split <;> omega
theorem slicePart_ {v:Value} {o:Option Int} {Q:Option Int->Shared->Prop} (p:IsPart v o) (h:Q o s):wpAny (model prog w) A (Builtin.Slice.slicePartIndex v) Q E s:=by
 cases p with
 | none=>exact slicePart_none h
 | int i t=>exact slicePart_int h
theorem sliceApplied_gen {sl:Addr} {vl vu:Value} {lo hi:Option Int} {n:Nat} {Q:Int × Int × Nat->Shared->Prop} (hs:s.heap.IsSliceOf sl vl vu .none) (pl:IsPart vl lo) (pu:IsPart vu hi)
 (h:Q (((sIx n 0 lo:Nat):Int),1,sIx n n hi - sIx n 0 lo) s):wpAny (model prog w) A (Builtin.Slice.sliceApplied (.ref sl) (pure (n:Int))) Q E s:=by
 obtain ⟨os,hos,hcs,hds⟩:=id hs
 unfold Builtin.Slice.sliceApplied Builtin.Slice.sliceFields
 refine wpAny_bind (wpAny_bind (wpAny_field hos hds (x:=vl) rfl (wpAny_bind (wpAny_field hos hds (x:=vu) rfl (wpAny_bind (wpAny_field hos hds (x:=.none) rfl (wpAny_pure ?_)))))))
 refine wpAny_bind (slicePart_none ?_)
 show wpAny _ _ (if ((1:Int) == 0)=true then _ else _) _ _ s
 rw [if_neg (by decide)]
 refine wpAny_bind (slicePart_ pl (wpAny_bind (slicePart_ pu (wpAny_bind (wpAny_pure ?_)))))
 show wpAny _ _ (match Builtin.Slice.sliceAdjust lo hi 1 (n:Int) with | (lo,hi)=>pure (lo,(1:Int),Builtin.Slice.slicePlaces lo hi 1)) _ _ s
 rw [adjust_gen lo hi n]
 show wpAny _ _ (pure (((sIx n 0 lo:Nat):Int),(1:Int),Builtin.Slice.slicePlaces ((sIx n 0 lo:Nat):Int) ((sIx n n hi:Nat):Int) 1)) _ _ s
 rw [places_gen]
 exact wpAny_pure h
theorem pick_gen (xs:Array Value) (i k:Nat):((List.range k).filterMap fun (m:Nat)=>xs[((i:Int)+(m:Int)*1).toNat]?).toArray=((xs.toList.drop i).take k).toArray:=by
 have e:(fun (m:Nat)=>xs[((i:Int)+(m:Int)*1).toNat]?)=fun m=>xs[i+m]?:=by
  funext m
  have:((i:Int)+(m:Int)*1).toNat=i+m:=by omega
  rw [this]
 rw [e]
 have:=pick_run xs i k
 rw [List.filterMap_map] at this
 have e2:((fun x=>xs[x]?) ∘ fun x=>i+x)=fun m=>xs[i+m]?:=rfl
 rw [e2] at this
 rw [this]
theorem getItem_tuple_cut {t sl:Addr} {items:Array Value} {vl vu:Value} {lo hi:Option Int} {Q:Value->Shared->Prop} (ht:IsTup s.heap t items) (hs:s.heap.IsSliceOf sl vl vu .none) (pl:IsPart vl lo) (pu:IsPart vu hi)
 (hw:¬ (sIx items.size 0 lo=0/\sIx items.size items.size hi=items.size))
 (h:Q (.ref s.heap.objs.size) { s with heap:=s.heap.push { cls:=.type "tuple", data:=.seq ((items.toList.drop (sIx items.size 0 lo)).take (sIx items.size items.size hi - sIx items.size 0 lo)).toArray } })
 (hsz:items.size<=sizeLine):wpAny (model prog w) A (getItem (.ref t) (.ref sl)) Q E s:=by
 have htake:sizeOk (.seq ((items.toList.drop (sIx items.size 0 lo)).take (sIx items.size items.size hi - sIx items.size 0 lo)).toArray):=by
  show ((items.toList.drop (sIx items.size 0 lo)).take (sIx items.size items.size hi - sIx items.size 0 lo)).toArray.size<=sizeLine
  rw [List.size_toArray,List.length_take,List.length_drop,Array.length_toList]
  omega
 have hj:sIx items.size items.size hi<=items.size:=sIx_le _ _ (Nat.le_refl _) hi
 obtain ⟨os,hos,hcs,hds⟩:=id hs
 have hTs:s.TypeIs (.ref sl) "slice" := ⟨os,hos,hcs⟩
 unfold getItem
 try with_reducible refine wpAny_holding ?_
 first | refine wpAny_bind (wpAny_pure ?_) | skip
 refine wpAny_bind (wpAny_sequenceKey ht.typeIs (by decide) ?_)
 refine wpAny_bind (wpAny_callSpecial?_slot (name:=Str.ofString "__getitem__") ht.typeIs PyProof.Rows.slot_tuple_getitem
  (wpAny_call_entry PyProof.Rows.slot_tuple_getitem ht.typeIs entry_tuple_getitem ?_ (args_tuple_getitem _ _)))
 show wpAny _ _ (Builtin.Tuple.tupleItemsOf (.ref t) >>= _) _ _ s
 refine wpAny_bind (tupleItemsOf_ ht ?_)
 refine wpAny_bind (wpAny_typeOf hTs ?_)
 rw [if_pos (by decide)]
 refine wpAny_bind (sliceApplied_gen hs pl pu ?_)
 have hno:¬ ((((sIx items.size 0 lo:Nat):Int) == 0 && (1:Int) == 1 && (sIx items.size items.size hi - sIx items.size 0 lo) == items.size)=true):=by
  intro q
  rw [Bool.and_eq_true,Bool.and_eq_true] at q
  have q1:((sIx items.size 0 lo:Nat):Int)=0:=eq_of_beq q.1.1
  have q2:sIx items.size items.size hi - sIx items.size 0 lo=items.size:=eq_of_beq q.2
  exact hw ⟨by omega,by omega⟩
 show wpAny _ _ (if (((sIx items.size 0 lo:Nat):Int) == 0 && (1:Int) == 1 && (sIx items.size items.size hi - sIx items.size 0 lo) == items.size)=true then _ else _) _ _ s
 rw [if_neg hno,pick_gen]
 first
  | exact wpAny_bind (m:=Builtin.Tuple.tupleExact _) (wpAny_newObj_type (wpAny_pure ⟨_,rfl,wpAny_pure h⟩) htake)
  | exact wpAny_bind (m:=Builtin.Tuple.tupleExact _) (wpAny_newObj_type (wpAny_bind (wpAny_pure (wpAny_pure ⟨_,rfl,wpAny_pure h⟩))) htake)
  | exact wpAny_bind (wpAny_bind (m:=Builtin.Tuple.tupleExact _) (wpAny_newObj_type (wpAny_pure (wpAny_pure ⟨_,rfl,wpAny_pure h⟩)) htake))
  | exact wpAny_bind (wpAny_bind (m:=Builtin.Tuple.tupleExact _) (wpAny_newObj_type (wpAny_pure ⟨_,rfl,wpAny_pure h⟩) htake))
end
end HT
namespace L2
open PySem PySem.Spec PyProof.Rows
abbrev TO:=St->Hp->(Option Int->Hp->Prop)->Prop
def PO (X:Cx) (e:Option Expr) (t:TO):Prop :=
 ∀ (pins:List (Addr × Obj)) (s:Shared) (σ:St) (H:Hp) (Q:Option Int->Hp->Prop),Inv X pins σ H s->t σ H Q ->
  wpAny (model X.prog X.w) X.A (evalPart e X.env) (fun u s'=>∃ o H',Inv X pins σ H' s'/\IsPart u o/\Q o H') X.xe s
def tNoPart:TO:=fun _ H Q=>Q none H
def tPart (t:TE):TO:=fun σ H Q=>t σ H fun x H1=>∃ i,x=.int i/\Q (some i) H1
section
variable {X:Cx} {e:Expr} {te:TE} {lo hi:Option Expr} {tl th:TO} {pos p2:Pos}
theorem po_none:PO X none tNoPart:=by
 intro pins s σ H Q I h
 rw [evalPart_none]
 exact wpAny_pure ⟨none,H,I,.none,h⟩
theorem po_some (h:PE X e te):PO X (some e) (tPart te):=by
 intro pins s σ H Q I hw
 rw [evalPart_some]
 refine thn (h pins s σ H _ I hw) fun u s1 ⟨x,H1,I1,r1,q1⟩=>?_
 obtain ⟨i,rfl,q⟩:=q1
 obtain ⟨t,rfl⟩:=r1
 exact ⟨some i,H1,I1,.int i t,q⟩
def SlR (X:Cx) (r:V->Option Int->Option Int->Hp->VK->Prop):Prop :=
 ∀ (pins:List (Addr × Obj)) (s:Shared) (σ:St) (H:Hp) (x:V) (v vl vu:Value) (lo hi:Option Int) (sl:Addr) (Q:VK),Inv X pins σ H s->RelV x v->s.heap.IsSliceOf sl vl vu .none->IsPart vl lo->IsPart vu hi->r x lo hi H Q ->
  ∃ T id,typeLookup (.type T) "__getitem__" = pure (some (.builtin id))/\s.TypeIs v T/\wpAny (model X.prog X.w) X.A (getItem v (.ref sl)) (EP X pins σ Q) X.xe s
def tSl (r:V->Option Int->Option Int->Hp->VK->Prop) (te:TE) (tl th:TO):TE:=fun σ H Q=>te σ H fun x H1=>tl σ H1 fun l H2=>th σ H2 fun u H3=>r x l u H3 Q
theorem dO {r:V->Option Int->Option Int->Hp->VK->Prop} (hr:SlR X r) (he:PE X e te) (hl:PO X lo tl) (hu:PO X hi th):PE X (.Subscript e (.Slice lo hi none p2) pos) (tSl r te tl th):=by
 intro pins s σ H Q I h
 refine Subscript_ (thn (he pins s σ H _ I h) fun v s1 ⟨x,H1,I1,r1,q1⟩=>?_)
 refine wpAny_Slice (thn (hl pins s1 σ H1 _ I1 q1) fun vl s2 ⟨l,H2,I2,pl,q2⟩=>thn (hu pins s2 σ H2 _ I2 q2) fun vu s3 ⟨u,H3,I3,pu,q3⟩=>?_)
 rw [evalPart_none]
 refine wpAny_pure ?_
 have I4:Inv X pins σ H3 { s3 with heap:=s3.heap.push { cls:=.type "slice", data:=.fields #[vl,vu,.none] } }:=I3.kept (t':=s3.toks) fun b ob q=>Heap.get?_push_of_some _ q
 obtain ⟨T,id,hT,ht,hg⟩:=hr pins { s3 with heap:=s3.heap.push { cls:=.type "slice", data:=.fields #[vl,vu,.none] } } σ H3 x v vl vu l u s3.heap.objs.size Q I4 r1 (Heap.IsSliceOf.new ..) pl pu q3
 show wpAny (model X.prog X.w) X.A (subscriptTail e (.Slice lo hi none p2) v (.ref s3.heap.objs.size)) (EP X pins σ Q) X.xe { s3 with heap:=s3.heap.push { cls:=.type "slice", data:=.fields #[vl,vu,.none] } }
 exact tail_any (ops:=[.ref s3.heap.objs.size,v]) ht hT hg (by with_unfolding_all rfl)
def cutV (xs:List V) (lo hi:Option Int):List V:=(xs.drop (HT.sIx xs.length 0 lo)).take (HT.sIx xs.length xs.length hi - HT.sIx xs.length 0 lo)
theorem cutV_length (xs:List V) (lo hi:Option Int):(cutV xs lo hi).length<=xs.length:=by
 unfold cutV
 rw [List.length_take,List.length_drop]
 omega
def rSlT (K:W.Frag):V->Option Int->Option Int->Hp->VK->Prop:=fun x lo hi H Q=>∃ a xs,x=.ref a/\SqT K H a xs /\
 ¬ (HT.sIx xs.length 0 lo=0/\HT.sIx xs.length xs.length hi=xs.length)/\∀ p,H p=none->Q (.ref p) (upd H p (.tup (cutV xs lo hi)))
theorem sl_tup:SlR X (rSlT X.K):=by
 intro pins s σ H x v vl vu lo hi sl Q I rx hs pl pu h
 obtain ⟨a,xs,rfl,hx,hw,q⟩:=h
 cases rx
 obtain ⟨its,r,ht,hz⟩:=I.tuple hx
 have hlen:its.toArray.size=xs.length:=by rw [List.size_toArray]; exact r.length.symm
 refine ⟨"tuple", _,PyProof.Rows.slot_tuple_getitem.lookup,ht.typeIs,?_⟩
 refine HT.getItem_tuple_cut ht hs pl pu (by rw [hlen]; exact hw) ?_ (by rw [hlen]; exact hz)
 rw [hlen]
 refine ⟨.ref s.heap.objs.size,_,I.laid (t':=s.toks) (o:=.tup (cutV xs lo hi)) (fun b ob q=>Heap.get?_push_of_some _ q) (Nat.le_refl _) ?_,rfl,q _ (I.hok.fresh (Nat.le_refl _))⟩
 exact ⟨Nat.le_trans (cutV_length xs lo hi) hz,_,(r.drop (HT.sIx xs.length 0 lo)).take (HT.sIx xs.length xs.length hi - HT.sIx xs.length 0 lo),IsTup.new _ _,_,Heap.get?_push_size _ rfl,rfl⟩
def rCatT (K:W.Frag):R2:=fun x y H Q=>∃ a b xs ys,x=.ref a/\y=.ref b/\SqT K H a xs/\SqT K H b ys/\xs ≠ []/\xs.length+ys.length<=sizeLine /\
 (ys=[]->Q (.ref a) H)/\(ys ≠ []->∀ p,H p=none->Q (.ref p) (upd H p (.tup (xs++ys))))
theorem Vals.nil_iff {xs:List V} {us:List Value} (r:Vals xs us):us=[]↔xs=[]:=by
 cases r with
 | nil=>simp
 | cons _ _=>simp
theorem op_catT:OpR X (binaryOp .Add) (rCatT X.K):=by
 intro pins s σ H x y v u Q I rx ry h
 obtain ⟨a,b,xs,ys,rfl,rfl,ha,hb,hx,hz,q1,q2⟩:=h
 cases rx
 cases ry
 obtain ⟨its,r1,p1,_⟩:=I.tuple ha
 obtain ⟨its2,r2,p2,_⟩:=I.tuple hb
 refine HT.cat_tup p1 p2 (fun z=>hx (r1.nil_iff.mp z)) (fun z=>⟨.ref a,H,I,rfl,q1 (r2.nil_iff.mp z)⟩) (fun z=>?_) (by rw [← r1.length,← r2.length]; exact hz)
 refine ⟨.ref s.heap.objs.size,_,I.laid (t':=s.toks) (o:=.tup (xs++ys)) (fun b ob q=>Heap.get?_push_of_some _ q) (Nat.le_refl _) ?_,rfl,q2 (fun w=>z (r2.nil_iff.mpr w)) _ (I.hok.fresh (Nat.le_refl _))⟩
 exact ⟨by rw [List.length_append]; exact hz,_,r1.append r2,IsTup.new _ _,_,Heap.get?_push_size _ rfl,rfl⟩
end
def ixN (n:Nat) (i:Int):Option Nat:=if 0<=i then (if i < n then some i.toNat else none) else if -(n:Int)<=i then some (i+n).toNat else none
def atI {α:Type} (xs:List α) (i:Int):Option α:=(ixN xs.length i).bind fun j=>xs[j]?
theorem ixN_seq {n:Nat} {i:Int} {j:Nat} (h:ixN n i=some j):seqIndex? i n=some j/\j < n/\-(n:Int)<=i/\i < n:=by
 unfold ixN at h
 by_cases h0:0<=i
 . rw [if_pos h0] at h
   by_cases h1:i < n
   . rw [if_pos h1] at h
     have e:i.toNat=j:=Option.some.inj h
     exact ⟨by rw [seqIndex_of h0 h1,e],by omega,by omega,h1⟩
   . rw [if_neg h1] at h; cases h
 . rw [if_neg h0] at h
   by_cases h1:-(n:Int)<=i
   . rw [if_pos h1] at h
     have e:(i+n).toNat=j:=Option.some.inj h
     exact ⟨by rw [seqIndex_neg (by omega) h1,e],by omega,h1,by omega⟩
   . rw [if_neg h1] at h; cases h
theorem atI_get {α:Type} {xs:List α} {i:Int} {v:α} (h:atI xs i=some v):∃ j,seqIndex? i xs.length=some j/\xs[j]?=some v/\j < xs.length/\-(xs.length:Int)<=i/\i < xs.length:=by
 unfold atI at h
 cases e:ixN xs.length i with
 | none=>rw [e] at h; cases h
 | some j =>
   rw [e] at h
   obtain ⟨h1,h2,h3,h4⟩:=ixN_seq e
   exact ⟨j,h1,h,h2,h3,h4⟩
theorem cL {α:Type} {xs:List α} {j:Nat} {v:α} (h:xs[j]?=some v):atI xs (j:Int)=some v:=by
 have hj:j < xs.length:=(List.getElem?_eq_some_iff.mp h).1
 have e:ixN xs.length (j:Int)=some j:=by
  unfold ixN
  rw [if_pos (by omega),if_pos (by omega)]; simp
 unfold atI; rw [e]; exact h
theorem atI_last {α:Type} (xs:List α) (v:α):atI (xs++[v]) (-1)=some v:=by
 have hl:(xs++[v]).length=xs.length+1:=by simp
 have e:ixN (xs++[v]).length (-1)=some xs.length:=by
  unfold ixN
  rw [hl,if_neg (by decide),if_pos (by omega)]
  congr 1
  omega
 unfold atI
 rw [e]
 show (xs++[v])[xs.length]?=some v
 simp
def PlainIx (b:Expr):Prop:=∀ o i,subscripted b false o i=operate [o,i] (getItem o i)
def IxR (X:Cx) (r:R2):Prop :=
 ∀ (value slice:Expr) (pins:List (Addr × Obj)) (s:Shared) (σ:St) (H:Hp) (x y:V) (v u:Value) (Q:VK),Inv X pins σ H s->RelV x v->RelV y u->r x y H Q ->
  subscripted slice false v u=operate [v,u] (getItem v u)->wpAny (model X.prog X.w) X.A (subscriptTail value slice v u) (EP X pins σ Q) X.xe s
def MtR (X:Cx) (id:String) (r:V->List V->Hp->VK->Prop):Prop :=
 ∀ (pins:List (Addr × Obj)) (s:Shared) (σ:St) (H:Hp) (x:V) (xs:List V) (v:Value) (us:List Value) (Q:VK),Inv X pins σ H s->RelV x v->Vals xs us->r x xs H Q ->
  wpAny (model X.prog X.w) X.A (call (.builtin id) (v::us)) (EP X pins σ Q) X.xe s
section
variable {X:Cx} {a b:Expr} {ta tb:TE} {pos:Pos}
theorem IxR.or {r r':R2} (h:IxR X r) (h':IxR X r'):IxR X (fun x y H Q=>r x y H Q∨r' x y H Q):=by
 intro value slice pins s σ H x y v u Q I rx ry q hs
 rcases q with q | q
 . exact h value slice pins s σ H x y v u Q I rx ry q hs
 . exact h' value slice pins s σ H x y v u Q I rx ry q hs
theorem aR {r:R2} (hr:IxR X r) (ha:PE X a ta) (hb:PE X b tb) (hs:PlainIx b):PE X (.Subscript a b pos) (tOp r ta tb):=by
 intro pins s σ H Q I h
 exact Subscript_ (binT ha hb I h fun v u s2 x y H2 I2 rx ry q=>hr a b pins s2 σ H2 x y v u Q I2 rx ry q (hs _ _))
def rIxL (K:W.Frag):R2:=fun x y H Q=>∃ p xs i v,x=.ref p/\y=.int i/\SqL K H p xs/\atI xs i=some v/\Q v H
def rIxT (K:W.Frag):R2:=fun x y H Q=>∃ p xs i v,x=.ref p/\y=.int i/\SqT K H p xs/\atI xs i=some v/\Q v H
def rIxS:R2:=fun x y H Q=>∃ z i c,x=.str z/\y=.int i/\z.length<=sizeLine/\atI z.cps.toList i=some c/\Q (.str ⟨#[c]⟩) H
theorem ix_list:IxR X (rIxL X.K):=by
 intro value slice pins s σ H x y v u Q I rx ry h hs
 obtain ⟨p,xs,i,z,rfl,rfl,hq,he,q⟩:=h
 cases rx
 obtain ⟨t,rfl⟩:=ry
 obtain ⟨its,r,pl,hz⟩:=I.list hq
 obtain ⟨j,h1,h2,h3,h4,h5⟩:=atI_get he
 obtain ⟨w,ew,rw'⟩:=r.get h2
 have hl:=r.length
 have hn:=line63
 have fin:EP X pins σ Q w s:=⟨z,H,I,rw',q⟩
 by_cases h0:0<=i
 . have hj:i.toNat=j:=by
    rw [seqIndex_of h0 h5] at h1
    exact Option.some.inj h1
   exact item_listR pl.isList h0 (by omega) (by rw [hj]; simpa using ew) fin hs
 . have hj:(i+(its.toArray.size:Int)).toNat=j:=by
    rw [seqIndex_neg (by omega) h4] at h1
    rw [List.size_toArray,← hl]
    exact Option.some.inj h1
   exact subscriptTail_builtinR (x:=w) pl.isList.typeIs slot_list_getitem.lookup
    (wpAny_getItem_list_neg (Q:=fun r s'=>r=w/\EP X pins σ Q r s') pl.isList (by omega) (by rw [List.size_toArray] <;> omega) (by omega) (by rw [hj]; simpa using ew) ⟨rfl,fin⟩) hs
theorem ix_tup:IxR X (rIxT X.K):=by
 intro value slice pins s σ H x y v u Q I rx ry h hs
 obtain ⟨p,xs,i,z,rfl,rfl,hq,he,q⟩:=h
 cases rx
 obtain ⟨t,rfl⟩:=ry
 obtain ⟨its,r,pl,hz⟩:=I.tuple hq
 obtain ⟨j,h1,h2,h3,h4,h5⟩:=atI_get he
 obtain ⟨w,ew,rw'⟩:=r.get h2
 have hl:=r.length
 have hn:=line63
 have fin:EP X pins σ Q w s:=⟨z,H,I,rw',q⟩
 exact subscriptTail_builtinR (x:=w) pl.typeIs slot_tuple_getitem.lookup
  (getItem_tuple (j:=j) (Q:=fun r s'=>r=w/\EP X pins σ Q r s') pl (by omega) (by omega) (by rw [List.size_toArray,← hl]; exact h1) (by simpa using ew) ⟨rfl,fin⟩) hs
theorem ix_str:IxR X rIxS:=by
 intro value slice pins s σ H x y v u Q I rx ry h hs
 obtain ⟨z,i,c,rfl,rfl,hz,he,q⟩:=h
 obtain ⟨t,rfl⟩:=rx
 obtain ⟨t',rfl⟩:=ry
 obtain ⟨j,h1,h2,h3,h4,h5⟩:=atI_get he
 have hl:z.cps.toList.length=z.length:=by simp [Str.length]
 rw [hl] at h1 h4 h5
 have hn:=line63
 exact tail_any (typeIs_str s z t) slot_str_getitem.lookup (getItem_str (c:=c) (by
  have e1:decide (i < -(2 ^ 63:Int))=false:=decide_eq_false (by omega)
  have e2:decide (i ≥ 2 ^ 63)=false:=decide_eq_false (by omega)
  rw [e1,e2,Bool.or_false]) (by rw [h1]; simpa using h2) ⟨.str ⟨#[c]⟩,H,I.tok _,⟨_,rfl⟩,q⟩) hs
def rIx (K:W.Frag):R2:=fun x y H Q=>rIxL K x y H Q∨rIxT K x y H Q∨rIxS x y H Q
theorem ix_seq:IxR X (rIx X.K):=ix_list.or (ix_tup.or ix_str)
theorem mapSeq_set (its:List Value) (n j:Nat) (u:Value):Obj.mapSeq (·.setIfInBounds j u) { cls:=.type "list", data:=.seq its.toArray n }={ cls:=.type "list", data:=.seq (its.set j u).toArray n }:=by
 simp [Obj.mapSeq]
theorem Inv.lst {pins:List (Addr × Obj)} {σ:St} {H:Hp} {s:Shared} {p:Addr} {xs:List V} (I:Inv X pins σ H s) (h:H p=some (.lst xs)) :
 ∃ (its:List Value) (n:Nat),Vals xs its/\s.heap.get? p=some { cls:=.type "list", data:=.seq its.toArray n }/\xs.length<=sizeLine:=by
 obtain ⟨z,its,n,r,e⟩:=I.hok p _ h
 exact ⟨its,n,r,e,z⟩
theorem Inv.lstUpd {pins:List (Addr × Obj)} {σ:St} {H:Hp} {s:Shared} {p:Addr} {xs ys:List V} {its its':List Value} {n n':Nat} {f:Obj->Obj} (I:Inv X pins σ H s) (h:H p=some (.lst xs))
 (ho:s.heap.get? p=some { cls:=.type "list", data:=.seq its.toArray n }) (hf:f { cls:=.type "list", data:=.seq its.toArray n }={ cls:=.type "list", data:=.seq its'.toArray n' }) (r:Vals ys its') (hz:ys.length<=sizeLine) (t:Nat) :
 Inv X pins σ (upd H p (.lst ys)) { s with heap:=s.heap.update p f,toks:=t }:=by
 have e:(s.heap.update p f).get? p=some { cls:=.type "list", data:=.seq its'.toArray n' }:=by
  rw [Heap.get?_update_self f ho (by rw [hf] <;> rfl),hf]
 refine I.write (x:=p) (e:=p) (by rw [h]; trivial) (.inl rfl) (fun b u hb q=>(Heap.get?_update_other _ _ (Ne.symm hb)).trans q) ⟨_,e⟩ ?_
 exact ⟨hz,its',n',r,e⟩
def rSetL:V->V->V->Hp->(Hp->Prop)->Prop:=fun o i v H Q=>∃ p xs k j,o=.ref p/\i=.int k/\H p=some (.lst xs)/\ixN xs.length k=some j/\Q (upd H p (.lst (xs.set j v)))
theorem set_list:PSet X rSetL:=by
 intro pins s σ H o i v ov iv u Q I ro ri rv h
 obtain ⟨p,xs,k,j,rfl,rfl,hp,hj,q⟩:=h
 cases ro
 obtain ⟨t,rfl⟩:=ri
 obtain ⟨its,n,r,ho,hz⟩:=I.lst hp
 obtain ⟨h1,h2,h3,h4⟩:=ixN_seq hj
 have hl:=r.length
 have hn:=line63
 have I':Inv X pins σ (upd H p (.lst (xs.set j v))) { s with heap:=s.heap.update p (Obj.mapSeq (·.setIfInBounds j u)) } :=
  I.lstUpd hp ho (mapSeq_set its n j u) (r.set rv j) (by rw [List.length_set]; exact hz) s.toks
 by_cases h0:0<=k
 . have hk:k.toNat=j:=by
    rw [seqIndex_of h0 h4] at h1
    exact Option.some.inj h1
   exact PySem.W.ki_setAt ho h0 (by omega) (by rw [List.size_toArray,← hl]; exact h4) (by rw [hk]; exact ⟨_,I',q⟩)
 . have hk:(k+(its.toArray.size:Int)).toNat=j:=by
    rw [seqIndex_neg (by omega) h3] at h1
    rw [List.size_toArray,← hl]
    exact Option.some.inj h1
   exact PySem.W.ki_setBack ho (by omega) (by rw [List.size_toArray,← hl]; exact h3) (by omega) (by rw [hk]; exact ⟨_,I',q⟩)
theorem slice_bounds (lo hi:Option Int) (n:Nat):(sliceBounds lo hi none n).1=((HT.sIx n 0 lo:Nat):Int)/\(sliceBounds lo hi none n).2.1=((HT.sIx n n hi:Nat):Int)/\(sliceBounds lo hi none n).2.2=1:=by
 refine ⟨?_,?_,rfl⟩
 . cases lo with
   | none=>simp [sliceBounds,HT.sIx]
   | some i =>
     simp only [sliceBounds,HT.sIx,Option.getD_none,show (1:Int) > 0 by decide,if_true]
     by_cases h:i < 0
     . simp only [h,if_true] <;> omega
     . simp only [h,if_false] <;> omega
 . cases hi with
   | none=>simp [sliceBounds,HT.sIx]
   | some i =>
     simp only [sliceBounds,HT.sIx,Option.getD_none,show (1:Int) > 0 by decide,if_true]
     by_cases h:i < 0
     . simp only [h,if_true] <;> omega
     . simp only [h,if_false] <;> omega
theorem slicePick_cut (its:List Value) (lo hi:Option Int):slicePick its.toArray lo hi none=((its.drop (HT.sIx its.length 0 lo)).take (HT.sIx its.length its.length hi - HT.sIx its.length 0 lo)).toArray:=by
 obtain ⟨h1,h2,h3⟩:=slice_bounds lo hi its.toArray.size
 unfold slicePick
 rw [h1,h2,h3]
 simp only [sliceRange_one,pick_run,List.size_toArray] <;> rfl
def rSlL (K:W.Frag):V->Option Int->Option Int->Hp->VK->Prop:=fun x lo hi H Q=>∃ a xs,x=.ref a/\SqL K H a xs/\∀ p,H p=none->Q (.ref p) (upd H p (.lst (cutV xs lo hi)))
theorem sl_list:SlR X (rSlL X.K):=by
 intro pins s σ H x v vl vu lo hi sl Q I rx hs pl pu h
 obtain ⟨a,xs,rfl,hx,q⟩:=h
 cases rx
 obtain ⟨its,r,ht,hz⟩:=I.list hx
 have hlen:=r.length
 refine ⟨"list", _,slot_list_getitem.lookup,ht.isList.typeIs,?_⟩
 refine wpAny_getItem_list_slice ht.isList hs pl pu .none (by simp) ?_ (by rw [List.size_toArray] <;> omega)
 rw [slicePick_cut,← hlen]
 refine ⟨.ref s.heap.objs.size,_,I.laid (t':=s.toks) (o:=.lst (cutV xs lo hi)) (fun b ob q=>Heap.get?_push_of_some _ q) (Nat.le_refl _) ?_,rfl,q _ (I.hok.fresh (Nat.le_refl _))⟩
 exact ⟨Nat.le_trans (cutV_length xs lo hi) hz,_,0,(r.drop (HT.sIx xs.length 0 lo)).take (HT.sIx xs.length xs.length hi - HT.sIx xs.length 0 lo),Heap.get?_push_size _ rfl⟩
def flatV:V->Bool
 | .non=>true
 | .bl _=>true
 | .int _=>true
 | .str _=>true
 | _=>false
def eqV:V->V->Bool
 | .non,.non=>true
 | .bl a,.bl b=>a == b
 | .bl a,.int b=>(if a then 1 else 0) == b
 | .int a,.bl b=>a == (if b then 1 else 0)
 | .int a,.int b=>a == b
 | .str a,.str b=>a == b
 | _,_=>false
theorem eqAt_V {A:Around} {s:Shared} {y x:V} {u v:Value} (ry:RelV y u) (rx:RelV x v) (fy:flatV y=true) (fx:flatV x=true):SeqAt.EqAt A s u v (eqV y x):=by
 cases y with
 | non =>
   cases ry
   cases x with
   | non=>cases rx; exact SeqAt.EqAt.same _
   | bl b=>cases rx; exact SeqAt.EqAt.none_bool b
   | int b=>obtain ⟨t,rfl⟩:=rx; exact SeqAt.EqAt.none_int b t
   | str b=>obtain ⟨t,rfl⟩:=rx; exact SeqAt.EqAt.none_str b t
   | _=>exact absurd (show false=true from fx) Bool.false_ne_true
 | bl a =>
   cases ry
   cases x with
   | non=>cases rx; exact SeqAt.EqAt.bool_none a
   | bl b=>cases rx; exact SeqAt.EqAt.bool_bool a b
   | int b=>obtain ⟨t,rfl⟩:=rx; exact SeqAt.EqAt.bool_int a b t
   | str b=>obtain ⟨t,rfl⟩:=rx; exact SeqAt.EqAt.bool_str a b t
   | _=>exact absurd (show false=true from fx) Bool.false_ne_true
 | int a =>
   obtain ⟨t',rfl⟩:=ry
   cases x with
   | non=>cases rx; exact SeqAt.EqAt.int_none a t'
   | bl b=>cases rx; exact SeqAt.EqAt.int_bool a t' b
   | int b=>obtain ⟨t,rfl⟩:=rx; exact SeqAt.EqAt.int_int a t' b t
   | str b=>obtain ⟨t,rfl⟩:=rx; exact SeqAt.EqAt.int_str a t' b t
   | _=>exact absurd (show false=true from fx) Bool.false_ne_true
 | str a =>
   obtain ⟨t',rfl⟩:=ry
   cases x with
   | non=>cases rx; exact SeqAt.EqAt.str_none a t'
   | bl b=>cases rx; exact SeqAt.EqAt.str_bool a t' b
   | int b=>obtain ⟨t,rfl⟩:=rx; exact SeqAt.EqAt.str_int a t' b t
   | str b=>obtain ⟨t,rfl⟩:=rx; exact SeqAt.EqAt.str_str a t' b t
   | _=>exact absurd (show false=true from fx) Bool.false_ne_true
 | _=>exact absurd (show false=true from fy) Bool.false_ne_true
def eqU (x:V) (u:Value):Bool:=match u with
 | .none=>eqV .non x
 | .bool b=>eqV (.bl b) x
 | .int i _=>eqV (.int i) x
 | .str z _=>eqV (.str z) x
 | _=>false
theorem eqU_of {x y:V} {u:Value} (r:RelV y u) (f:flatV y=true):eqU x u=eqV y x:=by
 cases y with
 | non=>cases r; rfl
 | bl b=>cases r; rfl
 | int i=>obtain ⟨t,rfl⟩:=r; rfl
 | str z=>obtain ⟨t,rfl⟩:=r; rfl
 | _=>exact absurd (show false=true from f) Bool.false_ne_true
theorem any_eqU {x:V}:∀ {xs:List V} {us:List Value},Vals xs us->xs.all flatV=true->us.any (eqU x)=xs.any fun y=>eqV y x
 | _,_,.nil,_=>rfl
 | y::xs,u::us,.cons r t,f=>by
   rw [List.all_cons,Bool.and_eq_true] at f
   rw [List.any_cons,List.any_cons,eqU_of r f.1,any_eqU t f.2]
theorem mem_eqAt {A:Around} {s:Shared} {x:V} {v:Value} (rx:RelV x v) (fx:flatV x=true):∀ {xs:List V} {us:List Value},Vals xs us->xs.all flatV=true->∀ u ∈ us,SeqAt.EqAt A s u v (eqU x u)
 | _,_,.nil,_=>fun u hu=>by cases hu
 | y::xs,u::us,.cons r t,f=>fun u' hu=>by
   rw [List.all_cons,Bool.and_eq_true] at f
   rcases List.mem_cons.mp hu with rfl | hu
   . rw [eqU_of r f.1]; exact eqAt_V r rx f.1 fx
   . exact mem_eqAt rx fx t f.2 u' hu
def inV (x:V) (xs:List V):Bool:=xs.any fun y=>eqV y x
def rIn (K:W.Frag) (neg:Bool):R2:=fun x y H Q=>∃ p xs,y=.ref p/\(SqL K H p xs∨SqT K H p xs)/\flatV x=true/\xs.all flatV=true/\Q (.bl (if neg then !inV x xs else inV x xs)) H
theorem op_in_seq:OpR X (compareOp .In) (rIn X.K false):=by
 intro pins s σ H x y v u Q I rx ry h
 obtain ⟨p,xs,rfl,hq,fx,fs,q⟩:=h
 cases ry
 rcases hq with hq | hq
 . obtain ⟨its,r,pl,hz⟩:=I.list hq
   refine SeqAt.in_listAt (eqU x) pl.isList (fun w hw=>mem_eqAt rx fx r fs w (by simpa using hw)) ⟨.bl _,H,I,rfl,?_⟩
   rw [show its.toArray.any (eqU x)=its.any (eqU x) by simp,any_eqU r fs]
   exact q
 . obtain ⟨its,r,pl,hz⟩:=I.tuple hq
   refine SeqAt.in_tupleAt (eqU x) pl (fun w hw=>mem_eqAt rx fx r fs w (by simpa using hw)) ⟨.bl _,H,I,rfl,?_⟩
   rw [show its.toArray.any (eqU x)=its.any (eqU x) by simp,any_eqU r fs]
   exact q
theorem op_notIn_seq:OpR X (compareOp .NotIn) (rIn X.K true):=by
 intro pins s σ H x y v u Q I rx ry h
 obtain ⟨p,xs,rfl,hq,fx,fs,q⟩:=h
 cases ry
 rcases hq with hq | hq
 . obtain ⟨its,r,pl,hz⟩:=I.list hq
   refine SeqAt.notIn_listAt (eqU x) pl.isList (fun w hw=>mem_eqAt rx fx r fs w (by simpa using hw)) ⟨.bl _,H,I,rfl,?_⟩
   rw [show its.toArray.any (eqU x)=its.any (eqU x) by simp,any_eqU r fs]
   exact q
 . obtain ⟨its,r,pl,hz⟩:=I.tuple hq
   refine SeqAt.notIn_tupleAt (eqU x) pl (fun w hw=>mem_eqAt rx fx r fs w (by simpa using hw)) ⟨.bl _,H,I,rfl,?_⟩
   rw [show its.toArray.any (eqU x)=its.any (eqU x) by simp,any_eqU r fs]
   exact q
theorem aD:CallR X (.builtin "len") (fun xs H Q=>∃ p ys,xs=[.ref p]/\(SqL X.K H p ys∨SqT X.K H p ys)/\Q (.int ys.length) H):=by
 intro pins s σ H xs us Q I r h
 obtain ⟨p,ys,rfl,hq,q⟩:=h
 obtain ⟨u,rfl,rx⟩:=vals1 r
 cases rx
 have hn:=line63
 rcases hq with hq | hq
 . obtain ⟨its,r',pl,hz⟩:=I.list hq
   have hlen:=r'.length
   exact Calls.call_len_list pl.isList (by simp only [List.size_toArray] <;> omega) ⟨.int ys.length,H,I.tok _,⟨s.toks+1,by rw [List.size_toArray,hlen]⟩,q⟩
 . obtain ⟨its,r',pl,hz⟩:=I.tuple hq
   have hlen:=r'.length
   exact len_tuple pl (by simp only [List.size_toArray] <;> omega) ⟨.int ys.length,H,I.tok _,⟨s.toks+1,by rw [List.size_toArray,hlen]⟩,q⟩
theorem call_list_of:CallR X (.type "list") (fun xs H Q=>∃ p ys,xs=[.ref p]/\(SqL X.K H p ys∨SqT X.K H p ys)/\∀ l,H l=none->Q (.ref l) (upd H l (.lst ys))):=by
 intro pins s σ H xs us Q I r h
 obtain ⟨p,ys,rfl,hq,q⟩:=h
 obtain ⟨u,rfl,rx⟩:=vals1 r
 cases rx
 have fin:∀ (its:List Value),Vals ys its->ys.length<=sizeLine->∀ (h':Heap) (c':Nat),(∀ b o',s.heap.get? b=some o'->h'.get? b=some o') ->
  h'.get? s.heap.objs.size=some { cls:=.type "list", dict:=none,data:=.seq its.toArray c',slots:=#[] }->EP X pins σ Q (.ref s.heap.objs.size) { s with heap:=h' }:=fun its r' hz h' c' kp e =>
  ⟨.ref s.heap.objs.size,_,I.laid (t':=s.toks) kp (Nat.le_refl _) (show ObjOk X.prog X.w _ h' _ (.lst ys) from ⟨hz,its,c',r',e⟩),rfl,q _ (I.hok.fresh (Nat.le_refl _))⟩
 rcases hq with hq | hq
 . obtain ⟨its,r',pl,hz⟩:=I.list hq
   have hlen:=r'.length
   obtain ⟨o,ho,hc,n,hd⟩:=pl.isList
   exact call_list_seq p (.inl rfl) ho hc hd (fun h' c' kp e=>fin its r' hz h' c' kp e) (by simp only [List.size_toArray] <;> omega)
 . obtain ⟨its,r',pl,hz⟩:=I.tuple hq
   have hlen:=r'.length
   obtain ⟨o,ho,hc,n,hd⟩:=pl
   exact call_list_seq p (.inr rfl) ho hc hd (fun h' c' kp e=>fin its r' hz h' c' kp e) (by simp only [List.size_toArray] <;> omega)
theorem bE:CallR X (.type "tuple") (fun xs H Q=>∃ p ys,xs=[.ref p]/\((SqL X.K H p ys/\∀ l,H l=none->Q (.ref l) (upd H l (.tup ys)))∨(SqT X.K H p ys/\Q (.ref p) H))):=by
 intro pins s σ H xs us Q I r h
 obtain ⟨p,ys,rfl,h⟩:=h
 obtain ⟨u,rfl,rx⟩:=vals1 r
 cases rx
 rcases h with ⟨hq,q⟩ | ⟨hq,q⟩
 . obtain ⟨its,r',pl,hz⟩:=I.list hq
   have hlen:=r'.length
   refine call_tuple_list pl.isList (fun h' kp=>?_) (by simp only [List.size_toArray] <;> omega)
   have I1:Inv X pins σ H { s with heap:=h' }:=I.kept (t':=s.toks) kp
   have I2:Inv X pins σ (upd H h'.objs.size (.tup ys)) { s with heap:=h'.push { cls:=.type "tuple", data:=.seq its.toArray } } :=
    I1.laid (t':=s.toks) (fun b o e=>Heap.get?_push_of_some _ e) (Nat.le_refl _) (show ObjOk X.prog X.w _ _ _ (.tup ys) from ⟨hz,its,r',IsTup.new _ _,_,Heap.get?_push_size _ rfl,rfl⟩)
   exact ⟨.ref h'.objs.size,_,I2,rfl,q _ (I1.hok.fresh (Nat.le_refl _))⟩
 . obtain ⟨its,r',pl,hz⟩:=I.tuple hq
   exact call_tuple_same pl ⟨.ref p,H,I,rfl,q⟩
def tyV (K:W.Frag) (T:String) (x:V) (H:Hp):Prop:=match x with
 | .str _=>T = "str"
 | .int _=>T = "int"
 | .ref p=>(T = "list" /\ ∃ xs,SqL K H p xs)∨(T = "tuple" /\ ∃ o,K.lookup p=some o/\o.cls=.type "tuple" /\ o.dict=none) ∨
  (T = "dict" /\ ((∃ kvs,H p=some (.dK kvs))∨∃ kvs,H p=some (.dT kvs)))∨(T = "set" /\ ∃ S n,H p=some (.set S n))
 | _=>False
theorem tyV_is {pins:List (Addr × Obj)} {σ:St} {H:Hp} {s:Shared} {T:String} {x:V} {v:Value} (I:Inv X pins σ H s) (r:RelV x v) (ty:tyV X.K T x H) :
 s.TypeIs v T/\∀ a,v=.ref a->∃ ob,s.heap.get? a=some ob/\ob.dict=none:=by
 cases x with
 | str z =>
   obtain ⟨t,rfl⟩:=r
   cases (show T = "str" from ty)
   exact ⟨typeIs_str s z t,fun _ e=>nomatch e⟩
 | int i =>
   obtain ⟨t,rfl⟩:=r
   cases (show T = "int" from ty)
   exact ⟨typeIs_int s i t,fun _ e=>nomatch e⟩
 | ref p =>
   cases r
   rcases ty with ⟨rfl,xs,hq⟩ | ⟨rfl,o,hk,hc,hd⟩ | ⟨rfl,hk⟩ | ⟨rfl,S,n,hk⟩
   . obtain ⟨its,_,pl,_⟩:=I.list hq
     refine ⟨pl.isList.typeIs,fun a e=>?_⟩
     cases e
     obtain ⟨o,n,e,c,hd,_⟩:=pl
     exact ⟨o,e,hd⟩
   . refine ⟨⟨o,I.kIn p o hk,hc⟩,fun a e=>?_⟩
     cases e
     exact ⟨o,I.kIn _ o hk,hd⟩
   . have z:∃ o,s.heap.get? p=some o/\o.ExactDict:=by
      rcases hk with ⟨kvs,hk⟩ | ⟨kvs,hk⟩
      . obtain ⟨_,_,_,_,o,_,_,e,ex,_⟩:=I.hok p _ hk
        exact ⟨o,e,ex⟩
      . obtain ⟨_,_,_,_,o,_,_,e,ex,_⟩:=I.hok p _ hk
        exact ⟨o,e,ex⟩
     obtain ⟨o,e,ex⟩:=z
     refine ⟨⟨o,e,ex.1⟩,fun a e2=>?_⟩
     cases e2
     exact ⟨o,e,ex.2.1⟩
   . obtain ⟨o,_,_,_,e,ex,_⟩:=I.hok p _ hk
     refine ⟨⟨o,e,ex.1⟩,fun a e2=>?_⟩
     cases e2
     exact ⟨o,e,ex.2.1⟩
 | _=>exact False.elim ty
def tBM (K:W.Frag) (T:String) (r:V->List V->Hp->VK->Prop) (to:TE) (t:TA):TE:=fun σ H Q=>to σ H fun x H1=>tyV K T x H1/\t σ H1 fun xs H2=>r x xs H2 Q
variable {o e:Expr} {es:List Expr} {to:TE} {t:TA} {name:Str} {apos cpos:Pos} {T id:String} {r:V->List V->Hp->VK->Prop}
theorem pe_bm (pa:PlainAttrs T) (slot:Slot T name id) (hty:typeOf (.builtin id)=pure (.type "method_descriptor")) (hm:MtR X id r) (ho:PE X o to) (ha:PA X (e::es) t)
 (hbase:attributeBase o name X.env (eval o X.env)=eval o X.env:=by rfl)
 (hfew:((backTo cpos (starEach (e::es) X.env)).all (fun x=>!x.1) && (backToKw cpos (keywordEach [] X.env)).all (fun x=>x.1.isSome)
  && decide ((e::es).length+([]:List Keyword).length+(if ([]:List Keyword).isEmpty then 0 else 1) < 30))=true:=by rfl)
 (hline:(apos.endLine == cpos.line)=true:=by rfl) (hs:starEach (e::es) X.env=(false,eval e X.env)::starEach es X.env:=by rfl) (hplain:(backTo cpos (starEach es X.env)).any (·.1)=false:=by rfl) :
 PE X (.Call (.Attribute o name apos) (e::es) [] cpos) (tBM X.K T r to t):=by
 intro pins s σ H Q I h
 refine wpAny_Call_method_late hbase hfew hline rfl (thn (ho pins s σ H _ I h) fun v s1 ⟨x,H1,I1,r1,ty,q1⟩=>?_)
 obtain ⟨h1,h2⟩:=tyV_is I1 r1 ty
 refine ⟨T,id,pa,slot,hty,h1,h2,?_⟩
 have hA:=ha cpos pins s1 σ H1 _ I1 q1
 rw [hs] at hA ⊢
 refine Calls.callWith_builtin (by show (false || (backTo cpos (starEach es X.env)).any (·.1))=false; rw [hplain] <;> rfl) (Calls.evalArgs_plain ?_)
 exact thn hA fun us s2 ⟨vs,H2,I2,r2,q2⟩=>hm pins s2 σ H2 x vs v us Q I2 r1 r2 q2
/- xs.append(e),list.index on a module's tuple .. are MtR facts of 06m -/
end
def MtM (X:Cx) (id:String) (r:V->List V->Hp->VK->Prop):Prop :=
 ∀ (pins:List (Addr × Obj)) (s:Shared) (σ:St) (H:Hp) (x:V) (xs:List V) (v:Value) (us:List Value) (Q:VK),Inv X pins σ H s->RelV x v->Vals xs us->r x xs H Q ->
  wpAny (model X.prog X.w) X.A (call (.builtin id) (v::us)) (EP X pins σ Q) X.xe s
theorem Vals.one:∀ {x:V} {us:List Value},Vals [x] us->∃ u,us=[u]/\RelV x u
 | _,_,.cons r .nil=>⟨_,rfl,r⟩
theorem Vals.rep {xs:List V} {us:List Value} (h:Vals xs us):∀ k:Nat,Vals (List.replicate k xs).flatten (List.replicate k us).flatten
 | 0=>.nil
 | k+1=>by
   rw [List.replicate_succ,List.replicate_succ,List.flatten_cons,List.flatten_cons]
   exact Vals.append h (Vals.rep h k)
theorem foldl_rep (its:List Value):∀ (k:Nat) (acc:List Value),
 List.foldl (fun x1 x2=>x1++x2) acc.toArray (List.replicate k its.toArray)=(acc++(List.replicate k its).flatten).toArray
 | 0,acc=>by simp
 | k+1,acc=>by
   have e:acc.toArray++its.toArray=(acc++its).toArray:=by simp
   have e2:(acc++its)++(List.replicate k its).flatten=acc++(List.replicate (k+1) its).flatten:=by
    rw [List.replicate_succ,List.flatten_cons,List.append_assoc]
   rw [← e2,← foldl_rep its k (acc++its),← e,List.replicate_succ,List.foldl_cons]
section
variable {X:Cx} {pins:List (Addr × Obj)} {σ:St} {H:Hp} {s:Shared} {l b:Addr} {xs ys zs:List V}
theorem Inv.lset {its its':List Value} {n:Nat} {f:Array Value->Array Value} {t':Nat} (I:Inv X pins σ H s) (hH:H l=some (.lst xs))
 (e:s.heap.get? l=some { cls:=.type "list", data:=.seq its.toArray n }) (hf:f its.toArray=its'.toArray) (hv:Vals ys its') (hz:ys.length<=sizeLine) :
 Inv X pins σ (upd H l (.lst ys)) { s with heap:=s.heap.update l (Obj.mapSeq f),toks:=t' }:=by
 have q:=PySem.IsL.update e f
 rw [hf] at q
 refine I.write (x:=l) (e:=l) (by rw [hH]; exact trivial) (.inl rfl) (fun b' u hb hu=>(Heap.get?_update_other s.heap (Obj.mapSeq f) (Ne.symm hb)).trans hu) ⟨_,q⟩ ?_
 exact ⟨hz,its',_,hv,q⟩
theorem Inv.lnew {its:List Value} {t':Nat} (I:Inv X pins σ H s) (hv:Vals ys its) (hz:ys.length<=sizeLine) :
 Inv X pins σ (upd H s.heap.objs.size (.lst ys)) { s with heap:=s.heap.push { cls:=.type "list", data:=.seq its.toArray },toks:=t' } :=
 I.laid (fun _ _ q=>Heap.get?_push_of_some _ q) (Nat.le_refl _) ⟨hz,its,0,hv,Heap.get?_push_size _ rfl⟩
theorem Inv.fresh (I:Inv X pins σ H s):H s.heap.objs.size=none:=I.hok.fresh (Nat.le_refl _)
theorem Inv.lstM (I:Inv X pins σ H s) (hH:H l=some (.lst xs)):xs.length<=sizeLine/\∃ (its:List Value) (n:Nat),Vals xs its/\xs.length=its.length/\s.heap.get? l=some { cls:=.type "list", data:=.seq its.toArray n }:=by
 obtain ⟨z,its,n,r,e⟩:=I.hok l _ hH
 exact ⟨z,its,n,r,r.length,e⟩
theorem notLongL {n:Nat} (h:n<=sizeLine):Builtin.List.listTooLong n=false:=by
 unfold Builtin.List.listTooLong
 exact decide_eq_false (by omega)
end
section
variable {X:Cx}
def rAppend:V->List V->Hp->VK->Prop:=fun x vs H Q=>∃ l xs y,x=.ref l/\vs=[y]/\H l=some (.lst xs)/\xs.length < sizeLine/\Q .non (upd H l (.lst (xs++[y])))
theorem mt_append:MtM X "list.append" rAppend:=by
 intro pins s σ H x vs v us Q I rx rv h
 obtain ⟨l,xs,y,rfl,rfl,hH,hz,q⟩:=h
 cases rx
 obtain ⟨u,rfl,ru⟩:=rv.one
 obtain ⟨z,its,n,r,hl,e⟩:=I.lstM hH
 refine call_meets F.slot_list_append ⟨_,e,rfl⟩ F.entry_list_append (F.args_list_append_2 _ _) (PySem.list_append l its.toArray n u (by rw [List.size_toArray]; omega)) ⟨e,?_⟩
 refine ⟨.non,_,I.lset (its':=its++[u]) hH e (by simp) (r.append (.cons ru .nil)) ?_,rfl,q⟩
 rw [List.length_append,List.length_singleton]
 omega
def rExtend:V->List V->Hp->VK->Prop:=fun x vs H Q=>∃ l b xs zs,x=.ref l/\vs=[.ref b]/\H l=some (.lst xs)/\H b=some (.lst zs)/\xs.length+zs.length<=sizeLine/\Q .non (upd H l (.lst (xs++zs)))
theorem mt_extend:MtM X "list.extend" rExtend:=by
 intro pins s σ H x vs v us Q I rx rv h
 obtain ⟨l,b,xs,zs,rfl,rfl,hH,hB,hz,q⟩:=h
 cases rx
 obtain ⟨u,rfl,ru⟩:=rv.one
 cases ru
 obtain ⟨z,its,n,r,hl,e⟩:=I.lstM hH
 obtain ⟨z2,its2,n2,r2,hl2,e2⟩:=I.lstM hB
 have hsz:its.toArray.size+its2.toArray.size<=sizeLine:=by rw [List.size_toArray,List.size_toArray]; omega
 have hlong:¬ (!its.toArray.isEmpty && Builtin.List.listTooLong (its.toArray.size+its2.toArray.size))=true:=by
  rw [notLongL hsz,Bool.and_false]
  exact Bool.false_ne_true
 refine call_meets F.slot_list_extend ⟨_,e,rfl⟩ F.entry_list_extend (F.args_list_extend_2 _ _)
  (AutoSeq1.list_extend_list_list_0 l its.toArray n b its2.toArray n2 hlong (by rw [List.size_toArray]; omega) (by omega)) ⟨e,e2,?_⟩
 refine ⟨.non,_,I.lset (its':=its++its2) hH e (by simp) (r.append r2) ?_,rfl,q⟩
 rw [List.length_append]
 omega
def rCat:R2:=fun x y H Q=>∃ l b xs zs,x=.ref l/\y=.ref b/\H l=some (.lst xs)/\H b=some (.lst zs)/\xs.length+zs.length<=sizeLine/\∀ p,H p=none->Q (.ref p) (upd H p (.lst (xs++zs)))
theorem op_cat:OpR X (binaryOp .Add) rCat:=by
 intro pins s σ H x y v u Q I rx ry h
 obtain ⟨l,b,xs,zs,rfl,rfl,hH,hB,hz,q⟩:=h
 cases rx
 cases ry
 obtain ⟨z,its,n,r,hl,e⟩:=I.lstM hH
 obtain ⟨z2,its2,n2,r2,hl2,e2⟩:=I.lstM hB
 refine PySem.P.add_list e e2 ?_ (by rw [List.size_toArray,List.size_toArray]; omega)
 have ea:its.toArray++its2.toArray=(its++its2).toArray:=by simp
 rw [ea]
 exact ⟨.ref _,_,I.lnew (t':=s.toks) (r.append r2) (by rw [List.length_append]; omega),rfl,q _ I.fresh⟩
def rRep:R2:=fun x y H Q=>∃ l k xs,x=.ref l/\y=.int k/\H l=some (.lst xs)/\-(2 ^ 63)<=k/\k < 2 ^ 63/\xs.length*k.toNat<=sizeLine /\
 ∀ p,H p=none->Q (.ref p) (upd H p (.lst (List.replicate k.toNat xs).flatten))
theorem len_rep {α:Type} (xs:List α) (k:Nat):(List.replicate k xs).flatten.length=k*xs.length:=by
 induction k with
 | zero=>simp
 | succ k ih=>rw [List.replicate_succ,List.flatten_cons,List.length_append,ih,Nat.succ_mul,Nat.add_comm]
theorem op_rep:OpR X (binaryOp .Mult) rRep:=by
 intro pins s σ H x y v u Q I rx ry h
 obtain ⟨l,k,xs,rfl,rfl,hH,h1,h2,hz,q⟩:=h
 cases rx
 obtain ⟨t,rfl⟩:=ry
 obtain ⟨z,its,n,r,hl,e⟩:=I.lstM hH
 have hlen:its.toArray.size*k.toNat<=sizeLine:=by rw [List.size_toArray,← hl]; exact hz
 have hcap:¬ its.toArray.size*k.toNat > (2 ^ 63 - 1) / 8:=by
  have:(sizeLine:Nat)<=(2 ^ 63 - 1) / 8:=by decide
  omega
 have hfit:¬ (!Builtin.List.listFitsIndex k)=true:=by
  rw [fitsIndex_both h1 h2]
  exact Bool.false_ne_true
 have hlong:¬ Builtin.List.listTooLong (its.toArray.size*k.toNat)=true:=by
  rw [notLongL hlen]
  exact Bool.false_ne_true
 have hnew:List.foldl (fun x1 x2=>x1++x2) #[] (List.replicate (if its.toArray.isEmpty=true then 0 else k.toNat) its.toArray)=(List.replicate k.toNat its).flatten.toArray:=by
  have f0:∀ m:Nat,List.foldl (fun x1 x2=>x1++x2) #[] (List.replicate m its.toArray)=(List.replicate m its).flatten.toArray:=fun m=>by
   have:=foldl_rep its m []
   rw [List.nil_append] at this
   exact this
  rw [f0]
  cases its with
  | nil=>simp
  | cons a r'=>rw [if_neg (by simp)]
 refine wpAny_binaryOp_repeat_ref (T := "list") (U := "int") (by decide) ⟨_,e,rfl⟩ (fun s'=>typeIs_int s' k t) noFill_list_mul F.fills_int_mul F.slot_int_rmul repeat_list F.slot_int_index.lookup
  (call_meets F.slot_int_rmul (typeIs_int s k t) F.entry_int_rmul (F.args_int_rmul_2 _ _) (int___rmul___int_list k t l its.toArray n)
   ⟨e,rfl,⟨_,e,rfl⟩,call_meets F.slot_list_mul ⟨_,e,rfl⟩ F.entry_list_mul (F.args_list_mul_2 _ _) (AutoListH.list___mul___list_int_3 l its.toArray n k t hfit hcap hlong) ⟨e,?_⟩⟩)
 rw [hnew]
 exact ⟨.ref _,_,I.lnew (t':=s.toks) (r.rep k.toNat) (by rw [len_rep,Nat.mul_comm]; exact hz),rfl,q _ I.fresh⟩
end
end L2
namespace Att
open PySem PySem.W PySem.Calls PyProof.Rows
theorem ints_of_wellAll {P:Params} {h:Heap}:∀ (ns:List Int) (vs:List Value),WellAll P h vs (ns.map WData.int)->IntsAre vs ns:=by
 intro ns
 induction ns with
 | nil =>
   intro vs w
   rw [List.map_nil] at w
   cases w
   exact .nil
 | cons n ns ih =>
   intro vs w
   rw [List.map_cons] at w
   cases w with
   | cons a b =>
     cases a
     exact .cons _ _ (ih _ b)
theorem script_of {l:OpenLaw} {n:Nat} (hn:l.most=some n) {P:Params} {h:Heap} {args:List WData} {vals:List Value}
 (hpre:l.row.toRowW.claim.pre args=true) (hwl:WellAll P h vals args) :
 ∃ a vs ns,vals=[Value.ref a]/\args=[WData.list (ns.map WData.int)]/\h.get? a=some { cls:=.type "list", data:=.seq vs.toArray }/\IntsAre vs ns/\ns.length<=n:=by
 have hsh:WShape.hasAll [] args [.list .int]=true:=(pre_splitW hpre).1
 have hc:l.pre.holds [] { args:=args }=true:=(pre_splitW hpre).2
 obtain ⟨d,r,rfl,h1,h2⟩:=hasAllW_cons hsh
 obtain rfl:=hasAllW_nil h2
 obtain ⟨xs,rfl,h3⟩:=hasW_list h1
 obtain ⟨ns,rfl⟩:=items_int h3
 have hlen:ns.length<=n:=by
  unfold OpenLaw.pre at hc
  have h4:(WTm.not (.lt (.lit (.int (n:Int))) (.len (.arg 0)))).holds [] { args:=[.list (ns.map .int)] }=true:=by
   have h4:=(holds_andW hc).1
   rw [hn] at h4
   exact h4
  have h5:=condW_of h4 (w_not (w_lt w_lit (w_len_list (w_arg rfl))))
  rw [List.length_map] at h5
  refine Nat.le_of_not_lt fun q=>?_
  have q':(n:Int) < ((ns.length:Nat):Int):=by omega
  first
   | (rw [decide_eq_true q'] at h5; exact absurd h5 (by decide))
   | (simp at h5; omega)
 cases hwl with
 | cons w1 w2 =>
   cases w2
   cases w1 with
   | list ho hall=>exact ⟨_,_,ns,rfl,rfl,ho,ints_of_wellAll ns _ hall,hlen⟩
theorem post_true (l:OpenLaw) (args:List WData):l.row.toRowW.claim.post args (.bool true) args=true :=
 postW_of (r:=l.row.toRowW) (X:=(true == true))
  (show WShape.has [] (.bool true) .bool=true by first | rfl | decide | simp [WShape.has,WShape.arms,WShape.armsAll])
  (show (WTm.eq .res (.lit (.bool true))).value [] { args:=args,res:=some (.bool true),after:=args }=some (.bool (true == true)) from w_eq_bool (w_res rfl) w_lit) rfl
theorem attach_call {l:OpenLaw} {n:Nat} {q:Program} {loose:List Str} {XP:(Str->Option Value)->Heap->Prop} {YP:World->Heap->Prop} {d:DefRec}
 (hn:l.most=some n) (hdf:d.params.defaults=[])
 (call:∀ (w:World) (s₀ s₁:Shared) (mg mb:Str->Option Value) (fa:Addr) (o:Obj) (pm cd doc:Value) (a:Addr) (vs:List Value) (ns:List Int),
  Ground q loose [] XP w s₀ mg mb s₁.heap->YP w s₁.heap ->
  s₁.heap.get? fa=some o->o.data=.func (docDef d.name d.params d.body d.scope pm cd doc)->s₁.heap.CodeRec cd d.name->mg d.name=some (.ref fa) ->
  s₁.heap.get? a=some { cls:=.type "list", data:=.seq vs.toArray }->IntsAre vs ns->ns.length<=n->s₁.gens=#[] ->
  codeAny (model l.prog w) callerA (.call (.ref fa) ⟨[.ref a],[]⟩) (fun r s'=>r=.ok (.ret (.bool true))/\OldK s₁.heap s'.heap/\s'.os=s₁.os/\AllBare s'.gens) s₁) :
 WalkO q loose XP YP l.row.toRowW d [] (fun f vs=>PySem.call f vs):=by
 intro w s₀ s₁ mg mb G Y fa o pm cd doc dV kV ho hd hcd hD hmg hg args vals as hpre hlay hrd hwl hlo
 obtain rfl:dV=.none:=Dflts.none hD hdf
 obtain rfl:kV=.none:=Dflts.noKw hD
 obtain ⟨a,vs,ns,rfl,rfl,hobj,hints,hlen⟩:=script_of hn hpre hwl
 refine enter_call (codeAny_mono (call w s₀ s₁ mg mb fa o pm cd doc a vs ns G Y ho (fd_plain hd) hcd hmg hobj hints hlen hg) fun r s' hq=>?_)
 obtain ⟨rfl,h2,h3,h4⟩:=hq
 exact ⟨.inl ⟨.bool true,.bool true,[],rfl,fun _=>rfl,.bool true,post_true l _,fun _=>⟨List.Pairwise.nil,fun _ hm=>(nomatch hm)⟩⟩,h2,h3,h4⟩
end Att
namespace L2
open PySem PySem.Spec PyProof.Rows
theorem vals_ints:∀ {vs:List Value} {ns:List Int},IntsAre vs ns->Vals (ns.map V.int) vs
 | _,_,.nil=>.nil
 | _,_,.cons n t h=>.cons ⟨t,rfl⟩ (vals_ints h)
def Only (H:Hp):Prop:=∀ b,H b=none∨∃ o xs,H b=some (.frz o (.lst xs))
theorem law_call {P:Program} {w:World} {K:W.Frag} {mg mb:Str->Option Value} {CX:CXT} {k:Nat} {fa a:Addr} {fd:FuncData} {x:Str} {sp:Sp} {s₁:Shared} {vs:List Value} {ns:List Int}
 (KX:K.In s₁.heap) (hns:s₁.heap.Ns mainGlobals mg) (hb:s₁.heap.Ns builtinsNs mb) (hbb:∀ x:Str,x ≠ "__name__" -> mb x=bootBuiltins x) (hlim:s₁.heap.NoLimit) (hg:s₁.gens=#[])
 (ha:s₁.heap.get? a=some { cls:=.type "list", data:=.seq vs.toArray }) (hi:IntsAre vs ns) (hl:ns.length<=sizeLine) (hr:Room k callerA)
 (F:∀ base:Heap,K.In base->base.Ns mainGlobals mg->FnOk P w K mg base CX k fa fd [x] sp) (hbind:∀ (s:Shared) (u:Value),BindsTo s fd ⟨[u],[]⟩ [(x,u)])
 (hsp:∀ H:Hp,Only H->SqL K H a (ns.map V.int)->sp [.ref a] H (fun v _=>v=.bl true) fun _ _ _=>False)
 (hCX:∀ H e s',CX [] H s₁ (fun _ _ _=>False) e s'->False) :
 codeAny (model P w) callerA (.call (.ref fa) ⟨[.ref a],[]⟩) (fun r s'=>r=.ok (.ret (.bool true))/\OldK s₁.heap s'.heap/\s'.os=s₁.os/\AllBare s'.gens) s₁:=by
 have rv:=vals_ints hi
 have lenV:=hi.length
 have core:∀ H:Hp,Only H->SqL K H a (ns.map V.int)->HOk P w H s₁.heap->(∀ b,H b ≠ none->b=a)->(H a ≠ none->K.lookup a=none) ->
  codeAny (model P w) callerA (.call (.ref fa) ⟨[.ref a],[]⟩) (fun r s'=>r=.ok (.ret (.bool true))/\OldK s₁.heap s'.heap/\s'.os=s₁.os/\AllBare s'.gens) s₁:=by
  intro H hO hS hok hA hK
  have base_of:∀ {b:Addr} {o:Obj},s₁.heap.get? b=some o->H b=none->(hidT s₁.heap H).get? b=some o:=fun e n=>hidT_get e n
  have noA:∀ {b:Addr} {o:Obj} {es:Array DictEntry} {ep:Nat},s₁.heap.get? b=some o->o.data=.dict es ep->H b=none:=fun {b o es ep} e d=>by
   cases q:H b with
   | none=>rfl
   | some u =>
     have e':b=a:=hA b (by rw [q]; simp)
     subst e'
     rw [ha] at e; cases e
     have d':Data.seq vs.toArray _=Data.dict es ep:=d
     cases d'
  have nsK:∀ {b:Addr} {m:Str->Option Value},s₁.heap.Ns b m->(hidT s₁.heap H).Ns b m:=fun {b m} ⟨o,es,ep,e,d,r⟩=>⟨o,es,ep,base_of e (noA e d),d,r⟩
  have hKb:K.In (hidT s₁.heap H):=fun b o e=>base_of (KX b o e) (by
   cases q:H b with
   | none=>rfl
   | some u =>
     have e':b=a:=hA b (by rw [q]; simp)
     subst e'
     rw [hK (by rw [q]; simp)] at e; cases e)
  have hM:Mod K mg (hidT s₁.heap H):=⟨hKb,nsK hns,⟨mb,nsK hb,hbb⟩,let ⟨mc,h1,h2⟩:=hlim; ⟨mc,nsK h1,h2⟩⟩
  have e0:Env0 P w K mg (hidT s₁.heap H) callerA [] s₁ H:=⟨rfl,hM,fun b o e=>of_hidT e,Nat.le_of_eq (hidT_size _ _),trivial,fun b hb=>absurd (show b ∈ ([]:List Addr) from hb) (by simp),hok,.of_eq hg⟩
  refine codeAny_mono ((F _ hKb (nsK hns)).run callerA [] s₁ H ⟨[.ref a],[]⟩ [.ref a] [.ref a] _ _ hr e0 (hbind s₁ (.ref a)) (.cons rfl .nil) (hsp H hO hS)) fun r s' h=>?_
  cases r with
  | error e=>exact (hCX H e s' h).elim
  | ok fl =>
    cases fl with
    | next=>exact False.elim h
    | brk=>exact False.elim h
    | cont=>exact False.elim h
    | ret u =>
      obtain ⟨v,H',os,bare,un,hok',r',q⟩:=h
      have q':v=.bl true:=q
      subst q'
      obtain rfl:u=Value.bool true:=r'
      refine ⟨rfl,OldK.of_keep fun b o e=>?_,os,bare⟩
      cases q:H b with
      | none=>exact un.keep b o e q (by intro z; exact absurd (show b ∈ ([]:List Addr) from z) (by simp)) (by simp)
      | some u =>
        rcases hO b with z | ⟨ob,xs,z⟩
        . rw [q] at z; cases z
        . have z2:=un.frzs b ob _ z
          obtain ⟨e1,_⟩:=hok b _ z
          obtain ⟨e2,_⟩:=hok' b _ z2
          rw [e] at e1; cases e1
          exact e2
 cases hk:K.lookup a with
 | some o =>
   have e:=KX a o hk
   rw [ha] at e
   cases e
   refine core (fun _=>none) (fun _=>.inl rfl) (.inr ⟨_,vs.toArray,_,hk,rfl,rfl,rfl,by rw [List.size_toArray,lenV]; exact hl,by simpa using rv⟩) (fun b u z=>by have z':(none:Option HO)=some u:=z; cases z') (fun b z=>absurd rfl z) fun z=>absurd rfl z
 | none =>
   refine core (fun b=>if b=a then some (.frz { cls:=.type "list", data:=.seq vs.toArray } (.lst (ns.map V.int))) else none) (fun b=>?_) (.inl (.inr ⟨{ cls:=.type "list", data:=.seq vs.toArray },if_pos rfl⟩)) (fun b u z=>?_) (fun b z=>?_) fun _=>hk
   . by_cases hb:b=a
     . exact .inr ⟨_,_,if_pos hb⟩
     . exact .inl (if_neg hb)
   . by_cases hb:b=a
     . have z':=(if_pos hb).symm.trans z
       cases z'
       subst hb
       exact ⟨ha,by rw [List.length_map]; exact hl,vs,_,rv,ha⟩
     . have z':=(if_neg hb).symm.trans z
       cases z'
   . by_cases hb:b=a
     . exact hb
     . exact absurd (if_neg hb) z
theorem walk_of {l:PySem.W.OpenLaw} {n k:Nat} {q:Program} {loose:List Str} {XP:(Str->Option Value)->Heap->Prop} {YP:World->Heap->Prop} {d:DefRec} {K:Params->PySem.W.Frag} {CX:World->CXT} {sp:World->Sp} {x:Str}
 (hn:l.most=some n) (hn2:n<=sizeLine) (hdf:d.params.defaults=[]) (hr:Room k callerA)
 (hY:∀ (w:World) (h:Heap),YP w h->(K w.params).In h)
 (F:∀ (w:World) (mg:Str->Option Value) (fa:Addr) (h:Heap),(K w.params).In h->h.Ns mainGlobals mg->mg d.name=some (.ref fa) ->
  ∃ fd:FuncData,(∀ (s:Shared) (u:Value),BindsTo s fd ⟨[u],[]⟩ [(x,u)]) /\
   ∀ base:Heap,(K w.params).In base->base.Ns mainGlobals mg->FnOk l.prog w (K w.params) mg base (CX w) k fa fd [x] (sp w))
 (hsp:∀ (w:World) (H:Hp) (a:Addr) (ns:List Int),ns.length<=n->Only H->SqL (K w.params) H a (ns.map V.int)->sp w [.ref a] H (fun v _=>v=.bl true) fun _ _ _=>False)
 (hCX:∀ (w:World) (H:Hp) (s:Shared) (e:Value) (s':Shared),CX w [] H s (fun _ _ _=>False) e s'->False) :
 PySem.W.WalkO q loose XP YP l.row.toRowW d [] (fun f vs=>PySem.call f vs):=by
 refine Att.attach_call hn hdf fun w s₀ s₁ mg mb fa o pm cd doc a vs ns G Y ho hd hcd hmg hobj hints hlen hg=>?_
 have KX:=hY w _ Y
 obtain ⟨fd,hb,hF⟩:=F w mg fa _ KX G.T.g hmg
 exact law_call KX G.T.g G.T.b G.T.builtins G.T.nolimit hg hobj hints (Nat.le_trans hlen hn2) hr hF hb (fun H hO hS=>hsp w H a ns hlen hO hS) fun H e s'=>hCX w H s₁ e s'
end L2
/- THE LAST THEOREM (shape; LID,My.* are yours):
 My.Adr: a structure of the addresses that your layer names (classes,functions); My.Txt K t: a structure (Prop) of the equations over K;
 My.txt_mk:{K} {implicit addresses ..} (e1:nsIn K mainGlobals "law" = some (some (.ref f))) (e2:K.lookup f=some ⟨oc,od,.func (fnOf "law" "law" params body scope dV kV doc pm an cdv ct),sl⟩) (e3:codeIn K cdv "law" = true) ..:∃ t,My.Txt K t
set_option maxRecDepth 100000 in
set_option maxHeartbeats 0 in
theorem PySem.Challenge.cw_LID_holds : PySem.Challenge.rw_LID.Holds := by
 w_on; o_law; k_head; (case hw=>w_witness2)
 k_fill
 refine L2.walk_of (l:=PySem.Challenge.rw_LID) (n:=63) (k:=40) (x := "script") (CX:=fun w=>..) (sp:=fun _=>My.sp_law) rfl (by decide) rfl ⟨rfl,by decide,by decide⟩ (fun w h Y=>PySem.W.kIn_of Y) ?F ?S ?C
 case F =>
  intro w mg fa h KX G hmg
  have T:∃ t,My.Txt (L2.KOf KX) t:=by
   dsimp only [L2.KOf]                          -- K must stand as «<heap const> w.params» for k_is
   refine' My.txt_mk ?e1 ?e2 ?e3 ..
   (case e1=>PySem.W.k_is)                    -- in the order: a name -> its address -> its object -> its parts
   (case e2=>PySem.W.k_is)
   ..
  obtain ⟨t,T⟩:=T
  have e0:=hmg.symm.trans (PySem.W.mg_of KX G T.law)
  cases e0                                       -- fa is the law's own address
  exact ⟨_,fun s u=>.of_eq rfl,fun base kb nb=>My.law_fn T kb nb⟩     -- if «.of_eq rfl» comes too early: refine' ⟨_,?b,fun base kb nb=>My.law_fn T kb nb⟩; exact fun s u=>.of_eq rfl
 case S=>exact fun w H a ns hl hO hS=>..
 case C=>exact ..
(the tactic k_is has no namespace: write k_is) -/
namespace L2
open PySem PySem.Spec PyProof.Rows
def bV (s:Stmt) (j:Nat):Stmt:=match s with
 | .ClassDef _ _ _ body _ _ _ _ _ _ _=>body.getD j (.Pass ⟨0,0,0,0⟩)
 | _=>.Pass ⟨0,0,0,0⟩
def az (s:Stmt):Arguments:=match s with
 | .FunctionDef _ a _ _ _ _ _ _ _ _=>a
 | _=>{ posonlyargs:=[],args:=[],vararg:=none,kwonlyargs:=[],kw_defaults:=[],kwarg:=none,defaults:=[] }
def ay (s:Stmt):List Stmt:=match s with
 | .FunctionDef _ _ b _ _ _ _ _ _ _=>b
 | _=>[]
def af (s:Stmt):Scope:=match s with
 | .FunctionDef _ _ _ _ _ _ sc _ _ _=>sc
 | _=>{ kind:=.function,names:=[],isGenerator:=false,isCoroutine:=false }
abbrev CX0:CXT:=fun _ _ _ _ _ _=>False
abbrev E0:XK:=fun _ _ _=>False
theorem bF {X:Cx}:Passes CX0 X E0:=fun _ _ _ _ _ _ _ h=>h.elim
structure Fun (K:W.Frag) (x qual:Str) (st:Stmt) (f:Addr) (fd:FuncData):Prop where
 ex:∃ (oc:Value) (od:Option Addr) (kV doc pm:Value) (an:Option Addr) (cdv ct:Value) (osl:Array (Option Value)),
  fd=PySem.W.fnOf x qual (az st) (ay st) (af st) .none kV doc pm an cdv ct/\K.lookup f=some ⟨oc,od,.func fd,osl⟩/\PySem.W.codeIn K cdv qual=true
 kp:PySem.W.keepIn K (.ref f)=true
section
variable {P:Program} {w:World} {K:W.Frag} {mg:Str->Option Value} {base:Heap}
theorem Fun.ok {x qual:Str} {st:Stmt} {f:Addr} {fd:FuncData} {N ps:List Str} {k:Nat} {sp:Sp} (F:Fun K x qual st f fd) (S:FnScope N ps (af st)) (len:∀ vs H Q E,sp vs H Q E->vs.length=ps.length)
 (hbody:∀ (cdv:Value) (A:Around) (outer:List Env) (s:Shared) (H:Hp) (vs:List V) (Q:VK) (E:XK),Room k (A.deeper (envOfC qual (af st) s.heap.objs.size f cdv))->sp vs H Q E ->
  ∃ t,PSs (cxOf CX0 P w K mg base N qual (af st) f cdv A outer s H E).nox (ay st) t/\t { nx:=fun _ H'=>Q .non H',rt:=Q } (start N vs) H):FnOk P w K mg base CX0 (k+1) f fd ps sp:=by
 obtain ⟨oc,od,kV,doc,pm,an,cdv,ct,osl,rfl,lk,hcd⟩:=F.ex
 refine fn_of lk hcd S len fun A outer s H vs Q E hr hsp=>?_
 obtain ⟨t,h,q⟩:=hbody cdv A outer s H vs Q E hr hsp
 exact ⟨t,h.nox,q⟩
theorem Fun.binds {x qual:Str} {st:Stmt} {f:Addr} {fd:FuncData} {ps:List Str} (F:Fun K x qual st f fd)
 (h:∀ (kV doc pm:Value) (an:Option Addr) (cdv ct:Value) (us:List Value),us.length=ps.length->bindArgs (PySem.W.fnOf x qual (az st) (ay st) (af st) .none kV doc pm an cdv ct) ⟨us,[]⟩=pure (ps.zip us)):Binds K fd ps []:=by
 obtain ⟨oc,od,kV,doc,pm,an,cdv,ct,osl,rfl,lk,hcd⟩:=F.ex
 exact .all (h kV doc pm an cdv ct)
theorem aM {x qual:Str} {st:Stmt} {f:Addr} {oc:Value} {od an:Option Addr} {osl:Array (Option Value)} {kV doc pm cdv ct:Value} (l:K.lookup f=some ⟨oc,od,.func (PySem.W.fnOf x qual (az st) (ay st) (af st) .none kV doc pm an cdv ct),osl⟩)
 (c:PySem.W.codeIn K cdv qual=true) (k:PySem.W.keepIn K (.ref f)=true):Fun K x qual st f (PySem.W.fnOf x qual (az st) (ay st) (af st) .none kV doc pm an cdv ct):=⟨⟨oc,od,kV,doc,pm,an,cdv,ct,osl,rfl,l,c⟩,k⟩
end
theorem hu_of {A:Around} {k:Nat} (hr:Room k A):A.units+1 < cLine:=Nat.lt_of_le_of_lt (Nat.add_le_add_left (by decide:1<=64) _) hr.units
theorem aS {n:Nat} (h:n<=1000):n < sizeLine:=Nat.lt_of_le_of_lt h (by decide)
section
variable {X:Cx}
theorem pv (i:Nat) {x:Str} {pos:Pos} (hN:X.N[i]?=some x:=by rfl) (hv:Vis X.env.scope x:=by first | exact Or.inl rfl | exact Or.inr (Or.inl rfl) | exact Or.inr (Or.inr rfl)) (hd:(x == ("__debug__" : Str))=false:=by decide)
 (hcd:(x == ("__classdict__" : Str))=false:=by decide):PE X (.Name x pos) (tVar i):=pe_var hN hv hd hcd
end
theorem iteF {A B:Prop} (h:B):if false=true then A else B:=by
 rw [if_neg Bool.false_ne_true]
 exact h
theorem iteT {A B:Prop} (h:A):if true=true then A else B:=by
 rw [if_pos rfl]
 exact h
theorem ite2 {c A B:Prop} [Decidable c] (h1:c->A) (h2:¬ c->B):if c then A else B:=by
 by_cases h:c
 . rw [if_pos h]
   exact h1 h
 . rw [if_neg h]
   exact h2 h
theorem iteNS {c A B:Prop} [Decidable c] (hc:c) (h:B):if (!decide c)=true then A else B:=by
 rw [decide_eq_true hc]
 exact iteF h
def Same (H H':Hp):Prop:=∀ b o,H b=some o->H' b=some o
theorem Same.refl (H:Hp):Same H H:=fun _ _ h=>h
theorem Same.trans {H H1 H2:Hp} (a:Same H H1) (b:Same H1 H2):Same H H2:=fun c o h=>b c o (a c o h)
theorem Same.free {H H':Hp} (e:Same H H') {l:Addr} (h:H' l=Option.none):H l=Option.none:=by
 cases q:H l with
 | none=>rfl
 | some o =>
   rw [e l o q] at h
   cases h
theorem Same.seq {K:W.Frag} {H H':Hp} {a:Addr} {xs:List V} (e:Same H H') (h:SqL K H a xs):SqL K H' a xs:=by
 rcases h with (h | ⟨o,h⟩) | h
 . exact .inl (.inl (e _ _ h))
 . exact .inl (.inr ⟨o,e _ _ h⟩)
 . exact .inr h
end L2
set_option maxHeartbeats 4000000
namespace L2
open PySem PySem.Spec PyProof.Rows
section
variable {X:Cx}
theorem call_isinst:CallR X (.builtin "isinstance") (fun xs H Q=>∃ x t n b,xs=[x,.ty n]/\TyOf X.K H x t/\PySem.W.kitOne X.K t (.type n)=some b/\Q (.bl b) H):=by
 intro pins s σ H xs us Q I r h
 obtain ⟨x,t,n,b,rfl,ty,e,q⟩:=h
 obtain ⟨u,w',rfl,r1,r2⟩:=vals2 r
 cases r2
 exact isinst_ok I r1 ty e (fun tk=>⟨.bl b,H,I.tok tk,rfl,q⟩)
theorem kit_self (K:W.Frag) (n:String):PySem.W.kitOne K (.type n) (.type n)=some true:=by
 unfold PySem.W.kitOne
 rw [if_pos (by simp)]
theorem kit_int_bool (K:W.Frag):PySem.W.kitOne K (.type "int") (.type "bool")=some false:=by
 show (if ((Value.type "int" == Value.type "bool")=true) then some true else if PySem.W.kitMeta "bool" = true then ((fastBuiltinMro "int").map (·.contains (.type "bool"))) else none)=some false
 decide +kernel
def CDivL (_ j:Int):Prop:=0 < j/\j < 2 ^ 63
theorem op_fdivL:OpR X (binaryOp .FloorDiv) (rI CDivL fun i j=>.int (i / j)):=opI fun i j _ _ _ _ _ hc q=>by
 have e:Int.fdiv i j=i / j:=Int.fdiv_eq_ediv_of_nonneg i (Int.le_of_lt hc.1)
 rw [← e] at q
 refine floordiv_int (by have:=hc.1; omega) q (.inl (PyProof.noPylong_of_log2 ?_))
 have h1:=hc.1
 have h2:=hc.2
 have h3:j.natAbs < 2 ^ 63:=by omega
 have h4:=(Nat.log2_lt (n:=j.natAbs) (k:=63) (by omega)).mpr h3
 omega
end
theorem boot_int':bootBuiltins "int" = some (.type "int"):=by decide +kernel
theorem boot_bool':bootBuiltins "bool" = some (.type "bool"):=by decide +kernel
theorem boot_list':bootBuiltins "list" = some (.type "list"):=by decide +kernel
theorem bZ:bootBuiltins "tuple" = some (.type "tuple"):=by decide +kernel
theorem boot_reversed':bootBuiltins "reversed" = some (.type "reversed"):=by decide +kernel
structure Cal (P:Program) (w:World) (K:W.Frag) (mg:Str->Option Value) (base:Heap) (n:Nat) (x:Str) (ps:List Str) (sp:Sp):Prop where
 ex:∃ (f:Addr) (fd:FuncData),FnOk P w K mg base CX0 n f fd ps sp/\Binds K fd ps []/\PySem.W.keepIn K (.ref f)=true/\mg x=some (.ref f)
theorem aE {X:Cx} {n k:Nat} {x:Str} {ps:List Str} {sp:Sp} {e:Expr} {es:List Expr} {t:TA} {p pos:Pos} (C:Cal X.prog X.w X.K X.mg X.base n x ps sp) (hr:Room k X.A) (hk:n<=k) (hg:Gl X x)
 (ha:PA X (e::es) t) (hdb:(x == ("__debug__" : Str))=false:=by decide) (he:starEach (e::es) X.env=(false,eval e X.env)::starEach es X.env:=by rfl) (hpl:(backTo pos (starEach es X.env)).any (·.1)=false:=by rfl) :
 PE X (.Call (.Name x p) (e::es) [] pos) (tCall sp [] E0 t):=by
 obtain ⟨f,fd,F,b,kp,m⟩:=C.ex
 exact pe_call F (hr.mono hk) hg m kp b .nil bF ha hdb he hpl
theorem Cal.of {P:Program} {w:World} {K:W.Frag} {mg:Str->Option Value} {base:Heap} {n:Nat} {x qual:Str} {ps:List Str} {sp:Sp} {st:Stmt} {f:Addr} {fd:FuncData} (F:Fun K x qual st f fd) (O:FnOk P w K mg base CX0 n f fd ps sp) (m:mg x=some (.ref f))
 (h:∀ (kV doc pm:Value) (an:Option Addr) (cdv ct:Value) (us:List Value),us.length=ps.length->bindArgs (PySem.W.fnOf x qual (az st) (ay st) (af st) .none kV doc pm an cdv ct) ⟨us,[]⟩=pure (ps.zip us)):Cal P w K mg base n x ps sp :=
 ⟨f,fd,O,F.binds h,F.kp,m⟩
theorem iteN {c A B:Prop} [Decidable c] (hc:¬ c) (h:A):if (!decide c)=true then A else B:=by
 rw [decide_eq_false hc]
 exact iteT h
theorem cS {c A B:Prop} [Decidable c] (hc:c) (h:A):if decide c=true then A else B:=by
 rw [decide_eq_true hc]
 exact iteT h
theorem bd {c A B:Prop} [Decidable c] (hc:¬ c) (h:B):if decide c=true then A else B:=by
 rw [decide_eq_false hc]
 exact iteF h
def SameBut (f:Addr) (H H':Hp):Prop:=∀ b o,b ≠ f->H b=some o->H' b=some o
theorem SameBut.trans {f:Addr} {H H1 H2:Hp} (a:SameBut f H H1) (b:SameBut f H1 H2):SameBut f H H2:=fun c o h e=>b c o h (a c o h e)
theorem SameBut.refl (f:Addr) (H:Hp):SameBut f H H:=fun _ _ _ h=>h
theorem SameBut.of {f:Addr} {H H':Hp} (h:Same H H'):SameBut f H H':=fun b o _ e=>h b o e
theorem SameBut.upd {f:Addr} {H:Hp} (o:HO):SameBut f H (upd H f o):=fun b u h e=>by rw [ax h]; exact e
theorem Same.new {H:Hp} {p:Addr} (h:H p=none) (o:HO):Same H (upd H p o):=fun b u q=>by rw [ax (ai q h)]; exact q
theorem Same.but {f:Addr} {H0 H H':Hp} (a:Same H0 H) (n:H0 f=none) (b:SameBut f H H'):Same H0 H':=fun c o e=>b c o (ai e n) (a c o e)
def FeedAt (H:Hp) (f:Addr):Prop:=∃ own st:Int,H f=some (.lst [.int own,.int st])/\0<=own/\0<=st/\st<=2147483646
theorem FeedAt.ne {H:Hp} {f b:Addr} (F:FeedAt H f) (h:H b=none):b ≠ f:=by
 obtain ⟨o,s,e,_⟩:=F
 intro z
 subst z
 rw [h] at e
 cases e
theorem FeedAt.same {H H':Hp} {f:Addr} (F:FeedAt H f) (s:Same H H'):FeedAt H' f:=by
 obtain ⟨o,t,e,h⟩:=F
 exact ⟨o,t,s _ _ e,h⟩
def spTake:Sp:=fun vs H Q _=>∃ (f:Addr) (m:Int),vs=[.ref f,.int m]/\FeedAt H f/\0 < m/\m < 2 ^ 63/\∀ (d:Int) (H':Hp),0<=d->d < m->FeedAt H' f->SameBut f H H'->Q (.int d) H'
def spFeed (K:W.Frag):Sp:=fun vs H Q _=>∃ (a:Addr) (ns:List Int) (k:Int),vs=[.ref a,.int k]/\SqL K H a (ns.map V.int)/\ns.length<=63/\0<=k/\k < 1000000/\∀ (p:Addr) (H':Hp),H p=none->Same H H'->FeedAt H' p->Q (.ref p) H'
def spLaw (K:W.Frag):Sp:=fun vs H Q _=>∃ (a:Addr) (ns:List Int),vs=[.ref a]/\SqL K H a (ns.map V.int)/\ns.length<=63/\∀ H',Q (.bl true) H'
theorem dN {n:Nat} (h:n<=1000):n<=sizeLine:=Nat.le_of_lt (aS h)
theorem at_int {ns:List Int} {k:Int} (h0:0<=k) (h:k < (ns.length:Int)):∃ v:Int,atI (ns.map V.int) k=some (.int v):=by
 have hk:k.toNat < ns.length:=by omega
 have q:atI (ns.map V.int) ((k.toNat:Nat):Int)=some (.int ns[k.toNat]):=cL (by rw [List.getElem?_map,List.getElem?_eq_getElem hk] <;> rfl)
 have ek:((k.toNat:Nat):Int)=k:=by omega
 rw [ek] at q
 exact ⟨_,q⟩
@[reducible] def dP (X:Cx) (N:List Str) (scope:Scope) (cl:List (Str × Addr)) (s:Shared) (H:Hp) (fp:List Addr):Cx where
 prog:=X.prog
 w:=X.w
 K:=X.K
 mg:=X.mg
 base:=X.base
 A:=X.A
 N:=N
 s₀:=s
 H₀:=H
 env:=compEnvC scope cl s.heap.objs.size X.env
 outer:=X.stack
 stack:=X.stack
 ex:=fp
 fn:=fun _=>false
 calm:=X.calm
 pn:=[]
 xe:=fun _ _=>False
structure CompScope (X:Cx) (x:Str) (N:List Str) (ix:List Nat) (scope:Scope) (cl:List (Str × Addr)):Prop where
 clos:closureFor scope X.env=pure cl
 nocell:∀ y ∈ scope.names,y.2 ≠ .cell
 kind:scope.kind=.function
 names:∀ y ∈ scope.names,y.2=.local->scope.names.lookup y.1=some .local
 own:scope.names.lookup x=some .local
 nd:(x::N).Nodup
 sub:∀ p ∈ cl,X.env.cells.lookup p.1=some p.2
 has:((relabel scope X.env).names.all fun p=>!(p.2 == .cell || p.2 == .free) || (cl.lookup p.1).isSome)=true
 outs:∀ (j:Nat) (y:Str),N[j]?=some y->(relabel scope X.env).names.lookup y=some .cell/\∃ k c,ix[j]?=some k/\X.N[k]?=some y/\cl.lookup y=some c/\X.env.scope.names.lookup y=some .cell
def outs (ix:List Nat) (σ:St):St:=ix.map fun k=>(σ[k]?).join
section
variable {X:Cx} {pins:List (Addr × Obj)} {σ:St} {x:Str} {N:List Str} {ix:List Nat} {scope:Scope} {cl:List (Str × Addr)} {fp:List Addr} {H3:Hp} {s3:Shared}
theorem CompScope.cells (S:CompScope X x N ix scope cl) {y:Str} {c:Addr} (h:cl.lookup y=some c):X.env.cells.lookup y=some c:=S.sub _ (PySem.mem_of_lookup h)
theorem comp_cx (S:CompScope X x N ix scope cl) (I3:Inv X pins σ H3 s3) (hf:∀ b ∈ fp,FpOk X pins H3 b) (hlt:∀ b ∈ fp,b < s3.heap.objs.size):(dP X (x::N) scope cl s3 H3 fp).Ok where
 mod:=I3.ok.mod
 kind:=S.kind
 glob:=I3.ok.glob
 blt:=I3.ok.blt
 above:=Nat.le_refl _
 inj:=fun y z c h1 h2=>I3.ok.inj y z c (S.cells h1) (S.cells h2)
 has:=fun y hy=>by
  have q:=List.all_eq_true.mp S.has
  have hy:(relabel scope X.env).names.lookup y=some .cell∨(relabel scope X.env).names.lookup y=some .free:=hy
  have z:∀ k:NameKind,(k == .cell || k == .free)=true->(relabel scope X.env).names.lookup y=some k->∃ c,cl.lookup y=some c:=fun k hk e=>by
   have r:=q _ (PySem.mem_of_lookup e)
   rw [hk] at r
   exact Option.isSome_iff_exists.mp (by simpa using r)
  rcases hy with e | e
  . exact z _ (by rfl) e
  . exact z _ (by rfl) e
 cab:=fun _ _ h _=>nomatch h
 hd:=I3.ok.hd
 frames:=I3.ok.frames
 stk:=.inl rfl
 exf:=fun b hb=>⟨Nat.ne_of_lt (hlt b hb),fun y c e=>(hf b hb).2.2.2.2.1 y c (S.cells e)⟩
 bs:=fun b o e=>I3.bs b o e
 bsz:=Nat.le_trans I3.ok.bsz I3.sz
 noex:=fun b o e hb=>by
  rcases (hf b hb).2.2.2.1 with z | z
  . exact I3.ok.noex b o e z
  . exact absurd (Nat.lt_of_lt_of_le (Heap.lt_size e) (Nat.le_trans I3.ok.bsz z)) (Nat.lt_irrefl _)
 exfs:=fun b hb z=>by
  rcases List.mem_cons.mp (I3.stkSub b z) with e | e
  . exact (hf b hb).2.1 e
  . exact (hf b hb).2.2.1 e
 funs:=I3.stack
 frf:=I3.stkFree
theorem comp_start (S:CompScope X x N ix scope cl) (I3:Inv X pins σ H3 s3) (hf:∀ b ∈ fp,FpOk X pins H3 b) (hlt:∀ b ∈ fp,b < s3.heap.objs.size) (hix:ix.length=N.length) {h1:Heap} {t':Nat} {m:Str->Option Value}
 (hn:h1.Ns s3.heap.objs.size m) (hk:∀ b o,s3.heap.get? b=some o->h1.get? b=some o):Inv (dP X (x::N) scope cl s3 H3 fp) [] (none::outs ix σ) H3 { s3 with heap:=h1,toks:=t' } where
 ok:=comp_cx S I3 hf hlt
 os:=rfl
 bare:=I3.bare
 base:=Un.kept hk
 loc:=by
  refine ⟨m,hn,fun i y v h1' h2 h3=>?_⟩
  cases i with
  | zero =>
    have h2':(some (none:Option V))=some (some v):=h2
    cases h2'
  | succ j =>
    have h1'':N[j]?=some y:=h1'
    have h2':(outs ix σ)[j]?=some (some v):=h2
    obtain ⟨hr,k,c,e1,e2,e3,e4⟩:=S.outs j y h1''
    unfold outs at h2'
    rw [List.getElem?_map,e1] at h2'
    have h2'':(σ[k]?).join=some v:=Option.some.inj h2'
    have e5:σ[k]?=some (some v):=by
     cases q:σ[k]? with
     | none=>rw [q] at h2''; cases h2''
     | some o=>rw [q] at h2''; exact congrArg some h2''
    obtain ⟨m0,_,hl⟩:=I3.loc
    obtain ⟨u,r,l⟩:=hl k y v e2 e5 (.inr (.inl e4))
    refine ⟨u,r,.inr ⟨.inl hr,c,e3,?_⟩⟩
    rcases l with ⟨kk,_⟩ | ⟨_,c',ec,z⟩
    . have kk':X.env.scope.names.lookup y=some .local:=kk
      rw [e4] at kk'; cases kk'
    . rw [S.cells e3] at ec
      cases ec
      obtain ⟨o,ho,hd⟩:=z
      exact ⟨o,hk _ _ ho,hd⟩
 cell:=fun y c e=>by
  obtain ⟨v,o,ho,hd⟩:=I3.cell y c (S.cells e)
  exact ⟨v,o,hk _ _ ho,hd⟩
 free:=I3.hok.fresh (Nat.le_refl _)
 freeC:=fun y c e=>I3.freeC y c (S.cells e)
 pin:=fun p hp=>absurd (show p ∈ ([]:List (Addr × Obj)) from hp) (by simp)
 hok:=I3.hok.kept hk
 len:=by
  show (none::outs ix σ).length=(x::N).length
  rw [List.length_cons,List.length_cons]
  unfold outs
  rw [List.length_map,hix]
theorem comp_back (I3:Inv X pins σ H3 s3) (hf:∀ b ∈ fp,FpOk X pins H3 b) {σ':St} {H':Hp} {s':Shared} {h'':Heap} {N':List Str} (J:Inv (dP X N' scope cl s3 H3 fp) [] σ' H' s') (hb:Heap.SameBut s3.heap.objs.size s'.heap h'') :
 Inv X pins σ H' { s' with heap:=h'' }:=by
 have ne:∀ b o,s3.heap.get? b=some o->b ≠ s3.heap.objs.size:=fun b o e=>Nat.ne_of_lt (Heap.lt_size e)
 have B:Un (frs X.stack) fp H3 H' s3.heap s'.heap:=J.base
 refine I3.call' (s':={ s' with heap:=h'' }) (ch:=fp) J.os ⟨fun b o e n h1 h2=>(hb.2 b (ne b o e)).trans (B.keep b o e n h1 h2),fun b o e n h1 h2=>?_,B.free,fun b o e h2=>?_,B.tups,B.frzs,B.tbls⟩ (fun b ob e=>?_) J.bare (fun b z=>?_)
 . obtain ⟨sl,q⟩:=B.slot b o e n h1 h2
   exact ⟨sl,(hb.2 b (ne b o e)).trans q⟩
 . obtain ⟨o',q⟩:=B.there b o e h2
   exact ⟨o',(hb.2 b (ne b o e)).trans q⟩
 . have fr:H' s3.heap.objs.size=none:=J.free
   refine (J.hok b ob e).stay (fun c w' hc q=>(hb.2 c ?_).trans q) (fun _ q=>q) fun _ _ q=>q
   rintro rfl
   rcases hc with rfl | hc
   . rw [fr] at e; cases e
   . rw [fr] at hc; cases hc
 . obtain ⟨_,h2,_,h4,h5,h6⟩:=hf b z
   exact ⟨h4,h2,h5,h6⟩
end
abbrev TBl:=St->Hp->(Hp->Prop)->VK->Prop
def PB (X:Cx) (ifs:List Expr) (elt:Expr) (tb:TBl):Prop :=
 ∀ (pins:List (Addr × Obj)) (s:Shared) (σ:St) (H:Hp) (skip:Hp->Prop) (keep:VK),Inv X pins σ H s->tb σ H skip keep ->
  wpAny (model X.prog X.w) X.A (forIn ifs true fun c r=>if r=true then do let ok ← isTrue c X.env (eval c X.env); pure (ForInStep.yield ok) else pure (ForInStep.yield r))
   (fun ok s3=>if ok=true then wpAny (model X.prog X.w) X.A (eval elt X.env) (EP X pins σ keep) X.xe s3 else ∃ H',Inv X pins σ H' s3/\skip H') X.xe s
def tB0 (te:TE):TBl:=fun σ H _ keep=>te σ H keep
def tB1 (tc:TT) (te:TE):TBl:=fun σ H skip keep=>tc σ H fun b H1=>if b=true then te σ H1 keep else skip H1
theorem dq {X:Cx} {elt:Expr} {te:TE} (he:PE X elt te):PB X [] elt (tB0 te):=by
 intro pins s σ H skip keep I h
 refine wpAny_tests_nil ?_
 rw [if_pos rfl]
 exact he pins s σ H keep I h
theorem pb_if {X:Cx} {c elt:Expr} {tc:TT} {te:TE} (hc:PT X c tc) (he:PE X elt te):PB X [c] elt (tB1 tc te):=by
 intro pins s σ H skip keep I h
 refine wpAny_tests_one (thn (hc pins s σ H _ I h) fun b s1 ⟨H1,I1,q1⟩=>?_)
 cases b with
 | true =>
   rw [if_pos rfl] at q1 ⊢
   exact he pins s1 σ H1 keep I1 q1
 | false =>
   rw [if_neg (by decide)] at q1 ⊢
   exact ⟨H1,I1,q1⟩
def CompEx (J:It) (D:Addr) (ix:List Nat) (tb:TBl) (σ:St) (H:Hp) (Q:VK):Prop:=∃ W:Nat->Nat->Hp->Prop,(∃ m,W 0 m (upd H D (.lst [])))/\∀ i m H2,W i m H2 ->
 (J.stop i H2/\Q (.ref D) H2)∨(J.go i H2/\∀ y H3,J.yld i H2 y H3->tb (some y::outs ix σ) H3 (fun H4=>∃ m',m' < m/\W (i+1) m' H4)
  fun z H4=>∃ ys,H4 D=some (.lst ys)/\ys.length < sizeLine/\∃ m',m' < m/\W (i+1) m' (upd H4 D (.lst (ys++[z]))))
def tCompR (wi:TI) (ix:List Nat) (tb:TBl):TE:=fun σ H Q=>wi σ H fun J H1=>∀ D,H1 D=none->CompEx J D ix tb σ H1 Q
section
variable {prog:Program} {w:World} {A:Around} {E:Value->Shared->Prop} {R:Result->Shared->Prop} {s:Shared}
theorem compLoop_go {elt target iter:Expr} {ifs:List Expr} {scope:Scope} {pos:Pos} {it acc:Value} {env:Env} (I:Nat->Shared->Prop)
 (turn:∀ n s,I n s->wpAny (model prog w) A (pyNext it) (fun r s1=>match r with
  | none=>R (.ok .next) s1
  | some v=>wpAny (model prog w) A (letOwnedTupleGo target it v) (fun _ s1'=>wpAny (model prog w) A (assign target env v) (fun _ s2 =>
   wpAny (model prog w) A (forIn ifs true fun c r=>if r=true then do let ok ← isTrue c env (eval c env); pure (ForInStep.yield ok) else pure (ForInStep.yield r)) (fun ok s3 =>
    if ok=true then wpAny (model prog w) A (eval elt env) (fun x s4 =>
     wpAny (model prog w) A (call (.builtin "list.append") [acc,x]) (fun _ s5=>∃ m,m < n/\I m s5) (fun _ _=>False) s4) (fun _ _=>False) s3
    else ∃ m,m < n/\I m s3) (fun _ _=>False) s2) (fun _ _=>False) s1') (fun _ _=>False) s1) (fun _ _=>False) s)
 (n:Nat) (h:I n s) :
 codeAny (model prog w) A (.compLoop (.ListComp elt [⟨target,iter,ifs,0⟩] scope pos) 0 it acc env) R s:=by
 have up:∀ {α:Type} {t:Sem α} {Q Q':α->Shared->Prop} {E':Value->Shared->Prop} {s:Shared},wpAny (model prog w) A t Q (fun _ _=>False) s->(∀ a s,Q a s->Q' a s)->wpAny (model prog w) A t Q' E' s :=
  fun h q=>wpAny_mono h q fun _ _ f=>f.elim
 refine codeAny_loop rfl I (fun n s hI=>?_) n h
 show wpAny _ A ((compTurn (.ListComp elt [⟨target,iter,ifs,0⟩] scope pos) 0 it acc env).onRaise (fun x=>do noteFrame x env; theTreesLotGoes x)) _ _ s
 refine wpAny_noted ?_
 rw [compTurn_list]
 refine wpAny_bind (wpAny_standAt (wpAny_bind (up (turn n s hI) fun r s1 h1=>?_)))
 cases r with
 | none=>exact wpAny_pure h1
 | some v =>
   refine wpAny_bind (up h1 fun _ s1' h1'=>?_)
   refine wpAny_bind (up h1' fun _ s2 h2=>wpAny_bind (up h2 fun ok s3 h3=>?_))
   cases ok with
   | false=>exact wpAny_pure ⟨rfl,h3⟩
   | true =>
     exact wpAny_bind (wpAny_bind (up h3 fun x s4 h4=>wpAny_bind (up h4 fun _ s5 h5=>wpAny_pure (wpAny_pure ⟨rfl,h5⟩))))
end
structure Apart (X:Cx) (pins:List (Addr × Obj)) (H:Hp) (C:Addr):Prop where
 fr:H C=none
 lo:C ≠ X.env.locals
 sz:X.s₀.heap.objs.size<=C
 ce:∀ y c,X.env.cells.lookup y=some c->c ≠ C
 pi:∀ p ∈ X.pn++pins,p.1 ≠ C
theorem Apart.turn {X:Cx} {pins:List (Addr × Obj)} {σ:St} {H:Hp} {C:Addr} {s:Shared} {h':Heap} (a:Apart X pins H C) (I:Inv X pins σ H s) (hs:Heap.SameBut C s.heap h'):Inv X pins σ H { s with heap:=h' } :=
 I.turned (t':=s.toks) (fun b o ne e=>(hs.2 b ne).trans e) a.fr a.lo (.inr a.sz) a.ce a.pi
section
variable {X:Cx} {x:Str} {N:List Str} {ix:List Nat} {scope:Scope} {cl:List (Str × Addr)} {elt iter:Expr} {ifs:List Expr} {px pos:Pos} {wi:TI} {tb:TBl}
theorem comp_run (hc:X.calm=true) (S:CompScope X x N ix scope cl) (hix:ix.length=N.length) (hb:∀ s3 H3 fp,PB (dP X (x::N) scope cl s3 H3 fp) ifs elt tb)
 {pins:List (Addr × Obj)} {s2:Shared} {σ:St} {H2:Hp} {Q:VK} {it:Addr} {fp:List Addr} {tn:Nat->Heap->Prop} {J:It} {RR:Value->Addr->Result->Shared->Prop} {E:Value->Shared->Prop}
 (I2:Inv X pins σ H2 s2) (T:Turn X.prog X.w X.K (.Name x px) J fp it tn) (st2:tn 0 s2.heap) (f2:∀ b ∈ fp,FpOk X pins H2 b)
 (h:∀ D,H2 D=none->∃ W:Nat->Nat->Hp->Prop,(∃ m,W 0 m (upd H2 D (.lst [])))/\∀ i m H3,W i m H3 ->
  (J.stop i H3/\Q (.ref D) H3)∨(J.go i H3/\∀ y H4,J.yld i H3 y H4->tb (some y::outs ix σ) H4 (fun H5=>∃ m',m' < m/\W (i+1) m' H5)
   fun z H5=>∃ ys,H5 D=some (.lst ys)/\ys.length < sizeLine/\∃ m',m' < m/\W (i+1) m' (upd H5 D (.lst (ys++[z])))))
 (hRR:∀ (D C:Addr) (H':Hp) (s':Shared) (m:Str->Option Value),s'.heap.Ns C m->Apart X pins H' C->Inv X pins σ H' s'->Q (.ref D) H'->RR (.ref D) C (.ok .next) s') :
 wpAny (model X.prog X.w) X.A (newList []) (fun acc s3=>wpAny (model X.prog X.w) X.A (newFunctionEnv scope X.env.globals cl [] X.env.qual none .none (some X.env)) (fun cenv s4 =>
  codeAny (model X.prog X.w) X.A (.compStart (.ListComp elt [⟨.Name x px,iter,ifs,0⟩] scope pos) 0 (.ref it) acc { cenv with scope:=relabel scope X.env }) (RR acc cenv.locals) s4) E s3) E s2:=by
 refine wpAny_newObj_type (wpAny_newFunctionEnv S.nocell (by intro y hy; simp at hy) (fun h1 hns1 hsb1=>?_) S.kind)
 dsimp only at hns1 hsb1 ⊢
 have I3:Inv X pins σ (upd H2 s2.heap.objs.size (.lst [])) { s2 with heap:=s2.heap.push { cls:=.type "list", dict:=none,data:=.seq ([]:List Value).toArray } }:=I2.lnew (its:=[]) (ys:=[]) (t':=s2.toks) .nil (Nat.zero_le _)
 have hD:H2 s2.heap.objs.size=none:=I2.fresh
 obtain ⟨W,⟨m0,w0⟩,turn⟩:=h s2.heap.objs.size hD
 have hltF:∀ b ∈ fp,b < s2.heap.objs.size:=fun b hb=>by
  obtain ⟨o,e,_⟩:=T.obj 0 _ st2 b hb
  exact Heap.lt_size e
 generalize hs3:({ s2 with heap:=s2.heap.push { cls:=.type "list", dict:=none,data:=.seq ([]:List Value).toArray } }:Shared)=s3 at I3
 have eh:s2.heap.push { cls:=.type "list", dict:=none,data:=.seq ([]:List Value).toArray }=s3.heap:=by rw [← hs3]
 have et:s2.toks=s3.toks:=by rw [← hs3]
 rw [eh] at hns1 hsb1 ⊢
 have sz3:s3.heap.objs.size=s2.heap.objs.size+1:=by rw [← eh,Heap.size_push]
 have hlt3:∀ b ∈ fp,b < s3.heap.objs.size:=fun b hb=>Nat.lt_of_lt_of_le (hltF b hb) (by rw [sz3]; exact Nat.le_succ _)
 have f3:∀ b ∈ fp,FpOk X pins (upd H2 s2.heap.objs.size (.lst [])) b:=fun b hb=>by
  obtain ⟨q1,q2⟩:=f2 b hb
  exact ⟨by rw [ax (Nat.ne_of_lt (hltF b hb))]; exact q1,q2⟩
 have up:∀ b o,s3.heap.get? b=some o->h1.get? b=some o:=fun b o e=>hsb1.extBut b o (Nat.ne_of_lt (Heap.lt_size e)) (Heap.get?_push_of_some _ e)
 have old:∀ b o,s2.heap.get? b=some o->h1.get? b=some o:=fun b o e=>up b o (by rw [← eh]; exact Heap.get?_push_of_some _ e)
 have es:({ s2 with heap:=h1,toks:=s2.toks+([]:List (Str × Value)).length }:Shared)={ s3 with heap:=h1,toks:=s2.toks+([]:List (Str × Value)).length }:=by rw [← hs3]
 rw [es]
 have I4:Inv (dP X (x::N) scope cl s3 (upd H2 s2.heap.objs.size (.lst [])) fp) [] (none::outs ix σ) (upd H2 s2.heap.objs.size (.lst [])) { s3 with heap:=h1,toks:=s2.toks+([]:List (Str × Value)).length } :=
  comp_start S I3 f3 hlt3 hix hns1 up
 have st4:tn 0 h1:=T.keep 0 _ _ st2 fun b _ o e=>old b o e
 have loop:codeAny (model X.prog X.w) X.A (.compLoop (.ListComp elt [⟨.Name x px,iter,ifs,0⟩] scope pos) 0 (.ref it) (.ref s2.heap.objs.size) (compEnvC scope cl s3.heap.objs.size X.env)) (RR (.ref s2.heap.objs.size) s3.heap.objs.size)
  { s3 with heap:=h1,toks:=s2.toks+([]:List (Str × Value)).length }:=by
  refine compLoop_go (fun n s'=>∃ i v0 H',Inv (dP X (x::N) scope cl s3 (upd H2 s2.heap.objs.size (.lst [])) fp) [] (v0::outs ix σ) H' s'/\tn i s'.heap/\(∀ b ∈ fp,H' b=none)/\W i n H') ?_ m0 ⟨0,none,_,I4,st4,fun b hb=>(f3 b hb).1,w0⟩
  rintro n s5 ⟨i,v0,H5,I5,st5,fr5,w5⟩
  have stat:∀ {H':Hp},(∀ b ∈ fp,H' b=none)->∀ b ∈ fp,FpOk (dP X (x::N) scope cl s3 (upd H2 s2.heap.objs.size (.lst [])) fp) [] H' b:=fun hn b hb =>
   ⟨hn b hb,((comp_cx S I3 f3 hlt3).exf b hb).1,(comp_cx S I3 f3 hlt3).exfs b hb,.inl hb,((comp_cx S I3 f3 hlt3).exf b hb).2,fun p hp=>absurd (show p ∈ ([]:List (Addr × Obj)) from hp) (by simp)⟩
  rcases turn i n H5 w5 with ⟨stop,qn⟩ | ⟨go,step⟩
  . refine thn (T.done (dP X (x::N) scope cl s3 (upd H2 s2.heap.objs.size (.lst [])) fp) rfl rfl rfl hc i [] s5 _ H5 _ I5 (stat fr5) st5 stop) fun r s6 ⟨hr,I6⟩=>?_
    subst hr
    obtain ⟨m6,hn6,_⟩:=I6.loc
    exact hRR _ _ H5 s6 m6 hn6 ⟨I6.free,Ne.symm (Nat.ne_of_lt I3.lt),I3.sz,fun y c e z=>by
     obtain ⟨v,q⟩:=I3.cell y c e
     exact absurd q.lt (by rw [z]; exact Nat.lt_irrefl _),fun p hp z=>absurd (Heap.lt_size (I3.pin p hp).1) (by rw [z]; exact Nat.lt_irrefl _)⟩ (comp_back I3 f3 I6 (Heap.SameBut.refl _ _)) qn
  . refine thn (T.item (dP X (x::N) scope cl s3 (upd H2 s2.heap.objs.size (.lst [])) fp) rfl rfl rfl hc i [] s5 _ H5 _ I5 (stat fr5) st5 go) fun r s6 ⟨u,hr,h6⟩=>?_
    subst hr
    refine thn h6 fun _ s7 ⟨y,H7,I7,r7,y7,st7,fr7⟩=>?_
    have I7':=I7.pinned (stat fr7) (T.obj _ _ st7)
    refine wpAny_assign_Name (store_ok (i:=0) I7' S.nd rfl (.inl (lookup_relabel_local S.own)) r7 (fun s8 I8=>?_) (.inr (lookup_relabel_local S.own)))
    have I8':Inv (dP X (x::N) scope cl s3 (upd H2 s2.heap.objs.size (.lst [])) fp) ([]++pinsAt fp s7.heap) (some y::outs ix σ) H7 s8:=I8
    have again:∀ {v9:Option V} {H9:Hp} {s9:Shared},Inv (dP X (x::N) scope cl s3 (upd H2 s2.heap.objs.size (.lst [])) fp) ([]++pinsAt fp s7.heap) (v9::outs ix σ) H9 s9->(∃ m',m' < n/\W (i+1) m' H9) ->
     ∃ m,m < n/\∃ i v0 H',Inv (dP X (x::N) scope cl s3 (upd H2 s2.heap.objs.size (.lst [])) fp) [] (v0::outs ix σ) H' s9/\tn i s9.heap/\(∀ b ∈ fp,H' b=none)/\W i m H':=fun {v9 H9 s9} I9 ⟨m',hm,w9⟩=>by
     refine ⟨m',hm,i+1,v9,H9,I9.unpinned,T.keep _ _ _ st7 fun b hb o e=>(I9.pin (b,o) (List.mem_append_right _ (List.mem_append_right _ (mem_pinsAt hb e)))).1,fun b hb=>?_,w9⟩
     obtain ⟨o,e,d⟩:=T.obj _ _ st7 b hb
     exact (I9.pin (b,o) (List.mem_append_right _ (List.mem_append_right _ (mem_pinsAt hb e)))).2.1
    refine thn (hb s3 (upd H2 s2.heap.objs.size (.lst [])) fp _ s8 _ H7 _ _ I8' (step y H7 y7)) fun ok s9 q9=>?_
    cases ok with
    | false =>
      rw [if_neg (by decide)] at q9 ⊢
      obtain ⟨H9,I9,q9⟩:=q9
      exact again I9 q9
    | true =>
      rw [if_pos rfl] at q9 ⊢
      refine thn q9 fun u s10 ⟨z,H10,I10,r10,ys,hy,hz,q10⟩=>?_
      refine thn (mt_append _ s10 _ H10 (.ref s2.heap.objs.size) [z] (.ref s2.heap.objs.size) [u] (fun _ H'=>∃ m',m' < n/\W (i+1) m' H') I10 rfl (.cons r10 .nil) ⟨_,ys,z,rfl,rfl,hy,hz,q10⟩) fun _ s11 ⟨_,H11,I11,_,q11⟩=>?_
      exact again I11 q11
 exact codeAny_compStart_list loop (T.self _ 0 _ _ _ st4 loop)
theorem de (hc:X.calm=true) (S:CompScope X x N ix scope cl) (hix:ix.length=N.length) (hi:PI X (.Name x px) iter wi) (hb:∀ s3 H3 fp,PB (dP X (x::N) scope cl s3 H3 fp) ifs elt tb)
 (hs:∀ x,foldedSetIterable iter X.env x=pure x:=by intro _; rfl):PE X (.ListComp elt [⟨.Name x px,iter,ifs,0⟩] scope pos) (tCompR wi ix tb):=by
 intro pins s σ H Q I h
 rw [eval_ListComp]
 refine wpAny_comprehension_free (use:=none) rfl hs S.clos S.kind S.names (thn (hi pins s σ H _ I h) fun xv s1 h1=>thn h1 fun itv s2 h2=>?_)
 obtain ⟨it,fp,tn,J,H2,rfl,I2,T,st2,f2,R⟩:=h2
 refine comp_run hc S hix hb (RR:=fun acc C=>compPost (model X.prog X.w) X.A X.xe none (EP X pins σ Q) acc C) I2 T st2 f2 R ?_
 intro D C H' s' m hn ap I' q
 exact ⟨m,hn,fun h'' hb''=>⟨.ref D,H',ap.turn I' hb'',rfl,q⟩⟩
theorem ps_comp {i:Nat} {y:Str} {py spos:Pos} (hN:X.N.Nodup) (hi0:X.N[i]?=some y) (hx:Loc X.env.scope y) (hc:X.calm=true) (S:CompScope X x N ix scope cl) (hix:ix.length=N.length) (hi:PI X (.Name x px) iter wi) (hb:∀ s3 H3 fp,PB (dP X (x::N) scope cl s3 H3 fp) ifs elt tb)
 (hsw:swapsWith (.ListComp elt [⟨.Name x px,iter,ifs,0⟩] scope pos) (some (.Name y py)) spos.line X.env=pure true:=by with_unfolding_all rfl)
 (hs:∀ x,foldedSetIterable iter X.env x=pure x:=by intro _; rfl) (hf:X.fn y=true∨X.env.scope.names.lookup y=some .local:=by first | exact .inl rfl | exact .inr rfl | assumption) :
 PS X (.Assign [.Name y py] (.ListComp elt [⟨.Name x px,iter,ifs,0⟩] scope pos) spos) (fun D σ H=>tCompR wi ix tb σ H fun v H'=>D.nx (σ.set i (some v)) H'):=by
 intro pins s σ H Dn I h
 rw [exec_Assign_Name_used _ _ _ _ hsw]
 refine wpAny_bind (wpAny_standAt (wpAny_bind ?_))
 show wpAny _ X.A (do let _ ← comprehension (.ListComp elt [⟨.Name x px,iter,ifs,0⟩] scope pos) scope X.env _ (newList []) false (eval iter X.env) (some (assign (.Name y py) X.env))) _ _ s
 refine wpAny_bind (wpAny_mono (wpAny_comprehension_free (use:=some (assign (.Name y py) X.env)) (Q:=fun _ s'=>SP X pins Dn .next s') rfl hs S.clos S.kind S.names
  (thn (hi pins s σ H _ I h) fun xv s1 h1=>thn h1 fun itv s2 h2=>?_)) (fun _ s' hq=>wpAny_pure (wpAny_pure hq)) fun _ _ e=>e)
 obtain ⟨it,fp,tn,J,H2,rfl,I2,T,st2,f2,R⟩:=h2
 refine comp_run hc S hix hb (RR:=fun acc C=>compPost (model X.prog X.w) X.A X.xe (some (assign (.Name y py) X.env)) (fun _ s'=>SP X pins Dn .next s') acc C) (Q:=fun v H'=>Dn.nx (σ.set i (some v)) H') I2 T st2 f2 R ?_
 intro D C H' s' m hn ap I' q
 show wpAny _ X.A (assign (.Name y py) X.env (.ref D)) _ _ _
 refine wpAny_assign_Name (store_ok2 I' hN hi0 hx (v:=.ref D) rfl (fun s'' I'' hsb=>?_) hf)
 obtain ⟨a,hsb,ha⟩:=hsb
 have ne:C ≠ a:=by
  rcases ha with z | z
  . rw [z]; exact ap.lo
  . exact Ne.symm (ap.ce y a z)
 exact ⟨m,hn.sameBut hsb ne,fun h'' hb''=>⟨_,H',ap.turn I'' hb'',q⟩⟩
end
section
variable {X:Cx} {pins:List (Addr × Obj)} {σ:St} {H:Hp} {s:Shared} {h':Heap}
theorem Inv.turnedNew {t':Nat} {ch:List Addr} {T:Addr} {o:HO} (I:Inv X pins σ H s) (k:∀ b u,b ∉ ch->s.heap.get? b=some u->h'.get? b=some u) (hf:∀ b ∈ ch,FpOk X pins H b) (hT:s.heap.objs.size<=T)
 (new:ObjOk X.prog X.w (upd H T o) h' T o):Inv X pins σ (upd H T o) { s with heap:=h',toks:=t' }:=by
 have nit:∀ b u,H b=some u->b ∉ ch:=fun b u e z=>by rw [(hf b z).1] at e; cases e
 have hn:H T=none:=I.hok.fresh hT
 have lt:∀ b u,s.heap.get? b=some u->b ≠ T:=fun b u e=>Nat.ne_of_lt (Nat.lt_of_lt_of_le (Heap.lt_size e) hT)
 refine I.step (g':=s.gens) (d':=s.drawn) (ch:=ch) (fun b hb=>?_) (fun b u _ _ hc e _=>k b u hc e) (fun b u _ _ hc e _=>⟨u.slots,k b u hc e⟩) (fun b u _ e n=>by rw [ax (lt b u e)]; exact n) (fun b u hc e=>⟨u,k b u hc e⟩)
  (fun b xs e=>by rw [ax (ai e hn)]; exact e) (fun b ob u e=>by rw [ax (ai e hn)]; exact e) (fun b ps e=>⟨#[],by rw [ax (ai e hn),e]; simp⟩) (fun m hm=>?_) (fun b u e=>?_) I.bare
 . obtain ⟨_,h2,_,h4,h5,h6⟩:=hf b hb
   exact ⟨h4,h2,h5,h6⟩
 . obtain ⟨ob,es,ep,ho,r⟩:=hm
   exact ⟨ob,es,ep,k _ ob (fun z=>(hf _ z).2.1 rfl) ho,r⟩
 . by_cases hb:b=T
   . subst hb
     rw [upd_same] at e
     cases e
     exact new
   . rw [ax hb] at e
     refine (I.hok b u e).stay (fun c v hc q=>k c v ?_ q) (fun c q=>by rw [ax (ai q hn)]; exact q) fun c xs q=>by rw [ax (ai q hn)]; exact q
     rcases hc with z | z
     . rw [z]; exact nit b u e
     . exact nit c _ z
theorem Inv.turnedL {t':Nat} {ch:List Addr} (I:Inv X pins σ H s) (k:∀ b u,b ∉ ch->s.heap.get? b=some u->h'.get? b=some u) (hf:∀ b ∈ ch,FpOk X pins H b):Inv X pins σ H { s with heap:=h',toks:=t' }:=by
 have nit:∀ b u,H b=some u->b ∉ ch:=fun b u e z=>by rw [(hf b z).1] at e; cases e
 refine I.step (g':=s.gens) (d':=s.drawn) (ch:=ch) (fun b hb=>?_) (fun b u _ _ hc e _=>k b u hc e) (fun b u _ _ hc e _=>⟨u.slots,k b u hc e⟩) (fun _ _ _ _ n=>n) (fun b u hc e=>⟨u,k b u hc e⟩)
  (fun _ _ e=>e) (fun _ _ _ e=>e) (fun b ps e=>⟨#[],by rw [e]; simp⟩) (fun m hm=>?_) (fun b u e=>?_) I.bare
 . obtain ⟨_,h2,_,h4,h5,h6⟩:=hf b hb
   exact ⟨h4,h2,h5,h6⟩
 . obtain ⟨ob,es,ep,ho,r⟩:=hm
   exact ⟨ob,es,ep,k _ ob (fun z=>(hf _ z).2.1 rfl) ho,r⟩
 . refine (I.hok b u e).stay (fun c v hc q=>k c v ?_ q) (fun _ q=>q) fun _ _ q=>q
   rcases hc with z | z
   . rw [z]; exact nit b u e
   . exact nit c _ z
end
mutual
inductive Rep (K:W.Frag) (H:Hp):V->PyData->Prop
 | non:Rep K H .non .none
 | bl (b:Bool):Rep K H (.bl b) (.bool b)
 | int (i:Int):Rep K H (.int i) (.int i)
 | str (x:Str):Rep K H (.str x) (.str x)
 | tup {a:Addr} {xs:List V} {ds:List PyData}:SqT K H a xs->RepAll K H xs ds->Rep K H (.ref a) (.tuple ds)
 | lst {a:Addr} {xs:List V} {ds:List PyData}:SqL K H a xs->RepAll K H xs ds->Rep K H (.ref a) (.list ds)
inductive RepAll (K:W.Frag) (H:Hp):List V->List PyData->Prop
 | nil:RepAll K H [] []
 | cons {x:V} {d:PyData} {xs:List V} {ds:List PyData}:Rep K H x d->RepAll K H xs ds->RepAll K H (x::xs) (d::ds)
end
section
variable {X:Cx} {pins:List (Addr × Obj)} {σ:St} {H:Hp} {s:Shared}
mutual
theorem Rep.reads (I:Inv X pins σ H s):∀ {x:V} {d:PyData} {v:Value},Rep X.K H x d->RelV x v->∃ as,Reads s.heap v d as
 | _,_,v,.non,r=>by cases (show v=Value.none from r); exact ⟨_,Reads.none⟩
 | _,_,v,.bl b,r=>by cases (show v=Value.bool b from r); exact ⟨_,Reads.bool b⟩
 | _,_,v,.int i,r=>by obtain ⟨t,e⟩:=(show ∃ t,v=Value.int i t from r); cases e; exact ⟨_,Reads.int i t⟩
 | _,_,v,.str x,r=>by obtain ⟨t,e⟩:=(show ∃ t,v=Value.str x t from r); cases e; exact ⟨_,Reads.str x t⟩
 | _,_,v,.tup (a:=a) h q,r=>by
   cases (show v=Value.ref a from r)
   obtain ⟨its,rv,⟨o,ho,hc,n,hd⟩,_⟩:=I.tuple h
   obtain ⟨as,z⟩:=RepAll.reads I q rv
   exact ⟨_,reads_tuple_at ho hc hd (by simpa using z)⟩
 | _,_,v,.lst (a:=a) h q,r=>by
   cases (show v=Value.ref a from r)
   obtain ⟨its,rv,⟨o,n,ho,hc,_,hd⟩,_⟩:=I.list h
   obtain ⟨as,z⟩:=RepAll.reads I q rv
   exact ⟨_,reads_list_at ho hc hd (by simpa using z)⟩
theorem RepAll.reads (I:Inv X pins σ H s):∀ {xs:List V} {ds:List PyData} {vs:List Value},RepAll X.K H xs ds->Vals xs vs->∃ as,ReadsAll s.heap vs ds as
 | _,_,_,.nil,.nil=>⟨_,ReadsAll.nil⟩
 | _,_,_,.cons h q,.cons r rs=>by
   obtain ⟨as,z⟩:=Rep.reads I h r
   obtain ⟨bs,y⟩:=RepAll.reads I q rs
   exact ⟨_,ReadsAll.cons z y⟩
end
end
theorem rep_ints {K:W.Frag} {H:Hp}:∀ ns:List Int,RepAll K H (ns.map V.int) (ns.map PyData.int)
 | []=>.nil
 | n::r=>.cons (.int n) (rep_ints r)
section
variable {X:Cx}
def rEqD (K:W.Frag):R2:=fun x y H Q=>∃ d e,Rep K H x d/\Rep K H y e/\SeqAt.shaped d=true/\SeqAt.shaped e=true/\Q (.bl (PyData.eqv d e)) H
def rNeD (K:W.Frag):R2:=fun x y H Q=>∃ d e,Rep K H x d/\Rep K H y e/\SeqAt.shaped d=true/\SeqAt.shaped e=true/\Q (.bl (!PyData.eqv d e)) H
theorem op_eqD (hu:X.A.units+64 < cLine):OpR X (compareOp .Eq) (rEqD X.K):=by
 intro pins s σ H x y v u Q I rx ry h
 obtain ⟨d,e,hd,he,sd,se,q⟩:=h
 obtain ⟨as,r1⟩:=Rep.reads I hd rx
 obtain ⟨bs,r2⟩:=Rep.reads I he ry
 exact eq_dataH r1 r2 sd se hu ⟨.bl _,H,I,rfl,q⟩
theorem op_neD (hu:X.A.units+64 < cLine):OpR X (compareOp .NotEq) (rNeD X.K):=by
 intro pins s σ H x y v u Q I rx ry h
 obtain ⟨d,e,hd,he,sd,se,q⟩:=h
 obtain ⟨as,r1⟩:=Rep.reads I hd rx
 obtain ⟨bs,r2⟩:=Rep.reads I he ry
 exact ne_dataH r1 r2 sd se hu ⟨.bl _,H,I,rfl,q⟩
def rCatT0 (K:W.Frag):R2:=fun x y H Q=>∃ a b ys,x=.ref a/\y=.ref b/\SqT K H a []/\SqT K H b ys/\Q (.ref b) H
theorem op_catT0:OpR X (binaryOp .Add) (rCatT0 X.K):=by
 intro pins s σ H x y v u Q I rx ry h
 obtain ⟨a,b,ys,rfl,rfl,ha,hb,q⟩:=h
 cases rx
 cases ry
 obtain ⟨its,r1,p1,_⟩:=I.tuple ha
 obtain ⟨its2,r2,p2,_⟩:=I.tuple hb
 obtain ⟨⟨cls,dd,data,sl⟩,ho,hc,n,hd⟩:=id p1
 obtain ⟨⟨cls2,dd2,data2,sl2⟩,ho2,hc2,n2,hd2⟩:=id p2
 simp only at hc hd hc2 hd2
 subst hc hd hc2 hd2
 have e:its=[]:=r1.nil_iff.mpr rfl
 exact concat_meets ⟨_,ho,rfl⟩ ⟨_,ho2,rfl⟩ noFill_tuple_add seq_tuple_add PySem.F.slot_tuple_add PySem.F.entry_tuple_add (PySem.F.args_tuple_add_2 _ _)
  (tuple_addW0 a b its.toArray its2.toArray n n2 dd dd2 sl sl2 (by simp [e])) ⟨ho,ho2,⟨.ref b,H,I,rfl,q⟩⟩
end
def Nx (n i:Nat) (Pv:Nat->Hp->Prop) (H:Hp):Prop:=∃ m',m' < n - i/\(m'=n - (i+1)/\i+1<=n/\Pv (i+1) H)
theorem Nx.of {n i:Nat} {Pv:Nat->Hp->Prop} {H:Hp} (h:i < n) (p:Pv (i+1) H):Nx n i Pv H:=⟨n - (i+1),by omega,rfl,h,p⟩
theorem comp_tup {K:W.Frag} {a D:Addr} {xs:List V} {ix:List Nat} {tb:TBl} {σ:St} {H:Hp} {Q:VK} (Pv:Nat->Hp->Prop) (h0:Pv 0 (upd H D (.lst []))) (hl:∀ i H,i<=xs.length->Pv i H->SqT K H a xs)
 (hs:∀ i x H,xs[i]?=some x->Pv i H->tb (some x::outs ix σ) H (Nx xs.length i Pv) fun z H'=>∃ ys,H' D=some (.lst ys)/\ys.length < sizeLine/\Nx xs.length i Pv (upd H' D (.lst (ys++[z])))) (hd:∀ H,Pv xs.length H->Q (.ref D) H) :
 CompEx (Itt K a) D ix tb σ H Q:=by
 refine ⟨fun i m H=>m=xs.length - i/\i<=xs.length/\Pv i H,⟨xs.length,by simp,Nat.zero_le _,h0⟩,?_⟩
 rintro i m H ⟨rfl,hi,p⟩
 have q:=hl i H hi p
 by_cases hlt:i < xs.length
 . refine .inr ⟨⟨xs,xs[i],q,by simp [hlt]⟩,fun x H' y=>?_⟩
   obtain ⟨e,y⟩:=y
   subst e
   exact hs i x _ (y xs q) p
 . have e:i=xs.length:=by omega
   subst e
   exact .inl ⟨⟨xs,q,Nat.le_refl _⟩,hd H p⟩
theorem comp_list {K:W.Frag} {a D:Addr} {xs:List V} {ix:List Nat} {tb:TBl} {σ:St} {H:Hp} {Q:VK} (Pv:Nat->Hp->Prop) (h0:Pv 0 (upd H D (.lst []))) (hl:∀ i H,i<=xs.length->Pv i H->SqL K H a xs)
 (hs:∀ i x H,xs[i]?=some x->Pv i H->tb (some x::outs ix σ) H (Nx xs.length i Pv) fun z H'=>∃ ys,H' D=some (.lst ys)/\ys.length < sizeLine/\Nx xs.length i Pv (upd H' D (.lst (ys++[z])))) (hd:∀ H,Pv xs.length H->Q (.ref D) H) :
 CompEx (Itl K a) D ix tb σ H Q:=by
 refine ⟨fun i m H=>m=xs.length - i/\i<=xs.length/\Pv i H,⟨xs.length,by simp,Nat.zero_le _,h0⟩,?_⟩
 rintro i m H ⟨rfl,hi,p⟩
 have q:=hl i H hi p
 by_cases hlt:i < xs.length
 . refine .inr ⟨⟨xs,xs[i],q,by simp [hlt]⟩,fun x H' y=>?_⟩
   obtain ⟨e,y⟩:=y
   subst e
   exact hs i x _ (y xs q) p
 . have e:i=xs.length:=by omega
   subst e
   exact .inl ⟨⟨xs,q,Nat.le_refl _⟩,hd H p⟩
theorem dB {lo:Int} {n:Nat} {D:Addr} {ix:List Nat} {tb:TBl} {σ:St} {H:Hp} {Q:VK} (Pv:Nat->Hp->Prop) (h0:Pv 0 (upd H D (.lst [])))
 (hs:∀ i H,i < n->Pv i H->tb (some (.int (lo+i))::outs ix σ) H (Nx n i Pv) fun z H'=>∃ ys,H' D=some (.lst ys)/\ys.length < sizeLine/\Nx n i Pv (upd H' D (.lst (ys++[z])))) (hd:∀ H,Pv n H->Q (.ref D) H) :
 CompEx (Itr lo n) D ix tb σ H Q:=by
 refine ⟨fun i m H=>m=n - i/\i<=n/\Pv i H,⟨n,by simp,Nat.zero_le _,h0⟩,?_⟩
 rintro i m H ⟨rfl,hi,p⟩
 by_cases hlt:i < n
 . refine .inr ⟨hlt,fun x H' y=>?_⟩
   obtain ⟨e,y⟩:=y
   subst e y
   exact hs i _ hlt p
 . have e:i=n:=by omega
   subst e
   exact .inl ⟨Nat.le_refl _,hd H p⟩
theorem CompScope.closed {X:Cx} {x:Str} {scope:Scope} (c1:closureFor scope X.env=pure []) (c2:∀ y ∈ scope.names,y.2 ≠ .cell) (c3:scope.kind=.function) (c4:∀ y ∈ scope.names,y.2=.local->scope.names.lookup y.1=some .local)
 (c5:scope.names.lookup x=some .local) (c6:((relabel scope X.env).names.all fun p=>!(p.2 == .cell || p.2 == .free) || ((([]:List (Str × Addr))).lookup p.1).isSome)=true):CompScope X x [] [] scope [] where
 clos:=c1
 nocell:=c2
 kind:=c3
 names:=c4
 own:=c5
 nd:=by simp
 sub:=fun p hp=>absurd hp (by simp)
 has:=c6
 outs:=fun j y h=>by simp at h
section
variable {X:Cx}
theorem ix_listK (K:W.Frag) (hK:X.K=K:=by rfl):IxR X (rIxL K):=by subst hK; exact ix_list
end
section
variable {X:Cx}
def rSlS:V->Option Int->Option Int->Hp->VK->Prop:=fun x lo hi H Q=>∃ z,x=.str z/\z.length<=sizeLine/\Q (.str (Txt.slice z lo hi)) H
theorem sl_str:SlR X rSlS:=by
 intro pins s σ H x v vl vu lo hi sl Q I rx hs pl pu h
 obtain ⟨z,rfl,hz,q⟩:=h
 obtain ⟨t,rfl⟩:=rx
 refine ⟨"str", _,F.slot_str_getitem.lookup,typeIs_str _ _ _,?_⟩
 have fin:∀ t' k,EP X pins σ Q (.str (Txt.slice z lo hi) t') { s with toks:=k }:=fun t' k=>⟨.str _,H,I.tok k,⟨_,rfl⟩,q⟩
 obtain ⟨o,ho,hc,hd⟩:=hs
 cases pl with
 | none =>
   cases pu with
   | none=>exact wpAny_getItem_str_slice (l:=none) (u:=none) (st:=none) ⟨o,ho,hc,hd⟩ rfl (post_val_or_str ⟨Nat.le_trans (Txt.slice_le z _ _) hz,fin⟩)
   | int j u=>exact wpAny_getItem_str_slice (l:=none) (u:=some (j,u)) (st:=none) ⟨o,ho,hc,hd⟩ rfl (post_val_or_str ⟨Nat.le_trans (Txt.slice_le z _ _) hz,fin⟩)
 | int i u' =>
   cases pu with
   | none=>exact wpAny_getItem_str_slice (l:=some (i,u')) (u:=none) (st:=none) ⟨o,ho,hc,hd⟩ rfl (post_val_or_str ⟨Nat.le_trans (Txt.slice_le z _ _) hz,fin⟩)
   | int j u=>exact wpAny_getItem_str_slice (l:=some (i,u')) (u:=some (j,u)) (st:=none) ⟨o,ho,hc,hd⟩ rfl (post_val_or_str ⟨Nat.le_trans (Txt.slice_le z _ _) hz,fin⟩)
theorem strsAre_of:∀ {zs:List Str} {us:List Value},Vals (zs.map V.str) us->StrsAre us zs
 | [],_,.nil=>.nil
 | _::_,_,.cons ⟨t,e⟩ r=>by subst e; exact .cons _ t (strsAre_of r)
def rJoin (K:W.Frag):V->List V->Hp->VK->Prop:=fun x vs H Q=>∃ z a ys,x=.str z/\vs=[.ref a]/\SqL K H a (ys.map V.str)/\z.length<=16/\(ys.map (·.length)).sum+ys.length<=1048576/\Q (.str (Txt.join z ys)) H
theorem mt_join:MtR X "str.join" (rJoin X.K):=by
 intro pins s σ H x vs v us Q I rx rv h
 obtain ⟨z,a,ys,rfl,rfl,hq,hz,hw,q⟩:=h
 obtain ⟨t,rfl⟩:=rx
 obtain ⟨w',rfl,ra⟩:=rv.one
 cases ra
 obtain ⟨its,r',p,_⟩:=I.list hq
 exact join_listW p.isList (by simpa using strsAre_of r') hz hw fun t' k=>⟨.str _,H,I.tok k,⟨_,rfl⟩,q⟩
def rAll (K:W.Frag):List V->Hp->VK->Prop:=fun xs H Q=>∃ (a:Addr) (bs:List Bool),xs=[.ref a]/\SqL K H a (bs.map V.bl)/\Q (.bl (bs.all id)) H
theorem bools_get:∀ {bs:List Bool} {us:List Value} {i:Nat} {v:Value},Vals (bs.map V.bl) us->us[i]?=some v->∃ b,bs[i]?=some b/\v=.bool b
 | [],_,_,_,.nil,h=>by simp at h
 | b::_,_,0,_,.cons r _,h=>by
   simp at h
   subst h
   exact ⟨b,rfl,r⟩
 | _::_,_,i+1,_,.cons _ t,h=>by
   obtain ⟨b,h1,h2⟩:=bools_get (i:=i) t (by simpa using h)
   exact ⟨b,by simpa using h1,h2⟩
theorem call_all (hc:X.calm=true):CallR X (.builtin "all") (rAll X.K):=by
 intro pins s σ H xs us Q I r h
 obtain ⟨a,bs,rfl,hq,q⟩:=h
 obtain ⟨u,rfl,ru⟩:=vals1 r
 cases ru
 obtain ⟨its,r',p,hz⟩:=I.list hq
 have hl:=r'.length
 rw [List.length_map] at hl
 have hlt:a < s.heap.objs.size:=by obtain ⟨o,n,e,_⟩:=p; exact Heap.lt_size e
 refine call_all_walk (wpAny_pyIter_list p.isList ?_)
 refine ⟨s.heap.objs.size,_,_,_,_,_,fun i=>bs[i]?.getD true,rfl,Walks.list (A:=X.A.in1) (I.ok.hd hc) s.heap.objs.size a (Nat.ne_of_lt hlt) its.toArray,⟨⟨_,Heap.get?_push_size _ rfl,rfl,rfl⟩,p.isList.push _⟩,?_,?_⟩
 . intro i v s' Q' E' hP hQ
   obtain ⟨b,hb,rfl⟩:=bools_get r' (i:=i) (v:=v) (by simpa using hP)
   have hQ':Q' b s':=by simpa [hb] using hQ
   exact wpAny_truthy_bool hQ'
 . intro h' tk hk
   have e:(List.range its.toArray.size).all (fun i=>bs[i]?.getD true)=bs.all id:=by
    rw [List.size_toArray,← hl]
    rw [Bool.eq_iff_iff,List.all_eq_true,List.all_eq_true]
    constructor
    . intro h b hb
      obtain ⟨i,hi,e⟩:=List.getElem_of_mem hb
      have:=h i (List.mem_range.mpr hi)
      rw [List.getElem?_eq_getElem hi] at this
      simpa [e] using this
    . intro h i hi
      have hi':=List.mem_range.mp hi
      rw [List.getElem?_eq_getElem hi']
      exact h _ (List.getElem_mem hi')
   rw [e]
   refine ⟨.bl _,H,?_,rfl,q⟩
   have I1:Inv X pins σ H { s with heap:=s.heap.push { cls:=.type "list_iterator", data:=.fields #[.ref a,.int 0 0] } }:=I.kept (t':=s.toks) fun b o e=>Heap.get?_push_of_some _ e
   refine I1.turnedL (t':=tk) (ch:=[s.heap.objs.size]) (fun b o hb e=>hk b o (by simpa using hb) e) fun b hb=>?_
   rw [List.mem_singleton.mp hb]
   exact I.fpOk (Nat.le_refl _) (I.hok.fresh (Nat.le_refl _))
end
theorem pe_cal0 {X:Cx} {n k:Nat} {x:Str} {sp:Sp} {p pos:Pos} (C:Cal X.prog X.w X.K X.mg X.base n x [] sp) (hr:Room k X.A) (hk:n<=k) (hg:Gl X x) (hdb:(x == ("__debug__" : Str))=false:=by decide) :
 PE X (.Call (.Name x p) [] [] pos) (tCall sp [] E0 tNil):=by
 obtain ⟨f,fd,F,b,kp,m⟩:=C.ex
 exact pe_call0 F (hr.mono hk) hg m kp b .nil bF hdb
inductive Consts:List Expr->List Str->Prop
 | nil:Consts [] []
 | cons {x:Str} {j:Nat} {pos:Pos} {es:List Expr} {zs:List Str}:Consts es zs->Consts (.Constant (.str x) j pos::es) (x::zs)
theorem pa_consts {X:Cx}:∀ {es:List Expr} {zs:List Str},Consts es zs->PA X es (fun _ H Q=>Q (zs.map V.str) H)
 | _,_,.nil=>ae
 | _,_,.cons h=>fun pos pins s σ H Q I q=>aa aO (pa_consts h) (by rfl) pos pins s σ H Q I q
theorem CompScope.one {X:Cx} {x y:Str} {scope:Scope} {k:Nat} {c:Addr} (c1:closureFor scope X.env=pure [(y,c)]) (c2:∀ y ∈ scope.names,y.2 ≠ .cell) (c3:scope.kind=.function) (c4:∀ y ∈ scope.names,y.2=.local->scope.names.lookup y.1=some .local)
 (c5:scope.names.lookup x=some .local) (nd:[x,y].Nodup) (hc:X.env.cells.lookup y=some c) (c6:((relabel scope X.env).names.all fun p=>!(p.2 == .cell || p.2 == .free) || (([(y,c)]:List (Str × Addr)).lookup p.1).isSome)=true)
 (hr:(relabel scope X.env).names.lookup y=some .cell) (hk:X.N[k]?=some y) (hs:X.env.scope.names.lookup y=some .cell):CompScope X x [y] [k] scope [(y,c)] where
 clos:=c1
 nocell:=c2
 kind:=c3
 names:=c4
 own:=c5
 nd:=nd
 sub:=fun p hp=>by
  rw [List.mem_singleton.mp hp]
  exact hc
 has:=c6
 outs:=fun j z h=>by
  cases j with
  | zero =>
    have e:y=z:=Option.some.inj h
    subst e
    exact ⟨hr,k,c,rfl,hk,by simp [List.lookup],hs⟩
  | succ j=>simp at h
theorem CompScope.two {X:Cx} {x y z:Str} {scope:Scope} {k l:Nat} {c d:Addr} {cl:List (Str × Addr)} (c1:closureFor scope X.env=pure cl) (c2:∀ y ∈ scope.names,y.2 ≠ .cell) (c3:scope.kind=.function) (c4:∀ y ∈ scope.names,y.2=.local->scope.names.lookup y.1=some .local)
 (c5:scope.names.lookup x=some .local) (nd:[x,y,z].Nodup) (hcl:cl=[(z,d),(y,c)]∨cl=[(y,c),(z,d)]) (hc:X.env.cells.lookup y=some c) (hd:X.env.cells.lookup z=some d) (c6:((relabel scope X.env).names.all fun p=>!(p.2 == .cell || p.2 == .free) || (cl.lookup p.1).isSome)=true)
 (hr:(relabel scope X.env).names.lookup y=some .cell) (hk:X.N[k]?=some y) (hs:X.env.scope.names.lookup y=some .cell)
 (hr2:(relabel scope X.env).names.lookup z=some .cell) (hk2:X.N[l]?=some z) (hs2:X.env.scope.names.lookup z=some .cell):CompScope X x [y,z] [k,l] scope cl where
 clos:=c1
 nocell:=c2
 kind:=c3
 names:=c4
 own:=c5
 nd:=nd
 sub:=fun p hp=>by
  rcases hcl with rfl | rfl
  all_goals
   rcases List.mem_cons.mp hp with e | e
   . rw [e]; assumption
   . rw [List.mem_singleton.mp e]; assumption
 has:=c6
 outs:=fun j w h=>by
  have nyz:y ≠ z:=fun e=>by simp [e] at nd
  match j,h with
  | 0,h =>
    have e:y=w:=Option.some.inj h
    subst e
    refine ⟨hr,k,c,rfl,hk,?_,hs⟩
    rcases hcl with rfl | rfl
    . have:(y == z)=false:=by simpa using nyz
      simp [List.lookup,this]
    . simp [List.lookup]
  | 1,h =>
    have e:z=w:=Option.some.inj h
    subst e
    refine ⟨hr2,l,d,rfl,hk2,?_,hs2⟩
    rcases hcl with rfl | rfl
    . simp [List.lookup]
    . have:(z == y)=false:=by simpa using Ne.symm nyz
      simp [List.lookup,this]
  | j+2,h=>simp at h
end L2
namespace Mine
open PySem L2
def NmOk (x:Str):Prop:=x.length<=20/\(∀ c ∈ x.cps.toList,97<=c/\c<=122)/\x ≠ "aa"
theorem mem_slice {x:Str} {l u:Option Int} {c:Nat} (h:c ∈ (Txt.slice x l u).cps.toList):c ∈ x.cps.toList:=by
 have e:Txt.slice x l u=StrLaws.sliceText x l u:=rfl
 rw [e] at h
 unfold StrLaws.sliceText at h
 split at h
 . exact h
 . obtain ⟨i,_,hi⟩:=List.mem_filterMap.mp (show c ∈ (List.filterMap _ _) by simpa using h)
   have:=Array.mem_of_getElem? hi
   simpa using this
theorem mem_append {x y:Str} {c:Nat} (h:c ∈ (x++y).cps.toList):c ∈ x.cps.toList∨c ∈ y.cps.toList:=by
 have e:(x++y).cps.toList=x.cps.toList++y.cps.toList:=by simp [Str.cps_append]
 rw [e] at h
 exact List.mem_append.mp h
theorem mem_join0 {zs:List Str} {c:Nat} (h:c ∈ (Txt.join "" zs).cps.toList):∃ z ∈ zs,c ∈ z.cps.toList:=by
 have e:Txt.join "" zs=Str.join "" zs:=by
  cases zs with
  | nil=>rfl
  | cons a r=>exact StrLaws.glued_cons "" r a
 rw [e] at h
 rcases (PyProof.Rows.mem_join "" c zs).mp h with h | ⟨_,h⟩
 . exact h
 . have e0:(("" : Str)).cps.toList=[]:=by decide +kernel
   rw [e0] at h
   cases h
inductive Tr where
 | is (x:Str) | yes | no | not (a:Tr) | bin (w:Str) (a b:Tr)
def Tr.size:Tr->Nat
 | .is _=>1 | .yes=>1 | .no=>1 | .not a=>a.size+1 | .bin _ a b=>a.size+b.size+1
def Tr.depth:Tr->Nat
 | .is _=>1 | .yes=>1 | .no=>1 | .not a=>a.depth+1 | .bin _ a b=>max a.depth b.depth+1
def Tr.names:Tr->List Str
 | .is x=>[x] | .yes=>[] | .no=>[] | .not a=>a.names | .bin _ a b=>a.names++b.names
def joinW:List Str:=["and", "or", "odd", "same"]
def Tr.ok (ns:List Str):Tr->Prop
 | .is x=>x ∈ ns | .yes=>True | .no=>True | .not a=>a.ok ns | .bin w a b=>w ∈ joinW/\a.ok ns/\b.ok ns
inductive TreeAt (H:Hp):V->Tr->Prop
 | is {a:Addr} {x:Str}:H a=some (.tup [.str "is", .str x])->TreeAt H (.ref a) (.is x)
 | yes {a:Addr}:H a=some (.tup [.str "yes"])->TreeAt H (.ref a) .yes
 | no {a:Addr}:H a=some (.tup [.str "no"])->TreeAt H (.ref a) .no
 | not {a:Addr} {v:V} {t:Tr}:H a=some (.tup [.str "not", v])->TreeAt H v t->TreeAt H (.ref a) (.not t)
 | bin {a:Addr} {w:Str} {v u:V} {t r:Tr}:H a=some (.tup [.str w,v,u])->TreeAt H v t->TreeAt H u r->TreeAt H (.ref a) (.bin w t r)
abbrev cX (H H':Hp):Prop:=∀ a xs,H a=some (.tup xs)->H' a=some (.tup xs)
theorem TreeAt.mono {H H':Hp} (k:cX H H') {v:V} {t:Tr} (h:TreeAt H v t):TreeAt H' v t:=by
 induction h with
 | is e=>exact .is (k _ _ e)
 | yes e=>exact .yes (k _ _ e)
 | no e=>exact .no (k _ _ e)
 | not e _ ih=>exact .not (k _ _ e) ih
 | bin e _ _ i1 i2=>exact .bin (k _ _ e) i1 i2
theorem au {H H':Hp} (s:Same H H'):cX H H':=fun a _ h=>s a _ h
theorem keepT_feed {H H':Hp} {f:Addr} (F:FeedAt H f) (s:SameBut f H H'):cX H H':=fun a xs h=>s a _ (fun z=>by
 obtain ⟨o,t,e,_⟩:=F
 rw [z,e] at h
 cases h) h
def NamesAt (H:Hp) (a:Addr) (ns:List Str):Prop:=H a=some (.lst (ns.map V.str))∨H a=some (.tup (ns.map V.str))
theorem NamesAt.ne {H:Hp} {f a:Addr} {ns:List Str} (F:FeedAt H f) (h:NamesAt H a ns):a ≠ f:=fun z=>by
 obtain ⟨o,t,e,_⟩:=F
 subst z
 rcases h with h | h
 . rw [e] at h
   have h':=HO.lst.inj (Option.some.inj h)
   cases ns with
   | nil=>cases h'
   | cons x r=>simp at h'
 . rw [e] at h
   cases h
theorem NamesAt.feed {H H':Hp} {f a:Addr} {ns:List Str} (F:FeedAt H f) (s:SameBut f H H') (h:NamesAt H a ns):NamesAt H' a ns:=by
 have ne:=h.ne F
 rcases h with h | h
 . exact .inl (s _ _ ne h)
 . exact .inr (s _ _ ne h)
theorem NamesAt.same {H H':Hp} {a:Addr} {ns:List Str} (s:Same H H') (h:NamesAt H a ns):NamesAt H' a ns:=by
 rcases h with h | h
 . exact .inl (s _ _ h)
 . exact .inr (s _ _ h)
theorem NamesAt.seq {K:W.Frag} {H:Hp} {a:Addr} {ns:List Str} (h:NamesAt H a ns):SqL K H a (ns.map V.str)∨SqT K H a (ns.map V.str):=by
 rcases h with h | h
 . exact .inl (SqL.of h)
 . exact .inr (SqT.of h)
theorem NamesAt.ix {K:W.Frag} {H:Hp} {a:Addr} {ns:List Str} {i:Int} {x:V} {Q:VK} (h:NamesAt H a ns) (hx:atI (ns.map V.str) i=some x) (q:Q x H):rIxL K (.ref a) (.int i) H Q∨rIxT K (.ref a) (.int i) H Q:=by
 rcases h with h | h
 . exact .inl ⟨a,_,i,x,rfl,rfl,SqL.of h,hx,q⟩
 . exact .inr ⟨a,_,i,x,rfl,rfl,SqT.of h,hx,q⟩
def spTree (n:Nat):Sp:=fun vs H Q _=>∃ (f a:Addr) (room deep:Int) (ns:List Str),vs=[.ref f,.ref a,.int room,.int deep]/\FeedAt H f/\NamesAt H a ns/\ns.length<=6/\1<=room/\room<=100/\1<=deep/\deep+1<=(n:Int)+1 /\
 ∀ (v:V) (t:Tr) (H':Hp),FeedAt H' f->SameBut f H H'->TreeAt H' v t->t.ok ns->(t.size:Int)<=room->(t.depth:Int)<=deep->Q v H'
theorem at_in {α:Type} {l:List α} {i:Int} (h0:0<=i) (h:i < (l.length:Int)):∃ v,atI l i=some v/\v ∈ l:=by
 have hk:i.toNat < l.length:=by omega
 have q:atI l ((i.toNat:Nat):Int)=some l[i.toNat]:=cL (List.getElem?_eq_getElem hk)
 have ek:((i.toNat:Nat):Int)=i:=by omega
 rw [ek] at q
 exact ⟨_,q,List.getElem_mem hk⟩
end Mine
namespace L2
open PySem PySem.Spec PyProof.Rows
section
variable {X:Cx}
def rngV (lo:Int) (n:Nat):List Int:=(List.range n).map fun i:Nat=>lo+(i:Int)
theorem rngV_len (lo:Int) (n:Nat):(rngV lo n).length=n:=by unfold rngV; rw [List.length_map,List.length_range]
theorem rng_items {lo:Int} {n:Nat} {acc:List Value} (h:ItemsOf (fun i v=>∃ t,v=Value.int (lo+(i:Int)*1) t) acc.toArray n):Vals ((rngV lo n).map V.int) acc:=by
 obtain ⟨h1,h2⟩:=h
 have l1:acc.length=n:=by simpa using h1
 have key:∀ (k:Nat) (l:List Value),(∀ i v,l[i]?=some v->∃ t,v=Value.int (lo+((k+i:Nat):Int)) t)->Vals (((List.range' k l.length).map fun i:Nat=>lo+(i:Int)).map V.int) l:=by
  intro k l
  induction l generalizing k with
  | nil=>intro _; exact .nil
  | cons a r ih =>
    intro h
    obtain ⟨t,e⟩:=h 0 a rfl
    rw [List.length_cons,List.range'_succ,List.map_cons,List.map_cons]
    refine .cons ⟨t,by simpa using e⟩ (ih (k+1) fun i v hv=>?_)
    obtain ⟨t,e⟩:=h (i+1) v (by simpa using hv)
    exact ⟨t,by rw [e]; congr 2; omega⟩
 have:=key 0 acc fun i v hv=>by
  obtain ⟨t,e⟩:=h2 i v (by simpa using hv)
  exact ⟨t,by simpa using e⟩
 unfold rngV
 rw [← l1,List.range_eq_range']
 exact this
def tListRng (ta:TA):TE:=fun σ H Q=>ta σ H fun vs H1=>∃ i j:Int,vs=[.int i,.int j]/\(-(2 ^ 62)<=i/\i < 2 ^ 62/\-(2 ^ 62)<=j/\j < 2 ^ 62)/\j - i<=1000/\∀ p,H1 p=none->Q (.ref p) (upd H1 p (.lst ((rngV i (j - i).toNat).map V.int)))
theorem pe_listrng {a b:Expr} {ta:TA} {p1 p2 pos1 pos2:Pos} (hc:X.calm=true) (hg1:Gl X "list") (hm1:X.mg "list" = none) (hg2:Gl X "range") (hm2:X.mg "range" = none) (ha:PA X [a,b] ta)
 (hs1:starEach [(.Call (.Name "range" p2) [a,b] [] pos2:Expr)] X.env=[(false,eval (.Call (.Name "range" p2) [a,b] [] pos2) X.env)]:=by rfl) (hs:starEach [a,b] X.env=[(false,eval a X.env),(false,eval b X.env)]:=by rfl) (hs2:starEach [b] X.env=[(false,eval b X.env)]:=by rfl) :
 PE X (.Call (.Name "list" p1) [.Call (.Name "range" p2) [a,b] [] pos2] [] pos1) (tListRng ta):=by
 intro pins s σ H Q I h
 refine wpAny_Call_Name_kw (ld_blt I hg1 hm1 boot_list' ?_)
 refine PyProof.Rows.callWith_type1 ?_ hs1 rfl
 rw [hs1]
 show wpAny _ _ (spliced ((false,eval (.Call (.Name "range" p2) [a,b] [] pos2) X.env)::backTo pos1 (starEach [] X.env))) _ _ s
 have step:wpAny (model X.prog X.w) X.A (eval (.Call (.Name "range" p2) [a,b] [] pos2) X.env) (fun v s1=>∃ (r:Addr) (i j:Int) (t u k:Tok) (H1:Hp),v=.ref r/\Inv X pins σ H1 s1/\IsRange s1.heap r i j 1 t u k/\(-(2 ^ 62)<=i/\i < 2 ^ 62/\-(2 ^ 62)<=j/\j < 2 ^ 62)/\j - i<=1000 /\
  ∀ p,H1 p=none->Q (.ref p) (upd H1 p (.lst ((rngV i (j - i).toNat).map V.int)))) X.xe s:=by
  refine Call_ (ld_blt I hg2 hm2 boot_range (PyProof.Rows.callWith_type1 (thn (ha pos2 pins s σ H _ I h) fun us s1 ⟨vs,H1,I1,r1,q1⟩=>?_) (by rw [hs,hs2]) (by rw [hs2]; rfl)))
  obtain ⟨i,j,e,q1,q2,q⟩:=q1
  subst e
  cases r1 with
  | cons r rr =>
    cases rr with
    | cons r' rr =>
      cases rr
      obtain ⟨t,rfl⟩:=r
      obtain ⟨t',rfl⟩:=r'
      refine call_range_2 ⟨_,i,j,_,_,_,H1,rfl,I1.kept fun b o e=>Heap.get?_push_of_some _ e,IsRange.new ..,q1,q2,q⟩
 refine Calls.spliced_cons (thn step fun v s1 hv=>?_)
 obtain ⟨r,i,j,t,u,k,H1,rfl,I1,hr,⟨a1,a2,a3,a4⟩,hle,q⟩:=hv
 refine Calls.spliced_nil ?_
 have e2:Builtin.Range.rangeSize i j 1=(((j - i).toNat:Nat):Int):=by rw [rangeSize_one]; split <;> omega
 refine call_list_range (I1.ok.hd hc) hr (small_one a1 a2 a3 a4) e2 (by omega) fun h' tk acc' c' hk hS hacc=>?_
 obtain ⟨acc,rfl⟩:∃ acc:List Value,acc'=acc.toArray:=⟨acc'.toList,by simp⟩
 have rr:=rng_items hacc
 have I2:Inv X pins σ (upd H1 s1.heap.objs.size (.lst ((rngV i (j - i).toNat).map V.int))) { s1 with heap:=h',toks:=tk }:=by
  refine I1.turnedNew (ch:=[]) (fun b ob _ eb=>hk b ob eb) (fun b hb=>absurd hb (by simp)) (Nat.le_refl _) ⟨?_,acc,c',rr,hS⟩
  rw [List.length_map,rngV_len]
  exact dN (by omega)
 exact ⟨.ref s1.heap.objs.size,_,I2,rfl,q _ (I1.hok.fresh (Nat.le_refl _))⟩
def rSum (K:W.Frag):List V->Hp->VK->Prop:=fun xs H Q=>∃ (a:Addr) (ns:List Int),xs=[.ref a]/\SqL K H a (ns.map V.int)/\(∀ n ∈ ns,0<=n)/\ns.sum < 2 ^ 63/\Q (.int ns.sum) H
theorem ints_get:∀ {bs:List Int} {us:List Value} {i:Nat} {v:Value},Vals (bs.map V.int) us->us[i]?=some v->∃ b t,bs[i]?=some b/\v=.int b t
 | [],_,_,_,.nil,h=>by simp at h
 | b::_,_,0,_,.cons r _,h=>by
   simp at h
   subst h
   obtain ⟨t,e⟩:=r
   exact ⟨b,t,rfl,e⟩
 | _::_,_,i+1,_,.cons _ t,h=>by
   obtain ⟨b,t,h1,h2⟩:=ints_get (i:=i) t (by simpa using h)
   exact ⟨b,t,by simpa using h1,h2⟩
theorem sum_take_le {ns:List Int} (h:∀ n ∈ ns,0<=n) (j:Nat):0<=(ns.take j).sum/\(ns.take j).sum<=ns.sum:=by
 induction ns generalizing j with
 | nil=>simp
 | cons a r ih =>
   cases j with
   | zero =>
     have:=ih (fun n hn=>h n (List.mem_cons_of_mem _ hn)) r.length
     rw [List.take_length] at this
     have a0:=h a List.mem_cons_self
     simp only [List.take_zero,List.sum_nil,List.sum_cons]
     omega
   | succ j =>
     have:=ih (fun n hn=>h n (List.mem_cons_of_mem _ hn)) j
     have a0:=h a List.mem_cons_self
     simp only [List.take_succ_cons,List.sum_cons]
     omega
theorem preSum_take (ns:List Int) (j:Nat):preSum (fun i=>ns[i]?.getD 0) j=(ns.take j).sum:=by
 induction j with
 | zero=>simp; rfl
 | succ j ih =>
   show preSum (fun i=>ns[i]?.getD 0) j+(fun i=>ns[i]?.getD 0) j=_
   rw [ih,List.take_add_one,List.sum_append]
   cases e:ns[j]? with
   | none=>simp [e]
   | some x=>simp [e]
theorem call_sum (hc:X.calm=true):CallR X (.builtin "sum") (rSum X.K):=by
 intro pins s σ H xs us Q I r h
 obtain ⟨a,ns,rfl,hq,n0,nb,q⟩:=h
 obtain ⟨u,rfl,ru⟩:=vals1 r
 cases ru
 obtain ⟨its,r',p,hz⟩:=I.list hq
 have hl:=r'.length
 rw [List.length_map] at hl
 have hlt:a < s.heap.objs.size:=by obtain ⟨o,n,e,_⟩:=p; exact Heap.lt_size e
 refine call_sum_walk (wpAny_pyIter_list p.isList ?_)
 refine ⟨s.heap.objs.size,_,_,_,_,_,fun i=>ns[i]?.getD 0,rfl,Walks.list (A:=X.A.in1) (I.ok.hd hc) s.heap.objs.size a (Nat.ne_of_lt hlt) its.toArray,⟨⟨_,Heap.get?_push_size _ rfl,rfl,rfl⟩,p.isList.push _⟩,?_,?_,?_,?_⟩
 . intro b hb
   have hpz:∀ o:Obj,(s.heap.push o).objs.size=s.heap.objs.size+1:=fun o=>by simp [Heap.push]
   show b < (s.heap.push _).objs.size
   rw [hpz]
   rcases List.mem_cons.mp hb with e | e
   . rw [e]; exact Nat.lt_succ_self _
   . rw [List.mem_singleton.mp e]; exact Nat.lt_succ_of_lt hlt
 . intro i v hP
   obtain ⟨b,t,hb,rfl⟩:=ints_get r' (i:=i) (v:=v) (by simpa using hP)
   exact ⟨t,by simp [hb]⟩
 . intro j hj
   have hj':j < ns.length:=by rw [hl]; simpa using hj
   have s1:=sum_take_le n0 (j+1)
   rw [preSum_take]
   refine ⟨?_,by unfold InLong; omega⟩
   have s2:=sum_take_le n0 j
   have e:(ns.take (j+1)).sum=(ns.take j).sum+ns[j]:=by rw [List.take_add_one,List.sum_append,List.getElem?_eq_getElem hj']; simp
   have n1:=n0 _ (List.getElem_mem hj')
   show InLong (ns[j]?.getD 0)
   rw [List.getElem?_eq_getElem hj']
   show InLong ns[j]
   unfold InLong
   omega
 . intro h' tk t' hk
   rw [preSum_take,List.size_toArray,← hl,List.take_length]
   refine ⟨.int _,H,?_,⟨_,rfl⟩,q⟩
   have I1:Inv X pins σ H { s with heap:=s.heap.push { cls:=.type "list_iterator", data:=.fields #[.ref a,.int 0 0] } }:=I.kept (t':=s.toks) fun b o e=>Heap.get?_push_of_some _ e
   refine I1.turnedL (t':=tk) (ch:=[s.heap.objs.size]) (fun b o hb e=>hk b o (by simpa using hb) e) fun b hb=>?_
   rw [List.mem_singleton.mp hb]
   exact I.fpOk (Nat.le_refl _) (I.hok.fresh (Nat.le_refl _))
end
theorem rv_iter:Slot "reversed" "__iter__" "reversed.__iter__" := Slot.of (owner := "reversed") (n := "__iter__") (by rw [typeLookup_type,builtinLookup_eq_fast]; kernel_rfl) (by decide +kernel) (by decide +kernel) (by decide +kernel) (by first | exact .inl (by decide +kernel) | exact .inr (by decide +kernel)) (by rw [isSubtype_type]; kernel_rfl) (by decide +kernel)
theorem rv_next:Slot "reversed" "__next__" "reversed.__next__" := Slot.of (owner := "reversed") (n := "__next__") (by rw [typeLookup_type,builtinLookup_eq_fast]; kernel_rfl) (by decide +kernel) (by decide +kernel) (by decide +kernel) (by first | exact .inl (by decide +kernel) | exact .inr (by decide +kernel)) (by rw [isSubtype_type]; kernel_rfl) (by decide +kernel)
theorem tp_norev:typeLookup (.type "tuple") "__reversed__" = pure none:=by rw [typeLookup_type,builtinLookup_eq_fast]; kernel_rfl
theorem rv_e_iter:entryFor table "reversed.__iter__" = some Builtin.«dict_keyiterator.__iter__»:=entryFor_alias (by kernel_rfl) rfl (show _ = "dict_keyiterator.__iter__" by decide +kernel) (by kernel_rfl)
theorem rv_e_next:entryFor table "reversed.__next__" = some Builtin.«reversed.__next__»:=entryFor_of_tree (by kernel_rfl)
def RevT (h:Heap) (it t:Addr) (i:Int):Prop:=h.get? it=some { cls:=.type "reversed", data:=.fields #[.ref t,rawInt i] }
section
variable {prog:Program} {w:World} {A:Around} {E:Value->Shared->Prop} {s:Shared} {R:Result->Shared->Prop} {it t:Addr}
theorem RevT.typeIs {i:Int} (h:RevT s.heap it t i):s.TypeIs (.ref it) "reversed" := ⟨_,h,rfl⟩
theorem iter_revT {i:Int} {Q:Value->Shared->Prop} (h:RevT s.heap it t i) (q:Q (.ref it) s):wpAny (model prog w) A (pyIter (.ref it)) Q E s :=
 wpAny_pyIter_slot h.typeIs rv_iter (wpAny_call_entry rv_iter h.typeIs rv_e_iter (wpAny_pure ⟨_,rfl, "reversed", _,h.typeIs,rv_next.lookup,q⟩) (by rfl))
theorem next_revT_item {i:Nat} {items:Array Value} {x:Value} {Q:Option Value->Shared->Prop} (h:RevT s.heap it t (i:Int)) (ht:IsTup s.heap t items) (hx:items[i]?=some x) (hi:(i:Int) < 2 ^ 63)
 (q:∀ h' tk,RevT h' it t ((i:Int) - 1)->Heap.SameBut it s.heap h'->Q (some x) { s with heap:=h',toks:=tk }):wpAny (model prog w) A (pyNext (.ref it)) Q E s:=by
 have hT:=h.typeIs
 have hs:i < items.size:=(Array.getElem?_eq_some_iff.mp hx).1
 unfold pyNext
 refine wpAny_bind (wpAny_attempt (wpAny_callSpecial?_slot hT rv_next (wpAny_call_entry rv_next hT rv_e_next ?_ (by rfl))))
 unfold Builtin.«reversed.__next__»
 refine wpAny_bind (wpAny_of_eq (show slotArgs "__next__" 0 ⟨[.ref it],[]⟩=pure (.ref it,[]) from rfl) ?_)
 refine wpAny_bind (wpAny_field h rfl rfl ?_)
 refine wpAny_bind (wpAny_field h rfl rfl ?_)
 refine wpAny_ite_split (fun hab=>absurd hab (by omega)) (fun _=>?_)
 refine wpAny_bind (wpAny_specialOf (show s.TypeIs (.ref t) "tuple" from ht.typeIs) PyProof.Rows.slot_tuple_getitem.lookup ?_)
 refine wpAny_ite_split (fun hab=>absurd hab (by simp)) (fun _=>?_)
 refine wpAny_bind (wpAny_mkInt ?_)
 have e1:seqIndex? (i:Int) items.size=some i:=(ixN_seq (by unfold ixN; rw [if_pos (by omega),if_pos (by omega)]; simp)).1
 refine wpAny_bind (wpAny_attempt (PyProof.Rows.getItem_tuple (items:=items) (x:=x) ht (by omega) hi e1 hx ?_))
 refine wpAny_bind (wpAny_field h rfl rfl ?_)
 refine wpAny_bind (wpAny_setField_rec h (by simp) fun h' e hb=>?_)
 refine wpAny_pure ⟨_,rfl,wpAny_pure (q h' _ ?_ hb)⟩
 exact e
theorem next_revT_end {Q:Option Value->Shared->Prop} (hh:A.handled=none) (h:RevT s.heap it t (-1))
 (q:∀ h' tk,Heap.ExtBut it s.heap h'->Q none { s with heap:=h',toks:=tk }):wpAny (model prog w) A (pyNext (.ref it)) Q E s:=by
 have hT:=h.typeIs
 unfold pyNext
 refine wpAny_bind (wpAny_attempt (wpAny_callSpecial?_slot hT rv_next (wpAny_call_entry rv_next hT rv_e_next ?_ (by rfl))))
 unfold Builtin.«reversed.__next__»
 refine wpAny_bind (wpAny_of_eq (show slotArgs "__next__" 0 ⟨[.ref it],[]⟩=pure (.ref it,[]) from rfl) ?_)
 refine wpAny_bind (wpAny_field h rfl rfl ?_)
 refine wpAny_bind (wpAny_field h rfl rfl ?_)
 refine wpAny_ite_split (fun _=>?_) (fun hab=>absurd (by decide) hab)
 refine wpAny_bind (wpAny_rule ?_)
 refine wpAny_bind ?_
 show wpAny _ _ (setField (.ref it) 1 (rawInt (-1)) >>= fun _=>setField (.ref it) 0 Value.none) _ _ _
 refine wpAny_bind (wpAny_setField_rec h (by simp) fun h1 e1 b1=>?_)
 refine wpAny_setField_rec e1 (by simp) fun h2 e2 b2=>?_
 refine wpAny_bind ?_
 unfold Builtin.SmallTypes.stopIteration newExc newTuple
 refine wpAny_bind (wpAny_bind (wpAny_newObj_type ?_ (by show 0<=sizeLine; decide)))
 refine wpAny_bind (wpAny_of_eq (show firstArgMember (.type "StopIteration") []=pure .none by with_unfolding_all rfl) ?_)
 refine wpAny_newObj_type ?_ (sizeOk_excFields ..)
 refine wpAny_raiseNew_none hh ?_
 refine wpAny_bind (wpAny_isInstance (T := "StopIteration") ⟨_,Heap.get?_push_size _ rfl,rfl⟩ isSubtype_stop ?_)
 refine wpAny_ite_split (fun _=>?_) (fun hab=>absurd rfl hab)
 refine wpAny_pure (q _ _ ?_)
 exact (b1.extBut.trans b2.extBut).trans fun b o hb e=>Heap.get?_push_of_some _ (Heap.get?_push_of_some _ e)
theorem rv_init:Slot "reversed" "__init__" "object.__init__" := Slot.of (owner := "object") (n := "__init__") (by rw [typeLookup_type,builtinLookup_eq_fast]; kernel_rfl) (by decide +kernel) (by decide +kernel) (by decide +kernel) (by first | exact .inl (by decide +kernel) | exact .inr (by decide +kernel)) (by rw [isSubtype_type]; kernel_rfl) (by decide +kernel)
theorem rv_called:TypeCalled "reversed" "reversed.__new__" "object.__init__" := ⟨by decide,F.create_reversed,⟨_,_,F.mro_reversed⟩,F.made_reversed,F.plain_reversed_new,F.sub_reversed_self,rv_init⟩
theorem tp_nodict:isSubtype (.type "tuple") (.type "dict")=pure false:=by rw [isSubtype_type]; kernel_rfl
theorem call_reversed_tup {items:Array Value} {Q:Value->Shared->Prop} (ht:IsTup s.heap t items) (hz:items.size<=sizeLine)
 (q:∀ tk,Q (.ref s.heap.objs.size) { s with heap:=s.heap.push { cls:=.type "reversed", data:=.fields #[.ref t,rawInt ((items.size:Int) - 1)] },toks:=tk }):wpAny (model prog w) A (call (.type "reversed") [.ref t]) Q E s:=by
 have h63:=line63
 refine callType_newIn rv_called (by decide) (F.typeCall_reversed_1 _) (F.newCall_reversed_1 _) (fun _=>by rfl) F.entry_reversed_new
  (S:=fun A R s=>wpAny (model prog w) A.in1 (Builtin.«reversed.__new__» ⟨[.type "reversed", .ref t],[]⟩) (fun fin s'=>match fin with | .done f=>R (.ok f) s' | .again c'=>c'.quiet=true/\codeAny (model prog w) A c' R s') (fun e s'=>R (.error e) s') s) (fun A R s h=>h) ?_
 unfold Builtin.«reversed.__new__»
 refine wpAny_bind (wpAny_of_eq (newClass_reversed _) ?_)
 refine wpAny_bind (wpAny_of_eq (a:=()) rfl ?_)
 refine wpAny_bind (wpAny_of_eq (a:=()) rfl ?_)
 refine wpAny_bind (wpAny_specialOf ht.typeIs tp_norev ?_)
 refine wpAny_bind ?_
 refine wpAny_bind (wpAny_isInstance ht.typeIs tp_nodict ?_)
 refine wpAny_ite_split (fun hab=>absurd hab (by decide)) (fun _=>?_)
 refine wpAny_bind (wpAny_specialOf ht.typeIs PyProof.Rows.slot_tuple_getitem.lookup ?_)
 refine wpAny_ite_split (fun _=>?_) (fun hab=>absurd (by decide +kernel) hab)
 refine wpAny_pure ?_
 refine wpAny_ite_split (fun hab=>absurd hab (by decide)) (fun _=>?_)
 refine wpAny_bind (len_tuple ht (by omega) ?_)
 refine wpAny_bind (wpAny_pure ?_)
 refine wpAny_bind (wpAny_newObj_type (data:=.fields #[.ref t,rawInt ((items.size:Int) - 1)]) ?_ (by show 2<=sizeLine+2; decide))
 refine wpAny_pure ?_
 exact ⟨⟨_,Heap.get?_push_size _ rfl,rfl⟩,q _⟩
end
end L2
namespace Mine
open PySem L2
def Tr.wf:Tr->Prop
 | .is x=>NmOk x | .yes=>True | .no=>True | .not a=>a.wf | .bin w a b=>w ∈ joinW/\a.wf/\b.wf
def Tr.parts:Tr->List Tr
 | .is _=>[] | .yes=>[] | .no=>[] | .not a=>[a] | .bin _ a b=>[a,b]
theorem Tr.ok_wf {ns:List Str} (hn:∀ x ∈ ns,NmOk x):∀ t:Tr,t.ok ns->t.wf
 | .is _,h=>hn _ h
 | .yes,_=>trivial
 | .no,_=>trivial
 | .not a,h=>Tr.ok_wf hn a h
 | .bin _ a b,⟨h,h1,h2⟩=>⟨h,Tr.ok_wf hn a h1,Tr.ok_wf hn b h2⟩
theorem Tr.depth_pos:∀ t:Tr,1<=t.depth
 | .is _=>Nat.le_refl _ | .yes=>Nat.le_refl _ | .no=>Nat.le_refl _ | .not a=>Nat.le_add_left .. | .bin _ a b=>Nat.le_add_left ..
def sizes (ts:List Tr):Nat:=(ts.map Tr.size).sum
def namesL (ts:List Tr):List Str:=(ts.map Tr.names).flatten
theorem Tr.size_parts (t:Tr):t.size=sizes t.parts+1:=by
 cases t <;> simp [Tr.size,Tr.parts,sizes]
theorem Tr.names_parts (t:Tr) (h:∀ x,t ≠ .is x):t.names=namesL t.parts:=by
 cases t with
 | is x=>exact absurd rfl (h x)
 | _=>simp [Tr.names,Tr.parts,namesL]
theorem Tr.parts_mem {t u:Tr} (h:u ∈ t.parts) (w:t.wf):u.wf/\u.depth+1<=t.depth/\u.size+1<=t.size:=by
 cases t with
 | is x=>simp [Tr.parts] at h
 | yes=>simp [Tr.parts] at h
 | no=>simp [Tr.parts] at h
 | not a =>
   rw [List.mem_singleton.mp h]
   exact ⟨w,Nat.le_refl _,Nat.le_refl _⟩
 | bin o a b =>
   obtain ⟨_,w1,w2⟩:=w
   rcases List.mem_cons.mp h with e | e
   . rw [e]
     refine ⟨w1,?_,?_⟩
     . show a.depth+1<=max a.depth b.depth+1
       omega
     . show a.size+1<=a.size+b.size+1
       omega
   . rw [List.mem_singleton.mp e]
     refine ⟨w2,?_,?_⟩
     . show b.depth+1<=max a.depth b.depth+1
       omega
     . show b.size+1<=a.size+b.size+1
       omega
inductive TreesAt (H:Hp):List V->List Tr->Prop
 | nil:TreesAt H [] []
 | cons {v:V} {t:Tr} {vs:List V} {ts:List Tr}:TreeAt H v t->TreesAt H vs ts->TreesAt H (v::vs) (t::ts)
theorem TreesAt.mono {H H':Hp} (k:cX H H') {vs:List V} {ts:List Tr} (h:TreesAt H vs ts):TreesAt H' vs ts:=by
 induction h with
 | nil=>exact .nil
 | cons a _ ih=>exact .cons (a.mono k) ih
theorem TreesAt.append {H:Hp} {vs us:List V} {ts rs:List Tr} (h:TreesAt H vs ts) (g:TreesAt H us rs):TreesAt H (vs++us) (ts++rs):=by
 induction h with
 | nil=>exact g
 | cons a _ ih=>exact .cons a ih
theorem TreesAt.length {H:Hp} {vs:List V} {ts:List Tr} (h:TreesAt H vs ts):vs.length=ts.length:=by
 induction h with
 | nil=>rfl
 | cons _ _ ih=>rw [List.length_cons,List.length_cons,ih]
theorem TreesAt.get {H:Hp} {vs:List V} {ts:List Tr} (h:TreesAt H vs ts):∀ {i:Nat} {v:V},vs[i]?=some v->∃ t,ts[i]?=some t/\TreeAt H v t:=by
 induction h with
 | nil=>intro i v e; simp at e
 | cons a _ ih =>
   intro i v e
   cases i with
   | zero=>cases (Option.some.inj e); exact ⟨_,rfl,a⟩
   | succ i=>exact ih (i:=i) (by simpa using e)
theorem join_ne_is {w:Str} (h:w ∈ joinW):w ≠ "is" := (by decide +kernel:∀ w ∈ joinW,w ≠ ("is" : Str)) w h
theorem TreeAt.view {H:Hp} {v:V} {t:Tr} (h:TreeAt H v t) (w:t.wf):(∃ (a:Addr) (x:Str),v=.ref a/\t=.is x/\NmOk x/\H a=some (.tup [.str "is", .str x])) ∨
 ∃ (a:Addr) (o:Str) (xs:List V),v=.ref a/\o ≠ "is" /\ xs.length<=2/\H a=some (.tup (.str o::xs))/\TreesAt H xs t.parts/\(∀ x,t ≠ .is x):=by
 cases h with
 | is e=>exact .inl ⟨_,_,rfl,rfl,w,e⟩
 | yes e=>exact .inr ⟨_,_,[],rfl,by decide +kernel,by simp,e,.nil,fun x z=>by cases z⟩
 | no e=>exact .inr ⟨_,_,[],rfl,by decide +kernel,by simp,e,.nil,fun x z=>by cases z⟩
 | not e g=>exact .inr ⟨_,_,[_],rfl,by decide +kernel,by simp,e,.cons g .nil,fun x z=>by cases z⟩
 | bin e g g2=>exact .inr ⟨_,_,[_,_],rfl,join_ne_is w.1,by simp,e,.cons g (.cons g2 .nil),fun x z=>by cases z⟩
theorem cut1 (o:V):∀ xs:List V,xs.length<=2->cutV (o::xs) (some 1) none=xs/\¬ (HT.sIx (o::xs).length 0 (some 1)=0/\HT.sIx (o::xs).length (o::xs).length none=(o::xs).length)
 | [],_=>⟨rfl,fun h=>absurd h.1 (show ¬ HT.sIx 1 0 (some 1)=0 by decide)⟩
 | [_],_=>⟨rfl,fun h=>absurd h.1 (show ¬ HT.sIx 2 0 (some 1)=0 by decide)⟩
 | [_,_],_=>⟨rfl,fun h=>absurd h.1 (show ¬ HT.sIx 3 0 (some 1)=0 by decide)⟩
 | _::_::_::_,h=>absurd h (by simp)
def Tr.data:Tr->PyData
 | .is x=>.tuple [.str "is", .str x] | .yes=>.tuple [.str "yes"] | .no=>.tuple [.str "no"] | .not a=>.tuple [.str "not", a.data] | .bin w a b=>.tuple [.str w,a.data,b.data]
theorem rep_tree {K:W.Frag} {H:Hp} {v:V} {t:Tr} (h:TreeAt H v t):Rep K H v t.data:=by
 induction h with
 | is e=>exact .tup (SqT.of e) (.cons (.str _) (.cons (.str _) .nil))
 | yes e=>exact .tup (SqT.of e) (.cons (.str _) .nil)
 | no e=>exact .tup (SqT.of e) (.cons (.str _) .nil)
 | not e _ ih=>exact .tup (SqT.of e) (.cons (.str _) (.cons ih .nil))
 | bin e _ _ i1 i2=>exact .tup (SqT.of e) (.cons (.str _) (.cons i1 (.cons i2 .nil)))
theorem strOk_nm {x:Str} (h:NmOk x):PyData.strOk x=true:=by
 unfold PyData.strOk
 rw [← Array.all_toList,List.all_eq_true]
 intro c hc
 have:=h.2.1 c hc
 exact decide_eq_true (by omega)
theorem data_ok:∀ t:Tr,t.wf->PyData.canLay0 t.data=true/\PyData.depth t.data<=t.depth+1
 | .is x,h=>by
   have:=strOk_nm h
   simp [Tr.data,PyData.canLay0,PyData.canLayAll0,PyData.depth,PyData.depthAll,Tr.depth,this]
   decide +kernel
 | .yes,_=>by
   simp [Tr.data,PyData.canLay0,PyData.canLayAll0,PyData.depth,PyData.depthAll,Tr.depth]
   decide +kernel
 | .no,_=>by
   simp [Tr.data,PyData.canLay0,PyData.canLayAll0,PyData.depth,PyData.depthAll,Tr.depth]
   decide +kernel
 | .not a,h=>by
   have ih:=data_ok a h
   have w0:PyData.strOk "not" = true:=by decide +kernel
   simp [Tr.data,PyData.canLay0,PyData.canLayAll0,PyData.depth,PyData.depthAll,Tr.depth,ih.1,w0]
   omega
 | .bin w a b,⟨hw,h1,h2⟩=>by
   have i1:=data_ok a h1
   have i2:=data_ok b h2
   have w0:PyData.strOk w=true:=(by decide +kernel:∀ w ∈ joinW,PyData.strOk w=true) w hw
   simp [Tr.data,PyData.canLay0,PyData.canLayAll0,PyData.depth,PyData.depthAll,Tr.depth,i1.1,i2.1,w0]
   omega
theorem Tr.names_len:∀ t:Tr,t.names.length<=t.size
 | .is _=>Nat.le_refl _
 | .yes=>Nat.zero_le _
 | .no=>Nat.zero_le _
 | .not a=>Nat.le_succ_of_le (Tr.names_len a)
 | .bin _ a b=>by
   have:=Tr.names_len a
   have:=Tr.names_len b
   show (a.names++b.names).length<=a.size+b.size+1
   rw [List.length_append]
   omega
end Mine
namespace L2
open PySem PySem.Spec PyProof.Rows
section
variable {prog:Program} {w:World} {A:Around} {E:Value->Shared->Prop} {s:Shared}
def idxF (xs:Array Value) (x:Value):Nat->Option PySem.Fin × Unit->Sem (ForInStep (Option PySem.Fin × Unit)):=fun i _=>match xs[i]? with
 | some y=>do
   let b ← eqBool y x
   if b=true then do
    let r ← retInt (i:Int)
    pure (ForInStep.done (some r,()))
    else pure (ForInStep.yield (none,()))
 | _=>pure (ForInStep.yield (none,()))
theorem idx_loop {xs:Array Value} {x:Value} {e:Value->Bool} (he:∀ y ∈ xs,SeqAt.EqAt A s y x (e y)) {j:Nat} (hj:j < xs.size) (ej:e xs[j]=true) (bf:∀ (m:Nat) (hm:m < xs.size),m < j->e xs[m]=false) {Q:Option PySem.Fin × Unit->Shared->Prop}
 (q:Q (some (.done (.ret (.int (j:Int) s.toks))),()) { s with toks:=s.toks+1 }):∀ (n k:Nat),k<=j->j < k+n->k+n<=xs.size->wpAny (model prog w) A (forIn (List.range' k n 1) ((none:Option PySem.Fin),()) (idxF xs x)) Q E s
 | 0,k,h1,h2,_=>absurd h2 (by omega)
 | n+1,k,h1,h2,h3=>by
   have hk:k < xs.size:=by omega
   rw [List.range'_succ,List.forIn_cons]
   refine wpAny_bind ?_
   have e1:idxF xs x k ((none:Option PySem.Fin),())=(do
    let b ← eqBool xs[k] x
    if b=true then do
     let r ← retInt (k:Int)
     pure (ForInStep.done (some r,()))
     else pure (ForInStep.yield (none,()))):=by
    unfold idxF
    rw [Array.getElem?_eq_getElem hk]
   rw [e1]
   refine wpAny_bind (he _ (Array.getElem_mem hk) prog w _ _ ?_)
   by_cases c:k=j
   . subst c
     rw [ej]
     refine wpAny_ite_split (fun _=>?_) (fun hab=>absurd rfl hab)
     refine wpAny_bind ?_
     refine wpAny_bind (wpAny_mkInt ?_)
     refine wpAny_pure ?_
     refine wpAny_pure ?_
     exact wpAny_pure q
   . rw [bf k hk (by omega)]
     refine wpAny_ite_split (fun hab=>absurd hab (by decide)) (fun _=>?_)
     refine wpAny_pure ?_
     exact idx_loop he hj ej bf q n (k+1) (by omega) (by omega) (by omega)
theorem meets_tupIndex (l:Addr) (items:Array Value) (n:Nat) (dd:Option Addr) (sl:Array (Option Value)) (x:Value) (e:Value->Bool) (j:Nat) (hj:j < items.size) (ej:e items[j]=true) (bf:∀ (m:Nat) (hm:m < items.size),m < j->e items[m]=false) :
 Meets (Builtin.«tuple.index» { pos:=[.ref l,x] }) fun A R s=>s.heap.get? l=some { cls:=.type "tuple", dict:=dd,data:=.seq items n,slots:=sl }/\(∀ y ∈ items,SeqAt.EqAt A.in1 s y x (e y))/\R (.ok (.ret (.int (j:Int) s.toks))) { s with toks:=s.toks+1 }:=by
 intro prog w A R s ⟨hl,he,q⟩
 unfold Builtin.«tuple.index»
 refine wpAny_bind (wpAny_of_eq (a:=(Value.ref l,[x])) rfl ?_)
 refine wpAny_bind (wpAny_tupleItemsOf hl rfl ?_)
 refine wpAny_bind (wpAny_pure ?_)
 refine wpAny_bind (wpAny_pure ?_)
 refine wpAny_bind ?_
 rw [Std.Legacy.Range.forIn_eq_forIn_range']
 have e1:Std.Legacy.Range.size [0:min items.size items.size]=items.size:=by simp [Std.Legacy.Range.size]
 rw [e1]
 refine idx_loop he hj ej bf ?_ items.size 0 (Nat.zero_le _) (by omega) (by omega)
 exact wpAny_pure q
end
section
variable {X:Cx}
def posOf (z:Str):List Str->Option Nat
 | []=>none
 | a::r=>if a=z then some 0 else (posOf z r).map (·+1)
theorem posOf_lt {z:Str}:∀ {ns:List Str} {j:Nat},posOf z ns=some j->ns[j]?=some z/\∀ m,m < j->∀ y,ns[m]?=some y->y ≠ z
 | [],_,h=>by simp [posOf] at h
 | a::r,j,h=>by
   unfold posOf at h
   by_cases c:a=z
   . rw [if_pos c] at h
     cases h
     exact ⟨by simp [c],fun m hm=>absurd hm (by omega)⟩
   . rw [if_neg c] at h
     obtain ⟨i,hi,rfl⟩:=Option.map_eq_some_iff.mp h
     obtain ⟨h1,h2⟩:=posOf_lt hi
     refine ⟨by simpa using h1,fun m hm y hy=>?_⟩
     cases m with
     | zero=>cases (Option.some.inj hy); exact c
     | succ m=>exact h2 m (by omega) y (by simpa using hy)
theorem strs_get:∀ {bs:List Str} {us:List Value} {i:Nat} {v:Value},Vals (bs.map V.str) us->us[i]?=some v->∃ b t,bs[i]?=some b/\v=.str b t
 | [],_,_,_,.nil,h=>by simp at h
 | b::_,_,0,_,.cons r _,h=>by
   simp at h
   subst h
   obtain ⟨t,e⟩:=r
   exact ⟨b,t,rfl,e⟩
 | _::_,_,i+1,_,.cons _ t,h=>by
   obtain ⟨b,t,h1,h2⟩:=strs_get (i:=i) t (by simpa using h)
   exact ⟨b,t,by simpa using h1,h2⟩
theorem flat_strs (ns:List Str):(ns.map V.str).all flatV=true:=by
 induction ns with
 | nil=>rfl
 | cons a r ih=>rw [List.map_cons,List.all_cons,ih]; rfl
theorem index_facts {ns:List Str} {its:List Value} {z:Str} {j:Nat} (r:Vals (ns.map V.str) its) (h:posOf z ns=some j) :
 ∃ hj:j < its.toArray.size,eqU (.str z) its.toArray[j]=true/\∀ (m:Nat) (hm:m < its.toArray.size),m < j->eqU (.str z) its.toArray[m]=false:=by
 obtain ⟨h1,h2⟩:=posOf_lt h
 have hl:=r.length
 rw [List.length_map] at hl
 have jl:j < ns.length:=(List.getElem?_eq_some_iff.mp h1).1
 have hj:j < its.toArray.size:=by rw [List.size_toArray,← hl]; exact jl
 refine ⟨hj,?_,fun m hm mj=>?_⟩
 . obtain ⟨b,t,e1,e2⟩:=strs_get r (i:=j) (v:=its.toArray[j]) (by simp)
   rw [e2]
   rw [h1] at e1
   cases e1
   show (z == z)=true
   simp
 . obtain ⟨b,t,e1,e2⟩:=strs_get r (i:=m) (v:=its.toArray[m]) (by simp)
   rw [e2]
   show (b == z)=false
   have:=h2 m mj b e1
   simpa using this
def rIndexT (K:W.Frag):V->List V->Hp->VK->Prop:=fun x vs H Q=>∃ (a:Addr) (ns:List Str) (z:Str) (j:Nat),x=.ref a/\vs=[.str z]/\SqT K H a (ns.map V.str)/\posOf z ns=some j/\Q (.int (j:Int)) H
theorem mt_indexT:MtR X "tuple.index" (rIndexT X.K):=by
 intro pins s σ H x vs v us Q I rx rv h
 obtain ⟨a,ns,z,j,rfl,rfl,hq,hp,q⟩:=h
 cases rx
 obtain ⟨u,rfl,ru⟩:=rv.one
 obtain ⟨its,r,⟨⟨cls,dd,data,sl⟩,ho,hc,n,hd⟩,hz⟩:=I.tuple hq
 simp only at hc hd
 subst hc hd
 obtain ⟨hj,e1,e2⟩:=index_facts r hp
 refine call_meets F.slot_tuple_index ⟨_,ho,rfl⟩ F.entry_tuple_index (F.args_tuple_index_2 _ _) (meets_tupIndex a its.toArray n dd sl u (eqU (.str z)) j hj e1 e2) ⟨ho,fun y hy=>?_,?_⟩
 . exact mem_eqAt ru rfl r (flat_strs ns) y (by simpa using hy)
 . exact ⟨.int (j:Int),H,I.tok _,⟨_,rfl⟩,q⟩
def rIndexL (K:W.Frag):V->List V->Hp->VK->Prop:=fun x vs H Q=>∃ (a:Addr) (ns:List Str) (z:Str) (j:Nat),x=.ref a/\vs=[.str z]/\SqL K H a (ns.map V.str)/\posOf z ns=some j/\Q (.int (j:Int)) H
theorem mt_indexL:MtR X "list.index" (rIndexL X.K):=by
 intro pins s σ H x vs v us Q I rx rv h
 obtain ⟨a,ns,z,j,rfl,rfl,hq,hp,q⟩:=h
 cases rx
 obtain ⟨u,rfl,ru⟩:=rv.one
 obtain ⟨its,r,⟨⟨cls,dd,data,sl⟩,n,ho,hc,hdd,hd⟩,hz⟩:=I.list hq
 simp only at hc hd
 subst hc hd
 obtain ⟨hj,e1,e2⟩:=index_facts r hp
 have h63:=line63
 have hl:=r.length
 refine call_meets F.slot_list_index ⟨_,ho,rfl⟩ F.entry_list_index (F.args_list_index_2 _ _) (SeqAt.list_indexAt a its.toArray n dd sl u (eqU (.str z)) j hj (by rw [List.size_toArray] at hj; omega) e1 e2) ⟨ho,fun y hy=>?_,?_⟩
 . exact mem_eqAt ru rfl r (flat_strs ns) y (by simpa using hy)
 . exact ⟨.int (j:Int),H,I.tok _,⟨_,rfl⟩,q⟩
end
section
variable {κ:Type} [DecidableEq κ]
def valV (kvs:List (κ × V)) (k:κ):Option V:=(kvs.find? fun kv=>decide (kv.1=k)).map (·.2)
def putK (kvs:List (κ × V)) (k:κ) (v:V):List (κ × V) :=
 if (kvs.any fun kv=>decide (kv.1=k))=true then kvs.map (fun kv=>if kv.1=k then (kv.1,v) else kv) else kvs++[(k,v)]
theorem valV_pos {p:κ × V} {r:List (κ × V)} {k:κ} (e:p.1=k):valV (p::r) k=some p.2:=by simp [valV,List.find?_cons,e]
theorem valV_neg {p:κ × V} {r:List (κ × V)} {k:κ} (e:¬ p.1=k):valV (p::r) k=valV r k:=by simp [valV,List.find?_cons,e]
theorem valV_any (k:κ):∀ kvs:List (κ × V),(kvs.any fun kv=>decide (kv.1=k))=(valV kvs k).isSome
 | []=>rfl
 | p::r=>by
   rw [List.any_cons]
   by_cases e:p.1=k
   . simp only [valV_pos e,decide_eq_true e,Bool.true_or,Option.isSome_some]
   . rw [valV_neg e,decide_eq_false e,Bool.false_or]; exact valV_any k r
theorem length_putK (kvs:List (κ × V)) (k:κ) (v:V):(putK kvs k v).length<=kvs.length+1:=by
 unfold putK
 split
 . rw [List.length_map]; omega
 . rw [List.length_append,List.length_cons,List.length_nil]; omega
theorem RelO.isSome_eq {o:Option V} {u:Option Value} (r:RelO o u):o.isSome=u.isSome:=by
 cases o with
 | none=>cases u with
   | none=>rfl
   | some _=>exact (show False from r).elim
 | some _=>cases u with
   | none=>exact (show False from r).elim
   | some _=>rfl
theorem KV.val {kvs:List (κ × V)} {vs:List (κ × Value)} (r:KV kvs vs) (k:κ):RelO (valV kvs k) (valueAt vs k):=by
 unfold KV at r
 induction r with
 | nil=>exact True.intro
 | @cons p q ps qs h t ih =>
   obtain ⟨h1,h2⟩:=h
   by_cases e:p.1=k
   . have e':q.1=k:=h1.symm.trans e
     have b:valueAt (q::qs) k=some q.2:=by simp [valueAt,List.find?_cons,e']
     rw [valV_pos e,b]; exact h2
   . have e':¬ q.1=k:=fun z=>e (h1.trans z)
     have b:valueAt (q::qs) k=valueAt qs k:=by simp [valueAt,List.find?_cons,e']
     rw [valV_neg e,b]; exact ih
theorem KV.any {kvs:List (κ × V)} {vs:List (κ × Value)} (r:KV kvs vs) (k:κ):(kvs.any fun kv=>decide (kv.1=k))=vs.any fun kv=>decide (kv.1=k):=by
 unfold KV at r
 induction r with
 | nil=>rfl
 | cons h t ih=>rw [List.any_cons,List.any_cons,ih,h.1]
theorem KV.repl {kvs:List (κ × V)} {vs:List (κ × Value)} (r:KV kvs vs) (k:κ) {y:V} {u:Value} (ry:RelV y u) :
 KV (kvs.map fun kv=>if kv.1=k then (kv.1,y) else kv) (vs.map fun kv=>if kv.1=k then (kv.1,u) else kv):=by
 unfold KV at r ⊢
 induction r with
 | nil=>exact .nil
 | @cons p q ps qs h t ih =>
   rw [List.map_cons,List.map_cons]
   refine .cons ?_ ih
   obtain ⟨h1,h2⟩:=h
   by_cases e:p.1=k
   . rw [if_pos e,if_pos (h1.symm.trans e)]; exact ⟨h1,ry⟩
   . rw [if_neg e,if_neg (fun z=>e (h1.trans z))]; exact ⟨h1,h2⟩
theorem KV.put {kvs:List (κ × V)} {vs:List (κ × Value)} (r:KV kvs vs) (k:κ) {y:V} {u:Value} (ry:RelV y u):KV (putK kvs k y) (stored vs k u):=by
 unfold putK stored
 rw [r.any k]
 by_cases e:(vs.any fun kv=>decide (kv.1=k))=true
 . rw [if_pos e,if_pos e]; exact r.repl k ry
 . rw [if_neg e,if_neg e]; exact Paired.snoc r ⟨rfl,ry⟩
theorem KV.length {kvs:List (κ × V)} {vs:List (κ × Value)} (r:KV kvs vs):kvs.length=vs.length:=Paired.length r
end
theorem kV_is {P:Program} {w:World} {k:Key} {u:Value} (r:RelV (kV k) u):(cK P w).is k u=true:=by
 cases k with
 | inl i=>obtain ⟨t,e⟩:=(show ∃ t,u=Value.int i t from r); subst e; exact mixKind_int P w i t
 | inr x=>obtain ⟨t,e⟩:=(show ∃ t,u=Value.str x t from r); subst e; exact mixKind_str P w x t
theorem items_are {P:Program} {w:World}:∀ {ks:List Key} {us:List Value},Vals (ks.map kV) us->ItemsAre (cK P w) ks us
 | [],_,r=>by rw [List.map_nil] at r; cases r; exact .nil
 | k::ks,_,r=>by
   rw [List.map_cons] at r
   cases r with
   | cons h t=>exact .cons (kV_is h) (items_are t)
abbrev KT (H:Hp):List (List Key × V)->List (List Key × Addr × Value)->Prop:=Paired fun p q=>p.1=q.1/\H q.2.1=some (.tup (p.1.map kV))/\RelV p.2 q.2.2
theorem KT.val {H:Hp} {kvs:List (List Key × V)} {xs:List (List Key × Addr × Value)} (r:KT H kvs xs) (k:List Key):RelO (valV kvs k) ((atKey xs k).map (·.2)):=by
 induction r with
 | nil=>exact True.intro
 | @cons p q ps qs h t ih =>
   obtain ⟨h1,_,h2⟩:=h
   by_cases e:p.1=k
   . have e':q.1=k:=h1.symm.trans e
     have b:atKey (q::qs) k=some q.2:=by simp [atKey,List.find?_cons,e']
     rw [valV_pos e,b]; exact h2
   . have e':¬ q.1=k:=fun z=>e (h1.trans z)
     have b:atKey (q::qs) k=atKey qs k:=by simp [atKey,List.find?_cons,e']
     rw [valV_neg e,b]; exact ih
theorem KT.repl {H:Hp} {kvs:List (List Key × V)} {xs:List (List Key × Addr × Value)} (r:KT H kvs xs) (k:List Key) {y:V} {u:Value} (ry:RelV y u) :
 KT H (kvs.map fun kv=>if kv.1=k then (kv.1,y) else kv) (xs.map (putAt k u)):=by
 induction r with
 | nil=>exact .nil
 | @cons p q ps qs h t ih =>
   rw [List.map_cons,List.map_cons]
   refine .cons ?_ ih
   obtain ⟨h1,h2,h3⟩:=h
   unfold putAt
   by_cases e:p.1=k
   . rw [if_pos e,if_pos (h1.symm.trans e)]; exact ⟨h1,h2,ry⟩
   . rw [if_neg e,if_neg (fun z=>e (h1.trans z))]; exact ⟨h1,h2,h3⟩
theorem KT.put {H:Hp} {kvs:List (List Key × V)} {xs:List (List Key × Addr × Value)} (r:KT H kvs xs) (k:List Key) {b:Addr} {y:V} {u:Value} (hb:H b=some (.tup (k.map kV))) (ry:RelV y u) :
 KT H (putK kvs k y) (storedH xs k b u):=by
 have e:(kvs.any fun kv=>decide (kv.1=k))=(atKey xs k).isSome:=by
  rw [valV_any,(r.val k).isSome_eq,Option.isSome_map]
 unfold putK storedH
 rw [e]
 by_cases q:(atKey xs k).isSome=true
 . rw [if_pos q,if_pos q]; exact r.repl k ry
 . rw [if_neg q,if_neg q]; exact Paired.snoc r ⟨rfl,hb,ry⟩
theorem KT.keeps {H H':Hp} {kvs:List (List Key × V)} {xs:List (List Key × Addr × Value)} (r:KT H kvs xs) (ht:∀ b ys,H b=some (.tup ys)->H' b=some (.tup ys)):KT H' kvs xs :=
 Paired.mapP r fun _ _ z=>⟨z.1,ht _ _ z.2.1,z.2.2⟩
section
variable {P:Program} {w:World} {H:Hp} {h:Heap} {a:Addr}
theorem rd_of {u:HO} (ok:HOk P w H h) (e:Rd H a u):ObjOk P w H h a u:=e.ok ok
theorem dk_rd {kvs:List (Key × V)} (ok:HOk P w H h) (e:Rd H a (.dK kvs)):kvs.length<=sizeLine/\(a == sysModules)=false/\∃ vs,KV kvs vs/\h.DictOf (cK P w) a vs :=
 show ObjOk P w H h a (.dK kvs) from rd_of ok e
theorem dk_of {kvs:List (Key × V)} (ok:HOk P w H h) (e:H a=some (.dK kvs)):kvs.length<=sizeLine/\(a == sysModules)=false/\∃ vs,KV kvs vs/\h.DictOf (cK P w) a vs:=dk_rd ok (.inl e)
theorem key_of {ks:List Key} (ok:HOk P w H h) (e:H a=some (.tup (ks.map kV))):(tupleKind (cK P w)).is h ks a:=by
 obtain ⟨_,its,r,⟨o,h1,h2,n,h3⟩,_⟩:=(show ObjOk P w H h a (.tup (ks.map kV)) from ok a _ e)
 exact ⟨o,its.toArray,n,h1,h2,h3,by simpa using items_are r⟩
theorem dt_rd {kvs:List (List Key × V)} (ok:HOk P w H h) (e:Rd H a (.dT kvs)):kvs.length<=sizeLine/\(a == sysModules)=false /\
 ∃ xs,KT H kvs xs/\h.DictOfH (tupleKind (cK P w)) a xs:=by
 obtain ⟨z,y,xs,r,o,es,ep,h1,h2,h3,h4,h5⟩:=(show ObjOk P w H h a (.dT kvs) from rd_of ok e)
 refine ⟨z,y,xs,r,o,es,ep,h1,h2,h3,h4,fun x hx=>?_,h5⟩
 have all:∀ {l:List (List Key × V)} {m:List (List Key × Addr × Value)},KT H l m->∀ x ∈ m,(tupleKind (cK P w)).is h x.1 x.2.1:=by
  intro l m q
  induction q with
  | nil=>intro x hx; exact nomatch hx
  | @cons p q ps qs hq t ih =>
    intro x hx
    rcases List.mem_cons.mp hx with e | hx
    . subst e
      exact key_of ok (by rw [← hq.1]; exact hq.2.1)
    . exact ih x hx
 exact all r x hx
theorem dt_of {kvs:List (List Key × V)} (ok:HOk P w H h) (e:H a=some (.dT kvs)):kvs.length<=sizeLine/\(a == sysModules)=false /\
 ∃ xs,KT H kvs xs/\h.DictOfH (tupleKind (cK P w)) a xs:=dt_rd ok (.inl e)
end
def DGet (H:Hp) (a:Addr) (y:V) (r:Option V):Prop :=
 (∃ kvs k,Rd H a (.dK kvs)/\y=kV k/\r=valV kvs k)∨∃ kvs k b,Rd H a (.dT kvs)/\y=.ref b/\H b=some (.tup (k.map kV))/\r=valV kvs k
def DPut (H:Hp) (a:Addr) (y v:V) (H':Hp):Prop :=
 (∃ kvs k,H a=some (.dK kvs)/\y=kV k/\kvs.length < sizeLine/\H'=upd H a (.dK (putK kvs k v))) ∨
 ∃ kvs k b,H a=some (.dT kvs)/\y=.ref b/\H b=some (.tup (k.map kV))/\kvs.length < sizeLine/\H'=upd H a (.dT (putK kvs k v))
theorem DGet.k {H:Hp} {a:Addr} {kvs:List (Key × V)} {k:Key} (e:H a=some (.dK kvs)):DGet H a (kV k) (valV kvs k):=.inl ⟨kvs,k,.inl e,rfl,rfl⟩
theorem DPut.k {H:Hp} {a:Addr} {kvs:List (Key × V)} {k:Key} {v:V} (e:H a=some (.dK kvs)) (hl:kvs.length < sizeLine):DPut H a (kV k) v (upd H a (.dK (putK kvs k v))):=.inl ⟨kvs,k,e,rfl,hl,rfl⟩
section
variable {X:Cx} {pins:List (Addr × Obj)} {σ:St} {H:Hp} {s:Shared} {a:Addr} {y v:V} {u r:Value} {o:Option V} {A:Around} {E:Value->Shared->Prop}
theorem Inv.big (I:Inv X pins σ H s):sysModules < s.heap.objs.size:=by
 have h:mainGlobals < s.heap.objs.size:=(I.mod.glob.keeps I.bk).lt
 exact Nat.lt_trans (by decide) h
theorem d_getItem {Q:Value->Shared->Prop} (hu:A.units+1 < cLine) (I:Inv X pins σ H s) (g:DGet H a y (some v)) (ry:RelV y u) (h:∀ w' s',Inv X pins σ H s'->RelV v w'->Q w' s') :
 wpAny (model X.prog X.w) A (getItem (.ref a) u) Q E s:=by
 rcases g with ⟨kvs,k,e,ey,l⟩ | ⟨kvs,k,b,e,ey,eb,l⟩
 . subst ey
   obtain ⟨z,hd,vs,rel,dd⟩:=dk_rd I.hok e
   obtain ⟨w',hw,rw'⟩:=RelO.some_of (v:=v) (o:=valueAt vs k) (by rw [l]; exact rel.val k)
   exact wpAny_getItem_of (kV_is ry) dd.mapOf hw (h w' _ (I.tok _) rw')
 . subst ey
   cases (show u=Value.ref b from ry)
   obtain ⟨z,hd,xs,rel,dd⟩:=dt_rd I.hok e
   obtain ⟨w',hw,rw'⟩:=RelO.some_of (v:=v) (o:=(atKey xs k).map (·.2)) (by rw [l]; exact rel.val k)
   obtain ⟨p,hp,hp2⟩:=Option.map_eq_some_iff.mp hw
   refine wpAny_getItem_heap (tupleKind_room_in1 hu) (key_of I.hok eb) dd hp ?_
   rw [hp2]
   exact h w' _ (I.tok _) rw'
theorem d_write {h':Heap} {t':Nat} {ob:HO} (I:Inv X pins σ H s) (mu:Mut (H a)) (hs:Heap.SameBut a s.heap h') (he:∃ q,h'.get? a=some q) (new:ObjOk X.prog X.w (upd H a ob) h' a ob) :
 Inv X pins σ (upd H a ob) { s with heap:=h',toks:=t' } :=
 I.write (x:=a) (e:=a) mu (.inl rfl) (fun b q hb z=>(hs.2 b hb).trans z) he new
theorem dk_new {P:Program} {w:World} {H':Hp} {h':Heap} {kvs:List (Key × V)} {vs:List (Key × Value)} (z:kvs.length<=sizeLine) (hd:(a == sysModules)=false) (rel:KV kvs vs) (dd:h'.DictOf (cK P w) a vs) :
 ObjOk P w H' h' a (.dK kvs):=⟨z,hd,vs,rel,dd⟩
theorem d_setItem {H':Hp} {Q:Unit->Shared->Prop} (hu:A.units+1 < cLine) (I:Inv X pins σ H s) (g:DPut H a y v H') (ry:RelV y u) (rv:RelV v r) (h:∀ s',Inv X pins σ H' s'->Q () s') :
 wpAny (model X.prog X.w) A (setItem (.ref a) u r) Q E s:=by
 rcases g with ⟨kvs,k,e,ey,l,eH⟩ | ⟨kvs,k,b,e,ey,eb,l,eH⟩
 . subst ey eH
   obtain ⟨z,hd,vs,rel,dd⟩:=dk_of I.hok e
   have hz:vs.length<=sizeLine:=by rw [← rel.length]; exact z
   have hl:(putK kvs k v).length<=sizeLine:=by have:=length_putK kvs k v; omega
   refine wpAny_setItem_pairs (hsz:=hz) (kV_is ry) dd fun h' dd' hs=>h _ ?_
   have he:∃ q,h'.get? a=some q:=let ⟨q,_,_,hq,_⟩:=dd'; ⟨q,hq⟩
   exact d_write I (by rw [e]; exact True.intro) hs he (dk_new hl hd (rel.put k rv) dd')
 . subst ey eH
   cases (show u=Value.ref b from ry)
   obtain ⟨z,hd,xs,rel,dd⟩:=dt_of I.hok e
   have hz:xs.length<=sizeLine:=by rw [← Paired.length rel]; exact z
   have hl:(putK kvs k v).length<=sizeLine:=by have:=length_putK kvs k v; omega
   refine wpAny_setItem_heap (hsz:=hz) (tupleKind_room_in1 hu) (key_of I.hok eb) dd fun h' dd' hs=>h _ ?_
   obtain ⟨q,es,ep,hq,h2,h3,h4,_,h5⟩:=dd'
   refine d_write I (by rw [e]; exact True.intro) hs ⟨q,hq⟩ ⟨hl,hd,_,(rel.put k eb rv).keeps fun c ys ec=>?_,q,es,ep,hq,h2,h3,h4,h5⟩
   rw [ax (ne_of ec e (fun z=>nomatch z))]
   exact ec
end
def NoSl (i:Expr):Prop:=∀ ov iv,subscripted i false ov iv=operate [ov,iv] (getItem ov iv)
theorem subD_of {prog:Program} {w:World} {A:Around} {E:Value->Shared->Prop} {s:Shared} {env:Env} {value slice:Expr} {pos:Pos} {T id:String} {Q:Value->Shared->Prop}
 (hl:typeLookup (.type T) "__getitem__" = pure (some (.builtin id))) (hs:NoSl slice)
 (h:wpAny (model prog w) A (eval value env) (fun o s₁=>wpAny (model prog w) A (eval slice env) (fun i s₂=>s₂.TypeIs o T/\wpAny (model prog w) A (getItem o i) Q E s₂) E s₁) E s) :
 wpAny (model prog w) A (eval (.Subscript value slice pos) env) Q E s:=by
 refine Subscript_ (wpAny_mono h (fun o s₁ h₁=>wpAny_mono h₁ (fun i s₂ h₂=>?_) fun _ _ x=>x) fun _ _ x=>x)
 obtain ⟨hT,h₂⟩:=h₂
 unfold subscriptTail
 refine wpAny_bind ?_
 rw [getitemInPython_of_ne hT.not_modules]
 refine wpAny_bind (wpAny_specialOf hT hl ?_)
 have fin:wpAny (model prog w) A (subscripted slice false o i) (fun r s₃=>wpAny (model prog w) A (letTemporaryGo value o r >>= fun _=>pure r) Q E s₃) E s₂:=by
  rw [hs o i]
  exact wpAny_operating (wpAny_mono h₂ (fun r s₃ h₃=>wpAny_bind (wpAny_letTemporaryGo (wpAny_pure h₃))) fun _ _ x=>x)
 first
  | exact wpAny_pure (wpAny_bind fin)
  | exact wpAny_bind (wpAny_pure (wpAny_bind fin))
  | exact wpAny_bind fin
theorem dict_typeIs {X:Cx} {pins:List (Addr × Obj)} {σ:St} {H:Hp} {s:Shared} {a:Addr} {y:V} {o:Option V} (I:Inv X pins σ H s) (g:DGet H a y o):s.TypeIs (.ref a) "dict" := by
 rcases g with ⟨kvs,k,e,_,_⟩ | ⟨kvs,k,b,e,_,_,_⟩
 . obtain ⟨_,_,vs,_,dd⟩:=dk_rd I.hok e
   exact dd.typeIs
 . obtain ⟨_,_,xs,_,dd⟩:=dt_rd I.hok e
   exact dd.typeIs
def tDGet (td ty:TE):TE:=fun σ H Q=>td σ H fun x H1=>ty σ H1 fun y H2=>∃ a v,x=.ref a/\DGet H2 a y (some v)/\Q v H2
def sDPut (td ty tv:TE):TS:=fun D σ H=>tv σ H fun v H1=>td σ H1 fun x H2=>ty σ H2 fun y H3=>∃ a H4,x=.ref a/\DPut H3 a y v H4/\D.nx σ H4
section
variable {X:Cx} {o i e value:Expr} {pos pos' tpos:Pos} {td ty tv:TE}
theorem pe_dget (hu:X.A.units+1 < cLine) (ho:PE X o td) (hi:PE X i ty) (hs:NoSl i):PE X (.Subscript o i pos) (tDGet td ty):=by
 intro pins s σ H Q I h
 refine subD_of PySem.F.slot_dict_getitem.lookup hs (thn (ho pins s σ H _ I h) fun u s1 ⟨x,H1,I1,rx,q1⟩=>thn (hi pins s1 σ H1 _ I1 q1) fun iv s2 ⟨y,H2,I2,ry,a,v,ex,g,q2⟩=>?_)
 subst ex
 obtain rfl:u=Value.ref a:=rx
 exact ⟨dict_typeIs I2 g,d_getItem hu I2 g ry fun w' s3 I3 rw'=>⟨v,H2,I3,rw',q2⟩⟩
theorem ps_dput (hu:X.A.units+1 < cLine) (ho:PE X o td) (hi:PE X i ty) (hv:PE X value tv) (hs:swapsWith value (some (.Subscript o i pos')) pos.line X.env=pure false) :
 PS X (.Assign [.Subscript o i pos'] value pos) (sDPut td ty tv):=by
 intro pins s σ H D I h
 refine wpAny_Assign_Subscript (thn (hv pins s σ H _ I h) fun r s1 ⟨v,H1,I1,rv,q1⟩=>thn (ho pins s1 σ H1 _ I1 q1) fun u s2 ⟨x,H2,I2,rx,q2⟩=>thn (hi pins s2 σ H2 _ I2 q2) fun iv s3 ⟨y,H3,I3,ry,a,H4,ex,g,q3⟩=>?_) hs
 subst ex
 obtain rfl:u=Value.ref a:=rx
 exact d_setItem hu I3 g ry rv fun s4 I4=>⟨σ,H4,I4,q3⟩
end
theorem dk_empty {P:Program} {w:World} {H:Hp} (h:Heap) (hb:sysModules < h.objs.size):ObjOk P w H (h.push { cls:=.type "dict", data:=.dict #[] }) h.objs.size (.dK []) :=
 ⟨Nat.zero_le _,beq_eq_false_iff_ne.mpr (Ne.symm (Nat.ne_of_lt hb)),[],.nil,Heap.DictOf.new h⟩
def tDNewK:TE:=fun _ H Q=>∀ p,H p=none->Q (.ref p) (upd H p (.dK []))
section
variable {X:Cx} {pos:Pos}
theorem pe_dnewK:PE X (.Dict [] [] pos) tDNewK:=fun pins s σ H Q I h =>
 wpAny_Dict_empty ⟨.ref s.heap.objs.size,_,I.laid (a:=s.heap.objs.size) (o:=.dK []) (t':=s.toks) (fun _ _ q=>Heap.get?_push_of_some _ q) (Nat.le_refl _) (dk_empty s.heap I.big),rfl,h _ (I.hok.fresh (Nat.le_refl _))⟩
end
def tPairs:List (TE × TE)->St->Hp->(List (V × V)->Hp->Prop)->Prop
 | [],_,H,Q=>Q [] H
 | (tk,tv)::r,σ,H,Q=>tk σ H fun x H1=>tv σ H1 fun y H2=>tPairs r σ H2 fun ps H3=>Q ((x,y)::ps) H3
abbrev VV:List (V × V)->List (Value × Value)->Prop:=Paired fun p q=>RelV p.1 q.1/\RelV p.2 q.2
def PPs (X:Cx) (pos:Pos) (keys:List (Option Expr)) (values:List Expr) (trs:List (TE × TE)):Prop :=
 ∀ (pins:List (Addr × Obj)) (s:Shared) (σ:St) (H:Hp) (Q:List (V × V)->Hp->Prop),Inv X pins σ H s->tPairs trs σ H Q ->
  wpAny (model X.prog X.w) X.A (evalPairs (pairTrees keys values X.env pos)) (fun vs s'=>∃ ps H',Inv X pins σ H' s'/\VV ps vs/\Q ps H') X.xe s
theorem pps_nil {X:Cx} {pos:Pos}:PPs X pos [] [] []:=fun pins s σ H Q I h=>pairTrees_nil_walk ⟨[],H,I,.nil,h⟩
theorem pps_cons {X:Cx} {pos:Pos} {k v:Expr} {ks:List (Option Expr)} {vs:List Expr} {tk tv:TE} {trs:List (TE × TE)} (hk:PE X k tk) (hv:PE X v tv) (hr:PPs X pos ks vs trs) :
 PPs X pos (some k::ks) (v::vs) ((tk,tv)::trs):=fun pins s σ H Q I h =>
 pairTrees_cons_walk (thn (hk pins s σ H _ I h) fun u s1 ⟨x,H1,I1,rx,q1⟩=>thn (hv pins s1 σ H1 _ I1 q1) fun w2 s2 ⟨y,H2,I2,ry,q2⟩ =>
  thn (hr pins s2 σ H2 _ I2 q2) fun ws s3 ⟨ps,H3,I3,rel,q3⟩=>⟨(x,y)::ps,H3,I3,.cons ⟨rx,ry⟩ rel,q3⟩)
def mergeK (kvs more:List (Key × V)):List (Key × V):=more.foldl (fun acc kv=>putK acc kv.1 kv.2) kvs
theorem KV.merge:∀ {more:List (Key × V)} {rs:List (Key × Value)} {kvs:List (Key × V)} {vs:List (Key × Value)},KV more rs->KV kvs vs->KV (mergeK kvs more) (merged vs rs):=by
 intro more rs kvs vs r
 unfold KV at r
 induction r generalizing kvs vs with
 | nil=>intro q; exact q
 | @cons p q ps qs h t ih =>
   intro r0
   have e:KV (putK kvs p.1 p.2) (stored vs q.1 q.2):=by
    have:=r0.put p.1 h.2
    rw [← h.1]; exact this
   exact ih e
theorem length_mergeK:∀ (more kvs:List (Key × V)),(mergeK kvs more).length<=kvs.length+more.length
 | [],kvs=>by show kvs.length<=kvs.length+0; omega
 | p::r,kvs=>by
   have h1:=length_mergeK r (putK kvs p.1 p.2)
   have h2:=length_putK kvs p.1 p.2
   show (mergeK (putK kvs p.1 p.2) r).length<=_
   rw [List.length_cons]; omega
theorem carries_of {P:Program} {w:World}:∀ {kvs:List (Key × V)} {ws:List (Value × Value)},VV (kvs.map fun kv=>(kV kv.1,kv.2)) ws->∃ rs,Carries (cK P w) ws rs/\KV kvs rs
 | [],_,r=>by rw [List.map_nil] at r; cases r; exact ⟨[],True.intro,.nil⟩
 | p::kvs,_,r=>by
   rw [List.map_cons] at r
   cases r with
   | @cons a b as bs h t =>
     obtain ⟨rs,c,q⟩:=carries_of (P:=P) (w:=w) t
     obtain ⟨b1,b2⟩:=b
     exact ⟨(p.1,b2)::rs,⟨kV_is h.1,rfl,c⟩,.cons ⟨rfl,h.2⟩ q⟩
def tDisp (trs:List (TE × TE)):TE:=fun σ H Q=>∀ p,H p=none->tPairs trs σ (upd H p (.dK [])) fun ps H2=>H2 p=some (.dK [])/\∃ kvs:List (Key × V),ps=kvs.map (fun kv=>(kV kv.1,kv.2))/\kvs.length<=15/\Q (.ref p) (upd H2 p (.dK (mergeK [] kvs)))
theorem pe_disp {X:Cx} {pos:Pos} {keys:List (Option Expr)} {values:List Expr} {trs:List (TE × TE)} (h:PPs X pos keys values trs) (hall:keys.all (·.isSome)=true) (hl:keys.length=values.length) (h0:keys ≠ [])
 (h15:keys.length<=15):PE X (.Dict keys values pos) (tDisp trs):=by
 intro pins s σ H Q I q
 have hn:=I.hok.fresh (Nat.le_refl s.heap.objs.size)
 have I1:=I.laid (a:=s.heap.objs.size) (o:=.dK []) (h':=s.heap.push { cls:=.type "dict", data:=.dict #[] }) (t':=s.toks) (fun _ _ q=>Heap.get?_push_of_some _ q) (Nat.le_refl _) (dk_empty s.heap I.big)
 refine wpAny_Dict_walk (knd:=cK X.prog X.w) hall hl h0 h15 (thn (h pins _ σ _ _ I1 (q _ hn)) fun ws s2 ⟨ps,H2,I2,rel,e,kvs,ep,lk,q2⟩=>?_)
 subst ep
 obtain ⟨rs,c,rk⟩:=carries_of (P:=X.prog) (w:=X.w) rel
 obtain ⟨z,hd,vs0,r0,dd⟩:=dk_of I2.hok e
 cases r0
 refine ⟨rs,c,dd,fun h' dd' hs=>⟨.ref s.heap.objs.size,_,?_,rfl,q2⟩⟩
 have hz:(mergeK [] kvs).length<=sizeLine:=by
  have h1:=length_mergeK kvs []
  rw [List.length_nil] at h1
  rw [sizeLine_eq]; omega
 have he:∃ q,h'.get? s.heap.objs.size=some q:=let ⟨q,_,_,hq,_⟩:=dd'; ⟨q,hq⟩
 exact d_write I2 (by rw [e]; exact True.intro) hs he (dk_new hz hd (rk.merge .nil) dd')
section
variable {X:Cx} {pins:List (Addr × Obj)} {σ:St} {H:Hp} {s:Shared} {a:Addr} {kvs:List (Key × V)} {A:Around} {E:Value->Shared->Prop}
theorem d_copyOf {Q:Value->Shared->Prop} (I:Inv X pins σ H s) (e:Rd H a (.dK kvs)) (h:∀ p s',H p=none->Inv X pins σ (upd H p (.dK kvs)) s'->Q (.ref p) s'):wpAny (model X.prog X.w) A (call (.type "dict") [.ref a]) Q E s:=by
 obtain ⟨z,hd,vs,rel,dd⟩:=dk_rd I.hok e
 refine kt_call_dict hd dd (by rw [← rel.length]; exact z) fun h' dd' hs=>?_
 refine h _ _ (I.hok.fresh (Nat.le_refl _)) (I.laid (a:=s.heap.objs.size) (o:=.dK kvs) (t':=s.toks) (fun b q hq=>?_) (Nat.le_refl _) (dk_new z (beq_eq_false_iff_ne.mpr (Ne.symm (Nat.ne_of_lt I.big))) rel dd'))
 exact (hs.2 b (Nat.ne_of_lt (Heap.lt_size hq))).trans (Heap.get?_push_of_some _ hq)
end
section
variable {X:Cx}
theorem Inv.tupD {pins:List (Addr × Obj)} {σ:St} {H:Hp} {s:Shared} {a:Addr} {xs:List V} (I:Inv X pins σ H s) (h:H a=some (.tup xs)):∃ ob,s.heap.get? a=some ob/\ob.dict=none:=by
 obtain ⟨_,_,_,_,o,e,d⟩:=(show ObjOk X.prog X.w H s.heap a (.tup xs) from I.hok a _ h)
 exact ⟨o,e,d⟩
def tIndex (K:W.Frag) (to:TE) (t:TA):TE:=fun σ H Q=>to σ H fun x H1=>∃ (a:Addr) (ns:List Str),x=.ref a/\(H1 a=some (.lst (ns.map V.str))∨H1 a=some (.tup (ns.map V.str)))/\t σ H1 fun vs H2=>(H2 a=H1 a)/\∃ (z:Str) (j:Nat),vs=[.str z]/\posOf z ns=some j/\Q (.int (j:Int)) H2
variable {o e:Expr} {es:List Expr} {to:TE} {t:TA} {apos cpos:Pos}
theorem pe_index (pl:PlainAttrs "list") (pt:PlainAttrs "tuple") (ho:PE X o to) (ha:PA X (e::es) t)
 (hbase:attributeBase o "index" X.env (eval o X.env)=eval o X.env:=by rfl)
 (hfew:((backTo cpos (starEach (e::es) X.env)).all (fun x=>!x.1) && (backToKw cpos (keywordEach [] X.env)).all (fun x=>x.1.isSome)
  && decide ((e::es).length+([]:List Keyword).length+(if ([]:List Keyword).isEmpty then 0 else 1) < 30))=true:=by rfl)
 (hline:(apos.endLine == cpos.line)=true:=by rfl) (hs:starEach (e::es) X.env=(false,eval e X.env)::starEach es X.env:=by rfl) (hplain:(backTo cpos (starEach es X.env)).any (·.1)=false:=by rfl) :
 PE X (.Call (.Attribute o "index" apos) (e::es) [] cpos) (tIndex X.K to t):=by
 intro pins s σ H Q I h
 refine wpAny_Call_method_late hbase hfew hline rfl (thn (ho pins s σ H _ I h) fun v s1 ⟨x,H1,I1,r1,a,ns,ex,hh,q1⟩=>?_)
 subst ex
 cases r1
 have hA:=ha cpos pins s1 σ H1 _ I1 q1
 rw [hs] at hA ⊢
 rcases hh with hh | hh
 . obtain ⟨its,_,p,_⟩:=I1.list (SqL.of hh)
   obtain ⟨ob,n,e1,c,d,_⟩:=id p
   refine ⟨"list", "list.index", pl,F.slot_list_index,F.type_list_index,p.isList.typeIs,fun b eb=>?_,?_⟩
   . cases eb
     exact ⟨ob,e1,d⟩
   . refine Calls.callWith_builtin (by show (false || (backTo cpos (starEach es X.env)).any (·.1))=false; rw [hplain] <;> rfl) (Calls.evalArgs_plain ?_)
     exact thn hA fun us s2 ⟨vs,H2,I2,r2,ek,z,j,ez,hp,q2⟩=>mt_indexL pins s2 σ H2 (.ref a) vs (.ref a) us Q I2 rfl r2 ⟨a,ns,z,j,rfl,ez,SqL.of (ek.trans hh),hp,q2⟩
 . obtain ⟨its,_,p,_⟩:=I1.tuple (SqT.of hh)
   refine ⟨"tuple", "tuple.index", pt,F.slot_tuple_index,F.type_tuple_index,p.typeIs,fun b eb=>?_,?_⟩
   . cases eb
     exact I1.tupD hh
   . refine Calls.callWith_builtin (by show (false || (backTo cpos (starEach es X.env)).any (·.1))=false; rw [hplain] <;> rfl) (Calls.evalArgs_plain ?_)
     exact thn hA fun us s2 ⟨vs,H2,I2,r2,ek,z,j,ez,hp,q2⟩=>mt_indexT pins s2 σ H2 (.ref a) vs (.ref a) us Q I2 rfl r2 ⟨a,ns,z,j,rfl,ez,SqT.of (ek.trans hh),hp,q2⟩
end
theorem CompScope.three {X:Cx} {x y z u:Str} {scope:Scope} {k l m:Nat} {c d e:Addr} {cl:List (Str × Addr)} (c1:closureFor scope X.env=pure cl) (c2:∀ y ∈ scope.names,y.2 ≠ .cell) (c3:scope.kind=.function) (c4:∀ y ∈ scope.names,y.2=.local->scope.names.lookup y.1=some .local)
 (c5:scope.names.lookup x=some .local) (nd:[x,y,z,u].Nodup) (hcl:cl=[(y,c),(z,d),(u,e)]) (hc:X.env.cells.lookup y=some c) (hd:X.env.cells.lookup z=some d) (he:X.env.cells.lookup u=some e) (c6:((relabel scope X.env).names.all fun p=>!(p.2 == .cell || p.2 == .free) || (cl.lookup p.1).isSome)=true)
 (hr:(relabel scope X.env).names.lookup y=some .cell) (hk:X.N[k]?=some y) (hs:X.env.scope.names.lookup y=some .cell)
 (hr2:(relabel scope X.env).names.lookup z=some .cell) (hk2:X.N[l]?=some z) (hs2:X.env.scope.names.lookup z=some .cell)
 (hr3:(relabel scope X.env).names.lookup u=some .cell) (hk3:X.N[m]?=some u) (hs3:X.env.scope.names.lookup u=some .cell):CompScope X x [y,z,u] [k,l,m] scope cl where
 clos:=c1
 nocell:=c2
 kind:=c3
 names:=c4
 own:=c5
 nd:=nd
 sub:=fun p hp=>by
  subst hcl
  rcases List.mem_cons.mp hp with h | h
  . rw [h]; assumption
  . rcases List.mem_cons.mp h with h | h
    . rw [h]; assumption
    . rw [List.mem_singleton.mp h]; assumption
 has:=c6
 outs:=fun j w h=>by
  have nyz:y ≠ z:=fun e=>by simp [e] at nd
  have nyu:y ≠ u:=fun e=>by simp [e] at nd
  have nzu:z ≠ u:=fun e=>by simp [e] at nd
  subst hcl
  match j,h with
  | 0,h =>
    have e:y=w:=Option.some.inj h
    subst e
    exact ⟨hr,k,c,rfl,hk,by simp [List.lookup],hs⟩
  | 1,h =>
    have e:z=w:=Option.some.inj h
    subst e
    have:(z == y)=false:=by simpa using Ne.symm nyz
    exact ⟨hr2,l,d,rfl,hk2,by simp [List.lookup,this],hs2⟩
  | 2,h =>
    have ew:u=w:=Option.some.inj h
    subst ew
    have h1:(u == y)=false:=by simpa using Ne.symm nyu
    have h2:(u == z)=false:=by simpa using Ne.symm nzu
    exact ⟨hr3,m,e,rfl,hk3,by simp [List.lookup,h1,h2],hs3⟩
  | j+3,h=>simp at h
section
variable {X:Cx}
theorem count_eqU {x:V}:∀ {xs:List V} {us:List Value},Vals xs us->xs.all flatV=true->us.countP (eqU x)=xs.countP fun y=>eqV y x
 | _,_,.nil,_=>rfl
 | y::xs,u::us,.cons r t,f=>by
   rw [List.all_cons,Bool.and_eq_true] at f
   rw [List.countP_cons,List.countP_cons,eqU_of r f.1,count_eqU t f.2]
def rCountL (K:W.Frag):V->List V->Hp->VK->Prop:=fun x vs H Q=>∃ (a:Addr) (xs:List V) (z:V),x=.ref a/\vs=[z]/\SqL K H a xs/\xs.all flatV=true/\flatV z=true/\Q (.int ((xs.countP fun y=>eqV y z:Nat):Int)) H
theorem mt_count:MtR X "list.count" (rCountL X.K):=by
 intro pins s σ H x vs v us Q I rx rv h
 obtain ⟨a,xs,z,rfl,rfl,hq,fs,fz,q⟩:=h
 cases rx
 obtain ⟨u,rfl,ru⟩:=rv.one
 obtain ⟨its,r,⟨⟨cls,dd,data,sl⟩,n,ho,hc,hdd,hd⟩,hz⟩:=I.list hq
 simp only at hc hd
 subst hc hd
 refine call_meets F.slot_list_count ⟨_,ho,rfl⟩ F.entry_list_count (F.args_list_count_2 _ _) (SeqAt.list_countAt a its.toArray n dd sl u (eqU z)) ⟨ho,fun y hy=>?_,?_⟩
 . exact mem_eqAt ru fz r fs y (by simpa using hy)
 . rw [show its.toArray.toList=its from rfl,count_eqU r fs]
   exact ⟨.int ((xs.countP fun y=>eqV y z:Nat):Int),H,I.tok _,⟨_,rfl⟩,q⟩
end
def dM (g:Nat->Int):Nat->Int
 | 0=>g 0
 | k+1=>if dM g k < g (k+1) then g (k+1) else dM g k
def maxD (ns:List Int) (d:Int):Int:=match ns with | []=>d | _::_=>dM (fun i=>ns[i]?.getD 0) (ns.length - 1)
section
variable {prog:Program} {w:World} {A:Around} {R:Result->Shared->Prop} {I S:Addr} {fp wr:List Addr} {n:Nat} {P:Nat->Value->Prop} {St:Nat->Heap->Prop} {g:Nat->Int} {kw:List (Str × Value)}
theorem mx_name:(toString "max" ++ toString ".loop" : String) = "max.loop" := by decide
theorem mx_turns (W:Walks prog w A.in1 I fp wr n P St) (gv:∀ i v,P i v->∃ t,v=Value.int (g i) t) (nS:S ∉ fp):∀ (k j:Nat) (s:Shared) (t:Tok) (c:Nat),j+1+k=n->St (j+1) s.heap ->
 s.heap.get? S=some { cls:=.type "list", dict:=none,data:=.seq #[.int (dM g j) t,.int (dM g j) t] c,slots:=#[] } ->
 (∀ t' h' tk,(∀ b o,b ∉ wr->b ≠ S->s.heap.get? b=some o->h'.get? b=some o)->R (.ok (.ret (.int (dM g (n - 1)) t'))) { s with heap:=h',toks:=tk }) ->
 codeAny (model prog w) A (.builtin "max.loop" ⟨[.ref I,.none,.ref S],kw⟩) R s:=by
 have nw:S ∉ wr:=fun z=>nS (W.sub _ z)
 intro k
 induction k with
 | zero =>
   intro j s t c ek st eS q
   refine codeAny_builtin F.entry_max_loop ?_; rw [Around.under_plainId F.plain_max_loop _]
   show wpAny _ A.in1 (seqItems? (.ref S) >>= _) _ _ s; refine wpAny_bind (wpAny_seqItems eS rfl ?_)
   show wpAny _ A.in1 (tryCatch (pyNext (.ref I)) _ >>= _) _ _ s; refine wpAny_bind (wpAny_tryCatch (W.done s _ _ (by rw [← ek]; exact st) fun h' tk kp=>?_))
   show wpAny _ A.in1 (updateSeq S (fun _=>#[]) >>= _) _ _ _; refine wpAny_bind ?_
   refine wpAny_updateSeq (kp S _ nw eS) rfl (wpAny_bind (wpAny_letGo (wpAny_pure ?_)))
   have e:n - 1=j:=by omega
   rw [e] at q
   exact q t _ tk fun b o h1 h2 eb=>(Heap.get?_update_other _ _ (Ne.symm h2)).trans (kp b o h1 eb)
 | succ k ih =>
   intro j s t c ek st eS q
   refine codeAny_builtin F.entry_max_loop ?_; rw [Around.under_plainId F.plain_max_loop _]
   show wpAny _ A.in1 (seqItems? (.ref S) >>= _) _ _ s; refine wpAny_bind (wpAny_seqItems eS rfl ?_)
   show wpAny _ A.in1 (tryCatch (pyNext (.ref I)) _ >>= _) _ _ s; refine wpAny_bind (wpAny_tryCatch (W.item (j+1) s _ _ (by omega) st fun v h' tk pv st' kp=>?_))
   obtain ⟨tv,rfl⟩:=gv _ _ pv
   have eS':=kp S _ nw eS
   show wpAny _ A.in1 (tryCatch (holding [Value.int (g (j+1)) tv,Value.int (g (j+1)) tv] (richCompare .Gt (Value.int (g (j+1)) tv) (Value.int (dM g j) t) >>= _)) _ >>= _) _ _ _
   refine wpAny_bind (wpAny_tryCatch (wpAny_holding (wpAny_bind (CmpOf.ints_gt (prog:=prog) (w:=w) (A:=A.in1) (P:=fun i v=>∃ t,v=Value.int (if i=0 then dM g j else g (j+1)) t) (fun i=>if i=0 then dM g j else g (j+1)) (fun i v h=>h) 1 0 _ _ _ _ _ ⟨tv,rfl⟩ ⟨t,rfl⟩ ?_))))
   refine wpAny_bind (wpAny_holding (wpAny_truthy_bool ?_)); refine wpAny_bind (wpAny_letGo (wpAny_pure ?_))
   by_cases c1:dM g j < g (j+1)
   . have e1:dM g (j+1)=g (j+1):=by unfold dM; rw [if_pos c1]
     refine wpAny_ite_split (fun _=>?_) (fun hab=>absurd (decide_eq_true c1) hab)
     refine wpAny_bind ?_
     refine wpAny_updateSeq eS' rfl (wpAny_bind (wpAny_letGo ?_)); rw [mx_name]
     refine wpAny_pure ⟨plainId_quiet F.plain_max_loop _,ih (j+1) _ tv _ (by omega) (W.frame _ _ _ st' fun b hb o eb=>?_) (by rw [e1]; exact Heap.get?_update_self _ eS' rfl) fun t' h2 tk2 kp2=>?_⟩
     . exact (Heap.get?_update_other _ _ (fun z:S=b=>nS (by rw [z]; exact hb))).trans eb
     . exact q t' h2 tk2 fun b o h1 h3 eb=>kp2 b o h1 h3 ((Heap.get?_update_other _ _ (Ne.symm h3)).trans (kp b o h1 eb))
   . have e1:dM g (j+1)=dM g j:=by unfold dM; rw [if_neg c1]; cases j <;> rfl
     refine wpAny_ite_split (fun hab=>absurd (of_decide_eq_true hab) c1) (fun _=>?_)
     refine wpAny_bind (wpAny_letGo ?_); rw [mx_name]
     refine wpAny_pure ⟨plainId_quiet F.plain_max_loop _,ih (j+1) _ t c (by omega) st' (by rw [e1]; exact eS') fun t' h2 tk2 kp2=>?_⟩
     exact q t' h2 tk2 fun b o h1 h3 eb=>kp2 b o h1 h3 (kp b o h1 eb)
theorem mx_first (W:Walks prog w A.in1 I fp wr n P St) (gv:∀ i v,P i v->∃ t,v=Value.int (g i) t) (nS:S ∉ fp) (hn:0 < n) {s:Shared} {c:Nat} (st:St 0 s.heap) (eS:s.heap.get? S=some { cls:=.type "list", dict:=none,data:=.seq #[] c,slots:=#[] })
 (q:∀ t' h' tk,(∀ b o,b ∉ wr->b ≠ S->s.heap.get? b=some o->h'.get? b=some o)->R (.ok (.ret (.int (dM g (n - 1)) t'))) { s with heap:=h',toks:=tk }) :
 codeAny (model prog w) A (.builtin "max.loop" ⟨[.ref I,.none,.ref S],kw⟩) R s:=by
 have nw:S ∉ wr:=fun z=>nS (W.sub _ z)
 refine codeAny_builtin F.entry_max_loop ?_; rw [Around.under_plainId F.plain_max_loop _]
 show wpAny _ A.in1 (seqItems? (.ref S) >>= _) _ _ s; refine wpAny_bind (wpAny_seqItems eS rfl ?_)
 show wpAny _ A.in1 (tryCatch (pyNext (.ref I)) _ >>= _) _ _ s; refine wpAny_bind (wpAny_tryCatch (W.item 0 s _ _ hn st fun v h' tk pv st' kp=>?_))
 obtain ⟨tv,rfl⟩:=gv _ _ pv
 have eS':=kp S _ nw eS
 show wpAny _ A.in1 (updateSeq S (fun _=>#[Value.int (g 0) tv,Value.int (g 0) tv]) >>= _) _ _ _; refine wpAny_bind ?_
 refine wpAny_updateSeq eS' rfl ?_; rw [mx_name]
 refine wpAny_pure ⟨plainId_quiet F.plain_max_loop _,mx_turns W gv nS (n - 1) 0 _ tv _ (by omega) (W.frame _ _ _ st' fun b hb o eb=>?_) (Heap.get?_update_self _ eS' rfl) fun t' h2 tk2 kp2=>?_⟩
 . exact (Heap.get?_update_other _ _ (fun z:S=b=>nS (by rw [z]; exact hb))).trans eb
 . exact q t' h2 tk2 fun b o h1 h3 eb=>kp2 b o h1 h3 ((Heap.get?_update_other _ _ (Ne.symm h3)).trans (kp b o h1 eb))
end
section
variable {X:Cx} {e k:Expr} {te tk:TE} {pos p1 kp:Pos}
def rMax1 (K:W.Frag):List V->Hp->VK->Prop:=fun xs H Q=>∃ a ns,xs=[.ref a]/\SqL K H a (ns.map V.int)/\ns ≠ []/\Q (.int (maxD ns 0)) H
theorem call_max1 (hc:X.calm=true):CallR X (.builtin "max") (rMax1 X.K):=by
 intro pins s2 σ H2 xs us Q I2 r h
 obtain ⟨a,ns,rfl,hq,hn,q⟩:=h
 obtain ⟨u,rfl,ru⟩:=vals1 r
 cases ru
 obtain ⟨its,r',p,hz⟩:=I2.list hq
 have hl:=r'.length
 rw [List.length_map] at hl
 have hlt:a < s2.heap.objs.size:=by obtain ⟨o,n,e,_⟩:=p; exact Heap.lt_size e
 refine call_function_tree F.kind_max F.plain_max F.entry_max (F.args_max1 _) ?_
 show wpAny _ X.A.in1 (Builtin.Builtins.bindParams "max" ["key", "default"] 0 ⟨[],[]⟩ >>= fun _=>_) _ _ s2
 refine wpAny_bind (wpAny_of_eq (a:=[none,none]) rfl ?_)
 refine wpAny_bind (wpAny_pure ?_)
 refine wpAny_bind (wpAny_pyIter_list p.isList ?_)
 refine wpAny_bind (wpAny_newObj_type ?_); rw [mx_name]
 have hne:a ≠ s2.heap.objs.size:=Nat.ne_of_lt hlt
 have W:=Walks.list (prog:=X.prog) (w:=X.w) (A:=X.A.in1) (I2.ok.hd hc) s2.heap.objs.size a hne its.toArray
 have I3:Inv X pins σ H2 { s2 with heap:=s2.heap.push { cls:=.type "list_iterator", data:=.fields #[.ref a,.int 0 0] } }:=I2.kept (t':=s2.toks) fun b o eb=>Heap.get?_push_of_some _ eb
 have I4:Inv X pins σ H2 { s2 with heap:=(s2.heap.push { cls:=.type "list_iterator", data:=.fields #[.ref a,.int 0 0] }).push { cls:=.type "list", data:=.seq #[] } }:=I3.kept (t':=s2.toks) fun b o eb=>Heap.get?_push_of_some _ eb
 have hz1:∀ o:Obj,(s2.heap.push o).objs.size=s2.heap.objs.size+1:=fun o=>by simp [Heap.push]
 have nS:(s2.heap.push { cls:=.type "list_iterator", data:=.fields #[.ref a,.int 0 0] }).objs.size ∉ [s2.heap.objs.size,a]:=by
  intro hm
  rcases List.mem_cons.mp hm with z | z
  . rw [hz1] at z
    exact absurd z (Nat.succ_ne_self _)
  . have z:=List.mem_singleton.mp z
    rw [hz1] at z
    exact absurd z (Nat.ne_of_gt (Nat.lt_succ_of_lt hlt))
 have gv:∀ i v,its.toArray[i]?=some v->∃ t,v=Value.int (ns[i]?.getD 0) t:=fun i v hv=>by
  obtain ⟨b,t,hb,rfl⟩:=ints_get r' (i:=i) (v:=v) (by first | exact hv | simpa using hv | (rw [List.getElem?_toArray] at hv; exact hv))
  exact ⟨t,by rw [hb]; rfl⟩
 have n0:0 < ns.length:=List.length_pos_iff.mpr hn
 refine wpAny_pure ⟨plainId_quiet F.plain_max_loop _,mx_first (g:=fun i=>ns[i]?.getD 0) W gv nS (by rw [List.size_toArray,← hl]; exact n0) ⟨⟨_,Heap.get?_push_of_some _ (Heap.get?_push_size _ rfl),rfl,rfl⟩,(p.isList.push _).push _⟩ (Heap.get?_push_size _ rfl) fun t' h' tk kp=>?_⟩
 rw [List.size_toArray,← hl]
 have em:dM (fun i=>ns[i]?.getD 0) (ns.length - 1)=maxD ns 0:=by
  cases ns with
  | nil=>exact absurd rfl hn
  | cons _ _=>rfl
 rw [em]
 refine ⟨.int _,H2,?_,⟨_,rfl⟩,q⟩
 have J:=Inv.turnedL (h':=h') (t':=tk) (ch:=[s2.heap.objs.size,s2.heap.objs.size+1]) I4 (fun b o hb eb=>kp b o (fun z=>hb (by rw [List.mem_singleton.mp z]; exact List.mem_cons_self)) (fun z=>hb (by rw [z,hz1]; exact List.mem_cons_of_mem _ List.mem_cons_self)) eb)
 refine J fun b hb=>?_
 rcases List.mem_cons.mp hb with h | h
 . rw [h]
   exact I2.fpOk (Nat.le_refl _) (I2.hok.fresh (Nat.le_refl _))
 . rw [List.mem_singleton.mp h]
   exact I2.fpOk (Nat.le_succ _) (I2.hok.fresh (Nat.le_succ _))
end
section
variable {prog:Program} {w:World} {A:Around} {E:Value->Shared->Prop} {s:Shared}
theorem tn_item {it t:Addr} {i:Nat} {items:Array Value} {x:Value} {Q:Value->Shared->Prop} (hit:s.heap.IsTupleIter it t i) (ht:s.heap.IsTuple t items) (hx:items[i]?=some x)
 (q:∀ h',h'.IsTupleIter it t (i+1)->Heap.SameBut it s.heap h'->Q x { s with heap:=h' }):wpAny (model prog w) A (Builtin.SmallTypes.nextOf (.ref it)) Q E s:=by
 obtain ⟨o,ho,hc,hd⟩:=id hit; obtain ⟨ol,hol,_,nl,hdl⟩:=ht
 unfold Builtin.SmallTypes.nextOf
 refine wpAny_bind (wpAny_callSpecial?_slot (name:=Str.ofString "__next__") hit.typeIs F.slot_tuple_iterator_next (wpAny_call_entry F.slot_tuple_iterator_next hit.typeIs F.entry_tuple_iterator_next ?_ (F.args_tuple_iterator_next_1 _)))
 show wpAny _ _ (field (.ref it) 0 >>= _) _ _ s; refine wpAny_bind (wpAny_field ho hd (x:=.ref t) rfl ?_)
 show wpAny _ _ (if (Value.ref t == Value.none)=true then _ else _) _ _ s; rw [if_neg (show ¬ ((Value.ref t == Value.none)=true) from Bool.false_ne_true)]
 show wpAny _ _ (field (.ref it) 1 >>= _) _ _ s; refine wpAny_bind (wpAny_field ho hd (x:=.int i 0) rfl ?_)
 show wpAny _ _ (seqItems? (.ref t) >>= _) _ _ s; refine wpAny_bind (wpAny_seqItems hol hdl ?_)
 simp only [Int.toNat_natCast,hx]
 refine wpAny_bind (wpAny_setField ho hd (by simp) (wpAny_pure ⟨x,rfl,wpAny_pure (q _ ?_ (Heap.SameBut.update ..))⟩))
 exact ⟨_,Heap.get?_update_self _ ho (Obj.isFreed_of_fields (Obj.data_mapFields hd _)),(Obj.cls_mapFields ..).trans hc,by rw [Obj.data_mapFields hd]; simp [rawInt]⟩
theorem tn_end {it t:Addr} {i:Nat} {items:Array Value} {Q:Value->Shared->Prop} (hh:A.handled=none) (hit:s.heap.IsTupleIter it t i) (ht:s.heap.IsTuple t items) (hx:items[i]?=none)
 (q:∀ h' e,Heap.ExtBut it s.heap h'->(∃ o,h'.get? e=some o/\o.cls=.type "StopIteration")->E (.ref e) { s with heap:=h' }):wpAny (model prog w) A (Builtin.SmallTypes.nextOf (.ref it)) Q E s:=by
 obtain ⟨o,ho,hc,hd⟩:=id hit; obtain ⟨ol,hol,_,nl,hdl⟩:=ht
 unfold Builtin.SmallTypes.nextOf
 refine wpAny_bind (wpAny_callSpecial?_slot (name:=Str.ofString "__next__") hit.typeIs F.slot_tuple_iterator_next (wpAny_call_entry F.slot_tuple_iterator_next hit.typeIs F.entry_tuple_iterator_next ?_ (F.args_tuple_iterator_next_1 _)))
 show wpAny _ _ (field (.ref it) 0 >>= _) _ _ s; refine wpAny_bind (wpAny_field ho hd (x:=.ref t) rfl ?_)
 show wpAny _ _ (if (Value.ref t == Value.none)=true then _ else _) _ _ s; rw [if_neg (show ¬ ((Value.ref t == Value.none)=true) from Bool.false_ne_true)]
 show wpAny _ _ (field (.ref it) 1 >>= _) _ _ s; refine wpAny_bind (wpAny_field ho hd (x:=.int i 0) rfl ?_)
 show wpAny _ _ (seqItems? (.ref t) >>= _) _ _ s; refine wpAny_bind (wpAny_seqItems hol hdl ?_)
 simp only [Int.toNat_natCast,hx]
 first
  | refine wpAny_bind (wpAny_rule (wpAny_bind (wpAny_setField ho hd (by simp) (wpAny_bind (wpAny_letGo ?_)))))
  | refine wpAny_bind (wpAny_rule (wpAny_bind (wpAny_setField ho hd (by simp) ?_)))
 show wpAny _ _ (newExc (.type "StopIteration") [] >>= _) _ _ _; refine wpAny_bind ?_
 simp only [newExc,newTuple]; refine wpAny_bind (wpAny_newObj_type ?_ (by size_fits))
 refine wpAny_bind (m:=firstArgMember _ _) (wpAny_of_eq (a:=Value.none) (by first | rfl | (simp only [firstArgMember]; rfl)) ?_); refine wpAny_newObj_type ?_ (by size_fits)
 simp only [raiseNew]; refine wpAny_bind (wpAny_handled ?_)
 first | rw [show A.in1.handled=none from hh] | rw [hh]
 refine wpAny_bind (wpAny_pure (wpAny_throw ?_)); exact q _ _ (((Heap.SameBut.update ..).extBut.push _).push _) ⟨_,Heap.get?_push_size _ rfl,rfl⟩
theorem enumT_end {e it t:Addr} {j:Nat} {i:Int} {old:Value} {items:Array Value} {Q:Option Value->Shared->Prop} (hh:A.handled=none) (he:IsEnum s.heap e it i old) (hit:s.heap.IsTupleIter it t j) (ht:s.heap.IsTuple t items) (hx:items[j]?=none)
 (q:∀ h',Heap.ExtBut it s.heap h'->Q none { s with heap:=h' }):wpAny (model prog w) A (pyNext (.ref e)) Q E s:=by
 have hT:s.TypeIs (.ref e) "enumerate" := ⟨_,he,rfl⟩
 unfold pyNext
 refine wpAny_bind (wpAny_attempt (wpAny_callSpecial?_slot (name:=Str.ofString "__next__") hT F.slot_enumerate_next (wpAny_call_entry F.slot_enumerate_next hT F.entry_enumerate_next ?_ (F.args_enumerate_next_1 _))))
 show wpAny _ _ (field (.ref e) 2 >>= _) _ _ _; refine wpAny_bind (wpAny_field he rfl (x:=.ref it) rfl ?_)
 refine wpAny_bind (tn_end hh hit ht hx fun h' x he' hx'=>?_)
 obtain ⟨o,ho,hc⟩:=hx'
 refine wpAny_bind (wpAny_isInstance (T := "StopIteration") (b:=true) ⟨o,ho,hc⟩ isSubtype_stop ?_); exact wpAny_pure (q h' he')
end
theorem draws_tup {prog:Program} {w:World} {A:Around} (hh:A.handled=none) (it l:Addr) (hne:l ≠ it) (items:Array Value):Draws prog w A it [it,l] items.size (fun i v=>items[i]?=some v) (fun i h=>h.IsTupleIter it l i/\h.IsTuple l items) where
 live:=fun _ _ st=>let ⟨o,ho,_⟩:=st.1; ⟨o,ho⟩
 frame:=fun _ _ _ st k=>⟨st.1.at fun o e=>k it (by simp) o e,st.2.at fun o e=>k l (by simp) o e⟩
 item:=fun i s Q E hi st q=>by
  refine tn_item st.1 st.2 (x:=items[i]) (by simp [hi]) fun h' a b=>?_
  exact q _ h' s.toks (by simp [hi]) ⟨a,st.2.extBut b.extBut hne⟩ b
 done:=fun s Q E st q=>tn_end hh st.1 st.2 (by simp) q
open AutoSeq1 (wpAny_loadPart') in
set_option maxHeartbeats 1000000 in
theorem meets_enumT (l:Addr) (items:Array Value) (n:Nat) (dct:Option Addr) (sl:Array (Option Value)) :
 Meets (Builtin.«enumerate.__new__» ⟨[.type "enumerate", .ref l],[]⟩) (fun _ R s=>s.heap.get? l=some { cls:=.type "tuple", dict:=dct,data:=.seq items n,slots:=sl } /\
  R (.ok (.ret (.ref (s.heap.push { cls:=.type "tuple_iterator", data:=.fields #[.ref l,.int 0 0] }).objs.size)))
   { s with heap:=(s.heap.push { cls:=.type "tuple_iterator", data:=.fields #[.ref l,.int 0 0] }).push { cls:=.type "enumerate", data:=.fields #[.none,.bool false,.ref s.heap.objs.size,rawInt 0,.none,.none] } }) :=
 .of_wp fun prog w A R s h=>by
  obtain ⟨hp,g,d,tk,os⟩:=s; obtain ⟨hl,h⟩:=h
  have hsub:=sub_enumerate; have hL:Heap.IsTuple (Shared.heap ⟨hp,g,d,tk,os⟩) l items:=⟨_,hl,rfl,n,rfl⟩
  wp_walk using wpAny_loadPart' hl
  refine wpAny_stack_any fun st=>wpAny_pure ?_
  split
  . rename_i c _ _ _ _ _
    cases (c == Value.type "enumerate")
    . wp_walk using wpAny_loadPart' hl,wpAny_pyIter_tuple hL
      exact ⟨_,rfl,h⟩
    . wp_walk using wpAny_loadPart' hl,wpAny_pyIter_tuple hL
      exact ⟨_,rfl,h⟩
  . wp_walk using wpAny_loadPart' hl,wpAny_pyIter_tuple hL
    exact ⟨_,rfl,h⟩
section
variable {prog:Program} {w:World} {A:Around} {E:Value->Shared->Prop} {s:Shared}
theorem call_enumT {l:Addr} {items:Array Value} {Q:Value->Shared->Prop} (hL:s.heap.IsTuple l items)
 (q:∀ h',IsEnum h' (s.heap.objs.size+1) s.heap.objs.size 0 .none->h'.IsTupleIter s.heap.objs.size l 0->(∀ b o,s.heap.get? b=some o->h'.get? b=some o)->Q (.ref (s.heap.objs.size+1)) { s with heap:=h' }) :
 wpAny (model prog w) A (call (.type "enumerate") [.ref l]) Q E s:=by
 obtain ⟨⟨c,dct,dt,sl⟩,hl,hc,n,hd⟩:=hL
 replace hc:c=.type "tuple" := hc
 replace hd:dt=.seq items n:=hd
 subst hc hd
 refine callType_new F.called_enumerate (by decide) (F.typeCall_enumerate_1 _) (F.newCall_enumerate_1 _) (fun obj=>F.args_object_init_2 obj _) F.entry_enumerate_new (meets_enumT l items n dct sl) ⟨hl,?_⟩
 have hz:(s.heap.push { cls:=.type "tuple_iterator", data:=.fields #[.ref l,.int 0 0] }).objs.size=s.heap.objs.size+1:=Heap.size_push ..
 show _/\_
 rw [hz]
 have he:IsEnum ((s.heap.push { cls:=.type "tuple_iterator", data:=.fields #[.ref l,.int 0 0] }).push { cls:=.type "enumerate", data:=.fields #[.none,.bool false,.ref s.heap.objs.size,rawInt 0,.none,.none] }) (s.heap.objs.size+1) s.heap.objs.size 0 .none:=by
  have:=Heap.get?_push_size (s.heap.push { cls:=.type "tuple_iterator", data:=.fields #[.ref l,.int 0 0] }) (o:={ cls:=.type "enumerate", data:=.fields #[.none,.bool false,.ref s.heap.objs.size,rawInt 0,.none,.none] }) rfl
  rw [hz] at this; exact this
 exact ⟨⟨_,he,rfl⟩,q _ he ⟨_,Heap.get?_push_of_some _ (Heap.get?_push_size _ rfl),rfl,rfl⟩ fun b o x=>Heap.get?_push_of_some _ (Heap.get?_push_of_some _ x)⟩
end
def IteT (K:W.Frag) (a:Addr):It :=
 ⟨fun i H=>∃ xs x,SqT K H a xs/\xs[i]?=some x,fun i H y H'=>∃ t,y=.ref t/\H t=none/\∀ xs x,SqT K H a xs->xs[i]?=some x->H'=upd H t (.tup [.int i,x]),fun i H=>∃ xs,SqT K H a xs/\xs.length<=i⟩
theorem turn_enumT {P:Program} {w:World} {K:W.Frag} {elts:List Expr} {k:Nat} {pos:Pos} (a e it:Addr) (hei:e ≠ it) (hai:a ≠ it) (hae:a ≠ e) :
 Turn P w K (.Tuple elts k pos) (IteT K a) [e,it] e (fun i h=>(∃ old,IsEnum h e it i old)/\h.IsTupleIter it a i) where
 mem:=by simp
 obj:=fun i h st b hb=>by
  obtain ⟨⟨old,he⟩,o,e2,c,d⟩:=st
  rcases List.mem_cons.mp hb with z | z
  . subst z
    exact ⟨_,he,fun v z=>nomatch z⟩
  . have z':=List.mem_singleton.mp z
    subst z'
    exact ⟨o,e2,fun v z=>by rw [d] at z; cases z⟩
 keep:=fun i h h' st k=>by
  obtain ⟨⟨old,he⟩,hit⟩:=st
  exact ⟨⟨old,k e (by simp) _ he⟩,hit.at fun o x=>k it (by simp) o x⟩
 item:=by
  intro X hP hw hK hc i pins s σ H E I hf st hg
  subst hP hw hK
  obtain ⟨xs,x,hq,hx⟩:=hg
  obtain ⟨its,rv,p,hz⟩:=I.tuple hq
  obtain ⟨u,hu,ru⟩:=rv.get hx
  obtain ⟨⟨old,he⟩,hit⟩:=st
  have hi:i < its.toArray.size:=by
   rw [List.size_toArray]
   exact (List.getElem?_eq_some_iff.mp hu).1
  refine wpAny_pyNext_enum_itemD (draws_tup (prog:=X.prog) (w:=X.w) (A:=X.A.in1) (I.ok.hd hc) it a hai its.toArray) he ⟨hit,p⟩ hi hei (by simp [hei,Ne.symm hae]) fun y h1 tk hy ho hst1 hT hsz hk=>?_
  have ey:y=u:=by
   have h1:its.toArray[i]?=some u:=by simpa using hu
   rw [h1] at hy
   exact (Option.some.inj hy).symm
  subst ey
  refine ⟨_,rfl,wpAny_letOwnedTupleGo_enum ho fun h2 he2 hs2=>?_⟩
  have elt:e < s.heap.objs.size:=Heap.lt_size he
  have hT2:h2.get? s.heap.objs.size=some { cls:=.type "tuple", data:=.seq #[.int i tk,y] }:=(hs2.2 _ (Ne.symm (Nat.ne_of_lt elt))).trans hT
  have I2:Inv X pins σ (upd H s.heap.objs.size (.tup [.int i,x])) { s with heap:=h2,toks:=tk+1 }:=by
   refine I.turnedNew (ch:=[e,it]) (fun b ob hb eb=>?_) hf (Nat.le_refl _) ⟨by show 2<=sizeLine; decide,[.int i tk,y],.cons ⟨_,rfl⟩ (.cons ru .nil),⟨_,hT2,rfl,_,rfl⟩,_,hT2,rfl⟩
   have b1:b ≠ e:=fun z=>hb (by simp [z])
   have b2:b ≠ it:=fun z=>hb (by simp [z])
   exact (hs2.2 b b1).trans (hk b ob b1 b2 eb)
  refine ⟨.ref s.heap.objs.size,_,I2,rfl,⟨_,rfl,I.hok.fresh (Nat.le_refl _),fun ys z hy hyi=>?_⟩,⟨⟨y,by simpa using he2⟩,hst1.1.at fun o z=>(hs2.2 it (Ne.symm hei)).trans z⟩,fun b hb=>?_⟩
  . have e1:=I.tuple_inj hy hq
    subst e1
    rw [hx] at hyi
    cases hyi
    rfl
  . have z:=hf b hb
    have hlt:b < s.heap.objs.size:=by
     rcases List.mem_cons.mp hb with y | y
     . rw [y]; exact elt
     . rw [List.mem_singleton.mp y]
       obtain ⟨o,e2,_⟩:=hit
       exact Heap.lt_size e2
    rw [ax (Nat.ne_of_lt hlt)]
    exact z.1
 done:=by
  intro X hP hw hK hc i pins s σ H E I hf st hg
  subst hP hw hK
  obtain ⟨xs,hq,hx⟩:=hg
  obtain ⟨its,rv,p,hz⟩:=I.tuple hq
  obtain ⟨⟨old,he⟩,hit⟩:=st
  have hl:=rv.length
  exact enumT_end (I.ok.hd hc) he hit p (Array.getElem?_eq_none (by simp; omega)) fun h' eb=>⟨rfl,I.turnedL (t':=s.toks) (ch:=[e,it]) (fun b o hb eo=>eb b o (fun z=>hb (by simp [z])) eo) hf⟩
 self:=fun _ _ _ _ _ st h=>by
  obtain ⟨⟨old,he⟩,_⟩:=st
  exact wpAny_pyIter_enum he h
section
variable {X:Cx} {elts:List Expr} {k:Nat} {tpos:Pos}
def iEnumT (K:W.Frag) (tl:TE):TI:=fun σ H R=>tl σ H fun x H1=>∃ a,x=.ref a/\(∃ xs,SqT K H1 a xs)/\R (IteT K a) H1
theorem pi_enumT {l:Expr} {tl:TE} {p pos:Pos} (hg:Gl X "enumerate") (hm:X.mg "enumerate" = none) (hl:PE X l tl) (hs:starEach [l] X.env=[(false,eval l X.env)]:=by rfl) :
 PI X (.Tuple elts k tpos) (.Call (.Name "enumerate" p) [l] [] pos) (iEnumT X.K tl):=by
 intro pins s σ H R I h
 refine Call_ (ld_blt I hg hm boot_enumerate (PyProof.Rows.callWith_type1 ?_ hs rfl))
 rw [hs]
 show wpAny _ _ (spliced ((false,eval l X.env)::backTo pos (starEach [] X.env))) _ _ s
 refine Calls.spliced_cons (thn (hl pins s σ H _ I h) fun u s1 ⟨x,H1,I1,r1,a,ex,⟨xs,hq⟩,q⟩=>?_)
 subst ex
 cases r1
 obtain ⟨its,rv,p,hz⟩:=I1.tuple hq
 have alt:=p.lt
 refine Calls.spliced_nil ?_
 refine call_enumT p fun h' he hit hk=>?_
 refine wpAny_pyIter_enum he ?_
 have I2:Inv X pins σ H1 { s1 with heap:=h' }:=I1.kept (t':=s1.toks) hk
 refine ⟨s1.heap.objs.size+1,[s1.heap.objs.size+1,s1.heap.objs.size],_,_,H1,rfl,I2,turn_enumT a _ _ (Nat.ne_of_gt (Nat.lt_succ_self _)) (Nat.ne_of_lt alt) (Nat.ne_of_lt (Nat.lt_succ_of_lt alt)),⟨⟨_,he⟩,hit⟩,fun b hb=>?_,q⟩
 rcases List.mem_cons.mp hb with z | z
 . rw [z]
   exact I1.fpOk (Nat.le_succ _) (I1.hok.fresh (Nat.le_succ _))
 . rw [List.mem_singleton.mp z]
   exact I1.fpOk (Nat.le_refl _) (I1.hok.fresh (Nat.le_refl _))
end
theorem for_enumT {K:W.Frag} {a:Addr} {xs:List V} {g:TG} {tb:TS} {D:Ends} {σ:St} {H:Hp} (Pv:Nat->St->Hp->Prop) (h0:Pv 0 σ H) (hl:∀ i σ H,i<=xs.length->Pv i σ H->SqT K H a xs)
 (hs:∀ i x σ H t,xs[i]?=some x->Pv i σ H->H t=none->g (.ref t) σ (upd H t (.tup [.int i,x])) fun σ2 H2=>tb { D with nx:=Pv (i+1),ct:=Pv (i+1),bk:=D.nx } σ2 H2) (hd:∀ σ H,Pv xs.length σ H->D.nx σ H) :
 ∃ W:Nat->Nat->St->Hp->Prop,(∃ m,W 0 m σ H)/\∀ i m σ H,W i m σ H ->
  ((IteT K a).stop i H/\D.nx σ H)∨((IteT K a).go i H/\∃ N:St->Hp->Prop,(∀ σ' H',N σ' H'->∃ m',m' < m/\W (i+1) m' σ' H')/\∀ x H',(IteT K a).yld i H x H'->g x σ H' fun σ2 H2=>tb { D with nx:=N,ct:=N,bk:=D.nx } σ2 H2):=by
 refine ⟨fun i m σ H=>m=xs.length - i/\i<=xs.length/\Pv i σ H,⟨xs.length,by simp,Nat.zero_le _,h0⟩,?_⟩
 rintro i m σ H ⟨rfl,hi,p⟩
 have q:=hl i σ H hi p
 by_cases hlt:i < xs.length
 . refine .inr ⟨⟨xs,xs[i],q,by simp [hlt]⟩,Pv (i+1),fun σ' H' p'=>⟨xs.length - (i+1),by omega,rfl,hlt,p'⟩,fun x H' y=>?_⟩
   obtain ⟨t,rfl,ht,e⟩:=y
   have e':=e xs xs[i] q (by simp [hlt])
   subst e'
   exact hs i xs[i] σ H t (by simp [hlt]) p ht
 . have e:i=xs.length:=by omega
   subst e
   exact .inl ⟨⟨xs,q,Nat.le_refl _⟩,hd σ H p⟩
def ItV (K:W.Frag) (a:Addr) (xs:List V):It:=⟨fun i H=>SqL K H a xs/\i < xs.length,fun i H y H'=>H'=H/\xs.reverse[i]?=some y,fun i _=>xs.length<=i⟩
theorem turn_revl {P:Program} {w:World} {K:W.Frag} {tg:Expr} (a it:Addr) (xs:List V):Turn P w K tg (ItV K a xs) [it] it (fun i h=>i<=xs.length/\h.IsRevIter it a ((xs.length:Int) - 1 - (i:Int))) where
 mem:=by simp
 obj:=fun i h st b hb=>by
  have e:b=it:=by simpa using hb
  subst e
  obtain ⟨_,o,e,c,d⟩:=st
  exact ⟨o,e,fun v z=>by rw [d] at z; cases z⟩
 keep:=fun i h h' st k=>⟨st.1,st.2.at fun o e=>k it (by simp) o e⟩
 item:=by
  intro X hP hw hK hc i pins s σ H E I hf st hg
  subst hP hw hK
  obtain ⟨hq,hi⟩:=hg
  obtain ⟨its,rv,p,hz⟩:=I.list hq
  have hj:xs.length - 1 - i < xs.length:=by omega
  have hx:xs[xs.length - 1 - i]?=some xs[xs.length - 1 - i]:=List.getElem?_eq_getElem hj
  obtain ⟨u,hu,ru⟩:=rv.get hx
  obtain ⟨f0,f1,f2,f3,f4,f5⟩:=hf it (by simp)
  obtain ⟨_,hit⟩:=st
  have e1:((xs.length:Int) - 1 - (i:Int))=((xs.length - 1 - i:Nat):Int):=by omega
  rw [e1] at hit
  refine wpAny_pyNext_rev_item hit p.isList (x:=u) (by simpa using hu) fun h' st' sb=>?_
  have I1:Inv X pins σ H { s with heap:=h' }:=I.turned (t':=s.toks) (fun b o hb e=>(sb.2 b hb).trans e) f0 f1 f3 f4 f5
  have e2:((xs.length - 1 - i:Nat):Int) - 1=(xs.length:Int) - 1 - ((i+1:Nat):Int):=by omega
  rw [e2] at st'
  obtain ⟨o,e,c,d⟩:=id st'
  refine ⟨u,rfl,go_of (s:={ s with heap:=h' }) e c d (by decide) ⟨xs[xs.length - 1 - i],H,I1,ru,⟨rfl,?_⟩,⟨by omega,st'⟩,fun b hb=>(hf b hb).1⟩⟩
  rw [List.getElem?_reverse hi,hx]
 done:=by
  intro X hP hw hK hc i pins s σ H E I hf st hg
  subst hP hw hK
  have hg:xs.length<=i:=hg
  obtain ⟨f0,f1,f2,f3,f4,f5⟩:=hf it (by simp)
  obtain ⟨hi,hit⟩:=st
  have e1:(xs.length:Int) - 1 - (i:Int)=-1:=by omega
  rw [e1] at hit
  exact wpAny_pyNext_rev_end (I.ok.hd hc) hit fun h' eb=>⟨rfl,I.turned (t':=s.toks) (fun b o hb e=>eb b o hb e) f0 f1 f3 f4 f5⟩
 self:=fun _ _ _ _ _ st h=>wpAny_pyIter_revIter st.2 h
theorem for_revl {K:W.Frag} {a:Addr} {xs:List V} {g:TG} {tb:TS} {D:Ends} {σ:St} {H:Hp} (Pv:Nat->St->Hp->Prop) (h0:Pv 0 σ H) (hl:∀ i σ H,i<=xs.length->Pv i σ H->SqL K H a xs)
 (hs:∀ i x σ H,i < xs.length->xs.reverse[i]?=some x->Pv i σ H->g x σ H fun σ2 H2=>tb { D with nx:=Pv (i+1),ct:=Pv (i+1),bk:=D.nx } σ2 H2) (hd:∀ σ H,Pv xs.length σ H->D.nx σ H) :
 ∃ W:Nat->Nat->St->Hp->Prop,(∃ m,W 0 m σ H)/\∀ i m σ H,W i m σ H ->
  ((ItV K a xs).stop i H/\D.nx σ H)∨((ItV K a xs).go i H/\∃ N:St->Hp->Prop,(∀ σ' H',N σ' H'->∃ m',m' < m/\W (i+1) m' σ' H')/\∀ x H',(ItV K a xs).yld i H x H'->g x σ H' fun σ2 H2=>tb { D with nx:=N,ct:=N,bk:=D.nx } σ2 H2):=by
 refine ⟨fun i m σ H=>m=xs.length - i/\i<=xs.length/\Pv i σ H,⟨xs.length,by simp,Nat.zero_le _,h0⟩,?_⟩
 rintro i m σ H ⟨rfl,hi,p⟩
 have q:=hl i σ H hi p
 by_cases hlt:i < xs.length
 . refine .inr ⟨⟨q,hlt⟩,Pv (i+1),fun σ' H' p'=>⟨xs.length - (i+1),by omega,rfl,hlt,p'⟩,fun x H' y=>?_⟩
   obtain ⟨e,ex⟩:=y
   subst e
   exact hs i x σ _ hlt ex p
 . have e:i=xs.length:=by omega
   subst e
   exact .inl ⟨Nat.le_refl _,hd σ H p⟩
theorem mt_countK {X:Cx} (K:W.Frag) (h:X.K=K:=by rfl):MtR X "list.count" (rCountL K):=by subst h; exact mt_count
section
variable {X:Cx} {o e:Expr} {es:List Expr} {to ta:TE} {t:TA} {T id:String} {name f:Str} {r:V->List V->Hp->VK->Prop} {apos cpos pos:Pos}
theorem pe_bmK (K:W.Frag) (pa:PlainAttrs T) (slot:Slot T name id) (hty:typeOf (.builtin id)=pure (.type "method_descriptor")) (hm:MtR X id r) (ho:PE X o to) (ha:PA X (e::es) t) (hK:X.K=K:=by rfl)
 (hbase:attributeBase o name X.env (eval o X.env)=eval o X.env:=by rfl)
 (hfew:((backTo cpos (starEach (e::es) X.env)).all (fun x=>!x.1) && (backToKw cpos (keywordEach [] X.env)).all (fun x=>x.1.isSome) && decide ((e::es).length+([]:List Keyword).length+(if ([]:List Keyword).isEmpty then 0 else 1) < 30))=true:=by rfl)
 (hline:(apos.endLine == cpos.line)=true:=by rfl) (hs:starEach (e::es) X.env=(false,eval e X.env)::starEach es X.env:=by rfl) (hplain:(backTo cpos (starEach es X.env)).any (·.1)=false:=by rfl) :
 PE X (.Call (.Attribute o name apos) (e::es) [] cpos) (tBM K T r to t):=by subst hK; exact pe_bm pa slot hty hm ho ha hbase hfew hline hs hplain
theorem pe_fldK (K:W.Frag) (he:PE X e ta) (hK:X.K=K:=by rfl) (hb:attributeBase e f X.env (eval e X.env)=eval e X.env:=by rfl):PE X (.Attribute e f pos) (tFld K ta f):=by subst hK; exact aG he hb
end
@[reducible] def cxCompO (X:Cx) (x:Str) (N:List Str) (scope:Scope) (cl:List (Str × Addr)) (s:Shared) (H:Hp) (fp:List Addr):Cx where
 prog:=X.prog
 w:=X.w
 K:=X.K
 mg:=X.mg
 base:=X.base
 A:=X.A
 N:=x::N
 s₀:=s
 H₀:=H
 env:=compEnvC scope ((x,s.heap.objs.size+1)::cl) s.heap.objs.size X.env
 outer:=X.stack
 stack:=X.stack
 ex:=fp
 fn:=fun y=>y == x
 calm:=X.calm
 pn:=[]
 xe:=fun _ _=>False
theorem CompScope.four {X:Cx} {x y z u v:Str} {scope:Scope} {k l m n:Nat} {c d e g:Addr} {cl:List (Str × Addr)} (c1:closureFor scope X.env=pure cl) (c2:∀ y ∈ scope.names,y.2 ≠ .cell) (c3:scope.kind=.function) (c4:∀ y ∈ scope.names,y.2=.local->scope.names.lookup y.1=some .local)
 (c5:scope.names.lookup x=some .local) (nd:[x,y,z,u,v].Nodup) (hcl:cl=[(y,c),(z,d),(u,e),(v,g)]) (hc:X.env.cells.lookup y=some c) (hd:X.env.cells.lookup z=some d) (he:X.env.cells.lookup u=some e) (hg:X.env.cells.lookup v=some g) (c6:((relabel scope X.env).names.all fun p=>!(p.2 == .cell || p.2 == .free) || (cl.lookup p.1).isSome)=true)
 (hr:(relabel scope X.env).names.lookup y=some .cell) (hk:X.N[k]?=some y) (hs:X.env.scope.names.lookup y=some .cell)
 (hr2:(relabel scope X.env).names.lookup z=some .cell) (hk2:X.N[l]?=some z) (hs2:X.env.scope.names.lookup z=some .cell)
 (hr3:(relabel scope X.env).names.lookup u=some .cell) (hk3:X.N[m]?=some u) (hs3:X.env.scope.names.lookup u=some .cell)
 (hr4:(relabel scope X.env).names.lookup v=some .cell) (hk4:X.N[n]?=some v) (hs4:X.env.scope.names.lookup v=some .cell):CompScope X x [y,z,u,v] [k,l,m,n] scope cl where
 clos:=c1
 nocell:=c2
 kind:=c3
 names:=c4
 own:=c5
 nd:=nd
 sub:=fun p hp=>by
  subst hcl
  rcases List.mem_cons.mp hp with h | h
  . rw [h]; assumption
  . rcases List.mem_cons.mp h with h | h
    . rw [h]; assumption
    . rcases List.mem_cons.mp h with h | h
      . rw [h]; assumption
      . rw [List.mem_singleton.mp h]; assumption
 has:=c6
 outs:=fun j w h=>by
  have nyz:y ≠ z:=fun e=>by simp [e] at nd
  have nyu:y ≠ u:=fun e=>by simp [e] at nd
  have nyv:y ≠ v:=fun e=>by simp [e] at nd
  have nzu:z ≠ u:=fun e=>by simp [e] at nd
  have nzv:z ≠ v:=fun e=>by simp [e] at nd
  have nuv:u ≠ v:=fun e=>by simp [e] at nd
  subst hcl
  match j,h with
  | 0,h =>
    have e:y=w:=Option.some.inj h
    subst e
    exact ⟨hr,k,c,rfl,hk,by simp [List.lookup],hs⟩
  | 1,h =>
    have e:z=w:=Option.some.inj h
    subst e
    have:(z == y)=false:=by simpa using Ne.symm nyz
    exact ⟨hr2,l,d,rfl,hk2,by simp [List.lookup,this],hs2⟩
  | 2,h =>
    have ew:u=w:=Option.some.inj h
    subst ew
    have h1:(u == y)=false:=by simpa using Ne.symm nyu
    have h2:(u == z)=false:=by simpa using Ne.symm nzu
    exact ⟨hr3,m,e,rfl,hk3,by simp [List.lookup,h1,h2],hs3⟩
  | 3,h =>
    have ew:v=w:=Option.some.inj h
    subst ew
    have h1:(v == y)=false:=by simpa using Ne.symm nyv
    have h2:(v == z)=false:=by simpa using Ne.symm nzv
    have h3:(v == u)=false:=by simpa using Ne.symm nuv
    exact ⟨hr4,n,g,rfl,hk4,by simp [List.lookup,h1,h2,h3],hs4⟩
  | j+4,h=>simp at h
end L2
namespace HT
open PySem PyProof.Rows
section
variable {prog:Program} {w:World} {A:Around} {E:Value->Shared->Prop} {s:Shared}
theorem getItem_tuple_whole {t sl:Addr} {items:Array Value} {vl vu:Value} {lo hi:Option Int} {Q:Value->Shared->Prop} (ht:IsTup s.heap t items) (hs:s.heap.IsSliceOf sl vl vu .none) (pl:IsPart vl lo) (pu:IsPart vu hi)
 (hw:sIx items.size 0 lo=0/\sIx items.size items.size hi=items.size) (h:Q (.ref t) s):wpAny (model prog w) A (getItem (.ref t) (.ref sl)) Q E s:=by
 obtain ⟨os,hos,hcs,hds⟩:=id hs
 have hTs:s.TypeIs (.ref sl) "slice" := ⟨os,hos,hcs⟩
 unfold getItem
 try with_reducible refine wpAny_holding ?_
 first | refine wpAny_bind (wpAny_pure ?_) | skip
 refine wpAny_bind (wpAny_sequenceKey ht.typeIs (by decide) ?_)
 refine wpAny_bind (wpAny_callSpecial?_slot (name:=Str.ofString "__getitem__") ht.typeIs PyProof.Rows.slot_tuple_getitem
  (wpAny_call_entry PyProof.Rows.slot_tuple_getitem ht.typeIs entry_tuple_getitem ?_ (args_tuple_getitem _ _)))
 show wpAny _ _ (Builtin.Tuple.tupleItemsOf (.ref t) >>= _) _ _ s
 refine wpAny_bind (tupleItemsOf_ ht ?_)
 refine wpAny_bind (wpAny_typeOf hTs ?_)
 rw [if_pos (by decide)]
 refine wpAny_bind (sliceApplied_gen hs pl pu ?_)
 have hyes:(((sIx items.size 0 lo:Nat):Int) == 0 && (1:Int) == 1 && (sIx items.size items.size hi - sIx items.size 0 lo) == items.size)=true:=by
  rw [hw.1,hw.2,Nat.sub_zero]
  simp
 show wpAny _ _ (if (((sIx items.size 0 lo:Nat):Int) == 0 && (1:Int) == 1 && (sIx items.size items.size hi - sIx items.size 0 lo) == items.size)=true then _ else _) _ _ s
 rw [if_pos hyes]
 refine wpAny_bind ?_
 unfold Builtin.Tuple.tupleIsExact
 refine wpAny_bind (wpAny_typeOf ht.typeIs (wpAny_pure ?_))
 rw [if_pos (by decide)]
 first
  | exact wpAny_bind (wpAny_rule (wpAny_pure ⟨_,rfl,wpAny_pure h⟩))
  | (refine wpAny_pure ?_; exact ⟨_,rfl,wpAny_pure h⟩)
  | (refine wpAny_bind (wpAny_pure ?_); refine wpAny_pure ?_; exact ⟨_,rfl,wpAny_pure h⟩)
  | (refine wpAny_bind (wpAny_pure ?_); refine wpAny_bind (wpAny_pure ?_); refine wpAny_pure ?_; exact ⟨_,rfl,wpAny_pure h⟩)
  | (refine wpAny_bind (wpAny_bind (wpAny_pure ?_)); refine wpAny_pure ?_; exact ⟨_,rfl,wpAny_pure h⟩)
end
end HT
namespace L2
open PySem PySem.Spec PyProof.Rows
section
variable {X:Cx}
def rSlTW (K:W.Frag):V->Option Int->Option Int->Hp->VK->Prop:=fun x lo hi H Q=>∃ a xs,x=.ref a/\SqT K H a xs /\
 (HT.sIx xs.length 0 lo=0/\HT.sIx xs.length xs.length hi=xs.length)/\Q (.ref a) H
theorem sl_tupW:SlR X (rSlTW X.K):=by
 intro pins s σ H x v vl vu lo hi sl Q I rx hs pl pu h
 obtain ⟨a,xs,rfl,hx,hw,q⟩:=h
 cases rx
 obtain ⟨its,r,ht,hz⟩:=I.tuple hx
 have hlen:its.toArray.size=xs.length:=by rw [List.size_toArray]; exact r.length.symm
 refine ⟨"tuple", _,PyProof.Rows.slot_tuple_getitem.lookup,ht.typeIs,?_⟩
 exact HT.getItem_tuple_whole ht hs pl pu (by rw [hlen]; exact hw) ⟨.ref a,H,I,rfl,q⟩
theorem cutV_whole {xs:List V} {lo hi:Option Int} (hw:HT.sIx xs.length 0 lo=0/\HT.sIx xs.length xs.length hi=xs.length):cutV xs lo hi=xs:=by
 unfold cutV
 rw [hw.1,hw.2,List.drop_zero,Nat.sub_zero,List.take_length]
def rSlTA (K:W.Frag):V->Option Int->Option Int->Hp->VK->Prop:=fun x lo hi H Q=>∃ a xs,x=.ref a/\SqT K H a xs/\H a=some (.tup xs)/\∀ p H',Same H H'->H' p=some (.tup (cutV xs lo hi))->Q (.ref p) H'
theorem sl_tupA:SlR X (rSlTA X.K):=by
 intro pins s σ H x v vl vu lo hi sl Q I rx hs pl pu h
 obtain ⟨a,xs,rfl,hx,ha,q⟩:=h
 by_cases hw:HT.sIx xs.length 0 lo=0/\HT.sIx xs.length xs.length hi=xs.length
 . exact sl_tupW pins s σ H _ v vl vu lo hi sl Q I rx hs pl pu ⟨a,xs,rfl,hx,hw,q a H (Same.refl _) (by rw [cutV_whole hw]; exact ha)⟩
 . exact sl_tup pins s σ H _ v vl vu lo hi sl Q I rx hs pl pu ⟨a,xs,rfl,hx,hw,fun p hp=>q p _ (Same.new hp _) upd_same⟩
end
def SqB (K:W.Frag) (b:Bool) (H:Hp) (a:Addr) (xs:List V):Prop:=if b=true then SqL K H a xs else SqT K H a xs
def ItVT (K:W.Frag) (a:Addr) (xs:List V):It:=⟨fun i H=>SqT K H a xs/\i < xs.length,fun i H y H'=>H'=H/\xs.reverse[i]?=some y,fun i _=>xs.length<=i⟩
theorem RevT.keep {h h':Heap} {it t:Addr} {i:Int} (x:RevT h it t i) (k:∀ o,h.get? it=some o->h'.get? it=some o):RevT h' it t i:=k _ x
theorem turn_revT {P:Program} {w:World} {K:W.Frag} {tg:Expr} (a it:Addr) (xs:List V):Turn P w K tg (ItVT K a xs) [it] it (fun i h=>i<=xs.length/\RevT h it a ((xs.length:Int) - 1 - (i:Int))) where
 mem:=by simp
 obj:=fun i h st b hb=>by
  have e:b=it:=by simpa using hb
  subst e
  exact ⟨_,st.2,fun v z=>by cases z⟩
 keep:=fun i h h' st k=>⟨st.1,st.2.keep fun o e=>k it (by simp) o e⟩
 item:=by
  intro X hP hw hK hc i pins s σ H E I hf st hg
  subst hP hw hK
  obtain ⟨hq,hi⟩:=hg
  obtain ⟨its,rv,p,hz⟩:=I.tuple hq
  have hj:xs.length - 1 - i < xs.length:=by omega
  have hx:xs[xs.length - 1 - i]?=some xs[xs.length - 1 - i]:=List.getElem?_eq_getElem hj
  obtain ⟨u,hu,ru⟩:=rv.get hx
  obtain ⟨f0,f1,f2,f3,f4,f5⟩:=hf it (by simp)
  obtain ⟨_,hit⟩:=st
  have e1:((xs.length:Int) - 1 - (i:Int))=((xs.length - 1 - i:Nat):Int):=by omega
  rw [e1] at hit
  have h63:=line63
  refine next_revT_item hit p (x:=u) (by simpa using hu) (by omega) fun h' tk st' sb=>?_
  have I1:Inv X pins σ H { s with heap:=h',toks:=tk }:=I.turned (t':=tk) (fun b o hb e=>(sb.2 b hb).trans e) f0 f1 f3 f4 f5
  have e2:((xs.length - 1 - i:Nat):Int) - 1=(xs.length:Int) - 1 - ((i+1:Nat):Int):=by omega
  rw [e2] at st'
  refine ⟨u,rfl,go_of (s:={ s with heap:=h',toks:=tk }) st' rfl rfl (by decide) ⟨xs[xs.length - 1 - i],H,I1,ru,⟨rfl,?_⟩,⟨by omega,st'⟩,fun b hb=>(hf b hb).1⟩⟩
  rw [List.getElem?_reverse hi,hx]
 done:=by
  intro X hP hw hK hc i pins s σ H E I hf st hg
  subst hP hw hK
  have hg:xs.length<=i:=hg
  obtain ⟨f0,f1,f2,f3,f4,f5⟩:=hf it (by simp)
  obtain ⟨hi,hit⟩:=st
  have e1:(xs.length:Int) - 1 - (i:Int)=-1:=by omega
  rw [e1] at hit
  exact next_revT_end (I.ok.hd hc) hit fun h' tk eb=>⟨rfl,I.turned (t':=tk) (fun b o hb e=>eb b o hb e) f0 f1 f3 f4 f5⟩
 self:=fun _ _ _ _ _ st h=>iter_revT st.2 h
def ItVB (K:W.Frag) (c:Bool) (a:Addr) (xs:List V):It:=if c=true then ItV K a xs else ItVT K a xs
section
variable {X:Cx} {tg:Expr}
def iRevB (K:W.Frag) (tl:TE):TI:=fun σ H R=>tl σ H fun x H1=>∃ c a xs,x=.ref a/\SqB K c H1 a xs/\R (ItVB K c a xs) H1
theorem pi_revb {l:Expr} {tl:TE} {p pos:Pos} (hg:Gl X "reversed") (hm:X.mg "reversed" = none) (hl:PE X l tl) (hs:starEach [l] X.env=[(false,eval l X.env)]:=by rfl) :
 PI X tg (.Call (.Name "reversed" p) [l] [] pos) (iRevB X.K tl):=by
 intro pins s σ H R I h
 refine wpAny_Call_Name_kw (ld_blt I hg hm boot_reversed' ?_)
 refine PyProof.Rows.callWith_type1 ?_ hs rfl
 rw [hs]
 show wpAny _ _ (spliced ((false,eval l X.env)::backTo pos (starEach [] X.env))) _ _ s
 refine Calls.spliced_cons (thn (hl pins s σ H _ I h) fun u s1 ⟨x,H1,I1,r1,c,a,xs,ex,hq,q⟩=>?_)
 subst ex
 cases r1
 refine Calls.spliced_nil ?_
 cases c with
 | true =>
   have hq:SqL X.K H1 a xs:=hq
   have q:R (ItV X.K a xs) H1:=q
   obtain ⟨its,rv,p,hz⟩:=I1.list hq
   have hlen:=rv.length
   refine call_reversed_list p.isList ?_
   have hr:(s1.heap.push (revObj a ((its.toArray.size:Int) - 1))).IsRevIter s1.heap.objs.size a ((xs.length:Int) - 1 - ((0:Nat):Int)):=by
    have e:(xs.length:Int) - 1 - ((0:Nat):Int)=(its.toArray.size:Int) - 1:=by rw [List.size_toArray]; omega
    rw [e]
    exact ⟨_,Heap.get?_push_size _ rfl,rfl,rfl⟩
   refine wpAny_pyIter_revIter hr ?_
   refine ⟨s1.heap.objs.size,[s1.heap.objs.size],_,_,H1,rfl,I1.kept (t':=s1.toks) fun b o e=>Heap.get?_push_of_some _ e,turn_revl a _ xs,⟨Nat.zero_le _,hr⟩,fun b hb=>?_,q⟩
   have e:b=s1.heap.objs.size:=by simpa using hb
   subst e
   exact I1.fpOk (Nat.le_refl _) (I1.hok.fresh (Nat.le_refl _))
 | false =>
   have hq:SqT X.K H1 a xs:=hq
   have q:R (ItVT X.K a xs) H1:=q
   obtain ⟨its,rv,p,hz⟩:=I1.tuple hq
   have hlen:=rv.length
   refine call_reversed_tup p (by rw [List.size_toArray,← rv.length]; exact hz) fun tk=>?_
   have hr:RevT (s1.heap.push { cls:=.type "reversed", data:=.fields #[.ref a,rawInt ((its.toArray.size:Int) - 1)] }) s1.heap.objs.size a ((xs.length:Int) - 1 - ((0:Nat):Int)):=by
    have e:(xs.length:Int) - 1 - ((0:Nat):Int)=(its.toArray.size:Int) - 1:=by rw [List.size_toArray]; omega
    rw [e]
    exact Heap.get?_push_size _ rfl
   refine iter_revT hr ?_
   refine ⟨s1.heap.objs.size,[s1.heap.objs.size],_,_,H1,rfl,I1.kept (t':=tk) fun b o e=>Heap.get?_push_of_some _ e,turn_revT a _ xs,⟨Nat.zero_le _,hr⟩,fun b hb=>?_,q⟩
   have e:b=s1.heap.objs.size:=by simpa using hb
   subst e
   exact I1.fpOk (Nat.le_refl _) (I1.hok.fresh (Nat.le_refl _))
end
theorem for_revb {K:W.Frag} {c:Bool} {a:Addr} {xs:List V} {g:TG} {tb:TS} {D:Ends} {σ:St} {H:Hp} (Pv:Nat->St->Hp->Prop) (h0:Pv 0 σ H) (hl:∀ i σ H,i<=xs.length->Pv i σ H->SqB K c H a xs)
 (hs:∀ i x σ H,i < xs.length->xs.reverse[i]?=some x->Pv i σ H->g x σ H fun σ2 H2=>tb { D with nx:=Pv (i+1),ct:=Pv (i+1),bk:=D.nx } σ2 H2) (hd:∀ σ H,Pv xs.length σ H->D.nx σ H) :
 ∃ W:Nat->Nat->St->Hp->Prop,(∃ m,W 0 m σ H)/\∀ i m σ H,W i m σ H ->
  ((ItVB K c a xs).stop i H/\D.nx σ H)∨((ItVB K c a xs).go i H/\∃ N:St->Hp->Prop,(∀ σ' H',N σ' H'->∃ m',m' < m/\W (i+1) m' σ' H')/\∀ x H',(ItVB K c a xs).yld i H x H'->g x σ H' fun σ2 H2=>tb { D with nx:=N,ct:=N,bk:=D.nx } σ2 H2):=by
 cases c with
 | true=>exact for_revl Pv h0 hl hs hd
 | false =>
   refine ⟨fun i m σ H=>m=xs.length - i/\i<=xs.length/\Pv i σ H,⟨xs.length,by simp,Nat.zero_le _,h0⟩,?_⟩
   rintro i m σ H ⟨rfl,hi,p⟩
   have q:=hl i σ H hi p
   by_cases hlt:i < xs.length
   . refine .inr ⟨⟨q,hlt⟩,Pv (i+1),fun σ' H' p'=>⟨xs.length - (i+1),by omega,rfl,hlt,p'⟩,fun x H' y=>?_⟩
     obtain ⟨e,ex⟩:=y
     subst e
     exact hs i x σ _ hlt ex p
   . have e:i=xs.length:=by omega
     subst e
     exact .inl ⟨Nat.le_refl _,hd σ H p⟩
set_option maxRecDepth 100000
theorem noFill_tuple_mul:fillsNumberSlot (.type "tuple") "mul" = pure false :=
 PySem.fillsNumberSlot_seq (id := "tuple.__mul__") (r:=some (.builtin "tuple.__rmul__")) F.slot_tuple_mul.lookup (by decide +kernel) F.slot_tuple_rmul.lookup (by decide +kernel)
theorem repeat_tuple:seqRepeat? (.type "tuple")=pure (some (.builtin "tuple.__mul__")):=by
 unfold seqRepeat?
 rw [PySem.seqSlot_of (T := "tuple") (name := "__mul__") (id := "tuple.__mul__") F.slot_tuple_mul.lookup (by decide +kernel),PySem.seqSlot_of (T := "tuple") (name := "__rmul__") (id := "tuple.__rmul__") F.slot_tuple_rmul.lookup (by decide +kernel)]
 rfl
theorem int_rmul_tuple (a:Int) (t:Tok) (l:Addr) (items:Array Value) (n:Nat) (dd:Option Addr) (sl:Array (Option Value)) :
 Meets (Builtin.«int.__rmul__» ⟨[.int a t,.ref l],[]⟩) (fun _ R s=>s.heap.get? l=some { cls:=.type "tuple", dict:=dd,data:=.seq items n,slots:=sl }/\R (.ok (.ret Value.notImplemented)) s) :=
 .of_wp fun prog w A R s h=>by obtain ⟨hp,g,d,tk,os⟩:=s; obtain ⟨hl,h⟩:=h; wp_walk; exact ⟨_,rfl,h⟩
theorem tuple_mul_one (l:Addr) (items:Array Value) (n:Nat) (dd:Option Addr) (sl:Array (Option Value)) (u:Tok) :
 Meets (Builtin.«tuple.__mul__» ⟨[.ref l,.int 1 u],[]⟩) (fun _ R s=>s.heap.get? l=some { cls:=.type "tuple", dict:=dd,data:=.seq items n,slots:=sl }/\R (.ok (.ret (.ref l))) s) :=
 .of_wp fun prog w A R s h=>by obtain ⟨hp,g,d,tk,os⟩:=s; obtain ⟨hl,h⟩:=h; wp_walk; exact ⟨_,rfl,h⟩
theorem tuple_mul_zero (l:Addr) (v:Value) (n:Nat) (dd:Option Addr) (sl:Array (Option Value)) (u:Tok) :
 Meets (Builtin.«tuple.__mul__» ⟨[.ref l,.int 0 u],[]⟩) (fun _ R s=>s.heap.get? l=some { cls:=.type "tuple", dict:=dd,data:=.seq #[v] n,slots:=sl }/\R (.ok (.ret (.ref s.heap.objs.size))) { s with heap:=s.heap.push { cls:=.type "tuple", data:=.seq #[] },toks:=s.toks }) :=
 .of_wp fun prog w A R s h=>by obtain ⟨hp,g,d,tk,os⟩:=s; obtain ⟨hl,h⟩:=h; wp_walk; exact ⟨_,rfl,h⟩
theorem tuple_mul_more (l:Addr) (v:Value) (n:Nat) (dd:Option Addr) (sl:Array (Option Value)) (x:Int) (u:Tok) (h2:2<=x) (hx:x<=1000) :
 Meets (Builtin.«tuple.__mul__» ⟨[.ref l,.int x u],[]⟩) (fun _ R s=>s.heap.get? l=some { cls:=.type "tuple", dict:=dd,data:=.seq #[v] n,slots:=sl }/\R (.ok (.ret (.ref s.heap.objs.size))) { s with heap:=s.heap.push { cls:=.type "tuple", data:=.seq ((List.replicate x.toNat #[v]).foldl (·++·) #[]) },toks:=s.toks }) :=
 .of_wp fun prog w A R s h=>by
  obtain ⟨hp,g,d,tk,os⟩:=s
  obtain ⟨hl,h⟩:=h
  have c1:(decide (x < -(2 ^ 63)) || decide (x ≥ 2 ^ 63))=false:=by
   rw [decide_eq_false (by omega),decide_eq_false (by omega)]
   rfl
  have c2:(x == 1)=false:=by simpa using (show x ≠ 1 by omega)
  have c3:decide (x<=0)=false:=decide_eq_false (by omega)
  have c4:¬ ((1:Int)*x > (2 ^ 63 - 1) / 8):=by omega
  have c5:Builtin.Tuple.tupleTooMany (1*x)=false:=by
   unfold Builtin.Tuple.tupleTooMany
   have:(sizeLine:Int) ≥ 1000:=by decide
   exact decide_eq_false (by omega)
  wp_walk
  refine wpAny_ite_split (fun hab=>by rw [c1] at hab; cases hab) (fun _=>?_)
  show wpAny _ _ (do let xs ← Builtin.Tuple.tupleItemsOf (Value.ref l); _) _ _ _
  wp_walk
  refine wpAny_ite_split (fun hab=>absurd hab c4) (fun _=>?_)
  refine wpAny_ite_split (fun hab=>by rw [show Builtin.Tuple.tupleTooMany (((#[v]:Array Value).size:Int)*x)=false from c5] at hab; cases hab) (fun _=>?_)
  have sz:((List.replicate x.toNat #[v]).foldl (·++·) #[]).size<=sizeLine:=by
   have e:(List.replicate x.toNat (#[v]:Array Value)).foldl (·++·) #[]=(List.replicate x.toNat [v]).flatten.toArray:=by
    have:=foldl_rep [v] x.toNat []
    rw [List.nil_append] at this
    exact this
   rw [e,List.size_toArray,len_rep]
   exact dN (by show x.toNat*1<=1000; omega)
  refine wpAny_bind (wpAny_newObj_type ?_ sz)
  exact wpAny_pure ⟨_,rfl,h⟩
section
variable {X:Cx}
def rRepT (K:W.Frag):R2:=fun x y H Q=>∃ a v k,x=.ref a/\y=.int k/\SqT K H a [v]/\0<=k/\k<=1000/\(k=1->Q (.ref a) H)/\(k ≠ 1->∀ p,H p=none->Q (.ref p) (upd H p (.tup (List.replicate k.toNat v))))
theorem vals_rep {v:V} {u:Value} (r:RelV v u):∀ n,Vals (List.replicate n v) (List.replicate n u)
 | 0=>.nil
 | n+1=>.cons r (vals_rep r n)
theorem op_repT:OpR X (binaryOp .Mult) (rRepT X.K):=by
 intro pins s σ H x y vv u Q I rx ry h
 obtain ⟨a,v,k,rfl,rfl,hq,k0,k1,q1,q2⟩:=h
 cases rx
 obtain ⟨t,rfl⟩:=ry
 obtain ⟨its,r,p,hz⟩:=I.tuple hq
 obtain ⟨w,rfl,rw'⟩:∃ w,its=[w]/\RelV v w:=by
  cases r with
  | cons h1 h2=>cases h2; exact ⟨_,rfl,h1⟩
 obtain ⟨o,e,hc,n,hd⟩:=p
 obtain ⟨cls,dd,data,sl⟩:=o
 cases hc
 cases hd
 have e:s.heap.get? a=some { cls:=.type "tuple", dict:=dd,data:=.seq #[w] n,slots:=sl }:=e
 refine wpAny_binaryOp_repeat_ref (T := "tuple") (U := "int") (by decide) ⟨_,e,rfl⟩ (fun s'=>typeIs_int s' k t) noFill_tuple_mul F.fills_int_mul F.slot_int_rmul repeat_tuple F.slot_int_index.lookup
  (call_meets F.slot_int_rmul (typeIs_int s k t) F.entry_int_rmul (F.args_int_rmul_2 _ _) (int_rmul_tuple k t a #[w] n dd sl)
   ⟨e,rfl,⟨_,e,rfl⟩,?_⟩)
 by_cases c1:k=1
 . subst c1
   exact call_meets F.slot_tuple_mul ⟨_,e,rfl⟩ F.entry_tuple_mul (F.args_tuple_mul_2 _ _) (tuple_mul_one a #[w] n dd sl t) ⟨e,.ref a,H,I,rfl,q1 rfl⟩
 have laid:∀ m:Nat,m<=1000->Inv X pins σ (upd H s.heap.objs.size (.tup (List.replicate m v))) { s with heap:=s.heap.push { cls:=.type "tuple", data:=.seq (List.replicate m w).toArray },toks:=s.toks }:=fun m hm =>
  I.laid (t':=s.toks) (o:=.tup (List.replicate m v)) (fun b ob q=>Heap.get?_push_of_some _ q) (Nat.le_refl _) ⟨by rw [List.length_replicate]; exact dN hm,_,vals_rep rw' m,IsTup.new _ _,_,Heap.get?_push_size _ rfl,rfl⟩
 by_cases c0:k=0
 . subst c0
   exact call_meets F.slot_tuple_mul ⟨_,e,rfl⟩ F.entry_tuple_mul (F.args_tuple_mul_2 _ _) (tuple_mul_zero a w n dd sl t) ⟨e,.ref _,_,laid 0 (by decide),rfl,q2 (by decide) _ (I.hok.fresh (Nat.le_refl _))⟩
 . have ef:(List.replicate k.toNat (#[w]:Array Value)).foldl (·++·) #[]=(List.replicate k.toNat w).toArray:=by
    have:=foldl_rep [w] k.toNat []
    rw [List.nil_append] at this
    rw [show (List.replicate k.toNat w)=(List.replicate k.toNat [w]).flatten by
     induction k.toNat with
     | zero=>rfl
     | succ m ih=>rw [List.replicate_succ,List.replicate_succ,List.flatten_cons,ih]; rfl]
    exact this
   refine call_meets F.slot_tuple_mul ⟨_,e,rfl⟩ F.entry_tuple_mul (F.args_tuple_mul_2 _ _) (tuple_mul_more a w n dd sl k t (by omega) k1) ⟨e,?_⟩
   rw [ef]
   exact ⟨.ref _,_,laid k.toNat (by omega),rfl,q2 c1 _ (I.hok.fresh (Nat.le_refl _))⟩
theorem op_repTK (K:W.Frag) (hK:X.K=K:=by rfl):OpR X (binaryOp .Mult) (rRepT K):=by subst hK; exact op_repT
end
section
variable {X:Cx}
def rDictD:List V->Hp->VK->Prop:=fun xs H Q=>∃ (a:Addr) (kvs:List (Key × V)),xs=[.ref a]/\H a=some (.dK kvs)/\∀ p,H p=none->Q (.ref p) (upd H p (.dK kvs))
theorem call_dictD:CallR X (.type "dict") rDictD:=by
 intro pins s σ H xs us Q I r h
 obtain ⟨a,kvs,rfl,ha,q⟩:=h
 cases r with
 | cons ra rr =>
   cases rr
   cases ra
   exact d_copyOf I (.inl ha) fun p s' hp I'=>⟨.ref p,_,I',rfl,q p hp⟩
end
theorem boot_dictD:bootBuiltins ("dict" : Str)=some (.type "dict"):=by decide +kernel
end L2
namespace Mine
def Pr (n:Int):Prop:=2<=n/\∀ k:Int,2<=k->k<=1000->k*k<=n->n % k ≠ 0
def PrUpTo (n:Int) (j:Int):Prop:=∀ k:Int,2<=k->k < j->k*k<=n/\n % k ≠ 0
theorem sq_le {a b:Int} (h0:0<=a) (h:a<=b):a*a<=b*b:=Int.mul_le_mul h h h0 (Int.le_trans h0 h)
theorem pr_big {n k:Int} (h2:2<=n) (h0:2<=k) (u:PrUpTo n k) (h:n < k*k):Pr n:=by
 refine ⟨h2,fun j j2 _ js=>?_⟩
 by_cases c:j < k
 . exact (u j j2 c).2
 . have:=sq_le (a:=k) (b:=j) (by omega) (by omega)
   omega
theorem pr_all {n:Int} (h2:2<=n) (u:PrUpTo n 1001):Pr n:=⟨h2,fun j j2 j3 _=>(u j j2 (by omega)).2⟩
theorem pr_not {n k:Int} (h0:2<=k) (h1:k<=1000) (hs:k*k<=n) (h:n % k=0):¬ Pr n:=fun p=>p.2 k h0 h1 hs h
theorem upTo_start (n:Int):PrUpTo n 2:=fun k a b=>by omega
theorem upTo_next {n k:Int} (u:PrUpTo n k) (hs:k*k<=n) (h:n % k ≠ 0):PrUpTo n (k+1):=fun j a b=>by
 by_cases c:j < k
 . exact u j a c
 . have e:j=k:=by omega
   subst e; exact ⟨hs,h⟩
def prB (n:Int):Bool:=decide (2<=n) && (List.range 999).all fun i=>decide (n < ((i:Int)+2)*((i:Int)+2)) || decide (n % ((i:Int)+2) ≠ 0)
theorem pr_of_b {n:Int} (h:prB n=true):Pr n:=by
 unfold prB at h
 rw [Bool.and_eq_true] at h
 refine ⟨of_decide_eq_true h.1,fun k k2 k3 ks=>?_⟩
 have q:=List.all_eq_true.mp h.2 (k.toNat - 2) (List.mem_range.mpr (by omega))
 have e:(((k.toNat - 2:Nat):Int)+2)=k:=by omega
 rw [e,Bool.or_eq_true] at q
 rcases q with q | q
 . have:=of_decide_eq_true q; omega
 . exact of_decide_eq_true q
theorem pr_999983:Pr 999983:=pr_of_b (by decide +kernel)
theorem pr_dvd {p d:Int} (h:Pr p) (hp:p < 1002001) (d0:1 < d) (d1:d < p) (hd:d ∣ p):False:=by
 obtain ⟨e,he⟩:=hd
 have e0:1 < e:=by
  by_cases c:e<=1
  . have:d*e<=d*1:=Int.mul_le_mul_of_nonneg_left c (by omega)
    omega
  . omega
 by_cases c:d<=e
 . have s:d*d<=p:=by
    have:=Int.mul_le_mul_of_nonneg_left c (show (0:Int)<=d by omega)
    omega
   have t:d<=1000:=by
    by_cases c2:1001<=d
    . have:=sq_le (a:=1001) (b:=d) (by omega) c2
      omega
    . omega
   refine h.2 d (by omega) t s ?_
   rw [he]; exact Int.mul_emod_right d e
 . have c':e<=d:=by omega
   have s:e*e<=p:=by
    have:=Int.mul_le_mul_of_nonneg_right c' (show (0:Int)<=e by omega)
    omega
   have t:e<=1000:=by
    by_cases c2:1001<=e
    . have:=sq_le (a:=1001) (b:=e) (by omega) c2
      omega
    . omega
   refine h.2 e (by omega) t s ?_
   rw [he,Int.mul_comm]; exact Int.mul_emod_right e d
def Cop (x y:Int):Prop:=∀ d:Int,0 < d->d ∣ x->d ∣ y->d=1
theorem cop_pr {p a:Int} (h:Pr p) (hp:p < 1002001) (a0:0 < a) (a1:a < p):Cop p a:=fun d d0 h1 h2=>by
 have:=Int.le_of_dvd a0 h2
 by_cases c:1 < d
 . exact (pr_dvd h hp c (by omega) h1).elim
 . omega
structure Eu (a p former ff rest f:Int):Prop where
 r0:0 < rest
 rp:rest < p
 fr:rest < former
 f0:0<=f
 f1:f < p
 g0:0<=ff
 g1:ff < p
 cop:Cop former rest
 d1:p ∣ former - a*ff
 d2:p ∣ rest - a*f
theorem eu_start {a p:Int} (h:Pr p) (hp:p < 1002001) (a0:0 < a) (a1:a < p):Eu a p p 0 (a % p) 1:=by
 have e:a % p=a:=Int.emod_eq_of_lt (by omega) a1
 rw [e]
 exact ⟨a0,a1,a1,by omega,by omega,by omega,by omega,cop_pr h hp a0 a1,by rw [Int.mul_zero,Int.sub_zero]; exact Int.dvd_refl p,by rw [Int.mul_one,Int.sub_self]; exact Int.dvd_zero p⟩
theorem eu_next {a p former ff rest f:Int} (E:Eu a p former ff rest f) (h1:rest ≠ 1):Eu a p rest f (former - former / rest*rest) ((ff - former / rest*f) % p)/\(former - former / rest*rest).toNat < rest.toNat:=by
 have r0:=E.r0
 have rp:=E.rp
 have em:former - former / rest*rest=former % rest:=by
  have:=Int.emod_add_mul_ediv former rest
  rw [Int.mul_comm] at this
  omega
 have l0:0<=former % rest:=Int.emod_nonneg _ (by omega)
 have l1:former % rest < rest:=Int.emod_lt_of_pos _ r0
 have cop':Cop rest (former % rest):=fun d d0 x y=>by
  refine E.cop d d0 ?_ x
  have:=Int.emod_add_mul_ediv former rest
  rw [← this]
  exact Int.dvd_add y (Int.dvd_trans x (Int.dvd_mul_right _ _))
 have lz:former % rest ≠ 0:=fun z=>by
  have:=cop' rest r0 (Int.dvd_refl _) (by rw [z]; exact Int.dvd_zero _)
  exact h1 this
 rw [em]
 refine ⟨⟨by omega,by omega,l1,Int.emod_nonneg _ (by omega),Int.emod_lt_of_pos _ (by omega),E.f0,E.f1,cop',E.d2,?_⟩,by omega⟩
 have q:p ∣ (former - a*ff) - former / rest*(rest - a*f):=Int.dvd_sub E.d1 (Int.dvd_trans E.d2 (Int.dvd_mul_left _ _))
 have q2:p ∣ (ff - former / rest*f) - (ff - former / rest*f) % p:=Int.dvd_self_sub_emod
 have q3:p ∣ a*((ff - former / rest*f) - (ff - former / rest*f) % p):=Int.dvd_trans q2 (Int.dvd_mul_left _ _)
 have q4:=Int.dvd_add q q3
 have e2:former - a*ff - former / rest*(rest - a*f)+a*(ff - former / rest*f - (ff - former / rest*f) % p)=former % rest - a*((ff - former / rest*f) % p):=by
  rw [← em]
  generalize former / rest=t
  generalize (ff - t*f) % p=u
  rw [Int.mul_sub,Int.mul_sub,Int.mul_sub,Int.mul_left_comm t a f]
  omega
 rw [e2] at q4
 exact q4
theorem eu_end {a p former ff rest f:Int} (E:Eu a p former ff rest f) (h1:rest=1) (hp:1 < p):0 < f/\f < p/\f*a % p=1:=by
 subst h1
 have d2:=E.d2
 have f0:=E.f0
 have hm:f*a % p=1:=by
  obtain ⟨c,hc⟩:=d2
  have e:f*a=1+p*(-c):=by
   rw [Int.mul_comm f a,Int.mul_neg]; omega
  rw [e,Int.add_mul_emod_self_left]
  exact Int.emod_eq_of_lt (by omega) hp
 refine ⟨?_,E.f1,hm⟩
 by_cases c:f=0
 . subst c; simp at hm
 . omega
end Mine
namespace Mine
def OddUp (n d:Int):Prop:=∀ k:Int,3<=k->k % 2=1->k < d->n % k ≠ 0
theorem odd_start (n:Int):OddUp n 3:=fun k a _ c=>by omega
theorem odd_next {n d:Int} (u:OddUp n d) (hd:d % 2=1) (h:n % d ≠ 0):OddUp n (d+2):=fun k a b c=>by
 by_cases e:k < d
 . exact u k a b e
 . have:k=d:=by omega
   subst this; exact h
theorem field_yes {n d:Int} (h3:3<=n) (h2:n % 2 ≠ 0) (h0:3<=d) (u:OddUp n d) (hd:n < d*d):Pr n:=by
 refine ⟨by omega,fun k k2 k3 ks z=>?_⟩
 obtain ⟨q,hq⟩:=Int.dvd_of_emod_eq_zero z
 by_cases e:k % 2=1
 . by_cases c:k < d
   . exact u k (by omega) e c z
   . have:=sq_le (a:=d) (b:=k) (by omega) (by omega)
     omega
 . obtain ⟨j,hj⟩:∃ j,k=2*j:=⟨k / 2,by omega⟩
   rw [hj,Int.mul_assoc] at hq
   omega
theorem field_no2 {n:Int} (h2:n % 2=0) (h3:2 < n):¬ Pr n:=fun p=>p.2 2 (by omega) (by omega) (by omega) h2
theorem field_nod {n d:Int} (h9:n<=999999) (h0:3<=d) (hs:d*d<=n) (h:n % d=0):¬ Pr n:=fun p=>by
 have t:d<=1000:=by
  by_cases c2:1001<=d
  . have:=sq_le (a:=1001) (b:=d) (by omega) c2
    omega
  . omega
 exact p.2 d (by omega) t hs h
theorem small_root {n d:Int} (h9:n<=999999) (h0:3<=d) (hs:d*d<=n):d<=999:=by
 by_cases c2:1000<=d
 . have:=sq_le (a:=1000) (b:=d) (by omega) c2
   omega
 . omega
theorem root_le {n d:Int} (h0:3<=d) (hs:d*d<=n):d<=n:=by
 have:=Int.mul_le_mul_of_nonneg_left (show (1:Int)<=d by omega) (show (0:Int)<=d by omega)
 omega
end Mine
namespace Mine
def setts:Nat->List (List Int)
 | 0=>[[]]
 | n+1=>(setts n).flatMap fun s=>[s++[0],s++[1]]
end Mine
namespace Mine
def Pm (p:Int):Prop:=1 < p/\∀ a:Int,¬ p ∣ a->∃ f:Int,p ∣ f*a - 1
theorem eu_run {a p:Int} (hp:1 < p):∀ (n:Nat) {former ff rest f:Int},rest.toNat<=n->Eu a p former ff rest f->∃ g:Int,g*a % p=1
 | 0,former,ff,rest,f,hn,E=>by
   have:=E.r0
   omega
 | n+1,former,ff,rest,f,hn,E=>by
   by_cases c:rest=1
   . exact ⟨f,(eu_end E c hp).2.2⟩
   . obtain ⟨E2,lt⟩:=eu_next E c
     exact eu_run hp n (by omega) E2
theorem pm_of {p:Int} (h:Pr p) (hp:p < 1002001):Pm p:=by
 have p1:1 < p:=by have:=h.1; omega
 refine ⟨p1,fun a ha=>?_⟩
 have a0:0 < a % p:=by
  have:=Int.emod_nonneg a (show p ≠ 0 by omega)
  by_cases c:a % p=0
  . exact absurd (Int.dvd_of_emod_eq_zero c) ha
  . omega
 have a1:a % p < p:=Int.emod_lt_of_pos _ (by omega)
 obtain ⟨g,hg⟩:=eu_run p1 _ (Nat.le_refl _) (eu_start h hp a0 a1)
 refine ⟨g,?_⟩
 have e1:g*a % p=1:=by rw [← hg,Int.mul_emod g (a % p),Int.emod_emod,← Int.mul_emod]
 have:=Int.emod_add_mul_ediv (g*a) p
 exact ⟨g*a / p,by omega⟩
theorem Pm.mul {p a b:Int} (h:Pm p) (hd:p ∣ a*b) (ha:¬ p ∣ a):p ∣ b:=by
 obtain ⟨f,k,hk⟩:=h.2 a ha
 obtain ⟨m,hm⟩:=hd
 exact ⟨f*m - k*b,by grind⟩
theorem Pm.not_mul {p a b:Int} (h:Pm p) (ha:¬ p ∣ a) (hb:¬ p ∣ b):¬ p ∣ a*b:=fun z=>hb (h.mul z ha)
def ch:Nat->Nat->Nat
 | _,0=>1
 | 0,_+1=>0
 | n+1,k+1=>ch n k+ch n (k+1)
theorem ch_zero (n:Nat):ch n 0=1:=by cases n <;> rfl
theorem ch_big:∀ (n k:Nat),n < k->ch n k=0
 | 0,k+1,_=>rfl
 | n+1,k+1,h=>by
   show ch n k+ch n (k+1)=0
   rw [ch_big n k (by omega),ch_big n (k+1) (by omega)]
theorem ch_self (n:Nat):ch n n=1:=by
 induction n with
 | zero=>rfl
 | succ n ih =>
   show ch n n+ch n (n+1)=1
   rw [ih,ch_big n (n+1) (by omega)]
theorem ch_abs:∀ (n k:Nat),(k+1)*ch (n+1) (k+1)=(n+1)*ch n k
 | 0,0=>rfl
 | 0,k+1=>by
   show (k+2)*(ch 0 (k+1)+ch 0 (k+2))=1*ch 0 (k+1)
   rw [ch_big 0 (k+1) (by omega),ch_big 0 (k+2) (by omega)]
   simp
 | n+1,0=>by
   have h:=ch_abs n 0
   rw [ch_zero n] at h
   show (0+1)*(ch (n+1) 0+ch (n+1) (0+1))=(n+1+1)*ch (n+1) 0
   rw [ch_zero (n+1)]
   omega
 | n+1,k+1=>by
   have h1:=ch_abs n k
   have h2:=ch_abs n (k+1)
   show (k+2)*(ch (n+1) (k+1)+ch (n+1) (k+2))=(n+2)*ch (n+1) (k+1)
   have e:ch (n+1) (k+1)=ch n k+ch n (k+1):=rfl
   grind
def sm (f:Nat->Int):Nat->Int
 | 0=>0
 | n+1=>sm f n+f n
theorem sm_congr {f g:Nat->Int}:∀ n,(∀ k,k < n->f k=g k)->sm f n=sm g n
 | 0,_=>rfl
 | n+1,h=>by
   show sm f n+f n=sm g n+g n
   rw [sm_congr n (fun k hk=>h k (by omega)),h n (by omega)]
theorem sm_add (f g:Nat->Int):∀ n,sm (fun k=>f k+g k) n=sm f n+sm g n
 | 0=>rfl
 | n+1=>by
   show sm (fun k=>f k+g k) n+(f n+g n)=(sm f n+f n)+(sm g n+g n)
   rw [sm_add f g n]
   omega
theorem sm_mul (c:Int) (f:Nat->Int):∀ n,sm (fun k=>c*f k) n=c*sm f n
 | 0=>by simp [sm]
 | n+1=>by
   show sm (fun k=>c*f k) n+c*f n=c*(sm f n+f n)
   rw [sm_mul c f n]
   grind
theorem sm_front (f:Nat->Int):∀ n,sm f (n+1)=f 0+sm (fun k=>f (k+1)) n
 | 0=>by simp [sm]
 | n+1=>by
   show sm f (n+1)+f (n+1)=f 0+(sm (fun k=>f (k+1)) n+f (n+1))
   rw [sm_front f n]
   omega
theorem sm_dvd {p:Int} {f:Nat->Int}:∀ n,(∀ k,k < n->p ∣ f k)->p ∣ sm f n
 | 0,_=>⟨0,by simp [sm]⟩
 | n+1,h=>Int.dvd_add (sm_dvd n fun k hk=>h k (by omega)) (h n (by omega))
theorem binom (a:Int):∀ n:Nat,(a+1) ^ n=sm (fun k=>(ch n k:Int)*a ^ k) (n+1)
 | 0=>by simp [sm,ch]
 | n+1=>by
   have ih:=binom a n
   rw [Int.pow_succ,ih,sm_front (fun k=>((ch (n+1) k:Nat):Int)*a ^ k) (n+1)]
   have e1:sm (fun k=>((ch (n+1) (k+1):Nat):Int)*a ^ (k+1)) (n+1)=a*sm (fun k=>(ch n k:Int)*a ^ k) (n+1)+sm (fun k=>(ch n (k+1):Int)*a ^ (k+1)) (n+1):=by
    rw [← sm_mul,← sm_add]
    refine sm_congr _ fun k _=>?_
    have:ch (n+1) (k+1)=ch n k+ch n (k+1):=rfl
    rw [this,Int.natCast_add,Int.pow_succ]
    grind
   have e2:sm (fun k=>(ch n k:Int)*a ^ k) (n+1)=1+sm (fun k=>(ch n (k+1):Int)*a ^ (k+1)) (n+1):=by
    rw [sm_front]
    have:sm (fun k=>(ch n (k+1):Int)*a ^ (k+1)) (n+1)=sm (fun k=>(ch n (k+1):Int)*a ^ (k+1)) n:=by
     show _+(ch n (n+1):Int)*a ^ (n+1)=_
     rw [ch_big n (n+1) (by omega)]
     simp
    rw [this,ch_zero]
    simp
   rw [e1,ch_zero]
   grind
theorem ch_dvd {p:Int} (h:Pm p) {n k:Nat} (hn:(n:Int)+1=p) (hk:k < n):p ∣ ((ch (n+1) (k+1):Nat):Int):=by
 have e:((k:Int)+1)*((ch (n+1) (k+1):Nat):Int)=p*((ch n k:Nat):Int):=by
  have:=ch_abs n k
  rw [← hn]
  exact_mod_cast this
 refine h.mul (a:=(k:Int)+1) ⟨_,e⟩ fun hd=>?_
 have:=Int.le_of_dvd (by omega) hd
 omega
theorem fermat_nat {p:Int} (h:Pm p):∀ a:Nat,p ∣ (a:Int) ^ p.toNat - a
 | 0=>by
   have:p.toNat ≠ 0:=by have:=h.1; omega
   simp [Int.zero_pow this]
 | a+1=>by
   have ih:=fermat_nat h a
   obtain ⟨n,hn⟩:∃ n:Nat,p.toNat=n+1:=⟨p.toNat - 1,by have:=h.1; omega⟩
   have hp:(n:Int)+1=p:=by have:=h.1; omega
   rw [hn] at ih ⊢
   have b:=binom (a:Int) (n+1)
   have e:sm (fun k=>(ch (n+1) k:Int)*(a:Int) ^ k) (n+1+1)=sm (fun k=>(ch (n+1) (k+1):Int)*(a:Int) ^ (k+1)) n+(a:Int) ^ (n+1)+1:=by
    rw [sm_front]
    show _+(sm _ n+(ch (n+1) (n+1):Int)*(a:Int) ^ (n+1))=_
    rw [ch_self,ch_zero]
    simp
    omega
   have d:p ∣ sm (fun k=>(ch (n+1) (k+1):Int)*(a:Int) ^ (k+1)) n:=sm_dvd n fun k hk=>Int.dvd_mul_of_dvd_left (ch_dvd h hp hk)
   obtain ⟨u,hu⟩:=ih
   obtain ⟨v,hv⟩:=d
   refine ⟨u+v,?_⟩
   rw [Int.natCast_add]
   show ((a:Int)+1) ^ (n+1) - ((a:Int)+1)=_
   rw [b,e]
   grind
theorem fermat {p a:Int} (h:Pm p) (ha:¬ p ∣ a) (a0:0<=a):p ∣ a*a ^ (p - 2).toNat - 1:=by
 obtain ⟨n,hn⟩:∃ n:Nat,p.toNat=n+2:=⟨p.toNat - 2,by have:=h.1; omega⟩
 have e:(p - 2).toNat=n:=by omega
 have f:=fermat_nat h a.toNat
 rw [Int.toNat_of_nonneg a0,hn] at f
 rw [e]
 have g:a ^ (n+2) - a=a*(a*a ^ n - 1):=by
  rw [Int.pow_succ,Int.pow_succ]
  grind
 rw [g] at f
 exact h.mul f ha
def IsPoly:Nat->(Int->Int)->Prop
 | 0,f=>∀ x,f x=0
 | n+1,f=>∃ (a:Int) (g:Int->Int),IsPoly n g/\∀ x,f x=a+x*g x
theorem IsPoly.congr:∀ {n:Nat} {f g:Int->Int},IsPoly n f->(∀ x,g x=f x)->IsPoly n g
 | 0,_,_,h,e=>fun x=>(e x).trans (h x)
 | _+1,_,_,⟨a,k,hk,h⟩,e=>⟨a,k,hk,fun x=>(e x).trans (h x)⟩
theorem IsPoly.zero:∀ n:Nat,IsPoly n fun _=>0
 | 0=>fun _=>rfl
 | n+1=>⟨0,fun _=>0,IsPoly.zero n,fun x=>by simp⟩
theorem IsPoly.up:∀ {n:Nat} {f:Int->Int},IsPoly n f->IsPoly (n+1) f
 | 0,f,h=>⟨0,fun _=>0,fun _=>rfl,fun x=>by rw [h x]; simp⟩
 | n+1,f,⟨a,g,hg,h⟩=>⟨a,g,hg.up,h⟩
theorem IsPoly.add:∀ {n:Nat} {f g:Int->Int},IsPoly n f->IsPoly n g->IsPoly n fun x=>f x+g x
 | 0,f,g,h,k=>fun x=>by show f x+g x=0; rw [h x,k x]; rfl
 | n+1,f,g,⟨a,u,hu,h⟩,⟨b,v,hv,k⟩=>⟨a+b,fun x=>u x+v x,hu.add hv,fun x=>by show f x+g x=a+b+x*(u x+v x); rw [h x,k x]; grind⟩
theorem IsPoly.mul (c:Int):∀ {n:Nat} {f:Int->Int},IsPoly n f->IsPoly n fun x=>c*f x
 | 0,f,h=>fun x=>by show c*f x=0; rw [h x]; simp
 | n+1,f,⟨a,u,hu,h⟩=>⟨c*a,fun x=>c*u x,hu.mul c,fun x=>by show c*f x=c*a+x*(c*u x); rw [h x]; grind⟩
theorem IsPoly.lin {n:Nat} {f:Int->Int} (h:IsPoly n f) (r:Int):IsPoly (n+1) fun x=>(x - r)*f x:=by
 have h1:IsPoly (n+1) fun x=>x*f x:=⟨0,f,h,fun x=>by simp⟩
 exact (h1.add (h.up.mul (-r))).congr fun x=>by grind
theorem IsPoly.div:∀ {n:Nat} {f:Int->Int},IsPoly (n+1) f->∀ r:Int,∃ q,IsPoly n q/\∀ x,f x - f r=(x - r)*q x
 | 0,f,⟨a,g,hg,h⟩,r=>⟨fun _=>0,fun _=>rfl,fun x=>by rw [h x,h r,hg x,hg r]; simp⟩
 | n+1,f,⟨a,g,hg,h⟩,r=>by
   obtain ⟨q,hq,e⟩:=IsPoly.div hg r
   refine ⟨fun x=>g x+r*q x,hg.add (hq.up.mul r),fun x=>?_⟩
   have:=e x
   rw [h x,h r]
   grind
theorem IsPoly.roots {p:Int} (hp:Pm p):∀ {n:Nat} {f:Int->Int} (rs:List Int),IsPoly n f->rs.length=n->rs.Pairwise (fun a b=>¬ p ∣ b - a)->(∀ r ∈ rs,p ∣ f r)->∀ x,p ∣ f x
 | 0,f,_,h,_,_,_,x=>⟨0,by rw [h x]; simp⟩
 | n+1,f,[],_,hl,_,_,_=>by simp at hl
 | n+1,f,r::rs,h,hl,hd,hr,x=>by
   obtain ⟨q,hq,e⟩:=h.div r
   have hd':=List.pairwise_cons.mp hd
   have z:=IsPoly.roots hp rs hq (by simpa using hl) hd'.2 (fun s hs=>by
    have h1:p ∣ (s - r)*q s:=by
     rw [← e s]
     exact Int.dvd_sub (hr s (List.mem_cons_of_mem _ hs)) (hr r List.mem_cons_self)
    exact hp.mul h1 (hd'.1 s hs)) x
   have:f x=f r+(x - r)*q x:=by have:=e x; omega
   rw [this]
   exact Int.dvd_add (hr r List.mem_cons_self) (Int.dvd_mul_of_dvd_right z)
end Mine
namespace Mine
def pr (g:Nat->Int):Nat->Int
 | 0=>1
 | n+1=>pr g n*g n
theorem pr_congr {f g:Nat->Int}:∀ n,(∀ k,k < n->f k=g k)->pr f n=pr g n
 | 0,_=>rfl
 | n+1,h=>by
   show pr f n*f n=pr g n*g n
   rw [pr_congr n (fun k hk=>h k (by omega)),h n (by omega)]
theorem pr_front (g:Nat->Int):∀ n,pr g (n+1)=g 0*pr (fun k=>g (k+1)) n
 | 0=>by simp [pr]
 | n+1=>by
   show pr g (n+1)*g (n+1)=g 0*(pr (fun k=>g (k+1)) n*g (n+1))
   rw [pr_front g n,Int.mul_assoc]
def px (x:Int) (i:Nat):Nat->Int
 | 0=>1
 | n+1=>if n=i then px x i n else px x i n*(x - n)
theorem px_poly (i:Nat):∀ n,IsPoly (if i < n then n else n+1) fun x=>px x i n
 | 0=>⟨1,fun _=>0,fun _=>rfl,fun x=>by simp [px]⟩
 | n+1=>by
   have ih:=px_poly i n
   by_cases c:n=i
   . subst c
     rw [if_neg (Nat.lt_irrefl n)] at ih
     rw [if_pos (Nat.lt_succ_self n)]
     exact ih.congr fun x=>by simp [px]
   . have e:∀ x,px x i (n+1)=(x - n)*px x i n:=fun x=>by
      show (if n=i then px x i n else px x i n*(x - n))=_
      rw [if_neg c,Int.mul_comm]
     by_cases c2:i < n
     . rw [if_pos c2] at ih
       rw [if_pos (by omega)]
       exact (ih.lin n).congr e
     . rw [if_neg c2] at ih
       rw [if_neg (by omega)]
       exact (ih.lin n).congr e
theorem px_zero {k i:Nat} (h:k ≠ i):∀ n,k < n->px (k:Int) i n=0
 | n+1,hk=>by
   show (if n=i then px (k:Int) i n else px (k:Int) i n*((k:Int) - n))=0
   by_cases c:n=i
   . rw [if_pos c]
     exact px_zero h n (by omega)
   . rw [if_neg c]
     by_cases c2:k=n
     . subst c2
       simp
     . rw [px_zero h n (by omega)]
       simp
def lag (v u:Nat->Int) (n:Nat) (x:Int):Int:=sm (fun i=>v i*px x i n*u i) n
theorem sm_poly {n m:Nat} {f:Nat->Int->Int}:(∀ i,i < m->IsPoly n (f i))->IsPoly n fun x=>sm (fun i=>f i x) m:=by
 induction m with
 | zero=>exact fun _=>IsPoly.zero n
 | succ m ih=>exact fun h=>(ih fun i hi=>h i (by omega)).add (h m (by omega))
theorem lag_poly (v u:Nat->Int) (n:Nat):IsPoly n (lag v u n):=sm_poly fun i hi=>by
 have h:=px_poly i n
 rw [if_pos hi] at h
 exact (h.mul (v i*u i)).congr fun x=>by grind
theorem sm_one {f:Nat->Int} {k:Nat}:∀ n,k < n->(∀ i,i < n->i ≠ k->f i=0)->sm f n=f k
 | n+1,hk,h=>by
   show sm f n+f n=f k
   by_cases c:k=n
   . subst c
     have z:sm f k=0:=by
      have:sm f k=sm (fun _=>0) k:=sm_congr k fun i hi=>h i (by omega) (by omega)
      rw [this]
      clear this h hk
      induction k with
      | zero=>rfl
      | succ k ih=>show sm (fun _=>0) k+0=0; rw [ih]; rfl
     rw [z]
     simp
   . rw [sm_one n (by omega) (fun i hi=>h i (by omega)),h n (by omega) (by omega)]
     simp
def Wgt (p:Int) (n:Nat) (u:Nat->Int):Prop:=∀ i,i < n->p ∣ px (i:Int) i n*u i - 1
theorem lag_at {p:Int} {v u:Nat->Int} {n k:Nat} (hu:Wgt p n u) (hk:k < n):p ∣ lag v u n k - v k:=by
 unfold lag
 rw [sm_one n hk fun i hi hne=>by rw [px_zero (Ne.symm hne) n hk]; simp]
 obtain ⟨m,hm⟩:=hu k hk
 exact ⟨v k*m,by grind⟩
theorem far {p:Int} {n:Nat} (hn:(n:Int)<=p):((List.range n).map fun k:Nat=>(k:Int)).Pairwise fun a b=>¬ p ∣ b - a:=by
 rw [List.pairwise_map]
 refine List.Pairwise.imp_of_mem (fun {a b} ha hb h=>?_) List.pairwise_lt_range
 intro d
 have:=Int.le_of_dvd (by omega) d
 have hb':=List.mem_range.mp hb
 omega
theorem alike {p:Int} (hp:Pm p) {n:Nat} (hn:(n:Int)<=p) {f g:Int->Int} (hf:IsPoly n f) (hg:IsPoly n g) (h:∀ k:Nat,k < n->p ∣ f k - g k) (x:Int):p ∣ f x - g x:=by
 have hd:IsPoly n fun x=>f x - g x:=(hf.add (hg.mul (-1))).congr fun x=>by grind
 refine hd.roots hp ((List.range n).map fun k:Nat=>(k:Int)) (by simp) (far hn) (fun r hr=>?_) x
 obtain ⟨k,hk,rfl⟩:=List.mem_map.mp hr
 exact h k (List.mem_range.mp hk)
theorem lag_rule {p:Int} (hp:Pm p) {n:Nat} (hn:(n:Int)<=p) {v u:Nat->Int} {P:Int->Int} (hu:Wgt p n u) (hP:IsPoly n P) (h:∀ k:Nat,k < n->p ∣ v k - P k) (x:Int):p ∣ lag v u n x - P x :=
 alike hp hn (lag_poly v u n) hP (fun k hk=>by
  have h1:=lag_at (v:=v) hu hk
  have h2:=h k hk
  have:lag v u n k - P k=(lag v u n k - v k)+(v k - P k):=by omega
  rw [this]
  exact Int.dvd_add h1 h2) x
theorem lag_same {p:Int} (hp:Pm p) {n:Nat} (hn:(n:Int)<=p) {v u u':Nat->Int} (hu:Wgt p n u) (hu':Wgt p n u') (x:Int):p ∣ lag v u n x - lag v u' n x :=
 lag_rule hp hn hu (lag_poly v u' n) (fun k hk=>by
  obtain ⟨m,hm⟩:=lag_at (v:=v) hu' hk
  exact ⟨-m,by grind⟩) x
theorem px_split (x:Int) (i:Nat):∀ m,px x i (i+1+m)=pr (fun j=>x - j) i*pr (fun j=>x - (i+1+j:Nat)) m
 | 0=>by
   have h:∀ k,k<=i->px x i k=pr (fun j=>x - j) k:=fun k=>by
    induction k with
    | zero=>exact fun _=>rfl
    | succ k ih =>
      intro hk
      show (if k=i then px x i k else px x i k*(x - k))=pr (fun j=>x - j) k*(x - k)
      rw [if_neg (by omega),ih (by omega)]
   show (if i=i then px x i i else _)=_*1
   rw [if_pos rfl,h i (Nat.le_refl _),Int.mul_one]
 | m+1=>by
   show (if i+1+m=i then _ else px x i (i+1+m)*(x - (i+1+m:Nat)))=pr (fun j=>x - j) i*(pr (fun j=>x - (i+1+j:Nat)) m*(x - (i+1+m:Nat)))
   rw [if_neg (by omega),px_split x i m,Int.mul_assoc]
theorem pr_turn (x:Int) (i:Nat):∀ m,pr (fun j=>x - (i+m:Nat)+j) m=pr (fun j=>x - (i+1+j:Nat)) m
 | 0=>rfl
 | m+1=>by
   rw [pr_front]
   show _=pr (fun j=>x - (i+1+j:Nat)) m*(x - (i+1+m:Nat))
   have e:pr (fun k=>x - (i+(m+1):Nat)+(k+1:Nat)) m=pr (fun j=>x - (i+m:Nat)+j) m:=pr_congr m fun k _=>by omega
   rw [e,pr_turn x i m,Int.mul_comm]
   congr 1
   omega
def fac:Nat->Int
 | 0=>1
 | n+1=>fac n*((n:Int)+1)
theorem fac_down:∀ n:Nat,pr (fun j=>(n:Int) - j) n=fac n
 | 0=>rfl
 | n+1=>by
   rw [pr_front]
   have e:pr (fun k=>((n+1:Nat):Int) - (k+1:Nat)) n=pr (fun j=>(n:Int) - j) n:=pr_congr n fun k _=>by omega
   rw [e,fac_down n]
   show ((n+1:Nat) - (0:Nat):Int)*fac n=fac n*((n:Int)+1)
   rw [Int.mul_comm]
   congr 1
theorem fac_neg (i:Nat):∀ m:Nat,pr (fun j=>(i:Int) - (i+1+j:Nat)) m=(-1) ^ m*fac m
 | 0=>rfl
 | m+1=>by
   show pr _ m*((i:Int) - (i+1+m:Nat))=(-1) ^ (m+1)*(fac m*((m:Int)+1))
   rw [fac_neg i m,Int.pow_succ]
   have:((i:Int) - (i+1+m:Nat))=-((m:Int)+1):=by omega
   rw [this]
   grind
theorem px_own (i m:Nat):px (i:Int) i (i+1+m)=fac i*((-1) ^ m*fac m):=by rw [px_split,fac_down,fac_neg]
theorem fac_part:∀ (k d:Nat),fac d*pr (fun j=>((d+k:Nat):Int) - j) k=fac (d+k)
 | 0,d=>by simp [pr]
 | k+1,d=>by
   have ih:=fac_part k (d+1)
   rw [show d+1+k=d+(k+1) by omega] at ih
   rw [← ih]
   show fac d*(pr (fun j=>((d+(k+1):Nat):Int) - j) k*(((d+(k+1):Nat):Int) - k))=fac d*((d:Int)+1)*pr (fun j=>((d+(k+1):Nat):Int) - j) k
   have:(((d+(k+1):Nat):Int) - k)=(d:Int)+1:=by omega
   rw [this]
   grind
theorem fac_ne {p:Int} (hp:Pm p):∀ n:Nat,(n:Int) < p->¬ p ∣ fac n
 | 0,_=>fun d=>by
   have:=Int.le_of_dvd (by decide) (show p ∣ 1 from d)
   have:=hp.1
   omega
 | n+1,h=>hp.not_mul (fac_ne hp n (by omega)) fun d=>by
   have:=Int.le_of_dvd (by omega) d
   omega
theorem sq_sign (m:Nat):((-1:Int) ^ m)*(-1) ^ m=1:=by
 induction m with
 | zero=>rfl
 | succ m ih=>rw [Int.pow_succ]; grind
theorem own_ne {p:Int} (hp:Pm p) {n i:Nat} (hn:(n:Int)<=p) (hi:i < n):¬ p ∣ px (i:Int) i n:=by
 obtain ⟨m,rfl⟩:∃ m,n=i+1+m:=⟨n - (i+1),by omega⟩
 rw [px_own]
 refine hp.not_mul (fac_ne hp i (by omega)) (hp.not_mul (fun d=>?_) (fac_ne hp m (by omega)))
 obtain ⟨k,hk⟩:=d
 have s:=sq_sign m
 have:p ∣ 1:=⟨k*(-1) ^ m,by grind⟩
 have:=Int.le_of_dvd (by decide) this
 have:=hp.1
 omega
theorem wgt_fac {p:Int} {last:Nat} {sh:Nat->Int} (h:∀ k,k<=last->p ∣ sh k*fac k - 1):Wgt p (last+1) fun i=>(-1) ^ (last - i)*(sh i*sh (last - i)):=fun i hi=>by
 obtain ⟨m,rfl⟩:∃ m,last=i+m:=⟨last - i,by omega⟩
 show p ∣ px (i:Int) i (i+m+1)*((-1) ^ (i+m - i)*(sh i*sh (i+m - i))) - 1
 rw [show i+m+1=i+1+m by omega,px_own,show i+m - i=m by omega]
 obtain ⟨a,ha⟩:=h i (by omega)
 obtain ⟨b,hb⟩:=h m (by omega)
 have s:=sq_sign m
 refine ⟨a*(sh m*fac m)+b,?_⟩
 have e:fac i*((-1) ^ m*fac m)*((-1) ^ m*(sh i*sh m))=((-1) ^ m*(-1) ^ m)*((sh i*fac i)*(sh m*fac m)):=by grind
 rw [e,s]
 grind
end Mine
namespace Mine
open PySem L2
theorem len1 {us:List Value} (h:us.length=1):∃ a,us=[a]:=by
 cases us with
 | nil=>cases h
 | cons a r =>
   cases r with
   | nil=>exact ⟨a,rfl⟩
   | cons _ _=>cases h
theorem lenS {us:List Value} {n:Nat} (h:us.length=n+1):∃ a r,us=a::r/\r.length=n:=by
 cases us with
 | nil=>cases h
 | cons a r=>exact ⟨a,r,rfl,Nat.succ.inj h⟩
theorem len2 {us:List Value} (h:us.length=2):∃ a b,us=[a,b]:=by
 obtain ⟨a,r,rfl,h1⟩:=lenS h
 obtain ⟨b,rfl⟩:=len1 h1
 exact ⟨a,b,rfl⟩
theorem len3 {us:List Value} (h:us.length=3):∃ a b c,us=[a,b,c]:=by
 obtain ⟨a,r,rfl,h1⟩:=lenS h
 obtain ⟨b,c,rfl⟩:=len2 h1
 exact ⟨a,b,c,rfl⟩
theorem len4 {us:List Value} (h:us.length=4):∃ a b c d,us=[a,b,c,d]:=by
 obtain ⟨a,r,rfl,h1⟩:=lenS h
 obtain ⟨b,c,d,rfl⟩:=len3 h1
 exact ⟨a,b,c,d,rfl⟩
theorem len5 {us:List Value} (h:us.length=5):∃ a b c d e,us=[a,b,c,d,e]:=by
 obtain ⟨a,r,rfl,h1⟩:=lenS h
 obtain ⟨b,c,d,e,rfl⟩:=len4 h1
 exact ⟨a,b,c,d,e,rfl⟩
theorem len6 {us:List Value} (h:us.length=6):∃ a b c d e f,us=[a,b,c,d,e,f]:=by
 obtain ⟨a,r,rfl,h1⟩:=lenS h
 obtain ⟨b,c,d,e,f,rfl⟩:=len5 h1
 exact ⟨a,b,c,d,e,f,rfl⟩
theorem len7 {us:List Value} (h:us.length=7):∃ a b c d e f g,us=[a,b,c,d,e,f,g]:=by
 obtain ⟨a,r,rfl,h1⟩:=lenS h
 obtain ⟨b,c,d,e,f,g,rfl⟩:=len6 h1
 exact ⟨a,b,c,d,e,f,g,rfl⟩
def top (i:Nat):Stmt:=PySem.Challenge.pw_asktally_k65_idle_helper.main.body.getD i (.Pass ⟨0,0,0,0⟩)
abbrev s_power:Stmt:=top 12
abbrev cj:Stmt:=top 13
abbrev cD:Stmt:=top 19
abbrev s_size_of:Stmt:=top 20
abbrev dz:Stmt:=top 21
abbrev s_idle:Stmt:=top 26
abbrev s_is_field:Stmt:=top 28
abbrev db:Stmt:=top 29
abbrev dG:Stmt:=top 30
abbrev dy:Stmt:=top 32
abbrev cE:Stmt:=top 33
abbrev dI:Stmt:=top 37
abbrev cq:Stmt:=top 38
abbrev cY:Stmt:=top 39
abbrev cZ:Stmt:=top 40
abbrev dF:Stmt:=top 41
abbrev s_value_at:Stmt:=top 43
abbrev dJ:Stmt:=top 44
abbrev cB:Stmt:=top 45
abbrev s_products:Stmt:=top 46
abbrev bu:Stmt:=top 47
abbrev dL:Stmt:=top 50
abbrev dc:Stmt:=top 61
abbrev s_talked:Stmt:=top 62
abbrev s_weighed:Stmt:=top 65
abbrev bK:Stmt:=top 66
abbrev dH:Stmt:=top 67
abbrev s_l_power:Stmt:=top 69
abbrev s_l_feed:Stmt:=top 70
abbrev s_l_take:Stmt:=top 71
abbrev bj:Stmt:=top 72
abbrev s_l_tree:Stmt:=top 73
abbrev cJ:Stmt:=top 74
abbrev s_l_need:Stmt:=top 75
abbrev da:Stmt:=top 76
abbrev cV:Stmt:=top 77
abbrev s_l_small:Stmt:=top 78
abbrev s_l_least:Stmt:=top 79
abbrev s_l_worth:Stmt:=top 80
abbrev cQ:Stmt:=top 81
abbrev s_l_mixed:Stmt:=top 82
abbrev s_law:Stmt:=top 83
section
variable {P:Program} {w:World} {K:W.Frag} {mg:Str->Option Value} {base:Heap}
abbrev cF:Stmt:=top 49
abbrev s_asking:Stmt:=top 52
abbrev s_machine:Stmt:=top 59
abbrev s_game:Stmt:=top 36
structure Bl (mg:Str->Option Value):Prop where
 len:mg "len" = none
 range:mg "range" = none
 isinstance:mg "isinstance" = none
 int:mg "int" = none
 bool:mg "bool" = none
 list:mg "list" = none
 tuple:mg "tuple" = none
 max:mg "max" = none
 min:mg "min" = none
 reversed:mg "reversed" = none
 enumerate:mg "enumerate" = none
 sum:mg "sum" = none
 all:mg "all" = none
 zip:mg "zip" = none
 dict:mg "dict" = none
theorem feedB (z:Int):0<=z % 2147483646+1/\z % 2147483646+1<=2147483646:=by omega
theorem sc_l_feed:FnScope ["_law_script", "_law_k", "_law_cell", "_law_own"] ["_law_script", "_law_k"] (af s_l_feed):=⟨rfl,rfl,rfl,by decide +kernel,rfl,by decide +kernel,by decide +kernel⟩
theorem ok_l_feed {f:Addr} {fd:FuncData} (F:Fun K "_law_feed" "_law_feed" s_l_feed f fd) (hlen:mg "len" = none):FnOk P w K mg base CX0 1 f fd ["_law_script", "_law_k"] (spFeed K):=by
 refine F.ok sc_l_feed (fun vs H Q E h=>?_) (fun cdv A outer s H vs Q E hr h=>?_)
 . obtain ⟨a,ns,k,rfl,_⟩:=h
   rfl
 obtain ⟨a,ns,k,rfl,hS,h63,k0,k1,q⟩:=h
 refine ⟨_,(ad (aq (i:=2) sc_l_feed.nd rfl (Or.inl rfl) (ao aX (ao bO ag (pv 1)) ag))
  (ad (aU (aB op_lt (pv 1) (aJ aD rfl hlen PySem.boot_len (aa (pv 0) ae)) (aI _)) (aj (aq (i:=2) sc_l_feed.nd rfl (Or.inl rfl) (aR ix_list (pv 0) (pv 1) (fun _ _=>rfl)))) (aj (aU (aB op_gt (aJ aD rfl hlen PySem.boot_len (aa (pv 0) ae)) ag (aI _)) (aj (aq (i:=2) sc_l_feed.nd rfl (Or.inl rfl) (ao aX (ao bO (ao bb (aR ix_list (pv 0) (ao bb (pv 1) (aJ aD rfl hlen PySem.boot_len (aa (pv 0) ae))) (fun _ _=>rfl)) ag) ag) (ao bO ag (pv 1))))) aN)))
  (ad (aq (i:=3) sc_l_feed.nd rfl (Or.inl rfl) ag)
  (ad (aU (aB op_ge (pv 2) (ao op_pow ag ag) (aI _)) (aj (aq (i:=3) sc_l_feed.nd rfl (Or.inl rfl) (pv 2))) aN)
  (aj (aF (cH (aa (pv 3) (aa (ao aX (ao bb (ao aX (ao bO (ao bb (pv 2) ag) ag) (ao bO ag (pv 1))) ag) ag) ae))))))))),?_⟩
 have hl:(ns.map V.int).length=ns.length:=List.length_map _
 have hp:(10:Int) ^ (18:Int).toNat=1000000000000000000:=by decide
 refine ⟨_,rfl,_,_,rfl,rfl,.inl ⟨by decide,by decide⟩,_,_,rfl,rfl,?_⟩
 refine ⟨_,rfl,_,rfl,a,_,rfl,.inl hS,_,_,rfl,rfl,_,rfl,?_⟩
 refine ite2 (fun c=>?b1) (fun c=>?b2)
 case' b1 =>
  have c':k < (((ns.map V.int).length:Nat):Int):=of_decide_eq_true c
  rw [hl] at c'
  obtain ⟨v,hv⟩:=at_int (ns:=ns) k0 c'
  refine ⟨_,rfl,_,rfl,a,_,_,_,rfl,rfl,hS,hv,?_⟩
 case' b2 =>
  refine ⟨_,rfl,a,_,rfl,.inl hS,_,_,rfl,rfl,_,rfl,?_⟩
  refine ite2 (fun c2=>?b3) (fun c2=>?b4)
  case' b3 =>
   have c':(0:Int) < (((ns.map V.int).length:Nat):Int):=of_decide_eq_true c2
   have m0:=Int.emod_nonneg k (b:=(((ns.map V.int).length:Nat):Int)) (by omega)
   have m1:=Int.emod_lt_of_pos k c'
   obtain ⟨v,hv⟩:=at_int (ns:=ns) m0 (by rw [hl] at m1 ⊢; exact m1)
   have n0:=Int.emod_nonneg v (b:=2147483629) (by decide)
   have n1:=Int.emod_lt_of_pos v (b:=2147483629) (by decide)
   refine ⟨_,rfl,_,rfl,_,rfl,a,_,rfl,.inl hS,_,_,rfl,rfl,c',a,_,_,_,rfl,rfl,hS,hv,_,_,rfl,rfl,(by show (0:Int) < _; decide),_,_,rfl,rfl,.inr ⟨by decide,by decide⟩,_,rfl,_,_,rfl,rfl,.inl ⟨by decide,by decide⟩,_,_,rfl,rfl,?_⟩
 all_goals
  refine ⟨_,rfl,_,_,rfl,rfl,⟨by decide,by decide,by decide⟩,_,_,rfl,rfl,_,rfl,?_⟩
  refine ite2 (fun c3=>?_) (fun c3=>?_)
  . have c4:=of_decide_eq_true c3
    rw [hp] at c4
    refine ⟨_,rfl,_,rfl,_,rfl,_,_,rfl,rfl,(by show (0:Int) < _; decide),_,_,rfl,rfl,.inr ⟨by decide,by decide⟩,_,rfl,_,_,rfl,rfl,.inl ⟨by decide,by decide⟩,_,_,rfl,rfl,_,_,rfl,rfl,(by show (0:Int) < _; decide),_,_,rfl,rfl,(by show 2<=sizeLine; decide),fun p hp=>?_⟩
    refine q p _ hp (Same.new hp _) ⟨_,_,upd_same,Int.le_trans (by decide) c4,(feedB _).1,(feedB _).2⟩
  . refine ⟨_,rfl,_,rfl,_,_,rfl,rfl,(by show (0:Int) < _; decide),_,_,rfl,rfl,.inr ⟨by decide,by decide⟩,_,rfl,_,_,rfl,rfl,.inl ⟨by decide,by decide⟩,_,_,rfl,rfl,_,_,rfl,rfl,(by show (0:Int) < _; decide),_,_,rfl,rfl,(by show 2<=sizeLine; decide),fun p hp=>?_⟩
    refine q p _ hp (Same.new hp _) ⟨_,_,upd_same,Int.le_refl 0,(feedB _).1,(feedB _).2⟩
theorem sc_l_take:FnScope ["_law_feed_here", "_law_many", "_law_digit", "_law_one"] ["_law_feed_here", "_law_many"] (af s_l_take):=⟨rfl,rfl,rfl,by decide +kernel,rfl,by decide +kernel,by decide +kernel⟩
theorem ok_l_take {f:Addr} {fd:FuncData} (F:Fun K "_law_take" "_law_take" s_l_take f fd):FnOk P w K mg base CX0 1 f fd ["_law_feed_here", "_law_many"] spTake:=by
 refine F.ok sc_l_take (fun vs H Q E h=>?_) (fun cdv A outer s H vs Q E hr h=>?_)
 . obtain ⟨f,m,rfl,_⟩:=h
   rfl
 obtain ⟨f,m,rfl,⟨own,st,hf,o0,s0,s1⟩,m0,m1,q⟩:=h
 refine ⟨_,(ad (aU (aB op_gt (aR ix_list (pv 0) ag (fun _ _=>rfl)) ag (aI _)) (ad (aq (i:=2) sc_l_take.nd rfl (Or.inl rfl) (ao bb (aR ix_list (pv 0) ag (fun _ _=>rfl)) (pv 1)))
  (ad (ps_asg (ao op_fdivL (aR ix_list (pv 0) ag (fun _ _=>rfl)) (pv 1)) (pg_sub (pv 0) ag set_list))
  (aj (aF (pv 2))))) aN)
  (ad (aq (i:=3) sc_l_take.nd rfl (Or.inl rfl) (ao bb (ao bO (aR ix_list (pv 0) ag (fun _ _=>rfl)) ag) ag))
  (ad (ps_asg (ao aX (ao bb (ao aX (ao bO (pv 3) ag) ag) ag) ag) (pg_sub (pv 0) ag set_list))
  (aj (aF (ao bb (ao op_fdiv (ao aX (ao bO (pv 3) ag) (aR ix_list (pv 0) ag (fun _ _=>rfl))) ag) (pv 1))))))),?_⟩
 refine ⟨_,rfl,f,_,0,_,rfl,rfl,SqL.of hf,rfl,_,_,rfl,rfl,_,rfl,?_⟩
 refine ite2 (fun c=>?_) (fun c=>?_)
 . refine ⟨_,rfl,f,_,0,_,rfl,rfl,SqL.of hf,rfl,_,rfl,_,_,rfl,rfl,m0,?_⟩
   refine ⟨_,rfl,f,_,0,_,rfl,rfl,SqL.of hf,rfl,_,rfl,_,_,rfl,rfl,⟨m0,m1⟩,_,rfl,f,_,0,0,rfl,rfl,hf,rfl,?_⟩
   refine ⟨_,rfl,?_⟩
   exact q _ _ (Int.emod_nonneg _ (by omega)) (Int.emod_lt_of_pos _ m0) ⟨_,_,upd_same,Int.ediv_nonneg o0 (by omega),s0,s1⟩ (SameBut.upd _)
 . have a0:=Int.emod_nonneg (st*69621) (b:=2147483647) (by decide)
   have a1:=Int.emod_lt_of_pos (st*69621) (b:=2147483647) (by decide)
   refine ⟨_,rfl,f,_,1,_,rfl,rfl,SqL.of hf,rfl,_,_,rfl,rfl,.inr ⟨by decide,by decide⟩,_,_,rfl,rfl,(by show (0:Int) < _; decide),?_⟩
   refine ⟨_,rfl,_,_,rfl,rfl,.inr ⟨by decide,by decide⟩,_,_,rfl,rfl,_,_,rfl,rfl,(by show (0:Int) < _; decide),_,_,rfl,rfl,_,rfl,f,_,1,1,rfl,rfl,hf,rfl,?_⟩
   have b0:=Int.emod_nonneg (st*69621 % 2147483647*48271+30103) (b:=2147483646) (by decide)
   have b1:=Int.emod_lt_of_pos (st*69621 % 2147483647*48271+30103) (b:=2147483646) (by decide)
   refine ⟨_,rfl,_,_,rfl,rfl,.inr ⟨by decide,by decide⟩,_,rfl,f,_,1,_,rfl,rfl,SqL.of upd_same,rfl,_,_,rfl,rfl,_,_,rfl,rfl,⟨by decide,by decide⟩,_,rfl,_,_,rfl,rfl,m0,?_⟩
   exact q _ _ (Int.emod_nonneg _ (by omega)) (Int.emod_lt_of_pos _ m0) ⟨_,_,upd_same,o0,by omega,by omega⟩ (SameBut.upd _)
theorem sc_l_tree:FnScope ["_law_feed_here", "_law_names_here", "_law_room", "_law_deep", "_law_form", "_law_more", "_law_one", "_law_word"] ["_law_feed_here", "_law_names_here", "_law_room", "_law_deep"] (af s_l_tree):=⟨rfl,rfl,rfl,by decide +kernel,rfl,by decide +kernel,by decide +kernel⟩
theorem lf {a X Y B:Prop} [Decidable a] (x:X) (h:¬ a->X->B):if decide a=true then (if true=true then X else Y) else B:=by
 by_cases c:a
 . rw [decide_eq_true c]
   exact iteT (iteT x)
 . rw [decide_eq_false c]
   exact iteF (h c x)
theorem tree_step {n:Nat} {f:Addr} {fd:FuncData} (F:Fun K "_law_tree" "_law_tree" s_l_tree f fd) (hlen:mg "len" = none) (C_l_take:Cal P w K mg base 1 "_law_take" ["_law_feed_here", "_law_many"] spTake)
 (C_l_tree:Cal P w K mg base (n+2) "_law_tree" ["_law_feed_here", "_law_names_here", "_law_room", "_law_deep"] (spTree n)):FnOk P w K mg base CX0 (n+3) f fd ["_law_feed_here", "_law_names_here", "_law_room", "_law_deep"] (spTree (n+1)):=by
 refine F.ok sc_l_tree (fun vs H Q E h=>?_) (fun cdv A outer s H vs Q E hr h=>?_)
 . obtain ⟨f,a,room,deep,ns,rfl,_⟩:=h
   rfl
 obtain ⟨f,a,room,deep,ns,rfl,hF,hN,nl,r1,r100,d1,dn,q⟩:=h
 refine ⟨_,(ad (aq (i:=4) sc_l_tree.nd rfl (Or.inl rfl) (aE C_l_take hr (Nat.succ_le_succ (Nat.zero_le _)) rfl (aa (pv 0) (aa ag ae))))
  (ad (aU (PW.pt (pw_or (aB op_lt (pv 2) ag (aI _)) (pw_or (aB op_lt (pv 3) ag (aI _)) (pw_or1 (aB cu (pv 4) ag (aI _)))))) (ad (aU (PW.pt (pw_or (aB cu (ao bb (pv 4) ag) ag (aI _)) (pw_or1 (aB cu (aJ aD rfl hlen PySem.boot_len (aa (pv 1) ae)) ag (aI _))))) (aj (aF (aR ix_list (cH (aa (aV (aa aO ae)) (aa (aV (aa aO ae)) ae))) (aE C_l_take hr (Nat.succ_le_succ (Nat.zero_le _)) rfl (aa (pv 0) (aa ag ae))) (fun _ _=>rfl)))) aN)
   (aj (aF (aV (aa aO (aa (aR (ix_list.or ix_tup) (pv 1) (aE C_l_take hr (Nat.succ_le_succ (Nat.zero_le _)) rfl (aa (pv 0) (aa (aJ aD rfl hlen PySem.boot_len (aa (pv 1) ae)) ae))) (fun _ _=>rfl)) ae)))))) aN)
  (ad (aU (PW.pt (pw_or (aB op_lt (pv 2) ag (aI _)) (pw_or1 (aB cu (pv 4) ag (aI _))))) (aj (aF (aV (aa aO (aa (aE C_l_tree hr (Nat.le_refl _) rfl (aa (pv 0) (aa (pv 1) (aa (ao bq (pv 2) ag) (aa (ao bq (pv 3) ag) ae))))) ae))))) aN)
  (ad (aq (i:=5) sc_l_tree.nd rfl (Or.inl rfl) (ao aX ag (aE C_l_take hr (Nat.succ_le_succ (Nat.zero_le _)) rfl (aa (pv 0) (aa (ao bq (pv 2) ag) ae)))))
  (ad (aq (i:=6) sc_l_tree.nd rfl (Or.inl rfl) (aE C_l_tree hr (Nat.le_refl _) rfl (aa (pv 0) (aa (pv 1) (aa (pv 5) (aa (ao bq (pv 3) ag) ae))))))
  (ad (aq (i:=7) sc_l_tree.nd rfl (Or.inl rfl) (aR ix_list (cH (aa aO (aa aO (aa aO (aa aO ae))))) (ao bb (pv 4) ag) (fun _ _=>rfl)))
  (aj (aF (aV (aa (pv 7) (aa (pv 6) (aa (aE C_l_tree hr (Nat.le_refl _) rfl (aa (pv 0) (aa (pv 1) (aa (ao bq (ao bq (pv 2) ag) (pv 5)) (aa (ao bq (pv 3) ag) ae))))) ae)))))))))))),?_⟩
 refine ⟨_,rfl,f,10,rfl,hF,by decide,by decide,fun fm H1 f0 f10 F1 S1=>?_⟩
 have N1:=hN.feed hF S1
 refine ⟨_,rfl,_,_,rfl,rfl,_,rfl,?_⟩
 refine lf ?leaf fun c1 hX=>?_
 case leaf =>
  refine ⟨_,rfl,_,_,rfl,rfl,(by show (0:Int) < _; decide),rfl,_,rfl,?_⟩
  refine lf ?yn fun c6 hY=>?_
  case yn =>
   refine ⟨(by show 1<=sizeLine; decide),fun p1 h1=>?_⟩
   refine ⟨(by show 1<=sizeLine; decide),fun p2 h2=>?_⟩
   refine ⟨(by show 2<=sizeLine; decide),fun l hl=>?_⟩
   have ga:=Same.new h1 (.tup [.str "yes"])
   have gb:=Same.new h2 (.tup [.str "no"])
   have gc:=Same.new hl (.lst [.ref p1,.ref p2])
   have G:=ga.trans (gb.trans gc)
   have nlf:=(F1.same (ga.trans gb)).ne hl
   refine ⟨_,rfl,f,2,rfl,F1.same G,by decide,by decide,fun d H2 d0 d2 F2 S2=>?_⟩
   have y2:H2 p1=some (.tup [.str "yes"]):=keepT_feed (F1.same G) S2 _ _ (gc _ _ (gb _ _ upd_same))
   have n2:H2 p2=some (.tup [.str "no"]):=keepT_feed (F1.same G) S2 _ _ (gc _ _ upd_same)
   have l2:=S2 l _ nlf upd_same
   have:d=0∨d=1:=by omega
   rcases this with rfl | rfl
   . exact ⟨l,_,0,_,rfl,rfl,SqL.of l2,rfl,q (.ref p1) .yes H2 F2 (S1.trans ((SameBut.of G).trans S2)) (.yes y2) trivial (show (1:Int)<=room from r1) (show (1:Int)<=deep from d1)⟩
   . exact ⟨l,_,1,_,rfl,rfl,SqL.of l2,rfl,q (.ref p2) .no H2 F2 (S1.trans ((SameBut.of G).trans S2)) (.no n2) trivial (show (1:Int)<=room from r1) (show (1:Int)<=deep from d1)⟩
  refine ⟨_,rfl,a,_,rfl,N1.seq,rfl,_,rfl,?_⟩
  by_cases c7:V.int ((ns.map V.str).length:Int)=V.int 0
  . exact cS c7 hY
  refine bd c7 ?_
  have nz:0 < ns.length:=by
   have z:¬ ((ns.map V.str).length:Int)=0:=fun z=>c7 (congrArg V.int z)
   rw [List.length_map] at z
   omega
  refine ⟨_,rfl,_,rfl,_,rfl,a,_,rfl,N1.seq,f,_,rfl,F1,(show (0:Int) < ((ns.map V.str).length:Int) by rw [List.length_map]; omega),by rw [List.length_map]; omega,fun d H2 d0 d9 F2 S2=>?_⟩
  obtain ⟨v,hv,vm⟩:=at_in (l:=ns.map V.str) (i:=d) d0 d9
  obtain ⟨x,hx,rfl⟩:=List.mem_map.mp vm
  refine (N1.feed F1 S2).ix hv ?_
  refine ⟨(by show 2<=sizeLine; decide),fun p hp=>?_⟩
  have G:=Same.new hp (.tup [.str "is", .str x])
  exact q (.ref p) (.is x) _ (F2.same G) (S1.trans (S2.trans (SameBut.of G))) (.is upd_same) hx (show (1:Int)<=room from r1) (show (1:Int)<=deep from d1)
 refine ⟨_,rfl,_,_,rfl,rfl,_,rfl,?_⟩
 by_cases c2:deep < 2
 . exact cS c2 (iteT hX)
 refine bd c2 ?_
 refine ⟨_,rfl,rfl,_,rfl,?_⟩
 by_cases c3:V.int fm=V.int 9
 . exact cS c3 hX
 refine bd c3 ?_
 refine ⟨_,rfl,_,_,rfl,rfl,_,rfl,?_⟩
 have d2:2<=deep:=by omega
 have dd:1<=deep - 1:=by omega
 have ddn:deep - 1+1<=(n:Int)+1:=by omega
 refine lf ?nt fun c4 hN=>?_
 case nt =>
  refine ⟨_,rfl,_,rfl,_,rfl,_,_,rfl,rfl,_,rfl,_,_,rfl,rfl,f,a,_,_,ns,rfl,F1,N1,nl,(show 1<=room - 1 by omega),by omega,dd,ddn,fun v1 t1 H3 F3 S3 T1 o1 z1 p1=>?_⟩
  refine ⟨(by show 2<=sizeLine; decide),fun p hp=>?_⟩
  have G5:=Same.new hp (.tup [.str "not", v1])
  refine q (.ref p) (.not t1) _ (F3.same G5) (S1.trans (S3.trans (SameBut.of G5))) (.not upd_same (T1.mono (au G5))) o1 ?_ ?_
  . show ((t1.size+1:Nat):Int)<=room
    omega
  . show ((t1.depth+1:Nat):Int)<=deep
    omega
 refine ⟨_,rfl,rfl,_,rfl,?_⟩
 by_cases c5:V.int fm=V.int 8
 . exact cS c5 hN
 refine bd c5 ?_
 refine ⟨_,rfl,_,rfl,_,_,rfl,rfl,f,_,rfl,F1,(show (0:Int) < room - 2 by omega),(show room - 2 < 2 ^ 63 by omega),fun e H2 e0 e1 F2 S2=>?_⟩
 refine ⟨_,_,rfl,rfl,?_⟩
 have N2:=N1.feed F1 S2
 refine ⟨_,rfl,_,rfl,_,rfl,_,rfl,_,_,rfl,rfl,f,a,_,_,ns,rfl,F2,N2,nl,by omega,by omega,dd,ddn,fun v1 t1 H3 F3 S3 T1 o1 z1 p1=>?_⟩
 have N3:=N2.feed F2 S3
 refine ⟨(by show 4<=sizeLine; decide),fun l hl=>?_⟩
 obtain ⟨wd,hw,wm⟩:=at_in (l:=joinW.map V.str) (i:=fm % 4) (by omega) (by
  have:(joinW.map V.str).length=4:=by rfl
  omega)
 obtain ⟨x,hx,rfl⟩:=List.mem_map.mp wm
 refine ⟨_,rfl,_,_,rfl,rfl,(by show (0:Int) < _; decide),l,_,_,_,rfl,rfl,SqL.of upd_same,hw,?_⟩
 have G:=Same.new hl (.lst [.str "and", .str "or", .str "odd", .str "same"])
 refine ⟨_,rfl,_,rfl,_,rfl,_,rfl,_,rfl,_,_,rfl,rfl,_,rfl,_,_,rfl,rfl,_,rfl,_,_,rfl,rfl,f,a,_,_,ns,rfl,F3.same G,N3.same G,nl,(show 1<=room - 1 - (1+e) by omega),by omega,dd,ddn,fun v2 t2 H4 F4 S4 T2 o2 z2 p2=>?_⟩
 refine ⟨(by show 3<=sizeLine; decide),fun p hp=>?_⟩
 have G5:=Same.new hp (.tup [.str x,v1,v2])
 have T1':TreeAt H4 v1 t1:=(T1.mono (au G)).mono (keepT_feed (F3.same G) S4)
 refine q (.ref p) (.bin x t1 t2) _ (F4.same G5) (S1.trans (S2.trans (S3.trans ((SameBut.of G).trans (S4.trans (SameBut.of G5)))))) (.bin upd_same (T1'.mono (au G5)) (T2.mono (au G5))) ⟨hx,o1,o2⟩ ?_ ?_
 . show ((t1.size+t2.size+1:Nat):Int)<=room
   omega
 . show ((max t1.depth t2.depth+1:Nat):Int)<=deep
   omega
theorem tree_zero {f:Addr} {fd:FuncData}:FnOk P w K mg base CX0 2 f fd ["_law_feed_here", "_law_names_here", "_law_room", "_law_deep"] (spTree 0):=by
 have no:∀ vs H Q E,¬ spTree 0 vs H Q E:=fun vs H Q E h=>by
  obtain ⟨f,a,room,deep,ns,_,_,_,_,_,_,h1,h2,_⟩:=h
  omega
 exact ⟨fun vs H Q E h=>absurd h (no vs H Q E),fun A outer s H args us vs Q E _ _ _ _ h=>absurd h (no vs H Q E)⟩
theorem ok_l_tree {f:Addr} {fd:FuncData} (F:Fun K "_law_tree" "_law_tree" s_l_tree f fd) (hlen:mg "len" = none) (m:mg "_law_tree" = some (.ref f)) (C_l_take:Cal P w K mg base 1 "_law_take" ["_law_feed_here", "_law_many"] spTake) :
 ∀ n:Nat,FnOk P w K mg base CX0 (n+2) f fd ["_law_feed_here", "_law_names_here", "_law_room", "_law_deep"] (spTree n)
 | 0=>tree_zero
 | n+1=>tree_step F hlen C_l_take (Cal.of F (ok_l_tree F hlen m C_l_take n) m (fun _ _ _ _ _ _ us hl=>by obtain ⟨u0,u1,u2,u3,rfl⟩:=len4 hl; rfl))
def ifBody:Stmt->List Stmt
 | .If _ b _ _=>b
 | _=>[]
def ifTest:Stmt->Expr
 | .If c _ _ _=>c
 | _=>.Constant .none 0 ⟨0,0,0,0⟩
def valOf:Stmt->Expr
 | .Assign _ v _=>v
 | .Return (some v) _=>v
 | _=>.Constant .none 0 ⟨0,0,0,0⟩
def eltsOf:Expr->List Expr
 | .List es _=>es
 | .BinOp _ _ (.List es _) _=>es
 | .Subscript (.List es _) _ _=>es
 | _=>[]
abbrev stm (s:Stmt) (i:Nat):Stmt:=(ay s).getD i (.Pass ⟨0,0,0,0⟩)
abbrev stmI (s:Stmt) (i j:Nat):Stmt:=(ifBody (stm s i)).getD j (.Pass ⟨0,0,0,0⟩)
def wordsA:List Str:=["is", "set", "say", "if", "go", "end", "num", "box", "op", "field", "holds", "claims"]
def wordsB:List Str:=["nota", "nob", "yesx", "andy", "ors", "oddly"]
def wordsC:List Str:=["samey", "rounds", "dues", "coins", "truex", "asks"]
@[irreducible] def namesA:List Expr:=eltsOf (valOf (stmI bj 6 0))
@[irreducible] def namesB:List Expr:=eltsOf (valOf (stmI bj 6 1))
@[irreducible] def namesC:List Expr:=eltsOf (valOf (stmI bj 6 2))
theorem namesA_w:Consts namesA wordsA:=by
 unfold namesA
 exact .cons (.cons (.cons (.cons (.cons (.cons (.cons (.cons (.cons (.cons (.cons (.cons .nil)))))))))))
theorem namesB_w:Consts namesB wordsB:=by
 unfold namesB
 exact .cons (.cons (.cons (.cons (.cons (.cons .nil)))))
theorem namesC_w:Consts namesC wordsC:=by
 unfold namesC
 exact .cons (.cons (.cons (.cons (.cons (.cons .nil)))))
theorem names_body:∃ p1 p2 p3 p4 p5 p6 p7 p8 p9 q1 q2 q3 q4 q5,ay bj=[stm bj 0,stm bj 1,stm bj 2,stm bj 3,stm bj 4,stm bj 5,
 .If (ifTest (stm bj 6)) [.Assign [.Name "_law_words" p1] (.List namesA p2) p3,.Assign [.Name "_law_words" p4] (.BinOp (.Name "_law_words" p5) .Add (.List namesB p6) p7) p8,.Assign [.Name "_law_words" p9] (.BinOp (.Name "_law_words" q1) .Add (.List namesC q2) q3) q4,stmI bj 6 3] [] q5,stm bj 7] :=
 ⟨_,_,_,_,_,_,_,_,_,_,_,_,_,_,by with_unfolding_all rfl⟩
def LTR:Str := "bcdfghjklmnpqrstvwxz"
theorem ltr_na:∀ c ∈ LTR.cps.toList,c ≠ 97:=by decide +kernel
theorem ltr_ok:∀ c ∈ LTR.cps.toList,97<=c/\c<=122:=by decide +kernel
theorem words_ok:∀ x ∈ (wordsA++wordsB)++wordsC,x.length<=20/\(∀ c ∈ x.cps.toList,97<=c/\c<=122)/\x ≠ "aa" := by decide +kernel
def spNamesN:Sp:=fun vs H Q _=>∃ (f:Addr) (m:Int),vs=[.ref f,.int m]/\FeedAt H f/\0<=m/\m<=6/\∀ (l:Addr) (ns:List Str) (H':Hp),H l=none->l ≠ f->H' l=some (.lst (ns.map V.str))->ns.length=m.toNat->(∀ x ∈ ns,NmOk x)->ns.Nodup->FeedAt H' f->SameBut f H H'->Q (.ref l) H'
theorem words_out:∀ x ∈ (wordsA++wordsB)++wordsC,∃ c ∈ x.cps.toList,c ∉ LTR.cps.toList:=by decide +kernel
theorem ltr_inj:∀ a b:Fin 20,LTR.cps.toList[a.val]?=LTR.cps.toList[b.val]?->a=b:=by decide +kernel
theorem nd_names {ns:List Str} {t:Nat} {u:Int} (u0:0<=u) (u20:u < 20) (hl:ns.length<=6) (h:∀ (k:Nat) x,ns[k]?=some x->x.cps.toList[t]?=LTR.cps.toList[((u+7*(k:Int)) % 20).toNat]?):ns.Nodup:=by
 refine List.pairwise_iff_getElem.mpr fun i j hi hj ij e=>?_
 have h1:=h i _ (List.getElem?_eq_getElem hi)
 have h2:=h j _ (List.getElem?_eq_getElem hj)
 rw [e] at h1
 have h3:=h1.symm.trans h2
 have h4:=ltr_inj ⟨((u+7*(i:Int)) % 20).toNat,by omega⟩ ⟨((u+7*(j:Int)) % 20).toNat,by omega⟩ h3
 have h5:=congrArg Fin.val h4
 simp only at h5
 omega
theorem nd_set {ns:List Str} {x:Str} {j:Nat} (h:ns.Nodup) (hx:x ∉ ns):(ns.set j x).Nodup:=by
 refine List.pairwise_iff_getElem.mpr fun a b ha hb ab=>?_
 rw [List.length_set] at ha hb
 rw [List.getElem_set,List.getElem_set]
 split
 . split
   . omega
   . intro e
     exact hx (e ▸ List.getElem_mem hb)
 . split
   . intro e
     exact hx (e ▸ List.getElem_mem ha)
   . exact List.pairwise_iff_getElem.mp h a b ha hb ab
theorem at_get {α:Type} {l:List α} {i:Int} {v:α} (h0:0<=i) (h:atI l i=some v):l[i.toNat]?=some v:=by
 have ek:((i.toNat:Nat):Int)=i:=by omega
 by_cases c:i.toNat < l.length
 . have q:atI l ((i.toNat:Nat):Int)=some l[i.toNat]:=cL (List.getElem?_eq_getElem c)
   rw [ek,h] at q
   rw [List.getElem?_eq_getElem c]
   exact q.symm
 . exfalso
   unfold atI ixN at h
   rw [if_pos h0,if_neg (by omega)] at h
   cases h
theorem sum_ones {zs:List Str} (h:∀ z ∈ zs,z.length=1/\∀ c ∈ z.cps.toList,c ∈ LTR.cps.toList):(zs.map (·.length)).sum=zs.length:=by
 induction zs with
 | nil=>rfl
 | cons a r ih =>
   rw [List.map_cons,List.sum_cons,ih fun z hz=>h z (List.mem_cons_of_mem _ hz),(h a List.mem_cons_self).1,List.length_cons]
   omega
theorem sc_l_names:FnScope ["_law_feed_here", "_law_many", "_law_letters", "_law_common", "_law_at", "_law_first", "_law_found", "_law_k", "_law_tail", "_law_sign", "_law_words"] ["_law_feed_here", "_law_many"] (af bj):=⟨rfl,rfl,rfl,by decide +kernel,rfl,by decide +kernel,by decide +kernel⟩
theorem feed_upd {H:Hp} {f p:Addr} {o:HO} (F:FeedAt H f) (h:p ≠ f):FeedAt (upd H p o) f:=by
 obtain ⟨x,t,e,r⟩:=F
 exact ⟨x,t,by rw [ax (Ne.symm h)]; exact e,r⟩
theorem ok_l_names {f:Addr} {fd:FuncData} (F:Fun K "_law_names" "_law_names" bj f fd) (hrange:mg "range" = none) (C_l_take:Cal P w K mg base 1 "_law_take" ["_law_feed_here", "_law_many"] spTake):FnOk P w K mg base CX0 2 f fd ["_law_feed_here", "_law_many"] spNamesN:=by
 refine F.ok sc_l_names (fun vs H Q E h=>?_) (fun cdv A outer s H vs Q E hr h=>?_)
 . obtain ⟨f,m,rfl,_⟩:=h
   rfl
 obtain ⟨f,m,rfl,hF,m0,m6,q⟩:=h
 obtain ⟨p1,p2,p3,p4,p5,p6,p7,p8,p9,q1,q2,q3,q4,q5,ebody⟩:=names_body
 rw [ebody]
 refine ⟨_,(ad (aq (i:=2) sc_l_names.nd rfl (Or.inr rfl) aO)
  (ad (aq (i:=3) sc_l_names.nd rfl (Or.inl rfl) (pe_bm PySem.F.plainAttrs_str PySem.F.slot_str_join PySem.F.type_str_join mt_join aO (aa (de (N:=["_law_letters", "_law_feed_here"]) (ix:=[2,0]) rfl
   (CompScope.two (by with_unfolding_all rfl) (by decide) rfl (by decide) rfl (by decide +kernel) (by first | exact Or.inl rfl | exact Or.inr rfl) (by with_unfolding_all rfl) (by with_unfolding_all rfl) (by with_unfolding_all rfl) (by with_unfolding_all rfl) rfl rfl (by with_unfolding_all rfl) rfl rfl) rfl
   (bL rfl hrange (aa ag ae))
   (fun _ _ _=>dq (aR ix_str (pv 1) (aE C_l_take hr (by decide) rfl (aa (pv 2) (aa ag ae))) (fun _ _=>rfl)))) ae)))
  (ad (aq (i:=4) sc_l_names.nd rfl (Or.inl rfl) (aE C_l_take hr (by decide) rfl (aa (pv 0) (aa ag ae))))
  (ad (aq (i:=5) sc_l_names.nd rfl (Or.inl rfl) (aE C_l_take hr (by decide) rfl (aa (pv 0) (aa ag ae))))
  (ad (aq (i:=6) sc_l_names.nd rfl (Or.inl rfl) (cH ae))
  (ad (cG PassesOwn.never rfl (bL rfl hrange (aa (pv 1) ae)) (bw (i:=7) sc_l_names.nd rfl (Or.inl rfl)) (ad (aq (i:=8) sc_l_names.nd rfl (Or.inl rfl) (ao bb (aE C_l_take hr (by decide) rfl (aa (pv 0) (aa (ao bq ag (pv 4)) ae))) ag))
   (ad (aq (i:=9) sc_l_names.nd rfl (Or.inl rfl) (aR ix_str (pv 2) (ao bb (ao aX (pv 5) (ao bO ag (pv 7))) ag) (fun _ _=>rfl)))
   (aj (bP (pe_bm PySem.F.plainAttrs_list PySem.F.slot_list_append PySem.F.type_list_append mt_append (pv 6) (aa (ao op_add_str (ao op_add_str (dO sl_str (pv 3) po_none (po_some (pv 4))) (pv 9)) (dO sl_str (pv 3) (po_some (pv 4)) (po_some (ao aX (pv 4) (pv 8))))) ae)))))))
  (ad (aU (PW.pt (pw_and (aB op_gt (pv 1) ag (aI _)) (pw_and1 (aB cu (aE C_l_take hr (by decide) rfl (aa (pv 0) (aa ag ae))) ag (aI _))))) (ad (aq (i:=10) sc_l_names.nd rfl (Or.inl rfl) (cH (pa_consts namesA_w)))
   (ad (aq (i:=10) sc_l_names.nd rfl (Or.inl rfl) (ao op_cat (pv 10) (cH (pa_consts namesB_w))))
   (ad (aq (i:=10) sc_l_names.nd rfl (Or.inl rfl) (ao op_cat (pv 10) (cH (pa_consts namesC_w))))
   (aj (ps_asg (aR ix_list (pv 10) (aE C_l_take hr (by decide) rfl (aa (pv 0) (aa ag ae))) (fun _ _=>rfl)) (pg_sub (pv 6) (aE C_l_take hr (by decide) rfl (aa (pv 0) (aa (pv 1) ae))) set_list)))))) aN)
  (aj (aF (pv 6)))))))))),?_⟩
 refine ⟨rfl,5,rfl,by decide,by decide,fun D hD=>?_⟩
 have Df:=hF.ne hD
 have L20:LTR.cps.toList.length=20:=by decide +kernel
 refine dB (fun i H'=>∃ zs:List Str,H' D=some (.lst (zs.map V.str))/\zs.length=i/\(∀ z ∈ zs,z.length=1/\∀ c ∈ z.cps.toList,c ∈ LTR.cps.toList)/\FeedAt H' f/\SameBut f H H') ⟨[],by rw [upd_same]; rfl,rfl,by simp,hF.same (Same.new hD _),SameBut.of (Same.new hD _)⟩ ?_ ?_
 . rintro i H3 hi ⟨zs,hl,zl,z1,F3,S3⟩
   have i5:i < 5:=hi
   refine ⟨_,rfl,_,rfl,f,20,rfl,F3,by decide,by decide,fun d H4 d0 d26 F4 S4=>?_⟩
   obtain ⟨c,hc,hm⟩:=at_in (l:=LTR.cps.toList) (i:=d) d0 (by rw [L20]; exact d26)
   have hD4:H4 D=some (.lst (zs.map V.str)):=S4 D _ Df hl
   refine ⟨_,d,c,rfl,rfl,dN (by decide +kernel),hc,_,hD4,?_,Nx.of hi ⟨zs++[⟨#[c]⟩],?_,?_,?_,feed_upd F4 Df,?_⟩⟩
   . rw [List.length_map,zl]
     exact aS (Nat.le_of_lt (Nat.lt_trans i5 (by decide)))
   . rw [upd_same,List.map_append]
     rfl
   . rw [List.length_append,List.length_singleton,zl]
   . intro z hz
     rcases List.mem_append.mp hz with h | h
     . exact z1 z h
     . rw [List.mem_singleton.mp h]
       refine ⟨rfl,fun c' hc'=>?_⟩
       have:c'=c:=by simpa using hc'
       subst this
       exact hm
   . intro b o hb e
     rw [ax (ai e hD)]
     exact S4 b o hb (S3 b o hb e)
 rintro H3 ⟨zs,hl,zl,z1,F3,S3⟩
 have sl:=sum_ones z1
 have zl5:zs.length=5:=zl
 refine ⟨_,D,zs,rfl,rfl,SqL.of hl,(by decide +kernel),by omega,?_⟩
 have jl:(Txt.join "" zs).length=5:=by
  have:=size_glued "" zs
  have e0:(("" : Str)).length=0:=by decide +kernel
  rw [e0,Nat.mul_zero] at this
  show (Builtin.Str.glued "" zs).length=5
  omega
 have jc:∀ c ∈ (Txt.join "" zs).cps.toList,c ∈ LTR.cps.toList:=fun c hc=>by
  obtain ⟨z,hz,h⟩:=mem_join0 hc
  exact (z1 z hz).2 c h
 generalize Txt.join "" zs=cm at jl jc
 refine ⟨_,rfl,f,6,rfl,F3,by decide,by decide,fun t H4 t0 t6 F4 S4=>?_⟩
 refine ⟨_,rfl,f,20,rfl,F4,by decide,by decide,fun u H5 u0 u20 F5 S5=>?_⟩
 refine ⟨(by show 0<=sizeLine; decide),fun L hL=>?_⟩
 have S05:SameBut f H H5:=S3.trans (S4.trans S5)
 have Lf:=F5.ne hL
 have L0:H L=none:=by
  cases e:H L with
  | none=>rfl
  | some o=>rw [S05 L o Lf e] at hL; cases hL
 refine ⟨_,rfl,m,rfl,by omega,by omega,di (fun i σ H'=>∃ (x7 x8 x9:Option V) (ns:List Str),σ=[some (.ref f),some (.int m),some (.str LTR),some (.str cm),some (.int t),some (.int u),some (.ref L),x7,x8,x9,none]/\H' L=some (.lst (ns.map V.str))/\ns.length=i/\(∀ x ∈ ns,NmOk x)/\(∀ x ∈ ns,∀ c ∈ x.cps.toList,c ∈ LTR.cps.toList)/\(∀ (k:Nat) x,ns[k]?=some x->x.cps.toList[t.toNat]?=LTR.cps.toList[((u+7*(k:Int)) % 20).toNat]?)/\FeedAt H' f/\SameBut f H H')
  ⟨_,_,_,[],rfl,by rw [upd_same]; rfl,rfl,by simp,by simp,by simp,F5.same (Same.new hL _),S05.trans (SameBut.of (Same.new hL _))⟩ ?_ ?_⟩
 . rintro i σ H6 hi ⟨x7,x8,x9,ns,rfl,hns,nl,nok,nlt,nat,F6,S6⟩
   refine ⟨_,rfl,_,rfl,_,_,rfl,rfl,f,_,rfl,F6,(Int.sub_pos_of_lt t6),(Int.lt_of_le_of_lt (Int.sub_le_self 6 t0) (by decide)),fun d H7 d0 d1 F7 S7=>?_⟩
   refine ⟨_,_,rfl,rfl,(by show (0:Int) < _; decide),?_⟩
   obtain ⟨c,hc,hm⟩:=at_in (l:=LTR.cps.toList) (i:=(u+7*(0+(i:Int))) % 20) (Int.emod_nonneg _ (by decide)) (by rw [L20]; exact Int.emod_lt_of_pos _ (by decide))
   refine ⟨_,rfl,_,rfl,_,rfl,_,_,rfl,rfl,?_,_,_,rfl,rfl,_,_,rfl,rfl,(by show (0:Int) < _; decide),_,_,c,rfl,rfl,dN (by decide +kernel),hc,?_⟩
   . exact .inl ⟨by decide,by decide⟩
   have hL7:=S7 L _ Lf hns
   have z1:(Txt.slice cm none (some t)).length<=cm.length:=Txt.slice_le cm none (some t)
   have z2:(Txt.slice cm (some t) (some (t+d % 3))).length<=cm.length:=Txt.slice_le cm _ _
   have z3:((⟨#[c]⟩:Str)).length=1:=rfl
   refine ⟨_,rfl,.inl ⟨rfl,_,SqL.of hL7⟩,?_⟩
   refine ⟨_,rfl,_,rfl,_,rfl,_,rfl,dN (by rw [jl]; decide),_,rfl,_,_,rfl,rfl,dN (by rw [z3]; omega),?_⟩
   refine ⟨_,rfl,_,rfl,_,rfl,_,rfl,_,rfl,_,_,rfl,rfl,_,rfl,_,rfl,dN (by rw [jl]; decide),_,_,rfl,rfl,dN (by rw [Str.length_append,z3]; omega),?_⟩
   refine ⟨L,_,_,rfl,rfl,hL7,?_,?_⟩
   . rw [List.length_map]
     exact aS (by omega)
   refine ⟨_,_,_,ns++[(Txt.slice cm none (some t)++⟨#[c]⟩)++Txt.slice cm (some t) (some (t+d % 3))],rfl,?_,?_,?_,?_,?_,feed_upd F7 Lf,?_⟩
   . rw [upd_same,List.map_append]
     rfl
   . rw [List.length_append,List.length_singleton,nl]
   . intro x hx
     rcases List.mem_append.mp hx with h | h
     . exact nok x h
     . rw [List.mem_singleton.mp h]
       refine ⟨?_,fun c' hc'=>?_,fun ea=>?_⟩
       . rw [Str.length_append,Str.length_append,z3]
         omega
       rotate_left
       . have cm1:c ∈ (((Txt.slice cm none (some t)++⟨#[c]⟩)++Txt.slice cm (some t) (some (t+d % 3)):Str)).cps.toList:=by
          rw [Str.cps_append,Str.cps_append]
          simp
         rw [ea] at cm1
         exact ltr_na c hm ((by decide +kernel:∀ c ∈ (("aa" : Str)).cps.toList,c=97) c cm1)
       . rcases mem_append hc' with h | h
         . rcases mem_append h with h | h
           . exact ltr_ok _ (jc _ (mem_slice h))
           . have:c'=c:=by simpa using h
             subst this
             exact ltr_ok _ hm
         . exact ltr_ok _ (jc _ (mem_slice h))
   . intro x hx c' hc'
     rcases List.mem_append.mp hx with h | h
     . exact nlt x h c' hc'
     . rw [List.mem_singleton.mp h] at hc'
       rcases mem_append hc' with h | h
       . rcases mem_append h with h | h
         . exact jc _ (mem_slice h)
         . have:c'=c:=by simpa using h
           subst this
           exact hm
       . exact jc _ (mem_slice h)
   . intro k x hx
     by_cases ck:k < ns.length
     . rw [List.getElem?_append_left ck] at hx
       exact nat k x hx
     . have kl:k < (ns++[(Txt.slice cm none (some t)++⟨#[c]⟩)++Txt.slice cm (some t) (some (t+d % 3))]).length:=(List.getElem?_eq_some_iff.mp hx).1
       rw [List.length_append,List.length_singleton] at kl
       have ek:k=i:=by omega
       subst ek
       rw [List.getElem?_append_right (by omega),nl,Nat.sub_self] at hx
       have ex:(Txt.slice cm none (some t)++⟨#[c]⟩)++Txt.slice cm (some t) (some (t+d % 3))=x:=Option.some.inj hx
       rw [← ex]
       have cl:cm.cps.toList.length=5:=jl
       have es:Txt.slice cm none (some t)=⟨((cm.cps.toList.drop 0).take (t - 0).toNat).toArray⟩:=StrLaws.sliceText_to ⟨t0,by omega⟩
       have el:(Txt.slice cm none (some t)).cps.toList.length=t.toNat:=by
        rw [es]
        simp only [List.drop_zero,Int.sub_zero,List.length_take]
        omega
       have ea:((Txt.slice cm none (some t)++⟨#[c]⟩)++Txt.slice cm (some t) (some (t+d % 3))).cps.toList=(Txt.slice cm none (some t)).cps.toList++([c]++(Txt.slice cm (some t) (some (t+d % 3))).cps.toList):=by
        rw [Str.cps_append,Str.cps_append]
        simp
       rw [ea,List.getElem?_append_right (by omega),el,Nat.sub_self]
       have hc2:LTR.cps.toList[((u+7*(0+(k:Int))) % 20).toNat]?=some c:=at_get (Int.emod_nonneg _ (by decide)) hc
       rw [Int.zero_add] at hc2
       rw [hc2]
       rfl
   . intro b o hb e
     rw [ax (ai e L0)]
     exact S7 b o hb (S6 b o hb e)
 . rintro σ H6 ⟨x7,x8,x9,ns,rfl,hns,nl,nok,nlt,nat,F6,S6⟩
   have nnd:ns.Nodup:=nd_names u0 u20 (by omega) nat
   refine ⟨_,rfl,_,_,rfl,rfl,_,rfl,?_⟩
   have fin:∀ H':Hp,∀ ns:List Str,H' L=some (.lst (ns.map V.str))->ns.length=m.toNat->(∀ x ∈ ns,NmOk x)->ns.Nodup->FeedAt H' f->SameBut f H H'->Q (.ref L) H':=fun H' ns a b c nd d e=>q L ns H' L0 Lf a b c nd d e
   by_cases c1:(0:Int) < m
   . refine cS c1 ?_
     refine ⟨_,rfl,f,3,rfl,F6,by decide,by decide,fun d H7 d0 d1 F7 S7=>?_⟩
     refine ⟨rfl,_,rfl,?_⟩
     have hL7:=S7 L _ Lf hns
     refine ite2 (fun _=>?_) (fun _=>?_)
     . refine ⟨(by show 12<=sizeLine; decide),fun l1 h1=>?_⟩
       refine ⟨_,rfl,(by show 6<=sizeLine; decide),fun l2 h2=>?_⟩
       refine ⟨l1,l2,wordsA.map V.str,wordsB.map V.str,rfl,rfl,Same.new h2 _ _ _ upd_same,upd_same,(by show 18<=sizeLine; decide),fun l3 h3=>?_⟩
       refine ⟨_,rfl,(by show 6<=sizeLine; decide),fun l4 h4=>?_⟩
       refine ⟨l3,l4,wordsA.map V.str++wordsB.map V.str,wordsC.map V.str,rfl,rfl,Same.new h4 _ _ _ upd_same,upd_same,(by show 24<=sizeLine; decide),fun l5 h5=>?_⟩
       have G:=(Same.new h1 (.lst (wordsA.map V.str))).trans ((Same.new h2 (.lst (wordsB.map V.str))).trans ((Same.new h3 (.lst (wordsA.map V.str++wordsB.map V.str))).trans ((Same.new h4 (.lst (wordsC.map V.str))).trans (Same.new h5 (.lst ((wordsA.map V.str++wordsB.map V.str)++wordsC.map V.str))))))
       have F8:=F7.same G
       have n5:=(F7.same ((Same.new h1 (.lst (wordsA.map V.str))).trans ((Same.new h2 (.lst (wordsB.map V.str))).trans ((Same.new h3 (.lst (wordsA.map V.str++wordsB.map V.str))).trans (Same.new h4 (.lst (wordsC.map V.str))))))).ne h5
       refine ⟨_,rfl,_,rfl,f,24,rfl,F8,by decide,by decide,fun e H9 e0 e1 F9 S9=>?_⟩
       obtain ⟨v,hv,vm⟩:=at_in (l:=(wordsA.map V.str++wordsB.map V.str)++wordsC.map V.str) (i:=e) e0 (by
        have:((wordsA.map V.str++wordsB.map V.str)++wordsC.map V.str).length=24:=by rfl
        omega)
       rw [← List.map_append,← List.map_append] at vm
       obtain ⟨x,hx,rfl⟩:=List.mem_map.mp vm
       refine ⟨l5,_,e,_,rfl,rfl,SqL.of (S9 l5 _ n5 upd_same),hv,?_⟩
       refine ⟨_,rfl,_,rfl,_,rfl,f,m,rfl,F9,c1,by omega,fun j H10 j0 j1 F10 S10=>?_⟩
       have hL10:=S10 L _ Lf (S9 L _ Lf (G L _ hL7))
       refine ⟨L,_,j,j.toNat,rfl,rfl,hL10,?_,?_⟩
       . have jl:j < ((ns.map V.str).length:Int):=by rw [List.length_map]; omega
         unfold ixN
         rw [if_pos j0,if_pos jl]
       refine ⟨_,rfl,?_⟩
       refine fin _ (ns.set j.toNat x) (by rw [upd_same,List.map_set]) (by rw [List.length_set]; exact nl) ?_ ?_ (feed_upd F10 Lf) ?_
       . intro y hy
         rcases List.mem_or_eq_of_mem_set hy with h | h
         . exact nok y h
         . rw [h]
           exact words_ok x hx
       . refine nd_set nnd fun hm=>?_
         obtain ⟨c,c1,c2⟩:=words_out x hx
         exact c2 (nlt x hm c c1)
       . intro b o hb e'
         rw [ax (ai e' L0)]
         exact S10 b o hb (S9 b o hb (G b o (S7 b o hb (S6 b o hb e'))))
     . refine ⟨_,rfl,?_⟩
       exact fin H7 ns hL7 nl nok nnd F7 (S6.trans S7)
   . refine bd c1 ?_
     refine iteF ?_
     refine ⟨_,rfl,?_⟩
     exact fin H6 ns hns nl nok nnd F6 S6
theorem posOf_mem {x:Str}:∀ {ns:List Str},x ∈ ns->∃ j,posOf x ns=some j/\j < ns.length
 | [],h=>by cases h
 | a::r,h=>by
   unfold posOf
   by_cases c:a=x
   . exact ⟨0,by rw [if_pos c],by simp⟩
   . rw [if_neg c]
     rcases List.mem_cons.mp h with e | e
     . exact absurd e.symm c
     . obtain ⟨j,h1,h2⟩:=posOf_mem e
       exact ⟨j+1,by rw [h1]; rfl,by simpa using h2⟩
theorem str_inj {a b:Str} (h:V.str a=V.str b):a=b:=by injection h
def joinI (p:Int) (o:Str) (x y:Int):Int:=if o = "and" then x*y % p else if o = "or" then (x+y - x*y) % p else if o = "odd" then (x+y - 2*(x*y)) % p else (1 - (x+y - 2*(x*y))) % p
def Tr.worth (ns:List Str) (pt:List Int) (p:Int):Tr->Int
 | .is x=>match posOf x ns with | some j=>pt.getD j 0 | none=>0
 | .yes=>1
 | .no=>0
 | .not a=>(1 - a.worth ns pt p) % p
 | .bin o a b=>joinI p o (a.worth ns pt p) (b.worth ns pt p)
def cw (pt:List Int) (p:Int):Prop:=∀ x ∈ pt,0<=x/\x < p
theorem joinI_rng {p:Int} (hp:0 < p) (o:Str) (x y:Int):0<=joinI p o x y/\joinI p o x y < p:=by
 have key:∀ z:Int,0<=z % p/\z % p < p:=fun z=>⟨Int.emod_nonneg _ (by omega),Int.emod_lt_of_pos _ hp⟩
 unfold joinI
 repeat' split
 all_goals exact key _
theorem getD_mem {l:List Int} {j:Nat} (h:j < l.length):l.getD j 0=l[j]:=by
 rw [List.getD_eq_getElem?_getD,List.getElem?_eq_getElem h]
 rfl
theorem worth_rng {ns:List Str} {pt:List Int} {p:Int} (hp:1 < p) (h:cw pt p) (hl:pt.length=ns.length):∀ t:Tr,t.ok ns->0<=t.worth ns pt p/\t.worth ns pt p < p
 | .is x,ok=>by
   obtain ⟨j,hj,jl⟩:=posOf_mem ok
   show 0<=(match posOf x ns with | some j=>pt.getD j 0 | none=>0)/\(match posOf x ns with | some j=>pt.getD j 0 | none=>0) < p
   rw [hj]
   show 0<=pt.getD j 0/\pt.getD j 0 < p
   rw [getD_mem (by omega)]
   exact h _ (List.getElem_mem _)
 | .yes,_=>⟨by show (0:Int)<=1; decide,hp⟩
 | .no,_=>⟨Int.le_refl 0,by show (0:Int) < p; omega⟩
 | .not a,_=>⟨Int.emod_nonneg _ (by omega),Int.emod_lt_of_pos _ (by omega)⟩
 | .bin o a b,_=>joinI_rng (by omega) _ _ _
def spJW:Sp:=fun vs H Q _=>∃ (o:Str) (x y p:Int),vs=[.str o,.int x,.int y,.int p]/\0<=x/\x < p/\p < 2 ^ 40/\Q (.int (joinI p o x y)) H
theorem sc_joined_worth:FnScope ["word", "first", "second", "p", "both", "odd"] ["word", "first", "second", "p"] (af cE):=⟨rfl,rfl,rfl,by decide +kernel,rfl,by decide +kernel,by decide +kernel⟩
theorem ok_joined_worth {f:Addr} {fd:FuncData} (F:Fun K "joined_worth" "joined_worth" cE f fd):FnOk P w K mg base CX0 1 f fd ["word", "first", "second", "p"] spJW:=by
 refine F.ok sc_joined_worth (fun vs H Q E h=>?_) (fun cdv A outer s H vs Q E hr h=>?_)
 . obtain ⟨o,x,y,p,rfl,_⟩:=h
   rfl
 obtain ⟨o,x,y,p,rfl,x0,xp,pb,k⟩:=h
 refine ⟨_,(ad (aq (i:=4) sc_joined_worth.nd rfl (Or.inl rfl) (ao bO (pv 1) (pv 2)))
  (ad (aU (aB cu (pv 0) aO (aI _)) (aj (aF (ao bb (pv 4) (pv 3)))) aN)
  (ad (aU (aB cu (pv 0) aO (aI _)) (aj (aF (ao bb (ao bq (ao aX (pv 1) (pv 2)) (pv 4)) (pv 3)))) aN)
  (ad (aq (i:=5) sc_joined_worth.nd rfl (Or.inl rfl) (ao bq (ao aX (pv 1) (pv 2)) (ao bO ag (pv 4))))
  (ad (aU (aB cu (pv 0) aO (aI _)) (aj (aF (ao bb (pv 5) (pv 3)))) aN)
  (aj (aF (ao bb (ao bq ag (pv 5)) (pv 3))))))))),?_⟩
 refine ⟨_,rfl,_,rfl,_,_,rfl,rfl,.inl ⟨by omega,by omega⟩,?_⟩
 refine ⟨_,rfl,rfl,_,rfl,?_⟩
 by_cases c1:V.str o=V.str "and"
 . refine cS c1 ?_
   have e:joinI p o x y=x*y % p:=by unfold joinI; rw [if_pos (str_inj c1)]
   rw [e] at k
   exact ⟨_,rfl,_,rfl,_,_,rfl,rfl,(show (0:Int) < p by omega),k⟩
 refine bd c1 ?_
 have n1:¬ o = "and" := fun z=>c1 (by rw [z])
 refine ⟨_,rfl,rfl,_,rfl,?_⟩
 by_cases c2:V.str o=V.str "or"
 . refine cS c2 ?_
   have e:joinI p o x y=(x+y - x*y) % p:=by unfold joinI; rw [if_neg n1,if_pos (str_inj c2)]
   rw [e] at k
   exact ⟨_,rfl,_,rfl,_,_,rfl,rfl,_,rfl,_,_,rfl,rfl,_,rfl,_,_,rfl,rfl,(show (0:Int) < p by omega),k⟩
 refine bd c2 ?_
 have n2:¬ o = "or" := fun z=>c2 (by rw [z])
 refine ⟨_,rfl,_,rfl,_,_,rfl,rfl,_,rfl,_,_,rfl,rfl,.inl ⟨by decide,by decide⟩,_,_,rfl,rfl,?_⟩
 refine ⟨_,rfl,rfl,_,rfl,?_⟩
 by_cases c3:V.str o=V.str "odd"
 . refine cS c3 ?_
   have e:joinI p o x y=(x+y - 2*(x*y)) % p:=by unfold joinI; rw [if_neg n1,if_neg n2,if_pos (str_inj c3)]
   rw [e] at k
   exact ⟨_,rfl,_,rfl,_,_,rfl,rfl,(show (0:Int) < p by omega),k⟩
 refine bd c3 ?_
 have n3:¬ o = "odd" := fun z=>c3 (by rw [z])
 have e:joinI p o x y=(1 - (x+y - 2*(x*y))) % p:=by unfold joinI; rw [if_neg n1,if_neg n2,if_neg n3]
 rw [e] at k
 exact ⟨_,rfl,_,_,rfl,rfl,_,rfl,_,_,rfl,rfl,(show (0:Int) < p by omega),k⟩
def spWorth (n:Nat):Sp:=fun vs H Q _=>∃ (v:V) (t:Tr) (a b:Addr) (ns:List Str) (pt:List Int) (p:Int),vs=[v,.ref a,.ref b,.int p]/\TreeAt H v t/\t.ok ns/\t.depth<=n/\NamesAt H a ns/\H b=some (.tup (pt.map V.int))/\pt.length=ns.length/\1 < p/\p < 2 ^ 40/\cw pt p/\Q (.int (t.worth ns pt p)) H
theorem sc_worth_of:FnScope ["tree", "switches", "point", "p", "word", "first"] ["tree", "switches", "point", "p"] (af dy):=⟨rfl,rfl,rfl,by decide +kernel,rfl,by decide +kernel,by decide +kernel⟩
theorem worth_step {n:Nat} {f:Addr} {fd:FuncData} (F:Fun K "worth_of" "worth_of" dy f fd) (C_joined_worth:Cal P w K mg base 1 "joined_worth" ["word", "first", "second", "p"] spJW) (C_worth_of:Cal P w K mg base (n+2) "worth_of" ["tree", "switches", "point", "p"] (spWorth n)):FnOk P w K mg base CX0 (n+3) f fd ["tree", "switches", "point", "p"] (spWorth (n+1)):=by
 refine F.ok sc_worth_of (fun vs H Q E h=>?_) (fun cdv A outer s H vs Q E hr h=>?_)
 . obtain ⟨v,t,a,b,ns,pt,p,rfl,_⟩:=h
   rfl
 obtain ⟨v,t,a,b,ns,pt,p,rfl,T,ok,dn,hN,hb,sl,p1,p40,po,k⟩:=h
 have p0:(0:Int) < p:=by omega
 refine ⟨_,(ad (aq (i:=4) sc_worth_of.nd rfl (Or.inl rfl) (aR ix_tup (pv 0) ag (fun _ _=>rfl)))
  (ad (aU (aB cu (pv 4) aO (aI _)) (aj (aF (ao bb (aR ix_tup (pv 2) (pe_index PySem.F.plainAttrs_list PySem.F.plainAttrs_tuple (pv 1) (aa (aR ix_tup (pv 0) ag (fun _ _=>rfl)) ae)) (fun _ _=>rfl)) (pv 3)))) aN)
  (ad (aU (aB cu (pv 4) aO (aI _)) (aj (aF ag)) aN)
  (ad (aU (aB cu (pv 4) aO (aI _)) (aj (aF ag)) aN)
  (ad (aq (i:=5) sc_worth_of.nd rfl (Or.inl rfl) (aE C_worth_of hr (Nat.le_refl _) rfl (aa (aR ix_tup (pv 0) ag (fun _ _=>rfl)) (aa (pv 1) (aa (pv 2) (aa (pv 3) ae))))))
  (ad (aU (aB cu (pv 4) aO (aI _)) (aj (aF (ao bb (ao bq ag (pv 5)) (pv 3)))) aN)
  (aj (aF (aE C_joined_worth hr (by omega) rfl (aa (pv 4) (aa (pv 5) (aa (aE C_worth_of hr (Nat.le_refl _) rfl (aa (aR ix_tup (pv 0) ag (fun _ _=>rfl)) (aa (pv 1) (aa (pv 2) (aa (pv 3) ae))))) (aa (pv 3) ae))))))))))))),?_⟩
 cases T with
 | @is q x e =>
   refine ⟨_,rfl,q,_,0,_,rfl,rfl,SqT.of e,rfl,?_⟩
   refine ⟨_,rfl,rfl,_,rfl,?_⟩
   refine cS rfl ?_
   obtain ⟨j,hj,jl⟩:=posOf_mem ok
   have jl':j < pt.length:=by omega
   refine ⟨_,rfl,_,rfl,a,ns,rfl,hN,_,rfl,q,_,1,_,rfl,rfl,SqT.of e,rfl,rfl,x,j,rfl,hj,b,_,(j:Int),.int pt[j],rfl,rfl,SqT.of hb,?_,_,rfl,_,_,rfl,rfl,p0,?_⟩
   . refine cL ?_
     rw [List.getElem?_map,List.getElem?_eq_getElem jl']
     rfl
   . have e1:(Tr.is x).worth ns pt p=pt[j] % p:=by
      show (match posOf x ns with | some j=>pt.getD j 0 | none=>0)=_
      rw [hj]
      show pt.getD j 0=_
      rw [getD_mem jl']
      have:=po _ (List.getElem_mem jl')
      rw [Int.emod_eq_of_lt this.1 this.2]
     rw [e1] at k
     exact k
 | @yes q e =>
   refine ⟨_,rfl,q,_,0,_,rfl,rfl,SqT.of e,rfl,?_⟩
   refine ⟨_,rfl,rfl,_,rfl,?_⟩
   refine bd (by decide +kernel) ?_
   refine ⟨_,rfl,rfl,_,rfl,?_⟩
   exact cS rfl k
 | @no q e =>
   refine ⟨_,rfl,q,_,0,_,rfl,rfl,SqT.of e,rfl,?_⟩
   refine ⟨_,rfl,rfl,_,rfl,?_⟩
   refine bd (by decide +kernel) ?_
   refine ⟨_,rfl,rfl,_,rfl,?_⟩
   refine bd (by decide +kernel) ?_
   refine ⟨_,rfl,rfl,_,rfl,?_⟩
   exact cS rfl k
 | @not q u r e T1 =>
   have dp:r.depth+1<=n+1:=dn
   refine ⟨_,rfl,q,_,0,_,rfl,rfl,SqT.of e,rfl,?_⟩
   refine ⟨_,rfl,rfl,_,rfl,?_⟩
   refine bd (by decide +kernel) ?_
   refine ⟨_,rfl,rfl,_,rfl,?_⟩
   refine bd (by decide +kernel) ?_
   refine ⟨_,rfl,rfl,_,rfl,?_⟩
   refine bd (by decide +kernel) ?_
   refine ⟨_,rfl,q,_,1,_,rfl,rfl,SqT.of e,rfl,_,rfl,_,rfl,_,rfl,u,r,a,b,ns,pt,p,rfl,T1,ok,by omega,hN,hb,sl,p1,p40,po,?_⟩
   refine ⟨_,rfl,rfl,_,rfl,?_⟩
   refine cS rfl ?_
   exact ⟨_,rfl,_,_,rfl,rfl,_,rfl,_,_,rfl,rfl,p0,k⟩
 | @bin q o u u2 r r2 e T1 T2 =>
   obtain ⟨ho,ok1,ok2⟩:=ok
   have dp:max r.depth r2.depth+1<=n+1:=dn
   have ne:∀ z:Str,z ∉ joinW->¬ V.str o=V.str z:=fun z hz h=>hz (str_inj h ▸ ho)
   refine ⟨_,rfl,q,_,0,_,rfl,rfl,SqT.of e,rfl,?_⟩
   refine ⟨_,rfl,rfl,_,rfl,?_⟩
   refine bd (ne _ (by decide +kernel)) ?_
   refine ⟨_,rfl,rfl,_,rfl,?_⟩
   refine bd (ne _ (by decide +kernel)) ?_
   refine ⟨_,rfl,rfl,_,rfl,?_⟩
   refine bd (ne _ (by decide +kernel)) ?_
   refine ⟨_,rfl,q,_,1,_,rfl,rfl,SqT.of e,rfl,_,rfl,_,rfl,_,rfl,u,r,a,b,ns,pt,p,rfl,T1,ok1,by omega,hN,hb,sl,p1,p40,po,?_⟩
   refine ⟨_,rfl,rfl,_,rfl,?_⟩
   refine bd (ne _ (by decide +kernel)) ?_
   have wr:=worth_rng p1 po sl r ok1
   refine ⟨_,rfl,_,rfl,_,rfl,q,_,2,_,rfl,rfl,SqT.of e,rfl,_,rfl,_,rfl,_,rfl,u2,r2,a,b,ns,pt,p,rfl,T2,ok2,by omega,hN,hb,sl,p1,p40,po,?_⟩
   exact ⟨_,rfl,o,_,_,p,rfl,wr.1,wr.2,p40,k⟩
theorem worth_zero {f:Addr} {fd:FuncData}:FnOk P w K mg base CX0 2 f fd ["tree", "switches", "point", "p"] (spWorth 0):=by
 have no:∀ vs H Q E,¬ spWorth 0 vs H Q E:=fun vs H Q E h=>by
  obtain ⟨v,t,_,_,_,_,_,_,_,_,h1,_⟩:=h
  have:=t.depth_pos
  omega
 exact ⟨fun vs H Q E h=>absurd h (no vs H Q E),fun A outer s H args us vs Q E _ _ _ _ h=>absurd h (no vs H Q E)⟩
theorem ok_worth_of {f:Addr} {fd:FuncData} (F:Fun K "worth_of" "worth_of" dy f fd) (m:mg "worth_of" = some (.ref f)) (C_joined_worth:Cal P w K mg base 1 "joined_worth" ["word", "first", "second", "p"] spJW) :
 ∀ n:Nat,FnOk P w K mg base CX0 (n+2) f fd ["tree", "switches", "point", "p"] (spWorth n)
 | 0=>worth_zero
 | n+1=>worth_step F C_joined_worth (Cal.of F (ok_worth_of F m C_joined_worth n) m (fun _ _ _ _ _ _ us hl=>by obtain ⟨u0,u1,u2,u3,rfl⟩:=len4 hl; rfl))
theorem df {H:Hp} {b:Addr} {ys zs:List V} (h:H b=some (.lst ys)):∀ a xs,H a=some (.tup xs)->(upd H b (.lst zs)) a=some (.tup xs):=fun a xs e=>by
 rw [ax]
 . exact e
 . intro z
   rw [z,h] at e
   cases e
theorem at0 (x:V) (xs:List V):atI (x::xs) 0=some x:=cL (j:=0) rfl
theorem namesL_take {ts:List Tr} {i:Nat} {u:Tr} (h:ts[i]?=some u):namesL (ts.take (i+1))=namesL (ts.take i)++u.names:=by
 unfold namesL
 rw [List.take_add_one,h,List.map_append,List.flatten_append]
 simp
theorem namesL_len (ts:List Tr):(namesL ts).length<=sizes ts:=by
 induction ts with
 | nil=>simp [namesL,sizes]
 | cons a r ih =>
   have:=a.names_len
   simp only [namesL,sizes,List.map_cons,List.flatten_cons,List.length_append,List.sum_cons] at ih ⊢
   omega
theorem sizes_take (ts:List Tr) (i:Nat):sizes (ts.take i)<=sizes ts:=by
 induction ts generalizing i with
 | nil=>simp
 | cons a r ih =>
   cases i with
   | zero=>simp [sizes]
   | succ i =>
     have:=ih i
     simp only [sizes,List.take_succ_cons,List.map_cons,List.sum_cons] at this ⊢
     omega
def spNO (n:Nat):Sp:=fun vs H Q _=>∃ (v:V) (t:Tr),vs=[v]/\TreeAt H v t/\t.wf/\t.depth<=n/\t.size<=400/\∀ (l:Addr) (H':Hp),H l=none->Same H H'->H' l=some (.lst (t.names.map V.str))->Q (.ref l) H'
theorem sc_l_names_of:FnScope ["_law_tree_here", "_law_found", "_law_part"] ["_law_tree_here"] (af cJ):=⟨rfl,rfl,rfl,by decide +kernel,rfl,by decide +kernel,by decide +kernel⟩
theorem no_step {n:Nat} {f:Addr} {fd:FuncData} (F:Fun K "_law_names_of" "_law_names_of" cJ f fd) (C_l_names_of:Cal P w K mg base (n+2) "_law_names_of" ["_law_tree_here"] (spNO n)):FnOk P w K mg base CX0 (n+3) f fd ["_law_tree_here"] (spNO (n+1)):=by
 refine F.ok sc_l_names_of (fun vs H Q E h=>?_) (fun cdv A outer s H vs Q E hr h=>?_)
 . obtain ⟨v,t,rfl,_⟩:=h
   rfl
 obtain ⟨v,t,rfl,T,wf,dn,sz,q⟩:=h
 refine ⟨_,(ad (aU (aB cu (aR ix_tup (pv 0) ag (fun _ _=>rfl)) aO (aI _)) (aj (aF (cH (aa (aR ix_tup (pv 0) ag (fun _ _=>rfl)) ae)))) aN)
  (ad (aq (i:=1) sc_l_names_of.nd rfl (Or.inl rfl) (cH ae))
  (ad (cG PassesOwn.never rfl (pi_tup (dO sl_tup (pv 0) (po_some ag) po_none)) (bw (i:=2) sc_l_names_of.nd rfl (Or.inl rfl)) (aj (aq (i:=1) sc_l_names_of.nd rfl (Or.inl rfl) (ao op_cat (pv 1) (aE C_l_names_of hr (Nat.le_refl _) rfl (aa (pv 2) ae))))))
  (aj (aF (pv 1)))))),?_⟩
 rcases T.view wf with ⟨a,x,rfl,rfl,_,e⟩ | ⟨a,o,xs,rfl,no,xl0,e,TS0,nis⟩
 . refine ⟨_,rfl,a,_,0,_,rfl,rfl,SqT.of e,rfl,rfl,_,rfl,?_⟩
   refine cS rfl ?_
   refine ⟨_,rfl,a,_,1,_,rfl,rfl,SqT.of e,rfl,(by show 1<=sizeLine; decide),fun p hp=>?_⟩
   exact q p _ hp (Same.new hp _) upd_same
 . refine ⟨_,rfl,a,_,0,.str o,rfl,rfl,SqT.of e,at0 ..,rfl,_,rfl,?_⟩
   refine bd (fun z=>no (by injection z)) ?_
   refine ⟨(by show 0<=sizeLine; decide),fun L hL=>?_⟩
   have G0:=Same.new hL (.lst [])
   obtain ⟨c1,c2⟩:=cut1 (.str o) xs xl0
   refine ⟨_,rfl,1,rfl,a,_,rfl,SqT.of (G0 _ _ e),c2,fun p hp=>?_⟩
   rw [c1]
   have G1:=Same.new hp (.tup xs)
   have hp1:upd (upd H L (.lst [])) p (.tup xs) p=some (.tup xs):=upd_same
   have hL1:upd (upd H L (.lst [])) p (.tup xs) L=some (.lst []):=G1 _ _ upd_same
   have S1:Same H (upd (upd H L (.lst [])) p (.tup xs)):=G0.trans G1
   generalize upd (upd H L (.lst [])) p (.tup xs)=H1 at hp1 hL1 S1
   have TS:=TS0.mono (au S1)
   have xl:=TS.length
   have sp:=t.size_parts
   refine ⟨p,rfl,⟨_,SqT.of hp1⟩,for_tup (K:=K) (xs:=xs) (fun i σ H'=>∃ (M:Addr) (x2:Option V),σ=[some (.ref a),some (.ref M),x2]/\H M=none/\H' M=some (.lst ((namesL (t.parts.take i)).map V.str))/\Same H1 H') ⟨L,_,rfl,hL,hL1,Same.refl _⟩ (fun i σ H' _ hst=>by obtain ⟨_,_,_,_,_,h⟩:=hst; exact SqT.of (h _ _ hp1)) ?_ ?_⟩
   . rintro i x σ H2 hx ⟨M,x2,rfl,M0,hM,S2⟩
     obtain ⟨u,hu,Tu⟩:=TS.get hx
     have um:=List.mem_of_getElem? hu
     obtain ⟨uw,ud,us⟩:=Tr.parts_mem um wf
     refine ⟨_,rfl,_,rfl,x,u,rfl,Tu.mono (au S2),uw,by omega,by omega,fun l H3 l0 S3 hl3=>?_⟩
     have nl:=u.names_len
     have nl2:=namesL_len (t.parts.take i)
     have nl3:=sizes_take t.parts i
     refine ⟨M,l,_,_,rfl,rfl,S3 _ _ hM,hl3,?_,fun r hr0=>?_⟩
     . rw [List.length_map,List.length_map]
       exact dN (by omega)
     . have S4:=(S2.trans S3).trans (Same.new hr0 (.lst ((namesL (t.parts.take i)).map V.str++u.names.map V.str)))
       refine ⟨r,_,rfl,(S1.trans (S2.trans S3)).free hr0,?_,S4⟩
       rw [upd_same,namesL_take hu,List.map_append]
   . rintro σ H2 ⟨M,x2,rfl,M0,hM,S2⟩
     rw [xl,List.take_length,← t.names_parts nis] at hM
     exact ⟨_,rfl,q M H2 M0 (S1.trans S2) hM⟩
theorem no_zero {f:Addr} {fd:FuncData}:FnOk P w K mg base CX0 2 f fd ["_law_tree_here"] (spNO 0):=by
 have no:∀ vs H Q E,¬ spNO 0 vs H Q E:=fun vs H Q E h=>by
  obtain ⟨v,t,_,_,_,h1,_⟩:=h
  have:=t.depth_pos
  omega
 exact ⟨fun vs H Q E h=>absurd h (no vs H Q E),fun A outer s H args us vs Q E _ _ _ _ h=>absurd h (no vs H Q E)⟩
theorem ok_l_names_of {f:Addr} {fd:FuncData} (F:Fun K "_law_names_of" "_law_names_of" cJ f fd) (m:mg "_law_names_of" = some (.ref f)) :
 ∀ n:Nat,FnOk P w K mg base CX0 (n+2) f fd ["_law_tree_here"] (spNO n)
 | 0=>no_zero
 | n+1=>no_step F (Cal.of F (ok_l_names_of F m n) m (fun _ _ _ _ _ _ us hl=>by obtain ⟨u0,rfl⟩:=len1 hl; rfl))
theorem count_strs (ns:List Str) (z:Str):((ns.map V.str).countP fun y=>eqV y (.str z))=ns.count z:=by
 rw [List.countP_map]
 rfl
def spNeed:Sp:=fun vs H Q _=>∃ (a b:Addr) (ns:List Str) (tv:List V) (ts:List Tr),vs=[.ref a,.ref b]/\H a=some (.lst (ns.map V.str))/\H b=some (.lst tv)/\TreesAt H tv ts/\ts.length<=10/\(∀ t ∈ ts,t.wf/\t.depth<=10/\t.size<=400) /\
 ∀ (m:Int) (H':Hp),Same H H'->2<=m->m<=400->(ns=[]->ts.length<=4->m<=3)->(ts.length:Int)<=m+1->(∀ t ∈ ts,∀ x ∈ ns,(t.names.count x:Int)<=m)->Q (.int m) H'
theorem sc_l_need:FnScope ["_law_names_here", "_law_trees", "_law_need_here", "_law_tree_here", "_law_found", "_law_name"] ["_law_names_here", "_law_trees"] (af s_l_need):=⟨rfl,rfl,rfl,by decide +kernel,rfl,by decide +kernel,by decide +kernel⟩
theorem ok_l_need {f:Addr} {fd:FuncData} (F:Fun K "_law_need" "_law_need" s_l_need f fd) (hlen:mg "len" = none) (hmax:mg "max" = none) (C_l_names_of:Cal P w K mg base 12 "_law_names_of" ["_law_tree_here"] (spNO 10)):FnOk P w K mg base CX0 13 f fd ["_law_names_here", "_law_trees"] spNeed:=by
 refine F.ok sc_l_need (fun vs H Q E h=>?_) (fun cdv A outer s H vs Q E hr h=>?_)
 . obtain ⟨a,b,ns,tv,ts,rfl,_⟩:=h
   rfl
 obtain ⟨a,b,ns,tv,ts,rfl,ha,hb,TS,tl,tok,q⟩:=h
 refine ⟨_,(ad (aq (i:=2) sc_l_need.nd rfl (Or.inl rfl) (aJ (call_max2 rfl) rfl hmax PyProof.Rows.boot_max (aa ag (aa (ao bq (aJ aD rfl hlen PySem.boot_len (aa (pv 1) ae)) ag) ae))))
  (ad (cG PassesOwn.never rfl (pi_list (pv 1)) (bw (i:=3) sc_l_need.nd rfl (Or.inl rfl)) (ad (aq (i:=4) sc_l_need.nd rfl (Or.inl rfl) (aE C_l_names_of hr (by decide) rfl (aa (pv 3) ae)))
   (aj (cG PassesOwn.never rfl (pi_list (pv 0)) (bw (i:=5) sc_l_need.nd rfl (Or.inl rfl)) (aj (aq (i:=2) sc_l_need.nd rfl (Or.inl rfl) (aJ (call_max2 rfl) rfl hmax PyProof.Rows.boot_max (aa (pv 2) (aa (pe_bm PySem.F.plainAttrs_list PySem.F.slot_list_count PySem.F.type_list_count mt_count (pv 4) (aa (pv 5) ae)) ae)))))))))
  (aj (aF (pv 2))))),?_⟩
 have vl:=TS.length
 refine ⟨_,rfl,b,_,rfl,.inl (SqL.of hb),_,_,rfl,rfl,_,_,rfl,?_⟩
 obtain ⟨m,em,m2,m4,mt,m3⟩:∃ m:Int,(if ((tv.length:Int) - 1) > 2 then ((tv.length:Int) - 1) else 2)=m/\2<=m/\m<=400/\(ts.length:Int)<=m+1/\(ts.length<=4->m<=3):=⟨_,rfl,by split <;> omega,by split <;> omega,by split <;> omega,fun _=>by split <;> omega⟩
 rw [em]
 refine ⟨_,rfl,b,rfl,⟨_,SqL.of hb⟩,for_list (K:=K) (xs:=tv) (fun i σ H'=>∃ (m:Int) (x3 x4 x5:Option V),σ=[some (.ref a),some (.ref b),some (.int m),x3,x4,x5]/\2<=m/\m<=400/\(ts.length:Int)<=m+1/\(∀ t ∈ ts.take i,∀ x ∈ ns,(t.names.count x:Int)<=m)/\Same H H'/\(ns=[]->ts.length<=4->m<=3))
  ⟨m,_,_,_,rfl,m2,m4,mt,by simp,Same.refl _,fun _=>m3⟩ (fun i σ H' _ hst=>by obtain ⟨_,_,_,_,_,_,_,_,_,h,_⟩:=hst; exact SqL.of (h _ _ hb)) ?_ ?_⟩
 . rintro i v σ H1 hv ⟨m,x3,x4,x5,rfl,m2,m4,mt,mc,S1,me⟩
   obtain ⟨t,ht,T⟩:=TS.get hv
   have tm:=List.mem_of_getElem? ht
   obtain ⟨tw,td,tz⟩:=tok t tm
   refine ⟨_,rfl,v,t,rfl,T.mono (au S1),tw,by omega,tz,fun l H2 l0 S2 hl=>?_⟩
   have S12:=S1.trans S2
   have tn:=t.names_len
   refine ⟨_,rfl,a,rfl,⟨_,SqL.of (S12 _ _ ha)⟩,for_list (K:=K) (xs:=ns.map V.str) (fun j σ H'=>∃ (m':Int) (x5:Option V),σ=[some (.ref a),some (.ref b),some (.int m'),some v,some (.ref l),x5]/\m<=m'/\m'<=400/\(∀ x ∈ ns.take j,(t.names.count x:Int)<=m')/\(ns=[]->m'<=m)/\H'=H2)
    ⟨m,_,rfl,Int.le_refl _,m4,by simp,fun _=>Int.le_refl _,rfl⟩ (fun j σ H' _ hst=>by obtain ⟨_,_,_,_,_,_,_,h⟩:=hst; subst h; exact SqL.of (S12 _ _ ha)) ?_ ?_⟩
   . rintro j y σ H3 hy ⟨m',y5,rfl,mm,m4',mc',me',rfl⟩
     rw [List.getElem?_map] at hy
     obtain ⟨x,hx,rfl⟩:=Option.map_eq_some_iff.mp hy
     refine ⟨_,rfl,_,rfl,.inl ⟨rfl,_,SqL.of hl⟩,_,rfl,l,_,_,rfl,rfl,SqL.of hl,flat_strs _,rfl,_,_,rfl,?_⟩
     rw [count_strs]
     have cl:=List.count_le_length (a:=x) (l:=t.names)
     refine ⟨_,_,rfl,by split <;> omega,by split <;> omega,fun z hz=>?_,fun e=>(by subst e; cases hx),rfl⟩
     rw [List.take_add_one,hx] at hz
     rcases List.mem_append.mp hz with h | h
     . have:=mc' z h
       split <;> omega
     . have e:z=x:=by simpa using h
       subst e
       split <;> omega
   . rintro σ H3 ⟨m',y5,rfl,mm,m4',mc',me',rfl⟩
     rw [List.length_map,List.take_length] at mc'
     refine ⟨m',_,_,_,rfl,by omega,m4',by omega,fun u hu x hx=>?_,S12,fun e f=>(by have:=me' e; have:=me e f; omega)⟩
     rw [List.take_add_one,ht] at hu
     rcases List.mem_append.mp hu with h | h
     . have:=mc u h x hx
       omega
     . have e:u=t:=by simpa using h
       subst e
       exact mc' x hx
 . rintro σ H1 ⟨m,x3,x4,x5,rfl,m2,m4,mt,mc,S1,me⟩
   rw [vl,List.take_length] at mc
   exact ⟨_,rfl,q m H1 S1 m2 m4 me mt mc⟩
def spPrimeB:Sp:=fun vs H Q _=>∃ n:Int,vs=[.int n]/\∀ b:Bool,(b=true↔Pr n)->Q (.bl b) H
theorem sc_l_is_prime:FnScope ["_law_number", "_law_k"] ["_law_number"] (af da):=⟨rfl,rfl,rfl,by decide +kernel,rfl,by decide +kernel,by decide +kernel⟩
theorem ok_l_is_prime {f:Addr} {fd:FuncData} (F:Fun K "_law_is_prime" "_law_is_prime" da f fd) (hrange:mg "range" = none):FnOk P w K mg base CX0 1 f fd ["_law_number"] spPrimeB:=by
 refine F.ok sc_l_is_prime (fun vs H Q E h=>?_) (fun cdv A outer s H vs Q E hr h=>?_)
 . obtain ⟨n,rfl,_⟩:=h
   rfl
 obtain ⟨n,rfl,q⟩:=h
 refine ⟨_,(ad (aU (aB op_lt (pv 0) ag (aI _)) (aj (aF pe_bl)) aN)
  (ad (cG PassesOwn.never rfl (pi_range2 rfl hrange (aa ag (aa ag ae))) (bw (i:=1) sc_l_is_prime.nd rfl (Or.inl rfl)) (ad (aU (aB op_gt (ao bO (pv 1) (pv 1)) (pv 0) (aI _)) (aj (aF pe_bl)) aN)
   (aj (aU (aB cu (ao bb (pv 0) (pv 1)) ag (aI _)) (aj (aF pe_bl)) aN))))
  (aj (aF pe_bl)))),?_⟩
 refine ⟨_,rfl,_,_,rfl,rfl,_,rfl,?_⟩
 refine ite2 (fun c=>?_) (fun c=>?_)
 . have c':=of_decide_eq_true c
   exact q false ⟨fun z=>(nomatch z),fun z=>by have:=z.1; omega⟩
 have c':¬ n < 2:=of_decide_eq_false (Bool.eq_false_iff.mpr c)
 refine ⟨2,1001,rfl,⟨by decide,by decide,by decide,by decide⟩,di (fun i σ H'=>∃ x,σ=[some (.int n),x]/\H'=H/\PrUpTo n (2+(i:Int))) ⟨_,rfl,rfl,by simpa using upTo_start n⟩ ?_ ?_⟩
 . rintro i σ H' hi ⟨x,rfl,rfl,u⟩
   have hi':i < 999:=hi
   refine ⟨_,rfl,_,rfl,_,_,rfl,rfl,.inl ⟨by omega,by omega⟩,_,rfl,_,_,rfl,rfl,_,rfl,?_⟩
   refine ite2 (fun c1=>?_) (fun c1=>?_)
   . have c2:=of_decide_eq_true c1
     exact q true ⟨fun _=>pr_big (by omega) (by omega) u c2,fun _=>rfl⟩
   . have c2:=of_decide_eq_false (Bool.eq_false_iff.mpr c1)
     refine ⟨_,rfl,_,rfl,_,_,rfl,rfl,(show (0:Int) < 2+(i:Int) by omega),rfl,_,rfl,?_⟩
     refine ite2 (fun c3=>?_) (fun c3=>?_)
     . have c4:=V.int.inj (of_decide_eq_true c3)
       exact q false ⟨fun z=>(nomatch z),fun z=>(pr_not (by omega) (by omega) (by omega) c4 z).elim⟩
     . have c4:=of_decide_eq_false (Bool.eq_false_iff.mpr c3)
       refine ⟨_,rfl,rfl,?_⟩
       have e:(2:Int)+((i+1:Nat):Int)=2+(i:Int)+1:=by omega
       rw [e]
       exact upTo_next u (by omega) (fun z=>c4 (congrArg V.int z))
 . rintro σ H' ⟨x,rfl,rfl,u⟩
   exact q true ⟨fun _=>pr_all (by omega) u,fun _=>rfl⟩
def spWithin:Sp:=fun vs H Q _=>∃ (v:V) (t:Tr),vs=[v]/\TreeAt H v t/\t.wf/\∀ (p:Addr) (xs:List V) (H':Hp),Same H H'->H' p=some (.tup xs)->TreesAt H' xs t.parts->Q (.ref p) H'
theorem sc_trees_within:FnScope ["tree"] ["tree"] (af cD):=⟨rfl,rfl,rfl,by decide +kernel,rfl,by decide +kernel,by decide +kernel⟩
theorem ok_trees_within {f:Addr} {fd:FuncData} (F:Fun K "trees_within" "trees_within" cD f fd):FnOk P w K mg base CX0 1 f fd ["tree"] spWithin:=by
 refine F.ok sc_trees_within (fun vs H Q E h=>?_) (fun cdv A outer s H vs Q E hr h=>?_)
 . obtain ⟨v,t,rfl,_⟩:=h
   rfl
 obtain ⟨v,t,rfl,T,wf,q⟩:=h
 refine ⟨_,(ad (aU (aB cu (aR ix_tup (pv 0) ag (fun _ _=>rfl)) aO (aI _)) (aj (aF (aV ae))) aN)
  (aj (aF (dO sl_tup (pv 0) (po_some ag) po_none)))),?_⟩
 rcases T.view wf with ⟨a,x,rfl,rfl,_,e⟩ | ⟨a,o,xs,rfl,no,xl,e,TS,_⟩
 . refine ⟨_,rfl,a,_,0,_,rfl,rfl,SqT.of e,rfl,rfl,_,rfl,?_⟩
   refine cS rfl ?_
   refine ⟨(by show 0<=sizeLine; decide),fun p hp=>?_⟩
   exact q p [] _ (Same.new hp _) upd_same .nil
 . refine ⟨_,rfl,a,_,0,.str o,rfl,rfl,SqT.of e,at0 ..,rfl,_,rfl,?_⟩
   refine bd (fun z=>no (by injection z)) ?_
   obtain ⟨c1,c2⟩:=cut1 (.str o) xs xl
   refine ⟨_,rfl,1,rfl,a,_,rfl,SqT.of e,c2,fun p hp=>?_⟩
   rw [c1]
   exact q p xs _ (Same.new hp _) upd_same (TS.mono (au (Same.new hp _)))
def spNamesIn (n:Nat):Sp:=fun vs H Q _=>∃ (v:V) (t:Tr),vs=[v]/\TreeAt H v t/\t.wf/\t.depth<=n/\t.size<=400/\∀ (l:Addr) (H':Hp),H l=none->Same H H'->H' l=some (.lst (t.names.map V.str))->Q (.ref l) H'
theorem sc_names_in:FnScope ["tree", "names", "part"] ["tree"] (af dz):=⟨rfl,rfl,rfl,by decide +kernel,rfl,by decide +kernel,by decide +kernel⟩
theorem names_step {n:Nat} {f:Addr} {fd:FuncData} (F:Fun K "names_in" "names_in" dz f fd) (C_trees_within:Cal P w K mg base 1 "trees_within" ["tree"] spWithin) (C_names_in:Cal P w K mg base (n+2) "names_in" ["tree"] (spNamesIn n)):FnOk P w K mg base CX0 (n+3) f fd ["tree"] (spNamesIn (n+1)):=by
 refine F.ok sc_names_in (fun vs H Q E h=>?_) (fun cdv A outer s H vs Q E hr h=>?_)
 . obtain ⟨v,t,rfl,_⟩:=h
   rfl
 obtain ⟨v,t,rfl,T,wf,dn,sz,q⟩:=h
 refine ⟨_,(ad (aU (aB cu (aR ix_tup (pv 0) ag (fun _ _=>rfl)) aO (aI _)) (aj (aF (cH (aa (aR ix_tup (pv 0) ag (fun _ _=>rfl)) ae)))) aN)
  (ad (aq (i:=1) sc_names_in.nd rfl (Or.inl rfl) (cH ae))
  (ad (cG PassesOwn.never rfl (pi_tup (aE C_trees_within hr (by omega) rfl (aa (pv 0) ae))) (bw (i:=2) sc_names_in.nd rfl (Or.inl rfl)) (aj (bP (pe_bm PySem.F.plainAttrs_list PySem.F.slot_list_extend PySem.F.type_list_extend mt_extend (pv 1) (aa (aE C_names_in hr (Nat.le_refl _) rfl (aa (pv 2) ae)) ae)))))
  (aj (aF (pv 1)))))),?_⟩
 have wf':=wf
 rcases T.view wf with ⟨a,x,rfl,rfl,_,e⟩ | ⟨a,o,xs0,rfl,no,xl0,e,_,nis⟩
 . refine ⟨_,rfl,a,_,0,_,rfl,rfl,SqT.of e,rfl,rfl,_,rfl,?_⟩
   refine cS rfl ?_
   refine ⟨_,rfl,a,_,1,_,rfl,rfl,SqT.of e,rfl,(by show 1<=sizeLine; decide),fun p hp=>?_⟩
   exact q p _ hp (Same.new hp _) upd_same
 . refine ⟨_,rfl,a,_,0,.str o,rfl,rfl,SqT.of e,at0 ..,rfl,_,rfl,?_⟩
   refine bd (fun z=>no (by injection z)) ?_
   refine ⟨(by show 0<=sizeLine; decide),fun L hL=>?_⟩
   have G0:=Same.new hL (.lst [])
   refine ⟨_,rfl,_,t,rfl,T.mono (au G0),wf,fun p xs H1 S1 hp TS=>?_⟩
   have hL1:H1 L=some (.lst []):=S1 _ _ upd_same
   have pL:p ≠ L:=fun z=>by rw [z,hL1] at hp; cases hp
   have xl:=TS.length
   have sp:=t.size_parts
   refine ⟨p,rfl,⟨_,SqT.of hp⟩,for_tup (K:=K) (xs:=xs) (fun i σ H'=>∃ x2,σ=[some (.ref a),some (.ref L),x2]/\H' L=some (.lst ((namesL (t.parts.take i)).map V.str))/\SameBut L H1 H') ⟨_,rfl,hL1,SameBut.refl _ _⟩ (fun i σ H' _ hst=>by obtain ⟨_,_,_,h⟩:=hst; exact SqT.of (h _ _ pL hp)) ?_ ?_⟩
   . rintro i x σ H2 hx ⟨x2,rfl,hl,S2⟩
     obtain ⟨u,hu,Tu⟩:=TS.get hx
     have um:=List.mem_of_getElem? hu
     obtain ⟨uw,ud,us⟩:=Tr.parts_mem um wf
     have Tu2:TreeAt H2 x u:=Tu.mono fun b ys h=>S2 b _ (fun z=>by rw [z,hL1] at h; cases h) h
     refine ⟨_,rfl,.inl ⟨rfl,_,SqL.of hl⟩,_,rfl,x,u,rfl,Tu2,uw,by omega,by omega,fun l H3 l0 S3 hl3=>?_⟩
     have nl:=u.names_len
     have nl2:=namesL_len (t.parts.take i)
     have nl3:=sizes_take t.parts i
     refine ⟨L,l,_,_,rfl,rfl,S3 _ _ hl,hl3,?_,?_⟩
     . rw [List.length_map,List.length_map]
       exact dN (by omega)
     refine ⟨_,rfl,?_,fun b o hb h=>?_⟩
     . rw [upd_same,namesL_take hu,List.map_append]
     . rw [ax hb]
       exact S3 _ _ (S2 _ _ hb h)
   . rintro σ H2 ⟨x2,rfl,hl,S2⟩
     rw [xl,List.take_length,← t.names_parts nis] at hl
     refine ⟨_,rfl,?_⟩
     refine q L H2 hL (fun b o h=>?_) hl
     exact S2 b o (ai h hL) (S1 _ _ (G0 _ _ h))
theorem names_zero {f:Addr} {fd:FuncData}:FnOk P w K mg base CX0 2 f fd ["tree"] (spNamesIn 0):=by
 have no:∀ vs H Q E,¬ spNamesIn 0 vs H Q E:=fun vs H Q E h=>by
  obtain ⟨v,t,_,_,_,h1,_⟩:=h
  have:=t.depth_pos
  omega
 exact ⟨fun vs H Q E h=>absurd h (no vs H Q E),fun A outer s H args us vs Q E _ _ _ _ h=>absurd h (no vs H Q E)⟩
theorem ok_names_in {f:Addr} {fd:FuncData} (F:Fun K "names_in" "names_in" dz f fd) (m:mg "names_in" = some (.ref f)) (C_trees_within:Cal P w K mg base 1 "trees_within" ["tree"] spWithin) :
 ∀ n:Nat,FnOk P w K mg base CX0 (n+2) f fd ["tree"] (spNamesIn n)
 | 0=>names_zero
 | n+1=>names_step F C_trees_within (Cal.of F (ok_names_in F m C_trees_within n) m (fun _ _ _ _ _ _ us hl=>by obtain ⟨u0,rfl⟩:=len1 hl; rfl))
def spField:Sp:=fun vs H Q _=>∃ n:Int,vs=[.int n]/\n<=999999/\∀ b:Bool,(b=true↔2 < n/\Pr n)->Q (.bl b) H
theorem sc_is_field:FnScope ["number", "divisor"] ["number"] (af s_is_field):=⟨rfl,rfl,rfl,by decide +kernel,rfl,by decide +kernel,by decide +kernel⟩
theorem ok_is_field {f:Addr} {fd:FuncData} (F:Fun K "is_field" "is_field" s_is_field f fd):FnOk P w K mg base CX0 1 f fd ["number"] spField:=by
 refine F.ok sc_is_field (fun vs H Q E h=>?_) (fun cdv A outer s H vs Q E hr h=>?_)
 . obtain ⟨n,rfl,_⟩:=h
   rfl
 obtain ⟨n,rfl,n9,q⟩:=h
 refine ⟨_,(ad (aU (PW.pt (pw_or (aB op_lt (pv 0) ag (aI _)) (pw_or1 (aB cu (ao bb (pv 0) ag) ag (aI _))))) (aj (aF pe_bl)) aN)
  (ad (aq (i:=1) sc_is_field.nd rfl (Or.inl rfl) ag)
  (ad (ps_while PassesOwn.never (aB op_le (ao bO (pv 1) (pv 1)) (pv 0) (aI _)) (ad (aU (aB cu (ao bb (pv 0) (pv 1)) ag (aI _)) (aj (aF pe_bl)) aN)
   (aj (aq (i:=1) sc_is_field.nd rfl (Or.inl rfl) (ao aX (pv 1) ag)))))
  (aj (aF pe_bl))))),?_⟩
 refine ⟨_,rfl,_,_,rfl,rfl,_,rfl,?_⟩
 by_cases c:n < 3
 . refine cS c ?_
   refine iteT ?_
   exact q false ⟨fun z=>(nomatch z),fun z=>by omega⟩
 refine bd c ?_
 refine ⟨_,rfl,_,_,rfl,rfl,(by show (0:Int) < _; decide),rfl,_,rfl,?_⟩
 by_cases c2:n % 2=0
 . refine cS (congrArg V.int c2) ?_
   exact q false ⟨fun z=>(nomatch z),fun z=>absurd z.2 (field_no2 c2 (by omega))⟩
 refine bd (fun z=>c2 (V.int.inj z)) ?_
 refine ⟨fun m σ H'=>∃ d:Int,σ=[some (.int n),some (.int d)]/\H'=H/\3<=d/\d<=1001/\d % 2=1/\OddUp n d/\m=(n+3 - d).toNat,⟨_,3,rfl,rfl,by omega,by omega,by omega,odd_start n,rfl⟩,?_⟩
 rintro m σ H' ⟨d,rfl,rfl,d3,d9,d2,u,rfl⟩
 refine ⟨_,rfl,_,rfl,_,_,rfl,rfl,.inl ⟨by omega,by omega⟩,_,rfl,_,_,rfl,rfl,_,rfl,?_⟩
 by_cases c3:d*d<=n
 . refine cS c3 ?_
   have r1:=small_root n9 d3 c3
   have r2:=root_le d3 c3
   refine ⟨_,fun _ _ h=>h,?_⟩
   refine ⟨_,rfl,_,rfl,_,_,rfl,rfl,(show 0 < d by omega),rfl,_,rfl,?_⟩
   by_cases c4:n % d=0
   . refine cS (congrArg V.int c4) ?_
     exact q false ⟨fun z=>(nomatch z),fun z=>absurd z.2 (field_nod n9 d3 c3 c4)⟩
   refine bd (fun z=>c4 (V.int.inj z)) ?_
   refine ⟨_,rfl,_,_,rfl,rfl,?_⟩
   exact ⟨_,by omega,d+2,rfl,rfl,by omega,by omega,by omega,odd_next u d2 c4,rfl⟩
 . refine bd c3 ?_
   exact q true ⟨fun _=>⟨by omega,field_yes (by omega) c2 d3 u (by omega)⟩,fun _=>rfl⟩
abbrev s_ginit:Stmt:=bV s_game 0
abbrev s_gmix:Stmt:=bV s_game 1
abbrev s_gworth:Stmt:=bV s_game 2
abbrev s_gcoins:Stmt:=bV s_game 3
def gf (a b:Addr) (p:Int) (d:Addr):List (Str × V):=putF "degrees" (.ref d) (putF "field" (.int p) (putF "trees" (.ref b) (putF "switches" (.ref a) [])))
theorem gf_sw (a b:Addr) (p:Int) (d:Addr):(gf a b p d).lookup ("switches" : Str)=some (.ref a):=by
 unfold gf
 rw [aP,if_neg (by decide +kernel),aP,if_neg (by decide +kernel),aP,if_neg (by decide +kernel),aP,if_pos rfl]
theorem gf_tr (a b:Addr) (p:Int) (d:Addr):(gf a b p d).lookup ("trees" : Str)=some (.ref b):=by
 unfold gf
 rw [aP,if_neg (by decide +kernel),aP,if_neg (by decide +kernel),aP,if_pos rfl]
theorem gf_fi (a b:Addr) (p:Int) (d:Addr):(gf a b p d).lookup ("field" : Str)=some (.int p):=by
 unfold gf
 rw [aP,if_neg (by decide +kernel),aP,if_pos rfl]
theorem gf_de (a b:Addr) (p:Int) (d:Addr):(gf a b p d).lookup ("degrees" : Str)=some (.ref d):=by
 unfold gf
 rw [aP,if_pos rfl]
theorem gf_no (a b:Addr) (p:Int) (d:Addr) {m:Str} (h1:¬ m = "degrees") (h2:¬ m = "field") (h3:¬ m = "trees") (h4:¬ m = "switches"):(gf a b p d).lookup m=none:=by
 unfold gf
 rw [aP,if_neg h1,aP,if_neg h2,aP,if_neg h3,aP,if_neg h4]
 all_goals rfl
structure GTxt (K:W.Frag) (mg:Str->Option Value) (C:Addr):Prop where
 cl:Cls K C
 nS:NoAttr K C "switches"
 nT:NoAttr K C "trees"
 nF:NoAttr K C "field"
 nD:NoAttr K C "degrees"
 mgC:mg "Game" = some (.ref C)
theorem bestI_at (g:Nat->Int):∀ n,∃ k,k<=n/\dM g n=g k
 | 0=>⟨0,Nat.le_refl _,rfl⟩
 | n+1=>by
   obtain ⟨k,hk,e⟩:=bestI_at g n
   unfold dM
   split
   . exact ⟨n+1,Nat.le_refl _,rfl⟩
   . exact ⟨k,by omega,e⟩
theorem maxD_mem {ns:List Int} (h:ns ≠ []):maxD ns 0 ∈ ns:=by
 cases ns with
 | nil=>exact absurd rfl h
 | cons a r =>
   obtain ⟨k,hk,e⟩:=bestI_at (fun i=>(a::r)[i]?.getD 0) ((a::r).length - 1)
   have e1:maxD (a::r) 0=dM (fun i=>(a::r)[i]?.getD 0) ((a::r).length - 1):=rfl
   have hl:k < (a::r).length:=by
    rw [List.length_cons] at hk ⊢
    omega
   rw [e1,e]
   show (a::r)[k]?.getD 0 ∈ a::r
   rw [List.getElem?_eq_getElem hl]
   exact List.getElem_mem hl
def cP (ts:List Tr) (x:Str):Int:=maxD (ts.map fun t=>(t.names.count x:Int)) 0
theorem degOf_lt {ts:List Tr} {x:Str} {p:Int} (h0:ts ≠ []) (h:∀ t ∈ ts,(t.names.count x:Int) < p):cP ts x < p:=by
 have:=maxD_mem (ns:=ts.map fun t=>(t.names.count x:Int)) (by simpa using h0)
 obtain ⟨t,ht,e⟩:=List.mem_map.mp this
 unfold cP
 rw [← e]
 exact h t ht
def spDeg:Sp:=fun vs H Q _=>∃ (x:Str) (b:Addr) (tv:List V) (ts:List Tr),vs=[.str x,.ref b]/\H b=some (.tup tv)/\TreesAt H tv ts/\ts ≠ []/\ts.length<=10/\(∀ t ∈ ts,t.wf/\t.depth<=10/\t.size<=400)/\∀ H',Same H H'->Q (.int (cP ts x)) H'
theorem sc_degree_of:FnScope ["name", "trees"] ["name", "trees"] (af dI):=⟨rfl,rfl,rfl,by decide +kernel,rfl,by decide +kernel,by decide +kernel⟩
theorem ok_degree_of {f:Addr} {fd:FuncData} (F:Fun K "degree_of" "degree_of" dI f fd) (hmax:mg "max" = none) (C_names_in:Cal P w K mg base 12 "names_in" ["tree"] (spNamesIn 10)):FnOk P w K mg base CX0 13 f fd ["name", "trees"] spDeg:=by
 refine F.ok sc_degree_of (fun vs H Q E h=>?_) (fun cdv A outer s H vs Q E hr h=>?_)
 . obtain ⟨x,b,tv,ts,rfl,_⟩:=h
   rfl
 obtain ⟨x,b,tv,ts,rfl,hb,TS,t0,tl,tok,q⟩:=h
 refine ⟨_,(aj (aF (aJ (call_max1 rfl) rfl hmax PyProof.Rows.boot_max (aa (de (N:=["name"]) (ix:=[0]) rfl
  (CompScope.one (by with_unfolding_all rfl) (by decide) rfl (by decide) rfl (by decide +kernel) (by with_unfolding_all rfl) (by with_unfolding_all rfl) (by with_unfolding_all rfl) rfl rfl) rfl
  (pi_tup (pv 1)) (fun _ _ _=>dq (pe_bmK K PySem.F.plainAttrs_list PySem.F.slot_list_count PySem.F.type_list_count (mt_countK K) (aE C_names_in hr (by decide) rfl (aa (pv 0) ae)) (aa (pv 1) ae)))) ae)))),?_⟩
 have vl:=TS.length
 refine ⟨_,rfl,b,rfl,⟨_,SqT.of hb⟩,fun D hD=>?_⟩
 refine comp_tup (K:=K) (xs:=tv) (fun i H'=>H' D=some (.lst (((ts.take i).map fun t=>(t.names.count x:Int)).map V.int))/\Same H H') ⟨by rw [upd_same]; rfl,Same.new hD _⟩ (fun i H' _ h=>SqT.of (h.2 _ _ hb)) ?_ ?_
 . rintro i z H2 hz ⟨hl,S2⟩
   obtain ⟨t,ht,T⟩:=TS.get hz
   obtain ⟨tw,td,tz⟩:=tok t (List.mem_of_getElem? ht)
   have hi:i < tv.length:=(List.getElem?_eq_some_iff.mp hz).1
   refine ⟨_,rfl,z,t,rfl,T.mono (au S2),tw,by omega,tz,fun l H3 l0 S3 hl3=>?_⟩
   refine ⟨.inl ⟨rfl,_,SqL.of hl3⟩,_,rfl,l,_,_,rfl,rfl,SqL.of hl3,flat_strs _,rfl,?_⟩
   rw [count_strs]
   refine ⟨_,S3 _ _ hl,?_,Nx.of hi ⟨?_,fun b' o' e'=>?_⟩⟩
   . rw [List.length_map,List.length_map,List.length_take]
     exact aS (by omega)
   . rw [upd_same,List.take_add_one,ht,List.map_append,List.map_append]
     rfl
   . rw [ax (ai e' hD)]
     exact S3 _ _ (S2 _ _ e')
 . rintro H2 ⟨hl,S2⟩
   rw [vl,List.take_length] at hl
   exact ⟨D,_,rfl,SqL.of hl,by simpa using t0,q H2 S2⟩
def spLookS:Sp:=fun vs H Q _=>∃ (a:Addr) (ns:List Str),vs=[.ref a]/\H a=some (.tup (ns.map V.str))/\ns.Nodup/\ns.length<=10/\∀ H',Same H H'->Q .non H'
theorem in_strs (x:Str) (ns:List Str):inV (.str x) (ns.map V.str)=decide (x ∈ ns):=by
 unfold inV
 induction ns with
 | nil=>rfl
 | cons a r ih =>
   rw [List.map_cons,List.any_cons,ih]
   have e:eqV (.str a) (.str x)=decide (x=a):=by
    show (a == x)=_
    by_cases c:x=a
    . subst c; simp
    . rw [decide_eq_false c]; simpa using fun h=>c h.symm
   rw [e]
   by_cases c1:x=a <;> by_cases c2:x ∈ r <;> simp [c1,c2]
theorem sc_look_switches:FnScope ["switches", "place", "name"] ["switches"] (af cq):=⟨rfl,rfl,rfl,by decide +kernel,rfl,by decide +kernel,by decide +kernel⟩
theorem ok_look_switches {f:Addr} {fd:FuncData} (F:Fun K "look_switches" "look_switches" cq f fd) (henum:mg "enumerate" = none):FnOk P w K mg base CX0 1 f fd ["switches"] spLookS:=by
 refine F.ok sc_look_switches (fun vs H Q E h=>?_) (fun cdv A outer s H vs Q E hr h=>?_)
 . obtain ⟨a,ns,rfl,_⟩:=h
   rfl
 obtain ⟨a,ns,rfl,ha,nd,nl,q⟩:=h
 refine ⟨_,(aj (cG PassesOwn.never rfl (pi_enumT rfl henum (pv 0)) (pg_tup rfl (pgs_cons (bw (i:=1) sc_look_switches.nd rfl (Or.inl rfl)) (pgs_cons (bw (i:=2) sc_look_switches.nd rfl (Or.inl rfl)) pgs_nil)))
  (aj (aU (aB op_in_seq (pv 2) (dO sl_tup (pv 0) po_none (po_some (pv 1))) (by with_unfolding_all rfl)) cR aN)))),?_⟩
 refine ⟨_,rfl,a,rfl,⟨_,SqT.of ha⟩,for_enumT (K:=K) (xs:=ns.map V.str) (fun i σ H'=>∃ x1 x2:Option V,σ=[some (.ref a),x1,x2]/\Same H H') ⟨_,_,rfl,Same.refl _⟩ (fun i σ H' _ hst=>by obtain ⟨_,_,_,h⟩:=hst; exact SqT.of (h _ _ ha)) ?_ ?_⟩
 . rintro i z σ H1 t hz ⟨x1,x2,rfl,S1⟩ ht
   have hi:i < (ns.map V.str).length:=(List.getElem?_eq_some_iff.mp hz).1
   rw [List.getElem?_map] at hz
   obtain ⟨x,hx,rfl⟩:=Option.map_eq_some_iff.mp hz
   have G:=Same.new ht (.tup [.int (i:Int),.str x])
   have S2:=S1.trans G
   have hi':i < ns.length:=by rw [List.length_map] at hi; exact hi
   refine ⟨t,_,rfl,SqT.of upd_same,rfl,_,_,rfl,_,_,rfl,rfl,?_⟩
   refine ⟨_,rfl,_,rfl,_,rfl,(i:Int),rfl,a,_,rfl,SqT.of (S2 _ _ ha),?_,fun c hc=>?_⟩
   . rintro ⟨_,h⟩
     rw [HT.sIx_nat] at h
     omega
   . refine ⟨c,_,rfl,.inr (SqT.of upd_same),rfl,?_,_,rfl,?_⟩
     . have ec:cutV (ns.map V.str) none (some (i:Int))=(ns.take i).map V.str:=by
        unfold cutV
        rw [HT.sIx_none,HT.sIx_nat,List.drop_zero,Nat.sub_zero,List.map_take]
        congr 1
        omega
       rw [ec]
       exact flat_strs _
     . have ec:cutV (ns.map V.str) none (some (i:Int))=(ns.take i).map V.str:=by
        unfold cutV
        rw [HT.sIx_none,HT.sIx_nat,List.drop_zero,Nat.sub_zero,List.map_take]
        congr 1
        omega
       show if inV (.str x) (cutV (ns.map V.str) none (some (i:Int)))=true then _ else _
       rw [ec,in_strs,decide_eq_false ?_]
       . refine iteF ?_
         exact ⟨_,_,rfl,S2.trans (Same.new hc _)⟩
       . intro hm
         obtain ⟨j,hj,e⟩:=List.getElem_of_mem hm
         rw [List.length_take] at hj
         rw [List.getElem_take] at e
         have ex:ns[i]=x:=by
          rw [List.getElem?_eq_getElem hi'] at hx
          exact Option.some.inj hx
         exact List.pairwise_iff_getElem.mp nd j i (by omega) hi' (by omega) (e.trans ex.symm)
 . rintro σ H1 ⟨x1,x2,rfl,S1⟩
   exact q H1 S1
theorem names_ok {ns:List Str}:∀ t:Tr,t.ok ns->∀ x ∈ t.names,x ∈ ns
 | .is y,h,x,hx=>by rw [List.mem_singleton.mp hx]; exact h
 | .yes,_,x,hx=>by cases hx
 | .no,_,x,hx=>by cases hx
 | .not a,h,x,hx=>names_ok a h x hx
 | .bin _ a b,⟨_,h1,h2⟩,x,hx=>by
   rcases List.mem_append.mp hx with h | h
   . exact names_ok a h1 x h
   . exact names_ok b h2 x h
def spLookN:Sp:=fun vs H Q _=>∃ (a b:Addr) (ns:List Str) (tv:List V) (ts:List Tr),vs=[.ref b,.ref a]/\H a=some (.tup (ns.map V.str))/\H b=some (.tup tv)/\TreesAt H tv ts/\(∀ t ∈ ts,t.ok ns/\t.wf/\t.depth<=10/\t.size<=400)/\∀ H',Same H H'->Q .non H'
theorem sc_look_names:FnScope ["trees", "switches", "tree", "name"] ["trees", "switches"] (af cY):=⟨rfl,rfl,rfl,by decide +kernel,rfl,by decide +kernel,by decide +kernel⟩
theorem ok_look_names {f:Addr} {fd:FuncData} (F:Fun K "look_names" "look_names" cY f fd) (C_names_in:Cal P w K mg base 12 "names_in" ["tree"] (spNamesIn 10)):FnOk P w K mg base CX0 13 f fd ["trees", "switches"] spLookN:=by
 refine F.ok sc_look_names (fun vs H Q E h=>?_) (fun cdv A outer s H vs Q E hr h=>?_)
 . obtain ⟨a,b,ns,tv,ts,rfl,_⟩:=h
   rfl
 obtain ⟨a,b,ns,tv,ts,rfl,ha,hb,TS,tok,q⟩:=h
 refine ⟨_,(aj (cG PassesOwn.never rfl (pi_tup (pv 0)) (bw (i:=2) sc_look_names.nd rfl (Or.inl rfl))
  (aj (cG PassesOwn.never rfl (pi_list (aE C_names_in hr (by decide) rfl (aa (pv 2) ae))) (bw (i:=3) sc_look_names.nd rfl (Or.inl rfl))
   (aj (aU (aB op_notIn_seq (pv 3) (pv 1) (by with_unfolding_all rfl)) cR aN)))))),?_⟩
 refine ⟨_,rfl,b,rfl,⟨_,SqT.of hb⟩,for_tup (K:=K) (xs:=tv) (fun i σ H'=>∃ x2 x3:Option V,σ=[some (.ref b),some (.ref a),x2,x3]/\Same H H') ⟨_,_,rfl,Same.refl _⟩ (fun i σ H' _ hst=>by obtain ⟨_,_,_,h⟩:=hst; exact SqT.of (h _ _ hb)) ?_ ?_⟩
 . rintro i z σ H1 hz ⟨x2,x3,rfl,S1⟩
   obtain ⟨t,ht,T⟩:=TS.get hz
   obtain ⟨tk,tw,td,tz⟩:=tok t (List.mem_of_getElem? ht)
   refine ⟨_,rfl,z,t,rfl,T.mono (au S1),tw,by omega,tz,fun l H2 l0 S2 hl=>?_⟩
   have S12:=S1.trans S2
   refine ⟨l,rfl,⟨_,SqL.of hl⟩,for_list (K:=K) (xs:=t.names.map V.str) (fun j σ H'=>∃ x3:Option V,σ=[some (.ref b),some (.ref a),some z,x3]/\H'=H2) ⟨_,rfl,rfl⟩ (fun j σ H' _ hst=>by obtain ⟨_,_,h⟩:=hst; subst h; exact SqL.of hl) ?_ ?_⟩
   . rintro j y σ H3 hy ⟨y3,rfl,rfl⟩
     rw [List.getElem?_map] at hy
     obtain ⟨x,hx,rfl⟩:=Option.map_eq_some_iff.mp hy
     refine ⟨_,rfl,_,rfl,a,_,rfl,.inr (SqT.of (S12 _ _ ha)),rfl,flat_strs _,_,rfl,?_⟩
     show if (!inV (.str x) (ns.map V.str))=true then _ else _
     rw [in_strs,decide_eq_true (names_ok t tk x (List.mem_of_getElem? hx))]
     refine iteF ?_
     exact ⟨_,rfl,rfl⟩
   . rintro σ H3 ⟨y3,rfl,rfl⟩
     exact ⟨_,_,rfl,S12⟩
 . rintro σ H1 ⟨x2,x3,rfl,S1⟩
   exact q H1 S1
def spLookF:Sp:=fun vs H Q _=>∃ p:Int,vs=[.int p]/\Pr p/\2 < p/\p<=999983/\Q .non H
theorem sc_look_field:FnScope ["field"] ["field"] (af cZ):=⟨rfl,rfl,rfl,by decide +kernel,rfl,by decide +kernel,by decide +kernel⟩
theorem ok_look_field {f:Addr} {fd:FuncData} (F:Fun K "look_field" "look_field" cZ f fd) (hend:∃ t,mg "FIELDS_END" = some (.int 1000000 t)) (C_is_field:Cal P w K mg base 1 "is_field" ["number"] spField):FnOk P w K mg base CX0 2 f fd ["field"] spLookF:=by
 refine F.ok sc_look_field (fun vs H Q E h=>?_) (fun cdv A outer s H vs Q E hr h=>?_)
 . obtain ⟨p,rfl,_⟩:=h
   rfl
 obtain ⟨p,rfl,pp,p2,p9,q⟩:=h
 obtain ⟨te,ge⟩:=hend
 refine ⟨_,(aj (aU (PW.pt (pw_or (aB op_ge (pv 0) (pe_glob (v:=.int 1000000) rfl ge ⟨_,rfl⟩) (aI _)) (pw_or1 (pt_not (pt_val (aE C_is_field hr (by decide) rfl (aa (pv 0) ae))))))) cR aN)),?_⟩
 refine ⟨_,rfl,_,_,rfl,rfl,_,rfl,?_⟩
 refine bd (by omega) ?_
 refine ⟨_,rfl,p,rfl,by omega,fun b hb=>⟨b,rfl,?_⟩⟩
 rw [hb.mpr ⟨p2,pp⟩]
 exact iteF q
def spLookZ:Sp:=fun vs H Q _=>∃ (p:Int) (d:Addr) (ns:List Int),vs=[.int p,.ref d]/\H d=some (.lst (ns.map V.int))/\ns ≠ []/\(∀ n ∈ ns,n < p)/\Q .non H
theorem sc_look_size:FnScope ["field", "degrees", "greatest"] ["field", "degrees"] (af dF):=⟨rfl,rfl,rfl,by decide +kernel,rfl,by decide +kernel,by decide +kernel⟩
theorem ok_look_size {f:Addr} {fd:FuncData} (F:Fun K "look_size" "look_size" dF f fd) (hmax:mg "max" = none):FnOk P w K mg base CX0 1 f fd ["field", "degrees"] spLookZ:=by
 refine F.ok sc_look_size (fun vs H Q E h=>?_) (fun cdv A outer s H vs Q E hr h=>?_)
 . obtain ⟨p,d,ns,rfl,_⟩:=h
   rfl
 obtain ⟨p,d,ns,rfl,hd,n0,nl,q⟩:=h
 refine ⟨_,(ad (aq (i:=2) sc_look_size.nd rfl (Or.inl rfl) (aJ (call_max1 rfl) rfl hmax PyProof.Rows.boot_max (aa (pv 1) ae)))
  (aj (aU (aB op_le (pv 0) (pv 2) (aI _)) cR aN))),?_⟩
 refine ⟨_,rfl,d,ns,rfl,SqL.of hd,n0,?_⟩
 refine ⟨_,rfl,_,rfl,_,_,rfl,rfl,_,rfl,?_⟩
 have:=nl _ (maxD_mem n0)
 exact bd (by omega) q
theorem putF_len (f:Str) (v:V):∀ fs:List (Str × V),(putF f v fs).length<=fs.length+1
 | []=>Nat.le_refl _
 | (g,u)::r=>by
   have:=putF_len f v r
   unfold putF
   split
   . simp
   . simp only [List.length_cons]
     omega
def gf3 (a b:Addr) (p:Int):List (Str × V):=putF "field" (.int p) (putF "trees" (.ref b) (putF "switches" (.ref a) []))
theorem gf3_sw (a b:Addr) (p:Int):(gf3 a b p).lookup ("switches" : Str)=some (.ref a):=by
 unfold gf3
 rw [aP,if_neg (by decide +kernel),aP,if_neg (by decide +kernel),aP,if_pos rfl]
theorem gf3_tr (a b:Addr) (p:Int):(gf3 a b p).lookup ("trees" : Str)=some (.ref b):=by
 unfold gf3
 rw [aP,if_neg (by decide +kernel),aP,if_pos rfl]
def GameAt (C:Addr) (H:Hp) (g a b d:Addr) (p:Int):Prop:=∃ dx,H g=some (.ins C dx (gf a b p d))
theorem GameAt.same {C:Addr} {H H':Hp} {g a b d:Addr} {p:Int} (h:GameAt C H g a b d p) (s:Same H H'):GameAt C H' g a b d p:=by
 obtain ⟨dx,e⟩:=h
 exact ⟨dx,s _ _ e⟩
def spGInit (C:Addr):Sp:=fun vs H Q _=>∃ (g dx a b:Addr) (ns:List Str) (tv:List V) (ts:List Tr) (p:Int),vs=[.ref g,.ref a,.ref b,.int p]/\H g=some (.ins C dx [])/\H a=some (.tup (ns.map V.str))/\ns.Nodup/\ns.length<=10/\H b=some (.tup tv)/\TreesAt H tv ts/\1<=ts.length/\ts.length<=10 /\
 (∀ t ∈ ts,t.ok ns/\t.wf/\t.depth<=10/\t.size<=400)/\Pr p/\2 < p/\p<=999983/\(ts.length:Int)<=p/\(∀ t ∈ ts,∀ x ∈ ns,(t.names.count x:Int) < p) /\
 ∀ (d:Addr) (H':Hp),H d=none->GameAt C H' g a b d p->H' d=some (.lst ((ns.map (cP ts)).map V.int))->SameBut g H H'->Q .non H'
theorem sc_ginit:FnScope ["self", "switches", "trees", "field"] ["self", "switches", "trees", "field"] (af s_ginit):=⟨rfl,rfl,rfl,by decide +kernel,rfl,by decide +kernel,by decide +kernel⟩
theorem ok_ginit {f C:Addr} {fd:FuncData} (F:Fun K "__init__" "Game.__init__" s_ginit f fd) (T:GTxt K mg C) (htuple:mg "tuple" = none) (hlen:mg "len" = none) (C_degree_of:Cal P w K mg base 13 "degree_of" ["name", "trees"] spDeg) (C_look_switches:Cal P w K mg base 1 "look_switches" ["switches"] spLookS)
 (C_look_names:Cal P w K mg base 13 "look_names" ["trees", "switches"] spLookN) (C_look_field:Cal P w K mg base 2 "look_field" ["field"] spLookF) (C_look_size:Cal P w K mg base 1 "look_size" ["field", "degrees"] spLookZ):FnOk P w K mg base CX0 14 f fd ["self", "switches", "trees", "field"] (spGInit C):=by
 refine F.ok sc_ginit (fun vs H Q E h=>?_) (fun cdv A outer s H vs Q E hr h=>?_)
 . obtain ⟨g,dx,a,b,ns,tv,ts,p,rfl,_⟩:=h
   rfl
 obtain ⟨g,dx,a,b,ns,tv,ts,p,rfl,hg,ha,nd,nl,hb,TS,t1,t10,tok,pp,p2,p9,tp,tc,q⟩:=h
 refine ⟨_,(ad (aQ (pv 0) (bN bE rfl htuple bZ (aa (pv 1) ae)) rfl)
  (ad (aQ (pv 0) (bN bE rfl htuple bZ (aa (pv 2) ae)) rfl)
  (ad (aQ (pv 0) (pv 3) rfl)
  (ad (aQ (pv 0) (de (N:=["self"]) (ix:=[0]) rfl
   (CompScope.one (by with_unfolding_all rfl) (by decide) rfl (by decide) rfl (by decide +kernel) (by with_unfolding_all rfl) (by with_unfolding_all rfl) (by with_unfolding_all rfl) rfl rfl) rfl
   (pi_tup (aG (pv 0) rfl)) (fun _ _ _=>dq (aE C_degree_of hr (by decide) rfl (aa (pv 0) (aa (pe_fldK K (pv 1)) ae))))) rfl)
  (ad (bP (aE C_look_switches hr (by decide) rfl (aa (aG (pv 0) rfl) ae)))
  (ad (bP (aE C_look_names hr (by decide) rfl (aa (aG (pv 0) rfl) (aa (aG (pv 0) rfl) ae))))
  (ad (bP (aE C_look_field hr (by decide) rfl (aa (pv 3) ae)))
  (aj (bP (aE C_look_size hr (by decide) rfl (aa (pv 3) (aa (ao op_cat (aG (pv 0) rfl) (cH (aa (ao bq (aJ aD rfl hlen PySem.boot_len (aa (aG (pv 0) rfl) ae)) ag) ae))) ae)))))))))))),?_⟩
 have nag:a ≠ g:=ne_of ha hg (by intro z; cases z)
 have nbg:b ≠ g:=ne_of hb hg (by intro z; cases z)
 have vl:=TS.length
 refine ⟨_,rfl,a,_,rfl,.inr ⟨SqT.of ha,_,rfl,g,C,dx,[],rfl,hg,T.cl,T.nS,(by show 0 < 1000; decide),?_⟩⟩
 refine ⟨_,rfl,b,_,rfl,.inr ⟨SqT.of (by rw [ax nbg]; exact hb),_,rfl,g,C,dx,_,rfl,upd_same,T.cl,T.nT,(Nat.lt_of_le_of_lt (putF_len _ _ _) (by show 1 < 1000; decide)),?_⟩⟩
 refine ⟨_,rfl,_,rfl,g,C,dx,_,rfl,upd_same,T.cl,T.nF,(Nat.lt_of_le_of_lt (putF_len _ _ _) (Nat.lt_of_le_of_lt (Nat.succ_le_succ (putF_len _ _ _)) (by show 2 < 1000; decide))),?_⟩
 have S3:SameBut g H (upd (upd (upd H g (.ins C dx (putF "switches" (.ref a) []))) g (.ins C dx (putF "trees" (.ref b) (putF "switches" (.ref a) [])))) g (.ins C dx (putF "field" (.int p) (putF "trees" (.ref b) (putF "switches" (.ref a) []))))) :=
  (SameBut.upd _).trans ((SameBut.upd _).trans (SameBut.upd _))
 have hg3:upd (upd (upd H g (.ins C dx (putF "switches" (.ref a) []))) g (.ins C dx (putF "trees" (.ref b) (putF "switches" (.ref a) [])))) g (.ins C dx (putF "field" (.int p) (putF "trees" (.ref b) (putF "switches" (.ref a) [])))) g=some (.ins C dx (gf3 a b p)):=upd_same
 generalize upd (upd (upd H g (.ins C dx (putF "switches" (.ref a) []))) g (.ins C dx (putF "trees" (.ref b) (putF "switches" (.ref a) [])))) g (.ins C dx (putF "field" (.int p) (putF "trees" (.ref b) (putF "switches" (.ref a) []))))=H3 at S3 hg3
 have kT:cX H H3:=fun c xs h=>S3 c _ (ne_of h hg (by intro z; cases z)) h
 have ha3:=kT _ _ ha
 have hb3:=kT _ _ hb
 have TS3:=TS.mono kT
 refine ⟨_,rfl,g,C,dx,_,_,rfl,hg3,T.cl,T.nS,gf3_sw ..,a,rfl,⟨_,SqT.of ha3⟩,fun D hD=>?_⟩
 have D0:H D=none:=by
  cases e:H D with
  | none=>rfl
  | some o =>
    by_cases c:D=g
    . rw [c,hg3] at hD; cases hD
    . rw [S3 D o c e] at hD; cases hD
 refine comp_tup (K:=K) (xs:=ns.map V.str) (fun i H'=>H' D=some (.lst (((ns.take i).map (cP ts)).map V.int))/\Same H3 H') ⟨by rw [upd_same]; rfl,Same.new hD _⟩ (fun i H' _ h=>SqT.of (h.2 _ _ ha3)) ?_ ?_
 . rintro i z H4 hz ⟨hl,S4⟩
   have hi:i < (ns.map V.str).length:=(List.getElem?_eq_some_iff.mp hz).1
   rw [List.getElem?_map] at hz
   obtain ⟨x,hx,rfl⟩:=Option.map_eq_some_iff.mp hz
   refine ⟨_,rfl,_,rfl,g,C,dx,_,_,rfl,S4 _ _ hg3,T.cl,T.nT,gf3_tr ..,x,b,tv,ts,rfl,S4 _ _ hb3,TS3.mono (au S4),?_,t10,fun t ht=>(tok t ht).2,fun H5 S5=>?_⟩
   . intro e
     rw [e] at t1
     exact absurd t1 (by decide)
   refine ⟨_,S5 _ _ hl,?_,Nx.of hi ⟨?_,fun b' o' e'=>?_⟩⟩
   . rw [List.length_map,List.length_map,List.length_take]
     exact aS (by omega)
   . rw [upd_same,List.take_add_one,hx,List.map_append,List.map_append]
     rfl
   . rw [ax (ai e' hD)]
     exact S5 _ _ (S4 _ _ e')
 rintro H4 ⟨hl,S4⟩
 rw [List.length_map,List.take_length] at hl
 refine ⟨_,rfl,g,C,dx,_,rfl,S4 _ _ hg3,T.cl,T.nD,?_,?_⟩
 . exact Nat.lt_of_le_of_lt (Nat.le_trans (putF_len _ _ _) (Nat.succ_le_succ (Nat.le_trans (putF_len _ _ _) (Nat.succ_le_succ (putF_len _ _ _))))) (by show 3 < 1000; decide)
 have nDg:D ≠ g:=fun z=>by rw [z,hg3] at hD; cases hD
 have hg5:upd H4 g (.ins C dx (gf a b p D)) g=some (.ins C dx (gf a b p D)):=upd_same
 have S5:SameBut g H (upd H4 g (.ins C dx (gf a b p D))):=S3.trans ((SameBut.of S4).trans (SameBut.upd _))
 have hD5:upd H4 g (.ins C dx (gf a b p D)) D=some (.lst ((ns.map (cP ts)).map V.int)):=by rw [ax nDg]; exact hl
 show _
 generalize he5:upd H4 g (.ins C dx (gf a b p D))=H5 at hg5 S5 hD5
 have kT5:cX H H5:=fun c xs h=>S5 c _ (ne_of h hg (by intro z; cases z)) h
 rw [show upd H4 g (.ins C dx (putF "degrees" (.ref D) (gf3 a b p)))=H5 from he5]
 refine ⟨_,rfl,g,C,dx,_,_,rfl,hg5,T.cl,T.nS,gf_sw ..,a,ns,rfl,kT5 _ _ ha,nd,nl,fun H6 S6=>?_⟩
 have kT6:cX H H6:=fun c xs h=>S6 _ _ (kT5 c xs h)
 refine ⟨_,rfl,g,C,dx,_,_,rfl,S6 _ _ hg5,T.cl,T.nT,gf_tr ..,_,rfl,g,C,dx,_,_,rfl,S6 _ _ hg5,T.cl,T.nS,gf_sw ..,a,b,ns,tv,ts,rfl,kT6 _ _ ha,kT6 _ _ hb,TS.mono kT6,tok,fun H7 S7=>?_⟩
 have S57:=S6.trans S7
 refine ⟨_,rfl,p,rfl,pp,p2,p9,?_⟩
 refine ⟨_,rfl,_,rfl,g,C,dx,_,_,rfl,S57 _ _ hg5,T.cl,T.nD,gf_de ..,_,rfl,g,C,dx,_,_,rfl,S57 _ _ hg5,T.cl,T.nT,gf_tr ..,b,_,rfl,.inr (SqT.of (S57 _ _ (kT5 _ _ hb))),_,_,rfl,rfl,(by show 1<=sizeLine; decide),fun l hl2=>?_⟩
 have Gl:=Same.new hl2 (.lst [.int ((tv.length:Int) - 1)])
 refine ⟨D,l,_,_,rfl,rfl,Gl _ _ (S57 _ _ hD5),upd_same,?_,fun r hr0=>?_⟩
 . rw [List.length_map,List.length_map]
   exact dN (by simp; omega)
 have Gr:=Same.new hr0 (.lst ((ns.map (cP ts)).map V.int++[.int ((tv.length:Int) - 1)]))
 refine ⟨p,r,ns.map (cP ts)++[(tv.length:Int) - 1],rfl,?_,by simp,fun n hn=>?_,?_⟩
 . rw [upd_same,List.map_append]
   rfl
 . rcases List.mem_append.mp hn with h | h
   . obtain ⟨x,hx,rfl⟩:=List.mem_map.mp h
     refine degOf_lt ?_ fun t ht=>tc t ht x hx
     intro e
     rw [e] at t1
     exact absurd t1 (by decide)
   . rw [List.mem_singleton.mp h]
     omega
 . have S59:=S57.trans (Gl.trans Gr)
   exact q D _ D0 ⟨dx,S59 _ _ hg5⟩ (S59 _ _ hD5) (S5.trans (SameBut.of S59))
def spInv:Sp:=fun vs H Q _=>∃ a p:Int,vs=[.int a,.int p]/\Pr p/\p<=999983/\0 < a/\a < p/\∀ g:Int,0 < g->g < p->g*a % p=1->Q (.int g) H
theorem sc_inverse_of:FnScope ["a", "p", "former", "former_factor", "rest", "factor", "times", "lesser", "lesser_factor"] ["a", "p"] (af db):=⟨rfl,rfl,rfl,by decide +kernel,rfl,by decide +kernel,by decide +kernel⟩
theorem ok_inverse_of {f:Addr} {fd:FuncData} (F:Fun K "inverse_of" "inverse_of" db f fd):FnOk P w K mg base CX0 1 f fd ["a", "p"] spInv:=by
 refine F.ok sc_inverse_of (fun vs H Q E h=>?_) (fun cdv A outer s H vs Q E hr h=>?_)
 . obtain ⟨a,p,rfl,_⟩:=h
   rfl
 obtain ⟨a,p,rfl,pr,p1,a0,a1,q⟩:=h
 have p2:2<=p:=pr.1
 refine ⟨_,(ad (aq (i:=2) sc_inverse_of.nd rfl (Or.inl rfl) (pv 1))
  (ad (aq (i:=3) sc_inverse_of.nd rfl (Or.inl rfl) ag)
  (ad (aq (i:=4) sc_inverse_of.nd rfl (Or.inl rfl) (ao bb (pv 0) (pv 1)))
  (ad (aq (i:=5) sc_inverse_of.nd rfl (Or.inl rfl) ag)
  (ad (ps_while PassesOwn.never (aB op_ne (pv 4) ag (aI _)) (ad (aq (i:=6) sc_inverse_of.nd rfl (Or.inl rfl) (ao op_fdiv (pv 2) (pv 4)))
   (ad (aq (i:=7) sc_inverse_of.nd rfl (Or.inl rfl) (ao bq (pv 2) (ao bO (pv 6) (pv 4))))
   (ad (aq (i:=8) sc_inverse_of.nd rfl (Or.inl rfl) (ao bb (ao bq (pv 3) (ao bO (pv 6) (pv 5))) (pv 1)))
   (ad (aq (i:=2) sc_inverse_of.nd rfl (Or.inl rfl) (pv 4))
   (ad (aq (i:=3) sc_inverse_of.nd rfl (Or.inl rfl) (pv 5))
   (ad (aq (i:=4) sc_inverse_of.nd rfl (Or.inl rfl) (pv 7))
   (aj (aq (i:=5) sc_inverse_of.nd rfl (Or.inl rfl) (pv 8))))))))))
  (aj (aF (pv 5)))))))),?_⟩
 refine ⟨_,rfl,?_⟩
 refine ⟨_,rfl,_,rfl,_,_,rfl,rfl,(show 0 < p by omega),?_⟩
 refine ⟨fun m σ H'=>∃ (former ff rest g:Int) (x6 x7 x8:Option V),σ=[some (.int a),some (.int p),some (.int former),some (.int ff),some (.int rest),some (.int g),x6,x7,x8]/\H'=H/\Eu a p former ff rest g/\m=rest.toNat,
  ⟨_,_,_,_,_,_,_,_,rfl,rfl,eu_start pr (by omega) a0 a1,rfl⟩,?_⟩
 rintro m σ H' ⟨former,ff,rest,g,x6,x7,x8,rfl,rfl,eu,rfl⟩
 refine ⟨_,rfl,rfl,_,rfl,?_⟩
 by_cases c:rest=1
 . refine iteNS (congrArg V.int c) ?_
   obtain ⟨g0,g1,g2⟩:=eu_end eu c (by omega)
   exact ⟨_,rfl,q g g0 g1 g2⟩
 . refine iteN (fun z=>c (V.int.inj z)) ?_
   refine ⟨_,fun _ _ h=>h,?_⟩
   have r0:=eu.r0
   have rp:=eu.rp
   have f0:=eu.f0
   have f1:=eu.f1
   obtain ⟨nx,lt⟩:=eu_next eu c
   refine ⟨_,rfl,_,rfl,_,_,rfl,rfl,⟨r0,by omega⟩,?_⟩
   refine ⟨_,rfl,_,rfl,_,rfl,_,_,rfl,rfl,.inr ⟨by omega,by omega⟩,_,_,rfl,rfl,?_⟩
   refine ⟨_,rfl,_,rfl,_,rfl,_,_,rfl,rfl,.inr ⟨by omega,by omega⟩,_,_,rfl,rfl,_,rfl,_,_,rfl,rfl,(show 0 < p by omega),?_⟩
   refine ⟨_,rfl,_,rfl,_,rfl,_,rfl,?_⟩
   exact ⟨_,lt,_,_,_,_,_,_,_,rfl,rfl,nx,rfl⟩
theorem md {p x y:Int} (h:p ∣ x - y):x % p=y % p:=by
 obtain ⟨k,hk⟩:=h
 have:x=y+p*k:=by omega
 rw [this,Int.add_mul_emod_self_left]
theorem dm (p x:Int):p ∣ x % p - x:=⟨-(x / p),by
 have:=Int.emod_add_mul_ediv x p
 rw [Int.mul_neg]
 omega⟩
def pmd (p:Int) (g:Nat->Int):Nat->Int
 | 0=>1
 | k+1=>pmd p g k*g k % p
theorem pmd_dvd (p:Int) (g:Nat->Int):∀ k,p ∣ pmd p g k - pr g k
 | 0=>⟨0,by simp [pmd,pr]⟩
 | k+1=>by
   obtain ⟨a,ha⟩:=pmd_dvd p g k
   obtain ⟨b,hb⟩:=dm p (pmd p g k*g k)
   exact ⟨b+a*g k,by show pmd p g k*g k % p - pr g k*g k=_; grind⟩
theorem pmd_rng {p:Int} (hp:1 < p) (g:Nat->Int):∀ k,0<=pmd p g k/\pmd p g k < p
 | 0=>⟨by show (0:Int)<=1; decide,hp⟩
 | k+1=>⟨Int.emod_nonneg _ (by omega),Int.emod_lt_of_pos _ (by omega)⟩
def prL (p:Int) (g:Nat->Int) (n:Nat):List V:=((List.range n).map (pmd p g)).map V.int
theorem prL_succ (p:Int) (g:Nat->Int) (n:Nat):prL p g (n+1)=prL p g n++[.int (pmd p g n)]:=by
 unfold prL
 rw [List.range_succ,List.map_append,List.map_append]
 rfl
theorem prL_len (p:Int) (g:Nat->Int) (n:Nat):(prL p g n).length=n:=by
 unfold prL
 rw [List.length_map,List.length_map,List.length_range]
theorem map_at {f:Nat->Int} {n k:Nat} (h:k < n):atI (((List.range n).map f).map V.int) (k:Int)=some (.int (f k)):=by
 refine cL ?_
 rw [List.getElem?_map,List.getElem?_map,List.getElem?_range h]
 rfl
theorem prL_at {p:Int} {g:Nat->Int} {n k:Nat} (h:k < n):atI (prL p g n) (k:Int)=some (.int (pmd p g k)):=map_at h
def spProd:Sp:=fun vs H Q _=>∃ (a:Addr) (g:Nat->Int) (n:Nat) (p:Int),vs=[.ref a,.int p]/\H a=some (.lst (((List.range n).map g).map V.int))/\n<=500/\1 < p/\p < 2 ^ 40/\∀ (l:Addr) (H':Hp),H l=none->Same H H'->H' l=some (.lst (prL p g (n+1)))->Q (.ref l) H'
theorem sc_products:FnScope ["numbers", "p", "told", "number"] ["numbers", "p"] (af s_products):=⟨rfl,rfl,rfl,by decide +kernel,rfl,by decide +kernel,by decide +kernel⟩
theorem ok_products {f:Addr} {fd:FuncData} (F:Fun K "products" "products" s_products f fd):FnOk P w K mg base CX0 1 f fd ["numbers", "p"] spProd:=by
 refine F.ok sc_products (fun vs H Q E h=>?_) (fun cdv A outer s H vs Q E hr h=>?_)
 . obtain ⟨a,g,n,p,rfl,_⟩:=h
   rfl
 obtain ⟨a,g,n,p,rfl,ha,n5,p1,p40,q⟩:=h
 refine ⟨_,(ad (aq (i:=2) sc_products.nd rfl (Or.inl rfl) (cH (aa ag ae)))
  (ad (cG PassesOwn.never rfl (pi_list (pv 0)) (bw (i:=3) sc_products.nd rfl (Or.inl rfl)) (aj (bP (pe_bm PySem.F.plainAttrs_list PySem.F.slot_list_append PySem.F.type_list_append mt_append (pv 2) (aa (ao bb (ao bO (aR ix_list (pv 2) (pe_un un_neg ag) (fun _ _=>rfl)) (pv 3)) (pv 1)) ae)))))
  (aj (aF (pv 2))))),?_⟩
 refine ⟨(by show 1<=sizeLine; decide),fun L hL=>?_⟩
 have aL:a ≠ L:=ai ha hL
 refine ⟨_,rfl,a,rfl,⟨_,SqL.of ((Same.new hL _) _ _ ha)⟩,for_list (K:=K) (xs:=((List.range n).map g).map V.int) (fun i σ H'=>∃ x3:Option V,σ=[some (.ref a),some (.int p),some (.ref L),x3]/\H' L=some (.lst (prL p g (i+1)))/\SameBut L H H')
  ⟨_,rfl,by rw [upd_same]; rfl,SameBut.upd _⟩ (fun i σ H' _ hst=>by obtain ⟨_,_,_,h⟩:=hst; exact SqL.of (h _ _ aL ha)) ?_ ?_⟩
 . rintro i z σ H1 hz ⟨x3,rfl,hL1,S1⟩
   have hi:=(List.getElem?_eq_some_iff.mp hz).1
   rw [List.length_map,List.length_map,List.length_range] at hi
   rw [List.getElem?_map,List.getElem?_map,List.getElem?_range hi] at hz
   obtain rfl:V.int (g i)=z:=Option.some.inj hz
   have rg:=pmd_rng p1 g i
   refine ⟨_,rfl,.inl ⟨rfl,_,SqL.of hL1⟩,?_⟩
   refine ⟨_,rfl,_,rfl,L,_,_,.int (pmd p g i),rfl,rfl,SqL.of hL1,?_,_,rfl,_,_,rfl,rfl,.inl ⟨by omega,by omega⟩,_,rfl,_,_,rfl,rfl,(by omega),L,_,_,rfl,rfl,hL1,?_,?_⟩
   . rw [prL_succ]
     exact atI_last _ _
   . rw [prL_len]
     exact aS (by omega)
   . refine ⟨_,rfl,?_,fun c o hc e=>?_⟩
     . rw [upd_same,prL_succ p g (i+1)]
       rfl
     . rw [ax hc]
       exact S1 c o hc e
 . rintro σ H1 ⟨x3,rfl,hL1,S1⟩
   rw [List.length_map,List.length_map,List.length_range] at hL1
   exact ⟨_,rfl,q L H1 hL (fun b o e=>S1 b o (ai e hL) e) hL1⟩
theorem pr_fac:∀ n:Nat,pr (fun k=>1+(k:Int)) n=fac n
 | 0=>rfl
 | n+1=>by
   show pr (fun k=>1+(k:Int)) n*(1+(n:Int))=fac n*((n:Int)+1)
   rw [pr_fac n,Int.add_comm]
theorem share_ok {p g a t s:Int} {k m:Nat} (hg:g*a % p=1) (p1:1 < p) (ha:p ∣ a - fac (k+m)) (ht:p ∣ t - pr (fun j=>((k+m:Nat):Int) - j) m) (hs:p ∣ s - g*t):p ∣ s*fac k - 1:=by
 have f:=fac_part m k
 obtain ⟨x,hx⟩:=ha
 obtain ⟨y,hy⟩:=ht
 obtain ⟨z,hz⟩:=hs
 obtain ⟨e,he⟩:=dm p (g*a)
 rw [hg] at he
 exact ⟨z*fac k+g*y*fac k - g*x - e,by grind⟩
def spFacs:Sp:=fun vs H Q _=>∃ (L:Nat) (p:Int),vs=[.int (L:Int),.int p]/\L<=500/\(L:Int) < p/\Pr p/\p<=999983/\∀ (l:Addr) (H':Hp) (sh:Nat->Int),H l=none->Same H H'->(∀ k,k<=L->p ∣ sh k*fac k - 1)->(∀ k,0<=sh k/\sh k < p)->H' l=some (.lst (((List.range (L+1)).map sh).map V.int))->Q (.ref l) H'
theorem sc_inverse_factorials:FnScope ["last", "p", "numbers", "whole", "told"] ["last", "p"] (af bu):=⟨rfl,rfl,rfl,by decide +kernel,rfl,by decide +kernel,by decide +kernel⟩
theorem ok_inverse_factorials {f:Addr} {fd:FuncData} (F:Fun K "inverse_factorials" "inverse_factorials" bu f fd) (B:Bl mg) (C_products:Cal P w K mg base 1 "products" ["numbers", "p"] spProd) (C_inverse_of:Cal P w K mg base 1 "inverse_of" ["a", "p"] spInv):FnOk P w K mg base CX0 2 f fd ["last", "p"] spFacs:=by
 refine F.ok sc_inverse_factorials (fun vs H Q E h=>?_) (fun cdv A outer s H vs Q E hr h=>?_)
 . obtain ⟨L,p,rfl,_⟩:=h
   rfl
 obtain ⟨L,p,rfl,L5,Lp,pp,p9,q⟩:=h
 refine ⟨_,(ad (aq (i:=2) sc_inverse_factorials.nd rfl (Or.inl rfl) (pe_listrng rfl rfl B.list rfl B.range (aa ag (aa (ao aX (pv 0) ag) ae))))
  (ad (aq (i:=3) sc_inverse_factorials.nd rfl (Or.inr rfl) (aE C_inverse_of hr (by decide) rfl (aa (aR ix_list (aE C_products hr (by decide) rfl (aa (pv 2) (aa (pv 1) ae))) (pe_un un_neg ag) (fun _ _=>rfl)) (aa (pv 1) ae))))
  (ad (aq (i:=4) sc_inverse_factorials.nd rfl (Or.inr rfl) (aE C_products hr (by decide) rfl (aa (de (N:=["last"]) (ix:=[0]) rfl
   (CompScope.one (by with_unfolding_all rfl) (by decide) rfl (by decide) rfl (by decide +kernel) (by with_unfolding_all rfl) (by with_unfolding_all rfl) (by with_unfolding_all rfl) rfl rfl) rfl
   (bL rfl B.range (aa (pv 0) ae)) (fun _ _ _=>dq (ao bq (pv 1) (pv 0)))) (aa (pv 1) ae))))
  (aj (aF (de (N:=["whole", "told", "p", "last"]) (ix:=[3,4,1,0]) rfl
   (CompScope.four (by with_unfolding_all rfl) (by decide) rfl (by decide) rfl (by decide +kernel) rfl (by with_unfolding_all rfl) (by with_unfolding_all rfl) (by with_unfolding_all rfl) (by with_unfolding_all rfl) (by with_unfolding_all rfl) (by with_unfolding_all rfl) rfl rfl (by with_unfolding_all rfl) rfl rfl (by with_unfolding_all rfl) rfl rfl (by with_unfolding_all rfl) rfl rfl) rfl
   (bL rfl B.range (aa (ao aX (pv 0) ag) ae)) (fun _ _ _=>dq (ao bb (ao bO (pv 1) (aR (ix_listK K) (pv 2) (ao bq (pv 4) (pv 0)) (fun _ _=>rfl))) (pv 3))))))))),?_⟩
 have p2:=pp.1
 have hP:=pm_of pp (by omega)
 refine ⟨_,rfl,_,_,rfl,rfl,1,_,rfl,⟨by decide,by decide,by omega,by omega⟩,by omega,fun a ha=>?_⟩
 have e1:rngV 1 ((L:Int)+1 - 1).toNat=(List.range L).map fun k:Nat=>1+(k:Int):=by
  unfold rngV
  rw [show ((L:Int)+1 - 1).toNat=L by omega]
 rw [e1]
 have Ga:=Same.new ha (.lst (((List.range L).map fun k:Nat=>1+(k:Int)).map V.int))
 refine ⟨_,rfl,_,rfl,a,_,L,p,rfl,upd_same,L5,by omega,by omega,fun l H2 l0 S2 hl2=>?_⟩
 have rg:=pmd_rng (show 1 < p by omega) (fun k:Nat=>1+(k:Int)) L
 have dv:=pmd_dvd p (fun k:Nat=>1+(k:Int)) L
 rw [pr_fac] at dv
 have ne0:pmd p (fun k:Nat=>1+(k:Int)) L ≠ 0:=fun z=>by
  rw [z] at dv
  obtain ⟨m,hm⟩:=dv
  exact fac_ne hP L Lp ⟨-m,by rw [Int.mul_neg]; omega⟩
 refine ⟨_,rfl,l,_,_,.int (pmd p (fun k:Nat=>1+(k:Int)) L),rfl,rfl,SqL.of hl2,by rw [prL_succ]; exact atI_last _ _,_,rfl,_,p,rfl,pp,p9,by omega,rg.2,fun g g0 g1 hg=>?_⟩
 have SH2:=Ga.trans S2
 refine ⟨_,rfl,_,rfl,by omega,by omega,fun D hD=>?_⟩
 refine dB (fun i H'=>H' D=some (.lst (((List.range i).map fun j:Nat=>(L:Int) - j).map V.int))/\Same H2 H') ⟨by rw [upd_same]; rfl,Same.new hD _⟩ ?_ ?_
 . rintro i H3 hi ⟨hD3,S3⟩
   refine ⟨_,rfl,_,rfl,_,_,rfl,rfl,_,hD3,?_,Nx.of hi ⟨?_,fun b o e=>?_⟩⟩
   . rw [List.length_map,List.length_map,List.length_range]
     exact aS (by omega)
   . rw [upd_same,List.range_succ,List.map_append,List.map_append,Int.zero_add]
     rfl
   . rw [ax (ai e hD)]
     exact S3 _ _ e
 rintro H3 ⟨hD3,S3⟩
 rw [show ((L:Int)).toNat=L from Int.toNat_natCast L] at hD3
 refine ⟨_,rfl,D,_,L,p,rfl,hD3,L5,by omega,by omega,fun t H4 t0 S4 ht4=>?_⟩
 refine ⟨_,rfl,_,_,rfl,rfl,_,rfl,by omega,by omega,fun D2 hD2=>?_⟩
 refine dB (fun i H'=>H' D2=some (.lst (((List.range i).map fun k:Nat=>g*pmd p (fun j:Nat=>(L:Int) - j) (L - k) % p).map V.int))/\Same H4 H') ⟨by rw [upd_same]; rfl,Same.new hD2 _⟩ ?_ ?_
 . rintro i H5 hi ⟨hD5,S5⟩
   have hi':i < L+1:=by omega
   have rg2:=pmd_rng (show 1 < p by omega) (fun j:Nat=>(L:Int) - j) (L - i)
   have e2:(L:Int) - (0+(i:Int))=((L - i:Nat):Int):=by omega
   refine ⟨_,rfl,_,rfl,_,rfl,_,rfl,_,_,rfl,rfl,t,_,_,.int (pmd p (fun j:Nat=>(L:Int) - j) (L - i)),rfl,rfl,SqL.of (S5 _ _ ht4),by rw [e2]; exact prL_at (by omega),_,_,rfl,rfl,.inl ⟨by omega,by omega⟩,_,rfl,_,_,rfl,rfl,(by omega),_,hD5,?_,Nx.of hi ⟨?_,fun b o e=>?_⟩⟩
   . rw [List.length_map,List.length_map,List.length_range]
     exact aS (by omega)
   . rw [upd_same,List.range_succ,List.map_append,List.map_append]
     rfl
   . rw [ax (ai e hD2)]
     exact S5 _ _ e
 rintro H5 ⟨hD5,S5⟩
 rw [show ((L:Int)+1).toNat=L+1 by omega] at hD5
 have S05:=SH2.trans (S3.trans (S4.trans S5))
 refine q D2 H5 (fun k=>g*pmd p (fun j:Nat=>(L:Int) - j) (L - k) % p) ((SH2.trans (S3.trans S4)).free hD2) S05 (fun k hk=>?_) (fun k=>⟨Int.emod_nonneg _ (by omega),Int.emod_lt_of_pos _ (by omega)⟩) hD5
 obtain ⟨m,rfl⟩:∃ m,L=k+m:=⟨L - k,by omega⟩
 rw [show k+m - k=m by omega]
 exact share_ok hg (by omega) dv (pmd_dvd p _ m) (dm p _)
def wt (p:Int) (n i:Nat):Int:=(px (i:Int) i n % p) ^ (p - 2).toNat
theorem wgt_wt {p:Int} (hp:Pm p) {n:Nat} (hn:(n:Int)<=p):Wgt p n (wt p n):=fun i hi=>by
 have h1:=own_ne hp hn hi
 obtain ⟨k,hk⟩:=dm p (px (i:Int) i n)
 have h2:¬ p ∣ px (i:Int) i n % p:=fun ⟨m,hm⟩=>h1 ⟨m - k,by grind⟩
 obtain ⟨m,hm⟩:=fermat hp h2 (Int.emod_nonneg _ (by have:=hp.1; omega))
 exact ⟨m - k*(px (i:Int) i n % p) ^ (p - 2).toNat,by unfold wt; grind⟩
def val (p:Int) (xs:List Int) (r:Int):Int:=lag (fun i=>xs.getD i 0) (wt p xs.length) xs.length r % p
theorem val_of {p t r:Int} {xs:List Int} {u:Nat->Int} (hp:Pm p) (hn:(xs.length:Int)<=p) (hu:Wgt p xs.length u) (t0:0<=t) (t1:t < p) (h:p ∣ t - lag (fun i=>xs.getD i 0) u xs.length r):t=val p xs r:=by
 have e:p ∣ t - lag (fun i=>xs.getD i 0) (wt p xs.length) xs.length r:=by
  have:=lag_same hp hn (v:=fun i=>xs.getD i 0) hu (wgt_wt hp hn) r
  have z:=Int.dvd_add h this
  have e2:t - lag (fun i=>xs.getD i 0) u xs.length r+(lag (fun i=>xs.getD i 0) u xs.length r - lag (fun i=>xs.getD i 0) (wt p xs.length) xs.length r)=t - lag (fun i=>xs.getD i 0) (wt p xs.length) xs.length r:=by omega
  rw [e2] at z
  exact z
 have:=md e
 rw [Int.emod_eq_of_lt t0 t1] at this
 exact this
theorem val_rng {p:Int} (hp:1 < p) (xs:List Int) (r:Int):0<=val p xs r/\val p xs r < p:=⟨Int.emod_nonneg _ (by omega),Int.emod_lt_of_pos _ (by omega)⟩
theorem val_at {p:Int} {xs:List Int} {k:Nat} (hp:Pm p) (hn:(xs.length:Int)<=p) (hk:k < xs.length):val p xs k=xs.getD k 0 % p:=md (lag_at (wgt_wt hp hn) hk)
theorem sgn (m:Nat):(-1:Int) ^ m=if m % 2=1 then -1 else 1:=by
 induction m with
 | zero=>rfl
 | succ m ih =>
   rw [Int.pow_succ,ih]
   by_cases c:m % 2=1
   . rw [if_pos c,if_neg (by omega)]
     rfl
   . rw [if_neg c,if_pos (by omega)]
     rfl
theorem vb_step {p r v t s a b c d e:Int} {i m:Nat} {x y:Int} (ht:p ∣ t - s) (ha:p ∣ a - pr (fun j=>r - j) i) (hb:p ∣ b - pr (fun j=>r - (i+m:Nat)+j) m) (hc:p ∣ c - v*a*b) (hd:p ∣ d - x*y) (he:p ∣ e - (t+(if m % 2=1 then -(c*d) else c*d))) :
 p ∣ e - (s+v*px r i (i+m+1)*((-1) ^ m*(x*y))):=by
 rw [show i+m+1=i+1+m by omega,px_split,sgn]
 rw [pr_turn] at hb
 generalize pr (fun j=>r - j) i=A at *
 generalize pr (fun j=>r - (i+1+j:Nat)) m=B at *
 obtain ⟨t',ht⟩:=ht
 obtain ⟨a',ha⟩:=ha
 obtain ⟨b',hb⟩:=hb
 obtain ⟨c',hc⟩:=hc
 obtain ⟨d',hd⟩:=hd
 obtain ⟨e',he⟩:=he
 have e1:c*d - v*(A*B)*(x*y)=p*(c'*d+v*(a'*b+A*b')*d+v*A*B*d'):=by grind
 by_cases z:m % 2=1
 . rw [if_pos z] at *
   exact ⟨e'+t' - (c'*d+v*(a'*b+A*b')*d+v*A*B*d'),by grind⟩
 . rw [if_neg z] at *
   exact ⟨e'+t'+(c'*d+v*(a'*b+A*b')*d+v*A*B*d'),by grind⟩
def IntsAt (H:Hp) (a:Addr) (xs:List Int):Prop:=H a=some (.lst (xs.map V.int))∨H a=some (.tup (xs.map V.int))
theorem IntsAt.same {H H':Hp} {a:Addr} {xs:List Int} (h:IntsAt H a xs) (s:Same H H'):IntsAt H' a xs:=h.elim (fun e=>.inl (s _ _ e)) (fun e=>.inr (s _ _ e))
theorem IntsAt.seq {K:W.Frag} {H:Hp} {a:Addr} {xs:List Int} (h:IntsAt H a xs):SqL K H a (xs.map V.int)∨SqT K H a (xs.map V.int):=h.elim (fun e=>.inl (SqL.of e)) (fun e=>.inr (SqT.of e))
theorem IntsAt.ix {K:W.Frag} {H:Hp} {a:Addr} {xs:List Int} {k:Nat} {Q:VK} (h:IntsAt H a xs) (hk:k < xs.length) (q:Q (.int (xs.getD k 0)) H):rIxL K (.ref a) (.int (k:Int)) H Q∨rIxT K (.ref a) (.int (k:Int)) H Q:=by
 have e:atI (xs.map V.int) (k:Int)=some (.int (xs.getD k 0)):=cL (by rw [List.getElem?_map,List.getElem?_eq_getElem hk,List.getD_eq_getElem?_getD,List.getElem?_eq_getElem hk]; rfl)
 rcases h with h | h
 . exact .inl ⟨a,_,_,_,rfl,rfl,SqL.of h,e,q⟩
 . exact .inr ⟨a,_,_,_,rfl,rfl,SqT.of h,e,q⟩
def RowOk (xs:List Int) (p:Int):Prop:=1<=xs.length/\xs.length<=500/\(xs.length:Int)<=p/\∀ k,0<=xs.getD k 0/\xs.getD k 0 < 2 ^ 40
def spVal:Sp:=fun vs H Q _=>∃ (a:Addr) (xs:List Int) (r p:Int),vs=[.ref a,.int r,.int p]/\IntsAt H a xs/\RowOk xs p/\Pr p/\p<=999983/\0<=r/\r < p/\∀ H',Same H H'->Q (.int (val p xs r)) H'
theorem sc_value_behind:FnScope ["values", "r", "p", "last", "ahead", "behind", "shares", "total", "place", "share", "part"] ["values", "r", "p"] (af cB):=⟨rfl,rfl,rfl,by decide +kernel,rfl,by decide +kernel,by decide +kernel⟩
theorem ok_value_behind {f:Addr} {fd:FuncData} (F:Fun K "value_behind" "value_behind" cB f fd) (B:Bl mg) (C_products:Cal P w K mg base 1 "products" ["numbers", "p"] spProd) (C_inverse_factorials:Cal P w K mg base 2 "inverse_factorials" ["last", "p"] spFacs):FnOk P w K mg base CX0 3 f fd ["values", "r", "p"] spVal:=by
 refine F.ok sc_value_behind (fun vs H Q E h=>?_) (fun cdv A outer s H vs Q E hr h=>?_)
 . obtain ⟨a,xs,r,p,rfl,_⟩:=h
   rfl
 obtain ⟨a,xs,r,p,rfl,ha,⟨x1,x5,xp,xb⟩,pp,p9,r0,r1,q⟩:=h
 refine ⟨_,(ad (aq (i:=3) sc_value_behind.nd rfl (Or.inr rfl) (ao bq (aJ aD rfl B.len PySem.boot_len (aa (pv 0) ae)) ag))
  (ad (aq (i:=4) sc_value_behind.nd rfl (Or.inl rfl) (aE C_products hr (by decide) rfl (aa (de (N:=["r"]) (ix:=[1]) rfl
   (CompScope.one (by with_unfolding_all rfl) (by decide) rfl (by decide) rfl (by decide +kernel) (by with_unfolding_all rfl) (by with_unfolding_all rfl) (by with_unfolding_all rfl) rfl rfl) rfl
   (bL rfl B.range (aa (pv 3) ae)) (fun _ _ _=>dq (ao bq (pv 1) (pv 0)))) (aa (pv 2) ae))))
  (ad (aq (i:=5) sc_value_behind.nd rfl (Or.inl rfl) (aE C_products hr (by decide) rfl (aa (de (N:=["r", "last"]) (ix:=[1,3]) rfl
   (CompScope.two (by with_unfolding_all rfl) (by decide) rfl (by decide) rfl (by decide +kernel) (by first | exact Or.inl rfl | exact Or.inr rfl) (by with_unfolding_all rfl) (by with_unfolding_all rfl) (by with_unfolding_all rfl) (by with_unfolding_all rfl) rfl rfl (by with_unfolding_all rfl) rfl rfl) rfl
   (bL rfl B.range (aa (pv 3) ae)) (fun _ _ _=>dq (ao aX (ao bq (pv 1) (pv 2)) (pv 0)))) (aa (pv 2) ae))))
  (ad (aq (i:=6) sc_value_behind.nd rfl (Or.inl rfl) (aE C_inverse_factorials hr (by decide) rfl (aa (pv 3) (aa (pv 2) ae))))
  (ad (aq (i:=7) sc_value_behind.nd rfl (Or.inl rfl) ag)
  (ad (cG PassesOwn.never rfl (bL rfl B.range (aa (ao aX (pv 3) ag) ae)) (bw (i:=8) sc_value_behind.nd rfl (Or.inl rfl)) (ad (aq (i:=9) sc_value_behind.nd rfl (Or.inl rfl) (ao bb (ao bO (aR ix_list (pv 6) (pv 8) (fun _ _=>rfl)) (aR ix_list (pv 6) (ao bq (pv 3) (pv 8)) (fun _ _=>rfl))) (pv 2)))
   (ad (aq (i:=10) sc_value_behind.nd rfl (Or.inl rfl) (ao bO (ao bb (ao bO (ao bO (aR (ix_list.or ix_tup) (pv 0) (pv 8) (fun _ _=>rfl)) (aR ix_list (pv 4) (pv 8) (fun _ _=>rfl))) (aR ix_list (pv 5) (ao bq (pv 3) (pv 8)) (fun _ _=>rfl))) (pv 2)) (pv 9)))
   (ad (aU (aB cu (ao bb (ao bq (pv 3) (pv 8)) ag) ag (aI _)) (aj (aq (i:=10) sc_value_behind.nd rfl (Or.inl rfl) (pe_un un_neg (pv 10)))) aN)
   (aj (aq (i:=7) sc_value_behind.nd rfl (Or.inl rfl) (ao bb (ao aX (pv 7) (pv 10)) (pv 2))))))))
  (aj (aF (pv 7))))))))),?_⟩
 have p2:=pp.1
 have p1:1 < p:=by omega
 have p0:0 < p:=by omega
 have hP:=pm_of pp (by omega)
 obtain ⟨L,hL⟩:∃ L,xs.length=L+1:=⟨xs.length - 1,by omega⟩
 have eL:(((xs.map V.int).length:Nat):Int) - 1=(L:Int):=by rw [List.length_map]; omega
 refine ⟨_,rfl,a,_,rfl,ha.seq,_,_,rfl,rfl,?_⟩
 dsimp only
 rw [eL]
 refine ⟨_,rfl,(L:Int),rfl,by omega,by omega,fun D hD=>?_⟩
 refine dB (fun i H'=>H' D=some (.lst (((List.range i).map fun j:Nat=>r - j).map V.int))/\Same H H') ⟨by rw [upd_same]; rfl,Same.new hD _⟩ ?_ ?_
 . rintro i H3 hi ⟨hD3,S3⟩
   refine ⟨_,rfl,_,rfl,_,_,rfl,rfl,_,hD3,?_,Nx.of hi ⟨?_,fun b o e=>?_⟩⟩
   . rw [List.length_map,List.length_map,List.length_range]
     exact aS (by omega)
   . rw [upd_same,List.range_succ,List.map_append,List.map_append,Int.zero_add]
     rfl
   . rw [ax (ai e hD)]
     exact S3 _ _ e
 rintro H1 ⟨hD1,S1⟩
 rw [show ((L:Int)).toNat=L from Int.toNat_natCast L] at hD1
 refine ⟨_,rfl,D,_,L,p,rfl,hD1,by omega,p1,by omega,fun la H2 la0 S2 hla=>?_⟩
 refine ⟨_,rfl,(L:Int),rfl,by omega,by omega,fun D2 hD2=>?_⟩
 refine dB (fun i H'=>H' D2=some (.lst (((List.range i).map fun j:Nat=>r - (L:Int)+j).map V.int))/\Same H2 H') ⟨by rw [upd_same]; rfl,Same.new hD2 _⟩ ?_ ?_
 . rintro i H3 hi ⟨hD3,S3⟩
   refine ⟨_,rfl,_,rfl,_,_,rfl,rfl,_,rfl,_,_,rfl,rfl,_,hD3,?_,Nx.of hi ⟨?_,fun b o e=>?_⟩⟩
   . rw [List.length_map,List.length_map,List.length_range]
     exact aS (by omega)
   . rw [upd_same,List.range_succ,List.map_append,List.map_append,Int.zero_add]
     rfl
   . rw [ax (ai e hD2)]
     exact S3 _ _ e
 rintro H3 ⟨hD3,S3⟩
 rw [show ((L:Int)).toNat=L from Int.toNat_natCast L] at hD3
 refine ⟨_,rfl,D2,_,L,p,rfl,hD3,by omega,p1,by omega,fun lb H4 lb0 S4 hlb=>?_⟩
 refine ⟨_,rfl,_,rfl,L,p,rfl,by omega,by omega,pp,p9,fun ls H5 sh ls0 S5 hsh hsr hls=>?_⟩
 have S25:=S3.trans (S4.trans S5)
 have S05:=S1.trans (S2.trans S25)
 have hla5:=S25 _ _ hla
 have hlb5:=S5 _ _ hlb
 have ha5:=ha.same S05
 have hW:=wgt_fac hsh
 refine ⟨_,rfl,_,_,rfl,rfl,_,rfl,by omega,by omega,di (fun i σ H'=>∃ (t:Int) (x8 x9 x10:Option V),σ=[some (.ref a),some (.int r),some (.int p),some (.int L),some (.ref la),some (.ref lb),some (.ref ls),some (.int t),x8,x9,x10]/\0<=t/\t < p/\p ∣ t - sm (fun i=>xs.getD i 0*px r i (L+1)*((-1) ^ (L - i)*(sh i*sh (L - i)))) i/\H'=H5)
  ⟨0,_,_,_,rfl,by decide,p0,⟨0,by simp [sm]⟩,rfl⟩ ?_ ?_⟩
 . rintro i σ H6 hi ⟨t,x8,x9,x10,rfl,t0,t1,td,rfl⟩
   have hi':i < L+1:=by omega
   obtain ⟨m,hm⟩:∃ m,L=i+m:=⟨L - i,by omega⟩
   have e0:(0:Int)+(i:Int)=(i:Int):=Int.zero_add _
   have e1:(L:Int) - (0+(i:Int))=(m:Int):=by omega
   have r1':=hsr i
   have r2':=hsr m
   have ar:=pmd_rng p1 (fun j:Nat=>r - j) i
   have br:=pmd_rng p1 (fun j:Nat=>r - (L:Int)+j) m
   have xi:=xb i
   have m1:∀ z:Int,0<=z % p:=fun z=>Int.emod_nonneg _ (by omega)
   have m2:∀ z:Int,z % p < p:=fun z=>Int.emod_lt_of_pos _ p0
   refine ⟨_,rfl,_,rfl,ls,_,_,.int (sh i),rfl,rfl,SqL.of hls,by rw [e0]; exact map_at hi',_,rfl,_,rfl,_,rfl,_,_,rfl,rfl,ls,_,_,.int (sh m),rfl,rfl,SqL.of hls,by rw [e1]; exact map_at (by omega),_,_,rfl,rfl,.inl ⟨by omega,by omega⟩,_,rfl,_,_,rfl,rfl,p0,?_⟩
   refine ⟨_,rfl,_,rfl,?_⟩
   rw [e0]
   refine ha5.ix (by omega) ?_
   refine ⟨_,rfl,_,rfl,la,_,_,.int (pmd p (fun j:Nat=>r - j) i),rfl,rfl,SqL.of hla5,prL_at hi',_,_,rfl,rfl,.inl ⟨by omega,by omega⟩,?_⟩
   refine ⟨_,rfl,_,rfl,_,rfl,_,_,rfl,rfl,lb,_,_,.int (pmd p (fun j:Nat=>r - (L:Int)+j) m),rfl,rfl,SqL.of hlb5,by rw [← e0,e1]; exact prL_at (by omega),_,_,rfl,rfl,.inr ⟨by omega,by omega⟩,_,rfl,_,_,rfl,rfl,p0,?_⟩
   have s1:=m1 (sh i*sh m)
   have s2:=m2 (sh i*sh m)
   refine ⟨_,rfl,_,_,rfl,rfl,.inr ⟨by omega,by omega⟩,?_⟩
   refine ⟨_,rfl,_,rfl,_,_,rfl,rfl,_,_,rfl,rfl,(by show (0:Int) < _; decide),rfl,_,rfl,?_⟩
   have fin:∀ z:Int,z=(if m % 2=1 then -(xs.getD i 0*pmd p (fun j:Nat=>r - j) i*pmd p (fun j:Nat=>r - (L:Int)+j) m % p*(sh i*sh m % p)) else xs.getD i 0*pmd p (fun j:Nat=>r - j) i*pmd p (fun j:Nat=>r - (L:Int)+j) m % p*(sh i*sh m % p)) ->
    p ∣ (t+z) % p - sm (fun i=>xs.getD i 0*px r i (L+1)*((-1) ^ (L - i)*(sh i*sh (L - i)))) (i+1):=fun z hz=>by
    show p ∣ _ - (sm _ i+xs.getD i 0*px r i (L+1)*((-1) ^ (L - i)*(sh i*sh (L - i))))
    have em:L - i=m:=by omega
    have hb:p ∣ pmd p (fun j:Nat=>r - (L:Int)+j) m - pr (fun j=>r - (i+m:Nat)+j) m:=by
     rw [← hm]
     exact pmd_dvd p _ m
    subst hz
    rw [em]
    have el:L+1=i+m+1:=by omega
    rw [el] at td ⊢
    exact vb_step td (pmd_dvd p _ i) hb (dm p _) (dm p _) (dm p _)
   by_cases c:m % 2=1
   . refine cS (congrArg V.int (by omega)) ?_
     refine ⟨_,rfl,_,rfl,?_⟩
     refine ⟨_,rfl,_,rfl,_,_,rfl,rfl,_,rfl,_,_,rfl,rfl,p0,?_⟩
     exact ⟨_,_,_,_,rfl,m1 _,m2 _,fin _ (by rw [if_pos c]),rfl⟩
   . refine bd (fun z=>c (by have:=V.int.inj z; omega)) ?_
     refine ⟨_,rfl,_,rfl,_,_,rfl,rfl,_,rfl,_,_,rfl,rfl,p0,?_⟩
     exact ⟨_,_,_,_,rfl,m1 _,m2 _,fin _ (by rw [if_neg c]),rfl⟩
 . rintro σ H6 ⟨t,x8,x9,x10,rfl,t0,t1,td,rfl⟩
   rw [show ((L:Int)+1).toNat=L+1 by omega] at td
   rw [← hL] at hW
   have e:=val_of (r:=r) hP xp hW t0 t1 (by
    unfold lag
    rw [hL]
    exact td)
   rw [e]
   exact ⟨_,rfl,q H6 S05⟩
theorem sc_value_at:FnScope ["values", "r", "p", "place"] ["values", "r", "p"] (af s_value_at):=⟨rfl,rfl,rfl,by decide +kernel,rfl,by decide +kernel,by decide +kernel⟩
theorem ok_value_at {f:Addr} {fd:FuncData} (F:Fun K "value_at" "value_at" s_value_at f fd) (B:Bl mg) (C_value_behind:Cal P w K mg base 3 "value_behind" ["values", "r", "p"] spVal):FnOk P w K mg base CX0 4 f fd ["values", "r", "p"] spVal:=by
 refine F.ok sc_value_at (fun vs H Q E h=>?_) (fun cdv A outer s H vs Q E hr h=>?_)
 . obtain ⟨a,xs,r,p,rfl,_⟩:=h
   rfl
 obtain ⟨a,xs,r,p,rfl,ha,ok,pp,p9,r0,r1,q⟩:=h
 refine ⟨_,(ad (aq (i:=3) sc_value_at.nd rfl (Or.inl rfl) (ao bb (pv 1) (pv 2)))
  (ad (aU (aB op_lt (pv 3) (aJ aD rfl B.len PySem.boot_len (aa (pv 0) ae)) (aI _)) (aj (aF (ao bb (aR (ix_list.or ix_tup) (pv 0) (pv 3) (fun _ _=>rfl)) (pv 2)))) aN)
  (aj (aF (aE C_value_behind hr (by decide) rfl (aa (pv 0) (aa (pv 3) (aa (pv 2) ae)))))))),?_⟩
 have p0:0 < p:=by omega
 have hP:=pm_of pp (by omega)
 have er:r % p=r:=Int.emod_eq_of_lt r0 r1
 refine ⟨_,rfl,_,rfl,_,_,rfl,rfl,p0,?_⟩
 dsimp only
 rw [er]
 refine ⟨_,rfl,_,rfl,a,_,rfl,ha.seq,_,_,rfl,rfl,_,rfl,?_⟩
 refine ite2 (fun c=>?_) (fun c=>?_)
 . have c':=of_decide_eq_true c
   rw [List.length_map] at c'
   obtain ⟨k,rfl⟩:∃ k:Nat,r=(k:Int):=⟨r.toNat,by omega⟩
   refine ⟨_,rfl,_,rfl,?_⟩
   refine ha.ix (by omega) ?_
   refine ⟨_,rfl,_,_,rfl,rfl,p0,?_⟩
   show Q (.int (xs.getD k 0 % p)) H
   rw [← val_at hP ok.2.2.1 (by omega)]
   exact q H (Same.refl _)
 . exact ⟨_,rfl,_,rfl,_,rfl,a,xs,r,p,rfl,ha,ok,pp,p9,r0,r1,q⟩
def spEnds:Sp:=fun vs H Q _=>∃ (a:Addr) (xs:List Int) (p:Int),vs=[.ref a,.int p]/\IntsAt H a xs/\RowOk xs p/\Pr p/\p<=999983/\∀ H',Same H H'->Q (.int ((val p xs 0+val p xs 1) % p)) H'
theorem sc_both_ends:FnScope ["values", "p"] ["values", "p"] (af dJ):=⟨rfl,rfl,rfl,by decide +kernel,rfl,by decide +kernel,by decide +kernel⟩
theorem ok_both_ends {f:Addr} {fd:FuncData} (F:Fun K "both_ends" "both_ends" dJ f fd) (C_value_at:Cal P w K mg base 4 "value_at" ["values", "r", "p"] spVal):FnOk P w K mg base CX0 5 f fd ["values", "p"] spEnds:=by
 refine F.ok sc_both_ends (fun vs H Q E h=>?_) (fun cdv A outer s H vs Q E hr h=>?_)
 . obtain ⟨a,xs,p,rfl,_⟩:=h
   rfl
 obtain ⟨a,xs,p,rfl,ha,ok,pp,p9,q⟩:=h
 refine ⟨_,(aj (aF (ao bb (ao aX (aE C_value_at hr (by decide) rfl (aa (pv 0) (aa ag (aa (pv 1) ae)))) (aE C_value_at hr (by decide) rfl (aa (pv 0) (aa ag (aa (pv 1) ae))))) (pv 1)))),?_⟩
 have p2:=pp.1
 refine ⟨_,rfl,_,rfl,a,xs,0,p,rfl,ha,ok,pp,p9,by decide,by omega,fun H1 S1=>?_⟩
 refine ⟨_,rfl,_,rfl,a,xs,1,p,rfl,ha.same S1,ok,pp,p9,by decide,by omega,fun H2 S2=>?_⟩
 exact ⟨_,_,rfl,rfl,_,rfl,_,_,rfl,rfl,(by omega),q H2 (S1.trans S2)⟩
theorem IntsAt.sqB {K:W.Frag} {H:Hp} {a:Addr} {xs:List Int} (h:IntsAt H a xs):∃ c,SqB K c H a (xs.map V.int):=h.elim (fun e=>⟨true,SqL.of e⟩) (fun e=>⟨false,SqT.of e⟩)
def hor (s p:Int):List Int->Int
 | []=>0
 | a::r=>(hor s p r*s+a) % p
theorem hor_rng {s p:Int} (hp:0 < p):∀ ns,0<=hor s p ns/\hor s p ns < p
 | []=>⟨Int.le_refl 0,hp⟩
 | a::r=>⟨Int.emod_nonneg _ (by omega),Int.emod_lt_of_pos _ hp⟩
def spMix (C:Addr):Sp:=fun vs H Q _=>∃ (g a b d l:Addr) (ns:List Int) (s p:Int),vs=[.ref g,.ref l,.int s]/\GameAt C H g a b d p/\0 < p/\p < 2 ^ 40/\IntsAt H l ns/\Q (.int (hor s p ns)) H
theorem sc_gmix:FnScope ["self", "numbers", "s", "total", "number"] ["self", "numbers", "s"] (af s_gmix):=⟨rfl,rfl,rfl,by decide +kernel,rfl,by decide +kernel,by decide +kernel⟩
theorem ok_gmix {f C:Addr} {fd:FuncData} (F:Fun K "mix" "Game.mix" s_gmix f fd) (T:GTxt K mg C) (hrev:mg "reversed" = none):FnOk P w K mg base CX0 1 f fd ["self", "numbers", "s"] (spMix C):=by
 refine F.ok sc_gmix (fun vs H Q E h=>?_) (fun cdv A outer s H vs Q E hr h=>?_)
 . obtain ⟨g,a,b,d,l,ns,s,p,rfl,_⟩:=h
   rfl
 obtain ⟨g,a,b,d,l,ns,s,p,rfl,⟨dx,hg⟩,p0,p40,hl,q⟩:=h
 refine ⟨_,(ad (aq (i:=3) sc_gmix.nd rfl (Or.inl rfl) ag)
  (ad (cG PassesOwn.never rfl (pi_revb rfl hrev (pv 1)) (bw (i:=4) sc_gmix.nd rfl (Or.inl rfl)) (aj (aq (i:=3) sc_gmix.nd rfl (Or.inl rfl) (ao bb (ao aX (ao bO (pv 3) (pv 2)) (pv 4)) (aG (pv 0) rfl)))))
  (aj (aF (pv 3))))),?_⟩
 obtain ⟨c,hl⟩:=hl.sqB (K:=K)
 refine ⟨_,rfl,c,l,_,rfl,hl,for_revb (K:=K) (c:=c) (xs:=ns.map V.int) (fun i σ H'=>∃ (x4:Option V) (t:Int),σ=[some (.ref g),some (.ref l),some (.int s),some (.int t),x4]/\t=hor s p (ns.drop (ns.length - i))/\H'=H)
  ⟨_,0,rfl,by rw [Nat.sub_zero,List.drop_length]; rfl,rfl⟩ (fun i σ H' _ hst=>by obtain ⟨_,_,_,_,h⟩:=hst; subst h; exact hl) ?_ ?_⟩
 . rintro i z σ H1 hi hz ⟨x4,t,rfl,rfl,rfl⟩
   rw [List.length_map] at hi
   rw [← List.map_reverse,List.getElem?_map] at hz
   obtain ⟨x,hx,rfl⟩:=Option.map_eq_some_iff.mp hz
   rw [List.getElem?_reverse hi] at hx
   have hr2:=hor_rng (s:=s) p0 (ns.drop (ns.length - i))
   refine ⟨_,rfl,_,rfl,_,_,rfl,rfl,.inl ⟨by omega,by omega⟩,_,rfl,_,_,rfl,rfl,_,rfl,g,C,dx,_,_,rfl,hg,T.cl,T.nF,gf_fi ..,_,_,rfl,rfl,p0,?_⟩
   refine ⟨_,_,rfl,?_,rfl⟩
   have hj:ns.length - 1 - i < ns.length:=by omega
   have ed:ns.drop (ns.length - (i+1))=x::ns.drop (ns.length - i):=by
    have e1:ns.length - (i+1)=ns.length - 1 - i:=by omega
    have e2:ns.length - i=ns.length - 1 - i+1:=by omega
    rw [e1,e2,List.drop_eq_getElem_cons hj]
    congr 1
    rw [List.getElem?_eq_getElem hj] at hx
    exact Option.some.inj hx
   rw [ed]
   rfl
 . rintro σ H1 ⟨x4,t,rfl,rfl,rfl⟩
   rw [List.length_map,Nat.sub_self,List.drop_zero]
   exact ⟨_,rfl,q⟩
def spWAt (C:Addr):Sp:=fun vs H Q _=>∃ (g a b d r:Addr) (ns:List Str) (tv:List V) (ts:List Tr) (pt:List Int) (s p:Int),vs=[.ref g,.ref r,.int s]/\GameAt C H g a b d p/\1 < p/\p < 2 ^ 40/\H a=some (.tup (ns.map V.str))/\H b=some (.tup tv)/\TreesAt H tv ts/\ts.length<=10/\(∀ t ∈ ts,t.ok ns/\t.depth<=10) /\
 H r=some (.tup (pt.map V.int))/\pt.length=ns.length/\cw pt p/\∀ H',Same H H'->Q (.int (hor s p (ts.map fun t=>t.worth ns pt p))) H'
theorem sc_gworth:FnScope ["self", "point", "s"] ["self", "point", "s"] (af s_gworth):=⟨rfl,rfl,rfl,by decide +kernel,rfl,by decide +kernel,by decide +kernel⟩
theorem ok_gworth {f fm C:Addr} {fd fdm:FuncData} (F:Fun K "worth_at" "Game.worth_at" s_gworth f fd) (T:GTxt K mg C) (mM:Meth K C "mix" fm) (GM:FnOk P w K mg base CX0 1 fm fdm ["self", "numbers", "s"] (spMix C)) (bM:Binds K fdm ["self", "numbers", "s"] []) (C_worth_of:Cal P w K mg base 12 "worth_of" ["tree", "switches", "point", "p"] (spWorth 10)):FnOk P w K mg base CX0 13 f fd ["self", "point", "s"] (spWAt C):=by
 refine F.ok sc_gworth (fun vs H Q E h=>?_) (fun cdv A outer s H vs Q E hr h=>?_)
 . obtain ⟨g,a,b,d,r,ns,tv,ts,pt,s,p,rfl,_⟩:=h
   rfl
 obtain ⟨g,a,b,d,r,ns,tv,ts,pt,s,p,rfl,⟨dx,hg⟩,p1,p40,ha,hb,TS,t10,tok,hr0,pl,po,q⟩:=h
 have hr1:Room 1 _:=hr.mono (by decide)
 refine ⟨_,(aj (aF (du (pv 0) T.cl mM GM hr1 bM .nil bF (aa (de (N:=["self", "point"]) (ix:=[0,1]) rfl
  (CompScope.two (by with_unfolding_all rfl) (by decide) rfl (by decide) rfl (by decide +kernel) (by first | exact Or.inl rfl | exact Or.inr rfl) (by with_unfolding_all rfl) (by with_unfolding_all rfl) (by with_unfolding_all rfl) (by with_unfolding_all rfl) rfl rfl (by with_unfolding_all rfl) rfl rfl) rfl
  (pi_tup (aG (pv 0) rfl)) (fun _ _ _=>dq (aE C_worth_of hr (by decide) rfl (aa (pv 0) (aa (pe_fldK K (pv 1)) (aa (pv 2) (aa (pe_fldK K (pv 1)) ae))))))) (aa (pv 2) ae))))),?_⟩
 have vl:=TS.length
 refine ⟨_,rfl,g,dx,_,rfl,hg,gf_no _ _ _ _ (by decide +kernel) (by decide +kernel) (by decide +kernel) (by decide +kernel),?_⟩
 refine ⟨_,rfl,g,C,dx,_,_,rfl,hg,T.cl,T.nT,gf_tr ..,b,rfl,⟨_,SqT.of hb⟩,fun D hD=>?_⟩
 refine comp_tup (K:=K) (xs:=tv) (fun i H'=>H' D=some (.lst (((ts.take i).map fun t=>t.worth ns pt p).map V.int))/\Same H H') ⟨by rw [upd_same]; rfl,Same.new hD _⟩ (fun i H' _ h=>SqT.of (h.2 _ _ hb)) ?_ ?_
 . rintro i z H2 hz ⟨hl,S2⟩
   obtain ⟨t,ht,Tt⟩:=TS.get hz
   obtain ⟨tk,td⟩:=tok t (List.mem_of_getElem? ht)
   have hi:i < tv.length:=(List.getElem?_eq_some_iff.mp hz).1
   refine ⟨_,rfl,_,rfl,g,C,dx,_,_,rfl,S2 _ _ hg,T.cl,T.nS,gf_sw ..,_,rfl,_,rfl,g,C,dx,_,_,rfl,S2 _ _ hg,T.cl,T.nF,gf_fi ..,z,t,a,r,ns,pt,p,rfl,Tt.mono (au S2),tk,td,.inr (S2 _ _ ha),S2 _ _ hr0,pl,p1,p40,po,?_⟩
   refine ⟨_,hl,?_,Nx.of hi ⟨?_,fun b' o' e'=>?_⟩⟩
   . rw [List.length_map,List.length_map,List.length_take]
     exact aS (by omega)
   . rw [upd_same,List.take_add_one,ht,List.map_append,List.map_append]
     rfl
   . rw [ax (ai e' hD)]
     exact S2 _ _ e'
 . rintro H2 ⟨hl,S2⟩
   rw [vl,List.take_length] at hl
   exact ⟨_,rfl,g,a,b,d,D,_,s,p,rfl,⟨dx,S2 _ _ hg⟩,by omega,p40,.inl hl,q H2 S2⟩
def spCoins (C:Addr):Sp:=fun vs H Q _=>∃ (g a b d:Addr) (ns:List Str) (tv:List V) (p:Int),vs=[.ref g]/\GameAt C H g a b d p/\H a=some (.tup (ns.map V.str))/\H b=some (.tup tv)/\Q (.int (if tv.length=1 then (ns.length:Int) else (ns.length:Int)+1)) H
theorem sc_gcoins:FnScope ["self"] ["self"] (af s_gcoins):=⟨rfl,rfl,rfl,by decide +kernel,rfl,by decide +kernel,by decide +kernel⟩
theorem ok_gcoins {f C:Addr} {fd:FuncData} (F:Fun K "coins" "Game.coins" s_gcoins f fd) (T:GTxt K mg C) (hlen:mg "len" = none):FnOk P w K mg base CX0 1 f fd ["self"] (spCoins C):=by
 refine F.ok sc_gcoins (fun vs H Q E h=>?_) (fun cdv A outer s H vs Q E hr h=>?_)
 . obtain ⟨g,a,b,d,ns,tv,p,rfl,_⟩:=h
   rfl
 obtain ⟨g,a,b,d,ns,tv,p,rfl,⟨dx,hg⟩,ha,hb,q⟩:=h
 refine ⟨_,(ad (aU (aB cu (aJ aD rfl hlen PySem.boot_len (aa (aG (pv 0) rfl) ae)) ag (aI _)) (aj (aF (aJ aD rfl hlen PySem.boot_len (aa (aG (pv 0) rfl) ae)))) aN)
  (aj (aF (ao aX (aJ aD rfl hlen PySem.boot_len (aa (aG (pv 0) rfl) ae)) ag)))),?_⟩
 refine ⟨_,rfl,g,C,dx,_,_,rfl,hg,T.cl,T.nT,gf_tr ..,b,_,rfl,.inr (SqT.of hb),rfl,_,rfl,?_⟩
 by_cases c:V.int (tv.length:Int)=V.int 1
 . refine cS c ?_
   have c':tv.length=1:=by have:=V.int.inj c; omega
   rw [if_pos c'] at q
   refine ⟨_,rfl,g,C,dx,_,_,rfl,hg,T.cl,T.nS,gf_sw ..,a,_,rfl,.inr (SqT.of ha),?_⟩
   rw [List.length_map]
   exact q
 . refine bd c ?_
   have c':¬ tv.length=1:=fun z=>c (by rw [z]; rfl)
   rw [if_neg c'] at q
   refine ⟨_,rfl,g,C,dx,_,_,rfl,hg,T.cl,T.nS,gf_sw ..,a,_,rfl,.inr (SqT.of ha),?_⟩
   rw [List.length_map]
   exact ⟨_,_,rfl,rfl,q⟩
def spSize (n:Nat):Sp:=fun vs H Q _=>∃ (v:V) (t:Tr),vs=[v]/\TreeAt H v t/\t.wf/\t.depth<=n/\t.size<=400/\∀ H',Same H H'->Q (.int t.size) H'
theorem sizes_cast (ts:List Tr):(ts.map fun u=>(u.size:Int)).sum=(sizes ts:Int):=by
 induction ts with
 | nil=>rfl
 | cons a r ih =>
   simp only [sizes,List.map_cons,List.sum_cons] at ih ⊢
   rw [ih]
   omega
theorem sc_size_of:FnScope ["tree"] ["tree"] (af s_size_of):=⟨rfl,rfl,rfl,by decide +kernel,rfl,by decide +kernel,by decide +kernel⟩
theorem size_step {n:Nat} {f:Addr} {fd:FuncData} (F:Fun K "size_of" "size_of" s_size_of f fd) (B:Bl mg) (C_trees_within:Cal P w K mg base 1 "trees_within" ["tree"] spWithin) (C_size_of:Cal P w K mg base (n+2) "size_of" ["tree"] (spSize n)):FnOk P w K mg base CX0 (n+3) f fd ["tree"] (spSize (n+1)):=by
 refine F.ok sc_size_of (fun vs H Q E h=>?_) (fun cdv A outer s H vs Q E hr h=>?_)
 . obtain ⟨v,t,rfl,_⟩:=h
   rfl
 obtain ⟨v,t,rfl,T,wf,dn,sz,q⟩:=h
 refine ⟨_,(aj (aF (ao aX ag (aJ (call_sum rfl) rfl B.sum PyProof.Rows.boot_sum (aa (de (N:=[]) (ix:=[]) (cl:=[]) rfl (CompScope.closed (by with_unfolding_all rfl) (by decide) rfl (by decide) rfl (by with_unfolding_all rfl)) rfl
  (pi_tup (aE C_trees_within hr (by omega) rfl (aa (pv 0) ae))) (fun _ _ _=>dq (aE C_size_of hr (Nat.le_refl _) rfl (aa (pv 0) ae)))) ae))))),?_⟩
 refine ⟨_,rfl,v,t,rfl,T,wf,fun p xs H1 S1 hp TS=>?_⟩
 refine ⟨p,rfl,⟨_,SqT.of hp⟩,fun D hD=>?_⟩
 have pD:p ≠ D:=ai hp hD
 have xl:=TS.length
 have sp:=t.size_parts
 refine comp_tup (K:=K) (xs:=xs) (fun i H'=>H' D=some (.lst (((t.parts.take i).map fun u=>(u.size:Int)).map V.int))/\Same H1 H') ⟨by rw [upd_same]; rfl,Same.new hD _⟩ (fun i H' _ h=>SqT.of (h.2 _ _ hp)) ?_ ?_
 . rintro i x H2 hx ⟨hl,S2⟩
   obtain ⟨u,hu,Tu⟩:=TS.get hx
   have um:=List.mem_of_getElem? hu
   obtain ⟨uw,ud,us⟩:=Tr.parts_mem um wf
   have hi:i < xs.length:=(List.getElem?_eq_some_iff.mp hx).1
   refine ⟨_,rfl,x,u,rfl,Tu.mono (au S2),uw,by omega,by omega,fun H3 S3=>?_⟩
   refine ⟨_,S3 _ _ hl,?_,Nx.of hi ⟨?_,fun b o e=>?_⟩⟩
   . have:t.parts.length<=2:=by cases t <;> simp [Tr.parts]
     rw [List.length_map,List.length_map,List.length_take]
     exact aS (by omega)
   . rw [upd_same,List.take_add_one,hu,List.map_append,List.map_append]
     rfl
   . rw [ax (ai e hD)]
     exact S3 _ _ (S2 _ _ e)
 . rintro H2 ⟨hl,S2⟩
   rw [xl,List.take_length] at hl
   have sc:=sizes_cast t.parts
   refine ⟨D,_,rfl,SqL.of hl,?_,?_,?_⟩
   . intro n hn
     obtain ⟨u,_,rfl⟩:=List.mem_map.mp hn
     omega
   . rw [sc]
     omega
   . rw [sc]
     refine ⟨_,_,rfl,rfl,?_⟩
     have e:(1:Int)+(sizes t.parts:Int)=(t.size:Int):=by omega
     show Q (.int (1+(sizes t.parts:Int))) H2
     rw [e]
     exact q H2 (S1.trans S2)
theorem size_zero {f:Addr} {fd:FuncData}:FnOk P w K mg base CX0 2 f fd ["tree"] (spSize 0):=by
 have no:∀ vs H Q E,¬ spSize 0 vs H Q E:=fun vs H Q E h=>by
  obtain ⟨v,t,_,_,_,h1,_⟩:=h
  have:=t.depth_pos
  omega
 exact ⟨fun vs H Q E h=>absurd h (no vs H Q E),fun A outer s H args us vs Q E _ _ _ _ h=>absurd h (no vs H Q E)⟩
theorem ok_size_of {f:Addr} {fd:FuncData} (F:Fun K "size_of" "size_of" s_size_of f fd) (B:Bl mg) (m:mg "size_of" = some (.ref f)) (C_trees_within:Cal P w K mg base 1 "trees_within" ["tree"] spWithin) :
 ∀ n:Nat,FnOk P w K mg base CX0 (n+2) f fd ["tree"] (spSize n)
 | 0=>size_zero
 | n+1=>size_step F B C_trees_within (Cal.of F (ok_size_of F B m C_trees_within n) m (fun _ _ _ _ _ _ us hl=>by obtain ⟨u0,rfl⟩:=len1 hl; rfl))
abbrev s_dinit:Stmt:=bV cF 0
abbrev s_dwaits:Stmt:=bV cF 1
abbrev s_ddue:Stmt:=bV cF 2
abbrev s_dhear:Stmt:=bV cF 4
abbrev s_dtoss:Stmt:=bV cF 5
abbrev s_dclaims:Stmt:=bV cF 6
abbrev s_dbegin:Stmt:=bV cF 7
abbrev s_drow:Stmt:=bV cF 8
abbrev s_dgo:Stmt:=bV cF 9
abbrev s_dtrees:Stmt:=bV cF 10
def dl (g aA aC:Addr) (s:Int) (aH aT:Addr) (ed pl:Int):List (Str × V):=[("game", .ref g),("awaited", .ref aA),("claims", .ref aC),("s", .int s),("heard", .ref aH),("tossed", .ref aT),("held", .int ed),("places", .int pl)]
section
variable {g aA aC aH aT:Addr} {s ed pl:Int}
theorem dl_g:(dl g aA aC s aH aT ed pl).lookup ("game" : Str)=some (.ref g):=by with_unfolding_all rfl
theorem dl_a:(dl g aA aC s aH aT ed pl).lookup ("awaited" : Str)=some (.ref aA):=by with_unfolding_all rfl
theorem dl_c:(dl g aA aC s aH aT ed pl).lookup ("claims" : Str)=some (.ref aC):=by with_unfolding_all rfl
theorem dl_s:(dl g aA aC s aH aT ed pl).lookup ("s" : Str)=some (.int s):=by with_unfolding_all rfl
theorem dl_h:(dl g aA aC s aH aT ed pl).lookup ("heard" : Str)=some (.ref aH):=by with_unfolding_all rfl
theorem dl_t:(dl g aA aC s aH aT ed pl).lookup ("tossed" : Str)=some (.ref aT):=by with_unfolding_all rfl
theorem dl_ed:(dl g aA aC s aH aT ed pl).lookup ("held" : Str)=some (.int ed):=by with_unfolding_all rfl
theorem dl_pl:(dl g aA aC s aH aT ed pl).lookup ("places" : Str)=some (.int pl):=by with_unfolding_all rfl
theorem dl_n1:(dl g aA aC s aH aT ed pl).lookup ("waits" : Str)=none:=by with_unfolding_all rfl
theorem dl_n2:(dl g aA aC s aH aT ed pl).lookup ("due" : Str)=none:=by with_unfolding_all rfl
theorem dl_n4:(dl g aA aC s aH aT ed pl).lookup ("hear" : Str)=none:=by with_unfolding_all rfl
theorem dl_n5:(dl g aA aC s aH aT ed pl).lookup ("toss" : Str)=none:=by with_unfolding_all rfl
theorem dl_n6:(dl g aA aC s aH aT ed pl).lookup ("hear_claims" : Str)=none:=by with_unfolding_all rfl
theorem dl_n7:(dl g aA aC s aH aT ed pl).lookup ("begin_rounds" : Str)=none:=by with_unfolding_all rfl
theorem dl_n8:(dl g aA aC s aH aT ed pl).lookup ("hear_row" : Str)=none:=by with_unfolding_all rfl
theorem dl_n9:(dl g aA aC s aH aT ed pl).lookup ("go_on" : Str)=none:=by with_unfolding_all rfl
theorem dl_n10:(dl g aA aC s aH aT ed pl).lookup ("look_at_trees" : Str)=none:=by with_unfolding_all rfl
theorem put_a {v:Addr}:putF "awaited" (.ref v) (dl g aA aC s aH aT ed pl)=dl g v aC s aH aT ed pl:=by with_unfolding_all rfl
theorem put_c {v:Addr}:putF "claims" (.ref v) (dl g aA aC s aH aT ed pl)=dl g aA v s aH aT ed pl:=by with_unfolding_all rfl
theorem put_s {v:Int}:putF "s" (.int v) (dl g aA aC s aH aT ed pl)=dl g aA aC v aH aT ed pl:=by with_unfolding_all rfl
theorem put_h {v:Addr}:putF "heard" (.ref v) (dl g aA aC s aH aT ed pl)=dl g aA aC s v aT ed pl:=by with_unfolding_all rfl
theorem put_t {v:Addr}:putF "tossed" (.ref v) (dl g aA aC s aH aT ed pl)=dl g aA aC s aH v ed pl:=by with_unfolding_all rfl
theorem put_ed {v:Int}:putF "held" (.int v) (dl g aA aC s aH aT ed pl)=dl g aA aC s aH aT v pl:=by with_unfolding_all rfl
theorem put_pl {v:Int}:putF "places" (.int v) (dl g aA aC s aH aT ed pl)=dl g aA aC s aH aT ed v:=by with_unfolding_all rfl
theorem ca:(dl g aA aC s aH aT ed pl).length < 1000:=by show 8 < 1000; decide
end
structure DTxt (K:W.Frag) (mg:Str->Option Value) (C:Addr):Prop where
 cl:Cls K C
 nG:NoAttr K C "game"
 nA:NoAttr K C "awaited"
 nC:NoAttr K C "claims"
 nS:NoAttr K C "s"
 nH:NoAttr K C "heard"
 nT:NoAttr K C "tossed"
 nE:NoAttr K C "held"
 nP:NoAttr K C "places"
 mgC:mg "Doubter" = some (.ref C)
structure Db where
 aw:Str × Option Int
 cl:List Int
 s:Int
 he:List Int
 to:List Int
 ed:Int
 pl:Int
def awV (a:Str × Option Int):List V:=match a.2 with
 | none=>[.str a.1]
 | some n=>[.str a.1,.int n]
structure DbR (C:Addr) (H:Hp) (D g:Addr) (z:Db) (dx aA aC aH aT:Addr):Prop where
 hD:H D=some (.ins C dx (dl g aA aC z.s aH aT z.ed z.pl))
 hA:H aA=some (.tup (awV z.aw))
 hC:H aC=some (.tup (z.cl.map V.int))
 hH:H aH=some (.tup (z.he.map V.int))
 hT:H aT=some (.tup (z.to.map V.int))
theorem DbR.same {C:Addr} {H H':Hp} {D g:Addr} {z:Db} {dx aA aC aH aT:Addr} (h:DbR C H D g z dx aA aC aH aT) (s:Same H H'):DbR C H' D g z dx aA aC aH aT:=⟨s _ _ h.hD,s _ _ h.hA,s _ _ h.hC,s _ _ h.hH,s _ _ h.hT⟩
theorem DbR.set {C:Addr} {H:Hp} {D g:Addr} {z:Db} {dx aA aC aH aT C' dx':Addr} {fs:List (Str × V)} (hD:H D=some (.ins C' dx' fs)) (hA:H aA=some (.tup (awV z.aw))) (hC:H aC=some (.tup (z.cl.map V.int))) (hH:H aH=some (.tup (z.he.map V.int))) (hT:H aT=some (.tup (z.to.map V.int))) :
 DbR C (upd H D (.ins C dx (dl g aA aC z.s aH aT z.ed z.pl))) D g z dx aA aC aH aT:=by
 refine ⟨upd_same,?_,?_,?_,?_⟩
 . rw [ax (ne_of hA hD (by intro z; cases z))]; exact hA
 . rw [ax (ne_of hC hD (by intro z; cases z))]; exact hC
 . rw [ax (ne_of hH hD (by intro z; cases z))]; exact hH
 . rw [ax (ne_of hT hD (by intro z; cases z))]; exact hT
def DbAt (C:Addr) (H:Hp) (D g:Addr) (z:Db):Prop:=∃ dx aA aC aH aT,DbR C H D g z dx aA aC aH aT
theorem DbAt.same {C:Addr} {H H':Hp} {D g:Addr} {z:Db} (h:DbAt C H D g z) (s:Same H H'):DbAt C H' D g z:=by
 obtain ⟨_,_,_,_,_,r⟩:=h
 exact ⟨_,_,_,_,_,r.same s⟩
def Gm (CG:Addr) (H:Hp) (g:Addr) (ns:List Str) (ts:List Tr) (p:Int):Prop:=∃ (a b d:Addr) (tv:List V),GameAt CG H g a b d p/\H a=some (.tup (ns.map V.str))/\H b=some (.tup tv)/\TreesAt H tv ts/\H d=some (.lst ((ns.map (cP ts)).map V.int))
theorem Gm.same {CG:Addr} {H H':Hp} {g:Addr} {ns:List Str} {ts:List Tr} {p:Int} (h:Gm CG H g ns ts p) (s:Same H H'):Gm CG H' g ns ts p:=by
 obtain ⟨a,b,d,tv,h1,h2,h3,h4,h5⟩:=h
 exact ⟨a,b,d,tv,h1.same s,s _ _ h2,s _ _ h3,h4.mono (au s),s _ _ h5⟩
theorem gf_game (a b:Addr) (p:Int) (d:Addr):(gf a b p d).lookup ("game" : Str)=none:=gf_no _ _ _ _ (by decide +kernel) (by decide +kernel) (by decide +kernel) (by decide +kernel)
theorem Gm.ne {CG C:Addr} {H:Hp} {g D:Addr} {ns:List Str} {ts:List Tr} {p:Int} {dx:Addr} {fs:List (Str × V)} {v:V} (h:Gm CG H g ns ts p) (hD:H D=some (.ins C dx fs)) (hg:fs.lookup ("game" : Str)=some v):g ≠ D:=fun z=>by
 obtain ⟨a,b,d,tv,⟨dx',e⟩,_⟩:=h
 rw [z,hD] at e
 cases e
 rw [gf_game] at hg
 cases hg
theorem Gm.but {CG C:Addr} {H H':Hp} {g D:Addr} {ns:List Str} {ts:List Tr} {p:Int} {dx:Addr} {fs:List (Str × V)} (h:Gm CG H g ns ts p) (hD:H D=some (.ins C dx fs)) (hg:g ≠ D) (s:SameBut D H H'):Gm CG H' g ns ts p:=by
 obtain ⟨a,b,d,tv,⟨dx',e⟩,h2,h3,h4,h5⟩:=h
 exact ⟨a,b,d,tv,⟨dx',s _ _ hg e⟩,s _ _ (ne_of h2 hD (by intro z; cases z)) h2,s _ _ (ne_of h3 hD (by intro z; cases z)) h3,h4.mono (fun c xs hc=>s _ _ (ne_of hc hD (by intro z; cases z)) hc),s _ _ (ne_of h5 hD (by intro z; cases z)) h5⟩
structure GmK (ns:List Str) (ts:List Tr) (p:Int):Prop where
 pr:Pr p
 p2:2 < p
 p9:p<=999983
 n10:ns.length<=10
 t1:1<=ts.length
 t10:ts.length<=10
 tok:∀ t ∈ ts,t.ok ns/\t.wf/\t.depth<=10/\t.size<=400
 tp:(ts.length:Int)<=p
 tc:∀ t ∈ ts,∀ x ∈ ns,(t.names.count x:Int) < p
theorem GmK.deg {ns:List Str} {ts:List Tr} {p:Int} (k:GmK ns ts p):∀ x ∈ ns,0<=cP ts x/\cP ts x < p:=fun x hx=>by
 have t0:ts ≠ []:=fun z=>by have:=k.t1; rw [z] at this; cases this
 refine ⟨?_,degOf_lt t0 fun t ht=>k.tc t ht x hx⟩
 have:=maxD_mem (ns:=ts.map fun t=>(t.names.count x:Int)) (by simpa using t0)
 obtain ⟨t,_,e⟩:=List.mem_map.mp this
 unfold cP
 rw [← e]
 omega
def szs (ts:List Tr):Int:=(ts.map fun t=>(t.size:Int)).sum
def dA (ns:List Str) (ts:List Tr) (p:Int) (z:Db):Db :=
 { z with pl:=z.pl+szs ts,aw:=if z.ed=hor z.s p (ts.map fun t=>t.worth ns z.to p) then ("believed", none) else ("caught", some ((z.to.length:Int)+1)) }
def goOn (ns:List Str) (ts:List Tr) (p:Int) (z:Db):Db :=
 if z.to.length < ns.length then { z with aw:=("hear", some (cP ts (ns.getD z.to.length "")+1)) } else dA ns ts p z
def begR (ns:List Str) (ts:List Tr) (p s:Int) (z:Db):Db:=goOn ns ts p { z with s:=s,ed:=hor s p z.cl }
def hearC (ns:List Str) (ts:List Tr) (p:Int) (xs:List Int) (z:Db):Db :=
 if ts.length=1 then begR ns ts p 0 { z with cl:=xs } else { z with cl:=xs,aw:=("coin", none) }
def cW (p:Int) (xs:List Int) (z:Db):Db :=
 { z with he:=xs,aw:=if (val p xs 0+val p xs 1) % p=z.ed then ("coin", none) else ("caught", some ((z.to.length:Int)+1)) }
def cy (ns:List Str) (ts:List Tr) (p:Int) (xs:List Int) (z:Db):Db :=
 if z.cl=[] then hearC ns ts p xs { z with pl:=z.pl+(xs.length:Int) } else cW p xs { z with pl:=z.pl+(xs.length:Int) }
def cO (ns:List Str) (ts:List Tr) (p r:Int) (z:Db):Db :=
 if z.he=[] then begR ns ts p r { z with pl:=z.pl+1 } else goOn ns ts p { z with pl:=z.pl+1,ed:=val p z.he r,to:=z.to++[r] }
def Db.new (ts:List Tr):Db:=⟨("hear", some (ts.length:Int)),[],0,[],[],0,0⟩
def spIsNum:Sp:=fun vs H Q _=>∃ n p:Int,vs=[.int n,.int p]/\Q (.bl (decide (0<=n) && decide (n < p))) H
theorem sc_is_number:FnScope ["value", "p"] ["value", "p"] (af dG):=⟨rfl,rfl,rfl,by decide +kernel,rfl,by decide +kernel,by decide +kernel⟩
theorem ok_is_number {f:Addr} {fd:FuncData} (F:Fun K "is_number" "is_number" dG f fd) (B:Bl mg):FnOk P w K mg base CX0 1 f fd ["value", "p"] spIsNum:=by
 refine F.ok sc_is_number (fun vs H Q E h=>?_) (fun cdv A outer s H vs Q E hr h=>?_)
 . obtain ⟨n,p,rfl,_⟩:=h
   rfl
 obtain ⟨n,p,rfl,q⟩:=h
 refine ⟨_,(aj (aF (pe_and (aJ call_isinst rfl B.isinstance PyProof.Rows.boot_isinstance (aa (pv 0) (aa (pe_bltn (v:=V.ty "int") rfl B.int boot_int' rfl) ae))) (pe_and (pe_not (aJ call_isinst rfl B.isinstance PyProof.Rows.boot_isinstance (aa (pv 0) (aa (pe_bltn (v:=V.ty "bool") rfl B.bool boot_bool' rfl) ae)))) (pe_one (pe_chain op_le op_lt ag (pv 0) (pv 1))))))),?_⟩
 refine ⟨_,rfl,_,_, "int", true,rfl,TyOf.int _,kit_self _ _,true,rfl,iteT ?_⟩
 refine ⟨_,rfl,_,_, "bool", false,rfl,TyOf.int _,kit_int_bool _,false,rfl,true,rfl,iteT ?_⟩
 refine ⟨_,rfl,_,_,rfl,rfl,_,rfl,?_⟩
 by_cases c:0<=n
 . rw [decide_eq_true c] at q
   refine cS c ⟨_,rfl,_,_,rfl,rfl,?_⟩
   exact q
 . rw [decide_eq_false c] at q
   refine bd c ?_
   exact q
def spAllSz (C:Addr):Sp:=fun vs H Q _=>∃ (g:Addr) (ns:List Str) (ts:List Tr) (p:Int),vs=[.ref g]/\Gm C H g ns ts p/\GmK ns ts p/\∀ H',Same H H'->Q (.int (szs ts)) H'
theorem sc_all_sizes:FnScope ["game"] ["game"] (af dL):=⟨rfl,rfl,rfl,by decide +kernel,rfl,by decide +kernel,by decide +kernel⟩
theorem szs_rng {ts:List Tr} (h:∀ t ∈ ts,t.size<=400) (hl:ts.length<=10):0<=szs ts/\szs ts<=4000:=by
 have:∀ l:List Tr,(∀ t ∈ l,t.size<=400)->0<=szs l/\szs l<=400*(l.length:Int):=fun l=>by
  induction l with
  | nil=>intro _; exact ⟨Int.le_refl _,Int.le_refl _⟩
  | cons t r ih =>
    intro hh
    have h1:=ih fun u hu=>hh u (List.mem_cons_of_mem _ hu)
    have h2:=hh t (List.mem_cons_self ..)
    have e:szs (t::r)=(t.size:Int)+szs r:=by unfold szs; rw [List.map_cons,List.sum_cons]
    rw [e,List.length_cons]
    omega
 have:=this ts h
 omega
theorem ok_all_sizes {f C:Addr} {fd:FuncData} (F:Fun K "all_sizes" "all_sizes" dL f fd) (B:Bl mg) (T:GTxt K mg C) (C_size_of:Cal P w K mg base 12 "size_of" ["tree"] (spSize 10)):FnOk P w K mg base CX0 13 f fd ["game"] (spAllSz C):=by
 refine F.ok sc_all_sizes (fun vs H Q E h=>?_) (fun cdv A outer s H vs Q E hr h=>?_)
 . obtain ⟨g,ns,ts,p,rfl,_⟩:=h
   rfl
 obtain ⟨g,ns,ts,p,rfl,⟨a,b,d,tv,⟨dx,hg⟩,ha,hb,TS,hd⟩,k,q⟩:=h
 refine ⟨_,(aj (aF (aJ (call_sum rfl) rfl B.sum PyProof.Rows.boot_sum (aa (de (N:=[]) (ix:=[]) (cl:=[]) rfl (CompScope.closed (by with_unfolding_all rfl) (by decide) rfl (by decide) rfl (by with_unfolding_all rfl)) rfl
  (pi_tup (aG (pv 0) rfl)) (fun _ _ _=>dq (aE C_size_of hr (by decide) rfl (aa (pv 0) ae)))) ae)))),?_⟩
 have vl:=TS.length
 refine ⟨_,rfl,g,C,dx,_,_,rfl,hg,T.cl,T.nT,gf_tr ..,b,rfl,⟨_,SqT.of hb⟩,fun D hD=>?_⟩
 refine comp_tup (K:=K) (xs:=tv) (fun i H'=>H' D=some (.lst (((ts.take i).map fun t=>(t.size:Int)).map V.int))/\Same H H') ⟨by rw [upd_same]; rfl,Same.new hD _⟩ (fun i H' _ h=>SqT.of (h.2 _ _ hb)) ?_ ?_
 . rintro i x H2 hx ⟨hl,S2⟩
   obtain ⟨u,hu,Tu⟩:=TS.get hx
   obtain ⟨_,uw,ud,us⟩:=k.tok u (List.mem_of_getElem? hu)
   have hi:i < tv.length:=(List.getElem?_eq_some_iff.mp hx).1
   have:=k.t10
   refine ⟨_,rfl,x,u,rfl,Tu.mono (au S2),uw,ud,us,fun H3 S3=>?_⟩
   refine ⟨_,S3 _ _ hl,?_,Nx.of hi ⟨?_,fun b o e=>?_⟩⟩
   . rw [List.length_map,List.length_map,List.length_take]
     exact aS (by omega)
   . rw [upd_same,List.take_add_one,hu,List.map_append,List.map_append]
     rfl
   . rw [ax (ai e hD)]
     exact S3 _ _ (S2 _ _ e)
 . rintro H2 ⟨hl,S2⟩
   rw [vl,List.take_length] at hl
   have sr:=szs_rng (fun t ht=>(k.tok t ht).2.2.2) k.t10
   refine ⟨D,_,rfl,SqL.of hl,?_,?_,?_⟩
   . intro n hn
     obtain ⟨u,hu,rfl⟩:=List.mem_map.mp hn
     have:=(k.tok u hu).2.2.2
     omega
   . have e:((ts.map fun t=>(t.size:Int)).sum)=szs ts:=rfl
     rw [e]
     omega
   . exact q H2 S2
section
variable {C CG:Addr}
def spTrees (C CG:Addr):Sp:=fun vs H Q _=>∃ (D g:Addr) (z:Db) (ns:List Str) (ts:List Tr) (p:Int),vs=[.ref D]/\DbAt C H D g z/\Gm CG H g ns ts p/\GmK ns ts p/\z.to.length=ns.length/\cw z.to p/\∀ H',SameBut D H H'->DbAt C H' D g (dA ns ts p z)->Q .non H'
theorem sc_dtrees:FnScope ["self"] ["self"] (af s_dtrees):=⟨rfl,rfl,rfl,by decide +kernel,rfl,by decide +kernel,by decide +kernel⟩
theorem ok_dtrees {f fW:Addr} {fd fdW:FuncData} (F:Fun K "look_at_trees" "Doubter.look_at_trees" s_dtrees f fd) (B:Bl mg) (T:DTxt K mg C) (TG:GTxt K mg CG) (mW:Meth K CG "worth_at" fW) (GW:FnOk P w K mg base CX0 13 fW fdW ["self", "point", "s"] (spWAt CG)) (bW:Binds K fdW ["self", "point", "s"] [])
 (C_all_sizes:Cal P w K mg base 13 "all_sizes" ["game"] (spAllSz CG)):FnOk P w K mg base CX0 14 f fd ["self"] (spTrees C CG):=by
 refine F.ok sc_dtrees (fun vs H Q E h=>?_) (fun cdv A outer s H vs Q E hr h=>?_)
 . obtain ⟨D,g,z,ns,ts,p,rfl,_⟩:=h
   rfl
 obtain ⟨D,g,z,ns,ts,p,rfl,⟨dx,aA,aC,aH,aT,R⟩,G,k,tl,po,q⟩:=h
 have hr13:Room 13 _:=hr
 refine ⟨_,(ad (aQ (pv 0) (ao aX (aG (pv 0) rfl) (aE C_all_sizes hr (by decide) rfl (aa (aG (pv 0) rfl) ae))) rfl)
  (aj (aU (aB cu (aG (pv 0) rfl) (du (aG (pv 0) rfl) TG.cl mW GW hr13 bW .nil bF (aa (aG (pv 0) rfl) (aa (aG (pv 0) rfl) ae))) (aI _))
   (aj (aQ (pv 0) (aV (aa aO ae)) rfl))
   (aj (aQ (pv 0) (aV (aa aO (aa (ao aX (aJ aD rfl B.len PySem.boot_len (aa (aG (pv 0) rfl) ae)) ag) ae))) rfl))))),?_⟩
 have gD:=G.ne R.hD dl_g
 refine ⟨_,rfl,D,C,dx,_,_,rfl,R.hD,T.cl,T.nP,dl_pl,_,rfl,D,C,dx,_,_,rfl,R.hD,T.cl,T.nG,dl_g,g,ns,ts,p,rfl,G,k,fun H1 S1=>?_⟩
 have R1:=R.same S1
 refine ⟨_,_,rfl,rfl,_,rfl,D,C,dx,_,rfl,R1.hD,T.cl,T.nP,ca,?_⟩
 rw [put_pl]
 have S2:SameBut D H1 (upd H1 D (.ins C dx (dl g aA aC z.s aH aT z.ed (z.pl+szs ts)))):=SameBut.upd _
 have R2:DbR C (upd H1 D (.ins C dx (dl g aA aC z.s aH aT z.ed (z.pl+szs ts)))) D g { z with pl:=z.pl+szs ts } dx aA aC aH aT:=DbR.set (z:={ z with pl:=z.pl+szs ts }) R1.hD R1.hA R1.hC R1.hH R1.hT
 have G2:=(G.same S1).but R1.hD gD S2
 generalize upd H1 D (.ins C dx (dl g aA aC z.s aH aT z.ed (z.pl+szs ts)))=H2 at S2 R2 G2
 have G2':=G2
 obtain ⟨a,b,d,tv,GA,ha,hb,TS,hd⟩:=G2'
 obtain ⟨dg,hg⟩:=GA
 have p2:=k.p2
 have p9:=k.p9
 refine ⟨_,rfl,D,C,dx,_,_,rfl,R2.hD,T.cl,T.nE,dl_ed,_,rfl,D,C,dx,_,_,rfl,R2.hD,T.cl,T.nG,dl_g,g,dg,_,rfl,hg,gf_no _ _ _ _ (by decide +kernel) (by decide +kernel) (by decide +kernel) (by decide +kernel),_,rfl,D,C,dx,_,_,rfl,R2.hD,T.cl,T.nT,dl_t,_,rfl,D,C,dx,_,_,rfl,R2.hD,T.cl,T.nS,dl_s,?_⟩
 refine ⟨g,a,b,d,aT,ns,tv,ts,z.to,z.s,p,rfl,⟨dg,hg⟩,by omega,by omega,ha,hb,TS,k.t10,fun t ht=>⟨(k.tok t ht).1,(k.tok t ht).2.2.1⟩,R2.hT,tl,po,fun H3 S3=>?_⟩
 have R3:=R2.same S3
 have S03:SameBut D H H3:=(SameBut.of S1).trans (S2.trans (SameBut.of S3))
 refine ⟨rfl,_,rfl,?_⟩
 by_cases c:z.ed=hor z.s p (ts.map fun t=>t.worth ns z.to p)
 . refine cS (congrArg V.int c) ?_
   refine ⟨(by show 1<=sizeLine; decide),fun t ht=>?_⟩
   have I:=Same.new ht (.tup [.str "believed"])
   have R4:=R3.same I
   refine ⟨_,rfl,D,C,dx,_,rfl,R4.hD,T.cl,T.nA,ca,?_⟩
   rw [put_a]
   have e:dA ns ts p z={ z with pl:=z.pl+szs ts,aw:=("believed", none) }:=by
    unfold dA
    rw [if_pos c]
   refine q _ (S03.trans ((SameBut.of I).trans (SameBut.upd _))) ?_
   rw [e]
   exact ⟨dx,t,aC,aH,aT,DbR.set (z:={ z with pl:=z.pl+szs ts,aw:=("believed", none) }) R4.hD upd_same R4.hC R4.hH R4.hT⟩
 . refine bd (fun e=>c (V.int.inj e)) ?_
   refine ⟨_,rfl,D,C,dx,_,_,rfl,R3.hD,T.cl,T.nT,dl_t,aT,_,rfl,.inr (SqT.of R3.hT),_,_,rfl,rfl,(by show 2<=sizeLine; decide),fun t ht=>?_⟩
   have I:=Same.new ht (.tup [.str "caught", .int (((z.to.map V.int).length:Int)+1)])
   have R4:=R3.same I
   refine ⟨_,rfl,D,C,dx,_,rfl,R4.hD,T.cl,T.nA,ca,?_⟩
   rw [put_a]
   have e:dA ns ts p z={ z with pl:=z.pl+szs ts,aw:=("caught", some ((z.to.length:Int)+1)) }:=by
    unfold dA
    rw [if_neg c]
   refine q _ (S03.trans ((SameBut.of I).trans (SameBut.upd _))) ?_
   rw [e]
   refine ⟨dx,t,aC,aH,aT,DbR.set (z:={ z with pl:=z.pl+szs ts,aw:=("caught", some ((z.to.length:Int)+1)) }) R4.hD ?_ R4.hC R4.hH R4.hT⟩
   rw [upd_same,List.length_map]
   rfl
theorem ints_at {xs:List Int} {j:Nat} (h:j < xs.length):atI (xs.map V.int) (j:Int)=some (.int (xs.getD j 0)):=cL (by rw [List.getElem?_map,List.getElem?_eq_getElem h,List.getD_eq_getElem?_getD,List.getElem?_eq_getElem h]; rfl)
theorem degs_at {ns:List Str} {ts:List Tr} {j:Nat} (h:j < ns.length):(ns.map (cP ts)).getD j 0=cP ts (ns.getD j ""):=by
 rw [List.getD_eq_getElem?_getD,List.getElem?_map,List.getD_eq_getElem?_getD,List.getElem?_eq_getElem h]
 rfl
def spGo (C CG:Addr):Sp:=fun vs H Q _=>∃ (D g:Addr) (z:Db) (ns:List Str) (ts:List Tr) (p:Int),vs=[.ref D]/\DbAt C H D g z/\Gm CG H g ns ts p/\GmK ns ts p/\z.to.length<=ns.length/\cw z.to p/\∀ H',SameBut D H H'->DbAt C H' D g (goOn ns ts p z)->Q .non H'
theorem sc_dgo:FnScope ["self", "done"] ["self"] (af s_dgo):=⟨rfl,rfl,rfl,by decide +kernel,rfl,by decide +kernel,by decide +kernel⟩
theorem ok_dgo {f fT:Addr} {fd fdT:FuncData} (F:Fun K "go_on" "Doubter.go_on" s_dgo f fd) (B:Bl mg) (T:DTxt K mg C) (TG:GTxt K mg CG) (mT:Meth K C "look_at_trees" fT) (GT:FnOk P w K mg base CX0 14 fT fdT ["self"] (spTrees C CG)) (bT:Binds K fdT ["self"] []):FnOk P w K mg base CX0 15 f fd ["self"] (spGo C CG):=by
 refine F.ok sc_dgo (fun vs H Q E h=>?_) (fun cdv A outer s H vs Q E hr h=>?_)
 . obtain ⟨D,g,z,ns,ts,p,rfl,_⟩:=h
   rfl
 obtain ⟨D,g,z,ns,ts,p,rfl,⟨dx,aA,aC,aH,aT,R⟩,G,k,tl,po,q⟩:=h
 refine ⟨_,(ad (aq (i:=1) sc_dgo.nd rfl (Or.inl rfl) (aJ aD rfl B.len PySem.boot_len (aa (aG (pv 0) rfl) ae)))
  (aj (aU (aB op_lt (pv 1) (aJ aD rfl B.len PySem.boot_len (aa (aG (aG (pv 0) rfl) rfl) ae)) (aI _))
   (aj (aQ (pv 0) (aV (aa aO (aa (ao aX (aR ix_list (aG (aG (pv 0) rfl) rfl) (pv 1) (fun _ _=>rfl)) ag) ae))) rfl))
   (aj (bP (bQ (pv 0) T.cl mT GT hr bT .nil bF)))))),?_⟩
 have G':=G
 obtain ⟨a,b,d,tv,⟨dg,hg⟩,ha,hb,TS,hd⟩:=G'
 refine ⟨_,rfl,D,C,dx,_,_,rfl,R.hD,T.cl,T.nT,dl_t,aT,_,rfl,.inr (SqT.of R.hT),?_⟩
 refine ⟨_,rfl,_,rfl,D,C,dx,_,_,rfl,R.hD,T.cl,T.nG,dl_g,g,CG,dg,_,_,rfl,hg,TG.cl,TG.nS,gf_sw ..,a,_,rfl,.inr (SqT.of ha),_,_,rfl,rfl,_,rfl,?_⟩
 by_cases c:z.to.length < ns.length
 . refine cS (by rw [List.length_map,List.length_map]; omega) ?_
   have ej:((z.to.map V.int).length:Int)=(z.to.length:Int):=by rw [List.length_map]
   have hx:ns.getD z.to.length "" ∈ ns:=by
    rw [List.getD_eq_getElem?_getD,List.getElem?_eq_getElem c]
    exact List.getElem_mem c
   have dr:=k.deg _ hx
   refine ⟨_,rfl,D,C,dx,_,_,rfl,R.hD,T.cl,T.nG,dl_g,g,CG,dg,_,_,rfl,hg,TG.cl,TG.nD,gf_de ..,_,rfl,d,_,_,_,rfl,rfl,SqL.of hd,by rw [ej]; exact ints_at (by rw [List.length_map]; exact c),_,_,rfl,rfl,(by show 2<=sizeLine; decide),fun t ht=>?_⟩
   rw [degs_at c] at *
   have I:=Same.new ht (.tup [.str "hear", .int (cP ts (ns.getD z.to.length "")+1)])
   have R4:=R.same I
   refine ⟨_,rfl,D,C,dx,_,rfl,R4.hD,T.cl,T.nA,ca,?_⟩
   rw [put_a]
   have e:goOn ns ts p z={ z with aw:=("hear", some (cP ts (ns.getD z.to.length "")+1)) }:=by
    unfold goOn
    rw [if_pos c]
   refine q _ ((SameBut.of I).trans (SameBut.upd _)) ?_
   rw [e]
   exact ⟨dx,t,aC,aH,aT,DbR.set (z:={ z with aw:=("hear", some (cP ts (ns.getD z.to.length "")+1)) }) R4.hD upd_same R4.hC R4.hH R4.hT⟩
 . refine bd (by rw [List.length_map,List.length_map]; omega) ?_
   have e:goOn ns ts p z=dA ns ts p z:=by
    unfold goOn
    rw [if_neg c]
   rw [e] at q
   refine ⟨_,rfl,D,dx,_,rfl,R.hD,dl_n10,?_⟩
   exact ⟨D,g,z,ns,ts,p,rfl,⟨dx,aA,aC,aH,aT,R⟩,G,k,by omega,po,q⟩
def spBeg (C CG:Addr):Sp:=fun vs H Q _=>∃ (D g:Addr) (z:Db) (s:Int) (ns:List Str) (ts:List Tr) (p:Int),vs=[.ref D,.int s]/\DbAt C H D g z/\Gm CG H g ns ts p/\GmK ns ts p/\z.to.length<=ns.length/\cw z.to p/\∀ H',SameBut D H H'->DbAt C H' D g (begR ns ts p s z)->Q .non H'
theorem sc_dbegin:FnScope ["self", "s"] ["self", "s"] (af s_dbegin):=⟨rfl,rfl,rfl,by decide +kernel,rfl,by decide +kernel,by decide +kernel⟩
theorem ok_dbegin {f fG fM:Addr} {fd fdG fdM:FuncData} (F:Fun K "begin_rounds" "Doubter.begin_rounds" s_dbegin f fd) (T:DTxt K mg C) (TG:GTxt K mg CG) (mM:Meth K CG "mix" fM) (GM:FnOk P w K mg base CX0 1 fM fdM ["self", "numbers", "s"] (spMix CG)) (bM:Binds K fdM ["self", "numbers", "s"] [])
 (mG:Meth K C "go_on" fG) (GG:FnOk P w K mg base CX0 15 fG fdG ["self"] (spGo C CG)) (bG:Binds K fdG ["self"] []):FnOk P w K mg base CX0 16 f fd ["self", "s"] (spBeg C CG):=by
 refine F.ok sc_dbegin (fun vs H Q E h=>?_) (fun cdv A outer s H vs Q E hr h=>?_)
 . obtain ⟨D,g,z,s,ns,ts,p,rfl,_⟩:=h
   rfl
 obtain ⟨D,g,z,s,ns,ts,p,rfl,⟨dx,aA,aC,aH,aT,R⟩,G,k,tl,po,q⟩:=h
 have hr1:Room 1 _:=hr.mono (by decide)
 refine ⟨_,(ad (aQ (pv 0) (pv 1) rfl)
  (ad (aQ (pv 0) (du (aG (pv 0) rfl) TG.cl mM GM hr1 bM .nil bF (aa (aG (pv 0) rfl) (aa (pv 1) ae))) rfl)
  (aj (bP (bQ (pv 0) T.cl mG GG hr bG .nil bF))))),?_⟩
 have gD:=G.ne R.hD dl_g
 have p2:=k.p2
 have p9:=k.p9
 refine ⟨_,rfl,_,rfl,D,C,dx,_,rfl,R.hD,T.cl,T.nS,ca,?_⟩
 rw [put_s]
 have S1:SameBut D H (upd H D (.ins C dx (dl g aA aC s aH aT z.ed z.pl))):=SameBut.upd _
 have R1:DbR C (upd H D (.ins C dx (dl g aA aC s aH aT z.ed z.pl))) D g { z with s:=s } dx aA aC aH aT:=DbR.set (z:={ z with s:=s }) R.hD R.hA R.hC R.hH R.hT
 have G1:=G.but R.hD gD S1
 generalize upd H D (.ins C dx (dl g aA aC s aH aT z.ed z.pl))=H1 at S1 R1 G1
 have G1':=G1
 obtain ⟨a,b,d,tv,⟨dg,hg⟩,ha,hb,TS,hd⟩:=G1'
 refine ⟨_,rfl,D,C,dx,_,_,rfl,R1.hD,T.cl,T.nG,dl_g,g,dg,_,rfl,hg,gf_no _ _ _ _ (by decide +kernel) (by decide +kernel) (by decide +kernel) (by decide +kernel),_,rfl,D,C,dx,_,_,rfl,R1.hD,T.cl,T.nC,dl_c,_,rfl,?_⟩
 refine ⟨g,a,b,d,aC,z.cl,s,p,rfl,⟨dg,hg⟩,by omega,by omega,.inr R1.hC,?_⟩
 refine ⟨_,rfl,D,C,dx,_,rfl,R1.hD,T.cl,T.nE,ca,?_⟩
 rw [put_ed]
 have S2:SameBut D H1 (upd H1 D (.ins C dx (dl g aA aC s aH aT (hor s p z.cl) z.pl))):=SameBut.upd _
 have R2:DbR C (upd H1 D (.ins C dx (dl g aA aC s aH aT (hor s p z.cl) z.pl))) D g { z with s:=s,ed:=hor s p z.cl } dx aA aC aH aT:=DbR.set (z:={ z with s:=s,ed:=hor s p z.cl }) R1.hD R1.hA R1.hC R1.hH R1.hT
 have G2:=G1.but R1.hD gD S2
 generalize upd H1 D (.ins C dx (dl g aA aC s aH aT (hor s p z.cl) z.pl))=H2 at S2 R2 G2
 refine ⟨_,rfl,D,dx,_,rfl,R2.hD,dl_n9,?_⟩
 exact ⟨D,g,_,ns,ts,p,rfl,⟨dx,aA,aC,aH,aT,R2⟩,G2,k,tl,po,fun H3 S3 D3=>q H3 (S1.trans (S2.trans S3)) D3⟩
def spClaims (C CG:Addr):Sp:=fun vs H Q _=>∃ (D g l:Addr) (z:Db) (xs:List Int) (ns:List Str) (ts:List Tr) (p:Int),vs=[.ref D,.ref l]/\DbAt C H D g z/\Gm CG H g ns ts p/\GmK ns ts p/\H l=some (.tup (xs.map V.int))/\z.to.length<=ns.length/\cw z.to p/\∀ H',SameBut D H H'->DbAt C H' D g (hearC ns ts p xs z)->Q .non H'
theorem sc_dclaims:FnScope ["self", "values"] ["self", "values"] (af s_dclaims):=⟨rfl,rfl,rfl,by decide +kernel,rfl,by decide +kernel,by decide +kernel⟩
theorem ok_dclaims {f fB:Addr} {fd fdB:FuncData} (F:Fun K "hear_claims" "Doubter.hear_claims" s_dclaims f fd) (B:Bl mg) (T:DTxt K mg C) (TG:GTxt K mg CG) (mB:Meth K C "begin_rounds" fB) (GB:FnOk P w K mg base CX0 16 fB fdB ["self", "s"] (spBeg C CG)) (bB:Binds K fdB ["self", "s"] []):FnOk P w K mg base CX0 17 f fd ["self", "values"] (spClaims C CG):=by
 refine F.ok sc_dclaims (fun vs H Q E h=>?_) (fun cdv A outer s H vs Q E hr h=>?_)
 . obtain ⟨D,g,l,z,xs,ns,ts,p,rfl,_⟩:=h
   rfl
 obtain ⟨D,g,l,z,xs,ns,ts,p,rfl,⟨dx,aA,aC,aH,aT,R⟩,G,k,hl,tl,po,q⟩:=h
 refine ⟨_,(ad (aQ (pv 0) (pv 1) rfl)
  (aj (aU (aB cu (aJ aD rfl B.len PySem.boot_len (aa (aG (aG (pv 0) rfl) rfl) ae)) ag (aI _))
   (aj (bP (du (pv 0) T.cl mB GB hr bB .nil bF (aa ag ae))))
   (aj (aQ (pv 0) (aV (aa aO ae)) rfl))))),?_⟩
 have gD:=G.ne R.hD dl_g
 refine ⟨_,rfl,_,rfl,D,C,dx,_,rfl,R.hD,T.cl,T.nC,ca,?_⟩
 rw [put_c]
 have S1:SameBut D H (upd H D (.ins C dx (dl g aA l z.s aH aT z.ed z.pl))):=SameBut.upd _
 have R1:DbR C (upd H D (.ins C dx (dl g aA l z.s aH aT z.ed z.pl))) D g { z with cl:=xs } dx aA l aH aT:=DbR.set (z:={ z with cl:=xs }) R.hD R.hA hl R.hH R.hT
 have G1:=G.but R.hD gD S1
 generalize upd H D (.ins C dx (dl g aA l z.s aH aT z.ed z.pl))=H1 at S1 R1 G1
 have G1':=G1
 obtain ⟨a,b,d,tv,⟨dg,hg⟩,ha,hb,TS,hd⟩:=G1'
 have vl:=TS.length
 refine ⟨_,rfl,D,C,dx,_,_,rfl,R1.hD,T.cl,T.nG,dl_g,g,CG,dg,_,_,rfl,hg,TG.cl,TG.nT,gf_tr ..,b,_,rfl,.inr (SqT.of hb),rfl,_,rfl,?_⟩
 by_cases c:ts.length=1
 . refine cS (congrArg V.int (by omega)) ?_
   have e:hearC ns ts p xs z=begR ns ts p 0 { z with cl:=xs }:=by
    unfold hearC
    rw [if_pos c]
   rw [e] at q
   refine ⟨_,rfl,D,dx,_,rfl,R1.hD,dl_n7,?_⟩
   exact ⟨D,g,_,0,ns,ts,p,rfl,⟨dx,aA,l,aH,aT,R1⟩,G1,k,tl,po,fun H3 S3 D3=>q H3 (S1.trans S3) D3⟩
 . refine bd (fun e=>c (by have:=V.int.inj e; omega)) ?_
   have e:hearC ns ts p xs z={ z with cl:=xs,aw:=("coin", none) }:=by
    unfold hearC
    rw [if_neg c]
   refine ⟨(by show 1<=sizeLine; decide),fun t ht=>?_⟩
   have I:=Same.new ht (.tup [.str "coin"])
   have R4:=R1.same I
   refine ⟨_,rfl,D,C,dx,_,rfl,R4.hD,T.cl,T.nA,ca,?_⟩
   rw [put_a]
   refine q _ (S1.trans ((SameBut.of I).trans (SameBut.upd _))) ?_
   rw [e]
   exact ⟨dx,t,l,aH,aT,DbR.set (z:={ z with cl:=xs,aw:=("coin", none) }) R4.hD upd_same R4.hC R4.hH R4.hT⟩
def spHRow (C CG:Addr):Sp:=fun vs H Q _=>∃ (D g l:Addr) (z:Db) (xs:List Int) (ns:List Str) (ts:List Tr) (p:Int),vs=[.ref D,.ref l]/\DbAt C H D g z/\Gm CG H g ns ts p/\GmK ns ts p/\H l=some (.tup (xs.map V.int))/\RowOk xs p/\∀ H',SameBut D H H'->DbAt C H' D g (cW p xs z)->Q .non H'
theorem sc_drow:FnScope ["self", "values"] ["self", "values"] (af s_drow):=⟨rfl,rfl,rfl,by decide +kernel,rfl,by decide +kernel,by decide +kernel⟩
theorem ok_drow {f:Addr} {fd:FuncData} (F:Fun K "hear_row" "Doubter.hear_row" s_drow f fd) (B:Bl mg) (T:DTxt K mg C) (TG:GTxt K mg CG) (C_both_ends:Cal P w K mg base 5 "both_ends" ["values", "p"] spEnds):FnOk P w K mg base CX0 6 f fd ["self", "values"] (spHRow C CG):=by
 refine F.ok sc_drow (fun vs H Q E h=>?_) (fun cdv A outer s H vs Q E hr h=>?_)
 . obtain ⟨D,g,l,z,xs,ns,ts,p,rfl,_⟩:=h
   rfl
 obtain ⟨D,g,l,z,xs,ns,ts,p,rfl,⟨dx,aA,aC,aH,aT,R⟩,G,k,hl,ro,q⟩:=h
 refine ⟨_,(ad (aQ (pv 0) (pv 1) rfl)
  (aj (aU (aB cu (aE C_both_ends hr (by decide) rfl (aa (pv 1) (aa (aG (aG (pv 0) rfl) rfl) ae))) (aG (pv 0) rfl) (aI _))
   (aj (aQ (pv 0) (aV (aa aO ae)) rfl))
   (aj (aQ (pv 0) (aV (aa aO (aa (ao aX (aJ aD rfl B.len PySem.boot_len (aa (aG (pv 0) rfl) ae)) ag) ae))) rfl))))),?_⟩
 have gD:=G.ne R.hD dl_g
 refine ⟨_,rfl,_,rfl,D,C,dx,_,rfl,R.hD,T.cl,T.nH,ca,?_⟩
 rw [put_h]
 have S1:SameBut D H (upd H D (.ins C dx (dl g aA aC z.s l aT z.ed z.pl))):=SameBut.upd _
 have R1:DbR C (upd H D (.ins C dx (dl g aA aC z.s l aT z.ed z.pl))) D g { z with he:=xs } dx aA aC l aT:=DbR.set (z:={ z with he:=xs }) R.hD R.hA R.hC hl R.hT
 have G1:=G.but R.hD gD S1
 generalize upd H D (.ins C dx (dl g aA aC z.s l aT z.ed z.pl))=H1 at S1 R1 G1
 have G1':=G1
 obtain ⟨a,b,d,tv,⟨dg,hg⟩,ha,hb,TS,hd⟩:=G1'
 refine ⟨_,rfl,_,rfl,D,C,dx,_,_,rfl,R1.hD,T.cl,T.nG,dl_g,g,CG,dg,_,_,rfl,hg,TG.cl,TG.nF,gf_fi ..,l,xs,p,rfl,.inr R1.hH,ro,k.pr,k.p9,fun H2 S2=>?_⟩
 have R2:=R1.same S2
 refine ⟨_,rfl,D,C,dx,_,_,rfl,R2.hD,T.cl,T.nE,dl_ed,rfl,_,rfl,?_⟩
 have S02:SameBut D H H2:=S1.trans (SameBut.of S2)
 by_cases c:(val p xs 0+val p xs 1) % p=z.ed
 . refine cS (congrArg V.int c) ?_
   have e:cW p xs z={ z with he:=xs,aw:=("coin", none) }:=by
    unfold cW
    rw [if_pos c]
   refine ⟨(by show 1<=sizeLine; decide),fun t ht=>?_⟩
   have I:=Same.new ht (.tup [.str "coin"])
   have R4:=R2.same I
   refine ⟨_,rfl,D,C,dx,_,rfl,R4.hD,T.cl,T.nA,ca,?_⟩
   rw [put_a]
   refine q _ (S02.trans ((SameBut.of I).trans (SameBut.upd _))) ?_
   rw [e]
   exact ⟨dx,t,aC,l,aT,DbR.set (z:={ z with he:=xs,aw:=("coin", none) }) R4.hD upd_same R4.hC R4.hH R4.hT⟩
 . refine bd (fun e=>c (V.int.inj e)) ?_
   have e:cW p xs z={ z with he:=xs,aw:=("caught", some ((z.to.length:Int)+1)) }:=by
    unfold cW
    rw [if_neg c]
   refine ⟨_,rfl,D,C,dx,_,_,rfl,R2.hD,T.cl,T.nT,dl_t,aT,_,rfl,.inr (SqT.of R2.hT),_,_,rfl,rfl,(by show 2<=sizeLine; decide),fun t ht=>?_⟩
   have I:=Same.new ht (.tup [.str "caught", .int (((z.to.map V.int).length:Int)+1)])
   have R4:=R2.same I
   refine ⟨_,rfl,D,C,dx,_,rfl,R4.hD,T.cl,T.nA,ca,?_⟩
   rw [put_a]
   refine q _ (S02.trans ((SameBut.of I).trans (SameBut.upd _))) ?_
   rw [e]
   refine ⟨dx,t,aC,l,aT,DbR.set (z:={ z with he:=xs,aw:=("caught", some ((z.to.length:Int)+1)) }) R4.hD ?_ R4.hC R4.hH R4.hT⟩
   rw [upd_same,List.length_map]
   rfl
end
section
variable {C CG:Addr}
theorem rep_intsT {K:W.Frag} {H:Hp} {a:Addr} {xs:List Int} (h:H a=some (.tup (xs.map V.int))):Rep K H (.ref a) (.tuple (xs.map PyData.int)):=.tup (SqT.of h) (rep_ints xs)
theorem eqv_ti0 (xs:List Int):PyData.eqv (.tuple (xs.map PyData.int)) (.tuple [])=decide (xs=[]):=by
 cases xs with
 | nil=>rfl
 | cons a r=>rfl
theorem shaped_ti (ns:List Int):SeqAt.shaped (.tuple (ns.map PyData.int))=true:=by
 simp [SeqAt.shaped,PyData.canLay0,PyData.depth,W.ke_canLayAll0,W.ke_depthAll]
def spHear (C CG:Addr):Sp:=fun vs H Q _=>∃ (D g l:Addr) (z:Db) (xs:List Int) (ns:List Str) (ts:List Tr) (p:Int),vs=[.ref D,.ref l]/\DbAt C H D g z/\Gm CG H g ns ts p/\GmK ns ts p/\H l=some (.lst (xs.map V.int))/\z.aw=(("hear" : Str),some (xs.length:Int))/\cw xs p/\xs.length<=500/\(z.cl ≠ []->RowOk xs p)/\z.to.length<=ns.length/\cw z.to p/\∀ H',SameBut D H H'->DbAt C H' D g (cy ns ts p xs z)->Q .non H'
theorem sc_dhear:FnScope ["self", "values"] ["self", "values"] (af s_dhear):=⟨rfl,rfl,rfl,by decide +kernel,rfl,by decide +kernel,by decide +kernel⟩
theorem ok_dhear {f fC fR:Addr} {fd fdC fdR:FuncData} (F:Fun K "hear" "Doubter.hear" s_dhear f fd) (B:Bl mg) (T:DTxt K mg C) (TG:GTxt K mg CG) (C_is_number:Cal P w K mg base 1 "is_number" ["value", "p"] spIsNum)
 (mC:Meth K C "hear_claims" fC) (GC:FnOk P w K mg base CX0 17 fC fdC ["self", "values"] (spClaims C CG)) (bC:Binds K fdC ["self", "values"] [])
 (mR:Meth K C "hear_row" fR) (GR:FnOk P w K mg base CX0 6 fR fdR ["self", "values"] (spHRow C CG)) (bR:Binds K fdR ["self", "values"] []):FnOk P w K mg base CX0 18 f fd ["self", "values"] (spHear C CG):=by
 refine F.ok sc_dhear (fun vs H Q E h=>?_) (fun cdv A outer s H vs Q E hr h=>?_)
 . obtain ⟨D,g,l,z,xs,ns,ts,p,rfl,_⟩:=h
   rfl
 obtain ⟨D,g,l,z,xs,ns,ts,p,rfl,⟨dx,aA,aC,aH,aT,R⟩,G,k,hl,ea,xo,xl,ro,tl,po,q⟩:=h
 have hr6:Room 6 _:=hr.mono (by decide)
 refine ⟨_,(ad (aU (aB op_ne (aR ix_tup (aG (pv 0) rfl) ag (fun _ _=>rfl)) aO (aI _)) cR aN)
  (ad (aU (aB op_ne (aJ aD rfl B.len PySem.boot_len (aa (pv 1) ae)) (aR ix_tup (aG (pv 0) rfl) ag (fun _ _=>rfl)) (aI _)) cR aN)
  (ad (aU (pt_not (pt_val (aJ (call_all rfl) rfl B.all PyProof.Rows.boot_all (aa (de (N:=["self"]) (ix:=[0]) rfl
   (CompScope.one (by with_unfolding_all rfl) (by decide) rfl (by decide) rfl (by decide +kernel) (by with_unfolding_all rfl) (by with_unfolding_all rfl) (by with_unfolding_all rfl) rfl rfl) rfl
   (pi_list (pv 1)) (fun _ _ _=>dq (aE C_is_number hr (by decide) rfl (aa (pv 0) (aa (pe_fldK K (pe_fldK K (pv 1))) ae))))) ae)))) cR aN)
  (ad (aQ (pv 0) (ao aX (aG (pv 0) rfl) (aJ aD rfl B.len PySem.boot_len (aa (pv 1) ae))) rfl)
  (aj (aU (aB (op_eqD hr.units) (aG (pv 0) rfl) (aV ae) (aI _))
   (aj (bP (du (pv 0) T.cl mC GC hr bC .nil bF (aa (bN bE rfl B.tuple bZ (aa (pv 1) ae)) ae))))
   (aj (bP (du (pv 0) T.cl mR GR hr6 bR .nil bF (aa (bN bE rfl B.tuple bZ (aa (pv 1) ae)) ae)))))))))),?_⟩
 have gD:=G.ne R.hD dl_g
 have hA:=R.hA
 rw [ea] at hA
 have hA:H aA=some (.tup [.str "hear", .int (xs.length:Int)]):=hA
 refine ⟨_,rfl,D,C,dx,_,_,rfl,R.hD,T.cl,T.nA,dl_a,aA,_,_,_,rfl,rfl,SqT.of hA,cL (j:=0) rfl,rfl,_,rfl,?_⟩
 refine iteNS rfl ?_
 refine ⟨_,rfl,l,_,rfl,.inl (SqL.of hl),_,rfl,D,C,dx,_,_,rfl,R.hD,T.cl,T.nA,dl_a,aA,_,_,_,rfl,rfl,SqT.of hA,cL (j:=1) rfl,rfl,_,rfl,?_⟩
 refine iteNS (by rw [List.length_map]) ?_
 have G':=G
 obtain ⟨a,b,d,tv,⟨dg,hg⟩,ha,hb,TS,hd⟩:=G'
 refine ⟨_,rfl,l,rfl,⟨_,SqL.of hl⟩,fun W hW=>?_⟩
 refine comp_list (K:=K) (xs:=xs.map V.int) (fun i H'=>H' W=some (.lst ((List.replicate i true).map V.bl))/\Same H H') ⟨by rw [upd_same]; rfl,Same.new hW _⟩ (fun i H' _ h=>SqL.of (h.2 _ _ hl)) ?_ ?_
 . rintro i v H2 hv ⟨hW2,S2⟩
   have hi:=(List.getElem?_eq_some_iff.mp hv).1
   rw [List.getElem?_map] at hv
   obtain ⟨n,hn,rfl⟩:=Option.map_eq_some_iff.mp hv
   have nr:=xo n (List.mem_of_getElem? hn)
   refine ⟨_,rfl,_,rfl,D,C,dx,_,_,rfl,S2 _ _ R.hD,T.cl,T.nG,dl_g,g,CG,dg,_,_,rfl,S2 _ _ hg,TG.cl,TG.nF,gf_fi ..,n,p,rfl,?_⟩
   rw [decide_eq_true nr.1,decide_eq_true nr.2]
   refine ⟨_,hW2,?_,Nx.of hi ⟨?_,fun b o e=>?_⟩⟩
   . rw [List.length_map,List.length_replicate]
     rw [List.length_map] at hi
     exact aS (by omega)
   . rw [upd_same,List.replicate_succ',List.map_append]
     rfl
   . rw [ax (ai e hW)]
     exact S2 _ _ e
 rintro H1 ⟨hW1,S1⟩
 refine ⟨W,_,rfl,SqL.of hW1,?_⟩
 have ea:(List.replicate (xs.map V.int).length true).all id=true:=by simp
 rw [ea]
 refine ⟨_,rfl,?_⟩
 refine iteF ?_
 have R1:=R.same S1
 have G1:=G.same S1
 refine ⟨_,rfl,D,C,dx,_,_,rfl,R1.hD,T.cl,T.nP,dl_pl,_,rfl,l,_,rfl,.inl (SqL.of (S1 _ _ hl)),_,_,rfl,rfl,_,rfl,D,C,dx,_,rfl,R1.hD,T.cl,T.nP,ca,?_⟩
 rw [put_pl,List.length_map]
 have S2:SameBut D H1 (upd H1 D (.ins C dx (dl g aA aC z.s aH aT z.ed (z.pl+(xs.length:Int))))):=SameBut.upd _
 have R2:DbR C (upd H1 D (.ins C dx (dl g aA aC z.s aH aT z.ed (z.pl+(xs.length:Int))))) D g { z with pl:=z.pl+(xs.length:Int) } dx aA aC aH aT:=DbR.set (z:={ z with pl:=z.pl+(xs.length:Int) }) R1.hD R1.hA R1.hC R1.hH R1.hT
 have G2:=G1.but R1.hD gD S2
 have hl2:upd H1 D (.ins C dx (dl g aA aC z.s aH aT z.ed (z.pl+(xs.length:Int)))) l=some (.lst (xs.map V.int)):=by
  rw [ax (ne_of hl R.hD (by intro z; cases z))]
  exact S1 _ _ hl
 generalize upd H1 D (.ins C dx (dl g aA aC z.s aH aT z.ed (z.pl+(xs.length:Int))))=H2 at S2 R2 G2 hl2
 refine ⟨_,rfl,D,C,dx,_,_,rfl,R2.hD,T.cl,T.nC,dl_c,(by show 0<=sizeLine; decide),fun u hu=>?_⟩
 have I:=Same.new hu (.tup [])
 have R3:=R2.same I
 have hu3:upd H2 u (.tup []) u=some (.tup []):=upd_same
 have hl3:=I _ _ hl2
 have G3:=G2.same I
 generalize upd H2 u (.tup [])=H3 at I R3 hu3 hl3 G3
 have S03:SameBut D H H3:=(SameBut.of S1).trans (S2.trans (SameBut.of I))
 refine ⟨_,_,rep_intsT R3.hC,rep_intsT (xs:=[]) hu3,shaped_ti _,shaped_ti [],_,rfl,?_⟩
 rw [show PyData.eqv (.tuple (z.cl.map PyData.int)) (.tuple (([]:List Int).map PyData.int))=decide (z.cl=[]) from eqv_ti0 z.cl]
 by_cases c:z.cl=[]
 . refine cS c ?_
   have e:cy ns ts p xs z=hearC ns ts p xs { z with pl:=z.pl+(xs.length:Int) }:=by
    unfold cy
    rw [if_pos c]
   rw [e] at q
   refine ⟨_,rfl,D,dx,_,rfl,R3.hD,dl_n6,?_⟩
   refine ⟨_,rfl,l,_,rfl,.inl ⟨SqL.of hl3,fun t ht=>?_⟩⟩
   have J:=Same.new ht (.tup (xs.map V.int))
   exact ⟨D,g,t,_,xs,ns,ts,p,rfl,⟨dx,aA,aC,aH,aT,R3.same J⟩,G3.same J,k,upd_same,tl,po,fun H5 S5 D5=>q H5 (S03.trans ((SameBut.of J).trans S5)) D5⟩
 . refine bd c ?_
   have e:cy ns ts p xs z=cW p xs { z with pl:=z.pl+(xs.length:Int) }:=by
    unfold cy
    rw [if_neg c]
   rw [e] at q
   refine ⟨_,rfl,D,dx,_,rfl,R3.hD,dl_n8,?_⟩
   refine ⟨_,rfl,l,_,rfl,.inl ⟨SqL.of hl3,fun t ht=>?_⟩⟩
   have J:=Same.new ht (.tup (xs.map V.int))
   exact ⟨D,g,t,_,xs,ns,ts,p,rfl,⟨dx,aA,aC,aH,aT,R3.same J⟩,G3.same J,k,upd_same,ro c,fun H5 S5 D5=>q H5 (S03.trans ((SameBut.of J).trans S5)) D5⟩
def spToss (C CG:Addr):Sp:=fun vs H Q _=>∃ (D g:Addr) (z:Db) (r:Int) (ns:List Str) (ts:List Tr) (p:Int),vs=[.ref D,.int r]/\DbAt C H D g z/\Gm CG H g ns ts p/\GmK ns ts p/\z.aw.1 = "coin" /\ 0<=r/\r < p/\z.to.length<=ns.length/\(z.he ≠ []->RowOk z.he p/\z.to.length < ns.length)/\cw z.to p/\∀ H',SameBut D H H'->DbAt C H' D g (cO ns ts p r z)->Q .non H'
theorem sc_dtoss:FnScope ["self", "r"] ["self", "r"] (af s_dtoss):=⟨rfl,rfl,rfl,by decide +kernel,rfl,by decide +kernel,by decide +kernel⟩
theorem awV_0 (a:Str × Option Int):(awV a)[0]?=some (.str a.1):=by
 unfold awV
 split <;> rfl
def rCatA (K:W.Frag):R2:=fun x y H Q=>∃ a b xs ys,x=.ref a/\y=.ref b/\SqT K H a xs/\SqT K H b ys/\ys ≠ []/\xs.length+ys.length<=sizeLine/\(xs=[]->Q (.ref b) H)/\(xs ≠ []->∀ p,H p=none->Q (.ref p) (upd H p (.tup (xs++ys))))
theorem op_catA {X:Cx}:OpR X (binaryOp .Add) (rCatA X.K):=by
 intro pins s σ H x y v u Q I rx ry h
 obtain ⟨a,b,xs,ys,ex,ey,ha,hb,hy,hz,q1,q2⟩:=h
 by_cases c:xs=[]
 . subst c
   exact op_catT0 pins s σ H x y v u Q I rx ry ⟨a,b,ys,ex,ey,ha,hb,q1 rfl⟩
 . exact op_catT pins s σ H x y v u Q I rx ry ⟨a,b,xs,ys,ex,ey,ha,hb,c,hz,fun z=>absurd z hy,fun _=>q2 c⟩
theorem ok_dtoss {f fB fG:Addr} {fd fdB fdG:FuncData} (F:Fun K "toss" "Doubter.toss" s_dtoss f fd) (B:Bl mg) (T:DTxt K mg C) (TG:GTxt K mg CG) (C_is_number:Cal P w K mg base 1 "is_number" ["value", "p"] spIsNum) (C_value_at:Cal P w K mg base 4 "value_at" ["values", "r", "p"] spVal)
 (mB:Meth K C "begin_rounds" fB) (GB:FnOk P w K mg base CX0 16 fB fdB ["self", "s"] (spBeg C CG)) (bB:Binds K fdB ["self", "s"] [])
 (mG:Meth K C "go_on" fG) (GG:FnOk P w K mg base CX0 15 fG fdG ["self"] (spGo C CG)) (bG:Binds K fdG ["self"] []):FnOk P w K mg base CX0 17 f fd ["self", "r"] (spToss C CG):=by
 refine F.ok sc_dtoss (fun vs H Q E h=>?_) (fun cdv A outer s H vs Q E hr h=>?_)
 . obtain ⟨D,g,z,r,ns,ts,p,rfl,_⟩:=h
   rfl
 obtain ⟨D,g,z,r,ns,ts,p,rfl,⟨dx,aA,aC,aH,aT,R⟩,G,k,ea,r0,r1,tl,ro,po,q⟩:=h
 have hr15:Room 15 _:=hr.mono (by decide)
 refine ⟨_,(ad (aU (aB op_ne (aR ix_tup (aG (pv 0) rfl) ag (fun _ _=>rfl)) aO (aI _)) cR aN)
  (ad (aU (pt_not (pt_val (aE C_is_number hr (by decide) rfl (aa (pv 1) (aa (aG (aG (pv 0) rfl) rfl) ae))))) cR aN)
  (ad (aQ (pv 0) (ao aX (aG (pv 0) rfl) ag) rfl)
  (aj (aU (aB (op_eqD hr.units) (aG (pv 0) rfl) (aV ae) (aI _))
   (aj (bP (du (pv 0) T.cl mB GB hr bB .nil bF (aa (pv 1) ae))))
   (ad (aQ (pv 0) (aE C_value_at hr (by decide) rfl (aa (aG (pv 0) rfl) (aa (pv 1) (aa (aG (aG (pv 0) rfl) rfl) ae)))) rfl)
   (ad (aQ (pv 0) (ao op_catA (aG (pv 0) rfl) (aV (aa (pv 1) ae))) rfl)
   (aj (bP (bQ (pv 0) T.cl mG GG hr15 bG .nil bF)))))))))),?_⟩
 have gD:=G.ne R.hD dl_g
 have G':=G
 obtain ⟨a,b,d,tv,⟨dg,hg⟩,ha,hb,TS,hd⟩:=G'
 refine ⟨_,rfl,D,C,dx,_,_,rfl,R.hD,T.cl,T.nA,dl_a,aA,_,_,_,rfl,rfl,SqT.of R.hA,cL (j:=0) (awV_0 _),rfl,_,rfl,?_⟩
 refine iteNS (congrArg V.str ea) ?_
 refine ⟨_,rfl,_,rfl,D,C,dx,_,_,rfl,R.hD,T.cl,T.nG,dl_g,g,CG,dg,_,_,rfl,hg,TG.cl,TG.nF,gf_fi ..,r,p,rfl,?_⟩
 rw [decide_eq_true r0,decide_eq_true r1]
 refine ⟨_,rfl,?_⟩
 refine iteF ?_
 refine ⟨_,rfl,D,C,dx,_,_,rfl,R.hD,T.cl,T.nP,dl_pl,_,_,rfl,rfl,_,rfl,D,C,dx,_,rfl,R.hD,T.cl,T.nP,ca,?_⟩
 rw [put_pl]
 have S2:SameBut D H (upd H D (.ins C dx (dl g aA aC z.s aH aT z.ed (z.pl+1)))):=SameBut.upd _
 have R2:DbR C (upd H D (.ins C dx (dl g aA aC z.s aH aT z.ed (z.pl+1)))) D g { z with pl:=z.pl+1 } dx aA aC aH aT:=DbR.set (z:={ z with pl:=z.pl+1 }) R.hD R.hA R.hC R.hH R.hT
 have G2:=G.but R.hD gD S2
 generalize upd H D (.ins C dx (dl g aA aC z.s aH aT z.ed (z.pl+1)))=H2 at S2 R2 G2
 refine ⟨_,rfl,D,C,dx,_,_,rfl,R2.hD,T.cl,T.nH,dl_h,(by show 0<=sizeLine; decide),fun u hu=>?_⟩
 have I:=Same.new hu (.tup [])
 have R3:=R2.same I
 have hu3:upd H2 u (.tup []) u=some (.tup []):=upd_same
 have G3:=G2.same I
 generalize upd H2 u (.tup [])=H3 at I R3 hu3 G3
 have S03:SameBut D H H3:=S2.trans (SameBut.of I)
 refine ⟨_,_,rep_intsT R3.hH,rep_intsT (xs:=[]) hu3,shaped_ti _,shaped_ti [],_,rfl,?_⟩
 rw [show PyData.eqv (.tuple (z.he.map PyData.int)) (.tuple (([]:List Int).map PyData.int))=decide (z.he=[]) from eqv_ti0 z.he]
 by_cases c:z.he=[]
 . refine cS c ?_
   have e:cO ns ts p r z=begR ns ts p r { z with pl:=z.pl+1 }:=by
    unfold cO
    rw [if_pos c]
   rw [e] at q
   refine ⟨_,rfl,D,dx,_,rfl,R3.hD,dl_n7,_,rfl,?_⟩
   exact ⟨D,g,_,r,ns,ts,p,rfl,⟨dx,aA,aC,aH,aT,R3⟩,G3,k,tl,po,fun H5 S5 D5=>q H5 (S03.trans S5) D5⟩
 . refine bd c ?_
   obtain ⟨rok,tl'⟩:=ro c
   have e:cO ns ts p r z=goOn ns ts p { z with pl:=z.pl+1,ed:=val p z.he r,to:=z.to++[r] }:=by
    unfold cO
    rw [if_neg c]
   rw [e] at q
   have G3':=G3
   obtain ⟨a3,b3,d3,tv3,⟨dg3,hg3⟩,_⟩:=G3'
   refine ⟨_,rfl,D,C,dx,_,_,rfl,R3.hD,T.cl,T.nH,dl_h,_,rfl,_,rfl,D,C,dx,_,_,rfl,R3.hD,T.cl,T.nG,dl_g,g,CG,dg3,_,_,rfl,hg3,TG.cl,TG.nF,gf_fi ..,aH,z.he,r,p,rfl,.inr R3.hH,rok,k.pr,k.p9,r0,r1,fun H4 S4=>?_⟩
   have R4:=R3.same S4
   have G4:=G3.same S4
   refine ⟨_,rfl,D,C,dx,_,rfl,R4.hD,T.cl,T.nE,ca,?_⟩
   rw [put_ed]
   have S5:SameBut D H4 (upd H4 D (.ins C dx (dl g aA aC z.s aH aT (val p z.he r) (z.pl+1)))):=SameBut.upd _
   have R5:DbR C (upd H4 D (.ins C dx (dl g aA aC z.s aH aT (val p z.he r) (z.pl+1)))) D g { z with pl:=z.pl+1,ed:=val p z.he r } dx aA aC aH aT:=DbR.set (z:={ z with pl:=z.pl+1,ed:=val p z.he r }) R4.hD R4.hA R4.hC R4.hH R4.hT
   have G5:=G4.but R4.hD gD S5
   generalize upd H4 D (.ins C dx (dl g aA aC z.s aH aT (val p z.he r) (z.pl+1)))=H5 at S5 R5 G5
   have S05:SameBut D H H5:=S03.trans ((SameBut.of S4).trans S5)
   refine ⟨_,rfl,D,C,dx,_,_,rfl,R5.hD,T.cl,T.nT,dl_t,_,rfl,(by show 1<=sizeLine; decide),fun t ht=>?_⟩
   have J:=Same.new ht (.tup [.int r])
   have R6:=R5.same J
   have G6:=G5.same J
   have ht6:upd H5 t (.tup [.int r]) t=some (.tup [.int r]):=upd_same
   generalize upd H5 t (.tup [.int r])=H6 at J R6 G6 ht6
   have n10:=k.n10
   have fin:∀ (x:Addr) (H7:Hp),Same H6 H7->H7 x=some (.tup ((z.to++[r]).map V.int))->(ps_fin:True)->∀ QQ:Hp->Prop,(∀ H8,SameBut D H7 H8->DbR C H8 D g { z with pl:=z.pl+1,ed:=val p z.he r,to:=z.to++[r] } dx aA aC aH x->Gm CG H8 g ns ts p->QQ H8)->QQ (upd H7 D (.ins C dx (dl g aA aC z.s aH x (val p z.he r) (z.pl+1)))):=by
    intro x H7 s7 hx _ QQ hq
    have R7:=R6.same s7
    exact hq _ (SameBut.upd _) (DbR.set (z:={ z with pl:=z.pl+1,ed:=val p z.he r,to:=z.to++[r] }) R7.hD R7.hA R7.hC R7.hH hx) ((G6.same s7).but R7.hD gD (SameBut.upd _))
   have po2:cw (z.to++[r]) p:=fun x hx=>by
    rcases List.mem_append.mp hx with h | h
    . exact po x h
    . rw [List.mem_singleton.mp h]
      exact ⟨r0,r1⟩
   have tl2:(z.to++[r]).length<=ns.length:=by
    rw [List.length_append,List.length_singleton]
    omega
   have S06:SameBut D H H6:=S05.trans (SameBut.of J)
   refine ⟨aT,t,_,_,rfl,rfl,SqT.of R6.hT,SqT.of ht6,(fun z=>by cases z),dN (by rw [List.length_map]; show z.to.length+1<=1000; omega),fun z0=>?_,fun z0 p7 hp7=>?_⟩
   . have e0:z.to=[]:=by simpa using z0
     refine ⟨_,rfl,D,C,dx,_,rfl,R6.hD,T.cl,T.nT,ca,?_⟩
     rw [put_t]
     refine fin t H6 (Same.refl _) (by rw [e0]; exact ht6) trivial _ fun H8 S8 R8 G8=>?_
     refine ⟨_,rfl,D,dx,_,rfl,R8.hD,dl_n9,?_⟩
     exact ⟨D,g,_,ns,ts,p,rfl,⟨dx,aA,aC,aH,t,R8⟩,G8,k,tl2,po2,fun H9 S9 D9=>q H9 (S06.trans (S8.trans S9)) D9⟩
   . have L:=Same.new hp7 (.tup (z.to.map V.int++[.int r]))
     have R7:=R6.same L
     refine ⟨_,rfl,D,C,dx,_,rfl,R7.hD,T.cl,T.nT,ca,?_⟩
     rw [put_t]
     refine fin p7 _ L (by rw [upd_same,List.map_append]; rfl) trivial _ fun H8 S8 R8 G8=>?_
     refine ⟨_,rfl,D,dx,_,rfl,R8.hD,dl_n9,?_⟩
     exact ⟨D,g,_,ns,ts,p,rfl,⟨dx,aA,aC,aH,p7,R8⟩,G8,k,tl2,po2,fun H9 S9 D9=>q H9 (S06.trans ((SameBut.of L).trans (S8.trans S9))) D9⟩
def spDInit (C CG:Addr):Sp:=fun vs H Q _=>∃ (D g dx:Addr) (ns:List Str) (ts:List Tr) (p:Int),vs=[.ref D,.ref g]/\H D=some (.ins C dx [])/\Gm CG H g ns ts p/\g ≠ D/\∀ H',SameBut D H H'->DbAt C H' D g (Db.new ts)->Q .non H'
theorem sc_dinit:FnScope ["self", "game"] ["self", "game"] (af s_dinit):=⟨rfl,rfl,rfl,by decide +kernel,rfl,by decide +kernel,by decide +kernel⟩
def spOf (C:Addr) (t:Db->V->Hp->Prop):Sp:=fun vs H Q _=>∃ (D g:Addr) (z:Db),vs=[.ref D]/\DbAt C H D g z/\∀ v,t z v H->Q v H
theorem sc_ddue:FnScope ["self"] ["self"] (af s_ddue):=⟨rfl,rfl,rfl,by decide +kernel,rfl,by decide +kernel,by decide +kernel⟩
theorem ok_ddue {f:Addr} {fd:FuncData} (F:Fun K "due" "Doubter.due" s_ddue f fd) (T:DTxt K mg C):FnOk P w K mg base CX0 1 f fd ["self"] (spOf C fun z v _=>v=.int z.ed):=by
 refine F.ok sc_ddue (fun vs H Q E h=>?_) (fun cdv A outer s H vs Q E hr h=>?_)
 . obtain ⟨D,g,z,rfl,_⟩:=h
   rfl
 obtain ⟨D,g,z,rfl,⟨dx,aA,aC,aH,aT,R⟩,q⟩:=h
 refine ⟨_,(aj (aF (aG (pv 0) rfl))),?_⟩
 exact ⟨_,rfl,D,C,dx,_,_,rfl,R.hD,T.cl,T.nE,dl_ed,q _ rfl⟩
theorem sc_dwaits:FnScope ["self"] ["self"] (af s_dwaits):=⟨rfl,rfl,rfl,by decide +kernel,rfl,by decide +kernel,by decide +kernel⟩
theorem ok_dwaits {f:Addr} {fd:FuncData} (F:Fun K "waits" "Doubter.waits" s_dwaits f fd) (T:DTxt K mg C):FnOk P w K mg base CX0 1 f fd ["self"] (spOf C fun z v H=>∃ a,v=.ref a/\H a=some (.tup (awV z.aw))):=by
 refine F.ok sc_dwaits (fun vs H Q E h=>?_) (fun cdv A outer s H vs Q E hr h=>?_)
 . obtain ⟨D,g,z,rfl,_⟩:=h
   rfl
 obtain ⟨D,g,z,rfl,⟨dx,aA,aC,aH,aT,R⟩,q⟩:=h
 refine ⟨_,(aj (aF (aG (pv 0) rfl))),?_⟩
 exact ⟨_,rfl,D,C,dx,_,_,rfl,R.hD,T.cl,T.nA,dl_a,q _ ⟨aA,rfl,R.hA⟩⟩
end
section
variable {C CG:Addr}
def awD (a:Str × Option Int):PyData:=match a.2 with
 | none=>.tuple [.str a.1]
 | some n=>.tuple [.str a.1,.int n]
theorem rep_aw {K:W.Frag} {H:Hp} {c:Addr} {a:Str × Option Int} (h:H c=some (.tup (awV a))):Rep K H (.ref c) (awD a):=by
 obtain ⟨x,n⟩:=a
 cases n with
 | none=>exact .tup (SqT.of h) (.cons (.str x) .nil)
 | some n=>exact .tup (SqT.of h) (.cons (.str x) (.cons (.int n) .nil))
def AwW (x:Str):Prop:=x = "hear" ∨ x = "coin" ∨ x = "caught" ∨ x = "believed"
theorem AwW.ok {x:Str} (h:AwW x):PyData.strOk x=true:=by
 rcases h with rfl | rfl | rfl | rfl <;> decide +kernel
theorem shaped_aw {a:Str × Option Int} (h:AwW a.1):SeqAt.shaped (awD a)=true:=by
 obtain ⟨x,n⟩:=a
 have:=h.ok
 cases n <;> simp [awD,SeqAt.shaped,PyData.canLay0,PyData.depth,PyData.canLayAll0,PyData.depthAll] <;> exact this
theorem str_beq (x y:Str):(x == y)=decide (x=y):=by
 by_cases c:x=y
 . subst c; simp
 . rw [decide_eq_false c]; simpa using c
theorem eqv_aw (a b:Str × Option Int):PyData.eqv (awD a) (awD b)=decide (a=b):=by
 obtain ⟨x,n⟩:=a
 obtain ⟨y,m⟩:=b
 cases n <;> cases m <;> simp [awD,PyData.eqv,PyData.eqvAll,str_beq]
 rename_i u v
 by_cases c:u=v
 . subst c; simp
 . simp [c]
end
section
variable {C CG:Addr}
def d1 (g:Addr):List (Str × V):=[("game", .ref g)]
def d2 (g t1:Addr):List (Str × V):=[("game", .ref g),("awaited", .ref t1)]
def d3 (g t1 t2:Addr):List (Str × V):=[("game", .ref g),("awaited", .ref t1),("claims", .ref t2)]
def d4 (g t1 t2:Addr):List (Str × V):=[("game", .ref g),("awaited", .ref t1),("claims", .ref t2),("s", .int 0)]
def d5 (g t1 t2 t3:Addr):List (Str × V):=[("game", .ref g),("awaited", .ref t1),("claims", .ref t2),("s", .int 0),("heard", .ref t3)]
def d6 (g t1 t2 t3 t4:Addr):List (Str × V):=[("game", .ref g),("awaited", .ref t1),("claims", .ref t2),("s", .int 0),("heard", .ref t3),("tossed", .ref t4)]
def d7 (g t1 t2 t3 t4:Addr):List (Str × V):=[("game", .ref g),("awaited", .ref t1),("claims", .ref t2),("s", .int 0),("heard", .ref t3),("tossed", .ref t4),("held", .int 0)]
theorem pd1 (g:Addr):putF "game" (.ref g) []=d1 g:=by with_unfolding_all rfl
theorem pd2 (g t1:Addr):putF "awaited" (.ref t1) (d1 g)=d2 g t1:=by with_unfolding_all rfl
theorem pd3 (g t1 t2:Addr):putF "claims" (.ref t2) (d2 g t1)=d3 g t1 t2:=by with_unfolding_all rfl
theorem pd4 (g t1 t2:Addr):putF "s" (.int 0) (d3 g t1 t2)=d4 g t1 t2:=by with_unfolding_all rfl
theorem pd5 (g t1 t2 t3:Addr):putF "heard" (.ref t3) (d4 g t1 t2)=d5 g t1 t2 t3:=by with_unfolding_all rfl
theorem pd6 (g t1 t2 t3 t4:Addr):putF "tossed" (.ref t4) (d5 g t1 t2 t3)=d6 g t1 t2 t3 t4:=by with_unfolding_all rfl
theorem pd7 (g t1 t2 t3 t4:Addr):putF "held" (.int 0) (d6 g t1 t2 t3 t4)=d7 g t1 t2 t3 t4:=by with_unfolding_all rfl
theorem pd8 (g t1 t2 t3 t4:Addr):putF "places" (.int 0) (d7 g t1 t2 t3 t4)=dl g t1 t2 0 t3 t4 0 0:=by with_unfolding_all rfl
theorem ok_dinit {f:Addr} {fd:FuncData} (F:Fun K "__init__" "Doubter.__init__" s_dinit f fd) (B:Bl mg) (T:DTxt K mg C) (TG:GTxt K mg CG):FnOk P w K mg base CX0 1 f fd ["self", "game"] (spDInit C CG):=by
 refine F.ok sc_dinit (fun vs H Q E h=>?_) (fun cdv A outer s H vs Q E hr h=>?_)
 . obtain ⟨D,g,dx,ns,ts,p,rfl,_⟩:=h
   rfl
 obtain ⟨D,g,dx,ns,ts,p,rfl,hD,G,gD,q⟩:=h
 refine ⟨_,(ad (aQ (pv 0) (pv 1) rfl)
  (ad (aQ (pv 0) (aV (aa aO (aa (aJ aD rfl B.len PySem.boot_len (aa (aG (pv 1) rfl) ae)) ae))) rfl)
  (ad (aQ (pv 0) (aV ae) rfl)
  (ad (aQ (pv 0) ag rfl)
  (ad (aQ (pv 0) (aV ae) rfl)
  (ad (aQ (pv 0) (aV ae) rfl)
  (ad (aQ (pv 0) ag rfl)
  (aj (aQ (pv 0) ag rfl))))))))),?_⟩
 obtain ⟨a,b,d,tv,⟨dg,hg⟩,ha,hb,TS,hd⟩:=G
 have vl:=TS.length
 refine ⟨_,rfl,_,rfl,D,C,dx,_,rfl,hD,T.cl,T.nG,(by show 0 < 1000; decide),?_⟩
 rw [pd1]
 have S1:SameBut D H (upd H D (.ins C dx (d1 g))):=SameBut.upd _
 have h1:upd H D (.ins C dx (d1 g)) D=some (.ins C dx (d1 g)):=upd_same
 generalize upd H D (.ins C dx (d1 g))=H1 at S1 h1
 have nb:=ne_of hb hD (by intro z; cases z)
 refine ⟨_,rfl,g,CG,dg,_,_,rfl,S1 _ _ gD hg,TG.cl,TG.nT,gf_tr ..,b,_,rfl,.inr (SqT.of (S1 _ _ nb hb)),(by show 2<=sizeLine; decide),fun t1 ht1=>?_⟩
 have I1:=Same.new ht1 (.tup [.str "hear", .int (tv.length:Int)])
 have g1:upd H1 t1 (.tup [.str "hear", .int (tv.length:Int)]) t1=some (.tup [.str "hear", .int (tv.length:Int)]):=upd_same
 generalize upd H1 t1 (.tup [.str "hear", .int (tv.length:Int)])=H2 at I1 g1
 refine ⟨_,rfl,D,C,dx,_,rfl,I1 _ _ h1,T.cl,T.nA,(by show 1 < 1000; decide),?_⟩
 rw [pd2]
 have n1:t1 ≠ D:=(ai h1 ht1).symm
 have S2:SameBut D H2 (upd H2 D (.ins C dx (d2 g t1))):=SameBut.upd _
 have h2:upd H2 D (.ins C dx (d2 g t1)) D=some (.ins C dx (d2 g t1)):=upd_same
 have k1:=S2 _ _ n1 g1
 generalize upd H2 D (.ins C dx (d2 g t1))=H3 at S2 h2 k1
 refine ⟨(by show 0<=sizeLine; decide),fun t2 ht2=>?_⟩
 have I2:=Same.new ht2 (.tup [])
 have g2:upd H3 t2 (.tup []) t2=some (.tup []):=upd_same
 generalize upd H3 t2 (.tup [])=H4 at I2 g2
 refine ⟨_,rfl,D,C,dx,_,rfl,I2 _ _ h2,T.cl,T.nC,(by show 2 < 1000; decide),?_⟩
 rw [pd3]
 have n2:t2 ≠ D:=(ai h2 ht2).symm
 have S3:SameBut D H4 (upd H4 D (.ins C dx (d3 g t1 t2))):=SameBut.upd _
 have h3:upd H4 D (.ins C dx (d3 g t1 t2)) D=some (.ins C dx (d3 g t1 t2)):=upd_same
 generalize upd H4 D (.ins C dx (d3 g t1 t2))=H5 at S3 h3
 refine ⟨_,rfl,D,C,dx,_,rfl,h3,T.cl,T.nS,(by show 3 < 1000; decide),?_⟩
 rw [pd4]
 have S4:SameBut D H5 (upd H5 D (.ins C dx (d4 g t1 t2))):=SameBut.upd _
 have h4:upd H5 D (.ins C dx (d4 g t1 t2)) D=some (.ins C dx (d4 g t1 t2)):=upd_same
 generalize upd H5 D (.ins C dx (d4 g t1 t2))=H6 at S4 h4
 refine ⟨(by show 0<=sizeLine; decide),fun t3 ht3=>?_⟩
 have I3:=Same.new ht3 (.tup [])
 have g3:upd H6 t3 (.tup []) t3=some (.tup []):=upd_same
 generalize upd H6 t3 (.tup [])=H7 at I3 g3
 refine ⟨_,rfl,D,C,dx,_,rfl,I3 _ _ h4,T.cl,T.nH,(by show 4 < 1000; decide),?_⟩
 rw [pd5]
 have n3:t3 ≠ D:=(ai h4 ht3).symm
 have S5:SameBut D H7 (upd H7 D (.ins C dx (d5 g t1 t2 t3))):=SameBut.upd _
 have h5:upd H7 D (.ins C dx (d5 g t1 t2 t3)) D=some (.ins C dx (d5 g t1 t2 t3)):=upd_same
 generalize upd H7 D (.ins C dx (d5 g t1 t2 t3))=H8 at S5 h5
 refine ⟨(by show 0<=sizeLine; decide),fun t4 ht4=>?_⟩
 have I4:=Same.new ht4 (.tup [])
 have g4:upd H8 t4 (.tup []) t4=some (.tup []):=upd_same
 generalize upd H8 t4 (.tup [])=H9 at I4 g4
 refine ⟨_,rfl,D,C,dx,_,rfl,I4 _ _ h5,T.cl,T.nT,(by show 5 < 1000; decide),?_⟩
 rw [pd6]
 have n4:t4 ≠ D:=(ai h5 ht4).symm
 refine ⟨_,rfl,D,C,dx,_,rfl,upd_same,T.cl,T.nE,(by show 6 < 1000; decide),?_⟩
 rw [pd7]
 refine ⟨_,rfl,D,C,dx,_,rfl,upd_same,T.cl,T.nP,(by show 7 < 1000; decide),?_⟩
 rw [pd8]
 have W:∀ {x:Addr} {H':Hp} {o1 o2 o3:HO} {u:HO},x ≠ D->H' x=some u->upd (upd (upd H' D o1) D o2) D o3 x=some u:=fun {x H' o1 o2 o3 u} n e=>by
  rw [ax n,ax n,ax n]
  exact e
 have k2:=S3 _ _ n2 g2
 have k3:=S5 _ _ n3 g3
 refine q _ (S1.trans ((SameBut.of I1).trans (S2.trans ((SameBut.of I2).trans (S3.trans (S4.trans ((SameBut.of I3).trans (S5.trans ((SameBut.of I4).trans ((SameBut.upd _).trans ((SameBut.upd _).trans (SameBut.upd _)))))))))))) ⟨dx,t1,t2,t3,t4,upd_same,?_,?_,?_,W n4 g4⟩
 . rw [vl] at k1
   exact W n1 (I4 _ _ (S5 _ _ n1 (I3 _ _ (S4 _ _ n1 (S3 _ _ n1 (I2 _ _ k1))))))
 . exact W n2 (I4 _ _ (S5 _ _ n2 (I3 _ _ (S4 _ _ n2 k2))))
 . exact W n3 (I4 _ _ k3)
end
def joinB (o:Str) (p q:Bool):Bool:=if o = "and" then p && q else if o = "or" then p || q else if o = "odd" then p != q else p == q
def Tr.holds (ns:List Str) (st:List Int):Tr->Bool
 | .is x=>match posOf x ns with | some j=>decide (st.getD j 0=1) | none=>false
 | .yes=>true
 | .no=>false
 | .not a=>!a.holds ns st
 | .bin o a b=>joinB o (a.holds ns st) (b.holds ns st)
def TupAt (H:Hp) (v:V) (s:List Int):Prop:=∃ a,v=.ref a/\H a=some (.tup (s.map V.int))
abbrev TupsAt (H:Hp):List V->List (List Int)->Prop:=PySem.Paired (TupAt H)
def SetsAt (H:Hp) (r:Addr) (ss:List (List Int)):Prop:=∃ rs,H r=some (.lst rs)/\TupsAt H rs ss
theorem TupsAt.mono {H H':Hp} (k:∀ a xs,H a=some (.tup xs)->H' a=some (.tup xs)):∀ {rs:List V} {ss:List (List Int)},TupsAt H rs ss->TupsAt H' rs ss
 | _,_,.nil=>.nil
 | _,_,.cons ⟨a,e,h⟩ t=>.cons ⟨a,e,k _ _ h⟩ (TupsAt.mono k t)
theorem TupsAt.get {H:Hp}:∀ {rs:List V} {ss:List (List Int)} {i:Nat} {v:V},TupsAt H rs ss->rs[i]?=some v->∃ s,ss[i]?=some s/\TupAt H v s
 | _,_,_,_,.nil,h=>by simp at h
 | _,_,0,_,.cons h _,e=>by
   simp at e
   subst e
   exact ⟨_,rfl,h⟩
 | _,_,i+1,v,.cons _ t,e=>by
   obtain ⟨s,h1,h2⟩:=TupsAt.get (i:=i) t (by simpa using e)
   exact ⟨s,by simpa using h1,h2⟩
theorem keepT_but {H H':Hp} {b:Addr} {ys:List V} (s:SameBut b H H') (h:H b=some (.lst ys)∨H b=none):∀ a xs,H a=some (.tup xs)->H' a=some (.tup xs):=fun a xs e=>s a _ (fun z=>by
 rw [z] at e
 rcases h with h | h
 . rw [h] at e; cases e
 . rw [h] at e; cases e) e
theorem cat_step {K:W.Frag} {H1:Hp} {a p:Addr} {s:List Int} {z:Int} {Q:VK} (ha:H1 a=some (.tup (s.map V.int))) (hp:H1 p=some (.tup [.int z])) (hl:s.length<=100)
 (q:∀ t H2,Same H1 H2->H2 t=some (.tup ((s++[z]).map V.int))->Q (.ref t) H2):rCatT K (.ref a) (.ref p) H1 Q∨rCatT0 K (.ref a) (.ref p) H1 Q:=by
 cases s with
 | nil=>exact .inr ⟨a,p,_,rfl,rfl,SqT.of ha,SqT.of hp,q p H1 (Same.refl _) hp⟩
 | cons x r =>
   refine .inl ⟨a,p,_,_,rfl,rfl,SqT.of ha,SqT.of hp,by simp,dN (by simp at hl ⊢; omega),(fun z=>nomatch z),(fun _ t ht=>q t _ (Same.new ht _) ?_)⟩
   rw [upd_same,List.map_append]
   rfl
def cnt (t:Tr) (ns:List Str):Nat:=((setts ns.length).filter fun st=>t.holds ns st).length
def poly (s:Int):List Int->Int
 | []=>0
 | a::r=>a+s*poly s r
theorem cat_any {K:W.Frag} {H1:Hp} {a b:Addr} {xs ys:List Int} {Q:VK} (ha:H1 a=some (.tup (xs.map V.int))) (hb:H1 b=some (.tup (ys.map V.int))) (hl:xs.length+ys.length<=100)
 (q:∀ t H2,Same H1 H2->H2 t=some (.tup ((xs++ys).map V.int))->Q (.ref t) H2):rCatT K (.ref a) (.ref b) H1 Q∨rCatT0 K (.ref a) (.ref b) H1 Q:=by
 cases xs with
 | nil=>exact .inr ⟨a,b,_,rfl,rfl,SqT.of ha,SqT.of hb,q b H1 (Same.refl _) hb⟩
 | cons x r =>
   refine .inl ⟨a,b,_,_,rfl,rfl,SqT.of ha,SqT.of hb,by simp,dN (by simp at hl ⊢; omega),(fun z=>?_),(fun _ t ht=>q t _ (Same.new ht _) ?_)⟩
   . cases ys with
     | nil =>
       refine q a H1 (Same.refl _) ?_
       rw [List.append_nil]
       exact ha
     | cons y r2=>exact nomatch z
   . rw [upd_same,List.map_append]
def rowAt (ns:List Str) (ts:List Tr) (s p:Int) (pt:List Int):Int:=((setts (ns.length - pt.length)).map fun st=>poly s (ts.map fun t=>t.worth ns (pt++st) p)).sum % p
theorem op_catK {X:Cx} (K:W.Frag) (hK:X.K=K:=by rfl):OpR X (binaryOp .Add) (fun x y H Q=>rCatT K x y H Q∨rCatT0 K x y H Q):=by subst hK; exact op_catT.or op_catT0
def rowL (ns:List Str) (ts:List Tr) (s p:Int) (cs:List Int) (n:Nat):List Int:=(List.range n).map fun k:Nat=>rowAt ns ts s p (cs++[(k:Int)])
theorem neS {a b:Str} (h:¬ a=b):¬ V.str a=V.str b:=fun z=>h (V.str.inj z)
open Classical in
noncomputable def invI (p a:Int):Int:=if h:∃ g:Int,0 < g/\g < p/\g*a % p=1 then h.choose else 0
noncomputable def divI (p x y:Int):Int:=if y=0 then 0 else x*invI p y % p
noncomputable def opV (p:Int) (s:Str) (x y:Int):Int :=
 if s = "+" then (x+y) % p else if s = "-" then (x - y) % p else if s = "*" then x*y % p else if s = "/" then divI p x y else if s = "=" then (if x=y then 1 else 0) else if x < y then 1 else 0
theorem divI_rng {p x y:Int} (hp:0 < p):0<=divI p x y/\divI p x y < p:=by
 unfold divI
 split
 . omega
 . exact ⟨Int.emod_nonneg _ (by omega),Int.emod_lt_of_pos _ hp⟩
theorem opV_rng {p x y:Int} {s:Str} (hp:1 < p):0<=opV p s x y/\opV p s x y < p:=by
 have m:∀ z:Int,0<=z % p/\z % p < p:=fun z=>⟨Int.emod_nonneg _ (by omega),Int.emod_lt_of_pos _ (by omega)⟩
 unfold opV
 split
 . exact m _
 . split
   . exact m _
   . split
     . exact m _
     . split
       . exact divI_rng (by omega)
       . split <;> split <;> omega
theorem pss_cut {X:Cx} {ss:List Stmt} {t t':TS} (h:PSs X ss t) (hw:∀ D σ H,t' D σ H->t D σ H):PSs X ss t':=fun pins s σ H D I k=>h pins s σ H D I (hw _ _ _ k)
inductive Tm where
 | num (n:Int) | box (x:Str) | plain (w:Str) | ask (w:Str) (a:Tm) | op (s:Str) (a b:Tm)
inductive TmAt (H:Hp):V->Tm->Prop
 | num {a:Addr} {n:Int}:H a=some (.tup [.str "num", .int n])->TmAt H (.ref a) (.num n)
 | box {a:Addr} {x:Str}:H a=some (.tup [.str "box", .str x])->TmAt H (.ref a) (.box x)
 | plain {a:Addr} {w:Str}:H a=some (.tup [.str w])->TmAt H (.ref a) (.plain w)
 | ask {a:Addr} {w:Str} {v:V} {t:Tm}:H a=some (.tup [.str w,v])->TmAt H v t->TmAt H (.ref a) (.ask w t)
 | op {a:Addr} {s:Str} {v u:V} {t r:Tm}:H a=some (.tup [.str "op", .str s,v,u])->TmAt H v t->TmAt H u r->TmAt H (.ref a) (.op s t r)
theorem TmAt.mono {H H':Hp} (k:cX H H') {v:V} {t:Tm} (h:TmAt H v t):TmAt H' v t:=by
 induction h with
 | num e=>exact .num (k _ _ e)
 | box e=>exact .box (k _ _ e)
 | plain e=>exact .plain (k _ _ e)
 | ask e _ ih=>exact .ask (k _ _ e) ih
 | op e _ _ i1 i2=>exact .op (k _ _ e) i1 i2
inductive Hr where
 | fin | go (n:Int) | iff (t:Tm) (n:Int) | set (x:Str) (t:Tm) | say (t:Tm)
inductive HrAt (H:Hp):V->Hr->Prop
 | fin {a:Addr}:H a=some (.tup [.str "end"])->HrAt H (.ref a) .fin
 | go {a:Addr} {n:Int}:H a=some (.tup [.str "go", .int n])->HrAt H (.ref a) (.go n)
 | iff {a:Addr} {v:V} {t:Tm} {n:Int}:H a=some (.tup [.str "if", v,.int n])->TmAt H v t->HrAt H (.ref a) (.iff t n)
 | set {a:Addr} {x:Str} {v:V} {t:Tm}:H a=some (.tup [.str "set", .str x,v])->TmAt H v t->HrAt H (.ref a) (.set x t)
 | say {a:Addr} {v:V} {t:Tm}:H a=some (.tup [.str "say", v])->TmAt H v t->HrAt H (.ref a) (.say t)
theorem HrAt.mono {H H':Hp} (k:cX H H') {v:V} {r:Hr} (h:HrAt H v r):HrAt H' v r:=by
 cases h with
 | fin e=>exact .fin (k _ _ e)
 | go e=>exact .go (k _ _ e)
 | iff e t=>exact .iff (k _ _ e) (t.mono k)
 | set e t=>exact .set (k _ _ e) (t.mono k)
 | say e t=>exact .say (k _ _ e) (t.mono k)
section
variable {CM CA CG:Addr}
abbrev s_ainit:Stmt:=bV s_asking 0
abbrev s_minit:Stmt:=bV s_machine 0
abbrev s_msay:Stmt:=bV s_machine 1
abbrev s_mrow:Stmt:=bV s_machine 2
def al (g:Addr) (nr mn hd s:Int) (aT:Addr) (tr:V):List (Str × V):=[("game", .ref g),("number", .int nr),("many", .int mn),("held", .int hd),("s", .int s),("tossed", .ref aT),("truths", tr)]
structure ATxt (K:W.Frag) (mg:Str->Option Value) (C:Addr):Prop where
 cl:Cls K C
 nG:NoAttr K C "game"
 nN:NoAttr K C "number"
 nM:NoAttr K C "many"
 nH:NoAttr K C "held"
 nS:NoAttr K C "s"
 nT:NoAttr K C "tossed"
 nR:NoAttr K C "truths"
 mgC:mg "Asking" = some (.ref C)
def ml (g h:Addr) (r:Int) (b:Addr):List (Str × V):=[("game", .ref g),("helper", .ref h),("next_round", .int r),("boxes", .ref b)]
section
variable {g h b:Addr} {r:Int}
theorem ml_g:(ml g h r b).lookup ("game" : Str)=some (.ref g):=by with_unfolding_all rfl
theorem ml_h:(ml g h r b).lookup ("helper" : Str)=some (.ref h):=by with_unfolding_all rfl
theorem ml_r:(ml g h r b).lookup ("next_round" : Str)=some (.int r):=by with_unfolding_all rfl
theorem ml_b:(ml g h r b).lookup ("boxes" : Str)=some (.ref b):=by with_unfolding_all rfl
theorem ml_n2:(ml g h r b).lookup ("say" : Str)=none:=by with_unfolding_all rfl
theorem ml_len:(ml g h r b).length < 1000:=by show 4 < 1000; decide
theorem ml_put {v:Int}:putF "next_round" (.int v) (ml g h r b)=ml g h v b:=by with_unfolding_all rfl
end
structure MTxt (K:W.Frag) (mg:Str->Option Value) (C:Addr):Prop where
 cl:Cls K C
 nG:NoAttr K C "game"
 nH:NoAttr K C "helper"
 nR:NoAttr K C "next_round"
 nB:NoAttr K C "boxes"
 mgC:mg "Machine" = some (.ref C)
def BxAt (H:Hp) (b:Addr) (bx:Str->Int) (m:Nat):Prop:=∃ kvs:List (Key × V),H b=some (.dK kvs)/\kvs.length<=m/\∀ x:Str,(valV kvs (.inr x)).getD (.int 0)=.int (bx x)
def bxPut (bx:Str->Int) (x:Str) (n:Int):Str->Int:=fun y=>if y=x then n else bx y
theorem BxAt.keep {H H':Hp} {b:Addr} {bx:Str->Int} {m:Nat} (h:BxAt H b bx m) (k:∀ o,H b=some o->H' b=some o):BxAt H' b bx m:=by
 obtain ⟨kvs,e,r⟩:=h
 exact ⟨kvs,k _ e,r⟩
structure Ak where
 ns:List Str
 ts:List Tr
 p:Int
 nr:Int
 mn:Int
 hd:Int
 s:Int
 to:List Int
def Ak.tru (z:Ak):List Int:=if z.nr=0 then z.ts.map (fun t=>(cnt t z.ns:Int)) else rowL z.ns z.ts z.s z.p z.to (cP z.ts (z.ns.getD z.to.length "")+1).toNat
structure AkOk (z:Ak):Prop where
 gk:GmK z.ns z.ts z.p
 n6:z.ns.length<=6
 nr0:0<=z.nr
 nrt:0 < z.nr->z.to.length < z.ns.length
 po:cw z.to z.p
 s0:0<=z.s
 s1:z.s < z.p
 h0:0<=z.hd
 h1:z.hd < z.p
 tl:z.to.length<=100
def coinL (z:Ak):List Int:=if 1 < z.ts.length then z.s::z.to else z.to
def coinI (z:Ak) (i:Int):Int:=if 1<=i/\i<=((coinL z).length:Int) then (coinL z).getD (i - 1).toNat 0 else 0
def trueI (z:Ak) (i:Int):Int:=if 0 < z.nr then val z.p z.tru i else if i < (z.tru.length:Int) then z.tru.getD i.toNat 0 % z.p else 0
def plainI (z:Ak) (w:Str):Int:=if w = "round" then z.nr % z.p else if w = "asked" then z.mn % z.p else z.hd
theorem AkOk.p0 {z:Ak} (k:AkOk z):2 < z.p:=k.gk.p2
theorem getD_rng {p:Int} {xs:List Int} (h:cw xs p) (p0:0 < p) (i:Nat):0<=xs.getD i 0/\xs.getD i 0 < p:=by
 rw [List.getD_eq_getElem?_getD]
 cases e:xs[i]? with
 | none=>exact ⟨Int.le_refl 0,p0⟩
 | some x=>exact h x (List.mem_of_getElem? e)
theorem coinL_ok {z:Ak} (k:AkOk z):cw (coinL z) z.p:=by
 unfold coinL
 split
 . intro x hx
   rcases List.mem_cons.mp hx with rfl | hx
   . exact ⟨k.s0,k.s1⟩
   . exact k.po x hx
 . exact k.po
theorem coinI_rng {z:Ak} (k:AkOk z) (i:Int):0<=coinI z i/\coinI z i < z.p:=by
 have:=k.p0
 unfold coinI
 split
 . exact getD_rng (coinL_ok k) (by omega) _
 . omega
theorem trueI_rng {z:Ak} (k:AkOk z) (i:Int):0<=trueI z i/\trueI z i < z.p:=by
 have:=k.p0
 unfold trueI
 split
 . exact ⟨Int.emod_nonneg _ (by omega),Int.emod_lt_of_pos _ (by omega)⟩
 . split
   . exact ⟨Int.emod_nonneg _ (by omega),Int.emod_lt_of_pos _ (by omega)⟩
   . omega
theorem plainI_rng {z:Ak} (k:AkOk z) (w:Str):0<=plainI z w/\plainI z w < z.p:=by
 have:=k.p0
 unfold plainI
 split
 . exact ⟨Int.emod_nonneg _ (by omega),Int.emod_lt_of_pos _ (by omega)⟩
 . split
   . exact ⟨Int.emod_nonneg _ (by omega),Int.emod_lt_of_pos _ (by omega)⟩
   . exact ⟨k.h0,k.h1⟩
end
section
variable {CM CA CG:Addr}
noncomputable def Tm.worth (z:Ak) (bx:Str->Int):Tm->Int
 | .num n=>n % z.p | .box x=>bx x | .plain w=>plainI z w
 | .ask w a=>if w = "coin" then coinI z (a.worth z bx) else trueI z (a.worth z bx)
 | .op s a b=>opV z.p s (a.worth z bx) (b.worth z bx)
def BxOk (p:Int) (bx:Str->Int):Prop:=∀ x,0<=bx x/\bx x < p
theorem Tm.worth_rng {z:Ak} {bx:Str->Int} (k:AkOk z) (hb:BxOk z.p bx):∀ t:Tm,0<=t.worth z bx/\t.worth z bx < z.p
 | .num n=>by have:=k.p0; exact ⟨Int.emod_nonneg _ (by omega),Int.emod_lt_of_pos _ (by omega)⟩
 | .box x=>hb x
 | .plain w=>plainI_rng k w
 | .ask w a=>by
   show 0<=(if w = "coin" then coinI z (a.worth z bx) else trueI z (a.worth z bx))/\(if w = "coin" then coinI z (a.worth z bx) else trueI z (a.worth z bx)) < z.p
   split
   . exact coinI_rng k _
   . exact trueI_rng k _
 | .op s a b=>by have:=k.p0; exact opV_rng (by omega)
end
section
variable {CM CA CG:Addr}
structure MS where
 pl:Int
 bx:Str->Int
 sd:List Int
noncomputable def stepR (z:Ak) (len:Int) (s:MS):Hr->MS
 | .fin=>⟨len,s.bx,s.sd⟩
 | .go n=>⟨n,s.bx,s.sd⟩
 | .iff t n=>⟨if t.worth z s.bx=0 then s.pl+1 else n,s.bx,s.sd⟩
 | .set x t=>⟨s.pl+1,bxPut s.bx x (t.worth z s.bx),s.sd⟩
 | .say t=>⟨s.pl+1,s.bx,s.sd++[t.worth z s.bx]⟩
noncomputable def stepM (z:Ak) (rows:List Hr) (s:MS):MS:=match rows[s.pl.toNat]? with
 | some r=>stepR z rows.length s r
 | none=>s
noncomputable def runM (z:Ak) (rows:List Hr):Nat->MS->MS
 | 0,s=>s
 | n+1,s=>if s.pl < (rows.length:Int)/\(s.sd.length:Int) < z.mn then runM z rows n (stepM z rows s) else s
def outM (mn:Int) (sd:List Int):List Int:=sd++List.replicate (mn - (sd.length:Int)).toNat 0
theorem stepM_sd {z:Ak} {rows:List Hr} {s:MS}:(stepM z rows s).sd.length<=s.sd.length+1:=by
 unfold stepM
 cases e:rows[s.pl.toNat]? with
 | none=>exact Nat.le_succ _
 | some r =>
   cases r with
   | fin=>exact Nat.le_succ _
   | go n=>exact Nat.le_succ _
   | iff t n=>exact Nat.le_succ _
   | set x t=>exact Nat.le_succ _
   | say t=>show (s.sd++[_]).length<=_; rw [List.length_append]; exact Nat.le_refl _
theorem bxPut_ok {p n:Int} {bx:Str->Int} {x:Str} (h:BxOk p bx) (h0:0<=n) (h1:n < p):BxOk p (bxPut bx x n):=fun y=>by
 unfold bxPut
 split
 . exact ⟨h0,h1⟩
 . exact h y
theorem stepM_ok {z:Ak} {rows:List Hr} {s:MS} (k:AkOk z) (h:BxOk z.p s.bx) (hs:cw s.sd z.p):BxOk z.p (stepM z rows s).bx/\cw (stepM z rows s).sd z.p:=by
 unfold stepM
 cases e:rows[s.pl.toNat]? with
 | none=>exact ⟨h,hs⟩
 | some r =>
   cases r with
   | fin=>exact ⟨h,hs⟩
   | go n=>exact ⟨h,hs⟩
   | iff t n=>exact ⟨h,hs⟩
   | set x t =>
     have w:=Tm.worth_rng k h t
     exact ⟨bxPut_ok h w.1 w.2,hs⟩
   | say t =>
     have w:=Tm.worth_rng k h t
     refine ⟨h,fun y hy=>?_⟩
     rcases List.mem_append.mp hy with hy | hy
     . exact hs y hy
     . rw [List.mem_singleton.mp hy]
       exact w
theorem runM_ok {z:Ak} {rows:List Hr} (k:AkOk z):∀ (n:Nat) (s:MS),BxOk z.p s.bx->cw s.sd z.p->(s.sd.length:Int)<=z.mn->BxOk z.p (runM z rows n s).bx/\cw (runM z rows n s).sd z.p/\((runM z rows n s).sd.length:Int)<=z.mn
 | 0,s,h,hs,hl=>⟨h,hs,hl⟩
 | n+1,s,h,hs,hl=>by
   show BxOk z.p (if _ then _ else _:MS).bx/\cw (if _ then _ else _:MS).sd z.p/\((if _ then _ else _:MS).sd.length:Int)<=z.mn
   by_cases c:s.pl < (rows.length:Int)/\(s.sd.length:Int) < z.mn
   . rw [if_pos c]
     obtain ⟨h1,h2⟩:=stepM_ok (rows:=rows) k h hs
     have:=stepM_sd (z:=z) (rows:=rows) (s:=s)
     exact runM_ok k n _ h1 h2 (by omega)
   . rw [if_neg c]
     exact ⟨h,hs,hl⟩
theorem outM_len {mn:Int} {sd:List Int} (h:(sd.length:Int)<=mn):((outM mn sd).length:Int)=mn:=by
 unfold outM
 rw [List.length_append,List.length_replicate]
 omega
theorem outM_ok {p mn:Int} {sd:List Int} (h:cw sd p) (p0:0 < p):cw (outM mn sd) p:=fun x hx=>by
 unfold outM at hx
 rcases List.mem_append.mp hx with hx | hx
 . exact h x hx
 . rw [List.eq_of_mem_replicate hx]
   omega
def RowsAt (H:Hp) (rv:List V) (rows:List Hr):Prop:=rv.length=rows.length/\∀ (i:Nat) (v:V) (r:Hr),rv[i]?=some v->rows[i]?=some r->HrAt H v r
theorem RowsAt.mono {H H':Hp} {rv:List V} {rows:List Hr} (h:RowsAt H rv rows) (k:cX H H'):RowsAt H' rv rows:=⟨h.1,fun i v r h1 h2=>(h.2 i v r h1 h2).mono k⟩
def But2 (b c:Addr) (H H':Hp):Prop:=∀ a o,a ≠ b->a ≠ c->H a=some o->H' a=some o
theorem BxAt.le {H:Hp} {b:Addr} {bx:Str->Int} {m n:Nat} (h:BxAt H b bx m) (k:m<=n):BxAt H b bx n:=by
 obtain ⟨kvs,e,l,r⟩:=h
 exact ⟨kvs,e,Nat.le_trans l k,r⟩
def But3 (b c d:Addr) (H H':Hp):Prop:=∀ a o,a ≠ b->a ≠ c->a ≠ d->H a=some o->H' a=some o
end
section
variable {CM CA CG:Addr}
def m1 (g:Addr):List (Str × V):=[("game", .ref g)]
def m2 (g h:Addr):List (Str × V):=[("game", .ref g),("helper", .ref h)]
def m3 (g h:Addr):List (Str × V):=[("game", .ref g),("helper", .ref h),("next_round", .int 0)]
theorem pm1 {g:Addr}:putF "game" (.ref g) []=m1 g:=by with_unfolding_all rfl
theorem pm2 {g h:Addr}:putF "helper" (.ref h) (m1 g)=m2 g h:=by with_unfolding_all rfl
theorem pm3 {g h:Addr}:putF "next_round" (.int 0) (m2 g h)=m3 g h:=by with_unfolding_all rfl
theorem pm4 {g h b:Addr}:putF "boxes" (.ref b) (m3 g h)=ml g h 0 b:=by with_unfolding_all rfl
def spMInit (CM:Addr):Sp:=fun vs H Q _=>∃ (M g h dm:Addr),vs=[.ref M,.ref g,.ref h]/\H M=some (.ins CM dm [])/\∀ (b:Addr) (H':Hp),H b=none->H' M=some (.ins CM dm (ml g h 0 b))->H' b=some (.dK [])->SameBut M H H'->Q .non H'
theorem sc_minit:FnScope ["self", "game", "helper"] ["self", "game", "helper"] (af s_minit):=⟨rfl,rfl,rfl,by decide +kernel,rfl,by decide +kernel,by decide +kernel⟩
theorem ok_minit {f:Addr} {fd:FuncData} (F:Fun K "__init__" "Machine.__init__" s_minit f fd) (T:MTxt K mg CM):FnOk P w K mg base CX0 1 f fd ["self", "game", "helper"] (spMInit CM):=by
 refine F.ok sc_minit (fun vs H Q E h=>?_) (fun cdv A outer s H vs Q E hr h=>?_)
 . obtain ⟨M,g,h,dm,rfl,_⟩:=h
   rfl
 obtain ⟨M,g,h,dm,rfl,hM,q⟩:=h
 refine ⟨_,(ad (aQ (pv 0) (pv 1) rfl)
  (ad (aQ (pv 0) (pv 2) rfl)
  (ad (aQ (pv 0) ag rfl)
  (aj (aQ (pv 0) pe_dnewK rfl))))),?_⟩
 refine ⟨_,rfl,_,rfl,M,CM,dm,_,rfl,hM,T.cl,T.nG,(by show 0 < 1000; decide),?_⟩
 rw [pm1]
 refine ⟨_,rfl,_,rfl,M,CM,dm,_,rfl,upd_same,T.cl,T.nH,(by show 1 < 1000; decide),?_⟩
 rw [pm2]
 refine ⟨_,rfl,M,CM,dm,_,rfl,upd_same,T.cl,T.nR,(by show 2 < 1000; decide),?_⟩
 rw [pm3]
 have S3:SameBut M H (upd (upd (upd H M (.ins CM dm (m1 g))) M (.ins CM dm (m2 g h))) M (.ins CM dm (m3 g h))):=(SameBut.upd _).trans ((SameBut.upd _).trans (SameBut.upd _))
 have g3:upd (upd (upd H M (.ins CM dm (m1 g))) M (.ins CM dm (m2 g h))) M (.ins CM dm (m3 g h)) M=some (.ins CM dm (m3 g h)):=upd_same
 generalize upd (upd (upd H M (.ins CM dm (m1 g))) M (.ins CM dm (m2 g h))) M (.ins CM dm (m3 g h))=H3 at S3 g3
 intro b hb
 have bM:b ≠ M:=(ai g3 hb).symm
 refine ⟨_,rfl,M,CM,dm,_,rfl,by rw [ax bM.symm]; exact g3,T.cl,T.nB,(by show 3 < 1000; decide),?_⟩
 rw [pm4]
 refine q b _ ?_ upd_same (by rw [ax bM]; exact upd_same) (S3.trans ((SameBut.of (Same.new hb _)).trans (SameBut.upd _)))
 cases e:H b with
 | none=>rfl
 | some o=>rw [S3 b o bM e] at hb; cases hb
def a1 (g:Addr):List (Str × V):=[("game", .ref g)]
def a2 (g:Addr) (nr:Int):List (Str × V):=[("game", .ref g),("number", .int nr)]
def a3 (g:Addr) (nr mn:Int):List (Str × V):=[("game", .ref g),("number", .int nr),("many", .int mn)]
def a4 (g:Addr) (nr mn hd:Int):List (Str × V):=[("game", .ref g),("number", .int nr),("many", .int mn),("held", .int hd)]
def a5 (g:Addr) (nr mn hd s:Int):List (Str × V):=[("game", .ref g),("number", .int nr),("many", .int mn),("held", .int hd),("s", .int s)]
def a6 (g:Addr) (nr mn hd s:Int) (aT:Addr):List (Str × V):=[("game", .ref g),("number", .int nr),("many", .int mn),("held", .int hd),("s", .int s),("tossed", .ref aT)]
section
variable {g aT:Addr} {nr mn hd s:Int}
theorem pa1:putF "game" (.ref g) []=a1 g:=by with_unfolding_all rfl
theorem pa2:putF "number" (.int nr) (a1 g)=a2 g nr:=by with_unfolding_all rfl
theorem pa3:putF "many" (.int mn) (a2 g nr)=a3 g nr mn:=by with_unfolding_all rfl
theorem pa4:putF "held" (.int hd) (a3 g nr mn)=a4 g nr mn hd:=by with_unfolding_all rfl
theorem pa5:putF "s" (.int s) (a4 g nr mn hd)=a5 g nr mn hd s:=by with_unfolding_all rfl
theorem pa6:putF "tossed" (.ref aT) (a5 g nr mn hd s)=a6 g nr mn hd s aT:=by with_unfolding_all rfl
theorem pa7:putF "truths" .non (a6 g nr mn hd s aT)=al g nr mn hd s aT .non:=by with_unfolding_all rfl
end
def spAInit (CA:Addr):Sp:=fun vs H Q _=>∃ (k dk g c:Addr) (nr mn hd s:Int) (xs:List V),vs=[.ref k,.ref g,.int nr,.int mn,.int hd,.int s,.ref c]/\H k=some (.ins CA dk [])/\(H c=some (.lst xs)∨H c=some (.tup xs)) /\
 ∀ (aT:Addr) (H':Hp),H' k=some (.ins CA dk (al g nr mn hd s aT .non))->H' aT=some (.tup xs)->SameBut k H H'->Q .non H'
theorem sc_ainit:FnScope ["self", "game", "number", "many", "due", "s", "coins"] ["self", "game", "number", "many", "due", "s", "coins"] (af s_ainit):=⟨rfl,rfl,rfl,by decide +kernel,rfl,by decide +kernel,by decide +kernel⟩
theorem ok_ainit {f:Addr} {fd:FuncData} (F:Fun K "__init__" "Asking.__init__" s_ainit f fd) (B:Bl mg) (T:ATxt K mg CA):FnOk P w K mg base CX0 1 f fd ["self", "game", "number", "many", "due", "s", "coins"] (spAInit CA):=by
 refine F.ok sc_ainit (fun vs H Q E h=>?_) (fun cdv A outer s H vs Q E hr h=>?_)
 . obtain ⟨k,dk,g,c,nr,mn,hd,s,xs,rfl,_⟩:=h
   rfl
 obtain ⟨k,dk,g,c,nr,mn,hd,s,xs,rfl,hk,hc,q⟩:=h
 refine ⟨_,(ad (aQ (pv 0) (pv 1) rfl)
  (ad (aQ (pv 0) (pv 2) rfl)
  (ad (aQ (pv 0) (pv 3) rfl)
  (ad (aQ (pv 0) (pv 4) rfl)
  (ad (aQ (pv 0) (pv 5) rfl)
  (ad (aQ (pv 0) (bN bE rfl B.tuple bZ (aa (pv 6) ae)) rfl)
  (aj (aQ (pv 0) pe_non rfl)))))))),?_⟩
 refine ⟨_,rfl,_,rfl,k,CA,dk,_,rfl,hk,T.cl,T.nG,(by show 0 < 1000; decide),?_⟩
 rw [pa1]
 refine ⟨_,rfl,_,rfl,k,CA,dk,_,rfl,upd_same,T.cl,T.nN,(by show 1 < 1000; decide),?_⟩
 rw [pa2]
 refine ⟨_,rfl,_,rfl,k,CA,dk,_,rfl,upd_same,T.cl,T.nM,(by show 2 < 1000; decide),?_⟩
 rw [pa3]
 refine ⟨_,rfl,_,rfl,k,CA,dk,_,rfl,upd_same,T.cl,T.nH,(by show 3 < 1000; decide),?_⟩
 rw [pa4]
 refine ⟨_,rfl,_,rfl,k,CA,dk,_,rfl,upd_same,T.cl,T.nS,(by show 4 < 1000; decide),?_⟩
 rw [pa5]
 have S5:SameBut k H (upd (upd (upd (upd (upd H k (.ins CA dk (a1 g))) k (.ins CA dk (a2 g nr))) k (.ins CA dk (a3 g nr mn))) k (.ins CA dk (a4 g nr mn hd))) k (.ins CA dk (a5 g nr mn hd s))):=(SameBut.upd _).trans ((SameBut.upd _).trans ((SameBut.upd _).trans ((SameBut.upd _).trans (SameBut.upd _))))
 have g5:upd (upd (upd (upd (upd H k (.ins CA dk (a1 g))) k (.ins CA dk (a2 g nr))) k (.ins CA dk (a3 g nr mn))) k (.ins CA dk (a4 g nr mn hd))) k (.ins CA dk (a5 g nr mn hd s)) k=some (.ins CA dk (a5 g nr mn hd s)):=upd_same
 generalize upd (upd (upd (upd (upd H k (.ins CA dk (a1 g))) k (.ins CA dk (a2 g nr))) k (.ins CA dk (a3 g nr mn))) k (.ins CA dk (a4 g nr mn hd))) k (.ins CA dk (a5 g nr mn hd s))=H5 at S5 g5
 rcases hc with hc | hc
 . have hc5:=S5 _ _ (ne_of hc hk (by intro z; cases z)) hc
   refine ⟨_,rfl,c,_,rfl,.inl ⟨SqL.of hc5,fun aT ha=>?_⟩⟩
   have aK:aT ≠ k:=(ai g5 ha).symm
   refine ⟨_,rfl,k,CA,dk,_,rfl,by rw [ax aK.symm]; exact g5,T.cl,T.nT,(by show 5 < 1000; decide),?_⟩
   rw [pa6]
   refine ⟨_,rfl,k,CA,dk,_,rfl,upd_same,T.cl,T.nR,(by show 6 < 1000; decide),?_⟩
   rw [pa7]
   exact q aT _ upd_same (by rw [ax aK,ax aK]; exact upd_same) (S5.trans ((SameBut.of (Same.new ha _)).trans ((SameBut.upd _).trans (SameBut.upd _))))
 . have nc:=ne_of hc hk (by intro z; cases z)
   have hc5:=S5 _ _ nc hc
   refine ⟨_,rfl,c,_,rfl,.inr ⟨SqT.of hc5,?_⟩⟩
   refine ⟨_,rfl,k,CA,dk,_,rfl,g5,T.cl,T.nT,(by show 5 < 1000; decide),?_⟩
   rw [pa6]
   refine ⟨_,rfl,k,CA,dk,_,rfl,upd_same,T.cl,T.nR,(by show 6 < 1000; decide),?_⟩
   rw [pa7]
   exact q c _ upd_same (by rw [ax nc,ax nc]; exact hc5) (S5.trans ((SameBut.upd _).trans (SameBut.upd _)))
def spNever:Sp:=fun _ _ _ _=>False
def spSay (CM CG:Addr):Sp:=fun vs H Q _=>∃ (M g h b dm c:Addr) (rv:List V) (z:Ak) (rows:List Hr) (bx:Str->Int) (m:Nat),
 vs=[.ref M,.int z.mn,.int z.hd,.int z.s,.ref c]/\H M=some (.ins CM dm (ml g h z.nr b))/\H h=some (.tup rv)/\RowsAt H rv rows/\rows=[]/\BxAt H b bx m/\BxOk z.p bx/\m<=5000/\Gm CG H g z.ns z.ts z.p/\AkOk z/\(H c=some (.lst (z.to.map V.int))∨H c=some (.tup (z.to.map V.int)))/\0<=z.mn/\z.mn<=500 /\
 ∀ (l:Addr) (H':Hp),H l=none->H' l=some (.lst ((outM z.mn (runM z rows 200 ⟨0,bx,[]⟩).sd).map V.int))->BxAt H' b (runM z rows 200 ⟨0,bx,[]⟩).bx (m+200)->H' M=some (.ins CM dm (ml g h (z.nr+1) b))->But2 M b H H'->Q (.ref l) H'
theorem sc_msay:FnScope ["self", "many", "due", "s", "coins", "asking", "said", "place", "done"] ["self", "many", "due", "s", "coins"] (af s_msay):=⟨rfl,rfl,rfl,by decide +kernel,rfl,by decide +kernel,by decide +kernel⟩
theorem rep_flat (k:Nat) (x:V):(List.replicate k [x]).flatten=List.replicate k x:=by
 induction k with
 | zero=>rfl
 | succ k ih=>rw [List.replicate_succ,List.flatten_cons,ih,List.replicate_succ]; rfl
def tSayE:TS:=fun Dn σ H=>∃ (x0 x2 x3 x4 x5 x7 x8:Option V) (sd:Addr) (mn:Int) (xs:List Int),σ=[x0,some (.int mn),x2,x3,x4,x5,some (.ref sd),x7,x8]/\H sd=some (.lst (xs.map V.int))/\xs.length<=200/\0<=mn/\mn<=500 /\
 ∀ (l:Addr) (H':Hp),H l=none->Same H H'->H' l=some (.lst ((outM mn xs).map V.int))->Dn.rt (.ref l) H'
theorem ok_mrow0 {f:Addr} {fd:FuncData} (F:Fun K "do_row" "Machine.do_row" s_mrow f fd):FnOk P w K mg base CX0 24 f fd ["self", "place", "said", "asking"] spNever :=
 ⟨fun _ _ _ _ h=>h.elim,fun _ _ _ _ _ _ _ _ _ _ _ _ _ h=>h.elim⟩
theorem ok_msay {f fA fR:Addr} {fd fdA fdR:FuncData} (F:Fun K "say" "Machine.say" s_msay f fd) (B:Bl mg) (TM:MTxt K mg CM) (TA:ATxt K mg CA) (hmost:∃ t,mg "MOST_ROWS_DONE" = some (.int 200 t))
 (MA:Mk K CA fA) (GA:FnOk P w K mg base CX0 1 fA fdA ["self", "game", "number", "many", "due", "s", "coins"] (spAInit CA)) (bA:Binds K fdA ["self", "game", "number", "many", "due", "s", "coins"] [])
 (mR:Meth K CM "do_row" fR) (GR:FnOk P w K mg base CX0 24 fR fdR ["self", "place", "said", "asking"] spNever) (bR:Binds K fdR ["self", "place", "said", "asking"] []):FnOk P w K mg base CX0 25 f fd ["self", "many", "due", "s", "coins"] (spSay CM CG):=by
 refine F.ok sc_msay (fun vs H Q E h=>?_) (fun cdv A outer s H vs Q E hr h=>?_)
 . obtain ⟨M,g,h,b,dm,c,rv,z,rows,bx,m,rfl,_⟩:=h
   rfl
 obtain ⟨M,g,h,b,dm,c,rv,z,rows,bx,m,rfl,hM,hh,RW,rq,BX,bo,mm,GG,ok,hc,mn0,mn1,q⟩:=h
 obtain ⟨a',b',d',tv,G,hga,hgb,TS,hgd⟩:=GG
 obtain ⟨te,ge⟩:=hmost
 have hr2:Room (1+1) _:=hr.mono (by decide)
 have hr7:Room 24 _:=hr.mono (by decide)
 refine ⟨_,(ad (aq (i:=5) sc_msay.nd rfl (Or.inl rfl) (pe_make MA GA hr2 rfl TA.mgC bA .nil bF (aa (aG (pv 0) rfl) (aa (aG (pv 0) rfl) (aa (pv 1) (aa (pv 2) (aa (pv 3) (aa (pv 4) ae))))))))
  (ad (aQ (pv 0) (ao aX (aG (pv 0) rfl) ag) rfl)
  (ad (aq (i:=6) sc_msay.nd rfl (Or.inl rfl) (cH ae))
  (ad (aq (i:=7) sc_msay.nd rfl (Or.inl rfl) ag)
  (ad (aq (i:=8) sc_msay.nd rfl (Or.inl rfl) ag)
  (ad (ps_while PassesOwn.never (PW.pt (pw_and (aB op_lt (pv 7) (aJ aD rfl B.len PySem.boot_len (aa (aG (pv 0) rfl) ae)) (aI _)) (pw_and (aB op_lt (aJ aD rfl B.len PySem.boot_len (aa (pv 6) ae)) (pv 1) (aI _)) (pw_and1 (aB op_lt (pv 8) (pe_glob (v:=.int 200) rfl ge ⟨_,rfl⟩) (aI _)))))) (ad (aq (i:=7) sc_msay.nd rfl (Or.inl rfl) (du (pv 0) TM.cl mR GR hr7 bR .nil bF (aa (pv 7) (aa (pv 6) (aa (pv 5) ae)))))
   (aj (aq (i:=8) sc_msay.nd rfl (Or.inl rfl) (ao aX (pv 8) ag)))))
  (pss_cut (t':=tSayE) (aj (aF (ao op_cat (pv 6) (ao op_rep (cH (aa ag ae)) (ao bq (pv 1) (aJ aD rfl B.len PySem.boot_len (aa (pv 6) ae))))))) (by
   rintro Dn σ H ⟨x0,x2,x3,x4,x5,x7,x8,sd,mn,xs,rfl,hsd,xl,mn0,mn1,q⟩
   refine ⟨_,rfl,(by show 1<=sizeLine; decide),fun z hz=>?_⟩
   have I1:=Same.new hz (.lst [.int 0])
   have g1:upd H z (.lst [.int 0]) z=some (.lst [.int 0]):=upd_same
   generalize upd H z (.lst [.int 0])=H1 at I1 g1
   refine ⟨_,rfl,_,rfl,sd,_,rfl,.inl (SqL.of (I1 _ _ hsd)),_,_,rfl,rfl,?_⟩
   have el:((xs.map V.int).length:Int)=(xs.length:Int):=by rw [List.length_map]
   refine ⟨z,_,_,rfl,rfl,g1,by omega,by omega,dN (by show 1*(mn - ((xs.map V.int).length:Int)).toNat<=1000; omega),fun y hy=>?_⟩
   rw [rep_flat]
   have I2:=Same.new hy (.lst (List.replicate (mn - ((xs.map V.int).length:Int)).toNat (.int 0)))
   have g2:upd H1 y (.lst (List.replicate (mn - ((xs.map V.int).length:Int)).toNat (.int 0))) y=some (.lst (List.replicate (mn - ((xs.map V.int).length:Int)).toNat (.int 0))):=upd_same
   generalize upd H1 y (.lst (List.replicate (mn - ((xs.map V.int).length:Int)).toNat (.int 0)))=H2 at I2 g2
   refine ⟨sd,y,_,_,rfl,rfl,I2 _ _ (I1 _ _ hsd),g2,?_,fun l hl=>?_⟩
   . rw [List.length_replicate,List.length_map]
     exact dN (by omega)
   refine q l _ ?_ (I1.trans (I2.trans (Same.new hl _))) ?_
   . cases e:H l with
     | none=>rfl
     | some o=>rw [I2 _ _ (I1 _ _ e)] at hl; cases hl
   . rw [upd_same,el]
     unfold outM
     rw [List.map_append,List.map_replicate])))))))),?_⟩
 refine ⟨_,rfl,M,CM,dm,_,_,rfl,hM,TM.cl,TM.nG,ml_g,_,rfl,M,CM,dm,_,_,rfl,hM,TM.cl,TM.nR,ml_r,_,rfl,_,rfl,_,rfl,_,rfl,fun k dk hk hdk nk=>?_⟩
 have S1:Same H (upd (upd H dk (.own k)) k (.ins CA dk [])):=fun a o e=>by
  rw [ax (ai e hk),ax (ai e hdk)]
  exact e
 have g1:upd (upd H dk (.own k)) k (.ins CA dk []) k=some (.ins CA dk []):=upd_same
 generalize upd (upd H dk (.own k)) k (.ins CA dk [])=H1 at S1 g1
 refine ⟨k,dk,g,c,z.nr,z.mn,z.hd,z.s,z.to.map V.int,rfl,g1,hc.imp (S1 _ _) (S1 _ _),fun aT H2 hk2 hT2 S2=>⟨rfl,?_⟩⟩
 have S02:Same H H2:=Same.but S1 hk S2
 clear S1 S2 g1
 have hM2:=S02 _ _ hM
 refine ⟨_,rfl,M,CM,dm,_,_,rfl,hM2,TM.cl,TM.nR,ml_r,_,_,rfl,rfl,_,rfl,M,CM,dm,_,rfl,hM2,TM.cl,TM.nR,ml_len,?_⟩
 rw [ml_put]
 have nMk:M ≠ k:=ai hM hk
 have S3:SameBut M H2 (upd H2 M (.ins CM dm (ml g h (z.nr+1) b))):=SameBut.upd _
 have hM3:upd H2 M (.ins CM dm (ml g h (z.nr+1) b)) M=some (.ins CM dm (ml g h (z.nr+1) b)):=upd_same
 generalize upd H2 M (.ins CM dm (ml g h (z.nr+1) b))=H3 at S3 hM3
 refine ⟨(by show 0<=sizeLine; decide),fun sd hsd=>?_⟩
 have I4:=Same.new hsd (.lst [])
 have g4:upd H3 sd (.lst []) sd=some (.lst []):=upd_same
 generalize upd H3 sd (.lst [])=H4 at I4 g4
 have nbM:b ≠ M:=by
  obtain ⟨kvs,e,_⟩:=BX
  exact ne_of e hM (by intro z; cases z)
 have S04:SameBut M H H4:=(SameBut.of S02).trans (S3.trans (SameBut.of I4))
 have hM4:=I4 _ _ hM3
 have kT:cX H H4:=fun c xs h=>S04 c _ (ne_of h hM (by intro z; cases z)) h
 have hh4:=kT _ _ hh
 have BX4:BxAt H4 b bx m:=BX.keep fun o e=>S04 b o nbM e
 subst rq
 obtain rfl:rv=[]:=List.eq_nil_of_length_eq_zero RW.1
 have er:runM z [] 200 ⟨0,bx,[]⟩=⟨0,bx,[]⟩:=if_neg fun c=>absurd c.1 (by show ¬ (0:Int) < 0; omega)
 rw [er] at q
 have sd0:H sd=none:=by
  cases e:H sd with
  | none=>rfl
  | some o=>rw [S3 _ _ (fun z=>by rw [z,hM3] at hsd; cases hsd) (S02 _ _ e)] at hsd; cases hsd
 refine ⟨fun _ σ H'=>σ=[some (.ref M),some (.int z.mn),some (.int z.hd),some (.int z.s),some (.ref c),some (.ref k),some (.ref sd),some (.int 0),some (.int 0)]/\H'=H4,⟨0,rfl,rfl⟩,?_⟩
 rintro mm σ H' ⟨rfl,rfl⟩
 refine ⟨_,rfl,_,rfl,M,CM,dm,_,_,rfl,hM4,TM.cl,TM.nH,ml_h,h,_,rfl,.inr (SqT.of hh4),_,_,rfl,rfl,_,rfl,?_⟩
 refine bd (by decide) (iteF ?_)
 refine ⟨_,_,_,_,_,_,_,sd,z.mn,[],rfl,g4,by decide,mn0,mn1,fun l H5 l0 S5 hl=>?_⟩
 refine q l H5 ?_ hl ((BX4.keep fun o e=>S5 b o e).le (by omega)) (S5 _ _ hM4) (fun a o h1 h2 e=>S5 _ _ (S04 _ _ h1 e))
 cases e:H l with
 | none=>rfl
 | some o =>
   have lM:l ≠ M:=fun z=>by rw [z,hM4] at l0; cases l0
   rw [S04 _ _ lM e] at l0
   cases l0
end
section
variable {ns:List Str} {ts:List Tr} {p:Int}
theorem deg_400 (k:GmK ns ts p) (x:Str):0<=cP ts x/\cP ts x<=400:=by
 have t0:ts ≠ []:=fun z=>by have:=k.t1; rw [z] at this; cases this
 have:=maxD_mem (ns:=ts.map fun t=>(t.names.count x:Int)) (by simpa using t0)
 obtain ⟨t,ht,e⟩:=List.mem_map.mp this
 unfold cP
 rw [← e]
 have h1:=List.count_le_length (a:=x) (l:=t.names)
 have h2:=t.names_len
 have h3:=(k.tok t ht).2.2.2
 omega
end
structure HearOk (ns:List Str) (p:Int) (z:Db) (xs:List Int):Prop where
 aw:z.aw=(("hear" : Str),some (xs.length:Int))
 xo:cw xs p
 x5:xs.length<=500
 ro:z.cl ≠ []->RowOk xs p
 tl:z.to.length<=ns.length
 po:cw z.to p
structure TossOk (ns:List Str) (p:Int) (z:Db) (r:Int):Prop where
 aw:z.aw.1 = "coin"
 r0:0<=r
 r1:r < p
 tl:z.to.length<=ns.length
 ro:z.he ≠ []->RowOk z.he p/\z.to.length < ns.length
 po:cw z.to p
section
variable {C CG cT cC cN:Addr}
structure Gd (ns:List Str) (ts:List Tr) (p:Int) (z:Db):Prop where
 tl:z.to.length<=ns.length
 po:cw z.to p
 e0:0<=z.ed
 e1:z.ed < p
 he:z.aw.1 = "hear" -> (z.cl=[]/\z.aw=(("hear" : Str),some (ts.length:Int)))∨(z.cl ≠ []/\z.to.length < ns.length/\z.aw=(("hear" : Str),some (cP ts (ns.getD z.to.length "")+1)))
 co:z.aw.1 = "coin" -> z.cl ≠ []/\(z.he ≠ []->RowOk z.he p/\z.to.length < ns.length)
 h0:z.cl=[]->z.he=[]
 ww:AwW z.aw.1
section
variable {ns:List Str} {ts:List Tr} {p:Int} {z:Db}
theorem Gd.new (k:GmK ns ts p):Gd ns ts p (Db.new ts):=by
 have:=k.p2
 exact ⟨Nat.zero_le _,(fun x hx=>by cases hx),Int.le_refl _,(by show (0:Int) < p; omega),fun _=>.inl ⟨rfl,rfl⟩,(fun h=>by cases h),fun _=>rfl,.inl rfl⟩
theorem Gd.goOn (tl:z.to.length<=ns.length) (po:cw z.to p) (e0:0<=z.ed) (e1:z.ed < p) (cl:z.cl ≠ []):Gd ns ts p (goOn ns ts p z):=by
 unfold Mine.goOn
 by_cases c:z.to.length < ns.length
 . rw [if_pos c]
   exact ⟨tl,po,e0,e1,fun _=>.inr ⟨cl,c,rfl⟩,(fun h=>by cases h),fun h=>absurd h cl,.inl rfl⟩
 . rw [if_neg c]
   unfold dA
   by_cases e:z.ed=hor z.s p (ts.map fun t=>t.worth ns z.to p)
   . rw [if_pos e]
     exact ⟨tl,po,e0,e1,(fun h=>by cases h),(fun h=>by cases h),fun h=>absurd h cl,.inr (.inr (.inr rfl))⟩
   . rw [if_neg e]
     exact ⟨tl,po,e0,e1,(fun h=>by cases h),(fun h=>by cases h),fun h=>absurd h cl,.inr (.inr (.inl rfl))⟩
theorem Gd.hear_ne (k:GmK ns ts p) (h:Gd ns ts p z) {xs:List Int} (ok:HearOk ns p z xs):xs ≠ []:=fun e=>by
 have a:=ok.aw
 rw [e,List.length_nil] at a
 have t1:=k.t1
 rcases h.he (by rw [a]) with ⟨_,w⟩ | ⟨_,_,w⟩
 . rw [w] at a
   have:=Option.some.inj (Prod.mk.inj a).2
   omega
 . rw [w] at a
   have:=Option.some.inj (Prod.mk.inj a).2
   have:=deg_400 k (ns.getD z.to.length "")
   omega
theorem Gd.hear (k:GmK ns ts p) (h:Gd ns ts p z) {xs:List Int} (ok:HearOk ns p z xs):Gd ns ts p (cy ns ts p xs z)/\(cy ns ts p xs z).cl ≠ []:=by
 have p2:=k.p2
 have xn:=h.hear_ne k ok
 have a1:z.aw.1 = "hear" := by rw [ok.aw]
 unfold cy
 by_cases c:z.cl=[]
 . rw [if_pos c]
   unfold hearC
   by_cases c1:ts.length=1
   . rw [if_pos c1]
     unfold begR
     have hr:=hor_rng (s:=0) (p:=p) (by omega) xs
     refine ⟨Gd.goOn h.tl h.po hr.1 hr.2 xn,?_⟩
     unfold Mine.goOn dA
     split <;> exact xn
   . rw [if_neg c1]
     exact ⟨⟨h.tl,h.po,h.e0,h.e1,(fun z=>by cases z),fun _=>⟨xn,fun e=>absurd (h.h0 c) e⟩,fun e=>absurd e xn,.inr (.inl rfl)⟩,xn⟩
 . rw [if_neg c]
   unfold cW
   have tl:z.to.length < ns.length:=by
    rcases h.he a1 with ⟨e,_⟩ | ⟨_,t,_⟩
    . exact absurd e c
    . exact t
   by_cases e:(val p xs 0+val p xs 1) % p=z.ed
   . rw [if_pos e]
     exact ⟨⟨h.tl,h.po,h.e0,h.e1,(fun z=>by cases z),fun _=>⟨c,fun _=>⟨ok.ro c,tl⟩⟩,fun e=>absurd e c,.inr (.inl rfl)⟩,c⟩
   . rw [if_neg e]
     exact ⟨⟨h.tl,h.po,h.e0,h.e1,(fun z=>by cases z),(fun z=>by cases z),fun e=>absurd e c,.inr (.inr (.inl rfl))⟩,c⟩
theorem Gd.toss (k:GmK ns ts p) (h:Gd ns ts p z) {r:Int} (ok:TossOk ns p z r):Gd ns ts p (cO ns ts p r z)/\(cO ns ts p r z).cl ≠ []:=by
 have p2:=k.p2
 obtain ⟨cl,ro⟩:=h.co ok.aw
 unfold cO
 by_cases c:z.he=[]
 . rw [if_pos c]
   unfold begR
   have hr:=hor_rng (s:=r) (p:=p) (by omega) z.cl
   refine ⟨Gd.goOn h.tl h.po hr.1 hr.2 cl,?_⟩
   unfold Mine.goOn dA
   split <;> exact cl
 . rw [if_neg c]
   have hr:=val_rng (p:=p) (by omega) z.he r
   refine ⟨Gd.goOn ?_ (fun x hx=>?_) hr.1 hr.2 cl,?_⟩
   . show (z.to++[r]).length<=_
     rw [List.length_append,List.length_singleton]
     have:=(ro c).2
     omega
   . rcases List.mem_append.mp hx with h' | h'
     . exact h.po x h'
     . rw [List.mem_singleton.mp h']
       exact ⟨ok.r0,ok.r1⟩
   . unfold Mine.goOn dA
     split <;> exact cl
end
end
structure Tk where
 z:Db
 bx:Str->Int
 nr:Int
def awN (z:Db):Int:=z.aw.2.getD 0
def Tk.ak (ns:List Str) (ts:List Tr) (p:Int) (t:Tk):Ak:=⟨ns,ts,p,t.nr,awN t.z,t.z.ed,t.z.s,t.z.to⟩
noncomputable def Tk.run (ns:List Str) (ts:List Tr) (p:Int) (rows:List Hr) (t:Tk):MS:=runM (t.ak ns ts p) rows 200 ⟨0,t.bx,[]⟩
noncomputable def Tk.said (ns:List Str) (ts:List Tr) (p:Int) (rows:List Hr) (t:Tk):List Int:=outM (awN t.z) (t.run ns ts p rows).sd
noncomputable def Tk.ask (ns:List Str) (ts:List Tr) (p:Int) (rows:List Hr) (t:Tk):Tk:=⟨cy ns ts p (t.said ns ts p rows) t.z,(t.run ns ts p rows).bx,t.nr+1⟩
noncomputable def Tk.toss (ns:List Str) (ts:List Tr) (p r:Int) (t:Tk):Tk:=⟨cO ns ts p r t.z,t.bx,t.nr⟩
def Tk.new (ts:List Tr):Tk:=⟨Db.new ts,fun _=>0,0⟩
def bi (ns:List Str) (z:Db):Nat:=if z.aw.1 = "hear" then 2*(ns.length - z.to.length) else if z.aw.1 = "coin" then (if z.he=[] then 2*ns.length+1 else 2*(ns.length - z.to.length) - 1) else 0
def bn (ns:List Str) (z:Db):Nat:=if z.aw.1 = "hear" then ns.length - z.to.length else if z.aw.1 = "coin" then (if z.he=[] then ns.length+1 else ns.length - z.to.length) else 0
structure TkOk (ns:List Str) (ts:List Tr) (p:Int) (t:Tk):Prop where
 gd:Gd ns ts p t.z
 cl:t.z.cl ≠ []
 s0:0<=t.z.s
 s1:t.z.s < p
 bo:BxOk p t.bx
 nr:1<=t.nr
 fi:t.z.aw.1 = "coin" -> t.z.he=[]->t.z.to=[]
section
variable {ns:List Str} {ts:List Tr} {p:Int} {t:Tk} {rows:List Hr}
theorem ne_w1:¬ (("coin" : Str) = "hear"):=by decide +kernel
theorem ne_w2:¬ (("caught" : Str) = "hear"):=by decide +kernel
theorem ne_w3:¬ (("caught" : Str) = "coin"):=by decide +kernel
theorem ne_w4:¬ (("believed" : Str) = "coin"):=by decide +kernel
theorem goOn_w (z:Db):(goOn ns ts p z).s=z.s/\(goOn ns ts p z).to=z.to/\(goOn ns ts p z).he=z.he/\(goOn ns ts p z).cl=z.cl:=by
 unfold goOn dA
 split <;> exact ⟨rfl,rfl,rfl,rfl⟩
theorem goOn_no (z:Db):¬ (goOn ns ts p z).aw.1 = "coin" := by
 unfold goOn dA
 split
 . exact fun h=>ne_w1 h.symm
 . show ¬ (if _ then _ else _:Str × Option Int).1 = "coin"
   split
   . exact ne_w4
   . exact ne_w3
theorem goOn_left (z:Db):bi ns (goOn ns ts p z)<=2*(ns.length - z.to.length)/\bn ns (goOn ns ts p z)<=ns.length - z.to.length:=by
 obtain ⟨_,e,_⟩:=goOn_w (ns:=ns) (ts:=ts) (p:=p) z
 have no:=goOn_no (ns:=ns) (ts:=ts) (p:=p) z
 unfold bi bn
 rw [e,if_neg no,if_neg no]
 constructor <;> split <;> omega
theorem TkOk.ak (k:GmK ns ts p) (n6:ns.length<=6) (h:TkOk ns ts p t) (hw:t.z.aw.1 = "hear"):AkOk (t.ak ns ts p)/\0<=awN t.z/\awN t.z<=500/\t.z.to.length < ns.length/\t.z.aw=(("hear" : Str),some (awN t.z))/\awN t.z=cP ts (ns.getD t.z.to.length "")+1:=by
 rcases h.gd.he hw with ⟨e,_⟩ | ⟨_,tl,aw⟩
 . exact absurd e h.cl
 have ea:awN t.z=cP ts (ns.getD t.z.to.length "")+1:=by unfold awN; rw [aw]; rfl
 obtain ⟨d0,d4⟩:=deg_400 k (ns.getD t.z.to.length "")
 have nr:=h.nr
 refine ⟨⟨k,n6,by show 0<=t.nr; omega,fun _=>tl,h.gd.po,h.s0,h.s1,h.gd.e0,h.gd.e1,by show t.z.to.length<=100; omega⟩,by omega,by omega,tl,by rw [ea]; exact aw,ea⟩
theorem TkOk.hear (k:GmK ns ts p) (n6:ns.length<=6) (h:TkOk ns ts p t) (hw:t.z.aw.1 = "hear"):HearOk ns p t.z (t.said ns ts p rows):=by
 obtain ⟨ok,a0,a5,tl,aw,ea⟩:=h.ak k n6 hw
 have p2:=k.p2
 have p9:=k.p9
 obtain ⟨_,r2,r3⟩:=runM_ok (rows:=rows) ok 200 ⟨0,t.bx,[]⟩ h.bo (fun x hx=>by cases hx) a0
 have xo:cw (t.said ns ts p rows) p:=outM_ok r2 (by show 0 < p; omega)
 have xl:((t.said ns ts p rows).length:Int)=awN t.z:=outM_len r3
 have hx:ns.getD t.z.to.length "" ∈ ns:=by
  rw [List.getD_eq_getElem?_getD,List.getElem?_eq_getElem tl]
  exact List.getElem_mem tl
 obtain ⟨d0,d1⟩:=k.deg _ hx
 obtain ⟨_,d4⟩:=deg_400 k (ns.getD t.z.to.length "")
 refine ⟨by rw [xl]; exact aw,xo,by omega,fun _=>⟨by omega,by omega,by omega,fun j=>?_⟩,h.gd.tl,h.gd.po⟩
 have:=getD_rng xo (by omega) j
 omega
theorem hearW_left (z:Db) (xs:List Int) (x0:xs ≠ []):bi ns (cW p xs z)<=2*(ns.length - z.to.length) - 1/\bn ns (cW p xs z)<=ns.length - z.to.length:=by
 have h1:(cW p xs z).to=z.to:=rfl
 have h2:(cW p xs z).he=xs:=rfl
 unfold bi bn
 rw [h1,h2,if_neg x0,if_neg x0]
 have nh:¬ (cW p xs z).aw.1 = "hear" := by
  unfold cW
  show ¬ (if _ then _ else _:Str × Option Int).1 = "hear"
  split
  . exact ne_w1
  . exact ne_w2
 rw [if_neg nh,if_neg nh]
 constructor <;> split <;> omega
theorem TkOk.ask (k:GmK ns ts p) (n6:ns.length<=6) (h:TkOk ns ts p t) (hw:t.z.aw.1 = "hear"):TkOk ns ts p (t.ask ns ts p rows)/\bi ns (t.ask ns ts p rows).z < bi ns t.z/\bn ns (t.ask ns ts p rows).z<=bn ns t.z/\¬ (t.ask ns ts p rows).z.aw.1 = "hear" := by
 obtain ⟨ok,a0,a5,tl,aw,ea⟩:=h.ak k n6 hw
 have ho:=h.hear (rows:=rows) k n6 hw
 obtain ⟨r1,_,_⟩:=runM_ok (rows:=rows) ok 200 ⟨0,t.bx,[]⟩ h.bo (fun x hx=>by cases hx) a0
 obtain ⟨g1,g2⟩:=h.gd.hear k ho
 have x0:=h.gd.hear_ne k ho
 have e:cy ns ts p (t.said ns ts p rows) t.z=cW p (t.said ns ts p rows) { t.z with pl:=t.z.pl+((t.said ns ts p rows).length:Int) }:=if_neg h.cl
 have nr:=h.nr
 obtain ⟨l1,l2⟩:=hearW_left (ns:=ns) (p:=p) { t.z with pl:=t.z.pl+((t.said ns ts p rows).length:Int) } _ x0
 have s1:bi ns t.z=2*(ns.length - t.z.to.length):=if_pos hw
 have s2:bn ns t.z=ns.length - t.z.to.length:=if_pos hw
 refine ⟨⟨g1,g2,?_,?_,r1,by show 1<=t.nr+1; omega,fun _ he=>?_⟩,?_,?_,?_⟩
 . show 0<=(cy ns ts p _ t.z).s
   rw [e]; exact h.s0
 . show (cy ns ts p _ t.z).s < p
   rw [e]; exact h.s1
 . have:(cy ns ts p (t.said ns ts p rows) t.z).he=[]:=he
   rw [e] at this
   exact absurd this x0
 . show bi ns (cy ns ts p _ t.z) < _
   rw [e,s1]
   have l1':bi ns (cW p (t.said ns ts p rows) { t.z with pl:=t.z.pl+((t.said ns ts p rows).length:Int) })<=2*(ns.length - t.z.to.length) - 1:=l1
   omega
 . show bn ns (cy ns ts p _ t.z)<=_
   rw [e,s2]
   exact l2
 . show ¬ (cy ns ts p _ t.z).aw.1 = "hear"
   rw [e]
   unfold cW
   show ¬ (if _ then _ else _:Str × Option Int).1 = "hear"
   split
   . exact ne_w1
   . exact ne_w2
theorem TkOk.tossOk (h:TkOk ns ts p t) (hw:t.z.aw.1 = "coin") {r:Int} (r0:0<=r) (r1:r < p):TossOk ns p t.z r:=⟨hw,r0,r1,h.gd.tl,(h.gd.co hw).2,h.gd.po⟩
theorem TkOk.toss (k:GmK ns ts p) (h:TkOk ns ts p t) (hw:t.z.aw.1 = "coin") {r:Int} (r0:0<=r) (r1:r < p):TkOk ns ts p (t.toss ns ts p r)/\bi ns (t.toss ns ts p r).z < bi ns t.z/\bn ns (t.toss ns ts p r).z+1<=bn ns t.z/\¬ (t.toss ns ts p r).z.aw.1 = "coin" /\ (t.z.he=[]->(t.toss ns ts p r).z.s=r/\(t.toss ns ts p r).z.to=[])/\(t.z.he ≠ []->(t.toss ns ts p r).z.s=t.z.s/\(t.toss ns ts p r).z.to=t.z.to++[r]):=by
 have ok:=h.tossOk hw r0 r1
 obtain ⟨g1,g2⟩:=h.gd.toss k ok
 have nh:¬ t.z.aw.1 = "hear" := by rw [hw]; exact ne_w1
 have s1:bi ns t.z=if t.z.he=[] then 2*ns.length+1 else 2*(ns.length - t.z.to.length) - 1:=by unfold bi; rw [if_neg nh,if_pos hw]
 have s2:bn ns t.z=if t.z.he=[] then ns.length+1 else ns.length - t.z.to.length:=by unfold bn; rw [if_neg nh,if_pos hw]
 have nr:=h.nr
 by_cases c:t.z.he=[]
 . have et:=h.fi hw c
   have e:cO ns ts p r t.z=goOn ns ts p { t.z with pl:=t.z.pl+1,s:=r,ed:=hor r p t.z.cl }:=if_pos c
   have lw:=goOn_w (ns:=ns) (ts:=ts) (p:=p) { t.z with pl:=t.z.pl+1,s:=r,ed:=hor r p t.z.cl }
   have ll:=goOn_left (ns:=ns) (ts:=ts) (p:=p) { t.z with pl:=t.z.pl+1,s:=r,ed:=hor r p t.z.cl }
   have ln:=goOn_no (ns:=ns) (ts:=ts) (p:=p) { t.z with pl:=t.z.pl+1,s:=r,ed:=hor r p t.z.cl }
   rw [← e] at lw ll ln
   obtain ⟨w1,w2,w3,w4⟩:=lw
   have l1:bi ns (cO ns ts p r t.z)<=2*(ns.length - t.z.to.length):=ll.1
   have l2:bn ns (cO ns ts p r t.z)<=ns.length - t.z.to.length:=ll.2
   rw [if_pos c] at s1 s2
   refine ⟨⟨g1,g2,?_,?_,h.bo,nr,fun a=>absurd a ln⟩,?_,?_,ln,fun _=>⟨w1,w2.trans et⟩,fun z=>absurd c z⟩
   . show 0<=(cO ns ts p r t.z).s
     rw [w1]; exact r0
   . show (cO ns ts p r t.z).s < p
     rw [w1]; exact r1
   . show bi ns (cO ns ts p r t.z) < _
     omega
   . show bn ns (cO ns ts p r t.z)+1<=_
     omega
 . have tl:=((h.gd.co hw).2 c).2
   have e:cO ns ts p r t.z=goOn ns ts p { t.z with pl:=t.z.pl+1,ed:=val p t.z.he r,to:=t.z.to++[r] }:=if_neg c
   have lw:=goOn_w (ns:=ns) (ts:=ts) (p:=p) { t.z with pl:=t.z.pl+1,ed:=val p t.z.he r,to:=t.z.to++[r] }
   have ll:=goOn_left (ns:=ns) (ts:=ts) (p:=p) { t.z with pl:=t.z.pl+1,ed:=val p t.z.he r,to:=t.z.to++[r] }
   have ln:=goOn_no (ns:=ns) (ts:=ts) (p:=p) { t.z with pl:=t.z.pl+1,ed:=val p t.z.he r,to:=t.z.to++[r] }
   rw [← e] at lw ll ln
   obtain ⟨w1,w2,w3,w4⟩:=lw
   have el:(t.z.to++[r]).length=t.z.to.length+1:=by rw [List.length_append]; rfl
   have l1:bi ns (cO ns ts p r t.z)<=2*(ns.length - (t.z.to++[r]).length):=ll.1
   have l2:bn ns (cO ns ts p r t.z)<=ns.length - (t.z.to++[r]).length:=ll.2
   rw [el] at l1 l2
   rw [if_neg c] at s1 s2
   refine ⟨⟨g1,g2,?_,?_,h.bo,nr,fun a=>absurd a ln⟩,?_,?_,ln,fun z=>absurd z c,fun _=>⟨w1,w2⟩⟩
   . show 0<=(cO ns ts p r t.z).s
     rw [w1]; exact h.s0
   . show (cO ns ts p r t.z).s < p
     rw [w1]; exact h.s1
   . show bi ns (cO ns ts p r t.z) < _
     omega
   . show bn ns (cO ns ts p r t.z)+1<=_
     omega
theorem new_ak (k:GmK ns ts p) (n6:ns.length<=6):AkOk ((Tk.new ts).ak ns ts p)/\awN (Tk.new ts).z=(ts.length:Int)/\HearOk ns p (Db.new ts) ((Tk.new ts).said ns ts p rows)/\BxOk p (Tk.new ts).bx:=by
 have p2:=k.p2
 have t1:=k.t1
 have t10:=k.t10
 have b0:BxOk p (Tk.new ts).bx:=fun x=>by show (0:Int)<=0/\(0:Int) < p; omega
 have ok:AkOk ((Tk.new ts).ak ns ts p):=⟨k,n6,Int.le_refl 0,fun z=>absurd z (by show ¬ (0:Int) < 0; omega),(fun x hx=>by cases hx),Int.le_refl 0,(by show (0:Int) < p; omega),Int.le_refl 0,(by show (0:Int) < p; omega),Nat.zero_le _⟩
 obtain ⟨_,r2,r3⟩:=runM_ok (rows:=rows) ok 200 ⟨0,(Tk.new ts).bx,[]⟩ b0 (fun x hx=>by cases hx) (by show (0:Int)<=(ts.length:Int); omega)
 have xl:(((Tk.new ts).said ns ts p rows).length:Int)=(ts.length:Int):=outM_len r3
 refine ⟨ok,rfl,⟨?_,outM_ok r2 (by show 0 < p; omega),by omega,fun z=>absurd rfl z,Nat.zero_le _,fun x hx=>by cases hx⟩,b0⟩
 rw [xl]
 rfl
theorem new_ask (k:GmK ns ts p) (n6:ns.length<=6):TkOk ns ts p ((Tk.new ts).ask ns ts p rows)/\bi ns ((Tk.new ts).ask ns ts p rows).z<=2*ns.length+1/\bn ns ((Tk.new ts).ask ns ts p rows).z<=ns.length+(if 1 < ts.length then 1 else 0)/\(1 < ts.length->((Tk.new ts).ask ns ts p rows).z.aw=(("coin" : Str),none)/\((Tk.new ts).ask ns ts p rows).z.he=[]/\((Tk.new ts).ask ns ts p rows).z.to=[])/\(¬ 1 < ts.length->¬ ((Tk.new ts).ask ns ts p rows).z.aw.1 = "coin" /\ ((Tk.new ts).ask ns ts p rows).z.s=0/\((Tk.new ts).ask ns ts p rows).z.to=[]):=by
 have p2:=k.p2
 have t1:=k.t1
 obtain ⟨ok,_,ho,b0⟩:=new_ak (rows:=rows) k n6
 obtain ⟨r1,_,_⟩:=runM_ok (rows:=rows) ok 200 ⟨0,(Tk.new ts).bx,[]⟩ b0 (fun x hx=>by cases hx) (by show (0:Int)<=(ts.length:Int); omega)
 obtain ⟨g1,g2⟩:=(Gd.new k).hear k ho
 have e0:cy ns ts p ((Tk.new ts).said ns ts p rows) (Db.new ts)=hearC ns ts p ((Tk.new ts).said ns ts p rows) { Db.new ts with pl:=(Db.new ts).pl+(((Tk.new ts).said ns ts p rows).length:Int) }:=if_pos rfl
 by_cases c:ts.length=1
 . have e:cy ns ts p ((Tk.new ts).said ns ts p rows) (Db.new ts)=goOn ns ts p { Db.new ts with pl:=(Db.new ts).pl+(((Tk.new ts).said ns ts p rows).length:Int),cl:=(Tk.new ts).said ns ts p rows,s:=0,ed:=hor 0 p ((Tk.new ts).said ns ts p rows) }:=by
    rw [e0]
    exact if_pos c
   have lw:=goOn_w (ns:=ns) (ts:=ts) (p:=p) { Db.new ts with pl:=(Db.new ts).pl+(((Tk.new ts).said ns ts p rows).length:Int),cl:=(Tk.new ts).said ns ts p rows,s:=0,ed:=hor 0 p ((Tk.new ts).said ns ts p rows) }
   have ll:=goOn_left (ns:=ns) (ts:=ts) (p:=p) { Db.new ts with pl:=(Db.new ts).pl+(((Tk.new ts).said ns ts p rows).length:Int),cl:=(Tk.new ts).said ns ts p rows,s:=0,ed:=hor 0 p ((Tk.new ts).said ns ts p rows) }
   have ln:=goOn_no (ns:=ns) (ts:=ts) (p:=p) { Db.new ts with pl:=(Db.new ts).pl+(((Tk.new ts).said ns ts p rows).length:Int),cl:=(Tk.new ts).said ns ts p rows,s:=0,ed:=hor 0 p ((Tk.new ts).said ns ts p rows) }
   rw [← e] at lw ll ln
   obtain ⟨w1,w2,w3,w4⟩:=lw
   have l1:bi ns (cy ns ts p ((Tk.new ts).said ns ts p rows) (Db.new ts))<=2*(ns.length - 0):=ll.1
   have l2:bn ns (cy ns ts p ((Tk.new ts).said ns ts p rows) (Db.new ts))<=ns.length - 0:=ll.2
   refine ⟨⟨g1,g2,?_,?_,r1,by show (1:Int)<=0+1; decide,fun a=>absurd a ln⟩,?_,?_,fun z=>by omega,fun _=>⟨ln,w1,w2⟩⟩
   . show 0<=(cy ns ts p _ (Db.new ts)).s
     rw [w1]; exact Int.le_refl 0
   . show (cy ns ts p _ (Db.new ts)).s < p
     rw [w1]; show (0:Int) < p; omega
   . show bi ns (cy ns ts p _ (Db.new ts))<=_
     omega
   . show bn ns (cy ns ts p _ (Db.new ts))<=_
     rw [if_neg (by omega)]
     omega
 . have e:cy ns ts p ((Tk.new ts).said ns ts p rows) (Db.new ts)={ Db.new ts with pl:=(Db.new ts).pl+(((Tk.new ts).said ns ts p rows).length:Int),cl:=(Tk.new ts).said ns ts p rows,aw:=("coin", none) }:=by
    rw [e0]
    exact if_neg c
   have ez:((Tk.new ts).ask ns ts p rows).z={ Db.new ts with pl:=(Db.new ts).pl+(((Tk.new ts).said ns ts p rows).length:Int),cl:=(Tk.new ts).said ns ts p rows,aw:=("coin", none) }:=e
   refine ⟨⟨g1,g2,?_,?_,r1,by show (1:Int)<=0+1; decide,fun _ _=>?_⟩,?_,?_,fun _=>⟨?_,?_,?_⟩,fun z=>by omega⟩
   . rw [ez]; exact Int.le_refl 0
   . rw [ez]; show (0:Int) < p; omega
   . rw [ez]; rfl
   . rw [ez]
     show (if (("coin" : Str) = "hear") then _ else if (("coin" : Str) = "coin") then (if ([]:List Int)=[] then 2*ns.length+1 else _) else 0)<=_
     rw [if_neg ne_w1,if_pos rfl,if_pos rfl]
     exact Nat.le_refl _
   . rw [ez]
     show (if (("coin" : Str) = "hear") then _ else if (("coin" : Str) = "coin") then (if ([]:List Int)=[] then ns.length+1 else _) else 0)<=_
     rw [if_neg ne_w1,if_pos rfl,if_pos rfl,if_pos (by omega)]
     exact Nat.le_refl _
   . rw [ez]
   . rw [ez]; rfl
   . rw [ez]; rfl
end
inductive TR where
 | claims (xs:List Int) | say (xs:List Int) | coin (r:Int)
noncomputable def cz (ns:List Str) (ts:List Tr) (p:Int) (rows:List Hr):List Int->Nat->Tk->List TR × Tk
 | _,0,t=>([],t)
 | cs,n+1,t=>if t.z.aw.1 = "hear" then (.say (t.said ns ts p rows)::(cz ns ts p rows cs n (t.ask ns ts p rows)).1,(cz ns ts p rows cs n (t.ask ns ts p rows)).2)
   else if t.z.aw.1 = "coin" then (.coin (cs.headD 0)::(cz ns ts p rows cs.tail n (t.toss ns ts p (cs.headD 0))).1,(cz ns ts p rows cs.tail n (t.toss ns ts p (cs.headD 0))).2)
   else ([],t)
noncomputable def talkF (ns:List Str) (ts:List Tr) (p:Int) (rows:List Hr) (cs:List Int):List TR × Tk:=(.claims ((Tk.new ts).said ns ts p rows)::(cz ns ts p rows cs 20 ((Tk.new ts).ask ns ts p rows)).1,(cz ns ts p rows cs 20 ((Tk.new ts).ask ns ts p rows)).2)
theorem dC {ns:List Str} {ts:List Tr} {p:Int} {rows:List Hr} {cs:List Int} {t:Tk} (h1:¬ t.z.aw.1 = "hear") (h2:¬ t.z.aw.1 = "coin"):∀ n,cz ns ts p rows cs n t=([],t)
 | 0=>rfl
 | n+1=>by
   show (if _ then _ else _)=_
   rw [if_neg h1,if_neg h2]
noncomputable def settle (ns:List Str) (ts:List Tr) (p:Int) (rows:List Hr):Nat->Tk->Tk
 | 0,t=>t
 | n+1,t=>if t.z.aw.1 = "hear" then settle ns ts p rows n (t.ask ns ts p rows) else t
def foldW (f:Int->Int × Option (List Int)):Nat->Int × Option (List Int)
 | 0=>(0,none)
 | k+1=>((foldW f k).1+(f (k:Int)).1,(foldW f k).2.or (f (k:Int)).2)
noncomputable def weighG (ns:List Str) (ts:List Tr) (p:Int) (rows:List Hr) (cn:Nat):Nat->Tk->List Int->Int × Option (List Int)
 | 0,_,_=>(0,none)
 | d+1,t,cs=>if (settle ns ts p rows 2 t).z.aw.1 = "believed" then (1,none) else if (settle ns ts p rows 2 t).z.aw.1 = "caught" then (0,some (cs++List.replicate (cn - cs.length) 0))
   else foldW (fun r=>weighG ns ts p rows cn d ((settle ns ts p rows 2 t).toss ns ts p r) (cs++[r])) p.toNat
def Beg (ns:List Str) (ts:List Tr) (p:Int) (t:Tk):Prop:=t=Tk.new ts∨TkOk ns ts p t
section
variable {ns:List Str} {ts:List Tr} {p:Int} {t:Tk} {rows:List Hr}
theorem ci (h:¬ t.z.aw.1 = "hear"):∀ n,settle ns ts p rows n t=t
 | 0=>rfl
 | n+1=>if_neg h
theorem settle_ok (k:GmK ns ts p) (n6:ns.length<=6) (h:TkOk ns ts p t):TkOk ns ts p (settle ns ts p rows 2 t)/\bn ns (settle ns ts p rows 2 t).z<=bn ns t.z/\¬ (settle ns ts p rows 2 t).z.aw.1 = "hear" := by
 by_cases c:t.z.aw.1 = "hear"
 . obtain ⟨o1,_,o3,o4⟩:=h.ask (rows:=rows) k n6 c
   have e:settle ns ts p rows 2 t=t.ask ns ts p rows:=(if_pos c).trans (ci o4 1)
   rw [e]
   exact ⟨o1,o3,o4⟩
 . rw [ci c]
   exact ⟨h,Nat.le_refl _,c⟩
theorem settle_new (k:GmK ns ts p) (n6:ns.length<=6):TkOk ns ts p (settle ns ts p rows 2 (Tk.new ts))/\bn ns (settle ns ts p rows 2 (Tk.new ts)).z<=ns.length+(if 1 < ts.length then 1 else 0)/\¬ (settle ns ts p rows 2 (Tk.new ts)).z.aw.1 = "hear" := by
 obtain ⟨o1,_,o3,_,_⟩:=new_ask (rows:=rows) k n6
 have e:settle ns ts p rows 2 (Tk.new ts)=settle ns ts p rows 1 ((Tk.new ts).ask ns ts p rows):=if_pos rfl
 rw [e]
 by_cases c:((Tk.new ts).ask ns ts p rows).z.aw.1 = "hear"
 . obtain ⟨q1,_,q3,q4⟩:=o1.ask (rows:=rows) k n6 c
   have e:settle ns ts p rows 1 ((Tk.new ts).ask ns ts p rows)=((Tk.new ts).ask ns ts p rows).ask ns ts p rows:=if_pos c
   rw [e]
   exact ⟨q1,Nat.le_trans q3 o3,q4⟩
 . rw [ci c]
   exact ⟨o1,o3,c⟩
theorem Beg.settle (k:GmK ns ts p) (n6:ns.length<=6) (h:Beg ns ts p t):TkOk ns ts p (settle ns ts p rows 2 t)/\¬ (settle ns ts p rows 2 t).z.aw.1 = "hear" := by
 rcases h with rfl | h
 . exact ⟨(settle_new k n6).1,(settle_new k n6).2.2⟩
 . exact ⟨(settle_ok k n6 h).1,(settle_ok k n6 h).2.2⟩
theorem aw_three (h:TkOk ns ts p t) (hn:¬ t.z.aw.1 = "hear") (h1:¬ t.z.aw.1 = "believed") (h2:¬ t.z.aw.1 = "caught"):t.z.aw.1 = "coin" := by
 rcases h.gd.ww with e | e | e | e
 . exact absurd e hn
 . exact e
 . exact absurd e h2
 . exact absurd e h1
structure AskOk (ns:List Str) (ts:List Tr) (p:Int) (rows:List Hr) (t:Tk):Prop where
 ak:AkOk (t.ak ns ts p)
 bo:BxOk p t.bx
 aw:t.z.aw=(("hear" : Str),some (awN t.z))
 a0:0<=awN t.z
 a5:awN t.z<=500
 ho:HearOk ns p t.z (t.said ns ts p rows)
theorem Beg.ask (k:GmK ns ts p) (n6:ns.length<=6) (h:Beg ns ts p t) (hw:t.z.aw.1 = "hear"):AskOk ns ts p rows t:=by
 rcases h with rfl | h
 . obtain ⟨ak0,an0,ho0,bo0⟩:=new_ak (rows:=rows) k n6
   have t1:=k.t1
   have t10:=k.t10
   exact ⟨ak0,bo0,rfl,by rw [an0]; omega,by rw [an0]; omega,ho0⟩
 . obtain ⟨ak,a0,a5,tl,aw,ea⟩:=h.ak k n6 hw
   exact ⟨ak,h.bo,aw,a0,a5,h.hear (rows:=rows) k n6 hw⟩
theorem Beg.asked (k:GmK ns ts p) (n6:ns.length<=6) (h:Beg ns ts p t) (hw:t.z.aw.1 = "hear"):TkOk ns ts p (t.ask ns ts p rows):=by
 rcases h with rfl | h
 . exact (new_ask (rows:=rows) k n6).1
 . exact (h.ask (rows:=rows) k n6 hw).1
end
section
variable {C CM CA CG:Addr}
structure TalkAt (C CM CG:Addr) (H:Hp) (D M g h b:Addr) (rows:List Hr) (ns:List Str) (ts:List Tr) (p:Int) (t:Tk) (m:Nat):Prop where
 DA:DbAt C H D g t.z
 G:Gm CG H g ns ts p
 hM:∃ dm,H M=some (.ins CM dm (ml g h t.nr b))
 hh:∃ rv,H h=some (.tup rv)/\RowsAt H rv rows
 BX:BxAt H b t.bx m
 ne:D ≠ M
theorem TalkAt.same {H H':Hp} {D M g h b:Addr} {rows:List Hr} {ns:List Str} {ts:List Tr} {p:Int} {t:Tk} {m:Nat} (w:TalkAt C CM CG H D M g h b rows ns ts p t m) (s:Same H H'):TalkAt C CM CG H' D M g h b rows ns ts p t m:=by
 obtain ⟨DA,G,⟨dm,hM⟩,⟨rv,hh,R⟩,B,ne⟩:=w
 exact ⟨DA.same s,G.same s,⟨dm,s _ _ hM⟩,⟨rv,s _ _ hh,R.mono (au s)⟩,B.keep fun o e=>s _ _ e,ne⟩
theorem DbAt.but2 {H H':Hp} {D g M b:Addr} {z:Db} {C' dm:Addr} {fs:List (Str × V)} {kvs:List (Key × V)} (h:DbAt C H D g z) (s:But2 M b H H') (hM:H M=some (.ins C' dm fs)) (hb:H b=some (.dK kvs)) (ne:D ≠ M):DbAt C H' D g z:=by
 obtain ⟨dx,aA,aC,aH,aT,R⟩:=h
 have kT:cX H H':=fun a xs e=>s _ _ (ne_of e hM (by intro z; cases z)) (ne_of e hb (by intro z; cases z)) e
 exact ⟨dx,aA,aC,aH,aT,s _ _ ne (ne_of R.hD hb (by intro z; cases z)) R.hD,kT _ _ R.hA,kT _ _ R.hC,kT _ _ R.hH,kT _ _ R.hT⟩
theorem Gm.but2 {H H':Hp} {g M b:Addr} {ns:List Str} {ts:List Tr} {p:Int} {dm g' h:Addr} {r:Int} {b':Addr} {kvs:List (Key × V)} (G:Gm CG H g ns ts p) (s:But2 M b H H') (hM:H M=some (.ins CM dm (ml g' h r b'))) (hb:H b=some (.dK kvs)):Gm CG H' g ns ts p:=by
 obtain ⟨a,b1,d,tv,⟨dg,hg⟩,h2,h3,h4,h5⟩:=G
 have kT:cX H H':=fun a xs e=>s _ _ (ne_of e hM (by intro z; cases z)) (ne_of e hb (by intro z; cases z)) e
 have gM:g ≠ M:=fun e=>by
  rw [e,hM] at hg
  cases hg
 exact ⟨a,b1,d,tv,⟨dg,s _ _ gM (ne_of hg hb (by intro z; cases z)) hg⟩,kT _ _ h2,kT _ _ h3,h4.mono kT,s _ _ (ne_of h5 hM (by intro z; cases z)) (ne_of h5 hb (by intro z; cases z)) h5⟩
theorem TalkAt.doub {H H':Hp} {D M g h b:Addr} {rows:List Hr} {ns:List Str} {ts:List Tr} {p:Int} {t:Tk} {m:Nat} {z':Db} (w:TalkAt C CM CG H D M g h b rows ns ts p t m) (s:SameBut D H H') (DA:DbAt C H' D g z'):TalkAt C CM CG H' D M g h b rows ns ts p ⟨z',t.bx,t.nr⟩ m:=by
 obtain ⟨DA0,G,⟨dm,hM⟩,⟨rv,hh,R⟩,B,ne⟩:=w
 obtain ⟨dx,aA,aC,aH,aT,R0⟩:=DA0
 have kT:cX H H':=fun a xs e=>s _ _ (ne_of e R0.hD (by intro z; cases z)) e
 obtain ⟨kvs,hb,_⟩:=id B
 exact ⟨DA,G.but R0.hD (G.ne R0.hD dl_g) s,⟨dm,s _ _ ne.symm hM⟩,⟨rv,kT _ _ hh,R.mono kT⟩,B.keep fun o e=>s _ _ (ne_of hb R0.hD (by intro z; cases z)) e,ne⟩
def spAsked (C CM CG:Addr):Sp:=fun vs H Q _=>∃ (D M g h b:Addr) (rows:List Hr) (ns:List Str) (ts:List Tr) (p:Int) (t:Tk) (m:Nat),vs=[.ref M,.ref D]/\TalkAt C CM CG H D M g h b rows ns ts p t m/\GmK ns ts p/\rows=[]/\AkOk (t.ak ns ts p)/\BxOk p t.bx/\t.z.aw=(("hear" : Str),some (awN t.z))/\0<=awN t.z/\awN t.z<=500/\HearOk ns p t.z (t.said ns ts p rows)/\m<=5000 /\
 ∀ (a:Addr) (H':Hp),H a=none->H' a=some (.tup ((t.said ns ts p rows).map V.int))->TalkAt C CM CG H' D M g h b rows ns ts p (t.ask ns ts p rows) (m+200)->But3 D M b H H'->Q (.ref a) H'
theorem sc_asked_once:FnScope ["machine", "doubter", "values"] ["machine", "doubter"] (af dc):=⟨rfl,rfl,rfl,by decide +kernel,rfl,by decide +kernel,by decide +kernel⟩
structure Ways (P:Program) (w:World) (K:W.Frag) (mg:Str->Option Value) (base:Heap) (C CM CG fW fU fH fT fS:Addr) (fdW fdU fdH fdT fdS:FuncData):Prop where
 mW:Meth K C "waits" fW
 GW:FnOk P w K mg base CX0 1 fW fdW ["self"] (spOf C fun z v H=>∃ a,v=.ref a/\H a=some (.tup (awV z.aw)))
 bW:Binds K fdW ["self"] []
 mU:Meth K C "due" fU
 GU:FnOk P w K mg base CX0 1 fU fdU ["self"] (spOf C fun z v _=>v=.int z.ed)
 bU:Binds K fdU ["self"] []
 mH:Meth K C "hear" fH
 GH:FnOk P w K mg base CX0 18 fH fdH ["self", "values"] (spHear C CG)
 bH:Binds K fdH ["self", "values"] []
 mT:Meth K C "toss" fT
 GT:FnOk P w K mg base CX0 17 fT fdT ["self", "r"] (spToss C CG)
 bT:Binds K fdT ["self", "r"] []
 mS:Meth K CM "say" fS
 GS:FnOk P w K mg base CX0 25 fS fdS ["self", "many", "due", "s", "coins"] (spSay CM CG)
 bS:Binds K fdS ["self", "many", "due", "s", "coins"] []
theorem TalkAt.asked {H H1:Hp} {D M g h b dm:Addr} {rows:List Hr} {ns:List Str} {ts:List Tr} {p:Int} {t:Tk} {m:Nat} {n1:Int} (w:TalkAt C CM CG H D M g h b rows ns ts p t m) (hM:H M=some (.ins CM dm (ml g h t.nr b))) (B1:BxAt H1 b (t.run ns ts p rows).bx (m+200)) (hM1:H1 M=some (.ins CM dm (ml g h (t.nr+1) b))) (s1:But2 M b H H1) (e1:n1=t.nr+1):TalkAt C CM CG H1 D M g h b rows ns ts p ⟨t.z,(t.run ns ts p rows).bx,n1⟩ (m+200):=by
 obtain ⟨DA0,G,_,⟨rv,hh,R⟩,B,ne⟩:=w
 obtain ⟨kvs,hb,_⟩:=id B
 have kT:cX H H1:=fun a xs e=>s1 _ _ (ne_of e hM (by intro z; cases z)) (ne_of e hb (by intro z; cases z)) e
 subst e1
 exact ⟨DA0.but2 s1 hM hb ne,G.but2 s1 hM hb,⟨dm,hM1⟩,⟨rv,kT _ _ hh,R.mono kT⟩,B1,ne⟩
theorem ok_asked_once {f fW fU fH fT fS:Addr} {fd fdW fdU fdH fdT fdS:FuncData} (F:Fun K "asked_once" "asked_once" dc f fd) (B:Bl mg) (T:DTxt K mg C) (TM:MTxt K mg CM) (Y:Ways P w K mg base C CM CG fW fU fH fT fS fdW fdU fdH fdT fdS):FnOk P w K mg base CX0 26 f fd ["machine", "doubter"] (spAsked C CM CG):=by
 refine F.ok sc_asked_once (fun vs H Q E h=>?_) (fun cdv A outer s H vs Q E hr h=>?_)
 . obtain ⟨D,M,g,h,b,rows,ns,ts,p,t,m,rfl,_⟩:=h
   rfl
 obtain ⟨D,M,g,h,b,rows,ns,ts,p,t,m,rfl,W,k,rg,ok,bo,aw,a0,a5,ho,mm,q⟩:=h
 have hr1:Room 1 _:=hr.mono (by decide)
 have hr18:Room 18 _:=hr.mono (by decide)
 have hr25:Room 25 _:=hr.mono (by decide)
 refine ⟨_,(ad (aq (i:=2) sc_asked_once.nd rfl (Or.inl rfl) (du (pv 0) TM.cl Y.mS Y.GS hr25 Y.bS .nil bF (aa (aR ix_tup (bQ (pv 1) T.cl Y.mW Y.GW hr1 Y.bW .nil bF) ag (fun _ _=>rfl)) (aa (bQ (pv 1) T.cl Y.mU Y.GU hr1 Y.bU .nil bF) (aa (aG (pv 1) rfl) (aa (bN call_list_of rfl B.list boot_list' (aa (aG (pv 1) rfl) ae)) ae))))))
  (ad (bP (du (pv 1) T.cl Y.mH Y.GH hr18 Y.bH .nil bF (aa (pv 2) ae)))
  (aj (aF (bN bE rfl B.tuple bZ (aa (pv 2) ae)))))),?_⟩
 obtain ⟨dm,hM⟩:=W.hM
 have DA:=W.DA
 obtain ⟨dx,aA,aC,aH,aT,R⟩:=id DA
 refine ⟨_,rfl,M,dm,_,rfl,hM,ml_n2,_,rfl,D,dx,_,rfl,R.hD,dl_n1,D,g,t.z,rfl,DA,fun v hv=>?_⟩
 obtain ⟨av,rfl,hav⟩:=hv
 rw [aw] at hav
 refine ⟨av,_,1,.int (awN t.z),rfl,rfl,SqT.of hav,rfl,_,rfl,D,dx,_,rfl,R.hD,dl_n2,D,g,t.z,rfl,DA,fun v hv=>?_⟩
 subst hv
 refine ⟨_,rfl,D,C,dx,_,_,rfl,R.hD,T.cl,T.nS,dl_s,_,rfl,D,C,dx,_,_,rfl,R.hD,T.cl,T.nT,dl_t,aT,_,rfl,.inr (SqT.of R.hT),fun l hl=>?_⟩
 have I:=Same.new hl (.lst (t.z.to.map V.int))
 have g1:upd H l (.lst (t.z.to.map V.int)) l=some (.lst (t.z.to.map V.int)):=upd_same
 generalize upd H l (.lst (t.z.to.map V.int))=H1 at I g1
 have W1:=W.same I
 obtain ⟨rv,hh,RW⟩:=W1.hh
 refine ⟨M,g,h,b,dm,l,rv,t.ak ns ts p,rows,t.bx,m,rfl,I _ _ hM,hh,RW,rg,W1.BX,bo,mm,W1.G,ok,.inl g1,a0,a5,fun l2 H2 l20 hl2 B2 hM2 S2=>?_⟩
 have hs:H2 l2=some (.lst ((t.said ns ts p rows).map V.int)):=hl2
 have W2:=W1.asked (n1:=t.nr+1) (I _ _ hM) B2 hM2 S2 rfl
 obtain ⟨dx2,_,_,_,_,R2⟩:=id W2.DA
 refine ⟨_,rfl,D,dx2,_,rfl,R2.hD,dl_n4,_,rfl,D,g,l2,t.z,t.said ns ts p rows,ns,ts,p,rfl,W2.DA,W2.G,k,hs,ho.aw,ho.xo,ho.x5,ho.ro,ho.tl,ho.po,fun H3 S3 DA3=>?_⟩
 have W3:=W2.doub S3 DA3
 have hs3:=S3 _ _ (ne_of hs R2.hD (by intro z; cases z)) hs
 refine ⟨_,rfl,l2,_,rfl,.inl ⟨SqL.of hs3,fun a ha=>?_⟩⟩
 have J:=Same.new ha (.tup ((t.said ns ts p rows).map V.int))
 have fr:But3 D M b H H3:=fun c o h1 h2 h3 e=>S3 _ _ h1 (S2 _ _ h2 h3 (I _ _ e))
 refine q a _ ?_ upd_same (W3.same J) (fun c o h1 h2 h3 e=>J _ _ (fr c o h1 h2 h3 e))
 cases e:H a with
 | none=>rfl
 | some o =>
   obtain ⟨dx3,_,_,_,_,R3⟩:=W3.DA
   obtain ⟨dm3,hM3⟩:=W3.hM
   obtain ⟨kvs,hb3,_⟩:=W3.BX
   have n1:a ≠ D:=fun z=>by rw [z,R3.hD] at ha; cases ha
   have n2:a ≠ M:=fun z=>by rw [z,hM3] at ha; cases ha
   have n3:a ≠ b:=fun z=>by rw [z,hb3] at ha; cases ha
   rw [fr a o n1 n2 n3 e] at ha
   cases ha
end
section
variable {C CM CA CG:Addr}
inductive TRAt (H:Hp):V->TR->Prop
 | claims {a b:Addr} {xs:List Int}:H a=some (.tup [.str "claims", .ref b])->H b=some (.tup (xs.map V.int))->TRAt H (.ref a) (.claims xs)
 | say {a b:Addr} {xs:List Int}:H a=some (.tup [.str "say", .ref b])->H b=some (.tup (xs.map V.int))->TRAt H (.ref a) (.say xs)
 | coin {a:Addr} {r:Int}:H a=some (.tup [.str "coin", .int r])->TRAt H (.ref a) (.coin r)
theorem TRAt.mono {H H':Hp} (k:cX H H') {v:V} {r:TR} (h:TRAt H v r):TRAt H' v r:=by
 cases h with
 | claims e f=>exact .claims (k _ _ e) (k _ _ f)
 | say e f=>exact .say (k _ _ e) (k _ _ f)
 | coin e=>exact .coin (k _ _ e)
def TRsAt (H:Hp):List V->List TR->Prop
 | [],[]=>True
 | v::vs,r::rs=>TRAt H v r/\TRsAt H vs rs
 | _,_=>False
theorem TRsAt.mono {H H':Hp} (k:cX H H'):∀ {vs:List V} {rs:List TR},TRsAt H vs rs->TRsAt H' vs rs
 | [],[],_=>trivial
 | _::_,_::_,h=>⟨h.1.mono k,TRsAt.mono k h.2⟩
 | [],_::_,h=>h.elim
 | _::_,[],h=>h.elim
theorem TRsAt.snoc {H:Hp} {v:V} {r:TR} (hr:TRAt H v r):∀ {vs:List V} {rs:List TR},TRsAt H vs rs->TRsAt H (vs++[v]) (rs++[r])
 | [],[],_=>⟨hr,trivial⟩
 | _::_,_::_,h=>⟨h.1,TRsAt.snoc hr h.2⟩
 | [],_::_,h=>h.elim
 | _::_,[],h=>h.elim
structure Told (H:Hp) (a:Addr) (x:List TR × Tk):Prop where
 ex:∃ (b c:Addr) (vs:List V),H a=some (.tup [.ref b,.ref c])/\H b=some (.tup vs)/\TRsAt H vs x.1/\H c=some (.tup (awV x.2.z.aw))
theorem hc_in (o:Str):inV (.str o) [.str "hear", .str "coin"]=(decide (o = "hear") || decide (o = "coin")):=by
 show (("hear" == o) || (("coin" == o) || false))=_
 rw [Bool.or_false]
 have e:∀ z:Str,(z == o)=decide (o=z):=fun z=>by
  by_cases c:o=z
  . subst c; simp
  . rw [decide_eq_false c]; simpa using fun h=>c h.symm
 rw [e,e]
def spTalked (C CM CG:Addr):Sp:=fun vs H Q _=>∃ (g h c:Addr) (rv:List V) (rows:List Hr) (ns:List Str) (ts:List Tr) (p:Int) (cs:List Int),vs=[.ref g,.ref h,.ref c]/\Gm CG H g ns ts p/\GmK ns ts p/\ns.length<=6/\H h=some (.tup rv)/\RowsAt H rv rows/\rows=[]/\IntsAt H c cs/\cw cs p/\ns.length+(if 1 < ts.length then 1 else 0)<=cs.length/\cs.length<=100 /\
 ∀ (a:Addr) (H':Hp),Same H H'->Told H' a (talkF ns ts p rows cs)->Q (.ref a) H'
theorem sc_talked:FnScope ["game", "helper", "coins", "machine", "doubter", "talk", "tossed"] ["game", "helper", "coins"] (af s_talked):=⟨rfl,rfl,rfl,by decide +kernel,rfl,by decide +kernel,by decide +kernel⟩
theorem awV0 (a:Str × Option Int):atI (awV a) 0=some (.str a.1):=cL (j:=0) (awV_0 a)
theorem talkG_hear {ns:List Str} {ts:List Tr} {p:Int} {rows:List Hr} {cs:List Int} {n:Nat} {t:Tk} (h:t.z.aw.1 = "hear"):cz ns ts p rows cs (n+1) t=(.say (t.said ns ts p rows)::(cz ns ts p rows cs n (t.ask ns ts p rows)).1,(cz ns ts p rows cs n (t.ask ns ts p rows)).2):=if_pos h
theorem talkG_coin {ns:List Str} {ts:List Tr} {p:Int} {rows:List Hr} {cs:List Int} {n:Nat} {t:Tk} (h:t.z.aw.1 = "coin"):cz ns ts p rows cs (n+1) t=(.coin (cs.headD 0)::(cz ns ts p rows cs.tail n (t.toss ns ts p (cs.headD 0))).1,(cz ns ts p rows cs.tail n (t.toss ns ts p (cs.headD 0))).2):=by
 show (if _ then _ else if _ then _ else _)=_
 rw [if_neg (by rw [h]; exact ne_w1),if_pos h]
theorem dE {ns:List Str} {ts:List Tr} {p:Int} {t:Tk} (h:TkOk ns ts p t) (hw:t.z.aw.1 = "hear" ∨ t.z.aw.1 = "coin"):1<=bi ns t.z/\(t.z.aw.1 = "coin" -> 1<=bn ns t.z):=by
 rcases hw with hw | hw
 . have tl:t.z.to.length < ns.length:=by
    rcases h.gd.he hw with ⟨e,_⟩ | ⟨_,tl,_⟩
    . exact absurd e h.cl
    . exact tl
   refine ⟨?_,fun z=>absurd (z.symm.trans hw) ne_w1⟩
   have:bi ns t.z=2*(ns.length - t.z.to.length):=if_pos hw
   omega
 . have nh:¬ t.z.aw.1 = "hear" := by rw [hw]; exact ne_w1
   have s1:bi ns t.z=if t.z.he=[] then 2*ns.length+1 else 2*(ns.length - t.z.to.length) - 1:=by unfold bi; rw [if_neg nh,if_pos hw]
   have s2:bn ns t.z=if t.z.he=[] then ns.length+1 else ns.length - t.z.to.length:=by unfold bn; rw [if_neg nh,if_pos hw]
   by_cases c:t.z.he=[]
   . rw [if_pos c] at s1 s2
     exact ⟨by omega,fun _=>by omega⟩
   . have tl:=((h.gd.co hw).2 c).2
     rw [if_neg c] at s1 s2
     exact ⟨by omega,fun _=>by omega⟩
theorem drop_head {cs:List Int} {u:Nat} (h:u < cs.length):(cs.drop u).headD 0=cs.getD u 0/\(cs.drop u).tail=cs.drop (u+1):=by
 rw [List.drop_eq_getElem_cons h,List.getD_eq_getElem?_getD,List.getElem?_eq_getElem h]
 exact ⟨rfl,rfl⟩
theorem ix_ints {K:W.Frag} {H:Hp} {c:Addr} {cs:List Int} {u:Nat} {Q:VK} (h:IntsAt H c cs) (hu:u < cs.length) (q:Q (.int (cs.getD u 0)) H):rIx K (.ref c) (.int (u:Int)) H Q :=
 h.elim (fun e=>.inl ⟨c,_,_,_,rfl,rfl,SqL.of e,ints_at hu,q⟩) (fun e=>.inr (.inl ⟨c,_,_,_,rfl,rfl,SqT.of e,ints_at hu,q⟩))
theorem TalkAt.put {H:Hp} {D M g h b L:Addr} {rows:List Hr} {ns:List Str} {ts:List Tr} {p:Int} {t:Tk} {m:Nat} {ys zs:List V} (w:TalkAt C CM CG H D M g h b rows ns ts p t m) (hL:H L=some (.lst ys)) (G:Gm CG (upd H L (.lst zs)) g ns ts p):TalkAt C CM CG (upd H L (.lst zs)) D M g h b rows ns ts p t m:=by
 obtain ⟨⟨dx,aA,aC,aH,aT,R⟩,_,⟨dm,hM⟩,⟨rv,hh,RR⟩,B,ne⟩:=w
 have kT:cX H (upd H L (.lst zs)):=df hL
 have U:∀ {c:Addr} {o:HO},c ≠ L->H c=some o->upd H L (.lst zs) c=some o:=fun n e=>by rw [ax n]; exact e
 obtain ⟨kvs,hb,_⟩:=id B
 exact ⟨⟨dx,aA,aC,aH,aT,U (ne_of R.hD hL (by intro z; cases z)) R.hD,kT _ _ R.hA,kT _ _ R.hC,kT _ _ R.hH,kT _ _ R.hT⟩,G,⟨dm,U (ne_of hM hL (by intro z; cases z)) hM⟩,⟨rv,kT _ _ hh,RR.mono kT⟩,B.keep fun o e=>U (ne_of hb hL (by intro z; cases z)) e,ne⟩
theorem TRsAt.len {H:Hp}:∀ {vs:List V} {rs:List TR},TRsAt H vs rs->vs.length=rs.length
 | [],[],_=>rfl
 | _::_,_::_,h=>congrArg (·+1) (TRsAt.len h.2)
 | [],_::_,h=>h.elim
 | _::_,[],h=>h.elim
theorem ok_talked {f fI fM fW fU fH fT fS:Addr} {fd fdI fdM fdW fdU fdH fdT fdS:FuncData} (F:Fun K "talked" "talked" s_talked f fd) (B:Bl mg) (T:DTxt K mg C) (TM:MTxt K mg CM) (Y:Ways P w K mg base C CM CG fW fU fH fT fS fdW fdU fdH fdT fdS)
 (MD:Mk K C fI) (GD:FnOk P w K mg base CX0 1 fI fdI ["self", "game"] (spDInit C CG)) (bD:Binds K fdI ["self", "game"] []) (MM:Mk K CM fM) (GM:FnOk P w K mg base CX0 1 fM fdM ["self", "game", "helper"] (spMInit CM)) (bM:Binds K fdM ["self", "game", "helper"] [])
 (C_asked_once:Cal P w K mg base 26 "asked_once" ["machine", "doubter"] (spAsked C CM CG)):FnOk P w K mg base CX0 27 f fd ["game", "helper", "coins"] (spTalked C CM CG):=by
 refine F.ok sc_talked (fun vs H Q E h=>?_) (fun cdv A outer s H vs Q E hr h=>?_)
 . obtain ⟨g,h,c,rv,rows,ns,ts,p,cs,rfl,_⟩:=h
   rfl
 obtain ⟨g,h,c,rv,rows,ns,ts,p,cs,rfl,G,k,n6,hh,RW,rg,hc,co,cl,c100,q⟩:=h
 have hr1:Room 1 _:=hr.mono (by decide)
 have hr2:Room (1+1) _:=hr.mono (by decide)
 have hr17:Room 17 _:=hr.mono (by decide)
 refine ⟨_,(ad (aq (i:=3) sc_talked.nd rfl (Or.inl rfl) (pe_make MM GM hr2 rfl TM.mgC bM .nil bF (aa (pv 0) (aa (pv 1) ae))))
  (ad (aq (i:=4) sc_talked.nd rfl (Or.inl rfl) (pe_make MD GD hr2 rfl T.mgC bD .nil bF (aa (pv 0) ae)))
  (ad (aq (i:=5) sc_talked.nd rfl (Or.inl rfl) (cH (aa (aV (aa aO (aa (aE C_asked_once hr (by decide) rfl (aa (pv 3) (aa (pv 4) ae))) ae))) ae)))
  (ad (aq (i:=6) sc_talked.nd rfl (Or.inl rfl) ag)
  (ad (ps_while PassesOwn.never (aB op_in_seq (aR ix_tup (bQ (pv 4) T.cl Y.mW Y.GW hr1 Y.bW .nil bF) ag (fun _ _=>rfl)) (aV (aa aO (aa aO ae))) (by with_unfolding_all rfl)) (aj (aU (aB cu (aR ix_tup (bQ (pv 4) T.cl Y.mW Y.GW hr1 Y.bW .nil bF) ag (fun _ _=>rfl)) aO (aI _)) (aj (bP (pe_bm PySem.F.plainAttrs_list PySem.F.slot_list_append PySem.F.type_list_append mt_append (pv 5) (aa (aV (aa aO (aa (aE C_asked_once hr (by decide) rfl (aa (pv 3) (aa (pv 4) ae))) ae))) ae)))) (ad (bP (du (pv 4) T.cl Y.mT Y.GT hr17 Y.bT .nil bF (aa (aR ix_seq (pv 2) (pv 6) (fun _ _=>rfl)) ae)))
   (ad (bP (pe_bm PySem.F.plainAttrs_list PySem.F.slot_list_append PySem.F.type_list_append mt_append (pv 5) (aa (aV (aa aO (aa (aR ix_seq (pv 2) (pv 6) (fun _ _=>rfl)) ae))) ae)))
   (aj (aq (i:=6) sc_talked.nd rfl (Or.inl rfl) (ao aX (pv 6) ag))))))))
  (aj (aF (aV (aa (bN bE rfl B.tuple bZ (aa (pv 5) ae)) (aa (bQ (pv 4) T.cl Y.mW Y.GW hr1 Y.bW .nil bF) ae)))))))))),?_⟩
 refine ⟨_,rfl,_,rfl,fun M dm hM0 hdm0 nM=>?_⟩
 have K1:Same H (upd (upd H dm (.own M)) M (.ins CM dm [])):=fun a o e=>by
  rw [ax (ai e hM0),ax (ai e hdm0)]
  exact e
 refine ⟨M,g,h,dm,rfl,upd_same,fun b H2 b0 hM2 hb2 S2=>⟨rfl,?_⟩⟩
 have T2:Same H H2:=Same.but K1 hM0 S2
 have b00:H b=none:=K1.free b0
 clear K1 S2 b0
 refine ⟨_,rfl,fun D dd hD0 hdd0 nD=>?_⟩
 have K3:Same H2 (upd (upd H2 dd (.own D)) D (.ins C dd [])):=fun a o e=>by
  rw [ax (ai e hD0),ax (ai e hdd0)]
  exact e
 have G2:=G.same T2
 have gD:g ≠ D:=by
  obtain ⟨_,_,_,_,⟨dg,hg⟩,_⟩:=G2
  exact ai hg hD0
 refine ⟨D,g,dd,ns,ts,p,rfl,upd_same,G2.same K3,gD,fun H4 S4 DA4=>⟨rfl,?_⟩⟩
 have T24:Same H2 H4:=Same.but K3 hD0 S4
 have T4:Same H H4:=T2.trans T24
 have D00:H D=none:=T2.free hD0
 have nDM:D ≠ M:=(ai hM2 hD0).symm
 have W4:TalkAt C CM CG H4 D M g h b rows ns ts p (Tk.new ts) 0:=⟨DA4,G.same T4,⟨dm,T24 _ _ hM2⟩,⟨rv,T4 _ _ hh,RW.mono (au T4)⟩,⟨[],T24 _ _ hb2,Nat.le_refl _,fun _=>rfl⟩,nDM⟩
 clear K3 S4 DA4 T24 hM2 hb2 G2 T2
 obtain ⟨ak0,an0,ho0,bo0⟩:=new_ak (rows:=rows) k n6
 have t1:=k.t1
 have t10:=k.t10
 refine ⟨_,rfl,_,rfl,D,M,g,h,b,rows,ns,ts,p,Tk.new ts,0,rfl,W4,k,rg,ak0,bo0,rfl,by rw [an0]; omega,by rw [an0]; omega,ho0,by decide,fun a5 H5 a50 ha5 W5 S5=>?_⟩
 have T5:Same H H5:=fun a o e=>S5 _ _ (ai e D00) (ai e hM0) (ai e b00) (T4 _ _ e)
 refine ⟨(by show 2<=sizeLine; decide),fun t6 h6=>⟨(by show 1<=sizeLine; decide),fun L hL=>?_⟩⟩
 have I6:=Same.new h6 (.tup [.str "claims", .ref a5])
 have I7:=Same.new hL (.lst [.ref t6])
 have R7:TRsAt (upd (upd H5 t6 (.tup [.str "claims", .ref a5])) L (.lst [.ref t6])) [.ref t6] [.claims ((Tk.new ts).said ns ts p rows)]:=⟨.claims (I7 _ _ upd_same) (I7 _ _ (I6 _ _ ha5)),trivial⟩
 have g7:upd (upd H5 t6 (.tup [.str "claims", .ref a5])) L (.lst [.ref t6]) L=some (.lst [.ref t6]):=upd_same
 have J7:=I6.trans I7
 have L00:H L=none:=(T5.trans I6).free hL
 generalize upd (upd H5 t6 (.tup [.str "claims", .ref a5])) L (.lst [.ref t6])=H7 at R7 g7 J7
 obtain ⟨ok7,st7,co7,_⟩:=new_ask (rows:=rows) k n6
 have W7:=W5.same J7
 have T7:=T5.trans J7
 clear I6 I7 J7 S5 T5 W5 W4 T4 ha5 h6 hL
 refine ⟨fun mm σ H'=>∃ (t:Tk) (n u m:Nat) (rs:List TR) (vs:List V),σ=[some (.ref g),some (.ref h),some (.ref c),some (.ref M),some (.ref D),some (.ref L),some (.int (u:Int))]/\mm=n/\bi ns t.z<=n/\n<=20/\TalkAt C CM CG H' D M g h b rows ns ts p t m/\TkOk ns ts p t/\H' L=some (.lst vs)/\TRsAt H' vs rs/\(rs++(cz ns ts p rows (cs.drop u) n t).1,(cz ns ts p rows (cs.drop u) n t).2)=talkF ns ts p rows cs/\bn ns t.z+u<=cs.length/\m+200*n<=4200/\rs.length+n<=21/\Same H H',
  ⟨20,(Tk.new ts).ask ns ts p rows,20,0,200,_,_,rfl,rfl,by omega,Nat.le_refl _,W7,ok7,g7,R7,rfl,by omega,by decide,(by show 1+20<=21; decide),T7⟩,?_⟩
 clear st7 co7 ok7 W7 T7 R7 g7 ak0 an0 ho0 bo0
 rintro mm σ H' ⟨t,n,u,m,rs,vs,rfl,rfl,sn,n20,W,ok,hL,TR,eq,cn,mn,rn,S⟩
 have DA:=W.DA
 obtain ⟨dx,aA,aC,aH,aT,R⟩:=id DA
 have p2:=k.p2
 have vl:=TR.len
 refine ⟨_,rfl,D,dx,_,rfl,R.hD,dl_n1,D,g,t.z,rfl,DA,fun v hv=>?_⟩
 obtain ⟨av,rfl,hav⟩:=hv
 refine ⟨av,_,0,_,rfl,rfl,SqT.of hav,awV0 _,(by show 2<=sizeLine; decide),fun c1 hc1=>?_⟩
 have I1:=Same.new hc1 (.tup [.str "hear", .str "coin"])
 refine ⟨c1,_,rfl,.inr (SqT.of upd_same),rfl,rfl,_,rfl,?_⟩
 generalize upd H' c1 (.tup [.str "hear", .str "coin"])=H1 at I1
 have W1:=W.same I1
 have DA1:=W1.DA
 have hL1:=I1 _ _ hL
 have TR1:=TR.mono (au I1)
 have S1:=S.trans I1
 obtain ⟨dx1,aA1,aC1,aH1,aT1,R1⟩:=id DA1
 show if inV (.str t.z.aw.1) [.str "hear", .str "coin"]=true then _ else _
 rw [hc_in]
 clear W DA R hL TR S hav I1
 by_cases ch:t.z.aw.1 = "hear"
 . rw [decide_eq_true ch,Bool.true_or]
   refine iteT ?_
   refine ⟨_,fun _ _ h=>h,?_⟩
   refine ⟨_,rfl,D,dx1,_,rfl,R1.hD,dl_n1,D,g,t.z,rfl,DA1,fun v hv=>?_⟩
   obtain ⟨av2,rfl,hav2⟩:=hv
   refine ⟨av2,_,0,_,rfl,rfl,SqT.of hav2,awV0 _,rfl,_,rfl,cS (congrArg V.str ch) ?_⟩
   have sp:=(dE ok (.inl ch)).1
   obtain ⟨n',rfl⟩:∃ n',mm=n'+1:=⟨mm - 1,by omega⟩
   obtain ⟨ak,a0,a5,tl,aw,ea⟩:=ok.ak k n6 ch
   have ho:=ok.hear (rows:=rows) k n6 ch
   obtain ⟨ok',st',co',_⟩:=ok.ask (rows:=rows) k n6 ch
   refine ⟨_,rfl,.inl ⟨rfl,_,SqL.of hL1⟩,_,rfl,_,rfl,D,M,g,h,b,rows,ns,ts,p,t,m,rfl,W1,k,rg,ak,ok.bo,aw,a0,a5,ho,by omega,fun a6 H6 a60 ha6 W6 S6=>?_⟩
   obtain ⟨dmw,hMw⟩:=W1.hM
   obtain ⟨kvw,hbw,_⟩:=W1.BX
   have kT6:cX H1 H6:=fun a xs e=>S6 _ _ (ne_of e R1.hD (by intro z; cases z)) (ne_of e hMw (by intro z; cases z)) (ne_of e hbw (by intro z; cases z)) e
   have hL6:=S6 _ _ (ne_of hL1 R1.hD (by intro z; cases z)) (ne_of hL1 hMw (by intro z; cases z)) (ne_of hL1 hbw (by intro z; cases z)) hL1
   have S06:Same H H6:=fun a o e=>S6 _ _ (ai e D00) (ai e hM0) (ai e b00) (S1 _ _ e)
   refine ⟨(by show 2<=sizeLine; decide),fun t7 h7=>?_⟩
   have I7:=Same.new h7 (.tup [.str "say", .ref a6])
   have R7:TRAt (upd H6 t7 (.tup [.str "say", .ref a6])) (.ref t7) (.say (t.said ns ts p rows)):=.say upd_same (I7 _ _ ha6)
   generalize upd H6 t7 (.tup [.str "say", .ref a6])=H7 at I7 R7
   have hL7:=I7 _ _ hL6
   refine ⟨L,_,_,rfl,rfl,hL7,aS (by omega),?_⟩
   have k8:cX H7 (upd H7 L (.lst (vs++[.ref t7]))):=df hL7
   have S8:Same H (upd H7 L (.lst (vs++[.ref t7]))):=fun a o e=>by
    rw [ax (ai e L00)]
    exact I7 _ _ (S06 _ _ e)
   refine ⟨n',Nat.lt_succ_self _,t.ask ns ts p rows,n',u,m+200,rs++[.say (t.said ns ts p rows)],_,rfl,rfl,by omega,by omega,(W6.same I7).put hL7 (G.same S8),ok',upd_same,((TR1.mono (fun a xs e=>k8 _ _ (I7 _ _ (kT6 _ _ e)))).snoc (R7.mono k8)),?_,by omega,by omega,by rw [List.length_append]; show rs.length+1+n'<=21; omega,S8⟩
   rw [← eq,talkG_hear ch,List.append_assoc]
   rfl
 . rw [decide_eq_false ch,Bool.false_or]
   by_cases cc:t.z.aw.1 = "coin"
   . rw [decide_eq_true cc]
     refine iteT ?_
     refine ⟨_,fun _ _ h=>h,?_⟩
     refine ⟨_,rfl,D,dx1,_,rfl,R1.hD,dl_n1,D,g,t.z,rfl,DA1,fun v hv=>?_⟩
     obtain ⟨av2,rfl,hav2⟩:=hv
     refine ⟨av2,_,0,_,rfl,rfl,SqT.of hav2,awV0 _,rfl,_,rfl,bd (neS ch) ?_⟩
     obtain ⟨sp,cp⟩:=dE ok (.inr cc)
     have cp:=cp cc
     obtain ⟨n',rfl⟩:∃ n',mm=n'+1:=⟨mm - 1,by omega⟩
     have hu:u < cs.length:=by omega
     obtain ⟨dh,dt⟩:=drop_head hu
     have rr:=getD_rng co (by omega) u
     obtain ⟨ok',st',co',_⟩:=ok.toss k cc rr.1 rr.2
     have to:=ok.tossOk cc rr.1 rr.2
     refine ⟨_,rfl,D,dx1,_,rfl,R1.hD,dl_n5,_,rfl,_,rfl,ix_ints (hc.same S1) hu ?_⟩
     refine ⟨D,g,t.z,cs.getD u 0,ns,ts,p,rfl,DA1,W1.G,k,to.aw,to.r0,to.r1,to.tl,to.ro,to.po,fun H6 S6 DA6=>?_⟩
     have W6:=W1.doub S6 DA6
     have kT6:cX H1 H6:=fun a xs e=>S6 _ _ (ne_of e R1.hD (by intro z; cases z)) e
     have hL6:=S6 _ _ (ne_of hL1 R1.hD (by intro z; cases z)) hL1
     have S06:Same H H6:=fun a o e=>S6 _ _ (ai e D00) (S1 _ _ e)
     refine ⟨_,rfl,.inl ⟨rfl,_,SqL.of hL6⟩,_,rfl,_,rfl,ix_ints (hc.same S06) hu ?_⟩
     refine ⟨(by show 2<=sizeLine; decide),fun t7 h7=>?_⟩
     have I7:=Same.new h7 (.tup [.str "coin", .int (cs.getD u 0)])
     have R7:TRAt (upd H6 t7 (.tup [.str "coin", .int (cs.getD u 0)])) (.ref t7) (.coin (cs.getD u 0)):=.coin upd_same
     generalize upd H6 t7 (.tup [.str "coin", .int (cs.getD u 0)])=H7 at I7 R7
     have hL7:=I7 _ _ hL6
     refine ⟨L,_,_,rfl,rfl,hL7,aS (by omega),?_⟩
     have k8:cX H7 (upd H7 L (.lst (vs++[.ref t7]))):=df hL7
     have S8:Same H (upd H7 L (.lst (vs++[.ref t7]))):=fun a o e=>by
      rw [ax (ai e L00)]
      exact I7 _ _ (S06 _ _ e)
     refine ⟨_,rfl,_,_,rfl,rfl,?_⟩
     refine ⟨n',Nat.lt_succ_self _,t.toss ns ts p (cs.getD u 0),n',u+1,m,rs++[.coin (cs.getD u 0)],_,rfl,rfl,by omega,by omega,(W6.same I7).put hL7 (G.same S8),ok',upd_same,((TR1.mono (fun a xs e=>k8 _ _ (I7 _ _ (kT6 _ _ e)))).snoc (R7.mono k8)),?_,by omega,by omega,by rw [List.length_append]; show rs.length+1+n'<=21; omega,S8⟩
     rw [← eq,talkG_coin cc,dh,dt,List.append_assoc]
     rfl
   . rw [decide_eq_false cc]
     refine iteF ?_
     rw [dC ch cc,List.append_nil] at eq
     refine ⟨_,rfl,L,_,rfl,.inl ⟨SqL.of hL1,fun b8 hb8=>?_⟩⟩
     have I8:=Same.new hb8 (.tup vs)
     have g8:upd H1 b8 (.tup vs) b8=some (.tup vs):=upd_same
     generalize upd H1 b8 (.tup vs)=H8 at I8 g8
     have DA8:=DA1.same I8
     obtain ⟨dx8,_,_,_,_,R8⟩:=id DA8
     refine ⟨_,rfl,D,dx8,_,rfl,R8.hD,dl_n1,D,g,t.z,rfl,DA8,fun v hv=>?_⟩
     obtain ⟨av2,rfl,hav2⟩:=hv
     refine ⟨(by show 2<=sizeLine; decide),fun a9 ha9=>?_⟩
     have I9:=Same.new ha9 (.tup [.ref b8,.ref av2])
     refine q a9 _ (S1.trans (I8.trans I9)) ⟨b8,av2,vs,upd_same,I9 _ _ g8,?_,?_⟩
     . rw [← eq]
       exact TR1.mono (au (I8.trans I9))
     . rw [← eq]
       exact I9 _ _ hav2
end
section
variable {C CG:Addr}
abbrev s_dtwin:Stmt:=bV cF 11
def spTwin (C CG:Addr):Sp:=fun vs H Q _=>∃ (D g:Addr) (z:Db) (ns:List Str) (ts:List Tr) (p:Int),vs=[.ref D]/\DbAt C H D g z/\Gm CG H g ns ts p/\∀ (D2:Addr) (H':Hp),H D2=none->Same H H'->DbAt C H' D2 g z->Q (.ref D2) H'
theorem sc_dtwin:FnScope ["self", "other"] ["self"] (af s_dtwin):=⟨rfl,rfl,rfl,by decide +kernel,rfl,by decide +kernel,by decide +kernel⟩
theorem ok_dtwin {f fD:Addr} {fd fdD:FuncData} (F:Fun K "twin" "Doubter.twin" s_dtwin f fd) (T:DTxt K mg C) (MD:Mk K C fD) (GD:FnOk P w K mg base CX0 1 fD fdD ["self", "game"] (spDInit C CG)) (bD:Binds K fdD ["self", "game"] []):FnOk P w K mg base CX0 3 f fd ["self"] (spTwin C CG):=by
 refine F.ok sc_dtwin (fun vs H Q E h=>?_) (fun cdv A outer s H vs Q E hr h=>?_)
 . obtain ⟨D,g,z,ns,ts,p,rfl,_⟩:=h
   rfl
 obtain ⟨D,g,z,ns,ts,p,rfl,⟨dx,aA,aC,aH,aT,R⟩,G,q⟩:=h
 have hr2:Room (1+1) _:=hr.mono (by decide)
 refine ⟨_,(ad (aq (i:=1) sc_dtwin.nd rfl (Or.inl rfl) (pe_make MD GD hr2 rfl T.mgC bD .nil bF (aa (aG (pv 0) rfl) ae)))
  (ad (aQ (pv 1) (aG (pv 0) rfl) rfl)
  (ad (aQ (pv 1) (aG (pv 0) rfl) rfl)
  (ad (aQ (pv 1) (aG (pv 0) rfl) rfl)
  (ad (aQ (pv 1) (aG (pv 0) rfl) rfl)
  (ad (aQ (pv 1) (aG (pv 0) rfl) rfl)
  (ad (aQ (pv 1) (aG (pv 0) rfl) rfl)
  (ad (aQ (pv 1) (aG (pv 0) rfl) rfl)
  (aj (aF (pv 1))))))))))),?_⟩
 refine ⟨_,rfl,D,C,dx,_,_,rfl,R.hD,T.cl,T.nG,dl_g,fun D2 dD nD ndD neD=>?_⟩
 have s10:Same H (upd (upd H dD (.own D2)) D2 (.ins C dD [])):=fun b o e=>by
  rw [ax (ai e nD),ax (ai e ndD)]
  exact e
 have gD:g ≠ D2:=by
  obtain ⟨a,b,d,tv,⟨dg,hg⟩,_⟩:=id G
  exact ai hg nD
 refine ⟨D2,g,dD,ns,ts,p,rfl,upd_same,G.same s10,gD,fun H0 S0 D0=>⟨rfl,?_⟩⟩
 have S00:Same H H0:=fun b o e=>S0 b o (ai e nD) (s10 b o e)
 have nDD:D ≠ D2:=ai R.hD nD
 obtain ⟨dx2,aA2,aC2,aH2,aT2,R2⟩:=D0
 have h0:=R2.hD
 generalize (Db.new ts).s=s2,(Db.new ts).ed=ed2,(Db.new ts).pl=pl2 at h0
 have hD0:=S00 _ _ R.hD
 refine ⟨_,rfl,D,C,dx,_,_,rfl,hD0,T.cl,T.nA,dl_a,_,rfl,D2,C,dx2,_,rfl,h0,T.cl,T.nA,ca,?_⟩
 rw [put_a]
 have U0:SameBut D2 H0 (upd H0 D2 (.ins C dx2 (dl g aA aC2 s2 aH2 aT2 ed2 pl2))):=SameBut.upd _
 have h1:upd H0 D2 (.ins C dx2 (dl g aA aC2 s2 aH2 aT2 ed2 pl2)) D2=some (.ins C dx2 (dl g aA aC2 s2 aH2 aT2 ed2 pl2)):=upd_same
 have hD1:=U0 _ _ nDD hD0
 generalize upd H0 D2 (.ins C dx2 (dl g aA aC2 s2 aH2 aT2 ed2 pl2))=H1 at U0 h1 hD1
 refine ⟨_,rfl,D,C,dx,_,_,rfl,hD1,T.cl,T.nC,dl_c,_,rfl,D2,C,dx2,_,rfl,h1,T.cl,T.nC,ca,?_⟩
 rw [put_c]
 have U1:SameBut D2 H1 (upd H1 D2 (.ins C dx2 (dl g aA aC s2 aH2 aT2 ed2 pl2))):=SameBut.upd _
 have h2:upd H1 D2 (.ins C dx2 (dl g aA aC s2 aH2 aT2 ed2 pl2)) D2=some (.ins C dx2 (dl g aA aC s2 aH2 aT2 ed2 pl2)):=upd_same
 have hD2:=U1 _ _ nDD hD1
 generalize upd H1 D2 (.ins C dx2 (dl g aA aC s2 aH2 aT2 ed2 pl2))=H2 at U1 h2 hD2
 refine ⟨_,rfl,D,C,dx,_,_,rfl,hD2,T.cl,T.nS,dl_s,_,rfl,D2,C,dx2,_,rfl,h2,T.cl,T.nS,ca,?_⟩
 rw [put_s]
 have U2:SameBut D2 H2 (upd H2 D2 (.ins C dx2 (dl g aA aC z.s aH2 aT2 ed2 pl2))):=SameBut.upd _
 have h3:upd H2 D2 (.ins C dx2 (dl g aA aC z.s aH2 aT2 ed2 pl2)) D2=some (.ins C dx2 (dl g aA aC z.s aH2 aT2 ed2 pl2)):=upd_same
 have hD3:=U2 _ _ nDD hD2
 generalize upd H2 D2 (.ins C dx2 (dl g aA aC z.s aH2 aT2 ed2 pl2))=H3 at U2 h3 hD3
 refine ⟨_,rfl,D,C,dx,_,_,rfl,hD3,T.cl,T.nH,dl_h,_,rfl,D2,C,dx2,_,rfl,h3,T.cl,T.nH,ca,?_⟩
 rw [put_h]
 have U3:SameBut D2 H3 (upd H3 D2 (.ins C dx2 (dl g aA aC z.s aH aT2 ed2 pl2))):=SameBut.upd _
 have h4:upd H3 D2 (.ins C dx2 (dl g aA aC z.s aH aT2 ed2 pl2)) D2=some (.ins C dx2 (dl g aA aC z.s aH aT2 ed2 pl2)):=upd_same
 have hD4:=U3 _ _ nDD hD3
 generalize upd H3 D2 (.ins C dx2 (dl g aA aC z.s aH aT2 ed2 pl2))=H4 at U3 h4 hD4
 refine ⟨_,rfl,D,C,dx,_,_,rfl,hD4,T.cl,T.nT,dl_t,_,rfl,D2,C,dx2,_,rfl,h4,T.cl,T.nT,ca,?_⟩
 rw [put_t]
 have U4:SameBut D2 H4 (upd H4 D2 (.ins C dx2 (dl g aA aC z.s aH aT ed2 pl2))):=SameBut.upd _
 have h5:upd H4 D2 (.ins C dx2 (dl g aA aC z.s aH aT ed2 pl2)) D2=some (.ins C dx2 (dl g aA aC z.s aH aT ed2 pl2)):=upd_same
 have hD5:=U4 _ _ nDD hD4
 generalize upd H4 D2 (.ins C dx2 (dl g aA aC z.s aH aT ed2 pl2))=H5 at U4 h5 hD5
 refine ⟨_,rfl,D,C,dx,_,_,rfl,hD5,T.cl,T.nE,dl_ed,_,rfl,D2,C,dx2,_,rfl,h5,T.cl,T.nE,ca,?_⟩
 rw [put_ed]
 have U5:SameBut D2 H5 (upd H5 D2 (.ins C dx2 (dl g aA aC z.s aH aT z.ed pl2))):=SameBut.upd _
 have h6:upd H5 D2 (.ins C dx2 (dl g aA aC z.s aH aT z.ed pl2)) D2=some (.ins C dx2 (dl g aA aC z.s aH aT z.ed pl2)):=upd_same
 have hD6:=U5 _ _ nDD hD5
 generalize upd H5 D2 (.ins C dx2 (dl g aA aC z.s aH aT z.ed pl2))=H6 at U5 h6 hD6
 refine ⟨_,rfl,D,C,dx,_,_,rfl,hD6,T.cl,T.nP,dl_pl,_,rfl,D2,C,dx2,_,rfl,h6,T.cl,T.nP,ca,?_⟩
 rw [put_pl]
 have U6:SameBut D2 H6 (upd H6 D2 (.ins C dx2 (dl g aA aC z.s aH aT z.ed z.pl))):=SameBut.upd _
 have h7:upd H6 D2 (.ins C dx2 (dl g aA aC z.s aH aT z.ed z.pl)) D2=some (.ins C dx2 (dl g aA aC z.s aH aT z.ed z.pl)):=upd_same
 have hD7:=U6 _ _ nDD hD6
 generalize upd H6 D2 (.ins C dx2 (dl g aA aC z.s aH aT z.ed z.pl))=H7 at U6 h7 hD7
 have U:SameBut D2 H0 H7:=U0.trans (U1.trans (U2.trans (U3.trans (U4.trans (U5.trans U6)))))
 have S07:Same H H7:=fun b o e=>U b o (ai e nD) (S00 b o e)
 exact ⟨_,rfl,q D2 H7 nD S07 ⟨dx2,aA,aC,aH,aT,h7,S07 _ _ R.hA,S07 _ _ R.hC,S07 _ _ R.hH,S07 _ _ R.hT⟩⟩
end
section
variable {CM CA CG:Addr}
abbrev s_mtwin:Stmt:=bV s_machine 4
theorem ml_n4 {g h b:Addr} {r:Int}:(ml g h r b).lookup ("twin" : Str)=none:=by with_unfolding_all rfl
theorem ml_putb {g h b b':Addr} {r:Int}:putF "boxes" (.ref b') (ml g h r b)=ml g h r b':=by with_unfolding_all rfl
def spMTwin (CM:Addr):Sp:=fun vs H Q _=>∃ (M g h b dm:Addr) (r:Int) (bx:Str->Int) (m:Nat),vs=[.ref M]/\H M=some (.ins CM dm (ml g h r b))/\BxAt H b bx m /\
 ∀ (M' dm' b':Addr) (H':Hp),H M'=none->H b'=none->H' M'=some (.ins CM dm' (ml g h r b'))->BxAt H' b' bx m->Same H H'->Q (.ref M') H'
theorem sc_mtwin:FnScope ["self", "other"] ["self"] (af s_mtwin):=⟨rfl,rfl,rfl,by decide +kernel,rfl,by decide +kernel,by decide +kernel⟩
theorem ok_mtwin {f fI:Addr} {fd fdI:FuncData} (F:Fun K "twin" "Machine.twin" s_mtwin f fd) (B:Bl mg) (T:MTxt K mg CM) (MM:Mk K CM fI) (GI:FnOk P w K mg base CX0 1 fI fdI ["self", "game", "helper"] (spMInit CM)) (bI:Binds K fdI ["self", "game", "helper"] []):FnOk P w K mg base CX0 3 f fd ["self"] (spMTwin CM):=by
 refine F.ok sc_mtwin (fun vs H Q E h=>?_) (fun cdv A outer s H vs Q E hr h=>?_)
 . obtain ⟨M,g,h,b,dm,r,bx,m,rfl,_⟩:=h
   rfl
 obtain ⟨M,g,h,b,dm,r,bx,m,rfl,hM,BX,q⟩:=h
 have hr2:Room (1+1) _:=hr.mono (by decide)
 refine ⟨_,(ad (aq (i:=1) sc_mtwin.nd rfl (Or.inl rfl) (pe_make MM GI hr2 rfl T.mgC bI .nil bF (aa (aG (pv 0) rfl) (aa (aG (pv 0) rfl) ae))))
  (ad (aQ (pv 1) (aG (pv 0) rfl) rfl)
  (ad (aQ (pv 1) (bN call_dictD rfl B.dict boot_dictD (aa (aG (pv 0) rfl) ae)) rfl)
  (aj (aF (pv 1)))))),?_⟩
 refine ⟨_,rfl,M,CM,dm,_,_,rfl,hM,T.cl,T.nG,ml_g,_,rfl,M,CM,dm,_,_,rfl,hM,T.cl,T.nH,ml_h,fun N dn hN hdn nN=>?_⟩
 have S1:Same H (upd (upd H dn (.own N)) N (.ins CM dn [])):=fun a o e=>by
  rw [ax (ai e hN),ax (ai e hdn)]
  exact e
 have g1:upd (upd H dn (.own N)) N (.ins CM dn []) N=some (.ins CM dn []):=upd_same
 generalize upd (upd H dn (.own N)) N (.ins CM dn [])=H1 at S1 g1
 refine ⟨N,g,h,dn,rfl,g1,fun b1 H2 hb1 hN2 _ S2=>⟨rfl,?_⟩⟩
 have S02:Same H H2:=Same.but S1 hN S2
 have hM2:=S02 _ _ hM
 have nMN:M ≠ N:=ai hM hN
 refine ⟨_,rfl,M,CM,dm,_,_,rfl,hM2,T.cl,T.nR,ml_r,_,rfl,N,CM,dn,_,rfl,hN2,T.cl,T.nR,ml_len,?_⟩
 rw [ml_put]
 have S3:SameBut N H2 (upd H2 N (.ins CM dn (ml g h r b1))):=SameBut.upd _
 have hN3:upd H2 N (.ins CM dn (ml g h r b1)) N=some (.ins CM dn (ml g h r b1)):=upd_same
 generalize upd H2 N (.ins CM dn (ml g h r b1))=H3 at S3 hN3
 have S03:Same H H3:=Same.but S02 hN S3
 obtain ⟨kvs,eb,lb,hx⟩:=BX
 refine ⟨_,rfl,M,CM,dm,_,_,rfl,S03 _ _ hM,T.cl,T.nB,ml_b,b,kvs,rfl,S03 _ _ eb,fun c hc=>?_⟩
 have cN:c ≠ N:=(ai hN3 hc).symm
 have c0:H c=none:=S03.free hc
 refine ⟨_,rfl,N,CM,dn,_,rfl,by rw [ax cN.symm]; exact hN3,T.cl,T.nB,ml_len,?_⟩
 rw [ml_putb]
 refine ⟨_,rfl,q N dn c _ hN c0 upd_same ⟨kvs,by rw [ax cN]; exact upd_same,lb,hx⟩ fun a o e=>?_⟩
 rw [ax (ai e hN),ax (ai e c0)]
 exact S03 _ _ e
end
def spPow:Sp:=fun vs H Q _=>∃ (x k:Int),vs=[.int x,.int k]/\0<=k/\k<=100/\0 < x/\x < 2 ^ 40/\Q (.int (x ^ k.toNat)) H
theorem sc_power:FnScope ["number", "times", "told", "step"] ["number", "times"] (af s_power):=⟨rfl,rfl,rfl,by decide +kernel,rfl,by decide +kernel,by decide +kernel⟩
theorem ok_power {f:Addr} {fd:FuncData} (F:Fun K "power" "power" s_power f fd) (B:Bl mg):FnOk P w K mg base CX0 1 f fd ["number", "times"] spPow:=by
 refine F.ok sc_power (fun vs H Q E h=>?_) (fun cdv A outer s H vs Q E hr h=>?_)
 . obtain ⟨x,k,rfl,_⟩:=h
   rfl
 obtain ⟨x,k,rfl,k0,k1,x0,x1,q⟩:=h
 refine ⟨_,(ad (aq (i:=2) sc_power.nd rfl (Or.inl rfl) ag)
  (ad (cG PassesOwn.never rfl (bL rfl B.range (aa (pv 1) ae)) (bw (i:=3) sc_power.nd rfl (Or.inl rfl)) (aj (aq (i:=2) sc_power.nd rfl (Or.inl rfl) (ao bO (pv 2) (pv 0)))))
  (aj (aF (pv 2))))),?_⟩
 refine ⟨_,rfl,k,rfl,by omega,by omega,di (n:=k.toNat) (fun i σ H'=>∃ x3:Option V,σ=[some (.int x),some (.int k),some (.int (x ^ i)),x3]/\H'=H) ⟨none,by rw [Int.pow_zero]; rfl,rfl⟩ ?_ ?_⟩
 . rintro i σ H1 hi ⟨x3,rfl,rfl⟩
   refine ⟨_,rfl,_,rfl,_,_,rfl,rfl,.inr ⟨by omega,by omega⟩,?_⟩
   refine ⟨some (.int (0+(i:Int))),?_,rfl⟩
   rw [Int.pow_succ]
   rfl
 . rintro σ H1 ⟨x3,rfl,rfl⟩
   exact ⟨_,rfl,q⟩
theorem sc_l_power:FnScope ["_law_p", "_law_many", "_law_found", "_law_k"] ["_law_p", "_law_many"] (af s_l_power):=⟨rfl,rfl,rfl,by decide +kernel,rfl,by decide +kernel,by decide +kernel⟩
theorem ok_l_power {f:Addr} {fd:FuncData} (F:Fun K "_law_power" "_law_power" s_l_power f fd) (B:Bl mg):FnOk P w K mg base CX0 1 f fd ["_law_p", "_law_many"] spPow:=by
 refine F.ok sc_l_power (fun vs H Q E h=>?_) (fun cdv A outer s H vs Q E hr h=>?_)
 . obtain ⟨x,k,rfl,_⟩:=h
   rfl
 obtain ⟨x,k,rfl,k0,k1,x0,x1,q⟩:=h
 refine ⟨_,(ad (aq (i:=2) sc_l_power.nd rfl (Or.inl rfl) ag)
  (ad (cG PassesOwn.never rfl (bL rfl B.range (aa (pv 1) ae)) (bw (i:=3) sc_l_power.nd rfl (Or.inl rfl)) (aj (aq (i:=2) sc_l_power.nd rfl (Or.inl rfl) (ao bO (pv 2) (pv 0)))))
  (aj (aF (pv 2))))),?_⟩
 refine ⟨_,rfl,k,rfl,by omega,by omega,di (n:=k.toNat) (fun i σ H'=>∃ x3:Option V,σ=[some (.int x),some (.int k),some (.int (x ^ i)),x3]/\H'=H) ⟨none,by rw [Int.pow_zero]; rfl,rfl⟩ ?_ ?_⟩
 . rintro i σ H1 hi ⟨x3,rfl,rfl⟩
   refine ⟨_,rfl,_,rfl,_,_,rfl,rfl,.inr ⟨by omega,by omega⟩,?_⟩
   refine ⟨some (.int (0+(i:Int))),?_,rfl⟩
   rw [Int.pow_succ]
   rfl
 . rintro σ H1 ⟨x3,rfl,rfl⟩
   exact ⟨_,rfl,q⟩
section
variable {C CM CA CG:Addr}
theorem dl_n11 {g aA aC aH aT:Addr} {s ed pl:Int}:(dl g aA aC s aH aT ed pl).lookup ("twin" : Str)=none:=by with_unfolding_all rfl
def OptAt (H:Hp) (v:V):Option (List Int)->Prop
 | none=>v=.non
 | some cs=>∃ b,v=.ref b/\H b=some (.tup (cs.map V.int))
theorem OptAt.mono {H H':Hp} {v:V} {x:Option (List Int)} (h:OptAt H v x) (k:cX H H'):OptAt H' v x:=by
 cases x with
 | none=>exact h
 | some cs=>obtain ⟨b,e,hb⟩:=h; exact ⟨b,e,k _ _ hb⟩
def WtAt (H:Hp) (a:Addr) (x:Int × Option (List Int)):Prop:=∃ v,H a=some (.tup [.int x.1,v])/\OptAt H v x.2
def coinN (ns:List Str) (ts:List Tr):Nat:=if ts.length=1 then ns.length else ns.length+1
theorem coinN_le {ns:List Str} {ts:List Tr} (h:ns.length<=6):coinN ns ts<=7:=by unfold coinN; split <;> omega
def spFirst (CG:Addr):Sp:=fun vs H Q _=>∃ (g c:Addr) (ns:List Str) (ts:List Tr) (p:Int) (cs:List Int),vs=[.ref g,.ref c]/\Gm CG H g ns ts p/\ns.length<=6/\H c=some (.tup (cs.map V.int))/\cs.length<=coinN ns ts/\∀ (a:Addr) (H':Hp),Same H H'->H' a=some (.tup ((cs++List.replicate (coinN ns ts - cs.length) 0).map V.int))->Q (.ref a) H'
theorem sc_first_row:FnScope ["game", "coins"] ["game", "coins"] (af dH):=⟨rfl,rfl,rfl,by decide +kernel,rfl,by decide +kernel,by decide +kernel⟩
theorem ok_first_row {f fC:Addr} {fd fdC:FuncData} (F:Fun K "first_row" "first_row" dH f fd) (B:Bl mg) (TG:GTxt K mg CG) (mC:Meth K CG "coins" fC) (GC:FnOk P w K mg base CX0 1 fC fdC ["self"] (spCoins CG)) (bC:Binds K fdC ["self"] []):FnOk P w K mg base CX0 2 f fd ["game", "coins"] (spFirst CG):=by
 refine F.ok sc_first_row (fun vs H Q E h=>?_) (fun cdv A outer s H vs Q E hr h=>?_)
 . obtain ⟨g,c,ns,ts,p,cs,rfl,_⟩:=h
   rfl
 obtain ⟨g,c,ns,ts,p,cs,rfl,G,n6,hc,cl,q⟩:=h
 have hr1:Room 1 _:=hr.mono (by decide)
 refine ⟨_,(aj (aF (ao (op_catK K) (pv 1) (ao (op_repTK K) (aV (aa ag ae)) (ao bq (bQ (pv 0) TG.cl mC GC hr1 bC .nil bF) (aJ aD rfl B.len PySem.boot_len (aa (pv 1) ae))))))),?_⟩
 refine ⟨_,rfl,(by show 1<=sizeLine; decide),fun z hz=>?_⟩
 have I:=Same.new hz (.tup [.int 0])
 have gz:upd H z (.tup [.int 0]) z=some (.tup [.int 0]):=upd_same
 generalize upd H z (.tup [.int 0])=H1 at I gz
 obtain ⟨a,b,d,tv,⟨dx,hg⟩,ha,hb,TS,hd⟩:=G.same I
 have vl:=TS.length
 have noc:(gf a b p d).lookup ("coins" : Str)=none:=gf_no _ _ _ _ (by decide +kernel) (by decide +kernel) (by decide +kernel) (by decide +kernel)
 refine ⟨_,rfl,g,dx,_,rfl,hg,noc,g,a,b,d,ns,tv,p,rfl,⟨dx,hg⟩,ha,hb,?_⟩
 have hc1:=I _ _ hc
 refine ⟨_,rfl,c,_,rfl,.inr (SqT.of hc1),_,_,rfl,rfl,?_⟩
 have ek:(if tv.length=1 then (ns.length:Int) else (ns.length:Int)+1) - ((cs.map V.int).length:Int)=((coinN ns ts - cs.length:Nat):Int):=by
  rw [List.length_map,vl]
  unfold coinN at cl ⊢
  split <;> rename_i h <;> (first | rw [if_pos h] at cl | rw [if_neg h] at cl) <;> omega
 show rRepT K (.ref z) (.int ((if tv.length=1 then (ns.length:Int) else (ns.length:Int)+1) - ((cs.map V.int).length:Int))) H1 _
 rw [ek]
 have c7:=coinN_le (ts:=ts) n6
 have fin:∀ (y:Addr) (H2:Hp),Same H1 H2->H2 y=some (.tup ((List.replicate (coinN ns ts - cs.length) (0:Int)).map V.int))->rCatT K (.ref c) (.ref y) H2 Q∨rCatT0 K (.ref c) (.ref y) H2 Q:=fun y H2 S2 hy =>
  cat_any (S2 _ _ hc1) hy (by rw [List.length_replicate]; omega) fun t H3 S3 h3=>q t H3 (I.trans (S2.trans S3)) h3
 refine ⟨z,.int 0,((coinN ns ts - cs.length:Nat):Int),rfl,rfl,SqT.of gz,by omega,by omega,fun e=>fin z H1 (Same.refl _) ?_,fun _ y hy=>fin y _ (Same.new hy _) ?_⟩
 . have e1:coinN ns ts - cs.length=1:=by omega
   rw [e1]
   exact gz
 . rw [upd_same,List.map_replicate,Int.toNat_natCast]
def spRowsC (CG:Addr):Sp:=fun vs H Q _=>∃ (g:Addr) (ns:List Str) (ts:List Tr) (p:Int),vs=[.ref g]/\Gm CG H g ns ts p/\ns.length<=6/\0 < p/\p < 2 ^ 40/\Q (.int (p ^ coinN ns ts)) H
theorem sc_rows_of_coins:FnScope ["game"] ["game"] (af cj):=⟨rfl,rfl,rfl,by decide +kernel,rfl,by decide +kernel,by decide +kernel⟩
theorem ok_rows_of_coins {f fC:Addr} {fd fdC:FuncData} (F:Fun K "rows_of_coins" "rows_of_coins" cj f fd) (T:GTxt K mg CG) (mC:Meth K CG "coins" fC) (GC:FnOk P w K mg base CX0 1 fC fdC ["self"] (spCoins CG)) (bC:Binds K fdC ["self"] []) (C_power:Cal P w K mg base 1 "power" ["number", "times"] spPow):FnOk P w K mg base CX0 2 f fd ["game"] (spRowsC CG):=by
 refine F.ok sc_rows_of_coins (fun vs H Q E h=>?_) (fun cdv A outer s H vs Q E hr h=>?_)
 . obtain ⟨g,ns,ts,p,rfl,_⟩:=h
   rfl
 obtain ⟨g,ns,ts,p,rfl,⟨a,b,d,tv,⟨dx,hg⟩,ha,hb,TS,hd⟩,nl,p0,p40,q⟩:=h
 have hr1:Room 1 _:=hr.mono (by decide)
 refine ⟨_,(aj (aF (aE C_power hr (by decide) rfl (aa (aG (pv 0) rfl) (aa (bQ (pv 0) T.cl mC GC hr1 bC .nil bF) ae))))),?_⟩
 have noc:(gf a b p d).lookup ("coins" : Str)=none:=gf_no _ _ _ _ (by decide +kernel) (by decide +kernel) (by decide +kernel) (by decide +kernel)
 have vl:=TS.length
 refine ⟨_,rfl,g,CG,dx,_,_,rfl,hg,T.cl,T.nF,gf_fi ..,_,rfl,g,dx,_,rfl,hg,noc,g,a,b,d,ns,tv,p,rfl,⟨dx,hg⟩,ha,hb,p,_,rfl,?_,?_,p0,p40,?_⟩
 . split <;> omega
 . split <;> omega
 . have e:(if tv.length=1 then (ns.length:Int) else (ns.length:Int)+1).toNat=coinN ns ts:=by
    rw [vl]
    unfold coinN
    split <;> omega
   rw [e]
   exact q
structure Twins (P:Program) (w:World) (K:W.Frag) (mg:Str->Option Value) (base:Heap) (C CM CG fD fM:Addr) (fdD fdM:FuncData):Prop where
 mD:Meth K C "twin" fD
 GD:FnOk P w K mg base CX0 3 fD fdD ["self"] (spTwin C CG)
 bD:Binds K fdD ["self"] []
 mM:Meth K CM "twin" fM
 GM:FnOk P w K mg base CX0 3 fM fdM ["self"] (spMTwin CM)
 bM:Binds K fdM ["self"] []
def spWB (C CM CG:Addr) (d:Nat):Sp:=fun vs H Q _=>∃ (D M g h b c:Addr) (rows:List Hr) (ns:List Str) (ts:List Tr) (p:Int) (t:Tk) (m:Nat) (cs:List Int),vs=[.ref M,.ref D,.ref c]/\TalkAt C CM CG H D M g h b rows ns ts p t m/\GmK ns ts p/\ns.length<=6/\rows=[]/\Beg ns ts p t/\bn ns (settle ns ts p rows 2 t).z < d /\
 H c=some (.tup (cs.map V.int))/\cs.length+bn ns (settle ns ts p rows 2 t).z<=coinN ns ts/\m+400*d<=5000 /\
 ∀ (a:Addr) (H':Hp),WtAt H' a (weighG ns ts p rows (coinN ns ts) d t cs)->But3 D M b H H'->Q (.ref a) H'
theorem sc_weighed_behind:FnScope ["machine", "doubter", "coins", "number", "row", "coin", "behind", "told"] ["machine", "doubter", "coins"] (af bK):=⟨rfl,rfl,rfl,by decide +kernel,rfl,by decide +kernel,by decide +kernel⟩
theorem wb_zero {f:Addr} {fd:FuncData}:FnOk P w K mg base CX0 27 f fd ["machine", "doubter", "coins"] (spWB C CM CG 0):=by
 have no:∀ vs H Q E,¬ spWB C CM CG 0 vs H Q E:=fun vs H Q E h=>by
  obtain ⟨D,M,g,h,b,c,rows,ns,ts,p,t,m,cs,_,_,_,_,_,_,h1,_⟩:=h
  exact absurd h1 (Nat.not_lt_zero _)
 exact ⟨fun vs H Q E h=>absurd h (no vs H Q E),fun A outer s H args us vs Q E _ _ _ _ h=>absurd h (no vs H Q E)⟩
theorem TalkAt.twins {H H':Hp} {D M g h b D2 M2 b2 dm2:Addr} {rows:List Hr} {ns:List Str} {ts:List Tr} {p:Int} {t:Tk} {m:Nat} {z:Db} (w:TalkAt C CM CG H D M g h b rows ns ts p t m) (s:Same H H') (DA:DbAt C H' D2 g z) (hM:H' M2=some (.ins CM dm2 (ml g h t.nr b2))) (B:BxAt H' b2 t.bx m) (ne:D2 ≠ M2):TalkAt C CM CG H' D2 M2 g h b2 rows ns ts p ⟨z,t.bx,t.nr⟩ m:=by
 obtain ⟨_,G,_,⟨rv,hh,R⟩,_,_⟩:=w.same s
 exact ⟨DA,G,⟨dm2,hM⟩,⟨rv,hh,R⟩,B,ne⟩
theorem wb_step {n:Nat} {f fW fU fH fT fS fDt fMt:Addr} {fd fdW fdU fdH fdT fdS fdDt fdMt:FuncData} (F:Fun K "weighed_behind" "weighed_behind" bK f fd) (B:Bl mg) (T:DTxt K mg C) (TM:MTxt K mg CM) (TG:GTxt K mg CG) (Y:Ways P w K mg base C CM CG fW fU fH fT fS fdW fdU fdH fdT fdS) (Z:Twins P w K mg base C CM CG fDt fMt fdDt fdMt)
 (C_asked_once:Cal P w K mg base 26 "asked_once" ["machine", "doubter"] (spAsked C CM CG)) (C_first_row:Cal P w K mg base 2 "first_row" ["game", "coins"] (spFirst CG)) (C_weighed_behind:Cal P w K mg base (n+27) "weighed_behind" ["machine", "doubter", "coins"] (spWB C CM CG n)):FnOk P w K mg base CX0 (n+28) f fd ["machine", "doubter", "coins"] (spWB C CM CG (n+1)):=by
 refine F.ok sc_weighed_behind (fun vs H Q E h=>?_) (fun cdv A outer s H vs Q E hr h=>?_)
 . obtain ⟨D,M,g,h,b,c,rows,ns,ts,p,t,m,cs,rfl,_⟩:=h
   rfl
 obtain ⟨D,M,g,h,b,c,rows,ns,ts,p,t,m,cs,rfl,W,k,n6,rg,bg,cd,hc,cl,mm,q⟩:=h
 have hr1:Room 1 _:=hr.mono (by omega)
 have hr3:Room 3 _:=hr.mono (by omega)
 have hr17:Room 17 _:=hr.mono (by omega)
 refine ⟨_,(ad (ps_while PassesOwn.never (aB cu (aR ix_tup (bQ (pv 1) T.cl Y.mW Y.GW hr1 Y.bW .nil bF) ag (fun _ _=>rfl)) aO (aI _)) (aj (bP (aE C_asked_once hr (by omega) rfl (aa (pv 0) (aa (pv 1) ae))))))
  (ad (aU (aB cu (aR ix_tup (bQ (pv 1) T.cl Y.mW Y.GW hr1 Y.bW .nil bF) ag (fun _ _=>rfl)) aO (aI _)) (aj (aF (aV (aa ag (aa pe_non ae))))) aN)
  (ad (aU (aB cu (aR ix_tup (bQ (pv 1) T.cl Y.mW Y.GW hr1 Y.bW .nil bF) ag (fun _ _=>rfl)) aO (aI _)) (aj (aF (aV (aa ag (aa (aE C_first_row hr (by omega) rfl (aa (aG (pv 1) rfl) (aa (pv 2) ae))) ae))))) aN)
  (ad (aq (i:=3) sc_weighed_behind.nd rfl (Or.inl rfl) ag)
  (ad (aq (i:=4) sc_weighed_behind.nd rfl (Or.inl rfl) pe_non)
  (ad (cG PassesOwn.never rfl (bL rfl B.range (aa (aG (aG (pv 1) rfl) rfl) ae)) (bw (i:=5) sc_weighed_behind.nd rfl (Or.inl rfl)) (ad (aq (i:=6) sc_weighed_behind.nd rfl (Or.inl rfl) (bQ (pv 1) T.cl Z.mD Z.GD hr3 Z.bD .nil bF))
   (ad (bP (du (pv 6) T.cl Y.mT Y.GT hr17 Y.bT .nil bF (aa (pv 5) ae)))
   (ad (aq (i:=7) sc_weighed_behind.nd rfl (Or.inl rfl) (aE C_weighed_behind hr (by omega) rfl (aa (bQ (pv 0) TM.cl Z.mM Z.GM hr3 Z.bM .nil bF) (aa (pv 6) (aa (ao (op_catK K) (pv 2) (aV (aa (pv 5) ae))) ae)))))
   (ad (aq (i:=3) sc_weighed_behind.nd rfl (Or.inl rfl) (ao aX (pv 3) (aR ix_tup (pv 7) ag (fun _ _=>rfl))))
   (aj (aU (aB op_isN (pv 4) pe_non (aI _)) (aj (aq (i:=4) sc_weighed_behind.nd rfl (Or.inl rfl) (aR ix_tup (pv 7) ag (fun _ _=>rfl)))) aN)))))))
  (aj (aF (aV (aa (pv 3) (aa (pv 4) ae))))))))))),?_⟩
 have p2:=k.p2
 have p9:=k.p9
 obtain ⟨uok,uno⟩:=bg.settle (rows:=rows) k n6
 have rec1:settle ns ts p rows 2 t=settle ns ts p rows 2 t:=rfl
 generalize eu:settle ns ts p rows 2 t=u at uok uno cd cl
 clear rec1
 have c7:=coinN_le (ts:=ts) n6
 refine ⟨fun mm σ H'=>∃ (t':Tk) (j m':Nat),σ=[some (.ref M),some (.ref D),some (.ref c),none,none,none,none,none]/\mm=j/\j<=2/\Beg ns ts p t'/\(j<=1->TkOk ns ts p t')/\(j=0->¬ t'.z.aw.1 = "hear")/\settle ns ts p rows j t'=u/\TalkAt C CM CG H' D M g h b rows ns ts p t' m'/\m'+200*j<=m+400/\But3 D M b H H',
  ⟨2,t,2,m,rfl,rfl,Nat.le_refl _,bg,fun z=>absurd z (by decide),fun z=>absurd z (by decide),eu,W,Nat.le_refl _,fun _ _ _ _ _ e=>e⟩,?_⟩
 rintro mm1 σ H1 ⟨t',j,m',rfl,rfl,j2,bg',ok',no',es,W1,m1,S1⟩
 have DA:=W1.DA
 obtain ⟨dx,aA,aC,aH,aT,R⟩:=id DA
 refine ⟨_,rfl,D,dx,_,rfl,R.hD,dl_n1,D,g,t'.z,rfl,DA,fun v hv=>?_⟩
 obtain ⟨av,rfl,hav⟩:=hv
 refine ⟨av,_,0,_,rfl,rfl,SqT.of hav,awV0 _,rfl,_,rfl,?_⟩
 by_cases ch:t'.z.aw.1 = "hear"
 . refine cS (congrArg V.str ch) ⟨_,fun _ _ h=>h,?_⟩
   obtain ⟨i,rfl⟩:∃ i,mm1=i+1:=⟨mm1 - 1,by have:mm1 ≠ 0:=fun z=>no' z ch; omega⟩
   obtain ⟨ak,bo,aw,a0,a5,ho⟩:=bg'.ask (rows:=rows) k n6 ch
   refine ⟨_,rfl,_,rfl,D,M,g,h,b,rows,ns,ts,p,t',m',rfl,W1,k,rg,ak,bo,aw,a0,a5,ho,by omega,fun a6 H6 _ _ W6 S6=>?_⟩
   have ok2:=bg'.asked (rows:=rows) k n6 ch
   refine ⟨i,Nat.lt_succ_self _,t'.ask ns ts p rows,i,m'+200,rfl,rfl,by omega,.inr ok2,fun _=>ok2,fun z=>?_,?_,W6,by omega,fun a o h1 h2 h3 e=>S6 _ _ h1 h2 h3 (S1 _ _ h1 h2 h3 e)⟩
   . subst z
     exact ((ok' (Nat.le_refl _)).ask (rows:=rows) k n6 ch).2.2.2
   . rw [← es]
     exact (if_pos ch).symm
 refine bd (neS ch) ?_
 rw [ci ch] at es
 subst es
 clear bg' ok' no' hav
 refine ⟨_,rfl,D,dx,_,rfl,R.hD,dl_n1,D,g,t'.z,rfl,DA,fun v hv=>?_⟩
 obtain ⟨av,rfl,hav⟩:=hv
 refine ⟨av,_,0,_,rfl,rfl,SqT.of hav,awV0 _,rfl,_,rfl,?_⟩
 by_cases cb:t'.z.aw.1 = "believed"
 . refine cS (congrArg V.str cb) ⟨(by show 2<=sizeLine; decide),fun a ha=>?_⟩
   have I:=Same.new ha (.tup [.int 1,.non])
   refine q a _ ?_ (fun x o h1 h2 h3 e=>I _ _ (S1 _ _ h1 h2 h3 e))
   have e:weighG ns ts p rows (coinN ns ts) (n+1) t cs=(1,none):=by
    show (if (settle ns ts p rows 2 t).z.aw.1 = "believed" then _ else _)=_
    rw [eu,if_pos cb]
   rw [e]
   exact ⟨.non,upd_same,rfl⟩
 refine bd (neS cb) ?_
 clear hav
 refine ⟨_,rfl,D,dx,_,rfl,R.hD,dl_n1,D,g,t'.z,rfl,DA,fun v hv=>?_⟩
 obtain ⟨av,rfl,hav⟩:=hv
 refine ⟨av,_,0,_,rfl,rfl,SqT.of hav,awV0 _,rfl,_,rfl,?_⟩
 have hDM:c ≠ D/\c ≠ M/\c ≠ b:=by
  obtain ⟨dx0,_,_,_,_,R0⟩:=W.DA
  obtain ⟨dm0,hM0⟩:=W.hM
  obtain ⟨kv0,hb0,_⟩:=W.BX
  exact ⟨ne_of hc R0.hD (by intro z; cases z),ne_of hc hM0 (by intro z; cases z),ne_of hc hb0 (by intro z; cases z)⟩
 have hc1:=S1 _ _ hDM.1 hDM.2.1 hDM.2.2 hc
 by_cases cc:t'.z.aw.1 = "caught"
 . refine cS (congrArg V.str cc) ⟨_,rfl,D,C,dx,_,_,rfl,R.hD,T.cl,T.nG,dl_g,_,rfl,g,c,ns,ts,p,cs,rfl,W1.G,n6,hc1,by omega,fun a2 H2 S2 h2=>?_⟩
   refine ⟨(by show 2<=sizeLine; decide),fun a ha=>?_⟩
   have I:=Same.new ha (.tup [.int 0,.ref a2])
   refine q a _ ?_ (fun x o h1 h2 h3 e=>I _ _ (S2 _ _ (S1 _ _ h1 h2 h3 e)))
   have e:weighG ns ts p rows (coinN ns ts) (n+1) t cs=(0,some (cs++List.replicate (coinN ns ts - cs.length) 0)):=by
    show (if (settle ns ts p rows 2 t).z.aw.1 = "believed" then _ else if (settle ns ts p rows 2 t).z.aw.1 = "caught" then _ else _)=_
    rw [eu,if_neg cb,if_pos cc]
   rw [e]
   exact ⟨.ref a2,upd_same,a2,rfl,I _ _ h2⟩
 refine bd (neS cc) ?_
 have co:=aw_three uok uno cb cc
 have e:weighG ns ts p rows (coinN ns ts) (n+1) t cs=foldW (fun r=>weighG ns ts p rows (coinN ns ts) n (t'.toss ns ts p r) (cs++[r])) p.toNat:=by
  show (if (settle ns ts p rows 2 t).z.aw.1 = "believed" then _ else if (settle ns ts p rows 2 t).z.aw.1 = "caught" then _ else _)=_
  rw [eu,if_neg cb,if_neg cc]
 rw [e] at q
 clear e hav eu bg W hc
 have cp:=(dE uok (.inr co)).2 co
 generalize ef:(fun r=>weighG ns ts p rows (coinN ns ts) n (t'.toss ns ts p r) (cs++[r]))=fw at q
 obtain ⟨ga,gb,gd,tv,⟨dg,hg⟩,_⟩:=W1.G
 refine ⟨_,rfl,D,C,dx,_,_,rfl,R.hD,T.cl,T.nG,dl_g,g,CG,dg,_,_,rfl,hg,TG.cl,TG.nF,gf_fi ..,p,rfl,by omega,by omega,di (n:=p.toNat) (fun i σ H'=>∃ (v:V) (x5 x6 x7:Option V),σ=[some (.ref M),some (.ref D),some (.ref c),some (.int (foldW fw i).1),some v,x5,x6,x7]/\OptAt H' v (foldW fw i).2/\Same H1 H') ⟨.non,none,none,none,rfl,rfl,Same.refl _⟩ ?_ ?_⟩
 . rintro i σ H2 hi ⟨v,x5,x6,x7,rfl,ov,S2⟩
   rw [Int.zero_add]
   have W2:=W1.same S2
   have DA2:=W2.DA
   obtain ⟨dx2,_,_,_,_,R2⟩:=id DA2
   refine ⟨_,rfl,D,dx2,_,rfl,R2.hD,dl_n11,D,g,t'.z,ns,ts,p,rfl,DA2,W2.G,fun D3 H3 D30 S3 DA3=>?_⟩
   obtain ⟨dx3,_,_,_,_,R3⟩:=id DA3
   have to:=uok.tossOk co (r:=(i:Int)) (by omega) (by omega)
   refine ⟨_,rfl,D3,dx3,_,rfl,R3.hD,dl_n5,_,rfl,D3,g,t'.z,(i:Int),ns,ts,p,rfl,DA3,W2.G.same S3,k,to.aw,to.r0,to.r1,to.tl,to.ro,to.po,fun H4 S4 DA4=>?_⟩
   have S24:Same H2 H4:=Same.but S3 D30 S4
   have W4:=W2.same S24
   obtain ⟨dm4,hM4⟩:=W4.hM
   refine ⟨_,rfl,M,dm4,_,rfl,hM4,ml_n4,M,g,h,b,dm4,t'.nr,t'.bx,m',rfl,hM4,W4.BX,fun M5 dm5 b5 H5 M50 b50 hM5 BX5 S5=>?_⟩
   refine ⟨_,rfl,_,rfl,_,rfl,(by show 1<=sizeLine; decide),fun z hz=>?_⟩
   have I6:=Same.new hz (.tup [.int (i:Int)])
   have g6:upd H5 z (.tup [.int (i:Int)]) z=some (.tup ([(i:Int)].map V.int)):=upd_same
   generalize upd H5 z (.tup [.int (i:Int)])=H6 at I6 g6
   have S26:Same H2 H6:=S24.trans (S5.trans I6)
   refine cat_any (S26 _ _ (S2 _ _ hc1)) g6 (by rw [List.length_singleton]; omega) fun c7 H7 S7 h7=>?_
   have S47:Same H4 H7:=S5.trans (I6.trans S7)
   have S57:Same H5 H7:=I6.trans S7
   obtain ⟨ok3,st3,co3,_⟩:=uok.toss k co to.r0 to.r1
   obtain ⟨_,cs3,_⟩:=settle_ok (rows:=rows) k n6 ok3
   have el:(cs++[(i:Int)]).length=cs.length+1:=by rw [List.length_append]; rfl
   have D3M5:D3 ≠ M5:=by
    obtain ⟨_,_,_,_,_,R4⟩:=DA4
    exact ai R4.hD M50
   have W7:TalkAt C CM CG H7 D3 M5 g h b5 rows ns ts p (t'.toss ns ts p (i:Int)) m':=W4.twins S47 (DA4.same S47) (S57 _ _ hM5) (BX5.keep fun o e=>S57 _ _ e) D3M5
   refine ⟨D3,M5,g,h,b5,c7,rows,ns,ts,p,t'.toss ns ts p (i:Int),m',cs++[(i:Int)],rfl,W7,k,n6,rg,.inr ok3,by omega,h7,by omega,by omega,fun a8 H8 w8 S8=>?_⟩
   have S28:Same H2 H8:=fun a o e=>S8 _ _ (ai e D30) (ai (S24 _ _ e) M50) (ai (S24 _ _ e) b50) (S26.trans S7 _ _ e)
   obtain ⟨v8,ha8,o8⟩:=w8
   have ef8:weighG ns ts p rows (coinN ns ts) n (t'.toss ns ts p (i:Int)) (cs++[(i:Int)])=fw (i:Int):=by rw [← ef]
   rw [ef8] at ha8 o8
   refine ⟨_,rfl,_,rfl,a8,_,0,_,rfl,rfl,SqT.of ha8,at0 _ _,_,_,rfl,rfl,?_⟩
   refine ⟨_,rfl,rfl,_,rfl,?_⟩
   cases eo:(foldW fw i).2 with
   | none =>
     rw [eo] at ov
     have ov:v=.non:=ov
     subst ov
     refine cS rfl ⟨_,rfl,a8,_,1,_,rfl,rfl,SqT.of ha8,cL (j:=1) rfl,?_⟩
     refine ⟨v8,_,_,_,rfl,?_,S2.trans S28⟩
     show OptAt H8 v8 ((foldW fw i).2.or (fw (i:Int)).2)
     rw [eo]
     exact o8
   | some rr =>
     rw [eo] at ov
     have ov':=ov
     obtain ⟨bv,rfl,hbv⟩:=ov'
     refine bd (by intro z; cases z) ?_
     refine ⟨.ref bv,_,_,_,rfl,?_,S2.trans S28⟩
     show OptAt H8 (.ref bv) ((foldW fw i).2.or (fw (i:Int)).2)
     rw [eo]
     exact ⟨bv,rfl,S28 _ _ hbv⟩
 . rintro σ H2 ⟨v,x5,x6,x7,rfl,ov,S2⟩
   refine ⟨_,rfl,_,rfl,(by show 2<=sizeLine; decide),fun a ha=>?_⟩
   have I:=Same.new ha (.tup [.int (foldW fw p.toNat).1,v])
   exact q a _ ⟨v,upd_same,ov.mono (au I)⟩ (fun x o h1 h2 h3 e=>I _ _ (S2 _ _ (S1 _ _ h1 h2 h3 e)))
theorem ok_weighed_behind {f fW fU fH fT fS fDt fMt:Addr} {fd fdW fdU fdH fdT fdS fdDt fdMt:FuncData} (F:Fun K "weighed_behind" "weighed_behind" bK f fd) (m:mg "weighed_behind" = some (.ref f)) (B:Bl mg) (T:DTxt K mg C) (TM:MTxt K mg CM) (TG:GTxt K mg CG) (Y:Ways P w K mg base C CM CG fW fU fH fT fS fdW fdU fdH fdT fdS) (Z:Twins P w K mg base C CM CG fDt fMt fdDt fdMt)
 (C_asked_once:Cal P w K mg base 26 "asked_once" ["machine", "doubter"] (spAsked C CM CG)) (C_first_row:Cal P w K mg base 2 "first_row" ["game", "coins"] (spFirst CG)):∀ n:Nat,FnOk P w K mg base CX0 (n+27) f fd ["machine", "doubter", "coins"] (spWB C CM CG n)
 | 0=>wb_zero
 | n+1=>wb_step F B T TM TG Y Z C_asked_once C_first_row (Cal.of F (ok_weighed_behind F m B T TM TG Y Z C_asked_once C_first_row n) m (fun _ _ _ _ _ _ us hl=>by obtain ⟨u0,u1,u2,rfl⟩:=len3 hl; rfl))
end
section
variable {C CM CA CG:Addr}
def spWeighed (C CM CG:Addr):Sp:=fun vs H Q _=>∃ (g h:Addr) (rv:List V) (rows:List Hr) (ns:List Str) (ts:List Tr) (p:Int),vs=[.ref g,.ref h]/\Gm CG H g ns ts p/\GmK ns ts p/\ns.length<=6/\H h=some (.tup rv)/\RowsAt H rv rows/\rows=[]/\p ^ coinN ns ts<=4000 /\
 ∀ (a:Addr) (H':Hp),Same H H'->WtAt H' a (weighG ns ts p rows (coinN ns ts) 8 (Tk.new ts) [])->Q (.ref a) H'
theorem sc_weighed:FnScope ["game", "helper", "rows"] ["game", "helper"] (af s_weighed):=⟨rfl,rfl,rfl,by decide +kernel,rfl,by decide +kernel,by decide +kernel⟩
theorem ok_weighed {f fI fM:Addr} {fd fdI fdM:FuncData} (F:Fun K "weighed" "weighed" s_weighed f fd) (T:DTxt K mg C) (TM:MTxt K mg CM) (hmost:∃ t,mg "MOST_ROWS" = some (.int 4000 t))
 (MD:Mk K C fI) (GD:FnOk P w K mg base CX0 1 fI fdI ["self", "game"] (spDInit C CG)) (bD:Binds K fdI ["self", "game"] []) (MM:Mk K CM fM) (GM:FnOk P w K mg base CX0 1 fM fdM ["self", "game", "helper"] (spMInit CM)) (bM:Binds K fdM ["self", "game", "helper"] [])
 (C_rows_of_coins:Cal P w K mg base 2 "rows_of_coins" ["game"] (spRowsC CG)) (C_weighed_behind:Cal P w K mg base 35 "weighed_behind" ["machine", "doubter", "coins"] (spWB C CM CG 8)):FnOk P w K mg base CX0 36 f fd ["game", "helper"] (spWeighed C CM CG):=by
 refine F.ok sc_weighed (fun vs H Q E h=>?_) (fun cdv A outer s H vs Q E hr h=>?_)
 . obtain ⟨g,h,rv,rows,ns,ts,p,rfl,_⟩:=h
   rfl
 obtain ⟨g,h,rv,rows,ns,ts,p,rfl,G,k,n6,hh,RW,rg,p4,q⟩:=h
 obtain ⟨te,ge⟩:=hmost
 have hr2:Room (1+1) _:=hr.mono (by decide)
 refine ⟨_,(ad (aq (i:=2) sc_weighed.nd rfl (Or.inl rfl) (aE C_rows_of_coins hr (by decide) rfl (aa (pv 0) ae)))
  (ad (aU (aB op_gt (pv 2) (pe_glob (v:=.int 4000) rfl ge ⟨_,rfl⟩) (aI _)) cR aN)
  (aj (aF (aE C_weighed_behind hr (by decide) rfl (aa (pe_make MM GM hr2 rfl TM.mgC bM .nil bF (aa (pv 0) (aa (pv 1) ae))) (aa (pe_make MD GD hr2 rfl T.mgC bD .nil bF (aa (pv 0) ae)) (aa (aV ae) ae)))))))),?_⟩
 have p2:=k.p2
 have p9:=k.p9
 refine ⟨_,rfl,g,ns,ts,p,rfl,G,n6,by omega,by omega,?_⟩
 refine ⟨_,rfl,_,_,rfl,rfl,_,rfl,bd (by omega) ?_⟩
 refine ⟨_,rfl,_,rfl,fun M dm hM0 hdm0 nM=>?_⟩
 have K1:Same H (upd (upd H dm (.own M)) M (.ins CM dm [])):=fun a o e=>by
  rw [ax (ai e hM0),ax (ai e hdm0)]
  exact e
 refine ⟨M,g,h,dm,rfl,upd_same,fun b H2 b0 hM2 hb2 S2=>⟨rfl,?_⟩⟩
 have T2:Same H H2:=Same.but K1 hM0 S2
 have b00:H b=none:=K1.free b0
 clear K1 S2 b0
 refine ⟨_,rfl,fun D dd hD0 hdd0 nD=>?_⟩
 have K3:Same H2 (upd (upd H2 dd (.own D)) D (.ins C dd [])):=fun a o e=>by
  rw [ax (ai e hD0),ax (ai e hdd0)]
  exact e
 have G2:=G.same T2
 have gD:g ≠ D:=by
  obtain ⟨_,_,_,_,⟨dg,hg⟩,_⟩:=G2
  exact ai hg hD0
 refine ⟨D,g,dd,ns,ts,p,rfl,upd_same,G2.same K3,gD,fun H4 S4 DA4=>⟨rfl,?_⟩⟩
 have T24:Same H2 H4:=Same.but K3 hD0 S4
 have T4:Same H H4:=T2.trans T24
 have D00:H D=none:=T2.free hD0
 have nDM:D ≠ M:=(ai hM2 hD0).symm
 have W4:TalkAt C CM CG H4 D M g h b rows ns ts p (Tk.new ts) 0:=⟨DA4,G.same T4,⟨dm,T24 _ _ hM2⟩,⟨rv,T4 _ _ hh,RW.mono (au T4)⟩,⟨[],T24 _ _ hb2,Nat.le_refl _,fun _=>rfl⟩,nDM⟩
 refine ⟨(by show 0<=sizeLine; decide),fun c hc=>?_⟩
 have I:=Same.new hc (.tup [])
 have gc:upd H4 c (.tup []) c=some (.tup (([]:List Int).map V.int)):=upd_same
 generalize upd H4 c (.tup [])=H5 at I gc
 obtain ⟨_,c1,_⟩:=settle_new (rows:=rows) k n6
 have c2:ns.length+(if 1 < ts.length then 1 else 0)<=coinN ns ts:=by
  unfold coinN
  split <;> split <;> omega
 have c7:=coinN_le (ts:=ts) n6
 refine ⟨D,M,g,h,b,c,rows,ns,ts,p,Tk.new ts,0,[],rfl,W4.same I,k,n6,rg,.inl rfl,by omega,gc,(by show 0+_<=_; omega),by decide,fun a H6 w6 S6=>q a H6 (fun x o e=>?_) w6⟩
 exact S6 _ _ (ai e D00) (ai e hM0) (ai e b00) (I _ _ (T4 _ _ e))
end
def cI (p:Nat):Nat->List (List Int)
 | 0=>[[]]
 | k+1=>(List.range p).flatMap fun r:Nat=>(cI p k).map ((r:Int)::·)
theorem allF_mem {p:Nat}:∀ (k:Nat) (c:List Int),c ∈ cI p k->c.length=k/\cw c (p:Int)
 | 0,c,h=>by
   have e:c=[]:=by simpa [cI] using h
   subst e
   exact ⟨rfl,fun x hx=>by cases hx⟩
 | k+1,c,h=>by
   unfold cI at h
   obtain ⟨r,hr,h⟩:=List.mem_flatMap.mp h
   obtain ⟨c',hc',rfl⟩:=List.mem_map.mp h
   have hr:=List.mem_range.mp hr
   obtain ⟨l,o⟩:=allF_mem k c' hc'
   refine ⟨by rw [List.length_cons,l],fun x hx=>?_⟩
   rcases List.mem_cons.mp hx with e | e
   . subst e; omega
   . exact o x e
theorem allF_zero {p:Nat} (hp:0 < p):∀ k,(cI p k).head?=some (List.replicate k 0)
 | 0=>rfl
 | k+1=>by
   obtain ⟨q,rfl⟩:∃ q,p=q+1:=⟨p - 1,by omega⟩
   unfold cI
   rw [List.range_succ_eq_map,List.flatMap_cons,List.head?_append,List.head?_map,allF_zero hp k]
   rfl
theorem allF_len {p:Nat}:∀ k,(cI p k).length=p ^ k
 | 0=>rfl
 | k+1=>by
   unfold cI
   rw [List.length_flatMap]
   have:((List.range p).map fun a:Nat=>((cI p k).map ((a:Int)::·)).length)=List.replicate p (p ^ k):=by
    rw [List.eq_replicate_iff]
    refine ⟨by simp,fun b hb=>?_⟩
    obtain ⟨a,_,rfl⟩:=List.mem_map.mp hb
    rw [List.length_map,allF_len k]
   rw [this,List.sum_replicate_nat,Nat.pow_succ,Nat.mul_comm]
def resW (L:List (List Int)) (b:List Int->Bool) (cs:List Int):Int × Option (List Int):=(((L.filter b).length:Int),((L.filter fun c=>!b c).head?).map (cs++·))
theorem resW_congr {L:List (List Int)} {b b':List Int->Bool} {cs:List Int} (h:∀ c ∈ L,b c=b' c):resW L b cs=resW L b' cs:=by
 unfold resW
 have e1:L.filter b=L.filter b':=List.filter_congr h
 have e2:(L.filter fun c=>!b c)=L.filter fun c=>!b' c:=List.filter_congr fun c hc=>by rw [h c hc]
 rw [e1,e2]
theorem resW_app {L M:List (List Int)} {b:List Int->Bool} {cs:List Int}:resW (L++M) b cs=((resW L b cs).1+(resW M b cs).1,(resW L b cs).2.or (resW M b cs).2):=by
 unfold resW
 rw [List.filter_append,List.filter_append,List.length_append,List.head?_append,Int.natCast_add]
 congr 1
 cases (List.filter (fun c=>!b c) L).head? <;> rfl
theorem resW_map {L:List (List Int)} {b:List Int->Bool} {cs:List Int} {r:Int}:resW (L.map (r::·)) b cs=resW L (fun c=>b (r::c)) (cs++[r]):=by
 unfold resW
 rw [List.filter_map,List.filter_map,List.length_map,List.head?_map]
 congr 1
 show Option.map _ (Option.map _ _)=_
 rw [Option.map_map]
 congr 1
 funext c
 show cs++(r::c)=(cs++[r])++c
 rw [List.append_assoc]
 rfl
theorem foldW_res {p j:Nat} {f:Int->Int × Option (List Int)} {b:List Int->Bool} {cs:List Int} (h:∀ r:Nat,r < p->f (r:Int)=resW (cI p j) (fun c=>b ((r:Int)::c)) (cs++[(r:Int)])):∀ k,k<=p->foldW f k=resW ((List.range k).flatMap fun r:Nat=>(cI p j).map ((r:Int)::·)) b cs
 | 0,_=>rfl
 | k+1,hk=>by
   show ((foldW f k).1+(f (k:Int)).1,(foldW f k).2.or (f (k:Int)).2)=_
   rw [foldW_res h k (by omega),h k (by omega),List.range_succ,List.flatMap_append,resW_app,List.flatMap_singleton,resW_map]
section
variable {ns:List Str} {ts:List Tr} {p:Int} {t:Tk} {rows:List Hr}
theorem steps_le (z:Db):bi ns z<=2*ns.length+1:=by
 unfold bi
 split
 . omega
 . split
   . split <;> omega
   . omega
theorem headD_rng {cs:List Int} (h:cw cs p) (p0:0 < p):0<=cs.headD 0/\cs.headD 0 < p:=by
 cases cs with
 | nil=>exact ⟨Int.le_refl 0,p0⟩
 | cons a r=>exact h a (List.mem_cons_self ..)
theorem tail_ok {cs:List Int} (h:cw cs p):cw cs.tail p:=fun x hx=>h x (List.mem_of_mem_tail hx)
theorem talkG_more (k:GmK ns ts p) (n6:ns.length<=6):∀ (n:Nat) (t:Tk) (cs:List Int),TkOk ns ts p t->cw cs p->bi ns t.z<=n->(cz ns ts p rows cs (n+1) t).2=(cz ns ts p rows cs n t).2
 | 0,t,cs,h,hc,hs=>by
   have h1:¬ t.z.aw.1 = "hear" := fun z=>by have:=(dE h (.inl z)).1; omega
   have h2:¬ t.z.aw.1 = "coin" := fun z=>by have:=(dE h (.inr z)).1; omega
   rw [dC h1 h2,dC h1 h2]
 | n+1,t,cs,h,hc,hs=>by
   have p2:=k.p2
   by_cases ch:t.z.aw.1 = "hear"
   . rw [talkG_hear ch,talkG_hear ch]
     obtain ⟨o,s,_⟩:=h.ask (rows:=rows) k n6 ch
     exact talkG_more k n6 n _ cs o hc (by omega)
   . by_cases cc:t.z.aw.1 = "coin"
     . rw [talkG_coin cc,talkG_coin cc]
       obtain ⟨r0,r1⟩:=headD_rng hc (by omega)
       obtain ⟨o,s,_⟩:=h.toss k cc r0 r1
       exact talkG_more k n6 n _ cs.tail o (tail_ok hc) (by omega)
     . rw [dC ch cc,dC ch cc]
theorem talkG_le (k:GmK ns ts p) (n6:ns.length<=6) {cs:List Int} (h:TkOk ns ts p t) (hc:cw cs p) {n:Nat} (hs:bi ns t.z<=n):∀ m,(cz ns ts p rows cs (n+m) t).2=(cz ns ts p rows cs n t).2
 | 0=>rfl
 | m+1=>by rw [← Nat.add_assoc,talkG_more k n6 _ _ _ h hc (by omega),talkG_le k n6 h hc hs m]
theorem talkG_20 (k:GmK ns ts p) (n6:ns.length<=6) {cs:List Int} (h:TkOk ns ts p t) (hc:cw cs p) {n m:Nat} (hn:13<=n) (hm:13<=m):(cz ns ts p rows cs n t).2=(cz ns ts p rows cs m t).2:=by
 have:=steps_le (ns:=ns) t.z
 obtain ⟨a,rfl⟩:∃ a,n=13+a:=⟨n - 13,by omega⟩
 obtain ⟨b,rfl⟩:∃ b,m=13+b:=⟨m - 13,by omega⟩
 rw [talkG_le k n6 h hc (by omega),talkG_le k n6 h hc (by omega)]
theorem talkG_settle (k:GmK ns ts p) (n6:ns.length<=6) {cs:List Int} (h:TkOk ns ts p t) (hc:cw cs p) {n m:Nat} (hn:14<=n) (hm:14<=m):(cz ns ts p rows cs n t).2=(cz ns ts p rows cs m (settle ns ts p rows 2 t)).2:=by
 by_cases ch:t.z.aw.1 = "hear"
 . obtain ⟨o,s,_,o4⟩:=h.ask (rows:=rows) k n6 ch
   have e:settle ns ts p rows 2 t=t.ask ns ts p rows:=(if_pos ch).trans (ci o4 1)
   rw [e]
   obtain ⟨a,rfl⟩:∃ a,n=a+1:=⟨n - 1,by omega⟩
   rw [talkG_hear ch]
   exact talkG_20 k n6 o hc (by omega) (by omega)
 . rw [ci ch]
   exact talkG_20 k n6 h hc (by omega) (by omega)
structure Lf (ns:List Str) (t:Tk) (j:Nat):Prop where
 hc:t.z.aw.1 = "hear" ∨ t.z.aw.1 = "coin" -> bn ns t.z=j
 be:t.z.aw.1 = "believed" -> j=0
theorem ne_w5:¬ (("believed" : Str) = "hear"):=by decide +kernel
theorem ne_w6:¬ (("coin" : Str) = "believed"):=by decide +kernel
theorem ne_w7:¬ (("caught" : Str) = "believed"):=by decide +kernel
theorem ne_w8:¬ (("hear" : Str) = "believed"):=by decide +kernel
theorem ne_w9:¬ (("caught" : Str) = "coin"):=by decide +kernel
theorem goOn_lf (z:Db) (tl:z.to.length<=ns.length) (bx:Str->Int) (nr:Int):Lf ns ⟨goOn ns ts p z,bx,nr⟩ (ns.length - z.to.length):=by
 unfold goOn
 by_cases c:z.to.length < ns.length
 . rw [if_pos c]
   exact ⟨fun _=>if_pos rfl,fun h=>absurd h ne_w8⟩
 . rw [if_neg c]
   unfold dA
   by_cases e:z.ed=hor z.s p (ts.map fun t=>t.worth ns z.to p)
   . rw [if_pos e]
     exact ⟨fun h=>h.elim (fun h=>absurd h ne_w5) (fun h=>absurd h ne_w4),fun _=>(by show ns.length - z.to.length=0; omega)⟩
   . rw [if_neg e]
     exact ⟨fun h=>h.elim (fun h=>absurd h ne_w2) (fun h=>absurd h ne_w9),fun h=>absurd h ne_w7⟩
theorem Lf.ask (k:GmK ns ts p) (n6:ns.length<=6) {j:Nat} (h:TkOk ns ts p t) (l:Lf ns t j) (hw:t.z.aw.1 = "hear"):Lf ns (t.ask ns ts p rows) j:=by
 have ho:=h.hear (rows:=rows) k n6 hw
 have x0:=h.gd.hear_ne k ho
 have e:cy ns ts p (t.said ns ts p rows) t.z=cW p (t.said ns ts p rows) { t.z with pl:=t.z.pl+((t.said ns ts p rows).length:Int) }:=if_neg h.cl
 have l1:=l.hc (.inl hw)
 have s2:bn ns t.z=ns.length - t.z.to.length:=if_pos hw
 have ez:(t.ask ns ts p rows).z=cW p (t.said ns ts p rows) { t.z with pl:=t.z.pl+((t.said ns ts p rows).length:Int) }:=e
 refine ⟨fun hh=>?_,fun hh=>?_⟩
 . rw [ez] at hh ⊢
   unfold cW at hh ⊢
   by_cases c:(val p (t.said ns ts p rows) 0+val p (t.said ns ts p rows) 1) % p=t.z.ed
   . rw [if_pos c]
     show (if (("coin" : Str) = "hear") then _ else if (("coin" : Str) = "coin") then (if t.said ns ts p rows=[] then _ else _) else _)=j
     rw [if_neg ne_w1,if_pos rfl,if_neg x0]
     show ns.length - t.z.to.length=j
     omega
   . rw [if_neg c] at hh
     exact hh.elim (fun h=>absurd h ne_w2) (fun h=>absurd h ne_w9)
 . rw [ez] at hh
   unfold cW at hh
   by_cases c:(val p (t.said ns ts p rows) 0+val p (t.said ns ts p rows) 1) % p=t.z.ed
   . rw [if_pos c] at hh
     exact absurd hh ne_w6
   . rw [if_neg c] at hh
     exact absurd hh ne_w7
theorem Lf.settle (k:GmK ns ts p) (n6:ns.length<=6) {j:Nat} (h:TkOk ns ts p t) (l:Lf ns t j):Lf ns (settle ns ts p rows 2 t) j:=by
 by_cases ch:t.z.aw.1 = "hear"
 . obtain ⟨o,s,_,o4⟩:=h.ask (rows:=rows) k n6 ch
   have e:Mine.settle ns ts p rows 2 t=t.ask ns ts p rows:=(if_pos ch).trans (ci o4 1)
   rw [e]
   exact l.ask k n6 h ch
 . rw [ci ch]
   exact l
theorem Lf.toss (h:TkOk ns ts p t) {j:Nat} (l:Lf ns t (j+1)) (hw:t.z.aw.1 = "coin") (r:Int):Lf ns (t.toss ns ts p r) j:=by
 have nh:¬ t.z.aw.1 = "hear" := by rw [hw]; exact ne_w1
 have s2:bn ns t.z=if t.z.he=[] then ns.length+1 else ns.length - t.z.to.length:=by unfold bn; rw [if_neg nh,if_pos hw]
 have l1:=l.hc (.inr hw)
 by_cases c:t.z.he=[]
 . have et:=h.fi hw c
   rw [if_pos c] at s2
   have e:t.toss ns ts p r=⟨goOn ns ts p { t.z with pl:=t.z.pl+1,s:=r,ed:=hor r p t.z.cl },t.bx,t.nr⟩:=by
    unfold Tk.toss cO begR
    rw [if_pos c]
   rw [e]
   have:=goOn_lf (ns:=ns) (ts:=ts) (p:=p) { t.z with pl:=t.z.pl+1,s:=r,ed:=hor r p t.z.cl } h.gd.tl t.bx t.nr
   have ej:ns.length - t.z.to.length=j:=by rw [et,List.length_nil]; omega
   rw [← ej]
   exact this
 . have tl:=((h.gd.co hw).2 c).2
   rw [if_neg c] at s2
   have e:t.toss ns ts p r=⟨goOn ns ts p { t.z with pl:=t.z.pl+1,ed:=val p t.z.he r,to:=t.z.to++[r] },t.bx,t.nr⟩:=by
    unfold Tk.toss cO
    rw [if_neg c]
   rw [e]
   have el:(t.z.to++[r]).length=t.z.to.length+1:=by rw [List.length_append]; rfl
   have:=goOn_lf (ns:=ns) (ts:=ts) (p:=p) { t.z with pl:=t.z.pl+1,ed:=val p t.z.he r,to:=t.z.to++[r] } (by show (t.z.to++[r]).length<=_; omega) t.bx t.nr
   have ej:ns.length - (t.z.to++[r]).length=j:=by omega
   rw [← ej]
   exact this
theorem Lf.new (k:GmK ns ts p):Lf ns ((Tk.new ts).ask ns ts p rows) (coinN ns ts):=by
 have e0:cy ns ts p ((Tk.new ts).said ns ts p rows) (Db.new ts)=hearC ns ts p ((Tk.new ts).said ns ts p rows) { Db.new ts with pl:=(Db.new ts).pl+(((Tk.new ts).said ns ts p rows).length:Int) }:=if_pos rfl
 by_cases c:ts.length=1
 . have e:(Tk.new ts).ask ns ts p rows=⟨goOn ns ts p { Db.new ts with pl:=(Db.new ts).pl+(((Tk.new ts).said ns ts p rows).length:Int),cl:=(Tk.new ts).said ns ts p rows,s:=0,ed:=hor 0 p ((Tk.new ts).said ns ts p rows) },((Tk.new ts).run ns ts p rows).bx,(Tk.new ts).nr+1⟩:=by
    unfold Tk.ask
    congr 1
    exact e0.trans (if_pos c)
   rw [e]
   have ej:coinN ns ts=ns.length - ([]:List Int).length:=if_pos c
   rw [ej]
   exact goOn_lf _ (Nat.zero_le _) _ _
 . have ez:((Tk.new ts).ask ns ts p rows).z={ Db.new ts with pl:=(Db.new ts).pl+(((Tk.new ts).said ns ts p rows).length:Int),cl:=(Tk.new ts).said ns ts p rows,aw:=("coin", none) }:=e0.trans (if_neg c)
   have ej:coinN ns ts=ns.length+1:=if_neg c
   refine ⟨fun _=>?_,fun h=>?_⟩
   . rw [ez,ej]
     show (if (("coin" : Str) = "hear") then _ else if (("coin" : Str) = "coin") then (if ([]:List Int)=[] then ns.length+1 else _) else 0)=_
     rw [if_neg ne_w1,if_pos rfl,if_pos rfl]
   . rw [ez] at h
     exact absurd h ne_w6
noncomputable def belG (ns:List Str) (ts:List Tr) (p:Int) (rows:List Hr) (t:Tk) (c:List Int):Bool:=decide ((cz ns ts p rows c 20 t).2.z.aw.1 = "believed")
theorem weigh_all (k:GmK ns ts p) (n6:ns.length<=6) {cn:Nat}:∀ (d j:Nat) (t:Tk) (cs:List Int),TkOk ns ts p (settle ns ts p rows 2 t)->¬ (settle ns ts p rows 2 t).z.aw.1 = "hear" -> Lf ns (settle ns ts p rows 2 t) j->j < d->cs.length+j=cn ->
 weighG ns ts p rows cn d t cs=resW (cI p.toNat j) (belG ns ts p rows (settle ns ts p rows 2 t)) cs
 | 0,j,_,_,_,_,_,hd,_=>absurd hd (Nat.not_lt_zero _)
 | d+1,j,t,cs,ok,no,lf,hd,hl=>by
   have p2:=k.p2
   have ep:(p.toNat:Int)=p:=by omega
   show (if (settle ns ts p rows 2 t).z.aw.1 = "believed" then _ else if (settle ns ts p rows 2 t).z.aw.1 = "caught" then _ else _)=_
   generalize settle ns ts p rows 2 t=u at ok no lf
   by_cases cb:u.z.aw.1 = "believed"
   . rw [if_pos cb]
     have e0:=lf.be cb
     subst e0
     have e1:belG ns ts p rows u []=true:=by
      unfold belG
      rw [dC no (by rw [cb]; exact ne_w4)]
      exact decide_eq_true cb
     unfold resW cI
     rw [List.filter_cons_of_pos e1,List.filter_cons_of_neg (by rw [e1]; decide)]
     rfl
   . rw [if_neg cb]
     by_cases cc:u.z.aw.1 = "caught"
     . rw [if_pos cc]
       have e1:∀ c ∈ cI p.toNat j,belG ns ts p rows u c=false:=fun c _=>by
        unfold belG
        rw [dC no (by rw [cc]; exact ne_w9)]
        exact decide_eq_false cb
       rw [resW_congr (b':=fun _=>false) e1]
       unfold resW
       have e2:(cI p.toNat j).filter (fun _=>false)=[]:=List.filter_eq_nil_iff.mpr fun _ _=>by decide
       have e3:(cI p.toNat j).filter (fun c=>!((fun _=>false) c))=cI p.toNat j:=List.filter_eq_self.mpr fun _ _=>rfl
       rw [e2,e3,allF_zero (by omega)]
       show (0,some (cs++List.replicate (cn - cs.length) 0))=((([]:List (List Int)).length:Int),some (cs++List.replicate j 0))
       rw [show cn - cs.length=j by omega]
       rfl
     . rw [if_neg cc]
       have co:=aw_three ok no cb cc
       have cp:=(dE ok (.inr co)).2 co
       obtain ⟨i,rfl⟩:∃ i,j=i+1:=⟨j - 1,by have:=lf.hc (.inr co); omega⟩
       refine foldW_res (p:=p.toNat) (j:=i) (fun r hr=>?_) p.toNat (Nat.le_refl _)
       have r0:(0:Int)<=(r:Int):=Int.natCast_nonneg r
       have r1:(r:Int) < p:=by omega
       obtain ⟨ok3,_⟩:=ok.toss k co r0 r1
       obtain ⟨ok4,_,no4⟩:=settle_ok (rows:=rows) k n6 ok3
       rw [weigh_all k n6 d i _ (cs++[(r:Int)]) ok4 no4 ((lf.toss ok co (r:Int)).settle k n6 ok3) (by omega) (by rw [List.length_append,List.length_singleton]; omega)]
       refine resW_congr fun c hc=>?_
       have po:cw c p:=by
        have:=(allF_mem _ _ hc).2
        rwa [ep] at this
       unfold belG
       rw [← talkG_settle (n:=19) k n6 ok3 po (by decide) (by decide),talkG_coin (n:=19) co]
       rfl
theorem weigh_new (k:GmK ns ts p) (n6:ns.length<=6):weighG ns ts p rows (coinN ns ts) 8 (Tk.new ts) []=resW (cI p.toNat (coinN ns ts)) (fun c=>decide ((talkF ns ts p rows c).2.z.aw.1 = "believed")) []:=by
 obtain ⟨o1,_,no1⟩:=settle_new (rows:=rows) k n6
 obtain ⟨o2,_⟩:=new_ask (rows:=rows) k n6
 have c7:=coinN_le (ts:=ts) n6
 have ep:(p.toNat:Int)=p:=by have:=k.p2; omega
 have e:settle ns ts p rows 2 (Tk.new ts)=settle ns ts p rows 1 ((Tk.new ts).ask ns ts p rows):=if_pos rfl
 have e2:settle ns ts p rows 2 (Tk.new ts)=settle ns ts p rows 2 ((Tk.new ts).ask ns ts p rows):=by
  rw [e]
  by_cases c:((Tk.new ts).ask ns ts p rows).z.aw.1 = "hear"
  . have n4:=(o2.ask (rows:=rows) k n6 c).2.2.2
    show (if _ then _ else _)=(if _ then _ else _)
    rw [if_pos c,if_pos c,ci n4,ci n4]
  . rw [ci c,ci c]
 have lf:=(Lf.new (rows:=rows) k).settle (rows:=rows) k n6 o2
 rw [← e2] at lf
 rw [weigh_all k n6 8 (coinN ns ts) (Tk.new ts) [] o1 no1 lf (by omega) (Nat.zero_add _)]
 refine resW_congr fun c hc=>?_
 have po:cw c p:=by
  have:=(allF_mem _ _ hc).2
  rwa [ep] at this
 unfold belG
 rw [e2,← talkG_settle (n:=20) k n6 o2 po (by decide) (by decide)]
 rfl
end
theorem lag_zero {v u:Nat->Int} {x:Int} (h:∀ i,v i=0) (n:Nat):lag v u n x=0:=by
 have:∀ m,sm (fun i=>v i*px x i n*u i) m=0:=fun m=>by
  induction m with
  | zero=>rfl
  | succ m ih =>
    show sm (fun i=>v i*px x i n*u i) m+v m*px x m n*u m=0
    rw [ih,h m,Int.zero_mul,Int.zero_mul]
    rfl
 exact this n
theorem valZ {p:Int} {xs:List Int} (h:∀ x ∈ xs,x=0) (r:Int):val p xs r=0:=by
 unfold val
 rw [lag_zero]
 . exact Int.zero_emod p
 . intro i
   show xs.getD i 0=0
   rw [List.getD_eq_getElem?_getD]
   cases e:xs[i]? with
   | none=>rfl
   | some a=>exact h a (List.mem_of_getElem? e)
theorem hor_zero {s p:Int}:∀ xs:List Int,(∀ x ∈ xs,x=0)->hor s p xs=0
 | [],_=>rfl
 | a::r,h=>by
   show (hor s p r*s+a) % p=0
   rw [hor_zero r (fun x hx=>h x (List.mem_cons_of_mem _ hx)),h a (List.mem_cons_self ..),Int.zero_mul]
   exact Int.zero_emod p
def endA (ns:List Str) (ts:List Tr) (p s:Int) (to:List Int):Str × Option Int:=if 0=hor s p (ts.map fun t=>t.worth ns to p) then ("believed", none) else ("caught", some ((to.length:Int)+1))
section
variable {ns:List Str} {ts:List Tr} {p:Int} {t:Tk}
theorem said0:t.said ns ts p []=List.replicate (awN t.z).toNat 0:=by
 have e:t.run ns ts p []=⟨0,t.bx,[]⟩:=by
  unfold Tk.run
  exact if_neg fun c=>absurd c.1 (by show ¬ (0:Int) < 0; omega)
 unfold Tk.said
 rw [e]
 show []++List.replicate (awN t.z - 0).toNat 0=_
 rw [List.nil_append,Int.sub_zero]
structure Idl (t:Tk):Prop where
 ed:t.z.ed=0
 he:∀ x ∈ t.z.he,x=0
 cl:∀ x ∈ t.z.cl,x=0
theorem goOn_idl (z:Db) (e:z.ed=0):(goOn ns ts p z).ed=0/\(¬ (goOn ns ts p z).aw.1 = "hear" -> (goOn ns ts p z).aw=endA ns ts p z.s z.to/\ns.length<=z.to.length):=by
 unfold goOn
 by_cases c:z.to.length < ns.length
 . rw [if_pos c]
   exact ⟨e,fun h=>absurd rfl h⟩
 . rw [if_neg c]
   refine ⟨e,fun _=>⟨?_,by omega⟩⟩
   unfold dA endA
   rw [← e]
def lenN (ns:List Str) (t:Tk):Nat:=if t.z.aw.1 = "coin" /\ t.z.he=[] then ns.length+1 else ns.length - t.z.to.length
def finN (ns:List Str) (ts:List Tr) (p:Int) (t:Tk) (cs:List Int):Str × Option Int:=if t.z.aw.1 = "coin" /\ t.z.he=[] then endA ns ts p (cs.headD 0) cs.tail else endA ns ts p t.z.s (t.z.to++cs)
theorem zeros_of {n:Nat}:∀ x ∈ List.replicate n (0:Int),x=0:=fun _ hx=>List.eq_of_mem_replicate hx
theorem Idl.ask (k:GmK ns ts p) (n6:ns.length<=6) (h:TkOk ns ts p t) (d:Idl t) (hw:t.z.aw.1 = "hear"):Idl (t.ask ns ts p [])/\(t.ask ns ts p []).z.aw.1 = "coin" /\ (t.ask ns ts p []).z.he ≠ []/\(t.ask ns ts p []).z.s=t.z.s/\(t.ask ns ts p []).z.to=t.z.to:=by
 have x0:=h.gd.hear_ne k (h.hear (rows:=[]) k n6 hw)
 have e:(t.ask ns ts p []).z=cW p (t.said ns ts p []) { t.z with pl:=t.z.pl+((t.said ns ts p []).length:Int) }:=if_neg h.cl
 have sz:∀ x ∈ t.said ns ts p [],x=0:=by rw [said0]; exact zeros_of
 refine ⟨⟨by rw [e]; exact d.ed,by rw [e]; exact sz,by rw [e]; exact d.cl⟩,?_,by rw [e]; exact x0,by rw [e]; rfl,by rw [e]; rfl⟩
 rw [e]
 unfold cW
 rw [if_pos]
 show (val p (t.said ns ts p []) 0+val p (t.said ns ts p []) 1) % p=t.z.ed
 rw [valZ sz,valZ sz,d.ed]
 exact Int.zero_emod p
theorem idle_talk (k:GmK ns ts p) (n6:ns.length<=6):∀ (n:Nat) (t:Tk) (cs:List Int),TkOk ns ts p t->Idl t->(¬ t.z.aw.1 = "hear" -> ¬ t.z.aw.1 = "coin" -> t.z.aw=endA ns ts p t.z.s t.z.to/\ns.length<=t.z.to.length)->cw cs p->bi ns t.z<=n->cs.length=lenN ns t->(cz ns ts p [] cs n t).2.z.aw=finN ns ts p t cs:=by
 have fin:∀ (n:Nat) (t:Tk) (cs:List Int),(¬ t.z.aw.1 = "hear" -> ¬ t.z.aw.1 = "coin" -> t.z.aw=endA ns ts p t.z.s t.z.to/\ns.length<=t.z.to.length)->cs.length=lenN ns t->¬ t.z.aw.1 = "hear" -> ¬ t.z.aw.1 = "coin" -> (cz ns ts p [] cs n t).2.z.aw=finN ns ts p t cs:=fun n t cs je cl h1 h2=>by
  obtain ⟨ea,ln⟩:=je h1 h2
  rw [dC h1 h2]
  have e1:lenN ns t=ns.length - t.z.to.length:=if_neg fun z=>h2 z.1
  have e0:cs=[]:=List.eq_nil_of_length_eq_zero (by omega)
  subst e0
  unfold finN
  rw [if_neg fun z=>h2 z.1,List.append_nil]
  exact ea
 intro n
 induction n with
 | zero =>
   intro t cs h d je hc hs cl
   exact fin 0 t cs je cl (fun z=>by have:=(dE h (.inl z)).1; omega) (fun z=>by have:=(dE h (.inr z)).1; omega)
 | succ n ih =>
   intro t cs h d je hc hs cl
   have p2:=k.p2
   by_cases ch:t.z.aw.1 = "hear"
   . have nc:¬ t.z.aw.1 = "coin" := fun z=>ne_w1 (z.symm.trans ch)
     obtain ⟨o,s,_,o4⟩:=h.ask (rows:=[]) k n6 ch
     obtain ⟨d2,ac,ah,es,eo⟩:=d.ask k n6 h ch
     rw [talkG_hear ch]
     have e1:lenN ns t=ns.length - t.z.to.length:=if_neg fun z=>nc z.1
     have e2:lenN ns (t.ask ns ts p [])=ns.length - t.z.to.length:=(if_neg fun z=>ah z.2).trans (by rw [eo])
     have:=ih (t.ask ns ts p []) cs o d2 (fun _ z=>absurd ac z) hc (by omega) (by omega)
     refine this.trans ?_
     unfold finN
     rw [if_neg fun z=>ah z.2,if_neg fun z=>nc z.1,es,eo]
   . by_cases cc:t.z.aw.1 = "coin"
     . rw [talkG_coin cc]
       obtain ⟨r0,r1⟩:=headD_rng hc (by omega)
       obtain ⟨o,s,_,nc2,w1,w2⟩:=h.toss k cc r0 r1
       have c0:cs ≠ []:=fun z=>by
        have:1<=lenN ns t:=by
         unfold lenN
         by_cases c:t.z.he=[]
         . rw [if_pos ⟨cc,c⟩]; omega
         . rw [if_neg fun z=>c z.2]
           have:=((h.gd.co cc).2 c).2
           omega
        rw [z,List.length_nil] at cl
        omega
       obtain ⟨r,cs',rfl⟩:=List.exists_cons_of_ne_nil c0
       show (cz ns ts p [] cs' n (t.toss ns ts p r)).2.z.aw=_
       by_cases c:t.z.he=[]
       . obtain ⟨es,eo⟩:=w1 c
         have e:(t.toss ns ts p r).z=goOn ns ts p { t.z with pl:=t.z.pl+1,s:=r,ed:=hor r p t.z.cl }:=if_pos c
         obtain ⟨f1,f2⟩:=goOn_idl (ns:=ns) (ts:=ts) (p:=p) { t.z with pl:=t.z.pl+1,s:=r,ed:=hor r p t.z.cl } (hor_zero _ d.cl)
         obtain ⟨g1,g2,g3,g4⟩:=goOn_w (ns:=ns) (ts:=ts) (p:=p) { t.z with pl:=t.z.pl+1,s:=r,ed:=hor r p t.z.cl }
         rw [← e] at f1 f2 g1 g2 g3 g4
         have e1:lenN ns t=ns.length+1:=if_pos ⟨cc,c⟩
         have e2:lenN ns (t.toss ns ts p r)=ns.length - 0:=(if_neg fun z=>nc2 z.1).trans (by rw [show (t.toss ns ts p r).z.to=[] from eo]; rfl)
         have cl':cs'.length+1=lenN ns t:=cl
         have:=ih (t.toss ns ts p r) cs' o ⟨f1,by rw [g3]; exact d.he,by rw [g4]; exact d.cl⟩ (fun z _=>by rw [g1,g2]; exact f2 z) (tail_ok hc) (by have:bi ns (t.toss ns ts p r).z < bi ns t.z:=s; omega) (by omega)
         refine this.trans ?_
         unfold finN
         rw [if_neg fun z=>nc2 z.1,if_pos ⟨cc,c⟩,show (t.toss ns ts p r).z.s=r from es,show (t.toss ns ts p r).z.to=[] from eo]
         rfl
       . obtain ⟨es,eo⟩:=w2 c
         have tl:=((h.gd.co cc).2 c).2
         have e:(t.toss ns ts p r).z=goOn ns ts p { t.z with pl:=t.z.pl+1,ed:=val p t.z.he r,to:=t.z.to++[r] }:=if_neg c
         obtain ⟨f1,f2⟩:=goOn_idl (ns:=ns) (ts:=ts) (p:=p) { t.z with pl:=t.z.pl+1,ed:=val p t.z.he r,to:=t.z.to++[r] } (valZ d.he r)
         obtain ⟨g1,g2,g3,g4⟩:=goOn_w (ns:=ns) (ts:=ts) (p:=p) { t.z with pl:=t.z.pl+1,ed:=val p t.z.he r,to:=t.z.to++[r] }
         rw [← e] at f1 f2 g1 g2 g3 g4
         have e1:lenN ns t=ns.length - t.z.to.length:=if_neg fun z=>c z.2
         have eo':(t.toss ns ts p r).z.to=t.z.to++[r]:=eo
         have e2:lenN ns (t.toss ns ts p r)=ns.length - (t.z.to++[r]).length:=(if_neg fun z=>nc2 z.1).trans (by rw [eo'])
         rw [List.length_append,List.length_singleton] at e2
         have cl':cs'.length+1=lenN ns t:=cl
         have:=ih (t.toss ns ts p r) cs' o ⟨f1,by rw [g3]; exact d.he,by rw [g4]; exact d.cl⟩ (fun z _=>by rw [g1,g2]; exact f2 z) (tail_ok hc) (by have:bi ns (t.toss ns ts p r).z < bi ns t.z:=s; omega) (by omega)
         refine this.trans ?_
         unfold finN
         rw [if_neg fun z=>nc2 z.1,if_neg fun z=>c z.2,show (t.toss ns ts p r).z.s=t.z.s from es,eo',List.append_assoc]
         rfl
     . exact fin (n+1) t cs je cl ch cc
def mixC (ns:List Str) (ts:List Tr) (p:Int) (c:List Int):Int:=if 1 < ts.length then hor (c.headD 0) p (ts.map fun t=>t.worth ns c.tail p) else hor 0 p (ts.map fun t=>t.worth ns c p)
theorem idle_end (k:GmK ns ts p) (n6:ns.length<=6) {c:List Int} (hc:cw c p) (cl:c.length=coinN ns ts):(talkF ns ts p [] c).2.z.aw=if 0=mixC ns ts p c then (("believed" : Str),none) else ("caught", some ((ns.length:Int)+1)):=by
 obtain ⟨o,st,_,a1,a2⟩:=new_ask (rows:=[]) k n6
 have t1:=k.t1
 have sz:∀ x ∈ (Tk.new ts).said ns ts p [],x=0:=by rw [said0]; exact zeros_of
 have e0:cy ns ts p ((Tk.new ts).said ns ts p []) (Db.new ts)=hearC ns ts p ((Tk.new ts).said ns ts p []) { Db.new ts with pl:=(Db.new ts).pl+(((Tk.new ts).said ns ts p []).length:Int) }:=if_pos rfl
 by_cases c1:1 < ts.length
 . obtain ⟨aw,ah,ato⟩:=a1 c1
   have ez:((Tk.new ts).ask ns ts p []).z={ Db.new ts with pl:=(Db.new ts).pl+(((Tk.new ts).said ns ts p []).length:Int),cl:=(Tk.new ts).said ns ts p [],aw:=("coin", none) }:=e0.trans (if_neg (by omega))
   have ac:((Tk.new ts).ask ns ts p []).z.aw.1 = "coin" := by rw [aw]
   have el:lenN ns ((Tk.new ts).ask ns ts p [])=ns.length+1:=if_pos ⟨ac,ah⟩
   have en:coinN ns ts=ns.length+1:=if_neg (by omega)
   have:=idle_talk k n6 20 _ c o ⟨by rw [ez]; rfl,(by rw [ah]; intro x hx; cases hx),by rw [ez]; exact sz⟩ (fun _ z=>absurd ac z) hc (by omega) (by omega)
   refine this.trans ?_
   unfold finN
   rw [if_pos ⟨ac,ah⟩]
   unfold endA mixC
   rw [if_pos c1]
   have ct:c.tail.length=ns.length:=by rw [List.length_tail]; omega
   rw [ct]
 . obtain ⟨nc,es,eo⟩:=a2 c1
   have e:((Tk.new ts).ask ns ts p []).z=goOn ns ts p { Db.new ts with pl:=(Db.new ts).pl+(((Tk.new ts).said ns ts p []).length:Int),cl:=(Tk.new ts).said ns ts p [],s:=0,ed:=hor 0 p ((Tk.new ts).said ns ts p []) }:=e0.trans (if_pos (by omega))
   obtain ⟨f1,f2⟩:=goOn_idl (ns:=ns) (ts:=ts) (p:=p) { Db.new ts with pl:=(Db.new ts).pl+(((Tk.new ts).said ns ts p []).length:Int),cl:=(Tk.new ts).said ns ts p [],s:=0,ed:=hor 0 p ((Tk.new ts).said ns ts p []) } (hor_zero _ sz)
   obtain ⟨g1,g2,g3,g4⟩:=goOn_w (ns:=ns) (ts:=ts) (p:=p) { Db.new ts with pl:=(Db.new ts).pl+(((Tk.new ts).said ns ts p []).length:Int),cl:=(Tk.new ts).said ns ts p [],s:=0,ed:=hor 0 p ((Tk.new ts).said ns ts p []) }
   rw [← e] at f1 f2 g1 g2 g3 g4
   have el:lenN ns ((Tk.new ts).ask ns ts p [])=ns.length - 0:=(if_neg fun z=>nc z.1).trans (by rw [eo]; rfl)
   have en:coinN ns ts=ns.length:=if_pos (by omega)
   have:=idle_talk k n6 20 _ c o ⟨f1,(by rw [g3]; intro x hx; cases hx),by rw [g4]; exact sz⟩ (fun z _=>by rw [g1,g2]; exact f2 z) hc (by omega) (by omega)
   refine this.trans ?_
   unfold finN
   rw [if_neg fun z=>nc z.1,es,eo,List.nil_append]
   unfold endA mixC
   rw [if_neg c1]
   have ct:c.length=ns.length:=by omega
   rw [ct]
end
def valO (o:Str) (x y:Int):Int:=if o = "not" then 1 - x else if o = "and" then x*y else if o = "or" then x+y - x*y else if o = "odd" then x+y - 2*(x*y) else 1 - (x+y - 2*(x*y))
def wordsN:List Str:=["not", "and", "or", "odd", "same"]
def someD (x y:Int):List (Key × V):=[(Sum.inr "not", V.int (1 - x)),(Sum.inr "and", V.int (x*y)),(Sum.inr "or", V.int (x+y - x*y)),(Sum.inr "odd", V.int (x+y - 2*(x*y)))]
def someE (x y:Int):List (Key × V):=someD x y++([(Sum.inr "same", V.int (1 - (x+y - 2*(x*y))))]:List (Key × V))
theorem someD_merge (x y:Int):mergeK [] (someD x y)=someD x y:=by with_unfolding_all rfl
theorem someD_put (x y:Int) (v:V):putK (someD x y) (Sum.inr "same") v=someD x y++([(Sum.inr "same", v)]:List (Key × V)):=by with_unfolding_all rfl
theorem someD_odd (x y:Int):valV (someD x y) (Sum.inr "odd")=some (V.int (x+y - 2*(x*y))):=by with_unfolding_all rfl
theorem someE_get (x y:Int):∀ o ∈ wordsN,valV (someE x y) (Sum.inr o)=some (V.int (valO o x y)):=by
 intro o ho
 simp only [wordsN,List.mem_cons,List.not_mem_nil,or_false] at ho
 rcases ho with rfl | rfl | rfl | rfl | rfl
 . have e:valO "not" x y=1 - x:=by unfold valO; rw [if_pos rfl]
   rw [e]; with_unfolding_all rfl
 . have e:valO "and" x y=x*y:=by unfold valO; rw [if_neg (by decide +kernel),if_pos rfl]
   rw [e]; with_unfolding_all rfl
 . have e:valO "or" x y=x+y - x*y:=by unfold valO; rw [if_neg (by decide +kernel),if_neg (by decide +kernel),if_pos rfl]
   rw [e]; with_unfolding_all rfl
 . have e:valO "odd" x y=x+y - 2*(x*y):=by unfold valO; rw [if_neg (by decide +kernel),if_neg (by decide +kernel),if_neg (by decide +kernel),if_pos rfl]
   rw [e]; with_unfolding_all rfl
 . have e:valO "same" x y=1 - (x+y - 2*(x*y)):=by unfold valO; rw [if_neg (by decide +kernel),if_neg (by decide +kernel),if_neg (by decide +kernel),if_neg (by decide +kernel)]
   rw [e]; with_unfolding_all rfl
theorem joinI_val {o:Str} (h:o ∈ joinW) (p x y:Int):joinI p o x y=valO o x y % p:=by
 have n0:¬ o = "not" := fun z=>by subst z; revert h; decide +kernel
 unfold joinI valO
 rw [if_neg n0]
 repeat' split
 all_goals rfl
theorem join_wordsN {o:Str} (h:o ∈ joinW):o ∈ wordsN:=List.mem_cons_of_mem _ h
theorem yn_in (o:Str):inV (.str o) [.str "yes", .str "no"]=(decide (o = "yes") || decide (o = "no")):=by
 show (("yes" == o) || (("no" == o) || false))=_
 rw [Bool.or_false]
 have e:∀ z:Str,(z == o)=decide (o=z):=fun z=>by
  by_cases c:o=z
  . subst c; simp
  . rw [decide_eq_false c]; simpa using fun h=>c h.symm
 rw [e,e]
theorem yn_not {o:Str} (h:o ∈ wordsN):inV (.str o) [.str "yes", .str "no"]=false:=by
 rw [yn_in,decide_eq_false,decide_eq_false]
 . rfl
 . intro z; subst z; revert h; decide +kernel
 . intro z; subst z; revert h; decide +kernel
theorem not_is {o:Str} (h:o ∈ wordsN):¬ V.str o=V.str "is" := fun z=>by
 rw [str_inj z] at h
 revert h
 decide +kernel
theorem TreeAt.viewW {H:Hp} {v:V} {t:Tr} {ns:List Str} (h:TreeAt H v t) (ok:t.ok ns):(∃ (a:Addr) (x:Str),v=.ref a/\t=.is x/\x ∈ ns/\H a=some (.tup [.str "is", .str x]))∨(∃ a:Addr,v=.ref a/\t=.yes/\H a=some (.tup [.str "yes"]))∨(∃ a:Addr,v=.ref a/\t=.no/\H a=some (.tup [.str "no"])) ∨
 ∃ (a:Addr) (o:Str) (xs:List V),v=.ref a/\o ∈ wordsN/\xs.length<=2/\H a=some (.tup (.str o::xs))/\TreesAt H xs t.parts/\(∀ u ∈ t.parts,u.ok ns/\u.depth+1<=t.depth) /\
  ∀ (pt:List Int) (p:Int),∃ x y:Int,atI ((t.parts.map fun u=>u.worth ns pt p).map V.int) 0=some (V.int x)/\atI ((t.parts.map fun u=>u.worth ns pt p).map V.int) (-1)=some (V.int y)/\(∃ u ∈ t.parts,x=u.worth ns pt p)/\t.worth ns pt p=valO o x y % p:=by
 cases h with
 | is e=>exact .inl ⟨_,_,rfl,rfl,ok,e⟩
 | yes e=>exact .inr (.inl ⟨_,rfl,rfl,e⟩)
 | no e=>exact .inr (.inr (.inl ⟨_,rfl,rfl,e⟩))
 | @not a u r e g =>
   refine .inr (.inr (.inr ⟨_, "not", [u],rfl,by decide +kernel,by simp,e,.cons g .nil,fun z hz=>?_,fun pt p=>⟨_,_,rfl,rfl,⟨r,List.mem_singleton.mpr rfl,rfl⟩,?_⟩⟩))
   . rw [List.mem_singleton.mp hz]
     exact ⟨ok,Nat.le_refl _⟩
   . show (1 - r.worth ns pt p) % p=valO "not" _ _ % p
     unfold valO
     rw [if_pos rfl]
 | @bin a o u u2 r r2 e g g2 =>
   obtain ⟨ho,ok1,ok2⟩:=ok
   refine .inr (.inr (.inr ⟨_,o,[u,u2],rfl,join_wordsN ho,by simp,e,.cons g (.cons g2 .nil),fun z hz=>?_,fun pt p=>⟨_,_,rfl,rfl,⟨r,List.mem_cons_self,rfl⟩,?_⟩⟩))
   . rcases List.mem_cons.mp hz with h | h
     . rw [h]
       refine ⟨ok1,?_⟩
       show r.depth+1<=max r.depth r2.depth+1
       omega
     . rw [List.mem_singleton.mp h]
       refine ⟨ok2,?_⟩
       show r2.depth+1<=max r.depth r2.depth+1
       omega
   . show joinI p o (r.worth ns pt p) (r2.worth ns pt p)=_
     rw [joinI_val ho]
def spLW (n:Nat):Sp:=fun vs H Q _=>∃ (v:V) (t:Tr) (a b:Addr) (ns:List Str) (pt:List Int) (p:Int),vs=[v,.ref a,.ref b,.int p]/\TreeAt H v t/\t.ok ns/\t.depth<=n/\NamesAt H a ns/\H b=some (.tup (pt.map V.int))/\pt.length=ns.length/\1 < p/\p < 2 ^ 40/\cw pt p/\∀ H',Same H H'->Q (.int (t.worth ns pt p)) H'
theorem sc_l_worth:FnScope ["_law_tree_here", "_law_switches", "_law_point", "_law_p", "_law_parts", "_law_both", "_law_either", "_law_some"] ["_law_tree_here", "_law_switches", "_law_point", "_law_p"] (af s_l_worth):=⟨rfl,rfl,rfl,by decide +kernel,rfl,by decide +kernel,by decide +kernel⟩
theorem lw_step {n:Nat} {f:Addr} {fd:FuncData} (F:Fun K "_law_worth" "_law_worth" s_l_worth f fd) (hint:mg "int" = none) (C_l_worth:Cal P w K mg base (n+2) "_law_worth" ["_law_tree_here", "_law_switches", "_law_point", "_law_p"] (spLW n)):FnOk P w K mg base CX0 (n+3) f fd ["_law_tree_here", "_law_switches", "_law_point", "_law_p"] (spLW (n+1)):=by
 refine F.ok sc_l_worth (fun vs H Q E h=>?_) (fun cdv A outer s H vs Q E hr h=>?_)
 . obtain ⟨v,t,a,b,ns,pt,p,rfl,_⟩:=h
   rfl
 obtain ⟨v,t,a,b,ns,pt,p,rfl,T,ok,dn,hN,hb,sl,p1,p40,po,k⟩:=h
 have hu:=hu_of hr
 have p0:(0:Int) < p:=by omega
 refine ⟨_,(ad (aU (aB op_in_seq (aR ix_tup (pv 0) ag (fun _ _=>rfl)) (aV (aa aO (aa aO ae))) (by with_unfolding_all rfl)) (aj (aF (bN call_int1 rfl hint boot_int' (aa (pe_cmpR cu (aR ix_tup (pv 0) ag (fun _ _=>rfl)) aO (aI _)) ae)))) aN)
  (ad (aU (aB cu (aR ix_tup (pv 0) ag (fun _ _=>rfl)) aO (aI _)) (aj (aF (aR ix_tup (pv 2) (pe_index PySem.F.plainAttrs_list PySem.F.plainAttrs_tuple (pv 1) (aa (aR ix_tup (pv 0) ag (fun _ _=>rfl)) ae)) (fun _ _=>rfl)))) aN)
  (ad (ps_comp (i:=4) (N:=["_law_switches", "_law_point", "_law_p"]) (ix:=[1,2,3]) sc_l_worth.nd rfl (Or.inl rfl) rfl
   (CompScope.three (by with_unfolding_all rfl) (by decide) rfl (by decide) rfl (by decide +kernel) rfl (by with_unfolding_all rfl) (by with_unfolding_all rfl) (by with_unfolding_all rfl) (by with_unfolding_all rfl) (by with_unfolding_all rfl) rfl rfl (by with_unfolding_all rfl) rfl rfl (by with_unfolding_all rfl) rfl rfl) rfl
   (pi_tup (dO sl_tup (pv 0) (po_some ag) po_none))
   (fun _ _ _=>dq (aE C_l_worth hr (Nat.le_refl _) rfl (aa (pv 0) (aa (pv 1) (aa (pv 2) (aa (pv 3) ae)))))))
  (ad (aq (i:=5) sc_l_worth.nd rfl (Or.inl rfl) (ao bO (aR ix_list (pv 4) ag (fun _ _=>rfl)) (aR ix_list (pv 4) (pe_un un_neg ag) (fun _ _=>rfl))))
  (ad (aq (i:=6) sc_l_worth.nd rfl (Or.inl rfl) (ao aX (aR ix_list (pv 4) ag (fun _ _=>rfl)) (aR ix_list (pv 4) (pe_un un_neg ag) (fun _ _=>rfl))))
  (ad (aq (i:=7) sc_l_worth.nd rfl (Or.inl rfl) (pe_disp (pps_cons aO (ao bq ag (aR ix_list (pv 4) ag (fun _ _=>rfl))) (pps_cons aO (pv 5) (pps_cons aO (ao bq (pv 6) (pv 5)) (pps_cons aO (ao bq (pv 6) (ao bO ag (pv 5))) pps_nil)))) rfl rfl (by simp) (by decide)))
  (ad (ps_dput hu (pv 7) aO (ao bq ag (pe_dget hu (pv 7) aO (fun _ _=>rfl))) rfl)
  (aj (aF (ao bb (pe_dget hu (pv 7) (aR ix_tup (pv 0) ag (fun _ _=>rfl)) (fun _ _=>rfl)) (pv 3))))))))))),?_⟩
 rcases T.viewW ok with ⟨q,x,rfl,rfl,xm,e⟩ | ⟨q,rfl,rfl,e⟩ | ⟨q,rfl,rfl,e⟩ | ⟨q,o,xs,rfl,om,xl0,e,TS0,pok,wv⟩
 . refine ⟨_,rfl,q,_,0,_,rfl,rfl,SqT.of e,rfl,(by show 2<=sizeLine; decide),fun c hc=>?_⟩
   have G:=Same.new hc (.tup [.str "yes", .str "no"])
   refine ⟨c,_,rfl,.inr (SqT.of upd_same),rfl,rfl,_,rfl,?_⟩
   have e0:inV (.str "is") [.str "yes", .str "no"]=false:=by rw [yn_in]; decide +kernel
   show if inV (.str "is") [.str "yes", .str "no"]=true then _ else _
   rw [e0]
   refine iteF ?_
   refine ⟨_,rfl,q,_,0,_,rfl,rfl,SqT.of (G _ _ e),rfl,rfl,_,rfl,?_⟩
   refine cS rfl ?_
   obtain ⟨j,hj,jl⟩:=posOf_mem xm
   have jl':j < pt.length:=by omega
   refine ⟨_,rfl,_,rfl,a,ns,rfl,hN.same G,_,rfl,q,_,1,_,rfl,rfl,SqT.of (G _ _ e),rfl,rfl,x,j,rfl,hj,b,_,(j:Int),.int pt[j],rfl,rfl,SqT.of (G _ _ hb),?_,?_⟩
   . refine cL ?_
     rw [List.getElem?_map,List.getElem?_eq_getElem jl']
     rfl
   . have e1:(Tr.is x).worth ns pt p=pt[j]:=by
      show (match posOf x ns with | some j=>pt.getD j 0 | none=>0)=_
      rw [hj]
      show pt.getD j 0=_
      exact getD_mem jl'
     have k':=k _ G
     rw [e1] at k'
     exact k'
 . refine ⟨_,rfl,q,_,0,_,rfl,rfl,SqT.of e,rfl,(by show 2<=sizeLine; decide),fun c hc=>?_⟩
   have G:=Same.new hc (.tup [.str "yes", .str "no"])
   refine ⟨c,_,rfl,.inr (SqT.of upd_same),rfl,rfl,_,rfl,?_⟩
   have e0:inV (.str "yes") [.str "yes", .str "no"]=true:=by rw [yn_in]; decide +kernel
   show if inV (.str "yes") [.str "yes", .str "no"]=true then _ else _
   rw [e0]
   refine iteT ?_
   refine ⟨_,rfl,q,_,0,_,rfl,rfl,SqT.of (G _ _ e),rfl,rfl,.inr ⟨_,rfl,?_⟩⟩
   have e1:decide (V.str "yes" = V.str "yes")=true:=decide_eq_true rfl
   rw [e1]
   exact k _ G
 . refine ⟨_,rfl,q,_,0,_,rfl,rfl,SqT.of e,rfl,(by show 2<=sizeLine; decide),fun c hc=>?_⟩
   have G:=Same.new hc (.tup [.str "yes", .str "no"])
   refine ⟨c,_,rfl,.inr (SqT.of upd_same),rfl,rfl,_,rfl,?_⟩
   have e0:inV (.str "no") [.str "yes", .str "no"]=true:=by rw [yn_in]; decide +kernel
   show if inV (.str "no") [.str "yes", .str "no"]=true then _ else _
   rw [e0]
   refine iteT ?_
   refine ⟨_,rfl,q,_,0,_,rfl,rfl,SqT.of (G _ _ e),rfl,rfl,.inr ⟨_,rfl,?_⟩⟩
   have e1:decide (V.str "no" = V.str "yes")=false:=by decide +kernel
   rw [e1]
   exact k _ G
 . refine ⟨_,rfl,q,_,0,.str o,rfl,rfl,SqT.of e,at0 ..,(by show 2<=sizeLine; decide),fun c hc=>?_⟩
   have G:=Same.new hc (.tup [.str "yes", .str "no"])
   refine ⟨c,_,rfl,.inr (SqT.of upd_same),rfl,rfl,_,rfl,?_⟩
   show if inV (.str o) [.str "yes", .str "no"]=true then _ else _
   rw [yn_not om]
   refine iteF ?_
   refine ⟨_,rfl,q,_,0,.str o,rfl,rfl,SqT.of (G _ _ e),at0 ..,rfl,_,rfl,?_⟩
   refine bd (not_is om) ?_
   obtain ⟨c1,c2⟩:=cut1 (.str o) xs xl0
   refine ⟨_,rfl,1,rfl,q,_,rfl,SqT.of (G _ _ e),c2,fun c' hc'=>?_⟩
   rw [c1]
   have G1:=Same.new hc' (.tup xs)
   have S1:Same H (upd (upd H c (.tup [.str "yes", .str "no"])) c' (.tup xs)):=G.trans G1
   have hc1:upd (upd H c (.tup [.str "yes", .str "no"])) c' (.tup xs) c'=some (.tup xs):=upd_same
   generalize upd (upd H c (.tup [.str "yes", .str "no"])) c' (.tup xs)=H1 at S1 hc1
   have TS:=TS0.mono (au S1)
   have xl:=TS.length
   refine ⟨c',rfl,⟨_,SqT.of hc1⟩,fun D hD=>?_⟩
   refine comp_tup (K:=K) (xs:=xs) (fun i H'=>H' D=some (.lst (((t.parts.take i).map fun u=>u.worth ns pt p).map V.int))/\Same H1 H') ⟨by rw [upd_same]; rfl,Same.new hD _⟩ (fun i H' _ h=>SqT.of (h.2 _ _ hc1)) ?_ ?_
   . rintro i z H2 hz ⟨hl,S2⟩
     obtain ⟨u,hu',Tu⟩:=TS.get hz
     obtain ⟨uok,ud⟩:=pok u (List.mem_of_getElem? hu')
     have hi:i < xs.length:=(List.getElem?_eq_some_iff.mp hz).1
     have S02:=S1.trans S2
     refine ⟨_,rfl,_,rfl,_,rfl,_,rfl,z,u,a,b,ns,pt,p,rfl,Tu.mono (au S2),uok,by omega,hN.same S02,S02 _ _ hb,sl,p1,p40,po,fun H3 S3=>?_⟩
     refine ⟨_,S3 _ _ hl,?_,Nx.of hi ⟨?_,fun b' o' e'=>?_⟩⟩
     . rw [List.length_map,List.length_map,List.length_take]
       exact aS (by omega)
     . rw [upd_same,List.take_add_one,hu',List.map_append,List.map_append]
       rfl
     . rw [ax (ai e' hD)]
       exact S3 _ _ (S2 _ _ e')
   . rintro H2 ⟨hl,S2⟩
     rw [xl,List.take_length] at hl
     have S02:=S1.trans S2
     obtain ⟨x,y,hx,hy,⟨u,um,ux⟩,ew⟩:=wv pt p
     have wr:=worth_rng p1 po sl u (pok u um).1
     rw [← ux] at wr
     refine ⟨_,rfl,D,_,0,_,rfl,rfl,SqL.of hl,hx,_,rfl,1,rfl,D,_,(-1),_,rfl,rfl,SqL.of hl,hy,_,_,rfl,rfl,.inl ⟨by omega,by omega⟩,?_⟩
     refine ⟨_,rfl,D,_,0,_,rfl,rfl,SqL.of hl,hx,_,rfl,1,rfl,D,_,(-1),_,rfl,rfl,SqL.of hl,hy,_,_,rfl,rfl,?_⟩
     refine fun d hd=>?_
     have Gd:=Same.new hd (.dK [])
     refine ⟨_,rfl,D,_,0,_,rfl,rfl,SqL.of (Gd _ _ hl),hx,_,_,rfl,rfl,_,rfl,_,rfl,_,rfl,_,_,rfl,rfl,_,rfl,_,rfl,_,_,rfl,rfl,.inl ⟨by decide,by decide⟩,_,_,rfl,rfl,?_⟩
     refine ⟨upd_same,someD x y,rfl,by show 4<=15; decide,?_⟩
     rw [someD_merge]
     have Sd:Same H2 (upd (upd H2 d (.dK [])) d (.dK (someD x y))):=fun b' o' e'=>by
      have nb:=ai e' hd
      rw [ax nb,ax nb]
      exact e'
     have hd2:upd (upd H2 d (.dK [])) d (.dK (someD x y)) d=some (.dK (someD x y)):=upd_same
     generalize upd (upd H2 d (.dK [])) d (.dK (someD x y))=H3 at Sd hd2
     refine ⟨_,rfl,d,_,rfl,(by rw [← someD_odd x y]; exact DGet.k (k:=Sum.inr _) hd2),_,_,rfl,rfl,_,rfl,d,_,rfl,DPut.k (k:=Sum.inr "same") hd2 (aS (by show 4<=1000; decide)),?_⟩
     rw [someD_put]
     have Se:Same H2 (upd H3 d (.dK (someE x y))):=fun b' o' e'=>by
      rw [ax (ai e' hd)]
      exact Sd _ _ e'
     have he2:upd H3 d (.dK (someE x y)) d=some (.dK (someE x y)):=upd_same
     show _
     refine ⟨_,rfl,_,rfl,q,_,0,.str o,rfl,rfl,SqT.of (Se _ _ (S02 _ _ e)),at0 ..,d,_,rfl,(by rw [← someE_get x y o om]; exact DGet.k (k:=Sum.inr _) he2),_,rfl,_,_,rfl,rfl,p0,?_⟩
     have k':=k _ (S02.trans Se)
     rw [ew] at k'
     exact k'
theorem lw_zero {f:Addr} {fd:FuncData}:FnOk P w K mg base CX0 2 f fd ["_law_tree_here", "_law_switches", "_law_point", "_law_p"] (spLW 0):=by
 have no:∀ vs H Q E,¬ spLW 0 vs H Q E:=fun vs H Q E h=>by
  obtain ⟨v,t,_,_,_,_,_,_,_,_,h1,_⟩:=h
  have:=t.depth_pos
  omega
 exact ⟨fun vs H Q E h=>absurd h (no vs H Q E),fun A outer s H args us vs Q E _ _ _ _ h=>absurd h (no vs H Q E)⟩
theorem ok_l_worth {f:Addr} {fd:FuncData} (F:Fun K "_law_worth" "_law_worth" s_l_worth f fd) (hint:mg "int" = none) (m:mg "_law_worth" = some (.ref f)) :
 ∀ n:Nat,FnOk P w K mg base CX0 (n+2) f fd ["_law_tree_here", "_law_switches", "_law_point", "_law_p"] (spLW n)
 | 0=>lw_zero
 | n+1=>lw_step F hint (Cal.of F (ok_l_worth F hint m n) m (fun _ _ _ _ _ _ us hl=>by obtain ⟨u0,u1,u2,u3,rfl⟩:=len4 hl; rfl))
theorem pr_5:Pr 5:=pr_of_b (by decide +kernel)
def spLeast:Sp:=fun vs H Q _=>∃ (a b:Addr) (ns:List Str) (tv:List V) (ts:List Tr),vs=[.ref a,.ref b]/\H a=some (.lst (ns.map V.str))/\H b=some (.lst tv)/\TreesAt H tv ts/\ts.length<=10/\(∀ t ∈ ts,t.wf/\t.depth<=10/\t.size<=400) /\
 ∀ (p:Int) (H':Hp),Same H H'->Pr p->2 < p->p<=999983->(ns=[]->ts.length<=4->p<=5)->(ts.length:Int)<=p->(∀ t ∈ ts,∀ x ∈ ns,(t.names.count x:Int) < p)->Q (.int p) H'
theorem sc_l_least:FnScope ["_law_names_here", "_law_trees", "_law_number"] ["_law_names_here", "_law_trees"] (af s_l_least):=⟨rfl,rfl,rfl,by decide +kernel,rfl,by decide +kernel,by decide +kernel⟩
theorem ok_l_least {f:Addr} {fd:FuncData} (F:Fun K "_law_least" "_law_least" s_l_least f fd) (C_l_need:Cal P w K mg base 13 "_law_need" ["_law_names_here", "_law_trees"] spNeed) (C_l_is_prime:Cal P w K mg base 1 "_law_is_prime" ["_law_number"] spPrimeB):FnOk P w K mg base CX0 14 f fd ["_law_names_here", "_law_trees"] spLeast:=by
 refine F.ok sc_l_least (fun vs H Q E h=>?_) (fun cdv A outer s H vs Q E hr h=>?_)
 . obtain ⟨a,b,ns,tv,ts,rfl,_⟩:=h
   rfl
 obtain ⟨a,b,ns,tv,ts,rfl,ha,hb,TS,tl,tok,q⟩:=h
 refine ⟨_,(ad (aq (i:=2) sc_l_least.nd rfl (Or.inl rfl) (ao aX (aE C_l_need hr (by decide) rfl (aa (pv 0) (aa (pv 1) ae))) ag))
  (ad (ps_while PassesOwn.never (pt_not (pt_val (aE C_l_is_prime hr (by decide) rfl (aa (pv 2) ae)))) (aj (aq (i:=2) sc_l_least.nd rfl (Or.inl rfl) (ao aX (pv 2) ag))))
  (aj (aF (pv 2))))),?_⟩
 refine ⟨_,rfl,_,rfl,a,b,ns,tv,ts,rfl,ha,hb,TS,tl,tok,fun m H1 S1 m2 m4 me mt mc=>?_⟩
 refine ⟨_,_,rfl,rfl,?_⟩
 refine ⟨fun mm σ H'=>∃ n:Int,σ=[some (.ref a),some (.ref b),some (.int n)]/\H'=H1/\m < n/\n<=999983/\(m<=3->n<=5)/\mm=(999983 - n).toNat,⟨_,m+1,rfl,rfl,by omega,by omega,by omega,rfl⟩,?_⟩
 rintro mm σ H' ⟨n,rfl,rfl,n0,n1,n5,rfl⟩
 refine ⟨_,rfl,n,rfl,fun b hb=>⟨b,rfl,?_⟩⟩
 cases b with
 | true =>
   refine iteF ?_
   exact ⟨_,rfl,q n _ S1 (hb.mp rfl) (by omega) n1 (fun e f=>n5 (me e f)) (by omega) fun t ht x hx=>by have:=mc t ht x hx; omega⟩
 | false =>
   refine iteT ?_
   refine ⟨_,fun _ _ h=>h,?_⟩
   have ne:n ≠ 999983:=fun z=>by
    subst z
    exact nomatch hb.mpr pr_999983
   have ne5:n ≠ 5:=fun z=>by
    subst z
    exact nomatch hb.mpr pr_5
   refine ⟨_,rfl,_,_,rfl,rfl,?_⟩
   exact ⟨_,by omega,n+1,rfl,rfl,by omega,by omega,by omega,rfl⟩
def Tr.without (x:Str):Tr->Tr
 | .is y=>if y=x then .yes else .is y
 | .yes=>.yes
 | .no=>.no
 | .not a=>.not (a.without x)
 | .bin w a b=>.bin w (a.without x) (b.without x)
theorem wo_size (x:Str):∀ t:Tr,(t.without x).size=t.size
 | .is y=>by unfold Tr.without; split <;> rfl
 | .yes=>rfl
 | .no=>rfl
 | .not a=>by show (a.without x).size+1=a.size+1; rw [wo_size x a]
 | .bin w a b=>by show (a.without x).size+(b.without x).size+1=_; rw [wo_size x a,wo_size x b]; rfl
theorem wo_depth (x:Str):∀ t:Tr,(t.without x).depth=t.depth
 | .is y=>by unfold Tr.without; split <;> rfl
 | .yes=>rfl
 | .no=>rfl
 | .not a=>by show (a.without x).depth+1=a.depth+1; rw [wo_depth x a]
 | .bin w a b=>by show max (a.without x).depth (b.without x).depth+1=_; rw [wo_depth x a,wo_depth x b]; rfl
theorem wo_ok {ns:List Str} {x:Str}:∀ t:Tr,t.ok (ns++[x])->(t.without x).ok ns
 | .is y,h=>by
   unfold Tr.without
   split
   . trivial
   . rename_i c
     have h:y ∈ ns++[x]:=h
     rcases List.mem_append.mp h with h | h
     . exact h
     . exact absurd (List.mem_singleton.mp h) c
 | .yes,_=>trivial
 | .no,_=>trivial
 | .not a,h=>wo_ok a h
 | .bin w a b,⟨h1,h2,h3⟩=>⟨h1,wo_ok a h2,wo_ok b h3⟩
theorem iyn_in (o:Str):inV (.str o) [.str "is", .str "yes", .str "no"]=(decide (o = "is") || (decide (o = "yes") || decide (o = "no"))):=by
 show (("is" == o) || (("yes" == o) || (("no" == o) || false)))=_
 rw [Bool.or_false]
 have e:∀ z:Str,(z == o)=decide (o=z):=fun z=>by
  by_cases c:o=z
  . subst c; simp
  . rw [decide_eq_false c]; simpa using fun h=>c h.symm
 rw [e,e,e]
theorem iyn_not {o:Str} (h:o ∈ wordsN):inV (.str o) [.str "is", .str "yes", .str "no"]=false:=by
 rw [iyn_in,decide_eq_false,decide_eq_false,decide_eq_false]
 . rfl
 . intro z; subst z; revert h; decide +kernel
 . intro z; subst z; revert h; decide +kernel
 . intro z; subst z; revert h; decide +kernel
def isD (x:Str):Tr->Bool
 | .is y=>decide (y=x)
 | _=>false
theorem eqv_is (t:Tr) (x:Str) (w:t.wf):PyData.eqv t.data (.tuple [.str "is", .str x])=isD x t:=by
 cases t with
 | is y =>
   simp only [Tr.data,PyData.eqv,PyData.eqvAll,isD,Bool.and_true]
   by_cases c:y=x
   . subst c; simp
   . simp [c]
 | yes=>simp [Tr.data,PyData.eqv,PyData.eqvAll,isD]
 | no=>simp [Tr.data,PyData.eqv,PyData.eqvAll,isD]
 | not a =>
   have:(("not" : Str) == "is")=false:=by decide +kernel
   simp only [Tr.data,PyData.eqv,PyData.eqvAll,isD,this,Bool.false_and]
 | bin o a b=>simp [Tr.data,PyData.eqv,PyData.eqvAll,isD]
theorem shaped_tree {t:Tr} (w:t.wf) (d:t.depth<=20):SeqAt.shaped t.data=true:=by
 have h:=data_ok t w
 simp only [SeqAt.shaped,h.1,Bool.true_and]
 exact decide_eq_true (by omega)
theorem shaped_isx {x:Str} (h:NmOk x):SeqAt.shaped (.tuple [.str "is", .str x])=true:=shaped_tree (t:=.is x) h (by show 1<=20; decide)
def spWo (n:Nat):Sp:=fun vs H Q _=>∃ (v:V) (t:Tr) (x:Str),vs=[v,.str x]/\TreeAt H v t/\t.wf/\NmOk x/\t.depth<=n/\t.depth<=10/\∀ (v':V) (H':Hp),Same H H'->TreeAt H' v' (t.without x)->Q v' H'
theorem sc_l_without:FnScope ["_law_tree_here", "_law_name"] ["_law_tree_here", "_law_name"] (af cV):=⟨rfl,rfl,rfl,by decide +kernel,rfl,by decide +kernel,by decide +kernel⟩
theorem wo_join {H:Hp} {a:Addr} {o:Str} {x:Str} {t:Tr} {us:List V} (h:∃ xs,t.parts.length=xs/\1<=xs) (nt:(∃ r,t=.not r/\o = "not")∨∃ r r2,t=.bin o r r2) (ha:H a=some (.tup (.str o::us))) (TS:TreesAt H us (t.parts.map (Tr.without x))):TreeAt H (.ref a) (t.without x):=by
 rcases nt with ⟨r,rfl,rfl⟩ | ⟨r,r2,rfl⟩
 . cases TS with
   | cons g r=>cases r; exact .not ha g
 . cases TS with
   | cons g r=>cases r with
     | cons g2 r=>cases r; exact .bin ha g g2
theorem wo_step {n:Nat} {f:Addr} {fd:FuncData} (F:Fun K "_law_without" "_law_without" cV f fd) (B:Bl mg) (C_l_without:Cal P w K mg base (n+2) "_law_without" ["_law_tree_here", "_law_name"] (spWo n)):FnOk P w K mg base CX0 (n+3) f fd ["_law_tree_here", "_law_name"] (spWo (n+1)):=by
 refine F.ok sc_l_without (fun vs H Q E h=>?_) (fun cdv A outer s H vs Q E hr h=>?_)
 . obtain ⟨v,t,x,rfl,_⟩:=h
   rfl
 obtain ⟨v,t,x,rfl,T,wf,nx,dn,d10,q⟩:=h
 refine ⟨_,(ad (aU (aB (op_eqD hr.units) (pv 0) (aV (aa aO (aa (pv 1) ae))) (aI _)) (aj (aF (aV (aa aO ae)))) aN)
  (ad (aU (aB op_in_seq (aR ix_tup (pv 0) ag (fun _ _=>rfl)) (aV (aa aO (aa aO (aa aO ae)))) (by with_unfolding_all rfl)) (aj (aF (pv 0))) aN)
  (aj (aF (ao op_catT (aV (aa (aR ix_tup (pv 0) ag (fun _ _=>rfl)) ae)) (bN bE rfl B.tuple bZ (aa (de (N:=["_law_name"]) (ix:=[1]) rfl
   (CompScope.one (by with_unfolding_all rfl) (by decide) rfl (by decide) rfl (by decide +kernel) (by with_unfolding_all rfl) (by with_unfolding_all rfl) (by with_unfolding_all rfl) rfl rfl) rfl
   (pi_tup (dO sl_tup (pv 0) (po_some ag) po_none)) (fun _ _ _=>dq (aE C_l_without hr (Nat.le_refl _) rfl (aa (pv 0) (aa (pv 1) ae))))) ae))))))),?_⟩
 refine ⟨_,rfl,_,rfl,(by show 2<=sizeLine; decide),fun c hc=>?_⟩
 have I1:=Same.new hc (.tup [.str "is", .str x])
 have g1:upd H c (.tup [.str "is", .str x]) c=some (.tup [.str "is", .str x]):=upd_same
 generalize upd H c (.tup [.str "is", .str x])=H1 at I1 g1
 have T1:=T.mono (au I1)
 refine ⟨t.data,.tuple [.str "is", .str x],rep_tree T1,.tup (SqT.of g1) (.cons (.str _) (.cons (.str _) .nil)),shaped_tree wf (by omega),shaped_isx nx,_,rfl,?_⟩
 rw [eqv_is t x wf]
 have cs:t=.is x∨(∃ (a:Addr) (o:Str) (us:List V),v=.ref a/\H1 a=some (.tup (.str o::us))/\inV (.str o) [.str "is", .str "yes", .str "no"]=true/\t.without x=t/\isD x t=false)∨(∃ (a:Addr) (o:Str) (us:List V),v=.ref a/\H1 a=some (.tup (.str o::us))/\o ∈ wordsN/\us.length<=2/\us ≠ []/\TreesAt H1 us t.parts/\((∃ r,t=.not r/\o = "not")∨∃ r r2,t=.bin o r r2)/\isD x t=false):=by
  cases id T1 with
  | @is a y e =>
    by_cases c:y=x
    . exact .inl (by rw [c])
    . exact .inr (.inl ⟨a, "is", _,rfl,e,by rw [iyn_in]; decide +kernel,if_neg c,decide_eq_false c⟩)
  | @yes a e=>exact .inr (.inl ⟨a, "yes", _,rfl,e,by rw [iyn_in]; decide +kernel,rfl,rfl⟩)
  | @no a e=>exact .inr (.inl ⟨a, "no", _,rfl,e,by rw [iyn_in]; decide +kernel,rfl,rfl⟩)
  | @not a u r e g=>exact .inr (.inr ⟨a, "not", [u],rfl,e,by decide +kernel,(by show 1<=2; decide),by simp,.cons g .nil,.inl ⟨r,rfl,rfl⟩,rfl⟩)
  | @bin a o u u2 r r2 e g g2=>exact .inr (.inr ⟨a,o,[u,u2],rfl,e,join_wordsN wf.1,(by show 2<=2; decide),by simp,.cons g (.cons g2 .nil),.inr ⟨r,r2,rfl⟩,rfl⟩)
 rcases cs with rfl | ⟨a,o,us,rfl,e2,e3,e4,eD⟩ | ⟨a,o,us,rfl,e2,om,ul,u0,TS0,nt,eD⟩
 . rw [show isD x (.is x)=true from decide_eq_true rfl]
   refine iteT ⟨(by show 1<=sizeLine; decide),fun z hz=>q (.ref z) _ (I1.trans (Same.new hz _)) ?_⟩
   rw [show (Tr.is x).without x=.yes from if_pos rfl]
   exact .yes upd_same
 . rw [eD]
   refine iteF ?_
   refine ⟨_,rfl,a,_,0,.str o,rfl,rfl,SqT.of e2,at0 ..,(by show 3<=sizeLine; decide),fun c2 hc2=>?_⟩
   have I2:=Same.new hc2 (.tup [.str "is", .str "yes", .str "no"])
   refine ⟨c2,_,rfl,.inr (SqT.of upd_same),rfl,rfl,_,rfl,?_⟩
   show if inV (.str o) [.str "is", .str "yes", .str "no"]=true then _ else _
   rw [e3]
   refine iteT ⟨_,rfl,q _ _ (I1.trans I2) ?_⟩
   rw [e4]
   exact T1.mono (au I2)
 . rw [eD]
   refine iteF ?_
   refine ⟨_,rfl,a,_,0,.str o,rfl,rfl,SqT.of e2,at0 ..,(by show 3<=sizeLine; decide),fun c2 hc2=>?_⟩
   have I2:=Same.new hc2 (.tup [.str "is", .str "yes", .str "no"])
   refine ⟨c2,_,rfl,.inr (SqT.of upd_same),rfl,rfl,_,rfl,?_⟩
   show if inV (.str o) [.str "is", .str "yes", .str "no"]=true then _ else _
   rw [iyn_not om]
   refine iteF ?_
   generalize upd H1 c2 (.tup [.str "is", .str "yes", .str "no"])=H2 at I2
   refine ⟨_,rfl,a,_,0,.str o,rfl,rfl,SqT.of (I2 _ _ e2),at0 ..,(by show 1<=sizeLine; decide),fun c3 hc3=>?_⟩
   have I3:=Same.new hc3 (.tup [.str o])
   have g3:upd H2 c3 (.tup [.str o]) c3=some (.tup [.str o]):=upd_same
   generalize upd H2 c3 (.tup [.str o])=H3 at I3 g3
   have I13:=I2.trans I3
   obtain ⟨w1,w2⟩:=cut1 (.str o) us ul
   refine ⟨_,rfl,1,rfl,a,_,rfl,SqT.of (I13 _ _ e2),w2,fun c4 hc4=>?_⟩
   rw [w1]
   have I4:=Same.new hc4 (.tup us)
   have g4:upd H3 c4 (.tup us) c4=some (.tup us):=upd_same
   generalize upd H3 c4 (.tup us)=H4 at I4 g4
   have I14:=I13.trans I4
   have TS:=TS0.mono (au I14)
   have xl:=TS.length
   refine ⟨c4,rfl,⟨_,SqT.of g4⟩,fun D hD=>?_⟩
   refine comp_tup (K:=K) (xs:=us) (fun i H'=>∃ vs:List V,H' D=some (.lst vs)/\vs.length=i/\TreesAt H' vs ((t.parts.take i).map (Tr.without x))/\Same H4 H') ⟨[],by rw [upd_same],rfl,.nil,Same.new hD _⟩ (fun i H' _ hst=>by obtain ⟨_,_,_,_,h⟩:=hst; exact SqT.of (h _ _ g4)) ?_ ?_
   . rintro i z H5 hz ⟨vs,hl,vl,TV,S5⟩
     obtain ⟨u,hu',Tu⟩:=TS.get hz
     have um:=List.mem_of_getElem? hu'
     obtain ⟨uw,ud,us'⟩:=Tr.parts_mem um wf
     have hi:i < us.length:=(List.getElem?_eq_some_iff.mp hz).1
     refine ⟨_,rfl,_,rfl,z,u,x,rfl,Tu.mono (au S5),uw,nx,by omega,by omega,fun v' H6 S6 T6=>?_⟩
     have hl6:=S6 _ _ hl
     have k7:=df (H:=H6) (b:=D) (ys:=vs) (zs:=vs++[v']) hl6
     refine ⟨_,hl6,aS (by omega),Nx.of hi ⟨vs++[v'],upd_same,by rw [List.length_append,vl]; rfl,?_,fun b' o' e'=>?_⟩⟩
     . rw [List.take_add_one,hu',List.map_append]
       exact ((TV.mono (au S6)).mono k7).append (.cons (T6.mono k7) .nil)
     . rw [ax (ai e' hD)]
       exact S6 _ _ (S5 _ _ e')
   . rintro H5 ⟨vs,hl,vl,TV,S5⟩
     rw [xl,List.take_length] at TV
     refine ⟨D,_,rfl,.inl ⟨SqL.of hl,fun c6 hc6=>?_⟩⟩
     have I6:=Same.new hc6 (.tup vs)
     have g6:upd H5 c6 (.tup vs) c6=some (.tup vs):=upd_same
     generalize upd H5 c6 (.tup vs)=H6 at I6 g6
     have v0:vs ≠ []:=fun z=>by
      rw [z] at vl
      exact u0 (List.eq_nil_of_length_eq_zero vl.symm)
     have S36:Same H3 H6:=I4.trans (S5.trans I6)
     refine ⟨c3,c6,_,_,rfl,rfl,SqT.of (S36 _ _ g3),SqT.of g6,by simp,dN (by show 1+vs.length<=1000; omega),fun z=>absurd z v0,fun _ t7 ht7=>?_⟩
     have I7:=Same.new ht7 (.tup ([.str o]++vs))
     refine q (.ref t7) _ (I1.trans (I13.trans (I4.trans (S5.trans (I6.trans I7))))) ?_
     exact wo_join ⟨_,rfl,by rw [← xl]; cases us with | nil=>exact absurd rfl u0 | cons _ _=>exact Nat.succ_le_succ (Nat.zero_le _)⟩ nt (by rw [upd_same]; rfl) ((TV.mono (au I6)).mono (au I7))
theorem wo_zero {f:Addr} {fd:FuncData}:FnOk P w K mg base CX0 2 f fd ["_law_tree_here", "_law_name"] (spWo 0):=by
 have no:∀ vs H Q E,¬ spWo 0 vs H Q E:=fun vs H Q E h=>by
  obtain ⟨v,t,x,_,_,_,_,h1,_⟩:=h
  have:=t.depth_pos
  omega
 exact ⟨fun vs H Q E h=>absurd h (no vs H Q E),fun A outer s H args us vs Q E _ _ _ _ h=>absurd h (no vs H Q E)⟩
theorem ok_l_without {f:Addr} {fd:FuncData} (F:Fun K "_law_without" "_law_without" cV f fd) (m:mg "_law_without" = some (.ref f)) (B:Bl mg) :
 ∀ n:Nat,FnOk P w K mg base CX0 (n+2) f fd ["_law_tree_here", "_law_name"] (spWo n)
 | 0=>wo_zero
 | n+1=>wo_step F B (Cal.of F (ok_l_without F m B n) m (fun _ _ _ _ _ _ us hl=>by obtain ⟨u0,u1,rfl⟩:=len2 hl; rfl))
theorem TupsAt.app {H:Hp} {us:List V} {ss:List (List Int)} (h2:TupsAt H us ss):∀ {rs:List V} {cs:List (List Int)},TupsAt H rs cs->TupsAt H (rs++us) (cs++ss)
 | _,_,.nil=>h2
 | _,_,.cons h t=>.cons h (TupsAt.app h2 t)
def snocs (p:Nat) (c:List Int):List (List Int):=(List.range p).map fun r:Nat=>c++[(r:Int)]
theorem snocs_cons (p:Nat) (a:Int) (c:List Int):snocs p (a::c)=(snocs p c).map (a::·):=by
 unfold snocs
 rw [List.map_map]
 rfl
theorem allF_snoc (p:Nat):∀ k,(cI p k).flatMap (snocs p)=cI p (k+1)
 | 0=>by
   unfold cI snocs
   rw [List.flatMap_singleton]
   show _=(List.range p).flatMap fun r:Nat=>[[(r:Int)]]
   rw [List.map_eq_flatMap]
   rfl
 | k+1=>by
   show ((List.range p).flatMap fun r:Nat=>(cI p k).map ((r:Int)::·)).flatMap (snocs p)=(List.range p).flatMap fun r:Nat=>(cI p (k+1)).map ((r:Int)::·)
   rw [List.flatMap_assoc]
   congr 1
   funext r
   rw [← allF_snoc p k,List.map_flatMap,List.flatMap_map]
   congr 1
   funext c
   exact snocs_cons p _ c
def spAllC:Sp:=fun vs H Q _=>∃ (p many:Int),vs=[.int p,.int many]/\0 < p/\p<=999983/\0<=many/\many<=7/\p ^ many.toNat<=130/\∀ (r:Addr) (H':Hp),H r=none->Same H H'->SetsAt H' r (cI p.toNat many.toNat)->Q (.ref r) H'
theorem sc_l_all_coins:FnScope ["_law_p", "_law_many", "_law_found", "_law_k", "_law_longer", "_law_coins"] ["_law_p", "_law_many"] (af cQ):=⟨rfl,rfl,rfl,by decide +kernel,rfl,by decide +kernel,by decide +kernel⟩
theorem pow_130 {p i m:Nat} (hp:0 < p) (h:p ^ m<=130) (hi:i<=m):p ^ i<=130:=Nat.le_trans (Nat.pow_le_pow_right hp hi) h
theorem take_flat {p:Nat} {L:List (List Int)} {j:Nat} {c:List Int} (h:L[j]?=some c):(L.take (j+1)).flatMap (snocs p)=(L.take j).flatMap (snocs p)++snocs p c:=by
 rw [List.take_add_one,h,List.flatMap_append]
 simp
theorem flat_len {p:Nat}:∀ L:List (List Int),(L.flatMap (snocs p)).length=L.length*p
 | []=>by simp
 | a::r=>by
   rw [List.flatMap_cons,List.length_append,flat_len r,List.length_cons,Nat.succ_mul]
   unfold snocs
   rw [List.length_map,List.length_range,Nat.add_comm]
theorem ok_l_all_coins {f:Addr} {fd:FuncData} (F:Fun K "_law_all_coins" "_law_all_coins" cQ f fd) (B:Bl mg):FnOk P w K mg base CX0 1 f fd ["_law_p", "_law_many"] spAllC:=by
 refine F.ok sc_l_all_coins (fun vs H Q E h=>?_) (fun cdv A outer s H vs Q E hr h=>?_)
 . obtain ⟨p,many,rfl,_⟩:=h
   rfl
 obtain ⟨p,many,rfl,p0,p9,m0,m7,pm,q⟩:=h
 refine ⟨_,(ad (aq (i:=2) sc_l_all_coins.nd rfl (Or.inl rfl) (cH (aa (aV ae) ae)))
  (ad (cG PassesOwn.never rfl (bL rfl B.range (aa (pv 1) ae)) (bw (i:=3) sc_l_all_coins.nd rfl (Or.inl rfl)) (ad (aq (i:=4) sc_l_all_coins.nd rfl (Or.inl rfl) (cH ae))
   (ad (cG PassesOwn.never rfl (pi_list (pv 2)) (bw (i:=5) sc_l_all_coins.nd rfl (Or.inr rfl)) (aj (bP (pe_bm PySem.F.plainAttrs_list PySem.F.slot_list_extend PySem.F.type_list_extend mt_extend (pv 4) (aa (de (N:=["_law_coins"]) (ix:=[5]) rfl
    (CompScope.one (by with_unfolding_all rfl) (by decide) rfl (by decide) rfl (by decide +kernel) (by with_unfolding_all rfl) (by with_unfolding_all rfl) (by with_unfolding_all rfl) rfl rfl) rfl
    (bL rfl B.range (aa (pv 0) ae)) (fun _ _ _=>dq (ao (op_catK K) (pv 1) (aV (aa (pv 0) ae))))) ae)))))
   (aj (aq (i:=2) sc_l_all_coins.nd rfl (Or.inl rfl) (pv 4))))))
  (aj (aF (pv 2))))),?_⟩
 obtain ⟨pn,rfl⟩:∃ pn:Nat,p=(pn:Int):=⟨p.toNat,by omega⟩
 obtain ⟨mn,rfl⟩:∃ mn:Nat,many=(mn:Int):=⟨many.toNat,by omega⟩
 rw [Int.toNat_natCast] at pm q
 rw [Int.toNat_natCast] at q
 have pm':pn ^ mn<=130:=by
  have:((pn ^ mn:Nat):Int)<=130:=by rw [Int.natCast_pow]; exact pm
  omega
 have pn0:0 < pn:=by omega
 refine ⟨(by show 0<=sizeLine; decide),fun t0 ht0=>?_⟩
 refine ⟨(by show 1<=sizeLine; decide),fun a ha=>?_⟩
 have np:t0 ≠ a:=fun z=>by
  subst z
  rw [upd_same] at ha
  cases ha
 have ha0:H a=none:=(Same.new ht0 _).free ha
 refine ⟨_,rfl,(mn:Int),rfl,by omega,by omega,di (n:=mn) (fun i σ H'=>∃ (a:Addr) (x3 x4 x5:Option V),σ=[some (.int (pn:Int)),some (.int (mn:Int)),some (.ref a),x3,x4,x5]/\H a=none/\Same H H'/\SetsAt H' a (cI pn i))
  ⟨a,_,_,_,rfl,ha0,(Same.new ht0 _).trans (Same.new ha _),[.ref t0],upd_same,.cons ⟨t0,rfl,by rw [ax np,upd_same]; rfl⟩ .nil⟩ ?_ ?_⟩
 . rintro i σ H1 hi ⟨a,x3,x4,x5,rfl,a0,s0,rs,hrs,T⟩
   have al:=allF_len (p:=pn) i
   have p1:=pow_130 pn0 pm' (show i+1<=mn from hi)
   rw [Nat.pow_succ] at p1
   refine ⟨(by show 0<=sizeLine; decide),fun b hb=>?_⟩
   have ab:a ≠ b:=ai hrs hb
   have rl:=T.length
   refine ⟨_,rfl,a,rfl,⟨_,SqL.of (by rw [ax ab]; exact hrs)⟩,for_list (K:=K) (xs:=rs) (fun j σ H2=>∃ (x5:Option V) (bs:List V),σ=[some (.int (pn:Int)),some (.int (mn:Int)),some (.ref a),some (.int (0+(i:Int))),some (.ref b),x5]/\SameBut b H1 H2/\H2 b=some (.lst bs)/\TupsAt H2 bs (((cI pn i).take j).flatMap (snocs pn)))
    ⟨_,[],rfl,SameBut.upd _,upd_same,.nil⟩ (fun j σ H2 _ hst=>by obtain ⟨_,_,_,sb,_⟩:=hst; exact SqL.of (sb a _ ab hrs)) ?_ ?_⟩
   . rintro j y σ H2 hj ⟨x5,bs,rfl,sb,hbs,TB⟩
     have jl:j < rs.length:=(List.getElem?_eq_some_iff.mp hj).1
     have T2:TupsAt H2 rs (cI pn i):=T.mono (keepT_but (ys:=[]) sb (.inr hb))
     obtain ⟨c,hcs,t,rfl,ht⟩:=T2.get hj
     have cl:=(allF_mem i c (List.mem_of_getElem? hcs)).1
     have hbl:=TB.length
     rw [flat_len,List.length_take] at hbl
     have b1:bs.length+pn<=130:=by
      have e1:min j (cI pn i).length<=j:=Nat.min_le_left _ _
      have e2:(j+1)*pn<=pn ^ i*pn:=Nat.mul_le_mul_right _ (by omega)
      have e3:min j (cI pn i).length*pn<=j*pn:=Nat.mul_le_mul_right _ e1
      rw [Nat.succ_mul] at e2
      omega
     refine ⟨_,rfl,.inl ⟨rfl,_,SqL.of hbs⟩,_,rfl,(pn:Int),rfl,by omega,by omega,fun D hD=>?_⟩
     refine dB (n:=pn) (fun u H'=>∃ vs:List V,H' D=some (.lst vs)/\TupsAt H' vs ((List.range u).map fun r:Nat=>c++[(r:Int)])/\Same H2 H') ⟨[],upd_same,.nil,Same.new hD _⟩ ?_ ?_
     . rintro u H3 hu ⟨vs,hD3,T3,S3⟩
       have vl:=T3.length
       rw [List.length_map,List.length_range] at vl
       have hu':u < pn:=hu
       refine ⟨_,rfl,_,rfl,(by show 1<=sizeLine; decide),fun z hz=>?_⟩
       rw [Int.zero_add]
       have I4:=Same.new hz (.tup [.int (u:Int)])
       have g4:upd H3 z (.tup [.int (u:Int)]) z=some (.tup [.int (u:Int)]):=upd_same
       generalize upd H3 z (.tup [.int (u:Int)])=H4 at I4 g4
       refine cat_step (s:=c) (z:=(u:Int)) (I4 _ _ (S3 _ _ ht)) g4 (by omega) fun t5 H5 S5 h5=>?_
       have S35:=I4.trans S5
       have hD5:=S35 _ _ hD3
       have k6:=df (H:=H5) (b:=D) (ys:=vs) (zs:=vs++[.ref t5]) hD5
       refine ⟨_,hD5,aS (by omega),Nx.of hu ⟨vs++[.ref t5],upd_same,?_,fun a' o e=>?_⟩⟩
       . rw [List.range_succ,List.map_append]
         exact TupsAt.app (.cons ⟨t5,rfl,k6 _ _ h5⟩ .nil) ((T3.mono (au S35)).mono k6)
       . rw [ax (ai e hD)]
         exact S35 _ _ (S3 _ _ e)
     . rintro H3 ⟨vs,hD3,T3,S3⟩
       have vl:=T3.length
       rw [List.length_map,List.length_range] at vl
       refine ⟨b,D,bs,vs,rfl,rfl,S3 _ _ hbs,hD3,dN (by omega),?_⟩
       have k4:=df (H:=H3) (b:=b) (ys:=bs) (zs:=bs++vs) (S3 _ _ hbs)
       refine ⟨_,bs++vs,rfl,(sb.trans (SameBut.of S3)).trans (SameBut.upd _),upd_same,?_⟩
       rw [take_flat hcs]
       exact TupsAt.app (T3.mono k4) ((TB.mono (au S3)).mono k4)
   . rintro σ H2 ⟨x5,bs,rfl,sb,hbs,TB⟩
     rw [rl,List.take_length,allF_snoc] at TB
     exact ⟨_,rfl,b,_,_,_,rfl,s0.free hb,s0.but (s0.free hb) sb,bs,hbs,TB⟩
 . rintro σ H' ⟨a,x3,x4,x5,rfl,a0,s0,S⟩
   exact ⟨_,rfl,q a H' a0 s0 S⟩
def spMixed:Sp:=fun vs H Q _=>∃ (sa sb c:Addr) (ns:List Str) (tv:List V) (ts:List Tr) (p:Int) (cs:List Int),vs=[.ref sa,.ref sb,.int p,.ref c]/\H sa=some (.tup (ns.map V.str))/\H sb=some (.tup tv)/\TreesAt H tv ts/\1<=ts.length/\(∀ t ∈ ts,t.ok ns/\t.depth<=10)/\1 < p/\p < 2 ^ 40/\H c=some (.tup (cs.map V.int))/\cs.length=coinN ns ts/\cw cs p/\∀ H',Same H H'->Q (.int (mixC ns ts p cs)) H'
theorem sc_l_mixed:FnScope ["_law_switches", "_law_trees", "_law_p", "_law_coins", "_law_s", "_law_found", "_law_tree_here"] ["_law_switches", "_law_trees", "_law_p", "_law_coins"] (af s_l_mixed):=⟨rfl,rfl,rfl,by decide +kernel,rfl,by decide +kernel,by decide +kernel⟩
def tMixE (base0:Hp) (sa sb:Addr) (ns:List Str) (tv:List V) (ts:List Tr) (p:Int):TS:=fun Dn σ H=>∃ (c:Addr) (s:Int) (pt:List Int) (x5 x6:Option V),σ=[some (.ref sa),some (.ref sb),some (.int p),some (.ref c),some (.int s),x5,x6]/\H c=some (.tup (pt.map V.int))/\Same base0 H/\pt.length=ns.length/\cw pt p/\∀ H',Same base0 H'->Dn.rt (.int (hor s p (ts.map fun t=>t.worth ns pt p))) H'
theorem cut_tl (a:V) (xs:List V):cutV (a::xs) (some 1) none=xs:=by
 have e0:(a::xs).length=xs.length+1:=rfl
 simp [cutV,HT.sIx]
theorem ok_l_mixed {f:Addr} {fd:FuncData} (F:Fun K "_law_mixed" "_law_mixed" s_l_mixed f fd) (B:Bl mg) (C_l_worth:Cal P w K mg base 12 "_law_worth" ["_law_tree_here", "_law_switches", "_law_point", "_law_p"] (spLW 10)):FnOk P w K mg base CX0 13 f fd ["_law_switches", "_law_trees", "_law_p", "_law_coins"] spMixed:=by
 refine F.ok sc_l_mixed (fun vs H Q E h=>?_) (fun cdv A outer s H vs Q E hr h=>?_)
 . obtain ⟨sa,sb,c,ns,tv,ts,p,cs,rfl,_⟩:=h
   rfl
 obtain ⟨sa,sb,c,ns,tv,ts,p,cs,rfl,ha,hb,TS,t1,tok,p1,p40,hc,cl,po,q⟩:=h
 have vl:=TS.length
 refine ⟨_,(ad (aq (i:=4) sc_l_mixed.nd rfl (Or.inl rfl) ag)
  (ad (aU (aB op_gt (aJ aD rfl B.len PySem.boot_len (aa (pv 1) ae)) ag (aI _)) (ad (aq (i:=4) sc_l_mixed.nd rfl (Or.inl rfl) (aR ix_tup (pv 3) ag (fun _ _=>rfl)))
   (aj (aq (i:=3) sc_l_mixed.nd rfl (Or.inl rfl) (dO sl_tupA (pv 3) (po_some ag) po_none)))) aN)
  (pss_cut (t':=tMixE H sa sb ns tv ts p) (ad (aq (i:=5) sc_l_mixed.nd rfl (Or.inl rfl) ag)
  (ad (cG PassesOwn.never rfl (pi_revb rfl B.reversed (pv 1)) (bw (i:=6) sc_l_mixed.nd rfl (Or.inl rfl)) (aj (aq (i:=5) sc_l_mixed.nd rfl (Or.inl rfl) (ao bb (ao aX (ao bO (pv 5) (pv 4)) (aE C_l_worth hr (by decide) rfl (aa (pv 6) (aa (pv 0) (aa (pv 3) (aa (pv 2) ae)))))) (pv 2)))))
  (aj (aF (pv 5))))) (by
   rintro Dn σ H1 ⟨c,s,pt,x5,x6,rfl,hc,S1,pl,po,q⟩
   have hb1:SqB K false H1 sb tv:=SqT.of (S1 _ _ hb)
   refine ⟨_,rfl,false,sb,_,rfl,hb1,for_revb (K:=K) (c:=false) (xs:=tv) (fun i σ H'=>∃ (x6:Option V),σ=[some (.ref sa),some (.ref sb),some (.int p),some (.ref c),some (.int s),some (.int (hor s p ((ts.drop (ts.length - i)).map fun t=>t.worth ns pt p))),x6]/\Same H1 H')
    ⟨_,by rw [Nat.sub_zero,List.drop_length]; rfl,Same.refl _⟩ (fun i σ H' _ hst=>by obtain ⟨_,_,h⟩:=hst; exact SqT.of (h _ _ (S1 _ _ hb))) ?_ ?_⟩
   . rintro i z σ H2 hi hz ⟨x6,rfl,S2⟩
     rw [List.getElem?_reverse hi] at hz
     obtain ⟨t,ht,Tt⟩:=TS.get hz
     have S02:=S1.trans S2
     have tm:=List.mem_of_getElem? ht
     have hr2:=hor_rng (s:=s) (p:=p) (by omega) ((ts.drop (ts.length - i)).map fun t=>t.worth ns pt p)
     refine ⟨_,rfl,_,rfl,_,_,rfl,rfl,.inl ⟨by omega,by omega⟩,_,rfl,_,rfl,_,rfl,_,rfl,z,t,sa,c,ns,pt,p,rfl,Tt.mono (au S02),(tok t tm).1,(tok t tm).2,.inr (S02 _ _ ha),S2 _ _ hc,pl,p1,p40,po,fun H3 S3=>?_⟩
     refine ⟨_,_,rfl,rfl,_,rfl,_,_,rfl,rfl,(by show 0 < p; omega),?_⟩
     refine ⟨some z,?_,S2.trans S3⟩
     have hj:ts.length - 1 - i < ts.length:=by omega
     have ed:ts.drop (ts.length - (i+1))=t::ts.drop (ts.length - i):=by
      have e1:ts.length - (i+1)=ts.length - 1 - i:=by omega
      have e2:ts.length - i=ts.length - 1 - i+1:=by omega
      rw [vl] at ht
      rw [e1,e2,List.drop_eq_getElem_cons hj]
      congr 1
      rw [List.getElem?_eq_getElem hj] at ht
      exact Option.some.inj ht
     rw [ed]
     rfl
   . rintro σ H2 ⟨x6,rfl,S2⟩
     rw [vl,Nat.sub_self,List.drop_zero]
     exact ⟨_,rfl,q H2 (S1.trans S2)⟩)))),?_⟩
 refine ⟨_,rfl,sb,_,rfl,.inr (SqT.of hb),_,_,rfl,rfl,_,rfl,?_⟩
 by_cases c1:1 < ts.length
 . refine cS (by show (tv.length:Int) > 1; omega) ?_
   have en:coinN ns ts=ns.length+1:=if_neg (by omega)
   obtain ⟨r,cs',rfl⟩:=List.exists_cons_of_ne_nil (fun z:cs=[]=>by rw [z,en] at cl; cases cl)
   refine ⟨_,rfl,c,_,0,_,rfl,rfl,SqT.of hc,at0 ..,?_⟩
   refine ⟨_,rfl,1,rfl,c,_,rfl,SqT.of hc,hc,fun c2 H2 S2 h2=>?_⟩
   rw [List.map_cons,cut_tl] at h2
   refine ⟨c2,r,cs',_,_,rfl,h2,S2,?_,tail_ok po,fun H3 S3=>?_⟩
   . have:cs'.length+1=coinN ns ts:=cl
     omega
   . have:=q H3 S3
     unfold mixC at this
     rw [if_pos c1] at this
     exact this
 . refine bd (by show ¬ (tv.length:Int) > 1; omega) ?_
   have en:coinN ns ts=ns.length:=if_pos (by omega)
   refine ⟨c,0,cs,_,_,rfl,hc,Same.refl _,by omega,po,fun H3 S3=>?_⟩
   have:=q H3 S3
   unfold mixC at this
   rw [if_neg c1] at this
   exact this
structure SmallG (ns:List Str) (ts:List Tr) (p:Int):Prop where
 nl:ns.length<=5
 nok:∀ x ∈ ns,NmOk x
 nd:ns.Nodup
 t1:1<=ts.length
 t4:ts.length<=4
 tok:∀ t ∈ ts,t.ok ns/\t.depth<=9/\t.size<=8
 pp:Pr p
 p2:2 < p
 p9:p<=999983
 p5:ns=[]->p<=5
 tp:(ts.length:Int)<=p
 tc:∀ t ∈ ts,∀ x ∈ ns,(t.names.count x:Int) < p
theorem SmallG.ne {ns:List Str} {ts:List Tr} {p:Int} (h:SmallG ns ts p) (hp:¬ p ^ coinN ns ts<=130):ns ≠ []:=fun z=>by
 have p5:=h.p5 z
 have p2:=h.p2
 refine hp ?_
 have:coinN ns ts=0∨coinN ns ts=1:=by
  unfold coinN
  rw [z]
  split
  . exact .inl rfl
  . exact .inr rfl
 rcases this with e | e <;> rw [e]
 . show p ^ 0<=130
   rw [Int.pow_zero]
   decide
 . rw [Int.pow_succ,Int.pow_zero]
   omega
def spSmall:Sp:=fun vs H Q _=>∃ (f:Addr),vs=[.ref f,.int 130,.int 8]/\FeedAt H f /\
 ∀ (g a b:Addr) (ns:List Str) (tv:List V) (ts:List Tr) (p:Int) (H':Hp),H' g=some (.tup [.ref a,.ref b,.int p])->H' a=some (.tup (ns.map V.str))->H' b=some (.tup tv)->TreesAt H' tv ts->SmallG ns ts p->p ^ coinN ns ts<=130->SameBut f H H'->Q (.ref g) H'
theorem sc_l_small:FnScope ["_law_feed_here", "_law_most", "_law_room", "_law_names_here", "_law_trees", "_law_p", "_law_turn"] ["_law_feed_here", "_law_most", "_law_room"] (af s_l_small):=⟨rfl,rfl,rfl,by decide +kernel,rfl,by decide +kernel,by decide +kernel⟩
theorem SmallG.wf {ns:List Str} {ts:List Tr} (nok:∀ x ∈ ns,NmOk x) (tok:∀ t ∈ ts,t.ok ns/\t.depth<=9/\t.size<=8):∀ t ∈ ts,t.wf/\t.depth<=10/\t.size<=400:=fun t ht=>⟨Tr.ok_wf nok t (tok t ht).1,by have:=(tok t ht).2.1; omega,by have:=(tok t ht).2.2; omega⟩
theorem wo_all {ns:List Str} {x:Str} {ts:List Tr} (tok:∀ t ∈ ts,t.ok (ns++[x])/\t.depth<=9/\t.size<=8):∀ t ∈ ts.map (Tr.without x),t.ok ns/\t.depth<=9/\t.size<=8:=fun t ht=>by
 obtain ⟨u,hu,rfl⟩:=List.mem_map.mp ht
 obtain ⟨h1,h2,h3⟩:=tok u hu
 exact ⟨wo_ok u h1,by rw [wo_depth]; exact h2,by rw [wo_size]; exact h3⟩
theorem cut_init (xs:List V) (a:V):cutV (xs++[a]) none (some (-1))=xs:=by
 simp only [cutV,HT.sIx,List.length_append,List.length_cons,List.length_nil]
 have e:(-1+(((xs.length+(0+1):Nat)):Int)).toNat=xs.length:=by omega
 simp
 have e2:(-1+((xs.length:Int)+1)).toNat=xs.length:=by omega
 rw [e2]
 simp
theorem at_last (xs:List V) (a:V):atI (xs++[a]) (-1)=some a:=by
 unfold atI ixN
 rw [List.length_append,List.length_singleton]
 have e2:(-1+(((xs.length+1:Nat)):Int)).toNat=xs.length:=by omega
 rw [if_neg (by decide),if_pos (by omega),e2]
 show (xs++[a])[xs.length]?=some a
 simp
theorem ok_l_small {f:Addr} {fd:FuncData} (F:Fun K "_law_small" "_law_small" s_l_small f fd) (B:Bl mg) (C_l_take:Cal P w K mg base 1 "_law_take" ["_law_feed_here", "_law_many"] spTake) (C_l_names:Cal P w K mg base 2 "_law_names" ["_law_feed_here", "_law_many"] spNamesN)
 (C_l_tree:Cal P w K mg base 12 "_law_tree" ["_law_feed_here", "_law_names_here", "_law_room", "_law_deep"] (spTree 10)) (C_l_least:Cal P w K mg base 14 "_law_least" ["_law_names_here", "_law_trees"] spLeast) (C_l_power:Cal P w K mg base 1 "_law_power" ["_law_p", "_law_many"] spPow) (C_l_without:Cal P w K mg base 12 "_law_without" ["_law_tree_here", "_law_name"] (spWo 10)):FnOk P w K mg base CX0 15 f fd ["_law_feed_here", "_law_most", "_law_room"] spSmall:=by
 refine F.ok sc_l_small (fun vs H Q E h=>?_) (fun cdv A outer s H vs Q E hr h=>?_)
 . obtain ⟨f,rfl,_⟩:=h
   rfl
 obtain ⟨f,rfl,hF,q⟩:=h
 refine ⟨_,(ad (aq (i:=3) sc_l_small.nd rfl (Or.inr rfl) (aE C_l_names hr (by decide) rfl (aa (pv 0) (aa (aE C_l_take hr (by decide) rfl (aa (pv 0) (aa ag ae))) ae))))
  (ad (ps_comp (i:=4) (N:=["_law_room", "_law_names_here", "_law_feed_here"]) (ix:=[2,3,0]) sc_l_small.nd rfl (Or.inl rfl) rfl
   (CompScope.three (by with_unfolding_all rfl) (by decide) rfl (by decide) rfl (by decide +kernel) rfl (by with_unfolding_all rfl) (by with_unfolding_all rfl) (by with_unfolding_all rfl) (by with_unfolding_all rfl) (by with_unfolding_all rfl) rfl rfl (by with_unfolding_all rfl) rfl rfl (by with_unfolding_all rfl) rfl rfl) rfl
   (bL rfl B.range (aa (aR ix_list (cH (aa ag (aa ag (aa ag (aa ag (aa ag ae)))))) (aE C_l_take hr (by decide) rfl (aa (pv 0) (aa ag ae))) (fun _ _=>rfl)) ae))
   (fun _ _ _=>dq (aE C_l_tree hr (by decide) rfl (aa (pv 3) (aa (pv 2) (aa (ao aX ag (aE C_l_take hr (by decide) rfl (aa (pv 3) (aa (pv 1) ae)))) (aa ag ae)))))))
  (ad (aq (i:=5) sc_l_small.nd rfl (Or.inl rfl) (aE C_l_least hr (by decide) rfl (aa (pv 3) (aa (pv 4) ae))))
  (ad (cG PassesOwn.never rfl (bL rfl B.range (aa ag ae)) (bw (i:=6) sc_l_small.nd rfl (Or.inl rfl)) (aj (aU (aB op_gt (aE C_l_power hr (by decide) rfl (aa (pv 5) (aa (ao aX (aJ aD rfl B.len PySem.boot_len (aa (pv 3) ae)) (bN call_int1 rfl B.int boot_int' (aa (pe_cmpR op_gt (aJ aD rfl B.len PySem.boot_len (aa (pv 4) ae)) ag (aI _)) ae))) ae))) (pv 1) (aI _)) (ad (ps_comp (i:=4) (N:=["_law_names_here"]) (ix:=[3]) sc_l_small.nd rfl (Or.inl rfl) rfl
   (CompScope.one (by with_unfolding_all rfl) (by decide) rfl (by decide) rfl (by decide +kernel) (by with_unfolding_all rfl) (by with_unfolding_all rfl) (by with_unfolding_all rfl) rfl rfl) rfl
   (pi_list (pv 4)) (fun _ _ _=>dq (aE C_l_without hr (by decide) rfl (aa (pv 0) (aa (aR (ix_listK K) (pv 1) (pe_un un_neg ag) (fun _ _=>rfl)) ae)))))
   (ad (aq (i:=3) sc_l_small.nd rfl (Or.inr rfl) (dO sl_list (pv 3) po_none (po_some (pe_un un_neg ag))))
   (aj (aq (i:=5) sc_l_small.nd rfl (Or.inl rfl) (aE C_l_least hr (by decide) rfl (aa (pv 3) (aa (pv 4) ae))))))) aN)))
  (aj (aF (aV (aa (bN bE rfl B.tuple bZ (aa (pv 3) ae)) (aa (bN bE rfl B.tuple bZ (aa (pv 4) ae)) (aa (pv 5) ae)))))))))),?_⟩
 refine ⟨_,rfl,_,rfl,f,6,rfl,hF,by decide,by decide,fun mk H1 k0 k7 F1 S1=>?_⟩
 refine ⟨f,mk,rfl,F1,k0,by omega,fun nl ns H2 nl0 nlf hnl nsl nok nnd F2 S2=>?_⟩
 have S02:=S1.trans S2
 have nl6:ns.length<=5:=by have:mk < 6:=k7; omega
 refine ⟨(by show 5<=sizeLine; decide),fun l hl=>?_⟩
 have lf:=F2.ne hl
 have G2:=Same.new hl (.lst [.int 1,.int 1,.int 2,.int 3,.int 4])
 refine ⟨_,rfl,f,5,rfl,F2.same G2,by decide,by decide,fun j H3 j0 j6 F3 S3=>?_⟩
 have hl3:=S3 l _ lf upd_same
 obtain ⟨x,hx,xm⟩:=at_in (l:=[V.int 1,V.int 1,V.int 2,V.int 3,V.int 4]) (i:=j) j0 (by show j < 5; omega)
 obtain ⟨z,rfl,z0,z4⟩:∃ z:Int,x=.int z/\1<=z/\z<=4:=by
  simp only [List.mem_cons,List.not_mem_nil,or_false] at xm
  rcases xm with h | h | h | h | h <;> exact ⟨_,h,by decide,by decide⟩
 refine ⟨l,_,_,_,rfl,rfl,SqL.of hl3,hx,?_⟩
 have S23:SameBut f H2 H3:=(SameBut.of G2).trans S3
 have hnl3:=S23 nl _ nlf hnl
 have S03:=S02.trans S23
 refine ⟨z,rfl,by omega,by omega,fun D hD=>?_⟩
 have Df:=F3.ne hD
 have nD:nl ≠ D:=ai hnl3 hD
 have GD:=Same.new hD (.lst [])
 refine dB (fun i H'=>∃ (tv:List V) (ts:List Tr),H' D=some (.lst tv)/\TreesAt H' tv ts/\ts.length=i/\(∀ t ∈ ts,t.ok ns/\t.depth<=9/\t.size<=8)/\FeedAt H' f/\SameBut f H3 H') ⟨[],[],upd_same,.nil,rfl,(fun t ht=>by cases ht),F3.same GD,SameBut.of GD⟩ ?_ ?_
 . rintro i H4 hi ⟨tv,ts,hD4,TS,tl,tok,F4,S4⟩
   have hi':i < z.toNat:=hi
   have hnl4:=S4 nl _ nlf hnl3
   refine ⟨_,rfl,_,rfl,_,rfl,_,rfl,f,8,rfl,F4,by decide,by decide,fun e H5 e0 e1 F5 S5=>?_⟩
   have hnl5:=S5 nl _ nlf hnl4
   have e8:e < 8:=e1
   refine ⟨_,_,rfl,rfl,f,nl,_,_,ns,rfl,F5,.inl hnl5,by omega,by omega,by omega,by decide,by decide,fun v t H6 F6 S6 T6 ok6 sz6 dp6=>?_⟩
   have S46:=S5.trans S6
   have hD6:=S46 D _ Df hD4
   have k46:=keepT_feed F4 S46
   have vl:=TS.length
   refine ⟨_,hD6,aS (by omega),Nx.of hi ⟨tv++[v],ts++[t],upd_same,?_,?_,?_,feed_upd F6 Df,?_⟩⟩
   . have k:=df (H:=H6) (b:=D) (ys:=tv) (zs:=tv++[v]) hD6
     exact ((TS.mono k46).mono k).append (.cons (T6.mono k) .nil)
   . rw [List.length_append,List.length_singleton,tl]
   . intro u hu
     rcases List.mem_append.mp hu with h | h
     . exact tok u h
     . rw [List.mem_singleton.mp h]
       have d9:(t.depth:Int)<=9:=dp6
       have s9:(t.size:Int)<=1+e:=sz6
       exact ⟨ok6,by omega,by omega⟩
   . intro b o hb eb
     rw [ax (ai eb hD)]
     exact S46 b o hb (S4 b o hb eb)
 rintro H4 ⟨tv,ts,hD4,TS,tl,tok,F4,S4⟩
 have hnl4:=S4 nl _ nlf hnl3
 have tl':ts.length=z.toNat:=tl
 have tl1:1<=ts.length:=by omega
 have tl4:ts.length<=4:=by omega
 have S04:=S03.trans S4
 refine ⟨_,rfl,_,rfl,nl,D,ns,tv,ts,rfl,hnl4,hD4,TS,by omega,SmallG.wf nok tok,fun p H5 S5 pp p2 p9 p5 tp tc=>?_⟩
 have SG:SmallG ns ts p:=⟨nl6,nok,nnd,tl1,tl4,tok,pp,p2,p9,fun e=>p5 e tl4,tp,tc⟩
 have hnl5:=S5 _ _ hnl4
 have hD5:=S5 _ _ hD4
 have TS5:=TS.mono (au S5)
 have S05:=S04.trans (SameBut.of S5)
 clear hnl4 hD4 TS S04 S03 S02 S4 hnl3 hl3 F4 F3 F2 F1 S1 S2 S3 S23 G2 GD tok tl tl' tl1 tl4 p5 tp tc pp p2 p9 hnl nsl nok nnd nl6 xm hx
 refine ⟨6,rfl,by decide,by decide,di (n:=6) (fun i σ H'=>∃ (na ta:Addr) (ns:List Str) (tv:List V) (ts:List Tr) (p:Int) (x6:Option V),σ=[some (.ref f),some (.int 130),some (.int 8),some (.ref na),some (.ref ta),some (.int p),x6]/\H' na=some (.lst (ns.map V.str))/\H' ta=some (.lst tv)/\TreesAt H' tv ts/\SmallG ns ts p/\(ns.length+i<=5∨p ^ coinN ns ts<=130)/\Same H5 H')
  ⟨nl,D,ns,tv,ts,p,_,rfl,hnl5,hD5,TS5,SG,.inl SG.nl,Same.refl _⟩ ?_ ?_⟩
 . clear hnl5 hD5 TS5 SG
   rintro i σ H6 hi ⟨na,ta,ns,tv,ts,p,x6,rfl,hna,hta,TS,SG,dj,S6⟩
   have p2:=SG.p2
   have p9:=SG.p9
   have t1:=SG.t1
   have n5:=SG.nl
   have vl:=TS.length
   have ec:((ns.map V.str).length:Int)+(if ((tv.length:Int) > 1) then 1 else 0)=(coinN ns ts:Int):=by
    rw [List.length_map,vl]
    unfold coinN
    split <;> split <;> omega
   refine ⟨_,rfl,_,rfl,na,_,rfl,.inl (SqL.of hna),_,rfl,ta,_,rfl,.inl (SqL.of hta),_,_,rfl,rfl,.inr ⟨_,rfl,?_⟩⟩
   refine ⟨_,_,rfl,rfl,p,(coinN ns ts:Int),?_,by omega,by have:=coinN_le (ts:=ts) (show ns.length<=6 by omega); omega,by omega,by omega,?_⟩
   . rw [← ec]
     by_cases c1:(tv.length:Int) > 1
     . rw [if_pos c1,show decide ((tv.length:Int) > 1)=true from decide_eq_true c1]
       rfl
     . rw [if_neg c1,show decide ((tv.length:Int) > 1)=false from decide_eq_false c1]
       rfl
   rw [Int.toNat_natCast]
   refine ⟨_,rfl,_,_,rfl,rfl,_,rfl,?_⟩
   by_cases c1:p ^ coinN ns ts<=130
   . refine bd (by omega) ?_
     exact ⟨na,ta,ns,tv,ts,p,_,rfl,hna,hta,TS,SG,.inr c1,S6⟩
   refine cS (by omega) ?_
   have nz:=SG.ne c1
   have dl:ns.length+i<=5:=dj.elim id fun h=>absurd h c1
   obtain ⟨ns',x,rfl⟩:∃ ns' x,ns=ns'++[x]:=⟨ns.dropLast,ns.getLast nz,(List.dropLast_concat_getLast nz).symm⟩
   have nok':∀ y ∈ ns',NmOk y:=fun y hy=>SG.nok y (List.mem_append_left _ hy)
   have nx:NmOk x:=SG.nok x (List.mem_append_right _ (List.mem_singleton.mpr rfl))
   have wfs:=SmallG.wf SG.nok SG.tok
   refine ⟨_,rfl,ta,rfl,⟨_,SqL.of hta⟩,fun D hD=>?_⟩
   refine comp_list (K:=K) (xs:=tv) (fun u H'=>∃ vs:List V,H' D=some (.lst vs)/\TreesAt H' vs ((ts.take u).map (Tr.without x))/\vs.length=u/\Same H6 H') ⟨[],upd_same,.nil,rfl,Same.new hD _⟩ (fun u H' _ hst=>by obtain ⟨_,_,_,_,h⟩:=hst; exact SqL.of (h _ _ hta)) ?_ ?_
   . rintro u y H7 hy ⟨vs,hD7,TV,vl7,S7⟩
     obtain ⟨t,ht,Tt⟩:=TS.get hy
     have tm:=List.mem_of_getElem? ht
     obtain ⟨tw,td,_⟩:=wfs t tm
     have hu:u < tv.length:=(List.getElem?_eq_some_iff.mp hy).1
     refine ⟨_,rfl,_,rfl,1,rfl,na,_,(-1),_,rfl,rfl,SqL.of (S7 _ _ hna),?_,y,t,x,rfl,Tt.mono (au S7),tw,nx,td,td,fun v' H8 S8 T8=>?_⟩
     . rw [List.map_append]
       exact at_last _ _
     have hD8:=S8 _ _ hD7
     have k9:=df (H:=H8) (b:=D) (ys:=vs) (zs:=vs++[v']) hD8
     have t4:=SG.t4
     refine ⟨_,hD8,aS (by omega),Nx.of hu ⟨vs++[v'],upd_same,?_,by rw [List.length_append,vl7]; rfl,fun b' o' e'=>?_⟩⟩
     . rw [List.take_add_one,ht,List.map_append]
       exact ((TV.mono (au S8)).mono k9).append (.cons (T8.mono k9) .nil)
     . rw [ax (ai e' hD)]
       exact S8 _ _ (S7 _ _ e')
   rintro H7 ⟨vs,hD7,TV,vl7,S7⟩
   rw [vl,List.take_length] at TV
   refine ⟨_,rfl,1,rfl,(-1),rfl,na,_,rfl,SqL.of (S7 _ _ hna),fun nb hnb=>?_⟩
   rw [List.map_append,List.map_singleton,cut_init]
   have I8:=Same.new hnb (.lst (ns'.map V.str))
   have g8:upd H7 nb (.lst (ns'.map V.str)) nb=some (.lst (ns'.map V.str)):=upd_same
   generalize upd H7 nb (.lst (ns'.map V.str))=H8 at I8 g8
   have tok':=wo_all SG.tok
   have t4:=SG.t4
   have tml:(ts.map (Tr.without x)).length=ts.length:=List.length_map _
   refine ⟨_,rfl,_,rfl,nb,D,ns',vs,ts.map (Tr.without x),rfl,g8,I8 _ _ hD7,TV.mono (au I8),by omega,SmallG.wf nok' tok',fun p' H9 S9 pp' p2' p9' p5' tp' tc'=>?_⟩
   have S89:=I8.trans S9
   have nl':ns'.length+1+i<=5:=by
    rw [List.length_append,List.length_singleton] at dl
    exact dl
   refine ⟨nb,D,ns',vs,ts.map (Tr.without x),p',_,rfl,S9 _ _ g8,S89 _ _ hD7,TV.mono (au S89),⟨by omega,nok',(List.nodup_append.mp SG.nd).1,by omega,by omega,tok',pp',p2',p9',fun e=>p5' e (by omega),tp',tc'⟩,.inl (by omega),S6.trans (S7.trans S89)⟩
 . rintro σ H6 ⟨na,ta,ns,tv,ts,p,x6,rfl,hna,hta,TS,SG,dj,S6⟩
   have pw:p ^ coinN ns ts<=130:=dj.elim (fun h=>absurd h (by omega)) id
   refine ⟨_,rfl,na,_,rfl,.inl ⟨SqL.of hna,fun a ha=>?_⟩⟩
   have Ga:=Same.new ha (.tup (ns.map V.str))
   refine ⟨_,rfl,ta,_,rfl,.inl ⟨SqL.of (Ga _ _ hta),fun b hb=>?_⟩⟩
   have Gb:=Same.new hb (.tup tv)
   refine ⟨_,rfl,(by show 3<=sizeLine; decide),fun g hg=>?_⟩
   have Gg:=Same.new hg (.tup [.ref a,.ref b,.int p])
   exact q g a b ns tv ts p _ upd_same (Gg _ _ (Gb _ _ upd_same)) (Gg _ _ upd_same) (TS.mono (au (Ga.trans (Gb.trans Gg)))) SG pw (S05.trans (SameBut.of (S6.trans (Ga.trans (Gb.trans Gg)))))
section
variable {C CM CA CG:Addr}
def spIdle:Sp:=fun vs H Q _=>vs=[]/\∀ (a:Addr) (H':Hp),Same H H'->H' a=some (.tup [])->Q (.ref a) H'
theorem sc_idle:FnScope [] [] (af s_idle):=⟨rfl,rfl,rfl,by decide +kernel,rfl,by decide +kernel,by decide +kernel⟩
theorem ok_idle {f:Addr} {fd:FuncData} (F:Fun K "idle" "idle" s_idle f fd):FnOk P w K mg base CX0 1 f fd [] spIdle:=by
 refine F.ok sc_idle (fun vs H Q E h=>?_) (fun cdv A outer s H vs Q E hr h=>?_)
 . obtain ⟨rfl,_⟩:=h
   rfl
 obtain ⟨rfl,q⟩:=h
 refine ⟨_,(aj (aF (aV ae))),?_⟩
 exact ⟨(by show 0<=sizeLine; decide),fun a ha=>q a _ (Same.new ha _) upd_same⟩
def cgtL (ns:List Str) (ts:List Tr) (p:Int):List (List Int):=(cI p.toNat (coinN ns ts)).filter fun c=>decide (mixC ns ts p c > 0)
theorem mixC_ge {ns:List Str} {ts:List Tr} {p:Int} (p0:0 < p) (c:List Int):0<=mixC ns ts p c:=by
 unfold mixC
 split
 . exact (hor_rng p0 _).1
 . exact (hor_rng p0 _).1
theorem filter_two {α:Type} (f:α->Bool):∀ L:List α,(L.filter f).length+(L.filter fun c=>!f c).length=L.length
 | []=>rfl
 | a::r=>by
   have ih:=filter_two f r
   cases e:f a <;> simp [e] <;> omega
theorem idle_weigh {ns:List Str} {ts:List Tr} {p:Int} (k:GmK ns ts p) (n6:ns.length<=6):weighG ns ts p [] (coinN ns ts) 8 (Tk.new ts) []=(p ^ coinN ns ts - ((cgtL ns ts p).length:Int),(cgtL ns ts p).head?):=by
 have p2:=k.p2
 have ep:(p.toNat:Int)=p:=by omega
 have e1:∀ c ∈ cI p.toNat (coinN ns ts),decide ((talkF ns ts p [] c).2.z.aw.1 = "believed")=!decide (mixC ns ts p c > 0):=fun c hc=>by
  obtain ⟨cl,co⟩:=allF_mem _ _ hc
  rw [ep] at co
  rw [idle_end k n6 co cl]
  have m0:=mixC_ge (ns:=ns) (ts:=ts) (p:=p) (by omega) c
  by_cases z:0=mixC ns ts p c
  . rw [if_pos z,decide_eq_true rfl,decide_eq_false (by omega)]
    rfl
  . rw [if_neg z,decide_eq_false ne_w7,decide_eq_true (by omega)]
    rfl
 rw [weigh_new k n6,resW_congr e1]
 unfold resW
 have e2:((cI p.toNat (coinN ns ts)).filter fun c=>!!decide (mixC ns ts p c > 0))=cgtL ns ts p:=by
  unfold cgtL
  congr 1
  funext c
  rw [Bool.not_not]
 have e3:=filter_two (fun c=>decide (mixC ns ts p c > 0)) (cI p.toNat (coinN ns ts))
 rw [allF_len] at e3
 have e4:((p.toNat ^ coinN ns ts:Nat):Int)=p ^ coinN ns ts:=by rw [Int.natCast_pow,ep]
 rw [e2]
 congr 1
 . have:((cgtL ns ts p).length:Int)+(((cI p.toNat (coinN ns ts)).filter fun c=>!decide (mixC ns ts p c > 0)).length:Int)=p ^ coinN ns ts:=by
    rw [← e4,← e3]
    exact (Int.natCast_add _ _).symm
   omega
 . cases (cgtL ns ts p).head? <;> rfl
def optD:Option (List Int)->PyData
 | none=>.none
 | some c=>.tuple (c.map PyData.int)
def wtD (x:Int × Option (List Int)):PyData:=.tuple [.int x.1,optD x.2]
theorem OptAt.rep {K:W.Frag} {H:Hp} {v:V} {x:Option (List Int)} (h:OptAt H v x):Rep K H v (optD x):=by
 cases x with
 | none=>rw [show v=.non from h]; exact .non
 | some c=>obtain ⟨b,rfl,hb⟩:=h; exact .tup (SqT.of hb) (rep_ints _)
theorem opt_ok (x:Option (List Int)):(optD x).canLay0=true/\(optD x).depth<=1:=by
 cases x with
 | none=>simp [optD,PyData.canLay0,PyData.depth]
 | some c=>simp [optD,PyData.canLay0,PyData.depth,W.ke_canLayAll0,W.ke_depthAll]
theorem wt_shaped (x:Int × Option (List Int)):SeqAt.shaped (wtD x)=true:=by
 have h:=opt_ok x.2
 have hc:(wtD x).canLay0=true:=by simp [wtD,PyData.canLay0,PyData.canLayAll0,h.1]
 have hd:(wtD x).depth<=10:=by
  show max 0 (max (optD x.2).depth 0)+1<=10
  omega
 unfold SeqAt.shaped
 rw [hc,Bool.true_and,decide_eq_true_eq]
 omega
theorem wt_eqv (x:Int × Option (List Int)):PyData.eqv (wtD x) (wtD x)=true:=PySem.SeqAt.eqv_refl _ (SeqAt.canLay_of_shaped (wt_shaped x))
def tupD (c:List Int):PyData:=.tuple (c.map PyData.int)
theorem TupsAt.rep {K:W.Frag} {H:Hp}:∀ {vs:List V} {cs:List (List Int)},TupsAt H vs cs->RepAll K H vs (cs.map tupD)
 | _,_,.nil=>.nil
 | _,_,.cons ⟨a,e,h⟩ t=>.cons (by rw [e]; exact .tup (SqT.of h) (rep_ints _)) (TupsAt.rep t)
theorem tups_ok:∀ cs:List (List Int),PyData.canLayAll0 (cs.map tupD)=true/\PyData.depthAll (cs.map tupD)<=1
 | []=>by simp [PyData.canLayAll0,PyData.depthAll]
 | c::cs=>by
   have h1:=opt_ok (some c)
   have h2:=tups_ok cs
   have h3:(tupD c).canLay0=true/\(tupD c).depth<=1:=h1
   simp only [List.map_cons,PyData.canLayAll0,PyData.depthAll,h3.1,h2.1]
   exact ⟨rfl,by omega⟩
theorem tups_shaped (cs:List (List Int)):SeqAt.shaped (.list (cs.map tupD))=true:=by
 have h:=tups_ok cs
 have hc:(PyData.list (cs.map tupD)).canLay0=true:=by simp [PyData.canLay0,h.1]
 have hd:(PyData.list (cs.map tupD)).depth<=10:=by
  show PyData.depthAll (cs.map tupD)+1<=10
  omega
 unfold SeqAt.shaped
 rw [hc,Bool.true_and,decide_eq_true_eq]
 omega
theorem nil_shaped:SeqAt.shaped (.list [])=true:=tups_shaped []
theorem eqv_tups (cs:List (List Int)):PyData.eqv (.list (cs.map tupD)) (.list [])=decide (cs=[]):=by
 cases cs with
 | nil=>simp [PyData.eqv,PyData.eqvAll]
 | cons a r=>simp [PyData.eqv,PyData.eqvAll]
theorem SmallG.gm {ns:List Str} {ts:List Tr} {p:Int} (h:SmallG ns ts p):GmK ns ts p:=by
 have t4:=h.t4
 have nl:=h.nl
 exact ⟨h.pp,h.p2,h.p9,by omega,h.t1,by omega,fun t ht=>⟨(h.tok t ht).1,Tr.ok_wf h.nok t (h.tok t ht).1,by have:=(h.tok t ht).2.1; omega,by have:=(h.tok t ht).2.2; omega⟩,h.tp,h.tc⟩
theorem sc_law:FnScope ["_law_script", "_law_k", "_law_switches", "_law_trees", "_law_p", "_law_game", "_law_caught", "_law_first"] ["_law_script"] (af s_law):=⟨rfl,rfl,rfl,by decide +kernel,rfl,by decide +kernel,by decide +kernel⟩
def tEnd65 (CG:Addr):TS:=fun Dn σ H=>∃ (a0:Addr) (kk:V) (sa sb g c:Addr) (v:V) (ns:List Str) (ts:List Tr) (p:Int),σ=[some (.ref a0),some kk,some (.ref sa),some (.ref sb),some (.int p),some (.ref g),some (.ref c),some v]/\(∃ vs,H c=some (.lst vs)/\vs.length=(cgtL ns ts p).length)/\OptAt H v (cgtL ns ts p).head?/\Gm CG H g ns ts p/\SmallG ns ts p/\p ^ coinN ns ts<=130/\∀ H',Same H H'->Dn.nx σ H'
theorem ok_law {f fC fI:Addr} {fd fdC fdI:FuncData} (F:Fun K "law" "law" s_law f fd) (B:Bl mg) (TG:GTxt K mg CG) (M:Mk K CG fI) (GI:FnOk P w K mg base CX0 14 fI fdI ["self", "switches", "trees", "field"] (spGInit CG)) (bI:Binds K fdI ["self", "switches", "trees", "field"] [])
 (mC:Meth K CG "coins" fC) (GC:FnOk P w K mg base CX0 1 fC fdC ["self"] (spCoins CG)) (bC:Binds K fdC ["self"] [])
 (C_l_feed:Cal P w K mg base 1 "_law_feed" ["_law_script", "_law_k"] (spFeed K)) (C_l_small:Cal P w K mg base 15 "_law_small" ["_law_feed_here", "_law_most", "_law_room"] spSmall) (C_l_all_coins:Cal P w K mg base 1 "_law_all_coins" ["_law_p", "_law_many"] spAllC) (C_l_mixed:Cal P w K mg base 13 "_law_mixed" ["_law_switches", "_law_trees", "_law_p", "_law_coins"] spMixed)
 (C_l_power:Cal P w K mg base 1 "_law_power" ["_law_p", "_law_many"] spPow) (C_idle:Cal P w K mg base 1 "idle" [] spIdle) (C_talked:Cal P w K mg base 27 "talked" ["game", "helper", "coins"] (spTalked C CM CG)) (C_weighed:Cal P w K mg base 36 "weighed" ["game", "helper"] (spWeighed C CM CG)):FnOk P w K mg base CX0 37 f fd ["_law_script"] (spLaw K):=by
 refine F.ok sc_law (fun vs H Q E h=>?_) (fun cdv A outer s H vs Q E hr h=>?_)
 . obtain ⟨a,ns,rfl,_⟩:=h
   rfl
 obtain ⟨a,sn,rfl,hS,h63,q⟩:=h
 have hr1:Room 1 _:=hr.mono (by decide)
 have hr15:Room 15 _:=hr.mono (by decide)
 refine ⟨_,(ad (cG PassesOwn.never rfl (bL rfl B.range (aa (aJ (call_max2 rfl) rfl B.max PyProof.Rows.boot_max (aa ag (aa (aJ (call_min2 rfl) rfl B.min PyProof.Rows.boot_min (aa ag (aa (aJ aD rfl B.len PySem.boot_len (aa (pv 0) ae)) ae))) ae))) ae)) (bw (i:=1) sc_law.nd rfl (Or.inl rfl)) (ad (ps_asg (aE C_l_small hr (by decide) rfl (aa (aE C_l_feed hr (by decide) rfl (aa (pv 0) (aa (pv 1) ae))) (aa ag (aa ag ae)))) (pg_tup rfl (pgs_cons (bw (i:=2) sc_law.nd rfl (Or.inr rfl)) (pgs_cons (bw (i:=3) sc_law.nd rfl (Or.inr rfl)) (pgs_cons (bw (i:=4) sc_law.nd rfl (Or.inr rfl)) pgs_nil)))))
  (ad (aq (i:=5) sc_law.nd rfl (Or.inl rfl) (pe_make M GI hr15 rfl TG.mgC bI .nil bF (aa (pv 2) (aa (pv 3) (aa (pv 4) ae)))))
  (ad (ps_comp (i:=6) (N:=["_law_trees", "_law_switches", "_law_p"]) (ix:=[3,2,4]) sc_law.nd rfl (Or.inl rfl) rfl
   (CompScope.three (by with_unfolding_all rfl) (by decide) rfl (by decide) rfl (by decide +kernel) rfl (by with_unfolding_all rfl) (by with_unfolding_all rfl) (by with_unfolding_all rfl) (by with_unfolding_all rfl) (by with_unfolding_all rfl) rfl rfl (by with_unfolding_all rfl) rfl rfl (by with_unfolding_all rfl) rfl rfl) rfl
   (pi_list (aE C_l_all_coins hr (by decide) rfl (aa (pv 4) (aa (bQ (pv 5) TG.cl mC GC hr1 bC .nil bF) ae)))) (fun _ _ _=>pb_if (aB op_gt (aE C_l_mixed hr (by decide) rfl (aa (pv 2) (aa (pv 1) (aa (pv 3) (aa (pv 0) ae))))) ag (aI _)) (pv 0)))
  (ad (aq (i:=7) sc_law.nd rfl (Or.inl rfl) pe_non)
  (ad (aU (aB (op_neD hr.units) (pv 6) (cH ae) (aI _)) (ad (aq (i:=7) sc_law.nd rfl (Or.inl rfl) (aR ix_list (pv 6) ag (fun _ _=>rfl)))
   (aj (aU (aB (op_neD hr.units) (aR ix_tup (aE C_talked hr (by decide) rfl (aa (pv 5) (aa (pe_cal0 C_idle hr (by decide) rfl) (aa (bN call_list_of rfl B.list boot_list' (aa (pv 7) ae)) ae)))) ag (fun _ _=>rfl)) (aV (aa aO (aa (ao aX (aJ aD rfl B.len PySem.boot_len (aa (pv 2) ae)) ag) ae))) (aI _)) (aj (aF pe_bl)) aN))) aN)
  (pss_cut (t':=tEnd65 CG) (aj (aU (aB (op_neD hr.units) (aE C_weighed hr (by decide) rfl (aa (pv 5) (aa (pe_cal0 C_idle hr (by decide) rfl) ae))) (aV (aa (ao bq (aE C_l_power hr (by decide) rfl (aa (pv 4) (aa (bQ (pv 5) TG.cl mC GC hr1 bC .nil bF) ae))) (aJ aD rfl B.len PySem.boot_len (aa (pv 6) ae))) (aa (pv 7) ae))) (aI _)) (aj (aF pe_bl)) aN)) (by
   rintro Dn σ H ⟨a0,kk,sa,sb,g,c,v,ns,ts,p,rfl,⟨vs,hc,vl⟩,ov,G,SG,p130,q⟩
   have k:=SG.gm
   have nl:=SG.nl
   have p2:=SG.p2
   have p9:=SG.p9
   refine ⟨_,rfl,rfl,fun h H1 S1 hh=>?_⟩
   refine ⟨g,h,[],[],ns,ts,p,rfl,G.same S1,k,by omega,hh,⟨rfl,fun i v r h=>by cases h⟩,rfl,by omega,fun a2 H2 S2 W2=>?_⟩
   rw [idle_weigh k (by omega)] at W2
   have T2:=S1.trans S2
   obtain ⟨ga,gb,gd,tv,⟨dg,hg⟩,hga,hgb,TS,hgd⟩:=G.same T2
   have noc:(gf ga gb p gd).lookup ("coins" : Str)=none:=gf_no _ _ _ _ (by decide +kernel) (by decide +kernel) (by decide +kernel) (by decide +kernel)
   have c7:=coinN_le (ts:=ts) (show ns.length<=6 by omega)
   have ec:(if tv.length=1 then (ns.length:Int) else (ns.length:Int)+1)=(coinN ns ts:Int):=by
    rw [TS.length]
    unfold coinN
    split <;> rfl
   refine ⟨_,rfl,_,rfl,g,dg,_,rfl,hg,noc,g,ga,gb,gd,ns,tv,p,rfl,⟨dg,hg⟩,hga,hgb,p,_,rfl,?_,?_,by omega,by omega,?_⟩
   . rw [ec]; omega
   . rw [ec]; omega
   rw [ec,Int.toNat_natCast]
   refine ⟨_,rfl,c,_,rfl,.inl (SqL.of (T2 _ _ hc)),_,_,rfl,rfl,_,rfl,(by show 2<=sizeLine; decide),fun a3 ha3=>?_⟩
   have I3:=Same.new ha3 (.tup [.int (p ^ coinN ns ts - (vs.length:Int)),v])
   obtain ⟨v2,h2,o2⟩:=W2
   refine ⟨wtD (p ^ coinN ns ts - ((cgtL ns ts p).length:Int),(cgtL ns ts p).head?),wtD (p ^ coinN ns ts - ((cgtL ns ts p).length:Int),(cgtL ns ts p).head?),.tup (SqT.of (I3 _ _ h2)) (.cons (.int _) (.cons (o2.mono (au I3)).rep .nil)),.tup (SqT.of (upd_same.trans (by rw [vl]))) (.cons (.int _) (.cons (ov.mono (au (T2.trans I3))).rep .nil)),wt_shaped _,wt_shaped _,_,rfl,?_⟩
   rw [wt_eqv]
   exact iteF (q _ (T2.trans I3))))))))))
  (aj (aF pe_bl))),?_⟩
 have hl:(sn.map V.int).length=sn.length:=List.length_map _
 refine ⟨_,rfl,a,_,rfl,.inl hS,_,_,rfl,_,_,rfl,?_⟩
 refine ⟨_,rfl,by (repeat' split) <;> omega,by (repeat' split) <;> omega,di (fun i σ H'=>∃ x1 x2 x3 x4 x5 x6 x7:Option V,σ=[some (.ref a),x1,x2,x3,x4,x5,x6,x7]/\Same H H') ⟨_,_,_,_,_,_,_,rfl,Same.refl _⟩ ?_ ?_⟩
 . rintro i σ H0 hi ⟨x1,x2,x3,x4,x5,x6,x7,rfl,S0⟩
   have hi':i < 63:=by
    rw [hl] at hi
    revert hi
    (repeat' split) <;> omega
   refine ⟨_,rfl,_,rfl,a,sn,_,rfl,S0.seq hS,h63,(show (0:Int)<=0+(i:Int) by omega),(show (0:Int)+(i:Int) < 1000000 by omega),fun f0 H1 f00 s1 F1=>?_⟩
   refine ⟨f0,rfl,F1,fun gt sa sb ns tv ts p H2 hgt hsa hsb TS SG p130 S2=>?_⟩
   have SH2:Same H0 H2:=s1.but f00 S2
   refine ⟨gt,_,rfl,SqT.of hgt,rfl,_,_,rfl,_,_,rfl,_,_,rfl,rfl,?_⟩
   have k:=SG.gm
   have nl:=SG.nl
   have p2:=SG.p2
   have p9:=SG.p9
   have t1:=SG.t1
   have t4:=SG.t4
   refine ⟨_,rfl,_,rfl,_,rfl,fun g dx nx ndx nex=>?_⟩
   have s3:Same H2 (upd (upd H2 dx (.own g)) g (.ins CG dx [])):=fun b o e=>by
    rw [ax (ai e nx),ax (ai e ndx)]
    exact e
   refine ⟨g,dx,sa,sb,ns,tv,ts,p,rfl,upd_same,s3 _ _ hsa,SG.nd,by omega,s3 _ _ hsb,TS.mono (au s3),t1,by omega,k.tok,k.pr,p2,p9,k.tp,k.tc,fun d H3 d0 GA hd S3=>⟨rfl,?_⟩⟩
   have S23:Same H2 H3:=fun b o e=>S3 b o (ai e nx) (s3 b o e)
   have hsa3:=S23 _ _ hsa
   have hsb3:=S23 _ _ hsb
   have TS3:=TS.mono (au S23)
   have G3:Gm CG H3 g ns ts p:=⟨sa,sb,d,tv,GA,hsa3,hsb3,TS3,hd⟩
   have S03:=SH2.trans S23
   clear s3 S3 nx ndx nex hgt hsa hsb TS S2 F1 s1 S23 SH2
   obtain ⟨dg,hg⟩:=GA
   have noc:(gf sa sb p d).lookup ("coins" : Str)=none:=gf_no _ _ _ _ (by decide +kernel) (by decide +kernel) (by decide +kernel) (by decide +kernel)
   have c7:=coinN_le (ts:=ts) (show ns.length<=6 by omega)
   have vl:=TS3.length
   have ec:(if tv.length=1 then (ns.length:Int) else (ns.length:Int)+1)=(coinN ns ts:Int):=by
    rw [vl]
    unfold coinN
    split <;> rfl
   have ep:(p.toNat:Int)=p:=by omega
   refine ⟨_,rfl,_,rfl,g,dg,_,rfl,hg,noc,g,sa,sb,d,ns,tv,p,rfl,⟨dg,hg⟩,hsa3,hsb3,p,_,rfl,by omega,p9,?_,?_,?_,fun r H4 r0 S4 R4=>?_⟩
   . rw [ec]; omega
   . rw [ec]; omega
   . rw [ec,Int.toNat_natCast]; exact p130
   rw [ec,Int.toNat_natCast] at R4
   obtain ⟨rs,hrs,TC⟩:=R4
   have rl:=TC.length
   have al:=allF_len (p:=p.toNat) (coinN ns ts)
   have a130:p.toNat ^ coinN ns ts<=130:=by
    have:((p.toNat ^ coinN ns ts:Nat):Int)<=130:=by rw [Int.natCast_pow,ep]; exact p130
    omega
   refine ⟨r,rfl,⟨_,SqL.of hrs⟩,fun D hD=>?_⟩
   refine comp_list (K:=K) (xs:=rs) (fun i H'=>∃ ys,H' D=some (.lst ys)/\TupsAt H' ys (((cI p.toNat (coinN ns ts)).take i).filter fun c=>decide (mixC ns ts p c > 0))/\Same H4 H') ⟨[],upd_same,.nil,Same.new hD _⟩ (fun i H' _ hst=>by obtain ⟨_,_,_,h⟩:=hst; exact SqL.of (h _ _ hrs)) ?_ ?_
   . rintro u x H5 hx ⟨ys,hl5,TY,S5⟩
     have hu:u < rs.length:=(List.getElem?_eq_some_iff.mp hx).1
     obtain ⟨c,hcu,b,rfl,hb⟩:=(TC.mono (au S5)).get hx
     obtain ⟨cl,co⟩:=allF_mem _ _ (List.mem_of_getElem? hcu)
     rw [ep] at co
     have S35:=S4.trans S5
     have tk:((cI p.toNat (coinN ns ts)).take (u+1)).filter (fun c=>decide (mixC ns ts p c > 0))=((cI p.toNat (coinN ns ts)).take u).filter (fun c=>decide (mixC ns ts p c > 0))++[c].filter (fun c=>decide (mixC ns ts p c > 0)):=by
      rw [List.take_add_one,hcu,List.filter_append]
      rfl
     have yl:=TY.length
     have fl:=List.length_filter_le (fun c=>decide (mixC ns ts p c > 0)) ((cI p.toNat (coinN ns ts)).take u)
     rw [List.length_take] at fl
     refine ⟨_,rfl,_,rfl,_,rfl,_,rfl,sa,sb,b,ns,tv,ts,p,c,rfl,S35 _ _ hsa3,S35 _ _ hsb3,TS3.mono (au S35),t1,(fun t ht=>⟨(k.tok t ht).1,(k.tok t ht).2.2.1⟩),by omega,by omega,hb,cl,co,fun H6 S6=>?_⟩
     refine ⟨_,_,rfl,rfl,_,rfl,?_⟩
     by_cases cc:mixC ns ts p c > 0
     . refine cS cc ?_
       have hl6:=S6 _ _ hl5
       have k7:=df (H:=H6) (b:=D) (ys:=ys) (zs:=ys++[.ref b]) hl6
       refine ⟨_,rfl,ys,hl6,aS (by omega),Nx.of hu ⟨_,upd_same,?_,fun b' o e=>?_⟩⟩
       . rw [tk,List.filter_cons_of_pos (by exact decide_eq_true cc)]
         exact TupsAt.app (.cons ⟨b,rfl,k7 _ _ (S6 _ _ hb)⟩ .nil) ((TY.mono (au S6)).mono k7)
       . rw [ax (ai e hD)]
         exact S6 _ _ (S5 _ _ e)
     . refine bd cc ?_
       refine Nx.of hu ⟨ys,S6 _ _ hl5,?_,S5.trans S6⟩
       rw [tk,List.filter_cons_of_neg (by rw [decide_eq_false cc]; decide)]
       show TupsAt H6 ys (_++[])
       rw [List.append_nil]
       exact TY.mono (au S6)
   rintro H5 ⟨ys,hl5,TY,S5⟩
   rw [rl,List.take_length] at TY
   have TY:TupsAt H5 ys (cgtL ns ts p):=TY
   have G5:=G3.same (S4.trans S5)
   have hsa5:=(S4.trans S5) _ _ hsa3
   have S05:=S03.trans (S4.trans S5)
   have yl:=TY.length
   have cgm:∀ c ∈ cgtL ns ts p,c.length=coinN ns ts/\cw c p/\mixC ns ts p c > 0:=fun c hc=>by
    obtain ⟨h1,h2⟩:=List.mem_filter.mp hc
    obtain ⟨cl,co⟩:=allF_mem _ _ h1
    rw [ep] at co
    exact ⟨cl,co,of_decide_eq_true h2⟩
   have cl2:(cgtL ns ts p).length<=130:=by
    have:=List.length_filter_le (fun c=>decide (mixC ns ts p c > 0)) (cI p.toNat (coinN ns ts))
    have e:(cgtL ns ts p).length<=(cI p.toNat (coinN ns ts)).length:=this
    omega
   clear S4 S5 S03 hrs TC rl al a130 r0 hD hsa3 hsb3 TS3 G3 hg hd d0
   refine ⟨_,rfl,(by show 0<=sizeLine; decide),fun e0 he0=>?_⟩
   have I6:=Same.new he0 (.lst [])
   have g6:upd H5 e0 (.lst []) e0=some (.lst []):=upd_same
   generalize upd H5 e0 (.lst [])=H6 at I6 g6
   have hl6:=I6 _ _ hl5
   have TY6:=TY.mono (au I6)
   refine ⟨_,_,.lst (SqL.of hl6) TY6.rep,.lst (SqL.of g6) .nil,tups_shaped _,nil_shaped,_,rfl,?_⟩
   rw [eqv_tups]
   have G6:=G5.same I6
   have S06:=S05.trans I6
   have hsa6:=I6 _ _ hsa5
   clear hl5 TY G5 S05 hsa5 I6 g6
   cases ecg:cgtL ns ts p with
   | nil =>
     rw [decide_eq_true rfl]
     refine iteF ?_
     refine ⟨a,_,sa,sb,g,D,.non,ns,ts,p,rfl,⟨ys,hl6,yl⟩,by rw [ecg]; rfl,G6,SG,p130,fun H7 S7=>⟨_,_,_,_,_,_,_,rfl,S0.trans (S06.trans S7)⟩⟩
   | cons c0 cr =>
     rw [decide_eq_false (List.cons_ne_nil _ _)]
     refine iteT ?_
     obtain ⟨cl0,co0,mx0⟩:=cgm c0 (by rw [ecg]; exact List.mem_cons_self)
     rw [ecg] at TY6
     cases TY6 with
     | @cons v0 _ vr _ h0 hr0 =>
     obtain ⟨b0,rfl,hb0⟩:=h0
     refine ⟨_,rfl,D,_,0,_,rfl,rfl,SqL.of hl6,at0 ..,?_⟩
     refine ⟨_,rfl,rfl,fun h H7 S7 hh=>?_⟩
     refine ⟨_,rfl,b0,_,rfl,.inr (SqT.of (S7 _ _ hb0)),fun l8 hl8=>?_⟩
     have I8:=Same.new hl8 (.lst (c0.map V.int))
     have g8:upd H7 l8 (.lst (c0.map V.int)) l8=some (.lst (c0.map V.int)):=upd_same
     generalize upd H7 l8 (.lst (c0.map V.int))=H8 at I8 g8
     have S68:=S7.trans I8
     have cnl:ns.length+(if 1 < ts.length then 1 else 0)<=c0.length:=by
      rw [cl0]
      unfold coinN
      split <;> split <;> omega
     refine ⟨g,h,l8,[],[],ns,ts,p,c0,rfl,G6.same S68,k,by omega,I8 _ _ hh,⟨rfl,fun i v r h=>by cases h⟩,rfl,.inl g8,co0,cnl,by omega,fun a9 H9 S9 Td=>?_⟩
     obtain ⟨b9,c9,vs9,h91,h92,h93,h94⟩:=Td.ex
     have S69:=S68.trans S9
     rw [idle_end k (by omega) co0 cl0,if_neg (by omega)] at h94
     refine ⟨a9,_,1,_,rfl,rfl,SqT.of h91,cL (j:=1) rfl,?_⟩
     refine ⟨_,rfl,sa,_,rfl,.inr (SqT.of (S69 _ _ hsa6)),_,_,rfl,rfl,(by show 2<=sizeLine; decide),fun a10 h10=>?_⟩
     have I10:=Same.new h10 (.tup [.str "caught", .int (((ns.map V.str).length:Int)+1)])
     have g10:upd H9 a10 (.tup [.str "caught", .int (((ns.map V.str).length:Int)+1)]) a10=some (.tup (awV (("caught" : Str),some ((ns.length:Int)+1)))):=by
      rw [upd_same,List.length_map]
      rfl
     generalize upd H9 a10 (.tup [.str "caught", .int (((ns.map V.str).length:Int)+1)])=H10 at I10 g10
     refine ⟨_,_,rep_aw (I10 _ _ h94),rep_aw g10,shaped_aw (.inr (.inr (.inl rfl))),shaped_aw (.inr (.inr (.inl rfl))),_,rfl,?_⟩
     rw [eqv_aw,decide_eq_true rfl]
     refine iteF ?_
     have S610:=S69.trans I10
     refine ⟨a,_,sa,sb,g,D,.ref b0,ns,ts,p,rfl,⟨_,S610 _ _ hl6,yl⟩,?_,G6.same S610,SG,p130,fun H11 S11=>⟨_,_,_,_,_,_,_,rfl,S0.trans (S06.trans (S610.trans S11))⟩⟩
     rw [ecg]
     exact ⟨b0,rfl,S610 _ _ hb0⟩
 . rintro σ H0 ⟨x1,x2,x3,x4,x5,x6,x7,rfl,S0⟩
   exact q H0
end
end
theorem all_mk {l:PySem.W.OpenLaw} {w:World} {K:W.Frag} {h:Heap} {mg:Str->Option Value} {fa f0 f1 f2 f3 f4 f5 f6 f7 f8 f9 f10 f11 f12 f13 f14 f15 f16 f17 f18 f19 f20 f21 f22 f23 f24 f25 f26 f27 f28 f29 f30 f31 f32 f33 f34 f35 f36 f37 f38 f39 f40 f41:Addr} (X:K.In h) (G:h.Ns mainGlobals mg) (hfa:mg "law" = some (.ref fa))
 {od0 an0 od1 an1 od2 an2 od3 an3 od4 an4 od5 an5 od6 an6 od7 an7 od8 an8 od9 an9 od10 an10 od11 an11 od12 an12 od13 an13 od14 an14 od15 an15 od16 an16 od17 an17 od18 an18 od19 an19 od20 an20 od21 an21 od22 an22 od23 an23 od24 an24 od25 an25 od26 an26 od27 an27 od28 an28 od29 an29 od30 an30 od31 an31 od32 an32 od33 an33 od34 an34 od35 an35 od36 an36 od37 an37 od38 an38 od39 an39 od40 an40 od41 an41:Option Addr} {sl0 sl1 sl2 sl3 sl4 sl5 sl6 sl7 sl8 sl9 sl10 sl11 sl12 sl13 sl14 sl15 sl16 sl17 sl18 sl19 sl20 sl21 sl22 sl23 sl24 sl25 sl26 sl27 sl28 sl29 sl30 sl31 sl32 sl33 sl34 sl35 sl36 sl37 sl38 sl39 sl40 sl41:Array (Option Value)} {oc0 kV0 dc0 pm0 cd0 ct0 oc1 kV1 dc1 pm1 cd1 ct1 oc2 kV2 dc2 pm2 cd2 ct2 oc3 kV3 dc3 pm3 cd3 ct3 oc4 kV4 dc4 pm4 cd4 ct4 oc5 kV5 dc5 pm5 cd5 ct5 oc6 kV6 dc6 pm6 cd6 ct6 oc7 kV7 dc7 pm7 cd7 ct7 oc8 kV8 dc8 pm8 cd8 ct8 oc9 kV9 dc9 pm9 cd9 ct9 oc10 kV10 dc10 pm10 cd10 ct10 oc11 kV11 dc11 pm11 cd11 ct11 oc12 kV12 dc12 pm12 cd12 ct12 oc13 kV13 dc13 pm13 cd13 ct13 oc14 kV14 dc14 pm14 cd14 ct14 oc15 kV15 dc15 pm15 cd15 ct15 oc16 kV16 dc16 pm16 cd16 ct16 oc17 kV17 dc17 pm17 cd17 ct17 oc18 kV18 dc18 pm18 cd18 ct18 oc19 kV19 dc19 pm19 cd19 ct19 oc20 kV20 dc20 pm20 cd20 ct20 oc21 kV21 dc21 pm21 cd21 ct21 oc22 kV22 dc22 pm22 cd22 ct22 oc23 kV23 dc23 pm23 cd23 ct23 oc24 kV24 dc24 pm24 cd24 ct24 oc25 kV25 dc25 pm25 cd25 ct25 oc26 kV26 dc26 pm26 cd26 ct26 oc27 kV27 dc27 pm27 cd27 ct27 oc28 kV28 dc28 pm28 cd28 ct28 oc29 kV29 dc29 pm29 cd29 ct29 oc30 kV30 dc30 pm30 cd30 ct30 oc31 kV31 dc31 pm31 cd31 ct31 oc32 kV32 dc32 pm32 cd32 ct32 oc33 kV33 dc33 pm33 cd33 ct33 oc34 kV34 dc34 pm34 cd34 ct34 oc35 kV35 dc35 pm35 cd35 ct35 oc36 kV36 dc36 pm36 cd36 ct36 oc37 kV37 dc37 pm37 cd37 ct37 oc38 kV38 dc38 pm38 cd38 ct38 oc39 kV39 dc39 pm39 cd39 ct39 oc40 kV40 dc40 pm40 cd40 ct40 oc41 kV41 dc41 pm41 cd41 ct41:Value}
 (a0:W.nsIn K mainGlobals "power" = some (some (.ref f0))) (l0:K.lookup f0=some ⟨oc0,od0,.func (W.fnOf "power" "power" (az s_power) (ay s_power) (af s_power) .none kV0 dc0 pm0 an0 cd0 ct0),sl0⟩) (c0:W.codeIn K cd0 "power" = true) (k0:W.keepIn K (.ref f0)=true)
 (a1:W.nsIn K mainGlobals "rows_of_coins" = some (some (.ref f1))) (l1:K.lookup f1=some ⟨oc1,od1,.func (W.fnOf "rows_of_coins" "rows_of_coins" (az cj) (ay cj) (af cj) .none kV1 dc1 pm1 an1 cd1 ct1),sl1⟩) (c1:W.codeIn K cd1 "rows_of_coins" = true) (k1:W.keepIn K (.ref f1)=true)
 (a2:W.nsIn K mainGlobals "trees_within" = some (some (.ref f2))) (l2:K.lookup f2=some ⟨oc2,od2,.func (W.fnOf "trees_within" "trees_within" (az cD) (ay cD) (af cD) .none kV2 dc2 pm2 an2 cd2 ct2),sl2⟩) (c2:W.codeIn K cd2 "trees_within" = true) (k2:W.keepIn K (.ref f2)=true)
 (a3:W.nsIn K mainGlobals "size_of" = some (some (.ref f3))) (l3:K.lookup f3=some ⟨oc3,od3,.func (W.fnOf "size_of" "size_of" (az s_size_of) (ay s_size_of) (af s_size_of) .none kV3 dc3 pm3 an3 cd3 ct3),sl3⟩) (c3:W.codeIn K cd3 "size_of" = true) (k3:W.keepIn K (.ref f3)=true)
 (a4:W.nsIn K mainGlobals "names_in" = some (some (.ref f4))) (l4:K.lookup f4=some ⟨oc4,od4,.func (W.fnOf "names_in" "names_in" (az dz) (ay dz) (af dz) .none kV4 dc4 pm4 an4 cd4 ct4),sl4⟩) (c4:W.codeIn K cd4 "names_in" = true) (k4:W.keepIn K (.ref f4)=true)
 (a5:W.nsIn K mainGlobals "idle" = some (some (.ref f5))) (l5:K.lookup f5=some ⟨oc5,od5,.func (W.fnOf "idle" "idle" (az s_idle) (ay s_idle) (af s_idle) .none kV5 dc5 pm5 an5 cd5 ct5),sl5⟩) (c5:W.codeIn K cd5 "idle" = true) (k5:W.keepIn K (.ref f5)=true)
 (a6:W.nsIn K mainGlobals "is_field" = some (some (.ref f6))) (l6:K.lookup f6=some ⟨oc6,od6,.func (W.fnOf "is_field" "is_field" (az s_is_field) (ay s_is_field) (af s_is_field) .none kV6 dc6 pm6 an6 cd6 ct6),sl6⟩) (c6:W.codeIn K cd6 "is_field" = true) (k6:W.keepIn K (.ref f6)=true)
 (a7:W.nsIn K mainGlobals "inverse_of" = some (some (.ref f7))) (l7:K.lookup f7=some ⟨oc7,od7,.func (W.fnOf "inverse_of" "inverse_of" (az db) (ay db) (af db) .none kV7 dc7 pm7 an7 cd7 ct7),sl7⟩) (c7:W.codeIn K cd7 "inverse_of" = true) (k7:W.keepIn K (.ref f7)=true)
 (a8:W.nsIn K mainGlobals "is_number" = some (some (.ref f8))) (l8:K.lookup f8=some ⟨oc8,od8,.func (W.fnOf "is_number" "is_number" (az dG) (ay dG) (af dG) .none kV8 dc8 pm8 an8 cd8 ct8),sl8⟩) (c8:W.codeIn K cd8 "is_number" = true) (k8:W.keepIn K (.ref f8)=true)
 (a9:W.nsIn K mainGlobals "worth_of" = some (some (.ref f9))) (l9:K.lookup f9=some ⟨oc9,od9,.func (W.fnOf "worth_of" "worth_of" (az dy) (ay dy) (af dy) .none kV9 dc9 pm9 an9 cd9 ct9),sl9⟩) (c9:W.codeIn K cd9 "worth_of" = true) (k9:W.keepIn K (.ref f9)=true)
 (a10:W.nsIn K mainGlobals "joined_worth" = some (some (.ref f10))) (l10:K.lookup f10=some ⟨oc10,od10,.func (W.fnOf "joined_worth" "joined_worth" (az cE) (ay cE) (af cE) .none kV10 dc10 pm10 an10 cd10 ct10),sl10⟩) (c10:W.codeIn K cd10 "joined_worth" = true) (k10:W.keepIn K (.ref f10)=true)
 (a11:W.nsIn K mainGlobals "degree_of" = some (some (.ref f11))) (l11:K.lookup f11=some ⟨oc11,od11,.func (W.fnOf "degree_of" "degree_of" (az dI) (ay dI) (af dI) .none kV11 dc11 pm11 an11 cd11 ct11),sl11⟩) (c11:W.codeIn K cd11 "degree_of" = true) (k11:W.keepIn K (.ref f11)=true)
 (a12:W.nsIn K mainGlobals "look_switches" = some (some (.ref f12))) (l12:K.lookup f12=some ⟨oc12,od12,.func (W.fnOf "look_switches" "look_switches" (az cq) (ay cq) (af cq) .none kV12 dc12 pm12 an12 cd12 ct12),sl12⟩) (c12:W.codeIn K cd12 "look_switches" = true) (k12:W.keepIn K (.ref f12)=true)
 (a13:W.nsIn K mainGlobals "look_names" = some (some (.ref f13))) (l13:K.lookup f13=some ⟨oc13,od13,.func (W.fnOf "look_names" "look_names" (az cY) (ay cY) (af cY) .none kV13 dc13 pm13 an13 cd13 ct13),sl13⟩) (c13:W.codeIn K cd13 "look_names" = true) (k13:W.keepIn K (.ref f13)=true)
 (a14:W.nsIn K mainGlobals "look_field" = some (some (.ref f14))) (l14:K.lookup f14=some ⟨oc14,od14,.func (W.fnOf "look_field" "look_field" (az cZ) (ay cZ) (af cZ) .none kV14 dc14 pm14 an14 cd14 ct14),sl14⟩) (c14:W.codeIn K cd14 "look_field" = true) (k14:W.keepIn K (.ref f14)=true)
 (a15:W.nsIn K mainGlobals "look_size" = some (some (.ref f15))) (l15:K.lookup f15=some ⟨oc15,od15,.func (W.fnOf "look_size" "look_size" (az dF) (ay dF) (af dF) .none kV15 dc15 pm15 an15 cd15 ct15),sl15⟩) (c15:W.codeIn K cd15 "look_size" = true) (k15:W.keepIn K (.ref f15)=true)
 (a16:W.nsIn K mainGlobals "value_at" = some (some (.ref f16))) (l16:K.lookup f16=some ⟨oc16,od16,.func (W.fnOf "value_at" "value_at" (az s_value_at) (ay s_value_at) (af s_value_at) .none kV16 dc16 pm16 an16 cd16 ct16),sl16⟩) (c16:W.codeIn K cd16 "value_at" = true) (k16:W.keepIn K (.ref f16)=true)
 (a17:W.nsIn K mainGlobals "both_ends" = some (some (.ref f17))) (l17:K.lookup f17=some ⟨oc17,od17,.func (W.fnOf "both_ends" "both_ends" (az dJ) (ay dJ) (af dJ) .none kV17 dc17 pm17 an17 cd17 ct17),sl17⟩) (c17:W.codeIn K cd17 "both_ends" = true) (k17:W.keepIn K (.ref f17)=true)
 (a18:W.nsIn K mainGlobals "value_behind" = some (some (.ref f18))) (l18:K.lookup f18=some ⟨oc18,od18,.func (W.fnOf "value_behind" "value_behind" (az cB) (ay cB) (af cB) .none kV18 dc18 pm18 an18 cd18 ct18),sl18⟩) (c18:W.codeIn K cd18 "value_behind" = true) (k18:W.keepIn K (.ref f18)=true)
 (a19:W.nsIn K mainGlobals "products" = some (some (.ref f19))) (l19:K.lookup f19=some ⟨oc19,od19,.func (W.fnOf "products" "products" (az s_products) (ay s_products) (af s_products) .none kV19 dc19 pm19 an19 cd19 ct19),sl19⟩) (c19:W.codeIn K cd19 "products" = true) (k19:W.keepIn K (.ref f19)=true)
 (a20:W.nsIn K mainGlobals "inverse_factorials" = some (some (.ref f20))) (l20:K.lookup f20=some ⟨oc20,od20,.func (W.fnOf "inverse_factorials" "inverse_factorials" (az bu) (ay bu) (af bu) .none kV20 dc20 pm20 an20 cd20 ct20),sl20⟩) (c20:W.codeIn K cd20 "inverse_factorials" = true) (k20:W.keepIn K (.ref f20)=true)
 (a21:W.nsIn K mainGlobals "all_sizes" = some (some (.ref f21))) (l21:K.lookup f21=some ⟨oc21,od21,.func (W.fnOf "all_sizes" "all_sizes" (az dL) (ay dL) (af dL) .none kV21 dc21 pm21 an21 cd21 ct21),sl21⟩) (c21:W.codeIn K cd21 "all_sizes" = true) (k21:W.keepIn K (.ref f21)=true)
 (a22:W.nsIn K mainGlobals "asked_once" = some (some (.ref f22))) (l22:K.lookup f22=some ⟨oc22,od22,.func (W.fnOf "asked_once" "asked_once" (az dc) (ay dc) (af dc) .none kV22 dc22 pm22 an22 cd22 ct22),sl22⟩) (c22:W.codeIn K cd22 "asked_once" = true) (k22:W.keepIn K (.ref f22)=true)
 (a23:W.nsIn K mainGlobals "talked" = some (some (.ref f23))) (l23:K.lookup f23=some ⟨oc23,od23,.func (W.fnOf "talked" "talked" (az s_talked) (ay s_talked) (af s_talked) .none kV23 dc23 pm23 an23 cd23 ct23),sl23⟩) (c23:W.codeIn K cd23 "talked" = true) (k23:W.keepIn K (.ref f23)=true)
 (a24:W.nsIn K mainGlobals "weighed" = some (some (.ref f24))) (l24:K.lookup f24=some ⟨oc24,od24,.func (W.fnOf "weighed" "weighed" (az s_weighed) (ay s_weighed) (af s_weighed) .none kV24 dc24 pm24 an24 cd24 ct24),sl24⟩) (c24:W.codeIn K cd24 "weighed" = true) (k24:W.keepIn K (.ref f24)=true)
 (a25:W.nsIn K mainGlobals "weighed_behind" = some (some (.ref f25))) (l25:K.lookup f25=some ⟨oc25,od25,.func (W.fnOf "weighed_behind" "weighed_behind" (az bK) (ay bK) (af bK) .none kV25 dc25 pm25 an25 cd25 ct25),sl25⟩) (c25:W.codeIn K cd25 "weighed_behind" = true) (k25:W.keepIn K (.ref f25)=true)
 (a26:W.nsIn K mainGlobals "first_row" = some (some (.ref f26))) (l26:K.lookup f26=some ⟨oc26,od26,.func (W.fnOf "first_row" "first_row" (az dH) (ay dH) (af dH) .none kV26 dc26 pm26 an26 cd26 ct26),sl26⟩) (c26:W.codeIn K cd26 "first_row" = true) (k26:W.keepIn K (.ref f26)=true)
 (a27:W.nsIn K mainGlobals "_law_power" = some (some (.ref f27))) (l27:K.lookup f27=some ⟨oc27,od27,.func (W.fnOf "_law_power" "_law_power" (az s_l_power) (ay s_l_power) (af s_l_power) .none kV27 dc27 pm27 an27 cd27 ct27),sl27⟩) (c27:W.codeIn K cd27 "_law_power" = true) (k27:W.keepIn K (.ref f27)=true)
 (a28:W.nsIn K mainGlobals "_law_feed" = some (some (.ref f28))) (l28:K.lookup f28=some ⟨oc28,od28,.func (W.fnOf "_law_feed" "_law_feed" (az s_l_feed) (ay s_l_feed) (af s_l_feed) .none kV28 dc28 pm28 an28 cd28 ct28),sl28⟩) (c28:W.codeIn K cd28 "_law_feed" = true) (k28:W.keepIn K (.ref f28)=true)
 (a29:W.nsIn K mainGlobals "_law_take" = some (some (.ref f29))) (l29:K.lookup f29=some ⟨oc29,od29,.func (W.fnOf "_law_take" "_law_take" (az s_l_take) (ay s_l_take) (af s_l_take) .none kV29 dc29 pm29 an29 cd29 ct29),sl29⟩) (c29:W.codeIn K cd29 "_law_take" = true) (k29:W.keepIn K (.ref f29)=true)
 (a30:W.nsIn K mainGlobals "_law_names" = some (some (.ref f30))) (l30:K.lookup f30=some ⟨oc30,od30,.func (W.fnOf "_law_names" "_law_names" (az bj) (ay bj) (af bj) .none kV30 dc30 pm30 an30 cd30 ct30),sl30⟩) (c30:W.codeIn K cd30 "_law_names" = true) (k30:W.keepIn K (.ref f30)=true)
 (a31:W.nsIn K mainGlobals "_law_tree" = some (some (.ref f31))) (l31:K.lookup f31=some ⟨oc31,od31,.func (W.fnOf "_law_tree" "_law_tree" (az s_l_tree) (ay s_l_tree) (af s_l_tree) .none kV31 dc31 pm31 an31 cd31 ct31),sl31⟩) (c31:W.codeIn K cd31 "_law_tree" = true) (k31:W.keepIn K (.ref f31)=true)
 (a32:W.nsIn K mainGlobals "_law_names_of" = some (some (.ref f32))) (l32:K.lookup f32=some ⟨oc32,od32,.func (W.fnOf "_law_names_of" "_law_names_of" (az cJ) (ay cJ) (af cJ) .none kV32 dc32 pm32 an32 cd32 ct32),sl32⟩) (c32:W.codeIn K cd32 "_law_names_of" = true) (k32:W.keepIn K (.ref f32)=true)
 (a33:W.nsIn K mainGlobals "_law_need" = some (some (.ref f33))) (l33:K.lookup f33=some ⟨oc33,od33,.func (W.fnOf "_law_need" "_law_need" (az s_l_need) (ay s_l_need) (af s_l_need) .none kV33 dc33 pm33 an33 cd33 ct33),sl33⟩) (c33:W.codeIn K cd33 "_law_need" = true) (k33:W.keepIn K (.ref f33)=true)
 (a34:W.nsIn K mainGlobals "_law_is_prime" = some (some (.ref f34))) (l34:K.lookup f34=some ⟨oc34,od34,.func (W.fnOf "_law_is_prime" "_law_is_prime" (az da) (ay da) (af da) .none kV34 dc34 pm34 an34 cd34 ct34),sl34⟩) (c34:W.codeIn K cd34 "_law_is_prime" = true) (k34:W.keepIn K (.ref f34)=true)
 (a35:W.nsIn K mainGlobals "_law_without" = some (some (.ref f35))) (l35:K.lookup f35=some ⟨oc35,od35,.func (W.fnOf "_law_without" "_law_without" (az cV) (ay cV) (af cV) .none kV35 dc35 pm35 an35 cd35 ct35),sl35⟩) (c35:W.codeIn K cd35 "_law_without" = true) (k35:W.keepIn K (.ref f35)=true)
 (a36:W.nsIn K mainGlobals "_law_small" = some (some (.ref f36))) (l36:K.lookup f36=some ⟨oc36,od36,.func (W.fnOf "_law_small" "_law_small" (az s_l_small) (ay s_l_small) (af s_l_small) .none kV36 dc36 pm36 an36 cd36 ct36),sl36⟩) (c36:W.codeIn K cd36 "_law_small" = true) (k36:W.keepIn K (.ref f36)=true)
 (a37:W.nsIn K mainGlobals "_law_least" = some (some (.ref f37))) (l37:K.lookup f37=some ⟨oc37,od37,.func (W.fnOf "_law_least" "_law_least" (az s_l_least) (ay s_l_least) (af s_l_least) .none kV37 dc37 pm37 an37 cd37 ct37),sl37⟩) (c37:W.codeIn K cd37 "_law_least" = true) (k37:W.keepIn K (.ref f37)=true)
 (a38:W.nsIn K mainGlobals "_law_worth" = some (some (.ref f38))) (l38:K.lookup f38=some ⟨oc38,od38,.func (W.fnOf "_law_worth" "_law_worth" (az s_l_worth) (ay s_l_worth) (af s_l_worth) .none kV38 dc38 pm38 an38 cd38 ct38),sl38⟩) (c38:W.codeIn K cd38 "_law_worth" = true) (k38:W.keepIn K (.ref f38)=true)
 (a39:W.nsIn K mainGlobals "_law_all_coins" = some (some (.ref f39))) (l39:K.lookup f39=some ⟨oc39,od39,.func (W.fnOf "_law_all_coins" "_law_all_coins" (az cQ) (ay cQ) (af cQ) .none kV39 dc39 pm39 an39 cd39 ct39),sl39⟩) (c39:W.codeIn K cd39 "_law_all_coins" = true) (k39:W.keepIn K (.ref f39)=true)
 (a40:W.nsIn K mainGlobals "_law_mixed" = some (some (.ref f40))) (l40:K.lookup f40=some ⟨oc40,od40,.func (W.fnOf "_law_mixed" "_law_mixed" (az s_l_mixed) (ay s_l_mixed) (af s_l_mixed) .none kV40 dc40 pm40 an40 cd40 ct40),sl40⟩) (c40:W.codeIn K cd40 "_law_mixed" = true) (k40:W.keepIn K (.ref f40)=true)
 (a41:W.nsIn K mainGlobals "law" = some (some (.ref f41))) (l41:K.lookup f41=some ⟨oc41,od41,.func (W.fnOf "law" "law" (az s_law) (ay s_law) (af s_law) .none kV41 dc41 pm41 an41 cd41 ct41),sl41⟩) (c41:W.codeIn K cd41 "law" = true) (k41:W.keepIn K (.ref f41)=true)
 {CG gmgI gmgM gmgW gmgC:Addr} {gmodI gmanI gmodM gmanM gmodW gmanW gmodC gmanC:Option Addr} {gmslI gmslM gmslW gmslC:Array (Option Value)} {gmocI gmkVI gmdcI gmpmI gmcdI gmctI gmocM gmkVM gmdcM gmpmM gmcdM gmctM gmocW gmkVW gmdcW gmpmW gmcdW gmctW gmocC gmkVC gmdcC gmpmC gmcdC gmctC:Value}
 {C dbgI dbgW dbgU dbgH dbgT dbgC dbgB dbgR dbgG dbgE dbgN:Addr} {dbodI dbanI dbodW dbanW dbodU dbanU dbodH dbanH dbodT dbanT dbodC dbanC dbodB dbanB dbodR dbanR dbodG dbanG dbodE dbanE dbodN dbanN:Option Addr} {dbslI dbslW dbslU dbslH dbslT dbslC dbslB dbslR dbslG dbslE dbslN:Array (Option Value)} {dbocI dbkVI dbdcI dbpmI dbcdI dbctI dbocW dbkVW dbdcW dbpmW dbcdW dbctW dbocU dbkVU dbdcU dbpmU dbcdU dbctU dbocH dbkVH dbdcH dbpmH dbcdH dbctH dbocT dbkVT dbdcT dbpmT dbcdT dbctT dbocC dbkVC dbdcC dbpmC dbcdC dbctC dbocB dbkVB dbdcB dbpmB dbcdB dbctB dbocR dbkVR dbdcR dbpmR dbcdR dbctR dbocG dbkVG dbdcG dbpmG dbcdG dbctG dbocE dbkVE dbdcE dbpmE dbcdE dbctE dbocN dbkVN dbdcN dbpmN dbcdN dbctN:Value}
 {CA asgI:Addr} {asodI asanI:Option Addr} {asslI:Array (Option Value)} {asocI askVI asdcI aspmI ascdI asctI:Value}
 {CM mcgI mcgS mcgR mcgN:Addr} {mcodI mcanI mcodS mcanS mcodR mcanR mcodN mcanN:Option Addr} {mcslI mcslS mcslR mcslN:Array (Option Value)} {mcocI mckVI mcdcI mcpmI mccdI mcctI mcocS mckVS mcdcS mcpmS mccdS mcctS mcocR mckVR mcdcR mcpmR mccdR mcctR mcocN mckVN mcdcN mcpmN mccdN mcctN:Value}
 {te tm tr:Tok}
 (gmgg:W.nsIn K mainGlobals "Game" = some (some (.ref CG)))
 (gmaI:W.findIn K (.ref CG) "__init__" = some (some (.ref gmgI)))
 (gmiI:W.isFn K (.ref gmgI)=true)
 (gmlI:K.lookup gmgI=some ⟨gmocI,gmodI,.func (W.fnOf "__init__" "Game.__init__" (az s_ginit) (ay s_ginit) (af s_ginit) .none gmkVI gmdcI gmpmI gmanI gmcdI gmctI),gmslI⟩)
 (gmcI:W.codeIn K gmcdI "Game.__init__" = true)
 (gmkI:W.keepIn K (.ref gmgI)=true)
 (gmaM:W.findIn K (.ref CG) "mix" = some (some (.ref gmgM)))
 (gmiM:W.isFn K (.ref gmgM)=true)
 (gmlM:K.lookup gmgM=some ⟨gmocM,gmodM,.func (W.fnOf "mix" "Game.mix" (az s_gmix) (ay s_gmix) (af s_gmix) .none gmkVM gmdcM gmpmM gmanM gmcdM gmctM),gmslM⟩)
 (gmcM:W.codeIn K gmcdM "Game.mix" = true)
 (gmkM:W.keepIn K (.ref gmgM)=true)
 (gmaW:W.findIn K (.ref CG) "worth_at" = some (some (.ref gmgW)))
 (gmiW:W.isFn K (.ref gmgW)=true)
 (gmlW:K.lookup gmgW=some ⟨gmocW,gmodW,.func (W.fnOf "worth_at" "Game.worth_at" (az s_gworth) (ay s_gworth) (af s_gworth) .none gmkVW gmdcW gmpmW gmanW gmcdW gmctW),gmslW⟩)
 (gmcW:W.codeIn K gmcdW "Game.worth_at" = true)
 (gmkW:W.keepIn K (.ref gmgW)=true)
 (gmaC:W.findIn K (.ref CG) "coins" = some (some (.ref gmgC)))
 (gmiC:W.isFn K (.ref gmgC)=true)
 (gmlC:K.lookup gmgC=some ⟨gmocC,gmodC,.func (W.fnOf "coins" "Game.coins" (az s_gcoins) (ay s_gcoins) (af s_gcoins) .none gmkVC gmdcC gmpmC gmanC gmcdC gmctC),gmslC⟩)
 (gmcC:W.codeIn K gmcdC "Game.coins" = true)
 (gmkC:W.keepIn K (.ref gmgC)=true)
 (gmpg:W.plainGet K CG Str.empty=true)
 (gmhdi:W.hasDictIn K CG=true)
 (gmpov:W.plainOver K CG=true)
 (gmsat:W.findIn K (.ref CG) "__setattr__" = some (some (.builtin "object.__setattr__")))
 (gmmki:W.makesIn K CG=true)
 (gmkcl:W.keepIn K (.ref CG)=true)
 (gmn_switches:W.findIn K (.ref CG) "switches" = some none)
 (gmn_trees:W.findIn K (.ref CG) "trees" = some none)
 (gmn_field:W.findIn K (.ref CG) "field" = some none)
 (gmn_degrees:W.findIn K (.ref CG) "degrees" = some none)
 (dbgg:W.nsIn K mainGlobals "Doubter" = some (some (.ref C)))
 (dbaI:W.findIn K (.ref C) "__init__" = some (some (.ref dbgI)))
 (dbiI:W.isFn K (.ref dbgI)=true)
 (dblI:K.lookup dbgI=some ⟨dbocI,dbodI,.func (W.fnOf "__init__" "Doubter.__init__" (az s_dinit) (ay s_dinit) (af s_dinit) .none dbkVI dbdcI dbpmI dbanI dbcdI dbctI),dbslI⟩)
 (dbcI:W.codeIn K dbcdI "Doubter.__init__" = true)
 (dbkI:W.keepIn K (.ref dbgI)=true)
 (dbaW:W.findIn K (.ref C) "waits" = some (some (.ref dbgW)))
 (dbiW:W.isFn K (.ref dbgW)=true)
 (dblW:K.lookup dbgW=some ⟨dbocW,dbodW,.func (W.fnOf "waits" "Doubter.waits" (az s_dwaits) (ay s_dwaits) (af s_dwaits) .none dbkVW dbdcW dbpmW dbanW dbcdW dbctW),dbslW⟩)
 (dbcW:W.codeIn K dbcdW "Doubter.waits" = true)
 (dbkW:W.keepIn K (.ref dbgW)=true)
 (dbaU:W.findIn K (.ref C) "due" = some (some (.ref dbgU)))
 (dbiU:W.isFn K (.ref dbgU)=true)
 (dblU:K.lookup dbgU=some ⟨dbocU,dbodU,.func (W.fnOf "due" "Doubter.due" (az s_ddue) (ay s_ddue) (af s_ddue) .none dbkVU dbdcU dbpmU dbanU dbcdU dbctU),dbslU⟩)
 (dbcU:W.codeIn K dbcdU "Doubter.due" = true)
 (dbkU:W.keepIn K (.ref dbgU)=true)
 (dbaH:W.findIn K (.ref C) "hear" = some (some (.ref dbgH)))
 (dbiH:W.isFn K (.ref dbgH)=true)
 (dblH:K.lookup dbgH=some ⟨dbocH,dbodH,.func (W.fnOf "hear" "Doubter.hear" (az s_dhear) (ay s_dhear) (af s_dhear) .none dbkVH dbdcH dbpmH dbanH dbcdH dbctH),dbslH⟩)
 (dbcH:W.codeIn K dbcdH "Doubter.hear" = true)
 (dbkH:W.keepIn K (.ref dbgH)=true)
 (dbaT:W.findIn K (.ref C) "toss" = some (some (.ref dbgT)))
 (dbiT:W.isFn K (.ref dbgT)=true)
 (dblT:K.lookup dbgT=some ⟨dbocT,dbodT,.func (W.fnOf "toss" "Doubter.toss" (az s_dtoss) (ay s_dtoss) (af s_dtoss) .none dbkVT dbdcT dbpmT dbanT dbcdT dbctT),dbslT⟩)
 (dbcT:W.codeIn K dbcdT "Doubter.toss" = true)
 (dbkT:W.keepIn K (.ref dbgT)=true)
 (dbaC:W.findIn K (.ref C) "hear_claims" = some (some (.ref dbgC)))
 (dbiC:W.isFn K (.ref dbgC)=true)
 (dblC:K.lookup dbgC=some ⟨dbocC,dbodC,.func (W.fnOf "hear_claims" "Doubter.hear_claims" (az s_dclaims) (ay s_dclaims) (af s_dclaims) .none dbkVC dbdcC dbpmC dbanC dbcdC dbctC),dbslC⟩)
 (dbcC:W.codeIn K dbcdC "Doubter.hear_claims" = true)
 (dbkC:W.keepIn K (.ref dbgC)=true)
 (dbaB:W.findIn K (.ref C) "begin_rounds" = some (some (.ref dbgB)))
 (dbiB:W.isFn K (.ref dbgB)=true)
 (dblB:K.lookup dbgB=some ⟨dbocB,dbodB,.func (W.fnOf "begin_rounds" "Doubter.begin_rounds" (az s_dbegin) (ay s_dbegin) (af s_dbegin) .none dbkVB dbdcB dbpmB dbanB dbcdB dbctB),dbslB⟩)
 (dbcB:W.codeIn K dbcdB "Doubter.begin_rounds" = true)
 (dbkB:W.keepIn K (.ref dbgB)=true)
 (dbaR:W.findIn K (.ref C) "hear_row" = some (some (.ref dbgR)))
 (dbiR:W.isFn K (.ref dbgR)=true)
 (dblR:K.lookup dbgR=some ⟨dbocR,dbodR,.func (W.fnOf "hear_row" "Doubter.hear_row" (az s_drow) (ay s_drow) (af s_drow) .none dbkVR dbdcR dbpmR dbanR dbcdR dbctR),dbslR⟩)
 (dbcR:W.codeIn K dbcdR "Doubter.hear_row" = true)
 (dbkR:W.keepIn K (.ref dbgR)=true)
 (dbaG:W.findIn K (.ref C) "go_on" = some (some (.ref dbgG)))
 (dbiG:W.isFn K (.ref dbgG)=true)
 (dblG:K.lookup dbgG=some ⟨dbocG,dbodG,.func (W.fnOf "go_on" "Doubter.go_on" (az s_dgo) (ay s_dgo) (af s_dgo) .none dbkVG dbdcG dbpmG dbanG dbcdG dbctG),dbslG⟩)
 (dbcG:W.codeIn K dbcdG "Doubter.go_on" = true)
 (dbkG:W.keepIn K (.ref dbgG)=true)
 (dbaE:W.findIn K (.ref C) "look_at_trees" = some (some (.ref dbgE)))
 (dbiE:W.isFn K (.ref dbgE)=true)
 (dblE:K.lookup dbgE=some ⟨dbocE,dbodE,.func (W.fnOf "look_at_trees" "Doubter.look_at_trees" (az s_dtrees) (ay s_dtrees) (af s_dtrees) .none dbkVE dbdcE dbpmE dbanE dbcdE dbctE),dbslE⟩)
 (dbcE:W.codeIn K dbcdE "Doubter.look_at_trees" = true)
 (dbkE:W.keepIn K (.ref dbgE)=true)
 (dbaN:W.findIn K (.ref C) "twin" = some (some (.ref dbgN)))
 (dbiN:W.isFn K (.ref dbgN)=true)
 (dblN:K.lookup dbgN=some ⟨dbocN,dbodN,.func (W.fnOf "twin" "Doubter.twin" (az s_dtwin) (ay s_dtwin) (af s_dtwin) .none dbkVN dbdcN dbpmN dbanN dbcdN dbctN),dbslN⟩)
 (dbcN:W.codeIn K dbcdN "Doubter.twin" = true)
 (dbkN:W.keepIn K (.ref dbgN)=true)
 (dbpg:W.plainGet K C Str.empty=true)
 (dbhdi:W.hasDictIn K C=true)
 (dbpov:W.plainOver K C=true)
 (dbsat:W.findIn K (.ref C) "__setattr__" = some (some (.builtin "object.__setattr__")))
 (dbmki:W.makesIn K C=true)
 (dbkcl:W.keepIn K (.ref C)=true)
 (dbn_game:W.findIn K (.ref C) "game" = some none)
 (dbn_awaited:W.findIn K (.ref C) "awaited" = some none)
 (dbn_claims:W.findIn K (.ref C) "claims" = some none)
 (dbn_s:W.findIn K (.ref C) "s" = some none)
 (dbn_heard:W.findIn K (.ref C) "heard" = some none)
 (dbn_tossed:W.findIn K (.ref C) "tossed" = some none)
 (dbn_held:W.findIn K (.ref C) "held" = some none)
 (dbn_places:W.findIn K (.ref C) "places" = some none)
 (asgg:W.nsIn K mainGlobals "Asking" = some (some (.ref CA)))
 (asaI:W.findIn K (.ref CA) "__init__" = some (some (.ref asgI)))
 (asiI:W.isFn K (.ref asgI)=true)
 (aslI:K.lookup asgI=some ⟨asocI,asodI,.func (W.fnOf "__init__" "Asking.__init__" (az s_ainit) (ay s_ainit) (af s_ainit) .none askVI asdcI aspmI asanI ascdI asctI),asslI⟩)
 (ascI:W.codeIn K ascdI "Asking.__init__" = true)
 (askI:W.keepIn K (.ref asgI)=true)
 (aspg:W.plainGet K CA Str.empty=true)
 (ashdi:W.hasDictIn K CA=true)
 (aspov:W.plainOver K CA=true)
 (assat:W.findIn K (.ref CA) "__setattr__" = some (some (.builtin "object.__setattr__")))
 (asmki:W.makesIn K CA=true)
 (askcl:W.keepIn K (.ref CA)=true)
 (asn_game:W.findIn K (.ref CA) "game" = some none)
 (asn_number:W.findIn K (.ref CA) "number" = some none)
 (asn_many:W.findIn K (.ref CA) "many" = some none)
 (asn_held:W.findIn K (.ref CA) "held" = some none)
 (asn_s:W.findIn K (.ref CA) "s" = some none)
 (asn_tossed:W.findIn K (.ref CA) "tossed" = some none)
 (asn_truths:W.findIn K (.ref CA) "truths" = some none)
 (mcgg:W.nsIn K mainGlobals "Machine" = some (some (.ref CM)))
 (mcaI:W.findIn K (.ref CM) "__init__" = some (some (.ref mcgI)))
 (mciI:W.isFn K (.ref mcgI)=true)
 (mclI:K.lookup mcgI=some ⟨mcocI,mcodI,.func (W.fnOf "__init__" "Machine.__init__" (az s_minit) (ay s_minit) (af s_minit) .none mckVI mcdcI mcpmI mcanI mccdI mcctI),mcslI⟩)
 (mccI:W.codeIn K mccdI "Machine.__init__" = true)
 (mckI:W.keepIn K (.ref mcgI)=true)
 (mcaS:W.findIn K (.ref CM) "say" = some (some (.ref mcgS)))
 (mciS:W.isFn K (.ref mcgS)=true)
 (mclS:K.lookup mcgS=some ⟨mcocS,mcodS,.func (W.fnOf "say" "Machine.say" (az s_msay) (ay s_msay) (af s_msay) .none mckVS mcdcS mcpmS mcanS mccdS mcctS),mcslS⟩)
 (mccS:W.codeIn K mccdS "Machine.say" = true)
 (mckS:W.keepIn K (.ref mcgS)=true)
 (mcaR:W.findIn K (.ref CM) "do_row" = some (some (.ref mcgR)))
 (mciR:W.isFn K (.ref mcgR)=true)
 (mclR:K.lookup mcgR=some ⟨mcocR,mcodR,.func (W.fnOf "do_row" "Machine.do_row" (az s_mrow) (ay s_mrow) (af s_mrow) .none mckVR mcdcR mcpmR mcanR mccdR mcctR),mcslR⟩)
 (mccR:W.codeIn K mccdR "Machine.do_row" = true)
 (mckR:W.keepIn K (.ref mcgR)=true)
 (mcaN:W.findIn K (.ref CM) "twin" = some (some (.ref mcgN)))
 (mciN:W.isFn K (.ref mcgN)=true)
 (mclN:K.lookup mcgN=some ⟨mcocN,mcodN,.func (W.fnOf "twin" "Machine.twin" (az s_mtwin) (ay s_mtwin) (af s_mtwin) .none mckVN mcdcN mcpmN mcanN mccdN mcctN),mcslN⟩)
 (mccN:W.codeIn K mccdN "Machine.twin" = true)
 (mckN:W.keepIn K (.ref mcgN)=true)
 (mcpg:W.plainGet K CM Str.empty=true)
 (mchdi:W.hasDictIn K CM=true)
 (mcpov:W.plainOver K CM=true)
 (mcsat:W.findIn K (.ref CM) "__setattr__" = some (some (.builtin "object.__setattr__")))
 (mcmki:W.makesIn K CM=true)
 (mckcl:W.keepIn K (.ref CM)=true)
 (mcn_game:W.findIn K (.ref CM) "game" = some none)
 (mcn_helper:W.findIn K (.ref CM) "helper" = some none)
 (mcn_next_round:W.findIn K (.ref CM) "next_round" = some none)
 (mcn_boxes:W.findIn K (.ref CM) "boxes" = some none)
 (gmr:W.nsIn K mainGlobals "MOST_ROWS" = some (some (.int 4000 tr)))
 (ge:W.nsIn K mainGlobals "FIELDS_END" = some (some (.int 1000000 te)))
 (gmo:W.nsIn K mainGlobals "MOST_ROWS_DONE" = some (some (.int 200 tm)))
 (z0:W.nsIn K mainGlobals "len" = some none) (z1:W.nsIn K mainGlobals "range" = some none) (z2:W.nsIn K mainGlobals "isinstance" = some none) (z3:W.nsIn K mainGlobals "int" = some none) (z4:W.nsIn K mainGlobals "bool" = some none) (z5:W.nsIn K mainGlobals "list" = some none) (z6:W.nsIn K mainGlobals "tuple" = some none) (z7:W.nsIn K mainGlobals "max" = some none) (z8:W.nsIn K mainGlobals "min" = some none) (z9:W.nsIn K mainGlobals "reversed" = some none) (z10:W.nsIn K mainGlobals "enumerate" = some none) (z11:W.nsIn K mainGlobals "sum" = some none) (z12:W.nsIn K mainGlobals "all" = some none) (z13:W.nsIn K mainGlobals "zip" = some none) (z14:W.nsIn K mainGlobals "dict" = some none) :
 ∃ fd:FuncData,(∀ (s:Shared) (v:Value),BindsTo s fd ⟨[v],[]⟩ [("_law_script", v)])/\∀ base:Heap,K.In base->base.Ns mainGlobals mg->FnOk l.prog w K mg base CX0 37 fa fd ["_law_script"] (spLaw K):=by
 have e:=hfa.symm.trans (W.mg_of X G a41)
 cases e
 have F_power:=aM (st:=s_power) l0 c0 k0
 have m_power:=W.mg_of X G a0
 have F_rows_of_coins:=aM (st:=cj) l1 c1 k1
 have m_rows_of_coins:=W.mg_of X G a1
 have F_trees_within:=aM (st:=cD) l2 c2 k2
 have m_trees_within:=W.mg_of X G a2
 have F_size_of:=aM (st:=s_size_of) l3 c3 k3
 have m_size_of:=W.mg_of X G a3
 have F_names_in:=aM (st:=dz) l4 c4 k4
 have m_names_in:=W.mg_of X G a4
 have F_idle:=aM (st:=s_idle) l5 c5 k5
 have m_idle:=W.mg_of X G a5
 have F_is_field:=aM (st:=s_is_field) l6 c6 k6
 have m_is_field:=W.mg_of X G a6
 have F_inverse_of:=aM (st:=db) l7 c7 k7
 have m_inverse_of:=W.mg_of X G a7
 have F_is_number:=aM (st:=dG) l8 c8 k8
 have m_is_number:=W.mg_of X G a8
 have F_worth_of:=aM (st:=dy) l9 c9 k9
 have m_worth_of:=W.mg_of X G a9
 have F_joined_worth:=aM (st:=cE) l10 c10 k10
 have m_joined_worth:=W.mg_of X G a10
 have F_degree_of:=aM (st:=dI) l11 c11 k11
 have m_degree_of:=W.mg_of X G a11
 have F_look_switches:=aM (st:=cq) l12 c12 k12
 have m_look_switches:=W.mg_of X G a12
 have F_look_names:=aM (st:=cY) l13 c13 k13
 have m_look_names:=W.mg_of X G a13
 have F_look_field:=aM (st:=cZ) l14 c14 k14
 have m_look_field:=W.mg_of X G a14
 have F_look_size:=aM (st:=dF) l15 c15 k15
 have m_look_size:=W.mg_of X G a15
 have F_value_at:=aM (st:=s_value_at) l16 c16 k16
 have m_value_at:=W.mg_of X G a16
 have F_both_ends:=aM (st:=dJ) l17 c17 k17
 have m_both_ends:=W.mg_of X G a17
 have F_value_behind:=aM (st:=cB) l18 c18 k18
 have m_value_behind:=W.mg_of X G a18
 have F_products:=aM (st:=s_products) l19 c19 k19
 have m_products:=W.mg_of X G a19
 have F_inverse_factorials:=aM (st:=bu) l20 c20 k20
 have m_inverse_factorials:=W.mg_of X G a20
 have F_all_sizes:=aM (st:=dL) l21 c21 k21
 have m_all_sizes:=W.mg_of X G a21
 have F_asked_once:=aM (st:=dc) l22 c22 k22
 have m_asked_once:=W.mg_of X G a22
 have F_talked:=aM (st:=s_talked) l23 c23 k23
 have m_talked:=W.mg_of X G a23
 have F_weighed:=aM (st:=s_weighed) l24 c24 k24
 have m_weighed:=W.mg_of X G a24
 have F_weighed_behind:=aM (st:=bK) l25 c25 k25
 have m_weighed_behind:=W.mg_of X G a25
 have F_first_row:=aM (st:=dH) l26 c26 k26
 have m_first_row:=W.mg_of X G a26
 have F_l_power:=aM (st:=s_l_power) l27 c27 k27
 have m_l_power:=W.mg_of X G a27
 have F_l_feed:=aM (st:=s_l_feed) l28 c28 k28
 have m_l_feed:=W.mg_of X G a28
 have F_l_take:=aM (st:=s_l_take) l29 c29 k29
 have m_l_take:=W.mg_of X G a29
 have F_l_names:=aM (st:=bj) l30 c30 k30
 have m_l_names:=W.mg_of X G a30
 have F_l_tree:=aM (st:=s_l_tree) l31 c31 k31
 have m_l_tree:=W.mg_of X G a31
 have F_l_names_of:=aM (st:=cJ) l32 c32 k32
 have m_l_names_of:=W.mg_of X G a32
 have F_l_need:=aM (st:=s_l_need) l33 c33 k33
 have m_l_need:=W.mg_of X G a33
 have F_l_is_prime:=aM (st:=da) l34 c34 k34
 have m_l_is_prime:=W.mg_of X G a34
 have F_l_without:=aM (st:=cV) l35 c35 k35
 have m_l_without:=W.mg_of X G a35
 have F_l_small:=aM (st:=s_l_small) l36 c36 k36
 have m_l_small:=W.mg_of X G a36
 have F_l_least:=aM (st:=s_l_least) l37 c37 k37
 have m_l_least:=W.mg_of X G a37
 have F_l_worth:=aM (st:=s_l_worth) l38 c38 k38
 have m_l_worth:=W.mg_of X G a38
 have F_l_all_coins:=aM (st:=cQ) l39 c39 k39
 have m_l_all_coins:=W.mg_of X G a39
 have F_l_mixed:=aM (st:=s_l_mixed) l40 c40 k40
 have m_l_mixed:=W.mg_of X G a40
 have F_law:=aM (st:=s_law) l41 c41 k41
 have B:Bl mg:=⟨W.mg_none_of X G z0,W.mg_none_of X G z1,W.mg_none_of X G z2,W.mg_none_of X G z3,W.mg_none_of X G z4,W.mg_none_of X G z5,W.mg_none_of X G z6,W.mg_none_of X G z7,W.mg_none_of X G z8,W.mg_none_of X G z9,W.mg_none_of X G z10,W.mg_none_of X G z11,W.mg_none_of X G z12,W.mg_none_of X G z13,W.mg_none_of X G z14⟩
 refine ⟨W.fnOf "law" "law" (az s_law) (ay s_law) (af s_law) .none kV41 dc41 pm41 an41 cd41 ct41,fun s v=>.of_eq rfl,fun base _ _=>?_⟩
 have TG:GTxt K mg CG:=⟨⟨gmpg,gmhdi,gmpov,gmsat⟩,gmn_switches,gmn_trees,gmn_field,gmn_degrees,W.mg_of X G gmgg⟩
 have T:DTxt K mg C:=⟨⟨dbpg,dbhdi,dbpov,dbsat⟩,dbn_game,dbn_awaited,dbn_claims,dbn_s,dbn_heard,dbn_tossed,dbn_held,dbn_places,W.mg_of X G dbgg⟩
 have TA:ATxt K mg CA:=⟨⟨aspg,ashdi,aspov,assat⟩,asn_game,asn_number,asn_many,asn_held,asn_s,asn_tossed,asn_truths,W.mg_of X G asgg⟩
 have TM:MTxt K mg CM:=⟨⟨mcpg,mchdi,mcpov,mcsat⟩,mcn_game,mcn_helper,mcn_next_round,mcn_boxes,W.mg_of X G mcgg⟩
 have F_gmI:=aM (st:=s_ginit) gmlI gmcI gmkI
 have b_gmI:=F_gmI.binds (ps:=["self", "switches", "trees", "field"]) fun _ _ _ _ _ _ us hl=>by obtain ⟨u0,u1,u2,u3,rfl⟩:=len4 hl; rfl
 have F_gmM:=aM (st:=s_gmix) gmlM gmcM gmkM
 have b_gmM:=F_gmM.binds (ps:=["self", "numbers", "s"]) fun _ _ _ _ _ _ us hl=>by obtain ⟨u0,u1,u2,rfl⟩:=len3 hl; rfl
 have m_gmM:Meth K CG "mix" gmgM:=⟨gmaM,gmiM,gmkM⟩
 have F_gmW:=aM (st:=s_gworth) gmlW gmcW gmkW
 have b_gmW:=F_gmW.binds (ps:=["self", "point", "s"]) fun _ _ _ _ _ _ us hl=>by obtain ⟨u0,u1,u2,rfl⟩:=len3 hl; rfl
 have m_gmW:Meth K CG "worth_at" gmgW:=⟨gmaW,gmiW,gmkW⟩
 have F_gmC:=aM (st:=s_gcoins) gmlC gmcC gmkC
 have b_gmC:=F_gmC.binds (ps:=["self"]) fun _ _ _ _ _ _ us hl=>by obtain ⟨u0,rfl⟩:=len1 hl; rfl
 have m_gmC:Meth K CG "coins" gmgC:=⟨gmaC,gmiC,gmkC⟩
 have F_dbI:=aM (st:=s_dinit) dblI dbcI dbkI
 have b_dbI:=F_dbI.binds (ps:=["self", "game"]) fun _ _ _ _ _ _ us hl=>by obtain ⟨u0,u1,rfl⟩:=len2 hl; rfl
 have F_dbW:=aM (st:=s_dwaits) dblW dbcW dbkW
 have b_dbW:=F_dbW.binds (ps:=["self"]) fun _ _ _ _ _ _ us hl=>by obtain ⟨u0,rfl⟩:=len1 hl; rfl
 have m_dbW:Meth K C "waits" dbgW:=⟨dbaW,dbiW,dbkW⟩
 have F_dbU:=aM (st:=s_ddue) dblU dbcU dbkU
 have b_dbU:=F_dbU.binds (ps:=["self"]) fun _ _ _ _ _ _ us hl=>by obtain ⟨u0,rfl⟩:=len1 hl; rfl
 have m_dbU:Meth K C "due" dbgU:=⟨dbaU,dbiU,dbkU⟩
 have F_dbH:=aM (st:=s_dhear) dblH dbcH dbkH
 have b_dbH:=F_dbH.binds (ps:=["self", "values"]) fun _ _ _ _ _ _ us hl=>by obtain ⟨u0,u1,rfl⟩:=len2 hl; rfl
 have m_dbH:Meth K C "hear" dbgH:=⟨dbaH,dbiH,dbkH⟩
 have F_dbT:=aM (st:=s_dtoss) dblT dbcT dbkT
 have b_dbT:=F_dbT.binds (ps:=["self", "r"]) fun _ _ _ _ _ _ us hl=>by obtain ⟨u0,u1,rfl⟩:=len2 hl; rfl
 have m_dbT:Meth K C "toss" dbgT:=⟨dbaT,dbiT,dbkT⟩
 have F_dbC:=aM (st:=s_dclaims) dblC dbcC dbkC
 have b_dbC:=F_dbC.binds (ps:=["self", "values"]) fun _ _ _ _ _ _ us hl=>by obtain ⟨u0,u1,rfl⟩:=len2 hl; rfl
 have m_dbC:Meth K C "hear_claims" dbgC:=⟨dbaC,dbiC,dbkC⟩
 have F_dbB:=aM (st:=s_dbegin) dblB dbcB dbkB
 have b_dbB:=F_dbB.binds (ps:=["self", "s"]) fun _ _ _ _ _ _ us hl=>by obtain ⟨u0,u1,rfl⟩:=len2 hl; rfl
 have m_dbB:Meth K C "begin_rounds" dbgB:=⟨dbaB,dbiB,dbkB⟩
 have F_dbR:=aM (st:=s_drow) dblR dbcR dbkR
 have b_dbR:=F_dbR.binds (ps:=["self", "values"]) fun _ _ _ _ _ _ us hl=>by obtain ⟨u0,u1,rfl⟩:=len2 hl; rfl
 have m_dbR:Meth K C "hear_row" dbgR:=⟨dbaR,dbiR,dbkR⟩
 have F_dbG:=aM (st:=s_dgo) dblG dbcG dbkG
 have b_dbG:=F_dbG.binds (ps:=["self"]) fun _ _ _ _ _ _ us hl=>by obtain ⟨u0,rfl⟩:=len1 hl; rfl
 have m_dbG:Meth K C "go_on" dbgG:=⟨dbaG,dbiG,dbkG⟩
 have F_dbE:=aM (st:=s_dtrees) dblE dbcE dbkE
 have b_dbE:=F_dbE.binds (ps:=["self"]) fun _ _ _ _ _ _ us hl=>by obtain ⟨u0,rfl⟩:=len1 hl; rfl
 have m_dbE:Meth K C "look_at_trees" dbgE:=⟨dbaE,dbiE,dbkE⟩
 have F_dbN:=aM (st:=s_dtwin) dblN dbcN dbkN
 have b_dbN:=F_dbN.binds (ps:=["self"]) fun _ _ _ _ _ _ us hl=>by obtain ⟨u0,rfl⟩:=len1 hl; rfl
 have m_dbN:Meth K C "twin" dbgN:=⟨dbaN,dbiN,dbkN⟩
 have F_asI:=aM (st:=s_ainit) aslI ascI askI
 have b_asI:=F_asI.binds (ps:=["self", "game", "number", "many", "due", "s", "coins"]) fun _ _ _ _ _ _ us hl=>by obtain ⟨u0,u1,u2,u3,u4,u5,u6,rfl⟩:=len7 hl; rfl
 have F_mcI:=aM (st:=s_minit) mclI mccI mckI
 have b_mcI:=F_mcI.binds (ps:=["self", "game", "helper"]) fun _ _ _ _ _ _ us hl=>by obtain ⟨u0,u1,u2,rfl⟩:=len3 hl; rfl
 have F_mcS:=aM (st:=s_msay) mclS mccS mckS
 have b_mcS:=F_mcS.binds (ps:=["self", "many", "due", "s", "coins"]) fun _ _ _ _ _ _ us hl=>by obtain ⟨u0,u1,u2,u3,u4,rfl⟩:=len5 hl; rfl
 have m_mcS:Meth K CM "say" mcgS:=⟨mcaS,mciS,mckS⟩
 have F_mcR:=aM (st:=s_mrow) mclR mccR mckR
 have b_mcR:=F_mcR.binds (ps:=["self", "place", "said", "asking"]) fun _ _ _ _ _ _ us hl=>by obtain ⟨u0,u1,u2,u3,rfl⟩:=len4 hl; rfl
 have m_mcR:Meth K CM "do_row" mcgR:=⟨mcaR,mciR,mckR⟩
 have F_mcN:=aM (st:=s_mtwin) mclN mccN mckN
 have b_mcN:=F_mcN.binds (ps:=["self"]) fun _ _ _ _ _ _ us hl=>by obtain ⟨u0,rfl⟩:=len1 hl; rfl
 have m_mcN:Meth K CM "twin" mcgN:=⟨mcaN,mciN,mckN⟩
 have C_l_feed:=Cal.of (P:=l.prog) (w:=w) (base:=base) F_l_feed (ok_l_feed F_l_feed B.len) m_l_feed (fun _ _ _ _ _ _ us hl=>by obtain ⟨u0,u1,rfl⟩:=len2 hl; rfl)
 have C_l_take:=Cal.of (P:=l.prog) (w:=w) (base:=base) F_l_take (ok_l_take F_l_take ) m_l_take (fun _ _ _ _ _ _ us hl=>by obtain ⟨u0,u1,rfl⟩:=len2 hl; rfl)
 have C_is_field:=Cal.of (P:=l.prog) (w:=w) (base:=base) F_is_field (ok_is_field F_is_field ) m_is_field (fun _ _ _ _ _ _ us hl=>by obtain ⟨u0,rfl⟩:=len1 hl; rfl)
 have C_inverse_of:=Cal.of (P:=l.prog) (w:=w) (base:=base) F_inverse_of (ok_inverse_of F_inverse_of ) m_inverse_of (fun _ _ _ _ _ _ us hl=>by obtain ⟨u0,u1,rfl⟩:=len2 hl; rfl)
 have C_is_number:=Cal.of (P:=l.prog) (w:=w) (base:=base) F_is_number (ok_is_number F_is_number B) m_is_number (fun _ _ _ _ _ _ us hl=>by obtain ⟨u0,u1,rfl⟩:=len2 hl; rfl)
 have C_products:=Cal.of (P:=l.prog) (w:=w) (base:=base) F_products (ok_products F_products ) m_products (fun _ _ _ _ _ _ us hl=>by obtain ⟨u0,u1,rfl⟩:=len2 hl; rfl)
 have C_inverse_factorials:=Cal.of (P:=l.prog) (w:=w) (base:=base) F_inverse_factorials (ok_inverse_factorials F_inverse_factorials B C_products C_inverse_of) m_inverse_factorials (fun _ _ _ _ _ _ us hl=>by obtain ⟨u0,u1,rfl⟩:=len2 hl; rfl)
 have C_value_behind:=Cal.of (P:=l.prog) (w:=w) (base:=base) F_value_behind (ok_value_behind F_value_behind B C_products C_inverse_factorials) m_value_behind (fun _ _ _ _ _ _ us hl=>by obtain ⟨u0,u1,u2,rfl⟩:=len3 hl; rfl)
 have C_value_at:=Cal.of (P:=l.prog) (w:=w) (base:=base) F_value_at (ok_value_at F_value_at B C_value_behind) m_value_at (fun _ _ _ _ _ _ us hl=>by obtain ⟨u0,u1,u2,rfl⟩:=len3 hl; rfl)
 have C_both_ends:=Cal.of (P:=l.prog) (w:=w) (base:=base) F_both_ends (ok_both_ends F_both_ends C_value_at) m_both_ends (fun _ _ _ _ _ _ us hl=>by obtain ⟨u0,u1,rfl⟩:=len2 hl; rfl)
 have C_trees_within:=Cal.of (P:=l.prog) (w:=w) (base:=base) F_trees_within (ok_trees_within F_trees_within ) m_trees_within (fun _ _ _ _ _ _ us hl=>by obtain ⟨u0,rfl⟩:=len1 hl; rfl)
 have C_size_of:=Cal.of (P:=l.prog) (w:=w) (base:=base) F_size_of (ok_size_of F_size_of B m_size_of C_trees_within 10) m_size_of (fun _ _ _ _ _ _ us hl=>by obtain ⟨u0,rfl⟩:=len1 hl; rfl)
 have C_names_in:=Cal.of (P:=l.prog) (w:=w) (base:=base) F_names_in (ok_names_in F_names_in m_names_in C_trees_within 10) m_names_in (fun _ _ _ _ _ _ us hl=>by obtain ⟨u0,rfl⟩:=len1 hl; rfl)
 have C_joined_worth:=Cal.of (P:=l.prog) (w:=w) (base:=base) F_joined_worth (ok_joined_worth F_joined_worth ) m_joined_worth (fun _ _ _ _ _ _ us hl=>by obtain ⟨u0,u1,u2,u3,rfl⟩:=len4 hl; rfl)
 have C_worth_of:=Cal.of (P:=l.prog) (w:=w) (base:=base) F_worth_of (ok_worth_of F_worth_of m_worth_of C_joined_worth 10) m_worth_of (fun _ _ _ _ _ _ us hl=>by obtain ⟨u0,u1,u2,u3,rfl⟩:=len4 hl; rfl)
 have C_degree_of:=Cal.of (P:=l.prog) (w:=w) (base:=base) F_degree_of (ok_degree_of F_degree_of B.max C_names_in) m_degree_of (fun _ _ _ _ _ _ us hl=>by obtain ⟨u0,u1,rfl⟩:=len2 hl; rfl)
 have C_look_switches:=Cal.of (P:=l.prog) (w:=w) (base:=base) F_look_switches (ok_look_switches F_look_switches B.enumerate) m_look_switches (fun _ _ _ _ _ _ us hl=>by obtain ⟨u0,rfl⟩:=len1 hl; rfl)
 have C_look_names:=Cal.of (P:=l.prog) (w:=w) (base:=base) F_look_names (ok_look_names F_look_names C_names_in) m_look_names (fun _ _ _ _ _ _ us hl=>by obtain ⟨u0,u1,rfl⟩:=len2 hl; rfl)
 have C_look_field:=Cal.of (P:=l.prog) (w:=w) (base:=base) F_look_field (ok_look_field F_look_field ⟨te,W.mg_of X G ge⟩ C_is_field) m_look_field (fun _ _ _ _ _ _ us hl=>by obtain ⟨u0,rfl⟩:=len1 hl; rfl)
 have C_look_size:=Cal.of (P:=l.prog) (w:=w) (base:=base) F_look_size (ok_look_size F_look_size B.max) m_look_size (fun _ _ _ _ _ _ us hl=>by obtain ⟨u0,u1,rfl⟩:=len2 hl; rfl)
 have C_l_names:=Cal.of (P:=l.prog) (w:=w) (base:=base) F_l_names (ok_l_names F_l_names B.range C_l_take) m_l_names (fun _ _ _ _ _ _ us hl=>by obtain ⟨u0,u1,rfl⟩:=len2 hl; rfl)
 have C_l_tree:=Cal.of (P:=l.prog) (w:=w) (base:=base) F_l_tree (ok_l_tree F_l_tree B.len m_l_tree C_l_take 10) m_l_tree (fun _ _ _ _ _ _ us hl=>by obtain ⟨u0,u1,u2,u3,rfl⟩:=len4 hl; rfl)
 have C_l_names_of:=Cal.of (P:=l.prog) (w:=w) (base:=base) F_l_names_of (ok_l_names_of F_l_names_of m_l_names_of 10) m_l_names_of (fun _ _ _ _ _ _ us hl=>by obtain ⟨u0,rfl⟩:=len1 hl; rfl)
 have C_l_need:=Cal.of (P:=l.prog) (w:=w) (base:=base) F_l_need (ok_l_need F_l_need B.len B.max C_l_names_of) m_l_need (fun _ _ _ _ _ _ us hl=>by obtain ⟨u0,u1,rfl⟩:=len2 hl; rfl)
 have C_l_is_prime:=Cal.of (P:=l.prog) (w:=w) (base:=base) F_l_is_prime (ok_l_is_prime F_l_is_prime B.range) m_l_is_prime (fun _ _ _ _ _ _ us hl=>by obtain ⟨u0,rfl⟩:=len1 hl; rfl)
 have C_all_sizes:=Cal.of (P:=l.prog) (w:=w) (base:=base) F_all_sizes (ok_all_sizes F_all_sizes B TG C_size_of) m_all_sizes (fun _ _ _ _ _ _ us hl=>by obtain ⟨u0,rfl⟩:=len1 hl; rfl)
 have G_gmI:=ok_ginit (P:=l.prog) (w:=w) (base:=base) F_gmI TG B.tuple B.len C_degree_of C_look_switches C_look_names C_look_field C_look_size
 have G_gmM:=ok_gmix (P:=l.prog) (w:=w) (base:=base) F_gmM TG B.reversed
 have G_gmW:=ok_gworth (P:=l.prog) (w:=w) (base:=base) F_gmW TG m_gmM G_gmM b_gmM C_worth_of
 have G_gmC:=ok_gcoins (P:=l.prog) (w:=w) (base:=base) F_gmC TG B.len
 have G_dbE:=ok_dtrees (P:=l.prog) (w:=w) (base:=base) F_dbE B T TG m_gmW G_gmW b_gmW C_all_sizes
 have G_dbG:=ok_dgo (P:=l.prog) (w:=w) (base:=base) F_dbG B T TG m_dbE G_dbE b_dbE
 have G_dbB:=ok_dbegin (P:=l.prog) (w:=w) (base:=base) F_dbB T TG m_gmM G_gmM b_gmM m_dbG G_dbG b_dbG
 have G_dbC:=ok_dclaims (P:=l.prog) (w:=w) (base:=base) F_dbC B T TG m_dbB G_dbB b_dbB
 have G_dbR:=ok_drow (P:=l.prog) (w:=w) (base:=base) F_dbR B T TG C_both_ends
 have G_dbH:=ok_dhear (P:=l.prog) (w:=w) (base:=base) F_dbH B T TG C_is_number m_dbC G_dbC b_dbC m_dbR G_dbR b_dbR
 have G_dbT:=ok_dtoss (P:=l.prog) (w:=w) (base:=base) F_dbT B T TG C_is_number C_value_at m_dbB G_dbB b_dbB m_dbG G_dbG b_dbG
 have G_dbI:=ok_dinit (P:=l.prog) (w:=w) (base:=base) F_dbI B T TG
 have G_dbW:=ok_dwaits (P:=l.prog) (w:=w) (base:=base) F_dbW T
 have G_dbU:=ok_ddue (P:=l.prog) (w:=w) (base:=base) F_dbU T
 have G_asI:=ok_ainit (P:=l.prog) (w:=w) (base:=base) F_asI B TA
 have G_mcI:=ok_minit (P:=l.prog) (w:=w) (base:=base) F_mcI TM
 have G_mcR:=ok_mrow0 (P:=l.prog) (w:=w) (mg:=mg) (base:=base) F_mcR
 have G_mcS:=ok_msay (CG:=CG) (P:=l.prog) (w:=w) (base:=base) F_mcS B TM TA ⟨tm,W.mg_of X G gmo⟩ ⟨asmki,asaI,asiI,askcl⟩ G_asI b_asI m_mcR G_mcR b_mcR
 have Y:Ways l.prog w K mg base C CM CG _ _ _ _ _ _ _ _ _ _:=⟨m_dbW,G_dbW,b_dbW,m_dbU,G_dbU,b_dbU,m_dbH,G_dbH,b_dbH,m_dbT,G_dbT,b_dbT,m_mcS,G_mcS,b_mcS⟩
 have MDk:Mk K C dbgI:=⟨dbmki,dbaI,dbiI,dbkcl⟩
 have MMk:Mk K CM mcgI:=⟨mcmki,mcaI,mciI,mckcl⟩
 have G_dbN:=ok_dtwin (P:=l.prog) (w:=w) (base:=base) F_dbN T MDk G_dbI b_dbI
 have G_mcN:=ok_mtwin (P:=l.prog) (w:=w) (base:=base) F_mcN B TM MMk G_mcI b_mcI
 have Z:Twins l.prog w K mg base C CM CG _ _ _ _:=⟨m_dbN,G_dbN,b_dbN,m_mcN,G_mcN,b_mcN⟩
 have C_asked_once:=Cal.of (P:=l.prog) (w:=w) (base:=base) F_asked_once (ok_asked_once F_asked_once B T TM Y) m_asked_once (fun _ _ _ _ _ _ us hl=>by obtain ⟨u0,u1,rfl⟩:=len2 hl; rfl)
 have C_talked:=Cal.of (P:=l.prog) (w:=w) (base:=base) F_talked (ok_talked F_talked B T TM Y MDk G_dbI b_dbI MMk G_mcI b_mcI C_asked_once) m_talked (fun _ _ _ _ _ _ us hl=>by obtain ⟨u0,u1,u2,rfl⟩:=len3 hl; rfl)
 have C_power:=Cal.of (P:=l.prog) (w:=w) (base:=base) F_power (ok_power F_power B) m_power (fun _ _ _ _ _ _ us hl=>by obtain ⟨u0,u1,rfl⟩:=len2 hl; rfl)
 have C_rows_of_coins:=Cal.of (P:=l.prog) (w:=w) (base:=base) F_rows_of_coins (ok_rows_of_coins F_rows_of_coins TG m_gmC G_gmC b_gmC C_power) m_rows_of_coins (fun _ _ _ _ _ _ us hl=>by obtain ⟨u0,rfl⟩:=len1 hl; rfl)
 have C_first_row:=Cal.of (P:=l.prog) (w:=w) (base:=base) F_first_row (ok_first_row F_first_row B TG m_gmC G_gmC b_gmC) m_first_row (fun _ _ _ _ _ _ us hl=>by obtain ⟨u0,u1,rfl⟩:=len2 hl; rfl)
 have C_weighed_behind:=Cal.of (P:=l.prog) (w:=w) (base:=base) F_weighed_behind (ok_weighed_behind F_weighed_behind m_weighed_behind B T TM TG Y Z C_asked_once C_first_row 8) m_weighed_behind (fun _ _ _ _ _ _ us hl=>by obtain ⟨u0,u1,u2,rfl⟩:=len3 hl; rfl)
 have C_weighed:=Cal.of (P:=l.prog) (w:=w) (base:=base) F_weighed (ok_weighed F_weighed T TM ⟨tr,W.mg_of X G gmr⟩ MDk G_dbI b_dbI MMk G_mcI b_mcI C_rows_of_coins C_weighed_behind) m_weighed (fun _ _ _ _ _ _ us hl=>by obtain ⟨u0,u1,rfl⟩:=len2 hl; rfl)
 have C_idle:=Cal.of (P:=l.prog) (w:=w) (base:=base) F_idle (ok_idle F_idle ) m_idle (fun _ _ _ _ _ _ us hl=>match us,hl with | [],_=>rfl)
 have C_l_power:=Cal.of (P:=l.prog) (w:=w) (base:=base) F_l_power (ok_l_power F_l_power B) m_l_power (fun _ _ _ _ _ _ us hl=>by obtain ⟨u0,u1,rfl⟩:=len2 hl; rfl)
 have C_l_least:=Cal.of (P:=l.prog) (w:=w) (base:=base) F_l_least (ok_l_least F_l_least C_l_need C_l_is_prime) m_l_least (fun _ _ _ _ _ _ us hl=>by obtain ⟨u0,u1,rfl⟩:=len2 hl; rfl)
 have C_l_without:=Cal.of (P:=l.prog) (w:=w) (base:=base) F_l_without (ok_l_without F_l_without m_l_without B 10) m_l_without (fun _ _ _ _ _ _ us hl=>by obtain ⟨u0,u1,rfl⟩:=len2 hl; rfl)
 have C_l_small:=Cal.of (P:=l.prog) (w:=w) (base:=base) F_l_small (ok_l_small F_l_small B C_l_take C_l_names C_l_tree C_l_least C_l_power C_l_without) m_l_small (fun _ _ _ _ _ _ us hl=>by obtain ⟨u0,u1,u2,rfl⟩:=len3 hl; rfl)
 have C_l_worth:=Cal.of (P:=l.prog) (w:=w) (base:=base) F_l_worth (ok_l_worth F_l_worth B.int m_l_worth 10) m_l_worth (fun _ _ _ _ _ _ us hl=>by obtain ⟨u0,u1,u2,u3,rfl⟩:=len4 hl; rfl)
 have C_l_all_coins:=Cal.of (P:=l.prog) (w:=w) (base:=base) F_l_all_coins (ok_l_all_coins F_l_all_coins B) m_l_all_coins (fun _ _ _ _ _ _ us hl=>by obtain ⟨u0,u1,rfl⟩:=len2 hl; rfl)
 have C_l_mixed:=Cal.of (P:=l.prog) (w:=w) (base:=base) F_l_mixed (ok_l_mixed F_l_mixed B C_l_worth) m_l_mixed (fun _ _ _ _ _ _ us hl=>by obtain ⟨u0,u1,u2,u3,rfl⟩:=len4 hl; rfl)
 exact ok_law F_law B TG ⟨gmmki,gmaI,gmiI,gmkcl⟩ G_gmI b_gmI m_gmC G_gmC b_gmC C_l_feed C_l_small C_l_all_coins C_l_mixed C_l_power C_idle C_talked C_weighed
theorem walk {l:PySem.W.OpenLaw} {q:Program} {loose:List Str} {XP:(Str->Option Value)->Heap->Prop} {YP:World->Heap->Prop} {d:DefRec} {K:Params->PySem.W.Frag} (hn:l.most=some 63) (hdf:d.params.defaults=[])
 (hY:∀ (w:World) (h:Heap),YP w h->(K w.params).In h)
 (F:∀ (w:World) (mg:Str->Option Value) (fa:Addr) (h:Heap),(K w.params).In h->h.Ns mainGlobals mg->mg d.name=some (.ref fa) ->
  ∃ fd:FuncData,(∀ (s:Shared) (u:Value),BindsTo s fd ⟨[u],[]⟩ [("_law_script", u)])/\∀ base:Heap,(K w.params).In base->base.Ns mainGlobals mg->FnOk l.prog w (K w.params) mg base CX0 37 fa fd ["_law_script"] (spLaw (K w.params))) :
 PySem.W.WalkO q loose XP YP l.row.toRowW d [] (fun f vs=>PySem.call f vs) :=
 L2.walk_of (n:=63) (k:=37) (x := "_law_script") (CX:=fun _=>CX0) (sp:=fun w=>spLaw (K w.params)) hn (by decide) hdf ⟨rfl,by decide,by decide⟩ hY F (fun _ _ a ns hl _ hS=>⟨a,ns,rfl,hS,hl,fun _=>rfl⟩) fun _ _ _ _ _ z=>z
end Mine
namespace PySem.W.Fast
def tw5050237665001234088:=()
def tw4950226018165547059:=()
def tw3204980417698341928:=()
def tw10787662804588524061:=()
def tw16348079624634846207:=()
def tw5161142248724610909:=()
def tw14648133066135080520:=()
def tw3528749274561181495:=()
def tw13713665387746508690:=()
def tw11091831128701355148:=()
def tw4984335449319255830:=()
def tw12351053349451327030:=()
def tw17531598354502986794:=()
def tw450338731318101541:=()
def tw4481892325022274971:=()
def tw11589641760717968190:=()
def tw11265568413429821936:=()
def tw11213253970790158975:=()
def tw13058127717697497427:=()
def tw12340869579400632129:=()
def tw9402661007896364790:=()
def tw8794872714093698210:=()
def tw12692505445861774779:=()
def tw17831086612911122004:=()
def tw11297234137598318027:=()
def tw5348788954952093413:=()
def tw18094145439041329227:=()
def tw4827956669445205863:=()
def tw2144693388732478468:=()
def tw8750894966570946970:=()
def tw10263644200194424431:=()
def tw4947198442491028331:=()
def tw11651133189701040350:=()
def tw1400237869514543720:=()
def tw15025933130139303139:=()
def tw6582804504557791394:=()
def tw14602610465013294483:=()
def tw16394434227691276168:=()
def tw10643744603806933624:=()
def tw12576968763059337608:=()
def tw5428341872159656424:=()
def tw5972435112906172228:=()
def tw11124510767684992150:=()
def tw17226718261198992402:=()
def tw15526101137289762939:=()
def tw4635980442062185788:=()
def tw18128519825232284024:=()
def tw15025064423125085222:=()
def tw4283707286614306192:=()
def tw1398009013945271565:=()
def tw8289409280229148249:=()
def tw16025499458225461051:=()
def tw15323130526428476067:=()
def tw2501367792855990976:=()
def tw1370680498543086830:=()
def tw13683842620382949965:=()
def tw2307739760031732016:=()
def tw14792375982326611470:=()
def tw8859459072854006968:=()
def tw12867861775494697789:=()
def tw2877377397542824162:=()
def tw4939558458139438526:=()
def tw1238812526962428070:=()
def tw7349920918972543672:=()
def tw4204918434933783009:=()
def tw4397292742480557996:=()
def tw9160948659112718694:=()
def tw2725482767710300565:=()
def tw5830947614800271100:=()
def tw9699760621200846876:=()
def tw17320037381584079558:=()
def tw4006905998385932962:=()
def tw1841137383949380763:=()
def tw10204352542820310950:=()
def tw13564740843588770630:=()
def tw5776158471621807154:=()
def tw8964969529048183131:=()
def tw13180870796816658767:=()
def tw14720241867003849542:=()
def tw12649749669386744658:=()
def tw4017336379884192140:=()
def tw4102573470158754330:=()
def tw11270243253755337765:=()
def tw15555757783304604683:=()
def tw16508625787556734923:=()
def tw14389004164447259601:=()
def tw12988187154999109534:=()
def tw10456573382441490697:=()
def tw17251567633803400384:=()
def tw7357302708563859421:=()
def tw5499113898084480727:=()
def tw3122939345262157903:=()
def tw10291598447741253707:=()
def tw18233371332393589505:=()
def tw2992417414512025317:=()
def tw9345258683580365190:=()
def tw6256262711110134794:=()
def tw491257904188060758:=()
def tw7208880127287022570:=()
def tw15419567014274091055:=()
def tw14775971728358136534:=()
def tw15562924826338840440:=()
def tw10830151494245640527:=()
def tw14543192280507087090:=()
def tw637268406372287962:=()
def tw3293533277861056368:=()
def tw10341959050403298285:=()
def tw6106571566105502605:=()
def tw5935219392887852475:=()
def tw4046223873869151583:=()
def tw16038837806693302422:=()
def tw11794825014602562226:=()
def tw5042197953204281186:=()
def tw15584207255584185827:=()
def tw15395550225950598964:=()
def tw17335258254274303287:=()
def tw18056491441869366846:=()
def tw13407752305175532047:=()
def tw10334649426226778456:=()
def tw237223336029856384:=()
def tw8299218348788414749:=()
def tw5827169912365227211:=()
def tw12006780001619360011:=()
def tw10924081561601083843:=()
def tw17801163173086184396:=()
def tw5464621956477836899:=()
def tw1485971796790657331:=()
def tw10683705169754654070:=()
def tw17783313274937864342:=()
def tw17911867813499742417:=()
def tw18404933632717189534:=()
def tw3084518269805348007:=()
def tw3040648525874908093:=()
def tw440672125142383215:=()
def tw4672524611997943785:=()
def tw341760094895466014:=()
def tw6295282563357837061:=()
def tw10635876247210935462:=()
def tw15840034317816101802:=()
def tw15876630386425090065:=()
def tw10564246861679537911:=()
def tw17461928244240341229:=()
def tw14383298509596794213:=()
def tw18423720961282739972:=()
def tw5069188807998571509:=()
def tw17639654418510712380:=()
def tw9510361121330710991:=()
def tw123230347386338999:=()
def tw11018146052850254682:=()
def tw723120243428801530:=()
def tw16907738101882010683:=()
def tw3178204873682048487:=()
def tw5918534152987999699:=()
def tw4821702941456086354:=()
def tw4883409732469092458:=()
def tw6446219013299055724:=()
def tw8729704616759761736:=()
def tw7345378865666367148:=()
def tw9904052934728169266:=()
def tw3278707910772678499:=()
def tw970844826546317735:=()
def tw6682231426468307163:=()
def tw3255698699593037712:=()
def tw17119219051540535389:=()
def tw16327442361614468641:=()
def tw5701532143004012308:=()
def tw1621058124024111091:=()
def tw16969763093371457872:=()
def tw17581921174012122522:=()
def tw5824569000227227636:=()
def tw5470696918677964905:=()
def tw11383822541395372808:=()
def tw2345121461296546237:=()
def tw13058271029456697420:=()
def tw13165384246375525198:=()
def tw2905249068622057131:=()
def tw16352224686053733972:=()
def tw17323965519740450675:=()
def tw12468890292148087621:=()
def tw886188781657108921:=()
def tw6726848427044552392:=()
def tw10172605330161771233:=()
def tw1412708032474441911:=()
def tw15172874009234924385:=()
def tw1368025825718050459:=()
def tw13739688426422983939:=()
def tw17819732563669622332:=()
def tw211640342292645558:=()
def tw7860586511412534871:=()
def tw2649013595229727167:=()
def tw2615250260015342310:=()
def tw10370093192923196119:=()
def tw14758472566755029076:=()
def tw11471068036271639659:=()
def tw17497017819188320627:=()
def tw7429424694227753875:=()
def tw9471131292328811065:=()
def tw9790114783903118353:=()
def tw266367422712984123:=()
def tw11285345167264537612:=()
def tw10132067230879785938:=()
def tw13267219595952921597:=()
def tw5443225962853149929:=()
def tw9202023444794049305:=()
def tw5745922887312164411:=()
def tw6361832374296035252:=()
def tw2585090021416122190:=()
def tw12190720851544645753:=()
def tw12083351446927423435:=()
def tw11956711137049552390:=()
def tw3868151106770327591:=()
def tw17148568701268513082:=()
def tw7652452176404492016:=()
def tw16843052157374809944:=()
def tw10111484320119473538:=()
def tw2643914594537413680:=()
def tw4294655065454562898:=()
def tw18309057247842445368:=()
def tw18261708720874645030:=()
def tw6563519938467750354:=()
def tw9008908110370124603:=()
def tw15367810008710340834:=()
def tw10953539784731986540:=()
def tw17906112258424142905:=()
def tw9677833114555665700:=()
def tw14812215740840357593:=()
def tw9696250501057704359:=()
def tw4436741626839526408:=()
def tw14036753747792238417:=()
def tw1755942670179878438:=()
def tw197817590549917383:=()
def tw7834818266458841293:=()
def tw10256803786403165529:=()
def tw8432610747015859291:=()
def tw11435060173276371943:=()
def tw8931780120557358574:=()
def tw18379378905292427005:=()
def tw17910795213856395838:=()
def tw1871246254272728726:=()
def tw14663166907015452365:=()
def tw5385972917783085236:=()
def tw10008548190209534922:=()
def tw18080081326266099503:=()
def tw9986714011875714960:=()
def tw16726796772376604816:=()
def tw9564415683468093874:=()
def tw8116082657936754206:=()
def tw6558011765103428721:=()
def tw13779389841298398457:=()
def tw1831218247880438595:=()
def tw12082793718630408211:=()
def tw11133672395803045319:=()
def tw9319082452905579320:=()
def tw8227483079277391902:=()
def tw16669568295122039017:=()
def tw8252792947453413061:=()
def tw1190444697681078205:=()
def tw12248308501794033026:=()
def tw7799561819795341275:=()
def tw18073521712283394855:=()
def tw17761543873396277683:=()
def tw438682311489201119:=()
def tw6632743635742860987:=()
def tw13385399888136957607:=()
def tw5644915161184513419:=()
def tw4296000944212730483:=()
def tw15126883538075468923:=()
def tw1132072199740774010:=()
def tw1872717655333250619:=()
def tw10398302893482602226:=()
def tw7561462658811024634:=()
def tw12346569778976710463:=()
def tw3388104411837232068:=()
def tw392460475232025798:=()
def tw13246057548059277511:=()
def tw1419922257132629900:=()
def tw9507052555089793826:=()
def tw13743002341188322404:=()
def tw2259432394579804525:=()
def tw18336747826756993855:=()
def tw6347179305088333430:=()
def tw2558629594907953927:=()
def tw15083634500987619697:=()
def tw14405704990961153330:=()
def tw4750999598570175276:=()
def tw10220353892826794428:=()
def tw15948146293632805524:=()
def tw16095206230214525213:=()
def tw5398240945399379117:=()
def tw9694500717640074818:=()
def tw10265817673758413974:=()
def tw9405767854725798250:=()
def tw18388184916287081449:=()
def tw15655026651724334669:=()
def tw16531678484432614845:=()
def tw4441894159834754049:=()
def tw7988090769323460726:=()
def tw13260203800774526617:=()
def tw11575939308410304174:=()
def tw17401619899037793928:=()
def tw13560200272385057413:=()
def tw10094882769084042511:=()
def tw3664868834713509025:=()
def tw10947804619922942646:=()
def tw18103396196828324269:=()
def tw4442829878124853473:=()
def tw1267746766881614171:=()
def tw11345129695934263525:=()
def tw18119111702975746126:=()
def tw5687871714140484198:=()
def tw10347866618201381885:=()
def tw5334782587070006514:=()
def tw17366259911206278883:=()
def tw17956561163869487003:=()
def tw16584008373941576819:=()
def tw16483599489183816268:=()
def tw1930685751595952056:=()
def tw1325059346432210770:=()
def tw13545942933817484322:=()
def tw15129192280902711027:=()
def tw14297029608919831788:=()
def tw889856602252767659:=()
def tw3058997547811492089:=()
def tw18428981374871543202:=()
def tw6116484024734185770:=()
def tw6332006437588858213:=()
def tw8247982778396092895:=()
def tw7880584165701130036:=()
def tw17266339626203111450:=()
def tw16868504664179162496:=()
def tw549334593070904960:=()
def tw15726816876637133206:=()
def tw17673302450091534217:=()
def tw2774821045661126099:=()
def tw7377350512851558079:=()
def tw15153952843889605648:=()
def tw5541684133970319573:=()
def tw12961399921331931819:=()
def tw11769755818386919142:=()
def tw13052332805677949059:=()
def tw9520342338971962493:=()
def tw17530401570969395556:=()
def tw772435200380797209:=()
def tw17387129190142848341:=()
def tw3890267073474315372:=()
def tw2593686904819493428:=()
def tw1420950503610836837:=()
def tw10474842698938477856:=()
def tw1785242352605195208:=()
def tw8050330272823657710:=()
def tw5367187046294830568:=()
def tw5890756830533811702:=()
def tw4407810740223242441:=()
def tw2359363666685505962:=()
def tw12206193419511754244:=()
def tw1204047743245374618:=()
def tw7067702825343416324:=()
def tw5698322627441063884:=()
def tw2707677269225568437:=()
def tw7958752958931427771:=()
def tw12564114227253179691:=()
def tw15861602646853785539:=()
def tw14619515519918330274:=()
def tw18435161270009069269:=()
def tw7439025515757132382:=()
def tw16392894902259454783:=()
def tw3111811009803388069:=()
def tw14040213191583851326:=()
def tw17901730346775943535:=()
def tw11605616417523323377:=()
def tw14220155583009873810:=()
def tw1039669191438568300:=()
def tw10958396329615054320:=()
def tw410632583197908132:=()
def tw359789618281751976:=()
def tw8499656580361339147:=()
def tw4489748659178603533:=()
def tw14264974253956747832:=()
def tw8527609076269421389:=()
def tw5598184881869520384:=()
def tw3260116702882273422:=()
def tw4521472724480160954:=()
def tw3963134691375389759:=()
def tw10853507828531015414:=()
def tw8995390351848107099:=()
def tw13706974443916973590:=()
def tw7018286165205616981:=()
def tw1567469300373824433:=()
def tw13155244302080676738:=()
def tw10735453849332838863:=()
def tw5004186358126142788:=()
def tw13285283860963186726:=()
def tw3619926964914129914:=()
def tw18259038771574941862:=()
def tw2671890776920162095:=()
def tw10050822304076860510:=()
def tw12022491439302466127:=()
def tw14413589361451401817:=()
def tw6551430762929066171:=()
def tw3965074974790260720:=()
def tw10646840150521197991:=()
def tw1793099850755471900:=()
def tw15413219981988934061:=()
def tw4261507744195780317:=()
def tw10412852802573373597:=()
def tw414510662738271256:=()
def tw15546665886628572237:=()
def tw5793391881092102125:=()
def tw15707465607128541283:=()
def tw13013008612845827441:=()
def tw14045025175958273149:=()
def tw8726629075131835360:=()
def tw7667758956656323669:=()
def tw16098744975544491151:=()
def tw12009402530637864461:=()
def tw12795673928173749687:=()
def tw9862797144225583857:=()
def tw10038309765389227258:=()
def tw7368423030128609604:=()
def tw14709338864726870474:=()
def tw18277842641792318607:=()
def tw5023606271874205936:=()
def tw4611997084084733752:=()
def tw14630198571474242844:=()
def tw2845689190458287777:=()
def tw2718532770687362069:=()
def tw18061857790103909462:=()
def tw1045392989078702574:=()
def tw13860744524403597627:=()
def tw3874920667773581813:=()
def tw2158132095638283955:=()
def tw7441913357439077488:=()
def tw11555619752375328805:=()
def tw2212794114209405538:=()
def tw12458446259965137591:=()
def tw9449699774880966098:=()
def tw2945338553156166194:=()
def tw2708640132350875522:=()
def tw4007162265923198340:=()
def tw15494683789756034641:=()
def tw15928752129480072393:=()
def tw16375622615654803596:=()
def tw15863063315719212468:=()
def tw1467832305158666810:=()
def tw13144282918183418988:=()
def tw4068704983345535289:=()
def tw10783951109285394951:=()
def tw1762185789591412701:=()
def tw15046416623625477584:=()
def tw13782872868094501097:=()
def tw11012367092147593337:=()
def tw2537496547848837292:=()
def tw17525815769395175236:=()
def tw13431360213839604236:=()
def tw6319886047680556366:=()
def tw7215520990584348857:=()
def tw3457228281701990403:=()
def tw15644715496798404416:=()
def tw15734407747069985218:=()
def tw10339635880286118717:=()
def tw6422226556411706246:=()
def tw12028439713958102578:=()
def tw8182660942626434251:=()
def tw16083330050118322792:=()
def tw1298668611243221200:=()
def tw7734535270028091715:=()
def tw13563583805957352102:=()
def tw16792691545421427104:=()
def tw556461083837959283:=()
def tw5609305514163300045:=()
def tw6093809743237534865:=()
def tw2639393893805868921:=()
def tw4449763011574436079:=()
def tw586410179375660998:=()
def tw2206970219541405900:=()
def tw13222853954790030968:=()
def tw18443020811539472123:=()
def tw302944386932327322:=()
def tw2742748411302969893:=()
def tw16589209219190120137:=()
def tw6598303737593761915:=()
def tw12304372304754545216:=()
def tw14355385711319305141:=()
def tw15620241903118046312:=()
def tw14912400941173412971:=()
def tw3484330521826576532:=()
def tw15524043088564018712:=()
def tw12017489573362073768:=()
def tw11601597728991351248:=()
def tw9290040315210220731:=()
def tw11308516136179715246:=()
def tw7842256938127244459:=()
def tw6566745562297430814:=()
def tw6651673415317096796:=()
def tw17194137616765095523:=()
def tw3484844326891138035:=()
def tw9458591555168949570:=()
def tw15395411101093292800:=()
def tw13069428945456947759:=()
def tw15378223735865604584:=()
def tw6688455872528209642:=()
def tw3944849029853665872:=()
def tw5083237396657086530:=()
def tw12231250503819035186:=()
def tw7077074438373493973:=()
def tw3998227697867875754:=()
def tw14148580482679397968:=()
def tw8032184338590226558:=()
def tw12851770734116064308:=()
def tw11300720931112009464:=()
def tw17297718777985671867:=()
def tw14451131852531582310:=()
def tw1518525501925089880:=()
def tw13183502581631661198:=()
def tw456636284622142055:=()
def tw6016355540266966552:=()
def tw6923711118224640444:=()
def tw16356185622088134084:=()
def tw4626477863364962492:=()
def tw7928516693243073320:=()
def tw16834040507720122441:=()
def tw1067081300990256251:=()
def tw471107449037751436:=()
def tw13714361297171415105:=()
def tw16609388163391614421:=()
def tw17902422274949808378:=()
def tw17725814420494772264:=()
def tw15794285593844069287:=()
def tw14411654812556385817:=()
def tw9135004698937720280:=()
def tw3878967682735621447:=()
def tw10026659855978202147:=()
def tw7379942722295058822:=()
def tw15776054555555632614:=()
def tw15936090169802611249:=()
def tw8830289211170216087:=()
def tw3650031984656786590:=()
def tw10425046073417612288:=()
def tw12555453326380773573:=()
def tw5230900107391359386:=()
def tw7769458859360235802:=()
def tw10018855275364802195:=()
def tw11541097888513519390:=()
def tw3974984251828963391:=()
def tw15141278709446050811:=()
def tw4788071901264264085:=()
def tw17261800671676292232:=()
def tw8630329114409808443:=()
def tw7546000481231017179:=()
def tw12384145828294462082:=()
def tw17468850843137870246:=()
def tw16717276781325337484:=()
def tw15352299979274792456:=()
def tw11896960456443779703:=()
def tw13447616560235493208:=()
def tw1554174667539961238:=()
def tw1200145628956491457:=()
def tw11196515585548140142:=()
def tw15083327908777167686:=()
def tw2496914008423978519:=()
def tw6409283153480350007:=()
def tw9874624816811472526:=()
def tw2357195293173841560:=()
def tw12022984652912397205:=()
def tw15903302343299334558:=()
def tw13516526342333329780:=()
def tw4825012517620522306:=()
def tw9729001847272796504:=()
def tw10100011688675497699:=()
def tw8056663473044126957:=()
def tw12212706864964831380:=()
def tw1692878073773322054:=()
def tw12093612935848618629:=()
def tw6042786019561258745:=()
def tw3042577982318927044:=()
def tw12212557317372976573:=()
def tw5304970623789964941:=()
def tw5684325564218280858:=()
def tw14279206828086489202:=()
def tw8240082372673599818:=()
def tw8173334151512515122:=()
def tw15201306389591935745:=()
def tw6038908451679676377:=()
def tw7302214214515505563:=()
def tw1761648318428384979:=()
def tw11987714675884099623:=()
def tw75109218234123229:=()
def tw2475886361792235441:=()
def tw687633892308138332:=()
def tw5599735924143620150:=()
def tw14543640612080925360:=()
def tw8462765355647595717:=()
def tw14709882507648582059:=()
def tw4254916965390226166:=()
def tw10089886915017766986:=()
def tw17094230394153597501:=()
def tw9574431153440985717:=()
def tw1715414331362851193:=()
def tw11426494776740274744:=()
def tw18090979722862067284:=()
def tw17558013491815628441:=()
def tw450278109987674087:=()
def tw12375953021442369250:=()
def tw9770081263163996347:=()
def tw11430706933506426665:=()
def tw13271802737824784525:=()
def tw2939761034185059988:=()
def tw14132244501336028950:=()
def tw4776012341832140868:=()
def tw5756004105764800398:=()
def tw5827733027660682279:=()
def tw6699874460284542973:=()
def tw7392530863447199583:=()
def tw17212574230851325389:=()
def tw7627508106726518784:=()
def tw14626752452077660565:=()
def tw1435347941820502951:=()
def tw4002983207738453065:=()
def tw4433023286023968702:=()
def tw3862211206284083085:=()
def tw15248803964451840518:=()
def tw8730135372996893925:=()
def tw7480803936459810309:=()
def tw8260549555513839076:=()
def tw16740811286324147434:=()
def tw1470979622777460777:=()
def tw14468771849434577809:=()
def tw1221466684098579115:=()
def tw5747763411561401755:=()
def tw16706349598034001859:=()
def tw8782636533623786801:=()
def tw12952350665983451103:=()
def tw600596435937643877:=()
def tw13159070870761339938:=()
def tw1195126662440052252:=()
def tw6872275963607422363:=()
def tw6524033152780596661:=()
def tw8275694908685730273:=()
def tw12299569516494959428:=()
def tw8103149253346132170:=()
def tw6675713220439334017:=()
def tw15198634936414484106:=()
def tw5958134554142310240:=()
def tw10899730920156567820:=()
def tw12612054315408868495:=()
def tw15600163458566574634:=()
def tw3600384549124705616:=()
def tw17974137855631561365:=()
def tw14495434966439613854:=()
def tw15461055427871803393:=()
def tw15656749689723219337:=()
def tw4020772611414520837:=()
def tw3756195264605351824:=()
def tw11377160122795531198:=()
def tw17457908713515620145:=()
def tw17628544419766456180:=()
def tw2930996968612686010:=()
def tw904220421626049940:=()
def tw10697645506692209178:=()
def tw1371240818827428095:=()
def tw5659251319594025700:=()
def tw14924285664719936460:=()
def tw9631274228284572002:=()
def tw15105276882070252979:=()
def tw11415373538132503264:=()
def tw10629641634117669757:=()
def tw9623216908867558964:=()
def tw4474490301686386253:=()
def tw17947660368984108675:=()
def tw10799760999249654435:=()
def tw3187577879124716287:=()
def tw17674215394858684156:=()
def tw10042349979263869784:=()
def tw17390408030203570933:=()
def tw4209526228271537991:=()
def tw17710739485654696530:=()
def tw4736584053383712381:=()
def tw16046803527683417081:=()
def tw17072663551878276184:=()
def tw6728274399897545492:=()
def tw1603854219193135129:=()
def tw441688356598184966:=()
def tw2699674505093636385:=()
def tw9642844451879757388:=()
def tw16944940924014772163:=()
def tw3965634338895713433:=()
def tw14185957605005927069:=()
def tw17128974615854622095:=()
def tw16886693379060035468:=()
def tw4972160558671906571:=()
def tw7275209843941162405:=()
def tw9754411469956108611:=()
def tw2465022615781163939:=()
def tw13718933607747918857:=()
def tw18019652323081299007:=()
def tw12123039870590018153:=()
def tw4046986448217663239:=()
def tw708192967759886820:=()
def tw9196455942313059871:=()
def tw16773606228377880058:=()
def tw13584026048166235537:=()
def tw15999524228854298912:=()
def tw15099808856079768483:=()
def tw16313510458665652480:=()
def tw13836430323823450180:=()
def tw2171937928785286065:=()
def tw10377479745414116935:=()
def tw9229785791987657704:=()
def tw6782843797626774324:=()
def tw6045194609657591740:=()
def tw7807321221862153405:=()
def tw6043941145087556439:=()
def tw7875994308101473330:=()
def tw13364480762071694338:=()
def tw9945401457324871972:=()
def tw9479620760199185005:=()
def tw6809544251891258441:=()
end PySem.W.Fast
open PySem PySem.W PyProof.Rows
set_option maxRecDepth 100000 in
set_option maxHeartbeats 0 in
theorem PySem.Challenge.cw_asktally_k65_idle_helper_holds : PySem.Challenge.rw_asktally_k65_idle_helper.Holds := by
 w_on; o_law; k_head; (case hw=>w_witness2)
 k_fill
 refine Mine.walk (l:=PySem.Challenge.rw_asktally_k65_idle_helper) rfl rfl (fun w h Y=>PySem.W.kIn_of Y) ?F
 case F =>
  intro w mg fa h KX G hmg
  refine' Mine.all_mk KX G hmg ?a0 ?l0 ?c0 ?k0 ?a1 ?l1 ?c1 ?k1 ?a2 ?l2 ?c2 ?k2 ?a3 ?l3 ?c3 ?k3 ?a4 ?l4 ?c4 ?k4 ?a5 ?l5 ?c5 ?k5 ?a6 ?l6 ?c6 ?k6 ?a7 ?l7 ?c7 ?k7 ?a8 ?l8 ?c8 ?k8 ?a9 ?l9 ?c9 ?k9 ?a10 ?l10 ?c10 ?k10 ?a11 ?l11 ?c11 ?k11 ?a12 ?l12 ?c12 ?k12 ?a13 ?l13 ?c13 ?k13 ?a14 ?l14 ?c14 ?k14 ?a15 ?l15 ?c15 ?k15 ?a16 ?l16 ?c16 ?k16 ?a17 ?l17 ?c17 ?k17 ?a18 ?l18 ?c18 ?k18 ?a19 ?l19 ?c19 ?k19 ?a20 ?l20 ?c20 ?k20 ?a21 ?l21 ?c21 ?k21 ?a22 ?l22 ?c22 ?k22 ?a23 ?l23 ?c23 ?k23 ?a24 ?l24 ?c24 ?k24 ?a25 ?l25 ?c25 ?k25 ?a26 ?l26 ?c26 ?k26 ?a27 ?l27 ?c27 ?k27 ?a28 ?l28 ?c28 ?k28 ?a29 ?l29 ?c29 ?k29 ?a30 ?l30 ?c30 ?k30 ?a31 ?l31 ?c31 ?k31 ?a32 ?l32 ?c32 ?k32 ?a33 ?l33 ?c33 ?k33 ?a34 ?l34 ?c34 ?k34 ?a35 ?l35 ?c35 ?k35 ?a36 ?l36 ?c36 ?k36 ?a37 ?l37 ?c37 ?k37 ?a38 ?l38 ?c38 ?k38 ?a39 ?l39 ?c39 ?k39 ?a40 ?l40 ?c40 ?k40 ?a41 ?l41 ?c41 ?k41 ?gmgg ?gmaI ?gmiI ?gmlI ?gmcI ?gmkI ?gmaM ?gmiM ?gmlM ?gmcM ?gmkM ?gmaW ?gmiW ?gmlW ?gmcW ?gmkW ?gmaC ?gmiC ?gmlC ?gmcC ?gmkC ?gmpg ?gmhdi ?gmpov ?gmsat ?gmmki ?gmkcl ?gmn_switches ?gmn_trees ?gmn_field ?gmn_degrees ?dbgg ?dbaI ?dbiI ?dblI ?dbcI ?dbkI ?dbaW ?dbiW ?dblW ?dbcW ?dbkW ?dbaU ?dbiU ?dblU ?dbcU ?dbkU ?dbaH ?dbiH ?dblH ?dbcH ?dbkH ?dbaT ?dbiT ?dblT ?dbcT ?dbkT ?dbaC ?dbiC ?dblC ?dbcC ?dbkC ?dbaB ?dbiB ?dblB ?dbcB ?dbkB ?dbaR ?dbiR ?dblR ?dbcR ?dbkR ?dbaG ?dbiG ?dblG ?dbcG ?dbkG ?dbaE ?dbiE ?dblE ?dbcE ?dbkE ?dbaN ?dbiN ?dblN ?dbcN ?dbkN ?dbpg ?dbhdi ?dbpov ?dbsat ?dbmki ?dbkcl ?dbn_game ?dbn_awaited ?dbn_claims ?dbn_s ?dbn_heard ?dbn_tossed ?dbn_held ?dbn_places ?asgg ?asaI ?asiI ?aslI ?ascI ?askI ?aspg ?ashdi ?aspov ?assat ?asmki ?askcl ?asn_game ?asn_number ?asn_many ?asn_held ?asn_s ?asn_tossed ?asn_truths ?mcgg ?mcaI ?mciI ?mclI ?mccI ?mckI ?mcaS ?mciS ?mclS ?mccS ?mckS ?mcaR ?mciR ?mclR ?mccR ?mckR ?mcaN ?mciN ?mclN ?mccN ?mckN ?mcpg ?mchdi ?mcpov ?mcsat ?mcmki ?mckcl ?mcn_game ?mcn_helper ?mcn_next_round ?mcn_boxes ?gmr ?ge ?gmo ?z0 ?z1 ?z2 ?z3 ?z4 ?z5 ?z6 ?z7 ?z8 ?z9 ?z10 ?z11 ?z12 ?z13 ?z14
  (case a0=>k_is); (case l0=>k_is); (case c0=>k_is); (case k0=>k_is)
  (case a1=>k_is); (case l1=>k_is); (case c1=>k_is); (case k1=>k_is)
  (case a2=>k_is); (case l2=>k_is); (case c2=>k_is); (case k2=>k_is)
  (case a3=>k_is); (case l3=>k_is); (case c3=>k_is); (case k3=>k_is)
  (case a4=>k_is); (case l4=>k_is); (case c4=>k_is); (case k4=>k_is)
  (case a5=>k_is); (case l5=>k_is); (case c5=>k_is); (case k5=>k_is)
  (case a6=>k_is); (case l6=>k_is); (case c6=>k_is); (case k6=>k_is)
  (case a7=>k_is); (case l7=>k_is); (case c7=>k_is); (case k7=>k_is)
  (case a8=>k_is); (case l8=>k_is); (case c8=>k_is); (case k8=>k_is)
  (case a9=>k_is); (case l9=>k_is); (case c9=>k_is); (case k9=>k_is)
  (case a10=>k_is); (case l10=>k_is); (case c10=>k_is); (case k10=>k_is)
  (case a11=>k_is); (case l11=>k_is); (case c11=>k_is); (case k11=>k_is)
  (case a12=>k_is); (case l12=>k_is); (case c12=>k_is); (case k12=>k_is)
  (case a13=>k_is); (case l13=>k_is); (case c13=>k_is); (case k13=>k_is)
  (case a14=>k_is); (case l14=>k_is); (case c14=>k_is); (case k14=>k_is)
  (case a15=>k_is); (case l15=>k_is); (case c15=>k_is); (case k15=>k_is)
  (case a16=>k_is); (case l16=>k_is); (case c16=>k_is); (case k16=>k_is)
  (case a17=>k_is); (case l17=>k_is); (case c17=>k_is); (case k17=>k_is)
  (case a18=>k_is); (case l18=>k_is); (case c18=>k_is); (case k18=>k_is)
  (case a19=>k_is); (case l19=>k_is); (case c19=>k_is); (case k19=>k_is)
  (case a20=>k_is); (case l20=>k_is); (case c20=>k_is); (case k20=>k_is)
  (case a21=>k_is); (case l21=>k_is); (case c21=>k_is); (case k21=>k_is)
  (case a22=>k_is); (case l22=>k_is); (case c22=>k_is); (case k22=>k_is)
  (case a23=>k_is); (case l23=>k_is); (case c23=>k_is); (case k23=>k_is)
  (case a24=>k_is); (case l24=>k_is); (case c24=>k_is); (case k24=>k_is)
  (case a25=>k_is); (case l25=>k_is); (case c25=>k_is); (case k25=>k_is)
  (case a26=>k_is); (case l26=>k_is); (case c26=>k_is); (case k26=>k_is)
  (case a27=>k_is); (case l27=>k_is); (case c27=>k_is); (case k27=>k_is)
  (case a28=>k_is); (case l28=>k_is); (case c28=>k_is); (case k28=>k_is)
  (case a29=>k_is); (case l29=>k_is); (case c29=>k_is); (case k29=>k_is)
  (case a30=>k_is); (case l30=>k_is); (case c30=>k_is); (case k30=>k_is)
  (case a31=>k_is); (case l31=>k_is); (case c31=>k_is); (case k31=>k_is)
  (case a32=>k_is); (case l32=>k_is); (case c32=>k_is); (case k32=>k_is)
  (case a33=>k_is); (case l33=>k_is); (case c33=>k_is); (case k33=>k_is)
  (case a34=>k_is); (case l34=>k_is); (case c34=>k_is); (case k34=>k_is)
  (case a35=>k_is); (case l35=>k_is); (case c35=>k_is); (case k35=>k_is)
  (case a36=>k_is); (case l36=>k_is); (case c36=>k_is); (case k36=>k_is)
  (case a37=>k_is); (case l37=>k_is); (case c37=>k_is); (case k37=>k_is)
  (case a38=>k_is); (case l38=>k_is); (case c38=>k_is); (case k38=>k_is)
  (case a39=>k_is); (case l39=>k_is); (case c39=>k_is); (case k39=>k_is)
  (case a40=>k_is); (case l40=>k_is); (case c40=>k_is); (case k40=>k_is)
  (case a41=>k_is); (case l41=>k_is); (case c41=>k_is); (case k41=>k_is)
  (case gmgg=>k_is)
  (case gmaI=>k_is)
  (case gmiI=>k_is)
  (case gmlI=>k_is)
  (case gmcI=>k_is)
  (case gmkI=>k_is)
  (case gmaM=>k_is)
  (case gmiM=>k_is)
  (case gmlM=>k_is)
  (case gmcM=>k_is)
  (case gmkM=>k_is)
  (case gmaW=>k_is)
  (case gmiW=>k_is)
  (case gmlW=>k_is)
  (case gmcW=>k_is)
  (case gmkW=>k_is)
  (case gmaC=>k_is)
  (case gmiC=>k_is)
  (case gmlC=>k_is)
  (case gmcC=>k_is)
  (case gmkC=>k_is)
  (case gmpg=>k_is)
  (case gmhdi=>k_is)
  (case gmpov=>k_is)
  (case gmsat=>k_is)
  (case gmmki=>k_is)
  (case gmkcl=>k_is)
  (case gmn_switches=>k_is)
  (case gmn_trees=>k_is)
  (case gmn_field=>k_is)
  (case gmn_degrees=>k_is)
  (case dbgg=>k_is)
  (case dbaI=>k_is)
  (case dbiI=>k_is)
  (case dblI=>k_is)
  (case dbcI=>k_is)
  (case dbkI=>k_is)
  (case dbaW=>k_is)
  (case dbiW=>k_is)
  (case dblW=>k_is)
  (case dbcW=>k_is)
  (case dbkW=>k_is)
  (case dbaU=>k_is)
  (case dbiU=>k_is)
  (case dblU=>k_is)
  (case dbcU=>k_is)
  (case dbkU=>k_is)
  (case dbaH=>k_is)
  (case dbiH=>k_is)
  (case dblH=>k_is)
  (case dbcH=>k_is)
  (case dbkH=>k_is)
  (case dbaT=>k_is)
  (case dbiT=>k_is)
  (case dblT=>k_is)
  (case dbcT=>k_is)
  (case dbkT=>k_is)
  (case dbaC=>k_is)
  (case dbiC=>k_is)
  (case dblC=>k_is)
  (case dbcC=>k_is)
  (case dbkC=>k_is)
  (case dbaB=>k_is)
  (case dbiB=>k_is)
  (case dblB=>k_is)
  (case dbcB=>k_is)
  (case dbkB=>k_is)
  (case dbaR=>k_is)
  (case dbiR=>k_is)
  (case dblR=>k_is)
  (case dbcR=>k_is)
  (case dbkR=>k_is)
  (case dbaG=>k_is)
  (case dbiG=>k_is)
  (case dblG=>k_is)
  (case dbcG=>k_is)
  (case dbkG=>k_is)
  (case dbaE=>k_is)
  (case dbiE=>k_is)
  (case dblE=>k_is)
  (case dbcE=>k_is)
  (case dbkE=>k_is)
  (case dbaN=>k_is)
  (case dbiN=>k_is)
  (case dblN=>k_is)
  (case dbcN=>k_is)
  (case dbkN=>k_is)
  (case dbpg=>k_is)
  (case dbhdi=>k_is)
  (case dbpov=>k_is)
  (case dbsat=>k_is)
  (case dbmki=>k_is)
  (case dbkcl=>k_is)
  (case dbn_game=>k_is)
  (case dbn_awaited=>k_is)
  (case dbn_claims=>k_is)
  (case dbn_s=>k_is)
  (case dbn_heard=>k_is)
  (case dbn_tossed=>k_is)
  (case dbn_held=>k_is)
  (case dbn_places=>k_is)
  (case asgg=>k_is)
  (case asaI=>k_is)
  (case asiI=>k_is)
  (case aslI=>k_is)
  (case ascI=>k_is)
  (case askI=>k_is)
  (case aspg=>k_is)
  (case ashdi=>k_is)
  (case aspov=>k_is)
  (case assat=>k_is)
  (case asmki=>k_is)
  (case askcl=>k_is)
  (case asn_game=>k_is)
  (case asn_number=>k_is)
  (case asn_many=>k_is)
  (case asn_held=>k_is)
  (case asn_s=>k_is)
  (case asn_tossed=>k_is)
  (case asn_truths=>k_is)
  (case mcgg=>k_is)
  (case mcaI=>k_is)
  (case mciI=>k_is)
  (case mclI=>k_is)
  (case mccI=>k_is)
  (case mckI=>k_is)
  (case mcaS=>k_is)
  (case mciS=>k_is)
  (case mclS=>k_is)
  (case mccS=>k_is)
  (case mckS=>k_is)
  (case mcaR=>k_is)
  (case mciR=>k_is)
  (case mclR=>k_is)
  (case mccR=>k_is)
  (case mckR=>k_is)
  (case mcaN=>k_is)
  (case mciN=>k_is)
  (case mclN=>k_is)
  (case mccN=>k_is)
  (case mckN=>k_is)
  (case mcpg=>k_is)
  (case mchdi=>k_is)
  (case mcpov=>k_is)
  (case mcsat=>k_is)
  (case mcmki=>k_is)
  (case mckcl=>k_is)
  (case mcn_game=>k_is)
  (case mcn_helper=>k_is)
  (case mcn_next_round=>k_is)
  (case mcn_boxes=>k_is)
  (case gmr=>k_is)
  (case ge=>k_is)
  (case gmo=>k_is)
  (case z0=>k_is)
  (case z1=>k_is)
  (case z2=>k_is)
  (case z3=>k_is)
  (case z4=>k_is)
  (case z5=>k_is)
  (case z6=>k_is)
  (case z7=>k_is)
  (case z8=>k_is)
  (case z9=>k_is)
  (case z10=>k_is)
  (case z11=>k_is)
  (case z12=>k_is)
  (case z13=>k_is)
  (case z14=>k_is)
