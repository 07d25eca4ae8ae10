import PyProof.Rows.All
import Wide.All
import OpenK.AllK
import Wide.FinOn
import Lean
import PyProof.EqAt
import PyProof.EqKinds
import PyProof.TupleCall
import PySem.Challenge.RW_asktally_k34_whole_machines_by_a_model
set_option Elab.async false
set_option linter.all false
set_option maxRecDepth 100000
section
open PySem PySem.Spec PyProof.Rows
abbrev zC0:=@wpAny_bind
theorem zF0.{u}{c:Prop}{h:Decidable c}(hc:¬c){α:Sort u}{t e:α}:ite c t e=e:=if_neg hc
abbrev zH0:=@List.length_map
theorem zI0.{u}{c:Prop}{h:Decidable c}(hc:c){α:Sort u}{t e:α}:ite c t e=t:=if_pos hc
abbrev zJ0:=@Nat.le_refl
abbrev zK0:=@wpAny_pure
abbrev zM0:=@List.map_append
abbrev zN0:=@Heap.lt_size
abbrev zO0:=@List.length_append
theorem zP0.{u}{α:Type u}{a b:α}(h:a∈[b]):a=b:=List.mem_singleton.mp h
abbrev zQ0:=@Heap.get?_push_of_some
abbrev zR0:=@Nat.ne_of_lt
abbrev zS0:=@Option.some.inj
theorem zT0.{u}{α:Type u}{l:List α}{i:Nat}{a:α}(h:l[i]?=some a):∃h:i<l.length,l[i]=a:=List.getElem?_eq_some_iff.mp h
abbrev zU0:=@List.getElem?_eq_getElem
abbrev zV0:=@List.getElem?_map
abbrev zW0:=@List.size_toArray
abbrev zX0:=@Int.emod_nonneg
abbrev zY0:=@Int.emod_lt_of_pos
theorem zZ0.{u}{α:Type u}{a b:α}{l:List α}(h:a∈b::l):a=b∨a∈l:=List.mem_cons.mp h
abbrev qA0:=@Heap.get?_push_size
abbrev qB0:=@Nat.le_trans
abbrev qC0:=@Nat.zero_le
theorem qD0.{u}{α:Type u}{a:α}{s t:List α}(h:a∈s++t):a∈s∨a∈t:=List.mem_append.mp h
abbrev qE0:=@Bool.false_ne_true
abbrev qF0:=@List.length_cons
abbrev qG0:=@List.map_cons
abbrev qH0:=@Nat.lt_of_lt_of_le
abbrev qI0:=@Nat.le_succ
abbrev qJ0:=@List.mem_of_getElem?
abbrev qK0:=@List.take_add_one
abbrev qL0:=@List.length_take
theorem qM0{α β:Type}{f:α->β}{x:Option α}{b:β}(h:x.map f=some b):∃a,x=some a/\f a=b:=Option.map_eq_some_iff.mp h
abbrev qN0:=@List.mem_append_right
abbrev qO0:=@List.take_length
abbrev qP0:=@List.mem_cons_self
abbrev qQ0:=@List.mem_cons_of_mem
abbrev qR0:=@Nat.lt_irrefl
abbrev qS0:=@Nat.ne_of_gt
abbrev qT0:=@Int.toNat_natCast
abbrev qU0:=@List.length_singleton
abbrev qV0:=@Int.emod_eq_of_lt
abbrev qW0:=@List.length_range
abbrev qX0:=@List.getD_eq_getElem?_getD
abbrev qY0:=@List.getElem_mem
abbrev qZ0:=@Int.mul_le_mul_of_nonneg_left
end
namespace L2
open PySem PySem.Spec PyProof.Rows
abbrev Key:=Sum Int Str
def pH:Key->Value->Bool
 | .inl k,v=>Value.isInt k v
 | .inr x,v=>Value.isStrOf x v
def keyH(w:World):Key->Int
 | .inl k=>hashInt k
 | .inr x=>hashStr w x
theorem cf:∀{k:Key}{v:Value},pH k v=true->(∃i t,k=Sum.inl i/\v=Value.int i t)∨(∃x t,k=Sum.inr x/\v=Value.str x t)
 | .inl i,v,h=>by
   obtain⟨t,e⟩:=Value.isInt_shape (k:=i) (v:=v) h;exact .inl ⟨i,t,rfl,e⟩
 | .inr x,v,h=>by
   obtain⟨t,e⟩:=Value.isStrOf_shape (x:=x) (v:=v) h;exact .inr ⟨x,t,rfl,e⟩
theorem xc(i:Int)(t:Tok):pH (.inl i) (.int i t)=true:=by simp [pH,Value.isInt]
theorem xa(x:Str)(t:Tok):pH (.inr x) (.str x t)=true:=by simp [pH,Value.isStrOf]
theorem Ds(a b:Int):decide ((Sum.inl a:Key)=Sum.inl b)=(a==b):=by
 by_cases e:a=b
 . subst e;simp
 . have h:¬ (Sum.inl a:Key)=Sum.inl b:=fun q=>e (Sum.inl.inj q)
   rw[decide_eq_false h];exact(beq_eq_false_iff_ne.mpr e).symm
theorem Dp(a b:Str):decide ((Sum.inr a:Key)=Sum.inr b)=decide (a=b):=by
 by_cases e:a=b
 . subst e;simp
 . have h:¬ (Sum.inr a:Key)=Sum.inr b:=fun q=>e (Sum.inr.inj q)
   rw[decide_eq_false h,decide_eq_false e]
theorem Dr(a:Int)(b:Str):decide ((Sum.inl a:Key)=Sum.inr b)=false:=decide_eq_false (fun q=>nomatch q)
theorem Dq(a:Str)(b:Int):decide ((Sum.inr a:Key)=Sum.inl b)=false:=decide_eq_false (fun q=>nomatch q)
def bj(prog:Program)(w:World):PySem.KeyKind prog w Key where
 is:=pH
 hash:=keyH w
 inj:=fun v a b ha hb=>by
  rcases cf ha with⟨i,t,rfl,rfl⟩ | ⟨x,t,rfl,rfl⟩
  . rcases cf hb with⟨j,u,rfl,e⟩ | ⟨y,u,rfl,e⟩
    . injection e with e1 _;rw[e1]
    . exact nomatch e
  . rcases cf hb with⟨j,u,rfl,e⟩ | ⟨y,u,rfl,e⟩
    . exact nomatch e
    . injection e with e1 _;rw[e1]
 byValue:=fun k v h=>by
  rcases cf h with⟨i,t,rfl,rfl⟩ | ⟨x,t,rfl,rfl⟩ <;> rfl
 pyHash:=fun hv h=>by
  rcases cf hv with⟨i,t,rfl,rfl⟩ | ⟨x,t,rfl,rfl⟩
  . exact wpAny_pyHash_int h
  . exact wpAny_pyHash_str h
 eqBool:=fun hu hv h=>by
  rcases cf hu with⟨i,t,rfl,rfl⟩ | ⟨x,t,rfl,rfl⟩
  . rcases cf hv with⟨j,u,rfl,rfl⟩ | ⟨y,u,rfl,rfl⟩
    . rw[Ds]at h;exact wpAny_eqBool_int h
    . rw[Dr]at h;exact SeqAt.EqAt.int_str i t y u _ _ _ _ h
  . rcases cf hv with⟨j,u,rfl,rfl⟩ | ⟨y,u,rfl,rfl⟩
    . rw[Dq]at h;exact SeqAt.EqAt.str_int x t j u _ _ _ _ h
    . rw[Dp]at h;exact wpAny_eqBool_str h
 «strs»:=fun k x t v h=>by
  rcases cf h with⟨i,u,rfl,e⟩ | ⟨y,u,rfl,e⟩
  . exact nomatch e
  . injection e with e1 _;subst e1;cases v <;> rfl
theorem sk(prog:Program)(w:World)(i:Int)(t:Tok):(bj prog w).is (.inl i) (.int i t)=true:=xc i t
theorem sj(prog:Program)(w:World)(x:Str)(t:Tok):(bj prog w).is (.inr x) (.str x t)=true:=xa x t
inductive V where
 | non | bl (b:Bool) | int (i:Int) | str (x:Str) | byt (b:Array UInt8) | flt (b:UInt64) | ref (a:Addr) | ty (n:String)
 deriving DecidableEq
def RelV:V->Value->Prop
 | .non,u=>u=Value.none
 | .bl b,u=>u=Value.bool b
 | .int i,u=>∃t,u=Value.int i t
 | .str x,u=>∃t,u=Value.str x t
 | .byt b,u=>∃t,u=Value.bytes b t
 | .flt b,u=>∃t,u=Value.float b t
 | .ref a,u=>u=Value.ref a
 | .ty n,u=>u=Value.type n
abbrev Vals:List V->List Value->Prop:=Paired RelV
theorem Vals.length{xs:List V}{us:List Value}(r:Vals xs us):xs.length=us.length:=Paired.length r
theorem Vals.get:∀{xs:List V}{us:List Value}{i:Nat}{x:V},Vals xs us->xs[i]?=some x->∃u,us[i]?=some u/\RelV x u
 | _,_,_,_,.nil,e=>by simp at e
 | _,_,0,_,.cons r _,e=>by simp at e;subst e;exact⟨_,rfl,r⟩
 | _,_,i+1,x,.cons _ t,e=>by
   obtain⟨u,h1,h2⟩:=Vals.get (i:=i) (x:=x) t (by simpa using e);exact⟨u,by simpa using h1,h2⟩
theorem Vals.set{x:V}{u:Value}(r:RelV x u):∀{xs:List V}{us:List Value}(i:Nat),Vals xs us->Vals (xs.set i x) (us.set i u)
 | _,_,_,.nil=>.nil
 | _,_,0,.cons _ t=>.cons r t
 | _,_,i+1,.cons q t=>.cons q (Vals.set r i t)
theorem Vals.append:∀{xs ys:List V}{us ws:List Value},Vals xs us->Vals ys ws->Vals (xs++ys) (us++ws)
 | _,_,_,_,.nil,s=>s
 | _,_,_,_,.cons r t,s=>.cons r (Vals.append t s)
theorem Vals.take:∀{xs:List V}{us:List Value}(n:Nat),Vals xs us->Vals (xs.take n) (us.take n)
 | _,_,0,_=>.nil
 | _,_,_+1,.nil=>.nil
 | _,_,n+1,.cons r t=>.cons r (Vals.take n t)
theorem Vals.drop:∀{xs:List V}{us:List Value}(n:Nat),Vals xs us->Vals (xs.drop n) (us.drop n)
 | _,_,0,r=>r
 | _,_,_+1,.nil=>.nil
 | _,_,n+1,.cons _ t=>Vals.drop n t
def RelO:Option V->Option Value->Prop
 | some v,some u=>RelV v u
 | none,none=>True
 | _,_=>False
def KV{κ:Type}:List (κ×V)->List (κ×Value)->Prop:=Paired fun(p:κ×V)(q:κ×Value)=>p.1=q.1/\RelV p.2 q.2
def kV:Key->V
 | .inl i=>.int i
 | .inr x=>.str x
inductive HO where
 | lst (xs:List V)
 | tup (xs:List V)
 | dK (kvs:List (Key×V)) | dT (kvs:List (List Key×V))
 | set (S:Int->Bool) (n:Nat)
 | ins (C dx:Addr) (fs:List (Str×V))
 | own (x:Addr)
 | xd (fs:List (Str×V))
 | met (f x:Addr)
 | rng (lo hi:Int)
 | frz (o:Obj) (u:HO)
 | tbl (ps:Array Value)
 | ext (φ:Heap->Prop)
abbrev Hp:=Addr->Option HO
def upd(H:Hp)(a:Addr)(o:HO):Hp:=fun b=>if b=a then some o else H b
theorem aE{H:Hp}{a:Addr}{o:HO}:upd H a o a=some o:=by unfold upd;rw[zI0 rfl]
theorem am{H:Hp}{a b:Addr}{o:HO}(h:b≠a):upd H a o b=H b:=by unfold upd;rw[zF0 h]
theorem be{H:Hp}{a b:Addr}{o u:HO}(h:H a=some o)(h':H b=some u)(d:o≠u):a≠b:=by
 intro e;subst e;rw[h]at h';exact d (zS0 h')
theorem aO{H:Hp}{a b:Addr}{o:HO}(h:H a=some o)(h':H b=none):a≠b:=by
 intro e;subst e;rw[h]at h';cases h'
section
variable (P:Program) (w:World)
def ObjOk(H:Hp)(h:Heap)(a:Addr):HO->Prop
 | .lst xs=>xs.length<=sizeLine/\∃(its:List Value) (n:Nat),Vals xs its/\h.get? a=some { cls:=.type "list",data:=.seq its.toArray n }
 | .tup xs=>xs.length<=sizeLine/\∃its:List Value,Vals xs its/\IsTup h a its.toArray/\∃o,h.get? a=some o/\o.dict=none
 | .dK kvs=>kvs.length<=sizeLine/\(a==sysModules)=false/\∃vs,KV kvs vs/\h.DictOf (bj P w) a vs
 | .dT kvs=>kvs.length<=sizeLine/\(a==sysModules)=false/\∃xs:List (List Key×Addr×Value),
  Paired (fun(p:List Key×V)(q:List Key×Addr×Value)=>p.1=q.1/\H q.2.1=some (.tup (p.1.map kV))/\RelV p.2 q.2.2) kvs xs/\
  ∃o es ep,h.get? a=some o/\o.ExactDict/\o.data=.dict es ep/\es.toList=xs.map (entryOfKey (tupleKind (bj P w)))/\(xs.map (·.1)).Nodup
 | .set S n=>h.SetOf (intKind P w) a S n
 | .ins C dx fs=>H dx=some (.own a)/\fs.length<=1000/\dx≠a/\h.get? a=some (PySem.W.instObj C dx)/\
  ∃mA,h.Ns1 dx mA/\(∀f,RelO (fs.lookup f) (mA f))/\PySem.Within mA (fs.map (·.1))
 | .own _=>∃o,h.get? a=some o
 | .xd fs=>∃mA,h.Ns1 a mA/\∀f,RelO (fs.lookup f) (mA f)
 | .rng lo hi=>∃t u v,h.get? a=some { cls:=.type "range",data:=.fields #[.int lo t,.int hi u,.int 1 v] }
 | .frz o u=>h.get? a=some o/\ObjOk H h a u
 | .tbl ps=>h.get? a=some { cls:=.none,data:=.fields ps }
 | .met f x=>h.get? a=some (PySem.W.methodObj (.ref f) (.ref x))
 | .ext φ=>φ h/\(∃o,h.get? a=some o)/\∀h1 h2:Heap,φ h1->(∀o,h1.get? a=some o->h2.get? a=some o)->φ h2
def HOk(H:Hp)(h:Heap):Prop:=∀a o,H a=some o->ObjOk P w H h a o
end
section
variable {P:Program} {w:World} {H H':Hp} {h h':Heap} {a:Addr} {o:HO}
theorem ObjOk.lt(x:ObjOk P w H h a o):a<h.objs.size:=by
 cases o with
 | lst xs=>obtain⟨_,_,_,_,e⟩:=x;exact zN0 e
 | tup xs=>obtain⟨_,_,_,p,_⟩:=x;exact p.lt
 | dK kvs=>obtain⟨_,_,_,_,o,_,_,e,_⟩:=x;exact zN0 e
 | dT kvs=>obtain⟨_,_,_,_,o,_,_,e,_⟩:=x;exact zN0 e
 | set S n=>obtain⟨o,_,_,_,e,_⟩:=x;exact zN0 e
 | ins C dx fs=>obtain⟨_,_,_,e,_⟩:=x;exact zN0 e
 | own y=>obtain⟨_,e⟩:=x;exact zN0 e
 | xd fs=>obtain⟨_,⟨_,_,_,e,_⟩,_⟩:=x;exact zN0 e
 | rng lo hi=>obtain⟨_,_,_,e⟩:=x;exact zN0 e
 | frz ob u=>obtain⟨e,_⟩:=x;exact zN0 e
 | tbl ps=>exact zN0 (show h.get? a=some _ from x)
 | met f y=>exact zN0 (show h.get? a=some _ from x)
 | ext φ=>obtain⟨_,⟨_,e⟩,_⟩:=x;exact zN0 e
theorem Paired.mapP{α β:Type}{F G:α->β->Prop}:∀{l₁:List α}{l₂:List β},Paired F l₁ l₂->(∀a b,F a b->G a b)->Paired G l₁ l₂
 | _,_,.nil,_=>.nil
 | _,_,.cons r t,f=>.cons (f _ _ r) (Paired.mapP t f)
theorem ObjOk.stay(x:ObjOk P w H h a o)(k:∀b u,(b=a∨H b=some (.own a))->h.get? b=some u->h'.get? b=some u)
 (ho:∀b,H b=some (.own a)->H' b=some (.own a)) (ht:∀b xs,H b=some (.tup xs)->H' b=some (.tup xs)):ObjOk P w H' h' a o:=by
 induction o with
 | lst xs=>obtain⟨z,its,n,r,e⟩:=x;exact⟨z,its,n,r,k _ _ (.inl rfl) e⟩
 | tup xs=>obtain⟨z,its,r,⟨ob,e,c⟩,od,e2,d⟩:=x;exact⟨z,its,r,⟨ob,k _ _ (.inl rfl) e,c⟩,od,k _ _ (.inl rfl) e2,d⟩
 | dK kvs=>obtain⟨z,y,vs,r,ob,es,ep,e,c⟩:=x;exact⟨z,y,vs,r,ob,es,ep,k _ _ (.inl rfl) e,c⟩
 | dT kvs=>
   obtain⟨z,y,xs,r,ob,es,ep,e,c⟩:=x;exact⟨z,y,xs,Paired.mapP r fun p q z=>⟨z.1,ht _ _ z.2.1,z.2.2⟩,ob,es,ep,k _ _ (.inl rfl) e,c⟩
 | set S n=>obtain⟨ob,es,ep,t,e,c⟩:=x;exact⟨ob,es,ep,t,k _ _ (.inl rfl) e,c⟩
 | ins C dx fs=>
   obtain⟨d,z,ne,e,mA,⟨od,es,ep,e2,c⟩,r⟩:=x;exact⟨ho _ d,z,ne,k _ _ (.inl rfl) e,mA,⟨od,es,ep,k _ _ (.inr d) e2,c⟩,r⟩
 | own y=>obtain⟨ob,e⟩:=x;exact⟨ob,k _ _ (.inl rfl) e⟩
 | xd fs=>obtain⟨mA,⟨od,es,ep,e,c⟩,r⟩:=x;exact⟨mA,⟨od,es,ep,k _ _ (.inl rfl) e,c⟩,r⟩
 | rng lo hi=>obtain⟨t,u,v,e⟩:=x;exact⟨t,u,v,k _ _ (.inl rfl) e⟩
 | frz ob u ih=>obtain⟨e,q⟩:=x;exact⟨k _ _ (.inl rfl) e,ih q⟩
 | tbl ps=>
   have e:h.get? a=some { cls:=.none,data:=.fields ps }:=x;show h'.get? a=some { cls:=.none,data:=.fields ps };exact k a _ (.inl rfl) e
 | met f y=>
   have e:h.get? a=some (PySem.W.methodObj (.ref f) (.ref y)):=x;show h'.get? a=some (PySem.W.methodObj (.ref f) (.ref y));exact k a _ (.inl rfl) e
 | ext φ=>obtain⟨p,⟨o,e⟩,st⟩:=x;exact⟨st _ _ p fun o q=>k _ _ (.inl rfl) q,⟨o,k _ _ (.inl rfl) e⟩,st⟩
theorem HOk.lt(x:HOk P w H h)(e:H a=some o):a<h.objs.size:=(x a o e).lt
theorem HOk.fresh(x:HOk P w H h)(e:h.objs.size<=a):H a=none:=by
 cases q:H a with
 | none=>rfl
 | some u=>exact absurd (qH0 (x.lt q) e) (qR0 _)
theorem HOk.kept(x:HOk P w H h)(k:∀b u,h.get? b=some u->h'.get? b=some u):HOk P w H h':=fun a o e=>
 (x a o e).stay (fun b u _ q=>k b u q) (fun _ q=>q) fun _ _ q=>q
theorem HOk.laid(x:HOk P w H h)(k:∀b u,h.get? b=some u->h'.get? b=some u)(hp:h.objs.size<=a)(new:ObjOk P w (upd H a o) h' a o):HOk P w (upd H a o) h':=fun b u e=>by
 have hn:=x.fresh hp
 by_cases hb:b=a
 . subst hb;rw[aE]at e;cases e;exact new
 . rw[am hb]at e;exact(x b u e).stay (fun c v _ q=>k c v q) (fun c q=>by rw[am (aO q hn)];exact q) fun c xs q=>by rw[am (aO q hn)];exact q
end
def Rd(H:Hp)(a:Addr)(u:HO):Prop:=H a=some u∨∃o,H a=some (.frz o u)
theorem Rd.ok{P:Program}{w:World}{H:Hp}{h:Heap}{a:Addr}{u:HO}(r:Rd H a u)(x:HOk P w H h):ObjOk P w H h a u:=by
 rcases r with r | ⟨o,r⟩
 . exact x a u r
 . obtain⟨_,q⟩:=x a _ r;exact q
def Mut:Option HO->Prop
 | some (.lst _)=>True
 | some (.dK _)=>True
 | some (.dT _)=>True
 | some (.set _ _)=>True
 | some (.ins _ _ _)=>True
 | some (.ext _)=>True
 | _=>False
section
variable {P:Program} {w:World} {H:Hp} {h h':Heap} {x e:Addr} {o':HO}
theorem HOk.write(ok:HOk P w H h)(mu:Mut (H x))(he:e=x∨H e=some (.own x))(k:∀b u,b≠e->h.get? b=some u->h'.get? b=some u)(heo:∃u,h'.get? e=some u)
 (new:ObjOk P w (upd H x o') h' x o'):HOk P w (upd H x o') h':=fun b u q=>by
 have nown:∀c y,H c=some (.own y)->c≠x:=fun c y r z=>by subst z;rw[r]at mu;exact mu
 have ntup:∀c xs,H c=some (.tup xs)->c≠x:=fun c xs r z=>by subst z;rw[r]at mu;exact mu
 by_cases hb:b=x
 . subst hb;rw[aE]at q;cases q;exact new
 . rw [am hb]at q
   by_cases hbe:b=e
   . have q':H b=some (.own x):=by
      rcases he with z | z
      . exact absurd (hbe.trans z) hb
      . rw[hbe];exact z
     rw[q]at q';cases q';obtain⟨v,hv⟩:=heo;exact⟨v,by rw[hbe];exact hv⟩
   . refine (ok b u q).stay (fun c v hc r=>k c v ?_ r) (fun c r=>by rw[am (nown c b r)];exact r) fun c xs r=>by rw[am (ntup c xs r)];exact r
     rcases hc with rfl | hc
     . exact hbe
     . rintro rfl;rcases he with z | z
       . exact nown c b hc z
       . rw[hc]at z;cases z;exact hb rfl
end
structure Un(fs ex:List Addr)(H H':Hp)(h h':Heap):Prop where
 keep:∀b o,h.get? b=some o->H b=none->b∉fs->b∉ex->h'.get? b=some o
 slot:∀b o,h.get? b=some o->H b=none->b∈fs->b∉ex->∃sl,h'.get? b=some { o with slots:=sl }
 free:∀b o,h.get? b=some o->H b=none->b∉ex->H' b=none
 there:∀b o,h.get? b=some o->b∉ex->∃o',h'.get? b=some o'
 tups:∀b xs,H b=some (.tup xs)->H' b=some (.tup xs)
 frzs:∀b o u,H b=some (.frz o u)->H' b=some (.frz o u)
 tbls:∀b ps,H b=some (.tbl ps)->∃more,H' b=some (.tbl (ps++more))
section
variable {fs fs' ex ex':List Addr} {H H1 H2:Hp} {h h1 h2 h':Heap} {a x e:Addr} {o:HO}
theorem Un.any(u:Un fs ex H H1 h h1){b:Addr}{ob:Obj}(q:h.get? b=some ob)(n:H b=none)(hx:b∉ex):∃sl,h1.get? b=some { ob with slots:=sl }:=by
 by_cases hb:b∈fs
 . exact u.slot b ob q n hb hx
 . exact⟨ob.slots,u.keep b ob q n hb hx⟩
theorem Un.kept(k:∀b u,h.get? b=some u->h'.get? b=some u):Un fs ex H H h h':=
 ⟨fun b ob q _ _ _=>k b ob q,fun b ob q _ _ _=>⟨ob.slots,k b ob q⟩,fun _ _ _ n _=>n,fun b ob q _=>⟨ob,k b ob q⟩,fun _ _ q=>q,fun _ _ _ q=>q,fun _ ps q=>⟨#[],by rw[q];simp⟩⟩
theorem Un.refl:Un fs ex H H h h:=Un.kept fun _ _ q=>q
theorem Un.laid(k:∀b u,h.get? b=some u->h'.get? b=some u)(hp:h.objs.size<=a)(hn:H a=none):Un fs ex H (upd H a o) h h' where
 keep:=fun b u q _ _ _=>k b u q
 slot:=fun b u q _ _ _=>⟨u.slots,k b u q⟩
 free:=fun b u q n _=>by rw[am (zR0 (qH0 (zN0 q) hp))];exact n
 there:=fun b u q _=>⟨u,k b u q⟩
 tups:=fun b xs q=>by rw[am (aO q hn)];exact q
 frzs:=fun b u xs q=>by rw[am (aO q hn)];exact q
 tbls:=fun b ps q=>⟨#[],by rw[am (aO q hn),q];simp⟩
theorem Un.write(mu:Mut (H x))(he:e=x∨H e=some (.own x))(k:∀b u,b≠e->h.get? b=some u->h'.get? b=some u)(heo:∃u,h'.get? e=some u):Un fs ex H (upd H x o) h h':=by
 have hx:∀b,H b=none->b≠x:=fun b n z=>by subst z;rw[n]at mu;exact mu
 have hb:∀b,H b=none->b≠e:=fun b n z=>by
  subst z;rcases he with r | r
  . exact hx b n r
  . rw[n]at r;cases r
 have hm:∀b u,H b=some u->¬ Mut (some u)->b≠x:=fun b u q nm z=>by subst z;rw[q]at mu;exact nm mu
 refine ⟨fun b u q n _ _=>k b u (hb b n) q,fun b u q n _ _=>⟨u.slots,k b u (hb b n) q⟩,fun b u q n _=>by rw[am (hx b n)];exact n,fun b u q _=>?_,
  fun b xs q=>by rw[am (hm b _ q fun z=>z)];exact q,fun b u xs q=>by rw[am (hm b _ q fun z=>z)];exact q,fun b ps q=>⟨#[],by rw[am (hm b _ q fun z=>z),q];simp⟩⟩
 by_cases hbe:b=e
 . subst hbe;exact heo
 . exact⟨u,k b u hbe q⟩
end
def trk(h:Heap)(H:Hp):List Addr:=(List.range h.objs.size).filter fun a=>(H a).isSome
def qF(h:Heap)(H:Hp):Heap:=PySem.W.hideAll h (trk h H)
theorem xn(h:Heap)(H:Hp):(qF h H).objs.size=h.objs.size:=PySem.W.hideAll_size _ _
theorem zU{h:Heap}{H:Hp}{b:Addr}{o:Obj}(e:h.get? b=some o)(n:H b=none):(qF h H).get? b=some o:=
 PySem.W.hideAll_get _ e fun hm=>by
  have q:(H b).isSome=true:=(List.mem_filter.mp hm).2;rw[n]at q;simp at q
theorem Bj{h:Heap}{H:Hp}{b:Addr}{o:Obj}(e:(qF h H).get? b=some o):h.get? b=some o/\H b=none:=by
 have e':h.get? b=some o:=PySem.W.of_hideAll (trk h H) e;refine⟨e',?_⟩;cases q:H b with
 | none=>rfl
 | some x=>
   have hm:b∈trk h H:=List.mem_filter.mpr ⟨List.mem_range.mpr (zN0 e'),by simp [q]⟩;have z:(qF h H).get? b=none:=PySem.W.hideAll_none (trk h H) hm;rw[z]at e;cases e
structure Mod(K:W.Frag)(mg:Str->Option Value)(base:Heap):Prop where
 kin:K.In base
 glob:base.Ns mainGlobals mg
 blt:∃mb,base.Ns builtinsNs mb/\∀x:Str,x≠"__name__" -> mb x=bootBuiltins x
 nolimit:base.NoLimit
structure Cx where
 prog:Program
 w:World
 K:W.Frag
 mg:Str->Option Value
 base:Heap
 A:Around
 N:List Str
 s₀:Shared
 H₀:Hp
 env:Env
 outer:List Env
 stack:List Env
 ex:List Addr
 fn:Str->Bool
 calm:Bool
 pn:List (Addr×Obj)
 xe:Value->Shared->Prop
def frs(l:List Env):List Addr:=l.filterMap (·.frame)
abbrev Cx.fs(X:Cx):List Addr:=frs X.outer
def Vis(sc:Scope)(x:Str):Prop:=sc.names.lookup x=some .local∨sc.names.lookup x=some .cell∨sc.names.lookup x=some .free
def Loc(sc:Scope)(x:Str):Prop:=sc.names.lookup x=some .local∨sc.names.lookup x=some .cell
def Look(env:Env)(h:Heap)(m:Str->Option Value)(x:Str)(u:Value):Prop:=
 (env.kindOf x=some .local/\m x=some u)∨((env.kindOf x=some .cell∨env.kindOf x=some .free)/\∃c,env.cells.lookup x=some c/\h.IsCell c (some u))
structure Cx.Ok(X:Cx):Prop where
 mod:Mod X.K X.mg X.base
 kind:X.env.scope.kind=.function
 glob:X.env.globals=mainGlobals
 blt:X.env.builtins=builtinsNs
 above:X.s₀.heap.objs.size<=X.env.locals
 inj:∀x y c,X.env.cells.lookup x=some c->X.env.cells.lookup y=some c->x=y
 has:∀x,(X.env.kindOf x=some .cell∨X.env.kindOf x=some .free)->∃c,X.env.cells.lookup x=some c
 cab:∀x c,X.fn x=true->X.env.cells.lookup x=some c->X.s₀.heap.objs.size<=c
 hd:X.calm=true->X.A.handled=none
 frames:X.A.frames=some X.stack
 stk:X.stack=X.outer∨(X.stack=X.env::X.outer/\X.env.frame=some X.env.locals)
 exf:∀b∈X.ex,b≠X.env.locals/\∀x c,X.env.cells.lookup x=some c->c≠b
 bs:∀b o,X.base.get? b=some o->X.s₀.heap.get? b=some o/\X.H₀ b=none
 bsz:X.base.objs.size<=X.s₀.heap.objs.size
 noex:∀b o,X.base.get? b=some o->b∉X.ex
 exfs:∀b∈X.ex,b∉X.fs
 funs:X.s₀.heap.FunFrames X.base X.outer
 frf:∀b∈X.fs,X.H₀ b=none
structure Inv(X:Cx)(pins:List (Addr×Obj))(σ:List (Option V))(H:Hp)(s:Shared):Prop where
 ok:X.Ok
 os:s.os=X.s₀.os
 bare:AllBare s.gens
 base:Un X.fs X.ex X.H₀ H X.s₀.heap s.heap
 loc:∃m,s.heap.Ns X.env.locals m/\∀(i:Nat)(x:Str)(v:V),X.N[i]?=some x->σ[i]?=some (some v)->Vis X.env.scope x->∃u,RelV v u/\Look X.env s.heap m x u
 cell:∀x c,X.env.cells.lookup x=some c->∃v,s.heap.IsCell c v
 free:H X.env.locals=none
 freeC:∀x c,X.env.cells.lookup x=some c->H c=none
 pin:∀p∈X.pn++pins,s.heap.get? p.1=some p.2/\H p.1=none/\p.1≠X.env.locals/\p.1∉X.fs/\∀v,p.2.data≠.cell v
 hok:HOk X.prog X.w H s.heap
 len:σ.length=X.N.length
section
variable {X:Cx} {pins:List (Addr×Obj)} {σ:List (Option V)} {H H':Hp} {s:Shared} {h':Heap}
theorem Cx.Ok.nofr(ok:X.Ok){b:Addr}{o:Obj}(e:X.base.get? b=some o):b∉X.fs:=fun hb=>by
 have:=(ok.funs.mem hb).1
 rw[e]at this;cases this
theorem Inv.bs(I:Inv X pins σ H s):∀b o,X.base.get? b=some o->s.heap.get? b=some o/\H b=none:=fun b o e=>
 ⟨I.base.keep b o (I.ok.bs b o e).1 (I.ok.bs b o e).2 (I.ok.nofr e) (I.ok.noex b o e),I.base.free b o (I.ok.bs b o e).1 (I.ok.bs b o e).2 (I.ok.noex b o e)⟩
theorem Inv.bk(I:Inv X pins σ H s):∀b o,X.base.get? b=some o->s.heap.get? b=some o:=fun b o e=>(I.bs b o e).1
theorem Inv.mod(I:Inv X pins σ H s):Mod X.K X.mg X.base:=I.ok.mod
theorem Inv.kIn(I:Inv X pins σ H s):X.K.In s.heap:=I.ok.mod.kin.keeps I.bk
theorem Inv.lt(I:Inv X pins σ H s):X.env.locals<s.heap.objs.size:=let⟨_,hn,_⟩:=I.loc;hn.lt
theorem Inv.sz(I:Inv X pins σ H s):X.s₀.heap.objs.size<=s.heap.objs.size:=qB0 I.ok.above (Nat.le_of_lt I.lt)
theorem Inv.nofs(I:Inv X pins σ H s){a:Addr}(h:s.heap.objs.size<=a):a∉X.fs:=fun hb=>by
 obtain⟨_,o,ho,_⟩:=I.ok.funs.mem hb;exact absurd (qH0 (zN0 ho) (qB0 I.sz h)) (qR0 _)
theorem Inv.cne(I:Inv X pins σ H s):∀x c,X.env.cells.lookup x=some c->c≠X.env.locals:=fun x c e z=>by
 obtain⟨v,o,ho,hd⟩:=I.cell x c e;obtain⟨m,⟨o',es,ep,ho',hd',_⟩,_⟩:=I.loc;rw[z,ho']at ho;cases ho;rw[hd']at hd;cases hd
theorem Inv.funs(I:Inv X pins σ H s):s.heap.FunFrames X.base X.outer:=by
 have all:∀(l:List Env),(∀b∈frs l,b∈X.fs)->X.s₀.heap.FunFrames X.base l->s.heap.FunFrames X.base l:=by
  intro l
  induction l with
  | nil=>intro _ _;trivial
  | cons env r ih=>
    intro hs hl;obtain⟨hk,⟨L,o,hf,hn,ho,hd⟩,hr⟩:=hl;have hL:L∈X.fs:=hs L (by unfold frs;rw[List.filterMap_cons,hf];exact qP0);obtain⟨sl,e⟩:=I.base.slot L o ho (I.ok.frf L hL) hL fun z=>I.ok.exfs L z hL
    exact⟨hk,⟨L,_,hf,hn,e,hd⟩,ih (fun b hb=>hs b (by unfold frs;rw[List.filterMap_cons,hf];exact qQ0 _ hb)) hr⟩
 exact all X.outer (fun _ hb=>hb) I.ok.funs
theorem Inv.stack(I:Inv X pins σ H s):s.heap.FunFrames X.base X.stack:=by
 rcases I.ok.stk with e | ⟨e,hf⟩
 . rw[e];exact I.funs
 . rw[e];obtain⟨m,hn,_⟩:=I.loc;refine .cons (by rw[I.ok.kind];decide) hf hn ?_ I.funs;exact Heap.get?_none_of_le (qB0 I.ok.bsz I.ok.above)
theorem Inv.stkSub(I:Inv X pins σ H s):∀b∈frs X.stack,b∈X.env.locals::X.fs:=fun b hb=>by
 rcases I.ok.stk with e | ⟨e,hf⟩
 . rw[e]at hb;exact qQ0 _ hb
 . rw[e]at hb;unfold frs at hb;rw[List.filterMap_cons,hf]at hb;exact hb
theorem Inv.stkFree(I:Inv X pins σ H s):∀b∈frs X.stack,H b=none:=fun b hb=>by
 rcases zZ0 (I.stkSub b hb)with e | hb
 . rw[e];exact I.free
 . obtain⟨_,o,ho,_⟩:=I.ok.funs.mem hb;exact I.base.free b o ho (I.ok.frf b hb) fun z=>I.ok.exfs b z hb
theorem Inv.step{g':Array GenState}{t':Nat}{d':Drawn}{ch:List Addr}(I:Inv X pins σ H s)
 (hch:∀b∈ch,(b∈X.ex∨X.s₀.heap.objs.size<=b)/\b≠X.env.locals/\(∀x c,X.env.cells.lookup x=some c->c≠b)/\∀p∈X.pn++pins,p.1≠b)
 (keep:∀b o,b≠X.env.locals->b∉X.fs->b∉ch->s.heap.get? b=some o->H b=none->h'.get? b=some o)
 (slot:∀b o,b≠X.env.locals->b∈X.fs->b∉ch->s.heap.get? b=some o->H b=none->∃sl,h'.get? b=some { o with slots:=sl }) (free:∀b o,b∉ch->s.heap.get? b=some o->H b=none->H' b=none)
 (there:∀b o,b∉ch->s.heap.get? b=some o->∃o',h'.get? b=some o')
 (tups:∀b xs,H b=some (.tup xs)->H' b=some (.tup xs)) (frzs:∀b o u,H b=some (.frz o u)->H' b=some (.frz o u)) (tbls:∀b ps,H b=some (.tbl ps)->∃more,H' b=some (.tbl (ps++more)))
 (ns:∀m,s.heap.Ns X.env.locals m->h'.Ns X.env.locals m) (hok:HOk X.prog X.w H' h') (hg:AllBare g') :
 Inv X pins σ H' { s with heap:=h',gens:=g',drawn:=d',toks:=t' }:=by
 have neL:∀b o,X.s₀.heap.get? b=some o->b≠X.env.locals:=fun b o e=>zR0 (qH0 (zN0 e) I.ok.above)
 have neC:∀b o,X.s₀.heap.get? b=some o->b∉X.ex->b∉ch:=fun b o e hx hb=>by
  rcases(hch b hb).1 with z | z
  . exact hx z
  . exact absurd (qH0 (zN0 e) z) (qR0 _)
 have cellK:∀x c,X.env.cells.lookup x=some c->∀v,s.heap.IsCell c v->h'.IsCell c v:=fun x c e v ⟨o,ho,hd⟩=>by
  have nch:c∉ch:=fun z=>(hch c z).2.2.1 x c e rfl
  by_cases hc:c∈X.fs
  . obtain⟨sl,q⟩:=slot c o (I.cne x c e) hc nch ho (I.freeC x c e);exact⟨_,q,hd⟩
  . exact⟨o,keep c o (I.cne x c e) hc nch ho (I.freeC x c e),hd⟩
 refine⟨I.ok,I.os,hg,⟨fun b o e n hb hx=>?_,fun b o e n hb hx=>?_,fun b o e n hx=>?_,fun b o e hx=>?_,fun b xs e=>tups b xs (I.base.tups b xs e),fun b o xs e=>frzs b o xs (I.base.frzs b o xs e),fun b ps e=>?_⟩,?_,fun x c e=>?_,?_,fun x c e=>?_,fun p hp=>?_,hok,I.len⟩
 . exact keep b o (neL b o e) hb (neC b o e hx) (I.base.keep b o e n hb hx) (I.base.free b o e n hx)
 . obtain⟨sl,e1⟩:=I.base.slot b o e n hb hx;obtain⟨sl',e2⟩:=slot b _ (neL b o e) hb (neC b o e hx) e1 (I.base.free b o e n hx);exact⟨sl',e2⟩
 . obtain⟨o',e1⟩:=I.base.there b o e hx;exact free b o' (neC b o e hx) e1 (I.base.free b o e n hx)
 . obtain⟨o',e1⟩:=I.base.there b o e hx;exact there b o' (neC b o e hx) e1
 . obtain⟨m1,e1⟩:=I.base.tbls b ps e;obtain⟨m2,e2⟩:=tbls b _ e1;exact⟨m1++m2,by rw[e2,Array.append_assoc]⟩
 . obtain ⟨m,hn,hl⟩:=I.loc;refine⟨m,ns m hn,fun i x v e1 e2 e3=>?_⟩;obtain⟨u,r,l⟩:=hl i x v e1 e2 e3;refine⟨u,r,?_⟩;rcases l with l | ⟨k,c,e,z⟩
   . exact .inl l
   . exact .inr ⟨k,c,e,cellK x c e _ z⟩
 . obtain⟨v,z⟩:=I.cell x c e;exact⟨v,cellK x c e v z⟩
 . obtain⟨m,⟨o,_,_,ho,_⟩,_⟩:=I.loc;exact free _ o (fun z=>(hch _ z).2.1 rfl) ho I.free
 . obtain⟨v,o,ho,hd⟩:=I.cell x c e;exact free c o (fun z=>(hch c z).2.2.1 x c e rfl) ho (I.freeC x c e)
 . obtain ⟨e,n,ne,nf,d⟩:=I.pin p hp;have nch:p.1∉ch:=fun z=>(hch p.1 z).2.2.2 p hp rfl
   exact⟨keep p.1 p.2 ne nf nch e n,free p.1 p.2 nch e n,ne,nf,d⟩
theorem Inv.un{t':Nat}(I:Inv X pins σ H s)(u:Un X.fs [] H H' s.heap h')(hok:HOk X.prog X.w H' h'):Inv X pins σ H' { s with heap:=h',toks:=t' }:=by
 obtain ⟨m,⟨o,es,ep,ho,r⟩,_⟩:=id I.loc;obtain⟨sl,hL⟩:=u.any ho I.free (by simp);exact I.step (g':=s.gens) (d':=s.drawn) (ch:=[]) (fun _ z=>nomatch z) (fun b o _ hb _ e n=>u.keep b o e n hb (by simp)) (fun b o _ hb _ e n=>u.slot b o e n hb (by simp)) (fun b o _ e n=>u.free b o e n (by simp)) (fun b o _ e=>u.there b o e (by simp)) u.tups u.frzs u.tbls (fun m' hm=>by
  obtain⟨o',es',ep',ho',r'⟩:=hm;rw[ho]at ho';cases ho';exact⟨_,es',ep',hL,r'⟩) hok I.bare
theorem Inv.call{g':Array GenState}{t':Nat}{d':Drawn}{ch:List Addr}(I:Inv X pins σ H s)(u:Un (frs X.stack) ch H H' s.heap h')(hok:HOk X.prog X.w H' h')(hg:AllBare g')
 (hch:∀b∈ch,(b∈X.ex∨X.s₀.heap.objs.size<=b)/\b≠X.env.locals/\(∀x c,X.env.cells.lookup x=some c->c≠b)/\∀p∈X.pn++pins,p.1≠b) :
 Inv X pins σ H' { s with heap:=h',gens:=g',drawn:=d',toks:=t' }:=by
 obtain⟨m,⟨o,es,ep,ho,r⟩,_⟩:=id I.loc;obtain⟨sl,hL⟩:=u.any ho I.free fun z=>(hch _ z).2.1 rfl
 exact I.step (ch:=ch) hch (fun b o hL hb hc e n=>u.keep b o e n (fun z=>(zZ0 (I.stkSub b z)).elim hL hb) hc) (fun b o _ _ hc e n=>u.any e n hc) (fun b o hc e n=>u.free b o e n hc) (fun b o hc e=>u.there b o e hc) u.tups u.frzs u.tbls (fun m' hm=>by
  obtain⟨o',es',ep',ho',r'⟩:=hm;rw[ho]at ho';cases ho';exact⟨_,es',ep',hL,r'⟩) hok hg
theorem Inv.turned{t':Nat}{it:Addr}(I:Inv X pins σ H s)(k:∀b o,b≠it->s.heap.get? b=some o->h'.get? b=some o)(hn:H it=none)(hL:it≠X.env.locals)
 (h1:it∈X.ex∨X.s₀.heap.objs.size<=it) (h2:∀x c,X.env.cells.lookup x=some c->c≠it) (h3:∀p∈X.pn++pins,p.1≠it):Inv X pins σ H { s with heap:=h',toks:=t' }:=by
 have nit:∀b u,H b=some u->b≠it:=fun b u e z=>by rw[z,hn]at e;cases e
 refine I.step (g':=s.gens) (d':=s.drawn) (ch:=[it]) (fun b hb=>?_) (fun b o _ _ hc e _=>k b o (fun z=>hc (by simp [z])) e) (fun b o _ _ hc e _=>⟨o.slots,k b o (fun z=>hc (by simp [z])) e⟩) (fun _ _ _ _ n=>n)
  (fun b o hc e=>⟨o,k b o (fun z=>hc (by simp [z])) e⟩) (fun _ _ e=>e) (fun _ _ _ e=>e) (fun b ps e=>⟨#[],by rw[e];simp⟩) (fun m hm=>?_) (fun b u e=>?_) I.bare
 . have e:b=it:=by simpa using hb
   subst e;exact⟨h1,hL,h2,h3⟩
 . obtain⟨o,es,ep,ho,r⟩:=hm;exact⟨o,es,ep,k _ o (Ne.symm hL) ho,r⟩
 . refine (I.hok b u e).stay (fun c v hc q=>k c v ?_ q) (fun _ q=>q) fun _ _ q=>q
   rcases hc with z | z
   . rw[z];exact nit b u e
   . exact nit c _ z
theorem Inv.tok(I:Inv X pins σ H s)(t:Nat):Inv X pins σ H { s with toks:=t }:=I.un (h':=s.heap) (t':=t) Un.refl I.hok
theorem Inv.kept{t':Nat}(I:Inv X pins σ H s)(k:∀b u,s.heap.get? b=some u->h'.get? b=some u):Inv X pins σ H { s with heap:=h',toks:=t' }:=I.un (Un.kept k) (I.hok.kept k)
theorem Inv.laid{a:Addr}{o:HO}{t':Nat}(I:Inv X pins σ H s)(k:∀b u,s.heap.get? b=some u->h'.get? b=some u)(hp:s.heap.objs.size<=a)(new:ObjOk X.prog X.w (upd H a o) h' a o) :
 Inv X pins σ (upd H a o) { s with heap:=h',toks:=t' }:=I.un (Un.laid k hp (I.hok.fresh hp)) (I.hok.laid k hp new)
theorem Inv.write{x e:Addr}{o:HO}{t':Nat}(I:Inv X pins σ H s)(mu:Mut (H x))(he:e=x∨H e=some (.own x))(k:∀b u,b≠e->s.heap.get? b=some u->h'.get? b=some u)(heo:∃u,h'.get? e=some u)
 (new:ObjOk X.prog X.w (upd H x o) h' x o):Inv X pins σ (upd H x o) { s with heap:=h',toks:=t' }:=I.un (Un.write mu he k heo) (I.hok.write mu he k heo new)
theorem Inv.pins_of{pins':List (Addr×Obj)}(I:Inv X pins σ H s)(h:∀p∈pins',s.heap.get? p.1=some p.2/\H p.1=none/\p.1≠X.env.locals/\p.1∉X.fs/\∀v,p.2.data≠.cell v):Inv X pins' σ H s:=
 ⟨I.ok,I.os,I.bare,I.base,I.loc,I.cell,I.free,I.freeC,fun p hp=>(qD0 hp).elim (fun z=>I.pin p (List.mem_append_left _ z)) (h p),I.hok,I.len⟩
theorem rX{N:List Str}(hN:N.Nodup){i j:Nat}{x:Str}(a:N[i]?=some x)(b:N[j]?=some x):i=j:=by
 obtain⟨h1,e1⟩:=zT0 a;obtain⟨h2,e2⟩:=zT0 b;exact(List.getElem_inj hN).mp (e1.trans e2.symm)
theorem pk{M:Model}{A:Around}{E:Value->Shared->Prop}{i:Nat}{x:Str}{v:V}{u:Value}{Q:Unit->Shared->Prop}(I:Inv X pins σ H s)(hN:X.N.Nodup)(hi:X.N[i]?=some x)(hx:Loc X.env.scope x)(r:RelV v u)
 (h:∀s',Inv X pins (σ.set i (some v)) H s'->(∃a,Heap.SameBut a s.heap s'.heap/\(a=X.env.locals∨X.env.cells.lookup x=some a))->Q () s') (hf:X.fn x=true∨X.env.scope.names.lookup x=some .local:=by first | exact .inl rfl | exact .inr rfl | assumption):wpAny M A (storeName X.env x u) Q E s:=by
 obtain⟨m,hn,hl⟩:=id I.loc;have hcls:(X.env.scope.kind==.class||(X.env.scope.kind==.module&&X.env.locals != X.env.globals))=false:=by rw[I.ok.kind];rfl
 have hiσ:i<σ.length:=by rw[I.len];exact(zT0 hi).1
 have cne:=I.cne;have tracked:∀{a:Addr}{h':Heap},(∃o,s.heap.get? a=some o/\H a=none)->Heap.SameBut a s.heap h'->HOk X.prog X.w H h':=fun{a h'} ha hs b ob e=>by
  obtain⟨_,_,hfree⟩:=ha;refine(I.hok b ob e).stay (fun c w' hc q=>(hs.2 c ?_).trans q) (fun _ q=>q) fun _ _ q=>q
  rintro rfl;rcases hc with rfl | hc
  . rw[hfree]at e;cases e
  . rw[hfree]at hc;cases hc
 rcases hx with hk | hk
 . refine wpAny_storeName_local hk hn (fun h' hn' hs=>?_) hcls;obtain⟨oL,_,_,hoL,_⟩:=id hn;refine h _ ⟨I.ok,I.os,I.bare,⟨fun b o e n hb hx=>?_,fun b o e n hb hx=>?_,I.base.free,fun b o e hx=>?_,I.base.tups,I.base.frzs,I.base.tbls⟩,⟨_,hn',fun j y v' e1 e2 e3=>?_⟩,fun y c e=>?_,I.free,I.freeC,fun p hp=>?_,tracked ⟨oL,hoL,I.free⟩ hs,by simpa using I.len⟩ ⟨_,hs,.inl rfl⟩
   . exact(hs.2 b (zR0 (qH0 (zN0 e) I.ok.above))).trans (I.base.keep b o e n hb hx)
   . obtain⟨sl,e1⟩:=I.base.slot b o e n hb hx;exact⟨sl,(hs.2 b (zR0 (qH0 (zN0 e) I.ok.above))).trans e1⟩
   . obtain⟨o',e1⟩:=I.base.there b o e hx;exact⟨o',(hs.2 b (zR0 (qH0 (zN0 e) I.ok.above))).trans e1⟩
   . by_cases hj:j=i
     . subst hj;rw[hi]at e1;cases e1;rw[List.getElem?_set_self hiσ]at e2;cases e2;exact⟨u,r,.inl ⟨hk,by simp⟩⟩
     . rw [List.getElem?_set_ne (Ne.symm hj)]at e2;obtain⟨u',r',q⟩:=hl j y v' e1 e2 e3;refine⟨u',r',?_⟩;rcases q with⟨k,e⟩ | ⟨k,c,e,z⟩
       . refine .inl ⟨k,?_⟩
         have:y≠x:=fun e=>hj (rX hN e1 (e▸hi))
         simp [this,e]
       . exact .inr ⟨k,c,e,z.sameBut hs (cne y c e)⟩
   . obtain⟨w',z⟩:=I.cell y c e;exact⟨w',z.sameBut hs (cne y c e)⟩
   . obtain⟨e,n,ne,nf,d⟩:=I.pin p hp;exact⟨(hs.2 p.1 ne).trans e,n,ne,nf,d⟩
 . have hfn:X.fn x=true:=by
    rcases hf with z | z
    . exact z
    . rw[z]at hk;cases hk
   obtain⟨c,hc⟩:=I.ok.has x (.inl hk);obtain⟨w',z⟩:=I.cell x c hc;refine wpAny_storeName_cell I.ok.kind hk hc z (fun h' hc' hs=>?_);obtain⟨oc,hoc,hocd⟩:=id z;refine h { s with heap:=h' } ⟨I.ok,I.os,I.bare,⟨fun b o e n hb hx=>?_,fun b o e n hb hx=>?_,I.base.free,fun b o e hx=>?_,I.base.tups,I.base.frzs,I.base.tbls⟩,⟨m,hn.sameBut hs (Ne.symm (cne x c hc)),fun j y v' e1 e2 e3=>?_⟩,fun y c' e=>?_,I.free,I.freeC,fun p hp=>?_,tracked ⟨oc,hoc,I.freeC x c hc⟩ hs,by simpa using I.len⟩ ⟨c,hs,.inr hc⟩
   . exact(hs.2 b (zR0 (qH0 (zN0 e) (I.ok.cab x c hfn hc)))).trans (I.base.keep b o e n hb hx)
   . obtain⟨sl,e1⟩:=I.base.slot b o e n hb hx;exact⟨sl,(hs.2 b (zR0 (qH0 (zN0 e) (I.ok.cab x c hfn hc)))).trans e1⟩
   . obtain⟨o',e1⟩:=I.base.there b o e hx;exact⟨o',(hs.2 b (zR0 (qH0 (zN0 e) (I.ok.cab x c hfn hc)))).trans e1⟩
   . by_cases hj:j=i
     . subst hj;rw[hi]at e1;cases e1;rw[List.getElem?_set_self hiσ]at e2;cases e2;exact⟨u,r,.inr ⟨.inl hk,c,hc,hc'⟩⟩
     . rw [List.getElem?_set_ne (Ne.symm hj)]at e2;obtain⟨u',r',q⟩:=hl j y v' e1 e2 e3;refine⟨u',r',?_⟩;rcases q with q | ⟨k,c',e,z'⟩
       . exact .inl q
       . refine .inr ⟨k,c',e,z'.sameBut hs ?_⟩;rintro rfl;exact hj (rX hN e1 (I.ok.inj _ _ _ e hc▸hi))
   . by_cases hcc:c'=c
     . subst hcc;exact⟨_,hc'⟩
     . obtain⟨w2,z2⟩:=I.cell y c' e;exact⟨w2,z2.sameBut hs hcc⟩
   . obtain⟨e,n,ne,nf,d⟩:=I.pin p hp;refine⟨(hs.2 p.1 ?_).trans e,n,ne,nf,d⟩;intro q;rw[q,hoc]at e;have q':oc=p.2:=zS0 e;exact d w' (by rw[←q'];exact hocd)
theorem kD{M:Model}{A:Around}{E:Value->Shared->Prop}{i:Nat}{x:Str}{v:V}{u:Value}{Q:Unit->Shared->Prop}(I:Inv X pins σ H s)(hN:X.N.Nodup)(hi:X.N[i]?=some x)(hx:Loc X.env.scope x)(r:RelV v u)
 (h:∀s',Inv X pins (σ.set i (some v)) H s'->Q () s') (hf:X.fn x=true∨X.env.scope.names.lookup x=some .local:=by first | exact .inl rfl | exact .inr rfl | assumption):wpAny M A (storeName X.env x u) Q E s:=
 pk I hN hi hx r (fun s' I' _=>h s' I') hf
theorem Inv.call'{s':Shared}{ch:List Addr}(I:Inv X pins σ H s)(ho:s'.os=s.os)(u:Un (frs X.stack) ch H H' s.heap s'.heap)(hok:HOk X.prog X.w H' s'.heap)(hg:AllBare s'.gens)
 (hch:∀b∈ch,(b∈X.ex∨X.s₀.heap.objs.size<=b)/\b≠X.env.locals/\(∀x c,X.env.cells.lookup x=some c->c≠b)/\∀p∈X.pn++pins,p.1≠b):Inv X pins σ H' s':=by
 obtain⟨h',g',d',t',o'⟩:=s';have e:o'=s.os:=ho;subst e;exact I.call (g':=g') (t':=t') (d':=d') u hok hg hch
end
abbrev XK:=Value->Option Addr->Hp->Prop
abbrev St:=List (Option V)
abbrev VK:=V->Hp->Prop
abbrev TE:=St->Hp->VK->Prop
abbrev TT:=St->Hp->(Bool->Hp->Prop)->Prop
abbrev TA:=St->Hp->(List V->Hp->Prop)->Prop
structure Ends where
 nx:St->Hp->Prop
 rt:VK
 bk:St->Hp->Prop:=fun _ _=>False
 ct:St->Hp->Prop:=fun _ _=>False
abbrev TS:=Ends->St->Hp->Prop
def EP(X:Cx)(pins:List (Addr×Obj))(σ:St)(Q:VK)(u:Value)(s':Shared):Prop:=∃v H',Inv X pins σ H' s'/\RelV v u/\Q v H'
def TP(X:Cx)(pins:List (Addr×Obj))(σ:St)(Q:Bool->Hp->Prop)(b:Bool)(s':Shared):Prop:=∃H',Inv X pins σ H' s'/\Q b H'
def AP(X:Cx)(pins:List (Addr×Obj))(σ:St)(Q:List V->Hp->Prop)(us:List Value)(s':Shared):Prop:=∃vs H',Inv X pins σ H' s'/\Vals vs us/\Q vs H'
def SP(X:Cx)(pins:List (Addr×Obj))(D:Ends)(f:Flow)(s':Shared):Prop:=
 match f with
 | .next=>∃ σ' H',Inv X pins σ' H' s'/\D.nx σ' H'
 | .brk=>∃ σ' H',Inv X pins σ' H' s'/\D.bk σ' H'
 | .cont=>∃ σ' H',Inv X pins σ' H' s'/\D.ct σ' H'
 | .ret u=>∃v σ' H',Inv X pins σ' H' s'/\RelV v u/\D.rt v H'
def PE(X:Cx)(e:Expr)(t:TE):Prop:=
 ∀(pins:List (Addr×Obj))(s:Shared)(σ:St)(H:Hp)(Q:VK),Inv X pins σ H s->t σ H Q->wpAny (model X.prog X.w) X.A (eval e X.env) (EP X pins σ Q) X.xe s
def PT(X:Cx)(e:Expr)(t:TT):Prop:=
 ∀(pins:List (Addr×Obj))(s:Shared)(σ:St)(H:Hp)(Q:Bool->Hp->Prop),Inv X pins σ H s->t σ H Q->wpAny (model X.prog X.w) X.A (isTrue e X.env (eval e X.env)) (TP X pins σ Q) X.xe s
def PW(X:Cx)(e:Expr)(t:TT):Prop:=
 ∀(whole:Sem Value)(pins:List (Addr×Obj))(s:Shared)(σ:St)(H:Hp)(Q:Bool->Hp->Prop),Inv X pins σ H s->t σ H Q->wpAny (model X.prog X.w) X.A (isTrue e X.env whole) (TP X pins σ Q) X.xe s
theorem PW.pt{X:Cx}{e:Expr}{t:TT}(h:PW X e t):PT X e t:=h _
def PA(X:Cx)(es:List Expr)(t:TA):Prop:=
 ∀(pos:Pos)(pins:List (Addr×Obj))(s:Shared)(σ:St)(H:Hp)(Q:List V->Hp->Prop),Inv X pins σ H s->t σ H Q->wpAny (model X.prog X.w) X.A (spliced (backTo pos (starEach es X.env))) (AP X pins σ Q) X.xe s
def PS(X:Cx)(st:Stmt)(t:TS):Prop:=
 ∀(pins:List (Addr×Obj))(s:Shared)(σ:St)(H:Hp)(D:Ends),Inv X pins σ H s->t D σ H->wpAny (model X.prog X.w) X.A (exec st X.env) (SP X pins D) X.xe s
def PSs(X:Cx)(st:List Stmt)(t:TS):Prop:=
 ∀(pins:List (Addr×Obj))(s:Shared)(σ:St)(H:Hp)(D:Ends),Inv X pins σ H s->t D σ H->wpAny (model X.prog X.w) X.A (execs st X.env) (SP X pins D) X.xe s
theorem thn{α:Type}{t:Sem α}{Q Q':α->Shared->Prop}{M:Model}{A:Around}{E:Value->Shared->Prop}{s:Shared}(h:wpAny M A t Q E s)(hQ:∀a s,Q a s->Q' a s):wpAny M A t Q' E s:=wpAny_mono h hQ fun _ _ x=>x
section
variable {X:Cx}
noncomputable def Cn(σ:St)(i:Nat)(f:V->Prop):Prop:=@Option.rec (Option V) (fun _=>Prop) False (fun o=>@Option.rec V (fun _=>Prop) False f o) σ[i]?
theorem At{σ:St}{i:Nat}{f:V->Prop}(h:Cn σ i f):∃v,σ[i]?=some (some v)/\f v:=by
 unfold Cn at h;generalize σ[i]?=o at h;cases o with
 | none=>exact h.elim
 | some o=>
   cases o with
   | none=>exact h.elim
   | some v=>exact⟨v,rfl,h⟩
def isI(x:V)(f:Int->Prop):Prop:=match x with | .int i=>f i | _=>False
def isB(x:V)(f:Bool->Prop):Prop:=match x with | .bl i=>f i | _=>False
def isR(x:V)(f:Addr->Prop):Prop:=match x with | .ref i=>f i | _=>False
theorem iV{x:V}{f:Int->Prop}(h:isI x f):∃i,x=.int i/\f i:=by cases x <;> first | exact⟨_,rfl,h⟩ | exact h.elim
theorem ko{x:V}{f:Bool->Prop}(h:isB x f):∃i,x=.bl i/\f i:=by cases x <;> first | exact⟨_,rfl,h⟩ | exact h.elim
theorem uJ{x:V}{f:Addr->Prop}(h:isR x f):∃i,x=.ref i/\f i:=by cases x <;> first | exact⟨_,rfl,h⟩ | exact h.elim
noncomputable def qV(i:Nat):TE:=fun σ H Q=>Cn σ i fun v=>Q v H
def tC(v:V):TE:=fun _ H Q=>Q v H
theorem CW {i:Nat} {x:Str} {pos:Pos} (hN:X.N[i]?=some x) (hv:Vis X.env.scope x) (hd:(x==("__debug__":Str))=false:=by decide) (hcd:(x==("__classdict__":Str))=false:=by decide):PE X (.Name x pos) (qV i):=by
 intro pins s σ H Q I h;obtain⟨v,e,h⟩:=At h;obtain⟨m,hn,hl⟩:=I.loc;obtain⟨u,r,l⟩:=hl i x v hN e hv;have fin:EP X pins σ Q u s:=⟨v,H,I,r,h⟩
 rcases l with⟨hk,hm⟩ | ⟨hk,c,hc,hcell⟩
 . exact wpAny_Name (wpAny_loadName_local I.ok.kind hk hn hm fin) hd
 . rcases hk with hk | hk
   . exact wpAny_Name (wpAny_loadName_cell I.ok.kind hk hc hcell fin) hd
   . exact wpAny_Name (wpAny_loadName_free I.ok.kind hk hc hcell fin hcd) hd
theorem aa{i j pos}:PE X (.Constant (.int i) j pos) (tC (.int i)):=fun _ _ _ H _ I h=>wpAny_Constant_int ⟨.int i,H,I.tok _,⟨_,rfl⟩,h⟩
theorem hU{b j pos}:PE X (.Constant (.bool b) j pos) (tC (.bl b)):=fun _ _ _ H _ I h=>Constant_bool ⟨.bl b,H,I,rfl,h⟩
theorem yR{j pos}:PE X (.Constant .none j pos) (tC .non):=fun _ _ _ H _ I h=>Constant_none ⟨.non,H,I,rfl,h⟩
theorem aq{x j pos}:PE X (.Constant (.str x) j pos) (tC (.str x)):=fun _ _ _ H _ I h=>Calls.Constant_str ⟨.str x,H,I.tok _,⟨_,rfl⟩,h⟩
def Gl(X:Cx)(x:Str):Prop:=X.env.kindOf x=some .globalImplicit
theorem qC{E:Value->Shared->Prop}{pins:List (Addr×Obj)}{s:Shared}{σ:St}{H:Hp}{x:Str}{u:Value}{pos:Pos}{Q:Value->Shared->Prop}(I:Inv X pins σ H s)(hg:Gl X x)(hm:X.mg x=some u)(h:Q u s)
 (hd:(x==("__debug__":Str))=false:=by decide):wpAny (model X.prog X.w) X.A (eval (.Name x pos) X.env) Q E s:=
 Calls.Name_function_global I.ok.kind hg (Calls.loadGlobal_global (by rw[I.ok.glob];exact I.mod.glob.keeps I.bk) hm h) hd
theorem gj{E:Value->Shared->Prop}{pins:List (Addr×Obj)}{s:Shared}{σ:St}{H:Hp}{x:Str}{u:Value}{pos:Pos}{Q:Value->Shared->Prop}(I:Inv X pins σ H s)(hg:Gl X x)(hm:X.mg x=none)(hv:bootBuiltins x=some u)(h:Q u s)
 (hn:x≠"__name__":=by decide) (hd:(x==("__debug__":Str))=false:=by decide):wpAny (model X.prog X.w) X.A (eval (.Name x pos) X.env) Q E s:=by
 obtain⟨mb,h1,h2⟩:=I.mod.blt;exact Calls.Name_function_global I.ok.kind hg (Calls.loadGlobal_builtin (by rw[I.ok.glob];exact I.mod.glob.keeps I.bk) hm (by rw[I.ok.blt];exact h1.keeps I.bk) ((h2 x hn).trans hv) h) hd
theorem vG {x:Str} {v:V} {u:Value} {pos:Pos} (hg:Gl X x) (hm:X.mg x=some u) (r:RelV v u) (hd:(x==("__debug__":Str))=false:=by decide):PE X (.Name x pos) (tC v):=
 fun _ _ _ H _ I h=>qC I hg hm ⟨v,H,I,r,h⟩ hd
theorem qp {x:Str} {v:V} {u:Value} {pos:Pos} (hg:Gl X x) (hm:X.mg x=none) (hv:bootBuiltins x=some u) (r:RelV v u) (hn:x≠"__name__":=by decide) (hd:(x==("__debug__":Str))=false:=by decide):PE X (.Name x pos) (tC v):=
 fun _ _ _ H _ I h=>gj I hg hm hv ⟨v,H,I,r,h⟩ hn hd
variable {a b:Expr} {ta tb:TE} {pos:Pos}
def PC(X:Cx)(op:CmpOp)(a b:Expr)(t:TE):Prop:=
 ∀(pins:List (Addr×Obj))(s:Shared)(σ:St)(H:Hp)(Q:VK),Inv X pins σ H s->t σ H Q ->
  wpAny (model X.prog X.w) X.A (eval a X.env) (fun v s₁=>wpAny (model X.prog X.w) X.A (eval b X.env) (fun u s₂=>wpAny (model X.prog X.w) X.A (compareOp op v u) (EP X pins σ Q) X.xe s₂) X.xe s₁) X.xe s
def tB(t:TE):TT:=fun σ H Q=>t σ H fun x H1=>isB x fun c=>Q c H1
theorem CL{op:CmpOp}{t:TE}(h:PC X op a b t)(h1:behindInMarks op b=false:=by first | exact nobehind _ (by decide) (by decide) | rfl):PT X (.Compare a [op] [b] pos) (tB t):=by
 intro pins s σ H Q I hw;refine wpAny_isTrue_Compare1 (thn (h pins s σ H _ I hw) fun v s1 h1=>thn h1 fun u s2 h2=>thn h2 fun c s3 ⟨x,H1,I1,r1,q1⟩=>?_) h1;obtain⟨d,rfl,q⟩:=ko q1;cases r1;exact wpAny_truthy_bool ⟨H1,I1,q⟩
theorem iP{e:Expr}{t:TE}(h:PE X e t)(he:∀whole,isTrue e X.env whole=(do let v ←whole;standAt e.pos;holding [v] (truthy v)):=by intro _;rfl):PT X e (tB t):=by
 intro pins s σ H Q I hw;refine isTrue_plain (thn (h pins s σ H _ I hw) fun v s1 ⟨x,H1,I1,r1,q1⟩=>?_) (he _);obtain⟨d,rfl,q⟩:=ko q1;cases r1;exact wpAny_truthy_bool ⟨H1,I1,q⟩
variable {tA tB':TT} {rest:List Expr}
def tAnd(t u:TT):TT:=fun σ H Q=>t σ H fun c H1=>if c=true then u σ H1 Q else Q false H1
def tOr(t u:TT):TT:=fun σ H Q=>t σ H fun c H1=>if c=true then Q true H1 else u σ H1 Q
def tNot(t:TT):TT:=fun σ H Q=>t σ H fun c H1=>Q (!c) H1
theorem iO(ha:PT X a tA):PW X (.BoolOp .And [a] pos) tA:=by
 intro wh pins s σ H Q I h;refine isTrue_and (thn (ha pins s σ H Q I h) fun c s1 e=>?_);cases c with
 | true=>exact isTrue_and_nil e
 | false=>exact e
theorem fw(ha:PT X a tA):PW X (.BoolOp .Or [a] pos) tA:=by
 intro wh pins s σ H Q I h;refine isTrue_or (thn (ha pins s σ H Q I h) fun c s1 e=>?_);cases c with
 | false=>exact isTrue_or_nil e
 | true=>exact e
theorem jr(ha:PT X a tA)(hb:PW X (.BoolOp .And (b::rest) pos) tB'):PW X (.BoolOp .And (a::b::rest) pos) (tAnd tA tB'):=by
 intro wh pins s σ H Q I h;refine isTrue_and (thn (ha pins s σ H _ I h) fun c s1 ⟨H1,I1,q1⟩=>?_);cases c with
 | true=>exact hb wh pins s1 σ H1 Q I1 q1
 | false=>exact⟨H1,I1,q1⟩
theorem gs(ha:PT X a tA)(hb:PW X (.BoolOp .Or (b::rest) pos) tB'):PW X (.BoolOp .Or (a::b::rest) pos) (tOr tA tB'):=by
 intro wh pins s σ H Q I h;refine isTrue_or (thn (ha pins s σ H _ I h) fun c s1 ⟨H1,I1,q1⟩=>?_);cases c with
 | true=>exact⟨H1,I1,q1⟩
 | false=>exact hb wh pins s1 σ H1 Q I1 q1
theorem jt(ha:PT X a tA):PT X (.UnaryOp .Not a pos) (tNot tA):=by
 intro pins s σ H Q I h;exact isTrue_not (ha pins s σ H (fun c H1=>Q (!c) H1) I h)
def BK(ta tb:TE):TE:=fun σ H Q=>ta σ H fun x H1=>isB x fun c=>if c=true then tb σ H1 Q else Q (.bl false) H1
def tOrV(ta tb:TE):TE:=fun σ H Q=>ta σ H fun x H1=>isB x fun c=>if c=true then Q (.bl true) H1 else tb σ H1 Q
def tNotV(ta:TE):TE:=fun σ H Q=>ta σ H fun x H1=>isB x fun c=>Q (.bl (!c)) H1
theorem kj{op}{t:TE}(h:PE X a t):PE X (.BoolOp op [a] pos) t:=fun pins s σ H Q I hw=>BoolOp_one (h pins s σ H Q I hw)
theorem oh(ha:PE X a ta)(hb:PE X (.BoolOp .And (b::rest) pos) tb):PE X (.BoolOp .And (a::b::rest) pos) (BK ta tb):=by
 intro pins s σ H Q I h;refine BoolOp_and (thn (ha pins s σ H _ I h) fun v s1 ⟨x,H1,I1,r1,q1⟩=>?_);obtain⟨c,rfl,q1⟩:=ko q1;cases r1;refine wpAny_truthy_bool ?_;cases c with
 | true=>exact hb pins s1 σ H1 Q I1 q1
 | false=>exact⟨.bl false,H1,I1,rfl,q1⟩
theorem BW(ha:PE X a ta)(hb:PE X (.BoolOp .Or (b::rest) pos) tb):PE X (.BoolOp .Or (a::b::rest) pos) (tOrV ta tb):=by
 intro pins s σ H Q I h;refine BoolOp_or (thn (ha pins s σ H _ I h) fun v s1 ⟨x,H1,I1,r1,q1⟩=>?_);obtain⟨c,rfl,q1⟩:=ko q1;cases r1;refine wpAny_truthy_bool ?_;cases c with
 | false=>exact hb pins s1 σ H1 Q I1 q1
 | true=>exact⟨.bl true,H1,I1,rfl,q1⟩
theorem yQ(ha:PE X a ta):PE X (.UnaryOp .Not a pos) (tNotV ta):=by
 intro pins s σ H Q I h;refine UnaryOp_ (thn (ha pins s σ H _ I h) fun v s1 ⟨x,H1,I1,r1,q1⟩=>?_);obtain⟨c,rfl,q1⟩:=ko q1;cases r1;exact not_of (wpAny_truthy_bool ⟨.bl (!c),H1,I1,rfl,q1⟩)
def tIf(t:TT)(ta tb:TE):TE:=fun σ H Q=>t σ H fun c H1=>if c=true then ta σ H1 Q else tb σ H1 Q
theorem kU{c:Expr}(hc:PT X c tA)(ha:PE X a ta)(hb:PE X b tb):PE X (.IfExp c a b pos) (tIf tA ta tb):=by
 intro pins s σ H Q I h;refine wpAny_IfExp (thn (hc pins s σ H _ I h) fun d s1 ⟨H1,I1,q1⟩=>?_);cases d with
 | true=>exact ha pins s1 σ H1 Q I1 q1
 | false=>exact hb pins s1 σ H1 Q I1 q1
end
def SqL(K:W.Frag)(H:Hp)(a:Addr)(xs:List V):Prop:=
 Rd H a (.lst xs)∨
  ∃(o:Obj) (its:Array Value) (n:Nat),K.lookup a=some o/\o.cls=.type "list"/\o.dict=none/\o.data=.seq its n/\its.size<=sizeLine/\Vals xs its.toList
def SqT(K:W.Frag)(H:Hp)(a:Addr)(xs:List V):Prop:=
 Rd H a (.tup xs)∨
  ∃(o:Obj) (its:Array Value) (n:Nat),K.lookup a=some o/\o.cls=.type "tuple"/\o.data=.seq its n/\its.size<=sizeLine/\Vals xs its.toList
def absV:Value->Option V
 | .none=>some .non
 | .bool b=>some (.bl b)
 | .int i _=>some (.int i)
 | .str x _=>some (.str x)
 | .bytes b _=>some (.byt b)
 | .float b _=>some (.flt b)
 | .ref a=>some (.ref a)
 | .type n=>some (.ty n)
 | _=>none
theorem RelV.abs{x:V}{u:Value}(r:RelV x u):absV u=some x:=by
 cases x with
 | non=>cases r;rfl
 | bl _=>cases r;rfl
 | int _=>obtain⟨t,rfl⟩:=r;rfl
 | str _=>obtain⟨t,rfl⟩:=r;rfl
 | byt _=>obtain⟨t,rfl⟩:=r;rfl
 | flt _=>obtain⟨t,rfl⟩:=r;rfl
 | ref _=>cases r;rfl
 | ty _=>cases r;rfl
theorem RelV.inj{x y:V}{u:Value}(r:RelV x u)(q:RelV y u):x=y:=zS0 (r.abs.symm.trans q.abs)
theorem Vals.inj:∀{xs ys:List V}{us:List Value},Vals xs us->Vals ys us->xs=ys
 | _,_,_,.nil,.nil=>rfl
 | _,_,_,.cons r t,.cons r' t'=>by rw[r.inj r',Vals.inj t t']
section
variable {X:Cx} {pins:List (Addr×Obj)} {σ:St} {H:Hp} {s:Shared} {a:Addr} {xs ys:List V}
theorem zG0{K:W.Frag}(h:H a=some (.lst xs)):SqL K H a xs:=.inl (.inl h)
abbrev SqL.of:=@zG0
theorem zD0{K:W.Frag}(h:H a=some (.tup xs)):SqT K H a xs:=.inl (.inl h)
abbrev SqT.of:=@zD0
theorem Inv.list(I:Inv X pins σ H s)(h:SqL X.K H a xs):∃its:List Value,Vals xs its/\PlainL s.heap a its.toArray/\xs.length<=sizeLine:=by
 rcases h with h | ⟨o,its,n,hk,hc,hd,hs,hz,r⟩
 . obtain⟨z,its,n,r,e⟩:=h.ok I.hok;exact⟨its,r,⟨_,n,e,rfl,rfl,rfl⟩,z⟩
 . refine⟨its.toList,r,⟨o,n,I.kIn a o hk,hc,hd,by simpa using hs⟩,?_⟩;have e:=r.length;simp only[Array.length_toList]at e;omega
theorem Inv.tuple(I:Inv X pins σ H s)(h:SqT X.K H a xs):∃its:List Value,Vals xs its/\IsTup s.heap a its.toArray/\xs.length<=sizeLine:=by
 rcases h with h | ⟨o,its,n,hk,hc,hs,hz,r⟩
 . obtain⟨z,its,r,p,_⟩:=h.ok I.hok;exact⟨its,r,p,z⟩
 . refine⟨its.toList,r,⟨o,I.kIn a o hk,hc,n,by simpa using hs⟩,?_⟩;have e:=r.length;simp only[Array.length_toList]at e;omega
theorem Inv.list_inj(I:Inv X pins σ H s)(h:SqL X.K H a xs)(h':SqL X.K H a ys):xs=ys:=by
 obtain⟨its,r,⟨o,n,e,_,_,d⟩,_⟩:=I.list h;obtain⟨its',r',⟨o',n',e',_,_,d'⟩,_⟩:=I.list h';rw[e]at e';cases e';rw[d]at d';injection d' with d1 _
 have:its=its':=by simpa using congrArg Array.toList d1
 subst this;exact r.inj r'
theorem Inv.tuple_inj(I:Inv X pins σ H s)(h:SqT X.K H a xs)(h':SqT X.K H a ys):xs=ys:=by
 obtain⟨its,r,⟨o,e,_,n,d⟩,_⟩:=I.tuple h;obtain⟨its',r',⟨o',e',_,n',d'⟩,_⟩:=I.tuple h';rw[e]at e';cases e';rw[d]at d';injection d' with d1 _
 have:its=its':=by simpa using congrArg Array.toList d1
 subst this;exact r.inj r'
end
abbrev Cx.wish(X:Cx)(E:Value->Shared->Prop):Cx:={ X with xe:=E }
abbrev Cx.nox(X:Cx):Cx:=X.wish fun _ _=>False
theorem Cx.Ok.wish{X:Cx}(ok:X.Ok)(E:Value->Shared->Prop):(X.wish E).Ok:=
 ⟨ok.mod,ok.kind,ok.glob,ok.blt,ok.above,ok.inj,ok.has,ok.cab,ok.hd,ok.frames,ok.stk,ok.exf,ok.bs,ok.bsz,ok.noex,ok.exfs,ok.funs,ok.frf⟩
theorem Cx.Ok.unwish{X:Cx}{E:Value->Shared->Prop}(ok:(X.wish E).Ok):X.Ok:=
 ⟨ok.mod,ok.kind,ok.glob,ok.blt,ok.above,ok.inj,ok.has,ok.cab,ok.hd,ok.frames,ok.stk,ok.exf,ok.bs,ok.bsz,ok.noex,ok.exfs,ok.funs,ok.frf⟩
section
variable {X:Cx} {pins:List (Addr×Obj)} {σ:St} {H:Hp} {s:Shared} {E:Value->Shared->Prop}
theorem Inv.wish(I:Inv X pins σ H s)(E:Value->Shared->Prop):Inv (X.wish E) pins σ H s:=⟨I.ok.wish E,I.os,I.bare,I.base,I.loc,I.cell,I.free,I.freeC,I.pin,I.hok,I.len⟩
theorem Inv.unwish(I:Inv (X.wish E) pins σ H s):Inv X pins σ H s:=⟨I.ok.unwish,I.os,I.bare,I.base,I.loc,I.cell,I.free,I.freeC,I.pin,I.hok,I.len⟩
theorem SP.unwish{D:Ends}{f:Flow}{s':Shared}(h:SP (X.wish E) pins D f s'):SP X pins D f s':=by
 cases f with
 | next=>obtain⟨σ',H',I,q⟩:=h;exact⟨σ',H',I.unwish,q⟩
 | brk=>obtain⟨σ',H',I,q⟩:=h;exact⟨σ',H',I.unwish,q⟩
 | cont=>obtain⟨σ',H',I,q⟩:=h;exact⟨σ',H',I.unwish,q⟩
 | ret u=>obtain⟨v,σ',H',I,r,q⟩:=h;exact⟨v,σ',H',I.unwish,r,q⟩
theorem PSs.nox{st:List Stmt}{t:TS}(h:PSs X.nox st t):PSs X st t:=fun pins s σ H D I hw=>
 wpAny_mono (h pins s σ H D (I.wish _) hw) (fun _ _ q=>q.unwish) fun _ _ z=>False.elim z
end
section
variable {X:Cx} {st:Stmt} {rest:List Stmt} {t u:TS} {e:Expr} {te:TE} {pos:Pos}
def BI:TS:=fun D σ H=>D.nx σ H
def mG(t u:TS):TS:=fun D σ H=>t { D with nx:=u D } σ H
theorem ax:PSs X [] BI:=fun _ _ σ H _ I h=>wpAny_execs_nil ⟨σ,H,I,h⟩
theorem ac(h1:PS X st t)(h2:PSs X rest u):PSs X (st::rest) (mG t u):=by
 intro pins s σ H D I h;refine wpAny_execs_cons (thn (h1 pins s σ H { D with nx:=u D } I h) fun f s1 q=>?_);cases f with
 | next=>
   obtain⟨σ',H',I',q⟩:=q;exact h2 pins s1 σ' H' D I' q
 | ret v=>exact q
 | brk=>exact q
 | cont=>exact q
theorem ad(h1:PS X st t):PSs X [st] t:=by
 intro pins s σ H D I h;refine wpAny_execs_cons (thn (h1 pins s σ H D I h) fun f s1 q=>?_);cases f with
 | next=>exact wpAny_execs_nil q
 | ret v=>exact q
 | brk=>exact q
 | cont=>exact q
def CC:TS:=fun D σ H=>D.bk σ H
theorem yM:PS X (.Break pos) CC:=fun _ _ σ H _ I h=>wpAny_Break ⟨σ,H,I,h⟩
theorem Inv.quiet{pins:List (Addr×Obj)}{σ:St}{H:Hp}{s:Shared}(I:Inv X pins σ H s):interactive X.env=false:=by simp [interactive,I.ok.kind]
def tDrop(te:TE):TS:=fun D σ H=>te σ H fun _ H1=>D.nx σ H1
theorem bG(he:PE X e te)(hs:swapsWith e none pos.line X.env=pure false:=by rfl):PS X (.Expr e pos) (tDrop te):=by
 intro pins s σ H D I h;exact wpAny_Expr_any (thn (he pins s σ H _ I h) fun v s1 ⟨x,H1,I1,r1,q1⟩=>⟨σ,H1,I1,q1⟩) I.quiet hs
def tRet(te:TE):TS:=fun D σ H=>te σ H D.rt
theorem ao(he:PE X e te):PS X (.Return (some e) pos) (tRet te):=by
 intro pins s σ H D I h;exact wpAny_Return_some (thn (he pins s σ H _ I h) fun v s1 ⟨x,H1,I1,r1,q1⟩=>⟨x,σ,H1,I1,r1,q1⟩)
def Cv(c:TT)(t u:TS):TS:=fun D σ H=>c σ H fun b H1=>if b=true then t D σ H1 else u D σ H1
theorem aH{c:Expr}{a b:List Stmt}{tc:TT}(hc:PT X c tc)(ha:PSs X a t)(hb:PSs X b u):PS X (.If c a b pos) (Cv tc t u):=by
 intro pins s σ H D I h;refine wpAny_If (thn (hc pins s σ H _ I h) fun d s1 ⟨H1,I1,q1⟩=>?_);cases d with
 | true=>exact ha pins s1 σ H1 D I1 q1
 | false=>exact hb pins s1 σ H1 D I1 q1
def Cs:TS:=fun _ _ _=>False
theorem jR{sts:List Stmt}:PSs X sts Cs:=fun _ _ _ _ _ _ h=>h.elim
end
abbrev TG:=V->St->Hp->(St->Hp->Prop)->Prop
abbrev TGs:=List V->St->Hp->(St->Hp->Prop)->Prop
def PG(X:Cx)(target:Expr)(t:TG):Prop:=
 ∀(pins:List (Addr×Obj))(s:Shared)(σ:St)(H:Hp)(v:V)(u:Value)(Q:St->Hp->Prop),Inv X pins σ H s->RelV v u->t v σ H Q ->
  wpAny (model X.prog X.w) X.A (assign target X.env u) (fun _ s'=>∃ σ' H',Inv X pins σ' H' s'/\Q σ' H') X.xe s
def PGs(X:Cx)(ts:List Expr)(t:TGs):Prop:=
 ∀(pins:List (Addr×Obj))(s:Shared)(σ:St)(H:Hp)(vs:List V)(us:List Value)(Q:St->Hp->Prop),Inv X pins σ H s->Vals vs us->t vs σ H Q ->
  wpAny (model X.prog X.w) X.A (assignInOrder ((assignEach ts X.env).map (·.2)) us) (fun _ s'=>∃ σ' H',Inv X pins σ' H' s'/\Q σ' H') X.xe s
abbrev DM:=V->V->V->Hp->(Hp->Prop)->Prop
def PSet(X:Cx)(t:DM):Prop:=
 ∀(pins:List (Addr×Obj))(s:Shared)(σ:St)(H:Hp)(o i v:V)(ov iv u:Value)(Q:Hp->Prop),Inv X pins σ H s->RelV o ov->RelV i iv->RelV v u->t o i v H Q ->
  wpAny (model X.prog X.w) X.A (setItem ov iv u) (fun _ s'=>∃H',Inv X pins σ H' s'/\Q H') X.xe s
section
variable {X:Cx} {pos:Pos}
def oG(i:Nat):TG:=fun v σ H Q=>Q (σ.set i (some v)) H
theorem ba{i:Nat}{x:Str}(hN:X.N.Nodup)(hi:X.N[i]?=some x)(hx:Loc X.env.scope x)(hf:X.fn x=true∨X.env.scope.names.lookup x=some .local:=by first | exact .inl rfl | exact .inr rfl | assumption):PG X (.Name x pos) (oG i):=by
 intro pins s σ H v u Q I r h;exact wpAny_assign_Name (kD I hN hi hx r (fun s' I'=>⟨_,H,I',h⟩) hf)
def gNil:TGs:=fun vs σ H Q=>vs=[]/\Q σ H
def zX(t:TG)(u:TGs):TGs:=fun vs σ H Q=>∃v r,vs=v::r/\t v σ H fun σ' H'=>u r σ' H' Q
theorem mV:PGs X [] gNil:=by
 intro pins s σ H vs us Q I r h;obtain⟨e,h⟩:=h;subst e;cases r;exact assignInOrder_nil ⟨σ,H,I,h⟩
theorem eg{e:Expr}{es:List Expr}{t:TG}{u:TGs}(h1:PG X e t)(h2:PGs X es u)
 (hs:(assignEach (e::es) X.env).map (·.2)=assign e X.env::(assignEach es X.env).map (·.2):=by rfl):PGs X (e::es) (zX t u):=by
 intro pins s σ H vs us Q I r h;obtain⟨v,vr,e1,h⟩:=h;subst e1;cases r with
 | cons r rr=>
   rw[hs];refine assignInOrder_cons (thn (h1 pins s σ H _ _ _ I r h) fun _ s1 ⟨σ1,H1,I1,q1⟩=>?_);exact h2 pins s1 σ1 H1 _ _ Q I1 rr q1
def gTup(K:W.Frag)(n:Nat)(t:TGs):TG:=fun v σ H Q=>∃a xs,v=.ref a/\SqT K H a xs/\xs.length=n/\t xs σ H Q
theorem qm{es:List Expr}{k:Nat}{t:TGs}{n:Nat}(hc:X.calm=true)(h:PGs X es t)
 (hn:(assignEach es X.env).length=n:=by rfl) (hst:(assignEach es X.env).findIdx? (·.1)=none:=by rfl):PG X (.Tuple es k pos) (gTup X.K n t):=by
 intro pins s σ H v u Q I r hw;obtain⟨a,xs,e1,hq,hl,hw⟩:=hw;subst e1;cases r;obtain⟨its,rv,ht,hz⟩:=I.tuple hq;refine assign_Tuple_tuple (I.ok.hd hc) ht (by simp [hn,←hl,rv.length]) hst fun h' hx=>?_
 have I1:Inv X pins σ H { s with heap:=h' }:=I.kept (t':=s.toks) fun b o e=>hx b o (zR0 (zN0 e)) e
 exact h pins _ σ H xs _ Q I1 (by simpa using rv) hw
def gSub(to ti:TE)(t:DM):TG:=fun v σ H Q=>to σ H fun o H1=>ti σ H1 fun i H2=>t o i v H2 fun H3=>Q σ H3
theorem lN{o i:Expr}{to ti:TE}{t:DM}(ho:PE X o to)(hi:PE X i ti)(hs:PSet X t)
 (ha:∀v,assign (.Subscript o i pos) X.env v=(do
  let ov ←holding [v] (eval o X.env)
  let iv ←holding [v,ov] (eval i X.env)
  standAt pos
  holding [v,ov,iv] (setItem ov iv v)
  release [v,ov,iv] []):=by intro _;rfl):PG X (.Subscript o i pos) (gSub to ti t):=by
 intro pins s σ H v u Q I r h;rw[ha];refine zC0 (wpAny_holding (thn (ho pins s σ H _ I h) fun ov s1 ⟨x,H1,I1,r1,q1⟩=>?_));refine zC0 (wpAny_holding (thn (hi pins s1 σ H1 _ I1 q1) fun iv s2 ⟨y,H2,I2,r2,q2⟩=>?_));refine zC0 (wpAny_standAt (zC0 (wpAny_holding (thn (hs pins s2 σ H2 x y v ov iv u _ I2 r1 r2 r q2) fun _ s3 ⟨H3,I3,q3⟩=>?_))));exact wpAny_release ⟨σ,H3,I3,q3⟩
def xW(te:TE)(g:TG):TS:=fun D σ H=>te σ H fun x H1=>g x σ H1 D.nx
theorem ki{tg e:Expr}{te:TE}{g:TG}(he:PE X e te)(hg:PG X tg g)(hs:swapsWithSole [tg] e pos.line X.env=pure false:=by rfl)(hw:swappedStores [tg] e X.env=pure none:=by rfl)
 (h1:(assignEach [tg] X.env).map (·.2)=[assign tg X.env]:=by rfl):PS X (.Assign [tg] e pos) (xW te g):=by
 intro pins s σ H D I h;refine wpAny_Assign_stores (thn (he pins s σ H _ I h) fun v s1 ⟨x,H1,I1,r1,q1⟩=>?_) hs hw;rw[h1];exact thn (hg pins s1 σ H1 x v _ I1 r1 q1) fun _ s2 q=>q
theorem ak{i:Nat}{x:Str}{e:Expr}{te:TE}{pos':Pos}(hN:X.N.Nodup)(hi:X.N[i]?=some x)(hx:Loc X.env.scope x)(he:PE X e te)(hs:swapsWith e (some (.Name x pos')) pos.line X.env=pure false:=by rfl)(hf:X.fn x=true∨X.env.scope.names.lookup x=some .local:=by first | exact .inl rfl | exact .inr rfl | assumption) :
 PS X (.Assign [.Name x pos'] e pos) (xW te (oG i)):=by
 intro pins s σ H D I h;refine wpAny_Assign_Name (thn (he pins s σ H _ I h) fun v s1 ⟨y,H1,I1,r1,q1⟩=>?_) hs;exact kD I1 hN hi hx r1 (fun s2 I2=>⟨_,H1,I2,q1⟩) hf
end
section
variable {X:Cx} {pos:Pos}
def xR(c:TT)(tb:TS):TS:=fun D σ H=>∃W:Nat->St->Hp->Prop,(∃m,W m σ H)/\∀m σ H,W m σ H ->
 c σ H fun b H1=>if b=true then ∃N:St->Hp->Prop,(∀ σ' H',N σ' H'->∃m',m'<m/\W m' σ' H')/\tb { D with nx:=N,ct:=N,bk:=D.nx } σ H1 else D.nx σ H1
theorem ju{c:Expr}{body:List Stmt}{tc:TT}{tb:TS}(hp:PassesOwn (model X.prog X.w) X.A X.env X.xe)(hc:PT X c tc)(hb:PSs X body tb):PS X (.While c body [] pos) (xR tc tb):=by
 intro pins s σ H D I h;obtain⟨W,⟨m0,w0⟩,turn⟩:=h;refine wpAny_While (codeAny_whileLoop (fun n s'=>∃ σ' H',Inv X pins σ' H' s'/\W n σ' H') ?_ m0 ⟨σ,H,I,w0⟩);rintro n s1 ⟨σ1,H1,I1,w1⟩;refine wpAny_passesOwn hp (thn (hc pins s1 σ1 H1 _ I1 (turn n σ1 H1 w1)) fun b s2 ⟨H2,I2,q2⟩=>?_);cases b with
 | true=>
   obtain⟨N,hN,q2⟩:=q2;rw[zI0 rfl];refine wpAny_passesOwn hp (thn (hb pins s2 σ1 H2 _ I2 q2) fun f s3 q3=>?_);cases f with
   | next=>
     obtain⟨σ3,H3,I3,n3⟩:=q3;obtain⟨m',hm,w3⟩:=hN σ3 H3 n3;exact⟨m',hm,σ3,H3,I3,w3⟩
   | cont=>
     obtain⟨σ3,H3,I3,n3⟩:=q3;obtain⟨m',hm,w3⟩:=hN σ3 H3 n3;exact⟨m',hm,σ3,H3,I3,w3⟩
   | brk=>exact q3
   | ret v=>exact q3
 | false=>
   rw[zF0 qE0];exact wpAny_execs_nil ⟨σ1,H2,I2,q2⟩
end
structure It where
 go:Nat->Hp->Prop
 yld:Nat->Hp->V->Hp->Prop
 stop:Nat->Hp->Prop
def gn(X:Cx)(pins:List (Addr×Obj))(H:Hp)(b:Addr):Prop:=
 H b=none/\b≠X.env.locals/\b∉X.fs/\(b∈X.ex∨X.s₀.heap.objs.size<=b)/\(∀x c,X.env.cells.lookup x=some c->c≠b)/\∀p∈X.pn++pins,p.1≠b
theorem Inv.fpOk{X:Cx}{pins:List (Addr×Obj)}{σ:St}{H H':Hp}{s:Shared}{b:Addr}(I:Inv X pins σ H s)(hb:s.heap.objs.size<=b)(hn:H' b=none):gn X pins H' b:=by
 refine⟨hn,qS0 (qH0 I.lt hb),I.nofs hb,.inr (qB0 I.sz hb),fun x c e z=>?_,fun p hp z=>?_⟩
 . obtain⟨v,q⟩:=I.cell x c e;exact absurd (qH0 q.lt (by rw[z];exact hb)) (qR0 _)
 . exact absurd (qH0 (zN0 (I.pin p hp).1) (by rw[z];exact hb)) (qR0 _)
structure Turn(P:Program)(w:World)(K:W.Frag)(tg:Expr)(J:It)(fp:List Addr)(it:Addr)(tn:Nat->Heap->Prop):Prop where
 mem:it∈fp
 obj:∀i h,tn i h->∀b∈fp,∃o,h.get? b=some o/\∀v,o.data≠.cell v
 keep:∀i h h',tn i h->(∀b∈fp,∀o,h.get? b=some o->h'.get? b=some o)->tn i h'
 item:∀(X:Cx),X.prog=P->X.w=w->X.K=K->X.calm=true->∀(i:Nat)(pins:List (Addr×Obj))(s:Shared)(σ:St)(H:Hp)(E:Value->Shared->Prop),Inv X pins σ H s->(∀b∈fp,gn X pins H b)->tn i s.heap->J.go i H ->
  wpAny (model P w) X.A (pyNext (.ref it)) (fun r s1=>∃u,r=some u/\
   wpAny (model P w) X.A (letOwnedTupleGo tg (.ref it) u) (fun _ s2=>∃x H',Inv X pins σ H' s2/\RelV x u/\J.yld i H x H'/\tn (i+1) s2.heap/\∀b∈fp,H' b=none) E s1) E s
 done:∀(X:Cx),X.prog=P->X.w=w->X.K=K->X.calm=true->∀(i:Nat)(pins:List (Addr×Obj))(s:Shared)(σ:St)(H:Hp)(E:Value->Shared->Prop),Inv X pins σ H s->(∀b∈fp,gn X pins H b)->tn i s.heap->J.stop i H ->
  wpAny (model P w) X.A (pyNext (.ref it)) (fun r s1=>r=none/\Inv X pins σ H s1) E s
 self:∀(A:Around)(i:Nat)(s:Shared)(Q:Value->Shared->Prop)(E:Value->Shared->Prop),tn i s.heap->Q (.ref it) s->wpAny (model P w) A (pyIter (.ref it)) Q E s
abbrev TI:=St->Hp->(It->Hp->Prop)->Prop
def PIE(X:Cx)(pins:List (Addr×Obj))(σ:St)(tg:Expr)(R:It->Hp->Prop)(itv:Value)(s2:Shared):Prop:=
 ∃(it:Addr)(fp:List Addr)(tn:Nat->Heap->Prop)(J:It)(H':Hp),itv=.ref it/\Inv X pins σ H' s2/\Turn X.prog X.w X.K tg J fp it tn/\tn 0 s2.heap/\(∀b∈fp,gn X pins H' b)/\R J H'
def PI(X:Cx)(tg iter:Expr)(wi:TI):Prop:=
 ∀(pins:List (Addr×Obj))(s:Shared)(σ:St)(H:Hp)(R:It->Hp->Prop),Inv X pins σ H s->wi σ H R ->
  wpAny (model X.prog X.w) X.A (eval iter X.env) (fun v s1=>wpAny (model X.prog X.w) X.A (pyIter v) (PIE X pins σ tg R) X.xe s1) X.xe s
theorem sA{M:Model}{A:Around}{E:Value->Shared->Prop}{s:Shared}{tg:Expr}{it:Addr}{u:Value}{o:Obj}{n:String}{vs:Array Value}{Q:Unit->Shared->Prop}(ho:s.heap.get? it=some o)(hc:o.cls=.type n)(hd:o.data=.fields vs)
 (hn:["enumerate","zip","dict_itemiterator","dict_reverseitemiterator","odict_iterator","itertools.zip_longest","itertools.pairwise"].contains n=false) (hQ:Q () s):wpAny M A (letOwnedTupleGo tg (.ref it) u) Q E s:=by
 unfold letOwnedTupleGo;cases tg <;> first
  | exact zK0 hQ
  | (cases u <;> first
   | exact zK0 hQ
   | (refine zC0 (wpAny_load ho ?_)
      rw[hc,hd];show wpAny M A (if(["enumerate","zip","dict_itemiterator","dict_reverseitemiterator","odict_iterator","itertools.zip_longest","itertools.pairwise"].contains n&&vs[0]?==some (rawInt _))=true then _ else _) Q E s;rw[zF0 (by intro h;rw[hn,Bool.false_and]at h;cases h)];exact zK0 hQ))
def Itl(K:W.Frag)(a:Addr):It:=
 ⟨fun i H=>∃xs x,SqL K H a xs/\xs[i]?=some x,fun i H x H'=>H'=H/\∀xs,SqL K H a xs->xs[i]?=some x,fun i H=>∃xs,SqL K H a xs/\xs.length<=i⟩
def Itt(K:W.Frag)(a:Addr):It:=
 ⟨fun i H=>∃xs x,SqT K H a xs/\xs[i]?=some x,fun i H x H'=>H'=H/\∀xs,SqT K H a xs->xs[i]?=some x,fun i H=>∃xs,SqT K H a xs/\xs.length<=i⟩
def Itr(lo:Int)(n:Nat):It:=⟨fun i _=>i<n,fun i H x H'=>H'=H/\x=.int (lo+i),fun i _=>n<=i⟩
theorem we{P:Program}{w:World}{K:W.Frag}{tg:Expr}(a it:Addr):Turn P w K tg (Itl K a) [it] it (fun i h=>h.IsListIter it a i) where
 mem:=by simp
 obj:=fun i h st b hb=>by
  have e:b=it:=by simpa using hb
  subst e;obtain⟨o,e,c,d⟩:=st;exact⟨o,e,fun v z=>by rw[d]at z;cases z⟩
 keep:=fun i h h' st k=>st.at fun o e=>k it (by simp) o e
 item:=by
  intro X hP hw hK hc i pins s σ H E I hf st hg;subst hP hw hK;obtain⟨xs,x,hq,hx⟩:=hg;obtain⟨its,rv,p,hz⟩:=I.list hq;obtain⟨u,hu,ru⟩:=rv.get hx;obtain⟨f0,f1,f2,f3,f4,f5⟩:=hf it (by simp);refine wpAny_pyNext_list_item st p.isList (x:=u) (by simpa using hu) fun h' st' sb=>?_
  have I1:Inv X pins σ H { s with heap:=h' }:=I.turned (t':=s.toks) (fun b o hb e=>(sb.2 b hb).trans e) f0 f1 f3 f4 f5;obtain⟨o,e,c,d⟩:=id st';exact⟨u,rfl,sA (s:={ s with heap:=h' }) e c d (by decide) ⟨x,H,I1,ru,⟨rfl,fun ys hy=>by rw[I.list_inj hy hq];exact hx⟩,st',fun b hb=>(hf b hb).1⟩⟩
 done:=by
  intro X hP hw hK hc i pins s σ H E I hf st hg;subst hP hw hK;obtain⟨xs,hq,hx⟩:=hg;obtain⟨its,rv,p,hz⟩:=I.list hq;obtain⟨f0,f1,f2,f3,f4,f5⟩:=hf it (by simp);have hl:=rv.length;exact wpAny_pyNext_list_end (I.ok.hd hc) st p.isList (by simp;omega) fun h' eb=>⟨rfl,I.turned (t':=s.toks) (fun b o hb e=>eb b o hb e) f0 f1 f3 f4 f5⟩
 self:=fun _ _ _ _ _ st h=>wpAny_pyIter_listiter st h
theorem tD{P:Program}{w:World}{K:W.Frag}{tg:Expr}(a it:Addr):Turn P w K tg (Itt K a) [it] it (fun i h=>h.IsTupleIter it a i) where
 mem:=by simp
 obj:=fun i h st b hb=>by
  have e:b=it:=by simpa using hb
  subst e;obtain⟨o,e,c,d⟩:=st;exact⟨o,e,fun v z=>by rw[d]at z;cases z⟩
 keep:=fun i h h' st k=>st.at fun o e=>k it (by simp) o e
 item:=by
  intro X hP hw hK hc i pins s σ H E I hf st hg;subst hP hw hK;obtain⟨xs,x,hq,hx⟩:=hg;obtain⟨its,rv,p,hz⟩:=I.tuple hq;obtain⟨u,hu,ru⟩:=rv.get hx;obtain⟨f0,f1,f2,f3,f4,f5⟩:=hf it (by simp);refine wpAny_pyNext_tuple_item st (show s.heap.IsTuple a its.toArray from p) (x:=u) (by simpa using hu) fun h' st' sb=>?_
  have I1:Inv X pins σ H { s with heap:=h' }:=I.turned (t':=s.toks) (fun b o hb e=>(sb.2 b hb).trans e) f0 f1 f3 f4 f5;obtain⟨o,e,c,d⟩:=id st';exact⟨u,rfl,sA (s:={ s with heap:=h' }) e c d (by decide) ⟨x,H,I1,ru,⟨rfl,fun ys hy=>by rw[I.tuple_inj hy hq];exact hx⟩,st',fun b hb=>(hf b hb).1⟩⟩
 done:=by
  intro X hP hw hK hc i pins s σ H E I hf st hg;subst hP hw hK;obtain⟨xs,hq,hx⟩:=hg;obtain⟨its,rv,p,hz⟩:=I.tuple hq;obtain⟨f0,f1,f2,f3,f4,f5⟩:=hf it (by simp);have hl:=rv.length;exact wpAny_pyNext_tuple_end (I.ok.hd hc) st (show s.heap.IsTuple a its.toArray from p) (by simp;omega) fun h' eb=>⟨rfl,I.turned (t':=s.toks) (fun b o hb e=>eb b o hb e) f0 f1 f3 f4 f5⟩
 self:=fun _ _ _ _ _ st h=>wpAny_pyIter_tupleiter st h
theorem tE{P:Program}{w:World}{K:W.Frag}{tg:Expr}(it:Addr)(lo:Int)(n:Nat):Turn P w K tg (Itr lo n) [it] it (fun i h=>IsRangeIter h it (lo+(i:Nat)*1) ((n:Int)-(i:Nat)) 1) where
 mem:=by simp
 obj:=fun i h st b hb=>by
  have e:b=it:=by simpa using hb
  subst e;exact⟨_,st,fun v z=>by
   have z':Data.fields _=Data.cell v:=z;cases z'⟩
 keep:=fun i h h' st k=>k it (by simp) _ st
 item:=by
  intro X hP hw hK hc i pins s σ H E I hf st hg;subst hP hw hK;obtain⟨f0,f1,f2,f3,f4,f5⟩:=hf it (by simp);have W:=Walks.range (prog:=X.prog) (w:=X.w) (I.ok.hd hc) it lo 1 n;refine W.item i s _ _ hg st fun v h' tk hv st' kk=>?_
  obtain⟨t,rfl⟩:=hv;have I1:Inv X pins σ H { s with heap:=h',toks:=tk }:=I.turned (fun b o hb e=>kk b o (by simpa using hb) e) f0 f1 f3 f4 f5;refine⟨_,rfl,sA (s:={ s with heap:=h',toks:=tk }) (n:="range_iterator") st' rfl rfl (by decide) ⟨.int (lo+i),H,I1,⟨t,?_⟩,⟨rfl,rfl⟩,st',fun b hb=>(hf b hb).1⟩⟩;rw[Int.mul_one]
 done:=by
  intro X hP hw hK hc i pins s σ H E I hf st hg;subst hP hw hK;obtain⟨f0,f1,f2,f3,f4,f5⟩:=hf it (by simp);exact wpAny_pyNext_range_end (I.ok.hd hc) st (by have:n<=i:=hg;omega) fun h' eb=>⟨rfl,I.turned (t':=s.toks) (fun b o hb e=>eb b o hb e) f0 f1 f3 f4 f5⟩
 self:=fun _ _ _ _ _ st h=>wpAny_pyIter_rangeiter st h
section
variable {X:Cx} {tg:Expr}
def iList(K:W.Frag)(tl:TE):TI:=fun σ H R=>tl σ H fun x H1=>∃a,x=.ref a/\(∃xs,SqL K H1 a xs)/\R (Itl K a) H1
def iTup(K:W.Frag)(tl:TE):TI:=fun σ H R=>tl σ H fun x H1=>∃a,x=.ref a/\(∃xs,SqT K H1 a xs)/\R (Itt K a) H1
theorem bV{l:Expr}{tl:TE}(hl:PE X l tl):PI X tg l (iList X.K tl):=by
 intro pins s σ H R I h;refine thn (hl pins s σ H _ I h) fun v s1 ⟨x,H1,I1,r1,q1⟩=>?_
 obtain⟨a,e,⟨xs,hq⟩,q⟩:=q1;subst e;cases r1;obtain⟨its,rv,p,hz⟩:=I1.list hq;refine wpAny_pyIter_list p.isList ?_;refine⟨s1.heap.objs.size,[s1.heap.objs.size],_,_,H1,rfl,I1.kept (t':=s1.toks) fun b o e=>zQ0 _ e,we a _,⟨_,qA0 _ rfl,rfl,rfl⟩,fun b hb=>?_,q⟩;have e:b=s1.heap.objs.size:=by simpa using hb
 subst e;exact I1.fpOk (zJ0 _) (I1.hok.fresh (zJ0 _))
theorem iT{l:Expr}{tl:TE}(hl:PE X l tl):PI X tg l (iTup X.K tl):=by
 intro pins s σ H R I h;refine thn (hl pins s σ H _ I h) fun v s1 ⟨x,H1,I1,r1,q1⟩=>?_
 obtain⟨a,e,⟨xs,hq⟩,q⟩:=q1;subst e;cases r1;obtain⟨its,rv,p,hz⟩:=I1.tuple hq;refine wpAny_pyIter_tuple (show s1.heap.IsTuple a its.toArray from p) ?_;refine⟨s1.heap.objs.size,[s1.heap.objs.size],_,_,H1,rfl,I1.kept (t':=s1.toks) fun b o e=>zQ0 _ e,tD a _,⟨_,qA0 _ rfl,rfl,rfl⟩,fun b hb=>?_,q⟩;have e:b=s1.heap.objs.size:=by simpa using hb
 subst e;exact I1.fpOk (zJ0 _) (I1.hok.fresh (zJ0 _))
theorem rE{pins:List (Addr×Obj)}{σ:St}{H:Hp}{s:Shared}{R:It->Hp->Prop}{E:Value->Shared->Prop}{lo hi:Int}{t u v:Tok}{tk:Nat}(I:Inv X pins σ H s)(h1:-(2 ^ 62)<=lo)(h2:lo<2 ^ 62)(h3:-(2 ^ 62)<=hi)(h4:hi<2 ^ 62)
 (q:R (Itr lo (hi-lo).toNat) H):wpAny (model X.prog X.w) X.A (pyIter (.ref s.heap.objs.size)) (PIE X pins σ tg R) E { s with heap:=s.heap.push { cls:=.type "range",data:=.fields #[.int lo t,.int hi u,.int 1 v] },toks:=tk }:=by
 refine wpAny_pyIter_range (IsRange.new ..) (small_one h1 h2 h3 h4) ?_;have I1:Inv X pins σ H { s with heap:=s.heap.push { cls:=.type "range",data:=.fields #[.int lo t,.int hi u,.int 1 v] },toks:=tk }:=I.kept fun b o e=>zQ0 _ e
 refine ⟨(s.heap.push { cls:=.type "range",data:=.fields #[.int lo t,.int hi u,.int 1 v] }).objs.size,[(s.heap.push { cls:=.type "range",data:=.fields #[.int lo t,.int hi u,.int 1 v] }).objs.size],_,_,H,rfl,
  I1.kept (t':=tk) fun b o e=>zQ0 _ e,tE _ lo (hi-lo).toNat,?_,fun b hb=>?_,q⟩
 . have e1:lo+((0:Nat):Int)*1=lo:=by simp
   have e2:(((hi-lo).toNat:Nat):Int)-((0:Nat):Int)=Builtin.Range.rangeSize lo hi 1:=by rw[rangeSize_one];split <;> omega
   show IsRangeIter _ _ (lo+((0:Nat):Int)*1) ((((hi-lo).toNat:Nat):Int)-((0:Nat):Int)) 1;rw[e1,e2];exact qA0 _ rfl
 . have e:b=(s.heap.push { cls:=.type "range",data:=.fields #[.int lo t,.int hi u,.int 1 v] }).objs.size:=by simpa using hb
   subst e;exact I1.fpOk (zJ0 _) (I1.hok.fresh (zJ0 _))
def iRng1(ta:TA):TI:=fun σ H R=>ta σ H fun vs H1=>∃j:Int,vs=[.int j]/\-(2 ^ 62)<=j/\j<2 ^ 62/\R (Itr 0 j.toNat) H1
def iRng2(ta:TA):TI:=fun σ H R=>ta σ H fun vs H1=>∃i j:Int,vs=[.int i,.int j]/\(-(2 ^ 62)<=i/\i<2 ^ 62/\-(2 ^ 62)<=j/\j<2 ^ 62)/\R (Itr i (j-i).toNat) H1
theorem bv {a:Expr} {ta:TA} {p pos:Pos} (hg:Gl X "range") (hm:X.mg "range"=none) (ha:PA X [a] ta) (hs:starEach [a] X.env=[(false,eval a X.env)]:=by rfl):PI X tg (.Call (.Name "range" p) [a] [] pos) (iRng1 ta):=by
 intro pins s σ H R I h;refine Call_ (gj I hg hm boot_range (PyProof.Rows.callWith_type1 (thn (ha pos pins s σ H _ I h) fun us s1 ⟨vs,H1,I1,r1,q1⟩=>?_) hs rfl));obtain⟨j,e,q1,q2,q⟩:=q1;subst e;cases r1 with
 | cons r rr=>
   cases rr;obtain⟨t,rfl⟩:=r;exact call_range_1 (rE I1 (by omega) (by omega) q1 q2 (by simpa using q))
theorem wD {a b:Expr} {ta:TA} {p pos:Pos} (hg:Gl X "range") (hm:X.mg "range"=none) (ha:PA X [a,b] ta) (hs:starEach [a,b] X.env=[(false,eval a X.env),(false,eval b X.env)]:=by rfl) (hs2:starEach [b] X.env=[(false,eval b X.env)]:=by rfl) :
 PI X tg (.Call (.Name "range" p) [a,b] [] pos) (iRng2 ta):=by
 intro pins s σ H R I h;refine Call_ (gj I hg hm boot_range (PyProof.Rows.callWith_type1 (thn (ha pos pins s σ H _ I h) fun us s1 ⟨vs,H1,I1,r1,q1⟩=>?_) (by rw[hs,hs2]) (by rw[hs2];rfl)));obtain⟨i,j,e,⟨q1,q2,q3,q4⟩,q⟩:=q1;subst e;cases r1 with
 | cons r rr=>
   cases rr with
   | cons r' rr=>
     cases rr;obtain⟨t,rfl⟩:=r;obtain⟨t',rfl⟩:=r';exact call_range_2 (rE I1 q1 q2 q3 q4 q)
def tFor(wi:TI)(g:TG)(tb:TS):TS:=fun D σ H=>wi σ H fun J H1=>∃W:Nat->Nat->St->Hp->Prop,(∃m,W 0 m σ H1)/\∀i m σ H,W i m σ H ->
 (J.stop i H/\D.nx σ H)∨(J.go i H/\∃N:St->Hp->Prop,(∀ σ' H',N σ' H'->∃m',m'<m/\W (i+1) m' σ' H')/\∀x H',J.yld i H x H'->g x σ H' fun σ2 H2=>tb { D with nx:=N,ct:=N,bk:=D.nx } σ2 H2)
def iS(fp:List Addr)(h:Heap):List (Addr×Obj):=fp.filterMap fun b=>(h.get? b).map fun o=>(b,o)
theorem cV{fp:List Addr}{h:Heap}{b:Addr}{o:Obj}(hb:b∈fp)(e:h.get? b=some o):(b,o)∈iS fp h:=List.mem_filterMap.mpr ⟨b,hb,by rw[e];rfl⟩
theorem wQ{fp:List Addr}{h:Heap}{p:Addr×Obj}(hp:p∈iS fp h):p.1∈fp/\h.get? p.1=some p.2:=by
 obtain⟨b,hb,e⟩:=List.mem_filterMap.mp hp;cases q:h.get? b with
 | none=>rw[q]at e;cases e
 | some o=>
   rw[q]at e;have e':(b,o)=p:=zS0 e;subst e';exact⟨hb,q⟩
theorem Inv.pinned{pins:List (Addr×Obj)}{σ:St}{H:Hp}{s:Shared}{fp:List Addr}(I:Inv X pins σ H s)(hf:∀b∈fp,gn X pins H b)(ho:∀b∈fp,∃o,s.heap.get? b=some o/\∀v,o.data≠.cell v):Inv X (pins++iS fp s.heap) σ H s:=
 I.pins_of fun p hp=>(qD0 hp).elim (fun z=>I.pin p (qN0 _ z)) fun z=>by
  obtain⟨hb,e⟩:=wQ z;obtain⟨f0,f1,f2,_⟩:=hf p.1 hb;obtain⟨o,e',d⟩:=ho p.1 hb;rw[e]at e';cases e';exact⟨e,f0,f1,f2,d⟩
theorem Inv.unpinned{pins pl:List (Addr×Obj)}{σ:St}{H:Hp}{s:Shared}(I:Inv X (pins++pl) σ H s):Inv X pins σ H s:=I.pins_of fun p hp=>I.pin p (qN0 _ (List.mem_append_left _ hp))
theorem bY{iter:Expr}{body:List Stmt}{wi:TI}{g:TG}{tb:TS}{pos:Pos}(hp:PassesOwn (model X.prog X.w) X.A X.env X.xe)(hc:X.calm=true)(hi:PI X tg iter wi)(hg:PG X tg g)(hb:PSs X body tb)
 (hs:∀x,foldedSetIterable iter X.env x=pure x:=by intro _;rfl):PS X (.For tg iter body [] pos) (tFor wi g tb):=by
 intro pins s σ H D I h;refine wpAny_For (thn (hi pins s σ H _ I h) fun v s1 h1=>thn h1 fun itv s2 h2=>?_) hs;obtain⟨it,fp,tn,J,H2,e,I2,T,st2,f2,W,⟨m0,w0⟩,turn⟩:=h2;subst e;have stat:∀{H':Hp},(∀b∈fp,H' b=none)->∀b∈fp,gn X pins H' b:=fun hn b hb=>⟨hn b hb,(f2 b hb).2⟩
 refine codeAny_forLoop_any (fun n s'=>∃i σ' H',Inv X pins σ' H' s'/\tn i s'.heap/\(∀b∈fp,H' b=none)/\W i n σ' H') ?_ m0 ⟨0,σ,H2,I2,st2,fun b hb=>(f2 b hb).1,w0⟩;rintro n s3 ⟨i,σ3,H3,I3,st3,fr3,w3⟩;rcases turn i n σ3 H3 w3 with⟨stop,qn⟩ | ⟨go,N,hN,step⟩
 . refine wpAny_passesOwn hp (thn (T.done X rfl rfl rfl hc i pins s3 σ3 H3 X.xe I3 (stat fr3) st3 stop) fun r s4 ⟨hr,I4⟩=>?_);subst hr;exact wpAny_execs_nil ⟨σ3,H3,I4,qn⟩
 . refine wpAny_passesOwn hp (thn (T.item X rfl rfl rfl hc i pins s3 σ3 H3 X.xe I3 (stat fr3) st3 go) fun r s4 ⟨u,hr,h4⟩=>?_);subst hr;refine wpAny_passesOwn hp (thn h4 fun _ s5 ⟨x,H5,I5,r5,y5,st5,fr5⟩=>?_);have I5':=I5.pinned (stat fr5) (T.obj _ _ st5);refine wpAny_passesOwn hp (thn (hg _ s5 σ3 H5 x u _ I5' r5 (step x H5 y5)) fun _ s6 ⟨σ6,H6,I6,q6⟩=>?_);refine wpAny_passesOwn hp (thn (hb _ s6 σ6 H6 _ I6 q6) fun f s7 q7=>?_);have again:∀{σ7:St}{H7:Hp},Inv X (pins++iS fp s5.heap) σ7 H7 s7->N σ7 H7->∃m,m<n/\∃i σ' H',Inv X pins σ' H' s7/\tn i s7.heap/\(∀b∈fp,H' b=none)/\W i m σ' H':=fun{σ7 H7} I7 n7=>by
    obtain⟨m',hm,w7⟩:=hN σ7 H7 n7;refine⟨m',hm,i+1,σ7,H7,I7.unpinned,T.keep _ _ _ st5 fun b hb o e=>(I7.pin (b,o) (qN0 _ (qN0 _ (cV hb e)))).1,fun b hb=>?_,w7⟩;obtain⟨o,e,d⟩:=T.obj _ _ st5 b hb;exact(I7.pin (b,o) (qN0 _ (qN0 _ (cV hb e)))).2.1
   cases f with
   | next=>obtain⟨σ7,H7,I7,n7⟩:=q7;exact again I7 n7
   | cont=>obtain⟨σ7,H7,I7,n7⟩:=q7;exact again I7 n7
   | brk=>obtain⟨σ7,H7,I7,q7⟩:=q7;exact⟨σ7,H7,I7.unpinned,q7⟩
   | ret v=>obtain⟨x7,σ7,H7,I7,r7,q7⟩:=q7;exact⟨x7,σ7,H7,I7.unpinned,r7,q7⟩
end
theorem iF{K:W.Frag}{a:Addr}{xs:List V}{g:TG}{tb:TS}{D:Ends}{σ:St}{H:Hp}(Pv:Nat->St->Hp->Prop)(h0:Pv 0 σ H)(hl:∀i σ H,i<=xs.length->Pv i σ H->SqL K H a xs)
 (hs:∀i x σ H,xs[i]?=some x->Pv i σ H->g x σ H fun σ2 H2=>tb { D with nx:=Pv (i+1),ct:=Pv (i+1),bk:=D.nx } σ2 H2) (hd:∀ σ H,Pv xs.length σ H->D.nx σ H) :
 ∃ W:Nat->Nat->St->Hp->Prop,(∃m,W 0 m σ H)/\∀i m σ H,W i m σ H ->
  ((Itl K a).stop i H/\D.nx σ H)∨((Itl K a).go i H/\∃N:St->Hp->Prop,(∀ σ' H',N σ' H'->∃m',m'<m/\W (i+1) m' σ' H')/\∀x H',(Itl K a).yld i H x H'->g x σ H' fun σ2 H2=>tb { D with nx:=N,ct:=N,bk:=D.nx } σ2 H2):=by
 refine⟨fun i m σ H=>m=xs.length-i/\i<=xs.length/\Pv i σ H,⟨xs.length,by simp,qC0 _,h0⟩,?_⟩;rintro i m σ H ⟨rfl,hi,p⟩;have q:=hl i σ H hi p
 by_cases hlt:i<xs.length
 . refine .inr ⟨⟨xs,xs[i],q,by simp [hlt]⟩,Pv (i+1),fun σ' H' p'=>⟨xs.length-(i+1),by omega,rfl,hlt,p'⟩,fun x H' y=>?_⟩;obtain⟨e,y⟩:=y;subst e;exact hs i x σ _ (y xs q) p
 . have e:i=xs.length:=by omega
   subst e;exact .inl ⟨⟨xs,q,zJ0 _⟩,hd σ H p⟩
theorem qG{K:W.Frag}{a:Addr}{xs:List V}{g:TG}{tb:TS}{D:Ends}{σ:St}{H:Hp}(Pv:Nat->St->Hp->Prop)(h0:Pv 0 σ H)(hl:∀i σ H,i<=xs.length->Pv i σ H->SqT K H a xs)
 (hs:∀i x σ H,xs[i]?=some x->Pv i σ H->g x σ H fun σ2 H2=>tb { D with nx:=Pv (i+1),ct:=Pv (i+1),bk:=D.nx } σ2 H2) (hd:∀ σ H,Pv xs.length σ H->D.nx σ H) :
 ∃ W:Nat->Nat->St->Hp->Prop,(∃m,W 0 m σ H)/\∀i m σ H,W i m σ H ->
  ((Itt K a).stop i H/\D.nx σ H)∨((Itt K a).go i H/\∃N:St->Hp->Prop,(∀ σ' H',N σ' H'->∃m',m'<m/\W (i+1) m' σ' H')/\∀x H',(Itt K a).yld i H x H'->g x σ H' fun σ2 H2=>tb { D with nx:=N,ct:=N,bk:=D.nx } σ2 H2):=by
 refine⟨fun i m σ H=>m=xs.length-i/\i<=xs.length/\Pv i σ H,⟨xs.length,by simp,qC0 _,h0⟩,?_⟩;rintro i m σ H ⟨rfl,hi,p⟩;have q:=hl i σ H hi p
 by_cases hlt:i<xs.length
 . refine .inr ⟨⟨xs,xs[i],q,by simp [hlt]⟩,Pv (i+1),fun σ' H' p'=>⟨xs.length-(i+1),by omega,rfl,hlt,p'⟩,fun x H' y=>?_⟩;obtain⟨e,y⟩:=y;subst e;exact hs i x σ _ (y xs q) p
 . have e:i=xs.length:=by omega
   subst e;exact .inl ⟨⟨xs,q,zJ0 _⟩,hd σ H p⟩
theorem dh{lo:Int}{n:Nat}{g:TG}{tb:TS}{D:Ends}{σ:St}{H:Hp}(Pv:Nat->St->Hp->Prop)(h0:Pv 0 σ H)
 (hs:∀i σ H,i<n->Pv i σ H->g (.int (lo+i)) σ H fun σ2 H2=>tb { D with nx:=Pv (i+1),ct:=Pv (i+1),bk:=D.nx } σ2 H2) (hd:∀ σ H,Pv n σ H->D.nx σ H) :
 ∃ W:Nat->Nat->St->Hp->Prop,(∃m,W 0 m σ H)/\∀i m σ H,W i m σ H ->
  ((Itr lo n).stop i H/\D.nx σ H)∨((Itr lo n).go i H/\∃N:St->Hp->Prop,(∀ σ' H',N σ' H'->∃m',m'<m/\W (i+1) m' σ' H')/\∀x H',(Itr lo n).yld i H x H'->g x σ H' fun σ2 H2=>tb { D with nx:=N,ct:=N,bk:=D.nx } σ2 H2):=by
 refine⟨fun i m σ H=>m=n-i/\i<=n/\Pv i σ H,⟨n,by simp,qC0 _,h0⟩,?_⟩;rintro i m σ H ⟨rfl,hi,p⟩
 by_cases hlt:i<n
 . refine .inr ⟨hlt,Pv (i+1),fun σ' H' p'=>⟨n-(i+1),by omega,rfl,hlt,p'⟩,fun x H' y=>?_⟩;obtain⟨e,y⟩:=y;subst e y;exact hs i σ _ hlt p
 . have e:i=n:=by omega
   subst e;exact .inl ⟨zJ0 _,hd σ H p⟩
abbrev R2:=V->V->Hp->VK->Prop
def OpR(X:Cx)(f:Value->Value->Sem Value)(r:R2):Prop:=
 ∀(pins:List (Addr×Obj))(s:Shared)(σ:St)(H:Hp)(x y:V)(v u:Value)(Q:VK),Inv X pins σ H s->RelV x v->RelV y u->r x y H Q ->
  wpAny (model X.prog X.w) X.A (f v u) (EP X pins σ Q) X.xe s
def UnR(X:Cx)(f:Value->Sem Value)(r:V->Hp->VK->Prop):Prop:=
 ∀(pins:List (Addr×Obj))(s:Shared)(σ:St)(H:Hp)(x:V)(v:Value)(Q:VK),Inv X pins σ H s->RelV x v->r x H Q ->
  wpAny (model X.prog X.w) X.A (f v) (EP X pins σ Q) X.xe s
def hZ(X:Cx)(f:Value)(r:List V->Hp->VK->Prop):Prop:=
 ∀(pins:List (Addr×Obj))(s:Shared)(σ:St)(H:Hp)(xs:List V)(us:List Value)(Q:VK),Inv X pins σ H s->Vals xs us->r xs H Q ->
  wpAny (model X.prog X.w) X.A (call f us) (EP X pins σ Q) X.xe s
def tOp(r:R2)(ta tb:TE):TE:=fun σ H Q=>ta σ H fun x H1=>tb σ H1 fun y H2=>r x y H2 Q
def tUn(r:V->Hp->VK->Prop)(ta:TE):TE:=fun σ H Q=>ta σ H fun x H1=>r x H1 Q
def rI(C:Int->Int->Prop)(g:Int->Int->V):R2:=fun x y H Q=>isI x fun i=>isI y fun j=>C i j/\Q (g i j) H
def rI0(g:Int->Int->V):R2:=fun x y H Q=>isI x fun i=>isI y fun j=>Q (g i j) H
def rU(g:Int->V):V->Hp->VK->Prop:=fun x H Q=>isI x fun i=>Q (g i) H
section
variable {X:Cx} {a b c:Expr} {ta tb tc:TE} {pos:Pos}
theorem DJ(ha:PE X a ta)(hb:PE X b tb){pins:List (Addr×Obj)}{s:Shared}{σ:St}{H:Hp}{R:V->V->Hp->Prop}(I:Inv X pins σ H s)
 (h:ta σ H fun x H1=>tb σ H1 fun y H2=>R x y H2) {Q:Value->Shared->Prop} {f:Value->Value->Sem Value}
 (hf:∀v u s2 x y H2,Inv X pins σ H2 s2->RelV x v->RelV y u->R x y H2->wpAny (model X.prog X.w) X.A (f v u) Q X.xe s2) :
 wpAny (model X.prog X.w) X.A (eval a X.env) (fun v s₁=>wpAny (model X.prog X.w) X.A (eval b X.env) (fun u s₂=>wpAny (model X.prog X.w) X.A (f v u) Q X.xe s₂) X.xe s₁) X.xe s:=by
 refine thn (ha pins s σ H _ I h) fun v s1 ⟨x,H1,I1,r1,q1⟩=>?_
 refine thn (hb pins s1 σ H1 _ I1 q1) fun u s2 ⟨y,H2,I2,r2,q2⟩=>?_
 exact hf v u s2 x y H2 I2 r1 r2 q2
theorem ag{op:Operator}{r:R2}(ho:OpR X (binaryOp op) r)(ha:PE X a ta)(hb:PE X b tb):PE X (.BinOp a op b pos) (tOp r ta tb):=by
 intro pins s σ H Q I h;exact wpAny_BinOp (DJ ha hb I h fun v u s2 x y H2 I2 rx ry q=>ho pins s2 σ H2 x y v u Q I2 rx ry q)
theorem rK{op:UnaryOp}{r:V->Hp->VK->Prop}(ho:UnR X (unaryOp op) r)(ha:PE X a ta):PE X (.UnaryOp op a pos) (tUn r ta):=by
 intro pins s σ H Q I h;exact UnaryOp_ (thn (ha pins s σ H _ I h) fun v s1 ⟨x,H1,I1,r1,q1⟩=>ho pins s1 σ H1 x v Q I1 r1 q1)
theorem opI{f:Value->Value->Sem Value}{C:Int->Int->Prop}{g:Int->Int->Int}
 (rule:∀(i j:Int)(t u:Tok)(s:Shared)(Q:Value->Shared->Prop)(E:Value->Shared->Prop),C i j->Q (.int (g i j) s.toks) { s with toks:=s.toks+1 }->wpAny (model X.prog X.w) X.A (f (.int i t) (.int j u)) Q E s) :
 OpR X f (rI C fun i j=>.int (g i j)):=by
 intro pins s σ H x y v u Q I rx ry h;obtain⟨i,rfl,h1⟩:=iV h;obtain⟨j,rfl,hc,q⟩:=iV h1;obtain⟨t,rfl⟩:=rx;obtain⟨t',rfl⟩:=ry;exact rule i j t t' s _ _ hc ⟨.int (g i j),H,I.tok _,⟨_,rfl⟩,q⟩
theorem opI0{f:Value->Value->Sem Value}{g:Int->Int->Int}
 (rule:∀(i j:Int)(t u:Tok)(s:Shared)(Q:Value->Shared->Prop)(E:Value->Shared->Prop),Q (.int (g i j) s.toks) { s with toks:=s.toks+1 }->wpAny (model X.prog X.w) X.A (f (.int i t) (.int j u)) Q E s) :
 OpR X f (rI0 fun i j=>.int (g i j)):=by
 intro pins s σ H x y v u Q I rx ry h;obtain⟨i,rfl,h1⟩:=iV h;obtain⟨j,rfl,q⟩:=iV h1;obtain⟨t,rfl⟩:=rx;obtain⟨t',rfl⟩:=ry;exact rule i j t t' s _ _ ⟨.int (g i j),H,I.tok _,⟨_,rfl⟩,q⟩
theorem Be{f:Value->Value->Sem Value}{g:Int->Int->Bool}
 (rule:∀(i j:Int)(t u:Tok)(s:Shared)(Q:Value->Shared->Prop)(E:Value->Shared->Prop),Q (.bool (g i j)) s->wpAny (model X.prog X.w) X.A (f (.int i t) (.int j u)) Q E s) :
 OpR X f (rI0 fun i j=>.bl (g i j)):=by
 intro pins s σ H x y v u Q I rx ry h;obtain⟨i,rfl,h1⟩:=iV h;obtain⟨j,rfl,q⟩:=iV h1;obtain⟨t,rfl⟩:=rx;obtain⟨t',rfl⟩:=ry;exact rule i j t t' s _ _ ⟨.bl (g i j),H,I,rfl,q⟩
def CDiv(i j:Int):Prop:=0<j/\j<1073741824
def CPow(i j:Int):Prop:=0<=j/\j<=1000000/\i.natAbs<2 ^ 64
def CMul(i j:Int):Prop:=(-(2 ^ 64)<i/\i<2 ^ 64)∨(-(2 ^ 64)<j/\j<2 ^ 64)
theorem CMul.ok{i j:Int}(h:CMul i j):IntMulOk i j:=by
 rcases h with⟨h1,h2⟩ | ⟨h1,h2⟩
 . exact .of_left (intBits_le_64 h1 h2)
 . exact .of_right (intBits_le_64 h1 h2)
theorem aR:OpR X (binaryOp .Add) (rI0 fun i j=>.int (i+j)):=opI0 fun _ _ _ _ _ _ _ q=>add_int q
theorem aQ:OpR X (binaryOp .Sub) (rI0 fun i j=>.int (i-j)):=opI0 fun _ _ _ _ _ _ _ q=>sub_int q
theorem aW:OpR X (binaryOp .Mult) (rI CMul fun i j=>.int (i*j)):=opI fun _ _ _ _ _ _ _ hc q=>mul_int q hc.ok
theorem qu:OpR X (binaryOp .FloorDiv) (rI CDiv fun i j=>.int (i / j)):=opI fun i j _ _ _ _ _ hc q=>by
 have h1:(0:Int)<j:=hc.1;have h2:j<1073741824:=hc.2;exact floordiv_int (by omega) (by rw[Int.fdiv_eq_ediv_of_nonneg i (by omega)];exact q) (.inl (PyProof.noPylong_small (by omega)))
theorem aN:OpR X (binaryOp .Mod) (rI (fun _ j=>0<j) fun i j=>.int (i % j)):=opI fun i j _ _ _ _ _ hc q=>by
 have h1:(0:Int)<j:=hc;exact mod_int' (by omega) (by rw[Int.fmod_eq_emod_of_nonneg i (by omega)];exact q)
theorem zc:OpR X (binaryOp .Pow) (rI CPow fun i j=>.int (i ^ j.toNat)):=opI fun _ _ _ _ _ _ _ hc q=>pow_int_small hc.1 hc.2.1 hc.2.2 q
theorem unI{f:Value->Sem Value}{g:Int->Int}
 (rule:∀(i:Int)(t:Tok)(s:Shared)(Q:Value->Shared->Prop)(E:Value->Shared->Prop),Q (.int (g i) s.toks) { s with toks:=s.toks+1 }->wpAny (model X.prog X.w) X.A (f (.int i t)) Q E s) :
 UnR X f (rU fun i=>.int (g i)):=by
 intro pins s σ H x v Q I rx h;obtain⟨i,rfl,q⟩:=iV h;obtain⟨t,rfl⟩:=rx;exact rule i t s _ _ ⟨.int (g i),H,I.tok _,⟨_,rfl⟩,q⟩
theorem nu:UnR X (unaryOp .USub) (rU fun i=>.int (-i)):=unI fun _ _ _ _ _ q=>neg_int q
end
def scal:V->V->Bool
 | .non,.non=>true | .non,.int _=>true | .int _,.non=>true | .non,.bl _=>true | .bl _,.non=>true | .non,.str _=>true | .str _,.non=>true
 | .int _,.int _=>true | .bl _,.bl _=>true | .str _,.str _=>true | .byt _,.byt _=>true
 | .int _,.str _=>true | .str _,.int _=>true | .bl _,.str _=>true | .str _,.bl _=>true
 | _,_=>false
def rEq:R2:=fun x y H Q=>scal x y=true/\Q (.bl (decide (x=y))) H
def rNe:R2:=fun x y H Q=>scal x y=true/\Q (.bl (!decide (x=y))) H
theorem vS{i j:Int}:decide (V.int i=V.int j)=(i==j):=by
 rw[Bool.eq_iff_iff]
 simp
theorem Ae{i j:Bool}:decide (V.bl i=V.bl j)=(i==j):=by
 rw[Bool.eq_iff_iff]
 simp
theorem vR{i j:Str}:decide (V.str i=V.str j)=(i==j):=by
 rw[Bool.eq_iff_iff]
 simp
theorem vT{i j:Array UInt8}:decide (V.byt i=V.byt j)=(i.toList==j.toList):=by
 rw[Bool.eq_iff_iff];cases i;cases j
 simp
section
variable {X:Cx} {a b c:Expr} {ta tb tc:TE} {pos:Pos}
theorem bp{pins:List (Addr×Obj)}{σ:St}{H:Hp}{s:Shared}{Q:VK}{k k':Bool}(I:Inv X pins σ H s)(q:Q (.bl k) H)(e:k=k'):EP X pins σ Q (.bool k') s:=by
 subst e;exact⟨.bl k,H,I,rfl,q⟩
theorem aM:OpR X (compareOp .Eq) rEq:=by
 intro pins s σ H x y v u Q I rx ry h;obtain⟨hs,q⟩:=h;cases x with
 | non=>
   cases rx;cases y with
   | non=>cases ry;exact PySem.EqNone.eq_none_none (bp I q (by simp))
   | bl j=>cases ry;exact PySem.EqNone.eq_none_bool (bp I q (by simp))
   | int j=>obtain⟨t',rfl⟩:=ry;exact PySem.EqNone.eq_none_int (bp I q (by simp))
   | str j=>obtain⟨t',rfl⟩:=ry;exact PySem.EqNone.eq_none_str (bp I q (by simp))
   | _=>exact absurd (show false=true from hs) qE0
 | bl i=>
   cases rx;cases y with
   | non=>cases ry;exact PySem.EqNone.eq_bool_none (bp I q (by simp))
   | bl j=>cases ry;exact eq_bool (bp I q Ae)
   | str j=>obtain⟨t',rfl⟩:=ry;exact PySem.EqMixed.eq_bool_str (bp I q (by simp))
   | _=>exact absurd (show false=true from hs) qE0
 | int i=>
   obtain⟨t,rfl⟩:=rx;cases y with
   | non=>cases ry;exact PySem.EqNone.eq_int_none (bp I q (by simp))
   | int j=>obtain⟨t',rfl⟩:=ry;exact eq_int (bp I q vS)
   | str j=>obtain⟨t',rfl⟩:=ry;exact PySem.EqMixed.eq_int_str (bp I q (by simp))
   | _=>exact absurd (show false=true from hs) qE0
 | str i=>
   obtain⟨t,rfl⟩:=rx;cases y with
   | non=>cases ry;exact PySem.EqNone.eq_str_none (bp I q (by simp))
   | bl j=>cases ry;exact PySem.EqMixed.eq_str_bool (bp I q (by simp))
   | int j=>obtain⟨t',rfl⟩:=ry;exact PySem.EqMixed.eq_str_int (bp I q (by simp))
   | str j=>obtain⟨t',rfl⟩:=ry;exact eq_str (bp I q vR)
   | _=>exact absurd (show false=true from hs) qE0
 | byt i=>
   obtain⟨t,rfl⟩:=rx;cases y with
   | byt j=>obtain⟨t',rfl⟩:=ry;exact PySem.W.eq_bytes (bp I q vT)
   | _=>exact absurd (show false=true from hs) qE0
 | _=>cases y <;> exact absurd (show false=true from hs) qE0
theorem rN:OpR X (compareOp .NotEq) rNe:=by
 intro pins s σ H x y v u Q I rx ry h;obtain⟨hs,q⟩:=h;cases x with
 | non=>
   cases rx;cases y with
   | non=>cases ry;exact PySem.EqNone.ne_none_none (bp I q (by simp))
   | bl j=>cases ry;exact PySem.EqNone.ne_none_bool (bp I q (by simp))
   | int j=>obtain⟨t',rfl⟩:=ry;exact PySem.EqNone.ne_none_int (bp I q (by simp))
   | str j=>obtain⟨t',rfl⟩:=ry;exact PySem.EqNone.ne_none_str (bp I q (by simp))
   | _=>exact absurd (show false=true from hs) qE0
 | bl i=>
   cases rx;cases y with
   | non=>cases ry;exact PySem.EqNone.ne_bool_none (bp I q (by simp))
   | bl j=>cases ry;exact ne_bool (bp I q (congrArg not Ae))
   | str j=>obtain⟨t',rfl⟩:=ry;exact PySem.EqMixed.ne_bool_str (bp I q (by simp))
   | _=>exact absurd (show false=true from hs) qE0
 | int i=>
   obtain⟨t,rfl⟩:=rx;cases y with
   | non=>cases ry;exact PySem.EqNone.ne_int_none (bp I q (by simp))
   | int j=>obtain⟨t',rfl⟩:=ry;exact ne_int (bp I q (congrArg not vS))
   | str j=>obtain⟨t',rfl⟩:=ry;exact PySem.EqMixed.ne_int_str (bp I q (by simp))
   | _=>exact absurd (show false=true from hs) qE0
 | str i=>
   obtain⟨t,rfl⟩:=rx;cases y with
   | non=>cases ry;exact PySem.EqNone.ne_str_none (bp I q (by simp))
   | bl j=>cases ry;exact PySem.EqMixed.ne_str_bool (bp I q (by simp))
   | int j=>obtain⟨t',rfl⟩:=ry;exact PySem.EqMixed.ne_str_int (bp I q (by simp))
   | str j=>obtain⟨t',rfl⟩:=ry;exact ne_str (bp I q (congrArg not vR))
   | _=>exact absurd (show false=true from hs) qE0
 | byt i=>
   obtain⟨t,rfl⟩:=rx;cases y with
   | byt j=>obtain⟨t',rfl⟩:=ry;exact PySem.W.ne_bytes (bp I q (congrArg not vT))
   | _=>exact absurd (show false=true from hs) qE0
 | _=>cases y <;> exact absurd (show false=true from hs) qE0
theorem cU:OpR X (compareOp .Lt) (rI0 fun i j=>.bl (decide (i<j))):=Be fun _ _ _ _ _ _ _ q=>lt_int q
theorem vH:OpR X (compareOp .LtE) (rI0 fun i j=>.bl (decide (i<=j))):=Be fun _ _ _ _ _ _ _ q=>le_int q
theorem eE:OpR X (compareOp .Gt) (rI0 fun i j=>.bl (decide (j<i))):=Be fun _ _ _ _ _ _ _ q=>gt_int q
theorem zh:OpR X (compareOp .GtE) (rI0 fun i j=>.bl (decide (j<=i))):=Be fun _ _ _ _ _ _ _ q=>ge_int q
theorem CZ:OpR X (compareOp .Is) (fun x y H Q=>y=.non/\Q (.bl (decide (x=.non))) H):=by
 intro pins s σ H x y v u Q I rx ry h;obtain⟨rfl,q⟩:=h;cases ry;refine is_none_gen (bp I q ?_);cases x <;> first
  | (cases rx;rfl)
  | (obtain⟨t,rfl⟩:=rx;rfl)
theorem OpR.or{f:Value->Value->Sem Value}{r r':R2}(h:OpR X f r)(h':OpR X f r'):OpR X f (fun x y H Q=>r x y H Q∨r' x y H Q):=by
 intro pins s σ H x y v u Q I rx ry q;rcases q with q | q
 . exact h pins s σ H x y v u Q I rx ry q
 . exact h' pins s σ H x y v u Q I rx ry q
theorem aj(b:Expr){op:CmpOp}(h:op≠.In:=by decide)(h2:op≠.NotIn:=by decide):behindInMarks op b=false:=by
 have e1:(op==CmpOp.In)=false:=by cases op <;> first | rfl | exact absurd rfl h
 have e2:(op==CmpOp.NotIn)=false:=by cases op <;> first | rfl | exact absurd rfl h2
 cases b <;> simp [behindInMarks,e1,e2]
theorem cp{op:CmpOp}{r:R2}(ho:OpR X (compareOp op) r)(ha:PE X a ta)(hb:PE X b tb)(hm:behindInMarks op b=false):PE X (.Compare a [op] [b] pos) (tOp r ta tb):=by
 intro pins s σ H Q I h;exact wpAny_Compare1 (DJ ha hb I h fun v u s2 x y H2 I2 rx ry q=>ho pins s2 σ H2 x y v u Q I2 rx ry q) hm
def BH(t:TE):TT:=fun σ H Q=>t σ H fun x H'=>isB x fun k=>Q k H'
theorem ah{op:CmpOp}{r:R2}(ho:OpR X (compareOp op) r)(ha:PE X a ta)(hb:PE X b tb)(hm:behindInMarks op b=false):PT X (.Compare a [op] [b] pos) (BH (tOp r ta tb)):=by
 intro pins s σ H Q I h;refine wpAny_isTrue_Compare1 (thn (ha pins s σ H _ I h) fun v s1 ⟨x,H1,I1,r1,q1⟩=>thn (hb pins s1 σ H1 _ I1 q1) fun u s2 ⟨y,H2,I2,r2,q2⟩=>
  thn (ho pins s2 σ H2 x y v u _ I2 r1 r2 q2) fun c s3 ⟨z,H3,I3,r3,q3⟩=>?_) hm
 obtain⟨k,e,q3⟩:=ko q3;subst e;cases r3;exact wpAny_truthy_bool ⟨H3,I3,q3⟩
def CB(r r':R2)(ta tb tc:TE):TE:=fun σ H Q=>ta σ H fun x H1=>tb σ H1 fun y H2=>r x y H2 fun z H3=>∃k,z=.bl k/\
 (if k=true then tc σ H3 fun w' H4=>r' y w' H4 Q else Q (.bl false) H3)
theorem yL{op op':CmpOp}{r r':R2}(ho:OpR X (compareOp op) r)(ho':OpR X (compareOp op') r')(ha:PE X a ta)(hb:PE X b tb)(hc:PE X c tc)
 (hm:lastMarks [op,op'] [b,c]=false:=by with_unfolding_all rfl):PT X (.Compare a [op,op'] [b,c] pos) (BH (CB r r' ta tb tc)):=by
 intro pins s σ H Q I h;refine isTrue_chain (thn (ha pins s σ H _ I h) fun v s1 ⟨x,H1,I1,r1,q1⟩=>test_link (thn (hb pins s1 σ H1 _ I1 q1) fun u s2 ⟨y,H2,I2,r2,q2⟩=>
  thn (ho pins s2 σ H2 x y v u _ I2 r1 r2 q2) fun d s3 ⟨z,H3,I3,r3,k,e,q3⟩=>?_)) hm
 subst e;cases r3;refine wpAny_truthy_bool ?_;cases k with
 | false=>
   exact ite_ff ⟨H3,I3,q3⟩
 | true=>
   refine ite_tt (test_last (thn (hc pins s3 σ H3 _ I3 q3) fun w' s4 ⟨z',H4,I4,r4,q4⟩=>thn (ho' pins s4 σ H4 y z' u w' _ I4 r2 r4 q4) fun d' s5 ⟨z2,H5,I5,r5,q5⟩=>?_));obtain⟨k2,e2,q5⟩:=ko q5;subst e2;cases r5;exact wpAny_truthy_bool ⟨H5,I5,q5⟩
theorem iU:(sizeLine:Nat)<2 ^ 63:=by rw[sizeLine_eq];decide
theorem km:OpR X (binaryOp .Add) (fun x y H Q=>∃i j,x=.str i/\y=.str j/\i.length+j.length<=sizeLine/\Q (.str (i++j)) H):=by
 intro pins s σ H x y v u Q I rx ry h;obtain⟨i,j,rfl,rfl,hz,q⟩:=h;obtain⟨t,rfl⟩:=rx;obtain⟨t',rfl⟩:=ry;exact add_str (fun t' tk=>⟨.str (i++j),H,I.tok _,⟨_,rfl⟩,q⟩) hz
theorem lW{x:V}{us:List Value}(r:Vals [x] us):∃u,us=[u]/\RelV x u:=by
 cases r with
 | cons r1 r2=>cases r2;exact⟨_,rfl,r1⟩
theorem xI{x y:V}{us:List Value}(r:Vals [x,y] us):∃u w',us=[u,w']/\RelV x u/\RelV y w':=by
 cases r with
 | cons r1 r2=>
   cases r2 with
   | cons r3 r4=>cases r4;exact⟨_,_,rfl,r1,r3⟩
theorem lT (hc:X.calm=true):hZ X (.builtin "max") (fun xs H Q=>∃i j,xs=[.int i,.int j]/\Q (.int (if j>i then j else i)) H):=by
 intro pins s σ H xs us Q I r h;obtain⟨i,j,rfl,q⟩:=h;obtain⟨u,w',rfl,⟨t,rfl⟩,⟨t',rfl⟩⟩:=xI r;refine max_two_ints (I.ok.hd hc) fun h' tk k=>⟨_,H,I.kept k,?_,q⟩
 by_cases hj:j>i
 . rw[zI0 hj,zI0 hj];exact⟨_,rfl⟩
 . rw[zF0 hj,zF0 hj];exact⟨_,rfl⟩
theorem pQ (hc:X.calm=true):hZ X (.builtin "min") (fun xs H Q=>∃i j,xs=[.int i,.int j]/\Q (.int (if j<i then j else i)) H):=by
 intro pins s σ H xs us Q I r h;obtain⟨i,j,rfl,q⟩:=h;obtain⟨u,w',rfl,⟨t,rfl⟩,⟨t',rfl⟩⟩:=xI r;refine min_two_ints (I.ok.hd hc) fun h' tk k=>⟨_,H,I.kept k,?_,q⟩
 by_cases hj:j<i
 . rw[zI0 hj,zI0 hj];exact⟨_,rfl⟩
 . rw[zF0 hj,zF0 hj];exact⟨_,rfl⟩
theorem gK:hZ X (.type "int") (fun xs H Q=>(∃i,xs=[.int i]/\Q (.int i) H)∨∃k,xs=[.bl k]/\Q (.int (if k then 1 else 0)) H):=by
 intro pins s σ H xs us Q I r h;rcases h with⟨i,rfl,q⟩ | ⟨k,rfl,q⟩
 . obtain⟨u,rfl,t,rfl⟩:=lW r;exact call_int_int ⟨.int i,H,I,⟨_,rfl⟩,q⟩
 . obtain⟨u,rfl,r1⟩:=lW r;cases r1;exact call_int_bool ⟨.int (if k then 1 else 0),H,I.tok _,⟨_,rfl⟩,q⟩
end
structure ObjM(h:Heap)(x dx C:Addr)(mA:Str->Option Value):Prop where
 obj:h.get? x=some (PySem.W.instObj C dx)
 ns:h.Ns1 dx mA
 ne:dx≠x
theorem wY{h:Heap}{dx:Addr}{mA:Str->Option Value}(n:h.Ns1 dx mA):∃od,h.get? dx=some od/\∀name,PySem.W.lookIn name od=some (mA name):=by
 obtain⟨o,es,ep,ho,hd,hk,_,hm⟩:=n;refine⟨o,ho,fun name=>?_⟩;have e:=hm name;unfold nsFind findBy at e;rw[←Array.find?_toList]at e;unfold PySem.W.lookIn;rw[hd]
 dsimp only
 split
 . rename_i y q;rw[q]at e;exact congrArg some e
 . rename_i q;rw[q]at e;have a:es.toList.any (·.refKey)=false:=by
    rw[List.any_eq_false];intro y hy;obtain⟨z,t,hkey⟩:=hk y (Array.mem_toList_iff.mp hy)
    simp [DictEntry.refKey,hkey]
   have a':¬ es.toList.any (·.refKey)=true:=by rw[a];exact qE0
   rw[zF0 a'];exact congrArg some e
theorem ObjM.look{h:Heap}{x dx C:Addr}{mA:Str->Option Value}(I:ObjM h x dx C mA):∃od,PySem.W.InstAt h x (PySem.W.instObj C dx) C (some od)/\∀name,PySem.W.lookIn name od=some (mA name):=
 let⟨od,ho,hl⟩:=wY I.ns
 ⟨od,⟨I.obj,rfl,rfl,ho⟩,hl⟩
section
variable {prog:Program} {w:World} {A:Around} {E:Value->Shared->Prop} {s:Shared} {K:W.Frag} {x dx C f:Addr} {mA:Str->Option Value} {name:Str} {v:Value}
theorem Bv{expr:Bool}{Q:Value->Shared->Prop}(X:K.In s.heap)(I:ObjM s.heap x dx C mA)(hg:PySem.W.plainGet K C name=true)(hh:PySem.W.hasDictIn K C=true)
 (ha:PySem.W.findIn K (.ref C) name=some none) (hv:mA name=some v) (hv':PySem.W.handedIn v=true) (h:Q v { s with toks:=s.toks+1 }) :
 wpAny (model prog w) A (getAttr (.ref x) name expr) Q E s:=by
 obtain⟨od,J,hl⟩:=I.look;exact PySem.W.get_value X J (PySem.W.plainGet_of hg).1 (PySem.W.findObj_own hh ha rfl (by rw[hl,hv])) hv' h
theorem zW{pl:Sem Bool}{Q:Value×List Value->Shared->Prop}(X:K.In s.heap)(I:ObjM s.heap x dx C mA)(hg:PySem.W.plainGet K C name=true)
 (hf:PySem.W.findIn K (.ref C) name=some (some (.ref f))) (ht:PySem.W.isFn K (.ref f)=true) (hv:mA name=none) (h:Q (.ref f,[.ref x]) s) :
 wpAny (model prog w) A (getMethod (.ref x) name pl) Q E s:=by
 obtain⟨od,J,hl⟩:=I.look;exact PySem.W.method_fn X J (PySem.W.plainGet_of hg).1 (PySem.W.plainGet_of hg).2 hf (beq_iff_eq.mp ht) (by show(PySem.W.lookIn name od).map (·.isSome)=some false;rw[hl,hv];rfl) h
theorem AL{ns:List Str}{Q:Unit->Shared->Prop}(X:K.In s.heap)(I:ObjM s.heap x dx C mA)
 (hs:PySem.W.findIn K (.ref C) "__setattr__"=some (some (.builtin "object.__setattr__"))) (hp:PySem.W.plainOver K C=true) (ht:PySem.W.takerIn K C name=some none) (hh:PySem.W.hasDictIn K C=true)
 (hw:PySem.Within mA ns) (hsz:ns.length<=sizeLine)
 (h:∀h',ObjM h' x dx C (fun y=>if y=name then some v else mA y)->Heap.SameBut dx s.heap h'->Q () { s with heap:=h',toks:=s.toks+2 }) :
 wpAny (model prog w) A (setAttr (.ref x) name v) Q E s:=by
 obtain⟨od,J,hl⟩:=I.look;refine PySem.W.set_plain X J hs (PySem.W.osa_open (s:={ s with toks:=s.toks+1 }) (r:=none) X J hp ht fun b=>?_);obtain⟨cd,hc,hd'⟩:=PySem.W.any_some hh;have hx:s.heap.get? x=some ⟨.ref C,some dx,.plain,#[]⟩:=I.obj;refine zC0 (zK0 (zC0 (zC0 (wpAny_loadPart hx (zC0 (PySem.W.Looks.here (s:={ s with toks:=s.toks+1 }) (PySem.W.looks_clsIn X hc) ?_))))));rw[hd'];refine zK0 (a:=some dx) (zC0 (zK0 (zC0 ?_)));refine wpAny_nsSet1 (s:={ s with toks:=s.toks+1 }) I.ns fun h' hn2 hs2=>?_
 obtain⟨oD,esD,epD,hoD,hdD,hcD⟩:=hn2.count (PySem.Within.cons name v hw);refine zC0 (wpAny_lookBehind hoD (by rw[hdD];exact pastItsLine_dict (qB0 hcD (by rw[qF0];omega))) ?_);exact zK0 (h _ ⟨(hs2.2 _ (Ne.symm I.ne)).trans I.obj,hn2,I.ne⟩ hs2)
theorem zK{R:Result->Shared->Prop}{vs:List Value}{kw:List (Str×Value)}(X:K.In s.heap)(hm:PySem.W.makesIn K C=true)
 (hi:PySem.W.findIn K (.ref C) "__init__"=some (some (.ref f))) (hf:PySem.W.typeIn K (.ref f)=some (.type "function"))
 (h:codeAny (model prog w) (A.under (.builtin "type.__call__" ⟨.ref C::vs,kw⟩)) (.call (.ref f) ⟨.ref (s.heap.objs.size+1)::vs,kw⟩) (PySem.W.InitBack (s.heap.objs.size+1) R)
  { s with heap:=(s.heap.push PySem.W.emptyDict).push (PySem.W.instObj C s.heap.objs.size) }) :
 codeAny (model prog w) A (.call (.ref C) ⟨vs,kw⟩) R s:=by
 obtain⟨hh,g,d,t,os⟩:=s;exact PySem.W.make_core (PySem.W.makes_of X hm) (PySem.W.looks_findIn X hi) (fun self=>PySem.W.bind_fn X self hf) (.inl rfl) h
end
def cr(f:Str)(v:V):List (Str×V)->List (Str×V)
 | []=>[(f,v)]
 | (g,x)::r=>if g=f then(g,v)::r else(g,x)::cr f v r
theorem aS(f g:Str)(v:V):∀fs:List (Str×V),(cr f v fs).lookup g=if g=f then some v else fs.lookup g
 | []=>by
   show List.lookup g [(f,v)]=_
   by_cases h:g=f
   . have hb:(g==f)=true:=beq_iff_eq.mpr h;simp only[List.lookup,hb,zI0 h]
   . have hb:(g==f)=false:=beq_eq_false_iff_ne.mpr h;simp only[List.lookup,hb,zF0 h]
 | (k,x)::r=>by
   have ih:=aS f g v r;rw[show cr f v ((k,x)::r)=(if k=f then(k,v)::r else(k,x)::cr f v r)from rfl]
   by_cases hk:k=f
   . rw [zI0 hk]
     by_cases h:g=k
     . have hb:(g==k)=true:=beq_iff_eq.mpr h;simp only[List.lookup,hb,zI0 (h.trans hk)]
     . have hb:(g==k)=false:=beq_eq_false_iff_ne.mpr h;simp only[List.lookup,hb,zF0 (fun e:g=f=>h (e.trans hk.symm))]
   . rw [zF0 hk]
     by_cases h:g=k
     . have hb:(g==k)=true:=beq_iff_eq.mpr h;simp only[List.lookup,hb,zF0 (fun e:g=f=>hk (h.symm.trans e))]
     . have hb:(g==k)=false:=beq_eq_false_iff_ne.mpr h;simp only[List.lookup,hb];exact ih
theorem lP(f:Str)(v:V):∀fs:List (Str×V),f∈(cr f v fs).map (·.1)/\∀g,g∈fs.map (·.1)->g∈(cr f v fs).map (·.1)
 | []=>⟨by simp [cr],fun g h=>by simp at h⟩
 | (k,x)::r=>by
   obtain⟨i1,i2⟩:=lP f v r;rw[show cr f v ((k,x)::r)=(if k=f then(k,v)::r else(k,x)::cr f v r)from rfl]
   by_cases hk:k=f
   . rw[zI0 hk];subst hk;exact⟨by simp,fun g h=>by simpa using h⟩
   . rw [zF0 hk];refine⟨?_,fun g h=>?_⟩
     . rw[qG0];exact qQ0 _ i1
     . rw [qG0]at h ⊢;rcases zZ0 h with e | e
       . exact List.mem_cons.mpr (.inl e)
       . exact qQ0 _ (i2 g e)
theorem mw(f:Str)(v:V):∀fs:List (Str×V),(cr f v fs).length<=fs.length+1
 | []=>by simp [cr]
 | (k,x)::r=>by
   have ih:=mw f v r;rw[show cr f v ((k,x)::r)=(if k=f then(k,v)::r else(k,x)::cr f v r)from rfl]
   by_cases hk:k=f
   . rw[zI0 hk,qF0,qF0];omega
   . rw[zF0 hk,qF0,qF0];omega
theorem RelO.some_of{v:V}{o:Option Value}(r:RelO (some v) o):∃u,o=some u/\RelV v u:=by
 cases o with
 | none=>exact(show False from r).elim
 | some u=>exact⟨u,rfl,r⟩
theorem RelO.none_of{o:Option Value}(r:RelO none o):o=none:=by
 cases o with
 | none=>rfl
 | some u=>exact(show False from r).elim
theorem xo{v:V}{u:Value}(r:RelV v u):PySem.W.handedIn u=true:=by
 cases v with
 | non=>cases(show u=Value.none from r);rfl
 | bl b=>cases(show u=Value.bool b from r);rfl
 | int i=>obtain⟨t,e⟩:=(show ∃t,u=Value.int i t from r);cases e;rfl
 | str x=>obtain⟨t,e⟩:=(show ∃t,u=Value.str x t from r);cases e;rfl
 | byt b=>obtain⟨t,e⟩:=(show ∃t,u=Value.bytes b t from r);cases e;rfl
 | flt b=>obtain⟨t,e⟩:=(show ∃t,u=Value.float b t from r);cases e;rfl
 | ref a=>cases(show u=Value.ref a from r);rfl
 | ty n=>cases(show u=Value.type n from r);rfl
section
variable {P:Program} {w:World} {H H':Hp} {h h':Heap} {a C dx:Addr} {fs fs':List (Str×V)}
theorem nj(hok:HOk P w H h)(e:H a=some (.ins C dx fs)):∃mA,ObjM h a dx C mA/\(∀f,RelO (fs.lookup f) (mA f))/\PySem.Within mA (fs.map (·.1))/\fs.length<=1000/\H dx=some (.own a):=by
 obtain⟨d,z,ne,ob,mA,n,r,q⟩:=(show ObjOk P w H h a (.ins C dx fs)from hok a _ e)
 exact⟨mA,⟨ob,n,ne⟩,r,q,z,d⟩
end
structure Cls(K:W.Frag)(C:Addr):Prop where
 pg:PySem.W.plainGet K C Str.empty=true
 hd:PySem.W.hasDictIn K C=true
 po:PySem.W.plainOver K C=true
 sa:PySem.W.findIn K (.ref C) "__setattr__"=some (some (.builtin "object.__setattr__"))
theorem Cls.get{K:W.Frag}{C:Addr}(c:Cls K C)(f:Str):PySem.W.plainGet K C f=true:=c.pg
def NoAttr(K:W.Frag)(C:Addr)(f:Str):Prop:=PySem.W.findIn K (.ref C) f=some none
theorem NoAttr.taker{K:W.Frag}{C:Addr}{f:Str}(n:NoAttr K C f):PySem.W.takerIn K C f=some none:=by
 unfold PySem.W.takerIn;rw[show PySem.W.findIn K (.ref C) f=some none from n];rfl
structure Meth(K:W.Frag)(C:Addr)(m:Str)(f:Addr):Prop where
 at_:PySem.W.findIn K (.ref C) m=some (some (.ref f))
 fn:PySem.W.isFn K (.ref f)=true
 kp:PySem.W.keepIn K (.ref f)=true
section
variable {X:Cx} {pins:List (Addr×Obj)} {σ:St} {H:Hp} {s:Shared} {a C dx:Addr} {fs:List (Str×V)} {f:Str} {v:V} {A:Around} {E:Value->Shared->Prop}
theorem uM{b:Bool}{Q:Value->Shared->Prop}(I:Inv X pins σ H s)(e:H a=some (.ins C dx fs))(c:Cls X.K C)(n:NoAttr X.K C f)(l:fs.lookup f=some v)
 (h:∀u s',Inv X pins σ H s'->RelV v u->Q u s'):wpAny (model X.prog X.w) A (getAttr (.ref a) f b) Q E s:=by
 obtain⟨mA,O,r,_,_,_⟩:=nj I.hok e;obtain⟨u,hu,ru⟩:=RelO.some_of (v:=v) (o:=mA f) (by rw[←l];exact r f);exact Bv I.kIn O (c.get f) c.hd n hu (xo ru) (h u _ (I.tok _) ru)
theorem oE{m:Str}{g:Addr}{pl:Sem Bool}{Q:Value×List Value->Shared->Prop}(I:Inv X pins σ H s)(e:H a=some (.ins C dx fs))(c:Cls X.K C)(k:Meth X.K C m g)(l:fs.lookup m=none)
 (h:Q (.ref g,[.ref a]) s):wpAny (model X.prog X.w) A (getMethod (.ref a) m pl) Q E s:=by
 obtain⟨mA,O,r,_,_,_⟩:=nj I.hok e;have hn:mA m=none:=RelO.none_of (by rw[←l];exact r m);exact zW I.kIn O (c.get m) k.at_ k.fn hn h
theorem tR{y:V}{u:Value}{Q:Unit->Shared->Prop}(I:Inv X pins σ H s)(e:H a=some (.ins C dx fs))(c:Cls X.K C)(n:NoAttr X.K C f)(hl:fs.length<1000)(ry:RelV y u)
 (h:∀s',Inv X pins σ (upd H a (.ins C dx (cr f y fs))) s'->Q () s'):wpAny (model X.prog X.w) A (setAttr (.ref a) f u) Q E s:=by
 obtain⟨mA,O,r,wi,_,ho⟩:=nj I.hok e;have hz:(fs.map (·.1)).length<=sizeLine:=by rw[zH0,sizeLine_eq];omega
 refine AL I.kIn O c.sa c.po n.taker c.hd wi hz fun h' O' sb=>h _ ?_
 have hd:∃o,h'.get? dx=some o:=let⟨o,_,_,e',_⟩:=O'.ns;⟨o,e'⟩
 refine I.write (x:=a) (e:=dx) (by rw[e];exact True.intro) (.inr ho) (fun b q hb z=>(sb.2 b hb).trans z) hd ?_;refine⟨by rw[am O.ne];exact ho,?_,O.ne,O'.obj,_,O'.ns,fun g=>?_,fun g hg=>?_⟩
 . have:=mw f y fs;omega
 . show RelO ((cr f y fs).lookup g) (if g=f then some u else mA g);rw[aS]
   by_cases q:g=f
   . rw[zI0 q,zI0 q];exact ry
   . rw[zF0 q,zF0 q];exact r g
 . by_cases q:g=f
   . rw[q];exact(lP f y fs).1
   . refine(lP f y fs).2 g (wi g fun z=>hg ?_);show(if g=f then some u else mA g)=none;rw[zF0 q];exact z
theorem Inv.made(I:Inv X pins σ H s):Inv X pins σ (upd (upd H s.heap.objs.size (.own (s.heap.objs.size+1))) (s.heap.objs.size+1) (.ins C s.heap.objs.size []))
 { s with heap:=(s.heap.push PySem.W.emptyDict).push (PySem.W.instObj C s.heap.objs.size) }:=by
 have e1:(s.heap.push PySem.W.emptyDict).get? s.heap.objs.size=some PySem.W.emptyDict:=qA0 s.heap rfl;have e2:((s.heap.push PySem.W.emptyDict).push (PySem.W.instObj C s.heap.objs.size)).get? (s.heap.objs.size+1)=some (PySem.W.instObj C s.heap.objs.size):=by
  have:=qA0 (s.heap.push PySem.W.emptyDict) (o:=PySem.W.instObj C s.heap.objs.size) rfl
  rwa [Heap.size_push]at this
 have e3:(s.heap.push PySem.W.emptyDict).Ns s.heap.objs.size (fun _=>none):=⟨PySem.W.emptyDict,#[],_,e1,rfl,(fun e he=>absurd he (by simp)),fun _=>rfl⟩
 have I1:=I.laid (a:=s.heap.objs.size) (o:=.own (s.heap.objs.size+1)) (h':=s.heap.push PySem.W.emptyDict) (t':=s.toks) (fun b u q=>zQ0 _ q) (zJ0 _) ⟨_,e1⟩;refine I1.laid (a:=s.heap.objs.size+1) (o:=.ins C s.heap.objs.size []) (t':=s.toks) (fun b u q=>zQ0 _ q) (Nat.le_of_eq (Heap.size_push _ _)) ?_;have ne:s.heap.objs.size≠s.heap.objs.size+1:=zR0 (Nat.lt_succ_self _);refine⟨by rw[am ne,aE],qC0 _,ne,e2,fun _=>none,(Heap.Ns1.of_empty e3).at fun o q=>zQ0 _ q,fun _=>True.intro,fun y hy=>absurd rfl hy⟩
theorem BC{prog:Program}{w:World}{env:Env}{e:Expr}{f:Str}{pos:Pos}{s:Shared}{Q:Value->Shared->Prop}(hb:attributeBase e f env (eval e env)=eval e env)
 (h:wpAny (model prog w) A (eval e env) (fun o s₁=>wpAny (model prog w) A (getAttr o f true) Q E s₁) E s):wpAny (model prog w) A (eval (.Attribute e f pos) env) Q E s:=
 Attribute_any_ h (by rw[arm_eval_Attribute,hb])
end
def tFld(K:W.Frag)(ta:TE)(f:Str):TE:=fun σ H Q=>ta σ H fun x H1=>isR x fun a=>∃C dx fs v,H1 a=some (.ins C dx fs)/\Cls K C/\NoAttr K C f/\fs.lookup f=some v/\Q v H1
def sFld(K:W.Frag)(ta tv:TE)(f:Str):TS:=fun D σ H=>tv σ H fun y H1=>ta σ H1 fun x H2=>∃a C dx fs,x=.ref a/\H2 a=some (.ins C dx fs)/\Cls K C/\NoAttr K C f/\fs.length<1000/\
 D.nx σ (upd H2 a (.ins C dx (cr f y fs)))
section
variable {X:Cx} {o e value:Expr} {f:Str} {pos pos' tpos:Pos} {ta tv:TE}
theorem aP(he:PE X e ta)(hb:attributeBase e f X.env (eval e X.env)=eval e X.env):PE X (.Attribute e f pos) (tFld X.K ta f):=by
 intro pins s σ H Q I h;refine BC hb (thn (he pins s σ H _ I h) fun u s1 ⟨x,H1,I1,rx,q0⟩=>?_);obtain⟨a,ex,C,dx,fs,v,ea,c,n,l,q⟩:=uJ q0;subst ex;obtain rfl:u=Value.ref a:=rx;exact uM I1 ea c n l fun u' s2 I2 ru=>⟨v,H1,I2,ru,q⟩
theorem cN(ha:PE X o ta)(hv:PE X value tv)(hs:swapsWith value (some (.Attribute o f pos')) pos.line X.env=pure false):PS X (.Assign [.Attribute o f pos'] value pos) (sFld X.K ta tv f):=by
 intro pins s σ H D I h;refine plainObj_wpAny_Assign_Attribute (thn (hv pins s σ H _ I h) fun u s1 ⟨y,H1,I1,ry,q⟩=>thn (ha pins s1 σ H1 _ I1 q) fun ov s2 ⟨x,H2,I2,rx,a,C,dx,fs,ex,ea,c,n,l,q2⟩=>?_) hs;subst ex;obtain rfl:ov=Value.ref a:=rx;exact tR I2 ea c n l ry fun s3 I3=>⟨σ,_,I3,q2⟩
end
section
variable {X:Cx} {pins:List (Addr×Obj)} {σ:St} {H:Hp} {s:Shared} {A:Around} {E:Value->Shared->Prop} {Q:Value->Shared->Prop} {c:Value} {b:Bool}
inductive TyOf(K:W.Frag)(H:Hp):V->Value->Prop where
 | non:TyOf K H .non (.type "NoneType")
 | bl (x:Bool):TyOf K H (.bl x) (.type "bool")
 | int (i:Int):TyOf K H (.int i) (.type "int")
 | str (x:Str):TyOf K H (.str x) (.type "str")
 | flt (x:UInt64):TyOf K H (.flt x) (.type "float")
 | lst {a:Addr} {xs:List V} (e:H a=some (.lst xs)):TyOf K H (.ref a) (.type "list")
 | frz {a:Addr} {o:Obj} {xs:List V} (e:H a=some (.frz o (.lst xs))):TyOf K H (.ref a) (.type "list")
 | tup {a:Addr} {xs:List V} (e:H a=some (.tup xs)):TyOf K H (.ref a) (.type "tuple")
 | dK {a:Addr} {kvs:List (Key×V)} (e:H a=some (.dK kvs)):TyOf K H (.ref a) (.type "dict")
 | dT {a:Addr} {kvs:List (List Key×V)} (e:H a=some (.dT kvs)):TyOf K H (.ref a) (.type "dict")
 | ins {a C dx:Addr} {fs:List (Str×V)} (e:H a=some (.ins C dx fs)) (cl:Cls K C) (ha:PySem.W.findIn K (.ref C) "__class__"=some (some (.builtin "object.__class__")))
  (hn:PySem.W.specialIn K (.builtin "object.__class__") "__get__"=some (some (.builtin "getset_descriptor.__get__"))) (htk:PySem.W.takesIn K (.builtin "object.__class__")=some true)
  (hm:PySem.W.mroIn K C (.type "object")=some true):TyOf K H (.ref a) (.ref C)
theorem xj{x:V}{u t:Value}(I:Inv X pins σ H s)(rx:RelV x u)(ty:TyOf X.K H x t)(e:PySem.W.kitOne X.K t c=some b)(h:∀tk,Q (.bool b) { s with toks:=tk }) :
 wpAny (model X.prog X.w) A (call (.builtin "isinstance") [u,c]) Q E s:=by
 cases ty with
 | non=>cases(show u=Value.none from rx);exact PySem.W.kia_one PySem.W.kitx_none I.kIn True.intro e (fun z=>nomatch z) h
 | bl y=>cases(show u=Value.bool y from rx);exact PySem.W.kia_one PySem.W.kitx_bool I.kIn True.intro e (fun z=>nomatch z) h
 | int i=>obtain⟨t,q⟩:=(show ∃t,u=Value.int i t from rx);cases q;exact PySem.W.kia_one PySem.W.kitx_int I.kIn True.intro e (fun z=>nomatch z) h
 | str y=>obtain⟨t,q⟩:=(show ∃t,u=Value.str y t from rx);cases q;exact PySem.W.kia_one PySem.W.kitx_str I.kIn True.intro e (fun z=>nomatch z) h
 | flt y=>obtain⟨t,q⟩:=(show ∃t,u=Value.float y t from rx);cases q;exact PySem.W.kia_one PySem.W.kitx_float I.kIn True.intro e (fun z=>nomatch z) h
 | @lst a xs ea=>
   cases(show u=Value.ref a from rx);obtain⟨_,_,n,_,h1⟩:=(show ObjOk X.prog X.w H s.heap a (.lst xs)from I.hok a _ ea)
   exact PySem.W.kia_one PySem.W.kitx_list I.kIn ⟨_,h1,rfl⟩ e (fun z=>nomatch z) h
 | @frz a ob xs ea=>
   cases(show u=Value.ref a from rx);obtain⟨_,_,_,n,_,h1⟩:=(show ObjOk X.prog X.w H s.heap a (.frz ob (.lst xs))from I.hok a _ ea)
   exact PySem.W.kia_one PySem.W.kitx_list I.kIn ⟨_,h1,rfl⟩ e (fun z=>nomatch z) h
 | @tup a xs ea=>
   cases(show u=Value.ref a from rx);obtain⟨_,_,_,p,_⟩:=(show ObjOk X.prog X.w H s.heap a (.tup xs)from I.hok a _ ea)
   obtain⟨o,h1,h2,_⟩:=p;exact PySem.W.kia_one PySem.W.kitx_tuple I.kIn ⟨o,h1,h2⟩ e (fun z=>nomatch z) h
 | @dK a kvs ea=>
   cases(show u=Value.ref a from rx);obtain⟨_,_,vs,_,p⟩:=(show ObjOk X.prog X.w H s.heap a (.dK kvs)from I.hok a _ ea)
   obtain⟨o,es,ep,h1,h2,_⟩:=p;exact PySem.W.kia_one PySem.W.kitx_dict I.kIn ⟨o,h1,h2.1⟩ e (fun z=>nomatch z) h
 | @dT a kvs ea=>
   cases(show u=Value.ref a from rx);obtain⟨_,_,xs,_,o,es,ep,h1,h2,_⟩:=(show ObjOk X.prog X.w H s.heap a (.dT kvs)from I.hok a _ ea)
   exact PySem.W.kia_one PySem.W.kitx_dict I.kIn ⟨o,h1,h2.1⟩ e (fun z=>nomatch z) h
 | @ins a C dx fs ea cl ha hn htk hm=>
   cases(show u=Value.ref a from rx);obtain⟨mA,O,_⟩:=nj I.hok ea;obtain⟨od,J,_⟩:=O.look;exact PySem.W.kia_one (PySem.W.kitx_own (cl.get _) cl.hd ha hn htk hm) I.kIn J e (fun z=>nomatch z) h
end
structure Room(k:Nat)(A:Around):Prop where
 hd:A.handled=none
 dp:A.depth+3*k+5<recursionLimit
 un:A.units+16*k+200<cLine
theorem Room.mono{j k:Nat}{A:Around}(r:Room k A)(h:j<=k):Room j A:=⟨r.hd,by have:=r.dp;omega,by have:=r.un;omega⟩
theorem Room.deeper{k:Nat}{A:Around}(r:Room (k+1) A)(env:Env):Room k (A.deeper env):=
 ⟨r.hd,by have:=r.dp;show A.depth+1+3*k+5<_;omega,by have:=r.un;show A.units+3+16*k+200<_;omega⟩
theorem uD {A:Around} {C:Addr} {us:List Value} {kw:List (Str×Value)}:(A.under (.builtin "type.__call__" ⟨.ref C::us,kw⟩)).depth=A.depth+1:=by
 first | rfl | simp [Around.under,Code.weight,Code.isCreation,Code.isGuard,Code.isCaller,Code.frames,Code.isFrame,guardIds]
theorem uC {A:Around} {C:Addr} {us:List Value} {kw:List (Str×Value)}:(A.under (.builtin "type.__call__" ⟨.ref C::us,kw⟩)).units=A.units+1:=by
 first | rfl | simp [Around.under,Code.cUnits,Code.frames,Code.isFrame]
theorem Room.make {k:Nat} {A:Around} (r:Room (k+1) A) (C:Addr) (us:List Value) (kw:List (Str×Value)):Room k (A.under (.builtin "type.__call__" ⟨.ref C::us,kw⟩)):=
 ⟨r.hd,by have:=r.dp;rw[uD];omega,by have:=r.un;rw[uC];omega⟩
theorem Room.depth{k:Nat}{A:Around}(r:Room k A):A.depth<recursionLimit:=by have:=r.dp;omega
theorem Room.units{k:Nat}{A:Around}(r:Room k A):A.units+64<cLine:=by have:=r.un;omega
def tH:TA:=fun _ H Q=>Q [] H
def kz(ta:TE)(tr:TA):TA:=fun σ H Q=>ta σ H fun x H1=>tr σ H1 fun xs H2=>Q (x::xs) H2
section
variable {X:Cx} {e:Expr} {es:List Expr} {te:TE} {t:TA} {pos:Pos}
theorem aJ:PA X [] tH:=fun _ _ _ _ H Q I h=>Calls.spliced_nil ⟨[],H,I,.nil,h⟩
theorem af(ha:PE X e te)(hr:PA X es t)(hs:starEach (e::es) X.env=(false,eval e X.env)::starEach es X.env:=by rfl):PA X (e::es) (kz te t):=by
 intro pos pins s σ H Q I h;rw[hs];show wpAny _ _ (spliced ((false,eval e X.env)::backTo pos (starEach es X.env))) _ _ s;refine Calls.spliced_cons (thn (ha pins s σ H _ I h) fun u s1 ⟨x,H1,I1,r1,q1⟩=>?_);exact thn (hr pos pins s1 σ H1 _ I1 q1) fun us s2 ⟨xs,H2,I2,r2,q2⟩=>⟨x::xs,H2,I2,.cons r1 r2,q2⟩
def Cr(t:TA):TE:=fun σ H Q=>t σ H fun xs H1=>xs.length<=sizeLine/\∀p,H1 p=none->Q (.ref p) (upd H1 p (.tup xs))
def Ct(t:TA):TE:=fun σ H Q=>t σ H fun xs H1=>xs.length<=sizeLine/\∀p,H1 p=none->Q (.ref p) (upd H1 p (.lst xs))
theorem bd{x1}(h:PA X es t):PE X (.Tuple es x1 pos) (Cr t):=by
 intro pins s σ H Q I hq;refine wpAny_Tuple_spliced (thn (h pos pins s σ H _ I hq) fun us s1 ⟨xs,H1,I1,r,z,q⟩=>⟨by rw[←r.length];exact z,?_⟩);have hf:H1 s1.heap.objs.size=none:=I1.hok.fresh (zJ0 _);refine⟨.ref s1.heap.objs.size,upd H1 s1.heap.objs.size (.tup xs),I1.laid (t':=s1.toks) (fun b u e=>zQ0 _ e) (zJ0 _) ?_,rfl,q _ hf⟩;exact⟨z,us,r,⟨_,qA0 _ rfl,rfl,_,rfl⟩,_,qA0 _ rfl,rfl⟩
theorem bU(h:PA X es t):PE X (.List es pos) (Ct t):=by
 intro pins s σ H Q I hq;refine wpAny_List_spliced (thn (h pos pins s σ H _ I hq) fun us s1 ⟨xs,H1,I1,r,z,q⟩=>⟨by rw[←r.length];exact z,?_⟩);have hf:H1 s1.heap.objs.size=none:=I1.hok.fresh (zJ0 _);refine⟨.ref s1.heap.objs.size,upd H1 s1.heap.objs.size (.lst xs),I1.laid (t':=s1.toks) (fun b u e=>zQ0 _ e) (zJ0 _) ?_,rfl,q _ hf⟩;exact⟨z,us,0,r,qA0 _ rfl⟩
end
abbrev Sp:=List V->Hp->VK->XK->Prop
abbrev CXT:=List Env->Hp->Shared->XK->Value->Shared->Prop
structure Env0(P:Program)(w:World)(K:W.Frag)(mg:Str->Option Value)(base:Heap)(A:Around)(outer:List Env)(s:Shared)(H:Hp):Prop where
 frames:A.frames=some outer
 mod:Mod K mg base
 bs:∀b o,base.get? b=some o->s.heap.get? b=some o/\H b=none
 bsz:base.objs.size<=s.heap.objs.size
 funs:s.heap.FunFrames base outer
 frf:∀b∈frs outer,H b=none
 hok:HOk P w H s.heap
 bare:AllBare s.gens
def CE(outer:List Env)(P:Program)(w:World)(H:Hp)(s:Shared)(Q:VK)(u:Value)(s':Shared):Prop:=
 ∃v H',s'.os=s.os/\AllBare s'.gens/\Un (frs outer) [] H H' s.heap s'.heap/\HOk P w H' s'.heap/\RelV v u/\Q v H'
def CR(CX:CXT)(outer:List Env)(P:Program)(w:World)(H:Hp)(s:Shared)(Q:VK)(E:XK)(r:Result)(s':Shared):Prop:=
 match r with
 | .ok (.ret u)=>CE outer P w H s Q u s'
 | .ok _=>False
 | .error e=>CX outer H s E e s'
structure FnOk(P:Program)(w:World)(K:W.Frag)(mg:Str->Option Value)(base:Heap)(CX:CXT)(k:Nat)(f:Addr)(fd:FuncData)(ps:List Str)(sp:Sp):Prop where
 len:∀vs H Q E,sp vs H Q E->vs.length=ps.length
 run:∀(A:Around)(outer:List Env)(s:Shared)(H:Hp)(args:Args)(us:List Value)(vs:List V)(Q:VK)(E:XK),Room k A->Env0 P w K mg base A outer s H->BindsTo s fd args (ps.zip us)->Vals vs us->sp vs H Q E ->
  codeAny (model P w) A (.call (.ref f) args) (CR CX outer P w H s Q E) s
theorem Env0.make{P:Program}{w:World}{K:W.Frag}{mg:Str->Option Value}{base:Heap}{A:Around}{outer:List Env}{s:Shared}{H:Hp}(e:Env0 P w K mg base A outer s H)(C:Addr)(us:List Value)(kw:List (Str×Value)) :
 Env0 P w K mg base (A.under (.builtin "type.__call__" ⟨.ref C::us,kw⟩)) outer s H:=⟨by first | exact e.frames | (simpa [Around.under,Code.envs,Code.isFrame,pushEnvs]using e.frames),e.mod,e.bs,e.bsz,e.funs,e.frf,e.hok,e.bare⟩
section
variable {X:Cx} {pins:List (Addr×Obj)} {σ:St} {H:Hp} {s s':Shared}
theorem Inv.env0(I:Inv X pins σ H s):Env0 X.prog X.w X.K X.mg X.base X.A X.stack s H:=
 ⟨I.ok.frames,I.ok.mod,I.bs,qB0 I.ok.bsz I.sz,I.stack,I.stkFree,I.hok,I.bare⟩
theorem Inv.after{Q:VK}{u:Value}(I:Inv X pins σ H s)(h:CE X.stack X.prog X.w H s Q u s'):EP X pins σ Q u s':=by
 obtain⟨v,H',os,bare,un,hok,r,q⟩:=h;obtain⟨hh,g,d,t,os'⟩:=s';obtain rfl:os'=s.os:=os;exact⟨v,H',I.call (h':=hh) (g':=g) (d':=d) (t':=t) (ch:=[]) un hok bare (fun b z=>absurd z (by simp)),r,q⟩
end
def xV(sp:Sp)(dvs:List V)(E:XK)(t:TA):TE:=fun σ H Q=>t σ H fun vs H1=>sp (vs++dvs) H1 Q E
def BJ(C:Addr)(m:Str)(sp:Sp)(dvs:List V)(E:XK)(ta:TE)(t:TA):TE:=fun σ H Q=>ta σ H fun x H1=>∃a dx fs,x=.ref a/\H1 a=some (.ins C dx fs)/\fs.lookup m=none/\
 t σ H1 fun vs H2=>sp (x::(vs++dvs)) H2 Q E
def tMake(C:Addr)(sp:Sp)(dvs:List V)(E:XK)(t:TA):TE:=fun σ H Q=>t σ H fun vs H1=>∀x dx,H1 x=none->H1 dx=none->dx≠x ->
 sp (.ref x::(vs++dvs)) (upd (upd H1 dx (.own x)) x (.ins C dx [])) (fun v H2=>v=.non/\Q (.ref x) H2) E
def Binds(K:W.Frag)(fd:FuncData)(ps:List Str)(ds:List Value):Prop:=
 ∀(s:Shared)(us:List Value),K.In s.heap->(us++ds).length=ps.length->BindsTo s fd ⟨us,[]⟩ (ps.zip (us++ds))
theorem Binds.all{K:W.Frag}{fd:FuncData}{ps:List Str}(h:∀us:List Value,us.length=ps.length->bindArgs fd ⟨us,[]⟩=pure (ps.zip us)):Binds K fd ps []:=fun s us _ hl=>by
 rw[List.append_nil]at hl ⊢;exact .of_eq (h us hl)
def ku(CX:CXT)(X:Cx)(E:XK):Prop:=∀(pins:List (Addr×Obj))(σ:St)(H:Hp)(s:Shared)(e:Value)(s':Shared),Inv X pins σ H s->CX X.stack H s E e s'->X.xe e s'
section
variable {X:Cx} {CX:CXT} {k:Nat} {f C:Addr} {fd:FuncData} {ps:List Str} {sp:Sp} {dvs:List V} {ds:List Value} {E:XK} {x m:Str} {p pos apos:Pos} {e o:Expr} {es:List Expr} {ta:TE} {t:TA}
theorem tW{pins:List (Addr×Obj)}{σ:St}{H:Hp}{s:Shared}{Q:VK}{us:List Value}{vs:List V}(F:FnOk X.prog X.w X.K X.mg X.base CX k f fd ps sp)(hr:Room k X.A)(hb:Binds X.K fd ps ds)(hd:Vals dvs ds)(hx:ku CX X E)
 (I:Inv X pins σ H s) (r:Vals vs us) (h:sp (vs++dvs) H Q E):wpAny (model X.prog X.w) X.A (call (.ref f) us) (EP X pins σ Q) X.xe s:=by
 have r2:Vals (vs++dvs) (us++ds):=r.append hd;have hl:(us++ds).length=ps.length:=by rw[←r2.length];exact F.len _ _ _ _ h
 refine wpAny_call (codeAny_mono (F.run X.A X.stack s H ⟨us,[]⟩ (us++ds) (vs++dvs) Q E hr I.env0 (hb s us I.kIn hl) r2 h) fun r s' hq=>?_);cases r with
 | error e=>exact hx pins σ H s e s' I hq
 | ok fl=>
   cases fl with
   | ret u=>exact I.after hq
   | next=>exact False.elim hq
   | brk=>exact False.elim hq
   | cont=>exact False.elim hq
theorem Bb(F:FnOk X.prog X.w X.K X.mg X.base CX k f fd ps sp)(hr:Room k X.A)(hg:Gl X x)(hm:X.mg x=some (.ref f))(hk:PySem.W.keepIn X.K (.ref f)=true)(hb:Binds X.K fd ps ds)(hd:Vals dvs ds)(hx:ku CX X E)
 (ha:PA X (e::es) t) (hdb:(x==("__debug__":Str))=false:=by decide) (he:starEach (e::es) X.env=(false,eval e X.env)::starEach es X.env:=by rfl) (hpl:(backTo pos (starEach es X.env)).any (·.1)=false:=by rfl) :
 PE X (.Call (.Name x p) (e::es) [] pos) (xV sp dvs E t):=by
 intro pins s σ H Q I h;refine wpAny_Call_Name_kw (qC I hg hm ?_ hdb);refine PySem.W.callWith_K (h₀:=X.base) I.ok.mod.kin hk (thn (ha pos pins s σ H _ I h) fun us s1 ⟨vs,H1,I1,r,q⟩=>⟨I1.kIn,?_⟩) he hpl;exact tW F hr hb hd hx I1 r q
theorem eD{pl:Sem Bool}(he:PE X o ta)(c:Cls X.K C)(hm:Meth X.K C m f)(F:FnOk X.prog X.w X.K X.mg X.base CX k f fd ps sp)(hr:Room k X.A)(hb:Binds X.K fd ps ds)(hd:Vals dvs ds)(hx:ku CX X E)(ha:PA X (e::es) t)
 (hst:starEach (e::es) X.env=(false,eval e X.env)::starEach es X.env:=by rfl) (hpl:(backTo pos (starEach es X.env)).any (·.1)=false:=by rfl)
 (ht:eval (.Call (.Attribute o m apos) (e::es) [] pos) X.env=(do
  let ov ←eval o X.env
  standAt apos.atName
  let(f,first) ←holding [ov] (getMethod ov m pl)
  callWith pos f first (backTo pos (starEach (e::es) X.env)) (backToKw pos (keywordEach [] X.env))):=by rfl) :
 PE X (.Call (.Attribute o m apos) (e::es) [] pos) (BJ C m sp dvs E ta t):=by
 intro pins s σ H Q I h;refine PySem.W.methodCall_KW (pl:=pl) (thn (he pins s σ H _ I h) fun u s1 ⟨x,H1,I1,rx,a,dx,fs,ex,ea,l,q⟩=>?_) ht;subst ex;obtain rfl:u=Value.ref a:=rx;refine oE I1 ea c hm l ?_;refine PySem.W.callWith_K (first:=[.ref a]) (h₀:=X.base) I.ok.mod.kin hm.kp (thn (ha pos pins s1 σ H1 _ I1 q) fun us s2 ⟨vs,H2,I2,r,q2⟩=>⟨I2.kIn,?_⟩) hst hpl;exact tW (us:=.ref a::us) (vs:=.ref a::vs) F hr hb hd hx I2 (.cons rfl r) q2
theorem yS{pl:Sem Bool}(he:PE X o ta)(c:Cls X.K C)(hm:Meth X.K C m f)(F:FnOk X.prog X.w X.K X.mg X.base CX k f fd ps sp)(hr:Room k X.A)(hb:Binds X.K fd ps ds)(hd:Vals dvs ds)(hx:ku CX X E)
 (ht:eval (.Call (.Attribute o m apos) [] [] pos) X.env=(do
  let ov ←eval o X.env
  standAt apos.atName
  let(f,first) ←holding [ov] (getMethod ov m pl)
  callWith pos f first (backTo pos (starEach [] X.env)) (backToKw pos (keywordEach [] X.env))):=by rfl) :
 PE X (.Call (.Attribute o m apos) [] [] pos) (BJ C m sp dvs E ta tH):=by
 intro pins s σ H Q I h;refine PySem.W.methodCall_KW (pl:=pl) (thn (he pins s σ H _ I h) fun u s1 ⟨x,H1,I1,rx,a,dx,fs,ex,ea,l,q⟩=>?_) ht;subst ex;obtain rfl:u=Value.ref a:=rx;refine oE I1 ea c hm l ?_;exact PySem.W.callWith_K0 (first:=[.ref a]) I1.kIn hm.kp (tW (us:=[.ref a]) (vs:=[.ref a]) F hr hb hd hx I1 (.cons rfl .nil) q)
structure Mk(K:W.Frag)(C f:Addr):Prop where
 makes:PySem.W.makesIn K C=true
 init:PySem.W.findIn K (.ref C) "__init__"=some (some (.ref f))
 fn:PySem.W.isFn K (.ref f)=true
 kp:PySem.W.keepIn K (.ref C)=true
theorem yE{pins:List (Addr×Obj)}{σ:St}{H:Hp}{s:Shared}{Q:VK}{us:List Value}{vs:List V}(M:Mk X.K C f)(F:FnOk X.prog X.w X.K X.mg X.base CX k f fd ps sp)(hr:Room (k+1) X.A)(hb:Binds X.K fd ps ds)(hd:Vals dvs ds)
 (hx:ku CX X E) (I:Inv X pins σ H s) (r:Vals vs us)
 (h:∀x dx,H x=none->H dx=none->dx≠x->sp (.ref x::(vs++dvs)) (upd (upd H dx (.own x)) x (.ins C dx [])) (fun v H2=>v=.non/\Q (.ref x) H2) E) :
 wpAny (model X.prog X.w) X.A (call (.ref C) us) (EP X pins σ Q) X.xe s:=by
 have hq:=h (s.heap.objs.size+1) s.heap.objs.size (I.hok.fresh (qI0 _)) (I.hok.fresh (zJ0 _)) (zR0 (Nat.lt_succ_self _));have I2:=Inv.made (C:=C) I;have r2:Vals (V.ref (s.heap.objs.size+1)::(vs++dvs)) (Value.ref (s.heap.objs.size+1)::(us++ds)):=.cons rfl (r.append hd);have hl:(Value.ref (s.heap.objs.size+1)::us++ds).length=ps.length:=by
  have e:=r2.length;rw[F.len _ _ _ _ hq]at e;exact e.symm
 refine wpAny_call (zK (f:=f) I.kIn M.makes M.init (beq_iff_eq.mp M.fn) (codeAny_mono (F.run _ X.stack _ _ ⟨Value.ref (s.heap.objs.size+1)::us,[]⟩ (Value.ref (s.heap.objs.size+1)::(us++ds)) _ _ E (hr.make C us [])
  (I2.env0.make C us []) (hb _ (Value.ref (s.heap.objs.size+1)::us) I2.kIn hl) r2 hq) fun r s' hq'=>?_))
 cases r with
 | error e=>exact hx pins σ _ _ e s' I2 hq'
 | ok fl=>
   cases fl with
   | ret u=>
     obtain⟨v,H',I3,rv,ev,q3⟩:=I2.after hq';subst ev;exact⟨rv,⟨V.ref (s.heap.objs.size+1),H',I3,rfl,q3⟩⟩
   | next=>exact False.elim hq'
   | brk=>exact False.elim hq'
   | cont=>exact False.elim hq'
theorem mX(M:Mk X.K C f)(F:FnOk X.prog X.w X.K X.mg X.base CX k f fd ps sp)(hr:Room (k+1) X.A)(hg:Gl X x)(hm:X.mg x=some (.ref C))(hb:Binds X.K fd ps ds)(hd:Vals dvs ds)(hx:ku CX X E)
 (ha:PA X (e::es) t) (hdb:(x==("__debug__":Str))=false:=by decide) (he:starEach (e::es) X.env=(false,eval e X.env)::starEach es X.env:=by rfl) (hpl:(backTo pos (starEach es X.env)).any (·.1)=false:=by rfl) :
 PE X (.Call (.Name x p) (e::es) [] pos) (tMake C sp dvs E t):=by
 intro pins s σ H Q I h;refine wpAny_Call_Name_kw (qC I hg hm ?_ hdb);refine PySem.W.callWith_K (h₀:=X.base) I.ok.mod.kin M.kp (thn (ha pos pins s σ H _ I h) fun us s1 ⟨vs,H1,I1,r,q⟩=>⟨I1.kIn,?_⟩) he hpl;exact yE M F hr hb hd hx I1 r q
end
structure FnScope(N P:List Str)(sc:Scope):Prop where
 kind:sc.kind=.function
 co:sc.isCoroutine=false
 gen:sc.isGenerator=false
 nd:N.Nodup
 pre:N.take P.length=P
 par:∀x∈P,sc.names.lookup x=some .local∨sc.names.lookup x=some .cell
 nofree:∀y∈sc.names,y.2≠.free
theorem pR{kindOf:Str->Option NameKind}{x:Str}:∀{binds:List (Str×Value)}{m:Str->Option Value},(∀v,(x,v)∉binds)->bindL kindOf binds m x=m x
 | [],_,_=>rfl
 | (n,v)::r,m,h=>by
   unfold bindL;rw[pR fun w hw=>h w (qQ0 _ hw)]
   split
   . have:x≠n:=by rintro rfl;exact h v qP0
     simp [this]
   . rfl
theorem pT{kindOf:Str->Option NameKind}{x:Str}:∀{binds:List (Str×Value)}{m:Str->Option Value},(∀v,(x,v)∉binds)->bindC kindOf binds m x=m x
 | [],_,_=>rfl
 | (n,v)::r,m,h=>by
   unfold bindC;rw[pT fun w hw=>h w (qQ0 _ hw)]
   split
   . rfl
   . have:x≠n:=by rintro rfl;exact h v qP0
     simp [this]
theorem pS{kindOf:Str->Option NameKind}{x:Str}{v:Value}:∀{P:List Str}{vs:List Value}{i:Nat}{m:Str->Option Value},P.Nodup->P[i]?=some x->vs[i]?=some v->kindOf x=some .local ->
 bindL kindOf (P.zip vs) m x=some v
 | [],_,_,_,_,h,_,_=>by simp at h
 | _::_,[],_,_,_,_,h,_=>by simp at h
 | p::P,w::vs,0,m,nd,h1,h2,hk=>by
   simp at h1 h2;subst h1;subst h2
   show bindL kindOf ((p,w)::P.zip vs) m p=_;unfold bindL;rw[pR fun v hv=>(List.nodup_cons.mp nd).1 (List.of_mem_zip hv).1,zI0 hk]
   simp
 | p::P,w::vs,i+1,m,nd,h1,h2,hk=>by
   show bindL kindOf ((p,w)::P.zip vs) m x=_;unfold bindL;exact pS (i:=i) (List.nodup_cons.mp nd).2 (by simpa using h1) (by simpa using h2) hk
theorem pU{kindOf:Str->Option NameKind}{x:Str}{v:Value}:∀{P:List Str}{vs:List Value}{i:Nat}{m:Str->Option Value},P.Nodup->P[i]?=some x->vs[i]?=some v->kindOf x≠some .local ->
 bindC kindOf (P.zip vs) m x=some v
 | [],_,_,_,_,h,_,_=>by simp at h
 | _::_,[],_,_,_,_,h,_=>by simp at h
 | p::P,w::vs,0,m,nd,h1,h2,hk=>by
   simp at h1 h2;subst h1;subst h2
   show bindC kindOf ((p,w)::P.zip vs) m p=_;unfold bindC;rw[pT fun v hv=>(List.nodup_cons.mp nd).1 (List.of_mem_zip hv).1,zF0 hk]
   simp
 | p::P,w::vs,i+1,m,nd,h1,h2,hk=>by
   show bindC kindOf ((p,w)::P.zip vs) m x=_;unfold bindC;exact pU (i:=i) (List.nodup_cons.mp nd).2 (by simpa using h1) (by simpa using h2) hk
def lY(N:List Str)(vs:List V):St:=vs.map some++List.replicate (N.length-vs.length) none
def xA(CX:CXT)(P:Program)(w:World)(K:W.Frag)(mg:Str->Option Value)(base:Heap)(N:List Str)(qual:Str)(scope:Scope)(f:Addr)(cd:Value)(A:Around)(outer:List Env)(s:Shared)(H:Hp)(E:XK):Cx where
 prog:=P
 w:=w
 K:=K
 mg:=mg
 base:=base
 A:=A.deeper (envOfC qual scope s.heap.objs.size f cd)
 N:=N
 s₀:=s
 H₀:=H
 env:=envOfC qual scope s.heap.objs.size f cd
 outer:=outer
 stack:=envOfC qual scope s.heap.objs.size f cd::outer
 ex:=[]
 calm:=true
 fn:=fun _=>true
 pn:=[]
 xe:=fun e s'=>wpAny (model P w) (A.deeper (envOfC qual scope s.heap.objs.size f cd)) (leaving (envOfC qual scope s.heap.objs.size f cd) e) (fun _ s''=>CX outer H s E e s'') (fun e' s''=>CX outer H s E e' s'') s'
theorem sO{sc:Scope}{n:Nat}{x:Str}(h:sc.names.lookup x=some .cell):∃c,(cellsFrom n sc.names []).lookup x=some c:=by
 have q:=PySem.W.cellsFrom_some sc.names n [] (.inl h);exact Option.isSome_iff_exists.mp q
theorem xk{CX:CXT}{P:Program}{w:World}{K:W.Frag}{mg:Str->Option Value}{base:Heap}{N ps:List Str}{qual:Str}{scope:Scope}{f:Addr}{cd:Value}{A:Around}{outer:List Env}{s s1:Shared}{H:Hp}{E:XK}{us:List Value}{vs:List V}
 (S:FnScope N ps scope) (hd:A.handled=none) (e0:Env0 P w K mg base A outer s H) (hl:vs.length=ps.length) (r:Vals vs us)
 (x:InCallC s s.heap.objs.size (bindL (envOfC qual scope s.heap.objs.size f cd).kindOf (ps.zip us) fun _=>none) (cellsFrom (s.heap.objs.size+1) scope.names []) (bindC (envOfC qual scope s.heap.objs.size f cd).kindOf (ps.zip us) fun _=>none) s1) :
 Inv (xA CX P w K mg base N qual scope f cd A outer s H E) [] (lY N vs) H s1:=by
 have hpl:ps.length<=N.length:=by have:=congrArg List.length S.pre;rw[qL0]at this;omega
 obtain⟨h1,tk,rfl,hk⟩:=x.done;have noA:∀b:Addr,b∉(xA CX P w K mg base N qual scope f cd A outer s H E).ex:=fun b z=>absurd (show b∈([]:List Addr)from z) (by simp)
 refine ⟨⟨e0.mod,S.kind,rfl,rfl,zJ0 _,fun y z c h1 h2=>?_,fun y hy=>?_,fun y c _ h=>?_,fun _=>hd,Around.frames_deeper e0.frames,.inr ⟨rfl,rfl⟩,fun b z=>absurd z (noA b),e0.bs,e0.bsz,fun b _ _=>noA b,fun b z=>absurd z (noA b),e0.funs,e0.frf⟩,
  rfl,e0.bare,Un.kept hk,⟨_,x.toInCall.ns,fun i y v h1 h2 h3=>?_⟩,fun y c h=>⟨_,x.cell y c h⟩,e0.hok.fresh (zJ0 _),fun y c h=>?_,fun p hp=>absurd (show p∈([]:List (Addr×Obj))from hp) (by simp),e0.hok.kept hk,?_⟩
 . exact name_of_addr x.apart (PySem.mem_of_lookup h1) (PySem.mem_of_lookup h2)
 . have hy:scope.names.lookup y=some .cell∨scope.names.lookup y=some .free:=hy;rcases hy with hy | hy
   . exact sO hy
   . exact absurd rfl (S.nofree _ (PySem.mem_of_lookup hy))
 . exact Nat.le_of_lt (x.above y c (PySem.mem_of_lookup h))
 . have hi:i<vs.length:=by
    unfold lY at h2
    by_cases hi:i<vs.length
    . exact hi
    . rw [List.getElem?_append_right (by simpa using hi)]at h2;rw[List.getElem?_replicate]at h2
      split at h2 <;> cases h2
   have ha:vs[i]?=some v:=by
    unfold lY at h2;rw[List.getElem?_append_left (by simpa using hi),zV0]at h2;cases e:vs[i]? with
    | none=>rw[e]at h2;cases h2
    | some a=>rw[e]at h2;cases h2;rfl
   obtain ⟨u,hu,rv⟩:=r.get ha;have hp:ps[i]?=some y:=by
    rw[←S.pre,List.getElem?_take_of_lt (by omega)];exact h1
   have ndP:ps.Nodup:=by rw[←S.pre];exact S.nd.sublist (List.take_sublist _ _)
   refine⟨u,rv,?_⟩;rcases S.par y (qJ0 hp)with k | k
   . exact .inl ⟨k,pS ndP hp hu k⟩
   . obtain⟨c,e⟩:=sO (n:=s.heap.objs.size+1) k;refine .inr ⟨.inl k,c,e,?_⟩;have q:=x.cell y c e;rw[pU ndP hp hu (by show scope.names.lookup y≠_;rw[k];decide)]at q;exact q
 . exact e0.hok.fresh (Nat.le_of_lt (x.above y c (PySem.mem_of_lookup h)))
 . unfold lY;show _=N.length;rw[zO0,zH0,List.length_replicate];omega
theorem fn_of{CX:CXT}{P:Program}{w:World}{K:W.Frag}{mg:Str->Option Value}{base:Heap}{k:Nat}{f:Addr}{name qual:Str}{params:Arguments}{body:List Stmt}{scope:Scope}{dV kV doc pm cdv ct oc:Value}{an od:Option Addr}
 {osl:Array (Option Value)} {N ps:List Str} {sp:Sp} (lk:K.lookup f=some ⟨oc,od,.func (PySem.W.fnOf name qual params body scope dV kV doc pm an cdv ct),osl⟩) (hcd:PySem.W.codeIn K cdv qual=true) (S:FnScope N ps scope)
 (len:∀vs H Q E,sp vs H Q E->vs.length=ps.length)
 (hbody:∀(A:Around)(outer:List Env)(s:Shared)(H:Hp)(vs:List V)(Q:VK)(E:XK),Room k (A.deeper (envOfC qual scope s.heap.objs.size f cdv))->sp vs H Q E ->
  ∃t,PSs (xA CX P w K mg base N qual scope f cdv A outer s H E) body t/\t { nx:=fun _ H'=>Q .non H',rt:=Q } (lY N vs) H) :
 FnOk P w K mg base CX (k+1) f (PySem.W.fnOf name qual params body scope dV kV doc pm an cdv ct) ps sp:=by
 refine⟨len,fun A outer s H args us vs Q E hr e0 hb r hsp=>?_⟩;have hl:=len _ _ _ _ hsp;have KX:K.In s.heap:=e0.mod.kin.keeps fun b o e=>(e0.bs b o e).1
 have lim:s.heap.NoLimit:=e0.mod.nolimit.keeps fun b o e=>(e0.bs b o e).1
 have hkind:∀y∈ps.zip us,scope.names.lookup y.1=some .local∨(scope.names.lookup y.1=some .cell/\((cellsFrom (s.heap.objs.size+1) scope.names []).lookup y.1).isSome=true):=fun⟨n,v⟩ hy=>by
  rcases S.par n (List.of_mem_zip hy).1 with q | q
  . exact .inl q
  . exact .inr ⟨q,PySem.W.cellsFrom_some _ _ _ (.inl q)⟩
 refine codeAny_call_function hr.depth (KX _ _ lk) rfl S.co S.gen rfl (PySem.W.codeRec_of KX hcd) (hb _ _ _ _ ?_);refine wpAny_newFunctionEnv_cells S.kind hkind fun env he s1 x=>?_
 subst he;refine⟨lim.keeps x.toInCall.keep,codeAny_func ?_⟩;obtain⟨t,ht,hq⟩:=hbody A outer s H vs Q E (hr.deeper _) hsp;have I:Inv (xA CX P w K mg base N qual scope f cdv A outer s H E) [] (lY N vs) H s1:=xk S hr.hd e0 hl r x;refine wpAny_mono (ht [] s1 (lY N vs) H _ I hq) (fun fl s' hs=>?_) fun e s' hs=>hs
 have fin:∀{σ':St}{H':Hp}{v:V}{u:Value},Inv (xA CX P w K mg base N qual scope f cdv A outer s H E) [] σ' H' s'->RelV v u->Q v H'->CE outer P w H s Q u s':=
  fun{σ' H' v u} J rv q=>⟨v,H',J.os,J.bare,J.base,J.hok,rv,q⟩
 cases fl with
 | ret u=>
   obtain⟨v,σ',H',J,rv,q⟩:=hs;exact fin J rv q
 | next=>
   obtain⟨σ',H',J,q⟩:=hs;exact fin (v:=V.non) (u:=Value.none) J rfl q
 | brk=>
   obtain⟨_,_,_,q⟩:=hs;exact False.elim q
 | cont=>
   obtain⟨_,_,_,q⟩:=hs;exact False.elim q
section
variable {X:Cx} {x:Str} {p pos:Pos} {e:Expr} {es:List Expr} {t:TA} {id T:String} {r:List V->Hp->VK->Prop}
def tCB(r:List V->Hp->VK->Prop)(t:TA):TE:=fun σ H Q=>t σ H fun vs H1=>r vs H1 Q
theorem aD (hc:hZ X (.builtin id) r) (hg:Gl X x) (hm:X.mg x=none) (hv:bootBuiltins x=some (.builtin id)) (ha:PA X (e::es) t) (hn:x≠"__name__":=by decide) (hdb:(x==("__debug__":Str))=false:=by decide)
 (he:starEach (e::es) X.env=(false,eval e X.env)::starEach es X.env:=by rfl) (hpl:(backTo pos (starEach es X.env)).any (·.1)=false:=by rfl):PE X (.Call (.Name x p) (e::es) [] pos) (tCB r t):=by
 intro pins s σ H Q I h;refine wpAny_Call_Name_kw (gj I hg hm hv ?_ hn hdb);exact PyProof.Rows.callWith_builtin1 (thn (ha pos pins s σ H _ I h) fun us s1 ⟨vs,H1,I1,r1,q1⟩=>hc pins s1 σ H1 vs us Q I1 r1 q1) he hpl
theorem bh (hc:hZ X (.type T) r) (hg:Gl X x) (hm:X.mg x=none) (hv:bootBuiltins x=some (.type T)) (ha:PA X (e::es) t) (hn:x≠"__name__":=by decide) (hdb:(x==("__debug__":Str))=false:=by decide)
 (he:starEach (e::es) X.env=(false,eval e X.env)::starEach es X.env:=by rfl) (hpl:(backTo pos (starEach es X.env)).any (·.1)=false:=by rfl):PE X (.Call (.Name x p) (e::es) [] pos) (tCB r t):=by
 intro pins s σ H Q I h;refine wpAny_Call_Name_kw (gj I hg hm hv ?_ hn hdb);exact PyProof.Rows.callWith_type1 (thn (ha pos pins s σ H _ I h) fun us s1 ⟨vs,H1,I1,r1,q1⟩=>hc pins s1 σ H1 vs us Q I1 r1 q1) he hpl
end
end L2
namespace HT
open PySem PyProof.Rows
section
variable {prog:Program} {w:World} {A:Around} {E:Value->Shared->Prop} {s:Shared}
theorem cat_tup{t b:Addr}{vs ws:List Value}{Q:Value->Shared->Prop}(ht:IsTup s.heap t vs.toArray)(hb:IsTup s.heap b ws.toArray)(hv:vs≠[])
 (h1:ws=[]->Q (.ref t) s) (h2:ws≠[]->Q (.ref s.heap.objs.size) { s with heap:=s.heap.push { cls:=.type "tuple",data:=.seq (vs++ws).toArray } })
 (hsz:vs.length+ws.length<=sizeLine):wpAny (model prog w) A (binaryOp .Add (.ref t) (.ref b)) Q E s:=by
 obtain⟨⟨cls,dd,data,sl⟩,ho,hc,n,hd⟩:=id ht;obtain⟨⟨cls2,dd2,data2,sl2⟩,ho2,hc2,n2,hd2⟩:=id hb;simp only at hc hd hc2 hd2;subst hc hd hc2 hd2;have e:vs.toArray++ws.toArray=(vs++ws).toArray:=by simp
 by_cases hw:ws=[]
 . exact concat_meets ⟨_,ho,rfl⟩ ⟨_,ho2,rfl⟩ noFill_tuple_add seq_tuple_add PySem.F.slot_tuple_add PySem.F.entry_tuple_add (PySem.F.args_tuple_add_2 _ _)
    (tuple_addW1 t b vs.toArray ws.toArray n n2 dd dd2 sl sl2 (by simpa using hv) (by simp [hw])) ⟨ho,ho2,h1 hw⟩
 . refine concat_meets ⟨_,ho,rfl⟩ ⟨_,ho2,rfl⟩ noFill_tuple_add seq_tuple_add PySem.F.slot_tuple_add PySem.F.entry_tuple_add (PySem.F.args_tuple_add_2 _ _)
    (tuple_addW2 t b vs.toArray ws.toArray n n2 dd dd2 sl sl2 (by simpa using hv) (by simpa using hw) (by rw[zW0,zW0];exact hsz)) ⟨ho,ho2,?_⟩
   rw[e];exact h2 hw
def sIx(n d:Nat):Option Int->Nat
 | none=>d
 | some v=>if v<0 then(v+(n:Int)).toNat else min v.toNat n
theorem sIx_none(n d:Nat):sIx n d none=d:=rfl
theorem sIx_nat(n d k:Nat):sIx n d (some (k:Int))=min k n:=by
 show(if(k:Int)<0 then((k:Int)+(n:Int)).toNat else min (k:Int).toNat n)=min k n;rw[zF0 (by omega),qT0]
theorem CJ(n d:Nat)(hd:d<=n)(o:Option Int):sIx n d o<=n:=by
 cases o with
 | none=>exact hd
 | some v=>
   show(if v<0 then(v+(n:Int)).toNat else min v.toNat n)<=n
   by_cases hv:v<0
   . rw[zI0 hv];omega
   . rw[zF0 hv];exact Nat.min_le_right _ _
theorem vU(v:Int)(n d:Nat):(if v<0 then max (v+(n:Int)) 0 else min v (n:Int))=((sIx n d (some v):Nat):Int):=by
 show(if v<0 then max (v+(n:Int)) 0 else min v (n:Int))=(((if v<0 then(v+(n:Int)).toNat else min v.toNat n):Nat):Int)
 by_cases hv:v<0
 . simp only[zI0 hv];omega
 . simp only[zF0 hv];omega
theorem uY(lo hi:Option Int)(n:Nat):Builtin.Slice.sliceAdjust lo hi 1 (n:Int)=(((sIx n 0 lo:Nat):Int),((sIx n n hi:Nat):Int)):=by
 have h1:¬ ((1:Int)<0):=by omega
 unfold Builtin.Slice.sliceAdjust;simp only[h1,if_false];refine Prod.ext ?_ ?_
 . cases lo with
   | none=>rfl
   | some v=>exact vU v n 0
 . cases hi with
   | none=>rfl
   | some v=>exact vU v n n
theorem ua(i j:Nat):Builtin.Slice.slicePlaces (i:Int) (j:Int) 1=j-i:=by
 unfold Builtin.Slice.slicePlaces;have h1:(1:Int)>0:=by omega
 simp only[h1,if_true,Int.ediv_one]
 split <;> omega
theorem nO{v:Value}{o:Option Int}{Q:Option Int->Shared->Prop}(p:IsPart v o)(h:Q o s):wpAny (model prog w) A (Builtin.Slice.slicePartIndex v) Q E s:=by
 cases p with
 | none=>exact slicePart_none h
 | int i t=>exact slicePart_int h
theorem lE{sl:Addr}{vl vu:Value}{lo hi:Option Int}{n:Nat}{Q:Int×Int×Nat->Shared->Prop}(hs:s.heap.IsSliceOf sl vl vu .none)(pl:IsPart vl lo)(pu:IsPart vu hi)
 (h:Q (((sIx n 0 lo:Nat):Int),1,sIx n n hi-sIx n 0 lo) s):wpAny (model prog w) A (Builtin.Slice.sliceApplied (.ref sl) (pure (n:Int))) Q E s:=by
 obtain⟨os,hos,hcs,hds⟩:=id hs;unfold Builtin.Slice.sliceApplied Builtin.Slice.sliceFields;refine zC0 (zC0 (wpAny_field hos hds (x:=vl) rfl (zC0 (wpAny_field hos hds (x:=vu) rfl (zC0 (wpAny_field hos hds (x:=.none) rfl (zK0 ?_)))))));refine zC0 (slicePart_none ?_);show wpAny _ _ (if((1:Int)==0)=true then _ else _) _ _ s;rw[zF0 (by decide)];refine zC0 (nO pl (zC0 (nO pu (zC0 (zK0 ?_)))));show wpAny _ _ (match Builtin.Slice.sliceAdjust lo hi 1 (n:Int)with | (lo,hi)=>pure (lo,(1:Int),Builtin.Slice.slicePlaces lo hi 1)) _ _ s;rw[uY lo hi n];show wpAny _ _ (pure (((sIx n 0 lo:Nat):Int),(1:Int),Builtin.Slice.slicePlaces ((sIx n 0 lo:Nat):Int) ((sIx n n hi:Nat):Int) 1)) _ _ s;rw[ua];exact zK0 h
theorem yO(xs:Array Value)(i k:Nat):((List.range k).filterMap fun(m:Nat)=>xs[((i:Int)+(m:Int)*1).toNat]?).toArray=((xs.toList.drop i).take k).toArray:=by
 have e:(fun(m:Nat)=>xs[((i:Int)+(m:Int)*1).toNat]?)=fun m=>xs[i+m]?:=by
  funext m
  have:((i:Int)+(m:Int)*1).toNat=i+m:=by omega
  rw[this]
 rw[e]
 have:=pick_run xs i k
 rw[List.filterMap_map]at this;have e2:((fun x=>xs[x]?) ∘ fun x=>i+x)=fun m=>xs[i+m]?:=rfl
 rw[e2]at this;rw[this]
theorem getItem_tuple_cut{t sl:Addr}{items:Array Value}{vl vu:Value}{lo hi:Option Int}{Q:Value->Shared->Prop}(ht:IsTup s.heap t items)(hs:s.heap.IsSliceOf sl vl vu .none)(pl:IsPart vl lo)(pu:IsPart vu hi)
 (hw:¬ (sIx items.size 0 lo=0/\sIx items.size items.size hi=items.size))
 (h:Q (.ref s.heap.objs.size) { s with heap:=s.heap.push { cls:=.type "tuple",data:=.seq ((items.toList.drop (sIx items.size 0 lo)).take (sIx items.size items.size hi-sIx items.size 0 lo)).toArray } })
 (hsz:items.size<=sizeLine):wpAny (model prog w) A (getItem (.ref t) (.ref sl)) Q E s:=by
 have htake:sizeOk (.seq ((items.toList.drop (sIx items.size 0 lo)).take (sIx items.size items.size hi-sIx items.size 0 lo)).toArray):=by
  show((items.toList.drop (sIx items.size 0 lo)).take (sIx items.size items.size hi-sIx items.size 0 lo)).toArray.size<=sizeLine;rw[zW0,qL0,List.length_drop,Array.length_toList];omega
 have hj:sIx items.size items.size hi<=items.size:=CJ _ _ (zJ0 _) hi;obtain⟨os,hos,hcs,hds⟩:=id hs;have hTs:s.TypeIs (.ref sl) "slice":=⟨os,hos,hcs⟩
 unfold getItem
 try with_reducible refine wpAny_holding ?_
 first | refine zC0 (zK0 ?_) | skip
 refine zC0 (wpAny_sequenceKey ht.typeIs (by decide) ?_);refine zC0 (wpAny_callSpecial?_slot (name:=Str.ofString "__getitem__") ht.typeIs PyProof.Rows.slot_tuple_getitem
  (wpAny_call_entry PyProof.Rows.slot_tuple_getitem ht.typeIs entry_tuple_getitem ?_ (args_tuple_getitem _ _)))
 show wpAny _ _ (Builtin.Tuple.tupleItemsOf (.ref t) >>= _) _ _ s;refine zC0 (tupleItemsOf_ ht ?_);refine zC0 (wpAny_typeOf hTs ?_);rw[zI0 (by decide)];refine zC0 (lE hs pl pu ?_);have hno:¬ ((((sIx items.size 0 lo:Nat):Int)==0&&(1:Int)==1&&(sIx items.size items.size hi-sIx items.size 0 lo)==items.size)=true):=by
  intro q;rw[Bool.and_eq_true,Bool.and_eq_true]at q;have q1:((sIx items.size 0 lo:Nat):Int)=0:=eq_of_beq q.1.1;have q2:sIx items.size items.size hi-sIx items.size 0 lo=items.size:=eq_of_beq q.2;exact hw ⟨by omega,by omega⟩
 show wpAny _ _ (if(((sIx items.size 0 lo:Nat):Int)==0&&(1:Int)==1&&(sIx items.size items.size hi-sIx items.size 0 lo)==items.size)=true then _ else _) _ _ s;rw[zF0 hno,yO]
 first
  | exact zC0 (m:=Builtin.Tuple.tupleExact _) (wpAny_newObj_type (zK0 ⟨_,rfl,zK0 h⟩) htake)
  | exact zC0 (m:=Builtin.Tuple.tupleExact _) (wpAny_newObj_type (zC0 (zK0 (zK0 ⟨_,rfl,zK0 h⟩))) htake)
  | exact zC0 (zC0 (m:=Builtin.Tuple.tupleExact _) (wpAny_newObj_type (zK0 (zK0 ⟨_,rfl,zK0 h⟩)) htake))
  | exact zC0 (zC0 (m:=Builtin.Tuple.tupleExact _) (wpAny_newObj_type (zK0 ⟨_,rfl,zK0 h⟩) htake))
end
end HT
namespace L2
open PySem PySem.Spec PyProof.Rows
abbrev TO:=St->Hp->(Option Int->Hp->Prop)->Prop
def PO(X:Cx)(e:Option Expr)(t:TO):Prop:=
 ∀(pins:List (Addr×Obj))(s:Shared)(σ:St)(H:Hp)(Q:Option Int->Hp->Prop),Inv X pins σ H s->t σ H Q ->
  wpAny (model X.prog X.w) X.A (evalPart e X.env) (fun u s'=>∃o H',Inv X pins σ H' s'/\IsPart u o/\Q o H') X.xe s
def AA:TO:=fun _ H Q=>Q none H
def tPart(t:TE):TO:=fun σ H Q=>t σ H fun x H1=>∃i,x=.int i/\Q (some i) H1
section
variable {X:Cx} {e:Expr} {te:TE} {lo hi:Option Expr} {tl th:TO} {pos p2:Pos}
theorem kP:PO X none AA:=by
 intro pins s σ H Q I h;rw[evalPart_none];exact zK0 ⟨none,H,I,.none,h⟩
theorem iQ(h:PE X e te):PO X (some e) (tPart te):=by
 intro pins s σ H Q I hw;rw[evalPart_some];refine thn (h pins s σ H _ I hw) fun u s1 ⟨x,H1,I1,r1,q1⟩=>?_
 obtain⟨i,rfl,q⟩:=q1;obtain⟨t,rfl⟩:=r1;exact⟨some i,H1,I1,.int i t,q⟩
def SlR(X:Cx)(r:V->Option Int->Option Int->Hp->VK->Prop):Prop:=
 ∀(pins:List (Addr×Obj))(s:Shared)(σ:St)(H:Hp)(x:V)(v vl vu:Value)(lo hi:Option Int)(sl:Addr)(Q:VK),Inv X pins σ H s->RelV x v->s.heap.IsSliceOf sl vl vu .none->IsPart vl lo->IsPart vu hi->r x lo hi H Q ->
  ∃T id,typeLookup (.type T) "__getitem__"=pure (some (.builtin id))/\s.TypeIs v T/\wpAny (model X.prog X.w) X.A (getItem v (.ref sl)) (EP X pins σ Q) X.xe s
def tSl(r:V->Option Int->Option Int->Hp->VK->Prop)(te:TE)(tl th:TO):TE:=fun σ H Q=>te σ H fun x H1=>tl σ H1 fun l H2=>th σ H2 fun u H3=>r x l u H3 Q
theorem iD{r:V->Option Int->Option Int->Hp->VK->Prop}(hr:SlR X r)(he:PE X e te)(hl:PO X lo tl)(hu:PO X hi th):PE X (.Subscript e (.Slice lo hi none p2) pos) (tSl r te tl th):=by
 intro pins s σ H Q I h;refine Subscript_ (thn (he pins s σ H _ I h) fun v s1 ⟨x,H1,I1,r1,q1⟩=>?_);refine wpAny_Slice (thn (hl pins s1 σ H1 _ I1 q1) fun vl s2 ⟨l,H2,I2,pl,q2⟩=>thn (hu pins s2 σ H2 _ I2 q2) fun vu s3 ⟨u,H3,I3,pu,q3⟩=>?_);rw[evalPart_none];refine zK0 ?_;have I4:Inv X pins σ H3 { s3 with heap:=s3.heap.push { cls:=.type "slice",data:=.fields #[vl,vu,.none] } }:=I3.kept (t':=s3.toks) fun b ob q=>zQ0 _ q
 obtain⟨T,id,hT,ht,hg⟩:=hr pins { s3 with heap:=s3.heap.push { cls:=.type "slice",data:=.fields #[vl,vu,.none] } } σ H3 x v vl vu l u s3.heap.objs.size Q I4 r1 (Heap.IsSliceOf.new ..) pl pu q3;show wpAny (model X.prog X.w) X.A (subscriptTail e (.Slice lo hi none p2) v (.ref s3.heap.objs.size)) (EP X pins σ Q) X.xe { s3 with heap:=s3.heap.push { cls:=.type "slice",data:=.fields #[vl,vu,.none] } };exact tail_any (ops:=[.ref s3.heap.objs.size,v]) ht hT hg (by with_unfolding_all rfl)
def lj(xs:List V)(lo hi:Option Int):List V:=(xs.drop (HT.sIx xs.length 0 lo)).take (HT.sIx xs.length xs.length hi-HT.sIx xs.length 0 lo)
theorem mE(xs:List V)(lo hi:Option Int):(lj xs lo hi).length<=xs.length:=by
 unfold lj;rw[qL0,List.length_drop];omega
def rSlT(K:W.Frag):V->Option Int->Option Int->Hp->VK->Prop:=fun x lo hi H Q=>∃a xs,x=.ref a/\SqT K H a xs/\
 ¬ (HT.sIx xs.length 0 lo=0/\HT.sIx xs.length xs.length hi=xs.length)/\∀p,H p=none->Q (.ref p) (upd H p (.tup (lj xs lo hi)))
theorem tQ:SlR X (rSlT X.K):=by
 intro pins s σ H x v vl vu lo hi sl Q I rx hs pl pu h;obtain⟨a,xs,rfl,hx,hw,q⟩:=h;cases rx;obtain⟨its,r,ht,hz⟩:=I.tuple hx;have hlen:its.toArray.size=xs.length:=by rw[zW0];exact r.length.symm
 refine⟨"tuple",_,PyProof.Rows.slot_tuple_getitem.lookup,ht.typeIs,?_⟩;refine HT.getItem_tuple_cut ht hs pl pu (by rw[hlen];exact hw) ?_ (by rw[hlen];exact hz);rw[hlen];refine⟨.ref s.heap.objs.size,_,I.laid (t':=s.toks) (o:=.tup (lj xs lo hi)) (fun b ob q=>zQ0 _ q) (zJ0 _) ?_,rfl,q _ (I.hok.fresh (zJ0 _))⟩;exact⟨qB0 (mE xs lo hi) hz,_,(r.drop (HT.sIx xs.length 0 lo)).take (HT.sIx xs.length xs.length hi-HT.sIx xs.length 0 lo),IsTup.new _ _,_,qA0 _ rfl,rfl⟩
def rF(K:W.Frag):R2:=fun x y H Q=>∃a b xs ys,x=.ref a/\y=.ref b/\SqT K H a xs/\SqT K H b ys/\xs≠[]/\xs.length+ys.length<=sizeLine/\
 (ys=[]->Q (.ref a) H)/\(ys≠[]->∀p,H p=none->Q (.ref p) (upd H p (.tup (xs++ys))))
theorem Vals.nil_iff{xs:List V}{us:List Value}(r:Vals xs us):us=[]↔xs=[]:=by
 cases r with
 | nil=>simp
 | cons _ _=>simp
theorem op_catT:OpR X (binaryOp .Add) (rF X.K):=by
 intro pins s σ H x y v u Q I rx ry h;obtain⟨a,b,xs,ys,rfl,rfl,ha,hb,hx,hz,q1,q2⟩:=h;cases rx;cases ry;obtain⟨its,r1,p1,_⟩:=I.tuple ha;obtain⟨its2,r2,p2,_⟩:=I.tuple hb;refine HT.cat_tup p1 p2 (fun z=>hx (r1.nil_iff.mp z)) (fun z=>⟨.ref a,H,I,rfl,q1 (r2.nil_iff.mp z)⟩) (fun z=>?_) (by rw[←r1.length,←r2.length];exact hz);refine⟨.ref s.heap.objs.size,_,I.laid (t':=s.toks) (o:=.tup (xs++ys)) (fun b ob q=>zQ0 _ q) (zJ0 _) ?_,rfl,q2 (fun w=>z (r2.nil_iff.mpr w)) _ (I.hok.fresh (zJ0 _))⟩;exact⟨by rw[zO0];exact hz,_,r1.append r2,IsTup.new _ _,_,qA0 _ rfl,rfl⟩
end
def ixN(n:Nat)(i:Int):Option Nat:=if 0<=i then(if i<n then some i.toNat else none)else if -(n:Int)<=i then some (i+n).toNat else none
def atI{α:Type}(xs:List α)(i:Int):Option α:=(ixN xs.length i).bind fun j=>xs[j]?
theorem qE{n:Nat}{i:Int}{j:Nat}(h:ixN n i=some j):seqIndex? i n=some j/\j<n/\-(n:Int)<=i/\i<n:=by
 unfold ixN at h
 by_cases h0:0<=i
 . rw [zI0 h0]at h
   by_cases h1:i<n
   . rw[zI0 h1]at h;have e:i.toNat=j:=zS0 h;exact⟨by rw[seqIndex_of h0 h1,e],by omega,by omega,h1⟩
   . rw[zF0 h1]at h;cases h
 . rw [zF0 h0]at h
   by_cases h1:-(n:Int)<=i
   . rw[zI0 h1]at h;have e:(i+n).toNat=j:=zS0 h;exact⟨by rw[seqIndex_neg (by omega) h1,e],by omega,h1,by omega⟩
   . rw[zF0 h1]at h;cases h
theorem qO{α:Type}{xs:List α}{i:Int}{v:α}(h:atI xs i=some v):∃j,seqIndex? i xs.length=some j/\xs[j]?=some v/\j<xs.length/\-(xs.length:Int)<=i/\i<xs.length:=by
 unfold atI at h;cases e:ixN xs.length i with
 | none=>rw[e]at h;cases h
 | some j=>
   rw[e]at h;obtain⟨h1,h2,h3,h4⟩:=qE e;exact⟨j,h1,h,h2,h3,h4⟩
theorem cq{α:Type}{xs:List α}{j:Nat}{v:α}(h:xs[j]?=some v):atI xs (j:Int)=some v:=by
 have hj:j<xs.length:=(zT0 h).1;have e:ixN xs.length (j:Int)=some j:=by
  unfold ixN;rw[zI0 (by omega),zI0 (by omega)];simp
 unfold atI;rw[e];exact h
theorem sU{α:Type}(xs:List α)(v:α):atI (xs++[v]) (-1)=some v:=by
 have hl:(xs++[v]).length=xs.length+1:=by simp
 have e:ixN (xs++[v]).length (-1)=some xs.length:=by
  unfold ixN;rw[hl,zF0 (by decide),zI0 (by omega)]
  congr 1
  omega
 unfold atI;rw[e];show(xs++[v])[xs.length]?=some v
 simp
def BF(b:Expr):Prop:=∀o i,subscripted b false o i=operate [o,i] (getItem o i)
def IxR(X:Cx)(r:R2):Prop:=
 ∀(value slice:Expr)(pins:List (Addr×Obj))(s:Shared)(σ:St)(H:Hp)(x y:V)(v u:Value)(Q:VK),Inv X pins σ H s->RelV x v->RelV y u->r x y H Q ->
  subscripted slice false v u=operate [v,u] (getItem v u)->wpAny (model X.prog X.w) X.A (subscriptTail value slice v u) (EP X pins σ Q) X.xe s
def MtR(X:Cx)(id:String)(r:V->List V->Hp->VK->Prop):Prop:=
 ∀(pins:List (Addr×Obj))(s:Shared)(σ:St)(H:Hp)(x:V)(xs:List V)(v:Value)(us:List Value)(Q:VK),Inv X pins σ H s->RelV x v->Vals xs us->r x xs H Q ->
  wpAny (model X.prog X.w) X.A (call (.builtin id) (v::us)) (EP X pins σ Q) X.xe s
section
variable {X:Cx} {a b:Expr} {ta tb:TE} {pos:Pos}
theorem IxR.or{r r':R2}(h:IxR X r)(h':IxR X r'):IxR X (fun x y H Q=>r x y H Q∨r' x y H Q):=by
 intro value slice pins s σ H x y v u Q I rx ry q hs;rcases q with q | q
 . exact h value slice pins s σ H x y v u Q I rx ry q hs
 . exact h' value slice pins s σ H x y v u Q I rx ry q hs
theorem av{r:R2}(hr:IxR X r)(ha:PE X a ta)(hb:PE X b tb)(hs:BF b):PE X (.Subscript a b pos) (tOp r ta tb):=by
 intro pins s σ H Q I h;exact Subscript_ (DJ ha hb I h fun v u s2 x y H2 I2 rx ry q=>hr a b pins s2 σ H2 x y v u Q I2 rx ry q (hs _ _))
def AR(K:W.Frag):R2:=fun x y H Q=>isR x fun p=>isI y fun i=>∃xs v,SqL K H p xs/\atI xs i=some v/\Q v H
def yI(K:W.Frag):R2:=fun x y H Q=>isR x fun p=>isI y fun i=>∃xs v,SqT K H p xs/\atI xs i=some v/\Q v H
def rIxS:R2:=fun x y H Q=>∃z i c,x=.str z/\y=.int i/\z.length<=sizeLine/\atI z.cps.toList i=some c/\Q (.str ⟨#[c]⟩) H
theorem ix_list:IxR X (AR X.K):=by
 intro value slice pins s σ H x y v u Q I rx ry h hs;obtain⟨p,rfl,h1⟩:=uJ h;obtain⟨i,rfl,xs,z,hq,he,q⟩:=iV h1;cases rx;obtain⟨t,rfl⟩:=ry;obtain⟨its,r,pl,hz⟩:=I.list hq;obtain⟨j,h1,h2,h3,h4,h5⟩:=qO he;obtain⟨w,ew,rw'⟩:=r.get h2;have hl:=r.length;have hn:=iU;have fin:EP X pins σ Q w s:=⟨z,H,I,rw',q⟩
 by_cases h0:0<=i
 . have hj:i.toNat=j:=by
    rw[seqIndex_of h0 h5]at h1;exact zS0 h1
   exact item_listR pl.isList h0 (by omega) (by rw[hj];simpa using ew) fin hs
 . have hj:(i+(its.toArray.size:Int)).toNat=j:=by
    rw[seqIndex_neg (by omega) h4]at h1;rw[zW0,←hl];exact zS0 h1
   exact subscriptTail_builtinR (x:=w) pl.isList.typeIs slot_list_getitem.lookup
    (wpAny_getItem_list_neg (Q:=fun r s'=>r=w/\EP X pins σ Q r s') pl.isList (by omega) (by rw[zW0] <;> omega) (by omega) (by rw[hj];simpa using ew) ⟨rfl,fin⟩) hs
theorem aB:IxR X (yI X.K):=by
 intro value slice pins s σ H x y v u Q I rx ry h hs;obtain⟨p,rfl,h1⟩:=uJ h;obtain⟨i,rfl,xs,z,hq,he,q⟩:=iV h1;cases rx;obtain⟨t,rfl⟩:=ry;obtain⟨its,r,pl,hz⟩:=I.tuple hq;obtain⟨j,h1,h2,h3,h4,h5⟩:=qO he;obtain⟨w,ew,rw'⟩:=r.get h2;have hl:=r.length;have hn:=iU;have fin:EP X pins σ Q w s:=⟨z,H,I,rw',q⟩
 exact subscriptTail_builtinR (x:=w) pl.typeIs slot_tuple_getitem.lookup
  (getItem_tuple (j:=j) (Q:=fun r s'=>r=w/\EP X pins σ Q r s') pl (by omega) (by omega) (by rw[zW0,←hl];exact h1) (by simpa using ew) ⟨rfl,fin⟩) hs
theorem uI:IxR X rIxS:=by
 intro value slice pins s σ H x y v u Q I rx ry h hs;obtain⟨z,i,c,rfl,rfl,hz,he,q⟩:=h;obtain⟨t,rfl⟩:=rx;obtain⟨t',rfl⟩:=ry;obtain⟨j,h1,h2,h3,h4,h5⟩:=qO he;have hl:z.cps.toList.length=z.length:=by simp [Str.length]
 rw [hl]at h1 h4 h5;have hn:=iU;exact tail_any (typeIs_str s z t) slot_str_getitem.lookup (getItem_str (c:=c) (by
  have e1:decide (i < -(2 ^ 63:Int))=false:=decide_eq_false (by omega);have e2:decide (i≥2 ^ 63)=false:=decide_eq_false (by omega);rw[e1,e2,Bool.or_false]) (by rw[h1];simpa using h2) ⟨.str ⟨#[c]⟩,H,I.tok _,⟨_,rfl⟩,q⟩) hs
theorem uB (its:List Value) (n j:Nat) (u:Value):Obj.mapSeq (·.setIfInBounds j u) { cls:=.type "list",data:=.seq its.toArray n }={ cls:=.type "list",data:=.seq (its.set j u).toArray n }:=by
 simp [Obj.mapSeq]
theorem Inv.lst{pins:List (Addr×Obj)}{σ:St}{H:Hp}{s:Shared}{p:Addr}{xs:List V}(I:Inv X pins σ H s)(h:H p=some (.lst xs)) :
 ∃(its:List Value) (n:Nat),Vals xs its/\s.heap.get? p=some { cls:=.type "list",data:=.seq its.toArray n }/\xs.length<=sizeLine:=by
 obtain⟨z,its,n,r,e⟩:=I.hok p _ h;exact⟨its,n,r,e,z⟩
theorem Inv.lstUpd{pins:List (Addr×Obj)}{σ:St}{H:Hp}{s:Shared}{p:Addr}{xs ys:List V}{its its':List Value}{n n':Nat}{f:Obj->Obj}(I:Inv X pins σ H s)(h:H p=some (.lst xs))
 (ho:s.heap.get? p=some { cls:=.type "list",data:=.seq its.toArray n }) (hf:f { cls:=.type "list",data:=.seq its.toArray n }={ cls:=.type "list",data:=.seq its'.toArray n' }) (r:Vals ys its') (hz:ys.length<=sizeLine) (t:Nat) :
 Inv X pins σ (upd H p (.lst ys)) { s with heap:=s.heap.update p f,toks:=t }:=by
 have e:(s.heap.update p f).get? p=some { cls:=.type "list",data:=.seq its'.toArray n' }:=by
  rw[Heap.get?_update_self f ho (by rw[hf] <;> rfl),hf]
 refine I.write (x:=p) (e:=p) (by rw[h];trivial) (.inl rfl) (fun b u hb q=>(Heap.get?_update_other _ _ (Ne.symm hb)).trans q) ⟨_,e⟩ ?_;exact⟨hz,its',n',r,e⟩
def rSetL:V->V->V->Hp->(Hp->Prop)->Prop:=fun o i v H Q=>∃p xs k j,o=.ref p/\i=.int k/\H p=some (.lst xs)/\ixN xs.length k=some j/\Q (upd H p (.lst (xs.set j v)))
theorem ig:PSet X rSetL:=by
 intro pins s σ H o i v ov iv u Q I ro ri rv h;obtain⟨p,xs,k,j,rfl,rfl,hp,hj,q⟩:=h;cases ro;obtain⟨t,rfl⟩:=ri;obtain⟨its,n,r,ho,hz⟩:=I.lst hp;obtain⟨h1,h2,h3,h4⟩:=qE hj;have hl:=r.length;have hn:=iU;have I':Inv X pins σ (upd H p (.lst (xs.set j v))) { s with heap:=s.heap.update p (Obj.mapSeq (·.setIfInBounds j u)) }:=
  I.lstUpd hp ho (uB its n j u) (r.set rv j) (by rw[List.length_set];exact hz) s.toks
 by_cases h0:0<=k
 . have hk:k.toNat=j:=by
    rw[seqIndex_of h0 h4]at h1;exact zS0 h1
   exact PySem.W.ki_setAt ho h0 (by omega) (by rw[zW0,←hl];exact h4) (by rw[hk];exact⟨_,I',q⟩)
 . have hk:(k+(its.toArray.size:Int)).toNat=j:=by
    rw[seqIndex_neg (by omega) h3]at h1;rw[zW0,←hl];exact zS0 h1
   exact PySem.W.ki_setBack ho (by omega) (by rw[zW0,←hl];exact h3) (by omega) (by rw[hk];exact⟨_,I',q⟩)
theorem qc(lo hi:Option Int)(n:Nat):(sliceBounds lo hi none n).1=((HT.sIx n 0 lo:Nat):Int)/\(sliceBounds lo hi none n).2.1=((HT.sIx n n hi:Nat):Int)/\(sliceBounds lo hi none n).2.2=1:=by
 refine⟨?_,?_,rfl⟩
 . cases lo with
   | none=>simp [sliceBounds,HT.sIx]
   | some i=>
     simp only[sliceBounds,HT.sIx,Option.getD_none,show(1:Int)>0 by decide,if_true]
     by_cases h:i<0
     . simp only[h,if_true] <;> omega
     . simp only[h,if_false] <;> omega
 . cases hi with
   | none=>simp [sliceBounds,HT.sIx]
   | some i=>
     simp only[sliceBounds,HT.sIx,Option.getD_none,show(1:Int)>0 by decide,if_true]
     by_cases h:i<0
     . simp only[h,if_true] <;> omega
     . simp only[h,if_false] <;> omega
theorem oS(its:List Value)(lo hi:Option Int):slicePick its.toArray lo hi none=((its.drop (HT.sIx its.length 0 lo)).take (HT.sIx its.length its.length hi-HT.sIx its.length 0 lo)).toArray:=by
 obtain⟨h1,h2,h3⟩:=qc lo hi its.toArray.size;unfold slicePick;rw[h1,h2,h3];simp only[sliceRange_one,pick_run,zW0] <;> rfl
def rSlL(K:W.Frag):V->Option Int->Option Int->Hp->VK->Prop:=fun x lo hi H Q=>∃a xs,x=.ref a/\SqL K H a xs/\∀p,H p=none->Q (.ref p) (upd H p (.lst (lj xs lo hi)))
theorem AI:SlR X (rSlL X.K):=by
 intro pins s σ H x v vl vu lo hi sl Q I rx hs pl pu h;obtain⟨a,xs,rfl,hx,q⟩:=h;cases rx;obtain⟨its,r,ht,hz⟩:=I.list hx;have hlen:=r.length;refine⟨"list",_,slot_list_getitem.lookup,ht.isList.typeIs,?_⟩;refine wpAny_getItem_list_slice ht.isList hs pl pu .none (by simp) ?_ (by rw[zW0] <;> omega);rw[oS,←hlen];refine⟨.ref s.heap.objs.size,_,I.laid (t':=s.toks) (o:=.lst (lj xs lo hi)) (fun b ob q=>zQ0 _ q) (zJ0 _) ?_,rfl,q _ (I.hok.fresh (zJ0 _))⟩;exact⟨qB0 (mE xs lo hi) hz,_,0,(r.drop (HT.sIx xs.length 0 lo)).take (HT.sIx xs.length xs.length hi-HT.sIx xs.length 0 lo),qA0 _ rfl⟩
def ja:V->Bool
 | .non=>true
 | .bl _=>true
 | .int _=>true
 | .str _=>true
 | _=>false
def eqV:V->V->Bool
 | .non,.non=>true
 | .bl a,.bl b=>a==b
 | .bl a,.int b=>(if a then 1 else 0)==b
 | .int a,.bl b=>a==(if b then 1 else 0)
 | .int a,.int b=>a==b
 | .str a,.str b=>a==b
 | _,_=>false
theorem DC{A:Around}{s:Shared}{y x:V}{u v:Value}(ry:RelV y u)(rx:RelV x v)(fy:ja y=true)(fx:ja x=true):SeqAt.EqAt A s u v (eqV y x):=by
 cases y with
 | non=>
   cases ry;cases x with
   | non=>cases rx;exact SeqAt.EqAt.same _
   | bl b=>cases rx;exact SeqAt.EqAt.none_bool b
   | int b=>obtain⟨t,rfl⟩:=rx;exact SeqAt.EqAt.none_int b t
   | str b=>obtain⟨t,rfl⟩:=rx;exact SeqAt.EqAt.none_str b t
   | _=>exact absurd (show false=true from fx) qE0
 | bl a=>
   cases ry;cases x with
   | non=>cases rx;exact SeqAt.EqAt.bool_none a
   | bl b=>cases rx;exact SeqAt.EqAt.bool_bool a b
   | int b=>obtain⟨t,rfl⟩:=rx;exact SeqAt.EqAt.bool_int a b t
   | str b=>obtain⟨t,rfl⟩:=rx;exact SeqAt.EqAt.bool_str a b t
   | _=>exact absurd (show false=true from fx) qE0
 | int a=>
   obtain⟨t',rfl⟩:=ry;cases x with
   | non=>cases rx;exact SeqAt.EqAt.int_none a t'
   | bl b=>cases rx;exact SeqAt.EqAt.int_bool a t' b
   | int b=>obtain⟨t,rfl⟩:=rx;exact SeqAt.EqAt.int_int a t' b t
   | str b=>obtain⟨t,rfl⟩:=rx;exact SeqAt.EqAt.int_str a t' b t
   | _=>exact absurd (show false=true from fx) qE0
 | str a=>
   obtain⟨t',rfl⟩:=ry;cases x with
   | non=>cases rx;exact SeqAt.EqAt.str_none a t'
   | bl b=>cases rx;exact SeqAt.EqAt.str_bool a t' b
   | int b=>obtain⟨t,rfl⟩:=rx;exact SeqAt.EqAt.str_int a t' b t
   | str b=>obtain⟨t,rfl⟩:=rx;exact SeqAt.EqAt.str_str a t' b t
   | _=>exact absurd (show false=true from fx) qE0
 | _=>exact absurd (show false=true from fy) qE0
def eqU(x:V)(u:Value):Bool:=match u with
 | .none=>eqV .non x
 | .bool b=>eqV (.bl b) x
 | .int i _=>eqV (.int i) x
 | .str z _=>eqV (.str z) x
 | _=>false
theorem uN{x y:V}{u:Value}(r:RelV y u)(f:ja y=true):eqU x u=eqV y x:=by
 cases y with
 | non=>cases r;rfl
 | bl b=>cases r;rfl
 | int i=>obtain⟨t,rfl⟩:=r;rfl
 | str z=>obtain⟨t,rfl⟩:=r;rfl
 | _=>exact absurd (show false=true from f) qE0
theorem lx{x:V}:∀{xs:List V}{us:List Value},Vals xs us->xs.all ja=true->us.any (eqU x)=xs.any fun y=>eqV y x
 | _,_,.nil,_=>rfl
 | y::xs,u::us,.cons r t,f=>by
   rw[List.all_cons,Bool.and_eq_true]at f;rw[List.any_cons,List.any_cons,uN r f.1,lx t f.2]
theorem fV{A:Around}{s:Shared}{x:V}{v:Value}(rx:RelV x v)(fx:ja x=true):∀{xs:List V}{us:List Value},Vals xs us->xs.all ja=true->∀u∈us,SeqAt.EqAt A s u v (eqU x u)
 | _,_,.nil,_=>fun u hu=>by cases hu
 | y::xs,u::us,.cons r t,f=>fun u' hu=>by
   rw[List.all_cons,Bool.and_eq_true]at f;rcases zZ0 hu with rfl | hu
   . rw[uN r f.1];exact DC r rx f.1 fx
   . exact fV rx fx t f.2 u' hu
def inV(x:V)(xs:List V):Bool:=xs.any fun y=>eqV y x
def rIn(K:W.Frag)(neg:Bool):R2:=fun x y H Q=>∃p xs,y=.ref p/\(SqL K H p xs∨SqT K H p xs)/\ja x=true/\xs.all ja=true/\Q (.bl (if neg then !inV x xs else inV x xs)) H
theorem jU:OpR X (compareOp .In) (rIn X.K false):=by
 intro pins s σ H x y v u Q I rx ry h;obtain⟨p,xs,rfl,hq,fx,fs,q⟩:=h;cases ry;rcases hq with hq | hq
 . obtain⟨its,r,pl,hz⟩:=I.list hq;refine SeqAt.in_listAt (eqU x) pl.isList (fun w hw=>fV rx fx r fs w (by simpa using hw)) ⟨.bl _,H,I,rfl,?_⟩;rw[show its.toArray.any (eqU x)=its.any (eqU x) by simp,lx r fs];exact q
 . obtain⟨its,r,pl,hz⟩:=I.tuple hq;refine SeqAt.in_tupleAt (eqU x) pl (fun w hw=>fV rx fx r fs w (by simpa using hw)) ⟨.bl _,H,I,rfl,?_⟩;rw[show its.toArray.any (eqU x)=its.any (eqU x) by simp,lx r fs];exact q
theorem qr:OpR X (compareOp .NotIn) (rIn X.K true):=by
 intro pins s σ H x y v u Q I rx ry h;obtain⟨p,xs,rfl,hq,fx,fs,q⟩:=h;cases ry;rcases hq with hq | hq
 . obtain⟨its,r,pl,hz⟩:=I.list hq;refine SeqAt.notIn_listAt (eqU x) pl.isList (fun w hw=>fV rx fx r fs w (by simpa using hw)) ⟨.bl _,H,I,rfl,?_⟩;rw[show its.toArray.any (eqU x)=its.any (eqU x) by simp,lx r fs];exact q
 . obtain⟨its,r,pl,hz⟩:=I.tuple hq;refine SeqAt.notIn_tupleAt (eqU x) pl (fun w hw=>fV rx fx r fs w (by simpa using hw)) ⟨.bl _,H,I,rfl,?_⟩;rw[show its.toArray.any (eqU x)=its.any (eqU x) by simp,lx r fs];exact q
theorem az:hZ X (.builtin "len") (fun xs H Q=>∃p ys,xs=[.ref p]/\(SqL X.K H p ys∨SqT X.K H p ys)/\Q (.int ys.length) H):=by
 intro pins s σ H xs us Q I r h;obtain⟨p,ys,rfl,hq,q⟩:=h;obtain⟨u,rfl,rx⟩:=lW r;cases rx;have hn:=iU;rcases hq with hq | hq
 . obtain⟨its,r',pl,hz⟩:=I.list hq;have hlen:=r'.length;exact Calls.call_len_list pl.isList (by simp only[zW0] <;> omega) ⟨.int ys.length,H,I.tok _,⟨s.toks+1,by rw[zW0,hlen]⟩,q⟩
 . obtain⟨its,r',pl,hz⟩:=I.tuple hq;have hlen:=r'.length;exact len_tuple pl (by simp only[zW0] <;> omega) ⟨.int ys.length,H,I.tok _,⟨s.toks+1,by rw[zW0,hlen]⟩,q⟩
theorem qM:hZ X (.builtin "len") (fun xs H Q=>∃z,xs=[.str z]/\z.length<=sizeLine/\Q (.int z.length) H):=by
 intro pins s σ H xs us Q I r h;obtain⟨z,rfl,hz,q⟩:=h;obtain⟨u,rfl,t,rfl⟩:=lW r;have hn:=iU;exact len_str (by omega) ⟨.int z.length,H,I.tok _,⟨_,rfl⟩,q⟩
theorem gx:hZ X (.type "list") (fun xs H Q=>∃p ys,xs=[.ref p]/\(SqL X.K H p ys∨SqT X.K H p ys)/\∀l,H l=none->Q (.ref l) (upd H l (.lst ys))):=by
 intro pins s σ H xs us Q I r h;obtain⟨p,ys,rfl,hq,q⟩:=h;obtain⟨u,rfl,rx⟩:=lW r;cases rx;have fin:∀(its:List Value),Vals ys its->ys.length<=sizeLine->∀(h':Heap)(c':Nat),(∀b o',s.heap.get? b=some o'->h'.get? b=some o') ->
  h'.get? s.heap.objs.size=some { cls:=.type "list",dict:=none,data:=.seq its.toArray c',slots:=#[] }->EP X pins σ Q (.ref s.heap.objs.size) { s with heap:=h' }:=fun its r' hz h' c' kp e=>
  ⟨.ref s.heap.objs.size,_,I.laid (t':=s.toks) kp (zJ0 _) (show ObjOk X.prog X.w _ h' _ (.lst ys)from⟨hz,its,c',r',e⟩),rfl,q _ (I.hok.fresh (zJ0 _))⟩
 rcases hq with hq | hq
 . obtain⟨its,r',pl,hz⟩:=I.list hq;have hlen:=r'.length;obtain⟨o,ho,hc,n,hd⟩:=pl.isList;exact call_list_seq p (.inl rfl) ho hc hd (fun h' c' kp e=>fin its r' hz h' c' kp e) (by simp only[zW0] <;> omega)
 . obtain⟨its,r',pl,hz⟩:=I.tuple hq;have hlen:=r'.length;obtain⟨o,ho,hc,n,hd⟩:=pl;exact call_list_seq p (.inr rfl) ho hc hd (fun h' c' kp e=>fin its r' hz h' c' kp e) (by simp only[zW0] <;> omega)
theorem bH:hZ X (.type "tuple") (fun xs H Q=>∃p ys,xs=[.ref p]/\((SqL X.K H p ys/\∀l,H l=none->Q (.ref l) (upd H l (.tup ys)))∨(SqT X.K H p ys/\Q (.ref p) H))):=by
 intro pins s σ H xs us Q I r h;obtain⟨p,ys,rfl,h⟩:=h;obtain⟨u,rfl,rx⟩:=lW r;cases rx;rcases h with⟨hq,q⟩ | ⟨hq,q⟩
 . obtain ⟨its,r',pl,hz⟩:=I.list hq;have hlen:=r'.length;refine call_tuple_list pl.isList (fun h' kp=>?_) (by simp only[zW0] <;> omega);have I1:Inv X pins σ H { s with heap:=h' }:=I.kept (t':=s.toks) kp;have I2:Inv X pins σ (upd H h'.objs.size (.tup ys)) { s with heap:=h'.push { cls:=.type "tuple",data:=.seq its.toArray } }:=
    I1.laid (t':=s.toks) (fun b o e=>zQ0 _ e) (zJ0 _) (show ObjOk X.prog X.w _ _ _ (.tup ys)from⟨hz,its,r',IsTup.new _ _,_,qA0 _ rfl,rfl⟩)
   exact⟨.ref h'.objs.size,_,I2,rfl,q _ (I1.hok.fresh (zJ0 _))⟩
 . obtain⟨its,r',pl,hz⟩:=I.tuple hq;exact call_tuple_same pl ⟨.ref p,H,I,rfl,q⟩
def tyV(K:W.Frag)(T:String)(x:V)(H:Hp):Prop:=match x with
 | .str _=>T="str"
 | .int _=>T="int"
 | .ref p=>(T="list"/\∃xs,SqL K H p xs)∨(T="tuple"/\∃o,K.lookup p=some o/\o.cls=.type "tuple"/\o.dict=none)∨
  (T="dict"/\((∃kvs,H p=some (.dK kvs))∨∃kvs,H p=some (.dT kvs)))∨(T="set"/\∃S n,H p=some (.set S n))
 | _=>False
theorem Cq{pins:List (Addr×Obj)}{σ:St}{H:Hp}{s:Shared}{T:String}{x:V}{v:Value}(I:Inv X pins σ H s)(r:RelV x v)(ty:tyV X.K T x H) :
 s.TypeIs v T/\∀a,v=.ref a->∃ob,s.heap.get? a=some ob/\ob.dict=none:=by
 cases x with
 | str z=>
   obtain⟨t,rfl⟩:=r;cases(show T="str" from ty);exact⟨typeIs_str s z t,fun _ e=>nomatch e⟩
 | int i=>
   obtain⟨t,rfl⟩:=r;cases(show T="int" from ty);exact⟨typeIs_int s i t,fun _ e=>nomatch e⟩
 | ref p=>
   cases r;rcases ty with⟨rfl,xs,hq⟩ | ⟨rfl,o,hk,hc,hd⟩ | ⟨rfl,hk⟩ | ⟨rfl,S,n,hk⟩
   . obtain⟨its,_,pl,_⟩:=I.list hq;refine⟨pl.isList.typeIs,fun a e=>?_⟩;cases e;obtain⟨o,n,e,c,hd,_⟩:=pl;exact⟨o,e,hd⟩
   . refine⟨⟨o,I.kIn p o hk,hc⟩,fun a e=>?_⟩;cases e;exact⟨o,I.kIn _ o hk,hd⟩
   . have z:∃o,s.heap.get? p=some o/\o.ExactDict:=by
      rcases hk with⟨kvs,hk⟩ | ⟨kvs,hk⟩
      . obtain⟨_,_,_,_,o,_,_,e,ex,_⟩:=I.hok p _ hk;exact⟨o,e,ex⟩
      . obtain⟨_,_,_,_,o,_,_,e,ex,_⟩:=I.hok p _ hk;exact⟨o,e,ex⟩
     obtain⟨o,e,ex⟩:=z;refine⟨⟨o,e,ex.1⟩,fun a e2=>?_⟩;cases e2;exact⟨o,e,ex.2.1⟩
   . obtain⟨o,_,_,_,e,ex,_⟩:=I.hok p _ hk;refine⟨⟨o,e,ex.1⟩,fun a e2=>?_⟩;cases e2;exact⟨o,e,ex.2.1⟩
 | _=>exact False.elim ty
def tBM(K:W.Frag)(T:String)(r:V->List V->Hp->VK->Prop)(to:TE)(t:TA):TE:=fun σ H Q=>to σ H fun x H1=>tyV K T x H1/\t σ H1 fun xs H2=>r x xs H2 Q
variable {o e:Expr} {es:List Expr} {to:TE} {t:TA} {name:Str} {apos cpos:Pos} {T id:String} {r:V->List V->Hp->VK->Prop}
theorem dU (pa:PlainAttrs T) (slot:Slot T name id) (hty:typeOf (.builtin id)=pure (.type "method_descriptor")) (hm:MtR X id r) (ho:PE X o to) (ha:PA X (e::es) t)
 (hbase:attributeBase o name X.env (eval o X.env)=eval o X.env:=by rfl)
 (hfew:((backTo cpos (starEach (e::es) X.env)).all (fun x=>!x.1)&&(backToKw cpos (keywordEach [] X.env)).all (fun x=>x.1.isSome)
  &&decide ((e::es).length+([]:List Keyword).length+(if([]:List Keyword).isEmpty then 0 else 1)<30))=true:=by rfl)
 (hline:(apos.endLine==cpos.line)=true:=by rfl) (hs:starEach (e::es) X.env=(false,eval e X.env)::starEach es X.env:=by rfl) (hplain:(backTo cpos (starEach es X.env)).any (·.1)=false:=by rfl) :
 PE X (.Call (.Attribute o name apos) (e::es) [] cpos) (tBM X.K T r to t):=by
 intro pins s σ H Q I h;refine wpAny_Call_method_late hbase hfew hline rfl (thn (ho pins s σ H _ I h) fun v s1 ⟨x,H1,I1,r1,ty,q1⟩=>?_);obtain⟨h1,h2⟩:=Cq I1 r1 ty;refine⟨T,id,pa,slot,hty,h1,h2,?_⟩;have hA:=ha cpos pins s1 σ H1 _ I1 q1;rw[hs]at hA ⊢;refine Calls.callWith_builtin (by show(false||(backTo cpos (starEach es X.env)).any (·.1))=false;rw[hplain] <;> rfl) (Calls.evalArgs_plain ?_);exact thn hA fun us s2 ⟨vs,H2,I2,r2,q2⟩=>hm pins s2 σ H2 x vs v us Q I2 r1 r2 q2
/- xs.append(e),list.index on a module's tuple .. are MtR facts of 06m -/
end
def MtM(X:Cx)(id:String)(r:V->List V->Hp->VK->Prop):Prop:=
 ∀(pins:List (Addr×Obj))(s:Shared)(σ:St)(H:Hp)(x:V)(xs:List V)(v:Value)(us:List Value)(Q:VK),Inv X pins σ H s->RelV x v->Vals xs us->r x xs H Q ->
  wpAny (model X.prog X.w) X.A (call (.builtin id) (v::us)) (EP X pins σ Q) X.xe s
theorem Vals.one:∀{x:V}{us:List Value},Vals [x] us->∃u,us=[u]/\RelV x u
 | _,_,.cons r .nil=>⟨_,rfl,r⟩
theorem Vals.rep{xs:List V}{us:List Value}(h:Vals xs us):∀k:Nat,Vals (List.replicate k xs).flatten (List.replicate k us).flatten
 | 0=>.nil
 | k+1=>by
   rw[List.replicate_succ,List.replicate_succ,List.flatten_cons,List.flatten_cons];exact Vals.append h (Vals.rep h k)
theorem pK(its:List Value):∀(k:Nat)(acc:List Value),
 List.foldl (fun x1 x2=>x1++x2) acc.toArray (List.replicate k its.toArray)=(acc++(List.replicate k its).flatten).toArray
 | 0,acc=>by simp
 | k+1,acc=>by
   have e:acc.toArray++its.toArray=(acc++its).toArray:=by simp
   have e2:(acc++its)++(List.replicate k its).flatten=acc++(List.replicate (k+1) its).flatten:=by
    rw[List.replicate_succ,List.flatten_cons,List.append_assoc]
   rw[←e2,←pK its k (acc++its),←e,List.replicate_succ,List.foldl_cons]
section
variable {X:Cx} {pins:List (Addr×Obj)} {σ:St} {H:Hp} {s:Shared} {l b:Addr} {xs ys zs:List V}
theorem Inv.lset{its its':List Value}{n:Nat}{f:Array Value->Array Value}{t':Nat}(I:Inv X pins σ H s)(hH:H l=some (.lst xs))
 (e:s.heap.get? l=some { cls:=.type "list",data:=.seq its.toArray n }) (hf:f its.toArray=its'.toArray) (hv:Vals ys its') (hz:ys.length<=sizeLine) :
 Inv X pins σ (upd H l (.lst ys)) { s with heap:=s.heap.update l (Obj.mapSeq f),toks:=t' }:=by
 have q:=PySem.IsL.update e f;rw[hf]at q;refine I.write (x:=l) (e:=l) (by rw[hH];exact trivial) (.inl rfl) (fun b' u hb hu=>(Heap.get?_update_other s.heap (Obj.mapSeq f) (Ne.symm hb)).trans hu) ⟨_,q⟩ ?_;exact⟨hz,its',_,hv,q⟩
theorem Inv.lnew{its:List Value}{t':Nat}(I:Inv X pins σ H s)(hv:Vals ys its)(hz:ys.length<=sizeLine) :
 Inv X pins σ (upd H s.heap.objs.size (.lst ys)) { s with heap:=s.heap.push { cls:=.type "list",data:=.seq its.toArray },toks:=t' }:=
 I.laid (fun _ _ q=>zQ0 _ q) (zJ0 _) ⟨hz,its,0,hv,qA0 _ rfl⟩
theorem Inv.fresh(I:Inv X pins σ H s):H s.heap.objs.size=none:=I.hok.fresh (zJ0 _)
theorem Inv.lstM (I:Inv X pins σ H s) (hH:H l=some (.lst xs)):xs.length<=sizeLine/\∃(its:List Value) (n:Nat),Vals xs its/\xs.length=its.length/\s.heap.get? l=some { cls:=.type "list",data:=.seq its.toArray n }:=by
 obtain⟨z,its,n,r,e⟩:=I.hok l _ hH;exact⟨z,its,n,r,r.length,e⟩
theorem rW{n:Nat}(h:n<=sizeLine):Builtin.List.listTooLong n=false:=by
 unfold Builtin.List.listTooLong;exact decide_eq_false (by omega)
end
section
variable {X:Cx}
def AV:V->List V->Hp->VK->Prop:=fun x vs H Q=>∃l xs y,x=.ref l/\vs=[y]/\H l=some (.lst xs)/\xs.length<sizeLine/\Q .non (upd H l (.lst (xs++[y])))
theorem bi:MtM X "list.append" AV:=by
 intro pins s σ H x vs v us Q I rx rv h;obtain⟨l,xs,y,rfl,rfl,hH,hz,q⟩:=h;cases rx;obtain⟨u,rfl,ru⟩:=rv.one;obtain⟨z,its,n,r,hl,e⟩:=I.lstM hH;refine call_meets F.slot_list_append ⟨_,e,rfl⟩ F.entry_list_append (F.args_list_append_2 _ _) (PySem.list_append l its.toArray n u (by rw[zW0];omega)) ⟨e,?_⟩;refine⟨.non,_,I.lset (its':=its++[u]) hH e (by simp) (r.append (.cons ru .nil)) ?_,rfl,q⟩;rw[zO0,qU0];omega
def AU:V->List V->Hp->VK->Prop:=fun x vs H Q=>∃l b xs zs,x=.ref l/\vs=[.ref b]/\H l=some (.lst xs)/\H b=some (.lst zs)/\xs.length+zs.length<=sizeLine/\Q .non (upd H l (.lst (xs++zs)))
theorem wV:MtM X "list.extend" AU:=by
 intro pins s σ H x vs v us Q I rx rv h;obtain⟨l,b,xs,zs,rfl,rfl,hH,hB,hz,q⟩:=h;cases rx;obtain⟨u,rfl,ru⟩:=rv.one;cases ru;obtain⟨z,its,n,r,hl,e⟩:=I.lstM hH;obtain⟨z2,its2,n2,r2,hl2,e2⟩:=I.lstM hB;have hsz:its.toArray.size+its2.toArray.size<=sizeLine:=by rw[zW0,zW0];omega
 have hlong:¬ (!its.toArray.isEmpty&&Builtin.List.listTooLong (its.toArray.size+its2.toArray.size))=true:=by
  rw[rW hsz,Bool.and_false];exact qE0
 refine call_meets F.slot_list_extend ⟨_,e,rfl⟩ F.entry_list_extend (F.args_list_extend_2 _ _)
  (AutoSeq1.list_extend_list_list_0 l its.toArray n b its2.toArray n2 hlong (by rw[zW0];omega) (by omega)) ⟨e,e2,?_⟩
 refine⟨.non,_,I.lset (its':=its++its2) hH e (by simp) (r.append r2) ?_,rfl,q⟩;rw[zO0];omega
def rCat:R2:=fun x y H Q=>∃l b xs zs,x=.ref l/\y=.ref b/\H l=some (.lst xs)/\H b=some (.lst zs)/\xs.length+zs.length<=sizeLine/\∀p,H p=none->Q (.ref p) (upd H p (.lst (xs++zs)))
theorem fF:OpR X (binaryOp .Add) rCat:=by
 intro pins s σ H x y v u Q I rx ry h;obtain⟨l,b,xs,zs,rfl,rfl,hH,hB,hz,q⟩:=h;cases rx;cases ry;obtain⟨z,its,n,r,hl,e⟩:=I.lstM hH;obtain⟨z2,its2,n2,r2,hl2,e2⟩:=I.lstM hB;refine PySem.P.add_list e e2 ?_ (by rw[zW0,zW0];omega);have ea:its.toArray++its2.toArray=(its++its2).toArray:=by simp
 rw[ea];exact⟨.ref _,_,I.lnew (t':=s.toks) (r.append r2) (by rw[zO0];omega),rfl,q _ I.fresh⟩
def rRep:R2:=fun x y H Q=>∃l k xs,x=.ref l/\y=.int k/\H l=some (.lst xs)/\-(2 ^ 63)<=k/\k<2 ^ 63/\xs.length*k.toNat<=sizeLine/\
 ∀p,H p=none->Q (.ref p) (upd H p (.lst (List.replicate k.toNat xs).flatten))
theorem Bt{α:Type}(xs:List α)(k:Nat):(List.replicate k xs).flatten.length=k*xs.length:=by
 induction k with
 | zero=>simp
 | succ k ih=>rw[List.replicate_succ,List.flatten_cons,zO0,ih,Nat.succ_mul,Nat.add_comm]
theorem ue:OpR X (binaryOp .Mult) rRep:=by
 intro pins s σ H x y v u Q I rx ry h;obtain⟨l,k,xs,rfl,rfl,hH,h1,h2,hz,q⟩:=h;cases rx;obtain⟨t,rfl⟩:=ry;obtain⟨z,its,n,r,hl,e⟩:=I.lstM hH;have hlen:its.toArray.size*k.toNat<=sizeLine:=by rw[zW0,←hl];exact hz
 have hcap:¬ its.toArray.size*k.toNat>(2 ^ 63-1) / 8:=by
  have:(sizeLine:Nat)<=(2 ^ 63-1) / 8:=by decide
  omega
 have hfit:¬ (!Builtin.List.listFitsIndex k)=true:=by
  rw[fitsIndex_both h1 h2];exact qE0
 have hlong:¬ Builtin.List.listTooLong (its.toArray.size*k.toNat)=true:=by
  rw[rW hlen];exact qE0
 have hnew:List.foldl (fun x1 x2=>x1++x2) #[] (List.replicate (if its.toArray.isEmpty=true then 0 else k.toNat) its.toArray)=(List.replicate k.toNat its).flatten.toArray:=by
  have f0:∀m:Nat,List.foldl (fun x1 x2=>x1++x2) #[] (List.replicate m its.toArray)=(List.replicate m its).flatten.toArray:=fun m=>by
   have:=pK its m []
   rw[List.nil_append]at this;exact this
  rw[f0];cases its with
  | nil=>simp
  | cons a r'=>rw[zF0 (by simp)]
 refine wpAny_binaryOp_repeat_ref (T:="list") (U:="int") (by decide) ⟨_,e,rfl⟩ (fun s'=>typeIs_int s' k t) noFill_list_mul F.fills_int_mul F.slot_int_rmul repeat_list F.slot_int_index.lookup
  (call_meets F.slot_int_rmul (typeIs_int s k t) F.entry_int_rmul (F.args_int_rmul_2 _ _) (int___rmul___int_list k t l its.toArray n)
   ⟨e,rfl,⟨_,e,rfl⟩,call_meets F.slot_list_mul ⟨_,e,rfl⟩ F.entry_list_mul (F.args_list_mul_2 _ _) (AutoListH.list___mul___list_int_3 l its.toArray n k t hfit hcap hlong) ⟨e,?_⟩⟩)
 rw[hnew];exact⟨.ref _,_,I.lnew (t':=s.toks) (r.rep k.toNat) (by rw[Bt,Nat.mul_comm];exact hz),rfl,q _ I.fresh⟩
end
end L2
namespace Att
open PySem PySem.W PySem.Calls PyProof.Rows
theorem mN{P:Params}{h:Heap}:∀(ns:List Int)(vs:List Value),WellAll P h vs (ns.map WData.int)->IntsAre vs ns:=by
 intro ns
 induction ns with
 | nil=>
   intro vs w;rw[List.map_nil]at w;cases w;exact .nil
 | cons n ns ih=>
   intro vs w;rw[qG0]at w;cases w with
   | cons a b=>
     cases a;exact .cons _ _ (ih _ b)
theorem wu{l:OpenLaw}{n:Nat}(hn:l.most=some n){P:Params}{h:Heap}{args:List WData}{vals:List Value}
 (hpre:l.row.toRowW.claim.pre args=true) (hwl:WellAll P h vals args) :
 ∃a vs ns,vals=[Value.ref a]/\args=[WData.list (ns.map WData.int)]/\h.get? a=some { cls:=.type "list",data:=.seq vs.toArray }/\IntsAre vs ns/\ns.length<=n:=by
 have hsh:WShape.hasAll [] args [.list .int]=true:=(pre_splitW hpre).1;have hc:l.pre.holds [] { args:=args }=true:=(pre_splitW hpre).2;obtain⟨d,r,rfl,h1,h2⟩:=hasAllW_cons hsh;obtain rfl:=hasAllW_nil h2;obtain⟨xs,rfl,h3⟩:=hasW_list h1;obtain⟨ns,rfl⟩:=items_int h3;have hlen:ns.length<=n:=by
  unfold OpenLaw.pre at hc;have h4:(WTm.not (.lt (.lit (.int (n:Int))) (.len (.arg 0)))).holds [] { args:=[.list (ns.map .int)] }=true:=by
   have h4:=(holds_andW hc).1;rw[hn]at h4;exact h4
  have h5:=condW_of h4 (w_not (w_lt w_lit (w_len_list (w_arg rfl))));rw[zH0]at h5;refine Nat.le_of_not_lt fun q=>?_
  have q':(n:Int)<((ns.length:Nat):Int):=by omega
  first
   | (rw[decide_eq_true q']at h5;exact absurd h5 (by decide))
   | (simp at h5;omega)
 cases hwl with
 | cons w1 w2=>
   cases w2;cases w1 with
   | list ho hall=>exact⟨_,_,ns,rfl,rfl,ho,mN ns _ hall,hlen⟩
theorem wC(l:OpenLaw)(args:List WData):l.row.toRowW.claim.post args (.bool true) args=true:=
 postW_of (r:=l.row.toRowW) (X:=(true==true))
  (show WShape.has [] (.bool true) .bool=true by first | rfl | decide | simp [WShape.has,WShape.arms,WShape.armsAll])
  (show(WTm.eq .res (.lit (.bool true))).value [] { args:=args,res:=some (.bool true),after:=args }=some (.bool (true==true))from w_eq_bool (w_res rfl) w_lit) rfl
theorem attach_call{l:OpenLaw}{n:Nat}{q:Program}{loose:List Str}{XP:(Str->Option Value)->Heap->Prop}{YP:World->Heap->Prop}{d:DefRec}
 (hn:l.most=some n) (hdf:d.params.defaults=[])
 (call:∀(w:World)(s₀ s₁:Shared)(mg mb:Str->Option Value)(fa:Addr)(o:Obj)(pm cd doc:Value)(a:Addr)(vs:List Value)(ns:List Int),
  Ground q loose [] XP w s₀ mg mb s₁.heap->YP w s₁.heap ->
  s₁.heap.get? fa=some o->o.data=.func (docDef d.name d.params d.body d.scope pm cd doc)->s₁.heap.CodeRec cd d.name->mg d.name=some (.ref fa) ->
  s₁.heap.get? a=some { cls:=.type "list",data:=.seq vs.toArray }->IntsAre vs ns->ns.length<=n->s₁.gens=#[] ->
  codeAny (model l.prog w) callerA (.call (.ref fa) ⟨[.ref a],[]⟩) (fun r s'=>r=.ok (.ret (.bool true))/\OldK s₁.heap s'.heap/\s'.os=s₁.os/\AllBare s'.gens) s₁) :
 WalkO q loose XP YP l.row.toRowW d [] (fun f vs=>PySem.call f vs):=by
 intro w s₀ s₁ mg mb G Y fa o pm cd doc dV kV ho hd hcd hD hmg hg args vals as hpre hlay hrd hwl hlo;obtain rfl:dV=.none:=Dflts.none hD hdf;obtain rfl:kV=.none:=Dflts.noKw hD;obtain⟨a,vs,ns,rfl,rfl,hobj,hints,hlen⟩:=wu hn hpre hwl;refine enter_call (codeAny_mono (call w s₀ s₁ mg mb fa o pm cd doc a vs ns G Y ho (fd_plain hd) hcd hmg hobj hints hlen hg) fun r s' hq=>?_);obtain⟨rfl,h2,h3,h4⟩:=hq;exact⟨.inl ⟨.bool true,.bool true,[],rfl,fun _=>rfl,.bool true,wC l _,fun _=>⟨List.Pairwise.nil,fun _ hm=>(nomatch hm)⟩⟩,h2,h3,h4⟩
end Att
namespace L2
open PySem PySem.Spec PyProof.Rows
theorem pe:∀{vs:List Value}{ns:List Int},IntsAre vs ns->Vals (ns.map V.int) vs
 | _,_,.nil=>.nil
 | _,_,.cons n t h=>.cons ⟨t,rfl⟩ (pe h)
def DN(H:Hp):Prop:=∀b,H b=none∨∃o xs,H b=some (.frz o (.lst xs))
theorem zO{P:Program}{w:World}{K:W.Frag}{mg mb:Str->Option Value}{CX:CXT}{k:Nat}{fa a:Addr}{fd:FuncData}{x:Str}{sp:Sp}{s₁:Shared}{vs:List Value}{ns:List Int}
 (KX:K.In s₁.heap) (hns:s₁.heap.Ns mainGlobals mg) (hb:s₁.heap.Ns builtinsNs mb) (hbb:∀x:Str,x≠"__name__" -> mb x=bootBuiltins x) (hlim:s₁.heap.NoLimit) (hg:s₁.gens=#[])
 (ha:s₁.heap.get? a=some { cls:=.type "list",data:=.seq vs.toArray }) (hi:IntsAre vs ns) (hl:ns.length<=sizeLine) (hr:Room k callerA)
 (F:∀base:Heap,K.In base->base.Ns mainGlobals mg->FnOk P w K mg base CX k fa fd [x] sp) (hbind:∀(s:Shared)(u:Value),BindsTo s fd ⟨[u],[]⟩ [(x,u)])
 (hsp:∀H:Hp,DN H->SqL K H a (ns.map V.int)->sp [.ref a] H (fun v _=>v=.bl true) fun _ _ _=>False)
 (hCX:∀H e s',CX [] H s₁ (fun _ _ _=>False) e s'->False) :
 codeAny (model P w) callerA (.call (.ref fa) ⟨[.ref a],[]⟩) (fun r s'=>r=.ok (.ret (.bool true))/\OldK s₁.heap s'.heap/\s'.os=s₁.os/\AllBare s'.gens) s₁:=by
 have rv:=pe hi;have lenV:=hi.length;have core:∀H:Hp,DN H->SqL K H a (ns.map V.int)->HOk P w H s₁.heap->(∀b,H b≠none->b=a)->(H a≠none->K.lookup a=none) ->
  codeAny (model P w) callerA (.call (.ref fa) ⟨[.ref a],[]⟩) (fun r s'=>r=.ok (.ret (.bool true))/\OldK s₁.heap s'.heap/\s'.os=s₁.os/\AllBare s'.gens) s₁:=by
  intro H hO hS hok hA hK;have base_of:∀{b:Addr}{o:Obj},s₁.heap.get? b=some o->H b=none->(qF s₁.heap H).get? b=some o:=fun e n=>zU e n
  have noA:∀{b:Addr}{o:Obj}{es:Array DictEntry}{ep:Nat},s₁.heap.get? b=some o->o.data=.dict es ep->H b=none:=fun{b o es ep} e d=>by
   cases q:H b with
   | none=>rfl
   | some u=>
     have e':b=a:=hA b (by rw[q];simp);subst e';rw[ha]at e;cases e;have d':Data.seq vs.toArray _=Data.dict es ep:=d;cases d'
  have nsK:∀{b:Addr}{m:Str->Option Value},s₁.heap.Ns b m->(qF s₁.heap H).Ns b m:=fun{b m} ⟨o,es,ep,e,d,r⟩=>⟨o,es,ep,base_of e (noA e d),d,r⟩
  have hKb:K.In (qF s₁.heap H):=fun b o e=>base_of (KX b o e) (by
   cases q:H b with
   | none=>rfl
   | some u=>
     have e':b=a:=hA b (by rw[q];simp);subst e';rw[hK (by rw[q];simp)]at e;cases e)
  have hM:Mod K mg (qF s₁.heap H):=⟨hKb,nsK hns,⟨mb,nsK hb,hbb⟩,let⟨mc,h1,h2⟩:=hlim;⟨mc,nsK h1,h2⟩⟩
  have e0:Env0 P w K mg (qF s₁.heap H) callerA [] s₁ H:=⟨rfl,hM,fun b o e=>Bj e,Nat.le_of_eq (xn _ _),trivial,fun b hb=>absurd (show b∈([]:List Addr)from hb) (by simp),hok,.of_eq hg⟩
  refine codeAny_mono ((F _ hKb (nsK hns)).run callerA [] s₁ H ⟨[.ref a],[]⟩ [.ref a] [.ref a] _ _ hr e0 (hbind s₁ (.ref a)) (.cons rfl .nil) (hsp H hO hS)) fun r s' h=>?_
  cases r with
  | error e=>exact(hCX H e s' h).elim
  | ok fl=>
    cases fl with
    | next=>exact False.elim h
    | brk=>exact False.elim h
    | cont=>exact False.elim h
    | ret u=>
      obtain⟨v,H',os,bare,un,hok',r',q⟩:=h;have q':v=.bl true:=q;subst q';obtain rfl:u=Value.bool true:=r';refine⟨rfl,OldK.of_keep fun b o e=>?_,os,bare⟩;cases q:H b with
      | none=>exact un.keep b o e q (by intro z;exact absurd (show b∈([]:List Addr)from z) (by simp)) (by simp)
      | some u=>
        rcases hO b with z | ⟨ob,xs,z⟩
        . rw[q]at z;cases z
        . have z2:=un.frzs b ob _ z;obtain⟨e1,_⟩:=hok b _ z;obtain⟨e2,_⟩:=hok' b _ z2;rw[e]at e1;cases e1;exact e2
 cases hk:K.lookup a with
 | some o=>
   have e:=KX a o hk;rw[ha]at e;cases e;refine core (fun _=>none) (fun _=>.inl rfl) (.inr ⟨_,vs.toArray,_,hk,rfl,rfl,rfl,by rw[zW0,lenV];exact hl,by simpa using rv⟩) (fun b u z=>by have z':(none:Option HO)=some u:=z;cases z') (fun b z=>absurd rfl z) fun z=>absurd rfl z
 | none=>
   refine core (fun b=>if b=a then some (.frz { cls:=.type "list",data:=.seq vs.toArray } (.lst (ns.map V.int)))else none) (fun b=>?_) (.inl (.inr ⟨{ cls:=.type "list",data:=.seq vs.toArray },zI0 rfl⟩)) (fun b u z=>?_) (fun b z=>?_) fun _=>hk
   . by_cases hb:b=a
     . exact .inr ⟨_,_,zI0 hb⟩
     . exact .inl (zF0 hb)
   . by_cases hb:b=a
     . have z':=(zI0 hb).symm.trans z;cases z';subst hb;exact⟨ha,by rw[zH0];exact hl,vs,_,rv,ha⟩
     . have z':=(zF0 hb).symm.trans z;cases z'
   . by_cases hb:b=a
     . exact hb
     . exact absurd (zF0 hb) z
theorem walk_of{l:PySem.W.OpenLaw}{n k:Nat}{q:Program}{loose:List Str}{XP:(Str->Option Value)->Heap->Prop}{YP:World->Heap->Prop}{d:DefRec}{K:Params->PySem.W.Frag}{CX:World->CXT}{sp:World->Sp}{x:Str}
 (hn:l.most=some n) (hn2:n<=sizeLine) (hdf:d.params.defaults=[]) (hr:Room k callerA)
 (hY:∀(w:World)(h:Heap),YP w h->(K w.params).In h)
 (F:∀(w:World)(mg:Str->Option Value)(fa:Addr)(h:Heap),(K w.params).In h->h.Ns mainGlobals mg->mg d.name=some (.ref fa) ->
  ∃ fd:FuncData,(∀(s:Shared)(u:Value),BindsTo s fd ⟨[u],[]⟩ [(x,u)])/\
   ∀base:Heap,(K w.params).In base->base.Ns mainGlobals mg->FnOk l.prog w (K w.params) mg base (CX w) k fa fd [x] (sp w))
 (hsp:∀(w:World)(H:Hp)(a:Addr)(ns:List Int),ns.length<=n->DN H->SqL (K w.params) H a (ns.map V.int)->sp w [.ref a] H (fun v _=>v=.bl true) fun _ _ _=>False)
 (hCX:∀(w:World)(H:Hp)(s:Shared)(e:Value)(s':Shared),CX w [] H s (fun _ _ _=>False) e s'->False) :
 PySem.W.WalkO q loose XP YP l.row.toRowW d [] (fun f vs=>PySem.call f vs):=by
 refine Att.attach_call hn hdf fun w s₀ s₁ mg mb fa o pm cd doc a vs ns G Y ho hd hcd hmg hobj hints hlen hg=>?_
 have KX:=hY w _ Y;obtain⟨fd,hb,hF⟩:=F w mg fa _ KX G.T.g hmg;exact zO KX G.T.g G.T.b G.T.builtins G.T.nolimit hg hobj hints (qB0 hlen hn2) hr hF hb (fun H hO hS=>hsp w H a ns hlen hO hS) fun H e s'=>hCX w H s₁ e s'
end L2
/- THE LAST THEOREM (shape;LID,My.* are yours):
 My.Adr: a structure of the addresses that your layer names (classes,functions);My.Txt K t: a structure (Prop) of the equations over K;
 My.txt_mk:{K} {implicit addresses ..} (e1:nsIn K mainGlobals "law"=some (some (.ref f))) (e2:K.lookup f=some ⟨oc,od,.func (fnOf "law" "law" params body scope dV kV doc pm an cdv ct),sl⟩) (e3:codeIn K cdv "law"=true) ..:∃t,My.Txt K t
set_option maxRecDepth 100000 in
set_option maxHeartbeats 0 in
theorem PySem.Challenge.cw_LID_holds : PySem.Challenge.rw_LID.Holds:=by
 w_on;o_law;k_head;(case hw=>w_witness2)
 k_fill
 refine L2.walk_of (l:=PySem.Challenge.rw_LID) (n:=63) (k:=40) (x:="script") (CX:=fun w=>..) (sp:=fun _=>My.sp_law) rfl (by decide) rfl ⟨rfl,by decide,by decide⟩ (fun w h Y=>PySem.W.kIn_of Y) ?F ?S ?C
 case F=>
  intro w mg fa h KX G hmg;have T:∃t,My.Txt (L2.KOf KX) t:=by
   dsimp only [L2.KOf]                          -- K must stand as «<heap const> w.params» for k_is
   refine' My.txt_mk ?e1 ?e2 ?e3 ..
   (case e1=>PySem.W.k_is)                    -- in the order: a name -> its address -> its object -> its parts
   (case e2=>PySem.W.k_is)
   ..
  obtain⟨t,T⟩:=T;have e0:=hmg.symm.trans (PySem.W.mg_of KX G T.law);cases e0                                       -- fa is the law's own address;exact⟨_,fun s u=>.of_eq rfl,fun base kb nb=>My.law_fn T kb nb⟩     -- if «.of_eq rfl» comes too early: refine' ⟨_,?b,fun base kb nb=>My.law_fn T kb nb⟩;exact fun s u=>.of_eq rfl
 case S=>exact fun w H a ns hl hO hS=>..
 case C=>exact ..
(the tactic k_is has no namespace: write k_is) -/
namespace L2
open PySem PySem.Spec PyProof.Rows
def dE(s:Stmt)(j:Nat):Stmt:=match s with
 | .ClassDef _ _ _ body _ _ _ _ _ _ _=>body.getD j (.Pass ⟨0,0,0,0⟩)
 | _=>.Pass ⟨0,0,0,0⟩
def aA(s:Stmt):Arguments:=match s with
 | .FunctionDef _ a _ _ _ _ _ _ _ _=>a
 | _=>{ posonlyargs:=[],args:=[],vararg:=none,kwonlyargs:=[],kw_defaults:=[],kwarg:=none,defaults:=[] }
def ay(s:Stmt):List Stmt:=match s with
 | .FunctionDef _ _ b _ _ _ _ _ _ _=>b
 | _=>[]
def ae(s:Stmt):Scope:=match s with
 | .FunctionDef _ _ _ _ _ _ sc _ _ _=>sc
 | _=>{ kind:=.function,names:=[],isGenerator:=false,isCoroutine:=false }
abbrev CX0:CXT:=fun _ _ _ _ _ _=>False
abbrev E0:XK:=fun _ _ _=>False
theorem fU{X:Cx}:ku CX0 X E0:=fun _ _ _ _ _ _ _ h=>h.elim
structure Fun(K:W.Frag)(x qual:Str)(st:Stmt)(f:Addr)(fd:FuncData):Prop where
 ex:∃(oc:Value)(od:Option Addr)(kV doc pm:Value)(an:Option Addr)(cdv ct:Value)(osl:Array (Option Value)),
  fd=PySem.W.fnOf x qual (aA st) (ay st) (ae st) .none kV doc pm an cdv ct/\K.lookup f=some ⟨oc,od,.func fd,osl⟩/\PySem.W.codeIn K cdv qual=true
 kp:PySem.W.keepIn K (.ref f)=true
section
variable {P:Program} {w:World} {K:W.Frag} {mg:Str->Option Value} {base:Heap}
theorem Fun.ok{x qual:Str}{st:Stmt}{f:Addr}{fd:FuncData}{N ps:List Str}{k:Nat}{sp:Sp}(F:Fun K x qual st f fd)(S:FnScope N ps (ae st))(len:∀vs H Q E,sp vs H Q E->vs.length=ps.length)
 (hbody:∀(cdv:Value)(A:Around)(outer:List Env)(s:Shared)(H:Hp)(vs:List V)(Q:VK)(E:XK),Room k (A.deeper (envOfC qual (ae st) s.heap.objs.size f cdv))->sp vs H Q E ->
  ∃t,PSs (xA CX0 P w K mg base N qual (ae st) f cdv A outer s H E).nox (ay st) t/\t { nx:=fun _ H'=>Q .non H',rt:=Q } (lY N vs) H):FnOk P w K mg base CX0 (k+1) f fd ps sp:=by
 obtain⟨oc,od,kV,doc,pm,an,cdv,ct,osl,rfl,lk,hcd⟩:=F.ex;refine fn_of lk hcd S len fun A outer s H vs Q E hr hsp=>?_
 obtain⟨t,h,q⟩:=hbody cdv A outer s H vs Q E hr hsp;exact⟨t,h.nox,q⟩
theorem Fun.binds{x qual:Str}{st:Stmt}{f:Addr}{fd:FuncData}{ps:List Str}(F:Fun K x qual st f fd)
 (h:∀(kV doc pm:Value)(an:Option Addr)(cdv ct:Value)(us:List Value),us.length=ps.length->bindArgs (PySem.W.fnOf x qual (aA st) (ay st) (ae st) .none kV doc pm an cdv ct) ⟨us,[]⟩=pure (ps.zip us)):Binds K fd ps []:=by
 obtain⟨oc,od,kV,doc,pm,an,cdv,ct,osl,rfl,lk,hcd⟩:=F.ex;exact .all (h kV doc pm an cdv ct)
theorem aF{x qual:Str}{st:Stmt}{f:Addr}{oc:Value}{od an:Option Addr}{osl:Array (Option Value)}{kV doc pm cdv ct:Value}(l:K.lookup f=some ⟨oc,od,.func (PySem.W.fnOf x qual (aA st) (ay st) (ae st) .none kV doc pm an cdv ct),osl⟩)
 (c:PySem.W.codeIn K cdv qual=true) (k:PySem.W.keepIn K (.ref f)=true):Fun K x qual st f (PySem.W.fnOf x qual (aA st) (ay st) (ae st) .none kV doc pm an cdv ct):=⟨⟨oc,od,kV,doc,pm,an,cdv,ct,osl,rfl,l,c⟩,k⟩
end
theorem ld{A:Around}{k:Nat}(hr:Room k A):A.units+1<cLine:=Nat.lt_of_le_of_lt (Nat.add_le_add_left (by decide:1<=64) _) hr.units
theorem aG{n:Nat}(h:n<=1000):n<sizeLine:=Nat.lt_of_le_of_lt h (by decide)
section
variable {X:Cx}
theorem pv (i:Nat) {x:Str} {pos:Pos} (hN:X.N[i]?=some x:=by rfl) (hv:Vis X.env.scope x:=by first | exact Or.inl rfl | exact Or.inr (Or.inl rfl) | exact Or.inr (Or.inr rfl)) (hd:(x==("__debug__":Str))=false:=by decide)
 (hcd:(x==("__classdict__":Str))=false:=by decide):PE X (.Name x pos) (qV i):=CW hN hv hd hcd
end
theorem gu{A B:Prop}(h:B):if false=true then A else B:=by
 rw[zF0 qE0];exact h
theorem jY{A B:Prop}(h:A):if true=true then A else B:=by
 rw[zI0 rfl];exact h
theorem jZ{c A B:Prop}[Decidable c](h1:c->A)(h2:¬ c->B):if c then A else B:=by
 by_cases h:c
 . rw[zI0 h];exact h1 h
 . rw[zF0 h];exact h2 h
theorem Ce{c A B:Prop}[Decidable c](hc:c)(h:B):if(!decide c)=true then A else B:=by
 rw[decide_eq_true hc];exact gu h
def Same(H H':Hp):Prop:=∀b o,H b=some o->H' b=some o
theorem Same.refl(H:Hp):Same H H:=fun _ _ h=>h
theorem Same.trans{H H1 H2:Hp}(a:Same H H1)(b:Same H1 H2):Same H H2:=fun c o h=>b c o (a c o h)
theorem Same.free{H H':Hp}(e:Same H H'){l:Addr}(h:H' l=Option.none):H l=Option.none:=by
 cases q:H l with
 | none=>rfl
 | some o=>
   rw[e l o q]at h;cases h
theorem Same.seq{K:W.Frag}{H H':Hp}{a:Addr}{xs:List V}(e:Same H H')(h:SqL K H a xs):SqL K H' a xs:=by
 rcases h with(h | ⟨o,h⟩) | h
 . exact .inl (.inl (e _ _ h))
 . exact .inl (.inr ⟨o,e _ _ h⟩)
 . exact .inr h
end L2
set_option maxHeartbeats 4000000
namespace L2
open PySem PySem.Spec PyProof.Rows
section
variable {X:Cx}
theorem jA:hZ X (.builtin "isinstance") (fun xs H Q=>∃x t n b,xs=[x,.ty n]/\TyOf X.K H x t/\PySem.W.kitOne X.K t (.type n)=some b/\Q (.bl b) H):=by
 intro pins s σ H xs us Q I r h;obtain⟨x,t,n,b,rfl,ty,e,q⟩:=h;obtain⟨u,w',rfl,r1,r2⟩:=xI r;cases r2;exact xj I r1 ty e (fun tk=>⟨.bl b,H,I.tok tk,rfl,q⟩)
theorem sx(K:W.Frag)(n:String):PySem.W.kitOne K (.type n) (.type n)=some true:=by
 unfold PySem.W.kitOne;rw[zI0 (by simp)]
theorem qD (K:W.Frag):PySem.W.kitOne K (.type "int") (.type "bool")=some false:=by
 show(if((Value.type "int"==Value.type "bool")=true)then some true else if PySem.W.kitMeta "bool"=true then((fastBuiltinMro "int").map (·.contains (.type "bool")))else none)=some false;decide +kernel
def CDivL(_ j:Int):Prop:=0<j/\j<2 ^ 63
theorem zj:OpR X (binaryOp .FloorDiv) (rI CDivL fun i j=>.int (i / j)):=opI fun i j _ _ _ _ _ hc q=>by
 have e:Int.fdiv i j=i / j:=Int.fdiv_eq_ediv_of_nonneg i (Int.le_of_lt hc.1);rw[←e]at q;refine floordiv_int (by have:=hc.1;omega) q (.inl (PyProof.noPylong_of_log2 ?_));have h1:=hc.1;have h2:=hc.2;have h3:j.natAbs<2 ^ 63:=by omega
 have h4:=(Nat.log2_lt (n:=j.natAbs) (k:=63) (by omega)).mpr h3;omega
end
theorem fJ:bootBuiltins "int"=some (.type "int"):=by decide +kernel
theorem uX:bootBuiltins "bool"=some (.type "bool"):=by decide +kernel
theorem fH:bootBuiltins "list"=some (.type "list"):=by decide +kernel
theorem cg:bootBuiltins "tuple"=some (.type "tuple"):=by decide +kernel
theorem oP:bootBuiltins "reversed"=some (.type "reversed"):=by decide +kernel
structure Cal(P:Program)(w:World)(K:W.Frag)(mg:Str->Option Value)(base:Heap)(n:Nat)(x:Str)(ps:List Str)(sp:Sp):Prop where
 ex:∃(f:Addr)(fd:FuncData),FnOk P w K mg base CX0 n f fd ps sp/\Binds K fd ps []/\PySem.W.keepIn K (.ref f)=true/\mg x=some (.ref f)
theorem ai{X:Cx}{n k:Nat}{x:Str}{ps:List Str}{sp:Sp}{e:Expr}{es:List Expr}{t:TA}{p pos:Pos}(C:Cal X.prog X.w X.K X.mg X.base n x ps sp)(hr:Room k X.A)(hk:n<=k)(hg:Gl X x)
 (ha:PA X (e::es) t) (hdb:(x==("__debug__":Str))=false:=by decide) (he:starEach (e::es) X.env=(false,eval e X.env)::starEach es X.env:=by rfl) (hpl:(backTo pos (starEach es X.env)).any (·.1)=false:=by rfl) :
 PE X (.Call (.Name x p) (e::es) [] pos) (xV sp [] E0 t):=by
 obtain⟨f,fd,F,b,kp,m⟩:=C.ex;exact Bb F (hr.mono hk) hg m kp b .nil fU ha hdb he hpl
theorem Cal.of{P:Program}{w:World}{K:W.Frag}{mg:Str->Option Value}{base:Heap}{n:Nat}{x qual:Str}{ps:List Str}{sp:Sp}{st:Stmt}{f:Addr}{fd:FuncData}(F:Fun K x qual st f fd)(O:FnOk P w K mg base CX0 n f fd ps sp)(m:mg x=some (.ref f))
 (h:∀(kV doc pm:Value)(an:Option Addr)(cdv ct:Value)(us:List Value),us.length=ps.length->bindArgs (PySem.W.fnOf x qual (aA st) (ay st) (ae st) .none kV doc pm an cdv ct) ⟨us,[]⟩=pure (ps.zip us)):Cal P w K mg base n x ps sp:=
 ⟨f,fd,O,F.binds h,F.kp,m⟩
theorem Du{c A B:Prop}[Decidable c](hc:¬ c)(h:A):if(!decide c)=true then A else B:=by
 rw[decide_eq_false hc];exact jY h
theorem bn{c A B:Prop}[Decidable c](hc:c)(h:A):if decide c=true then A else B:=by
 rw[decide_eq_true hc];exact jY h
theorem aI{c A B:Prop}[Decidable c](hc:¬ c)(h:B):if decide c=true then A else B:=by
 rw[decide_eq_false hc];exact gu h
def SameBut(f:Addr)(H H':Hp):Prop:=∀b o,b≠f->H b=some o->H' b=some o
theorem SameBut.trans{f:Addr}{H H1 H2:Hp}(a:SameBut f H H1)(b:SameBut f H1 H2):SameBut f H H2:=fun c o h e=>b c o h (a c o h e)
theorem SameBut.refl(f:Addr)(H:Hp):SameBut f H H:=fun _ _ _ h=>h
theorem zL0{f:Addr}{H H':Hp}(h:Same H H'):SameBut f H H':=fun b o _ e=>h b o e
abbrev SameBut.of:=@zL0
theorem SameBut.upd{f:Addr}{H:Hp}(o:HO):SameBut f H (upd H f o):=fun b u h e=>by rw[am h];exact e
theorem zE0{H:Hp}{p:Addr}(h:H p=none)(o:HO):Same H (upd H p o):=fun b u q=>by rw[am (aO q h)];exact q
abbrev Same.new:=@zE0
theorem Same.but{f:Addr}{H0 H H':Hp}(a:Same H0 H)(n:H0 f=none)(b:SameBut f H H'):Same H0 H':=fun c o e=>b c o (aO e n) (a c o e)
def FeedAt(H:Hp)(f:Addr):Prop:=∃own st:Int,H f=some (.lst [.int own,.int st])/\0<=own/\0<=st/\st<=2147483646
theorem FeedAt.ne{H:Hp}{f b:Addr}(F:FeedAt H f)(h:H b=none):b≠f:=by
 obtain⟨o,s,e,_⟩:=F;intro z;subst z;rw[h]at e;cases e
theorem FeedAt.same{H H':Hp}{f:Addr}(F:FeedAt H f)(s:Same H H'):FeedAt H' f:=by
 obtain⟨o,t,e,h⟩:=F;exact⟨o,t,s _ _ e,h⟩
def fZ:Sp:=fun vs H Q _=>∃(f:Addr)(m:Int),vs=[.ref f,.int m]/\FeedAt H f/\0<m/\m<2 ^ 63/\∀(d:Int)(H':Hp),0<=d->d<m->FeedAt H' f->SameBut f H H'->Q (.int d) H'
def yo(K:W.Frag):Sp:=fun vs H Q _=>∃(a:Addr)(ns:List Int)(k:Int),vs=[.ref a,.int k]/\SqL K H a (ns.map V.int)/\ns.length<=63/\0<=k/\k<1000000/\∀(p:Addr)(H':Hp),H p=none->Same H H'->FeedAt H' p->Q (.ref p) H'
def vq(K:W.Frag):Sp:=fun vs H Q _=>∃(a:Addr)(ns:List Int),vs=[.ref a]/\SqL K H a (ns.map V.int)/\ns.length<=63/\∀H',Q (.bl true) H'
theorem cu{n:Nat}(h:n<=1000):n<=sizeLine:=Nat.le_of_lt (aG h)
theorem Ai{ns:List Int}{k:Int}(h0:0<=k)(h:k<(ns.length:Int)):∃v:Int,atI (ns.map V.int) k=some (.int v):=by
 have hk:k.toNat<ns.length:=by omega
 have q:atI (ns.map V.int) ((k.toNat:Nat):Int)=some (.int ns[k.toNat]):=cq (by rw[zV0,zU0 hk] <;> rfl);have ek:((k.toNat:Nat):Int)=k:=by omega
 rw[ek]at q;exact⟨_,q⟩
@[reducible] def bK (X:Cx) (N:List Str) (scope:Scope) (cl:List (Str×Addr)) (s:Shared) (H:Hp) (fp:List Addr):Cx where
 prog:=X.prog
 w:=X.w
 K:=X.K
 mg:=X.mg
 base:=X.base
 A:=X.A
 N:=N
 s₀:=s
 H₀:=H
 env:=compEnvC scope cl s.heap.objs.size X.env
 outer:=X.stack
 stack:=X.stack
 ex:=fp
 fn:=fun _=>false
 calm:=X.calm
 pn:=[]
 xe:=fun _ _=>False
structure CompScope(X:Cx)(x:Str)(N:List Str)(ix:List Nat)(scope:Scope)(cl:List (Str×Addr)):Prop where
 clos:closureFor scope X.env=pure cl
 nocell:∀y∈scope.names,y.2≠.cell
 kind:scope.kind=.function
 names:∀y∈scope.names,y.2=.local->scope.names.lookup y.1=some .local
 own:scope.names.lookup x=some .local
 nd:(x::N).Nodup
 sub:∀p∈cl,X.env.cells.lookup p.1=some p.2
 has:((relabel scope X.env).names.all fun p=>!(p.2==.cell||p.2==.free)||(cl.lookup p.1).isSome)=true
 outs:∀(j:Nat)(y:Str),N[j]?=some y->(relabel scope X.env).names.lookup y=some .cell/\∃k c,ix[j]?=some k/\X.N[k]?=some y/\cl.lookup y=some c/\X.env.scope.names.lookup y=some .cell
def outs(ix:List Nat)(σ:St):St:=ix.map fun k=>(σ[k]?).join
section
variable {X:Cx} {pins:List (Addr×Obj)} {σ:St} {x:Str} {N:List Str} {ix:List Nat} {scope:Scope} {cl:List (Str×Addr)} {fp:List Addr} {H3:Hp} {s3:Shared}
theorem CompScope.cells(S:CompScope X x N ix scope cl){y:Str}{c:Addr}(h:cl.lookup y=some c):X.env.cells.lookup y=some c:=S.sub _ (PySem.mem_of_lookup h)
theorem ln(S:CompScope X x N ix scope cl)(I3:Inv X pins σ H3 s3)(hf:∀b∈fp,gn X pins H3 b)(hlt:∀b∈fp,b<s3.heap.objs.size):(bK X (x::N) scope cl s3 H3 fp).Ok where
 mod:=I3.ok.mod
 kind:=S.kind
 glob:=I3.ok.glob
 blt:=I3.ok.blt
 above:=zJ0 _
 inj:=fun y z c h1 h2=>I3.ok.inj y z c (S.cells h1) (S.cells h2)
 has:=fun y hy=>by
  have q:=List.all_eq_true.mp S.has;have hy:(relabel scope X.env).names.lookup y=some .cell∨(relabel scope X.env).names.lookup y=some .free:=hy;have z:∀k:NameKind,(k==.cell||k==.free)=true->(relabel scope X.env).names.lookup y=some k->∃c,cl.lookup y=some c:=fun k hk e=>by
   have r:=q _ (PySem.mem_of_lookup e);rw[hk]at r;exact Option.isSome_iff_exists.mp (by simpa using r)
  rcases hy with e | e
  . exact z _ (by rfl) e
  . exact z _ (by rfl) e
 cab:=fun _ _ h _=>nomatch h
 hd:=I3.ok.hd
 frames:=I3.ok.frames
 stk:=.inl rfl
 exf:=fun b hb=>⟨zR0 (hlt b hb),fun y c e=>(hf b hb).2.2.2.2.1 y c (S.cells e)⟩
 bs:=fun b o e=>I3.bs b o e
 bsz:=qB0 I3.ok.bsz I3.sz
 noex:=fun b o e hb=>by
  rcases(hf b hb).2.2.2.1 with z | z
  . exact I3.ok.noex b o e z
  . exact absurd (qH0 (zN0 e) (qB0 I3.ok.bsz z)) (qR0 _)
 exfs:=fun b hb z=>by
  rcases zZ0 (I3.stkSub b z)with e | e
  . exact(hf b hb).2.1 e
  . exact(hf b hb).2.2.1 e
 funs:=I3.stack
 frf:=I3.stkFree
theorem uQ(S:CompScope X x N ix scope cl)(I3:Inv X pins σ H3 s3)(hf:∀b∈fp,gn X pins H3 b)(hlt:∀b∈fp,b<s3.heap.objs.size)(hix:ix.length=N.length){h1:Heap}{t':Nat}{m:Str->Option Value}
 (hn:h1.Ns s3.heap.objs.size m) (hk:∀b o,s3.heap.get? b=some o->h1.get? b=some o):Inv (bK X (x::N) scope cl s3 H3 fp) [] (none::outs ix σ) H3 { s3 with heap:=h1,toks:=t' } where
 ok:=ln S I3 hf hlt
 os:=rfl
 bare:=I3.bare
 base:=Un.kept hk
 loc:=by
  refine⟨m,hn,fun i y v h1' h2 h3=>?_⟩;cases i with
  | zero=>
    have h2':(some (none:Option V))=some (some v):=h2;cases h2'
  | succ j=>
    have h1'':N[j]?=some y:=h1';have h2':(outs ix σ)[j]?=some (some v):=h2;obtain⟨hr,k,c,e1,e2,e3,e4⟩:=S.outs j y h1'';unfold outs at h2';rw[zV0,e1]at h2';have h2'':(σ[k]?).join=some v:=zS0 h2';have e5:σ[k]?=some (some v):=by
     cases q:σ[k]? with
     | none=>rw[q]at h2'';cases h2''
     | some o=>rw[q]at h2'';exact congrArg some h2''
    obtain⟨m0,_,hl⟩:=I3.loc;obtain⟨u,r,l⟩:=hl k y v e2 e5 (.inr (.inl e4));refine⟨u,r,.inr ⟨.inl hr,c,e3,?_⟩⟩;rcases l with⟨kk,_⟩ | ⟨_,c',ec,z⟩
    . have kk':X.env.scope.names.lookup y=some .local:=kk;rw[e4]at kk';cases kk'
    . rw[S.cells e3]at ec;cases ec;obtain⟨o,ho,hd⟩:=z;exact⟨o,hk _ _ ho,hd⟩
 cell:=fun y c e=>by
  obtain⟨v,o,ho,hd⟩:=I3.cell y c (S.cells e);exact⟨v,o,hk _ _ ho,hd⟩
 free:=I3.hok.fresh (zJ0 _)
 freeC:=fun y c e=>I3.freeC y c (S.cells e)
 pin:=fun p hp=>absurd (show p∈([]:List (Addr×Obj))from hp) (by simp)
 hok:=I3.hok.kept hk
 len:=by
  show(none::outs ix σ).length=(x::N).length;rw[qF0,qF0];unfold outs;rw[zH0,hix]
theorem pP(I3:Inv X pins σ H3 s3)(hf:∀b∈fp,gn X pins H3 b){σ':St}{H':Hp}{s':Shared}{h'':Heap}{N':List Str}(J:Inv (bK X N' scope cl s3 H3 fp) [] σ' H' s')(hb:Heap.SameBut s3.heap.objs.size s'.heap h'') :
 Inv X pins σ H' { s' with heap:=h'' }:=by
 have ne:∀b o,s3.heap.get? b=some o->b≠s3.heap.objs.size:=fun b o e=>zR0 (zN0 e)
 have B:Un (frs X.stack) fp H3 H' s3.heap s'.heap:=J.base;refine I3.call' (s':={ s' with heap:=h'' }) (ch:=fp) J.os ⟨fun b o e n h1 h2=>(hb.2 b (ne b o e)).trans (B.keep b o e n h1 h2),fun b o e n h1 h2=>?_,B.free,fun b o e h2=>?_,B.tups,B.frzs,B.tbls⟩ (fun b ob e=>?_) J.bare (fun b z=>?_)
 . obtain⟨sl,q⟩:=B.slot b o e n h1 h2;exact⟨sl,(hb.2 b (ne b o e)).trans q⟩
 . obtain⟨o',q⟩:=B.there b o e h2;exact⟨o',(hb.2 b (ne b o e)).trans q⟩
 . have fr:H' s3.heap.objs.size=none:=J.free;refine(J.hok b ob e).stay (fun c w' hc q=>(hb.2 c ?_).trans q) (fun _ q=>q) fun _ _ q=>q
   rintro rfl;rcases hc with rfl | hc
   . rw[fr]at e;cases e
   . rw[fr]at hc;cases hc
 . obtain⟨_,h2,_,h4,h5,h6⟩:=hf b z;exact⟨h4,h2,h5,h6⟩
end
abbrev TBl:=St->Hp->(Hp->Prop)->VK->Prop
def PB(X:Cx)(ifs:List Expr)(elt:Expr)(tb:TBl):Prop:=
 ∀(pins:List (Addr×Obj))(s:Shared)(σ:St)(H:Hp)(skip:Hp->Prop)(keep:VK),Inv X pins σ H s->tb σ H skip keep ->
  wpAny (model X.prog X.w) X.A (forIn ifs true fun c r=>if r=true then do let ok ←isTrue c X.env (eval c X.env);pure (ForInStep.yield ok)else pure (ForInStep.yield r))
   (fun ok s3=>if ok=true then wpAny (model X.prog X.w) X.A (eval elt X.env) (EP X pins σ keep) X.xe s3 else ∃H',Inv X pins σ H' s3/\skip H') X.xe s
def tB0(te:TE):TBl:=fun σ H _ keep=>te σ H keep
def tB1(tc:TT)(te:TE):TBl:=fun σ H skip keep=>tc σ H fun b H1=>if b=true then te σ H1 keep else skip H1
theorem bQ{X:Cx}{elt:Expr}{te:TE}(he:PE X elt te):PB X [] elt (tB0 te):=by
 intro pins s σ H skip keep I h;refine wpAny_tests_nil ?_;rw[zI0 rfl];exact he pins s σ H keep I h
theorem yY{X:Cx}{c elt:Expr}{tc:TT}{te:TE}(hc:PT X c tc)(he:PE X elt te):PB X [c] elt (tB1 tc te):=by
 intro pins s σ H skip keep I h;refine wpAny_tests_one (thn (hc pins s σ H _ I h) fun b s1 ⟨H1,I1,q1⟩=>?_);cases b with
 | true=>
   rw[zI0 rfl]at q1 ⊢;exact he pins s1 σ H1 keep I1 q1
 | false=>
   rw[zF0 (by decide)]at q1 ⊢;exact⟨H1,I1,q1⟩
def oR(J:It)(D:Addr)(ix:List Nat)(tb:TBl)(σ:St)(H:Hp)(Q:VK):Prop:=∃W:Nat->Nat->Hp->Prop,(∃m,W 0 m (upd H D (.lst [])))/\∀i m H2,W i m H2 ->
 (J.stop i H2/\Q (.ref D) H2)∨(J.go i H2/\∀y H3,J.yld i H2 y H3->tb (some y::outs ix σ) H3 (fun H4=>∃m',m'<m/\W (i+1) m' H4)
  fun z H4=>∃ys,H4 D=some (.lst ys)/\ys.length<sizeLine/\∃m',m'<m/\W (i+1) m' (upd H4 D (.lst (ys++[z]))))
def tI(wi:TI)(ix:List Nat)(tb:TBl):TE:=fun σ H Q=>wi σ H fun J H1=>∀D,H1 D=none->oR J D ix tb σ H1 Q
section
variable {prog:Program} {w:World} {A:Around} {E:Value->Shared->Prop} {R:Result->Shared->Prop} {s:Shared}
theorem jz{elt target iter:Expr}{ifs:List Expr}{scope:Scope}{pos:Pos}{it acc:Value}{env:Env}(I:Nat->Shared->Prop)
 (turn:∀n s,I n s->wpAny (model prog w) A (pyNext it) (fun r s1=>match r with
  | none=>R (.ok .next) s1
  | some v=>wpAny (model prog w) A (letOwnedTupleGo target it v) (fun _ s1'=>wpAny (model prog w) A (assign target env v) (fun _ s2=>
   wpAny (model prog w) A (forIn ifs true fun c r=>if r=true then do let ok ←isTrue c env (eval c env);pure (ForInStep.yield ok)else pure (ForInStep.yield r)) (fun ok s3=>
    if ok=true then wpAny (model prog w) A (eval elt env) (fun x s4=>
     wpAny (model prog w) A (call (.builtin "list.append") [acc,x]) (fun _ s5=>∃m,m<n/\I m s5) (fun _ _=>False) s4) (fun _ _=>False) s3
    else ∃m,m<n/\I m s3) (fun _ _=>False) s2) (fun _ _=>False) s1') (fun _ _=>False) s1) (fun _ _=>False) s)
 (n:Nat) (h:I n s) :
 codeAny (model prog w) A (.compLoop (.ListComp elt [⟨target,iter,ifs,0⟩] scope pos) 0 it acc env) R s:=by
 have up:∀{α:Type}{t:Sem α}{Q Q':α->Shared->Prop}{E':Value->Shared->Prop}{s:Shared},wpAny (model prog w) A t Q (fun _ _=>False) s->(∀a s,Q a s->Q' a s)->wpAny (model prog w) A t Q' E' s:=
  fun h q=>wpAny_mono h q fun _ _ f=>f.elim
 refine codeAny_loop rfl I (fun n s hI=>?_) n h;show wpAny _ A ((compTurn (.ListComp elt [⟨target,iter,ifs,0⟩] scope pos) 0 it acc env).onRaise (fun x=>do noteFrame x env;theTreesLotGoes x)) _ _ s;refine wpAny_noted ?_;rw[compTurn_list];refine zC0 (wpAny_standAt (zC0 (up (turn n s hI) fun r s1 h1=>?_)));cases r with
 | none=>exact zK0 h1
 | some v=>
   refine zC0 (up h1 fun _ s1' h1'=>?_);refine zC0 (up h1' fun _ s2 h2=>zC0 (up h2 fun ok s3 h3=>?_));cases ok with
   | false=>exact zK0 ⟨rfl,h3⟩
   | true=>
     exact zC0 (zC0 (up h3 fun x s4 h4=>zC0 (up h4 fun _ s5 h5=>zK0 (zK0 ⟨rfl,h5⟩))))
end
structure Apart(X:Cx)(pins:List (Addr×Obj))(H:Hp)(C:Addr):Prop where
 fr:H C=none
 lo:C≠X.env.locals
 sz:X.s₀.heap.objs.size<=C
 ce:∀y c,X.env.cells.lookup y=some c->c≠C
 pi:∀p∈X.pn++pins,p.1≠C
theorem Apart.turn{X:Cx}{pins:List (Addr×Obj)}{σ:St}{H:Hp}{C:Addr}{s:Shared}{h':Heap}(a:Apart X pins H C)(I:Inv X pins σ H s)(hs:Heap.SameBut C s.heap h'):Inv X pins σ H { s with heap:=h' }:=
 I.turned (t':=s.toks) (fun b o ne e=>(hs.2 b ne).trans e) a.fr a.lo (.inr a.sz) a.ce a.pi
section
variable {X:Cx} {x:Str} {N:List Str} {ix:List Nat} {scope:Scope} {cl:List (Str×Addr)} {elt iter:Expr} {ifs:List Expr} {px pos:Pos} {wi:TI} {tb:TBl}
theorem sM(hc:X.calm=true)(S:CompScope X x N ix scope cl)(hix:ix.length=N.length)(hb:∀s3 H3 fp,PB (bK X (x::N) scope cl s3 H3 fp) ifs elt tb)
 {pins:List (Addr×Obj)} {s2:Shared} {σ:St} {H2:Hp} {Q:VK} {it:Addr} {fp:List Addr} {tn:Nat->Heap->Prop} {J:It} {RR:Value->Addr->Result->Shared->Prop} {E:Value->Shared->Prop}
 (I2:Inv X pins σ H2 s2) (T:Turn X.prog X.w X.K (.Name x px) J fp it tn) (st2:tn 0 s2.heap) (f2:∀b∈fp,gn X pins H2 b)
 (h:∀D,H2 D=none->∃W:Nat->Nat->Hp->Prop,(∃m,W 0 m (upd H2 D (.lst [])))/\∀i m H3,W i m H3 ->
  (J.stop i H3/\Q (.ref D) H3)∨(J.go i H3/\∀y H4,J.yld i H3 y H4->tb (some y::outs ix σ) H4 (fun H5=>∃m',m'<m/\W (i+1) m' H5)
   fun z H5=>∃ys,H5 D=some (.lst ys)/\ys.length<sizeLine/\∃m',m'<m/\W (i+1) m' (upd H5 D (.lst (ys++[z])))))
 (hRR:∀(D C:Addr)(H':Hp)(s':Shared)(m:Str->Option Value),s'.heap.Ns C m->Apart X pins H' C->Inv X pins σ H' s'->Q (.ref D) H'->RR (.ref D) C (.ok .next) s') :
 wpAny (model X.prog X.w) X.A (newList []) (fun acc s3=>wpAny (model X.prog X.w) X.A (newFunctionEnv scope X.env.globals cl [] X.env.qual none .none (some X.env)) (fun cenv s4=>
  codeAny (model X.prog X.w) X.A (.compStart (.ListComp elt [⟨.Name x px,iter,ifs,0⟩] scope pos) 0 (.ref it) acc { cenv with scope:=relabel scope X.env }) (RR acc cenv.locals) s4) E s3) E s2:=by
 refine wpAny_newObj_type (wpAny_newFunctionEnv S.nocell (by intro y hy;simp at hy) (fun h1 hns1 hsb1=>?_) S.kind)
 dsimp only at hns1 hsb1 ⊢
 have I3:Inv X pins σ (upd H2 s2.heap.objs.size (.lst [])) { s2 with heap:=s2.heap.push { cls:=.type "list",dict:=none,data:=.seq ([]:List Value).toArray } }:=I2.lnew (its:=[]) (ys:=[]) (t':=s2.toks) .nil (qC0 _);have hD:H2 s2.heap.objs.size=none:=I2.fresh;obtain⟨W,⟨m0,w0⟩,turn⟩:=h s2.heap.objs.size hD;have hltF:∀b∈fp,b<s2.heap.objs.size:=fun b hb=>by
  obtain⟨o,e,_⟩:=T.obj 0 _ st2 b hb;exact zN0 e
 generalize hs3:({ s2 with heap:=s2.heap.push { cls:=.type "list",dict:=none,data:=.seq ([]:List Value).toArray } }:Shared)=s3 at I3;have eh:s2.heap.push { cls:=.type "list",dict:=none,data:=.seq ([]:List Value).toArray }=s3.heap:=by rw[←hs3]
 have et:s2.toks=s3.toks:=by rw[←hs3]
 rw[eh]at hns1 hsb1 ⊢;have sz3:s3.heap.objs.size=s2.heap.objs.size+1:=by rw[←eh,Heap.size_push]
 have hlt3:∀b∈fp,b<s3.heap.objs.size:=fun b hb=>qH0 (hltF b hb) (by rw[sz3];exact qI0 _)
 have f3:∀b∈fp,gn X pins (upd H2 s2.heap.objs.size (.lst [])) b:=fun b hb=>by
  obtain⟨q1,q2⟩:=f2 b hb;exact⟨by rw[am (zR0 (hltF b hb))];exact q1,q2⟩
 have up:∀b o,s3.heap.get? b=some o->h1.get? b=some o:=fun b o e=>hsb1.extBut b o (zR0 (zN0 e)) (zQ0 _ e)
 have old:∀b o,s2.heap.get? b=some o->h1.get? b=some o:=fun b o e=>up b o (by rw[←eh];exact zQ0 _ e)
 have es:({ s2 with heap:=h1,toks:=s2.toks+([]:List (Str×Value)).length }:Shared)={ s3 with heap:=h1,toks:=s2.toks+([]:List (Str×Value)).length }:=by rw[←hs3]
 rw [es];have I4:Inv (bK X (x::N) scope cl s3 (upd H2 s2.heap.objs.size (.lst [])) fp) [] (none::outs ix σ) (upd H2 s2.heap.objs.size (.lst [])) { s3 with heap:=h1,toks:=s2.toks+([]:List (Str×Value)).length }:=
  uQ S I3 f3 hlt3 hix hns1 up
 have st4:tn 0 h1:=T.keep 0 _ _ st2 fun b _ o e=>old b o e
 have loop:codeAny (model X.prog X.w) X.A (.compLoop (.ListComp elt [⟨.Name x px,iter,ifs,0⟩] scope pos) 0 (.ref it) (.ref s2.heap.objs.size) (compEnvC scope cl s3.heap.objs.size X.env)) (RR (.ref s2.heap.objs.size) s3.heap.objs.size)
  { s3 with heap:=h1,toks:=s2.toks+([]:List (Str×Value)).length }:=by
  refine jz (fun n s'=>∃i v0 H',Inv (bK X (x::N) scope cl s3 (upd H2 s2.heap.objs.size (.lst [])) fp) [] (v0::outs ix σ) H' s'/\tn i s'.heap/\(∀b∈fp,H' b=none)/\W i n H') ?_ m0 ⟨0,none,_,I4,st4,fun b hb=>(f3 b hb).1,w0⟩;rintro n s5 ⟨i,v0,H5,I5,st5,fr5,w5⟩;have stat:∀{H':Hp},(∀b∈fp,H' b=none)->∀b∈fp,gn (bK X (x::N) scope cl s3 (upd H2 s2.heap.objs.size (.lst [])) fp) [] H' b:=fun hn b hb=>
   ⟨hn b hb,((ln S I3 f3 hlt3).exf b hb).1,(ln S I3 f3 hlt3).exfs b hb,.inl hb,((ln S I3 f3 hlt3).exf b hb).2,fun p hp=>absurd (show p∈([]:List (Addr×Obj))from hp) (by simp)⟩
  rcases turn i n H5 w5 with⟨stop,qn⟩ | ⟨go,step⟩
  . refine thn (T.done (bK X (x::N) scope cl s3 (upd H2 s2.heap.objs.size (.lst [])) fp) rfl rfl rfl hc i [] s5 _ H5 _ I5 (stat fr5) st5 stop) fun r s6 ⟨hr,I6⟩=>?_
    subst hr;obtain⟨m6,hn6,_⟩:=I6.loc;exact hRR _ _ H5 s6 m6 hn6 ⟨I6.free,Ne.symm (zR0 I3.lt),I3.sz,fun y c e z=>by
     obtain⟨v,q⟩:=I3.cell y c e;exact absurd q.lt (by rw[z];exact qR0 _),fun p hp z=>absurd (zN0 (I3.pin p hp).1) (by rw[z];exact qR0 _)⟩ (pP I3 f3 I6 (Heap.SameBut.refl _ _)) qn
  . refine thn (T.item (bK X (x::N) scope cl s3 (upd H2 s2.heap.objs.size (.lst [])) fp) rfl rfl rfl hc i [] s5 _ H5 _ I5 (stat fr5) st5 go) fun r s6 ⟨u,hr,h6⟩=>?_
    subst hr;refine thn h6 fun _ s7 ⟨y,H7,I7,r7,y7,st7,fr7⟩=>?_
    have I7':=I7.pinned (stat fr7) (T.obj _ _ st7);refine wpAny_assign_Name (kD (i:=0) I7' S.nd rfl (.inl (lookup_relabel_local S.own)) r7 (fun s8 I8=>?_) (.inr (lookup_relabel_local S.own)));have I8':Inv (bK X (x::N) scope cl s3 (upd H2 s2.heap.objs.size (.lst [])) fp) ([]++iS fp s7.heap) (some y::outs ix σ) H7 s8:=I8;have again:∀{v9:Option V}{H9:Hp}{s9:Shared},Inv (bK X (x::N) scope cl s3 (upd H2 s2.heap.objs.size (.lst [])) fp) ([]++iS fp s7.heap) (v9::outs ix σ) H9 s9->(∃m',m'<n/\W (i+1) m' H9) ->
     ∃m,m<n/\∃i v0 H',Inv (bK X (x::N) scope cl s3 (upd H2 s2.heap.objs.size (.lst [])) fp) [] (v0::outs ix σ) H' s9/\tn i s9.heap/\(∀b∈fp,H' b=none)/\W i m H':=fun{v9 H9 s9} I9 ⟨m',hm,w9⟩=>by
     refine⟨m',hm,i+1,v9,H9,I9.unpinned,T.keep _ _ _ st7 fun b hb o e=>(I9.pin (b,o) (qN0 _ (qN0 _ (cV hb e)))).1,fun b hb=>?_,w9⟩;obtain⟨o,e,d⟩:=T.obj _ _ st7 b hb;exact(I9.pin (b,o) (qN0 _ (qN0 _ (cV hb e)))).2.1
    refine thn (hb s3 (upd H2 s2.heap.objs.size (.lst [])) fp _ s8 _ H7 _ _ I8' (step y H7 y7)) fun ok s9 q9=>?_
    cases ok with
    | false=>
      rw[zF0 (by decide)]at q9 ⊢;obtain⟨H9,I9,q9⟩:=q9;exact again I9 q9
    | true=>
      rw[zI0 rfl]at q9 ⊢;refine thn q9 fun u s10 ⟨z,H10,I10,r10,ys,hy,hz,q10⟩=>?_
      refine thn (bi _ s10 _ H10 (.ref s2.heap.objs.size) [z] (.ref s2.heap.objs.size) [u] (fun _ H'=>∃m',m'<n/\W (i+1) m' H') I10 rfl (.cons r10 .nil) ⟨_,ys,z,rfl,rfl,hy,hz,q10⟩) fun _ s11 ⟨_,H11,I11,_,q11⟩=>?_
      exact again I11 q11
 exact codeAny_compStart_list loop (T.self _ 0 _ _ _ st4 loop)
theorem bX(hc:X.calm=true)(S:CompScope X x N ix scope cl)(hix:ix.length=N.length)(hi:PI X (.Name x px) iter wi)(hb:∀s3 H3 fp,PB (bK X (x::N) scope cl s3 H3 fp) ifs elt tb)
 (hs:∀x,foldedSetIterable iter X.env x=pure x:=by intro _;rfl):PE X (.ListComp elt [⟨.Name x px,iter,ifs,0⟩] scope pos) (tI wi ix tb):=by
 intro pins s σ H Q I h;rw[eval_ListComp];refine wpAny_comprehension_free (use:=none) rfl hs S.clos S.kind S.names (thn (hi pins s σ H _ I h) fun xv s1 h1=>thn h1 fun itv s2 h2=>?_);obtain⟨it,fp,tn,J,H2,rfl,I2,T,st2,f2,R⟩:=h2;refine sM hc S hix hb (RR:=fun acc C=>compPost (model X.prog X.w) X.A X.xe none (EP X pins σ Q) acc C) I2 T st2 f2 R ?_;intro D C H' s' m hn ap I' q;exact⟨m,hn,fun h'' hb''=>⟨.ref D,H',ap.turn I' hb'',rfl,q⟩⟩
theorem jS{i:Nat}{y:Str}{py spos:Pos}(hN:X.N.Nodup)(hi0:X.N[i]?=some y)(hx:Loc X.env.scope y)(hc:X.calm=true)(S:CompScope X x N ix scope cl)(hix:ix.length=N.length)(hi:PI X (.Name x px) iter wi)(hb:∀s3 H3 fp,PB (bK X (x::N) scope cl s3 H3 fp) ifs elt tb)
 (hsw:swapsWith (.ListComp elt [⟨.Name x px,iter,ifs,0⟩] scope pos) (some (.Name y py)) spos.line X.env=pure true:=by with_unfolding_all rfl)
 (hs:∀x,foldedSetIterable iter X.env x=pure x:=by intro _;rfl) (hf:X.fn y=true∨X.env.scope.names.lookup y=some .local:=by first | exact .inl rfl | exact .inr rfl | assumption) :
 PS X (.Assign [.Name y py] (.ListComp elt [⟨.Name x px,iter,ifs,0⟩] scope pos) spos) (fun D σ H=>tI wi ix tb σ H fun v H'=>D.nx (σ.set i (some v)) H'):=by
 intro pins s σ H Dn I h;rw[exec_Assign_Name_used _ _ _ _ hsw];refine zC0 (wpAny_standAt (zC0 ?_));show wpAny _ X.A (do let _ ←comprehension (.ListComp elt [⟨.Name x px,iter,ifs,0⟩] scope pos) scope X.env _ (newList []) false (eval iter X.env) (some (assign (.Name y py) X.env))) _ _ s;refine zC0 (wpAny_mono (wpAny_comprehension_free (use:=some (assign (.Name y py) X.env)) (Q:=fun _ s'=>SP X pins Dn .next s') rfl hs S.clos S.kind S.names
  (thn (hi pins s σ H _ I h) fun xv s1 h1=>thn h1 fun itv s2 h2=>?_)) (fun _ s' hq=>zK0 (zK0 hq)) fun _ _ e=>e)
 obtain ⟨it,fp,tn,J,H2,rfl,I2,T,st2,f2,R⟩:=h2;refine sM hc S hix hb (RR:=fun acc C=>compPost (model X.prog X.w) X.A X.xe (some (assign (.Name y py) X.env)) (fun _ s'=>SP X pins Dn .next s') acc C) (Q:=fun v H'=>Dn.nx (σ.set i (some v)) H') I2 T st2 f2 R ?_;intro D C H' s' m hn ap I' q;show wpAny _ X.A (assign (.Name y py) X.env (.ref D)) _ _ _;refine wpAny_assign_Name (pk I' hN hi0 hx (v:=.ref D) rfl (fun s'' I'' hsb=>?_) hf);obtain⟨a,hsb,ha⟩:=hsb;have ne:C≠a:=by
  rcases ha with z | z
  . rw[z];exact ap.lo
  . exact Ne.symm (ap.ce y a z)
 exact⟨m,hn.sameBut hsb ne,fun h'' hb''=>⟨_,H',ap.turn I'' hb'',q⟩⟩
end
section
variable {X:Cx} {pins:List (Addr×Obj)} {σ:St} {H:Hp} {s:Shared} {h':Heap}
theorem Inv.turnedNew{t':Nat}{ch:List Addr}{T:Addr}{o:HO}(I:Inv X pins σ H s)(k:∀b u,b∉ch->s.heap.get? b=some u->h'.get? b=some u)(hf:∀b∈ch,gn X pins H b)(hT:s.heap.objs.size<=T)
 (new:ObjOk X.prog X.w (upd H T o) h' T o):Inv X pins σ (upd H T o) { s with heap:=h',toks:=t' }:=by
 have nit:∀b u,H b=some u->b∉ch:=fun b u e z=>by rw[(hf b z).1]at e;cases e
 have hn:H T=none:=I.hok.fresh hT;have lt:∀b u,s.heap.get? b=some u->b≠T:=fun b u e=>zR0 (qH0 (zN0 e) hT)
 refine I.step (g':=s.gens) (d':=s.drawn) (ch:=ch) (fun b hb=>?_) (fun b u _ _ hc e _=>k b u hc e) (fun b u _ _ hc e _=>⟨u.slots,k b u hc e⟩) (fun b u _ e n=>by rw[am (lt b u e)];exact n) (fun b u hc e=>⟨u,k b u hc e⟩)
  (fun b xs e=>by rw[am (aO e hn)];exact e) (fun b ob u e=>by rw[am (aO e hn)];exact e) (fun b ps e=>⟨#[],by rw[am (aO e hn),e];simp⟩) (fun m hm=>?_) (fun b u e=>?_) I.bare
 . obtain⟨_,h2,_,h4,h5,h6⟩:=hf b hb;exact⟨h4,h2,h5,h6⟩
 . obtain⟨ob,es,ep,ho,r⟩:=hm;exact⟨ob,es,ep,k _ ob (fun z=>(hf _ z).2.1 rfl) ho,r⟩
 . by_cases hb:b=T
   . subst hb;rw[aE]at e;cases e;exact new
   . rw [am hb]at e;refine(I.hok b u e).stay (fun c v hc q=>k c v ?_ q) (fun c q=>by rw[am (aO q hn)];exact q) fun c xs q=>by rw[am (aO q hn)];exact q
     rcases hc with z | z
     . rw[z];exact nit b u e
     . exact nit c _ z
theorem Inv.turnedL{t':Nat}{ch:List Addr}(I:Inv X pins σ H s)(k:∀b u,b∉ch->s.heap.get? b=some u->h'.get? b=some u)(hf:∀b∈ch,gn X pins H b):Inv X pins σ H { s with heap:=h',toks:=t' }:=by
 have nit:∀b u,H b=some u->b∉ch:=fun b u e z=>by rw[(hf b z).1]at e;cases e
 refine I.step (g':=s.gens) (d':=s.drawn) (ch:=ch) (fun b hb=>?_) (fun b u _ _ hc e _=>k b u hc e) (fun b u _ _ hc e _=>⟨u.slots,k b u hc e⟩) (fun _ _ _ _ n=>n) (fun b u hc e=>⟨u,k b u hc e⟩)
  (fun _ _ e=>e) (fun _ _ _ e=>e) (fun b ps e=>⟨#[],by rw[e];simp⟩) (fun m hm=>?_) (fun b u e=>?_) I.bare
 . obtain⟨_,h2,_,h4,h5,h6⟩:=hf b hb;exact⟨h4,h2,h5,h6⟩
 . obtain⟨ob,es,ep,ho,r⟩:=hm;exact⟨ob,es,ep,k _ ob (fun z=>(hf _ z).2.1 rfl) ho,r⟩
 . refine (I.hok b u e).stay (fun c v hc q=>k c v ?_ q) (fun _ q=>q) fun _ _ q=>q
   rcases hc with z | z
   . rw[z];exact nit b u e
   . exact nit c _ z
end
def Ite(K:W.Frag)(a:Addr):It:=
 ⟨fun i H=>∃xs x,SqL K H a xs/\xs[i]?=some x,fun i H y H'=>∃t,y=.ref t/\H t=none/\∀xs x,SqL K H a xs->xs[i]?=some x->H'=upd H t (.tup [.int i,x]),fun i H=>∃xs,SqL K H a xs/\xs.length<=i⟩
theorem wg{P:Program}{w:World}{K:W.Frag}{elts:List Expr}{k:Nat}{pos:Pos}(a e it:Addr)(hei:e≠it) :
 Turn P w K (.Tuple elts k pos) (Ite K a) [e,it] e (fun i h=>(∃old,IsEnum h e it i old)/\h.IsListIter it a i) where
 mem:=by simp
 obj:=fun i h st b hb=>by
  obtain⟨⟨old,he⟩,o,e2,c,d⟩:=st;rcases zZ0 hb with z | z
  . subst z;exact⟨_,he,fun v z=>nomatch z⟩
  . have z':=zP0 z;subst z';exact⟨o,e2,fun v z=>by rw[d]at z;cases z⟩
 keep:=fun i h h' st k=>by
  obtain⟨⟨old,he⟩,hit⟩:=st;exact⟨⟨old,k e (by simp) _ he⟩,hit.at fun o x=>k it (by simp) o x⟩
 item:=by
  intro X hP hw hK hc i pins s σ H E I hf st hg;subst hP hw hK;obtain⟨xs,x,hq,hx⟩:=hg;obtain⟨its,rv,p,hz⟩:=I.list hq;obtain⟨u,hu,ru⟩:=rv.get hx;obtain⟨⟨old,he⟩,hit⟩:=st;refine wpAny_pyNext_enum_item he hit p.isList (x:=u) (by simpa using hu) hei fun h1 ho hit1 hT hsz hk=>?_
  refine ⟨_,rfl,wpAny_letOwnedTupleGo_enum ho fun h2 he2 hs2=>?_⟩;have elt:e<s.heap.objs.size:=zN0 he;have hT2:h2.get? s.heap.objs.size=some { cls:=.type "tuple",data:=.seq #[.int i s.toks,u] }:=(hs2.2 _ (Ne.symm (zR0 elt))).trans hT;have I2:Inv X pins σ (upd H s.heap.objs.size (.tup [.int i,x])) { s with heap:=h2,toks:=s.toks+1 }:=by
   refine I.turnedNew (ch:=[e,it]) (fun b ob hb eb=>?_) hf (zJ0 _) ⟨by show 2<=sizeLine;decide,[.int i s.toks,u],.cons ⟨_,rfl⟩ (.cons ru .nil),⟨_,hT2,rfl,_,rfl⟩,_,hT2,rfl⟩;have b1:b≠e:=fun z=>hb (by simp [z])
   have b2:b≠it:=fun z=>hb (by simp [z])
   exact(hs2.2 b b1).trans (hk b ob b1 b2 eb)
  refine⟨.ref s.heap.objs.size,_,I2,rfl,⟨_,rfl,I.hok.fresh (zJ0 _),fun ys y hy hyi=>?_⟩,⟨⟨u,by simpa using he2⟩,hit1.at fun o z=>(hs2.2 it (Ne.symm hei)).trans z⟩,fun b hb=>?_⟩
  . have e1:=I.list_inj hy hq;subst e1;rw[hx]at hyi;cases hyi;rfl
  . have z:=hf b hb;have hlt:b<s.heap.objs.size:=by
     rcases zZ0 hb with y | y
     . rw[y];exact elt
     . rw[zP0 y];obtain⟨o,e2,_⟩:=hit;exact zN0 e2
    rw[am (zR0 hlt)];exact z.1
 done:=by
  intro X hP hw hK hc i pins s σ H E I hf st hg;subst hP hw hK;obtain⟨xs,hq,hx⟩:=hg;obtain⟨its,rv,p,hz⟩:=I.list hq;obtain⟨⟨old,he⟩,hit⟩:=st;have hl:=rv.length;exact wpAny_pyNext_enum_end (I.ok.hd hc) he hit p.isList (Array.getElem?_eq_none (by simp;omega)) fun h' eb=>⟨rfl,I.turnedL (t':=s.toks) (ch:=[e,it]) (fun b o hb eo=>eb b o (fun z=>hb (by simp [z])) eo) hf⟩
 self:=fun _ _ _ _ _ st h=>by
  obtain⟨⟨old,he⟩,_⟩:=st;exact wpAny_pyIter_enum he h
section
variable {X:Cx} {elts:List Expr} {k:Nat} {tpos:Pos}
def iEnum(K:W.Frag)(tl:TE):TI:=fun σ H R=>tl σ H fun x H1=>∃a,x=.ref a/\(∃xs,SqL K H1 a xs)/\R (Ite K a) H1
theorem Ba {l:Expr} {tl:TE} {p pos:Pos} (hg:Gl X "enumerate") (hm:X.mg "enumerate"=none) (hl:PE X l tl) (hs:starEach [l] X.env=[(false,eval l X.env)]:=by rfl) :
 PI X (.Tuple elts k tpos) (.Call (.Name "enumerate" p) [l] [] pos) (iEnum X.K tl):=by
 intro pins s σ H R I h;refine Call_ (gj I hg hm boot_enumerate (PyProof.Rows.callWith_type1 ?_ hs rfl));rw[hs];show wpAny _ _ (spliced ((false,eval l X.env)::backTo pos (starEach [] X.env))) _ _ s;refine Calls.spliced_cons (thn (hl pins s σ H _ I h) fun u s1 ⟨x,H1,I1,r1,a,ex,⟨xs,hq⟩,q⟩=>?_);subst ex;cases r1;obtain⟨its,rv,p,hz⟩:=I1.list hq;refine Calls.spliced_nil ?_;refine call_enumerate_list p.isList fun h' he hit hsz hk=>?_
 refine wpAny_pyIter_enum he ?_;have I2:Inv X pins σ H1 { s1 with heap:=h' }:=I1.kept (t':=s1.toks) hk;refine⟨s1.heap.objs.size+1,[s1.heap.objs.size+1,s1.heap.objs.size],_,_,H1,rfl,I2,wg a _ _ (qS0 (Nat.lt_succ_self _)),⟨⟨_,he⟩,hit⟩,fun b hb=>?_,q⟩;rcases zZ0 hb with z | z
 . rw[z];exact I1.fpOk (qI0 _) (I1.hok.fresh (qI0 _))
 . rw[zP0 z];exact I1.fpOk (zJ0 _) (I1.hok.fresh (zJ0 _))
end
theorem zZ{K:W.Frag}{a:Addr}{xs:List V}{g:TG}{tb:TS}{D:Ends}{σ:St}{H:Hp}(Pv:Nat->St->Hp->Prop)(h0:Pv 0 σ H)(hl:∀i σ H,i<=xs.length->Pv i σ H->SqL K H a xs)
 (hs:∀i x σ H t,xs[i]?=some x->Pv i σ H->H t=none->g (.ref t) σ (upd H t (.tup [.int i,x])) fun σ2 H2=>tb { D with nx:=Pv (i+1),ct:=Pv (i+1),bk:=D.nx } σ2 H2) (hd:∀ σ H,Pv xs.length σ H->D.nx σ H) :
 ∃ W:Nat->Nat->St->Hp->Prop,(∃m,W 0 m σ H)/\∀i m σ H,W i m σ H ->
  ((Ite K a).stop i H/\D.nx σ H)∨((Ite K a).go i H/\∃N:St->Hp->Prop,(∀ σ' H',N σ' H'->∃m',m'<m/\W (i+1) m' σ' H')/\∀x H',(Ite K a).yld i H x H'->g x σ H' fun σ2 H2=>tb { D with nx:=N,ct:=N,bk:=D.nx } σ2 H2):=by
 refine⟨fun i m σ H=>m=xs.length-i/\i<=xs.length/\Pv i σ H,⟨xs.length,by simp,qC0 _,h0⟩,?_⟩;rintro i m σ H ⟨rfl,hi,p⟩;have q:=hl i σ H hi p
 by_cases hlt:i<xs.length
 . refine .inr ⟨⟨xs,xs[i],q,by simp [hlt]⟩,Pv (i+1),fun σ' H' p'=>⟨xs.length-(i+1),by omega,rfl,hlt,p'⟩,fun x H' y=>?_⟩;obtain⟨t,rfl,ht,e⟩:=y;have e':=e xs xs[i] q (by simp [hlt]);subst e';exact hs i xs[i] σ H t (by simp [hlt]) p ht
 . have e:i=xs.length:=by omega
   subst e;exact .inl ⟨⟨xs,q,zJ0 _⟩,hd σ H p⟩
mutual
inductive Rep(K:W.Frag)(H:Hp):V->PyData->Prop
 | non:Rep K H .non .none
 | bl (b:Bool):Rep K H (.bl b) (.bool b)
 | int (i:Int):Rep K H (.int i) (.int i)
 | str (x:Str):Rep K H (.str x) (.str x)
 | tup {a:Addr} {xs:List V} {ds:List PyData}:SqT K H a xs->RepAll K H xs ds->Rep K H (.ref a) (.tuple ds)
 | lst {a:Addr} {xs:List V} {ds:List PyData}:SqL K H a xs->RepAll K H xs ds->Rep K H (.ref a) (.list ds)
inductive RepAll(K:W.Frag)(H:Hp):List V->List PyData->Prop
 | nil:RepAll K H [] []
 | cons {x:V} {d:PyData} {xs:List V} {ds:List PyData}:Rep K H x d->RepAll K H xs ds->RepAll K H (x::xs) (d::ds)
end
section
variable {X:Cx} {pins:List (Addr×Obj)} {σ:St} {H:Hp} {s:Shared}
mutual
theorem Rep.reads(I:Inv X pins σ H s):∀{x:V}{d:PyData}{v:Value},Rep X.K H x d->RelV x v->∃as,Reads s.heap v d as
 | _,_,v,.non,r=>by cases(show v=Value.none from r);exact⟨_,Reads.none⟩
 | _,_,v,.bl b,r=>by cases(show v=Value.bool b from r);exact⟨_,Reads.bool b⟩
 | _,_,v,.int i,r=>by obtain⟨t,e⟩:=(show ∃t,v=Value.int i t from r);cases e;exact⟨_,Reads.int i t⟩
 | _,_,v,.str x,r=>by obtain⟨t,e⟩:=(show ∃t,v=Value.str x t from r);cases e;exact⟨_,Reads.str x t⟩
 | _,_,v,.tup (a:=a) h q,r=>by
   cases(show v=Value.ref a from r);obtain⟨its,rv,⟨o,ho,hc,n,hd⟩,_⟩:=I.tuple h;obtain⟨as,z⟩:=RepAll.reads I q rv;exact⟨_,reads_tuple_at ho hc hd (by simpa using z)⟩
 | _,_,v,.lst (a:=a) h q,r=>by
   cases(show v=Value.ref a from r);obtain⟨its,rv,⟨o,n,ho,hc,_,hd⟩,_⟩:=I.list h;obtain⟨as,z⟩:=RepAll.reads I q rv;exact⟨_,reads_list_at ho hc hd (by simpa using z)⟩
theorem RepAll.reads(I:Inv X pins σ H s):∀{xs:List V}{ds:List PyData}{vs:List Value},RepAll X.K H xs ds->Vals xs vs->∃as,ReadsAll s.heap vs ds as
 | _,_,_,.nil,.nil=>⟨_,ReadsAll.nil⟩
 | _,_,_,.cons h q,.cons r rs=>by
   obtain⟨as,z⟩:=Rep.reads I h r;obtain⟨bs,y⟩:=RepAll.reads I q rs;exact⟨_,ReadsAll.cons z y⟩
end
end
theorem cG{K:W.Frag}{H:Hp}:∀ns:List Int,RepAll K H (ns.map V.int) (ns.map PyData.int)
 | []=>.nil
 | n::r=>.cons (.int n) (cG r)
section
variable {X:Cx}
def rEqD(K:W.Frag):R2:=fun x y H Q=>∃d e,Rep K H x d/\Rep K H y e/\SeqAt.shaped d=true/\SeqAt.shaped e=true/\Q (.bl (PyData.eqv d e)) H
def rNeD(K:W.Frag):R2:=fun x y H Q=>∃d e,Rep K H x d/\Rep K H y e/\SeqAt.shaped d=true/\SeqAt.shaped e=true/\Q (.bl (!PyData.eqv d e)) H
theorem zk(hu:X.A.units+64<cLine):OpR X (compareOp .Eq) (rEqD X.K):=by
 intro pins s σ H x y v u Q I rx ry h;obtain⟨d,e,hd,he,sd,se,q⟩:=h;obtain⟨as,r1⟩:=Rep.reads I hd rx;obtain⟨bs,r2⟩:=Rep.reads I he ry;exact eq_dataH r1 r2 sd se hu ⟨.bl _,H,I,rfl,q⟩
theorem qt(hu:X.A.units+64<cLine):OpR X (compareOp .NotEq) (rNeD X.K):=by
 intro pins s σ H x y v u Q I rx ry h;obtain⟨d,e,hd,he,sd,se,q⟩:=h;obtain⟨as,r1⟩:=Rep.reads I hd rx;obtain⟨bs,r2⟩:=Rep.reads I he ry;exact ne_dataH r1 r2 sd se hu ⟨.bl _,H,I,rfl,q⟩
def nW(K:W.Frag):R2:=fun x y H Q=>∃a b ys,x=.ref a/\y=.ref b/\SqT K H a []/\SqT K H b ys/\Q (.ref b) H
theorem oi:OpR X (binaryOp .Add) (nW X.K):=by
 intro pins s σ H x y v u Q I rx ry h;obtain⟨a,b,ys,rfl,rfl,ha,hb,q⟩:=h;cases rx;cases ry;obtain⟨its,r1,p1,_⟩:=I.tuple ha;obtain⟨its2,r2,p2,_⟩:=I.tuple hb;obtain⟨⟨cls,dd,data,sl⟩,ho,hc,n,hd⟩:=id p1;obtain⟨⟨cls2,dd2,data2,sl2⟩,ho2,hc2,n2,hd2⟩:=id p2;simp only at hc hd hc2 hd2;subst hc hd hc2 hd2;have e:its=[]:=r1.nil_iff.mpr rfl;exact concat_meets ⟨_,ho,rfl⟩ ⟨_,ho2,rfl⟩ noFill_tuple_add seq_tuple_add PySem.F.slot_tuple_add PySem.F.entry_tuple_add (PySem.F.args_tuple_add_2 _ _)
  (tuple_addW0 a b its.toArray its2.toArray n n2 dd dd2 sl sl2 (by simp [e])) ⟨ho,ho2,⟨.ref b,H,I,rfl,q⟩⟩
end
def Nx(n i:Nat)(Pv:Nat->Hp->Prop)(H:Hp):Prop:=∃m',m'<n-i/\(m'=n-(i+1)/\i+1<=n/\Pv (i+1) H)
theorem Nx.of{n i:Nat}{Pv:Nat->Hp->Prop}{H:Hp}(h:i<n)(p:Pv (i+1) H):Nx n i Pv H:=⟨n-(i+1),by omega,rfl,h,p⟩
theorem iH{K:W.Frag}{a D:Addr}{xs:List V}{ix:List Nat}{tb:TBl}{σ:St}{H:Hp}{Q:VK}(Pv:Nat->Hp->Prop)(h0:Pv 0 (upd H D (.lst [])))(hl:∀i H,i<=xs.length->Pv i H->SqT K H a xs)
 (hs:∀i x H,xs[i]?=some x->Pv i H->tb (some x::outs ix σ) H (Nx xs.length i Pv) fun z H'=>∃ys,H' D=some (.lst ys)/\ys.length<sizeLine/\Nx xs.length i Pv (upd H' D (.lst (ys++[z])))) (hd:∀H,Pv xs.length H->Q (.ref D) H) :
 oR (Itt K a) D ix tb σ H Q:=by
 refine⟨fun i m H=>m=xs.length-i/\i<=xs.length/\Pv i H,⟨xs.length,by simp,qC0 _,h0⟩,?_⟩;rintro i m H ⟨rfl,hi,p⟩;have q:=hl i H hi p
 by_cases hlt:i<xs.length
 . refine .inr ⟨⟨xs,xs[i],q,by simp [hlt]⟩,fun x H' y=>?_⟩;obtain⟨e,y⟩:=y;subst e;exact hs i x _ (y xs q) p
 . have e:i=xs.length:=by omega
   subst e;exact .inl ⟨⟨xs,q,zJ0 _⟩,hd H p⟩
theorem cL{K:W.Frag}{a D:Addr}{xs:List V}{ix:List Nat}{tb:TBl}{σ:St}{H:Hp}{Q:VK}(Pv:Nat->Hp->Prop)(h0:Pv 0 (upd H D (.lst [])))(hl:∀i H,i<=xs.length->Pv i H->SqL K H a xs)
 (hs:∀i x H,xs[i]?=some x->Pv i H->tb (some x::outs ix σ) H (Nx xs.length i Pv) fun z H'=>∃ys,H' D=some (.lst ys)/\ys.length<sizeLine/\Nx xs.length i Pv (upd H' D (.lst (ys++[z])))) (hd:∀H,Pv xs.length H->Q (.ref D) H) :
 oR (Itl K a) D ix tb σ H Q:=by
 refine⟨fun i m H=>m=xs.length-i/\i<=xs.length/\Pv i H,⟨xs.length,by simp,qC0 _,h0⟩,?_⟩;rintro i m H ⟨rfl,hi,p⟩;have q:=hl i H hi p
 by_cases hlt:i<xs.length
 . refine .inr ⟨⟨xs,xs[i],q,by simp [hlt]⟩,fun x H' y=>?_⟩;obtain⟨e,y⟩:=y;subst e;exact hs i x _ (y xs q) p
 . have e:i=xs.length:=by omega
   subst e;exact .inl ⟨⟨xs,q,zJ0 _⟩,hd H p⟩
theorem cX{lo:Int}{n:Nat}{D:Addr}{ix:List Nat}{tb:TBl}{σ:St}{H:Hp}{Q:VK}(Pv:Nat->Hp->Prop)(h0:Pv 0 (upd H D (.lst [])))
 (hs:∀i H,i<n->Pv i H->tb (some (.int (lo+i))::outs ix σ) H (Nx n i Pv) fun z H'=>∃ys,H' D=some (.lst ys)/\ys.length<sizeLine/\Nx n i Pv (upd H' D (.lst (ys++[z])))) (hd:∀H,Pv n H->Q (.ref D) H) :
 oR (Itr lo n) D ix tb σ H Q:=by
 refine⟨fun i m H=>m=n-i/\i<=n/\Pv i H,⟨n,by simp,qC0 _,h0⟩,?_⟩;rintro i m H ⟨rfl,hi,p⟩
 by_cases hlt:i<n
 . refine .inr ⟨hlt,fun x H' y=>?_⟩;obtain⟨e,y⟩:=y;subst e y;exact hs i _ hlt p
 . have e:i=n:=by omega
   subst e;exact .inl ⟨zJ0 _,hd H p⟩
theorem CompScope.closed{X:Cx}{x:Str}{scope:Scope}(c1:closureFor scope X.env=pure [])(c2:∀y∈scope.names,y.2≠.cell)(c3:scope.kind=.function)(c4:∀y∈scope.names,y.2=.local->scope.names.lookup y.1=some .local)
 (c5:scope.names.lookup x=some .local) (c6:((relabel scope X.env).names.all fun p=>!(p.2==.cell||p.2==.free)||((([]:List (Str×Addr))).lookup p.1).isSome)=true):CompScope X x [] [] scope [] where
 clos:=c1
 nocell:=c2
 kind:=c3
 names:=c4
 own:=c5
 nd:=by simp
 sub:=fun p hp=>absurd hp (by simp)
 has:=c6
 outs:=fun j y h=>by simp at h
section
variable {X:Cx}
theorem oz(K:W.Frag)(hK:X.K=K:=by rfl):IxR X (AR K):=by subst hK;exact ix_list
theorem ni(K:W.Frag)(hK:X.K=K:=by rfl):IxR X (yI K):=by subst hK;exact aB
end
section
variable {X:Cx}
def rSlS:V->Option Int->Option Int->Hp->VK->Prop:=fun x lo hi H Q=>∃z,x=.str z/\z.length<=sizeLine/\Q (.str (Txt.slice z lo hi)) H
theorem yx:SlR X rSlS:=by
 intro pins s σ H x v vl vu lo hi sl Q I rx hs pl pu h;obtain⟨z,rfl,hz,q⟩:=h;obtain⟨t,rfl⟩:=rx;refine⟨"str",_,F.slot_str_getitem.lookup,typeIs_str _ _ _,?_⟩;have fin:∀t' k,EP X pins σ Q (.str (Txt.slice z lo hi) t') { s with toks:=k }:=fun t' k=>⟨.str _,H,I.tok k,⟨_,rfl⟩,q⟩
 obtain⟨o,ho,hc,hd⟩:=hs;cases pl with
 | none=>
   cases pu with
   | none=>exact wpAny_getItem_str_slice (l:=none) (u:=none) (st:=none) ⟨o,ho,hc,hd⟩ rfl (post_val_or_str ⟨qB0 (Txt.slice_le z _ _) hz,fin⟩)
   | int j u=>exact wpAny_getItem_str_slice (l:=none) (u:=some (j,u)) (st:=none) ⟨o,ho,hc,hd⟩ rfl (post_val_or_str ⟨qB0 (Txt.slice_le z _ _) hz,fin⟩)
 | int i u'=>
   cases pu with
   | none=>exact wpAny_getItem_str_slice (l:=some (i,u')) (u:=none) (st:=none) ⟨o,ho,hc,hd⟩ rfl (post_val_or_str ⟨qB0 (Txt.slice_le z _ _) hz,fin⟩)
   | int j u=>exact wpAny_getItem_str_slice (l:=some (i,u')) (u:=some (j,u)) (st:=none) ⟨o,ho,hc,hd⟩ rfl (post_val_or_str ⟨qB0 (Txt.slice_le z _ _) hz,fin⟩)
theorem ny:∀{zs:List Str}{us:List Value},Vals (zs.map V.str) us->StrsAre us zs
 | [],_,.nil=>.nil
 | _::_,_,.cons ⟨t,e⟩ r=>by subst e;exact .cons _ t (ny r)
def rJoin(K:W.Frag):V->List V->Hp->VK->Prop:=fun x vs H Q=>∃z a ys,x=.str z/\vs=[.ref a]/\SqL K H a (ys.map V.str)/\z.length<=16/\(ys.map (·.length)).sum+ys.length<=1048576/\Q (.str (Txt.join z ys)) H
theorem Bq:MtR X "str.join" (rJoin X.K):=by
 intro pins s σ H x vs v us Q I rx rv h;obtain⟨z,a,ys,rfl,rfl,hq,hz,hw,q⟩:=h;obtain⟨t,rfl⟩:=rx;obtain⟨w',rfl,ra⟩:=rv.one;cases ra;obtain⟨its,r',p,_⟩:=I.list hq;exact join_listW p.isList (by simpa using ny r') hz hw fun t' k=>⟨.str _,H,I.tok k,⟨_,rfl⟩,q⟩
end
inductive Consts:List Expr->List Str->Prop
 | nil:Consts [] []
 | cons {x:Str} {j:Nat} {pos:Pos} {es:List Expr} {zs:List Str}:Consts es zs->Consts (.Constant (.str x) j pos::es) (x::zs)
theorem jT{X:Cx}:∀{es:List Expr}{zs:List Str},Consts es zs->PA X es (fun _ H Q=>Q (zs.map V.str) H)
 | _,_,.nil=>aJ
 | _,_,.cons h=>fun pos pins s σ H Q I q=>af aq (jT h) (by rfl) pos pins s σ H Q I q
theorem CompScope.one{X:Cx}{x y:Str}{scope:Scope}{k:Nat}{c:Addr}(c1:closureFor scope X.env=pure [(y,c)])(c2:∀y∈scope.names,y.2≠.cell)(c3:scope.kind=.function)(c4:∀y∈scope.names,y.2=.local->scope.names.lookup y.1=some .local)
 (c5:scope.names.lookup x=some .local) (nd:[x,y].Nodup) (hc:X.env.cells.lookup y=some c) (c6:((relabel scope X.env).names.all fun p=>!(p.2==.cell||p.2==.free)||(([(y,c)]:List (Str×Addr)).lookup p.1).isSome)=true)
 (hr:(relabel scope X.env).names.lookup y=some .cell) (hk:X.N[k]?=some y) (hs:X.env.scope.names.lookup y=some .cell):CompScope X x [y] [k] scope [(y,c)] where
 clos:=c1
 nocell:=c2
 kind:=c3
 names:=c4
 own:=c5
 nd:=nd
 sub:=fun p hp=>by
  rw[zP0 hp];exact hc
 has:=c6
 outs:=fun j z h=>by
  cases j with
  | zero=>
    have e:y=z:=zS0 h;subst e;exact⟨hr,k,c,rfl,hk,by simp [List.lookup],hs⟩
  | succ j=>simp at h
theorem CompScope.two{X:Cx}{x y z:Str}{scope:Scope}{k l:Nat}{c d:Addr}{cl:List (Str×Addr)}(c1:closureFor scope X.env=pure cl)(c2:∀y∈scope.names,y.2≠.cell)(c3:scope.kind=.function)(c4:∀y∈scope.names,y.2=.local->scope.names.lookup y.1=some .local)
 (c5:scope.names.lookup x=some .local) (nd:[x,y,z].Nodup) (hcl:cl=[(z,d),(y,c)]∨cl=[(y,c),(z,d)]) (hc:X.env.cells.lookup y=some c) (hd:X.env.cells.lookup z=some d) (c6:((relabel scope X.env).names.all fun p=>!(p.2==.cell||p.2==.free)||(cl.lookup p.1).isSome)=true)
 (hr:(relabel scope X.env).names.lookup y=some .cell) (hk:X.N[k]?=some y) (hs:X.env.scope.names.lookup y=some .cell)
 (hr2:(relabel scope X.env).names.lookup z=some .cell) (hk2:X.N[l]?=some z) (hs2:X.env.scope.names.lookup z=some .cell):CompScope X x [y,z] [k,l] scope cl where
 clos:=c1
 nocell:=c2
 kind:=c3
 names:=c4
 own:=c5
 nd:=nd
 sub:=fun p hp=>by
  rcases hcl with rfl | rfl
  all_goals
   rcases zZ0 hp with e | e
   . rw[e];assumption
   . rw[zP0 e];assumption
 has:=c6
 outs:=fun j w h=>by
  have nyz:y≠z:=fun e=>by simp [e]at nd
  match j,h with
  | 0,h=>
    have e:y=w:=zS0 h;subst e;refine⟨hr,k,c,rfl,hk,?_,hs⟩;rcases hcl with rfl | rfl
    . have:(y==z)=false:=by simpa using nyz
      simp [List.lookup,this]
    . simp [List.lookup]
  | 1,h=>
    have e:z=w:=zS0 h;subst e;refine⟨hr2,l,d,rfl,hk2,?_,hs2⟩;rcases hcl with rfl | rfl
    . simp [List.lookup]
    . have:(z==y)=false:=by simpa using Ne.symm nyz
      simp [List.lookup,this]
  | j+2,h=>simp at h
end L2
namespace Mine
open PySem L2
def uZ (x:Str):Prop:=x.length<=20/\(∀c∈x.cps.toList,97<=c/\c<=122)/\x≠"aa"
theorem jW{x:Str}{l u:Option Int}{c:Nat}(h:c∈(Txt.slice x l u).cps.toList):c∈x.cps.toList:=by
 have e:Txt.slice x l u=StrLaws.sliceText x l u:=rfl;rw[e]at h;unfold StrLaws.sliceText at h
 split at h
 . exact h
 . obtain ⟨i,_,hi⟩:=List.mem_filterMap.mp (show c∈(List.filterMap _ _) by simpa using h)
   have:=Array.mem_of_getElem? hi
   simpa using this
theorem mem_append{x y:Str}{c:Nat}(h:c∈(x++y).cps.toList):c∈x.cps.toList∨c∈y.cps.toList:=by
 have e:(x++y).cps.toList=x.cps.toList++y.cps.toList:=by simp [Str.cps_append]
 rw[e]at h;exact qD0 h
theorem wW {zs:List Str} {c:Nat} (h:c∈(Txt.join "" zs).cps.toList):∃z∈zs,c∈z.cps.toList:=by
 have e:Txt.join "" zs=Str.join "" zs:=by
  cases zs with
  | nil=>rfl
  | cons a r=>exact StrLaws.glued_cons "" r a
 rw[e]at h;rcases(PyProof.Rows.mem_join "" c zs).mp h with h | ⟨_,h⟩
 . exact h
 . have e0:(("":Str)).cps.toList=[]:=by decide +kernel
   rw[e0]at h;cases h
inductive Tr where
 | is (x:Str) | yes | no | not (a:Tr) | bin (w:Str) (a b:Tr)
def Tr.size:Tr->Nat
 | .is _=>1 | .yes=>1 | .no=>1 | .not a=>a.size+1 | .bin _ a b=>a.size+b.size+1
def Tr.depth:Tr->Nat
 | .is _=>1 | .yes=>1 | .no=>1 | .not a=>a.depth+1 | .bin _ a b=>max a.depth b.depth+1
def Tr.names:Tr->List Str
 | .is x=>[x] | .yes=>[] | .no=>[] | .not a=>a.names | .bin _ a b=>a.names++b.names
def joinW:List Str:=["and","or","odd","same"]
def Tr.ok(ns:List Str):Tr->Prop
 | .is x=>x∈ns | .yes=>True | .no=>True | .not a=>a.ok ns | .bin w a b=>w∈joinW/\a.ok ns/\b.ok ns
inductive TreeAt(H:Hp):V->Tr->Prop
 | is {a:Addr} {x:Str}:H a=some (.tup [.str "is",.str x])->TreeAt H (.ref a) (.is x)
 | yes {a:Addr}:H a=some (.tup [.str "yes"])->TreeAt H (.ref a) .yes
 | no {a:Addr}:H a=some (.tup [.str "no"])->TreeAt H (.ref a) .no
 | not {a:Addr} {v:V} {t:Tr}:H a=some (.tup [.str "not",v])->TreeAt H v t->TreeAt H (.ref a) (.not t)
 | bin {a:Addr} {w:Str} {v u:V} {t r:Tr}:H a=some (.tup [.str w,v,u])->TreeAt H v t->TreeAt H u r->TreeAt H (.ref a) (.bin w t r)
abbrev bu(H H':Hp):Prop:=∀a xs,H a=some (.tup xs)->H' a=some (.tup xs)
theorem TreeAt.mono{H H':Hp}(k:bu H H'){v:V}{t:Tr}(h:TreeAt H v t):TreeAt H' v t:=by
 induction h with
 | is e=>exact .is (k _ _ e)
 | yes e=>exact .yes (k _ _ e)
 | no e=>exact .no (k _ _ e)
 | not e _ ih=>exact .not (k _ _ e) ih
 | bin e _ _ i1 i2=>exact .bin (k _ _ e) i1 i2
theorem aX{H H':Hp}(s:Same H H'):bu H H':=fun a _ h=>s a _ h
theorem bD{H H':Hp}{f:Addr}(F:FeedAt H f)(s:SameBut f H H'):bu H H':=fun a xs h=>s a _ (fun z=>by
 obtain⟨o,t,e,_⟩:=F;rw[z,e]at h;cases h) h
def NamesAt(H:Hp)(a:Addr)(ns:List Str):Prop:=H a=some (.lst (ns.map V.str))∨H a=some (.tup (ns.map V.str))
theorem NamesAt.ne{H:Hp}{f a:Addr}{ns:List Str}(F:FeedAt H f)(h:NamesAt H a ns):a≠f:=fun z=>by
 obtain⟨o,t,e,_⟩:=F;subst z;rcases h with h | h
 . rw [e]at h;have h':=HO.lst.inj (zS0 h);cases ns with
   | nil=>cases h'
   | cons x r=>simp at h'
 . rw[e]at h;cases h
theorem NamesAt.feed{H H':Hp}{f a:Addr}{ns:List Str}(F:FeedAt H f)(s:SameBut f H H')(h:NamesAt H a ns):NamesAt H' a ns:=by
 have ne:=h.ne F;rcases h with h | h
 . exact .inl (s _ _ ne h)
 . exact .inr (s _ _ ne h)
theorem NamesAt.same{H H':Hp}{a:Addr}{ns:List Str}(s:Same H H')(h:NamesAt H a ns):NamesAt H' a ns:=by
 rcases h with h | h
 . exact .inl (s _ _ h)
 . exact .inr (s _ _ h)
theorem NamesAt.seq{K:W.Frag}{H:Hp}{a:Addr}{ns:List Str}(h:NamesAt H a ns):SqL K H a (ns.map V.str)∨SqT K H a (ns.map V.str):=by
 rcases h with h | h
 . exact .inl (zG0 h)
 . exact .inr (zD0 h)
theorem NamesAt.ix{K:W.Frag}{H:Hp}{a:Addr}{ns:List Str}{i:Int}{x:V}{Q:VK}(h:NamesAt H a ns)(hx:atI (ns.map V.str) i=some x)(q:Q x H):AR K (.ref a) (.int i) H Q∨yI K (.ref a) (.int i) H Q:=by
 rcases h with h | h
 . exact .inl ⟨_,x,zG0 h,hx,q⟩
 . exact .inr ⟨_,x,zD0 h,hx,q⟩
def lD(n:Nat):Sp:=fun vs H Q _=>∃(f a:Addr)(room deep:Int)(ns:List Str),vs=[.ref f,.ref a,.int room,.int deep]/\FeedAt H f/\NamesAt H a ns/\ns.length<=6/\1<=room/\room<=100/\1<=deep/\deep+1<=(n:Int)+1/\
 ∀(v:V)(t:Tr)(H':Hp),FeedAt H' f->SameBut f H H'->TreeAt H' v t->t.ok ns->(t.size:Int)<=room->(t.depth:Int)<=deep->Q v H'
theorem jB{α:Type}{l:List α}{i:Int}(h0:0<=i)(h:i<(l.length:Int)):∃v,atI l i=some v/\v∈l:=by
 have hk:i.toNat<l.length:=by omega
 have q:atI l ((i.toNat:Nat):Int)=some l[i.toNat]:=cq (zU0 hk);have ek:((i.toNat:Nat):Int)=i:=by omega
 rw[ek]at q;exact⟨_,q,qY0 hk⟩
end Mine
namespace L2
open PySem PySem.Spec PyProof.Rows
section
variable {X:Cx}
def qi(lo:Int)(n:Nat):List Int:=(List.range n).map fun i:Nat=>lo+(i:Int)
theorem yH(lo:Int)(n:Nat):(qi lo n).length=n:=by unfold qi;rw[zH0,qW0]
theorem wA{lo:Int}{n:Nat}{acc:List Value}(h:ItemsOf (fun i v=>∃t,v=Value.int (lo+(i:Int)*1) t) acc.toArray n):Vals ((qi lo n).map V.int) acc:=by
 obtain⟨h1,h2⟩:=h;have l1:acc.length=n:=by simpa using h1
 have key:∀(k:Nat)(l:List Value),(∀i v,l[i]?=some v->∃t,v=Value.int (lo+((k+i:Nat):Int)) t)->Vals (((List.range' k l.length).map fun i:Nat=>lo+(i:Int)).map V.int) l:=by
  intro k l
  induction l generalizing k with
  | nil=>intro _;exact .nil
  | cons a r ih=>
    intro h;obtain⟨t,e⟩:=h 0 a rfl;rw[qF0,List.range'_succ,qG0,qG0];refine .cons ⟨t,by simpa using e⟩ (ih (k+1) fun i v hv=>?_);obtain⟨t,e⟩:=h (i+1) v (by simpa using hv);exact⟨t,by rw[e];congr 2;omega⟩
 have:=key 0 acc fun i v hv=>by
  obtain⟨t,e⟩:=h2 i v (by simpa using hv);exact⟨t,by simpa using e⟩
 unfold qi;rw[←l1,List.range_eq_range'];exact this
def xS(ta:TA):TE:=fun σ H Q=>ta σ H fun vs H1=>∃i j:Int,vs=[.int i,.int j]/\(-(2 ^ 62)<=i/\i<2 ^ 62/\-(2 ^ 62)<=j/\j<2 ^ 62)/\j-i<=1000/\∀p,H1 p=none->Q (.ref p) (upd H1 p (.lst ((qi i (j-i).toNat).map V.int)))
theorem ub {a b:Expr} {ta:TA} {p1 p2 pos1 pos2:Pos} (hc:X.calm=true) (hg1:Gl X "list") (hm1:X.mg "list"=none) (hg2:Gl X "range") (hm2:X.mg "range"=none) (ha:PA X [a,b] ta)
 (hs1:starEach [(.Call (.Name "range" p2) [a,b] [] pos2:Expr)] X.env=[(false,eval (.Call (.Name "range" p2) [a,b] [] pos2) X.env)]:=by rfl) (hs:starEach [a,b] X.env=[(false,eval a X.env),(false,eval b X.env)]:=by rfl) (hs2:starEach [b] X.env=[(false,eval b X.env)]:=by rfl) :
 PE X (.Call (.Name "list" p1) [.Call (.Name "range" p2) [a,b] [] pos2] [] pos1) (xS ta):=by
 intro pins s σ H Q I h;refine wpAny_Call_Name_kw (gj I hg1 hm1 fH ?_);refine PyProof.Rows.callWith_type1 ?_ hs1 rfl;rw[hs1];show wpAny _ _ (spliced ((false,eval (.Call (.Name "range" p2) [a,b] [] pos2) X.env)::backTo pos1 (starEach [] X.env))) _ _ s;have step:wpAny (model X.prog X.w) X.A (eval (.Call (.Name "range" p2) [a,b] [] pos2) X.env) (fun v s1=>∃(r:Addr) (i j:Int) (t u k:Tok) (H1:Hp),v=.ref r/\Inv X pins σ H1 s1/\IsRange s1.heap r i j 1 t u k/\(-(2 ^ 62)<=i/\i<2 ^ 62/\-(2 ^ 62)<=j/\j<2 ^ 62)/\j-i<=1000/\
  ∀p,H1 p=none->Q (.ref p) (upd H1 p (.lst ((qi i (j-i).toNat).map V.int)))) X.xe s:=by
  refine Call_ (gj I hg2 hm2 boot_range (PyProof.Rows.callWith_type1 (thn (ha pos2 pins s σ H _ I h) fun us s1 ⟨vs,H1,I1,r1,q1⟩=>?_) (by rw[hs,hs2]) (by rw[hs2];rfl)));obtain⟨i,j,e,q1,q2,q⟩:=q1;subst e;cases r1 with
  | cons r rr=>
    cases rr with
    | cons r' rr=>
      cases rr;obtain⟨t,rfl⟩:=r;obtain⟨t',rfl⟩:=r';refine call_range_2 ⟨_,i,j,_,_,_,H1,rfl,I1.kept fun b o e=>zQ0 _ e,IsRange.new ..,q1,q2,q⟩
 refine Calls.spliced_cons (thn step fun v s1 hv=>?_);obtain⟨r,i,j,t,u,k,H1,rfl,I1,hr,⟨a1,a2,a3,a4⟩,hle,q⟩:=hv;refine Calls.spliced_nil ?_;have e2:Builtin.Range.rangeSize i j 1=(((j-i).toNat:Nat):Int):=by rw[rangeSize_one];split <;> omega
 refine call_list_range (I1.ok.hd hc) hr (small_one a1 a2 a3 a4) e2 (by omega) fun h' tk acc' c' hk hS hacc=>?_
 obtain⟨acc,rfl⟩:∃acc:List Value,acc'=acc.toArray:=⟨acc'.toList,by simp⟩
 have rr:=wA hacc;have I2:Inv X pins σ (upd H1 s1.heap.objs.size (.lst ((qi i (j-i).toNat).map V.int))) { s1 with heap:=h',toks:=tk }:=by
  refine I1.turnedNew (ch:=[]) (fun b ob _ eb=>hk b ob eb) (fun b hb=>absurd hb (by simp)) (zJ0 _) ⟨?_,acc,c',rr,hS⟩;rw[zH0,yH];exact cu (by omega)
 exact⟨.ref s1.heap.objs.size,_,I2,rfl,q _ (I1.hok.fresh (zJ0 _))⟩
def rSum(K:W.Frag):List V->Hp->VK->Prop:=fun xs H Q=>∃(a:Addr)(ns:List Int),xs=[.ref a]/\SqL K H a (ns.map V.int)/\(∀n∈ns,0<=n)/\ns.sum<2 ^ 63/\Q (.int ns.sum) H
theorem oA:∀{bs:List Int}{us:List Value}{i:Nat}{v:Value},Vals (bs.map V.int) us->us[i]?=some v->∃b t,bs[i]?=some b/\v=.int b t
 | [],_,_,_,.nil,h=>by simp at h
 | b::_,_,0,_,.cons r _,h=>by
   simp at h
   subst h;obtain⟨t,e⟩:=r;exact⟨b,t,rfl,e⟩
 | _::_,_,i+1,_,.cons _ t,h=>by
   obtain⟨b,t,h1,h2⟩:=oA (i:=i) t (by simpa using h);exact⟨b,t,by simpa using h1,h2⟩
theorem lX{ns:List Int}(h:∀n∈ns,0<=n)(j:Nat):0<=(ns.take j).sum/\(ns.take j).sum<=ns.sum:=by
 induction ns generalizing j with
 | nil=>simp
 | cons a r ih=>
   cases j with
   | zero=>
     have:=ih (fun n hn=>h n (qQ0 _ hn)) r.length
     rw[qO0]at this;have a0:=h a qP0;simp only[List.take_zero,List.sum_nil,List.sum_cons];omega
   | succ j=>
     have:=ih (fun n hn=>h n (qQ0 _ hn)) j
     have a0:=h a qP0;simp only[List.take_succ_cons,List.sum_cons];omega
theorem me(ns:List Int)(j:Nat):preSum (fun i=>ns[i]?.getD 0) j=(ns.take j).sum:=by
 induction j with
 | zero=>simp;rfl
 | succ j ih=>
   show preSum (fun i=>ns[i]?.getD 0) j+(fun i=>ns[i]?.getD 0) j=_;rw[ih,qK0,List.sum_append];cases e:ns[j]? with
   | none=>simp [e]
   | some x=>simp [e]
theorem oO (hc:X.calm=true):hZ X (.builtin "sum") (rSum X.K):=by
 intro pins s σ H xs us Q I r h;obtain⟨a,ns,rfl,hq,n0,nb,q⟩:=h;obtain⟨u,rfl,ru⟩:=lW r;cases ru;obtain⟨its,r',p,hz⟩:=I.list hq;have hl:=r'.length;rw[zH0]at hl;have hlt:a<s.heap.objs.size:=by obtain⟨o,n,e,_⟩:=p;exact zN0 e
 refine call_sum_walk (wpAny_pyIter_list p.isList ?_);refine⟨s.heap.objs.size,_,_,_,_,_,fun i=>ns[i]?.getD 0,rfl,Walks.list (A:=X.A.in1) (I.ok.hd hc) s.heap.objs.size a (zR0 hlt) its.toArray,⟨⟨_,qA0 _ rfl,rfl,rfl⟩,p.isList.push _⟩,?_,?_,?_,?_⟩
 . intro b hb;have hpz:∀o:Obj,(s.heap.push o).objs.size=s.heap.objs.size+1:=fun o=>by simp [Heap.push]
   show b<(s.heap.push _).objs.size;rw[hpz];rcases zZ0 hb with e | e
   . rw[e];exact Nat.lt_succ_self _
   . rw[zP0 e];exact Nat.lt_succ_of_lt hlt
 . intro i v hP;obtain⟨b,t,hb,rfl⟩:=oA r' (i:=i) (v:=v) (by simpa using hP);exact⟨t,by simp [hb]⟩
 . intro j hj;have hj':j<ns.length:=by rw[hl];simpa using hj
   have s1:=lX n0 (j+1);rw[me];refine⟨?_,by unfold InLong;omega⟩;have s2:=lX n0 j;have e:(ns.take (j+1)).sum=(ns.take j).sum+ns[j]:=by rw[qK0,List.sum_append,zU0 hj'];simp
   have n1:=n0 _ (qY0 hj');show InLong (ns[j]?.getD 0);rw[zU0 hj'];show InLong ns[j];unfold InLong;omega
 . intro h' tk t' hk;rw[me,zW0,←hl,qO0];refine⟨.int _,H,?_,⟨_,rfl⟩,q⟩;have I1:Inv X pins σ H { s with heap:=s.heap.push { cls:=.type "list_iterator",data:=.fields #[.ref a,.int 0 0] } }:=I.kept (t':=s.toks) fun b o e=>zQ0 _ e
   refine I1.turnedL (t':=tk) (ch:=[s.heap.objs.size]) (fun b o hb e=>hk b o (by simpa using hb) e) fun b hb=>?_
   rw[zP0 hb];exact I.fpOk (zJ0 _) (I.hok.fresh (zJ0 _))
end
theorem vA:Slot "reversed" "__iter__" "reversed.__iter__":=Slot.of (owner:="reversed") (n:="__iter__") (by rw[typeLookup_type,builtinLookup_eq_fast];kernel_rfl) (by decide +kernel) (by decide +kernel) (by decide +kernel) (by first | exact .inl (by decide +kernel) | exact .inr (by decide +kernel)) (by rw[isSubtype_type];kernel_rfl) (by decide +kernel)
theorem rv_next:Slot "reversed" "__next__" "reversed.__next__":=Slot.of (owner:="reversed") (n:="__next__") (by rw[typeLookup_type,builtinLookup_eq_fast];kernel_rfl) (by decide +kernel) (by decide +kernel) (by decide +kernel) (by first | exact .inl (by decide +kernel) | exact .inr (by decide +kernel)) (by rw[isSubtype_type];kernel_rfl) (by decide +kernel)
theorem xQ:typeLookup (.type "tuple") "__reversed__"=pure none:=by rw[typeLookup_type,builtinLookup_eq_fast];kernel_rfl
theorem wy:entryFor table "reversed.__iter__"=some Builtin.«dict_keyiterator.__iter__»:=entryFor_alias (by kernel_rfl) rfl (show _="dict_keyiterator.__iter__" by decide +kernel) (by kernel_rfl)
theorem pD:entryFor table "reversed.__next__"=some Builtin.«reversed.__next__»:=entryFor_of_tree (by kernel_rfl)
def RevT (h:Heap) (it t:Addr) (i:Int):Prop:=h.get? it=some { cls:=.type "reversed",data:=.fields #[.ref t,rawInt i] }
section
variable {prog:Program} {w:World} {A:Around} {E:Value->Shared->Prop} {s:Shared} {R:Result->Shared->Prop} {it t:Addr}
theorem RevT.typeIs {i:Int} (h:RevT s.heap it t i):s.TypeIs (.ref it) "reversed":=⟨_,h,rfl⟩
theorem pI{i:Int}{Q:Value->Shared->Prop}(h:RevT s.heap it t i)(q:Q (.ref it) s):wpAny (model prog w) A (pyIter (.ref it)) Q E s:=
 wpAny_pyIter_slot h.typeIs vA (wpAny_call_entry vA h.typeIs wy (zK0 ⟨_,rfl,"reversed",_,h.typeIs,rv_next.lookup,q⟩) (by rfl))
theorem om{i:Nat}{items:Array Value}{x:Value}{Q:Option Value->Shared->Prop}(h:RevT s.heap it t (i:Int))(ht:IsTup s.heap t items)(hx:items[i]?=some x)(hi:(i:Int)<2 ^ 63)
 (q:∀h' tk,RevT h' it t ((i:Int)-1)->Heap.SameBut it s.heap h'->Q (some x) { s with heap:=h',toks:=tk }):wpAny (model prog w) A (pyNext (.ref it)) Q E s:=by
 have hT:=h.typeIs;have hs:i<items.size:=(Array.getElem?_eq_some_iff.mp hx).1;unfold pyNext;refine zC0 (wpAny_attempt (wpAny_callSpecial?_slot hT rv_next (wpAny_call_entry rv_next hT pD ?_ (by rfl))));unfold Builtin.«reversed.__next__»;refine zC0 (wpAny_of_eq (show slotArgs "__next__" 0 ⟨[.ref it],[]⟩=pure (.ref it,[])from rfl) ?_);refine zC0 (wpAny_field h rfl rfl ?_);refine zC0 (wpAny_field h rfl rfl ?_);refine wpAny_ite_split (fun hab=>absurd hab (by omega)) (fun _=>?_);refine zC0 (wpAny_specialOf (show s.TypeIs (.ref t) "tuple" from ht.typeIs) PyProof.Rows.slot_tuple_getitem.lookup ?_);refine wpAny_ite_split (fun hab=>absurd hab (by simp)) (fun _=>?_);refine zC0 (wpAny_mkInt ?_);have e1:seqIndex? (i:Int) items.size=some i:=(qE (by unfold ixN;rw[zI0 (by omega),zI0 (by omega)];simp)).1;refine zC0 (wpAny_attempt (PyProof.Rows.getItem_tuple (items:=items) (x:=x) ht (by omega) hi e1 hx ?_));refine zC0 (wpAny_field h rfl rfl ?_);refine zC0 (wpAny_setField_rec h (by simp) fun h' e hb=>?_);refine zK0 ⟨_,rfl,zK0 (q h' _ ?_ hb)⟩;exact e
theorem oZ{Q:Option Value->Shared->Prop}(hh:A.handled=none)(h:RevT s.heap it t (-1))
 (q:∀h' tk,Heap.ExtBut it s.heap h'->Q none { s with heap:=h',toks:=tk }):wpAny (model prog w) A (pyNext (.ref it)) Q E s:=by
 have hT:=h.typeIs;unfold pyNext;refine zC0 (wpAny_attempt (wpAny_callSpecial?_slot hT rv_next (wpAny_call_entry rv_next hT pD ?_ (by rfl))));unfold Builtin.«reversed.__next__»;refine zC0 (wpAny_of_eq (show slotArgs "__next__" 0 ⟨[.ref it],[]⟩=pure (.ref it,[])from rfl) ?_);refine zC0 (wpAny_field h rfl rfl ?_);refine zC0 (wpAny_field h rfl rfl ?_);refine wpAny_ite_split (fun _=>?_) (fun hab=>absurd (by decide) hab);refine zC0 (wpAny_rule ?_);refine zC0 ?_;show wpAny _ _ (setField (.ref it) 1 (rawInt (-1)) >>= fun _=>setField (.ref it) 0 Value.none) _ _ _;refine zC0 (wpAny_setField_rec h (by simp) fun h1 e1 b1=>?_);refine wpAny_setField_rec e1 (by simp) fun h2 e2 b2=>?_
 refine zC0 ?_;unfold Builtin.SmallTypes.stopIteration newExc newTuple;refine zC0 (zC0 (wpAny_newObj_type ?_ (by show 0<=sizeLine;decide)));refine zC0 (wpAny_of_eq (show firstArgMember (.type "StopIteration") []=pure .none by with_unfolding_all rfl) ?_);refine wpAny_newObj_type ?_ (sizeOk_excFields ..);refine wpAny_raiseNew_none hh ?_;refine zC0 (wpAny_isInstance (T:="StopIteration") ⟨_,qA0 _ rfl,rfl⟩ isSubtype_stop ?_);refine wpAny_ite_split (fun _=>?_) (fun hab=>absurd rfl hab);refine zK0 (q _ _ ?_);exact(b1.extBut.trans b2.extBut).trans fun b o hb e=>zQ0 _ (zQ0 _ e)
theorem AO:Slot "reversed" "__init__" "object.__init__":=Slot.of (owner:="object") (n:="__init__") (by rw[typeLookup_type,builtinLookup_eq_fast];kernel_rfl) (by decide +kernel) (by decide +kernel) (by decide +kernel) (by first | exact .inl (by decide +kernel) | exact .inr (by decide +kernel)) (by rw[isSubtype_type];kernel_rfl) (by decide +kernel)
theorem wz:TypeCalled "reversed" "reversed.__new__" "object.__init__":=⟨by decide,F.create_reversed,⟨_,_,F.mro_reversed⟩,F.made_reversed,F.plain_reversed_new,F.sub_reversed_self,AO⟩
theorem wn:isSubtype (.type "tuple") (.type "dict")=pure false:=by rw[isSubtype_type];kernel_rfl
theorem lw{items:Array Value}{Q:Value->Shared->Prop}(ht:IsTup s.heap t items)(hz:items.size<=sizeLine)
 (q:∀tk,Q (.ref s.heap.objs.size) { s with heap:=s.heap.push { cls:=.type "reversed",data:=.fields #[.ref t,rawInt ((items.size:Int)-1)] },toks:=tk }):wpAny (model prog w) A (call (.type "reversed") [.ref t]) Q E s:=by
 have h63:=iU;refine callType_newIn wz (by decide) (F.typeCall_reversed_1 _) (F.newCall_reversed_1 _) (fun _=>by rfl) F.entry_reversed_new
  (S:=fun A R s=>wpAny (model prog w) A.in1 (Builtin.«reversed.__new__» ⟨[.type "reversed",.ref t],[]⟩) (fun fin s'=>match fin with | .done f=>R (.ok f) s' | .again c'=>c'.quiet=true/\codeAny (model prog w) A c' R s') (fun e s'=>R (.error e) s') s) (fun A R s h=>h) ?_
 unfold Builtin.«reversed.__new__»;refine zC0 (wpAny_of_eq (newClass_reversed _) ?_);refine zC0 (wpAny_of_eq (a:=()) rfl ?_);refine zC0 (wpAny_of_eq (a:=()) rfl ?_);refine zC0 (wpAny_specialOf ht.typeIs xQ ?_);refine zC0 ?_;refine zC0 (wpAny_isInstance ht.typeIs wn ?_);refine wpAny_ite_split (fun hab=>absurd hab (by decide)) (fun _=>?_);refine zC0 (wpAny_specialOf ht.typeIs PyProof.Rows.slot_tuple_getitem.lookup ?_);refine wpAny_ite_split (fun _=>?_) (fun hab=>absurd (by decide +kernel) hab);refine zK0 ?_;refine wpAny_ite_split (fun hab=>absurd hab (by decide)) (fun _=>?_);refine zC0 (len_tuple ht (by omega) ?_);refine zC0 (zK0 ?_);refine zC0 (wpAny_newObj_type (data:=.fields #[.ref t,rawInt ((items.size:Int)-1)]) ?_ (by show 2<=sizeLine+2;decide));refine zK0 ?_;exact⟨⟨_,qA0 _ rfl,rfl⟩,q _⟩
end
end L2
namespace Mine
open PySem L2
def Tr.wf:Tr->Prop
 | .is x=>uZ x | .yes=>True | .no=>True | .not a=>a.wf | .bin w a b=>w∈joinW/\a.wf/\b.wf
def Tr.parts:Tr->List Tr
 | .is _=>[] | .yes=>[] | .no=>[] | .not a=>[a] | .bin _ a b=>[a,b]
theorem Tr.ok_wf{ns:List Str}(hn:∀x∈ns,uZ x):∀t:Tr,t.ok ns->t.wf
 | .is _,h=>hn _ h
 | .yes,_=>trivial
 | .no,_=>trivial
 | .not a,h=>Tr.ok_wf hn a h
 | .bin _ a b,⟨h,h1,h2⟩=>⟨h,Tr.ok_wf hn a h1,Tr.ok_wf hn b h2⟩
theorem Tr.depth_pos:∀t:Tr,1<=t.depth
 | .is _=>zJ0 _ | .yes=>zJ0 _ | .no=>zJ0 _ | .not a=>Nat.le_add_left .. | .bin _ a b=>Nat.le_add_left ..
def kG(ts:List Tr):Nat:=(ts.map Tr.size).sum
def gS(ts:List Tr):List Str:=(ts.map Tr.names).flatten
theorem Tr.size_parts(t:Tr):t.size=kG t.parts+1:=by
 cases t <;> simp [Tr.size,Tr.parts,kG]
theorem Tr.names_parts(t:Tr)(h:∀x,t≠.is x):t.names=gS t.parts:=by
 cases t with
 | is x=>exact absurd rfl (h x)
 | _=>simp [Tr.names,Tr.parts,gS]
theorem Tr.parts_mem{t u:Tr}(h:u∈t.parts)(w:t.wf):u.wf/\u.depth+1<=t.depth/\u.size+1<=t.size:=by
 cases t with
 | is x=>simp [Tr.parts]at h
 | yes=>simp [Tr.parts]at h
 | no=>simp [Tr.parts]at h
 | not a=>
   rw[zP0 h];exact⟨w,zJ0 _,zJ0 _⟩
 | bin o a b=>
   obtain⟨_,w1,w2⟩:=w;rcases zZ0 h with e | e
   . rw [e];refine⟨w1,?_,?_⟩
     . show a.depth+1<=max a.depth b.depth+1;omega
     . show a.size+1<=a.size+b.size+1;omega
   . rw [zP0 e];refine⟨w2,?_,?_⟩
     . show b.depth+1<=max a.depth b.depth+1;omega
     . show b.size+1<=a.size+b.size+1;omega
inductive TreesAt(H:Hp):List V->List Tr->Prop
 | nil:TreesAt H [] []
 | cons {v:V} {t:Tr} {vs:List V} {ts:List Tr}:TreeAt H v t->TreesAt H vs ts->TreesAt H (v::vs) (t::ts)
theorem TreesAt.mono{H H':Hp}(k:bu H H'){vs:List V}{ts:List Tr}(h:TreesAt H vs ts):TreesAt H' vs ts:=by
 induction h with
 | nil=>exact .nil
 | cons a _ ih=>exact .cons (a.mono k) ih
theorem TreesAt.append{H:Hp}{vs us:List V}{ts rs:List Tr}(h:TreesAt H vs ts)(g:TreesAt H us rs):TreesAt H (vs++us) (ts++rs):=by
 induction h with
 | nil=>exact g
 | cons a _ ih=>exact .cons a ih
theorem TreesAt.length{H:Hp}{vs:List V}{ts:List Tr}(h:TreesAt H vs ts):vs.length=ts.length:=by
 induction h with
 | nil=>rfl
 | cons _ _ ih=>rw[qF0,qF0,ih]
theorem TreesAt.get{H:Hp}{vs:List V}{ts:List Tr}(h:TreesAt H vs ts):∀{i:Nat}{v:V},vs[i]?=some v->∃t,ts[i]?=some t/\TreeAt H v t:=by
 induction h with
 | nil=>intro i v e;simp at e
 | cons a _ ih=>
   intro i v e;cases i with
   | zero=>cases(zS0 e);exact⟨_,rfl,a⟩
   | succ i=>exact ih (i:=i) (by simpa using e)
theorem uG {w:Str} (h:w∈joinW):w≠"is":=(by decide +kernel:∀w∈joinW,w≠("is":Str)) w h
theorem TreeAt.view {H:Hp} {v:V} {t:Tr} (h:TreeAt H v t) (w:t.wf):(∃(a:Addr) (x:Str),v=.ref a/\t=.is x/\uZ x/\H a=some (.tup [.str "is",.str x]))∨
 ∃(a:Addr) (o:Str) (xs:List V),v=.ref a/\o≠"is"/\xs.length<=2/\H a=some (.tup (.str o::xs))/\TreesAt H xs t.parts/\(∀x,t≠.is x):=by
 cases h with
 | is e=>exact .inl ⟨_,_,rfl,rfl,w,e⟩
 | yes e=>exact .inr ⟨_,_,[],rfl,by decide +kernel,by simp,e,.nil,fun x z=>by cases z⟩
 | no e=>exact .inr ⟨_,_,[],rfl,by decide +kernel,by simp,e,.nil,fun x z=>by cases z⟩
 | not e g=>exact .inr ⟨_,_,[_],rfl,by decide +kernel,by simp,e,.cons g .nil,fun x z=>by cases z⟩
 | bin e g g2=>exact .inr ⟨_,_,[_,_],rfl,uG w.1,by simp,e,.cons g (.cons g2 .nil),fun x z=>by cases z⟩
theorem cut1(o:V):∀xs:List V,xs.length<=2->lj (o::xs) (some 1) none=xs/\¬ (HT.sIx (o::xs).length 0 (some 1)=0/\HT.sIx (o::xs).length (o::xs).length none=(o::xs).length)
 | [],_=>⟨rfl,fun h=>absurd h.1 (show ¬ HT.sIx 1 0 (some 1)=0 by decide)⟩
 | [_],_=>⟨rfl,fun h=>absurd h.1 (show ¬ HT.sIx 2 0 (some 1)=0 by decide)⟩
 | [_,_],_=>⟨rfl,fun h=>absurd h.1 (show ¬ HT.sIx 3 0 (some 1)=0 by decide)⟩
 | _::_::_::_,h=>absurd h (by simp)
theorem Tr.names_len:∀t:Tr,t.names.length<=t.size
 | .is _=>zJ0 _
 | .yes=>qC0 _
 | .no=>qC0 _
 | .not a=>Nat.le_succ_of_le (Tr.names_len a)
 | .bin _ a b=>by
   have:=Tr.names_len a
   have:=Tr.names_len b
   show(a.names++b.names).length<=a.size+b.size+1;rw[zO0];omega
end Mine
namespace L2
open PySem PySem.Spec PyProof.Rows
section
variable {prog:Program} {w:World} {A:Around} {E:Value->Shared->Prop} {s:Shared}
def Dy(xs:Array Value)(x:Value):Nat->Option PySem.Fin×Unit->Sem (ForInStep (Option PySem.Fin×Unit)):=fun i _=>match xs[i]? with
 | some y=>do
   let b ←eqBool y x
   if b=true then do
    let r ←retInt (i:Int)
    pure (ForInStep.done (some r,()))
    else pure (ForInStep.yield (none,()))
 | _=>pure (ForInStep.yield (none,()))
theorem sy{xs:Array Value}{x:Value}{e:Value->Bool}(he:∀y∈xs,SeqAt.EqAt A s y x (e y)){j:Nat}(hj:j<xs.size)(ej:e xs[j]=true)(bf:∀(m:Nat) (hm:m<xs.size),m<j->e xs[m]=false){Q:Option PySem.Fin×Unit->Shared->Prop}
 (q:Q (some (.done (.ret (.int (j:Int) s.toks))),()) { s with toks:=s.toks+1 }):∀(n k:Nat),k<=j->j<k+n->k+n<=xs.size->wpAny (model prog w) A (forIn (List.range' k n 1) ((none:Option PySem.Fin),()) (Dy xs x)) Q E s
 | 0,k,h1,h2,_=>absurd h2 (by omega)
 | n+1,k,h1,h2,h3=>by
   have hk:k<xs.size:=by omega
   rw [List.range'_succ,List.forIn_cons];refine zC0 ?_;have e1:Dy xs x k ((none:Option PySem.Fin),())=(do
    let b ←eqBool xs[k] x
    if b=true then do
     let r ←retInt (k:Int)
     pure (ForInStep.done (some r,()))
     else pure (ForInStep.yield (none,()))):=by
    unfold Dy;rw[Array.getElem?_eq_getElem hk]
   rw[e1];refine zC0 (he _ (Array.getElem_mem hk) prog w _ _ ?_)
   by_cases c:k=j
   . subst c;rw[ej];refine wpAny_ite_split (fun _=>?_) (fun hab=>absurd rfl hab);refine zC0 ?_;refine zC0 (wpAny_mkInt ?_);refine zK0 ?_;refine zK0 ?_;exact zK0 q
   . rw[bf k hk (by omega)];refine wpAny_ite_split (fun hab=>absurd hab (by decide)) (fun _=>?_);refine zK0 ?_;exact sy he hj ej bf q n (k+1) (by omega) (by omega) (by omega)
theorem ot(l:Addr)(items:Array Value)(n:Nat)(dd:Option Addr)(sl:Array (Option Value))(x:Value)(e:Value->Bool)(j:Nat)(hj:j<items.size)(ej:e items[j]=true)(bf:∀(m:Nat) (hm:m<items.size),m<j->e items[m]=false) :
 Meets (Builtin.«tuple.index» { pos:=[.ref l,x] }) fun A R s=>s.heap.get? l=some { cls:=.type "tuple",dict:=dd,data:=.seq items n,slots:=sl }/\(∀y∈items,SeqAt.EqAt A.in1 s y x (e y))/\R (.ok (.ret (.int (j:Int) s.toks))) { s with toks:=s.toks+1 }:=by
 intro prog w A R s ⟨hl,he,q⟩;unfold Builtin.«tuple.index»;refine zC0 (wpAny_of_eq (a:=(Value.ref l,[x])) rfl ?_);refine zC0 (wpAny_tupleItemsOf hl rfl ?_);refine zC0 (zK0 ?_);refine zC0 (zK0 ?_);refine zC0 ?_;rw[Std.Legacy.Range.forIn_eq_forIn_range'];have e1:Std.Legacy.Range.size [0:min items.size items.size]=items.size:=by simp [Std.Legacy.Range.size]
 rw[e1];refine sy he hj ej bf ?_ items.size 0 (qC0 _) (by omega) (by omega);exact zK0 q
end
section
variable {X:Cx}
def cK(z:Str):List Str->Option Nat
 | []=>none
 | a::r=>if a=z then some 0 else(cK z r).map (·+1)
theorem og{z:Str}:∀{ns:List Str}{j:Nat},cK z ns=some j->ns[j]?=some z/\∀m,m<j->∀y,ns[m]?=some y->y≠z
 | [],_,h=>by simp [cK]at h
 | a::r,j,h=>by
   unfold cK at h
   by_cases c:a=z
   . rw[zI0 c]at h;cases h;exact⟨by simp [c],fun m hm=>absurd hm (by omega)⟩
   . rw [zF0 c]at h;obtain⟨i,hi,rfl⟩:=qM0 h;obtain⟨h1,h2⟩:=og hi;refine⟨by simpa using h1,fun m hm y hy=>?_⟩;cases m with
     | zero=>cases(zS0 hy);exact c
     | succ m=>exact h2 m (by omega) y (by simpa using hy)
theorem nv:∀{bs:List Str}{us:List Value}{i:Nat}{v:Value},Vals (bs.map V.str) us->us[i]?=some v->∃b t,bs[i]?=some b/\v=.str b t
 | [],_,_,_,.nil,h=>by simp at h
 | b::_,_,0,_,.cons r _,h=>by
   simp at h
   subst h;obtain⟨t,e⟩:=r;exact⟨b,t,rfl,e⟩
 | _::_,_,i+1,_,.cons _ t,h=>by
   obtain⟨b,t,h1,h2⟩:=nv (i:=i) t (by simpa using h);exact⟨b,t,by simpa using h1,h2⟩
theorem fG(ns:List Str):(ns.map V.str).all ja=true:=by
 induction ns with
 | nil=>rfl
 | cons a r ih=>rw[qG0,List.all_cons,ih];rfl
theorem mx{ns:List Str}{its:List Value}{z:Str}{j:Nat}(r:Vals (ns.map V.str) its)(h:cK z ns=some j) :
 ∃hj:j<its.toArray.size,eqU (.str z) its.toArray[j]=true/\∀(m:Nat)(hm:m<its.toArray.size),m<j->eqU (.str z) its.toArray[m]=false:=by
 obtain⟨h1,h2⟩:=og h;have hl:=r.length;rw[zH0]at hl;have jl:j<ns.length:=(zT0 h1).1;have hj:j<its.toArray.size:=by rw[zW0,←hl];exact jl
 refine⟨hj,?_,fun m hm mj=>?_⟩
 . obtain ⟨b,t,e1,e2⟩:=nv r (i:=j) (v:=its.toArray[j]) (by simp);rw[e2];rw[h1]at e1;cases e1;show(z==z)=true
   simp
 . obtain ⟨b,t,e1,e2⟩:=nv r (i:=m) (v:=its.toArray[m]) (by simp);rw[e2];show(b==z)=false
   have:=h2 m mj b e1
   simpa using this
def AS(K:W.Frag):V->List V->Hp->VK->Prop:=fun x vs H Q=>∃(a:Addr)(ns:List Str)(z:Str)(j:Nat),x=.ref a/\vs=[.str z]/\SqT K H a (ns.map V.str)/\cK z ns=some j/\Q (.int (j:Int)) H
theorem wT:MtR X "tuple.index" (AS X.K):=by
 intro pins s σ H x vs v us Q I rx rv h;obtain⟨a,ns,z,j,rfl,rfl,hq,hp,q⟩:=h;cases rx;obtain⟨u,rfl,ru⟩:=rv.one;obtain⟨its,r,⟨⟨cls,dd,data,sl⟩,ho,hc,n,hd⟩,hz⟩:=I.tuple hq;simp only at hc hd;subst hc hd;obtain⟨hj,e1,e2⟩:=mx r hp;refine call_meets F.slot_tuple_index ⟨_,ho,rfl⟩ F.entry_tuple_index (F.args_tuple_index_2 _ _) (ot a its.toArray n dd sl u (eqU (.str z)) j hj e1 e2) ⟨ho,fun y hy=>?_,?_⟩
 . exact fV ru rfl r (fG ns) y (by simpa using hy)
 . exact⟨.int (j:Int),H,I.tok _,⟨_,rfl⟩,q⟩
def AT(K:W.Frag):V->List V->Hp->VK->Prop:=fun x vs H Q=>∃(a:Addr)(ns:List Str)(z:Str)(j:Nat),x=.ref a/\vs=[.str z]/\SqL K H a (ns.map V.str)/\cK z ns=some j/\Q (.int (j:Int)) H
theorem wU:MtR X "list.index" (AT X.K):=by
 intro pins s σ H x vs v us Q I rx rv h;obtain⟨a,ns,z,j,rfl,rfl,hq,hp,q⟩:=h;cases rx;obtain⟨u,rfl,ru⟩:=rv.one;obtain⟨its,r,⟨⟨cls,dd,data,sl⟩,n,ho,hc,hdd,hd⟩,hz⟩:=I.list hq;simp only at hc hd;subst hc hd;obtain⟨hj,e1,e2⟩:=mx r hp;have h63:=iU;have hl:=r.length;refine call_meets F.slot_list_index ⟨_,ho,rfl⟩ F.entry_list_index (F.args_list_index_2 _ _) (SeqAt.list_indexAt a its.toArray n dd sl u (eqU (.str z)) j hj (by rw[zW0]at hj;omega) e1 e2) ⟨ho,fun y hy=>?_,?_⟩
 . exact fV ru rfl r (fG ns) y (by simpa using hy)
 . exact⟨.int (j:Int),H,I.tok _,⟨_,rfl⟩,q⟩
end
section
variable {κ:Type} [DecidableEq κ]
def bN(kvs:List (κ×V))(k:κ):Option V:=(kvs.find? fun kv=>decide (kv.1=k)).map (·.2)
def fD(kvs:List (κ×V))(k:κ)(v:V):List (κ×V):=
 if(kvs.any fun kv=>decide (kv.1=k))=true then kvs.map (fun kv=>if kv.1=k then(kv.1,v)else kv)else kvs++[(k,v)]
theorem cQ{p:κ×V}{r:List (κ×V)}{k:κ}(e:p.1=k):bN (p::r) k=some p.2:=by simp [bN,List.find?_cons,e]
theorem cR{p:κ×V}{r:List (κ×V)}{k:κ}(e:¬ p.1=k):bN (p::r) k=bN r k:=by simp [bN,List.find?_cons,e]
theorem kx(k:κ):∀kvs:List (κ×V),(kvs.any fun kv=>decide (kv.1=k))=(bN kvs k).isSome
 | []=>rfl
 | p::r=>by
   rw[List.any_cons]
   by_cases e:p.1=k
   . simp only[cQ e,decide_eq_true e,Bool.true_or,Option.isSome_some]
   . rw[cR e,decide_eq_false e,Bool.false_or];exact kx k r
theorem qU(k j:κ)(y:V):∀kvs:List (κ×V),bN (kvs.map fun kv=>if kv.1=k then(kv.1,y)else kv) j=(bN kvs j).map fun x=>if j=k then y else x
 | []=>rfl
 | p::r=>by
   have ih:=qU k j y r;rw[qG0]
   by_cases h:p.1=k
   . rw [zI0 h]
     by_cases e:p.1=j
     . rw[cQ (p:=(p.1,y)) e,cQ e,Option.map_some,zI0 (e.symm.trans h)]
     . rw[cR (p:=(p.1,y)) e,cR e,ih]
   . rw [zF0 h]
     by_cases e:p.1=j
     . rw[cQ (p:=p) e,cQ e,Option.map_some,zF0 (fun z=>h (e.trans z))]
     . rw[cR (p:=p) e,cR e,ih]
theorem pf(k j:κ)(y:V):∀kvs:List (κ×V),bN kvs k=none->bN (kvs++[(k,y)]) j=if j=k then some y else bN kvs j
 | [],_=>by
   by_cases e:k=j
   . rw[zI0 e.symm];exact cQ (p:=(k,y)) e
   . rw[zF0 (fun z=>e z.symm)];exact cR (p:=(k,y)) e
 | p::r,hn=>by
   rw[List.cons_append];have hk:¬ p.1=k:=fun z=>by rw[cQ z]at hn;cases hn
   rw[cR hk]at hn;have ih:=pf k j y r hn
   by_cases e:p.1=j
   . rw[cQ e,cQ e,zF0 (fun z=>hk (e.trans z))]
   . rw[cR e,cR e,ih]
theorem jg(kvs:List (κ×V))(k j:κ)(y:V):bN (fD kvs k y) j=if j=k then some y else bN kvs j:=by
 unfold fD
 by_cases a:(kvs.any fun kv=>decide (kv.1=k))=true
 . rw [zI0 a,qU];rw[kx]at a
   by_cases e:j=k
   . obtain⟨x,hx⟩:=Option.isSome_iff_exists.mp a;rw[zI0 e,e,hx,Option.map_some,zI0 rfl]
   . rw [zF0 e];cases bN kvs j with
     | none=>rfl
     | some x=>rw[Option.map_some,zF0 e]
 . rw [zF0 a];refine pf k j y kvs ?_;rw[kx]at a;cases q:bN kvs k with
   | none=>rfl
   | some x=>rw[q]at a;exact(a rfl).elim
theorem dW(kvs:List (κ×V))(k:κ)(v:V):(fD kvs k v).length<=kvs.length+1:=by
 unfold fD
 split
 . rw[zH0];omega
 . rw[zO0,qF0,List.length_nil];omega
theorem RelO.isSome_eq{o:Option V}{u:Option Value}(r:RelO o u):o.isSome=u.isSome:=by
 cases o with
 | none=>cases u with
   | none=>rfl
   | some _=>exact(show False from r).elim
 | some _=>cases u with
   | none=>exact(show False from r).elim
   | some _=>rfl
theorem RelO.getD{o:Option V}{u:Option Value}{d:V}{d':Value}(r:RelO o u)(rd:RelV d d'):RelV (o.getD d) (u.getD d'):=by
 cases o with
 | none=>cases u with
   | none=>exact rd
   | some _=>exact(show False from r).elim
 | some _=>cases u with
   | none=>exact(show False from r).elim
   | some _=>exact r
theorem KV.val{kvs:List (κ×V)}{vs:List (κ×Value)}(r:KV kvs vs)(k:κ):RelO (bN kvs k) (valueAt vs k):=by
 unfold KV at r
 induction r with
 | nil=>exact True.intro
 | @cons p q ps qs h t ih=>
   obtain⟨h1,h2⟩:=h
   by_cases e:p.1=k
   . have e':q.1=k:=h1.symm.trans e;have b:valueAt (q::qs) k=some q.2:=by simp [valueAt,List.find?_cons,e']
     rw[cQ e,b];exact h2
   . have e':¬ q.1=k:=fun z=>e (h1.trans z)
     have b:valueAt (q::qs) k=valueAt qs k:=by simp [valueAt,List.find?_cons,e']
     rw[cR e,b];exact ih
theorem KV.any{kvs:List (κ×V)}{vs:List (κ×Value)}(r:KV kvs vs)(k:κ):(kvs.any fun kv=>decide (kv.1=k))=vs.any fun kv=>decide (kv.1=k):=by
 unfold KV at r
 induction r with
 | nil=>rfl
 | cons h t ih=>rw[List.any_cons,List.any_cons,ih,h.1]
theorem KV.repl{kvs:List (κ×V)}{vs:List (κ×Value)}(r:KV kvs vs)(k:κ){y:V}{u:Value}(ry:RelV y u) :
 KV (kvs.map fun kv=>if kv.1=k then(kv.1,y)else kv) (vs.map fun kv=>if kv.1=k then(kv.1,u)else kv):=by
 unfold KV at r ⊢
 induction r with
 | nil=>exact .nil
 | @cons p q ps qs h t ih=>
   rw[qG0,qG0];refine .cons ?_ ih;obtain⟨h1,h2⟩:=h
   by_cases e:p.1=k
   . rw[zI0 e,zI0 (h1.symm.trans e)];exact⟨h1,ry⟩
   . rw[zF0 e,zF0 (fun z=>e (h1.trans z))];exact⟨h1,h2⟩
theorem KV.put{kvs:List (κ×V)}{vs:List (κ×Value)}(r:KV kvs vs)(k:κ){y:V}{u:Value}(ry:RelV y u):KV (fD kvs k y) (stored vs k u):=by
 unfold fD stored;rw[r.any k]
 by_cases e:(vs.any fun kv=>decide (kv.1=k))=true
 . rw[zI0 e,zI0 e];exact r.repl k ry
 . rw[zF0 e,zF0 e];exact Paired.snoc r ⟨rfl,ry⟩
theorem KV.length{kvs:List (κ×V)}{vs:List (κ×Value)}(r:KV kvs vs):kvs.length=vs.length:=Paired.length r
end
theorem oy{P:Program}{w:World}{k:Key}{u:Value}(r:RelV (kV k) u):(bj P w).is k u=true:=by
 cases k with
 | inl i=>obtain⟨t,e⟩:=(show ∃t,u=Value.int i t from r);subst e;exact sk P w i t
 | inr x=>obtain⟨t,e⟩:=(show ∃t,u=Value.str x t from r);subst e;exact sj P w x t
theorem pJ{P:Program}{w:World}:∀{ks:List Key}{us:List Value},Vals (ks.map kV) us->ItemsAre (bj P w) ks us
 | [],_,r=>by rw[List.map_nil]at r;cases r;exact .nil
 | k::ks,_,r=>by
   rw[qG0]at r;cases r with
   | cons h t=>exact .cons (oy h) (pJ t)
abbrev KT(H:Hp):List (List Key×V)->List (List Key×Addr×Value)->Prop:=Paired fun p q=>p.1=q.1/\H q.2.1=some (.tup (p.1.map kV))/\RelV p.2 q.2.2
theorem KT.val{H:Hp}{kvs:List (List Key×V)}{xs:List (List Key×Addr×Value)}(r:KT H kvs xs)(k:List Key):RelO (bN kvs k) ((atKey xs k).map (·.2)):=by
 induction r with
 | nil=>exact True.intro
 | @cons p q ps qs h t ih=>
   obtain⟨h1,_,h2⟩:=h
   by_cases e:p.1=k
   . have e':q.1=k:=h1.symm.trans e;have b:atKey (q::qs) k=some q.2:=by simp [atKey,List.find?_cons,e']
     rw[cQ e,b];exact h2
   . have e':¬ q.1=k:=fun z=>e (h1.trans z)
     have b:atKey (q::qs) k=atKey qs k:=by simp [atKey,List.find?_cons,e']
     rw[cR e,b];exact ih
theorem KT.repl{H:Hp}{kvs:List (List Key×V)}{xs:List (List Key×Addr×Value)}(r:KT H kvs xs)(k:List Key){y:V}{u:Value}(ry:RelV y u) :
 KT H (kvs.map fun kv=>if kv.1=k then(kv.1,y)else kv) (xs.map (putAt k u)):=by
 induction r with
 | nil=>exact .nil
 | @cons p q ps qs h t ih=>
   rw[qG0,qG0];refine .cons ?_ ih;obtain⟨h1,h2,h3⟩:=h;unfold putAt
   by_cases e:p.1=k
   . rw[zI0 e,zI0 (h1.symm.trans e)];exact⟨h1,h2,ry⟩
   . rw[zF0 e,zF0 (fun z=>e (h1.trans z))];exact⟨h1,h2,h3⟩
theorem KT.put{H:Hp}{kvs:List (List Key×V)}{xs:List (List Key×Addr×Value)}(r:KT H kvs xs)(k:List Key){b:Addr}{y:V}{u:Value}(hb:H b=some (.tup (k.map kV)))(ry:RelV y u) :
 KT H (fD kvs k y) (storedH xs k b u):=by
 have e:(kvs.any fun kv=>decide (kv.1=k))=(atKey xs k).isSome:=by
  rw[kx,(r.val k).isSome_eq,Option.isSome_map]
 unfold fD storedH;rw[e]
 by_cases q:(atKey xs k).isSome=true
 . rw[zI0 q,zI0 q];exact r.repl k ry
 . rw[zF0 q,zF0 q];exact Paired.snoc r ⟨rfl,hb,ry⟩
theorem KT.keeps{H H':Hp}{kvs:List (List Key×V)}{xs:List (List Key×Addr×Value)}(r:KT H kvs xs)(ht:∀b ys,H b=some (.tup ys)->H' b=some (.tup ys)):KT H' kvs xs:=
 Paired.mapP r fun _ _ z=>⟨z.1,ht _ _ z.2.1,z.2.2⟩
section
variable {P:Program} {w:World} {H:Hp} {h:Heap} {a:Addr}
theorem BU{u:HO}(ok:HOk P w H h)(e:Rd H a u):ObjOk P w H h a u:=e.ok ok
theorem pN{kvs:List (Key×V)}(ok:HOk P w H h)(e:Rd H a (.dK kvs)):kvs.length<=sizeLine/\(a==sysModules)=false/\∃vs,KV kvs vs/\h.DictOf (bj P w) a vs:=
 show ObjOk P w H h a (.dK kvs)from BU ok e
theorem Ci{kvs:List (Key×V)}(ok:HOk P w H h)(e:H a=some (.dK kvs)):kvs.length<=sizeLine/\(a==sysModules)=false/\∃vs,KV kvs vs/\h.DictOf (bj P w) a vs:=pN ok (.inl e)
theorem ox{ks:List Key}(ok:HOk P w H h)(e:H a=some (.tup (ks.map kV))):(tupleKind (bj P w)).is h ks a:=by
 obtain⟨_,its,r,⟨o,h1,h2,n,h3⟩,_⟩:=(show ObjOk P w H h a (.tup (ks.map kV))from ok a _ e)
 exact⟨o,its.toArray,n,h1,h2,h3,by simpa using pJ r⟩
theorem pM{kvs:List (List Key×V)}(ok:HOk P w H h)(e:Rd H a (.dT kvs)):kvs.length<=sizeLine/\(a==sysModules)=false/\
 ∃xs,KT H kvs xs/\h.DictOfH (tupleKind (bj P w)) a xs:=by
 obtain⟨z,y,xs,r,o,es,ep,h1,h2,h3,h4,h5⟩:=(show ObjOk P w H h a (.dT kvs)from BU ok e)
 refine ⟨z,y,xs,r,o,es,ep,h1,h2,h3,h4,fun x hx=>?_,h5⟩;have all:∀{l:List (List Key×V)}{m:List (List Key×Addr×Value)},KT H l m->∀x∈m,(tupleKind (bj P w)).is h x.1 x.2.1:=by
  intro l m q
  induction q with
  | nil=>intro x hx;exact nomatch hx
  | @cons p q ps qs hq t ih=>
    intro x hx;rcases zZ0 hx with e | hx
    . subst e;exact ox ok (by rw[←hq.1];exact hq.2.1)
    . exact ih x hx
 exact all r x hx
theorem dt_of{kvs:List (List Key×V)}(ok:HOk P w H h)(e:H a=some (.dT kvs)):kvs.length<=sizeLine/\(a==sysModules)=false/\
 ∃xs,KT H kvs xs/\h.DictOfH (tupleKind (bj P w)) a xs:=pM ok (.inl e)
end
def DGet(H:Hp)(a:Addr)(y:V)(r:Option V):Prop:=
 (∃kvs k,Rd H a (.dK kvs)/\y=kV k/\r=bN kvs k)∨∃kvs k b,Rd H a (.dT kvs)/\y=.ref b/\H b=some (.tup (k.map kV))/\r=bN kvs k
def DPut(H:Hp)(a:Addr)(y v:V)(H':Hp):Prop:=
 (∃kvs k,H a=some (.dK kvs)/\y=kV k/\kvs.length<sizeLine/\H'=upd H a (.dK (fD kvs k v)))∨
 ∃kvs k b,H a=some (.dT kvs)/\y=.ref b/\H b=some (.tup (k.map kV))/\kvs.length<sizeLine/\H'=upd H a (.dT (fD kvs k v))
theorem DGet.k{H:Hp}{a:Addr}{kvs:List (Key×V)}{k:Key}(e:H a=some (.dK kvs)):DGet H a (kV k) (bN kvs k):=.inl ⟨kvs,k,.inl e,rfl,rfl⟩
theorem DPut.k{H:Hp}{a:Addr}{kvs:List (Key×V)}{k:Key}{v:V}(e:H a=some (.dK kvs))(hl:kvs.length<sizeLine):DPut H a (kV k) v (upd H a (.dK (fD kvs k v))):=.inl ⟨kvs,k,e,rfl,hl,rfl⟩
section
variable {X:Cx} {pins:List (Addr×Obj)} {σ:St} {H:Hp} {s:Shared} {a:Addr} {y v:V} {u r:Value} {o:Option V} {A:Around} {E:Value->Shared->Prop}
theorem Inv.big(I:Inv X pins σ H s):sysModules<s.heap.objs.size:=by
 have h:mainGlobals<s.heap.objs.size:=(I.mod.glob.keeps I.bk).lt;exact Nat.lt_trans (by decide) h
theorem xz{Q:Value->Shared->Prop}(hu:A.units+1<cLine)(I:Inv X pins σ H s)(g:DGet H a y (some v))(ry:RelV y u)(h:∀w' s',Inv X pins σ H s'->RelV v w'->Q w' s') :
 wpAny (model X.prog X.w) A (getItem (.ref a) u) Q E s:=by
 rcases g with⟨kvs,k,e,ey,l⟩ | ⟨kvs,k,b,e,ey,eb,l⟩
 . subst ey;obtain⟨z,hd,vs,rel,dd⟩:=pN I.hok e;obtain⟨w',hw,rw'⟩:=RelO.some_of (v:=v) (o:=valueAt vs k) (by rw[l];exact rel.val k);exact wpAny_getItem_of (oy ry) dd.mapOf hw (h w' _ (I.tok _) rw')
 . subst ey;cases(show u=Value.ref b from ry);obtain⟨z,hd,xs,rel,dd⟩:=pM I.hok e;obtain⟨w',hw,rw'⟩:=RelO.some_of (v:=v) (o:=(atKey xs k).map (·.2)) (by rw[l];exact rel.val k);obtain⟨p,hp,hp2⟩:=qM0 hw;refine wpAny_getItem_heap (tupleKind_room_in1 hu) (ox I.hok eb) dd hp ?_;rw[hp2];exact h w' _ (I.tok _) rw'
theorem By{Q:Value->Shared->Prop}(hu:A.units+1<cLine)(I:Inv X pins σ H s)(g:DGet H a y o)(ry:RelV y u)(h:∀s',Inv X pins σ H s'->Q (.bool (!o.isSome)) s') :
 wpAny (model X.prog X.w) A (compareOp .NotIn u (.ref a)) Q E s:=by
 rcases g with⟨kvs,k,e,ey,l⟩ | ⟨kvs,k,b,e,ey,eb,l⟩
 . subst ey;obtain⟨z,hd,vs,rel,dd⟩:=pN I.hok e;refine wpAny_notIn_of (oy ry) hd dd.mapOf ?_;rw[←(rel.val k).isSome_eq,←l];exact h _ (I.tok _)
 . subst ey;cases(show u=Value.ref b from ry);obtain⟨z,hd,xs,rel,dd⟩:=pM I.hok e;refine wpAny_notIn_heap (tupleKind_room_in1 hu) (ox I.hok eb) hd dd ?_;have q:=(rel.val k).isSome_eq;rw[Option.isSome_map]at q;rw[←q,←l];exact h _ (I.tok _)
theorem qJ{h':Heap}{t':Nat}{ob:HO}(I:Inv X pins σ H s)(mu:Mut (H a))(hs:Heap.SameBut a s.heap h')(he:∃q,h'.get? a=some q)(new:ObjOk X.prog X.w (upd H a ob) h' a ob) :
 Inv X pins σ (upd H a ob) { s with heap:=h',toks:=t' }:=
 I.write (x:=a) (e:=a) mu (.inl rfl) (fun b q hb z=>(hs.2 b hb).trans z) he new
theorem uP{P:Program}{w:World}{H':Hp}{h':Heap}{kvs:List (Key×V)}{vs:List (Key×Value)}(z:kvs.length<=sizeLine)(hd:(a==sysModules)=false)(rel:KV kvs vs)(dd:h'.DictOf (bj P w) a vs) :
 ObjOk P w H' h' a (.dK kvs):=⟨z,hd,vs,rel,dd⟩
theorem xy{H':Hp}{Q:Unit->Shared->Prop}(hu:A.units+1<cLine)(I:Inv X pins σ H s)(g:DPut H a y v H')(ry:RelV y u)(rv:RelV v r)(h:∀s',Inv X pins σ H' s'->Q () s') :
 wpAny (model X.prog X.w) A (setItem (.ref a) u r) Q E s:=by
 rcases g with⟨kvs,k,e,ey,l,eH⟩ | ⟨kvs,k,b,e,ey,eb,l,eH⟩
 . subst ey eH;obtain⟨z,hd,vs,rel,dd⟩:=Ci I.hok e;have hz:vs.length<=sizeLine:=by rw[←rel.length];exact z
   have hl:(fD kvs k v).length<=sizeLine:=by have:=dW kvs k v;omega
   refine wpAny_setItem_pairs (hsz:=hz) (oy ry) dd fun h' dd' hs=>h _ ?_
   have he:∃q,h'.get? a=some q:=let⟨q,_,_,hq,_⟩:=dd';⟨q,hq⟩
   exact qJ I (by rw[e];exact True.intro) hs he (uP hl hd (rel.put k rv) dd')
 . subst ey eH;cases(show u=Value.ref b from ry);obtain⟨z,hd,xs,rel,dd⟩:=dt_of I.hok e;have hz:xs.length<=sizeLine:=by rw[←Paired.length rel];exact z
   have hl:(fD kvs k v).length<=sizeLine:=by have:=dW kvs k v;omega
   refine wpAny_setItem_heap (hsz:=hz) (tupleKind_room_in1 hu) (ox I.hok eb) dd fun h' dd' hs=>h _ ?_
   obtain⟨q,es,ep,hq,h2,h3,h4,_,h5⟩:=dd';refine qJ I (by rw[e];exact True.intro) hs ⟨q,hq⟩ ⟨hl,hd,_,(rel.put k eb rv).keeps fun c ys ec=>?_,q,es,ep,hq,h2,h3,h4,h5⟩;rw[am (be ec e (fun z=>nomatch z))];exact ec
end
def NoSl(i:Expr):Prop:=∀ov iv,subscripted i false ov iv=operate [ov,iv] (getItem ov iv)
theorem AD{prog:Program}{w:World}{A:Around}{E:Value->Shared->Prop}{s:Shared}{env:Env}{value slice:Expr}{pos:Pos}{T id:String}{Q:Value->Shared->Prop}
 (hl:typeLookup (.type T) "__getitem__"=pure (some (.builtin id))) (hs:NoSl slice)
 (h:wpAny (model prog w) A (eval value env) (fun o s₁=>wpAny (model prog w) A (eval slice env) (fun i s₂=>s₂.TypeIs o T/\wpAny (model prog w) A (getItem o i) Q E s₂) E s₁) E s) :
 wpAny (model prog w) A (eval (.Subscript value slice pos) env) Q E s:=by
 refine Subscript_ (wpAny_mono h (fun o s₁ h₁=>wpAny_mono h₁ (fun i s₂ h₂=>?_) fun _ _ x=>x) fun _ _ x=>x);obtain⟨hT,h₂⟩:=h₂;unfold subscriptTail;refine zC0 ?_;rw[getitemInPython_of_ne hT.not_modules];refine zC0 (wpAny_specialOf hT hl ?_);have fin:wpAny (model prog w) A (subscripted slice false o i) (fun r s₃=>wpAny (model prog w) A (letTemporaryGo value o r >>= fun _=>pure r) Q E s₃) E s₂:=by
  rw[hs o i];exact wpAny_operating (wpAny_mono h₂ (fun r s₃ h₃=>zC0 (wpAny_letTemporaryGo (zK0 h₃))) fun _ _ x=>x)
 first
  | exact zK0 (zC0 fin)
  | exact zC0 (zK0 (zC0 fin))
  | exact zC0 fin
theorem sJ {X:Cx} {pins:List (Addr×Obj)} {σ:St} {H:Hp} {s:Shared} {a:Addr} {y:V} {o:Option V} (I:Inv X pins σ H s) (g:DGet H a y o):s.TypeIs (.ref a) "dict":=by
 rcases g with⟨kvs,k,e,_,_⟩ | ⟨kvs,k,b,e,_,_,_⟩
 . obtain⟨_,_,vs,_,dd⟩:=pN I.hok e;exact dd.typeIs
 . obtain⟨_,_,xs,_,dd⟩:=pM I.hok e;exact dd.typeIs
def tDGet(td ty:TE):TE:=fun σ H Q=>td σ H fun x H1=>ty σ H1 fun y H2=>∃a v,x=.ref a/\DGet H2 a y (some v)/\Q v H2
def AB(ty td:TE):TE:=fun σ H Q=>ty σ H fun y H1=>td σ H1 fun x H2=>∃a o,x=.ref a/\DGet H2 a y o/\Q (.bl (!o.isSome)) H2
def sDPut(td ty tv:TE):TS:=fun D σ H=>tv σ H fun v H1=>td σ H1 fun x H2=>ty σ H2 fun y H3=>∃a H4,x=.ref a/\DPut H3 a y v H4/\D.nx σ H4
section
variable {X:Cx} {o i e value:Expr} {pos pos' tpos:Pos} {td ty tv:TE}
theorem bz(hu:X.A.units+1<cLine)(ho:PE X o td)(hi:PE X i ty)(hs:NoSl i):PE X (.Subscript o i pos) (tDGet td ty):=by
 intro pins s σ H Q I h;refine AD PySem.F.slot_dict_getitem.lookup hs (thn (ho pins s σ H _ I h) fun u s1 ⟨x,H1,I1,rx,q1⟩=>thn (hi pins s1 σ H1 _ I1 q1) fun iv s2 ⟨y,H2,I2,ry,a,v,ex,g,q2⟩=>?_);subst ex;obtain rfl:u=Value.ref a:=rx;exact⟨sJ I2 g,xz hu I2 g ry fun w' s3 I3 rw'=>⟨v,H2,I3,rw',q2⟩⟩
theorem wE(hu:X.A.units+1<cLine)(hi:PE X i ty)(ho:PE X o td):PC X .NotIn i o (AB ty td):=by
 intro pins s σ H Q I h;refine thn (hi pins s σ H _ I h) fun iv s1 ⟨y,H1,I1,ry,q1⟩=>thn (ho pins s1 σ H1 _ I1 q1) fun u s2 ⟨x,H2,I2,rx,a,ov,ex,g,q2⟩=>?_
 subst ex;obtain rfl:u=Value.ref a:=rx;exact By hu I2 g ry fun s3 I3=>⟨.bl (!ov.isSome),H2,I3,rfl,q2⟩
theorem kO(hu:X.A.units+1<cLine)(ho:PE X o td)(hi:PE X i ty)(hv:PE X value tv)(hs:swapsWith value (some (.Subscript o i pos')) pos.line X.env=pure false) :
 PS X (.Assign [.Subscript o i pos'] value pos) (sDPut td ty tv):=by
 intro pins s σ H D I h;refine wpAny_Assign_Subscript (thn (hv pins s σ H _ I h) fun r s1 ⟨v,H1,I1,rv,q1⟩=>thn (ho pins s1 σ H1 _ I1 q1) fun u s2 ⟨x,H2,I2,rx,q2⟩=>thn (hi pins s2 σ H2 _ I2 q2) fun iv s3 ⟨y,H3,I3,ry,a,H4,ex,g,q3⟩=>?_) hs;subst ex;obtain rfl:u=Value.ref a:=rx;exact xy hu I3 g ry rv fun s4 I4=>⟨σ,H4,I4,q3⟩
end
theorem sI {P:Program} {w:World} {H:Hp} (h:Heap) (hb:sysModules<h.objs.size):ObjOk P w H (h.push { cls:=.type "dict",data:=.dict #[] }) h.objs.size (.dK []):=
 ⟨qC0 _,beq_eq_false_iff_ne.mpr (Ne.symm (zR0 hb)),[],.nil,Heap.DictOf.new h⟩
def Cw:TE:=fun _ H Q=>∀p,H p=none->Q (.ref p) (upd H p (.dK []))
section
variable {X:Cx} {pos:Pos}
theorem kW:PE X (.Dict [] [] pos) Cw:=fun pins s σ H Q I h=>
 wpAny_Dict_empty ⟨.ref s.heap.objs.size,_,I.laid (a:=s.heap.objs.size) (o:=.dK []) (t':=s.toks) (fun _ _ q=>zQ0 _ q) (zJ0 _) (sI s.heap I.big),rfl,h _ (I.hok.fresh (zJ0 _))⟩
end
def pW:List (TE×TE)->St->Hp->(List (V×V)->Hp->Prop)->Prop
 | [],_,H,Q=>Q [] H
 | (tk,tv)::r,σ,H,Q=>tk σ H fun x H1=>tv σ H1 fun y H2=>pW r σ H2 fun ps H3=>Q ((x,y)::ps) H3
abbrev VV:List (V×V)->List (Value×Value)->Prop:=Paired fun p q=>RelV p.1 q.1/\RelV p.2 q.2
def PPs(X:Cx)(pos:Pos)(keys:List (Option Expr))(values:List Expr)(trs:List (TE×TE)):Prop:=
 ∀(pins:List (Addr×Obj))(s:Shared)(σ:St)(H:Hp)(Q:List (V×V)->Hp->Prop),Inv X pins σ H s->pW trs σ H Q ->
  wpAny (model X.prog X.w) X.A (evalPairs (pairTrees keys values X.env pos)) (fun vs s'=>∃ps H',Inv X pins σ H' s'/\VV ps vs/\Q ps H') X.xe s
theorem qk{X:Cx}{pos:Pos}:PPs X pos [] [] []:=fun pins s σ H Q I h=>pairTrees_nil_walk ⟨[],H,I,.nil,h⟩
theorem cH{X:Cx}{pos:Pos}{k v:Expr}{ks:List (Option Expr)}{vs:List Expr}{tk tv:TE}{trs:List (TE×TE)}(hk:PE X k tk)(hv:PE X v tv)(hr:PPs X pos ks vs trs) :
 PPs X pos (some k::ks) (v::vs) ((tk,tv)::trs):=fun pins s σ H Q I h=>
 pairTrees_cons_walk (thn (hk pins s σ H _ I h) fun u s1 ⟨x,H1,I1,rx,q1⟩=>thn (hv pins s1 σ H1 _ I1 q1) fun w2 s2 ⟨y,H2,I2,ry,q2⟩=>
  thn (hr pins s2 σ H2 _ I2 q2) fun ws s3 ⟨ps,H3,I3,rel,q3⟩=>⟨(x,y)::ps,H3,I3,.cons ⟨rx,ry⟩ rel,q3⟩)
def eJ(kvs more:List (Key×V)):List (Key×V):=more.foldl (fun acc kv=>fD acc kv.1 kv.2) kvs
theorem KV.merge:∀{more:List (Key×V)}{rs:List (Key×Value)}{kvs:List (Key×V)}{vs:List (Key×Value)},KV more rs->KV kvs vs->KV (eJ kvs more) (merged vs rs):=by
 intro more rs kvs vs r;unfold KV at r
 induction r generalizing kvs vs with
 | nil=>intro q;exact q
 | @cons p q ps qs h t ih=>
   intro r0;have e:KV (fD kvs p.1 p.2) (stored vs q.1 q.2):=by
    have:=r0.put p.1 h.2
    rw[←h.1];exact this
   exact ih e
theorem ic:∀(more kvs:List (Key×V)),(eJ kvs more).length<=kvs.length+more.length
 | [],kvs=>by show kvs.length<=kvs.length+0;omega
 | p::r,kvs=>by
   have h1:=ic r (fD kvs p.1 p.2);have h2:=dW kvs p.1 p.2;show(eJ (fD kvs p.1 p.2) r).length<=_;rw[qF0];omega
theorem oM{P:Program}{w:World}:∀{kvs:List (Key×V)}{ws:List (Value×Value)},VV (kvs.map fun kv=>(kV kv.1,kv.2)) ws->∃rs,Carries (bj P w) ws rs/\KV kvs rs
 | [],_,r=>by rw[List.map_nil]at r;cases r;exact⟨[],True.intro,.nil⟩
 | p::kvs,_,r=>by
   rw[qG0]at r;cases r with
   | @cons a b as bs h t=>
     obtain⟨rs,c,q⟩:=oM (P:=P) (w:=w) t;obtain⟨b1,b2⟩:=b;exact⟨(p.1,b2)::rs,⟨oy h.1,rfl,c⟩,.cons ⟨rfl,h.2⟩ q⟩
def xT(trs:List (TE×TE)):TE:=fun σ H Q=>∀p,H p=none->pW trs σ (upd H p (.dK [])) fun ps H2=>H2 p=some (.dK [])/\∃kvs:List (Key×V),ps=kvs.map (fun kv=>(kV kv.1,kv.2))/\kvs.length<=15/\Q (.ref p) (upd H2 p (.dK (eJ [] kvs)))
theorem qo{X:Cx}{pos:Pos}{keys:List (Option Expr)}{values:List Expr}{trs:List (TE×TE)}(h:PPs X pos keys values trs)(hall:keys.all (·.isSome)=true)(hl:keys.length=values.length)(h0:keys≠[])
 (h15:keys.length<=15):PE X (.Dict keys values pos) (xT trs):=by
 intro pins s σ H Q I q;have hn:=I.hok.fresh (zJ0 s.heap.objs.size);have I1:=I.laid (a:=s.heap.objs.size) (o:=.dK []) (h':=s.heap.push { cls:=.type "dict",data:=.dict #[] }) (t':=s.toks) (fun _ _ q=>zQ0 _ q) (zJ0 _) (sI s.heap I.big);refine wpAny_Dict_walk (knd:=bj X.prog X.w) hall hl h0 h15 (thn (h pins _ σ _ _ I1 (q _ hn)) fun ws s2 ⟨ps,H2,I2,rel,e,kvs,ep,lk,q2⟩=>?_);subst ep;obtain⟨rs,c,rk⟩:=oM (P:=X.prog) (w:=X.w) rel;obtain⟨z,hd,vs0,r0,dd⟩:=Ci I2.hok e;cases r0;refine⟨rs,c,dd,fun h' dd' hs=>⟨.ref s.heap.objs.size,_,?_,rfl,q2⟩⟩;have hz:(eJ [] kvs).length<=sizeLine:=by
  have h1:=ic kvs [];rw[List.length_nil]at h1;rw[sizeLine_eq];omega
 have he:∃q,h'.get? s.heap.objs.size=some q:=let⟨q,_,_,hq,_⟩:=dd';⟨q,hq⟩
 exact qJ I2 (by rw[e];exact True.intro) hs he (uP hz hd (rk.merge .nil) dd')
structure M2(X:Cx)(o:Expr)(m:Str)(apos:Pos)(e f:Expr)(cpos:Pos):Prop where
 base:attributeBase o m X.env (eval o X.env)=eval o X.env
 few:((backTo cpos (starEach [e,f] X.env)).all (fun x=>!x.1)&&(backToKw cpos (keywordEach [] X.env)).all (fun x=>x.1.isSome)
  &&decide (([e,f]:List Expr).length+([]:List Keyword).length+(if([]:List Keyword).isEmpty then 0 else 1)<30))=true
 line:(apos.endLine==cpos.line)=true
 trees:backTo cpos (starEach [e,f] X.env)=[(false,eval e X.env),(false,eval f X.env)]
def IsD(H:Hp)(a:Addr):Prop:=(∃kvs,Rd H a (.dK kvs))∨∃kvs,Rd H a (.dT kvs)
theorem Dv{X:Cx}{pins:List (Addr×Obj)}{σ:St}{H:Hp}{s:Shared}{a:Addr}(I:Inv X pins σ H s)(d:IsD H a) :
 s.TypeIs (.ref a) "dict"/\(∀b,Value.ref a=.ref b->∃ob,s.heap.get? b=some ob/\ob.dict=none)/\(a==sysModules)=false:=by
 rcases d with⟨kvs,e⟩ | ⟨kvs,e⟩
 . obtain⟨_,hd,vs,_,dd⟩:=pN I.hok e;refine⟨dd.typeIs,fun b q=>?_,hd⟩;cases q;obtain⟨ob,_,_,h1,h2,_⟩:=dd;exact⟨ob,h1,h2.2.1⟩
 . obtain⟨_,hd,xs,_,dd⟩:=pM I.hok e;refine⟨dd.typeIs,fun b q=>?_,hd⟩;cases q;obtain⟨ob,_,_,h1,h2,_⟩:=dd;exact⟨ob,h1,h2.2.1⟩
section
variable {X:Cx} {pins:List (Addr×Obj)} {σ:St} {H:Hp} {s:Shared} {a:Addr} {y d:V} {u r:Value} {o:Option V} {A:Around} {E:Value->Shared->Prop}
theorem DE{Q:Value->Shared->Prop}(hu:A.units+1<cLine)(I:Inv X pins σ H s)(g:DGet H a y o)(ry:RelV y u)(rd:RelV d r)(h:∀w' s',Inv X pins σ H s'->RelV (o.getD d) w'->Q w' s') :
 wpAny (model X.prog X.w) A (call (.builtin "dict.get") [.ref a,u,r]) Q E s:=by
 rcases g with⟨kvs,k,e,ey,l⟩ | ⟨kvs,k,b,e,ey,eb,l⟩
 . subst ey;obtain⟨z,hd,vs,rel,dd⟩:=pN I.hok e;refine call_meetsIn PySem.F.slot_dict_get dd.typeIs PySem.F.entry_dict_get (PySem.F.args_dict_get_3 _ _ _) (meets_dict_get_default (bj X.prog X.w) a (oy ry) hd r) ⟨_,dd.mapOf,h _ _ (I.tok _) ?_⟩;rw[l];exact(rel.val k).getD rd
 . subst ey;cases(show u=Value.ref b from ry);obtain⟨z,hd,xs,rel,dd⟩:=pM I.hok e;refine call_meetsIn PySem.F.slot_dict_get dd.typeIs PySem.F.entry_dict_get (PySem.F.args_dict_get_3 _ _ _) (meetsH_dict_get_default (tupleKind (bj X.prog X.w)) a b hd r) ⟨tupleKind_room_in1 hu,k,xs,ox I.hok eb,dd,h _ _ (I.tok _) ?_⟩;rw[l];exact(rel.val k).getD rd
end
def Cy(td ty tx:TE):TE:=fun σ H Q=>td σ H fun x H1=>∃a,x=.ref a/\IsD H1 a/\ty σ H1 fun y H2=>tx σ H2 fun z H3=>∃o,DGet H3 a y o/\Q (o.getD z) H3
section
variable {X:Cx} {o e f:Expr} {apos cpos:Pos} {td ty tx:TE}
theorem kX (hu:X.A.units+1<cLine) (ho:PE X o td) (he:PE X e ty) (hf:PE X f tx) (m:M2 X o "get" apos e f cpos):PE X (.Call (.Attribute o "get" apos) [e,f] [] cpos) (Cy td ty tx):=by
 intro pins s σ H Q I h;refine wpAny_Call_method m.base m.few m.line PySem.F.plainAttrs_dict PySem.F.slot_dict_get PySem.F.type_dict_get (thn (ho pins s σ H _ I h) fun u s1 ⟨x,H1,I1,rx,a,ex,d,q1⟩=>?_);subst ex;obtain rfl:u=Value.ref a:=rx;obtain⟨t1,t2,_⟩:=Dv I1 d;refine⟨t1,t2,?_⟩;rw[m.trees];refine Calls.callWith_builtin rfl (Calls.evalArgs_plain (Calls.spliced_cons (thn (he pins s1 σ H1 _ I1 q1) fun iv s2 ⟨y,H2,I2,ry,q2⟩=>
  Calls.spliced_cons (thn (hf pins s2 σ H2 _ I2 q2) fun fv s3 ⟨z,H3,I3,rz,ov,g,q3⟩=>Calls.spliced_nil ?_))))
 exact DE hu I3 g ry rz fun w' s4 I4 rw'=>⟨_,H3,I4,rw',q3⟩
end
section
variable {X:Cx}
theorem Inv.tupD{pins:List (Addr×Obj)}{σ:St}{H:Hp}{s:Shared}{a:Addr}{xs:List V}(I:Inv X pins σ H s)(h:H a=some (.tup xs)):∃ob,s.heap.get? a=some ob/\ob.dict=none:=by
 obtain⟨_,_,_,_,o,e,d⟩:=(show ObjOk X.prog X.w H s.heap a (.tup xs)from I.hok a _ h)
 exact⟨o,e,d⟩
def Cu(K:W.Frag)(to:TE)(t:TA):TE:=fun σ H Q=>to σ H fun x H1=>∃(a:Addr)(ns:List Str),x=.ref a/\(H1 a=some (.lst (ns.map V.str))∨H1 a=some (.tup (ns.map V.str)))/\t σ H1 fun vs H2=>(H2 a=H1 a)/\∃(z:Str)(j:Nat),vs=[.str z]/\cK z ns=some j/\Q (.int (j:Int)) H2
variable {o e:Expr} {es:List Expr} {to:TE} {t:TA} {apos cpos:Pos}
theorem rM (pl:PlainAttrs "list") (pt:PlainAttrs "tuple") (ho:PE X o to) (ha:PA X (e::es) t)
 (hbase:attributeBase o "index" X.env (eval o X.env)=eval o X.env:=by rfl)
 (hfew:((backTo cpos (starEach (e::es) X.env)).all (fun x=>!x.1)&&(backToKw cpos (keywordEach [] X.env)).all (fun x=>x.1.isSome)
  &&decide ((e::es).length+([]:List Keyword).length+(if([]:List Keyword).isEmpty then 0 else 1)<30))=true:=by rfl)
 (hline:(apos.endLine==cpos.line)=true:=by rfl) (hs:starEach (e::es) X.env=(false,eval e X.env)::starEach es X.env:=by rfl) (hplain:(backTo cpos (starEach es X.env)).any (·.1)=false:=by rfl) :
 PE X (.Call (.Attribute o "index" apos) (e::es) [] cpos) (Cu X.K to t):=by
 intro pins s σ H Q I h;refine wpAny_Call_method_late hbase hfew hline rfl (thn (ho pins s σ H _ I h) fun v s1 ⟨x,H1,I1,r1,a,ns,ex,hh,q1⟩=>?_);subst ex;cases r1;have hA:=ha cpos pins s1 σ H1 _ I1 q1;rw[hs]at hA ⊢;rcases hh with hh | hh
 . obtain ⟨its,_,p,_⟩:=I1.list (zG0 hh);obtain⟨ob,n,e1,c,d,_⟩:=id p;refine⟨"list","list.index",pl,F.slot_list_index,F.type_list_index,p.isList.typeIs,fun b eb=>?_,?_⟩
   . cases eb;exact⟨ob,e1,d⟩
   . refine Calls.callWith_builtin (by show(false||(backTo cpos (starEach es X.env)).any (·.1))=false;rw[hplain] <;> rfl) (Calls.evalArgs_plain ?_);exact thn hA fun us s2 ⟨vs,H2,I2,r2,ek,z,j,ez,hp,q2⟩=>wU pins s2 σ H2 (.ref a) vs (.ref a) us Q I2 rfl r2 ⟨a,ns,z,j,rfl,ez,zG0 (ek.trans hh),hp,q2⟩
 . obtain ⟨its,_,p,_⟩:=I1.tuple (zD0 hh);refine⟨"tuple","tuple.index",pt,F.slot_tuple_index,F.type_tuple_index,p.typeIs,fun b eb=>?_,?_⟩
   . cases eb;exact I1.tupD hh
   . refine Calls.callWith_builtin (by show(false||(backTo cpos (starEach es X.env)).any (·.1))=false;rw[hplain] <;> rfl) (Calls.evalArgs_plain ?_);exact thn hA fun us s2 ⟨vs,H2,I2,r2,ek,z,j,ez,hp,q2⟩=>wT pins s2 σ H2 (.ref a) vs (.ref a) us Q I2 rfl r2 ⟨a,ns,z,j,rfl,ez,zD0 (ek.trans hh),hp,q2⟩
end
theorem CompScope.three{X:Cx}{x y z u:Str}{scope:Scope}{k l m:Nat}{c d e:Addr}{cl:List (Str×Addr)}(c1:closureFor scope X.env=pure cl)(c2:∀y∈scope.names,y.2≠.cell)(c3:scope.kind=.function)(c4:∀y∈scope.names,y.2=.local->scope.names.lookup y.1=some .local)
 (c5:scope.names.lookup x=some .local) (nd:[x,y,z,u].Nodup) (hcl:cl=[(y,c),(z,d),(u,e)]) (hc:X.env.cells.lookup y=some c) (hd:X.env.cells.lookup z=some d) (he:X.env.cells.lookup u=some e) (c6:((relabel scope X.env).names.all fun p=>!(p.2==.cell||p.2==.free)||(cl.lookup p.1).isSome)=true)
 (hr:(relabel scope X.env).names.lookup y=some .cell) (hk:X.N[k]?=some y) (hs:X.env.scope.names.lookup y=some .cell)
 (hr2:(relabel scope X.env).names.lookup z=some .cell) (hk2:X.N[l]?=some z) (hs2:X.env.scope.names.lookup z=some .cell)
 (hr3:(relabel scope X.env).names.lookup u=some .cell) (hk3:X.N[m]?=some u) (hs3:X.env.scope.names.lookup u=some .cell):CompScope X x [y,z,u] [k,l,m] scope cl where
 clos:=c1
 nocell:=c2
 kind:=c3
 names:=c4
 own:=c5
 nd:=nd
 sub:=fun p hp=>by
  subst hcl;rcases zZ0 hp with h | h
  . rw[h];assumption
  . rcases zZ0 h with h | h
    . rw[h];assumption
    . rw[zP0 h];assumption
 has:=c6
 outs:=fun j w h=>by
  have nyz:y≠z:=fun e=>by simp [e]at nd
  have nyu:y≠u:=fun e=>by simp [e]at nd
  have nzu:z≠u:=fun e=>by simp [e]at nd
  subst hcl
  match j,h with
  | 0,h=>
    have e:y=w:=zS0 h;subst e;exact⟨hr,k,c,rfl,hk,by simp [List.lookup],hs⟩
  | 1,h=>
    have e:z=w:=zS0 h;subst e
    have:(z==y)=false:=by simpa using Ne.symm nyz
    exact⟨hr2,l,d,rfl,hk2,by simp [List.lookup,this],hs2⟩
  | 2,h=>
    have ew:u=w:=zS0 h;subst ew;have h1:(u==y)=false:=by simpa using Ne.symm nyu
    have h2:(u==z)=false:=by simpa using Ne.symm nzu
    exact⟨hr3,m,e,rfl,hk3,by simp [List.lookup,h1,h2],hs3⟩
  | j+3,h=>simp at h
section
variable {X:Cx}
theorem pO{x:V}:∀{xs:List V}{us:List Value},Vals xs us->xs.all ja=true->us.countP (eqU x)=xs.countP fun y=>eqV y x
 | _,_,.nil,_=>rfl
 | y::xs,u::us,.cons r t,f=>by
   rw[List.all_cons,Bool.and_eq_true]at f;rw[List.countP_cons,List.countP_cons,uN r f.1,pO t f.2]
def vB(K:W.Frag):V->List V->Hp->VK->Prop:=fun x vs H Q=>∃(a:Addr)(xs:List V)(z:V),x=.ref a/\vs=[z]/\SqL K H a xs/\xs.all ja=true/\ja z=true/\Q (.int ((xs.countP fun y=>eqV y z:Nat):Int)) H
theorem rZ:MtR X "list.count" (vB X.K):=by
 intro pins s σ H x vs v us Q I rx rv h;obtain⟨a,xs,z,rfl,rfl,hq,fs,fz,q⟩:=h;cases rx;obtain⟨u,rfl,ru⟩:=rv.one;obtain⟨its,r,⟨⟨cls,dd,data,sl⟩,n,ho,hc,hdd,hd⟩,hz⟩:=I.list hq;simp only at hc hd;subst hc hd;refine call_meets F.slot_list_count ⟨_,ho,rfl⟩ F.entry_list_count (F.args_list_count_2 _ _) (SeqAt.list_countAt a its.toArray n dd sl u (eqU z)) ⟨ho,fun y hy=>?_,?_⟩
 . exact fV ru fz r fs y (by simpa using hy)
 . rw[show its.toArray.toList=its from rfl,pO r fs];exact⟨.int ((xs.countP fun y=>eqV y z:Nat):Int),H,I.tok _,⟨_,rfl⟩,q⟩
end
def dq(g:Nat->Int):Nat->Int
 | 0=>g 0
 | k+1=>if dq g k<g (k+1)then g (k+1)else dq g k
theorem sS(g:Nat->Int):∀n k,k<=n->g k<=dq g n
 | 0,k,h=>by
   have e:k=0:=by omega
   subst e;exact Int.le_refl _
 | n+1,k,h=>by
   unfold dq
   by_cases c:k=n+1
   . subst c
     split <;> omega
   . have:=sS g n k (by omega)
     split <;> omega
def wX(ns:List Int)(d:Int):Int:=match ns with | []=>d | _::_=>dq (fun i=>ns[i]?.getD 0) (ns.length-1)
theorem Br{ns:List Int}{d x:Int}(h:x∈ns):x<=wX ns d:=by
 obtain⟨i,hi,e⟩:=List.getElem_of_mem h;cases ns with
 | nil=>cases h
 | cons a r=>
   have:=sS (fun i=>(a::r)[i]?.getD 0) ((a::r).length-1) i (by omega)
   simp only[zU0 hi,Option.getD_some,e]at this;exact this
section
variable {prog:Program} {w:World} {A:Around} {R:Result->Shared->Prop} {I S:Addr} {fp wr:List Addr} {n:Nat} {P:Nat->Value->Prop} {St:Nat->Heap->Prop} {g:Nat->Int} {kw:List (Str×Value)}
theorem nh:(toString "max"++toString ".loop":String)="max.loop":=by decide
theorem zG(W:Walks prog w A.in1 I fp wr n P St)(gv:∀i v,P i v->∃t,v=Value.int (g i) t)(nS:S∉fp):∀(k j:Nat)(s:Shared)(t:Tok)(c:Nat),j+1+k=n->St (j+1) s.heap ->
 s.heap.get? S=some { cls:=.type "list",dict:=none,data:=.seq #[.int (dq g j) t,.int (dq g j) t] c,slots:=#[] } ->
 (∀t' h' tk,(∀b o,b∉wr->b≠S->s.heap.get? b=some o->h'.get? b=some o)->R (.ok (.ret (.int (dq g (n-1)) t'))) { s with heap:=h',toks:=tk }) ->
 codeAny (model prog w) A (.builtin "max.loop" ⟨[.ref I,.none,.ref S],kw⟩) R s:=by
 have nw:S∉wr:=fun z=>nS (W.sub _ z)
 intro k
 induction k with
 | zero=>
   intro j s t c ek st eS q;refine codeAny_builtin F.entry_max_loop ?_;rw[Around.under_plainId F.plain_max_loop _];show wpAny _ A.in1 (seqItems? (.ref S) >>= _) _ _ s;refine zC0 (wpAny_seqItems eS rfl ?_);show wpAny _ A.in1 (tryCatch (pyNext (.ref I)) _ >>= _) _ _ s;refine zC0 (wpAny_tryCatch (W.done s _ _ (by rw[←ek];exact st) fun h' tk kp=>?_));show wpAny _ A.in1 (updateSeq S (fun _=>#[]) >>= _) _ _ _;refine zC0 ?_;refine wpAny_updateSeq (kp S _ nw eS) rfl (zC0 (wpAny_letGo (zK0 ?_)));have e:n-1=j:=by omega
   rw[e]at q;exact q t _ tk fun b o h1 h2 eb=>(Heap.get?_update_other _ _ (Ne.symm h2)).trans (kp b o h1 eb)
 | succ k ih=>
   intro j s t c ek st eS q;refine codeAny_builtin F.entry_max_loop ?_;rw[Around.under_plainId F.plain_max_loop _];show wpAny _ A.in1 (seqItems? (.ref S) >>= _) _ _ s;refine zC0 (wpAny_seqItems eS rfl ?_);show wpAny _ A.in1 (tryCatch (pyNext (.ref I)) _ >>= _) _ _ s;refine zC0 (wpAny_tryCatch (W.item (j+1) s _ _ (by omega) st fun v h' tk pv st' kp=>?_));obtain⟨tv,rfl⟩:=gv _ _ pv;have eS':=kp S _ nw eS;show wpAny _ A.in1 (tryCatch (holding [Value.int (g (j+1)) tv,Value.int (g (j+1)) tv] (richCompare .Gt (Value.int (g (j+1)) tv) (Value.int (dq g j) t) >>= _)) _ >>= _) _ _ _;refine zC0 (wpAny_tryCatch (wpAny_holding (zC0 (CmpOf.ints_gt (prog:=prog) (w:=w) (A:=A.in1) (P:=fun i v=>∃t,v=Value.int (if i=0 then dq g j else g (j+1)) t) (fun i=>if i=0 then dq g j else g (j+1)) (fun i v h=>h) 1 0 _ _ _ _ _ ⟨tv,rfl⟩ ⟨t,rfl⟩ ?_))));refine zC0 (wpAny_holding (wpAny_truthy_bool ?_));refine zC0 (wpAny_letGo (zK0 ?_))
   by_cases c1:dq g j<g (j+1)
   . have e1:dq g (j+1)=g (j+1):=by unfold dq;rw[zI0 c1]
     refine wpAny_ite_split (fun _=>?_) (fun hab=>absurd (decide_eq_true c1) hab);refine zC0 ?_;refine wpAny_updateSeq eS' rfl (zC0 (wpAny_letGo ?_));rw[nh];refine zK0 ⟨plainId_quiet F.plain_max_loop _,ih (j+1) _ tv _ (by omega) (W.frame _ _ _ st' fun b hb o eb=>?_) (by rw[e1];exact Heap.get?_update_self _ eS' rfl) fun t' h2 tk2 kp2=>?_⟩
     . exact(Heap.get?_update_other _ _ (fun z:S=b=>nS (by rw[z];exact hb))).trans eb
     . exact q t' h2 tk2 fun b o h1 h3 eb=>kp2 b o h1 h3 ((Heap.get?_update_other _ _ (Ne.symm h3)).trans (kp b o h1 eb))
   . have e1:dq g (j+1)=dq g j:=by unfold dq;rw[zF0 c1];cases j <;> rfl
     refine wpAny_ite_split (fun hab=>absurd (of_decide_eq_true hab) c1) (fun _=>?_);refine zC0 (wpAny_letGo ?_);rw[nh];refine zK0 ⟨plainId_quiet F.plain_max_loop _,ih (j+1) _ t c (by omega) st' (by rw[e1];exact eS') fun t' h2 tk2 kp2=>?_⟩;exact q t' h2 tk2 fun b o h1 h3 eb=>kp2 b o h1 h3 (kp b o h1 eb)
theorem zH (W:Walks prog w A.in1 I fp wr n P St) (gv:∀i v,P i v->∃t,v=Value.int (g i) t) (nS:S∉fp) (hn:0<n) {s:Shared} {c:Nat} (st:St 0 s.heap) (eS:s.heap.get? S=some { cls:=.type "list",dict:=none,data:=.seq #[] c,slots:=#[] })
 (q:∀t' h' tk,(∀b o,b∉wr->b≠S->s.heap.get? b=some o->h'.get? b=some o)->R (.ok (.ret (.int (dq g (n-1)) t'))) { s with heap:=h',toks:=tk }) :
 codeAny (model prog w) A (.builtin "max.loop" ⟨[.ref I,.none,.ref S],kw⟩) R s:=by
 have nw:S∉wr:=fun z=>nS (W.sub _ z)
 refine codeAny_builtin F.entry_max_loop ?_;rw[Around.under_plainId F.plain_max_loop _];show wpAny _ A.in1 (seqItems? (.ref S) >>= _) _ _ s;refine zC0 (wpAny_seqItems eS rfl ?_);show wpAny _ A.in1 (tryCatch (pyNext (.ref I)) _ >>= _) _ _ s;refine zC0 (wpAny_tryCatch (W.item 0 s _ _ hn st fun v h' tk pv st' kp=>?_));obtain⟨tv,rfl⟩:=gv _ _ pv;have eS':=kp S _ nw eS;show wpAny _ A.in1 (updateSeq S (fun _=>#[Value.int (g 0) tv,Value.int (g 0) tv]) >>= _) _ _ _;refine zC0 ?_;refine wpAny_updateSeq eS' rfl ?_;rw[nh];refine zK0 ⟨plainId_quiet F.plain_max_loop _,zG W gv nS (n-1) 0 _ tv _ (by omega) (W.frame _ _ _ st' fun b hb o eb=>?_) (Heap.get?_update_self _ eS' rfl) fun t' h2 tk2 kp2=>?_⟩
 . exact(Heap.get?_update_other _ _ (fun z:S=b=>nS (by rw[z];exact hb))).trans eb
 . exact q t' h2 tk2 fun b o h1 h3 eb=>kp2 b o h1 h3 ((Heap.get?_update_other _ _ (Ne.symm h3)).trans (kp b o h1 eb))
end
section
variable {X:Cx} {e k:Expr} {te tk:TE} {pos p1 kp:Pos}
def BV(K:W.Frag):List V->Hp->VK->Prop:=fun xs H Q=>∃a ns,xs=[.ref a]/\SqL K H a (ns.map V.int)/\ns≠[]/\Q (.int (wX ns 0)) H
theorem lU (hc:X.calm=true):hZ X (.builtin "max") (BV X.K):=by
 intro pins s2 σ H2 xs us Q I2 r h;obtain⟨a,ns,rfl,hq,hn,q⟩:=h;obtain⟨u,rfl,ru⟩:=lW r;cases ru;obtain⟨its,r',p,hz⟩:=I2.list hq;have hl:=r'.length;rw[zH0]at hl;have hlt:a<s2.heap.objs.size:=by obtain⟨o,n,e,_⟩:=p;exact zN0 e
 refine call_function_tree F.kind_max F.plain_max F.entry_max (F.args_max1 _) ?_;show wpAny _ X.A.in1 (Builtin.Builtins.bindParams "max" ["key","default"] 0 ⟨[],[]⟩ >>= fun _=>_) _ _ s2;refine zC0 (wpAny_of_eq (a:=[none,none]) rfl ?_);refine zC0 (zK0 ?_);refine zC0 (wpAny_pyIter_list p.isList ?_);refine zC0 (wpAny_newObj_type ?_);rw[nh];have hne:a≠s2.heap.objs.size:=zR0 hlt;have W:=Walks.list (prog:=X.prog) (w:=X.w) (A:=X.A.in1) (I2.ok.hd hc) s2.heap.objs.size a hne its.toArray;have I3:Inv X pins σ H2 { s2 with heap:=s2.heap.push { cls:=.type "list_iterator",data:=.fields #[.ref a,.int 0 0] } }:=I2.kept (t':=s2.toks) fun b o eb=>zQ0 _ eb
 have I4:Inv X pins σ H2 { s2 with heap:=(s2.heap.push { cls:=.type "list_iterator",data:=.fields #[.ref a,.int 0 0] }).push { cls:=.type "list",data:=.seq #[] } }:=I3.kept (t':=s2.toks) fun b o eb=>zQ0 _ eb
 have hz1:∀o:Obj,(s2.heap.push o).objs.size=s2.heap.objs.size+1:=fun o=>by simp [Heap.push]
 have nS:(s2.heap.push { cls:=.type "list_iterator",data:=.fields #[.ref a,.int 0 0] }).objs.size∉[s2.heap.objs.size,a]:=by
  intro hm;rcases zZ0 hm with z | z
  . rw[hz1]at z;exact absurd z (Nat.succ_ne_self _)
  . have z:=zP0 z;rw[hz1]at z;exact absurd z (qS0 (Nat.lt_succ_of_lt hlt))
 have gv:∀i v,its.toArray[i]?=some v->∃t,v=Value.int (ns[i]?.getD 0) t:=fun i v hv=>by
  obtain⟨b,t,hb,rfl⟩:=oA r' (i:=i) (v:=v) (by first | exact hv | simpa using hv | (rw[List.getElem?_toArray]at hv;exact hv));exact⟨t,by rw[hb];rfl⟩
 have n0:0<ns.length:=List.length_pos_iff.mpr hn;refine zK0 ⟨plainId_quiet F.plain_max_loop _,zH (g:=fun i=>ns[i]?.getD 0) W gv nS (by rw[zW0,←hl];exact n0) ⟨⟨_,zQ0 _ (qA0 _ rfl),rfl,rfl⟩,(p.isList.push _).push _⟩ (qA0 _ rfl) fun t' h' tk kp=>?_⟩;rw[zW0,←hl];have em:dq (fun i=>ns[i]?.getD 0) (ns.length-1)=wX ns 0:=by
  cases ns with
  | nil=>exact absurd rfl hn
  | cons _ _=>rfl
 rw[em];refine⟨.int _,H2,?_,⟨_,rfl⟩,q⟩;have J:=Inv.turnedL (h':=h') (t':=tk) (ch:=[s2.heap.objs.size,s2.heap.objs.size+1]) I4 (fun b o hb eb=>kp b o (fun z=>hb (by rw[zP0 z];exact qP0)) (fun z=>hb (by rw[z,hz1];exact qQ0 _ qP0)) eb);refine J fun b hb=>?_
 rcases zZ0 hb with h | h
 . rw[h];exact I2.fpOk (zJ0 _) (I2.hok.fresh (zJ0 _))
 . rw[zP0 h];exact I2.fpOk (qI0 _) (I2.hok.fresh (qI0 _))
end
section
variable {prog:Program} {w:World} {A:Around} {E:Value->Shared->Prop} {s:Shared}
theorem vb{it t:Addr}{i:Nat}{items:Array Value}{x:Value}{Q:Value->Shared->Prop}(hit:s.heap.IsTupleIter it t i)(ht:s.heap.IsTuple t items)(hx:items[i]?=some x)
 (q:∀h',h'.IsTupleIter it t (i+1)->Heap.SameBut it s.heap h'->Q x { s with heap:=h' }):wpAny (model prog w) A (Builtin.SmallTypes.nextOf (.ref it)) Q E s:=by
 obtain⟨o,ho,hc,hd⟩:=id hit;obtain⟨ol,hol,_,nl,hdl⟩:=ht;unfold Builtin.SmallTypes.nextOf;refine zC0 (wpAny_callSpecial?_slot (name:=Str.ofString "__next__") hit.typeIs F.slot_tuple_iterator_next (wpAny_call_entry F.slot_tuple_iterator_next hit.typeIs F.entry_tuple_iterator_next ?_ (F.args_tuple_iterator_next_1 _)));show wpAny _ _ (field (.ref it) 0 >>= _) _ _ s;refine zC0 (wpAny_field ho hd (x:=.ref t) rfl ?_);show wpAny _ _ (if(Value.ref t==Value.none)=true then _ else _) _ _ s;rw[zF0 (show ¬ ((Value.ref t==Value.none)=true)from qE0)];show wpAny _ _ (field (.ref it) 1 >>= _) _ _ s;refine zC0 (wpAny_field ho hd (x:=.int i 0) rfl ?_);show wpAny _ _ (seqItems? (.ref t) >>= _) _ _ s;refine zC0 (wpAny_seqItems hol hdl ?_);simp only[qT0,hx];refine zC0 (wpAny_setField ho hd (by simp) (zK0 ⟨x,rfl,zK0 (q _ ?_ (Heap.SameBut.update ..))⟩));exact⟨_,Heap.get?_update_self _ ho (Obj.isFreed_of_fields (Obj.data_mapFields hd _)),(Obj.cls_mapFields ..).trans hc,by rw[Obj.data_mapFields hd];simp [rawInt]⟩
theorem tG{it t:Addr}{i:Nat}{items:Array Value}{Q:Value->Shared->Prop}(hh:A.handled=none)(hit:s.heap.IsTupleIter it t i)(ht:s.heap.IsTuple t items)(hx:items[i]?=none)
 (q:∀h' e,Heap.ExtBut it s.heap h'->(∃o,h'.get? e=some o/\o.cls=.type "StopIteration")->E (.ref e) { s with heap:=h' }):wpAny (model prog w) A (Builtin.SmallTypes.nextOf (.ref it)) Q E s:=by
 obtain⟨o,ho,hc,hd⟩:=id hit;obtain⟨ol,hol,_,nl,hdl⟩:=ht;unfold Builtin.SmallTypes.nextOf;refine zC0 (wpAny_callSpecial?_slot (name:=Str.ofString "__next__") hit.typeIs F.slot_tuple_iterator_next (wpAny_call_entry F.slot_tuple_iterator_next hit.typeIs F.entry_tuple_iterator_next ?_ (F.args_tuple_iterator_next_1 _)));show wpAny _ _ (field (.ref it) 0 >>= _) _ _ s;refine zC0 (wpAny_field ho hd (x:=.ref t) rfl ?_);show wpAny _ _ (if(Value.ref t==Value.none)=true then _ else _) _ _ s;rw[zF0 (show ¬ ((Value.ref t==Value.none)=true)from qE0)];show wpAny _ _ (field (.ref it) 1 >>= _) _ _ s;refine zC0 (wpAny_field ho hd (x:=.int i 0) rfl ?_);show wpAny _ _ (seqItems? (.ref t) >>= _) _ _ s;refine zC0 (wpAny_seqItems hol hdl ?_);simp only[qT0,hx]
 first
  | refine zC0 (wpAny_rule (zC0 (wpAny_setField ho hd (by simp) (zC0 (wpAny_letGo ?_)))))
  | refine zC0 (wpAny_rule (zC0 (wpAny_setField ho hd (by simp) ?_)))
 show wpAny _ _ (newExc (.type "StopIteration") [] >>= _) _ _ _;refine zC0 ?_;simp only[newExc,newTuple];refine zC0 (wpAny_newObj_type ?_ (by size_fits));refine zC0 (m:=firstArgMember _ _) (wpAny_of_eq (a:=Value.none) (by first | rfl | (simp only[firstArgMember];rfl)) ?_);refine wpAny_newObj_type ?_ (by size_fits);simp only[raiseNew];refine zC0 (wpAny_handled ?_)
 first | rw[show A.in1.handled=none from hh] | rw[hh]
 refine zC0 (zK0 (wpAny_throw ?_));exact q _ _ (((Heap.SameBut.update ..).extBut.push _).push _) ⟨_,qA0 _ rfl,rfl⟩
theorem xw{e it t:Addr}{j:Nat}{i:Int}{old:Value}{items:Array Value}{Q:Option Value->Shared->Prop}(hh:A.handled=none)(he:IsEnum s.heap e it i old)(hit:s.heap.IsTupleIter it t j)(ht:s.heap.IsTuple t items)(hx:items[j]?=none)
 (q:∀h',Heap.ExtBut it s.heap h'->Q none { s with heap:=h' }):wpAny (model prog w) A (pyNext (.ref e)) Q E s:=by
 have hT:s.TypeIs (.ref e) "enumerate":=⟨_,he,rfl⟩
 unfold pyNext;refine zC0 (wpAny_attempt (wpAny_callSpecial?_slot (name:=Str.ofString "__next__") hT F.slot_enumerate_next (wpAny_call_entry F.slot_enumerate_next hT F.entry_enumerate_next ?_ (F.args_enumerate_next_1 _))));show wpAny _ _ (field (.ref e) 2 >>= _) _ _ _;refine zC0 (wpAny_field he rfl (x:=.ref it) rfl ?_);refine zC0 (tG hh hit ht hx fun h' x he' hx'=>?_);obtain⟨o,ho,hc⟩:=hx';refine zC0 (wpAny_isInstance (T:="StopIteration") (b:=true) ⟨o,ho,hc⟩ isSubtype_stop ?_);exact zK0 (q h' he')
end
theorem xx{prog:Program}{w:World}{A:Around}(hh:A.handled=none)(it l:Addr)(hne:l≠it)(items:Array Value):Draws prog w A it [it,l] items.size (fun i v=>items[i]?=some v) (fun i h=>h.IsTupleIter it l i/\h.IsTuple l items) where
 live:=fun _ _ st=>let⟨o,ho,_⟩:=st.1;⟨o,ho⟩
 frame:=fun _ _ _ st k=>⟨st.1.at fun o e=>k it (by simp) o e,st.2.at fun o e=>k l (by simp) o e⟩
 item:=fun i s Q E hi st q=>by
  refine vb st.1 st.2 (x:=items[i]) (by simp [hi]) fun h' a b=>?_
  exact q _ h' s.toks (by simp [hi]) ⟨a,st.2.extBut b.extBut hne⟩ b
 done:=fun s Q E st q=>tG hh st.1 st.2 (by simp) q
open AutoSeq1 (wpAny_loadPart') in
set_option maxHeartbeats 1000000 in
theorem sn(l:Addr)(items:Array Value)(n:Nat)(dct:Option Addr)(sl:Array (Option Value)) :
 Meets (Builtin.«enumerate.__new__» ⟨[.type "enumerate",.ref l],[]⟩) (fun _ R s=>s.heap.get? l=some { cls:=.type "tuple",dict:=dct,data:=.seq items n,slots:=sl }/\
  R (.ok (.ret (.ref (s.heap.push { cls:=.type "tuple_iterator",data:=.fields #[.ref l,.int 0 0] }).objs.size)))
   { s with heap:=(s.heap.push { cls:=.type "tuple_iterator",data:=.fields #[.ref l,.int 0 0] }).push { cls:=.type "enumerate",data:=.fields #[.none,.bool false,.ref s.heap.objs.size,rawInt 0,.none,.none] } }):=
 .of_wp fun prog w A R s h=>by
  obtain⟨hp,g,d,tk,os⟩:=s;obtain⟨hl,h⟩:=h;have hsub:=sub_enumerate;have hL:Heap.IsTuple (Shared.heap ⟨hp,g,d,tk,os⟩) l items:=⟨_,hl,rfl,n,rfl⟩
  wp_walk using wpAny_loadPart' hl
  refine wpAny_stack_any fun st=>zK0 ?_
  split
  . rename_i c _ _ _ _ _;cases(c==Value.type "enumerate")
    . wp_walk using wpAny_loadPart' hl,wpAny_pyIter_tuple hL
      exact⟨_,rfl,h⟩
    . wp_walk using wpAny_loadPart' hl,wpAny_pyIter_tuple hL
      exact⟨_,rfl,h⟩
  . wp_walk using wpAny_loadPart' hl,wpAny_pyIter_tuple hL
    exact⟨_,rfl,h⟩
section
variable {prog:Program} {w:World} {A:Around} {E:Value->Shared->Prop} {s:Shared}
theorem uV{l:Addr}{items:Array Value}{Q:Value->Shared->Prop}(hL:s.heap.IsTuple l items)
 (q:∀h',IsEnum h' (s.heap.objs.size+1) s.heap.objs.size 0 .none->h'.IsTupleIter s.heap.objs.size l 0->(∀b o,s.heap.get? b=some o->h'.get? b=some o)->Q (.ref (s.heap.objs.size+1)) { s with heap:=h' }) :
 wpAny (model prog w) A (call (.type "enumerate") [.ref l]) Q E s:=by
 obtain⟨⟨c,dct,dt,sl⟩,hl,hc,n,hd⟩:=hL
 replace hc:c=.type "tuple":=hc
 replace hd:dt=.seq items n:=hd
 subst hc hd;refine callType_new F.called_enumerate (by decide) (F.typeCall_enumerate_1 _) (F.newCall_enumerate_1 _) (fun obj=>F.args_object_init_2 obj _) F.entry_enumerate_new (sn l items n dct sl) ⟨hl,?_⟩;have hz:(s.heap.push { cls:=.type "tuple_iterator",data:=.fields #[.ref l,.int 0 0] }).objs.size=s.heap.objs.size+1:=Heap.size_push ..;show _/\_;rw[hz];have he:IsEnum ((s.heap.push { cls:=.type "tuple_iterator",data:=.fields #[.ref l,.int 0 0] }).push { cls:=.type "enumerate",data:=.fields #[.none,.bool false,.ref s.heap.objs.size,rawInt 0,.none,.none] }) (s.heap.objs.size+1) s.heap.objs.size 0 .none:=by
  have:=qA0 (s.heap.push { cls:=.type "tuple_iterator",data:=.fields #[.ref l,.int 0 0] }) (o:={ cls:=.type "enumerate",data:=.fields #[.none,.bool false,.ref s.heap.objs.size,rawInt 0,.none,.none] }) rfl
  rw[hz]at this;exact this
 exact⟨⟨_,he,rfl⟩,q _ he ⟨_,zQ0 _ (qA0 _ rfl),rfl,rfl⟩ fun b o x=>zQ0 _ (zQ0 _ x)⟩
end
def Ao(K:W.Frag)(a:Addr):It:=
 ⟨fun i H=>∃xs x,SqT K H a xs/\xs[i]?=some x,fun i H y H'=>∃t,y=.ref t/\H t=none/\∀xs x,SqT K H a xs->xs[i]?=some x->H'=upd H t (.tup [.int i,x]),fun i H=>∃xs,SqT K H a xs/\xs.length<=i⟩
theorem tF{P:Program}{w:World}{K:W.Frag}{elts:List Expr}{k:Nat}{pos:Pos}(a e it:Addr)(hei:e≠it)(hai:a≠it)(hae:a≠e) :
 Turn P w K (.Tuple elts k pos) (Ao K a) [e,it] e (fun i h=>(∃old,IsEnum h e it i old)/\h.IsTupleIter it a i) where
 mem:=by simp
 obj:=fun i h st b hb=>by
  obtain⟨⟨old,he⟩,o,e2,c,d⟩:=st;rcases zZ0 hb with z | z
  . subst z;exact⟨_,he,fun v z=>nomatch z⟩
  . have z':=zP0 z;subst z';exact⟨o,e2,fun v z=>by rw[d]at z;cases z⟩
 keep:=fun i h h' st k=>by
  obtain⟨⟨old,he⟩,hit⟩:=st;exact⟨⟨old,k e (by simp) _ he⟩,hit.at fun o x=>k it (by simp) o x⟩
 item:=by
  intro X hP hw hK hc i pins s σ H E I hf st hg;subst hP hw hK;obtain⟨xs,x,hq,hx⟩:=hg;obtain⟨its,rv,p,hz⟩:=I.tuple hq;obtain⟨u,hu,ru⟩:=rv.get hx;obtain⟨⟨old,he⟩,hit⟩:=st;have hi:i<its.toArray.size:=by
   rw[zW0];exact(zT0 hu).1
  refine wpAny_pyNext_enum_itemD (xx (prog:=X.prog) (w:=X.w) (A:=X.A.in1) (I.ok.hd hc) it a hai its.toArray) he ⟨hit,p⟩ hi hei (by simp [hei,Ne.symm hae]) fun y h1 tk hy ho hst1 hT hsz hk=>?_
  have ey:y=u:=by
   have h1:its.toArray[i]?=some u:=by simpa using hu
   rw[h1]at hy;exact(zS0 hy).symm
  subst ey;refine⟨_,rfl,wpAny_letOwnedTupleGo_enum ho fun h2 he2 hs2=>?_⟩;have elt:e<s.heap.objs.size:=zN0 he;have hT2:h2.get? s.heap.objs.size=some { cls:=.type "tuple",data:=.seq #[.int i tk,y] }:=(hs2.2 _ (Ne.symm (zR0 elt))).trans hT;have I2:Inv X pins σ (upd H s.heap.objs.size (.tup [.int i,x])) { s with heap:=h2,toks:=tk+1 }:=by
   refine I.turnedNew (ch:=[e,it]) (fun b ob hb eb=>?_) hf (zJ0 _) ⟨by show 2<=sizeLine;decide,[.int i tk,y],.cons ⟨_,rfl⟩ (.cons ru .nil),⟨_,hT2,rfl,_,rfl⟩,_,hT2,rfl⟩;have b1:b≠e:=fun z=>hb (by simp [z])
   have b2:b≠it:=fun z=>hb (by simp [z])
   exact(hs2.2 b b1).trans (hk b ob b1 b2 eb)
  refine⟨.ref s.heap.objs.size,_,I2,rfl,⟨_,rfl,I.hok.fresh (zJ0 _),fun ys z hy hyi=>?_⟩,⟨⟨y,by simpa using he2⟩,hst1.1.at fun o z=>(hs2.2 it (Ne.symm hei)).trans z⟩,fun b hb=>?_⟩
  . have e1:=I.tuple_inj hy hq;subst e1;rw[hx]at hyi;cases hyi;rfl
  . have z:=hf b hb;have hlt:b<s.heap.objs.size:=by
     rcases zZ0 hb with y | y
     . rw[y];exact elt
     . rw[zP0 y];obtain⟨o,e2,_⟩:=hit;exact zN0 e2
    rw[am (zR0 hlt)];exact z.1
 done:=by
  intro X hP hw hK hc i pins s σ H E I hf st hg;subst hP hw hK;obtain⟨xs,hq,hx⟩:=hg;obtain⟨its,rv,p,hz⟩:=I.tuple hq;obtain⟨⟨old,he⟩,hit⟩:=st;have hl:=rv.length;exact xw (I.ok.hd hc) he hit p (Array.getElem?_eq_none (by simp;omega)) fun h' eb=>⟨rfl,I.turnedL (t':=s.toks) (ch:=[e,it]) (fun b o hb eo=>eb b o (fun z=>hb (by simp [z])) eo) hf⟩
 self:=fun _ _ _ _ _ st h=>by
  obtain⟨⟨old,he⟩,_⟩:=st;exact wpAny_pyIter_enum he h
section
variable {X:Cx} {elts:List Expr} {k:Nat} {tpos:Pos}
def Dz(K:W.Frag)(tl:TE):TI:=fun σ H R=>tl σ H fun x H1=>∃a,x=.ref a/\(∃xs,SqT K H1 a xs)/\R (Ao K a) H1
theorem yP {l:Expr} {tl:TE} {p pos:Pos} (hg:Gl X "enumerate") (hm:X.mg "enumerate"=none) (hl:PE X l tl) (hs:starEach [l] X.env=[(false,eval l X.env)]:=by rfl) :
 PI X (.Tuple elts k tpos) (.Call (.Name "enumerate" p) [l] [] pos) (Dz X.K tl):=by
 intro pins s σ H R I h;refine Call_ (gj I hg hm boot_enumerate (PyProof.Rows.callWith_type1 ?_ hs rfl));rw[hs];show wpAny _ _ (spliced ((false,eval l X.env)::backTo pos (starEach [] X.env))) _ _ s;refine Calls.spliced_cons (thn (hl pins s σ H _ I h) fun u s1 ⟨x,H1,I1,r1,a,ex,⟨xs,hq⟩,q⟩=>?_);subst ex;cases r1;obtain⟨its,rv,p,hz⟩:=I1.tuple hq;have alt:=p.lt;refine Calls.spliced_nil ?_;refine uV p fun h' he hit hk=>?_
 refine wpAny_pyIter_enum he ?_;have I2:Inv X pins σ H1 { s1 with heap:=h' }:=I1.kept (t':=s1.toks) hk;refine⟨s1.heap.objs.size+1,[s1.heap.objs.size+1,s1.heap.objs.size],_,_,H1,rfl,I2,tF a _ _ (qS0 (Nat.lt_succ_self _)) (zR0 alt) (zR0 (Nat.lt_succ_of_lt alt)),⟨⟨_,he⟩,hit⟩,fun b hb=>?_,q⟩;rcases zZ0 hb with z | z
 . rw[z];exact I1.fpOk (qI0 _) (I1.hok.fresh (qI0 _))
 . rw[zP0 z];exact I1.fpOk (zJ0 _) (I1.hok.fresh (zJ0 _))
end
theorem xq{K:W.Frag}{a:Addr}{xs:List V}{g:TG}{tb:TS}{D:Ends}{σ:St}{H:Hp}(Pv:Nat->St->Hp->Prop)(h0:Pv 0 σ H)(hl:∀i σ H,i<=xs.length->Pv i σ H->SqT K H a xs)
 (hs:∀i x σ H t,xs[i]?=some x->Pv i σ H->H t=none->g (.ref t) σ (upd H t (.tup [.int i,x])) fun σ2 H2=>tb { D with nx:=Pv (i+1),ct:=Pv (i+1),bk:=D.nx } σ2 H2) (hd:∀ σ H,Pv xs.length σ H->D.nx σ H) :
 ∃ W:Nat->Nat->St->Hp->Prop,(∃m,W 0 m σ H)/\∀i m σ H,W i m σ H ->
  ((Ao K a).stop i H/\D.nx σ H)∨((Ao K a).go i H/\∃N:St->Hp->Prop,(∀ σ' H',N σ' H'->∃m',m'<m/\W (i+1) m' σ' H')/\∀x H',(Ao K a).yld i H x H'->g x σ H' fun σ2 H2=>tb { D with nx:=N,ct:=N,bk:=D.nx } σ2 H2):=by
 refine⟨fun i m σ H=>m=xs.length-i/\i<=xs.length/\Pv i σ H,⟨xs.length,by simp,qC0 _,h0⟩,?_⟩;rintro i m σ H ⟨rfl,hi,p⟩;have q:=hl i σ H hi p
 by_cases hlt:i<xs.length
 . refine .inr ⟨⟨xs,xs[i],q,by simp [hlt]⟩,Pv (i+1),fun σ' H' p'=>⟨xs.length-(i+1),by omega,rfl,hlt,p'⟩,fun x H' y=>?_⟩;obtain⟨t,rfl,ht,e⟩:=y;have e':=e xs xs[i] q (by simp [hlt]);subst e';exact hs i xs[i] σ H t (by simp [hlt]) p ht
 . have e:i=xs.length:=by omega
   subst e;exact .inl ⟨⟨xs,q,zJ0 _⟩,hd σ H p⟩
def ItV(K:W.Frag)(a:Addr)(xs:List V):It:=⟨fun i H=>SqL K H a xs/\i<xs.length,fun i H y H'=>H'=H/\xs.reverse[i]?=some y,fun i _=>xs.length<=i⟩
theorem vZ{P:Program}{w:World}{K:W.Frag}{tg:Expr}(a it:Addr)(xs:List V):Turn P w K tg (ItV K a xs) [it] it (fun i h=>i<=xs.length/\h.IsRevIter it a ((xs.length:Int)-1-(i:Int))) where
 mem:=by simp
 obj:=fun i h st b hb=>by
  have e:b=it:=by simpa using hb
  subst e;obtain⟨_,o,e,c,d⟩:=st;exact⟨o,e,fun v z=>by rw[d]at z;cases z⟩
 keep:=fun i h h' st k=>⟨st.1,st.2.at fun o e=>k it (by simp) o e⟩
 item:=by
  intro X hP hw hK hc i pins s σ H E I hf st hg;subst hP hw hK;obtain⟨hq,hi⟩:=hg;obtain⟨its,rv,p,hz⟩:=I.list hq;have hj:xs.length-1-i<xs.length:=by omega
  have hx:xs[xs.length-1-i]?=some xs[xs.length-1-i]:=zU0 hj;obtain⟨u,hu,ru⟩:=rv.get hx;obtain⟨f0,f1,f2,f3,f4,f5⟩:=hf it (by simp);obtain⟨_,hit⟩:=st;have e1:((xs.length:Int)-1-(i:Int))=((xs.length-1-i:Nat):Int):=by omega
  rw[e1]at hit;refine wpAny_pyNext_rev_item hit p.isList (x:=u) (by simpa using hu) fun h' st' sb=>?_
  have I1:Inv X pins σ H { s with heap:=h' }:=I.turned (t':=s.toks) (fun b o hb e=>(sb.2 b hb).trans e) f0 f1 f3 f4 f5;have e2:((xs.length-1-i:Nat):Int)-1=(xs.length:Int)-1-((i+1:Nat):Int):=by omega
  rw[e2]at st';obtain⟨o,e,c,d⟩:=id st';refine⟨u,rfl,sA (s:={ s with heap:=h' }) e c d (by decide) ⟨xs[xs.length-1-i],H,I1,ru,⟨rfl,?_⟩,⟨by omega,st'⟩,fun b hb=>(hf b hb).1⟩⟩;rw[List.getElem?_reverse hi,hx]
 done:=by
  intro X hP hw hK hc i pins s σ H E I hf st hg;subst hP hw hK;have hg:xs.length<=i:=hg;obtain⟨f0,f1,f2,f3,f4,f5⟩:=hf it (by simp);obtain⟨hi,hit⟩:=st;have e1:(xs.length:Int)-1-(i:Int)=-1:=by omega
  rw[e1]at hit;exact wpAny_pyNext_rev_end (I.ok.hd hc) hit fun h' eb=>⟨rfl,I.turned (t':=s.toks) (fun b o hb e=>eb b o hb e) f0 f1 f3 f4 f5⟩
 self:=fun _ _ _ _ _ st h=>wpAny_pyIter_revIter st.2 h
theorem zY{K:W.Frag}{a:Addr}{xs:List V}{g:TG}{tb:TS}{D:Ends}{σ:St}{H:Hp}(Pv:Nat->St->Hp->Prop)(h0:Pv 0 σ H)(hl:∀i σ H,i<=xs.length->Pv i σ H->SqL K H a xs)
 (hs:∀i x σ H,i<xs.length->xs.reverse[i]?=some x->Pv i σ H->g x σ H fun σ2 H2=>tb { D with nx:=Pv (i+1),ct:=Pv (i+1),bk:=D.nx } σ2 H2) (hd:∀ σ H,Pv xs.length σ H->D.nx σ H) :
 ∃ W:Nat->Nat->St->Hp->Prop,(∃m,W 0 m σ H)/\∀i m σ H,W i m σ H ->
  ((ItV K a xs).stop i H/\D.nx σ H)∨((ItV K a xs).go i H/\∃N:St->Hp->Prop,(∀ σ' H',N σ' H'->∃m',m'<m/\W (i+1) m' σ' H')/\∀x H',(ItV K a xs).yld i H x H'->g x σ H' fun σ2 H2=>tb { D with nx:=N,ct:=N,bk:=D.nx } σ2 H2):=by
 refine⟨fun i m σ H=>m=xs.length-i/\i<=xs.length/\Pv i σ H,⟨xs.length,by simp,qC0 _,h0⟩,?_⟩;rintro i m σ H ⟨rfl,hi,p⟩;have q:=hl i σ H hi p
 by_cases hlt:i<xs.length
 . refine .inr ⟨⟨q,hlt⟩,Pv (i+1),fun σ' H' p'=>⟨xs.length-(i+1),by omega,rfl,hlt,p'⟩,fun x H' y=>?_⟩;obtain⟨e,ex⟩:=y;subst e;exact hs i x σ _ hlt ex p
 . have e:i=xs.length:=by omega
   subst e;exact .inl ⟨zJ0 _,hd σ H p⟩
theorem pG {X:Cx} (K:W.Frag) (h:X.K=K:=by rfl):MtR X "list.count" (vB K):=by subst h;exact rZ
section
variable {X:Cx} {o e:Expr} {es:List Expr} {to ta:TE} {t:TA} {T id:String} {name f:Str} {r:V->List V->Hp->VK->Prop} {apos cpos pos:Pos}
theorem yX (K:W.Frag) (pa:PlainAttrs T) (slot:Slot T name id) (hty:typeOf (.builtin id)=pure (.type "method_descriptor")) (hm:MtR X id r) (ho:PE X o to) (ha:PA X (e::es) t) (hK:X.K=K:=by rfl)
 (hbase:attributeBase o name X.env (eval o X.env)=eval o X.env:=by rfl)
 (hfew:((backTo cpos (starEach (e::es) X.env)).all (fun x=>!x.1)&&(backToKw cpos (keywordEach [] X.env)).all (fun x=>x.1.isSome)&&decide ((e::es).length+([]:List Keyword).length+(if([]:List Keyword).isEmpty then 0 else 1)<30))=true:=by rfl)
 (hline:(apos.endLine==cpos.line)=true:=by rfl) (hs:starEach (e::es) X.env=(false,eval e X.env)::starEach es X.env:=by rfl) (hplain:(backTo cpos (starEach es X.env)).any (·.1)=false:=by rfl) :
 PE X (.Call (.Attribute o name apos) (e::es) [] cpos) (tBM K T r to t):=by subst hK;exact dU pa slot hty hm ho ha hbase hfew hline hs hplain
theorem mY(K:W.Frag)(he:PE X e ta)(hK:X.K=K:=by rfl)(hb:attributeBase e f X.env (eval e X.env)=eval e X.env:=by rfl):PE X (.Attribute e f pos) (tFld K ta f):=by subst hK;exact aP he hb
end
@[reducible] def dj (X:Cx) (x:Str) (N:List Str) (scope:Scope) (cl:List (Str×Addr)) (s:Shared) (H:Hp) (fp:List Addr):Cx where
 prog:=X.prog
 w:=X.w
 K:=X.K
 mg:=X.mg
 base:=X.base
 A:=X.A
 N:=x::N
 s₀:=s
 H₀:=H
 env:=compEnvC scope ((x,s.heap.objs.size+1)::cl) s.heap.objs.size X.env
 outer:=X.stack
 stack:=X.stack
 ex:=fp
 fn:=fun y=>y==x
 calm:=X.calm
 pn:=[]
 xe:=fun _ _=>False
structure CompScopeO(X:Cx)(x:Str)(N:List Str)(ix:List Nat)(scope:Scope)(cl:List (Str×Addr)):Prop where
 clos:closureFor scope X.env=pure cl
 lay:∀(n:Addr) (h:Heap),cellsFrom n scope.names cl=(x,n)::cl/\pushCells h scope.names=h.push { cls:=.type "cell",data:=.cell none }
 kind:scope.kind=.function
 names:∀y∈scope.names,y.2=.local->scope.names.lookup y.1=some .local
 own:(relabel scope X.env).names.lookup x=some .cell
 nd:(x::N).Nodup
 sub:∀p∈cl,X.env.cells.lookup p.1=some p.2
 has:((relabel scope X.env).names.all fun p=>!(p.2==.cell||p.2==.free)||(p.1==x||(cl.lookup p.1).isSome))=true
 outs:∀(j:Nat)(y:Str),N[j]?=some y->(relabel scope X.env).names.lookup y=some .cell/\∃k c,ix[j]?=some k/\X.N[k]?=some y/\cl.lookup y=some c/\X.env.scope.names.lookup y=some .cell
section
variable {X:Cx} {pins:List (Addr×Obj)} {σ:St} {x:Str} {N:List Str} {ix:List Nat} {scope:Scope} {cl:List (Str×Addr)} {fp:List Addr} {H3:Hp} {s3:Shared}
theorem CompScopeO.cells(S:CompScopeO X x N ix scope cl){y:Str}{c:Addr}(h:cl.lookup y=some c):X.env.cells.lookup y=some c:=S.sub _ (PySem.mem_of_lookup h)
theorem dY{x y:Str}{n c:Addr}{cl:List (Str×Addr)}(h:((x,n)::cl).lookup y=some c):(y=x/\c=n)∨(y≠x/\cl.lookup y=some c):=by
 by_cases e:y=x
 . subst e
   simp [List.lookup]at h
   exact .inl ⟨rfl,h.symm⟩
 . have e':(y==x)=false:=by simpa using e
   simp only[List.lookup,e']at h;exact .inr ⟨e,h⟩
theorem jy{x y:Str}{n:Addr}{cl:List (Str×Addr)}(e:y≠x):((x,n)::cl).lookup y=cl.lookup y:=by
 have e':(y==x)=false:=by simpa using e
 simp only[List.lookup,e']
theorem lp(S:CompScopeO X x N ix scope cl)(I3:Inv X pins σ H3 s3)(hf:∀b∈fp,gn X pins H3 b)(hlt:∀b∈fp,b<s3.heap.objs.size):(dj X x N scope cl s3 H3 fp).Ok where
 mod:=I3.ok.mod
 kind:=S.kind
 glob:=I3.ok.glob
 blt:=I3.ok.blt
 above:=zJ0 _
 inj:=fun y z c h1 h2=>by
  have lt:∀y c,cl.lookup y=some c->c<s3.heap.objs.size:=fun y c e=>by
   obtain⟨v,q⟩:=I3.cell y c (S.cells e);exact q.lt
  rcases dY h1 with⟨e1,c1⟩ | ⟨e1,l1⟩ <;> rcases dY h2 with⟨e2,c2⟩ | ⟨e2,l2⟩
  . rw[e1,e2]
  . exact absurd (lt z c l2) (by rw[c1];exact Nat.not_lt.mpr (qI0 _))
  . exact absurd (lt y c l1) (by rw[c2];exact Nat.not_lt.mpr (qI0 _))
  . exact I3.ok.inj y z c (S.cells l1) (S.cells l2)
 has:=fun y hy=>by
  by_cases e:y=x
  . subst e;exact⟨s3.heap.objs.size+1,by show((y,s3.heap.objs.size+1)::cl).lookup y=_;simp [List.lookup]⟩
  have q:=List.all_eq_true.mp S.has;have hy:(relabel scope X.env).names.lookup y=some .cell∨(relabel scope X.env).names.lookup y=some .free:=hy;have z:∀k:NameKind,(k==.cell||k==.free)=true->(relabel scope X.env).names.lookup y=some k->∃c,((x,s3.heap.objs.size+1)::cl).lookup y=some c:=fun k hk e2=>by
   have r:=q _ (PySem.mem_of_lookup e2);have ey:(y==x)=false:=by simpa using e
   rw[hk]at r;rw[jy e];have r':(cl.lookup y).isSome=true:=by simpa [ey]using r
   exact Option.isSome_iff_exists.mp r'
  rcases hy with e | e
  . exact z _ (by rfl) e
  . exact z _ (by rfl) e
 cab:=fun y c h e=>by
  have ey:y=x:=by simpa using(show(y==x)=true from h)
  rcases dY e with⟨_,c1⟩ | ⟨n,_⟩
  . rw[c1];exact qI0 _
  . exact absurd ey n
 hd:=I3.ok.hd
 frames:=I3.ok.frames
 stk:=.inl rfl
 exf:=fun b hb=>⟨zR0 (hlt b hb),fun y c e=>by
  rcases dY e with⟨_,c1⟩ | ⟨_,l⟩
  . rw[c1];exact qS0 (Nat.lt_succ_of_lt (hlt b hb))
  . exact(hf b hb).2.2.2.2.1 y c (S.cells l)⟩
 bs:=fun b o e=>I3.bs b o e
 bsz:=qB0 I3.ok.bsz I3.sz
 noex:=fun b o e hb=>by
  rcases(hf b hb).2.2.2.1 with z | z
  . exact I3.ok.noex b o e z
  . exact absurd (qH0 (zN0 e) (qB0 I3.ok.bsz z)) (qR0 _)
 exfs:=fun b hb z=>by
  rcases zZ0 (I3.stkSub b z)with e | e
  . exact(hf b hb).2.1 e
  . exact(hf b hb).2.2.1 e
 funs:=I3.stack
 frf:=I3.stkFree
theorem sN(S:CompScopeO X x N ix scope cl)(I3:Inv X pins σ H3 s3)(hf:∀b∈fp,gn X pins H3 b)(hlt:∀b∈fp,b<s3.heap.objs.size)(hix:ix.length=N.length){h1:Heap}{t':Nat}{m:Str->Option Value}
 (hn:h1.Ns s3.heap.objs.size m) (hc:h1.IsCell (s3.heap.objs.size+1) none) (hk:∀b o,s3.heap.get? b=some o->h1.get? b=some o):Inv (dj X x N scope cl s3 H3 fp) [] (none::outs ix σ) H3 { s3 with heap:=h1,toks:=t' } where
 ok:=lp S I3 hf hlt
 os:=rfl
 bare:=I3.bare
 base:=Un.kept hk
 loc:=by
  refine⟨m,hn,fun i y v h1' h2 h3=>?_⟩;cases i with
  | zero=>
    have h2':(some (none:Option V))=some (some v):=h2;cases h2'
  | succ j=>
    have h1'':N[j]?=some y:=h1';have h2':(outs ix σ)[j]?=some (some v):=h2;have nyx:y≠x:=fun z=>(List.nodup_cons.mp S.nd).1 (z▸qJ0 h1'')
    obtain ⟨hr,k,c,e1,e2,e3,e4⟩:=S.outs j y h1'';unfold outs at h2';rw[zV0,e1]at h2';have h2'':(σ[k]?).join=some v:=zS0 h2';have e5:σ[k]?=some (some v):=by
     cases q:σ[k]? with
     | none=>rw[q]at h2'';cases h2''
     | some o=>rw[q]at h2'';exact congrArg some h2''
    obtain⟨m0,_,hl⟩:=I3.loc;obtain⟨u,r,l⟩:=hl k y v e2 e5 (.inr (.inl e4));refine⟨u,r,.inr ⟨.inl hr,c,(jy nyx).trans e3,?_⟩⟩;rcases l with⟨kk,_⟩ | ⟨_,c',ec,z⟩
    . have kk':X.env.scope.names.lookup y=some .local:=kk;rw[e4]at kk';cases kk'
    . rw[S.cells e3]at ec;cases ec;obtain⟨o,ho,hd⟩:=z;exact⟨o,hk _ _ ho,hd⟩
 cell:=fun y c e=>by
  rcases dY e with⟨_,c1⟩ | ⟨_,l⟩
  . rw[c1];exact⟨none,hc⟩
  . obtain⟨v,o,ho,hd⟩:=I3.cell y c (S.cells l);exact⟨v,o,hk _ _ ho,hd⟩
 free:=I3.hok.fresh (zJ0 _)
 freeC:=fun y c e=>by
  rcases dY e with⟨_,c1⟩ | ⟨_,l⟩
  . rw[c1];exact I3.hok.fresh (qI0 _)
  . exact I3.freeC y c (S.cells l)
 pin:=fun p hp=>absurd (show p∈([]:List (Addr×Obj))from hp) (by simp)
 hok:=I3.hok.kept hk
 len:=by
  show(none::outs ix σ).length=(x::N).length;rw[qF0,qF0];unfold outs;rw[zH0,hix]
theorem uS(I3:Inv X pins σ H3 s3)(hf:∀b∈fp,gn X pins H3 b){σ':St}{H':Hp}{s':Shared}{h'':Heap}(J:Inv (dj X x N scope cl s3 H3 fp) [] σ' H' s')(hb:Heap.SameBut s3.heap.objs.size s'.heap h'') :
 Inv X pins σ H' { s' with heap:=h'' }:=by
 have ne:∀b o,s3.heap.get? b=some o->b≠s3.heap.objs.size:=fun b o e=>zR0 (zN0 e)
 have B:Un (frs X.stack) fp H3 H' s3.heap s'.heap:=J.base;refine I3.call' (s':={ s' with heap:=h'' }) (ch:=fp) J.os ⟨fun b o e n h1 h2=>(hb.2 b (ne b o e)).trans (B.keep b o e n h1 h2),fun b o e n h1 h2=>?_,B.free,fun b o e h2=>?_,B.tups,B.frzs,B.tbls⟩ (fun b ob e=>?_) J.bare (fun b z=>?_)
 . obtain⟨sl,q⟩:=B.slot b o e n h1 h2;exact⟨sl,(hb.2 b (ne b o e)).trans q⟩
 . obtain⟨o',q⟩:=B.there b o e h2;exact⟨o',(hb.2 b (ne b o e)).trans q⟩
 . have fr:H' s3.heap.objs.size=none:=J.free;refine(J.hok b ob e).stay (fun c w' hc q=>(hb.2 c ?_).trans q) (fun _ q=>q) fun _ _ q=>q
   rintro rfl;rcases hc with rfl | hc
   . rw[fr]at e;cases e
   . rw[fr]at hc;cases hc
 . obtain⟨_,h2,_,h4,h5,h6⟩:=hf b z;exact⟨h4,h2,h5,h6⟩
end
section
variable {M:Model} {A:Around} {E:Value->Shared->Prop} {s:Shared}
theorem zx {scope:Scope} {globals:Addr} {cl:List (Str×Addr)} {x qual:Str} {env:Env} {Q:Env->Shared->Prop} (lay:∀(n:Addr) (h:Heap),cellsFrom n scope.names cl=(x,n)::cl/\pushCells h scope.names=h.push { cls:=.type "cell",data:=.cell none })
 (q:∀h',h'.Ns s.heap.objs.size (fun _=>none)->h'.IsCell (s.heap.objs.size+1) none->(∀b o,s.heap.get? b=some o->h'.get? b=some o) ->
  Q { scope:=scope,locals:=s.heap.objs.size,globals:=globals,cells:=(x,s.heap.objs.size+1)::cl,qual:=qual,func:=none,code:=env.code,frame:=env.frame,builtins:=env.builtins } { s with heap:=h' }) :
 wpAny M A (newFunctionEnv scope globals cl [] qual none .none (some env)) Q E s:=by
 simp only[newFunctionEnv,Option.isSome_some,if_true];refine zC0 (wpAny_alloc ?_);refine zC0 (wpAny_layCells _ (fun name kind cells=>by cases hkc:kind==NameKind.cell <;> simp [hkc]) _ _ _ _ ?_);have hz:(s.heap.push { cls:=.type "dict",data:=.dict #[] }).objs.size=s.heap.objs.size+1:=Heap.size_push ..;rw[show({ s with heap:=s.heap.push { cls:=.type "dict",data:=.dict #[] } }:Shared).heap.objs.size=s.heap.objs.size+1 from hz,(lay _ s.heap).1];show wpAny M A (do let _ ←(forIn [] PUnit.unit fun _ _=>_:Sem PUnit);pure _) Q E _;rw[List.forIn_nil];refine zC0 (zK0 (zK0 ?_));rw[(lay 0 _).2];refine q _ ((Heap.Ns.new s.heap (.type "dict")).keeps fun b o e=>zQ0 _ e) ?_ fun b o e=>zQ0 _ (zQ0 _ e)
 rw[←hz];exact⟨_,qA0 _ rfl,rfl⟩
end
section
variable {X:Cx} {x:Str} {N:List Str} {ix:List Nat} {scope:Scope} {cl:List (Str×Addr)} {elt iter:Expr} {ifs:List Expr} {px pos:Pos} {wi:TI} {tb:TBl}
theorem xC(hc:X.calm=true)(S:CompScopeO X x N ix scope cl)(hix:ix.length=N.length)(hb:∀s3 H3 fp,PB (dj X x N scope cl s3 H3 fp) ifs elt tb)
 {pins:List (Addr×Obj)} {s2:Shared} {σ:St} {H2:Hp} {Q:VK} {it:Addr} {fp:List Addr} {tn:Nat->Heap->Prop} {J:It} {RR:Value->Addr->Result->Shared->Prop} {E:Value->Shared->Prop}
 (I2:Inv X pins σ H2 s2) (T:Turn X.prog X.w X.K (.Name x px) J fp it tn) (st2:tn 0 s2.heap) (f2:∀b∈fp,gn X pins H2 b)
 (h:∀D,H2 D=none->∃W:Nat->Nat->Hp->Prop,(∃m,W 0 m (upd H2 D (.lst [])))/\∀i m H3,W i m H3 ->
  (J.stop i H3/\Q (.ref D) H3)∨(J.go i H3/\∀y H4,J.yld i H3 y H4->tb (some y::outs ix σ) H4 (fun H5=>∃m',m'<m/\W (i+1) m' H5)
   fun z H5=>∃ys,H5 D=some (.lst ys)/\ys.length<sizeLine/\∃m',m'<m/\W (i+1) m' (upd H5 D (.lst (ys++[z])))))
 (hRR:∀(D C:Addr)(H':Hp)(s':Shared)(m:Str->Option Value),s'.heap.Ns C m->Apart X pins H' C->Inv X pins σ H' s'->Q (.ref D) H'->RR (.ref D) C (.ok .next) s') :
 wpAny (model X.prog X.w) X.A (newList []) (fun acc s3=>wpAny (model X.prog X.w) X.A (newFunctionEnv scope X.env.globals cl [] X.env.qual none .none (some X.env)) (fun cenv s4=>
  codeAny (model X.prog X.w) X.A (.compStart (.ListComp elt [⟨.Name x px,iter,ifs,0⟩] scope pos) 0 (.ref it) acc { cenv with scope:=relabel scope X.env }) (RR acc cenv.locals) s4) E s3) E s2:=by
 refine wpAny_newObj_type (zx S.lay fun h1 hns1 hcl1 up1=>?_)
 dsimp only at hns1 hcl1 up1 ⊢
 have I3:Inv X pins σ (upd H2 s2.heap.objs.size (.lst [])) { s2 with heap:=s2.heap.push { cls:=.type "list",dict:=none,data:=.seq ([]:List Value).toArray } }:=I2.lnew (its:=[]) (ys:=[]) (t':=s2.toks) .nil (qC0 _);have hD:H2 s2.heap.objs.size=none:=I2.fresh;obtain⟨W,⟨m0,w0⟩,turn⟩:=h s2.heap.objs.size hD;have hltF:∀b∈fp,b<s2.heap.objs.size:=fun b hb=>by
  obtain⟨o,e,_⟩:=T.obj 0 _ st2 b hb;exact zN0 e
 generalize hs3:({ s2 with heap:=s2.heap.push { cls:=.type "list",dict:=none,data:=.seq ([]:List Value).toArray } }:Shared)=s3 at I3;have eh:s2.heap.push { cls:=.type "list",dict:=none,data:=.seq ([]:List Value).toArray }=s3.heap:=by rw[←hs3]
 have et:s2.toks=s3.toks:=by rw[←hs3]
 rw[eh]at hns1 hcl1 up1 ⊢;have sz3:s3.heap.objs.size=s2.heap.objs.size+1:=by rw[←eh,Heap.size_push]
 have hlt3:∀b∈fp,b<s3.heap.objs.size:=fun b hb=>qH0 (hltF b hb) (by rw[sz3];exact qI0 _)
 have f3:∀b∈fp,gn X pins (upd H2 s2.heap.objs.size (.lst [])) b:=fun b hb=>by
  obtain⟨q1,q2⟩:=f2 b hb;exact⟨by rw[am (zR0 (hltF b hb))];exact q1,q2⟩
 have up:∀b o,s3.heap.get? b=some o->h1.get? b=some o:=up1
 have old:∀b o,s2.heap.get? b=some o->h1.get? b=some o:=fun b o e=>up b o (by rw[←eh];exact zQ0 _ e)
 have es:({ s2 with heap:=h1 }:Shared)={ s3 with heap:=h1,toks:=s3.toks }:=by rw[←hs3]
 rw [es];have I4:Inv (dj X x N scope cl s3 (upd H2 s2.heap.objs.size (.lst [])) fp) [] (none::outs ix σ) (upd H2 s2.heap.objs.size (.lst [])) { s3 with heap:=h1,toks:=s3.toks }:=
  sN S I3 f3 hlt3 hix hns1 hcl1 up
 have st4:tn 0 h1:=T.keep 0 _ _ st2 fun b _ o e=>old b o e
 have loop:codeAny (model X.prog X.w) X.A (.compLoop (.ListComp elt [⟨.Name x px,iter,ifs,0⟩] scope pos) 0 (.ref it) (.ref s2.heap.objs.size) (compEnvC scope ((x,s3.heap.objs.size+1)::cl) s3.heap.objs.size X.env)) (RR (.ref s2.heap.objs.size) s3.heap.objs.size)
  { s3 with heap:=h1,toks:=s3.toks }:=by
  refine jz (fun n s'=>∃i v0 H',Inv (dj X x N scope cl s3 (upd H2 s2.heap.objs.size (.lst [])) fp) [] (v0::outs ix σ) H' s'/\tn i s'.heap/\(∀b∈fp,H' b=none)/\W i n H') ?_ m0 ⟨0,none,_,I4,st4,fun b hb=>(f3 b hb).1,w0⟩;rintro n s5 ⟨i,v0,H5,I5,st5,fr5,w5⟩;have stat:∀{H':Hp},(∀b∈fp,H' b=none)->∀b∈fp,gn (dj X x N scope cl s3 (upd H2 s2.heap.objs.size (.lst [])) fp) [] H' b:=fun hn b hb=>
   ⟨hn b hb,((lp S I3 f3 hlt3).exf b hb).1,(lp S I3 f3 hlt3).exfs b hb,.inl hb,((lp S I3 f3 hlt3).exf b hb).2,fun p hp=>absurd (show p∈([]:List (Addr×Obj))from hp) (by simp)⟩
  rcases turn i n H5 w5 with⟨stop,qn⟩ | ⟨go,step⟩
  . refine thn (T.done (dj X x N scope cl s3 (upd H2 s2.heap.objs.size (.lst [])) fp) rfl rfl rfl hc i [] s5 _ H5 _ I5 (stat fr5) st5 stop) fun r s6 ⟨hr,I6⟩=>?_
    subst hr;obtain⟨m6,hn6,_⟩:=I6.loc;exact hRR _ _ H5 s6 m6 hn6 ⟨I6.free,Ne.symm (zR0 I3.lt),I3.sz,fun y c e z=>by
     obtain⟨v,q⟩:=I3.cell y c e;exact absurd q.lt (by rw[z];exact qR0 _),fun p hp z=>absurd (zN0 (I3.pin p hp).1) (by rw[z];exact qR0 _)⟩ (uS I3 f3 I6 (Heap.SameBut.refl _ _)) qn
  . refine thn (T.item (dj X x N scope cl s3 (upd H2 s2.heap.objs.size (.lst [])) fp) rfl rfl rfl hc i [] s5 _ H5 _ I5 (stat fr5) st5 go) fun r s6 ⟨u,hr,h6⟩=>?_
    subst hr;refine thn h6 fun _ s7 ⟨y,H7,I7,r7,y7,st7,fr7⟩=>?_
    have I7':=I7.pinned (stat fr7) (T.obj _ _ st7);refine wpAny_assign_Name (kD (i:=0) I7' S.nd rfl (.inr S.own) r7 (fun s8 I8=>?_) (.inl (by show(x==x)=true;simp)));have I8':Inv (dj X x N scope cl s3 (upd H2 s2.heap.objs.size (.lst [])) fp) ([]++iS fp s7.heap) (some y::outs ix σ) H7 s8:=I8;have again:∀{v9:Option V}{H9:Hp}{s9:Shared},Inv (dj X x N scope cl s3 (upd H2 s2.heap.objs.size (.lst [])) fp) ([]++iS fp s7.heap) (v9::outs ix σ) H9 s9->(∃m',m'<n/\W (i+1) m' H9) ->
     ∃m,m<n/\∃i v0 H',Inv (dj X x N scope cl s3 (upd H2 s2.heap.objs.size (.lst [])) fp) [] (v0::outs ix σ) H' s9/\tn i s9.heap/\(∀b∈fp,H' b=none)/\W i m H':=fun{v9 H9 s9} I9 ⟨m',hm,w9⟩=>by
     refine⟨m',hm,i+1,v9,H9,I9.unpinned,T.keep _ _ _ st7 fun b hb o e=>(I9.pin (b,o) (qN0 _ (qN0 _ (cV hb e)))).1,fun b hb=>?_,w9⟩;obtain⟨o,e,d⟩:=T.obj _ _ st7 b hb;exact(I9.pin (b,o) (qN0 _ (qN0 _ (cV hb e)))).2.1
    refine thn (hb s3 (upd H2 s2.heap.objs.size (.lst [])) fp _ s8 _ H7 _ _ I8' (step y H7 y7)) fun ok s9 q9=>?_
    cases ok with
    | false=>
      rw[zF0 (by decide)]at q9 ⊢;obtain⟨H9,I9,q9⟩:=q9;exact again I9 q9
    | true=>
      rw[zI0 rfl]at q9 ⊢;refine thn q9 fun u s10 ⟨z,H10,I10,r10,ys,hy,hz,q10⟩=>?_
      refine thn (bi _ s10 _ H10 (.ref s2.heap.objs.size) [z] (.ref s2.heap.objs.size) [u] (fun _ H'=>∃m',m'<n/\W (i+1) m' H') I10 rfl (.cons r10 .nil) ⟨_,ys,z,rfl,rfl,hy,hz,q10⟩) fun _ s11 ⟨_,H11,I11,_,q11⟩=>?_
      exact again I11 q11
 exact codeAny_compStart_list loop (T.self _ 0 _ _ _ st4 loop)
theorem yV(hc:X.calm=true)(S:CompScopeO X x N ix scope cl)(hix:ix.length=N.length)(hi:PI X (.Name x px) iter wi)(hb:∀s3 H3 fp,PB (dj X x N scope cl s3 H3 fp) ifs elt tb)
 (hs:∀x,foldedSetIterable iter X.env x=pure x:=by intro _;rfl):PE X (.ListComp elt [⟨.Name x px,iter,ifs,0⟩] scope pos) (tI wi ix tb):=by
 intro pins s σ H Q I h;rw[eval_ListComp];refine wpAny_comprehension_free (use:=none) rfl hs S.clos S.kind S.names (thn (hi pins s σ H _ I h) fun xv s1 h1=>thn h1 fun itv s2 h2=>?_);obtain⟨it,fp,tn,J,H2,rfl,I2,T,st2,f2,R⟩:=h2;refine xC hc S hix hb (RR:=fun acc C=>compPost (model X.prog X.w) X.A X.xe none (EP X pins σ Q) acc C) I2 T st2 f2 R ?_;intro D C H' s' m hn ap I' q;exact⟨m,hn,fun h'' hb''=>⟨.ref D,H',ap.turn I' hb'',rfl,q⟩⟩
theorem CompScopeO.one {y:Str} {k:Nat} {c:Addr} (c1:closureFor scope X.env=pure [(y,c)]) (c2:∀(n:Addr) (h:Heap),cellsFrom n scope.names [(y,c)]=(x,n)::[(y,c)]/\pushCells h scope.names=h.push { cls:=.type "cell",data:=.cell none }) (c3:scope.kind=.function) (c4:∀y∈scope.names,y.2=.local->scope.names.lookup y.1=some .local)
 (c5:(relabel scope X.env).names.lookup x=some .cell) (nd:[x,y].Nodup) (hc:X.env.cells.lookup y=some c) (c6:((relabel scope X.env).names.all fun p=>!(p.2==.cell||p.2==.free)||(p.1==x||(([(y,c)]:List (Str×Addr)).lookup p.1).isSome))=true)
 (hr:(relabel scope X.env).names.lookup y=some .cell) (hk:X.N[k]?=some y) (hs:X.env.scope.names.lookup y=some .cell):CompScopeO X x [y] [k] scope [(y,c)] where
 clos:=c1
 lay:=c2
 kind:=c3
 names:=c4
 own:=c5
 nd:=nd
 sub:=fun p hp=>by
  rw[zP0 hp];exact hc
 has:=c6
 outs:=fun j z h=>by
  cases j with
  | zero=>
    have e:y=z:=zS0 h;subst e;exact⟨hr,k,c,rfl,hk,by simp [List.lookup],hs⟩
  | succ j=>simp at h
theorem oN (K:W.Frag) (hK:X.K=K:=by rfl):hZ X (.type "tuple") (fun xs H Q=>∃p ys,xs=[.ref p]/\((SqL K H p ys/\∀l,H l=none->Q (.ref l) (upd H l (.tup ys)))∨(SqT K H p ys/\Q (.ref p) H))):=by subst hK;exact bH
end
theorem CompScope.four{X:Cx}{x y z u v:Str}{scope:Scope}{k l m n:Nat}{c d e g:Addr}{cl:List (Str×Addr)}(c1:closureFor scope X.env=pure cl)(c2:∀y∈scope.names,y.2≠.cell)(c3:scope.kind=.function)(c4:∀y∈scope.names,y.2=.local->scope.names.lookup y.1=some .local)
 (c5:scope.names.lookup x=some .local) (nd:[x,y,z,u,v].Nodup) (hcl:cl=[(y,c),(z,d),(u,e),(v,g)]) (hc:X.env.cells.lookup y=some c) (hd:X.env.cells.lookup z=some d) (he:X.env.cells.lookup u=some e) (hg:X.env.cells.lookup v=some g) (c6:((relabel scope X.env).names.all fun p=>!(p.2==.cell||p.2==.free)||(cl.lookup p.1).isSome)=true)
 (hr:(relabel scope X.env).names.lookup y=some .cell) (hk:X.N[k]?=some y) (hs:X.env.scope.names.lookup y=some .cell)
 (hr2:(relabel scope X.env).names.lookup z=some .cell) (hk2:X.N[l]?=some z) (hs2:X.env.scope.names.lookup z=some .cell)
 (hr3:(relabel scope X.env).names.lookup u=some .cell) (hk3:X.N[m]?=some u) (hs3:X.env.scope.names.lookup u=some .cell)
 (hr4:(relabel scope X.env).names.lookup v=some .cell) (hk4:X.N[n]?=some v) (hs4:X.env.scope.names.lookup v=some .cell):CompScope X x [y,z,u,v] [k,l,m,n] scope cl where
 clos:=c1
 nocell:=c2
 kind:=c3
 names:=c4
 own:=c5
 nd:=nd
 sub:=fun p hp=>by
  subst hcl;rcases zZ0 hp with h | h
  . rw[h];assumption
  . rcases zZ0 h with h | h
    . rw[h];assumption
    . rcases zZ0 h with h | h
      . rw[h];assumption
      . rw[zP0 h];assumption
 has:=c6
 outs:=fun j w h=>by
  have nyz:y≠z:=fun e=>by simp [e]at nd
  have nyu:y≠u:=fun e=>by simp [e]at nd
  have nyv:y≠v:=fun e=>by simp [e]at nd
  have nzu:z≠u:=fun e=>by simp [e]at nd
  have nzv:z≠v:=fun e=>by simp [e]at nd
  have nuv:u≠v:=fun e=>by simp [e]at nd
  subst hcl
  match j,h with
  | 0,h=>
    have e:y=w:=zS0 h;subst e;exact⟨hr,k,c,rfl,hk,by simp [List.lookup],hs⟩
  | 1,h=>
    have e:z=w:=zS0 h;subst e
    have:(z==y)=false:=by simpa using Ne.symm nyz
    exact⟨hr2,l,d,rfl,hk2,by simp [List.lookup,this],hs2⟩
  | 2,h=>
    have ew:u=w:=zS0 h;subst ew;have h1:(u==y)=false:=by simpa using Ne.symm nyu
    have h2:(u==z)=false:=by simpa using Ne.symm nzu
    exact⟨hr3,m,e,rfl,hk3,by simp [List.lookup,h1,h2],hs3⟩
  | 3,h=>
    have ew:v=w:=zS0 h;subst ew;have h1:(v==y)=false:=by simpa using Ne.symm nyv
    have h2:(v==z)=false:=by simpa using Ne.symm nzv
    have h3:(v==u)=false:=by simpa using Ne.symm nuv
    exact⟨hr4,n,g,rfl,hk4,by simp [List.lookup,h1,h2,h3],hs4⟩
  | j+4,h=>simp at h
def SqIt(h:Heap)(i l:Addr)(k:Nat)(xs:Array Value):Prop:=(h.IsListIter i l k/\h.IsList l xs)∨(h.IsTupleIter i l k/\h.IsTuple l xs)
theorem SqIt.at{h h':Heap}{i l:Addr}{k:Nat}{xs:Array Value}(q:SqIt h i l k xs)(e1:∀o,h.get? i=some o->h'.get? i=some o)(e2:∀o,h.get? l=some o->h'.get? l=some o):SqIt h' i l k xs:=by
 rcases q with⟨a,b⟩ | ⟨a,b⟩
 . exact .inl ⟨a.at e1,b.at e2⟩
 . exact .inr ⟨a.at e1,b.at e2⟩
theorem SqIt.ext{h h':Heap}{i l c:Addr}{k:Nat}{xs:Array Value}(q:SqIt h i l k xs)(e:Heap.ExtBut c h h')(n1:i≠c)(n2:l≠c):SqIt h' i l k xs:=q.at (fun o z=>e _ o n1 z) (fun o z=>e _ o n2 z)
theorem SqIt.obj{h:Heap}{i l:Addr}{k:Nat}{xs:Array Value}(q:SqIt h i l k xs):∃o,h.get? i=some o/\∀v,o.data≠.cell v:=by
 rcases q with⟨⟨o,e,_,d⟩,_⟩ | ⟨⟨o,e,_,d⟩,_⟩
 . exact⟨o,e,fun v z=>by rw[d]at z;cases z⟩
 . exact⟨o,e,fun v z=>by rw[d]at z;cases z⟩
section
variable {prog:Program} {w:World} {A:Around} {E:Value->Shared->Prop} {s:Shared}
theorem kE{i l:Addr}{k:Nat}{xs:Array Value}{x:Value}{Q:Value->Shared->Prop}(q:SqIt s.heap i l k xs)(n:l≠i)(hx:xs[k]?=some x)
 (hQ:∀h',SqIt h' i l (k+1) xs->Heap.SameBut i s.heap h'->Q x { s with heap:=h' }):wpAny (model prog w) A (Builtin.SmallTypes.nextOf (.ref i)) Q E s:=by
 rcases q with⟨a,b⟩ | ⟨a,b⟩
 . exact wpAny_nextOf_list_item a b hx fun h' a' e=>hQ h' (.inl ⟨a',b.extBut e.extBut n⟩) e
 . exact vb a b hx fun h' a' e=>hQ h' (.inr ⟨a',b.extBut e.extBut n⟩) e
theorem tK{i l:Addr}{k:Nat}{xs:Array Value}{Q:Value->Shared->Prop}(hh:A.handled=none)(q:SqIt s.heap i l k xs)(hx:xs[k]?=none)
 (hE:∀h' e,Heap.ExtBut i s.heap h'->(∃o,h'.get? e=some o/\o.cls=.type "StopIteration")->E (.ref e) { s with heap:=h' }):wpAny (model prog w) A (Builtin.SmallTypes.nextOf (.ref i)) Q E s:=by
 rcases q with⟨a,b⟩ | ⟨a,b⟩
 . exact wpAny_nextOf_list_end hh a b hx hE
 . exact tG hh a b hx hE
theorem Aq{z TI TO i1 i2 l1 l2:Addr}{k1 k2:Nat}{xs ys:Array Value}{x y a b:Value}{Q:Option Value->Shared->Prop}(D:ZipApart z TI TO i1 i2 l1 l2)
 (hz:IsZip s.heap z TI TO .none) (hTI:IsPair s.heap TI (.ref i1) (.ref i2)) (hTO:IsPair s.heap TO a b) (h1:SqIt s.heap i1 l1 k1 xs) (h2:SqIt s.heap i2 l2 k2 ys) (hx:xs[k1]?=some x) (hy:ys[k2]?=some y)
 (hQ:∀h',IsZip h' z TI TO (rawInt s.heap.objs.size)->IsPair h' TO x y->SqIt h' i1 l1 (k1+1) xs->SqIt h' i2 l2 (k2+1) ys->IsPair h' s.heap.objs.size x y ->
  (∀c o,c≠z->c≠TO->c≠i1->c≠i2->s.heap.get? c=some o->h'.get? c=some o)->Q (some (.ref s.heap.objs.size)) { s with heap:=h' }) :
 wpAny (model prog w) A (pyNext (.ref z)) Q E s:=by
 have hT:s.TypeIs (.ref z) "zip":=⟨_,hz,rfl⟩
 unfold pyNext;refine zC0 (wpAny_attempt (wpAny_callSpecial?_slot (name:=Str.ofString "__next__") hT F.slot_zip_next (wpAny_call_entry F.slot_zip_next hT F.entry_zip_next ?_ (F.args_zip_next_1 _))));show wpAny _ _ (field (.ref z) 2 >>= _) _ _ _;refine zC0 (wpAny_field hz rfl (x:=.bool false) rfl ?_);show wpAny _ _ (field (.ref z) 3 >>= _) _ _ _;refine zC0 (wpAny_field hz rfl (x:=.ref TI) rfl (zC0 (wpAny_seqItems hTI rfl ?_)));show wpAny _ _ (Builtin.SmallTypes.ownedTupleIsFree (.ref z) >>= _) _ _ _;refine zC0 ?_;unfold Builtin.SmallTypes.ownedTupleIsFree;refine zC0 (wpAny_field hz rfl (x:=.none) rfl (zK0 ?_));simp only[if_true];refine zC0 (wpAny_rule (zC0 (wpAny_field hz rfl (x:=.ref TO) rfl (zC0 (wpAny_setField_rec hz (by simp) fun ha za sa=>zC0 ?_)))))
 replace za:IsZip ha z TI TO .ellipsis:=za
 simp only[List.zipIdx_cons,List.zipIdx_nil,List.forIn_cons,List.forIn_nil];refine zC0 (zC0 (wpAny_onRaise ?_));show wpAny _ _ (Builtin.SmallTypes.nextOf (.ref i1) >>= _) _ _ _;refine zC0 (kE (h1.ext sa.extBut D.i1z D.l1z) D.l1i1 hx fun hb q1 sb=>zK0 ?_);have TOb:IsPair hb TO a b:=sb.extBut _ _ D.TOi1 (sa.extBut _ _ D.TOz hTO);refine zC0 (wpAny_seqItems TOb rfl (zC0 (wpAny_updateSeq_pair TOb fun hc TOc sc=>?_)))
 replace TOc:IsPair hc TO x b:=TOc
 refine zC0 (wpAny_letGo (zK0 (zC0 (zC0 (wpAny_onRaise ?_)))));show wpAny _ _ (Builtin.SmallTypes.nextOf (.ref i2) >>= _) _ _ _;refine zC0 (kE (((h2.ext sa.extBut D.i2z D.l2z).ext sb.extBut D.i12.symm D.l2i1).ext sc.extBut D.TOi2.symm D.l2TO) D.l2i2 hy fun hd q2 sd=>zK0 ?_);have TOd:IsPair hd TO x b:=sd.extBut _ _ D.TOi2 TOc;refine zC0 (wpAny_seqItems TOd rfl (zC0 (wpAny_updateSeq_pair TOd fun he TOe se=>?_)))
 replace TOe:IsPair he TO x y:=TOe
 refine zC0 (wpAny_letGo (zK0 (zK0 (zC0 (wpAny_seqItems TOe rfl (zC0 (wpAny_newTuple ?_)))))));have sz:he.objs.size=s.heap.objs.size:=by rw[se.1,sd.1,sc.1,sb.1,sa.1]
 have ze:IsZip he z TI TO .ellipsis:=se.extBut _ _ D.TOz.symm (sd.extBut _ _ D.i2z.symm (sc.extBut _ _ D.TOz.symm (sb.extBut _ _ D.i1z.symm za)));have ke:∀c o,c≠z->c≠TO->c≠i1->c≠i2->s.heap.get? c=some o->he.get? c=some o:=fun c o c1 c2 c3 c4 e=>se.extBut _ _ c2 (sd.extBut _ _ c4 (sc.extBut _ _ c2 (sb.extBut _ _ c3 (sa.extBut _ _ c1 e))))
 have q1e:=((q1.ext sc.extBut D.TOi1.symm D.l1TO).ext sd.extBut D.i12 D.l1i2).ext se.extBut D.TOi1.symm D.l1TO;have q2e:=q2.ext se.extBut D.TOi2.symm D.l2TO;have zlt:z<he.objs.size:=zN0 ze;show wpAny _ _ (Builtin.SmallTypes.ownedTupleHandOut (.ref z) (.ref he.objs.size) >>= _) _ _ _;refine zC0 ?_;unfold Builtin.SmallTypes.ownedTupleHandOut;have zf:IsZip (he.push { cls:=.type "tuple",data:=.seq #[x,y] }) z TI TO .ellipsis:=zQ0 _ ze;refine zC0 (wpAny_setField_rec zf (by simp) fun hg zg sg=>?_)
 replace zg:IsZip hg z TI TO (rawInt he.objs.size):=zg
 refine wpAny_setField_rec zg (by simp) fun hi zi si=>?_
 replace zi:IsZip hi z TI TO (rawInt he.objs.size):=zi
 have up:∀c o,c≠z->he.get? c=some o->hi.get? c=some o:=fun c o c1 e=>si.extBut _ _ c1 (sg.extBut _ _ c1 (zQ0 _ e))
 have Ti:IsPair hi he.objs.size x y:=si.extBut _ _ (qS0 zlt) (sg.extBut _ _ (qS0 zlt) (qA0 _ rfl));rw[sz]at zi Ti;refine zK0 ⟨_,rfl,zK0 ?_⟩;show Q (some (.ref he.objs.size)) _;rw[sz];exact hQ hi zi (up _ _ D.TOz TOe) (q1e.at (fun o e=>up _ o D.i1z e) (fun o e=>up _ o D.l1z e)) (q2e.at (fun o e=>up _ o D.i2z e) (fun o e=>up _ o D.l2z e)) Ti fun c o c1 c2 c3 c4 e=>up c o c1 (ke c o c1 c2 c3 c4 e)
theorem Cl{z TI TO i1 i2 l1 l2:Addr}{k1 k2:Nat}{xs ys:Array Value}{a b:Value}{Q:Option Value->Shared->Prop}(hh:A.handled=none)(D:ZipApart z TI TO i1 i2 l1 l2)
 (hz:IsZip s.heap z TI TO .none) (hTI:IsPair s.heap TI (.ref i1) (.ref i2)) (hTO:IsPair s.heap TO a b) (h1:SqIt s.heap i1 l1 k1 xs) (h2:SqIt s.heap i2 l2 k2 ys) (hend:xs[k1]?=none∨ys[k2]?=none)
 (hQ:∀h',(∀c o,c≠z->c≠TO->c≠i1->c≠i2->s.heap.get? c=some o->h'.get? c=some o)->Q none { s with heap:=h' }):wpAny (model prog w) A (pyNext (.ref z)) Q E s:=by
 have hT:s.TypeIs (.ref z) "zip":=⟨_,hz,rfl⟩
 unfold pyNext;have hh1:A.in1.handled=none:=hh
 suffices hs:wpAny (model prog w) A.in1 (Builtin.«zip.__next__» ⟨[.ref z],[]⟩) (fun fin s'=>∃v,fin=.done (.ret v)/\False)
  (fun v s'=>∃h' e,v=.ref e/\s'={ s with heap:=h' }/\(∀c o,c≠z->c≠TO->c≠i1->c≠i2->s.heap.get? c=some o->h'.get? c=some o)/\∃o,h'.get? e=some o/\o.cls=.type "StopIteration") s by
  refine zC0 (wpAny_attempt (wpAny_callSpecial?_slot (name:=Str.ofString "__next__") hT F.slot_zip_next (wpAny_call_entry F.slot_zip_next hT F.entry_zip_next (wpAny_mono hs (fun _ _ h=>by obtain⟨_,_,f⟩:=h;exact f.elim) ?_) (F.args_zip_next_1 _))));rintro _ _ ⟨h',e,rfl,rfl,hk,o,ho,hc⟩;exact zC0 (wpAny_isInstance (T:="StopIteration") (b:=true) ⟨o,ho,hc⟩ isSubtype_stop (zK0 (hQ _ hk)))
 show wpAny _ _ (field (.ref z) 2 >>= _) _ _ _;refine zC0 (wpAny_field hz rfl (x:=.bool false) rfl ?_);show wpAny _ _ (field (.ref z) 3 >>= _) _ _ _;refine zC0 (wpAny_field hz rfl (x:=.ref TI) rfl (zC0 (wpAny_seqItems hTI rfl ?_)));show wpAny _ _ (Builtin.SmallTypes.ownedTupleIsFree (.ref z) >>= _) _ _ _;refine zC0 ?_;unfold Builtin.SmallTypes.ownedTupleIsFree;refine zC0 (wpAny_field hz rfl (x:=.none) rfl (zK0 ?_));simp only[if_true];refine zC0 (wpAny_rule (zC0 (wpAny_field hz rfl (x:=.ref TO) rfl (zC0 (wpAny_setField_rec hz (by simp) fun ha za sa=>zC0 ?_)))))
 replace za:IsZip ha z TI TO .ellipsis:=za
 simp only[List.zipIdx_cons,List.zipIdx_nil,List.forIn_cons,List.forIn_nil];refine zC0 (zC0 (wpAny_onRaise ?_));show wpAny _ _ (Builtin.SmallTypes.nextOf (.ref i1) >>= _) _ _ _;cases hx:xs[k1]? with
 | none=>
   refine zC0 (tK hh1 (h1.ext sa.extBut D.i1z D.l1z) hx fun hb e sb ⟨oe,hoe,hce⟩=>?_);have zb:IsZip hb z TI TO .ellipsis:=sb _ _ D.i1z.symm za;have ez:e≠z:=fun x=>by subst x;rw[zb]at hoe;cases hoe;simp at hce
   exact wpAny_setField_rec zb (by simp) fun hc _ sc=>⟨hc,e,rfl,rfl,fun c o c1 _ c3 _ x=>sc.extBut _ _ c1 (sb _ _ c3 (sa.extBut _ _ c1 x)),oe,sc.extBut _ _ ez hoe,hce⟩
 | some x=>
   have hy:ys[k2]?=none:=by
    rcases hend with h | h
    . rw[hx]at h;cases h
    . exact h
   refine zC0 (kE (h1.ext sa.extBut D.i1z D.l1z) D.l1i1 hx fun hb q1 sb=>zK0 ?_);have TOb:IsPair hb TO a b:=sb.extBut _ _ D.TOi1 (sa.extBut _ _ D.TOz hTO);refine zC0 (wpAny_seqItems TOb rfl (zC0 (wpAny_updateSeq_pair TOb fun hc TOc sc=>?_)));refine zC0 (wpAny_letGo (zK0 (zC0 (zC0 (wpAny_onRaise ?_)))));show wpAny _ _ (Builtin.SmallTypes.nextOf (.ref i2) >>= _) _ _ _;refine zC0 (tK hh1 (((h2.ext sa.extBut D.i2z D.l2z).ext sb.extBut D.i12.symm D.l2i1).ext sc.extBut D.TOi2.symm D.l2TO) hy fun hd e sd ⟨oe,hoe,hce⟩=>?_);have zd:IsZip hd z TI TO .ellipsis:=sd _ _ D.i2z.symm (sc.extBut _ _ D.TOz.symm (sb.extBut _ _ D.i1z.symm za));have ez:e≠z:=fun x=>by subst x;rw[zd]at hoe;cases hoe;simp at hce
   exact wpAny_setField_rec zd (by simp) fun he _ se=>⟨he,e,rfl,rfl,fun c o c1 c2 c3 c4 x=>se.extBut _ _ c1 (sd _ _ c4 (sc.extBut _ _ c2 (sb.extBut _ _ c3 (sa.extBut _ _ c1 x)))),oe,se.extBut _ _ ez hoe,hce⟩
end
def itO (b:Bool) (l:Addr):Obj:={ cls:=.type (if b=true then "list_iterator" else "tuple_iterator"),data:=.fields #[.ref l,.int 0 0] }
def SqO(b:Bool)(h:Heap)(l:Addr)(xs:Array Value):Prop:=if b=true then h.IsList l xs else h.IsTuple l xs
abbrev zqH (h:Heap) (b1 b2:Bool) (l1 l2:Addr):Heap:=((((h.push (itO b1 l1)).push (itO b2 l2)).push { cls:=.type "tuple",data:=.seq #[.ref h.objs.size,.ref (h.push (itO b1 l1)).objs.size] }).push { cls:=.type "tuple",data:=.seq #[.none,.none] }).push
 { cls:=.type "zip",data:=.fields #[.none,.bool false,.bool false,.ref ((h.push (itO b1 l1)).push (itO b2 l2)).objs.size,.ref (((h.push (itO b1 l1)).push (itO b2 l2)).push { cls:=.type "tuple",data:=.seq #[.ref h.objs.size,.ref (h.push (itO b1 l1)).objs.size] }).objs.size] }
abbrev zqA (h:Heap) (b1 b2:Bool) (l1 l2:Addr):Addr:=((((h.push (itO b1 l1)).push (itO b2 l2)).push { cls:=.type "tuple",data:=.seq #[.ref h.objs.size,.ref (h.push (itO b1 l1)).objs.size] }).push { cls:=.type "tuple",data:=.seq #[.none,.none] }).objs.size
theorem xZ{b:Bool}{h:Heap}{l:Addr}{xs:Array Value}(q:SqO b h l xs)(o:Obj):SqO b (h.push o) l xs:=by
 cases b
 . exact Heap.IsTuple.at q fun o' e=>zQ0 _ e
 . exact Heap.IsList.push q _
theorem qZ{prog:Program}{w:World}{A:Around}{E:Value->Shared->Prop}{s:Shared}{b:Bool}{l:Addr}{xs:Array Value}{Q:Value->Shared->Prop}(q:SqO b s.heap l xs)(hQ:Q (.ref s.heap.objs.size) { s with heap:=s.heap.push (itO b l) }) :
 wpAny (model prog w) A (pyIter (.ref l)) Q E s:=by
 cases b
 . exact wpAny_pyIter_tuple (t:=l) (items:=xs) q hQ
 . exact wpAny_pyIter_list (l:=l) (items:=xs) q hQ
set_option maxHeartbeats 1000000 in
theorem zJ(b1 b2:Bool)(l1 l2:Addr)(xs ys:Array Value) :
 Meets (Builtin.«zip.__new__» ⟨[.type "zip",.ref l1,.ref l2],[]⟩) (fun _ R s=>SqO b1 s.heap l1 xs/\SqO b2 s.heap l2 ys/\
  R (.ok (.ret (.ref (zqA s.heap b1 b2 l1 l2)))) { s with heap:=zqH s.heap b1 b2 l1 l2 }):=
 .of_wp fun prog w A R s h=>by
  obtain⟨hp,g,d,tk,os⟩:=s;obtain⟨hl1,hl2,h⟩:=h;have hsub:=sub_zip;have hL1:SqO b1 (Shared.heap ⟨hp,g,d,tk,os⟩) l1 xs:=hl1;have hL2:SqO b2 (Shared.heap ⟨hp.push (itO b1 l1),g,d,tk,os⟩) l2 ys:=xZ hl2 _
  wp_walk using qZ hL1,qZ hL2
  exact⟨_,rfl,h⟩
section
variable {prog:Program} {w:World} {A:Around} {E:Value->Shared->Prop} {s:Shared}
theorem zR{b:Bool}{h h':Heap}{n l:Addr}{xs:Array Value}(e:h'.get? n=some (itO b l))(q:SqO b h l xs)(k:∀o,h.get? l=some o->h'.get? l=some o):SqIt h' n l 0 xs:=by
 cases b
 . exact .inr ⟨⟨_,e,rfl,rfl⟩,Heap.IsTuple.at q k⟩
 . exact .inl ⟨⟨_,e,rfl,rfl⟩,Heap.IsList.at q k⟩
theorem BA{b1 b2:Bool}{l1 l2:Addr}{xs ys:Array Value}{Q:Value->Shared->Prop}(hl1:SqO b1 s.heap l1 xs)(hl2:SqO b2 s.heap l2 ys)
 (h:∀h',IsZip h' (s.heap.objs.size+4) (s.heap.objs.size+2) (s.heap.objs.size+3) .none->IsPair h' (s.heap.objs.size+2) (.ref s.heap.objs.size) (.ref (s.heap.objs.size+1)) ->
  IsPair h' (s.heap.objs.size+3) .none .none->SqIt h' s.heap.objs.size l1 0 xs->SqIt h' (s.heap.objs.size+1) l2 0 ys ->
  (∀c o,s.heap.get? c=some o->h'.get? c=some o)->Q (.ref (s.heap.objs.size+4)) { s with heap:=h' }) :
 wpAny (model prog w) A (call (.type "zip") [.ref l1,.ref l2]) Q E s:=by
 refine callType_new F.called_zip (by decide) (F.typeCall_zip_2 _ _) (F.newCall_zip_2 _ _) (fun obj=>F.args_object_init_3 obj _ _) F.entry_zip_new (zJ b1 b2 l1 l2 xs ys) ⟨hl1,hl2,?_⟩;have z1:∀(h:Heap)(o:Obj),(h.push o).objs.size=h.objs.size+1:=fun h o=>Heap.size_push ..
 have up:∀(h:Heap)(o:Obj)(c:Addr)(u:Obj),h.get? c=some u->(h.push o).get? c=some u:=fun h o c u e=>zQ0 _ e
 have top:∀(h:Heap)(o:Obj)(n:Nat),o.isFreed=false->h.objs.size=n->(h.push o).get? n=some o:=fun h o n f e=>by rw[←e];exact qA0 _ f
 have f1:∀b l,(itO b l).isFreed=false:=fun _ _=>rfl
 show _/\_;have g1:(zqH s.heap b1 b2 l1 l2).get? s.heap.objs.size=some (itO b1 l1):=up _ _ _ _ (up _ _ _ _ (up _ _ _ _ (up _ _ _ _ (top _ _ _ (f1 _ _) rfl))));have g2:(zqH s.heap b1 b2 l1 l2).get? (s.heap.objs.size+1)=some (itO b2 l2):=up _ _ _ _ (up _ _ _ _ (up _ _ _ _ (top _ _ _ (f1 _ _) (z1 _ _))));have g3:IsPair (zqH s.heap b1 b2 l1 l2) (s.heap.objs.size+2) (.ref s.heap.objs.size) (.ref (s.heap.objs.size+1)):=by
  have:=up _ { cls:=.type "zip",data:=.fields #[.none,.bool false,.bool false,.ref ((s.heap.push (itO b1 l1)).push (itO b2 l2)).objs.size,.ref (((s.heap.push (itO b1 l1)).push (itO b2 l2)).push { cls:=.type "tuple",data:=.seq #[.ref s.heap.objs.size,.ref (s.heap.push (itO b1 l1)).objs.size] }).objs.size] } _ _ (up _ { cls:=.type "tuple",data:=.seq #[.none,.none] } _ _ (top ((s.heap.push (itO b1 l1)).push (itO b2 l2)) { cls:=.type "tuple",data:=.seq #[.ref s.heap.objs.size,.ref (s.heap.push (itO b1 l1)).objs.size] } (s.heap.objs.size+2) rfl (by rw[z1,z1])))
  exact this.trans (by rw[z1])
 have g4:IsPair (zqH s.heap b1 b2 l1 l2) (s.heap.objs.size+3) .none .none:=up _ _ _ _ (top _ _ _ rfl (by rw[z1,z1,z1]));have g5:IsZip (zqH s.heap b1 b2 l1 l2) (s.heap.objs.size+4) (s.heap.objs.size+2) (s.heap.objs.size+3) .none:=by
  have:=top ((((s.heap.push (itO b1 l1)).push (itO b2 l2)).push { cls:=.type "tuple",data:=.seq #[.ref s.heap.objs.size,.ref (s.heap.push (itO b1 l1)).objs.size] }).push { cls:=.type "tuple",data:=.seq #[.none,.none] })
   { cls:=.type "zip",data:=.fields #[.none,.bool false,.bool false,.ref ((s.heap.push (itO b1 l1)).push (itO b2 l2)).objs.size,.ref (((s.heap.push (itO b1 l1)).push (itO b2 l2)).push { cls:=.type "tuple",data:=.seq #[.ref s.heap.objs.size,.ref (s.heap.push (itO b1 l1)).objs.size] }).objs.size] } (s.heap.objs.size+4) rfl (by rw[z1,z1,z1,z1])
  exact this.trans (by simp only[z1])
 have ea:zqA s.heap b1 b2 l1 l2=s.heap.objs.size+4:=by simp only[zqA,z1]
 have keep:∀c o,s.heap.get? c=some o->(zqH s.heap b1 b2 l1 l2).get? c=some o:=fun c o e=>up _ _ _ _ (up _ _ _ _ (up _ _ _ _ (up _ _ _ _ (up _ _ _ _ e))))
 rw[ea];exact⟨⟨_,g5,rfl⟩,h _ g5 g3 g4 (zR g1 hl1 (keep _)) (zR g2 hl2 (keep _)) keep⟩
end
def SqB(K:W.Frag)(b:Bool)(H:Hp)(a:Addr)(xs:List V):Prop:=if b=true then SqL K H a xs else SqT K H a xs
theorem SqB.at{X:Cx}{pins:List (Addr×Obj)}{σ:St}{H:Hp}{s:Shared}{b:Bool}{a:Addr}{xs:List V}(I:Inv X pins σ H s)(q:SqB X.K b H a xs):∃its,Vals xs its/\SqO b s.heap a its.toArray/\a<s.heap.objs.size:=by
 cases b
 . obtain⟨its,rv,p,_⟩:=I.tuple q;exact⟨its,rv,p,p.lt⟩
 . obtain⟨its,rv,p,_⟩:=I.list q;exact⟨its,rv,p.isList,p.lt⟩
theorem zipAp{n l1 l2:Nat}(h1:l1<n)(h2:l2<n):ZipApart (n+4) (n+2) (n+3) n (n+1) l1 l2:=by
 constructor <;> exact fun y=>by
  have y':(_:Nat)=_:=y;omega
section
variable {X:Cx} {elts:List Expr} {k:Nat} {tpos:Pos}
theorem xF:bootBuiltins ("zip":Str)=some (.type "zip"):=by decide +kernel
end
section
variable {X:Cx} {pins:List (Addr×Obj)} {σ:St} {x y2:Str} {N:List Str} {ix:List Nat} {scope:Scope} {cl:List (Str×Addr)} {fp:List Addr} {H3:Hp} {s3:Shared}
theorem lm(S:CompScope X x N ix scope cl)(I3:Inv X pins σ H3 s3)(hf:∀b∈fp,gn X pins H3 b)(hlt:∀b∈fp,b<s3.heap.objs.size):(bK X (x::y2::N) scope cl s3 H3 fp).Ok:=
 have h:=ln S I3 hf hlt
 ⟨h.mod,h.kind,h.glob,h.blt,h.above,h.inj,h.has,h.cab,h.hd,h.frames,h.stk,h.exf,h.bs,h.bsz,h.noex,h.exfs,h.funs,h.frf⟩
theorem sL(S:CompScope X x N ix scope cl)(I3:Inv X pins σ H3 s3)(hf:∀b∈fp,gn X pins H3 b)(hlt:∀b∈fp,b<s3.heap.objs.size)(hix:ix.length=N.length){h1:Heap}{t':Nat}{m:Str->Option Value}
 (hn:h1.Ns s3.heap.objs.size m) (hk:∀b o,s3.heap.get? b=some o->h1.get? b=some o):Inv (bK X (x::y2::N) scope cl s3 H3 fp) [] (none::none::outs ix σ) H3 { s3 with heap:=h1,toks:=t' } where
 ok:=lm S I3 hf hlt
 os:=rfl
 bare:=I3.bare
 base:=Un.kept hk
 loc:=by
  refine⟨m,hn,fun i y v h1' h2 h3=>?_⟩;cases i with
  | zero=>
    have h2':(some (none:Option V))=some (some v):=h2;cases h2'
  | succ j=>
   cases j with
   | zero=>
    have h2':(some (none:Option V))=some (some v):=h2;cases h2'
   | succ j=>
    have h1'':N[j]?=some y:=h1';have h2':(outs ix σ)[j]?=some (some v):=h2;obtain⟨hr,k,c,e1,e2,e3,e4⟩:=S.outs j y h1'';unfold outs at h2';rw[zV0,e1]at h2';have h2'':(σ[k]?).join=some v:=zS0 h2';have e5:σ[k]?=some (some v):=by
     cases q:σ[k]? with
     | none=>rw[q]at h2'';cases h2''
     | some o=>rw[q]at h2'';exact congrArg some h2''
    obtain⟨m0,_,hl⟩:=I3.loc;obtain⟨u,r,l⟩:=hl k y v e2 e5 (.inr (.inl e4));refine⟨u,r,.inr ⟨.inl hr,c,e3,?_⟩⟩;rcases l with⟨kk,_⟩ | ⟨_,c',ec,z⟩
    . have kk':X.env.scope.names.lookup y=some .local:=kk;rw[e4]at kk';cases kk'
    . rw[S.cells e3]at ec;cases ec;obtain⟨o,ho,hd⟩:=z;exact⟨o,hk _ _ ho,hd⟩
 cell:=fun y c e=>by
  obtain⟨v,o,ho,hd⟩:=I3.cell y c (S.cells e);exact⟨v,o,hk _ _ ho,hd⟩
 free:=I3.hok.fresh (zJ0 _)
 freeC:=fun y c e=>I3.freeC y c (S.cells e)
 pin:=fun p hp=>absurd (show p∈([]:List (Addr×Obj))from hp) (by simp)
 hok:=I3.hok.kept hk
 len:=by
  show(none::none::outs ix σ).length=(x::y2::N).length;rw[qF0,qF0,qF0,qF0];unfold outs;rw[zH0,hix]
end
section
variable {X:Cx} {x y2:Str} {N:List Str} {ix:List Nat} {scope:Scope} {cl:List (Str×Addr)} {elt iter:Expr} {ifs:List Expr} {px py pt pos:Pos} {kt:Nat} {wi:TI} {tb:TBl}
def vW(K:W.Frag)(J:It)(D:Addr)(ix:List Nat)(tb:TBl)(σ:St)(H:Hp)(Q:VK):Prop:=∃W:Nat->Nat->Hp->Prop,(∃m,W 0 m (upd H D (.lst [])))/\∀i m H2,W i m H2 ->
 (J.stop i H2/\Q (.ref D) H2)∨(J.go i H2/\∀y H3,J.yld i H2 y H3->∃t v1 v2,y=.ref t/\SqT K H3 t [v1,v2]/\tb (some v1::some v2::outs ix σ) H3 (fun H4=>∃m',m'<m/\W (i+1) m' H4)
  fun z H4=>∃ys,H4 D=some (.lst ys)/\ys.length<sizeLine/\∃m',m'<m/\W (i+1) m' (upd H4 D (.lst (ys++[z]))))
def AC(K:W.Frag)(wi:TI)(ix:List Nat)(tb:TBl):TE:=fun σ H Q=>wi σ H fun J H1=>∀D,H1 D=none->vW K J D ix tb σ H1 Q
theorem xB(hc:X.calm=true)(S:CompScope X x N ix scope cl)(S2:scope.names.lookup y2=some .local)(nd2:(x::y2::N).Nodup)(hix:ix.length=N.length)(hb:∀s3 H3 fp,PB (bK X (x::y2::N) scope cl s3 H3 fp) ifs elt tb)
 {pins:List (Addr×Obj)} {s2:Shared} {σ:St} {H2:Hp} {Q:VK} {it:Addr} {fp:List Addr} {tn:Nat->Heap->Prop} {J:It} {RR:Value->Addr->Result->Shared->Prop} {E:Value->Shared->Prop}
 (I2:Inv X pins σ H2 s2) (T:Turn X.prog X.w X.K (.Tuple [.Name x px,.Name y2 py] kt pt) J fp it tn) (st2:tn 0 s2.heap) (f2:∀b∈fp,gn X pins H2 b)
 (h:∀D,H2 D=none->∃W:Nat->Nat->Hp->Prop,(∃m,W 0 m (upd H2 D (.lst [])))/\∀i m H3,W i m H3 ->
  (J.stop i H3/\Q (.ref D) H3)∨(J.go i H3/\∀y H4,J.yld i H3 y H4->∃t v1 v2,y=.ref t/\SqT X.K H4 t [v1,v2]/\tb (some v1::some v2::outs ix σ) H4 (fun H5=>∃m',m'<m/\W (i+1) m' H5)
   fun z H5=>∃ys,H5 D=some (.lst ys)/\ys.length<sizeLine/\∃m',m'<m/\W (i+1) m' (upd H5 D (.lst (ys++[z])))))
 (hRR:∀(D C:Addr)(H':Hp)(s':Shared)(m:Str->Option Value),s'.heap.Ns C m->Apart X pins H' C->Inv X pins σ H' s'->Q (.ref D) H'->RR (.ref D) C (.ok .next) s') :
 wpAny (model X.prog X.w) X.A (newList []) (fun acc s3=>wpAny (model X.prog X.w) X.A (newFunctionEnv scope X.env.globals cl [] X.env.qual none .none (some X.env)) (fun cenv s4=>
  codeAny (model X.prog X.w) X.A (.compStart (.ListComp elt [⟨.Tuple [.Name x px,.Name y2 py] kt pt,iter,ifs,0⟩] scope pos) 0 (.ref it) acc { cenv with scope:=relabel scope X.env }) (RR acc cenv.locals) s4) E s3) E s2:=by
 refine wpAny_newObj_type (wpAny_newFunctionEnv S.nocell (by intro y hy;simp at hy) (fun h1 hns1 hsb1=>?_) S.kind)
 dsimp only at hns1 hsb1 ⊢
 have I3:Inv X pins σ (upd H2 s2.heap.objs.size (.lst [])) { s2 with heap:=s2.heap.push { cls:=.type "list",dict:=none,data:=.seq ([]:List Value).toArray } }:=I2.lnew (its:=[]) (ys:=[]) (t':=s2.toks) .nil (qC0 _);have hD:H2 s2.heap.objs.size=none:=I2.fresh;obtain⟨W,⟨m0,w0⟩,turn⟩:=h s2.heap.objs.size hD;have hltF:∀b∈fp,b<s2.heap.objs.size:=fun b hb=>by
  obtain⟨o,e,_⟩:=T.obj 0 _ st2 b hb;exact zN0 e
 generalize hs3:({ s2 with heap:=s2.heap.push { cls:=.type "list",dict:=none,data:=.seq ([]:List Value).toArray } }:Shared)=s3 at I3;have eh:s2.heap.push { cls:=.type "list",dict:=none,data:=.seq ([]:List Value).toArray }=s3.heap:=by rw[←hs3]
 have et:s2.toks=s3.toks:=by rw[←hs3]
 rw[eh]at hns1 hsb1 ⊢;have sz3:s3.heap.objs.size=s2.heap.objs.size+1:=by rw[←eh,Heap.size_push]
 have hlt3:∀b∈fp,b<s3.heap.objs.size:=fun b hb=>qH0 (hltF b hb) (by rw[sz3];exact qI0 _)
 have f3:∀b∈fp,gn X pins (upd H2 s2.heap.objs.size (.lst [])) b:=fun b hb=>by
  obtain⟨q1,q2⟩:=f2 b hb;exact⟨by rw[am (zR0 (hltF b hb))];exact q1,q2⟩
 have up:∀b o,s3.heap.get? b=some o->h1.get? b=some o:=fun b o e=>hsb1.extBut b o (zR0 (zN0 e)) (zQ0 _ e)
 have old:∀b o,s2.heap.get? b=some o->h1.get? b=some o:=fun b o e=>up b o (by rw[←eh];exact zQ0 _ e)
 have es:({ s2 with heap:=h1,toks:=s2.toks+([]:List (Str×Value)).length }:Shared)={ s3 with heap:=h1,toks:=s2.toks+([]:List (Str×Value)).length }:=by rw[←hs3]
 rw [es];have I4:Inv (bK X (x::y2::N) scope cl s3 (upd H2 s2.heap.objs.size (.lst [])) fp) [] (none::none::outs ix σ) (upd H2 s2.heap.objs.size (.lst [])) { s3 with heap:=h1,toks:=s2.toks+([]:List (Str×Value)).length }:=
  sL S I3 f3 hlt3 hix hns1 up
 have st4:tn 0 h1:=T.keep 0 _ _ st2 fun b _ o e=>old b o e
 have loop:codeAny (model X.prog X.w) X.A (.compLoop (.ListComp elt [⟨.Tuple [.Name x px,.Name y2 py] kt pt,iter,ifs,0⟩] scope pos) 0 (.ref it) (.ref s2.heap.objs.size) (compEnvC scope cl s3.heap.objs.size X.env)) (RR (.ref s2.heap.objs.size) s3.heap.objs.size)
  { s3 with heap:=h1,toks:=s2.toks+([]:List (Str×Value)).length }:=by
  refine jz (fun n s'=>∃i v0 v00 H',Inv (bK X (x::y2::N) scope cl s3 (upd H2 s2.heap.objs.size (.lst [])) fp) [] (v0::v00::outs ix σ) H' s'/\tn i s'.heap/\(∀b∈fp,H' b=none)/\W i n H') ?_ m0 ⟨0,none,none,_,I4,st4,fun b hb=>(f3 b hb).1,w0⟩;rintro n s5 ⟨i,v0,v00,H5,I5,st5,fr5,w5⟩;have stat:∀{H':Hp},(∀b∈fp,H' b=none)->∀b∈fp,gn (bK X (x::y2::N) scope cl s3 (upd H2 s2.heap.objs.size (.lst [])) fp) [] H' b:=fun hn b hb=>
   ⟨hn b hb,((lm S I3 f3 hlt3).exf b hb).1,(lm S I3 f3 hlt3).exfs b hb,.inl hb,((lm S I3 f3 hlt3).exf b hb).2,fun p hp=>absurd (show p∈([]:List (Addr×Obj))from hp) (by simp)⟩
  rcases turn i n H5 w5 with⟨stop,qn⟩ | ⟨go,step⟩
  . refine thn (T.done (bK X (x::y2::N) scope cl s3 (upd H2 s2.heap.objs.size (.lst [])) fp) rfl rfl rfl hc i [] s5 _ H5 _ I5 (stat fr5) st5 stop) fun r s6 ⟨hr,I6⟩=>?_
    subst hr;obtain⟨m6,hn6,_⟩:=I6.loc;exact hRR _ _ H5 s6 m6 hn6 ⟨I6.free,Ne.symm (zR0 I3.lt),I3.sz,fun y c e z=>by
     obtain⟨v,q⟩:=I3.cell y c e;exact absurd q.lt (by rw[z];exact qR0 _),fun p hp z=>absurd (zN0 (I3.pin p hp).1) (by rw[z];exact qR0 _)⟩ (pP I3 f3 I6 (Heap.SameBut.refl _ _)) qn
  . refine thn (T.item (bK X (x::y2::N) scope cl s3 (upd H2 s2.heap.objs.size (.lst [])) fp) rfl rfl rfl hc i [] s5 _ H5 _ I5 (stat fr5) st5 go) fun r s6 ⟨u,hr,h6⟩=>?_
    subst hr;refine thn h6 fun _ s7 ⟨y,H7,I7,r7,y7,st7,fr7⟩=>?_
    have I7':=I7.pinned (stat fr7) (T.obj _ _ st7);obtain⟨tt,v1,v2,ey,sq,stp⟩:=step y H7 y7;subst ey;have pg:PG (bK X (x::y2::N) scope cl s3 (upd H2 s2.heap.objs.size (.lst [])) fp) (.Tuple [.Name x px,.Name y2 py] kt pt) (gTup X.K 2 (zX (oG 0) (zX (oG 1) gNil))):=
     qm hc (eg (ba (i:=0) nd2 rfl (.inl (lookup_relabel_local S.own)) (.inr (lookup_relabel_local S.own))) (eg (ba (i:=1) nd2 rfl (.inl (lookup_relabel_local S2)) (.inr (lookup_relabel_local S2))) mV))
    refine thn (pg _ s7 _ H7 (.ref tt) u (fun σ' H'=>σ'=some v1::some v2::outs ix σ/\H'=H7) I7' r7 ⟨tt,_,rfl,sq,rfl,v1,_,rfl,v2,_,rfl,rfl,rfl,rfl⟩) fun _ s8 ⟨σ8,H8,I8,e1,e2⟩=>?_
    subst e1 e2;have I8':=I8;have again:∀{v9 v99:Option V}{H9:Hp}{s9:Shared},Inv (bK X (x::y2::N) scope cl s3 (upd H2 s2.heap.objs.size (.lst [])) fp) ([]++iS fp s7.heap) (v9::v99::outs ix σ) H9 s9->(∃m',m'<n/\W (i+1) m' H9) ->
     ∃m,m<n/\∃i v0 v00 H',Inv (bK X (x::y2::N) scope cl s3 (upd H2 s2.heap.objs.size (.lst [])) fp) [] (v0::v00::outs ix σ) H' s9/\tn i s9.heap/\(∀b∈fp,H' b=none)/\W i m H':=fun{v9 v99 H9 s9} I9 ⟨m',hm,w9⟩=>by
     refine⟨m',hm,i+1,v9,v99,H9,I9.unpinned,T.keep _ _ _ st7 fun b hb o e=>(I9.pin (b,o) (qN0 _ (qN0 _ (cV hb e)))).1,fun b hb=>?_,w9⟩;obtain⟨o,e,d⟩:=T.obj _ _ st7 b hb;exact(I9.pin (b,o) (qN0 _ (qN0 _ (cV hb e)))).2.1
    refine thn (hb s3 (upd H2 s2.heap.objs.size (.lst [])) fp _ s8 _ _ _ _ I8' stp) fun ok s9 q9=>?_
    cases ok with
    | false=>
      rw[zF0 (by decide)]at q9 ⊢;obtain⟨H9,I9,q9⟩:=q9;exact again I9 q9
    | true=>
      rw[zI0 rfl]at q9 ⊢;refine thn q9 fun u s10 ⟨z,H10,I10,r10,ys,hy,hz,q10⟩=>?_
      refine thn (bi _ s10 _ H10 (.ref s2.heap.objs.size) [z] (.ref s2.heap.objs.size) [u] (fun _ H'=>∃m',m'<n/\W (i+1) m' H') I10 rfl (.cons r10 .nil) ⟨_,ys,z,rfl,rfl,hy,hz,q10⟩) fun _ s11 ⟨_,H11,I11,_,q11⟩=>?_
      exact again I11 q11
 exact codeAny_compStart_list loop (T.self _ 0 _ _ _ st4 loop)
theorem yW(hc:X.calm=true)(S:CompScope X x N ix scope cl)(S2:scope.names.lookup y2=some .local)(nd2:(x::y2::N).Nodup)(hix:ix.length=N.length)(hi:PI X (.Tuple [.Name x px,.Name y2 py] kt pt) iter wi)(hb:∀s3 H3 fp,PB (bK X (x::y2::N) scope cl s3 H3 fp) ifs elt tb)
 (hs:∀x,foldedSetIterable iter X.env x=pure x:=by intro _;rfl):PE X (.ListComp elt [⟨.Tuple [.Name x px,.Name y2 py] kt pt,iter,ifs,0⟩] scope pos) (AC X.K wi ix tb):=by
 intro pins s σ H Q I h;rw[eval_ListComp];refine wpAny_comprehension_free (use:=none) rfl hs S.clos S.kind S.names (thn (hi pins s σ H _ I h) fun xv s1 h1=>thn h1 fun itv s2 h2=>?_);obtain⟨it,fp,tn,J,H2,rfl,I2,T,st2,f2,R⟩:=h2;refine xB hc S S2 nd2 hix hb (RR:=fun acc C=>compPost (model X.prog X.w) X.A X.xe none (EP X pins σ Q) acc C) I2 T st2 f2 R ?_;intro D C H' s' m hn ap I' q;exact⟨m,hn,fun h'' hb''=>⟨.ref D,H',ap.turn I' hb'',rfl,q⟩⟩
end
end L2
namespace L2
open PySem PyProof.Rows HT
section
variable {X:Cx}
theorem AZ(K:W.Frag){tg l:Expr}{tl:TE}(hl:PE X l tl)(hK:X.K=K:=by rfl):PI X tg l (iTup K tl):=by subst hK;exact iT hl
end
end L2
namespace L2
open PySem PySem.Spec PyProof.Rows
abbrev jD(h:Heap)(z TI TO:Addr)(f0:Value)(b:Bool):Prop:=
 h.get? z=some { cls:=.type "zip",dict:=none,data:=.fields #[f0,.bool b,.bool false,.ref TI,.ref TO],slots:=#[] }
section
variable {prog:Program} {w:World} {A:Around} {E:Value->Shared->Prop} {s:Shared}
theorem qT{a:Addr}{Q:Option Obj->Shared->Prop}(h:Q (s.heap.get? a) s):wpAny (model prog w) A (loadIfAlive a) Q E s:=fun Γ p _=>by
 unfold loadIfAlive;rw[Sem.wp_loadIfAlive];exact h
theorem nq{z TI TO t:Addr}{b:Bool}{ob:Obj}{Q:Bool->Shared->Prop}(hz:jD s.heap z TI TO (rawInt t) b)(ht:s.heap.get? t=some ob)
 (hQ:∀h',jD h' z TI TO (rawInt t) true->Heap.SameBut z s.heap h'->Q false { s with heap:=h' }):wpAny (model prog w) A (Builtin.SmallTypes.ownedTupleIsFree (.ref z)) Q E s:=by
 unfold Builtin.SmallTypes.ownedTupleIsFree;refine zC0 (wpAny_field hz rfl (x:=rawInt t) rfl ?_);show wpAny _ _ (loadIfAlive (Int.toNat (t:Int)) >>= _) _ _ _;rw[qT0];refine zC0 (qT ?_);rw[ht];simp only[Option.isNone_some,Bool.false_eq_true,if_false];refine zC0 (wpAny_field hz rfl (x:=.bool b) rfl ?_);cases b with
 | true=>
   rw[zF0 (by decide)];exact zK0 (hQ s.heap hz (Heap.SameBut.refl _ _))
 | false=>
   rw[zI0 (by decide)];refine zC0 (wpAny_setField_rec hz (by simp) fun ha za sa=>zK0 ?_);exact hQ ha za sa
theorem Ar{z TI TO i1 i2 l1 l2 t:Addr}{k1 k2:Nat}{xs ys:Array Value}{x y:Value}{b:Bool}{ob:Obj}{Q:Option Value->Shared->Prop}(D:ZipApart z TI TO i1 i2 l1 l2)
 (hz:jD s.heap z TI TO (rawInt t) b) (ht:s.heap.get? t=some ob) (hTI:IsPair s.heap TI (.ref i1) (.ref i2)) (h1:SqIt s.heap i1 l1 k1 xs) (h2:SqIt s.heap i2 l2 k2 ys) (hx:xs[k1]?=some x) (hy:ys[k2]?=some y)
 (hQ:∀h',jD h' z TI TO (rawInt t) true->SqIt h' i1 l1 (k1+1) xs->SqIt h' i2 l2 (k2+1) ys->IsPair h' s.heap.objs.size x y ->
  (∀c o,c≠z->c≠i1->c≠i2->s.heap.get? c=some o->h'.get? c=some o)->Q (some (.ref s.heap.objs.size)) { s with heap:=h' }) :
 wpAny (model prog w) A (pyNext (.ref z)) Q E s:=by
 have hT:s.TypeIs (.ref z) "zip":=⟨_,hz,rfl⟩
 unfold pyNext;refine zC0 (wpAny_attempt (wpAny_callSpecial?_slot (name:=Str.ofString "__next__") hT F.slot_zip_next (wpAny_call_entry F.slot_zip_next hT F.entry_zip_next ?_ (F.args_zip_next_1 _))));show wpAny _ _ (field (.ref z) 2 >>= _) _ _ _;refine zC0 (wpAny_field hz rfl (x:=.bool false) rfl ?_);show wpAny _ _ (field (.ref z) 3 >>= _) _ _ _;refine zC0 (wpAny_field hz rfl (x:=.ref TI) rfl (zC0 (wpAny_seqItems hTI rfl ?_)));show wpAny _ _ (Builtin.SmallTypes.ownedTupleIsFree (.ref z) >>= _) _ _ _;refine zC0 (nq hz ht fun ha za sa=>?_);simp only[Bool.false_eq_true,if_false];refine zC0 ?_;rw[←Array.forIn_toList];simp only[List.forIn_cons,List.forIn_nil];refine zC0 (zC0 (wpAny_holding ?_));show wpAny _ _ (Builtin.SmallTypes.nextOf (.ref i1) >>= _) _ _ _;refine zC0 (kE (h1.ext sa.extBut D.i1z D.l1z) D.l1i1 hx fun hb q1 sb=>zK0 ?_);refine zK0 (zC0 (zC0 (wpAny_holding ?_)));show wpAny _ _ (Builtin.SmallTypes.nextOf (.ref i2) >>= _) _ _ _;refine zC0 (kE ((h2.ext sa.extBut D.i2z D.l2z).ext sb.extBut D.i12.symm D.l2i1) D.l2i2 hy fun hd q2 sd=>zK0 ?_);refine zK0 (zK0 (zC0 (wpAny_newTuple (hsz:=by show 2<=sizeLine;decide) ?_)));have sz:hd.objs.size=s.heap.objs.size:=by rw[sd.1,sb.1,sa.1]
 have zd:jD hd z TI TO (rawInt t) true:=sd.extBut _ _ D.i2z.symm (sb.extBut _ _ D.i1z.symm za);have q1d:=q1.ext sd.extBut D.i12 D.l1i2;have up:∀c o,hd.get? c=some o->(hd.push { cls:=.type "tuple",data:=.seq #[x,y] }).get? c=some o:=fun c o e=>zQ0 _ e
 refine zK0 ⟨_,rfl,zK0 ?_⟩;show Q (some (.ref hd.objs.size)) _;rw[sz];refine hQ _ (up _ _ zd) (q1d.at (fun o e=>up _ o e) (fun o e=>up _ o e)) (q2.at (fun o e=>up _ o e) (fun o e=>up _ o e)) ?_ fun c o c1 c2 c3 e=>up _ _ (sd.extBut _ _ c3 (sb.extBut _ _ c2 (sa.extBut _ _ c1 e)))
 rw[←sz];exact qA0 _ rfl
theorem Cm{z TI TO i1 i2 l1 l2 t:Addr}{k1:Nat}{xs:Array Value}{b:Bool}{ob:Obj}{Q:Option Value->Shared->Prop}(hh:A.handled=none)(D:ZipApart z TI TO i1 i2 l1 l2)
 (hz:jD s.heap z TI TO (rawInt t) b) (ht:s.heap.get? t=some ob) (hTI:IsPair s.heap TI (.ref i1) (.ref i2)) (h1:SqIt s.heap i1 l1 k1 xs) (hx:xs[k1]?=none)
 (hQ:∀h',(∀c o,c≠z->c≠i1->c≠i2->s.heap.get? c=some o->h'.get? c=some o)->Q none { s with heap:=h' }):wpAny (model prog w) A (pyNext (.ref z)) Q E s:=by
 have hT:s.TypeIs (.ref z) "zip":=⟨_,hz,rfl⟩
 unfold pyNext;have hh1:A.in1.handled=none:=hh
 suffices hs:wpAny (model prog w) A.in1 (Builtin.«zip.__next__» ⟨[.ref z],[]⟩) (fun fin s'=>∃v,fin=.done (.ret v)/\False)
  (fun v s'=>∃h' e,v=.ref e/\s'={ s with heap:=h' }/\(∀c o,c≠z->c≠i1->c≠i2->s.heap.get? c=some o->h'.get? c=some o)/\∃o,h'.get? e=some o/\o.cls=.type "StopIteration") s by
  refine zC0 (wpAny_attempt (wpAny_callSpecial?_slot (name:=Str.ofString "__next__") hT F.slot_zip_next (wpAny_call_entry F.slot_zip_next hT F.entry_zip_next (wpAny_mono hs (fun _ _ h=>by obtain⟨_,_,f⟩:=h;exact f.elim) ?_) (F.args_zip_next_1 _))));rintro _ _ ⟨h',e,rfl,rfl,hk,o,ho,hc⟩;exact zC0 (wpAny_isInstance (T:="StopIteration") (b:=true) ⟨o,ho,hc⟩ isSubtype_stop (zK0 (hQ _ hk)))
 show wpAny _ _ (field (.ref z) 2 >>= _) _ _ _;refine zC0 (wpAny_field hz rfl (x:=.bool false) rfl ?_);show wpAny _ _ (field (.ref z) 3 >>= _) _ _ _;refine zC0 (wpAny_field hz rfl (x:=.ref TI) rfl (zC0 (wpAny_seqItems hTI rfl ?_)));show wpAny _ _ (Builtin.SmallTypes.ownedTupleIsFree (.ref z) >>= _) _ _ _;refine zC0 (nq hz ht fun ha za sa=>?_);simp only[Bool.false_eq_true,if_false];refine zC0 ?_;rw[←Array.forIn_toList];simp only[List.forIn_cons,List.forIn_nil];refine zC0 (zC0 (wpAny_holding ?_));show wpAny _ _ (Builtin.SmallTypes.nextOf (.ref i1) >>= _) _ _ _;refine zC0 (tK hh1 (h1.ext sa.extBut D.i1z D.l1z) hx fun hb e sb hoe=>?_);exact⟨hb,e,rfl,rfl,fun c o c1 c3 _ x=>sb _ _ c3 (sa.extBut _ _ c1 x),hoe⟩
end
def DO(K:W.Frag)(a:Addr)(xs:List V):It:=⟨fun i H=>SqT K H a xs/\i<xs.length,fun i H y H'=>H'=H/\xs.reverse[i]?=some y,fun i _=>xs.length<=i⟩
theorem RevT.keep{h h':Heap}{it t:Addr}{i:Int}(x:RevT h it t i)(k:∀o,h.get? it=some o->h'.get? it=some o):RevT h' it t i:=k _ x
theorem wb{P:Program}{w:World}{K:W.Frag}{tg:Expr}(a it:Addr)(xs:List V):Turn P w K tg (DO K a xs) [it] it (fun i h=>i<=xs.length/\RevT h it a ((xs.length:Int)-1-(i:Int))) where
 mem:=by simp
 obj:=fun i h st b hb=>by
  have e:b=it:=by simpa using hb
  subst e;exact⟨_,st.2,fun v z=>by cases z⟩
 keep:=fun i h h' st k=>⟨st.1,st.2.keep fun o e=>k it (by simp) o e⟩
 item:=by
  intro X hP hw hK hc i pins s σ H E I hf st hg;subst hP hw hK;obtain⟨hq,hi⟩:=hg;obtain⟨its,rv,p,hz⟩:=I.tuple hq;have hj:xs.length-1-i<xs.length:=by omega
  have hx:xs[xs.length-1-i]?=some xs[xs.length-1-i]:=zU0 hj;obtain⟨u,hu,ru⟩:=rv.get hx;obtain⟨f0,f1,f2,f3,f4,f5⟩:=hf it (by simp);obtain⟨_,hit⟩:=st;have e1:((xs.length:Int)-1-(i:Int))=((xs.length-1-i:Nat):Int):=by omega
  rw[e1]at hit;have h63:=iU;refine om hit p (x:=u) (by simpa using hu) (by omega) fun h' tk st' sb=>?_
  have I1:Inv X pins σ H { s with heap:=h',toks:=tk }:=I.turned (t':=tk) (fun b o hb e=>(sb.2 b hb).trans e) f0 f1 f3 f4 f5;have e2:((xs.length-1-i:Nat):Int)-1=(xs.length:Int)-1-((i+1:Nat):Int):=by omega
  rw[e2]at st';refine⟨u,rfl,sA (s:={ s with heap:=h',toks:=tk }) st' rfl rfl (by decide) ⟨xs[xs.length-1-i],H,I1,ru,⟨rfl,?_⟩,⟨by omega,st'⟩,fun b hb=>(hf b hb).1⟩⟩;rw[List.getElem?_reverse hi,hx]
 done:=by
  intro X hP hw hK hc i pins s σ H E I hf st hg;subst hP hw hK;have hg:xs.length<=i:=hg;obtain⟨f0,f1,f2,f3,f4,f5⟩:=hf it (by simp);obtain⟨hi,hit⟩:=st;have e1:(xs.length:Int)-1-(i:Int)=-1:=by omega
  rw[e1]at hit;exact oZ (I.ok.hd hc) hit fun h' tk eb=>⟨rfl,I.turned (t':=tk) (fun b o hb e=>eb b o hb e) f0 f1 f3 f4 f5⟩
 self:=fun _ _ _ _ _ st h=>pI st.2 h
def BG(K:W.Frag)(c:Bool)(a:Addr)(xs:List V):It:=if c=true then ItV K a xs else DO K a xs
section
variable {X:Cx} {tg:Expr}
def iRevB(K:W.Frag)(tl:TE):TI:=fun σ H R=>tl σ H fun x H1=>∃c a xs,x=.ref a/\SqB K c H1 a xs/\R (BG K c a xs) H1
theorem vF {l:Expr} {tl:TE} {p pos:Pos} (hg:Gl X "reversed") (hm:X.mg "reversed"=none) (hl:PE X l tl) (hs:starEach [l] X.env=[(false,eval l X.env)]:=by rfl) :
 PI X tg (.Call (.Name "reversed" p) [l] [] pos) (iRevB X.K tl):=by
 intro pins s σ H R I h;refine wpAny_Call_Name_kw (gj I hg hm oP ?_);refine PyProof.Rows.callWith_type1 ?_ hs rfl;rw[hs];show wpAny _ _ (spliced ((false,eval l X.env)::backTo pos (starEach [] X.env))) _ _ s;refine Calls.spliced_cons (thn (hl pins s σ H _ I h) fun u s1 ⟨x,H1,I1,r1,c,a,xs,ex,hq,q⟩=>?_);subst ex;cases r1;refine Calls.spliced_nil ?_;cases c with
 | true=>
   have hq:SqL X.K H1 a xs:=hq;have q:R (ItV X.K a xs) H1:=q;obtain⟨its,rv,p,hz⟩:=I1.list hq;have hlen:=rv.length;refine call_reversed_list p.isList ?_;have hr:(s1.heap.push (revObj a ((its.toArray.size:Int)-1))).IsRevIter s1.heap.objs.size a ((xs.length:Int)-1-((0:Nat):Int)):=by
    have e:(xs.length:Int)-1-((0:Nat):Int)=(its.toArray.size:Int)-1:=by rw[zW0];omega
    rw[e];exact⟨_,qA0 _ rfl,rfl,rfl⟩
   refine wpAny_pyIter_revIter hr ?_;refine⟨s1.heap.objs.size,[s1.heap.objs.size],_,_,H1,rfl,I1.kept (t':=s1.toks) fun b o e=>zQ0 _ e,vZ a _ xs,⟨qC0 _,hr⟩,fun b hb=>?_,q⟩;have e:b=s1.heap.objs.size:=by simpa using hb
   subst e;exact I1.fpOk (zJ0 _) (I1.hok.fresh (zJ0 _))
 | false=>
   have hq:SqT X.K H1 a xs:=hq;have q:R (DO X.K a xs) H1:=q;obtain⟨its,rv,p,hz⟩:=I1.tuple hq;have hlen:=rv.length;refine lw p (by rw[zW0,←rv.length];exact hz) fun tk=>?_
   have hr:RevT (s1.heap.push { cls:=.type "reversed",data:=.fields #[.ref a,rawInt ((its.toArray.size:Int)-1)] }) s1.heap.objs.size a ((xs.length:Int)-1-((0:Nat):Int)):=by
    have e:(xs.length:Int)-1-((0:Nat):Int)=(its.toArray.size:Int)-1:=by rw[zW0];omega
    rw[e];exact qA0 _ rfl
   refine pI hr ?_;refine⟨s1.heap.objs.size,[s1.heap.objs.size],_,_,H1,rfl,I1.kept (t':=tk) fun b o e=>zQ0 _ e,wb a _ xs,⟨qC0 _,hr⟩,fun b hb=>?_,q⟩;have e:b=s1.heap.objs.size:=by simpa using hb
   subst e;exact I1.fpOk (zJ0 _) (I1.hok.fresh (zJ0 _))
end
theorem sE{K:W.Frag}{c:Bool}{a:Addr}{xs:List V}{g:TG}{tb:TS}{D:Ends}{σ:St}{H:Hp}(Pv:Nat->St->Hp->Prop)(h0:Pv 0 σ H)(hl:∀i σ H,i<=xs.length->Pv i σ H->SqB K c H a xs)
 (hs:∀i x σ H,i<xs.length->xs.reverse[i]?=some x->Pv i σ H->g x σ H fun σ2 H2=>tb { D with nx:=Pv (i+1),ct:=Pv (i+1),bk:=D.nx } σ2 H2) (hd:∀ σ H,Pv xs.length σ H->D.nx σ H) :
 ∃ W:Nat->Nat->St->Hp->Prop,(∃m,W 0 m σ H)/\∀i m σ H,W i m σ H ->
  ((BG K c a xs).stop i H/\D.nx σ H)∨((BG K c a xs).go i H/\∃N:St->Hp->Prop,(∀ σ' H',N σ' H'->∃m',m'<m/\W (i+1) m' σ' H')/\∀x H',(BG K c a xs).yld i H x H'->g x σ H' fun σ2 H2=>tb { D with nx:=N,ct:=N,bk:=D.nx } σ2 H2):=by
 cases c with
 | true=>exact zY Pv h0 hl hs hd
 | false=>
   refine⟨fun i m σ H=>m=xs.length-i/\i<=xs.length/\Pv i σ H,⟨xs.length,by simp,qC0 _,h0⟩,?_⟩;rintro i m σ H ⟨rfl,hi,p⟩;have q:=hl i σ H hi p
   by_cases hlt:i<xs.length
   . refine .inr ⟨⟨q,hlt⟩,Pv (i+1),fun σ' H' p'=>⟨xs.length-(i+1),by omega,rfl,hlt,p'⟩,fun x H' y=>?_⟩;obtain⟨e,ex⟩:=y;subst e;exact hs i x σ _ hlt ex p
   . have e:i=xs.length:=by omega
     subst e;exact .inl ⟨zJ0 _,hd σ H p⟩
theorem uR{K:W.Frag}{a D:Addr}{xs:List V}{ix:List Nat}{tb:TBl}{σ:St}{H:Hp}{Q:VK}(Pv:Nat->Hp->Prop)(h0:Pv 0 (upd H D (.lst [])))(hl:∀i H,i<=xs.length->Pv i H->SqL K H a xs)
 (hs:∀i x H,xs[i]?=some x->Pv i H->∃t v1 v2,x=.ref t/\SqT K H t [v1,v2]/\tb (some v1::some v2::outs ix σ) H (Nx xs.length i Pv) fun z H'=>∃ys,H' D=some (.lst ys)/\ys.length<sizeLine/\Nx xs.length i Pv (upd H' D (.lst (ys++[z])))) (hd:∀H,Pv xs.length H->Q (.ref D) H) :
 vW K (Itl K a) D ix tb σ H Q:=by
 refine⟨fun i m H=>m=xs.length-i/\i<=xs.length/\Pv i H,⟨xs.length,by simp,qC0 _,h0⟩,?_⟩;rintro i m H ⟨rfl,hi,p⟩;have q:=hl i H hi p
 by_cases hlt:i<xs.length
 . refine .inr ⟨⟨xs,xs[i],q,by simp [hlt]⟩,fun x H' y=>?_⟩;obtain⟨e,y⟩:=y;subst e;exact hs i x _ (y xs q) p
 . have e:i=xs.length:=by omega
   subst e;exact .inl ⟨⟨xs,q,zJ0 _⟩,hd H p⟩
theorem qS:typeLookup (.type "zip") "keys"=pure none:=by rw[typeLookup_type,builtinLookup_eq_fast];kernel_rfl
theorem lB:typeLookup (.type "zip") "__getattr__"=pure none:=by rw[typeLookup_type,builtinLookup_eq_fast];kernel_rfl
theorem iW:entryFor table "zip.__getattribute__"=some Builtin.«object.__getattribute__»:=entryFor_alias (id':="object.__getattribute__") (by kernel_rfl) (by decide +kernel) (by decide +kernel) (by kernel_rfl)
theorem ou (a:Addr) (fs:Array Value) (name:Str) (u:Tok) (hmiss:typeLookup (.type "zip") name=pure none) (hname:(["__module__","__name__","__qualname__","__doc__","__annotations__"]:List Str).contains name=false) (hsz:name.length+100<=sizeLine:=by size_fits) :
 Meets (Builtin.«object.__getattribute__» ⟨[.ref a,.str name u],[]⟩) (fun A R s=>s.heap.get? a=some { cls:=.type "zip",dict:=none,data:=.fields fs,slots:=#[] }/\raisesAttr (.ref a) name A R s):=
 Meets.of_wp fun prog w A R s hs=>by
  obtain⟨hp,g,d,tk,os⟩:=s;obtain⟨hx,hs⟩:=hs;have hT:(⟨hp,g,d,tk,os⟩:Shared).TypeIs (.ref a) "zip":=⟨_,hx,rfl⟩
  unfold Builtin.«object.__getattribute__»
  repeat (any_goals (first | assumption | wp_step))
  simp only[hname,Bool.false_eq_true,if_false]
  repeat (any_goals (first | assumption | wp_step))
  exact wpAny_raiseAttrError hs.1 hs.2 (attrMsg_fits (by decide +kernel) hsz)
section
variable {prog:Program} {w:World} {A:Around} {E:Value->Shared->Prop} {s:Shared}
theorem Bp {a:Addr} {fs:Array Value} {Q:Option Value->Shared->Prop} (hx:s.heap.get? a=some { cls:=.type "zip",dict:=none,data:=.fields fs,slots:=#[] }) (hA:A.handled=none)
 (h:∀h' tk,(∀b o,s.heap.get? b=some o->h'.get? b=some o)->Q none { s with heap:=h',toks:=tk }):wpAny (model prog w) A (getAttr? (.ref a) "keys") Q E s:=by
 obtain⟨hp,g,d,tk,os⟩:=s;have hT:∀tk',(⟨hp,g,d,tk',os⟩:Shared).TypeIs (.ref a) "zip":=fun _=>⟨_,hx,rfl⟩
 have f1:=sub_AttributeError;have f3:=F.slot_zip_getattribute.lookup;have f4:=F.slot_zip_getattribute.bind (.ref a);have f5:=lB;unfold getAttr? getAttrBy? getAttrBy
 repeat (any_goals (first | assumption | exact hT _ | ((with_reducible show wpAny _ _ (call (Value.builtin "zip.__getattribute__") _ _) _ _ _);refine call_meets F.slot_zip_getattribute (hT _) iW (F.args_zip_getattribute_2 _ _) (ou a fs "keys" _ qS (by decide) (by decide)) ⟨hx,hA,fun h' tk' e hx'=>?_⟩) | wp_step))
 obtain⟨t',u',he⟩:=hx'.there;show wpAny _ _ (getattributeRaised _ _ _ _ _ _ _) _ _ _;unfold getattributeRaised
 repeat (any_goals (first | assumption | wp_step))
 exact h _ _ hx'.keeps
theorem iG:entryFor table "dict.update.loop"=some Builtin.«dict.update.loop»:=entryFor_of_tree (by kernel_rfl)
theorem df:plainId "dict.update.loop"=true:=by decide +kernel
theorem tJ{vs:List (Key×Value)}{k:Key}{v:Value}:(stored vs k v).length<=vs.length+1:=by
 unfold stored
 split
 . rw[zH0];exact qI0 _
 . rw[zO0,qU0];exact zJ0 _
def ZS(d z TI TO i1 i2:Addr)(i:Nat)(h:Heap):Prop:=((i=0/\IsZip h z TI TO .none)∨∃(t:Addr)(f:Bool)(ob:Obj),jD h z TI TO (rawInt t) f/\h.get? t=some ob/\t∉[d,z,TO,i1,i2])/\IsPair h TI (.ref i1) (.ref i2)/\∃p q,IsPair h TO p q
theorem Bw{d z TI TO i1 i2 l1 l2:Addr}{xs ys:Array Value}{rs:List (Key×Value)}{R:Result->Shared->Prop}(hh:A.handled=none)(D:ZipApart z TI TO i1 i2 l1 l2)(dn:d∉[z,TI,TO,i1,i2,l1,l2])(hl:xs.size=rs.length)
 (hk:∀(j:Nat)(kv:Key×Value),rs[j]?=some kv->∃ky,xs[j]?=some ky/\ys[j]?=some kv.2/\(bj prog w).is kv.1 ky=true) :
 ∀(k i:Nat)(s:Shared)(kvs:List (Key×Value)),rs.length-i=k->i<=rs.length->ZS d z TI TO i1 i2 i s.heap->SqIt s.heap i1 l1 i xs->SqIt s.heap i2 l2 i ys->s.heap.DictOf (bj prog w) d kvs->kvs.length+k<=sizeLine ->
  (∀h' tk,h'.DictOf (bj prog w) d (merged kvs (rs.drop i))->(∀b o,b∉[d,z,TO,i1,i2]->s.heap.get? b=some o->h'.get? b=some o)->R (.ok (.ret .none)) { s with heap:=h',toks:=tk }) ->
  codeAny (model prog w) A (.builtin "dict.update.loop" ⟨[.ref d,.ref z,.int i 0,.none],[]⟩) R s:=by
 have dz:d≠z:=fun e=>dn (by simp [e])
 have dTI:d≠TI:=fun e=>dn (by simp [e])
 have dTO:d≠TO:=fun e=>dn (by simp [e])
 have d1:d≠i1:=fun e=>dn (by simp [e])
 have d2:d≠i2:=fun e=>dn (by simp [e])
 have dl1:d≠l1:=fun e=>dn (by simp [e])
 have dl2:d≠l2:=fun e=>dn (by simp [e])
 intro k
 induction k with
 | zero=>
   intro i s kvs hk0 hi zs q1 q2 hd hz hR;have hin:i=rs.length:=by omega
   refine codeAny_builtin iG ?_;rw[Around.under_plainId df _];show wpAny _ A.in1 (pyNext (.ref z) >>= _) _ _ s;have hx:xs[i]?=none:=Array.getElem?_eq_none (by omega);have fin:∀h',(∀c o,c≠z->c≠TO->c≠i1->c≠i2->s.heap.get? c=some o->h'.get? c=some o)->R (.ok (.ret .none)) { s with heap:=h' }:=fun h' kp=>by
    refine hR h' s.toks ?_ fun b o nb e=>kp b o (fun y=>nb (by simp [y])) (fun y=>nb (by simp [y])) (fun y=>nb (by simp [y])) (fun y=>nb (by simp [y])) e
    rw[hin,List.drop_length];obtain⟨o,es,ep,e,r⟩:=hd;exact⟨o,es,ep,kp _ _ dz dTO d1 d2 e,r⟩
   obtain⟨hz',hTI,⟨p,q,hTO⟩⟩:=zs;rcases hz' with⟨_,hz'⟩ | ⟨t,f,ob,hz',ht,_⟩
   . refine zC0 (Cl (A:=A.in1) hh D hz' hTI hTO q1 q2 (.inl hx) fun h' kp=>?_);show wpAny _ A.in1 (Builtin.Dict.addKeywords d [] >>= _) _ _ _;exact zC0 (zK0 (zK0 (fin h' kp)))
   . refine zC0 (Cm (A:=A.in1) hh D hz' ht hTI q1 hx fun h' kp=>?_);show wpAny _ A.in1 (Builtin.Dict.addKeywords d [] >>= _) _ _ _;exact zC0 (zK0 (zK0 (fin h' fun c o n1 n2 n3 n4 e=>kp c o n1 n3 n4 e)))
 | succ k ih=>
   intro i s kvs hk0 hi zs q1 q2 hd hz hR;have hlt:i<rs.length:=by omega
   obtain ⟨ky,hx,hy,hkey⟩:=hk i rs[i] (zU0 hlt);refine codeAny_builtin iG ?_;rw[Around.under_plainId df _];show wpAny _ A.in1 (pyNext (.ref z) >>= _) _ _ s;have dlt:d<s.heap.objs.size:=by
    obtain⟨_,_,_,e,_⟩:=hd;exact zN0 e
   have sfr:s.heap.get? s.heap.objs.size=none:=by
    cases e:s.heap.get? s.heap.objs.size with
    | none=>rfl
    | some o=>exact absurd (zN0 e) (qR0 _)
   have step:∀ha,(∃(t:Addr)(f:Bool)(ob:Obj),jD ha z TI TO (rawInt t) f/\ha.get? t=some ob/\t∉[d,z,TO,i1,i2])->IsPair ha TI (.ref i1) (.ref i2)->(∃p q,IsPair ha TO p q)->SqIt ha i1 l1 (i+1) xs->SqIt ha i2 l2 (i+1) ys->IsPair ha s.heap.objs.size ky rs[i].2 ->
    (∀c o,c≠z->c≠TO->c≠i1->c≠i2->s.heap.get? c=some o->ha.get? c=some o) ->
    wpAny (model prog w) A.in1 (holding [Value.ref s.heap.objs.size] (do
     let pair ←(Builtin.Dict.pairItems (.ref s.heap.objs.size)).tryCatch fun e=>do
      if !(←isInstance e (.type "TypeError"))then throw e
      rule "dict.update.element-no-sequence"
      raiseError "TypeError" s!"cannot convert dictionary update sequence element #{(i : Int)} to a sequence"
     match pair with
     | [k,v]=>holding [k,v] (dictSet d k v)
     | l=>
       rule "dict.update.element-length"
       raiseError "ValueError" s!"dictionary update sequence element #{(i : Int)} has length {l.length}; 2 is required") >>= fun _=>again (.builtin "dict.update.loop" ⟨[.ref d,.ref z,rawInt ((i:Int)+1),.none],[]⟩))
     (fun fin s'=>match fin with | .done f=>R (.ok f) s' | .again c'=>c'.quiet=true/\codeAny (model prog w) A c' R s') (fun e s'=>R (.error e) s') { s with heap:=ha }:=fun ha za hTIa hTOa g1 g2 pr kp=>by
    refine zC0 (wpAny_holding ?_);refine zC0 ?_;have hT:Shared.TypeIs { s with heap:=ha } (.ref s.heap.objs.size) "tuple":=⟨_,pr,rfl⟩
    refine wpAny_tryCatch ?_;unfold Builtin.Dict.pairItems;refine zC0 (wpAny_typeOf hT ?_);rw[zI0 (by decide)];refine zC0 (wpAny_seqItems pr rfl (zK0 ?_));show wpAny _ A.in1 (holding [ky,rs[i].2] (dictSet d ky rs[i].2)) _ _ _;have hda:ha.DictOf (bj prog w) d kvs:=by
     obtain⟨o,es,ep,e,r⟩:=hd;exact⟨o,es,ep,kp _ _ dz dTO d1 d2 e,r⟩
    refine wpAny_holding (wpAny_dictSet_pairs (knd:=bj prog w) (hsz:=by omega) hkey hda fun hb hdb sb=>?_);refine zK0 ⟨plainId_quiet df _,?_⟩;have ii:((i:Int)+1)=((i+1:Nat):Int):=by omega
    show codeAny _ A (.builtin "dict.update.loop" ⟨[.ref d,.ref z,.int ((i:Int)+1) 0,.none],[]⟩) R _;rw[ii];obtain⟨t,f,ob,hzt,ht,tn⟩:=za;obtain⟨p,q,hTO⟩:=hTOa;refine ih (i+1) _ (stored kvs rs[i].1 rs[i].2) (by omega) (by omega) ⟨.inr ⟨t,f,ob,sb.extBut _ _ (Ne.symm dz) hzt,sb.extBut _ _ (fun y=>tn (by simp [y])) ht,tn⟩,sb.extBut _ _ (Ne.symm dTI) hTIa,p,q,sb.extBut _ _ (Ne.symm dTO) hTO⟩ (g1.ext sb.extBut (Ne.symm d1) (Ne.symm dl1)) (g2.ext sb.extBut (Ne.symm d2) (Ne.symm dl2)) hdb (by have:=tJ (vs:=kvs) (k:=rs[i].1) (v:=rs[i].2);omega) fun h' tk hd' kp'=>?_
    refine hR h' tk ?_ fun b o nb e=>kp' b o nb (sb.extBut _ _ (fun y=>nb (by simp [y])) (kp b o (fun y=>nb (by simp [y])) (fun y=>nb (by simp [y])) (fun y=>nb (by simp [y])) (fun y=>nb (by simp [y])) e))
    rw[List.drop_eq_getElem_cons hlt];exact hd'
   have lts:∀{c:Addr}{o:Obj},s.heap.get? c=some o->s.heap.objs.size≠c:=fun{c o} e y=>by rw[←y,sfr]at e;cases e
   obtain ⟨hz',hTI,⟨p,q,hTO⟩⟩:=zs;have ns:∀{zo:Obj},s.heap.get? z=some zo->s.heap.objs.size∉[d,z,TO,i1,i2]:=fun{zo} ez hm=>by
    simp only[List.mem_cons,List.not_mem_nil,or_false]at hm;obtain⟨o1,e1,_⟩:=q1.obj;obtain⟨o2,e2,_⟩:=q2.obj;rcases hm with h | h | h | h | h
    . exact absurd h (qS0 dlt)
    . exact lts ez h
    . exact lts hTO h
    . exact lts e1 h
    . exact lts e2 h
   rcases hz' with⟨_,hz'⟩ | ⟨t,f,ob,hz',ht,tn⟩
   . refine zC0 (Aq D hz' hTI hTO q1 q2 hx hy fun h' z1 TO1 g1 g2 T1 k1=>?_);exact step h' ⟨_,_,_,z1,T1,ns hz'⟩ (k1 _ _ D.TIz D.TITO D.TIi1 D.TIi2 hTI) ⟨_,_,TO1⟩ g1 g2 T1 k1
   . refine zC0 (Ar D hz' ht hTI q1 q2 hx hy fun h' z1 g1 g2 T1 k1=>?_);exact step h' ⟨t,_,ob,z1,k1 _ _ (fun y=>tn (by simp [y])) (fun y=>tn (by simp [y])) (fun y=>tn (by simp [y])) ht,tn⟩ (k1 _ _ D.TIz D.TIi1 D.TIi2 hTI) ⟨p,q,k1 _ _ D.TOz D.TOi1 D.TOi2 hTO⟩ g1 g2 T1 fun c o n1 n2 n3 n4 e=>k1 c o n1 n3 n4 e
theorem pc{z TI TO i1 i2 l1 l2:Addr}{xs ys:Array Value}{rs:List (Key×Value)}{p q:Value}{Q:Value->Shared->Prop}(hh:A.handled=none)(D:ZipApart z TI TO i1 i2 l1 l2)(hz:IsZip s.heap z TI TO .none)(hTI:IsPair s.heap TI (.ref i1) (.ref i2))(hTO:IsPair s.heap TO p q)
 (q1:SqIt s.heap i1 l1 0 xs) (q2:SqIt s.heap i2 l2 0 ys) (ll1:l1<s.heap.objs.size) (ll2:l2<s.heap.objs.size) (hl:xs.size=rs.length) (hk:∀(j:Nat)(kv:Key×Value),rs[j]?=some kv->∃ky,xs[j]?=some ky/\ys[j]?=some kv.2/\(bj prog w).is kv.1 ky=true) (hn:rs.length<=sizeLine)
 (h:∀h' tk,h'.DictOf (bj prog w) s.heap.objs.size (merged [] rs)->(∀b o,b∉[z,TO,i1,i2]->s.heap.get? b=some o->h'.get? b=some o)->Q (.ref s.heap.objs.size) { s with heap:=h',toks:=tk }) :
 wpAny (model prog w) A (call (.type "dict") [.ref z]) Q E s:=by
 refine callType_codes (Q₁:=fun obj s₁=>obj=.ref s.heap.objs.size/\s₁={ s with heap:=s.heap.push { cls:=.type "dict",data:=.dict #[] } }) F.kt_called_dict (F.kt_typeCall_dict_1 _) F.entry_dict_init (kt_code_dict_new _ ⟨rfl,rfl⟩) ?_;rintro obj s₁ ⟨rfl,rfl⟩;have hnew:(s.heap.push { cls:=.type "dict",data:=.dict #[] }).DictOf (bj prog w) s.heap.objs.size []:=Heap.DictOf.new s.heap;have up:∀b o,s.heap.get? b=some o->(s.heap.push { cls:=.type "dict",data:=.dict #[] }).get? b=some o:=fun b o e=>zQ0 _ e
 have lt:∀{b o},s.heap.get? b=some o->b<s.heap.objs.size:=fun e=>zN0 e
 refine ⟨hnew.typeIs,F.args_dict_init_2 _ _,?_⟩;unfold Builtin.«dict.__init__»;refine zC0 ?_;unfold Builtin.Dict.selfAndRest;refine zC0 (wpAny_notOrdered_dict hnew.typeIs ?_);show wpAny _ _ (pure (s.heap.objs.size,[Value.ref z])) _ _ _;refine zK0 ?_;show wpAny _ _ (Builtin.Dict.updateFrom "dict.__init__" s.heap.objs.size (.ref z) [] .none) _ _ _;unfold Builtin.Dict.updateFrom;have hz1:=up _ _ hz;refine zC0 (wpAny_typeOf (T:="zip") ⟨_,hz1,rfl⟩ ?_);rw[zI0 (by decide)];refine zC0 (Bp hz1 hh fun h2 tk kp=>?_);simp only[Option.isNone_none,if_true];have hd2:h2.DictOf (bj prog w) s.heap.objs.size []:=by
  obtain⟨o,es,ep,e,r⟩:=hnew;exact⟨o,es,ep,kp _ _ e,r⟩
 have k2:∀b o,s.heap.get? b=some o->h2.get? b=some o:=fun b o e=>kp _ _ (up _ _ e)
 refine zC0 (wpAny_rule ?_);refine zC0 (wpAny_pyIter_zip (k2 _ _ hz) (zK0 ?_));refine⟨plainId_quiet df _,?_⟩;show codeAny _ A.in1 (.builtin "dict.update.loop" ⟨[.ref s.heap.objs.size,.ref z,.int ((0:Nat):Int) 0,.none],[]⟩) _ _;obtain⟨o1,e1,_⟩:=q1.obj;obtain⟨o2,e2,_⟩:=q2.obj;refine Bw (A:=A.in1) (xs:=xs) (ys:=ys) (rs:=rs) hh D (fun hm=>?_) hl hk (rs.length-0) 0 _ [] rfl (qC0 _) ⟨.inl ⟨rfl,k2 _ _ hz⟩,k2 _ _ hTI,_,_,k2 _ _ hTO⟩ (q1.at (fun o e=>k2 _ _ e) (fun o e=>k2 _ _ e)) (q2.at (fun o e=>k2 _ _ e) (fun o e=>k2 _ _ e)) hd2 (by rw[List.length_nil];omega) fun h' tk' hd' kp'=>?_
 . simp only [List.mem_cons,List.not_mem_nil,or_false]at hm;rcases hm with y | y | y | y | y | y | y
   . exact qS0 (lt hz) y
   . exact qS0 (lt hTI) y
   . exact qS0 (lt hTO) y
   . exact qS0 (lt e1) y
   . exact qS0 (lt e2) y
   . exact qS0 ll1 y
   . exact qS0 ll2 y
 . refine ⟨rfl,h h' tk' hd' fun b o nb e=>kp' b o (fun hm=>?_) (k2 _ _ e)⟩;rcases zZ0 hm with y | y
   . exact zR0 (lt e) y
   . exact nb y
end
section
variable {X:Cx}
theorem zQ{P:Program}{w:World}{xs ys:List V}{its1 its2:List Value}(rv1:Vals xs its1)(rv2:Vals ys its2):∀(kvs:List (Key×V))(n:Nat),(∀(j:Nat)(kv:Key×V),kvs[j]?=some kv->xs[n+j]?=some (kV kv.1)/\ys[n+j]?=some kv.2) ->
 ∃rs:List (Key×Value),KV kvs rs/\∀(j:Nat)(kv:Key×Value),rs[j]?=some kv->∃ky,its1[n+j]?=some ky/\its2[n+j]?=some kv.2/\(bj P w).is kv.1 ky=true
 | [],_,_=>⟨[],.nil,fun j kv hj=>by simp at hj⟩
 | kv::kvs,n,h=>by
   obtain ⟨e1,e2⟩:=h 0 kv rfl;obtain⟨ky,hky,rk⟩:=rv1.get e1;obtain⟨u,hu,ru⟩:=rv2.get e2;obtain⟨rs,h1,h2⟩:=zQ rv1 rv2 kvs (n+1) (fun j kv' hj=>by
    have:=h (j+1) kv' hj
    rwa [show n+(j+1)=n+1+j by omega]at this)
   refine⟨(kv.1,u)::rs,.cons ⟨rfl,ru⟩ h1,fun j kv' hj=>?_⟩;cases j with
   | zero=>
     have e:(kv.1,u)=kv':=zS0 hj;subst e;exact⟨ky,hky,hu,oy rk⟩
   | succ j=>
     have:=h2 j kv' hj
     rwa [show n+1+j=n+(j+1) by omega]at this
def xU(K:W.Frag)(t:TA):TE:=fun σ H Q=>t σ H fun vs H1=>∃(a b:Addr)(c d:Bool)(xs ys:List V)(kvs:List (Key×V)),vs=[.ref a,.ref b]/\SqB K c H1 a xs/\SqB K d H1 b ys/\xs.length=kvs.length/\kvs.length<=sizeLine/\(∀(j:Nat)(kv:Key×V),kvs[j]?=some kv->xs[j]?=some (kV kv.1)/\ys[j]?=some kv.2)/\
 ∀p,H1 p=none->Q (.ref p) (upd H1 p (.dK (eJ [] kvs)))
theorem uW:bootBuiltins ("dict":Str)=some (.type "dict"):=by decide +kernel
theorem uc {e1 e2:Expr} {t:TA} {p1 p2 pos1 pos2:Pos} (hc:X.calm=true) (hg1:Gl X "dict") (hm1:X.mg "dict"=none) (hg2:Gl X "zip") (hm2:X.mg "zip"=none) (ha:PA X [e1,e2] t)
 (hs1:starEach [(.Call (.Name "zip" p2) [e1,e2] [] pos2:Expr)] X.env=[(false,eval (.Call (.Name "zip" p2) [e1,e2] [] pos2) X.env)]:=by rfl) (hs:starEach [e1,e2] X.env=[(false,eval e1 X.env),(false,eval e2 X.env)]:=by rfl) (hs2:starEach [e2] X.env=[(false,eval e2 X.env)]:=by rfl) :
 PE X (.Call (.Name "dict" p1) [.Call (.Name "zip" p2) [e1,e2] [] pos2] [] pos1) (xU X.K t):=by
 intro pins s σ H Q I h;refine wpAny_Call_Name_kw (gj I hg1 hm1 uW ?_);refine PyProof.Rows.callWith_type1 ?_ hs1 rfl;rw[hs1];show wpAny _ _ (spliced ((false,eval (.Call (.Name "zip" p2) [e1,e2] [] pos2) X.env)::backTo pos1 (starEach [] X.env))) _ _ s;have step:wpAny (model X.prog X.w) X.A (eval (.Call (.Name "zip" p2) [e1,e2] [] pos2) X.env) (fun v s2=>∃(a b:Addr) (c d:Bool) (xs ys:List V) (kvs:List (Key×V)) (H1:Hp) (s1:Shared) (h':Heap) (its1 its2:List Value),s2={ s1 with heap:=h' }/\v=.ref (s1.heap.objs.size+4)/\Inv X pins σ H1 s1/\Vals xs its1/\Vals ys its2/\a<s1.heap.objs.size/\b<s1.heap.objs.size/\
  IsZip h' (s1.heap.objs.size+4) (s1.heap.objs.size+2) (s1.heap.objs.size+3) .none/\IsPair h' (s1.heap.objs.size+2) (.ref s1.heap.objs.size) (.ref (s1.heap.objs.size+1))/\IsPair h' (s1.heap.objs.size+3) .none .none/\SqIt h' s1.heap.objs.size a 0 its1.toArray/\SqIt h' (s1.heap.objs.size+1) b 0 its2.toArray/\(∀c o,s1.heap.get? c=some o->h'.get? c=some o)/\
  xs.length=kvs.length/\kvs.length<=sizeLine/\(∀(j:Nat)(kv:Key×V),kvs[j]?=some kv->xs[j]?=some (kV kv.1)/\ys[j]?=some kv.2)/\∀p,H1 p=none->Q (.ref p) (upd H1 p (.dK (eJ [] kvs)))) X.xe s:=by
  refine Call_ (gj I hg2 hm2 xF (PyProof.Rows.callWith_type1 (thn (ha pos2 pins s σ H _ I h) fun us s1 ⟨vs,H1,I1,r1,q1⟩=>?_) (by rw[hs,hs2]) (by rw[hs2];rfl)));obtain⟨a,b,c,d,xs,ys,kvs,ev,hq1,hq2,hxl,hn,hkv,q⟩:=q1;subst ev;cases r1 with
  | cons r rr=>
    cases rr with
    | cons r' rr=>
      cases rr;cases r;cases r';obtain⟨its1,rv1,o1,l1⟩:=SqB.at I1 hq1;obtain⟨its2,rv2,o2,l2⟩:=SqB.at I1 hq2;exact BA o1 o2 fun h' z1 p1 p2 k1 k2 keep=>⟨a,b,c,d,xs,ys,kvs,H1,s1,h',its1,its2,rfl,rfl,I1,rv1,rv2,l1,l2,z1,p1,p2,k1,k2,keep,hxl,hn,hkv,q⟩
 refine Calls.spliced_cons (thn step fun v s2 hv=>?_);obtain⟨a,b,c,d,xs,ys,kvs,H1,s1,h',its1,its2,rfl,rfl,I1,rv1,rv2,l1,l2,z1,p1,p2,k1,k2,keep,hxl,hn,hkv,q⟩:=hv;refine Calls.spliced_nil ?_;obtain⟨rs,hrs,hk⟩:=zQ (P:=X.prog) (w:=X.w) rv1 rv2 kvs 0 (fun j kv hj=>by rw[Nat.zero_add];exact hkv j kv hj);have rl:kvs.length=rs.length:=hrs.length;have il:=rv1.length;have sz:s1.heap.objs.size+4<h'.objs.size:=zN0 z1;refine pc (rs:=rs) (I1.ok.hd hc) (zipAp l1 l2) z1 p1 p2 k1 k2 (Nat.lt_trans l1 (by show s1.heap.objs.size<h'.objs.size;omega)) (Nat.lt_trans l2 (by show s1.heap.objs.size<h'.objs.size;omega)) (by simp;omega) (fun j kv hj=>?_) (by omega) fun h2 tk dd kp=>?_
 . obtain⟨ky,e1,e2,e3⟩:=hk j kv hj;rw[Nat.zero_add]at e1 e2;exact⟨ky,by simpa using e1,by simpa using e2,e3⟩
 . have m:=KV.merge (kvs:=[]) (vs:=[]) hrs .nil;have ml:=ic kvs [];have kp2:∀b o,s1.heap.get? b=some o->h2.get? b=some o:=fun b o e=>kp b o (fun hm=>by
    have lb:=zN0 e;simp only[List.mem_cons,List.not_mem_nil,or_false]at hm;rcases hm with y | y | y | y
    . exact zR0 (qH0 lb (Nat.le_add_right _ 4)) y
    . exact zR0 (qH0 lb (Nat.le_add_right _ 3)) y
    . exact zR0 lb y
    . exact zR0 (qH0 lb (Nat.le_add_right _ 1)) y) (keep _ _ e)
   exact⟨.ref h'.objs.size,_,I1.laid (a:=h'.objs.size) (o:=.dK (eJ [] kvs)) (t':=tk) kp2 (by omega) (uP (by rw[List.length_nil]at ml;omega) (beq_eq_false_iff_ne.mpr (Ne.symm (zR0 (qH0 I1.big (by omega))))) m dd),rfl,q _ (I1.hok.fresh (by omega))⟩
end
end L2
namespace Mine
def Pr(n:Int):Prop:=2<=n/\∀k:Int,2<=k->k<=1000->k*k<=n->n % k≠0
def lV(n:Int)(j:Int):Prop:=∀k:Int,2<=k->k<j->k*k<=n/\n % k≠0
theorem pq{a b:Int}(h0:0<=a)(h:a<=b):a*a<=b*b:=Int.mul_le_mul h h h0 (Int.le_trans h0 h)
theorem CS{n k:Int}(h2:2<=n)(h0:2<=k)(u:lV n k)(h:n<k*k):Pr n:=by
 refine⟨h2,fun j j2 _ js=>?_⟩
 by_cases c:j<k
 . exact(u j j2 c).2
 . have:=pq (a:=k) (b:=j) (by omega) (by omega)
   omega
theorem CU{n:Int}(h2:2<=n)(u:lV n 1001):Pr n:=⟨h2,fun j j2 j3 _=>(u j j2 (by omega)).2⟩
theorem CP{n k:Int}(h0:2<=k)(h1:k<=1000)(hs:k*k<=n)(h:n % k=0):¬ Pr n:=fun p=>p.2 k h0 h1 hs h
theorem tu(n:Int):lV n 2:=fun k a b=>by omega
theorem vY{n k:Int}(u:lV n k)(hs:k*k<=n)(h:n % k≠0):lV n (k+1):=fun j a b=>by
 by_cases c:j<k
 . exact u j a c
 . have e:j=k:=by omega
   subst e;exact⟨hs,h⟩
def prB(n:Int):Bool:=decide (2<=n)&&(List.range 999).all fun i=>decide (n<((i:Int)+2)*((i:Int)+2))||decide (n % ((i:Int)+2)≠0)
theorem AX{n:Int}(h:prB n=true):Pr n:=by
 unfold prB at h;rw[Bool.and_eq_true]at h;refine⟨of_decide_eq_true h.1,fun k k2 k3 ks=>?_⟩;have q:=List.all_eq_true.mp h.2 (k.toNat-2) (List.mem_range.mpr (by omega));have e:(((k.toNat-2:Nat):Int)+2)=k:=by omega
 rw[e,Bool.or_eq_true]at q;rcases q with q | q
 . have:=of_decide_eq_true q;omega
 . exact of_decide_eq_true q
theorem wB:Pr 999983:=AX (by decide +kernel)
theorem CQ{p d:Int}(h:Pr p)(hp:p<1002001)(d0:1<d)(d1:d<p)(hd:d ∣ p):False:=by
 obtain ⟨e,he⟩:=hd;have e0:1<e:=by
  by_cases c:e<=1
  . have:d*e<=d*1:=qZ0 c (by omega)
    omega
  . omega
 by_cases c:d<=e
 . have s:d*d<=p:=by
    have:=qZ0 c (show(0:Int)<=d by omega)
    omega
   have t:d<=1000:=by
    by_cases c2:1001<=d
    . have:=pq (a:=1001) (b:=d) (by omega) c2
      omega
    . omega
   refine h.2 d (by omega) t s ?_;rw[he];exact Int.mul_emod_right d e
 . have c':e<=d:=by omega
   have s:e*e<=p:=by
    have:=Int.mul_le_mul_of_nonneg_right c' (show(0:Int)<=e by omega)
    omega
   have t:e<=1000:=by
    by_cases c2:1001<=e
    . have:=pq (a:=1001) (b:=e) (by omega) c2
      omega
    . omega
   refine h.2 e (by omega) t s ?_;rw[he,Int.mul_comm];exact Int.mul_emod_right e d
def Cop(x y:Int):Prop:=∀d:Int,0<d->d ∣ x->d ∣ y->d=1
theorem DH{p a:Int}(h:Pr p)(hp:p<1002001)(a0:0<a)(a1:a<p):Cop p a:=fun d d0 h1 h2=>by
 have:=Int.le_of_dvd a0 h2
 by_cases c:1<d
 . exact(CQ h hp c (by omega) h1).elim
 . omega
structure Eu(a p former ff rest f:Int):Prop where
 r0:0<rest
 rp:rest<p
 fr:rest<former
 f0:0<=f
 f1:f<p
 g0:0<=ff
 g1:ff<p
 cop:Cop former rest
 d1:p ∣ former-a*ff
 d2:p ∣ rest-a*f
theorem sH{a p:Int}(h:Pr p)(hp:p<1002001)(a0:0<a)(a1:a<p):Eu a p p 0 (a % p) 1:=by
 have e:a % p=a:=qV0 (by omega) a1;rw[e];exact⟨a0,a1,a1,by omega,by omega,by omega,by omega,DH h hp a0 a1,by rw[Int.mul_zero,Int.sub_zero];exact Int.dvd_refl p,by rw[Int.mul_one,Int.sub_self];exact Int.dvd_zero p⟩
theorem vQ{a p former ff rest f:Int}(E:Eu a p former ff rest f)(h1:rest≠1):Eu a p rest f (former-former / rest*rest) ((ff-former / rest*f) % p)/\(former-former / rest*rest).toNat<rest.toNat:=by
 have r0:=E.r0;have rp:=E.rp;have em:former-former / rest*rest=former % rest:=by
  have:=Int.emod_add_mul_ediv former rest
  rw[Int.mul_comm]at this;omega
 have l0:0<=former % rest:=zX0 _ (by omega);have l1:former % rest<rest:=zY0 _ r0;have cop':Cop rest (former % rest):=fun d d0 x y=>by
  refine E.cop d d0 ?_ x
  have:=Int.emod_add_mul_ediv former rest
  rw[←this];exact Int.dvd_add y (Int.dvd_trans x (Int.dvd_mul_right _ _))
 have lz:former % rest≠0:=fun z=>by
  have:=cop' rest r0 (Int.dvd_refl _) (by rw[z];exact Int.dvd_zero _)
  exact h1 this
 rw [em];refine⟨⟨by omega,by omega,l1,zX0 _ (by omega),zY0 _ (by omega),E.f0,E.f1,cop',E.d2,?_⟩,by omega⟩;have q:p ∣ (former-a*ff)-former / rest*(rest-a*f):=Int.dvd_sub E.d1 (Int.dvd_trans E.d2 (Int.dvd_mul_left _ _));have q2:p ∣ (ff-former / rest*f)-(ff-former / rest*f) % p:=Int.dvd_self_sub_emod;have q3:p ∣ a*((ff-former / rest*f)-(ff-former / rest*f) % p):=Int.dvd_trans q2 (Int.dvd_mul_left _ _);have q4:=Int.dvd_add q q3;have e2:former-a*ff-former / rest*(rest-a*f)+a*(ff-former / rest*f-(ff-former / rest*f) % p)=former % rest-a*((ff-former / rest*f) % p):=by
  rw[←em];generalize former / rest=t;generalize (ff-t*f) % p=u;rw[Int.mul_sub,Int.mul_sub,Int.mul_sub,Int.mul_left_comm t a f];omega
 rw[e2]at q4;exact q4
theorem Ac{a p former ff rest f:Int}(E:Eu a p former ff rest f)(h1:rest=1)(hp:1<p):0<f/\f<p/\f*a % p=1:=by
 subst h1;have d2:=E.d2;have f0:=E.f0;have hm:f*a % p=1:=by
  obtain ⟨c,hc⟩:=d2;have e:f*a=1+p*(-c):=by
   rw[Int.mul_comm f a,Int.mul_neg];omega
  rw[e,Int.add_mul_emod_self_left];exact qV0 (by omega) hp
 refine⟨?_,E.f1,hm⟩
 by_cases c:f=0
 . subst c;simp at hm
 . omega
end Mine
namespace Mine
def sV(n d:Int):Prop:=∀k:Int,3<=k->k % 2=1->k<d->n % k≠0
theorem wR(n:Int):sV n 3:=fun k a _ c=>by omega
theorem zw{n d:Int}(u:sV n d)(hd:d % 2=1)(h:n % d≠0):sV n (d+2):=fun k a b c=>by
 by_cases e:k<d
 . exact u k a b e
 . have:k=d:=by omega
   subst this;exact h
theorem xr{n d:Int}(h3:3<=n)(h2:n % 2≠0)(h0:3<=d)(u:sV n d)(hd:n<d*d):Pr n:=by
 refine⟨by omega,fun k k2 k3 ks z=>?_⟩;obtain⟨q,hq⟩:=Int.dvd_of_emod_eq_zero z
 by_cases e:k % 2=1
 . by_cases c:k<d
   . exact u k (by omega) e c z
   . have:=pq (a:=d) (b:=k) (by omega) (by omega)
     omega
 . obtain ⟨j,hj⟩:∃j,k=2*j:=⟨k / 2,by omega⟩
   rw[hj,Int.mul_assoc]at hq;omega
theorem xu{n:Int}(h2:n % 2=0)(h3:2<n):¬ Pr n:=fun p=>p.2 2 (by omega) (by omega) (by omega) h2
theorem xt{n d:Int}(h9:n<=999999)(h0:3<=d)(hs:d*d<=n)(h:n % d=0):¬ Pr n:=fun p=>by
 have t:d<=1000:=by
  by_cases c2:1001<=d
  . have:=pq (a:=1001) (b:=d) (by omega) c2
    omega
  . omega
 exact p.2 d (by omega) t hs h
theorem tP{n d:Int}(h9:n<=999999)(h0:3<=d)(hs:d*d<=n):d<=999:=by
 by_cases c2:1000<=d
 . have:=pq (a:=1000) (b:=d) (by omega) c2
   omega
 . omega
theorem AQ{n d:Int}(h0:3<=d)(hs:d*d<=n):d<=n:=by
 have:=qZ0 (show(1:Int)<=d by omega) (show(0:Int)<=d by omega)
 omega
end Mine
namespace Mine
def bE:Nat->List (List Int)
 | 0=>[[]]
 | n+1=>(bE n).flatMap fun s=>[s++[0],s++[1]]
theorem lQ{α β:Type}(f g:α->β):∀l:List α,(l.flatMap fun s=>[f s,g s]).length=2*l.length
 | []=>rfl
 | x::r=>by
   have ih:=lQ f g r;simp only[List.flatMap_cons,zO0,qF0,List.length_nil];omega
theorem jG:∀n:Nat,(bE n).length=2 ^ n
 | 0=>rfl
 | n+1=>by rw[bE,lQ,jG n,Nat.pow_succ];omega
theorem dD:∀(n:Nat)(s:List Int),s∈bE n->s.length=n
 | 0,s,h=>by
   have:s=[]:=by simpa [bE]using h
   subst this;rfl
 | n+1,s,h=>by
   rw[bE,List.mem_flatMap]at h;obtain⟨t,ht,hs⟩:=h
   have:=dD n t ht
   simp at hs
   rcases hs with rfl | rfl <;> simp [this]
theorem lK{n:Nat}(h:n<=6):2 ^ n<=64:=Nat.pow_le_pow_right (by decide) h
end Mine
namespace Mine
def Pm(p:Int):Prop:=1<p/\∀a:Int,¬ p ∣ a->∃f:Int,p ∣ f*a-1
theorem Ab{a p:Int}(hp:1<p):∀(n:Nat){former ff rest f:Int},rest.toNat<=n->Eu a p former ff rest f->∃g:Int,g*a % p=1
 | 0,former,ff,rest,f,hn,E=>by
   have:=E.r0
   omega
 | n+1,former,ff,rest,f,hn,E=>by
   by_cases c:rest=1
   . exact⟨f,(Ac E c hp).2.2⟩
   . obtain⟨E2,lt⟩:=vQ E c;exact Ab hp n (by omega) E2
theorem rJ{p:Int}(h:Pr p)(hp:p<1002001):Pm p:=by
 have p1:1<p:=by have:=h.1;omega
 refine ⟨p1,fun a ha=>?_⟩;have a0:0<a % p:=by
  have:=zX0 a (show p≠0 by omega)
  by_cases c:a % p=0
  . exact absurd (Int.dvd_of_emod_eq_zero c) ha
  . omega
 have a1:a % p<p:=zY0 _ (by omega);obtain⟨g,hg⟩:=Ab p1 _ (zJ0 _) (sH h hp a0 a1);refine⟨g,?_⟩;have e1:g*a % p=1:=by rw[←hg,Int.mul_emod g (a % p),Int.emod_emod,←Int.mul_emod]
 have:=Int.emod_add_mul_ediv (g*a) p
 exact⟨g*a / p,by omega⟩
theorem Pm.mul{p a b:Int}(h:Pm p)(hd:p ∣ a*b)(ha:¬ p ∣ a):p ∣ b:=by
 obtain⟨f,k,hk⟩:=h.2 a ha;obtain⟨m,hm⟩:=hd;exact⟨f*m-k*b,by grind⟩
theorem Pm.not_mul{p a b:Int}(h:Pm p)(ha:¬ p ∣ a)(hb:¬ p ∣ b):¬ p ∣ a*b:=fun z=>hb (h.mul z ha)
def ch:Nat->Nat->Nat
 | _,0=>1
 | 0,_+1=>0
 | n+1,k+1=>ch n k+ch n (k+1)
theorem lr(n:Nat):ch n 0=1:=by cases n <;> rfl
theorem lS:∀(n k:Nat),n<k->ch n k=0
 | 0,k+1,_=>rfl
 | n+1,k+1,h=>by
   show ch n k+ch n (k+1)=0;rw[lS n k (by omega),lS n (k+1) (by omega)]
theorem Bz(n:Nat):ch n n=1:=by
 induction n with
 | zero=>rfl
 | succ n ih=>
   show ch n n+ch n (n+1)=1;rw[ih,lS n (n+1) (by omega)]
theorem qL:∀(n k:Nat),(k+1)*ch (n+1) (k+1)=(n+1)*ch n k
 | 0,0=>rfl
 | 0,k+1=>by
   show(k+2)*(ch 0 (k+1)+ch 0 (k+2))=1*ch 0 (k+1);rw[lS 0 (k+1) (by omega),lS 0 (k+2) (by omega)]
   simp
 | n+1,0=>by
   have h:=qL n 0;rw[lr n]at h;show(0+1)*(ch (n+1) 0+ch (n+1) (0+1))=(n+1+1)*ch (n+1) 0;rw[lr (n+1)];omega
 | n+1,k+1=>by
   have h1:=qL n k;have h2:=qL n (k+1);show(k+2)*(ch (n+1) (k+1)+ch (n+1) (k+2))=(n+2)*ch (n+1) (k+1);have e:ch (n+1) (k+1)=ch n k+ch n (k+1):=rfl
   grind
def sm(f:Nat->Int):Nat->Int
 | 0=>0
 | n+1=>sm f n+f n
theorem nL{f g:Nat->Int}:∀n,(∀k,k<n->f k=g k)->sm f n=sm g n
 | 0,_=>rfl
 | n+1,h=>by
   show sm f n+f n=sm g n+g n;rw[nL n (fun k hk=>h k (by omega)),h n (by omega)]
theorem yw(f g:Nat->Int):∀n,sm (fun k=>f k+g k) n=sm f n+sm g n
 | 0=>rfl
 | n+1=>by
   show sm (fun k=>f k+g k) n+(f n+g n)=(sm f n+f n)+(sm g n+g n)
   rw[yw f g n];omega
theorem yu(c:Int)(f:Nat->Int):∀n,sm (fun k=>c*f k) n=c*sm f n
 | 0=>by simp [sm]
 | n+1=>by
   show sm (fun k=>c*f k) n+c*f n=c*(sm f n+f n)
   rw[yu c f n]
   grind
theorem kF(f:Nat->Int):∀n,sm f (n+1)=f 0+sm (fun k=>f (k+1)) n
 | 0=>by simp [sm]
 | n+1=>by
   show sm f (n+1)+f (n+1)=f 0+(sm (fun k=>f (k+1)) n+f (n+1))
   rw[kF f n];omega
theorem yv{p:Int}{f:Nat->Int}:∀n,(∀k,k<n->p ∣ f k)->p ∣ sm f n
 | 0,_=>⟨0,by simp [sm]⟩
 | n+1,h=>Int.dvd_add (yv n fun k hk=>h k (by omega)) (h n (by omega))
theorem Cj(a:Int):∀n:Nat,(a+1) ^ n=sm (fun k=>(ch n k:Int)*a ^ k) (n+1)
 | 0=>by simp [sm,ch]
 | n+1=>by
   have ih:=Cj a n;rw[Int.pow_succ,ih,kF (fun k=>((ch (n+1) k:Nat):Int)*a ^ k) (n+1)];have e1:sm (fun k=>((ch (n+1) (k+1):Nat):Int)*a ^ (k+1)) (n+1)=a*sm (fun k=>(ch n k:Int)*a ^ k) (n+1)+sm (fun k=>(ch n (k+1):Int)*a ^ (k+1)) (n+1):=by
    rw[←yu,←yw];refine nL _ fun k _=>?_
    have:ch (n+1) (k+1)=ch n k+ch n (k+1):=rfl
    rw[this,Int.natCast_add,Int.pow_succ]
    grind
   have e2:sm (fun k=>(ch n k:Int)*a ^ k) (n+1)=1+sm (fun k=>(ch n (k+1):Int)*a ^ (k+1)) (n+1):=by
    rw[kF]
    have:sm (fun k=>(ch n (k+1):Int)*a ^ (k+1)) (n+1)=sm (fun k=>(ch n (k+1):Int)*a ^ (k+1)) n:=by
     show _+(ch n (n+1):Int)*a ^ (n+1)=_;rw[lS n (n+1) (by omega)]
     simp
    rw[this,lr]
    simp
   rw[e1,lr]
   grind
theorem DI{p:Int}(h:Pm p){n k:Nat}(hn:(n:Int)+1=p)(hk:k<n):p ∣ ((ch (n+1) (k+1):Nat):Int):=by
 have e:((k:Int)+1)*((ch (n+1) (k+1):Nat):Int)=p*((ch n k:Nat):Int):=by
  have:=qL n k
  rw[←hn];exact_mod_cast this
 refine h.mul (a:=(k:Int)+1) ⟨_,e⟩ fun hd=>?_
 have:=Int.le_of_dvd (by omega) hd
 omega
theorem oH{p:Int}(h:Pm p):∀a:Nat,p ∣ (a:Int) ^ p.toNat-a
 | 0=>by
   have:p.toNat≠0:=by have:=h.1;omega
   simp [Int.zero_pow this]
 | a+1=>by
   have ih:=oH h a;obtain⟨n,hn⟩:∃n:Nat,p.toNat=n+1:=⟨p.toNat-1,by have:=h.1;omega⟩
   have hp:(n:Int)+1=p:=by have:=h.1;omega
   rw [hn]at ih ⊢;have b:=Cj (a:Int) (n+1);have e:sm (fun k=>(ch (n+1) k:Int)*(a:Int) ^ k) (n+1+1)=sm (fun k=>(ch (n+1) (k+1):Int)*(a:Int) ^ (k+1)) n+(a:Int) ^ (n+1)+1:=by
    rw[kF];show _+(sm _ n+(ch (n+1) (n+1):Int)*(a:Int) ^ (n+1))=_;rw[Bz,lr]
    simp
    omega
   have d:p ∣ sm (fun k=>(ch (n+1) (k+1):Int)*(a:Int) ^ (k+1)) n:=yv n fun k hk=>Int.dvd_mul_of_dvd_left (DI h hp hk)
   obtain⟨u,hu⟩:=ih;obtain⟨v,hv⟩:=d;refine⟨u+v,?_⟩;rw[Int.natCast_add];show((a:Int)+1) ^ (n+1)-((a:Int)+1)=_;rw[b,e]
   grind
theorem Aa{p a:Int}(h:Pm p)(ha:¬ p ∣ a)(a0:0<=a):p ∣ a*a ^ (p-2).toNat-1:=by
 obtain⟨n,hn⟩:∃n:Nat,p.toNat=n+2:=⟨p.toNat-2,by have:=h.1;omega⟩
 have e:(p-2).toNat=n:=by omega
 have f:=oH h a.toNat;rw[Int.toNat_of_nonneg a0,hn]at f;rw[e];have g:a ^ (n+2)-a=a*(a*a ^ n-1):=by
  rw[Int.pow_succ,Int.pow_succ]
  grind
 rw[g]at f;exact h.mul f ha
def IsPoly:Nat->(Int->Int)->Prop
 | 0,f=>∀x,f x=0
 | n+1,f=>∃(a:Int)(g:Int->Int),IsPoly n g/\∀x,f x=a+x*g x
theorem IsPoly.congr:∀{n:Nat}{f g:Int->Int},IsPoly n f->(∀x,g x=f x)->IsPoly n g
 | 0,_,_,h,e=>fun x=>(e x).trans (h x)
 | _+1,_,_,⟨a,k,hk,h⟩,e=>⟨a,k,hk,fun x=>(e x).trans (h x)⟩
theorem IsPoly.zero:∀n:Nat,IsPoly n fun _=>0
 | 0=>fun _=>rfl
 | n+1=>⟨0,fun _=>0,IsPoly.zero n,fun x=>by simp⟩
theorem IsPoly.up:∀{n:Nat}{f:Int->Int},IsPoly n f->IsPoly (n+1) f
 | 0,f,h=>⟨0,fun _=>0,fun _=>rfl,fun x=>by rw[h x];simp⟩
 | n+1,f,⟨a,g,hg,h⟩=>⟨a,g,hg.up,h⟩
theorem IsPoly.upTo{n:Nat}{f:Int->Int}(h:IsPoly n f):∀m,n<=m->IsPoly m f:=fun m hm=>by
 obtain⟨k,rfl⟩:∃k,m=n+k:=⟨m-n,by omega⟩
 clear hm
 induction k with
 | zero=>exact h
 | succ k ih=>exact ih.up
theorem IsPoly.add:∀{n:Nat}{f g:Int->Int},IsPoly n f->IsPoly n g->IsPoly n fun x=>f x+g x
 | 0,f,g,h,k=>fun x=>by show f x+g x=0;rw[h x,k x];rfl
 | n+1,f,g,⟨a,u,hu,h⟩,⟨b,v,hv,k⟩=>⟨a+b,fun x=>u x+v x,hu.add hv,fun x=>by show f x+g x=a+b+x*(u x+v x);rw[h x,k x];grind⟩
theorem IsPoly.mul(c:Int):∀{n:Nat}{f:Int->Int},IsPoly n f->IsPoly n fun x=>c*f x
 | 0,f,h=>fun x=>by show c*f x=0;rw[h x];simp
 | n+1,f,⟨a,u,hu,h⟩=>⟨c*a,fun x=>c*u x,hu.mul c,fun x=>by show c*f x=c*a+x*(c*u x);rw[h x];grind⟩
theorem IsPoly.lin{n:Nat}{f:Int->Int}(h:IsPoly n f)(r:Int):IsPoly (n+1) fun x=>(x-r)*f x:=by
 have h1:IsPoly (n+1) fun x=>x*f x:=⟨0,f,h,fun x=>by simp⟩
 exact(h1.add (h.up.mul (-r))).congr fun x=>by grind
theorem IsPoly.div:∀{n:Nat}{f:Int->Int},IsPoly (n+1) f->∀r:Int,∃q,IsPoly n q/\∀x,f x-f r=(x-r)*q x
 | 0,f,⟨a,g,hg,h⟩,r=>⟨fun _=>0,fun _=>rfl,fun x=>by rw[h x,h r,hg x,hg r];simp⟩
 | n+1,f,⟨a,g,hg,h⟩,r=>by
   obtain⟨q,hq,e⟩:=IsPoly.div hg r;refine⟨fun x=>g x+r*q x,hg.add (hq.up.mul r),fun x=>?_⟩
   have:=e x
   rw[h x,h r]
   grind
theorem IsPoly.roots{p:Int}(hp:Pm p):∀{n:Nat}{f:Int->Int}(rs:List Int),IsPoly n f->rs.length=n->rs.Pairwise (fun a b=>¬ p ∣ b-a)->(∀r∈rs,p ∣ f r)->∀x,p ∣ f x
 | 0,f,_,h,_,_,_,x=>⟨0,by rw[h x];simp⟩
 | n+1,f,[],_,hl,_,_,_=>by simp at hl
 | n+1,f,r::rs,h,hl,hd,hr,x=>by
   obtain ⟨q,hq,e⟩:=h.div r;have hd':=List.pairwise_cons.mp hd;have z:=IsPoly.roots hp rs hq (by simpa using hl) hd'.2 (fun s hs=>by
    have h1:p ∣ (s-r)*q s:=by
     rw[←e s];exact Int.dvd_sub (hr s (qQ0 _ hs)) (hr r qP0)
    exact hp.mul h1 (hd'.1 s hs)) x
   have:f x=f r+(x-r)*q x:=by have:=e x;omega
   rw[this];exact Int.dvd_add (hr r qP0) (Int.dvd_mul_of_dvd_right z)
end Mine
namespace Mine
def pr(g:Nat->Int):Nat->Int
 | 0=>1
 | n+1=>pr g n*g n
theorem nZ{f g:Nat->Int}:∀n,(∀k,k<n->f k=g k)->pr f n=pr g n
 | 0,_=>rfl
 | n+1,h=>by
   show pr f n*f n=pr g n*g n;rw[nZ n (fun k hk=>h k (by omega)),h n (by omega)]
theorem nY(g:Nat->Int):∀n,pr g (n+1)=g 0*pr (fun k=>g (k+1)) n
 | 0=>by simp [pr]
 | n+1=>by
   show pr g (n+1)*g (n+1)=g 0*(pr (fun k=>g (k+1)) n*g (n+1))
   rw[nY g n,Int.mul_assoc]
def px(x:Int)(i:Nat):Nat->Int
 | 0=>1
 | n+1=>if n=i then px x i n else px x i n*(x-n)
theorem vC(i:Nat):∀n,IsPoly (if i<n then n else n+1) fun x=>px x i n
 | 0=>⟨1,fun _=>0,fun _=>rfl,fun x=>by simp [px]⟩
 | n+1=>by
   have ih:=vC i n
   by_cases c:n=i
   . subst c;rw[zF0 (qR0 n)]at ih;rw[zI0 (Nat.lt_succ_self n)];exact ih.congr fun x=>by simp [px]
   . have e:∀x,px x i (n+1)=(x-n)*px x i n:=fun x=>by
      show(if n=i then px x i n else px x i n*(x-n))=_;rw[zF0 c,Int.mul_comm]
     by_cases c2:i<n
     . rw[zI0 c2]at ih;rw[zI0 (by omega)];exact(ih.lin n).congr e
     . rw[zF0 c2]at ih;rw[zF0 (by omega)];exact(ih.lin n).congr e
theorem qj{k i:Nat}(h:k≠i):∀n,k<n->px (k:Int) i n=0
 | n+1,hk=>by
   show(if n=i then px (k:Int) i n else px (k:Int) i n*((k:Int)-n))=0
   by_cases c:n=i
   . rw[zI0 c];exact qj h n (by omega)
   . rw [zF0 c]
     by_cases c2:k=n
     . subst c2
       simp
     . rw [qj h n (by omega)]
       simp
def lag(v u:Nat->Int)(n:Nat)(x:Int):Int:=sm (fun i=>v i*px x i n*u i) n
theorem AH{n m:Nat}{f:Nat->Int->Int}:(∀i,i<m->IsPoly n (f i))->IsPoly n fun x=>sm (fun i=>f i x) m:=by
 induction m with
 | zero=>exact fun _=>IsPoly.zero n
 | succ m ih=>exact fun h=>(ih fun i hi=>h i (by omega)).add (h m (by omega))
theorem su(v u:Nat->Int)(n:Nat):IsPoly n (lag v u n):=AH fun i hi=>by
 have h:=vC i n;rw[zI0 hi]at h;exact(h.mul (v i*u i)).congr fun x=>by grind
theorem yt{f:Nat->Int}{k:Nat}:∀n,k<n->(∀i,i<n->i≠k->f i=0)->sm f n=f k
 | n+1,hk,h=>by
   show sm f n+f n=f k
   by_cases c:k=n
   . subst c;have z:sm f k=0:=by
      have:sm f k=sm (fun _=>0) k:=nL k fun i hi=>h i (by omega) (by omega)
      rw[this];clear this h hk
      induction k with
      | zero=>rfl
      | succ k ih=>show sm (fun _=>0) k+0=0;rw[ih];rfl
     rw[z]
     simp
   . rw [yt n (by omega) (fun i hi=>h i (by omega)),h n (by omega) (by omega)]
     simp
def Wgt(p:Int)(n:Nat)(u:Nat->Int):Prop:=∀i,i<n->p ∣ px (i:Int) i n*u i-1
theorem uF{p:Int}{v u:Nat->Int}{n k:Nat}(hu:Wgt p n u)(hk:k<n):p ∣ lag v u n k-v k:=by
 unfold lag;rw[yt n hk fun i hi hne=>by rw[qj (Ne.symm hne) n hk];simp];obtain⟨m,hm⟩:=hu k hk;exact⟨v k*m,by grind⟩
theorem far{p:Int}{n:Nat}(hn:(n:Int)<=p):((List.range n).map fun k:Nat=>(k:Int)).Pairwise fun a b=>¬ p ∣ b-a:=by
 rw[List.pairwise_map];refine List.Pairwise.imp_of_mem (fun{a b} ha hb h=>?_) List.pairwise_lt_range;intro d
 have:=Int.le_of_dvd (by omega) d
 have hb':=List.mem_range.mp hb;omega
theorem alike{p:Int}(hp:Pm p){n:Nat}(hn:(n:Int)<=p){f g:Int->Int}(hf:IsPoly n f)(hg:IsPoly n g)(h:∀k:Nat,k<n->p ∣ f k-g k)(x:Int):p ∣ f x-g x:=by
 have hd:IsPoly n fun x=>f x-g x:=(hf.add (hg.mul (-1))).congr fun x=>by grind
 refine hd.roots hp ((List.range n).map fun k:Nat=>(k:Int)) (by simp) (far hn) (fun r hr=>?_) x;obtain⟨k,hk,rfl⟩:=List.mem_map.mp hr;exact h k (List.mem_range.mp hk)
theorem so{p:Int}(hp:Pm p){n:Nat}(hn:(n:Int)<=p){v u:Nat->Int}{P:Int->Int}(hu:Wgt p n u)(hP:IsPoly n P)(h:∀k:Nat,k<n->p ∣ v k-P k)(x:Int):p ∣ lag v u n x-P x:=
 alike hp hn (su v u n) hP (fun k hk=>by
  have h1:=uF (v:=v) hu hk;have h2:=h k hk
  have:lag v u n k-P k=(lag v u n k-v k)+(v k-P k):=by omega
  rw[this];exact Int.dvd_add h1 h2) x
theorem zP{p:Int}(hp:Pm p){n:Nat}(hn:(n:Int)<=p){v u u':Nat->Int}(hu:Wgt p n u)(hu':Wgt p n u')(x:Int):p ∣ lag v u n x-lag v u' n x:=
 so hp hn hu (su v u' n) (fun k hk=>by
  obtain⟨m,hm⟩:=uF (v:=v) hu' hk;exact⟨-m,by grind⟩) x
theorem nX(x:Int)(i:Nat):∀m,px x i (i+1+m)=pr (fun j=>x-j) i*pr (fun j=>x-(i+1+j:Nat)) m
 | 0=>by
   have h:∀k,k<=i->px x i k=pr (fun j=>x-j) k:=fun k=>by
    induction k with
    | zero=>exact fun _=>rfl
    | succ k ih=>
      intro hk;show(if k=i then px x i k else px x i k*(x-k))=pr (fun j=>x-j) k*(x-k)
      rw[zF0 (by omega),ih (by omega)]
   show(if i=i then px x i i else _)=_*1;rw[zI0 rfl,h i (zJ0 _),Int.mul_one]
 | m+1=>by
   show(if i+1+m=i then _ else px x i (i+1+m)*(x-(i+1+m:Nat)))=pr (fun j=>x-j) i*(pr (fun j=>x-(i+1+j:Nat)) m*(x-(i+1+m:Nat)))
   rw[zF0 (by omega),nX x i m,Int.mul_assoc]
theorem vE(x:Int)(i:Nat):∀m,pr (fun j=>x-(i+m:Nat)+j) m=pr (fun j=>x-(i+1+j:Nat)) m
 | 0=>rfl
 | m+1=>by
   rw[nY];show _=pr (fun j=>x-(i+1+j:Nat)) m*(x-(i+1+m:Nat))
   have e:pr (fun k=>x-(i+(m+1):Nat)+(k+1:Nat)) m=pr (fun j=>x-(i+m:Nat)+j) m:=nZ m fun k _=>by omega
   rw[e,vE x i m,Int.mul_comm]
   congr 1
   omega
def fac:Nat->Int
 | 0=>1
 | n+1=>fac n*((n:Int)+1)
theorem sG:∀n:Nat,pr (fun j=>(n:Int)-j) n=fac n
 | 0=>rfl
 | n+1=>by
   rw[nY];have e:pr (fun k=>((n+1:Nat):Int)-(k+1:Nat)) n=pr (fun j=>(n:Int)-j) n:=nZ n fun k _=>by omega
   rw[e,sG n];show((n+1:Nat)-(0:Nat):Int)*fac n=fac n*((n:Int)+1)
   rw[Int.mul_comm]
   congr 1
theorem vP(i:Nat):∀m:Nat,pr (fun j=>(i:Int)-(i+1+j:Nat)) m=(-1) ^ m*fac m
 | 0=>rfl
 | m+1=>by
   show pr _ m*((i:Int)-(i+1+m:Nat))=(-1) ^ (m+1)*(fac m*((m:Int)+1))
   rw[vP i m,Int.pow_succ]
   have:((i:Int)-(i+1+m:Nat))=-((m:Int)+1):=by omega
   rw[this]
   grind
theorem yJ(i m:Nat):px (i:Int) i (i+1+m)=fac i*((-1) ^ m*fac m):=by rw[nX,sG,vP]
theorem sF:∀(k d:Nat),fac d*pr (fun j=>((d+k:Nat):Int)-j) k=fac (d+k)
 | 0,d=>by simp [pr]
 | k+1,d=>by
   have ih:=sF k (d+1);rw[show d+1+k=d+(k+1) by omega]at ih;rw[←ih];show fac d*(pr (fun j=>((d+(k+1):Nat):Int)-j) k*(((d+(k+1):Nat):Int)-k))=fac d*((d:Int)+1)*pr (fun j=>((d+(k+1):Nat):Int)-j) k
   have:(((d+(k+1):Nat):Int)-k)=(d:Int)+1:=by omega
   rw[this]
   grind
theorem qH{p:Int}(hp:Pm p):∀n:Nat,(n:Int)<p->¬ p ∣ fac n
 | 0,_=>fun d=>by
   have:=Int.le_of_dvd (by decide) (show p ∣ 1 from d)
   have:=hp.1
   omega
 | n+1,h=>hp.not_mul (qH hp n (by omega)) fun d=>by
   have:=Int.le_of_dvd (by omega) d
   omega
theorem vd(m:Nat):((-1:Int) ^ m)*(-1) ^ m=1:=by
 induction m with
 | zero=>rfl
 | succ m ih=>rw[Int.pow_succ];grind
theorem CY{p:Int}(hp:Pm p){n i:Nat}(hn:(n:Int)<=p)(hi:i<n):¬ p ∣ px (i:Int) i n:=by
 obtain⟨m,rfl⟩:∃m,n=i+1+m:=⟨n-(i+1),by omega⟩
 rw[yJ];refine hp.not_mul (qH hp i (by omega)) (hp.not_mul (fun d=>?_) (qH hp m (by omega)));obtain⟨k,hk⟩:=d;have s:=vd m
 have:p ∣ 1:=⟨k*(-1) ^ m,by grind⟩
 have:=Int.le_of_dvd (by decide) this
 have:=hp.1
 omega
theorem As{p:Int}{last:Nat}{sh:Nat->Int}(h:∀k,k<=last->p ∣ sh k*fac k-1):Wgt p (last+1) fun i=>(-1) ^ (last-i)*(sh i*sh (last-i)):=fun i hi=>by
 obtain⟨m,rfl⟩:∃m,last=i+m:=⟨last-i,by omega⟩
 show p ∣ px (i:Int) i (i+m+1)*((-1) ^ (i+m-i)*(sh i*sh (i+m-i)))-1;rw[show i+m+1=i+1+m by omega,yJ,show i+m-i=m by omega];obtain⟨a,ha⟩:=h i (by omega);obtain⟨b,hb⟩:=h m (by omega);have s:=vd m;refine⟨a*(sh m*fac m)+b,?_⟩;have e:fac i*((-1) ^ m*fac m)*((-1) ^ m*(sh i*sh m))=((-1) ^ m*(-1) ^ m)*((sh i*fac i)*(sh m*fac m)):=by grind
 rw[e,s]
 grind
end Mine
namespace Mine
theorem IsPoly.prod:∀{m n:Nat}{f g:Int->Int},IsPoly (m+1) f->IsPoly (n+1) g->IsPoly (m+n+1) fun x=>f x*g x
 | 0,n,f,g,⟨a,u,hu,e⟩,hg=>by
   rw[Nat.zero_add];exact(hg.mul a).congr fun x=>by rw[e x,hu x];simp
 | m+1,n,f,g,⟨a,u,hu,e⟩,hg=>by
   have ih:=IsPoly.prod hu hg;have h1:IsPoly (m+n+1+1) fun x=>x*(u x*g x):=⟨0,_,ih,fun x=>by simp⟩
   have h2:IsPoly (m+n+1+1) fun x=>a*g x:=(hg.mul a).upTo _ (by omega)
   rw[show m+1+n+1=m+n+1+1 by omega];exact(h2.add h1).congr fun x=>by rw[e x];grind
theorem IsPoly.const(c:Int)(n:Nat):IsPoly (n+1) fun _=>c:=⟨c,fun _=>0,IsPoly.zero n,fun x=>by simp⟩
theorem IsPoly.self:IsPoly 2 fun x=>x:=⟨0,fun _=>1,IsPoly.const 1 0,fun x=>by simp⟩
theorem oI(p x:Int):p ∣ x % p-x:=⟨-(x / p),by
 have:=Int.emod_add_mul_ediv x p
 rw[Int.mul_neg];omega⟩
end Mine
namespace Mine
open PySem L2
theorem jX{us:List Value}(h:us.length=1):∃a,us=[a]:=by
 cases us with
 | nil=>cases h
 | cons a r=>
   cases r with
   | nil=>exact⟨a,rfl⟩
   | cons _ _=>cases h
theorem wZ{us:List Value}{n:Nat}(h:us.length=n+1):∃a r,us=a::r/\r.length=n:=by
 cases us with
 | nil=>cases h
 | cons a r=>exact⟨a,r,rfl,Nat.succ.inj h⟩
theorem gT{us:List Value}(h:us.length=2):∃a b,us=[a,b]:=by
 obtain⟨a,r,rfl,h1⟩:=wZ h;obtain⟨b,rfl⟩:=jX h1;exact⟨a,b,rfl⟩
theorem gV{us:List Value}(h:us.length=3):∃a b c,us=[a,b,c]:=by
 obtain⟨a,r,rfl,h1⟩:=wZ h;obtain⟨b,c,rfl⟩:=gT h1;exact⟨a,b,c,rfl⟩
theorem ow{us:List Value}(h:us.length=4):∃a b c d,us=[a,b,c,d]:=by
 obtain⟨a,r,rfl,h1⟩:=wZ h;obtain⟨b,c,d,rfl⟩:=gV h1;exact⟨a,b,c,d,rfl⟩
theorem len5{us:List Value}(h:us.length=5):∃a b c d e,us=[a,b,c,d,e]:=by
 obtain⟨a,r,rfl,h1⟩:=wZ h;obtain⟨b,c,d,e,rfl⟩:=ow h1;exact⟨a,b,c,d,e,rfl⟩
theorem Do{us:List Value}(h:us.length=6):∃a b c d e f,us=[a,b,c,d,e,f]:=by
 obtain⟨a,r,rfl,h1⟩:=wZ h;obtain⟨b,c,d,e,f,rfl⟩:=len5 h1;exact⟨a,b,c,d,e,f,rfl⟩
theorem len7{us:List Value}(h:us.length=7):∃a b c d e f g,us=[a,b,c,d,e,f,g]:=by
 obtain⟨a,r,rfl,h1⟩:=wZ h;obtain⟨b,c,d,e,f,g,rfl⟩:=Do h1;exact⟨a,b,c,d,e,f,g,rfl⟩
def top(i:Nat):Stmt:=PySem.Challenge.pw_asktally_k34_whole_machines_by_a_model.main.body.getD i (.Pass ⟨0,0,0,0⟩)
abbrev fk:Stmt:=top 2
abbrev de:Stmt:=top 3
abbrev fc:Stmt:=top 5
abbrev cv:Stmt:=top 6
abbrev fg:Stmt:=top 7
abbrev bq:Stmt:=top 8
abbrev cC:Stmt:=top 10
abbrev dJ:Stmt:=top 11
abbrev iA:Stmt:=top 12
abbrev fq:Stmt:=top 13
abbrev cx:Stmt:=top 14
abbrev dI:Stmt:=top 15
abbrev dR:Stmt:=top 17
abbrev fe:Stmt:=top 18
abbrev dH:Stmt:=top 22
abbrev fh:Stmt:=top 23
abbrev gI:Stmt:=top 24
abbrev dG:Stmt:=top 35
abbrev cz:Stmt:=top 36
abbrev dQ:Stmt:=top 40
abbrev cc:Stmt:=top 41
abbrev cZ:Stmt:=top 42
abbrev da:Stmt:=top 43
abbrev dL:Stmt:=top 44
abbrev iz:Stmt:=top 46
abbrev ip:Stmt:=top 47
abbrev bg:Stmt:=top 48
abbrev gP:Stmt:=top 49
abbrev cJ:Stmt:=top 50
abbrev ir:Stmt:=top 51
abbrev dc:Stmt:=top 52
abbrev gF:Stmt:=top 53
abbrev iy:Stmt:=top 54
abbrev gQ:Stmt:=top 55
abbrev fj:Stmt:=top 56
abbrev iw:Stmt:=top 57
abbrev dP:Stmt:=top 58
abbrev fi:Stmt:=top 59
abbrev gE:Stmt:=top 60
abbrev jM:Stmt:=top 61
abbrev jK:Stmt:=top 62
abbrev gG:Stmt:=top 63
abbrev dN:Stmt:=top 64
abbrev io:Stmt:=top 65
abbrev bO:Stmt:=top 66
abbrev iq:Stmt:=top 67
abbrev jL:Stmt:=top 68
abbrev gD:Stmt:=top 69
abbrev dM:Stmt:=top 70
abbrev gH:Stmt:=top 71
abbrev iu:Stmt:=top 72
abbrev kL:Stmt:=top 73
section
variable {P:Program} {w:World} {K:W.Frag} {mg:Str->Option Value} {base:Heap}
section
variable {P:Program} {w:World} {K:W.Frag} {mg:Str->Option Value} {base:Heap}
abbrev jp:Stmt:=top 20
abbrev jJ:Stmt:=top 27
abbrev tV:Stmt:=top 39
structure Bl(mg:Str->Option Value):Prop where
 len:mg "len"=none
 range:mg "range"=none
 isinstance:mg "isinstance"=none
 int:mg "int"=none
 bool:mg "bool"=none
 list:mg "list"=none
 tuple:mg "tuple"=none
 max:mg "max"=none
 min:mg "min"=none
 reversed:mg "reversed"=none
 enumerate:mg "enumerate"=none
 sum:mg "sum"=none
 all:mg "all"=none
 zip:mg "zip"=none
 dict:mg "dict"=none
theorem bDV{a b:V}{f:Bool->Prop}(hc:a=b)(h:f true):isB (.bl (decide (a=b))) f:=by
 rw[decide_eq_true hc];exact h
theorem aY{a b:V}{f:Bool->Prop}(hc:¬ a=b)(h:f false):isB (.bl (decide (a=b))) f:=by
 rw[decide_eq_false hc];exact h
theorem vO(z:Int):0<=z % 2147483646+1/\z % 2147483646+1<=2147483646:=by omega
theorem e7:FnScope ["_law_script","_law_k","_law_cell","_law_own"] ["_law_script","_law_k"] (ae iz):=⟨rfl,rfl,rfl,by decide +kernel,rfl,by decide +kernel,by decide +kernel⟩
theorem wM {f:Addr} {fd:FuncData} (F:Fun K "_law_feed" "_law_feed" iz f fd) (hlen:mg "len"=none):FnOk P w K mg base CX0 1 f fd ["_law_script","_law_k"] (yo K):=by
 refine F.ok e7 (fun vs H Q E h=>?_) (fun cdv A outer s H vs Q E hr h=>?_)
 . obtain⟨a,ns,k,rfl,_⟩:=h;rfl
 obtain ⟨a,ns,k,rfl,hS,h63,k0,k1,q⟩:=h;refine⟨_,(ac (ak (i:=2) e7.nd rfl (Or.inl rfl) (ag aR (ag aW aa (pv 1)) aa))
  (ac (aH (ah cU (pv 1) (aD az rfl hlen PySem.boot_len (af (pv 0) aJ)) (aj _)) (ad (ak (i:=2) e7.nd rfl (Or.inl rfl) (av ix_list (pv 0) (pv 1) (fun _ _=>rfl)))) (ad (aH (ah eE (aD az rfl hlen PySem.boot_len (af (pv 0) aJ)) aa (aj _)) (ad (ak (i:=2) e7.nd rfl (Or.inl rfl) (ag aR (ag aW (ag aN (av ix_list (pv 0) (ag aN (pv 1) (aD az rfl hlen PySem.boot_len (af (pv 0) aJ))) (fun _ _=>rfl)) aa) aa) (ag aW aa (pv 1))))) ax)))
  (ac (ak (i:=3) e7.nd rfl (Or.inl rfl) aa)
  (ac (aH (ah zh (pv 2) (ag zc aa aa) (aj _)) (ad (ak (i:=3) e7.nd rfl (Or.inl rfl) (pv 2))) ax)
  (ad (ao (bU (af (pv 3) (af (ag aR (ag aN (ag aR (ag aW (ag aN (pv 2) aa) aa) (ag aW aa (pv 1))) aa) aa) aJ))))))))),?_⟩
 have hl:(ns.map V.int).length=ns.length:=zH0 _;have hp:(10:Int) ^ (18:Int).toNat=1000000000000000000:=by decide
 refine⟨.inl ⟨by decide,by decide⟩,?_⟩;refine⟨a,_,rfl,.inl hS,?_⟩;refine jZ (fun c=>?b1) (fun c=>?b2)
 case' b1=>
  have c':k<(((ns.map V.int).length:Nat):Int):=of_decide_eq_true c;rw[hl]at c';obtain⟨v,hv⟩:=Ai (ns:=ns) k0 c';refine⟨_,_,hS,hv,?_⟩
 case' b2=>
  refine⟨a,_,rfl,.inl hS,?_⟩;refine jZ (fun c2=>?b3) (fun c2=>?b4)
  case' b3=>
   have c':(0:Int)<(((ns.map V.int).length:Nat):Int):=of_decide_eq_true c2;have m0:=zX0 k (b:=(((ns.map V.int).length:Nat):Int)) (by omega);have m1:=zY0 k c';obtain⟨v,hv⟩:=Ai (ns:=ns) m0 (by rw[hl]at m1 ⊢;exact m1);have n0:=zX0 v (b:=2147483629) (by decide);have n1:=zY0 v (b:=2147483629) (by decide);refine⟨a,_,rfl,.inl hS,c',_,_,hS,hv,(by show(0:Int)<_;decide),.inr ⟨by decide,by decide⟩,.inl ⟨by decide,by decide⟩,?_⟩
 all_goals
  refine⟨⟨by decide,by decide,by decide⟩,?_⟩;refine jZ (fun c3=>?_) (fun c3=>?_)
  . have c4:=of_decide_eq_true c3;rw[hp]at c4;refine⟨(by show(0:Int)<_;decide),.inr ⟨by decide,by decide⟩,.inl ⟨by decide,by decide⟩,(by show(0:Int)<_;decide),(by show 2<=sizeLine;decide),fun p hp=>?_⟩;refine q p _ hp (zE0 hp _) ⟨_,_,aE,Int.le_trans (by decide) c4,(vO _).1,(vO _).2⟩
  . refine⟨(by show(0:Int)<_;decide),.inr ⟨by decide,by decide⟩,.inl ⟨by decide,by decide⟩,(by show(0:Int)<_;decide),(by show 2<=sizeLine;decide),fun p hp=>?_⟩;refine q p _ hp (zE0 hp _) ⟨_,_,aE,Int.le_refl 0,(vO _).1,(vO _).2⟩
theorem m8:FnScope ["_law_feed_here","_law_many","_law_digit","_law_one"] ["_law_feed_here","_law_many"] (ae ip):=⟨rfl,rfl,rfl,by decide +kernel,rfl,by decide +kernel,by decide +kernel⟩
theorem wG {f:Addr} {fd:FuncData} (F:Fun K "_law_take" "_law_take" ip f fd):FnOk P w K mg base CX0 1 f fd ["_law_feed_here","_law_many"] fZ:=by
 refine F.ok m8 (fun vs H Q E h=>?_) (fun cdv A outer s H vs Q E hr h=>?_)
 . obtain⟨f,m,rfl,_⟩:=h;rfl
 obtain ⟨f,m,rfl,⟨own,st,hf,o0,s0,s1⟩,m0,m1,q⟩:=h;refine⟨_,(ac (aH (ah eE (av ix_list (pv 0) aa (fun _ _=>rfl)) aa (aj _)) (ac (ak (i:=2) m8.nd rfl (Or.inl rfl) (ag aN (av ix_list (pv 0) aa (fun _ _=>rfl)) (pv 1)))
  (ac (ki (ag zj (av ix_list (pv 0) aa (fun _ _=>rfl)) (pv 1)) (lN (pv 0) aa ig))
  (ad (ao (pv 2))))) ax)
  (ac (ak (i:=3) m8.nd rfl (Or.inl rfl) (ag aN (ag aW (av ix_list (pv 0) aa (fun _ _=>rfl)) aa) aa))
  (ac (ki (ag aR (ag aN (ag aR (ag aW (pv 3) aa) aa) aa) aa) (lN (pv 0) aa ig))
  (ad (ao (ag aN (ag qu (ag aR (ag aW (pv 3) aa) (av ix_list (pv 0) aa (fun _ _=>rfl))) aa) (pv 1))))))),?_⟩
 refine⟨_,_,zG0 hf,rfl,?_⟩;refine jZ (fun c=>?_) (fun c=>?_)
 . refine⟨_,_,zG0 hf,rfl,m0,?_⟩;refine⟨_,_,zG0 hf,rfl,⟨m0,m1⟩,f,_,0,0,rfl,rfl,hf,rfl,?_⟩;refine ?_;exact q _ _ (zX0 _ (by omega)) (zY0 _ m0) ⟨_,_,aE,Int.ediv_nonneg o0 (by omega),s0,s1⟩ (SameBut.upd _)
 . have a0:=zX0 (st*69621) (b:=2147483647) (by decide);have a1:=zY0 (st*69621) (b:=2147483647) (by decide);refine⟨_,_,zG0 hf,rfl,.inr ⟨by decide,by decide⟩,(by show(0:Int)<_;decide),?_⟩;refine⟨.inr ⟨by decide,by decide⟩,(by show(0:Int)<_;decide),f,_,1,1,rfl,rfl,hf,rfl,?_⟩;have b0:=zX0 (st*69621 % 2147483647*48271+30103) (b:=2147483646) (by decide);have b1:=zY0 (st*69621 % 2147483647*48271+30103) (b:=2147483646) (by decide);refine⟨.inr ⟨by decide,by decide⟩,_,_,zG0 aE,rfl,⟨by decide,by decide⟩,m0,?_⟩;exact q _ _ (zX0 _ (by omega)) (zY0 _ m0) ⟨_,_,aE,o0,by omega,by omega⟩ (SameBut.upd _)
theorem g9:FnScope ["_law_feed_here","_law_names_here","_law_room","_law_deep","_law_form","_law_more","_law_one","_law_word"] ["_law_feed_here","_law_names_here","_law_room","_law_deep"] (ae gP):=⟨rfl,rfl,rfl,by decide +kernel,rfl,by decide +kernel,by decide +kernel⟩
theorem lf{a X Y B:Prop}[Decidable a](x:X)(h:¬ a->X->B):if decide a=true then(if true=true then X else Y)else B:=by
 by_cases c:a
 . rw[decide_eq_true c];exact jY (jY x)
 . rw[decide_eq_false c];exact gu (h c x)
theorem wl {n:Nat} {f:Addr} {fd:FuncData} (F:Fun K "_law_tree" "_law_tree" gP f fd) (hlen:mg "len"=none) (aU:Cal P w K mg base 1 "_law_take" ["_law_feed_here","_law_many"] fZ)
 (eY:Cal P w K mg base (n+2) "_law_tree" ["_law_feed_here","_law_names_here","_law_room","_law_deep"] (lD n)):FnOk P w K mg base CX0 (n+3) f fd ["_law_feed_here","_law_names_here","_law_room","_law_deep"] (lD (n+1)):=by
 refine F.ok g9 (fun vs H Q E h=>?_) (fun cdv A outer s H vs Q E hr h=>?_)
 . obtain⟨f,a,room,deep,ns,rfl,_⟩:=h;rfl
 obtain ⟨f,a,room,deep,ns,rfl,hF,hN,nl,r1,r100,d1,dn,q⟩:=h;refine⟨_,(ac (ak (i:=4) g9.nd rfl (Or.inl rfl) (ai aU hr (Nat.succ_le_succ (qC0 _)) rfl (af (pv 0) (af aa aJ))))
  (ac (aH (PW.pt (gs (ah cU (pv 2) aa (aj _)) (gs (ah cU (pv 3) aa (aj _)) (fw (ah aM (pv 4) aa (aj _)))))) (ac (aH (PW.pt (gs (ah aM (ag aN (pv 4) aa) aa (aj _)) (fw (ah aM (aD az rfl hlen PySem.boot_len (af (pv 1) aJ)) aa (aj _))))) (ad (ao (av ix_list (bU (af (bd (af aq aJ)) (af (bd (af aq aJ)) aJ))) (ai aU hr (Nat.succ_le_succ (qC0 _)) rfl (af (pv 0) (af aa aJ))) (fun _ _=>rfl)))) ax)
   (ad (ao (bd (af aq (af (av (ix_list.or aB) (pv 1) (ai aU hr (Nat.succ_le_succ (qC0 _)) rfl (af (pv 0) (af (aD az rfl hlen PySem.boot_len (af (pv 1) aJ)) aJ))) (fun _ _=>rfl)) aJ)))))) ax)
  (ac (aH (PW.pt (gs (ah cU (pv 2) aa (aj _)) (fw (ah aM (pv 4) aa (aj _))))) (ad (ao (bd (af aq (af (ai eY hr (zJ0 _) rfl (af (pv 0) (af (pv 1) (af (ag aQ (pv 2) aa) (af (ag aQ (pv 3) aa) aJ))))) aJ))))) ax)
  (ac (ak (i:=5) g9.nd rfl (Or.inl rfl) (ag aR aa (ai aU hr (Nat.succ_le_succ (qC0 _)) rfl (af (pv 0) (af (ag aQ (pv 2) aa) aJ)))))
  (ac (ak (i:=6) g9.nd rfl (Or.inl rfl) (ai eY hr (zJ0 _) rfl (af (pv 0) (af (pv 1) (af (pv 5) (af (ag aQ (pv 3) aa) aJ))))))
  (ac (ak (i:=7) g9.nd rfl (Or.inl rfl) (av ix_list (bU (af aq (af aq (af aq (af aq aJ))))) (ag aN (pv 4) aa) (fun _ _=>rfl)))
  (ad (ao (bd (af (pv 7) (af (pv 6) (af (ai eY hr (zJ0 _) rfl (af (pv 0) (af (pv 1) (af (ag aQ (ag aQ (pv 2) aa) (pv 5)) (af (ag aQ (pv 3) aa) aJ))))) aJ)))))))))))),?_⟩
 refine⟨f,10,rfl,hF,by decide,by decide,fun fm H1 f0 f10 F1 S1=>?_⟩;have N1:=hN.feed hF S1;refine ?_;refine lf ?leaf fun c1 hX=>?_
 case leaf=>
  refine⟨(by show(0:Int)<_;decide),rfl,?_⟩;refine lf ?yn fun c6 hY=>?_
  case yn=>
   refine⟨(by show 1<=sizeLine;decide),fun p1 h1=>?_⟩;refine⟨(by show 1<=sizeLine;decide),fun p2 h2=>?_⟩;refine⟨(by show 2<=sizeLine;decide),fun l hl=>?_⟩;have ga:=zE0 h1 (.tup [.str "yes"]);have gb:=zE0 h2 (.tup [.str "no"]);have gc:=zE0 hl (.lst [.ref p1,.ref p2]);have G:=ga.trans (gb.trans gc);have nlf:=(F1.same (ga.trans gb)).ne hl;refine⟨f,2,rfl,F1.same G,by decide,by decide,fun d H2 d0 d2 F2 S2=>?_⟩;have y2:H2 p1=some (.tup [.str "yes"]):=bD (F1.same G) S2 _ _ (gc _ _ (gb _ _ aE));have n2:H2 p2=some (.tup [.str "no"]):=bD (F1.same G) S2 _ _ (gc _ _ aE);have l2:=S2 l _ nlf aE
   have:d=0∨d=1:=by omega
   rcases this with rfl | rfl
   . exact⟨_,_,zG0 l2,rfl,q (.ref p1) .yes H2 F2 (S1.trans ((zL0 G).trans S2)) (.yes y2) trivial (show(1:Int)<=room from r1) (show(1:Int)<=deep from d1)⟩
   . exact⟨_,_,zG0 l2,rfl,q (.ref p2) .no H2 F2 (S1.trans ((zL0 G).trans S2)) (.no n2) trivial (show(1:Int)<=room from r1) (show(1:Int)<=deep from d1)⟩
  refine⟨a,_,rfl,N1.seq,rfl,?_⟩
  by_cases c7:V.int ((ns.map V.str).length:Int)=V.int 0
  . exact bn c7 hY
  refine aI c7 ?_;have nz:0<ns.length:=by
   have z:¬ ((ns.map V.str).length:Int)=0:=fun z=>c7 (congrArg V.int z)
   rw[zH0]at z;omega
  refine⟨a,_,rfl,N1.seq,f,_,rfl,F1,(show(0:Int)<((ns.map V.str).length:Int) by rw[zH0];omega),by rw[zH0];omega,fun d H2 d0 d9 F2 S2=>?_⟩;obtain⟨v,hv,vm⟩:=jB (l:=ns.map V.str) (i:=d) d0 d9;obtain⟨x,hx,rfl⟩:=List.mem_map.mp vm;refine(N1.feed F1 S2).ix hv ?_;refine⟨(by show 2<=sizeLine;decide),fun p hp=>?_⟩;have G:=zE0 hp (.tup [.str "is",.str x]);exact q (.ref p) (.is x) _ (F2.same G) (S1.trans (S2.trans (zL0 G))) (.is aE) hx (show(1:Int)<=room from r1) (show(1:Int)<=deep from d1)
 refine ?_
 by_cases c2:deep<2
 . exact bn c2 (jY hX)
 refine aI c2 ?_;refine⟨rfl,?_⟩
 by_cases c3:V.int fm=V.int 9
 . exact bn c3 hX
 refine aI c3 ?_;refine ?_;have d2:2<=deep:=by omega
 have dd:1<=deep-1:=by omega
 have ddn:deep-1+1<=(n:Int)+1:=by omega
 refine lf ?nt fun c4 hN=>?_
 case nt=>
  refine⟨f,a,_,_,ns,rfl,F1,N1,nl,(show 1<=room-1 by omega),by omega,dd,ddn,fun v1 t1 H3 F3 S3 T1 o1 z1 p1=>?_⟩;refine⟨(by show 2<=sizeLine;decide),fun p hp=>?_⟩;have G5:=zE0 hp (.tup [.str "not",v1]);refine q (.ref p) (.not t1) _ (F3.same G5) (S1.trans (S3.trans (zL0 G5))) (.not aE (T1.mono (aX G5))) o1 ?_ ?_
  . show((t1.size+1:Nat):Int)<=room;omega
  . show((t1.depth+1:Nat):Int)<=deep;omega
 refine⟨rfl,?_⟩
 by_cases c5:V.int fm=V.int 8
 . exact bn c5 hN
 refine aI c5 ?_;refine⟨f,_,rfl,F1,(show(0:Int)<room-2 by omega),(show room-2<2 ^ 63 by omega),fun e H2 e0 e1 F2 S2=>?_⟩;refine ?_;have N2:=N1.feed F1 S2;refine⟨f,a,_,_,ns,rfl,F2,N2,nl,by omega,by omega,dd,ddn,fun v1 t1 H3 F3 S3 T1 o1 z1 p1=>?_⟩;have N3:=N2.feed F2 S3;refine⟨(by show 4<=sizeLine;decide),fun l hl=>?_⟩;obtain⟨wd,hw,wm⟩:=jB (l:=joinW.map V.str) (i:=fm % 4) (by omega) (by
  have:(joinW.map V.str).length=4:=by rfl
  omega)
 obtain⟨x,hx,rfl⟩:=List.mem_map.mp wm;refine⟨(by show(0:Int)<_;decide),_,_,zG0 aE,hw,?_⟩;have G:=zE0 hl (.lst [.str "and",.str "or",.str "odd",.str "same"]);refine⟨f,a,_,_,ns,rfl,F3.same G,N3.same G,nl,(show 1<=room-1-(1+e) by omega),by omega,dd,ddn,fun v2 t2 H4 F4 S4 T2 o2 z2 p2=>?_⟩;refine⟨(by show 3<=sizeLine;decide),fun p hp=>?_⟩;have G5:=zE0 hp (.tup [.str x,v1,v2]);have T1':TreeAt H4 v1 t1:=(T1.mono (aX G)).mono (bD (F3.same G) S4);refine q (.ref p) (.bin x t1 t2) _ (F4.same G5) (S1.trans (S2.trans (S3.trans ((zL0 G).trans (S4.trans (zL0 G5)))))) (.bin aE (T1'.mono (aX G5)) (T2.mono (aX G5))) ⟨hx,o1,o2⟩ ?_ ?_
 . show((t1.size+t2.size+1:Nat):Int)<=room;omega
 . show((max t1.depth t2.depth+1:Nat):Int)<=deep;omega
theorem wk {f:Addr} {fd:FuncData}:FnOk P w K mg base CX0 2 f fd ["_law_feed_here","_law_names_here","_law_room","_law_deep"] (lD 0):=by
 have no:∀vs H Q E,¬ lD 0 vs H Q E:=fun vs H Q E h=>by
  obtain⟨f,a,room,deep,ns,_,_,_,_,_,_,h1,h2,_⟩:=h;omega
 exact⟨fun vs H Q E h=>absurd h (no vs H Q E),fun A outer s H args us vs Q E _ _ _ _ h=>absurd h (no vs H Q E)⟩
theorem pE {f:Addr} {fd:FuncData} (F:Fun K "_law_tree" "_law_tree" gP f fd) (hlen:mg "len"=none) (m:mg "_law_tree"=some (.ref f)) (aU:Cal P w K mg base 1 "_law_take" ["_law_feed_here","_law_many"] fZ) :
 ∀n:Nat,FnOk P w K mg base CX0 (n+2) f fd ["_law_feed_here","_law_names_here","_law_room","_law_deep"] (lD n)
 | 0=>wk
 | n+1=>wl F hlen aU (Cal.of F (pE F hlen m aU n) m (fun _ _ _ _ _ _ us hl=>by obtain⟨u0,u1,u2,u3,rfl⟩:=ow hl;rfl))
def Dx:Stmt->List Stmt
 | .If _ b _ _=>b
 | _=>[]
def Dw:Stmt->Expr
 | .If c _ _ _=>c
 | _=>.Constant .none 0 ⟨0,0,0,0⟩
def xM:Stmt->Expr
 | .Assign _ v _=>v
 | .Return (some v) _=>v
 | _=>.Constant .none 0 ⟨0,0,0,0⟩
def uO:Expr->List Expr
 | .List es _=>es
 | .BinOp _ _ (.List es _) _=>es
 | .Subscript (.List es _) _ _=>es
 | _=>[]
abbrev stm(s:Stmt)(i:Nat):Stmt:=(ay s).getD i (.Pass ⟨0,0,0,0⟩)
abbrev AE(s:Stmt)(i j:Nat):Stmt:=(Dx (stm s i)).getD j (.Pass ⟨0,0,0,0⟩)
def wordsA:List Str:=["is","set","say","if","go","end","num","box","op","field","holds","claims"]
def wordsB:List Str:=["nota","nob","yesx","andy","ors","oddly"]
def wordsC:List Str:=["samey","rounds","dues","coins","truex","asks"]
@[irreducible] def uz:List Expr:=uO (xM (AE bg 6 0))
@[irreducible] def uy:List Expr:=uO (xM (AE bg 6 1))
@[irreducible] def ux:List Expr:=uO (xM (AE bg 6 2))
theorem zE:Consts uz wordsA:=by
 unfold uz;exact .cons (.cons (.cons (.cons (.cons (.cons (.cons (.cons (.cons (.cons (.cons (.cons .nil)))))))))))
theorem zD:Consts uy wordsB:=by
 unfold uy;exact .cons (.cons (.cons (.cons (.cons (.cons .nil)))))
theorem zC:Consts ux wordsC:=by
 unfold ux;exact .cons (.cons (.cons (.cons (.cons (.cons .nil)))))
theorem uv:∃p1 p2 p3 p4 p5 p6 p7 p8 p9 q1 q2 q3 q4 q5,ay bg=[stm bg 0,stm bg 1,stm bg 2,stm bg 3,stm bg 4,stm bg 5,
 .If (Dw (stm bg 6)) [.Assign [.Name "_law_words" p1] (.List uz p2) p3,.Assign [.Name "_law_words" p4] (.BinOp (.Name "_law_words" p5) .Add (.List uy p6) p7) p8,.Assign [.Name "_law_words" p9] (.BinOp (.Name "_law_words" q1) .Add (.List ux q2) q3) q4,AE bg 6 3] [] q5,stm bg 7]:=
 ⟨_,_,_,_,_,_,_,_,_,_,_,_,_,_,by with_unfolding_all rfl⟩
def LTR:Str:="bcdfghjklmnpqrstvwxz"
theorem Dm:∀c∈LTR.cps.toList,c≠97:=by decide +kernel
theorem uE:∀c∈LTR.cps.toList,97<=c/\c<=122:=by decide +kernel
theorem xH:∀x∈(wordsA++wordsB)++wordsC,x.length<=20/\(∀c∈x.cps.toList,97<=c/\c<=122)/\x≠"aa":=by decide +kernel
def nJ:Sp:=fun vs H Q _=>∃(f:Addr)(m:Int),vs=[.ref f,.int m]/\FeedAt H f/\0<=m/\m<=6/\∀(l:Addr)(ns:List Str)(H':Hp),H l=none->l≠f->H' l=some (.lst (ns.map V.str))->ns.length=m.toNat->(∀x∈ns,uZ x)->ns.Nodup->FeedAt H' f->SameBut f H H'->Q (.ref l) H'
theorem vX:∀x∈(wordsA++wordsB)++wordsC,∃c∈x.cps.toList,c∉LTR.cps.toList:=by decide +kernel
theorem Bs:∀a b:Fin 20,LTR.cps.toList[a.val]?=LTR.cps.toList[b.val]?->a=b:=by decide +kernel
theorem zy{ns:List Str}{t:Nat}{u:Int}(u0:0<=u)(u20:u<20)(hl:ns.length<=6)(h:∀(k:Nat) x,ns[k]?=some x->x.cps.toList[t]?=LTR.cps.toList[((u+7*(k:Int)) % 20).toNat]?):ns.Nodup:=by
 refine List.pairwise_iff_getElem.mpr fun i j hi hj ij e=>?_
 have h1:=h i _ (zU0 hi);have h2:=h j _ (zU0 hj);rw[e]at h1;have h3:=h1.symm.trans h2;have h4:=Bs ⟨((u+7*(i:Int)) % 20).toNat,by omega⟩ ⟨((u+7*(j:Int)) % 20).toNat,by omega⟩ h3;have h5:=congrArg Fin.val h4;simp only at h5;omega
theorem Dd{ns:List Str}{x:Str}{j:Nat}(h:ns.Nodup)(hx:x∉ns):(ns.set j x).Nodup:=by
 refine List.pairwise_iff_getElem.mpr fun a b ha hb ab=>?_
 rw[List.length_set]at ha hb;rw[List.getElem_set,List.getElem_set]
 split
 . split
   . omega
   . intro e;exact hx (e▸qY0 hb)
 . split
   . intro e;exact hx (e▸qY0 ha)
   . exact List.pairwise_iff_getElem.mp h a b ha hb ab
theorem DK{α:Type}{l:List α}{i:Int}{v:α}(h0:0<=i)(h:atI l i=some v):l[i.toNat]?=some v:=by
 have ek:((i.toNat:Nat):Int)=i:=by omega
 by_cases c:i.toNat<l.length
 . have q:atI l ((i.toNat:Nat):Int)=some l[i.toNat]:=cq (zU0 c);rw[ek,h]at q;rw[zU0 c];exact q.symm
 . exfalso
   unfold atI ixN at h;rw[zI0 h0,zF0 (by omega)]at h;cases h
theorem xX{zs:List Str}(h:∀z∈zs,z.length=1/\∀c∈z.cps.toList,c∈LTR.cps.toList):(zs.map (·.length)).sum=zs.length:=by
 induction zs with
 | nil=>rfl
 | cons a r ih=>
   rw[qG0,List.sum_cons,ih fun z hz=>h z (qQ0 _ hz),(h a qP0).1,qF0];omega
theorem b5:FnScope ["_law_feed_here","_law_many","_law_letters","_law_common","_law_at","_law_first","_law_found","_law_k","_law_tail","_law_sign","_law_words"] ["_law_feed_here","_law_many"] (ae bg):=⟨rfl,rfl,rfl,by decide +kernel,rfl,by decide +kernel,by decide +kernel⟩
theorem li{H:Hp}{f p:Addr}{o:HO}(F:FeedAt H f)(h:p≠f):FeedAt (upd H p o) f:=by
 obtain⟨x,t,e,r⟩:=F;exact⟨x,t,by rw[am (Ne.symm h)];exact e,r⟩
theorem ug {f:Addr} {fd:FuncData} (F:Fun K "_law_names" "_law_names" bg f fd) (hrange:mg "range"=none) (aU:Cal P w K mg base 1 "_law_take" ["_law_feed_here","_law_many"] fZ):FnOk P w K mg base CX0 2 f fd ["_law_feed_here","_law_many"] nJ:=by
 refine F.ok b5 (fun vs H Q E h=>?_) (fun cdv A outer s H vs Q E hr h=>?_)
 . obtain⟨f,m,rfl,_⟩:=h;rfl
 obtain ⟨f,m,rfl,hF,m0,m6,q⟩:=h;obtain⟨p1,p2,p3,p4,p5,p6,p7,p8,p9,q1,q2,q3,q4,q5,ebody⟩:=uv;rw[ebody];refine⟨_,(ac (ak (i:=2) b5.nd rfl (Or.inr rfl) aq)
  (ac (ak (i:=3) b5.nd rfl (Or.inl rfl) (dU PySem.F.plainAttrs_str PySem.F.slot_str_join PySem.F.type_str_join Bq aq (af (bX (N:=["_law_letters","_law_feed_here"]) (ix:=[2,0]) rfl
   (CompScope.two (by with_unfolding_all rfl) (by decide) rfl (by decide) rfl (by decide +kernel) (by first | exact Or.inl rfl | exact Or.inr rfl) (by with_unfolding_all rfl) (by with_unfolding_all rfl) (by with_unfolding_all rfl) (by with_unfolding_all rfl) rfl rfl (by with_unfolding_all rfl) rfl rfl) rfl
   (bv rfl hrange (af aa aJ))
   (fun _ _ _=>bQ (av uI (pv 1) (ai aU hr (by decide) rfl (af (pv 2) (af aa aJ))) (fun _ _=>rfl)))) aJ)))
  (ac (ak (i:=4) b5.nd rfl (Or.inl rfl) (ai aU hr (by decide) rfl (af (pv 0) (af aa aJ))))
  (ac (ak (i:=5) b5.nd rfl (Or.inl rfl) (ai aU hr (by decide) rfl (af (pv 0) (af aa aJ))))
  (ac (ak (i:=6) b5.nd rfl (Or.inl rfl) (bU aJ))
  (ac (bY PassesOwn.never rfl (bv rfl hrange (af (pv 1) aJ)) (ba (i:=7) b5.nd rfl (Or.inl rfl)) (ac (ak (i:=8) b5.nd rfl (Or.inl rfl) (ag aN (ai aU hr (by decide) rfl (af (pv 0) (af (ag aQ aa (pv 4)) aJ))) aa))
   (ac (ak (i:=9) b5.nd rfl (Or.inl rfl) (av uI (pv 2) (ag aN (ag aR (pv 5) (ag aW aa (pv 7))) aa) (fun _ _=>rfl)))
   (ad (bG (dU PySem.F.plainAttrs_list PySem.F.slot_list_append PySem.F.type_list_append bi (pv 6) (af (ag km (ag km (iD yx (pv 3) kP (iQ (pv 4))) (pv 9)) (iD yx (pv 3) (iQ (pv 4)) (iQ (ag aR (pv 4) (pv 8))))) aJ)))))))
  (ac (aH (PW.pt (jr (ah eE (pv 1) aa (aj _)) (iO (ah aM (ai aU hr (by decide) rfl (af (pv 0) (af aa aJ))) aa (aj _))))) (ac (ak (i:=10) b5.nd rfl (Or.inl rfl) (bU (jT zE)))
   (ac (ak (i:=10) b5.nd rfl (Or.inl rfl) (ag fF (pv 10) (bU (jT zD))))
   (ac (ak (i:=10) b5.nd rfl (Or.inl rfl) (ag fF (pv 10) (bU (jT zC))))
   (ad (ki (av ix_list (pv 10) (ai aU hr (by decide) rfl (af (pv 0) (af aa aJ))) (fun _ _=>rfl)) (lN (pv 6) (ai aU hr (by decide) rfl (af (pv 0) (af (pv 1) aJ))) ig)))))) ax)
  (ad (ao (pv 6)))))))))),?_⟩
 refine⟨rfl,5,rfl,by decide,by decide,fun D hD=>?_⟩;have Df:=hF.ne hD;have L20:LTR.cps.toList.length=20:=by decide +kernel
 refine cX (fun i H'=>∃zs:List Str,H' D=some (.lst (zs.map V.str))/\zs.length=i/\(∀z∈zs,z.length=1/\∀c∈z.cps.toList,c∈LTR.cps.toList)/\FeedAt H' f/\SameBut f H H') ⟨[],by rw[aE];rfl,rfl,by simp,hF.same (zE0 hD _),zL0 (zE0 hD _)⟩ ?_ ?_
 . rintro i H3 hi ⟨zs,hl,zl,z1,F3,S3⟩;have i5:i<5:=hi;refine⟨f,20,rfl,F3,by decide,by decide,fun d H4 d0 d26 F4 S4=>?_⟩;obtain⟨c,hc,hm⟩:=jB (l:=LTR.cps.toList) (i:=d) d0 (by rw[L20];exact d26);have hD4:H4 D=some (.lst (zs.map V.str)):=S4 D _ Df hl;refine⟨_,d,c,rfl,rfl,cu (by decide +kernel),hc,_,hD4,?_,Nx.of hi ⟨zs++[⟨#[c]⟩],?_,?_,?_,li F4 Df,?_⟩⟩
   . rw[zH0,zl];exact aG (Nat.le_of_lt (Nat.lt_trans i5 (by decide)))
   . rw[aE,zM0];rfl
   . rw[zO0,qU0,zl]
   . intro z hz;rcases qD0 hz with h | h
     . exact z1 z h
     . rw [zP0 h];refine⟨rfl,fun c' hc'=>?_⟩
       have:c'=c:=by simpa using hc'
       subst this;exact hm
   . intro b o hb e;rw[am (aO e hD)];exact S4 b o hb (S3 b o hb e)
 rintro H3 ⟨zs,hl,zl,z1,F3,S3⟩;have sl:=xX z1;have zl5:zs.length=5:=zl;refine⟨_,D,zs,rfl,rfl,zG0 hl,(by decide +kernel),by omega,?_⟩;have jl:(Txt.join "" zs).length=5:=by
  have:=size_glued "" zs
  have e0:(("":Str)).length=0:=by decide +kernel
  rw[e0,Nat.mul_zero]at this;show(Builtin.Str.glued "" zs).length=5;omega
 have jc:∀c∈(Txt.join "" zs).cps.toList,c∈LTR.cps.toList:=fun c hc=>by
  obtain⟨z,hz,h⟩:=wW hc;exact(z1 z hz).2 c h
 generalize Txt.join "" zs=cm at jl jc;refine⟨f,6,rfl,F3,by decide,by decide,fun t H4 t0 t6 F4 S4=>?_⟩;refine⟨f,20,rfl,F4,by decide,by decide,fun u H5 u0 u20 F5 S5=>?_⟩;refine⟨(by show 0<=sizeLine;decide),fun L hL=>?_⟩;have S05:SameBut f H H5:=S3.trans (S4.trans S5);have Lf:=F5.ne hL;have L0:H L=none:=by
  cases e:H L with
  | none=>rfl
  | some o=>rw[S05 L o Lf e]at hL;cases hL
 refine ⟨m,rfl,by omega,by omega,dh (fun i σ H'=>∃(x7 x8 x9:Option V)(ns:List Str),σ=[some (.ref f),some (.int m),some (.str LTR),some (.str cm),some (.int t),some (.int u),some (.ref L),x7,x8,x9,none]/\H' L=some (.lst (ns.map V.str))/\ns.length=i/\(∀x∈ns,uZ x)/\(∀x∈ns,∀c∈x.cps.toList,c∈LTR.cps.toList)/\(∀(k:Nat) x,ns[k]?=some x->x.cps.toList[t.toNat]?=LTR.cps.toList[((u+7*(k:Int)) % 20).toNat]?)/\FeedAt H' f/\SameBut f H H')
  ⟨_,_,_,[],rfl,by rw[aE];rfl,rfl,by simp,by simp,by simp,F5.same (zE0 hL _),S05.trans (zL0 (zE0 hL _))⟩ ?_ ?_⟩
 . rintro i σ H6 hi ⟨x7,x8,x9,ns,rfl,hns,nl,nok,nlt,nat,F6,S6⟩;refine⟨f,_,rfl,F6,(Int.sub_pos_of_lt t6),(Int.lt_of_le_of_lt (Int.sub_le_self 6 t0) (by decide)),fun d H7 d0 d1 F7 S7=>?_⟩;refine⟨(by show(0:Int)<_;decide),?_⟩;obtain⟨c,hc,hm⟩:=jB (l:=LTR.cps.toList) (i:=(u+7*(0+(i:Int))) % 20) (zX0 _ (by decide)) (by rw[L20];exact zY0 _ (by decide));refine⟨?_,(by show(0:Int)<_;decide),_,_,c,rfl,rfl,cu (by decide +kernel),hc,?_⟩
   . exact .inl ⟨by decide,by decide⟩
   have hL7:=S7 L _ Lf hns;have z1:(Txt.slice cm none (some t)).length<=cm.length:=Txt.slice_le cm none (some t);have z2:(Txt.slice cm (some t) (some (t+d % 3))).length<=cm.length:=Txt.slice_le cm _ _;have z3:((⟨#[c]⟩:Str)).length=1:=rfl;refine⟨.inl ⟨rfl,_,zG0 hL7⟩,?_⟩;refine⟨_,rfl,_,rfl,cu (by rw[jl];decide),_,_,rfl,rfl,cu (by rw[z3];omega),?_⟩;refine⟨_,rfl,_,rfl,_,rfl,cu (by rw[jl];decide),_,_,rfl,rfl,cu (by rw[Str.length_append,z3];omega),?_⟩;refine⟨L,_,_,rfl,rfl,hL7,?_,?_⟩
   . rw[zH0];exact aG (by omega)
   refine⟨_,_,_,ns++[(Txt.slice cm none (some t)++⟨#[c]⟩)++Txt.slice cm (some t) (some (t+d % 3))],rfl,?_,?_,?_,?_,?_,li F7 Lf,?_⟩
   . rw[aE,zM0];rfl
   . rw[zO0,qU0,nl]
   . intro x hx;rcases qD0 hx with h | h
     . exact nok x h
     . rw [zP0 h];refine⟨?_,fun c' hc'=>?_,fun ea=>?_⟩
       . rw[Str.length_append,Str.length_append,z3];omega
       rotate_left
       . have cm1:c∈(((Txt.slice cm none (some t)++⟨#[c]⟩)++Txt.slice cm (some t) (some (t+d % 3)):Str)).cps.toList:=by
          rw[Str.cps_append,Str.cps_append]
          simp
         rw[ea]at cm1;exact Dm c hm ((by decide +kernel:∀c∈(("aa":Str)).cps.toList,c=97) c cm1)
       . rcases mem_append hc' with h | h
         . rcases mem_append h with h | h
           . exact uE _ (jc _ (jW h))
           . have:c'=c:=by simpa using h
             subst this;exact uE _ hm
         . exact uE _ (jc _ (jW h))
   . intro x hx c' hc';rcases qD0 hx with h | h
     . exact nlt x h c' hc'
     . rw [zP0 h]at hc';rcases mem_append hc' with h | h
       . rcases mem_append h with h | h
         . exact jc _ (jW h)
         . have:c'=c:=by simpa using h
           subst this;exact hm
       . exact jc _ (jW h)
   . intro k x hx
     by_cases ck:k<ns.length
     . rw[List.getElem?_append_left ck]at hx;exact nat k x hx
     . have kl:k<(ns++[(Txt.slice cm none (some t)++⟨#[c]⟩)++Txt.slice cm (some t) (some (t+d % 3))]).length:=(zT0 hx).1;rw[zO0,qU0]at kl;have ek:k=i:=by omega
       subst ek;rw[List.getElem?_append_right (by omega),nl,Nat.sub_self]at hx;have ex:(Txt.slice cm none (some t)++⟨#[c]⟩)++Txt.slice cm (some t) (some (t+d % 3))=x:=zS0 hx;rw[←ex];have cl:cm.cps.toList.length=5:=jl;have es:Txt.slice cm none (some t)=⟨((cm.cps.toList.drop 0).take (t-0).toNat).toArray⟩:=StrLaws.sliceText_to ⟨t0,by omega⟩;have el:(Txt.slice cm none (some t)).cps.toList.length=t.toNat:=by
        rw[es];simp only[List.drop_zero,Int.sub_zero,qL0];omega
       have ea:((Txt.slice cm none (some t)++⟨#[c]⟩)++Txt.slice cm (some t) (some (t+d % 3))).cps.toList=(Txt.slice cm none (some t)).cps.toList++([c]++(Txt.slice cm (some t) (some (t+d % 3))).cps.toList):=by
        rw[Str.cps_append,Str.cps_append]
        simp
       rw[ea,List.getElem?_append_right (by omega),el,Nat.sub_self];have hc2:LTR.cps.toList[((u+7*(0+(k:Int))) % 20).toNat]?=some c:=DK (zX0 _ (by decide)) hc;rw[Int.zero_add]at hc2;rw[hc2];rfl
   . intro b o hb e;rw[am (aO e L0)];exact S7 b o hb (S6 b o hb e)
 . rintro σ H6 ⟨x7,x8,x9,ns,rfl,hns,nl,nok,nlt,nat,F6,S6⟩;have nnd:ns.Nodup:=zy u0 u20 (by omega) nat;refine ?_;have fin:∀H':Hp,∀ns:List Str,H' L=some (.lst (ns.map V.str))->ns.length=m.toNat->(∀x∈ns,uZ x)->ns.Nodup->FeedAt H' f->SameBut f H H'->Q (.ref L) H':=fun H' ns a b c nd d e=>q L ns H' L0 Lf a b c nd d e
   by_cases c1:(0:Int)<m
   . refine bn c1 ?_;refine⟨f,3,rfl,F6,by decide,by decide,fun d H7 d0 d1 F7 S7=>?_⟩;refine⟨rfl,?_⟩;have hL7:=S7 L _ Lf hns;refine jZ (fun _=>?_) (fun _=>?_)
     . refine ⟨(by show 12<=sizeLine;decide),fun l1 h1=>?_⟩;refine⟨(by show 6<=sizeLine;decide),fun l2 h2=>?_⟩;refine⟨l1,l2,wordsA.map V.str,wordsB.map V.str,rfl,rfl,zE0 h2 _ _ _ aE,aE,(by show 18<=sizeLine;decide),fun l3 h3=>?_⟩;refine⟨(by show 6<=sizeLine;decide),fun l4 h4=>?_⟩;refine⟨l3,l4,wordsA.map V.str++wordsB.map V.str,wordsC.map V.str,rfl,rfl,zE0 h4 _ _ _ aE,aE,(by show 24<=sizeLine;decide),fun l5 h5=>?_⟩;have G:=(zE0 h1 (.lst (wordsA.map V.str))).trans ((zE0 h2 (.lst (wordsB.map V.str))).trans ((zE0 h3 (.lst (wordsA.map V.str++wordsB.map V.str))).trans ((zE0 h4 (.lst (wordsC.map V.str))).trans (zE0 h5 (.lst ((wordsA.map V.str++wordsB.map V.str)++wordsC.map V.str))))));have F8:=F7.same G;have n5:=(F7.same ((zE0 h1 (.lst (wordsA.map V.str))).trans ((zE0 h2 (.lst (wordsB.map V.str))).trans ((zE0 h3 (.lst (wordsA.map V.str++wordsB.map V.str))).trans (zE0 h4 (.lst (wordsC.map V.str))))))).ne h5;refine⟨f,24,rfl,F8,by decide,by decide,fun e H9 e0 e1 F9 S9=>?_⟩;obtain⟨v,hv,vm⟩:=jB (l:=(wordsA.map V.str++wordsB.map V.str)++wordsC.map V.str) (i:=e) e0 (by
        have:((wordsA.map V.str++wordsB.map V.str)++wordsC.map V.str).length=24:=by rfl
        omega)
       rw[←zM0,←zM0]at vm;obtain⟨x,hx,rfl⟩:=List.mem_map.mp vm;refine⟨_,_,zG0 (S9 l5 _ n5 aE),hv,?_⟩;refine⟨f,m,rfl,F9,c1,by omega,fun j H10 j0 j1 F10 S10=>?_⟩;have hL10:=S10 L _ Lf (S9 L _ Lf (G L _ hL7));refine⟨L,_,j,j.toNat,rfl,rfl,hL10,?_,?_⟩
       . have jl:j<((ns.map V.str).length:Int):=by rw[zH0];omega
         unfold ixN;rw[zI0 j0,zI0 jl]
       refine ?_;refine fin _ (ns.set j.toNat x) (by rw[aE,List.map_set]) (by rw[List.length_set];exact nl) ?_ ?_ (li F10 Lf) ?_
       . intro y hy;rcases List.mem_or_eq_of_mem_set hy with h | h
         . exact nok y h
         . rw[h];exact xH x hx
       . refine Dd nnd fun hm=>?_
         obtain⟨c,c1,c2⟩:=vX x hx;exact c2 (nlt x hm c c1)
       . intro b o hb e';rw[am (aO e' L0)];exact S10 b o hb (S9 b o hb (G b o (S7 b o hb (S6 b o hb e'))))
     . refine ?_;exact fin H7 ns hL7 nl nok nnd F7 (S6.trans S7)
   . refine aI c1 ?_;refine gu ?_;refine ?_;exact fin H6 ns hns nl nok nnd F6 S6
theorem fE{x:Str}:∀{ns:List Str},x∈ns->∃j,cK x ns=some j/\j<ns.length
 | [],h=>by cases h
 | a::r,h=>by
   unfold cK
   by_cases c:a=x
   . exact⟨0,by rw[zI0 c],by simp⟩
   . rw [zF0 c];rcases zZ0 h with e | e
     . exact absurd e.symm c
     . obtain⟨j,h1,h2⟩:=fE e;exact⟨j+1,by rw[h1];rfl,by simpa using h2⟩
theorem gY{a b:Str}(h:V.str a=V.str b):a=b:=by injection h
def cW (p:Int) (o:Str) (x y:Int):Int:=if o="and" then x*y % p else if o="or" then(x+y-x*y) % p else if o="odd" then(x+y-2*(x*y)) % p else(1-(x+y-2*(x*y))) % p
def Tr.worth(ns:List Str)(pt:List Int)(p:Int):Tr->Int
 | .is x=>match cK x ns with | some j=>pt.getD j 0 | none=>0
 | .yes=>1
 | .no=>0
 | .not a=>(1-a.worth ns pt p) % p
 | .bin o a b=>cW p o (a.worth ns pt p) (b.worth ns pt p)
def dy(pt:List Int)(p:Int):Prop:=∀x∈pt,0<=x/\x<p
theorem xh{p:Int}(hp:0<p)(o:Str)(x y:Int):0<=cW p o x y/\cW p o x y<p:=by
 have key:∀z:Int,0<=z % p/\z % p<p:=fun z=>⟨zX0 _ (by omega),zY0 _ hp⟩
 unfold cW
 repeat' split
 all_goals exact key _
theorem oF{l:List Int}{j:Nat}(h:j<l.length):l.getD j 0=l[j]:=by
 rw[qX0,zU0 h];rfl
theorem worth_rng{ns:List Str}{pt:List Int}{p:Int}(hp:1<p)(h:dy pt p)(hl:pt.length=ns.length):∀t:Tr,t.ok ns->0<=t.worth ns pt p/\t.worth ns pt p<p
 | .is x,ok=>by
   obtain⟨j,hj,jl⟩:=fE ok;show 0<=(match cK x ns with | some j=>pt.getD j 0 | none=>0)/\(match cK x ns with | some j=>pt.getD j 0 | none=>0)<p;rw[hj];show 0<=pt.getD j 0/\pt.getD j 0<p;rw[oF (by omega)];exact h _ (qY0 _)
 | .yes,_=>⟨by show(0:Int)<=1;decide,hp⟩
 | .no,_=>⟨Int.le_refl 0,by show(0:Int)<p;omega⟩
 | .not a,_=>⟨zX0 _ (by omega),zY0 _ (by omega)⟩
 | .bin o a b,_=>xh (by omega) _ _ _
def CF:Sp:=fun vs H Q _=>∃(o:Str)(x y p:Int),vs=[.str o,.int x,.int y,.int p]/\0<=x/\x<p/\p<2 ^ 40/\Q (.int (cW p o x y)) H
theorem fX:FnScope ["word","first","second","p","both","odd"] ["word","first","second","p"] (ae cz):=⟨rfl,rfl,rfl,by decide +kernel,rfl,by decide +kernel,by decide +kernel⟩
theorem mK {f:Addr} {fd:FuncData} (F:Fun K "joined_worth" "joined_worth" cz f fd):FnOk P w K mg base CX0 1 f fd ["word","first","second","p"] CF:=by
 refine F.ok fX (fun vs H Q E h=>?_) (fun cdv A outer s H vs Q E hr h=>?_)
 . obtain⟨o,x,y,p,rfl,_⟩:=h;rfl
 obtain ⟨o,x,y,p,rfl,x0,xp,pb,k⟩:=h;refine⟨_,(ac (ak (i:=4) fX.nd rfl (Or.inl rfl) (ag aW (pv 1) (pv 2)))
  (ac (aH (ah aM (pv 0) aq (aj _)) (ad (ao (ag aN (pv 4) (pv 3)))) ax)
  (ac (aH (ah aM (pv 0) aq (aj _)) (ad (ao (ag aN (ag aQ (ag aR (pv 1) (pv 2)) (pv 4)) (pv 3)))) ax)
  (ac (ak (i:=5) fX.nd rfl (Or.inl rfl) (ag aQ (ag aR (pv 1) (pv 2)) (ag aW aa (pv 4))))
  (ac (aH (ah aM (pv 0) aq (aj _)) (ad (ao (ag aN (pv 5) (pv 3)))) ax)
  (ad (ao (ag aN (ag aQ aa (pv 5)) (pv 3))))))))),?_⟩
 refine⟨.inl ⟨by omega,by omega⟩,?_⟩;refine⟨rfl,?_⟩
 by_cases c1:V.str o=V.str "and"
 . refine bn c1 ?_;have e:cW p o x y=x*y % p:=by unfold cW;rw[zI0 (gY c1)]
   rw[e]at k;exact⟨(show(0:Int)<p by omega),k⟩
 refine aI c1 ?_;have n1:¬ o="and":=fun z=>c1 (by rw[z])
 refine⟨rfl,?_⟩
 by_cases c2:V.str o=V.str "or"
 . refine bn c2 ?_;have e:cW p o x y=(x+y-x*y) % p:=by unfold cW;rw[zF0 n1,zI0 (gY c2)]
   rw[e]at k;exact⟨(show(0:Int)<p by omega),k⟩
 refine aI c2 ?_;have n2:¬ o="or":=fun z=>c2 (by rw[z])
 refine⟨.inl ⟨by decide,by decide⟩,?_⟩;refine⟨rfl,?_⟩
 by_cases c3:V.str o=V.str "odd"
 . refine bn c3 ?_;have e:cW p o x y=(x+y-2*(x*y)) % p:=by unfold cW;rw[zF0 n1,zF0 n2,zI0 (gY c3)]
   rw[e]at k;exact⟨(show(0:Int)<p by omega),k⟩
 refine aI c3 ?_;have n3:¬ o="odd":=fun z=>c3 (by rw[z])
 have e:cW p o x y=(1-(x+y-2*(x*y))) % p:=by unfold cW;rw[zF0 n1,zF0 n2,zF0 n3]
 rw[e]at k;exact⟨(show(0:Int)<p by omega),k⟩
def jE(n:Nat):Sp:=fun vs H Q _=>∃(v:V)(t:Tr)(a b:Addr)(ns:List Str)(pt:List Int)(p:Int),vs=[v,.ref a,.ref b,.int p]/\TreeAt H v t/\t.ok ns/\t.depth<=n/\NamesAt H a ns/\H b=some (.tup (pt.map V.int))/\pt.length=ns.length/\1<p/\p<2 ^ 40/\dy pt p/\Q (.int (t.worth ns pt p)) H
theorem i9:FnScope ["tree","switches","point","p","word","first"] ["tree","switches","point","p"] (ae dG):=⟨rfl,rfl,rfl,by decide +kernel,rfl,by decide +kernel,by decide +kernel⟩
theorem sY {n:Nat} {f:Addr} {fd:FuncData} (F:Fun K "worth_of" "worth_of" dG f fd) (cn:Cal P w K mg base 1 "joined_worth" ["word","first","second","p"] CF) (eN:Cal P w K mg base (n+2) "worth_of" ["tree","switches","point","p"] (jE n)):FnOk P w K mg base CX0 (n+3) f fd ["tree","switches","point","p"] (jE (n+1)):=by
 refine F.ok i9 (fun vs H Q E h=>?_) (fun cdv A outer s H vs Q E hr h=>?_)
 . obtain⟨v,t,a,b,ns,pt,p,rfl,_⟩:=h;rfl
 obtain⟨v,t,a,b,ns,pt,p,rfl,T,ok,dn,hN,hb,sl,p1,p40,po,k⟩:=h;have p0:(0:Int)<p:=by omega
 refine ⟨_,(ac (ak (i:=4) i9.nd rfl (Or.inl rfl) (av aB (pv 0) aa (fun _ _=>rfl)))
  (ac (aH (ah aM (pv 4) aq (aj _)) (ad (ao (ag aN (av aB (pv 2) (rM PySem.F.plainAttrs_list PySem.F.plainAttrs_tuple (pv 1) (af (av aB (pv 0) aa (fun _ _=>rfl)) aJ)) (fun _ _=>rfl)) (pv 3)))) ax)
  (ac (aH (ah aM (pv 4) aq (aj _)) (ad (ao aa)) ax)
  (ac (aH (ah aM (pv 4) aq (aj _)) (ad (ao aa)) ax)
  (ac (ak (i:=5) i9.nd rfl (Or.inl rfl) (ai eN hr (zJ0 _) rfl (af (av aB (pv 0) aa (fun _ _=>rfl)) (af (pv 1) (af (pv 2) (af (pv 3) aJ))))))
  (ac (aH (ah aM (pv 4) aq (aj _)) (ad (ao (ag aN (ag aQ aa (pv 5)) (pv 3)))) ax)
  (ad (ao (ai cn hr (by omega) rfl (af (pv 4) (af (pv 5) (af (ai eN hr (zJ0 _) rfl (af (av aB (pv 0) aa (fun _ _=>rfl)) (af (pv 1) (af (pv 2) (af (pv 3) aJ))))) (af (pv 3) aJ))))))))))))),?_⟩
 cases T with
 | @is q x e=>
   refine⟨_,_,zD0 e,rfl,?_⟩;refine⟨rfl,?_⟩;refine bDV rfl ?_;obtain⟨j,hj,jl⟩:=fE ok;have jl':j<pt.length:=by omega
   refine⟨a,ns,rfl,hN,_,_,zD0 e,rfl,rfl,x,j,rfl,hj,_,.int pt[j],zD0 hb,?_,p0,?_⟩
   . refine cq ?_;rw[zV0,zU0 jl'];rfl
   . have e1:(Tr.is x).worth ns pt p=pt[j] % p:=by
      show(match cK x ns with | some j=>pt.getD j 0 | none=>0)=_;rw[hj];show pt.getD j 0=_;rw[oF jl']
      have:=po _ (qY0 jl')
      rw[qV0 this.1 this.2]
     rw[e1]at k;exact k
 | @yes q e=>
   refine⟨_,_,zD0 e,rfl,?_⟩;refine⟨rfl,?_⟩;refine aY (by decide +kernel) ?_;refine⟨rfl,?_⟩;exact bDV rfl k
 | @no q e=>
   refine⟨_,_,zD0 e,rfl,?_⟩;refine⟨rfl,?_⟩;refine aY (by decide +kernel) ?_;refine⟨rfl,?_⟩;refine aY (by decide +kernel) ?_;refine⟨rfl,?_⟩;exact bDV rfl k
 | @not q u r e T1=>
   have dp:r.depth+1<=n+1:=dn;refine⟨_,_,zD0 e,rfl,?_⟩;refine⟨rfl,?_⟩;refine aY (by decide +kernel) ?_;refine⟨rfl,?_⟩;refine aY (by decide +kernel) ?_;refine⟨rfl,?_⟩;refine aY (by decide +kernel) ?_;refine⟨_,_,zD0 e,rfl,u,r,a,b,ns,pt,p,rfl,T1,ok,by omega,hN,hb,sl,p1,p40,po,?_⟩;refine⟨rfl,?_⟩;refine bDV rfl ?_;exact⟨p0,k⟩
 | @bin q o u u2 r r2 e T1 T2=>
   obtain⟨ho,ok1,ok2⟩:=ok;have dp:max r.depth r2.depth+1<=n+1:=dn;have ne:∀z:Str,z∉joinW->¬ V.str o=V.str z:=fun z hz h=>hz (gY h▸ho)
   refine⟨_,_,zD0 e,rfl,?_⟩;refine⟨rfl,?_⟩;refine aI (ne _ (by decide +kernel)) ?_;refine⟨rfl,?_⟩;refine aI (ne _ (by decide +kernel)) ?_;refine⟨rfl,?_⟩;refine aI (ne _ (by decide +kernel)) ?_;refine⟨_,_,zD0 e,rfl,u,r,a,b,ns,pt,p,rfl,T1,ok1,by omega,hN,hb,sl,p1,p40,po,?_⟩;refine⟨rfl,?_⟩;refine aI (ne _ (by decide +kernel)) ?_;have wr:=worth_rng p1 po sl r ok1;refine⟨_,_,zD0 e,rfl,u2,r2,a,b,ns,pt,p,rfl,T2,ok2,by omega,hN,hb,sl,p1,p40,po,?_⟩;exact⟨o,_,_,p,rfl,wr.1,wr.2,p40,k⟩
theorem sX {f:Addr} {fd:FuncData}:FnOk P w K mg base CX0 2 f fd ["tree","switches","point","p"] (jE 0):=by
 have no:∀vs H Q E,¬ jE 0 vs H Q E:=fun vs H Q E h=>by
  obtain⟨v,t,_,_,_,_,_,_,_,_,h1,_⟩:=h
  have:=t.depth_pos
  omega
 exact⟨fun vs H Q E h=>absurd h (no vs H Q E),fun A outer s H args us vs Q E _ _ _ _ h=>absurd h (no vs H Q E)⟩
theorem mf {f:Addr} {fd:FuncData} (F:Fun K "worth_of" "worth_of" dG f fd) (m:mg "worth_of"=some (.ref f)) (cn:Cal P w K mg base 1 "joined_worth" ["word","first","second","p"] CF) :
 ∀n:Nat,FnOk P w K mg base CX0 (n+2) f fd ["tree","switches","point","p"] (jE n)
 | 0=>sX
 | n+1=>sY F cn (Cal.of F (mf F m cn n) m (fun _ _ _ _ _ _ us hl=>by obtain⟨u0,u1,u2,u3,rfl⟩:=ow hl;rfl))
end
section
variable {P:Program} {w:World} {K:W.Frag} {mg:Str->Option Value} {base:Heap}
theorem bT{f:Bool->Prop}(h:f true):isB (.bl true) f:=h
theorem bF{f:Bool->Prop}(h:f false):isB (.bl false) f:=h
theorem dX{H:Hp}{b:Addr}{ys zs:List V}(h:H b=some (.lst ys)):∀a xs,H a=some (.tup xs)->(upd H b (.lst zs)) a=some (.tup xs):=fun a xs e=>by
 rw[am]
 . exact e
 . intro z;rw[z,h]at e;cases e
theorem at0(x:V)(xs:List V):atI (x::xs) 0=some x:=cq (j:=0) rfl
theorem mq{ts:List Tr}{i:Nat}{u:Tr}(h:ts[i]?=some u):gS (ts.take (i+1))=gS (ts.take i)++u.names:=by
 unfold gS;rw[qK0,h,zM0,List.flatten_append]
 simp
theorem oo(ts:List Tr):(gS ts).length<=kG ts:=by
 induction ts with
 | nil=>simp [gS,kG]
 | cons a r ih=>
   have:=a.names_len
   simp only[gS,kG,qG0,List.flatten_cons,zO0,List.sum_cons]at ih ⊢;omega
theorem nP(ts:List Tr)(i:Nat):kG (ts.take i)<=kG ts:=by
 induction ts generalizing i with
 | nil=>simp
 | cons a r ih=>
   cases i with
   | zero=>simp [kG]
   | succ i=>
     have:=ih i
     simp only[kG,List.take_succ_cons,qG0,List.sum_cons]at this ⊢;omega
def tM(n:Nat):Sp:=fun vs H Q _=>∃(v:V)(t:Tr),vs=[v]/\TreeAt H v t/\t.wf/\t.depth<=n/\t.size<=400/\∀(l:Addr)(H':Hp),H l=none->Same H H'->H' l=some (.lst (t.names.map V.str))->Q (.ref l) H'
theorem eX:FnScope ["_law_tree_here","_law_found","_law_part"] ["_law_tree_here"] (ae cJ):=⟨rfl,rfl,rfl,by decide +kernel,rfl,by decide +kernel,by decide +kernel⟩
theorem Bo {n:Nat} {f:Addr} {fd:FuncData} (F:Fun K "_law_names_of" "_law_names_of" cJ f fd) (b8:Cal P w K mg base (n+2) "_law_names_of" ["_law_tree_here"] (tM n)):FnOk P w K mg base CX0 (n+3) f fd ["_law_tree_here"] (tM (n+1)):=by
 refine F.ok eX (fun vs H Q E h=>?_) (fun cdv A outer s H vs Q E hr h=>?_)
 . obtain⟨v,t,rfl,_⟩:=h;rfl
 obtain ⟨v,t,rfl,T,wf,dn,sz,q⟩:=h;refine⟨_,(ac (aH (ah aM (av aB (pv 0) aa (fun _ _=>rfl)) aq (aj _)) (ad (ao (bU (af (av aB (pv 0) aa (fun _ _=>rfl)) aJ)))) ax)
  (ac (ak (i:=1) eX.nd rfl (Or.inl rfl) (bU aJ))
  (ac (bY PassesOwn.never rfl (iT (iD tQ (pv 0) (iQ aa) kP)) (ba (i:=2) eX.nd rfl (Or.inl rfl)) (ad (ak (i:=1) eX.nd rfl (Or.inl rfl) (ag fF (pv 1) (ai b8 hr (zJ0 _) rfl (af (pv 2) aJ))))))
  (ad (ao (pv 1)))))),?_⟩
 rcases T.view wf with⟨a,x,rfl,rfl,_,e⟩ | ⟨a,o,xs,rfl,no,xl0,e,TS0,nis⟩
 . refine⟨_,_,zD0 e,rfl,rfl,?_⟩;refine bDV rfl ?_;refine⟨_,_,zD0 e,rfl,(by show 1<=sizeLine;decide),fun p hp=>?_⟩;exact q p _ hp (zE0 hp _) aE
 . refine ⟨_,.str o,zD0 e,at0 ..,rfl,?_⟩;refine aI (fun z=>no (by injection z)) ?_;refine⟨(by show 0<=sizeLine;decide),fun L hL=>?_⟩;have G0:=zE0 hL (.lst []);obtain⟨c1,c2⟩:=cut1 (.str o) xs xl0;refine⟨1,rfl,a,_,rfl,zD0 (G0 _ _ e),c2,fun p hp=>?_⟩;rw[c1];have G1:=zE0 hp (.tup xs);have hp1:upd (upd H L (.lst [])) p (.tup xs) p=some (.tup xs):=aE;have hL1:upd (upd H L (.lst [])) p (.tup xs) L=some (.lst []):=G1 _ _ aE;have S1:Same H (upd (upd H L (.lst [])) p (.tup xs)):=G0.trans G1;generalize upd (upd H L (.lst [])) p (.tup xs)=H1 at hp1 hL1 S1;have TS:=TS0.mono (aX S1);have xl:=TS.length;have sp:=t.size_parts;refine⟨p,rfl,⟨_,zD0 hp1⟩,qG (K:=K) (xs:=xs) (fun i σ H'=>∃(M:Addr)(x2:Option V),σ=[some (.ref a),some (.ref M),x2]/\H M=none/\H' M=some (.lst ((gS (t.parts.take i)).map V.str))/\Same H1 H') ⟨L,_,rfl,hL,hL1,Same.refl _⟩ (fun i σ H' _ hst=>by obtain⟨_,_,_,_,_,h⟩:=hst;exact zD0 (h _ _ hp1)) ?_ ?_⟩
   . rintro i x σ H2 hx ⟨M,x2,rfl,M0,hM,S2⟩;obtain⟨u,hu,Tu⟩:=TS.get hx;have um:=qJ0 hu;obtain⟨uw,ud,us⟩:=Tr.parts_mem um wf;refine⟨x,u,rfl,Tu.mono (aX S2),uw,by omega,by omega,fun l H3 l0 S3 hl3=>?_⟩;have nl:=u.names_len;have nl2:=oo (t.parts.take i);have nl3:=nP t.parts i;refine⟨M,l,_,_,rfl,rfl,S3 _ _ hM,hl3,?_,fun r hr0=>?_⟩
     . rw[zH0,zH0];exact cu (by omega)
     . have S4:=(S2.trans S3).trans (zE0 hr0 (.lst ((gS (t.parts.take i)).map V.str++u.names.map V.str)));refine⟨r,_,rfl,(S1.trans (S2.trans S3)).free hr0,?_,S4⟩;rw[aE,mq hu,zM0]
   . rintro σ H2 ⟨M,x2,rfl,M0,hM,S2⟩;rw[xl,qO0,←t.names_parts nis]at hM;exact(q M H2 M0 (S1.trans S2) hM)
theorem Bn {f:Addr} {fd:FuncData}:FnOk P w K mg base CX0 2 f fd ["_law_tree_here"] (tM 0):=by
 have no:∀vs H Q E,¬ tM 0 vs H Q E:=fun vs H Q E h=>by
  obtain⟨v,t,_,_,_,h1,_⟩:=h
  have:=t.depth_pos
  omega
 exact⟨fun vs H Q E h=>absurd h (no vs H Q E),fun A outer s H args us vs Q E _ _ _ _ h=>absurd h (no vs H Q E)⟩
theorem kg {f:Addr} {fd:FuncData} (F:Fun K "_law_names_of" "_law_names_of" cJ f fd) (m:mg "_law_names_of"=some (.ref f)) :
 ∀n:Nat,FnOk P w K mg base CX0 (n+2) f fd ["_law_tree_here"] (tM n)
 | 0=>Bn
 | n+1=>Bo F (Cal.of F (kg F m n) m (fun _ _ _ _ _ _ us hl=>by obtain⟨u0,rfl⟩:=jX hl;rfl))
theorem kq(ns:List Str)(z:Str):((ns.map V.str).countP fun y=>eqV y (.str z))=ns.count z:=by
 rw[List.countP_map];rfl
def ye:Sp:=fun vs H Q _=>∃(a b:Addr)(ns:List Str)(tv:List V)(ts:List Tr),vs=[.ref a,.ref b]/\H a=some (.lst (ns.map V.str))/\H b=some (.lst tv)/\TreesAt H tv ts/\ts.length<=10/\(∀t∈ts,t.wf/\t.depth<=10/\t.size<=400)/\
 ∀(m:Int)(H':Hp),Same H H'->2<=m->m<=400->(ts.length:Int)<=m+1->(∀t∈ts,∀x∈ns,(t.names.count x:Int)<=m)->Q (.int m) H'
theorem e8:FnScope ["_law_names_here","_law_trees","_law_need_here","_law_tree_here","_law_found","_law_name"] ["_law_names_here","_law_trees"] (ae ir):=⟨rfl,rfl,rfl,by decide +kernel,rfl,by decide +kernel,by decide +kernel⟩
theorem wI {f:Addr} {fd:FuncData} (F:Fun K "_law_need" "_law_need" ir f fd) (hlen:mg "len"=none) (hmax:mg "max"=none) (b8:Cal P w K mg base 12 "_law_names_of" ["_law_tree_here"] (tM 10)):FnOk P w K mg base CX0 13 f fd ["_law_names_here","_law_trees"] ye:=by
 refine F.ok e8 (fun vs H Q E h=>?_) (fun cdv A outer s H vs Q E hr h=>?_)
 . obtain⟨a,b,ns,tv,ts,rfl,_⟩:=h;rfl
 obtain ⟨a,b,ns,tv,ts,rfl,ha,hb,TS,tl,tok,q⟩:=h;refine⟨_,(ac (ak (i:=2) e8.nd rfl (Or.inl rfl) (aD (lT rfl) rfl hmax PyProof.Rows.boot_max (af aa (af (ag aQ (aD az rfl hlen PySem.boot_len (af (pv 1) aJ)) aa) aJ))))
  (ac (bY PassesOwn.never rfl (bV (pv 1)) (ba (i:=3) e8.nd rfl (Or.inl rfl)) (ac (ak (i:=4) e8.nd rfl (Or.inl rfl) (ai b8 hr (by decide) rfl (af (pv 3) aJ)))
   (ad (bY PassesOwn.never rfl (bV (pv 0)) (ba (i:=5) e8.nd rfl (Or.inl rfl)) (ad (ak (i:=2) e8.nd rfl (Or.inl rfl) (aD (lT rfl) rfl hmax PyProof.Rows.boot_max (af (pv 2) (af (dU PySem.F.plainAttrs_list PySem.F.slot_list_count PySem.F.type_list_count rZ (pv 4) (af (pv 5) aJ)) aJ)))))))))
  (ad (ao (pv 2))))),?_⟩
 have vl:=TS.length;refine⟨b,_,rfl,.inl (zG0 hb),_,_,rfl,?_⟩;obtain⟨m,em,m2,m4,mt⟩:∃m:Int,(if((tv.length:Int)-1)>2 then((tv.length:Int)-1)else 2)=m/\2<=m/\m<=400/\(ts.length:Int)<=m+1:=⟨_,rfl,by split <;> omega,by split <;> omega,by split <;> omega⟩
 rw [em];refine⟨b,rfl,⟨_,zG0 hb⟩,iF (K:=K) (xs:=tv) (fun i σ H'=>∃(m:Int)(x3 x4 x5:Option V),σ=[some (.ref a),some (.ref b),some (.int m),x3,x4,x5]/\2<=m/\m<=400/\(ts.length:Int)<=m+1/\(∀t∈ts.take i,∀x∈ns,(t.names.count x:Int)<=m)/\Same H H')
  ⟨m,_,_,_,rfl,m2,m4,mt,by simp,Same.refl _⟩ (fun i σ H' _ hst=>by obtain⟨_,_,_,_,_,_,_,_,_,h⟩:=hst;exact zG0 (h _ _ hb)) ?_ ?_⟩
 . rintro i v σ H1 hv ⟨m,x3,x4,x5,rfl,m2,m4,mt,mc,S1⟩;obtain⟨t,ht,T⟩:=TS.get hv;have tm:=qJ0 ht;obtain⟨tw,td,tz⟩:=tok t tm;refine⟨v,t,rfl,T.mono (aX S1),tw,by omega,tz,fun l H2 l0 S2 hl=>?_⟩;have S12:=S1.trans S2;have tn:=t.names_len;refine⟨a,rfl,⟨_,zG0 (S12 _ _ ha)⟩,iF (K:=K) (xs:=ns.map V.str) (fun j σ H'=>∃(m':Int)(x5:Option V),σ=[some (.ref a),some (.ref b),some (.int m'),some v,some (.ref l),x5]/\m<=m'/\m'<=400/\(∀x∈ns.take j,(t.names.count x:Int)<=m')/\H'=H2)
    ⟨m,_,rfl,Int.le_refl _,m4,by simp,rfl⟩ (fun j σ H' _ hst=>by obtain⟨_,_,_,_,_,_,h⟩:=hst;subst h;exact zG0 (S12 _ _ ha)) ?_ ?_⟩
   . rintro j y σ H3 hy ⟨m',y5,rfl,mm,m4',mc',rfl⟩;rw[zV0]at hy;obtain⟨x,hx,rfl⟩:=qM0 hy;refine⟨.inl ⟨rfl,_,zG0 hl⟩,l,_,_,rfl,rfl,zG0 hl,fG _,rfl,_,_,rfl,?_⟩;rw[kq];have cl:=List.count_le_length (a:=x) (l:=t.names);refine⟨_,_,rfl,by split <;> omega,by split <;> omega,fun z hz=>?_,rfl⟩;rw[qK0,hx]at hz;rcases qD0 hz with h | h
     . have:=mc' z h
       split <;> omega
     . have e:z=x:=by simpa using h
       subst e
       split <;> omega
   . rintro σ H3 ⟨m',y5,rfl,mm,m4',mc',rfl⟩;rw[zH0,qO0]at mc';refine⟨m',_,_,_,rfl,by omega,m4',by omega,fun u hu x hx=>?_,S12⟩;rw[qK0,ht]at hu;rcases qD0 hu with h | h
     . have:=mc u h x hx
       omega
     . have e:u=t:=by simpa using h
       subst e;exact mc' x hx
 . rintro σ H1 ⟨m,x3,x4,x5,rfl,m2,m4,mt,mc,S1⟩;rw[vl,qO0]at mc;exact(q m H1 S1 m2 m4 mt mc)
def nI:Sp:=fun vs H Q _=>∃n:Int,vs=[.int n]/\∀b:Bool,(b=true↔Pr n)->Q (.bl b) H
theorem m7:FnScope ["_law_number","_law_k"] ["_law_number"] (ae dc):=⟨rfl,rfl,rfl,by decide +kernel,rfl,by decide +kernel,by decide +kernel⟩
theorem oX {f:Addr} {fd:FuncData} (F:Fun K "_law_is_prime" "_law_is_prime" dc f fd) (hrange:mg "range"=none):FnOk P w K mg base CX0 1 f fd ["_law_number"] nI:=by
 refine F.ok m7 (fun vs H Q E h=>?_) (fun cdv A outer s H vs Q E hr h=>?_)
 . obtain⟨n,rfl,_⟩:=h;rfl
 obtain ⟨n,rfl,q⟩:=h;refine⟨_,(ac (aH (ah cU (pv 0) aa (aj _)) (ad (ao hU)) ax)
  (ac (bY PassesOwn.never rfl (wD rfl hrange (af aa (af aa aJ))) (ba (i:=1) m7.nd rfl (Or.inl rfl)) (ac (aH (ah eE (ag aW (pv 1) (pv 1)) (pv 0) (aj _)) (ad (ao hU)) ax)
   (ad (aH (ah aM (ag aN (pv 0) (pv 1)) aa (aj _)) (ad (ao hU)) ax))))
  (ad (ao hU)))),?_⟩
 refine ?_;refine jZ (fun c=>?_) (fun c=>?_)
 . have c':=of_decide_eq_true c;exact q false ⟨fun z=>(nomatch z),fun z=>by have:=z.1;omega⟩
 have c':¬ n<2:=of_decide_eq_false (Bool.eq_false_iff.mpr c);refine⟨2,1001,rfl,⟨by decide,by decide,by decide,by decide⟩,dh (fun i σ H'=>∃x,σ=[some (.int n),x]/\H'=H/\lV n (2+(i:Int))) ⟨_,rfl,rfl,by simpa using tu n⟩ ?_ ?_⟩
 . rintro i σ H' hi ⟨x,rfl,rfl,u⟩;have hi':i<999:=hi;refine⟨.inl ⟨by omega,by omega⟩,?_⟩;refine jZ (fun c1=>?_) (fun c1=>?_)
   . have c2:=of_decide_eq_true c1;exact q true ⟨fun _=>CS (by omega) (by omega) u c2,fun _=>rfl⟩
   . have c2:=of_decide_eq_false (Bool.eq_false_iff.mpr c1);refine⟨(show(0:Int)<2+(i:Int) by omega),rfl,?_⟩;refine jZ (fun c3=>?_) (fun c3=>?_)
     . have c4:=V.int.inj (of_decide_eq_true c3);exact q false ⟨fun z=>(nomatch z),fun z=>(CP (by omega) (by omega) (by omega) c4 z).elim⟩
     . have c4:=of_decide_eq_false (Bool.eq_false_iff.mpr c3);refine⟨_,rfl,rfl,?_⟩;have e:(2:Int)+((i+1:Nat):Int)=2+(i:Int)+1:=by omega
       rw[e];exact vY u (by omega) (fun z=>c4 (congrArg V.int z))
 . rintro σ H' ⟨x,rfl,rfl,u⟩;exact q true ⟨fun _=>CU (by omega) u,fun _=>rfl⟩
def re:Sp:=fun vs H Q _=>∃(f:Addr)(m:Int),vs=[.ref f,.int m]/\FeedAt H f/\2<=m/\m<=400/\∀(p:Int)(H':Hp),Pr p->m<p->p<=999983->FeedAt H' f->SameBut f H H'->Q (.int p) H'
theorem tX{f:Addr}{m fm:Int}{D:Ends}{H:Hp}(hD:∀p:Int,Pr p->m<p->p<=999983->D.nx [some (.ref f),some (.int m),some (.int fm),some (.int p)] H)(n:Int)(h1:m<n)(h2:n<=999983) :
 xR (tNot (tB (xV nI [] E0 (kz (qV 3) tH)))) (xW (tOp (rI0 fun i j=>V.int (i+j)) (qV 3) (tC (V.int 1))) (oG 3)) D [some (.ref f),some (.int m),some (.int fm),some (.int n)] H:=by
 refine⟨fun mm σ H'=>∃n:Int,σ=[some (.ref f),some (.int m),some (.int fm),some (.int n)]/\H'=H/\m<n/\n<=999983/\mm=(999983-n).toNat,⟨_,_,rfl,rfl,h1,h2,rfl⟩,?_⟩;rintro mm σ H' ⟨n,rfl,rfl,n0,n1,rfl⟩;refine⟨n,rfl,fun b hb=>?_⟩;cases b with
 | true=>exact hD n (hb.mp rfl) n0 n1
 | false=>
   refine ?_;refine⟨_,fun _ _ h=>h,?_⟩;have ne:n≠999983:=fun z=>by
    subst z;exact nomatch hb.mpr wB
   refine ?_;exact⟨_,by omega,n+1,rfl,rfl,by omega,by omega,rfl⟩
theorem eO:FnScope ["_law_feed_here","_law_need_here","_law_form","_law_number"] ["_law_feed_here","_law_need_here"] (ae gF):=⟨rfl,rfl,rfl,by decide +kernel,rfl,by decide +kernel,by decide +kernel⟩
theorem ui {f:Addr} {fd:FuncData} (F:Fun K "_law_field" "_law_field" gF f fd) (aU:Cal P w K mg base 1 "_law_take" ["_law_feed_here","_law_many"] fZ) (iI:Cal P w K mg base 1 "_law_is_prime" ["_law_number"] nI):FnOk P w K mg base CX0 2 f fd ["_law_feed_here","_law_need_here"] re:=by
 refine F.ok eO (fun vs H Q E h=>?_) (fun cdv A outer s H vs Q E hr h=>?_)
 . obtain⟨f,m,rfl,_⟩:=h;rfl
 obtain ⟨f,m,rfl,hF,m2,m4,q⟩:=h;refine⟨_,(ac (ak (i:=2) eO.nd rfl (Or.inl rfl) (ai aU hr (by decide) rfl (af (pv 0) (af aa aJ))))
  (ac (ak (i:=3) eO.nd rfl (Or.inl rfl) (ag aR (pv 1) aa))
  (ac (aH (ah aM (pv 2) aa (aj _)) (ad (ak (i:=3) eO.nd rfl (Or.inl rfl) (ag aR (ag aR (pv 1) aa) (ai aU hr (by decide) rfl (af (pv 0) (af aa aJ)))))) ax)
  (ac (aH (ah aM (pv 2) aa (aj _)) (ad (ak (i:=3) eO.nd rfl (Or.inl rfl) (ag aR (ag aR (pv 1) aa) (ai aU hr (by decide) rfl (af (pv 0) (af (ag aQ aa (pv 1)) aJ)))))) ax)
  (ac (ju PassesOwn.never (jt (iP (ai iI hr (by decide) rfl (af (pv 3) aJ)))) (ad (ak (i:=3) eO.nd rfl (Or.inl rfl) (ag aR (pv 3) aa))))
  (ad (ao (pv 3)))))))),?_⟩
 refine⟨f,4,rfl,hF,by decide,by decide,fun fm H1 _ _ F1 S1=>?_⟩;refine ?_;refine⟨rfl,?_⟩;refine jZ (fun c1=>?b1) (fun c1=>?b2)
 case' b1=>
  refine⟨f,60,rfl,F1,by decide,by decide,fun d H2 d0 d1 F2 S2=>?_⟩;refine ?_;have G2:=S1.trans S2;have n1:m<m+1+d:=by omega
  have n2:m+1+d<=999983:=by omega
 case' b2=>
  have F2:=F1;have G2:=S1;have n1:m<m+1:=by omega
  have n2:m+1<=999983:=by omega
 all_goals
  refine⟨rfl,?_⟩;refine jZ (fun c2=>?_) (fun c2=>?_);refine⟨f,_,rfl,F2,(show(0:Int)<999983-m by omega),(show(999983:Int)-m<2 ^ 63 by omega),fun d H3 d0 d1 F3 S3=>?_⟩;refine ?_;have G3:=G2.trans S3;clear n1 n2;have n1:m<m+1+d:=by omega
  have n2:m+1+d<=999983:=by
   have:d<999983-m:=d1
   omega
  rotate_left
  have F3:=F2;have G3:=G2
  rotate_left
  all_goals
   refine tX (fun p pp mp p9=>?_) _ n1 n2;exact(q p _ pp mp p9 F3 G3)
def ym:Sp:=fun vs H Q _=>∃(f:Addr)(most room:Int),vs=[.ref f,.int most,.int room]/\FeedAt H f/\0<=most/\most<=6/\1<=room/\room<=30/\
 ∀(g a b:Addr)(ns:List Str)(tv:List V)(ts:List Tr)(p:Int)(H':Hp),H' g=some (.tup [.ref a,.ref b,.int p])->H' a=some (.tup (ns.map V.str))->(ns.length:Int)<=most->(∀x∈ns,uZ x)->ns.Nodup->H' b=some (.tup tv)->TreesAt H' tv ts->1<=ts.length->ts.length<=4 ->
  (∀t∈ts,t.ok ns/\t.depth<=9/\(t.size:Int)<=room)->Pr p->2<p->p<=999983->(ts.length:Int)<=p->(∀t∈ts,∀x∈ns,(t.names.count x:Int)<p)->FeedAt H' f->SameBut f H H'->Q (.ref g) H'
theorem mB{m:Int}(h0:0<=m)(h6:m<=6):(0:Int)<m+1/\m+1<2 ^ 63:=by omega
theorem zB{z:Int}(h0:1<=z)(h6:z<=4):-(2 ^ 62)<=z/\z<2 ^ 62:=by omega
theorem rB{r:Int}(h0:1<=r)(h6:r<=30):0<r/\r<2 ^ 63:=by omega
theorem eB{e r:Int}(h0:0<=e)(h1:e<r)(h6:r<=30):(1:Int)<=1+e/\(1:Int)+e<=100:=by omega
theorem iN:FnScope ["_law_feed_here","_law_most","_law_room","_law_names_here","_law_many","_law_trees"] ["_law_feed_here","_law_most","_law_room"] (ae iy):=⟨rfl,rfl,rfl,by decide +kernel,rfl,by decide +kernel,by decide +kernel⟩
theorem wL {f:Addr} {fd:FuncData} (F:Fun K "_law_game" "_law_game" iy f fd) (hrange:mg "range"=none) (htuple:mg "tuple"=none) (aU:Cal P w K mg base 1 "_law_take" ["_law_feed_here","_law_many"] fZ) (e9:Cal P w K mg base 2 "_law_names" ["_law_feed_here","_law_many"] nJ)
 (eY:Cal P w K mg base 12 "_law_tree" ["_law_feed_here","_law_names_here","_law_room","_law_deep"] (lD 10)) (t8:Cal P w K mg base 13 "_law_need" ["_law_names_here","_law_trees"] ye) (nQ:Cal P w K mg base 2 "_law_field" ["_law_feed_here","_law_need_here"] re):FnOk P w K mg base CX0 14 f fd ["_law_feed_here","_law_most","_law_room"] ym:=by
 refine F.ok iN (fun vs H Q E h=>?_) (fun cdv A outer s H vs Q E hr h=>?_)
 . obtain⟨f,most,room,rfl,_⟩:=h;rfl
 obtain ⟨f,most,room,rfl,hF,m0,m6,r1,r30,q⟩:=h;refine⟨_,(ac (ak (i:=3) iN.nd rfl (Or.inr rfl) (ai e9 hr (by decide) rfl (af (pv 0) (af (ai aU hr (by decide) rfl (af (pv 0) (af (ag aR (pv 1) aa) aJ))) aJ))))
  (ac (ak (i:=4) iN.nd rfl (Or.inl rfl) (av ix_list (bU (af aa (af aa (af aa (af aa (af aa (af aa aJ))))))) (ai aU hr (by decide) rfl (af (pv 0) (af aa aJ))) (fun _ _=>rfl)))
  (ac (jS (i:=5) (N:=["_law_room","_law_names_here","_law_feed_here"]) (ix:=[2,3,0]) iN.nd rfl (Or.inl rfl) rfl
   (CompScope.three (by with_unfolding_all rfl) (by decide) rfl (by decide) rfl (by decide +kernel) rfl (by with_unfolding_all rfl) (by with_unfolding_all rfl) (by with_unfolding_all rfl) (by with_unfolding_all rfl) (by with_unfolding_all rfl) rfl rfl (by with_unfolding_all rfl) rfl rfl (by with_unfolding_all rfl) rfl rfl) rfl
   (bv rfl hrange (af (pv 4) aJ))
   (fun _ _ _=>bQ (ai eY hr (by decide) rfl (af (pv 3) (af (pv 2) (af (ag aR aa (ai aU hr (by decide) rfl (af (pv 3) (af (pv 1) aJ)))) (af aa aJ)))))))
  (ad (ao (bd (af (bh bH rfl htuple cg (af (pv 3) aJ)) (af (bh bH rfl htuple cg (af (pv 5) aJ)) (af (ai nQ hr (by decide) rfl (af (pv 0) (af (ai t8 hr (by decide) rfl (af (pv 3) (af (pv 5) aJ))) aJ))) aJ))))))))),?_⟩
 refine ⟨f,_,rfl,hF,(mB m0 m6).1,(mB m0 m6).2,fun mk H1 k0 k7 F1 S1=>?_⟩;refine⟨f,mk,rfl,F1,k0,by omega,fun nl ns H2 nl0 nlf hnl nsl nok nnd F2 S2=>?_⟩;have S02:=S1.trans S2;refine⟨(by show 6<=sizeLine;decide),fun l hl=>?_⟩;have lf:=F2.ne hl;have G2:=zE0 hl (.lst [.int 1,.int 1,.int 1,.int 2,.int 3,.int 4]);refine⟨f,6,rfl,F2.same G2,by decide,by decide,fun j H3 j0 j6 F3 S3=>?_⟩;have hl3:=S3 l _ lf aE;obtain⟨x,hx,xm⟩:=jB (l:=[V.int 1,V.int 1,V.int 1,V.int 2,V.int 3,V.int 4]) (i:=j) j0 (by show j<6;omega);obtain⟨z,rfl,z0,z4⟩:∃z:Int,x=.int z/\1<=z/\z<=4:=by
  simp only[List.mem_cons,List.not_mem_nil,or_false]at xm;rcases xm with h | h | h | h | h | h <;> exact⟨_,h,by decide,by decide⟩
 refine⟨_,_,zG0 hl3,hx,?_⟩;have S23:SameBut f H2 H3:=(zL0 G2).trans S3;have hnl3:=S23 nl _ nlf hnl;have S03:=S02.trans S23;have nl6:ns.length<=6:=by omega
 refine⟨z,rfl,(zB z0 z4).1,(zB z0 z4).2,fun D hD=>?_⟩;have Df:=F3.ne hD;have nD:nl≠D:=aO hnl3 hD;have GD:=zE0 hD (.lst []);refine cX (fun i H'=>∃(tv:List V)(ts:List Tr),H' D=some (.lst tv)/\TreesAt H' tv ts/\ts.length=i/\(∀t∈ts,t.ok ns/\t.depth<=9/\(t.size:Int)<=room)/\FeedAt H' f/\SameBut f H3 H') ⟨[],[],aE,.nil,rfl,(fun t ht=>by cases ht),F3.same GD,zL0 GD⟩ ?_ ?_
 . rintro i H4 hi ⟨tv,ts,hD4,TS,tl,tok,F4,S4⟩;have hi':i<z.toNat:=hi;have hnl4:=S4 nl _ nlf hnl3;refine⟨f,room,rfl,F4,(rB r1 r30).1,(rB r1 r30).2,fun e H5 e0 e1 F5 S5=>?_⟩;have hnl5:=S5 nl _ nlf hnl4;refine⟨f,nl,_,_,ns,rfl,F5,.inl hnl5,nl6,(eB e0 e1 r30).1,(eB e0 e1 r30).2,by decide,by decide,fun v t H6 F6 S6 T6 ok6 sz6 dp6=>?_⟩;have S46:=S5.trans S6;have hD6:=S46 D _ Df hD4;have k46:=bD F4 S46;have vl:=TS.length;refine⟨_,hD6,aG (by omega),Nx.of hi ⟨tv++[v],ts++[t],aE,?_,?_,?_,li F6 Df,?_⟩⟩
   . have k:=dX (H:=H6) (b:=D) (ys:=tv) (zs:=tv++[v]) hD6;exact((TS.mono k46).mono k).append (.cons (T6.mono k) .nil)
   . rw[zO0,qU0,tl]
   . intro u hu;rcases qD0 hu with h | h
     . exact tok u h
     . rw[zP0 h];have d9:(t.depth:Int)<=9:=dp6;have s9:(t.size:Int)<=1+e:=sz6;exact⟨ok6,by omega,by omega⟩
   . intro b o hb eb;rw[am (aO eb hD)];exact S46 b o hb (S4 b o hb eb)
 . rintro H4 ⟨tv,ts,hD4,TS,tl,tok,F4,S4⟩;have hnl4:=S4 nl _ nlf hnl3;have tl':ts.length=z.toNat:=tl;have tl1:1<=ts.length:=by omega
   have tl4:ts.length<=4:=by omega
   refine⟨nl,_,rfl,.inl ⟨zG0 hnl4,fun a ha=>?_⟩⟩;have Ga:=zE0 ha (.tup (ns.map V.str));refine⟨D,_,rfl,.inl ⟨zG0 (Ga _ _ hD4),fun b hb=>?_⟩⟩;have Gb:=zE0 hb (.tup tv);have Gab:=Ga.trans Gb;have wfs:∀t∈ts,t.wf:=fun t ht=>Tr.ok_wf nok t (tok t ht).1
   refine⟨nl,D,ns,tv,ts,rfl,Gab _ _ hnl4,Gab _ _ hD4,TS.mono (aX Gab),qB0 tl4 (by decide),fun t ht=>⟨wfs t ht,qB0 (tok t ht).2.1 (by decide),by have:=(tok t ht).2.2;omega⟩,fun m H5 S5 m2 m4 mt mc=>?_⟩;have F5:=(F4.same Gab).same S5;refine⟨f,m,rfl,F5,m2,m4,fun p H6 pp mp p9 F6 S6=>?_⟩;refine⟨(by show 3<=sizeLine;decide),fun g hg=>?_⟩;have Gg:=zE0 hg (.tup [.ref a,.ref b,.int p]);have k6:bu (upd (upd H4 a (.tup (ns.map V.str))) b (.tup tv)) (upd H6 g (.tup [.ref a,.ref b,.int p])):=fun c ys h=>Gg _ _ (bD F5 S6 _ _ (S5 _ _ h))
   refine q g a b ns tv ts p _ aE (k6 _ _ (Gb _ _ aE)) (by omega) nok nnd (k6 _ _ aE) ((TS.mono (aX Gab)).mono k6) tl1 tl4 tok pp (by omega) p9 (by omega) (fun t ht x hx=>by have:=mc t ht x hx;omega) (F6.same Gg) ?_;exact S03.trans (S4.trans ((zL0 (Gab.trans S5)).trans (S6.trans (zL0 Gg))))
def nE:Sp:=fun vs H Q _=>∃(v:V)(t:Tr),vs=[v]/\TreeAt H v t/\t.wf/\∀(p:Addr)(xs:List V)(H':Hp),Same H H'->H' p=some (.tup xs)->TreesAt H' xs t.parts->Q (.ref p) H'
theorem mH:FnScope ["tree"] ["tree"] (ae cx):=⟨rfl,rfl,rfl,by decide +kernel,rfl,by decide +kernel,by decide +kernel⟩
theorem mJ {f:Addr} {fd:FuncData} (F:Fun K "trees_within" "trees_within" cx f fd):FnOk P w K mg base CX0 1 f fd ["tree"] nE:=by
 refine F.ok mH (fun vs H Q E h=>?_) (fun cdv A outer s H vs Q E hr h=>?_)
 . obtain⟨v,t,rfl,_⟩:=h;rfl
 obtain ⟨v,t,rfl,T,wf,q⟩:=h;refine⟨_,(ac (aH (ah aM (av aB (pv 0) aa (fun _ _=>rfl)) aq (aj _)) (ad (ao (bd aJ))) ax)
  (ad (ao (iD tQ (pv 0) (iQ aa) kP)))),?_⟩
 rcases T.view wf with⟨a,x,rfl,rfl,_,e⟩ | ⟨a,o,xs,rfl,no,xl,e,TS,_⟩
 . refine⟨_,_,zD0 e,rfl,rfl,?_⟩;refine bDV rfl ?_;refine⟨(by show 0<=sizeLine;decide),fun p hp=>?_⟩;exact q p [] _ (zE0 hp _) aE .nil
 . refine⟨_,.str o,zD0 e,at0 ..,rfl,?_⟩;refine aI (fun z=>no (by injection z)) ?_;obtain⟨c1,c2⟩:=cut1 (.str o) xs xl;refine⟨1,rfl,a,_,rfl,zD0 e,c2,fun p hp=>?_⟩;rw[c1];exact q p xs _ (zE0 hp _) aE (TS.mono (aX (zE0 hp _)))
def eW(n:Nat):Sp:=fun vs H Q _=>∃(v:V)(t:Tr),vs=[v]/\TreeAt H v t/\t.wf/\t.depth<=n/\t.size<=400/\∀(l:Addr)(H':Hp),H l=none->Same H H'->H' l=some (.lst (t.names.map V.str))->Q (.ref l) H'
theorem je:FnScope ["tree","names","part"] ["tree"] (ae dI):=⟨rfl,rfl,rfl,by decide +kernel,rfl,by decide +kernel,by decide +kernel⟩
theorem uu {n:Nat} {f:Addr} {fd:FuncData} (F:Fun K "names_in" "names_in" dI f fd) (cI:Cal P w K mg base 1 "trees_within" ["tree"] nE) (cT:Cal P w K mg base (n+2) "names_in" ["tree"] (eW n)):FnOk P w K mg base CX0 (n+3) f fd ["tree"] (eW (n+1)):=by
 refine F.ok je (fun vs H Q E h=>?_) (fun cdv A outer s H vs Q E hr h=>?_)
 . obtain⟨v,t,rfl,_⟩:=h;rfl
 obtain ⟨v,t,rfl,T,wf,dn,sz,q⟩:=h;refine⟨_,(ac (aH (ah aM (av aB (pv 0) aa (fun _ _=>rfl)) aq (aj _)) (ad (ao (bU (af (av aB (pv 0) aa (fun _ _=>rfl)) aJ)))) ax)
  (ac (ak (i:=1) je.nd rfl (Or.inl rfl) (bU aJ))
  (ac (bY PassesOwn.never rfl (iT (ai cI hr (by omega) rfl (af (pv 0) aJ))) (ba (i:=2) je.nd rfl (Or.inl rfl)) (ad (bG (dU PySem.F.plainAttrs_list PySem.F.slot_list_extend PySem.F.type_list_extend wV (pv 1) (af (ai cT hr (zJ0 _) rfl (af (pv 2) aJ)) aJ)))))
  (ad (ao (pv 1)))))),?_⟩
 have wf':=wf;rcases T.view wf with⟨a,x,rfl,rfl,_,e⟩ | ⟨a,o,xs0,rfl,no,xl0,e,_,nis⟩
 . refine⟨_,_,zD0 e,rfl,rfl,?_⟩;refine bDV rfl ?_;refine⟨_,_,zD0 e,rfl,(by show 1<=sizeLine;decide),fun p hp=>?_⟩;exact q p _ hp (zE0 hp _) aE
 . refine ⟨_,.str o,zD0 e,at0 ..,rfl,?_⟩;refine aI (fun z=>no (by injection z)) ?_;refine⟨(by show 0<=sizeLine;decide),fun L hL=>?_⟩;have G0:=zE0 hL (.lst []);refine⟨_,t,rfl,T.mono (aX G0),wf,fun p xs H1 S1 hp TS=>?_⟩;have hL1:H1 L=some (.lst []):=S1 _ _ aE;have pL:p≠L:=fun z=>by rw[z,hL1]at hp;cases hp
   have xl:=TS.length;have sp:=t.size_parts;refine⟨p,rfl,⟨_,zD0 hp⟩,qG (K:=K) (xs:=xs) (fun i σ H'=>∃x2,σ=[some (.ref a),some (.ref L),x2]/\H' L=some (.lst ((gS (t.parts.take i)).map V.str))/\SameBut L H1 H') ⟨_,rfl,hL1,SameBut.refl _ _⟩ (fun i σ H' _ hst=>by obtain⟨_,_,_,h⟩:=hst;exact zD0 (h _ _ pL hp)) ?_ ?_⟩
   . rintro i x σ H2 hx ⟨x2,rfl,hl,S2⟩;obtain⟨u,hu,Tu⟩:=TS.get hx;have um:=qJ0 hu;obtain⟨uw,ud,us⟩:=Tr.parts_mem um wf;have Tu2:TreeAt H2 x u:=Tu.mono fun b ys h=>S2 b _ (fun z=>by rw[z,hL1]at h;cases h) h
     refine⟨.inl ⟨rfl,_,zG0 hl⟩,x,u,rfl,Tu2,uw,by omega,by omega,fun l H3 l0 S3 hl3=>?_⟩;have nl:=u.names_len;have nl2:=oo (t.parts.take i);have nl3:=nP t.parts i;refine⟨L,l,_,_,rfl,rfl,S3 _ _ hl,hl3,?_,?_⟩
     . rw[zH0,zH0];exact cu (by omega)
     refine⟨_,rfl,?_,fun b o hb h=>?_⟩
     . rw[aE,mq hu,zM0]
     . rw[am hb];exact S3 _ _ (S2 _ _ hb h)
   . rintro σ H2 ⟨x2,rfl,hl,S2⟩;rw[xl,qO0,←t.names_parts nis]at hl;refine ?_;refine q L H2 hL (fun b o h=>?_) hl;exact S2 b o (aO h hL) (S1 _ _ (G0 _ _ h))
theorem ut {f:Addr} {fd:FuncData}:FnOk P w K mg base CX0 2 f fd ["tree"] (eW 0):=by
 have no:∀vs H Q E,¬ eW 0 vs H Q E:=fun vs H Q E h=>by
  obtain⟨v,t,_,_,_,h1,_⟩:=h
  have:=t.depth_pos
  omega
 exact⟨fun vs H Q E h=>absurd h (no vs H Q E),fun A outer s H args us vs Q E _ _ _ _ h=>absurd h (no vs H Q E)⟩
theorem mi {f:Addr} {fd:FuncData} (F:Fun K "names_in" "names_in" dI f fd) (m:mg "names_in"=some (.ref f)) (cI:Cal P w K mg base 1 "trees_within" ["tree"] nE) :
 ∀n:Nat,FnOk P w K mg base CX0 (n+2) f fd ["tree"] (eW n)
 | 0=>ut
 | n+1=>uu F cI (Cal.of F (mi F m cI n) m (fun _ _ _ _ _ _ us hl=>by obtain⟨u0,rfl⟩:=jX hl;rfl))
def vv:Sp:=fun vs H Q _=>∃n:Int,vs=[.int n]/\n<=999999/\∀b:Bool,(b=true↔2<n/\Pr n)->Q (.bl b) H
theorem jj:FnScope ["number","divisor"] ["number"] (ae fk):=⟨rfl,rfl,rfl,by decide +kernel,rfl,by decide +kernel,by decide +kernel⟩
theorem rT {f:Addr} {fd:FuncData} (F:Fun K "is_field" "is_field" fk f fd):FnOk P w K mg base CX0 1 f fd ["number"] vv:=by
 refine F.ok jj (fun vs H Q E h=>?_) (fun cdv A outer s H vs Q E hr h=>?_)
 . obtain⟨n,rfl,_⟩:=h;rfl
 obtain ⟨n,rfl,n9,q⟩:=h;refine⟨_,(ac (aH (PW.pt (gs (ah cU (pv 0) aa (aj _)) (fw (ah aM (ag aN (pv 0) aa) aa (aj _))))) (ad (ao hU)) ax)
  (ac (ak (i:=1) jj.nd rfl (Or.inl rfl) aa)
  (ac (ju PassesOwn.never (ah vH (ag aW (pv 1) (pv 1)) (pv 0) (aj _)) (ac (aH (ah aM (ag aN (pv 0) (pv 1)) aa (aj _)) (ad (ao hU)) ax)
   (ad (ak (i:=1) jj.nd rfl (Or.inl rfl) (ag aR (pv 1) aa)))))
  (ad (ao hU))))),?_⟩
 refine ?_
 by_cases c:n<3
 . refine bn c ?_;refine jY ?_;exact q false ⟨fun z=>(nomatch z),fun z=>by omega⟩
 refine aI c ?_;refine⟨(by show(0:Int)<_;decide),rfl,?_⟩
 by_cases c2:n % 2=0
 . refine bn (congrArg V.int c2) ?_;exact q false ⟨fun z=>(nomatch z),fun z=>absurd z.2 (xu c2 (by omega))⟩
 refine aI (fun z=>c2 (V.int.inj z)) ?_;refine⟨fun m σ H'=>∃d:Int,σ=[some (.int n),some (.int d)]/\H'=H/\3<=d/\d<=1001/\d % 2=1/\sV n d/\m=(n+3-d).toNat,⟨_,3,rfl,rfl,by omega,by omega,by omega,wR n,rfl⟩,?_⟩;rintro m σ H' ⟨d,rfl,rfl,d3,d9,d2,u,rfl⟩;refine⟨.inl ⟨by omega,by omega⟩,?_⟩
 by_cases c3:d*d<=n
 . refine bn c3 ?_;have r1:=tP n9 d3 c3;have r2:=AQ d3 c3;refine⟨_,fun _ _ h=>h,?_⟩;refine⟨(show 0<d by omega),rfl,?_⟩
   by_cases c4:n % d=0
   . refine bn (congrArg V.int c4) ?_;exact q false ⟨fun z=>(nomatch z),fun z=>absurd z.2 (xt n9 d3 c3 c4)⟩
   refine aI (fun z=>c4 (V.int.inj z)) ?_;refine ?_;exact⟨_,by omega,d+2,rfl,rfl,by omega,by omega,by omega,zw u d2 c4,rfl⟩
 . refine aI c3 ?_;exact q true ⟨fun _=>⟨by omega,xr (by omega) c2 d3 u (by omega)⟩,fun _=>rfl⟩
abbrev jN:Stmt:=dE tV 0
abbrev lJ:Stmt:=dE tV 1
abbrev iB:Stmt:=dE tV 2
def gf (a b:Addr) (p:Int) (d:Addr):List (Str×V):=cr "degrees" (.ref d) (cr "field" (.int p) (cr "trees" (.ref b) (cr "switches" (.ref a) [])))
theorem sC (a b:Addr) (p:Int) (d:Addr):(gf a b p d).lookup ("switches":Str)=some (.ref a):=by
 unfold gf;rw[aS,zF0 (by decide +kernel),aS,zF0 (by decide +kernel),aS,zF0 (by decide +kernel),aS,zI0 rfl]
theorem sB (a b:Addr) (p:Int) (d:Addr):(gf a b p d).lookup ("trees":Str)=some (.ref b):=by
 unfold gf;rw[aS,zF0 (by decide +kernel),aS,zF0 (by decide +kernel),aS,zI0 rfl]
theorem lh (a b:Addr) (p:Int) (d:Addr):(gf a b p d).lookup ("field":Str)=some (.int p):=by
 unfold gf;rw[aS,zF0 (by decide +kernel),aS,zI0 rfl]
theorem Ch (a b:Addr) (p:Int) (d:Addr):(gf a b p d).lookup ("degrees":Str)=some (.ref d):=by
 unfold gf;rw[aS,zI0 rfl]
theorem zV (a b:Addr) (p:Int) (d:Addr) {m:Str} (h1:¬ m="degrees") (h2:¬ m="field") (h3:¬ m="trees") (h4:¬ m="switches"):(gf a b p d).lookup m=none:=by
 unfold gf;rw[aS,zF0 h1,aS,zF0 h2,aS,zF0 h3,aS,zF0 h4]
 all_goals rfl
structure GTxt(K:W.Frag)(mg:Str->Option Value)(C:Addr):Prop where
 cl:Cls K C
 nS:NoAttr K C "switches"
 nT:NoAttr K C "trees"
 nF:NoAttr K C "field"
 nD:NoAttr K C "degrees"
 mgC:mg "Game"=some (.ref C)
theorem sT(g:Nat->Int):∀n,∃k,k<=n/\dq g n=g k
 | 0=>⟨0,zJ0 _,rfl⟩
 | n+1=>by
   obtain⟨k,hk,e⟩:=sT g n;unfold dq
   split
   . exact⟨n+1,zJ0 _,rfl⟩
   . exact⟨k,by omega,e⟩
theorem jw{ns:List Int}(h:ns≠[]):wX ns 0∈ns:=by
 cases ns with
 | nil=>exact absurd rfl h
 | cons a r=>
   obtain ⟨k,hk,e⟩:=sT (fun i=>(a::r)[i]?.getD 0) ((a::r).length-1);have e1:wX (a::r) 0=dq (fun i=>(a::r)[i]?.getD 0) ((a::r).length-1):=rfl;have hl:k<(a::r).length:=by
    rw[qF0]at hk ⊢;omega
   rw[e1,e];show(a::r)[k]?.getD 0∈a::r;rw[zU0 hl];exact qY0 hl
def aZ(ts:List Tr)(x:Str):Int:=wX (ts.map fun t=>(t.names.count x:Int)) 0
theorem oJ{ts:List Tr}{x:Str}{p:Int}(h0:ts≠[])(h:∀t∈ts,(t.names.count x:Int)<p):aZ ts x<p:=by
 have:=jw (ns:=ts.map fun t=>(t.names.count x:Int)) (by simpa using h0)
 obtain⟨t,ht,e⟩:=List.mem_map.mp this;unfold aZ;rw[←e];exact h t ht
def BR:Sp:=fun vs H Q _=>∃(x:Str)(b:Addr)(tv:List V)(ts:List Tr),vs=[.str x,.ref b]/\H b=some (.tup tv)/\TreesAt H tv ts/\ts≠[]/\ts.length<=10/\(∀t∈ts,t.wf/\t.depth<=10/\t.size<=400)/\∀H',Same H H'->Q (.int (aZ ts x)) H'
theorem qg:FnScope ["name","trees"] ["name","trees"] (ae dQ):=⟨rfl,rfl,rfl,by decide +kernel,rfl,by decide +kernel,by decide +kernel⟩
theorem qz {f:Addr} {fd:FuncData} (F:Fun K "degree_of" "degree_of" dQ f fd) (hmax:mg "max"=none) (cT:Cal P w K mg base 12 "names_in" ["tree"] (eW 10)):FnOk P w K mg base CX0 13 f fd ["name","trees"] BR:=by
 refine F.ok qg (fun vs H Q E h=>?_) (fun cdv A outer s H vs Q E hr h=>?_)
 . obtain⟨x,b,tv,ts,rfl,_⟩:=h;rfl
 obtain ⟨x,b,tv,ts,rfl,hb,TS,t0,tl,tok,q⟩:=h;refine⟨_,(ad (ao (aD (lU rfl) rfl hmax PyProof.Rows.boot_max (af (bX (N:=["name"]) (ix:=[0]) rfl
  (CompScope.one (by with_unfolding_all rfl) (by decide) rfl (by decide) rfl (by decide +kernel) (by with_unfolding_all rfl) (by with_unfolding_all rfl) (by with_unfolding_all rfl) rfl rfl) rfl
  (iT (pv 1)) (fun _ _ _=>bQ (yX K PySem.F.plainAttrs_list PySem.F.slot_list_count PySem.F.type_list_count (pG K) (ai cT hr (by decide) rfl (af (pv 0) aJ)) (af (pv 1) aJ)))) aJ)))),?_⟩
 have vl:=TS.length;refine⟨b,rfl,⟨_,zD0 hb⟩,fun D hD=>?_⟩;refine iH (K:=K) (xs:=tv) (fun i H'=>H' D=some (.lst (((ts.take i).map fun t=>(t.names.count x:Int)).map V.int))/\Same H H') ⟨by rw[aE];rfl,zE0 hD _⟩ (fun i H' _ h=>zD0 (h.2 _ _ hb)) ?_ ?_
 . rintro i z H2 hz ⟨hl,S2⟩;obtain⟨t,ht,T⟩:=TS.get hz;obtain⟨tw,td,tz⟩:=tok t (qJ0 ht);have hi:i<tv.length:=(zT0 hz).1;refine⟨z,t,rfl,T.mono (aX S2),tw,by omega,tz,fun l H3 l0 S3 hl3=>?_⟩;refine⟨.inl ⟨rfl,_,zG0 hl3⟩,l,_,_,rfl,rfl,zG0 hl3,fG _,rfl,?_⟩;rw[kq];refine⟨_,S3 _ _ hl,?_,Nx.of hi ⟨?_,fun b' o' e'=>?_⟩⟩
   . rw[zH0,zH0,qL0];exact aG (by omega)
   . rw[aE,qK0,ht,zM0,zM0];rfl
   . rw[am (aO e' hD)];exact S3 _ _ (S2 _ _ e')
 . rintro H2 ⟨hl,S2⟩;rw[vl,qO0]at hl;exact⟨D,_,rfl,zG0 hl,by simpa using t0,q H2 S2⟩
def vn:Sp:=fun vs H Q _=>∃(a:Addr)(ns:List Str),vs=[.ref a]/\H a=some (.tup (ns.map V.str))/\ns.Nodup/\ns.length<=10/\∀H',Same H H'->Q .non H'
theorem vL(x:Str)(ns:List Str):inV (.str x) (ns.map V.str)=decide (x∈ns):=by
 unfold inV
 induction ns with
 | nil=>rfl
 | cons a r ih=>
   rw [qG0,List.any_cons,ih];have e:eqV (.str a) (.str x)=decide (x=a):=by
    show(a==x)=_
    by_cases c:x=a
    . subst c;simp
    . rw[decide_eq_false c];simpa using fun h=>c h.symm
   rw[e]
   by_cases c1:x=a <;> by_cases c2:x∈r <;> simp [c1,c2]
theorem eZ:FnScope ["switches","place","name"] ["switches"] (ae cc):=⟨rfl,rfl,rfl,by decide +kernel,rfl,by decide +kernel,by decide +kernel⟩
theorem lO {f:Addr} {fd:FuncData} (F:Fun K "look_switches" "look_switches" cc f fd) (henum:mg "enumerate"=none):FnOk P w K mg base CX0 1 f fd ["switches"] vn:=by
 refine F.ok eZ (fun vs H Q E h=>?_) (fun cdv A outer s H vs Q E hr h=>?_)
 . obtain⟨a,ns,rfl,_⟩:=h;rfl
 obtain ⟨a,ns,rfl,ha,nd,nl,q⟩:=h;refine⟨_,(ad (bY PassesOwn.never rfl (yP rfl henum (pv 0)) (qm rfl (eg (ba (i:=1) eZ.nd rfl (Or.inl rfl)) (eg (ba (i:=2) eZ.nd rfl (Or.inl rfl)) mV)))
  (ad (aH (ah jU (pv 2) (iD tQ (pv 0) kP (iQ (pv 1))) (by with_unfolding_all rfl)) jR ax)))),?_⟩
 refine⟨a,rfl,⟨_,zD0 ha⟩,xq (K:=K) (xs:=ns.map V.str) (fun i σ H'=>∃x1 x2:Option V,σ=[some (.ref a),x1,x2]/\Same H H') ⟨_,_,rfl,Same.refl _⟩ (fun i σ H' _ hst=>by obtain⟨_,_,_,h⟩:=hst;exact zD0 (h _ _ ha)) ?_ ?_⟩
 . rintro i z σ H1 t hz ⟨x1,x2,rfl,S1⟩ ht;have hi:i<(ns.map V.str).length:=(zT0 hz).1;rw[zV0]at hz;obtain⟨x,hx,rfl⟩:=qM0 hz;have G:=zE0 ht (.tup [.int (i:Int),.str x]);have S2:=S1.trans G;have hi':i<ns.length:=by rw[zH0]at hi;exact hi
   refine⟨t,_,rfl,zD0 aE,rfl,_,_,rfl,_,_,rfl,rfl,?_⟩;refine⟨(i:Int),rfl,a,_,rfl,zD0 (S2 _ _ ha),?_,fun c hc=>?_⟩
   . rintro⟨_,h⟩;rw[HT.sIx_nat]at h;omega
   . refine ⟨c,_,rfl,.inr (zD0 aE),rfl,?_,?_⟩
     . have ec:lj (ns.map V.str) none (some (i:Int))=(ns.take i).map V.str:=by
        unfold lj;rw[HT.sIx_none,HT.sIx_nat,List.drop_zero,Nat.sub_zero,List.map_take]
        congr 1
        omega
       rw[ec];exact fG _
     . have ec:lj (ns.map V.str) none (some (i:Int))=(ns.take i).map V.str:=by
        unfold lj;rw[HT.sIx_none,HT.sIx_nat,List.drop_zero,Nat.sub_zero,List.map_take]
        congr 1
        omega
       show if inV (.str x) (lj (ns.map V.str) none (some (i:Int)))=true then _ else _
       rw[ec,vL,decide_eq_false ?_]
       . refine gu ?_;exact⟨_,_,rfl,S2.trans (zE0 hc _)⟩
       . intro hm;obtain⟨j,hj,e⟩:=List.getElem_of_mem hm;rw[qL0]at hj;rw[List.getElem_take]at e;have ex:ns[i]=x:=by
          rw[zU0 hi']at hx;exact zS0 hx
         exact List.pairwise_iff_getElem.mp nd j i (by omega) hi' (by omega) (e.trans ex.symm)
 . rintro σ H1 ⟨x1,x2,rfl,S1⟩;exact q H1 S1
theorem kZ{ns:List Str}:∀t:Tr,t.ok ns->∀x∈t.names,x∈ns
 | .is y,h,x,hx=>by rw[zP0 hx];exact h
 | .yes,_,x,hx=>by cases hx
 | .no,_,x,hx=>by cases hx
 | .not a,h,x,hx=>kZ a h x hx
 | .bin _ a b,⟨_,h1,h2⟩,x,hx=>by
   rcases qD0 hx with h | h
   . exact kZ a h1 x h
   . exact kZ b h2 x h
def vo:Sp:=fun vs H Q _=>∃(a b:Addr)(ns:List Str)(tv:List V)(ts:List Tr),vs=[.ref b,.ref a]/\H a=some (.tup (ns.map V.str))/\H b=some (.tup tv)/\TreesAt H tv ts/\(∀t∈ts,t.ok ns/\t.wf/\t.depth<=10/\t.size<=400)/\∀H',Same H H'->Q .non H'
theorem ik:FnScope ["trees","switches","tree","name"] ["trees","switches"] (ae cZ):=⟨rfl,rfl,rfl,by decide +kernel,rfl,by decide +kernel,by decide +kernel⟩
theorem oV {f:Addr} {fd:FuncData} (F:Fun K "look_names" "look_names" cZ f fd) (cT:Cal P w K mg base 12 "names_in" ["tree"] (eW 10)):FnOk P w K mg base CX0 13 f fd ["trees","switches"] vo:=by
 refine F.ok ik (fun vs H Q E h=>?_) (fun cdv A outer s H vs Q E hr h=>?_)
 . obtain⟨a,b,ns,tv,ts,rfl,_⟩:=h;rfl
 obtain ⟨a,b,ns,tv,ts,rfl,ha,hb,TS,tok,q⟩:=h;refine⟨_,(ad (bY PassesOwn.never rfl (iT (pv 0)) (ba (i:=2) ik.nd rfl (Or.inl rfl))
  (ad (bY PassesOwn.never rfl (bV (ai cT hr (by decide) rfl (af (pv 2) aJ))) (ba (i:=3) ik.nd rfl (Or.inl rfl))
   (ad (aH (ah qr (pv 3) (pv 1) (by with_unfolding_all rfl)) jR ax)))))),?_⟩
 refine⟨b,rfl,⟨_,zD0 hb⟩,qG (K:=K) (xs:=tv) (fun i σ H'=>∃x2 x3:Option V,σ=[some (.ref b),some (.ref a),x2,x3]/\Same H H') ⟨_,_,rfl,Same.refl _⟩ (fun i σ H' _ hst=>by obtain⟨_,_,_,h⟩:=hst;exact zD0 (h _ _ hb)) ?_ ?_⟩
 . rintro i z σ H1 hz ⟨x2,x3,rfl,S1⟩;obtain⟨t,ht,T⟩:=TS.get hz;obtain⟨tk,tw,td,tz⟩:=tok t (qJ0 ht);refine⟨z,t,rfl,T.mono (aX S1),tw,by omega,tz,fun l H2 l0 S2 hl=>?_⟩;have S12:=S1.trans S2;refine⟨l,rfl,⟨_,zG0 hl⟩,iF (K:=K) (xs:=t.names.map V.str) (fun j σ H'=>∃x3:Option V,σ=[some (.ref b),some (.ref a),some z,x3]/\H'=H2) ⟨_,rfl,rfl⟩ (fun j σ H' _ hst=>by obtain⟨_,_,h⟩:=hst;subst h;exact zG0 hl) ?_ ?_⟩
   . rintro j y σ H3 hy ⟨y3,rfl,rfl⟩;rw[zV0]at hy;obtain⟨x,hx,rfl⟩:=qM0 hy;refine⟨a,_,rfl,.inr (zD0 (S12 _ _ ha)),rfl,fG _,?_⟩;show if(!inV (.str x) (ns.map V.str))=true then _ else _
     rw[vL,decide_eq_true (kZ t tk x (qJ0 hx))];refine gu ?_;exact⟨_,rfl,rfl⟩
   . rintro σ H3 ⟨y3,rfl,rfl⟩;exact⟨_,_,rfl,S12⟩
 . rintro σ H1 ⟨x2,x3,rfl,S1⟩;exact q H1 S1
def vp:Sp:=fun vs H Q _=>∃p:Int,vs=[.int p]/\Pr p/\2<p/\p<=999983/\Q .non H
theorem oT:FnScope ["field"] ["field"] (ae da):=⟨rfl,rfl,rfl,by decide +kernel,rfl,by decide +kernel,by decide +kernel⟩
theorem oW {f:Addr} {fd:FuncData} (F:Fun K "look_field" "look_field" da f fd) (hend:∃t,mg "FIELDS_END"=some (.int 1000000 t)) (kM:Cal P w K mg base 1 "is_field" ["number"] vv):FnOk P w K mg base CX0 2 f fd ["field"] vp:=by
 refine F.ok oT (fun vs H Q E h=>?_) (fun cdv A outer s H vs Q E hr h=>?_)
 . obtain⟨p,rfl,_⟩:=h;rfl
 obtain⟨p,rfl,pp,p2,p9,q⟩:=h;obtain⟨te,ge⟩:=hend;refine⟨_,(ad (aH (PW.pt (gs (ah zh (pv 0) (vG (v:=.int 1000000) rfl ge ⟨_,rfl⟩) (aj _)) (fw (jt (iP (ai kM hr (by decide) rfl (af (pv 0) aJ))))))) jR ax)),?_⟩;refine ?_;refine aI (by omega) ?_;refine⟨p,rfl,by omega,fun b hb=>?_⟩;rw[hb.mpr ⟨p2,pp⟩];exact q
def vk:Sp:=fun vs H Q _=>∃(p:Int)(d:Addr)(ns:List Int),vs=[.int p,.ref d]/\H d=some (.lst (ns.map V.int))/\ns≠[]/\(∀n∈ns,n<p)/\Q .non H
theorem nU:FnScope ["field","degrees","greatest"] ["field","degrees"] (ae dL):=⟨rfl,rfl,rfl,by decide +kernel,rfl,by decide +kernel,by decide +kernel⟩
theorem qv {f:Addr} {fd:FuncData} (F:Fun K "look_size" "look_size" dL f fd) (hmax:mg "max"=none):FnOk P w K mg base CX0 1 f fd ["field","degrees"] vk:=by
 refine F.ok nU (fun vs H Q E h=>?_) (fun cdv A outer s H vs Q E hr h=>?_)
 . obtain⟨p,d,ns,rfl,_⟩:=h;rfl
 obtain ⟨p,d,ns,rfl,hd,n0,nl,q⟩:=h;refine⟨_,(ac (ak (i:=2) nU.nd rfl (Or.inl rfl) (aD (lU rfl) rfl hmax PyProof.Rows.boot_max (af (pv 1) aJ)))
  (ad (aH (ah vH (pv 0) (pv 2) (aj _)) jR ax))),?_⟩
 refine⟨d,ns,rfl,zG0 hd,n0,?_⟩;refine ?_
 have:=nl _ (jw n0)
 exact aI (by omega) q
theorem gR(f:Str)(v:V):∀fs:List (Str×V),(cr f v fs).length<=fs.length+1
 | []=>zJ0 _
 | (g,u)::r=>by
   have:=gR f v r
   unfold cr
   split
   . simp
   . simp only[qF0];omega
def gf3 (a b:Addr) (p:Int):List (Str×V):=cr "field" (.int p) (cr "trees" (.ref b) (cr "switches" (.ref a) []))
theorem DB (a b:Addr) (p:Int):(gf3 a b p).lookup ("switches":Str)=some (.ref a):=by
 unfold gf3;rw[aS,zF0 (by decide +kernel),aS,zF0 (by decide +kernel),aS,zI0 rfl]
theorem DA (a b:Addr) (p:Int):(gf3 a b p).lookup ("trees":Str)=some (.ref b):=by
 unfold gf3;rw[aS,zF0 (by decide +kernel),aS,zI0 rfl]
def GameAt(C:Addr)(H:Hp)(g a b d:Addr)(p:Int):Prop:=∃dx,H g=some (.ins C dx (gf a b p d))
theorem GameAt.same{C:Addr}{H H':Hp}{g a b d:Addr}{p:Int}(h:GameAt C H g a b d p)(s:Same H H'):GameAt C H' g a b d p:=by
 obtain⟨dx,e⟩:=h;exact⟨dx,s _ _ e⟩
def vt(C:Addr):Sp:=fun vs H Q _=>∃(g dx a b:Addr)(ns:List Str)(tv:List V)(ts:List Tr)(p:Int),vs=[.ref g,.ref a,.ref b,.int p]/\H g=some (.ins C dx [])/\H a=some (.tup (ns.map V.str))/\ns.Nodup/\ns.length<=10/\H b=some (.tup tv)/\TreesAt H tv ts/\1<=ts.length/\ts.length<=10/\
 (∀t∈ts,t.ok ns/\t.wf/\t.depth<=10/\t.size<=400)/\Pr p/\2<p/\p<=999983/\(ts.length:Int)<=p/\(∀t∈ts,∀x∈ns,(t.names.count x:Int)<p)/\
 ∀(d:Addr)(H':Hp),H d=none->GameAt C H' g a b d p->H' d=some (.lst ((ns.map (aZ ts)).map V.int))->SameBut g H H'->Q .non H'
theorem yC:FnScope ["self","switches","trees","field"] ["self","switches","trees","field"] (ae jN):=⟨rfl,rfl,rfl,by decide +kernel,rfl,by decide +kernel,by decide +kernel⟩
theorem zr {f C:Addr} {fd:FuncData} (F:Fun K "__init__" "Game.__init__" jN f fd) (T:GTxt K mg C) (htuple:mg "tuple"=none) (hlen:mg "len"=none) (jk:Cal P w K mg base 13 "degree_of" ["name","trees"] BR) (fY:Cal P w K mg base 1 "look_switches" ["switches"] vn)
 (iJ:Cal P w K mg base 13 "look_names" ["trees","switches"] vo) (iM:Cal P w K mg base 2 "look_field" ["field"] vp) (jm:Cal P w K mg base 1 "look_size" ["field","degrees"] vk):FnOk P w K mg base CX0 14 f fd ["self","switches","trees","field"] (vt C):=by
 refine F.ok yC (fun vs H Q E h=>?_) (fun cdv A outer s H vs Q E hr h=>?_)
 . obtain⟨g,dx,a,b,ns,tv,ts,p,rfl,_⟩:=h;rfl
 obtain ⟨g,dx,a,b,ns,tv,ts,p,rfl,hg,ha,nd,nl,hb,TS,t1,t10,tok,pp,p2,p9,tp,tc,q⟩:=h;refine⟨_,(ac (cN (pv 0) (bh bH rfl htuple cg (af (pv 1) aJ)) rfl)
  (ac (cN (pv 0) (bh bH rfl htuple cg (af (pv 2) aJ)) rfl)
  (ac (cN (pv 0) (pv 3) rfl)
  (ac (cN (pv 0) (bX (N:=["self"]) (ix:=[0]) rfl
   (CompScope.one (by with_unfolding_all rfl) (by decide) rfl (by decide) rfl (by decide +kernel) (by with_unfolding_all rfl) (by with_unfolding_all rfl) (by with_unfolding_all rfl) rfl rfl) rfl
   (iT (aP (pv 0) rfl)) (fun _ _ _=>bQ (ai jk hr (by decide) rfl (af (pv 0) (af (mY K (pv 1)) aJ))))) rfl)
  (ac (bG (ai fY hr (by decide) rfl (af (aP (pv 0) rfl) aJ)))
  (ac (bG (ai iJ hr (by decide) rfl (af (aP (pv 0) rfl) (af (aP (pv 0) rfl) aJ))))
  (ac (bG (ai iM hr (by decide) rfl (af (pv 3) aJ)))
  (ad (bG (ai jm hr (by decide) rfl (af (pv 3) (af (ag fF (aP (pv 0) rfl) (bU (af (ag aQ (aD az rfl hlen PySem.boot_len (af (aP (pv 0) rfl) aJ)) aa) aJ))) aJ)))))))))))),?_⟩
 have nag:a≠g:=be ha hg (by intro z;cases z);have nbg:b≠g:=be hb hg (by intro z;cases z);have vl:=TS.length;refine⟨a,_,rfl,.inr ⟨zD0 ha,g,C,dx,[],rfl,hg,T.cl,T.nS,(by show 0<1000;decide),?_⟩⟩;refine⟨b,_,rfl,.inr ⟨zD0 (by rw[am nbg];exact hb),g,C,dx,_,rfl,aE,T.cl,T.nT,(Nat.lt_of_le_of_lt (gR _ _ _) (by show 1<1000;decide)),?_⟩⟩;refine⟨g,C,dx,_,rfl,aE,T.cl,T.nF,(Nat.lt_of_le_of_lt (gR _ _ _) (Nat.lt_of_le_of_lt (Nat.succ_le_succ (gR _ _ _)) (by show 2<1000;decide))),?_⟩;have S3:SameBut g H (upd (upd (upd H g (.ins C dx (cr "switches" (.ref a) []))) g (.ins C dx (cr "trees" (.ref b) (cr "switches" (.ref a) [])))) g (.ins C dx (cr "field" (.int p) (cr "trees" (.ref b) (cr "switches" (.ref a) []))))):=
  (SameBut.upd _).trans ((SameBut.upd _).trans (SameBut.upd _))
 have hg3:upd (upd (upd H g (.ins C dx (cr "switches" (.ref a) []))) g (.ins C dx (cr "trees" (.ref b) (cr "switches" (.ref a) [])))) g (.ins C dx (cr "field" (.int p) (cr "trees" (.ref b) (cr "switches" (.ref a) [])))) g=some (.ins C dx (gf3 a b p)):=aE;generalize upd (upd (upd H g (.ins C dx (cr "switches" (.ref a) []))) g (.ins C dx (cr "trees" (.ref b) (cr "switches" (.ref a) [])))) g (.ins C dx (cr "field" (.int p) (cr "trees" (.ref b) (cr "switches" (.ref a) []))))=H3 at S3 hg3;have kT:bu H H3:=fun c xs h=>S3 c _ (be h hg (by intro z;cases z)) h
 have ha3:=kT _ _ ha;have hb3:=kT _ _ hb;have TS3:=TS.mono kT;refine⟨C,dx,_,_,hg3,T.cl,T.nS,DB ..,a,rfl,⟨_,zD0 ha3⟩,fun D hD=>?_⟩;have D0:H D=none:=by
  cases e:H D with
  | none=>rfl
  | some o=>
    by_cases c:D=g
    . rw[c,hg3]at hD;cases hD
    . rw[S3 D o c e]at hD;cases hD
 refine iH (K:=K) (xs:=ns.map V.str) (fun i H'=>H' D=some (.lst (((ns.take i).map (aZ ts)).map V.int))/\Same H3 H') ⟨by rw[aE];rfl,zE0 hD _⟩ (fun i H' _ h=>zD0 (h.2 _ _ ha3)) ?_ ?_
 . rintro i z H4 hz ⟨hl,S4⟩;have hi:i<(ns.map V.str).length:=(zT0 hz).1;rw[zV0]at hz;obtain⟨x,hx,rfl⟩:=qM0 hz;refine⟨C,dx,_,_,S4 _ _ hg3,T.cl,T.nT,DA ..,x,b,tv,ts,rfl,S4 _ _ hb3,TS3.mono (aX S4),?_,t10,fun t ht=>(tok t ht).2,fun H5 S5=>?_⟩
   . intro e;rw[e]at t1;exact absurd t1 (by decide)
   refine⟨_,S5 _ _ hl,?_,Nx.of hi ⟨?_,fun b' o' e'=>?_⟩⟩
   . rw[zH0,zH0,qL0];exact aG (by omega)
   . rw[aE,qK0,hx,zM0,zM0];rfl
   . rw[am (aO e' hD)];exact S5 _ _ (S4 _ _ e')
 rintro H4 ⟨hl,S4⟩;rw[zH0,qO0]at hl;refine⟨g,C,dx,_,rfl,S4 _ _ hg3,T.cl,T.nD,?_,?_⟩
 . exact Nat.lt_of_le_of_lt (qB0 (gR _ _ _) (Nat.succ_le_succ (qB0 (gR _ _ _) (Nat.succ_le_succ (gR _ _ _))))) (by show 3<1000;decide)
 have nDg:D≠g:=fun z=>by rw[z,hg3]at hD;cases hD
 have hg5:upd H4 g (.ins C dx (gf a b p D)) g=some (.ins C dx (gf a b p D)):=aE;have S5:SameBut g H (upd H4 g (.ins C dx (gf a b p D))):=S3.trans ((zL0 S4).trans (SameBut.upd _));have hD5:upd H4 g (.ins C dx (gf a b p D)) D=some (.lst ((ns.map (aZ ts)).map V.int)):=by rw[am nDg];exact hl
 show _;generalize he5:upd H4 g (.ins C dx (gf a b p D))=H5 at hg5 S5 hD5;have kT5:bu H H5:=fun c xs h=>S5 c _ (be h hg (by intro z;cases z)) h
 rw[show upd H4 g (.ins C dx (cr "degrees" (.ref D) (gf3 a b p)))=H5 from he5];refine⟨C,dx,_,_,hg5,T.cl,T.nS,sC ..,a,ns,rfl,kT5 _ _ ha,nd,nl,fun H6 S6=>?_⟩;have kT6:bu H H6:=fun c xs h=>S6 _ _ (kT5 c xs h)
 refine⟨C,dx,_,_,S6 _ _ hg5,T.cl,T.nT,sB ..,C,dx,_,_,S6 _ _ hg5,T.cl,T.nS,sC ..,a,b,ns,tv,ts,rfl,kT6 _ _ ha,kT6 _ _ hb,TS.mono kT6,tok,fun H7 S7=>?_⟩;have S57:=S6.trans S7;refine⟨p,rfl,pp,p2,p9,?_⟩;refine⟨C,dx,_,_,S57 _ _ hg5,T.cl,T.nD,Ch ..,C,dx,_,_,S57 _ _ hg5,T.cl,T.nT,sB ..,b,_,rfl,.inr (zD0 (S57 _ _ (kT5 _ _ hb))),(by show 1<=sizeLine;decide),fun l hl2=>?_⟩;have Gl:=zE0 hl2 (.lst [.int ((tv.length:Int)-1)]);refine⟨D,l,_,_,rfl,rfl,Gl _ _ (S57 _ _ hD5),aE,?_,fun r hr0=>?_⟩
 . rw[zH0,zH0];exact cu (by simp;omega)
 have Gr:=zE0 hr0 (.lst ((ns.map (aZ ts)).map V.int++[.int ((tv.length:Int)-1)]));refine⟨p,r,ns.map (aZ ts)++[(tv.length:Int)-1],rfl,?_,by simp,fun n hn=>?_,?_⟩
 . rw[aE,zM0];rfl
 . rcases qD0 hn with h | h
   . obtain ⟨x,hx,rfl⟩:=List.mem_map.mp h;refine oJ ?_ fun t ht=>tc t ht x hx
     intro e;rw[e]at t1;exact absurd t1 (by decide)
   . rw[zP0 h];omega
 . have S59:=S57.trans (Gl.trans Gr);exact q D _ D0 ⟨dx,S59 _ _ hg5⟩ (S59 _ _ hD5) (S5.trans (zL0 S59))
end
section
variable {P:Program} {w:World} {K:W.Frag} {mg:Str->Option Value} {base:Heap}
def yj:Sp:=fun vs H Q _=>∃a p:Int,vs=[.int a,.int p]/\Pr p/\p<=999983/\0<a/\a<p/\∀g:Int,0<g->g<p->g*a % p=1->Q (.int g) H
theorem bw:FnScope ["a","p","former","former_factor","rest","factor","times","lesser","lesser_factor"] ["a","p"] (ae de):=⟨rfl,rfl,rfl,by decide +kernel,rfl,by decide +kernel,by decide +kernel⟩
theorem oY {f:Addr} {fd:FuncData} (F:Fun K "inverse_of" "inverse_of" de f fd):FnOk P w K mg base CX0 1 f fd ["a","p"] yj:=by
 refine F.ok bw (fun vs H Q E h=>?_) (fun cdv A outer s H vs Q E hr h=>?_)
 . obtain⟨a,p,rfl,_⟩:=h;rfl
 obtain ⟨a,p,rfl,pr,p1,a0,a1,q⟩:=h;have p2:2<=p:=pr.1;refine⟨_,(ac (ak (i:=2) bw.nd rfl (Or.inl rfl) (pv 1))
  (ac (ak (i:=3) bw.nd rfl (Or.inl rfl) aa)
  (ac (ak (i:=4) bw.nd rfl (Or.inl rfl) (ag aN (pv 0) (pv 1)))
  (ac (ak (i:=5) bw.nd rfl (Or.inl rfl) aa)
  (ac (ju PassesOwn.never (ah rN (pv 4) aa (aj _)) (ac (ak (i:=6) bw.nd rfl (Or.inl rfl) (ag qu (pv 2) (pv 4)))
   (ac (ak (i:=7) bw.nd rfl (Or.inl rfl) (ag aQ (pv 2) (ag aW (pv 6) (pv 4))))
   (ac (ak (i:=8) bw.nd rfl (Or.inl rfl) (ag aN (ag aQ (pv 3) (ag aW (pv 6) (pv 5))) (pv 1)))
   (ac (ak (i:=2) bw.nd rfl (Or.inl rfl) (pv 4))
   (ac (ak (i:=3) bw.nd rfl (Or.inl rfl) (pv 5))
   (ac (ak (i:=4) bw.nd rfl (Or.inl rfl) (pv 7))
   (ad (ak (i:=5) bw.nd rfl (Or.inl rfl) (pv 8))))))))))
  (ad (ao (pv 5)))))))),?_⟩
 refine ?_;refine⟨(show 0<p by omega),?_⟩;refine⟨fun m σ H'=>∃(former ff rest g:Int)(x6 x7 x8:Option V),σ=[some (.int a),some (.int p),some (.int former),some (.int ff),some (.int rest),some (.int g),x6,x7,x8]/\H'=H/\Eu a p former ff rest g/\m=rest.toNat,
  ⟨_,_,_,_,_,_,_,_,rfl,rfl,sH pr (by omega) a0 a1,rfl⟩,?_⟩
 rintro m σ H' ⟨former,ff,rest,g,x6,x7,x8,rfl,rfl,eu,rfl⟩;refine⟨rfl,?_⟩
 by_cases c:rest=1
 . refine Ce (congrArg V.int c) ?_;obtain⟨g0,g1,g2⟩:=Ac eu c (by omega);exact(q g g0 g1 g2)
 . refine Du (fun z=>c (V.int.inj z)) ?_;refine⟨_,fun _ _ h=>h,?_⟩;have r0:=eu.r0;have rp:=eu.rp;have f0:=eu.f0;have f1:=eu.f1;obtain⟨nx,lt⟩:=vQ eu c;refine⟨⟨r0,by omega⟩,?_⟩;refine⟨.inr ⟨by omega,by omega⟩,?_⟩;refine⟨.inr ⟨by omega,by omega⟩,(show 0<p by omega),?_⟩;refine ?_;exact⟨_,lt,_,_,_,_,_,_,_,rfl,rfl,nx,rfl⟩
theorem md{p x y:Int}(h:p ∣ x-y):x % p=y % p:=by
 obtain⟨k,hk⟩:=h
 have:x=y+p*k:=by omega
 rw[this,Int.add_mul_emod_self_left]
theorem dm(p x:Int):p ∣ x % p-x:=⟨-(x / p),by
 have:=Int.emod_add_mul_ediv x p
 rw[Int.mul_neg];omega⟩
def pmd(p:Int)(g:Nat->Int):Nat->Int
 | 0=>1
 | k+1=>pmd p g k*g k % p
theorem kR(p:Int)(g:Nat->Int):∀k,p ∣ pmd p g k-pr g k
 | 0=>⟨0,by simp [pmd,pr]⟩
 | k+1=>by
   obtain⟨a,ha⟩:=kR p g k;obtain⟨b,hb⟩:=dm p (pmd p g k*g k);exact⟨b+a*g k,by show pmd p g k*g k % p-pr g k*g k=_;grind⟩
theorem kQ{p:Int}(hp:1<p)(g:Nat->Int):∀k,0<=pmd p g k/\pmd p g k<p
 | 0=>⟨by show(0:Int)<=1;decide,hp⟩
 | k+1=>⟨zX0 _ (by omega),zY0 _ (by omega)⟩
def prL(p:Int)(g:Nat->Int)(n:Nat):List V:=((List.range n).map (pmd p g)).map V.int
theorem oa(p:Int)(g:Nat->Int)(n:Nat):prL p g (n+1)=prL p g n++[.int (pmd p g n)]:=by
 unfold prL;rw[List.range_succ,zM0,zM0];rfl
theorem AY(p:Int)(g:Nat->Int)(n:Nat):(prL p g n).length=n:=by
 unfold prL;rw[zH0,zH0,qW0]
theorem uA{f:Nat->Int}{n k:Nat}(h:k<n):atI (((List.range n).map f).map V.int) (k:Int)=some (.int (f k)):=by
 refine cq ?_;rw[zV0,zV0,List.getElem?_range h];rfl
theorem tY{p:Int}{g:Nat->Int}{n k:Nat}(h:k<n):atI (prL p g n) (k:Int)=some (.int (pmd p g k)):=uA h
def tL:Sp:=fun vs H Q _=>∃(a:Addr)(g:Nat->Int)(n:Nat)(p:Int),vs=[.ref a,.int p]/\H a=some (.lst (((List.range n).map g).map V.int))/\n<=500/\1<p/\p<2 ^ 40/\∀(l:Addr)(H':Hp),H l=none->Same H H'->H' l=some (.lst (prL p g (n+1)))->Q (.ref l) H'
theorem jn:FnScope ["numbers","p","told","number"] ["numbers","p"] (ae fg):=⟨rfl,rfl,rfl,by decide +kernel,rfl,by decide +kernel,by decide +kernel⟩
theorem rQ {f:Addr} {fd:FuncData} (F:Fun K "products" "products" fg f fd):FnOk P w K mg base CX0 1 f fd ["numbers","p"] tL:=by
 refine F.ok jn (fun vs H Q E h=>?_) (fun cdv A outer s H vs Q E hr h=>?_)
 . obtain⟨a,g,n,p,rfl,_⟩:=h;rfl
 obtain ⟨a,g,n,p,rfl,ha,n5,p1,p40,q⟩:=h;refine⟨_,(ac (ak (i:=2) jn.nd rfl (Or.inl rfl) (bU (af aa aJ)))
  (ac (bY PassesOwn.never rfl (bV (pv 0)) (ba (i:=3) jn.nd rfl (Or.inl rfl)) (ad (bG (dU PySem.F.plainAttrs_list PySem.F.slot_list_append PySem.F.type_list_append bi (pv 2) (af (ag aN (ag aW (av ix_list (pv 2) (rK nu aa) (fun _ _=>rfl)) (pv 3)) (pv 1)) aJ)))))
  (ad (ao (pv 2))))),?_⟩
 refine ⟨(by show 1<=sizeLine;decide),fun L hL=>?_⟩;have aL:a≠L:=aO ha hL;refine⟨a,rfl,⟨_,zG0 ((zE0 hL _) _ _ ha)⟩,iF (K:=K) (xs:=((List.range n).map g).map V.int) (fun i σ H'=>∃x3:Option V,σ=[some (.ref a),some (.int p),some (.ref L),x3]/\H' L=some (.lst (prL p g (i+1)))/\SameBut L H H')
  ⟨_,rfl,by rw[aE];rfl,SameBut.upd _⟩ (fun i σ H' _ hst=>by obtain⟨_,_,_,h⟩:=hst;exact zG0 (h _ _ aL ha)) ?_ ?_⟩
 . rintro i z σ H1 hz ⟨x3,rfl,hL1,S1⟩;have hi:=(zT0 hz).1;rw[zH0,zH0,qW0]at hi;rw[zV0,zV0,List.getElem?_range hi]at hz;obtain rfl:V.int (g i)=z:=zS0 hz;have rg:=kQ p1 g i;refine⟨.inl ⟨rfl,_,zG0 hL1⟩,?_⟩;refine⟨_,.int (pmd p g i),zG0 hL1,?_,.inl ⟨by omega,by omega⟩,(by omega),L,_,_,rfl,rfl,hL1,?_,?_⟩
   . rw[oa];exact sU _ _
   . rw[AY];exact aG (by omega)
   . refine ⟨_,rfl,?_,fun c o hc e=>?_⟩
     . rw[aE,oa p g (i+1)];rfl
     . rw[am hc];exact S1 c o hc e
 . rintro σ H1 ⟨x3,rfl,hL1,S1⟩;rw[zH0,zH0,qW0]at hL1;exact(q L H1 hL (fun b o e=>S1 b o (aO e hL) e) hL1)
theorem yN:∀n:Nat,pr (fun k=>1+(k:Int)) n=fac n
 | 0=>rfl
 | n+1=>by
   show pr (fun k=>1+(k:Int)) n*(1+(n:Int))=fac n*((n:Int)+1)
   rw[yN n,Int.add_comm]
theorem yz{p g a t s:Int}{k m:Nat}(hg:g*a % p=1)(p1:1<p)(ha:p ∣ a-fac (k+m))(ht:p ∣ t-pr (fun j=>((k+m:Nat):Int)-j) m)(hs:p ∣ s-g*t):p ∣ s*fac k-1:=by
 have f:=sF m k;obtain⟨x,hx⟩:=ha;obtain⟨y,hy⟩:=ht;obtain⟨z,hz⟩:=hs;obtain⟨e,he⟩:=dm p (g*a);rw[hg]at he;exact⟨z*fac k+g*y*fac k-g*x-e,by grind⟩
def yp:Sp:=fun vs H Q _=>∃(L:Nat)(p:Int),vs=[.int (L:Int),.int p]/\L<=500/\(L:Int)<p/\Pr p/\p<=999983/\∀(l:Addr)(H':Hp)(sh:Nat->Int),H l=none->Same H H'->(∀k,k<=L->p ∣ sh k*fac k-1)->(∀k,0<=sh k/\sh k<p)->H' l=some (.lst (((List.range (L+1)).map sh).map V.int))->Q (.ref l) H'
theorem b9:FnScope ["last","p","numbers","whole","told"] ["last","p"] (ae bq):=⟨rfl,rfl,rfl,by decide +kernel,rfl,by decide +kernel,by decide +kernel⟩
theorem jd {f:Addr} {fd:FuncData} (F:Fun K "inverse_factorials" "inverse_factorials" bq f fd) (B:Bl mg) (cY:Cal P w K mg base 1 "products" ["numbers","p"] tL) (dZ:Cal P w K mg base 1 "inverse_of" ["a","p"] yj):FnOk P w K mg base CX0 2 f fd ["last","p"] yp:=by
 refine F.ok b9 (fun vs H Q E h=>?_) (fun cdv A outer s H vs Q E hr h=>?_)
 . obtain⟨L,p,rfl,_⟩:=h;rfl
 obtain ⟨L,p,rfl,L5,Lp,pp,p9,q⟩:=h;refine⟨_,(ac (ak (i:=2) b9.nd rfl (Or.inl rfl) (ub rfl rfl B.list rfl B.range (af aa (af (ag aR (pv 0) aa) aJ))))
  (ac (ak (i:=3) b9.nd rfl (Or.inr rfl) (ai dZ hr (by decide) rfl (af (av ix_list (ai cY hr (by decide) rfl (af (pv 2) (af (pv 1) aJ))) (rK nu aa) (fun _ _=>rfl)) (af (pv 1) aJ))))
  (ac (ak (i:=4) b9.nd rfl (Or.inr rfl) (ai cY hr (by decide) rfl (af (bX (N:=["last"]) (ix:=[0]) rfl
   (CompScope.one (by with_unfolding_all rfl) (by decide) rfl (by decide) rfl (by decide +kernel) (by with_unfolding_all rfl) (by with_unfolding_all rfl) (by with_unfolding_all rfl) rfl rfl) rfl
   (bv rfl B.range (af (pv 0) aJ)) (fun _ _ _=>bQ (ag aQ (pv 1) (pv 0)))) (af (pv 1) aJ))))
  (ad (ao (bX (N:=["whole","told","p","last"]) (ix:=[3,4,1,0]) rfl
   (CompScope.four (by with_unfolding_all rfl) (by decide) rfl (by decide) rfl (by decide +kernel) rfl (by with_unfolding_all rfl) (by with_unfolding_all rfl) (by with_unfolding_all rfl) (by with_unfolding_all rfl) (by with_unfolding_all rfl) (by with_unfolding_all rfl) rfl rfl (by with_unfolding_all rfl) rfl rfl (by with_unfolding_all rfl) rfl rfl (by with_unfolding_all rfl) rfl rfl) rfl
   (bv rfl B.range (af (ag aR (pv 0) aa) aJ)) (fun _ _ _=>bQ (ag aN (ag aW (pv 1) (av (oz K) (pv 2) (ag aQ (pv 4) (pv 0)) (fun _ _=>rfl))) (pv 3))))))))),?_⟩
 have p2:=pp.1;have hP:=rJ pp (by omega);refine⟨1,_,rfl,⟨by decide,by decide,by omega,by omega⟩,by omega,fun a ha=>?_⟩;have e1:qi 1 ((L:Int)+1-1).toNat=(List.range L).map fun k:Nat=>1+(k:Int):=by
  unfold qi;rw[show((L:Int)+1-1).toNat=L by omega]
 rw [e1];have Ga:=zE0 ha (.lst (((List.range L).map fun k:Nat=>1+(k:Int)).map V.int));refine⟨a,_,L,p,rfl,aE,L5,by omega,by omega,fun l H2 l0 S2 hl2=>?_⟩;have rg:=kQ (show 1<p by omega) (fun k:Nat=>1+(k:Int)) L;have dv:=kR p (fun k:Nat=>1+(k:Int)) L;rw[yN]at dv;have ne0:pmd p (fun k:Nat=>1+(k:Int)) L≠0:=fun z=>by
  rw[z]at dv;obtain⟨m,hm⟩:=dv;exact qH hP L Lp ⟨-m,by rw[Int.mul_neg];omega⟩
 refine⟨_,.int (pmd p (fun k:Nat=>1+(k:Int)) L),zG0 hl2,by rw[oa];exact sU _ _,_,p,rfl,pp,p9,by omega,rg.2,fun g g0 g1 hg=>?_⟩;have SH2:=Ga.trans S2;refine⟨_,rfl,by omega,by omega,fun D hD=>?_⟩;refine cX (fun i H'=>H' D=some (.lst (((List.range i).map fun j:Nat=>(L:Int)-j).map V.int))/\Same H2 H') ⟨by rw[aE];rfl,zE0 hD _⟩ ?_ ?_
 . rintro i H3 hi ⟨hD3,S3⟩;refine⟨_,hD3,?_,Nx.of hi ⟨?_,fun b o e=>?_⟩⟩
   . rw[zH0,zH0,qW0];exact aG (by omega)
   . rw[aE,List.range_succ,zM0,zM0,Int.zero_add];rfl
   . rw[am (aO e hD)];exact S3 _ _ e
 rintro H3 ⟨hD3,S3⟩;rw[show((L:Int)).toNat=L from qT0 L]at hD3;refine⟨D,_,L,p,rfl,hD3,L5,by omega,by omega,fun t H4 t0 S4 ht4=>?_⟩;refine⟨_,rfl,by omega,by omega,fun D2 hD2=>?_⟩;refine cX (fun i H'=>H' D2=some (.lst (((List.range i).map fun k:Nat=>g*pmd p (fun j:Nat=>(L:Int)-j) (L-k) % p).map V.int))/\Same H4 H') ⟨by rw[aE];rfl,zE0 hD2 _⟩ ?_ ?_
 . rintro i H5 hi ⟨hD5,S5⟩;have hi':i<L+1:=by omega
   have rg2:=kQ (show 1<p by omega) (fun j:Nat=>(L:Int)-j) (L-i);have e2:(L:Int)-(0+(i:Int))=((L-i:Nat):Int):=by omega
   refine⟨_,.int (pmd p (fun j:Nat=>(L:Int)-j) (L-i)),zG0 (S5 _ _ ht4),by rw[e2];exact tY (by omega),.inl ⟨by omega,by omega⟩,(by omega),_,hD5,?_,Nx.of hi ⟨?_,fun b o e=>?_⟩⟩
   . rw[zH0,zH0,qW0];exact aG (by omega)
   . rw[aE,List.range_succ,zM0,zM0];rfl
   . rw[am (aO e hD2)];exact S5 _ _ e
 rintro H5 ⟨hD5,S5⟩;rw[show((L:Int)+1).toNat=L+1 by omega]at hD5;have S05:=SH2.trans (S3.trans (S4.trans S5));refine q D2 H5 (fun k=>g*pmd p (fun j:Nat=>(L:Int)-j) (L-k) % p) ((SH2.trans (S3.trans S4)).free hD2) S05 (fun k hk=>?_) (fun k=>⟨zX0 _ (by omega),zY0 _ (by omega)⟩) hD5;obtain⟨m,rfl⟩:∃m,L=k+m:=⟨L-k,by omega⟩
 rw[show k+m-k=m by omega];exact yz hg (by omega) dv (kR p _ m) (dm p _)
def wt(p:Int)(n i:Nat):Int:=(px (i:Int) i n % p) ^ (p-2).toNat
theorem sZ{p:Int}(hp:Pm p){n:Nat}(hn:(n:Int)<=p):Wgt p n (wt p n):=fun i hi=>by
 have h1:=CY hp hn hi;obtain⟨k,hk⟩:=dm p (px (i:Int) i n);have h2:¬ p ∣ px (i:Int) i n % p:=fun⟨m,hm⟩=>h1 ⟨m-k,by grind⟩
 obtain⟨m,hm⟩:=Aa hp h2 (zX0 _ (by have:=hp.1;omega));exact⟨m-k*(px (i:Int) i n % p) ^ (p-2).toNat,by unfold wt;grind⟩
def val(p:Int)(xs:List Int)(r:Int):Int:=lag (fun i=>xs.getD i 0) (wt p xs.length) xs.length r % p
theorem Co{p t r:Int}{xs:List Int}{u:Nat->Int}(hp:Pm p)(hn:(xs.length:Int)<=p)(hu:Wgt p xs.length u)(t0:0<=t)(t1:t<p)(h:p ∣ t-lag (fun i=>xs.getD i 0) u xs.length r):t=val p xs r:=by
 have e:p ∣ t-lag (fun i=>xs.getD i 0) (wt p xs.length) xs.length r:=by
  have:=zP hp hn (v:=fun i=>xs.getD i 0) hu (sZ hp hn) r
  have z:=Int.dvd_add h this;have e2:t-lag (fun i=>xs.getD i 0) u xs.length r+(lag (fun i=>xs.getD i 0) u xs.length r-lag (fun i=>xs.getD i 0) (wt p xs.length) xs.length r)=t-lag (fun i=>xs.getD i 0) (wt p xs.length) xs.length r:=by omega
  rw[e2]at z;exact z
 have:=md e
 rw[qV0 t0 t1]at this;exact this
theorem Cp{p:Int}{xs:List Int}{k:Nat}(hp:Pm p)(hn:(xs.length:Int)<=p)(hk:k<xs.length):val p xs k=xs.getD k 0 % p:=md (uF (sZ hp hn) hk)
theorem sgn(m:Nat):(-1:Int) ^ m=if m % 2=1 then -1 else 1:=by
 induction m with
 | zero=>rfl
 | succ m ih=>
   rw[Int.pow_succ,ih]
   by_cases c:m % 2=1
   . rw[zI0 c,zF0 (by omega)];rfl
   . rw[zF0 c,zI0 (by omega)];rfl
theorem Au{p r v t s a b c d e:Int}{i m:Nat}{x y:Int}(ht:p ∣ t-s)(ha:p ∣ a-pr (fun j=>r-j) i)(hb:p ∣ b-pr (fun j=>r-(i+m:Nat)+j) m)(hc:p ∣ c-v*a*b)(hd:p ∣ d-x*y)(he:p ∣ e-(t+(if m % 2=1 then -(c*d)else c*d))) :
 p ∣ e-(s+v*px r i (i+m+1)*((-1) ^ m*(x*y))):=by
 rw[show i+m+1=i+1+m by omega,nX,sgn];rw[vE]at hb;generalize pr (fun j=>r-j) i=A at *
 generalize pr (fun j=>r-(i+1+j:Nat)) m=B at *
 obtain⟨t',ht⟩:=ht;obtain⟨a',ha⟩:=ha;obtain⟨b',hb⟩:=hb;obtain⟨c',hc⟩:=hc;obtain⟨d',hd⟩:=hd;obtain⟨e',he⟩:=he;have e1:c*d-v*(A*B)*(x*y)=p*(c'*d+v*(a'*b+A*b')*d+v*A*B*d'):=by grind
 by_cases z:m % 2=1
 . rw [zI0 z]at *
   exact⟨e'+t'-(c'*d+v*(a'*b+A*b')*d+v*A*B*d'),by grind⟩
 . rw [zF0 z]at *
   exact⟨e'+t'+(c'*d+v*(a'*b+A*b')*d+v*A*B*d'),by grind⟩
def IntsAt(H:Hp)(a:Addr)(xs:List Int):Prop:=H a=some (.lst (xs.map V.int))∨H a=some (.tup (xs.map V.int))
theorem IntsAt.same{H H':Hp}{a:Addr}{xs:List Int}(h:IntsAt H a xs)(s:Same H H'):IntsAt H' a xs:=h.elim (fun e=>.inl (s _ _ e)) (fun e=>.inr (s _ _ e))
theorem IntsAt.seq{K:W.Frag}{H:Hp}{a:Addr}{xs:List Int}(h:IntsAt H a xs):SqL K H a (xs.map V.int)∨SqT K H a (xs.map V.int):=h.elim (fun e=>.inl (zG0 e)) (fun e=>.inr (zD0 e))
theorem IntsAt.ix{K:W.Frag}{H:Hp}{a:Addr}{xs:List Int}{k:Nat}{Q:VK}(h:IntsAt H a xs)(hk:k<xs.length)(q:Q (.int (xs.getD k 0)) H):AR K (.ref a) (.int (k:Int)) H Q∨yI K (.ref a) (.int (k:Int)) H Q:=by
 have e:atI (xs.map V.int) (k:Int)=some (.int (xs.getD k 0)):=cq (by rw[zV0,zU0 hk,qX0,zU0 hk];rfl);rcases h with h | h
 . exact .inl ⟨_,_,zG0 h,e,q⟩
 . exact .inr ⟨_,_,zD0 h,e,q⟩
def Am(xs:List Int)(p:Int):Prop:=1<=xs.length/\xs.length<=500/\(xs.length:Int)<=p/\∀k,0<=xs.getD k 0/\xs.getD k 0<2 ^ 40
def ve:Sp:=fun vs H Q _=>∃(a:Addr)(xs:List Int)(r p:Int),vs=[.ref a,.int r,.int p]/\IntsAt H a xs/\Am xs p/\Pr p/\p<=999983/\0<=r/\r<p/\∀H',Same H H'->Q (.int (val p xs r)) H'
theorem bm:FnScope ["values","r","p","last","ahead","behind","shares","total","place","share","part"] ["values","r","p"] (ae cv):=⟨rfl,rfl,rfl,by decide +kernel,rfl,by decide +kernel,by decide +kernel⟩
theorem mI {f:Addr} {fd:FuncData} (F:Fun K "value_behind" "value_behind" cv f fd) (B:Bl mg) (cY:Cal P w K mg base 1 "products" ["numbers","p"] tL) (d8:Cal P w K mg base 2 "inverse_factorials" ["last","p"] yp):FnOk P w K mg base CX0 3 f fd ["values","r","p"] ve:=by
 refine F.ok bm (fun vs H Q E h=>?_) (fun cdv A outer s H vs Q E hr h=>?_)
 . obtain⟨a,xs,r,p,rfl,_⟩:=h;rfl
 obtain ⟨a,xs,r,p,rfl,ha,⟨x1,x5,xp,xb⟩,pp,p9,r0,r1,q⟩:=h;refine⟨_,(ac (ak (i:=3) bm.nd rfl (Or.inr rfl) (ag aQ (aD az rfl B.len PySem.boot_len (af (pv 0) aJ)) aa))
  (ac (ak (i:=4) bm.nd rfl (Or.inl rfl) (ai cY hr (by decide) rfl (af (bX (N:=["r"]) (ix:=[1]) rfl
   (CompScope.one (by with_unfolding_all rfl) (by decide) rfl (by decide) rfl (by decide +kernel) (by with_unfolding_all rfl) (by with_unfolding_all rfl) (by with_unfolding_all rfl) rfl rfl) rfl
   (bv rfl B.range (af (pv 3) aJ)) (fun _ _ _=>bQ (ag aQ (pv 1) (pv 0)))) (af (pv 2) aJ))))
  (ac (ak (i:=5) bm.nd rfl (Or.inl rfl) (ai cY hr (by decide) rfl (af (bX (N:=["r","last"]) (ix:=[1,3]) rfl
   (CompScope.two (by with_unfolding_all rfl) (by decide) rfl (by decide) rfl (by decide +kernel) (by first | exact Or.inl rfl | exact Or.inr rfl) (by with_unfolding_all rfl) (by with_unfolding_all rfl) (by with_unfolding_all rfl) (by with_unfolding_all rfl) rfl rfl (by with_unfolding_all rfl) rfl rfl) rfl
   (bv rfl B.range (af (pv 3) aJ)) (fun _ _ _=>bQ (ag aR (ag aQ (pv 1) (pv 2)) (pv 0)))) (af (pv 2) aJ))))
  (ac (ak (i:=6) bm.nd rfl (Or.inl rfl) (ai d8 hr (by decide) rfl (af (pv 3) (af (pv 2) aJ))))
  (ac (ak (i:=7) bm.nd rfl (Or.inl rfl) aa)
  (ac (bY PassesOwn.never rfl (bv rfl B.range (af (ag aR (pv 3) aa) aJ)) (ba (i:=8) bm.nd rfl (Or.inl rfl)) (ac (ak (i:=9) bm.nd rfl (Or.inl rfl) (ag aN (ag aW (av ix_list (pv 6) (pv 8) (fun _ _=>rfl)) (av ix_list (pv 6) (ag aQ (pv 3) (pv 8)) (fun _ _=>rfl))) (pv 2)))
   (ac (ak (i:=10) bm.nd rfl (Or.inl rfl) (ag aW (ag aN (ag aW (ag aW (av (ix_list.or aB) (pv 0) (pv 8) (fun _ _=>rfl)) (av ix_list (pv 4) (pv 8) (fun _ _=>rfl))) (av ix_list (pv 5) (ag aQ (pv 3) (pv 8)) (fun _ _=>rfl))) (pv 2)) (pv 9)))
   (ac (aH (ah aM (ag aN (ag aQ (pv 3) (pv 8)) aa) aa (aj _)) (ad (ak (i:=10) bm.nd rfl (Or.inl rfl) (rK nu (pv 10)))) ax)
   (ad (ak (i:=7) bm.nd rfl (Or.inl rfl) (ag aN (ag aR (pv 7) (pv 10)) (pv 2))))))))
  (ad (ao (pv 7))))))))),?_⟩
 have p2:=pp.1;have p1:1<p:=by omega
 have p0:0<p:=by omega
 have hP:=rJ pp (by omega);obtain⟨L,hL⟩:∃L,xs.length=L+1:=⟨xs.length-1,by omega⟩
 have eL:(((xs.map V.int).length:Nat):Int)-1=(L:Int):=by rw[zH0];omega
 refine⟨a,_,rfl,ha.seq,?_⟩
 dsimp only [tC,rI0,isI]
 rw[eL];refine⟨(L:Int),rfl,by omega,by omega,fun D hD=>?_⟩;refine cX (fun i H'=>H' D=some (.lst (((List.range i).map fun j:Nat=>r-j).map V.int))/\Same H H') ⟨by rw[aE];rfl,zE0 hD _⟩ ?_ ?_
 . rintro i H3 hi ⟨hD3,S3⟩;refine⟨_,hD3,?_,Nx.of hi ⟨?_,fun b o e=>?_⟩⟩
   . rw[zH0,zH0,qW0];exact aG (by omega)
   . rw[aE,List.range_succ,zM0,zM0,Int.zero_add];rfl
   . rw[am (aO e hD)];exact S3 _ _ e
 rintro H1 ⟨hD1,S1⟩;rw[show((L:Int)).toNat=L from qT0 L]at hD1;refine⟨D,_,L,p,rfl,hD1,by omega,p1,by omega,fun la H2 la0 S2 hla=>?_⟩;refine⟨(L:Int),rfl,by omega,by omega,fun D2 hD2=>?_⟩;refine cX (fun i H'=>H' D2=some (.lst (((List.range i).map fun j:Nat=>r-(L:Int)+j).map V.int))/\Same H2 H') ⟨by rw[aE];rfl,zE0 hD2 _⟩ ?_ ?_
 . rintro i H3 hi ⟨hD3,S3⟩;refine⟨_,hD3,?_,Nx.of hi ⟨?_,fun b o e=>?_⟩⟩
   . rw[zH0,zH0,qW0];exact aG (by omega)
   . rw[aE,List.range_succ,zM0,zM0,Int.zero_add];rfl
   . rw[am (aO e hD2)];exact S3 _ _ e
 rintro H3 ⟨hD3,S3⟩;rw[show((L:Int)).toNat=L from qT0 L]at hD3;refine⟨D2,_,L,p,rfl,hD3,by omega,p1,by omega,fun lb H4 lb0 S4 hlb=>?_⟩;refine⟨L,p,rfl,by omega,by omega,pp,p9,fun ls H5 sh ls0 S5 hsh hsr hls=>?_⟩;have S25:=S3.trans (S4.trans S5);have S05:=S1.trans (S2.trans S25);have hla5:=S25 _ _ hla;have hlb5:=S5 _ _ hlb;have ha5:=ha.same S05;have hW:=As hsh;refine⟨_,rfl,by omega,by omega,dh (fun i σ H'=>∃(t:Int)(x8 x9 x10:Option V),σ=[some (.ref a),some (.int r),some (.int p),some (.int L),some (.ref la),some (.ref lb),some (.ref ls),some (.int t),x8,x9,x10]/\0<=t/\t<p/\p ∣ t-sm (fun i=>xs.getD i 0*px r i (L+1)*((-1) ^ (L-i)*(sh i*sh (L-i)))) i/\H'=H5)
  ⟨0,_,_,_,rfl,by decide,p0,⟨0,by simp [sm]⟩,rfl⟩ ?_ ?_⟩
 . rintro i σ H6 hi ⟨t,x8,x9,x10,rfl,t0,t1,td,rfl⟩;have hi':i<L+1:=by omega
   obtain⟨m,hm⟩:∃m,L=i+m:=⟨L-i,by omega⟩
   have e0:(0:Int)+(i:Int)=(i:Int):=Int.zero_add _;have e1:(L:Int)-(0+(i:Int))=(m:Int):=by omega
   have r1':=hsr i;have r2':=hsr m;have ar:=kQ p1 (fun j:Nat=>r-j) i;have br:=kQ p1 (fun j:Nat=>r-(L:Int)+j) m;have xi:=xb i;have m1:∀z:Int,0<=z % p:=fun z=>zX0 _ (by omega)
   have m2:∀z:Int,z % p<p:=fun z=>zY0 _ p0
   refine ⟨_,.int (sh i),zG0 hls,by rw[e0];exact uA hi',_,.int (sh m),zG0 hls,by rw[e1];exact uA (by omega),.inl ⟨by omega,by omega⟩,p0,?_⟩;refine ?_;rw[e0];refine ha5.ix (by omega) ?_;refine⟨_,.int (pmd p (fun j:Nat=>r-j) i),zG0 hla5,tY hi',.inl ⟨by omega,by omega⟩,?_⟩;refine⟨_,.int (pmd p (fun j:Nat=>r-(L:Int)+j) m),zG0 hlb5,by rw[←e0,e1];exact tY (by omega),.inr ⟨by omega,by omega⟩,p0,?_⟩;have s1:=m1 (sh i*sh m);have s2:=m2 (sh i*sh m);refine⟨.inr ⟨by omega,by omega⟩,?_⟩;refine⟨(by show(0:Int)<_;decide),rfl,?_⟩;have fin:∀z:Int,z=(if m % 2=1 then -(xs.getD i 0*pmd p (fun j:Nat=>r-j) i*pmd p (fun j:Nat=>r-(L:Int)+j) m % p*(sh i*sh m % p))else xs.getD i 0*pmd p (fun j:Nat=>r-j) i*pmd p (fun j:Nat=>r-(L:Int)+j) m % p*(sh i*sh m % p)) ->
    p ∣ (t+z) % p-sm (fun i=>xs.getD i 0*px r i (L+1)*((-1) ^ (L-i)*(sh i*sh (L-i)))) (i+1):=fun z hz=>by
    show p ∣ _-(sm _ i+xs.getD i 0*px r i (L+1)*((-1) ^ (L-i)*(sh i*sh (L-i))))
    have em:L-i=m:=by omega
    have hb:p ∣ pmd p (fun j:Nat=>r-(L:Int)+j) m-pr (fun j=>r-(i+m:Nat)+j) m:=by
     rw[←hm];exact kR p _ m
    subst hz;rw[em];have el:L+1=i+m+1:=by omega
    rw[el]at td ⊢;exact Au td (kR p _ i) hb (dm p _) (dm p _) (dm p _)
   by_cases c:m % 2=1
   . refine bn (congrArg V.int (by omega)) ?_;refine ?_;refine⟨p0,?_⟩;exact⟨_,_,_,_,rfl,m1 _,m2 _,fin _ (by rw[zI0 c]),rfl⟩
   . refine aI (fun z=>c (by have:=V.int.inj z;omega)) ?_;refine⟨p0,?_⟩;exact⟨_,_,_,_,rfl,m1 _,m2 _,fin _ (by rw[zF0 c]),rfl⟩
 . rintro σ H6 ⟨t,x8,x9,x10,rfl,t0,t1,td,rfl⟩;rw[show((L:Int)+1).toNat=L+1 by omega]at td;rw[←hL]at hW;have e:=Co (r:=r) hP xp hW t0 t1 (by
    unfold lag;rw[hL];exact td)
   rw[e];exact(q H6 S05)
theorem qR:FnScope ["values","r","p","place"] ["values","r","p"] (ae fc):=⟨rfl,rfl,rfl,by decide +kernel,rfl,by decide +kernel,by decide +kernel⟩
theorem rO {f:Addr} {fd:FuncData} (F:Fun K "value_at" "value_at" fc f fd) (B:Bl mg) (gB:Cal P w K mg base 3 "value_behind" ["values","r","p"] ve):FnOk P w K mg base CX0 4 f fd ["values","r","p"] ve:=by
 refine F.ok qR (fun vs H Q E h=>?_) (fun cdv A outer s H vs Q E hr h=>?_)
 . obtain⟨a,xs,r,p,rfl,_⟩:=h;rfl
 obtain ⟨a,xs,r,p,rfl,ha,ok,pp,p9,r0,r1,q⟩:=h;refine⟨_,(ac (ak (i:=3) qR.nd rfl (Or.inl rfl) (ag aN (pv 1) (pv 2)))
  (ac (aH (ah cU (pv 3) (aD az rfl B.len PySem.boot_len (af (pv 0) aJ)) (aj _)) (ad (ao (ag aN (av (ix_list.or aB) (pv 0) (pv 3) (fun _ _=>rfl)) (pv 2)))) ax)
  (ad (ao (ai gB hr (by decide) rfl (af (pv 0) (af (pv 3) (af (pv 2) aJ)))))))),?_⟩
 have p0:0<p:=by omega
 have hP:=rJ pp (by omega);have er:r % p=r:=qV0 r0 r1;refine⟨p0,?_⟩
 dsimp only
 rw[er];refine⟨a,_,rfl,ha.seq,?_⟩;refine jZ (fun c=>?_) (fun c=>?_)
 . have c':=of_decide_eq_true c;rw[zH0]at c';obtain⟨k,rfl⟩:∃k:Nat,r=(k:Int):=⟨r.toNat,by omega⟩
   refine ?_;refine ha.ix (by omega) ?_;refine⟨p0,?_⟩;show Q (.int (xs.getD k 0 % p)) H;rw[←Cp hP ok.2.2.1 (by omega)];exact q H (Same.refl _)
 . exact⟨a,xs,r,p,rfl,ha,ok,pp,p9,r0,r1,q⟩
theorem IntsAt.sqB{K:W.Frag}{H:Hp}{a:Addr}{xs:List Int}(h:IntsAt H a xs):∃c,SqB K c H a (xs.map V.int):=h.elim (fun e=>⟨true,zG0 e⟩) (fun e=>⟨false,zD0 e⟩)
def hor(s p:Int):List Int->Int
 | []=>0
 | a::r=>(hor s p r*s+a) % p
theorem lg{s p:Int}(hp:0<p):∀ns,0<=hor s p ns/\hor s p ns<p
 | []=>⟨Int.le_refl 0,hp⟩
 | a::r=>⟨zX0 _ (by omega),zY0 _ hp⟩
def BP(C:Addr):Sp:=fun vs H Q _=>∃(g a b d l:Addr)(ns:List Int)(s p:Int),vs=[.ref g,.ref l,.int s]/\GameAt C H g a b d p/\0<p/\p<2 ^ 40/\IntsAt H l ns/\Q (.int (hor s p ns)) H
theorem pB:FnScope ["self","numbers","s","total","number"] ["self","numbers","s"] (ae lJ):=⟨rfl,rfl,rfl,by decide +kernel,rfl,by decide +kernel,by decide +kernel⟩
theorem Bi {f C:Addr} {fd:FuncData} (F:Fun K "mix" "Game.mix" lJ f fd) (T:GTxt K mg C) (hrev:mg "reversed"=none):FnOk P w K mg base CX0 1 f fd ["self","numbers","s"] (BP C):=by
 refine F.ok pB (fun vs H Q E h=>?_) (fun cdv A outer s H vs Q E hr h=>?_)
 . obtain⟨g,a,b,d,l,ns,s,p,rfl,_⟩:=h;rfl
 obtain ⟨g,a,b,d,l,ns,s,p,rfl,⟨dx,hg⟩,p0,p40,hl,q⟩:=h;refine⟨_,(ac (ak (i:=3) pB.nd rfl (Or.inl rfl) aa)
  (ac (bY PassesOwn.never rfl (vF rfl hrev (pv 1)) (ba (i:=4) pB.nd rfl (Or.inl rfl)) (ad (ak (i:=3) pB.nd rfl (Or.inl rfl) (ag aN (ag aR (ag aW (pv 3) (pv 2)) (pv 4)) (aP (pv 0) rfl)))))
  (ad (ao (pv 3))))),?_⟩
 obtain ⟨c,hl⟩:=hl.sqB (K:=K);refine⟨c,l,_,rfl,hl,sE (K:=K) (c:=c) (xs:=ns.map V.int) (fun i σ H'=>∃(x4:Option V)(t:Int),σ=[some (.ref g),some (.ref l),some (.int s),some (.int t),x4]/\t=hor s p (ns.drop (ns.length-i))/\H'=H)
  ⟨_,0,rfl,by rw[Nat.sub_zero,List.drop_length];rfl,rfl⟩ (fun i σ H' _ hst=>by obtain⟨_,_,_,_,h⟩:=hst;subst h;exact hl) ?_ ?_⟩
 . rintro i z σ H1 hi hz ⟨x4,t,rfl,rfl,rfl⟩;rw[zH0]at hi;rw[←List.map_reverse,zV0]at hz;obtain⟨x,hx,rfl⟩:=qM0 hz;rw[List.getElem?_reverse hi]at hx;have hr2:=lg (s:=s) p0 (ns.drop (ns.length-i));refine⟨.inl ⟨by omega,by omega⟩,C,dx,_,_,hg,T.cl,T.nF,lh ..,p0,?_⟩;refine⟨_,_,rfl,?_,rfl⟩;have hj:ns.length-1-i<ns.length:=by omega
   have ed:ns.drop (ns.length-(i+1))=x::ns.drop (ns.length-i):=by
    have e1:ns.length-(i+1)=ns.length-1-i:=by omega
    have e2:ns.length-i=ns.length-1-i+1:=by omega
    rw[e1,e2,List.drop_eq_getElem_cons hj]
    congr 1
    rw[zU0 hj]at hx;exact zS0 hx
   rw[ed];rfl
 . rintro σ H1 ⟨x4,t,rfl,rfl,rfl⟩;rw[zH0,Nat.sub_self,List.drop_zero];exact q
def BM(C:Addr):Sp:=fun vs H Q _=>∃(g a b d r:Addr)(ns:List Str)(tv:List V)(ts:List Tr)(pt:List Int)(s p:Int),vs=[.ref g,.ref r,.int s]/\GameAt C H g a b d p/\1<p/\p<2 ^ 40/\H a=some (.tup (ns.map V.str))/\H b=some (.tup tv)/\TreesAt H tv ts/\ts.length<=10/\(∀t∈ts,t.ok ns/\t.depth<=10)/\
 H r=some (.tup (pt.map V.int))/\pt.length=ns.length/\dy pt p/\∀H',Same H H'->Q (.int (hor s p (ts.map fun t=>t.worth ns pt p))) H'
theorem ww:FnScope ["self","point","s"] ["self","point","s"] (ae iB):=⟨rfl,rfl,rfl,by decide +kernel,rfl,by decide +kernel,by decide +kernel⟩
theorem wO {f fm C:Addr} {fd fdm:FuncData} (F:Fun K "worth_at" "Game.worth_at" iB f fd) (T:GTxt K mg C) (mM:Meth K C "mix" fm) (GM:FnOk P w K mg base CX0 1 fm fdm ["self","numbers","s"] (BP C)) (bM:Binds K fdm ["self","numbers","s"] []) (eN:Cal P w K mg base 12 "worth_of" ["tree","switches","point","p"] (jE 10)):FnOk P w K mg base CX0 13 f fd ["self","point","s"] (BM C):=by
 refine F.ok ww (fun vs H Q E h=>?_) (fun cdv A outer s H vs Q E hr h=>?_)
 . obtain⟨g,a,b,d,r,ns,tv,ts,pt,s,p,rfl,_⟩:=h;rfl
 obtain ⟨g,a,b,d,r,ns,tv,ts,pt,s,p,rfl,⟨dx,hg⟩,p1,p40,ha,hb,TS,t10,tok,hr0,pl,po,q⟩:=h;have hr1:Room 1 _:=hr.mono (by decide);refine⟨_,(ad (ao (eD (pv 0) T.cl mM GM hr1 bM .nil fU (af (bX (N:=["self","point"]) (ix:=[0,1]) rfl
  (CompScope.two (by with_unfolding_all rfl) (by decide) rfl (by decide) rfl (by decide +kernel) (by first | exact Or.inl rfl | exact Or.inr rfl) (by with_unfolding_all rfl) (by with_unfolding_all rfl) (by with_unfolding_all rfl) (by with_unfolding_all rfl) rfl rfl (by with_unfolding_all rfl) rfl rfl) rfl
  (iT (aP (pv 0) rfl)) (fun _ _ _=>bQ (ai eN hr (by decide) rfl (af (pv 0) (af (mY K (pv 1)) (af (pv 2) (af (mY K (pv 1)) aJ))))))) (af (pv 2) aJ))))),?_⟩
 have vl:=TS.length;refine⟨g,dx,_,rfl,hg,zV _ _ _ _ (by decide +kernel) (by decide +kernel) (by decide +kernel) (by decide +kernel),?_⟩;refine⟨C,dx,_,_,hg,T.cl,T.nT,sB ..,b,rfl,⟨_,zD0 hb⟩,fun D hD=>?_⟩;refine iH (K:=K) (xs:=tv) (fun i H'=>H' D=some (.lst (((ts.take i).map fun t=>t.worth ns pt p).map V.int))/\Same H H') ⟨by rw[aE];rfl,zE0 hD _⟩ (fun i H' _ h=>zD0 (h.2 _ _ hb)) ?_ ?_
 . rintro i z H2 hz ⟨hl,S2⟩;obtain⟨t,ht,Tt⟩:=TS.get hz;obtain⟨tk,td⟩:=tok t (qJ0 ht);have hi:i<tv.length:=(zT0 hz).1;refine⟨C,dx,_,_,S2 _ _ hg,T.cl,T.nS,sC ..,C,dx,_,_,S2 _ _ hg,T.cl,T.nF,lh ..,z,t,a,r,ns,pt,p,rfl,Tt.mono (aX S2),tk,td,.inr (S2 _ _ ha),S2 _ _ hr0,pl,p1,p40,po,?_⟩;refine⟨_,hl,?_,Nx.of hi ⟨?_,fun b' o' e'=>?_⟩⟩
   . rw[zH0,zH0,qL0];exact aG (by omega)
   . rw[aE,qK0,ht,zM0,zM0];rfl
   . rw[am (aO e' hD)];exact S2 _ _ e'
 . rintro H2 ⟨hl,S2⟩;rw[vl,qO0]at hl;exact⟨g,a,b,d,D,_,s,p,rfl,⟨dx,S2 _ _ hg⟩,by omega,p40,.inl hl,q H2 S2⟩
end
section
variable {P:Program} {w:World} {K:W.Frag} {mg:Str->Option Value} {base:Heap}
def Gm(CG:Addr)(H:Hp)(g:Addr)(ns:List Str)(ts:List Tr)(p:Int):Prop:=∃(a b d:Addr)(tv:List V),GameAt CG H g a b d p/\H a=some (.tup (ns.map V.str))/\H b=some (.tup tv)/\TreesAt H tv ts/\H d=some (.lst ((ns.map (aZ ts)).map V.int))
theorem vN (a b:Addr) (p:Int) (d:Addr):(gf a b p d).lookup ("game":Str)=none:=zV _ _ _ _ (by decide +kernel) (by decide +kernel) (by decide +kernel) (by decide +kernel)
structure GmK(ns:List Str)(ts:List Tr)(p:Int):Prop where
 pr:Pr p
 p2:2<p
 p9:p<=999983
 n10:ns.length<=10
 t1:1<=ts.length
 t10:ts.length<=10
 tok:∀t∈ts,t.ok ns/\t.wf/\t.depth<=10/\t.size<=400
 tp:(ts.length:Int)<=p
 tc:∀t∈ts,∀x∈ns,(t.names.count x:Int)<p
theorem GmK.deg{ns:List Str}{ts:List Tr}{p:Int}(k:GmK ns ts p):∀x∈ns,0<=aZ ts x/\aZ ts x<p:=fun x hx=>by
 have t0:ts≠[]:=fun z=>by have:=k.t1;rw[z]at this;cases this
 refine⟨?_,oJ t0 fun t ht=>k.tc t ht x hx⟩
 have:=jw (ns:=ts.map fun t=>(t.names.count x:Int)) (by simpa using t0)
 obtain⟨t,_,e⟩:=List.mem_map.mp this;unfold aZ;rw[←e];omega
theorem vK{xs:List Int}{j:Nat}(h:j<xs.length):atI (xs.map V.int) (j:Int)=some (.int (xs.getD j 0)):=cq (by rw[zV0,zU0 h,qX0,zU0 h];rfl)
theorem jV{H:Hp}{f b:Addr}{o:HO}(F:FeedAt H f)(h:H b=some o)(n:∀ys,o≠.lst ys):b≠f:=fun z=>by
 obtain⟨u,t,e,_⟩:=F;rw[z,e]at h;exact n _ (zS0 h).symm
theorem mD:∀ns ms:List Int,PyData.eqvAll (ns.map PyData.int) (ms.map PyData.int)=decide (ns=ms)
 | [],[]=>rfl
 | [],_::_=>rfl
 | _::_,[]=>rfl
 | a::r,b::t=>by
   simp only[qG0,PyData.eqvAll,PyData.eqv,mD r t]
   by_cases h1:a=b <;> by_cases h2:r=t <;> simp [h1,h2]
theorem lR(ns ms:List Int):PyData.eqv (.list (ns.map PyData.int)) (.list (ms.map PyData.int))=decide (ns=ms):=by simp [PyData.eqv,mD]
theorem bZ(ns:List Int):SeqAt.shaped (.list (ns.map PyData.int))=true:=by
 simp [SeqAt.shaped,PyData.canLay0,PyData.depth,W.ke_canLayAll0,W.ke_depthAll]
end
section
variable {P:Program} {w:World} {K:W.Frag} {mg:Str->Option Value} {base:Heap}
def iZ (o:Str) (p q:Bool):Bool:=if o="and" then p&&q else if o="or" then p||q else if o="odd" then p != q else p==q
def Tr.holds(ns:List Str)(st:List Int):Tr->Bool
 | .is x=>match cK x ns with | some j=>decide (st.getD j 0=1) | none=>false
 | .yes=>true
 | .no=>false
 | .not a=>!a.holds ns st
 | .bin o a b=>iZ o (a.holds ns st) (b.holds ns st)
def nK:Sp:=fun vs H Q _=>∃(o:Str)(p q:Bool),vs=[.str o,.bl p,.bl q]/\Q (.bl (iZ o p q)) H
theorem wv:FnScope ["word","first","second"] ["word","first","second"] (ae iA):=⟨rfl,rfl,rfl,by decide +kernel,rfl,by decide +kernel,by decide +kernel⟩
theorem wN {f:Addr} {fd:FuncData} (F:Fun K "joined" "joined" iA f fd):FnOk P w K mg base CX0 1 f fd ["word","first","second"] nK:=by
 refine F.ok wv (fun vs H Q E h=>?_) (fun cdv A outer s H vs Q E hr h=>?_)
 . obtain⟨o,p,q,rfl,_⟩:=h;rfl
 obtain ⟨o,p,q,rfl,k⟩:=h;refine⟨_,(ac (aH (ah aM (pv 0) aq (aj _)) (ad (ao (oh (pv 1) (kj (pv 2))))) ax)
  (ac (aH (ah aM (pv 0) aq (aj _)) (ad (ao (BW (pv 1) (kj (pv 2))))) ax)
  (ac (aH (ah aM (pv 0) aq (aj _)) (ad (ao (cp rN (pv 1) (pv 2) (aj _)))) ax)
  (ad (ao (cp aM (pv 1) (pv 2) (aj _))))))),?_⟩
 refine⟨rfl,?_⟩
 by_cases c1:V.str o=V.str "and"
 . refine bn c1 ?_;have e:iZ o p q=(p&&q):=by unfold iZ;rw[zI0 (gY c1)]
   rw[e]at k;refine ?_;cases p with
   | true=>exact(show Q (.bl q) H from by simpa using k)
   | false=>exact(show Q (.bl false) H from by simpa using k)
 refine aI c1 ?_;have n1:¬ o="and":=fun z=>c1 (by rw[z])
 refine⟨rfl,?_⟩
 by_cases c2:V.str o=V.str "or"
 . refine bn c2 ?_;have e:iZ o p q=(p||q):=by unfold iZ;rw[zF0 n1,zI0 (gY c2)]
   rw[e]at k;refine ?_;cases p with
   | true=>exact(show Q (.bl true) H from by simpa using k)
   | false=>exact(show Q (.bl q) H from by simpa using k)
 refine aI c2 ?_;have n2:¬ o="or":=fun z=>c2 (by rw[z])
 refine⟨rfl,?_⟩
 by_cases c3:V.str o=V.str "odd"
 . refine bn c3 ?_;have e:iZ o p q=(p != q):=by unfold iZ;rw[zF0 n1,zF0 n2,zI0 (gY c3)]
   rw[e]at k;refine⟨rfl,?_⟩;have e2:(!decide (V.bl p=V.bl q))=(p != q):=by cases p <;> cases q <;> decide
   show Q (.bl (!decide (V.bl p=V.bl q))) H;rw[e2];exact k
 refine aI c3 ?_;have n3:¬ o="odd":=fun z=>c3 (by rw[z])
 have e:iZ o p q=(p==q):=by unfold iZ;rw[zF0 n1,zF0 n2,zF0 n3]
 rw[e]at k;refine⟨rfl,?_⟩;have e2:decide (V.bl p=V.bl q)=(p==q):=by cases p <;> cases q <;> decide
 show Q (.bl (decide (V.bl p=V.bl q))) H;rw[e2];exact k
def jF(n:Nat):Sp:=fun vs H Q _=>∃(v:V)(t:Tr)(a b:Addr)(ns:List Str)(st:List Int),vs=[v,.ref a,.ref b]/\TreeAt H v t/\t.ok ns/\t.depth<=n/\NamesAt H a ns/\H b=some (.tup (st.map V.int))/\st.length=ns.length/\Q (.bl (t.holds ns st)) H
theorem jo:FnScope ["tree","switches","setting","word","first"] ["tree","switches","setting"] (ae dJ):=⟨rfl,rfl,rfl,by decide +kernel,rfl,by decide +kernel,by decide +kernel⟩
theorem uL {n:Nat} {f:Addr} {fd:FuncData} (F:Fun K "holds_at" "holds_at" dJ f fd) (gC:Cal P w K mg base 1 "joined" ["word","first","second"] nK) (eP:Cal P w K mg base (n+2) "holds_at" ["tree","switches","setting"] (jF n)):FnOk P w K mg base CX0 (n+3) f fd ["tree","switches","setting"] (jF (n+1)):=by
 refine F.ok jo (fun vs H Q E h=>?_) (fun cdv A outer s H vs Q E hr h=>?_)
 . obtain⟨v,t,a,b,ns,st,rfl,_⟩:=h;rfl
 obtain ⟨v,t,a,b,ns,st,rfl,T,ok,dn,hN,hb,sl,k⟩:=h;refine⟨_,(ac (ak (i:=3) jo.nd rfl (Or.inl rfl) (av aB (pv 0) aa (fun _ _=>rfl)))
  (ac (aH (ah aM (pv 3) aq (aj _)) (ad (ao (cp aM (av aB (pv 2) (rM PySem.F.plainAttrs_list PySem.F.plainAttrs_tuple (pv 1) (af (av aB (pv 0) aa (fun _ _=>rfl)) aJ)) (fun _ _=>rfl)) aa (aj _)))) ax)
  (ac (aH (PW.pt (gs (ah aM (pv 3) aq (aj _)) (fw (ah aM (pv 3) aq (aj _))))) (ad (ao (cp aM (pv 3) aq (aj _)))) ax)
  (ac (ak (i:=4) jo.nd rfl (Or.inl rfl) (ai eP hr (zJ0 _) rfl (af (av aB (pv 0) aa (fun _ _=>rfl)) (af (pv 1) (af (pv 2) aJ)))))
  (ac (aH (ah aM (pv 3) aq (aj _)) (ad (ao (yQ (pv 4)))) ax)
  (ad (ao (ai gC hr (by omega) rfl (af (pv 3) (af (pv 4) (af (ai eP hr (zJ0 _) rfl (af (av aB (pv 0) aa (fun _ _=>rfl)) (af (pv 1) (af (pv 2) aJ)))) aJ))))))))))),?_⟩
 cases T with
 | @is p x e=>
   refine⟨_,_,zD0 e,rfl,?_⟩;refine⟨rfl,?_⟩;refine bDV rfl ?_;obtain⟨j,hj,jl⟩:=fE ok;have jl':j<st.length:=by omega
   refine⟨a,ns,rfl,hN,_,_,zD0 e,rfl,rfl,x,j,rfl,hj,_,.int st[j],zD0 hb,?_,rfl,?_⟩
   . refine cq ?_;rw[zV0,zU0 jl'];rfl
   . have e1:(Tr.is x).holds ns st=decide (V.int st[j]=V.int 1):=by
      show(match cK x ns with | some j=>decide (st.getD j 0=1) | none=>false)=_;rw[hj];show decide (st.getD j 0=1)=_;rw[qX0,zU0 jl']
      simp
     rw[e1]at k;exact k
 | @yes p e=>
   refine⟨_,_,zD0 e,rfl,?_⟩;refine⟨rfl,?_⟩;refine aY (by decide +kernel) ?_;refine⟨rfl,?_⟩;refine bDV rfl (jY ?_);exact⟨rfl,k⟩
 | @no p e=>
   refine⟨_,_,zD0 e,rfl,?_⟩;refine⟨rfl,?_⟩;refine aY (by decide +kernel) ?_;refine⟨rfl,?_⟩;refine aY (by decide +kernel) ?_;refine⟨rfl,?_⟩;refine bDV rfl ?_;refine⟨rfl,?_⟩;have e1:decide (V.str "no"=V.str "yes")=false:=by decide +kernel
   show Q (.bl (decide (V.str "no"=V.str "yes"))) H;rw[e1];exact k
 | @not p u r e T1=>
   have dp:r.depth+1<=n+1:=dn;refine⟨_,_,zD0 e,rfl,?_⟩;refine⟨rfl,?_⟩;refine aY (by decide +kernel) ?_;refine⟨rfl,?_⟩;refine aY (by decide +kernel) ?_;refine⟨rfl,?_⟩;refine aY (by decide +kernel) ?_;refine⟨_,_,zD0 e,rfl,u,r,a,b,ns,st,rfl,T1,ok,by omega,hN,hb,sl,?_⟩;refine⟨rfl,?_⟩;refine bDV rfl ?_;exact k
 | @bin p o u u2 r r2 e T1 T2=>
   obtain⟨ho,ok1,ok2⟩:=ok;have dp:max r.depth r2.depth+1<=n+1:=dn;have ne:∀z:Str,z∉joinW->¬ V.str o=V.str z:=fun z hz h=>hz (gY h▸ho)
   refine⟨_,_,zD0 e,rfl,?_⟩;refine⟨rfl,?_⟩;refine aI (ne _ (by decide +kernel)) ?_;refine⟨rfl,?_⟩;refine aI (ne _ (by decide +kernel)) ?_;refine⟨rfl,?_⟩;refine aI (ne _ (by decide +kernel)) ?_;refine⟨_,_,zD0 e,rfl,u,r,a,b,ns,st,rfl,T1,ok1,by omega,hN,hb,sl,?_⟩;refine⟨rfl,?_⟩;refine aI (ne _ (by decide +kernel)) ?_;refine⟨_,_,zD0 e,rfl,u2,r2,a,b,ns,st,rfl,T2,ok2,by omega,hN,hb,sl,?_⟩;exact⟨o,_,_,rfl,k⟩
theorem uK {f:Addr} {fd:FuncData}:FnOk P w K mg base CX0 2 f fd ["tree","switches","setting"] (jF 0):=by
 have no:∀vs H Q E,¬ jF 0 vs H Q E:=fun vs H Q E h=>by
  obtain⟨v,t,_,_,_,_,_,_,_,h1,_⟩:=h
  have:=t.depth_pos
  omega
 exact⟨fun vs H Q E h=>absurd h (no vs H Q E),fun A outer s H args us vs Q E _ _ _ _ h=>absurd h (no vs H Q E)⟩
theorem mo {f:Addr} {fd:FuncData} (F:Fun K "holds_at" "holds_at" dJ f fd) (m:mg "holds_at"=some (.ref f)) (gC:Cal P w K mg base 1 "joined" ["word","first","second"] nK) :
 ∀n:Nat,FnOk P w K mg base CX0 (n+2) f fd ["tree","switches","setting"] (jF n)
 | 0=>uK
 | n+1=>uL F gC (Cal.of F (mo F m gC n) m (fun _ _ _ _ _ _ us hl=>by obtain⟨u0,u1,u2,rfl⟩:=gV hl;rfl))
def Ck(H:Hp)(v:V)(s:List Int):Prop:=∃a,v=.ref a/\H a=some (.tup (s.map V.int))
abbrev TupsAt(H:Hp):List V->List (List Int)->Prop:=PySem.Paired (Ck H)
def qQ(H:Hp)(r:Addr)(ss:List (List Int)):Prop:=∃rs,H r=some (.lst rs)/\TupsAt H rs ss
theorem TupsAt.mono{H H':Hp}(k:∀a xs,H a=some (.tup xs)->H' a=some (.tup xs)):∀{rs:List V}{ss:List (List Int)},TupsAt H rs ss->TupsAt H' rs ss
 | _,_,.nil=>.nil
 | _,_,.cons ⟨a,e,h⟩ t=>.cons ⟨a,e,k _ _ h⟩ (TupsAt.mono k t)
theorem TupsAt.get{H:Hp}:∀{rs:List V}{ss:List (List Int)}{i:Nat}{v:V},TupsAt H rs ss->rs[i]?=some v->∃s,ss[i]?=some s/\Ck H v s
 | _,_,_,_,.nil,h=>by simp at h
 | _,_,0,_,.cons h _,e=>by
   simp at e
   subst e;exact⟨_,rfl,h⟩
 | _,_,i+1,v,.cons _ t,e=>by
   obtain⟨s,h1,h2⟩:=TupsAt.get (i:=i) t (by simpa using e);exact⟨s,by simpa using h1,h2⟩
theorem xf{H H':Hp}{b:Addr}{ys:List V}(s:SameBut b H H')(h:H b=some (.lst ys)∨H b=none):∀a xs,H a=some (.tup xs)->H' a=some (.tup xs):=fun a xs e=>s a _ (fun z=>by
 rw[z]at e;rcases h with h | h
 . rw[h]at e;cases e
 . rw[h]at e;cases e) e
theorem sP{K:W.Frag}{H1:Hp}{a p:Addr}{s:List Int}{z:Int}{Q:VK}(ha:H1 a=some (.tup (s.map V.int)))(hp:H1 p=some (.tup [.int z]))(hl:s.length<=100)
 (q:∀t H2,Same H1 H2->H2 t=some (.tup ((s++[z]).map V.int))->Q (.ref t) H2):rF K (.ref a) (.ref p) H1 Q∨nW K (.ref a) (.ref p) H1 Q:=by
 cases s with
 | nil=>exact .inr ⟨a,p,_,rfl,rfl,zD0 ha,zD0 hp,q p H1 (Same.refl _) hp⟩
 | cons x r=>
   refine .inl ⟨a,p,_,_,rfl,rfl,zD0 ha,zD0 hp,by simp,cu (by simp at hl ⊢;omega),(fun z=>nomatch z),(fun _ t ht=>q t _ (zE0 ht _) ?_)⟩;rw[aE,zM0];rfl
def qa:Sp:=fun vs H Q _=>∃n:Int,vs=[.int n]/\0<=n/\n<=6/\∀(r:Addr)(H':Hp),H r=none->Same H H'->qQ H' r (bE n.toNat)->Q (.ref r) H'
theorem ca:FnScope ["n","told","switch","longer","setting"] ["n"] (ae cC):=⟨rfl,rfl,rfl,by decide +kernel,rfl,by decide +kernel,by decide +kernel⟩
theorem mL {f:Addr} {fd:FuncData} (F:Fun K "all_settings" "all_settings" cC f fd) (hrange:mg "range"=none):FnOk P w K mg base CX0 1 f fd ["n"] qa:=by
 refine F.ok ca (fun vs H Q E h=>?_) (fun cdv A outer s H vs Q E hr h=>?_)
 . obtain⟨n,rfl,_⟩:=h;rfl
 obtain ⟨n,rfl,n0,n6,q⟩:=h;refine⟨_,(ac (ak (i:=1) ca.nd rfl (Or.inl rfl) (bU (af (bd aJ) aJ)))
  (ac (bY PassesOwn.never rfl (bv rfl hrange (af (pv 0) aJ)) (ba (i:=2) ca.nd rfl (Or.inl rfl)) (ac (ak (i:=3) ca.nd rfl (Or.inl rfl) (bU aJ))
   (ac (bY PassesOwn.never rfl (bV (pv 1)) (ba (i:=4) ca.nd rfl (Or.inl rfl)) (ac (bG (dU PySem.F.plainAttrs_list PySem.F.slot_list_append PySem.F.type_list_append bi (pv 3) (af (ag (op_catT.or oi) (pv 4) (bd (af aa aJ))) aJ)))
    (ad (bG (dU PySem.F.plainAttrs_list PySem.F.slot_list_append PySem.F.type_list_append bi (pv 3) (af (ag (op_catT.or oi) (pv 4) (bd (af aa aJ))) aJ))))))
   (ad (ak (i:=1) ca.nd rfl (Or.inl rfl) (pv 3))))))
  (ad (ao (pv 1))))),?_⟩
 refine ⟨(by show 0<=sizeLine;decide),fun p hp=>?_⟩;refine⟨(by show 1<=sizeLine;decide),fun a ha=>?_⟩;have np:p≠a:=fun z=>by
  subst z;rw[aE]at ha;cases ha
 have ha0:H a=none:=(zE0 hp _).free ha;refine⟨n,rfl,by omega,by omega,dh (fun i σ H'=>∃(a:Addr)(x2 x3 x4:Option V),σ=[some (.int n),some (.ref a),x2,x3,x4]/\H a=none/\Same H H'/\qQ H' a (bE i))
  ⟨a,_,_,_,rfl,ha0,(zE0 hp _).trans (zE0 ha _),[.ref p],aE,.cons ⟨p,rfl,by rw[am np,aE];rfl⟩ .nil⟩ ?_ ?_⟩
 . rintro i σ H' hi ⟨a,x2,x3,x4,rfl,a0,s0,rs,hrs,T⟩;have i6:i<6:=by omega
   have sl:=jG i;have s64:=lK (n:=i) (by omega);refine⟨(by show 0<=sizeLine;decide),fun b hb=>?_⟩;have ab:a≠b:=aO hrs hb;refine⟨a,rfl,⟨_,zG0 (by rw[am ab];exact hrs)⟩,iF (K:=K) (xs:=rs) (fun j σ H2=>∃(x4:Option V)(bs:List V),σ=[some (.int n),some (.ref a),some (.int (0+(i:Int))),some (.ref b),x4]/\SameBut b H' H2/\H2 b=some (.lst bs)/\TupsAt H2 bs (((bE i).take j).flatMap fun s=>[s++[0],s++[1]]))
    ⟨_,[],rfl,SameBut.upd _,aE,.nil⟩ (fun j σ H2 _ hst=>by obtain⟨_,_,_,sb,_⟩:=hst;exact zG0 (sb a _ ab hrs)) ?_ ?_⟩
   . rintro j y σ H2 hj ⟨x4,bs,rfl,sb,hbs,TB⟩;have T2:TupsAt H2 rs (bE i):=T.mono (xf (ys:=[]) sb (.inr hb));obtain⟨s,hs,t,rfl,ht⟩:=T2.get hj;have hsm:s∈bE i:=qJ0 hs;have hsl:=dD i s hsm;have hbl:=TB.length;rw[lQ,qL0]at hbl;refine⟨.inl ⟨rfl,_,zG0 hbs⟩,?_⟩;refine⟨(by show 1<=sizeLine;decide),fun p1 hp1=>?_⟩;have S1:Same H2 (upd H2 p1 (.tup [.int 0])):=zE0 hp1 _;refine sP (s:=s) (z:=0) (S1 _ _ ht) aE (by omega) fun t1 H3 S3 e3=>?_
     have S13:Same H2 H3:=S1.trans S3;refine⟨b,bs,_,rfl,rfl,S13 _ _ hbs,aG (by omega),?_⟩;have K4:=dX (H:=H3) (b:=b) (ys:=bs) (zs:=bs++[.ref t1]) (S13 _ _ hbs);have e4:=K4 _ _ e3;have t4:=K4 _ _ (S13 _ _ ht);refine⟨.inl ⟨rfl,_,zG0 aE⟩,?_⟩;refine⟨(by show 1<=sizeLine;decide),fun p2 hp2=>?_⟩;have S4:Same (upd H3 b (.lst (bs++[.ref t1]))) (upd (upd H3 b (.lst (bs++[.ref t1]))) p2 (.tup [.int 1])):=zE0 hp2 _;refine sP (s:=s) (z:=1) (S4 _ _ t4) aE (by omega) fun t2 H5 S5 e5=>?_
     have S45:=S4.trans S5;have hb5:H5 b=some (.lst (bs++[.ref t1])):=S45 _ _ aE;refine⟨b,bs++[.ref t1],_,rfl,rfl,hb5,aG (by rw[zO0,qU0];omega),?_⟩;have K6:=dX (H:=H5) (b:=b) (ys:=bs++[.ref t1]) (zs:=bs++[.ref t1]++[.ref t2]) hb5;refine⟨_,bs++[.ref t1]++[.ref t2],rfl,?_,aE,?_⟩
     . have q1:SameBut b H' H3:=sb.trans (zL0 S13);have q2:SameBut b H' H5:=(q1.trans (SameBut.upd _)).trans (zL0 S45);exact q2.trans (SameBut.upd _)
     . have hbase:TupsAt (upd H5 b (.lst (bs++[.ref t1]++[.ref t2]))) bs (((bE i).take j).flatMap fun s=>[s++[0],s++[1]]):=
        TB.mono fun a xs e=>K6 _ _ (S45 _ _ (K4 _ _ (S13 _ _ e)))
       rw[qK0,hs,List.flatMap_append];have e:((some s).toList.flatMap fun s:List Int=>[s++[0],s++[1]])=[s++[0]]++[s++[1]]:=by simp
       rw[e,←List.append_assoc];exact(hbase.snoc ⟨t1,rfl,K6 _ _ (S45 _ _ e4)⟩).snoc ⟨t2,rfl,K6 _ _ e5⟩
   . rintro σ H2 ⟨x4,bs,rfl,sb,hbs,TB⟩;have rl:=T.length;rw[rl,qO0]at TB;exact⟨b,_,_,_,rfl,s0.free hb,s0.but (s0.free hb) sb,bs,hbs,TB⟩
 . rintro σ H' ⟨a,x2,x3,x4,rfl,a0,s0,S⟩;exact(q a H' a0 s0 S)
def cnt(t:Tr)(ns:List Str):Nat:=((bE ns.length).filter fun st=>t.holds ns st).length
def vx:Sp:=fun vs H Q _=>∃(v:V)(t:Tr)(a:Addr)(ns:List Str),vs=[v,.ref a]/\TreeAt H v t/\t.ok ns/\t.depth<=12/\NamesAt H a ns/\ns.length<=6/\∀H',Same H H'->Q (.int (cnt t ns:Int)) H'
theorem q8:FnScope ["tree","switches","holding"] ["tree","switches"] (ae fq):=⟨rfl,rfl,rfl,by decide +kernel,rfl,by decide +kernel,by decide +kernel⟩
theorem rV {f:Addr} {fd:FuncData} (F:Fun K "count_of" "count_of" fq f fd) (hlen:mg "len"=none) (cO:Cal P w K mg base 1 "all_settings" ["n"] qa) (eP:Cal P w K mg base 14 "holds_at" ["tree","switches","setting"] (jF 12)):FnOk P w K mg base CX0 15 f fd ["tree","switches"] vx:=by
 refine F.ok q8 (fun vs H Q E h=>?_) (fun cdv A outer s H vs Q E hr h=>?_)
 . obtain⟨v,t,a,ns,rfl,_⟩:=h;rfl
 obtain ⟨v,t,a,ns,rfl,T,ok,dp,hN,nl,q⟩:=h;refine⟨_,(ac (jS (i:=2) (N:=["tree","switches"]) (ix:=[0,1]) q8.nd rfl (Or.inl rfl) rfl
  (CompScope.two (by with_unfolding_all rfl) (by decide) rfl (by decide) rfl (by decide +kernel) (by first | exact Or.inl rfl | exact Or.inr rfl) (by with_unfolding_all rfl) (by with_unfolding_all rfl) (by with_unfolding_all rfl) (by with_unfolding_all rfl) rfl rfl (by with_unfolding_all rfl) rfl rfl) rfl
  (bV (ai cO hr (by decide) rfl (af (aD az rfl hlen PySem.boot_len (af (pv 1) aJ)) aJ)))
  (fun _ _ _=>yY (iP (ai eP hr (by decide) rfl (af (pv 1) (af (pv 2) (af (pv 0) aJ))))) (pv 0)))
  (ad (ao (aD az rfl hlen PySem.boot_len (af (pv 2) aJ))))),?_⟩
 have en:((ns.map V.str).length:Int)=(ns.length:Int):=by rw[zH0]
 refine⟨a,_,rfl,hN.seq,_,rfl,by omega,by omega,fun r H1 r0 S1 R1=>?_⟩;rw[en]at R1;have e2:((ns.length:Int)).toNat=ns.length:=by omega
 rw[e2]at R1;obtain⟨rs,hrs,TS⟩:=R1;have rl:=TS.length;have sl:=jG ns.length;have s64:=lK nl;refine⟨r,rfl,⟨_,zG0 hrs⟩,fun D hD=>?_⟩;refine cL (K:=K) (xs:=rs) (fun i H'=>∃ys,H' D=some (.lst ys)/\ys.length=(((bE ns.length).take i).filter fun st=>t.holds ns st).length/\Same H1 H') ⟨[],aE,rfl,zE0 hD _⟩ (fun i H' _ hst=>by obtain⟨_,_,_,h⟩:=hst;exact zG0 (h _ _ hrs)) ?_ ?_
 . rintro i x H2 hx ⟨ys,hl,yl,S2⟩;have hi:i<rs.length:=(zT0 hx).1;have TS2:=TS.mono (aX S2);obtain⟨st,hst,b,rfl,hb⟩:=TS2.get hx;have stl:=dD _ _ (qJ0 hst);have S02:=S1.trans S2;have tk:((bE ns.length).take (i+1)).filter (fun st=>t.holds ns st)=((bE ns.length).take i).filter (fun st=>t.holds ns st)++[st].filter (fun st=>t.holds ns st):=by
    rw[qK0,hst,List.filter_append];rfl
   refine⟨v,t,a,b,ns,st,rfl,T.mono (aX S02),ok,dp,hN.same S02,hb,stl,?_⟩;cases c:t.holds ns st with
   | true=>
     refine ?_;refine⟨ys,hl,?_,Nx.of hi ⟨_,aE,?_,fun b' o e=>?_⟩⟩
     . have:=List.length_filter_le (fun st=>t.holds ns st) ((bE ns.length).take i)
       rw[qL0]at this;exact aG (by omega)
     . rw [tk,zO0,zO0,yl]
       simp [c]
     . rw[am (aO e hD)];exact S2 _ _ e
   | false=>
     refine bF (gu ?_);refine Nx.of hi ⟨ys,hl,?_,S2⟩;rw[tk,zO0,yl]
     simp [c]
 . rintro H2 ⟨ys,hl,yl,S2⟩;have e3:rs.length=(bE ns.length).length:=rl;rw[e3,qO0]at yl;refine⟨D,_,rfl,.inl (zG0 hl),?_⟩;rw[yl];exact q H2 (S1.trans S2)
def rf(C:Addr):Sp:=fun vs H Q _=>∃(g a b d:Addr)(ns:List Str)(tv:List V)(ts:List Tr)(p:Int),vs=[.ref g]/\GameAt C H g a b d p/\H a=some (.tup (ns.map V.str))/\ns.length<=6/\H b=some (.tup tv)/\TreesAt H tv ts/\ts.length<=10/\(∀t∈ts,t.ok ns/\t.depth<=12)/\
 ∀(l:Addr)(H':Hp),H l=none->Same H H'->H' l=some (.lst ((ts.map fun t=>(cnt t ns:Int)).map V.int))->Q (.ref l) H'
theorem qh:FnScope ["game"] ["game"] (ae dR):=⟨rfl,rfl,rfl,by decide +kernel,rfl,by decide +kernel,by decide +kernel⟩
theorem qA {f C:Addr} {fd:FuncData} (F:Fun K "counts_of" "counts_of" dR f fd) (T:GTxt K mg C) (lF:Cal P w K mg base 15 "count_of" ["tree","switches"] vx):FnOk P w K mg base CX0 16 f fd ["game"] (rf C):=by
 refine F.ok qh (fun vs H Q E h=>?_) (fun cdv A outer s H vs Q E hr h=>?_)
 . obtain⟨g,a,b,d,ns,tv,ts,p,rfl,_⟩:=h;rfl
 obtain ⟨g,a,b,d,ns,tv,ts,p,rfl,⟨dx,hg⟩,ha,nl,hb,TS,t10,tok,q⟩:=h;refine⟨_,(ad (ao (bX (N:=["game"]) (ix:=[0]) rfl
  (CompScope.one (by with_unfolding_all rfl) (by decide) rfl (by decide) rfl (by decide +kernel) (by with_unfolding_all rfl) (by with_unfolding_all rfl) (by with_unfolding_all rfl) rfl rfl) rfl
  (iT (aP (pv 0) rfl)) (fun _ _ _=>bQ (ai lF hr (by decide) rfl (af (pv 0) (af (mY K (pv 1)) aJ))))))),?_⟩
 have vl:=TS.length;refine⟨C,dx,_,_,hg,T.cl,T.nT,sB ..,b,rfl,⟨_,zD0 hb⟩,fun D hD=>?_⟩;refine iH (K:=K) (xs:=tv) (fun i H'=>H' D=some (.lst (((ts.take i).map fun t=>(cnt t ns:Int)).map V.int))/\Same H H') ⟨by rw[aE];rfl,zE0 hD _⟩ (fun i H' _ h=>zD0 (h.2 _ _ hb)) ?_ ?_
 . rintro i z H2 hz ⟨hl,S2⟩;obtain⟨t,ht,Tt⟩:=TS.get hz;obtain⟨tk,td⟩:=tok t (qJ0 ht);have hi:i<tv.length:=(zT0 hz).1;refine⟨C,dx,_,_,S2 _ _ hg,T.cl,T.nS,sC ..,z,t,a,ns,rfl,Tt.mono (aX S2),tk,td,.inr (S2 _ _ ha),nl,fun H3 S3=>?_⟩;refine⟨_,S3 _ _ hl,?_,Nx.of hi ⟨?_,fun b' o' e'=>?_⟩⟩
   . rw[zH0,zH0,qL0];exact aG (by omega)
   . rw[aE,qK0,ht,zM0,zM0];rfl
   . rw[am (aO e' hD)];exact S3 _ _ (S2 _ _ e')
 . rintro H2 ⟨hl,S2⟩;rw[vl,qO0]at hl;exact q D H2 hD S2 hl
theorem Cg{c A B:Prop}[Decidable c](hc:c)(h:B):if(!decide c)=true then A else B:=by
 rw[decide_eq_true hc];exact gu h
def lL(s:Int):List Int->Int
 | []=>0
 | a::r=>a+s*lL s r
theorem oC(s p:Int):∀ns,hor s p ns=lL s ns % p
 | []=>(Int.zero_emod p).symm
 | a::r=>by
   show(hor s p r*s+a) % p=(a+s*lL s r) % p;rw[oC s p r,Int.add_emod,Int.mul_emod,Int.emod_emod,←Int.mul_emod,←Int.add_emod,Int.mul_comm,Int.add_comm]
theorem kH:∀(n:Nat)(s:List Int),s∈bE n->∀x∈s,x=0∨x=1
 | 0,s,h,x,hx=>by
   have:s=[]:=by simpa [bE]using h
   subst this;cases hx
 | n+1,s,h,x,hx=>by
   rw[bE,List.mem_flatMap]at h;obtain⟨t,ht,hs⟩:=h
   simp at hs
   rcases hs with rfl | rfl
   . rcases qD0 hx with h | h
     . exact kH n t ht x h
     . exact .inl (zP0 h)
   . rcases qD0 hx with h | h
     . exact kH n t ht x h
     . exact .inr (zP0 h)
theorem lu{K:W.Frag}{H1:Hp}{a b:Addr}{xs ys:List Int}{Q:VK}(ha:H1 a=some (.tup (xs.map V.int)))(hb:H1 b=some (.tup (ys.map V.int)))(hl:xs.length+ys.length<=100)
 (q:∀t H2,Same H1 H2->H2 t=some (.tup ((xs++ys).map V.int))->Q (.ref t) H2):rF K (.ref a) (.ref b) H1 Q∨nW K (.ref a) (.ref b) H1 Q:=by
 cases xs with
 | nil=>exact .inr ⟨a,b,_,rfl,rfl,zD0 ha,zD0 hb,q b H1 (Same.refl _) hb⟩
 | cons x r=>
   refine .inl ⟨a,b,_,_,rfl,rfl,zD0 ha,zD0 hb,by simp,cu (by simp at hl ⊢;omega),(fun z=>?_),(fun _ t ht=>q t _ (zE0 ht _) ?_)⟩
   . cases ys with
     | nil=>
       refine q a H1 (Same.refl _) ?_;rw[List.append_nil];exact ha
     | cons y r2=>exact nomatch z
   . rw[aE,zM0]
def jq(ns:List Str)(ts:List Tr)(s p:Int)(pt:List Int):Int:=((bE (ns.length-pt.length)).map fun st=>lL s (ts.map fun t=>t.worth ns (pt++st) p)).sum % p
theorem pY{α:Type}(p:Int)(f:α->Int):∀l:List α,(l.map fun x=>f x % p).sum % p=(l.map f).sum % p
 | []=>rfl
 | a::r=>by
   rw[qG0,qG0,List.sum_cons,List.sum_cons,Int.add_emod,Int.emod_emod,pY p f r,←Int.add_emod]
theorem pX{α:Type}{p:Int}(hp:0<p)(f:α->Int)(h:∀x,0<=f x/\f x<p):∀l:List α,0<=(l.map f).sum/\(l.map f).sum<=p*l.length
 | []=>⟨Int.le_refl 0,by simp⟩
 | a::r=>by
   have h1:=h a;have h2:=pX hp f h r;rw[qG0,List.sum_cons,qF0];refine⟨by omega,?_⟩
   have:p*((r.length+1:Nat):Int)=p*(r.length:Int)+p:=by
    rw[Int.natCast_add,Int.mul_add]
    simp
   omega
theorem rG{a b:List Int}{p:Int}(h:dy a p)(h2:dy b p):dy (a++b) p:=fun x hx=>by
 rcases qD0 hx with e | e
 . exact h x e
 . exact h2 x e
theorem CN{a b:List Int}{p:Int}(h:dy a p)(p1:1<p)(h2:∀x∈b,x=0∨x=1):dy (a++b) p:=rG h fun x hx=>by rcases h2 x hx with e | e <;> omega
theorem lenB{n k:Nat}(h:k<=n)(h6:n<=6):0<=(n:Int)-k/\(n:Int)-k<=6/\((n:Int)-k).toNat=n-k:=by omega
theorem kY{X:Cx}(K:W.Frag)(hK:X.K=K:=by rfl):OpR X (binaryOp .Add) (fun x y H Q=>rF K x y H Q∨nW K x y H Q):=by subst hK;exact op_catT.or oi
theorem sK{ts:List Tr}{x:Str}(h0:ts≠[]):0<=aZ ts x:=by
 have:=jw (ns:=ts.map fun t=>(t.names.count x:Int)) (by simpa using h0)
 obtain⟨t,ht,e⟩:=List.mem_map.mp this;unfold aZ;rw[←e];exact Int.natCast_nonneg _
def jb(ns:List Str)(ts:List Tr)(s p:Int)(cs:List Int)(n:Nat):List Int:=(List.range n).map fun k:Nat=>jq ns ts s p (cs++[(k:Int)])
theorem CI{ns:List Str}{ts:List Tr}{s p d:Int}{cs:List Int}{i:Nat}(hi:i<(d+1).toNat)(h:d<=500):((jb ns ts s p cs i).map V.int).length<sizeLine:=by
 unfold jb;rw[zH0,zH0,qW0];exact aG (by omega)
theorem ptI{a:List Int}{p d:Int}{i:Nat}(h:dy a p)(hi:i<(d+1).toNat)(hd:d<p):dy (a++[(i:Int)]) p:=rG h fun x hx=>by
 rw[zP0 hx];omega
theorem cat1{n k:Nat}(h:n<k)(h6:k<=6):n+([(0:Int)]:List Int).length<=100/\n+1<=k:=by
 rw[qU0];omega
theorem s64{n k:Nat}(h6:n<=6):(bE (n-(k+1))).length<=64:=by
 have s64:=jG (n-(k+1));have p64:=lK (n:=n-(k+1)) (by omega);omega
theorem CH{α:Type}{f:α->Int}{l:List α}{j:Nat}(h:l.length<=64):(((l.take j).map f).map V.int).length<sizeLine:=by
 rw[zH0,zH0,qL0];exact aG (by omega)
theorem sum63{p x:Int}{n:Nat}(p0:0<p)(p40:p<2 ^ 40)(h:n<=64)(hx:x<=p*(n:Int)):x<2 ^ 63:=by
 have:p*(n:Int)<=p*64:=qZ0 (by omega) (by omega)
 omega
def yb(C:Addr):Sp:=fun vs H Q _=>∃(g a b d c:Addr)(ns:List Str)(tv:List V)(ts:List Tr)(cs:List Int)(x:Str)(s p:Int),vs=[.ref g,.int s,.ref c]/\GameAt C H g a b d p/\H a=some (.tup (ns.map V.str))/\ns.length<=6/\H b=some (.tup tv)/\TreesAt H tv ts/\ts≠[]/\ts.length<=10/\(∀t∈ts,t.ok ns/\t.depth<=10)/\
 H d=some (.lst ((ns.map (aZ ts)).map V.int))/\H c=some (.tup (cs.map V.int))/\ns[cs.length]?=some x/\aZ ts x<p/\aZ ts x<=500/\dy cs p/\1<p/\p<2 ^ 40/\
 ∀(l:Addr)(H':Hp),H l=none->Same H H'->H' l=some (.lst ((jb ns ts s p cs (aZ ts x+1).toNat).map V.int))->Q (.ref l) H'
theorem dC:FnScope ["game","s","coins","ahead","switch","behind","row","x","worths"] ["game","s","coins"] (ae fe):=⟨rfl,rfl,rfl,by decide +kernel,rfl,by decide +kernel,by decide +kernel⟩
theorem rP {f fW C:Addr} {fd fdW:FuncData} (F:Fun K "true_row" "true_row" fe f fd) (B:Bl mg) (T:GTxt K mg C) (mW:Meth K C "worth_at" fW) (GW:FnOk P w K mg base CX0 13 fW fdW ["self","point","s"] (BM C)) (bW:Binds K fdW ["self","point","s"] []) (cO:Cal P w K mg base 1 "all_settings" ["n"] qa):FnOk P w K mg base CX0 14 f fd ["game","s","coins"] (yb C):=by
 refine F.ok dC (fun vs H Q E h=>?_) (fun cdv A outer s H vs Q E hr h=>?_)
 . obtain⟨g,a,b,d,c,ns,tv,ts,cs,x,s,p,rfl,_⟩:=h;rfl
 obtain ⟨g,a,b,d,c,ns,tv,ts,cs,x,s,p,rfl,⟨dx,hg⟩,ha,nl,hb,TS,tne,t10,tok,hd,hc,hx,dp,d500,po,p1,p40,q⟩:=h;refine⟨_,(ac (ak (i:=3) dC.nd rfl (Or.inr rfl) (bh bH rfl B.tuple cg (af (pv 2) aJ)))
  (ac (ak (i:=4) dC.nd rfl (Or.inl rfl) (aD az rfl B.len PySem.boot_len (af (pv 3) aJ)))
  (ac (ak (i:=5) dC.nd rfl (Or.inl rfl) (ai cO hr (by decide) rfl (af (ag aQ (ag aQ (aD az rfl B.len PySem.boot_len (af (aP (pv 0) rfl) aJ)) (pv 4)) aa) aJ)))
  (ac (ak (i:=6) dC.nd rfl (Or.inl rfl) (bU aJ))
  (ac (bY PassesOwn.never rfl (bv rfl B.range (af (ag aR (av ix_list (aP (pv 0) rfl) (pv 4) (fun _ _=>rfl)) aa) aJ)) (ba (i:=7) dC.nd rfl (Or.inr rfl)) (ac (jS (i:=8) (N:=["x","s","game","ahead"]) (ix:=[7,1,0,3]) dC.nd rfl (Or.inl rfl) rfl
   (CompScope.four (by with_unfolding_all rfl) (by decide) rfl (by decide) rfl (by decide +kernel) rfl (by with_unfolding_all rfl) (by with_unfolding_all rfl) (by with_unfolding_all rfl) (by with_unfolding_all rfl) (by with_unfolding_all rfl) (by with_unfolding_all rfl) rfl rfl (by with_unfolding_all rfl) rfl rfl (by with_unfolding_all rfl) rfl rfl (by with_unfolding_all rfl) rfl rfl) rfl
   (bV (pv 5)) (fun _ _ _=>bQ (eD (pv 3) T.cl mW GW hr bW .nil fU (af (ag (kY K) (ag (kY K) (pv 4) (bd (af (pv 1) aJ))) (pv 0)) (af (pv 2) aJ)))))
   (ad (bG (dU PySem.F.plainAttrs_list PySem.F.slot_list_append PySem.F.type_list_append bi (pv 6) (af (ag aN (aD (oO rfl) rfl B.sum PyProof.Rows.boot_sum (af (pv 8) aJ)) (aP (pv 0) rfl)) aJ))))))
  (ad (ao (pv 6)))))))),?_⟩
 have kl:cs.length<ns.length:=(zT0 hx).1;have d0:=sK (x:=x) tne;have p0:0<p:=Int.lt_trans Int.zero_lt_one p1;refine⟨c,_,rfl,.inr ⟨zD0 hc,?_⟩⟩;have G1:Same H H:=fun _ _ e=>e
 have hah1:=hc;refine⟨c,_,rfl,.inr (zD0 hah1),?_⟩;refine⟨C,dx,_,_,G1 _ _ hg,T.cl,T.nS,sC ..,a,_,rfl,.inr (zD0 (G1 _ _ ha)),_,rfl,by rw[zH0,zH0];omega,by rw[zH0,zH0];omega,fun r H2 r0 S2 R2=>?_⟩;have en:((((ns.map V.str).length:Nat):Int)-(((cs.map V.int).length:Nat):Int)-1).toNat=ns.length-(cs.length+1):=by rw[zH0,zH0];omega
 rw[en]at R2;obtain⟨rs,hrs,TB⟩:=R2;have rl:=TB.length;refine⟨(by show 0<=sizeLine;decide),fun L hL=>?_⟩;have S02:=G1.trans S2;have GL:=zE0 hL (.lst []);have S03:=S02.trans GL;have L0:H L=none:=S02.free hL;have e1:(((cs.map V.int).length:Nat):Int)=(cs.length:Int):=by rw[zH0]
 refine⟨C,dx,_,_,S03 _ _ hg,T.cl,T.nD,Ch ..,_,.int (aZ ts x),zG0 (S03 _ _ hd),?_,_,rfl,by omega,by omega,dh (fun i σ H'=>∃x7 x8:Option V,σ=[some (.ref g),some (.int s),some (.ref c),some (.ref c),some (.int (((cs.map V.int).length:Nat):Int)),some (.ref r),some (.ref L),x7,x8]/\H' L=some (.lst ((jb ns ts s p cs i).map V.int))/\SameBut L H2 H') ⟨_,_,rfl,by rw[aE];rfl,SameBut.upd _⟩ ?_ ?_⟩
 . rw[e1];refine cq ?_;rw[zV0,zV0,hx];rfl
 . rintro i σ H4 hi ⟨x7,x8,rfl,hL4,S4⟩;have gL:g≠L:=aO (S02 _ _ hg) hL;have rL:r≠L:=aO hrs hL;have kT:bu H2 H4:=fun c xs h=>S4 c _ (aO h hL) h
   have hg4:=S4 g _ gL (S02 _ _ hg);have hrs4:=S4 r _ rL hrs;have ha4:=kT _ _ (S02 _ _ ha);have hb4:=kT _ _ (S02 _ _ hb);have hah4:=kT _ _ (S2 _ _ hah1);have TS4:=(TS.mono (aX S02)).mono kT;have TB4:=TB.mono kT;refine⟨r,rfl,⟨_,zG0 hrs4⟩,fun D hD=>?_⟩;refine cL (K:=K) (xs:=rs) (fun j H'=>H' D=some (.lst ((((bE (ns.length-(cs.length+1))).take j).map fun st=>hor s p (ts.map fun t=>t.worth ns (cs++[(i:Int)]++st) p)).map V.int))/\Same H4 H') ⟨by rw[aE];rfl,zE0 hD _⟩ (fun j H' _ h=>zG0 (h.2 _ _ hrs4)) ?_ ?_
   . rintro j z H5 hz ⟨hD5,S5⟩;obtain⟨st,hst,y,rfl,hy⟩:=(TB4.mono (aX S5)).get hz;have stm:=qJ0 hst;have stl:=dD _ _ stm;have s01:=kH _ _ stm;have hj:j<rs.length:=(zT0 hz).1;have po2:dy (cs++[(i:Int)]++st) p:=CN (ptI po hi dp) p1 s01;have pl2:(cs++[(i:Int)]++st).length=ns.length:=by rw[zO0,zO0,qU0];omega
     refine⟨g,dx,_,rfl,S5 _ _ hg4,zV _ _ _ _ (by decide +kernel) (by decide +kernel) (by decide +kernel) (by decide +kernel),?_⟩;refine⟨(by show 1<=sizeLine;decide),fun u hu=>?_⟩;have Gu:=zE0 hu (.tup [.int (0+(i:Int))]);have hu6:upd H5 u (.tup [.int (0+(i:Int))]) u=some (.tup ([(i:Int)].map V.int)):=by rw[aE,Int.zero_add];rfl
     generalize upd H5 u (.tup [.int (0+(i:Int))])=H6 at Gu hu6;refine lu (Gu _ _ (S5 _ _ hah4)) hu6 (cat1 kl nl).1 fun t1 H7 S7 h7=>?_
     refine ?_;have S57:=Gu.trans S7;refine lu h7 (S57 _ _ hy) (by rw[zO0,qU0];omega) fun t2 H8 S8 h8=>?_
     have S48:=S5.trans (S57.trans S8);refine⟨g,a,b,d,t2,ns,tv,ts,_,s,p,rfl,⟨dx,S48 _ _ hg4⟩,p1,p40,S48 _ _ ha4,S48 _ _ hb4,TS4.mono (aX S48),t10,tok,h8,pl2,po2,fun H9 S9=>?_⟩;refine⟨_,S9 _ _ ((S57.trans S8) _ _ hD5),?_,Nx.of hj ⟨?_,fun b' o' e'=>?_⟩⟩
     . exact CH (s64 nl)
     . rw[aE,qK0,hst,zM0,zM0];rfl
     . rw[am (aO e' hD)];exact S9 _ _ (S48 _ _ e')
   rintro H5 ⟨hD5,S5⟩;rw[rl,qO0]at hD5;have hor_r:=fun st:List Int=>lg (s:=s) (p:=p) p0 (ts.map fun t=>t.worth ns (cs++[(i:Int)]++st) p)
   have sr:=pX (p:=p) p0 (fun st:List Int=>hor s p (ts.map fun t=>t.worth ns (cs++[(i:Int)]++st) p)) hor_r (bE (ns.length-(cs.length+1)));have hL5:=S5 _ _ hL4;refine⟨.inl ⟨rfl,_,zG0 hL5⟩,D,_,rfl,zG0 hD5,?_,?_,?_⟩
   . intro n hn;obtain⟨st,_,rfl⟩:=List.mem_map.mp hn;exact(hor_r st).1
   . exact sum63 p0 p40 (s64 nl) sr.2
   refine⟨C,dx,_,_,S5 _ _ hg4,T.cl,T.nF,lh ..,p0,L,_,_,rfl,rfl,hL5,?_,?_⟩
   . exact CI hi d500
   . refine ⟨_,_,rfl,?_,fun c o hc e=>?_⟩
     . rw [aE];unfold jb;rw[List.range_succ,zM0,zM0];have e2:((bE (ns.length-(cs.length+1))).map fun st=>hor s p (ts.map fun t=>t.worth ns (cs++[(i:Int)]++st) p)).sum % p=jq ns ts s p (cs++[(i:Int)]):=by
        unfold jq;rw[zO0,qU0,show(fun st:List Int=>hor s p (ts.map fun t=>t.worth ns (cs++[(i:Int)]++st) p))=fun st=>lL s (ts.map fun t=>t.worth ns (cs++[(i:Int)]++st) p) % p from funext fun st=>oC _ _ _];exact pY p (fun st:List Int=>lL s (ts.map fun t=>t.worth ns (cs++[(i:Int)]++st) p)) _
       show some (HO.lst (_++[V.int (((bE (ns.length-(cs.length+1))).map fun st=>hor s p (ts.map fun t=>t.worth ns (cs++[(i:Int)]++st) p)).sum % p)]))=_;rw[e2];rfl
     . rw[am hc];exact S5 _ _ (S4 c o hc e)
 . rintro σ H4 ⟨x7,x8,rfl,hL4,S4⟩;exact(q L H4 L0 (S02.but L0 S4) hL4)
end
section
variable {P:Program} {w:World} {K:W.Frag} {mg:Str->Option Value} {base:Heap}
theorem neS{a b:Str}(h:¬ a=b):¬ V.str a=V.str b:=fun z=>h (V.str.inj z)
open Classical in
noncomputable def zT(p a:Int):Int:=if h:∃g:Int,0<g/\g<p/\g*a % p=1 then h.choose else 0
theorem zS{p a g k:Int}(g0:0<g)(g1:g<p)(hg:g*a % p=1)(k0:0<k)(k1:k<p)(hk:k*a % p=1):g=k:=by
 have e1:g*(k*a) % p=g:=by
  rw[Int.mul_emod,hk,Int.mul_one,Int.emod_emod,qV0 (by omega) g1]
 have e2:k*(g*a) % p=k:=by
  rw[Int.mul_emod,hg,Int.mul_one,Int.emod_emod,qV0 (by omega) k1]
 have e3:g*(k*a) % p=k*(g*a) % p:=by rw[Int.mul_left_comm]
 exact e1.symm.trans (e3.trans e2)
theorem vJ{p a g:Int}(g0:0<g)(g1:g<p)(hg:g*a % p=1):zT p a=g:=by
 have h:∃g:Int,0<g/\g<p/\g*a % p=1:=⟨g,g0,g1,hg⟩
 unfold zT;rw[dif_pos h];obtain⟨k0,k1,hk⟩:=h.choose_spec;exact zS k0 k1 hk g0 g1 hg
noncomputable def qI(p x y:Int):Int:=if y=0 then 0 else x*zT p y % p
noncomputable def opV(p:Int)(s:Str)(x y:Int):Int:=
 if s="+" then(x+y) % p else if s="-" then(x-y) % p else if s="*" then x*y % p else if s="/" then qI p x y else if s="=" then(if x=y then 1 else 0)else if x<y then 1 else 0
theorem Ad{p x y:Int}(hp:0<p):0<=qI p x y/\qI p x y<p:=by
 unfold qI
 split
 . omega
 . exact⟨zX0 _ (by omega),zY0 _ hp⟩
theorem Bd{p x y:Int}{s:Str}(hp:1<p):0<=opV p s x y/\opV p s x y<p:=by
 have m:∀z:Int,0<=z % p/\z % p<p:=fun z=>⟨zX0 _ (by omega),zY0 _ (by omega)⟩
 unfold opV
 split
 . exact m _
 . split
   . exact m _
   . split
     . exact m _
     . split
       . exact Ad (by omega)
       . split <;> split <;> omega
def BQ:Sp:=fun vs H Q _=>∃(x y p:Int),vs=[.int x,.int y,.int p]/\Pr p/\p<=999983/\0<=x/\x<p/\0<=y/\y<p/\Q (.int (qI p x y)) H
theorem tT:FnScope ["first","second","p"] ["first","second","p"] (ae gI):=⟨rfl,rfl,rfl,by decide +kernel,rfl,by decide +kernel,by decide +kernel⟩
theorem uq {f:Addr} {fd:FuncData} (F:Fun K "divided" "divided" gI f fd) (dZ:Cal P w K mg base 1 "inverse_of" ["a","p"] yj):FnOk P w K mg base CX0 2 f fd ["first","second","p"] BQ:=by
 refine F.ok tT (fun vs H Q E h=>?_) (fun cdv A outer s H vs Q E hr h=>?_)
 . obtain⟨x,y,p,rfl,_⟩:=h;rfl
 obtain ⟨x,y,p,rfl,pp,p9,x0,x1,y0,y1,q⟩:=h;refine⟨_,(ac (aH (ah aM (pv 1) aa (aj _)) (ad (ao aa)) ax)
  (ad (ao (ag aN (ag aW (pv 0) (ai dZ hr (by decide) rfl (af (pv 1) (af (pv 2) aJ)))) (pv 2))))),?_⟩
 unfold qI at q;refine⟨rfl,?_⟩
 by_cases c:y=0
 . rw[zI0 c]at q;exact bn (congrArg V.int c) q
 . rw[zF0 c]at q;refine aI (fun z=>c (V.int.inj z)) ?_;refine⟨y,p,rfl,pp,p9,by omega,y1,fun g g0 g1 hg=>?_⟩;rw[vJ g0 g1 hg]at q;exact⟨.inl ⟨by omega,by omega⟩,(by show 0<p;omega),q⟩
def ka:List Str:=["+","-","*","/","=","<"]
def CD:Sp:=fun vs H Q _=>∃(s:Str)(x y p:Int),vs=[.str s,.int x,.int y,.int p]/\s∈ka/\Pr p/\p<=999983/\0<=x/\x<p/\0<=y/\y<p/\Q (.int (opV p s x y)) H
theorem rj:FnScope ["sign","first","second","p"] ["sign","first","second","p"] (ae fh):=⟨rfl,rfl,rfl,by decide +kernel,rfl,by decide +kernel,by decide +kernel⟩
theorem Cd {p x y:Int}:opV p "+" x y=(x+y) % p:=zI0 rfl
theorem Cc {p x y:Int}:opV p "-" x y=(x-y) % p:=by unfold opV;rw[zF0 (by decide +kernel),zI0 rfl]
theorem Cb {p x y:Int}:opV p "*" x y=x*y % p:=by unfold opV;rw[zF0 (by decide +kernel),zF0 (by decide +kernel),zI0 rfl]
theorem Ca {p x y:Int}:opV p "/" x y=qI p x y:=by unfold opV;rw[zF0 (by decide +kernel),zF0 (by decide +kernel),zF0 (by decide +kernel),zI0 rfl]
theorem BZ {p x y:Int}:opV p "=" x y=if x=y then 1 else 0:=by unfold opV;rw[zF0 (by decide +kernel),zF0 (by decide +kernel),zF0 (by decide +kernel),zF0 (by decide +kernel),zI0 rfl]
theorem BY {p x y:Int}:opV p "<" x y=if x<y then 1 else 0:=by unfold opV;rw[zF0 (by decide +kernel),zF0 (by decide +kernel),zF0 (by decide +kernel),zF0 (by decide +kernel),zF0 (by decide +kernel)]
theorem rR {f:Addr} {fd:FuncData} (F:Fun K "op_value" "op_value" fh f fd) (n8:Cal P w K mg base 2 "divided" ["first","second","p"] BQ):FnOk P w K mg base CX0 3 f fd ["sign","first","second","p"] CD:=by
 refine F.ok rj (fun vs H Q E h=>?_) (fun cdv A outer s H vs Q E hr h=>?_)
 . obtain⟨s,x,y,p,rfl,_⟩:=h;rfl
 obtain⟨s,x,y,p,rfl,hs,pp,p9,x0,x1,y0,y1,q⟩:=h;have p0:0<p:=by omega
 refine ⟨_,(ac (aH (ah aM (pv 0) aq (aj _)) (ad (ao (ag aN (ag aR (pv 1) (pv 2)) (pv 3)))) ax)
  (ac (aH (ah aM (pv 0) aq (aj _)) (ad (ao (ag aN (ag aQ (pv 1) (pv 2)) (pv 3)))) ax)
  (ac (aH (ah aM (pv 0) aq (aj _)) (ad (ao (ag aN (ag aW (pv 1) (pv 2)) (pv 3)))) ax)
  (ac (aH (ah aM (pv 0) aq (aj _)) (ad (ao (ai n8 hr (by decide) rfl (af (pv 1) (af (pv 2) (af (pv 3) aJ)))))) ax)
  (ac (aH (ah aM (pv 0) aq (aj _)) (ad (ao (kU (ah aM (pv 1) (pv 2) (aj _)) aa aa))) ax)
  (ad (ao (kU (ah cU (pv 1) (pv 2) (aj _)) aa aa)))))))),?_⟩
 have hs':s="+"∨s="-"∨s="*"∨s="/"∨s="="∨s="<":=by simpa [ka]using hs
 rcases hs' with rfl | rfl | rfl | rfl | rfl | rfl
 . rw[Cd]at q;refine⟨rfl,bDV rfl ?_⟩;exact⟨p0,q⟩
 . rw[Cc]at q;refine⟨rfl,aY (neS (by decide +kernel)) ?_⟩;refine⟨rfl,bDV rfl ?_⟩;exact⟨p0,q⟩
 . rw[Cb]at q;refine⟨rfl,aY (neS (by decide +kernel)) ?_⟩;refine⟨rfl,aY (neS (by decide +kernel)) ?_⟩;refine⟨rfl,bDV rfl ?_⟩;exact⟨.inl ⟨by omega,by omega⟩,p0,q⟩
 . rw[Ca]at q;refine⟨rfl,aY (neS (by decide +kernel)) ?_⟩;refine⟨rfl,aY (neS (by decide +kernel)) ?_⟩;refine⟨rfl,aY (neS (by decide +kernel)) ?_⟩;refine⟨rfl,bDV rfl ?_⟩;exact⟨x,y,p,rfl,pp,p9,x0,x1,y0,y1,q⟩
 . rw [BZ]at q;refine⟨rfl,aY (neS (by decide +kernel)) ?_⟩;refine⟨rfl,aY (neS (by decide +kernel)) ?_⟩;refine⟨rfl,aY (neS (by decide +kernel)) ?_⟩;refine⟨rfl,aY (neS (by decide +kernel)) ?_⟩;refine⟨rfl,bDV rfl ?_⟩;refine⟨rfl,?_⟩
   by_cases c:x=y
   . rw[zI0 c]at q;exact bn (congrArg V.int c) q
   . rw[zF0 c]at q;exact aI (fun z=>c (V.int.inj z)) q
 . rw [BY]at q;refine⟨rfl,aY (neS (by decide +kernel)) ?_⟩;refine⟨rfl,aY (neS (by decide +kernel)) ?_⟩;refine⟨rfl,aY (neS (by decide +kernel)) ?_⟩;refine⟨rfl,aY (neS (by decide +kernel)) ?_⟩;refine⟨rfl,aY (neS (by decide +kernel)) ?_⟩;refine ?_
   by_cases c:x<y
   . rw[zI0 c]at q;exact bn c q
   . rw[zF0 c]at q;exact aI c q
end
section
variable {P:Program} {w:World} {K:W.Frag} {mg:Str->Option Value} {base:Heap}
theorem kN{X:Cx}{ss:List Stmt}{t t':TS}(h:PSs X ss t)(hw:∀D σ H,t' D σ H->t D σ H):PSs X ss t':=fun pins s σ H D I k=>h pins s σ H D I (hw _ _ _ k)
inductive Tm where
 | num (n:Int) | box (x:Str) | plain (w:Str) | ask (w:Str) (a:Tm) | op (s:Str) (a b:Tm)
def Tm.depth:Tm->Nat
 | .num _=>1 | .box _=>1 | .plain _=>1 | .ask _ a=>a.depth+1 | .op _ a b=>max a.depth b.depth+1
theorem Tm.depth_pos:∀t:Tm,1<=t.depth
 | .num _=>zJ0 _ | .box _=>zJ0 _ | .plain _=>zJ0 _ | .ask _ a=>Nat.le_add_left .. | .op _ a b=>Nat.le_add_left ..
def iR:List Str:=["round","due","asked"]
def BD:List Str:=["coin","true"]
inductive TmAt(H:Hp):V->Tm->Prop
 | num {a:Addr} {n:Int}:H a=some (.tup [.str "num",.int n])->TmAt H (.ref a) (.num n)
 | box {a:Addr} {x:Str}:H a=some (.tup [.str "box",.str x])->TmAt H (.ref a) (.box x)
 | plain {a:Addr} {w:Str}:H a=some (.tup [.str w])->TmAt H (.ref a) (.plain w)
 | ask {a:Addr} {w:Str} {v:V} {t:Tm}:H a=some (.tup [.str w,v])->TmAt H v t->TmAt H (.ref a) (.ask w t)
 | op {a:Addr} {s:Str} {v u:V} {t r:Tm}:H a=some (.tup [.str "op",.str s,v,u])->TmAt H v t->TmAt H u r->TmAt H (.ref a) (.op s t r)
theorem TmAt.mono{H H':Hp}(k:bu H H'){v:V}{t:Tm}(h:TmAt H v t):TmAt H' v t:=by
 induction h with
 | num e=>exact .num (k _ _ e)
 | box e=>exact .box (k _ _ e)
 | plain e=>exact .plain (k _ _ e)
 | ask e _ ih=>exact .ask (k _ _ e) ih
 | op e _ _ i1 i2=>exact .op (k _ _ e) i1 i2
inductive Hr where
 | fin | go (n:Int) | iff (t:Tm) (n:Int) | set (x:Str) (t:Tm) | say (t:Tm)
inductive HrAt(H:Hp):V->Hr->Prop
 | fin {a:Addr}:H a=some (.tup [.str "end"])->HrAt H (.ref a) .fin
 | go {a:Addr} {n:Int}:H a=some (.tup [.str "go",.int n])->HrAt H (.ref a) (.go n)
 | iff {a:Addr} {v:V} {t:Tm} {n:Int}:H a=some (.tup [.str "if",v,.int n])->TmAt H v t->HrAt H (.ref a) (.iff t n)
 | set {a:Addr} {x:Str} {v:V} {t:Tm}:H a=some (.tup [.str "set",.str x,v])->TmAt H v t->HrAt H (.ref a) (.set x t)
 | say {a:Addr} {v:V} {t:Tm}:H a=some (.tup [.str "say",v])->TmAt H v t->HrAt H (.ref a) (.say t)
theorem HrAt.mono{H H':Hp}(k:bu H H'){v:V}{r:Hr}(h:HrAt H v r):HrAt H' v r:=by
 cases h with
 | fin e=>exact .fin (k _ _ e)
 | go e=>exact .go (k _ _ e)
 | iff e t=>exact .iff (k _ _ e) (t.mono k)
 | set e t=>exact .set (k _ _ e) (t.mono k)
 | say e t=>exact .say (k _ _ e) (t.mono k)
section
variable {CM CA CG:Addr}
abbrev jP:Stmt:=dE jp 0
abbrev iC:Stmt:=dE jp 1
abbrev jQ:Stmt:=dE jp 2
abbrev gJ:Stmt:=dE jp 3
abbrev jO:Stmt:=dE jp 4
abbrev jI:Stmt:=dE jJ 0
abbrev lG:Stmt:=dE jJ 1
abbrev lH:Stmt:=dE jJ 2
abbrev lI:Stmt:=dE jJ 3
def al (g:Addr) (nr mn hd s:Int) (aT:Addr) (tr:V):List (Str×V):=[("game",.ref g),("number",.int nr),("many",.int mn),("held",.int hd),("s",.int s),("tossed",.ref aT),("truths",tr)]
theorem qP {g:Addr} {nr mn hd s:Int} {aT:Addr} {tr:V}:(al g nr mn hd s aT tr).lookup ("game":Str)=some (.ref g):=by with_unfolding_all rfl
structure ATxt(K:W.Frag)(mg:Str->Option Value)(C:Addr):Prop where
 cl:Cls K C
 nG:NoAttr K C "game"
 nN:NoAttr K C "number"
 nM:NoAttr K C "many"
 nH:NoAttr K C "held"
 nS:NoAttr K C "s"
 nT:NoAttr K C "tossed"
 nR:NoAttr K C "truths"
 mgC:mg "Asking"=some (.ref C)
def ml (g h:Addr) (r:Int) (b:Addr):List (Str×V):=[("game",.ref g),("helper",.ref h),("next_round",.int r),("boxes",.ref b)]
section
variable {g h b:Addr} {r:Int}
theorem Dl:(ml g h r b).lookup ("game":Str)=some (.ref g):=by with_unfolding_all rfl
theorem Dk:(ml g h r b).lookup ("helper":Str)=some (.ref h):=by with_unfolding_all rfl
theorem ml_r:(ml g h r b).lookup ("next_round":Str)=some (.int r):=by with_unfolding_all rfl
theorem zI:(ml g h r b).lookup ("boxes":Str)=some (.ref b):=by with_unfolding_all rfl
theorem ml_n1:(ml g h r b).lookup ("do_row":Str)=none:=by with_unfolding_all rfl
theorem ml_n2:(ml g h r b).lookup ("say":Str)=none:=by with_unfolding_all rfl
theorem vI:(ml g h r b).lookup ("box":Str)=none:=by with_unfolding_all rfl
theorem Dj:(ml g h r b).length<1000:=by show 4<1000;decide
theorem Di {v:Int}:cr "next_round" (.int v) (ml g h r b)=ml g h v b:=by with_unfolding_all rfl
end
structure MTxt(K:W.Frag)(mg:Str->Option Value)(C:Addr):Prop where
 cl:Cls K C
 nG:NoAttr K C "game"
 nH:NoAttr K C "helper"
 nR:NoAttr K C "next_round"
 nB:NoAttr K C "boxes"
 mgC:mg "Machine"=some (.ref C)
def BxAt(H:Hp)(b:Addr)(bx:Str->Int)(m:Nat):Prop:=∃kvs:List (Key×V),H b=some (.dK kvs)/\kvs.length<=m/\∀x:Str,(bN kvs (.inr x)).getD (.int 0)=.int (bx x)
def sR(bx:Str->Int)(x:Str)(n:Int):Str->Int:=fun y=>if y=x then n else bx y
theorem BxAt.keep{H H':Hp}{b:Addr}{bx:Str->Int}{m:Nat}(h:BxAt H b bx m)(k:∀o,H b=some o->H' b=some o):BxAt H' b bx m:=by
 obtain⟨kvs,e,r⟩:=h;exact⟨kvs,k _ e,r⟩
theorem Ah{kvs:List (Key×V)}{bx:Str->Int}(x:Str)(n:Int)(h:∀x:Str,(bN kvs (.inr x)).getD (.int 0)=.int (bx x)):∀y:Str,(bN (fD kvs (.inr x) (.int n)) (.inr y)).getD (.int 0)=.int (sR bx x n y):=fun y=>by
 rw[jg];unfold sR
 by_cases c:y=x
 . rw[zI0 (by rw[c]),zI0 c];rfl
 . rw[zF0 (fun z=>c (Sum.inr.inj z)),zF0 c];exact h y
section
variable {g aT:Addr} {nr mn hd s:Int} {tr:V}
theorem DL:(al g nr mn hd s aT tr).lookup ("number":Str)=some (.int nr):=by with_unfolding_all rfl
theorem al_m:(al g nr mn hd s aT tr).lookup ("many":Str)=some (.int mn):=by with_unfolding_all rfl
theorem al_h:(al g nr mn hd s aT tr).lookup ("held":Str)=some (.int hd):=by with_unfolding_all rfl
theorem al_s:(al g nr mn hd s aT tr).lookup ("s":Str)=some (.int s):=by with_unfolding_all rfl
theorem al_t:(al g nr mn hd s aT tr).lookup ("tossed":Str)=some (.ref aT):=by with_unfolding_all rfl
theorem BE:(al g nr mn hd s aT tr).lookup ("truths":Str)=some tr:=by with_unfolding_all rfl
theorem al_n1:(al g nr mn hd s aT tr).lookup ("plain_value":Str)=none:=by with_unfolding_all rfl
theorem al_n2:(al g nr mn hd s aT tr).lookup ("coin_at":Str)=none:=by with_unfolding_all rfl
theorem al_n3:(al g nr mn hd s aT tr).lookup ("true_numbers":Str)=none:=by with_unfolding_all rfl
theorem al_n4:(al g nr mn hd s aT tr).lookup ("true_at":Str)=none:=by with_unfolding_all rfl
theorem Aj {v:V}:cr "truths" v (al g nr mn hd s aT tr)=al g nr mn hd s aT v:=by with_unfolding_all rfl
theorem Al:(al g nr mn hd s aT tr).length<1000:=by show 7<1000;decide
end
structure Ak where
 ns:List Str
 ts:List Tr
 p:Int
 nr:Int
 mn:Int
 hd:Int
 s:Int
 to:List Int
def Ak.tru (z:Ak):List Int:=if z.nr=0 then z.ts.map (fun t=>(cnt t z.ns:Int))else jb z.ns z.ts z.s z.p z.to (aZ z.ts (z.ns.getD z.to.length "")+1).toNat
structure AkOk(z:Ak):Prop where
 gk:GmK z.ns z.ts z.p
 n6:z.ns.length<=6
 nr0:0<=z.nr
 nrt:0<z.nr->z.to.length<z.ns.length
 po:dy z.to z.p
 s0:0<=z.s
 s1:z.s<z.p
 h0:0<=z.hd
 h1:z.hd<z.p
 tl:z.to.length<=100
def AkAt(CA CG:Addr)(H:Hp)(k g v:Addr)(z:Ak):Prop:=∃(dk aT a b d:Addr)(tv:List V)(tr:V),H k=some (.ins CA dk (al g z.nr z.mn z.hd z.s aT tr))/\GameAt CG H g a b d z.p/\H a=some (.tup (z.ns.map V.str))/\H b=some (.tup tv)/\TreesAt H tv z.ts/\H d=some (.lst ((z.ns.map (aZ z.ts)).map V.int))/\d≠v/\H aT=some (.tup (z.to.map V.int))/\(tr=.non∨∃l,tr=.ref l/\l≠v/\H l=some (.lst (z.tru.map V.int)))
theorem AkAt.same{H H':Hp}{k g v:Addr}{z:Ak}(h:AkAt CA CG H k g v z)(s:Same H H'):AkAt CA CG H' k g v z:=by
 obtain⟨dk,aT,a,b,d,tv,tr,h1,h2,h3,h4,h5,h6,h7,h8,h9⟩:=h;exact⟨dk,aT,a,b,d,tv,tr,s _ _ h1,h2.same s,s _ _ h3,s _ _ h4,h5.mono (aX s),s _ _ h6,h7,s _ _ h8,h9.imp_right fun⟨l,e,n,r⟩=>⟨l,e,n,s _ _ r⟩⟩
theorem AkAt.but2{H H':Hp}{k g v b:Addr}{z:Ak}{kvs:List (Key×V)}{ys:List V}(h:AkAt CA CG H k g v z)(hb:H b=some (.dK kvs))(hv:H v=some (.lst ys))(s:∀a o,a≠b->a≠v->H a=some o->H' a=some o):AkAt CA CG H' k g v z:=by
 obtain⟨dk,aT,a,b',d,tv,tr,h1,⟨dg,h2⟩,h3,h4,h5,h6,h7,h8,h9⟩:=h;have T:bu H H':=fun c xs e=>s _ _ (be e hb (by intro z;cases z)) (be e hv (by intro z;cases z)) e
 exact⟨dk,aT,a,b',d,tv,tr,s _ _ (be h1 hb (by intro z;cases z)) (be h1 hv (by intro z;cases z)) h1,⟨dg,s _ _ (be h2 hb (by intro z;cases z)) (be h2 hv (by intro z;cases z)) h2⟩,T _ _ h3,T _ _ h4,h5.mono T,s _ _ (be h6 hb (by intro z;cases z)) h7 h6,h7,T _ _ h8,h9.imp_right fun⟨l,e,n,r⟩=>⟨l,e,n,s _ _ (be r hb (by intro z;cases z)) n r⟩⟩
def hV(z:Ak):List Int:=if 1<z.ts.length then z.s::z.to else z.to
def gU(z:Ak)(i:Int):Int:=if 1<=i/\i<=((hV z).length:Int)then(hV z).getD (i-1).toNat 0 else 0
def cP(z:Ak)(i:Int):Int:=if 0<z.nr then val z.p z.tru i else if i<(z.tru.length:Int)then z.tru.getD i.toNat 0 % z.p else 0
def jv (z:Ak) (w:Str):Int:=if w="round" then z.nr % z.p else if w="asked" then z.mn % z.p else z.hd
theorem AkOk.p0{z:Ak}(k:AkOk z):2<z.p:=k.gk.p2
theorem sD{p:Int}{xs:List Int}(h:dy xs p)(p0:0<p)(i:Nat):0<=xs.getD i 0/\xs.getD i 0<p:=by
 rw[qX0];cases e:xs[i]? with
 | none=>exact⟨Int.le_refl 0,p0⟩
 | some x=>exact h x (qJ0 e)
theorem Ag{z:Ak}(k:AkOk z):dy (hV z) z.p:=by
 unfold hV
 split
 . intro x hx;rcases zZ0 hx with rfl | hx
   . exact⟨k.s0,k.s1⟩
   . exact k.po x hx
 . exact k.po
theorem xE{z:Ak}(k:AkOk z)(i:Int):0<=gU z i/\gU z i<z.p:=by
 have:=k.p0
 unfold gU
 split
 . exact sD (Ag k) (by omega) _
 . omega
theorem wj{z:Ak}(k:AkOk z)(i:Int):0<=cP z i/\cP z i<z.p:=by
 have:=k.p0
 unfold cP
 split
 . exact⟨zX0 _ (by omega),zY0 _ (by omega)⟩
 . split
   . exact⟨zX0 _ (by omega),zY0 _ (by omega)⟩
   . omega
theorem tZ{z:Ak}(k:AkOk z)(w:Str):0<=jv z w/\jv z w<z.p:=by
 have:=k.p0
 unfold jv
 split
 . exact⟨zX0 _ (by omega),zY0 _ (by omega)⟩
 . split
   . exact⟨zX0 _ (by omega),zY0 _ (by omega)⟩
   . exact⟨k.h0,k.h1⟩
def vg(CA CG:Addr):Sp:=fun vs H Q _=>∃(k g v:Addr)(z:Ak)(w:Str),vs=[.ref k,.str w]/\AkAt CA CG H k g v z/\0<z.p/\Q (.int (jv z w)) H
theorem wx:FnScope ["self","word"] ["self","word"] (ae iC):=⟨rfl,rfl,rfl,by decide +kernel,rfl,by decide +kernel,by decide +kernel⟩
theorem wP {f:Addr} {fd:FuncData} (F:Fun K "plain_value" "Asking.plain_value" iC f fd) (TA:ATxt K mg CA) (TG:GTxt K mg CG):FnOk P w K mg base CX0 1 f fd ["self","word"] (vg CA CG):=by
 refine F.ok wx (fun vs H Q E h=>?_) (fun cdv A outer s H vs Q E hr h=>?_)
 . obtain⟨k,g,v,z,w,rfl,_⟩:=h;rfl
 obtain ⟨k,g,v,z,w,rfl,⟨dk,aT,a,b,d,tv,tr,hk,⟨dg,hg⟩,_⟩,p0,q⟩:=h;refine⟨_,(ac (aH (ah aM (pv 1) aq (aj _)) (ad (ao (ag aN (aP (pv 0) rfl) (aP (aP (pv 0) rfl) rfl)))) ax)
  (ac (aH (ah aM (pv 1) aq (aj _)) (ad (ao (ag aN (aP (pv 0) rfl) (aP (aP (pv 0) rfl) rfl)))) ax)
  (ad (ao (aP (pv 0) rfl))))),?_⟩
 unfold jv at q;refine⟨rfl,?_⟩
 by_cases c:w="round"
 . rw[zI0 c]at q;refine bn (congrArg V.str c) ?_;exact⟨CA,dk,_,_,hk,TA.cl,TA.nN,DL,CA,dk,_,_,hk,TA.cl,TA.nG,qP,CG,dg,_,_,hg,TG.cl,TG.nF,lh ..,p0,q⟩
 . rw [zF0 c]at q;refine aY (neS c) ?_;refine⟨rfl,?_⟩
   by_cases c:w="asked"
   . rw[zI0 c]at q;refine bn (congrArg V.str c) ?_;exact⟨CA,dk,_,_,hk,TA.cl,TA.nM,al_m,CA,dk,_,_,hk,TA.cl,TA.nG,qP,CG,dg,_,_,hg,TG.cl,TG.nF,lh ..,p0,q⟩
   . rw[zF0 c]at q;refine aY (neS c) ?_;exact⟨CA,dk,_,_,hk,TA.cl,TA.nH,al_h,q⟩
def rh(CA CG:Addr):Sp:=fun vs H Q _=>∃(k g v:Addr)(z:Ak)(i:Int),vs=[.ref k,.int i]/\AkAt CA CG H k g v z/\z.to.length<=100/\∀H',Same H H'->Q (.int (gU z i)) H'
theorem t9:FnScope ["self","place","tossed"] ["self","place"] (ae jQ):=⟨rfl,rfl,rfl,by decide +kernel,rfl,by decide +kernel,by decide +kernel⟩
def Cz(z:Ak):TS:=fun Dn σ H=>∃(x0:Option V)(a:Addr)(i:Int),σ=[x0,some (.int i),some (.ref a)]/\H a=some (.tup ((hV z).map V.int))/\Dn.rt (.int (gU z i)) H
theorem zv {f:Addr} {fd:FuncData} (F:Fun K "coin_at" "Asking.coin_at" jQ f fd) (B:Bl mg) (TA:ATxt K mg CA) (TG:GTxt K mg CG):FnOk P w K mg base CX0 1 f fd ["self","place"] (rh CA CG):=by
 refine F.ok t9 (fun vs H Q E h=>?_) (fun cdv A outer s H vs Q E hr h=>?_)
 . obtain⟨k,g,v,z,i,rfl,_⟩:=h;rfl
 obtain ⟨k,g,v,z,i,rfl,⟨dk,aT,a,b,d,tv,tr,hk,⟨dg,hg⟩,ha,hb,TS,_,_,hT,_⟩,tl,q⟩:=h;have vl:=TS.length;refine⟨_,(ac (ak (i:=2) t9.nd rfl (Or.inl rfl) (aP (pv 0) rfl))
  (ac (aH (ah eE (aD az rfl B.len PySem.boot_len (af (aP (aP (pv 0) rfl) rfl) aJ)) aa (aj _)) (ad (ak (i:=2) t9.nd rfl (Or.inl rfl) (ag op_catT (bd (af (aP (pv 0) rfl) aJ)) (pv 2)))) ax)
  (kN (t':=Cz z) (ac (aH (yL vH vH aa (pv 1) (aD az rfl B.len PySem.boot_len (af (pv 2) aJ))) (ad (ao (av aB (pv 2) (ag aQ (pv 1) aa) (fun _ _=>rfl)))) ax)
  (ad (ao aa))) (by
   rintro Dn σ H ⟨x0,a,i,rfl,ha,q⟩;unfold gU at q;refine⟨_,rfl,?_⟩;have el:(((hV z).map V.int).length:Int)=((hV z).length:Int):=by rw[zH0]
   by_cases c1:1<=i
   . refine bn c1 ?_;refine⟨a,_,rfl,.inr (zD0 ha),?_⟩
     by_cases c2:i<=((hV z).length:Int)
     . rw [zI0 ⟨c1,c2⟩]at q;refine bn (by rw[el];exact c2) ?_;obtain⟨j,ej⟩:∃j:Nat,i-1=(j:Int):=⟨(i-1).toNat,by omega⟩
       rw[ej,qT0]at q;refine⟨_,_,zD0 ha,?_,q⟩;rw[ej];exact vK (by omega)
     . rw[zF0 (fun z=>c2 z.2)]at q;exact aI (by rw[el];exact c2) q
   . rw[zF0 (fun z=>c1 z.1)]at q;exact aI c1 (q))))),?_⟩
 refine⟨CA,dk,_,_,hk,TA.cl,TA.nT,al_t,?_⟩;refine⟨CA,dk,_,_,hk,TA.cl,TA.nG,qP,CG,dg,_,_,hg,TG.cl,TG.nT,sB ..,b,_,rfl,.inr (zD0 hb),?_⟩
 by_cases c:1<z.ts.length
 . refine bn (by rw[vl];omega) ?_;have ec:hV z=z.s::z.to:=zI0 c;refine⟨CA,dk,_,_,hk,TA.cl,TA.nS,al_s,(by show 1<=sizeLine;decide),fun t ht=>?_⟩;have I:=zE0 ht (.tup [.int z.s]);have g1:upd H t (.tup [.int z.s]) t=some (.tup [.int z.s]):=aE;generalize upd H t (.tup [.int z.s])=H1 at I g1;refine⟨t,aT,_,_,rfl,rfl,zD0 g1,zD0 (I _ _ hT),(fun z=>nomatch z),cu (by show 1+(z.to.map V.int).length<=1000;rw[zH0];omega),fun e=>?_,fun _ y hy=>?_⟩
   . refine⟨_,t,i,rfl,?_,q _ I⟩;rw[ec,g1,qG0,e]
   . refine⟨_,y,i,rfl,?_,q _ (I.trans (zE0 hy _))⟩;rw[aE,ec];rfl
 . refine aI (by rw[vl];omega) ?_;have ec:hV z=z.to:=zF0 c;exact⟨_,aT,i,rfl,by rw[ec];exact hT,q _ fun _ _ e=>e⟩
end
end
section
variable {P:Program} {w:World} {K:W.Frag} {mg:Str->Option Value} {base:Heap}
section
variable {CM CA CG:Addr}
theorem yG(ns:List Str)(ts:List Tr)(s p:Int)(cs:List Int)(n:Nat):(jb ns ts s p cs n).length=n:=by
 unfold jb;rw[zH0,qW0]
theorem yF{ns:List Str}{ts:List Tr}{s p:Int}{cs:List Int}{n:Nat}(hp:0<p):dy (jb ns ts s p cs n) p:=fun x hx=>by
 unfold jb at hx;obtain⟨k,_,rfl⟩:=List.mem_map.mp hx;exact⟨zX0 _ (by omega),zY0 _ hp⟩
theorem AkOk.deg {z:Ak} (k:AkOk z) (h:0<z.nr):∃x,z.ns[z.to.length]?=some x/\z.ns.getD z.to.length ""=x/\0<=aZ z.ts x/\aZ z.ts x<z.p/\aZ z.ts x<=400:=by
 have hl:=k.nrt h;refine⟨z.ns[z.to.length],zU0 hl,by rw[qX0,zU0 hl];rfl,?_⟩;have hm:=qY0 hl;obtain⟨d0,d1⟩:=k.gk.deg _ hm;refine⟨d0,d1,?_⟩;have t0:z.ts≠[]:=fun e=>by have:=k.gk.t1;rw[e]at this;cases this
 have:=oJ (p:=401) (x:=z.ns[z.to.length]) t0 fun t ht=>by
  have h1:=(k.gk.tok t ht).2.2.2;have h2:=t.names_len;have h3:=List.count_le_length (a:=z.ns[z.to.length]) (l:=t.names);omega
 omega
theorem AkOk.row{z:Ak}(k:AkOk z)(h:0<z.nr):Am z.tru z.p:=by
 obtain ⟨x,hx,ex,d0,d1,d4⟩:=k.deg h;have p2:=k.p0;have p9:=k.gk.p9;have e:z.tru=jb z.ns z.ts z.s z.p z.to (aZ z.ts x+1).toNat:=by
  unfold Ak.tru;rw[zF0 (by omega),ex]
 rw[e];unfold Am;rw[yG];refine⟨by omega,by omega,by omega,fun j=>?_⟩
 have:=sD (yF (ns:=z.ns) (ts:=z.ts) (s:=z.s) (cs:=z.to) (n:=(aZ z.ts x+1).toNat) (show 0<z.p by omega)) (by omega) j
 omega
def rb(CA CG:Addr):Sp:=fun vs H Q _=>∃(k g v:Addr)(z:Ak)(ys:List V),vs=[.ref k]/\AkAt CA CG H k g v z/\AkOk z/\H v=some (.lst ys)/\∀(l:Addr)(H':Hp),H' l=some (.lst (z.tru.map V.int))->AkAt CA CG H' k g v z->SameBut k H H'->Q (.ref l) H'
theorem tU:FnScope ["self"] ["self"] (ae gJ):=⟨rfl,rfl,rfl,by decide +kernel,rfl,by decide +kernel,by decide +kernel⟩
theorem ur {f:Addr} {fd:FuncData} (F:Fun K "true_numbers" "Asking.true_numbers" gJ f fd) (TA:ATxt K mg CA) (jH:Cal P w K mg base 16 "counts_of" ["game"] (rf CG)) (lZ:Cal P w K mg base 14 "true_row" ["game","s","coins"] (yb CG)):FnOk P w K mg base CX0 17 f fd ["self"] (rb CA CG):=by
 refine F.ok tU (fun vs H Q E h=>?_) (fun cdv A outer s H vs Q E hr h=>?_)
 . obtain⟨k,g,v,z,ys,rfl,_⟩:=h;rfl
 obtain ⟨k,g,v,z,ys,rfl,AK,ok,hv,q⟩:=h;refine⟨_,(ac (aH (ah CZ (aP (pv 0) rfl) yR (aj _)) (ad (aH (ah aM (aP (pv 0) rfl) aa (aj _)) (ad (cN (pv 0) (ai jH hr (by decide) rfl (af (aP (pv 0) rfl) aJ)) rfl)) (ad (cN (pv 0) (ai lZ hr (by decide) rfl (af (aP (pv 0) rfl) (af (aP (pv 0) rfl) (af (aP (pv 0) rfl) aJ)))) rfl)))) ax)
  (ad (ao (aP (pv 0) rfl)))),?_⟩
 have AK':=AK;obtain⟨dk,aT,a,b,d,tv,tr,hk,GA,ha,hb,TS,hd,dv,hT,ht⟩:=AK';have t0:z.ts≠[]:=fun e=>by have:=ok.gk.t1;rw[e]at this;cases this
 have t10:=ok.gk.t10;have p2:=ok.p0;have p9:=ok.gk.p9;refine⟨CA,dk,_,_,hk,TA.cl,TA.nR,BE,?_⟩;rcases ht with rfl | ⟨l,rfl,lv,hl⟩
 . -- not yet asked
   have put:∀(l:Addr)(H1:Hp),H l=none->Same H H1->H1 l=some (.lst (z.tru.map V.int))->AkAt CA CG (upd H1 k (.ins CA dk (al g z.nr z.mn z.hd z.s aT (.ref l)))) k g v z/\(upd H1 k (.ins CA dk (al g z.nr z.mn z.hd z.s aT (.ref l)))) l=some (.lst (z.tru.map V.int))/\SameBut k H (upd H1 k (.ins CA dk (al g z.nr z.mn z.hd z.s aT (.ref l)))):=by
    intro l H1 l0 S1 hl;have lk:l≠k:=(aO hk l0).symm;have U:∀{c:Addr}{o:HO},c≠k->H1 c=some o->(upd H1 k (.ins CA dk (al g z.nr z.mn z.hd z.s aT (.ref l)))) c=some o:=fun n e=>by rw[am n];exact e
    have gk:g≠k:=fun e=>by
     obtain⟨dg,hg⟩:=GA;rw[e,hk]at hg;cases hg
    have kT:bu H (upd H1 k (.ins CA dk (al g z.nr z.mn z.hd z.s aT (.ref l)))):=fun c xs e=>U (be e hk (by intro z;cases z)) (S1 _ _ e)
    obtain⟨dg,hg⟩:=GA;exact⟨⟨dk,aT,a,b,d,tv,.ref l,aE,⟨dg,U gk (S1 _ _ hg)⟩,kT _ _ ha,kT _ _ hb,TS.mono kT,U (be hd hk (by intro z;cases z)) (S1 _ _ hd),dv,kT _ _ hT,.inr ⟨l,rfl,(aO hv l0).symm,U lk hl⟩⟩,U lk hl,(zL0 S1).trans (SameBut.upd _)⟩
   refine⟨rfl,?_⟩;refine⟨CA,dk,_,_,hk,TA.cl,TA.nN,DL,rfl,?_⟩
   by_cases c:z.nr=0
   . refine bn (congrArg V.int c) ?_;refine⟨CA,dk,_,_,hk,TA.cl,TA.nG,qP,g,a,b,d,z.ns,tv,z.ts,z.p,rfl,GA,ha,ok.n6,hb,TS,t10,fun t ht=>⟨(ok.gk.tok t ht).1,by have:=(ok.gk.tok t ht).2.2.1;omega⟩,fun l H1 l0 S1 hl=>?_⟩;have et:z.tru=z.ts.map (fun t=>(cnt t z.ns:Int)):=zI0 c;rw[←et]at hl;obtain⟨A1,L1,B1⟩:=put l H1 l0 S1 hl;refine⟨k,CA,dk,_,rfl,S1 _ _ hk,TA.cl,TA.nR,Al,?_⟩;rw[Aj];exact⟨CA,dk,_,_,aE,TA.cl,TA.nR,BE,q l _ L1 A1 B1⟩
   . refine aI (fun e=>c (V.int.inj e)) ?_;have n0:=ok.nr0;obtain⟨x,hx,ex,d0,d1,d4⟩:=ok.deg (by omega);refine⟨CA,dk,_,_,hk,TA.cl,TA.nG,qP,CA,dk,_,_,hk,TA.cl,TA.nS,al_s,CA,dk,_,_,hk,TA.cl,TA.nT,al_t,g,a,b,d,aT,z.ns,tv,z.ts,z.to,x,z.s,z.p,rfl,GA,ha,ok.n6,hb,TS,t0,t10,fun t ht=>⟨(ok.gk.tok t ht).1,(ok.gk.tok t ht).2.2.1⟩,hd,hT,hx,d1,by omega,ok.po,by omega,by omega,fun l H1 l0 S1 hl=>?_⟩;have et:z.tru=jb z.ns z.ts z.s z.p z.to (aZ z.ts x+1).toNat:=by
      unfold Ak.tru;rw[zF0 c,ex]
     rw[←et]at hl;obtain⟨A1,L1,B1⟩:=put l H1 l0 S1 hl;refine⟨k,CA,dk,_,rfl,S1 _ _ hk,TA.cl,TA.nR,Al,?_⟩;rw[Aj];exact⟨CA,dk,_,_,aE,TA.cl,TA.nR,BE,q l _ L1 A1 B1⟩
 . refine⟨rfl,?_⟩;exact⟨CA,dk,_,_,hk,TA.cl,TA.nR,BE,q l H hl AK (SameBut.refl _ _)⟩
def rc(CA CG:Addr):Sp:=fun vs H Q _=>∃(k g v:Addr)(z:Ak)(ys:List V)(i:Int),vs=[.ref k,.int i]/\AkAt CA CG H k g v z/\AkOk z/\H v=some (.lst ys)/\0<=i/\i<z.p/\∀H',AkAt CA CG H' k g v z->SameBut k H H'->Q (.int (cP z i)) H'
theorem D3:FnScope ["self","place","truths"] ["self","place"] (ae jO):=⟨rfl,rfl,rfl,by decide +kernel,rfl,by decide +kernel,by decide +kernel⟩
theorem zt {f fT:Addr} {fd fdT:FuncData} (F:Fun K "true_at" "Asking.true_at" jO f fd) (B:Bl mg) (TA:ATxt K mg CA) (TG:GTxt K mg CG) (mT:Meth K CA "true_numbers" fT) (GT:FnOk P w K mg base CX0 17 fT fdT ["self"] (rb CA CG)) (bT:Binds K fdT ["self"] []) (ma:Cal P w K mg base 4 "value_at" ["values","r","p"] ve):FnOk P w K mg base CX0 18 f fd ["self","place"] (rc CA CG):=by
 refine F.ok D3 (fun vs H Q E h=>?_) (fun cdv A outer s H vs Q E hr h=>?_)
 . obtain⟨k,g,v,z,ys,i,rfl,_⟩:=h;rfl
 obtain ⟨k,g,v,z,ys,i,rfl,AK,ok,hv,i0,i1,q⟩:=h;refine⟨_,(ac (ak (i:=2) D3.nd rfl (Or.inl rfl) (yS (pv 0) TA.cl mT GT hr bT .nil fU))
  (ac (aH (ah eE (aP (pv 0) rfl) aa (aj _)) (ad (ao (ai ma hr (by decide) rfl (af (pv 2) (af (pv 1) (af (aP (aP (pv 0) rfl) rfl) aJ)))))) ax)
  (ac (aH (ah cU (pv 1) (aD az rfl B.len PySem.boot_len (af (pv 2) aJ)) (aj _)) (ad (ao (ag aN (av ix_list (pv 2) (pv 1) (fun _ _=>rfl)) (aP (aP (pv 0) rfl) rfl)))) ax)
  (ad (ao aa))))),?_⟩
 have p2:=ok.p0;have p9:=ok.gk.p9;obtain⟨dk,aT,_,_,_,_,tr,hk,_⟩:=id AK;refine⟨k,dk,_,rfl,hk,al_n3,k,g,v,z,ys,rfl,AK,ok,hv,fun l H1 hl A1 S1=>?_⟩;have A1':=A1;obtain⟨dk1,aT1,a1,b1,d1,tv1,tr1,hk1,⟨dg1,hg1⟩,_⟩:=A1';unfold cP at q;refine⟨CA,dk1,_,_,hk1,TA.cl,TA.nN,DL,?_⟩
 by_cases c:0<z.nr
 . rw[zI0 c]at q;refine bn c ?_;exact⟨CA,dk1,_,_,hk1,TA.cl,TA.nG,qP,CG,dg1,_,_,hg1,TG.cl,TG.nF,lh ..,l,z.tru,i,z.p,rfl,.inl hl,ok.row c,ok.gk.pr,p9,i0,i1,fun H2 S2=>q H2 (A1.same S2) (S1.trans (zL0 S2))⟩
 . rw [zF0 c]at q;refine aI c ?_;refine⟨l,_,rfl,.inl (zG0 hl),?_⟩;have el:((z.tru.map V.int).length:Int)=(z.tru.length:Int):=by rw[zH0]
   by_cases c2:i<(z.tru.length:Int)
   . rw[zI0 c2]at q;refine bn (by rw[el];exact c2) ?_;obtain⟨j,rfl⟩:=Int.eq_ofNat_of_zero_le i0;rw[qT0]at q;exact⟨_,_,zG0 hl,vK (by omega),CA,dk1,_,_,hk1,TA.cl,TA.nG,qP,CG,dg1,_,_,hg1,TG.cl,TG.nF,lh ..,(by show 0<z.p;omega),q H1 A1 S1⟩
   . rw[zF0 c2]at q;refine aI (by rw[el];exact c2) ?_;exact q H1 A1 S1
noncomputable def Tm.worth(z:Ak)(bx:Str->Int):Tm->Int
 | .num n=>n % z.p | .box x=>bx x | .plain w=>jv z w
 | .ask w a=>if w="coin" then gU z (a.worth z bx)else cP z (a.worth z bx)
 | .op s a b=>opV z.p s (a.worth z bx) (b.worth z bx)
def Tm.good:Tm->Prop
 | .num _=>True | .box _=>True | .plain w=>w∈iR | .ask w a=>w∈BD/\a.good | .op s a b=>s∈ka/\a.good/\b.good
def ie(p:Int)(bx:Str->Int):Prop:=∀x,0<=bx x/\bx x<p
theorem Tm.worth_rng{z:Ak}{bx:Str->Int}(k:AkOk z)(hb:ie z.p bx):∀t:Tm,0<=t.worth z bx/\t.worth z bx<z.p
 | .num n=>by have:=k.p0;exact⟨zX0 _ (by omega),zY0 _ (by omega)⟩
 | .box x=>hb x
 | .plain w=>tZ k w
 | .ask w a=>by
   show 0<=(if w="coin" then gU z (a.worth z bx)else cP z (a.worth z bx))/\(if w="coin" then gU z (a.worth z bx)else cP z (a.worth z bx))<z.p
   split
   . exact xE k _
   . exact wj k _
 | .op s a b=>by have:=k.p0;exact Bd (by omega)
def wp(CA CG:Addr)(n:Nat):Sp:=fun vs H Q _=>∃(v:V)(t:Tm)(b k g sd:Addr)(z:Ak)(ys:List V)(bx:Str->Int)(m:Nat),vs=[v,.ref b,.ref k]/\TmAt H v t/\t.good/\t.depth<=n/\BxAt H b bx m/\ie z.p bx/\AkAt CA CG H k g sd z/\AkOk z/\H sd=some (.lst ys)/\
 ∀H',AkAt CA CG H' k g sd z->SameBut k H H'->Q (.int (t.worth z bx)) H'
theorem gZ:FnScope ["term","boxes","asking","word","first","second"] ["term","boxes","asking"] (ae dH):=⟨rfl,rfl,rfl,by decide +kernel,rfl,by decide +kernel,by decide +kernel⟩
structure AskF(P:Program)(w:World)(K:W.Frag)(mg:Str->Option Value)(base:Heap)(CA CG fP fC fR:Addr)(fdP fdC fdR:FuncData):Prop where
 mP:Meth K CA "plain_value" fP
 GP:FnOk P w K mg base CX0 1 fP fdP ["self","word"] (vg CA CG)
 bP:Binds K fdP ["self","word"] []
 mC:Meth K CA "coin_at" fC
 GC:FnOk P w K mg base CX0 1 fC fdC ["self","place"] (rh CA CG)
 bC:Binds K fdC ["self","place"] []
 mR:Meth K CA "true_at" fR
 GR:FnOk P w K mg base CX0 18 fR fdR ["self","place"] (rc CA CG)
 bR:Binds K fdR ["self","place"] []
theorem xK {n:Nat} {f fP fC fR:Addr} {fd fdP fdC fdR:FuncData} (F:Fun K "value_of" "value_of" dH f fd) (TA:ATxt K mg CA) (TG:GTxt K mg CG) (M:AskF P w K mg base CA CG fP fC fR fdP fdC fdR) (eQ:Cal P w K mg base 3 "op_value" ["sign","first","second","p"] CD) (b7:Cal P w K mg base (n+18) "value_of" ["term","boxes","asking"] (wp CA CG n)):FnOk P w K mg base CX0 (n+19) f fd ["term","boxes","asking"] (wp CA CG (n+1)):=by
 refine F.ok gZ (fun vs H Q E h=>?_) (fun cdv A outer s H vs Q E hr h=>?_)
 . obtain⟨v,t,b,k,g,sd,z,ys,bx,m,rfl,_⟩:=h;rfl
 obtain ⟨v,t,b,k,g,sd,z,ys,bx,m,rfl,T,tg,td,BX,bo,AK,ok,hs,q⟩:=h;have hu:=ld hr;have hr1:Room 1 _:=hr.mono (by omega);have hr18:Room 18 _:=hr.mono (by omega);refine⟨_,(ac (ak (i:=3) gZ.nd rfl (Or.inl rfl) (av aB (pv 0) aa (fun _ _=>rfl)))
  (ac (aH (ah aM (pv 3) aq (aj _)) (ad (ao (ag aN (av aB (pv 0) aa (fun _ _=>rfl)) (aP (aP (pv 2) rfl) rfl)))) ax)
  (ac (aH (ah aM (pv 3) aq (aj _)) (ad (ao (kX hu (pv 1) (av aB (pv 0) aa (fun _ _=>rfl)) aa ⟨rfl,rfl,rfl,rfl⟩))) ax)
  (ac (aH (ah aM (pv 3) aq (aj _)) (ad (ao (eD (pv 2) TA.cl M.mC M.GC hr1 M.bC .nil fU (af (ai b7 hr (zJ0 _) rfl (af (av aB (pv 0) aa (fun _ _=>rfl)) (af (pv 1) (af (pv 2) aJ)))) aJ)))) ax)
  (ac (aH (ah aM (pv 3) aq (aj _)) (ad (ao (eD (pv 2) TA.cl M.mR M.GR hr18 M.bR .nil fU (af (ai b7 hr (zJ0 _) rfl (af (av aB (pv 0) aa (fun _ _=>rfl)) (af (pv 1) (af (pv 2) aJ)))) aJ)))) ax)
  (ac (aH (ah aM (pv 3) aq (aj _)) (ac (ak (i:=4) gZ.nd rfl (Or.inl rfl) (ai b7 hr (zJ0 _) rfl (af (av aB (pv 0) aa (fun _ _=>rfl)) (af (pv 1) (af (pv 2) aJ)))))
   (ac (ak (i:=5) gZ.nd rfl (Or.inl rfl) (ai b7 hr (zJ0 _) rfl (af (av aB (pv 0) aa (fun _ _=>rfl)) (af (pv 1) (af (pv 2) aJ)))))
   (ad (ao (ai eQ hr (by omega) rfl (af (av aB (pv 0) aa (fun _ _=>rfl)) (af (pv 4) (af (pv 5) (af (aP (aP (pv 2) rfl) rfl) aJ))))))))) ax)
  (ad (ao (eD (pv 2) TA.cl M.mP M.GP hr1 M.bP .nil fU (af (pv 3) aJ)))))))))),?_⟩
 have AK':=AK;obtain⟨dk,aT,ga,gb,gd,tv,tr,hk,⟨dg,hg⟩,_⟩:=AK';have p2:=ok.p0;have p0:0<z.p:=by omega
 have kT:∀{H':Hp},SameBut k H H'->bu H H':=fun s c xs e=>s _ _ (be e hk (by intro z;cases z)) e
 have kB:∀{H':Hp},SameBut k H H'->BxAt H' b bx m:=fun s=>BX.keep fun o e=>s _ _ (by
  obtain⟨kvs,e',_⟩:=BX;exact be e' hk (by intro z;cases z)) e
 have kS:∀{H':Hp},SameBut k H H'->H' sd=some (.lst ys):=fun s=>s _ _ (be hs hk (by intro z;cases z)) hs
 cases T with
 | @num a n e=>
   refine⟨_,_,zD0 e,rfl,?_⟩;refine⟨rfl,bDV rfl ?_⟩;exact⟨_,_,zD0 e,rfl,CA,dk,_,_,hk,TA.cl,TA.nG,qP,CG,dg,_,_,hg,TG.cl,TG.nF,lh ..,p0,q H AK (SameBut.refl _ _)⟩
 | @box a x e=>
   refine⟨_,_,zD0 e,rfl,?_⟩;refine⟨rfl,aY (neS (by decide +kernel)) ?_⟩;refine⟨rfl,bDV rfl ?_⟩;obtain⟨kvs,hb,_,hx⟩:=BX;refine⟨b,rfl,.inl ⟨kvs,.inl hb⟩,_,_,zD0 e,rfl,_,DGet.k (k:=.inr x) hb,?_⟩;rw[hx];exact q H AK (SameBut.refl _ _)
 | @plain a wd e=>
   have no:∀x:Str,x∉iR->¬ V.str wd=V.str x:=fun x hx e=>hx (by rw[←V.str.inj e];exact tg)
   refine⟨_,_,zD0 e,rfl,?_⟩;refine⟨rfl,aI (no _ (by decide +kernel)) ?_⟩;refine⟨rfl,aI (no _ (by decide +kernel)) ?_⟩;refine⟨rfl,aI (no _ (by decide +kernel)) ?_⟩;refine⟨rfl,aI (no _ (by decide +kernel)) ?_⟩;refine⟨rfl,aI (no _ (by decide +kernel)) ?_⟩;exact⟨k,dk,_,rfl,hk,al_n1,k,g,sd,z,wd,rfl,AK,p0,q H AK (SameBut.refl _ _)⟩
 | @ask a wd v1 t1 e T1=>
   obtain⟨wq,tq⟩:=tg;have hw:wd="coin"∨wd="true":=by simpa [BD]using wq
   have d1:t1.depth<=n:=by have:t1.depth+1<=n+1:=td;omega
   have wr:=Tm.worth_rng ok bo t1;refine⟨_,_,zD0 e,rfl,?_⟩;rcases hw with rfl | rfl
   . refine⟨rfl,aY (neS (by decide +kernel)) ?_⟩;refine⟨rfl,aY (neS (by decide +kernel)) ?_⟩;refine⟨rfl,bDV rfl ?_⟩;refine⟨k,dk,_,rfl,hk,al_n2,_,_,zD0 e,rfl,v1,t1,b,k,g,sd,z,ys,bx,m,rfl,T1,tq,d1,BX,bo,AK,ok,hs,fun H1 A1 S1=>?_⟩;refine⟨k,g,sd,z,_,rfl,A1,ok.tl,fun H2 S2=>?_⟩;have qq:=q H2 (A1.same S2) (S1.trans (zL0 S2));have e1:(Tm.ask "coin" t1).worth z bx=gU z (t1.worth z bx):=zI0 rfl;rw[e1]at qq;exact qq
   . refine⟨rfl,aY (neS (by decide +kernel)) ?_⟩;refine⟨rfl,aY (neS (by decide +kernel)) ?_⟩;refine⟨rfl,aY (neS (by decide +kernel)) ?_⟩;refine⟨rfl,bDV rfl ?_⟩;refine⟨k,dk,_,rfl,hk,al_n4,_,_,zD0 e,rfl,v1,t1,b,k,g,sd,z,ys,bx,m,rfl,T1,tq,d1,BX,bo,AK,ok,hs,fun H1 A1 S1=>?_⟩;refine⟨k,g,sd,z,ys,_,rfl,A1,ok,kS S1,wr.1,wr.2,fun H2 A2 S2=>?_⟩;have qq:=q H2 A2 (S1.trans S2);have e1:(Tm.ask "true" t1).worth z bx=cP z (t1.worth z bx):=zF0 (by decide +kernel);rw[e1]at qq;exact qq
 | @op a o v1 v2 t1 t2 e T1 T2=>
   obtain⟨oq,q1,q2⟩:=tg;have d1:t1.depth<=n:=by have:max t1.depth t2.depth+1<=n+1:=td;omega
   have d2:t2.depth<=n:=by have:max t1.depth t2.depth+1<=n+1:=td;omega
   have w1:=Tm.worth_rng ok bo t1;have w2:=Tm.worth_rng ok bo t2;refine⟨_,_,zD0 e,rfl,?_⟩;refine⟨rfl,aY (neS (by decide +kernel)) ?_⟩;refine⟨rfl,aY (neS (by decide +kernel)) ?_⟩;refine⟨rfl,aY (neS (by decide +kernel)) ?_⟩;refine⟨rfl,aY (neS (by decide +kernel)) ?_⟩;refine⟨rfl,bDV rfl ?_⟩;refine⟨_,_,zD0 e,rfl,v1,t1,b,k,g,sd,z,ys,bx,m,rfl,T1,q1,d1,BX,bo,AK,ok,hs,fun H1 A1 S1=>?_⟩;have e1:=kT S1 _ _ e;refine⟨_,_,zD0 e1,rfl,v2,t2,b,k,g,sd,z,ys,bx,m,rfl,T2.mono (kT S1),q2,d2,kB S1,bo,A1,ok,kS S1,fun H2 A2 S2=>?_⟩;have e2:=kT (S1.trans S2) _ _ e;obtain⟨dk2,aT2,_,_,_,_,tr2,hk2,⟨dg2,hg2⟩,_⟩:=id A2;exact⟨_,_,zD0 e2,rfl,CA,dk2,_,_,hk2,TA.cl,TA.nG,qP,CG,dg2,_,_,hg2,TG.cl,TG.nF,lh ..,o,_,_,z.p,rfl,oq,ok.gk.pr,ok.gk.p9,w1.1,w1.2,w2.1,w2.2,q H2 A2 (S1.trans S2)⟩
theorem xJ {f:Addr} {fd:FuncData}:FnOk P w K mg base CX0 18 f fd ["term","boxes","asking"] (wp CA CG 0):=by
 have no:∀vs H Q E,¬ wp CA CG 0 vs H Q E:=fun vs H Q E h=>by
  obtain⟨v,t,_,_,_,_,_,_,_,_,_,_,_,h1,_⟩:=h
  have:=t.depth_pos
  omega
 exact⟨fun vs H Q E h=>absurd h (no vs H Q E),fun A outer s H args us vs Q E _ _ _ _ h=>absurd h (no vs H Q E)⟩
theorem mh {f fP fC fR:Addr} {fd fdP fdC fdR:FuncData} (F:Fun K "value_of" "value_of" dH f fd) (m:mg "value_of"=some (.ref f)) (TA:ATxt K mg CA) (TG:GTxt K mg CG) (M:AskF P w K mg base CA CG fP fC fR fdP fdC fdR) (eQ:Cal P w K mg base 3 "op_value" ["sign","first","second","p"] CD) :
 ∀n:Nat,FnOk P w K mg base CX0 (n+18) f fd ["term","boxes","asking"] (wp CA CG n)
 | 0=>xJ
 | n+1=>xK F TA TG M eQ (Cal.of F (mh F m TA TG M eQ n) m (fun _ _ _ _ _ _ us hl=>by obtain⟨u0,u1,u2,rfl⟩:=gV hl;rfl))
end
end
section
variable {P:Program} {w:World} {K:W.Frag} {mg:Str->Option Value} {base:Heap}
section
variable {CM CA CG:Addr}
structure MS where
 pl:Int
 bx:Str->Int
 sd:List Int
noncomputable def vc(z:Ak)(len:Int)(s:MS):Hr->MS
 | .fin=>⟨len,s.bx,s.sd⟩
 | .go n=>⟨n,s.bx,s.sd⟩
 | .iff t n=>⟨if t.worth z s.bx=0 then s.pl+1 else n,s.bx,s.sd⟩
 | .set x t=>⟨s.pl+1,sR s.bx x (t.worth z s.bx),s.sd⟩
 | .say t=>⟨s.pl+1,s.bx,s.sd++[t.worth z s.bx]⟩
noncomputable def fN(z:Ak)(rows:List Hr)(s:MS):MS:=match rows[s.pl.toNat]? with
 | some r=>vc z rows.length s r
 | none=>s
noncomputable def fQ(z:Ak)(rows:List Hr):Nat->MS->MS
 | 0,s=>s
 | n+1,s=>if s.pl<(rows.length:Int)/\(s.sd.length:Int)<z.mn then fQ z rows n (fN z rows s)else s
def oU(mn:Int)(sd:List Int):List Int:=sd++List.replicate (mn-(sd.length:Int)).toNat 0
def Hr.good:Hr->Prop
 | .fin=>True | .go n=>0<=n | .iff t n=>t.good/\t.depth<=8/\0<=n | .set _ t=>t.good/\t.depth<=8 | .say t=>t.good/\t.depth<=8
theorem xY{z:Ak}{rows:List Hr}(hq:∀r∈rows,r.good){s:MS}(h:0<=s.pl):0<=(fN z rows s).pl:=by
 unfold fN;cases e:rows[s.pl.toNat]? with
 | none=>exact h
 | some r=>
   have q:=hq r (qJ0 e);cases r with
   | fin=>exact Int.natCast_nonneg _
   | go n=>exact q
   | iff t n=>
     show 0<=if t.worth z s.bx=0 then s.pl+1 else n
     by_cases c:t.worth z s.bx=0
     . rw[zI0 c];omega
     . rw[zF0 c];exact q.2.2
   | set x t=>show 0<=s.pl+1;omega
   | say t=>show 0<=s.pl+1;omega
theorem qY{z:Ak}{rows:List Hr}{s:MS}:(fN z rows s).sd.length<=s.sd.length+1:=by
 unfold fN;cases e:rows[s.pl.toNat]? with
 | none=>exact qI0 _
 | some r=>
   cases r with
   | fin=>exact qI0 _
   | go n=>exact qI0 _
   | iff t n=>exact qI0 _
   | set x t=>exact qI0 _
   | say t=>show(s.sd++[_]).length<=_;rw[zO0];exact zJ0 _
theorem sQ{p n:Int}{bx:Str->Int}{x:Str}(h:ie p bx)(h0:0<=n)(h1:n<p):ie p (sR bx x n):=fun y=>by
 unfold sR
 split
 . exact⟨h0,h1⟩
 . exact h y
theorem nA{z:Ak}{rows:List Hr}{s:MS}(k:AkOk z)(h:ie z.p s.bx)(hs:dy s.sd z.p):ie z.p (fN z rows s).bx/\dy (fN z rows s).sd z.p:=by
 unfold fN;cases e:rows[s.pl.toNat]? with
 | none=>exact⟨h,hs⟩
 | some r=>
   cases r with
   | fin=>exact⟨h,hs⟩
   | go n=>exact⟨h,hs⟩
   | iff t n=>exact⟨h,hs⟩
   | set x t=>
     have w:=Tm.worth_rng k h t;exact⟨sQ h w.1 w.2,hs⟩
   | say t=>
     have w:=Tm.worth_rng k h t;refine⟨h,fun y hy=>?_⟩;rcases qD0 hy with hy | hy
     . exact hs y hy
     . rw[zP0 hy];exact w
theorem mU{z:Ak}{rows:List Hr}(k:AkOk z):∀(n:Nat)(s:MS),ie z.p s.bx->dy s.sd z.p->(s.sd.length:Int)<=z.mn->ie z.p (fQ z rows n s).bx/\dy (fQ z rows n s).sd z.p/\((fQ z rows n s).sd.length:Int)<=z.mn
 | 0,s,h,hs,hl=>⟨h,hs,hl⟩
 | n+1,s,h,hs,hl=>by
   show ie z.p (if _ then _ else _:MS).bx/\dy (if _ then _ else _:MS).sd z.p/\((if _ then _ else _:MS).sd.length:Int)<=z.mn
   by_cases c:s.pl<(rows.length:Int)/\(s.sd.length:Int)<z.mn
   . rw [zI0 c];obtain⟨h1,h2⟩:=nA (rows:=rows) k h hs
     have:=qY (z:=z) (rows:=rows) (s:=s)
     exact mU k n _ h1 h2 (by omega)
   . rw[zF0 c];exact⟨h,hs,hl⟩
def RowsAt(H:Hp)(rv:List V)(rows:List Hr):Prop:=rv.length=rows.length/\∀(i:Nat)(v:V)(r:Hr),rv[i]?=some v->rows[i]?=some r->HrAt H v r
theorem RowsAt.mono{H H':Hp}{rv:List V}{rows:List Hr}(h:RowsAt H rv rows)(k:bu H H'):RowsAt H' rv rows:=⟨h.1,fun i v r h1 h2=>(h.2 i v r h1 h2).mono k⟩
def But2(b c:Addr)(H H':Hp):Prop:=∀a o,a≠b->a≠c->H a=some o->H' a=some o
theorem But2.trans{b c:Addr}{H H1 H2:Hp}(x:But2 b c H H1)(y:But2 b c H1 H2):But2 b c H H2:=fun a o h1 h2 e=>y a o h1 h2 (x a o h1 h2 e)
theorem But2.of{b c:Addr}{H H':Hp}(h:Same H H'):But2 b c H H':=fun a o _ _ e=>h a o e
theorem BxAt.le{H:Hp}{b:Addr}{bx:Str->Int}{m n:Nat}(h:BxAt H b bx m)(k:m<=n):BxAt H b bx n:=by
 obtain⟨kvs,e,l,r⟩:=h;exact⟨kvs,e,qB0 l k,r⟩
def But3(b c d:Addr)(H H':Hp):Prop:=∀a o,a≠b->a≠c->a≠d->H a=some o->H' a=some o
theorem But3.trans{b c d:Addr}{H H1 H2:Hp}(x:But3 b c d H H1)(y:But3 b c d H1 H2):But3 b c d H H2:=fun a o h1 h2 h3 e=>y a o h1 h2 h3 (x a o h1 h2 h3 e)
def yd(CM CA CG:Addr):Sp:=fun vs H Q _=>∃(M g h b dm k sd:Addr)(rv:List V)(r pl:Int)(z:Ak)(rows:List Hr)(bx:Str->Int)(m:Nat)(said:List Int),
 vs=[.ref M,.int pl,.ref sd,.ref k]/\H M=some (.ins CM dm (ml g h r b))/\M≠k/\H h=some (.tup rv)/\RowsAt H rv rows/\(∀r∈rows,r.good)/\0<=pl/\pl<(rows.length:Int)/\BxAt H b bx m/\ie z.p bx/\m<=10000/\H sd=some (.lst (said.map V.int))/\said.length<=900/\AkAt CA CG H k g sd z/\AkOk z/\
 ∀H',H' sd=some (.lst ((fN z rows ⟨pl,bx,said⟩).sd.map V.int))->BxAt H' b (fN z rows ⟨pl,bx,said⟩).bx (m+1)->AkAt CA CG H' k g sd z->But3 b sd k H H'->Q (.int (fN z rows ⟨pl,bx,said⟩).pl) H'
theorem C2:FnScope ["self","place","said","asking","row","word"] ["self","place","said","asking"] (ae lH):=⟨rfl,rfl,rfl,by decide +kernel,rfl,by decide +kernel,by decide +kernel⟩
theorem Bg {f:Addr} {fd:FuncData} (F:Fun K "do_row" "Machine.do_row" lH f fd) (B:Bl mg) (TM:MTxt K mg CM) (b7:Cal P w K mg base 26 "value_of" ["term","boxes","asking"] (wp CA CG 8)):FnOk P w K mg base CX0 27 f fd ["self","place","said","asking"] (yd CM CA CG):=by
 refine F.ok C2 (fun vs H Q E h=>?_) (fun cdv A outer s H vs Q E hr h=>?_)
 . obtain⟨M,g,h,b,dm,k,sd,rv,r,pl,z,rows,bx,m,said,rfl,_⟩:=h;rfl
 obtain ⟨M,g,h,b,dm,k,sd,rv,rn,pl,z,rows,bx,m,said,rfl,hM,nMk,hh,RW,rq,pl0,pl1,BX,bo,m1,hsd,sl,AK,ok,q⟩:=h;have hu:=ld hr;refine⟨_,(ac (ak (i:=4) C2.nd rfl (Or.inl rfl) (av aB (aP (pv 0) rfl) (pv 1) (fun _ _=>rfl)))
  (ac (ak (i:=5) C2.nd rfl (Or.inl rfl) (av aB (pv 4) aa (fun _ _=>rfl)))
  (ac (aH (ah aM (pv 5) aq (aj _)) (ad (ao (aD az rfl B.len PySem.boot_len (af (aP (pv 0) rfl) aJ)))) ax)
  (ac (aH (ah aM (pv 5) aq (aj _)) (ad (ao (av aB (pv 4) aa (fun _ _=>rfl)))) ax)
  (ac (aH (ah aM (pv 5) aq (aj _)) (ad (kO hu (aP (pv 0) rfl) (av aB (pv 4) aa (fun _ _=>rfl)) (ai b7 hr (by decide) rfl (af (av aB (pv 4) aa (fun _ _=>rfl)) (af (aP (pv 0) rfl) (af (pv 3) aJ)))) rfl)) (ad (aH (ah aM (pv 5) aq (aj _)) (ad (bG (dU PySem.F.plainAttrs_list PySem.F.slot_list_append PySem.F.type_list_append bi (pv 2) (af (ai b7 hr (by decide) rfl (af (av aB (pv 4) aa (fun _ _=>rfl)) (af (aP (pv 0) rfl) (af (pv 3) aJ)))) aJ)))) (ad (aH (ah rN (ai b7 hr (by decide) rfl (af (av aB (pv 4) aa (fun _ _=>rfl)) (af (aP (pv 0) rfl) (af (pv 3) aJ)))) aa (aj _)) (ad (ao (av aB (pv 4) aa (fun _ _=>rfl)))) ax)))))
  (ad (ao (ag aR (pv 1) aa)))))))),?_⟩
 obtain⟨i,rfl⟩:=Int.eq_ofNat_of_zero_le pl0;have hi:i<rows.length:=by omega
 have hi':i<rv.length:=by rw[RW.1];exact hi
 have er:rows[i]?=some rows[i]:=zU0 hi;have ev:rv[i]?=some rv[i]:=zU0 hi';have RA:=RW.2 i _ _ ev er;have rqi:=rq _ (qY0 hi);have hst:fN z rows ⟨(i:Int),bx,said⟩=vc z rows.length ⟨(i:Int),bx,said⟩ rows[i]:=by
  unfold fN;rw[show((⟨(i:Int),bx,said⟩:MS).pl.toNat)=i from qT0 i,er]
 rw[hst]at q;generalize rows[i]=row at RA rqi q er hst;have at_:atI rv (i:Int)=some rv[i]:=cq ev;generalize rv[i]=v at RA at_ ev;refine⟨CM,dm,_,_,hM,TM.cl,TM.nH,Dk,_,v,zD0 hh,at_,?_⟩;have K0:But3 b sd k H H:=fun _ _ _ _ _ e=>e
 have nBS:sd≠b:=by
  obtain⟨kvs,e,_⟩:=BX;exact be hsd e (by intro z;cases z)
 obtain⟨kvs,hb,kl,hx⟩:=id BX;obtain⟨dk,_,_,_,_,_,_,hk,_⟩:=id AK;have kT:∀{H':Hp},SameBut k H H'->bu H H':=fun s c xs e=>s _ _ (be e hk (by intro z;cases z)) e
 have nbk:b≠k:=be hb hk (by intro z;cases z);have nsk:sd≠k:=be hsd hk (by intro z;cases z);cases RA with
 | @fin a e=>
   refine⟨_,_,zD0 e,rfl,?_⟩;refine⟨rfl,bDV rfl ?_⟩;refine⟨CM,dm,_,_,hM,TM.cl,TM.nH,Dk,h,_,rfl,.inr (zD0 hh),?_⟩;rw[RW.1];exact q H hsd (BX.le (qI0 _)) AK K0
 | @go a n e=>
   refine⟨_,_,zD0 e,rfl,?_⟩;refine⟨rfl,aY (neS (by decide +kernel)) ?_⟩;refine⟨rfl,bDV rfl ?_⟩;exact⟨_,_,zD0 e,rfl,q H hsd (BX.le (qI0 _)) AK K0⟩
 | @iff a u t n e T=>
   refine⟨_,_,zD0 e,rfl,?_⟩;refine⟨rfl,aY (neS (by decide +kernel)) ?_⟩;refine⟨rfl,aY (neS (by decide +kernel)) ?_⟩;refine⟨rfl,aY (neS (by decide +kernel)) ?_⟩;refine⟨rfl,aY (neS (by decide +kernel)) ?_⟩;refine⟨_,_,zD0 e,rfl,CM,dm,_,_,hM,TM.cl,TM.nB,zI,u,t,b,k,g,sd,z,_,bx,m,rfl,T,rqi.1,rqi.2.1,BX,bo,AK,ok,hsd,fun H1 A1 S1=>?_⟩;refine⟨rfl,?_⟩;have q':∀H',H' sd=some (.lst (said.map V.int))->BxAt H' b bx (m+1)->AkAt CA CG H' k g sd z->But3 b sd k H H'->Q (.int (if t.worth z bx=0 then(i:Int)+1 else n)) H':=q
   have q1:=q' H1 (S1 _ _ nsk hsd) ((BX.keep fun o e=>S1 _ _ nbk e).le (qI0 _)) A1 (fun c o _ _ h3 e=>S1 _ _ h3 e)
   by_cases c:t.worth z bx=0
   . rw[zI0 c]at q1;refine Ce (congrArg V.int c) ?_;exact q1
   . rw[zF0 c]at q1;refine Du (fun z=>c (V.int.inj z)) ?_;exact⟨_,_,zD0 (kT S1 _ _ e),rfl,q1⟩
 | @set a x u t e T=>
   refine⟨_,_,zD0 e,rfl,?_⟩;refine⟨rfl,aY (neS (by decide +kernel)) ?_⟩;refine⟨rfl,aY (neS (by decide +kernel)) ?_⟩;refine⟨rfl,bDV rfl ?_⟩;refine⟨_,_,zD0 e,rfl,CM,dm,_,_,hM,TM.cl,TM.nB,zI,u,t,b,k,g,sd,z,_,bx,m,rfl,T,rqi.1,rqi.2,BX,bo,AK,ok,hsd,fun H1 A1 S1=>?_⟩;have hb1:=S1 _ _ nbk hb;have hs1:=S1 _ _ nsk hsd;refine⟨CM,dm,_,_,S1 _ _ nMk hM,TM.cl,TM.nB,zI,_,_,zD0 (kT S1 _ _ e),rfl,b,_,rfl,DPut.k (k:=.inr x) hb1 ?_,?_⟩
   . exact Nat.lt_of_le_of_lt kl (Nat.lt_of_le_of_lt m1 (by decide))
   refine ?_;refine q _ ?_ ⟨_,aE,qB0 (dW _ _ _) (Nat.succ_le_succ kl),Ah x _ hx⟩ (A1.but2 hb1 hs1 fun c o h1 _ e=>by rw[am h1];exact e) (fun c o h1 _ h3 e=>by rw[am h1];exact S1 _ _ h3 e);rw[am nBS];exact hs1
 | @say a u t e T=>
   refine⟨_,_,zD0 e,rfl,?_⟩;refine⟨rfl,aY (neS (by decide +kernel)) ?_⟩;refine⟨rfl,aY (neS (by decide +kernel)) ?_⟩;refine⟨rfl,aY (neS (by decide +kernel)) ?_⟩;refine⟨rfl,bDV rfl ?_⟩;refine⟨.inl ⟨rfl,_,zG0 hsd⟩,?_⟩;refine⟨_,_,zD0 e,rfl,CM,dm,_,_,hM,TM.cl,TM.nB,zI,u,t,b,k,g,sd,z,_,bx,m,rfl,T,rqi.1,rqi.2,BX,bo,AK,ok,hsd,fun H1 A1 S1=>?_⟩;have hb1:=S1 _ _ nbk hb;have hs1:=S1 _ _ nsk hsd;refine⟨sd,_,_,rfl,rfl,hs1,?_,?_⟩
   . rw[zH0];exact aG (by omega)
   refine ?_;refine q _ ?_ ((BX.keep fun o e=>by rw[am nBS.symm];exact S1 _ _ nbk e).le (qI0 _)) (A1.but2 hb1 hs1 fun c o _ h2 e=>by rw[am h2];exact e) (fun c o _ h2 h3 e=>by rw[am h2];exact S1 _ _ h3 e);rw[aE];show _=some (HO.lst ((said++[t.worth z bx]).map V.int));rw[zM0];rfl
end
end
section
variable {P:Program} {w:World} {K:W.Frag} {mg:Str->Option Value} {base:Heap}
section
variable {CM CA CG:Addr}
def m1 (g:Addr):List (Str×V):=[("game",.ref g)]
def m2 (g h:Addr):List (Str×V):=[("game",.ref g),("helper",.ref h)]
def m3 (g h:Addr):List (Str×V):=[("game",.ref g),("helper",.ref h),("next_round",.int 0)]
theorem pm1 {g:Addr}:cr "game" (.ref g) []=m1 g:=by with_unfolding_all rfl
theorem pm2 {g h:Addr}:cr "helper" (.ref h) (m1 g)=m2 g h:=by with_unfolding_all rfl
theorem pm3 {g h:Addr}:cr "next_round" (.int 0) (m2 g h)=m3 g h:=by with_unfolding_all rfl
theorem pm4 {g h b:Addr}:cr "boxes" (.ref b) (m3 g h)=ml g h 0 b:=by with_unfolding_all rfl
def vi(CM:Addr):Sp:=fun vs H Q _=>∃(M g h dm:Addr),vs=[.ref M,.ref g,.ref h]/\H M=some (.ins CM dm [])/\∀(b:Addr)(H':Hp),H b=none->H' M=some (.ins CM dm (ml g h 0 b))->H' b=some (.dK [])->SameBut M H H'->Q .non H'
theorem yB:FnScope ["self","game","helper"] ["self","game","helper"] (ae jI):=⟨rfl,rfl,rfl,by decide +kernel,rfl,by decide +kernel,by decide +kernel⟩
theorem zm {f:Addr} {fd:FuncData} (F:Fun K "__init__" "Machine.__init__" jI f fd) (T:MTxt K mg CM):FnOk P w K mg base CX0 1 f fd ["self","game","helper"] (vi CM):=by
 refine F.ok yB (fun vs H Q E h=>?_) (fun cdv A outer s H vs Q E hr h=>?_)
 . obtain⟨M,g,h,dm,rfl,_⟩:=h;rfl
 obtain ⟨M,g,h,dm,rfl,hM,q⟩:=h;refine⟨_,(ac (cN (pv 0) (pv 1) rfl)
  (ac (cN (pv 0) (pv 2) rfl)
  (ac (cN (pv 0) aa rfl)
  (ad (cN (pv 0) kW rfl))))),?_⟩
 refine⟨M,CM,dm,_,rfl,hM,T.cl,T.nG,(by show 0<1000;decide),?_⟩;rw[pm1];refine⟨M,CM,dm,_,rfl,aE,T.cl,T.nH,(by show 1<1000;decide),?_⟩;rw[pm2];refine⟨M,CM,dm,_,rfl,aE,T.cl,T.nR,(by show 2<1000;decide),?_⟩;rw[pm3];have S3:SameBut M H (upd (upd (upd H M (.ins CM dm (m1 g))) M (.ins CM dm (m2 g h))) M (.ins CM dm (m3 g h))):=(SameBut.upd _).trans ((SameBut.upd _).trans (SameBut.upd _));have g3:upd (upd (upd H M (.ins CM dm (m1 g))) M (.ins CM dm (m2 g h))) M (.ins CM dm (m3 g h)) M=some (.ins CM dm (m3 g h)):=aE;generalize upd (upd (upd H M (.ins CM dm (m1 g))) M (.ins CM dm (m2 g h))) M (.ins CM dm (m3 g h))=H3 at S3 g3;intro b hb;have bM:b≠M:=(aO g3 hb).symm;refine⟨M,CM,dm,_,rfl,by rw[am bM.symm];exact g3,T.cl,T.nB,(by show 3<1000;decide),?_⟩;rw[pm4];refine q b _ ?_ aE (by rw[am bM];exact aE) (S3.trans ((zL0 (zE0 hb _)).trans (SameBut.upd _)));cases e:H b with
 | none=>rfl
 | some o=>rw[S3 b o bM e]at hb;cases hb
def a1 (g:Addr):List (Str×V):=[("game",.ref g)]
def a2 (g:Addr) (nr:Int):List (Str×V):=[("game",.ref g),("number",.int nr)]
def a3 (g:Addr) (nr mn:Int):List (Str×V):=[("game",.ref g),("number",.int nr),("many",.int mn)]
def a4 (g:Addr) (nr mn hd:Int):List (Str×V):=[("game",.ref g),("number",.int nr),("many",.int mn),("held",.int hd)]
def a5 (g:Addr) (nr mn hd s:Int):List (Str×V):=[("game",.ref g),("number",.int nr),("many",.int mn),("held",.int hd),("s",.int s)]
def a6 (g:Addr) (nr mn hd s:Int) (aT:Addr):List (Str×V):=[("game",.ref g),("number",.int nr),("many",.int mn),("held",.int hd),("s",.int s),("tossed",.ref aT)]
section
variable {g aT:Addr} {nr mn hd s:Int}
theorem pa1:cr "game" (.ref g) []=a1 g:=by with_unfolding_all rfl
theorem pa2:cr "number" (.int nr) (a1 g)=a2 g nr:=by with_unfolding_all rfl
theorem pa3:cr "many" (.int mn) (a2 g nr)=a3 g nr mn:=by with_unfolding_all rfl
theorem pa4:cr "held" (.int hd) (a3 g nr mn)=a4 g nr mn hd:=by with_unfolding_all rfl
theorem pa5:cr "s" (.int s) (a4 g nr mn hd)=a5 g nr mn hd s:=by with_unfolding_all rfl
theorem pa6:cr "tossed" (.ref aT) (a5 g nr mn hd s)=a6 g nr mn hd s aT:=by with_unfolding_all rfl
theorem pa7:cr "truths" .non (a6 g nr mn hd s aT)=al g nr mn hd s aT .non:=by with_unfolding_all rfl
end
def vy(CA:Addr):Sp:=fun vs H Q _=>∃(k dk g c:Addr)(nr mn hd s:Int)(xs:List V),vs=[.ref k,.ref g,.int nr,.int mn,.int hd,.int s,.ref c]/\H k=some (.ins CA dk [])/\(H c=some (.lst xs)∨H c=some (.tup xs))/\
 ∀(aT:Addr)(H':Hp),H' k=some (.ins CA dk (al g nr mn hd s aT .non))->H' aT=some (.tup xs)->SameBut k H H'->Q .non H'
theorem yD:FnScope ["self","game","number","many","due","s","coins"] ["self","game","number","many","due","s","coins"] (ae jP):=⟨rfl,rfl,rfl,by decide +kernel,rfl,by decide +kernel,by decide +kernel⟩
theorem zu {f:Addr} {fd:FuncData} (F:Fun K "__init__" "Asking.__init__" jP f fd) (B:Bl mg) (T:ATxt K mg CA):FnOk P w K mg base CX0 1 f fd ["self","game","number","many","due","s","coins"] (vy CA):=by
 refine F.ok yD (fun vs H Q E h=>?_) (fun cdv A outer s H vs Q E hr h=>?_)
 . obtain⟨k,dk,g,c,nr,mn,hd,s,xs,rfl,_⟩:=h;rfl
 obtain ⟨k,dk,g,c,nr,mn,hd,s,xs,rfl,hk,hc,q⟩:=h;refine⟨_,(ac (cN (pv 0) (pv 1) rfl)
  (ac (cN (pv 0) (pv 2) rfl)
  (ac (cN (pv 0) (pv 3) rfl)
  (ac (cN (pv 0) (pv 4) rfl)
  (ac (cN (pv 0) (pv 5) rfl)
  (ac (cN (pv 0) (bh bH rfl B.tuple cg (af (pv 6) aJ)) rfl)
  (ad (cN (pv 0) yR rfl)))))))),?_⟩
 refine⟨k,CA,dk,_,rfl,hk,T.cl,T.nG,(by show 0<1000;decide),?_⟩;rw[pa1];refine⟨k,CA,dk,_,rfl,aE,T.cl,T.nN,(by show 1<1000;decide),?_⟩;rw[pa2];refine⟨k,CA,dk,_,rfl,aE,T.cl,T.nM,(by show 2<1000;decide),?_⟩;rw[pa3];refine⟨k,CA,dk,_,rfl,aE,T.cl,T.nH,(by show 3<1000;decide),?_⟩;rw[pa4];refine⟨k,CA,dk,_,rfl,aE,T.cl,T.nS,(by show 4<1000;decide),?_⟩;rw[pa5];have S5:SameBut k H (upd (upd (upd (upd (upd H k (.ins CA dk (a1 g))) k (.ins CA dk (a2 g nr))) k (.ins CA dk (a3 g nr mn))) k (.ins CA dk (a4 g nr mn hd))) k (.ins CA dk (a5 g nr mn hd s))):=(SameBut.upd _).trans ((SameBut.upd _).trans ((SameBut.upd _).trans ((SameBut.upd _).trans (SameBut.upd _))));have g5:upd (upd (upd (upd (upd H k (.ins CA dk (a1 g))) k (.ins CA dk (a2 g nr))) k (.ins CA dk (a3 g nr mn))) k (.ins CA dk (a4 g nr mn hd))) k (.ins CA dk (a5 g nr mn hd s)) k=some (.ins CA dk (a5 g nr mn hd s)):=aE;generalize upd (upd (upd (upd (upd H k (.ins CA dk (a1 g))) k (.ins CA dk (a2 g nr))) k (.ins CA dk (a3 g nr mn))) k (.ins CA dk (a4 g nr mn hd))) k (.ins CA dk (a5 g nr mn hd s))=H5 at S5 g5;rcases hc with hc | hc
 . have hc5:=S5 _ _ (be hc hk (by intro z;cases z)) hc;refine⟨c,_,rfl,.inl ⟨zG0 hc5,fun aT ha=>?_⟩⟩;have aK:aT≠k:=(aO g5 ha).symm;refine⟨k,CA,dk,_,rfl,by rw[am aK.symm];exact g5,T.cl,T.nT,(by show 5<1000;decide),?_⟩;rw[pa6];refine⟨k,CA,dk,_,rfl,aE,T.cl,T.nR,(by show 6<1000;decide),?_⟩;rw[pa7];exact q aT _ aE (by rw[am aK,am aK];exact aE) (S5.trans ((zL0 (zE0 ha _)).trans ((SameBut.upd _).trans (SameBut.upd _))))
 . have nc:=be hc hk (by intro z;cases z);have hc5:=S5 _ _ nc hc;refine⟨c,_,rfl,.inr ⟨zD0 hc5,?_⟩⟩;refine⟨k,CA,dk,_,rfl,g5,T.cl,T.nT,(by show 5<1000;decide),?_⟩;rw[pa6];refine⟨k,CA,dk,_,rfl,aE,T.cl,T.nR,(by show 6<1000;decide),?_⟩;rw[pa7];exact q c _ aE (by rw[am nc,am nc];exact hc5) (S5.trans ((SameBut.upd _).trans (SameBut.upd _)))
def BN(CM CG:Addr):Sp:=fun vs H Q _=>∃(M g h b dm c:Addr)(rv:List V)(z:Ak)(rows:List Hr)(bx:Str->Int)(m:Nat),
 vs=[.ref M,.int z.mn,.int z.hd,.int z.s,.ref c]/\H M=some (.ins CM dm (ml g h z.nr b))/\H h=some (.tup rv)/\RowsAt H rv rows/\(∀r∈rows,r.good)/\BxAt H b bx m/\ie z.p bx/\m<=5000/\Gm CG H g z.ns z.ts z.p/\AkOk z/\(H c=some (.lst (z.to.map V.int))∨H c=some (.tup (z.to.map V.int)))/\0<=z.mn/\z.mn<=500/\
 ∀(l:Addr)(H':Hp),H l=none->H' l=some (.lst ((oU z.mn (fQ z rows 200 ⟨0,bx,[]⟩).sd).map V.int))->BxAt H' b (fQ z rows 200 ⟨0,bx,[]⟩).bx (m+200)->H' M=some (.ins CM dm (ml g h (z.nr+1) b))->But2 M b H H'->Q (.ref l) H'
theorem gN:FnScope ["self","many","due","s","coins","asking","said","place","done"] ["self","many","due","s","coins"] (ae lG):=⟨rfl,rfl,rfl,by decide +kernel,rfl,by decide +kernel,by decide +kernel⟩
theorem rD(k:Nat)(x:V):(List.replicate k [x]).flatten=List.replicate k x:=by
 induction k with
 | zero=>rfl
 | succ k ih=>rw[List.replicate_succ,List.flatten_cons,ih,List.replicate_succ];rfl
def tSayE:TS:=fun Dn σ H=>∃(x0 x2 x3 x4 x5 x7 x8:Option V)(sd:Addr)(mn:Int)(xs:List Int),σ=[x0,some (.int mn),x2,x3,x4,x5,some (.ref sd),x7,x8]/\H sd=some (.lst (xs.map V.int))/\xs.length<=200/\0<=mn/\mn<=500/\
 ∀(l:Addr)(H':Hp),H l=none->Same H H'->H' l=some (.lst ((oU mn xs).map V.int))->Dn.rt (.ref l) H'
theorem Bf {f fA fR:Addr} {fd fdA fdR:FuncData} (F:Fun K "say" "Machine.say" lG f fd) (B:Bl mg) (TM:MTxt K mg CM) (TA:ATxt K mg CA) (hmost:∃t,mg "MOST_ROWS_DONE"=some (.int 200 t))
 (MA:Mk K CA fA) (GA:FnOk P w K mg base CX0 1 fA fdA ["self","game","number","many","due","s","coins"] (vy CA)) (bA:Binds K fdA ["self","game","number","many","due","s","coins"] [])
 (mR:Meth K CM "do_row" fR) (GR:FnOk P w K mg base CX0 27 fR fdR ["self","place","said","asking"] (yd CM CA CG)) (bR:Binds K fdR ["self","place","said","asking"] []):FnOk P w K mg base CX0 28 f fd ["self","many","due","s","coins"] (BN CM CG):=by
 refine F.ok gN (fun vs H Q E h=>?_) (fun cdv A outer s H vs Q E hr h=>?_)
 . obtain⟨M,g,h,b,dm,c,rv,z,rows,bx,m,rfl,_⟩:=h;rfl
 obtain ⟨M,g,h,b,dm,c,rv,z,rows,bx,m,rfl,hM,hh,RW,rq,BX,bo,mm,GG,ok,hc,mn0,mn1,q⟩:=h;obtain⟨a',b',d',tv,G,hga,hgb,TS,hgd⟩:=GG;obtain⟨te,ge⟩:=hmost;have hr2:Room (1+1) _:=hr.mono (by decide);have hr7:Room 27 _:=hr.mono (by decide);refine⟨_,(ac (ak (i:=5) gN.nd rfl (Or.inl rfl) (mX MA GA hr2 rfl TA.mgC bA .nil fU (af (aP (pv 0) rfl) (af (aP (pv 0) rfl) (af (pv 1) (af (pv 2) (af (pv 3) (af (pv 4) aJ))))))))
  (ac (cN (pv 0) (ag aR (aP (pv 0) rfl) aa) rfl)
  (ac (ak (i:=6) gN.nd rfl (Or.inl rfl) (bU aJ))
  (ac (ak (i:=7) gN.nd rfl (Or.inl rfl) aa)
  (ac (ak (i:=8) gN.nd rfl (Or.inl rfl) aa)
  (ac (ju PassesOwn.never (PW.pt (jr (ah cU (pv 7) (aD az rfl B.len PySem.boot_len (af (aP (pv 0) rfl) aJ)) (aj _)) (jr (ah cU (aD az rfl B.len PySem.boot_len (af (pv 6) aJ)) (pv 1) (aj _)) (iO (ah cU (pv 8) (vG (v:=.int 200) rfl ge ⟨_,rfl⟩) (aj _)))))) (ac (ak (i:=7) gN.nd rfl (Or.inl rfl) (eD (pv 0) TM.cl mR GR hr7 bR .nil fU (af (pv 7) (af (pv 6) (af (pv 5) aJ)))))
   (ad (ak (i:=8) gN.nd rfl (Or.inl rfl) (ag aR (pv 8) aa)))))
  (kN (t':=tSayE) (ad (ao (ag fF (pv 6) (ag ue (bU (af aa aJ)) (ag aQ (pv 1) (aD az rfl B.len PySem.boot_len (af (pv 6) aJ))))))) (by
   rintro Dn σ H ⟨x0,x2,x3,x4,x5,x7,x8,sd,mn,xs,rfl,hsd,xl,mn0,mn1,q⟩;refine⟨(by show 1<=sizeLine;decide),fun z hz=>?_⟩;have I1:=zE0 hz (.lst [.int 0]);have g1:upd H z (.lst [.int 0]) z=some (.lst [.int 0]):=aE;generalize upd H z (.lst [.int 0])=H1 at I1 g1;refine⟨sd,_,rfl,.inl (zG0 (I1 _ _ hsd)),?_⟩;have el:((xs.map V.int).length:Int)=(xs.length:Int):=by rw[zH0]
   refine⟨z,_,_,rfl,rfl,g1,by omega,by omega,cu (by show 1*(mn-((xs.map V.int).length:Int)).toNat<=1000;omega),fun y hy=>?_⟩;rw[rD];have I2:=zE0 hy (.lst (List.replicate (mn-((xs.map V.int).length:Int)).toNat (.int 0)));have g2:upd H1 y (.lst (List.replicate (mn-((xs.map V.int).length:Int)).toNat (.int 0))) y=some (.lst (List.replicate (mn-((xs.map V.int).length:Int)).toNat (.int 0))):=aE;generalize upd H1 y (.lst (List.replicate (mn-((xs.map V.int).length:Int)).toNat (.int 0)))=H2 at I2 g2;refine⟨sd,y,_,_,rfl,rfl,I2 _ _ (I1 _ _ hsd),g2,?_,fun l hl=>?_⟩
   . rw[List.length_replicate,zH0];exact cu (by omega)
   refine q l _ ?_ (I1.trans (I2.trans (zE0 hl _))) ?_
   . cases e:H l with
     | none=>rfl
     | some o=>rw[I2 _ _ (I1 _ _ e)]at hl;cases hl
   . rw[aE,el];unfold oU;rw[zM0,List.map_replicate])))))))),?_⟩
 refine ⟨CM,dm,_,_,hM,TM.cl,TM.nG,Dl,CM,dm,_,_,hM,TM.cl,TM.nR,ml_r,fun k dk hk hdk nk=>?_⟩;have S1:Same H (upd (upd H dk (.own k)) k (.ins CA dk [])):=fun a o e=>by
  rw[am (aO e hk),am (aO e hdk)];exact e
 have g1:upd (upd H dk (.own k)) k (.ins CA dk []) k=some (.ins CA dk []):=aE;generalize upd (upd H dk (.own k)) k (.ins CA dk [])=H1 at S1 g1;refine⟨k,dk,g,c,z.nr,z.mn,z.hd,z.s,z.to.map V.int,rfl,g1,hc.imp (S1 _ _) (S1 _ _),fun aT H2 hk2 hT2 S2=>⟨rfl,?_⟩⟩;have S02:Same H H2:=Same.but S1 hk S2;clear S1 S2 g1;have hM2:=S02 _ _ hM;refine⟨CM,dm,_,_,hM2,TM.cl,TM.nR,ml_r,M,CM,dm,_,rfl,hM2,TM.cl,TM.nR,Dj,?_⟩;rw[Di];have nMk:M≠k:=aO hM hk;have S3:SameBut M H2 (upd H2 M (.ins CM dm (ml g h (z.nr+1) b))):=SameBut.upd _;have hM3:upd H2 M (.ins CM dm (ml g h (z.nr+1) b)) M=some (.ins CM dm (ml g h (z.nr+1) b)):=aE;generalize upd H2 M (.ins CM dm (ml g h (z.nr+1) b))=H3 at S3 hM3;refine⟨(by show 0<=sizeLine;decide),fun sd hsd=>?_⟩;have I4:=zE0 hsd (.lst []);have g4:upd H3 sd (.lst []) sd=some (.lst []):=aE;generalize upd H3 sd (.lst [])=H4 at I4 g4;have gM:g≠M:=fun e=>by
  obtain⟨dg,hg⟩:=G;rw[e,hM]at hg;cases hg
 have nbM:b≠M:=by
  obtain⟨kvs,e,_⟩:=BX;exact be e hM (by intro z;cases z)
 have S04:SameBut M H H4:=(zL0 S02).trans (S3.trans (zL0 I4));have hM4:=I4 _ _ hM3;have kT:bu H H4:=fun c xs h=>S04 c _ (be h hM (by intro z;cases z)) h
 have hh4:=kT _ _ hh;have RW4:=RW.mono kT;have BX4:BxAt H4 b bx m:=BX.keep fun o e=>S04 b o nbM e
 have G4:GameAt CG H4 g a' b' d' z.p:=by
  obtain⟨dg,hg⟩:=G;exact⟨dg,S04 _ _ gM hg⟩
 have hT4:H4 aT=some (.tup (z.to.map V.int)):=I4 _ _ (S3 _ _ (be hT2 hM2 (by intro z;cases z)) hT2);have hgd4:=S04 _ _ (be hgd hM (by intro z;cases z)) hgd;have nds:d'≠sd:=aO (S3 _ _ (be hgd hM (by intro z;cases z)) (S02 _ _ hgd)) hsd;have hk4:=I4 _ _ (S3 _ _ nMk.symm hk2);have b4:∃kvs,H4 b=some (.dK kvs):=by
  obtain⟨kvs,e,_⟩:=BX4;exact⟨kvs,e⟩
 obtain⟨kv4,hb4⟩:=b4;have nbs:b≠sd:=be hb4 g4 (by intro z;cases z);have nhb:h≠b:=be hh4 hb4 (by intro z;cases z);have nhs:h≠sd:=be hh4 g4 (by intro z;cases z);have nMs:M≠sd:=be hM4 g4 (by intro z;cases z);have nkb:k≠b:=be hk4 hb4 (by intro z;cases z);have nks:k≠sd:=be hk4 g4 (by intro z;cases z);have AK4:AkAt CA CG H4 k g sd z:=⟨dk,aT,a',b',d',tv,.non,hk4,G4,kT _ _ hga,kT _ _ hgb,TS.mono kT,hgd4,nds,hT4,.inl rfl⟩
 have sd0:H sd=none:=by
  cases e:H sd with
  | none=>rfl
  | some o=>rw[S3 _ _ nMs.symm (S02 _ _ e)]at hsd;cases hsd
 refine ⟨fun mm σ H'=>∃(st:MS)(d:Nat),σ=[some (.ref M),some (.int z.mn),some (.int z.hd),some (.int z.s),some (.ref c),some (.ref k),some (.ref sd),some (.int st.pl),some (.int (d:Int))]/\d<=200/\mm=200-d/\0<=st.pl/\st.sd.length<=d/\fQ z rows (200-d) st=fQ z rows 200 ⟨0,bx,[]⟩/\H' sd=some (.lst (st.sd.map V.int))/\BxAt H' b st.bx (m+d)/\ie z.p st.bx/\dy st.sd z.p/\AkAt CA CG H' k g sd z/\But3 b sd k H4 H',
  ⟨_,⟨0,bx,[]⟩,0,rfl,qC0 _,rfl,Int.le_refl 0,zJ0 _,rfl,g4,BX4,bo,(fun x hx=>by cases hx),AK4,fun _ _ _ _ _ e=>e⟩,?_⟩
 rintro mm σ H' ⟨st,d,rfl,d2,rfl,st0,sl,hrun,hsd',BX',bo',so',AK',S'⟩;have hM':=S' _ _ nbM.symm nMs nMk hM4;have hh':=S' _ _ nhb nhs (be hh4 hk4 (by intro z;cases z)) hh4;have kT':bu H4 H':=fun c xs h=>S' c _ (be h hb4 (by intro z;cases z)) (be h g4 (by intro z;cases z)) (be h hk4 (by intro z;cases z)) h
 have RW':=RW4.mono kT';have fin:fQ z rows (200-d) st=st->∀(l:Addr)(H5:Hp),H' l=none->Same H' H5->H5 l=some (.lst ((oU z.mn st.sd).map V.int))->Q (.ref l) H5:=fun er l H5 l0 S5 hl=>by
  rw[er]at hrun;rw[←hrun]at q;refine q l H5 ?_ hl ((BX'.keep fun o e=>S5 b o e).le (by omega)) (S5 _ _ hM') (fun a o h1 h2 e=>?_)
  . cases e:H l with
    | none=>rfl
    | some o=>
      have lM:l≠M:=fun z=>by rw[z,hM']at l0;cases l0
      have lb:l≠b:=fun z=>by
       obtain⟨kvs,e',_⟩:=BX';rw[z,e']at l0;cases l0
      have ls:l≠sd:=fun z=>by rw[z,hsd']at l0;cases l0
      rw[S' _ _ lb ls (aO e hk) (S04 _ _ lM e)]at l0;cases l0
  . exact S5 _ _ (S' _ _ h2 (aO e sd0) (aO e hk) (S04 _ _ h1 e))
 refine⟨CM,dm,_,_,hM',TM.cl,TM.nH,Dk,h,_,rfl,.inr (zD0 hh'),?_⟩;rw[RW.1]
 by_cases c1:st.pl<(rows.length:Int)
 . refine bn c1 ?_;refine⟨sd,_,rfl,.inl (zG0 hsd'),?_⟩;rw[zH0]
   by_cases c2:(st.sd.length:Int)<z.mn
   . refine bn c2 ?_;refine ?_
     by_cases c3:d<200
     . refine bn (by omega) ?_;refine⟨_,fun _ _ h=>h,?_⟩;refine⟨M,dm,_,rfl,hM',ml_n1,M,g,h,b,dm,k,sd,rv,_,st.pl,z,rows,st.bx,m+d,st.sd,rfl,hM',nMk,hh',RW',rq,st0,c1,BX',bo',by omega,hsd',by omega,AK',ok,fun H6 hs6 BX6 A6 S6=>?_⟩;refine ?_;refine⟨_,(show 200-(d+1)<200-d by omega),fN z rows st,d+1,rfl,c3,rfl,xY rq st0,qB0 qY (Nat.succ_le_succ sl),?_,hs6,BX6,(nA ok bo' so').1,(nA ok bo' so').2,A6,S'.trans S6⟩;rw[←hrun,show 200-d=(200-(d+1))+1 by omega];exact(zI0 ⟨c1,c2⟩).symm
     . refine aI (by omega) ?_;have ed:200-d=0:=by omega
       exact⟨_,_,_,_,_,_,_,sd,z.mn,st.sd,rfl,hsd',by omega,mn0,mn1,fin (by rw[ed];rfl)⟩
   . refine aI c2 (gu ?_);refine⟨_,_,_,_,_,_,_,sd,z.mn,st.sd,rfl,hsd',by omega,mn0,mn1,fin ?_⟩;cases 200-d with
     | zero=>rfl
     | succ n=>exact zF0 (fun z=>c2 z.2)
 . refine aI c1 (gu ?_);refine⟨_,_,_,_,_,_,_,sd,z.mn,st.sd,rfl,hsd',by omega,mn0,mn1,fin ?_⟩;cases 200-d with
   | zero=>rfl
   | succ n=>exact zF0 (fun z=>c1 z.1)
end
end
theorem bInT{x:V}{xs:List V}{f:Bool->Prop}(e:inV x xs=true)(h:f true):isB (.bl (if(false:Bool)=true then !inV x xs else inV x xs)) f:=by
 rw[zF0 (by decide),e];exact h
theorem bInF{x:V}{xs:List V}{f:Bool->Prop}(e:inV x xs=false)(h:f false):isB (.bl (if(false:Bool)=true then !inV x xs else inV x xs)) f:=by
 rw[zF0 (by decide),e];exact h
section
variable {P:Program} {w:World} {K:W.Frag} {mg:Str->Option Value} {base:Heap}
section
theorem at0S(x:V)(xs:List V):atI (x::xs) 0=some x:=cq (j:=0) rfl
theorem pV (o:Str):inV (.str o) [.str "yes",.str "no"]=(decide (o="yes")||decide (o="no")):=by
 show (("yes"==o)||(("no"==o)||false))=_;rw[Bool.or_false];have e:∀z:Str,(z==o)=decide (o=z):=fun z=>by
  by_cases c:o=z
  . subst c;simp
  . rw[decide_eq_false c];simpa using fun h=>c h.symm
 rw[e,e]
def lC (o:Str) (x y:Int):Int:=if o="and" then x*y else if o="or" then x+y-x*y else if o="odd" then x+y-2*x*y else 1-x-y+2*x*y
def dS (x y:Int):List (Key×V):=[(Sum.inr "and",V.int (x*y)),(Sum.inr "or",V.int (x+y-x*y)),(Sum.inr "odd",V.int (x+y-2*x*y)),(Sum.inr "same",V.int (1-x-y+2*x*y))]
theorem Af(x y:Int):eJ [] (dS x y)=dS x y:=by with_unfolding_all rfl
theorem DF(x y:Int):∀o∈joinW,bN (dS x y) (Sum.inr o)=some (V.int (lC o x y)):=by
 intro o ho;simp only[joinW,List.mem_cons,List.not_mem_nil,or_false]at ho;rcases ho with rfl | rfl | rfl | rfl
 . have e:lC "and" x y=x*y:=by unfold lC;rw[zI0 rfl]
   rw[e];with_unfolding_all rfl
 . have e:lC "or" x y=x+y-x*y:=by unfold lC;rw[zF0 (by decide +kernel),zI0 rfl]
   rw[e];with_unfolding_all rfl
 . have e:lC "odd" x y=x+y-2*x*y:=by unfold lC;rw[zF0 (by decide +kernel),zF0 (by decide +kernel),zI0 rfl]
   rw[e];with_unfolding_all rfl
 . have e:lC "same" x y=1-x-y+2*x*y:=by unfold lC;rw[zF0 (by decide +kernel),zF0 (by decide +kernel),zF0 (by decide +kernel)]
   rw[e];with_unfolding_all rfl
theorem uH(o:Str)(p x y:Int):cW p o x y=lC o x y % p:=by
 unfold cW lC;rw[Int.mul_assoc]
 repeat' split
 . rfl
 . rfl
 . rfl
 . congr 1
   omega
theorem lc{o x:Str}(h:o∈joinW)(hx:x∉joinW):¬ V.str o=V.str x:=fun z=>hx (by rw[←V.str.inj z];exact h)
def NdAt(H:Hp)(d:Addr)(ns:List Str)(pt:List Int):Prop:=∃kvs:List (Key×V),H d=some (.dK kvs)/\∀(x:Str)(j:Nat),cK x ns=some j->bN kvs (Sum.inr x)=some (.int (pt.getD j 0))
theorem NdAt.same{H H':Hp}{d:Addr}{ns:List Str}{pt:List Int}(h:NdAt H d ns pt)(S:Same H H'):NdAt H' d ns pt:=by
 obtain⟨kvs,e,r⟩:=h;exact⟨kvs,S _ _ e,r⟩
def pz(n:Nat):Sp:=fun vs H Q _=>∃(v:V)(t:Tr)(d:Addr)(ns:List Str)(pt:List Int)(p:Int),vs=[v,.ref d,.int p]/\TreeAt H v t/\t.ok ns/\t.depth<=n/\NdAt H d ns pt/\pt.length=ns.length/\1<p/\p<2 ^ 40/\dy pt p/\∀H',Same H H'->Q (.int (t.worth ns pt p)) H'
theorem gi:FnScope ["_law_tree_here","_law_point","_law_p","_law_word","_law_a","_law_b","_law_some"] ["_law_tree_here","_law_point","_law_p"] (ae fi):=⟨rfl,rfl,rfl,by decide +kernel,rfl,by decide +kernel,by decide +kernel⟩
theorem zM {n:Nat} {f:Addr} {fd:FuncData} (F:Fun K "_law_worth" "_law_worth" fi f fd) (B:Bl mg) (fb:Cal P w K mg base (n+2) "_law_worth" ["_law_tree_here","_law_point","_law_p"] (pz n)):FnOk P w K mg base CX0 (n+3) f fd ["_law_tree_here","_law_point","_law_p"] (pz (n+1)):=by
 refine F.ok gi (fun vs H Q E h=>?_) (fun cdv A outer s H vs Q E hr h=>?_)
 . obtain⟨v,t,d,ns,pt,p,rfl,_⟩:=h;rfl
 obtain⟨v,t,d,ns,pt,p,rfl,T,ok,dn,hO,sl,p1,p40,po,k⟩:=h;have hu:=ld hr;have p0:(0:Int)<p:=by omega
 refine ⟨_,(ac (ak (i:=3) gi.nd rfl (Or.inl rfl) (av aB (pv 0) aa (fun _ _=>rfl)))
  (ac (aH (ah aM (pv 3) aq (aj _)) (ad (ao (bz hu (pv 1) (av aB (pv 0) aa (fun _ _=>rfl)) (fun _ _=>rfl)))) ax)
  (ac (aH (ah jU (pv 3) (bU (af aq (af aq aJ))) (by with_unfolding_all rfl)) (ad (ao (bh gK rfl B.int fJ (af (cp aM (pv 3) aq (aj _)) aJ)))) ax)
  (ac (ak (i:=4) gi.nd rfl (Or.inl rfl) (ai fb hr (zJ0 _) rfl (af (av aB (pv 0) aa (fun _ _=>rfl)) (af (pv 1) (af (pv 2) aJ)))))
  (ac (aH (ah aM (pv 3) aq (aj _)) (ad (ao (ag aN (ag aQ aa (pv 4)) (pv 2)))) ax)
  (ac (ak (i:=5) gi.nd rfl (Or.inl rfl) (ai fb hr (zJ0 _) rfl (af (av aB (pv 0) aa (fun _ _=>rfl)) (af (pv 1) (af (pv 2) aJ)))))
  (ac (ak (i:=6) gi.nd rfl (Or.inl rfl) (qo (cH aq (ag aW (pv 4) (pv 5)) (cH aq (ag aQ (ag aR (pv 4) (pv 5)) (ag aW (pv 4) (pv 5))) (cH aq (ag aQ (ag aR (pv 4) (pv 5)) (ag aW (ag aW aa (pv 4)) (pv 5))) (cH aq (ag aR (ag aQ (ag aQ aa (pv 4)) (pv 5)) (ag aW (ag aW aa (pv 4)) (pv 5))) qk)))) rfl rfl (by simp) (by decide)))
  (ad (ao (ag aN (bz hu (pv 6) (pv 3) (fun _ _=>rfl)) (pv 2))))))))))),?_⟩
 cases T with
 | @is q x e=>
   refine⟨_,_,zD0 e,rfl,rfl,?_⟩;refine bDV rfl ?_;obtain⟨j,hj,jl⟩:=fE (show x∈ns from ok);obtain⟨kvs,hd,hv⟩:=hO;refine⟨_,_,zD0 e,rfl,d,.int (pt.getD j 0),rfl,?_,?_⟩
   . rw[←hv x j hj];exact DGet.k (k:=Sum.inr x) hd
   . have e1:(Tr.is x).worth ns pt p=pt.getD j 0:=by
      show(match cK x ns with | some j=>pt.getD j 0 | none=>0)=_;rw[hj]
     have k':=k _ (Same.refl _);rw[e1]at k';exact k'
 | @yes q e=>
   refine⟨_,_,zD0 e,rfl,rfl,?_⟩;refine aY (by decide +kernel) ?_;refine⟨(by show 2<=sizeLine;decide),fun c hc=>?_⟩;have G:=zE0 hc (.lst [.str "yes",.str "no"]);refine⟨c,_,rfl,.inl (zG0 aE),rfl,rfl,?_⟩;have e0:inV (.str "yes") [.str "yes",.str "no"]=true:=by rw[pV];decide +kernel
   refine bInT e0 (jY ?_);refine⟨rfl,.inr ⟨_,rfl,?_⟩⟩;have e1:decide (V.str "yes"=V.str "yes")=true:=decide_eq_true rfl;rw[e1];exact k _ G
 | @no q e=>
   refine⟨_,_,zD0 e,rfl,rfl,?_⟩;refine aY (by decide +kernel) ?_;refine⟨(by show 2<=sizeLine;decide),fun c hc=>?_⟩;have G:=zE0 hc (.lst [.str "yes",.str "no"]);refine⟨c,_,rfl,.inl (zG0 aE),rfl,rfl,?_⟩;have e0:inV (.str "no") [.str "yes",.str "no"]=true:=by rw[pV];decide +kernel
   refine bInT e0 (jY ?_);refine⟨rfl,.inr ⟨_,rfl,?_⟩⟩;have e1:decide (V.str "no"=V.str "yes")=false:=by decide +kernel
   rw[e1];exact k _ G
 | @not q u r e g=>
   refine⟨_,_,zD0 e,rfl,rfl,?_⟩;refine aY (by decide +kernel) ?_;refine⟨(by show 2<=sizeLine;decide),fun c hc=>?_⟩;have G:=zE0 hc (.lst [.str "yes",.str "no"]);refine⟨c,_,rfl,.inl (zG0 aE),rfl,rfl,?_⟩;have e0:inV (.str "not") [.str "yes",.str "no"]=false:=by rw[pV];decide +kernel
   refine bInF e0 (gu ?_);have dn':r.depth<=n:=by
    have:r.depth+1<=n+1:=dn
    omega
   refine⟨_,_,zD0 (G _ _ e),rfl,u,r,d,ns,pt,p,rfl,g.mono (aX G),ok,dn',hO.same G,sl,p1,p40,po,fun H2 S2=>?_⟩;refine⟨rfl,?_⟩;refine bDV rfl ?_;refine⟨p0,?_⟩;exact k _ (G.trans S2)
 | @bin q o u u2 r r2 e g g2=>
   obtain ⟨ho,ok1,ok2⟩:=ok;refine⟨_,.str o,zD0 e,at0S ..,rfl,?_⟩;refine aI (lc ho (by decide +kernel)) ?_;refine⟨(by show 2<=sizeLine;decide),fun c hc=>?_⟩;have G:=zE0 hc (.lst [.str "yes",.str "no"]);refine⟨c,_,rfl,.inl (zG0 aE),rfl,rfl,?_⟩;have e0:inV (.str o) [.str "yes",.str "no"]=false:=by
    rw[pV,decide_eq_false,decide_eq_false]
    . rfl
    . exact fun z=>lc ho (by decide +kernel) (congrArg V.str z)
    . exact fun z=>lc ho (by decide +kernel) (congrArg V.str z)
   refine bInF e0 (gu ?_);have dn':r.depth<=n/\r2.depth<=n:=by
    have:max r.depth r2.depth+1<=n+1:=dn
    omega
   refine⟨_,_,zD0 (G _ _ e),rfl,u,r,d,ns,pt,p,rfl,g.mono (aX G),ok1,dn'.1,hO.same G,sl,p1,p40,po,fun H2 S2=>?_⟩;have S02:=G.trans S2;have w1:=worth_rng p1 po sl r ok1;have w2:=worth_rng p1 po sl r2 ok2;have ew:(Tr.bin o r r2).worth ns pt p=lC o (r.worth ns pt p) (r2.worth ns pt p) % p:=uH o p _ _;rw[ew]at k;refine⟨rfl,?_⟩;refine aI (lc ho (by decide +kernel)) ?_;refine⟨_,_,zD0 (S02 _ _ e),rfl,u2,r2,d,ns,pt,p,rfl,g2.mono (aX S02),ok2,dn'.2,hO.same S02,sl,p1,p40,po,fun H3 S3=>?_⟩;have S03:=S02.trans S3;generalize r.worth ns pt p=x at w1 k;generalize r2.worth ns pt p=y at w2 k;refine fun m hm=>?_
   simp only [pW];refine⟨.inl ⟨by omega,by omega⟩,.inl ⟨by omega,by omega⟩,.inl ⟨by decide,by decide⟩,.inr ⟨by omega,by omega⟩,?_⟩;refine⟨.inl ⟨by decide,by decide⟩,.inr ⟨by omega,by omega⟩,?_⟩;refine⟨aE,dS x y,rfl,by show 4<=15;decide,?_⟩;rw[Af];have Sd:Same H3 (upd (upd H3 m (.dK [])) m (.dK (dS x y))):=fun b' o' e'=>by
    have nb:=aO e' hm;rw[am nb,am nb];exact e'
   have hd2:upd (upd H3 m (.dK [])) m (.dK (dS x y)) m=some (.dK (dS x y)):=aE;generalize upd (upd H3 m (.dK [])) m (.dK (dS x y))=H4 at Sd hd2;refine⟨m,.int (lC o x y),rfl,(by rw[←DF x y o ho];exact DGet.k (k:=Sum.inr _) hd2),p0,?_⟩;exact k _ (S03.trans Sd)
theorem zL {f:Addr} {fd:FuncData}:FnOk P w K mg base CX0 2 f fd ["_law_tree_here","_law_point","_law_p"] (pz 0):=by
 have no:∀vs H Q E,¬ pz 0 vs H Q E:=fun vs H Q E h=>by
  obtain⟨v,t,_,_,_,_,_,_,_,h1,_⟩:=h
  have:=t.depth_pos
  omega
 exact⟨fun vs H Q E h=>absurd h (no vs H Q E),fun A outer s H args us vs Q E _ _ _ _ h=>absurd h (no vs H Q E)⟩
theorem oj {f:Addr} {fd:FuncData} (F:Fun K "_law_worth" "_law_worth" fi f fd) (B:Bl mg) (m:mg "_law_worth"=some (.ref f)) :
 ∀n:Nat,FnOk P w K mg base CX0 (n+2) f fd ["_law_tree_here","_law_point","_law_p"] (pz n)
 | 0=>zL
 | n+1=>zM F B (Cal.of F (oj F B m n) m (fun _ _ _ _ _ _ us hl=>by obtain⟨u0,u1,u2,rfl⟩:=gV hl;rfl))
end
theorem xg{p x y:Int}(hp:1<p){o:Str}(bx cy:Bool)(hx:x=if bx then 1 else 0)(hy:y=if cy then 1 else 0):cW p o x y=if iZ o bx cy then 1 else 0:=by
 have m0:(0:Int) % p=0:=Int.zero_emod p;have m1:(1:Int) % p=1:=qV0 (by decide) hp;subst hx hy;unfold cW iZ;cases bx <;> cases cy <;> (repeat' split) <;> simp_all
theorem gX{ns:List Str}{st:List Int}{p:Int}(hp:1<p)(h:∀x∈st,x=0∨x=1)(hl:st.length=ns.length):∀t:Tr,t.ok ns->t.worth ns st p=if t.holds ns st then 1 else 0
 | .is x,ok=>by
   obtain⟨j,hj,jl⟩:=fE ok;show(match cK x ns with | some j=>st.getD j 0 | none=>0)=if(match cK x ns with | some j=>decide (st.getD j 0=1) | none=>false)=true then 1 else 0
   rw[hj];show st.getD j 0=if decide (st.getD j 0=1)=true then 1 else 0
   rw[oF (by omega)];rcases h _ (qY0 (show j<st.length by omega))with e | e <;> rw[e] <;> rfl
 | .yes,_=>rfl
 | .no,_=>rfl
 | .not a,ok=>by
   have m0:(0:Int) % p=0:=Int.zero_emod p;have m1:(1:Int) % p=1:=qV0 (by decide) hp;show(1-a.worth ns st p) % p=if(!a.holds ns st)=true then 1 else 0
   rw[gX hp h hl a ok];cases a.holds ns st
   . exact m1
   . exact m0
 | .bin o a b,⟨_,k1,k2⟩=>xg hp _ _ (gX hp h hl a k1) (gX hp h hl b k2)
section
theorem DG{xs:List V}{k:Nat}(hk:k<=xs.length):lj xs none (some (k:Int))=xs.take k:=by
 unfold lj;rw[HT.sIx_none,HT.sIx_nat,List.drop_zero,Nat.sub_zero,Nat.min_eq_left hk]
structure GmT(H:Hp)(gh a b:Addr)(ns:List Str)(tv:List V)(ts:List Tr)(p:Int):Prop where
 hg:H gh=some (.tup [.ref a,.ref b,.int p])
 ha:H a=some (.tup (ns.map V.str))
 hb:H b=some (.tup tv)
 tr:TreesAt H tv ts
theorem GmT.mono{H H':Hp}{gh a b:Addr}{ns:List Str}{tv:List V}{ts:List Tr}{p:Int}(h:GmT H gh a b ns tv ts p)(k:bu H H'):GmT H' gh a b ns tv ts p:=⟨k _ _ h.hg,k _ _ h.ha,k _ _ h.hb,h.tr.mono k⟩
theorem uU {X:Cx} (K:W.Frag) (hc:X.calm=true) (h:X.K=K:=by rfl):hZ X (.builtin "max") (BV K):=by subst h;exact lU hc
def yi:Sp:=fun vs H Q _=>∃(gh a b:Addr)(ns:List Str)(tv:List V)(ts:List Tr)(p:Int),vs=[.ref gh]/\GmT H gh a b ns tv ts p/\GmK ns ts p/\∀(l:Addr)(H':Hp),H l=none->Same H H'->H' l=some (.lst ((ns.map (aZ ts)).map V.int))->Q (.ref l) H'
theorem qf:FnScope ["_law_game_here"] ["_law_game_here"] (ae dP):=⟨rfl,rfl,rfl,by decide +kernel,rfl,by decide +kernel,by decide +kernel⟩
theorem qy {f:Addr} {fd:FuncData} (F:Fun K "_law_degrees" "_law_degrees" dP f fd) (B:Bl mg) (b8:Cal P w K mg base 12 "_law_names_of" ["_law_tree_here"] (tM 10)):FnOk P w K mg base CX0 13 f fd ["_law_game_here"] yi:=by
 refine F.ok qf (fun vs H Q E h=>?_) (fun cdv A outer s H vs Q E hr h=>?_)
 . obtain⟨gh,a,b,ns,tv,ts,p,rfl,_⟩:=h;rfl
 obtain ⟨gh,a,b,ns,tv,ts,p,rfl,G,k,q⟩:=h;refine⟨_,(ad (ao (yV (N:=["_law_game_here"]) (ix:=[0]) rfl
  (CompScopeO.one (by with_unfolding_all rfl) (fun _ _=>⟨by with_unfolding_all rfl,by with_unfolding_all rfl⟩) rfl (by decide) (by with_unfolding_all rfl) (by decide +kernel) (by with_unfolding_all rfl) (by with_unfolding_all rfl) (by with_unfolding_all rfl) rfl rfl) rfl
  (iT (av aB (pv 0) aa (fun _ _=>rfl)))
  (fun _ _ _=>bQ (aD (uU K rfl) rfl B.max PyProof.Rows.boot_max (af (bX (N:=["_law_name"]) (ix:=[0]) rfl
   (CompScope.one (by with_unfolding_all rfl) (by decide) rfl (by decide) rfl (by decide +kernel) (by with_unfolding_all rfl) (by with_unfolding_all rfl) (by with_unfolding_all rfl) (by with_unfolding_all rfl) (by with_unfolding_all rfl)) rfl
   (AZ K (av (ni K) (pv 1) aa (fun _ _=>rfl)))
   (fun _ _ _=>bQ (yX K PySem.F.plainAttrs_list PySem.F.slot_list_count PySem.F.type_list_count (pG K) (ai b8 hr (by decide) rfl (af (pv 0) aJ)) (af (pv 1) aJ)))) aJ)))))),?_⟩
 obtain⟨hg,ha,hb,TS⟩:=G;have vl:=TS.length;have t10:=k.t10;have n10:=k.n10;have t0:ts≠[]:=fun z=>by have:=k.t1;rw[z]at this;cases this
 refine⟨_,_,zD0 hg,rfl,a,rfl,⟨_,zD0 ha⟩,fun D hD=>?_⟩;refine iH (K:=K) (xs:=ns.map V.str) (fun i H'=>H' D=some (.lst (((ns.take i).map (aZ ts)).map V.int))/\Same H H') ⟨by rw[aE];rfl,zE0 hD _⟩ (fun i H' _ h=>zD0 (h.2 _ _ ha)) ?_ ?_
 . rintro i z H2 hz ⟨hl,S2⟩;have hi:i<(ns.map V.str).length:=(zT0 hz).1;rw[zV0]at hz;obtain⟨x,hx,rfl⟩:=qM0 hz;refine⟨_,_,zD0 (S2 _ _ hg),rfl,b,rfl,⟨_,zD0 (S2 _ _ hb)⟩,fun D2 hD2=>?_⟩;refine iH (K:=K) (xs:=tv) (fun j H'=>H' D2=some (.lst (((ts.take j).map fun t=>(t.names.count x:Int)).map V.int))/\Same H2 H') ⟨by rw[aE];rfl,zE0 hD2 _⟩ (fun j H' _ h=>zD0 (h.2 _ _ (S2 _ _ hb))) ?_ ?_
   . rintro j u H3 hu ⟨hl3,S3⟩;obtain⟨t,ht,Tt⟩:=TS.get hu;obtain⟨_,tw,td,tz⟩:=k.tok t (qJ0 ht);have hj:j<tv.length:=(zT0 hu).1;refine⟨u,t,rfl,Tt.mono (aX (S2.trans S3)),tw,by omega,tz,fun l H4 l0 S4 hl4=>?_⟩;refine⟨.inl ⟨rfl,_,zG0 hl4⟩,l,_,_,rfl,rfl,zG0 hl4,fG _,rfl,?_⟩;rw[kq];refine⟨_,S4 _ _ hl3,?_,Nx.of hj ⟨?_,fun b' o' e'=>?_⟩⟩
     . rw[zH0,zH0,qL0];exact aG (by omega)
     . rw[aE,qK0,ht,zM0,zM0];rfl
     . rw[am (aO e' hD2)];exact S4 _ _ (S3 _ _ e')
   . rintro H3 ⟨hl3,S3⟩;rw[vl,qO0]at hl3;refine⟨D2,_,rfl,zG0 hl3,by simpa using t0,?_⟩;refine⟨_,S3 _ _ hl,?_,Nx.of hi ⟨?_,fun b' o' e'=>?_⟩⟩
     . rw[zH0,zH0,qL0];exact aG (by omega)
     . rw[aE,qK0,hx,zM0,zM0];rfl
     . rw[am (aO e' hD)];exact S3 _ _ (S2 _ _ e')
 . rintro H2 ⟨hl,S2⟩;rw[zH0,qO0]at hl;exact q D H2 hD S2 hl
end
section
theorem rH{x:Str}:∀{ns:List Str}{j:Nat},cK x ns=some j->ns[j]?=some x
 | [],j,h=>by simp [cK]at h
 | a::r,j,h=>by
   unfold cK at h
   by_cases c:a=x
   . rw[zI0 c]at h;cases h;rw[c];rfl
   . rw[zF0 c]at h;obtain⟨i,hi,rfl⟩:=qM0 h;show r[i]?=some x;exact rH hi
theorem jh{k:Key}:∀(more acc:List (Key×V)),k∉more.map (·.1)->bN (eJ acc more) k=bN acc k
 | [],acc,_=>rfl
 | kv::r,acc,h=>by
   have h1:k≠kv.1:=fun e=>h (by rw[e];exact qP0)
   have h2:k∉r.map (·.1):=fun e=>h (qQ0 _ e)
   show bN (eJ (fD acc kv.1 kv.2) r) k=_;rw[jh r _ h2,jg,zF0 h1]
theorem ji{k:Key}{v:V}:∀(more acc:List (Key×V)),(more.map (·.1)).Nodup->(k,v)∈more->bN (eJ acc more) k=some v
 | [],_,_,h=>by cases h
 | kv::r,acc,nd,h=>by
   have nd':kv.1∉r.map (·.1)/\(r.map (·.1)).Nodup:=List.nodup_cons.mp nd;show bN (eJ (fD acc kv.1 kv.2) r) k=_;rcases zZ0 h with e | e
   . subst e;rw[jh r _ nd'.1,jg,zI0 rfl]
   . exact ji r _ nd'.2 e
def ndL(ns:List Str)(pt:List Int):List (Key×V):=List.zipWith (fun(x:Str)(n:Int)=>((Sum.inr x:Key),V.int n)) ns pt
theorem zz{ns:List Str}{pt:List Int}{j:Nat}{x:Str}{n:Int}(h1:ns[j]?=some x)(h2:pt[j]?=some n):(ndL ns pt)[j]?=some (Sum.inr x,V.int n):=by
 unfold ndL;rw[List.getElem?_zipWith,h1,h2]
theorem qB{ns:List Str}{pt:List Int}(h:pt.length=ns.length):(ndL ns pt).length=ns.length:=by
 unfold ndL;rw[List.length_zipWith,h,Nat.min_self]
theorem rY:∀{ns:List Str}{pt:List Int},pt.length=ns.length->(ndL ns pt).map (·.1)=ns.map fun x=>(Sum.inr x:Key)
 | [],[],_=>rfl
 | a::ns,b::pt,h=>by
   have:=rY (ns:=ns) (pt:=pt) (by simpa using h)
   show(Sum.inr a:Key)::(ndL ns pt).map (·.1)=_;rw[this];rfl
 | [],_::_,h=>by simp at h
 | _::_,[],h=>by simp at h
theorem De{ns:List Str}{pt:List Int}(nd:ns.Nodup)(hl:pt.length=ns.length)(x:Str)(j:Nat)(h:cK x ns=some j):bN (eJ [] (ndL ns pt)) (Sum.inr x)=some (.int (pt.getD j 0)):=by
 have h1:=rH h;have jl:j<pt.length:=by
  have:=(zT0 h1).1
  omega
 have h2:pt[j]?=some pt[j]:=zU0 jl;have nk:((ndL ns pt).map (·.1)).Nodup:=by
  rw[rY hl];exact List.Pairwise.map _ (fun a b (hab:a≠b) e=>hab (Sum.inr.inj e)) nd
 rw[ji _ _ nk (qJ0 (zz h1 h2)),qX0,h2];rfl
def tN:Sp:=fun vs H Q _=>∃(gh a b r:Addr)(ns:List Str)(tv:List V)(ts:List Tr)(pt:List Int)(s p:Int),vs=[.ref gh,.int s,.ref r]/\GmT H gh a b ns tv ts p/\ns.Nodup/\ns.length<=10/\(∀t∈ts,t.ok ns/\t.depth<=10)/\IntsAt H r pt/\pt.length=ns.length/\dy pt p/\1<p/\p<2 ^ 40/\∀H',Same H H'->Q (.int (hor s p (ts.map fun t=>t.worth ns pt p))) H'
theorem du:FnScope ["_law_game_here","_law_s","_law_point","_law_switches","_law_trees","_law_p","_law_named","_law_total","_law_tree_here"] ["_law_game_here","_law_s","_law_point"] (ae gE):=⟨rfl,rfl,rfl,by decide +kernel,rfl,by decide +kernel,by decide +kernel⟩
theorem uh {f:Addr} {fd:FuncData} (F:Fun K "_law_mixed" "_law_mixed" gE f fd) (B:Bl mg) (fb:Cal P w K mg base 12 "_law_worth" ["_law_tree_here","_law_point","_law_p"] (pz 10)):FnOk P w K mg base CX0 13 f fd ["_law_game_here","_law_s","_law_point"] tN:=by
 refine F.ok du (fun vs H Q E h=>?_) (fun cdv A outer s H vs Q E hr h=>?_)
 . obtain⟨gh,a,b,r,ns,tv,ts,pt,s,p,rfl,_⟩:=h;rfl
 obtain ⟨gh,a,b,r,ns,tv,ts,pt,s,p,rfl,G,nd,n10,tok,hr0,pl,po,p1,p40,q⟩:=h;refine⟨_,(ac (ki (pv 0) (qm rfl (eg (ba (i:=3) du.nd rfl (Or.inl rfl)) (eg (ba (i:=4) du.nd rfl (Or.inl rfl)) (eg (ba (i:=5) du.nd rfl (Or.inl rfl)) mV)))))
  (ac (ak (i:=6) du.nd rfl (Or.inl rfl) (uc rfl rfl B.dict rfl B.zip (af (pv 3) (af (pv 2) aJ))))
  (ac (ak (i:=7) du.nd rfl (Or.inl rfl) aa)
  (ac (bY PassesOwn.never rfl (vF rfl B.reversed (pv 4)) (ba (i:=8) du.nd rfl (Or.inl rfl)) (ad (ak (i:=7) du.nd rfl (Or.inl rfl) (ag aN (ag aR (ag aW (pv 7) (pv 1)) (ai fb hr (by decide) rfl (af (pv 8) (af (pv 6) (af (pv 5) aJ))))) (pv 5)))))
  (ad (ao (pv 7))))))),?_⟩
 have p0:0<p:=by omega
 have vl:=G.tr.length;obtain⟨c,hr1⟩:=hr0.sqB (K:=K);refine⟨gh,_,rfl,zD0 G.hg,rfl,_,_,rfl,_,_,rfl,_,_,rfl,rfl,?_⟩;refine⟨a,r,false,c,_,_,ndL ns pt,rfl,zD0 G.ha,hr1,by rw[zH0,qB pl],cu (by rw[qB pl];omega),fun j kv hj=>?_,fun d hd=>?_⟩
 . have jl:j<ns.length:=by
    have:=(zT0 hj).1
    rw[qB pl]at this;exact this
   have h1:ns[j]?=some ns[j]:=zU0 jl;have h2:pt[j]?=some (pt[j]'(by omega)):=zU0 _;rw[zz h1 h2]at hj;cases hj;exact⟨by rw[zV0,h1];rfl,by rw[zV0,h2];rfl⟩
 have Id:=zE0 hd (.dK (eJ [] (ndL ns pt)));have Nd:NdAt (upd H d (.dK (eJ [] (ndL ns pt)))) d ns pt:=⟨_,aE,De nd pl⟩
 generalize upd H d (.dK (eJ [] (ndL ns pt)))=H1 at Id Nd;have hb1:=Id _ _ G.hb;refine⟨false,b,_,rfl,zD0 hb1,sE (K:=K) (c:=false) (xs:=tv) (fun i σ H'=>∃(x8:Option V)(t:Int),σ=[some (.ref gh),some (.int s),some (.ref r),some (.ref a),some (.ref b),some (.int p),some (.ref d),some (.int t),x8]/\t=hor s p ((ts.map fun t=>t.worth ns pt p).drop (ts.length-i))/\Same H1 H')
  ⟨_,0,rfl,by rw[Nat.sub_zero,←zH0 (as:=ts) (f:=fun t=>t.worth ns pt p),List.drop_length];rfl,Same.refl _⟩ (fun i σ H' _ hst=>by obtain⟨_,_,_,_,h⟩:=hst;exact zD0 (h _ _ hb1)) ?_ ?_⟩
 . rintro i z σ H2 hi hz ⟨x8,t,rfl,rfl,S2⟩;rw[List.getElem?_reverse hi]at hz;obtain⟨u,hu,Tu⟩:=(G.tr.mono (aX (Id.trans S2))).get hz;obtain⟨uk,ud⟩:=tok u (qJ0 hu);have hr2:=lg (s:=s) p0 ((ts.map fun t=>t.worth ns pt p).drop (ts.length-i));refine⟨.inl ⟨by omega,by omega⟩,z,u,d,ns,pt,p,rfl,Tu,uk,ud,Nd.same S2,pl,p1,p40,po,fun H3 S3=>?_⟩;refine⟨p0,?_⟩;refine⟨_,_,rfl,?_,S2.trans S3⟩;have hj:ts.length-1-i<(ts.map fun t=>t.worth ns pt p).length:=by rw[zH0];omega
   have ed:(ts.map fun t=>t.worth ns pt p).drop (ts.length-(i+1))=u.worth ns pt p::(ts.map fun t=>t.worth ns pt p).drop (ts.length-i):=by
    have e1:ts.length-(i+1)=ts.length-1-i:=by omega
    have e2:ts.length-i=ts.length-1-i+1:=by omega
    rw[e1,e2,List.drop_eq_getElem_cons hj]
    congr 1
    rw[List.getElem_map];rw[vl]at hu;rw[(zT0 hu).2]
   rw[ed];rfl
 . rintro σ H2 ⟨x8,t,rfl,rfl,S2⟩;rw[vl,Nat.sub_self,List.drop_zero];exact(q _ (Id.trans S2))
def gz:Nat->List (List Int)
 | 0=>[[]]
 | n+1=>(gz n).map (·++[0])++(gz n).map (·++[1])
theorem lA:∀n,(gz n).length=2 ^ n
 | 0=>rfl
 | n+1=>by
   show((gz n).map (·++[0])++(gz n).map (·++[1])).length=_;rw[zO0,zH0,zH0,lA n,Nat.pow_succ];omega
theorem jC:∀(n:Nat)(s:List Int),s∈gz n->s.length=n/\∀x∈s,x=0∨x=1
 | 0,s,h=>by
   rw[zP0 h];exact⟨rfl,fun x hx=>by cases hx⟩
 | n+1,s,h=>by
   have cl:∀(z:Int),(z=0∨z=1)->s∈(gz n).map (·++[z])->s.length=n+1/\∀x∈s,x=0∨x=1:=fun z hz hm=>by
    obtain⟨t,ht,rfl⟩:=List.mem_map.mp hm;obtain⟨l,o⟩:=jC n t ht;refine⟨by rw[zO0,l];rfl,fun x hx=>?_⟩;rcases qD0 hx with hx | hx
    . exact o x hx
    . rw[zP0 hx];exact hz
   rcases qD0 h with h | h
   . exact cl 0 (.inl rfl) h
   . exact cl 1 (.inr rfl) h
theorem qW{α:Type}(F G:α->Int):∀l:List α,(l.map fun s=>F s+G s).sum=(l.map F).sum+(l.map G).sum
 | []=>rfl
 | a::l=>by
   simp only[qG0,List.sum_cons,qW F G l];omega
theorem ph(F:List Int->Int):∀l:List (List Int),((l.flatMap fun s=>[s++[0],s++[1]]).map F).sum=(l.map fun s=>F (s++[0])+F (s++[1])).sum
 | []=>rfl
 | a::l=>by
   rw[List.flatMap_cons,zM0,List.sum_append,ph F l]
   simp
theorem ly:∀(n:Nat)(F:List Int->Int),((gz n).map F).sum=((bE n).map F).sum
 | 0,F=>by simp [gz,bE]
 | n+1,F=>by
   have e1:((bE (n+1)).map F).sum=((bE n).map fun s=>F (s++[0])+F (s++[1])).sum:=ph F _;rw[e1,qW (fun s=>F (s++[0])) (fun s=>F (s++[1]))];show(((gz n).map (·++[0])++(gz n).map (·++[1])).map F).sum=_;rw[zM0,List.sum_append,List.map_map,List.map_map];rw[←ly n (fun s=>F (s++[0])),←ly n (fun s=>F (s++[1]))];rfl
theorem CV{i:Nat}(h:i<=6):2 ^ i<=64:=by
 have:i=0∨i=1∨i=2∨i=3∨i=4∨i=5∨i=6:=by omega
 rcases this with h | h | h | h | h | h | h <;> subst h <;> decide
def tO:Sp:=fun vs H Q _=>∃n:Int,vs=[.int n]/\0<=n/\n<=6/\∀(r:Addr)(H':Hp),H r=none->Same H H'->qQ H' r (gz n.toNat)->Q (.ref r) H'
theorem mF:FnScope ["_law_many","_law_rows","_law_k"] ["_law_many"] (ae jM):=⟨rfl,rfl,rfl,by decide +kernel,rfl,by decide +kernel,by decide +kernel⟩
theorem TupsAt.app{H:Hp}:∀{rs us:List V}{ss tt:List (List Int)},TupsAt H rs ss->TupsAt H us tt->TupsAt H (rs++us) (ss++tt)
 | _,_,_,_,.nil,h=>h
 | _,_,_,_,.cons a r,h=>.cons a (TupsAt.app r h)
theorem zq {f:Addr} {fd:FuncData} (F:Fun K "_law_all" "_law_all" jM f fd) (B:Bl mg):FnOk P w K mg base CX0 1 f fd ["_law_many"] tO:=by
 refine F.ok mF (fun vs H Q E h=>?_) (fun cdv A outer s H vs Q E hr h=>?_)
 . obtain⟨n,rfl,_⟩:=h;rfl
 obtain ⟨n,rfl,n0,n6,q⟩:=h;refine⟨_,(ac (ak (i:=1) mF.nd rfl (Or.inl rfl) (bU (af (bd aJ) aJ)))
  (ac (bY PassesOwn.never rfl (bv rfl B.range (af (pv 0) aJ)) (ba (i:=2) mF.nd rfl (Or.inl rfl)) (ad (ak (i:=1) mF.nd rfl (Or.inl rfl) (ag fF
   (bX (N:=[]) (ix:=[]) (cl:=[]) rfl (CompScope.closed (by with_unfolding_all rfl) (by decide) rfl (by decide) rfl (by with_unfolding_all rfl)) rfl (bV (pv 1)) (fun _ _ _=>bQ (ag (kY K) (pv 0) (bd (af aa aJ)))))
   (bX (N:=[]) (ix:=[]) (cl:=[]) rfl (CompScope.closed (by with_unfolding_all rfl) (by decide) rfl (by decide) rfl (by with_unfolding_all rfl)) rfl (bV (pv 1)) (fun _ _ _=>bQ (ag (kY K) (pv 0) (bd (af aa aJ)))))))))
  (ad (ao (pv 1))))),?_⟩
 refine⟨(by show 0<=sizeLine;decide),fun p hp=>?_⟩;have Ip:=zE0 hp (.tup []);have gp:upd H p (.tup []) p=some (.tup []):=aE;generalize upd H p (.tup [])=H1 at Ip gp;refine⟨(by show 1<=sizeLine;decide),fun a ha=>?_⟩;have Ia:=zE0 ha (.lst [.ref p]);have ga:upd H1 a (.lst [.ref p]) a=some (.lst [.ref p]):=aE;generalize upd H1 a (.lst [.ref p])=H2 at Ia ga;have S02:=Ip.trans Ia;refine⟨n,rfl,by omega,by omega,dh (fun i σ H'=>∃(r:Addr)(x2:Option V),σ=[some (.int n),some (.ref r),x2]/\H r=none/\Same H H'/\qQ H' r (gz i)) ⟨a,_,rfl,Ip.free ha,S02,[.ref p],ga,.cons ⟨p,rfl,Ia _ _ gp⟩ .nil⟩ ?_ ?_⟩
 . rintro i σ H3 hi ⟨r,x2,rfl,r0,S3,rs,hrs,T⟩;have i6:i<6:=by omega
   have rl:=T.length;have sl:=lA i;have s64:=CV (i:=i) (by omega);have half:∀(z:Int)(H4:Hp)(Q':VK),Same H3 H4->(∀D us H5,H4 D=none->Same H4 H5->H5 D=some (.lst us)->TupsAt H5 us ((gz i).map (·++[z]))->Q' (.ref D) H5)->∀D,H4 D=none->oR (Itl K r) D [] (tB0 (tOp (fun x y H Q=>rF K x y H Q∨nW K x y H Q) (qV 0) (Cr (kz (tC (.int z)) tH)))) [some (.int n),some (.ref r),some (.int (0+(i:Int)))] H4 Q':=by
    intro z H4 Q' S4 q' D hD;refine cL (K:=K) (xs:=rs) (fun j H'=>∃us,H' D=some (.lst us)/\us.length=j/\Same H4 H'/\TupsAt H' us (((gz i).take j).map (·++[z]))) ⟨[],by rw[aE],rfl,zE0 hD _,.nil⟩ (fun j H' _ hst=>by obtain⟨_,_,_,h,_⟩:=hst;exact zG0 (h _ _ (S4 _ _ hrs))) ?_ ?_
    . rintro j v H5 hv ⟨us,hD5,ul,S5,TU⟩;have hj:=(zT0 hv).1;obtain⟨st,hst,t,rfl,ht⟩:=(T.mono (aX (S4.trans S5))).get hv;have stl:=(jC i st (qJ0 hst)).1;refine⟨(by show 1<=sizeLine;decide),fun u hu=>?_⟩;have I6:=zE0 hu (.tup [.int z]);have g6:upd H5 u (.tup [.int z]) u=some (.tup ([z].map V.int)):=aE;generalize upd H5 u (.tup [.int z])=H6 at I6 g6;refine lu (I6 _ _ ht) g6 (by show st.length+1<=100;omega) fun t1 H7 S7 h7=>?_
      have S57:=I6.trans S7;have hD7:=S57 _ _ hD5;have kT:bu H7 (upd H7 D (.lst (us++[.ref t1]))):=dX hD7;refine⟨_,hD7,aG (by omega),Nx.of hj ⟨us++[.ref t1],aE,by rw[zO0,ul];rfl,fun b' o' e'=>?_,?_⟩⟩
      . rw[am (aO e' hD)];exact S57 _ _ (S5 _ _ e')
      . rw[qK0,hst,zM0];exact((TU.mono (aX S57)).mono kT).app (.cons ⟨t1,rfl,kT _ _ h7⟩ .nil)
    . rintro H5 ⟨us,hD5,ul,S5,TU⟩;rw[rl,qO0]at TU;exact q' D us H5 hD S5 hD5 TU
   refine⟨r,rfl,⟨_,zG0 hrs⟩,fun D hD=>half 0 H3 _ (Same.refl _) (fun D1 us H4 D10 S4 hD1 TU=>?_) D hD⟩;refine⟨r,rfl,⟨_,zG0 (S4 _ _ hrs)⟩,fun D' hD'=>half 1 H4 _ S4 (fun D2 vs H5 D20 S5 hD2 TV=>?_) D' hD'⟩;have hD15:=S5 _ _ hD1;have l1:=TU.length;have l2:=TV.length;rw[zH0,sl]at l1 l2;refine⟨D1,D2,_,_,rfl,rfl,hD15,hD2,cu (by omega),fun l hl=>?_⟩;have Il:=zE0 hl (.lst (us++vs));exact⟨l,_,rfl,(S3.trans (S4.trans S5)).free hl,S3.trans (S4.trans (S5.trans Il)),_,aE,(TU.mono (aX (S5.trans Il))).app (TV.mono (aX Il))⟩
 . rintro σ H3 ⟨r,x2,rfl,r0,S3,R⟩;exact(q r H3 r0 S3 R)
theorem vM(p w:Int)(h0:0<=w)(h1:w<p):hor 0 p [w]=w:=by
 show(0*0+w) % p=w;rw[Int.mul_zero,Int.zero_add];exact qV0 h0 h1
def yc:Sp:=fun vs H Q _=>∃(gh a b r:Addr)(ns:List Str)(tv:List V)(ts:List Tr)(cs:List Int)(s p:Int),vs=[.ref gh,.int s,.ref r]/\GmT H gh a b ns tv ts p/\ns.Nodup/\ns.length<=6/\(∀t∈ts,t.ok ns/\t.depth<=10)/\IntsAt H r cs/\cs.length<=ns.length/\dy cs p/\1<p/\p<2 ^ 40/\∀H',Same H H'->Q (.int (jq ns ts s p cs)) H'
theorem D4:FnScope ["_law_game_here","_law_s","_law_ahead","_law_rest"] ["_law_game_here","_law_s","_law_ahead"] (ae jK):=⟨rfl,rfl,rfl,by decide +kernel,rfl,by decide +kernel,by decide +kernel⟩
theorem zn {f:Addr} {fd:FuncData} (F:Fun K "_law_sum" "_law_sum" jK f fd) (B:Bl mg) (im:Cal P w K mg base 1 "_law_all" ["_law_many"] tO) (fK:Cal P w K mg base 13 "_law_mixed" ["_law_game_here","_law_s","_law_point"] tN):FnOk P w K mg base CX0 14 f fd ["_law_game_here","_law_s","_law_ahead"] yc:=by
 refine F.ok D4 (fun vs H Q E h=>?_) (fun cdv A outer s H vs Q E hr h=>?_)
 . obtain⟨gh,a,b,r,ns,tv,ts,cs,s,p,rfl,_⟩:=h;rfl
 obtain ⟨gh,a,b,r,ns,tv,ts,cs,s,p,rfl,G,nd,n6,tok,hr0,cl,po,p1,p40,q⟩:=h;refine⟨_,(ac (ak (i:=3) D4.nd rfl (Or.inl rfl) (ai im hr (by decide) rfl (af (ag aQ (aD az rfl B.len PySem.boot_len (af (av aB (pv 0) aa (fun _ _=>rfl)) aJ)) (aD az rfl B.len PySem.boot_len (af (pv 2) aJ))) aJ)))
  (ad (ao (ag aN (aD (oO rfl) rfl B.sum PyProof.Rows.boot_sum (af (bX (N:=["_law_s","_law_game_here","_law_ahead"]) (ix:=[1,0,2]) rfl
   (CompScope.three (by with_unfolding_all rfl) (by decide) rfl (by decide) rfl (by decide +kernel) rfl (by with_unfolding_all rfl) (by with_unfolding_all rfl) (by with_unfolding_all rfl) (by with_unfolding_all rfl) (by with_unfolding_all rfl) rfl rfl (by with_unfolding_all rfl) rfl rfl (by with_unfolding_all rfl) rfl rfl) rfl
   (bV (pv 3)) (fun _ _ _=>bQ (ai fK hr (by decide) rfl (af (pv 2) (af (pv 1) (af (ag (kY K) (bh (oN K) rfl B.tuple cg (af (pv 3) aJ)) (pv 0)) aJ)))))) aJ)) (av aB (pv 0) aa (fun _ _=>rfl)))))),?_⟩
 have p0:0<p:=by omega
 obtain⟨c,hr1⟩:=hr0.sqB (K:=K);have hrl:SqL K H r (cs.map V.int)∨SqT K H r (cs.map V.int):=hr0.elim (fun e=>.inl (zG0 e)) (fun e=>.inr (zD0 e));refine⟨_,_,zD0 G.hg,rfl,a,_,rfl,.inr (zD0 G.ha),r,_,rfl,hrl,?_⟩;rw[zH0,zH0];have en:=lenB cl n6;refine⟨_,rfl,en.1,en.2.1,fun l H1 l0 S1 R1=>?_⟩;rw[en.2.2]at R1;obtain⟨rs,hrs,T⟩:=R1;have rl:=T.length;have al:=lA (ns.length-cs.length);have s64:=CV (i:=ns.length-cs.length) (by omega);refine⟨l,rfl,⟨_,zG0 hrs⟩,fun D hD=>?_⟩;refine cL (K:=K) (xs:=rs) (fun j H'=>H' D=some (.lst ((((gz (ns.length-cs.length)).take j).map fun st=>hor s p (ts.map fun t=>t.worth ns (cs++st) p)).map V.int))/\Same H1 H') ⟨by rw[aE];rfl,zE0 hD _⟩ (fun j H' _ h=>zG0 (h.2 _ _ hrs)) ?_ ?_
 . rintro j v H2 hv ⟨hD2,S2⟩;have hj:=(zT0 hv).1;obtain⟨st,hst,t,rfl,ht⟩:=(T.mono (aX S2)).get hv;obtain⟨stl,s01⟩:=jC _ st (qJ0 hst);have S02:=S1.trans S2;have app:∀H',Same H2 H'->∃ys,H' D=some (.lst ys)/\ys.length<sizeLine/\Nx rs.length j (fun j H'=>H' D=some (.lst ((((gz (ns.length-cs.length)).take j).map fun st=>hor s p (ts.map fun t=>t.worth ns (cs++st) p)).map V.int))/\Same H1 H') (upd H' D (.lst (ys++[.int (hor s p (ts.map fun t=>t.worth ns (cs++st) p))]))):=fun H' S'=>by
    refine⟨_,S' _ _ hD2,?_,Nx.of hj ⟨?_,fun b' o' e'=>?_⟩⟩
    . rw[zH0,zH0,qL0];exact aG (by omega)
    . rw[aE,qK0,hst,zM0,zM0];rfl
    . rw[am (aO e' hD)];exact S' _ _ (S2 _ _ e')
   rcases hr0 with e | e
   . refine ⟨r,_,rfl,.inl ⟨zG0 (S02 _ _ e),fun r2 hr2=>?_⟩⟩;have Ir:=zE0 hr2 (.tup (cs.map V.int));refine lu aE (Ir _ _ ht) (by omega) fun t1 H4 S4 h4=>?_
     have S24:=Ir.trans S4;exact⟨gh,a,b,t1,ns,tv,ts,cs++st,s,p,rfl,G.mono (aX (S02.trans S24)),nd,by omega,tok,.inr h4,by rw[zO0];omega,CN po p1 s01,p1,p40,fun H' S'=>app H' (S24.trans S')⟩
   . refine ⟨r,_,rfl,.inr ⟨zD0 (S02 _ _ e),?_⟩⟩;refine lu (S02 _ _ e) ht (by omega) fun t1 H4 S24 h4=>?_
     exact⟨gh,a,b,t1,ns,tv,ts,cs++st,s,p,rfl,G.mono (aX (S02.trans S24)),nd,by omega,tok,.inr h4,by rw[zO0];omega,CN po p1 s01,p1,p40,fun H' S'=>app H' (S24.trans S')⟩
 . rintro H2 ⟨hD2,S2⟩;rw[rl,qO0]at hD2;have hor_r:=fun st:List Int=>lg (s:=s) (p:=p) p0 (ts.map fun t=>t.worth ns (cs++st) p)
   have sr:=pX (p:=p) p0 (fun st:List Int=>hor s p (ts.map fun t=>t.worth ns (cs++st) p)) hor_r (gz (ns.length-cs.length));have bound:p*((gz (ns.length-cs.length)).length:Int)<=p*64:=qZ0 (by omega) (by omega);refine⟨D,_,rfl,zG0 hD2,fun n hn=>?_,by omega,?_⟩
   . obtain⟨st,_,rfl⟩:=List.mem_map.mp hn;exact(hor_r st).1
   refine ⟨_,_,zD0 (S2 _ _ (S1 _ _ G.hg)),rfl,p0,?_⟩;have e:(((gz (ns.length-cs.length)).map fun st=>hor s p (ts.map fun t=>t.worth ns (cs++st) p)).sum) % p=jq ns ts s p cs:=by
    rw[ly];unfold jq;rw[←pY p (fun st=>lL s (ts.map fun t=>t.worth ns (cs++st) p))]
    congr 3
    funext st
    exact oC s p _
   show Q (.int (_ % p)) _;rw[e];exact q _ (S1.trans S2)
theorem qK{ns:List Str}{t:Tr}{p:Int}(hp:1<p)(ok:t.ok ns):∀l:List (List Int),(∀st∈l,st.length=ns.length/\∀x∈st,x=0∨x=1)->(l.map fun st=>hor 0 p [t.worth ns st p]).sum=((l.filter fun st=>t.holds ns st).length:Int)
 | [],_=>rfl
 | st::l,h=>by
   obtain⟨h1,h2⟩:=h st qP0;have w:=gX hp h2 h1 t ok;rw[qG0,List.sum_cons,qK hp ok l (fun u hu=>h u (qQ0 _ hu)),w];cases c:t.holds ns st with
   | true=>
     rw[zI0 rfl,vM p 1 (by decide) hp,List.filter_cons,zI0 c,qF0];omega
   | false=>
     rw[zF0 (by decide),vM p 0 (by decide) (by omega),List.filter_cons,zF0 (by rw[c];decide)];omega
def yq:Sp:=fun vs H Q _=>∃(gh a b:Addr)(ns:List Str)(tv:List V)(ts:List Tr)(p:Int)(k:Nat)(t:Tr),vs=[.ref gh,.int (k:Int)]/\GmT H gh a b ns tv ts p/\ns.Nodup/\ns.length<=6/\ts[k]?=some t/\t.ok ns/\t.depth<=10/\∀H',Same H H'->Q (.int (cnt t ns:Int)) H'
theorem v7:FnScope ["_law_game_here","_law_k","_law_one"] ["_law_game_here","_law_k"] (ae gG):=⟨rfl,rfl,rfl,by decide +kernel,rfl,by decide +kernel,by decide +kernel⟩
theorem uj {f:Addr} {fd:FuncData} (F:Fun K "_law_count" "_law_count" gG f fd) (B:Bl mg) (im:Cal P w K mg base 1 "_law_all" ["_law_many"] tO) (fK:Cal P w K mg base 13 "_law_mixed" ["_law_game_here","_law_s","_law_point"] tN):FnOk P w K mg base CX0 14 f fd ["_law_game_here","_law_k"] yq:=by
 refine F.ok v7 (fun vs H Q E h=>?_) (fun cdv A outer s H vs Q E hr h=>?_)
 . obtain⟨gh,a,b,ns,tv,ts,p,k,t,rfl,_⟩:=h;rfl
 obtain ⟨gh,a,b,ns,tv,ts,p,k,t,rfl,G,nd,n6,ht,tk,td,q⟩:=h;refine⟨_,(ac (ak (i:=2) v7.nd rfl (Or.inr rfl) (bd (af (av aB (pv 0) aa (fun _ _=>rfl)) (af (bd (af (av aB (av aB (pv 0) aa (fun _ _=>rfl)) (pv 1) (fun _ _=>rfl)) aJ)) (af aa aJ)))))
  (ad (ao (aD (oO rfl) rfl B.sum PyProof.Rows.boot_sum (af (bX (N:=["_law_one"]) (ix:=[2]) rfl
   (CompScope.one (by with_unfolding_all rfl) (by decide) rfl (by decide) rfl (by decide +kernel) (by with_unfolding_all rfl) (by with_unfolding_all rfl) (by with_unfolding_all rfl) rfl rfl) rfl
   (bV (ai im hr (by decide) rfl (af (aD az rfl B.len PySem.boot_len (af (av aB (pv 0) aa (fun _ _=>rfl)) aJ)) aJ))) (fun _ _ _=>bQ (ai fK hr (by decide) rfl (af (pv 1) (af aa (af (pv 0) aJ)))))) aJ))))),?_⟩
 have vl:=G.tr.length;have hk:k<ts.length:=(zT0 ht).1;have hv:tv[k]?=some (tv[k]'(by omega)):=zU0 _;generalize tv[k]'(by omega)=v at hv;obtain⟨u,hu,Tu⟩:=G.tr.get hv;rw[ht]at hu;cases hu;refine⟨_,_,zD0 G.hg,rfl,_,_,zD0 G.hg,rfl,_,v,zD0 G.hb,cq hv,(by show 1<=sizeLine;decide),fun b2 hb2=>⟨(by show 3<=sizeLine;decide),fun o ho=>?_⟩⟩;have I1:=zE0 hb2 (.tup [v]);have I2:=zE0 ho (.tup [.ref a,.ref b2,.int 999983]);have J2:=I1.trans I2;have G2:GmT (upd (upd H b2 (.tup [v])) o (.tup [.ref a,.ref b2,.int 999983])) o a b2 ns [v] [t] 999983:=⟨aE,J2 _ _ G.ha,I2 _ _ aE,.cons (Tu.mono (aX J2)) .nil⟩
 generalize upd (upd H b2 (.tup [v])) o (.tup [.ref a,.ref b2,.int 999983])=H2 at J2 G2;refine⟨_,_,zD0 (J2 _ _ G.hg),rfl,a,_,rfl,.inr (zD0 (J2 _ _ G.ha)),_,rfl,?_⟩;rw[zH0];refine⟨by omega,by omega,fun l H3 l0 S3 R3=>?_⟩;rw[qT0]at R3;obtain⟨rs,hrs,T⟩:=R3;have rl:=T.length;have al:=lA ns.length;have s64:=CV (i:=ns.length) n6;refine⟨l,rfl,⟨_,zG0 hrs⟩,fun D hD=>?_⟩;refine cL (K:=K) (xs:=rs) (fun j H'=>H' D=some (.lst ((((gz ns.length).take j).map fun st=>hor 0 999983 [t.worth ns st 999983]).map V.int))/\Same H3 H') ⟨by rw[aE];rfl,zE0 hD _⟩ (fun j H' _ h=>zG0 (h.2 _ _ hrs)) ?_ ?_
 . rintro j x H4 hx ⟨hD4,S4⟩;have hj:=(zT0 hx).1;obtain⟨st,hst,r,rfl,hr0⟩:=(T.mono (aX S4)).get hx;obtain⟨stl,s01⟩:=jC _ st (qJ0 hst);have po:dy st 999983:=fun x hx=>by rcases s01 x hx with e | e <;> rw[e] <;> decide
   refine⟨o,a,b2,r,ns,[v],[t],st,0,999983,rfl,G2.mono (aX (S3.trans S4)),nd,by omega,(fun u hu=>by rw[zP0 hu];exact⟨tk,td⟩),.inr hr0,stl,po,by decide,by decide,fun H5 S5=>?_⟩;refine⟨_,S5 _ _ hD4,?_,Nx.of hj ⟨?_,fun b' o' e'=>?_⟩⟩
   . rw[zH0,zH0,qL0];exact aG (by omega)
   . rw[aE,qK0,hst,zM0,zM0];rfl
   . rw[am (aO e' hD)];exact S5 _ _ (S4 _ _ e')
 . rintro H4 ⟨hD4,S4⟩;rw[rl,qO0]at hD4;have cs:=qK (p:=999983) (by decide) tk (gz ns.length) (jC ns.length);have e1:(((gz ns.length).filter fun st=>t.holds ns st).length:Int)=(cnt t ns:Int):=by
    rw[←cs,ly];exact qK (by decide) tk (bE ns.length) (fun st hst=>⟨dD _ _ hst,kH _ _ hst⟩)
   have fl:=List.length_filter_le (fun st=>t.holds ns st) (gz ns.length);refine⟨D,_,rfl,zG0 hD4,fun n hn=>?_,by rw[cs];omega,?_⟩
   . obtain⟨st,_,rfl⟩:=List.mem_map.mp hn;exact(lg (by decide) _).1
   . rw[cs,e1];exact q _ (J2.trans (S3.trans S4))
end
theorem nd_at{ns:List Str}(nd:ns.Nodup){i j:Nat}{z:Str}(hi:ns[i]?=some z)(hj:ns[j]?=some z):i=j:=by
 obtain⟨h1,e1⟩:=zT0 hi;obtain⟨h2,e2⟩:=zT0 hj;rcases Nat.lt_trichotomy i j with h | h | h
 . exact absurd (e1.trans e2.symm) (List.pairwise_iff_getElem.mp nd i j h1 h2 h)
 . exact h
 . exact absurd (e2.trans e1.symm) (List.pairwise_iff_getElem.mp nd j i h2 h1 h)
theorem yA{pt:List Int}{j i:Nat}{x:Int}(hj:j<pt.length):(pt.set j x).getD i 0=if i=j then x else pt.getD i 0:=by
 rw[qX0,qX0,List.getElem?_set]
 by_cases c:j=i
 . subst c
   simp [hj]
 . rw[zF0 c,zF0 (Ne.symm c)]
theorem iL{ns:List Str}{pt:List Int}{p:Int}{j:Nat}{y:Str}(hy:ns[j]?=some y)(hl:pt.length=ns.length)(nd:ns.Nodup):∀t:Tr,t.ok ns->∃f:Int->Int,IsPoly (t.names.count y+1) f/\∀x:Int,p ∣ t.worth ns (pt.set j x) p-f x
 | .is z,ok=>by
   have jl:j<ns.length:=(zT0 hy).1;obtain⟨i,hi,il⟩:=fE ok;have hz:=(og hi).1;have e:∀x,(Tr.is z).worth ns (pt.set j x) p=if i=j then x else pt.getD i 0:=fun x=>by
    show(match cK z ns with | some j'=>(pt.set j x).getD j' 0 | none=>0)=_;rw[hi];exact yA (by omega)
   by_cases c:i=j
   . subst c;have ez:z=y:=zS0 (hz.symm.trans hy);subst ez;refine⟨fun x=>x,?_,fun x=>⟨0,by rw[e x,zI0 rfl];simp⟩⟩
     have:(Tr.is z).names.count z=1:=by simp [Tr.names]
     rw[this];exact IsPoly.self
   . have ez:z≠y:=fun h=>c (by
      subst h;exact nd_at nd hz hy)
     refine⟨fun _=>pt.getD i 0,?_,fun x=>⟨0,by rw[e x,zF0 c];simp⟩⟩;exact IsPoly.const _ _
 | .yes,_=>⟨fun _=>1,IsPoly.const _ _,fun x=>⟨0,by show(1:Int)-1=_;simp⟩⟩
 | .no,_=>⟨fun _=>0,IsPoly.const _ _,fun x=>⟨0,by show(0:Int)-0=_;simp⟩⟩
 | .not a,ok=>by
   obtain⟨f,hf,h⟩:=iL (p:=p) hy hl nd a ok;refine⟨fun x=>1+(-1)*f x,(IsPoly.const 1 _).add (hf.mul (-1)),fun x=>?_⟩;obtain⟨k,hk⟩:=h x;obtain⟨m,hm⟩:=oI p (1-a.worth ns (pt.set j x) p);show p ∣ (1-a.worth ns (pt.set j x) p) % p-_;exact⟨m-k,by grind⟩
 | .bin o a b,⟨_,ok1,ok2⟩=>by
   obtain ⟨f,hf,h⟩:=iL (p:=p) hy hl nd a ok1;obtain⟨g,hg,h'⟩:=iL (p:=p) hy hl nd b ok2;have ec:(Tr.bin o a b).names.count y+1=a.names.count y+b.names.count y+1:=by
    show(a.names++b.names).count y+1=_;rw[List.count_append]
   rw [ec];have hF:IsPoly (a.names.count y+b.names.count y+1) f:=hf.upTo _ (by omega);have hG:IsPoly (a.names.count y+b.names.count y+1) g:=hg.upTo _ (by omega);have hP:=hf.prod hg;have fin:∀(c0 c1 c2:Int),(∀u v:Int,cW p o u v=(c0+c1*(u+v)+c2*(u*v)) % p)->∃F:Int->Int,IsPoly (a.names.count y+b.names.count y+1) F/\∀x:Int,p ∣ (Tr.bin o a b).worth ns (pt.set j x) p-F x:=fun c0 c1 c2 hJ=>by
    refine⟨fun x=>c0+c1*(f x+g x)+c2*(f x*g x),((IsPoly.const c0 _).add ((hF.add hG).mul c1)).add (hP.mul c2),fun x=>?_⟩;obtain⟨k,hk⟩:=h x;obtain⟨l,hl⟩:=h' x;show p ∣ cW p o (a.worth ns (pt.set j x) p) (b.worth ns (pt.set j x) p)-_;rw[hJ];generalize a.worth ns (pt.set j x) p=u at *
    generalize b.worth ns (pt.set j x) p=v at *
    obtain⟨m,hm⟩:=oI p (c0+c1*(u+v)+c2*(u*v));exact⟨m+c1*(k+l)+c2*(k*v+f x*l),by grind⟩
   by_cases c1:o="and"
   . exact fin 0 0 1 fun u v=>by unfold cW;rw[zI0 c1];congr 1;grind
   by_cases c2:o="or"
   . exact fin 0 1 (-1) fun u v=>by unfold cW;rw[zF0 c1,zI0 c2];congr 1;grind
   by_cases c3:o="odd"
   . exact fin 0 1 (-2) fun u v=>by unfold cW;rw[zF0 c1,zF0 c2,zI0 c3];congr 1;grind
   . exact fin 1 (-1) 2 fun u v=>by unfold cW;rw[zF0 c1,zF0 c2,zF0 c3];congr 1;grind
theorem sf{ns:List Str}{pt:List Int}{p s:Int}{j D:Nat}{y:Str}(hy:ns[j]?=some y)(hl:pt.length=ns.length)(nd:ns.Nodup):∀ts:List Tr,(∀t∈ts,t.ok ns/\t.names.count y<=D)->∃f:Int->Int,IsPoly (D+1) f/\∀x:Int,p ∣ lL s (ts.map fun t=>t.worth ns (pt.set j x) p)-f x
 | [],_=>⟨fun _=>0,IsPoly.const _ _,fun x=>⟨0,by simp [lL]⟩⟩
 | t::ts,h=>by
   obtain⟨f,hf,h1⟩:=iL (p:=p) hy hl nd t (h t qP0).1;obtain⟨g,hg,h2⟩:=sf (p:=p) (s:=s) hy hl nd ts fun u hu=>h u (qQ0 _ hu)
   have hd:=(h t qP0).2;refine⟨fun x=>f x+s*g x,(hf.upTo _ (by omega)).add (hg.mul s),fun x=>?_⟩;obtain⟨k,hk⟩:=h1 x;obtain⟨l,hl⟩:=h2 x;show p ∣ t.worth ns (pt.set j x) p+s*lL s (ts.map fun t=>t.worth ns (pt.set j x) p)-_;exact⟨k+s*l,by grind⟩
theorem xL{p:Int}(hp:Pm p){xs:List Int}{f:Int->Int}(hn:(xs.length:Int)<=p)(hf:IsPoly xs.length f)(h:∀k,k<xs.length->p ∣ xs.getD k 0-f k)(r:Int):val p xs r=f r % p:=
 md (so hp hn (sZ hp hn) hf h r)
theorem DD{ts:List Tr}{x:Str}:∀t∈ts,t.names.count x<=(aZ ts x).toNat:=fun t ht=>by
 have:=Br (d:=0) (List.mem_map.mpr ⟨t,ht,rfl⟩:((t.names.count x:Nat):Int)∈ts.map fun t=>(t.names.count x:Int))
 unfold aZ;omega
theorem vz:∀(cs st:List Int)(x z:Int),(cs++[z]++st).set cs.length x=cs++[x]++st
 | [],_,_,_=>rfl
 | a::cs,st,x,z=>congrArg (a::·) (vz cs st x z)
theorem qX{ns:List Str}{cs:List Int}{p s:Int}{D:Nat}{y:Str}{ts:List Tr}(hy:ns[cs.length]?=some y)(nd:ns.Nodup)(h:∀t∈ts,t.ok ns/\t.names.count y<=D):∀l:List (List Int),(∀st∈l,cs.length+1+st.length=ns.length) ->
 ∃f:Int->Int,IsPoly (D+1) f/\∀x:Int,p ∣ (l.map fun st=>lL s (ts.map fun t=>t.worth ns (cs++[x]++st) p)).sum-f x
 | [],_=>⟨fun _=>0,IsPoly.const _ _,fun x=>⟨0,by simp⟩⟩
 | st::l,hs=>by
   obtain⟨f,hf,h1⟩:=sf (p:=p) (s:=s) (pt:=cs++[0]++st) hy (by rw[zO0,zO0,qU0];exact hs st qP0) nd ts h;obtain⟨g,hg,h2⟩:=qX (p:=p) (s:=s) hy nd h l fun u hu=>hs u (qQ0 _ hu)
   refine⟨fun x=>f x+g x,hf.add hg,fun x=>?_⟩;obtain⟨k,hk⟩:=h1 x;rw[vz]at hk;obtain⟨m,hm⟩:=h2 x;refine⟨k+m,?_⟩;simp only[qG0,List.sum_cons];rw[Int.mul_add];omega
theorem pA:∀(n:Nat)(s:List Int),s∈bE n->s.length=n
 | 0,s,h=>by rw[zP0 h];rfl
 | n+1,s,h=>by
   obtain⟨t,ht,h⟩:=List.mem_flatMap.mp h
   have:=pA n t ht
   rcases zZ0 h with h | h
   . rw[h,zO0,this];rfl
   . rw[zP0 h,zO0,this];rfl
theorem Av{ns:List Str}{ts:List Tr}{s p:Int}{cs:List Int}{y:Str}(hp:Pm p)(hy:ns[cs.length]?=some y)(nd:ns.Nodup)(ok:∀t∈ts,t.ok ns)(tne:ts≠[])(dp:aZ ts y<p)(r:Int) :
 val p (jb ns ts s p cs (aZ ts y+1).toNat) r=jq ns ts s p (cs++[r]):=by
 have cl:cs.length<ns.length:=(zT0 hy).1;have d0:=sK (x:=y) tne;obtain⟨f,hf,h⟩:=qX (p:=p) (s:=s) hy nd (fun t ht=>⟨ok t ht,DD t ht⟩) (bE (ns.length-(cs.length+1))) fun st hst=>by
  have:=pA _ _ hst
  omega
 have ll:(jb ns ts s p cs (aZ ts y+1).toNat).length=(aZ ts y).toNat+1:=by
  unfold jb;rw[zH0,qW0];omega
 have eq:∀x:Int,jq ns ts s p (cs++[x])=((bE (ns.length-(cs.length+1))).map fun st=>lL s (ts.map fun t=>t.worth ns (cs++[x]++st) p)).sum % p:=fun x=>by
  unfold jq;rw[zO0,qU0]
 rw [xL hp (f:=f) (by rw[ll];omega) (by rw[ll];exact hf) (fun k hk=>by
  have e:(jb ns ts s p cs (aZ ts y+1).toNat).getD k 0=jq ns ts s p (cs++[(k:Int)]):=by
   unfold jb at hk ⊢;rw[zH0,qW0]at hk;rw[qX0,zV0,List.getElem?_range hk];rfl
  rw[e,eq];obtain⟨a,ha⟩:=h k;obtain⟨b,hb⟩:=oI p ((bE (ns.length-(cs.length+1))).map fun st=>lL s (ts.map fun t=>t.worth ns (cs++[(k:Int)]++st) p)).sum;exact⟨a+b,by grind⟩) r,eq]
 obtain⟨a,ha⟩:=h r;exact md ⟨-a,by grind⟩
section
theorem xN{z:Ak}(k:AkOk z)(nd:z.ns.Nodup)(i:Int)(h:0<z.nr):cP z i=jq z.ns z.ts z.s z.p (z.to++[i]):=by
 obtain ⟨x,hx,ex,d0,d1,d4⟩:=k.deg h;unfold cP;rw[zI0 h];have e:z.tru=jb z.ns z.ts z.s z.p z.to (aZ z.ts x+1).toNat:=by
  unfold Ak.tru;rw[zF0 (by omega),ex]
 have t0:z.ts≠[]:=fun e=>by have:=k.gk.t1;rw[e]at this;cases this
 rw[e];exact Av (rJ k.gk.pr (by have:=k.gk.p9;omega)) hx nd (fun t ht=>(k.gk.tok t ht).1) t0 d1 i
theorem xP{z:Ak}(h:z.nr=0)(i:Nat){t:Tr}(ht:z.ts[i]?=some t):cP z (i:Int)=(cnt t z.ns:Int) % z.p:=by
 have hl:=(zT0 ht).1;unfold cP;have e:z.tru=z.ts.map (fun t=>(cnt t z.ns:Int)):=by
  unfold Ak.tru;rw[zI0 h]
 rw[zF0 (by omega),e,zH0,zI0 (by omega),qT0,qX0,zV0,ht];rfl
theorem xO{z:Ak}(h:z.nr=0){i:Int}(hi:(z.ts.length:Int)<=i):cP z i=0:=by
 unfold cP;have e:z.tru=z.ts.map (fun t=>(cnt t z.ns:Int)):=by
  unfold Ak.tru;rw[zI0 h]
 rw[zF0 (by omega),e,zH0,zF0 (by omega)]
end
end
section
variable {P:Program} {w:World} {K:W.Frag} {mg:Str->Option Value} {base:Heap}
section
theorem ql(x p:Int):∀n:Nat,(x % p) ^ n % p=x ^ n % p
 | 0=>by rw[Int.pow_zero,Int.pow_zero]
 | n+1=>by rw[Int.pow_succ,Int.pow_succ,Int.mul_emod,ql x p n,Int.emod_emod,←Int.mul_emod]
theorem Bu{p a:Int}(hp:Pm p)(p1:1<p)(a0:0<a)(a1:a<p):zT p a=a ^ (p-2).toNat % p:=by
 have na:¬ p ∣ a:=fun⟨k,hk⟩=>by
  have:k=0∨1<=k∨k<=-1:=by omega
  rcases this with h | h | h
  . rw[h,Int.mul_zero]at hk;omega
  . have:=qZ0 h (show 0<=p by omega)
    omega
  . have:=qZ0 h (show 0<=p by omega)
    omega
 have f:=Aa hp na (by omega);have e:(a ^ (p-2).toNat % p)*a % p=1:=by
  rw[Int.mul_emod,Int.emod_emod,←Int.mul_emod,Int.mul_comm];obtain⟨k,hk⟩:=f
  have:a*a ^ (p-2).toNat=1+p*k:=by omega
  rw[this,Int.add_mul_emod_self_left];exact qV0 (by decide) p1
 have r0:=zX0 (a ^ (p-2).toNat) (show p≠0 by omega);have r1:=zY0 (a ^ (p-2).toNat) (show 0<p by omega);refine vJ ?_ r1 e
 have:a ^ (p-2).toNat % p≠0:=fun z=>by
  rw[z,Int.zero_mul,Int.zero_emod]at e;omega
 omega
theorem vD(x:Int)(m:Nat):x ^ (2*m)=(x*x) ^ m:=by
 induction m with
 | zero=>rw[Nat.mul_zero,Int.pow_zero,Int.pow_zero]
 | succ m ih=>rw[show 2*(m+1)=2*m+1+1 by omega,Int.pow_succ,Int.pow_succ,ih,Int.pow_succ,Int.mul_assoc]
theorem AW{p f x:Int}{n:Nat}(h:n % 2=1):(f*x % p*(x*x % p) ^ (n / 2)) % p=(f*x ^ n) % p:=by
 have e:n=2*(n / 2)+1:=by omega
 rw[Int.mul_emod,Int.emod_emod,ql,←Int.mul_emod]
 congr 1
 conv=>rhs;rw[e,Int.pow_succ,vD]
 rw[Int.mul_assoc,Int.mul_comm x]
theorem yK{p f x:Int}{n:Nat}(h:n % 2=0):(f*(x*x % p) ^ (n / 2)) % p=(f*x ^ n) % p:=by
 have e:n=2*(n / 2):=by omega
 rw[Int.mul_emod,ql,←Int.mul_emod]
 congr 1
 conv=>rhs;rw[e,vD]
def qb:Sp:=fun vs H Q _=>∃(a p:Int),vs=[.int a,.int p]/\Pm p/\2<p/\p<=999983/\0<a/\a<p/\Q (.int (zT p a)) H
theorem cS:FnScope ["_law_a","_law_p","_law_found","_law_power","_law_left"] ["_law_a","_law_p"] (ae dN):=⟨rfl,rfl,rfl,by decide +kernel,rfl,by decide +kernel,by decide +kernel⟩
theorem qx {f:Addr} {fd:FuncData} (F:Fun K "_law_inverse" "_law_inverse" dN f fd):FnOk P w K mg base CX0 1 f fd ["_law_a","_law_p"] qb:=by
 refine F.ok cS (fun vs H Q E h=>?_) (fun cdv A outer s H vs Q E hr h=>?_)
 . obtain⟨a,p,rfl,_⟩:=h;rfl
 obtain ⟨a,p,rfl,pm,p2,p9,a0,a1,q⟩:=h;refine⟨_,(ac (ak (i:=2) cS.nd rfl (Or.inl rfl) aa)
  (ac (ak (i:=3) cS.nd rfl (Or.inl rfl) (pv 0))
  (ac (ak (i:=4) cS.nd rfl (Or.inl rfl) (ag aQ (pv 1) aa))
  (ac (ju PassesOwn.never (ah eE (pv 4) aa (aj _)) (ac (aH (ah aM (ag aN (pv 4) aa) aa (aj _)) (ad (ak (i:=2) cS.nd rfl (Or.inl rfl) (ag aN (ag aW (pv 2) (pv 3)) (pv 1)))) ax)
   (ac (ak (i:=3) cS.nd rfl (Or.inl rfl) (ag aN (ag aW (pv 3) (pv 3)) (pv 1)))
   (ad (ak (i:=4) cS.nd rfl (Or.inl rfl) (ag qu (pv 4) aa))))))
  (ad (ao (pv 2))))))),?_⟩
 refine ?_;refine⟨fun m σ H'=>∃(fo po:Int)(le:Nat),σ=[some (.int a),some (.int p),some (.int fo),some (.int po),some (.int (le:Int))]/\H'=H/\0<=fo/\fo<p/\0<=po/\po<p/\(fo*po ^ le) % p=a ^ (p-2).toNat % p/\le<=1000000/\m=le,
  ⟨_,1,a,(p-2).toNat,by rw[show(((p-2).toNat:Nat):Int)=p-2 by omega];rfl,rfl,by decide,by omega,by omega,a1,by rw[Int.one_mul],by omega,rfl⟩,?_⟩
 rintro m σ H' ⟨fo,po,le,rfl,rfl,f0,f1,o0,o1,e,l6,rfl⟩;have md:∀x:Int,0<=x % p/\x % p<p:=fun x=>⟨zX0 _ (by omega),zY0 _ (by omega)⟩
 refine ?_
 by_cases c:0<(m:Int)
 . refine bn c ?_;refine⟨_,fun _ _ h=>h,?_⟩;have p0:0<p:=by omega
   refine⟨(by show(0:Int)<2;decide),rfl,?_⟩;have dv:(m:Int) / 2=((m / 2:Nat):Int):=by omega
   by_cases c2:m % 2=1
   . refine bn (congrArg V.int (by omega)) ?_;refine⟨.inl ⟨by omega,by omega⟩,p0,?_⟩;refine⟨.inl ⟨by omega,by omega⟩,p0,?_⟩;refine⟨⟨by decide,by omega⟩,?_⟩;refine⟨m / 2,by omega,fo*po % p,po*po % p,m / 2,?_,rfl,(md _).1,(md _).2,(md _).1,(md _).2,(AW c2).trans e,by omega,rfl⟩;rw[←dv];rfl
   . refine aI (fun z=>c2 (by have:=V.int.inj z;omega)) ?_;refine⟨.inl ⟨by omega,by omega⟩,p0,?_⟩;refine⟨⟨by decide,by omega⟩,?_⟩;refine⟨m / 2,by omega,fo,po*po % p,m / 2,?_,rfl,f0,f1,(md _).1,(md _).2,(yK (by omega)).trans e,by omega,rfl⟩;rw[←dv];rfl
 . refine aI c ?_;have m0:m=0:=by omega
   subst m0;rw[Int.pow_zero,Int.mul_one,qV0 f0 f1]at e;refine ?_;rw[e,←Bu pm (by omega) a0 a1];exact q
def gq(z:Ak):List Int:=(if 0<z.nr/\1<z.ts.length then [z.s]else [])++z.to
def iE (gh c tt kn:Addr) (z:Ak):List (Key×V):=[(Sum.inr "game",.ref gh),(Sum.inr "round",.int z.nr),(Sum.inr "asked",.int z.mn),(Sum.inr "due",.int z.hd),(Sum.inr "s",.int z.s),(Sum.inr "coins",.ref c),(Sum.inr "tossed",.ref tt),(Sum.inr "known",.ref kn)]
section
variable {gh c tt kn:Addr} {z:Ak}
theorem nw_g:bN (iE gh c tt kn z) (Sum.inr "game")=some (.ref gh):=by with_unfolding_all rfl
theorem nw_r:bN (iE gh c tt kn z) (Sum.inr "round")=some (.int z.nr):=by with_unfolding_all rfl
theorem Bm:bN (iE gh c tt kn z) (Sum.inr "asked")=some (.int z.mn):=by with_unfolding_all rfl
theorem nw_d:bN (iE gh c tt kn z) (Sum.inr "due")=some (.int z.hd):=by with_unfolding_all rfl
theorem nw_s:bN (iE gh c tt kn z) (Sum.inr "s")=some (.int z.s):=by with_unfolding_all rfl
theorem Dc:bN (iE gh c tt kn z) (Sum.inr "coins")=some (.ref c):=by with_unfolding_all rfl
theorem nw_t:bN (iE gh c tt kn z) (Sum.inr "tossed")=some (.ref tt):=by with_unfolding_all rfl
theorem Bk:bN (iE gh c tt kn z) (Sum.inr "known")=some (.ref kn):=by with_unfolding_all rfl
end
def KnAt(H:Hp)(kn:Addr)(z:Ak)(m:Nat):Prop:=∃kvs:List (Key×V),H kn=some (.dK kvs)/\kvs.length<=m/\∀(i:Int)(v:V),bN kvs (Sum.inl i)=some v->v=.int (cP z i)
structure NowAt(H:Hp)(d gh a b c tt kn:Addr)(tv:List V)(z:Ak)(m:Nat):Prop where
 hd:H d=some (.dK (iE gh c tt kn z))
 gt:GmT H gh a b z.ns tv z.ts z.p
 hc:H c=some (.lst (z.to.map V.int))
 ht:H tt=some (.lst ((gq z).map V.int))
 hk:KnAt H kn z m
 dk:d≠kn
theorem NowAt.but{H H':Hp}{d gh a b c tt kn:Addr}{tv:List V}{z:Ak}{m m':Nat}(h:NowAt H d gh a b c tt kn tv z m)(s:SameBut kn H H')(k:KnAt H' kn z m'):NowAt H' d gh a b c tt kn tv z m':=by
 obtain⟨kvs,ek,_⟩:=h.hk;have kT:bu H H':=fun x xs e=>s _ _ (be e ek (by intro z;cases z)) e
 exact⟨s _ _ h.dk h.hd,h.gt.mono kT,s _ _ (be h.hc ek (by intro z;cases z)) h.hc,s _ _ (be h.ht ek (by intro z;cases z)) h.ht,k,h.dk⟩
theorem KnAt.le{H:Hp}{kn:Addr}{z:Ak}{m m':Nat}(h:KnAt H kn z m)(k:m<=m'):KnAt H kn z m':=by
 obtain⟨kvs,e,l,r⟩:=h;exact⟨kvs,e,qB0 l k,r⟩
def pZ:Sp:=fun vs H Q _=>∃(d gh a b c tt kn:Addr)(tv:List V)(z:Ak)(m:Nat)(i:Int),vs=[.ref d,.int i]/\NowAt H d gh a b c tt kn tv z m/\z.ns.Nodup/\AkOk z/\0<=i/\i<z.p/\m<=1000000/\∀H',NowAt H' d gh a b c tt kn tv z (m+1)->SameBut kn H H'->Q (.int (cP z i)) H'
theorem C8:FnScope ["_law_now_here","_law_at","_law_game_here"] ["_law_now_here","_law_at"] (ae io):=⟨rfl,rfl,rfl,by decide +kernel,rfl,by decide +kernel,by decide +kernel⟩
theorem wF {f:Addr} {fd:FuncData} (F:Fun K "_law_true" "_law_true" io f fd) (B:Bl mg) (oQ:Cal P w K mg base 14 "_law_count" ["_law_game_here","_law_k"] yq) (C3:Cal P w K mg base 14 "_law_sum" ["_law_game_here","_law_s","_law_ahead"] yc):FnOk P w K mg base CX0 15 f fd ["_law_now_here","_law_at"] pZ:=by
 refine F.ok C8 (fun vs H Q E h=>?_) (fun cdv A outer s H vs Q E hr h=>?_)
 . obtain⟨d,gh,a,b,c,tt,kn,tv,z,m,i,rfl,_⟩:=h;rfl
 obtain ⟨d,gh,a,b,c,tt,kn,tv,z,m,i,rfl,N,nd,k,i0,i1,m6,q⟩:=h;have hu:=ld hr;refine⟨_,(ac (ak (i:=2) C8.nd rfl (Or.inl rfl) (bz hu (pv 0) aq (fun _ _=>rfl)))
  (ac (aH (ah aM (bz hu (pv 0) aq (fun _ _=>rfl)) aa (aj _)) (ad (ao (kU (ah cU (pv 1) (aD az rfl B.len PySem.boot_len (af (av aB (pv 2) aa (fun _ _=>rfl)) aJ)) (aj _)) (ag aN (ai oQ hr (by decide) rfl (af (pv 2) (af (pv 1) aJ))) (av aB (pv 2) aa (fun _ _=>rfl))) aa))) ax)
  (ac (aH (CL (wE hu (pv 1) (bz hu (pv 0) aq (fun _ _=>rfl))) rfl) (ad (kO hu (bz hu (pv 0) aq (fun _ _=>rfl)) (pv 1) (ai C3 hr (by decide) rfl (af (pv 2) (af (bz hu (pv 0) aq (fun _ _=>rfl)) (af (ag fF (bz hu (pv 0) aq (fun _ _=>rfl)) (bU (af (pv 1) aJ))) aJ)))) rfl)) ax)
  (ad (ao (bz hu (bz hu (pv 0) aq (fun _ _=>rfl)) (pv 1) (fun _ _=>rfl))))))),?_⟩
 have G:=N.gt;have vl:=G.tr.length;have p2:=k.p0;have p9:=k.gk.p9;have n6:=k.n6;have gg:∀{H':Hp}{x:Str}{v:V},H' d=some (.dK (iE gh c tt kn z))->bN (iE gh c tt kn z) (Sum.inr x)=some v->DGet H' d (.str x) (some v):=fun h e=>by rw[←e];exact DGet.k (k:=Sum.inr _) h
 refine⟨d,_,rfl,gg N.hd nw_g,?_⟩;refine⟨d,_,rfl,gg N.hd nw_r,rfl,?_⟩
 by_cases c0:z.nr=0
 . refine bn (congrArg V.int c0) ?_;refine⟨_,_,zD0 G.hg,rfl,b,_,rfl,.inr (zD0 G.hb),?_⟩
   by_cases c1:i<(z.ts.length:Int)
   . refine bn (by rw[vl];exact c1) ?_;obtain⟨j,rfl⟩:∃j:Nat,i=(j:Int):=⟨i.toNat,by omega⟩
     have hj:j<z.ts.length:=by omega
     have ht:=zU0 hj;have tk:=k.gk.tok _ (qY0 hj);rw[xP c0 j ht]at q;refine⟨gh,a,b,z.ns,tv,z.ts,z.p,j,_,rfl,G,nd,n6,ht,tk.1,tk.2.2.1,fun H1 S1=>?_⟩;have kn1:KnAt H1 kn z (m+1):=by
      obtain⟨kvs,ek,l,r⟩:=N.hk;exact⟨kvs,S1 _ _ ek,by omega,r⟩
     exact⟨_,_,zD0 (S1 _ _ G.hg),rfl,(by show 0<z.p;omega),q _ (N.but (zL0 S1) kn1) (zL0 S1)⟩
   . refine aI (by rw[vl];exact c1) ?_;rw[xO c0 (by omega)]at q;exact q _ (N.but (SameBut.refl _ _) (N.hk.le (by omega))) (SameBut.refl _ _)
 . refine aI (fun e=>c0 (V.int.inj e)) ?_;have nr0:=k.nr0;have hlt:=k.nrt (by omega);have et:=xN k nd i (by omega);obtain⟨kvs,ek,kl,kr⟩:=N.hk;refine⟨d,_,rfl,gg N.hd Bk,kn,_,rfl,DGet.k (k:=Sum.inl i) ek,?_⟩;cases ev:bN kvs (Sum.inl i)with
   | some v=>
     rw[show(!(some v).isSome)=false from rfl];refine bF (gu ?_)
     have:=kr i v ev
     subst this;refine⟨d,_,rfl,gg N.hd Bk,kn,_,rfl,(by rw[←ev];exact DGet.k (k:=Sum.inl i) ek),?_⟩;exact q _ (N.but (SameBut.refl _ _) (N.hk.le (by omega))) (SameBut.refl _ _)
   | none=>
     rw[show(!(none:Option V).isSome)=true from rfl];refine bT (jY ?_);refine⟨d,_,rfl,gg N.hd nw_s,d,_,rfl,gg N.hd Dc,(by show 1<=sizeLine;decide),fun u hu=>?_⟩;have Iu:=zE0 hu (.lst [.int i]);refine⟨c,u,_,_,rfl,rfl,Iu _ _ N.hc,aE,cu (by rw[zH0];show z.to.length+1<=1000;omega),fun l hl=>?_⟩;have Il:=zE0 hl (.lst (z.to.map V.int++[.int i]));have J:=Iu.trans Il;refine⟨gh,a,b,l,z.ns,tv,z.ts,z.to++[i],z.s,z.p,rfl,G.mono (aX J),nd,n6,fun t ht=>⟨(k.gk.tok t ht).1,(k.gk.tok t ht).2.2.1⟩,.inl (by rw[aE,zM0];rfl),by rw[zO0];show z.to.length+1<=_;omega,?_,by omega,by omega,fun H' S'=>?_⟩
     . intro x hx;rcases qD0 hx with h | h
       . exact k.po x h
       . rw[zP0 h];exact⟨i0,i1⟩
     have J':=J.trans S';rw[←et];refine⟨d,_,rfl,gg (J' _ _ N.hd) Bk,kn,_,rfl,DPut.k (k:=Sum.inl i) (J' _ _ ek) (by have:sizeLine=16777216:=rfl;omega),?_⟩;have S2:SameBut kn H (upd H' kn (.dK (fD kvs (Sum.inl i) (.int (cP z i))))):=(zL0 J').trans (SameBut.upd _);have pl:(fD kvs (Sum.inl i) (.int (cP z i))).length<=kvs.length+1:=dW _ _ _;have K2:KnAt (upd H' kn (.dK (fD kvs (Sum.inl i) (.int (cP z i))))) kn z (m+1):=by
      refine⟨_,aE,by omega,fun j v hv=>?_⟩;rw[jg]at hv
      by_cases cj:(Sum.inl j:Key)=Sum.inl i
      . rw[zI0 cj]at hv;cases hv;cases cj;rfl
      . rw[zF0 cj]at hv;exact kr j v hv
     have N2:=N.but S2 K2;refine⟨d,_,rfl,gg N2.hd Bk,kn,_,rfl,?_,q _ N2 S2⟩
     have:=DGet.k (H:=upd H' kn (.dK (fD kvs (Sum.inl i) (.int (cP z i))))) (k:=Sum.inl i) aE
     rw[jg,zI0 rfl]at this;exact this
end
end
section
variable {P:Program} {w:World} {K:W.Frag} {mg:Str->Option Value} {base:Heap}
section
theorem xD{z:Ak}(h0:z.nr=0->z.s=0/\z.to=[])(n0:0<=z.nr){i:Int}(i0:0<=i) :
 atI (([0]++gq z++[0]).map V.int) (if((gq z).length:Int)+1<i then((gq z).length:Int)+1 else i)=some (.int (gU z i)):=by
 have key:∀(T:List Int)(i:Int),0<=i->atI (([0]++T++[0]).map V.int) (if(T.length:Int)+1<i then(T.length:Int)+1 else i)=some (.int (if 1<=i/\i<=(T.length:Int)then T.getD (i-1).toNat 0 else 0)):=by
  intro T i i0;obtain⟨j,hj,jl⟩:∃j:Nat,(if(T.length:Int)+1<i then(T.length:Int)+1 else i)=(j:Int)/\j<=T.length+1:=by
   split
   . exact⟨T.length+1,by omega,zJ0 _⟩
   . exact⟨i.toNat,by omega,by omega⟩
  rw [hj];refine cq ?_;rw[zV0];have e:([0]++T++[0])[j]?=some (if 1<=i/\i<=(T.length:Int)then T.getD (i-1).toNat 0 else 0):=by
   cases j with
   | zero=>
     rw[zF0 (by split at hj <;> omega)];rfl
   | succ j=>
     show(T++[0])[j]?=_
     by_cases c:j<T.length
     . rw [List.getElem?_append_left c,zI0 (by split at hj <;> omega),zU0 c,qX0]
       have:(i-1).toNat=j:=by split at hj <;> omega
       rw[this,zU0 c];rfl
     . have ej:j=T.length:=by omega
       rw[ej,List.getElem?_append_right (zJ0 _),Nat.sub_self,zF0 (by split at hj <;> omega)];rfl
  rw[e];rfl
 rw[key _ i i0]
 congr 2
 by_cases c:z.nr=0
 . obtain ⟨s0,t0⟩:=h0 c;have eT:gq z=[]:=by
    unfold gq;rw[zF0 (fun h=>by omega),t0];rfl
   have eC:∀n,(hV z).getD n 0=0:=fun n=>by
    unfold hV;rw[t0,s0]
    split
    . cases n <;> rfl
    . rfl
   rw[eT,zF0 (by show ¬ (1<=i/\i<=((0:Nat):Int));omega)];unfold gU
   split
   . exact(eC _).symm
   . rfl
 . have eT:gq z=hV z:=by
    unfold gq hV
    by_cases c2:1<z.ts.length
    . rw[zI0 c2,zI0 ⟨by omega,c2⟩];rfl
    . rw[zF0 c2,zF0 (fun h=>c2 h.2)];rfl
   rw[eT];rfl
end
section
structure PSW(X:Cx)(st:List Stmt)(t:TS):Prop where
 out:PSs X st t
end
section
structure PEW(X:Cx)(e:Expr)(t:TE):Prop where
 out:PE X e t
structure PAW(X:Cx)(es:List Expr)(t:TA):Prop where
 out:PA X es t
structure PTW(X:Cx)(s:Stmt)(t:TS):Prop where
 out:PS X s t
section
variable {X:Cx} {e:Expr} {es:List Expr} {te:TE} {t:TA} {pos:Pos}
theorem bt:PAW X [] tH:=⟨aJ⟩
theorem au(ha:PEW X e te)(hr:PAW X es t)(hs:starEach (e::es) X.env=(false,eval e X.env)::starEach es X.env:=by rfl):PAW X (e::es) (kz te t):=⟨af ha.out hr.out hs⟩
theorem bJ{x1}(h:PAW X es t):PEW X (.Tuple es x1 pos) (Cr t):=⟨bd h.out⟩
theorem bc{x j}:PEW X (.Constant (.str x) j pos) (tC (.str x)):=⟨aq⟩
theorem jf{i j}:PEW X (.Constant (.int i) j pos) (tC (.int i)):=⟨aa⟩
theorem iK(h:PEW X e te):PTW X (.Return (some e) pos) (tRet te):=⟨ao h.out⟩
theorem aV{i:Nat}{x:Str}{pos':Pos}(hN:X.N.Nodup)(hi:X.N[i]?=some x)(hx:Loc X.env.scope x)(he:PEW X e te)(hs:swapsWith e (some (.Name x pos')) pos.line X.env=pure false:=by rfl)(hf:X.fn x=true∨X.env.scope.names.lookup x=some .local:=by first | exact .inl rfl | exact .inr rfl | assumption) :
 PTW X (.Assign [.Name x pos'] e pos) (xW te (oG i)):=⟨ak hN hi hx he.out hs hf⟩
theorem cM:PSW X [] BI:=⟨ax⟩
theorem aC{s:Stmt}{ss:List Stmt}{a b:TS}(h:PTW X s a)(k:PSW X ss b):PSW X (s::ss) (mG a b):=⟨ac h.out k.out⟩
theorem dF{s:Stmt}{a:TS}(h:PTW X s a):PSW X [s] a:=⟨ad h.out⟩
theorem ia{ss:List Stmt}{t t':TS}(h:PSW X ss t)(hw:∀D σ H,t' D σ H->t D σ H):PSW X ss t':=⟨kN h.out hw⟩
theorem eV{c:Expr}{a b:List Stmt}{tc:TT}{t u:TS}(hc:PT X c tc)(ha:PSW X a t)(hb:PSW X b u):PTW X (.If c a b pos) (Cv tc t u):=⟨aH hc ha.out hb.out⟩
end
end
section
theorem tj{X:Cx}{es:List Expr}{t:TA}{pos:Pos}(h:PAW X es t):PEW X (.List es pos) (Ct t):=⟨bU h.out⟩
theorem yU{X:Cx}{k1 k2 k3:_}{p1 p2 p3 pd:Pos}{x1 x2 x3:Str}{v1 v2 v3:Expr}{t1 t2 t3:TE}(e1:PE X v1 t1)(e2:PE X v2 t2)(e3:PE X v3 t3) :
 PE X (.Dict [some (.Constant (.str x1) k1 p1),some (.Constant (.str x2) k2 p2),some (.Constant (.str x3) k3 p3)] [v1,v2,v3] pd) (xT [(tC (.str x1),t1),(tC (.str x2),t2),(tC (.str x3),t3)]):=
 qo (cH aq e1 (cH aq e2 (cH aq e3 qk))) rfl rfl (by simp) (by show 3<=15;decide)
theorem oB(o z:Str):(z==o)=decide (o=z):=by
 by_cases c:o=z
 . subst c;simp
 . rw[decide_eq_false c];simpa using fun h=>c h.symm
theorem yZ (o:Str):inV (.str o) [.str "round",.str "due",.str "asked"]=(decide (o="round")||(decide (o="due")||decide (o="asked"))):=by
 show(("round"==o)||(("due"==o)||(("asked"==o)||false)))=_;rw[Bool.or_false,oB,oB,oB]
theorem pC (o:Str):inV (.str o) [.str "=",.str "<"]=(decide (o="=")||decide (o="<")):=by
 show(("="==o)||(("<"==o)||false))=_;rw[Bool.or_false,oB,oB]
theorem wS {gh c tt kn:Addr} {z:Ak} (k:AkOk z) {w:Str} (h:w∈iR):(∃n:Int,bN (iE gh c tt kn z) (Sum.inr w)=some (V.int n)/\n % z.p=jv z w)/\inV (.str w) [.str "round",.str "due",.str "asked"]=true/\w≠"num"/\w≠"box":=by
 have a1:=k.h0;have a2:=k.h1;rw[yZ];unfold jv;simp only[iR,List.mem_cons,List.not_mem_nil,or_false]at h;rcases h with rfl | rfl | rfl
 all_goals refine⟨?_,by decide +kernel,by decide +kernel,by decide +kernel⟩
 . exact⟨_,nw_r,by rw[zI0 rfl]⟩
 . exact⟨_,nw_d,by rw[zF0 (by decide +kernel),zF0 (by decide +kernel)];exact qV0 a1 a2⟩
 . exact⟨_,Bm,by rw[zF0 (by decide +kernel),zI0 rfl]⟩
def dO (a b c:Int):List (Key×V):=[(Sum.inr "+",V.int a),(Sum.inr "-",V.int b),(Sum.inr "*",V.int c)]
theorem oK(a b c:Int):eJ [] (dO a b c)=dO a b c:=by with_unfolding_all rfl
theorem dO_1 (a b c:Int):bN (dO a b c) (Sum.inr "+")=some (V.int a):=by with_unfolding_all rfl
theorem dO_2 (a b c:Int):bN (dO a b c) (Sum.inr "-")=some (V.int b):=by with_unfolding_all rfl
theorem dO_3 (a b c:Int):bN (dO a b c) (Sum.inr "*")=some (V.int c):=by with_unfolding_all rfl
def wo(n:Nat):Sp:=fun vs H Q _=>∃(v:V)(t:Tm)(bb d gh a b c tt kn:Addr)(tv:List V)(z:Ak)(bx:Str->Int)(m mb:Nat),vs=[v,.ref d,.ref bb]/\TmAt H v t/\t.good/\t.depth<=n/\NowAt H d gh a b c tt kn tv z m/\BxAt H bb bx mb/\bb≠kn/\ie z.p bx/\z.ns.Nodup/\AkOk z/\(z.nr=0->z.s=0/\z.to=[])/\m+2 ^ n<=1000000/\∀H',NowAt H' d gh a b c tt kn tv z (m+2 ^ n)->SameBut kn H H'->Q (.int (t.worth z bx)) H'
theorem cb:FnScope ["_law_term_here","_law_now_here","_law_boxes","_law_p","_law_word","_law_a","_law_b"] ["_law_term_here","_law_now_here","_law_boxes"] (ae bO):=⟨rfl,rfl,rfl,by decide +kernel,rfl,by decide +kernel,by decide +kernel⟩
theorem NowAt.kT{H H':Hp}{d gh a b c tt kn:Addr}{tv:List V}{z:Ak}{m:Nat}(h:NowAt H d gh a b c tt kn tv z m)(s:SameBut kn H H'):bu H H':=by
 obtain⟨kvs,ek,_⟩:=h.hk;exact fun x xs e=>s _ _ (be e ek (by intro z;cases z)) e
theorem NowAt.up{H H':Hp}{d gh a b c tt kn:Addr}{tv:List V}{z:Ak}{m m':Nat}(h:NowAt H d gh a b c tt kn tv z m)(s:Same H H')(k:m<=m'):NowAt H' d gh a b c tt kn tv z m':=by
 obtain⟨kvs,ek,l,r⟩:=h.hk;exact h.but (zL0 s) ⟨kvs,s _ _ ek,qB0 l k,r⟩
theorem Ax {n:Nat} {f:Addr} {fd:FuncData} (F:Fun K "_law_term_worth" "_law_term_worth" bO f fd) (B:Bl mg) (eF:Cal P w K mg base 1 "_law_inverse" ["_law_a","_law_p"] qb) (gO:Cal P w K mg base 15 "_law_true" ["_law_now_here","_law_at"] pZ) (b6:Cal P w K mg base (n+16) "_law_term_worth" ["_law_term_here","_law_now_here","_law_boxes"] (wo n)):FnOk P w K mg base CX0 (n+17) f fd ["_law_term_here","_law_now_here","_law_boxes"] (wo (n+1)):=by
 refine F.ok cb (fun vs H Q E h=>?_) (fun cdv A outer s H vs Q E hr h=>?_)
 . obtain⟨v,t,bb,d,gh,a,b,c,tt,kn,tv,z,bx,m,mb,rfl,_⟩:=h;rfl
 obtain ⟨v,t,bb,d,gh,a,b,c,tt,kn,tv,z,bx,m,mb,rfl,T,tg,td,N,BX,bk,bo,nd,k,h0,mm,q⟩:=h;have hu:=ld hr;refine⟨_,PSW.out (aC (aV (i:=3) cb.nd rfl (Or.inl rfl) ⟨av aB (bz hu (pv 1) aq (fun _ _=>rfl)) aa (fun _ _=>rfl)⟩)
  (aC (aV (i:=4) cb.nd rfl (Or.inl rfl) ⟨av aB (pv 0) aa (fun _ _=>rfl)⟩)
  (aC (eV (ah aM (pv 4) aq (aj _)) ⟨ad (ao (ag aN (av aB (pv 0) aa (fun _ _=>rfl)) (pv 3)))⟩ cM)
  (aC (eV (ah aM (pv 4) aq (aj _)) ⟨ad (ao (kX hu (pv 2) (av aB (pv 0) aa (fun _ _=>rfl)) aa ⟨rfl,rfl,rfl,rfl⟩))⟩ cM)
  (aC (eV (ah jU (pv 4) (PEW.out (tj (au bc (au bc (au bc bt))))) (by with_unfolding_all rfl)) ⟨ad (ao (ag aN (bz hu (pv 1) (pv 4) (fun _ _=>rfl)) (pv 3)))⟩ cM)
  (aC (aV (i:=5) cb.nd rfl (Or.inl rfl) ⟨ai b6 hr (zJ0 _) rfl (af (av aB (pv 0) (rK nu aa) (fun _ _=>rfl)) (af (pv 1) (af (pv 2) aJ)))⟩)
  (aC (eV (ah aM (pv 4) aq (aj _)) ⟨ad (ao (av ix_list (ag fF (ag fF (bU (af aa aJ)) (bz hu (pv 1) aq (fun _ _=>rfl))) (bU (af aa aJ))) (aD (pQ rfl) rfl B.min PyProof.Rows.boot_min (af (pv 5) (af (ag aR (aD az rfl B.len PySem.boot_len (af (bz hu (pv 1) aq (fun _ _=>rfl)) aJ)) aa) aJ))) (fun _ _=>rfl)))⟩ cM)
  (aC (eV (ah aM (pv 4) aq (aj _)) ⟨ad (ao (ai gO hr (by omega) rfl (af (pv 1) (af (pv 5) aJ))))⟩ cM)
  (aC (aV (i:=6) cb.nd rfl (Or.inl rfl) ⟨pv 5⟩)
  (aC (aV (i:=5) cb.nd rfl (Or.inl rfl) ⟨ai b6 hr (zJ0 _) rfl (af (av aB (pv 0) aa (fun _ _=>rfl)) (af (pv 1) (af (pv 2) aJ)))⟩)
  (aC (eV (ah jU (av aB (pv 0) aa (fun _ _=>rfl)) (PEW.out (tj (au bc (au bc bt)))) (by with_unfolding_all rfl)) ⟨ad (ao (bh gK rfl B.int fJ (af (BW (oh (cp cU (pv 5) (pv 6) (aj _)) (kj (cp aM (av aB (pv 0) aa (fun _ _=>rfl)) aq (aj _)))) (kj (oh (cp aM (pv 5) (pv 6) (aj _)) (kj (cp aM (av aB (pv 0) aa (fun _ _=>rfl)) aq (aj _)))))) aJ)))⟩ cM)
  (aC (eV (ah aM (av aB (pv 0) aa (fun _ _=>rfl)) aq (aj _)) ⟨ad (ao (kU (ah eE (pv 6) aa (aj _)) (ag aN (ag aW (pv 5) (ai eF hr (by omega) rfl (af (pv 6) (af (pv 3) aJ)))) (pv 3)) aa))⟩ cM)
  (dF (iK ⟨ag aN (bz hu (yU (ag aR (pv 5) (pv 6)) (ag aQ (pv 5) (pv 6)) (ag aW (pv 5) (pv 6))) (av aB (pv 0) aa (fun _ _=>rfl)) (fun _ _=>rfl)) (pv 3)⟩)))))))))))))),?_⟩
 have p2:=k.p0;have p9:=k.gk.p9;have p0:0<z.p:=by omega
 have pw:2 ^ (n+1)=2 ^ n+2 ^ n:=by rw[Nat.pow_succ];omega
 have pw1:1<=2 ^ n:=Nat.one_le_two_pow;have gg:∀{H':Hp}{x:Str}{v:V},H' d=some (.dK (iE gh c tt kn z))->bN (iE gh c tt kn z) (Sum.inr x)=some v->DGet H' d (.str x) (some v):=fun h e=>by rw[←e];exact DGet.k (k:=Sum.inr _) h
 have done:∀{H':Hp},Same H H'->NowAt H' d gh a b c tt kn tv z (m+2 ^ (n+1)):=fun S=>N.up S (by omega)
 refine⟨d,_,rfl,gg N.hd nw_g,_,_,zD0 N.gt.hg,rfl,?_⟩;cases T with
 | @num ta i e=>
   refine⟨_,_,zD0 e,rfl,rfl,bDV rfl ?_⟩;exact⟨_,_,zD0 e,rfl,p0,q _ (done (Same.refl _)) (SameBut.refl _ _)⟩
 | @box ta x e=>
   refine⟨_,_,zD0 e,rfl,rfl,aY (by decide +kernel) ?_⟩;refine⟨rfl,bDV rfl ?_⟩;obtain⟨kvs,hb,_,hx⟩:=BX;refine⟨bb,rfl,.inl ⟨kvs,.inl hb⟩,_,_,zD0 e,rfl,_,DGet.k (k:=.inr x) hb,?_⟩;rw[hx];exact q _ (done (Same.refl _)) (SameBut.refl _ _)
 | @plain ta w e=>
   obtain⟨⟨i,hi,ei⟩,e3,n1,n2⟩:=wS (gh:=gh) (c:=c) (tt:=tt) (kn:=kn) k (show w∈iR from tg);refine⟨_,_,zD0 e,rfl,rfl,aY (neS n1) ?_⟩;refine⟨rfl,aY (neS n2) ?_⟩;refine⟨(by show 3<=sizeLine;decide),fun l hl=>?_⟩;have I:=zE0 hl (.lst [.str "round",.str "due",.str "asked"]);refine⟨l,_,rfl,.inl (zG0 aE),rfl,rfl,?_⟩;show isB (.bl (inV (.str w) [.str "round",.str "due",.str "asked"])) _;rw[e3];refine bT (jY ?_);refine⟨d,_,rfl,gg (I _ _ N.hd) hi,p0,?_⟩;show Q (.int (i % z.p)) _;rw[ei];exact q _ (done I) (zL0 I)
 | @ask ta w v t e T1=>
   obtain ⟨wa,tg1⟩:=tg;have td1:t.depth<=n:=by
    have:t.depth+1<=n+1:=td
    omega
   have wc:(w="coin"∨w="true"):=by
    simp only[BD,List.mem_cons,List.not_mem_nil,or_false]at wa;rcases wa with h | h
    . first | exact .inl h | exact .inr h
    . first | exact .inr h | exact .inl h
   have n1:w≠"num":=fun z=>by rcases wc with h | h <;> rw[h]at z <;> revert z <;> decide +kernel
   have n2:w≠"box":=fun z=>by rcases wc with h | h <;> rw[h]at z <;> revert z <;> decide +kernel
   have e3:inV (.str w) [.str "round",.str "due",.str "asked"]=false:=by
    rw[yZ];rcases wc with rfl | rfl <;> decide +kernel
   refine⟨_,_,zD0 e,rfl,rfl,aY (neS n1) ?_⟩;refine⟨rfl,aY (neS n2) ?_⟩;refine⟨(by show 3<=sizeLine;decide),fun l hl=>?_⟩;have I:=zE0 hl (.lst [.str "round",.str "due",.str "asked"]);refine⟨l,_,rfl,.inl (zG0 aE),rfl,rfl,?_⟩;show isB (.bl (inV (.str w) [.str "round",.str "due",.str "asked"])) _;rw[e3];refine bF (gu ?_);generalize upd H l (.lst [.str "round",.str "due",.str "asked"])=H1 at I;refine⟨_,v,zD0 (I _ _ e),rfl,v,t,bb,d,gh,a,b,c,tt,kn,tv,z,bx,m,mb,rfl,T1.mono (aX I),tg1,td1,N.up I (zJ0 _),BX.keep (fun o h=>I _ _ h),bk,bo,nd,k,h0,by omega,fun H2 N2 S2=>?_⟩;have S02:=(zL0 (f:=kn) I).trans S2;have wr:=Tm.worth_rng k bo t;refine⟨rfl,?_⟩
   by_cases cw:w="coin"
   . refine bn (congrArg V.str cw) ?_;have ew:(Tm.ask w t).worth z bx=gU z (t.worth z bx):=by
      show(if w="coin" then gU z (t.worth z bx)else cP z (t.worth z bx))=_;rw[zI0 cw]
     rw [ew]at q;have ct:=xD h0 k.nr0 wr.1;have tl:(gq z).length<=200:=by
      unfold gq;rw[zO0];have h1:=k.tl
      have:((if 0<z.nr/\1<z.ts.length then [z.s]else []):List Int).length<=1:=by split <;> simp
      omega
     have ht2:=N2.ht;generalize hT:gq z=T at ht2 tl ct;refine⟨(by show 1<=sizeLine;decide),fun u hu=>?_⟩;have I1:=zE0 hu (.lst [.int 0]);have g1:upd H2 u (.lst [.int 0]) u=some (.lst [.int 0]):=aE;generalize upd H2 u (.lst [.int 0])=H3 at I1 g1;refine⟨d,_,rfl,gg (I1 _ _ N2.hd) nw_t,u,tt,_,_,rfl,rfl,g1,I1 _ _ ht2,cu (by rw[zH0];show 1+T.length<=1000;omega),fun y hy=>?_⟩;have I2:=zE0 hy (.lst ([V.int 0]++T.map V.int));have g2:upd H3 y (.lst ([V.int 0]++T.map V.int)) y=some (.lst ([V.int 0]++T.map V.int)):=aE;generalize upd H3 y (.lst ([V.int 0]++T.map V.int))=H4 at I2 g2;refine⟨(by show 1<=sizeLine;decide),fun u2 hu2=>?_⟩;have I3:=zE0 hu2 (.lst [.int 0]);have g3:upd H4 u2 (.lst [.int 0]) u2=some (.lst [.int 0]):=aE;generalize upd H4 u2 (.lst [.int 0])=H5 at I3 g3;refine⟨y,u2,_,_,rfl,rfl,I3 _ _ g2,g3,cu (by rw[zO0,zH0];show 1+T.length+1<=1000;omega),fun w' hw'=>?_⟩;have I4:=zE0 hw' (.lst ([V.int 0]++T.map V.int++[V.int 0]));have g4:upd H5 w' (.lst ([V.int 0]++T.map V.int++[V.int 0])) w'=some (.lst (([0]++T++[0]).map V.int)):=by rw[aE,zM0,zM0];rfl
     generalize upd H5 w' (.lst ([V.int 0]++T.map V.int++[V.int 0]))=H6 at I4 g4;have J:=I1.trans (I2.trans (I3.trans I4));refine⟨d,_,rfl,gg (J _ _ N2.hd) nw_t,tt,_,rfl,.inl (zG0 (J _ _ ht2)),_,_,rfl,?_⟩;rw[zH0];refine⟨_,_,zG0 g4,ct,?_⟩;exact q _ (N2.up J (by omega)) (S02.trans (zL0 J))
   . refine aY (neS cw) ?_;have wt:w="true":=wc.resolve_left cw;have ew:(Tm.ask w t).worth z bx=cP z (t.worth z bx):=by
      show(if w="coin" then gU z (t.worth z bx)else cP z (t.worth z bx))=_;rw[zF0 cw]
     rw[ew]at q;refine⟨rfl,bn (congrArg V.str wt) ?_⟩;refine⟨d,gh,a,b,c,tt,kn,tv,z,m+2 ^ n,_,rfl,N2,nd,k,wr.1,wr.2,by omega,fun H3 N3 S3=>q _ (N3.up (Same.refl _) (by omega)) (S02.trans S3)⟩
 | @op ta s v u t r e T1 T2=>
   obtain ⟨sw,tg1,tg2⟩:=tg;have td1:t.depth<=n/\r.depth<=n:=by
    have:max t.depth r.depth+1<=n+1:=td
    omega
   have e3:inV (.str "op") [.str "round",.str "due",.str "asked"]=false:=by
    rw[yZ];decide +kernel
   refine⟨_,_,zD0 e,rfl,rfl,aY (by decide +kernel) ?_⟩;refine⟨rfl,aY (by decide +kernel) ?_⟩;refine⟨(by show 3<=sizeLine;decide),fun l hl=>?_⟩;have I:=zE0 hl (.lst [.str "round",.str "due",.str "asked"]);refine⟨l,_,rfl,.inl (zG0 aE),rfl,rfl,?_⟩;show isB (.bl (inV (.str "op") [.str "round",.str "due",.str "asked"])) _;rw[e3];refine bF (gu ?_);generalize upd H l (.lst [.str "round",.str "due",.str "asked"])=H1 at I;refine⟨_,u,zD0 (I _ _ e),rfl,u,r,bb,d,gh,a,b,c,tt,kn,tv,z,bx,m,mb,rfl,T2.mono (aX I),tg2,td1.2,N.up I (zJ0 _),BX.keep (fun o h=>I _ _ h),bk,bo,nd,k,h0,by omega,fun H2 N2 S2=>?_⟩;have S02:=(zL0 (f:=kn) I).trans S2;have k02:=N.kT S02;refine⟨rfl,aY (by decide +kernel) ?_⟩;refine⟨rfl,aY (by decide +kernel) ?_⟩;refine ?_;have bbk:∀o,H bb=some o->H2 bb=some o:=fun o h=>S02 _ _ bk h
   refine⟨_,_,zD0 (k02 _ _ e),rfl,v,t,bb,d,gh,a,b,c,tt,kn,tv,z,bx,m+2 ^ n,mb,rfl,T1.mono k02,tg1,td1.1,N2,BX.keep bbk,bk,bo,nd,k,h0,by omega,fun H3 N3 S3=>?_⟩;have S03:=S02.trans S3;have k03:=N.kT S03;have e':=k03 _ _ e;have w1:=Tm.worth_rng k bo t;have w2:=Tm.worth_rng k bo r;have N3':∀{H':Hp},Same H3 H'->NowAt H' d gh a b c tt kn tv z (m+2 ^ (n+1)):=fun S=>N3.up S (by omega)
   have eo:(Tm.op s t r).worth z bx=opV z.p s (t.worth z bx) (r.worth z bx):=rfl;rw[eo]at q;generalize t.worth z bx=x at w1 q;generalize r.worth z bx=y at w2 q;refine⟨_,_,zD0 e',rfl,(by show 2<=sizeLine;decide),fun l2 hl2=>?_⟩;have I4:=zE0 hl2 (.lst [.str "=",.str "<"]);refine⟨l2,_,rfl,.inl (zG0 aE),rfl,rfl,?_⟩;show isB (.bl (inV (.str s) [.str "=",.str "<"])) _;generalize upd H3 l2 (.lst [.str "=",.str "<"])=H4 at I4;have e4:=I4 _ _ e';have S04:=S03.trans (zL0 I4);simp only[ka,List.mem_cons,List.not_mem_nil,or_false]at sw;have md:∀i:Int,0<=i % z.p/\i % z.p<z.p:=fun i=>⟨zX0 _ (by omega),zY0 _ p0⟩
   rcases sw with rfl | rfl | rfl | rfl | rfl | rfl
   . rw [pC,show(decide ((Str.ofString "+")="=")||decide ((Str.ofString "+")="<"))=false by decide +kernel];refine bF (gu ?_);refine⟨_,_,zD0 e4,rfl,rfl,aY (by decide +kernel) ?_⟩;refine fun dd hdd=>?_
     refine ⟨.inl ⟨by omega,by omega⟩,aE,dO (x+y) (x-y) (x*y),rfl,by show 3<=15;decide,?_⟩;rw[oK];have Sd:Same H4 (upd (upd H4 dd (.dK [])) dd (.dK (dO (x+y) (x-y) (x*y)))):=fun b' o' e'=>by
      have nb:=aO e' hdd;rw[am nb,am nb];exact e'
     refine⟨_,_,zD0 (Sd _ _ e4),rfl,dd,.int (x+y),rfl,(by rw[←dO_1 (x+y) (x-y) (x*y)];exact DGet.k (k:=Sum.inr _) aE),p0,?_⟩;rw[Cd]at q;exact q _ (N3' (I4.trans Sd)) (S04.trans (zL0 Sd))
   . rw [pC,show(decide ((Str.ofString "-")="=")||decide ((Str.ofString "-")="<"))=false by decide +kernel];refine bF (gu ?_);refine⟨_,_,zD0 e4,rfl,rfl,aY (by decide +kernel) ?_⟩;refine fun dd hdd=>?_
     refine ⟨.inl ⟨by omega,by omega⟩,aE,dO (x+y) (x-y) (x*y),rfl,by show 3<=15;decide,?_⟩;rw[oK];have Sd:Same H4 (upd (upd H4 dd (.dK [])) dd (.dK (dO (x+y) (x-y) (x*y)))):=fun b' o' e'=>by
      have nb:=aO e' hdd;rw[am nb,am nb];exact e'
     refine⟨_,_,zD0 (Sd _ _ e4),rfl,dd,.int (x-y),rfl,(by rw[←dO_2 (x+y) (x-y) (x*y)];exact DGet.k (k:=Sum.inr _) aE),p0,?_⟩;rw[Cc]at q;exact q _ (N3' (I4.trans Sd)) (S04.trans (zL0 Sd))
   . rw [pC,show(decide ((Str.ofString "*")="=")||decide ((Str.ofString "*")="<"))=false by decide +kernel];refine bF (gu ?_);refine⟨_,_,zD0 e4,rfl,rfl,aY (by decide +kernel) ?_⟩;refine fun dd hdd=>?_
     refine ⟨.inl ⟨by omega,by omega⟩,aE,dO (x+y) (x-y) (x*y),rfl,by show 3<=15;decide,?_⟩;rw[oK];have Sd:Same H4 (upd (upd H4 dd (.dK [])) dd (.dK (dO (x+y) (x-y) (x*y)))):=fun b' o' e'=>by
      have nb:=aO e' hdd;rw[am nb,am nb];exact e'
     refine⟨_,_,zD0 (Sd _ _ e4),rfl,dd,.int (x*y),rfl,(by rw[←dO_3 (x+y) (x-y) (x*y)];exact DGet.k (k:=Sum.inr _) aE),p0,?_⟩;rw[Cb]at q;exact q _ (N3' (I4.trans Sd)) (S04.trans (zL0 Sd))
   . rw [pC,show(decide ((Str.ofString "/")="=")||decide ((Str.ofString "/")="<"))=false by decide +kernel];refine bF (gu ?_);refine⟨_,_,zD0 e4,rfl,rfl,bDV rfl ?_⟩;rw[Ca]at q;refine ?_
     by_cases cy:0<y
     . refine bn cy ?_;refine⟨y,z.p,rfl,rJ k.gk.pr (by omega),p2,p9,cy,w2.2,.inl ⟨by omega,by omega⟩,p0,?_⟩;unfold qI at q;rw[zF0 (by omega)]at q;exact q _ (N3' I4) S04
     . refine aI cy ?_;unfold qI at q;rw[zI0 (by omega)]at q;exact q _ (N3' I4) S04
   . rw [pC,show(decide ((Str.ofString "=")="=")||decide ((Str.ofString "=")="<"))=true by decide +kernel];refine bT (jY ?_);rw[BZ]at q;have second:BK (tOp rEq (qV 5) (qV 6)) (tOp rEq (tOp (yI K) (qV 0) (tC (.int 1))) (tC (.str "="))) [some (.ref ta),some (.ref d),some (.ref bb),some (.int z.p),some (.str "op"),some (.int x),some (.int y)] H4 (fun v H'=>tH [some (.ref ta),some (.ref d),some (.ref bb),some (.int z.p),some (.str "op"),some (.int x),some (.int y)] H' fun xs H''=>(∃i,v::xs=[.int i]/\Q (.int i) H'')∨∃k,v::xs=[.bl k]/\Q (.int (if k=true then 1 else 0)) H''):=by
      refine⟨rfl,?_⟩
      by_cases c:x=y
      . refine bn (congrArg V.int c) ?_;refine⟨_,_,zD0 e4,rfl,rfl,.inr ⟨_,rfl,?_⟩⟩;rw[zI0 c]at q;show Q (.int (if decide (V.str "="=V.str "=")=true then 1 else 0)) H4;rw[decide_eq_true rfl,zI0 rfl];exact q _ (N3' I4) S04
      . refine aI (fun z=>c (V.int.inj z)) ?_;refine .inr ⟨_,rfl,?_⟩;rw[zF0 c]at q;exact q _ (N3' I4) S04
     refine ?_
     by_cases c:x<y
     . refine bn c ?_;refine⟨_,_,zD0 e4,rfl,rfl,aY (by decide +kernel) second⟩
     . exact aI c (second)
   . rw [pC,show(decide ((Str.ofString "<")="=")||decide ((Str.ofString "<")="<"))=true by decide +kernel];refine bT (jY ?_);rw[BY]at q;refine ?_
     by_cases c:x<y
     . refine bn c ?_;refine⟨_,_,zD0 e4,rfl,rfl,bDV rfl (.inr ⟨_,rfl,?_⟩)⟩;rw[zI0 c]at q;exact q _ (N3' I4) S04
     . refine aI c (?_);rw[zF0 c]at q;refine⟨rfl,?_⟩
       by_cases c2:x=y
       . refine bn (congrArg V.int c2) ?_;refine⟨_,_,zD0 e4,rfl,rfl,.inr ⟨_,rfl,?_⟩⟩;show Q (.int (if decide (V.str "<"=V.str "=")=true then 1 else 0)) H4;rw[decide_eq_false (by decide +kernel),zF0 (by decide)];exact q _ (N3' I4) S04
       . refine aI (fun z=>c2 (V.int.inj z)) ?_;exact .inr ⟨_,rfl,q _ (N3' I4) S04⟩
theorem Aw {f:Addr} {fd:FuncData}:FnOk P w K mg base CX0 16 f fd ["_law_term_here","_law_now_here","_law_boxes"] (wo 0):=by
 have no:∀vs H Q E,¬ wo 0 vs H Q E:=fun vs H Q E h=>by
  obtain⟨v,t,_,_,_,_,_,_,_,_,_,_,_,_,_,_,_,_,h1,_⟩:=h
  have:=t.depth_pos
  omega
 exact⟨fun vs H Q E h=>absurd h (no vs H Q E),fun A outer s H args us vs Q E _ _ _ _ h=>absurd h (no vs H Q E)⟩
theorem iX {f:Addr} {fd:FuncData} (F:Fun K "_law_term_worth" "_law_term_worth" bO f fd) (B:Bl mg) (m:mg "_law_term_worth"=some (.ref f)) (eF:Cal P w K mg base 1 "_law_inverse" ["_law_a","_law_p"] qb) (gO:Cal P w K mg base 15 "_law_true" ["_law_now_here","_law_at"] pZ) :
 ∀n:Nat,FnOk P w K mg base CX0 (n+16) f fd ["_law_term_here","_law_now_here","_law_boxes"] (wo n)
 | 0=>Aw
 | n+1=>Ax F B eF gO (Cal.of F (iX F B m eF gO n) m (fun _ _ _ _ _ _ us hl=>by obtain⟨u0,u1,u2,rfl⟩:=gV hl;rfl))
end
end
section
variable {P:Program} {w:World} {K:W.Frag} {mg:Str->Option Value} {base:Heap}
section
variable {CM CA CG:Addr}
def yr(CM:Addr):Sp:=fun vs H Q _=>∃(M g h b dm:Addr)(r:Int)(x:Str)(bx:Str->Int)(m:Nat),vs=[.ref M,.str x]/\H M=some (.ins CM dm (ml g h r b))/\BxAt H b bx m/\Q (.int (bx x)) H
theorem AN:FnScope ["self","x"] ["self","x"] (ae lI):=⟨rfl,rfl,rfl,by decide +kernel,rfl,by decide +kernel,by decide +kernel⟩
theorem Bh {f:Addr} {fd:FuncData} (F:Fun K "box" "Machine.box" lI f fd) (T:MTxt K mg CM):FnOk P w K mg base CX0 1 f fd ["self","x"] (yr CM):=by
 refine F.ok AN (fun vs H Q E h=>?_) (fun cdv A outer s H vs Q E hr h=>?_)
 . obtain⟨M,g,h,b,dm,r,x,bx,m,rfl,_⟩:=h;rfl
 obtain⟨M,g,h,b,dm,r,x,bx,m,rfl,hM,BX,q⟩:=h;have hu:=ld hr;refine⟨_,(ad (ao (kX hu (aP (pv 0) rfl) (pv 1) aa ⟨rfl,rfl,rfl,rfl⟩))),?_⟩;obtain⟨kvs,hb,_,hx⟩:=BX;refine⟨CM,dm,_,_,hM,T.cl,T.nB,zI,b,rfl,.inl ⟨kvs,.inl hb⟩,_,DGet.k (k:=.inr x) hb,?_⟩;rw[hx];exact q
end
section
variable {CM CA CG:Addr}
def HlpAt(H:Hp)(h:Addr)(rows:List Hr):Prop:=(∃rv,H h=some (.tup rv)/\RowsAt H rv rows)/\∀r∈rows,r.good
theorem HlpAt.mono{H H':Hp}{h:Addr}{rows:List Hr}(x:HlpAt H h rows)(k:bu H H'):HlpAt H' h rows:=by
 obtain⟨⟨rv,e,R⟩,g⟩:=x;exact⟨⟨rv,k _ _ e,R.mono k⟩,g⟩
def vV:HO->Prop
 | .dK _=>False
 | .ins _ _ fs=>fs.lookup ("game":Str)=none
 | _=>True
def Kp(H H':Hp):Prop:=∀a o,vV o->H a=some o->H' a=some o
theorem Kp.of{H H':Hp}(s:Same H H'):Kp H H':=fun a o _ e=>s a o e
theorem Kp.T{H H':Hp}(x:Kp H H'):bu H H':=fun a xs e=>x a _ trivial e
theorem But2.kp{H H':Hp}{M b dm g h b0:Addr}{r:Int}{bx:Str->Int}{m:Nat}(x:But2 M b H H')(hM:H M=some (.ins CM dm (ml g h r b0)))(hb:BxAt H b bx m):Kp H H':=fun a o st e=>by
 obtain⟨kvs,eb,_⟩:=hb;refine x a o (fun z=>?_) (fun z=>?_) e
 . rw [z,hM]at e;cases e
   have:=(show(ml g h r b0).lookup ("game":Str)=none from st)
   rw[Dl]at this;cases this
 . rw[z,eb]at e;cases e;exact st
theorem Gm.kp{H H':Hp}{g:Addr}{ns:List Str}{ts:List Tr}{p:Int}(h:Gm CG H g ns ts p)(x:Kp H H'):Gm CG H' g ns ts p:=by
 obtain⟨a,b,d,tv,⟨dx,h1⟩,h2,h3,h4,h5⟩:=h;exact⟨a,b,d,tv,⟨dx,x _ _ (vN ..) h1⟩,x.T _ _ h2,x.T _ _ h3,h4.mono x.T,x _ _ trivial h5⟩
end
section
theorem NowAt.bb{H H':Hp}{d gh a b c tt kn bb:Addr}{tv:List V}{z:Ak}{m:Nat}{kvs:List (Key×V)}(h:NowAt H d gh a b c tt kn tv z m)(hb:H bb=some (.dK kvs))(n1:d≠bb)(n2:kn≠bb)(s:SameBut bb H H'):NowAt H' d gh a b c tt kn tv z m:=by
 have kT:bu H H':=fun x xs e=>s _ _ (be e hb (by intro z;cases z)) e
 obtain⟨kv,ek,l,r⟩:=h.hk;exact⟨s _ _ n1 h.hd,h.gt.mono kT,s _ _ (be h.hc hb (by intro z;cases z)) h.hc,s _ _ (be h.ht hb (by intro z;cases z)) h.ht,⟨kv,s _ _ n2 ek,l,r⟩,h.dk⟩
theorem NowAt.lst{H H':Hp}{d gh a b c tt kn sd:Addr}{tv ys:List V}{z:Ak}{m:Nat}(h:NowAt H d gh a b c tt kn tv z m)(hs:H sd=some (.lst ys))(n1:c≠sd)(n2:tt≠sd)(s:SameBut sd H H'):NowAt H' d gh a b c tt kn tv z m:=by
 have kT:bu H H':=fun x xs e=>s _ _ (be e hs (by intro z;cases z)) e
 obtain⟨kv,ek,l,r⟩:=h.hk;exact⟨s _ _ (be h.hd hs (by intro z;cases z)) h.hd,h.gt.mono kT,s _ _ n1 h.hc,s _ _ n2 h.ht,⟨kv,s _ _ (be ek hs (by intro z;cases z)) ek,l,r⟩,h.dk⟩
theorem nV{z:Ak}{rows:List Hr}{s:MS}(h:¬ (s.pl<(rows.length:Int)/\(s.sd.length:Int)<z.mn)):∀n,fQ z rows n s=s
 | 0=>rfl
 | n+1=>by
   show(if _/\_ then _ else _)=_;rw[zF0 h]
theorem CK{z:Ak}{rows:List Hr}{s:MS}{n:Nat}(h:s.pl<(rows.length:Int)/\(s.sd.length:Int)<z.mn):fQ z rows (n+1) s=fQ z rows n (fN z rows s):=by
 show(if _/\_ then _ else _)=_;rw[zI0 h]
theorem AG{z:Ak}{rows:List Hr}{s:MS}{r:Hr}{j:Nat}(hp:s.pl=(j:Int))(hr:rows[j]?=some r):fN z rows s=vc z rows.length s r:=by
 unfold fN;rw[hp,qT0,hr]
def tSdE:TS:=fun Dn σ H=>∃(x0 x2 x4 x5 x6:Option V)(d gh a b c tt kn sd:Addr)(tv:List V)(z:Ak)(m:Nat)(xs:List Int),σ=[x0,some (.ref d),x2,some (.ref sd),x4,x5,x6]/\H sd=some (.lst (xs.map V.int))/\NowAt H d gh a b c tt kn tv z m/\xs.length<=500/\0<=z.mn/\z.mn<=500/\∀(l:Addr)(H':Hp),H l=none->Same H H'->H' l=some (.lst ((oU z.mn xs).map V.int))->Dn.rt (.ref l) H'
def vf:Sp:=fun vs H Q _=>∃(h bb d gh a b c tt kn:Addr)(tv:List V)(z:Ak)(rows:List Hr)(bx:Str->Int)(m mb:Nat),vs=[.ref h,.ref d,.ref bb]/\HlpAt H h rows/\NowAt H d gh a b c tt kn tv z m/\BxAt H bb bx mb/\bb≠kn/\d≠bb/\ie z.p bx/\z.ns.Nodup/\AkOk z/\(z.nr=0->z.s=0/\z.to=[])/\0<=z.mn/\z.mn<=500/\m<=500000/\mb<=10000/\
 ∀(l:Addr)(H':Hp),H l=none->H' l=some (.lst ((oU z.mn (fQ z rows 200 ⟨0,bx,[]⟩).sd).map V.int))->BxAt H' bb (fQ z rows 200 ⟨0,bx,[]⟩).bx (mb+200)->NowAt H' d gh a b c tt kn tv z (m+256*200)->But2 bb kn H H'->Q (.ref l) H'
theorem eI:FnScope ["_law_helper_here","_law_now_here","_law_boxes","_law_said_here","_law_at","_law_step","_law_row"] ["_law_helper_here","_law_now_here","_law_boxes"] (ae iq):=⟨rfl,rfl,rfl,by decide +kernel,rfl,by decide +kernel,by decide +kernel⟩
theorem wH {f:Addr} {fd:FuncData} (F:Fun K "_law_said" "_law_said" iq f fd) (B:Bl mg) (b6:Cal P w K mg base 24 "_law_term_worth" ["_law_term_here","_law_now_here","_law_boxes"] (wo 8)):FnOk P w K mg base CX0 25 f fd ["_law_helper_here","_law_now_here","_law_boxes"] vf:=by
 refine F.ok eI (fun vs H Q E h=>?_) (fun cdv A outer s H vs Q E hr h=>?_)
 . obtain⟨h,bb,d,gh,a,b,c,tt,kn,tv,z,rows,bx,m,mb,rfl,_⟩:=h;rfl
 obtain ⟨h,bb,d,gh,a,b,c,tt,kn,tv,z,rows,bx,m,mb,rfl,HL,N,BX,bk,db,bo,nd,k,h0,mn0,mn5,m5,mb5,q⟩:=h;have hu:=ld hr;refine⟨_,PSW.out (aC (aV (i:=3) eI.nd rfl (Or.inl rfl) ⟨bU aJ⟩)
  (aC (aV (i:=4) eI.nd rfl (Or.inl rfl) ⟨aa⟩)
  (aC ⟨bY PassesOwn.never rfl (bv rfl B.range (af aa aJ)) (ba (i:=5) eI.nd rfl (Or.inl rfl)) (ac (aH (PW.pt (gs (ah zh (pv 4) (aD az rfl B.len PySem.boot_len (af (pv 0) aJ)) (aj _)) (gs (ah aM (aD az rfl B.len PySem.boot_len (af (pv 3) aJ)) (bz hu (pv 1) aq (fun _ _=>rfl)) (aj _)) (fw (ah aM (av aB (av aB (pv 0) (pv 4) (fun _ _=>rfl)) aa (fun _ _=>rfl)) aq (aj _)))))) (ad yM) ax)
   (ac (ak (i:=6) eI.nd rfl (Or.inl rfl) (av aB (pv 0) (pv 4) (fun _ _=>rfl)))
   (ac (ak (i:=4) eI.nd rfl (Or.inl rfl) (ag aR (pv 4) aa))
   (ad (aH (ah aM (av aB (pv 6) aa (fun _ _=>rfl)) aq (aj _)) (ad (kO hu (pv 2) (av aB (pv 6) aa (fun _ _=>rfl)) (ai b6 hr (by decide) rfl (af (av aB (pv 6) aa (fun _ _=>rfl)) (af (pv 1) (af (pv 2) aJ)))) rfl)) (ad (aH (ah aM (av aB (pv 6) aa (fun _ _=>rfl)) aq (aj _)) (ad (bG (dU PySem.F.plainAttrs_list PySem.F.slot_list_append PySem.F.type_list_append bi (pv 3) (af (ai b6 hr (by decide) rfl (af (av aB (pv 6) aa (fun _ _=>rfl)) (af (pv 1) (af (pv 2) aJ)))) aJ)))) (ad (aH (PW.pt (gs (ah aM (av aB (pv 6) aa (fun _ _=>rfl)) aq (aj _)) (fw (ah rN (ai b6 hr (by decide) rfl (af (av aB (pv 6) aa (fun _ _=>rfl)) (af (pv 1) (af (pv 2) aJ)))) aa (aj _))))) (ad (ak (i:=4) eI.nd rfl (Or.inl rfl) (av aB (pv 6) (rK nu aa) (fun _ _=>rfl)))) ax)))))))))⟩
  (ia (t':=tSdE) (dF (iK ⟨ag fF (pv 3) (ag ue (bU (af aa aJ)) (ag aQ (bz hu (pv 1) aq (fun _ _=>rfl)) (aD az rfl B.len PySem.boot_len (af (pv 3) aJ))))⟩)) (by
   rintro Dn σ H ⟨x0,x2,x4,x5,x6,d,gh,a,b,c,tt,kn,sd,tv,z,m,xs,rfl,hsd,N,xl,mn0,mn1,q⟩;refine⟨(by show 1<=sizeLine;decide),fun y hy=>?_⟩;have I1:=zE0 hy (.lst [.int 0]);have g1:upd H y (.lst [.int 0]) y=some (.lst [.int 0]):=aE;generalize upd H y (.lst [.int 0])=H1 at I1 g1;have el:((xs.map V.int).length:Int)=(xs.length:Int):=by rw[zH0]
   refine⟨d,_,rfl,(by rw[←Bm (gh:=gh) (c:=c) (tt:=tt) (kn:=kn) (z:=z)];exact DGet.k (k:=Sum.inr _) (I1 _ _ N.hd)),sd,_,rfl,.inl (zG0 (I1 _ _ hsd)),?_⟩;refine⟨y,_,_,rfl,rfl,g1,by omega,by omega,cu (by show 1*(z.mn-((xs.map V.int).length:Int)).toNat<=1000;omega),fun u hu=>?_⟩;rw[rD];have I2:=zE0 hu (.lst (List.replicate (z.mn-((xs.map V.int).length:Int)).toNat (.int 0)));have g2:upd H1 u (.lst (List.replicate (z.mn-((xs.map V.int).length:Int)).toNat (.int 0))) u=some (.lst (List.replicate (z.mn-((xs.map V.int).length:Int)).toNat (.int 0))):=aE;generalize upd H1 u (.lst (List.replicate (z.mn-((xs.map V.int).length:Int)).toNat (.int 0)))=H2 at I2 g2;refine⟨sd,u,_,_,rfl,rfl,I2 _ _ (I1 _ _ hsd),g2,?_,fun l hl=>?_⟩
   . rw[List.length_replicate,zH0];exact cu (by omega)
   refine q l _ ((I1.trans I2).free hl) (I1.trans (I2.trans (zE0 hl _))) ?_;rw[aE,el];unfold oU;rw[zM0,List.map_replicate]))))),?_⟩
 obtain⟨R,hR⟩:∃R,R=fQ z rows 200 ⟨0,bx,[]⟩:=⟨_,rfl⟩
 rw[←hR]at q;obtain⟨kv0,ek0,_⟩:=id N.hk;obtain⟨kb0,eb0,_⟩:=id BX;have kT0:∀{H':Hp},But2 bb kn H H'->bu H H':=fun s x xs e=>s _ _ (be e eb0 (by intro z;cases z)) (be e ek0 (by intro z;cases z)) e
 refine ⟨(by show 0<=sizeLine;decide),fun sd hsd=>?_⟩;have I1:=zE0 hsd (.lst []);have g1:upd H sd (.lst []) sd=some (.lst (([]:List Int).map V.int)):=aE;have ncs:c≠sd:=aO N.hc hsd;have nts:tt≠sd:=aO N.ht hsd;have nbs:bb≠sd:=aO eb0 hsd;have nks:kn≠sd:=aO ek0 hsd;generalize upd H sd (.lst [])=H1 at I1 g1;have fin:∀(at':Int)(bx':Str->Int)(xs:List Int)(i:Nat)(x4 x5 x6:Option V)(H':Hp),i<=200->H' sd=some (.lst (xs.map V.int))->NowAt H' d gh a b c tt kn tv z (m+256*i)->BxAt H' bb bx' (mb+i)->R.bx=bx'->R.sd=xs->(xs.length:Int)<=z.mn->But2 bb kn H H'->tSdE { nx:=fun _ H'=>Q .non H',rt:=Q } [some (.ref h),some (.ref d),some (.ref bb),some (.ref sd),x4,x5,x6] H':=fun at' bx' xs i x4 x5 x6 H' hi hs N' BX' e1 e2 xl b2=>by
  refine ⟨_,_,_,_,_,d,gh,a,b,c,tt,kn,sd,tv,z,_,xs,rfl,hs,N',by omega,mn0,mn5,fun l H'' hl S'' hl'=>?_⟩;rw[e1,e2]at q;have l0:H l=none:=by
   cases eh:H l with
   | none=>rfl
   | some o=>
     obtain⟨kv',ek',_⟩:=N'.hk;obtain⟨kb',eb',_⟩:=BX';rw[b2 l o (fun z=>by rw[z,eb']at hl;cases hl) (fun z=>by rw[z,ek']at hl;cases hl) eh]at hl;cases hl
  exact q l H'' l0 hl' ((BX'.keep fun o e=>S'' _ _ e).le (by omega)) (N'.up S'' (by omega)) (b2.trans (But2.of S''))
 refine ⟨_,rfl,by decide,by decide,dh (fun i σ H'=>∃(at':Int)(bx':Str->Int)(xs:List Int)(x5 x6:Option V),σ=[some (.ref h),some (.ref d),some (.ref bb),some (.ref sd),some (.int at'),x5,x6]/\H' sd=some (.lst (xs.map V.int))/\NowAt H' d gh a b c tt kn tv z (m+256*i)/\BxAt H' bb bx' (mb+i)/\ie z.p bx'/\fQ z rows (200-i) ⟨at',bx',xs⟩=R/\0<=at'/\(xs.length:Int)<=z.mn/\But2 bb kn H H')
  ⟨0,bx,[],_,_,rfl,g1,N.up I1 (by omega),BX.keep (fun o e=>I1 _ _ e),bo,hR.symm,Int.le_refl 0,mn0,But2.of I1⟩ ?_ ?_⟩
 . rintro i σ H2 hi ⟨at',bx',xs,x5,x6,rfl,hs,N2,BX2,bo2,eR,a0,xl,b2⟩;have hi2:i<200:=hi;have kT2:=kT0 b2;obtain⟨⟨rv,hh,RW⟩,rg⟩:=HL.mono kT2;have rl:=RW.1;obtain⟨n,hn⟩:∃n,200-i=n+1:=⟨199-i,by omega⟩
   have hn1:200-(i+1)=n:=by omega
   rw[hn]at eR;have gg:∀{H':Hp}{x:Str}{v:V},H' d=some (.dK (iE gh c tt kn z))->bN (iE gh c tt kn z) (Sum.inr x)=some v->DGet H' d (.str x) (some v):=fun h e=>by rw[←e];exact DGet.k (k:=Sum.inr _) h
   have xlm:((xs.map V.int).length:Int)=(xs.length:Int):=by rw[zH0]
   refine⟨h,_,rfl,.inr (zD0 hh),?_⟩
   by_cases c1:(rv.length:Int)<=at'
   . refine bn c1 ?_;have st:=nV (z:=z) (rows:=rows) (s:=⟨at',bx',xs⟩) (fun hh=>by have:=hh.1;rw[←rl]at this;have h2:at'<(rv.length:Int):=this;omega) (n+1);rw[st]at eR;exact fin at' bx' xs i _ _ _ H2 (by omega) hs N2 BX2 (by rw[←eR]) (by rw[←eR]) xl b2
   refine aI c1 ?_;refine⟨sd,_,rfl,.inl (zG0 hs),d,_,rfl,gg N2.hd Bm,rfl,?_⟩
   by_cases c2:(xs.length:Int)=z.mn
   . refine bn (by rw[xlm,c2]) ?_;have st:=nV (z:=z) (rows:=rows) (s:=⟨at',bx',xs⟩) (fun hh=>by have h2:(xs.length:Int)<z.mn:=hh.2;omega) (n+1);rw[st]at eR;exact fin at' bx' xs i _ _ _ H2 (by omega) hs N2 BX2 (by rw[←eR]) (by rw[←eR]) xl b2
   refine aI (fun e=>c2 (by have:=V.int.inj e;omega)) ?_;obtain⟨j,rfl⟩:∃j:Nat,at'=(j:Int):=⟨at'.toNat,by omega⟩
   have hj:j<rv.length:=by omega
   have hv:=zU0 hj;generalize rv[j]=v at hv;have hrj:rows[j]?=some (rows[j]'(by omega)):=zU0 _;generalize rows[j]'(by omega)=r at hrj;have HR:=RW.2 j v r hv hrj;have gr:=rg r (qJ0 hrj);have eS:=AG (z:=z) (s:=⟨(j:Int),bx',xs⟩) rfl hrj;have eG:=CK (z:=z) (rows:=rows) (n:=n) (s:=⟨(j:Int),bx',xs⟩) ⟨by show(j:Int)<_;omega,by show(xs.length:Int)<_;omega⟩;rw[eG,eS]at eR;have m5':m+256*i+2 ^ 8<=1000000:=by have:2 ^ 8=256:=rfl;omega
   have nx:∀{at2:Int}{bx2:Str->Int}{xs2:List Int}{x5' x6':Option V}{H3:Hp},H3 sd=some (.lst (xs2.map V.int))->NowAt H3 d gh a b c tt kn tv z (m+256*i+2 ^ 8)->BxAt H3 bb bx2 (mb+(i+1))->ie z.p bx2->vc z rows.length ⟨(j:Int),bx',xs⟩ r=⟨at2,bx2,xs2⟩->0<=at2->(xs2.length:Int)<=z.mn->But2 bb kn H H3->∃(at':Int)(bx':Str->Int)(xs:List Int)(x5 x6:Option V),[some (V.ref h),some (.ref d),some (.ref bb),some (.ref sd),some (.int at2),x5',x6']=[some (V.ref h),some (.ref d),some (.ref bb),some (.ref sd),some (.int at'),x5,x6]/\H3 sd=some (.lst (xs.map V.int))/\NowAt H3 d gh a b c tt kn tv z (m+256*(i+1))/\BxAt H3 bb bx' (mb+(i+1))/\ie z.p bx'/\fQ z rows (200-(i+1)) ⟨at',bx',xs⟩=R/\0<=at'/\(xs.length:Int)<=z.mn/\But2 bb kn H H3:=fun h1 h2 h3 h4 h5 h6 h7 h8=>⟨_,_,_,_,_,rfl,h1,h2.up (Same.refl _) (by have:2 ^ 8=256:=rfl;omega),h3,h4,by rw[hn1,←eR,h5],h6,h7,h8⟩
   have hat:atI rv (j:Int)=some v:=cq hv;have N2u:=N2.up (Same.refl H2) (show m+256*i<=m+256*i+2 ^ 8 by omega);cases HR with
   | @fin ta e=>
     refine⟨_,_,zD0 hh,hat,_,_,zD0 e,rfl,rfl,bDV rfl ?_⟩;have st:=nV (z:=z) (rows:=rows) (s:=⟨(rows.length:Int),bx',xs⟩) (fun hh=>absurd hh.1 (Int.lt_irrefl _)) n;have eR':fQ z rows n ⟨(rows.length:Int),bx',xs⟩=R:=eR;rw[st]at eR';exact fin (j:Int) bx' xs i _ _ _ H2 (by omega) hs N2 BX2 (by rw[←eR']) (by rw[←eR']) xl b2
   | @go ta g e=>
     refine⟨_,_,zD0 hh,hat,_,_,zD0 e,rfl,rfl,aY (by decide +kernel) ?_⟩;refine⟨_,_,zD0 hh,hat,?_⟩;refine ?_;refine⟨_,_,zD0 e,rfl,rfl,aY (by decide +kernel) ?_⟩;refine⟨_,_,zD0 e,rfl,rfl,aY (by decide +kernel) ?_⟩;refine⟨_,_,zD0 e,rfl,rfl,bDV rfl ?_⟩;refine⟨_,.int g,zD0 e,rfl,?_⟩;exact nx hs N2u (BX2.le (by omega)) bo2 rfl gr xl b2
   | @iff ta t u g e T=>
     obtain⟨tg,td,g0⟩:=gr;refine⟨_,_,zD0 hh,hat,_,_,zD0 e,rfl,rfl,aY (by decide +kernel) ?_⟩;refine⟨_,_,zD0 hh,hat,?_⟩;refine ?_;refine⟨_,_,zD0 e,rfl,rfl,aY (by decide +kernel) ?_⟩;refine⟨_,_,zD0 e,rfl,rfl,aY (by decide +kernel) ?_⟩;refine⟨_,_,zD0 e,rfl,rfl,aY (by decide +kernel) ?_⟩;refine⟨_,_,zD0 e,rfl,_,u,bb,d,gh,a,b,c,tt,kn,tv,z,bx',_,_,rfl,T,tg,td,N2,BX2,bk,bo2,nd,k,h0,m5',fun H3 N3 S3=>⟨rfl,?_⟩⟩;have b3:But2 bb kn H H3:=fun x o n1 n2 e=>S3 _ _ n2 (b2 x o n1 n2 e)
     have hs3:=S3 _ _ nks.symm hs;have BX3:=BX2.keep (fun o e=>S3 _ _ bk e)
     by_cases cw:u.worth z bx'=0
     . refine Cg (congrArg V.int cw) ?_;exact nx hs3 N3 (BX3.le (by omega)) bo2 (by show(⟨if u.worth z bx'=0 then(j:Int)+1 else g,bx',xs⟩:MS)=_;rw[zI0 cw]) (by omega) xl b3
     . refine Du (fun z=>cw (V.int.inj z)) ?_;refine⟨_,.int g,zD0 (N2.kT S3 _ _ e),rfl,?_⟩;exact nx hs3 N3 (BX3.le (by omega)) bo2 (by show(⟨if u.worth z bx'=0 then(j:Int)+1 else g,bx',xs⟩:MS)=_;rw[zF0 cw]) g0 xl b3
   | @set ta x t u e T=>
     obtain⟨tg,td⟩:=gr;refine⟨_,_,zD0 hh,hat,_,_,zD0 e,rfl,rfl,aY (by decide +kernel) ?_⟩;refine⟨_,_,zD0 hh,hat,?_⟩;refine ?_;refine⟨_,_,zD0 e,rfl,rfl,bDV rfl ?_⟩;refine⟨_,_,zD0 e,rfl,_,u,bb,d,gh,a,b,c,tt,kn,tv,z,bx',_,_,rfl,T,tg,td,N2,BX2,bk,bo2,nd,k,h0,m5',fun H3 N3 S3=>?_⟩;have b3:But2 bb kn H H3:=fun x o n1 n2 e=>S3 _ _ n2 (b2 x o n1 n2 e)
     have hs3:=S3 _ _ nks.symm hs;obtain⟨kvs,eb,lb,hx⟩:=BX2.keep (fun o e=>S3 _ _ bk e);have wr:=Tm.worth_rng k bo2 u;refine⟨_,_,zD0 (N2.kT S3 _ _ e),rfl,bb,_,rfl,DPut.k (k:=Sum.inr x) eb (by have:sizeLine=16777216:=rfl;omega),?_⟩;have pl:=dW kvs (Sum.inr x) (.int (u.worth z bx'));have S4:SameBut bb H3 (upd H3 bb (.dK (fD kvs (Sum.inr x) (.int (u.worth z bx'))))):=SameBut.upd _;exact nx (by rw[am nbs.symm];exact hs3) (N3.bb eb db bk.symm S4) ⟨_,aE,by omega,Ah x _ hx⟩ (sQ bo2 wr.1 wr.2) rfl (by omega) xl (fun y o n1 n2 e=>S4 _ _ n1 (b3 y o n1 n2 e))
   | @say ta t u e T=>
     obtain⟨tg,td⟩:=gr;refine⟨_,_,zD0 hh,hat,_,_,zD0 e,rfl,rfl,aY (by decide +kernel) ?_⟩;refine⟨_,_,zD0 hh,hat,?_⟩;refine ?_;refine⟨_,_,zD0 e,rfl,rfl,aY (by decide +kernel) ?_⟩;refine⟨_,_,zD0 e,rfl,rfl,bDV rfl ?_⟩;refine⟨.inl ⟨rfl,_,zG0 hs⟩,_,_,zD0 e,rfl,_,u,bb,d,gh,a,b,c,tt,kn,tv,z,bx',_,_,rfl,T,tg,td,N2,BX2,bk,bo2,nd,k,h0,m5',fun H3 N3 S3=>?_⟩;have b3:But2 bb kn H H3:=fun x o n1 n2 e=>S3 _ _ n2 (b2 x o n1 n2 e)
     have hs3:=S3 _ _ nks.symm hs;have BX3:=BX2.keep (fun o e=>S3 _ _ bk e);have S4:SameBut sd H3 (upd H3 sd (.lst (xs.map V.int++[.int (u.worth z bx')]))):=SameBut.upd _;refine⟨sd,_,_,rfl,rfl,hs3,aG (by rw[zH0];omega),?_⟩;exact nx (by rw[aE,zM0];rfl) (N3.lst hs3 ncs nts S4) ((BX3.keep fun o e=>S4 _ _ nbs e).le (by omega)) bo2 rfl (by omega) (by rw[zO0];show(((xs.length+1:Nat)):Int)<=_;omega) (fun y o n1 n2 e=>by rw[am (aO e hsd)];exact b3 y o n1 n2 e)
 . rintro σ H2 ⟨at',bx',xs,x5,x6,rfl,hs,N2,BX2,bo2,eR,a0,xl,b2⟩;have eR':fQ z rows 0 ⟨at',bx',xs⟩=R:=eR;exact fin at' bx' xs 200 _ _ _ H2 (zJ0 _) hs N2 BX2 (by rw[←eR'];rfl) (by rw[←eR'];rfl) xl b2
end
end
section
variable {P:Program} {w:World} {K:W.Frag} {mg:Str->Option Value} {base:Heap}
section
variable {CM CA CG:Addr}
def n6 (gh c:Addr) (z:Ak):List (Key×V):=[(Sum.inr "game",.ref gh),(Sum.inr "round",.int z.nr),(Sum.inr "asked",.int z.mn),(Sum.inr "due",.int z.hd),(Sum.inr "s",.int z.s),(Sum.inr "coins",.ref c)]
theorem zF(gh c:Addr)(z:Ak):eJ [] (n6 gh c z)=n6 gh c z:=by with_unfolding_all rfl
def n7 (gh c tt:Addr) (z:Ak):List (Key×V):=n6 gh c z++([(Sum.inr "tossed",.ref tt)]:List (Key×V))
theorem Dh (gh c tt:Addr) (z:Ak):fD (n6 gh c z) (Sum.inr "tossed") (.ref tt)=n7 gh c tt z:=by with_unfolding_all rfl
theorem Dg (gh c tt kn:Addr) (z:Ak):fD (n7 gh c tt z) (Sum.inr "known") (.ref kn)=iE gh c tt kn z:=by with_unfolding_all rfl
theorem yT{X:Cx}{k1 k2 k3 k4 k5 k6:_}{p1 p2 p3 p4 p5 p6 pd:Pos}{x1 x2 x3 x4 x5 x6:Str}{v1 v2 v3 v4 v5 v6:Expr}{t1 t2 t3 t4 t5 t6:TE}(e1:PE X v1 t1)(e2:PE X v2 t2)(e3:PE X v3 t3)(e4:PE X v4 t4)(e5:PE X v5 t5)(e6:PE X v6 t6) :
 PE X (.Dict [some (.Constant (.str x1) k1 p1),some (.Constant (.str x2) k2 p2),some (.Constant (.str x3) k3 p3),some (.Constant (.str x4) k4 p4),some (.Constant (.str x5) k5 p5),some (.Constant (.str x6) k6 p6)] [v1,v2,v3,v4,v5,v6] pd) (xT [(tC (.str x1),t1),(tC (.str x2),t2),(tC (.str x3),t3),(tC (.str x4),t4),(tC (.str x5),t5),(tC (.str x6),t6)]):=
 qo (cH aq e1 (cH aq e2 (cH aq e3 (cH aq e4 (cH aq e5 (cH aq e6 qk)))))) rfl rfl (by simp) (by show 6<=15;decide)
def tNw:TS:=fun Dn σ H=>∃(x7:Option V)(gh a b co tt:Addr)(tv:List V)(z:Ak),σ=[some (.ref gh),some (.int z.nr),some (.int z.mn),some (.int z.hd),some (.int z.s),some (.ref co),some (.ref tt),x7]/\GmT H gh a b z.ns tv z.ts z.p/\H co=some (.lst (z.to.map V.int))/\H tt=some (.lst ((gq z).map V.int))/\
 ∀(d c kn:Addr)(H':Hp),H d=none->H c=none->H kn=none->NowAt H' d gh a b c tt kn tv z 0->Same H H'->Dn.rt (.ref d) H'
def BO:Sp:=fun vs H Q _=>∃(gh a b co:Addr)(tv:List V)(z:Ak),vs=[.ref gh,.int z.nr,.int z.mn,.int z.hd,.int z.s,.ref co]/\GmT H gh a b z.ns tv z.ts z.p/\H co=some (.lst (z.to.map V.int))/\z.to.length<=100/\
 ∀(d c tt kn:Addr)(H':Hp),H d=none->H c=none->H tt=none->H kn=none->NowAt H' d gh a b c tt kn tv z 0->Same H H'->Q (.ref d) H'
theorem mO:FnScope ["_law_game_here","_law_number","_law_many","_law_due","_law_s","_law_coins","_law_tossed","_law_now_here"] ["_law_game_here","_law_number","_law_many","_law_due","_law_s","_law_coins"] (ae jL):=⟨rfl,rfl,rfl,by decide +kernel,rfl,by decide +kernel,by decide +kernel⟩
theorem zp {f:Addr} {fd:FuncData} (F:Fun K "_law_now" "_law_now" jL f fd) (B:Bl mg):FnOk P w K mg base CX0 1 f fd ["_law_game_here","_law_number","_law_many","_law_due","_law_s","_law_coins"] BO:=by
 refine F.ok mO (fun vs H Q E h=>?_) (fun cdv A outer s H vs Q E hr h=>?_)
 . obtain⟨gh,a,b,co,tv,z,rfl,_⟩:=h;rfl
 obtain ⟨gh,a,b,co,tv,z,rfl,G,hco,tl,q⟩:=h;have hu:=ld hr;refine⟨_,PSW.out (aC (aV (i:=6) mO.nd rfl (Or.inl rfl) ⟨bh gx rfl B.list fH (af (pv 5) aJ)⟩)
  (aC (eV (PW.pt (jr (ah eE (pv 1) aa (aj _)) (iO (ah eE (aD az rfl B.len PySem.boot_len (af (av aB (pv 0) aa (fun _ _=>rfl)) aJ)) aa (aj _))))) ⟨ad (ak (i:=6) mO.nd rfl (Or.inl rfl) (ag fF (bU (af (pv 4) aJ)) (pv 6)))⟩ cM)
  (ia (t':=tNw) (aC (aV (i:=7) mO.nd rfl (Or.inl rfl) ⟨yT (pv 0) (pv 1) (pv 2) (pv 3) (pv 4) (bh gx rfl B.list fH (af (pv 5) aJ))⟩)
  (aC ⟨kO hu (pv 7) aq (pv 6) rfl⟩
  (aC ⟨kO hu (pv 7) aq kW rfl⟩
  (dF (iK ⟨pv 7⟩))))) (by
   rintro Dn σ H ⟨x7,gh,a,b,co,tt,tv,z,rfl,G,hco,htt,q⟩;refine fun d hd=>?_
   have I1:=zE0 hd (.dK []);refine⟨co,_,rfl,.inl (zG0 (I1 _ _ hco)),fun c hc=>?_⟩;have cd:c≠d:=fun e=>by rw[e,aE]at hc;cases hc
   have c0:H c=none:=I1.free hc;refine⟨by rw[am cd.symm];exact aE,n6 gh c z,rfl,by show 6<=15;decide,?_⟩;rw[zF];have I3:Same H (upd (upd (upd H d (.dK [])) c (.lst (z.to.map V.int))) d (.dK (n6 gh c z))):=fun x o e=>by
    rw[am (aO e hd),am (aO e c0),am (aO e hd)];exact e
   have gc:upd (upd (upd H d (.dK [])) c (.lst (z.to.map V.int))) d (.dK (n6 gh c z)) c=some (.lst (z.to.map V.int)):=by rw[am cd];exact aE
   have gd:upd (upd (upd H d (.dK [])) c (.lst (z.to.map V.int))) d (.dK (n6 gh c z)) d=some (.dK (n6 gh c z)):=aE;generalize upd (upd (upd H d (.dK [])) c (.lst (z.to.map V.int))) d (.dK (n6 gh c z))=H3 at I3 gc gd;refine⟨d,_,rfl,DPut.k (k:=Sum.inr "tossed") gd (by show 6<sizeLine;decide),?_⟩;rw[Dh];have I4:Same H (upd H3 d (.dK (n7 gh c tt z))):=fun x o e=>by
    rw[am (aO e hd)];exact I3 _ _ e
   have gc4:upd H3 d (.dK (n7 gh c tt z)) c=some (.lst (z.to.map V.int)):=by rw[am cd];exact gc
   have gd4:upd H3 d (.dK (n7 gh c tt z)) d=some (.dK (n7 gh c tt z)):=aE;generalize upd H3 d (.dK (n7 gh c tt z))=H4 at I4 gc4 gd4;refine fun kn hkn=>?_
   have kd:kn≠d:=(aO gd4 hkn).symm;have ck:c≠kn:=aO gc4 hkn;have kn0:H kn=none:=I4.free hkn;refine⟨d,_,rfl,DPut.k (k:=Sum.inr "known") (by rw[am kd.symm];exact gd4) (by show 7<sizeLine;decide),?_⟩;rw[Dg];have I6:Same H (upd (upd H4 kn (.dK [])) d (.dK (iE gh c tt kn z))):=fun x o e=>by
    rw[am (aO e hd),am (aO e kn0)];exact I4 _ _ e
   refine(q d c kn _ hd c0 kn0 ⟨aE,G.mono (aX I6),by rw[am cd,am ck];exact gc4,I6 _ _ htt,⟨[],by rw[am kd];exact aE,zJ0 _,fun i v h=>by cases h⟩,kd.symm⟩ I6))))),?_⟩
 have vl:=G.tr.length;refine⟨co,_,rfl,.inl (zG0 hco),fun t0 ht0=>?_⟩;have I1:=zE0 ht0 (.lst (z.to.map V.int));have g1:upd H t0 (.lst (z.to.map V.int)) t0=some (.lst (z.to.map V.int)):=aE;generalize upd H t0 (.lst (z.to.map V.int))=H1 at I1 g1;have G1:=G.mono (aX I1);have fin:∀(tt:Addr)(H2:Hp)(T:List Int),T=gq z->H tt=none->Same H H2->H2 tt=some (.lst (T.map V.int))->tNw { nx:=fun _ H'=>Q .non H',rt:=Q } [some (.ref gh),some (.int z.nr),some (.int z.mn),some (.int z.hd),some (.int z.s),some (.ref co),some (.ref tt),none] H2:=fun tt H2 T eT tt0 S2 h2=>by
  subst eT;exact⟨_,gh,a,b,co,tt,tv,z,rfl,G.mono (aX S2),S2 _ _ hco,h2,fun d c kn H' d0 c0 k0 N S'=>q d c tt kn H' (S2.free d0) (S2.free c0) tt0 (S2.free k0) N (S2.trans S')⟩
 refine ?_
 by_cases c1:0<z.nr
 . refine bn c1 ?_;refine⟨_,_,zD0 G1.hg,rfl,b,_,rfl,.inr (zD0 G1.hb),?_⟩
   by_cases c2:1<z.ts.length
   . refine bn (by rw[vl];omega) ?_;refine⟨(by show 1<=sizeLine;decide),fun u hu=>?_⟩;have I2:=zE0 hu (.lst [.int z.s]);refine⟨u,t0,_,_,rfl,rfl,aE,I2 _ _ g1,cu (by rw[zH0];show 1+z.to.length<=1000;omega),fun tt htt=>?_⟩;have I3:=zE0 htt (.lst ([V.int z.s]++z.to.map V.int));exact fin tt _ (z.s::z.to) (by unfold gq;rw[zI0 ⟨c1,c2⟩];rfl) ((I1.trans I2).free htt) (I1.trans (I2.trans I3)) aE
   . refine aI (by rw[vl];omega) ?_;exact fin t0 _ z.to (by unfold gq;rw[zF0 (fun h=>c2 h.2)];rfl) ht0 I1 g1
 . refine aI c1 ?_;exact fin t0 _ z.to (by unfold gq;rw[zF0 (fun h=>c1 h.1)];rfl) ht0 I1 g1
end
end
section
variable {P:Program} {w:World} {K:W.Frag} {mg:Str->Option Value} {base:Heap}
section
def ya:Sp:=fun vs H Q _=>∃x:Int,vs=[.int x]/\Q (.bl true) H
theorem tS:FnScope ["_law_found"] ["_law_found"] (ae gD):=⟨rfl,rfl,rfl,by decide +kernel,rfl,by decide +kernel,by decide +kernel⟩
theorem uf {f:Addr} {fd:FuncData} (F:Fun K "_law_whole" "_law_whole" gD f fd) (B:Bl mg):FnOk P w K mg base CX0 1 f fd ["_law_found"] ya:=by
 refine F.ok tS (fun vs H Q E h=>?_) (fun cdv A outer s H vs Q E hr h=>?_)
 . obtain⟨x,rfl,_⟩:=h;rfl
 obtain⟨x,rfl,q⟩:=h;refine⟨_,(ad (ao (oh (aD jA rfl B.isinstance PyProof.Rows.boot_isinstance (af (pv 0) (af (qp (v:=V.ty "int") rfl B.int fJ rfl) aJ))) (kj (yQ (aD jA rfl B.isinstance PyProof.Rows.boot_isinstance (af (pv 0) (af (qp (v:=V.ty "bool") rfl B.bool uX rfl) aJ)))))))),?_⟩;refine⟨_,_,"int",true,rfl,TyOf.int _,sx _ _,?_⟩;exact⟨_,_,"bool",false,rfl,TyOf.int _,qD _,q⟩
def vh:Sp:=fun vs H Q _=>∃(a b:Addr)(xs:List Int),vs=[.ref a,.ref b]/\H a=some (.lst (xs.map V.int))/\H b=some (.lst (xs.map V.int))/\∀H',Same H H'->Q (.bl true) H'
theorem qe:FnScope ["_law_found","_law_due"] ["_law_found","_law_due"] (ae dM):=⟨rfl,rfl,rfl,by decide +kernel,rfl,by decide +kernel,by decide +kernel⟩
theorem qw {f:Addr} {fd:FuncData} (F:Fun K "_law_numbers" "_law_numbers" dM f fd) (B:Bl mg) (fL:Cal P w K mg base 1 "_law_whole" ["_law_found"] ya):FnOk P w K mg base CX0 2 f fd ["_law_found","_law_due"] vh:=by
 refine F.ok qe (fun vs H Q E h=>?_) (fun cdv A outer s H vs Q E hr h=>?_)
 . obtain⟨a,b,xs,rfl,_⟩:=h;rfl
 obtain ⟨a,b,xs,rfl,ha,hb,q⟩:=h;refine⟨_,(ac (aH (PW.pt (gs (jt (iP (aD jA rfl B.isinstance PyProof.Rows.boot_isinstance (af (pv 0) (af (qp (v:=V.ty "list") rfl B.list fH rfl) aJ))))) (fw (ah (qt hr.units) (pv 0) (pv 1) (aj _))))) (ad (ao hU)) ax)
  (ad (ao (cp (zk hr.units) (bX (N:=[]) (ix:=[]) (cl:=[]) rfl (CompScope.closed (by with_unfolding_all rfl) (by decide) rfl (by decide) rfl (by with_unfolding_all rfl)) rfl (bV (pv 0)) (fun _ _ _=>yY (jt (iP (ai fL hr (by decide) rfl (af (pv 0) aJ)))) (pv 0))) (bU aJ) (aj _))))),?_⟩
 refine⟨_,_,"list",true,rfl,TyOf.lst ha,sx _ _,?_⟩;refine⟨_,_,.lst (zG0 ha) (cG _),.lst (zG0 hb) (cG _),bZ _,bZ _,?_⟩;rw[lR,decide_eq_true rfl];refine bF (gu ?_);refine⟨a,rfl,⟨_,zG0 ha⟩,fun D hD=>?_⟩;refine cL (K:=K) (xs:=xs.map V.int) (fun i H'=>H' D=some (.lst [])/\Same H H') ⟨aE,zE0 hD _⟩ (fun i H' _ h=>zG0 (h.2 _ _ ha)) ?_ ?_
 . rintro i y H1 hy ⟨hD1,S1⟩;have hi:=(zT0 hy).1;rw[zV0]at hy;obtain⟨x,hx,rfl⟩:=qM0 hy;exact⟨x,rfl,bT (gu (Nx.of hi ⟨hD1,S1⟩))⟩
 . rintro H1 ⟨hD1,S1⟩;refine⟨(by show 0<=sizeLine;decide),fun e he=>?_⟩;have I2:=zE0 he (.lst []);refine⟨_,_,.lst (zG0 (I2 _ _ hD1)) (cG []),.lst (zG0 aE) (cG []),bZ [],bZ [],?_⟩;rw[lR,decide_eq_true rfl];exact q _ (S1.trans I2)
end
section
variable {CM CA CG:Addr}
abbrev Tl:=Addr×Addr×Addr×List Int
def TlAt(H:Hp)(T:Addr)(x:Tl):Prop:=H x.1=some (.tup [.ref x.2.1,.ref x.2.2.1])/\H x.2.1=some (.lst (x.2.2.2.map V.int))/\H x.2.2.1=some (.lst (x.2.2.2.map V.int))/\x.2.1≠T/\x.2.2.1≠T
def tlV(tl:List Tl):List V:=tl.map fun x=>.ref x.1
def Ap(M b bb kn T:Addr)(H H':Hp):Prop:=∀a o,a≠M->a≠b->a≠bb->a≠kn->a≠T->H a=some o->H' a=some o
def BS(CM CG:Addr):Sp:=fun vs H Q _=>∃(M g h b dm d gh a0 b0 c tt kn bb N T:Addr)(tv:List V)(z:Ak)(rows:List Hr)(bx:Str->Int)(m:Nat)(xs:List Str)(tl:List Tl),
 vs=[.ref M,.ref h,.ref d,.ref bb,.ref N,.ref T]/\H M=some (.ins CM dm (ml g h z.nr b))/\HlpAt H h rows/\BxAt H b bx m/\BxAt H bb bx m/\m<=4000/\Gm CG H g z.ns z.ts z.p/\NowAt H d gh a0 b0 c tt kn tv z 0/\(b≠d/\b≠kn/\bb≠kn/\d≠bb/\b≠bb)/\ie z.p bx/\AkOk z/\z.ns.Nodup/\(z.nr=0->z.s=0/\z.to=[])/\0<=z.mn/\z.mn<=500/\H N=some (.lst (xs.map V.str))/\H T=some (.lst (tlV tl))/\(N≠T/\c≠T)/\tl.length<=500/\
 ∀(x:Tl)(H':Hp),TlAt H' T x->(∀e ys,H e=some (.lst ys)->x.2.1≠e/\x.2.2.1≠e)->H' T=some (.lst (tlV (tl++[x])))->BxAt H' b (fQ z rows 200 ⟨0,bx,[]⟩).bx (m+200)->BxAt H' bb (fQ z rows 200 ⟨0,bx,[]⟩).bx (m+200)->H' M=some (.ins CM dm (ml g h (z.nr+1) b))->Ap M b bb kn T H H'->Q (.bl true) H'
def tAskE(CM:Addr):TS:=fun Dn σ H=>∃(x1 x2 x5 x6 x7 x8 x9:Option V)(M g h b dm bb N:Addr)(r:Int)(bx:Str->Int)(m m':Nat)(xs:List Str),σ=[some (.ref M),x1,x2,some (.ref bb),some (.ref N),x5,x6,x7,x8,x9]/\H M=some (.ins CM dm (ml g h r b))/\BxAt H b bx m/\BxAt H bb bx m'/\H N=some (.lst (xs.map V.str))/\Dn.rt (.bl true) H
theorem gl:FnScope ["_law_machine","_law_helper_here","_law_now_here","_law_boxes","_law_names_here","_law_told","_law_coins","_law_found","_law_due","_law_name"] ["_law_machine","_law_helper_here","_law_now_here","_law_boxes","_law_names_here","_law_told"] (ae gH):=⟨rfl,rfl,rfl,by decide +kernel,rfl,by decide +kernel,by decide +kernel⟩
theorem uo {f fS fB:Addr} {fd fdS fdB:FuncData} (F:Fun K "_law_asked" "_law_asked" gH f fd) (B:Bl mg) (TM:MTxt K mg CM) (mS:Meth K CM "say" fS) (GS:FnOk P w K mg base CX0 28 fS fdS ["self","many","due","s","coins"] (BN CM CG)) (bS:Binds K fdS ["self","many","due","s","coins"] []) (mB:Meth K CM "box" fB) (GB:FnOk P w K mg base CX0 1 fB fdB ["self","x"] (yr CM)) (bB:Binds K fdB ["self","x"] [])
 (u7:Cal P w K mg base 25 "_law_said" ["_law_helper_here","_law_now_here","_law_boxes"] vf) (j4:Cal P w K mg base 2 "_law_numbers" ["_law_found","_law_due"] vh) (fL:Cal P w K mg base 1 "_law_whole" ["_law_found"] ya):FnOk P w K mg base CX0 29 f fd ["_law_machine","_law_helper_here","_law_now_here","_law_boxes","_law_names_here","_law_told"] (BS CM CG):=by
 refine F.ok gl (fun vs H Q E h=>?_) (fun cdv A outer s H vs Q E hr h=>?_)
 . obtain⟨M,g,h,b,dm,d,gh,a0,b0,c,tt,kn,bb,N,T,tv,z,rows,bx,m,xs,tl,rfl,_⟩:=h;rfl
 obtain⟨M,g,h,b,dm,d,gh,a0,b0,c,tt,kn,bb,N,T,tv,z,rows,bx,m,xs,tl,rfl,hM,HL,BX,BB,m4,GG,NW,⟨nbd,nbk,nbbk,ndb,nbb⟩,bo,k,nd,h0,mn0,mn5,hN,hT,⟨nNT,ncT⟩,tl5,q⟩:=h;have hu:=ld hr;have hr28:Room 28 _:=hr.mono (by decide);have hr1:Room 1 _:=hr.mono (by decide);have gg:∀{H':Hp}{x:Str}{v:V},H' d=some (.dK (iE gh c tt kn z))->bN (iE gh c tt kn z) (Sum.inr x)=some v->DGet H' d (.str x) (some v):=fun h e=>by rw[←e];exact DGet.k (k:=Sum.inr _) h
 refine ⟨_,PSW.out (aC (aV (i:=6) gl.nd rfl (Or.inl rfl) ⟨bh gx rfl B.list fH (af (bz hu (pv 2) aq (fun _ _=>rfl)) aJ)⟩)
  (aC (aV (i:=7) gl.nd rfl (Or.inl rfl) ⟨eD (pv 0) TM.cl mS GS hr28 bS .nil fU (af (bz hu (pv 2) aq (fun _ _=>rfl)) (af (bz hu (pv 2) aq (fun _ _=>rfl)) (af (bz hu (pv 2) aq (fun _ _=>rfl)) (af (pv 6) aJ))))⟩)
  (aC (aV (i:=8) gl.nd rfl (Or.inl rfl) ⟨ai u7 hr (by decide) rfl (af (pv 1) (af (pv 2) (af (pv 3) aJ)))⟩)
  (aC (eV (PW.pt (gs (ah (qt hr.units) (pv 6) (bz hu (pv 2) aq (fun _ _=>rfl)) (aj _)) (fw (jt (iP (ai j4 hr (by decide) rfl (af (pv 7) (af (pv 8) aJ)))))))) ⟨ad (ao hU)⟩ cM)
  (aC ⟨bG (dU PySem.F.plainAttrs_list PySem.F.slot_list_append PySem.F.type_list_append bi (pv 6) (af aa aJ))⟩
  (aC ⟨bG (dU PySem.F.plainAttrs_list PySem.F.slot_list_append PySem.F.type_list_append bi (pv 7) (af aa aJ))⟩
  (aC ⟨bG (dU PySem.F.plainAttrs_list PySem.F.slot_list_append PySem.F.type_list_append bi (pv 5) (af (bd (af (pv 7) (af (bh gx rfl B.list fH (af (pv 7) aJ)) aJ))) aJ))⟩
  (ia (t':=tAskE CM) (aC ⟨bY PassesOwn.never rfl (bV (pv 4)) (ba (i:=9) gl.nd rfl (Or.inl rfl)) (ad (aH (PW.pt (gs (jt (iP (ai fL hr (by decide) rfl (af (eD (pv 0) TM.cl mB GB hr1 bB .nil fU (af (pv 9) aJ)) aJ)))) (fw (ah rN (eD (pv 0) TM.cl mB GB hr1 bB .nil fU (af (pv 9) aJ)) (kX hu (pv 3) (pv 9) aa ⟨rfl,rfl,rfl,rfl⟩) (aj _))))) (ad (ao hU)) ax))⟩
  (dF (iK ⟨hU⟩))) (by
   rintro Dn σ H ⟨x1,x2,x5,x6,x7,x8,x9,M,g,h,b,dm,bb,N,r,bx,m,m',xs,rfl,hM,BX,BB,hN,q⟩;refine⟨N,rfl,⟨_,zG0 hN⟩,iF (K:=K) (xs:=xs.map V.str) (fun i σ H'=>∃(y:Option V),σ=[some (.ref M),x1,x2,some (.ref bb),some (.ref N),x5,x6,x7,x8,y]/\H'=H) ⟨_,rfl,rfl⟩ (fun i σ H' _ hst=>by obtain⟨_,_,e⟩:=hst;rw[e];exact zG0 hN) ?_ ?_⟩
   . rintro i y σ H' hy ⟨y9,rfl,rfl⟩;rw[zV0]at hy;obtain⟨x,hx,rfl⟩:=qM0 hy;obtain⟨kvs,hb,_,hk⟩:=id BB;refine⟨M,dm,_,rfl,hM,vI,M,g,h,b,dm,_,x,bx,_,rfl,hM,BX,_,rfl,?_⟩;refine⟨M,dm,_,rfl,hM,vI,M,g,h,b,dm,_,x,bx,_,rfl,hM,BX,?_⟩;refine⟨bb,rfl,.inl ⟨kvs,.inl hb⟩,_,DGet.k (k:=.inr x) hb,?_⟩;rw[hk];exact⟨rfl,Cg rfl ⟨_,rfl,rfl⟩⟩
   . rintro σ H' ⟨y9,rfl,rfl⟩;exact q))))))))),?_⟩
 obtain⟨R,hR⟩:∃R,R=fQ z rows 200 ⟨0,bx,[]⟩:=⟨_,rfl⟩
 refine⟨d,_,rfl,gg NW.hd Dc,c,_,rfl,.inl (zG0 NW.hc),fun co hco=>?_⟩;have I1:=zE0 hco (.lst (z.to.map V.int));have g1:upd H co (.lst (z.to.map V.int)) co=some (.lst (z.to.map V.int)):=aE;show mG _ _ _ _ (upd H co (.lst (z.to.map V.int)));generalize upd H co (.lst (z.to.map V.int))=H1 at I1 g1;have NW1:=NW.up I1 (zJ0 0);obtain⟨⟨rv,hh,RW⟩,rg⟩:=id (HL.mono (aX I1));have BX1:=BX.keep fun o e=>I1 _ _ e
 have BB1:=BB.keep fun o e=>I1 _ _ e
 have hM1:=I1 _ _ hM;refine⟨M,dm,_,rfl,hM1,ml_n2,d,_,rfl,gg NW1.hd Bm,d,_,rfl,gg NW1.hd nw_d,d,_,rfl,gg NW1.hd nw_s,?_⟩;refine⟨M,g,h,b,dm,co,rv,z,rows,bx,m,rfl,hM1,hh,RW,rg,BX1,bo,by omega,GG.kp (Kp.of I1),k,.inl g1,mn0,mn5,fun l H2 l0 hl BX2 hM2 S2=>?_⟩;rw[←hR]at hl BX2 q;have kp2:=S2.kp hM1 BX1;have noM:∀{x:Addr}{kvs:List (Key×V)},H1 x=some (.dK kvs)->x≠M:=fun e z=>by rw[z,hM1]at e;cases e
 obtain⟨kb1,eb1,_⟩:=id BB1;obtain⟨kk1,ek1,kl1,kr1⟩:=id NW1.hk;have kT2:=kp2.T;have NW2:NowAt H2 d gh a0 b0 c tt kn tv z 0:=⟨S2 _ _ (noM NW1.hd) nbd.symm NW1.hd,NW1.gt.mono kT2,kp2 _ (.lst _) trivial NW1.hc,kp2 _ (.lst _) trivial NW1.ht,⟨kk1,S2 _ _ (noM ek1) nbk.symm ek1,kl1,kr1⟩,NW1.dk⟩
 have BB2:=BB1.keep fun o e=>S2 _ _ (noM eb1) nbb.symm e
 have HL2:=(HL.mono (aX I1)).mono kT2;have hc2:=kp2 _ (.lst _) trivial g1;have hT2:=kp2 _ (.lst _) trivial (I1 _ _ hT);have hN2:=kp2 _ (.lst _) trivial (I1 _ _ hN);refine⟨h,bb,d,gh,a0,b0,c,tt,kn,tv,z,rows,bx,0,m,rfl,HL2,NW2,BB2,nbbk,ndb,bo,nd,k,h0,mn0,mn5,by omega,by omega,fun l2 H3 l20 hl2 BB3 NW3 S3=>?_⟩;rw[←hR]at hl2 BB3;obtain⟨kb2,eb2,_⟩:=id BB2;obtain⟨kk2,ek2,_⟩:=id NW2.hk;have L3:∀{x:Addr}{ys:List V},H2 x=some (.lst ys)->H3 x=some (.lst ys):=fun e=>S3 _ _ (be e eb2 (by intro z;cases z)) (be e ek2 (by intro z;cases z)) e
 have hc3:=L3 hc2;have hl3:=L3 hl;have hT3:=L3 hT2;have hN3:=L3 hN2;have hM3:=S3 _ _ (be hM2 eb2 (by intro z;cases z)) (be hM2 ek2 (by intro z;cases z)) hM2;obtain⟨kx2,ex2,_⟩:=id BX2;have BX3:=BX2.keep fun o e=>S3 _ _ nbb nbk e
 refine⟨d,_,rfl,gg NW3.hd Dc,_,_,.lst (zG0 hc3) (cG _),.lst (zG0 NW3.hc) (cG _),bZ _,bZ _,?_⟩;rw[lR,decide_eq_true rfl];refine bF (gu ?_);refine⟨l,l2,_,rfl,hl3,hl2,fun H4 S4=>(?_)⟩;have lco:l≠co:=fun e=>by rw[e,g1]at l0;cases l0
 have Tco:T≠co:=aO hT hco;have Tl_:T≠l:=fun e=>by rw[←e,I1 _ _ hT]at l0;cases l0
 have Nco:N≠co:=aO hN hco;have Nl:N≠l:=fun e=>by rw[←e,I1 _ _ hN]at l0;cases l0
 have lq:(oU z.mn R.sd).length<=900:=by
  have:=(mU (rows:=rows) k 200 ⟨0,bx,[]⟩ bo (fun x hx=>by cases hx) (by show(0:Int)<=z.mn;omega)).2.2
  rw[←hR]at this;unfold oU;rw[zO0,List.length_replicate];omega
 generalize oU z.mn R.sd=os at hl3 lq;refine⟨.inl ⟨rfl,_,zG0 (S4 _ _ hc3)⟩,co,_,_,rfl,rfl,S4 _ _ hc3,aG (by rw[zH0];have:=k.tl;omega),?_⟩;have hl5:upd H4 co (.lst (z.to.map V.int++[.int 1])) l=some (.lst (os.map V.int)):=by rw[am lco];exact S4 _ _ hl3
 have S5:∀{x:Addr}{o:HO},x≠co->H3 x=some o->upd H4 co (.lst (z.to.map V.int++[.int 1])) x=some o:=fun n e=>by rw[am n];exact S4 _ _ e
 show mG _ _ _ _ (upd H4 co (.lst (z.to.map V.int++[.int 1])));generalize upd H4 co (.lst (z.to.map V.int++[.int 1]))=H5 at hl5 S5;refine⟨.inl ⟨rfl,_,zG0 hl5⟩,l,_,_,rfl,rfl,hl5,aG (by rw[zH0];omega),?_⟩;have hl6:upd H5 l (.lst (os.map V.int++[.int 7])) l=some (.lst ((os++[7]).map V.int)):=by rw[aE,zM0];rfl
 have S6:∀{x:Addr}{o:HO},x≠co->x≠l->H3 x=some o->upd H5 l (.lst (os.map V.int++[.int 7])) x=some o:=fun n n2 e=>by rw[am n2];exact S5 n e
 show mG _ _ _ _ (upd H5 l (.lst (os.map V.int++[.int 7])));generalize upd H5 l (.lst (os.map V.int++[.int 7]))=H6 at hl6 S6;have hT6:=S6 Tco Tl_ hT3;refine⟨.inl ⟨rfl,_,zG0 hT6⟩,l,_,rfl,.inl (zG0 hl6),fun l3 hl30=>⟨(by show 2<=sizeLine;decide),fun u hu=>?_⟩⟩;have I7:=zE0 hl30 (.lst ((os++[7]).map V.int));have I8:=zE0 hu (.tup [.ref l,.ref l3]);have J8:=I7.trans I8;have g7:upd (upd H6 l3 (.lst ((os++[7]).map V.int))) u (.tup [.ref l,.ref l3]) l3=some (.lst ((os++[7]).map V.int)):=I8 _ _ aE;have g8:upd (upd H6 l3 (.lst ((os++[7]).map V.int))) u (.tup [.ref l,.ref l3]) u=some (.tup [.ref l,.ref l3]):=aE;have T3:T≠l3:=aO hT6 hl30;have nwx:∀e ys,H e=some (.lst ys)->l≠e/\l3≠e:=fun e ys he=>by
  have n1:e≠co:=aO he hco;have n2:e≠l:=fun z=>by rw[z]at he;rw[I1 _ _ he]at l0;cases l0
  exact⟨n2.symm,(aO (S6 n1 n2 (L3 (kp2 _ (.lst _) trivial (I1 _ _ he)))) hl30).symm⟩
 generalize upd (upd H6 l3 (.lst ((os++[7]).map V.int))) u (.tup [.ref l,.ref l3])=H8 at J8 g7 g8;have hT8:=J8 _ _ hT6;have uT:u≠T:=be g8 hT8 (by intro z;cases z);refine⟨T,_,_,rfl,rfl,hT8,aG (by unfold tlV;rw[zH0];omega),?_⟩;have S9:∀{x:Addr}{o:HO},x≠co->x≠l->x≠T->H3 x=some o->upd H8 T (.lst (tlV tl++[.ref u])) x=some o:=fun n1 n2 n3 e=>by rw[am n3];exact J8 _ _ (S6 n1 n2 e)
 have F9:∀{x:Addr}{o:HO},(∀ys,o≠.lst ys)->H3 x=some o->upd H8 T (.lst (tlV tl++[.ref u])) x=some o:=fun n e=>S9 (be e hc3 (n _)) (be e hl3 (n _)) (be e hT3 (n _)) e
 have tA:TlAt (upd H8 T (.lst (tlV tl++[.ref u]))) T (u,l,l3,os++[7]):=⟨by rw[am uT];exact g8,by rw[am Tl_.symm];exact J8 _ _ hl6,by rw[am T3.symm];exact g7,Tl_.symm,T3.symm⟩
 have hT9:upd H8 T (.lst (tlV tl++[.ref u])) T=some (.lst (tlV (tl++[(u,l,l3,os++[7])]))):=by rw[aE];unfold tlV;rw[zM0];rfl
 have hM9:=F9 (by intro ys z;cases z) hM3;have BX9:=BX3.keep fun o e=>F9 (by
  obtain⟨kv,ek,_⟩:=BX3;rw[ek]at e;cases e;intro ys z;cases z) e
 have BB9:=BB3.keep fun o e=>F9 (by
  obtain⟨kv,ek,_⟩:=BB3;rw[ek]at e;cases e;intro ys z;cases z) e
 have hN9:=S9 Nco Nl nNT hN3;refine⟨_,_,_,_,_,_,_,M,g,h,b,dm,bb,N,_,R.bx,_,_,xs,rfl,hM9,BX9,BB9,hN9,?_⟩;refine q (u,l,l3,os++[7]) _ tA nwx hT9 BX9 BB9 hM9 (fun a o n1 n2 n3 n4 n5 e=>?_);exact S9 (aO e hco) (fun z=>by rw[z]at e;rw[I1 _ _ e]at l0;cases l0) n5 (S3 _ _ n3 n4 (S2 _ _ n1 n2 (I1 _ _ e)))
end
end
section
variable {P:Program} {w:World} {K:W.Frag} {mg:Str->Option Value} {base:Heap}
section
def kh(n:Nat):Sp:=fun vs H Q _=>∃(f b:Addr)(bs:List Str)(room deep:Int),vs=[.ref f,.ref b,.int room,.int deep]/\FeedAt H f/\H b=some (.lst (bs.map V.str))/\b≠f/\1<=bs.length/\bs.length<=100/\1<=room/\room<=100/\1<=deep/\deep<=(n:Int)/\
 ∀(v:V)(t:Tm)(H':Hp),TmAt H' v t->t.good->(t.depth:Int)<=deep->FeedAt H' f->SameBut f H H'->Q v H'
theorem ib:FnScope ["_law_feed_here","_law_boxes","_law_room","_law_deep","_law_form","_law_plain","_law_more","_law_one"] ["_law_feed_here","_law_boxes","_law_room","_law_deep"] (ae gQ):=⟨rfl,rfl,rfl,by decide +kernel,rfl,by decide +kernel,by decide +kernel⟩
theorem AJ:∀c∈(("+-*/=<":Str)).cps.toList,(⟨#[c]⟩:Str)∈ka:=by decide +kernel
theorem yy:(("+-*/=<":Str)).cps.toList.length=6:=by decide +kernel
theorem at1(x y:V)(xs:List V):atI (x::y::xs) 1=some y:=cq (j:=1) rfl
def tLeaf:TS:=fun Dn σ H=>∃(x2 x3 x5 x6 x7:Option V)(f b:Addr)(bs:List Str)(fm:Int),σ=[some (.ref f),some (.ref b),x2,x3,some (.int fm),x5,x6,x7]/\FeedAt H f/\H b=some (.lst (bs.map V.str))/\b≠f/\1<=bs.length/\bs.length<=100/\∀(v:V)(t:Tm)(H':Hp),TmAt H' v t->t.good->t.depth=1->FeedAt H' f->SameBut f H H'->Dn.rt v H'
def tAskT(n:Nat):TS:=fun Dn σ H=>∃(x4 x5 x6 x7:Option V)(f b:Addr)(bs:List Str)(room deep:Int),σ=[some (.ref f),some (.ref b),some (.int room),some (.int deep),x4,x5,x6,x7]/\FeedAt H f/\H b=some (.lst (bs.map V.str))/\b≠f/\1<=bs.length/\bs.length<=100/\2<=room/\room<=100/\2<=deep/\deep<=(n:Int)+1/\∀(v:V)(t:Tm)(H':Hp),TmAt H' v t->t.good->(t.depth:Int)<=deep->FeedAt H' f->SameBut f H H'->Dn.rt v H'
theorem CO{X:Cx}{c:Expr}{a b:List Stmt}{tc:TT}{t u:TS}{pos:Pos}(hc:PT X c tc)(ha:PSW X a t)(hb:PSs X b u):PS X (.If c a b pos) (Cv tc t u):=aH hc ha.out hb
theorem zN{X:Cx}{i:Nat}{x:Str}{pos' pos p:Pos}{e1 e2 e3 e4 e5:Expr}{t1 t2 t3 t4 t5:TE}{rest:List Stmt}{u t':TS}(hN:X.N.Nodup)(hi:X.N[i]?=some x)(hx:Loc X.env.scope x)(h1:PE X e1 t1)(h2:PE X e2 t2)(h3:PE X e3 t3)(h4:PE X e4 t4)(h5:PE X e5 t5)(hr:PSs X rest u)
 (hw:∀D σ H,t' D σ H->mG (xW (Ct (kz t1 (kz t2 (kz t3 (kz t4 (kz t5 tH)))))) (oG i)) u D σ H)
 (s1:starEach [e1,e2,e3,e4,e5] X.env=(false,eval e1 X.env)::starEach [e2,e3,e4,e5] X.env:=by rfl) (s2:starEach [e2,e3,e4,e5] X.env=(false,eval e2 X.env)::starEach [e3,e4,e5] X.env:=by rfl) (s3:starEach [e3,e4,e5] X.env=(false,eval e3 X.env)::starEach [e4,e5] X.env:=by rfl) (s4:starEach [e4,e5] X.env=(false,eval e4 X.env)::starEach [e5] X.env:=by rfl) (s5:starEach [e5] X.env=(false,eval e5 X.env)::starEach [] X.env:=by rfl)
 (hf:X.fn x=true∨X.env.scope.names.lookup x=some .local:=by first | exact .inl rfl | exact .inr rfl):PSW X (.Assign [.Name x pos'] (.List [e1,e2,e3,e4,e5] p) pos::rest) t':=
 ⟨kN (ac (ak hN hi hx (bU (af h1 (af h2 (af h3 (af h4 (af h5 aJ s5) s4) s3) s2) s1)) rfl hf) hr) hw⟩
theorem Az {n:Nat} {fA:Addr} {fd:FuncData} (F:Fun K "_law_term" "_law_term" gQ fA fd) (B:Bl mg) (aU:Cal P w K mg base 1 "_law_take" ["_law_feed_here","_law_many"] fZ) (ci:Cal P w K mg base (n+2) "_law_term" ["_law_feed_here","_law_boxes","_law_room","_law_deep"] (kh n)):FnOk P w K mg base CX0 (n+3) fA fd ["_law_feed_here","_law_boxes","_law_room","_law_deep"] (kh (n+1)):=by
 refine F.ok ib (fun vs H Q E h=>?_) (fun cdv A outer s H vs Q E hr h=>?_)
 . obtain⟨f,b,bs,room,deep,rfl,_⟩:=h;rfl
 obtain⟨f,b,bs,room,deep,rfl,F0,hb,nb,b1,b2,r1,r2,d1,d2,q⟩:=h;have hp12:(10:Int) ^ (12:Int).toNat=1000000000000:=by decide
 refine ⟨_,(ac (ak (i:=4) ib.nd rfl (Or.inl rfl) (ai aU hr (by omega) rfl (af (pv 0) (af aa aJ))))
  (ac (CO (PW.pt (gs (ah cU (pv 2) aa (aj _)) (gs (ah cU (pv 3) aa (aj _)) (fw (ah cU (pv 4) aa (aj _)))))) (zN (t':=tLeaf) (i:=5) ib.nd rfl (Or.inl rfl) (bd (af aq aJ)) (bd (af aq aJ)) (bd (af aq aJ)) (bd (af aq (af (ai aU hr (by omega) rfl (af (pv 0) (af aa aJ))) aJ))) (bd (af aq (af (ai aU hr (by omega) rfl (af (pv 0) (af (ag zc aa aa) aJ))) aJ)))
   (ac (aH (ah aM (pv 4) aa (aj _)) (ad (ao (bd (af aq (af (av ix_list (pv 1) (ai aU hr (by omega) rfl (af (pv 0) (af (aD (x:="len") az rfl B.len PySem.boot_len (af (pv 1) aJ)) aJ))) (fun _ _=>rfl)) aJ))))) ax)
   (ad (ao (av ix_list (pv 5) (ai aU hr (by omega) rfl (af (pv 0) (af aa aJ))) (fun _ _=>rfl))))) (by
    rintro Dn σ H ⟨x2,x3,x5,x6,x7,f,b,bs,fm,rfl,F0,hb,nb,b1,b2,q⟩;refine⟨(by show 1<=sizeLine;decide),fun p1 hp1=>⟨(by show 1<=sizeLine;decide),fun p2 hp2=>⟨(by show 1<=sizeLine;decide),fun p3 hp3=>?_⟩⟩⟩;have g1:=zE0 hp1 (.tup [.str "round"]);have g2:=zE0 hp2 (.tup [.str "due"]);have g3:=zE0 hp3 (.tup [.str "asked"]);have e1:upd (upd (upd H p1 (.tup [.str "round"])) p2 (.tup [.str "due"])) p3 (.tup [.str "asked"]) p1=some (.tup [.str "round"]):=g3 _ _ (g2 _ _ aE);have e2:upd (upd (upd H p1 (.tup [.str "round"])) p2 (.tup [.str "due"])) p3 (.tup [.str "asked"]) p2=some (.tup [.str "due"]):=g3 _ _ aE;have e3:upd (upd (upd H p1 (.tup [.str "round"])) p2 (.tup [.str "due"])) p3 (.tup [.str "asked"]) p3=some (.tup [.str "asked"]):=aE;have S3:=g1.trans (g2.trans g3);generalize upd (upd (upd H p1 (.tup [.str "round"])) p2 (.tup [.str "due"])) p3 (.tup [.str "asked"])=H3 at e1 e2 e3 S3;refine⟨f,5,rfl,F0.same S3,by decide,by decide,fun w1 H4 _ _ F4 B4=>⟨(by show 2<=sizeLine;decide),fun p4 hp4=>?_⟩⟩;have k4:=bD (F0.same S3) B4;have g4:=zE0 hp4 (.tup [.str "num",.int w1]);have e4:upd H4 p4 (.tup [.str "num",.int w1]) p4=some (.tup [.str "num",.int w1]):=aE;generalize upd H4 p4 (.tup [.str "num",.int w1])=H5 at g4 e4;refine⟨⟨by decide,by decide,by decide⟩,f,_,rfl,F4.same g4,(by show(0:Int)<10 ^ (12:Int).toNat;rw[hp12];decide),(by show(10:Int) ^ (12:Int).toNat<2 ^ 63;rw[hp12];decide),fun w2 H6 _ _ F6 B6=>⟨(by show 2<=sizeLine;decide),fun p5 hp5=>⟨(by show 5<=sizeLine;decide),fun L hL=>?_⟩⟩⟩;have k6:=bD (F4.same g4) B6;have g5:=zE0 hp5 (.tup [.str "num",.int w2]);have g6:=zE0 hL (.lst [.ref p1,.ref p2,.ref p3,.ref p4,.ref p5]);have e5:upd (upd H6 p5 (.tup [.str "num",.int w2])) L (.lst [.ref p1,.ref p2,.ref p3,.ref p4,.ref p5]) p5=some (.tup [.str "num",.int w2]):=g6 _ _ aE;have eL:upd (upd H6 p5 (.tup [.str "num",.int w2])) L (.lst [.ref p1,.ref p2,.ref p3,.ref p4,.ref p5]) L=some (.lst [.ref p1,.ref p2,.ref p3,.ref p4,.ref p5]):=aE;have F7:=F6.same (g5.trans g6);have S7:SameBut f H (upd (upd H6 p5 (.tup [.str "num",.int w2])) L (.lst [.ref p1,.ref p2,.ref p3,.ref p4,.ref p5])):=(zL0 S3).trans (B4.trans ((zL0 g4).trans (B6.trans (zL0 (g5.trans g6)))));have Lf:L≠f:=(F6.same g5).ne hL;have J:bu H5 (upd (upd H6 p5 (.tup [.str "num",.int w2])) L (.lst [.ref p1,.ref p2,.ref p3,.ref p4,.ref p5])):=fun a xs e=>(g5.trans g6) _ _ (k6 _ _ e)
    have J3:bu H3 (upd (upd H6 p5 (.tup [.str "num",.int w2])) L (.lst [.ref p1,.ref p2,.ref p3,.ref p4,.ref p5])):=fun a xs e=>J _ _ (g4 _ _ (k4 _ _ e))
    have e1':=J3 _ _ e1;have e2':=J3 _ _ e2;have e3':=J3 _ _ e3;have e4':=J _ _ e4;generalize upd (upd H6 p5 (.tup [.str "num",.int w2])) L (.lst [.ref p1,.ref p2,.ref p3,.ref p4,.ref p5])=H7 at e1' e2' e3' e4' e5 eL F7 S7;have hb7:=S7 _ _ nb hb;clear J J3 e1 e2 e3 e4 k4 k6;refine⟨rfl,?_⟩
    by_cases c:fm=3
    . refine bn (congrArg V.int c) ?_;have bl:(bs.map V.str).length=bs.length:=zH0 _;refine⟨b,_,rfl,.inl (zG0 hb7),f,_,rfl,F7,by omega,by omega,fun d H8 d0 d1 F8 B8=>?_⟩;obtain⟨v,hv,vm⟩:=jB (l:=bs.map V.str) (i:=d) d0 d1;obtain⟨x,hx,rfl⟩:=List.mem_map.mp vm;refine⟨_,_,zG0 (B8 _ _ nb hb7),hv,(by show 2<=sizeLine;decide),fun p8 hp8=>?_⟩;have g8:=zE0 hp8 (.tup [.str "box",.str x]);exact q _ (.box x) _ (.box aE) trivial rfl (F8.same g8) (S7.trans (B8.trans (zL0 g8)))
    . refine aI (fun z=>c (V.int.inj z)) ?_;refine⟨f,5,rfl,F7,by decide,by decide,fun d H8 d0 d1 F8 B8=>?_⟩;have k8:=bD F7 B8;have hL8:=B8 _ _ Lf eL;have S8:=S7.trans B8
      have:d=0∨d=1∨d=2∨d=3∨d=4:=by omega
      rcases this with rfl | rfl | rfl | rfl | rfl
      . exact⟨_,.ref p1,zG0 hL8,rfl,q _ (.plain "round") _ (.plain (k8 _ _ e1')) (show("round":Str)∈iR by decide +kernel) rfl F8 S8⟩
      . exact⟨_,.ref p2,zG0 hL8,rfl,q _ (.plain "due") _ (.plain (k8 _ _ e2')) (show("due":Str)∈iR by decide +kernel) rfl F8 S8⟩
      . exact⟨_,.ref p3,zG0 hL8,rfl,q _ (.plain "asked") _ (.plain (k8 _ _ e3')) (show("asked":Str)∈iR by decide +kernel) rfl F8 S8⟩
      . exact⟨_,.ref p4,zG0 hL8,rfl,q _ (.num w1) _ (.num (k8 _ _ e4')) trivial rfl F8 S8⟩
      . exact⟨_,.ref p5,zG0 hL8,rfl,q _ (.num w2) _ (.num (k8 _ _ e5)) trivial rfl F8 S8⟩)) ax)
  (ac (aH (PW.pt (gs (ah cU (pv 4) aa (aj _)) (fw (ah cU (pv 2) aa (aj _))))) (kN (t':=tAskT n) (ad (ao (bd (af (av ix_list (bU (af aq (af aq aJ))) (ai aU hr (by omega) rfl (af (pv 0) (af aa aJ))) (fun _ _=>rfl)) (af (ai ci hr (zJ0 _) rfl (af (pv 0) (af (pv 1) (af (ag aQ (pv 2) aa) (af (ag aQ (pv 3) aa) aJ))))) aJ))))) (by
   rintro Dn σ H ⟨x4,x5,x6,x7,f,b,bs,room,deep,rfl,F0,hb,nb,b1,b2,r1,r2,d1,d2,q⟩;refine⟨(by show 2<=sizeLine;decide),fun L hL=>?_⟩;have gL:=zE0 hL (.lst [.str "coin",.str "true"]);have eL:upd H L (.lst [.str "coin",.str "true"]) L=some (.lst [.str "coin",.str "true"]):=aE;have Lf:L≠f:=F0.ne hL;generalize upd H L (.lst [.str "coin",.str "true"])=H1 at gL eL;refine⟨f,2,rfl,F0.same gL,by decide,by decide,fun d H2 d0 d1' F2 B2=>?_⟩;have aw:∃aw:Str,aw∈BD/\atI [V.str "coin",.str "true"] d=some (.str aw):=by
    have:d=0∨d=1:=by omega
    rcases this with rfl | rfl
    . exact⟨"coin",by decide +kernel,at0 ..⟩
    . exact⟨"true",by decide +kernel,at1 ..⟩
   obtain⟨aw,awm,haw⟩:=aw;refine⟨_,_,zG0 (B2 _ _ Lf eL),haw,?_⟩;have hb2:=B2 _ _ nb (gL _ _ hb);refine⟨f,b,bs,room-1,deep-1,rfl,F2,hb2,nb,b1,b2,by omega,by omega,by omega,by omega,fun v t H3 T3 ok3 dp3 F3 B3=>?_⟩;refine⟨(by show 2<=sizeLine;decide),fun p hp=>?_⟩;have gp:=zE0 hp (.tup [.str aw,v]);have ed:((Tm.ask aw t).depth:Int)=(t.depth:Int)+1:=by show((t.depth+1:Nat):Int)=_;omega
   exact q _ (.ask aw t) _ (.ask aE (T3.mono (aX gp))) ⟨awm,ok3⟩ (by omega) (F3.same gp) ((zL0 gL).trans (B2.trans (B3.trans (zL0 gp)))))) ax)
  (ac (ak (i:=6) ib.nd rfl (Or.inl rfl) (ag aR aa (ai aU hr (by omega) rfl (af (pv 0) (af (ag aQ (pv 2) aa) aJ)))))
  (ac (ak (i:=7) ib.nd rfl (Or.inl rfl) (ai ci hr (zJ0 _) rfl (af (pv 0) (af (pv 1) (af (pv 6) (af (ag aQ (pv 3) aa) aJ))))))
  (ad (ao (bd (af aq (af (av uI aq (ai aU hr (by omega) rfl (af (pv 0) (af aa aJ))) (fun _ _=>rfl)) (af (pv 7) (af (ai ci hr (zJ0 _) rfl (af (pv 0) (af (pv 1) (af (ag aQ (ag aQ (pv 2) aa) (pv 6)) (af (ag aQ (pv 3) aa) aJ))))) aJ)))))))))))),?_⟩
 refine⟨f,9,rfl,F0,by decide,by decide,fun fm H1 m0 m9 F1 B1=>?_⟩;have hb1:=B1 _ _ nb hb;have leaf:∀(v:V)(t:Tm)(H':Hp),TmAt H' v t->t.good->t.depth=1->FeedAt H' f->SameBut f H1 H'->Q v H':=fun v t H' T g d FF BB=>q v t H' T g (by omega) FF (B1.trans BB)
 refine ?_
 by_cases c1:room<2
 . exact bn c1 (jY ⟨_,_,_,_,_,f,b,bs,fm,rfl,F1,hb1,nb,b1,b2,leaf⟩)
 refine aI c1 ?_
 by_cases c2:deep<2
 . exact bn c2 (jY ⟨_,_,_,_,_,f,b,bs,fm,rfl,F1,hb1,nb,b1,b2,leaf⟩)
 refine aI c2 ?_
 by_cases c3:fm<4
 . exact bn c3 ⟨_,_,_,_,_,f,b,bs,fm,rfl,F1,hb1,nb,b1,b2,leaf⟩
 refine aI c3 ?_;have ask:∀(v:V)(t:Tm)(H':Hp),TmAt H' v t->t.good->(t.depth:Int)<=deep->FeedAt H' f->SameBut f H1 H'->Q v H':=fun v t H' T g d FF BB=>q v t H' T g d FF (B1.trans BB)
 refine ?_
 by_cases c4:fm<6
 . exact bn c4 (jY ⟨_,_,_,_,f,b,bs,room,deep,rfl,F1,hb1,nb,b1,b2,by omega,r2,by omega,by omega,ask⟩)
 refine aI c4 ?_
 by_cases c5:room<3
 . exact bn c5 ⟨_,_,_,_,f,b,bs,room,deep,rfl,F1,hb1,nb,b1,b2,by omega,r2,by omega,by omega,ask⟩
 refine aI c5 ?_;refine⟨f,room-2,rfl,F1,by omega,by omega,fun d3 H2 a0 a1 F2 B2=>?_⟩;refine ?_;have hb2:=B2 _ _ nb hb1;refine⟨f,b,bs,1+d3,deep-1,rfl,F2,hb2,nb,b1,b2,by omega,by omega,by omega,by omega,fun v1 t1 H3 T1 ok1 dp1 F3 B3=>?_⟩;have hb3:=B3 _ _ nb hb2;refine⟨f,6,rfl,F3,by decide,by decide,fun d4 H4 g0 g1 F4 B4=>?_⟩;obtain⟨c,hc,hm⟩:=jB (l:=(("+-*/=<":Str)).cps.toList) (i:=d4) g0 (by rw[yy];exact g1);have hb4:=B4 _ _ nb hb3;refine⟨_,_,_,rfl,rfl,cu (by decide +kernel),hc,?_⟩;refine⟨f,b,bs,room-1-(1+d3),deep-1,rfl,F4,hb4,nb,b1,b2,by omega,by omega,by omega,by omega,fun v2 t2 H5 T2 ok2 dp2 F5 B5=>?_⟩;have k35:bu H3 H5:=fun a ys e=>bD F4 B5 _ _ (bD F3 B4 _ _ e)
 refine ⟨(by show 4<=sizeLine;decide),fun p hp=>?_⟩;have gp:=zE0 hp (.tup [.str "op",.str ⟨#[c]⟩,v1,v2]);have ed:((Tm.op ⟨#[c]⟩ t1 t2).depth:Int)<=deep:=by
  show((max t1.depth t2.depth+1:Nat):Int)<=deep;omega
 exact q _ (.op ⟨#[c]⟩ t1 t2) _ (.op aE (T1.mono fun a xs e=>gp _ _ (k35 _ _ e)) (T2.mono (aX gp))) ⟨AJ c hm,ok1,ok2⟩ ed (F5.same gp) (B1.trans (B2.trans (B3.trans (B4.trans (B5.trans (zL0 gp))))))
theorem Ay {f:Addr} {fd:FuncData}:FnOk P w K mg base CX0 2 f fd ["_law_feed_here","_law_boxes","_law_room","_law_deep"] (kh 0):=by
 have no:∀vs H Q E,¬ kh 0 vs H Q E:=fun vs H Q E h=>by
  obtain⟨_,_,_,_,_,_,_,_,_,_,_,_,_,h1,h2,_⟩:=h;omega
 exact⟨fun vs H Q E h=>absurd h (no vs H Q E),fun A outer s H args us vs Q E _ _ _ _ h=>absurd h (no vs H Q E)⟩
theorem pF {f:Addr} {fd:FuncData} (F:Fun K "_law_term" "_law_term" gQ f fd) (B:Bl mg) (m:mg "_law_term"=some (.ref f)) (aU:Cal P w K mg base 1 "_law_take" ["_law_feed_here","_law_many"] fZ) :
 ∀n:Nat,FnOk P w K mg base CX0 (n+2) f fd ["_law_feed_here","_law_boxes","_law_room","_law_deep"] (kh n)
 | 0=>Ay
 | n+1=>Az F B aU (Cal.of F (pF F B m aU n) m (fun _ _ _ _ _ _ us hl=>by obtain⟨u0,u1,u2,u3,rfl⟩:=ow hl;rfl))
end
section
theorem RowsAt.app{H:Hp}{a b:List V}{r s:List Hr}(h:RowsAt H a r)(k:RowsAt H b s):RowsAt H (a++b) (r++s):=by
 refine⟨by rw[zO0,zO0,h.1,k.1],fun i v x e1 e2=>?_⟩
 by_cases c:i<a.length
 . rw[List.getElem?_append_left c]at e1;rw[List.getElem?_append_left (by rw[←h.1];exact c)]at e2;exact h.2 i v x e1 e2
 . rw[List.getElem?_append_right (by omega)]at e1;rw[List.getElem?_append_right (by rw[←h.1];omega),←h.1]at e2;exact k.2 _ v x e1 e2
theorem RowsAt.one{H:Hp}{v:V}{r:Hr}(h:HrAt H v r):RowsAt H [v] [r]:=⟨rfl,fun i u x e1 e2=>by
 cases i with
 | zero=>cases e1;cases e2;exact h
 | succ i=>cases e1⟩
def yk:Sp:=fun vs H Q _=>∃(f b:Addr)(bs:List Str)(most:Int),vs=[.ref f,.ref b,.int most]/\FeedAt H f/\H b=some (.lst (bs.map V.str))/\b≠f/\1<=bs.length/\bs.length<=100/\0<=most/\most<=60/\
 ∀(h:Addr)(rv:List V)(rows:List Hr)(H':Hp),H' h=some (.tup rv)->RowsAt H' rv rows->(∀r∈rows,r.good)->FeedAt H' f->SameBut f H H'->Q (.ref h) H'
theorem eU:FnScope ["_law_feed_here","_law_boxes","_law_most","_law_rows","_law_many","_law_k","_law_form"] ["_law_feed_here","_law_boxes","_law_most"] (ae fj):=⟨rfl,rfl,rfl,by decide +kernel,rfl,by decide +kernel,by decide +kernel⟩
theorem rS {f:Addr} {fd:FuncData} (F:Fun K "_law_helper" "_law_helper" fj f fd) (B:Bl mg) (aU:Cal P w K mg base 1 "_law_take" ["_law_feed_here","_law_many"] fZ) (ci:Cal P w K mg base 10 "_law_term" ["_law_feed_here","_law_boxes","_law_room","_law_deep"] (kh 8)):FnOk P w K mg base CX0 11 f fd ["_law_feed_here","_law_boxes","_law_most"] yk:=by
 refine F.ok eU (fun vs H Q E h=>?_) (fun cdv A outer s H vs Q E hr h=>?_)
 . obtain⟨f,b,bs,most,rfl,_⟩:=h;rfl
 obtain ⟨f,b,bs,most,rfl,F0,hb,nb,b1,b2,m0,m1,q⟩:=h;refine⟨_,(ac (ak (i:=3) eU.nd rfl (Or.inl rfl) (bU aJ))
  (ac (ak (i:=4) eU.nd rfl (Or.inl rfl) (ai aU hr (by decide) rfl (af (pv 0) (af (ag aR (pv 2) aa) aJ))))
  (ac (bY PassesOwn.never rfl (bv rfl B.range (af (pv 4) aJ)) (ba (i:=5) eU.nd rfl (Or.inl rfl)) (ac (ak (i:=6) eU.nd rfl (Or.inl rfl) (ai aU hr (by decide) rfl (af (pv 0) (af aa aJ))))
   (ad (aH (ah cU (pv 6) aa (aj _)) (ad (bG (dU PySem.F.plainAttrs_list PySem.F.slot_list_append PySem.F.type_list_append bi (pv 3) (af (bd (af aq (af (ai ci hr (by decide) rfl (af (pv 0) (af (pv 1) (af aa (af aa aJ))))) aJ))) aJ)))) (ad (aH (ah cU (pv 6) aa (aj _)) (ad (bG (dU PySem.F.plainAttrs_list PySem.F.slot_list_append PySem.F.type_list_append bi (pv 3) (af (bd (af aq (af (av ix_list (pv 1) (ai aU hr (by decide) rfl (af (pv 0) (af (aD az rfl B.len PySem.boot_len (af (pv 1) aJ)) aJ))) (fun _ _=>rfl)) (af (ai ci hr (by decide) rfl (af (pv 0) (af (pv 1) (af aa (af aa aJ))))) aJ)))) aJ)))) (ad (aH (ah aM (pv 6) aa (aj _)) (ad (bG (dU PySem.F.plainAttrs_list PySem.F.slot_list_append PySem.F.type_list_append bi (pv 3) (af (bd (af aq (af (ai ci hr (by decide) rfl (af (pv 0) (af (pv 1) (af aa (af aa aJ))))) (af (ai aU hr (by decide) rfl (af (pv 0) (af (pv 4) aJ))) aJ)))) aJ)))) (ad (aH (ah aM (pv 6) aa (aj _)) (ad (bG (dU PySem.F.plainAttrs_list PySem.F.slot_list_append PySem.F.type_list_append bi (pv 3) (af (bd (af aq (af (ai aU hr (by decide) rfl (af (pv 0) (af (pv 4) aJ))) aJ))) aJ)))) (ad (bG (dU PySem.F.plainAttrs_list PySem.F.slot_list_append PySem.F.type_list_append bi (pv 3) (af (bd (af aq aJ)) aJ))))))))))))))
  (ad (ao (bh bH rfl B.tuple cg (af (pv 3) aJ))))))),?_⟩
 refine ⟨(by show 0<=sizeLine;decide),fun L hL=>?_⟩;have I0:=zE0 hL (.lst []);have Lf:L≠f:=F0.ne hL;have g0:upd H L (.lst []) L=some (.lst []):=aE;generalize upd H L (.lst [])=H1 at I0 g0;refine⟨f,most+1,rfl,F0.same I0,by omega,by omega,fun mn H2 n0 n1 F2 B2=>?_⟩;have S2:SameBut f H H2:=(zL0 I0).trans B2;refine⟨_,rfl,by omega,by omega,dh (fun i σ H'=>∃(x5 x6:Option V)(vs:List V)(rows:List Hr),σ=[some (.ref f),some (.ref b),some (.int most),some (.ref L),some (.int mn),x5,x6]/\FeedAt H' f/\SameBut f H H'/\H' L=some (.lst vs)/\RowsAt H' vs rows/\(∀r∈rows,r.good)/\vs.length=i)
  ⟨_,_,[],[],rfl,F2,S2,B2 _ _ Lf g0,⟨rfl,fun i v r e=>by cases e⟩,(fun r hr=>by cases hr),rfl⟩ ?_ ?_⟩
 . rintro i σ H3 hi ⟨x5,x6,vs,rows,rfl,F3,S3,hL3,RW,rg,vl⟩;have hb3:=S3 _ _ nb hb;refine⟨f,8,rfl,F3,by decide,by decide,fun fm H4 f0 f1 F4 B4=>?_⟩;have hb4:=B4 _ _ nb hb3;have hL4:=B4 _ _ Lf hL3;have S4:=S3.trans B4;have RW4:=RW.mono (bD F3 B4);have fin:∀(r:Hr)(v:V)(H5:Hp),HrAt H5 v r->r.good->FeedAt H5 f->SameBut f H4 H5->H5 L=some (.lst vs)/\vs.length<sizeLine/\∃(x5' x6':Option V)(vs':List V)(rows':List Hr),[some (V.ref f),some (.ref b),some (.int most),some (.ref L),some (.int mn),some (.int (0+(i:Int))),some (.int fm)]=[some (V.ref f),some (.ref b),some (.int most),some (.ref L),some (.int mn),x5',x6']/\FeedAt (upd H5 L (.lst (vs++[v]))) f/\SameBut f H (upd H5 L (.lst (vs++[v])))/\(upd H5 L (.lst (vs++[v]))) L=some (.lst vs')/\RowsAt (upd H5 L (.lst (vs++[v]))) vs' rows'/\(∀r∈rows',r.good)/\vs'.length=i+1:=by
    intro r v H5 R5 g5 F5 B5;have hL5:=B5 _ _ Lf hL4;have k6:bu H5 (upd H5 L (.lst (vs++[v]))):=dX hL5;refine⟨hL5,aG (by omega),_,_,vs++[v],rows++[r],rfl,?_,?_,aE,((RW4.mono (bD F4 B5)).mono k6).app (RowsAt.one (R5.mono k6)),fun r' hr'=>?_,by rw[zO0,vl];rfl⟩
    . obtain⟨x,t,e,rr⟩:=F5;exact⟨x,t,by rw[am Lf.symm];exact e,rr⟩
    . intro c o hc e;rw[am (aO e hL)];exact B5 _ _ hc (S4 _ _ hc e)
    . rcases qD0 hr' with h | h
      . exact rg r' h
      . rw[zP0 h];exact g5
   refine ?_
   by_cases c1:fm<3
   . refine bn c1 ?_;refine⟨.inl ⟨rfl,_,zG0 hL4⟩,f,b,bs,6,5,rfl,F4,hb4,nb,b1,b2,by decide,by decide,by decide,by decide,fun v t H5 T5 g5 d5 F5 B5=>⟨(by show 2<=sizeLine;decide),fun p hp=>?_⟩⟩;have Ip:=zE0 hp (.tup [.str "say",v]);obtain⟨hLx,sz,iv⟩:=fin (.say t) (.ref p) _ (.say aE (T5.mono (aX Ip))) ⟨g5,by omega⟩ (F5.same Ip) (B5.trans (zL0 Ip));exact⟨L,_,_,rfl,rfl,hLx,sz,iv⟩
   refine aI c1 ?_
   by_cases c2:fm<5
   . refine bn c2 ?_;have bl:(bs.map V.str).length=bs.length:=zH0 _;refine⟨.inl ⟨rfl,_,zG0 hL4⟩,b,_,rfl,.inl (zG0 hb4),f,_,rfl,F4,by omega,by omega,fun d H5 d0 d1 F5 B5=>?_⟩;obtain⟨v,hv,vm⟩:=jB (l:=bs.map V.str) (i:=d) d0 d1;obtain⟨x,hx,rfl⟩:=List.mem_map.mp vm;have hb5:=B5 _ _ nb hb4;refine⟨_,_,zG0 hb5,hv,f,b,bs,6,5,rfl,F5,hb5,nb,b1,b2,by decide,by decide,by decide,by decide,fun v t H6 T6 g6 d6 F6 B6=>⟨(by show 3<=sizeLine;decide),fun p hp=>?_⟩⟩;have Ip:=zE0 hp (.tup [.str "set",.str x,v]);obtain⟨hLx,sz,iv⟩:=fin (.set x t) (.ref p) _ (.set aE (T6.mono (aX Ip))) ⟨g6,by omega⟩ (F6.same Ip) (B5.trans (B6.trans (zL0 Ip)));exact⟨L,_,_,rfl,rfl,hLx,sz,iv⟩
   refine aI c2 ⟨rfl,?_⟩
   by_cases c3:fm=5
   . refine bn (congrArg V.int c3) ?_;refine⟨.inl ⟨rfl,_,zG0 hL4⟩,f,b,bs,5,4,rfl,F4,hb4,nb,b1,b2,by decide,by decide,by decide,by decide,fun v t H5 T5 g5 d5 F5 B5=>?_⟩;refine⟨f,mn,rfl,F5,by omega,by omega,fun d H6 d0 d1 F6 B6=>⟨(by show 3<=sizeLine;decide),fun p hp=>?_⟩⟩;have Ip:=zE0 hp (.tup [.str "if",v,.int d]);obtain⟨hLx,sz,iv⟩:=fin (.iff t d) (.ref p) _ (.iff aE (T5.mono fun a xs e=>Ip _ _ (bD F5 B6 _ _ e))) ⟨g5,by omega,d0⟩ (F6.same Ip) (B5.trans (B6.trans (zL0 Ip)));exact⟨L,_,_,rfl,rfl,hLx,sz,iv⟩
   refine aI (fun z=>c3 (V.int.inj z)) ⟨rfl,?_⟩
   by_cases c4:fm=6
   . refine bn (congrArg V.int c4) ?_;refine⟨.inl ⟨rfl,_,zG0 hL4⟩,f,mn,rfl,F4,by omega,by omega,fun d H6 d0 d1 F6 B6=>⟨(by show 2<=sizeLine;decide),fun p hp=>?_⟩⟩;have Ip:=zE0 hp (.tup [.str "go",.int d]);obtain⟨hLx,sz,iv⟩:=fin (.go d) (.ref p) _ (.go aE) d0 (F6.same Ip) (B6.trans (zL0 Ip));exact⟨L,_,_,rfl,rfl,hLx,sz,iv⟩
   refine aI (fun z=>c4 (V.int.inj z)) ?_;refine⟨.inl ⟨rfl,_,zG0 hL4⟩,(by show 1<=sizeLine;decide),fun p hp=>?_⟩;have Ip:=zE0 hp (.tup [.str "end"]);obtain⟨hLx,sz,iv⟩:=fin .fin (.ref p) _ (.fin aE) trivial (F4.same Ip) (zL0 Ip);exact⟨L,_,_,rfl,rfl,hLx,sz,iv⟩
 . rintro σ H3 ⟨x5,x6,vs,rows,rfl,F3,S3,hL3,RW,rg,vl⟩;refine⟨L,_,rfl,.inl ⟨zG0 hL3,fun h hh=>?_⟩⟩;have Ih:=zE0 hh (.tup vs);exact q h vs rows _ aE (RW.mono (aX Ih)) rg (F3.same Ih) (S3.trans (zL0 Ih))
end
end
section
variable {P:Program} {w:World} {K:W.Frag} {mg:Str->Option Value} {base:Heap}
section
def yh:Sp:=fun vs H Q _=>∃(f:Addr)(x:Str),vs=[.ref f,.str x]/\FeedAt H f/\∀(h:Addr)(rv:List V)(rows:List Hr)(H':Hp),H' h=some (.tup rv)->RowsAt H' rv rows->(∀r∈rows,r.good)->FeedAt H' f->SameBut f H H'->Q (.ref h) H'
theorem eK:FnScope ["_law_feed_here","_law_box","_law_j","_law_wrong","_law_more","_law_told"] ["_law_feed_here","_law_box"] (ae iw):=⟨rfl,rfl,rfl,by decide +kernel,rfl,by decide +kernel,by decide +kernel⟩
def tLi1:TS:=fun Dn σ H=>∃(x4 x5:Option V)(f:Addr)(x:Str)(vj vw:V)(tw:Tm),σ=[some (.ref f),some (.str x),some vj,some vw,x4,x5]/\FeedAt H f/\TmAt H vj (.box x)/\TmAt H vw tw/\tw.good/\tw.depth<=3/\∀(h:Addr)(rv:List V)(rows:List Hr)(H':Hp),H' h=some (.tup rv)->RowsAt H' rv rows->(∀r∈rows,r.good)->FeedAt H' f->SameBut f H H'->Dn.rt (.ref h) H'
def tLi2:TS:=fun Dn σ H=>∃(x3 x5:Option V)(f:Addr)(x:Str)(vj vm:V)(tm:Tm),σ=[some (.ref f),some (.str x),some vj,x3,some vm,x5]/\FeedAt H f/\TmAt H vj (.box x)/\TmAt H vm tm/\tm.good/\tm.depth<=4/\∀(h:Addr)(rv:List V)(rows:List Hr)(H':Hp),H' h=some (.tup rv)->RowsAt H' rv rows->(∀r∈rows,r.good)->FeedAt H' f->SameBut f H H'->Dn.rt (.ref h) H'
theorem Da{s:Str}{a b:Tm}{m:Nat}(h1:a.depth<=m)(h2:b.depth<=m):(Tm.op s a b).depth<=m+1:=by
 show max a.depth b.depth+1<=m+1;omega
theorem wK {f:Addr} {fd:FuncData} (F:Fun K "_law_liar" "_law_liar" iw f fd) (aU:Cal P w K mg base 1 "_law_take" ["_law_feed_here","_law_many"] fZ):FnOk P w K mg base CX0 2 f fd ["_law_feed_here","_law_box"] yh:=by
 refine F.ok eK (fun vs H Q E h=>?_) (fun cdv A outer s H vs Q E hr h=>?_)
 . obtain⟨f,x,rfl,_⟩:=h;rfl
 obtain ⟨f,x,rfl,F0,q⟩:=h;refine⟨_,PSW.out (aC (aV (i:=2) eK.nd rfl (Or.inl rfl) (bJ (au bc (au ⟨pv 1⟩ bt))))
  (aC (aV (i:=3) eK.nd rfl (Or.inl rfl) (bJ (au bc (au bc (au ⟨pv 2⟩ (au (bJ (au bc (au ⟨(ai aU hr (by decide) rfl (af (pv 0) (af aa aJ)))⟩ bt))) bt))))))
  (aC (eV (ah eE (ai aU hr (by decide) rfl (af (pv 0) (af aa aJ))) aa (aj _)) (dF (aV (i:=3) eK.nd rfl (Or.inl rfl) (bJ (au bc (au bc (au ⟨pv 3⟩ (au (bJ (au bc (au bc (au (bJ (au bc bt)) (au (bJ (au bc (au ⟨(ai aU hr (by decide) rfl (af (pv 0) (af aa aJ)))⟩ bt))) bt))))) bt))))))) cM)
  (ia (t':=tLi1) (aC (aV (i:=4) eK.nd rfl (Or.inl rfl) (bJ (au bc (au bc (au ⟨pv 3⟩ (au (bJ (au bc (au ⟨(ag aR aa (ai aU hr (by decide) rfl (af (pv 0) (af aa aJ))))⟩ bt))) bt))))))
  (aC (eV (ah aM (ai aU hr (by decide) rfl (af (pv 0) (af aa aJ))) aa (aj _)) (dF (aV (i:=4) eK.nd rfl (Or.inl rfl) (bJ (au bc (au bc (au ⟨pv 3⟩ (au (bJ (au bc (au bc (au (bJ (au bc (au (bJ (au bc (au ⟨(ag aR aa (ai aU hr (by decide) rfl (af (pv 0) (af aa aJ))))⟩ bt))) bt))) (au (bJ (au bc (au ⟨(ai aU hr (by decide) rfl (af (pv 0) (af aa aJ)))⟩ bt))) bt))))) bt))))))) cM)
  (ia (t':=tLi2) (aC (aV (i:=5) eK.nd rfl (Or.inl rfl) (bJ (au bc (au bc (au (bJ (au bc (au ⟨pv 2⟩ bt))) (au ⟨pv 4⟩ bt))))))
  (dF (iK (bJ (au (bJ (au bc (au ⟨pv 1⟩ (au (bJ (au bc (au jf bt))) bt)))) (au (bJ (au bc (au ⟨pv 5⟩ bt))) (au (bJ (au bc (au ⟨pv 1⟩ (au (bJ (au bc (au bc (au ⟨pv 2⟩ (au (bJ (au bc (au jf bt))) bt))))) bt)))) (au (bJ (au bc (au jf bt))) bt)))))))) (by
   rintro Dn σ H ⟨x3,x5,f,x,vj,vm,tm,rfl,F0,Tj,Tm,gm,dm,q⟩;have s2:2<=sizeLine:=by decide
   have s3:3<=sizeLine:=by decide
   have s4:4<=sizeLine:=by decide
   refine⟨s2,fun p1 h1=>⟨s4,fun p2 h2=>?_⟩⟩;have I1:=zE0 h1 (.tup [.str "true",vj]);have I2:=zE0 h2 (.tup [.str "op",.str "+",.ref p1,vm]);have T2:TmAt (upd (upd H p1 (.tup [.str "true",vj])) p2 (.tup [.str "op",.str "+",.ref p1,vm])) (.ref p2) (.op "+" (.ask "true" (.box x)) tm):=.op aE (.ask (I2 _ _ aE) (Tj.mono (aX (I1.trans I2)))) (Tm.mono (aX (I1.trans I2)));have J2:=I1.trans I2;generalize upd (upd H p1 (.tup [.str "true",vj])) p2 (.tup [.str "op",.str "+",.ref p1,vm])=H2 at T2 J2;refine⟨s2,fun p5 h5=>⟨s3,fun p6 h6=>?_⟩⟩;have I5:=zE0 h5 (.tup [.str "num",.int 0]);have I6:=zE0 h6 (.tup [.str "set",.str x,.ref p5]);have R6:HrAt (upd (upd H2 p5 (.tup [.str "num",.int 0])) p6 (.tup [.str "set",.str x,.ref p5])) (.ref p6) (.set x (.num 0)):=.set aE (.num (I6 _ _ aE));have J6:=I5.trans I6;generalize upd (upd H2 p5 (.tup [.str "num",.int 0])) p6 (.tup [.str "set",.str x,.ref p5])=H6 at R6 J6;refine⟨s2,fun p7 h7=>?_⟩;have I7:=zE0 h7 (.tup [.str "say",.ref p2]);have R7:HrAt (upd H6 p7 (.tup [.str "say",.ref p2])) (.ref p7) (.say (.op "+" (.ask "true" (.box x)) tm)):=.say aE (T2.mono (aX (J6.trans I7)));generalize upd H6 p7 (.tup [.str "say",.ref p2])=H7 at R7 I7;refine⟨s2,fun p3 h3=>⟨s4,fun p4 h4=>?_⟩⟩;have I3:=zE0 h3 (.tup [.str "num",.int 1]);have I4:=zE0 h4 (.tup [.str "op",.str "+",vj,.ref p3]);have J4:=I3.trans I4;have T4:TmAt (upd (upd H7 p3 (.tup [.str "num",.int 1])) p4 (.tup [.str "op",.str "+",vj,.ref p3])) (.ref p4) (.op "+" (.box x) (.num 1)):=.op aE (Tj.mono (aX (J2.trans (J6.trans (I7.trans J4))))) (.num (I4 _ _ aE));generalize upd (upd H7 p3 (.tup [.str "num",.int 1])) p4 (.tup [.str "op",.str "+",vj,.ref p3])=H8 at T4 J4;refine⟨s3,fun p8 h8=>⟨s2,fun p9 h9=>⟨s4,fun p h10=>?_⟩⟩⟩;have I8:=zE0 h8 (.tup [.str "set",.str x,.ref p4]);have I9:=zE0 h9 (.tup [.str "go",.int 1]);have I10:=zE0 h10 (.tup [.ref p6,.ref p7,.ref p8,.ref p9]);have J10:=I8.trans (I9.trans I10);have R8:HrAt (upd (upd (upd H8 p8 (.tup [.str "set",.str x,.ref p4])) p9 (.tup [.str "go",.int 1])) p (.tup [.ref p6,.ref p7,.ref p8,.ref p9])) (.ref p8) (.set x (.op "+" (.box x) (.num 1))):=.set ((I9.trans I10) _ _ aE) (T4.mono (aX J10));have R9:HrAt (upd (upd (upd H8 p8 (.tup [.str "set",.str x,.ref p4])) p9 (.tup [.str "go",.int 1])) p (.tup [.ref p6,.ref p7,.ref p8,.ref p9])) (.ref p9) (.go 1):=.go (I10 _ _ aE);have JJ:=J2.trans (J6.trans (I7.trans (J4.trans J10)));have pl:("+":Str)∈ka:=by decide +kernel
   refine q p _ _ _ aE ((((RowsAt.one (R6.mono (aX (I7.trans (J4.trans J10))))).app (RowsAt.one (R7.mono (aX (J4.trans J10))))).app (RowsAt.one R8)).app (RowsAt.one R9)) (fun r hr=>?_) (F0.same JJ) (zL0 JJ);rcases qD0 hr with hr | hr
   . rcases qD0 hr with hr | hr
     . rcases qD0 hr with hr | hr
       . rw[zP0 hr];exact⟨trivial,(by show 1<=8;decide)⟩
       . rw[zP0 hr];exact⟨⟨pl,⟨by decide +kernel,trivial⟩,gm⟩,qB0 (Da (m:=4) (by show 2<=4;decide) dm) (by decide)⟩
     . rw[zP0 hr];exact⟨⟨pl,trivial,trivial⟩,(by show 2<=8;decide)⟩
   . rw[zP0 hr];exact(by show(0:Int)<=1;decide))))) (by
   rintro Dn σ H ⟨x4,x5,f,x,vj,vw,tw,rfl,F0,Tj,Tw,gw,dw,q⟩;have s2:2<=sizeLine:=by decide
   have s4:4<=sizeLine:=by decide
   have st:("*":Str)∈ka:=by decide +kernel
   have pl:("+":Str)∈ka:=by decide +kernel
   refine⟨f,4,rfl,F0,by decide,by decide,fun d1 H1 _ _ F1 B1=>⟨s2,fun p1 h1=>⟨s4,fun p2 h2=>?_⟩⟩⟩;have k1:=bD F0 B1;have I1:=zE0 h1 (.tup [.str "num",.int (1+d1)]);have I2:=zE0 h2 (.tup [.str "op",.str "*",vw,.ref p1]);have J2:=I1.trans I2;have T2:TmAt (upd (upd H1 p1 (.tup [.str "num",.int (1+d1)])) p2 (.tup [.str "op",.str "*",vw,.ref p1])) (.ref p2) (.op "*" tw (.num (1+d1))):=.op aE (Tw.mono fun a xs e=>J2 _ _ (k1 _ _ e)) (.num (I2 _ _ aE));generalize upd (upd H1 p1 (.tup [.str "num",.int (1+d1)])) p2 (.tup [.str "op",.str "*",vw,.ref p1])=H2 at T2 J2;have F2:=F1.same J2;refine⟨f,3,rfl,F2,by decide,by decide,fun d2 H3 _ _ F3 B3=>⟨rfl,?_⟩⟩;have k3:=bD F2 B3;have S3:SameBut f H H3:=B1.trans ((zL0 J2).trans B3);have kk:bu H H3:=fun a xs e=>k3 _ _ (J2 _ _ (k1 _ _ e))
   by_cases c:d2=0
   . refine bn (congrArg V.int c) ?_;refine⟨f,3,rfl,F3,by decide,by decide,fun d3 H4 _ _ F4 B4=>⟨s2,fun p3 h3=>⟨s2,fun p4 h4=>?_⟩⟩⟩;have k4:=bD F3 B4;have I3:=zE0 h3 (.tup [.str "num",.int (1+d3)]);have I4:=zE0 h4 (.tup [.str "coin",.ref p3]);have J4:=I3.trans I4;have T4:TmAt (upd (upd H4 p3 (.tup [.str "num",.int (1+d3)])) p4 (.tup [.str "coin",.ref p3])) (.ref p4) (.ask "coin" (.num (1+d3))):=.ask aE (.num (I4 _ _ aE));generalize upd (upd H4 p3 (.tup [.str "num",.int (1+d3)])) p4 (.tup [.str "coin",.ref p3])=H5 at T4 J4;have F5:=F4.same J4;refine⟨f,3,rfl,F5,by decide,by decide,fun d5 H6 _ _ F6 B6=>⟨s2,fun p5 h5=>⟨s4,fun p6 h6=>?_⟩⟩⟩;have k6:=bD F5 B6;have I5:=zE0 h5 (.tup [.str "num",.int d5]);have I6:=zE0 h6 (.tup [.str "op",.str "+",.ref p4,.ref p5]);have J6:=I5.trans I6;have T6:TmAt (upd (upd H6 p5 (.tup [.str "num",.int d5])) p6 (.tup [.str "op",.str "+",.ref p4,.ref p5])) (.ref p6) (.op "+" (.ask "coin" (.num (1+d3))) (.num d5)):=.op aE (T4.mono fun a xs e=>J6 _ _ (k6 _ _ e)) (.num (I6 _ _ aE));generalize upd (upd H6 p5 (.tup [.str "num",.int d5])) p6 (.tup [.str "op",.str "+",.ref p4,.ref p5])=H7 at T6 J6;have F7:=F6.same J6;have kw:bu H H7:=fun a xs e=>J6 _ _ (k6 _ _ (J4 _ _ (k4 _ _ (kk _ _ e))))
     refine⟨s4,fun p7 h7=>?_⟩;have I7:=zE0 h7 (.tup [.str "op",.str "*",vw,.ref p6]);refine⟨_,_,f,x,vj,.ref p7,.op "*" tw (.op "+" (.ask "coin" (.num (1+d3))) (.num d5)),rfl,F7.same I7,Tj.mono (fun a xs e=>I7 _ _ (kw _ _ e)),.op aE (Tw.mono fun a xs e=>I7 _ _ (kw _ _ e)) (T6.mono (aX I7)),⟨st,gw,pl,⟨by decide +kernel,trivial⟩,trivial⟩,Da (m:=3) dw (by show 3<=3;decide),fun h rv rows H' h1 h2 h3 h4 h5=>q h rv rows H' h1 h2 h3 h4 (S3.trans (B4.trans ((zL0 J4).trans (B6.trans ((zL0 (J6.trans I7)).trans h5)))))⟩
   . refine aI (fun z=>c (V.int.inj z)) ?_;exact⟨_,_,f,x,vj,.ref p2,.op "*" tw (.num (1+d1)),rfl,F3,Tj.mono kk,T2.mono k3,⟨st,gw,trivial⟩,Da (m:=3) dw (by show 1<=3;decide),fun h rv rows H' h1 h2 h3 h4 h5=>q h rv rows H' h1 h2 h3 h4 (S3.trans h5)⟩))))),?_⟩
 have s1:1<=sizeLine:=by decide
 have s2:2<=sizeLine:=by decide
 have s4:4<=sizeLine:=by decide
 have st:("*":Str)∈ka:=by decide +kernel
 have eqs:("=":Str)∈ka:=by decide +kernel
 refine⟨s2,fun pj hj=>?_⟩;have Ij:=zE0 hj (.tup [.str "box",.str x]);have Tj:TmAt (upd H pj (.tup [.str "box",.str x])) (.ref pj) (.box x):=.box aE;generalize upd H pj (.tup [.str "box",.str x])=H1 at Ij Tj;refine⟨f,4,rfl,F0.same Ij,by decide,by decide,fun d1 H2 _ _ F2 B2=>⟨s2,fun p1 h1=>⟨s4,fun p2 h2=>?_⟩⟩⟩;have k2:=bD (F0.same Ij) B2;have I1:=zE0 h1 (.tup [.str "num",.int d1]);have I2:=zE0 h2 (.tup [.str "op",.str "=",.ref pj,.ref p1]);have J2:=I1.trans I2;have T2:TmAt (upd (upd H2 p1 (.tup [.str "num",.int d1])) p2 (.tup [.str "op",.str "=",.ref pj,.ref p1])) (.ref p2) (.op "=" (.box x) (.num d1)):=.op aE (Tj.mono fun a xs e=>J2 _ _ (k2 _ _ e)) (.num (I2 _ _ aE));have Tj2:=Tj.mono fun a xs e=>J2 _ _ (k2 _ _ e)
 have S3:SameBut f H (upd (upd H2 p1 (.tup [.str "num",.int d1])) p2 (.tup [.str "op",.str "=",.ref pj,.ref p1])):=(zL0 Ij).trans (B2.trans (zL0 J2));have F3:=F2.same J2;generalize upd (upd H2 p1 (.tup [.str "num",.int d1])) p2 (.tup [.str "op",.str "=",.ref pj,.ref p1])=H3 at T2 Tj2 S3 F3;refine⟨f,3,rfl,F3,by decide,by decide,fun d2 H4 _ _ F4 B4=>?_⟩;have k4:=bD F3 B4;have S4:=S3.trans B4
 by_cases c:d2>0
 . refine bn c ?_;refine⟨s1,fun p3 h3=>?_⟩;have I3:=zE0 h3 (.tup [.str "round"]);have e3:upd H4 p3 (.tup [.str "round"]) p3=some (.tup [.str "round"]):=aE;generalize upd H4 p3 (.tup [.str "round"])=H5 at I3 e3;refine⟨f,6,rfl,F4.same I3,by decide,by decide,fun d5 H6 _ _ F6 B6=>⟨s2,fun p5 h5=>⟨s4,fun p6 h6=>?_⟩⟩⟩;have k6:=bD (F4.same I3) B6;have I5:=zE0 h5 (.tup [.str "num",.int d5]);have I6:=zE0 h6 (.tup [.str "op",.str "=",.ref p3,.ref p5]);have J6:=I5.trans I6;have T6:TmAt (upd (upd H6 p5 (.tup [.str "num",.int d5])) p6 (.tup [.str "op",.str "=",.ref p3,.ref p5])) (.ref p6) (.op "=" (.plain "round") (.num d5)):=.op aE (.plain (J6 _ _ (k6 _ _ e3))) (.num (I6 _ _ aE));generalize upd (upd H6 p5 (.tup [.str "num",.int d5])) p6 (.tup [.str "op",.str "=",.ref p3,.ref p5])=H7 at T6 J6;have kw:bu H3 H7:=fun a xs e=>J6 _ _ (k6 _ _ (I3 _ _ (k4 _ _ e)))
   refine⟨s4,fun p7 h7=>?_⟩;have I7:=zE0 h7 (.tup [.str "op",.str "*",.ref p2,.ref p6]);exact⟨_,_,f,x,.ref pj,.ref p7,.op "*" (.op "=" (.box x) (.num d1)) (.op "=" (.plain "round") (.num d5)),rfl,F6.same (J6.trans I7),Tj2.mono (fun a xs e=>I7 _ _ (kw _ _ e)),.op aE (T2.mono fun a xs e=>I7 _ _ (kw _ _ e)) (T6.mono (aX I7)),⟨st,⟨eqs,trivial,trivial⟩,eqs,(show("round":Str)∈iR by decide +kernel),trivial⟩,(by show 3<=3;decide),fun h rv rows H' h1 h2 h3 h4 h5=>q h rv rows H' h1 h2 h3 h4 (S4.trans ((zL0 I3).trans (B6.trans ((zL0 (J6.trans I7)).trans h5))))⟩
 . refine aI c ?_;exact⟨_,_,f,x,.ref pj,.ref p2,.op "=" (.box x) (.num d1),rfl,F4,Tj2.mono k4,T2.mono k4,⟨eqs,trivial,trivial⟩,(by show 2<=3;decide),fun h rv rows H' h1 h2 h3 h4 h5=>q h rv rows H' h1 h2 h3 h4 (S4.trans h5)⟩
end
end
section
variable {P:Program} {w:World} {K:W.Frag} {mg:Str->Option Value} {base:Heap}
section
theorem Dt{n j:Nat}(h:j<n):ixN n (j:Int)=some j:=by
 unfold ixN;rw[zI0 (by omega)];rw[zI0 (by omega),qT0]
theorem jx{H:Hp}{f L:Addr}{ys:List V}(F:FeedAt H f)(n:L≠f):FeedAt (upd H L (.lst ys)) f:=by
 obtain⟨x,t,e,r⟩:=F;exact⟨x,t,by rw[am n.symm];exact e,r⟩
theorem AM{α:Type}(xs:List α)(v u:α):(xs++[v]).set xs.length u=xs++[u]:=by
 induction xs with
 | nil=>rfl
 | cons x xs ih=>show x::(xs++[v]).set xs.length u=_;rw[ih];rfl
def yg:Sp:=fun vs H Q _=>∃(f b:Addr)(bs:List Str),vs=[.ref f,.ref b]/\FeedAt H f/\H b=some (.lst (bs.map V.str))/\b≠f/\1<=bs.length/\bs.length<=100/\
 ∀(h:Addr)(rv:List V)(rows:List Hr)(H':Hp),H' h=some (.tup rv)->RowsAt H' rv rows->(∀r∈rows,r.good)->FeedAt H' f->SameBut f H H'->Q (.ref h) H'
theorem fO:FnScope ["_law_feed_here","_law_boxes","_law_rows","_law_many","_law_at","_law_form","_law_term_here"] ["_law_feed_here","_law_boxes"] (ae iu):=⟨rfl,rfl,rfl,by decide +kernel,rfl,by decide +kernel,by decide +kernel⟩
theorem wJ {f:Addr} {fd:FuncData} (F:Fun K "_law_long" "_law_long" iu f fd) (B:Bl mg) (aU:Cal P w K mg base 1 "_law_take" ["_law_feed_here","_law_many"] fZ) (ci:Cal P w K mg base 10 "_law_term" ["_law_feed_here","_law_boxes","_law_room","_law_deep"] (kh 8)):FnOk P w K mg base CX0 11 f fd ["_law_feed_here","_law_boxes"] yg:=by
 refine F.ok fO (fun vs H Q E h=>?_) (fun cdv A outer s H vs Q E hr h=>?_)
 . obtain⟨f,b,bs,rfl,_⟩:=h;rfl
 obtain ⟨f,b,bs,rfl,F0,hb,nb,b1,b2,q⟩:=h;refine⟨_,(ac (ak (i:=2) fO.nd rfl (Or.inl rfl) (bU aJ))
  (ac (ak (i:=3) fO.nd rfl (Or.inl rfl) (ag aR aa (ai aU hr (by decide) rfl (af (pv 0) (af aa aJ)))))
  (ac (bY PassesOwn.never rfl (bv rfl B.range (af (pv 3) aJ)) (ba (i:=4) fO.nd rfl (Or.inl rfl)) (ac (ak (i:=5) fO.nd rfl (Or.inl rfl) (ai aU hr (by decide) rfl (af (pv 0) (af aa aJ))))
   (ac (ak (i:=6) fO.nd rfl (Or.inl rfl) (ai ci hr (by decide) rfl (af (pv 0) (af (pv 1) (af (av ix_list (bU (af aa (af aa (af aa aJ)))) (ai aU hr (by decide) rfl (af (pv 0) (af aa aJ))) (fun _ _=>rfl)) (af aa aJ))))))
   (ac (bG (dU PySem.F.plainAttrs_list PySem.F.slot_list_append PySem.F.type_list_append bi (pv 2) (af (bd (af aq (af (av ix_list (pv 1) (ai aU hr (by decide) rfl (af (pv 0) (af (aD az rfl B.len PySem.boot_len (af (pv 1) aJ)) aJ))) (fun _ _=>rfl)) (af (pv 6) aJ)))) aJ)))
   (ac (aH (PW.pt (jr (ah aM (pv 5) aa (aj _)) (iO (ah cU (ag aR (pv 4) aa) (pv 3) (aj _))))) (ad (ki (bd (af aq (af (pv 6) (af (ag aR (ag aR (pv 4) aa) (ai aU hr (by decide) rfl (af (pv 0) (af (aD (pQ rfl) rfl B.min PyProof.Rows.boot_min (af aa (af (ag aQ (ag aQ (pv 3) (pv 4)) aa) aJ))) aJ)))) aJ)))) (lN (pv 2) (pv 4) ig))) ax)
   (ad (aH (PW.pt (jr (ah aM (pv 5) aa (aj _)) (iO (ah aM (ag aN (pv 4) aa) aa (aj _))))) (ad (ki (bd (af aq (af (pv 6) aJ))) (lN (pv 2) (pv 4) ig))) ax)))))))
  (ad (ao (bh bH rfl B.tuple cg (af (pv 2) aJ))))))),?_⟩
 refine⟨(by show 0<=sizeLine;decide),fun L hL=>?_⟩;have I0:=zE0 hL (.lst []);have Lf:L≠f:=F0.ne hL;have g0:upd H L (.lst []) L=some (.lst []):=aE;generalize upd H L (.lst [])=H1 at I0 g0;refine⟨f,50,rfl,F0.same I0,by decide,by decide,fun mn H2 n0 n1 F2 B2=>?_⟩;have S2:SameBut f H H2:=(zL0 I0).trans B2;obtain⟨my,hmy⟩:∃my:Int,my=11+mn:=⟨_,rfl⟩
 dsimp only [rI0,isI]
 rw [←hmy];refine⟨_,rfl,by omega,by omega,dh (fun i σ H'=>∃(x4 x5 x6:Option V)(vs:List V)(rows:List Hr),σ=[some (.ref f),some (.ref b),some (.ref L),some (.int my),x4,x5,x6]/\FeedAt H' f/\SameBut f H H'/\H' L=some (.lst vs)/\RowsAt H' vs rows/\(∀r∈rows,r.good)/\vs.length=i)
  ⟨_,_,_,[],[],rfl,F2,S2,B2 _ _ Lf g0,⟨rfl,fun i v r e=>by cases e⟩,(fun r hr=>by cases hr),rfl⟩ ?_ ?_⟩
 . rintro i σ H3 hi ⟨x4,x5,x6,vs,rows,rfl,F3,S3,hL3,RW,rg,vl⟩;have hb3:=S3 _ _ nb hb;have ei:(0:Int)+(i:Int)=(i:Int):=by omega
   rw [ei];refine⟨f,4,rfl,F3,by decide,by decide,fun fm H4 f0 f1 F4 B4=>?_⟩;have hb4:=B4 _ _ nb hb3;have hL4:=B4 _ _ Lf hL3;have S4:=S3.trans B4;have RW4:=RW.mono (bD F3 B4);refine⟨(by show 3<=sizeLine;decide),fun y hy=>?_⟩;have Iy:=zE0 hy (.lst [.int 3,.int 6,.int 20]);have gy:upd H4 y (.lst [.int 3,.int 6,.int 20]) y=some (.lst [.int 3,.int 6,.int 20]):=aE;have yf:y≠f:=F4.ne hy;generalize upd H4 y (.lst [.int 3,.int 6,.int 20])=H5 at Iy gy;refine⟨f,3,rfl,F4.same Iy,by decide,by decide,fun d H6 d0 d1 F6 B6=>?_⟩;obtain⟨v,hv,vm⟩:=jB (l:=[V.int 3,.int 6,.int 20]) (i:=d) d0 (by show d<3;omega);obtain⟨rm,rfl,rm0,rm1⟩:∃rm:Int,v=.int rm/\1<=rm/\rm<=100:=by
    simp only[List.mem_cons,List.not_mem_nil,or_false]at vm;rcases vm with rfl | rfl | rfl
    . exact⟨3,rfl,by decide,by decide⟩
    . exact⟨6,rfl,by decide,by decide⟩
    . exact⟨20,rfl,by decide,by decide⟩
   have T46:SameBut f H4 H6:=(zL0 Iy).trans B6;have hb6:=T46 _ _ nb hb4;have hL6:=T46 _ _ Lf hL4;have RW6:=(RW4.mono (aX Iy)).mono (bD (F4.same Iy) B6);refine⟨_,_,zG0 (B6 _ _ yf gy),hv,f,b,bs,rm,8,rfl,F6,hb6,nb,b1,b2,rm0,rm1,by decide,by decide,fun tv t H7 T7 g7 d7 F7 B7=>?_⟩;have hb7:=B7 _ _ nb hb6;have hL7:=B7 _ _ Lf hL6;have RW7:=RW6.mono (bD F6 B7);have bl:(bs.map V.str).length=bs.length:=zH0 _;refine⟨.inl ⟨rfl,_,zG0 hL7⟩,b,_,rfl,.inl (zG0 hb7),f,_,rfl,F7,by omega,by omega,fun e H8 e0 e1 F8 B8=>?_⟩;obtain⟨u,hu,um⟩:=jB (l:=bs.map V.str) (i:=e) e0 e1;obtain⟨x,hx,rfl⟩:=List.mem_map.mp um;have hb8:=B8 _ _ nb hb7;have hL8:=B8 _ _ Lf hL7;refine⟨_,_,zG0 hb8,hu,(by show 3<=sizeLine;decide),fun p hp=>?_⟩;have Ip:=zE0 hp (.tup [.str "set",.str x,tv]);have R9:HrAt (upd H8 p (.tup [.str "set",.str x,tv])) (.ref p) (.set x t):=.set aE ((T7.mono (bD F7 B8)).mono (aX Ip));have T9:=(T7.mono (bD F7 B8)).mono (aX Ip);have RW9:=(RW7.mono (bD F7 B8)).mono (aX Ip);have S9:=S4.trans (T46.trans (B7.trans (B8.trans (zL0 Ip))));have F9:=F8.same Ip;have hL9:=Ip _ _ hL8;have gt:t.depth<=8:=by omega
   generalize upd H8 p (.tup [.str "set",.str x,tv])=H9 at R9 T9 RW9 S9 F9 hL9;clear RW RW4 RW6 RW7 Ip B8 B7 B6 T46 Iy T7 hb7 hb6 hL7 hL6 hL8 hb8;have fin:∀(r:Hr) (v:V) (H5:Hp),H5 L=some (.lst (vs++[v]))->RowsAt H5 vs rows->HrAt H5 v r->r.good->FeedAt H5 f->SameBut f H H5->∃(x4' x5' x6':Option V) (vs':List V) (rows':List Hr),[some (V.ref f),some (.ref b),some (.ref L),some (.int my),some (.int (i:Int)),some (.int fm),some tv]=[some (V.ref f),some (.ref b),some (.ref L),some (.int my),x4',x5',x6']/\FeedAt H5 f/\SameBut f H H5/\H5 L=some (.lst vs')/\RowsAt H5 vs' rows'/\(∀r∈rows',r.good)/\vs'.length=i+1:=fun r v H5 h5 R5 rr g5 F5 S5=>
    ⟨_,_,_,vs++[v],rows++[r],rfl,F5,S5,h5,R5.app (RowsAt.one rr),(fun r' hr'=>by
     rcases qD0 hr' with h | h
     . exact rg r' h
     . rw[zP0 h];exact g5),by rw[zO0,vl];rfl⟩
   refine ⟨L,_,_,rfl,rfl,hL9,aG (by omega),?_⟩;have kA:bu H9 (upd H9 L (.lst (vs++[.ref p]))):=dX hL9;have RA:=RW9.mono kA;have HA:=R9.mono kA;have TA:=T9.mono kA;have FA:=jx (ys:=vs++[.ref p]) F9 Lf;have SA:SameBut f H (upd H9 L (.lst (vs++[.ref p]))):=fun c o hc e=>by
    rw[am (aO e hL)];exact S9 _ _ hc e
   have hLA:upd H9 L (.lst (vs++[.ref p])) L=some (.lst (vs++[.ref p])):=aE;show mG _ _ _ _ (upd H9 L (.lst (vs++[.ref p])));generalize upd H9 L (.lst (vs++[.ref p]))=HA' at RA HA TA FA SA hLA;have vix:∀v:V,(vs++[V.ref p]).set i v=vs++[v]:=fun v=>by rw[←vl];exact AM _ _ _
   have vil:ixN (vs++[V.ref p]).length (i:Int)=some i:=Dt (by rw[zO0,vl];exact Nat.lt_succ_self i);refine⟨rfl,?_⟩
   by_cases c3:fm=3
   . refine bn (congrArg V.int c3) ?_;refine ?_
     by_cases c4:(i:Int)+1<my
     . refine bn c4 ?_;have m3:0<(if my-(i:Int)-1<3 then my-(i:Int)-1 else 3)/\(if my-(i:Int)-1<3 then my-(i:Int)-1 else 3)<2 ^ 63:=by split <;> omega
       refine ⟨_,_,rfl,f,_,rfl,FA,m3.1,m3.2,fun g HB g0 g1 FB BB=>⟨(by show 3<=sizeLine;decide),fun o ho=>?_⟩⟩;have Io:=zE0 ho (.tup [.str "if",tv,.int ((i:Int)+1+g)]);have kB:=bD FA BB;have RB:HrAt (upd HB o (.tup [.str "if",tv,.int ((i:Int)+1+g)])) (.ref o) (.iff t ((i:Int)+1+g)):=.iff aE ((TA.mono kB).mono (aX Io));have hLB:=Io _ _ (BB _ _ Lf hLA);have RWB:=(RA.mono kB).mono (aX Io);have FB':=FB.same Io;have SB:=SA.trans (BB.trans (zL0 Io));generalize upd HB o (.tup [.str "if",tv,.int ((i:Int)+1+g)])=HC at RB hLB RWB FB' SB;refine⟨L,_,_,i,rfl,rfl,hLB,vil,?_⟩;rw[vix];have kC:bu HC (upd HC L (.lst (vs++[.ref o]))):=dX hLB;refine⟨rfl,aI (fun z=>by have:=V.int.inj z;omega) ?_⟩;exact fin (.iff t ((i:Int)+1+g)) (.ref o) _ aE (RWB.mono kC) (RB.mono kC) ⟨g7,gt,by omega⟩ (jx FB' Lf) (fun c o' hc e=>by
        rw[am (aO e hL)];exact SB _ _ hc e)
     . refine aI c4 ?_;refine⟨rfl,aI (fun z=>by have:=V.int.inj z;omega) ?_⟩;exact fin (.set x t) (.ref p) _ hLA RA HA ⟨g7,gt⟩ FA SA
   refine aI (fun z=>c3 (V.int.inj z)) ?_;refine⟨rfl,?_⟩
   by_cases c2:fm=2
   . refine bn (congrArg V.int c2) ?_;refine⟨(by show(0:Int)<12;decide),rfl,?_⟩;refine jZ (fun _=>?_) (fun _=>?_)
     . refine ⟨(by show 2<=sizeLine;decide),fun o ho=>?_⟩;have Io:=zE0 ho (.tup [.str "say",tv]);have RB:HrAt (upd HA' o (.tup [.str "say",tv])) (.ref o) (.say t):=.say aE (TA.mono (aX Io));have hLB:=Io _ _ hLA;have RWB:=RA.mono (aX Io);have FB':=FA.same Io;have SB:=SA.trans (zL0 Io);generalize upd HA' o (.tup [.str "say",tv])=HC at RB hLB RWB FB' SB;refine⟨L,_,_,i,rfl,rfl,hLB,vil,?_⟩;rw[vix];have kC:bu HC (upd HC L (.lst (vs++[.ref o]))):=dX hLB;exact fin (.say t) (.ref o) _ aE (RWB.mono kC) (RB.mono kC) ⟨g7,gt⟩ (jx FB' Lf) (fun c o' hc e=>by
        rw[am (aO e hL)];exact SB _ _ hc e)
     . exact fin (.set x t) (.ref p) _ hLA RA HA ⟨g7,gt⟩ FA SA
   . refine aI (fun z=>c2 (V.int.inj z)) ?_;exact fin (.set x t) (.ref p) _ hLA RA HA ⟨g7,gt⟩ FA SA
 . rintro σ H3 ⟨x4,x5,x6,vs,rows,rfl,F3,S3,hL3,RW,rg,vl⟩;refine⟨L,_,rfl,.inl ⟨zG0 hL3,fun h hh=>?_⟩⟩;have Ih:=zE0 hh (.tup vs);exact q h vs rows _ aE (RW.mono (aX Ih)) rg (F3.same Ih) (S3.trans (zL0 Ih))
end
end
section
variable {P:Program} {w:World} {K:W.Frag} {mg:Str->Option Value} {base:Heap}
section
variable {CM CA CG:Addr}
structure Wq where
 f:Addr
 gh:Addr
 g:Addr
 h:Addr
 N:Addr
 T:Addr
 BL:Addr
 ML:Addr
 C:Addr
 M1:Addr
 b1:Addr
 d1:Addr
 c1:Addr
 M2:Addr
 b2:Addr
 d2:Addr
 c2:Addr
 ns:List Str
 ts:List Tr
 p:Int
 rows:List Hr
 xs:List Str
 cs:List Int
 s:Int
structure S34(CG:Addr)(H:Hp)(y:Wq):Prop where
 gt:∃(a b:Addr)(tv:List V),GmT H y.gh a b y.ns tv y.ts y.p
 gm:∃(a b d:Addr)(tv:List V),GameAt CG H y.g a b d y.p/\H a=some (.tup (y.ns.map V.str))/\H b=some (.tup tv)/\TreesAt H tv y.ts/\H d=some (.lst ((y.ns.map (aZ y.ts)).map V.int))/\d≠y.f/\d≠y.T
 hl:HlpAt H y.h y.rows
 nm:H y.N=some (.lst (y.xs.map V.str))
 nN:y.N≠y.f/\y.N≠y.T
 ml:H y.ML=some (.lst [.ref y.M1,.ref y.M2])
 nM:y.ML≠y.f/\y.ML≠y.T
 bl:H y.BL=some (.lst [.ref y.c1,.ref y.c2])
 nB:y.BL≠y.f/\y.BL≠y.T
 co:H y.C=some (.lst (y.cs.map V.int))
 nC:y.C≠y.f/\y.C≠y.T
 fd:FeedAt H y.f
 tf:y.T≠y.f
 k:GmK y.ns y.ts y.p
 n3:y.ns.length<=3
 nd:y.ns.Nodup
 cl:y.cs.length=y.ns.length
 cok:dy y.cs y.p
 sr:0<=y.s/\y.s<y.p
theorem S34.keep{H H':Hp}{y:Wq}{ys:List V}(s:S34 CG H y)(hT:H y.T=some (.lst ys))(k:∀a o,a≠y.f->a≠y.T->vV o->H a=some o->H' a=some o)(F':FeedAt H' y.f):S34 CG H' y:=by
 obtain⟨⟨a,b,tv,g0⟩,⟨a',b',d,tv',⟨dx,h1⟩,h2,h3,h4,h5,h6,h7⟩,hl,nm,nN,ml,nM,bl,nB,co,nC,fd,tf,gk,n3,nd,cl,cok,sr⟩:=s;have kT:bu H H':=fun a xs e=>k _ _ (jV fd e (by intro ys z;cases z)) (be e hT (by intro z;cases z)) trivial e
 exact⟨⟨a,b,tv,g0.mono kT⟩,⟨a',b',d,tv',⟨dx,k _ _ (jV fd h1 (by intro ys z;cases z)) (be h1 hT (by intro z;cases z)) (vN ..) h1⟩,kT _ _ h2,kT _ _ h3,h4.mono kT,k _ _ h6 h7 trivial h5,h6,h7⟩,hl.mono kT,k _ _ nN.1 nN.2 trivial nm,nN,k _ _ nM.1 nM.2 trivial ml,nM,k _ _ nB.1 nB.2 trivial bl,nB,k _ _ nC.1 nC.2 trivial co,nC,F',tf,gk,n3,nd,cl,cok,sr⟩
theorem S34.g{H:Hp}{y:Wq}(s:S34 CG H y):Gm CG H y.g y.ns y.ts y.p:=by
 obtain⟨a,b,d,tv,h1,h2,h3,h4,h5,_⟩:=s.gm;exact⟨a,b,d,tv,h1,h2,h3,h4,h5⟩
structure Mn(CM:Addr)(H:Hp)(g h M b dm c:Addr)(n:Nat)(p:Int)(bx:Str->Int):Prop where
 hM:H M=some (.ins CM dm (ml g h (n:Int) b))
 hb:BxAt H b bx (200*n)
 hc:BxAt H c bx (200*n)
 bo:ie p bx
theorem Mn.keep{H H':Hp}{g h M b dm c:Addr}{n:Nat}{p:Int}{bx:Str->Int}(x:Mn CM H g h M b dm c n p bx)(k:∀a o,(∃kvs,o=.dK kvs)∨(∃C d fs,o=.ins C d fs)->a=M∨a=b∨a=c->H a=some o->H' a=some o):Mn CM H' g h M b dm c n p bx:=by
 refine⟨k _ _ (.inr ⟨_,_,_,rfl⟩) (.inl rfl) x.hM,x.hb.keep (fun o e=>k _ _ (.inl ?_) (.inr (.inl rfl)) e),x.hc.keep (fun o e=>k _ _ (.inl ?_) (.inr (.inr rfl)) e),x.bo⟩
 . obtain⟨kvs,eb,_⟩:=x.hb;rw[eb]at e;exact⟨_,(zS0 e).symm⟩
 . obtain⟨kvs,eb,_⟩:=x.hc;rw[eb]at e;exact⟨_,(zS0 e).symm⟩
structure W34(CM CG:Addr)(H:Hp)(y:Wq)(n1 n2:Nat)(bx1 bx2:Str->Int)(tl:List Tl):Prop where
 st:S34 CG H y
 m1:Mn CM H y.g y.h y.M1 y.b1 y.d1 y.c1 n1 y.p bx1
 m2:Mn CM H y.g y.h y.M2 y.b2 y.d2 y.c2 n2 y.p bx2
 di:y.M1≠y.M2/\y.b1≠y.c1/\y.b2≠y.c2/\y.b1≠y.b2/\y.b1≠y.c2/\y.c1≠y.b2/\y.c1≠y.c2
 hT:H y.T=some (.lst (tlV tl))
 td:∀x∈tl,TlAt H y.T x/\x.2.1≠y.f/\x.2.2.1≠y.f
theorem TlAt.k{H H':Hp}{T f:Addr}{x:Tl}(F:FeedAt H f){ys:List V}(hT:H T=some (.lst ys))(h:TlAt H T x/\x.2.1≠f/\x.2.2.1≠f)(k:∀a o,a≠f->a≠T->vV o->H a=some o->H' a=some o):TlAt H' T x/\x.2.1≠f/\x.2.2.1≠f:=
 ⟨⟨k _ _ (jV F h.1.1 (by intro ys z;cases z)) (be h.1.1 hT (by intro z;cases z)) trivial h.1.1,k _ _ h.2.1 h.1.2.2.2.1 trivial h.1.2.1,k _ _ h.2.2 h.1.2.2.2.2 trivial h.1.2.2.1,h.1.2.2.2⟩,h.2⟩
theorem W34.same{H H':Hp}{y:Wq}{n1 n2:Nat}{bx1 bx2:Str->Int}{tl:List Tl}(w:W34 CM CG H y n1 n2 bx1 bx2 tl)(s:Same H H'):W34 CM CG H' y n1 n2 bx1 bx2 tl:=
 ⟨w.st.keep w.hT (fun a o _ _ _ e=>s a o e) (w.st.fd.same s),w.m1.keep (fun a o _ _ e=>s a o e),w.m2.keep (fun a o _ _ e=>s a o e),w.di,s _ _ w.hT,fun x hx=>TlAt.k w.st.fd w.hT (w.td x hx) (fun a o _ _ _ e=>s a o e)⟩
theorem W34.feed{H H':Hp}{y:Wq}{n1 n2:Nat}{bx1 bx2:Str->Int}{tl:List Tl}(w:W34 CM CG H y n1 n2 bx1 bx2 tl)(s:SameBut y.f H H')(F':FeedAt H' y.f):W34 CM CG H' y n1 n2 bx1 bx2 tl:=by
 have kk:∀a o,(∃kvs,o=.dK kvs)∨(∃C d fs,o=.ins C d fs)->H a=some o->H' a=some o:=fun a o ho e=>s a o (jV w.st.fd e (by
  rcases ho with⟨_,rfl⟩ | ⟨_,_,_,rfl⟩ <;> (intro ys z;cases z))) e
 exact⟨w.st.keep w.hT (fun a o n _ _ e=>s a o n e) F',w.m1.keep (fun a o h _ e=>kk a o h e),w.m2.keep (fun a o h _ e=>kk a o h e),w.di,s _ _ w.st.tf w.hT,fun x hx=>TlAt.k w.st.fd w.hT (w.td x hx) (fun a o n _ _ e=>s a o n e)⟩
theorem qN{H H':Hp}{M b bb kn T g h dm b0:Addr}{n:Int}{f:Addr}{k1 k2 k3:List (Key×V)}(x:Ap M b bb kn T H H')(hM:H M=some (.ins CM dm (ml g h n b0)))(hb:H b=some (.dK k1))(hc:H bb=some (.dK k2))(hk:H kn=some (.dK k3)):∀a o,a≠f->a≠T->vV o->H a=some o->H' a=some o:=fun a o _ nT st e=>by
 refine x a o (fun z=>?_) (fun z=>?_) (fun z=>?_) (fun z=>?_) nT e
 . rw [z,hM]at e;cases e
   have:=(show(ml g h n b0).lookup ("game":Str)=none from st)
   rw[Dl]at this;cases this
 . rw[z,hb]at e;cases e;exact st
 . rw[z,hc]at e;cases e;exact st
 . rw[z,hk]at e;cases e;exact st
theorem Mn.other{H H':Hp}{g h M b dm c:Addr}{n:Nat}{p:Int}{bx:Str->Int}{M' b' c' kn T g' h' dm' b0':Addr}{n':Int}{k1 k2 k3:List (Key×V)}{ys:List V}(x:Mn CM H g h M b dm c n p bx)(s:Ap M' b' c' kn T H H')(hM:H M'=some (.ins CM dm' (ml g' h' n' b0')))(hb:H b'=some (.dK k1))(hc:H c'=some (.dK k2))(hk:H kn=some (.dK k3))(hT:H T=some (.lst ys))(nM:M≠M')(n1:b≠b')(n2:b≠c')(n3:b≠kn)(n4:c≠b')(n5:c≠c')(n6:c≠kn):Mn CM H' g h M b dm c n p bx:=by
 refine x.keep (fun a o ho ha e=>?_);have aT:a≠T:=be e hT (by rcases ho with⟨_,rfl⟩ | ⟨_,_,_,rfl⟩ <;> (intro z;cases z));obtain⟨kb,eb,_⟩:=x.hb;obtain⟨kc,ec,_⟩:=x.hc;rcases ha with rfl | rfl | rfl
 . have hi:=x.hM;exact s _ _ nM (be hi hb (by intro z;cases z)) (be hi hc (by intro z;cases z)) (be hi hk (by intro z;cases z)) aT e
 . exact s _ _ (be eb hM (by intro z;cases z)) n1 n2 n3 aT e
 . exact s _ _ (be ec hM (by intro z;cases z)) n4 n5 n6 aT e
theorem W34.ask1{H H':Hp}{y:Wq}{n1 n2:Nat}{bx1 bx2 bx':Str->Int}{tl:List Tl}{kn:Addr}{k3:List (Key×V)}{x:Tl}(w:W34 CM CG H y n1 n2 bx1 bx2 tl)(s:Ap y.M1 y.b1 y.c1 kn y.T H H')(hk:H kn=some (.dK k3))(nk:y.b2≠kn/\y.c2≠kn)(m1:Mn CM H' y.g y.h y.M1 y.b1 y.d1 y.c1 (n1+1) y.p bx')(hx:TlAt H' y.T x/\x.2.1≠y.f/\x.2.2.1≠y.f)(hT:H' y.T=some (.lst (tlV (tl++[x])))):W34 CM CG H' y (n1+1) n2 bx' bx2 (tl++[x]):=by
 obtain ⟨k1,e1,_⟩:=id w.m1.hb;obtain⟨k2,e2,_⟩:=id w.m1.hc;have kp:=qN (f:=y.f) s w.m1.hM e1 e2 hk;have F':FeedAt H' y.f:=by
  obtain⟨u,t,eu,r⟩:=w.st.fd;exact⟨u,t,s _ _ (be eu w.m1.hM (by intro z;cases z)) (be eu e1 (by intro z;cases z)) (be eu e2 (by intro z;cases z)) (be eu hk (by intro z;cases z)) w.st.tf.symm eu,r⟩
 obtain⟨i1,i2,i3,i4,i5,i6,i7⟩:=w.di;refine⟨w.st.keep w.hT kp F',m1,w.m2.other s w.m1.hM e1 e2 hk w.hT i1.symm i4.symm i6.symm nk.1 i5.symm i7.symm nk.2,w.di,hT,fun u hu=>?_⟩;rcases qD0 hu with h | h
 . exact TlAt.k w.st.fd w.hT (w.td u h) kp
 . rw[zP0 h];exact hx
theorem W34.ask2{H H':Hp}{y:Wq}{n1 n2:Nat}{bx1 bx2 bx':Str->Int}{tl:List Tl}{kn:Addr}{k3:List (Key×V)}{x:Tl}(w:W34 CM CG H y n1 n2 bx1 bx2 tl)(s:Ap y.M2 y.b2 y.c2 kn y.T H H')(hk:H kn=some (.dK k3))(nk:y.b1≠kn/\y.c1≠kn)(m2:Mn CM H' y.g y.h y.M2 y.b2 y.d2 y.c2 (n2+1) y.p bx')(hx:TlAt H' y.T x/\x.2.1≠y.f/\x.2.2.1≠y.f)(hT:H' y.T=some (.lst (tlV (tl++[x])))):W34 CM CG H' y n1 (n2+1) bx1 bx' (tl++[x]):=by
 obtain ⟨k1,e1,_⟩:=id w.m2.hb;obtain⟨k2,e2,_⟩:=id w.m2.hc;have kp:=qN (f:=y.f) s w.m2.hM e1 e2 hk;have F':FeedAt H' y.f:=by
  obtain⟨u,t,eu,r⟩:=w.st.fd;exact⟨u,t,s _ _ (be eu w.m2.hM (by intro z;cases z)) (be eu e1 (by intro z;cases z)) (be eu e2 (by intro z;cases z)) (be eu hk (by intro z;cases z)) w.st.tf.symm eu,r⟩
 obtain⟨i1,i2,i3,i4,i5,i6,i7⟩:=w.di;refine⟨w.st.keep w.hT kp F',w.m1.other s w.m2.hM e1 e2 hk w.hT i1 i4 i5 nk.1 i6 i7 nk.2,m2,w.di,hT,fun u hu=>?_⟩;rcases qD0 hu with h | h
 . exact TlAt.k w.st.fd w.hT (w.td u h) kp
 . rw[zP0 h];exact hx
end
end
section
variable {P:Program} {w:World} {K:W.Frag} {mg:Str->Option Value} {base:Heap}
section
variable {CM CA CG:Addr}
theorem Bx{ns:List Str}{ts:List Tr}{p:Int}(k:GmK ns ts p)(x:Str):0<=aZ ts x/\aZ ts x<=400:=by
 have t0:ts≠[]:=fun z=>by have:=k.t1;rw[z]at this;cases this
 have:=jw (ns:=ts.map fun t=>(t.names.count x:Int)) (by simpa using t0)
 obtain⟨t,ht,e⟩:=List.mem_map.mp this;unfold aZ;rw[←e];have h1:=List.count_le_length (a:=x) (l:=t.names);have h2:=t.names_len;have h3:=(k.tok t ht).2.2.2;omega
theorem Bc{X:Cx}(K:W.Frag)(hu:X.A.units+64<cLine)(hK:X.K=K:=by rfl):OpR X (compareOp .NotEq) (rNeD K):=by subst hK;exact qt hu
def tA34(K:W.Frag):TS:=fun Dn σ H=>∃(a0 gh a b N:Addr)(y1 y2:Option V)(ns0:List Int)(ns:List Str)(tv:List V)(ts:List Tr)(p:Int)(x0 x1 x2:Str),σ=[some (.ref a0),y1,y2,some (.ref gh),some (.ref N),none,none,none,none,none,none,none,none,none,none,none,none,none,none,none,none,none]/\SqL K H a0 (ns0.map V.int)/\ns0.length<=63/\GmT H gh a b ns tv ts p/\GmK ns ts p/\ns.length<=3/\ns.Nodup/\H N=some (.lst ([x0,x1,x2].map V.str))/\∀H',Dn.rt (.bl true) H'
def tB34(K:W.Frag):TS:=fun Dn σ H=>∃(a0 gh a b N h:Addr)(y1 y2 y5:Option V)(ns0:List Int)(ns:List Str)(tv:List V)(ts:List Tr)(p:Int)(xs:List Str)(rows:List Hr),σ=[some (.ref a0),y1,y2,some (.ref gh),some (.ref N),y5,some (.ref h),none,none,none,none,none,none,none,none,none,none,none,none,none,none,none]/\SqL K H a0 (ns0.map V.int)/\ns0.length<=63/\GmT H gh a b ns tv ts p/\GmK ns ts p/\ns.length<=3/\ns.Nodup/\H N=some (.lst (xs.map V.str))/\xs.length=3/\HlpAt H h rows/\∀H',Dn.rt (.bl true) H'
def tD34(CM CG:Addr):TS:=fun Dn σ H=>∃(y:Wq)(z0 z2 z5 z7 z12 z16 z17 z18 z19 z20 z21:Option V)(n:Nat)(nn mv:Int)(bx1 bx2:Str->Int)(tl:List Tl),σ=[z0,some (.ref y.f),z2,some (.ref y.gh),some (.ref y.N),z5,some (.ref y.h),z7,some (.ref y.ML),some (.ref y.BL),some (.ref y.T),some (.int y.s),z12,some (.ref y.C),some (.int nn),some (.int mv),z16,z17,z18,z19,z20,z21]/\nn=(n:Int)/\W34 CM CG H y n n bx1 bx2 tl/\n<=y.ns.length/\1<=mv/\mv<=410/\tl.length=2*n/\
 ∀(w15 w16 w17 w18 w19 w20 w21:Option V)(bx1' bx2':Str->Int)(tl':List Tl)(H':Hp),W34 CM CG H' y (n+1) (n+1) bx1' bx2' tl'->tl'.length=2*(n+1)->(∀a ys,a≠y.f->a≠y.T->H a=some (.lst ys)->H' a=some (.lst ys))->Dn.nx [z0,some (.ref y.f),z2,some (.ref y.gh),some (.ref y.N),z5,some (.ref y.h),z7,some (.ref y.ML),some (.ref y.BL),some (.ref y.T),some (.int y.s),z12,some (.ref y.C),some (.int nn),w15,w16,w17,w18,w19,w20,w21] H'
def tE34(CM CG:Addr):TS:=fun Dn σ H=>∃(y:Wq)(z0 z2 z5 z7 z12 z17 z18 z19 z20 z21:Option V)(D:Addr)(n:Nat)(mv u0 u1:Int)(bx1 bx2:Str->Int)(tl:List Tl),σ=[z0,some (.ref y.f),z2,some (.ref y.gh),some (.ref y.N),z5,some (.ref y.h),z7,some (.ref y.ML),some (.ref y.BL),some (.ref y.T),some (.int y.s),z12,some (.ref y.C),some (.int (n:Int)),some (.int mv),some (.ref D),z17,z18,z19,z20,z21]/\W34 CM CG H y n n bx1 bx2 tl/\n<=y.ns.length/\1<=mv/\mv<=410/\tl.length=2*n/\H D=some (.lst ([u0,u1].map V.int))/\(0<=u0/\u0<y.p)/\(0<=u1/\u1<y.p)/\∀(w15 w16 w17 w18 w19 w20 w21:Option V)(bx1' bx2':Str->Int)(tl':List Tl)(H':Hp),W34 CM CG H' y (n+1) (n+1) bx1' bx2' tl'->tl'.length=2*(n+1)->(∀a ys,a≠y.f->a≠y.T->H a=some (.lst ys)->H' a=some (.lst ys))->Dn.nx [z0,some (.ref y.f),z2,some (.ref y.gh),some (.ref y.N),z5,some (.ref y.h),z7,some (.ref y.ML),some (.ref y.BL),some (.ref y.T),some (.int y.s),z12,some (.ref y.C),some (.int (n:Int)),w15,w16,w17,w18,w19,w20,w21] H'
def tF34(CM CG:Addr):TS:=fun Dn σ H=>∃(y:Wq)(z0 z2 z5 z7 z12 z20 z21:Option V)(D c D2 X:Addr)(n:Nat)(mv u0 u1 m0 m1:Int)(ta tb:List Int)(bx1 bx2:Str->Int)(tl:List Tl),σ=[z0,some (.ref y.f),z2,some (.ref y.gh),some (.ref y.N),z5,some (.ref y.h),z7,some (.ref y.ML),some (.ref y.BL),some (.ref y.T),some (.int y.s),z12,some (.ref y.C),some (.int (n:Int)),some (.int mv),some (.ref D),some (.ref c),some (.ref D2),some (.ref X),z20,z21]/\W34 CM CG H y n n bx1 bx2 tl/\n<=y.ns.length/\1<=mv/\mv<=410/\tl.length=2*n/\H D=some (.lst ([u0,u1].map V.int))/\(0<=u0/\u0<y.p)/\(0<=u1/\u1<y.p)/\H c=some (.lst (ta.map V.int))/\H D2=some (.lst (tb.map V.int))/\H X=some (.lst ([m0,m1].map V.int))/\(0<=m0/\m0<y.p)/\(0<=m1/\m1<y.p)/\dy ta y.p/\dy tb y.p/\ta.length=n-1/\tb.length=n-1/\(n=0->m0=0/\m1=0)/\∀(w15 w16 w17 w18 w19 w20 w21:Option V)(bx1' bx2':Str->Int)(tl':List Tl)(H':Hp),W34 CM CG H' y (n+1) (n+1) bx1' bx2' tl'->tl'.length=2*(n+1)->(∀a ys,a≠y.f->a≠y.T->H a=some (.lst ys)->H' a=some (.lst ys))->Dn.nx [z0,some (.ref y.f),z2,some (.ref y.gh),some (.ref y.N),z5,some (.ref y.h),z7,some (.ref y.ML),some (.ref y.BL),some (.ref y.T),some (.int y.s),z12,some (.ref y.C),some (.int (n:Int)),w15,w16,w17,w18,w19,w20,w21] H'
theorem bL:FnScope ["_law_script","_law_feed_here","_law_size","_law_game_here","_law_names_here","_law_form","_law_helper_here","_law_made","_law_machines","_law_boxes","_law_told","_law_s","_law_rounds","_law_coins","_law_number","_law_many","_law_dues","_law_tossed","_law_turned","_law_mixes","_law_one","_law_other"] ["_law_script"] (ae kL):=⟨rfl,rfl,rfl,by decide +kernel,rfl,by decide +kernel,by decide +kernel⟩
theorem Db {f fI fM fB:Addr} {fd fdI fdM fdB:FuncData} (F:Fun K "law" "law" kL f fd) (B:Bl mg) (TM:MTxt K mg CM) (TG:GTxt K mg CG) (MG:Mk K CG fI) (GI:FnOk P w K mg base CX0 14 fI fdI ["self","switches","trees","field"] (vt CG)) (bI:Binds K fdI ["self","switches","trees","field"] [])
 (MM:Mk K CM fM) (GM:FnOk P w K mg base CX0 1 fM fdM ["self","game","helper"] (vi CM)) (bM:Binds K fdM ["self","game","helper"] []) (mB:Meth K CM "box" fB) (GB:FnOk P w K mg base CX0 1 fB fdB ["self","x"] (yr CM)) (bB:Binds K fdB ["self","x"] [])
 (eM:Cal P w K mg base 1 "_law_feed" ["_law_script","_law_k"] (yo K)) (aU:Cal P w K mg base 1 "_law_take" ["_law_feed_here","_law_many"] fZ) (e9:Cal P w K mg base 2 "_law_names" ["_law_feed_here","_law_many"] nJ) (u8:Cal P w K mg base 14 "_law_game" ["_law_feed_here","_law_most","_law_room"] ym)
 (mQ:Cal P w K mg base 11 "_law_helper" ["_law_feed_here","_law_boxes","_law_most"] yk) (u9:Cal P w K mg base 2 "_law_liar" ["_law_feed_here","_law_box"] yh) (va:Cal P w K mg base 11 "_law_long" ["_law_feed_here","_law_boxes"] yg) (j5:Cal P w K mg base 13 "_law_degrees" ["_law_game_here"] yi)
 (qd:Cal P w K mg base 1 "_law_now" ["_law_game_here","_law_number","_law_many","_law_due","_law_s","_law_coins"] BO) (iY:Cal P w K mg base 29 "_law_asked" ["_law_machine","_law_helper_here","_law_now_here","_law_boxes","_law_names_here","_law_told"] (BS CM CG)):FnOk P w K mg base CX0 30 f fd ["_law_script"] (vq K):=by
 refine F.ok bL (fun vs H Q E h=>?_) (fun cdv A outer s H vs Q E hr h=>?_)
 . obtain⟨a,ns,rfl,_⟩:=h;rfl
 obtain ⟨a0,ns0,rfl,hS,h63,q⟩:=h;have hr15:Room (14+1) _:=hr.mono (by decide);have hr2:Room (1+1) _:=hr.mono (by decide);have hr1:Room 1 _:=hr.mono (by decide);refine⟨_,PSW.out (aC (aV (i:=1) bL.nd rfl (Or.inr rfl) ⟨ai eM hr (by decide) rfl (af (pv 0) (af aa aJ))⟩)
  (aC (aV (i:=2) bL.nd rfl (Or.inl rfl) ⟨av ix_list (PEW.out (tj (au (bJ (au jf (au jf bt))) (au (bJ (au jf (au jf bt))) bt)))) (ai aU hr (by decide) rfl (af (pv 1) (af aa aJ))) (fun _ _=>rfl)⟩)
  (aC (aV (i:=3) bL.nd rfl (Or.inr rfl) ⟨ai u8 hr (by decide) rfl (af (ai eM hr (by decide) rfl (af (pv 0) (af aa aJ))) (af (av aB (pv 2) aa (fun _ _=>rfl)) (af (av aB (pv 2) aa (fun _ _=>rfl)) aJ)))⟩)
  (aC (aV (i:=4) bL.nd rfl (Or.inl rfl) ⟨ai e9 hr (by decide) rfl (af (ai eM hr (by decide) rfl (af (pv 0) (af aa aJ))) (af aa aJ))⟩)
  (aC (eV (PW.pt (jr (ah cU (aD qM rfl B.len PySem.boot_len (af (av ix_list (pv 4) aa (fun _ _=>rfl)) aJ)) aa (aj _)) (iO (ah eE (ai aU hr (by decide) rfl (af (ai eM hr (by decide) rfl (af (pv 0) (af aa aJ))) (af aa aJ))) aa (aj _))))) ⟨ad (ki (ag km (av ix_list (pv 4) aa (fun _ _=>rfl)) aq) (lN (pv 4) aa ig))⟩ cM)
  (ia (t':=tA34 K) (aC (aV (i:=1) bL.nd rfl (Or.inr rfl) ⟨ai eM hr (by decide) rfl (af (pv 0) (af aa aJ))⟩)
  (aC (aV (i:=5) bL.nd rfl (Or.inl rfl) ⟨ai aU hr (by decide) rfl (af (pv 1) (af aa aJ))⟩)
  (aC (aV (i:=6) bL.nd rfl (Or.inl rfl) ⟨ai mQ hr (by decide) rfl (af (pv 1) (af (pv 4) (af aa aJ)))⟩)
  (aC (eV (ah eE (pv 5) aa (aj _)) (dF (aV (i:=6) bL.nd rfl (Or.inl rfl) ⟨ai u9 hr (by decide) rfl (af (pv 1) (af (av ix_list (pv 4) aa (fun _ _=>rfl)) aJ))⟩)) cM)
  (aC (eV (ah aM (pv 5) aa (aj _)) (dF (aV (i:=6) bL.nd rfl (Or.inl rfl) ⟨ai va hr (by decide) rfl (af (pv 1) (af (pv 4) aJ))⟩)) cM)
  (ia (t':=tB34 K) (aC (aV (i:=7) bL.nd rfl (Or.inl rfl) ⟨mX MG GI hr15 rfl TG.mgC bI .nil fU (af (av aB (pv 3) aa (fun _ _=>rfl)) (af (av aB (pv 3) aa (fun _ _=>rfl)) (af (av aB (pv 3) aa (fun _ _=>rfl)) aJ)))⟩)
  (aC (aV (i:=8) bL.nd rfl (Or.inr rfl) ⟨bU (af (mX MM GM hr2 rfl TM.mgC bM .nil fU (af (pv 7) (af (pv 6) aJ))) (af (mX MM GM hr2 rfl TM.mgC bM .nil fU (af (pv 7) (af (pv 6) aJ))) aJ))⟩)
  (aC (aV (i:=9) bL.nd rfl (Or.inl rfl) ⟨bU (af kW (af kW aJ))⟩)
  (aC (aV (i:=10) bL.nd rfl (Or.inl rfl) ⟨bU aJ⟩)
  (aC (eV (ah (qt hr.units) (ag fF (bX (N:=["_law_machines"]) (ix:=[8]) rfl
   (CompScope.one (by with_unfolding_all rfl) (by decide) rfl (by decide) rfl (by decide +kernel) (by with_unfolding_all rfl) (by with_unfolding_all rfl) (by with_unfolding_all rfl) (by with_unfolding_all rfl) (by with_unfolding_all rfl)) rfl
   (bV (pv 4)) (fun _ _ _=>bQ (eD (av (oz K) (pv 1) aa (fun _ _=>rfl)) TM.cl mB GB hr1 bB .nil fU (af (pv 0) aJ)))) (bX (N:=["_law_machines"]) (ix:=[8]) rfl
   (CompScope.one (by with_unfolding_all rfl) (by decide) rfl (by decide) rfl (by decide +kernel) (by with_unfolding_all rfl) (by with_unfolding_all rfl) (by with_unfolding_all rfl) (by with_unfolding_all rfl) (by with_unfolding_all rfl)) rfl
   (bV (pv 4)) (fun _ _ _=>bQ (eD (av (oz K) (pv 1) aa (fun _ _=>rfl)) TM.cl mB GB hr1 bB .nil fU (af (pv 0) aJ))))) (ag ue (bU (af aa aJ)) aa) (aj _)) (dF (iK ⟨hU⟩)) cM)
  (aC (aV (i:=1) bL.nd rfl (Or.inr rfl) ⟨ai eM hr (by decide) rfl (af (pv 0) (af aa aJ))⟩)
  (aC (aV (i:=11) bL.nd rfl (Or.inl rfl) ⟨ag aW (ai aU hr (by decide) rfl (af (pv 1) (af (av aB (pv 3) aa (fun _ _=>rfl)) aJ))) (bh gK rfl B.int fJ (af (cp eE (aD az rfl B.len PySem.boot_len (af (av aB (pv 3) aa (fun _ _=>rfl)) aJ)) aa (aj _)) aJ))⟩)
  (aC (aV (i:=12) bL.nd rfl (Or.inl rfl) ⟨ag fF (bU (af (aD az rfl B.len PySem.boot_len (af (av aB (pv 3) aa (fun _ _=>rfl)) aJ)) aJ)) (bX (N:=[]) (ix:=[]) (cl:=[]) rfl (CompScope.closed (by with_unfolding_all rfl) (by decide) rfl (by decide) rfl (by with_unfolding_all rfl)) rfl (bV (ai j5 hr (by decide) rfl (af (pv 3) aJ))) (fun _ _ _=>bQ (ag aR (pv 0) aa)))⟩)
  (aC ⟨jS (i:=13) (N:=["_law_game_here","_law_feed_here"]) (ix:=[3,1]) bL.nd rfl (Or.inl rfl) rfl
   (CompScope.two (by with_unfolding_all rfl) (by decide) rfl (by decide) rfl (by decide +kernel) (by first | exact Or.inl rfl | exact Or.inr rfl) (by with_unfolding_all rfl) (by with_unfolding_all rfl) (by with_unfolding_all rfl) (by with_unfolding_all rfl) rfl rfl (by with_unfolding_all rfl) rfl rfl) rfl
   (bv rfl B.range (af (aD az rfl B.len PySem.boot_len (af (av aB (pv 3) aa (fun _ _=>rfl)) aJ)) aJ)) (fun _ _ _=>bQ (ai aU hr (by decide) rfl (af (pv 2) (af (av (ni K) (pv 1) aa (fun _ _=>rfl)) aJ))))⟩
  (aC ⟨bY PassesOwn.never rfl (Ba rfl B.enumerate (pv 12)) (qm rfl (eg (ba (i:=14) bL.nd rfl (Or.inr rfl)) (eg (ba (i:=15) bL.nd rfl (Or.inl rfl)) mV))) (PSW.out (ia (t':=tD34 CM CG) (aC ⟨jS (i:=16) (N:=["_law_number","_law_game_here","_law_feed_here"]) (ix:=[14,3,1]) bL.nd rfl (Or.inl rfl) rfl
   (CompScope.three (by with_unfolding_all rfl) (by decide) rfl (by decide) rfl (by decide +kernel) rfl (by with_unfolding_all rfl) (by with_unfolding_all rfl) (by with_unfolding_all rfl) (by with_unfolding_all rfl) (by with_unfolding_all rfl) rfl rfl (by with_unfolding_all rfl) rfl rfl (by with_unfolding_all rfl) rfl rfl) rfl
   (bv rfl B.range (af aa aJ)) (fun _ _ _=>bQ (ag aW (ai aU hr (by decide) rfl (af (pv 3) (af (av (ni K) (pv 2) aa (fun _ _=>rfl)) aJ))) (bh gK rfl B.int fJ (af (cp eE (pv 1) aa (aj _)) aJ))))⟩
   (aC (eV (PW.pt (jr (ah eE (pv 14) aa (aj _)) (iO (ah aM (ai aU hr (by decide) rfl (af (pv 1) (af aa aJ))) aa (aj _))))) (dF (aV (i:=15) bL.nd rfl (Or.inl rfl) jf)) cM)
   (ia (t':=tE34 CM CG) (aC (aV (i:=17) bL.nd rfl (Or.inl rfl) ⟨iD AI (pv 13) kP (iQ (aD (lT rfl) rfl B.max PyProof.Rows.boot_max (af aa (af (ag aQ (pv 14) aa) aJ))))⟩)
   (aC ⟨jS (i:=18) (N:=["_law_game_here"]) (ix:=[3]) bL.nd rfl (Or.inl rfl) rfl
    (CompScope.one (by with_unfolding_all rfl) (by decide) rfl (by decide) rfl (by decide +kernel) (by with_unfolding_all rfl) (by with_unfolding_all rfl) (by with_unfolding_all rfl) (by with_unfolding_all rfl) (by with_unfolding_all rfl)) rfl
    (bV (pv 17)) (fun _ _ _=>bQ (ag aQ (ag aQ (av (ni K) (pv 1) aa (fun _ _=>rfl)) aa) (pv 0)))⟩
   (aC (aV (i:=19) bL.nd rfl (Or.inl rfl) ⟨bU (af (ag aW (pv 11) (bh gK rfl B.int fJ (af (cp eE (pv 14) aa (aj _)) aJ))) (af (ag aW (ag aN (ag aR (pv 11) aa) (av aB (pv 3) aa (fun _ _=>rfl))) (bh gK rfl B.int fJ (af (oh (cp eE (pv 14) aa (aj _)) (kj (cp eE (aD az rfl B.len PySem.boot_len (af (av aB (pv 3) aa (fun _ _=>rfl)) aJ)) aa (aj _)))) aJ))) aJ))⟩)
   (ia (t':=tF34 CM CG) (aC (aV (i:=20) bL.nd rfl (Or.inl rfl) ⟨ai qd hr (by decide) rfl (af (pv 3) (af (pv 14) (af (pv 15) (af (av ix_list (pv 16) aa (fun _ _=>rfl)) (af (av ix_list (pv 19) aa (fun _ _=>rfl)) (af (pv 17) aJ))))))⟩)
   (aC (aV (i:=21) bL.nd rfl (Or.inl rfl) ⟨ai qd hr (by decide) rfl (af (pv 3) (af (pv 14) (af (pv 15) (af (av ix_list (pv 16) aa (fun _ _=>rfl)) (af (av ix_list (pv 19) aa (fun _ _=>rfl)) (af (pv 18) aJ))))))⟩)
   (aC (eV (jt (iP (ai iY hr (by decide) rfl (af (av ix_list (pv 8) aa (fun _ _=>rfl)) (af (pv 6) (af (pv 20) (af (av ix_list (pv 9) aa (fun _ _=>rfl)) (af (pv 4) (af (pv 10) aJ))))))))) (dF (iK ⟨hU⟩)) cM)
   (dF (eV (jt (iP (ai iY hr (by decide) rfl (af (av ix_list (pv 8) aa (fun _ _=>rfl)) (af (pv 6) (af (pv 21) (af (av ix_list (pv 9) aa (fun _ _=>rfl)) (af (pv 4) (af (pv 10) aJ))))))))) (dF (iK ⟨hU⟩)) cM))))) ?cF)))) ?cE))) ?cD))⟩
  (dF (iK ⟨cp (zk hr.units) (yW (N:=[]) (ix:=[]) (cl:=[]) rfl
   (CompScope.closed (by with_unfolding_all rfl) (by decide) rfl (by decide) rfl (by with_unfolding_all rfl)) rfl (by decide +kernel) rfl
   (bV (pv 10)) (fun _ _ _=>yY (ah (Bc K hr.units) (pv 0) (pv 1) (aj _)) aa)) (bU aJ) (aj _)⟩)))))))))))) ?cB)))))) ?cA)))))),?_⟩
 case cF=>
  rintro Dn σ H ⟨y,z0,z2,z5,z7,z12,z20,z21,D,c,D2,X,n,mv,u0,u1,m0,m1,ta,tb,bx1,bx2,tl,rfl,W,hn,mv1,mv4,tll,hD,u0r,u1r,hc,hD2,hX,m0r,m1r,tao,tbo,tal,tbl,mz,q⟩;have n3:=W.st.n3;obtain⟨ga,gb,gtv,GT⟩:=W.st.gt;obtain⟨zA,eA⟩:∃z:Ak,z=⟨y.ns,y.ts,y.p,(n:Int),mv,u0,m0,ta⟩:=⟨_,rfl⟩
  obtain⟨zB,eB⟩:∃z:Ak,z=⟨y.ns,y.ts,y.p,(n:Int),mv,u1,m1,tb⟩:=⟨_,rfl⟩
  have okA:AkOk zA:=by
   subst eA;exact⟨W.st.k,by show y.ns.length<=6;omega,by show 0<=(n:Int);omega,(fun h=>by have h':0<(n:Int):=h;show ta.length<y.ns.length;omega),tao,m0r.1,m0r.2,u0r.1,u0r.2,by show ta.length<=100;omega⟩
  have okB:AkOk zB:=by
   subst eB;exact⟨W.st.k,by show y.ns.length<=6;omega,by show 0<=(n:Int);omega,(fun h=>by have h':0<(n:Int):=h;show tb.length<y.ns.length;omega),tbo,m1r.1,m1r.2,u1r.1,u1r.2,by show tb.length<=100;omega⟩
  have zA0:zA.nr=0->zA.s=0/\zA.to=[]:=by
   subst eA;intro h;have i0:n=0:=by have:(n:Int)=0:=h;omega
   exact⟨(mz i0).1,List.eq_nil_of_length_eq_zero (by show ta.length=0;omega)⟩
  have zB0:zB.nr=0->zB.s=0/\zB.to=[]:=by
   subst eB;intro h;have i0:n=0:=by have:(n:Int)=0:=h;omega
   exact⟨(mz i0).2,List.eq_nil_of_length_eq_zero (by show tb.length=0;omega)⟩
  refine ⟨_,_,zG0 hD,rfl,_,_,zG0 hX,rfl,y.gh,ga,gb,c,gtv,zA,(by rw[eA];rfl),by rw[eA];exact GT,by rw[eA];exact hc,by rw[eA];show ta.length<=100;omega,fun dA cA tA kA H1 dA0 cA0 tA0 kA0 NA S1=>?_⟩;have GT1:=GT.mono (aX S1);refine⟨_,_,zG0 (S1 _ _ hD),rfl,_,_,zG0 (S1 _ _ hX),rfl,y.gh,ga,gb,D2,gtv,zB,(by rw[eB];rfl),by rw[eB];exact GT1,by rw[eB];exact S1 _ _ hD2,by rw[eB];show tb.length<=100;omega,fun dB cB tB kB H2 dB0 cB0 tB0 kB0 NB S2=>?_⟩;have T2:=S1.trans S2;have W2:=W.same T2;have NA2:=NA.up S2 (zJ0 0);obtain⟨kb1,eb1,_⟩:=id W.m1.hb;obtain⟨kc1,ec1,_⟩:=id W.m1.hc;obtain⟨kb2,eb2,_⟩:=id W.m2.hb;obtain⟨kc2,ec2,_⟩:=id W.m2.hc;obtain⟨kkA,ekA,_⟩:=id NA2.hk;obtain⟨kkA1,ekA1,_⟩:=id NA.hk;have hML:=W2.st.ml;have hBL:=W2.st.bl;refine⟨_,_,zG0 hML,rfl,_,_,zG0 hBL,rfl,?_⟩;refine⟨y.M1,y.g,y.h,y.b1,y.d1,dA,y.gh,ga,gb,cA,tA,kA,y.c1,y.N,y.T,gtv,zA,y.rows,bx1,200*n,y.xs,tl,rfl,(by rw[eA];exact W2.m1.hM),W2.st.hl,W2.m1.hb,W2.m1.hc,by omega,(by rw[eA];exact W2.st.g),NA2,⟨aO eb1 dA0,aO eb1 kA0,aO ec1 kA0,(aO ec1 dA0).symm,W.di.2.1⟩,(by rw[eA];exact W.m1.bo),okA,(by rw[eA];exact W.st.nd),zA0,(by rw[eA];show 0<=mv;omega),(by rw[eA];show mv<=500;omega),W2.st.nm,W2.hT,⟨W.st.nN.2,(aO W.hT cA0).symm⟩,by omega,fun x H3 tx nwx hT3 BX3 BB3 hM3 S3=>(?_)⟩;have bo1:ie y.p (fQ zA y.rows 200 ⟨0,bx1,[]⟩).bx:=by
   have:=(mU (rows:=y.rows) okA 200 ⟨0,bx1,[]⟩ (by rw[eA];exact W.m1.bo) (fun x hx=>by cases hx) (by rw[eA];show(0:Int)<=mv;omega)).1
   rw[eA]at this ⊢;exact this
  generalize (fQ zA y.rows 200 ⟨0,bx1,[]⟩).bx=bxA at BX3 BB3 bo1;have hM3':H3 y.M1=some (.ins CM y.d1 (ml y.g y.h ((n+1:Nat):Int) y.b1)):=by
   rw[eA]at hM3;exact hM3
  obtain⟨fu,ft,ef,_⟩:=id W2.st.fd;have W3:=W2.ask1 S3 ekA ⟨aO eb2 kA0,aO ec2 kA0⟩ ⟨hM3',BX3.le (by omega),BB3.le (by omega),bo1⟩ ⟨tx,nwx _ _ ef⟩ hT3;have kp3:=qN (f:=y.f) S3 W2.m1.hM (T2 _ _ eb1) (T2 _ _ ec1) ekA;have L3:∀{a:Addr}{ys:List V},a≠y.T->H2 a=some (.lst ys)->H3 a=some (.lst ys):=fun n1 e=>S3 _ _ (be e W2.m1.hM (by intro z;cases z)) (be e (T2 _ _ eb1) (by intro z;cases z)) (be e (T2 _ _ ec1) (by intro z;cases z)) (be e ekA (by intro z;cases z)) n1 e
  have kT3:bu H2 H3:=fun a xs e=>S3 _ _ (be e W2.m1.hM (by intro z;cases z)) (be e (T2 _ _ eb1) (by intro z;cases z)) (be e (T2 _ _ ec1) (by intro z;cases z)) (be e ekA (by intro z;cases z)) (be e W2.hT (by intro z;cases z)) e
  obtain ⟨kkB,ekB,klB,krB⟩:=id NB.hk;have NB3:NowAt H3 dB y.gh ga gb cB tB kB gtv zB 0:=by
   refine⟨S3 _ _ (be NB.hd W2.m1.hM (by intro z;cases z)) (aO (S1 _ _ eb1) dB0).symm (aO (S1 _ _ ec1) dB0).symm (aO ekA1 dB0).symm (be NB.hd W2.hT (by intro z;cases z)) NB.hd,NB.gt.mono kT3,L3 (aO (S1 _ _ W.hT) cB0).symm NB.hc,L3 (aO (S1 _ _ W.hT) tB0).symm NB.ht,⟨kkB,S3 _ _ (be ekB W2.m1.hM (by intro z;cases z)) (aO (S1 _ _ eb1) kB0).symm (aO (S1 _ _ ec1) kB0).symm (aO ekA1 kB0).symm (be ekB W2.hT (by intro z;cases z)) ekB,klB,krB⟩,NB.dk⟩
  obtain⟨kkB3,ekB3,_⟩:=id NB3.hk;have tl3:(tl++[x]).length=2*n+1:=by rw[zO0,tll];rfl
  refine ⟨_,_,zG0 W3.st.ml,rfl,_,_,zG0 W3.st.bl,rfl,?_⟩;refine⟨y.M2,y.g,y.h,y.b2,y.d2,dB,y.gh,ga,gb,cB,tB,kB,y.c2,y.N,y.T,gtv,zB,y.rows,bx2,200*n,y.xs,tl++[x],rfl,(by rw[eB];exact W3.m2.hM),W3.st.hl,W3.m2.hb,W3.m2.hc,by omega,(by rw[eB];exact W3.st.g),NB3,⟨aO (S1 _ _ eb2) dB0,aO (S1 _ _ eb2) kB0,aO (S1 _ _ ec2) kB0,(aO (S1 _ _ ec2) dB0).symm,W.di.2.2.1⟩,(by rw[eB];exact W.m2.bo),okB,(by rw[eB];exact W.st.nd),zB0,(by rw[eB];show 0<=mv;omega),(by rw[eB];show mv<=500;omega),W3.st.nm,W3.hT,⟨W.st.nN.2,(aO (S1 _ _ W.hT) cB0).symm⟩,by omega,fun x' H4 tx' nwx' hT4 BX4 BB4 hM4 S4=>(?_)⟩;have bo2:ie y.p (fQ zB y.rows 200 ⟨0,bx2,[]⟩).bx:=by
   have:=(mU (rows:=y.rows) okB 200 ⟨0,bx2,[]⟩ (by rw[eB];exact W.m2.bo) (fun x hx=>by cases hx) (by rw[eB];show(0:Int)<=mv;omega)).1
   rw[eB]at this ⊢;exact this
  generalize (fQ zB y.rows 200 ⟨0,bx2,[]⟩).bx=bxB at BX4 BB4 bo2;have hM4':H4 y.M2=some (.ins CM y.d2 (ml y.g y.h ((n+1:Nat):Int) y.b2)):=by
   rw[eB]at hM4;exact hM4
  obtain ⟨fu3,ft3,ef3,_⟩:=id W3.st.fd;have W4:=W3.ask2 S4 ekB3 ⟨aO (S1 _ _ eb1) kB0,aO (S1 _ _ ec1) kB0⟩ ⟨hM4',BX4.le (by omega),BB4.le (by omega),bo2⟩ ⟨tx',nwx' _ _ ef3⟩ hT4;obtain⟨kb3,eb3,_⟩:=id W3.m2.hb;obtain⟨kc3,ec3,_⟩:=id W3.m2.hc;exact q _ _ _ _ _ _ _ bxA bxB _ H4 W4 (by rw[zO0,tl3];show 2*n+1+1=_;omega) (fun a ys nf nT e=>by
   have e3:=L3 nT (T2 _ _ e);exact S4 _ _ (be e3 W3.m2.hM (by intro z;cases z)) (be e3 eb3 (by intro z;cases z)) (be e3 ec3 (by intro z;cases z)) (be e3 ekB3 (by intro z;cases z)) nT e3)
 case cE=>
  rintro Dn σ H ⟨y,z0,z2,z5,z7,z12,z17,z18,z19,z20,z21,D,n,mv,u0,u1,bx1,bx2,tl,rfl,W,hn,mv1,mv4,tll,hD,u0r,u1r,q⟩;have p2:=W.st.k.p2;have p9:=W.st.k.p9;have n3:=W.st.n3;have cl:=W.st.cl;have sr:=W.st.sr;obtain⟨ga,gb,gtv,GT⟩:=W.st.gt;obtain⟨e,ee,e01,e0⟩:∃e:Int,(if decide (0<(n:Int))=true then(1:Int)else 0)=e/\(e=0∨e=1)/\(n=0->e=0):=⟨_,rfl,by split <;> simp,fun h=>by subst h;rfl⟩
  refine⟨_,_,rfl,_,rfl,y.C,_,rfl,zG0 W.st.co,fun c hc=>?_⟩;have em:(if((n:Int)-1)>0 then((n:Int)-1)else 0)=((n-1:Nat):Int):=by split <;> omega
  rw[em,DG (by rw[zH0];omega),←List.map_take];have I1:=zE0 hc (.lst ((y.cs.take (n-1)).map V.int));have g1:upd H c (.lst ((y.cs.take (n-1)).map V.int)) c=some (.lst ((y.cs.take (n-1)).map V.int)):=aE;have tal:(y.cs.take (n-1)).length=n-1:=by rw[qL0];omega
  have tao:dy (y.cs.take (n-1)) y.p:=fun x hx=>W.st.cok x (List.mem_of_mem_take hx)
  show mG _ _ _ _ (upd H c (.lst ((y.cs.take (n-1)).map V.int)));generalize upd H c (.lst ((y.cs.take (n-1)).map V.int))=H1 at I1 g1;generalize y.cs.take (n-1)=ta at g1 tal tao;refine⟨c,rfl,⟨_,zG0 g1⟩,fun D2 hD2=>?_⟩;refine cL (K:=K) (xs:=ta.map V.int) (fun i H'=>H' D2=some (.lst (((ta.take i).map (fun r=>y.p-1-r)).map V.int))/\Same H1 H') ⟨aE,zE0 hD2 _⟩ (fun i H' _ h=>zG0 (h.2 _ _ g1)) ?_ ?_
  . rintro i v H' hv ⟨hDi,S⟩;have hi:=(zT0 hv).1;rw[zV0]at hv;obtain⟨x,hx,rfl⟩:=qM0 hv;refine⟨_,_,zD0 (S _ _ (I1 _ _ GT.hg)),rfl,_,hDi,aG (by rw[zH0,zH0,qL0];omega),Nx.of hi ⟨by rw[aE,qK0,hx,zM0,zM0];rfl,fun c o e=>?_⟩⟩;rw[am (aO e hD2)];exact S _ _ e
  rintro H2 ⟨hD22,S2⟩;rw[zH0,List.take_of_length_le (zJ0 _)]at hD22;have tbl:(ta.map (fun r=>y.p-1-r)).length=n-1:=by rw[zH0];exact tal
  have tbo:dy (ta.map (fun r=>y.p-1-r)) y.p:=fun x hx=>by
   obtain⟨r,hr,rfl⟩:=List.mem_map.mp hx
   have:=tao r hr
   omega
  generalize ta.map (fun r=>y.p-1-r)=tb at hD22 tbl tbo;have T2:=I1.trans S2;have sur:0<=y.s*e/\y.s*e<y.p:=by
   rcases e01 with rfl | rfl
   . rw[Int.mul_zero];omega
   . rw[Int.mul_one];omega
  have mr:=zX0 (y.s+1) (show y.p≠0 by omega);have ml:=zY0 (y.s+1) (show 0<y.p by omega);have fin:∀(e2:Int)(X:Addr)(H3:Hp),(e2=0∨e2=1)->(n=0->e2=0)->Same H2 H3->H3 X=some (.lst [.int (y.s*e),.int ((y.s+1) % y.p*e2)])->tF34 CM CG Dn [z0,some (.ref y.f),z2,some (.ref y.gh),some (.ref y.N),z5,some (.ref y.h),z7,some (.ref y.ML),some (.ref y.BL),some (.ref y.T),some (.int y.s),z12,some (.ref y.C),some (.int (n:Int)),some (.int mv),some (.ref D),some (.ref c),some (.ref D2),some (.ref X),z20,z21] H3:=fun e2 X H3 e2r e20 S3 hX=>by
   have T3:=T2.trans S3;refine⟨y,_,_,_,_,_,_,_,D,c,D2,X,n,mv,u0,u1,y.s*e,(y.s+1) % y.p*e2,ta,tb,bx1,bx2,tl,rfl,W.same T3,hn,mv1,mv4,tll,T3 _ _ hD,u0r,u1r,S3 _ _ (S2 _ _ g1),S3 _ _ hD22,hX,sur,?_,tao,tbo,tal,tbl,fun h=>⟨by rw[e0 h,Int.mul_zero],by rw[e20 h,Int.mul_zero]⟩,fun w15 w16 w17 w18 w19 w20 w21 bx1' bx2' tl' H' W' l' kp=>q w15 w16 w17 w18 w19 w20 w21 bx1' bx2' tl' H' W' l' (fun a ys n1 n2 e=>kp a ys n1 n2 (T3 _ _ e))⟩;rcases e2r with rfl | rfl
   . rw[Int.mul_zero];omega
   . rw[Int.mul_one];omega
  refine(.inr ⟨_,rfl,?_⟩);show rI CMul _ (.int y.s) (.int (if decide (0<(n:Int))=true then(1:Int)else 0)) _ _;rw[ee];refine⟨.inl ⟨by omega,by omega⟩,?_⟩;refine⟨_,_,zD0 (T2 _ _ GT.hg),rfl,(by show 0<y.p;omega),?_⟩;refine ?_
  by_cases c0:0<(n:Int)
  . refine bn c0 ?_;refine⟨_,_,zD0 (T2 _ _ GT.hg),rfl,gb,_,rfl,.inr (zD0 (T2 _ _ GT.hb)),.inr ⟨_,rfl,?_⟩⟩;have x01:(if decide (1<(gtv.length:Int))=true then(1:Int)else 0)=0∨(if decide (1<(gtv.length:Int))=true then(1:Int)else 0)=1:=by split <;> simp
    show rI CMul _ (.int ((y.s+1) % y.p)) (.int (if decide (1<(gtv.length:Int))=true then(1:Int)else 0)) _ _;generalize (if decide (1<(gtv.length:Int))=true then(1:Int)else 0)=ex at x01;refine⟨.inl ⟨by omega,by omega⟩,(by show 2<=sizeLine;decide),fun X hX=>?_⟩;exact fin ex X _ x01 (fun h=>by subst h;exact absurd c0 (by decide)) (zE0 hX _) aE
  . refine aI c0 ?_;refine .inr ⟨_,rfl,?_⟩;refine⟨.inl ⟨by omega,by omega⟩,(by show 2<=sizeLine;decide),fun X hX=>?_⟩;exact fin 0 X _ (.inl rfl) (fun _=>rfl) (zE0 hX _) aE
 case cD=>
  rintro Dn σ H ⟨y,z0,z2,z5,z7,z12,z16,z17,z18,z19,z20,z21,n,nn,mv,bx1,bx2,tl,rfl,rfl,W,hn,mv1,mv4,tll,q⟩;have p2:=W.st.k.p2;have p9:=W.st.k.p9;obtain⟨ga,gb,gtv,GT⟩:=W.st.gt;obtain⟨e,ee,e01,e0⟩:∃e:Int,(if decide (0<(n:Int))=true then(1:Int)else 0)=e/\(e=0∨e=1)/\(n=0->e=0):=⟨_,rfl,by split <;> simp,fun h=>by subst h;rfl⟩
  refine⟨_,rfl,by decide,by decide,fun D hD=>?_⟩;have Df:D≠y.f:=W.st.fd.ne hD;refine cX (fun i H'=>∃ds:List Int,H' D=some (.lst (ds.map V.int))/\ds.length=i/\dy ds y.p/\FeedAt H' y.f/\SameBut y.f H H') ⟨[],by rw[aE];rfl,rfl,(fun x hx=>by cases hx),W.st.fd.same (zE0 hD _),zL0 (zE0 hD _)⟩ ?_ ?_
  . rintro i H8 hi ⟨ds,hds,dl,dok,F8,S8⟩;have hi':i<2:=hi;have hg8:=S8 _ _ (jV W.st.fd GT.hg (by intro ys z;cases z)) GT.hg;refine⟨_,_,zD0 hg8,rfl,y.f,y.p,rfl,F8,by omega,by omega,fun r H9 r0 r1 F9 S9=>?_⟩;refine(.inr ⟨_,rfl,?_⟩);show rI CMul _ (.int r) (.int (if decide (0<(n:Int))=true then(1:Int)else 0)) _ _;rw[ee];refine⟨.inl ⟨by omega,by omega⟩,?_⟩;have rr:0<=r*e/\r*e<y.p:=by
     rcases e01 with rfl | rfl
     . rw[Int.mul_zero];omega
     . rw[Int.mul_one];omega
    refine ⟨_,S9 _ _ Df hds,aG (by rw[zH0];omega),Nx.of hi ⟨ds++[r*e],by rw[aE,zM0];rfl,by rw[zO0,dl];rfl,(fun x hx=>by
     rcases qD0 hx with h | h
     . exact dok x h
     . rw[zP0 h];exact rr),jx F9 Df,fun c o n e=>?_⟩⟩
    rw[am (aO e hD)];exact S9 _ _ n (S8 _ _ n e)
  rintro H1 ⟨ds,hD1,dl,dok,F1,S1⟩;have dl2:ds.length=2:=dl;obtain⟨u0,u1,rfl⟩:∃u0 u1,ds=[u0,u1]:=by
   match ds,dl2 with
   | [a,b],_=>exact⟨_,_,rfl⟩
  have W1:=W.feed S1 F1;have u0r:=dok u0 (by simp);have u1r:=dok u1 (by simp);have fin:∀(mv:Int)(H2:Hp),1<=mv->mv<=410->FeedAt H2 y.f->SameBut y.f H1 H2->tE34 CM CG Dn [z0,some (.ref y.f),z2,some (.ref y.gh),some (.ref y.N),z5,some (.ref y.h),z7,some (.ref y.ML),some (.ref y.BL),some (.ref y.T),some (.int y.s),z12,some (.ref y.C),some (.int (n:Int)),some (.int mv),some (.ref D),z17,z18,z19,z20,z21] H2:=fun mv H2 a1 a2 F2 S2=>
   ⟨y,_,_,_,_,_,_,_,_,_,_,D,n,mv,u0,u1,bx1,bx2,tl,rfl,W1.feed S2 F2,hn,a1,a2,tll,S2 _ _ Df hD1,u0r,u1r,fun w15 w16 w17 w18 w19 w20 w21 bx1' bx2' tl' H' W' l' kp=>q w15 w16 w17 w18 w19 w20 w21 bx1' bx2' tl' H' W' l' (fun a ys n1 n2 e=>kp a ys n1 n2 (S2 _ _ n1 (S1 _ _ n1 e)))⟩
  refine ?_;refine jZ (fun _=>?_) (fun _=>?_)
  . refine ⟨y.f,4,rfl,F1,by decide,by decide,fun d H2 d0 d1 F2 S2=>⟨rfl,?_⟩⟩;refine jZ (fun _=>?_) (fun _=>?_)
    . exact fin 2 H2 (by decide) (by decide) F2 S2
    . exact fin mv H2 mv1 mv4 F2 S2
  . exact fin mv H1 mv1 mv4 F1 (zL0 (Same.refl _))
 case cB=>
  rintro Dn σ H ⟨a0,gh,a,b,N,h,y1,y2,y5,ns0,ns,tv,ts,p,xs,rows,rfl,hS,h63,G,k,n3,nd,hN,x3,HL,q⟩;have p2:=k.p2;have p9:=k.p9;have t1:=k.t1;have t10:=k.t10;have el:((ns.map V.str).length:Int)=(ns.length:Int):=by rw[zH0]
  refine ⟨_,_,zD0 G.hg,rfl,_,_,zD0 G.hg,rfl,_,_,zD0 G.hg,rfl,fun g dg hg0 hdg0 ng=>?_⟩;have K2:Same H (upd (upd H dg (.own g)) g (.ins CG dg [])):=fun a o e=>by
   rw[am (aO e hg0),am (aO e hdg0)];exact e
  refine ⟨g,dg,a,b,ns,tv,ts,p,rfl,aE,K2 _ _ G.ha,nd,by omega,K2 _ _ G.hb,G.tr.mono (aX K2),t1,by omega,k.tok,k.pr,p2,p9,k.tp,k.tc,fun gd H2 gd0 GA hgd S2=>⟨rfl,?_⟩⟩;have T2:Same H H2:=Same.but K2 hg0 S2;clear K2 S2;refine(fun M1 d1 hM10 hd10 nM1=>?_);have K3:Same H2 (upd (upd H2 d1 (.own M1)) M1 (.ins CM d1 [])):=fun a o e=>by
   rw[am (aO e hM10),am (aO e hd10)];exact e
  have g3:upd (upd H2 d1 (.own M1)) M1 (.ins CM d1 []) M1=some (.ins CM d1 []):=aE;generalize upd (upd H2 d1 (.own M1)) M1 (.ins CM d1 [])=H3 at K3 g3;refine⟨M1,g,h,d1,rfl,g3,fun b1 H4 hb10 hM4 hb4 S4=>⟨rfl,?_⟩⟩;have T24:Same H2 H4:=Same.but K3 hM10 S4;refine(fun M2 d2 hM20 hd20 nM2=>?_);have K5:Same H4 (upd (upd H4 d2 (.own M2)) M2 (.ins CM d2 [])):=fun a o e=>by
   rw[am (aO e hM20),am (aO e hd20)];exact e
  have g5:upd (upd H4 d2 (.own M2)) M2 (.ins CM d2 []) M2=some (.ins CM d2 []):=aE;generalize upd (upd H4 d2 (.own M2)) M2 (.ins CM d2 [])=H5 at K5 g5;refine⟨M2,g,h,d2,rfl,g5,fun b2 H6 hb20 hM6 hb6 S6=>⟨rfl,(by show 2<=sizeLine;decide),fun ML hML0=>?_⟩⟩;have T46:Same H4 H6:=Same.but K5 hM20 S6;have n12:M1≠M2:=aO hM4 hM20;have nb12:b1≠b2:=aO (K5 _ _ hb4) hb20;have I7:=zE0 hML0 (.lst [.ref M1,.ref M2]);have hML:upd H6 ML (.lst [.ref M1,.ref M2]) ML=some (.lst [.ref M1,.ref M2]):=aE;generalize upd H6 ML (.lst [.ref M1,.ref M2])=H7 at I7 hML;have T47:=T46.trans I7;have hM17:=T47 _ _ hM4;have hb17:=T47 _ _ hb4;have hM27:=I7 _ _ hM6;have hb27:=I7 _ _ hb6;refine fun c1 hc10=>fun c2 hc20=>⟨(by show 2<=sizeLine;decide),fun BL hBL0=>?_⟩
  have I8:=zE0 hc10 (.dK []);have I9:=zE0 hc20 (.dK []);have I10:=zE0 hBL0 (.lst [.ref c1,.ref c2]);have hc1:=I10 _ _ (I9 _ _ (aE (H:=H7) (a:=c1) (o:=.dK [])));have hc2:=I10 _ _ (aE (H:=upd H7 c1 (.dK [])) (a:=c2) (o:=.dK []));have hBL:upd (upd (upd H7 c1 (.dK [])) c2 (.dK [])) BL (.lst [.ref c1,.ref c2]) BL=some (.lst [.ref c1,.ref c2]):=aE;have nb1c1:b1≠c1:=aO hb17 hc10;have nb2c1:b2≠c1:=aO hb27 hc10;have nb1c2:b1≠c2:=aO (I8 _ _ hb17) hc20;have nb2c2:b2≠c2:=aO (I8 _ _ hb27) hc20;have nc12:c1≠c2:=aO (aE (H:=H7) (a:=c1) (o:=.dK [])) hc20;have T710:=I8.trans (I9.trans I10);have T10:Same H _:=T2.trans (T24.trans (T47.trans T710));have hgd10:=T710 _ _ (T47 _ _ (T24 _ _ hgd));have GA10:=(((GA.same T24).same T47).same T710)
  have hM110:=T710 _ _ hM17;have hM210:=T710 _ _ hM27;have hb110:=T710 _ _ hb17;have hb210:=T710 _ _ hb27;have hML10:=T710 _ _ hML;show mG _ _ _ _ (upd (upd (upd H7 c1 (.dK [])) c2 (.dK [])) BL (.lst [.ref c1,.ref c2]));generalize upd (upd (upd H7 c1 (.dK [])) c2 (.dK [])) BL (.lst [.ref c1,.ref c2])=HA at T10 T710 hc1 hc2 hBL hgd10 GA10 hM110 hM210 hb110 hb210 hML10;clear T710 I8 I9 I10 I7 T46 T47 T24 K3 K5 S4 S6 hc10 hc20 hBL0 hML0 hb17 hb27 hM17 hM27 hM4 hM6 hb4 hb6 GA hgd g3 g5 hML;refine⟨(by show 0<=sizeLine;decide),fun T hT0=>?_⟩;have IT:=zE0 hT0 (.lst []);have hT:upd HA T (.lst []) T=some (.lst (tlV [])):=aE;have NT:N≠T:=aO (T10 _ _ hN) hT0;have MT:ML≠T:=aO hML10 hT0;have BT:BL≠T:=aO hBL hT0;have dT:gd≠T:=aO hgd10 hT0;have TB:=T10.trans IT;have hc1:=IT _ _ hc1;have hc2:=IT _ _ hc2;have hBL:=IT _ _ hBL;have hgd:=IT _ _ hgd10;have GA:=GA10.same IT;have hM1:=IT _ _ hM110;have hM2:=IT _ _ hM210;have hb1:=IT _ _ hb110;have hb2:=IT _ _ hb210;have hML:=IT _ _ hML10;show mG _ _ _ _ (upd HA T (.lst []));generalize upd HA T (.lst [])=HB at IT hT TB hc1 hc2 hBL hgd GA hM1 hM2 hb1 hb2 hML;clear T10 IT hT0 hgd10 GA10 hM110 hM210 hb110 hb210 hML10;have BX0:∀{H':Hp}{b:Addr},H' b=some (.dK [])->BxAt H' b (fun _=>0) 0:=fun e=>⟨[],e,zJ0 _,fun x=>rfl⟩
  refine⟨N,rfl,⟨_,zG0 (TB _ _ hN)⟩,fun D1 hD1=>?_⟩;refine cL (K:=K) (xs:=xs.map V.str) (fun i H'=>H' D1=some (.lst ((List.replicate i (0:Int)).map V.int))/\Same HB H') ⟨aE,zE0 hD1 _⟩ (fun i H' _ h=>zG0 (h.2 _ _ (TB _ _ hN))) ?_ ?_
  . rintro i y H' hy ⟨hD,S⟩;have hi:=(zT0 hy).1;rw[zV0]at hy;obtain⟨x,hx,rfl⟩:=qM0 hy;refine⟨_,.ref M1,zG0 (S _ _ hML),rfl,M1,d1,_,rfl,S _ _ hM1,vI,M1,g,h,b1,d1,_,x,fun _=>0,_,rfl,S _ _ hM1,BX0 (S _ _ hb1),?_⟩;rw[zH0]at hi;refine⟨_,hD,aG (by rw[zH0,List.length_replicate];omega),Nx.of (by rw[zH0];exact hi) ⟨by rw[aE,List.replicate_succ',zM0];rfl,fun c o e=>?_⟩⟩;rw[am (aO e hD1)];exact S _ _ e
  rintro H8 ⟨hD18,S8⟩;rw[zH0,x3]at hD18;refine⟨N,rfl,⟨_,zG0 (S8 _ _ (TB _ _ hN))⟩,fun D2 hD2=>?_⟩;refine cL (K:=K) (xs:=xs.map V.str) (fun i H'=>H' D2=some (.lst ((List.replicate i (0:Int)).map V.int))/\Same H8 H') ⟨aE,zE0 hD2 _⟩ (fun i H' _ h=>zG0 (h.2 _ _ (S8 _ _ (TB _ _ hN)))) ?_ ?_
  . rintro i y H' hy ⟨hD,S⟩;have hi:=(zT0 hy).1;rw[zV0]at hy;obtain⟨x,hx,rfl⟩:=qM0 hy;have S':=S8.trans S;refine⟨_,.ref M2,zG0 (S' _ _ hML),rfl,M2,d2,_,rfl,S' _ _ hM2,vI,M2,g,h,b2,d2,_,x,fun _=>0,_,rfl,S' _ _ hM2,BX0 (S' _ _ hb2),?_⟩;rw[zH0]at hi;refine⟨_,hD,aG (by rw[zH0,List.length_replicate];omega),Nx.of (by rw[zH0];exact hi) ⟨by rw[aE,List.replicate_succ',zM0];rfl,fun c o e=>?_⟩⟩;rw[am (aO e hD2)];exact S _ _ e
  rintro H9 ⟨hD29,S9⟩;rw[zH0,x3]at hD29;refine⟨D1,D2,_,_,rfl,rfl,S9 _ _ hD18,hD29,(by show 6<=sizeLine;decide),fun l hl=>?_⟩;have I10:=zE0 hl (.lst ((List.replicate 3 (0:Int)).map V.int++(List.replicate 3 (0:Int)).map V.int));have g10:upd H9 l (.lst ((List.replicate 3 (0:Int)).map V.int++(List.replicate 3 (0:Int)).map V.int)) l=some (.lst (([0,0,0,0,0,0]:List Int).map V.int)):=aE;generalize upd H9 l (.lst ((List.replicate 3 (0:Int)).map V.int++(List.replicate 3 (0:Int)).map V.int))=H10 at I10 g10;refine⟨(by show 1<=sizeLine;decide),fun u hu=>?_⟩;have I11:=zE0 hu (.lst [.int 0]);have g11:upd H10 u (.lst [.int 0]) u=some (.lst [.int 0]):=aE;generalize upd H10 u (.lst [.int 0])=H11 at I11 g11;refine⟨u,_,_,rfl,rfl,g11,by decide,by decide,(by show 6<=sizeLine;decide),fun y hy=>?_⟩;have I12:=zE0 hy (.lst (List.replicate (6:Int).toNat [V.int 0]).flatten);have g12:upd H11 y (.lst (List.replicate (6:Int).toNat [V.int 0]).flatten) y=some (.lst (([0,0,0,0,0,0]:List Int).map V.int)):=aE;generalize upd H11 y (.lst (List.replicate (6:Int).toNat [V.int 0]).flatten)=H12 at I12 g12;refine⟨_,_,.lst (zG0 (I12 _ _ (I11 _ _ g10))) (cG _),.lst (zG0 g12) (cG _),bZ _,bZ _,?_⟩;rw[lR,decide_eq_true rfl];refine bF (gu ?_);have TC:Same HB H12:=S8.trans (S9.trans (I10.trans (I11.trans I12)));have TH:=TB.trans TC;clear I10 I11 I12 S8 S9 g10 g11 g12 hD18 hD29;refine⟨a0,ns0,4,rfl,TH.seq hS,h63,by decide,by decide,fun f H13 f0 S13 F13=>?_⟩;have G13:=G.mono (aX (TH.trans S13));refine⟨_,_,zD0 G13.hg,rfl,f,p,rfl,F13,by omega,by omega,fun s0 H14 s00 s01 F14 S14=>?_⟩;have T14:Same H12 H14:=Same.but S13 f0 S14;have G14:=G.mono (aX (TH.trans T14));have tvl:=G14.tr.length;refine⟨_,_,zD0 G14.hg,rfl,b,_,rfl,.inr (zD0 G14.hb),.inr ⟨_,rfl,?_⟩⟩;refine⟨.inl ⟨by omega,by omega⟩,?_⟩;have x01:(if decide (1<(tv.length:Int))=true then(1:Int)else 0)=0∨(if decide (1<(tv.length:Int))=true then(1:Int)else 0)=1:=by split <;> simp
  generalize (if decide (1<(tv.length:Int))=true then(1:Int)else 0)=ex at x01;have sr:0<=s0*ex/\s0*ex<p:=by
   rcases x01 with rfl | rfl
   . rw[Int.mul_zero];omega
   . rw[Int.mul_one];omega
  show mG _ _ _ (List.set _ _ (some (.int (s0*ex)))) _;generalize s0*ex=sv at sr;refine⟨_,_,zD0 G14.hg,rfl,b,_,rfl,.inr (zD0 G14.hb),(by show 1<=sizeLine;decide),fun l1 hl1=>?_⟩;rw[tvl];have I15:=zE0 hl1 (.lst [.int (ts.length:Int)]);have g15:upd H14 l1 (.lst [.int (ts.length:Int)]) l1=some (.lst [.int (ts.length:Int)]):=aE;generalize upd H14 l1 (.lst [.int (ts.length:Int)])=H15 at I15 g15;refine⟨gh,a,b,ns,tv,ts,p,rfl,G14.mono (aX I15),k,fun l2 H16 l20 S16 hl2=>?_⟩;refine⟨l2,rfl,⟨_,zG0 hl2⟩,fun D hD=>?_⟩;refine cL (K:=K) (xs:=(ns.map (aZ ts)).map V.int) (fun i H'=>H' D=some (.lst ((((ns.map (aZ ts)).take i).map (·+1)).map V.int))/\Same H16 H') ⟨aE,zE0 hD _⟩ (fun i H' _ h=>zG0 (h.2 _ _ hl2)) ?_ ?_
  . rintro i y H' hy ⟨hDi,S⟩;have hi:=(zT0 hy).1;rw[zV0]at hy;obtain⟨x,hx,rfl⟩:=qM0 hy;have hi':i<ns.length:=by rw[zH0,zH0]at hi;exact hi
    refine⟨_,hDi,aG (by rw[zH0,zH0,qL0];omega),Nx.of hi ⟨by rw[aE,qK0,hx,zM0,zM0];rfl,fun c o e=>?_⟩⟩;rw[am (aO e hD)];exact S _ _ e
  rintro H17 ⟨hD17,S17⟩;rw[zH0,List.take_of_length_le (zJ0 _)]at hD17;have T1417:=I15.trans (S16.trans S17);refine⟨l1,D,_,_,rfl,rfl,(S16.trans S17) _ _ g15,hD17,cu (by rw[zH0,zH0,zH0];show 1+ns.length<=1000;omega),fun R hR0=>?_⟩;have IR:=zE0 hR0 (.lst ([V.int (ts.length:Int)]++((ns.map (aZ ts)).map (·+1)).map V.int));have hR:upd H17 R (.lst ([V.int (ts.length:Int)]++((ns.map (aZ ts)).map (·+1)).map V.int)) R=some (.lst (((ts.length:Int)::(ns.map (aZ ts)).map (·+1)).map V.int)):=aE;have Rf:R≠f:=(F14.same T1417).ne hR0;have RT:R≠T:=(aO (T1417 _ _ (T14 _ _ (TC _ _ hT))) hR0).symm;have T18:=T1417.trans IR;show mG _ _ _ _ (upd H17 R (.lst ([V.int (ts.length:Int)]++((ns.map (aZ ts)).map (·+1)).map V.int)));generalize upd H17 R (.lst ([V.int (ts.length:Int)]++((ns.map (aZ ts)).map (·+1)).map V.int))=H18 at IR hR T18;have F18:=F14.same T18;have G18:=G14.mono (aX T18);clear T1417 IR S17 S16 I15 hD17 hl2 g15;refine⟨_,_,zD0 G18.hg,rfl,a,_,rfl,.inr (zD0 G18.ha),_,rfl,by omega,by omega,fun C hC=>?_⟩;have Cf:C≠f:=F18.ne hC;have CT:C≠T:=(aO (T18 _ _ (T14 _ _ (TC _ _ hT))) hC).symm;refine cX (fun i H'=>∃cs:List Int,H' C=some (.lst (cs.map V.int))/\cs.length=i/\dy cs p/\FeedAt H' f/\SameBut f H18 H') ⟨[],by rw[aE];rfl,rfl,(fun x hx=>by cases hx),F18.same (zE0 hC _),zL0 (zE0 hC _)⟩ ?_ ?_
  . rintro i H8 hi ⟨cs,hc,cl,co,F8,S8⟩;have hi':i<ns.length:=by rw[el]at hi;omega
    have hg8:=S8 _ _ (jV F18 G18.hg (by intro ys z;cases z)) G18.hg;refine⟨_,_,zD0 hg8,rfl,f,p,rfl,F8,by omega,by omega,fun r H9 r0 r1 F9 S9=>?_⟩;refine⟨_,S9 _ _ Cf hc,aG (by rw[zH0];omega),Nx.of hi ⟨cs++[r],by rw[aE,zM0];rfl,by rw[zO0,cl];rfl,(fun x hx=>by
     rcases qD0 hx with h | h
     . exact co x h
     . rw[zP0 h];exact⟨r0,r1⟩),jx F9 Cf,fun c o n e=>?_⟩⟩
    rw[am (aO e hC)];exact S9 _ _ n (S8 _ _ n e)
  rintro H19 ⟨cs,hC19,cl,co,F19,S19⟩;have cl':cs.length=ns.length:=by rw[cl,el];omega
  have TD:Same H12 H19:=Same.but (T14.trans T18) f0 S19;have TE:=TC.trans TD;have TF:=TH.trans TD;have hR19:=S19 _ _ Rf hR;have ff:∀{x:Addr}{o:HO},HB x=some o->x≠f:=fun e=>aO (TC _ _ e) f0
  let y:Wq:=⟨f,gh,g,h,N,T,BL,ML,C,M1,b1,d1,c1,M2,b2,d2,c2,ns,ts,p,rows,xs,cs,sv⟩
  have W0:W34 CM CG H19 y 0 0 (fun _=>0) (fun _=>0) []:=by
   refine⟨⟨⟨a,b,tv,G.mono (aX TF)⟩,⟨a,b,gd,tv,GA.same TE,TF _ _ G.ha,TF _ _ G.hb,(G.mono (aX TF)).tr,TE _ _ hgd,ff hgd,dT⟩,HL.mono (aX TF),TF _ _ hN,⟨ff (TB _ _ hN),NT⟩,TE _ _ hML,⟨ff hML,MT⟩,TE _ _ hBL,⟨ff hBL,BT⟩,hC19,⟨Cf,CT⟩,F19,ff hT,k,n3,nd,cl',co,sr⟩,⟨TE _ _ hM1,BX0 (TE _ _ hb1),BX0 (TE _ _ hc1),fun x=>⟨Int.le_refl 0,by show(0:Int)<p;omega⟩⟩,⟨TE _ _ hM2,BX0 (TE _ _ hb2),BX0 (TE _ _ hc2),fun x=>⟨Int.le_refl 0,by show(0:Int)<p;omega⟩⟩,⟨n12,nb1c1,nb2c2,nb12,nb1c2,nb2c1.symm,nc12⟩,TE _ _ hT,fun x hx=>by cases hx⟩
  clear TF TE TD TH TC TB T14 T18 G13 G14 G18 F13 F14 F18 S13 S14 S19;refine⟨R,rfl,⟨_,zG0 hR19⟩,zZ (K:=K) (xs:=((ts.length:Int)::(ns.map (aZ ts)).map (·+1)).map V.int) (fun i σ H'=>∃(z14 z15 z16 z17 z18 z19 z20 z21:Option V)(bx1 bx2:Str->Int)(tl:List Tl),σ=[some (.ref a0),some (.ref f),y2,some (.ref gh),some (.ref N),y5,some (.ref h),some (.ref g),some (.ref ML),some (.ref BL),some (.ref T),some (.int sv),some (.ref R),some (.ref C),z14,z15,z16,z17,z18,z19,z20,z21]/\W34 CM CG H' y i i bx1 bx2 tl/\tl.length=2*i/\H' R=some (.lst (((ts.length:Int)::(ns.map (aZ ts)).map (·+1)).map V.int)))
   ⟨_,_,_,_,_,_,_,_,_,_,[],rfl,W0,rfl,hR19⟩ (fun i σ H' _ hst=>by obtain⟨_,_,_,_,_,_,_,_,_,_,_,_,_,_,h⟩:=hst;exact zG0 h) ?_ ?_⟩
  . rintro i v σ H20 t3 hy ⟨z14,z15,z16,z17,z18,z19,z20,z21,bx1,bx2,tl,rfl,W,tll,hR20⟩ ht3;have hi:=(zT0 hy).1;have hi':i<=ns.length:=by rw[zH0,qF0,zH0,zH0]at hi;omega
    rw [zV0]at hy;obtain⟨dv,hdv,rfl⟩:=qM0 hy;have dr:1<=dv/\dv<=410:=by
     cases i with
     | zero=>cases hdv;omega
     | succ i=>
       rw[List.getElem?_cons_succ,zV0]at hdv;obtain⟨x,hx,rfl⟩:=qM0 hdv;rw[zV0]at hx;obtain⟨x',_,rfl⟩:=qM0 hx
       have:=Bx k x'
       omega
    have I21:=zE0 ht3 (.tup [.int (i:Int),.int dv]);have g21:upd H20 t3 (.tup [.int (i:Int),.int dv]) t3=some (.tup [.int (i:Int),.int dv]):=aE;generalize upd H20 t3 (.tup [.int (i:Int),.int dv])=H21 at I21 g21;refine⟨t3,_,rfl,zD0 g21,rfl,_,_,rfl,_,_,rfl,rfl,?_⟩;exact⟨y,_,_,_,_,_,_,_,_,_,_,_,i,_,dv,bx1,bx2,tl,rfl,rfl,W.same I21,hi',dr.1,dr.2,tll,fun w15 w16 w17 w18 w19 w20 w21 bx1' bx2' tl' H' W' tll' keep=>⟨_,_,_,_,_,_,_,_,bx1',bx2',tl',rfl,W',tll',keep _ _ Rf RT (I21 _ _ hR20)⟩⟩
  . rintro σ H20 ⟨z14,z15,z16,z17,z18,z19,z20,z21,bx1,bx2,tl,rfl,W,tll,hR20⟩;refine⟨T,rfl,⟨_,zG0 W.hT⟩,fun D2 hD2=>?_⟩;refine uR (K:=K) (xs:=tlV tl) (fun i H'=>H' D2=some (.lst [])/\Same H20 H') ⟨aE,zE0 hD2 _⟩ (fun i H' _ h=>zG0 (h.2 _ _ W.hT)) ?_ ?_
    . rintro i v H21 hv ⟨hD21,S21⟩;have hi:=(zT0 hv).1;unfold tlV at hv;rw[zV0]at hv;obtain⟨x,hx,rfl⟩:=qM0 hv;obtain⟨⟨e1,e2,e3,_⟩,_⟩:=(W.same S21).td x (qJ0 hx);refine⟨x.1,_,_,rfl,zD0 e1,_,_,.lst (zG0 e2) (cG _),.lst (zG0 e3) (cG _),bZ _,bZ _,?_⟩;rw[lR,decide_eq_true rfl];exact bF (gu (Nx.of hi ⟨hD21,S21⟩))
    . rintro H21 ⟨hD21,S21⟩;refine⟨(by show 0<=sizeLine;decide),fun e he=>?_⟩;have I22:=zE0 he (.lst []);refine⟨_,_,.lst (zG0 (I22 _ _ hD21)) (cG []),.lst (zG0 aE) (cG []),bZ [],bZ [],?_⟩;rw[lR,decide_eq_true rfl];exact q _
 case cA=>
  rintro Dn σ H ⟨a0,gh,a,b,N,y1,y2,ns0,ns,tv,ts,p,x0,x1,x2,rfl,hS,h63,G,k,n3,nd,hN,q⟩;refine⟨a0,ns0,3,rfl,hS,h63,by decide,by decide,fun f H1 f0 S1 F1=>?_⟩;have nf:N≠f:=aO hN f0;refine⟨f,8,rfl,F1,by decide,by decide,fun fm H2 m0 m1 F2 S2=>?_⟩;have T2:Same H H2:=Same.but S1 f0 S2;refine⟨f,N,[x0,x1,x2],10,rfl,F2,T2 _ _ hN,nf,(by show 1<=3;decide),(by show 3<=100;decide),by decide,by decide,fun h rv rows H3 e1 R1 g1 F3 S3=>?_⟩;have T3:Same H H3:=Same.but T2 f0 S3;have fin:∀(h:Addr)(rows:List Hr)(H4:Hp),HlpAt H4 h rows->Same H H4->tB34 K Dn [some (.ref a0),some (.ref f),y2,some (.ref gh),some (.ref N),some (.int fm),some (.ref h),none,none,none,none,none,none,none,none,none,none,none,none,none,none,none] H4:=fun h rows H4 HL T4=>
   ⟨a0,gh,a,b,N,h,_,_,_,ns0,ns,tv,ts,p,[x0,x1,x2],rows,rfl,T4.seq hS,h63,G.mono (aX T4),k,n3,nd,T4 _ _ hN,rfl,HL,q⟩
  refine ?_
  by_cases c1:fm>5
  . refine bn c1 ?_;refine⟨_,.str x0,zG0 (T3 _ _ hN),rfl,f,x0,rfl,F3,fun h2 rv2 r2 H4 e2 R2 g2 F4 S4=>?_⟩;have T4:Same H H4:=Same.but T3 f0 S4;exact⟨rfl,aI (fun z=>by have:=V.int.inj z;omega) (fin h2 r2 H4 ⟨⟨rv2,e2,R2⟩,g2⟩ T4)⟩
  refine aI c1 ⟨rfl,?_⟩
  by_cases c2:fm=5
  . refine bn (congrArg V.int c2) ?_;refine⟨f,N,[x0,x1,x2],rfl,F3,T3 _ _ hN,nf,(by show 1<=3;decide),(by show 3<=100;decide),fun h2 rv2 r2 H4 e2 R2 g2 F4 S4=>?_⟩;exact fin h2 r2 H4 ⟨⟨rv2,e2,R2⟩,g2⟩ (Same.but T3 f0 S4)
  . exact aI (fun z=>c2 (V.int.inj z)) (fin h rows H3 ⟨⟨rv,e1,R1⟩,g1⟩ T3)
 refine ⟨a0,ns0,5,rfl,hS,h63,by decide,by decide,fun f H1 f0 S1 F1=>?_⟩;refine⟨(by show 2<=sizeLine;decide),fun w1 hw1=>⟨(by show 2<=sizeLine;decide),fun w2 hw2=>⟨(by show 2<=sizeLine;decide),fun W hW=>?_⟩⟩⟩;have J1:=zE0 hw1 (.tup [.int 3,.int 3]);have J2:=zE0 hw2 (.tup [.int 2,.int 6]);have JW:=zE0 hW (.lst [.ref w1,.ref w2]);have e1:=JW _ _ (J2 _ _ (aE (H:=H1) (a:=w1) (o:=.tup [.int 3,.int 3])));have e2:=JW _ _ (aE (H:=upd H1 w1 (.tup [.int 3,.int 3])) (a:=w2) (o:=.tup [.int 2,.int 6]));have gW:upd (upd (upd H1 w1 (.tup [.int 3,.int 3])) w2 (.tup [.int 2,.int 6])) W (.lst [.ref w1,.ref w2]) W=some (.lst [.ref w1,.ref w2]):=aE;have JJ:=J1.trans (J2.trans JW);have Wf:W≠f:=((F1.same J1).same J2).ne hW;generalize upd (upd (upd H1 w1 (.tup [.int 3,.int 3])) w2 (.tup [.int 2,.int 6])) W (.lst [.ref w1,.ref w2])=H2 at JJ gW e1 e2;have F2:=F1.same JJ;refine⟨f,2,rfl,F2,by decide,by decide,fun d H3 d0 d1 F3 S3=>?_⟩;have k23:=bD F2 S3;obtain⟨wa,m,r,hat,hwa,mr⟩:∃(wa:Addr)(m r:Int),atI [V.ref w1,.ref w2] d=some (.ref wa)/\H3 wa=some (.tup [.int m,.int r])/\0<=m/\m<=3/\1<=r/\r<=30:=by
  have:d=0∨d=1:=by omega
  rcases this with h | h <;> subst h
  . exact⟨w1,3,3,rfl,k23 _ _ e1,by decide⟩
  . exact⟨w2,2,6,rfl,k23 _ _ e2,by decide⟩
 refine⟨_,.ref wa,zG0 (S3 _ _ Wf gW),hat,?_⟩;have T3:Same H H3:=Same.but (S1.trans JJ) f0 S3;refine⟨a0,ns0,1,rfl,T3.seq hS,h63,by decide,by decide,fun f1 H4 f10 S4 F4=>?_⟩;have hwa4:=S4 _ _ hwa;refine⟨_,_,zD0 hwa4,rfl,_,_,zD0 hwa4,rfl,f1,m,r,rfl,F4,mr.1,by omega,mr.2.2.1,mr.2.2.2,fun gh a b ns tv ts p H5 hdr ha nl snok nd hb TS tl1 tl4 tok pp p3 p9 tp tc F5 S5=>?_⟩;have T35:Same H3 H5:=Same.but S4 f10 S5;have k:GmK ns ts p:=⟨pp,p3,p9,by omega,tl1,by omega,fun t ht=>⟨(tok t ht).1,Tr.ok_wf snok t (tok t ht).1,by have:=(tok t ht).2.1;omega,by have:=(tok t ht).2.2;omega⟩,tp,tc⟩
 have G5:GmT H5 gh a b ns tv ts p:=⟨hdr,ha,hb,TS⟩
 have T5:=T3.trans T35;refine⟨a0,ns0,2,rfl,T5.seq hS,h63,by decide,by decide,fun f2 H6 f20 S6 F6=>?_⟩;refine⟨f2,3,rfl,F6,by decide,by decide,fun N xs H7 N0 nf2 hN xlen xok xnd F7 S7=>?_⟩;have T57:Same H5 H7:=Same.but S6 f20 S7;have T7:=T5.trans T57;have G7:=G5.mono (aX T57);have n3:ns.length<=3:=by omega
 obtain ⟨x0,x1,x2,rfl⟩:∃x0 x1 x2,xs=[x0,x1,x2]:=by
  have:xs.length=3:=xlen
  match xs,this with
  | [y0,y1,y2],_=>exact⟨_,_,_,rfl⟩
 have x20:=(xok x0 qP0).1;have N00:H5 N=none:=S6.free N0;refine⟨_,.str x0,zG0 hN,rfl,x0,rfl,cu (by omega),?_⟩;refine jZ (fun _=>?_) (fun _=>?_)
 . refine ⟨a0,ns0,6,rfl,T7.seq hS,h63,by decide,by decide,fun f6 H8 f60 S8 F8=>?_⟩;refine⟨f6,3,rfl,F8,by decide,by decide,fun d H9 d0 d1 F9 S9=>?_⟩;have T79:Same H7 H9:=Same.but S8 f60 S9;have hN9:=T79 _ _ hN;refine jZ (fun _=>?_) (fun _=>?_)
   . refine ⟨_,.str x0,zG0 hN9,rfl,x0,_,rfl,rfl,cu (by show x0.length+1<=1000;omega),?_⟩;refine⟨N,_,_,1,rfl,rfl,hN9,rfl,?_⟩;have S10:Same H5 (upd H9 N (.lst (([x0,x1,x2].map V.str).set 1 (.str (x0++"q"))))):=fun c o e=>by
      rw[am (aO e N00)];exact T79 _ _ (T57 _ _ e)
     exact⟨a0,gh,a,b,N,_,_,ns0,ns,tv,ts,p,x0,_,x2,rfl,(T5.trans S10).seq hS,h63,G5.mono (aX S10),k,n3,nd,aE,q⟩
   . exact⟨a0,gh,a,b,N,_,_,ns0,ns,tv,ts,p,x0,x1,x2,rfl,(T7.trans T79).seq hS,h63,G7.mono (aX T79),k,n3,nd,hN9,q⟩
 . exact⟨a0,gh,a,b,N,_,_,ns0,ns,tv,ts,p,x0,x1,x2,rfl,T7.seq hS,h63,G7,k,n3,nd,hN,q⟩
end
end
end
theorem all_mk {l:PySem.W.OpenLaw} {w:World} {K:W.Frag} {h:Heap} {mg:Str->Option Value} {fa f0 f1 f2 f3 f4 f5 f6 f7 f8 f9 f10 f11 f12 f13 f14 f15 f16 f17 f18 f19 f20 f21 f22 f23 f24 f25 f26 f27 f28 f29 f30 f31 f32 f33 f34 f35 f36 f37 f38 f39 f40 f41 f42 f43 f44 f45 f46 f47 f48 f49 f50 f51:Addr} (X:K.In h) (G:h.Ns mainGlobals mg) (hfa:mg "law"=some (.ref fa))
 {od0 an0 od1 an1 od2 an2 od3 an3 od4 an4 od5 an5 od6 an6 od7 an7 od8 an8 od9 an9 od10 an10 od11 an11 od12 an12 od13 an13 od14 an14 od15 an15 od16 an16 od17 an17 od18 an18 od19 an19 od20 an20 od21 an21 od22 an22 od23 an23 od24 an24 od25 an25 od26 an26 od27 an27 od28 an28 od29 an29 od30 an30 od31 an31 od32 an32 od33 an33 od34 an34 od35 an35 od36 an36 od37 an37 od38 an38 od39 an39 od40 an40 od41 an41 od42 an42 od43 an43 od44 an44 od45 an45 od46 an46 od47 an47 od48 an48 od49 an49 od50 an50 od51 an51:Option Addr} {sl0 sl1 sl2 sl3 sl4 sl5 sl6 sl7 sl8 sl9 sl10 sl11 sl12 sl13 sl14 sl15 sl16 sl17 sl18 sl19 sl20 sl21 sl22 sl23 sl24 sl25 sl26 sl27 sl28 sl29 sl30 sl31 sl32 sl33 sl34 sl35 sl36 sl37 sl38 sl39 sl40 sl41 sl42 sl43 sl44 sl45 sl46 sl47 sl48 sl49 sl50 sl51:Array (Option Value)} {oc0 kV0 dc0 pm0 cd0 ct0 oc1 kV1 dc1 pm1 cd1 ct1 oc2 kV2 dc2 pm2 cd2 ct2 oc3 kV3 dc3 pm3 cd3 ct3 oc4 kV4 dc4 pm4 cd4 ct4 oc5 kV5 dc5 pm5 cd5 ct5 oc6 kV6 dc6 pm6 cd6 ct6 oc7 kV7 dc7 pm7 cd7 ct7 oc8 kV8 dc8 pm8 cd8 ct8 oc9 kV9 dc9 pm9 cd9 ct9 oc10 kV10 dc10 pm10 cd10 ct10 oc11 kV11 dc11 pm11 cd11 ct11 oc12 kV12 dc12 pm12 cd12 ct12 oc13 kV13 dc13 pm13 cd13 ct13 oc14 kV14 dc14 pm14 cd14 ct14 oc15 kV15 dc15 pm15 cd15 ct15 oc16 kV16 dc16 pm16 cd16 ct16 oc17 kV17 dc17 pm17 cd17 ct17 oc18 kV18 dc18 pm18 cd18 ct18 oc19 kV19 dc19 pm19 cd19 ct19 oc20 kV20 dc20 pm20 cd20 ct20 oc21 kV21 dc21 pm21 cd21 ct21 oc22 kV22 dc22 pm22 cd22 ct22 oc23 kV23 dc23 pm23 cd23 ct23 oc24 kV24 dc24 pm24 cd24 ct24 oc25 kV25 dc25 pm25 cd25 ct25 oc26 kV26 dc26 pm26 cd26 ct26 oc27 kV27 dc27 pm27 cd27 ct27 oc28 kV28 dc28 pm28 cd28 ct28 oc29 kV29 dc29 pm29 cd29 ct29 oc30 kV30 dc30 pm30 cd30 ct30 oc31 kV31 dc31 pm31 cd31 ct31 oc32 kV32 dc32 pm32 cd32 ct32 oc33 kV33 dc33 pm33 cd33 ct33 oc34 kV34 dc34 pm34 cd34 ct34 oc35 kV35 dc35 pm35 cd35 ct35 oc36 kV36 dc36 pm36 cd36 ct36 oc37 kV37 dc37 pm37 cd37 ct37 oc38 kV38 dc38 pm38 cd38 ct38 oc39 kV39 dc39 pm39 cd39 ct39 oc40 kV40 dc40 pm40 cd40 ct40 oc41 kV41 dc41 pm41 cd41 ct41 oc42 kV42 dc42 pm42 cd42 ct42 oc43 kV43 dc43 pm43 cd43 ct43 oc44 kV44 dc44 pm44 cd44 ct44 oc45 kV45 dc45 pm45 cd45 ct45 oc46 kV46 dc46 pm46 cd46 ct46 oc47 kV47 dc47 pm47 cd47 ct47 oc48 kV48 dc48 pm48 cd48 ct48 oc49 kV49 dc49 pm49 cd49 ct49 oc50 kV50 dc50 pm50 cd50 ct50 oc51 kV51 dc51 pm51 cd51 ct51:Value}
 (a0:W.nsIn K mainGlobals "is_field"=some (some (.ref f0))) (l0:K.lookup f0=some ⟨oc0,od0,.func (W.fnOf "is_field" "is_field" (aA fk) (ay fk) (ae fk) .none kV0 dc0 pm0 an0 cd0 ct0),sl0⟩) (c0:W.codeIn K cd0 "is_field"=true) (k0:W.keepIn K (.ref f0)=true)
 (a1:W.nsIn K mainGlobals "inverse_of"=some (some (.ref f1))) (l1:K.lookup f1=some ⟨oc1,od1,.func (W.fnOf "inverse_of" "inverse_of" (aA de) (ay de) (ae de) .none kV1 dc1 pm1 an1 cd1 ct1),sl1⟩) (c1:W.codeIn K cd1 "inverse_of"=true) (k1:W.keepIn K (.ref f1)=true)
 (a2:W.nsIn K mainGlobals "value_at"=some (some (.ref f2))) (l2:K.lookup f2=some ⟨oc2,od2,.func (W.fnOf "value_at" "value_at" (aA fc) (ay fc) (ae fc) .none kV2 dc2 pm2 an2 cd2 ct2),sl2⟩) (c2:W.codeIn K cd2 "value_at"=true) (k2:W.keepIn K (.ref f2)=true)
 (a3:W.nsIn K mainGlobals "value_behind"=some (some (.ref f3))) (l3:K.lookup f3=some ⟨oc3,od3,.func (W.fnOf "value_behind" "value_behind" (aA cv) (ay cv) (ae cv) .none kV3 dc3 pm3 an3 cd3 ct3),sl3⟩) (c3:W.codeIn K cd3 "value_behind"=true) (k3:W.keepIn K (.ref f3)=true)
 (a4:W.nsIn K mainGlobals "products"=some (some (.ref f4))) (l4:K.lookup f4=some ⟨oc4,od4,.func (W.fnOf "products" "products" (aA fg) (ay fg) (ae fg) .none kV4 dc4 pm4 an4 cd4 ct4),sl4⟩) (c4:W.codeIn K cd4 "products"=true) (k4:W.keepIn K (.ref f4)=true)
 (a5:W.nsIn K mainGlobals "inverse_factorials"=some (some (.ref f5))) (l5:K.lookup f5=some ⟨oc5,od5,.func (W.fnOf "inverse_factorials" "inverse_factorials" (aA bq) (ay bq) (ae bq) .none kV5 dc5 pm5 an5 cd5 ct5),sl5⟩) (c5:W.codeIn K cd5 "inverse_factorials"=true) (k5:W.keepIn K (.ref f5)=true)
 (a6:W.nsIn K mainGlobals "all_settings"=some (some (.ref f6))) (l6:K.lookup f6=some ⟨oc6,od6,.func (W.fnOf "all_settings" "all_settings" (aA cC) (ay cC) (ae cC) .none kV6 dc6 pm6 an6 cd6 ct6),sl6⟩) (c6:W.codeIn K cd6 "all_settings"=true) (k6:W.keepIn K (.ref f6)=true)
 (a7:W.nsIn K mainGlobals "holds_at"=some (some (.ref f7))) (l7:K.lookup f7=some ⟨oc7,od7,.func (W.fnOf "holds_at" "holds_at" (aA dJ) (ay dJ) (ae dJ) .none kV7 dc7 pm7 an7 cd7 ct7),sl7⟩) (c7:W.codeIn K cd7 "holds_at"=true) (k7:W.keepIn K (.ref f7)=true)
 (a8:W.nsIn K mainGlobals "joined"=some (some (.ref f8))) (l8:K.lookup f8=some ⟨oc8,od8,.func (W.fnOf "joined" "joined" (aA iA) (ay iA) (ae iA) .none kV8 dc8 pm8 an8 cd8 ct8),sl8⟩) (c8:W.codeIn K cd8 "joined"=true) (k8:W.keepIn K (.ref f8)=true)
 (a9:W.nsIn K mainGlobals "count_of"=some (some (.ref f9))) (l9:K.lookup f9=some ⟨oc9,od9,.func (W.fnOf "count_of" "count_of" (aA fq) (ay fq) (ae fq) .none kV9 dc9 pm9 an9 cd9 ct9),sl9⟩) (c9:W.codeIn K cd9 "count_of"=true) (k9:W.keepIn K (.ref f9)=true)
 (a10:W.nsIn K mainGlobals "trees_within"=some (some (.ref f10))) (l10:K.lookup f10=some ⟨oc10,od10,.func (W.fnOf "trees_within" "trees_within" (aA cx) (ay cx) (ae cx) .none kV10 dc10 pm10 an10 cd10 ct10),sl10⟩) (c10:W.codeIn K cd10 "trees_within"=true) (k10:W.keepIn K (.ref f10)=true)
 (a11:W.nsIn K mainGlobals "names_in"=some (some (.ref f11))) (l11:K.lookup f11=some ⟨oc11,od11,.func (W.fnOf "names_in" "names_in" (aA dI) (ay dI) (ae dI) .none kV11 dc11 pm11 an11 cd11 ct11),sl11⟩) (c11:W.codeIn K cd11 "names_in"=true) (k11:W.keepIn K (.ref f11)=true)
 (a12:W.nsIn K mainGlobals "counts_of"=some (some (.ref f12))) (l12:K.lookup f12=some ⟨oc12,od12,.func (W.fnOf "counts_of" "counts_of" (aA dR) (ay dR) (ae dR) .none kV12 dc12 pm12 an12 cd12 ct12),sl12⟩) (c12:W.codeIn K cd12 "counts_of"=true) (k12:W.keepIn K (.ref f12)=true)
 (a13:W.nsIn K mainGlobals "true_row"=some (some (.ref f13))) (l13:K.lookup f13=some ⟨oc13,od13,.func (W.fnOf "true_row" "true_row" (aA fe) (ay fe) (ae fe) .none kV13 dc13 pm13 an13 cd13 ct13),sl13⟩) (c13:W.codeIn K cd13 "true_row"=true) (k13:W.keepIn K (.ref f13)=true)
 (a14:W.nsIn K mainGlobals "value_of"=some (some (.ref f14))) (l14:K.lookup f14=some ⟨oc14,od14,.func (W.fnOf "value_of" "value_of" (aA dH) (ay dH) (ae dH) .none kV14 dc14 pm14 an14 cd14 ct14),sl14⟩) (c14:W.codeIn K cd14 "value_of"=true) (k14:W.keepIn K (.ref f14)=true)
 (a15:W.nsIn K mainGlobals "op_value"=some (some (.ref f15))) (l15:K.lookup f15=some ⟨oc15,od15,.func (W.fnOf "op_value" "op_value" (aA fh) (ay fh) (ae fh) .none kV15 dc15 pm15 an15 cd15 ct15),sl15⟩) (c15:W.codeIn K cd15 "op_value"=true) (k15:W.keepIn K (.ref f15)=true)
 (a16:W.nsIn K mainGlobals "divided"=some (some (.ref f16))) (l16:K.lookup f16=some ⟨oc16,od16,.func (W.fnOf "divided" "divided" (aA gI) (ay gI) (ae gI) .none kV16 dc16 pm16 an16 cd16 ct16),sl16⟩) (c16:W.codeIn K cd16 "divided"=true) (k16:W.keepIn K (.ref f16)=true)
 (a17:W.nsIn K mainGlobals "worth_of"=some (some (.ref f17))) (l17:K.lookup f17=some ⟨oc17,od17,.func (W.fnOf "worth_of" "worth_of" (aA dG) (ay dG) (ae dG) .none kV17 dc17 pm17 an17 cd17 ct17),sl17⟩) (c17:W.codeIn K cd17 "worth_of"=true) (k17:W.keepIn K (.ref f17)=true)
 (a18:W.nsIn K mainGlobals "joined_worth"=some (some (.ref f18))) (l18:K.lookup f18=some ⟨oc18,od18,.func (W.fnOf "joined_worth" "joined_worth" (aA cz) (ay cz) (ae cz) .none kV18 dc18 pm18 an18 cd18 ct18),sl18⟩) (c18:W.codeIn K cd18 "joined_worth"=true) (k18:W.keepIn K (.ref f18)=true)
 (a19:W.nsIn K mainGlobals "degree_of"=some (some (.ref f19))) (l19:K.lookup f19=some ⟨oc19,od19,.func (W.fnOf "degree_of" "degree_of" (aA dQ) (ay dQ) (ae dQ) .none kV19 dc19 pm19 an19 cd19 ct19),sl19⟩) (c19:W.codeIn K cd19 "degree_of"=true) (k19:W.keepIn K (.ref f19)=true)
 (a20:W.nsIn K mainGlobals "look_switches"=some (some (.ref f20))) (l20:K.lookup f20=some ⟨oc20,od20,.func (W.fnOf "look_switches" "look_switches" (aA cc) (ay cc) (ae cc) .none kV20 dc20 pm20 an20 cd20 ct20),sl20⟩) (c20:W.codeIn K cd20 "look_switches"=true) (k20:W.keepIn K (.ref f20)=true)
 (a21:W.nsIn K mainGlobals "look_names"=some (some (.ref f21))) (l21:K.lookup f21=some ⟨oc21,od21,.func (W.fnOf "look_names" "look_names" (aA cZ) (ay cZ) (ae cZ) .none kV21 dc21 pm21 an21 cd21 ct21),sl21⟩) (c21:W.codeIn K cd21 "look_names"=true) (k21:W.keepIn K (.ref f21)=true)
 (a22:W.nsIn K mainGlobals "look_field"=some (some (.ref f22))) (l22:K.lookup f22=some ⟨oc22,od22,.func (W.fnOf "look_field" "look_field" (aA da) (ay da) (ae da) .none kV22 dc22 pm22 an22 cd22 ct22),sl22⟩) (c22:W.codeIn K cd22 "look_field"=true) (k22:W.keepIn K (.ref f22)=true)
 (a23:W.nsIn K mainGlobals "look_size"=some (some (.ref f23))) (l23:K.lookup f23=some ⟨oc23,od23,.func (W.fnOf "look_size" "look_size" (aA dL) (ay dL) (ae dL) .none kV23 dc23 pm23 an23 cd23 ct23),sl23⟩) (c23:W.codeIn K cd23 "look_size"=true) (k23:W.keepIn K (.ref f23)=true)
 (a24:W.nsIn K mainGlobals "_law_feed"=some (some (.ref f24))) (l24:K.lookup f24=some ⟨oc24,od24,.func (W.fnOf "_law_feed" "_law_feed" (aA iz) (ay iz) (ae iz) .none kV24 dc24 pm24 an24 cd24 ct24),sl24⟩) (c24:W.codeIn K cd24 "_law_feed"=true) (k24:W.keepIn K (.ref f24)=true)
 (a25:W.nsIn K mainGlobals "_law_take"=some (some (.ref f25))) (l25:K.lookup f25=some ⟨oc25,od25,.func (W.fnOf "_law_take" "_law_take" (aA ip) (ay ip) (ae ip) .none kV25 dc25 pm25 an25 cd25 ct25),sl25⟩) (c25:W.codeIn K cd25 "_law_take"=true) (k25:W.keepIn K (.ref f25)=true)
 (a26:W.nsIn K mainGlobals "_law_names"=some (some (.ref f26))) (l26:K.lookup f26=some ⟨oc26,od26,.func (W.fnOf "_law_names" "_law_names" (aA bg) (ay bg) (ae bg) .none kV26 dc26 pm26 an26 cd26 ct26),sl26⟩) (c26:W.codeIn K cd26 "_law_names"=true) (k26:W.keepIn K (.ref f26)=true)
 (a27:W.nsIn K mainGlobals "_law_tree"=some (some (.ref f27))) (l27:K.lookup f27=some ⟨oc27,od27,.func (W.fnOf "_law_tree" "_law_tree" (aA gP) (ay gP) (ae gP) .none kV27 dc27 pm27 an27 cd27 ct27),sl27⟩) (c27:W.codeIn K cd27 "_law_tree"=true) (k27:W.keepIn K (.ref f27)=true)
 (a28:W.nsIn K mainGlobals "_law_names_of"=some (some (.ref f28))) (l28:K.lookup f28=some ⟨oc28,od28,.func (W.fnOf "_law_names_of" "_law_names_of" (aA cJ) (ay cJ) (ae cJ) .none kV28 dc28 pm28 an28 cd28 ct28),sl28⟩) (c28:W.codeIn K cd28 "_law_names_of"=true) (k28:W.keepIn K (.ref f28)=true)
 (a29:W.nsIn K mainGlobals "_law_need"=some (some (.ref f29))) (l29:K.lookup f29=some ⟨oc29,od29,.func (W.fnOf "_law_need" "_law_need" (aA ir) (ay ir) (ae ir) .none kV29 dc29 pm29 an29 cd29 ct29),sl29⟩) (c29:W.codeIn K cd29 "_law_need"=true) (k29:W.keepIn K (.ref f29)=true)
 (a30:W.nsIn K mainGlobals "_law_is_prime"=some (some (.ref f30))) (l30:K.lookup f30=some ⟨oc30,od30,.func (W.fnOf "_law_is_prime" "_law_is_prime" (aA dc) (ay dc) (ae dc) .none kV30 dc30 pm30 an30 cd30 ct30),sl30⟩) (c30:W.codeIn K cd30 "_law_is_prime"=true) (k30:W.keepIn K (.ref f30)=true)
 (a31:W.nsIn K mainGlobals "_law_field"=some (some (.ref f31))) (l31:K.lookup f31=some ⟨oc31,od31,.func (W.fnOf "_law_field" "_law_field" (aA gF) (ay gF) (ae gF) .none kV31 dc31 pm31 an31 cd31 ct31),sl31⟩) (c31:W.codeIn K cd31 "_law_field"=true) (k31:W.keepIn K (.ref f31)=true)
 (a32:W.nsIn K mainGlobals "_law_game"=some (some (.ref f32))) (l32:K.lookup f32=some ⟨oc32,od32,.func (W.fnOf "_law_game" "_law_game" (aA iy) (ay iy) (ae iy) .none kV32 dc32 pm32 an32 cd32 ct32),sl32⟩) (c32:W.codeIn K cd32 "_law_game"=true) (k32:W.keepIn K (.ref f32)=true)
 (a33:W.nsIn K mainGlobals "_law_term"=some (some (.ref f33))) (l33:K.lookup f33=some ⟨oc33,od33,.func (W.fnOf "_law_term" "_law_term" (aA gQ) (ay gQ) (ae gQ) .none kV33 dc33 pm33 an33 cd33 ct33),sl33⟩) (c33:W.codeIn K cd33 "_law_term"=true) (k33:W.keepIn K (.ref f33)=true)
 (a34:W.nsIn K mainGlobals "_law_helper"=some (some (.ref f34))) (l34:K.lookup f34=some ⟨oc34,od34,.func (W.fnOf "_law_helper" "_law_helper" (aA fj) (ay fj) (ae fj) .none kV34 dc34 pm34 an34 cd34 ct34),sl34⟩) (c34:W.codeIn K cd34 "_law_helper"=true) (k34:W.keepIn K (.ref f34)=true)
 (a35:W.nsIn K mainGlobals "_law_liar"=some (some (.ref f35))) (l35:K.lookup f35=some ⟨oc35,od35,.func (W.fnOf "_law_liar" "_law_liar" (aA iw) (ay iw) (ae iw) .none kV35 dc35 pm35 an35 cd35 ct35),sl35⟩) (c35:W.codeIn K cd35 "_law_liar"=true) (k35:W.keepIn K (.ref f35)=true)
 (a36:W.nsIn K mainGlobals "_law_degrees"=some (some (.ref f36))) (l36:K.lookup f36=some ⟨oc36,od36,.func (W.fnOf "_law_degrees" "_law_degrees" (aA dP) (ay dP) (ae dP) .none kV36 dc36 pm36 an36 cd36 ct36),sl36⟩) (c36:W.codeIn K cd36 "_law_degrees"=true) (k36:W.keepIn K (.ref f36)=true)
 (a37:W.nsIn K mainGlobals "_law_worth"=some (some (.ref f37))) (l37:K.lookup f37=some ⟨oc37,od37,.func (W.fnOf "_law_worth" "_law_worth" (aA fi) (ay fi) (ae fi) .none kV37 dc37 pm37 an37 cd37 ct37),sl37⟩) (c37:W.codeIn K cd37 "_law_worth"=true) (k37:W.keepIn K (.ref f37)=true)
 (a38:W.nsIn K mainGlobals "_law_mixed"=some (some (.ref f38))) (l38:K.lookup f38=some ⟨oc38,od38,.func (W.fnOf "_law_mixed" "_law_mixed" (aA gE) (ay gE) (ae gE) .none kV38 dc38 pm38 an38 cd38 ct38),sl38⟩) (c38:W.codeIn K cd38 "_law_mixed"=true) (k38:W.keepIn K (.ref f38)=true)
 (a39:W.nsIn K mainGlobals "_law_all"=some (some (.ref f39))) (l39:K.lookup f39=some ⟨oc39,od39,.func (W.fnOf "_law_all" "_law_all" (aA jM) (ay jM) (ae jM) .none kV39 dc39 pm39 an39 cd39 ct39),sl39⟩) (c39:W.codeIn K cd39 "_law_all"=true) (k39:W.keepIn K (.ref f39)=true)
 (a40:W.nsIn K mainGlobals "_law_sum"=some (some (.ref f40))) (l40:K.lookup f40=some ⟨oc40,od40,.func (W.fnOf "_law_sum" "_law_sum" (aA jK) (ay jK) (ae jK) .none kV40 dc40 pm40 an40 cd40 ct40),sl40⟩) (c40:W.codeIn K cd40 "_law_sum"=true) (k40:W.keepIn K (.ref f40)=true)
 (a41:W.nsIn K mainGlobals "_law_count"=some (some (.ref f41))) (l41:K.lookup f41=some ⟨oc41,od41,.func (W.fnOf "_law_count" "_law_count" (aA gG) (ay gG) (ae gG) .none kV41 dc41 pm41 an41 cd41 ct41),sl41⟩) (c41:W.codeIn K cd41 "_law_count"=true) (k41:W.keepIn K (.ref f41)=true)
 (a42:W.nsIn K mainGlobals "_law_inverse"=some (some (.ref f42))) (l42:K.lookup f42=some ⟨oc42,od42,.func (W.fnOf "_law_inverse" "_law_inverse" (aA dN) (ay dN) (ae dN) .none kV42 dc42 pm42 an42 cd42 ct42),sl42⟩) (c42:W.codeIn K cd42 "_law_inverse"=true) (k42:W.keepIn K (.ref f42)=true)
 (a43:W.nsIn K mainGlobals "_law_true"=some (some (.ref f43))) (l43:K.lookup f43=some ⟨oc43,od43,.func (W.fnOf "_law_true" "_law_true" (aA io) (ay io) (ae io) .none kV43 dc43 pm43 an43 cd43 ct43),sl43⟩) (c43:W.codeIn K cd43 "_law_true"=true) (k43:W.keepIn K (.ref f43)=true)
 (a44:W.nsIn K mainGlobals "_law_term_worth"=some (some (.ref f44))) (l44:K.lookup f44=some ⟨oc44,od44,.func (W.fnOf "_law_term_worth" "_law_term_worth" (aA bO) (ay bO) (ae bO) .none kV44 dc44 pm44 an44 cd44 ct44),sl44⟩) (c44:W.codeIn K cd44 "_law_term_worth"=true) (k44:W.keepIn K (.ref f44)=true)
 (a45:W.nsIn K mainGlobals "_law_said"=some (some (.ref f45))) (l45:K.lookup f45=some ⟨oc45,od45,.func (W.fnOf "_law_said" "_law_said" (aA iq) (ay iq) (ae iq) .none kV45 dc45 pm45 an45 cd45 ct45),sl45⟩) (c45:W.codeIn K cd45 "_law_said"=true) (k45:W.keepIn K (.ref f45)=true)
 (a46:W.nsIn K mainGlobals "_law_now"=some (some (.ref f46))) (l46:K.lookup f46=some ⟨oc46,od46,.func (W.fnOf "_law_now" "_law_now" (aA jL) (ay jL) (ae jL) .none kV46 dc46 pm46 an46 cd46 ct46),sl46⟩) (c46:W.codeIn K cd46 "_law_now"=true) (k46:W.keepIn K (.ref f46)=true)
 (a47:W.nsIn K mainGlobals "_law_whole"=some (some (.ref f47))) (l47:K.lookup f47=some ⟨oc47,od47,.func (W.fnOf "_law_whole" "_law_whole" (aA gD) (ay gD) (ae gD) .none kV47 dc47 pm47 an47 cd47 ct47),sl47⟩) (c47:W.codeIn K cd47 "_law_whole"=true) (k47:W.keepIn K (.ref f47)=true)
 (a48:W.nsIn K mainGlobals "_law_numbers"=some (some (.ref f48))) (l48:K.lookup f48=some ⟨oc48,od48,.func (W.fnOf "_law_numbers" "_law_numbers" (aA dM) (ay dM) (ae dM) .none kV48 dc48 pm48 an48 cd48 ct48),sl48⟩) (c48:W.codeIn K cd48 "_law_numbers"=true) (k48:W.keepIn K (.ref f48)=true)
 (a49:W.nsIn K mainGlobals "_law_asked"=some (some (.ref f49))) (l49:K.lookup f49=some ⟨oc49,od49,.func (W.fnOf "_law_asked" "_law_asked" (aA gH) (ay gH) (ae gH) .none kV49 dc49 pm49 an49 cd49 ct49),sl49⟩) (c49:W.codeIn K cd49 "_law_asked"=true) (k49:W.keepIn K (.ref f49)=true)
 (a50:W.nsIn K mainGlobals "_law_long"=some (some (.ref f50))) (l50:K.lookup f50=some ⟨oc50,od50,.func (W.fnOf "_law_long" "_law_long" (aA iu) (ay iu) (ae iu) .none kV50 dc50 pm50 an50 cd50 ct50),sl50⟩) (c50:W.codeIn K cd50 "_law_long"=true) (k50:W.keepIn K (.ref f50)=true)
 (a51:W.nsIn K mainGlobals "law"=some (some (.ref f51))) (l51:K.lookup f51=some ⟨oc51,od51,.func (W.fnOf "law" "law" (aA kL) (ay kL) (ae kL) .none kV51 dc51 pm51 an51 cd51 ct51),sl51⟩) (c51:W.codeIn K cd51 "law"=true) (k51:W.keepIn K (.ref f51)=true)
 {CG gmgI gmgM gmgW:Addr} {gmodI gmanI gmodM gmanM gmodW gmanW:Option Addr} {gmslI gmslM gmslW:Array (Option Value)} {gmocI gmkVI gmdcI gmpmI gmcdI gmctI gmocM gmkVM gmdcM gmpmM gmcdM gmctM gmocW gmkVW gmdcW gmpmW gmcdW gmctW:Value}
 {CA asgI asgP asgC asgN asgR:Addr} {asodI asanI asodP asanP asodC asanC asodN asanN asodR asanR:Option Addr} {asslI asslP asslC asslN asslR:Array (Option Value)} {asocI askVI asdcI aspmI ascdI asctI asocP askVP asdcP aspmP ascdP asctP asocC askVC asdcC aspmC ascdC asctC asocN askVN asdcN aspmN ascdN asctN asocR askVR asdcR aspmR ascdR asctR:Value}
 {CM mcgI mcgS mcgR mcgB:Addr} {mcodI mcanI mcodS mcanS mcodR mcanR mcodB mcanB:Option Addr} {mcslI mcslS mcslR mcslB:Array (Option Value)} {mcocI mckVI mcdcI mcpmI mccdI mcctI mcocS mckVS mcdcS mcpmS mccdS mcctS mcocR mckVR mcdcR mcpmR mccdR mcctR mcocB mckVB mcdcB mcpmB mccdB mcctB:Value}
 {te tm:Tok}
 (FL:W.nsIn K mainGlobals "Game"=some (some (.ref CG)))
 (FM:W.findIn K (.ref CG) "__init__"=some (some (.ref gmgI)))
 (FN:W.isFn K (.ref gmgI)=true)
 (FO:K.lookup gmgI=some ⟨gmocI,gmodI,.func (W.fnOf "__init__" "Game.__init__" (aA jN) (ay jN) (ae jN) .none gmkVI gmdcI gmpmI gmanI gmcdI gmctI),gmslI⟩)
 (FP:W.codeIn K gmcdI "Game.__init__"=true)
 (FQ:W.keepIn K (.ref gmgI)=true)
 (FR:W.findIn K (.ref CG) "mix"=some (some (.ref gmgM)))
 (FS:W.isFn K (.ref gmgM)=true)
 (FT:K.lookup gmgM=some ⟨gmocM,gmodM,.func (W.fnOf "mix" "Game.mix" (aA lJ) (ay lJ) (ae lJ) .none gmkVM gmdcM gmpmM gmanM gmcdM gmctM),gmslM⟩)
 (FU:W.codeIn K gmcdM "Game.mix"=true)
 (EQ:W.keepIn K (.ref gmgM)=true)
 (FV:W.findIn K (.ref CG) "worth_at"=some (some (.ref gmgW)))
 (FW:W.isFn K (.ref gmgW)=true)
 (FX:K.lookup gmgW=some ⟨gmocW,gmodW,.func (W.fnOf "worth_at" "Game.worth_at" (aA iB) (ay iB) (ae iB) .none gmkVW gmdcW gmpmW gmanW gmcdW gmctW),gmslW⟩)
 (FY:W.codeIn K gmcdW "Game.worth_at"=true)
 (ER:W.keepIn K (.ref gmgW)=true)
 (FZ:W.plainGet K CG Str.empty=true)
 (Fa:W.hasDictIn K CG=true)
 (Fb:W.plainOver K CG=true)
 (Fc:W.findIn K (.ref CG) "__setattr__"=some (some (.builtin "object.__setattr__")))
 (Fd:W.makesIn K CG=true)
 (Fe:W.keepIn K (.ref CG)=true)
 (o3:W.findIn K (.ref CG) "switches"=some none)
 (C9:W.findIn K (.ref CG) "trees"=some none)
 (DP:W.findIn K (.ref CG) "field"=some none)
 (rA:W.findIn K (.ref CG) "degrees"=some none)
 (Gc:W.nsIn K mainGlobals "Asking"=some (some (.ref CA)))
 (Gd:W.findIn K (.ref CA) "__init__"=some (some (.ref asgI)))
 (Ge:W.isFn K (.ref asgI)=true)
 (Gf:K.lookup asgI=some ⟨asocI,asodI,.func (W.fnOf "__init__" "Asking.__init__" (aA jP) (ay jP) (ae jP) .none askVI asdcI aspmI asanI ascdI asctI),asslI⟩)
 (Gh:W.codeIn K ascdI "Asking.__init__"=true)
 (Gi:W.keepIn K (.ref asgI)=true)
 (Gj:W.findIn K (.ref CA) "plain_value"=some (some (.ref asgP)))
 (Gk:W.isFn K (.ref asgP)=true)
 (Gn:K.lookup asgP=some ⟨asocP,asodP,.func (W.fnOf "plain_value" "Asking.plain_value" (aA iC) (ay iC) (ae iC) .none askVP asdcP aspmP asanP ascdP asctP),asslP⟩)
 (Go:W.codeIn K ascdP "Asking.plain_value"=true)
 (ES:W.keepIn K (.ref asgP)=true)
 (Gp:W.findIn K (.ref CA) "coin_at"=some (some (.ref asgC)))
 (Gq:W.isFn K (.ref asgC)=true)
 (Gs:K.lookup asgC=some ⟨asocC,asodC,.func (W.fnOf "coin_at" "Asking.coin_at" (aA jQ) (ay jQ) (ae jQ) .none askVC asdcC aspmC asanC ascdC asctC),asslC⟩)
 (Gv:W.codeIn K ascdC "Asking.coin_at"=true)
 (ET:W.keepIn K (.ref asgC)=true)
 (Gw:W.findIn K (.ref CA) "true_numbers"=some (some (.ref asgN)))
 (Gx:W.isFn K (.ref asgN)=true)
 (Gy:K.lookup asgN=some ⟨asocN,asodN,.func (W.fnOf "true_numbers" "Asking.true_numbers" (aA gJ) (ay gJ) (ae gJ) .none askVN asdcN aspmN asanN ascdN asctN),asslN⟩)
 (Gz:W.codeIn K ascdN "Asking.true_numbers"=true)
 (EU:W.keepIn K (.ref asgN)=true)
 (GE:W.findIn K (.ref CA) "true_at"=some (some (.ref asgR)))
 (GF:W.isFn K (.ref asgR)=true)
 (GH:K.lookup asgR=some ⟨asocR,asodR,.func (W.fnOf "true_at" "Asking.true_at" (aA jO) (ay jO) (ae jO) .none askVR asdcR aspmR asanR ascdR asctR),asslR⟩)
 (GJ:W.codeIn K ascdR "Asking.true_at"=true)
 (EV:W.keepIn K (.ref asgR)=true)
 (GK:W.plainGet K CA Str.empty=true)
 (Ff:W.hasDictIn K CA=true)
 (Fg:W.plainOver K CA=true)
 (Fh:W.findIn K (.ref CA) "__setattr__"=some (some (.builtin "object.__setattr__")))
 (Fi:W.makesIn K CA=true)
 (Fj:W.keepIn K (.ref CA)=true)
 (D5:W.findIn K (.ref CA) "game"=some none)
 (v8:W.findIn K (.ref CA) "number"=some none)
 (D6:W.findIn K (.ref CA) "many"=some none)
 (D7:W.findIn K (.ref CA) "held"=some none)
 (Fk:W.findIn K (.ref CA) "s"=some none)
 (w4:W.findIn K (.ref CA) "tossed"=some none)
 (w6:W.findIn K (.ref CA) "truths"=some none)
 (GN:W.nsIn K mainGlobals "Machine"=some (some (.ref CM)))
 (GO:W.findIn K (.ref CM) "__init__"=some (some (.ref mcgI)))
 (GQ:W.isFn K (.ref mcgI)=true)
 (GU:K.lookup mcgI=some ⟨mcocI,mcodI,.func (W.fnOf "__init__" "Machine.__init__" (aA jI) (ay jI) (ae jI) .none mckVI mcdcI mcpmI mcanI mccdI mcctI),mcslI⟩)
 (GV:W.codeIn K mccdI "Machine.__init__"=true)
 (GX:W.keepIn K (.ref mcgI)=true)
 (GY:W.findIn K (.ref CM) "say"=some (some (.ref mcgS)))
 (GZ:W.isFn K (.ref mcgS)=true)
 (G6:K.lookup mcgS=some ⟨mcocS,mcodS,.func (W.fnOf "say" "Machine.say" (aA lG) (ay lG) (ae lG) .none mckVS mcdcS mcpmS mcanS mccdS mcctS),mcslS⟩)
 (G8:W.codeIn K mccdS "Machine.say"=true)
 (EW:W.keepIn K (.ref mcgS)=true)
 (G9:W.findIn K (.ref CM) "do_row"=some (some (.ref mcgR)))
 (Ha:W.isFn K (.ref mcgR)=true)
 (Hb:K.lookup mcgR=some ⟨mcocR,mcodR,.func (W.fnOf "do_row" "Machine.do_row" (aA lH) (ay lH) (ae lH) .none mckVR mcdcR mcpmR mcanR mccdR mcctR),mcslR⟩)
 (Hc:W.codeIn K mccdR "Machine.do_row"=true)
 (EX:W.keepIn K (.ref mcgR)=true)
 (Hd:W.findIn K (.ref CM) "box"=some (some (.ref mcgB)))
 (He:W.isFn K (.ref mcgB)=true)
 (Hf:K.lookup mcgB=some ⟨mcocB,mcodB,.func (W.fnOf "box" "Machine.box" (aA lI) (ay lI) (ae lI) .none mckVB mcdcB mcpmB mcanB mccdB mcctB),mcslB⟩)
 (Hg:W.codeIn K mccdB "Machine.box"=true)
 (EY:W.keepIn K (.ref mcgB)=true)
 (Hh:W.plainGet K CM Str.empty=true)
 (Fl:W.hasDictIn K CM=true)
 (Fm:W.plainOver K CM=true)
 (Fn:W.findIn K (.ref CM) "__setattr__"=some (some (.builtin "object.__setattr__")))
 (Fo:W.makesIn K CM=true)
 (Fp:W.keepIn K (.ref CM)=true)
 (D8:W.findIn K (.ref CM) "game"=some none)
 (w8:W.findIn K (.ref CM) "helper"=some none)
 (j7:W.findIn K (.ref CM) "next_round"=some none)
 (DQ:W.findIn K (.ref CM) "boxes"=some none)
 (ge:W.nsIn K mainGlobals "FIELDS_END"=some (some (.int 1000000 te)))
 (gmo:W.nsIn K mainGlobals "MOST_ROWS_DONE"=some (some (.int 200 tm)))
 (z0:W.nsIn K mainGlobals "len"=some none) (z1:W.nsIn K mainGlobals "range"=some none) (z2:W.nsIn K mainGlobals "isinstance"=some none) (z3:W.nsIn K mainGlobals "int"=some none) (z4:W.nsIn K mainGlobals "bool"=some none) (z5:W.nsIn K mainGlobals "list"=some none) (z6:W.nsIn K mainGlobals "tuple"=some none) (z7:W.nsIn K mainGlobals "max"=some none) (z8:W.nsIn K mainGlobals "min"=some none) (z9:W.nsIn K mainGlobals "reversed"=some none) (z10:W.nsIn K mainGlobals "enumerate"=some none) (z11:W.nsIn K mainGlobals "sum"=some none) (z12:W.nsIn K mainGlobals "all"=some none) (z13:W.nsIn K mainGlobals "zip"=some none) (z14:W.nsIn K mainGlobals "dict"=some none) :
 ∃fd:FuncData,(∀(s:Shared) (v:Value),BindsTo s fd ⟨[v],[]⟩ [("_law_script",v)])/\∀base:Heap,K.In base->base.Ns mainGlobals mg->FnOk l.prog w K mg base CX0 30 fa fd ["_law_script"] (vq K):=by
 have e:=hfa.symm.trans (W.mg_of X G a51);cases e;have xG:=aF (st:=fk) l0 c0 k0;have EB:=W.mg_of X G a0;have o4:=aF (st:=de) l1 c1 k1;have D9:=W.mg_of X G a1;have y4:=aF (st:=fc) l2 c2 k2;have EC:=W.mg_of X G a2;have j8:=aF (st:=cv) l3 c3 k3;have C4:=W.mg_of X G a3;have y6:=aF (st:=fg) l4 c4 k4;have ED:=W.mg_of X G a4;have gA:=aF (st:=bq) l5 c5 k5;have mZ:=W.mg_of X G a5;have j9:=aF (st:=cC) l6 c6 k6;have C5:=W.mg_of X G a6;have y8:=aF (st:=dJ) l7 c7 k7;have An:=W.mg_of X G a7;have Ea:=aF (st:=iA) l8 c8 k8;have EZ:=W.mg_of X G a8;have A0:=aF (st:=fq) l9 c9 k9;have EE:=W.mg_of X G a9;have kf:=aF (st:=cx) l10 c10 k10;have C6:=W.mg_of X G a10;have A3:=aF (st:=dI) l11 c11 k11;have A4:=W.mg_of X G a11;have rC:=aF (st:=dR) l12 c12 k12;have Er:=W.mg_of X G a12;have A5:=aF (st:=fe) l13 c13 k13;have EF:=W.mg_of X G a13;have A7:=aF (st:=dH) l14 c14 k14;have A8:=W.mg_of X G a14;have A9:=aF (st:=fh) l15 c15 k15;have EG:=W.mg_of X G a15;have DR:=aF (st:=gI) l16 c16 k16;have EI:=W.mg_of X G a16;have B0:=aF (st:=dG) l17 c17 k17;have B9:=W.mg_of X G a17;have kI:=aF (st:=cz) l18 c18 k18;have C7:=W.mg_of X G a18;have r6:=aF (st:=dQ) l19 c19 k19;have Es:=W.mg_of X G a19;have i8:=aF (st:=cc) l20 c20 k20;have C0:=W.mg_of X G a20;have o5:=aF (st:=cZ) l21 c21 k21;have Eb:=W.mg_of X G a21;have o6:=aF (st:=da) l22 c22 k22;have Ec:=W.mg_of X G a22;have r8:=aF (st:=dL) l23 c23 k23;have Et:=W.mg_of X G a23;have Ed:=aF (st:=iz) l24 c24 k24;have E1:=W.mg_of X G a24;have Ee:=aF (st:=ip) l25 c25 k25;have E3:=W.mg_of X G a25;have DS:=aF (st:=bg) l26 c26 k26;have EJ:=W.mg_of X G a26;have Ef:=aF (st:=gP) l27 c27 k27;have Eg:=W.mg_of X G a27;have o7:=aF (st:=cJ) l28 c28 k28;have o8:=W.mg_of X G a28;have Eh:=aF (st:=ir) l29 c29 k29;have E4:=W.mg_of X G a29;have o9:=aF (st:=dc) l30 c30 k30;have Ei:=W.mg_of X G a30;have DT:=aF (st:=gF) l31 c31 k31;have EK:=W.mg_of X G a31;have Ej:=aF (st:=iy) l32 c32 k32;have E5:=W.mg_of X G a32;have Ek:=aF (st:=gQ) l33 c33 k33;have El:=W.mg_of X G a33;have C1:=aF (st:=fj) l34 c34 k34;have EH:=W.mg_of X G a34;have Em:=aF (st:=iw) l35 c35 k35;have E6:=W.mg_of X G a35;have r9:=aF (st:=dP) l36 c36 k36;have Ev:=W.mg_of X G a36;have DU:=aF (st:=fi) l37 c37 k37;have DV:=W.mg_of X G a37;have DW:=aF (st:=gE) l38 c38 k38;have EL:=W.mg_of X G a38;have Ey:=aF (st:=jM) l39 c39 k39;have FI:=W.mg_of X G a39;have Ez:=aF (st:=jK) l40 c40 k40;have FJ:=W.mg_of X G a40;have DX:=aF (st:=gG) l41 c41 k41;have EM:=W.mg_of X G a41;have sW:=aF (st:=dN) l42 c42 k42;have Ew:=W.mg_of X G a42;have En:=aF (st:=io) l43 c43 k43;have E7:=W.mg_of X G a43;have kJ:=aF (st:=bO) l44 c44 k44;have kK:=W.mg_of X G a44;have Eo:=aF (st:=iq) l45 c45 k45;have E8:=W.mg_of X G a45;have EA:=aF (st:=jL) l46 c46 k46;have FK:=W.mg_of X G a46;have DY:=aF (st:=gD) l47 c47 k47;have EN:=W.mg_of X G a47;have t7:=aF (st:=dM) l48 c48 k48;have Ex:=W.mg_of X G a48;have DZ:=aF (st:=gH) l49 c49 k49;have EO:=W.mg_of X G a49;have Ep:=aF (st:=iu) l50 c50 k50;have E9:=W.mg_of X G a50;have Hi:=aF (st:=kL) l51 c51 k51;have B:Bl mg:=⟨W.mg_none_of X G z0,W.mg_none_of X G z1,W.mg_none_of X G z2,W.mg_none_of X G z3,W.mg_none_of X G z4,W.mg_none_of X G z5,W.mg_none_of X G z6,W.mg_none_of X G z7,W.mg_none_of X G z8,W.mg_none_of X G z9,W.mg_none_of X G z10,W.mg_none_of X G z11,W.mg_none_of X G z12,W.mg_none_of X G z13,W.mg_none_of X G z14⟩
 refine⟨W.fnOf "law" "law" (aA kL) (ay kL) (ae kL) .none kV51 dc51 pm51 an51 cd51 ct51,fun s v=>.of_eq rfl,fun base _ _=>?_⟩;have TG:GTxt K mg CG:=⟨⟨FZ,Fa,Fb,Fc⟩,o3,C9,DP,rA,W.mg_of X G FL⟩
 have TA:ATxt K mg CA:=⟨⟨GK,Ff,Fg,Fh⟩,D5,v8,D6,D7,Fk,w4,w6,W.mg_of X G Gc⟩
 have TM:MTxt K mg CM:=⟨⟨Hh,Fl,Fm,Fn⟩,D8,w8,j7,DQ,W.mg_of X G GN⟩
 have Fq:=aF (st:=jN) FO FP FQ;have Hj:=Fq.binds (ps:=["self","switches","trees","field"]) fun _ _ _ _ _ _ us hl=>by obtain⟨u0,u1,u2,u3,rfl⟩:=ow hl;rfl
 have Fr:=aF (st:=lJ) FT FU EQ;have Hk:=Fr.binds (ps:=["self","numbers","s"]) fun _ _ _ _ _ _ us hl=>by obtain⟨u0,u1,u2,rfl⟩:=gV hl;rfl
 have Hl:Meth K CG "mix" gmgM:=⟨FR,FS,EQ⟩
 have Fs:=aF (st:=iB) FX FY ER;have Hm:=Fs.binds (ps:=["self","point","s"]) fun _ _ _ _ _ _ us hl=>by obtain⟨u0,u1,u2,rfl⟩:=gV hl;rfl
 have Hn:Meth K CG "worth_at" gmgW:=⟨FV,FW,ER⟩
 have Ft:=aF (st:=jP) Gf Gh Gi;have Ho:=Ft.binds (ps:=["self","game","number","many","due","s","coins"]) fun _ _ _ _ _ _ us hl=>by obtain⟨u0,u1,u2,u3,u4,u5,u6,rfl⟩:=len7 hl;rfl
 have Fu:=aF (st:=iC) Gn Go ES;have Hq:=Fu.binds (ps:=["self","word"]) fun _ _ _ _ _ _ us hl=>by obtain⟨u0,u1,rfl⟩:=gT hl;rfl
 have Hs:Meth K CA "plain_value" asgP:=⟨Gj,Gk,ES⟩
 have Fv:=aF (st:=jQ) Gs Gv ET;have Ht:=Fv.binds (ps:=["self","place"]) fun _ _ _ _ _ _ us hl=>by obtain⟨u0,u1,rfl⟩:=gT hl;rfl
 have Hu:Meth K CA "coin_at" asgC:=⟨Gp,Gq,ET⟩
 have Fw:=aF (st:=gJ) Gy Gz EU;have Hv:=Fw.binds (ps:=["self"]) fun _ _ _ _ _ _ us hl=>by obtain⟨u0,rfl⟩:=jX hl;rfl
 have Hw:Meth K CA "true_numbers" asgN:=⟨Gw,Gx,EU⟩
 have Fx:=aF (st:=jO) GH GJ EV;have Hx:=Fx.binds (ps:=["self","place"]) fun _ _ _ _ _ _ us hl=>by obtain⟨u0,u1,rfl⟩:=gT hl;rfl
 have Hy:Meth K CA "true_at" asgR:=⟨GE,GF,EV⟩
 have Fy:=aF (st:=jI) GU GV GX;have Hz:=Fy.binds (ps:=["self","game","helper"]) fun _ _ _ _ _ _ us hl=>by obtain⟨u0,u1,u2,rfl⟩:=gV hl;rfl
 have Fz:=aF (st:=lG) G6 G8 EW;have HD:=Fz.binds (ps:=["self","many","due","s","coins"]) fun _ _ _ _ _ _ us hl=>by obtain⟨u0,u1,u2,u3,u4,rfl⟩:=len5 hl;rfl
 have HE:Meth K CM "say" mcgS:=⟨GY,GZ,EW⟩
 have FC:=aF (st:=lH) Hb Hc EX;have HF:=FC.binds (ps:=["self","place","said","asking"]) fun _ _ _ _ _ _ us hl=>by obtain⟨u0,u1,u2,u3,rfl⟩:=ow hl;rfl
 have HG:Meth K CM "do_row" mcgR:=⟨G9,Ha,EX⟩
 have FD:=aF (st:=lI) Hf Hg EY;have FE:=FD.binds (ps:=["self","x"]) fun _ _ _ _ _ _ us hl=>by obtain⟨u0,u1,rfl⟩:=gT hl;rfl
 have FG:Meth K CM "box" mcgB:=⟨Hd,He,EY⟩
 have eM:=Cal.of (P:=l.prog) (w:=w) (base:=base) Ed (wM Ed B.len) E1 (fun _ _ _ _ _ _ us hl=>by obtain⟨u0,u1,rfl⟩:=gT hl;rfl);have aU:=Cal.of (P:=l.prog) (w:=w) (base:=base) Ee (wG Ee ) E3 (fun _ _ _ _ _ _ us hl=>by obtain⟨u0,u1,rfl⟩:=gT hl;rfl);have kM:=Cal.of (P:=l.prog) (w:=w) (base:=base) xG (rT xG ) EB (fun _ _ _ _ _ _ us hl=>by obtain⟨u0,rfl⟩:=jX hl;rfl);have dZ:=Cal.of (P:=l.prog) (w:=w) (base:=base) o4 (oY o4 ) D9 (fun _ _ _ _ _ _ us hl=>by obtain⟨u0,u1,rfl⟩:=gT hl;rfl);have cY:=Cal.of (P:=l.prog) (w:=w) (base:=base) y6 (rQ y6 ) ED (fun _ _ _ _ _ _ us hl=>by obtain⟨u0,u1,rfl⟩:=gT hl;rfl);have d8:=Cal.of (P:=l.prog) (w:=w) (base:=base) gA (jd gA B cY dZ) mZ (fun _ _ _ _ _ _ us hl=>by obtain⟨u0,u1,rfl⟩:=gT hl;rfl);have gB:=Cal.of (P:=l.prog) (w:=w) (base:=base) j8 (mI j8 B cY d8) C4 (fun _ _ _ _ _ _ us hl=>by obtain⟨u0,u1,u2,rfl⟩:=gV hl;rfl);have ma:=Cal.of (P:=l.prog) (w:=w) (base:=base) y4 (rO y4 B gB) EC (fun _ _ _ _ _ _ us hl=>by obtain⟨u0,u1,u2,rfl⟩:=gV hl;rfl);have cI:=Cal.of (P:=l.prog) (w:=w) (base:=base) kf (mJ kf ) C6 (fun _ _ _ _ _ _ us hl=>by obtain⟨u0,rfl⟩:=jX hl;rfl);have cT:=Cal.of (P:=l.prog) (w:=w) (base:=base) A3 (mi A3 A4 cI 10) A4 (fun _ _ _ _ _ _ us hl=>by obtain⟨u0,rfl⟩:=jX hl;rfl);have cn:=Cal.of (P:=l.prog) (w:=w) (base:=base) kI (mK kI ) C7 (fun _ _ _ _ _ _ us hl=>by obtain⟨u0,u1,u2,u3,rfl⟩:=ow hl;rfl);have eN:=Cal.of (P:=l.prog) (w:=w) (base:=base) B0 (mf B0 B9 cn 10) B9 (fun _ _ _ _ _ _ us hl=>by obtain⟨u0,u1,u2,u3,rfl⟩:=ow hl;rfl);have jk:=Cal.of (P:=l.prog) (w:=w) (base:=base) r6 (qz r6 B.max cT) Es (fun _ _ _ _ _ _ us hl=>by obtain⟨u0,u1,rfl⟩:=gT hl;rfl);have fY:=Cal.of (P:=l.prog) (w:=w) (base:=base) i8 (lO i8 B.enumerate) C0 (fun _ _ _ _ _ _ us hl=>by obtain⟨u0,rfl⟩:=jX hl;rfl);have iJ:=Cal.of (P:=l.prog) (w:=w) (base:=base) o5 (oV o5 cT) Eb (fun _ _ _ _ _ _ us hl=>by obtain⟨u0,u1,rfl⟩:=gT hl;rfl);have iM:=Cal.of (P:=l.prog) (w:=w) (base:=base) o6 (oW o6 ⟨te,W.mg_of X G ge⟩ kM) Ec (fun _ _ _ _ _ _ us hl=>by obtain⟨u0,rfl⟩:=jX hl;rfl);have jm:=Cal.of (P:=l.prog) (w:=w) (base:=base) r8 (qv r8 B.max) Et (fun _ _ _ _ _ _ us hl=>by obtain⟨u0,u1,rfl⟩:=gT hl;rfl);have e9:=Cal.of (P:=l.prog) (w:=w) (base:=base) DS (ug DS B.range aU) EJ (fun _ _ _ _ _ _ us hl=>by obtain⟨u0,u1,rfl⟩:=gT hl;rfl);have eY:=Cal.of (P:=l.prog) (w:=w) (base:=base) Ef (pE Ef B.len Eg aU 10) Eg (fun _ _ _ _ _ _ us hl=>by obtain⟨u0,u1,u2,u3,rfl⟩:=ow hl;rfl);have b8:=Cal.of (P:=l.prog) (w:=w) (base:=base) o7 (kg o7 o8 10) o8 (fun _ _ _ _ _ _ us hl=>by obtain⟨u0,rfl⟩:=jX hl;rfl);have t8:=Cal.of (P:=l.prog) (w:=w) (base:=base) Eh (wI Eh B.len B.max b8) E4 (fun _ _ _ _ _ _ us hl=>by obtain⟨u0,u1,rfl⟩:=gT hl;rfl);have iI:=Cal.of (P:=l.prog) (w:=w) (base:=base) o9 (oX o9 B.range) Ei (fun _ _ _ _ _ _ us hl=>by obtain⟨u0,rfl⟩:=jX hl;rfl);have nQ:=Cal.of (P:=l.prog) (w:=w) (base:=base) DT (ui DT aU iI) EK (fun _ _ _ _ _ _ us hl=>by obtain⟨u0,u1,rfl⟩:=gT hl;rfl);have u8:=Cal.of (P:=l.prog) (w:=w) (base:=base) Ej (wL Ej B.range B.tuple aU e9 eY t8 nQ) E5 (fun _ _ _ _ _ _ us hl=>by obtain⟨u0,u1,u2,rfl⟩:=gV hl;rfl);have HH:=zr (P:=l.prog) (w:=w) (base:=base) Fq TG B.tuple B.len jk fY iJ iM jm;have HI:=Bi (P:=l.prog) (w:=w) (base:=base) Fr TG B.reversed;have HJ:=wO (P:=l.prog) (w:=w) (base:=base) Fs TG Hl HI Hk eN;have cO:=Cal.of (P:=l.prog) (w:=w) (base:=base) j9 (mL j9 B.range) C5 (fun _ _ _ _ _ _ us hl=>by obtain⟨u0,rfl⟩:=jX hl;rfl);have gC:=Cal.of (P:=l.prog) (w:=w) (base:=base) Ea (wN Ea ) EZ (fun _ _ _ _ _ _ us hl=>by obtain⟨u0,u1,u2,rfl⟩:=gV hl;rfl);have eP:=Cal.of (P:=l.prog) (w:=w) (base:=base) y8 (mo y8 An gC 12) An (fun _ _ _ _ _ _ us hl=>by obtain⟨u0,u1,u2,rfl⟩:=gV hl;rfl);have lF:=Cal.of (P:=l.prog) (w:=w) (base:=base) A0 (rV A0 B.len cO eP) EE (fun _ _ _ _ _ _ us hl=>by obtain⟨u0,u1,rfl⟩:=gT hl;rfl);have jH:=Cal.of (P:=l.prog) (w:=w) (base:=base) rC (qA rC TG lF) Er (fun _ _ _ _ _ _ us hl=>by obtain⟨u0,rfl⟩:=jX hl;rfl);have lZ:=Cal.of (P:=l.prog) (w:=w) (base:=base) A5 (rP A5 B TG Hn HJ Hm cO) EF (fun _ _ _ _ _ _ us hl=>by obtain⟨u0,u1,u2,rfl⟩:=gV hl;rfl);have n8:=Cal.of (P:=l.prog) (w:=w) (base:=base) DR (uq DR dZ) EI (fun _ _ _ _ _ _ us hl=>by obtain⟨u0,u1,u2,rfl⟩:=gV hl;rfl);have eQ:=Cal.of (P:=l.prog) (w:=w) (base:=base) A9 (rR A9 n8) EG (fun _ _ _ _ _ _ us hl=>by obtain⟨u0,u1,u2,u3,rfl⟩:=ow hl;rfl);have HK:=zu (P:=l.prog) (w:=w) (base:=base) Ft B TA;have HM:=wP (P:=l.prog) (w:=w) (base:=base) Fu TA TG;have HN:=zv (P:=l.prog) (w:=w) (base:=base) Fv B TA TG;have HP:=ur (P:=l.prog) (w:=w) (base:=base) Fw TA jH lZ;have HQ:=zt (P:=l.prog) (w:=w) (base:=base) Fx B TA TG Hw HP Hv ma;have AF:AskF l.prog w K mg base CA CG _ _ _ _ _ _:=⟨Hs,HM,Hq,Hu,HN,Ht,Hy,HQ,Hx⟩
 have b7:=Cal.of (P:=l.prog) (w:=w) (base:=base) A7 (mh A7 A8 TA TG AF eQ 8) A8 (fun _ _ _ _ _ _ us hl=>by obtain⟨u0,u1,u2,rfl⟩:=gV hl;rfl);have HS:=zm (P:=l.prog) (w:=w) (base:=base) Fy TM;have HU:=Bg (P:=l.prog) (w:=w) (base:=base) FC B TM b7;have HV:=Bf (P:=l.prog) (w:=w) (base:=base) Fz B TM TA ⟨tm,W.mg_of X G gmo⟩ ⟨Fi,Gd,Ge,Fj⟩ HK Ho HG HU HF;have MMk:Mk K CM mcgI:=⟨Fo,GO,GQ,Fp⟩
 have FH:=Bh (P:=l.prog) (w:=w) (base:=base) FD TM;have MGk:Mk K CG gmgI:=⟨Fd,FM,FN,Fe⟩
 have ci:=Cal.of (P:=l.prog) (w:=w) (base:=base) Ek (pF Ek B El aU 8) El (fun _ _ _ _ _ _ us hl=>by obtain⟨u0,u1,u2,u3,rfl⟩:=ow hl;rfl);have mQ:=Cal.of (P:=l.prog) (w:=w) (base:=base) C1 (rS C1 B aU ci) EH (fun _ _ _ _ _ _ us hl=>by obtain⟨u0,u1,u2,rfl⟩:=gV hl;rfl);have u9:=Cal.of (P:=l.prog) (w:=w) (base:=base) Em (wK Em aU) E6 (fun _ _ _ _ _ _ us hl=>by obtain⟨u0,u1,rfl⟩:=gT hl;rfl);have va:=Cal.of (P:=l.prog) (w:=w) (base:=base) Ep (wJ Ep B aU ci) E9 (fun _ _ _ _ _ _ us hl=>by obtain⟨u0,u1,rfl⟩:=gT hl;rfl);have j5:=Cal.of (P:=l.prog) (w:=w) (base:=base) r9 (qy r9 B b8) Ev (fun _ _ _ _ _ _ us hl=>by obtain⟨u0,rfl⟩:=jX hl;rfl);have fb:=Cal.of (P:=l.prog) (w:=w) (base:=base) DU (oj DU B DV 10) DV (fun _ _ _ _ _ _ us hl=>by obtain⟨u0,u1,u2,rfl⟩:=gV hl;rfl);have fK:=Cal.of (P:=l.prog) (w:=w) (base:=base) DW (uh DW B fb) EL (fun _ _ _ _ _ _ us hl=>by obtain⟨u0,u1,u2,rfl⟩:=gV hl;rfl);have im:=Cal.of (P:=l.prog) (w:=w) (base:=base) Ey (zq Ey B) FI (fun _ _ _ _ _ _ us hl=>by obtain⟨u0,rfl⟩:=jX hl;rfl);have C3:=Cal.of (P:=l.prog) (w:=w) (base:=base) Ez (zn Ez B im fK) FJ (fun _ _ _ _ _ _ us hl=>by obtain⟨u0,u1,u2,rfl⟩:=gV hl;rfl);have oQ:=Cal.of (P:=l.prog) (w:=w) (base:=base) DX (uj DX B im fK) EM (fun _ _ _ _ _ _ us hl=>by obtain⟨u0,u1,rfl⟩:=gT hl;rfl);have eF:=Cal.of (P:=l.prog) (w:=w) (base:=base) sW (qx sW ) Ew (fun _ _ _ _ _ _ us hl=>by obtain⟨u0,u1,rfl⟩:=gT hl;rfl);have gO:=Cal.of (P:=l.prog) (w:=w) (base:=base) En (wF En B oQ C3) E7 (fun _ _ _ _ _ _ us hl=>by obtain⟨u0,u1,rfl⟩:=gT hl;rfl);have b6:=Cal.of (P:=l.prog) (w:=w) (base:=base) kJ (iX kJ B kK eF gO 8) kK (fun _ _ _ _ _ _ us hl=>by obtain⟨u0,u1,u2,rfl⟩:=gV hl;rfl);have u7:=Cal.of (P:=l.prog) (w:=w) (base:=base) Eo (wH Eo B b6) E8 (fun _ _ _ _ _ _ us hl=>by obtain⟨u0,u1,u2,rfl⟩:=gV hl;rfl);have qd:=Cal.of (P:=l.prog) (w:=w) (base:=base) EA (zp EA B) FK (fun _ _ _ _ _ _ us hl=>by obtain⟨u0,u1,u2,u3,u4,u5,rfl⟩:=Do hl;rfl);have fL:=Cal.of (P:=l.prog) (w:=w) (base:=base) DY (uf DY B) EN (fun _ _ _ _ _ _ us hl=>by obtain⟨u0,rfl⟩:=jX hl;rfl);have j4:=Cal.of (P:=l.prog) (w:=w) (base:=base) t7 (qw t7 B fL) Ex (fun _ _ _ _ _ _ us hl=>by obtain⟨u0,u1,rfl⟩:=gT hl;rfl);have iY:=Cal.of (P:=l.prog) (w:=w) (base:=base) DZ (uo DZ B TM HE HV HD FG FH FE u7 j4 fL) EO (fun _ _ _ _ _ _ us hl=>by obtain⟨u0,u1,u2,u3,u4,u5,rfl⟩:=Do hl;rfl);exact Db Hi B TM TG MGk HH Hj MMk HS Hz FG FH FE eM aU e9 u8 mQ u9 va j5 qd iY
theorem walk{l:PySem.W.OpenLaw}{q:Program}{loose:List Str}{XP:(Str->Option Value)->Heap->Prop}{YP:World->Heap->Prop}{d:DefRec}{K:Params->PySem.W.Frag}(hn:l.most=some 63)(hdf:d.params.defaults=[])
 (hY:∀(w:World)(h:Heap),YP w h->(K w.params).In h)
 (F:∀(w:World)(mg:Str->Option Value)(fa:Addr)(h:Heap),(K w.params).In h->h.Ns mainGlobals mg->mg d.name=some (.ref fa) ->
  ∃fd:FuncData,(∀(s:Shared) (u:Value),BindsTo s fd ⟨[u],[]⟩ [("_law_script",u)])/\∀base:Heap,(K w.params).In base->base.Ns mainGlobals mg->FnOk l.prog w (K w.params) mg base CX0 30 fa fd ["_law_script"] (vq (K w.params))) :
 PySem.W.WalkO q loose XP YP l.row.toRowW d [] (fun f vs=>PySem.call f vs):=
 L2.walk_of (n:=63) (k:=30) (x:="_law_script") (CX:=fun _=>CX0) (sp:=fun w=>vq (K w.params)) hn (by decide) hdf ⟨rfl,by decide,by decide⟩ hY F (fun _ _ a ns hl _ hS=>⟨a,ns,rfl,hS,hl,fun _=>rfl⟩) fun _ _ _ _ _ z=>z
end Mine
namespace PySem.W.Fast
def tw10699930498940969559:=()
def tw17969729804219453933:=()
def tw8673486965025865900:=()
def tw546089369099521896:=()
def tw4135574621042051121:=()
def tw11881830052504831704:=()
def tw15181071531867619803:=()
def tw7337250522932277865:=()
def tw7622919524010441729:=()
def tw10508494694230901554:=()
def tw6196972251454831606:=()
def tw8584821786633020909:=()
def tw16208708482337778560:=()
def tw16031241082446155929:=()
def tw2544886612757655774:=()
def tw685949405155162932:=()
def tw17912791246721010067:=()
def tw2989062834304458837:=()
def tw7548643412324687559:=()
def tw2535340568044052396:=()
def tw5732945683972078461:=()
def tw12389199621964748152:=()
def tw17243637866792043410:=()
def tw3081031870324707366:=()
def tw5489742343907418214:=()
def tw18062460064394721421:=()
def tw17717380924164243016:=()
def tw13747336401257376048:=()
def tw18307363874354334574:=()
def tw17405528063848343627:=()
def tw8806889748853492109:=()
def tw8503952312583056551:=()
def tw9729229128943153754:=()
def tw5234688586026275130:=()
def tw2142502499300184436:=()
def tw2104752269937996987:=()
def tw462157932300540164:=()
def tw7048177761409110155:=()
def tw6427551229770559134:=()
def tw13041412826211857615:=()
def tw15700646124336968173:=()
def tw9308224632494577345:=()
def tw12426876274275178085:=()
def tw8730408816443535708:=()
def tw10919287861554053759:=()
def tw14583663319787759859:=()
def tw7279822815176962568:=()
def tw1227098332009463175:=()
def tw10981348741710038987:=()
def tw6828947681225203387:=()
def tw11634984788062657747:=()
def tw18373121444287948426:=()
def tw5214332854229670578:=()
def tw8961423033944754389:=()
def tw13103663646425265086:=()
def tw8799989342448747124:=()
def tw10039439269798040335:=()
def tw14003226908968036665:=()
def tw8298718518526197629:=()
def tw4195106951224844639:=()
def tw13919893568062448459:=()
def tw7914564705498806352:=()
def tw1942873005241084342:=()
def tw10178301132028458635:=()
def tw1385691779082979429:=()
def tw4517152750911213284:=()
def tw12392226610508547076:=()
def tw6746464034130215713:=()
def tw10167904310503121193:=()
def tw7784889853376013023:=()
def tw2079959776275855771:=()
def tw13533806464418213247:=()
def tw1189418872971828459:=()
def tw7072006988447353290:=()
def tw14826315875677174119:=()
def tw14714417329440595017:=()
def tw12911288526507996752:=()
def tw15597307407287865752:=()
def tw12506225808935818155:=()
def tw8541256904467467462:=()
def tw17282042102621214854:=()
def tw3001107562553335215:=()
def tw2878481871345300065:=()
def tw6193368734126288598:=()
def tw13988581760537345527:=()
def tw8649604342861645962:=()
def tw3493815835335732156:=()
def tw7834084290386775409:=()
def tw5675389655593392421:=()
def tw4726854253801495235:=()
def tw8900157069659166710:=()
def tw13104970023892455209:=()
def tw14598482346523421976:=()
def tw7443368856466594356:=()
def tw1221511624727389578:=()
def tw11889826274592074075:=()
def tw6254257543091452468:=()
def tw16937675421284290904:=()
def tw3470819432907928848:=()
def tw18002018426620988923:=()
def tw9317041203906571481:=()
def tw13582757550634739499:=()
def tw5099824055659035014:=()
def tw3250570025970265466:=()
def tw6132261238612498567:=()
def tw9780219961601364275:=()
def tw14380642945756289331:=()
def tw15204389784153849816:=()
def tw1853148392692682934:=()
def tw11537698702411915192:=()
def tw3486102680400831704:=()
def tw7973688279442220588:=()
def tw14441015535997611420:=()
def tw6257919409791325270:=()
def tw4551522098099002860:=()
def tw10778348650638278526:=()
def tw8308177297493643903:=()
def tw8512374742572191101:=()
def tw10808652817993422909:=()
def tw12237959746939994318:=()
def tw5925962317791271440:=()
def tw13009015166334736055:=()
def tw6028792155665291231:=()
def tw15870837383821274745:=()
def tw13511208362439742945:=()
def tw1306892767922579840:=()
def tw8517320143138182324:=()
def tw10584707077542289933:=()
def tw16746690205796524685:=()
def tw8948268251082796326:=()
def tw13763088976368087987:=()
def tw11234545190606193005:=()
def tw6869490201678532138:=()
def tw10789680611810546219:=()
def tw2618973232273198924:=()
def tw8596143296440196504:=()
def tw13649967206789655844:=()
def tw2402567050701826791:=()
def tw16564375940057385832:=()
def tw4650549627533744391:=()
def tw6439227369831570504:=()
def tw940845964860425285:=()
def tw17766452951430232156:=()
def tw9856429127466689105:=()
def tw3109930632112343805:=()
def tw15765381635808841198:=()
def tw15384173839754715996:=()
def tw8093750887335102486:=()
def tw14391739508253097753:=()
def tw5396510229589564842:=()
def tw12142797271496872359:=()
def tw11874689710021801637:=()
def tw15675938633010008222:=()
def tw794489116452626283:=()
def tw17757453209316701805:=()
def tw14516357643346115944:=()
def tw17475854096490188341:=()
def tw16503167962020924240:=()
def tw4927359050530623821:=()
def tw8978120083580181263:=()
def tw13351215461429305767:=()
def tw1490976660803211061:=()
def tw9085484290896941986:=()
def tw12896305859623355500:=()
def tw927023771679556612:=()
def tw12094619104104537810:=()
def tw8293901925921277733:=()
def tw13114967249761618445:=()
def tw6176023426590582214:=()
def tw11119061891457978904:=()
def tw4442722132242102505:=()
def tw17167823280986953590:=()
def tw12491385992222582540:=()
def tw12993168651091636465:=()
def tw11239247260225416792:=()
def tw6117474638757178330:=()
def tw16670301879905274191:=()
def tw10129199791014312845:=()
def tw14207469587286712282:=()
def tw11849173355793425189:=()
def tw8877991595497946781:=()
def tw10392473941748225228:=()
def tw1879170914220784216:=()
def tw15698018331231608406:=()
def tw2515570336257588856:=()
def tw1064358023222708578:=()
def tw15489203379970339656:=()
def tw4049771739972736533:=()
def tw12701349279707316367:=()
def tw2645561402200217516:=()
def tw12063260634935613812:=()
def tw4778850546822859814:=()
def tw10828503249849507060:=()
def tw1137574203285211535:=()
def tw915851245514512712:=()
def tw8710902918105324728:=()
def tw8559426353716578969:=()
def tw4166268249117025874:=()
def tw3442480033817661905:=()
def tw15336766934298894522:=()
def tw13527580507504900352:=()
def tw2663710039713143167:=()
def tw14836196477059750625:=()
def tw12832153477457987357:=()
def tw4918149117268358616:=()
def tw217000952269983354:=()
def tw17390946475565474424:=()
def tw10726416836296196244:=()
def tw1021480865423597880:=()
def tw4131617012312937644:=()
def tw2412295934168191956:=()
def tw9283930401126988977:=()
def tw6054053196469895978:=()
def tw266080677657878683:=()
def tw8976816386043948870:=()
def tw1420892695427748267:=()
def tw14891172376405106944:=()
def tw2695094383202787089:=()
def tw12019137154363758779:=()
def tw5551546781513539557:=()
def tw14585387214650823234:=()
def tw8207307108231404586:=()
def tw12578707481221705249:=()
def tw4694806513306472243:=()
def tw14570480844248028631:=()
def tw6449523657131957012:=()
def tw338815952566322356:=()
def tw15536566887456515319:=()
def tw12916750874254017698:=()
def tw14262832550158639454:=()
def tw6414284082170598591:=()
def tw17014658879565182716:=()
def tw6233487051781022055:=()
def tw495351316524010701:=()
def tw2568082383264303776:=()
def tw1860535404129306812:=()
def tw1037778542219127050:=()
def tw15347889348486044737:=()
def tw11656070803108597715:=()
def tw802187751303331882:=()
def tw16407399954222713094:=()
def tw5689874201402554544:=()
def tw4459456193000952706:=()
def tw17862666493886912284:=()
def tw6924092571122451297:=()
def tw5166558334941047350:=()
def tw6711157404200954081:=()
def tw4400187958829222668:=()
def tw15074256208880404466:=()
def tw1209226936823940448:=()
def tw16583980151067049323:=()
def tw11347424785710204039:=()
def tw552798705223203738:=()
def tw1169435686569367898:=()
def tw3442941755684009056:=()
def tw16739795766215722439:=()
def tw9379926076300427847:=()
def tw3270118148477243895:=()
def tw3469332176001380064:=()
def tw6090767458875426574:=()
def tw10108235991045808688:=()
def tw6778071709844322985:=()
def tw17404774760791639439:=()
def tw12277727688072646651:=()
def tw4405319503016737993:=()
def tw12274454333394684015:=()
def tw14618188603769501552:=()
def tw17596557197058610819:=()
def tw13196245167291930756:=()
def tw5134948169780661792:=()
def tw18390137611695376326:=()
def tw17951875858657379595:=()
def tw11757892175872773391:=()
def tw10683846251194454915:=()
def tw2335411352688859261:=()
def tw8890030584017297549:=()
def tw674242020726959305:=()
def tw6016147776289017649:=()
def tw16275997619045739293:=()
def tw1556853166570500587:=()
def tw9241774042058126638:=()
def tw201240463144307163:=()
def tw1027353216809439632:=()
def tw7849160764879743495:=()
def tw13160065813649688426:=()
def tw4601931109552362986:=()
def tw2995105339952701017:=()
def tw2027101036105853790:=()
def tw17566873640857478328:=()
def tw17197111297172842870:=()
def tw2769845270390875433:=()
def tw14307149064728528438:=()
def tw11365752006827966035:=()
def tw9661384134854812476:=()
def tw3438876428951708166:=()
def tw14668642794276226874:=()
def tw3058548657168336760:=()
def tw16521291121041013107:=()
def tw9787056989490938371:=()
def tw4757333599194926170:=()
def tw2074869055783826744:=()
def tw15828985863601630603:=()
def tw6749923639069077373:=()
def tw5662472492555175218:=()
def tw1588108157026690824:=()
def tw1815712254233283003:=()
def tw13423325182623772633:=()
def tw5651822559745011365:=()
def tw2902408745214742581:=()
def tw5772062182960592982:=()
def tw14273197938135789185:=()
def tw4324627552655695170:=()
def tw10246144160668588362:=()
def tw3052319212105226346:=()
def tw17824253495510351115:=()
def tw10484744960473259984:=()
def tw712064845339576511:=()
def tw5729228492448478233:=()
def tw6236266093231313598:=()
def tw11507717571578254442:=()
def tw10403022111448932938:=()
def tw14058785616081366507:=()
def tw9324763709166011517:=()
def tw12987604633694689629:=()
def tw18286738577532209165:=()
def tw16062156270950467456:=()
def tw10854599408521171473:=()
def tw7298952630923386275:=()
def tw11746602723015895879:=()
def tw14870485218713157014:=()
def tw2560494813043607117:=()
def tw5633295756819308823:=()
def tw13365711904651095087:=()
def tw8419075065770147077:=()
def tw14387037452759371202:=()
def tw10296792369357934303:=()
def tw3582999749214015596:=()
def tw1950891081369742446:=()
def tw4819397868402751454:=()
def tw17831251296122786674:=()
def tw14322933554688841518:=()
def tw6855859659079223747:=()
def tw6225868230871198901:=()
def tw7034346458566260671:=()
def tw217235576682822126:=()
def tw9960516564272920457:=()
def tw5736114395712372015:=()
def tw1530226758029957650:=()
def tw2382233111811444630:=()
def tw4583136280321037181:=()
def tw4408275734375469475:=()
def tw9934903243975313129:=()
def tw7096299422414618459:=()
def tw7016332412274991645:=()
def tw28124404585744177:=()
def tw1298083110621168511:=()
def tw11666693932260223654:=()
def tw5428349404625295296:=()
def tw5726703933350261185:=()
def tw4372595127809377448:=()
def tw11078245694498126540:=()
def tw8563931727433658777:=()
def tw4893003587147938950:=()
def tw15043325614883276086:=()
def tw12142831919200660769:=()
def tw259677927919863901:=()
def tw11657658485388037488:=()
def tw4227643126301469861:=()
def tw500009623199619053:=()
def tw6576024186384577653:=()
def tw3472888136015627959:=()
def tw8006404104064780121:=()
def tw14048389879856874270:=()
def tw6045522258956076489:=()
def tw9216343422669804819:=()
def tw8927659784848040798:=()
def tw4375660216559301432:=()
def tw14286204603044130412:=()
def tw14236214260151407295:=()
def tw3959586666925215072:=()
def tw4265460557812701377:=()
def tw284304630966119203:=()
def tw962912390738727527:=()
def tw904989911791100919:=()
def tw5542859683462007656:=()
def tw2973618762212484422:=()
def tw2877643094088728570:=()
def tw1539653938767480278:=()
def tw14515483279640364127:=()
def tw12582820228063200646:=()
def tw5190270451527162348:=()
def tw9539420143123949534:=()
def tw8841750214856515205:=()
def tw2358082507562911068:=()
def tw2277011370361184813:=()
def tw18423810632514432215:=()
def tw17454840073377732316:=()
def tw13278120598900431725:=()
def tw10291613272717417986:=()
def tw10433969848955172729:=()
end PySem.W.Fast
open PySem PySem.W PyProof.Rows
set_option maxRecDepth 100000 in
set_option maxHeartbeats 0 in
theorem PySem.Challenge.cw_asktally_k34_whole_machines_by_a_model_holds : PySem.Challenge.rw_asktally_k34_whole_machines_by_a_model.Holds := by
 w_on; o_law; k_head; (case hw=>w_witness2)
 k_fill
 refine Mine.walk (l:=PySem.Challenge.rw_asktally_k34_whole_machines_by_a_model) rfl rfl (fun w h Y=>PySem.W.kIn_of Y) ?F
 case F =>
  intro w mg fa h KX G hmg
  refine' Mine.all_mk KX G hmg ?a0 ?l0 ?c0 ?k0 ?a1 ?l1 ?c1 ?k1 ?a2 ?l2 ?c2 ?k2 ?a3 ?l3 ?c3 ?k3 ?a4 ?l4 ?c4 ?k4 ?a5 ?l5 ?c5 ?k5 ?a6 ?l6 ?c6 ?k6 ?a7 ?l7 ?c7 ?k7 ?a8 ?l8 ?c8 ?k8 ?a9 ?l9 ?c9 ?k9 ?a10 ?l10 ?c10 ?k10 ?a11 ?l11 ?c11 ?k11 ?a12 ?l12 ?c12 ?k12 ?a13 ?l13 ?c13 ?k13 ?a14 ?l14 ?c14 ?k14 ?a15 ?l15 ?c15 ?k15 ?a16 ?l16 ?c16 ?k16 ?a17 ?l17 ?c17 ?k17 ?a18 ?l18 ?c18 ?k18 ?a19 ?l19 ?c19 ?k19 ?a20 ?l20 ?c20 ?k20 ?a21 ?l21 ?c21 ?k21 ?a22 ?l22 ?c22 ?k22 ?a23 ?l23 ?c23 ?k23 ?a24 ?l24 ?c24 ?k24 ?a25 ?l25 ?c25 ?k25 ?a26 ?l26 ?c26 ?k26 ?a27 ?l27 ?c27 ?k27 ?a28 ?l28 ?c28 ?k28 ?a29 ?l29 ?c29 ?k29 ?a30 ?l30 ?c30 ?k30 ?a31 ?l31 ?c31 ?k31 ?a32 ?l32 ?c32 ?k32 ?a33 ?l33 ?c33 ?k33 ?a34 ?l34 ?c34 ?k34 ?a35 ?l35 ?c35 ?k35 ?a36 ?l36 ?c36 ?k36 ?a37 ?l37 ?c37 ?k37 ?a38 ?l38 ?c38 ?k38 ?a39 ?l39 ?c39 ?k39 ?a40 ?l40 ?c40 ?k40 ?a41 ?l41 ?c41 ?k41 ?a42 ?l42 ?c42 ?k42 ?a43 ?l43 ?c43 ?k43 ?a44 ?l44 ?c44 ?k44 ?a45 ?l45 ?c45 ?k45 ?a46 ?l46 ?c46 ?k46 ?a47 ?l47 ?c47 ?k47 ?a48 ?l48 ?c48 ?k48 ?a49 ?l49 ?c49 ?k49 ?a50 ?l50 ?c50 ?k50 ?a51 ?l51 ?c51 ?k51 ?FL ?FM ?FN ?FO ?FP ?FQ ?FR ?FS ?FT ?FU ?EQ ?FV ?FW ?FX ?FY ?ER ?FZ ?Fa ?Fb ?Fc ?Fd ?Fe ?o3 ?C9 ?DP ?rA ?Gc ?Gd ?Ge ?Gf ?Gh ?Gi ?Gj ?Gk ?Gn ?Go ?ES ?Gp ?Gq ?Gs ?Gv ?ET ?Gw ?Gx ?Gy ?Gz ?EU ?GE ?GF ?GH ?GJ ?EV ?GK ?Ff ?Fg ?Fh ?Fi ?Fj ?D5 ?v8 ?D6 ?D7 ?Fk ?w4 ?w6 ?GN ?GO ?GQ ?GU ?GV ?GX ?GY ?GZ ?G6 ?G8 ?EW ?G9 ?Ha ?Hb ?Hc ?EX ?Hd ?He ?Hf ?Hg ?EY ?Hh ?Fl ?Fm ?Fn ?Fo ?Fp ?D8 ?w8 ?j7 ?DQ ?ge ?gmo ?z0 ?z1 ?z2 ?z3 ?z4 ?z5 ?z6 ?z7 ?z8 ?z9 ?z10 ?z11 ?z12 ?z13 ?z14
  (case a0=>k_is); (case l0=>k_is); (case c0=>k_is); (case k0=>k_is)
  (case a1=>k_is); (case l1=>k_is); (case c1=>k_is); (case k1=>k_is)
  (case a2=>k_is); (case l2=>k_is); (case c2=>k_is); (case k2=>k_is)
  (case a3=>k_is); (case l3=>k_is); (case c3=>k_is); (case k3=>k_is)
  (case a4=>k_is); (case l4=>k_is); (case c4=>k_is); (case k4=>k_is)
  (case a5=>k_is); (case l5=>k_is); (case c5=>k_is); (case k5=>k_is)
  (case a6=>k_is); (case l6=>k_is); (case c6=>k_is); (case k6=>k_is)
  (case a7=>k_is); (case l7=>k_is); (case c7=>k_is); (case k7=>k_is)
  (case a8=>k_is); (case l8=>k_is); (case c8=>k_is); (case k8=>k_is)
  (case a9=>k_is); (case l9=>k_is); (case c9=>k_is); (case k9=>k_is)
  (case a10=>k_is); (case l10=>k_is); (case c10=>k_is); (case k10=>k_is)
  (case a11=>k_is); (case l11=>k_is); (case c11=>k_is); (case k11=>k_is)
  (case a12=>k_is); (case l12=>k_is); (case c12=>k_is); (case k12=>k_is)
  (case a13=>k_is); (case l13=>k_is); (case c13=>k_is); (case k13=>k_is)
  (case a14=>k_is); (case l14=>k_is); (case c14=>k_is); (case k14=>k_is)
  (case a15=>k_is); (case l15=>k_is); (case c15=>k_is); (case k15=>k_is)
  (case a16=>k_is); (case l16=>k_is); (case c16=>k_is); (case k16=>k_is)
  (case a17=>k_is); (case l17=>k_is); (case c17=>k_is); (case k17=>k_is)
  (case a18=>k_is); (case l18=>k_is); (case c18=>k_is); (case k18=>k_is)
  (case a19=>k_is); (case l19=>k_is); (case c19=>k_is); (case k19=>k_is)
  (case a20=>k_is); (case l20=>k_is); (case c20=>k_is); (case k20=>k_is)
  (case a21=>k_is); (case l21=>k_is); (case c21=>k_is); (case k21=>k_is)
  (case a22=>k_is); (case l22=>k_is); (case c22=>k_is); (case k22=>k_is)
  (case a23=>k_is); (case l23=>k_is); (case c23=>k_is); (case k23=>k_is)
  (case a24=>k_is); (case l24=>k_is); (case c24=>k_is); (case k24=>k_is)
  (case a25=>k_is); (case l25=>k_is); (case c25=>k_is); (case k25=>k_is)
  (case a26=>k_is); (case l26=>k_is); (case c26=>k_is); (case k26=>k_is)
  (case a27=>k_is); (case l27=>k_is); (case c27=>k_is); (case k27=>k_is)
  (case a28=>k_is); (case l28=>k_is); (case c28=>k_is); (case k28=>k_is)
  (case a29=>k_is); (case l29=>k_is); (case c29=>k_is); (case k29=>k_is)
  (case a30=>k_is); (case l30=>k_is); (case c30=>k_is); (case k30=>k_is)
  (case a31=>k_is); (case l31=>k_is); (case c31=>k_is); (case k31=>k_is)
  (case a32=>k_is); (case l32=>k_is); (case c32=>k_is); (case k32=>k_is)
  (case a33=>k_is); (case l33=>k_is); (case c33=>k_is); (case k33=>k_is)
  (case a34=>k_is); (case l34=>k_is); (case c34=>k_is); (case k34=>k_is)
  (case a35=>k_is); (case l35=>k_is); (case c35=>k_is); (case k35=>k_is)
  (case a36=>k_is); (case l36=>k_is); (case c36=>k_is); (case k36=>k_is)
  (case a37=>k_is); (case l37=>k_is); (case c37=>k_is); (case k37=>k_is)
  (case a38=>k_is); (case l38=>k_is); (case c38=>k_is); (case k38=>k_is)
  (case a39=>k_is); (case l39=>k_is); (case c39=>k_is); (case k39=>k_is)
  (case a40=>k_is); (case l40=>k_is); (case c40=>k_is); (case k40=>k_is)
  (case a41=>k_is); (case l41=>k_is); (case c41=>k_is); (case k41=>k_is)
  (case a42=>k_is); (case l42=>k_is); (case c42=>k_is); (case k42=>k_is)
  (case a43=>k_is); (case l43=>k_is); (case c43=>k_is); (case k43=>k_is)
  (case a44=>k_is); (case l44=>k_is); (case c44=>k_is); (case k44=>k_is)
  (case a45=>k_is); (case l45=>k_is); (case c45=>k_is); (case k45=>k_is)
  (case a46=>k_is); (case l46=>k_is); (case c46=>k_is); (case k46=>k_is)
  (case a47=>k_is); (case l47=>k_is); (case c47=>k_is); (case k47=>k_is)
  (case a48=>k_is); (case l48=>k_is); (case c48=>k_is); (case k48=>k_is)
  (case a49=>k_is); (case l49=>k_is); (case c49=>k_is); (case k49=>k_is)
  (case a50=>k_is); (case l50=>k_is); (case c50=>k_is); (case k50=>k_is)
  (case a51=>k_is); (case l51=>k_is); (case c51=>k_is); (case k51=>k_is)
  (case FL=>k_is)
  (case FM=>k_is)
  (case FN=>k_is)
  (case FO=>k_is)
  (case FP=>k_is)
  (case FQ=>k_is)
  (case FR=>k_is)
  (case FS=>k_is)
  (case FT=>k_is)
  (case FU=>k_is)
  (case EQ=>k_is)
  (case FV=>k_is)
  (case FW=>k_is)
  (case FX=>k_is)
  (case FY=>k_is)
  (case ER=>k_is)
  (case FZ=>k_is)
  (case Fa=>k_is)
  (case Fb=>k_is)
  (case Fc=>k_is)
  (case Fd=>k_is)
  (case Fe=>k_is)
  (case o3=>k_is)
  (case C9=>k_is)
  (case DP=>k_is)
  (case rA=>k_is)
  (case Gc=>k_is)
  (case Gd=>k_is)
  (case Ge=>k_is)
  (case Gf=>k_is)
  (case Gh=>k_is)
  (case Gi=>k_is)
  (case Gj=>k_is)
  (case Gk=>k_is)
  (case Gn=>k_is)
  (case Go=>k_is)
  (case ES=>k_is)
  (case Gp=>k_is)
  (case Gq=>k_is)
  (case Gs=>k_is)
  (case Gv=>k_is)
  (case ET=>k_is)
  (case Gw=>k_is)
  (case Gx=>k_is)
  (case Gy=>k_is)
  (case Gz=>k_is)
  (case EU=>k_is)
  (case GE=>k_is)
  (case GF=>k_is)
  (case GH=>k_is)
  (case GJ=>k_is)
  (case EV=>k_is)
  (case GK=>k_is)
  (case Ff=>k_is)
  (case Fg=>k_is)
  (case Fh=>k_is)
  (case Fi=>k_is)
  (case Fj=>k_is)
  (case D5=>k_is)
  (case v8=>k_is)
  (case D6=>k_is)
  (case D7=>k_is)
  (case Fk=>k_is)
  (case w4=>k_is)
  (case w6=>k_is)
  (case GN=>k_is)
  (case GO=>k_is)
  (case GQ=>k_is)
  (case GU=>k_is)
  (case GV=>k_is)
  (case GX=>k_is)
  (case GY=>k_is)
  (case GZ=>k_is)
  (case G6=>k_is)
  (case G8=>k_is)
  (case EW=>k_is)
  (case G9=>k_is)
  (case Ha=>k_is)
  (case Hb=>k_is)
  (case Hc=>k_is)
  (case EX=>k_is)
  (case Hd=>k_is)
  (case He=>k_is)
  (case Hf=>k_is)
  (case Hg=>k_is)
  (case EY=>k_is)
  (case Hh=>k_is)
  (case Fl=>k_is)
  (case Fm=>k_is)
  (case Fn=>k_is)
  (case Fo=>k_is)
  (case Fp=>k_is)
  (case D8=>k_is)
  (case w8=>k_is)
  (case j7=>k_is)
  (case DQ=>k_is)
  (case ge=>k_is)
  (case gmo=>k_is)
  (case z0=>k_is)
  (case z1=>k_is)
  (case z2=>k_is)
  (case z3=>k_is)
  (case z4=>k_is)
  (case z5=>k_is)
  (case z6=>k_is)
  (case z7=>k_is)
  (case z8=>k_is)
  (case z9=>k_is)
  (case z10=>k_is)
  (case z11=>k_is)
  (case z12=>k_is)
  (case z13=>k_is)
  (case z14=>k_is)
