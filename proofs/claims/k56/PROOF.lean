import PyProof.Rows.All
import Wide.All
import OpenK.AllK
import Wide.FinOn
import Lean
import PyProof.EqAt
import PyProof.EqKinds
import PyProof.TupleCall
import PySem.Challenge.RW_asktally_k56_too_many_rows_of_coins
set_option Elab.async false
set_option linter.all false
set_option maxRecDepth 100000
section
open PySem PySem.Spec PyProof.Rows
theorem zA0.{u}{c:Prop}{h:Decidable c}(hc:¬c){α:Sort u}{t e:α}:ite c t e=e:=if_neg hc
theorem zB0.{u}{c:Prop}{h:Decidable c}(hc:c){α:Sort u}{t e:α}:ite c t e=t:=if_pos hc
abbrev zC0:=@wpAny_bind
abbrev zF0:=@Nat.le_refl
abbrev zG0:=@List.length_map
abbrev zH0:=@wpAny_pure
abbrev zJ0:=@Heap.get?_push_of_some
abbrev zK0:=@Heap.lt_size
abbrev zM0:=@List.map_append
abbrev zN0:=@List.length_append
abbrev zO0:=@List.size_toArray
abbrev zP0:=@List.getElem?_eq_getElem
abbrev zQ0:=@Nat.ne_of_lt
abbrev zR0:=@Option.some.inj
abbrev zS0:=@List.map_cons
theorem zT0.{u}{α:Type u}{a b:α}(h:a∈[b]):a=b:=List.mem_singleton.mp h
abbrev zU0:=@Int.emod_nonneg
abbrev zV0:=@Heap.get?_push_size
abbrev zW0:=@Bool.false_ne_true
theorem zX0.{u}{α:Type u}{l:List α}{i:Nat}{a:α}(h:l[i]?=some a):∃h:i<l.length,l[i]=a:=List.getElem?_eq_some_iff.mp h
abbrev zY0:=@Int.emod_lt_of_pos
abbrev zZ0:=@Nat.zero_le
abbrev qA0:=@List.getElem?_map
abbrev qB0:=@Nat.le_trans
abbrev qC0:=@List.length_cons
theorem qD0.{u}{α:Type u}{a b:α}{l:List α}(h:a∈b::l):a=b∨a∈l:=List.mem_cons.mp h
abbrev qE0:=@Nat.lt_of_lt_of_le
abbrev qF0:=@List.mem_cons_of_mem
abbrev qG0:=@List.mem_cons_self
abbrev qH0:=@List.length_singleton
abbrev qI0:=@List.getD_eq_getElem?_getD
abbrev qJ0:=@List.mem_of_getElem?
abbrev qK0:=@Nat.le_succ
theorem qL0.{u}{α:Type u}{a:α}{s t:List α}(h:a∈s++t):a∈s∨a∈t:=List.mem_append.mp h
abbrev qM0:=@List.getElem_mem
abbrev qN0:=@List.length_take
abbrev qO0:=@List.length_range
abbrev qP0:=@Int.emod_eq_of_lt
abbrev qQ0:=@List.take_add_one
abbrev qR0:=@List.take_length
abbrev qS0:=@Int.toNat_natCast
abbrev qT0:=@List.mem_append_right
abbrev qU0:=@Nat.lt_irrefl
abbrev qX0:=@Int.mul_le_mul_of_nonneg_left
end
namespace L2
open PySem PySem.Spec PyProof.Rows
abbrev Key:=Sum Int Str
def pK:Key->Value->Bool
 | .inl k,v=>Value.isInt k v
 | .inr x,v=>Value.isStrOf x v
def keyH(w:World):Key->Int
 | .inl k=>hashInt k
 | .inr x=>hashStr w x
theorem cK:∀{k:Key}{v:Value},pK k v=true->(∃i t,k=Sum.inl i/\v=Value.int i t)∨(∃x t,k=Sum.inr x/\v=Value.str x t)
 | .inl i,v,h=>by
   obtain⟨t,e⟩:=Value.isInt_shape (k:=i) (v:=v) h;exact .inl ⟨i,t,rfl,e⟩
 | .inr x,v,h=>by
   obtain⟨t,e⟩:=Value.isStrOf_shape (x:=x) (v:=v) h;exact .inr ⟨x,t,rfl,e⟩
theorem yg(i:Int)(t:Tok):pK (.inl i) (.int i t)=true:=by simp [pK,Value.isInt]
theorem yf(x:Str)(t:Tok):pK (.inr x) (.str x t)=true:=by simp [pK,Value.isStrOf]
theorem Ev(a b:Int):decide ((Sum.inl a:Key)=Sum.inl b)=(a==b):=by
 by_cases e:a=b
 . subst e;simp
 . have h:¬ (Sum.inl a:Key)=Sum.inl b:=fun q=>e (Sum.inl.inj q)
   rw[decide_eq_false h];exact(beq_eq_false_iff_ne.mpr e).symm
theorem Er(a b:Str):decide ((Sum.inr a:Key)=Sum.inr b)=decide (a=b):=by
 by_cases e:a=b
 . subst e;simp
 . have h:¬ (Sum.inr a:Key)=Sum.inr b:=fun q=>e (Sum.inr.inj q)
   rw[decide_eq_false h,decide_eq_false e]
theorem Et(a:Int)(b:Str):decide ((Sum.inl a:Key)=Sum.inr b)=false:=decide_eq_false (fun q=>nomatch q)
theorem Es(a:Str)(b:Int):decide ((Sum.inr a:Key)=Sum.inl b)=false:=decide_eq_false (fun q=>nomatch q)
def db(prog:Program)(w:World):PySem.KeyKind prog w Key where
 is:=pK
 hash:=keyH w
 inj:=fun v a b ha hb=>by
  rcases cK ha with⟨i,t,rfl,rfl⟩ | ⟨x,t,rfl,rfl⟩
  . rcases cK hb with⟨j,u,rfl,e⟩ | ⟨y,u,rfl,e⟩
    . injection e with e1 _;rw[e1]
    . exact nomatch e
  . rcases cK hb with⟨j,u,rfl,e⟩ | ⟨y,u,rfl,e⟩
    . exact nomatch e
    . injection e with e1 _;rw[e1]
 byValue:=fun k v h=>by
  rcases cK h with⟨i,t,rfl,rfl⟩ | ⟨x,t,rfl,rfl⟩ <;> rfl
 pyHash:=fun hv h=>by
  rcases cK hv with⟨i,t,rfl,rfl⟩ | ⟨x,t,rfl,rfl⟩
  . exact wpAny_pyHash_int h
  . exact wpAny_pyHash_str h
 eqBool:=fun hu hv h=>by
  rcases cK hu with⟨i,t,rfl,rfl⟩ | ⟨x,t,rfl,rfl⟩
  . rcases cK hv with⟨j,u,rfl,rfl⟩ | ⟨y,u,rfl,rfl⟩
    . rw[Ev]at h;exact wpAny_eqBool_int h
    . rw[Et]at h;exact SeqAt.EqAt.int_str i t y u _ _ _ _ h
  . rcases cK hv with⟨j,u,rfl,rfl⟩ | ⟨y,u,rfl,rfl⟩
    . rw[Es]at h;exact SeqAt.EqAt.str_int x t j u _ _ _ _ h
    . rw[Er]at h;exact wpAny_eqBool_str h
 «strs»:=fun k x t v h=>by
  rcases cK h with⟨i,u,rfl,e⟩ | ⟨y,u,rfl,e⟩
  . exact nomatch e
  . injection e with e1 _;subst e1;cases v <;> rfl
theorem sN(prog:Program)(w:World)(i:Int)(t:Tok):(db prog w).is (.inl i) (.int i t)=true:=yg i t
theorem sM(prog:Program)(w:World)(x:Str)(t:Tok):(db prog w).is (.inr x) (.str x t)=true:=yf x t
inductive V where
 | non | bl (b:Bool) | int (i:Int) | str (x:Str) | byt (b:Array UInt8) | flt (b:UInt64) | ref (a:Addr) | ty (n:String)
 deriving DecidableEq
def RelV:V->Value->Prop
 | .non,u=>u=Value.none
 | .bl b,u=>u=Value.bool b
 | .int i,u=>∃t,u=Value.int i t
 | .str x,u=>∃t,u=Value.str x t
 | .byt b,u=>∃t,u=Value.bytes b t
 | .flt b,u=>∃t,u=Value.float b t
 | .ref a,u=>u=Value.ref a
 | .ty n,u=>u=Value.type n
abbrev Vals:List V->List Value->Prop:=Paired RelV
theorem Vals.length{xs:List V}{us:List Value}(r:Vals xs us):xs.length=us.length:=Paired.length r
theorem Vals.get:∀{xs:List V}{us:List Value}{i:Nat}{x:V},Vals xs us->xs[i]?=some x->∃u,us[i]?=some u/\RelV x u
 | _,_,_,_,.nil,e=>by simp at e
 | _,_,0,_,.cons r _,e=>by simp at e;subst e;exact⟨_,rfl,r⟩
 | _,_,i+1,x,.cons _ t,e=>by
   obtain⟨u,h1,h2⟩:=Vals.get (i:=i) (x:=x) t (by simpa using e);exact⟨u,by simpa using h1,h2⟩
theorem Vals.set{x:V}{u:Value}(r:RelV x u):∀{xs:List V}{us:List Value}(i:Nat),Vals xs us->Vals (xs.set i x) (us.set i u)
 | _,_,_,.nil=>.nil
 | _,_,0,.cons _ t=>.cons r t
 | _,_,i+1,.cons q t=>.cons q (Vals.set r i t)
theorem Vals.append:∀{xs ys:List V}{us ws:List Value},Vals xs us->Vals ys ws->Vals (xs++ys) (us++ws)
 | _,_,_,_,.nil,s=>s
 | _,_,_,_,.cons r t,s=>.cons r (Vals.append t s)
theorem Vals.take:∀{xs:List V}{us:List Value}(n:Nat),Vals xs us->Vals (xs.take n) (us.take n)
 | _,_,0,_=>.nil
 | _,_,_+1,.nil=>.nil
 | _,_,n+1,.cons r t=>.cons r (Vals.take n t)
theorem Vals.drop:∀{xs:List V}{us:List Value}(n:Nat),Vals xs us->Vals (xs.drop n) (us.drop n)
 | _,_,0,r=>r
 | _,_,_+1,.nil=>.nil
 | _,_,n+1,.cons _ t=>Vals.drop n t
def RelO:Option V->Option Value->Prop
 | some v,some u=>RelV v u
 | none,none=>True
 | _,_=>False
def KV{κ:Type}:List (κ×V)->List (κ×Value)->Prop:=Paired fun(p:κ×V)(q:κ×Value)=>p.1=q.1/\RelV p.2 q.2
def kV:Key->V
 | .inl i=>.int i
 | .inr x=>.str x
inductive HO where
 | lst (xs:List V)
 | tup (xs:List V)
 | dK (kvs:List (Key×V)) | dT (kvs:List (List Key×V))
 | set (S:Int->Bool) (n:Nat)
 | ins (C dx:Addr) (fs:List (Str×V))
 | own (x:Addr)
 | xd (fs:List (Str×V))
 | met (f x:Addr)
 | rng (lo hi:Int)
 | frz (o:Obj) (u:HO)
 | tbl (ps:Array Value)
 | ext (φ:Heap->Prop)
abbrev Hp:=Addr->Option HO
def upd(H:Hp)(a:Addr)(o:HO):Hp:=fun b=>if b=a then some o else H b
theorem am{H:Hp}{a:Addr}{o:HO}:upd H a o a=some o:=by unfold upd;rw[zB0 rfl]
theorem aq{H:Hp}{a b:Addr}{o:HO}(h:b≠a):upd H a o b=H b:=by unfold upd;rw[zA0 h]
theorem bq{H:Hp}{a b:Addr}{o u:HO}(h:H a=some o)(h':H b=some u)(d:o≠u):a≠b:=by
 intro e;subst e;rw[h]at h';exact d (zR0 h')
theorem aN{H:Hp}{a b:Addr}{o:HO}(h:H a=some o)(h':H b=none):a≠b:=by
 intro e;subst e;rw[h]at h';cases h'
section
variable (P:Program) (w:World)
def ObjOk(H:Hp)(h:Heap)(a:Addr):HO->Prop
 | .lst xs=>xs.length<=sizeLine/\∃(its:List Value) (n:Nat),Vals xs its/\h.get? a=some { cls:=.type "list",data:=.seq its.toArray n }
 | .tup xs=>xs.length<=sizeLine/\∃its:List Value,Vals xs its/\IsTup h a its.toArray/\∃o,h.get? a=some o/\o.dict=none
 | .dK kvs=>kvs.length<=sizeLine/\(a==sysModules)=false/\∃vs,KV kvs vs/\h.DictOf (db P w) a vs
 | .dT kvs=>kvs.length<=sizeLine/\(a==sysModules)=false/\∃xs:List (List Key×Addr×Value),
  Paired (fun(p:List Key×V)(q:List Key×Addr×Value)=>p.1=q.1/\H q.2.1=some (.tup (p.1.map kV))/\RelV p.2 q.2.2) kvs xs/\
  ∃o es ep,h.get? a=some o/\o.ExactDict/\o.data=.dict es ep/\es.toList=xs.map (entryOfKey (tupleKind (db P w)))/\(xs.map (·.1)).Nodup
 | .set S n=>h.SetOf (intKind P w) a S n
 | .ins C dx fs=>H dx=some (.own a)/\fs.length<=1000/\dx≠a/\h.get? a=some (PySem.W.instObj C dx)/\
  ∃mA,h.Ns1 dx mA/\(∀f,RelO (fs.lookup f) (mA f))/\PySem.Within mA (fs.map (·.1))
 | .own _=>∃o,h.get? a=some o
 | .xd fs=>∃mA,h.Ns1 a mA/\∀f,RelO (fs.lookup f) (mA f)
 | .rng lo hi=>∃t u v,h.get? a=some { cls:=.type "range",data:=.fields #[.int lo t,.int hi u,.int 1 v] }
 | .frz o u=>h.get? a=some o/\ObjOk H h a u
 | .tbl ps=>h.get? a=some { cls:=.none,data:=.fields ps }
 | .met f x=>h.get? a=some (PySem.W.methodObj (.ref f) (.ref x))
 | .ext φ=>φ h/\(∃o,h.get? a=some o)/\∀h1 h2:Heap,φ h1->(∀o,h1.get? a=some o->h2.get? a=some o)->φ h2
def HOk(H:Hp)(h:Heap):Prop:=∀a o,H a=some o->ObjOk P w H h a o
end
section
variable {P:Program} {w:World} {H H':Hp} {h h':Heap} {a:Addr} {o:HO}
theorem ObjOk.lt(x:ObjOk P w H h a o):a<h.objs.size:=by
 cases o with
 | lst xs=>obtain⟨_,_,_,_,e⟩:=x;exact zK0 e
 | tup xs=>obtain⟨_,_,_,p,_⟩:=x;exact p.lt
 | dK kvs=>obtain⟨_,_,_,_,o,_,_,e,_⟩:=x;exact zK0 e
 | dT kvs=>obtain⟨_,_,_,_,o,_,_,e,_⟩:=x;exact zK0 e
 | set S n=>obtain⟨o,_,_,_,e,_⟩:=x;exact zK0 e
 | ins C dx fs=>obtain⟨_,_,_,e,_⟩:=x;exact zK0 e
 | own y=>obtain⟨_,e⟩:=x;exact zK0 e
 | xd fs=>obtain⟨_,⟨_,_,_,e,_⟩,_⟩:=x;exact zK0 e
 | rng lo hi=>obtain⟨_,_,_,e⟩:=x;exact zK0 e
 | frz ob u=>obtain⟨e,_⟩:=x;exact zK0 e
 | tbl ps=>exact zK0 (show h.get? a=some _ from x)
 | met f y=>exact zK0 (show h.get? a=some _ from x)
 | ext φ=>obtain⟨_,⟨_,e⟩,_⟩:=x;exact zK0 e
theorem Paired.mapP{α β:Type}{F G:α->β->Prop}:∀{l₁:List α}{l₂:List β},Paired F l₁ l₂->(∀a b,F a b->G a b)->Paired G l₁ l₂
 | _,_,.nil,_=>.nil
 | _,_,.cons r t,f=>.cons (f _ _ r) (Paired.mapP t f)
theorem ObjOk.stay(x:ObjOk P w H h a o)(k:∀b u,(b=a∨H b=some (.own a))->h.get? b=some u->h'.get? b=some u)
 (ho:∀b,H b=some (.own a)->H' b=some (.own a)) (ht:∀b xs,H b=some (.tup xs)->H' b=some (.tup xs)):ObjOk P w H' h' a o:=by
 induction o with
 | lst xs=>obtain⟨z,its,n,r,e⟩:=x;exact⟨z,its,n,r,k _ _ (.inl rfl) e⟩
 | tup xs=>obtain⟨z,its,r,⟨ob,e,c⟩,od,e2,d⟩:=x;exact⟨z,its,r,⟨ob,k _ _ (.inl rfl) e,c⟩,od,k _ _ (.inl rfl) e2,d⟩
 | dK kvs=>obtain⟨z,y,vs,r,ob,es,ep,e,c⟩:=x;exact⟨z,y,vs,r,ob,es,ep,k _ _ (.inl rfl) e,c⟩
 | dT kvs=>
   obtain⟨z,y,xs,r,ob,es,ep,e,c⟩:=x;exact⟨z,y,xs,Paired.mapP r fun p q z=>⟨z.1,ht _ _ z.2.1,z.2.2⟩,ob,es,ep,k _ _ (.inl rfl) e,c⟩
 | set S n=>obtain⟨ob,es,ep,t,e,c⟩:=x;exact⟨ob,es,ep,t,k _ _ (.inl rfl) e,c⟩
 | ins C dx fs=>
   obtain⟨d,z,ne,e,mA,⟨od,es,ep,e2,c⟩,r⟩:=x;exact⟨ho _ d,z,ne,k _ _ (.inl rfl) e,mA,⟨od,es,ep,k _ _ (.inr d) e2,c⟩,r⟩
 | own y=>obtain⟨ob,e⟩:=x;exact⟨ob,k _ _ (.inl rfl) e⟩
 | xd fs=>obtain⟨mA,⟨od,es,ep,e,c⟩,r⟩:=x;exact⟨mA,⟨od,es,ep,k _ _ (.inl rfl) e,c⟩,r⟩
 | rng lo hi=>obtain⟨t,u,v,e⟩:=x;exact⟨t,u,v,k _ _ (.inl rfl) e⟩
 | frz ob u ih=>obtain⟨e,q⟩:=x;exact⟨k _ _ (.inl rfl) e,ih q⟩
 | tbl ps=>
   have e:h.get? a=some { cls:=.none,data:=.fields ps }:=x;show h'.get? a=some { cls:=.none,data:=.fields ps };exact k a _ (.inl rfl) e
 | met f y=>
   have e:h.get? a=some (PySem.W.methodObj (.ref f) (.ref y)):=x;show h'.get? a=some (PySem.W.methodObj (.ref f) (.ref y));exact k a _ (.inl rfl) e
 | ext φ=>obtain⟨p,⟨o,e⟩,st⟩:=x;exact⟨st _ _ p fun o q=>k _ _ (.inl rfl) q,⟨o,k _ _ (.inl rfl) e⟩,st⟩
theorem HOk.lt(x:HOk P w H h)(e:H a=some o):a<h.objs.size:=(x a o e).lt
theorem HOk.fresh(x:HOk P w H h)(e:h.objs.size<=a):H a=none:=by
 cases q:H a with
 | none=>rfl
 | some u=>exact absurd (qE0 (x.lt q) e) (qU0 _)
theorem HOk.kept(x:HOk P w H h)(k:∀b u,h.get? b=some u->h'.get? b=some u):HOk P w H h':=fun a o e=>
 (x a o e).stay (fun b u _ q=>k b u q) (fun _ q=>q) fun _ _ q=>q
theorem HOk.laid(x:HOk P w H h)(k:∀b u,h.get? b=some u->h'.get? b=some u)(hp:h.objs.size<=a)(new:ObjOk P w (upd H a o) h' a o):HOk P w (upd H a o) h':=fun b u e=>by
 have hn:=x.fresh hp
 by_cases hb:b=a
 . subst hb;rw[am]at e;cases e;exact new
 . rw[aq hb]at e;exact(x b u e).stay (fun c v _ q=>k c v q) (fun c q=>by rw[aq (aN q hn)];exact q) fun c xs q=>by rw[aq (aN q hn)];exact q
end
def Rd(H:Hp)(a:Addr)(u:HO):Prop:=H a=some u∨∃o,H a=some (.frz o u)
theorem Rd.ok{P:Program}{w:World}{H:Hp}{h:Heap}{a:Addr}{u:HO}(r:Rd H a u)(x:HOk P w H h):ObjOk P w H h a u:=by
 rcases r with r | ⟨o,r⟩
 . exact x a u r
 . obtain⟨_,q⟩:=x a _ r;exact q
def Mut:Option HO->Prop
 | some (.lst _)=>True
 | some (.dK _)=>True
 | some (.dT _)=>True
 | some (.set _ _)=>True
 | some (.ins _ _ _)=>True
 | some (.ext _)=>True
 | _=>False
section
variable {P:Program} {w:World} {H:Hp} {h h':Heap} {x e:Addr} {o':HO}
theorem HOk.write(ok:HOk P w H h)(mu:Mut (H x))(he:e=x∨H e=some (.own x))(k:∀b u,b≠e->h.get? b=some u->h'.get? b=some u)(heo:∃u,h'.get? e=some u)
 (new:ObjOk P w (upd H x o') h' x o'):HOk P w (upd H x o') h':=fun b u q=>by
 have nown:∀c y,H c=some (.own y)->c≠x:=fun c y r z=>by subst z;rw[r]at mu;exact mu
 have ntup:∀c xs,H c=some (.tup xs)->c≠x:=fun c xs r z=>by subst z;rw[r]at mu;exact mu
 by_cases hb:b=x
 . subst hb;rw[am]at q;cases q;exact new
 . rw [aq hb]at q
   by_cases hbe:b=e
   . have q':H b=some (.own x):=by
      rcases he with z | z
      . exact absurd (hbe.trans z) hb
      . rw[hbe];exact z
     rw[q]at q';cases q';obtain⟨v,hv⟩:=heo;exact⟨v,by rw[hbe];exact hv⟩
   . refine (ok b u q).stay (fun c v hc r=>k c v ?_ r) (fun c r=>by rw[aq (nown c b r)];exact r) fun c xs r=>by rw[aq (ntup c xs r)];exact r
     rcases hc with rfl | hc
     . exact hbe
     . rintro rfl;rcases he with z | z
       . exact nown c b hc z
       . rw[hc]at z;cases z;exact hb rfl
end
structure Un(fs ex:List Addr)(H H':Hp)(h h':Heap):Prop where
 keep:∀b o,h.get? b=some o->H b=none->b∉fs->b∉ex->h'.get? b=some o
 slot:∀b o,h.get? b=some o->H b=none->b∈fs->b∉ex->∃sl,h'.get? b=some { o with slots:=sl }
 free:∀b o,h.get? b=some o->H b=none->b∉ex->H' b=none
 there:∀b o,h.get? b=some o->b∉ex->∃o',h'.get? b=some o'
 tups:∀b xs,H b=some (.tup xs)->H' b=some (.tup xs)
 frzs:∀b o u,H b=some (.frz o u)->H' b=some (.frz o u)
 tbls:∀b ps,H b=some (.tbl ps)->∃more,H' b=some (.tbl (ps++more))
section
variable {fs fs' ex ex':List Addr} {H H1 H2:Hp} {h h1 h2 h':Heap} {a x e:Addr} {o:HO}
theorem Un.any(u:Un fs ex H H1 h h1){b:Addr}{ob:Obj}(q:h.get? b=some ob)(n:H b=none)(hx:b∉ex):∃sl,h1.get? b=some { ob with slots:=sl }:=by
 by_cases hb:b∈fs
 . exact u.slot b ob q n hb hx
 . exact⟨ob.slots,u.keep b ob q n hb hx⟩
theorem Un.trans(a:Un fs ex H H1 h h1)(b:Un fs ex H1 H2 h1 h2):Un fs ex H H2 h h2 where
 keep:=fun c ob q n hc hx=>b.keep c ob (a.keep c ob q n hc hx) (a.free c ob q n hx) hc hx
 slot:=fun c ob q n hc hx=>by
  obtain⟨sl,e1⟩:=a.slot c ob q n hc hx;obtain⟨sl',e2⟩:=b.slot c _ e1 (a.free c ob q n hx) hc hx;exact⟨sl',e2⟩
 free:=fun c ob q n hx=>by
  obtain⟨o',e1⟩:=a.there c ob q hx;exact b.free c o' e1 (a.free c ob q n hx) hx
 there:=fun c ob q hx=>by
  obtain⟨o',e1⟩:=a.there c ob q hx;exact b.there c o' e1 hx
 tups:=fun c xs q=>b.tups c xs (a.tups c xs q)
 frzs:=fun c ob xs q=>b.frzs c ob xs (a.frzs c ob xs q)
 tbls:=fun c ps q=>by
  obtain⟨m1,e1⟩:=a.tbls c ps q;obtain⟨m2,e2⟩:=b.tbls c _ e1;exact⟨m1++m2,by rw[e2,Array.append_assoc]⟩
theorem Un.kept(k:∀b u,h.get? b=some u->h'.get? b=some u):Un fs ex H H h h':=
 ⟨fun b ob q _ _ _=>k b ob q,fun b ob q _ _ _=>⟨ob.slots,k b ob q⟩,fun _ _ _ n _=>n,fun b ob q _=>⟨ob,k b ob q⟩,fun _ _ q=>q,fun _ _ _ q=>q,fun _ ps q=>⟨#[],by rw[q];simp⟩⟩
theorem Un.refl:Un fs ex H H h h:=Un.kept fun _ _ q=>q
theorem Un.laid(k:∀b u,h.get? b=some u->h'.get? b=some u)(hp:h.objs.size<=a)(hn:H a=none):Un fs ex H (upd H a o) h h' where
 keep:=fun b u q _ _ _=>k b u q
 slot:=fun b u q _ _ _=>⟨u.slots,k b u q⟩
 free:=fun b u q n _=>by rw[aq (zQ0 (qE0 (zK0 q) hp))];exact n
 there:=fun b u q _=>⟨u,k b u q⟩
 tups:=fun b xs q=>by rw[aq (aN q hn)];exact q
 frzs:=fun b u xs q=>by rw[aq (aN q hn)];exact q
 tbls:=fun b ps q=>⟨#[],by rw[aq (aN q hn),q];simp⟩
theorem Un.write(mu:Mut (H x))(he:e=x∨H e=some (.own x))(k:∀b u,b≠e->h.get? b=some u->h'.get? b=some u)(heo:∃u,h'.get? e=some u):Un fs ex H (upd H x o) h h':=by
 have hx:∀b,H b=none->b≠x:=fun b n z=>by subst z;rw[n]at mu;exact mu
 have hb:∀b,H b=none->b≠e:=fun b n z=>by
  subst z;rcases he with r | r
  . exact hx b n r
  . rw[n]at r;cases r
 have hm:∀b u,H b=some u->¬ Mut (some u)->b≠x:=fun b u q nm z=>by subst z;rw[q]at mu;exact nm mu
 refine ⟨fun b u q n _ _=>k b u (hb b n) q,fun b u q n _ _=>⟨u.slots,k b u (hb b n) q⟩,fun b u q n _=>by rw[aq (hx b n)];exact n,fun b u q _=>?_,
  fun b xs q=>by rw[aq (hm b _ q fun z=>z)];exact q,fun b u xs q=>by rw[aq (hm b _ q fun z=>z)];exact q,fun b ps q=>⟨#[],by rw[aq (hm b _ q fun z=>z),q];simp⟩⟩
 by_cases hbe:b=e
 . subst hbe;exact heo
 . exact⟨u,k b u hbe q⟩
theorem Un.mono(u:Un fs ex H H1 h h1)(hs:∀b∈fs,b∈fs')(hx:∀b∈ex,b∈ex'):Un fs' ex' H H1 h h1:=
 ⟨fun b ob q n hb he=>u.keep b ob q n (fun z=>hb (hs b z)) fun z=>he (hx b z),fun _ _ q n _ he=>u.any q n fun z=>he (hx _ z),fun b ob q n he=>u.free b ob q n fun z=>he (hx b z),fun b ob q he=>u.there b ob q fun z=>he (hx b z),u.tups,u.frzs,u.tbls⟩
end
def trk(h:Heap)(H:Hp):List Addr:=(List.range h.objs.size).filter fun a=>(H a).isSome
def qY(h:Heap)(H:Hp):Heap:=PySem.W.hideAll h (trk h H)
theorem yn(h:Heap)(H:Hp):(qY h H).objs.size=h.objs.size:=PySem.W.hideAll_size _ _
theorem AZ{h:Heap}{H:Hp}{b:Addr}{o:Obj}(e:h.get? b=some o)(n:H b=none):(qY h H).get? b=some o:=
 PySem.W.hideAll_get _ e fun hm=>by
  have q:(H b).isSome=true:=(List.mem_filter.mp hm).2;rw[n]at q;simp at q
theorem Cy{h:Heap}{H:Hp}{b:Addr}{o:Obj}(e:(qY h H).get? b=some o):h.get? b=some o/\H b=none:=by
 have e':h.get? b=some o:=PySem.W.of_hideAll (trk h H) e;refine⟨e',?_⟩;cases q:H b with
 | none=>rfl
 | some x=>
   have hm:b∈trk h H:=List.mem_filter.mpr ⟨List.mem_range.mpr (zK0 e'),by simp [q]⟩;have z:(qY h H).get? b=none:=PySem.W.hideAll_none (trk h H) hm;rw[z]at e;cases e
structure Mod(K:W.Frag)(mg:Str->Option Value)(base:Heap):Prop where
 kin:K.In base
 glob:base.Ns mainGlobals mg
 blt:∃mb,base.Ns builtinsNs mb/\∀x:Str,x≠"__name__" -> mb x=bootBuiltins x
 nolimit:base.NoLimit
structure Cx where
 prog:Program
 w:World
 K:W.Frag
 mg:Str->Option Value
 base:Heap
 A:Around
 N:List Str
 s₀:Shared
 H₀:Hp
 env:Env
 outer:List Env
 stack:List Env
 ex:List Addr
 fn:Str->Bool
 calm:Bool
 pn:List (Addr×Obj)
 xe:Value->Shared->Prop
def frs(l:List Env):List Addr:=l.filterMap (·.frame)
abbrev Cx.fs(X:Cx):List Addr:=frs X.outer
def Vis(sc:Scope)(x:Str):Prop:=sc.names.lookup x=some .local∨sc.names.lookup x=some .cell∨sc.names.lookup x=some .free
def Loc(sc:Scope)(x:Str):Prop:=sc.names.lookup x=some .local∨sc.names.lookup x=some .cell
def Look(env:Env)(h:Heap)(m:Str->Option Value)(x:Str)(u:Value):Prop:=
 (env.kindOf x=some .local/\m x=some u)∨((env.kindOf x=some .cell∨env.kindOf x=some .free)/\∃c,env.cells.lookup x=some c/\h.IsCell c (some u))
structure Cx.Ok(X:Cx):Prop where
 mod:Mod X.K X.mg X.base
 kind:X.env.scope.kind=.function
 glob:X.env.globals=mainGlobals
 blt:X.env.builtins=builtinsNs
 above:X.s₀.heap.objs.size<=X.env.locals
 inj:∀x y c,X.env.cells.lookup x=some c->X.env.cells.lookup y=some c->x=y
 has:∀x,(X.env.kindOf x=some .cell∨X.env.kindOf x=some .free)->∃c,X.env.cells.lookup x=some c
 cab:∀x c,X.fn x=true->X.env.cells.lookup x=some c->X.s₀.heap.objs.size<=c
 hd:X.calm=true->X.A.handled=none
 frames:X.A.frames=some X.stack
 stk:X.stack=X.outer∨(X.stack=X.env::X.outer/\X.env.frame=some X.env.locals)
 exf:∀b∈X.ex,b≠X.env.locals/\∀x c,X.env.cells.lookup x=some c->c≠b
 bs:∀b o,X.base.get? b=some o->X.s₀.heap.get? b=some o/\X.H₀ b=none
 bsz:X.base.objs.size<=X.s₀.heap.objs.size
 noex:∀b o,X.base.get? b=some o->b∉X.ex
 exfs:∀b∈X.ex,b∉X.fs
 funs:X.s₀.heap.FunFrames X.base X.outer
 frf:∀b∈X.fs,X.H₀ b=none
structure Inv(X:Cx)(pins:List (Addr×Obj))(σ:List (Option V))(H:Hp)(s:Shared):Prop where
 ok:X.Ok
 os:s.os=X.s₀.os
 bare:AllBare s.gens
 base:Un X.fs X.ex X.H₀ H X.s₀.heap s.heap
 loc:∃m,s.heap.Ns X.env.locals m/\∀(i:Nat)(x:Str)(v:V),X.N[i]?=some x->σ[i]?=some (some v)->Vis X.env.scope x->∃u,RelV v u/\Look X.env s.heap m x u
 cell:∀x c,X.env.cells.lookup x=some c->∃v,s.heap.IsCell c v
 free:H X.env.locals=none
 freeC:∀x c,X.env.cells.lookup x=some c->H c=none
 pin:∀p∈X.pn++pins,s.heap.get? p.1=some p.2/\H p.1=none/\p.1≠X.env.locals/\p.1∉X.fs/\∀v,p.2.data≠.cell v
 hok:HOk X.prog X.w H s.heap
 len:σ.length=X.N.length
section
variable {X:Cx} {pins:List (Addr×Obj)} {σ:List (Option V)} {H H':Hp} {s:Shared} {h':Heap}
theorem Cx.Ok.nofr(ok:X.Ok){b:Addr}{o:Obj}(e:X.base.get? b=some o):b∉X.fs:=fun hb=>by
 have:=(ok.funs.mem hb).1
 rw[e]at this;cases this
theorem Inv.bs(I:Inv X pins σ H s):∀b o,X.base.get? b=some o->s.heap.get? b=some o/\H b=none:=fun b o e=>
 ⟨I.base.keep b o (I.ok.bs b o e).1 (I.ok.bs b o e).2 (I.ok.nofr e) (I.ok.noex b o e),I.base.free b o (I.ok.bs b o e).1 (I.ok.bs b o e).2 (I.ok.noex b o e)⟩
theorem Inv.bk(I:Inv X pins σ H s):∀b o,X.base.get? b=some o->s.heap.get? b=some o:=fun b o e=>(I.bs b o e).1
theorem Inv.mod(I:Inv X pins σ H s):Mod X.K X.mg X.base:=I.ok.mod
theorem Inv.kIn(I:Inv X pins σ H s):X.K.In s.heap:=I.ok.mod.kin.keeps I.bk
theorem Inv.lt(I:Inv X pins σ H s):X.env.locals<s.heap.objs.size:=let⟨_,hn,_⟩:=I.loc;hn.lt
theorem Inv.sz(I:Inv X pins σ H s):X.s₀.heap.objs.size<=s.heap.objs.size:=qB0 I.ok.above (Nat.le_of_lt I.lt)
theorem Inv.nofs(I:Inv X pins σ H s){a:Addr}(h:s.heap.objs.size<=a):a∉X.fs:=fun hb=>by
 obtain⟨_,o,ho,_⟩:=I.ok.funs.mem hb;exact absurd (qE0 (zK0 ho) (qB0 I.sz h)) (qU0 _)
theorem Inv.cne(I:Inv X pins σ H s):∀x c,X.env.cells.lookup x=some c->c≠X.env.locals:=fun x c e z=>by
 obtain⟨v,o,ho,hd⟩:=I.cell x c e;obtain⟨m,⟨o',es,ep,ho',hd',_⟩,_⟩:=I.loc;rw[z,ho']at ho;cases ho;rw[hd']at hd;cases hd
theorem Inv.funs(I:Inv X pins σ H s):s.heap.FunFrames X.base X.outer:=by
 have all:∀(l:List Env),(∀b∈frs l,b∈X.fs)->X.s₀.heap.FunFrames X.base l->s.heap.FunFrames X.base l:=by
  intro l
  induction l with
  | nil=>intro _ _;trivial
  | cons env r ih=>
    intro hs hl;obtain⟨hk,⟨L,o,hf,hn,ho,hd⟩,hr⟩:=hl;have hL:L∈X.fs:=hs L (by unfold frs;rw[List.filterMap_cons,hf];exact qG0);obtain⟨sl,e⟩:=I.base.slot L o ho (I.ok.frf L hL) hL fun z=>I.ok.exfs L z hL
    exact⟨hk,⟨L,_,hf,hn,e,hd⟩,ih (fun b hb=>hs b (by unfold frs;rw[List.filterMap_cons,hf];exact qF0 _ hb)) hr⟩
 exact all X.outer (fun _ hb=>hb) I.ok.funs
theorem Inv.stack(I:Inv X pins σ H s):s.heap.FunFrames X.base X.stack:=by
 rcases I.ok.stk with e | ⟨e,hf⟩
 . rw[e];exact I.funs
 . rw[e];obtain⟨m,hn,_⟩:=I.loc;refine .cons (by rw[I.ok.kind];decide) hf hn ?_ I.funs;exact Heap.get?_none_of_le (qB0 I.ok.bsz I.ok.above)
theorem Inv.stkSub(I:Inv X pins σ H s):∀b∈frs X.stack,b∈X.env.locals::X.fs:=fun b hb=>by
 rcases I.ok.stk with e | ⟨e,hf⟩
 . rw[e]at hb;exact qF0 _ hb
 . rw[e]at hb;unfold frs at hb;rw[List.filterMap_cons,hf]at hb;exact hb
theorem Inv.stkFree(I:Inv X pins σ H s):∀b∈frs X.stack,H b=none:=fun b hb=>by
 rcases qD0 (I.stkSub b hb)with e | hb
 . rw[e];exact I.free
 . obtain⟨_,o,ho,_⟩:=I.ok.funs.mem hb;exact I.base.free b o ho (I.ok.frf b hb) fun z=>I.ok.exfs b z hb
theorem Inv.step{g':Array GenState}{t':Nat}{d':Drawn}{ch:List Addr}(I:Inv X pins σ H s)
 (hch:∀b∈ch,(b∈X.ex∨X.s₀.heap.objs.size<=b)/\b≠X.env.locals/\(∀x c,X.env.cells.lookup x=some c->c≠b)/\∀p∈X.pn++pins,p.1≠b)
 (keep:∀b o,b≠X.env.locals->b∉X.fs->b∉ch->s.heap.get? b=some o->H b=none->h'.get? b=some o)
 (slot:∀b o,b≠X.env.locals->b∈X.fs->b∉ch->s.heap.get? b=some o->H b=none->∃sl,h'.get? b=some { o with slots:=sl }) (free:∀b o,b∉ch->s.heap.get? b=some o->H b=none->H' b=none)
 (there:∀b o,b∉ch->s.heap.get? b=some o->∃o',h'.get? b=some o')
 (tups:∀b xs,H b=some (.tup xs)->H' b=some (.tup xs)) (frzs:∀b o u,H b=some (.frz o u)->H' b=some (.frz o u)) (tbls:∀b ps,H b=some (.tbl ps)->∃more,H' b=some (.tbl (ps++more)))
 (ns:∀m,s.heap.Ns X.env.locals m->h'.Ns X.env.locals m) (hok:HOk X.prog X.w H' h') (hg:AllBare g') :
 Inv X pins σ H' { s with heap:=h',gens:=g',drawn:=d',toks:=t' }:=by
 have neL:∀b o,X.s₀.heap.get? b=some o->b≠X.env.locals:=fun b o e=>zQ0 (qE0 (zK0 e) I.ok.above)
 have neC:∀b o,X.s₀.heap.get? b=some o->b∉X.ex->b∉ch:=fun b o e hx hb=>by
  rcases(hch b hb).1 with z | z
  . exact hx z
  . exact absurd (qE0 (zK0 e) z) (qU0 _)
 have cellK:∀x c,X.env.cells.lookup x=some c->∀v,s.heap.IsCell c v->h'.IsCell c v:=fun x c e v ⟨o,ho,hd⟩=>by
  have nch:c∉ch:=fun z=>(hch c z).2.2.1 x c e rfl
  by_cases hc:c∈X.fs
  . obtain⟨sl,q⟩:=slot c o (I.cne x c e) hc nch ho (I.freeC x c e);exact⟨_,q,hd⟩
  . exact⟨o,keep c o (I.cne x c e) hc nch ho (I.freeC x c e),hd⟩
 refine⟨I.ok,I.os,hg,⟨fun b o e n hb hx=>?_,fun b o e n hb hx=>?_,fun b o e n hx=>?_,fun b o e hx=>?_,fun b xs e=>tups b xs (I.base.tups b xs e),fun b o xs e=>frzs b o xs (I.base.frzs b o xs e),fun b ps e=>?_⟩,?_,fun x c e=>?_,?_,fun x c e=>?_,fun p hp=>?_,hok,I.len⟩
 . exact keep b o (neL b o e) hb (neC b o e hx) (I.base.keep b o e n hb hx) (I.base.free b o e n hx)
 . obtain⟨sl,e1⟩:=I.base.slot b o e n hb hx;obtain⟨sl',e2⟩:=slot b _ (neL b o e) hb (neC b o e hx) e1 (I.base.free b o e n hx);exact⟨sl',e2⟩
 . obtain⟨o',e1⟩:=I.base.there b o e hx;exact free b o' (neC b o e hx) e1 (I.base.free b o e n hx)
 . obtain⟨o',e1⟩:=I.base.there b o e hx;exact there b o' (neC b o e hx) e1
 . obtain⟨m1,e1⟩:=I.base.tbls b ps e;obtain⟨m2,e2⟩:=tbls b _ e1;exact⟨m1++m2,by rw[e2,Array.append_assoc]⟩
 . obtain ⟨m,hn,hl⟩:=I.loc;refine⟨m,ns m hn,fun i x v e1 e2 e3=>?_⟩;obtain⟨u,r,l⟩:=hl i x v e1 e2 e3;refine⟨u,r,?_⟩;rcases l with l | ⟨k,c,e,z⟩
   . exact .inl l
   . exact .inr ⟨k,c,e,cellK x c e _ z⟩
 . obtain⟨v,z⟩:=I.cell x c e;exact⟨v,cellK x c e v z⟩
 . obtain⟨m,⟨o,_,_,ho,_⟩,_⟩:=I.loc;exact free _ o (fun z=>(hch _ z).2.1 rfl) ho I.free
 . obtain⟨v,o,ho,hd⟩:=I.cell x c e;exact free c o (fun z=>(hch c z).2.2.1 x c e rfl) ho (I.freeC x c e)
 . obtain ⟨e,n,ne,nf,d⟩:=I.pin p hp;have nch:p.1∉ch:=fun z=>(hch p.1 z).2.2.2 p hp rfl
   exact⟨keep p.1 p.2 ne nf nch e n,free p.1 p.2 nch e n,ne,nf,d⟩
theorem Inv.un{t':Nat}(I:Inv X pins σ H s)(u:Un X.fs [] H H' s.heap h')(hok:HOk X.prog X.w H' h'):Inv X pins σ H' { s with heap:=h',toks:=t' }:=by
 obtain ⟨m,⟨o,es,ep,ho,r⟩,_⟩:=id I.loc;obtain⟨sl,hL⟩:=u.any ho I.free (by simp);exact I.step (g':=s.gens) (d':=s.drawn) (ch:=[]) (fun _ z=>nomatch z) (fun b o _ hb _ e n=>u.keep b o e n hb (by simp)) (fun b o _ hb _ e n=>u.slot b o e n hb (by simp)) (fun b o _ e n=>u.free b o e n (by simp)) (fun b o _ e=>u.there b o e (by simp)) u.tups u.frzs u.tbls (fun m' hm=>by
  obtain⟨o',es',ep',ho',r'⟩:=hm;rw[ho]at ho';cases ho';exact⟨_,es',ep',hL,r'⟩) hok I.bare
theorem Inv.call{g':Array GenState}{t':Nat}{d':Drawn}{ch:List Addr}(I:Inv X pins σ H s)(u:Un (frs X.stack) ch H H' s.heap h')(hok:HOk X.prog X.w H' h')(hg:AllBare g')
 (hch:∀b∈ch,(b∈X.ex∨X.s₀.heap.objs.size<=b)/\b≠X.env.locals/\(∀x c,X.env.cells.lookup x=some c->c≠b)/\∀p∈X.pn++pins,p.1≠b) :
 Inv X pins σ H' { s with heap:=h',gens:=g',drawn:=d',toks:=t' }:=by
 obtain⟨m,⟨o,es,ep,ho,r⟩,_⟩:=id I.loc;obtain⟨sl,hL⟩:=u.any ho I.free fun z=>(hch _ z).2.1 rfl
 exact I.step (ch:=ch) hch (fun b o hL hb hc e n=>u.keep b o e n (fun z=>(qD0 (I.stkSub b z)).elim hL hb) hc) (fun b o _ _ hc e n=>u.any e n hc) (fun b o hc e n=>u.free b o e n hc) (fun b o hc e=>u.there b o e hc) u.tups u.frzs u.tbls (fun m' hm=>by
  obtain⟨o',es',ep',ho',r'⟩:=hm;rw[ho]at ho';cases ho';exact⟨_,es',ep',hL,r'⟩) hok hg
theorem Inv.turned{t':Nat}{it:Addr}(I:Inv X pins σ H s)(k:∀b o,b≠it->s.heap.get? b=some o->h'.get? b=some o)(hn:H it=none)(hL:it≠X.env.locals)
 (h1:it∈X.ex∨X.s₀.heap.objs.size<=it) (h2:∀x c,X.env.cells.lookup x=some c->c≠it) (h3:∀p∈X.pn++pins,p.1≠it):Inv X pins σ H { s with heap:=h',toks:=t' }:=by
 have nit:∀b u,H b=some u->b≠it:=fun b u e z=>by rw[z,hn]at e;cases e
 refine I.step (g':=s.gens) (d':=s.drawn) (ch:=[it]) (fun b hb=>?_) (fun b o _ _ hc e _=>k b o (fun z=>hc (by simp [z])) e) (fun b o _ _ hc e _=>⟨o.slots,k b o (fun z=>hc (by simp [z])) e⟩) (fun _ _ _ _ n=>n)
  (fun b o hc e=>⟨o,k b o (fun z=>hc (by simp [z])) e⟩) (fun _ _ e=>e) (fun _ _ _ e=>e) (fun b ps e=>⟨#[],by rw[e];simp⟩) (fun m hm=>?_) (fun b u e=>?_) I.bare
 . have e:b=it:=by simpa using hb
   subst e;exact⟨h1,hL,h2,h3⟩
 . obtain⟨o,es,ep,ho,r⟩:=hm;exact⟨o,es,ep,k _ o (Ne.symm hL) ho,r⟩
 . refine (I.hok b u e).stay (fun c v hc q=>k c v ?_ q) (fun _ q=>q) fun _ _ q=>q
   rcases hc with z | z
   . rw[z];exact nit b u e
   . exact nit c _ z
theorem Inv.tok(I:Inv X pins σ H s)(t:Nat):Inv X pins σ H { s with toks:=t }:=I.un (h':=s.heap) (t':=t) Un.refl I.hok
theorem Inv.kept{t':Nat}(I:Inv X pins σ H s)(k:∀b u,s.heap.get? b=some u->h'.get? b=some u):Inv X pins σ H { s with heap:=h',toks:=t' }:=I.un (Un.kept k) (I.hok.kept k)
theorem Inv.laid{a:Addr}{o:HO}{t':Nat}(I:Inv X pins σ H s)(k:∀b u,s.heap.get? b=some u->h'.get? b=some u)(hp:s.heap.objs.size<=a)(new:ObjOk X.prog X.w (upd H a o) h' a o) :
 Inv X pins σ (upd H a o) { s with heap:=h',toks:=t' }:=I.un (Un.laid k hp (I.hok.fresh hp)) (I.hok.laid k hp new)
theorem Inv.write{x e:Addr}{o:HO}{t':Nat}(I:Inv X pins σ H s)(mu:Mut (H x))(he:e=x∨H e=some (.own x))(k:∀b u,b≠e->s.heap.get? b=some u->h'.get? b=some u)(heo:∃u,h'.get? e=some u)
 (new:ObjOk X.prog X.w (upd H x o) h' x o):Inv X pins σ (upd H x o) { s with heap:=h',toks:=t' }:=I.un (Un.write mu he k heo) (I.hok.write mu he k heo new)
theorem Inv.pins_of{pins':List (Addr×Obj)}(I:Inv X pins σ H s)(h:∀p∈pins',s.heap.get? p.1=some p.2/\H p.1=none/\p.1≠X.env.locals/\p.1∉X.fs/\∀v,p.2.data≠.cell v):Inv X pins' σ H s:=
 ⟨I.ok,I.os,I.bare,I.base,I.loc,I.cell,I.free,I.freeC,fun p hp=>(qL0 hp).elim (fun z=>I.pin p (List.mem_append_left _ z)) (h p),I.hok,I.len⟩
theorem oi{N:List Str}(hN:N.Nodup){i j:Nat}{x:Str}(a:N[i]?=some x)(b:N[j]?=some x):i=j:=by
 obtain⟨h1,e1⟩:=zX0 a;obtain⟨h2,e2⟩:=zX0 b;exact(List.getElem_inj hN).mp (e1.trans e2.symm)
theorem pB{M:Model}{A:Around}{E:Value->Shared->Prop}{i:Nat}{x:Str}{v:V}{u:Value}{Q:Unit->Shared->Prop}(I:Inv X pins σ H s)(hN:X.N.Nodup)(hi:X.N[i]?=some x)(hx:Loc X.env.scope x)(r:RelV v u)
 (h:∀s',Inv X pins (σ.set i (some v)) H s'->(∃a,Heap.SameBut a s.heap s'.heap/\(a=X.env.locals∨X.env.cells.lookup x=some a))->Q () s') (hf:X.fn x=true∨X.env.scope.names.lookup x=some .local:=by first | exact .inl rfl | exact .inr rfl | assumption):wpAny M A (storeName X.env x u) Q E s:=by
 obtain⟨m,hn,hl⟩:=id I.loc;have hcls:(X.env.scope.kind==.class||(X.env.scope.kind==.module&&X.env.locals != X.env.globals))=false:=by rw[I.ok.kind];rfl
 have hiσ:i<σ.length:=by rw[I.len];exact(zX0 hi).1
 have cne:=I.cne;have tracked:∀{a:Addr}{h':Heap},(∃o,s.heap.get? a=some o/\H a=none)->Heap.SameBut a s.heap h'->HOk X.prog X.w H h':=fun{a h'} ha hs b ob e=>by
  obtain⟨_,_,hfree⟩:=ha;refine(I.hok b ob e).stay (fun c w' hc q=>(hs.2 c ?_).trans q) (fun _ q=>q) fun _ _ q=>q
  rintro rfl;rcases hc with rfl | hc
  . rw[hfree]at e;cases e
  . rw[hfree]at hc;cases hc
 rcases hx with hk | hk
 . refine wpAny_storeName_local hk hn (fun h' hn' hs=>?_) hcls;obtain⟨oL,_,_,hoL,_⟩:=id hn;refine h _ ⟨I.ok,I.os,I.bare,⟨fun b o e n hb hx=>?_,fun b o e n hb hx=>?_,I.base.free,fun b o e hx=>?_,I.base.tups,I.base.frzs,I.base.tbls⟩,⟨_,hn',fun j y v' e1 e2 e3=>?_⟩,fun y c e=>?_,I.free,I.freeC,fun p hp=>?_,tracked ⟨oL,hoL,I.free⟩ hs,by simpa using I.len⟩ ⟨_,hs,.inl rfl⟩
   . exact(hs.2 b (zQ0 (qE0 (zK0 e) I.ok.above))).trans (I.base.keep b o e n hb hx)
   . obtain⟨sl,e1⟩:=I.base.slot b o e n hb hx;exact⟨sl,(hs.2 b (zQ0 (qE0 (zK0 e) I.ok.above))).trans e1⟩
   . obtain⟨o',e1⟩:=I.base.there b o e hx;exact⟨o',(hs.2 b (zQ0 (qE0 (zK0 e) I.ok.above))).trans e1⟩
   . by_cases hj:j=i
     . subst hj;rw[hi]at e1;cases e1;rw[List.getElem?_set_self hiσ]at e2;cases e2;exact⟨u,r,.inl ⟨hk,by simp⟩⟩
     . rw [List.getElem?_set_ne (Ne.symm hj)]at e2;obtain⟨u',r',q⟩:=hl j y v' e1 e2 e3;refine⟨u',r',?_⟩;rcases q with⟨k,e⟩ | ⟨k,c,e,z⟩
       . refine .inl ⟨k,?_⟩
         have:y≠x:=fun e=>hj (oi hN e1 (e▸hi))
         simp [this,e]
       . exact .inr ⟨k,c,e,z.sameBut hs (cne y c e)⟩
   . obtain⟨w',z⟩:=I.cell y c e;exact⟨w',z.sameBut hs (cne y c e)⟩
   . obtain⟨e,n,ne,nf,d⟩:=I.pin p hp;exact⟨(hs.2 p.1 ne).trans e,n,ne,nf,d⟩
 . have hfn:X.fn x=true:=by
    rcases hf with z | z
    . exact z
    . rw[z]at hk;cases hk
   obtain⟨c,hc⟩:=I.ok.has x (.inl hk);obtain⟨w',z⟩:=I.cell x c hc;refine wpAny_storeName_cell I.ok.kind hk hc z (fun h' hc' hs=>?_);obtain⟨oc,hoc,hocd⟩:=id z;refine h { s with heap:=h' } ⟨I.ok,I.os,I.bare,⟨fun b o e n hb hx=>?_,fun b o e n hb hx=>?_,I.base.free,fun b o e hx=>?_,I.base.tups,I.base.frzs,I.base.tbls⟩,⟨m,hn.sameBut hs (Ne.symm (cne x c hc)),fun j y v' e1 e2 e3=>?_⟩,fun y c' e=>?_,I.free,I.freeC,fun p hp=>?_,tracked ⟨oc,hoc,I.freeC x c hc⟩ hs,by simpa using I.len⟩ ⟨c,hs,.inr hc⟩
   . exact(hs.2 b (zQ0 (qE0 (zK0 e) (I.ok.cab x c hfn hc)))).trans (I.base.keep b o e n hb hx)
   . obtain⟨sl,e1⟩:=I.base.slot b o e n hb hx;exact⟨sl,(hs.2 b (zQ0 (qE0 (zK0 e) (I.ok.cab x c hfn hc)))).trans e1⟩
   . obtain⟨o',e1⟩:=I.base.there b o e hx;exact⟨o',(hs.2 b (zQ0 (qE0 (zK0 e) (I.ok.cab x c hfn hc)))).trans e1⟩
   . by_cases hj:j=i
     . subst hj;rw[hi]at e1;cases e1;rw[List.getElem?_set_self hiσ]at e2;cases e2;exact⟨u,r,.inr ⟨.inl hk,c,hc,hc'⟩⟩
     . rw [List.getElem?_set_ne (Ne.symm hj)]at e2;obtain⟨u',r',q⟩:=hl j y v' e1 e2 e3;refine⟨u',r',?_⟩;rcases q with q | ⟨k,c',e,z'⟩
       . exact .inl q
       . refine .inr ⟨k,c',e,z'.sameBut hs ?_⟩;rintro rfl;exact hj (oi hN e1 (I.ok.inj _ _ _ e hc▸hi))
   . by_cases hcc:c'=c
     . subst hcc;exact⟨_,hc'⟩
     . obtain⟨w2,z2⟩:=I.cell y c' e;exact⟨w2,z2.sameBut hs hcc⟩
   . obtain⟨e,n,ne,nf,d⟩:=I.pin p hp;refine⟨(hs.2 p.1 ?_).trans e,n,ne,nf,d⟩;intro q;rw[q,hoc]at e;have q':oc=p.2:=zR0 e;exact d w' (by rw[←q'];exact hocd)
theorem iF{M:Model}{A:Around}{E:Value->Shared->Prop}{i:Nat}{x:Str}{v:V}{u:Value}{Q:Unit->Shared->Prop}(I:Inv X pins σ H s)(hN:X.N.Nodup)(hi:X.N[i]?=some x)(hx:Loc X.env.scope x)(r:RelV v u)
 (h:∀s',Inv X pins (σ.set i (some v)) H s'->Q () s') (hf:X.fn x=true∨X.env.scope.names.lookup x=some .local:=by first | exact .inl rfl | exact .inr rfl | assumption):wpAny M A (storeName X.env x u) Q E s:=
 pB I hN hi hx r (fun s' I' _=>h s' I') hf
theorem Inv.call'{s':Shared}{ch:List Addr}(I:Inv X pins σ H s)(ho:s'.os=s.os)(u:Un (frs X.stack) ch H H' s.heap s'.heap)(hok:HOk X.prog X.w H' s'.heap)(hg:AllBare s'.gens)
 (hch:∀b∈ch,(b∈X.ex∨X.s₀.heap.objs.size<=b)/\b≠X.env.locals/\(∀x c,X.env.cells.lookup x=some c->c≠b)/\∀p∈X.pn++pins,p.1≠b):Inv X pins σ H' s':=by
 obtain⟨h',g',d',t',o'⟩:=s';have e:o'=s.os:=ho;subst e;exact I.call (g':=g') (t':=t') (d':=d') u hok hg hch
end
abbrev XK:=Value->Option Addr->Hp->Prop
abbrev St:=List (Option V)
abbrev VK:=V->Hp->Prop
abbrev TE:=St->Hp->VK->Prop
abbrev TT:=St->Hp->(Bool->Hp->Prop)->Prop
abbrev TA:=St->Hp->(List V->Hp->Prop)->Prop
structure Ends where
 nx:St->Hp->Prop
 rt:VK
 bk:St->Hp->Prop:=fun _ _=>False
 ct:St->Hp->Prop:=fun _ _=>False
abbrev TS:=Ends->St->Hp->Prop
def EP(X:Cx)(pins:List (Addr×Obj))(σ:St)(Q:VK)(u:Value)(s':Shared):Prop:=∃v H',Inv X pins σ H' s'/\RelV v u/\Q v H'
def TP(X:Cx)(pins:List (Addr×Obj))(σ:St)(Q:Bool->Hp->Prop)(b:Bool)(s':Shared):Prop:=∃H',Inv X pins σ H' s'/\Q b H'
def AP(X:Cx)(pins:List (Addr×Obj))(σ:St)(Q:List V->Hp->Prop)(us:List Value)(s':Shared):Prop:=∃vs H',Inv X pins σ H' s'/\Vals vs us/\Q vs H'
def SP(X:Cx)(pins:List (Addr×Obj))(D:Ends)(f:Flow)(s':Shared):Prop:=
 match f with
 | .next=>∃ σ' H',Inv X pins σ' H' s'/\D.nx σ' H'
 | .brk=>∃ σ' H',Inv X pins σ' H' s'/\D.bk σ' H'
 | .cont=>∃ σ' H',Inv X pins σ' H' s'/\D.ct σ' H'
 | .ret u=>∃v σ' H',Inv X pins σ' H' s'/\RelV v u/\D.rt v H'
def PE(X:Cx)(e:Expr)(t:TE):Prop:=
 ∀(pins:List (Addr×Obj))(s:Shared)(σ:St)(H:Hp)(Q:VK),Inv X pins σ H s->t σ H Q->wpAny (model X.prog X.w) X.A (eval e X.env) (EP X pins σ Q) X.xe s
def PT(X:Cx)(e:Expr)(t:TT):Prop:=
 ∀(pins:List (Addr×Obj))(s:Shared)(σ:St)(H:Hp)(Q:Bool->Hp->Prop),Inv X pins σ H s->t σ H Q->wpAny (model X.prog X.w) X.A (isTrue e X.env (eval e X.env)) (TP X pins σ Q) X.xe s
def PW(X:Cx)(e:Expr)(t:TT):Prop:=
 ∀(whole:Sem Value)(pins:List (Addr×Obj))(s:Shared)(σ:St)(H:Hp)(Q:Bool->Hp->Prop),Inv X pins σ H s->t σ H Q->wpAny (model X.prog X.w) X.A (isTrue e X.env whole) (TP X pins σ Q) X.xe s
theorem PW.pt{X:Cx}{e:Expr}{t:TT}(h:PW X e t):PT X e t:=h _
def PA(X:Cx)(es:List Expr)(t:TA):Prop:=
 ∀(pos:Pos)(pins:List (Addr×Obj))(s:Shared)(σ:St)(H:Hp)(Q:List V->Hp->Prop),Inv X pins σ H s->t σ H Q->wpAny (model X.prog X.w) X.A (spliced (backTo pos (starEach es X.env))) (AP X pins σ Q) X.xe s
def PS(X:Cx)(st:Stmt)(t:TS):Prop:=
 ∀(pins:List (Addr×Obj))(s:Shared)(σ:St)(H:Hp)(D:Ends),Inv X pins σ H s->t D σ H->wpAny (model X.prog X.w) X.A (exec st X.env) (SP X pins D) X.xe s
def PSs(X:Cx)(st:List Stmt)(t:TS):Prop:=
 ∀(pins:List (Addr×Obj))(s:Shared)(σ:St)(H:Hp)(D:Ends),Inv X pins σ H s->t D σ H->wpAny (model X.prog X.w) X.A (execs st X.env) (SP X pins D) X.xe s
theorem thn{α:Type}{t:Sem α}{Q Q':α->Shared->Prop}{M:Model}{A:Around}{E:Value->Shared->Prop}{s:Shared}(h:wpAny M A t Q E s)(hQ:∀a s,Q a s->Q' a s):wpAny M A t Q' E s:=wpAny_mono h hQ fun _ _ x=>x
section
variable {X:Cx}
def tVar(i:Nat):TE:=fun σ H Q=>∃v,σ[i]?=some (some v)/\Q v H
def tC(v:V):TE:=fun _ H Q=>Q v H
theorem Ee {i:Nat} {x:Str} {pos:Pos} (hN:X.N[i]?=some x) (hv:Vis X.env.scope x) (hd:(x==("__debug__":Str))=false:=by decide) (hcd:(x==("__classdict__":Str))=false:=by decide):PE X (.Name x pos) (tVar i):=by
 intro pins s σ H Q I h;obtain⟨v,e,h⟩:=h;obtain⟨m,hn,hl⟩:=I.loc;obtain⟨u,r,l⟩:=hl i x v hN e hv;have fin:EP X pins σ Q u s:=⟨v,H,I,r,h⟩
 rcases l with⟨hk,hm⟩ | ⟨hk,c,hc,hcell⟩
 . exact wpAny_Name (wpAny_loadName_local I.ok.kind hk hn hm fin) hd
 . rcases hk with hk | hk
   . exact wpAny_Name (wpAny_loadName_cell I.ok.kind hk hc hcell fin) hd
   . exact wpAny_Name (wpAny_loadName_free I.ok.kind hk hc hcell fin hcd) hd
theorem ai{i j pos}:PE X (.Constant (.int i) j pos) (tC (.int i)):=fun _ _ _ H _ I h=>wpAny_Constant_int ⟨.int i,H,I.tok _,⟨_,rfl⟩,h⟩
theorem lS{b j pos}:PE X (.Constant (.bool b) j pos) (tC (.bl b)):=fun _ _ _ H _ I h=>Constant_bool ⟨.bl b,H,I,rfl,h⟩
theorem iR{j pos}:PE X (.Constant .none j pos) (tC .non):=fun _ _ _ H _ I h=>Constant_none ⟨.non,H,I,rfl,h⟩
theorem aV{x j pos}:PE X (.Constant (.str x) j pos) (tC (.str x)):=fun _ _ _ H _ I h=>Calls.Constant_str ⟨.str x,H,I.tok _,⟨_,rfl⟩,h⟩
def Gl(X:Cx)(x:Str):Prop:=X.env.kindOf x=some .globalImplicit
theorem jD{E:Value->Shared->Prop}{pins:List (Addr×Obj)}{s:Shared}{σ:St}{H:Hp}{x:Str}{u:Value}{pos:Pos}{Q:Value->Shared->Prop}(I:Inv X pins σ H s)(hg:Gl X x)(hm:X.mg x=some u)(h:Q u s)
 (hd:(x==("__debug__":Str))=false:=by decide):wpAny (model X.prog X.w) X.A (eval (.Name x pos) X.env) Q E s:=
 Calls.Name_function_global I.ok.kind hg (Calls.loadGlobal_global (by rw[I.ok.glob];exact I.mod.glob.keeps I.bk) hm h) hd
theorem ir{E:Value->Shared->Prop}{pins:List (Addr×Obj)}{s:Shared}{σ:St}{H:Hp}{x:Str}{u:Value}{pos:Pos}{Q:Value->Shared->Prop}(I:Inv X pins σ H s)(hg:Gl X x)(hm:X.mg x=none)(hv:bootBuiltins x=some u)(h:Q u s)
 (hn:x≠"__name__":=by decide) (hd:(x==("__debug__":Str))=false:=by decide):wpAny (model X.prog X.w) X.A (eval (.Name x pos) X.env) Q E s:=by
 obtain⟨mb,h1,h2⟩:=I.mod.blt;exact Calls.Name_function_global I.ok.kind hg (Calls.loadGlobal_builtin (by rw[I.ok.glob];exact I.mod.glob.keeps I.bk) hm (by rw[I.ok.blt];exact h1.keeps I.bk) ((h2 x hn).trans hv) h) hd
theorem dj {x:Str} {v:V} {u:Value} {pos:Pos} (hg:Gl X x) (hm:X.mg x=some u) (r:RelV v u) (hd:(x==("__debug__":Str))=false:=by decide):PE X (.Name x pos) (tC v):=
 fun _ _ _ H _ I h=>jD I hg hm ⟨v,H,I,r,h⟩ hd
theorem jA {x:Str} {v:V} {u:Value} {pos:Pos} (hg:Gl X x) (hm:X.mg x=none) (hv:bootBuiltins x=some u) (r:RelV v u) (hn:x≠"__name__":=by decide) (hd:(x==("__debug__":Str))=false:=by decide):PE X (.Name x pos) (tC v):=
 fun _ _ _ H _ I h=>ir I hg hm hv ⟨v,H,I,r,h⟩ hn hd
variable {a b:Expr} {ta tb:TE} {pos:Pos}
def tB(t:TE):TT:=fun σ H Q=>t σ H fun x H1=>∃c,x=.bl c/\Q c H1
theorem io{e:Expr}{t:TE}(h:PE X e t)(he:∀whole,isTrue e X.env whole=(do let v ←whole;standAt e.pos;holding [v] (truthy v)):=by intro _;rfl):PT X e (tB t):=by
 intro pins s σ H Q I hw;refine isTrue_plain (thn (h pins s σ H _ I hw) fun v s1 ⟨x,H1,I1,r1,q1⟩=>?_) (he _);obtain⟨d,rfl,q⟩:=q1;cases r1;exact wpAny_truthy_bool ⟨H1,I1,q⟩
variable {tA tB':TT} {rest:List Expr}
def tAnd(t u:TT):TT:=fun σ H Q=>t σ H fun c H1=>if c=true then u σ H1 Q else Q false H1
def tOr(t u:TT):TT:=fun σ H Q=>t σ H fun c H1=>if c=true then Q true H1 else u σ H1 Q
def tNot(t:TT):TT:=fun σ H Q=>t σ H fun c H1=>Q (!c) H1
theorem qC(ha:PT X a tA):PW X (.BoolOp .And [a] pos) tA:=by
 intro wh pins s σ H Q I h;refine isTrue_and (thn (ha pins s σ H Q I h) fun c s1 e=>?_);cases c with
 | true=>exact isTrue_and_nil e
 | false=>exact e
theorem qB(ha:PT X a tA):PW X (.BoolOp .Or [a] pos) tA:=by
 intro wh pins s σ H Q I h;refine isTrue_or (thn (ha pins s σ H Q I h) fun c s1 e=>?_);cases c with
 | false=>exact isTrue_or_nil e
 | true=>exact e
theorem qD(ha:PT X a tA)(hb:PW X (.BoolOp .And (b::rest) pos) tB'):PW X (.BoolOp .And (a::b::rest) pos) (tAnd tA tB'):=by
 intro wh pins s σ H Q I h;refine isTrue_and (thn (ha pins s σ H _ I h) fun c s1 ⟨H1,I1,q1⟩=>?_);cases c with
 | true=>exact hb wh pins s1 σ H1 Q I1 q1
 | false=>exact⟨H1,I1,q1⟩
theorem we(ha:PT X a tA)(hb:PW X (.BoolOp .Or (b::rest) pos) tB'):PW X (.BoolOp .Or (a::b::rest) pos) (tOr tA tB'):=by
 intro wh pins s σ H Q I h;refine isTrue_or (thn (ha pins s σ H _ I h) fun c s1 ⟨H1,I1,q1⟩=>?_);cases c with
 | true=>exact⟨H1,I1,q1⟩
 | false=>exact hb wh pins s1 σ H1 Q I1 q1
theorem jT(ha:PT X a tA):PT X (.UnaryOp .Not a pos) (tNot tA):=by
 intro pins s σ H Q I h;exact isTrue_not (ha pins s σ H (fun c H1=>Q (!c) H1) I h)
def Dg(ta tb:TE):TE:=fun σ H Q=>ta σ H fun x H1=>∃c,x=.bl c/\if c=true then tb σ H1 Q else Q (.bl false) H1
def tOrV(ta tb:TE):TE:=fun σ H Q=>ta σ H fun x H1=>∃c,x=.bl c/\if c=true then Q (.bl true) H1 else tb σ H1 Q
def tNotV(ta:TE):TE:=fun σ H Q=>ta σ H fun x H1=>∃c,x=.bl c/\Q (.bl (!c)) H1
theorem nW{op}{t:TE}(h:PE X a t):PE X (.BoolOp op [a] pos) t:=fun pins s σ H Q I hw=>BoolOp_one (h pins s σ H Q I hw)
theorem lu(ha:PE X a ta)(hb:PE X (.BoolOp .And (b::rest) pos) tb):PE X (.BoolOp .And (a::b::rest) pos) (Dg ta tb):=by
 intro pins s σ H Q I h;refine BoolOp_and (thn (ha pins s σ H _ I h) fun v s1 ⟨x,H1,I1,r1,q1⟩=>?_);obtain⟨c,rfl,q1⟩:=q1;cases r1;refine wpAny_truthy_bool ?_;cases c with
 | true=>exact hb pins s1 σ H1 Q I1 q1
 | false=>exact⟨.bl false,H1,I1,rfl,q1⟩
theorem pe_or(ha:PE X a ta)(hb:PE X (.BoolOp .Or (b::rest) pos) tb):PE X (.BoolOp .Or (a::b::rest) pos) (tOrV ta tb):=by
 intro pins s σ H Q I h;refine BoolOp_or (thn (ha pins s σ H _ I h) fun v s1 ⟨x,H1,I1,r1,q1⟩=>?_);obtain⟨c,rfl,q1⟩:=q1;cases r1;refine wpAny_truthy_bool ?_;cases c with
 | false=>exact hb pins s1 σ H1 Q I1 q1
 | true=>exact⟨.bl true,H1,I1,rfl,q1⟩
theorem uC(ha:PE X a ta):PE X (.UnaryOp .Not a pos) (tNotV ta):=by
 intro pins s σ H Q I h;refine UnaryOp_ (thn (ha pins s σ H _ I h) fun v s1 ⟨x,H1,I1,r1,q1⟩=>?_);obtain⟨c,rfl,q1⟩:=q1;cases r1;exact not_of (wpAny_truthy_bool ⟨.bl (!c),H1,I1,rfl,q1⟩)
def tIf(t:TT)(ta tb:TE):TE:=fun σ H Q=>t σ H fun c H1=>if c=true then ta σ H1 Q else tb σ H1 Q
theorem sv{c:Expr}(hc:PT X c tA)(ha:PE X a ta)(hb:PE X b tb):PE X (.IfExp c a b pos) (tIf tA ta tb):=by
 intro pins s σ H Q I h;refine wpAny_IfExp (thn (hc pins s σ H _ I h) fun d s1 ⟨H1,I1,q1⟩=>?_);cases d with
 | true=>exact ha pins s1 σ H1 Q I1 q1
 | false=>exact hb pins s1 σ H1 Q I1 q1
end
def SqL(K:W.Frag)(H:Hp)(a:Addr)(xs:List V):Prop:=
 Rd H a (.lst xs)∨
  ∃(o:Obj) (its:Array Value) (n:Nat),K.lookup a=some o/\o.cls=.type "list"/\o.dict=none/\o.data=.seq its n/\its.size<=sizeLine/\Vals xs its.toList
def SqT(K:W.Frag)(H:Hp)(a:Addr)(xs:List V):Prop:=
 Rd H a (.tup xs)∨
  ∃(o:Obj) (its:Array Value) (n:Nat),K.lookup a=some o/\o.cls=.type "tuple"/\o.data=.seq its n/\its.size<=sizeLine/\Vals xs its.toList
def absV:Value->Option V
 | .none=>some .non
 | .bool b=>some (.bl b)
 | .int i _=>some (.int i)
 | .str x _=>some (.str x)
 | .bytes b _=>some (.byt b)
 | .float b _=>some (.flt b)
 | .ref a=>some (.ref a)
 | .type n=>some (.ty n)
 | _=>none
theorem RelV.abs{x:V}{u:Value}(r:RelV x u):absV u=some x:=by
 cases x with
 | non=>cases r;rfl
 | bl _=>cases r;rfl
 | int _=>obtain⟨t,rfl⟩:=r;rfl
 | str _=>obtain⟨t,rfl⟩:=r;rfl
 | byt _=>obtain⟨t,rfl⟩:=r;rfl
 | flt _=>obtain⟨t,rfl⟩:=r;rfl
 | ref _=>cases r;rfl
 | ty _=>cases r;rfl
theorem RelV.inj{x y:V}{u:Value}(r:RelV x u)(q:RelV y u):x=y:=zR0 (r.abs.symm.trans q.abs)
theorem Vals.inj:∀{xs ys:List V}{us:List Value},Vals xs us->Vals ys us->xs=ys
 | _,_,_,.nil,.nil=>rfl
 | _,_,_,.cons r t,.cons r' t'=>by rw[r.inj r',Vals.inj t t']
section
variable {X:Cx} {pins:List (Addr×Obj)} {σ:St} {H:Hp} {s:Shared} {a:Addr} {xs ys:List V}
theorem zI0{K:W.Frag}(h:H a=some (.lst xs)):SqL K H a xs:=.inl (.inl h)
abbrev SqL.of:=@zI0
theorem zE0{K:W.Frag}(h:H a=some (.tup xs)):SqT K H a xs:=.inl (.inl h)
abbrev SqT.of:=@zE0
theorem Inv.list(I:Inv X pins σ H s)(h:SqL X.K H a xs):∃its:List Value,Vals xs its/\PlainL s.heap a its.toArray/\xs.length<=sizeLine:=by
 rcases h with h | ⟨o,its,n,hk,hc,hd,hs,hz,r⟩
 . obtain⟨z,its,n,r,e⟩:=h.ok I.hok;exact⟨its,r,⟨_,n,e,rfl,rfl,rfl⟩,z⟩
 . refine⟨its.toList,r,⟨o,n,I.kIn a o hk,hc,hd,by simpa using hs⟩,?_⟩;have e:=r.length;simp only[Array.length_toList]at e;omega
theorem Inv.tuple(I:Inv X pins σ H s)(h:SqT X.K H a xs):∃its:List Value,Vals xs its/\IsTup s.heap a its.toArray/\xs.length<=sizeLine:=by
 rcases h with h | ⟨o,its,n,hk,hc,hs,hz,r⟩
 . obtain⟨z,its,r,p,_⟩:=h.ok I.hok;exact⟨its,r,p,z⟩
 . refine⟨its.toList,r,⟨o,I.kIn a o hk,hc,n,by simpa using hs⟩,?_⟩;have e:=r.length;simp only[Array.length_toList]at e;omega
theorem Inv.list_inj(I:Inv X pins σ H s)(h:SqL X.K H a xs)(h':SqL X.K H a ys):xs=ys:=by
 obtain⟨its,r,⟨o,n,e,_,_,d⟩,_⟩:=I.list h;obtain⟨its',r',⟨o',n',e',_,_,d'⟩,_⟩:=I.list h';rw[e]at e';cases e';rw[d]at d';injection d' with d1 _
 have:its=its':=by simpa using congrArg Array.toList d1
 subst this;exact r.inj r'
theorem Inv.tuple_inj(I:Inv X pins σ H s)(h:SqT X.K H a xs)(h':SqT X.K H a ys):xs=ys:=by
 obtain⟨its,r,⟨o,e,_,n,d⟩,_⟩:=I.tuple h;obtain⟨its',r',⟨o',e',_,n',d'⟩,_⟩:=I.tuple h';rw[e]at e';cases e';rw[d]at d';injection d' with d1 _
 have:its=its':=by simpa using congrArg Array.toList d1
 subst this;exact r.inj r'
end
abbrev Cx.wish(X:Cx)(E:Value->Shared->Prop):Cx:={ X with xe:=E }
abbrev Cx.nox(X:Cx):Cx:=X.wish fun _ _=>False
theorem Cx.Ok.wish{X:Cx}(ok:X.Ok)(E:Value->Shared->Prop):(X.wish E).Ok:=
 ⟨ok.mod,ok.kind,ok.glob,ok.blt,ok.above,ok.inj,ok.has,ok.cab,ok.hd,ok.frames,ok.stk,ok.exf,ok.bs,ok.bsz,ok.noex,ok.exfs,ok.funs,ok.frf⟩
theorem Cx.Ok.unwish{X:Cx}{E:Value->Shared->Prop}(ok:(X.wish E).Ok):X.Ok:=
 ⟨ok.mod,ok.kind,ok.glob,ok.blt,ok.above,ok.inj,ok.has,ok.cab,ok.hd,ok.frames,ok.stk,ok.exf,ok.bs,ok.bsz,ok.noex,ok.exfs,ok.funs,ok.frf⟩
section
variable {X:Cx} {pins:List (Addr×Obj)} {σ:St} {H:Hp} {s:Shared} {E:Value->Shared->Prop}
theorem Inv.wish(I:Inv X pins σ H s)(E:Value->Shared->Prop):Inv (X.wish E) pins σ H s:=⟨I.ok.wish E,I.os,I.bare,I.base,I.loc,I.cell,I.free,I.freeC,I.pin,I.hok,I.len⟩
theorem Inv.unwish(I:Inv (X.wish E) pins σ H s):Inv X pins σ H s:=⟨I.ok.unwish,I.os,I.bare,I.base,I.loc,I.cell,I.free,I.freeC,I.pin,I.hok,I.len⟩
theorem SP.unwish{D:Ends}{f:Flow}{s':Shared}(h:SP (X.wish E) pins D f s'):SP X pins D f s':=by
 cases f with
 | next=>obtain⟨σ',H',I,q⟩:=h;exact⟨σ',H',I.unwish,q⟩
 | brk=>obtain⟨σ',H',I,q⟩:=h;exact⟨σ',H',I.unwish,q⟩
 | cont=>obtain⟨σ',H',I,q⟩:=h;exact⟨σ',H',I.unwish,q⟩
 | ret u=>obtain⟨v,σ',H',I,r,q⟩:=h;exact⟨v,σ',H',I.unwish,r,q⟩
theorem PSs.nox{st:List Stmt}{t:TS}(h:PSs X.nox st t):PSs X st t:=fun pins s σ H D I hw=>
 wpAny_mono (h pins s σ H D (I.wish _) hw) (fun _ _ q=>q.unwish) fun _ _ z=>False.elim z
end
section
variable {X:Cx} {st:Stmt} {rest:List Stmt} {t u:TS} {e:Expr} {te:TE} {pos:Pos}
def Dc:TS:=fun D σ H=>D.nx σ H
def tSeq(t u:TS):TS:=fun D σ H=>t { D with nx:=u D } σ H
theorem aG:PSs X [] Dc:=fun _ _ σ H _ I h=>wpAny_execs_nil ⟨σ,H,I,h⟩
theorem ad(h1:PS X st t)(h2:PSs X rest u):PSs X (st::rest) (tSeq t u):=by
 intro pins s σ H D I h;refine wpAny_execs_cons (thn (h1 pins s σ H { D with nx:=u D } I h) fun f s1 q=>?_);cases f with
 | next=>
   obtain⟨σ',H',I',q⟩:=q;exact h2 pins s1 σ' H' D I' q
 | ret v=>exact q
 | brk=>exact q
 | cont=>exact q
theorem ag(h1:PS X st t):PSs X [st] t:=by
 intro pins s σ H D I h;refine wpAny_execs_cons (thn (h1 pins s σ H D I h) fun f s1 q=>?_);cases f with
 | next=>exact wpAny_execs_nil q
 | ret v=>exact q
 | brk=>exact q
 | cont=>exact q
theorem Inv.quiet{pins:List (Addr×Obj)}{σ:St}{H:Hp}{s:Shared}(I:Inv X pins σ H s):interactive X.env=false:=by simp [interactive,I.ok.kind]
def tDrop(te:TE):TS:=fun D σ H=>te σ H fun _ H1=>D.nx σ H1
theorem bX(he:PE X e te)(hs:swapsWith e none pos.line X.env=pure false:=by rfl):PS X (.Expr e pos) (tDrop te):=by
 intro pins s σ H D I h;exact wpAny_Expr_any (thn (he pins s σ H _ I h) fun v s1 ⟨x,H1,I1,r1,q1⟩=>⟨σ,H1,I1,q1⟩) I.quiet hs
def tRet(te:TE):TS:=fun D σ H=>te σ H D.rt
theorem aD(he:PE X e te):PS X (.Return (some e) pos) (tRet te):=by
 intro pins s σ H D I h;exact wpAny_Return_some (thn (he pins s σ H _ I h) fun v s1 ⟨x,H1,I1,r1,q1⟩=>⟨x,σ,H1,I1,r1,q1⟩)
def tIfS(c:TT)(t u:TS):TS:=fun D σ H=>c σ H fun b H1=>if b=true then t D σ H1 else u D σ H1
theorem aR{c:Expr}{a b:List Stmt}{tc:TT}(hc:PT X c tc)(ha:PSs X a t)(hb:PSs X b u):PS X (.If c a b pos) (tIfS tc t u):=by
 intro pins s σ H D I h;refine wpAny_If (thn (hc pins s σ H _ I h) fun d s1 ⟨H1,I1,q1⟩=>?_);cases d with
 | true=>exact ha pins s1 σ H1 D I1 q1
 | false=>exact hb pins s1 σ H1 D I1 q1
def DL:TS:=fun _ _ _=>False
theorem dH{sts:List Stmt}:PSs X sts DL:=fun _ _ _ _ _ _ h=>h.elim
end
abbrev TG:=V->St->Hp->(St->Hp->Prop)->Prop
abbrev TGs:=List V->St->Hp->(St->Hp->Prop)->Prop
def PG(X:Cx)(target:Expr)(t:TG):Prop:=
 ∀(pins:List (Addr×Obj))(s:Shared)(σ:St)(H:Hp)(v:V)(u:Value)(Q:St->Hp->Prop),Inv X pins σ H s->RelV v u->t v σ H Q ->
  wpAny (model X.prog X.w) X.A (assign target X.env u) (fun _ s'=>∃ σ' H',Inv X pins σ' H' s'/\Q σ' H') X.xe s
def PGs(X:Cx)(ts:List Expr)(t:TGs):Prop:=
 ∀(pins:List (Addr×Obj))(s:Shared)(σ:St)(H:Hp)(vs:List V)(us:List Value)(Q:St->Hp->Prop),Inv X pins σ H s->Vals vs us->t vs σ H Q ->
  wpAny (model X.prog X.w) X.A (assignInOrder ((assignEach ts X.env).map (·.2)) us) (fun _ s'=>∃ σ' H',Inv X pins σ' H' s'/\Q σ' H') X.xe s
abbrev Fd:=V->V->V->Hp->(Hp->Prop)->Prop
def PSet(X:Cx)(t:Fd):Prop:=
 ∀(pins:List (Addr×Obj))(s:Shared)(σ:St)(H:Hp)(o i v:V)(ov iv u:Value)(Q:Hp->Prop),Inv X pins σ H s->RelV o ov->RelV i iv->RelV v u->t o i v H Q ->
  wpAny (model X.prog X.w) X.A (setItem ov iv u) (fun _ s'=>∃H',Inv X pins σ H' s'/\Q H') X.xe s
section
variable {X:Cx} {pos:Pos}
def Be(i:Nat):TG:=fun v σ H Q=>Q (σ.set i (some v)) H
theorem cB{i:Nat}{x:Str}(hN:X.N.Nodup)(hi:X.N[i]?=some x)(hx:Loc X.env.scope x)(hf:X.fn x=true∨X.env.scope.names.lookup x=some .local:=by first | exact .inl rfl | exact .inr rfl | assumption):PG X (.Name x pos) (Be i):=by
 intro pins s σ H v u Q I r h;exact wpAny_assign_Name (iF I hN hi hx r (fun s' I'=>⟨_,H,I',h⟩) hf)
def gNil:TGs:=fun vs σ H Q=>vs=[]/\Q σ H
def gCons(t:TG)(u:TGs):TGs:=fun vs σ H Q=>∃v r,vs=v::r/\t v σ H fun σ' H'=>u r σ' H' Q
theorem wl:PGs X [] gNil:=by
 intro pins s σ H vs us Q I r h;obtain⟨e,h⟩:=h;subst e;cases r;exact assignInOrder_nil ⟨σ,H,I,h⟩
theorem kt{e:Expr}{es:List Expr}{t:TG}{u:TGs}(h1:PG X e t)(h2:PGs X es u)
 (hs:(assignEach (e::es) X.env).map (·.2)=assign e X.env::(assignEach es X.env).map (·.2):=by rfl):PGs X (e::es) (gCons t u):=by
 intro pins s σ H vs us Q I r h;obtain⟨v,vr,e1,h⟩:=h;subst e1;cases r with
 | cons r rr=>
   rw[hs];refine assignInOrder_cons (thn (h1 pins s σ H _ _ _ I r h) fun _ s1 ⟨σ1,H1,I1,q1⟩=>?_);exact h2 pins s1 σ1 H1 _ _ Q I1 rr q1
def gTup(K:W.Frag)(n:Nat)(t:TGs):TG:=fun v σ H Q=>∃a xs,v=.ref a/\SqT K H a xs/\xs.length=n/\t xs σ H Q
theorem Ab{es:List Expr}{k:Nat}{t:TGs}{n:Nat}(hc:X.calm=true)(h:PGs X es t)
 (hn:(assignEach es X.env).length=n:=by rfl) (hst:(assignEach es X.env).findIdx? (·.1)=none:=by rfl):PG X (.Tuple es k pos) (gTup X.K n t):=by
 intro pins s σ H v u Q I r hw;obtain⟨a,xs,e1,hq,hl,hw⟩:=hw;subst e1;cases r;obtain⟨its,rv,ht,hz⟩:=I.tuple hq;refine assign_Tuple_tuple (I.ok.hd hc) ht (by simp [hn,←hl,rv.length]) hst fun h' hx=>?_
 have I1:Inv X pins σ H { s with heap:=h' }:=I.kept (t':=s.toks) fun b o e=>hx b o (zQ0 (zK0 e)) e
 exact h pins _ σ H xs _ Q I1 (by simpa using rv) hw
def gSub(to ti:TE)(t:Fd):TG:=fun v σ H Q=>to σ H fun o H1=>ti σ H1 fun i H2=>t o i v H2 fun H3=>Q σ H3
theorem qI{o i:Expr}{to ti:TE}{t:Fd}(ho:PE X o to)(hi:PE X i ti)(hs:PSet X t)
 (ha:∀v,assign (.Subscript o i pos) X.env v=(do
  let ov ←holding [v] (eval o X.env)
  let iv ←holding [v,ov] (eval i X.env)
  standAt pos
  holding [v,ov,iv] (setItem ov iv v)
  release [v,ov,iv] []):=by intro _;rfl):PG X (.Subscript o i pos) (gSub to ti t):=by
 intro pins s σ H v u Q I r h;rw[ha];refine zC0 (wpAny_holding (thn (ho pins s σ H _ I h) fun ov s1 ⟨x,H1,I1,r1,q1⟩=>?_));refine zC0 (wpAny_holding (thn (hi pins s1 σ H1 _ I1 q1) fun iv s2 ⟨y,H2,I2,r2,q2⟩=>?_));refine zC0 (wpAny_standAt (zC0 (wpAny_holding (thn (hs pins s2 σ H2 x y v ov iv u _ I2 r1 r2 r q2) fun _ s3 ⟨H3,I3,q3⟩=>?_))));exact wpAny_release ⟨σ,H3,I3,q3⟩
def DR(te:TE)(g:TG):TS:=fun D σ H=>te σ H fun x H1=>g x σ H1 D.nx
theorem nJ{tg e:Expr}{te:TE}{g:TG}(he:PE X e te)(hg:PG X tg g)(hs:swapsWithSole [tg] e pos.line X.env=pure false:=by rfl)(hw:swappedStores [tg] e X.env=pure none:=by rfl)
 (h1:(assignEach [tg] X.env).map (·.2)=[assign tg X.env]:=by rfl):PS X (.Assign [tg] e pos) (DR te g):=by
 intro pins s σ H D I h;refine wpAny_Assign_stores (thn (he pins s σ H _ I h) fun v s1 ⟨x,H1,I1,r1,q1⟩=>?_) hs hw;rw[h1];exact thn (hg pins s1 σ H1 x v _ I1 r1 q1) fun _ s2 q=>q
theorem ay{i:Nat}{x:Str}{e:Expr}{te:TE}{pos':Pos}(hN:X.N.Nodup)(hi:X.N[i]?=some x)(hx:Loc X.env.scope x)(he:PE X e te)(hs:swapsWith e (some (.Name x pos')) pos.line X.env=pure false:=by rfl)(hf:X.fn x=true∨X.env.scope.names.lookup x=some .local:=by first | exact .inl rfl | exact .inr rfl | assumption) :
 PS X (.Assign [.Name x pos'] e pos) (DR te (Be i)):=by
 intro pins s σ H D I h;refine wpAny_Assign_Name (thn (he pins s σ H _ I h) fun v s1 ⟨y,H1,I1,r1,q1⟩=>?_) hs;exact iF I1 hN hi hx r1 (fun s2 I2=>⟨_,H1,I2,q1⟩) hf
end
section
variable {X:Cx} {pos:Pos}
def DK(c:TT)(tb:TS):TS:=fun D σ H=>∃W:Nat->St->Hp->Prop,(∃m,W m σ H)/\∀m σ H,W m σ H ->
 c σ H fun b H1=>if b=true then ∃N:St->Hp->Prop,(∀ σ' H',N σ' H'->∃m',m'<m/\W m' σ' H')/\tb { D with nx:=N,ct:=N,bk:=D.nx } σ H1 else D.nx σ H1
theorem iP{c:Expr}{body:List Stmt}{tc:TT}{tb:TS}(hp:PassesOwn (model X.prog X.w) X.A X.env X.xe)(hc:PT X c tc)(hb:PSs X body tb):PS X (.While c body [] pos) (DK tc tb):=by
 intro pins s σ H D I h;obtain⟨W,⟨m0,w0⟩,turn⟩:=h;refine wpAny_While (codeAny_whileLoop (fun n s'=>∃ σ' H',Inv X pins σ' H' s'/\W n σ' H') ?_ m0 ⟨σ,H,I,w0⟩);rintro n s1 ⟨σ1,H1,I1,w1⟩;refine wpAny_passesOwn hp (thn (hc pins s1 σ1 H1 _ I1 (turn n σ1 H1 w1)) fun b s2 ⟨H2,I2,q2⟩=>?_);cases b with
 | true=>
   obtain⟨N,hN,q2⟩:=q2;rw[zB0 rfl];refine wpAny_passesOwn hp (thn (hb pins s2 σ1 H2 _ I2 q2) fun f s3 q3=>?_);cases f with
   | next=>
     obtain⟨σ3,H3,I3,n3⟩:=q3;obtain⟨m',hm,w3⟩:=hN σ3 H3 n3;exact⟨m',hm,σ3,H3,I3,w3⟩
   | cont=>
     obtain⟨σ3,H3,I3,n3⟩:=q3;obtain⟨m',hm,w3⟩:=hN σ3 H3 n3;exact⟨m',hm,σ3,H3,I3,w3⟩
   | brk=>exact q3
   | ret v=>exact q3
 | false=>
   rw[zA0 zW0];exact wpAny_execs_nil ⟨σ1,H2,I2,q2⟩
end
structure It where
 go:Nat->Hp->Prop
 yld:Nat->Hp->V->Hp->Prop
 stop:Nat->Hp->Prop
def kM(X:Cx)(pins:List (Addr×Obj))(H:Hp)(b:Addr):Prop:=
 H b=none/\b≠X.env.locals/\b∉X.fs/\(b∈X.ex∨X.s₀.heap.objs.size<=b)/\(∀x c,X.env.cells.lookup x=some c->c≠b)/\∀p∈X.pn++pins,p.1≠b
theorem Inv.fpOk{X:Cx}{pins:List (Addr×Obj)}{σ:St}{H H':Hp}{s:Shared}{b:Addr}(I:Inv X pins σ H s)(hb:s.heap.objs.size<=b)(hn:H' b=none):kM X pins H' b:=by
 refine⟨hn,Nat.ne_of_gt (qE0 I.lt hb),I.nofs hb,.inr (qB0 I.sz hb),fun x c e z=>?_,fun p hp z=>?_⟩
 . obtain⟨v,q⟩:=I.cell x c e;exact absurd (qE0 q.lt (by rw[z];exact hb)) (qU0 _)
 . exact absurd (qE0 (zK0 (I.pin p hp).1) (by rw[z];exact hb)) (qU0 _)
structure Turn(P:Program)(w:World)(K:W.Frag)(tg:Expr)(J:It)(fp:List Addr)(it:Addr)(tn:Nat->Heap->Prop):Prop where
 mem:it∈fp
 obj:∀i h,tn i h->∀b∈fp,∃o,h.get? b=some o/\∀v,o.data≠.cell v
 keep:∀i h h',tn i h->(∀b∈fp,∀o,h.get? b=some o->h'.get? b=some o)->tn i h'
 item:∀(X:Cx),X.prog=P->X.w=w->X.K=K->X.calm=true->∀(i:Nat)(pins:List (Addr×Obj))(s:Shared)(σ:St)(H:Hp)(E:Value->Shared->Prop),Inv X pins σ H s->(∀b∈fp,kM X pins H b)->tn i s.heap->J.go i H ->
  wpAny (model P w) X.A (pyNext (.ref it)) (fun r s1=>∃u,r=some u/\
   wpAny (model P w) X.A (letOwnedTupleGo tg (.ref it) u) (fun _ s2=>∃x H',Inv X pins σ H' s2/\RelV x u/\J.yld i H x H'/\tn (i+1) s2.heap/\∀b∈fp,H' b=none) E s1) E s
 done:∀(X:Cx),X.prog=P->X.w=w->X.K=K->X.calm=true->∀(i:Nat)(pins:List (Addr×Obj))(s:Shared)(σ:St)(H:Hp)(E:Value->Shared->Prop),Inv X pins σ H s->(∀b∈fp,kM X pins H b)->tn i s.heap->J.stop i H ->
  wpAny (model P w) X.A (pyNext (.ref it)) (fun r s1=>r=none/\Inv X pins σ H s1) E s
 self:∀(A:Around)(i:Nat)(s:Shared)(Q:Value->Shared->Prop)(E:Value->Shared->Prop),tn i s.heap->Q (.ref it) s->wpAny (model P w) A (pyIter (.ref it)) Q E s
abbrev TI:=St->Hp->(It->Hp->Prop)->Prop
def PIE(X:Cx)(pins:List (Addr×Obj))(σ:St)(tg:Expr)(R:It->Hp->Prop)(itv:Value)(s2:Shared):Prop:=
 ∃(it:Addr)(fp:List Addr)(tn:Nat->Heap->Prop)(J:It)(H':Hp),itv=.ref it/\Inv X pins σ H' s2/\Turn X.prog X.w X.K tg J fp it tn/\tn 0 s2.heap/\(∀b∈fp,kM X pins H' b)/\R J H'
def PI(X:Cx)(tg iter:Expr)(wi:TI):Prop:=
 ∀(pins:List (Addr×Obj))(s:Shared)(σ:St)(H:Hp)(R:It->Hp->Prop),Inv X pins σ H s->wi σ H R ->
  wpAny (model X.prog X.w) X.A (eval iter X.env) (fun v s1=>wpAny (model X.prog X.w) X.A (pyIter v) (PIE X pins σ tg R) X.xe s1) X.xe s
theorem sX{M:Model}{A:Around}{E:Value->Shared->Prop}{s:Shared}{tg:Expr}{it:Addr}{u:Value}{o:Obj}{n:String}{vs:Array Value}{Q:Unit->Shared->Prop}(ho:s.heap.get? it=some o)(hc:o.cls=.type n)(hd:o.data=.fields vs)
 (hn:["enumerate","zip","dict_itemiterator","dict_reverseitemiterator","odict_iterator","itertools.zip_longest","itertools.pairwise"].contains n=false) (hQ:Q () s):wpAny M A (letOwnedTupleGo tg (.ref it) u) Q E s:=by
 unfold letOwnedTupleGo;cases tg <;> first
  | exact zH0 hQ
  | (cases u <;> first
   | exact zH0 hQ
   | (refine zC0 (wpAny_load ho ?_)
      rw[hc,hd];show wpAny M A (if(["enumerate","zip","dict_itemiterator","dict_reverseitemiterator","odict_iterator","itertools.zip_longest","itertools.pairwise"].contains n&&vs[0]?==some (rawInt _))=true then _ else _) Q E s;rw[zA0 (by intro h;rw[hn,Bool.false_and]at h;cases h)];exact zH0 hQ))
def Itl(K:W.Frag)(a:Addr):It:=
 ⟨fun i H=>∃xs x,SqL K H a xs/\xs[i]?=some x,fun i H x H'=>H'=H/\∀xs,SqL K H a xs->xs[i]?=some x,fun i H=>∃xs,SqL K H a xs/\xs.length<=i⟩
def Itt(K:W.Frag)(a:Addr):It:=
 ⟨fun i H=>∃xs x,SqT K H a xs/\xs[i]?=some x,fun i H x H'=>H'=H/\∀xs,SqT K H a xs->xs[i]?=some x,fun i H=>∃xs,SqT K H a xs/\xs.length<=i⟩
def Itr(lo:Int)(n:Nat):It:=⟨fun i _=>i<n,fun i H x H'=>H'=H/\x=.int (lo+i),fun i _=>n<=i⟩
theorem wX{P:Program}{w:World}{K:W.Frag}{tg:Expr}(a it:Addr):Turn P w K tg (Itl K a) [it] it (fun i h=>h.IsListIter it a i) where
 mem:=by simp
 obj:=fun i h st b hb=>by
  have e:b=it:=by simpa using hb
  subst e;obtain⟨o,e,c,d⟩:=st;exact⟨o,e,fun v z=>by rw[d]at z;cases z⟩
 keep:=fun i h h' st k=>st.at fun o e=>k it (by simp) o e
 item:=by
  intro X hP hw hK hc i pins s σ H E I hf st hg;subst hP hw hK;obtain⟨xs,x,hq,hx⟩:=hg;obtain⟨its,rv,p,hz⟩:=I.list hq;obtain⟨u,hu,ru⟩:=rv.get hx;obtain⟨f0,f1,f2,f3,f4,f5⟩:=hf it (by simp);refine wpAny_pyNext_list_item st p.isList (x:=u) (by simpa using hu) fun h' st' sb=>?_
  have I1:Inv X pins σ H { s with heap:=h' }:=I.turned (t':=s.toks) (fun b o hb e=>(sb.2 b hb).trans e) f0 f1 f3 f4 f5;obtain⟨o,e,c,d⟩:=id st';exact⟨u,rfl,sX (s:={ s with heap:=h' }) e c d (by decide) ⟨x,H,I1,ru,⟨rfl,fun ys hy=>by rw[I.list_inj hy hq];exact hx⟩,st',fun b hb=>(hf b hb).1⟩⟩
 done:=by
  intro X hP hw hK hc i pins s σ H E I hf st hg;subst hP hw hK;obtain⟨xs,hq,hx⟩:=hg;obtain⟨its,rv,p,hz⟩:=I.list hq;obtain⟨f0,f1,f2,f3,f4,f5⟩:=hf it (by simp);have hl:=rv.length;exact wpAny_pyNext_list_end (I.ok.hd hc) st p.isList (by simp;omega) fun h' eb=>⟨rfl,I.turned (t':=s.toks) (fun b o hb e=>eb b o hb e) f0 f1 f3 f4 f5⟩
 self:=fun _ _ _ _ _ st h=>wpAny_pyIter_listiter st h
theorem ub{P:Program}{w:World}{K:W.Frag}{tg:Expr}(a it:Addr):Turn P w K tg (Itt K a) [it] it (fun i h=>h.IsTupleIter it a i) where
 mem:=by simp
 obj:=fun i h st b hb=>by
  have e:b=it:=by simpa using hb
  subst e;obtain⟨o,e,c,d⟩:=st;exact⟨o,e,fun v z=>by rw[d]at z;cases z⟩
 keep:=fun i h h' st k=>st.at fun o e=>k it (by simp) o e
 item:=by
  intro X hP hw hK hc i pins s σ H E I hf st hg;subst hP hw hK;obtain⟨xs,x,hq,hx⟩:=hg;obtain⟨its,rv,p,hz⟩:=I.tuple hq;obtain⟨u,hu,ru⟩:=rv.get hx;obtain⟨f0,f1,f2,f3,f4,f5⟩:=hf it (by simp);refine wpAny_pyNext_tuple_item st (show s.heap.IsTuple a its.toArray from p) (x:=u) (by simpa using hu) fun h' st' sb=>?_
  have I1:Inv X pins σ H { s with heap:=h' }:=I.turned (t':=s.toks) (fun b o hb e=>(sb.2 b hb).trans e) f0 f1 f3 f4 f5;obtain⟨o,e,c,d⟩:=id st';exact⟨u,rfl,sX (s:={ s with heap:=h' }) e c d (by decide) ⟨x,H,I1,ru,⟨rfl,fun ys hy=>by rw[I.tuple_inj hy hq];exact hx⟩,st',fun b hb=>(hf b hb).1⟩⟩
 done:=by
  intro X hP hw hK hc i pins s σ H E I hf st hg;subst hP hw hK;obtain⟨xs,hq,hx⟩:=hg;obtain⟨its,rv,p,hz⟩:=I.tuple hq;obtain⟨f0,f1,f2,f3,f4,f5⟩:=hf it (by simp);have hl:=rv.length;exact wpAny_pyNext_tuple_end (I.ok.hd hc) st (show s.heap.IsTuple a its.toArray from p) (by simp;omega) fun h' eb=>⟨rfl,I.turned (t':=s.toks) (fun b o hb e=>eb b o hb e) f0 f1 f3 f4 f5⟩
 self:=fun _ _ _ _ _ st h=>wpAny_pyIter_tupleiter st h
theorem uc{P:Program}{w:World}{K:W.Frag}{tg:Expr}(it:Addr)(lo:Int)(n:Nat):Turn P w K tg (Itr lo n) [it] it (fun i h=>IsRangeIter h it (lo+(i:Nat)*1) ((n:Int)-(i:Nat)) 1) where
 mem:=by simp
 obj:=fun i h st b hb=>by
  have e:b=it:=by simpa using hb
  subst e;exact⟨_,st,fun v z=>by
   have z':Data.fields _=Data.cell v:=z;cases z'⟩
 keep:=fun i h h' st k=>k it (by simp) _ st
 item:=by
  intro X hP hw hK hc i pins s σ H E I hf st hg;subst hP hw hK;obtain⟨f0,f1,f2,f3,f4,f5⟩:=hf it (by simp);have W:=Walks.range (prog:=X.prog) (w:=X.w) (I.ok.hd hc) it lo 1 n;refine W.item i s _ _ hg st fun v h' tk hv st' kk=>?_
  obtain⟨t,rfl⟩:=hv;have I1:Inv X pins σ H { s with heap:=h',toks:=tk }:=I.turned (fun b o hb e=>kk b o (by simpa using hb) e) f0 f1 f3 f4 f5;refine⟨_,rfl,sX (s:={ s with heap:=h',toks:=tk }) (n:="range_iterator") st' rfl rfl (by decide) ⟨.int (lo+i),H,I1,⟨t,?_⟩,⟨rfl,rfl⟩,st',fun b hb=>(hf b hb).1⟩⟩;rw[Int.mul_one]
 done:=by
  intro X hP hw hK hc i pins s σ H E I hf st hg;subst hP hw hK;obtain⟨f0,f1,f2,f3,f4,f5⟩:=hf it (by simp);exact wpAny_pyNext_range_end (I.ok.hd hc) st (by have:n<=i:=hg;omega) fun h' eb=>⟨rfl,I.turned (t':=s.toks) (fun b o hb e=>eb b o hb e) f0 f1 f3 f4 f5⟩
 self:=fun _ _ _ _ _ st h=>wpAny_pyIter_rangeiter st h
section
variable {X:Cx} {tg:Expr}
def iList(K:W.Frag)(tl:TE):TI:=fun σ H R=>tl σ H fun x H1=>∃a,x=.ref a/\(∃xs,SqL K H1 a xs)/\R (Itl K a) H1
def iTup(K:W.Frag)(tl:TE):TI:=fun σ H R=>tl σ H fun x H1=>∃a,x=.ref a/\(∃xs,SqT K H1 a xs)/\R (Itt K a) H1
theorem jy{l:Expr}{tl:TE}(hl:PE X l tl):PI X tg l (iList X.K tl):=by
 intro pins s σ H R I h;refine thn (hl pins s σ H _ I h) fun v s1 ⟨x,H1,I1,r1,q1⟩=>?_
 obtain⟨a,e,⟨xs,hq⟩,q⟩:=q1;subst e;cases r1;obtain⟨its,rv,p,hz⟩:=I1.list hq;refine wpAny_pyIter_list p.isList ?_;refine⟨s1.heap.objs.size,[s1.heap.objs.size],_,_,H1,rfl,I1.kept (t':=s1.toks) fun b o e=>zJ0 _ e,wX a _,⟨_,zV0 _ rfl,rfl,rfl⟩,fun b hb=>?_,q⟩;have e:b=s1.heap.objs.size:=by simpa using hb
 subst e;exact I1.fpOk (zF0 _) (I1.hok.fresh (zF0 _))
theorem iQ{l:Expr}{tl:TE}(hl:PE X l tl):PI X tg l (iTup X.K tl):=by
 intro pins s σ H R I h;refine thn (hl pins s σ H _ I h) fun v s1 ⟨x,H1,I1,r1,q1⟩=>?_
 obtain⟨a,e,⟨xs,hq⟩,q⟩:=q1;subst e;cases r1;obtain⟨its,rv,p,hz⟩:=I1.tuple hq;refine wpAny_pyIter_tuple (show s1.heap.IsTuple a its.toArray from p) ?_;refine⟨s1.heap.objs.size,[s1.heap.objs.size],_,_,H1,rfl,I1.kept (t':=s1.toks) fun b o e=>zJ0 _ e,ub a _,⟨_,zV0 _ rfl,rfl,rfl⟩,fun b hb=>?_,q⟩;have e:b=s1.heap.objs.size:=by simpa using hb
 subst e;exact I1.fpOk (zF0 _) (I1.hok.fresh (zF0 _))
theorem si{pins:List (Addr×Obj)}{σ:St}{H:Hp}{s:Shared}{R:It->Hp->Prop}{E:Value->Shared->Prop}{lo hi:Int}{t u v:Tok}{tk:Nat}(I:Inv X pins σ H s)(h1:-(2 ^ 62)<=lo)(h2:lo<2 ^ 62)(h3:-(2 ^ 62)<=hi)(h4:hi<2 ^ 62)
 (q:R (Itr lo (hi-lo).toNat) H):wpAny (model X.prog X.w) X.A (pyIter (.ref s.heap.objs.size)) (PIE X pins σ tg R) E { s with heap:=s.heap.push { cls:=.type "range",data:=.fields #[.int lo t,.int hi u,.int 1 v] },toks:=tk }:=by
 refine wpAny_pyIter_range (IsRange.new ..) (small_one h1 h2 h3 h4) ?_;have I1:Inv X pins σ H { s with heap:=s.heap.push { cls:=.type "range",data:=.fields #[.int lo t,.int hi u,.int 1 v] },toks:=tk }:=I.kept fun b o e=>zJ0 _ e
 refine ⟨(s.heap.push { cls:=.type "range",data:=.fields #[.int lo t,.int hi u,.int 1 v] }).objs.size,[(s.heap.push { cls:=.type "range",data:=.fields #[.int lo t,.int hi u,.int 1 v] }).objs.size],_,_,H,rfl,
  I1.kept (t':=tk) fun b o e=>zJ0 _ e,uc _ lo (hi-lo).toNat,?_,fun b hb=>?_,q⟩
 . have e1:lo+((0:Nat):Int)*1=lo:=by simp
   have e2:(((hi-lo).toNat:Nat):Int)-((0:Nat):Int)=Builtin.Range.rangeSize lo hi 1:=by rw[rangeSize_one];split <;> omega
   show IsRangeIter _ _ (lo+((0:Nat):Int)*1) ((((hi-lo).toNat:Nat):Int)-((0:Nat):Int)) 1;rw[e1,e2];exact zV0 _ rfl
 . have e:b=(s.heap.push { cls:=.type "range",data:=.fields #[.int lo t,.int hi u,.int 1 v] }).objs.size:=by simpa using hb
   subst e;exact I1.fpOk (zF0 _) (I1.hok.fresh (zF0 _))
def iRng1(ta:TA):TI:=fun σ H R=>ta σ H fun vs H1=>∃j:Int,vs=[.int j]/\-(2 ^ 62)<=j/\j<2 ^ 62/\R (Itr 0 j.toNat) H1
def iRng2(ta:TA):TI:=fun σ H R=>ta σ H fun vs H1=>∃i j:Int,vs=[.int i,.int j]/\(-(2 ^ 62)<=i/\i<2 ^ 62/\-(2 ^ 62)<=j/\j<2 ^ 62)/\R (Itr i (j-i).toNat) H1
theorem cv {a:Expr} {ta:TA} {p pos:Pos} (hg:Gl X "range") (hm:X.mg "range"=none) (ha:PA X [a] ta) (hs:starEach [a] X.env=[(false,eval a X.env)]:=by rfl):PI X tg (.Call (.Name "range" p) [a] [] pos) (iRng1 ta):=by
 intro pins s σ H R I h;refine Call_ (ir I hg hm boot_range (PyProof.Rows.callWith_type1 (thn (ha pos pins s σ H _ I h) fun us s1 ⟨vs,H1,I1,r1,q1⟩=>?_) hs rfl));obtain⟨j,e,q1,q2,q⟩:=q1;subst e;cases r1 with
 | cons r rr=>
   cases rr;obtain⟨t,rfl⟩:=r;exact call_range_1 (si I1 (by omega) (by omega) q1 q2 (by simpa using q))
theorem xG {a b:Expr} {ta:TA} {p pos:Pos} (hg:Gl X "range") (hm:X.mg "range"=none) (ha:PA X [a,b] ta) (hs:starEach [a,b] X.env=[(false,eval a X.env),(false,eval b X.env)]:=by rfl) (hs2:starEach [b] X.env=[(false,eval b X.env)]:=by rfl) :
 PI X tg (.Call (.Name "range" p) [a,b] [] pos) (iRng2 ta):=by
 intro pins s σ H R I h;refine Call_ (ir I hg hm boot_range (PyProof.Rows.callWith_type1 (thn (ha pos pins s σ H _ I h) fun us s1 ⟨vs,H1,I1,r1,q1⟩=>?_) (by rw[hs,hs2]) (by rw[hs2];rfl)));obtain⟨i,j,e,⟨q1,q2,q3,q4⟩,q⟩:=q1;subst e;cases r1 with
 | cons r rr=>
   cases rr with
   | cons r' rr=>
     cases rr;obtain⟨t,rfl⟩:=r;obtain⟨t',rfl⟩:=r';exact call_range_2 (si I1 q1 q2 q3 q4 q)
def tFor(wi:TI)(g:TG)(tb:TS):TS:=fun D σ H=>wi σ H fun J H1=>∃W:Nat->Nat->St->Hp->Prop,(∃m,W 0 m σ H1)/\∀i m σ H,W i m σ H ->
 (J.stop i H/\D.nx σ H)∨(J.go i H/\∃N:St->Hp->Prop,(∀ σ' H',N σ' H'->∃m',m'<m/\W (i+1) m' σ' H')/\∀x H',J.yld i H x H'->g x σ H' fun σ2 H2=>tb { D with nx:=N,ct:=N,bk:=D.nx } σ2 H2)
def lr(fp:List Addr)(h:Heap):List (Addr×Obj):=fp.filterMap fun b=>(h.get? b).map fun o=>(b,o)
theorem iq{fp:List Addr}{h:Heap}{b:Addr}{o:Obj}(hb:b∈fp)(e:h.get? b=some o):(b,o)∈lr fp h:=List.mem_filterMap.mpr ⟨b,hb,by rw[e];rfl⟩
theorem xS{fp:List Addr}{h:Heap}{p:Addr×Obj}(hp:p∈lr fp h):p.1∈fp/\h.get? p.1=some p.2:=by
 obtain⟨b,hb,e⟩:=List.mem_filterMap.mp hp;cases q:h.get? b with
 | none=>rw[q]at e;cases e
 | some o=>
   rw[q]at e;have e':(b,o)=p:=zR0 e;subst e';exact⟨hb,q⟩
theorem Inv.pinned{pins:List (Addr×Obj)}{σ:St}{H:Hp}{s:Shared}{fp:List Addr}(I:Inv X pins σ H s)(hf:∀b∈fp,kM X pins H b)(ho:∀b∈fp,∃o,s.heap.get? b=some o/\∀v,o.data≠.cell v):Inv X (pins++lr fp s.heap) σ H s:=
 I.pins_of fun p hp=>(qL0 hp).elim (fun z=>I.pin p (qT0 _ z)) fun z=>by
  obtain⟨hb,e⟩:=xS z;obtain⟨f0,f1,f2,_⟩:=hf p.1 hb;obtain⟨o,e',d⟩:=ho p.1 hb;rw[e]at e';cases e';exact⟨e,f0,f1,f2,d⟩
theorem Inv.unpinned{pins pl:List (Addr×Obj)}{σ:St}{H:Hp}{s:Shared}(I:Inv X (pins++pl) σ H s):Inv X pins σ H s:=I.pins_of fun p hp=>I.pin p (qT0 _ (List.mem_append_left _ hp))
theorem dR{iter:Expr}{body:List Stmt}{wi:TI}{g:TG}{tb:TS}{pos:Pos}(hp:PassesOwn (model X.prog X.w) X.A X.env X.xe)(hc:X.calm=true)(hi:PI X tg iter wi)(hg:PG X tg g)(hb:PSs X body tb)
 (hs:∀x,foldedSetIterable iter X.env x=pure x:=by intro _;rfl):PS X (.For tg iter body [] pos) (tFor wi g tb):=by
 intro pins s σ H D I h;refine wpAny_For (thn (hi pins s σ H _ I h) fun v s1 h1=>thn h1 fun itv s2 h2=>?_) hs;obtain⟨it,fp,tn,J,H2,e,I2,T,st2,f2,W,⟨m0,w0⟩,turn⟩:=h2;subst e;have stat:∀{H':Hp},(∀b∈fp,H' b=none)->∀b∈fp,kM X pins H' b:=fun hn b hb=>⟨hn b hb,(f2 b hb).2⟩
 refine codeAny_forLoop_any (fun n s'=>∃i σ' H',Inv X pins σ' H' s'/\tn i s'.heap/\(∀b∈fp,H' b=none)/\W i n σ' H') ?_ m0 ⟨0,σ,H2,I2,st2,fun b hb=>(f2 b hb).1,w0⟩;rintro n s3 ⟨i,σ3,H3,I3,st3,fr3,w3⟩;rcases turn i n σ3 H3 w3 with⟨stop,qn⟩ | ⟨go,N,hN,step⟩
 . refine wpAny_passesOwn hp (thn (T.done X rfl rfl rfl hc i pins s3 σ3 H3 X.xe I3 (stat fr3) st3 stop) fun r s4 ⟨hr,I4⟩=>?_);subst hr;exact wpAny_execs_nil ⟨σ3,H3,I4,qn⟩
 . refine wpAny_passesOwn hp (thn (T.item X rfl rfl rfl hc i pins s3 σ3 H3 X.xe I3 (stat fr3) st3 go) fun r s4 ⟨u,hr,h4⟩=>?_);subst hr;refine wpAny_passesOwn hp (thn h4 fun _ s5 ⟨x,H5,I5,r5,y5,st5,fr5⟩=>?_);have I5':=I5.pinned (stat fr5) (T.obj _ _ st5);refine wpAny_passesOwn hp (thn (hg _ s5 σ3 H5 x u _ I5' r5 (step x H5 y5)) fun _ s6 ⟨σ6,H6,I6,q6⟩=>?_);refine wpAny_passesOwn hp (thn (hb _ s6 σ6 H6 _ I6 q6) fun f s7 q7=>?_);have again:∀{σ7:St}{H7:Hp},Inv X (pins++lr fp s5.heap) σ7 H7 s7->N σ7 H7->∃m,m<n/\∃i σ' H',Inv X pins σ' H' s7/\tn i s7.heap/\(∀b∈fp,H' b=none)/\W i m σ' H':=fun{σ7 H7} I7 n7=>by
    obtain⟨m',hm,w7⟩:=hN σ7 H7 n7;refine⟨m',hm,i+1,σ7,H7,I7.unpinned,T.keep _ _ _ st5 fun b hb o e=>(I7.pin (b,o) (qT0 _ (qT0 _ (iq hb e)))).1,fun b hb=>?_,w7⟩;obtain⟨o,e,d⟩:=T.obj _ _ st5 b hb;exact(I7.pin (b,o) (qT0 _ (qT0 _ (iq hb e)))).2.1
   cases f with
   | next=>obtain⟨σ7,H7,I7,n7⟩:=q7;exact again I7 n7
   | cont=>obtain⟨σ7,H7,I7,n7⟩:=q7;exact again I7 n7
   | brk=>obtain⟨σ7,H7,I7,q7⟩:=q7;exact⟨σ7,H7,I7.unpinned,q7⟩
   | ret v=>obtain⟨x7,σ7,H7,I7,r7,q7⟩:=q7;exact⟨x7,σ7,H7,I7.unpinned,r7,q7⟩
end
theorem oF{K:W.Frag}{a:Addr}{xs:List V}{g:TG}{tb:TS}{D:Ends}{σ:St}{H:Hp}(Pv:Nat->St->Hp->Prop)(h0:Pv 0 σ H)(hl:∀i σ H,i<=xs.length->Pv i σ H->SqL K H a xs)
 (hs:∀i x σ H,xs[i]?=some x->Pv i σ H->g x σ H fun σ2 H2=>tb { D with nx:=Pv (i+1),ct:=Pv (i+1),bk:=D.nx } σ2 H2) (hd:∀ σ H,Pv xs.length σ H->D.nx σ H) :
 ∃ W:Nat->Nat->St->Hp->Prop,(∃m,W 0 m σ H)/\∀i m σ H,W i m σ H ->
  ((Itl K a).stop i H/\D.nx σ H)∨((Itl K a).go i H/\∃N:St->Hp->Prop,(∀ σ' H',N σ' H'->∃m',m'<m/\W (i+1) m' σ' H')/\∀x H',(Itl K a).yld i H x H'->g x σ H' fun σ2 H2=>tb { D with nx:=N,ct:=N,bk:=D.nx } σ2 H2):=by
 refine⟨fun i m σ H=>m=xs.length-i/\i<=xs.length/\Pv i σ H,⟨xs.length,by simp,zZ0 _,h0⟩,?_⟩;rintro i m σ H ⟨rfl,hi,p⟩;have q:=hl i σ H hi p
 by_cases hlt:i<xs.length
 . refine .inr ⟨⟨xs,xs[i],q,by simp [hlt]⟩,Pv (i+1),fun σ' H' p'=>⟨xs.length-(i+1),by omega,rfl,hlt,p'⟩,fun x H' y=>?_⟩;obtain⟨e,y⟩:=y;subst e;exact hs i x σ _ (y xs q) p
 . have e:i=xs.length:=by omega
   subst e;exact .inl ⟨⟨xs,q,zF0 _⟩,hd σ H p⟩
theorem wD{K:W.Frag}{a:Addr}{xs:List V}{g:TG}{tb:TS}{D:Ends}{σ:St}{H:Hp}(Pv:Nat->St->Hp->Prop)(h0:Pv 0 σ H)(hl:∀i σ H,i<=xs.length->Pv i σ H->SqT K H a xs)
 (hs:∀i x σ H,xs[i]?=some x->Pv i σ H->g x σ H fun σ2 H2=>tb { D with nx:=Pv (i+1),ct:=Pv (i+1),bk:=D.nx } σ2 H2) (hd:∀ σ H,Pv xs.length σ H->D.nx σ H) :
 ∃ W:Nat->Nat->St->Hp->Prop,(∃m,W 0 m σ H)/\∀i m σ H,W i m σ H ->
  ((Itt K a).stop i H/\D.nx σ H)∨((Itt K a).go i H/\∃N:St->Hp->Prop,(∀ σ' H',N σ' H'->∃m',m'<m/\W (i+1) m' σ' H')/\∀x H',(Itt K a).yld i H x H'->g x σ H' fun σ2 H2=>tb { D with nx:=N,ct:=N,bk:=D.nx } σ2 H2):=by
 refine⟨fun i m σ H=>m=xs.length-i/\i<=xs.length/\Pv i σ H,⟨xs.length,by simp,zZ0 _,h0⟩,?_⟩;rintro i m σ H ⟨rfl,hi,p⟩;have q:=hl i σ H hi p
 by_cases hlt:i<xs.length
 . refine .inr ⟨⟨xs,xs[i],q,by simp [hlt]⟩,Pv (i+1),fun σ' H' p'=>⟨xs.length-(i+1),by omega,rfl,hlt,p'⟩,fun x H' y=>?_⟩;obtain⟨e,y⟩:=y;subst e;exact hs i x σ _ (y xs q) p
 . have e:i=xs.length:=by omega
   subst e;exact .inl ⟨⟨xs,q,zF0 _⟩,hd σ H p⟩
theorem eB{lo:Int}{n:Nat}{g:TG}{tb:TS}{D:Ends}{σ:St}{H:Hp}(Pv:Nat->St->Hp->Prop)(h0:Pv 0 σ H)
 (hs:∀i σ H,i<n->Pv i σ H->g (.int (lo+i)) σ H fun σ2 H2=>tb { D with nx:=Pv (i+1),ct:=Pv (i+1),bk:=D.nx } σ2 H2) (hd:∀ σ H,Pv n σ H->D.nx σ H) :
 ∃ W:Nat->Nat->St->Hp->Prop,(∃m,W 0 m σ H)/\∀i m σ H,W i m σ H ->
  ((Itr lo n).stop i H/\D.nx σ H)∨((Itr lo n).go i H/\∃N:St->Hp->Prop,(∀ σ' H',N σ' H'->∃m',m'<m/\W (i+1) m' σ' H')/\∀x H',(Itr lo n).yld i H x H'->g x σ H' fun σ2 H2=>tb { D with nx:=N,ct:=N,bk:=D.nx } σ2 H2):=by
 refine⟨fun i m σ H=>m=n-i/\i<=n/\Pv i σ H,⟨n,by simp,zZ0 _,h0⟩,?_⟩;rintro i m σ H ⟨rfl,hi,p⟩
 by_cases hlt:i<n
 . refine .inr ⟨hlt,Pv (i+1),fun σ' H' p'=>⟨n-(i+1),by omega,rfl,hlt,p'⟩,fun x H' y=>?_⟩;obtain⟨e,y⟩:=y;subst e y;exact hs i σ _ hlt p
 . have e:i=n:=by omega
   subst e;exact .inl ⟨zF0 _,hd σ H p⟩
abbrev R2:=V->V->Hp->VK->Prop
def OpR(X:Cx)(f:Value->Value->Sem Value)(r:R2):Prop:=
 ∀(pins:List (Addr×Obj))(s:Shared)(σ:St)(H:Hp)(x y:V)(v u:Value)(Q:VK),Inv X pins σ H s->RelV x v->RelV y u->r x y H Q ->
  wpAny (model X.prog X.w) X.A (f v u) (EP X pins σ Q) X.xe s
def UnR(X:Cx)(f:Value->Sem Value)(r:V->Hp->VK->Prop):Prop:=
 ∀(pins:List (Addr×Obj))(s:Shared)(σ:St)(H:Hp)(x:V)(v:Value)(Q:VK),Inv X pins σ H s->RelV x v->r x H Q ->
  wpAny (model X.prog X.w) X.A (f v) (EP X pins σ Q) X.xe s
def iC(X:Cx)(f:Value)(r:List V->Hp->VK->Prop):Prop:=
 ∀(pins:List (Addr×Obj))(s:Shared)(σ:St)(H:Hp)(xs:List V)(us:List Value)(Q:VK),Inv X pins σ H s->Vals xs us->r xs H Q ->
  wpAny (model X.prog X.w) X.A (call f us) (EP X pins σ Q) X.xe s
def tOp(r:R2)(ta tb:TE):TE:=fun σ H Q=>ta σ H fun x H1=>tb σ H1 fun y H2=>r x y H2 Q
def tUn(r:V->Hp->VK->Prop)(ta:TE):TE:=fun σ H Q=>ta σ H fun x H1=>r x H1 Q
def rI(C:Int->Int->Prop)(g:Int->Int->V):R2:=fun x y H Q=>∃i j,x=.int i/\y=.int j/\C i j/\Q (g i j) H
def rI0(g:Int->Int->V):R2:=fun x y H Q=>∃i j,x=.int i/\y=.int j/\Q (g i j) H
def rU(g:Int->V):V->Hp->VK->Prop:=fun x H Q=>∃i,x=.int i/\Q (g i) H
section
variable {X:Cx} {a b c:Expr} {ta tb tc:TE} {pos:Pos}
theorem EY(ha:PE X a ta)(hb:PE X b tb){pins:List (Addr×Obj)}{s:Shared}{σ:St}{H:Hp}{R:V->V->Hp->Prop}(I:Inv X pins σ H s)
 (h:ta σ H fun x H1=>tb σ H1 fun y H2=>R x y H2) {Q:Value->Shared->Prop} {f:Value->Value->Sem Value}
 (hf:∀v u s2 x y H2,Inv X pins σ H2 s2->RelV x v->RelV y u->R x y H2->wpAny (model X.prog X.w) X.A (f v u) Q X.xe s2) :
 wpAny (model X.prog X.w) X.A (eval a X.env) (fun v s₁=>wpAny (model X.prog X.w) X.A (eval b X.env) (fun u s₂=>wpAny (model X.prog X.w) X.A (f v u) Q X.xe s₂) X.xe s₁) X.xe s:=by
 refine thn (ha pins s σ H _ I h) fun v s1 ⟨x,H1,I1,r1,q1⟩=>?_
 refine thn (hb pins s1 σ H1 _ I1 q1) fun u s2 ⟨y,H2,I2,r2,q2⟩=>?_
 exact hf v u s2 x y H2 I2 r1 r2 q2
theorem ao{op:Operator}{r:R2}(ho:OpR X (binaryOp op) r)(ha:PE X a ta)(hb:PE X b tb):PE X (.BinOp a op b pos) (tOp r ta tb):=by
 intro pins s σ H Q I h;exact wpAny_BinOp (EY ha hb I h fun v u s2 x y H2 I2 rx ry q=>ho pins s2 σ H2 x y v u Q I2 rx ry q)
theorem Ac{op:UnaryOp}{r:V->Hp->VK->Prop}(ho:UnR X (unaryOp op) r)(ha:PE X a ta):PE X (.UnaryOp op a pos) (tUn r ta):=by
 intro pins s σ H Q I h;exact UnaryOp_ (thn (ha pins s σ H _ I h) fun v s1 ⟨x,H1,I1,r1,q1⟩=>ho pins s1 σ H1 x v Q I1 r1 q1)
theorem opI{f:Value->Value->Sem Value}{C:Int->Int->Prop}{g:Int->Int->Int}
 (rule:∀(i j:Int)(t u:Tok)(s:Shared)(Q:Value->Shared->Prop)(E:Value->Shared->Prop),C i j->Q (.int (g i j) s.toks) { s with toks:=s.toks+1 }->wpAny (model X.prog X.w) X.A (f (.int i t) (.int j u)) Q E s) :
 OpR X f (rI C fun i j=>.int (g i j)):=by
 intro pins s σ H x y v u Q I rx ry h;obtain⟨i,j,rfl,rfl,hc,q⟩:=h;obtain⟨t,rfl⟩:=rx;obtain⟨t',rfl⟩:=ry;exact rule i j t t' s _ _ hc ⟨.int (g i j),H,I.tok _,⟨_,rfl⟩,q⟩
theorem opI0{f:Value->Value->Sem Value}{g:Int->Int->Int}
 (rule:∀(i j:Int)(t u:Tok)(s:Shared)(Q:Value->Shared->Prop)(E:Value->Shared->Prop),Q (.int (g i j) s.toks) { s with toks:=s.toks+1 }->wpAny (model X.prog X.w) X.A (f (.int i t) (.int j u)) Q E s) :
 OpR X f (rI0 fun i j=>.int (g i j)):=by
 intro pins s σ H x y v u Q I rx ry h;obtain⟨i,j,rfl,rfl,q⟩:=h;obtain⟨t,rfl⟩:=rx;obtain⟨t',rfl⟩:=ry;exact rule i j t t' s _ _ ⟨.int (g i j),H,I.tok _,⟨_,rfl⟩,q⟩
theorem Cr{f:Value->Value->Sem Value}{g:Int->Int->Bool}
 (rule:∀(i j:Int)(t u:Tok)(s:Shared)(Q:Value->Shared->Prop)(E:Value->Shared->Prop),Q (.bool (g i j)) s->wpAny (model X.prog X.w) X.A (f (.int i t) (.int j u)) Q E s) :
 OpR X f (rI0 fun i j=>.bl (g i j)):=by
 intro pins s σ H x y v u Q I rx ry h;obtain⟨i,j,rfl,rfl,q⟩:=h;obtain⟨t,rfl⟩:=rx;obtain⟨t',rfl⟩:=ry;exact rule i j t t' s _ _ ⟨.bl (g i j),H,I,rfl,q⟩
def CDiv(i j:Int):Prop:=0<j/\j<1073741824
def CPow(i j:Int):Prop:=0<=j/\j<=1000000/\i.natAbs<2 ^ 64
def CMul(i j:Int):Prop:=(-(2 ^ 64)<i/\i<2 ^ 64)∨(-(2 ^ 64)<j/\j<2 ^ 64)
theorem CMul.ok{i j:Int}(h:CMul i j):IntMulOk i j:=by
 rcases h with⟨h1,h2⟩ | ⟨h1,h2⟩
 . exact .of_left (intBits_le_64 h1 h2)
 . exact .of_right (intBits_le_64 h1 h2)
theorem bn:OpR X (binaryOp .Add) (rI0 fun i j=>.int (i+j)):=opI0 fun _ _ _ _ _ _ _ q=>add_int q
theorem cj:OpR X (binaryOp .Sub) (rI0 fun i j=>.int (i-j)):=opI0 fun _ _ _ _ _ _ _ q=>sub_int q
theorem cq:OpR X (binaryOp .Mult) (rI CMul fun i j=>.int (i*j)):=opI fun _ _ _ _ _ _ _ hc q=>mul_int q hc.ok
theorem wp:OpR X (binaryOp .FloorDiv) (rI CDiv fun i j=>.int (i / j)):=opI fun i j _ _ _ _ _ hc q=>by
 have h1:(0:Int)<j:=hc.1;have h2:j<1073741824:=hc.2;exact floordiv_int (by omega) (by rw[Int.fdiv_eq_ediv_of_nonneg i (by omega)];exact q) (.inl (PyProof.noPylong_small (by omega)))
theorem bh:OpR X (binaryOp .Mod) (rI (fun _ j=>0<j) fun i j=>.int (i % j)):=opI fun i j _ _ _ _ _ hc q=>by
 have h1:(0:Int)<j:=hc;exact mod_int' (by omega) (by rw[Int.fmod_eq_emod_of_nonneg i (by omega)];exact q)
theorem Ej:OpR X (binaryOp .Pow) (rI CPow fun i j=>.int (i ^ j.toNat)):=opI fun _ _ _ _ _ _ _ hc q=>pow_int_small hc.1 hc.2.1 hc.2.2 q
theorem unI{f:Value->Sem Value}{g:Int->Int}
 (rule:∀(i:Int)(t:Tok)(s:Shared)(Q:Value->Shared->Prop)(E:Value->Shared->Prop),Q (.int (g i) s.toks) { s with toks:=s.toks+1 }->wpAny (model X.prog X.w) X.A (f (.int i t)) Q E s) :
 UnR X f (rU fun i=>.int (g i)):=by
 intro pins s σ H x v Q I rx h;obtain⟨i,rfl,q⟩:=h;obtain⟨t,rfl⟩:=rx;exact rule i t s _ _ ⟨.int (g i),H,I.tok _,⟨_,rfl⟩,q⟩
theorem ua:UnR X (unaryOp .USub) (rU fun i=>.int (-i)):=unI fun _ _ _ _ _ q=>neg_int q
end
def scal:V->V->Bool
 | .non,.non=>true | .non,.int _=>true | .int _,.non=>true | .non,.bl _=>true | .bl _,.non=>true | .non,.str _=>true | .str _,.non=>true
 | .int _,.int _=>true | .bl _,.bl _=>true | .str _,.str _=>true | .byt _,.byt _=>true
 | .int _,.str _=>true | .str _,.int _=>true | .bl _,.str _=>true | .str _,.bl _=>true
 | _,_=>false
def rEq:R2:=fun x y H Q=>scal x y=true/\Q (.bl (decide (x=y))) H
def rNe:R2:=fun x y H Q=>scal x y=true/\Q (.bl (!decide (x=y))) H
theorem wN{i j:Int}:decide (V.int i=V.int j)=(i==j):=by
 rw[Bool.eq_iff_iff]
 simp
theorem Bt{i j:Bool}:decide (V.bl i=V.bl j)=(i==j):=by
 rw[Bool.eq_iff_iff]
 simp
theorem wM{i j:Str}:decide (V.str i=V.str j)=(i==j):=by
 rw[Bool.eq_iff_iff]
 simp
theorem wO{i j:Array UInt8}:decide (V.byt i=V.byt j)=(i.toList==j.toList):=by
 rw[Bool.eq_iff_iff];cases i;cases j
 simp
section
variable {X:Cx} {a b c:Expr} {ta tb tc:TE} {pos:Pos}
theorem bN{pins:List (Addr×Obj)}{σ:St}{H:Hp}{s:Shared}{Q:VK}{k k':Bool}(I:Inv X pins σ H s)(q:Q (.bl k) H)(e:k=k'):EP X pins σ Q (.bool k') s:=by
 subst e;exact⟨.bl k,H,I,rfl,q⟩
theorem bb:OpR X (compareOp .Eq) rEq:=by
 intro pins s σ H x y v u Q I rx ry h;obtain⟨hs,q⟩:=h;cases x with
 | non=>
   cases rx;cases y with
   | non=>cases ry;exact PySem.EqNone.eq_none_none (bN I q (by simp))
   | bl j=>cases ry;exact PySem.EqNone.eq_none_bool (bN I q (by simp))
   | int j=>obtain⟨t',rfl⟩:=ry;exact PySem.EqNone.eq_none_int (bN I q (by simp))
   | str j=>obtain⟨t',rfl⟩:=ry;exact PySem.EqNone.eq_none_str (bN I q (by simp))
   | _=>exact absurd (show false=true from hs) zW0
 | bl i=>
   cases rx;cases y with
   | non=>cases ry;exact PySem.EqNone.eq_bool_none (bN I q (by simp))
   | bl j=>cases ry;exact eq_bool (bN I q Bt)
   | str j=>obtain⟨t',rfl⟩:=ry;exact PySem.EqMixed.eq_bool_str (bN I q (by simp))
   | _=>exact absurd (show false=true from hs) zW0
 | int i=>
   obtain⟨t,rfl⟩:=rx;cases y with
   | non=>cases ry;exact PySem.EqNone.eq_int_none (bN I q (by simp))
   | int j=>obtain⟨t',rfl⟩:=ry;exact eq_int (bN I q wN)
   | str j=>obtain⟨t',rfl⟩:=ry;exact PySem.EqMixed.eq_int_str (bN I q (by simp))
   | _=>exact absurd (show false=true from hs) zW0
 | str i=>
   obtain⟨t,rfl⟩:=rx;cases y with
   | non=>cases ry;exact PySem.EqNone.eq_str_none (bN I q (by simp))
   | bl j=>cases ry;exact PySem.EqMixed.eq_str_bool (bN I q (by simp))
   | int j=>obtain⟨t',rfl⟩:=ry;exact PySem.EqMixed.eq_str_int (bN I q (by simp))
   | str j=>obtain⟨t',rfl⟩:=ry;exact eq_str (bN I q wM)
   | _=>exact absurd (show false=true from hs) zW0
 | byt i=>
   obtain⟨t,rfl⟩:=rx;cases y with
   | byt j=>obtain⟨t',rfl⟩:=ry;exact PySem.W.eq_bytes (bN I q wO)
   | _=>exact absurd (show false=true from hs) zW0
 | _=>cases y <;> exact absurd (show false=true from hs) zW0
theorem nZ:OpR X (compareOp .NotEq) rNe:=by
 intro pins s σ H x y v u Q I rx ry h;obtain⟨hs,q⟩:=h;cases x with
 | non=>
   cases rx;cases y with
   | non=>cases ry;exact PySem.EqNone.ne_none_none (bN I q (by simp))
   | bl j=>cases ry;exact PySem.EqNone.ne_none_bool (bN I q (by simp))
   | int j=>obtain⟨t',rfl⟩:=ry;exact PySem.EqNone.ne_none_int (bN I q (by simp))
   | str j=>obtain⟨t',rfl⟩:=ry;exact PySem.EqNone.ne_none_str (bN I q (by simp))
   | _=>exact absurd (show false=true from hs) zW0
 | bl i=>
   cases rx;cases y with
   | non=>cases ry;exact PySem.EqNone.ne_bool_none (bN I q (by simp))
   | bl j=>cases ry;exact ne_bool (bN I q (congrArg not Bt))
   | str j=>obtain⟨t',rfl⟩:=ry;exact PySem.EqMixed.ne_bool_str (bN I q (by simp))
   | _=>exact absurd (show false=true from hs) zW0
 | int i=>
   obtain⟨t,rfl⟩:=rx;cases y with
   | non=>cases ry;exact PySem.EqNone.ne_int_none (bN I q (by simp))
   | int j=>obtain⟨t',rfl⟩:=ry;exact ne_int (bN I q (congrArg not wN))
   | str j=>obtain⟨t',rfl⟩:=ry;exact PySem.EqMixed.ne_int_str (bN I q (by simp))
   | _=>exact absurd (show false=true from hs) zW0
 | str i=>
   obtain⟨t,rfl⟩:=rx;cases y with
   | non=>cases ry;exact PySem.EqNone.ne_str_none (bN I q (by simp))
   | bl j=>cases ry;exact PySem.EqMixed.ne_str_bool (bN I q (by simp))
   | int j=>obtain⟨t',rfl⟩:=ry;exact PySem.EqMixed.ne_str_int (bN I q (by simp))
   | str j=>obtain⟨t',rfl⟩:=ry;exact ne_str (bN I q (congrArg not wM))
   | _=>exact absurd (show false=true from hs) zW0
 | byt i=>
   obtain⟨t,rfl⟩:=rx;cases y with
   | byt j=>obtain⟨t',rfl⟩:=ry;exact PySem.W.ne_bytes (bN I q (congrArg not wO))
   | _=>exact absurd (show false=true from hs) zW0
 | _=>cases y <;> exact absurd (show false=true from hs) zW0
theorem iS:OpR X (compareOp .Lt) (rI0 fun i j=>.bl (decide (i<j))):=Cr fun _ _ _ _ _ _ _ q=>lt_int q
theorem sx:OpR X (compareOp .LtE) (rI0 fun i j=>.bl (decide (i<=j))):=Cr fun _ _ _ _ _ _ _ q=>le_int q
theorem oa:OpR X (compareOp .Gt) (rI0 fun i j=>.bl (decide (j<i))):=Cr fun _ _ _ _ _ _ _ q=>gt_int q
theorem Dt:OpR X (compareOp .GtE) (rI0 fun i j=>.bl (decide (j<=i))):=Cr fun _ _ _ _ _ _ _ q=>ge_int q
theorem Aj:OpR X (compareOp .Is) (fun x y H Q=>y=.non/\Q (.bl (decide (x=.non))) H):=by
 intro pins s σ H x y v u Q I rx ry h;obtain⟨rfl,q⟩:=h;cases ry;refine is_none_gen (bN I q ?_);cases x <;> first
  | (cases rx;rfl)
  | (obtain⟨t,rfl⟩:=rx;rfl)
theorem OpR.or{f:Value->Value->Sem Value}{r r':R2}(h:OpR X f r)(h':OpR X f r'):OpR X f (fun x y H Q=>r x y H Q∨r' x y H Q):=by
 intro pins s σ H x y v u Q I rx ry q;rcases q with q | q
 . exact h pins s σ H x y v u Q I rx ry q
 . exact h' pins s σ H x y v u Q I rx ry q
theorem aF(b:Expr){op:CmpOp}(h:op≠.In:=by decide)(h2:op≠.NotIn:=by decide):behindInMarks op b=false:=by
 have e1:(op==CmpOp.In)=false:=by cases op <;> first | rfl | exact absurd rfl h
 have e2:(op==CmpOp.NotIn)=false:=by cases op <;> first | rfl | exact absurd rfl h2
 cases b <;> simp [behindInMarks,e1,e2]
theorem fE{op:CmpOp}{r:R2}(ho:OpR X (compareOp op) r)(ha:PE X a ta)(hb:PE X b tb)(hm:behindInMarks op b=false):PE X (.Compare a [op] [b] pos) (tOp r ta tb):=by
 intro pins s σ H Q I h;exact wpAny_Compare1 (EY ha hb I h fun v u s2 x y H2 I2 rx ry q=>ho pins s2 σ H2 x y v u Q I2 rx ry q) hm
def Da(t:TE):TT:=fun σ H Q=>t σ H fun x H'=>∃k,x=.bl k/\Q k H'
theorem ax{op:CmpOp}{r:R2}(ho:OpR X (compareOp op) r)(ha:PE X a ta)(hb:PE X b tb)(hm:behindInMarks op b=false):PT X (.Compare a [op] [b] pos) (Da (tOp r ta tb)):=by
 intro pins s σ H Q I h;refine wpAny_isTrue_Compare1 (thn (ha pins s σ H _ I h) fun v s1 ⟨x,H1,I1,r1,q1⟩=>thn (hb pins s1 σ H1 _ I1 q1) fun u s2 ⟨y,H2,I2,r2,q2⟩=>
  thn (ho pins s2 σ H2 x y v u _ I2 r1 r2 q2) fun c s3 ⟨z,H3,I3,r3,k,e,q3⟩=>?_) hm
 subst e;cases r3;exact wpAny_truthy_bool ⟨H3,I3,q3⟩
def yX(r r':R2)(ta tb tc:TE):TE:=fun σ H Q=>ta σ H fun x H1=>tb σ H1 fun y H2=>r x y H2 fun z H3=>∃k,z=.bl k/\
 (if k=true then tc σ H3 fun w' H4=>r' y w' H4 Q else Q (.bl false) H3)
theorem Ag{op op':CmpOp}{r r':R2}(ho:OpR X (compareOp op) r)(ho':OpR X (compareOp op') r')(ha:PE X a ta)(hb:PE X b tb)(hc:PE X c tc)
 (hm:lastMarks [op,op'] [b,c]=false:=by with_unfolding_all rfl):PE X (.Compare a [op,op'] [b,c] pos) (yX r r' ta tb tc):=by
 intro pins s σ H Q I h;refine Compare_chain (thn (ha pins s σ H _ I h) fun v s1 ⟨x,H1,I1,r1,q1⟩=>chain_link (thn (hb pins s1 σ H1 _ I1 q1) fun u s2 ⟨y,H2,I2,r2,q2⟩=>
  thn (ho pins s2 σ H2 x y v u _ I2 r1 r2 q2) fun d s3 ⟨z,H3,I3,r3,k,e,q3⟩=>?_)) hm
 subst e;cases r3;refine wpAny_truthy_bool ?_;cases k with
 | false=>exact ite_ff ⟨.bl false,H3,I3,rfl,q3⟩
 | true=>exact ite_tt (chain_last (thn (hc pins s3 σ H3 _ I3 q3) fun w' s4 ⟨z',H4,I4,r4,q4⟩=>ho' pins s4 σ H4 y z' u w' Q I4 r2 r4 q4))
theorem zT{op op':CmpOp}{r r':R2}(ho:OpR X (compareOp op) r)(ho':OpR X (compareOp op') r')(ha:PE X a ta)(hb:PE X b tb)(hc:PE X c tc)
 (hm:lastMarks [op,op'] [b,c]=false:=by with_unfolding_all rfl):PT X (.Compare a [op,op'] [b,c] pos) (Da (yX r r' ta tb tc)):=by
 intro pins s σ H Q I h;refine isTrue_chain (thn (ha pins s σ H _ I h) fun v s1 ⟨x,H1,I1,r1,q1⟩=>test_link (thn (hb pins s1 σ H1 _ I1 q1) fun u s2 ⟨y,H2,I2,r2,q2⟩=>
  thn (ho pins s2 σ H2 x y v u _ I2 r1 r2 q2) fun d s3 ⟨z,H3,I3,r3,k,e,q3⟩=>?_)) hm
 subst e;cases r3;refine wpAny_truthy_bool ?_;cases k with
 | false=>
   obtain⟨k',e',q'⟩:=q3;cases e';exact ite_ff ⟨H3,I3,q'⟩
 | true=>
   refine ite_tt (test_last (thn (hc pins s3 σ H3 _ I3 q3) fun w' s4 ⟨z',H4,I4,r4,q4⟩=>thn (ho' pins s4 σ H4 y z' u w' _ I4 r2 r4 q4) fun d' s5 ⟨z2,H5,I5,r5,k2,e2,q5⟩=>?_));subst e2;cases r5;exact wpAny_truthy_bool ⟨H5,I5,q5⟩
theorem iU:(sizeLine:Nat)<2 ^ 63:=by rw[sizeLine_eq];decide
theorem og:OpR X (binaryOp .Add) (fun x y H Q=>∃i j,x=.str i/\y=.str j/\i.length+j.length<=sizeLine/\Q (.str (i++j)) H):=by
 intro pins s σ H x y v u Q I rx ry h;obtain⟨i,j,rfl,rfl,hz,q⟩:=h;obtain⟨t,rfl⟩:=rx;obtain⟨t',rfl⟩:=ry;exact add_str (fun t' tk=>⟨.str (i++j),H,I.tok _,⟨_,rfl⟩,q⟩) hz
theorem lK{x:V}{us:List Value}(r:Vals [x] us):∃u,us=[u]/\RelV x u:=by
 cases r with
 | cons r1 r2=>cases r2;exact⟨_,rfl,r1⟩
theorem vals2{x y:V}{us:List Value}(r:Vals [x,y] us):∃u w',us=[u,w']/\RelV x u/\RelV y w':=by
 cases r with
 | cons r1 r2=>
   cases r2 with
   | cons r3 r4=>cases r4;exact⟨_,_,rfl,r1,r3⟩
theorem yC:iC X (.type "int") (fun xs H Q=>(∃i,xs=[.int i]/\Q (.int i) H)∨∃k,xs=[.bl k]/\Q (.int (if k then 1 else 0)) H):=by
 intro pins s σ H xs us Q I r h;rcases h with⟨i,rfl,q⟩ | ⟨k,rfl,q⟩
 . obtain⟨u,rfl,t,rfl⟩:=lK r;exact call_int_int ⟨.int i,H,I,⟨_,rfl⟩,q⟩
 . obtain⟨u,rfl,r1⟩:=lK r;cases r1;exact call_int_bool ⟨.int (if k then 1 else 0),H,I.tok _,⟨_,rfl⟩,q⟩
end
structure ObjM(h:Heap)(x dx C:Addr)(mA:Str->Option Value):Prop where
 obj:h.get? x=some (PySem.W.instObj C dx)
 ns:h.Ns1 dx mA
 ne:dx≠x
theorem ya{h:Heap}{dx:Addr}{mA:Str->Option Value}(n:h.Ns1 dx mA):∃od,h.get? dx=some od/\∀name,PySem.W.lookIn name od=some (mA name):=by
 obtain⟨o,es,ep,ho,hd,hk,_,hm⟩:=n;refine⟨o,ho,fun name=>?_⟩;have e:=hm name;unfold nsFind findBy at e;rw[←Array.find?_toList]at e;unfold PySem.W.lookIn;rw[hd]
 dsimp only
 split
 . rename_i y q;rw[q]at e;exact congrArg some e
 . rename_i q;rw[q]at e;have a:es.toList.any (·.refKey)=false:=by
    rw[List.any_eq_false];intro y hy;obtain⟨z,t,hkey⟩:=hk y (Array.mem_toList_iff.mp hy)
    simp [DictEntry.refKey,hkey]
   have a':¬ es.toList.any (·.refKey)=true:=by rw[a];exact zW0
   rw[zA0 a'];exact congrArg some e
theorem ObjM.look{h:Heap}{x dx C:Addr}{mA:Str->Option Value}(I:ObjM h x dx C mA):∃od,PySem.W.InstAt h x (PySem.W.instObj C dx) C (some od)/\∀name,PySem.W.lookIn name od=some (mA name):=
 let⟨od,ho,hl⟩:=ya I.ns
 ⟨od,⟨I.obj,rfl,rfl,ho⟩,hl⟩
section
variable {prog:Program} {w:World} {A:Around} {E:Value->Shared->Prop} {s:Shared} {K:W.Frag} {x dx C f:Addr} {mA:Str->Option Value} {name:Str} {v:Value}
theorem CL{expr:Bool}{Q:Value->Shared->Prop}(X:K.In s.heap)(I:ObjM s.heap x dx C mA)(hg:PySem.W.plainGet K C name=true)(hh:PySem.W.hasDictIn K C=true)
 (ha:PySem.W.findIn K (.ref C) name=some none) (hv:mA name=some v) (hv':PySem.W.handedIn v=true) (h:Q v { s with toks:=s.toks+1 }) :
 wpAny (model prog w) A (getAttr (.ref x) name expr) Q E s:=by
 obtain⟨od,J,hl⟩:=I.look;exact PySem.W.get_value X J (PySem.W.plainGet_of hg).1 (PySem.W.findObj_own hh ha rfl (by rw[hl,hv])) hv' h
theorem Bd{pl:Sem Bool}{Q:Value×List Value->Shared->Prop}(X:K.In s.heap)(I:ObjM s.heap x dx C mA)(hg:PySem.W.plainGet K C name=true)
 (hf:PySem.W.findIn K (.ref C) name=some (some (.ref f))) (ht:PySem.W.isFn K (.ref f)=true) (hv:mA name=none) (h:Q (.ref f,[.ref x]) s) :
 wpAny (model prog w) A (getMethod (.ref x) name pl) Q E s:=by
 obtain⟨od,J,hl⟩:=I.look;exact PySem.W.method_fn X J (PySem.W.plainGet_of hg).1 (PySem.W.plainGet_of hg).2 hf (beq_iff_eq.mp ht) (by show(PySem.W.lookIn name od).map (·.isSome)=some false;rw[hl,hv];rfl) h
theorem BV{ns:List Str}{Q:Unit->Shared->Prop}(X:K.In s.heap)(I:ObjM s.heap x dx C mA)
 (hs:PySem.W.findIn K (.ref C) "__setattr__"=some (some (.builtin "object.__setattr__"))) (hp:PySem.W.plainOver K C=true) (ht:PySem.W.takerIn K C name=some none) (hh:PySem.W.hasDictIn K C=true)
 (hw:PySem.Within mA ns) (hsz:ns.length<=sizeLine)
 (h:∀h',ObjM h' x dx C (fun y=>if y=name then some v else mA y)->Heap.SameBut dx s.heap h'->Q () { s with heap:=h',toks:=s.toks+2 }) :
 wpAny (model prog w) A (setAttr (.ref x) name v) Q E s:=by
 obtain⟨od,J,hl⟩:=I.look;refine PySem.W.set_plain X J hs (PySem.W.osa_open (s:={ s with toks:=s.toks+1 }) (r:=none) X J hp ht fun b=>?_);obtain⟨cd,hc,hd'⟩:=PySem.W.any_some hh;have hx:s.heap.get? x=some ⟨.ref C,some dx,.plain,#[]⟩:=I.obj;refine zC0 (zH0 (zC0 (zC0 (wpAny_loadPart hx (zC0 (PySem.W.Looks.here (s:={ s with toks:=s.toks+1 }) (PySem.W.looks_clsIn X hc) ?_))))));rw[hd'];refine zH0 (a:=some dx) (zC0 (zH0 (zC0 ?_)));refine wpAny_nsSet1 (s:={ s with toks:=s.toks+1 }) I.ns fun h' hn2 hs2=>?_
 obtain⟨oD,esD,epD,hoD,hdD,hcD⟩:=hn2.count (PySem.Within.cons name v hw);refine zC0 (wpAny_lookBehind hoD (by rw[hdD];exact pastItsLine_dict (qB0 hcD (by rw[qC0];omega))) ?_);exact zH0 (h _ ⟨(hs2.2 _ (Ne.symm I.ne)).trans I.obj,hn2,I.ne⟩ hs2)
theorem AM{R:Result->Shared->Prop}{vs:List Value}{kw:List (Str×Value)}(X:K.In s.heap)(hm:PySem.W.makesIn K C=true)
 (hi:PySem.W.findIn K (.ref C) "__init__"=some (some (.ref f))) (hf:PySem.W.typeIn K (.ref f)=some (.type "function"))
 (h:codeAny (model prog w) (A.under (.builtin "type.__call__" ⟨.ref C::vs,kw⟩)) (.call (.ref f) ⟨.ref (s.heap.objs.size+1)::vs,kw⟩) (PySem.W.InitBack (s.heap.objs.size+1) R)
  { s with heap:=(s.heap.push PySem.W.emptyDict).push (PySem.W.instObj C s.heap.objs.size) }) :
 codeAny (model prog w) A (.call (.ref C) ⟨vs,kw⟩) R s:=by
 obtain⟨hh,g,d,t,os⟩:=s;exact PySem.W.make_core (PySem.W.makes_of X hm) (PySem.W.looks_findIn X hi) (fun self=>PySem.W.bind_fn X self hf) (.inl rfl) h
end
def bK(f:Str)(v:V):List (Str×V)->List (Str×V)
 | []=>[(f,v)]
 | (g,x)::r=>if g=f then(g,v)::r else(g,x)::bK f v r
theorem aZ(f g:Str)(v:V):∀fs:List (Str×V),(bK f v fs).lookup g=if g=f then some v else fs.lookup g
 | []=>by
   show List.lookup g [(f,v)]=_
   by_cases h:g=f
   . have hb:(g==f)=true:=beq_iff_eq.mpr h;simp only[List.lookup,hb,zB0 h]
   . have hb:(g==f)=false:=beq_eq_false_iff_ne.mpr h;simp only[List.lookup,hb,zA0 h]
 | (k,x)::r=>by
   have ih:=aZ f g v r;rw[show bK f v ((k,x)::r)=(if k=f then(k,v)::r else(k,x)::bK f v r)from rfl]
   by_cases hk:k=f
   . rw [zB0 hk]
     by_cases h:g=k
     . have hb:(g==k)=true:=beq_iff_eq.mpr h;simp only[List.lookup,hb,zB0 (h.trans hk)]
     . have hb:(g==k)=false:=beq_eq_false_iff_ne.mpr h;simp only[List.lookup,hb,zA0 (fun e:g=f=>h (e.trans hk.symm))]
   . rw [zA0 hk]
     by_cases h:g=k
     . have hb:(g==k)=true:=beq_iff_eq.mpr h;simp only[List.lookup,hb,zA0 (fun e:g=f=>hk (h.symm.trans e))]
     . have hb:(g==k)=false:=beq_eq_false_iff_ne.mpr h;simp only[List.lookup,hb];exact ih
theorem lB(f:Str)(v:V):∀fs:List (Str×V),f∈(bK f v fs).map (·.1)/\∀g,g∈fs.map (·.1)->g∈(bK f v fs).map (·.1)
 | []=>⟨by simp [bK],fun g h=>by simp at h⟩
 | (k,x)::r=>by
   obtain⟨i1,i2⟩:=lB f v r;rw[show bK f v ((k,x)::r)=(if k=f then(k,v)::r else(k,x)::bK f v r)from rfl]
   by_cases hk:k=f
   . rw[zB0 hk];subst hk;exact⟨by simp,fun g h=>by simpa using h⟩
   . rw [zA0 hk];refine⟨?_,fun g h=>?_⟩
     . rw[zS0];exact qF0 _ i1
     . rw [zS0]at h ⊢;rcases qD0 h with e | e
       . exact List.mem_cons.mpr (.inl e)
       . exact qF0 _ (i2 g e)
theorem lX(f:Str)(v:V):∀fs:List (Str×V),(bK f v fs).length<=fs.length+1
 | []=>by simp [bK]
 | (k,x)::r=>by
   have ih:=lX f v r;rw[show bK f v ((k,x)::r)=(if k=f then(k,v)::r else(k,x)::bK f v r)from rfl]
   by_cases hk:k=f
   . rw[zB0 hk,qC0,qC0];omega
   . rw[zA0 hk,qC0,qC0];omega
theorem RelO.some_of{v:V}{o:Option Value}(r:RelO (some v) o):∃u,o=some u/\RelV v u:=by
 cases o with
 | none=>exact(show False from r).elim
 | some u=>exact⟨u,rfl,r⟩
theorem RelO.none_of{o:Option Value}(r:RelO none o):o=none:=by
 cases o with
 | none=>rfl
 | some u=>exact(show False from r).elim
theorem pQ{v:V}{u:Value}(r:RelV v u):PySem.W.handedIn u=true:=by
 cases v with
 | non=>cases(show u=Value.none from r);rfl
 | bl b=>cases(show u=Value.bool b from r);rfl
 | int i=>obtain⟨t,e⟩:=(show ∃t,u=Value.int i t from r);cases e;rfl
 | str x=>obtain⟨t,e⟩:=(show ∃t,u=Value.str x t from r);cases e;rfl
 | byt b=>obtain⟨t,e⟩:=(show ∃t,u=Value.bytes b t from r);cases e;rfl
 | flt b=>obtain⟨t,e⟩:=(show ∃t,u=Value.float b t from r);cases e;rfl
 | ref a=>cases(show u=Value.ref a from r);rfl
 | ty n=>cases(show u=Value.type n from r);rfl
section
variable {P:Program} {w:World} {H H':Hp} {h h':Heap} {a C dx:Addr} {fs fs':List (Str×V)}
theorem mE(hok:HOk P w H h)(e:H a=some (.ins C dx fs)):∃mA,ObjM h a dx C mA/\(∀f,RelO (fs.lookup f) (mA f))/\PySem.Within mA (fs.map (·.1))/\fs.length<=1000/\H dx=some (.own a):=by
 obtain⟨d,z,ne,ob,mA,n,r,q⟩:=(show ObjOk P w H h a (.ins C dx fs)from hok a _ e)
 exact⟨mA,⟨ob,n,ne⟩,r,q,z,d⟩
end
structure Cls(K:W.Frag)(C:Addr):Prop where
 pg:PySem.W.plainGet K C Str.empty=true
 hd:PySem.W.hasDictIn K C=true
 po:PySem.W.plainOver K C=true
 sa:PySem.W.findIn K (.ref C) "__setattr__"=some (some (.builtin "object.__setattr__"))
theorem Cls.get{K:W.Frag}{C:Addr}(c:Cls K C)(f:Str):PySem.W.plainGet K C f=true:=c.pg
def NoAttr(K:W.Frag)(C:Addr)(f:Str):Prop:=PySem.W.findIn K (.ref C) f=some none
theorem NoAttr.taker{K:W.Frag}{C:Addr}{f:Str}(n:NoAttr K C f):PySem.W.takerIn K C f=some none:=by
 unfold PySem.W.takerIn;rw[show PySem.W.findIn K (.ref C) f=some none from n];rfl
structure Meth(K:W.Frag)(C:Addr)(m:Str)(f:Addr):Prop where
 at_:PySem.W.findIn K (.ref C) m=some (some (.ref f))
 fn:PySem.W.isFn K (.ref f)=true
 kp:PySem.W.keepIn K (.ref f)=true
section
variable {X:Cx} {pins:List (Addr×Obj)} {σ:St} {H:Hp} {s:Shared} {a C dx:Addr} {fs:List (Str×V)} {f:Str} {v:V} {A:Around} {E:Value->Shared->Prop}
theorem vk{b:Bool}{Q:Value->Shared->Prop}(I:Inv X pins σ H s)(e:H a=some (.ins C dx fs))(c:Cls X.K C)(n:NoAttr X.K C f)(l:fs.lookup f=some v)
 (h:∀u s',Inv X pins σ H s'->RelV v u->Q u s'):wpAny (model X.prog X.w) A (getAttr (.ref a) f b) Q E s:=by
 obtain⟨mA,O,r,_,_,_⟩:=mE I.hok e;obtain⟨u,hu,ru⟩:=RelO.some_of (v:=v) (o:=mA f) (by rw[←l];exact r f);exact CL I.kIn O (c.get f) c.hd n hu (pQ ru) (h u _ (I.tok _) ru)
theorem oB{m:Str}{g:Addr}{pl:Sem Bool}{Q:Value×List Value->Shared->Prop}(I:Inv X pins σ H s)(e:H a=some (.ins C dx fs))(c:Cls X.K C)(k:Meth X.K C m g)(l:fs.lookup m=none)
 (h:Q (.ref g,[.ref a]) s):wpAny (model X.prog X.w) A (getMethod (.ref a) m pl) Q E s:=by
 obtain⟨mA,O,r,_,_,_⟩:=mE I.hok e;have hn:mA m=none:=RelO.none_of (by rw[←l];exact r m);exact Bd I.kIn O (c.get m) k.at_ k.fn hn h
theorem uo{y:V}{u:Value}{Q:Unit->Shared->Prop}(I:Inv X pins σ H s)(e:H a=some (.ins C dx fs))(c:Cls X.K C)(n:NoAttr X.K C f)(hl:fs.length<1000)(ry:RelV y u)
 (h:∀s',Inv X pins σ (upd H a (.ins C dx (bK f y fs))) s'->Q () s'):wpAny (model X.prog X.w) A (setAttr (.ref a) f u) Q E s:=by
 obtain⟨mA,O,r,wi,_,ho⟩:=mE I.hok e;have hz:(fs.map (·.1)).length<=sizeLine:=by rw[zG0,sizeLine_eq];omega
 refine BV I.kIn O c.sa c.po n.taker c.hd wi hz fun h' O' sb=>h _ ?_
 have hd:∃o,h'.get? dx=some o:=let⟨o,_,_,e',_⟩:=O'.ns;⟨o,e'⟩
 refine I.write (x:=a) (e:=dx) (by rw[e];exact True.intro) (.inr ho) (fun b q hb z=>(sb.2 b hb).trans z) hd ?_;refine⟨by rw[aq O.ne];exact ho,?_,O.ne,O'.obj,_,O'.ns,fun g=>?_,fun g hg=>?_⟩
 . have:=lX f y fs;omega
 . show RelO ((bK f y fs).lookup g) (if g=f then some u else mA g);rw[aZ]
   by_cases q:g=f
   . rw[zB0 q,zB0 q];exact ry
   . rw[zA0 q,zA0 q];exact r g
 . by_cases q:g=f
   . rw[q];exact(lB f y fs).1
   . refine(lB f y fs).2 g (wi g fun z=>hg ?_);show(if g=f then some u else mA g)=none;rw[zA0 q];exact z
theorem Inv.made(I:Inv X pins σ H s):Inv X pins σ (upd (upd H s.heap.objs.size (.own (s.heap.objs.size+1))) (s.heap.objs.size+1) (.ins C s.heap.objs.size []))
 { s with heap:=(s.heap.push PySem.W.emptyDict).push (PySem.W.instObj C s.heap.objs.size) }:=by
 have e1:(s.heap.push PySem.W.emptyDict).get? s.heap.objs.size=some PySem.W.emptyDict:=zV0 s.heap rfl;have e2:((s.heap.push PySem.W.emptyDict).push (PySem.W.instObj C s.heap.objs.size)).get? (s.heap.objs.size+1)=some (PySem.W.instObj C s.heap.objs.size):=by
  have:=zV0 (s.heap.push PySem.W.emptyDict) (o:=PySem.W.instObj C s.heap.objs.size) rfl
  rwa [Heap.size_push]at this
 have e3:(s.heap.push PySem.W.emptyDict).Ns s.heap.objs.size (fun _=>none):=⟨PySem.W.emptyDict,#[],_,e1,rfl,(fun e he=>absurd he (by simp)),fun _=>rfl⟩
 have I1:=I.laid (a:=s.heap.objs.size) (o:=.own (s.heap.objs.size+1)) (h':=s.heap.push PySem.W.emptyDict) (t':=s.toks) (fun b u q=>zJ0 _ q) (zF0 _) ⟨_,e1⟩;refine I1.laid (a:=s.heap.objs.size+1) (o:=.ins C s.heap.objs.size []) (t':=s.toks) (fun b u q=>zJ0 _ q) (Nat.le_of_eq (Heap.size_push _ _)) ?_;have ne:s.heap.objs.size≠s.heap.objs.size+1:=zQ0 (Nat.lt_succ_self _);refine⟨by rw[aq ne,am],zZ0 _,ne,e2,fun _=>none,(Heap.Ns1.of_empty e3).at fun o q=>zJ0 _ q,fun _=>True.intro,fun y hy=>absurd rfl hy⟩
theorem wR{prog:Program}{w:World}{env:Env}{e:Expr}{f:Str}{pos:Pos}{s:Shared}{Q:Value->Shared->Prop}(hb:attributeBase e f env (eval e env)=eval e env)
 (h:wpAny (model prog w) A (eval e env) (fun o s₁=>wpAny (model prog w) A (getAttr o f true) Q E s₁) E s):wpAny (model prog w) A (eval (.Attribute e f pos) env) Q E s:=
 Attribute_any_ h (by rw[arm_eval_Attribute,hb])
end
def tFld(K:W.Frag)(ta:TE)(f:Str):TE:=fun σ H Q=>ta σ H fun x H1=>∃a C dx fs v,x=.ref a/\H1 a=some (.ins C dx fs)/\Cls K C/\NoAttr K C f/\fs.lookup f=some v/\Q v H1
def sFld(K:W.Frag)(ta tv:TE)(f:Str):TS:=fun D σ H=>tv σ H fun y H1=>ta σ H1 fun x H2=>∃a C dx fs,x=.ref a/\H2 a=some (.ins C dx fs)/\Cls K C/\NoAttr K C f/\fs.length<1000/\
 D.nx σ (upd H2 a (.ins C dx (bK f y fs)))
section
variable {X:Cx} {o e value:Expr} {f:Str} {pos pos' tpos:Pos} {ta tv:TE}
theorem au(he:PE X e ta)(hb:attributeBase e f X.env (eval e X.env)=eval e X.env):PE X (.Attribute e f pos) (tFld X.K ta f):=by
 intro pins s σ H Q I h;refine wR hb (thn (he pins s σ H _ I h) fun u s1 ⟨x,H1,I1,rx,a,C,dx,fs,v,ex,ea,c,n,l,q⟩=>?_);subst ex;obtain rfl:u=Value.ref a:=rx;exact vk I1 ea c n l fun u' s2 I2 ru=>⟨v,H1,I2,ru,q⟩
theorem aX(ha:PE X o ta)(hv:PE X value tv)(hs:swapsWith value (some (.Attribute o f pos')) pos.line X.env=pure false):PS X (.Assign [.Attribute o f pos'] value pos) (sFld X.K ta tv f):=by
 intro pins s σ H D I h;refine plainObj_wpAny_Assign_Attribute (thn (hv pins s σ H _ I h) fun u s1 ⟨y,H1,I1,ry,q⟩=>thn (ha pins s1 σ H1 _ I1 q) fun ov s2 ⟨x,H2,I2,rx,a,C,dx,fs,ex,ea,c,n,l,q2⟩=>?_) hs;subst ex;obtain rfl:ov=Value.ref a:=rx;exact uo I2 ea c n l ry fun s3 I3=>⟨σ,_,I3,q2⟩
end
section
variable {X:Cx} {pins:List (Addr×Obj)} {σ:St} {H:Hp} {s:Shared} {A:Around} {E:Value->Shared->Prop} {Q:Value->Shared->Prop} {c:Value} {b:Bool}
inductive TyOf(K:W.Frag)(H:Hp):V->Value->Prop where
 | non:TyOf K H .non (.type "NoneType")
 | bl (x:Bool):TyOf K H (.bl x) (.type "bool")
 | int (i:Int):TyOf K H (.int i) (.type "int")
 | str (x:Str):TyOf K H (.str x) (.type "str")
 | flt (x:UInt64):TyOf K H (.flt x) (.type "float")
 | lst {a:Addr} {xs:List V} (e:H a=some (.lst xs)):TyOf K H (.ref a) (.type "list")
 | frz {a:Addr} {o:Obj} {xs:List V} (e:H a=some (.frz o (.lst xs))):TyOf K H (.ref a) (.type "list")
 | tup {a:Addr} {xs:List V} (e:H a=some (.tup xs)):TyOf K H (.ref a) (.type "tuple")
 | dK {a:Addr} {kvs:List (Key×V)} (e:H a=some (.dK kvs)):TyOf K H (.ref a) (.type "dict")
 | dT {a:Addr} {kvs:List (List Key×V)} (e:H a=some (.dT kvs)):TyOf K H (.ref a) (.type "dict")
 | ins {a C dx:Addr} {fs:List (Str×V)} (e:H a=some (.ins C dx fs)) (cl:Cls K C) (ha:PySem.W.findIn K (.ref C) "__class__"=some (some (.builtin "object.__class__")))
  (hn:PySem.W.specialIn K (.builtin "object.__class__") "__get__"=some (some (.builtin "getset_descriptor.__get__"))) (htk:PySem.W.takesIn K (.builtin "object.__class__")=some true)
  (hm:PySem.W.mroIn K C (.type "object")=some true):TyOf K H (.ref a) (.ref C)
theorem yk{x:V}{u t:Value}(I:Inv X pins σ H s)(rx:RelV x u)(ty:TyOf X.K H x t)(e:PySem.W.kitOne X.K t c=some b)(h:∀tk,Q (.bool b) { s with toks:=tk }) :
 wpAny (model X.prog X.w) A (call (.builtin "isinstance") [u,c]) Q E s:=by
 cases ty with
 | non=>cases(show u=Value.none from rx);exact PySem.W.kia_one PySem.W.kitx_none I.kIn True.intro e (fun z=>nomatch z) h
 | bl y=>cases(show u=Value.bool y from rx);exact PySem.W.kia_one PySem.W.kitx_bool I.kIn True.intro e (fun z=>nomatch z) h
 | int i=>obtain⟨t,q⟩:=(show ∃t,u=Value.int i t from rx);cases q;exact PySem.W.kia_one PySem.W.kitx_int I.kIn True.intro e (fun z=>nomatch z) h
 | str y=>obtain⟨t,q⟩:=(show ∃t,u=Value.str y t from rx);cases q;exact PySem.W.kia_one PySem.W.kitx_str I.kIn True.intro e (fun z=>nomatch z) h
 | flt y=>obtain⟨t,q⟩:=(show ∃t,u=Value.float y t from rx);cases q;exact PySem.W.kia_one PySem.W.kitx_float I.kIn True.intro e (fun z=>nomatch z) h
 | @lst a xs ea=>
   cases(show u=Value.ref a from rx);obtain⟨_,_,n,_,h1⟩:=(show ObjOk X.prog X.w H s.heap a (.lst xs)from I.hok a _ ea)
   exact PySem.W.kia_one PySem.W.kitx_list I.kIn ⟨_,h1,rfl⟩ e (fun z=>nomatch z) h
 | @frz a ob xs ea=>
   cases(show u=Value.ref a from rx);obtain⟨_,_,_,n,_,h1⟩:=(show ObjOk X.prog X.w H s.heap a (.frz ob (.lst xs))from I.hok a _ ea)
   exact PySem.W.kia_one PySem.W.kitx_list I.kIn ⟨_,h1,rfl⟩ e (fun z=>nomatch z) h
 | @tup a xs ea=>
   cases(show u=Value.ref a from rx);obtain⟨_,_,_,p,_⟩:=(show ObjOk X.prog X.w H s.heap a (.tup xs)from I.hok a _ ea)
   obtain⟨o,h1,h2,_⟩:=p;exact PySem.W.kia_one PySem.W.kitx_tuple I.kIn ⟨o,h1,h2⟩ e (fun z=>nomatch z) h
 | @dK a kvs ea=>
   cases(show u=Value.ref a from rx);obtain⟨_,_,vs,_,p⟩:=(show ObjOk X.prog X.w H s.heap a (.dK kvs)from I.hok a _ ea)
   obtain⟨o,es,ep,h1,h2,_⟩:=p;exact PySem.W.kia_one PySem.W.kitx_dict I.kIn ⟨o,h1,h2.1⟩ e (fun z=>nomatch z) h
 | @dT a kvs ea=>
   cases(show u=Value.ref a from rx);obtain⟨_,_,xs,_,o,es,ep,h1,h2,_⟩:=(show ObjOk X.prog X.w H s.heap a (.dT kvs)from I.hok a _ ea)
   exact PySem.W.kia_one PySem.W.kitx_dict I.kIn ⟨o,h1,h2.1⟩ e (fun z=>nomatch z) h
 | @ins a C dx fs ea cl ha hn htk hm=>
   cases(show u=Value.ref a from rx);obtain⟨mA,O,_⟩:=mE I.hok ea;obtain⟨od,J,_⟩:=O.look;exact PySem.W.kia_one (PySem.W.kitx_own (cl.get _) cl.hd ha hn htk hm) I.kIn J e (fun z=>nomatch z) h
end
structure Room(k:Nat)(A:Around):Prop where
 hd:A.handled=none
 dp:A.depth+3*k+5<recursionLimit
 un:A.units+16*k+200<cLine
theorem Room.mono{j k:Nat}{A:Around}(r:Room k A)(h:j<=k):Room j A:=⟨r.hd,by have:=r.dp;omega,by have:=r.un;omega⟩
theorem Room.deeper{k:Nat}{A:Around}(r:Room (k+1) A)(env:Env):Room k (A.deeper env):=
 ⟨r.hd,by have:=r.dp;show A.depth+1+3*k+5<_;omega,by have:=r.un;show A.units+3+16*k+200<_;omega⟩
theorem uZ {A:Around} {C:Addr} {us:List Value} {kw:List (Str×Value)}:(A.under (.builtin "type.__call__" ⟨.ref C::us,kw⟩)).depth=A.depth+1:=by
 first | rfl | simp [Around.under,Code.weight,Code.isCreation,Code.isGuard,Code.isCaller,Code.frames,Code.isFrame,guardIds]
theorem uY {A:Around} {C:Addr} {us:List Value} {kw:List (Str×Value)}:(A.under (.builtin "type.__call__" ⟨.ref C::us,kw⟩)).units=A.units+1:=by
 first | rfl | simp [Around.under,Code.cUnits,Code.frames,Code.isFrame]
theorem Room.make {k:Nat} {A:Around} (r:Room (k+1) A) (C:Addr) (us:List Value) (kw:List (Str×Value)):Room k (A.under (.builtin "type.__call__" ⟨.ref C::us,kw⟩)):=
 ⟨r.hd,by have:=r.dp;rw[uZ];omega,by have:=r.un;rw[uY];omega⟩
theorem Room.depth{k:Nat}{A:Around}(r:Room k A):A.depth<recursionLimit:=by have:=r.dp;omega
theorem Room.units{k:Nat}{A:Around}(r:Room k A):A.units+64<cLine:=by have:=r.un;omega
def uh:TA:=fun _ H Q=>Q [] H
def iE(ta:TE)(tr:TA):TA:=fun σ H Q=>ta σ H fun x H1=>tr σ H1 fun xs H2=>Q (x::xs) H2
section
variable {X:Cx} {e:Expr} {es:List Expr} {te:TE} {t:TA} {pos:Pos}
theorem ae:PA X [] uh:=fun _ _ _ _ H Q I h=>Calls.spliced_nil ⟨[],H,I,.nil,h⟩
theorem aa(ha:PE X e te)(hr:PA X es t)(hs:starEach (e::es) X.env=(false,eval e X.env)::starEach es X.env:=by rfl):PA X (e::es) (iE te t):=by
 intro pos pins s σ H Q I h;rw[hs];show wpAny _ _ (spliced ((false,eval e X.env)::backTo pos (starEach es X.env))) _ _ s;refine Calls.spliced_cons (thn (ha pins s σ H _ I h) fun u s1 ⟨x,H1,I1,r1,q1⟩=>?_);exact thn (hr pos pins s1 σ H1 _ I1 q1) fun us s2 ⟨xs,H2,I2,r2,q2⟩=>⟨x::xs,H2,I2,.cons r1 r2,q2⟩
def ug(t:TA):TE:=fun σ H Q=>t σ H fun xs H1=>xs.length<=sizeLine/\∀p,H1 p=none->Q (.ref p) (upd H1 p (.tup xs))
def tLst(t:TA):TE:=fun σ H Q=>t σ H fun xs H1=>xs.length<=sizeLine/\∀p,H1 p=none->Q (.ref p) (upd H1 p (.lst xs))
theorem bE{x1}(h:PA X es t):PE X (.Tuple es x1 pos) (ug t):=by
 intro pins s σ H Q I hq;refine wpAny_Tuple_spliced (thn (h pos pins s σ H _ I hq) fun us s1 ⟨xs,H1,I1,r,z,q⟩=>⟨by rw[←r.length];exact z,?_⟩);have hf:H1 s1.heap.objs.size=none:=I1.hok.fresh (zF0 _);refine⟨.ref s1.heap.objs.size,upd H1 s1.heap.objs.size (.tup xs),I1.laid (t':=s1.toks) (fun b u e=>zJ0 _ e) (zF0 _) ?_,rfl,q _ hf⟩;exact⟨z,us,r,⟨_,zV0 _ rfl,rfl,_,rfl⟩,_,zV0 _ rfl,rfl⟩
theorem da(h:PA X es t):PE X (.List es pos) (tLst t):=by
 intro pins s σ H Q I hq;refine wpAny_List_spliced (thn (h pos pins s σ H _ I hq) fun us s1 ⟨xs,H1,I1,r,z,q⟩=>⟨by rw[←r.length];exact z,?_⟩);have hf:H1 s1.heap.objs.size=none:=I1.hok.fresh (zF0 _);refine⟨.ref s1.heap.objs.size,upd H1 s1.heap.objs.size (.lst xs),I1.laid (t':=s1.toks) (fun b u e=>zJ0 _ e) (zF0 _) ?_,rfl,q _ hf⟩;exact⟨z,us,0,r,zV0 _ rfl⟩
end
abbrev Sp:=List V->Hp->VK->XK->Prop
abbrev CXT:=List Env->Hp->Shared->XK->Value->Shared->Prop
structure Env0(P:Program)(w:World)(K:W.Frag)(mg:Str->Option Value)(base:Heap)(A:Around)(outer:List Env)(s:Shared)(H:Hp):Prop where
 frames:A.frames=some outer
 mod:Mod K mg base
 bs:∀b o,base.get? b=some o->s.heap.get? b=some o/\H b=none
 bsz:base.objs.size<=s.heap.objs.size
 funs:s.heap.FunFrames base outer
 frf:∀b∈frs outer,H b=none
 hok:HOk P w H s.heap
 bare:AllBare s.gens
def CE(outer:List Env)(P:Program)(w:World)(H:Hp)(s:Shared)(Q:VK)(u:Value)(s':Shared):Prop:=
 ∃v H',s'.os=s.os/\AllBare s'.gens/\Un (frs outer) [] H H' s.heap s'.heap/\HOk P w H' s'.heap/\RelV v u/\Q v H'
def CR(CX:CXT)(outer:List Env)(P:Program)(w:World)(H:Hp)(s:Shared)(Q:VK)(E:XK)(r:Result)(s':Shared):Prop:=
 match r with
 | .ok (.ret u)=>CE outer P w H s Q u s'
 | .ok _=>False
 | .error e=>CX outer H s E e s'
structure FnOk(P:Program)(w:World)(K:W.Frag)(mg:Str->Option Value)(base:Heap)(CX:CXT)(k:Nat)(f:Addr)(fd:FuncData)(ps:List Str)(sp:Sp):Prop where
 len:∀vs H Q E,sp vs H Q E->vs.length=ps.length
 run:∀(A:Around)(outer:List Env)(s:Shared)(H:Hp)(args:Args)(us:List Value)(vs:List V)(Q:VK)(E:XK),Room k A->Env0 P w K mg base A outer s H->BindsTo s fd args (ps.zip us)->Vals vs us->sp vs H Q E ->
  codeAny (model P w) A (.call (.ref f) args) (CR CX outer P w H s Q E) s
theorem Env0.make{P:Program}{w:World}{K:W.Frag}{mg:Str->Option Value}{base:Heap}{A:Around}{outer:List Env}{s:Shared}{H:Hp}(e:Env0 P w K mg base A outer s H)(C:Addr)(us:List Value)(kw:List (Str×Value)) :
 Env0 P w K mg base (A.under (.builtin "type.__call__" ⟨.ref C::us,kw⟩)) outer s H:=⟨by first | exact e.frames | (simpa [Around.under,Code.envs,Code.isFrame,pushEnvs]using e.frames),e.mod,e.bs,e.bsz,e.funs,e.frf,e.hok,e.bare⟩
section
variable {X:Cx} {pins:List (Addr×Obj)} {σ:St} {H:Hp} {s s':Shared}
theorem Inv.env0(I:Inv X pins σ H s):Env0 X.prog X.w X.K X.mg X.base X.A X.stack s H:=
 ⟨I.ok.frames,I.ok.mod,I.bs,qB0 I.ok.bsz I.sz,I.stack,I.stkFree,I.hok,I.bare⟩
theorem Inv.after{Q:VK}{u:Value}(I:Inv X pins σ H s)(h:CE X.stack X.prog X.w H s Q u s'):EP X pins σ Q u s':=by
 obtain⟨v,H',os,bare,un,hok,r,q⟩:=h;obtain⟨hh,g,d,t,os'⟩:=s';obtain rfl:os'=s.os:=os;exact⟨v,H',I.call (h':=hh) (g':=g) (d':=d) (t':=t) (ch:=[]) un hok bare (fun b z=>absurd z (by simp)),r,q⟩
end
def lL(sp:Sp)(dvs:List V)(E:XK)(t:TA):TE:=fun σ H Q=>t σ H fun vs H1=>sp (vs++dvs) H1 Q E
def Dd(C:Addr)(m:Str)(sp:Sp)(dvs:List V)(E:XK)(ta:TE)(t:TA):TE:=fun σ H Q=>ta σ H fun x H1=>∃a dx fs,x=.ref a/\H1 a=some (.ins C dx fs)/\fs.lookup m=none/\
 t σ H1 fun vs H2=>sp (x::(vs++dvs)) H2 Q E
def De(C:Addr)(sp:Sp)(dvs:List V)(E:XK)(t:TA):TE:=fun σ H Q=>t σ H fun vs H1=>∀x dx,H1 x=none->H1 dx=none->dx≠x ->
 sp (.ref x::(vs++dvs)) (upd (upd H1 dx (.own x)) x (.ins C dx [])) (fun v H2=>v=.non/\Q (.ref x) H2) E
def Binds(K:W.Frag)(fd:FuncData)(ps:List Str)(ds:List Value):Prop:=
 ∀(s:Shared)(us:List Value),K.In s.heap->(us++ds).length=ps.length->BindsTo s fd ⟨us,[]⟩ (ps.zip (us++ds))
theorem Binds.all{K:W.Frag}{fd:FuncData}{ps:List Str}(h:∀us:List Value,us.length=ps.length->bindArgs fd ⟨us,[]⟩=pure (ps.zip us)):Binds K fd ps []:=fun s us _ hl=>by
 rw[List.append_nil]at hl ⊢;exact .of_eq (h us hl)
def fo(CX:CXT)(X:Cx)(E:XK):Prop:=∀(pins:List (Addr×Obj))(σ:St)(H:Hp)(s:Shared)(e:Value)(s':Shared),Inv X pins σ H s->CX X.stack H s E e s'->X.xe e s'
section
variable {X:Cx} {CX:CXT} {k:Nat} {f C:Addr} {fd:FuncData} {ps:List Str} {sp:Sp} {dvs:List V} {ds:List Value} {E:XK} {x m:Str} {p pos apos:Pos} {e o:Expr} {es:List Expr} {ta:TE} {t:TA}
theorem qx{pins:List (Addr×Obj)}{σ:St}{H:Hp}{s:Shared}{Q:VK}{us:List Value}{vs:List V}(F:FnOk X.prog X.w X.K X.mg X.base CX k f fd ps sp)(hr:Room k X.A)(hb:Binds X.K fd ps ds)(hd:Vals dvs ds)(hx:fo CX X E)
 (I:Inv X pins σ H s) (r:Vals vs us) (h:sp (vs++dvs) H Q E):wpAny (model X.prog X.w) X.A (call (.ref f) us) (EP X pins σ Q) X.xe s:=by
 have r2:Vals (vs++dvs) (us++ds):=r.append hd;have hl:(us++ds).length=ps.length:=by rw[←r2.length];exact F.len _ _ _ _ h
 refine wpAny_call (codeAny_mono (F.run X.A X.stack s H ⟨us,[]⟩ (us++ds) (vs++dvs) Q E hr I.env0 (hb s us I.kIn hl) r2 h) fun r s' hq=>?_);cases r with
 | error e=>exact hx pins σ H s e s' I hq
 | ok fl=>
   cases fl with
   | ret u=>exact I.after hq
   | next=>exact False.elim hq
   | brk=>exact False.elim hq
   | cont=>exact False.elim hq
theorem wm(F:FnOk X.prog X.w X.K X.mg X.base CX k f fd ps sp)(hr:Room k X.A)(hg:Gl X x)(hm:X.mg x=some (.ref f))(hk:PySem.W.keepIn X.K (.ref f)=true)(hb:Binds X.K fd ps ds)(hd:Vals dvs ds)(hx:fo CX X E)
 (ha:PA X (e::es) t) (hdb:(x==("__debug__":Str))=false:=by decide) (he:starEach (e::es) X.env=(false,eval e X.env)::starEach es X.env:=by rfl) (hpl:(backTo pos (starEach es X.env)).any (·.1)=false:=by rfl) :
 PE X (.Call (.Name x p) (e::es) [] pos) (lL sp dvs E t):=by
 intro pins s σ H Q I h;refine wpAny_Call_Name_kw (jD I hg hm ?_ hdb);refine PySem.W.callWith_K (h₀:=X.base) I.ok.mod.kin hk (thn (ha pos pins s σ H _ I h) fun us s1 ⟨vs,H1,I1,r,q⟩=>⟨I1.kIn,?_⟩) he hpl;exact qx F hr hb hd hx I1 r q
theorem cZ{pl:Sem Bool}(he:PE X o ta)(c:Cls X.K C)(hm:Meth X.K C m f)(F:FnOk X.prog X.w X.K X.mg X.base CX k f fd ps sp)(hr:Room k X.A)(hb:Binds X.K fd ps ds)(hd:Vals dvs ds)(hx:fo CX X E)(ha:PA X (e::es) t)
 (hst:starEach (e::es) X.env=(false,eval e X.env)::starEach es X.env:=by rfl) (hpl:(backTo pos (starEach es X.env)).any (·.1)=false:=by rfl)
 (ht:eval (.Call (.Attribute o m apos) (e::es) [] pos) X.env=(do
  let ov ←eval o X.env
  standAt apos.atName
  let(f,first) ←holding [ov] (getMethod ov m pl)
  callWith pos f first (backTo pos (starEach (e::es) X.env)) (backToKw pos (keywordEach [] X.env))):=by rfl) :
 PE X (.Call (.Attribute o m apos) (e::es) [] pos) (Dd C m sp dvs E ta t):=by
 intro pins s σ H Q I h;refine PySem.W.methodCall_KW (pl:=pl) (thn (he pins s σ H _ I h) fun u s1 ⟨x,H1,I1,rx,a,dx,fs,ex,ea,l,q⟩=>?_) ht;subst ex;obtain rfl:u=Value.ref a:=rx;refine oB I1 ea c hm l ?_;refine PySem.W.callWith_K (first:=[.ref a]) (h₀:=X.base) I.ok.mod.kin hm.kp (thn (ha pos pins s1 σ H1 _ I1 q) fun us s2 ⟨vs,H2,I2,r,q2⟩=>⟨I2.kIn,?_⟩) hst hpl;exact qx (us:=.ref a::us) (vs:=.ref a::vs) F hr hb hd hx I2 (.cons rfl r) q2
theorem cY{pl:Sem Bool}(he:PE X o ta)(c:Cls X.K C)(hm:Meth X.K C m f)(F:FnOk X.prog X.w X.K X.mg X.base CX k f fd ps sp)(hr:Room k X.A)(hb:Binds X.K fd ps ds)(hd:Vals dvs ds)(hx:fo CX X E)
 (ht:eval (.Call (.Attribute o m apos) [] [] pos) X.env=(do
  let ov ←eval o X.env
  standAt apos.atName
  let(f,first) ←holding [ov] (getMethod ov m pl)
  callWith pos f first (backTo pos (starEach [] X.env)) (backToKw pos (keywordEach [] X.env))):=by rfl) :
 PE X (.Call (.Attribute o m apos) [] [] pos) (Dd C m sp dvs E ta uh):=by
 intro pins s σ H Q I h;refine PySem.W.methodCall_KW (pl:=pl) (thn (he pins s σ H _ I h) fun u s1 ⟨x,H1,I1,rx,a,dx,fs,ex,ea,l,q⟩=>?_) ht;subst ex;obtain rfl:u=Value.ref a:=rx;refine oB I1 ea c hm l ?_;exact PySem.W.callWith_K0 (first:=[.ref a]) I1.kIn hm.kp (qx (us:=[.ref a]) (vs:=[.ref a]) F hr hb hd hx I1 (.cons rfl .nil) q)
structure Mk(K:W.Frag)(C f:Addr):Prop where
 makes:PySem.W.makesIn K C=true
 init:PySem.W.findIn K (.ref C) "__init__"=some (some (.ref f))
 fn:PySem.W.isFn K (.ref f)=true
 kp:PySem.W.keepIn K (.ref C)=true
theorem zJ{pins:List (Addr×Obj)}{σ:St}{H:Hp}{s:Shared}{Q:VK}{us:List Value}{vs:List V}(M:Mk X.K C f)(F:FnOk X.prog X.w X.K X.mg X.base CX k f fd ps sp)(hr:Room (k+1) X.A)(hb:Binds X.K fd ps ds)(hd:Vals dvs ds)
 (hx:fo CX X E) (I:Inv X pins σ H s) (r:Vals vs us)
 (h:∀x dx,H x=none->H dx=none->dx≠x->sp (.ref x::(vs++dvs)) (upd (upd H dx (.own x)) x (.ins C dx [])) (fun v H2=>v=.non/\Q (.ref x) H2) E) :
 wpAny (model X.prog X.w) X.A (call (.ref C) us) (EP X pins σ Q) X.xe s:=by
 have hq:=h (s.heap.objs.size+1) s.heap.objs.size (I.hok.fresh (qK0 _)) (I.hok.fresh (zF0 _)) (zQ0 (Nat.lt_succ_self _));have I2:=Inv.made (C:=C) I;have r2:Vals (V.ref (s.heap.objs.size+1)::(vs++dvs)) (Value.ref (s.heap.objs.size+1)::(us++ds)):=.cons rfl (r.append hd);have hl:(Value.ref (s.heap.objs.size+1)::us++ds).length=ps.length:=by
  have e:=r2.length;rw[F.len _ _ _ _ hq]at e;exact e.symm
 refine wpAny_call (AM (f:=f) I.kIn M.makes M.init (beq_iff_eq.mp M.fn) (codeAny_mono (F.run _ X.stack _ _ ⟨Value.ref (s.heap.objs.size+1)::us,[]⟩ (Value.ref (s.heap.objs.size+1)::(us++ds)) _ _ E (hr.make C us [])
  (I2.env0.make C us []) (hb _ (Value.ref (s.heap.objs.size+1)::us) I2.kIn hl) r2 hq) fun r s' hq'=>?_))
 cases r with
 | error e=>exact hx pins σ _ _ e s' I2 hq'
 | ok fl=>
   cases fl with
   | ret u=>
     obtain⟨v,H',I3,rv,ev,q3⟩:=I2.after hq';subst ev;exact⟨rv,⟨V.ref (s.heap.objs.size+1),H',I3,rfl,q3⟩⟩
   | next=>exact False.elim hq'
   | brk=>exact False.elim hq'
   | cont=>exact False.elim hq'
theorem gE(M:Mk X.K C f)(F:FnOk X.prog X.w X.K X.mg X.base CX k f fd ps sp)(hr:Room (k+1) X.A)(hg:Gl X x)(hm:X.mg x=some (.ref C))(hb:Binds X.K fd ps ds)(hd:Vals dvs ds)(hx:fo CX X E)
 (ha:PA X (e::es) t) (hdb:(x==("__debug__":Str))=false:=by decide) (he:starEach (e::es) X.env=(false,eval e X.env)::starEach es X.env:=by rfl) (hpl:(backTo pos (starEach es X.env)).any (·.1)=false:=by rfl) :
 PE X (.Call (.Name x p) (e::es) [] pos) (De C sp dvs E t):=by
 intro pins s σ H Q I h;refine wpAny_Call_Name_kw (jD I hg hm ?_ hdb);refine PySem.W.callWith_K (h₀:=X.base) I.ok.mod.kin M.kp (thn (ha pos pins s σ H _ I h) fun us s1 ⟨vs,H1,I1,r,q⟩=>⟨I1.kIn,?_⟩) he hpl;exact zJ M F hr hb hd hx I1 r q
end
structure FnScope(N P:List Str)(sc:Scope):Prop where
 kind:sc.kind=.function
 co:sc.isCoroutine=false
 gen:sc.isGenerator=false
 nd:N.Nodup
 pre:N.take P.length=P
 par:∀x∈P,sc.names.lookup x=some .local∨sc.names.lookup x=some .cell
 nofree:∀y∈sc.names,y.2≠.free
theorem pW{kindOf:Str->Option NameKind}{x:Str}:∀{binds:List (Str×Value)}{m:Str->Option Value},(∀v,(x,v)∉binds)->bindL kindOf binds m x=m x
 | [],_,_=>rfl
 | (n,v)::r,m,h=>by
   unfold bindL;rw[pW fun w hw=>h w (qF0 _ hw)]
   split
   . have:x≠n:=by rintro rfl;exact h v qG0
     simp [this]
   . rfl
theorem pY{kindOf:Str->Option NameKind}{x:Str}:∀{binds:List (Str×Value)}{m:Str->Option Value},(∀v,(x,v)∉binds)->bindC kindOf binds m x=m x
 | [],_,_=>rfl
 | (n,v)::r,m,h=>by
   unfold bindC;rw[pY fun w hw=>h w (qF0 _ hw)]
   split
   . rfl
   . have:x≠n:=by rintro rfl;exact h v qG0
     simp [this]
theorem pX{kindOf:Str->Option NameKind}{x:Str}{v:Value}:∀{P:List Str}{vs:List Value}{i:Nat}{m:Str->Option Value},P.Nodup->P[i]?=some x->vs[i]?=some v->kindOf x=some .local ->
 bindL kindOf (P.zip vs) m x=some v
 | [],_,_,_,_,h,_,_=>by simp at h
 | _::_,[],_,_,_,_,h,_=>by simp at h
 | p::P,w::vs,0,m,nd,h1,h2,hk=>by
   simp at h1 h2;subst h1;subst h2
   show bindL kindOf ((p,w)::P.zip vs) m p=_;unfold bindL;rw[pW fun v hv=>(List.nodup_cons.mp nd).1 (List.of_mem_zip hv).1,zB0 hk]
   simp
 | p::P,w::vs,i+1,m,nd,h1,h2,hk=>by
   show bindL kindOf ((p,w)::P.zip vs) m x=_;unfold bindL;exact pX (i:=i) (List.nodup_cons.mp nd).2 (by simpa using h1) (by simpa using h2) hk
theorem pZ{kindOf:Str->Option NameKind}{x:Str}{v:Value}:∀{P:List Str}{vs:List Value}{i:Nat}{m:Str->Option Value},P.Nodup->P[i]?=some x->vs[i]?=some v->kindOf x≠some .local ->
 bindC kindOf (P.zip vs) m x=some v
 | [],_,_,_,_,h,_,_=>by simp at h
 | _::_,[],_,_,_,_,h,_=>by simp at h
 | p::P,w::vs,0,m,nd,h1,h2,hk=>by
   simp at h1 h2;subst h1;subst h2
   show bindC kindOf ((p,w)::P.zip vs) m p=_;unfold bindC;rw[pY fun v hv=>(List.nodup_cons.mp nd).1 (List.of_mem_zip hv).1,zA0 hk]
   simp
 | p::P,w::vs,i+1,m,nd,h1,h2,hk=>by
   show bindC kindOf ((p,w)::P.zip vs) m x=_;unfold bindC;exact pZ (i:=i) (List.nodup_cons.mp nd).2 (by simpa using h1) (by simpa using h2) hk
def iG(N:List Str)(vs:List V):St:=vs.map some++List.replicate (N.length-vs.length) none
def jL(CX:CXT)(P:Program)(w:World)(K:W.Frag)(mg:Str->Option Value)(base:Heap)(N:List Str)(qual:Str)(scope:Scope)(f:Addr)(cd:Value)(A:Around)(outer:List Env)(s:Shared)(H:Hp)(E:XK):Cx where
 prog:=P
 w:=w
 K:=K
 mg:=mg
 base:=base
 A:=A.deeper (envOfC qual scope s.heap.objs.size f cd)
 N:=N
 s₀:=s
 H₀:=H
 env:=envOfC qual scope s.heap.objs.size f cd
 outer:=outer
 stack:=envOfC qual scope s.heap.objs.size f cd::outer
 ex:=[]
 calm:=true
 fn:=fun _=>true
 pn:=[]
 xe:=fun e s'=>wpAny (model P w) (A.deeper (envOfC qual scope s.heap.objs.size f cd)) (leaving (envOfC qual scope s.heap.objs.size f cd) e) (fun _ s''=>CX outer H s E e s'') (fun e' s''=>CX outer H s E e' s'') s'
theorem tL{sc:Scope}{n:Nat}{x:Str}(h:sc.names.lookup x=some .cell):∃c,(cellsFrom n sc.names []).lookup x=some c:=by
 have q:=PySem.W.cellsFrom_some sc.names n [] (.inl h);exact Option.isSome_iff_exists.mp q
theorem ym{CX:CXT}{P:Program}{w:World}{K:W.Frag}{mg:Str->Option Value}{base:Heap}{N ps:List Str}{qual:Str}{scope:Scope}{f:Addr}{cd:Value}{A:Around}{outer:List Env}{s s1:Shared}{H:Hp}{E:XK}{us:List Value}{vs:List V}
 (S:FnScope N ps scope) (hd:A.handled=none) (e0:Env0 P w K mg base A outer s H) (hl:vs.length=ps.length) (r:Vals vs us)
 (x:InCallC s s.heap.objs.size (bindL (envOfC qual scope s.heap.objs.size f cd).kindOf (ps.zip us) fun _=>none) (cellsFrom (s.heap.objs.size+1) scope.names []) (bindC (envOfC qual scope s.heap.objs.size f cd).kindOf (ps.zip us) fun _=>none) s1) :
 Inv (jL CX P w K mg base N qual scope f cd A outer s H E) [] (iG N vs) H s1:=by
 have hpl:ps.length<=N.length:=by have:=congrArg List.length S.pre;rw[qN0]at this;omega
 obtain⟨h1,tk,rfl,hk⟩:=x.done;have noA:∀b:Addr,b∉(jL CX P w K mg base N qual scope f cd A outer s H E).ex:=fun b z=>absurd (show b∈([]:List Addr)from z) (by simp)
 refine ⟨⟨e0.mod,S.kind,rfl,rfl,zF0 _,fun y z c h1 h2=>?_,fun y hy=>?_,fun y c _ h=>?_,fun _=>hd,Around.frames_deeper e0.frames,.inr ⟨rfl,rfl⟩,fun b z=>absurd z (noA b),e0.bs,e0.bsz,fun b _ _=>noA b,fun b z=>absurd z (noA b),e0.funs,e0.frf⟩,
  rfl,e0.bare,Un.kept hk,⟨_,x.toInCall.ns,fun i y v h1 h2 h3=>?_⟩,fun y c h=>⟨_,x.cell y c h⟩,e0.hok.fresh (zF0 _),fun y c h=>?_,fun p hp=>absurd (show p∈([]:List (Addr×Obj))from hp) (by simp),e0.hok.kept hk,?_⟩
 . exact name_of_addr x.apart (PySem.mem_of_lookup h1) (PySem.mem_of_lookup h2)
 . have hy:scope.names.lookup y=some .cell∨scope.names.lookup y=some .free:=hy;rcases hy with hy | hy
   . exact tL hy
   . exact absurd rfl (S.nofree _ (PySem.mem_of_lookup hy))
 . exact Nat.le_of_lt (x.above y c (PySem.mem_of_lookup h))
 . have hi:i<vs.length:=by
    unfold iG at h2
    by_cases hi:i<vs.length
    . exact hi
    . rw [List.getElem?_append_right (by simpa using hi)]at h2;rw[List.getElem?_replicate]at h2
      split at h2 <;> cases h2
   have ha:vs[i]?=some v:=by
    unfold iG at h2;rw[List.getElem?_append_left (by simpa using hi),qA0]at h2;cases e:vs[i]? with
    | none=>rw[e]at h2;cases h2
    | some a=>rw[e]at h2;cases h2;rfl
   obtain ⟨u,hu,rv⟩:=r.get ha;have hp:ps[i]?=some y:=by
    rw[←S.pre,List.getElem?_take_of_lt (by omega)];exact h1
   have ndP:ps.Nodup:=by rw[←S.pre];exact S.nd.sublist (List.take_sublist _ _)
   refine⟨u,rv,?_⟩;rcases S.par y (qJ0 hp)with k | k
   . exact .inl ⟨k,pX ndP hp hu k⟩
   . obtain⟨c,e⟩:=tL (n:=s.heap.objs.size+1) k;refine .inr ⟨.inl k,c,e,?_⟩;have q:=x.cell y c e;rw[pZ ndP hp hu (by show scope.names.lookup y≠_;rw[k];decide)]at q;exact q
 . exact e0.hok.fresh (Nat.le_of_lt (x.above y c (PySem.mem_of_lookup h)))
 . unfold iG;show _=N.length;rw[zN0,zG0,List.length_replicate];omega
theorem Bh{CX:CXT}{P:Program}{w:World}{K:W.Frag}{mg:Str->Option Value}{base:Heap}{k:Nat}{f:Addr}{name qual:Str}{params:Arguments}{body:List Stmt}{scope:Scope}{dV kV doc pm cdv ct oc:Value}{an od:Option Addr}
 {osl:Array (Option Value)} {N ps:List Str} {sp:Sp} (lk:K.lookup f=some ⟨oc,od,.func (PySem.W.fnOf name qual params body scope dV kV doc pm an cdv ct),osl⟩) (hcd:PySem.W.codeIn K cdv qual=true) (S:FnScope N ps scope)
 (len:∀vs H Q E,sp vs H Q E->vs.length=ps.length)
 (hbody:∀(A:Around)(outer:List Env)(s:Shared)(H:Hp)(vs:List V)(Q:VK)(E:XK),Room k (A.deeper (envOfC qual scope s.heap.objs.size f cdv))->sp vs H Q E ->
  ∃t,PSs (jL CX P w K mg base N qual scope f cdv A outer s H E) body t/\t { nx:=fun _ H'=>Q .non H',rt:=Q } (iG N vs) H) :
 FnOk P w K mg base CX (k+1) f (PySem.W.fnOf name qual params body scope dV kV doc pm an cdv ct) ps sp:=by
 refine⟨len,fun A outer s H args us vs Q E hr e0 hb r hsp=>?_⟩;have hl:=len _ _ _ _ hsp;have KX:K.In s.heap:=e0.mod.kin.keeps fun b o e=>(e0.bs b o e).1
 have lim:s.heap.NoLimit:=e0.mod.nolimit.keeps fun b o e=>(e0.bs b o e).1
 have hkind:∀y∈ps.zip us,scope.names.lookup y.1=some .local∨(scope.names.lookup y.1=some .cell/\((cellsFrom (s.heap.objs.size+1) scope.names []).lookup y.1).isSome=true):=fun⟨n,v⟩ hy=>by
  rcases S.par n (List.of_mem_zip hy).1 with q | q
  . exact .inl q
  . exact .inr ⟨q,PySem.W.cellsFrom_some _ _ _ (.inl q)⟩
 refine codeAny_call_function hr.depth (KX _ _ lk) rfl S.co S.gen rfl (PySem.W.codeRec_of KX hcd) (hb _ _ _ _ ?_);refine wpAny_newFunctionEnv_cells S.kind hkind fun env he s1 x=>?_
 subst he;refine⟨lim.keeps x.toInCall.keep,codeAny_func ?_⟩;obtain⟨t,ht,hq⟩:=hbody A outer s H vs Q E (hr.deeper _) hsp;have I:Inv (jL CX P w K mg base N qual scope f cdv A outer s H E) [] (iG N vs) H s1:=ym S hr.hd e0 hl r x;refine wpAny_mono (ht [] s1 (iG N vs) H _ I hq) (fun fl s' hs=>?_) fun e s' hs=>hs
 have fin:∀{σ':St}{H':Hp}{v:V}{u:Value},Inv (jL CX P w K mg base N qual scope f cdv A outer s H E) [] σ' H' s'->RelV v u->Q v H'->CE outer P w H s Q u s':=
  fun{σ' H' v u} J rv q=>⟨v,H',J.os,J.bare,J.base,J.hok,rv,q⟩
 cases fl with
 | ret u=>
   obtain⟨v,σ',H',J,rv,q⟩:=hs;exact fin J rv q
 | next=>
   obtain⟨σ',H',J,q⟩:=hs;exact fin (v:=V.non) (u:=Value.none) J rfl q
 | brk=>
   obtain⟨_,_,_,q⟩:=hs;exact False.elim q
 | cont=>
   obtain⟨_,_,_,q⟩:=hs;exact False.elim q
section
variable {X:Cx} {x:Str} {p pos:Pos} {e:Expr} {es:List Expr} {t:TA} {id T:String} {r:List V->Hp->VK->Prop}
def tCB(r:List V->Hp->VK->Prop)(t:TA):TE:=fun σ H Q=>t σ H fun vs H1=>r vs H1 Q
theorem aO (hc:iC X (.builtin id) r) (hg:Gl X x) (hm:X.mg x=none) (hv:bootBuiltins x=some (.builtin id)) (ha:PA X (e::es) t) (hn:x≠"__name__":=by decide) (hdb:(x==("__debug__":Str))=false:=by decide)
 (he:starEach (e::es) X.env=(false,eval e X.env)::starEach es X.env:=by rfl) (hpl:(backTo pos (starEach es X.env)).any (·.1)=false:=by rfl):PE X (.Call (.Name x p) (e::es) [] pos) (tCB r t):=by
 intro pins s σ H Q I h;refine wpAny_Call_Name_kw (ir I hg hm hv ?_ hn hdb);exact PyProof.Rows.callWith_builtin1 (thn (ha pos pins s σ H _ I h) fun us s1 ⟨vs,H1,I1,r1,q1⟩=>hc pins s1 σ H1 vs us Q I1 r1 q1) he hpl
theorem cI (hc:iC X (.type T) r) (hg:Gl X x) (hm:X.mg x=none) (hv:bootBuiltins x=some (.type T)) (ha:PA X (e::es) t) (hn:x≠"__name__":=by decide) (hdb:(x==("__debug__":Str))=false:=by decide)
 (he:starEach (e::es) X.env=(false,eval e X.env)::starEach es X.env:=by rfl) (hpl:(backTo pos (starEach es X.env)).any (·.1)=false:=by rfl):PE X (.Call (.Name x p) (e::es) [] pos) (tCB r t):=by
 intro pins s σ H Q I h;refine wpAny_Call_Name_kw (ir I hg hm hv ?_ hn hdb);exact PyProof.Rows.callWith_type1 (thn (ha pos pins s σ H _ I h) fun us s1 ⟨vs,H1,I1,r1,q1⟩=>hc pins s1 σ H1 vs us Q I1 r1 q1) he hpl
end
end L2
namespace HT
open PySem PyProof.Rows
section
variable {prog:Program} {w:World} {A:Around} {E:Value->Shared->Prop} {s:Shared}
theorem cat_tup{t b:Addr}{vs ws:List Value}{Q:Value->Shared->Prop}(ht:IsTup s.heap t vs.toArray)(hb:IsTup s.heap b ws.toArray)(hv:vs≠[])
 (h1:ws=[]->Q (.ref t) s) (h2:ws≠[]->Q (.ref s.heap.objs.size) { s with heap:=s.heap.push { cls:=.type "tuple",data:=.seq (vs++ws).toArray } })
 (hsz:vs.length+ws.length<=sizeLine):wpAny (model prog w) A (binaryOp .Add (.ref t) (.ref b)) Q E s:=by
 obtain⟨⟨cls,dd,data,sl⟩,ho,hc,n,hd⟩:=id ht;obtain⟨⟨cls2,dd2,data2,sl2⟩,ho2,hc2,n2,hd2⟩:=id hb;simp only at hc hd hc2 hd2;subst hc hd hc2 hd2;have e:vs.toArray++ws.toArray=(vs++ws).toArray:=by simp
 by_cases hw:ws=[]
 . exact concat_meets ⟨_,ho,rfl⟩ ⟨_,ho2,rfl⟩ noFill_tuple_add seq_tuple_add PySem.F.slot_tuple_add PySem.F.entry_tuple_add (PySem.F.args_tuple_add_2 _ _)
    (tuple_addW1 t b vs.toArray ws.toArray n n2 dd dd2 sl sl2 (by simpa using hv) (by simp [hw])) ⟨ho,ho2,h1 hw⟩
 . refine concat_meets ⟨_,ho,rfl⟩ ⟨_,ho2,rfl⟩ noFill_tuple_add seq_tuple_add PySem.F.slot_tuple_add PySem.F.entry_tuple_add (PySem.F.args_tuple_add_2 _ _)
    (tuple_addW2 t b vs.toArray ws.toArray n n2 dd dd2 sl sl2 (by simpa using hv) (by simpa using hw) (by rw[zO0,zO0];exact hsz)) ⟨ho,ho2,?_⟩
   rw[e];exact h2 hw
def sIx(n d:Nat):Option Int->Nat
 | none=>d
 | some v=>if v<0 then(v+(n:Int)).toNat else min v.toNat n
theorem sIx_none(n d:Nat):sIx n d none=d:=rfl
theorem sIx_nat(n d k:Nat):sIx n d (some (k:Int))=min k n:=by
 show(if(k:Int)<0 then((k:Int)+(n:Int)).toNat else min (k:Int).toNat n)=min k n;rw[zA0 (by omega),qS0]
theorem DZ(n d:Nat)(hd:d<=n)(o:Option Int):sIx n d o<=n:=by
 cases o with
 | none=>exact hd
 | some v=>
   show(if v<0 then(v+(n:Int)).toNat else min v.toNat n)<=n
   by_cases hv:v<0
   . rw[zB0 hv];omega
   . rw[zA0 hv];exact Nat.min_le_right _ _
theorem wQ(v:Int)(n d:Nat):(if v<0 then max (v+(n:Int)) 0 else min v (n:Int))=((sIx n d (some v):Nat):Int):=by
 show(if v<0 then max (v+(n:Int)) 0 else min v (n:Int))=(((if v<0 then(v+(n:Int)).toNat else min v.toNat n):Nat):Int)
 by_cases hv:v<0
 . simp only[zB0 hv];omega
 . simp only[zA0 hv];omega
theorem vE(lo hi:Option Int)(n:Nat):Builtin.Slice.sliceAdjust lo hi 1 (n:Int)=(((sIx n 0 lo:Nat):Int),((sIx n n hi:Nat):Int)):=by
 have h1:¬ ((1:Int)<0):=by omega
 unfold Builtin.Slice.sliceAdjust;simp only[h1,if_false];refine Prod.ext ?_ ?_
 . cases lo with
   | none=>rfl
   | some v=>exact wQ v n 0
 . cases hi with
   | none=>rfl
   | some v=>exact wQ v n n
theorem uA(i j:Nat):Builtin.Slice.slicePlaces (i:Int) (j:Int) 1=j-i:=by
 unfold Builtin.Slice.slicePlaces;have h1:(1:Int)>0:=by omega
 simp only[h1,if_true,Int.ediv_one]
 split <;> omega
theorem nq{v:Value}{o:Option Int}{Q:Option Int->Shared->Prop}(p:IsPart v o)(h:Q o s):wpAny (model prog w) A (Builtin.Slice.slicePartIndex v) Q E s:=by
 cases p with
 | none=>exact slicePart_none h
 | int i t=>exact slicePart_int h
theorem kW{sl:Addr}{vl vu:Value}{lo hi:Option Int}{n:Nat}{Q:Int×Int×Nat->Shared->Prop}(hs:s.heap.IsSliceOf sl vl vu .none)(pl:IsPart vl lo)(pu:IsPart vu hi)
 (h:Q (((sIx n 0 lo:Nat):Int),1,sIx n n hi-sIx n 0 lo) s):wpAny (model prog w) A (Builtin.Slice.sliceApplied (.ref sl) (pure (n:Int))) Q E s:=by
 obtain⟨os,hos,hcs,hds⟩:=id hs;unfold Builtin.Slice.sliceApplied Builtin.Slice.sliceFields;refine zC0 (zC0 (wpAny_field hos hds (x:=vl) rfl (zC0 (wpAny_field hos hds (x:=vu) rfl (zC0 (wpAny_field hos hds (x:=.none) rfl (zH0 ?_)))))));refine zC0 (slicePart_none ?_);show wpAny _ _ (if((1:Int)==0)=true then _ else _) _ _ s;rw[zA0 (by decide)];refine zC0 (nq pl (zC0 (nq pu (zC0 (zH0 ?_)))));show wpAny _ _ (match Builtin.Slice.sliceAdjust lo hi 1 (n:Int)with | (lo,hi)=>pure (lo,(1:Int),Builtin.Slice.slicePlaces lo hi 1)) _ _ s;rw[vE lo hi n];show wpAny _ _ (pure (((sIx n 0 lo:Nat):Int),(1:Int),Builtin.Slice.slicePlaces ((sIx n 0 lo:Nat):Int) ((sIx n n hi:Nat):Int) 1)) _ _ s;rw[uA];exact zH0 h
theorem zZ(xs:Array Value)(i k:Nat):((List.range k).filterMap fun(m:Nat)=>xs[((i:Int)+(m:Int)*1).toNat]?).toArray=((xs.toList.drop i).take k).toArray:=by
 have e:(fun(m:Nat)=>xs[((i:Int)+(m:Int)*1).toNat]?)=fun m=>xs[i+m]?:=by
  funext m
  have:((i:Int)+(m:Int)*1).toNat=i+m:=by omega
  rw[this]
 rw[e]
 have:=pick_run xs i k
 rw[List.filterMap_map]at this;have e2:((fun x=>xs[x]?) ∘ fun x=>i+x)=fun m=>xs[i+m]?:=rfl
 rw[e2]at this;rw[this]
theorem getItem_tuple_cut{t sl:Addr}{items:Array Value}{vl vu:Value}{lo hi:Option Int}{Q:Value->Shared->Prop}(ht:IsTup s.heap t items)(hs:s.heap.IsSliceOf sl vl vu .none)(pl:IsPart vl lo)(pu:IsPart vu hi)
 (hw:¬ (sIx items.size 0 lo=0/\sIx items.size items.size hi=items.size))
 (h:Q (.ref s.heap.objs.size) { s with heap:=s.heap.push { cls:=.type "tuple",data:=.seq ((items.toList.drop (sIx items.size 0 lo)).take (sIx items.size items.size hi-sIx items.size 0 lo)).toArray } })
 (hsz:items.size<=sizeLine):wpAny (model prog w) A (getItem (.ref t) (.ref sl)) Q E s:=by
 have htake:sizeOk (.seq ((items.toList.drop (sIx items.size 0 lo)).take (sIx items.size items.size hi-sIx items.size 0 lo)).toArray):=by
  show((items.toList.drop (sIx items.size 0 lo)).take (sIx items.size items.size hi-sIx items.size 0 lo)).toArray.size<=sizeLine;rw[zO0,qN0,List.length_drop,Array.length_toList];omega
 have hj:sIx items.size items.size hi<=items.size:=DZ _ _ (zF0 _) hi;obtain⟨os,hos,hcs,hds⟩:=id hs;have hTs:s.TypeIs (.ref sl) "slice":=⟨os,hos,hcs⟩
 unfold getItem
 try with_reducible refine wpAny_holding ?_
 first | refine zC0 (zH0 ?_) | skip
 refine zC0 (wpAny_sequenceKey ht.typeIs (by decide) ?_);refine zC0 (wpAny_callSpecial?_slot (name:=Str.ofString "__getitem__") ht.typeIs PyProof.Rows.slot_tuple_getitem
  (wpAny_call_entry PyProof.Rows.slot_tuple_getitem ht.typeIs entry_tuple_getitem ?_ (args_tuple_getitem _ _)))
 show wpAny _ _ (Builtin.Tuple.tupleItemsOf (.ref t) >>= _) _ _ s;refine zC0 (tupleItemsOf_ ht ?_);refine zC0 (wpAny_typeOf hTs ?_);rw[zB0 (by decide)];refine zC0 (kW hs pl pu ?_);have hno:¬ ((((sIx items.size 0 lo:Nat):Int)==0&&(1:Int)==1&&(sIx items.size items.size hi-sIx items.size 0 lo)==items.size)=true):=by
  intro q;rw[Bool.and_eq_true,Bool.and_eq_true]at q;have q1:((sIx items.size 0 lo:Nat):Int)=0:=eq_of_beq q.1.1;have q2:sIx items.size items.size hi-sIx items.size 0 lo=items.size:=eq_of_beq q.2;exact hw ⟨by omega,by omega⟩
 show wpAny _ _ (if(((sIx items.size 0 lo:Nat):Int)==0&&(1:Int)==1&&(sIx items.size items.size hi-sIx items.size 0 lo)==items.size)=true then _ else _) _ _ s;rw[zA0 hno,zZ]
 first
  | exact zC0 (m:=Builtin.Tuple.tupleExact _) (wpAny_newObj_type (zH0 ⟨_,rfl,zH0 h⟩) htake)
  | exact zC0 (m:=Builtin.Tuple.tupleExact _) (wpAny_newObj_type (zC0 (zH0 (zH0 ⟨_,rfl,zH0 h⟩))) htake)
  | exact zC0 (zC0 (m:=Builtin.Tuple.tupleExact _) (wpAny_newObj_type (zH0 (zH0 ⟨_,rfl,zH0 h⟩)) htake))
  | exact zC0 (zC0 (m:=Builtin.Tuple.tupleExact _) (wpAny_newObj_type (zH0 ⟨_,rfl,zH0 h⟩) htake))
end
end HT
namespace L2
open PySem PySem.Spec PyProof.Rows
abbrev TO:=St->Hp->(Option Int->Hp->Prop)->Prop
def PO(X:Cx)(e:Option Expr)(t:TO):Prop:=
 ∀(pins:List (Addr×Obj))(s:Shared)(σ:St)(H:Hp)(Q:Option Int->Hp->Prop),Inv X pins σ H s->t σ H Q ->
  wpAny (model X.prog X.w) X.A (evalPart e X.env) (fun u s'=>∃o H',Inv X pins σ H' s'/\IsPart u o/\Q o H') X.xe s
def BP:TO:=fun _ H Q=>Q none H
def tPart(t:TE):TO:=fun σ H Q=>t σ H fun x H1=>∃i,x=.int i/\Q (some i) H1
section
variable {X:Cx} {e:Expr} {te:TE} {lo hi:Option Expr} {tl th:TO} {pos p2:Pos}
theorem qH:PO X none BP:=by
 intro pins s σ H Q I h;rw[evalPart_none];exact zH0 ⟨none,H,I,.none,h⟩
theorem ko(h:PE X e te):PO X (some e) (tPart te):=by
 intro pins s σ H Q I hw;rw[evalPart_some];refine thn (h pins s σ H _ I hw) fun u s1 ⟨x,H1,I1,r1,q1⟩=>?_
 obtain⟨i,rfl,q⟩:=q1;obtain⟨t,rfl⟩:=r1;exact⟨some i,H1,I1,.int i t,q⟩
def SlR(X:Cx)(r:V->Option Int->Option Int->Hp->VK->Prop):Prop:=
 ∀(pins:List (Addr×Obj))(s:Shared)(σ:St)(H:Hp)(x:V)(v vl vu:Value)(lo hi:Option Int)(sl:Addr)(Q:VK),Inv X pins σ H s->RelV x v->s.heap.IsSliceOf sl vl vu .none->IsPart vl lo->IsPart vu hi->r x lo hi H Q ->
  ∃T id,typeLookup (.type T) "__getitem__"=pure (some (.builtin id))/\s.TypeIs v T/\wpAny (model X.prog X.w) X.A (getItem v (.ref sl)) (EP X pins σ Q) X.xe s
def tSl(r:V->Option Int->Option Int->Hp->VK->Prop)(te:TE)(tl th:TO):TE:=fun σ H Q=>te σ H fun x H1=>tl σ H1 fun l H2=>th σ H2 fun u H3=>r x l u H3 Q
theorem ku{r:V->Option Int->Option Int->Hp->VK->Prop}(hr:SlR X r)(he:PE X e te)(hl:PO X lo tl)(hu:PO X hi th):PE X (.Subscript e (.Slice lo hi none p2) pos) (tSl r te tl th):=by
 intro pins s σ H Q I h;refine Subscript_ (thn (he pins s σ H _ I h) fun v s1 ⟨x,H1,I1,r1,q1⟩=>?_);refine wpAny_Slice (thn (hl pins s1 σ H1 _ I1 q1) fun vl s2 ⟨l,H2,I2,pl,q2⟩=>thn (hu pins s2 σ H2 _ I2 q2) fun vu s3 ⟨u,H3,I3,pu,q3⟩=>?_);rw[evalPart_none];refine zH0 ?_;have I4:Inv X pins σ H3 { s3 with heap:=s3.heap.push { cls:=.type "slice",data:=.fields #[vl,vu,.none] } }:=I3.kept (t':=s3.toks) fun b ob q=>zJ0 _ q
 obtain⟨T,id,hT,ht,hg⟩:=hr pins { s3 with heap:=s3.heap.push { cls:=.type "slice",data:=.fields #[vl,vu,.none] } } σ H3 x v vl vu l u s3.heap.objs.size Q I4 r1 (Heap.IsSliceOf.new ..) pl pu q3;show wpAny (model X.prog X.w) X.A (subscriptTail e (.Slice lo hi none p2) v (.ref s3.heap.objs.size)) (EP X pins σ Q) X.xe { s3 with heap:=s3.heap.push { cls:=.type "slice",data:=.fields #[vl,vu,.none] } };exact tail_any (ops:=[.ref s3.heap.objs.size,v]) ht hT hg (by with_unfolding_all rfl)
def pj(xs:List V)(lo hi:Option Int):List V:=(xs.drop (HT.sIx xs.length 0 lo)).take (HT.sIx xs.length xs.length hi-HT.sIx xs.length 0 lo)
theorem tF(xs:List V)(lo hi:Option Int):(pj xs lo hi).length<=xs.length:=by
 unfold pj;rw[qN0,List.length_drop];omega
def rSlT(K:W.Frag):V->Option Int->Option Int->Hp->VK->Prop:=fun x lo hi H Q=>∃a xs,x=.ref a/\SqT K H a xs/\
 ¬ (HT.sIx xs.length 0 lo=0/\HT.sIx xs.length xs.length hi=xs.length)/\∀p,H p=none->Q (.ref p) (upd H p (.tup (pj xs lo hi)))
theorem zx:SlR X (rSlT X.K):=by
 intro pins s σ H x v vl vu lo hi sl Q I rx hs pl pu h;obtain⟨a,xs,rfl,hx,hw,q⟩:=h;cases rx;obtain⟨its,r,ht,hz⟩:=I.tuple hx;have hlen:its.toArray.size=xs.length:=by rw[zO0];exact r.length.symm
 refine⟨"tuple",_,PyProof.Rows.slot_tuple_getitem.lookup,ht.typeIs,?_⟩;refine HT.getItem_tuple_cut ht hs pl pu (by rw[hlen];exact hw) ?_ (by rw[hlen];exact hz);rw[hlen];refine⟨.ref s.heap.objs.size,_,I.laid (t':=s.toks) (o:=.tup (pj xs lo hi)) (fun b ob q=>zJ0 _ q) (zF0 _) ?_,rfl,q _ (I.hok.fresh (zF0 _))⟩;exact⟨qB0 (tF xs lo hi) hz,_,(r.drop (HT.sIx xs.length 0 lo)).take (HT.sIx xs.length xs.length hi-HT.sIx xs.length 0 lo),IsTup.new _ _,_,zV0 _ rfl,rfl⟩
def sk(K:W.Frag):R2:=fun x y H Q=>∃a b xs ys,x=.ref a/\y=.ref b/\SqT K H a xs/\SqT K H b ys/\xs≠[]/\xs.length+ys.length<=sizeLine/\
 (ys=[]->Q (.ref a) H)/\(ys≠[]->∀p,H p=none->Q (.ref p) (upd H p (.tup (xs++ys))))
theorem Vals.nil_iff{xs:List V}{us:List Value}(r:Vals xs us):us=[]↔xs=[]:=by
 cases r with
 | nil=>simp
 | cons _ _=>simp
theorem op_catT:OpR X (binaryOp .Add) (sk X.K):=by
 intro pins s σ H x y v u Q I rx ry h;obtain⟨a,b,xs,ys,rfl,rfl,ha,hb,hx,hz,q1,q2⟩:=h;cases rx;cases ry;obtain⟨its,r1,p1,_⟩:=I.tuple ha;obtain⟨its2,r2,p2,_⟩:=I.tuple hb;refine HT.cat_tup p1 p2 (fun z=>hx (r1.nil_iff.mp z)) (fun z=>⟨.ref a,H,I,rfl,q1 (r2.nil_iff.mp z)⟩) (fun z=>?_) (by rw[←r1.length,←r2.length];exact hz);refine⟨.ref s.heap.objs.size,_,I.laid (t':=s.toks) (o:=.tup (xs++ys)) (fun b ob q=>zJ0 _ q) (zF0 _) ?_,rfl,q2 (fun w=>z (r2.nil_iff.mpr w)) _ (I.hok.fresh (zF0 _))⟩;exact⟨by rw[zN0];exact hz,_,r1.append r2,IsTup.new _ _,_,zV0 _ rfl,rfl⟩
end
def ixN(n:Nat)(i:Int):Option Nat:=if 0<=i then(if i<n then some i.toNat else none)else if -(n:Int)<=i then some (i+n).toNat else none
def atI{α:Type}(xs:List α)(i:Int):Option α:=(ixN xs.length i).bind fun j=>xs[j]?
theorem qV{n:Nat}{i:Int}{j:Nat}(h:ixN n i=some j):seqIndex? i n=some j/\j<n/\-(n:Int)<=i/\i<n:=by
 unfold ixN at h
 by_cases h0:0<=i
 . rw [zB0 h0]at h
   by_cases h1:i<n
   . rw[zB0 h1]at h;have e:i.toNat=j:=zR0 h;exact⟨by rw[seqIndex_of h0 h1,e],by omega,by omega,h1⟩
   . rw[zA0 h1]at h;cases h
 . rw [zA0 h0]at h
   by_cases h1:-(n:Int)<=i
   . rw[zB0 h1]at h;have e:(i+n).toNat=j:=zR0 h;exact⟨by rw[seqIndex_neg (by omega) h1,e],by omega,h1,by omega⟩
   . rw[zA0 h1]at h;cases h
theorem rk{α:Type}{xs:List α}{i:Int}{v:α}(h:atI xs i=some v):∃j,seqIndex? i xs.length=some j/\xs[j]?=some v/\j<xs.length/\-(xs.length:Int)<=i/\i<xs.length:=by
 unfold atI at h;cases e:ixN xs.length i with
 | none=>rw[e]at h;cases h
 | some j=>
   rw[e]at h;obtain⟨h1,h2,h3,h4⟩:=qV e;exact⟨j,h1,h,h2,h3,h4⟩
theorem cM{α:Type}{xs:List α}{j:Nat}{v:α}(h:xs[j]?=some v):atI xs (j:Int)=some v:=by
 have hj:j<xs.length:=(zX0 h).1;have e:ixN xs.length (j:Int)=some j:=by
  unfold ixN;rw[zB0 (by omega),zB0 (by omega)];simp
 unfold atI;rw[e];exact h
theorem tR{α:Type}(xs:List α)(v:α):atI (xs++[v]) (-1)=some v:=by
 have hl:(xs++[v]).length=xs.length+1:=by simp
 have e:ixN (xs++[v]).length (-1)=some xs.length:=by
  unfold ixN;rw[hl,zA0 (by decide),zB0 (by omega)]
  congr 1
  omega
 unfold atI;rw[e];show(xs++[v])[xs.length]?=some v
 simp
def wT(b:Expr):Prop:=∀o i,subscripted b false o i=operate [o,i] (getItem o i)
def IxR(X:Cx)(r:R2):Prop:=
 ∀(value slice:Expr)(pins:List (Addr×Obj))(s:Shared)(σ:St)(H:Hp)(x y:V)(v u:Value)(Q:VK),Inv X pins σ H s->RelV x v->RelV y u->r x y H Q ->
  subscripted slice false v u=operate [v,u] (getItem v u)->wpAny (model X.prog X.w) X.A (subscriptTail value slice v u) (EP X pins σ Q) X.xe s
def MtR(X:Cx)(id:String)(r:V->List V->Hp->VK->Prop):Prop:=
 ∀(pins:List (Addr×Obj))(s:Shared)(σ:St)(H:Hp)(x:V)(xs:List V)(v:Value)(us:List Value)(Q:VK),Inv X pins σ H s->RelV x v->Vals xs us->r x xs H Q ->
  wpAny (model X.prog X.w) X.A (call (.builtin id) (v::us)) (EP X pins σ Q) X.xe s
section
variable {X:Cx} {a b:Expr} {ta tb:TE} {pos:Pos}
theorem IxR.or{r r':R2}(h:IxR X r)(h':IxR X r'):IxR X (fun x y H Q=>r x y H Q∨r' x y H Q):=by
 intro value slice pins s σ H x y v u Q I rx ry q hs;rcases q with q | q
 . exact h value slice pins s σ H x y v u Q I rx ry q hs
 . exact h' value slice pins s σ H x y v u Q I rx ry q hs
theorem aY{r:R2}(hr:IxR X r)(ha:PE X a ta)(hb:PE X b tb)(hs:wT b):PE X (.Subscript a b pos) (tOp r ta tb):=by
 intro pins s σ H Q I h;exact Subscript_ (EY ha hb I h fun v u s2 x y H2 I2 rx ry q=>hr a b pins s2 σ H2 x y v u Q I2 rx ry q (hs _ _))
def Ea(K:W.Frag):R2:=fun x y H Q=>∃p xs i v,x=.ref p/\y=.int i/\SqL K H p xs/\atI xs i=some v/\Q v H
def rIxT(K:W.Frag):R2:=fun x y H Q=>∃p xs i v,x=.ref p/\y=.int i/\SqT K H p xs/\atI xs i=some v/\Q v H
def rIxS:R2:=fun x y H Q=>∃z i c,x=.str z/\y=.int i/\z.length<=sizeLine/\atI z.cps.toList i=some c/\Q (.str ⟨#[c]⟩) H
theorem ix_list:IxR X (Ea X.K):=by
 intro value slice pins s σ H x y v u Q I rx ry h hs;obtain⟨p,xs,i,z,rfl,rfl,hq,he,q⟩:=h;cases rx;obtain⟨t,rfl⟩:=ry;obtain⟨its,r,pl,hz⟩:=I.list hq;obtain⟨j,h1,h2,h3,h4,h5⟩:=rk he;obtain⟨w,ew,rw'⟩:=r.get h2;have hl:=r.length;have hn:=iU;have fin:EP X pins σ Q w s:=⟨z,H,I,rw',q⟩
 by_cases h0:0<=i
 . have hj:i.toNat=j:=by
    rw[seqIndex_of h0 h5]at h1;exact zR0 h1
   exact item_listR pl.isList h0 (by omega) (by rw[hj];simpa using ew) fin hs
 . have hj:(i+(its.toArray.size:Int)).toNat=j:=by
    rw[seqIndex_neg (by omega) h4]at h1;rw[zO0,←hl];exact zR0 h1
   exact subscriptTail_builtinR (x:=w) pl.isList.typeIs slot_list_getitem.lookup
    (wpAny_getItem_list_neg (Q:=fun r s'=>r=w/\EP X pins σ Q r s') pl.isList (by omega) (by rw[zO0] <;> omega) (by omega) (by rw[hj];simpa using ew) ⟨rfl,fin⟩) hs
theorem bc:IxR X (rIxT X.K):=by
 intro value slice pins s σ H x y v u Q I rx ry h hs;obtain⟨p,xs,i,z,rfl,rfl,hq,he,q⟩:=h;cases rx;obtain⟨t,rfl⟩:=ry;obtain⟨its,r,pl,hz⟩:=I.tuple hq;obtain⟨j,h1,h2,h3,h4,h5⟩:=rk he;obtain⟨w,ew,rw'⟩:=r.get h2;have hl:=r.length;have hn:=iU;have fin:EP X pins σ Q w s:=⟨z,H,I,rw',q⟩
 exact subscriptTail_builtinR (x:=w) pl.typeIs slot_tuple_getitem.lookup
  (getItem_tuple (j:=j) (Q:=fun r s'=>r=w/\EP X pins σ Q r s') pl (by omega) (by omega) (by rw[zO0,←hl];exact h1) (by simpa using ew) ⟨rfl,fin⟩) hs
theorem AW:IxR X rIxS:=by
 intro value slice pins s σ H x y v u Q I rx ry h hs;obtain⟨z,i,c,rfl,rfl,hz,he,q⟩:=h;obtain⟨t,rfl⟩:=rx;obtain⟨t',rfl⟩:=ry;obtain⟨j,h1,h2,h3,h4,h5⟩:=rk he;have hl:z.cps.toList.length=z.length:=by simp [Str.length]
 rw [hl]at h1 h4 h5;have hn:=iU;exact tail_any (typeIs_str s z t) slot_str_getitem.lookup (getItem_str (c:=c) (by
  have e1:decide (i < -(2 ^ 63:Int))=false:=decide_eq_false (by omega);have e2:decide (i≥2 ^ 63)=false:=decide_eq_false (by omega);rw[e1,e2,Bool.or_false]) (by rw[h1];simpa using h2) ⟨.str ⟨#[c]⟩,H,I.tok _,⟨_,rfl⟩,q⟩) hs
theorem uX (its:List Value) (n j:Nat) (u:Value):Obj.mapSeq (·.setIfInBounds j u) { cls:=.type "list",data:=.seq its.toArray n }={ cls:=.type "list",data:=.seq (its.set j u).toArray n }:=by
 simp [Obj.mapSeq]
theorem Inv.lst{pins:List (Addr×Obj)}{σ:St}{H:Hp}{s:Shared}{p:Addr}{xs:List V}(I:Inv X pins σ H s)(h:H p=some (.lst xs)) :
 ∃(its:List Value) (n:Nat),Vals xs its/\s.heap.get? p=some { cls:=.type "list",data:=.seq its.toArray n }/\xs.length<=sizeLine:=by
 obtain⟨z,its,n,r,e⟩:=I.hok p _ h;exact⟨its,n,r,e,z⟩
theorem Inv.lstUpd{pins:List (Addr×Obj)}{σ:St}{H:Hp}{s:Shared}{p:Addr}{xs ys:List V}{its its':List Value}{n n':Nat}{f:Obj->Obj}(I:Inv X pins σ H s)(h:H p=some (.lst xs))
 (ho:s.heap.get? p=some { cls:=.type "list",data:=.seq its.toArray n }) (hf:f { cls:=.type "list",data:=.seq its.toArray n }={ cls:=.type "list",data:=.seq its'.toArray n' }) (r:Vals ys its') (hz:ys.length<=sizeLine) (t:Nat) :
 Inv X pins σ (upd H p (.lst ys)) { s with heap:=s.heap.update p f,toks:=t }:=by
 have e:(s.heap.update p f).get? p=some { cls:=.type "list",data:=.seq its'.toArray n' }:=by
  rw[Heap.get?_update_self f ho (by rw[hf] <;> rfl),hf]
 refine I.write (x:=p) (e:=p) (by rw[h];trivial) (.inl rfl) (fun b u hb q=>(Heap.get?_update_other _ _ (Ne.symm hb)).trans q) ⟨_,e⟩ ?_;exact⟨hz,its',n',r,e⟩
def rSetL:V->V->V->Hp->(Hp->Prop)->Prop:=fun o i v H Q=>∃p xs k j,o=.ref p/\i=.int k/\H p=some (.lst xs)/\ixN xs.length k=some j/\Q (upd H p (.lst (xs.set j v)))
theorem ke:PSet X rSetL:=by
 intro pins s σ H o i v ov iv u Q I ro ri rv h;obtain⟨p,xs,k,j,rfl,rfl,hp,hj,q⟩:=h;cases ro;obtain⟨t,rfl⟩:=ri;obtain⟨its,n,r,ho,hz⟩:=I.lst hp;obtain⟨h1,h2,h3,h4⟩:=qV hj;have hl:=r.length;have hn:=iU;have I':Inv X pins σ (upd H p (.lst (xs.set j v))) { s with heap:=s.heap.update p (Obj.mapSeq (·.setIfInBounds j u)) }:=
  I.lstUpd hp ho (uX its n j u) (r.set rv j) (by rw[List.length_set];exact hz) s.toks
 by_cases h0:0<=k
 . have hk:k.toNat=j:=by
    rw[seqIndex_of h0 h4]at h1;exact zR0 h1
   exact PySem.W.ki_setAt ho h0 (by omega) (by rw[zO0,←hl];exact h4) (by rw[hk];exact⟨_,I',q⟩)
 . have hk:(k+(its.toArray.size:Int)).toNat=j:=by
    rw[seqIndex_neg (by omega) h3]at h1;rw[zO0,←hl];exact zR0 h1
   exact PySem.W.ki_setBack ho (by omega) (by rw[zO0,←hl];exact h3) (by omega) (by rw[hk];exact⟨_,I',q⟩)
def iz:V->Bool
 | .non=>true
 | .bl _=>true
 | .int _=>true
 | .str _=>true
 | _=>false
def eqV:V->V->Bool
 | .non,.non=>true
 | .bl a,.bl b=>a==b
 | .bl a,.int b=>(if a then 1 else 0)==b
 | .int a,.bl b=>a==(if b then 1 else 0)
 | .int a,.int b=>a==b
 | .str a,.str b=>a==b
 | _,_=>false
theorem EK{A:Around}{s:Shared}{y x:V}{u v:Value}(ry:RelV y u)(rx:RelV x v)(fy:iz y=true)(fx:iz x=true):SeqAt.EqAt A s u v (eqV y x):=by
 cases y with
 | non=>
   cases ry;cases x with
   | non=>cases rx;exact SeqAt.EqAt.same _
   | bl b=>cases rx;exact SeqAt.EqAt.none_bool b
   | int b=>obtain⟨t,rfl⟩:=rx;exact SeqAt.EqAt.none_int b t
   | str b=>obtain⟨t,rfl⟩:=rx;exact SeqAt.EqAt.none_str b t
   | _=>exact absurd (show false=true from fx) zW0
 | bl a=>
   cases ry;cases x with
   | non=>cases rx;exact SeqAt.EqAt.bool_none a
   | bl b=>cases rx;exact SeqAt.EqAt.bool_bool a b
   | int b=>obtain⟨t,rfl⟩:=rx;exact SeqAt.EqAt.bool_int a b t
   | str b=>obtain⟨t,rfl⟩:=rx;exact SeqAt.EqAt.bool_str a b t
   | _=>exact absurd (show false=true from fx) zW0
 | int a=>
   obtain⟨t',rfl⟩:=ry;cases x with
   | non=>cases rx;exact SeqAt.EqAt.int_none a t'
   | bl b=>cases rx;exact SeqAt.EqAt.int_bool a t' b
   | int b=>obtain⟨t,rfl⟩:=rx;exact SeqAt.EqAt.int_int a t' b t
   | str b=>obtain⟨t,rfl⟩:=rx;exact SeqAt.EqAt.int_str a t' b t
   | _=>exact absurd (show false=true from fx) zW0
 | str a=>
   obtain⟨t',rfl⟩:=ry;cases x with
   | non=>cases rx;exact SeqAt.EqAt.str_none a t'
   | bl b=>cases rx;exact SeqAt.EqAt.str_bool a t' b
   | int b=>obtain⟨t,rfl⟩:=rx;exact SeqAt.EqAt.str_int a t' b t
   | str b=>obtain⟨t,rfl⟩:=rx;exact SeqAt.EqAt.str_str a t' b t
   | _=>exact absurd (show false=true from fx) zW0
 | _=>exact absurd (show false=true from fy) zW0
def eqU(x:V)(u:Value):Bool:=match u with
 | .none=>eqV .non x
 | .bool b=>eqV (.bl b) x
 | .int i _=>eqV (.int i) x
 | .str z _=>eqV (.str z) x
 | _=>false
theorem vo{x y:V}{u:Value}(r:RelV y u)(f:iz y=true):eqU x u=eqV y x:=by
 cases y with
 | non=>cases r;rfl
 | bl b=>cases r;rfl
 | int i=>obtain⟨t,rfl⟩:=r;rfl
 | str z=>obtain⟨t,rfl⟩:=r;rfl
 | _=>exact absurd (show false=true from f) zW0
theorem kK{x:V}:∀{xs:List V}{us:List Value},Vals xs us->xs.all iz=true->us.any (eqU x)=xs.any fun y=>eqV y x
 | _,_,.nil,_=>rfl
 | y::xs,u::us,.cons r t,f=>by
   rw[List.all_cons,Bool.and_eq_true]at f;rw[List.any_cons,List.any_cons,vo r f.1,kK t f.2]
theorem fF{A:Around}{s:Shared}{x:V}{v:Value}(rx:RelV x v)(fx:iz x=true):∀{xs:List V}{us:List Value},Vals xs us->xs.all iz=true->∀u∈us,SeqAt.EqAt A s u v (eqU x u)
 | _,_,.nil,_=>fun u hu=>by cases hu
 | y::xs,u::us,.cons r t,f=>fun u' hu=>by
   rw[List.all_cons,Bool.and_eq_true]at f;rcases qD0 hu with rfl | hu
   . rw[vo r f.1];exact EK r rx f.1 fx
   . exact fF rx fx t f.2 u' hu
def inV(x:V)(xs:List V):Bool:=xs.any fun y=>eqV y x
def rIn(K:W.Frag)(neg:Bool):R2:=fun x y H Q=>∃p xs,y=.ref p/\(SqL K H p xs∨SqT K H p xs)/\iz x=true/\xs.all iz=true/\Q (.bl (if neg then !inV x xs else inV x xs)) H
theorem xH:OpR X (compareOp .In) (rIn X.K false):=by
 intro pins s σ H x y v u Q I rx ry h;obtain⟨p,xs,rfl,hq,fx,fs,q⟩:=h;cases ry;rcases hq with hq | hq
 . obtain⟨its,r,pl,hz⟩:=I.list hq;refine SeqAt.in_listAt (eqU x) pl.isList (fun w hw=>fF rx fx r fs w (by simpa using hw)) ⟨.bl _,H,I,rfl,?_⟩;rw[show its.toArray.any (eqU x)=its.any (eqU x) by simp,kK r fs];exact q
 . obtain⟨its,r,pl,hz⟩:=I.tuple hq;refine SeqAt.in_tupleAt (eqU x) pl (fun w hw=>fF rx fx r fs w (by simpa using hw)) ⟨.bl _,H,I,rfl,?_⟩;rw[show its.toArray.any (eqU x)=its.any (eqU x) by simp,kK r fs];exact q
theorem qK:OpR X (compareOp .NotIn) (rIn X.K true):=by
 intro pins s σ H x y v u Q I rx ry h;obtain⟨p,xs,rfl,hq,fx,fs,q⟩:=h;cases ry;rcases hq with hq | hq
 . obtain⟨its,r,pl,hz⟩:=I.list hq;refine SeqAt.notIn_listAt (eqU x) pl.isList (fun w hw=>fF rx fx r fs w (by simpa using hw)) ⟨.bl _,H,I,rfl,?_⟩;rw[show its.toArray.any (eqU x)=its.any (eqU x) by simp,kK r fs];exact q
 . obtain⟨its,r,pl,hz⟩:=I.tuple hq;refine SeqAt.notIn_tupleAt (eqU x) pl (fun w hw=>fF rx fx r fs w (by simpa using hw)) ⟨.bl _,H,I,rfl,?_⟩;rw[show its.toArray.any (eqU x)=its.any (eqU x) by simp,kK r fs];exact q
theorem aM:iC X (.builtin "len") (fun xs H Q=>∃p ys,xs=[.ref p]/\(SqL X.K H p ys∨SqT X.K H p ys)/\Q (.int ys.length) H):=by
 intro pins s σ H xs us Q I r h;obtain⟨p,ys,rfl,hq,q⟩:=h;obtain⟨u,rfl,rx⟩:=lK r;cases rx;have hn:=iU;rcases hq with hq | hq
 . obtain⟨its,r',pl,hz⟩:=I.list hq;have hlen:=r'.length;exact Calls.call_len_list pl.isList (by simp only[zO0] <;> omega) ⟨.int ys.length,H,I.tok _,⟨s.toks+1,by rw[zO0,hlen]⟩,q⟩
 . obtain⟨its,r',pl,hz⟩:=I.tuple hq;have hlen:=r'.length;exact len_tuple pl (by simp only[zO0] <;> omega) ⟨.int ys.length,H,I.tok _,⟨s.toks+1,by rw[zO0,hlen]⟩,q⟩
theorem rh:iC X (.type "list") (fun xs H Q=>∃p ys,xs=[.ref p]/\(SqL X.K H p ys∨SqT X.K H p ys)/\∀l,H l=none->Q (.ref l) (upd H l (.lst ys))):=by
 intro pins s σ H xs us Q I r h;obtain⟨p,ys,rfl,hq,q⟩:=h;obtain⟨u,rfl,rx⟩:=lK r;cases rx;have fin:∀(its:List Value),Vals ys its->ys.length<=sizeLine->∀(h':Heap)(c':Nat),(∀b o',s.heap.get? b=some o'->h'.get? b=some o') ->
  h'.get? s.heap.objs.size=some { cls:=.type "list",dict:=none,data:=.seq its.toArray c',slots:=#[] }->EP X pins σ Q (.ref s.heap.objs.size) { s with heap:=h' }:=fun its r' hz h' c' kp e=>
  ⟨.ref s.heap.objs.size,_,I.laid (t':=s.toks) kp (zF0 _) (show ObjOk X.prog X.w _ h' _ (.lst ys)from⟨hz,its,c',r',e⟩),rfl,q _ (I.hok.fresh (zF0 _))⟩
 rcases hq with hq | hq
 . obtain⟨its,r',pl,hz⟩:=I.list hq;have hlen:=r'.length;obtain⟨o,ho,hc,n,hd⟩:=pl.isList;exact call_list_seq p (.inl rfl) ho hc hd (fun h' c' kp e=>fin its r' hz h' c' kp e) (by simp only[zO0] <;> omega)
 . obtain⟨its,r',pl,hz⟩:=I.tuple hq;have hlen:=r'.length;obtain⟨o,ho,hc,n,hd⟩:=pl;exact call_list_seq p (.inr rfl) ho hc hd (fun h' c' kp e=>fin its r' hz h' c' kp e) (by simp only[zO0] <;> omega)
theorem cf:iC X (.type "tuple") (fun xs H Q=>∃p ys,xs=[.ref p]/\((SqL X.K H p ys/\∀l,H l=none->Q (.ref l) (upd H l (.tup ys)))∨(SqT X.K H p ys/\Q (.ref p) H))):=by
 intro pins s σ H xs us Q I r h;obtain⟨p,ys,rfl,h⟩:=h;obtain⟨u,rfl,rx⟩:=lK r;cases rx;rcases h with⟨hq,q⟩ | ⟨hq,q⟩
 . obtain ⟨its,r',pl,hz⟩:=I.list hq;have hlen:=r'.length;refine call_tuple_list pl.isList (fun h' kp=>?_) (by simp only[zO0] <;> omega);have I1:Inv X pins σ H { s with heap:=h' }:=I.kept (t':=s.toks) kp;have I2:Inv X pins σ (upd H h'.objs.size (.tup ys)) { s with heap:=h'.push { cls:=.type "tuple",data:=.seq its.toArray } }:=
    I1.laid (t':=s.toks) (fun b o e=>zJ0 _ e) (zF0 _) (show ObjOk X.prog X.w _ _ _ (.tup ys)from⟨hz,its,r',IsTup.new _ _,_,zV0 _ rfl,rfl⟩)
   exact⟨.ref h'.objs.size,_,I2,rfl,q _ (I1.hok.fresh (zF0 _))⟩
 . obtain⟨its,r',pl,hz⟩:=I.tuple hq;exact call_tuple_same pl ⟨.ref p,H,I,rfl,q⟩
def tyV(K:W.Frag)(T:String)(x:V)(H:Hp):Prop:=match x with
 | .str _=>T="str"
 | .int _=>T="int"
 | .ref p=>(T="list"/\∃xs,SqL K H p xs)∨(T="tuple"/\∃o,K.lookup p=some o/\o.cls=.type "tuple"/\o.dict=none)∨
  (T="dict"/\((∃kvs,H p=some (.dK kvs))∨∃kvs,H p=some (.dT kvs)))∨(T="set"/\∃S n,H p=some (.set S n))
 | _=>False
theorem DJ{pins:List (Addr×Obj)}{σ:St}{H:Hp}{s:Shared}{T:String}{x:V}{v:Value}(I:Inv X pins σ H s)(r:RelV x v)(ty:tyV X.K T x H) :
 s.TypeIs v T/\∀a,v=.ref a->∃ob,s.heap.get? a=some ob/\ob.dict=none:=by
 cases x with
 | str z=>
   obtain⟨t,rfl⟩:=r;cases(show T="str" from ty);exact⟨typeIs_str s z t,fun _ e=>nomatch e⟩
 | int i=>
   obtain⟨t,rfl⟩:=r;cases(show T="int" from ty);exact⟨typeIs_int s i t,fun _ e=>nomatch e⟩
 | ref p=>
   cases r;rcases ty with⟨rfl,xs,hq⟩ | ⟨rfl,o,hk,hc,hd⟩ | ⟨rfl,hk⟩ | ⟨rfl,S,n,hk⟩
   . obtain⟨its,_,pl,_⟩:=I.list hq;refine⟨pl.isList.typeIs,fun a e=>?_⟩;cases e;obtain⟨o,n,e,c,hd,_⟩:=pl;exact⟨o,e,hd⟩
   . refine⟨⟨o,I.kIn p o hk,hc⟩,fun a e=>?_⟩;cases e;exact⟨o,I.kIn _ o hk,hd⟩
   . have z:∃o,s.heap.get? p=some o/\o.ExactDict:=by
      rcases hk with⟨kvs,hk⟩ | ⟨kvs,hk⟩
      . obtain⟨_,_,_,_,o,_,_,e,ex,_⟩:=I.hok p _ hk;exact⟨o,e,ex⟩
      . obtain⟨_,_,_,_,o,_,_,e,ex,_⟩:=I.hok p _ hk;exact⟨o,e,ex⟩
     obtain⟨o,e,ex⟩:=z;refine⟨⟨o,e,ex.1⟩,fun a e2=>?_⟩;cases e2;exact⟨o,e,ex.2.1⟩
   . obtain⟨o,_,_,_,e,ex,_⟩:=I.hok p _ hk;refine⟨⟨o,e,ex.1⟩,fun a e2=>?_⟩;cases e2;exact⟨o,e,ex.2.1⟩
 | _=>exact False.elim ty
def tBM(K:W.Frag)(T:String)(r:V->List V->Hp->VK->Prop)(to:TE)(t:TA):TE:=fun σ H Q=>to σ H fun x H1=>tyV K T x H1/\t σ H1 fun xs H2=>r x xs H2 Q
variable {o e:Expr} {es:List Expr} {to:TE} {t:TA} {name:Str} {apos cpos:Pos} {T id:String} {r:V->List V->Hp->VK->Prop}
theorem kx (pa:PlainAttrs T) (slot:Slot T name id) (hty:typeOf (.builtin id)=pure (.type "method_descriptor")) (hm:MtR X id r) (ho:PE X o to) (ha:PA X (e::es) t)
 (hbase:attributeBase o name X.env (eval o X.env)=eval o X.env:=by rfl)
 (hfew:((backTo cpos (starEach (e::es) X.env)).all (fun x=>!x.1)&&(backToKw cpos (keywordEach [] X.env)).all (fun x=>x.1.isSome)
  &&decide ((e::es).length+([]:List Keyword).length+(if([]:List Keyword).isEmpty then 0 else 1)<30))=true:=by rfl)
 (hline:(apos.endLine==cpos.line)=true:=by rfl) (hs:starEach (e::es) X.env=(false,eval e X.env)::starEach es X.env:=by rfl) (hplain:(backTo cpos (starEach es X.env)).any (·.1)=false:=by rfl) :
 PE X (.Call (.Attribute o name apos) (e::es) [] cpos) (tBM X.K T r to t):=by
 intro pins s σ H Q I h;refine wpAny_Call_method_late hbase hfew hline rfl (thn (ho pins s σ H _ I h) fun v s1 ⟨x,H1,I1,r1,ty,q1⟩=>?_);obtain⟨h1,h2⟩:=DJ I1 r1 ty;refine⟨T,id,pa,slot,hty,h1,h2,?_⟩;have hA:=ha cpos pins s1 σ H1 _ I1 q1;rw[hs]at hA ⊢;refine Calls.callWith_builtin (by show(false||(backTo cpos (starEach es X.env)).any (·.1))=false;rw[hplain] <;> rfl) (Calls.evalArgs_plain ?_);exact thn hA fun us s2 ⟨vs,H2,I2,r2,q2⟩=>hm pins s2 σ H2 x vs v us Q I2 r1 r2 q2
/- xs.append(e),list.index on a module's tuple .. are MtR facts of 06m -/
end
def MtM(X:Cx)(id:String)(r:V->List V->Hp->VK->Prop):Prop:=
 ∀(pins:List (Addr×Obj))(s:Shared)(σ:St)(H:Hp)(x:V)(xs:List V)(v:Value)(us:List Value)(Q:VK),Inv X pins σ H s->RelV x v->Vals xs us->r x xs H Q ->
  wpAny (model X.prog X.w) X.A (call (.builtin id) (v::us)) (EP X pins σ Q) X.xe s
theorem Vals.one:∀{x:V}{us:List Value},Vals [x] us->∃u,us=[u]/\RelV x u
 | _,_,.cons r .nil=>⟨_,rfl,r⟩
theorem Vals.rep{xs:List V}{us:List Value}(h:Vals xs us):∀k:Nat,Vals (List.replicate k xs).flatten (List.replicate k us).flatten
 | 0=>.nil
 | k+1=>by
   rw[List.replicate_succ,List.replicate_succ,List.flatten_cons,List.flatten_cons];exact Vals.append h (Vals.rep h k)
theorem jH(its:List Value):∀(k:Nat)(acc:List Value),
 List.foldl (fun x1 x2=>x1++x2) acc.toArray (List.replicate k its.toArray)=(acc++(List.replicate k its).flatten).toArray
 | 0,acc=>by simp
 | k+1,acc=>by
   have e:acc.toArray++its.toArray=(acc++its).toArray:=by simp
   have e2:(acc++its)++(List.replicate k its).flatten=acc++(List.replicate (k+1) its).flatten:=by
    rw[List.replicate_succ,List.flatten_cons,List.append_assoc]
   rw[←e2,←jH its k (acc++its),←e,List.replicate_succ,List.foldl_cons]
section
variable {X:Cx} {pins:List (Addr×Obj)} {σ:St} {H:Hp} {s:Shared} {l b:Addr} {xs ys zs:List V}
theorem Inv.lset{its its':List Value}{n:Nat}{f:Array Value->Array Value}{t':Nat}(I:Inv X pins σ H s)(hH:H l=some (.lst xs))
 (e:s.heap.get? l=some { cls:=.type "list",data:=.seq its.toArray n }) (hf:f its.toArray=its'.toArray) (hv:Vals ys its') (hz:ys.length<=sizeLine) :
 Inv X pins σ (upd H l (.lst ys)) { s with heap:=s.heap.update l (Obj.mapSeq f),toks:=t' }:=by
 have q:=PySem.IsL.update e f;rw[hf]at q;refine I.write (x:=l) (e:=l) (by rw[hH];exact trivial) (.inl rfl) (fun b' u hb hu=>(Heap.get?_update_other s.heap (Obj.mapSeq f) (Ne.symm hb)).trans hu) ⟨_,q⟩ ?_;exact⟨hz,its',_,hv,q⟩
theorem Inv.lnew{its:List Value}{t':Nat}(I:Inv X pins σ H s)(hv:Vals ys its)(hz:ys.length<=sizeLine) :
 Inv X pins σ (upd H s.heap.objs.size (.lst ys)) { s with heap:=s.heap.push { cls:=.type "list",data:=.seq its.toArray },toks:=t' }:=
 I.laid (fun _ _ q=>zJ0 _ q) (zF0 _) ⟨hz,its,0,hv,zV0 _ rfl⟩
theorem Inv.fresh(I:Inv X pins σ H s):H s.heap.objs.size=none:=I.hok.fresh (zF0 _)
theorem Inv.lstM (I:Inv X pins σ H s) (hH:H l=some (.lst xs)):xs.length<=sizeLine/\∃(its:List Value) (n:Nat),Vals xs its/\xs.length=its.length/\s.heap.get? l=some { cls:=.type "list",data:=.seq its.toArray n }:=by
 obtain⟨z,its,n,r,e⟩:=I.hok l _ hH;exact⟨z,its,n,r,r.length,e⟩
theorem sH{n:Nat}(h:n<=sizeLine):Builtin.List.listTooLong n=false:=by
 unfold Builtin.List.listTooLong;exact decide_eq_false (by omega)
end
section
variable {X:Cx}
def Cf:V->List V->Hp->VK->Prop:=fun x vs H Q=>∃l xs y,x=.ref l/\vs=[y]/\H l=some (.lst xs)/\xs.length<sizeLine/\Q .non (upd H l (.lst (xs++[y])))
theorem fh:MtM X "list.append" Cf:=by
 intro pins s σ H x vs v us Q I rx rv h;obtain⟨l,xs,y,rfl,rfl,hH,hz,q⟩:=h;cases rx;obtain⟨u,rfl,ru⟩:=rv.one;obtain⟨z,its,n,r,hl,e⟩:=I.lstM hH;refine call_meets F.slot_list_append ⟨_,e,rfl⟩ F.entry_list_append (F.args_list_append_2 _ _) (PySem.list_append l its.toArray n u (by rw[zO0];omega)) ⟨e,?_⟩;refine⟨.non,_,I.lset (its':=its++[u]) hH e (by simp) (r.append (.cons ru .nil)) ?_,rfl,q⟩;rw[zN0,qH0];omega
def Ce:V->List V->Hp->VK->Prop:=fun x vs H Q=>∃l b xs zs,x=.ref l/\vs=[.ref b]/\H l=some (.lst xs)/\H b=some (.lst zs)/\xs.length+zs.length<=sizeLine/\Q .non (upd H l (.lst (xs++zs)))
theorem xW:MtM X "list.extend" Ce:=by
 intro pins s σ H x vs v us Q I rx rv h;obtain⟨l,b,xs,zs,rfl,rfl,hH,hB,hz,q⟩:=h;cases rx;obtain⟨u,rfl,ru⟩:=rv.one;cases ru;obtain⟨z,its,n,r,hl,e⟩:=I.lstM hH;obtain⟨z2,its2,n2,r2,hl2,e2⟩:=I.lstM hB;have hsz:its.toArray.size+its2.toArray.size<=sizeLine:=by rw[zO0,zO0];omega
 have hlong:¬ (!its.toArray.isEmpty&&Builtin.List.listTooLong (its.toArray.size+its2.toArray.size))=true:=by
  rw[sH hsz,Bool.and_false];exact zW0
 refine call_meets F.slot_list_extend ⟨_,e,rfl⟩ F.entry_list_extend (F.args_list_extend_2 _ _)
  (AutoSeq1.list_extend_list_list_0 l its.toArray n b its2.toArray n2 hlong (by rw[zO0];omega) (by omega)) ⟨e,e2,?_⟩
 refine⟨.non,_,I.lset (its':=its++its2) hH e (by simp) (r.append r2) ?_,rfl,q⟩;rw[zN0];omega
def rCat:R2:=fun x y H Q=>∃l b xs zs,x=.ref l/\y=.ref b/\H l=some (.lst xs)/\H b=some (.lst zs)/\xs.length+zs.length<=sizeLine/\∀p,H p=none->Q (.ref p) (upd H p (.lst (xs++zs)))
theorem qL:OpR X (binaryOp .Add) rCat:=by
 intro pins s σ H x y v u Q I rx ry h;obtain⟨l,b,xs,zs,rfl,rfl,hH,hB,hz,q⟩:=h;cases rx;cases ry;obtain⟨z,its,n,r,hl,e⟩:=I.lstM hH;obtain⟨z2,its2,n2,r2,hl2,e2⟩:=I.lstM hB;refine PySem.P.add_list e e2 ?_ (by rw[zO0,zO0];omega);have ea:its.toArray++its2.toArray=(its++its2).toArray:=by simp
 rw[ea];exact⟨.ref _,_,I.lnew (t':=s.toks) (r.append r2) (by rw[zN0];omega),rfl,q _ I.fresh⟩
def rRep:R2:=fun x y H Q=>∃l k xs,x=.ref l/\y=.int k/\H l=some (.lst xs)/\-(2 ^ 63)<=k/\k<2 ^ 63/\xs.length*k.toNat<=sizeLine/\
 ∀p,H p=none->Q (.ref p) (upd H p (.lst (List.replicate k.toNat xs).flatten))
theorem wz{α:Type}(xs:List α)(k:Nat):(List.replicate k xs).flatten.length=k*xs.length:=by
 induction k with
 | zero=>simp
 | succ k ih=>rw[List.replicate_succ,List.flatten_cons,zN0,ih,Nat.succ_mul,Nat.add_comm]
theorem Ei:OpR X (binaryOp .Mult) rRep:=by
 intro pins s σ H x y v u Q I rx ry h;obtain⟨l,k,xs,rfl,rfl,hH,h1,h2,hz,q⟩:=h;cases rx;obtain⟨t,rfl⟩:=ry;obtain⟨z,its,n,r,hl,e⟩:=I.lstM hH;have hlen:its.toArray.size*k.toNat<=sizeLine:=by rw[zO0,←hl];exact hz
 have hcap:¬ its.toArray.size*k.toNat>(2 ^ 63-1) / 8:=by
  have:(sizeLine:Nat)<=(2 ^ 63-1) / 8:=by decide
  omega
 have hfit:¬ (!Builtin.List.listFitsIndex k)=true:=by
  rw[fitsIndex_both h1 h2];exact zW0
 have hlong:¬ Builtin.List.listTooLong (its.toArray.size*k.toNat)=true:=by
  rw[sH hlen];exact zW0
 have hnew:List.foldl (fun x1 x2=>x1++x2) #[] (List.replicate (if its.toArray.isEmpty=true then 0 else k.toNat) its.toArray)=(List.replicate k.toNat its).flatten.toArray:=by
  have f0:∀m:Nat,List.foldl (fun x1 x2=>x1++x2) #[] (List.replicate m its.toArray)=(List.replicate m its).flatten.toArray:=fun m=>by
   have:=jH its m []
   rw[List.nil_append]at this;exact this
  rw[f0];cases its with
  | nil=>simp
  | cons a r'=>rw[zA0 (by simp)]
 refine wpAny_binaryOp_repeat_ref (T:="list") (U:="int") (by decide) ⟨_,e,rfl⟩ (fun s'=>typeIs_int s' k t) noFill_list_mul F.fills_int_mul F.slot_int_rmul repeat_list F.slot_int_index.lookup
  (call_meets F.slot_int_rmul (typeIs_int s k t) F.entry_int_rmul (F.args_int_rmul_2 _ _) (int___rmul___int_list k t l its.toArray n)
   ⟨e,rfl,⟨_,e,rfl⟩,call_meets F.slot_list_mul ⟨_,e,rfl⟩ F.entry_list_mul (F.args_list_mul_2 _ _) (AutoListH.list___mul___list_int_3 l its.toArray n k t hfit hcap hlong) ⟨e,?_⟩⟩)
 rw[hnew];exact⟨.ref _,_,I.lnew (t':=s.toks) (r.rep k.toNat) (by rw[wz,Nat.mul_comm];exact hz),rfl,q _ I.fresh⟩
end
end L2
namespace Att
open PySem PySem.W PySem.Calls PyProof.Rows
theorem mq{P:Params}{h:Heap}:∀(ns:List Int)(vs:List Value),WellAll P h vs (ns.map WData.int)->IntsAre vs ns:=by
 intro ns
 induction ns with
 | nil=>
   intro vs w;rw[List.map_nil]at w;cases w;exact .nil
 | cons n ns ih=>
   intro vs w;rw[zS0]at w;cases w with
   | cons a b=>
     cases a;exact .cons _ _ (ih _ b)
theorem xq{l:OpenLaw}{n:Nat}(hn:l.most=some n){P:Params}{h:Heap}{args:List WData}{vals:List Value}
 (hpre:l.row.toRowW.claim.pre args=true) (hwl:WellAll P h vals args) :
 ∃a vs ns,vals=[Value.ref a]/\args=[WData.list (ns.map WData.int)]/\h.get? a=some { cls:=.type "list",data:=.seq vs.toArray }/\IntsAre vs ns/\ns.length<=n:=by
 have hsh:WShape.hasAll [] args [.list .int]=true:=(pre_splitW hpre).1;have hc:l.pre.holds [] { args:=args }=true:=(pre_splitW hpre).2;obtain⟨d,r,rfl,h1,h2⟩:=hasAllW_cons hsh;obtain rfl:=hasAllW_nil h2;obtain⟨xs,rfl,h3⟩:=hasW_list h1;obtain⟨ns,rfl⟩:=items_int h3;have hlen:ns.length<=n:=by
  unfold OpenLaw.pre at hc;have h4:(WTm.not (.lt (.lit (.int (n:Int))) (.len (.arg 0)))).holds [] { args:=[.list (ns.map .int)] }=true:=by
   have h4:=(holds_andW hc).1;rw[hn]at h4;exact h4
  have h5:=condW_of h4 (w_not (w_lt w_lit (w_len_list (w_arg rfl))));rw[zG0]at h5;refine Nat.le_of_not_lt fun q=>?_
  have q':(n:Int)<((ns.length:Nat):Int):=by omega
  first
   | (rw[decide_eq_true q']at h5;exact absurd h5 (by decide))
   | (simp at h5;omega)
 cases hwl with
 | cons w1 w2=>
   cases w2;cases w1 with
   | list ho hall=>exact⟨_,_,ns,rfl,rfl,ho,mq ns _ hall,hlen⟩
theorem xF(l:OpenLaw)(args:List WData):l.row.toRowW.claim.post args (.bool true) args=true:=
 postW_of (r:=l.row.toRowW) (X:=(true==true))
  (show WShape.has [] (.bool true) .bool=true by first | rfl | decide | simp [WShape.has,WShape.arms,WShape.armsAll])
  (show(WTm.eq .res (.lit (.bool true))).value [] { args:=args,res:=some (.bool true),after:=args }=some (.bool (true==true))from w_eq_bool (w_res rfl) w_lit) rfl
theorem attach_call{l:OpenLaw}{n:Nat}{q:Program}{loose:List Str}{XP:(Str->Option Value)->Heap->Prop}{YP:World->Heap->Prop}{d:DefRec}
 (hn:l.most=some n) (hdf:d.params.defaults=[])
 (call:∀(w:World)(s₀ s₁:Shared)(mg mb:Str->Option Value)(fa:Addr)(o:Obj)(pm cd doc:Value)(a:Addr)(vs:List Value)(ns:List Int),
  Ground q loose [] XP w s₀ mg mb s₁.heap->YP w s₁.heap ->
  s₁.heap.get? fa=some o->o.data=.func (docDef d.name d.params d.body d.scope pm cd doc)->s₁.heap.CodeRec cd d.name->mg d.name=some (.ref fa) ->
  s₁.heap.get? a=some { cls:=.type "list",data:=.seq vs.toArray }->IntsAre vs ns->ns.length<=n->s₁.gens=#[] ->
  codeAny (model l.prog w) callerA (.call (.ref fa) ⟨[.ref a],[]⟩) (fun r s'=>r=.ok (.ret (.bool true))/\OldK s₁.heap s'.heap/\s'.os=s₁.os/\AllBare s'.gens) s₁) :
 WalkO q loose XP YP l.row.toRowW d [] (fun f vs=>PySem.call f vs):=by
 intro w s₀ s₁ mg mb G Y fa o pm cd doc dV kV ho hd hcd hD hmg hg args vals as hpre hlay hrd hwl hlo;obtain rfl:dV=.none:=Dflts.none hD hdf;obtain rfl:kV=.none:=Dflts.noKw hD;obtain⟨a,vs,ns,rfl,rfl,hobj,hints,hlen⟩:=xq hn hpre hwl;refine enter_call (codeAny_mono (call w s₀ s₁ mg mb fa o pm cd doc a vs ns G Y ho (fd_plain hd) hcd hmg hobj hints hlen hg) fun r s' hq=>?_);obtain⟨rfl,h2,h3,h4⟩:=hq;exact⟨.inl ⟨.bool true,.bool true,[],rfl,fun _=>rfl,.bool true,xF l _,fun _=>⟨List.Pairwise.nil,fun _ hm=>(nomatch hm)⟩⟩,h2,h3,h4⟩
end Att
namespace L2
open PySem PySem.Spec PyProof.Rows
theorem pz:∀{vs:List Value}{ns:List Int},IntsAre vs ns->Vals (ns.map V.int) vs
 | _,_,.nil=>.nil
 | _,_,.cons n t h=>.cons ⟨t,rfl⟩ (pz h)
def Fe(H:Hp):Prop:=∀b,H b=none∨∃o xs,H b=some (.frz o (.lst xs))
theorem AQ{P:Program}{w:World}{K:W.Frag}{mg mb:Str->Option Value}{CX:CXT}{k:Nat}{fa a:Addr}{fd:FuncData}{x:Str}{sp:Sp}{s₁:Shared}{vs:List Value}{ns:List Int}
 (KX:K.In s₁.heap) (hns:s₁.heap.Ns mainGlobals mg) (hb:s₁.heap.Ns builtinsNs mb) (hbb:∀x:Str,x≠"__name__" -> mb x=bootBuiltins x) (hlim:s₁.heap.NoLimit) (hg:s₁.gens=#[])
 (ha:s₁.heap.get? a=some { cls:=.type "list",data:=.seq vs.toArray }) (hi:IntsAre vs ns) (hl:ns.length<=sizeLine) (hr:Room k callerA)
 (F:∀base:Heap,K.In base->base.Ns mainGlobals mg->FnOk P w K mg base CX k fa fd [x] sp) (hbind:∀(s:Shared)(u:Value),BindsTo s fd ⟨[u],[]⟩ [(x,u)])
 (hsp:∀H:Hp,Fe H->SqL K H a (ns.map V.int)->sp [.ref a] H (fun v _=>v=.bl true) fun _ _ _=>False)
 (hCX:∀H e s',CX [] H s₁ (fun _ _ _=>False) e s'->False) :
 codeAny (model P w) callerA (.call (.ref fa) ⟨[.ref a],[]⟩) (fun r s'=>r=.ok (.ret (.bool true))/\OldK s₁.heap s'.heap/\s'.os=s₁.os/\AllBare s'.gens) s₁:=by
 have rv:=pz hi;have lenV:=hi.length;have core:∀H:Hp,Fe H->SqL K H a (ns.map V.int)->HOk P w H s₁.heap->(∀b,H b≠none->b=a)->(H a≠none->K.lookup a=none) ->
  codeAny (model P w) callerA (.call (.ref fa) ⟨[.ref a],[]⟩) (fun r s'=>r=.ok (.ret (.bool true))/\OldK s₁.heap s'.heap/\s'.os=s₁.os/\AllBare s'.gens) s₁:=by
  intro H hO hS hok hA hK;have base_of:∀{b:Addr}{o:Obj},s₁.heap.get? b=some o->H b=none->(qY s₁.heap H).get? b=some o:=fun e n=>AZ e n
  have noA:∀{b:Addr}{o:Obj}{es:Array DictEntry}{ep:Nat},s₁.heap.get? b=some o->o.data=.dict es ep->H b=none:=fun{b o es ep} e d=>by
   cases q:H b with
   | none=>rfl
   | some u=>
     have e':b=a:=hA b (by rw[q];simp);subst e';rw[ha]at e;cases e;have d':Data.seq vs.toArray _=Data.dict es ep:=d;cases d'
  have nsK:∀{b:Addr}{m:Str->Option Value},s₁.heap.Ns b m->(qY s₁.heap H).Ns b m:=fun{b m} ⟨o,es,ep,e,d,r⟩=>⟨o,es,ep,base_of e (noA e d),d,r⟩
  have hKb:K.In (qY s₁.heap H):=fun b o e=>base_of (KX b o e) (by
   cases q:H b with
   | none=>rfl
   | some u=>
     have e':b=a:=hA b (by rw[q];simp);subst e';rw[hK (by rw[q];simp)]at e;cases e)
  have hM:Mod K mg (qY s₁.heap H):=⟨hKb,nsK hns,⟨mb,nsK hb,hbb⟩,let⟨mc,h1,h2⟩:=hlim;⟨mc,nsK h1,h2⟩⟩
  have e0:Env0 P w K mg (qY s₁.heap H) callerA [] s₁ H:=⟨rfl,hM,fun b o e=>Cy e,Nat.le_of_eq (yn _ _),trivial,fun b hb=>absurd (show b∈([]:List Addr)from hb) (by simp),hok,.of_eq hg⟩
  refine codeAny_mono ((F _ hKb (nsK hns)).run callerA [] s₁ H ⟨[.ref a],[]⟩ [.ref a] [.ref a] _ _ hr e0 (hbind s₁ (.ref a)) (.cons rfl .nil) (hsp H hO hS)) fun r s' h=>?_
  cases r with
  | error e=>exact(hCX H e s' h).elim
  | ok fl=>
    cases fl with
    | next=>exact False.elim h
    | brk=>exact False.elim h
    | cont=>exact False.elim h
    | ret u=>
      obtain⟨v,H',os,bare,un,hok',r',q⟩:=h;have q':v=.bl true:=q;subst q';obtain rfl:u=Value.bool true:=r';refine⟨rfl,OldK.of_keep fun b o e=>?_,os,bare⟩;cases q:H b with
      | none=>exact un.keep b o e q (by intro z;exact absurd (show b∈([]:List Addr)from z) (by simp)) (by simp)
      | some u=>
        rcases hO b with z | ⟨ob,xs,z⟩
        . rw[q]at z;cases z
        . have z2:=un.frzs b ob _ z;obtain⟨e1,_⟩:=hok b _ z;obtain⟨e2,_⟩:=hok' b _ z2;rw[e]at e1;cases e1;exact e2
 cases hk:K.lookup a with
 | some o=>
   have e:=KX a o hk;rw[ha]at e;cases e;refine core (fun _=>none) (fun _=>.inl rfl) (.inr ⟨_,vs.toArray,_,hk,rfl,rfl,rfl,by rw[zO0,lenV];exact hl,by simpa using rv⟩) (fun b u z=>by have z':(none:Option HO)=some u:=z;cases z') (fun b z=>absurd rfl z) fun z=>absurd rfl z
 | none=>
   refine core (fun b=>if b=a then some (.frz { cls:=.type "list",data:=.seq vs.toArray } (.lst (ns.map V.int)))else none) (fun b=>?_) (.inl (.inr ⟨{ cls:=.type "list",data:=.seq vs.toArray },zB0 rfl⟩)) (fun b u z=>?_) (fun b z=>?_) fun _=>hk
   . by_cases hb:b=a
     . exact .inr ⟨_,_,zB0 hb⟩
     . exact .inl (zA0 hb)
   . by_cases hb:b=a
     . have z':=(zB0 hb).symm.trans z;cases z';subst hb;exact⟨ha,by rw[zG0];exact hl,vs,_,rv,ha⟩
     . have z':=(zA0 hb).symm.trans z;cases z'
   . by_cases hb:b=a
     . exact hb
     . exact absurd (zA0 hb) z
theorem walk_of{l:PySem.W.OpenLaw}{n k:Nat}{q:Program}{loose:List Str}{XP:(Str->Option Value)->Heap->Prop}{YP:World->Heap->Prop}{d:DefRec}{K:Params->PySem.W.Frag}{CX:World->CXT}{sp:World->Sp}{x:Str}
 (hn:l.most=some n) (hn2:n<=sizeLine) (hdf:d.params.defaults=[]) (hr:Room k callerA)
 (hY:∀(w:World)(h:Heap),YP w h->(K w.params).In h)
 (F:∀(w:World)(mg:Str->Option Value)(fa:Addr)(h:Heap),(K w.params).In h->h.Ns mainGlobals mg->mg d.name=some (.ref fa) ->
  ∃ fd:FuncData,(∀(s:Shared)(u:Value),BindsTo s fd ⟨[u],[]⟩ [(x,u)])/\
   ∀base:Heap,(K w.params).In base->base.Ns mainGlobals mg->FnOk l.prog w (K w.params) mg base (CX w) k fa fd [x] (sp w))
 (hsp:∀(w:World)(H:Hp)(a:Addr)(ns:List Int),ns.length<=n->Fe H->SqL (K w.params) H a (ns.map V.int)->sp w [.ref a] H (fun v _=>v=.bl true) fun _ _ _=>False)
 (hCX:∀(w:World)(H:Hp)(s:Shared)(e:Value)(s':Shared),CX w [] H s (fun _ _ _=>False) e s'->False) :
 PySem.W.WalkO q loose XP YP l.row.toRowW d [] (fun f vs=>PySem.call f vs):=by
 refine Att.attach_call hn hdf fun w s₀ s₁ mg mb fa o pm cd doc a vs ns G Y ho hd hcd hmg hobj hints hlen hg=>?_
 have KX:=hY w _ Y;obtain⟨fd,hb,hF⟩:=F w mg fa _ KX G.T.g hmg;exact AQ KX G.T.g G.T.b G.T.builtins G.T.nolimit hg hobj hints (qB0 hlen hn2) hr hF hb (fun H hO hS=>hsp w H a ns hlen hO hS) fun H e s'=>hCX w H s₁ e s'
end L2
/- THE LAST THEOREM (shape;LID,My.* are yours):
 My.Adr: a structure of the addresses that your layer names (classes,functions);My.Txt K t: a structure (Prop) of the equations over K;
 My.txt_mk:{K} {implicit addresses ..} (e1:nsIn K mainGlobals "law"=some (some (.ref f))) (e2:K.lookup f=some ⟨oc,od,.func (fnOf "law" "law" params body scope dV kV doc pm an cdv ct),sl⟩) (e3:codeIn K cdv "law"=true) ..:∃t,My.Txt K t
set_option maxRecDepth 100000 in
set_option maxHeartbeats 0 in
theorem PySem.Challenge.cw_LID_holds : PySem.Challenge.rw_LID.Holds:=by
 w_on;o_law;k_head;(case hw=>w_witness2)
 k_fill
 refine L2.walk_of (l:=PySem.Challenge.rw_LID) (n:=63) (k:=40) (x:="script") (CX:=fun w=>..) (sp:=fun _=>My.sp_law) rfl (by decide) rfl ⟨rfl,by decide,by decide⟩ (fun w h Y=>PySem.W.kIn_of Y) ?F ?S ?C
 case F=>
  intro w mg fa h KX G hmg;have T:∃t,My.Txt (L2.KOf KX) t:=by
   dsimp only [L2.KOf]                          -- K must stand as «<heap const> w.params» for k_is
   refine' My.txt_mk ?e1 ?e2 ?e3 ..
   (case e1=>PySem.W.k_is)                    -- in the order: a name -> its address -> its object -> its parts
   (case e2=>PySem.W.k_is)
   ..
  obtain⟨t,T⟩:=T;have e0:=hmg.symm.trans (PySem.W.mg_of KX G T.law);cases e0                                       -- fa is the law's own address;exact⟨_,fun s u=>.of_eq rfl,fun base kb nb=>My.law_fn T kb nb⟩     -- if «.of_eq rfl» comes too early: refine' ⟨_,?b,fun base kb nb=>My.law_fn T kb nb⟩;exact fun s u=>.of_eq rfl
 case S=>exact fun w H a ns hl hO hS=>..
 case C=>exact ..
(the tactic k_is has no namespace: write k_is) -/
namespace L2
open PySem PySem.Spec PyProof.Rows
def bJ(s:Stmt)(j:Nat):Stmt:=match s with
 | .ClassDef _ _ _ body _ _ _ _ _ _ _=>body.getD j (.Pass ⟨0,0,0,0⟩)
 | _=>.Pass ⟨0,0,0,0⟩
def aE(s:Stmt):Arguments:=match s with
 | .FunctionDef _ a _ _ _ _ _ _ _ _=>a
 | _=>{ posonlyargs:=[],args:=[],vararg:=none,kwonlyargs:=[],kw_defaults:=[],kwarg:=none,defaults:=[] }
def aB(s:Stmt):List Stmt:=match s with
 | .FunctionDef _ _ b _ _ _ _ _ _ _=>b
 | _=>[]
def af(s:Stmt):Scope:=match s with
 | .FunctionDef _ _ _ _ _ _ sc _ _ _=>sc
 | _=>{ kind:=.function,names:=[],isGenerator:=false,isCoroutine:=false }
abbrev CX0:CXT:=fun _ _ _ _ _ _=>False
abbrev E0:XK:=fun _ _ _=>False
theorem bY{X:Cx}:fo CX0 X E0:=fun _ _ _ _ _ _ _ h=>h.elim
structure Fun(K:W.Frag)(x qual:Str)(st:Stmt)(f:Addr)(fd:FuncData):Prop where
 ex:∃(oc:Value)(od:Option Addr)(kV doc pm:Value)(an:Option Addr)(cdv ct:Value)(osl:Array (Option Value)),
  fd=PySem.W.fnOf x qual (aE st) (aB st) (af st) .none kV doc pm an cdv ct/\K.lookup f=some ⟨oc,od,.func fd,osl⟩/\PySem.W.codeIn K cdv qual=true
 kp:PySem.W.keepIn K (.ref f)=true
section
variable {P:Program} {w:World} {K:W.Frag} {mg:Str->Option Value} {base:Heap}
theorem Fun.ok{x qual:Str}{st:Stmt}{f:Addr}{fd:FuncData}{N ps:List Str}{k:Nat}{sp:Sp}(F:Fun K x qual st f fd)(S:FnScope N ps (af st))(len:∀vs H Q E,sp vs H Q E->vs.length=ps.length)
 (hbody:∀(cdv:Value)(A:Around)(outer:List Env)(s:Shared)(H:Hp)(vs:List V)(Q:VK)(E:XK),Room k (A.deeper (envOfC qual (af st) s.heap.objs.size f cdv))->sp vs H Q E ->
  ∃t,PSs (jL CX0 P w K mg base N qual (af st) f cdv A outer s H E).nox (aB st) t/\t { nx:=fun _ H'=>Q .non H',rt:=Q } (iG N vs) H):FnOk P w K mg base CX0 (k+1) f fd ps sp:=by
 obtain⟨oc,od,kV,doc,pm,an,cdv,ct,osl,rfl,lk,hcd⟩:=F.ex;refine Bh lk hcd S len fun A outer s H vs Q E hr hsp=>?_
 obtain⟨t,h,q⟩:=hbody cdv A outer s H vs Q E hr hsp;exact⟨t,h.nox,q⟩
theorem Fun.binds{x qual:Str}{st:Stmt}{f:Addr}{fd:FuncData}{ps:List Str}(F:Fun K x qual st f fd)
 (h:∀(kV doc pm:Value)(an:Option Addr)(cdv ct:Value)(us:List Value),us.length=ps.length->bindArgs (PySem.W.fnOf x qual (aE st) (aB st) (af st) .none kV doc pm an cdv ct) ⟨us,[]⟩=pure (ps.zip us)):Binds K fd ps []:=by
 obtain⟨oc,od,kV,doc,pm,an,cdv,ct,osl,rfl,lk,hcd⟩:=F.ex;exact .all (h kV doc pm an cdv ct)
theorem aP{x qual:Str}{st:Stmt}{f:Addr}{oc:Value}{od an:Option Addr}{osl:Array (Option Value)}{kV doc pm cdv ct:Value}(l:K.lookup f=some ⟨oc,od,.func (PySem.W.fnOf x qual (aE st) (aB st) (af st) .none kV doc pm an cdv ct),osl⟩)
 (c:PySem.W.codeIn K cdv qual=true) (k:PySem.W.keepIn K (.ref f)=true):Fun K x qual st f (PySem.W.fnOf x qual (aE st) (aB st) (af st) .none kV doc pm an cdv ct):=⟨⟨oc,od,kV,doc,pm,an,cdv,ct,osl,rfl,l,c⟩,k⟩
end
theorem Dv{A:Around}{k:Nat}(hr:Room k A):A.units+1<cLine:=Nat.lt_of_le_of_lt (Nat.add_le_add_left (by decide:1<=64) _) hr.units
theorem bi{n:Nat}(h:n<=1000):n<sizeLine:=Nat.lt_of_le_of_lt h (by decide)
section
variable {X:Cx}
theorem pv (i:Nat) {x:Str} {pos:Pos} (hN:X.N[i]?=some x:=by rfl) (hv:Vis X.env.scope x:=by first | exact Or.inl rfl | exact Or.inr (Or.inl rfl) | exact Or.inr (Or.inr rfl)) (hd:(x==("__debug__":Str))=false:=by decide)
 (hcd:(x==("__classdict__":Str))=false:=by decide):PE X (.Name x pos) (tVar i):=Ee hN hv hd hcd
end
theorem gx{A B:Prop}(h:B):if false=true then A else B:=by
 rw[zA0 zW0];exact h
theorem jK{A B:Prop}(h:A):if true=true then A else B:=by
 rw[zB0 rfl];exact h
theorem sV{c A B:Prop}[Decidable c](h1:c->A)(h2:¬ c->B):if c then A else B:=by
 by_cases h:c
 . rw[zB0 h];exact h1 h
 . rw[zA0 h];exact h2 h
theorem sU{c A B:Prop}[Decidable c](hc:c)(h:B):if(!decide c)=true then A else B:=by
 rw[decide_eq_true hc];exact gx h
def Same(H H':Hp):Prop:=∀b o,H b=some o->H' b=some o
theorem Same.refl(H:Hp):Same H H:=fun _ _ h=>h
theorem Same.trans{H H1 H2:Hp}(a:Same H H1)(b:Same H1 H2):Same H H2:=fun c o h=>b c o (a c o h)
theorem Same.free{H H':Hp}(e:Same H H'){l:Addr}(h:H' l=Option.none):H l=Option.none:=by
 cases q:H l with
 | none=>rfl
 | some o=>
   rw[e l o q]at h;cases h
end L2
set_option maxHeartbeats 4000000
namespace L2
open PySem PySem.Spec PyProof.Rows
section
variable {X:Cx}
theorem gG:iC X (.builtin "isinstance") (fun xs H Q=>∃x t n b,xs=[x,.ty n]/\TyOf X.K H x t/\PySem.W.kitOne X.K t (.type n)=some b/\Q (.bl b) H):=by
 intro pins s σ H xs us Q I r h;obtain⟨x,t,n,b,rfl,ty,e,q⟩:=h;obtain⟨u,w',rfl,r1,r2⟩:=vals2 r;cases r2;exact yk I r1 ty e (fun tk=>⟨.bl b,H,I.tok tk,rfl,q⟩)
theorem sS(K:W.Frag)(n:String):PySem.W.kitOne K (.type n) (.type n)=some true:=by
 unfold PySem.W.kitOne;rw[zB0 (by simp)]
theorem kD (K:W.Frag):PySem.W.kitOne K (.type "int") (.type "bool")=some false:=by
 show(if((Value.type "int"==Value.type "bool")=true)then some true else if PySem.W.kitMeta "bool"=true then((fastBuiltinMro "int").map (·.contains (.type "bool")))else none)=some false;decide +kernel
def CDivL(_ j:Int):Prop:=0<j/\j<2 ^ 63
theorem Al:OpR X (binaryOp .FloorDiv) (rI CDivL fun i j=>.int (i / j)):=opI fun i j _ _ _ _ _ hc q=>by
 have e:Int.fdiv i j=i / j:=Int.fdiv_eq_ediv_of_nonneg i (Int.le_of_lt hc.1);rw[←e]at q;refine floordiv_int (by have:=hc.1;omega) q (.inl (PyProof.noPylong_of_log2 ?_));have h1:=hc.1;have h2:=hc.2;have h3:j.natAbs<2 ^ 63:=by omega
 have h4:=(Nat.log2_lt (n:=j.natAbs) (k:=63) (by omega)).mpr h3;omega
end
theorem lI:bootBuiltins "int"=some (.type "int"):=by decide +kernel
theorem oQ:bootBuiltins "bool"=some (.type "bool"):=by decide +kernel
theorem oP:bootBuiltins "list"=some (.type "list"):=by decide +kernel
theorem cL:bootBuiltins "tuple"=some (.type "tuple"):=by decide +kernel
theorem oO:bootBuiltins "reversed"=some (.type "reversed"):=by decide +kernel
structure Cal(P:Program)(w:World)(K:W.Frag)(mg:Str->Option Value)(base:Heap)(n:Nat)(x:Str)(ps:List Str)(sp:Sp):Prop where
 ex:∃(f:Addr)(fd:FuncData),FnOk P w K mg base CX0 n f fd ps sp/\Binds K fd ps []/\PySem.W.keepIn K (.ref f)=true/\mg x=some (.ref f)
theorem aJ{X:Cx}{n k:Nat}{x:Str}{ps:List Str}{sp:Sp}{e:Expr}{es:List Expr}{t:TA}{p pos:Pos}(C:Cal X.prog X.w X.K X.mg X.base n x ps sp)(hr:Room k X.A)(hk:n<=k)(hg:Gl X x)
 (ha:PA X (e::es) t) (hdb:(x==("__debug__":Str))=false:=by decide) (he:starEach (e::es) X.env=(false,eval e X.env)::starEach es X.env:=by rfl) (hpl:(backTo pos (starEach es X.env)).any (·.1)=false:=by rfl) :
 PE X (.Call (.Name x p) (e::es) [] pos) (lL sp [] E0 t):=by
 obtain⟨f,fd,F,b,kp,m⟩:=C.ex;exact wm F (hr.mono hk) hg m kp b .nil bY ha hdb he hpl
theorem Cal.of{P:Program}{w:World}{K:W.Frag}{mg:Str->Option Value}{base:Heap}{n:Nat}{x qual:Str}{ps:List Str}{sp:Sp}{st:Stmt}{f:Addr}{fd:FuncData}(F:Fun K x qual st f fd)(O:FnOk P w K mg base CX0 n f fd ps sp)(m:mg x=some (.ref f))
 (h:∀(kV doc pm:Value)(an:Option Addr)(cdv ct:Value)(us:List Value),us.length=ps.length->bindArgs (PySem.W.fnOf x qual (aE st) (aB st) (af st) .none kV doc pm an cdv ct) ⟨us,[]⟩=pure (ps.zip us)):Cal P w K mg base n x ps sp:=
 ⟨f,fd,O,F.binds h,F.kp,m⟩
theorem iteN{c A B:Prop}[Decidable c](hc:¬ c)(h:A):if(!decide c)=true then A else B:=by
 rw[decide_eq_false hc];exact jK h
theorem bz{c A B:Prop}[Decidable c](hc:c)(h:A):if decide c=true then A else B:=by
 rw[decide_eq_true hc];exact jK h
theorem aI{c A B:Prop}[Decidable c](hc:¬ c)(h:B):if decide c=true then A else B:=by
 rw[decide_eq_false hc];exact gx h
def SameBut(f:Addr)(H H':Hp):Prop:=∀b o,b≠f->H b=some o->H' b=some o
theorem SameBut.trans{f:Addr}{H H1 H2:Hp}(a:SameBut f H H1)(b:SameBut f H1 H2):SameBut f H H2:=fun c o h e=>b c o h (a c o h e)
theorem SameBut.refl(f:Addr)(H:Hp):SameBut f H H:=fun _ _ _ h=>h
theorem zL0{f:Addr}{H H':Hp}(h:Same H H'):SameBut f H H':=fun b o _ e=>h b o e
abbrev SameBut.of:=@zL0
theorem SameBut.upd{f:Addr}{H:Hp}(o:HO):SameBut f H (upd H f o):=fun b u h e=>by rw[aq h];exact e
theorem zD0{H:Hp}{p:Addr}(h:H p=none)(o:HO):Same H (upd H p o):=fun b u q=>by rw[aq (aN q h)];exact q
abbrev Same.new:=@zD0
theorem Same.but{f:Addr}{H0 H H':Hp}(a:Same H0 H)(n:H0 f=none)(b:SameBut f H H'):Same H0 H':=fun c o e=>b c o (aN e n) (a c o e)
def FeedAt(H:Hp)(f:Addr):Prop:=∃own st:Int,H f=some (.lst [.int own,.int st])/\0<=own/\0<=st/\st<=2147483646
theorem FeedAt.ne{H:Hp}{f b:Addr}(F:FeedAt H f)(h:H b=none):b≠f:=by
 obtain⟨o,s,e,_⟩:=F;intro z;subst z;rw[h]at e;cases e
theorem FeedAt.same{H H':Hp}{f:Addr}(F:FeedAt H f)(s:Same H H'):FeedAt H' f:=by
 obtain⟨o,t,e,h⟩:=F;exact⟨o,t,s _ _ e,h⟩
def qc:Sp:=fun vs H Q _=>∃(f:Addr)(m:Int),vs=[.ref f,.int m]/\FeedAt H f/\0<m/\m<2 ^ 63/\∀(d:Int)(H':Hp),0<=d->d<m->FeedAt H' f->SameBut f H H'->Q (.int d) H'
def zn(K:W.Frag):Sp:=fun vs H Q _=>∃(a:Addr)(ns:List Int)(k:Int),vs=[.ref a,.int k]/\SqL K H a (ns.map V.int)/\ns.length<=63/\0<=k/\k<1000000/\∀(p:Addr)(H':Hp),H p=none->Same H H'->FeedAt H' p->Q (.ref p) H'
def vU(K:W.Frag):Sp:=fun vs H Q _=>∃(a:Addr)(ns:List Int),vs=[.ref a]/\SqL K H a (ns.map V.int)/\ns.length<=63/\∀H',Q (.bl true) H'
theorem eC{n:Nat}(h:n<=1000):n<=sizeLine:=Nat.le_of_lt (bi h)
theorem BA{ns:List Int}{k:Int}(h0:0<=k)(h:k<(ns.length:Int)):∃v:Int,atI (ns.map V.int) k=some (.int v):=by
 have hk:k.toNat<ns.length:=by omega
 have q:atI (ns.map V.int) ((k.toNat:Nat):Int)=some (.int ns[k.toNat]):=cM (by rw[qA0,zP0 hk] <;> rfl);have ek:((k.toNat:Nat):Int)=k:=by omega
 rw[ek]at q;exact⟨_,q⟩
@[reducible] def eG (X:Cx) (N:List Str) (scope:Scope) (cl:List (Str×Addr)) (s:Shared) (H:Hp) (fp:List Addr):Cx where
 prog:=X.prog
 w:=X.w
 K:=X.K
 mg:=X.mg
 base:=X.base
 A:=X.A
 N:=N
 s₀:=s
 H₀:=H
 env:=compEnvC scope cl s.heap.objs.size X.env
 outer:=X.stack
 stack:=X.stack
 ex:=fp
 fn:=fun _=>false
 calm:=X.calm
 pn:=[]
 xe:=fun _ _=>False
structure CompScope(X:Cx)(x:Str)(N:List Str)(ix:List Nat)(scope:Scope)(cl:List (Str×Addr)):Prop where
 clos:closureFor scope X.env=pure cl
 nocell:∀y∈scope.names,y.2≠.cell
 kind:scope.kind=.function
 names:∀y∈scope.names,y.2=.local->scope.names.lookup y.1=some .local
 own:scope.names.lookup x=some .local
 nd:(x::N).Nodup
 sub:∀p∈cl,X.env.cells.lookup p.1=some p.2
 has:((relabel scope X.env).names.all fun p=>!(p.2==.cell||p.2==.free)||(cl.lookup p.1).isSome)=true
 outs:∀(j:Nat)(y:Str),N[j]?=some y->(relabel scope X.env).names.lookup y=some .cell/\∃k c,ix[j]?=some k/\X.N[k]?=some y/\cl.lookup y=some c/\X.env.scope.names.lookup y=some .cell
def outs(ix:List Nat)(σ:St):St:=ix.map fun k=>(σ[k]?).join
section
variable {X:Cx} {pins:List (Addr×Obj)} {σ:St} {x:Str} {N:List Str} {ix:List Nat} {scope:Scope} {cl:List (Str×Addr)} {fp:List Addr} {H3:Hp} {s3:Shared}
theorem CompScope.cells(S:CompScope X x N ix scope cl){y:Str}{c:Addr}(h:cl.lookup y=some c):X.env.cells.lookup y=some c:=S.sub _ (PySem.mem_of_lookup h)
theorem mI(S:CompScope X x N ix scope cl)(I3:Inv X pins σ H3 s3)(hf:∀b∈fp,kM X pins H3 b)(hlt:∀b∈fp,b<s3.heap.objs.size):(eG X (x::N) scope cl s3 H3 fp).Ok where
 mod:=I3.ok.mod
 kind:=S.kind
 glob:=I3.ok.glob
 blt:=I3.ok.blt
 above:=zF0 _
 inj:=fun y z c h1 h2=>I3.ok.inj y z c (S.cells h1) (S.cells h2)
 has:=fun y hy=>by
  have q:=List.all_eq_true.mp S.has;have hy:(relabel scope X.env).names.lookup y=some .cell∨(relabel scope X.env).names.lookup y=some .free:=hy;have z:∀k:NameKind,(k==.cell||k==.free)=true->(relabel scope X.env).names.lookup y=some k->∃c,cl.lookup y=some c:=fun k hk e=>by
   have r:=q _ (PySem.mem_of_lookup e);rw[hk]at r;exact Option.isSome_iff_exists.mp (by simpa using r)
  rcases hy with e | e
  . exact z _ (by rfl) e
  . exact z _ (by rfl) e
 cab:=fun _ _ h _=>nomatch h
 hd:=I3.ok.hd
 frames:=I3.ok.frames
 stk:=.inl rfl
 exf:=fun b hb=>⟨zQ0 (hlt b hb),fun y c e=>(hf b hb).2.2.2.2.1 y c (S.cells e)⟩
 bs:=fun b o e=>I3.bs b o e
 bsz:=qB0 I3.ok.bsz I3.sz
 noex:=fun b o e hb=>by
  rcases(hf b hb).2.2.2.1 with z | z
  . exact I3.ok.noex b o e z
  . exact absurd (qE0 (zK0 e) (qB0 I3.ok.bsz z)) (qU0 _)
 exfs:=fun b hb z=>by
  rcases qD0 (I3.stkSub b z)with e | e
  . exact(hf b hb).2.1 e
  . exact(hf b hb).2.2.1 e
 funs:=I3.stack
 frf:=I3.stkFree
theorem vx(S:CompScope X x N ix scope cl)(I3:Inv X pins σ H3 s3)(hf:∀b∈fp,kM X pins H3 b)(hlt:∀b∈fp,b<s3.heap.objs.size)(hix:ix.length=N.length){h1:Heap}{t':Nat}{m:Str->Option Value}
 (hn:h1.Ns s3.heap.objs.size m) (hk:∀b o,s3.heap.get? b=some o->h1.get? b=some o):Inv (eG X (x::N) scope cl s3 H3 fp) [] (none::outs ix σ) H3 { s3 with heap:=h1,toks:=t' } where
 ok:=mI S I3 hf hlt
 os:=rfl
 bare:=I3.bare
 base:=Un.kept hk
 loc:=by
  refine⟨m,hn,fun i y v h1' h2 h3=>?_⟩;cases i with
  | zero=>
    have h2':(some (none:Option V))=some (some v):=h2;cases h2'
  | succ j=>
    have h1'':N[j]?=some y:=h1';have h2':(outs ix σ)[j]?=some (some v):=h2;obtain⟨hr,k,c,e1,e2,e3,e4⟩:=S.outs j y h1'';unfold outs at h2';rw[qA0,e1]at h2';have h2'':(σ[k]?).join=some v:=zR0 h2';have e5:σ[k]?=some (some v):=by
     cases q:σ[k]? with
     | none=>rw[q]at h2'';cases h2''
     | some o=>rw[q]at h2'';exact congrArg some h2''
    obtain⟨m0,_,hl⟩:=I3.loc;obtain⟨u,r,l⟩:=hl k y v e2 e5 (.inr (.inl e4));refine⟨u,r,.inr ⟨.inl hr,c,e3,?_⟩⟩;rcases l with⟨kk,_⟩ | ⟨_,c',ec,z⟩
    . have kk':X.env.scope.names.lookup y=some .local:=kk;rw[e4]at kk';cases kk'
    . rw[S.cells e3]at ec;cases ec;obtain⟨o,ho,hd⟩:=z;exact⟨o,hk _ _ ho,hd⟩
 cell:=fun y c e=>by
  obtain⟨v,o,ho,hd⟩:=I3.cell y c (S.cells e);exact⟨v,o,hk _ _ ho,hd⟩
 free:=I3.hok.fresh (zF0 _)
 freeC:=fun y c e=>I3.freeC y c (S.cells e)
 pin:=fun p hp=>absurd (show p∈([]:List (Addr×Obj))from hp) (by simp)
 hok:=I3.hok.kept hk
 len:=by
  show(none::outs ix σ).length=(x::N).length;rw[qC0,qC0];unfold outs;rw[zG0,hix]
theorem yy(I3:Inv X pins σ H3 s3)(hf:∀b∈fp,kM X pins H3 b){σ':St}{H':Hp}{s':Shared}{h'':Heap}{N':List Str}(J:Inv (eG X N' scope cl s3 H3 fp) [] σ' H' s')(hb:Heap.SameBut s3.heap.objs.size s'.heap h'') :
 Inv X pins σ H' { s' with heap:=h'' }:=by
 have ne:∀b o,s3.heap.get? b=some o->b≠s3.heap.objs.size:=fun b o e=>zQ0 (zK0 e)
 have B:Un (frs X.stack) fp H3 H' s3.heap s'.heap:=J.base;refine I3.call' (s':={ s' with heap:=h'' }) (ch:=fp) J.os ⟨fun b o e n h1 h2=>(hb.2 b (ne b o e)).trans (B.keep b o e n h1 h2),fun b o e n h1 h2=>?_,B.free,fun b o e h2=>?_,B.tups,B.frzs,B.tbls⟩ (fun b ob e=>?_) J.bare (fun b z=>?_)
 . obtain⟨sl,q⟩:=B.slot b o e n h1 h2;exact⟨sl,(hb.2 b (ne b o e)).trans q⟩
 . obtain⟨o',q⟩:=B.there b o e h2;exact⟨o',(hb.2 b (ne b o e)).trans q⟩
 . have fr:H' s3.heap.objs.size=none:=J.free;refine(J.hok b ob e).stay (fun c w' hc q=>(hb.2 c ?_).trans q) (fun _ q=>q) fun _ _ q=>q
   rintro rfl;rcases hc with rfl | hc
   . rw[fr]at e;cases e
   . rw[fr]at hc;cases hc
 . obtain⟨_,h2,_,h4,h5,h6⟩:=hf b z;exact⟨h4,h2,h5,h6⟩
end
abbrev TBl:=St->Hp->(Hp->Prop)->VK->Prop
def PB(X:Cx)(ifs:List Expr)(elt:Expr)(tb:TBl):Prop:=
 ∀(pins:List (Addr×Obj))(s:Shared)(σ:St)(H:Hp)(skip:Hp->Prop)(keep:VK),Inv X pins σ H s->tb σ H skip keep ->
  wpAny (model X.prog X.w) X.A (forIn ifs true fun c r=>if r=true then do let ok ←isTrue c X.env (eval c X.env);pure (ForInStep.yield ok)else pure (ForInStep.yield r))
   (fun ok s3=>if ok=true then wpAny (model X.prog X.w) X.A (eval elt X.env) (EP X pins σ keep) X.xe s3 else ∃H',Inv X pins σ H' s3/\skip H') X.xe s
def tB0(te:TE):TBl:=fun σ H _ keep=>te σ H keep
def tB1(tc:TT)(te:TE):TBl:=fun σ H skip keep=>tc σ H fun b H1=>if b=true then te σ H1 keep else skip H1
theorem eE{X:Cx}{elt:Expr}{te:TE}(he:PE X elt te):PB X [] elt (tB0 te):=by
 intro pins s σ H skip keep I h;refine wpAny_tests_nil ?_;rw[zB0 rfl];exact he pins s σ H keep I h
theorem pb_if{X:Cx}{c elt:Expr}{tc:TT}{te:TE}(hc:PT X c tc)(he:PE X elt te):PB X [c] elt (tB1 tc te):=by
 intro pins s σ H skip keep I h;refine wpAny_tests_one (thn (hc pins s σ H _ I h) fun b s1 ⟨H1,I1,q1⟩=>?_);cases b with
 | true=>
   rw[zB0 rfl]at q1 ⊢;exact he pins s1 σ H1 keep I1 q1
 | false=>
   rw[zA0 (by decide)]at q1 ⊢;exact⟨H1,I1,q1⟩
def rB(J:It)(D:Addr)(ix:List Nat)(tb:TBl)(σ:St)(H:Hp)(Q:VK):Prop:=∃W:Nat->Nat->Hp->Prop,(∃m,W 0 m (upd H D (.lst [])))/\∀i m H2,W i m H2 ->
 (J.stop i H2/\Q (.ref D) H2)∨(J.go i H2/\∀y H3,J.yld i H2 y H3->tb (some y::outs ix σ) H3 (fun H4=>∃m',m'<m/\W (i+1) m' H4)
  fun z H4=>∃ys,H4 D=some (.lst ys)/\ys.length<sizeLine/\∃m',m'<m/\W (i+1) m' (upd H4 D (.lst (ys++[z]))))
def yW(wi:TI)(ix:List Nat)(tb:TBl):TE:=fun σ H Q=>wi σ H fun J H1=>∀D,H1 D=none->rB J D ix tb σ H1 Q
section
variable {prog:Program} {w:World} {A:Around} {E:Value->Shared->Prop} {R:Result->Shared->Prop} {s:Shared}
theorem tH{elt target iter:Expr}{ifs:List Expr}{scope:Scope}{pos:Pos}{it acc:Value}{env:Env}(I:Nat->Shared->Prop)
 (turn:∀n s,I n s->wpAny (model prog w) A (pyNext it) (fun r s1=>match r with
  | none=>R (.ok .next) s1
  | some v=>wpAny (model prog w) A (letOwnedTupleGo target it v) (fun _ s1'=>wpAny (model prog w) A (assign target env v) (fun _ s2=>
   wpAny (model prog w) A (forIn ifs true fun c r=>if r=true then do let ok ←isTrue c env (eval c env);pure (ForInStep.yield ok)else pure (ForInStep.yield r)) (fun ok s3=>
    if ok=true then wpAny (model prog w) A (eval elt env) (fun x s4=>
     wpAny (model prog w) A (call (.builtin "list.append") [acc,x]) (fun _ s5=>∃m,m<n/\I m s5) (fun _ _=>False) s4) (fun _ _=>False) s3
    else ∃m,m<n/\I m s3) (fun _ _=>False) s2) (fun _ _=>False) s1') (fun _ _=>False) s1) (fun _ _=>False) s)
 (n:Nat) (h:I n s) :
 codeAny (model prog w) A (.compLoop (.ListComp elt [⟨target,iter,ifs,0⟩] scope pos) 0 it acc env) R s:=by
 have up:∀{α:Type}{t:Sem α}{Q Q':α->Shared->Prop}{E':Value->Shared->Prop}{s:Shared},wpAny (model prog w) A t Q (fun _ _=>False) s->(∀a s,Q a s->Q' a s)->wpAny (model prog w) A t Q' E' s:=
  fun h q=>wpAny_mono h q fun _ _ f=>f.elim
 refine codeAny_loop rfl I (fun n s hI=>?_) n h;show wpAny _ A ((compTurn (.ListComp elt [⟨target,iter,ifs,0⟩] scope pos) 0 it acc env).onRaise (fun x=>do noteFrame x env;theTreesLotGoes x)) _ _ s;refine wpAny_noted ?_;rw[compTurn_list];refine zC0 (wpAny_standAt (zC0 (up (turn n s hI) fun r s1 h1=>?_)));cases r with
 | none=>exact zH0 h1
 | some v=>
   refine zC0 (up h1 fun _ s1' h1'=>?_);refine zC0 (up h1' fun _ s2 h2=>zC0 (up h2 fun ok s3 h3=>?_));cases ok with
   | false=>exact zH0 ⟨rfl,h3⟩
   | true=>
     exact zC0 (zC0 (up h3 fun x s4 h4=>zC0 (up h4 fun _ s5 h5=>zH0 (zH0 ⟨rfl,h5⟩))))
end
structure Apart(X:Cx)(pins:List (Addr×Obj))(H:Hp)(C:Addr):Prop where
 fr:H C=none
 lo:C≠X.env.locals
 sz:X.s₀.heap.objs.size<=C
 ce:∀y c,X.env.cells.lookup y=some c->c≠C
 pi:∀p∈X.pn++pins,p.1≠C
theorem Apart.turn{X:Cx}{pins:List (Addr×Obj)}{σ:St}{H:Hp}{C:Addr}{s:Shared}{h':Heap}(a:Apart X pins H C)(I:Inv X pins σ H s)(hs:Heap.SameBut C s.heap h'):Inv X pins σ H { s with heap:=h' }:=
 I.turned (t':=s.toks) (fun b o ne e=>(hs.2 b ne).trans e) a.fr a.lo (.inr a.sz) a.ce a.pi
section
variable {X:Cx} {x:Str} {N:List Str} {ix:List Nat} {scope:Scope} {cl:List (Str×Addr)} {elt iter:Expr} {ifs:List Expr} {px pos:Pos} {wi:TI} {tb:TBl}
theorem tG(hc:X.calm=true)(S:CompScope X x N ix scope cl)(hix:ix.length=N.length)(hb:∀s3 H3 fp,PB (eG X (x::N) scope cl s3 H3 fp) ifs elt tb)
 {pins:List (Addr×Obj)} {s2:Shared} {σ:St} {H2:Hp} {Q:VK} {it:Addr} {fp:List Addr} {tn:Nat->Heap->Prop} {J:It} {RR:Value->Addr->Result->Shared->Prop} {E:Value->Shared->Prop}
 (I2:Inv X pins σ H2 s2) (T:Turn X.prog X.w X.K (.Name x px) J fp it tn) (st2:tn 0 s2.heap) (f2:∀b∈fp,kM X pins H2 b)
 (h:∀D,H2 D=none->∃W:Nat->Nat->Hp->Prop,(∃m,W 0 m (upd H2 D (.lst [])))/\∀i m H3,W i m H3 ->
  (J.stop i H3/\Q (.ref D) H3)∨(J.go i H3/\∀y H4,J.yld i H3 y H4->tb (some y::outs ix σ) H4 (fun H5=>∃m',m'<m/\W (i+1) m' H5)
   fun z H5=>∃ys,H5 D=some (.lst ys)/\ys.length<sizeLine/\∃m',m'<m/\W (i+1) m' (upd H5 D (.lst (ys++[z])))))
 (hRR:∀(D C:Addr)(H':Hp)(s':Shared)(m:Str->Option Value),s'.heap.Ns C m->Apart X pins H' C->Inv X pins σ H' s'->Q (.ref D) H'->RR (.ref D) C (.ok .next) s') :
 wpAny (model X.prog X.w) X.A (newList []) (fun acc s3=>wpAny (model X.prog X.w) X.A (newFunctionEnv scope X.env.globals cl [] X.env.qual none .none (some X.env)) (fun cenv s4=>
  codeAny (model X.prog X.w) X.A (.compStart (.ListComp elt [⟨.Name x px,iter,ifs,0⟩] scope pos) 0 (.ref it) acc { cenv with scope:=relabel scope X.env }) (RR acc cenv.locals) s4) E s3) E s2:=by
 refine wpAny_newObj_type (wpAny_newFunctionEnv S.nocell (by intro y hy;simp at hy) (fun h1 hns1 hsb1=>?_) S.kind)
 dsimp only at hns1 hsb1 ⊢
 have I3:Inv X pins σ (upd H2 s2.heap.objs.size (.lst [])) { s2 with heap:=s2.heap.push { cls:=.type "list",dict:=none,data:=.seq ([]:List Value).toArray } }:=I2.lnew (its:=[]) (ys:=[]) (t':=s2.toks) .nil (zZ0 _);have hD:H2 s2.heap.objs.size=none:=I2.fresh;obtain⟨W,⟨m0,w0⟩,turn⟩:=h s2.heap.objs.size hD;have hltF:∀b∈fp,b<s2.heap.objs.size:=fun b hb=>by
  obtain⟨o,e,_⟩:=T.obj 0 _ st2 b hb;exact zK0 e
 generalize hs3:({ s2 with heap:=s2.heap.push { cls:=.type "list",dict:=none,data:=.seq ([]:List Value).toArray } }:Shared)=s3 at I3;have eh:s2.heap.push { cls:=.type "list",dict:=none,data:=.seq ([]:List Value).toArray }=s3.heap:=by rw[←hs3]
 have et:s2.toks=s3.toks:=by rw[←hs3]
 rw[eh]at hns1 hsb1 ⊢;have sz3:s3.heap.objs.size=s2.heap.objs.size+1:=by rw[←eh,Heap.size_push]
 have hlt3:∀b∈fp,b<s3.heap.objs.size:=fun b hb=>qE0 (hltF b hb) (by rw[sz3];exact qK0 _)
 have f3:∀b∈fp,kM X pins (upd H2 s2.heap.objs.size (.lst [])) b:=fun b hb=>by
  obtain⟨q1,q2⟩:=f2 b hb;exact⟨by rw[aq (zQ0 (hltF b hb))];exact q1,q2⟩
 have up:∀b o,s3.heap.get? b=some o->h1.get? b=some o:=fun b o e=>hsb1.extBut b o (zQ0 (zK0 e)) (zJ0 _ e)
 have old:∀b o,s2.heap.get? b=some o->h1.get? b=some o:=fun b o e=>up b o (by rw[←eh];exact zJ0 _ e)
 have es:({ s2 with heap:=h1,toks:=s2.toks+([]:List (Str×Value)).length }:Shared)={ s3 with heap:=h1,toks:=s2.toks+([]:List (Str×Value)).length }:=by rw[←hs3]
 rw [es];have I4:Inv (eG X (x::N) scope cl s3 (upd H2 s2.heap.objs.size (.lst [])) fp) [] (none::outs ix σ) (upd H2 s2.heap.objs.size (.lst [])) { s3 with heap:=h1,toks:=s2.toks+([]:List (Str×Value)).length }:=
  vx S I3 f3 hlt3 hix hns1 up
 have st4:tn 0 h1:=T.keep 0 _ _ st2 fun b _ o e=>old b o e
 have loop:codeAny (model X.prog X.w) X.A (.compLoop (.ListComp elt [⟨.Name x px,iter,ifs,0⟩] scope pos) 0 (.ref it) (.ref s2.heap.objs.size) (compEnvC scope cl s3.heap.objs.size X.env)) (RR (.ref s2.heap.objs.size) s3.heap.objs.size)
  { s3 with heap:=h1,toks:=s2.toks+([]:List (Str×Value)).length }:=by
  refine tH (fun n s'=>∃i v0 H',Inv (eG X (x::N) scope cl s3 (upd H2 s2.heap.objs.size (.lst [])) fp) [] (v0::outs ix σ) H' s'/\tn i s'.heap/\(∀b∈fp,H' b=none)/\W i n H') ?_ m0 ⟨0,none,_,I4,st4,fun b hb=>(f3 b hb).1,w0⟩;rintro n s5 ⟨i,v0,H5,I5,st5,fr5,w5⟩;have stat:∀{H':Hp},(∀b∈fp,H' b=none)->∀b∈fp,kM (eG X (x::N) scope cl s3 (upd H2 s2.heap.objs.size (.lst [])) fp) [] H' b:=fun hn b hb=>
   ⟨hn b hb,((mI S I3 f3 hlt3).exf b hb).1,(mI S I3 f3 hlt3).exfs b hb,.inl hb,((mI S I3 f3 hlt3).exf b hb).2,fun p hp=>absurd (show p∈([]:List (Addr×Obj))from hp) (by simp)⟩
  rcases turn i n H5 w5 with⟨stop,qn⟩ | ⟨go,step⟩
  . refine thn (T.done (eG X (x::N) scope cl s3 (upd H2 s2.heap.objs.size (.lst [])) fp) rfl rfl rfl hc i [] s5 _ H5 _ I5 (stat fr5) st5 stop) fun r s6 ⟨hr,I6⟩=>?_
    subst hr;obtain⟨m6,hn6,_⟩:=I6.loc;exact hRR _ _ H5 s6 m6 hn6 ⟨I6.free,Ne.symm (zQ0 I3.lt),I3.sz,fun y c e z=>by
     obtain⟨v,q⟩:=I3.cell y c e;exact absurd q.lt (by rw[z];exact qU0 _),fun p hp z=>absurd (zK0 (I3.pin p hp).1) (by rw[z];exact qU0 _)⟩ (yy I3 f3 I6 (Heap.SameBut.refl _ _)) qn
  . refine thn (T.item (eG X (x::N) scope cl s3 (upd H2 s2.heap.objs.size (.lst [])) fp) rfl rfl rfl hc i [] s5 _ H5 _ I5 (stat fr5) st5 go) fun r s6 ⟨u,hr,h6⟩=>?_
    subst hr;refine thn h6 fun _ s7 ⟨y,H7,I7,r7,y7,st7,fr7⟩=>?_
    have I7':=I7.pinned (stat fr7) (T.obj _ _ st7);refine wpAny_assign_Name (iF (i:=0) I7' S.nd rfl (.inl (lookup_relabel_local S.own)) r7 (fun s8 I8=>?_) (.inr (lookup_relabel_local S.own)));have I8':Inv (eG X (x::N) scope cl s3 (upd H2 s2.heap.objs.size (.lst [])) fp) ([]++lr fp s7.heap) (some y::outs ix σ) H7 s8:=I8;have again:∀{v9:Option V}{H9:Hp}{s9:Shared},Inv (eG X (x::N) scope cl s3 (upd H2 s2.heap.objs.size (.lst [])) fp) ([]++lr fp s7.heap) (v9::outs ix σ) H9 s9->(∃m',m'<n/\W (i+1) m' H9) ->
     ∃m,m<n/\∃i v0 H',Inv (eG X (x::N) scope cl s3 (upd H2 s2.heap.objs.size (.lst [])) fp) [] (v0::outs ix σ) H' s9/\tn i s9.heap/\(∀b∈fp,H' b=none)/\W i m H':=fun{v9 H9 s9} I9 ⟨m',hm,w9⟩=>by
     refine⟨m',hm,i+1,v9,H9,I9.unpinned,T.keep _ _ _ st7 fun b hb o e=>(I9.pin (b,o) (qT0 _ (qT0 _ (iq hb e)))).1,fun b hb=>?_,w9⟩;obtain⟨o,e,d⟩:=T.obj _ _ st7 b hb;exact(I9.pin (b,o) (qT0 _ (qT0 _ (iq hb e)))).2.1
    refine thn (hb s3 (upd H2 s2.heap.objs.size (.lst [])) fp _ s8 _ H7 _ _ I8' (step y H7 y7)) fun ok s9 q9=>?_
    cases ok with
    | false=>
      rw[zA0 (by decide)]at q9 ⊢;obtain⟨H9,I9,q9⟩:=q9;exact again I9 q9
    | true=>
      rw[zB0 rfl]at q9 ⊢;refine thn q9 fun u s10 ⟨z,H10,I10,r10,ys,hy,hz,q10⟩=>?_
      refine thn (fh _ s10 _ H10 (.ref s2.heap.objs.size) [z] (.ref s2.heap.objs.size) [u] (fun _ H'=>∃m',m'<n/\W (i+1) m' H') I10 rfl (.cons r10 .nil) ⟨_,ys,z,rfl,rfl,hy,hz,q10⟩) fun _ s11 ⟨_,H11,I11,_,q11⟩=>?_
      exact again I11 q11
 exact codeAny_compStart_list loop (T.self _ 0 _ _ _ st4 loop)
theorem dM(hc:X.calm=true)(S:CompScope X x N ix scope cl)(hix:ix.length=N.length)(hi:PI X (.Name x px) iter wi)(hb:∀s3 H3 fp,PB (eG X (x::N) scope cl s3 H3 fp) ifs elt tb)
 (hs:∀x,foldedSetIterable iter X.env x=pure x:=by intro _;rfl):PE X (.ListComp elt [⟨.Name x px,iter,ifs,0⟩] scope pos) (yW wi ix tb):=by
 intro pins s σ H Q I h;rw[eval_ListComp];refine wpAny_comprehension_free (use:=none) rfl hs S.clos S.kind S.names (thn (hi pins s σ H _ I h) fun xv s1 h1=>thn h1 fun itv s2 h2=>?_);obtain⟨it,fp,tn,J,H2,rfl,I2,T,st2,f2,R⟩:=h2;refine tG hc S hix hb (RR:=fun acc C=>compPost (model X.prog X.w) X.A X.xe none (EP X pins σ Q) acc C) I2 T st2 f2 R ?_;intro D C H' s' m hn ap I' q;exact⟨m,hn,fun h'' hb''=>⟨.ref D,H',ap.turn I' hb'',rfl,q⟩⟩
theorem qG{i:Nat}{y:Str}{py spos:Pos}(hN:X.N.Nodup)(hi0:X.N[i]?=some y)(hx:Loc X.env.scope y)(hc:X.calm=true)(S:CompScope X x N ix scope cl)(hix:ix.length=N.length)(hi:PI X (.Name x px) iter wi)(hb:∀s3 H3 fp,PB (eG X (x::N) scope cl s3 H3 fp) ifs elt tb)
 (hsw:swapsWith (.ListComp elt [⟨.Name x px,iter,ifs,0⟩] scope pos) (some (.Name y py)) spos.line X.env=pure true:=by with_unfolding_all rfl)
 (hs:∀x,foldedSetIterable iter X.env x=pure x:=by intro _;rfl) (hf:X.fn y=true∨X.env.scope.names.lookup y=some .local:=by first | exact .inl rfl | exact .inr rfl | assumption) :
 PS X (.Assign [.Name y py] (.ListComp elt [⟨.Name x px,iter,ifs,0⟩] scope pos) spos) (fun D σ H=>yW wi ix tb σ H fun v H'=>D.nx (σ.set i (some v)) H'):=by
 intro pins s σ H Dn I h;rw[exec_Assign_Name_used _ _ _ _ hsw];refine zC0 (wpAny_standAt (zC0 ?_));show wpAny _ X.A (do let _ ←comprehension (.ListComp elt [⟨.Name x px,iter,ifs,0⟩] scope pos) scope X.env _ (newList []) false (eval iter X.env) (some (assign (.Name y py) X.env))) _ _ s;refine zC0 (wpAny_mono (wpAny_comprehension_free (use:=some (assign (.Name y py) X.env)) (Q:=fun _ s'=>SP X pins Dn .next s') rfl hs S.clos S.kind S.names
  (thn (hi pins s σ H _ I h) fun xv s1 h1=>thn h1 fun itv s2 h2=>?_)) (fun _ s' hq=>zH0 (zH0 hq)) fun _ _ e=>e)
 obtain ⟨it,fp,tn,J,H2,rfl,I2,T,st2,f2,R⟩:=h2;refine tG hc S hix hb (RR:=fun acc C=>compPost (model X.prog X.w) X.A X.xe (some (assign (.Name y py) X.env)) (fun _ s'=>SP X pins Dn .next s') acc C) (Q:=fun v H'=>Dn.nx (σ.set i (some v)) H') I2 T st2 f2 R ?_;intro D C H' s' m hn ap I' q;show wpAny _ X.A (assign (.Name y py) X.env (.ref D)) _ _ _;refine wpAny_assign_Name (pB I' hN hi0 hx (v:=.ref D) rfl (fun s'' I'' hsb=>?_) hf);obtain⟨a,hsb,ha⟩:=hsb;have ne:C≠a:=by
  rcases ha with z | z
  . rw[z];exact ap.lo
  . exact Ne.symm (ap.ce y a z)
 exact⟨m,hn.sameBut hsb ne,fun h'' hb''=>⟨_,H',ap.turn I'' hb'',q⟩⟩
end
section
variable {X:Cx} {pins:List (Addr×Obj)} {σ:St} {H:Hp} {s:Shared} {h':Heap}
theorem Inv.turnedNew{t':Nat}{ch:List Addr}{T:Addr}{o:HO}(I:Inv X pins σ H s)(k:∀b u,b∉ch->s.heap.get? b=some u->h'.get? b=some u)(hf:∀b∈ch,kM X pins H b)(hT:s.heap.objs.size<=T)
 (new:ObjOk X.prog X.w (upd H T o) h' T o):Inv X pins σ (upd H T o) { s with heap:=h',toks:=t' }:=by
 have nit:∀b u,H b=some u->b∉ch:=fun b u e z=>by rw[(hf b z).1]at e;cases e
 have hn:H T=none:=I.hok.fresh hT;have lt:∀b u,s.heap.get? b=some u->b≠T:=fun b u e=>zQ0 (qE0 (zK0 e) hT)
 refine I.step (g':=s.gens) (d':=s.drawn) (ch:=ch) (fun b hb=>?_) (fun b u _ _ hc e _=>k b u hc e) (fun b u _ _ hc e _=>⟨u.slots,k b u hc e⟩) (fun b u _ e n=>by rw[aq (lt b u e)];exact n) (fun b u hc e=>⟨u,k b u hc e⟩)
  (fun b xs e=>by rw[aq (aN e hn)];exact e) (fun b ob u e=>by rw[aq (aN e hn)];exact e) (fun b ps e=>⟨#[],by rw[aq (aN e hn),e];simp⟩) (fun m hm=>?_) (fun b u e=>?_) I.bare
 . obtain⟨_,h2,_,h4,h5,h6⟩:=hf b hb;exact⟨h4,h2,h5,h6⟩
 . obtain⟨ob,es,ep,ho,r⟩:=hm;exact⟨ob,es,ep,k _ ob (fun z=>(hf _ z).2.1 rfl) ho,r⟩
 . by_cases hb:b=T
   . subst hb;rw[am]at e;cases e;exact new
   . rw [aq hb]at e;refine(I.hok b u e).stay (fun c v hc q=>k c v ?_ q) (fun c q=>by rw[aq (aN q hn)];exact q) fun c xs q=>by rw[aq (aN q hn)];exact q
     rcases hc with z | z
     . rw[z];exact nit b u e
     . exact nit c _ z
theorem Inv.turnedL{t':Nat}{ch:List Addr}(I:Inv X pins σ H s)(k:∀b u,b∉ch->s.heap.get? b=some u->h'.get? b=some u)(hf:∀b∈ch,kM X pins H b):Inv X pins σ H { s with heap:=h',toks:=t' }:=by
 have nit:∀b u,H b=some u->b∉ch:=fun b u e z=>by rw[(hf b z).1]at e;cases e
 refine I.step (g':=s.gens) (d':=s.drawn) (ch:=ch) (fun b hb=>?_) (fun b u _ _ hc e _=>k b u hc e) (fun b u _ _ hc e _=>⟨u.slots,k b u hc e⟩) (fun _ _ _ _ n=>n) (fun b u hc e=>⟨u,k b u hc e⟩)
  (fun _ _ e=>e) (fun _ _ _ e=>e) (fun b ps e=>⟨#[],by rw[e];simp⟩) (fun m hm=>?_) (fun b u e=>?_) I.bare
 . obtain⟨_,h2,_,h4,h5,h6⟩:=hf b hb;exact⟨h4,h2,h5,h6⟩
 . obtain⟨ob,es,ep,ho,r⟩:=hm;exact⟨ob,es,ep,k _ ob (fun z=>(hf _ z).2.1 rfl) ho,r⟩
 . refine (I.hok b u e).stay (fun c v hc q=>k c v ?_ q) (fun _ q=>q) fun _ _ q=>q
   rcases hc with z | z
   . rw[z];exact nit b u e
   . exact nit c _ z
end
mutual
inductive Rep(K:W.Frag)(H:Hp):V->PyData->Prop
 | non:Rep K H .non .none
 | bl (b:Bool):Rep K H (.bl b) (.bool b)
 | int (i:Int):Rep K H (.int i) (.int i)
 | str (x:Str):Rep K H (.str x) (.str x)
 | tup {a:Addr} {xs:List V} {ds:List PyData}:SqT K H a xs->RepAll K H xs ds->Rep K H (.ref a) (.tuple ds)
 | lst {a:Addr} {xs:List V} {ds:List PyData}:SqL K H a xs->RepAll K H xs ds->Rep K H (.ref a) (.list ds)
inductive RepAll(K:W.Frag)(H:Hp):List V->List PyData->Prop
 | nil:RepAll K H [] []
 | cons {x:V} {d:PyData} {xs:List V} {ds:List PyData}:Rep K H x d->RepAll K H xs ds->RepAll K H (x::xs) (d::ds)
end
section
variable {X:Cx} {pins:List (Addr×Obj)} {σ:St} {H:Hp} {s:Shared}
mutual
theorem Rep.reads(I:Inv X pins σ H s):∀{x:V}{d:PyData}{v:Value},Rep X.K H x d->RelV x v->∃as,Reads s.heap v d as
 | _,_,v,.non,r=>by cases(show v=Value.none from r);exact⟨_,Reads.none⟩
 | _,_,v,.bl b,r=>by cases(show v=Value.bool b from r);exact⟨_,Reads.bool b⟩
 | _,_,v,.int i,r=>by obtain⟨t,e⟩:=(show ∃t,v=Value.int i t from r);cases e;exact⟨_,Reads.int i t⟩
 | _,_,v,.str x,r=>by obtain⟨t,e⟩:=(show ∃t,v=Value.str x t from r);cases e;exact⟨_,Reads.str x t⟩
 | _,_,v,.tup (a:=a) h q,r=>by
   cases(show v=Value.ref a from r);obtain⟨its,rv,⟨o,ho,hc,n,hd⟩,_⟩:=I.tuple h;obtain⟨as,z⟩:=RepAll.reads I q rv;exact⟨_,reads_tuple_at ho hc hd (by simpa using z)⟩
 | _,_,v,.lst (a:=a) h q,r=>by
   cases(show v=Value.ref a from r);obtain⟨its,rv,⟨o,n,ho,hc,_,hd⟩,_⟩:=I.list h;obtain⟨as,z⟩:=RepAll.reads I q rv;exact⟨_,reads_list_at ho hc hd (by simpa using z)⟩
theorem RepAll.reads(I:Inv X pins σ H s):∀{xs:List V}{ds:List PyData}{vs:List Value},RepAll X.K H xs ds->Vals xs vs->∃as,ReadsAll s.heap vs ds as
 | _,_,_,.nil,.nil=>⟨_,ReadsAll.nil⟩
 | _,_,_,.cons h q,.cons r rs=>by
   obtain⟨as,z⟩:=Rep.reads I h r;obtain⟨bs,y⟩:=RepAll.reads I q rs;exact⟨_,ReadsAll.cons z y⟩
end
end
theorem nv{K:W.Frag}{H:Hp}:∀ns:List Int,RepAll K H (ns.map V.int) (ns.map PyData.int)
 | []=>.nil
 | n::r=>.cons (.int n) (nv r)
section
variable {X:Cx}
def rEqD(K:W.Frag):R2:=fun x y H Q=>∃d e,Rep K H x d/\Rep K H y e/\SeqAt.shaped d=true/\SeqAt.shaped e=true/\Q (.bl (PyData.eqv d e)) H
def rNeD(K:W.Frag):R2:=fun x y H Q=>∃d e,Rep K H x d/\Rep K H y e/\SeqAt.shaped d=true/\SeqAt.shaped e=true/\Q (.bl (!PyData.eqv d e)) H
theorem jU(hu:X.A.units+64<cLine):OpR X (compareOp .Eq) (rEqD X.K):=by
 intro pins s σ H x y v u Q I rx ry h;obtain⟨d,e,hd,he,sd,se,q⟩:=h;obtain⟨as,r1⟩:=Rep.reads I hd rx;obtain⟨bs,r2⟩:=Rep.reads I he ry;exact eq_dataH r1 r2 sd se hu ⟨.bl _,H,I,rfl,q⟩
theorem Ek(hu:X.A.units+64<cLine):OpR X (compareOp .NotEq) (rNeD X.K):=by
 intro pins s σ H x y v u Q I rx ry h;obtain⟨d,e,hd,he,sd,se,q⟩:=h;obtain⟨as,r1⟩:=Rep.reads I hd rx;obtain⟨bs,r2⟩:=Rep.reads I he ry;exact ne_dataH r1 r2 sd se hu ⟨.bl _,H,I,rfl,q⟩
def ny(K:W.Frag):R2:=fun x y H Q=>∃a b ys,x=.ref a/\y=.ref b/\SqT K H a []/\SqT K H b ys/\Q (.ref b) H
theorem ky:OpR X (binaryOp .Add) (ny X.K):=by
 intro pins s σ H x y v u Q I rx ry h;obtain⟨a,b,ys,rfl,rfl,ha,hb,q⟩:=h;cases rx;cases ry;obtain⟨its,r1,p1,_⟩:=I.tuple ha;obtain⟨its2,r2,p2,_⟩:=I.tuple hb;obtain⟨⟨cls,dd,data,sl⟩,ho,hc,n,hd⟩:=id p1;obtain⟨⟨cls2,dd2,data2,sl2⟩,ho2,hc2,n2,hd2⟩:=id p2;simp only at hc hd hc2 hd2;subst hc hd hc2 hd2;have e:its=[]:=r1.nil_iff.mpr rfl;exact concat_meets ⟨_,ho,rfl⟩ ⟨_,ho2,rfl⟩ noFill_tuple_add seq_tuple_add PySem.F.slot_tuple_add PySem.F.entry_tuple_add (PySem.F.args_tuple_add_2 _ _)
  (tuple_addW0 a b its.toArray its2.toArray n n2 dd dd2 sl sl2 (by simp [e])) ⟨ho,ho2,⟨.ref b,H,I,rfl,q⟩⟩
end
def Nx(n i:Nat)(Pv:Nat->Hp->Prop)(H:Hp):Prop:=∃m',m'<n-i/\(m'=n-(i+1)/\i+1<=n/\Pv (i+1) H)
theorem Nx.of{n i:Nat}{Pv:Nat->Hp->Prop}{H:Hp}(h:i<n)(p:Pv (i+1) H):Nx n i Pv H:=⟨n-(i+1),by omega,rfl,h,p⟩
theorem hZ{K:W.Frag}{a D:Addr}{xs:List V}{ix:List Nat}{tb:TBl}{σ:St}{H:Hp}{Q:VK}(Pv:Nat->Hp->Prop)(h0:Pv 0 (upd H D (.lst [])))(hl:∀i H,i<=xs.length->Pv i H->SqT K H a xs)
 (hs:∀i x H,xs[i]?=some x->Pv i H->tb (some x::outs ix σ) H (Nx xs.length i Pv) fun z H'=>∃ys,H' D=some (.lst ys)/\ys.length<sizeLine/\Nx xs.length i Pv (upd H' D (.lst (ys++[z])))) (hd:∀H,Pv xs.length H->Q (.ref D) H) :
 rB (Itt K a) D ix tb σ H Q:=by
 refine⟨fun i m H=>m=xs.length-i/\i<=xs.length/\Pv i H,⟨xs.length,by simp,zZ0 _,h0⟩,?_⟩;rintro i m H ⟨rfl,hi,p⟩;have q:=hl i H hi p
 by_cases hlt:i<xs.length
 . refine .inr ⟨⟨xs,xs[i],q,by simp [hlt]⟩,fun x H' y=>?_⟩;obtain⟨e,y⟩:=y;subst e;exact hs i x _ (y xs q) p
 . have e:i=xs.length:=by omega
   subst e;exact .inl ⟨⟨xs,q,zF0 _⟩,hd H p⟩
theorem lF{K:W.Frag}{a D:Addr}{xs:List V}{ix:List Nat}{tb:TBl}{σ:St}{H:Hp}{Q:VK}(Pv:Nat->Hp->Prop)(h0:Pv 0 (upd H D (.lst [])))(hl:∀i H,i<=xs.length->Pv i H->SqL K H a xs)
 (hs:∀i x H,xs[i]?=some x->Pv i H->tb (some x::outs ix σ) H (Nx xs.length i Pv) fun z H'=>∃ys,H' D=some (.lst ys)/\ys.length<sizeLine/\Nx xs.length i Pv (upd H' D (.lst (ys++[z])))) (hd:∀H,Pv xs.length H->Q (.ref D) H) :
 rB (Itl K a) D ix tb σ H Q:=by
 refine⟨fun i m H=>m=xs.length-i/\i<=xs.length/\Pv i H,⟨xs.length,by simp,zZ0 _,h0⟩,?_⟩;rintro i m H ⟨rfl,hi,p⟩;have q:=hl i H hi p
 by_cases hlt:i<xs.length
 . refine .inr ⟨⟨xs,xs[i],q,by simp [hlt]⟩,fun x H' y=>?_⟩;obtain⟨e,y⟩:=y;subst e;exact hs i x _ (y xs q) p
 . have e:i=xs.length:=by omega
   subst e;exact .inl ⟨⟨xs,q,zF0 _⟩,hd H p⟩
theorem fk{lo:Int}{n:Nat}{D:Addr}{ix:List Nat}{tb:TBl}{σ:St}{H:Hp}{Q:VK}(Pv:Nat->Hp->Prop)(h0:Pv 0 (upd H D (.lst [])))
 (hs:∀i H,i<n->Pv i H->tb (some (.int (lo+i))::outs ix σ) H (Nx n i Pv) fun z H'=>∃ys,H' D=some (.lst ys)/\ys.length<sizeLine/\Nx n i Pv (upd H' D (.lst (ys++[z])))) (hd:∀H,Pv n H->Q (.ref D) H) :
 rB (Itr lo n) D ix tb σ H Q:=by
 refine⟨fun i m H=>m=n-i/\i<=n/\Pv i H,⟨n,by simp,zZ0 _,h0⟩,?_⟩;rintro i m H ⟨rfl,hi,p⟩
 by_cases hlt:i<n
 . refine .inr ⟨hlt,fun x H' y=>?_⟩;obtain⟨e,y⟩:=y;subst e y;exact hs i _ hlt p
 . have e:i=n:=by omega
   subst e;exact .inl ⟨zF0 _,hd H p⟩
theorem CompScope.closed{X:Cx}{x:Str}{scope:Scope}(c1:closureFor scope X.env=pure [])(c2:∀y∈scope.names,y.2≠.cell)(c3:scope.kind=.function)(c4:∀y∈scope.names,y.2=.local->scope.names.lookup y.1=some .local)
 (c5:scope.names.lookup x=some .local) (c6:((relabel scope X.env).names.all fun p=>!(p.2==.cell||p.2==.free)||((([]:List (Str×Addr))).lookup p.1).isSome)=true):CompScope X x [] [] scope [] where
 clos:=c1
 nocell:=c2
 kind:=c3
 names:=c4
 own:=c5
 nd:=by simp
 sub:=fun p hp=>absurd hp (by simp)
 has:=c6
 outs:=fun j y h=>by simp at h
section
variable {X:Cx}
theorem sT(K:W.Frag)(hK:X.K=K:=by rfl):IxR X (Ea K):=by subst hK;exact ix_list
end
section
variable {X:Cx}
def rSlS:V->Option Int->Option Int->Hp->VK->Prop:=fun x lo hi H Q=>∃z,x=.str z/\z.length<=sizeLine/\Q (.str (Txt.slice z lo hi)) H
theorem zy:SlR X rSlS:=by
 intro pins s σ H x v vl vu lo hi sl Q I rx hs pl pu h;obtain⟨z,rfl,hz,q⟩:=h;obtain⟨t,rfl⟩:=rx;refine⟨"str",_,F.slot_str_getitem.lookup,typeIs_str _ _ _,?_⟩;have fin:∀t' k,EP X pins σ Q (.str (Txt.slice z lo hi) t') { s with toks:=k }:=fun t' k=>⟨.str _,H,I.tok k,⟨_,rfl⟩,q⟩
 obtain⟨o,ho,hc,hd⟩:=hs;cases pl with
 | none=>
   cases pu with
   | none=>exact wpAny_getItem_str_slice (l:=none) (u:=none) (st:=none) ⟨o,ho,hc,hd⟩ rfl (post_val_or_str ⟨qB0 (Txt.slice_le z _ _) hz,fin⟩)
   | int j u=>exact wpAny_getItem_str_slice (l:=none) (u:=some (j,u)) (st:=none) ⟨o,ho,hc,hd⟩ rfl (post_val_or_str ⟨qB0 (Txt.slice_le z _ _) hz,fin⟩)
 | int i u'=>
   cases pu with
   | none=>exact wpAny_getItem_str_slice (l:=some (i,u')) (u:=none) (st:=none) ⟨o,ho,hc,hd⟩ rfl (post_val_or_str ⟨qB0 (Txt.slice_le z _ _) hz,fin⟩)
   | int j u=>exact wpAny_getItem_str_slice (l:=some (i,u')) (u:=some (j,u)) (st:=none) ⟨o,ho,hc,hd⟩ rfl (post_val_or_str ⟨qB0 (Txt.slice_le z _ _) hz,fin⟩)
theorem mZ:∀{zs:List Str}{us:List Value},Vals (zs.map V.str) us->StrsAre us zs
 | [],_,.nil=>.nil
 | _::_,_,.cons ⟨t,e⟩ r=>by subst e;exact .cons _ t (mZ r)
def rJoin(K:W.Frag):V->List V->Hp->VK->Prop:=fun x vs H Q=>∃z a ys,x=.str z/\vs=[.ref a]/\SqL K H a (ys.map V.str)/\z.length<=16/\(ys.map (·.length)).sum+ys.length<=1048576/\Q (.str (Txt.join z ys)) H
theorem Cz:MtR X "str.join" (rJoin X.K):=by
 intro pins s σ H x vs v us Q I rx rv h;obtain⟨z,a,ys,rfl,rfl,hq,hz,hw,q⟩:=h;obtain⟨t,rfl⟩:=rx;obtain⟨w',rfl,ra⟩:=rv.one;cases ra;obtain⟨its,r',p,_⟩:=I.list hq;exact join_listW p.isList (by simpa using mZ r') hz hw fun t' k=>⟨.str _,H,I.tok k,⟨_,rfl⟩,q⟩
def rAll(K:W.Frag):List V->Hp->VK->Prop:=fun xs H Q=>∃(a:Addr)(bs:List Bool),xs=[.ref a]/\SqL K H a (bs.map V.bl)/\Q (.bl (bs.all id)) H
theorem pV:∀{bs:List Bool}{us:List Value}{i:Nat}{v:Value},Vals (bs.map V.bl) us->us[i]?=some v->∃b,bs[i]?=some b/\v=.bool b
 | [],_,_,_,.nil,h=>by simp at h
 | b::_,_,0,_,.cons r _,h=>by
   simp at h
   subst h;exact⟨b,rfl,r⟩
 | _::_,_,i+1,_,.cons _ t,h=>by
   obtain⟨b,h1,h2⟩:=pV (i:=i) t (by simpa using h);exact⟨b,by simpa using h1,h2⟩
theorem Bx (hc:X.calm=true):iC X (.builtin "all") (rAll X.K):=by
 intro pins s σ H xs us Q I r h;obtain⟨a,bs,rfl,hq,q⟩:=h;obtain⟨u,rfl,ru⟩:=lK r;cases ru;obtain⟨its,r',p,hz⟩:=I.list hq;have hl:=r'.length;rw[zG0]at hl;have hlt:a<s.heap.objs.size:=by obtain⟨o,n,e,_⟩:=p;exact zK0 e
 refine call_all_walk (wpAny_pyIter_list p.isList ?_);refine⟨s.heap.objs.size,_,_,_,_,_,fun i=>bs[i]?.getD true,rfl,Walks.list (A:=X.A.in1) (I.ok.hd hc) s.heap.objs.size a (zQ0 hlt) its.toArray,⟨⟨_,zV0 _ rfl,rfl,rfl⟩,p.isList.push _⟩,?_,?_⟩
 . intro i v s' Q' E' hP hQ;obtain⟨b,hb,rfl⟩:=pV r' (i:=i) (v:=v) (by simpa using hP);have hQ':Q' b s':=by simpa [hb]using hQ
   exact wpAny_truthy_bool hQ'
 . intro h' tk hk;have e:(List.range its.toArray.size).all (fun i=>bs[i]?.getD true)=bs.all id:=by
    rw[zO0,←hl];rw[Bool.eq_iff_iff,List.all_eq_true,List.all_eq_true]
    constructor
    . intro h b hb;obtain⟨i,hi,e⟩:=List.getElem_of_mem hb
      have:=h i (List.mem_range.mpr hi)
      rw[zP0 hi]at this
      simpa [e]using this
    . intro h i hi;have hi':=List.mem_range.mp hi;rw[zP0 hi'];exact h _ (qM0 hi')
   rw[e];refine⟨.bl _,H,?_,rfl,q⟩;have I1:Inv X pins σ H { s with heap:=s.heap.push { cls:=.type "list_iterator",data:=.fields #[.ref a,.int 0 0] } }:=I.kept (t':=s.toks) fun b o e=>zJ0 _ e
   refine I1.turnedL (t':=tk) (ch:=[s.heap.objs.size]) (fun b o hb e=>hk b o (by simpa using hb) e) fun b hb=>?_
   rw[zT0 hb];exact I.fpOk (zF0 _) (I.hok.fresh (zF0 _))
end
inductive Consts:List Expr->List Str->Prop
 | nil:Consts [] []
 | cons {x:Str} {j:Nat} {pos:Pos} {es:List Expr} {zs:List Str}:Consts es zs->Consts (.Constant (.str x) j pos::es) (x::zs)
theorem jB{X:Cx}:∀{es:List Expr}{zs:List Str},Consts es zs->PA X es (fun _ H Q=>Q (zs.map V.str) H)
 | _,_,.nil=>ae
 | _,_,.cons h=>fun pos pins s σ H Q I q=>aa aV (jB h) (by rfl) pos pins s σ H Q I q
theorem CompScope.one{X:Cx}{x y:Str}{scope:Scope}{k:Nat}{c:Addr}(c1:closureFor scope X.env=pure [(y,c)])(c2:∀y∈scope.names,y.2≠.cell)(c3:scope.kind=.function)(c4:∀y∈scope.names,y.2=.local->scope.names.lookup y.1=some .local)
 (c5:scope.names.lookup x=some .local) (nd:[x,y].Nodup) (hc:X.env.cells.lookup y=some c) (c6:((relabel scope X.env).names.all fun p=>!(p.2==.cell||p.2==.free)||(([(y,c)]:List (Str×Addr)).lookup p.1).isSome)=true)
 (hr:(relabel scope X.env).names.lookup y=some .cell) (hk:X.N[k]?=some y) (hs:X.env.scope.names.lookup y=some .cell):CompScope X x [y] [k] scope [(y,c)] where
 clos:=c1
 nocell:=c2
 kind:=c3
 names:=c4
 own:=c5
 nd:=nd
 sub:=fun p hp=>by
  rw[zT0 hp];exact hc
 has:=c6
 outs:=fun j z h=>by
  cases j with
  | zero=>
    have e:y=z:=zR0 h;subst e;exact⟨hr,k,c,rfl,hk,by simp [List.lookup],hs⟩
  | succ j=>simp at h
theorem CompScope.two{X:Cx}{x y z:Str}{scope:Scope}{k l:Nat}{c d:Addr}{cl:List (Str×Addr)}(c1:closureFor scope X.env=pure cl)(c2:∀y∈scope.names,y.2≠.cell)(c3:scope.kind=.function)(c4:∀y∈scope.names,y.2=.local->scope.names.lookup y.1=some .local)
 (c5:scope.names.lookup x=some .local) (nd:[x,y,z].Nodup) (hcl:cl=[(z,d),(y,c)]∨cl=[(y,c),(z,d)]) (hc:X.env.cells.lookup y=some c) (hd:X.env.cells.lookup z=some d) (c6:((relabel scope X.env).names.all fun p=>!(p.2==.cell||p.2==.free)||(cl.lookup p.1).isSome)=true)
 (hr:(relabel scope X.env).names.lookup y=some .cell) (hk:X.N[k]?=some y) (hs:X.env.scope.names.lookup y=some .cell)
 (hr2:(relabel scope X.env).names.lookup z=some .cell) (hk2:X.N[l]?=some z) (hs2:X.env.scope.names.lookup z=some .cell):CompScope X x [y,z] [k,l] scope cl where
 clos:=c1
 nocell:=c2
 kind:=c3
 names:=c4
 own:=c5
 nd:=nd
 sub:=fun p hp=>by
  rcases hcl with rfl | rfl
  all_goals
   rcases qD0 hp with e | e
   . rw[e];assumption
   . rw[zT0 e];assumption
 has:=c6
 outs:=fun j w h=>by
  have nyz:y≠z:=fun e=>by simp [e]at nd
  match j,h with
  | 0,h=>
    have e:y=w:=zR0 h;subst e;refine⟨hr,k,c,rfl,hk,?_,hs⟩;rcases hcl with rfl | rfl
    . have:(y==z)=false:=by simpa using nyz
      simp [List.lookup,this]
    . simp [List.lookup]
  | 1,h=>
    have e:z=w:=zR0 h;subst e;refine⟨hr2,l,d,rfl,hk2,?_,hs2⟩;rcases hcl with rfl | rfl
    . simp [List.lookup]
    . have:(z==y)=false:=by simpa using Ne.symm nyz
      simp [List.lookup,this]
  | j+2,h=>simp at h
end L2
namespace Mine
open PySem L2
def oS (x:Str):Prop:=x.length<=20/\(∀c∈x.cps.toList,97<=c/\c<=122)/\x≠"aa"
theorem jC{x:Str}{l u:Option Int}{c:Nat}(h:c∈(Txt.slice x l u).cps.toList):c∈x.cps.toList:=by
 have e:Txt.slice x l u=StrLaws.sliceText x l u:=rfl;rw[e]at h;unfold StrLaws.sliceText at h
 split at h
 . exact h
 . obtain ⟨i,_,hi⟩:=List.mem_filterMap.mp (show c∈(List.filterMap _ _) by simpa using h)
   have:=Array.mem_of_getElem? hi
   simpa using this
theorem mem_append{x y:Str}{c:Nat}(h:c∈(x++y).cps.toList):c∈x.cps.toList∨c∈y.cps.toList:=by
 have e:(x++y).cps.toList=x.cps.toList++y.cps.toList:=by simp [Str.cps_append]
 rw[e]at h;exact qL0 h
theorem xY {zs:List Str} {c:Nat} (h:c∈(Txt.join "" zs).cps.toList):∃z∈zs,c∈z.cps.toList:=by
 have e:Txt.join "" zs=Str.join "" zs:=by
  cases zs with
  | nil=>rfl
  | cons a r=>exact StrLaws.glued_cons "" r a
 rw[e]at h;rcases(PyProof.Rows.mem_join "" c zs).mp h with h | ⟨_,h⟩
 . exact h
 . have e0:(("":Str)).cps.toList=[]:=by decide +kernel
   rw[e0]at h;cases h
inductive Tr where
 | is (x:Str) | yes | no | not (a:Tr) | bin (w:Str) (a b:Tr)
def Tr.size:Tr->Nat
 | .is _=>1 | .yes=>1 | .no=>1 | .not a=>a.size+1 | .bin _ a b=>a.size+b.size+1
def Tr.depth:Tr->Nat
 | .is _=>1 | .yes=>1 | .no=>1 | .not a=>a.depth+1 | .bin _ a b=>max a.depth b.depth+1
def Tr.names:Tr->List Str
 | .is x=>[x] | .yes=>[] | .no=>[] | .not a=>a.names | .bin _ a b=>a.names++b.names
def pM:List Str:=["and","or","odd","same"]
def Tr.ok(ns:List Str):Tr->Prop
 | .is x=>x∈ns | .yes=>True | .no=>True | .not a=>a.ok ns | .bin w a b=>w∈pM/\a.ok ns/\b.ok ns
inductive TreeAt(H:Hp):V->Tr->Prop
 | is {a:Addr} {x:Str}:H a=some (.tup [.str "is",.str x])->TreeAt H (.ref a) (.is x)
 | yes {a:Addr}:H a=some (.tup [.str "yes"])->TreeAt H (.ref a) .yes
 | no {a:Addr}:H a=some (.tup [.str "no"])->TreeAt H (.ref a) .no
 | not {a:Addr} {v:V} {t:Tr}:H a=some (.tup [.str "not",v])->TreeAt H v t->TreeAt H (.ref a) (.not t)
 | bin {a:Addr} {w:Str} {v u:V} {t r:Tr}:H a=some (.tup [.str w,v,u])->TreeAt H v t->TreeAt H u r->TreeAt H (.ref a) (.bin w t r)
abbrev dA(H H':Hp):Prop:=∀a xs,H a=some (.tup xs)->H' a=some (.tup xs)
theorem TreeAt.mono{H H':Hp}(k:dA H H'){v:V}{t:Tr}(h:TreeAt H v t):TreeAt H' v t:=by
 induction h with
 | is e=>exact .is (k _ _ e)
 | yes e=>exact .yes (k _ _ e)
 | no e=>exact .no (k _ _ e)
 | not e _ ih=>exact .not (k _ _ e) ih
 | bin e _ _ i1 i2=>exact .bin (k _ _ e) i1 i2
theorem bp{H H':Hp}(s:Same H H'):dA H H':=fun a _ h=>s a _ h
theorem jW{H H':Hp}{f:Addr}(F:FeedAt H f)(s:SameBut f H H'):dA H H':=fun a xs h=>s a _ (fun z=>by
 obtain⟨o,t,e,_⟩:=F;rw[z,e]at h;cases h) h
def NamesAt(H:Hp)(a:Addr)(ns:List Str):Prop:=H a=some (.lst (ns.map V.str))∨H a=some (.tup (ns.map V.str))
theorem NamesAt.same{H H':Hp}{a:Addr}{ns:List Str}(s:Same H H')(h:NamesAt H a ns):NamesAt H' a ns:=by
 rcases h with h | h
 . exact .inl (s _ _ h)
 . exact .inr (s _ _ h)
theorem NamesAt.seq{K:W.Frag}{H:Hp}{a:Addr}{ns:List Str}(h:NamesAt H a ns):SqL K H a (ns.map V.str)∨SqT K H a (ns.map V.str):=by
 rcases h with h | h
 . exact .inl (zI0 h)
 . exact .inr (zE0 h)
theorem wS{α:Type}{l:List α}{i:Int}(h0:0<=i)(h:i<(l.length:Int)):∃v,atI l i=some v/\v∈l:=by
 have hk:i.toNat<l.length:=by omega
 have q:atI l ((i.toNat:Nat):Int)=some l[i.toNat]:=cM (zP0 hk);have ek:((i.toNat:Nat):Int)=i:=by omega
 rw[ek]at q;exact⟨_,q,qM0 hk⟩
end Mine
namespace L2
open PySem PySem.Spec PyProof.Rows
section
variable {X:Cx}
def qy(lo:Int)(n:Nat):List Int:=(List.range n).map fun i:Nat=>lo+(i:Int)
theorem zM(lo:Int)(n:Nat):(qy lo n).length=n:=by unfold qy;rw[zG0,qO0]
theorem xE{lo:Int}{n:Nat}{acc:List Value}(h:ItemsOf (fun i v=>∃t,v=Value.int (lo+(i:Int)*1) t) acc.toArray n):Vals ((qy lo n).map V.int) acc:=by
 obtain⟨h1,h2⟩:=h;have l1:acc.length=n:=by simpa using h1
 have key:∀(k:Nat)(l:List Value),(∀i v,l[i]?=some v->∃t,v=Value.int (lo+((k+i:Nat):Int)) t)->Vals (((List.range' k l.length).map fun i:Nat=>lo+(i:Int)).map V.int) l:=by
  intro k l
  induction l generalizing k with
  | nil=>intro _;exact .nil
  | cons a r ih=>
    intro h;obtain⟨t,e⟩:=h 0 a rfl;rw[qC0,List.range'_succ,zS0,zS0];refine .cons ⟨t,by simpa using e⟩ (ih (k+1) fun i v hv=>?_);obtain⟨t,e⟩:=h (i+1) v (by simpa using hv);exact⟨t,by rw[e];congr 2;omega⟩
 have:=key 0 acc fun i v hv=>by
  obtain⟨t,e⟩:=h2 i v (by simpa using hv);exact⟨t,by simpa using e⟩
 unfold qy;rw[←l1,List.range_eq_range'];exact this
def yV(ta:TA):TE:=fun σ H Q=>ta σ H fun vs H1=>∃i j:Int,vs=[.int i,.int j]/\(-(2 ^ 62)<=i/\i<2 ^ 62/\-(2 ^ 62)<=j/\j<2 ^ 62)/\j-i<=1000/\∀p,H1 p=none->Q (.ref p) (upd H1 p (.lst ((qy i (j-i).toNat).map V.int)))
theorem uD {a b:Expr} {ta:TA} {p1 p2 pos1 pos2:Pos} (hc:X.calm=true) (hg1:Gl X "list") (hm1:X.mg "list"=none) (hg2:Gl X "range") (hm2:X.mg "range"=none) (ha:PA X [a,b] ta)
 (hs1:starEach [(.Call (.Name "range" p2) [a,b] [] pos2:Expr)] X.env=[(false,eval (.Call (.Name "range" p2) [a,b] [] pos2) X.env)]:=by rfl) (hs:starEach [a,b] X.env=[(false,eval a X.env),(false,eval b X.env)]:=by rfl) (hs2:starEach [b] X.env=[(false,eval b X.env)]:=by rfl) :
 PE X (.Call (.Name "list" p1) [.Call (.Name "range" p2) [a,b] [] pos2] [] pos1) (yV ta):=by
 intro pins s σ H Q I h;refine wpAny_Call_Name_kw (ir I hg1 hm1 oP ?_);refine PyProof.Rows.callWith_type1 ?_ hs1 rfl;rw[hs1];show wpAny _ _ (spliced ((false,eval (.Call (.Name "range" p2) [a,b] [] pos2) X.env)::backTo pos1 (starEach [] X.env))) _ _ s;have step:wpAny (model X.prog X.w) X.A (eval (.Call (.Name "range" p2) [a,b] [] pos2) X.env) (fun v s1=>∃(r:Addr) (i j:Int) (t u k:Tok) (H1:Hp),v=.ref r/\Inv X pins σ H1 s1/\IsRange s1.heap r i j 1 t u k/\(-(2 ^ 62)<=i/\i<2 ^ 62/\-(2 ^ 62)<=j/\j<2 ^ 62)/\j-i<=1000/\
  ∀p,H1 p=none->Q (.ref p) (upd H1 p (.lst ((qy i (j-i).toNat).map V.int)))) X.xe s:=by
  refine Call_ (ir I hg2 hm2 boot_range (PyProof.Rows.callWith_type1 (thn (ha pos2 pins s σ H _ I h) fun us s1 ⟨vs,H1,I1,r1,q1⟩=>?_) (by rw[hs,hs2]) (by rw[hs2];rfl)));obtain⟨i,j,e,q1,q2,q⟩:=q1;subst e;cases r1 with
  | cons r rr=>
    cases rr with
    | cons r' rr=>
      cases rr;obtain⟨t,rfl⟩:=r;obtain⟨t',rfl⟩:=r';refine call_range_2 ⟨_,i,j,_,_,_,H1,rfl,I1.kept fun b o e=>zJ0 _ e,IsRange.new ..,q1,q2,q⟩
 refine Calls.spliced_cons (thn step fun v s1 hv=>?_);obtain⟨r,i,j,t,u,k,H1,rfl,I1,hr,⟨a1,a2,a3,a4⟩,hle,q⟩:=hv;refine Calls.spliced_nil ?_;have e2:Builtin.Range.rangeSize i j 1=(((j-i).toNat:Nat):Int):=by rw[rangeSize_one];split <;> omega
 refine call_list_range (I1.ok.hd hc) hr (small_one a1 a2 a3 a4) e2 (by omega) fun h' tk acc' c' hk hS hacc=>?_
 obtain⟨acc,rfl⟩:∃acc:List Value,acc'=acc.toArray:=⟨acc'.toList,by simp⟩
 have rr:=xE hacc;have I2:Inv X pins σ (upd H1 s1.heap.objs.size (.lst ((qy i (j-i).toNat).map V.int))) { s1 with heap:=h',toks:=tk }:=by
  refine I1.turnedNew (ch:=[]) (fun b ob _ eb=>hk b ob eb) (fun b hb=>absurd hb (by simp)) (zF0 _) ⟨?_,acc,c',rr,hS⟩;rw[zG0,zM];exact eC (by omega)
 exact⟨.ref s1.heap.objs.size,_,I2,rfl,q _ (I1.hok.fresh (zF0 _))⟩
def rSum(K:W.Frag):List V->Hp->VK->Prop:=fun xs H Q=>∃(a:Addr)(ns:List Int),xs=[.ref a]/\SqL K H a (ns.map V.int)/\(∀n∈ns,0<=n)/\ns.sum<2 ^ 63/\Q (.int ns.sum) H
theorem ou:∀{bs:List Int}{us:List Value}{i:Nat}{v:Value},Vals (bs.map V.int) us->us[i]?=some v->∃b t,bs[i]?=some b/\v=.int b t
 | [],_,_,_,.nil,h=>by simp at h
 | b::_,_,0,_,.cons r _,h=>by
   simp at h
   subst h;obtain⟨t,e⟩:=r;exact⟨b,t,rfl,e⟩
 | _::_,_,i+1,_,.cons _ t,h=>by
   obtain⟨b,t,h1,h2⟩:=ou (i:=i) t (by simpa using h);exact⟨b,t,by simpa using h1,h2⟩
theorem lN{ns:List Int}(h:∀n∈ns,0<=n)(j:Nat):0<=(ns.take j).sum/\(ns.take j).sum<=ns.sum:=by
 induction ns generalizing j with
 | nil=>simp
 | cons a r ih=>
   cases j with
   | zero=>
     have:=ih (fun n hn=>h n (qF0 _ hn)) r.length
     rw[qR0]at this;have a0:=h a qG0;simp only[List.take_zero,List.sum_nil,List.sum_cons];omega
   | succ j=>
     have:=ih (fun n hn=>h n (qF0 _ hn)) j
     have a0:=h a qG0;simp only[List.take_succ_cons,List.sum_cons];omega
theorem lR(ns:List Int)(j:Nat):preSum (fun i=>ns[i]?.getD 0) j=(ns.take j).sum:=by
 induction j with
 | zero=>simp;rfl
 | succ j ih=>
   show preSum (fun i=>ns[i]?.getD 0) j+(fun i=>ns[i]?.getD 0) j=_;rw[ih,qQ0,List.sum_append];cases e:ns[j]? with
   | none=>simp [e]
   | some x=>simp [e]
theorem oM (hc:X.calm=true):iC X (.builtin "sum") (rSum X.K):=by
 intro pins s σ H xs us Q I r h;obtain⟨a,ns,rfl,hq,n0,nb,q⟩:=h;obtain⟨u,rfl,ru⟩:=lK r;cases ru;obtain⟨its,r',p,hz⟩:=I.list hq;have hl:=r'.length;rw[zG0]at hl;have hlt:a<s.heap.objs.size:=by obtain⟨o,n,e,_⟩:=p;exact zK0 e
 refine call_sum_walk (wpAny_pyIter_list p.isList ?_);refine⟨s.heap.objs.size,_,_,_,_,_,fun i=>ns[i]?.getD 0,rfl,Walks.list (A:=X.A.in1) (I.ok.hd hc) s.heap.objs.size a (zQ0 hlt) its.toArray,⟨⟨_,zV0 _ rfl,rfl,rfl⟩,p.isList.push _⟩,?_,?_,?_,?_⟩
 . intro b hb;have hpz:∀o:Obj,(s.heap.push o).objs.size=s.heap.objs.size+1:=fun o=>by simp [Heap.push]
   show b<(s.heap.push _).objs.size;rw[hpz];rcases qD0 hb with e | e
   . rw[e];exact Nat.lt_succ_self _
   . rw[zT0 e];exact Nat.lt_succ_of_lt hlt
 . intro i v hP;obtain⟨b,t,hb,rfl⟩:=ou r' (i:=i) (v:=v) (by simpa using hP);exact⟨t,by simp [hb]⟩
 . intro j hj;have hj':j<ns.length:=by rw[hl];simpa using hj
   have s1:=lN n0 (j+1);rw[lR];refine⟨?_,by unfold InLong;omega⟩;have s2:=lN n0 j;have e:(ns.take (j+1)).sum=(ns.take j).sum+ns[j]:=by rw[qQ0,List.sum_append,zP0 hj'];simp
   have n1:=n0 _ (qM0 hj');show InLong (ns[j]?.getD 0);rw[zP0 hj'];show InLong ns[j];unfold InLong;omega
 . intro h' tk t' hk;rw[lR,zO0,←hl,qR0];refine⟨.int _,H,?_,⟨_,rfl⟩,q⟩;have I1:Inv X pins σ H { s with heap:=s.heap.push { cls:=.type "list_iterator",data:=.fields #[.ref a,.int 0 0] } }:=I.kept (t':=s.toks) fun b o e=>zJ0 _ e
   refine I1.turnedL (t':=tk) (ch:=[s.heap.objs.size]) (fun b o hb e=>hk b o (by simpa using hb) e) fun b hb=>?_
   rw[zT0 hb];exact I.fpOk (zF0 _) (I.hok.fresh (zF0 _))
end
theorem wa:Slot "reversed" "__iter__" "reversed.__iter__":=Slot.of (owner:="reversed") (n:="__iter__") (by rw[typeLookup_type,builtinLookup_eq_fast];kernel_rfl) (by decide +kernel) (by decide +kernel) (by decide +kernel) (by first | exact .inl (by decide +kernel) | exact .inr (by decide +kernel)) (by rw[isSubtype_type];kernel_rfl) (by decide +kernel)
theorem rv_next:Slot "reversed" "__next__" "reversed.__next__":=Slot.of (owner:="reversed") (n:="__next__") (by rw[typeLookup_type,builtinLookup_eq_fast];kernel_rfl) (by decide +kernel) (by decide +kernel) (by decide +kernel) (by first | exact .inl (by decide +kernel) | exact .inr (by decide +kernel)) (by rw[isSubtype_type];kernel_rfl) (by decide +kernel)
theorem yT:typeLookup (.type "tuple") "__reversed__"=pure none:=by rw[typeLookup_type,builtinLookup_eq_fast];kernel_rfl
theorem xA:entryFor table "reversed.__iter__"=some Builtin.«dict_keyiterator.__iter__»:=entryFor_alias (by kernel_rfl) rfl (show _="dict_keyiterator.__iter__" by decide +kernel) (by kernel_rfl)
theorem pI:entryFor table "reversed.__next__"=some Builtin.«reversed.__next__»:=entryFor_of_tree (by kernel_rfl)
def RevT (h:Heap) (it t:Addr) (i:Int):Prop:=h.get? it=some { cls:=.type "reversed",data:=.fields #[.ref t,rawInt i] }
section
variable {prog:Program} {w:World} {A:Around} {E:Value->Shared->Prop} {s:Shared} {R:Result->Shared->Prop} {it t:Addr}
theorem RevT.typeIs {i:Int} (h:RevT s.heap it t i):s.TypeIs (.ref it) "reversed":=⟨_,h,rfl⟩
theorem pN{i:Int}{Q:Value->Shared->Prop}(h:RevT s.heap it t i)(q:Q (.ref it) s):wpAny (model prog w) A (pyIter (.ref it)) Q E s:=
 wpAny_pyIter_slot h.typeIs wa (wpAny_call_entry wa h.typeIs xA (zH0 ⟨_,rfl,"reversed",_,h.typeIs,rv_next.lookup,q⟩) (by rfl))
theorem om{i:Nat}{items:Array Value}{x:Value}{Q:Option Value->Shared->Prop}(h:RevT s.heap it t (i:Int))(ht:IsTup s.heap t items)(hx:items[i]?=some x)(hi:(i:Int)<2 ^ 63)
 (q:∀h' tk,RevT h' it t ((i:Int)-1)->Heap.SameBut it s.heap h'->Q (some x) { s with heap:=h',toks:=tk }):wpAny (model prog w) A (pyNext (.ref it)) Q E s:=by
 have hT:=h.typeIs;have hs:i<items.size:=(Array.getElem?_eq_some_iff.mp hx).1;unfold pyNext;refine zC0 (wpAny_attempt (wpAny_callSpecial?_slot hT rv_next (wpAny_call_entry rv_next hT pI ?_ (by rfl))));unfold Builtin.«reversed.__next__»;refine zC0 (wpAny_of_eq (show slotArgs "__next__" 0 ⟨[.ref it],[]⟩=pure (.ref it,[])from rfl) ?_);refine zC0 (wpAny_field h rfl rfl ?_);refine zC0 (wpAny_field h rfl rfl ?_);refine wpAny_ite_split (fun hab=>absurd hab (by omega)) (fun _=>?_);refine zC0 (wpAny_specialOf (show s.TypeIs (.ref t) "tuple" from ht.typeIs) PyProof.Rows.slot_tuple_getitem.lookup ?_);refine wpAny_ite_split (fun hab=>absurd hab (by simp)) (fun _=>?_);refine zC0 (wpAny_mkInt ?_);have e1:seqIndex? (i:Int) items.size=some i:=(qV (by unfold ixN;rw[zB0 (by omega),zB0 (by omega)];simp)).1;refine zC0 (wpAny_attempt (PyProof.Rows.getItem_tuple (items:=items) (x:=x) ht (by omega) hi e1 hx ?_));refine zC0 (wpAny_field h rfl rfl ?_);refine zC0 (wpAny_setField_rec h (by simp) fun h' e hb=>?_);refine zH0 ⟨_,rfl,zH0 (q h' _ ?_ hb)⟩;exact e
theorem pe{Q:Option Value->Shared->Prop}(hh:A.handled=none)(h:RevT s.heap it t (-1))
 (q:∀h' tk,Heap.ExtBut it s.heap h'->Q none { s with heap:=h',toks:=tk }):wpAny (model prog w) A (pyNext (.ref it)) Q E s:=by
 have hT:=h.typeIs;unfold pyNext;refine zC0 (wpAny_attempt (wpAny_callSpecial?_slot hT rv_next (wpAny_call_entry rv_next hT pI ?_ (by rfl))));unfold Builtin.«reversed.__next__»;refine zC0 (wpAny_of_eq (show slotArgs "__next__" 0 ⟨[.ref it],[]⟩=pure (.ref it,[])from rfl) ?_);refine zC0 (wpAny_field h rfl rfl ?_);refine zC0 (wpAny_field h rfl rfl ?_);refine wpAny_ite_split (fun _=>?_) (fun hab=>absurd (by decide) hab);refine zC0 (wpAny_rule ?_);refine zC0 ?_;show wpAny _ _ (setField (.ref it) 1 (rawInt (-1)) >>= fun _=>setField (.ref it) 0 Value.none) _ _ _;refine zC0 (wpAny_setField_rec h (by simp) fun h1 e1 b1=>?_);refine wpAny_setField_rec e1 (by simp) fun h2 e2 b2=>?_
 refine zC0 ?_;unfold Builtin.SmallTypes.stopIteration newExc newTuple;refine zC0 (zC0 (wpAny_newObj_type ?_ (by show 0<=sizeLine;decide)));refine zC0 (wpAny_of_eq (show firstArgMember (.type "StopIteration") []=pure .none by with_unfolding_all rfl) ?_);refine wpAny_newObj_type ?_ (sizeOk_excFields ..);refine wpAny_raiseNew_none hh ?_;refine zC0 (wpAny_isInstance (T:="StopIteration") ⟨_,zV0 _ rfl,rfl⟩ isSubtype_stop ?_);refine wpAny_ite_split (fun _=>?_) (fun hab=>absurd rfl hab);refine zH0 (q _ _ ?_);exact(b1.extBut.trans b2.extBut).trans fun b o hb e=>zJ0 _ (zJ0 _ e)
theorem BZ:Slot "reversed" "__init__" "object.__init__":=Slot.of (owner:="object") (n:="__init__") (by rw[typeLookup_type,builtinLookup_eq_fast];kernel_rfl) (by decide +kernel) (by decide +kernel) (by decide +kernel) (by first | exact .inl (by decide +kernel) | exact .inr (by decide +kernel)) (by rw[isSubtype_type];kernel_rfl) (by decide +kernel)
theorem xB:TypeCalled "reversed" "reversed.__new__" "object.__init__":=⟨by decide,F.create_reversed,⟨_,_,F.mro_reversed⟩,F.made_reversed,F.plain_reversed_new,F.sub_reversed_self,BZ⟩
theorem xc:isSubtype (.type "tuple") (.type "dict")=pure false:=by rw[isSubtype_type];kernel_rfl
theorem kJ{items:Array Value}{Q:Value->Shared->Prop}(ht:IsTup s.heap t items)(hz:items.size<=sizeLine)
 (q:∀tk,Q (.ref s.heap.objs.size) { s with heap:=s.heap.push { cls:=.type "reversed",data:=.fields #[.ref t,rawInt ((items.size:Int)-1)] },toks:=tk }):wpAny (model prog w) A (call (.type "reversed") [.ref t]) Q E s:=by
 have h63:=iU;refine callType_newIn xB (by decide) (F.typeCall_reversed_1 _) (F.newCall_reversed_1 _) (fun _=>by rfl) F.entry_reversed_new
  (S:=fun A R s=>wpAny (model prog w) A.in1 (Builtin.«reversed.__new__» ⟨[.type "reversed",.ref t],[]⟩) (fun fin s'=>match fin with | .done f=>R (.ok f) s' | .again c'=>c'.quiet=true/\codeAny (model prog w) A c' R s') (fun e s'=>R (.error e) s') s) (fun A R s h=>h) ?_
 unfold Builtin.«reversed.__new__»;refine zC0 (wpAny_of_eq (newClass_reversed _) ?_);refine zC0 (wpAny_of_eq (a:=()) rfl ?_);refine zC0 (wpAny_of_eq (a:=()) rfl ?_);refine zC0 (wpAny_specialOf ht.typeIs yT ?_);refine zC0 ?_;refine zC0 (wpAny_isInstance ht.typeIs xc ?_);refine wpAny_ite_split (fun hab=>absurd hab (by decide)) (fun _=>?_);refine zC0 (wpAny_specialOf ht.typeIs PyProof.Rows.slot_tuple_getitem.lookup ?_);refine wpAny_ite_split (fun _=>?_) (fun hab=>absurd (by decide +kernel) hab);refine zH0 ?_;refine wpAny_ite_split (fun hab=>absurd hab (by decide)) (fun _=>?_);refine zC0 (len_tuple ht (by omega) ?_);refine zC0 (zH0 ?_);refine zC0 (wpAny_newObj_type (data:=.fields #[.ref t,rawInt ((items.size:Int)-1)]) ?_ (by show 2<=sizeLine+2;decide));refine zH0 ?_;exact⟨⟨_,zV0 _ rfl,rfl⟩,q _⟩
end
end L2
namespace Mine
open PySem L2
def Tr.wf:Tr->Prop
 | .is x=>oS x | .yes=>True | .no=>True | .not a=>a.wf | .bin w a b=>w∈pM/\a.wf/\b.wf
def Tr.parts:Tr->List Tr
 | .is _=>[] | .yes=>[] | .no=>[] | .not a=>[a] | .bin _ a b=>[a,b]
theorem Tr.depth_pos:∀t:Tr,1<=t.depth
 | .is _=>zF0 _ | .yes=>zF0 _ | .no=>zF0 _ | .not a=>Nat.le_add_left .. | .bin _ a b=>Nat.le_add_left ..
def gO(ts:List Tr):Nat:=(ts.map Tr.size).sum
def ip(ts:List Tr):List Str:=(ts.map Tr.names).flatten
theorem Tr.size_parts(t:Tr):t.size=gO t.parts+1:=by
 cases t <;> simp [Tr.size,Tr.parts,gO]
theorem Tr.names_parts(t:Tr)(h:∀x,t≠.is x):t.names=ip t.parts:=by
 cases t with
 | is x=>exact absurd rfl (h x)
 | _=>simp [Tr.names,Tr.parts,ip]
theorem Tr.parts_mem{t u:Tr}(h:u∈t.parts)(w:t.wf):u.wf/\u.depth+1<=t.depth/\u.size+1<=t.size:=by
 cases t with
 | is x=>simp [Tr.parts]at h
 | yes=>simp [Tr.parts]at h
 | no=>simp [Tr.parts]at h
 | not a=>
   rw[zT0 h];exact⟨w,zF0 _,zF0 _⟩
 | bin o a b=>
   obtain⟨_,w1,w2⟩:=w;rcases qD0 h with e | e
   . rw [e];refine⟨w1,?_,?_⟩
     . show a.depth+1<=max a.depth b.depth+1;omega
     . show a.size+1<=a.size+b.size+1;omega
   . rw [zT0 e];refine⟨w2,?_,?_⟩
     . show b.depth+1<=max a.depth b.depth+1;omega
     . show b.size+1<=a.size+b.size+1;omega
inductive TreesAt(H:Hp):List V->List Tr->Prop
 | nil:TreesAt H [] []
 | cons {v:V} {t:Tr} {vs:List V} {ts:List Tr}:TreeAt H v t->TreesAt H vs ts->TreesAt H (v::vs) (t::ts)
theorem TreesAt.mono{H H':Hp}(k:dA H H'){vs:List V}{ts:List Tr}(h:TreesAt H vs ts):TreesAt H' vs ts:=by
 induction h with
 | nil=>exact .nil
 | cons a _ ih=>exact .cons (a.mono k) ih
theorem TreesAt.append{H:Hp}{vs us:List V}{ts rs:List Tr}(h:TreesAt H vs ts)(g:TreesAt H us rs):TreesAt H (vs++us) (ts++rs):=by
 induction h with
 | nil=>exact g
 | cons a _ ih=>exact .cons a ih
theorem TreesAt.length{H:Hp}{vs:List V}{ts:List Tr}(h:TreesAt H vs ts):vs.length=ts.length:=by
 induction h with
 | nil=>rfl
 | cons _ _ ih=>rw[qC0,qC0,ih]
theorem TreesAt.get{H:Hp}{vs:List V}{ts:List Tr}(h:TreesAt H vs ts):∀{i:Nat}{v:V},vs[i]?=some v->∃t,ts[i]?=some t/\TreeAt H v t:=by
 induction h with
 | nil=>intro i v e;simp at e
 | cons a _ ih=>
   intro i v e;cases i with
   | zero=>cases(zR0 e);exact⟨_,rfl,a⟩
   | succ i=>exact ih (i:=i) (by simpa using e)
theorem ve {w:Str} (h:w∈pM):w≠"is":=(by decide +kernel:∀w∈pM,w≠("is":Str)) w h
theorem TreeAt.view {H:Hp} {v:V} {t:Tr} (h:TreeAt H v t) (w:t.wf):(∃(a:Addr) (x:Str),v=.ref a/\t=.is x/\oS x/\H a=some (.tup [.str "is",.str x]))∨
 ∃(a:Addr) (o:Str) (xs:List V),v=.ref a/\o≠"is"/\xs.length<=2/\H a=some (.tup (.str o::xs))/\TreesAt H xs t.parts/\(∀x,t≠.is x):=by
 cases h with
 | is e=>exact .inl ⟨_,_,rfl,rfl,w,e⟩
 | yes e=>exact .inr ⟨_,_,[],rfl,by decide +kernel,by simp,e,.nil,fun x z=>by cases z⟩
 | no e=>exact .inr ⟨_,_,[],rfl,by decide +kernel,by simp,e,.nil,fun x z=>by cases z⟩
 | not e g=>exact .inr ⟨_,_,[_],rfl,by decide +kernel,by simp,e,.cons g .nil,fun x z=>by cases z⟩
 | bin e g g2=>exact .inr ⟨_,_,[_,_],rfl,ve w.1,by simp,e,.cons g (.cons g2 .nil),fun x z=>by cases z⟩
theorem cut1(o:V):∀xs:List V,xs.length<=2->pj (o::xs) (some 1) none=xs/\¬ (HT.sIx (o::xs).length 0 (some 1)=0/\HT.sIx (o::xs).length (o::xs).length none=(o::xs).length)
 | [],_=>⟨rfl,fun h=>absurd h.1 (show ¬ HT.sIx 1 0 (some 1)=0 by decide)⟩
 | [_],_=>⟨rfl,fun h=>absurd h.1 (show ¬ HT.sIx 2 0 (some 1)=0 by decide)⟩
 | [_,_],_=>⟨rfl,fun h=>absurd h.1 (show ¬ HT.sIx 3 0 (some 1)=0 by decide)⟩
 | _::_::_::_,h=>absurd h (by simp)
theorem sg{K:W.Frag}{H:Hp}:∀ns:List Str,RepAll K H (ns.map V.str) (ns.map PyData.str)
 | []=>.nil
 | n::r=>.cons (.str n) (sg r)
theorem yZ{x:Str}(h:oS x):PyData.strOk x=true:=by
 unfold PyData.strOk;rw[←Array.all_toList,List.all_eq_true];intro c hc
 have:=h.2.1 c hc
 exact decide_eq_true (by omega)
theorem rT{ns:List Str}(h:∀x∈ns,oS x):PyData.canLayAll0 (ns.map PyData.str)=true/\PyData.depthAll (ns.map PyData.str)=0:=by
 induction ns with
 | nil=>simp [PyData.canLayAll0,PyData.depthAll]
 | cons a r ih=>
   have i1:=ih fun t ht=>h t (qF0 _ ht)
   rw[zS0,PyData.canLayAll0,PyData.depthAll,i1.1,i1.2];refine⟨?_,?_⟩
   . rw[PyData.canLay0,yZ (h a qG0)];rfl
   . simp [PyData.depth]
theorem Tr.names_len:∀t:Tr,t.names.length<=t.size
 | .is _=>zF0 _
 | .yes=>zZ0 _
 | .no=>zZ0 _
 | .not a=>Nat.le_succ_of_le (Tr.names_len a)
 | .bin _ a b=>by
   have:=Tr.names_len a
   have:=Tr.names_len b
   show(a.names++b.names).length<=a.size+b.size+1;rw[zN0];omega
end Mine
namespace L2
open PySem PySem.Spec PyProof.Rows
section
variable {prog:Program} {w:World} {A:Around} {E:Value->Shared->Prop} {s:Shared}
def EB(xs:Array Value)(x:Value):Nat->Option PySem.Fin×Unit->Sem (ForInStep (Option PySem.Fin×Unit)):=fun i _=>match xs[i]? with
 | some y=>do
   let b ←eqBool y x
   if b=true then do
    let r ←retInt (i:Int)
    pure (ForInStep.done (some r,()))
    else pure (ForInStep.yield (none,()))
 | _=>pure (ForInStep.yield (none,()))
theorem sW{xs:Array Value}{x:Value}{e:Value->Bool}(he:∀y∈xs,SeqAt.EqAt A s y x (e y)){j:Nat}(hj:j<xs.size)(ej:e xs[j]=true)(bf:∀(m:Nat) (hm:m<xs.size),m<j->e xs[m]=false){Q:Option PySem.Fin×Unit->Shared->Prop}
 (q:Q (some (.done (.ret (.int (j:Int) s.toks))),()) { s with toks:=s.toks+1 }):∀(n k:Nat),k<=j->j<k+n->k+n<=xs.size->wpAny (model prog w) A (forIn (List.range' k n 1) ((none:Option PySem.Fin),()) (EB xs x)) Q E s
 | 0,k,h1,h2,_=>absurd h2 (by omega)
 | n+1,k,h1,h2,h3=>by
   have hk:k<xs.size:=by omega
   rw [List.range'_succ,List.forIn_cons];refine zC0 ?_;have e1:EB xs x k ((none:Option PySem.Fin),())=(do
    let b ←eqBool xs[k] x
    if b=true then do
     let r ←retInt (k:Int)
     pure (ForInStep.done (some r,()))
     else pure (ForInStep.yield (none,()))):=by
    unfold EB;rw[Array.getElem?_eq_getElem hk]
   rw[e1];refine zC0 (he _ (Array.getElem_mem hk) prog w _ _ ?_)
   by_cases c:k=j
   . subst c;rw[ej];refine wpAny_ite_split (fun _=>?_) (fun hab=>absurd rfl hab);refine zC0 ?_;refine zC0 (wpAny_mkInt ?_);refine zH0 ?_;refine zH0 ?_;exact zH0 q
   . rw[bf k hk (by omega)];refine wpAny_ite_split (fun hab=>absurd hab (by decide)) (fun _=>?_);refine zH0 ?_;exact sW he hj ej bf q n (k+1) (by omega) (by omega) (by omega)
theorem ot(l:Addr)(items:Array Value)(n:Nat)(dd:Option Addr)(sl:Array (Option Value))(x:Value)(e:Value->Bool)(j:Nat)(hj:j<items.size)(ej:e items[j]=true)(bf:∀(m:Nat) (hm:m<items.size),m<j->e items[m]=false) :
 Meets (Builtin.«tuple.index» { pos:=[.ref l,x] }) fun A R s=>s.heap.get? l=some { cls:=.type "tuple",dict:=dd,data:=.seq items n,slots:=sl }/\(∀y∈items,SeqAt.EqAt A.in1 s y x (e y))/\R (.ok (.ret (.int (j:Int) s.toks))) { s with toks:=s.toks+1 }:=by
 intro prog w A R s ⟨hl,he,q⟩;unfold Builtin.«tuple.index»;refine zC0 (wpAny_of_eq (a:=(Value.ref l,[x])) rfl ?_);refine zC0 (wpAny_tupleItemsOf hl rfl ?_);refine zC0 (zH0 ?_);refine zC0 (zH0 ?_);refine zC0 ?_;rw[Std.Legacy.Range.forIn_eq_forIn_range'];have e1:Std.Legacy.Range.size [0:min items.size items.size]=items.size:=by simp [Std.Legacy.Range.size]
 rw[e1];refine sW he hj ej bf ?_ items.size 0 (zZ0 _) (by omega) (by omega);exact zH0 q
end
section
variable {X:Cx}
def eD(z:Str):List Str->Option Nat
 | []=>none
 | a::r=>if a=z then some 0 else(eD z r).map (·+1)
theorem nU{z:Str}:∀{ns:List Str}{j:Nat},eD z ns=some j->ns[j]?=some z/\∀m,m<j->∀y,ns[m]?=some y->y≠z
 | [],_,h=>by simp [eD]at h
 | a::r,j,h=>by
   unfold eD at h
   by_cases c:a=z
   . rw[zB0 c]at h;cases h;exact⟨by simp [c],fun m hm=>absurd hm (by omega)⟩
   . rw [zA0 c]at h;obtain⟨i,hi,rfl⟩:=Option.map_eq_some_iff.mp h;obtain⟨h1,h2⟩:=nU hi;refine⟨by simpa using h1,fun m hm y hy=>?_⟩;cases m with
     | zero=>cases(zR0 hy);exact c
     | succ m=>exact h2 m (by omega) y (by simpa using hy)
theorem mY:∀{bs:List Str}{us:List Value}{i:Nat}{v:Value},Vals (bs.map V.str) us->us[i]?=some v->∃b t,bs[i]?=some b/\v=.str b t
 | [],_,_,_,.nil,h=>by simp at h
 | b::_,_,0,_,.cons r _,h=>by
   simp at h
   subst h;obtain⟨t,e⟩:=r;exact⟨b,t,rfl,e⟩
 | _::_,_,i+1,_,.cons _ t,h=>by
   obtain⟨b,t,h1,h2⟩:=mY (i:=i) t (by simpa using h);exact⟨b,t,by simpa using h1,h2⟩
theorem hU(ns:List Str):(ns.map V.str).all iz=true:=by
 induction ns with
 | nil=>rfl
 | cons a r ih=>rw[zS0,List.all_cons,ih];rfl
theorem lY{ns:List Str}{its:List Value}{z:Str}{j:Nat}(r:Vals (ns.map V.str) its)(h:eD z ns=some j) :
 ∃hj:j<its.toArray.size,eqU (.str z) its.toArray[j]=true/\∀(m:Nat)(hm:m<its.toArray.size),m<j->eqU (.str z) its.toArray[m]=false:=by
 obtain⟨h1,h2⟩:=nU h;have hl:=r.length;rw[zG0]at hl;have jl:j<ns.length:=(zX0 h1).1;have hj:j<its.toArray.size:=by rw[zO0,←hl];exact jl
 refine⟨hj,?_,fun m hm mj=>?_⟩
 . obtain ⟨b,t,e1,e2⟩:=mY r (i:=j) (v:=its.toArray[j]) (by simp);rw[e2];rw[h1]at e1;cases e1;show(z==z)=true
   simp
 . obtain ⟨b,t,e1,e2⟩:=mY r (i:=m) (v:=its.toArray[m]) (by simp);rw[e2];show(b==z)=false
   have:=h2 m mj b e1
   simpa using this
def Cc(K:W.Frag):V->List V->Hp->VK->Prop:=fun x vs H Q=>∃(a:Addr)(ns:List Str)(z:Str)(j:Nat),x=.ref a/\vs=[.str z]/\SqT K H a (ns.map V.str)/\eD z ns=some j/\Q (.int (j:Int)) H
theorem xU:MtR X "tuple.index" (Cc X.K):=by
 intro pins s σ H x vs v us Q I rx rv h;obtain⟨a,ns,z,j,rfl,rfl,hq,hp,q⟩:=h;cases rx;obtain⟨u,rfl,ru⟩:=rv.one;obtain⟨its,r,⟨⟨cls,dd,data,sl⟩,ho,hc,n,hd⟩,hz⟩:=I.tuple hq;simp only at hc hd;subst hc hd;obtain⟨hj,e1,e2⟩:=lY r hp;refine call_meets F.slot_tuple_index ⟨_,ho,rfl⟩ F.entry_tuple_index (F.args_tuple_index_2 _ _) (ot a its.toArray n dd sl u (eqU (.str z)) j hj e1 e2) ⟨ho,fun y hy=>?_,?_⟩
 . exact fF ru rfl r (hU ns) y (by simpa using hy)
 . exact⟨.int (j:Int),H,I.tok _,⟨_,rfl⟩,q⟩
def Cd(K:W.Frag):V->List V->Hp->VK->Prop:=fun x vs H Q=>∃(a:Addr)(ns:List Str)(z:Str)(j:Nat),x=.ref a/\vs=[.str z]/\SqL K H a (ns.map V.str)/\eD z ns=some j/\Q (.int (j:Int)) H
theorem xV:MtR X "list.index" (Cd X.K):=by
 intro pins s σ H x vs v us Q I rx rv h;obtain⟨a,ns,z,j,rfl,rfl,hq,hp,q⟩:=h;cases rx;obtain⟨u,rfl,ru⟩:=rv.one;obtain⟨its,r,⟨⟨cls,dd,data,sl⟩,n,ho,hc,hdd,hd⟩,hz⟩:=I.list hq;simp only at hc hd;subst hc hd;obtain⟨hj,e1,e2⟩:=lY r hp;have h63:=iU;have hl:=r.length;refine call_meets F.slot_list_index ⟨_,ho,rfl⟩ F.entry_list_index (F.args_list_index_2 _ _) (SeqAt.list_indexAt a its.toArray n dd sl u (eqU (.str z)) j hj (by rw[zO0]at hj;omega) e1 e2) ⟨ho,fun y hy=>?_,?_⟩
 . exact fF ru rfl r (hU ns) y (by simpa using hy)
 . exact⟨.int (j:Int),H,I.tok _,⟨_,rfl⟩,q⟩
end
section
variable {κ:Type} [DecidableEq κ]
def gm(kvs:List (κ×V))(k:κ):Option V:=(kvs.find? fun kv=>decide (kv.1=k)).map (·.2)
def km(kvs:List (κ×V))(k:κ)(v:V):List (κ×V):=
 if(kvs.any fun kv=>decide (kv.1=k))=true then kvs.map (fun kv=>if kv.1=k then(kv.1,v)else kv)else kvs++[(k,v)]
theorem du{p:κ×V}{r:List (κ×V)}{k:κ}(e:p.1=k):gm (p::r) k=some p.2:=by simp [gm,List.find?_cons,e]
theorem dw{p:κ×V}{r:List (κ×V)}{k:κ}(e:¬ p.1=k):gm (p::r) k=gm r k:=by simp [gm,List.find?_cons,e]
theorem jY(k:κ):∀kvs:List (κ×V),(kvs.any fun kv=>decide (kv.1=k))=(gm kvs k).isSome
 | []=>rfl
 | p::r=>by
   rw[List.any_cons]
   by_cases e:p.1=k
   . simp only[du e,decide_eq_true e,Bool.true_or,Option.isSome_some]
   . rw[dw e,decide_eq_false e,Bool.false_or];exact jY k r
theorem rE(k j:κ)(y:V):∀kvs:List (κ×V),gm (kvs.map fun kv=>if kv.1=k then(kv.1,y)else kv) j=(gm kvs j).map fun x=>if j=k then y else x
 | []=>rfl
 | p::r=>by
   have ih:=rE k j y r;rw[zS0]
   by_cases h:p.1=k
   . rw [zB0 h]
     by_cases e:p.1=j
     . rw[du (p:=(p.1,y)) e,du e,Option.map_some,zB0 (e.symm.trans h)]
     . rw[dw (p:=(p.1,y)) e,dw e,ih]
   . rw [zA0 h]
     by_cases e:p.1=j
     . rw[du (p:=p) e,du e,Option.map_some,zA0 (fun z=>h (e.trans z))]
     . rw[dw (p:=p) e,dw e,ih]
theorem pA(k j:κ)(y:V):∀kvs:List (κ×V),gm kvs k=none->gm (kvs++[(k,y)]) j=if j=k then some y else gm kvs j
 | [],_=>by
   by_cases e:k=j
   . rw[zB0 e.symm];exact du (p:=(k,y)) e
   . rw[zA0 (fun z=>e z.symm)];exact dw (p:=(k,y)) e
 | p::r,hn=>by
   rw[List.cons_append];have hk:¬ p.1=k:=fun z=>by rw[du z]at hn;cases hn
   rw[dw hk]at hn;have ih:=pA k j y r hn
   by_cases e:p.1=j
   . rw[du e,du e,zA0 (fun z=>hk (e.trans z))]
   . rw[dw e,dw e,ih]
theorem yO(kvs:List (κ×V))(k j:κ)(y:V):gm (km kvs k y) j=if j=k then some y else gm kvs j:=by
 unfold km
 by_cases a:(kvs.any fun kv=>decide (kv.1=k))=true
 . rw [zB0 a,rE];rw[jY]at a
   by_cases e:j=k
   . obtain⟨x,hx⟩:=Option.isSome_iff_exists.mp a;rw[zB0 e,e,hx,Option.map_some,zB0 rfl]
   . rw [zA0 e];cases gm kvs j with
     | none=>rfl
     | some x=>rw[Option.map_some,zA0 e]
 . rw [zA0 a];refine pA k j y kvs ?_;rw[jY]at a;cases q:gm kvs k with
   | none=>rfl
   | some x=>rw[q]at a;exact(a rfl).elim
theorem iV(kvs:List (κ×V))(k:κ)(v:V):(km kvs k v).length<=kvs.length+1:=by
 unfold km
 split
 . rw[zG0];omega
 . rw[zN0,qC0,List.length_nil];omega
theorem RelO.isSome_eq{o:Option V}{u:Option Value}(r:RelO o u):o.isSome=u.isSome:=by
 cases o with
 | none=>cases u with
   | none=>rfl
   | some _=>exact(show False from r).elim
 | some _=>cases u with
   | none=>exact(show False from r).elim
   | some _=>rfl
theorem RelO.getD{o:Option V}{u:Option Value}{d:V}{d':Value}(r:RelO o u)(rd:RelV d d'):RelV (o.getD d) (u.getD d'):=by
 cases o with
 | none=>cases u with
   | none=>exact rd
   | some _=>exact(show False from r).elim
 | some _=>cases u with
   | none=>exact(show False from r).elim
   | some _=>exact r
theorem KV.val{kvs:List (κ×V)}{vs:List (κ×Value)}(r:KV kvs vs)(k:κ):RelO (gm kvs k) (valueAt vs k):=by
 unfold KV at r
 induction r with
 | nil=>exact True.intro
 | @cons p q ps qs h t ih=>
   obtain⟨h1,h2⟩:=h
   by_cases e:p.1=k
   . have e':q.1=k:=h1.symm.trans e;have b:valueAt (q::qs) k=some q.2:=by simp [valueAt,List.find?_cons,e']
     rw[du e,b];exact h2
   . have e':¬ q.1=k:=fun z=>e (h1.trans z)
     have b:valueAt (q::qs) k=valueAt qs k:=by simp [valueAt,List.find?_cons,e']
     rw[dw e,b];exact ih
theorem KV.any{kvs:List (κ×V)}{vs:List (κ×Value)}(r:KV kvs vs)(k:κ):(kvs.any fun kv=>decide (kv.1=k))=vs.any fun kv=>decide (kv.1=k):=by
 unfold KV at r
 induction r with
 | nil=>rfl
 | cons h t ih=>rw[List.any_cons,List.any_cons,ih,h.1]
theorem KV.repl{kvs:List (κ×V)}{vs:List (κ×Value)}(r:KV kvs vs)(k:κ){y:V}{u:Value}(ry:RelV y u) :
 KV (kvs.map fun kv=>if kv.1=k then(kv.1,y)else kv) (vs.map fun kv=>if kv.1=k then(kv.1,u)else kv):=by
 unfold KV at r ⊢
 induction r with
 | nil=>exact .nil
 | @cons p q ps qs h t ih=>
   rw[zS0,zS0];refine .cons ?_ ih;obtain⟨h1,h2⟩:=h
   by_cases e:p.1=k
   . rw[zB0 e,zB0 (h1.symm.trans e)];exact⟨h1,ry⟩
   . rw[zA0 e,zA0 (fun z=>e (h1.trans z))];exact⟨h1,h2⟩
theorem KV.put{kvs:List (κ×V)}{vs:List (κ×Value)}(r:KV kvs vs)(k:κ){y:V}{u:Value}(ry:RelV y u):KV (km kvs k y) (stored vs k u):=by
 unfold km stored;rw[r.any k]
 by_cases e:(vs.any fun kv=>decide (kv.1=k))=true
 . rw[zB0 e,zB0 e];exact r.repl k ry
 . rw[zA0 e,zA0 e];exact Paired.snoc r ⟨rfl,ry⟩
theorem KV.length{kvs:List (κ×V)}{vs:List (κ×Value)}(r:KV kvs vs):kvs.length=vs.length:=Paired.length r
end
theorem AV{P:Program}{w:World}{k:Key}{u:Value}(r:RelV (kV k) u):(db P w).is k u=true:=by
 cases k with
 | inl i=>obtain⟨t,e⟩:=(show ∃t,u=Value.int i t from r);subst e;exact sN P w i t
 | inr x=>obtain⟨t,e⟩:=(show ∃t,u=Value.str x t from r);subst e;exact sM P w x t
theorem pO{P:Program}{w:World}:∀{ks:List Key}{us:List Value},Vals (ks.map kV) us->ItemsAre (db P w) ks us
 | [],_,r=>by rw[List.map_nil]at r;cases r;exact .nil
 | k::ks,_,r=>by
   rw[zS0]at r;cases r with
   | cons h t=>exact .cons (AV h) (pO t)
abbrev KT(H:Hp):List (List Key×V)->List (List Key×Addr×Value)->Prop:=Paired fun p q=>p.1=q.1/\H q.2.1=some (.tup (p.1.map kV))/\RelV p.2 q.2.2
theorem KT.val{H:Hp}{kvs:List (List Key×V)}{xs:List (List Key×Addr×Value)}(r:KT H kvs xs)(k:List Key):RelO (gm kvs k) ((atKey xs k).map (·.2)):=by
 induction r with
 | nil=>exact True.intro
 | @cons p q ps qs h t ih=>
   obtain⟨h1,_,h2⟩:=h
   by_cases e:p.1=k
   . have e':q.1=k:=h1.symm.trans e;have b:atKey (q::qs) k=some q.2:=by simp [atKey,List.find?_cons,e']
     rw[du e,b];exact h2
   . have e':¬ q.1=k:=fun z=>e (h1.trans z)
     have b:atKey (q::qs) k=atKey qs k:=by simp [atKey,List.find?_cons,e']
     rw[dw e,b];exact ih
theorem KT.repl{H:Hp}{kvs:List (List Key×V)}{xs:List (List Key×Addr×Value)}(r:KT H kvs xs)(k:List Key){y:V}{u:Value}(ry:RelV y u) :
 KT H (kvs.map fun kv=>if kv.1=k then(kv.1,y)else kv) (xs.map (putAt k u)):=by
 induction r with
 | nil=>exact .nil
 | @cons p q ps qs h t ih=>
   rw[zS0,zS0];refine .cons ?_ ih;obtain⟨h1,h2,h3⟩:=h;unfold putAt
   by_cases e:p.1=k
   . rw[zB0 e,zB0 (h1.symm.trans e)];exact⟨h1,h2,ry⟩
   . rw[zA0 e,zA0 (fun z=>e (h1.trans z))];exact⟨h1,h2,h3⟩
theorem KT.put{H:Hp}{kvs:List (List Key×V)}{xs:List (List Key×Addr×Value)}(r:KT H kvs xs)(k:List Key){b:Addr}{y:V}{u:Value}(hb:H b=some (.tup (k.map kV)))(ry:RelV y u) :
 KT H (km kvs k y) (storedH xs k b u):=by
 have e:(kvs.any fun kv=>decide (kv.1=k))=(atKey xs k).isSome:=by
  rw[jY,(r.val k).isSome_eq,Option.isSome_map]
 unfold km storedH;rw[e]
 by_cases q:(atKey xs k).isSome=true
 . rw[zB0 q,zB0 q];exact r.repl k ry
 . rw[zA0 q,zA0 q];exact Paired.snoc r ⟨rfl,hb,ry⟩
theorem KT.keeps{H H':Hp}{kvs:List (List Key×V)}{xs:List (List Key×Addr×Value)}(r:KT H kvs xs)(ht:∀b ys,H b=some (.tup ys)->H' b=some (.tup ys)):KT H' kvs xs:=
 Paired.mapP r fun _ _ z=>⟨z.1,ht _ _ z.2.1,z.2.2⟩
section
variable {P:Program} {w:World} {H:Hp} {h:Heap} {a:Addr}
theorem Do{u:HO}(ok:HOk P w H h)(e:Rd H a u):ObjOk P w H h a u:=e.ok ok
theorem wL{kvs:List (Key×V)}(ok:HOk P w H h)(e:Rd H a (.dK kvs)):kvs.length<=sizeLine/\(a==sysModules)=false/\∃vs,KV kvs vs/\h.DictOf (db P w) a vs:=
 show ObjOk P w H h a (.dK kvs)from Do ok e
theorem dk_of{kvs:List (Key×V)}(ok:HOk P w H h)(e:H a=some (.dK kvs)):kvs.length<=sizeLine/\(a==sysModules)=false/\∃vs,KV kvs vs/\h.DictOf (db P w) a vs:=wL ok (.inl e)
theorem vd{ks:List Key}(ok:HOk P w H h)(e:H a=some (.tup (ks.map kV))):(tupleKind (db P w)).is h ks a:=by
 obtain⟨_,its,r,⟨o,h1,h2,n,h3⟩,_⟩:=(show ObjOk P w H h a (.tup (ks.map kV))from ok a _ e)
 exact⟨o,its.toArray,n,h1,h2,h3,by simpa using pO r⟩
theorem Bm{kvs:List (List Key×V)}(ok:HOk P w H h)(e:Rd H a (.dT kvs)):kvs.length<=sizeLine/\(a==sysModules)=false/\
 ∃xs,KT H kvs xs/\h.DictOfH (tupleKind (db P w)) a xs:=by
 obtain⟨z,y,xs,r,o,es,ep,h1,h2,h3,h4,h5⟩:=(show ObjOk P w H h a (.dT kvs)from Do ok e)
 refine ⟨z,y,xs,r,o,es,ep,h1,h2,h3,h4,fun x hx=>?_,h5⟩;have all:∀{l:List (List Key×V)}{m:List (List Key×Addr×Value)},KT H l m->∀x∈m,(tupleKind (db P w)).is h x.1 x.2.1:=by
  intro l m q
  induction q with
  | nil=>intro x hx;exact nomatch hx
  | @cons p q ps qs hq t ih=>
    intro x hx;rcases qD0 hx with e | hx
    . subst e;exact vd ok (by rw[←hq.1];exact hq.2.1)
    . exact ih x hx
 exact all r x hx
theorem dt_of{kvs:List (List Key×V)}(ok:HOk P w H h)(e:H a=some (.dT kvs)):kvs.length<=sizeLine/\(a==sysModules)=false/\
 ∃xs,KT H kvs xs/\h.DictOfH (tupleKind (db P w)) a xs:=Bm ok (.inl e)
end
def DGet(H:Hp)(a:Addr)(y:V)(r:Option V):Prop:=
 (∃kvs k,Rd H a (.dK kvs)/\y=kV k/\r=gm kvs k)∨∃kvs k b,Rd H a (.dT kvs)/\y=.ref b/\H b=some (.tup (k.map kV))/\r=gm kvs k
def DPut(H:Hp)(a:Addr)(y v:V)(H':Hp):Prop:=
 (∃kvs k,H a=some (.dK kvs)/\y=kV k/\kvs.length<sizeLine/\H'=upd H a (.dK (km kvs k v)))∨
 ∃kvs k b,H a=some (.dT kvs)/\y=.ref b/\H b=some (.tup (k.map kV))/\kvs.length<sizeLine/\H'=upd H a (.dT (km kvs k v))
theorem DGet.k{H:Hp}{a:Addr}{kvs:List (Key×V)}{k:Key}(e:H a=some (.dK kvs)):DGet H a (kV k) (gm kvs k):=.inl ⟨kvs,k,.inl e,rfl,rfl⟩
theorem DPut.k{H:Hp}{a:Addr}{kvs:List (Key×V)}{k:Key}{v:V}(e:H a=some (.dK kvs))(hl:kvs.length<sizeLine):DPut H a (kV k) v (upd H a (.dK (km kvs k v))):=.inl ⟨kvs,k,e,rfl,hl,rfl⟩
section
variable {X:Cx} {pins:List (Addr×Obj)} {σ:St} {H:Hp} {s:Shared} {a:Addr} {y v:V} {u r:Value} {o:Option V} {A:Around} {E:Value->Shared->Prop}
theorem Inv.big(I:Inv X pins σ H s):sysModules<s.heap.objs.size:=by
 have h:mainGlobals<s.heap.objs.size:=(I.mod.glob.keeps I.bk).lt;exact Nat.lt_trans (by decide) h
theorem wP{h':Heap}{t':Nat}{ob:HO}(I:Inv X pins σ H s)(mu:Mut (H a))(hs:Heap.SameBut a s.heap h')(he:∃q,h'.get? a=some q)(new:ObjOk X.prog X.w (upd H a ob) h' a ob) :
 Inv X pins σ (upd H a ob) { s with heap:=h',toks:=t' }:=
 I.write (x:=a) (e:=a) mu (.inl rfl) (fun b q hb z=>(hs.2 b hb).trans z) he new
theorem Bq{P:Program}{w:World}{H':Hp}{h':Heap}{kvs:List (Key×V)}{vs:List (Key×Value)}(z:kvs.length<=sizeLine)(hd:(a==sysModules)=false)(rel:KV kvs vs)(dd:h'.DictOf (db P w) a vs) :
 ObjOk P w H' h' a (.dK kvs):=⟨z,hd,vs,rel,dd⟩
theorem yx{H':Hp}{Q:Unit->Shared->Prop}(hu:A.units+1<cLine)(I:Inv X pins σ H s)(g:DPut H a y v H')(ry:RelV y u)(rv:RelV v r)(h:∀s',Inv X pins σ H' s'->Q () s') :
 wpAny (model X.prog X.w) A (setItem (.ref a) u r) Q E s:=by
 rcases g with⟨kvs,k,e,ey,l,eH⟩ | ⟨kvs,k,b,e,ey,eb,l,eH⟩
 . subst ey eH;obtain⟨z,hd,vs,rel,dd⟩:=dk_of I.hok e;have hz:vs.length<=sizeLine:=by rw[←rel.length];exact z
   have hl:(km kvs k v).length<=sizeLine:=by have:=iV kvs k v;omega
   refine wpAny_setItem_pairs (hsz:=hz) (AV ry) dd fun h' dd' hs=>h _ ?_
   have he:∃q,h'.get? a=some q:=let⟨q,_,_,hq,_⟩:=dd';⟨q,hq⟩
   exact wP I (by rw[e];exact True.intro) hs he (Bq hl hd (rel.put k rv) dd')
 . subst ey eH;cases(show u=Value.ref b from ry);obtain⟨z,hd,xs,rel,dd⟩:=dt_of I.hok e;have hz:xs.length<=sizeLine:=by rw[←Paired.length rel];exact z
   have hl:(km kvs k v).length<=sizeLine:=by have:=iV kvs k v;omega
   refine wpAny_setItem_heap (hsz:=hz) (tupleKind_room_in1 hu) (vd I.hok eb) dd fun h' dd' hs=>h _ ?_
   obtain⟨q,es,ep,hq,h2,h3,h4,_,h5⟩:=dd';refine wP I (by rw[e];exact True.intro) hs ⟨q,hq⟩ ⟨hl,hd,_,(rel.put k eb rv).keeps fun c ys ec=>?_,q,es,ep,hq,h2,h3,h4,h5⟩;rw[aq (bq ec e (fun z=>nomatch z))];exact ec
end
def sDPut(td ty tv:TE):TS:=fun D σ H=>tv σ H fun v H1=>td σ H1 fun x H2=>ty σ H2 fun y H3=>∃a H4,x=.ref a/\DPut H3 a y v H4/\D.nx σ H4
section
variable {X:Cx} {o i e value:Expr} {pos pos' tpos:Pos} {td ty tv:TE}
theorem Ch(hu:X.A.units+1<cLine)(ho:PE X o td)(hi:PE X i ty)(hv:PE X value tv)(hs:swapsWith value (some (.Subscript o i pos')) pos.line X.env=pure false) :
 PS X (.Assign [.Subscript o i pos'] value pos) (sDPut td ty tv):=by
 intro pins s σ H D I h;refine wpAny_Assign_Subscript (thn (hv pins s σ H _ I h) fun r s1 ⟨v,H1,I1,rv,q1⟩=>thn (ho pins s1 σ H1 _ I1 q1) fun u s2 ⟨x,H2,I2,rx,q2⟩=>thn (hi pins s2 σ H2 _ I2 q2) fun iv s3 ⟨y,H3,I3,ry,a,H4,ex,g,q3⟩=>?_) hs;subst ex;obtain rfl:u=Value.ref a:=rx;exact yx hu I3 g ry rv fun s4 I4=>⟨σ,H4,I4,q3⟩
end
theorem Br {P:Program} {w:World} {H:Hp} (h:Heap) (hb:sysModules<h.objs.size):ObjOk P w H (h.push { cls:=.type "dict",data:=.dict #[] }) h.objs.size (.dK []):=
 ⟨zZ0 _,beq_eq_false_iff_ne.mpr (Ne.symm (zQ0 hb)),[],.nil,Heap.DictOf.new h⟩
def DO:TE:=fun _ H Q=>∀p,H p=none->Q (.ref p) (upd H p (.dK []))
section
variable {X:Cx} {pos:Pos}
theorem Ae:PE X (.Dict [] [] pos) DO:=fun pins s σ H Q I h=>
 wpAny_Dict_empty ⟨.ref s.heap.objs.size,_,I.laid (a:=s.heap.objs.size) (o:=.dK []) (t':=s.toks) (fun _ _ q=>zJ0 _ q) (zF0 _) (Br s.heap I.big),rfl,h _ (I.hok.fresh (zF0 _))⟩
end
structure M2(X:Cx)(o:Expr)(m:Str)(apos:Pos)(e f:Expr)(cpos:Pos):Prop where
 base:attributeBase o m X.env (eval o X.env)=eval o X.env
 few:((backTo cpos (starEach [e,f] X.env)).all (fun x=>!x.1)&&(backToKw cpos (keywordEach [] X.env)).all (fun x=>x.1.isSome)
  &&decide (([e,f]:List Expr).length+([]:List Keyword).length+(if([]:List Keyword).isEmpty then 0 else 1)<30))=true
 line:(apos.endLine==cpos.line)=true
 trees:backTo cpos (starEach [e,f] X.env)=[(false,eval e X.env),(false,eval f X.env)]
def IsD(H:Hp)(a:Addr):Prop:=(∃kvs,Rd H a (.dK kvs))∨∃kvs,Rd H a (.dT kvs)
theorem Ew{X:Cx}{pins:List (Addr×Obj)}{σ:St}{H:Hp}{s:Shared}{a:Addr}(I:Inv X pins σ H s)(d:IsD H a) :
 s.TypeIs (.ref a) "dict"/\(∀b,Value.ref a=.ref b->∃ob,s.heap.get? b=some ob/\ob.dict=none)/\(a==sysModules)=false:=by
 rcases d with⟨kvs,e⟩ | ⟨kvs,e⟩
 . obtain⟨_,hd,vs,_,dd⟩:=wL I.hok e;refine⟨dd.typeIs,fun b q=>?_,hd⟩;cases q;obtain⟨ob,_,_,h1,h2,_⟩:=dd;exact⟨ob,h1,h2.2.1⟩
 . obtain⟨_,hd,xs,_,dd⟩:=Bm I.hok e;refine⟨dd.typeIs,fun b q=>?_,hd⟩;cases q;obtain⟨ob,_,_,h1,h2,_⟩:=dd;exact⟨ob,h1,h2.2.1⟩
section
variable {X:Cx} {pins:List (Addr×Obj)} {σ:St} {H:Hp} {s:Shared} {a:Addr} {y d:V} {u r:Value} {o:Option V} {A:Around} {E:Value->Shared->Prop}
theorem ET{Q:Value->Shared->Prop}(hu:A.units+1<cLine)(I:Inv X pins σ H s)(g:DGet H a y o)(ry:RelV y u)(rd:RelV d r)(h:∀w' s',Inv X pins σ H s'->RelV (o.getD d) w'->Q w' s') :
 wpAny (model X.prog X.w) A (call (.builtin "dict.get") [.ref a,u,r]) Q E s:=by
 rcases g with⟨kvs,k,e,ey,l⟩ | ⟨kvs,k,b,e,ey,eb,l⟩
 . subst ey;obtain⟨z,hd,vs,rel,dd⟩:=wL I.hok e;refine call_meetsIn PySem.F.slot_dict_get dd.typeIs PySem.F.entry_dict_get (PySem.F.args_dict_get_3 _ _ _) (meets_dict_get_default (db X.prog X.w) a (AV ry) hd r) ⟨_,dd.mapOf,h _ _ (I.tok _) ?_⟩;rw[l];exact(rel.val k).getD rd
 . subst ey;cases(show u=Value.ref b from ry);obtain⟨z,hd,xs,rel,dd⟩:=Bm I.hok e;refine call_meetsIn PySem.F.slot_dict_get dd.typeIs PySem.F.entry_dict_get (PySem.F.args_dict_get_3 _ _ _) (meetsH_dict_get_default (tupleKind (db X.prog X.w)) a b hd r) ⟨tupleKind_room_in1 hu,k,xs,vd I.hok eb,dd,h _ _ (I.tok _) ?_⟩;rw[l];exact(rel.val k).getD rd
end
def DP(td ty tx:TE):TE:=fun σ H Q=>td σ H fun x H1=>∃a,x=.ref a/\IsD H1 a/\ty σ H1 fun y H2=>tx σ H2 fun z H3=>∃o,DGet H3 a y o/\Q (o.getD z) H3
section
variable {X:Cx} {o e f:Expr} {apos cpos:Pos} {td ty tx:TE}
theorem Af (hu:X.A.units+1<cLine) (ho:PE X o td) (he:PE X e ty) (hf:PE X f tx) (m:M2 X o "get" apos e f cpos):PE X (.Call (.Attribute o "get" apos) [e,f] [] cpos) (DP td ty tx):=by
 intro pins s σ H Q I h;refine wpAny_Call_method m.base m.few m.line PySem.F.plainAttrs_dict PySem.F.slot_dict_get PySem.F.type_dict_get (thn (ho pins s σ H _ I h) fun u s1 ⟨x,H1,I1,rx,a,ex,d,q1⟩=>?_);subst ex;obtain rfl:u=Value.ref a:=rx;obtain⟨t1,t2,_⟩:=Ew I1 d;refine⟨t1,t2,?_⟩;rw[m.trees];refine Calls.callWith_builtin rfl (Calls.evalArgs_plain (Calls.spliced_cons (thn (he pins s1 σ H1 _ I1 q1) fun iv s2 ⟨y,H2,I2,ry,q2⟩=>
  Calls.spliced_cons (thn (hf pins s2 σ H2 _ I2 q2) fun fv s3 ⟨z,H3,I3,rz,ov,g,q3⟩=>Calls.spliced_nil ?_))))
 exact ET hu I3 g ry rz fun w' s4 I4 rw'=>⟨_,H3,I4,rw',q3⟩
end
section
variable {X:Cx} {pins:List (Addr×Obj)} {σ:St} {H:Hp} {s:Shared} {a:Addr} {kvs:List (Key×V)} {A:Around} {E:Value->Shared->Prop}
theorem Bu {Q:Value->Shared->Prop} (I:Inv X pins σ H s) (e:Rd H a (.dK kvs)) (h:∀p s',H p=none->Inv X pins σ (upd H p (.dK kvs)) s'->Q (.ref p) s'):wpAny (model X.prog X.w) A (call (.type "dict") [.ref a]) Q E s:=by
 obtain⟨z,hd,vs,rel,dd⟩:=wL I.hok e;refine kt_call_dict hd dd (by rw[←rel.length];exact z) fun h' dd' hs=>?_
 refine h _ _ (I.hok.fresh (zF0 _)) (I.laid (a:=s.heap.objs.size) (o:=.dK kvs) (t':=s.toks) (fun b q hq=>?_) (zF0 _) (Bq z (beq_eq_false_iff_ne.mpr (Ne.symm (zQ0 I.big))) rel dd'));exact(hs.2 b (zQ0 (zK0 hq))).trans (zJ0 _ hq)
end
section
variable {X:Cx}
theorem Inv.tupD{pins:List (Addr×Obj)}{σ:St}{H:Hp}{s:Shared}{a:Addr}{xs:List V}(I:Inv X pins σ H s)(h:H a=some (.tup xs)):∃ob,s.heap.get? a=some ob/\ob.dict=none:=by
 obtain⟨_,_,_,_,o,e,d⟩:=(show ObjOk X.prog X.w H s.heap a (.tup xs)from I.hok a _ h)
 exact⟨o,e,d⟩
def DN(K:W.Frag)(to:TE)(t:TA):TE:=fun σ H Q=>to σ H fun x H1=>∃(a:Addr)(ns:List Str),x=.ref a/\(H1 a=some (.lst (ns.map V.str))∨H1 a=some (.tup (ns.map V.str)))/\t σ H1 fun vs H2=>(H2 a=H1 a)/\∃(z:Str)(j:Nat),vs=[.str z]/\eD z ns=some j/\Q (.int (j:Int)) H2
variable {o e:Expr} {es:List Expr} {to:TE} {t:TA} {apos cpos:Pos}
theorem su (pl:PlainAttrs "list") (pt:PlainAttrs "tuple") (ho:PE X o to) (ha:PA X (e::es) t)
 (hbase:attributeBase o "index" X.env (eval o X.env)=eval o X.env:=by rfl)
 (hfew:((backTo cpos (starEach (e::es) X.env)).all (fun x=>!x.1)&&(backToKw cpos (keywordEach [] X.env)).all (fun x=>x.1.isSome)
  &&decide ((e::es).length+([]:List Keyword).length+(if([]:List Keyword).isEmpty then 0 else 1)<30))=true:=by rfl)
 (hline:(apos.endLine==cpos.line)=true:=by rfl) (hs:starEach (e::es) X.env=(false,eval e X.env)::starEach es X.env:=by rfl) (hplain:(backTo cpos (starEach es X.env)).any (·.1)=false:=by rfl) :
 PE X (.Call (.Attribute o "index" apos) (e::es) [] cpos) (DN X.K to t):=by
 intro pins s σ H Q I h;refine wpAny_Call_method_late hbase hfew hline rfl (thn (ho pins s σ H _ I h) fun v s1 ⟨x,H1,I1,r1,a,ns,ex,hh,q1⟩=>?_);subst ex;cases r1;have hA:=ha cpos pins s1 σ H1 _ I1 q1;rw[hs]at hA ⊢;rcases hh with hh | hh
 . obtain ⟨its,_,p,_⟩:=I1.list (zI0 hh);obtain⟨ob,n,e1,c,d,_⟩:=id p;refine⟨"list","list.index",pl,F.slot_list_index,F.type_list_index,p.isList.typeIs,fun b eb=>?_,?_⟩
   . cases eb;exact⟨ob,e1,d⟩
   . refine Calls.callWith_builtin (by show(false||(backTo cpos (starEach es X.env)).any (·.1))=false;rw[hplain] <;> rfl) (Calls.evalArgs_plain ?_);exact thn hA fun us s2 ⟨vs,H2,I2,r2,ek,z,j,ez,hp,q2⟩=>xV pins s2 σ H2 (.ref a) vs (.ref a) us Q I2 rfl r2 ⟨a,ns,z,j,rfl,ez,zI0 (ek.trans hh),hp,q2⟩
 . obtain ⟨its,_,p,_⟩:=I1.tuple (zE0 hh);refine⟨"tuple","tuple.index",pt,F.slot_tuple_index,F.type_tuple_index,p.typeIs,fun b eb=>?_,?_⟩
   . cases eb;exact I1.tupD hh
   . refine Calls.callWith_builtin (by show(false||(backTo cpos (starEach es X.env)).any (·.1))=false;rw[hplain] <;> rfl) (Calls.evalArgs_plain ?_);exact thn hA fun us s2 ⟨vs,H2,I2,r2,ek,z,j,ez,hp,q2⟩=>xU pins s2 σ H2 (.ref a) vs (.ref a) us Q I2 rfl r2 ⟨a,ns,z,j,rfl,ez,zE0 (ek.trans hh),hp,q2⟩
end
section
variable {X:Cx}
theorem pS{x:V}:∀{xs:List V}{us:List Value},Vals xs us->xs.all iz=true->us.countP (eqU x)=xs.countP fun y=>eqV y x
 | _,_,.nil,_=>rfl
 | y::xs,u::us,.cons r t,f=>by
   rw[List.all_cons,Bool.and_eq_true]at f;rw[List.countP_cons,List.countP_cons,vo r f.1,pS t f.2]
def wb(K:W.Frag):V->List V->Hp->VK->Prop:=fun x vs H Q=>∃(a:Addr)(xs:List V)(z:V),x=.ref a/\vs=[z]/\SqL K H a xs/\xs.all iz=true/\iz z=true/\Q (.int ((xs.countP fun y=>eqV y z:Nat):Int)) H
theorem AI:MtR X "list.count" (wb X.K):=by
 intro pins s σ H x vs v us Q I rx rv h;obtain⟨a,xs,z,rfl,rfl,hq,fs,fz,q⟩:=h;cases rx;obtain⟨u,rfl,ru⟩:=rv.one;obtain⟨its,r,⟨⟨cls,dd,data,sl⟩,n,ho,hc,hdd,hd⟩,hz⟩:=I.list hq;simp only at hc hd;subst hc hd;refine call_meets F.slot_list_count ⟨_,ho,rfl⟩ F.entry_list_count (F.args_list_count_2 _ _) (SeqAt.list_countAt a its.toArray n dd sl u (eqU z)) ⟨ho,fun y hy=>?_,?_⟩
 . exact fF ru fz r fs y (by simpa using hy)
 . rw[show its.toArray.toList=its from rfl,pS r fs];exact⟨.int ((xs.countP fun y=>eqV y z:Nat):Int),H,I.tok _,⟨_,rfl⟩,q⟩
end
def dJ(g:Nat->Int):Nat->Int
 | 0=>g 0
 | k+1=>if dJ g k<g (k+1)then g (k+1)else dJ g k
theorem tO(g:Nat->Int):∀n k,k<=n->g k<=dJ g n
 | 0,k,h=>by
   have e:k=0:=by omega
   subst e;exact Int.le_refl _
 | n+1,k,h=>by
   unfold dJ
   by_cases c:k=n+1
   . subst c
     split <;> omega
   . have:=tO g n k (by omega)
     split <;> omega
def xZ(ns:List Int)(d:Int):Int:=match ns with | []=>d | _::_=>dJ (fun i=>ns[i]?.getD 0) (ns.length-1)
theorem CF{ns:List Int}{d x:Int}(h:x∈ns):x<=xZ ns d:=by
 obtain⟨i,hi,e⟩:=List.getElem_of_mem h;cases ns with
 | nil=>cases h
 | cons a r=>
   have:=tO (fun i=>(a::r)[i]?.getD 0) ((a::r).length-1) i (by omega)
   simp only[zP0 hi,Option.getD_some,e]at this;exact this
section
variable {prog:Program} {w:World} {A:Around} {R:Result->Shared->Prop} {I S:Addr} {fp wr:List Addr} {n:Nat} {P:Nat->Value->Prop} {St:Nat->Heap->Prop} {g:Nat->Int} {kw:List (Str×Value)}
theorem mz:(toString "max"++toString ".loop":String)="max.loop":=by decide
theorem AG(W:Walks prog w A.in1 I fp wr n P St)(gv:∀i v,P i v->∃t,v=Value.int (g i) t)(nS:S∉fp):∀(k j:Nat)(s:Shared)(t:Tok)(c:Nat),j+1+k=n->St (j+1) s.heap ->
 s.heap.get? S=some { cls:=.type "list",dict:=none,data:=.seq #[.int (dJ g j) t,.int (dJ g j) t] c,slots:=#[] } ->
 (∀t' h' tk,(∀b o,b∉wr->b≠S->s.heap.get? b=some o->h'.get? b=some o)->R (.ok (.ret (.int (dJ g (n-1)) t'))) { s with heap:=h',toks:=tk }) ->
 codeAny (model prog w) A (.builtin "max.loop" ⟨[.ref I,.none,.ref S],kw⟩) R s:=by
 have nw:S∉wr:=fun z=>nS (W.sub _ z)
 intro k
 induction k with
 | zero=>
   intro j s t c ek st eS q;refine codeAny_builtin F.entry_max_loop ?_;rw[Around.under_plainId F.plain_max_loop _];show wpAny _ A.in1 (seqItems? (.ref S) >>= _) _ _ s;refine zC0 (wpAny_seqItems eS rfl ?_);show wpAny _ A.in1 (tryCatch (pyNext (.ref I)) _ >>= _) _ _ s;refine zC0 (wpAny_tryCatch (W.done s _ _ (by rw[←ek];exact st) fun h' tk kp=>?_));show wpAny _ A.in1 (updateSeq S (fun _=>#[]) >>= _) _ _ _;refine zC0 ?_;refine wpAny_updateSeq (kp S _ nw eS) rfl (zC0 (wpAny_letGo (zH0 ?_)));have e:n-1=j:=by omega
   rw[e]at q;exact q t _ tk fun b o h1 h2 eb=>(Heap.get?_update_other _ _ (Ne.symm h2)).trans (kp b o h1 eb)
 | succ k ih=>
   intro j s t c ek st eS q;refine codeAny_builtin F.entry_max_loop ?_;rw[Around.under_plainId F.plain_max_loop _];show wpAny _ A.in1 (seqItems? (.ref S) >>= _) _ _ s;refine zC0 (wpAny_seqItems eS rfl ?_);show wpAny _ A.in1 (tryCatch (pyNext (.ref I)) _ >>= _) _ _ s;refine zC0 (wpAny_tryCatch (W.item (j+1) s _ _ (by omega) st fun v h' tk pv st' kp=>?_));obtain⟨tv,rfl⟩:=gv _ _ pv;have eS':=kp S _ nw eS;show wpAny _ A.in1 (tryCatch (holding [Value.int (g (j+1)) tv,Value.int (g (j+1)) tv] (richCompare .Gt (Value.int (g (j+1)) tv) (Value.int (dJ g j) t) >>= _)) _ >>= _) _ _ _;refine zC0 (wpAny_tryCatch (wpAny_holding (zC0 (CmpOf.ints_gt (prog:=prog) (w:=w) (A:=A.in1) (P:=fun i v=>∃t,v=Value.int (if i=0 then dJ g j else g (j+1)) t) (fun i=>if i=0 then dJ g j else g (j+1)) (fun i v h=>h) 1 0 _ _ _ _ _ ⟨tv,rfl⟩ ⟨t,rfl⟩ ?_))));refine zC0 (wpAny_holding (wpAny_truthy_bool ?_));refine zC0 (wpAny_letGo (zH0 ?_))
   by_cases c1:dJ g j<g (j+1)
   . have e1:dJ g (j+1)=g (j+1):=by unfold dJ;rw[zB0 c1]
     refine wpAny_ite_split (fun _=>?_) (fun hab=>absurd (decide_eq_true c1) hab);refine zC0 ?_;refine wpAny_updateSeq eS' rfl (zC0 (wpAny_letGo ?_));rw[mz];refine zH0 ⟨plainId_quiet F.plain_max_loop _,ih (j+1) _ tv _ (by omega) (W.frame _ _ _ st' fun b hb o eb=>?_) (by rw[e1];exact Heap.get?_update_self _ eS' rfl) fun t' h2 tk2 kp2=>?_⟩
     . exact(Heap.get?_update_other _ _ (fun z:S=b=>nS (by rw[z];exact hb))).trans eb
     . exact q t' h2 tk2 fun b o h1 h3 eb=>kp2 b o h1 h3 ((Heap.get?_update_other _ _ (Ne.symm h3)).trans (kp b o h1 eb))
   . have e1:dJ g (j+1)=dJ g j:=by unfold dJ;rw[zA0 c1];cases j <;> rfl
     refine wpAny_ite_split (fun hab=>absurd (of_decide_eq_true hab) c1) (fun _=>?_);refine zC0 (wpAny_letGo ?_);rw[mz];refine zH0 ⟨plainId_quiet F.plain_max_loop _,ih (j+1) _ t c (by omega) st' (by rw[e1];exact eS') fun t' h2 tk2 kp2=>?_⟩;exact q t' h2 tk2 fun b o h1 h3 eb=>kp2 b o h1 h3 (kp b o h1 eb)
theorem AH (W:Walks prog w A.in1 I fp wr n P St) (gv:∀i v,P i v->∃t,v=Value.int (g i) t) (nS:S∉fp) (hn:0<n) {s:Shared} {c:Nat} (st:St 0 s.heap) (eS:s.heap.get? S=some { cls:=.type "list",dict:=none,data:=.seq #[] c,slots:=#[] })
 (q:∀t' h' tk,(∀b o,b∉wr->b≠S->s.heap.get? b=some o->h'.get? b=some o)->R (.ok (.ret (.int (dJ g (n-1)) t'))) { s with heap:=h',toks:=tk }) :
 codeAny (model prog w) A (.builtin "max.loop" ⟨[.ref I,.none,.ref S],kw⟩) R s:=by
 have nw:S∉wr:=fun z=>nS (W.sub _ z)
 refine codeAny_builtin F.entry_max_loop ?_;rw[Around.under_plainId F.plain_max_loop _];show wpAny _ A.in1 (seqItems? (.ref S) >>= _) _ _ s;refine zC0 (wpAny_seqItems eS rfl ?_);show wpAny _ A.in1 (tryCatch (pyNext (.ref I)) _ >>= _) _ _ s;refine zC0 (wpAny_tryCatch (W.item 0 s _ _ hn st fun v h' tk pv st' kp=>?_));obtain⟨tv,rfl⟩:=gv _ _ pv;have eS':=kp S _ nw eS;show wpAny _ A.in1 (updateSeq S (fun _=>#[Value.int (g 0) tv,Value.int (g 0) tv]) >>= _) _ _ _;refine zC0 ?_;refine wpAny_updateSeq eS' rfl ?_;rw[mz];refine zH0 ⟨plainId_quiet F.plain_max_loop _,AG W gv nS (n-1) 0 _ tv _ (by omega) (W.frame _ _ _ st' fun b hb o eb=>?_) (Heap.get?_update_self _ eS' rfl) fun t' h2 tk2 kp2=>?_⟩
 . exact(Heap.get?_update_other _ _ (fun z:S=b=>nS (by rw[z];exact hb))).trans eb
 . exact q t' h2 tk2 fun b o h1 h3 eb=>kp2 b o h1 h3 ((Heap.get?_update_other _ _ (Ne.symm h3)).trans (kp b o h1 eb))
end
section
variable {X:Cx} {e k:Expr} {te tk:TE} {pos p1 kp:Pos}
def rMax1(K:W.Frag):List V->Hp->VK->Prop:=fun xs H Q=>∃a ns,xs=[.ref a]/\SqL K H a (ns.map V.int)/\ns≠[]/\Q (.int (xZ ns 0)) H
theorem pU (hc:X.calm=true):iC X (.builtin "max") (rMax1 X.K):=by
 intro pins s2 σ H2 xs us Q I2 r h;obtain⟨a,ns,rfl,hq,hn,q⟩:=h;obtain⟨u,rfl,ru⟩:=lK r;cases ru;obtain⟨its,r',p,hz⟩:=I2.list hq;have hl:=r'.length;rw[zG0]at hl;have hlt:a<s2.heap.objs.size:=by obtain⟨o,n,e,_⟩:=p;exact zK0 e
 refine call_function_tree F.kind_max F.plain_max F.entry_max (F.args_max1 _) ?_;show wpAny _ X.A.in1 (Builtin.Builtins.bindParams "max" ["key","default"] 0 ⟨[],[]⟩ >>= fun _=>_) _ _ s2;refine zC0 (wpAny_of_eq (a:=[none,none]) rfl ?_);refine zC0 (zH0 ?_);refine zC0 (wpAny_pyIter_list p.isList ?_);refine zC0 (wpAny_newObj_type ?_);rw[mz];have hne:a≠s2.heap.objs.size:=zQ0 hlt;have W:=Walks.list (prog:=X.prog) (w:=X.w) (A:=X.A.in1) (I2.ok.hd hc) s2.heap.objs.size a hne its.toArray;have I3:Inv X pins σ H2 { s2 with heap:=s2.heap.push { cls:=.type "list_iterator",data:=.fields #[.ref a,.int 0 0] } }:=I2.kept (t':=s2.toks) fun b o eb=>zJ0 _ eb
 have I4:Inv X pins σ H2 { s2 with heap:=(s2.heap.push { cls:=.type "list_iterator",data:=.fields #[.ref a,.int 0 0] }).push { cls:=.type "list",data:=.seq #[] } }:=I3.kept (t':=s2.toks) fun b o eb=>zJ0 _ eb
 have hz1:∀o:Obj,(s2.heap.push o).objs.size=s2.heap.objs.size+1:=fun o=>by simp [Heap.push]
 have nS:(s2.heap.push { cls:=.type "list_iterator",data:=.fields #[.ref a,.int 0 0] }).objs.size∉[s2.heap.objs.size,a]:=by
  intro hm;rcases qD0 hm with z | z
  . rw[hz1]at z;exact absurd z (Nat.succ_ne_self _)
  . have z:=zT0 z;rw[hz1]at z;exact absurd z (Nat.ne_of_gt (Nat.lt_succ_of_lt hlt))
 have gv:∀i v,its.toArray[i]?=some v->∃t,v=Value.int (ns[i]?.getD 0) t:=fun i v hv=>by
  obtain⟨b,t,hb,rfl⟩:=ou r' (i:=i) (v:=v) (by first | exact hv | simpa using hv | (rw[List.getElem?_toArray]at hv;exact hv));exact⟨t,by rw[hb];rfl⟩
 have n0:0<ns.length:=List.length_pos_iff.mpr hn;refine zH0 ⟨plainId_quiet F.plain_max_loop _,AH (g:=fun i=>ns[i]?.getD 0) W gv nS (by rw[zO0,←hl];exact n0) ⟨⟨_,zJ0 _ (zV0 _ rfl),rfl,rfl⟩,(p.isList.push _).push _⟩ (zV0 _ rfl) fun t' h' tk kp=>?_⟩;rw[zO0,←hl];have em:dJ (fun i=>ns[i]?.getD 0) (ns.length-1)=xZ ns 0:=by
  cases ns with
  | nil=>exact absurd rfl hn
  | cons _ _=>rfl
 rw[em];refine⟨.int _,H2,?_,⟨_,rfl⟩,q⟩;have J:=Inv.turnedL (h':=h') (t':=tk) (ch:=[s2.heap.objs.size,s2.heap.objs.size+1]) I4 (fun b o hb eb=>kp b o (fun z=>hb (by rw[zT0 z];exact qG0)) (fun z=>hb (by rw[z,hz1];exact qF0 _ qG0)) eb);refine J fun b hb=>?_
 rcases qD0 hb with h | h
 . rw[h];exact I2.fpOk (zF0 _) (I2.hok.fresh (zF0 _))
 . rw[zT0 h];exact I2.fpOk (qK0 _) (I2.hok.fresh (qK0 _))
end
section
variable {prog:Program} {w:World} {A:Around} {E:Value->Shared->Prop} {s:Shared}
theorem BN{it t:Addr}{i:Nat}{items:Array Value}{x:Value}{Q:Value->Shared->Prop}(hit:s.heap.IsTupleIter it t i)(ht:s.heap.IsTuple t items)(hx:items[i]?=some x)
 (q:∀h',h'.IsTupleIter it t (i+1)->Heap.SameBut it s.heap h'->Q x { s with heap:=h' }):wpAny (model prog w) A (Builtin.SmallTypes.nextOf (.ref it)) Q E s:=by
 obtain⟨o,ho,hc,hd⟩:=id hit;obtain⟨ol,hol,_,nl,hdl⟩:=ht;unfold Builtin.SmallTypes.nextOf;refine zC0 (wpAny_callSpecial?_slot (name:=Str.ofString "__next__") hit.typeIs F.slot_tuple_iterator_next (wpAny_call_entry F.slot_tuple_iterator_next hit.typeIs F.entry_tuple_iterator_next ?_ (F.args_tuple_iterator_next_1 _)));show wpAny _ _ (field (.ref it) 0 >>= _) _ _ s;refine zC0 (wpAny_field ho hd (x:=.ref t) rfl ?_);show wpAny _ _ (if(Value.ref t==Value.none)=true then _ else _) _ _ s;rw[zA0 (show ¬ ((Value.ref t==Value.none)=true)from zW0)];show wpAny _ _ (field (.ref it) 1 >>= _) _ _ s;refine zC0 (wpAny_field ho hd (x:=.int i 0) rfl ?_);show wpAny _ _ (seqItems? (.ref t) >>= _) _ _ s;refine zC0 (wpAny_seqItems hol hdl ?_);simp only[qS0,hx];refine zC0 (wpAny_setField ho hd (by simp) (zH0 ⟨x,rfl,zH0 (q _ ?_ (Heap.SameBut.update ..))⟩));exact⟨_,Heap.get?_update_self _ ho (Obj.isFreed_of_fields (Obj.data_mapFields hd _)),(Obj.cls_mapFields ..).trans hc,by rw[Obj.data_mapFields hd];simp [rawInt]⟩
theorem yU{it t:Addr}{i:Nat}{items:Array Value}{Q:Value->Shared->Prop}(hh:A.handled=none)(hit:s.heap.IsTupleIter it t i)(ht:s.heap.IsTuple t items)(hx:items[i]?=none)
 (q:∀h' e,Heap.ExtBut it s.heap h'->(∃o,h'.get? e=some o/\o.cls=.type "StopIteration")->E (.ref e) { s with heap:=h' }):wpAny (model prog w) A (Builtin.SmallTypes.nextOf (.ref it)) Q E s:=by
 obtain⟨o,ho,hc,hd⟩:=id hit;obtain⟨ol,hol,_,nl,hdl⟩:=ht;unfold Builtin.SmallTypes.nextOf;refine zC0 (wpAny_callSpecial?_slot (name:=Str.ofString "__next__") hit.typeIs F.slot_tuple_iterator_next (wpAny_call_entry F.slot_tuple_iterator_next hit.typeIs F.entry_tuple_iterator_next ?_ (F.args_tuple_iterator_next_1 _)));show wpAny _ _ (field (.ref it) 0 >>= _) _ _ s;refine zC0 (wpAny_field ho hd (x:=.ref t) rfl ?_);show wpAny _ _ (if(Value.ref t==Value.none)=true then _ else _) _ _ s;rw[zA0 (show ¬ ((Value.ref t==Value.none)=true)from zW0)];show wpAny _ _ (field (.ref it) 1 >>= _) _ _ s;refine zC0 (wpAny_field ho hd (x:=.int i 0) rfl ?_);show wpAny _ _ (seqItems? (.ref t) >>= _) _ _ s;refine zC0 (wpAny_seqItems hol hdl ?_);simp only[qS0,hx]
 first
  | refine zC0 (wpAny_rule (zC0 (wpAny_setField ho hd (by simp) (zC0 (wpAny_letGo ?_)))))
  | refine zC0 (wpAny_rule (zC0 (wpAny_setField ho hd (by simp) ?_)))
 show wpAny _ _ (newExc (.type "StopIteration") [] >>= _) _ _ _;refine zC0 ?_;simp only[newExc,newTuple];refine zC0 (wpAny_newObj_type ?_ (by size_fits));refine zC0 (m:=firstArgMember _ _) (wpAny_of_eq (a:=Value.none) (by first | rfl | (simp only[firstArgMember];rfl)) ?_);refine wpAny_newObj_type ?_ (by size_fits);simp only[raiseNew];refine zC0 (wpAny_handled ?_)
 first | rw[show A.in1.handled=none from hh] | rw[hh]
 refine zC0 (zH0 (wpAny_throw ?_));exact q _ _ (((Heap.SameBut.update ..).extBut.push _).push _) ⟨_,zV0 _ rfl,rfl⟩
theorem yu{e it t:Addr}{j:Nat}{i:Int}{old:Value}{items:Array Value}{Q:Option Value->Shared->Prop}(hh:A.handled=none)(he:IsEnum s.heap e it i old)(hit:s.heap.IsTupleIter it t j)(ht:s.heap.IsTuple t items)(hx:items[j]?=none)
 (q:∀h',Heap.ExtBut it s.heap h'->Q none { s with heap:=h' }):wpAny (model prog w) A (pyNext (.ref e)) Q E s:=by
 have hT:s.TypeIs (.ref e) "enumerate":=⟨_,he,rfl⟩
 unfold pyNext;refine zC0 (wpAny_attempt (wpAny_callSpecial?_slot (name:=Str.ofString "__next__") hT F.slot_enumerate_next (wpAny_call_entry F.slot_enumerate_next hT F.entry_enumerate_next ?_ (F.args_enumerate_next_1 _))));show wpAny _ _ (field (.ref e) 2 >>= _) _ _ _;refine zC0 (wpAny_field he rfl (x:=.ref it) rfl ?_);refine zC0 (yU hh hit ht hx fun h' x he' hx'=>?_);obtain⟨o,ho,hc⟩:=hx';refine zC0 (wpAny_isInstance (T:="StopIteration") (b:=true) ⟨o,ho,hc⟩ isSubtype_stop ?_);exact zH0 (q h' he')
end
theorem yw{prog:Program}{w:World}{A:Around}(hh:A.handled=none)(it l:Addr)(hne:l≠it)(items:Array Value):Draws prog w A it [it,l] items.size (fun i v=>items[i]?=some v) (fun i h=>h.IsTupleIter it l i/\h.IsTuple l items) where
 live:=fun _ _ st=>let⟨o,ho,_⟩:=st.1;⟨o,ho⟩
 frame:=fun _ _ _ st k=>⟨st.1.at fun o e=>k it (by simp) o e,st.2.at fun o e=>k l (by simp) o e⟩
 item:=fun i s Q E hi st q=>by
  refine BN st.1 st.2 (x:=items[i]) (by simp [hi]) fun h' a b=>?_
  exact q _ h' s.toks (by simp [hi]) ⟨a,st.2.extBut b.extBut hne⟩ b
 done:=fun s Q E st q=>yU hh st.1 st.2 (by simp) q
open AutoSeq1 (wpAny_loadPart') in
set_option maxHeartbeats 1000000 in
theorem sO(l:Addr)(items:Array Value)(n:Nat)(dct:Option Addr)(sl:Array (Option Value)) :
 Meets (Builtin.«enumerate.__new__» ⟨[.type "enumerate",.ref l],[]⟩) (fun _ R s=>s.heap.get? l=some { cls:=.type "tuple",dict:=dct,data:=.seq items n,slots:=sl }/\
  R (.ok (.ret (.ref (s.heap.push { cls:=.type "tuple_iterator",data:=.fields #[.ref l,.int 0 0] }).objs.size)))
   { s with heap:=(s.heap.push { cls:=.type "tuple_iterator",data:=.fields #[.ref l,.int 0 0] }).push { cls:=.type "enumerate",data:=.fields #[.none,.bool false,.ref s.heap.objs.size,rawInt 0,.none,.none] } }):=
 .of_wp fun prog w A R s h=>by
  obtain⟨hp,g,d,tk,os⟩:=s;obtain⟨hl,h⟩:=h;have hsub:=sub_enumerate;have hL:Heap.IsTuple (Shared.heap ⟨hp,g,d,tk,os⟩) l items:=⟨_,hl,rfl,n,rfl⟩
  wp_walk using wpAny_loadPart' hl
  refine wpAny_stack_any fun st=>zH0 ?_
  split
  . rename_i c _ _ _ _ _;cases(c==Value.type "enumerate")
    . wp_walk using wpAny_loadPart' hl,wpAny_pyIter_tuple hL
      exact⟨_,rfl,h⟩
    . wp_walk using wpAny_loadPart' hl,wpAny_pyIter_tuple hL
      exact⟨_,rfl,h⟩
  . wp_walk using wpAny_loadPart' hl,wpAny_pyIter_tuple hL
    exact⟨_,rfl,h⟩
section
variable {prog:Program} {w:World} {A:Around} {E:Value->Shared->Prop} {s:Shared}
theorem vA{l:Addr}{items:Array Value}{Q:Value->Shared->Prop}(hL:s.heap.IsTuple l items)
 (q:∀h',IsEnum h' (s.heap.objs.size+1) s.heap.objs.size 0 .none->h'.IsTupleIter s.heap.objs.size l 0->(∀b o,s.heap.get? b=some o->h'.get? b=some o)->Q (.ref (s.heap.objs.size+1)) { s with heap:=h' }) :
 wpAny (model prog w) A (call (.type "enumerate") [.ref l]) Q E s:=by
 obtain⟨⟨c,dct,dt,sl⟩,hl,hc,n,hd⟩:=hL
 replace hc:c=.type "tuple":=hc
 replace hd:dt=.seq items n:=hd
 subst hc hd;refine callType_new F.called_enumerate (by decide) (F.typeCall_enumerate_1 _) (F.newCall_enumerate_1 _) (fun obj=>F.args_object_init_2 obj _) F.entry_enumerate_new (sO l items n dct sl) ⟨hl,?_⟩;have hz:(s.heap.push { cls:=.type "tuple_iterator",data:=.fields #[.ref l,.int 0 0] }).objs.size=s.heap.objs.size+1:=Heap.size_push ..;show _/\_;rw[hz];have he:IsEnum ((s.heap.push { cls:=.type "tuple_iterator",data:=.fields #[.ref l,.int 0 0] }).push { cls:=.type "enumerate",data:=.fields #[.none,.bool false,.ref s.heap.objs.size,rawInt 0,.none,.none] }) (s.heap.objs.size+1) s.heap.objs.size 0 .none:=by
  have:=zV0 (s.heap.push { cls:=.type "tuple_iterator",data:=.fields #[.ref l,.int 0 0] }) (o:={ cls:=.type "enumerate",data:=.fields #[.none,.bool false,.ref s.heap.objs.size,rawInt 0,.none,.none] }) rfl
  rw[hz]at this;exact this
 exact⟨⟨_,he,rfl⟩,q _ he ⟨_,zJ0 _ (zV0 _ rfl),rfl,rfl⟩ fun b o x=>zJ0 _ (zJ0 _ x)⟩
end
def BF(K:W.Frag)(a:Addr):It:=
 ⟨fun i H=>∃xs x,SqT K H a xs/\xs[i]?=some x,fun i H y H'=>∃t,y=.ref t/\H t=none/\∀xs x,SqT K H a xs->xs[i]?=some x->H'=upd H t (.tup [.int i,x]),fun i H=>∃xs,SqT K H a xs/\xs.length<=i⟩
theorem ue{P:Program}{w:World}{K:W.Frag}{elts:List Expr}{k:Nat}{pos:Pos}(a e it:Addr)(hei:e≠it)(hai:a≠it)(hae:a≠e) :
 Turn P w K (.Tuple elts k pos) (BF K a) [e,it] e (fun i h=>(∃old,IsEnum h e it i old)/\h.IsTupleIter it a i) where
 mem:=by simp
 obj:=fun i h st b hb=>by
  obtain⟨⟨old,he⟩,o,e2,c,d⟩:=st;rcases qD0 hb with z | z
  . subst z;exact⟨_,he,fun v z=>nomatch z⟩
  . have z':=zT0 z;subst z';exact⟨o,e2,fun v z=>by rw[d]at z;cases z⟩
 keep:=fun i h h' st k=>by
  obtain⟨⟨old,he⟩,hit⟩:=st;exact⟨⟨old,k e (by simp) _ he⟩,hit.at fun o x=>k it (by simp) o x⟩
 item:=by
  intro X hP hw hK hc i pins s σ H E I hf st hg;subst hP hw hK;obtain⟨xs,x,hq,hx⟩:=hg;obtain⟨its,rv,p,hz⟩:=I.tuple hq;obtain⟨u,hu,ru⟩:=rv.get hx;obtain⟨⟨old,he⟩,hit⟩:=st;have hi:i<its.toArray.size:=by
   rw[zO0];exact(zX0 hu).1
  refine wpAny_pyNext_enum_itemD (yw (prog:=X.prog) (w:=X.w) (A:=X.A.in1) (I.ok.hd hc) it a hai its.toArray) he ⟨hit,p⟩ hi hei (by simp [hei,Ne.symm hae]) fun y h1 tk hy ho hst1 hT hsz hk=>?_
  have ey:y=u:=by
   have h1:its.toArray[i]?=some u:=by simpa using hu
   rw[h1]at hy;exact(zR0 hy).symm
  subst ey;refine⟨_,rfl,wpAny_letOwnedTupleGo_enum ho fun h2 he2 hs2=>?_⟩;have elt:e<s.heap.objs.size:=zK0 he;have hT2:h2.get? s.heap.objs.size=some { cls:=.type "tuple",data:=.seq #[.int i tk,y] }:=(hs2.2 _ (Ne.symm (zQ0 elt))).trans hT;have I2:Inv X pins σ (upd H s.heap.objs.size (.tup [.int i,x])) { s with heap:=h2,toks:=tk+1 }:=by
   refine I.turnedNew (ch:=[e,it]) (fun b ob hb eb=>?_) hf (zF0 _) ⟨by show 2<=sizeLine;decide,[.int i tk,y],.cons ⟨_,rfl⟩ (.cons ru .nil),⟨_,hT2,rfl,_,rfl⟩,_,hT2,rfl⟩;have b1:b≠e:=fun z=>hb (by simp [z])
   have b2:b≠it:=fun z=>hb (by simp [z])
   exact(hs2.2 b b1).trans (hk b ob b1 b2 eb)
  refine⟨.ref s.heap.objs.size,_,I2,rfl,⟨_,rfl,I.hok.fresh (zF0 _),fun ys z hy hyi=>?_⟩,⟨⟨y,by simpa using he2⟩,hst1.1.at fun o z=>(hs2.2 it (Ne.symm hei)).trans z⟩,fun b hb=>?_⟩
  . have e1:=I.tuple_inj hy hq;subst e1;rw[hx]at hyi;cases hyi;rfl
  . have z:=hf b hb;have hlt:b<s.heap.objs.size:=by
     rcases qD0 hb with y | y
     . rw[y];exact elt
     . rw[zT0 y];obtain⟨o,e2,_⟩:=hit;exact zK0 e2
    rw[aq (zQ0 hlt)];exact z.1
 done:=by
  intro X hP hw hK hc i pins s σ H E I hf st hg;subst hP hw hK;obtain⟨xs,hq,hx⟩:=hg;obtain⟨its,rv,p,hz⟩:=I.tuple hq;obtain⟨⟨old,he⟩,hit⟩:=st;have hl:=rv.length;exact yu (I.ok.hd hc) he hit p (Array.getElem?_eq_none (by simp;omega)) fun h' eb=>⟨rfl,I.turnedL (t':=s.toks) (ch:=[e,it]) (fun b o hb eo=>eb b o (fun z=>hb (by simp [z])) eo) hf⟩
 self:=fun _ _ _ _ _ st h=>by
  obtain⟨⟨old,he⟩,_⟩:=st;exact wpAny_pyIter_enum he h
section
variable {X:Cx} {elts:List Expr} {k:Nat} {tpos:Pos}
def EC(K:W.Frag)(tl:TE):TI:=fun σ H R=>tl σ H fun x H1=>∃a,x=.ref a/\(∃xs,SqT K H1 a xs)/\R (BF K a) H1
theorem Aa {l:Expr} {tl:TE} {p pos:Pos} (hg:Gl X "enumerate") (hm:X.mg "enumerate"=none) (hl:PE X l tl) (hs:starEach [l] X.env=[(false,eval l X.env)]:=by rfl) :
 PI X (.Tuple elts k tpos) (.Call (.Name "enumerate" p) [l] [] pos) (EC X.K tl):=by
 intro pins s σ H R I h;refine Call_ (ir I hg hm boot_enumerate (PyProof.Rows.callWith_type1 ?_ hs rfl));rw[hs];show wpAny _ _ (spliced ((false,eval l X.env)::backTo pos (starEach [] X.env))) _ _ s;refine Calls.spliced_cons (thn (hl pins s σ H _ I h) fun u s1 ⟨x,H1,I1,r1,a,ex,⟨xs,hq⟩,q⟩=>?_);subst ex;cases r1;obtain⟨its,rv,p,hz⟩:=I1.tuple hq;have alt:=p.lt;refine Calls.spliced_nil ?_;refine vA p fun h' he hit hk=>?_
 refine wpAny_pyIter_enum he ?_;have I2:Inv X pins σ H1 { s1 with heap:=h' }:=I1.kept (t':=s1.toks) hk;refine⟨s1.heap.objs.size+1,[s1.heap.objs.size+1,s1.heap.objs.size],_,_,H1,rfl,I2,ue a _ _ (Nat.ne_of_gt (Nat.lt_succ_self _)) (zQ0 alt) (zQ0 (Nat.lt_succ_of_lt alt)),⟨⟨_,he⟩,hit⟩,fun b hb=>?_,q⟩;rcases qD0 hb with z | z
 . rw[z];exact I1.fpOk (qK0 _) (I1.hok.fresh (qK0 _))
 . rw[zT0 z];exact I1.fpOk (zF0 _) (I1.hok.fresh (zF0 _))
end
theorem yo{K:W.Frag}{a:Addr}{xs:List V}{g:TG}{tb:TS}{D:Ends}{σ:St}{H:Hp}(Pv:Nat->St->Hp->Prop)(h0:Pv 0 σ H)(hl:∀i σ H,i<=xs.length->Pv i σ H->SqT K H a xs)
 (hs:∀i x σ H t,xs[i]?=some x->Pv i σ H->H t=none->g (.ref t) σ (upd H t (.tup [.int i,x])) fun σ2 H2=>tb { D with nx:=Pv (i+1),ct:=Pv (i+1),bk:=D.nx } σ2 H2) (hd:∀ σ H,Pv xs.length σ H->D.nx σ H) :
 ∃ W:Nat->Nat->St->Hp->Prop,(∃m,W 0 m σ H)/\∀i m σ H,W i m σ H ->
  ((BF K a).stop i H/\D.nx σ H)∨((BF K a).go i H/\∃N:St->Hp->Prop,(∀ σ' H',N σ' H'->∃m',m'<m/\W (i+1) m' σ' H')/\∀x H',(BF K a).yld i H x H'->g x σ H' fun σ2 H2=>tb { D with nx:=N,ct:=N,bk:=D.nx } σ2 H2):=by
 refine⟨fun i m σ H=>m=xs.length-i/\i<=xs.length/\Pv i σ H,⟨xs.length,by simp,zZ0 _,h0⟩,?_⟩;rintro i m σ H ⟨rfl,hi,p⟩;have q:=hl i σ H hi p
 by_cases hlt:i<xs.length
 . refine .inr ⟨⟨xs,xs[i],q,by simp [hlt]⟩,Pv (i+1),fun σ' H' p'=>⟨xs.length-(i+1),by omega,rfl,hlt,p'⟩,fun x H' y=>?_⟩;obtain⟨t,rfl,ht,e⟩:=y;have e':=e xs xs[i] q (by simp [hlt]);subst e';exact hs i xs[i] σ H t (by simp [hlt]) p ht
 . have e:i=xs.length:=by omega
   subst e;exact .inl ⟨⟨xs,q,zF0 _⟩,hd σ H p⟩
def ItV(K:W.Frag)(a:Addr)(xs:List V):It:=⟨fun i H=>SqL K H a xs/\i<xs.length,fun i H y H'=>H'=H/\xs.reverse[i]?=some y,fun i _=>xs.length<=i⟩
theorem wV{P:Program}{w:World}{K:W.Frag}{tg:Expr}(a it:Addr)(xs:List V):Turn P w K tg (ItV K a xs) [it] it (fun i h=>i<=xs.length/\h.IsRevIter it a ((xs.length:Int)-1-(i:Int))) where
 mem:=by simp
 obj:=fun i h st b hb=>by
  have e:b=it:=by simpa using hb
  subst e;obtain⟨_,o,e,c,d⟩:=st;exact⟨o,e,fun v z=>by rw[d]at z;cases z⟩
 keep:=fun i h h' st k=>⟨st.1,st.2.at fun o e=>k it (by simp) o e⟩
 item:=by
  intro X hP hw hK hc i pins s σ H E I hf st hg;subst hP hw hK;obtain⟨hq,hi⟩:=hg;obtain⟨its,rv,p,hz⟩:=I.list hq;have hj:xs.length-1-i<xs.length:=by omega
  have hx:xs[xs.length-1-i]?=some xs[xs.length-1-i]:=zP0 hj;obtain⟨u,hu,ru⟩:=rv.get hx;obtain⟨f0,f1,f2,f3,f4,f5⟩:=hf it (by simp);obtain⟨_,hit⟩:=st;have e1:((xs.length:Int)-1-(i:Int))=((xs.length-1-i:Nat):Int):=by omega
  rw[e1]at hit;refine wpAny_pyNext_rev_item hit p.isList (x:=u) (by simpa using hu) fun h' st' sb=>?_
  have I1:Inv X pins σ H { s with heap:=h' }:=I.turned (t':=s.toks) (fun b o hb e=>(sb.2 b hb).trans e) f0 f1 f3 f4 f5;have e2:((xs.length-1-i:Nat):Int)-1=(xs.length:Int)-1-((i+1:Nat):Int):=by omega
  rw[e2]at st';obtain⟨o,e,c,d⟩:=id st';refine⟨u,rfl,sX (s:={ s with heap:=h' }) e c d (by decide) ⟨xs[xs.length-1-i],H,I1,ru,⟨rfl,?_⟩,⟨by omega,st'⟩,fun b hb=>(hf b hb).1⟩⟩;rw[List.getElem?_reverse hi,hx]
 done:=by
  intro X hP hw hK hc i pins s σ H E I hf st hg;subst hP hw hK;have hg:xs.length<=i:=hg;obtain⟨f0,f1,f2,f3,f4,f5⟩:=hf it (by simp);obtain⟨hi,hit⟩:=st;have e1:(xs.length:Int)-1-(i:Int)=-1:=by omega
  rw[e1]at hit;exact wpAny_pyNext_rev_end (I.ok.hd hc) hit fun h' eb=>⟨rfl,I.turned (t':=s.toks) (fun b o hb e=>eb b o hb e) f0 f1 f3 f4 f5⟩
 self:=fun _ _ _ _ _ st h=>wpAny_pyIter_revIter st.2 h
theorem Bf{K:W.Frag}{a:Addr}{xs:List V}{g:TG}{tb:TS}{D:Ends}{σ:St}{H:Hp}(Pv:Nat->St->Hp->Prop)(h0:Pv 0 σ H)(hl:∀i σ H,i<=xs.length->Pv i σ H->SqL K H a xs)
 (hs:∀i x σ H,i<xs.length->xs.reverse[i]?=some x->Pv i σ H->g x σ H fun σ2 H2=>tb { D with nx:=Pv (i+1),ct:=Pv (i+1),bk:=D.nx } σ2 H2) (hd:∀ σ H,Pv xs.length σ H->D.nx σ H) :
 ∃ W:Nat->Nat->St->Hp->Prop,(∃m,W 0 m σ H)/\∀i m σ H,W i m σ H ->
  ((ItV K a xs).stop i H/\D.nx σ H)∨((ItV K a xs).go i H/\∃N:St->Hp->Prop,(∀ σ' H',N σ' H'->∃m',m'<m/\W (i+1) m' σ' H')/\∀x H',(ItV K a xs).yld i H x H'->g x σ H' fun σ2 H2=>tb { D with nx:=N,ct:=N,bk:=D.nx } σ2 H2):=by
 refine⟨fun i m σ H=>m=xs.length-i/\i<=xs.length/\Pv i σ H,⟨xs.length,by simp,zZ0 _,h0⟩,?_⟩;rintro i m σ H ⟨rfl,hi,p⟩;have q:=hl i σ H hi p
 by_cases hlt:i<xs.length
 . refine .inr ⟨⟨q,hlt⟩,Pv (i+1),fun σ' H' p'=>⟨xs.length-(i+1),by omega,rfl,hlt,p'⟩,fun x H' y=>?_⟩;obtain⟨e,ex⟩:=y;subst e;exact hs i x σ _ hlt ex p
 . have e:i=xs.length:=by omega
   subst e;exact .inl ⟨zF0 _,hd σ H p⟩
theorem xX {X:Cx} (K:W.Frag) (h:X.K=K:=by rfl):MtR X "list.count" (wb K):=by subst h;exact AI
section
variable {X:Cx} {o e:Expr} {es:List Expr} {to ta:TE} {t:TA} {T id:String} {name f:Str} {r:V->List V->Hp->VK->Prop} {apos cpos pos:Pos}
theorem Ef (K:W.Frag) (pa:PlainAttrs T) (slot:Slot T name id) (hty:typeOf (.builtin id)=pure (.type "method_descriptor")) (hm:MtR X id r) (ho:PE X o to) (ha:PA X (e::es) t) (hK:X.K=K:=by rfl)
 (hbase:attributeBase o name X.env (eval o X.env)=eval o X.env:=by rfl)
 (hfew:((backTo cpos (starEach (e::es) X.env)).all (fun x=>!x.1)&&(backToKw cpos (keywordEach [] X.env)).all (fun x=>x.1.isSome)&&decide ((e::es).length+([]:List Keyword).length+(if([]:List Keyword).isEmpty then 0 else 1)<30))=true:=by rfl)
 (hline:(apos.endLine==cpos.line)=true:=by rfl) (hs:starEach (e::es) X.env=(false,eval e X.env)::starEach es X.env:=by rfl) (hplain:(backTo cpos (starEach es X.env)).any (·.1)=false:=by rfl) :
 PE X (.Call (.Attribute o name apos) (e::es) [] cpos) (tBM K T r to t):=by subst hK;exact kx pa slot hty hm ho ha hbase hfew hline hs hplain
theorem jz(K:W.Frag)(he:PE X e ta)(hK:X.K=K:=by rfl)(hb:attributeBase e f X.env (eval e X.env)=eval e X.env:=by rfl):PE X (.Attribute e f pos) (tFld K ta f):=by subst hK;exact au he hb
end
@[reducible] def cxCompO (X:Cx) (x:Str) (N:List Str) (scope:Scope) (cl:List (Str×Addr)) (s:Shared) (H:Hp) (fp:List Addr):Cx where
 prog:=X.prog
 w:=X.w
 K:=X.K
 mg:=X.mg
 base:=X.base
 A:=X.A
 N:=x::N
 s₀:=s
 H₀:=H
 env:=compEnvC scope ((x,s.heap.objs.size+1)::cl) s.heap.objs.size X.env
 outer:=X.stack
 stack:=X.stack
 ex:=fp
 fn:=fun y=>y==x
 calm:=X.calm
 pn:=[]
 xe:=fun _ _=>False
theorem CompScope.four{X:Cx}{x y z u v:Str}{scope:Scope}{k l m n:Nat}{c d e g:Addr}{cl:List (Str×Addr)}(c1:closureFor scope X.env=pure cl)(c2:∀y∈scope.names,y.2≠.cell)(c3:scope.kind=.function)(c4:∀y∈scope.names,y.2=.local->scope.names.lookup y.1=some .local)
 (c5:scope.names.lookup x=some .local) (nd:[x,y,z,u,v].Nodup) (hcl:cl=[(y,c),(z,d),(u,e),(v,g)]) (hc:X.env.cells.lookup y=some c) (hd:X.env.cells.lookup z=some d) (he:X.env.cells.lookup u=some e) (hg:X.env.cells.lookup v=some g) (c6:((relabel scope X.env).names.all fun p=>!(p.2==.cell||p.2==.free)||(cl.lookup p.1).isSome)=true)
 (hr:(relabel scope X.env).names.lookup y=some .cell) (hk:X.N[k]?=some y) (hs:X.env.scope.names.lookup y=some .cell)
 (hr2:(relabel scope X.env).names.lookup z=some .cell) (hk2:X.N[l]?=some z) (hs2:X.env.scope.names.lookup z=some .cell)
 (hr3:(relabel scope X.env).names.lookup u=some .cell) (hk3:X.N[m]?=some u) (hs3:X.env.scope.names.lookup u=some .cell)
 (hr4:(relabel scope X.env).names.lookup v=some .cell) (hk4:X.N[n]?=some v) (hs4:X.env.scope.names.lookup v=some .cell):CompScope X x [y,z,u,v] [k,l,m,n] scope cl where
 clos:=c1
 nocell:=c2
 kind:=c3
 names:=c4
 own:=c5
 nd:=nd
 sub:=fun p hp=>by
  subst hcl;rcases qD0 hp with h | h
  . rw[h];assumption
  . rcases qD0 h with h | h
    . rw[h];assumption
    . rcases qD0 h with h | h
      . rw[h];assumption
      . rw[zT0 h];assumption
 has:=c6
 outs:=fun j w h=>by
  have nyz:y≠z:=fun e=>by simp [e]at nd
  have nyu:y≠u:=fun e=>by simp [e]at nd
  have nyv:y≠v:=fun e=>by simp [e]at nd
  have nzu:z≠u:=fun e=>by simp [e]at nd
  have nzv:z≠v:=fun e=>by simp [e]at nd
  have nuv:u≠v:=fun e=>by simp [e]at nd
  subst hcl
  match j,h with
  | 0,h=>
    have e:y=w:=zR0 h;subst e;exact⟨hr,k,c,rfl,hk,by simp [List.lookup],hs⟩
  | 1,h=>
    have e:z=w:=zR0 h;subst e
    have:(z==y)=false:=by simpa using Ne.symm nyz
    exact⟨hr2,l,d,rfl,hk2,by simp [List.lookup,this],hs2⟩
  | 2,h=>
    have ew:u=w:=zR0 h;subst ew;have h1:(u==y)=false:=by simpa using Ne.symm nyu
    have h2:(u==z)=false:=by simpa using Ne.symm nzu
    exact⟨hr3,m,e,rfl,hk3,by simp [List.lookup,h1,h2],hs3⟩
  | 3,h=>
    have ew:v=w:=zR0 h;subst ew;have h1:(v==y)=false:=by simpa using Ne.symm nyv
    have h2:(v==z)=false:=by simpa using Ne.symm nzv
    have h3:(v==u)=false:=by simpa using Ne.symm nuv
    exact⟨hr4,n,g,rfl,hk4,by simp [List.lookup,h1,h2,h3],hs4⟩
  | j+4,h=>simp at h
def SqB(K:W.Frag)(b:Bool)(H:Hp)(a:Addr)(xs:List V):Prop:=if b=true then SqL K H a xs else SqT K H a xs
section
variable {X:Cx}
abbrev TJ:=St->Hp->Str->VK->Prop
def PJ(X:Cx)(es:List Expr)(t:TJ):Prop:=
 ∀(pins:List (Addr×Obj))(s:Shared)(σ:St)(H:Hp)(out:Str)(Q:VK),Inv X pins σ H s->t σ H out Q->wpAny (model X.prog X.w) X.A (joinParts out (evalEach es X.env)) (EP X pins σ Q) X.xe s
theorem Ed:PJ X [] (fun _ H out Q=>out.length<=sizeLine/\Q (.str out) H):=by
 intro pins s σ H out Q I h;exact joinParts_nil ⟨.str out,H,I.tok _,⟨_,rfl⟩,h.2⟩ h.1
theorem wk{e:Expr}{es:List Expr}{te:TE}{t:TJ}(he:PE X e te)(ht:PJ X es t):PJ X (e::es) (fun σ H out Q=>te σ H fun v H1=>∃y,v=.str y/\(out++y).length<=sizeLine/\t σ H1 (out++y) Q):=by
 intro pins s σ H out Q I h;show wpAny _ _ (joinParts out (eval e X.env::evalEach es X.env)) _ _ s;refine joinParts_cons (thn (he pins s σ H _ I h) fun v s1 ⟨x,H1,I1,r1,y,ex,hz,q⟩=>?_);subst ex;obtain⟨t',rfl⟩:=r1;exact⟨hz,ht pins s1 σ H1 _ Q I1 q⟩
theorem Cm{e1 e2:Expr}{es:List Expr}{t:TJ}{pos:Pos}(h:PJ X (e1::e2::es) t):PE X (.JoinedStr (e1::e2::es) pos) (fun σ H Q=>t σ H Str.empty Q):=
 fun pins s σ H Q I k=>JoinedStr_many (h pins s σ H Str.empty Q I k)
end
end L2
namespace L2
open PySem
section
variable {M:Model} {A:Around} {E:Value->Shared->Prop} {h:Heap} {g:Array GenState} {d:Drawn} {t:Nat} {os:OsState}
variable {nm q:Str} {C N:Addr} {bs bm:List Value} {hdct:Bool} {sn:List Str} {sub:List Value} {ab:Bool} {col:Option Bool} {dd:Option Addr} {k0 k1 k2 k3 k5:Option Value} {Bn newId inN:String} {bmN:List Value}
theorem vz(Fn:ExcBaseFacts Bn newId inN bmN)(hcont:(Value.ref C::bm).contains (.type Bn)=true){rest:List Value}{Q:Unit->Shared->Prop}(hC:h.get? C=some (excClassObj nm q C N bs bm hdct sn sub ab col dd k0 k1 k2 k3 k5 newId))
 (hq:Q () ⟨h,g,d,t,os⟩):wpAny M A (checkBuiltinCall newId ⟨.ref C::rest,[]⟩) Q E ⟨h,g,d,t,os⟩:=by
 have hstar:=Fn.noStar;simp only[checkBuiltinCall,Fn.newKind,Fn.newSplit,Fn.newRow]
 repeat (first | refine wpAny_loadPart_at hC ?_ | (refine wpAny_isSubtype_exc hC ?_;rw[hcont]) | refine wpAny_staticBase_exc hC ?_ | refine wpAny_madeBy_exc hC ?_ | simp only[bne_self_eq_false,Bool.false_eq_true,if_false] | wp_step)
 exact hq
end
section
variable {prog:Program} {w:World} {A:Around} {R:Result->Shared->Prop} {h:Heap} {g:Array GenState} {d:Drawn} {t:Nat} {os:OsState}
variable {nm q:Str} {C N:Addr} {bs bm:List Value} {hdct:Bool} {sn:List Str} {sub:List Value} {ab:Bool} {col:Option Bool} {dd:Option Addr} {k0 k1 k2 k3 k5:Option Value} {Bn newId inN:String} {bmN:List Value}
theorem Bi (Fn:ExcBaseFacts Bn newId inN bmN) (hcB:(Value.ref C::bm).contains (.type Bn)=true) (hcA:(Value.ref C::bm).contains (.type "AttributeError")=false) (hcN:(Value.ref C::bm).contains (.type "NameError")=false) {rest:List Value} (hC:h.get? C=some (excClassObj nm q C N bs bm hdct sn sub ab col dd k0 k1 k2 k3 k5 newId))
 (hq:R (.ok (.ret (.ref (h.objs.size+1)))) ⟨(h.push { cls:=.type "tuple",data:=.seq rest.toArray }).push
  { cls:=.ref C,data:=.fields #[.ref h.objs.size,.none,.none,.none,.bool false,.none] },g,d,t,os⟩) (hrest:rest.length<=sizeLine:=by size_fits) :
 codeAny (model prog w) A (.builtin newId ⟨.ref C::rest,[]⟩) R ⟨h,g,d,t,os⟩:=by
 have hends:=Fn.ends;refine codeAny_builtinAt Fn.entry ?_;unfold Builtin.«BaseException.__new__»;refine wpAt_bind ?_;show wpAt _ _ _ (stack >>= _) _ _ _;refine wpAt_bind (wpAt_stack fun p below=>wpAt_of_wpAny ?_)
 wp_walk
 refine wpAt_of_wpAny ?_;rw[Fn.owner]
 repeat (first | with_reducible refine wpAny_madeHere_exc Fn.canon hC ?_ | with_reducible refine wpAny_loadPart_at hC ?_ | (with_reducible refine wpAny_isSubtype_exc hC ?_;first | rw[hcB] | rw[hcA] | rw[hcN]) | wp_step)
 show R _ _;rw[Heap.size_push];exact hq
end
section
variable {prog:Program} {w:World} {A:Around} {E:Value->Shared->Prop} {h:Heap} {g:Array GenState} {d:Drawn} {t:Nat} {os:OsState}
variable {nm q:Str} {C N:Addr} {bs bm:List Value} {hdct:Bool} {sn:List Str} {sub:List Value} {ab:Bool} {col:Option Bool} {dd:Option Addr} {k0 k1 k2 k3 k5:Option Value} {Bn newId inN:String} {bmN:List Value}
abbrev eF(C:Addr)(dx:Option Addr)(vs:Array Value):Obj:={ cls:=.ref C,dict:=dx,data:=.fields vs }
abbrev iY(C a:Addr):Obj:=eF C none #[.ref a,.none,.none,.none,.bool false,.none]
theorem ma (Fn:ExcBaseFacts Bn newId inN bmN) (hcB:(Value.ref C::bm).contains (.type Bn)=true) (hcA:(Value.ref C::bm).contains (.type "AttributeError")=false) (hcN:(Value.ref C::bm).contains (.type "NameError")=false) {rest:List Value} {fI:Addr} {oI:Obj} {Q:Fin->Shared->Prop}
 (hC:h.get? C=some (excClassObj nm q C N bs bm hdct sn sub ab col dd k0 k1 k2 k3 k5 newId)) (hi:PySem.W.Looks (model prog w) h (typeLookup (.ref C) "__init__") (some (.ref fI)))
 (hfI:h.get? fI=some oI) (hfc:oI.cls=.type "function")
 (hq:wpAny (model prog w) A (call (.ref fI) (.ref (h.objs.size+1)::rest)) (fun r s'=>r=.none/\Q (.done (.ret (.ref (h.objs.size+1)))) s') E ⟨(h.push { cls:=.type "tuple",data:=.seq rest.toArray }).push (iY C h.objs.size),g,d,t,os⟩) (hrest:rest.length<=sizeLine:=by size_fits) :
 wpAny (model prog w) A (Builtin.«type.__call__» ⟨.ref C::rest,[]⟩) Q E ⟨h,g,d,t,os⟩:=by
 repeat (first | with_reducible refine wpAny_loadPart_at hC ?_ | with_reducible refine wpAny_madeBy_exc hC ?_ | wp_step)
 refine codeAny_call_builtin_code (Code.quiet_builtin _ Fn.quiet) (vz Fn hcB hC ?_);refine Bi Fn hcB hcA hcN hC ?_ hrest;show wpAny _ _ _ _ _ _;have hC₁:=zJ0 (iY C h.objs.size) (zJ0 { cls:=.type "tuple",data:=.seq rest.toArray } hC);have hfI₁:=zJ0 (iY C h.objs.size) (zJ0 { cls:=.type "tuple",data:=.seq rest.toArray } hfI);have hget:((h.push { cls:=.type "tuple",data:=.seq rest.toArray }).push (iY C h.objs.size)).get? (h.objs.size+1)=some (iY C h.objs.size):=by heap_get
 have hcC:(Value.ref C::bm).contains (.ref C)=true:=by simp
 unfold isInstance
 repeat (first | with_reducible refine wpAny_loadPart_at hget ?_ | (with_reducible refine wpAny_isSubtype_exc hC₁ ?_;rw[hcC]) | wp_step)
 show wpAny _ _ (typeLookup (.ref C) _) _ _ _;refine hi _ _ _ _ (fun b o e=>zJ0 _ (zJ0 _ e)) ?_;refine wpAny_holding (zC0 ?_);unfold bindSpecial;refine zC0 (wpAny_typeOf (T:="function") ⟨_,hfI₁,hfc⟩ ?_);rw[zB0 (by decide)];refine zH0 (zC0 (wpAny_mono hq (fun r s' hr=>?_) fun _ _ x=>x));obtain⟨rfl,hQ⟩:=hr
 wp_walk
 exact hQ
theorem oN (Fn:ExcBaseFacts Bn newId inN bmN) (hcB:(Value.ref C::bm).contains (.type Bn)=true) (hcA:(Value.ref C::bm).contains (.type "AttributeError")=false) (hcN:(Value.ref C::bm).contains (.type "NameError")=false) {rest:List Value} {fI:Addr} {oI:Obj} {Q:Value->Shared->Prop}
 (hC:h.get? C=some (excClassObj nm q C N bs bm hdct sn sub ab col dd k0 k1 k2 k3 k5 newId)) (hi:PySem.W.Looks (model prog w) h (typeLookup (.ref C) "__init__") (some (.ref fI)))
 (hfI:h.get? fI=some oI) (hfc:oI.cls=.type "function")
 (hq:wpAny (model prog w) (A.under (.builtin "type.__call__" ⟨.ref C::rest,[]⟩)) (call (.ref fI) (.ref (h.objs.size+1)::rest)) (fun r s'=>r=.none/\Q (.ref (h.objs.size+1)) s') E ⟨(h.push { cls:=.type "tuple",data:=.seq rest.toArray }).push (iY C h.objs.size),g,d,t,os⟩) (hrest:rest.length<=sizeLine:=by size_fits) :
 wpAny (model prog w) A (call (.ref C) rest) Q E ⟨h,g,d,t,os⟩:=by
 have f1:=tc_lookup;have f2:=tc_bind (.ref C);have hT:(⟨h,g,d,t,os⟩:Shared).TypeIs (.ref C) "type":=⟨_,hC,rfl⟩
 refine wpAny_call (codeAny_of_tree ?_);show wpAny _ _ (callAny (.ref C) _) _ _ _
 repeat (any_goals (first | assumption | with_reducible refine wpAny_loadPart_at hC ?_ | wp_step))
 refine⟨rfl,?_⟩;refine codeAny_call_builtin_at (Code.quiet_builtin _ (by decide +kernel)) entry_typeCall (wpAny_check_type_call_sub hC (ma (hrest:=hrest) Fn hcB hcA hcN hC hi hfI hfc ?_));exact hq
end
end L2
namespace L2
open PySem PySem.Spec PyProof.Rows
def ObP(e:Addr)(p:Obj->Prop):HO:=.ext fun h=>∃o,h.get? e=some o/\p o
theorem ObP.ok{P:Program}{w:World}{H:Hp}{h:Heap}{e:Addr}{p:Obj->Prop}{o:Obj}(ho:h.get? e=some o)(hp:p o):ObjOk P w H h e (ObP e p):=
 ⟨⟨o,ho,hp⟩,⟨o,ho⟩,fun _ _ ⟨o,ho,hp⟩ k=>⟨o,k o ho,hp⟩⟩
theorem ObP.get{P:Program}{w:World}{H:Hp}{h:Heap}{e:Addr}{p:Obj->Prop}(x:HOk P w H h)(he:H e=some (ObP e p)):∃o,h.get? e=some o/\p o:=(x e _ he).1
abbrev vs6(a:Addr):Array Value:=#[.ref a,.none,.none,.none,.bool false,.none]
def mr(C e:Addr):HO:=ObP e fun o=>∃a,o=eF C none (vs6 a)
def rA(C e dx:Addr):HO:=ObP e fun o=>∃a,o=eF C (some dx) (vs6 a)
def tT(C e dx:Addr):HO:=ObP e fun o=>∃vs,o=eF C (some dx) vs/\vs.size=6/\vs[2]?=some Value.none
structure MkX(K:W.Frag)(C f:Addr):Prop where
 obj:∃(nm q:Str) (N:Addr) (bs bm:List Value) (hdct:Bool) (sn:List Str) (sub:List Value) (ab:Bool) (col:Option Bool) (dd:Option Addr) (k0 k1 k2 k3 k5:Option Value),K.lookup C=some (excClassObj nm q C N bs bm hdct sn sub ab col dd k0 k1 k2 k3 k5 "ValueError.__new__")/\
  (Value.ref C::bm).contains (.type "ValueError")=true/\(Value.ref C::bm).contains (.type "AttributeError")=false/\(Value.ref C::bm).contains (.type "NameError")=false
 init:W.findIn K (.ref C) "__init__"=some (some (.ref f))
 fn:∃o,K.lookup f=some o/\o.cls=.type "function"
 kp:W.keepIn K (.ref C)=true
section
variable {X:Cx} {CX:CXT} {k:Nat} {f C:Addr} {fd:FuncData} {ps:List Str} {sp:Sp} {dvs:List V} {ds:List Value} {E:XK} {x m:Str} {p pos apos:Pos} {e o:Expr} {es:List Expr} {ta:TE} {t:TA}
theorem xC{pins:List (Addr×Obj)}{σ:St}{H:Hp}{s:Shared}{Q:VK}{us:List Value}{vs:List V}(M:MkX X.K C f)(Fo:FnOk X.prog X.w X.K X.mg X.base CX k f fd ps sp)(hr:Room (k+1) X.A)(hb:Binds X.K fd ps ds)(hd:Vals dvs ds)
 (hx:fo CX X E) (I:Inv X pins σ H s) (r:Vals vs us) (hz:vs.length<=sizeLine)
 (h:∀e,H e=none->sp (.ref e::(vs++dvs)) (upd H e (mr C e)) (fun v H2=>v=.non/\Q (.ref e) H2) E) :
 wpAny (model X.prog X.w) X.A (call (.ref C) us) (EP X pins σ Q) X.xe s:=by
 have hf:H (s.heap.objs.size+1)=none:=I.hok.fresh (qK0 _);have hq:=h (s.heap.objs.size+1) hf;obtain⟨nm,q,N,bs,bm,hdct,sn,sub,ab,col,dd,k0,k1,k2,k3,k5,lk,c1,c2,c3⟩:=M.obj;obtain⟨oI,lf,hfc⟩:=M.fn;obtain⟨hh,g,d,tk,os⟩:=s;have I1:Inv X pins σ H { heap:=hh.push { cls:=.type "tuple",data:=.seq us.toArray },gens:=g,drawn:=d,toks:=tk,os:=os }:=I.kept (t':=tk) fun b o e=>zJ0 _ e
 have sz1:(hh.push { cls:=.type "tuple",data:=.seq us.toArray }).objs.size=hh.objs.size+1:=Heap.size_push ..;have I2:Inv X pins σ (upd H (hh.objs.size+1) (mr C (hh.objs.size+1))) { heap:=(hh.push { cls:=.type "tuple",data:=.seq us.toArray }).push (iY C hh.objs.size),gens:=g,drawn:=d,toks:=tk,os:=os }:=
  I1.laid (t':=tk) (fun b o e=>zJ0 _ e) (Nat.le_of_eq sz1) (ObP.ok (o:=iY C hh.objs.size) (by rw[←sz1];exact zV0 _ rfl) ⟨_,rfl⟩)
 have r2:Vals (V.ref (hh.objs.size+1)::(vs++dvs)) (Value.ref (hh.objs.size+1)::(us++ds)):=.cons rfl (r.append hd);have hl:(Value.ref (hh.objs.size+1)::us++ds).length=ps.length:=by
  have e:=r2.length;rw[Fo.len _ _ _ _ hq]at e;exact e.symm
 refine oN PySem.F.excBase_ValueError c1 c2 c3 (I.kIn _ _ lk) (W.looks_findIn I.kIn M.init) (I.kIn _ _ lf) hfc ?_ (by rw[←r.length];exact hz);refine wpAny_call (codeAny_mono (Fo.run _ X.stack _ _ ⟨Value.ref (hh.objs.size+1)::us,[]⟩ (Value.ref (hh.objs.size+1)::(us++ds)) _ _ E (hr.make C us []) (I2.env0.make C us []) (hb _ (Value.ref (hh.objs.size+1)::us) I2.kIn hl) r2 hq) fun r s' hq'=>?_);cases r with
 | error e=>exact hx pins σ _ _ e s' I2 hq'
 | ok fl=>
   cases fl with
   | ret u=>
     obtain⟨v,H',I3,rv,ev,q3⟩:=I2.after hq';subst ev;exact⟨rv,⟨V.ref (hh.objs.size+1),H',I3,rfl,q3⟩⟩
   | next=>exact False.elim hq'
   | brk=>exact False.elim hq'
   | cont=>exact False.elim hq'
def DM(C:Addr)(sp:Sp)(dvs:List V)(E:XK)(t:TA):TE:=fun σ H Q=>t σ H fun vs H1=>vs.length<=sizeLine/\∀e,H1 e=none ->
 sp (.ref e::(vs++dvs)) (upd H1 e (mr C e)) (fun v H2=>v=.non/\Q (.ref e) H2) E
theorem Ad(M:MkX X.K C f)(F:FnOk X.prog X.w X.K X.mg X.base CX k f fd ps sp)(hr:Room (k+1) X.A)(hg:Gl X x)(hm:X.mg x=some (.ref C))(hb:Binds X.K fd ps ds)(hd:Vals dvs ds)(hx:fo CX X E)
 (ha:PA X (e::es) t) (hdb:(x==("__debug__":Str))=false:=by decide) (he:starEach (e::es) X.env=(false,eval e X.env)::starEach es X.env:=by rfl) (hpl:(backTo pos (starEach es X.env)).any (·.1)=false:=by rfl) :
 PE X (.Call (.Name x p) (e::es) [] pos) (DM C sp dvs E t):=by
 intro pins s σ H Q I h;refine wpAny_Call_Name_kw (jD I hg hm ?_ hdb);refine W.callWith_K (h₀:=X.base) I.ok.mod.kin M.kp (thn (ha pos pins s σ H _ I h) fun us s1 ⟨vs,H1,I1,r,z,q⟩=>⟨I1.kIn,?_⟩) he hpl;exact xC M F hr hb hd hx I1 r z q
end
structure ClsFn(K:W.Frag)(C f:Addr)(name:Str):Prop where
 ga:W.specialIn K (.ref C) "__getattribute__"=some (some (.builtin "type.__getattribute__"))
 rd:W.readsIn K C (.type "type")=true
 fc:(match W.findCls K (.ref C) (.type "type") name with | some (.val v)=>some v | _=>none)=some (.ref f)
 kp:W.keepIn K (.ref f)=true
theorem ClsFn.find {K:W.Frag} {C f:Addr} {name:Str} (c:ClsFn K C f name):W.findCls K (.ref C) (.type "type") name=some (.val (.ref f)):=by
 have h:=c.fc
 split at h
 . rename_i v e;cases h;exact e
 . cases h
section
variable {X:Cx} {CX:CXT} {k:Nat} {f C:Addr} {fd:FuncData} {ps:List Str} {sp:Sp} {dvs:List V} {ds:List Value} {E:XK} {x m:Str} {p pos apos:Pos} {e o:Expr} {es:List Expr} {ta:TE} {t:TA}
theorem uE {pl:Sem Bool} (hg:Gl X x) (hm:X.mg x=some (.ref C)) (c:ClsFn X.K C f m) (Fo:FnOk X.prog X.w X.K X.mg X.base CX k f fd ps sp) (hr:Room k X.A) (hb:Binds X.K fd ps ds) (hd:Vals dvs ds) (hx:fo CX X E) (ha:PA X (e::es) t) (hdb:(x==("__debug__":Str))=false:=by decide)
 (hst:starEach (e::es) X.env=(false,eval e X.env)::starEach es X.env:=by rfl) (hpl:(backTo pos (starEach es X.env)).any (·.1)=false:=by rfl)
 (ht:eval (.Call (.Attribute (.Name x p) m apos) (e::es) [] pos) X.env=(do
  let ov ←eval (.Name x p) X.env
  standAt apos.atName
  let(f,first) ←holding [ov] (getMethod ov m pl)
  callWith pos f first (backTo pos (starEach (e::es) X.env)) (backToKw pos (keywordEach [] X.env))):=by rfl) :
 PE X (.Call (.Attribute (.Name x p) m apos) (e::es) [] pos) (lL sp dvs E t):=by
 intro pins s σ H Q I h;refine W.methodCall_KW (pl:=pl) ?_ ht;refine thn (dj (v:=.ref C) hg hm rfl hdb pins s σ H (fun v H'=>v=.ref C/\H'=H) I ⟨rfl,rfl⟩) fun u s1 ⟨v,H1,I1,r1,ev,eH⟩=>?_
 subst ev eH;cases r1;refine W.method_cls I1.kIn c.ga (W.cls_value I1.kIn c.rd c.find rfl ?_);have I2:=I1.tok (s1.toks+1);refine W.callWith_K (first:=[]) (h₀:=X.base) I2.ok.mod.kin c.kp (thn (ha pos pins _ σ H1 _ I2 h) fun us s2 ⟨vs,H2,I3,r,q⟩=>⟨I3.kIn,?_⟩) hst hpl;exact qx Fo hr hb hd hx I3 r q
end
section
variable {prog:Program} {w:World} {A:Around} {E:Value->Shared->Prop} {h:Heap} {g:Array GenState} {d:Drawn} {t:Nat} {os:OsState}
variable {nm q:Str} {C N:Addr} {bs bm:List Value} {hdct:Bool} {sn:List Str} {sub:List Value} {ab:Bool} {col:Option Bool} {dd:Option Addr} {k0 k1 k2 k3 k5:Option Value} {B newId nid initId inN:String} {bmN bmB:List Value}
theorem tJ(Fb:ExcBaseFacts B nid initId bmB)(hcB:(Value.ref C::bm).contains (.type B)=true){M:Model}{e:Addr}{oe:Obj}{rest:List Value}{Q:Unit->Shared->Prop}
 (hC:h.get? C=some (excClassObj nm q C N bs bm hdct sn sub ab col dd k0 k1 k2 k3 k5 newId)) (he:h.get? e=some oe) (hcls:oe.cls=.ref C) (hq:Q () ⟨h,g,d,t,os⟩) :
 wpAny M A (checkBuiltinCall initId ⟨.ref e::rest,[]⟩) Q E ⟨h,g,d,t,os⟩:=by
 have hshort:=Fb.noStar;simp only[checkBuiltinCall,Fb.initKind,Fb.initSplit,Fb.initRow]
 repeat (first | (with_reducible refine wpAny_loadPart_at he ?_;rw[hcls]) | with_reducible refine wpAny_loadPart_at hC ?_ | (with_reducible refine wpAny_isSubtype_exc hC ?_;rw[hcB]) | wp_step)
 refine wpAny_onRaise ?_;rw[show ∀(a b:String) (n:Nat),Bind.check ⟨.positional,"*",B,.self,[⟨"args",.varPos,false⟩]⟩ a b n (List.map (fun x=>x.fst) ({ pos:=Value.ref e::rest }:Args).kw)=pure ()from
  fun a b n=>check_star_args _ _ _ _ _ _]
 exact zH0 hq
theorem yt(Fb:ExcBaseFacts B nid initId bmB)(hcB:(Value.ref C::bm).contains (.type B)=true){e a:Addr}{dx:Option Addr}{rest:List Value}{Q:Value->Shared->Prop}
 (hC:h.get? C=some (excClassObj nm q C N bs bm hdct sn sub ab col dd k0 k1 k2 k3 k5 newId)) (he:h.get? e=some (eF C dx (vs6 a))) (hrest:rest.length<=sizeLine)
 (hq:Q .none ⟨(h.push { cls:=.type "tuple",data:=.seq rest.toArray }).update e (Obj.mapFields (·.setIfInBounds 0 (.ref h.objs.size))),g,d,t,os⟩) :
 wpAny (model prog w) A (call (.builtin initId) (.ref e::rest)) Q E ⟨h,g,d,t,os⟩:=by
 refine wpAny_call (codeAny_call_builtin Fb.init.plain Fb.initEntry (tJ Fb hcB hC he rfl ?_))
 wp_walk
 exact hq
end
theorem yN {K:W.Frag}:W.findCls K (.type "ValueError") (.type "type") "__init__"=some (.val (.builtin "ValueError.__init__")):=by
 with_unfolding_all rfl
theorem yK:typeOf (.type "ValueError")=pure (.type "type"):=by
 kernel_rfl
theorem yQ{H:Hp}{e:Addr}{o:HO}(h:H e=some o):upd H e o=H:=by
 funext b
 unfold upd
 split
 . rename_i z;rw[z,h]
 . rfl
section
variable {prog:Program} {w:World} {A:Around} {E:Value->Shared->Prop} {s:Shared} {K:W.Frag} {name:Str}
theorem qU {T:String} {v:Value} {pl:Sem Bool} {Q:Value×List Value->Shared->Prop} (X:K.In s.heap) (ht:typeOf (.type T)=pure (.type "type")) (hs:Manifest.isStub T=false)
 (e:W.findCls K (.type T) (.type "type") name=some (.val v)) (hh:W.handedIn v=true) (h:Q (v,[]) { s with toks:=s.toks+1 }):wpAny (model prog w) A (getMethod (.type T) name pl) Q E s:=by
 have hstub:opaqueClassAbove (.type T)=pure none:=by unfold opaqueClassAbove;dsimp only;rw[hs];rfl
 have L0:PySem.W.Looks (model prog w) s.heap (typeOf (.type T)) (.type "type"):=PySem.W.Looks.of_pure ht;have hg:W.findIn K (.type "type") "__getattribute__"=some (some (.builtin "type.__getattribute__")):=W.type_tga;unfold getMethod specialOf;refine zC0 (zC0 (L0.here ((W.looks_findIn X hg).here ?_)))
 dsimp only
 rw [zB0 W.canon_tga];refine zC0 (wpAny_mono (Q:=fun v=>Q (v,[])) (E:=E) ?_ (fun _ _ z=>zH0 z) fun _ _ z=>z);have LO:PySem.W.Looks (model prog w) s.heap (opaqueClassAbove (.type T)) none:=PySem.W.Looks.of_pure hstub;refine W.cls_open X LO L0 hg (W.looks_hook X (r:=none) (by rfl)) (by show W.subIn K _ _=_;rfl) e
  (zH0 (by show wpAny _ _ (PySem.handedOut v) _ _ _;rw[W.handedOut_of hh];exact zH0 h))
end
section
variable {X:Cx} {p pos apos:Pos} {e1 e2:Expr} {t:TA}
theorem tN:bootBuiltins ("ValueError":Str)=some (.type "ValueError"):=by decide +kernel
theorem uB {pl:Sem Bool} (hg:Gl X "ValueError") (hm:X.mg "ValueError"=none) (ha:PA X [e1,e2] t)
 (hst:starEach [e1,e2] X.env=(false,eval e1 X.env)::starEach [e2] X.env:=by rfl) (hpl:(backTo pos (starEach [e2] X.env)).any (·.1)=false:=by rfl)
 (ht:eval (.Call (.Attribute (.Name "ValueError" p) "__init__" apos) [e1,e2] [] pos) X.env=(do
  let ov ←eval (.Name "ValueError" p) X.env
  standAt apos.atName
  let(f,first) ←holding [ov] (getMethod ov "__init__" pl)
  callWith pos f first (backTo pos (starEach [e1,e2] X.env)) (backToKw pos (keywordEach [] X.env))):=by rfl) :
 PE X (.Call (.Attribute (.Name "ValueError" p) "__init__" apos) [e1,e2] [] pos) (fun σ H Q=>t σ H fun vs H1=>∃e C f x,vs=[.ref e,x]/\H1 e=some (mr C e)/\MkX X.K C f/\Q .non H1):=by
 intro pins s σ H Q I h;refine W.methodCall_KW (pl:=pl) ?_ ht;have hP:PE X (.Name "ValueError" p) (tC (V.ty "ValueError")):=jA hg hm tN rfl;refine thn (hP pins s σ H (fun v H'=>v=.ty "ValueError"/\H'=H) I ⟨rfl,rfl⟩) fun u s1 ⟨v,H1,I1,r1,ev,eH⟩=>?_
 subst ev eH;cases r1;refine qU I1.kIn yK (by decide +kernel) yN rfl ?_;have I2:=I1.tok (s1.toks+1);have hA:=ha pos pins _ σ H1 _ I2 h;rw[hst]at hA ⊢;refine Calls.callWith_builtin (by show(false||(backTo pos (starEach [e2] X.env)).any (·.1))=false;rw[hpl] <;> rfl) (Calls.evalArgs_plain ?_);refine thn hA fun us s2 ⟨vs,H2,I3,r2,e,C,f,x,ev,he,M,q⟩=>?_
 subst ev;cases r2 with
 | cons r rr=>
   cases rr with
   | @cons _ u2 _ _ r' rr=>
     cases rr;cases r;obtain⟨nm,qn,N,bs,bm,hdct,sn,sub,ab,col,dd,k0,k1,k2,k3,k5,lk,c1,c2,c3⟩:=M.obj;obtain⟨o,ho,a,rfl⟩:=ObP.get I3.hok he;obtain⟨hh,g,d,tk,os⟩:=s2;show wpAny _ _ (call (.builtin "ValueError.__init__") (.ref e::[u2])) _ _ _;refine yt PySem.F.excBase_ValueError c1 (I3.kIn _ _ lk) ho (by show 1<=sizeLine;decide) ?_;have I4:Inv X pins σ H2 { heap:=hh.push { cls:=.type "tuple",data:=.seq [u2].toArray },gens:=g,drawn:=d,toks:=tk,os:=os }:=I3.kept (t':=tk) fun b o e=>zJ0 _ e
     have ho4:=zJ0 { cls:=.type "tuple",data:=.seq [u2].toArray } ho;have hu:=Heap.get?_update_self (Obj.mapFields (·.setIfInBounds 0 (Value.ref hh.objs.size))) ho4 rfl;have I5:Inv X pins σ (upd H2 e (mr C e)) { heap:=(hh.push { cls:=.type "tuple",data:=.seq [u2].toArray }).update e (Obj.mapFields (·.setIfInBounds 0 (Value.ref hh.objs.size))),gens:=g,drawn:=d,toks:=tk,os:=os }:=
      I4.write (x:=e) (e:=e) (t':=tk) (by rw[he];exact trivial) (.inl rfl) (fun b u hb hu=>(Heap.get?_update_other _ _ (Ne.symm hb)).trans hu) ⟨_,hu⟩ (ObP.ok hu ⟨hh.objs.size,rfl⟩)
     rw[yQ he]at I5;exact⟨.non,H2,I5,rfl,q⟩
end
end L2
namespace L2
open PySem Builtin Builtin.ObjectAttr
section
variable {prog:Program} {w:World} {A:Around} {E:Value->Shared->Prop} {h:Heap} {g:Array GenState} {d:Drawn} {t:Nat} {os:OsState}
variable {nm q:Str} {C N x:Addr} {bs bm:List Value} {sn:List Str} {sub:List Value} {ab:Bool} {col:Option Bool} {dd:Option Addr} {k0 k1 k2 k3 k5:Option Value} {newId:String} {name:Str} {v:Value} {vs:Array Value}
theorem yB{M:Model}{B sa owner:String}{bmB:List Value}{o:Obj}{nameV:Value}{Q:Unit->Shared->Prop}(SF:StoreFacts B bmB sa owner)(hcB:(Value.ref C::bm).contains (.type owner)=true)
 (hC:h.get? C=some (excClassObj nm q C N bs bm true sn sub ab col dd k0 k1 k2 k3 k5 newId)) (hx:h.get? x=some o) (hc:o.cls=.ref C) (hq:Q () ⟨h,g,d,t,os⟩) :
 wpAny M A (checkBuiltinCall sa ⟨[.ref x,nameV,v],[]⟩) Q E ⟨h,g,d,t,os⟩:=by
 have ha:=SF.args (.ref x) nameV v;simp only[checkBuiltinCall,SF.kind,SF.split];refine zC0 ?_
 . unfold isInstance
   repeat (first | (with_reducible refine wpAny_loadPart_at hx ?_;rw[hc]) | (with_reducible refine wpAny_isSubtype_exc hC ?_;rw[hcB]) | wp_step)
   cases hsig:Manifest.signature? sa with
   | none=>exact zH0 hq
   | some sig=>
     simp only[argsOk,hsig]at ha;have h2:Bind.checkArgs sa sig ⟨[.ref x,nameV,v],[]⟩=pure ():=ha;show wpAny M A (Bind.checkArgs sa sig ⟨[.ref x,nameV,v],[]⟩) Q E _;rw[h2];exact zH0 hq
theorem qb {tk:Tok} {Q:Fin->Shared->Prop} (hpass:refuseLoop (.ref x) "__setattr__" (.ref C::bm)=pure ())
 (hC:h.get? C=some (excClassObj nm q C N bs bm true sn sub ab col dd k0 k1 k2 k3 k5 newId)) (hL:PySem.W.Looks (model prog w) h (typeLookup (.ref C) name) none) {o:Obj} (hx:h.get? x=some o) (hc:o.cls=.ref C) (hdn:o.dict=none) (hnc:∀c,o.data≠.cls c)
 (hq:∀h' tk',h'.get? x=some { cls:=o.cls,dict:=some h.objs.size,data:=o.data,slots:=o.slots }->h'.Ns1 h.objs.size (fun y=>if y=name then some v else none)->(∀b o,b≠x->h.get? b=some o->h'.get? b=some o)->Q (.done (.ret .none)) ⟨h',g,d,tk',os⟩) :
 wpAny (model prog w) A (Builtin.«object.__setattr__» ⟨[.ref x,.str name tk,v],[]⟩) Q E ⟨h,g,d,t,os⟩:=by
 have hL':∀{A':Around}{E':Value->Shared->Prop}{Q':Option Value->Shared->Prop}{t':Nat},Q' none ⟨h,g,d,t',os⟩->wpAny (model prog w) A' (typeLookup (.ref C) name) Q' E' ⟨h,g,d,t',os⟩:=fun q'=>hL _ _ _ _ (fun _ _ e=>e) q'
 unfold Builtin.«object.__setattr__»
 repeat (first | rw[refuse_eq] | (rw[hpass]) | (with_reducible refine wpAny_loadPart_at hx ?_;rw[hc]) | with_reducible refine wpAny_mroOf_exc hC ?_ | (with_reducible refine hL' ?_) | wp_step)
 rw[hdn,zA0 (by simp [typeHasDict])]
 split
 . rename_i hcd;cases hcd
 split
 . rename_i c hcd;exact absurd hcd (hnc c)
 . have hx₁:(h.push { cls:=.type "dict",data:=.dict #[] }).get? x=some o:=zJ0 _ hx;have hxs:x≠h.objs.size:=zQ0 (zK0 hx);refine zC0 (wpAny_alloc' ?_);refine zC0 (wpAny_update' hx₁ ?_);refine zH0 ?_;have hgd:((h.push { cls:=.type "dict",data:=.dict #[] }).update x fun o=>{ cls:=o.cls,dict:=some h.objs.size,data:=o.data,slots:=o.slots }).get? h.objs.size
    = some { cls:=.type "dict",data:=.dict #[] }:=
    (Heap.get?_update_ne _ _ _ _ hxs.symm).trans (Heap.get?_push_at rfl rfl)
   have hnd:((h.push { cls:=.type "dict",data:=.dict #[] }).update x fun o=>{ cls:=o.cls,dict:=some h.objs.size,data:=o.data,slots:=o.slots }).Ns h.objs.size (fun _=>none):=
    ⟨_,#[],_,hgd,rfl,fun e he=>absurd he (by simp),fun _=>rfl⟩
   show wpAny _ _ (storeInDict h.objs.size (.str name tk) name v) _ _ _;unfold storeInDict newKeyGuard;refine zC0 (zH0 (zC0 (wpAny_nsSet1 (Heap.Ns1.of_empty hnd) fun h' hn' hs=>?_)));obtain⟨oD,esD,epD,hoD,hdD,hcD⟩:=hn'.count (Within.cons name v Within.nil);refine zC0 (wpAny_lookBehind hoD (by rw[hdD];exact pastItsLine_dict (qB0 hcD (by rw[qC0,List.length_nil,sizeLine_eq];omega))) ?_)
   wp_walk
   refine hq h' _ ?_ hn' fun b ob hbx hb=>?_
   . refine(hs.2 x hxs).trans (Heap.get?_update_self _ hx₁ ?_);have hfr:=(Heap.get?_some_iff.mp hx).2;obtain⟨oc,od,odt,osl⟩:=o;cases odt <;> first | rfl | exact hfr
   . exact(hs.2 b (zQ0 (zK0 hb))).trans ((Heap.get?_update_ne _ _ _ _ hbx).trans (zJ0 _ hb))
theorem rJ {B sa owner:String} {bmB:List Value} {Q:Unit->Shared->Prop} (SF:StoreFacts B bmB sa owner) (hcO:(Value.ref C::bm).contains (.type owner)=true) (hpass:refuseLoop (.ref x) "__setattr__" (.ref C::bm)=pure ())
 (hC:h.get? C=some (excClassObj nm q C N bs bm true sn sub ab col dd k0 k1 k2 k3 k5 newId)) (hS:PySem.W.Looks (model prog w) h (typeLookup (.ref C) "__setattr__") (some (.builtin sa)))
 (hL:PySem.W.Looks (model prog w) h (typeLookup (.ref C) name) none) {o:Obj} (hx:h.get? x=some o) (hc:o.cls=.ref C) (hdn:o.dict=none) (hnc:∀c,o.data≠.cls c)
 (hq:∀h' tk',h'.get? x=some { cls:=o.cls,dict:=some h.objs.size,data:=o.data,slots:=o.slots }->h'.Ns1 h.objs.size (fun y=>if y=name then some v else none)->(∀b o,b≠x->h.get? b=some o->h'.get? b=some o)->Q () ⟨h',g,d,tk',os⟩) :
 wpAny (model prog w) A (setAttr (.ref x) name v) Q E ⟨h,g,d,t,os⟩:=by
 have f3:=SF.slot.bind (.ref x);have hS':∀{A':Around} {E':Value->Shared->Prop} {Q':Option Value->Shared->Prop} {t':Nat},Q' (some (.builtin sa)) ⟨h,g,d,t',os⟩->wpAny (model prog w) A' (typeLookup (.ref C) "__setattr__") Q' E' ⟨h,g,d,t',os⟩:=fun q'=>hS _ _ _ _ (fun _ _ e=>e) q'
 unfold setAttr callSpecial? specialOf
 repeat (any_goals (first | assumption | (with_reducible refine wpAny_loadPart_at hx ?_;rw[hc]) | (with_reducible refine hS' ?_) | wp_step))
 refine codeAny_call_builtin SF.slot.plain SF.entry (yB SF hcO hC hx hc (qb hpass hC hL hx hc hdn hnc fun h' tk' i1 i2 i3=>?_))
 repeat (any_goals (first | assumption | wp_step))
 exact hq h' tk' i1 i2 i3
end
section
variable {prog:Program} {w:World} {A:Around} {E:Value->Shared->Prop} {h:Heap} {g:Array GenState} {d:Drawn} {t:Nat} {os:OsState} {a dx:Addr} {o:Obj} {v:Value}
 {nm q:Str} {C N:Addr} {bs bm:List Value} {sn:List Str} {sub:List Value} {ab:Bool} {col:Option Bool} {dd:Option Addr} {k0 k1 k2 k3 k5:Option Value} {newId:String} {mA:Str->Option Value} {name:Str}
theorem pT {M:Model} {nameV:Value} {Q:Unit->Shared->Prop} (hC:h.get? C=some (excClassObj nm q C N bs bm true sn sub ab col dd k0 k1 k2 k3 k5 newId)) (hcB:(Value.ref C::bm).contains (.type "BaseException")=true)
 (hx:h.get? a=some o) (hc:o.cls=.ref C) (hq:Q () ⟨h,g,d,t,os⟩):wpAny M A (checkBuiltinCall "BaseException.__getattribute__" ⟨[.ref a,nameV],[]⟩) Q E ⟨h,g,d,t,os⟩:=by
 have hk:builtinKind "BaseException.__getattribute__"=some .slot:=by decide +kernel
 have hsplit:splitId "BaseException.__getattribute__"=some ("BaseException","__getattribute__"):=by decide +kernel
 have ha:=F.args_bexc_ga (.ref a) nameV;simp only[checkBuiltinCall,hk,hsplit];refine zC0 ?_
 . unfold isInstance
   repeat (first | (with_reducible refine wpAny_loadPart_at hx ?_;rw[hc]) | (with_reducible refine wpAny_isSubtype_exc hC ?_;rw[hcB]) | wp_step)
   exact hq
theorem sP{tk:Tok}{Q:Fin->Shared->Prop}(hC:h.get? C=some (excClassObj nm q C N bs bm true sn sub ab col dd k0 k1 k2 k3 k5 newId))(hL:PySem.W.Looks (model prog w) h (typeLookup (.ref C) name) none)
 (hx:h.get? a=some o) (hc:o.cls=.ref C) (hdx:o.dict=some dx) (hnc:∀c,o.data≠.cls c) (hns:h.Ns dx mA) (hv:mA name=some v) (hq:Q (.done (.ret v)) ⟨h,g,d,t,os⟩) :
 wpAny (model prog w) A (Builtin.«object.__getattribute__» ⟨[.ref a,.str name tk],[]⟩) Q E ⟨h,g,d,t,os⟩:=by
 have hL':∀{A':Around}{E':Value->Shared->Prop}{Q':Option Value->Shared->Prop}{t':Nat},Q' none ⟨h,g,d,t',os⟩->wpAny (model prog w) A' (typeLookup (.ref C) name) Q' E' ⟨h,g,d,t',os⟩:=fun q'=>hL _ _ _ _ (fun _ _ e=>e) q'
 unfold Builtin.«object.__getattribute__»
 repeat (first | (with_reducible refine wpAny_loadPart_at hx ?_;rw[hc]) | (with_reducible refine hL' ?_) | wp_step)
 split
 . rename_i c hcd;exact absurd hcd (hnc c)
 . repeat (first | (with_reducible refine wpAny_loadPart_at hx ?_;rw[hc]) | wp_step)
   rw[hdx]
   repeat (first | (with_reducible refine wpAny_nsGet hns ?_;rw[hv]) | wp_step)
   exact hq
end
section
variable {prog:Program} {w:World} {A:Around} {E:Value->Shared->Prop} {h:Heap} {g:Array GenState} {d:Drawn} {t:Nat} {os:OsState} {a dx:Addr} {o:Obj} {v:Value}
 {nm q:Str} {C N:Addr} {bs bm:List Value} {sn:List Str} {sub:List Value} {ab:Bool} {col:Option Bool} {dd:Option Addr} {k0 k1 k2 k3 k5:Option Value} {newId:String} {mA:Str->Option Value} {name:Str}
theorem AN {tk:Tok} {fill expr:Bool} {Q:Value->Shared->Prop} (hC:h.get? C=some (excClassObj nm q C N bs bm true sn sub ab col dd k0 k1 k2 k3 k5 newId)) (hcB:(Value.ref C::bm).contains (.type "BaseException")=true)
 (hG:PySem.W.Looks (model prog w) h (typeLookup (.ref C) "__getattribute__") (some (.builtin "BaseException.__getattribute__"))) (hA:PySem.W.Looks (model prog w) h (typeLookup (.ref C) "__getattr__") none) (hL:PySem.W.Looks (model prog w) h (typeLookup (.ref C) name) none)
 (hx:h.get? a=some o) (hc:o.cls=.ref C) (hdx:o.dict=some dx) (hnc:∀c,o.data≠.cls c) (hns:h.Ns dx mA) (hv:mA name=some v) (hh:W.handedIn v=true) (hq:Q v ⟨h,g,d,t,os⟩) :
 wpAny (model prog w) A (getAttrBy (.ref a) (.str name tk) fill expr) Q E ⟨h,g,d,t,os⟩:=by
 have FB:=F.attrBase_ValueError;have f3:=FB.ga.bind (.ref a);have hx0:(expr&&onTheHeap (Value.builtin "BaseException.__getattribute__"))=false:=by cases expr <;> rfl
 have hx2:(Value.builtin "BaseException.__getattribute__"==Value.builtin "object.__getattribute__")=false:=by decide +kernel
 have hx1:(onTheHeap (Value.ref C)&&Value.builtin "BaseException.__getattribute__"==Value.builtin "object.__getattribute__")=false:=by rw[hx2];rfl
 have hG':∀{A':Around} {E':Value->Shared->Prop} {Q':Option Value->Shared->Prop} {t':Nat},Q' (some (.builtin "BaseException.__getattribute__")) ⟨h,g,d,t',os⟩->wpAny (model prog w) A' (typeLookup (.ref C) "__getattribute__") Q' E' ⟨h,g,d,t',os⟩:=fun q'=>hG _ _ _ _ (fun _ _ e=>e) q'
 have hA':∀{A':Around} {E':Value->Shared->Prop} {Q':Option Value->Shared->Prop} {t':Nat},Q' none ⟨h,g,d,t',os⟩->wpAny (model prog w) A' (typeLookup (.ref C) "__getattr__") Q' E' ⟨h,g,d,t',os⟩:=fun q'=>hA _ _ _ _ (fun _ _ e=>e) q'
 repeat (any_goals (first | assumption | (with_reducible refine wpAny_loadPart_at hx ?_;rw[hc]) | with_reducible refine hG' ?_ | with_reducible refine hA' ?_ | wp_step))
 refine codeAny_call_builtin FB.ga.plain F.entry_bexc_ga (pT hC hcB hx hc (sP hC hL hx hc hdx hnc hns hv ?_));show wpAny _ _ (handedOut v) _ _ _;rw[W.handedOut_of hh];exact zH0 hq
end
section
variable {prog:Program} {w:World} {A:Around} {E:Value->Shared->Prop} {h:Heap} {g:Array GenState} {d:Drawn} {t:Nat} {os:OsState} {a:Addr} {o:Obj}
 {nm q:Str} {C N:Addr} {bs bm:List Value} {sn:List Str} {sub:List Value} {ab:Bool} {col:Option Bool} {dd:Option Addr} {k0 k1 k2 k3 k5:Option Value} {newId:String}
theorem vy {R:Result->Shared->Prop} (hC:h.get? C=some (excClassObj nm q C N bs bm true sn sub ab col dd k0 k1 k2 k3 k5 newId)) (hcO:(Value.ref C::bm).contains (.type "object")=true)
 (hx:h.get? a=some o) (hc:o.cls=.ref C) (hq:R (.ok (.ret (.ref C))) ⟨h,g,d,t,os⟩) :
 codeAny (model prog w) A (.call (.builtin "getset_descriptor.__get__") ⟨[.builtin "object.__class__",.ref a,.ref C],[]⟩) R ⟨h,g,d,t,os⟩:=by
 have hT5:(⟨h,g,d,t,os⟩:Shared).TypeIs (.builtin "object.__class__") "getset_descriptor":=F.typeOf_object_class;have hcB:(Value.ref C::bm).contains (.type (".".intercalate ("object.__class__".cutAt '.').dropLast))=true:=by rw[F.owner_object_class];exact hcO
 refine codeAny_call_builtin F.slot_gs_get.plain F.entry_gs_get (F.slot_gs_get.check _ _ _ _ _ _ _ _ hT5 (F.args_gs_get _ _ _) ?_)
 repeat (any_goals (first | assumption | (with_reducible refine wpAny_loadPart_at hx ?_;rw[hc]) | (with_reducible refine wpAny_isSubtype_exc hC ?_;rw[hcB]) | wp_step))
 refine⟨Code.quiet_builtin _ (by decide +kernel),codeAny_builtin F.entry_object_class ?_⟩
 repeat (any_goals (first | assumption | (with_reducible refine wpAny_loadPart_at hx ?_;rw[hc]) | wp_step))
theorem re {tk:Tok} {Q:Fin->Shared->Prop} (hC:h.get? C=some (excClassObj nm q C N bs bm true sn sub ab col dd k0 k1 k2 k3 k5 newId)) (hcO:(Value.ref C::bm).contains (.type "object")=true)
 (hK:PySem.W.Looks (model prog w) h (typeLookup (.ref C) "__class__") (some (.builtin "object.__class__"))) (hx:h.get? a=some o) (hc:o.cls=.ref C) (hq:Q (.done (.ret (.ref C))) ⟨h,g,d,t,os⟩) :
 wpAny (model prog w) A (Builtin.«object.__getattribute__» ⟨[.ref a,.str "__class__" tk],[]⟩) Q E ⟨h,g,d,t,os⟩:=by
 have hT5:(⟨h,g,d,t,os⟩:Shared).TypeIs (.builtin "object.__class__") "getset_descriptor":=F.typeOf_object_class;have f5:=F.typeOf_object_class;have f6:=F.slot_gs_get.lookup;have f7:=F.slot_gs_set.lookup;have hK':∀{A':Around} {E':Value->Shared->Prop} {Q':Option Value->Shared->Prop} {t':Nat},Q' (some (.builtin "object.__class__")) ⟨h,g,d,t',os⟩->wpAny (model prog w) A' (typeLookup (.ref C) "__class__") Q' E' ⟨h,g,d,t',os⟩:=fun q'=>hK _ _ _ _ (fun _ _ e=>e) q'
 repeat (any_goals (first | assumption | (with_reducible refine wpAny_loadPart_at hx ?_;rw[hc]) | with_reducible refine hK' ?_ | wp_step))
 refine vy hC hcO hx hc ?_
 repeat (any_goals (first | assumption | wp_step))
theorem yA {tk:Tok} {Q:Value->Shared->Prop} (hC:h.get? C=some (excClassObj nm q C N bs bm true sn sub ab col dd k0 k1 k2 k3 k5 newId)) (hcB:(Value.ref C::bm).contains (.type "BaseException")=true) (hcO:(Value.ref C::bm).contains (.type "object")=true)
 (hG:PySem.W.Looks (model prog w) h (typeLookup (.ref C) "__getattribute__") (some (.builtin "BaseException.__getattribute__"))) (hA:PySem.W.Looks (model prog w) h (typeLookup (.ref C) "__getattr__") none)
 (hK:PySem.W.Looks (model prog w) h (typeLookup (.ref C) "__class__") (some (.builtin "object.__class__"))) (hx:h.get? a=some o) (hc:o.cls=.ref C) (hq:Q (.ref C) ⟨h,g,d,t,os⟩) :
 wpAny (model prog w) A (getAttrBy (.ref a) (.str "__class__" tk) false) Q E ⟨h,g,d,t,os⟩:=by
 have FB:=F.attrBase_ValueError;have f3:=FB.ga.bind (.ref a);have hx2:(Value.builtin "BaseException.__getattribute__"==Value.builtin "object.__getattribute__")=false:=by decide +kernel
 have hx1:(onTheHeap (Value.ref C)&&Value.builtin "BaseException.__getattribute__"==Value.builtin "object.__getattribute__")=false:=by rw[hx2];rfl
 have hG':∀{A':Around} {E':Value->Shared->Prop} {Q':Option Value->Shared->Prop} {t':Nat},Q' (some (.builtin "BaseException.__getattribute__")) ⟨h,g,d,t',os⟩->wpAny (model prog w) A' (typeLookup (.ref C) "__getattribute__") Q' E' ⟨h,g,d,t',os⟩:=fun q'=>hG _ _ _ _ (fun _ _ e=>e) q'
 have hA':∀{A':Around} {E':Value->Shared->Prop} {Q':Option Value->Shared->Prop} {t':Nat},Q' none ⟨h,g,d,t',os⟩->wpAny (model prog w) A' (typeLookup (.ref C) "__getattr__") Q' E' ⟨h,g,d,t',os⟩:=fun q'=>hA _ _ _ _ (fun _ _ e=>e) q'
 repeat (any_goals (first | assumption | (with_reducible refine wpAny_loadPart_at hx ?_;rw[hc]) | with_reducible refine hG' ?_ | with_reducible refine hA' ?_ | wp_step))
 refine codeAny_call_builtin FB.ga.plain F.entry_bexc_ga (pT hC hcB hx hc (re hC hcO hK hx hc ?_))
 repeat (any_goals (first | assumption | wp_step))
theorem tI {Q:Option Value->Shared->Prop} (hC:h.get? C=some (excClassObj nm q C N bs bm true sn sub ab col dd k0 k1 k2 k3 k5 newId)) (hcB:(Value.ref C::bm).contains (.type "BaseException")=true) (hcO:(Value.ref C::bm).contains (.type "object")=true)
 (hG:PySem.W.Looks (model prog w) h (typeLookup (.ref C) "__getattribute__") (some (.builtin "BaseException.__getattribute__"))) (hA:PySem.W.Looks (model prog w) h (typeLookup (.ref C) "__getattr__") none)
 (hK:PySem.W.Looks (model prog w) h (typeLookup (.ref C) "__class__") (some (.builtin "object.__class__"))) (hx:h.get? a=some o) (hc:o.cls=.ref C) (hq:Q (some (.ref C)) ⟨h,g,d,t+1,os⟩) :
 wpAny (model prog w) A (getAttr? (.ref a) "__class__") Q E ⟨h,g,d,t,os⟩:=by
 unfold getAttr? getAttrBy?
 repeat (any_goals (first | assumption | with_reducible apply yA hC hcB hcO hG hA hK hx hc | wp_step))
end
end L2
namespace L2
open PySem PySem.Spec PyProof.Rows
abbrev bmV:List Value:=[.type "ValueError",.type "Exception",.type "BaseException",.type "object"]
structure ClsX(K:W.Frag)(C CA:Addr):Prop where
 obj:∃(nm q:Str) (N:Addr) (bs:List Value) (sn:List Str) (sub:List Value) (ab:Bool) (col:Option Bool) (dd:Option Addr) (k0 k1 k2 k3 k5:Option Value),K.lookup C=some (excClassObj nm q C N bs (.ref CA::bmV) true sn sub ab col dd k0 k1 k2 k3 k5 "ValueError.__new__")
 set:W.findIn K (.ref C) "__setattr__"=some (some (.builtin "object.__setattr__"))
 ga:W.findIn K (.ref C) "__getattribute__"=some (some (.builtin "BaseException.__getattribute__"))
 gt:W.findIn K (.ref C) "__getattr__"=some none
 cl:W.findIn K (.ref C) "__class__"=some (some (.builtin "object.__class__"))
section
variable {C CA:Addr}
theorem EW:(Value.ref C::.ref CA::bmV).contains (.type "ValueError")=true:=by simp [bmV]
theorem rj:(Value.ref C::.ref CA::bmV).contains (.type "BaseException")=true:=by simp [bmV]
theorem By:(Value.ref C::.ref CA::bmV).contains (.type "object")=true:=by simp [bmV]
theorem CT:(Value.ref C::.ref CA::bmV).contains (.type "AttributeError")=false:=by
 rw[List.contains_cons,List.contains_cons];rfl
theorem CS:(Value.ref C::.ref CA::bmV).contains (.type "NameError")=false:=by
 rw[List.contains_cons,List.contains_cons];rfl
theorem Eg (self:Value):refuseLoop self "__setattr__" (.ref C::.ref CA::bmV)=pure ():=by
 rw[refuseLoop_ref,refuseLoop_ref];exact PySem.F.store_ValueError.passes self
theorem ClsX.mk' {K:W.Frag} {f:Addr} (c:ClsX K C CA) (init:W.findIn K (.ref C) "__init__"=some (some (.ref f))) (fn:∃o,K.lookup f=some o/\o.cls=.type "function") (kp:W.keepIn K (.ref C)=true):MkX K C f:=by
 obtain⟨nm,q,N,bs,sn,sub,ab,col,dd,k0,k1,k2,k3,k5,lk⟩:=c.obj;exact⟨⟨nm,q,N,bs,_,_,sn,sub,ab,col,dd,k0,k1,k2,k3,k5,lk,EW,CT,CS⟩,init,fn,kp⟩
end
def XAt(H:Hp)(e C dx:Addr):Prop:=H e=some (rA C e dx)∨H e=some (tT C e dx)
theorem XAt.get{P:Program}{w:World}{H:Hp}{h:Heap}{e C dx:Addr}(x:HOk P w H h)(he:XAt H e C dx):∃vs,h.get? e=some (eF C (some dx) vs):=by
 rcases he with he | he
 . obtain⟨o,ho,a,rfl⟩:=ObP.get x he;exact⟨_,ho⟩
 . obtain⟨o,ho,vs,rfl,_⟩:=ObP.get x he;exact⟨_,ho⟩
section
variable {X:Cx} {pins:List (Addr×Obj)} {σ:St} {H:Hp} {s:Shared} {h':Heap} {e dx:Addr} {φ:Heap->Prop} {o1 o2:HO}
theorem Inv.ext2{t':Nat}(I:Inv X pins σ H s)(he:H e=some (.ext φ))(hp:s.heap.objs.size<=dx)(k:∀b u,b≠e->s.heap.get? b=some u->h'.get? b=some u)(heo:∃u,h'.get? e=some u)
 (n1:ObjOk X.prog X.w (upd (upd H dx o1) e o2) h' dx o1) (n2:ObjOk X.prog X.w (upd (upd H dx o1) e o2) h' e o2):Inv X pins σ (upd (upd H dx o1) e o2) { s with heap:=h',toks:=t' }:=by
 have hdn:H dx=none:=I.hok.fresh hp;have ne:∀b u,H b=some u->(∀ ψ,u≠.ext ψ)->b≠e/\b≠dx:=fun b u hb hu=>⟨fun z=>by rw[z,he]at hb;cases hb;exact hu _ rfl,aN hb hdn⟩
 have old:∀b,b≠e->b≠dx->upd (upd H dx o1) e o2 b=H b:=fun b h1 h2=>by rw[aq h1,aq h2]
 have fr:∀b u,s.heap.get? b=some u->b≠dx:=fun b u q=>zQ0 (qE0 (zK0 q) hp)
 have nn:∀b,H b=none->b≠e:=fun b n z=>by rw[z,he]at n;cases n
 refine I.un ⟨fun b u q n _ _=>k b u (nn b n) q,fun b u q n _ _=>⟨u.slots,k b u (nn b n) q⟩,fun b u q n _=>?_,fun b u q _=>?_,fun b xs q=>?_,fun b u xs q=>?_,fun b ps q=>⟨#[],?_⟩⟩ fun b u q=>?_
 . rw[old b (nn b n) (fr b u q)];exact n
 . by_cases hb:b=e
   . rw[hb];exact heo
   . exact⟨u,k b u hb q⟩
 . obtain⟨h1,h2⟩:=ne b _ q (fun ψ z=>by cases z);rw[old b h1 h2];exact q
 . obtain⟨h1,h2⟩:=ne b _ q (fun ψ z=>by cases z);rw[old b h1 h2];exact q
 . obtain ⟨h1,h2⟩:=ne b _ q (fun ψ z=>by cases z);rw[old b h1 h2,q]
   simp
 . by_cases hb:b=e
   . subst hb;rw[am]at q;cases q;exact n2
   . by_cases hb2:b=dx
     . subst hb2;rw[aq hb,am]at q;cases q;exact n1
     . rw [old b hb hb2]at q;refine(I.hok b u q).stay (fun c v hc r=>k c v ?_ r) (fun c r=>?_) fun c xs r=>?_
       . rcases hc with rfl | hc
         . exact hb
         . exact(ne c _ hc (fun ψ z=>by cases z)).1
       . obtain⟨h1,h2⟩:=ne c _ r (fun ψ z=>by cases z);rw[old c h1 h2];exact r
       . obtain⟨h1,h2⟩:=ne c _ r (fun ψ z=>by cases z);rw[old c h1 h2];exact r
end
section
variable {X:Cx} {o e value:Expr} {f:Str} {pos pos' tpos:Pos} {ta tv:TE}
theorem Cg(ha:PE X o ta)(hv:PE X value tv)(hs:swapsWith value (some (.Attribute o f pos')) pos.line X.env=pure false) :
 PS X (.Assign [.Attribute o f pos'] value pos) (fun D σ H=>tv σ H fun y H1=>ta σ H1 fun x H2=>∃e C CA,x=.ref e/\H2 e=some (mr C e)/\ClsX X.K C CA/\NoAttr X.K C f/\∀dx,H2 dx=none->dx≠e->D.nx σ (upd (upd H2 dx (.xd [(f,y)])) e (rA C e dx))):=by
 intro pins s σ H D I h;refine plainObj_wpAny_Assign_Attribute (thn (hv pins s σ H _ I h) fun u s1 ⟨y,H1,I1,ry,q⟩=>thn (ha pins s1 σ H1 _ I1 q) fun ov s2 ⟨x,H2,I2,rx,e,C,CA,ex,he,c,n,q2⟩=>?_) hs;subst ex;obtain rfl:ov=Value.ref e:=rx;obtain⟨nm,qn,N,bs,sn,sub,ab,col,dd,k0,k1,k2,k3,k5,lk⟩:=c.obj;obtain⟨ob,ho,a,rfl⟩:=ObP.get I2.hok he;obtain⟨hh,g,d,tk,os⟩:=s2;refine rJ PySem.F.store_ValueError By (Eg _) (I2.kIn _ _ lk) (W.looks_findIn I2.kIn c.set) (W.looks_findIn I2.kIn n) ho rfl rfl (fun _ z=>by cases z) fun h' tk' i1 i2 i3=>?_
 have hd:H2 hh.objs.size=none:=I2.hok.fresh (zF0 _);have hde:hh.objs.size≠e:=fun z=>by rw[z,he]at hd;cases hd
 refine⟨σ,_,I2.ext2 (t':=tk') (dx:=hh.objs.size) (e:=e) (o1:=.xd [(f,y)]) (o2:=rA C e hh.objs.size) he (zF0 _) (fun b u hb q=>i3 b u hb q) ⟨_,i1⟩ ⟨_,i2,fun z=>?_⟩ (ObP.ok i1 ⟨a,rfl⟩),q2 _ hd hde⟩
 by_cases hz:z=f
 . subst hz;rw[zB0 rfl,show([(z,y)]:List (Str×V)).lookup z=some y by simp [List.lookup]];exact ry
 . rw [zA0 hz]
   have:([(f,y)]:List (Str×V)).lookup z=none:=by
    have hb:(z==f)=false:=beq_eq_false_iff_ne.mpr hz;simp only[List.lookup,hb]
   rw[this];trivial
theorem qJ(he:PE X e ta)(hb:attributeBase e f X.env (eval e X.env)=eval e X.env):PE X (.Attribute e f pos) (fun σ H Q=>ta σ H fun x H1=>∃a C CA dx fs v,x=.ref a/\XAt H1 a C dx/\H1 dx=some (.xd fs)/\fs.lookup f=some v/\ClsX X.K C CA/\NoAttr X.K C f/\Q v H1):=by
 intro pins s σ H Q I h;refine wR hb (thn (he pins s σ H _ I h) fun u s1 ⟨x,H1,I1,rx,a,C,CA,dx,fs,v,ex,ea,ed,l,c,n,q⟩=>?_);subst ex;obtain rfl:u=Value.ref a:=rx;obtain⟨nm,qn,N,bs,sn,sub,ab,col,dd,k0,k1,k2,k3,k5,lk⟩:=c.obj;obtain⟨vs,ho⟩:=XAt.get I1.hok ea;obtain⟨mA,hn,r⟩:=I1.hok dx _ ed;obtain⟨u,hu,ru⟩:=RelO.some_of (v:=v) (o:=mA f) (by rw[←l];exact r f);obtain⟨hh,g,d,tk,os⟩:=s1;unfold getAttr;refine zC0 (wpAny_mkText ?_);exact AN (I1.kIn _ _ lk) rj (W.looks_findIn I1.kIn c.ga) (W.looks_findIn I1.kIn c.gt) (W.looks_findIn I1.kIn n) ho rfl rfl (fun _ z=>by cases z) hn.ns hu (pQ ru) ⟨v,H1,I1.tok _,ru,q⟩
end
theorem AT{K:W.Frag}{e C CA dx:Addr}(c:ClsX K C CA):PySem.W.KitX K (.ref e) (.ref C) (fun h=>∃vs,h.get? e=some (eF C (some dx) vs)) where
 ty:=fun M h _ ⟨vs,hx⟩=>(PySem.W.Looks.ld hx).andThen .now
 it:=fun M h X _=>by
  obtain⟨nm,q,N,bs,sn,sub,ab,col,dd,k0,k1,k2,k3,k5,lk⟩:=c.obj;intro A' Q' E' s' k q;unfold isType loadHead;exact zC0 (wpAny_loadPart (k _ _ (X _ _ lk)) (zH0 q))
 ne:=fun h tp dd' its n sl X htp=>by
  obtain⟨nm,q,N,bs,sn,sub,ab,col,dd,k0,k1,k2,k3,k5,lk⟩:=c.obj;refine Bool.eq_false_iff.mpr fun z=>?_
  have e:C=tp:=Value.ref.inj (beq_iff_eq.mp z);subst e;have z:=congrArg Obj.data (zR0 ((X _ _ lk).symm.trans htp));exact Data.noConfusion z
 ca:=fun{prog w A E Q s} X ⟨vs,hx⟩ k=>by
  obtain⟨nm,q,N,bs,sn,sub,ab,col,dd,k0,k1,k2,k3,k5,lk⟩:=c.obj;obtain⟨hh,g,d,tk,os⟩:=s;exact tI (X _ _ lk) rj By (W.looks_findIn X c.ga) (W.looks_findIn X c.gt) (W.looks_findIn X c.cl) hx rfl k
section
variable {X:Cx}
def rIsiX(K:W.Frag):List V->Hp->VK->Prop:=fun xs H Q=>∃e C CA dx c b,xs=[.ref e,c]/\XAt H e C dx/\ClsX K C CA/\
 ((∃D,c=.ref D/\W.kitOne K (.ref C) (.ref D)=some b)∨(∃T,c=.ty T/\W.kitOne K (.ref C) (.type T)=some b)∨∃(tp:Addr)(Ds:List Addr),c=.ref tp/\H tp=some (.tup (Ds.map V.ref))/\W.kitAny K (.ref C) (Ds.map Value.ref)=some b)/\Q (.bl b) H
theorem tZ{cs:List Addr}{us:List Value}(h:Vals (cs.map V.ref) us):us=cs.map Value.ref:=by
 induction cs generalizing us with
 | nil=>cases h;rfl
 | cons a r ih=>
   cases h with
   | cons r1 r2=>
     cases r1;rw[ih r2];rfl
theorem lH:iC X (.builtin "isinstance") (rIsiX X.K):=by
 intro pins s σ H xs us Q I r h;obtain⟨e,C,CA,dx,c,b,rfl,ea,cl,hk,q⟩:=h;cases r with
 | cons r rr=>
   cases rr with
   | cons r' rr=>
     cases rr;cases r;have ho:=XAt.get I.hok ea;have fin:∀tk,EP X pins σ Q (.bool b) { s with toks:=tk }:=fun tk=>⟨.bl b,H,I.tok _,rfl,q⟩
     rcases hk with⟨D,rfl,hk⟩ | ⟨T,rfl,hk⟩ | ⟨tp,Ds,rfl,ht,hk⟩
     . cases r';exact W.kia_one (AT cl) I.kIn ho hk (fun z=>nomatch z) fin
     . cases r';exact W.kia_one (AT cl) I.kIn ho hk (fun z=>nomatch z) fin
     . cases r';obtain⟨_,its,rv,⟨⟨cls,dd,data,sl⟩,h1,h2,n,h3⟩,_⟩:=I.hok tp _ ht;simp only at h2 h3;subst h2 h3
       have:=tZ rv
       subst this;exact W.kia_tup (AT cl) I.kIn ho h1 hk (fun z=>nomatch z) fin
end
section
variable {X:Cx}
def FmV (v:V) (y:Str):Prop:=(∃i:Int,v=.int i/\i.natAbs.log2<1920/\y=toString i)∨v=.str y∨(v=.non/\y="None")
theorem Cn{e:Expr}{te:TE}{pos:Pos}(he:PE X e te):PE X (.FormattedValue e (-1) none pos) (fun σ H Q=>te σ H fun v H1=>∃y,FmV v y/\y.length<=sizeLine/\Q (.str y) H1):=by
 intro pins s σ H Q I h;refine FormattedValue_plain (thn (he pins s σ H _ I h) fun v s1 ⟨x,H1,I1,r1,y,ex,hz,q⟩=>?_);rcases ex with⟨i,rfl,hl,rfl⟩ | rfl | ⟨rfl,rfl⟩
 . obtain⟨t',rfl⟩:=r1;exact formatField_int_small hl ⟨.str (toString i),H1,I1.tok _,⟨_,rfl⟩,q⟩
 . obtain⟨t',rfl⟩:=r1;exact formatField_str (fun t'' tk=>⟨.str y,H1,I1.tok _,⟨_,rfl⟩,q⟩) hz
 . obtain rfl:v=Value.none:=r1;exact PySem.wpAny_formatField_none ⟨.str "None",H1,I1.tok _,⟨_,rfl⟩,q⟩
end
structure FunD(K:W.Frag)(x qual:Str)(st:Stmt)(f:Addr)(fd:FuncData)(dV:Value):Prop where
 ex:∃(oc:Value)(od:Option Addr)(kV doc pm:Value)(an:Option Addr)(cdv ct:Value)(osl:Array (Option Value)),
  fd=W.fnOf x qual (aE st) (aB st) (af st) dV kV doc pm an cdv ct/\K.lookup f=some ⟨oc,od,.func fd,osl⟩/\W.codeIn K cdv qual=true
 kp:W.keepIn K (.ref f)=true
section
variable {P:Program} {w:World} {K:W.Frag} {mg:Str->Option Value} {base:Heap} {dV:Value}
theorem FunD.ok{x qual:Str}{st:Stmt}{f:Addr}{fd:FuncData}{N ps:List Str}{k:Nat}{sp:Sp}(F:FunD K x qual st f fd dV)(S:FnScope N ps (af st))(len:∀vs H Q E,sp vs H Q E->vs.length=ps.length)
 (hbody:∀(cdv:Value)(A:Around)(outer:List Env)(s:Shared)(H:Hp)(vs:List V)(Q:VK)(E:XK),Room k (A.deeper (envOfC qual (af st) s.heap.objs.size f cdv))->sp vs H Q E ->
  ∃t,PSs (jL CX0 P w K mg base N qual (af st) f cdv A outer s H E).nox (aB st) t/\t { nx:=fun _ H'=>Q .non H',rt:=Q } (iG N vs) H):FnOk P w K mg base CX0 (k+1) f fd ps sp:=by
 obtain⟨oc,od,kV,doc,pm,an,cdv,ct,osl,rfl,lk,hcd⟩:=F.ex;refine Bh lk hcd S len fun A outer s H vs Q E hr hsp=>?_
 obtain⟨t,h,q⟩:=hbody cdv A outer s H vs Q E hr hsp;exact⟨t,h.nox,q⟩
theorem wC{x qual:Str}{st:Stmt}{f:Addr}{oc:Value}{od an:Option Addr}{osl:Array (Option Value)}{kV doc pm cdv ct:Value}(l:K.lookup f=some ⟨oc,od,.func (W.fnOf x qual (aE st) (aB st) (af st) dV kV doc pm an cdv ct),osl⟩)
 (c:W.codeIn K cdv qual=true) (k:W.keepIn K (.ref f)=true):FunD K x qual st f (W.fnOf x qual (aE st) (aB st) (af st) dV kV doc pm an cdv ct) dV:=⟨⟨oc,od,kV,doc,pm,an,cdv,ct,osl,rfl,l,c⟩,k⟩
theorem Fun.toD{x qual:Str}{st:Stmt}{f:Addr}{fd:FuncData}(F:Fun K x qual st f fd):FunD K x qual st f fd .none:=⟨F.ex,F.kp⟩
end
section
variable {K:W.Frag} {C D CA:Addr}
theorem ClsX.isCls (d:ClsX K D CA):((W.clsIn K D).isSome&&W.typeIn K (.ref D)==some (.type "type"))=true:=by
 obtain⟨nm,q,N,bs,sn,sub,ab,col,dd,k0,k1,k2,k3,k5,lk⟩:=d.obj;unfold W.clsIn W.typeIn;rw[lk]
 simp
 exact⟨_,lk,rfl⟩
theorem ClsX.sub(c:ClsX K C CA)(b:Value):W.subIn K (.ref C) b=some ((Value.ref C::.ref CA::bmV).contains b):=by
 obtain⟨nm,q,N,bs,sn,sub,ab,col,dd,k0,k1,k2,k3,k5,lk⟩:=c.obj;show W.mroIn K C b=_;unfold W.mroIn W.clsIn;rw[lk];rfl
theorem iu(c:ClsX K C CA)(d:ClsX K D CA)(hA:D≠CA):W.kitOne K (.ref C) (.ref D)=some (D==C):=by
 unfold W.kitOne
 by_cases e:D=C
 . subst e;rw[zB0 (by simp)]
   simp
 . rw [zA0 (by simpa using fun z=>e z.symm)];show(if _ then W.subIn K (.ref C) (.ref D)else none)=_;rw[zB0 d.isCls,c.sub]
   simp [bmV,e,hA]
theorem CI (c:ClsX K C CA):W.kitOne K (.ref C) (.type "ValueError")=some true:=by
 unfold W.kitOne;rw[zA0 (by simp)];show(if W.kitMeta "ValueError"=true then W.subIn K (.ref C) (.type "ValueError")else none)=_;rw[zB0 (by decide +kernel),c.sub]
 simp [bmV]
end
def Ex(H:Hp)(e C:Addr)(f:Str)(v:V):Prop:=∃dx,H e=some (rA C e dx)/\H dx=some (.xd [(f,v)])
def Fly(h:Heap)(e C dx:Addr):Prop:=∃vs,h.get? e=some (eF C (some dx) vs)/\vs.size=6/\vs[2]?=some Value.none/\(vs[1]?=some .none∨∃T oT ts,vs[1]?=some (.ref T)/\T≠e/\h.get? T=some oT/\oT.data=.fields ts/\ts[3]?=some .none)
structure Lft(fs:List Addr)(e:Addr)(h h':Heap):Prop where
 keep:∀b o,h.get? b=some o->b∉fs->b≠e->h'.get? b=some o
 slot:∀b o,h.get? b=some o->b≠e->∃sl,h'.get? b=some { o with slots:=sl }
section
variable {M:Model} {A:Around} {E:Value->Shared->Prop} {s:Shared}
theorem pJ{base:Heap}{env:Env}{outer:List Env}{L e C dx:Addr}{vs:Array Value}{head:Value}{hadNext:Bool}{Q:Unit->Shared->Prop}
 (hfr:A.frames=some (env::outer)) (hl:s.heap.FunFrames base (env::outer)) (hf:env.frame=some L)
 (he:s.heap.get? e=some (eF C (some dx) vs)) (hsz:vs.size=6) (hs2:vs[2]?=some Value.none)
 (h:∀h',Lft ((env::outer).filterMap (·.frame)) e s.heap h'->Fly h' e C dx->Q () { s with heap:=h' }) :
 wpAny M A (do let a ←frameOf env;let pl ←entryPlaceOf L hadNext;let b ←EntryCells.newEntry head a .none (rawInt L) .none pl;setField (.ref e) 1 b) (fun _ s'=>wpAny M A (setFlight (.ref e) none) Q E s') E s:=by
 have hd:(eF C (some dx) vs).data=.fields vs:=rfl;have hs1:1<vs.size:=by omega
 have hene:e∉(env::outer).filterMap (·.frame):=fun hm=>by
  obtain⟨_,o,ho,hnf⟩:=hl.mem hm;rw[he]at ho;injection ho with ho;subst ho;exact hnf vs hd
 refine zC0 (wpAny_frameOf_fun hfr hl hf fun h₁ hs₁=>?_);refine zC0 (wpAny_entryPlaceOf fun pl hpl=>?_);unfold EntryCells.newEntry newFields;refine zC0 (wpAny_newObj_type ?_ (hpl.sizeOk5 _ _ _ _ _));have he₁:h₁.get? e=some (eF C (some dx) vs):=(hs₁.2.1 e hene).trans he;have he₂:=zJ0 (h:=h₁) { cls:=.type "traceback",dict:=none,data:=.fields ([head,.ref L,.none,rawInt L,.none]++(if pl.isEmpty then List.replicate 6 Value.none else pl)).toArray } he₁;refine wpAny_setField he₂ hd hs1 ?_;have hTe:h₁.objs.size≠e:=Nat.ne_of_gt (zK0 he₁);have hd₃:=Obj.data_mapFields hd (·.setIfInBounds 1 (Value.ref h₁.objs.size));have he₃:=Heap.get?_update_self (Obj.mapFields (·.setIfInBounds 1 (Value.ref h₁.objs.size))) he₂ (Obj.isFreed_of_fields hd₃);have hT₃:=(Heap.get?_update_other (h₁.push { cls:=.type "traceback",dict:=none,data:=.fields ([head,.ref L,.none,rawInt L,.none]++(if pl.isEmpty then List.replicate 6 Value.none else pl)).toArray })
  (Obj.mapFields (·.setIfInBounds 1 (Value.ref h₁.objs.size))) (Ne.symm hTe)).trans (zV0 h₁ rfl)
 unfold setFlight;refine zC0 (wpAny_field he₃ hd₃ (x:=.ref h₁.objs.size) (by simp [hs1]) ?_);rw[zB0 (show(Value.ref h₁.objs.size != Value.none)=true from by simp)];refine wpAny_setField hT₃ rfl (by simp only[zO0,zN0,qC0,List.length_nil] <;> omega) ?_;have keep:∀b o,b≠e->h₁.get? b=some o ->
  (((h₁.push { cls:=.type "traceback",dict:=none,data:=.fields ([head,.ref L,.none,rawInt L,.none]++(if pl.isEmpty then List.replicate 6 Value.none else pl)).toArray }).update e (Obj.mapFields (·.setIfInBounds 1 (Value.ref h₁.objs.size)))).update h₁.objs.size
    (Obj.mapFields (·.setIfInBounds 3 ((none:Option Addr).elim Value.none fun f=>rawInt f)))).get? b=some o:=fun b o hbe hb=>by
  have hbT:h₁.objs.size≠b:=Nat.ne_of_gt (zK0 hb);rw[Heap.get?_update_other _ _ hbT,Heap.get?_update_other _ _ (Ne.symm hbe)];exact zJ0 _ hb
 refine h _ ⟨fun b o hb hn hbe=>keep b o hbe ((hs₁.2.1 b hn).trans hb),fun b o hb hbe=>?_⟩ ⟨vs.setIfInBounds 1 (.ref h₁.objs.size),?_,?_,?_,.inr ⟨h₁.objs.size,_,_,?_,hTe,Heap.get?_update_self _ hT₃ (Obj.isFreed_of_fields (Obj.data_mapFields rfl _)),Obj.data_mapFields rfl _,?_⟩⟩
 . obtain⟨sl,hs⟩:=hs₁.2.2 b o hb;exact⟨sl,keep b _ hbe hs⟩
 . rw[Heap.get?_update_other _ _ hTe];exact he₃
 . simp [hsz]
 . rw[Array.getElem?_setIfInBounds_ne (by decide)];exact hs2
 . simp [hs1]
 . first | (simp;done) | (rcases hpl with rfl | ⟨_,_,_,_,_,_,_,rfl⟩ <;> simp)
theorem rV{ts:Array Value}{i:Nat}{v:Value}(h:ts[i]?=some v):ts.setIfInBounds i v=ts:=by
 obtain⟨hi,e⟩:=Array.getElem?_eq_some_iff.mp h;refine Array.ext (by simp) fun j h1 h2=>?_
 rw[Array.getElem_setIfInBounds]
 . by_cases hj:i=j
   . subst hj;rw[zB0 rfl,←e]
   . rw[zA0 hj]
theorem sG{base:Heap}{env:Env}{outer:List Env}{L e C dx:Addr}{Q:Unit->Shared->Prop}
 (hfr:A.frames=some (env::outer)) (hl:s.heap.FunFrames base (env::outer)) (hf:env.frame=some L) (he:Fly s.heap e C dx)
 (h:∀h',Lft ((env::outer).filterMap (·.frame)) e s.heap h'->Fly h' e C dx->Q () { s with heap:=h' }) :
 wpAny M A (noteFrame (.ref e) env) (fun _ s'=>wpAny M A (setFlight (.ref e) none) Q E s') E s:=by
 obtain⟨vs,he,hz,hz2,hv⟩:=he;have hd:(eF C (some dx) vs).data=.fields vs:=rfl;unfold noteFrame;simp only[hf];rcases hv with h1 | ⟨T,oT,ts,h1,hTe,hT,hdT,h3⟩
 . refine zC0 (wpAny_field he hd h1 ?_);rw[zA0 (by decide)];exact pJ hfr hl hf he hz hz2 h
 . refine zC0 (wpAny_field he hd h1 ?_);rw[zB0 (show(Value.ref T != Value.none)=true from by simp)];refine zC0 (wpAny_field hT hdT h3 ?_);rw[zA0 (show ¬ ((Value.none==rawInt L)=true)from by simp [rawInt])];refine zC0 (wpAny_setField hT hdT (Array.getElem?_eq_some_iff.mp h3).1 ?_);have id:∀b o,s.heap.get? b=some o->(s.heap.update T (Obj.mapFields (·.setIfInBounds 3 Value.none))).get? b=some o:=fun b o hb=>by
    by_cases hbT:b=T
    . subst hbT;rw[hT]at hb;cases hb;have hm:Obj.mapFields (·.setIfInBounds 3 Value.none) oT=oT:=by
       obtain⟨c,d,dt,sl⟩:=oT;cases hdT;show({ cls:=c,dict:=d,data:=.fields (ts.setIfInBounds 3 Value.none),slots:=sl }:Obj)=_;rw[rV h3]
      have:=Heap.get?_update_self (Obj.mapFields (·.setIfInBounds 3 Value.none)) hT (by rw[hm];exact(Heap.get?_some_iff.mp hT).2)
      rw[this,hm]
    . rw[Heap.get?_update_other _ _ (Ne.symm hbT)];exact hb
   refine pJ (s:={ s with heap:=_ }) hfr (hl.of_keeps fun b o hb _=>⟨o,id b o hb,rfl⟩) hf (id _ _ he) hz hz2 fun h' x1 x2=>h h' ⟨fun b o hb hn hbe=>x1.keep b o (id b o hb) hn hbe,fun b o hb hbe=>x1.slot b o (id b o hb) hbe⟩ x2
theorem yd{base:Heap}{env:Env}{outer:List Env}{L e C dx:Addr}{Q:Unit->Shared->Prop}
 (hfr:A.frames=some (env::outer)) (hl:s.heap.FunFrames base (env::outer)) (hf:env.frame=some L) (he:Fly s.heap e C dx)
 (h:∀h',Lft ((env::outer).filterMap (·.frame)) e s.heap h'->Fly h' e C dx->Q () { s with heap:=h' }):wpAny M A (leaving env (.ref e)) Q E s:=by
 unfold leaving;exact zC0 (sG hfr hl hf he h)
theorem vn{e C dx:Addr}{Q:Unit->Shared->Prop}(he:Fly s.heap e C dx)(h:∀h',(∀b o,s.heap.get? b=some o->h'.get? b=some o)->Q () { s with heap:=h' }):wpAny M A (setFlight (.ref e) none) Q E s:=by
 obtain⟨vs,he,hz,hz2,hv⟩:=he;have hd:(eF C (some dx) vs).data=.fields vs:=rfl;unfold setFlight;rcases hv with h1 | ⟨T,oT,ts,h1,hTe,hT,hdT,h3⟩
 . refine zC0 (wpAny_field he hd h1 ?_);rw[zA0 (by decide)];exact zH0 (h s.heap fun _ _ q=>q)
 . refine zC0 (wpAny_field he hd h1 ?_);rw[zB0 (show(Value.ref T != Value.none)=true from by simp)];refine wpAny_setField hT hdT (Array.getElem?_eq_some_iff.mp h3).1 (h _ fun b o hb=>?_);show(s.heap.update T (Obj.mapFields (·.setIfInBounds 3 Value.none))).get? b=some o
   by_cases hbT:b=T
   . subst hbT;rw[hT]at hb;cases hb;have hm:Obj.mapFields (·.setIfInBounds 3 Value.none) oT=oT:=by
      obtain⟨c,d,dt,sl⟩:=oT;cases hdT;show({ cls:=c,dict:=d,data:=.fields (ts.setIfInBounds 3 Value.none),slots:=sl }:Obj)=_;rw[rV h3]
     have:=Heap.get?_update_self (Obj.mapFields (·.setIfInBounds 3 Value.none)) hT (by rw[hm];exact(Heap.get?_some_iff.mp hT).2)
     rw[this,hm]
   . rw[Heap.get?_update_other _ _ (Ne.symm hbT)];exact hb
end
section
variable {P:Program} {w:World} {H:Hp} {h h':Heap} {fs:List Addr} {e C dx:Addr} {φ:Heap->Prop}
theorem Fly.ofD(x:HOk P w H h)(he:H e=some (rA C e dx)):Fly h e C dx:=by
 obtain⟨o,ho,a,rfl⟩:=ObP.get x he;exact⟨_,ho,rfl,rfl,.inl rfl⟩
theorem AO(l:Lft fs e h h')(he:H e=some (.ext φ))(fl:Fly h' e C dx):Un fs [] H (upd H e (tT C e dx)) h h':=by
 have nn:∀b,H b=none->b≠e:=fun b n z=>by rw[z,he]at n;cases n
 have ne:∀b u,H b=some u->(∀ ψ,u≠.ext ψ)->b≠e:=fun b u hb hu z=>by rw[z,he]at hb;cases hb;exact hu _ rfl
 refine⟨fun b o q n hb _=>l.keep b o q hb (nn b n),fun b o q n _ _=>l.slot b o q (nn b n),fun b o _ n _=>by rw[aq (nn b n)];exact n,fun b o q _=>?_,fun b xs q=>?_,fun b o u q=>?_,fun b ps q=>⟨#[],?_⟩⟩
 . by_cases hb:b=e
   . obtain⟨vs,h1,_⟩:=fl;exact⟨_,by rw[hb];exact h1⟩
   . obtain⟨sl,h1⟩:=l.slot b o q hb;exact⟨_,h1⟩
 . rw[aq (ne b _ q fun ψ z=>by cases z)];exact q
 . rw[aq (ne b _ q fun ψ z=>by cases z)];exact q
 . rw [aq (ne b _ q fun ψ z=>by cases z),q]
   simp
theorem wy(x:HOk P w H h)(l:Lft fs e h h')(hfs:∀b∈fs,H b=none)(he:H e=some (.ext φ))(fl:Fly h' e C dx):HOk P w (upd H e (tT C e dx)) h':=by
 have ne:∀b u,H b=some u->(∀ ψ,u≠.ext ψ)->b≠e:=fun b u hb hu z=>by rw[z,he]at hb;cases hb;exact hu _ rfl
 have nf:∀b u,H b=some u->b∉fs:=fun b u hb z=>by rw[hfs b z]at hb;cases hb
 intro b u q
 by_cases hb:b=e
 . subst hb;rw[am]at q;cases q;obtain⟨vs,h1,h2,h3,_⟩:=fl;exact ObP.ok h1 ⟨vs,rfl,h2,h3⟩
 . rw [aq hb]at q;refine(x b u q).stay (fun c v hc r=>?_) (fun c r=>?_) fun c xs r=>?_
   . rcases hc with rfl | hc
     . exact l.keep _ _ r (nf _ _ q) hb
     . exact l.keep _ _ r (nf _ _ hc) (ne _ _ hc fun ψ z=>by cases z)
   . rw[aq (ne _ _ r fun ψ z=>by cases z)];exact r
   . rw[aq (ne _ _ r fun ψ z=>by cases z)];exact r
end
def CXr(P:Program)(w:World):CXT:=fun outer H s E e s'=>∃e0 C dx H',e=.ref e0/\s'.os=s.os/\AllBare s'.gens/\Un (frs outer) [] H H' s.heap s'.heap/\HOk P w H' s'.heap/\H' e0=some (tT C e0 dx)/\Fly s'.heap e0 C dx/\E (.ref e0) (some dx) H'
section
variable {P:Program} {w:World} {K:W.Frag} {mg:Str->Option Value} {base:Heap} {N:List Str} {qual:Str} {scope:Scope} {f:Addr} {cd:Value} {A:Around} {outer:List Env} {s s1:Shared} {H H1:Hp} {E:XK} {pins:List (Addr×Obj)} {σ:St} {e C dx:Addr} {φ:Heap->Prop}
theorem DB(I:Inv (jL (CXr P w) P w K mg base N qual scope f cd A outer s H E) pins σ H1 s1)(he:H1 e=some (.ext φ))(fl:Fly s1.heap e C dx)(q:E (.ref e) (some dx) (upd H1 e (tT C e dx))) :
 (jL (CXr P w) P w K mg base N qual scope f cd A outer s H E).xe (.ref e) s1:=by
 show wpAny _ _ (leaving _ (.ref e)) _ _ s1;refine yd (base:=base) I.ok.frames I.stack rfl fl fun h' l fl'=>?_
 have u1:=AO (H:=H1) l he fl';have k1:=wy I.hok l I.stkFree he fl';have b0:Un (frs outer) [] H H1 s.heap s1.heap:=I.base;have above:s.heap.objs.size<=(jL (CXr P w) P w K mg base N qual scope f cd A outer s H E).env.locals:=I.ok.above;have sub:∀b o,s.heap.get? b=some o->b∉frs outer->b∉frs (jL (CXr P w) P w K mg base N qual scope f cd A outer s H E).stack:=fun b o q hb z=>by
  rcases qD0 (I.stkSub b z)with z | z
  . have:=zK0 q
    rw[z]at this;exact absurd above (Nat.not_le.mpr this)
  . exact hb z
 have u2:=(b0.mono (fs':=frs (jL (CXr P w) P w K mg base N qual scope f cd A outer s H E).stack) (ex':=[]) (fun b hb=>by
  show b∈List.filterMap _ (_::outer);rw[List.filterMap_cons];exact qF0 _ hb) fun _ z=>z).trans u1
 refine⟨e,C,dx,_,rfl,I.os,I.bare,⟨fun b o q n hb hx=>u2.keep b o q n (sub b o q hb) hx,fun b o q n _ hx=>u2.any q n hx,u2.free,u2.there,u2.tups,u2.frzs,u2.tbls⟩,k1,am,fl',q⟩
end
theorem sj{M:Model}{A:Around}{E:Value->Shared->Prop}{s:Shared}{env:Env}{K:W.Frag}{x:Sem Value}{Q:Flow->Shared->Prop}(hh:A.handled=none)
 (h:wpAny M A x (fun v s₁=>∃e dx a C CA,v=.ref e/\ClsX K C CA/\K.In s₁.heap/\s₁.heap.get? e=some (eF C (some dx) (vs6 a))/\E (.ref e) s₁) E s):wpAny M A (raiseStmt env (some x) none) Q E s:=by
 unfold raiseStmt;refine zC0 (wpAny_mono h (fun v s₁ h₁=>?_) fun _ _ x=>x);obtain⟨e,dx,a,C,CA,rfl,c,KX,he,hE⟩:=h₁;obtain⟨nm,q,N,bs,sn,sub,ab,col,dd,k0,k1,k2,k3,k5,lk⟩:=c.obj;have hcB:=rj (C:=C) (CA:=CA);have hC:=KX _ _ lk;obtain⟨hp,g,d,tk,os⟩:=s₁
 repeat (first | with_reducible refine wpAny_loadPart_at he ?_ | with_reducible refine wpAny_loadPart_at hC ?_ | (with_reducible refine wpAny_isSubtype_exc hC ?_;rw[hcB]) | wp_step)
 exact wpAny_raiseNew_none hh hE
section
variable {P:Program} {w:World} {K:W.Frag} {mg:Str->Option Value} {base:Heap} {N:List Str} {qual:Str} {scope:Scope} {f:Addr} {cd:Value} {A:Around} {outer:List Env} {s:Shared} {H:Hp} {E:XK}
theorem zV{x:Expr}{te:TE}{pos:Pos}(he:PE (jL (CXr P w) P w K mg base N qual scope f cd A outer s H E) x te) :
 PS (jL (CXr P w) P w K mg base N qual scope f cd A outer s H E) (.Raise (some x) none pos) (fun _ σ H1=>te σ H1 fun v H2=>∃e C CA dx,v=.ref e/\H2 e=some (rA C e dx)/\ClsX K C CA/\E (.ref e) (some dx) (upd H2 e (tT C e dx))):=by
 intro pins s1 σ H1 D I h;rw[arm_exec_Raise];refine zC0 (wpAny_standAt (sj (K:=K) (I.ok.hd rfl) ?_));refine zC0 (thn (he pins s1 σ H1 _ I h) fun u s2 ⟨v,H2,I2,r,e,C,CA,dx,ev,e2,c,q⟩=>zC0 (wpAny_standAt (zH0 ?_)));subst ev;obtain rfl:u=Value.ref e:=r;obtain⟨o,ho,a,rfl⟩:=ObP.get I2.hok e2;exact⟨e,dx,a,C,CA,rfl,c,I2.kIn,ho,DB I2 e2 (Fly.ofD I2.hok e2) q⟩
end
section
variable {P:Program} {w:World} {K:W.Frag} {mg:Str->Option Value} {base:Heap} {dV:Value}
theorem FunD.okX{x qual:Str}{st:Stmt}{f:Addr}{fd:FuncData}{N ps:List Str}{k:Nat}{sp:Sp}(F:FunD K x qual st f fd dV)(S:FnScope N ps (af st))(len:∀vs H Q E,sp vs H Q E->vs.length=ps.length)
 (hbody:∀(cdv:Value)(A:Around)(outer:List Env)(s:Shared)(H:Hp)(vs:List V)(Q:VK)(E:XK),Room k (A.deeper (envOfC qual (af st) s.heap.objs.size f cdv))->sp vs H Q E ->
  ∃t,PSs (jL (CXr P w) P w K mg base N qual (af st) f cdv A outer s H E) (aB st) t/\t { nx:=fun _ H'=>Q .non H',rt:=Q } (iG N vs) H):FnOk P w K mg base (CXr P w) (k+1) f fd ps sp:=by
 obtain⟨oc,od,kV,doc,pm,an,cdv,ct,osl,rfl,lk,hcd⟩:=F.ex;exact Bh lk hcd S len fun A outer s H vs Q E hr hsp=>hbody cdv A outer s H vs Q E hr hsp
theorem Fun.okX{x qual:Str}{st:Stmt}{f:Addr}{fd:FuncData}{N ps:List Str}{k:Nat}{sp:Sp}(F:Fun K x qual st f fd)(S:FnScope N ps (af st))(len:∀vs H Q E,sp vs H Q E->vs.length=ps.length)
 (hbody:∀(cdv:Value)(A:Around)(outer:List Env)(s:Shared)(H:Hp)(vs:List V)(Q:VK)(E:XK),Room k (A.deeper (envOfC qual (af st) s.heap.objs.size f cdv))->sp vs H Q E ->
  ∃t,PSs (jL (CXr P w) P w K mg base N qual (af st) f cdv A outer s H E) (aB st) t/\t { nx:=fun _ H'=>Q .non H',rt:=Q } (iG N vs) H):FnOk P w K mg base (CXr P w) (k+1) f fd ps sp:=F.toD.okX S len hbody
structure CalR(P:Program)(w:World)(K:W.Frag)(mg:Str->Option Value)(base:Heap)(n:Nat)(x:Str)(ps:List Str)(sp:Sp):Prop where
 ex:∃(f:Addr)(fd:FuncData),FnOk P w K mg base (CXr P w) n f fd ps sp/\Binds K fd ps []/\W.keepIn K (.ref f)=true/\mg x=some (.ref f)
theorem CalR.of{n:Nat}{x qual:Str}{ps:List Str}{sp:Sp}{st:Stmt}{f:Addr}{fd:FuncData}(F:Fun K x qual st f fd)(O:FnOk P w K mg base (CXr P w) n f fd ps sp)(m:mg x=some (.ref f))
 (h:∀(kV doc pm:Value)(an:Option Addr)(cdv ct:Value)(us:List Value),us.length=ps.length->bindArgs (W.fnOf x qual (aE st) (aB st) (af st) .none kV doc pm an cdv ct) ⟨us,[]⟩=pure (ps.zip us)):CalR P w K mg base n x ps sp:=
 ⟨f,fd,O,F.binds h,F.kp,m⟩
theorem wn{X:Cx}{n k:Nat}{x:Str}{ps:List Str}{sp:Sp}{e:Expr}{es:List Expr}{t:TA}{p pos:Pos}{E:XK}(C:CalR X.prog X.w X.K X.mg X.base n x ps sp)(hr:Room k X.A)(hk:n<=k)(hg:Gl X x)(hx:fo (CXr X.prog X.w) X E)
 (ha:PA X (e::es) t) (hdb:(x==("__debug__":Str))=false:=by decide) (he:starEach (e::es) X.env=(false,eval e X.env)::starEach es X.env:=by rfl) (hpl:(backTo pos (starEach es X.env)).any (·.1)=false:=by rfl) :
 PE X (.Call (.Name x p) (e::es) [] pos) (lL sp [] E t):=by
 obtain⟨f,fd,F,b,kp,m⟩:=C.ex;exact wm F (hr.mono hk) hg m kp b .nil hx ha hdb he hpl
theorem my{X:Cx}:fo (CXr X.prog X.w) X E0:=by
 rintro pins σ H1 s1 _ s2 I ⟨e0,C,dx,H',rfl,os,bare,un,hok,he,fl,q⟩;exact q.elim
end
section
variable {M:Model} {A:Around} {E:Value->Shared->Prop}
theorem pf{K:W.Frag}{C CA:Addr}{s:Shared}{e:Addr}{oe:Obj}{Q:Bool->Shared->Prop}(c:ClsX K C CA)(X:K.In s.heap)(he:s.heap.get? e=some oe)(hcls:oe.cls=.ref C)
 (hA:∃(nm q:Str) (N:Addr) (bs:List Value) (sn:List Str) (sub:List Value) (ab:Bool) (col:Option Bool) (dd:Option Addr) (k0 k1 k2 k3 k5:Option Value),K.lookup CA=some (excClassObj nm q CA N bs bmV true sn sub ab col dd k0 k1 k2 k3 k5 "ValueError.__new__"))
 (hq:Q true s):wpAny M A (excMatches (.ref e) (.ref CA)) Q E s:=by
 obtain⟨nm,q,N,bs,sn,sub,ab,col,dd,k0,k1,k2,k3,k5,lk⟩:=c.obj;obtain⟨nm',q',N',bs',sn',sub',ab',col',dd',k0',k1',k2',k3',k5',lk'⟩:=hA;have hC:=X _ _ lk;have hA:=X _ _ lk';obtain⟨h,g,d,t,os⟩:=s;have hcB:(Value.ref CA::bmV).contains (.type "BaseException")=true:=by simp [bmV]
 have hcC:(Value.ref C::.ref CA::bmV).contains (.ref CA)=true:=by simp
 have f:=tc_notTuple;unfold excMatches
 repeat (first | (with_reducible refine wpAny_loadPart_at he ?_;rw[hcls]) | with_reducible refine wpAny_loadPart_at hA ?_ | (with_reducible refine wpAny_isSubtype_exc hA ?_;rw[hcB]) | (with_reducible refine wpAny_isSubtype_exc hC ?_;rw[hcC]) | wp_step)
 exact hq
end
section
variable {prog:Program} {w:World} {A:Around} {s:Shared} {env:Env} {R:Result->Shared->Prop}
theorem oy{e:Value}{n:Str}{b₀:Stmt}{body:List Stmt}{pos:Pos}
 (h:wpAny (model prog w) A (setFlight e none) (fun _ s1=>wpAny (model prog w) A (bindName env n e) (fun _ s2=>wpAny (model prog w) A (execs (b₀::body) env) (fun f s3=>R (.ok f) s3) (fun _ _=>False) s2) (fun _ _=>False) s1) (fun _ _=>False) s) :
 codeAny (model prog w) A (.handlers e [.ExceptHandler none (some n) (b₀::body) pos] env) R s:=by
 refine codeAny_of_tree ?_;show wpAny _ A (do return Fin.done (←(handleWith e env [.ExceptHandler none (some n) (b₀::body) pos]).onRaise (fun x=>do noteFrame x env;theTreesLotGoes x))) _ _ s;refine zC0 (wpAny_noted ?_);unfold handleWith;exact zC0 (wpAny_standAt (zC0 (wpAny_mono h (fun _ s₁ h₁=>zC0 (wpAny_mono h₁ (fun _ s2 h2=>zC0 (wpAny_attempt (wpAny_mono h2 (fun f s3 h3=>zH0 (zH0 h3)) fun _ _ z=>z.elim))) fun _ _ z=>z.elim)) fun _ _ z=>z.elim)))
end
abbrev Cx.marked(X:Cx)(e:Addr):Cx:={ X with A:=X.A.mark (some (.ref e)),calm:=false,xe:=fun _ _=>False }
section
variable {X:Cx} {pins:List (Addr×Obj)} {σ:St} {H:Hp} {s:Shared} {e:Addr}
theorem Inv.marked(I:Inv X pins σ H s):Inv (X.marked e) pins σ H s:=
 ⟨⟨I.ok.mod,I.ok.kind,I.ok.glob,I.ok.blt,I.ok.above,I.ok.inj,I.ok.has,I.ok.cab,(fun z=>by cases z),I.ok.frames,I.ok.stk,I.ok.exf,I.ok.bs,I.ok.bsz,I.ok.noex,I.ok.exfs,I.ok.funs,I.ok.frf⟩,I.os,I.bare,I.base,I.loc,I.cell,I.free,I.freeC,I.pin,I.hok,I.len⟩
theorem Inv.unmarked(ok:X.Ok)(I:Inv (X.marked e) pins σ H s):Inv X pins σ H s:=⟨ok,I.os,I.bare,I.base,I.loc,I.cell,I.free,I.freeC,I.pin,I.hok,I.len⟩
theorem SP.unmarked{D:Ends}{f:Flow}{s':Shared}(ok:X.Ok)(h:SP (X.marked e) pins D f s'):SP X pins D f s':=by
 cases f with
 | next=>obtain⟨σ',H',I,q⟩:=h;exact⟨σ',H',I.unmarked ok,q⟩
 | brk=>obtain⟨σ',H',I,q⟩:=h;exact⟨σ',H',I.unmarked ok,q⟩
 | cont=>obtain⟨σ',H',I,q⟩:=h;exact⟨σ',H',I.unmarked ok,q⟩
 | ret u=>obtain⟨v,σ',H',I,r,q⟩:=h;exact⟨v,σ',H',I.unmarked ok,r,q⟩
theorem ER{M:Model}{A:Around}{E:Value->Shared->Prop}{i:Nat}{x:Str}{v:V}{pos:Pos}{Q:Unit->Shared->Prop}(I:Inv X pins σ H s)(hN:X.N.Nodup)(hi:X.N[i]?=some x)(hk:X.env.kindOf x=some .local)(hv:σ[i]?=some (some v))
 (h:∀s',Inv X pins (σ.set i none) H s'->Q () s'):wpAny M A (unbindBehindTheSuite X.env x pos) Q E s:=by
 obtain⟨m,hn,hl⟩:=id I.loc;have hcls:(X.env.scope.kind==.class||(X.env.scope.kind==.module&&X.env.locals != X.env.globals))=false:=by rw[I.ok.kind];rfl
 have hiσ:i<σ.length:=by rw[I.len];exact(zX0 hi).1
 have cne:=I.cne;obtain⟨u0,_,lk⟩:=hl i x v hi hv (.inl hk);have hm:(m x).isSome=true:=by
  rcases lk with⟨_,q⟩ | ⟨q,_⟩
  . rw[q];rfl
  . rcases q with q | q <;> (rw[hk]at q;cases q)
 unfold unbindBehindTheSuite unbindName deleteName;refine wpAny_onRaise (zC0 (wpAny_point (zC0 ?_)));simp only[hk,hcls,Bool.false_eq_true,if_false];refine zC0 (wpAny_nsDel_keeps hn fun h' v' hn' hs=>?_);rw[hm];refine zH0 (wpAny_point ?_);obtain⟨oL,_,_,hoL,_⟩:=id hn;refine h _ ⟨I.ok,I.os,I.bare,⟨fun b o e n hb hx=>?_,fun b o e n hb hx=>?_,I.base.free,fun b o e hx=>?_,I.base.tups,I.base.frzs,I.base.tbls⟩,⟨_,hn',fun j y v' e1 e2 e3=>?_⟩,fun y c e=>?_,I.free,I.freeC,fun p hp=>?_,fun b ob e=>?_,by simpa using I.len⟩
 . exact(hs.2 b (zQ0 (qE0 (zK0 e) I.ok.above))).trans (I.base.keep b o e n hb hx)
 . obtain⟨sl,e1⟩:=I.base.slot b o e n hb hx;exact⟨sl,(hs.2 b (zQ0 (qE0 (zK0 e) I.ok.above))).trans e1⟩
 . obtain⟨o',e1⟩:=I.base.there b o e hx;exact⟨o',(hs.2 b (zQ0 (qE0 (zK0 e) I.ok.above))).trans e1⟩
 . by_cases hj:j=i
   . subst hj;rw[List.getElem?_set_self hiσ]at e2;cases e2
   . rw [List.getElem?_set_ne (Ne.symm hj)]at e2;obtain⟨u',r',q⟩:=hl j y v' e1 e2 e3;refine⟨u',r',?_⟩;rcases q with⟨k,e⟩ | ⟨k,c,e,z⟩
     . refine .inl ⟨k,?_⟩
       have:y≠x:=fun e=>hj (oi hN e1 (e▸hi))
       simp [this,e]
     . exact .inr ⟨k,c,e,z.sameBut hs (cne y c e)⟩
 . obtain⟨w',z⟩:=I.cell y c e;exact⟨w',z.sameBut hs (cne y c e)⟩
 . obtain⟨e,n,ne,nf,d⟩:=I.pin p hp;exact⟨(hs.2 p.1 ne).trans e,n,ne,nf,d⟩
 . refine (I.hok b ob e).stay (fun c w' hc q=>(hs.2 c ?_).trans q) (fun _ q=>q) fun _ _ q=>q
   rintro rfl;rcases hc with rfl | hc
   . rw[I.free]at e;cases e
   . rw[I.free]at hc;cases hc
end
def PSw(X:Cx)(EE:Ends->St->XK)(st:List Stmt)(t:TS):Prop:=
 ∀(W:Value->Shared->Prop)(pins:List (Addr×Obj))(s:Shared)(σ:St)(H:Hp)(D:Ends),(∀H1 s1 ev s2,Inv X pins σ H1 s1->CXr X.prog X.w X.stack H1 s1 (EE D σ) ev s2->W ev s2)->Inv X pins σ H s->t D σ H ->
  wpAny (model X.prog X.w) X.A (execs st X.env) (SP X pins D) W s
section
variable {X:Cx} {EE:Ends->St->XK} {n k:Nat} {x:Str} {ps:List Str} {sp:Sp} {e:Expr} {es:List Expr} {ta:TA} {p pos:Pos}
theorem callW{W:Value->Shared->Prop}{E:XK}{pins:List (Addr×Obj)}{s:Shared}{σ:St}{H:Hp}{Q:VK}(C:CalR X.prog X.w X.K X.mg X.base n x ps sp)(hr:Room k X.A)(hk:n<=k)(hg:Gl X x)(ha:PA (X.wish W) (e::es) ta)
 (hW:∀H1 s1 ev s2,Inv X pins σ H1 s1->CXr X.prog X.w X.stack H1 s1 E ev s2->W ev s2) (I:Inv X pins σ H s) (h:lL sp [] E ta σ H Q)
 (hdb:(x==("__debug__":Str))=false:=by decide) (he:starEach (e::es) X.env=(false,eval e X.env)::starEach es X.env:=by rfl) (hpl:(backTo pos (starEach es X.env)).any (·.1)=false:=by rfl) :
 wpAny (model X.prog X.w) X.A (eval (.Call (.Name x p) (e::es) [] pos) X.env) (EP X pins σ Q) W s:=by
 obtain⟨f,fd,F,b,kp,m⟩:=C.ex;refine wpAny_Call_Name_kw (jD I hg m ?_ hdb);refine PySem.W.callWith_K (h₀:=X.base) I.ok.mod.kin kp (thn (ha pos pins s σ H _ (I.wish W) h) fun us s1 ⟨vs,H1,I1,r,q⟩=>⟨I1.kIn,?_⟩) he hpl;have I1':=I1.unwish;have r2:Vals (vs++[]) (us++[]):=r.append .nil;have hl:(us++[]).length=ps.length:=by rw[←r2.length];exact F.len _ _ _ _ q
 refine wpAny_call (codeAny_mono (F.run X.A X.stack s1 H1 ⟨us,[]⟩ (us++[]) (vs++[]) Q E (hr.mono hk) I1'.env0 (b s1 us I1'.kIn hl) r2 q) fun r s' hq=>?_);cases r with
 | error ev=>exact hW H1 s1 ev s' I1' hq
 | ok fl=>
   cases fl with
   | ret u=>exact I1'.after hq
   | next=>exact False.elim hq
   | brk=>exact False.elim hq
   | cont=>exact False.elim hq
theorem zU{p1:Pos}(C:CalR X.prog X.w X.K X.mg X.base n x ps sp)(hr:Room k X.A)(hk:n<=k)(hg:Gl X x)(ha:∀W,PA (X.wish W) (e::es) ta)
 (hs:swapsWith (.Call (.Name x p) (e::es) [] pos) none p1.line X.env=pure false:=by rfl)
 (hdb:(x==("__debug__":Str))=false:=by decide) (he:starEach (e::es) X.env=(false,eval e X.env)::starEach es X.env:=by rfl) (hpl:(backTo pos (starEach es X.env)).any (·.1)=false:=by rfl) :
 PSw X EE [.Expr (.Call (.Name x p) (e::es) [] pos) p1] (fun D σ H=>lL sp [] (EE D σ) ta σ H fun _ H1=>D.nx σ H1):=by
 intro W pins s σ H D hW I h;refine wpAny_execs_cons (wpAny_Expr_any (thn (callW C hr hk hg (ha W) hW I h hdb he hpl) fun v s1 ⟨z,H1,I1,r1,q1⟩=>wpAny_execs_nil ⟨σ,H1,I1,q1⟩) I.quiet hs)
def Ends.un(D:Ends)(i:Nat):Ends:={ nx:=fun σ H=>D.nx (σ.set i none) H,rt:=D.rt,bk:=fun σ H=>D.bk (σ.set i none) H,ct:=fun σ H=>D.ct (σ.set i none) H }
def qW (K:W.Frag) (CA:Addr):Prop:=∃(nm q:Str) (N:Addr) (bs:List Value) (sn:List Str) (sub:List Value) (ab:Bool) (col:Option Bool) (dd:Option Addr) (k0 k1 k2 k3 k5:Option Value),K.lookup CA=some (excClassObj nm q CA N bs bmV true sn sub ab col dd k0 k1 k2 k3 k5 "ValueError.__new__")
theorem Ec{c m:Str}{CA:Addr}{i:Nat}{st body:List Stmt}{b₀:Stmt}{pc ph:Pos}{t tb:TS}(hN:X.N.Nodup)(hi:X.N[i]?=some m)(hk:X.env.kindOf m=some .local)(hg:Gl X c)(hm:X.mg c=some (.ref CA))(hA:qW X.K CA)
 (hb:PSw X (fun D σ ev dxo H'=>∃e C dx,ev=.ref e/\dxo=some dx/\H' e=some (tT C e dx)/\ClsX X.K C CA/\tb (D.un i) (σ.set i (some (.ref e))) H') st t) (hh:∀e,PSs (X.marked e) (b₀::body) tb)
 (hst:X.stack=X.env::X.outer:=by rfl) (hfr:X.env.frame=some X.env.locals:=by rfl) (hdb:(c==("__debug__":Str))=false:=by decide) :
 PS X (.Try st [.ExceptHandler (some (.Name c pc)) (some m) (b₀::body) ph] [] [] pos) t:=by
 intro pins s σ H D I h;refine wpAny_Try_except (wpAny_mono (hb _ pins s σ H D ?_ I h) (fun f s1 q=>?_) fun _ _ z=>z)
 . rintro H1 s1 _ s2 I1 ⟨e,C0,dx0,H2,rfl,os,bare,un,hok,he0,fl,e',C,dx,ee,ed,he,cls,q⟩;cases ee;cases ed;have I2:=I1.call' (ch:=[]) os un hok bare (fun b z=>absurd z (by simp));refine sG (base:=X.base) (env:=X.env) (outer:=X.outer) (by rw[←hst];exact I2.ok.frames) (by rw[←hst];exact I2.stack) hfr fl fun h' l fl'=>?_
   have u:=AO (H:=H2) l he0 fl';have kk:=wy I2.hok l (by
    have z:=I2.stkFree;rw[hst]at z;exact z) he0 fl'
   rw[yQ he0]at u kk;have I3:Inv X pins σ H2 { s2 with heap:=h' }:=I2.call' (ch:=[]) rfl (by rw[hst];exact u) kk I2.bare (fun b z=>absurd z (by simp));refine wpAny_handleBy_cons (codeAny_handlers_test (jD (X:=X.marked e) (I3.marked (e:=e)) hg hm ?_ hdb)) (by intro z;cases z);obtain⟨o,ho,vs,rfl,_⟩:=ObP.get I3.hok he;refine pf cls I3.kIn ho rfl hA ?_;refine oy ?_;refine vn fl' fun h'' kp=>?_
   have I4:Inv X pins σ H2 { s2 with heap:=h'' }:=I3.kept (t':=s2.toks) kp;refine wpAny_bindName (iF (X:=X.marked e) (v:=.ref e) (I4.marked (e:=e)) hN hi (.inl hk) rfl (fun s5 I5=>?_) (.inr hk));refine wpAny_mono (hh e pins s5 _ H2 (D.un i) I5 q) (fun f s6 q6=>?_) fun _ _ z=>z
   have q7:=SP.unmarked I.ok q6;have fin:∀{σ' H'}{G:Shared->Prop},Inv X pins σ' H' s6->(∀s8,Inv X pins (σ'.set i none) H' s8->G s8)->wpAny (model X.prog X.w) X.A (do bindName X.env m .none;unbindBehindTheSuite X.env m ph) (fun _ s3=>G s3) X.xe s6:=fun{σ' H' G} I6 g=>by
    refine zC0 (wpAny_bindName (iF (v:=.non) I6 hN hi (.inl hk) rfl (fun s7 I7=>?_) (.inr hk)));have hl:i<σ'.length:=by rw[I6.len];exact(zX0 hi).1
    refine ER (v:=.non) I7 hN hi hk (List.getElem?_set_self hl) fun s8 I8=>?_
    rw[List.set_set]at I8;exact g s8 I8
   cases f with
   | next=>obtain⟨σ',H',I',q⟩:=q7;exact fin I' fun s8 I8=>⟨_,H',I8,q⟩
   | brk=>obtain⟨σ',H',I',q⟩:=q7;exact fin I' fun s8 I8=>⟨_,H',I8,q⟩
   | cont=>obtain⟨σ',H',I',q⟩:=q7;exact fin I' fun s8 I8=>⟨_,H',I8,q⟩
   | ret v=>obtain⟨z,σ',H',I',r,q⟩:=q7;exact fin I' fun s8 I8=>⟨z,_,H',I8,r,q⟩
 . cases f with
   | next=>exact wpAny_execs_nil q
   | brk=>exact q
   | cont=>exact q
   | ret v=>exact q
end
def Fg(K:W.Frag)(a:Addr)(xs:List V):It:=⟨fun i H=>SqT K H a xs/\i<xs.length,fun i H y H'=>H'=H/\xs.reverse[i]?=some y,fun i _=>xs.length<=i⟩
theorem RevT.keep{h h':Heap}{it t:Addr}{i:Int}(x:RevT h it t i)(k:∀o,h.get? it=some o->h'.get? it=some o):RevT h' it t i:=k _ x
theorem wW{P:Program}{w:World}{K:W.Frag}{tg:Expr}(a it:Addr)(xs:List V):Turn P w K tg (Fg K a xs) [it] it (fun i h=>i<=xs.length/\RevT h it a ((xs.length:Int)-1-(i:Int))) where
 mem:=by simp
 obj:=fun i h st b hb=>by
  have e:b=it:=by simpa using hb
  subst e;exact⟨_,st.2,fun v z=>by cases z⟩
 keep:=fun i h h' st k=>⟨st.1,st.2.keep fun o e=>k it (by simp) o e⟩
 item:=by
  intro X hP hw hK hc i pins s σ H E I hf st hg;subst hP hw hK;obtain⟨hq,hi⟩:=hg;obtain⟨its,rv,p,hz⟩:=I.tuple hq;have hj:xs.length-1-i<xs.length:=by omega
  have hx:xs[xs.length-1-i]?=some xs[xs.length-1-i]:=zP0 hj;obtain⟨u,hu,ru⟩:=rv.get hx;obtain⟨f0,f1,f2,f3,f4,f5⟩:=hf it (by simp);obtain⟨_,hit⟩:=st;have e1:((xs.length:Int)-1-(i:Int))=((xs.length-1-i:Nat):Int):=by omega
  rw[e1]at hit;have h63:=iU;refine om hit p (x:=u) (by simpa using hu) (by omega) fun h' tk st' sb=>?_
  have I1:Inv X pins σ H { s with heap:=h',toks:=tk }:=I.turned (t':=tk) (fun b o hb e=>(sb.2 b hb).trans e) f0 f1 f3 f4 f5;have e2:((xs.length-1-i:Nat):Int)-1=(xs.length:Int)-1-((i+1:Nat):Int):=by omega
  rw[e2]at st';refine⟨u,rfl,sX (s:={ s with heap:=h',toks:=tk }) st' rfl rfl (by decide) ⟨xs[xs.length-1-i],H,I1,ru,⟨rfl,?_⟩,⟨by omega,st'⟩,fun b hb=>(hf b hb).1⟩⟩;rw[List.getElem?_reverse hi,hx]
 done:=by
  intro X hP hw hK hc i pins s σ H E I hf st hg;subst hP hw hK;have hg:xs.length<=i:=hg;obtain⟨f0,f1,f2,f3,f4,f5⟩:=hf it (by simp);obtain⟨hi,hit⟩:=st;have e1:(xs.length:Int)-1-(i:Int)=-1:=by omega
  rw[e1]at hit;exact pe (I.ok.hd hc) hit fun h' tk eb=>⟨rfl,I.turned (t':=tk) (fun b o hb e=>eb b o hb e) f0 f1 f3 f4 f5⟩
 self:=fun _ _ _ _ _ st h=>pN st.2 h
def CV(K:W.Frag)(c:Bool)(a:Addr)(xs:List V):It:=if c=true then ItV K a xs else Fg K a xs
section
variable {X:Cx} {tg:Expr}
def iRevB(K:W.Frag)(tl:TE):TI:=fun σ H R=>tl σ H fun x H1=>∃c a xs,x=.ref a/\SqB K c H1 a xs/\R (CV K c a xs) H1
theorem Cl {l:Expr} {tl:TE} {p pos:Pos} (hg:Gl X "reversed") (hm:X.mg "reversed"=none) (hl:PE X l tl) (hs:starEach [l] X.env=[(false,eval l X.env)]:=by rfl) :
 PI X tg (.Call (.Name "reversed" p) [l] [] pos) (iRevB X.K tl):=by
 intro pins s σ H R I h;refine wpAny_Call_Name_kw (ir I hg hm oO ?_);refine PyProof.Rows.callWith_type1 ?_ hs rfl;rw[hs];show wpAny _ _ (spliced ((false,eval l X.env)::backTo pos (starEach [] X.env))) _ _ s;refine Calls.spliced_cons (thn (hl pins s σ H _ I h) fun u s1 ⟨x,H1,I1,r1,c,a,xs,ex,hq,q⟩=>?_);subst ex;cases r1;refine Calls.spliced_nil ?_;cases c with
 | true=>
   have hq:SqL X.K H1 a xs:=hq;have q:R (ItV X.K a xs) H1:=q;obtain⟨its,rv,p,hz⟩:=I1.list hq;have hlen:=rv.length;refine call_reversed_list p.isList ?_;have hr:(s1.heap.push (revObj a ((its.toArray.size:Int)-1))).IsRevIter s1.heap.objs.size a ((xs.length:Int)-1-((0:Nat):Int)):=by
    have e:(xs.length:Int)-1-((0:Nat):Int)=(its.toArray.size:Int)-1:=by rw[zO0];omega
    rw[e];exact⟨_,zV0 _ rfl,rfl,rfl⟩
   refine wpAny_pyIter_revIter hr ?_;refine⟨s1.heap.objs.size,[s1.heap.objs.size],_,_,H1,rfl,I1.kept (t':=s1.toks) fun b o e=>zJ0 _ e,wV a _ xs,⟨zZ0 _,hr⟩,fun b hb=>?_,q⟩;have e:b=s1.heap.objs.size:=by simpa using hb
   subst e;exact I1.fpOk (zF0 _) (I1.hok.fresh (zF0 _))
 | false=>
   have hq:SqT X.K H1 a xs:=hq;have q:R (Fg X.K a xs) H1:=q;obtain⟨its,rv,p,hz⟩:=I1.tuple hq;have hlen:=rv.length;refine kJ p (by rw[zO0,←rv.length];exact hz) fun tk=>?_
   have hr:RevT (s1.heap.push { cls:=.type "reversed",data:=.fields #[.ref a,rawInt ((its.toArray.size:Int)-1)] }) s1.heap.objs.size a ((xs.length:Int)-1-((0:Nat):Int)):=by
    have e:(xs.length:Int)-1-((0:Nat):Int)=(its.toArray.size:Int)-1:=by rw[zO0];omega
    rw[e];exact zV0 _ rfl
   refine pN hr ?_;refine⟨s1.heap.objs.size,[s1.heap.objs.size],_,_,H1,rfl,I1.kept (t':=tk) fun b o e=>zJ0 _ e,wW a _ xs,⟨zZ0 _,hr⟩,fun b hb=>?_,q⟩;have e:b=s1.heap.objs.size:=by simpa using hb
   subst e;exact I1.fpOk (zF0 _) (I1.hok.fresh (zF0 _))
end
theorem Bg{K:W.Frag}{c:Bool}{a:Addr}{xs:List V}{g:TG}{tb:TS}{D:Ends}{σ:St}{H:Hp}(Pv:Nat->St->Hp->Prop)(h0:Pv 0 σ H)(hl:∀i σ H,i<=xs.length->Pv i σ H->SqB K c H a xs)
 (hs:∀i x σ H,i<xs.length->xs.reverse[i]?=some x->Pv i σ H->g x σ H fun σ2 H2=>tb { D with nx:=Pv (i+1),ct:=Pv (i+1),bk:=D.nx } σ2 H2) (hd:∀ σ H,Pv xs.length σ H->D.nx σ H) :
 ∃ W:Nat->Nat->St->Hp->Prop,(∃m,W 0 m σ H)/\∀i m σ H,W i m σ H ->
  ((CV K c a xs).stop i H/\D.nx σ H)∨((CV K c a xs).go i H/\∃N:St->Hp->Prop,(∀ σ' H',N σ' H'->∃m',m'<m/\W (i+1) m' σ' H')/\∀x H',(CV K c a xs).yld i H x H'->g x σ H' fun σ2 H2=>tb { D with nx:=N,ct:=N,bk:=D.nx } σ2 H2):=by
 cases c with
 | true=>exact Bf Pv h0 hl hs hd
 | false=>
   refine⟨fun i m σ H=>m=xs.length-i/\i<=xs.length/\Pv i σ H,⟨xs.length,by simp,zZ0 _,h0⟩,?_⟩;rintro i m σ H ⟨rfl,hi,p⟩;have q:=hl i σ H hi p
   by_cases hlt:i<xs.length
   . refine .inr ⟨⟨q,hlt⟩,Pv (i+1),fun σ' H' p'=>⟨xs.length-(i+1),by omega,rfl,hlt,p'⟩,fun x H' y=>?_⟩;obtain⟨e,ex⟩:=y;subst e;exact hs i x σ _ hlt ex p
   . have e:i=xs.length:=by omega
     subst e;exact .inl ⟨zF0 _,hd σ H p⟩
set_option maxRecDepth 100000
theorem lA:fillsNumberSlot (.type "tuple") "mul"=pure false:=
 PySem.fillsNumberSlot_seq (id:="tuple.__mul__") (r:=some (.builtin "tuple.__rmul__")) F.slot_tuple_mul.lookup (by decide +kernel) F.slot_tuple_rmul.lookup (by decide +kernel)
theorem qz:seqRepeat? (.type "tuple")=pure (some (.builtin "tuple.__mul__")):=by
 unfold seqRepeat?;rw[PySem.seqSlot_of (T:="tuple") (name:="__mul__") (id:="tuple.__mul__") F.slot_tuple_mul.lookup (by decide +kernel),PySem.seqSlot_of (T:="tuple") (name:="__rmul__") (id:="tuple.__rmul__") F.slot_tuple_rmul.lookup (by decide +kernel)];rfl
theorem ow(a:Int)(t:Tok)(l:Addr)(items:Array Value)(n:Nat)(dd:Option Addr)(sl:Array (Option Value)) :
 Meets (Builtin.«int.__rmul__» ⟨[.int a t,.ref l],[]⟩) (fun _ R s=>s.heap.get? l=some { cls:=.type "tuple",dict:=dd,data:=.seq items n,slots:=sl }/\R (.ok (.ret Value.notImplemented)) s):=
 .of_wp fun prog w A R s h=>by obtain⟨hp,g,d,tk,os⟩:=s;obtain⟨hl,h⟩:=h;wp_walk;exact⟨_,rfl,h⟩
theorem oU(l:Addr)(items:Array Value)(n:Nat)(dd:Option Addr)(sl:Array (Option Value))(u:Tok) :
 Meets (Builtin.«tuple.__mul__» ⟨[.ref l,.int 1 u],[]⟩) (fun _ R s=>s.heap.get? l=some { cls:=.type "tuple",dict:=dd,data:=.seq items n,slots:=sl }/\R (.ok (.ret (.ref l))) s):=
 .of_wp fun prog w A R s h=>by obtain⟨hp,g,d,tk,os⟩:=s;obtain⟨hl,h⟩:=h;wp_walk;exact⟨_,rfl,h⟩
theorem mN(l:Addr)(v:Value)(n:Nat)(dd:Option Addr)(sl:Array (Option Value))(u:Tok) :
 Meets (Builtin.«tuple.__mul__» ⟨[.ref l,.int 0 u],[]⟩) (fun _ R s=>s.heap.get? l=some { cls:=.type "tuple",dict:=dd,data:=.seq #[v] n,slots:=sl }/\R (.ok (.ret (.ref s.heap.objs.size))) { s with heap:=s.heap.push { cls:=.type "tuple",data:=.seq #[] },toks:=s.toks }):=
 .of_wp fun prog w A R s h=>by obtain⟨hp,g,d,tk,os⟩:=s;obtain⟨hl,h⟩:=h;wp_walk;exact⟨_,rfl,h⟩
theorem mO(l:Addr)(v:Value)(n:Nat)(dd:Option Addr)(sl:Array (Option Value))(x:Int)(u:Tok)(h2:2<=x)(hx:x<=1000) :
 Meets (Builtin.«tuple.__mul__» ⟨[.ref l,.int x u],[]⟩) (fun _ R s=>s.heap.get? l=some { cls:=.type "tuple",dict:=dd,data:=.seq #[v] n,slots:=sl }/\R (.ok (.ret (.ref s.heap.objs.size))) { s with heap:=s.heap.push { cls:=.type "tuple",data:=.seq ((List.replicate x.toNat #[v]).foldl (·++·) #[]) },toks:=s.toks }):=
 .of_wp fun prog w A R s h=>by
  obtain ⟨hp,g,d,tk,os⟩:=s;obtain⟨hl,h⟩:=h;have c1:(decide (x < -(2 ^ 63))||decide (x≥2 ^ 63))=false:=by
   rw[decide_eq_false (by omega),decide_eq_false (by omega)];rfl
  have c2:(x==1)=false:=by simpa using(show x≠1 by omega)
  have c3:decide (x<=0)=false:=decide_eq_false (by omega);have c4:¬ ((1:Int)*x>(2 ^ 63-1) / 8):=by omega
  have c5:Builtin.Tuple.tupleTooMany (1*x)=false:=by
   unfold Builtin.Tuple.tupleTooMany
   have:(sizeLine:Int)≥1000:=by decide
   exact decide_eq_false (by omega)
  wp_walk
  refine wpAny_ite_split (fun hab=>by rw[c1]at hab;cases hab) (fun _=>?_);show wpAny _ _ (do let xs ←Builtin.Tuple.tupleItemsOf (Value.ref l);_) _ _ _
  wp_walk
  refine wpAny_ite_split (fun hab=>absurd hab c4) (fun _=>?_);refine wpAny_ite_split (fun hab=>by rw[show Builtin.Tuple.tupleTooMany (((#[v]:Array Value).size:Int)*x)=false from c5]at hab;cases hab) (fun _=>?_);have sz:((List.replicate x.toNat #[v]).foldl (·++·) #[]).size<=sizeLine:=by
   have e:(List.replicate x.toNat (#[v]:Array Value)).foldl (·++·) #[]=(List.replicate x.toNat [v]).flatten.toArray:=by
    have:=jH [v] x.toNat []
    rw[List.nil_append]at this;exact this
   rw[e,zO0,wz];exact eC (by show x.toNat*1<=1000;omega)
  refine zC0 (wpAny_newObj_type ?_ sz);exact zH0 ⟨_,rfl,h⟩
section
variable {X:Cx}
def zQ(K:W.Frag):R2:=fun x y H Q=>∃a v k,x=.ref a/\y=.int k/\SqT K H a [v]/\0<=k/\k<=1000/\(k=1->Q (.ref a) H)/\(k≠1->∀p,H p=none->Q (.ref p) (upd H p (.tup (List.replicate k.toNat v))))
theorem rD{v:V}{u:Value}(r:RelV v u):∀n,Vals (List.replicate n v) (List.replicate n u)
 | 0=>.nil
 | n+1=>.cons r (rD r n)
theorem Co:OpR X (binaryOp .Mult) (zQ X.K):=by
 intro pins s σ H x y vv u Q I rx ry h;obtain⟨a,v,k,rfl,rfl,hq,k0,k1,q1,q2⟩:=h;cases rx;obtain⟨t,rfl⟩:=ry;obtain⟨its,r,p,hz⟩:=I.tuple hq;obtain⟨w,rfl,rw'⟩:∃w,its=[w]/\RelV v w:=by
  cases r with
  | cons h1 h2=>cases h2;exact⟨_,rfl,h1⟩
 obtain ⟨o,e,hc,n,hd⟩:=p;obtain⟨cls,dd,data,sl⟩:=o;cases hc;cases hd;have e:s.heap.get? a=some { cls:=.type "tuple",dict:=dd,data:=.seq #[w] n,slots:=sl }:=e;refine wpAny_binaryOp_repeat_ref (T:="tuple") (U:="int") (by decide) ⟨_,e,rfl⟩ (fun s'=>typeIs_int s' k t) lA F.fills_int_mul F.slot_int_rmul qz F.slot_int_index.lookup
  (call_meets F.slot_int_rmul (typeIs_int s k t) F.entry_int_rmul (F.args_int_rmul_2 _ _) (ow k t a #[w] n dd sl)
   ⟨e,rfl,⟨_,e,rfl⟩,?_⟩)
 by_cases c1:k=1
 . subst c1;exact call_meets F.slot_tuple_mul ⟨_,e,rfl⟩ F.entry_tuple_mul (F.args_tuple_mul_2 _ _) (oU a #[w] n dd sl t) ⟨e,.ref a,H,I,rfl,q1 rfl⟩
 have laid:∀m:Nat,m<=1000->Inv X pins σ (upd H s.heap.objs.size (.tup (List.replicate m v))) { s with heap:=s.heap.push { cls:=.type "tuple",data:=.seq (List.replicate m w).toArray },toks:=s.toks }:=fun m hm=>
  I.laid (t':=s.toks) (o:=.tup (List.replicate m v)) (fun b ob q=>zJ0 _ q) (zF0 _) ⟨by rw[List.length_replicate];exact eC hm,_,rD rw' m,IsTup.new _ _,_,zV0 _ rfl,rfl⟩
 by_cases c0:k=0
 . subst c0;exact call_meets F.slot_tuple_mul ⟨_,e,rfl⟩ F.entry_tuple_mul (F.args_tuple_mul_2 _ _) (mN a w n dd sl t) ⟨e,.ref _,_,laid 0 (by decide),rfl,q2 (by decide) _ (I.hok.fresh (zF0 _))⟩
 . have ef:(List.replicate k.toNat (#[w]:Array Value)).foldl (·++·) #[]=(List.replicate k.toNat w).toArray:=by
    have:=jH [w] k.toNat []
    rw [List.nil_append]at this;rw[show(List.replicate k.toNat w)=(List.replicate k.toNat [w]).flatten by
     induction k.toNat with
     | zero=>rfl
     | succ m ih=>rw[List.replicate_succ,List.replicate_succ,List.flatten_cons,ih];rfl]
    exact this
   refine call_meets F.slot_tuple_mul ⟨_,e,rfl⟩ F.entry_tuple_mul (F.args_tuple_mul_2 _ _) (mO a w n dd sl k t (by omega) k1) ⟨e,?_⟩;rw[ef];exact⟨.ref _,_,laid k.toNat (by omega),rfl,q2 c1 _ (I.hok.fresh (zF0 _))⟩
theorem Ai(K:W.Frag)(hK:X.K=K:=by rfl):OpR X (binaryOp .Mult) (zQ K):=by subst hK;exact Co
end
section
variable {X:Cx}
def Eb:List V->Hp->VK->Prop:=fun xs H Q=>∃(a:Addr)(kvs:List (Key×V)),xs=[.ref a]/\H a=some (.dK kvs)/\∀p,H p=none->Q (.ref p) (upd H p (.dK kvs))
theorem vB:iC X (.type "dict") Eb:=by
 intro pins s σ H xs us Q I r h;obtain⟨a,kvs,rfl,ha,q⟩:=h;cases r with
 | cons ra rr=>
   cases rr;cases ra;exact Bu I (.inl ha) fun p s' hp I'=>⟨.ref p,_,I',rfl,q p hp⟩
end
theorem vC:bootBuiltins ("dict":Str)=some (.type "dict"):=by decide +kernel
end L2
namespace Mine
def Pr(n:Int):Prop:=2<=n/\∀k:Int,2<=k->k<=1000->k*k<=n->n % k≠0
theorem pC{a b:Int}(h0:0<=a)(h:a<=b):a*a<=b*b:=Int.mul_le_mul h h h0 (Int.le_trans h0 h)
def prB(n:Int):Bool:=decide (2<=n)&&(List.range 999).all fun i=>decide (n<((i:Int)+2)*((i:Int)+2))||decide (n % ((i:Int)+2)≠0)
theorem kn{n:Int}(h:prB n=true):Pr n:=by
 unfold prB at h;rw[Bool.and_eq_true]at h;refine⟨of_decide_eq_true h.1,fun k k2 k3 ks=>?_⟩;have q:=List.all_eq_true.mp h.2 (k.toNat-2) (List.mem_range.mpr (by omega));have e:(((k.toNat-2:Nat):Int)+2)=k:=by omega
 rw[e,Bool.or_eq_true]at q;rcases q with q | q
 . have:=of_decide_eq_true q;omega
 . exact of_decide_eq_true q
theorem zX{p d:Int}(h:Pr p)(hp:p<1002001)(d0:1<d)(d1:d<p)(hd:d ∣ p):False:=by
 obtain ⟨e,he⟩:=hd;have e0:1<e:=by
  by_cases c:e<=1
  . have:d*e<=d*1:=qX0 c (by omega)
    omega
  . omega
 by_cases c:d<=e
 . have s:d*d<=p:=by
    have:=qX0 c (show(0:Int)<=d by omega)
    omega
   have t:d<=1000:=by
    by_cases c2:1001<=d
    . have:=pC (a:=1001) (b:=d) (by omega) c2
      omega
    . omega
   refine h.2 d (by omega) t s ?_;rw[he];exact Int.mul_emod_right d e
 . have c':e<=d:=by omega
   have s:e*e<=p:=by
    have:=Int.mul_le_mul_of_nonneg_right c' (show(0:Int)<=e by omega)
    omega
   have t:e<=1000:=by
    by_cases c2:1001<=e
    . have:=pC (a:=1001) (b:=e) (by omega) c2
      omega
    . omega
   refine h.2 e (by omega) t s ?_;rw[he,Int.mul_comm];exact Int.mul_emod_right e d
def Cop(x y:Int):Prop:=∀d:Int,0<d->d ∣ x->d ∣ y->d=1
theorem EU{p a:Int}(h:Pr p)(hp:p<1002001)(a0:0<a)(a1:a<p):Cop p a:=fun d d0 h1 h2=>by
 have:=Int.le_of_dvd a0 h2
 by_cases c:1<d
 . exact(zX h hp c (by omega) h1).elim
 . omega
structure Eu(a p former ff rest f:Int):Prop where
 r0:0<rest
 rp:rest<p
 fr:rest<former
 f0:0<=f
 f1:f<p
 g0:0<=ff
 g1:ff<p
 cop:Cop former rest
 d1:p ∣ former-a*ff
 d2:p ∣ rest-a*f
theorem tu{a p:Int}(h:Pr p)(hp:p<1002001)(a0:0<a)(a1:a<p):Eu a p p 0 (a % p) 1:=by
 have e:a % p=a:=qP0 (by omega) a1;rw[e];exact⟨a0,a1,a1,by omega,by omega,by omega,by omega,EU h hp a0 a1,by rw[Int.mul_zero,Int.sub_zero];exact Int.dvd_refl p,by rw[Int.mul_one,Int.sub_self];exact Int.dvd_zero p⟩
theorem wG{a p former ff rest f:Int}(E:Eu a p former ff rest f)(h1:rest≠1):Eu a p rest f (former-former / rest*rest) ((ff-former / rest*f) % p)/\(former-former / rest*rest).toNat<rest.toNat:=by
 have r0:=E.r0;have rp:=E.rp;have em:former-former / rest*rest=former % rest:=by
  have:=Int.emod_add_mul_ediv former rest
  rw[Int.mul_comm]at this;omega
 have l0:0<=former % rest:=zU0 _ (by omega);have l1:former % rest<rest:=zY0 _ r0;have cop':Cop rest (former % rest):=fun d d0 x y=>by
  refine E.cop d d0 ?_ x
  have:=Int.emod_add_mul_ediv former rest
  rw[←this];exact Int.dvd_add y (Int.dvd_trans x (Int.dvd_mul_right _ _))
 have lz:former % rest≠0:=fun z=>by
  have:=cop' rest r0 (Int.dvd_refl _) (by rw[z];exact Int.dvd_zero _)
  exact h1 this
 rw [em];refine⟨⟨by omega,by omega,l1,zU0 _ (by omega),zY0 _ (by omega),E.f0,E.f1,cop',E.d2,?_⟩,by omega⟩;have q:p ∣ (former-a*ff)-former / rest*(rest-a*f):=Int.dvd_sub E.d1 (Int.dvd_trans E.d2 (Int.dvd_mul_left _ _));have q2:p ∣ (ff-former / rest*f)-(ff-former / rest*f) % p:=Int.dvd_self_sub_emod;have q3:p ∣ a*((ff-former / rest*f)-(ff-former / rest*f) % p):=Int.dvd_trans q2 (Int.dvd_mul_left _ _);have q4:=Int.dvd_add q q3;have e2:former-a*ff-former / rest*(rest-a*f)+a*(ff-former / rest*f-(ff-former / rest*f) % p)=former % rest-a*((ff-former / rest*f) % p):=by
  rw[←em];generalize former / rest=t;generalize (ff-t*f) % p=u;rw[Int.mul_sub,Int.mul_sub,Int.mul_sub,Int.mul_left_comm t a f];omega
 rw[e2]at q4;exact q4
theorem Bk{a p former ff rest f:Int}(E:Eu a p former ff rest f)(h1:rest=1)(hp:1<p):0<f/\f<p/\f*a % p=1:=by
 subst h1;have d2:=E.d2;have f0:=E.f0;have hm:f*a % p=1:=by
  obtain ⟨c,hc⟩:=d2;have e:f*a=1+p*(-c):=by
   rw[Int.mul_comm f a,Int.mul_neg];omega
  rw[e,Int.add_mul_emod_self_left];exact qP0 (by omega) hp
 refine⟨?_,E.f1,hm⟩
 by_cases c:f=0
 . subst c;simp at hm
 . omega
end Mine
namespace Mine
def tS(n d:Int):Prop:=∀k:Int,3<=k->k % 2=1->k<d->n % k≠0
theorem xT(n:Int):tS n 3:=fun k a _ c=>by omega
theorem Ax{n d:Int}(u:tS n d)(hd:d % 2=1)(h:n % d≠0):tS n (d+2):=fun k a b c=>by
 by_cases e:k<d
 . exact u k a b e
 . have:k=d:=by omega
   subst this;exact h
theorem yp{n d:Int}(h3:3<=n)(h2:n % 2≠0)(h0:3<=d)(u:tS n d)(hd:n<d*d):Pr n:=by
 refine⟨by omega,fun k k2 k3 ks z=>?_⟩;obtain⟨q,hq⟩:=Int.dvd_of_emod_eq_zero z
 by_cases e:k % 2=1
 . by_cases c:k<d
   . exact u k (by omega) e c z
   . have:=pC (a:=d) (b:=k) (by omega) (by omega)
     omega
 . obtain ⟨j,hj⟩:∃j,k=2*j:=⟨k / 2,by omega⟩
   rw[hj,Int.mul_assoc]at hq;omega
theorem yr{n:Int}(h2:n % 2=0)(h3:2<n):¬ Pr n:=fun p=>p.2 2 (by omega) (by omega) (by omega) h2
theorem yq{n d:Int}(h9:n<=999999)(h0:3<=d)(hs:d*d<=n)(h:n % d=0):¬ Pr n:=fun p=>by
 have t:d<=1000:=by
  by_cases c2:1001<=d
  . have:=pC (a:=1001) (b:=d) (by omega) c2
    omega
  . omega
 exact p.2 d (by omega) t hs h
theorem uj{n d:Int}(h9:n<=999999)(h0:3<=d)(hs:d*d<=n):d<=999:=by
 by_cases c2:1000<=d
 . have:=pC (a:=1000) (b:=d) (by omega) c2
   omega
 . omega
theorem Cb{n d:Int}(h0:3<=d)(hs:d*d<=n):d<=n:=by
 have:=qX0 (show(1:Int)<=d by omega) (show(0:Int)<=d by omega)
 omega
end Mine
namespace Mine
def bL:Nat->List (List Int)
 | 0=>[[]]
 | n+1=>(bL n).flatMap fun s=>[s++[0],s++[1]]
theorem lE{α β:Type}(f g:α->β):∀l:List α,(l.flatMap fun s=>[f s,g s]).length=2*l.length
 | []=>rfl
 | x::r=>by
   have ih:=lE f g r;simp only[List.flatMap_cons,zN0,qC0,List.length_nil];omega
theorem jg:∀n:Nat,(bL n).length=2 ^ n
 | 0=>rfl
 | n+1=>by rw[bL,lE,jg n,Nat.pow_succ];omega
theorem ft:∀(n:Nat)(s:List Int),s∈bL n->s.length=n
 | 0,s,h=>by
   have:s=[]:=by simpa [bL]using h
   subst this;rfl
 | n+1,s,h=>by
   rw[bL,List.mem_flatMap]at h;obtain⟨t,ht,hs⟩:=h
   have:=ft n t ht
   simp at hs
   rcases hs with rfl | rfl <;> simp [this]
theorem lm{n:Nat}(h:n<=6):2 ^ n<=64:=Nat.pow_le_pow_right (by decide) h
end Mine
namespace Mine
def Pm(p:Int):Prop:=1<p/\∀a:Int,¬ p ∣ a->∃f:Int,p ∣ f*a-1
theorem Bj{a p:Int}(hp:1<p):∀(n:Nat){former ff rest f:Int},rest.toNat<=n->Eu a p former ff rest f->∃g:Int,g*a % p=1
 | 0,former,ff,rest,f,hn,E=>by
   have:=E.r0
   omega
 | n+1,former,ff,rest,f,hn,E=>by
   by_cases c:rest=1
   . exact⟨f,(Bk E c hp).2.2⟩
   . obtain⟨E2,lt⟩:=wG E c;exact Bj hp n (by omega) E2
theorem sq{p:Int}(h:Pr p)(hp:p<1002001):Pm p:=by
 have p1:1<p:=by have:=h.1;omega
 refine ⟨p1,fun a ha=>?_⟩;have a0:0<a % p:=by
  have:=zU0 a (show p≠0 by omega)
  by_cases c:a % p=0
  . exact absurd (Int.dvd_of_emod_eq_zero c) ha
  . omega
 have a1:a % p<p:=zY0 _ (by omega);obtain⟨g,hg⟩:=Bj p1 _ (zF0 _) (tu h hp a0 a1);refine⟨g,?_⟩;have e1:g*a % p=1:=by rw[←hg,Int.mul_emod g (a % p),Int.emod_emod,←Int.mul_emod]
 have:=Int.emod_add_mul_ediv (g*a) p
 exact⟨g*a / p,by omega⟩
theorem Pm.mul{p a b:Int}(h:Pm p)(hd:p ∣ a*b)(ha:¬ p ∣ a):p ∣ b:=by
 obtain⟨f,k,hk⟩:=h.2 a ha;obtain⟨m,hm⟩:=hd;exact⟨f*m-k*b,by grind⟩
theorem Pm.not_mul{p a b:Int}(h:Pm p)(ha:¬ p ∣ a)(hb:¬ p ∣ b):¬ p ∣ a*b:=fun z=>hb (h.mul z ha)
def ch:Nat->Nat->Nat
 | _,0=>1
 | 0,_+1=>0
 | n+1,k+1=>ch n k+ch n (k+1)
theorem kI(n:Nat):ch n 0=1:=by cases n <;> rfl
theorem lG:∀(n k:Nat),n<k->ch n k=0
 | 0,k+1,_=>rfl
 | n+1,k+1,h=>by
   show ch n k+ch n (k+1)=0;rw[lG n k (by omega),lG n (k+1) (by omega)]
theorem CQ(n:Nat):ch n n=1:=by
 induction n with
 | zero=>rfl
 | succ n ih=>
   show ch n n+ch n (n+1)=1;rw[ih,lG n (n+1) (by omega)]
theorem rf:∀(n k:Nat),(k+1)*ch (n+1) (k+1)=(n+1)*ch n k
 | 0,0=>rfl
 | 0,k+1=>by
   show(k+2)*(ch 0 (k+1)+ch 0 (k+2))=1*ch 0 (k+1);rw[lG 0 (k+1) (by omega),lG 0 (k+2) (by omega)]
   simp
 | n+1,0=>by
   have h:=rf n 0;rw[kI n]at h;show(0+1)*(ch (n+1) 0+ch (n+1) (0+1))=(n+1+1)*ch (n+1) 0;rw[kI (n+1)];omega
 | n+1,k+1=>by
   have h1:=rf n k;have h2:=rf n (k+1);show(k+2)*(ch (n+1) (k+1)+ch (n+1) (k+2))=(n+2)*ch (n+1) (k+1);have e:ch (n+1) (k+1)=ch n k+ch n (k+1):=rfl
   grind
def sm(f:Nat->Int):Nat->Int
 | 0=>0
 | n+1=>sm f n+f n
theorem nj{f g:Nat->Int}:∀n,(∀k,k<n->f k=g k)->sm f n=sm g n
 | 0,_=>rfl
 | n+1,h=>by
   show sm f n+f n=sm g n+g n;rw[nj n (fun k hk=>h k (by omega)),h n (by omega)]
theorem zw(f g:Nat->Int):∀n,sm (fun k=>f k+g k) n=sm f n+sm g n
 | 0=>rfl
 | n+1=>by
   show sm (fun k=>f k+g k) n+(f n+g n)=(sm f n+f n)+(sm g n+g n)
   rw[zw f g n];omega
theorem zu(c:Int)(f:Nat->Int):∀n,sm (fun k=>c*f k) n=c*sm f n
 | 0=>by simp [sm]
 | n+1=>by
   show sm (fun k=>c*f k) n+c*f n=c*(sm f n+f n)
   rw[zu c f n]
   grind
theorem kc(f:Nat->Int):∀n,sm f (n+1)=f 0+sm (fun k=>f (k+1)) n
 | 0=>by simp [sm]
 | n+1=>by
   show sm f (n+1)+f (n+1)=f 0+(sm (fun k=>f (k+1)) n+f (n+1))
   rw[kc f n];omega
theorem zv{p:Int}{f:Nat->Int}:∀n,(∀k,k<n->p ∣ f k)->p ∣ sm f n
 | 0,_=>⟨0,by simp [sm]⟩
 | n+1,h=>Int.dvd_add (zv n fun k hk=>h k (by omega)) (h n (by omega))
theorem Dx(a:Int):∀n:Nat,(a+1) ^ n=sm (fun k=>(ch n k:Int)*a ^ k) (n+1)
 | 0=>by simp [sm,ch]
 | n+1=>by
   have ih:=Dx a n;rw[Int.pow_succ,ih,kc (fun k=>((ch (n+1) k:Nat):Int)*a ^ k) (n+1)];have e1:sm (fun k=>((ch (n+1) (k+1):Nat):Int)*a ^ (k+1)) (n+1)=a*sm (fun k=>(ch n k:Int)*a ^ k) (n+1)+sm (fun k=>(ch n (k+1):Int)*a ^ (k+1)) (n+1):=by
    rw[←zu,←zw];refine nj _ fun k _=>?_
    have:ch (n+1) (k+1)=ch n k+ch n (k+1):=rfl
    rw[this,Int.natCast_add,Int.pow_succ]
    grind
   have e2:sm (fun k=>(ch n k:Int)*a ^ k) (n+1)=1+sm (fun k=>(ch n (k+1):Int)*a ^ (k+1)) (n+1):=by
    rw[kc]
    have:sm (fun k=>(ch n (k+1):Int)*a ^ (k+1)) (n+1)=sm (fun k=>(ch n (k+1):Int)*a ^ (k+1)) n:=by
     show _+(ch n (n+1):Int)*a ^ (n+1)=_;rw[lG n (n+1) (by omega)]
     simp
    rw[this,kI]
    simp
   rw[e1,kI]
   grind
theorem EV{p:Int}(h:Pm p){n k:Nat}(hn:(n:Int)+1=p)(hk:k<n):p ∣ ((ch (n+1) (k+1):Nat):Int):=by
 have e:((k:Int)+1)*((ch (n+1) (k+1):Nat):Int)=p*((ch n k:Nat):Int):=by
  have:=rf n k
  rw[←hn];exact_mod_cast this
 refine h.mul (a:=(k:Int)+1) ⟨_,e⟩ fun hd=>?_
 have:=Int.le_of_dvd (by omega) hd
 omega
theorem oH{p:Int}(h:Pm p):∀a:Nat,p ∣ (a:Int) ^ p.toNat-a
 | 0=>by
   have:p.toNat≠0:=by have:=h.1;omega
   simp [Int.zero_pow this]
 | a+1=>by
   have ih:=oH h a;obtain⟨n,hn⟩:∃n:Nat,p.toNat=n+1:=⟨p.toNat-1,by have:=h.1;omega⟩
   have hp:(n:Int)+1=p:=by have:=h.1;omega
   rw [hn]at ih ⊢;have b:=Dx (a:Int) (n+1);have e:sm (fun k=>(ch (n+1) k:Int)*(a:Int) ^ k) (n+1+1)=sm (fun k=>(ch (n+1) (k+1):Int)*(a:Int) ^ (k+1)) n+(a:Int) ^ (n+1)+1:=by
    rw[kc];show _+(sm _ n+(ch (n+1) (n+1):Int)*(a:Int) ^ (n+1))=_;rw[CQ,kI]
    simp
    omega
   have d:p ∣ sm (fun k=>(ch (n+1) (k+1):Int)*(a:Int) ^ (k+1)) n:=zv n fun k hk=>Int.dvd_mul_of_dvd_left (EV h hp hk)
   obtain⟨u,hu⟩:=ih;obtain⟨v,hv⟩:=d;refine⟨u+v,?_⟩;rw[Int.natCast_add];show((a:Int)+1) ^ (n+1)-((a:Int)+1)=_;rw[b,e]
   grind
theorem EI{p a:Int}(h:Pm p)(ha:¬ p ∣ a)(a0:0<=a):p ∣ a*a ^ (p-2).toNat-1:=by
 obtain⟨n,hn⟩:∃n:Nat,p.toNat=n+2:=⟨p.toNat-2,by have:=h.1;omega⟩
 have e:(p-2).toNat=n:=by omega
 have f:=oH h a.toNat;rw[Int.toNat_of_nonneg a0,hn]at f;rw[e];have g:a ^ (n+2)-a=a*(a*a ^ n-1):=by
  rw[Int.pow_succ,Int.pow_succ]
  grind
 rw[g]at f;exact h.mul f ha
def IsPoly:Nat->(Int->Int)->Prop
 | 0,f=>∀x,f x=0
 | n+1,f=>∃(a:Int)(g:Int->Int),IsPoly n g/\∀x,f x=a+x*g x
theorem IsPoly.congr:∀{n:Nat}{f g:Int->Int},IsPoly n f->(∀x,g x=f x)->IsPoly n g
 | 0,_,_,h,e=>fun x=>(e x).trans (h x)
 | _+1,_,_,⟨a,k,hk,h⟩,e=>⟨a,k,hk,fun x=>(e x).trans (h x)⟩
theorem IsPoly.zero:∀n:Nat,IsPoly n fun _=>0
 | 0=>fun _=>rfl
 | n+1=>⟨0,fun _=>0,IsPoly.zero n,fun x=>by simp⟩
theorem IsPoly.up:∀{n:Nat}{f:Int->Int},IsPoly n f->IsPoly (n+1) f
 | 0,f,h=>⟨0,fun _=>0,fun _=>rfl,fun x=>by rw[h x];simp⟩
 | n+1,f,⟨a,g,hg,h⟩=>⟨a,g,hg.up,h⟩
theorem IsPoly.upTo{n:Nat}{f:Int->Int}(h:IsPoly n f):∀m,n<=m->IsPoly m f:=fun m hm=>by
 obtain⟨k,rfl⟩:∃k,m=n+k:=⟨m-n,by omega⟩
 clear hm
 induction k with
 | zero=>exact h
 | succ k ih=>exact ih.up
theorem IsPoly.add:∀{n:Nat}{f g:Int->Int},IsPoly n f->IsPoly n g->IsPoly n fun x=>f x+g x
 | 0,f,g,h,k=>fun x=>by show f x+g x=0;rw[h x,k x];rfl
 | n+1,f,g,⟨a,u,hu,h⟩,⟨b,v,hv,k⟩=>⟨a+b,fun x=>u x+v x,hu.add hv,fun x=>by show f x+g x=a+b+x*(u x+v x);rw[h x,k x];grind⟩
theorem IsPoly.mul(c:Int):∀{n:Nat}{f:Int->Int},IsPoly n f->IsPoly n fun x=>c*f x
 | 0,f,h=>fun x=>by show c*f x=0;rw[h x];simp
 | n+1,f,⟨a,u,hu,h⟩=>⟨c*a,fun x=>c*u x,hu.mul c,fun x=>by show c*f x=c*a+x*(c*u x);rw[h x];grind⟩
theorem IsPoly.lin{n:Nat}{f:Int->Int}(h:IsPoly n f)(r:Int):IsPoly (n+1) fun x=>(x-r)*f x:=by
 have h1:IsPoly (n+1) fun x=>x*f x:=⟨0,f,h,fun x=>by simp⟩
 exact(h1.add (h.up.mul (-r))).congr fun x=>by grind
theorem IsPoly.div:∀{n:Nat}{f:Int->Int},IsPoly (n+1) f->∀r:Int,∃q,IsPoly n q/\∀x,f x-f r=(x-r)*q x
 | 0,f,⟨a,g,hg,h⟩,r=>⟨fun _=>0,fun _=>rfl,fun x=>by rw[h x,h r,hg x,hg r];simp⟩
 | n+1,f,⟨a,g,hg,h⟩,r=>by
   obtain⟨q,hq,e⟩:=IsPoly.div hg r;refine⟨fun x=>g x+r*q x,hg.add (hq.up.mul r),fun x=>?_⟩
   have:=e x
   rw[h x,h r]
   grind
theorem IsPoly.roots{p:Int}(hp:Pm p):∀{n:Nat}{f:Int->Int}(rs:List Int),IsPoly n f->rs.length=n->rs.Pairwise (fun a b=>¬ p ∣ b-a)->(∀r∈rs,p ∣ f r)->∀x,p ∣ f x
 | 0,f,_,h,_,_,_,x=>⟨0,by rw[h x];simp⟩
 | n+1,f,[],_,hl,_,_,_=>by simp at hl
 | n+1,f,r::rs,h,hl,hd,hr,x=>by
   obtain ⟨q,hq,e⟩:=h.div r;have hd':=List.pairwise_cons.mp hd;have z:=IsPoly.roots hp rs hq (by simpa using hl) hd'.2 (fun s hs=>by
    have h1:p ∣ (s-r)*q s:=by
     rw[←e s];exact Int.dvd_sub (hr s (qF0 _ hs)) (hr r qG0)
    exact hp.mul h1 (hd'.1 s hs)) x
   have:f x=f r+(x-r)*q x:=by have:=e x;omega
   rw[this];exact Int.dvd_add (hr r qG0) (Int.dvd_mul_of_dvd_right z)
end Mine
namespace Mine
def pr(g:Nat->Int):Nat->Int
 | 0=>1
 | n+1=>pr g n*g n
theorem nL{f g:Nat->Int}:∀n,(∀k,k<n->f k=g k)->pr f n=pr g n
 | 0,_=>rfl
 | n+1,h=>by
   show pr f n*f n=pr g n*g n;rw[nL n (fun k hk=>h k (by omega)),h n (by omega)]
theorem nK(g:Nat->Int):∀n,pr g (n+1)=g 0*pr (fun k=>g (k+1)) n
 | 0=>by simp [pr]
 | n+1=>by
   show pr g (n+1)*g (n+1)=g 0*(pr (fun k=>g (k+1)) n*g (n+1))
   rw[nK g n,Int.mul_assoc]
def px(x:Int)(i:Nat):Nat->Int
 | 0=>1
 | n+1=>if n=i then px x i n else px x i n*(x-n)
theorem wc(i:Nat):∀n,IsPoly (if i<n then n else n+1) fun x=>px x i n
 | 0=>⟨1,fun _=>0,fun _=>rfl,fun x=>by simp [px]⟩
 | n+1=>by
   have ih:=wc i n
   by_cases c:n=i
   . subst c;rw[zA0 (qU0 n)]at ih;rw[zB0 (Nat.lt_succ_self n)];exact ih.congr fun x=>by simp [px]
   . have e:∀x,px x i (n+1)=(x-n)*px x i n:=fun x=>by
      show(if n=i then px x i n else px x i n*(x-n))=_;rw[zA0 c,Int.mul_comm]
     by_cases c2:i<n
     . rw[zB0 c2]at ih;rw[zB0 (by omega)];exact(ih.lin n).congr e
     . rw[zA0 c2]at ih;rw[zA0 (by omega)];exact(ih.lin n).congr e
theorem qA{k i:Nat}(h:k≠i):∀n,k<n->px (k:Int) i n=0
 | n+1,hk=>by
   show(if n=i then px (k:Int) i n else px (k:Int) i n*((k:Int)-n))=0
   by_cases c:n=i
   . rw[zB0 c];exact qA h n (by omega)
   . rw [zA0 c]
     by_cases c2:k=n
     . subst c2
       simp
     . rw [qA h n (by omega)]
       simp
def lag(v u:Nat->Int)(n:Nat)(x:Int):Int:=sm (fun i=>v i*px x i n*u i) n
theorem BT{n m:Nat}{f:Nat->Int->Int}:(∀i,i<m->IsPoly n (f i))->IsPoly n fun x=>sm (fun i=>f i x) m:=by
 induction m with
 | zero=>exact fun _=>IsPoly.zero n
 | succ m ih=>exact fun h=>(ih fun i hi=>h i (by omega)).add (h m (by omega))
theorem sR(v u:Nat->Int)(n:Nat):IsPoly n (lag v u n):=BT fun i hi=>by
 have h:=wc i n;rw[zB0 hi]at h;exact(h.mul (v i*u i)).congr fun x=>by grind
theorem zt{f:Nat->Int}{k:Nat}:∀n,k<n->(∀i,i<n->i≠k->f i=0)->sm f n=f k
 | n+1,hk,h=>by
   show sm f n+f n=f k
   by_cases c:k=n
   . subst c;have z:sm f k=0:=by
      have:sm f k=sm (fun _=>0) k:=nj k fun i hi=>h i (by omega) (by omega)
      rw[this];clear this h hk
      induction k with
      | zero=>rfl
      | succ k ih=>show sm (fun _=>0) k+0=0;rw[ih];rfl
     rw[z]
     simp
   . rw [zt n (by omega) (fun i hi=>h i (by omega)),h n (by omega) (by omega)]
     simp
def Wgt(p:Int)(n:Nat)(u:Nat->Int):Prop:=∀i,i<n->p ∣ px (i:Int) i n*u i-1
theorem vc{p:Int}{v u:Nat->Int}{n k:Nat}(hu:Wgt p n u)(hk:k<n):p ∣ lag v u n k-v k:=by
 unfold lag;rw[zt n hk fun i hi hne=>by rw[qA (Ne.symm hne) n hk];simp];obtain⟨m,hm⟩:=hu k hk;exact⟨v k*m,by grind⟩
theorem far{p:Int}{n:Nat}(hn:(n:Int)<=p):((List.range n).map fun k:Nat=>(k:Int)).Pairwise fun a b=>¬ p ∣ b-a:=by
 rw[List.pairwise_map];refine List.Pairwise.imp_of_mem (fun{a b} ha hb h=>?_) List.pairwise_lt_range;intro d
 have:=Int.le_of_dvd (by omega) d
 have hb':=List.mem_range.mp hb;omega
theorem alike{p:Int}(hp:Pm p){n:Nat}(hn:(n:Int)<=p){f g:Int->Int}(hf:IsPoly n f)(hg:IsPoly n g)(h:∀k:Nat,k<n->p ∣ f k-g k)(x:Int):p ∣ f x-g x:=by
 have hd:IsPoly n fun x=>f x-g x:=(hf.add (hg.mul (-1))).congr fun x=>by grind
 refine hd.roots hp ((List.range n).map fun k:Nat=>(k:Int)) (by simp) (far hn) (fun r hr=>?_) x;obtain⟨k,hk,rfl⟩:=List.mem_map.mp hr;exact h k (List.mem_range.mp hk)
theorem sQ{p:Int}(hp:Pm p){n:Nat}(hn:(n:Int)<=p){v u:Nat->Int}{P:Int->Int}(hu:Wgt p n u)(hP:IsPoly n P)(h:∀k:Nat,k<n->p ∣ v k-P k)(x:Int):p ∣ lag v u n x-P x:=
 alike hp hn (sR v u n) hP (fun k hk=>by
  have h1:=vc (v:=v) hu hk;have h2:=h k hk
  have:lag v u n k-P k=(lag v u n k-v k)+(v k-P k):=by omega
  rw[this];exact Int.dvd_add h1 h2) x
theorem AS{p:Int}(hp:Pm p){n:Nat}(hn:(n:Int)<=p){v u u':Nat->Int}(hu:Wgt p n u)(hu':Wgt p n u')(x:Int):p ∣ lag v u n x-lag v u' n x:=
 sQ hp hn hu (sR v u' n) (fun k hk=>by
  obtain⟨m,hm⟩:=vc (v:=v) hu' hk;exact⟨-m,by grind⟩) x
theorem nz(x:Int)(i:Nat):∀m,px x i (i+1+m)=pr (fun j=>x-j) i*pr (fun j=>x-(i+1+j:Nat)) m
 | 0=>by
   have h:∀k,k<=i->px x i k=pr (fun j=>x-j) k:=fun k=>by
    induction k with
    | zero=>exact fun _=>rfl
    | succ k ih=>
      intro hk;show(if k=i then px x i k else px x i k*(x-k))=pr (fun j=>x-j) k*(x-k)
      rw[zA0 (by omega),ih (by omega)]
   show(if i=i then px x i i else _)=_*1;rw[zB0 rfl,h i (zF0 _),Int.mul_one]
 | m+1=>by
   show(if i+1+m=i then _ else px x i (i+1+m)*(x-(i+1+m:Nat)))=pr (fun j=>x-j) i*(pr (fun j=>x-(i+1+j:Nat)) m*(x-(i+1+m:Nat)))
   rw[zA0 (by omega),nz x i m,Int.mul_assoc]
theorem wg(x:Int)(i:Nat):∀m,pr (fun j=>x-(i+m:Nat)+j) m=pr (fun j=>x-(i+1+j:Nat)) m
 | 0=>rfl
 | m+1=>by
   rw[nK];show _=pr (fun j=>x-(i+1+j:Nat)) m*(x-(i+1+m:Nat))
   have e:pr (fun k=>x-(i+(m+1):Nat)+(k+1:Nat)) m=pr (fun j=>x-(i+m:Nat)+j) m:=nL m fun k _=>by omega
   rw[e,wg x i m,Int.mul_comm]
   congr 1
   omega
def fac:Nat->Int
 | 0=>1
 | n+1=>fac n*((n:Int)+1)
theorem tt:∀n:Nat,pr (fun j=>(n:Int)-j) n=fac n
 | 0=>rfl
 | n+1=>by
   rw[nK];have e:pr (fun k=>((n+1:Nat):Int)-(k+1:Nat)) n=pr (fun j=>(n:Int)-j) n:=nL n fun k _=>by omega
   rw[e,tt n];show((n+1:Nat)-(0:Nat):Int)*fac n=fac n*((n:Int)+1)
   rw[Int.mul_comm]
   congr 1
theorem wF(i:Nat):∀m:Nat,pr (fun j=>(i:Int)-(i+1+j:Nat)) m=(-1) ^ m*fac m
 | 0=>rfl
 | m+1=>by
   show pr _ m*((i:Int)-(i+1+m:Nat))=(-1) ^ (m+1)*(fac m*((m:Int)+1))
   rw[wF i m,Int.pow_succ]
   have:((i:Int)-(i+1+m:Nat))=-((m:Int)+1):=by omega
   rw[this]
   grind
theorem zR(i m:Nat):px (i:Int) i (i+1+m)=fac i*((-1) ^ m*fac m):=by rw[nz,tt,wF]
theorem tj:∀(k d:Nat),fac d*pr (fun j=>((d+k:Nat):Int)-j) k=fac (d+k)
 | 0,d=>by simp [pr]
 | k+1,d=>by
   have ih:=tj k (d+1);rw[show d+1+k=d+(k+1) by omega]at ih;rw[←ih];show fac d*(pr (fun j=>((d+(k+1):Nat):Int)-j) k*(((d+(k+1):Nat):Int)-k))=fac d*((d:Int)+1)*pr (fun j=>((d+(k+1):Nat):Int)-j) k
   have:(((d+(k+1):Nat):Int)-k)=(d:Int)+1:=by omega
   rw[this]
   grind
theorem rc{p:Int}(hp:Pm p):∀n:Nat,(n:Int)<p->¬ p ∣ fac n
 | 0,_=>fun d=>by
   have:=Int.le_of_dvd (by decide) (show p ∣ 1 from d)
   have:=hp.1
   omega
 | n+1,h=>hp.not_mul (rc hp n (by omega)) fun d=>by
   have:=Int.le_of_dvd (by omega) d
   omega
theorem vL(m:Nat):((-1:Int) ^ m)*(-1) ^ m=1:=by
 induction m with
 | zero=>rfl
 | succ m ih=>rw[Int.pow_succ];grind
theorem Eh{p:Int}(hp:Pm p){n i:Nat}(hn:(n:Int)<=p)(hi:i<n):¬ p ∣ px (i:Int) i n:=by
 obtain⟨m,rfl⟩:∃m,n=i+1+m:=⟨n-(i+1),by omega⟩
 rw[zR];refine hp.not_mul (rc hp i (by omega)) (hp.not_mul (fun d=>?_) (rc hp m (by omega)));obtain⟨k,hk⟩:=d;have s:=vL m
 have:p ∣ 1:=⟨k*(-1) ^ m,by grind⟩
 have:=Int.le_of_dvd (by decide) this
 have:=hp.1
 omega
theorem BI{p:Int}{last:Nat}{sh:Nat->Int}(h:∀k,k<=last->p ∣ sh k*fac k-1):Wgt p (last+1) fun i=>(-1) ^ (last-i)*(sh i*sh (last-i)):=fun i hi=>by
 obtain⟨m,rfl⟩:∃m,last=i+m:=⟨last-i,by omega⟩
 show p ∣ px (i:Int) i (i+m+1)*((-1) ^ (i+m-i)*(sh i*sh (i+m-i)))-1;rw[show i+m+1=i+1+m by omega,zR,show i+m-i=m by omega];obtain⟨a,ha⟩:=h i (by omega);obtain⟨b,hb⟩:=h m (by omega);have s:=vL m;refine⟨a*(sh m*fac m)+b,?_⟩;have e:fac i*((-1) ^ m*fac m)*((-1) ^ m*(sh i*sh m))=((-1) ^ m*(-1) ^ m)*((sh i*fac i)*(sh m*fac m)):=by grind
 rw[e,s]
 grind
end Mine
namespace Mine
theorem IsPoly.prod:∀{m n:Nat}{f g:Int->Int},IsPoly (m+1) f->IsPoly (n+1) g->IsPoly (m+n+1) fun x=>f x*g x
 | 0,n,f,g,⟨a,u,hu,e⟩,hg=>by
   rw[Nat.zero_add];exact(hg.mul a).congr fun x=>by rw[e x,hu x];simp
 | m+1,n,f,g,⟨a,u,hu,e⟩,hg=>by
   have ih:=IsPoly.prod hu hg;have h1:IsPoly (m+n+1+1) fun x=>x*(u x*g x):=⟨0,_,ih,fun x=>by simp⟩
   have h2:IsPoly (m+n+1+1) fun x=>a*g x:=(hg.mul a).upTo _ (by omega)
   rw[show m+1+n+1=m+n+1+1 by omega];exact(h2.add h1).congr fun x=>by rw[e x];grind
theorem IsPoly.const(c:Int)(n:Nat):IsPoly (n+1) fun _=>c:=⟨c,fun _=>0,IsPoly.zero n,fun x=>by simp⟩
theorem IsPoly.self:IsPoly 2 fun x=>x:=⟨0,fun _=>1,IsPoly.const 1 0,fun x=>by simp⟩
theorem oJ(p x:Int):p ∣ x % p-x:=⟨-(x / p),by
 have:=Int.emod_add_mul_ediv x p
 rw[Int.mul_neg];omega⟩
end Mine
namespace Mine
open PySem L2
theorem gs{us:List Value}(h:us.length=1):∃a,us=[a]:=by
 cases us with
 | nil=>cases h
 | cons a r=>
   cases r with
   | nil=>exact⟨a,rfl⟩
   | cons _ _=>cases h
theorem yc{us:List Value}{n:Nat}(h:us.length=n+1):∃a r,us=a::r/\r.length=n:=by
 cases us with
 | nil=>cases h
 | cons a r=>exact⟨a,r,rfl,Nat.succ.inj h⟩
theorem fj{us:List Value}(h:us.length=2):∃a b,us=[a,b]:=by
 obtain⟨a,r,rfl,h1⟩:=yc h;obtain⟨b,rfl⟩:=gs h1;exact⟨a,b,rfl⟩
theorem jJ{us:List Value}(h:us.length=3):∃a b c,us=[a,b,c]:=by
 obtain⟨a,r,rfl,h1⟩:=yc h;obtain⟨b,c,rfl⟩:=fj h1;exact⟨a,b,c,rfl⟩
theorem vb{us:List Value}(h:us.length=4):∃a b c d,us=[a,b,c,d]:=by
 obtain⟨a,r,rfl,h1⟩:=yc h;obtain⟨b,c,d,rfl⟩:=jJ h1;exact⟨a,b,c,d,rfl⟩
theorem len5{us:List Value}(h:us.length=5):∃a b c d e,us=[a,b,c,d,e]:=by
 obtain⟨a,r,rfl,h1⟩:=yc h;obtain⟨b,c,d,e,rfl⟩:=vb h1;exact⟨a,b,c,d,e,rfl⟩
theorem len6{us:List Value}(h:us.length=6):∃a b c d e f,us=[a,b,c,d,e,f]:=by
 obtain⟨a,r,rfl,h1⟩:=yc h;obtain⟨b,c,d,e,f,rfl⟩:=len5 h1;exact⟨a,b,c,d,e,f,rfl⟩
theorem len7{us:List Value}(h:us.length=7):∃a b c d e f g,us=[a,b,c,d,e,f,g]:=by
 obtain⟨a,r,rfl,h1⟩:=yc h;obtain⟨b,c,d,e,f,g,rfl⟩:=len6 h1;exact⟨a,b,c,d,e,f,g,rfl⟩
def top(i:Nat):Stmt:=PySem.Challenge.pw_asktally_k56_too_many_rows_of_coins.main.body.getD i (.Pass ⟨0,0,0,0⟩)
abbrev eY:Stmt:=top 14
abbrev dF:Stmt:=top 15
abbrev dX:Stmt:=top 16
abbrev eT:Stmt:=top 18
abbrev ei:Stmt:=top 19
abbrev cS:Stmt:=top 20
abbrev eW:Stmt:=top 21
abbrev bQ:Stmt:=top 22
abbrev cX:Stmt:=top 24
abbrev dQ:Stmt:=top 25
abbrev gT:Stmt:=top 26
abbrev eZ:Stmt:=top 27
abbrev cU:Stmt:=top 28
abbrev eV:Stmt:=top 29
abbrev dP:Stmt:=top 30
abbrev eA:Stmt:=top 33
abbrev eg:Stmt:=top 35
abbrev eU:Stmt:=top 36
abbrev dO:Stmt:=top 40
abbrev eX:Stmt:=top 41
abbrev gg:Stmt:=top 42
abbrev ji:Stmt:=top 47
abbrev cG:Stmt:=top 48
abbrev dG:Stmt:=top 50
abbrev fZ:Stmt:=top 53
abbrev bZ:Stmt:=top 54
abbrev dY:Stmt:=top 55
abbrev dN:Stmt:=top 57
abbrev cV:Stmt:=top 58
abbrev dZ:Stmt:=top 62
abbrev cH:Stmt:=top 63
abbrev dB:Stmt:=top 64
abbrev dC:Stmt:=top 65
abbrev dU:Stmt:=top 66
abbrev gS:Stmt:=top 68
abbrev gQ:Stmt:=top 69
abbrev bu:Stmt:=top 70
abbrev dE:Stmt:=top 71
abbrev gR:Stmt:=top 72
abbrev dW:Stmt:=top 73
abbrev kh:Stmt:=top 74
section
variable {P:Program} {w:World} {K:W.Frag} {mg:Str->Option Value} {base:Heap}
abbrev cW:Stmt:=top 32
abbrev iN:Stmt:=top 38
abbrev jm:Stmt:=top 45
abbrev qw:Stmt:=top 61
structure Bl(mg:Str->Option Value):Prop where
 len:mg "len"=none
 range:mg "range"=none
 isinstance:mg "isinstance"=none
 int:mg "int"=none
 bool:mg "bool"=none
 list:mg "list"=none
 tuple:mg "tuple"=none
 max:mg "max"=none
 min:mg "min"=none
 reversed:mg "reversed"=none
 enumerate:mg "enumerate"=none
 sum:mg "sum"=none
 all:mg "all"=none
 zip:mg "zip"=none
 dict:mg "dict"=none
theorem wE(z:Int):0<=z % 2147483646+1/\z % 2147483646+1<=2147483646:=by omega
theorem fK:FnScope ["_law_script","_law_k","_law_cell","_law_own"] ["_law_script","_law_k"] (af gS):=⟨rfl,rfl,rfl,by decide +kernel,rfl,by decide +kernel,by decide +kernel⟩
theorem xK {f:Addr} {fd:FuncData} (F:Fun K "_law_feed" "_law_feed" gS f fd) (hlen:mg "len"=none):FnOk P w K mg base CX0 1 f fd ["_law_script","_law_k"] (zn K):=by
 refine F.ok fK (fun vs H Q E h=>?_) (fun cdv A outer s H vs Q E hr h=>?_)
 . obtain⟨a,ns,k,rfl,_⟩:=h;rfl
 obtain ⟨a,ns,k,rfl,hS,h63,k0,k1,q⟩:=h;refine⟨_,(ad (ay (i:=2) fK.nd rfl (Or.inl rfl) (ao bn (ao cq ai (pv 1)) ai))
  (ad (aR (ax iS (pv 1) (aO aM rfl hlen PySem.boot_len (aa (pv 0) ae)) (aF _)) (ag (ay (i:=2) fK.nd rfl (Or.inl rfl) (aY ix_list (pv 0) (pv 1) (fun _ _=>rfl)))) (ag (aR (ax oa (aO aM rfl hlen PySem.boot_len (aa (pv 0) ae)) ai (aF _)) (ag (ay (i:=2) fK.nd rfl (Or.inl rfl) (ao bn (ao cq (ao bh (aY ix_list (pv 0) (ao bh (pv 1) (aO aM rfl hlen PySem.boot_len (aa (pv 0) ae))) (fun _ _=>rfl)) ai) ai) (ao cq ai (pv 1))))) aG)))
  (ad (ay (i:=3) fK.nd rfl (Or.inl rfl) ai)
  (ad (aR (ax Dt (pv 2) (ao Ej ai ai) (aF _)) (ag (ay (i:=3) fK.nd rfl (Or.inl rfl) (pv 2))) aG)
  (ag (aD (da (aa (pv 3) (aa (ao bn (ao bh (ao bn (ao cq (ao bh (pv 2) ai) ai) (ao cq ai (pv 1))) ai) ai) ae))))))))),?_⟩
 have hl:(ns.map V.int).length=ns.length:=zG0 _;have hp:(10:Int) ^ (18:Int).toNat=1000000000000000000:=by decide
 refine⟨_,rfl,_,_,rfl,rfl,.inl ⟨by decide,by decide⟩,_,_,rfl,rfl,?_⟩;refine⟨_,rfl,_,rfl,a,_,rfl,.inl hS,_,_,rfl,rfl,_,rfl,?_⟩;refine sV (fun c=>?b1) (fun c=>?b2)
 case' b1=>
  have c':k<(((ns.map V.int).length:Nat):Int):=of_decide_eq_true c;rw[hl]at c';obtain⟨v,hv⟩:=BA (ns:=ns) k0 c';refine⟨_,rfl,_,rfl,a,_,_,_,rfl,rfl,hS,hv,?_⟩
 case' b2=>
  refine⟨_,rfl,a,_,rfl,.inl hS,_,_,rfl,rfl,_,rfl,?_⟩;refine sV (fun c2=>?b3) (fun c2=>?b4)
  case' b3=>
   have c':(0:Int)<(((ns.map V.int).length:Nat):Int):=of_decide_eq_true c2;have m0:=zU0 k (b:=(((ns.map V.int).length:Nat):Int)) (by omega);have m1:=zY0 k c';obtain⟨v,hv⟩:=BA (ns:=ns) m0 (by rw[hl]at m1 ⊢;exact m1);have n0:=zU0 v (b:=2147483629) (by decide);have n1:=zY0 v (b:=2147483629) (by decide);refine⟨_,rfl,_,rfl,_,rfl,a,_,rfl,.inl hS,_,_,rfl,rfl,c',a,_,_,_,rfl,rfl,hS,hv,_,_,rfl,rfl,(by show(0:Int)<_;decide),_,_,rfl,rfl,.inr ⟨by decide,by decide⟩,_,rfl,_,_,rfl,rfl,.inl ⟨by decide,by decide⟩,_,_,rfl,rfl,?_⟩
 all_goals
  refine⟨_,rfl,_,_,rfl,rfl,⟨by decide,by decide,by decide⟩,_,_,rfl,rfl,_,rfl,?_⟩;refine sV (fun c3=>?_) (fun c3=>?_)
  . have c4:=of_decide_eq_true c3;rw[hp]at c4;refine⟨_,rfl,_,rfl,_,rfl,_,_,rfl,rfl,(by show(0:Int)<_;decide),_,_,rfl,rfl,.inr ⟨by decide,by decide⟩,_,rfl,_,_,rfl,rfl,.inl ⟨by decide,by decide⟩,_,_,rfl,rfl,_,_,rfl,rfl,(by show(0:Int)<_;decide),_,_,rfl,rfl,(by show 2<=sizeLine;decide),fun p hp=>?_⟩;refine q p _ hp (zD0 hp _) ⟨_,_,am,Int.le_trans (by decide) c4,(wE _).1,(wE _).2⟩
  . refine⟨_,rfl,_,rfl,_,_,rfl,rfl,(by show(0:Int)<_;decide),_,_,rfl,rfl,.inr ⟨by decide,by decide⟩,_,rfl,_,_,rfl,rfl,.inl ⟨by decide,by decide⟩,_,_,rfl,rfl,_,_,rfl,rfl,(by show(0:Int)<_;decide),_,_,rfl,rfl,(by show 2<=sizeLine;decide),fun p hp=>?_⟩;refine q p _ hp (zD0 hp _) ⟨_,_,am,Int.le_refl 0,(wE _).1,(wE _).2⟩
theorem ms:FnScope ["_law_feed_here","_law_many","_law_digit","_law_one"] ["_law_feed_here","_law_many"] (af gQ):=⟨rfl,rfl,rfl,by decide +kernel,rfl,by decide +kernel,by decide +kernel⟩
theorem xI {f:Addr} {fd:FuncData} (F:Fun K "_law_take" "_law_take" gQ f fd):FnOk P w K mg base CX0 1 f fd ["_law_feed_here","_law_many"] qc:=by
 refine F.ok ms (fun vs H Q E h=>?_) (fun cdv A outer s H vs Q E hr h=>?_)
 . obtain⟨f,m,rfl,_⟩:=h;rfl
 obtain ⟨f,m,rfl,⟨own,st,hf,o0,s0,s1⟩,m0,m1,q⟩:=h;refine⟨_,(ad (aR (ax oa (aY ix_list (pv 0) ai (fun _ _=>rfl)) ai (aF _)) (ad (ay (i:=2) ms.nd rfl (Or.inl rfl) (ao bh (aY ix_list (pv 0) ai (fun _ _=>rfl)) (pv 1)))
  (ad (nJ (ao Al (aY ix_list (pv 0) ai (fun _ _=>rfl)) (pv 1)) (qI (pv 0) ai ke))
  (ag (aD (pv 2))))) aG)
  (ad (ay (i:=3) ms.nd rfl (Or.inl rfl) (ao bh (ao cq (aY ix_list (pv 0) ai (fun _ _=>rfl)) ai) ai))
  (ad (nJ (ao bn (ao bh (ao bn (ao cq (pv 3) ai) ai) ai) ai) (qI (pv 0) ai ke))
  (ag (aD (ao bh (ao wp (ao bn (ao cq (pv 3) ai) (aY ix_list (pv 0) ai (fun _ _=>rfl))) ai) (pv 1))))))),?_⟩
 refine⟨_,rfl,f,_,0,_,rfl,rfl,zI0 hf,rfl,_,_,rfl,rfl,_,rfl,?_⟩;refine sV (fun c=>?_) (fun c=>?_)
 . refine⟨_,rfl,f,_,0,_,rfl,rfl,zI0 hf,rfl,_,rfl,_,_,rfl,rfl,m0,?_⟩;refine⟨_,rfl,f,_,0,_,rfl,rfl,zI0 hf,rfl,_,rfl,_,_,rfl,rfl,⟨m0,m1⟩,_,rfl,f,_,0,0,rfl,rfl,hf,rfl,?_⟩;refine⟨_,rfl,?_⟩;exact q _ _ (zU0 _ (by omega)) (zY0 _ m0) ⟨_,_,am,Int.ediv_nonneg o0 (by omega),s0,s1⟩ (SameBut.upd _)
 . have a0:=zU0 (st*69621) (b:=2147483647) (by decide);have a1:=zY0 (st*69621) (b:=2147483647) (by decide);refine⟨_,rfl,f,_,1,_,rfl,rfl,zI0 hf,rfl,_,_,rfl,rfl,.inr ⟨by decide,by decide⟩,_,_,rfl,rfl,(by show(0:Int)<_;decide),?_⟩;refine⟨_,rfl,_,_,rfl,rfl,.inr ⟨by decide,by decide⟩,_,_,rfl,rfl,_,_,rfl,rfl,(by show(0:Int)<_;decide),_,_,rfl,rfl,_,rfl,f,_,1,1,rfl,rfl,hf,rfl,?_⟩;have b0:=zU0 (st*69621 % 2147483647*48271+30103) (b:=2147483646) (by decide);have b1:=zY0 (st*69621 % 2147483647*48271+30103) (b:=2147483646) (by decide);refine⟨_,rfl,_,_,rfl,rfl,.inr ⟨by decide,by decide⟩,_,rfl,f,_,1,_,rfl,rfl,zI0 am,rfl,_,_,rfl,rfl,_,_,rfl,rfl,⟨by decide,by decide⟩,_,rfl,_,_,rfl,rfl,m0,?_⟩;exact q _ _ (zU0 _ (by omega)) (zY0 _ m0) ⟨_,_,am,o0,by omega,by omega⟩ (SameBut.upd _)
def EA:Stmt->List Stmt
 | .If _ b _ _=>b
 | _=>[]
def Ez:Stmt->Expr
 | .If c _ _ _=>c
 | _=>.Constant .none 0 ⟨0,0,0,0⟩
def yP:Stmt->Expr
 | .Assign _ v _=>v
 | .Return (some v) _=>v
 | _=>.Constant .none 0 ⟨0,0,0,0⟩
def vp:Expr->List Expr
 | .List es _=>es
 | .BinOp _ _ (.List es _) _=>es
 | .Subscript (.List es _) _ _=>es
 | _=>[]
abbrev stm(s:Stmt)(i:Nat):Stmt:=(aB s).getD i (.Pass ⟨0,0,0,0⟩)
abbrev BR(s:Stmt)(i j:Nat):Stmt:=(EA (stm s i)).getD j (.Pass ⟨0,0,0,0⟩)
def wordsA:List Str:=["is","set","say","if","go","end","num","box","op","field","holds","claims"]
def wordsB:List Str:=["nota","nob","yesx","andy","ors","oddly"]
def wordsC:List Str:=["samey","rounds","dues","coins","truex","asks"]
@[irreducible] def uT:List Expr:=vp (yP (BR bu 6 0))
@[irreducible] def uS:List Expr:=vp (yP (BR bu 6 1))
@[irreducible] def uR:List Expr:=vp (yP (BR bu 6 2))
theorem AE:Consts uT wordsA:=by
 unfold uT;exact .cons (.cons (.cons (.cons (.cons (.cons (.cons (.cons (.cons (.cons (.cons (.cons .nil)))))))))))
theorem AD:Consts uS wordsB:=by
 unfold uS;exact .cons (.cons (.cons (.cons (.cons (.cons .nil)))))
theorem AC:Consts uR wordsC:=by
 unfold uR;exact .cons (.cons (.cons (.cons (.cons (.cons .nil)))))
theorem uP:∃p1 p2 p3 p4 p5 p6 p7 p8 p9 q1 q2 q3 q4 q5,aB bu=[stm bu 0,stm bu 1,stm bu 2,stm bu 3,stm bu 4,stm bu 5,
 .If (Ez (stm bu 6)) [.Assign [.Name "_law_words" p1] (.List uT p2) p3,.Assign [.Name "_law_words" p4] (.BinOp (.Name "_law_words" p5) .Add (.List uS p6) p7) p8,.Assign [.Name "_law_words" p9] (.BinOp (.Name "_law_words" q1) .Add (.List uR q2) q3) q4,BR bu 6 3] [] q5,stm bu 7]:=
 ⟨_,_,_,_,_,_,_,_,_,_,_,_,_,_,by with_unfolding_all rfl⟩
def LTR:Str:="bcdfghjklmnpqrstvwxz"
theorem Ep:∀c∈LTR.cps.toList,c≠97:=by decide +kernel
theorem va:∀c∈LTR.cps.toList,97<=c/\c<=122:=by decide +kernel
theorem yG:∀x∈(wordsA++wordsB)++wordsC,x.length<=20/\(∀c∈x.cps.toList,97<=c/\c<=122)/\x≠"aa":=by decide +kernel
def rP:Sp:=fun vs H Q _=>∃(f:Addr)(m:Int),vs=[.ref f,.int m]/\FeedAt H f/\0<=m/\m<=6/\∀(l:Addr)(ns:List Str)(H':Hp),H l=none->l≠f->H' l=some (.lst (ns.map V.str))->ns.length=m.toNat->(∀x∈ns,oS x)->ns.Nodup->FeedAt H' f->SameBut f H H'->Q (.ref l) H'
theorem wU:∀x∈(wordsA++wordsB)++wordsC,∃c∈x.cps.toList,c∉LTR.cps.toList:=by decide +kernel
theorem CH:∀a b:Fin 20,LTR.cps.toList[a.val]?=LTR.cps.toList[b.val]?->a=b:=by decide +kernel
theorem AB{ns:List Str}{t:Nat}{u:Int}(u0:0<=u)(u20:u<20)(hl:ns.length<=6)(h:∀(k:Nat) x,ns[k]?=some x->x.cps.toList[t]?=LTR.cps.toList[((u+7*(k:Int)) % 20).toNat]?):ns.Nodup:=by
 refine List.pairwise_iff_getElem.mpr fun i j hi hj ij e=>?_
 have h1:=h i _ (zP0 hi);have h2:=h j _ (zP0 hj);rw[e]at h1;have h3:=h1.symm.trans h2;have h4:=CH ⟨((u+7*(i:Int)) % 20).toNat,by omega⟩ ⟨((u+7*(j:Int)) % 20).toNat,by omega⟩ h3;have h5:=congrArg Fin.val h4;simp only at h5;omega
theorem En{ns:List Str}{x:Str}{j:Nat}(h:ns.Nodup)(hx:x∉ns):(ns.set j x).Nodup:=by
 refine List.pairwise_iff_getElem.mpr fun a b ha hb ab=>?_
 rw[List.length_set]at ha hb;rw[List.getElem_set,List.getElem_set]
 split
 . split
   . omega
   . intro e;exact hx (e▸qM0 hb)
 . split
   . intro e;exact hx (e▸qM0 ha)
   . exact List.pairwise_iff_getElem.mp h a b ha hb ab
theorem Fa{α:Type}{l:List α}{i:Int}{v:α}(h0:0<=i)(h:atI l i=some v):l[i.toNat]?=some v:=by
 have ek:((i.toNat:Nat):Int)=i:=by omega
 by_cases c:i.toNat<l.length
 . have q:atI l ((i.toNat:Nat):Int)=some l[i.toNat]:=cM (zP0 c);rw[ek,h]at q;rw[zP0 c];exact q.symm
 . exfalso
   unfold atI ixN at h;rw[zB0 h0,zA0 (by omega)]at h;cases h
theorem yY{zs:List Str}(h:∀z∈zs,z.length=1/\∀c∈z.cps.toList,c∈LTR.cps.toList):(zs.map (·.length)).sum=zs.length:=by
 induction zs with
 | nil=>rfl
 | cons a r ih=>
   rw[zS0,List.sum_cons,ih fun z hz=>h z (qF0 _ hz),(h a qG0).1,qC0];omega
theorem b8:FnScope ["_law_feed_here","_law_many","_law_letters","_law_common","_law_at","_law_first","_law_found","_law_k","_law_tail","_law_sign","_law_words"] ["_law_feed_here","_law_many"] (af bu):=⟨rfl,rfl,rfl,by decide +kernel,rfl,by decide +kernel,by decide +kernel⟩
theorem iX{H:Hp}{f p:Addr}{o:HO}(F:FeedAt H f)(h:p≠f):FeedAt (upd H p o) f:=by
 obtain⟨x,t,e,r⟩:=F;exact⟨x,t,by rw[aq (Ne.symm h)];exact e,r⟩
theorem uH {f:Addr} {fd:FuncData} (F:Fun K "_law_names" "_law_names" bu f fd) (hrange:mg "range"=none) (ba:Cal P w K mg base 1 "_law_take" ["_law_feed_here","_law_many"] qc):FnOk P w K mg base CX0 2 f fd ["_law_feed_here","_law_many"] rP:=by
 refine F.ok b8 (fun vs H Q E h=>?_) (fun cdv A outer s H vs Q E hr h=>?_)
 . obtain⟨f,m,rfl,_⟩:=h;rfl
 obtain ⟨f,m,rfl,hF,m0,m6,q⟩:=h;obtain⟨p1,p2,p3,p4,p5,p6,p7,p8,p9,q1,q2,q3,q4,q5,ebody⟩:=uP;rw[ebody];refine⟨_,(ad (ay (i:=2) b8.nd rfl (Or.inr rfl) aV)
  (ad (ay (i:=3) b8.nd rfl (Or.inl rfl) (kx PySem.F.plainAttrs_str PySem.F.slot_str_join PySem.F.type_str_join Cz aV (aa (dM (N:=["_law_letters","_law_feed_here"]) (ix:=[2,0]) rfl
   (CompScope.two (by with_unfolding_all rfl) (by decide) rfl (by decide) rfl (by decide +kernel) (by first | exact Or.inl rfl | exact Or.inr rfl) (by with_unfolding_all rfl) (by with_unfolding_all rfl) (by with_unfolding_all rfl) (by with_unfolding_all rfl) rfl rfl (by with_unfolding_all rfl) rfl rfl) rfl
   (cv rfl hrange (aa ai ae))
   (fun _ _ _=>eE (aY AW (pv 1) (aJ ba hr (by decide) rfl (aa (pv 2) (aa ai ae))) (fun _ _=>rfl)))) ae)))
  (ad (ay (i:=4) b8.nd rfl (Or.inl rfl) (aJ ba hr (by decide) rfl (aa (pv 0) (aa ai ae))))
  (ad (ay (i:=5) b8.nd rfl (Or.inl rfl) (aJ ba hr (by decide) rfl (aa (pv 0) (aa ai ae))))
  (ad (ay (i:=6) b8.nd rfl (Or.inl rfl) (da ae))
  (ad (dR PassesOwn.never rfl (cv rfl hrange (aa (pv 1) ae)) (cB (i:=7) b8.nd rfl (Or.inl rfl)) (ad (ay (i:=8) b8.nd rfl (Or.inl rfl) (ao bh (aJ ba hr (by decide) rfl (aa (pv 0) (aa (ao cj ai (pv 4)) ae))) ai))
   (ad (ay (i:=9) b8.nd rfl (Or.inl rfl) (aY AW (pv 2) (ao bh (ao bn (pv 5) (ao cq ai (pv 7))) ai) (fun _ _=>rfl)))
   (ag (bX (kx PySem.F.plainAttrs_list PySem.F.slot_list_append PySem.F.type_list_append fh (pv 6) (aa (ao og (ao og (ku zy (pv 3) qH (ko (pv 4))) (pv 9)) (ku zy (pv 3) (ko (pv 4)) (ko (ao bn (pv 4) (pv 8))))) ae)))))))
  (ad (aR (PW.pt (qD (ax oa (pv 1) ai (aF _)) (qC (ax bb (aJ ba hr (by decide) rfl (aa (pv 0) (aa ai ae))) ai (aF _))))) (ad (ay (i:=10) b8.nd rfl (Or.inl rfl) (da (jB AE)))
   (ad (ay (i:=10) b8.nd rfl (Or.inl rfl) (ao qL (pv 10) (da (jB AD))))
   (ad (ay (i:=10) b8.nd rfl (Or.inl rfl) (ao qL (pv 10) (da (jB AC))))
   (ag (nJ (aY ix_list (pv 10) (aJ ba hr (by decide) rfl (aa (pv 0) (aa ai ae))) (fun _ _=>rfl)) (qI (pv 6) (aJ ba hr (by decide) rfl (aa (pv 0) (aa (pv 1) ae))) ke)))))) aG)
  (ag (aD (pv 6)))))))))),?_⟩
 refine⟨rfl,5,rfl,by decide,by decide,fun D hD=>?_⟩;have Df:=hF.ne hD;have L20:LTR.cps.toList.length=20:=by decide +kernel
 refine fk (fun i H'=>∃zs:List Str,H' D=some (.lst (zs.map V.str))/\zs.length=i/\(∀z∈zs,z.length=1/\∀c∈z.cps.toList,c∈LTR.cps.toList)/\FeedAt H' f/\SameBut f H H') ⟨[],by rw[am];rfl,rfl,by simp,hF.same (zD0 hD _),zL0 (zD0 hD _)⟩ ?_ ?_
 . rintro i H3 hi ⟨zs,hl,zl,z1,F3,S3⟩;have i5:i<5:=hi;refine⟨_,rfl,_,rfl,f,20,rfl,F3,by decide,by decide,fun d H4 d0 d26 F4 S4=>?_⟩;obtain⟨c,hc,hm⟩:=wS (l:=LTR.cps.toList) (i:=d) d0 (by rw[L20];exact d26);have hD4:H4 D=some (.lst (zs.map V.str)):=S4 D _ Df hl;refine⟨_,d,c,rfl,rfl,eC (by decide +kernel),hc,_,hD4,?_,Nx.of hi ⟨zs++[⟨#[c]⟩],?_,?_,?_,iX F4 Df,?_⟩⟩
   . rw[zG0,zl];exact bi (Nat.le_of_lt (Nat.lt_trans i5 (by decide)))
   . rw[am,zM0];rfl
   . rw[zN0,qH0,zl]
   . intro z hz;rcases qL0 hz with h | h
     . exact z1 z h
     . rw [zT0 h];refine⟨rfl,fun c' hc'=>?_⟩
       have:c'=c:=by simpa using hc'
       subst this;exact hm
   . intro b o hb e;rw[aq (aN e hD)];exact S4 b o hb (S3 b o hb e)
 rintro H3 ⟨zs,hl,zl,z1,F3,S3⟩;have sl:=yY z1;have zl5:zs.length=5:=zl;refine⟨_,D,zs,rfl,rfl,zI0 hl,(by decide +kernel),by omega,?_⟩;have jl:(Txt.join "" zs).length=5:=by
  have:=size_glued "" zs
  have e0:(("":Str)).length=0:=by decide +kernel
  rw[e0,Nat.mul_zero]at this;show(Builtin.Str.glued "" zs).length=5;omega
 have jc:∀c∈(Txt.join "" zs).cps.toList,c∈LTR.cps.toList:=fun c hc=>by
  obtain⟨z,hz,h⟩:=xY hc;exact(z1 z hz).2 c h
 generalize Txt.join "" zs=cm at jl jc;refine⟨_,rfl,f,6,rfl,F3,by decide,by decide,fun t H4 t0 t6 F4 S4=>?_⟩;refine⟨_,rfl,f,20,rfl,F4,by decide,by decide,fun u H5 u0 u20 F5 S5=>?_⟩;refine⟨(by show 0<=sizeLine;decide),fun L hL=>?_⟩;have S05:SameBut f H H5:=S3.trans (S4.trans S5);have Lf:=F5.ne hL;have L0:H L=none:=by
  cases e:H L with
  | none=>rfl
  | some o=>rw[S05 L o Lf e]at hL;cases hL
 refine ⟨_,rfl,m,rfl,by omega,by omega,eB (fun i σ H'=>∃(x7 x8 x9:Option V)(ns:List Str),σ=[some (.ref f),some (.int m),some (.str LTR),some (.str cm),some (.int t),some (.int u),some (.ref L),x7,x8,x9,none]/\H' L=some (.lst (ns.map V.str))/\ns.length=i/\(∀x∈ns,oS x)/\(∀x∈ns,∀c∈x.cps.toList,c∈LTR.cps.toList)/\(∀(k:Nat) x,ns[k]?=some x->x.cps.toList[t.toNat]?=LTR.cps.toList[((u+7*(k:Int)) % 20).toNat]?)/\FeedAt H' f/\SameBut f H H')
  ⟨_,_,_,[],rfl,by rw[am];rfl,rfl,by simp,by simp,by simp,F5.same (zD0 hL _),S05.trans (zL0 (zD0 hL _))⟩ ?_ ?_⟩
 . rintro i σ H6 hi ⟨x7,x8,x9,ns,rfl,hns,nl,nok,nlt,nat,F6,S6⟩;refine⟨_,rfl,_,rfl,_,_,rfl,rfl,f,_,rfl,F6,(Int.sub_pos_of_lt t6),(Int.lt_of_le_of_lt (Int.sub_le_self 6 t0) (by decide)),fun d H7 d0 d1 F7 S7=>?_⟩;refine⟨_,_,rfl,rfl,(by show(0:Int)<_;decide),?_⟩;obtain⟨c,hc,hm⟩:=wS (l:=LTR.cps.toList) (i:=(u+7*(0+(i:Int))) % 20) (zU0 _ (by decide)) (by rw[L20];exact zY0 _ (by decide));refine⟨_,rfl,_,rfl,_,rfl,_,_,rfl,rfl,?_,_,_,rfl,rfl,_,_,rfl,rfl,(by show(0:Int)<_;decide),_,_,c,rfl,rfl,eC (by decide +kernel),hc,?_⟩
   . exact .inl ⟨by decide,by decide⟩
   have hL7:=S7 L _ Lf hns;have z1:(Txt.slice cm none (some t)).length<=cm.length:=Txt.slice_le cm none (some t);have z2:(Txt.slice cm (some t) (some (t+d % 3))).length<=cm.length:=Txt.slice_le cm _ _;have z3:((⟨#[c]⟩:Str)).length=1:=rfl;refine⟨_,rfl,.inl ⟨rfl,_,zI0 hL7⟩,?_⟩;refine⟨_,rfl,_,rfl,_,rfl,_,rfl,eC (by rw[jl];decide),_,rfl,_,_,rfl,rfl,eC (by rw[z3];omega),?_⟩;refine⟨_,rfl,_,rfl,_,rfl,_,rfl,_,rfl,_,_,rfl,rfl,_,rfl,_,rfl,eC (by rw[jl];decide),_,_,rfl,rfl,eC (by rw[Str.length_append,z3];omega),?_⟩;refine⟨L,_,_,rfl,rfl,hL7,?_,?_⟩
   . rw[zG0];exact bi (by omega)
   refine⟨_,_,_,ns++[(Txt.slice cm none (some t)++⟨#[c]⟩)++Txt.slice cm (some t) (some (t+d % 3))],rfl,?_,?_,?_,?_,?_,iX F7 Lf,?_⟩
   . rw[am,zM0];rfl
   . rw[zN0,qH0,nl]
   . intro x hx;rcases qL0 hx with h | h
     . exact nok x h
     . rw [zT0 h];refine⟨?_,fun c' hc'=>?_,fun ea=>?_⟩
       . rw[Str.length_append,Str.length_append,z3];omega
       rotate_left
       . have cm1:c∈(((Txt.slice cm none (some t)++⟨#[c]⟩)++Txt.slice cm (some t) (some (t+d % 3)):Str)).cps.toList:=by
          rw[Str.cps_append,Str.cps_append]
          simp
         rw[ea]at cm1;exact Ep c hm ((by decide +kernel:∀c∈(("aa":Str)).cps.toList,c=97) c cm1)
       . rcases mem_append hc' with h | h
         . rcases mem_append h with h | h
           . exact va _ (jc _ (jC h))
           . have:c'=c:=by simpa using h
             subst this;exact va _ hm
         . exact va _ (jc _ (jC h))
   . intro x hx c' hc';rcases qL0 hx with h | h
     . exact nlt x h c' hc'
     . rw [zT0 h]at hc';rcases mem_append hc' with h | h
       . rcases mem_append h with h | h
         . exact jc _ (jC h)
         . have:c'=c:=by simpa using h
           subst this;exact hm
       . exact jc _ (jC h)
   . intro k x hx
     by_cases ck:k<ns.length
     . rw[List.getElem?_append_left ck]at hx;exact nat k x hx
     . have kl:k<(ns++[(Txt.slice cm none (some t)++⟨#[c]⟩)++Txt.slice cm (some t) (some (t+d % 3))]).length:=(zX0 hx).1;rw[zN0,qH0]at kl;have ek:k=i:=by omega
       subst ek;rw[List.getElem?_append_right (by omega),nl,Nat.sub_self]at hx;have ex:(Txt.slice cm none (some t)++⟨#[c]⟩)++Txt.slice cm (some t) (some (t+d % 3))=x:=zR0 hx;rw[←ex];have cl:cm.cps.toList.length=5:=jl;have es:Txt.slice cm none (some t)=⟨((cm.cps.toList.drop 0).take (t-0).toNat).toArray⟩:=StrLaws.sliceText_to ⟨t0,by omega⟩;have el:(Txt.slice cm none (some t)).cps.toList.length=t.toNat:=by
        rw[es];simp only[List.drop_zero,Int.sub_zero,qN0];omega
       have ea:((Txt.slice cm none (some t)++⟨#[c]⟩)++Txt.slice cm (some t) (some (t+d % 3))).cps.toList=(Txt.slice cm none (some t)).cps.toList++([c]++(Txt.slice cm (some t) (some (t+d % 3))).cps.toList):=by
        rw[Str.cps_append,Str.cps_append]
        simp
       rw[ea,List.getElem?_append_right (by omega),el,Nat.sub_self];have hc2:LTR.cps.toList[((u+7*(0+(k:Int))) % 20).toNat]?=some c:=Fa (zU0 _ (by decide)) hc;rw[Int.zero_add]at hc2;rw[hc2];rfl
   . intro b o hb e;rw[aq (aN e L0)];exact S7 b o hb (S6 b o hb e)
 . rintro σ H6 ⟨x7,x8,x9,ns,rfl,hns,nl,nok,nlt,nat,F6,S6⟩;have nnd:ns.Nodup:=AB u0 u20 (by omega) nat;refine⟨_,rfl,_,_,rfl,rfl,_,rfl,?_⟩;have fin:∀H':Hp,∀ns:List Str,H' L=some (.lst (ns.map V.str))->ns.length=m.toNat->(∀x∈ns,oS x)->ns.Nodup->FeedAt H' f->SameBut f H H'->Q (.ref L) H':=fun H' ns a b c nd d e=>q L ns H' L0 Lf a b c nd d e
   by_cases c1:(0:Int)<m
   . refine bz c1 ?_;refine⟨_,rfl,f,3,rfl,F6,by decide,by decide,fun d H7 d0 d1 F7 S7=>?_⟩;refine⟨rfl,_,rfl,?_⟩;have hL7:=S7 L _ Lf hns;refine sV (fun _=>?_) (fun _=>?_)
     . refine ⟨(by show 12<=sizeLine;decide),fun l1 h1=>?_⟩;refine⟨_,rfl,(by show 6<=sizeLine;decide),fun l2 h2=>?_⟩;refine⟨l1,l2,wordsA.map V.str,wordsB.map V.str,rfl,rfl,zD0 h2 _ _ _ am,am,(by show 18<=sizeLine;decide),fun l3 h3=>?_⟩;refine⟨_,rfl,(by show 6<=sizeLine;decide),fun l4 h4=>?_⟩;refine⟨l3,l4,wordsA.map V.str++wordsB.map V.str,wordsC.map V.str,rfl,rfl,zD0 h4 _ _ _ am,am,(by show 24<=sizeLine;decide),fun l5 h5=>?_⟩;have G:=(zD0 h1 (.lst (wordsA.map V.str))).trans ((zD0 h2 (.lst (wordsB.map V.str))).trans ((zD0 h3 (.lst (wordsA.map V.str++wordsB.map V.str))).trans ((zD0 h4 (.lst (wordsC.map V.str))).trans (zD0 h5 (.lst ((wordsA.map V.str++wordsB.map V.str)++wordsC.map V.str))))));have F8:=F7.same G;have n5:=(F7.same ((zD0 h1 (.lst (wordsA.map V.str))).trans ((zD0 h2 (.lst (wordsB.map V.str))).trans ((zD0 h3 (.lst (wordsA.map V.str++wordsB.map V.str))).trans (zD0 h4 (.lst (wordsC.map V.str))))))).ne h5;refine⟨_,rfl,_,rfl,f,24,rfl,F8,by decide,by decide,fun e H9 e0 e1 F9 S9=>?_⟩;obtain⟨v,hv,vm⟩:=wS (l:=(wordsA.map V.str++wordsB.map V.str)++wordsC.map V.str) (i:=e) e0 (by
        have:((wordsA.map V.str++wordsB.map V.str)++wordsC.map V.str).length=24:=by rfl
        omega)
       rw[←zM0,←zM0]at vm;obtain⟨x,hx,rfl⟩:=List.mem_map.mp vm;refine⟨l5,_,e,_,rfl,rfl,zI0 (S9 l5 _ n5 am),hv,?_⟩;refine⟨_,rfl,_,rfl,_,rfl,f,m,rfl,F9,c1,by omega,fun j H10 j0 j1 F10 S10=>?_⟩;have hL10:=S10 L _ Lf (S9 L _ Lf (G L _ hL7));refine⟨L,_,j,j.toNat,rfl,rfl,hL10,?_,?_⟩
       . have jl:j<((ns.map V.str).length:Int):=by rw[zG0];omega
         unfold ixN;rw[zB0 j0,zB0 jl]
       refine⟨_,rfl,?_⟩;refine fin _ (ns.set j.toNat x) (by rw[am,List.map_set]) (by rw[List.length_set];exact nl) ?_ ?_ (iX F10 Lf) ?_
       . intro y hy;rcases List.mem_or_eq_of_mem_set hy with h | h
         . exact nok y h
         . rw[h];exact yG x hx
       . refine En nnd fun hm=>?_
         obtain⟨c,c1,c2⟩:=wU x hx;exact c2 (nlt x hm c c1)
       . intro b o hb e';rw[aq (aN e' L0)];exact S10 b o hb (S9 b o hb (G b o (S7 b o hb (S6 b o hb e'))))
     . refine⟨_,rfl,?_⟩;exact fin H7 ns hL7 nl nok nnd F7 (S6.trans S7)
   . refine aI c1 ?_;refine gx ?_;refine⟨_,rfl,?_⟩;exact fin H6 ns hns nl nok nnd F6 S6
theorem gl{x:Str}:∀{ns:List Str},x∈ns->∃j,eD x ns=some j/\j<ns.length
 | [],h=>by cases h
 | a::r,h=>by
   unfold eD
   by_cases c:a=x
   . exact⟨0,by rw[zB0 c],by simp⟩
   . rw [zA0 c];rcases qD0 h with e | e
     . exact absurd e.symm c
     . obtain⟨j,h1,h2⟩:=gl e;exact⟨j+1,by rw[h1];rfl,by simpa using h2⟩
theorem gB{a b:Str}(h:V.str a=V.str b):a=b:=by injection h
def dL (p:Int) (o:Str) (x y:Int):Int:=if o="and" then x*y % p else if o="or" then(x+y-x*y) % p else if o="odd" then(x+y-2*(x*y)) % p else(1-(x+y-2*(x*y))) % p
def Tr.worth(ns:List Str)(pt:List Int)(p:Int):Tr->Int
 | .is x=>match eD x ns with | some j=>pt.getD j 0 | none=>0
 | .yes=>1
 | .no=>0
 | .not a=>(1-a.worth ns pt p) % p
 | .bin o a b=>dL p o (a.worth ns pt p) (b.worth ns pt p)
def cg(pt:List Int)(p:Int):Prop:=∀x∈pt,0<=x/\x<p
theorem yj{p:Int}(hp:0<p)(o:Str)(x y:Int):0<=dL p o x y/\dL p o x y<p:=by
 have key:∀z:Int,0<=z % p/\z % p<p:=fun z=>⟨zU0 _ (by omega),zY0 _ hp⟩
 unfold dL
 repeat' split
 all_goals exact key _
theorem oE{l:List Int}{j:Nat}(h:j<l.length):l.getD j 0=l[j]:=by
 rw[qI0,zP0 h];rfl
theorem worth_rng{ns:List Str}{pt:List Int}{p:Int}(hp:1<p)(h:cg pt p)(hl:pt.length=ns.length):∀t:Tr,t.ok ns->0<=t.worth ns pt p/\t.worth ns pt p<p
 | .is x,ok=>by
   obtain⟨j,hj,jl⟩:=gl ok;show 0<=(match eD x ns with | some j=>pt.getD j 0 | none=>0)/\(match eD x ns with | some j=>pt.getD j 0 | none=>0)<p;rw[hj];show 0<=pt.getD j 0/\pt.getD j 0<p;rw[oE (by omega)];exact h _ (qM0 _)
 | .yes,_=>⟨by show(0:Int)<=1;decide,hp⟩
 | .no,_=>⟨Int.le_refl 0,by show(0:Int)<p;omega⟩
 | .not a,_=>⟨zU0 _ (by omega),zY0 _ (by omega)⟩
 | .bin o a b,_=>yj (by omega) _ _ _
def DU:Sp:=fun vs H Q _=>∃(o:Str)(x y p:Int),vs=[.str o,.int x,.int y,.int p]/\0<=x/\x<p/\p<2 ^ 40/\Q (.int (dL p o x y)) H
theorem fL:FnScope ["word","first","second","p","both","odd"] ["word","first","second","p"] (af cV):=⟨rfl,rfl,rfl,by decide +kernel,rfl,by decide +kernel,by decide +kernel⟩
theorem mi {f:Addr} {fd:FuncData} (F:Fun K "joined_worth" "joined_worth" cV f fd):FnOk P w K mg base CX0 1 f fd ["word","first","second","p"] DU:=by
 refine F.ok fL (fun vs H Q E h=>?_) (fun cdv A outer s H vs Q E hr h=>?_)
 . obtain⟨o,x,y,p,rfl,_⟩:=h;rfl
 obtain ⟨o,x,y,p,rfl,x0,xp,pb,k⟩:=h;refine⟨_,(ad (ay (i:=4) fL.nd rfl (Or.inl rfl) (ao cq (pv 1) (pv 2)))
  (ad (aR (ax bb (pv 0) aV (aF _)) (ag (aD (ao bh (pv 4) (pv 3)))) aG)
  (ad (aR (ax bb (pv 0) aV (aF _)) (ag (aD (ao bh (ao cj (ao bn (pv 1) (pv 2)) (pv 4)) (pv 3)))) aG)
  (ad (ay (i:=5) fL.nd rfl (Or.inl rfl) (ao cj (ao bn (pv 1) (pv 2)) (ao cq ai (pv 4))))
  (ad (aR (ax bb (pv 0) aV (aF _)) (ag (aD (ao bh (pv 5) (pv 3)))) aG)
  (ag (aD (ao bh (ao cj ai (pv 5)) (pv 3))))))))),?_⟩
 refine⟨_,rfl,_,rfl,_,_,rfl,rfl,.inl ⟨by omega,by omega⟩,?_⟩;refine⟨_,rfl,rfl,_,rfl,?_⟩
 by_cases c1:V.str o=V.str "and"
 . refine bz c1 ?_;have e:dL p o x y=x*y % p:=by unfold dL;rw[zB0 (gB c1)]
   rw[e]at k;exact⟨_,rfl,_,rfl,_,_,rfl,rfl,(show(0:Int)<p by omega),k⟩
 refine aI c1 ?_;have n1:¬ o="and":=fun z=>c1 (by rw[z])
 refine⟨_,rfl,rfl,_,rfl,?_⟩
 by_cases c2:V.str o=V.str "or"
 . refine bz c2 ?_;have e:dL p o x y=(x+y-x*y) % p:=by unfold dL;rw[zA0 n1,zB0 (gB c2)]
   rw[e]at k;exact⟨_,rfl,_,rfl,_,_,rfl,rfl,_,rfl,_,_,rfl,rfl,_,rfl,_,_,rfl,rfl,(show(0:Int)<p by omega),k⟩
 refine aI c2 ?_;have n2:¬ o="or":=fun z=>c2 (by rw[z])
 refine⟨_,rfl,_,rfl,_,_,rfl,rfl,_,rfl,_,_,rfl,rfl,.inl ⟨by decide,by decide⟩,_,_,rfl,rfl,?_⟩;refine⟨_,rfl,rfl,_,rfl,?_⟩
 by_cases c3:V.str o=V.str "odd"
 . refine bz c3 ?_;have e:dL p o x y=(x+y-2*(x*y)) % p:=by unfold dL;rw[zA0 n1,zA0 n2,zB0 (gB c3)]
   rw[e]at k;exact⟨_,rfl,_,rfl,_,_,rfl,rfl,(show(0:Int)<p by omega),k⟩
 refine aI c3 ?_;have n3:¬ o="odd":=fun z=>c3 (by rw[z])
 have e:dL p o x y=(1-(x+y-2*(x*y))) % p:=by unfold dL;rw[zA0 n1,zA0 n2,zA0 n3]
 rw[e]at k;exact⟨_,rfl,_,_,rfl,rfl,_,rfl,_,_,rfl,rfl,(show(0:Int)<p by omega),k⟩
def jb(n:Nat):Sp:=fun vs H Q _=>∃(v:V)(t:Tr)(a b:Addr)(ns:List Str)(pt:List Int)(p:Int),vs=[v,.ref a,.ref b,.int p]/\TreeAt H v t/\t.ok ns/\t.depth<=n/\NamesAt H a ns/\H b=some (.tup (pt.map V.int))/\pt.length=ns.length/\1<p/\p<2 ^ 40/\cg pt p/\Q (.int (t.worth ns pt p)) H
theorem iL:FnScope ["tree","switches","point","p","word","first"] ["tree","switches","point","p"] (af dN):=⟨rfl,rfl,rfl,by decide +kernel,rfl,by decide +kernel,by decide +kernel⟩
theorem tW {n:Nat} {f:Addr} {fd:FuncData} (F:Fun K "worth_of" "worth_of" dN f fd) (cz:Cal P w K mg base 1 "joined_worth" ["word","first","second","p"] DU) (e8:Cal P w K mg base (n+2) "worth_of" ["tree","switches","point","p"] (jb n)):FnOk P w K mg base CX0 (n+3) f fd ["tree","switches","point","p"] (jb (n+1)):=by
 refine F.ok iL (fun vs H Q E h=>?_) (fun cdv A outer s H vs Q E hr h=>?_)
 . obtain⟨v,t,a,b,ns,pt,p,rfl,_⟩:=h;rfl
 obtain⟨v,t,a,b,ns,pt,p,rfl,T,ok,dn,hN,hb,sl,p1,p40,po,k⟩:=h;have p0:(0:Int)<p:=by omega
 refine ⟨_,(ad (ay (i:=4) iL.nd rfl (Or.inl rfl) (aY bc (pv 0) ai (fun _ _=>rfl)))
  (ad (aR (ax bb (pv 4) aV (aF _)) (ag (aD (ao bh (aY bc (pv 2) (su PySem.F.plainAttrs_list PySem.F.plainAttrs_tuple (pv 1) (aa (aY bc (pv 0) ai (fun _ _=>rfl)) ae)) (fun _ _=>rfl)) (pv 3)))) aG)
  (ad (aR (ax bb (pv 4) aV (aF _)) (ag (aD ai)) aG)
  (ad (aR (ax bb (pv 4) aV (aF _)) (ag (aD ai)) aG)
  (ad (ay (i:=5) iL.nd rfl (Or.inl rfl) (aJ e8 hr (zF0 _) rfl (aa (aY bc (pv 0) ai (fun _ _=>rfl)) (aa (pv 1) (aa (pv 2) (aa (pv 3) ae))))))
  (ad (aR (ax bb (pv 4) aV (aF _)) (ag (aD (ao bh (ao cj ai (pv 5)) (pv 3)))) aG)
  (ag (aD (aJ cz hr (by omega) rfl (aa (pv 4) (aa (pv 5) (aa (aJ e8 hr (zF0 _) rfl (aa (aY bc (pv 0) ai (fun _ _=>rfl)) (aa (pv 1) (aa (pv 2) (aa (pv 3) ae))))) (aa (pv 3) ae))))))))))))),?_⟩
 cases T with
 | @is q x e=>
   refine⟨_,rfl,q,_,0,_,rfl,rfl,zE0 e,rfl,?_⟩;refine⟨_,rfl,rfl,_,rfl,?_⟩;refine bz rfl ?_;obtain⟨j,hj,jl⟩:=gl ok;have jl':j<pt.length:=by omega
   refine⟨_,rfl,_,rfl,a,ns,rfl,hN,_,rfl,q,_,1,_,rfl,rfl,zE0 e,rfl,rfl,x,j,rfl,hj,b,_,(j:Int),.int pt[j],rfl,rfl,zE0 hb,?_,_,rfl,_,_,rfl,rfl,p0,?_⟩
   . refine cM ?_;rw[qA0,zP0 jl'];rfl
   . have e1:(Tr.is x).worth ns pt p=pt[j] % p:=by
      show(match eD x ns with | some j=>pt.getD j 0 | none=>0)=_;rw[hj];show pt.getD j 0=_;rw[oE jl']
      have:=po _ (qM0 jl')
      rw[qP0 this.1 this.2]
     rw[e1]at k;exact k
 | @yes q e=>
   refine⟨_,rfl,q,_,0,_,rfl,rfl,zE0 e,rfl,?_⟩;refine⟨_,rfl,rfl,_,rfl,?_⟩;refine aI (by decide +kernel) ?_;refine⟨_,rfl,rfl,_,rfl,?_⟩;exact bz rfl k
 | @no q e=>
   refine⟨_,rfl,q,_,0,_,rfl,rfl,zE0 e,rfl,?_⟩;refine⟨_,rfl,rfl,_,rfl,?_⟩;refine aI (by decide +kernel) ?_;refine⟨_,rfl,rfl,_,rfl,?_⟩;refine aI (by decide +kernel) ?_;refine⟨_,rfl,rfl,_,rfl,?_⟩;exact bz rfl k
 | @not q u r e T1=>
   have dp:r.depth+1<=n+1:=dn;refine⟨_,rfl,q,_,0,_,rfl,rfl,zE0 e,rfl,?_⟩;refine⟨_,rfl,rfl,_,rfl,?_⟩;refine aI (by decide +kernel) ?_;refine⟨_,rfl,rfl,_,rfl,?_⟩;refine aI (by decide +kernel) ?_;refine⟨_,rfl,rfl,_,rfl,?_⟩;refine aI (by decide +kernel) ?_;refine⟨_,rfl,q,_,1,_,rfl,rfl,zE0 e,rfl,_,rfl,_,rfl,_,rfl,u,r,a,b,ns,pt,p,rfl,T1,ok,by omega,hN,hb,sl,p1,p40,po,?_⟩;refine⟨_,rfl,rfl,_,rfl,?_⟩;refine bz rfl ?_;exact⟨_,rfl,_,_,rfl,rfl,_,rfl,_,_,rfl,rfl,p0,k⟩
 | @bin q o u u2 r r2 e T1 T2=>
   obtain⟨ho,ok1,ok2⟩:=ok;have dp:max r.depth r2.depth+1<=n+1:=dn;have ne:∀z:Str,z∉pM->¬ V.str o=V.str z:=fun z hz h=>hz (gB h▸ho)
   refine⟨_,rfl,q,_,0,_,rfl,rfl,zE0 e,rfl,?_⟩;refine⟨_,rfl,rfl,_,rfl,?_⟩;refine aI (ne _ (by decide +kernel)) ?_;refine⟨_,rfl,rfl,_,rfl,?_⟩;refine aI (ne _ (by decide +kernel)) ?_;refine⟨_,rfl,rfl,_,rfl,?_⟩;refine aI (ne _ (by decide +kernel)) ?_;refine⟨_,rfl,q,_,1,_,rfl,rfl,zE0 e,rfl,_,rfl,_,rfl,_,rfl,u,r,a,b,ns,pt,p,rfl,T1,ok1,by omega,hN,hb,sl,p1,p40,po,?_⟩;refine⟨_,rfl,rfl,_,rfl,?_⟩;refine aI (ne _ (by decide +kernel)) ?_;have wr:=worth_rng p1 po sl r ok1;refine⟨_,rfl,_,rfl,_,rfl,q,_,2,_,rfl,rfl,zE0 e,rfl,_,rfl,_,rfl,_,rfl,u2,r2,a,b,ns,pt,p,rfl,T2,ok2,by omega,hN,hb,sl,p1,p40,po,?_⟩;exact⟨_,rfl,o,_,_,p,rfl,wr.1,wr.2,p40,k⟩
theorem tV {f:Addr} {fd:FuncData}:FnOk P w K mg base CX0 2 f fd ["tree","switches","point","p"] (jb 0):=by
 have no:∀vs H Q E,¬ jb 0 vs H Q E:=fun vs H Q E h=>by
  obtain⟨v,t,_,_,_,_,_,_,_,_,h1,_⟩:=h
  have:=t.depth_pos
  omega
 exact⟨fun vs H Q E h=>absurd h (no vs H Q E),fun A outer s H args us vs Q E _ _ _ _ h=>absurd h (no vs H Q E)⟩
theorem lT {f:Addr} {fd:FuncData} (F:Fun K "worth_of" "worth_of" dN f fd) (m:mg "worth_of"=some (.ref f)) (cz:Cal P w K mg base 1 "joined_worth" ["word","first","second","p"] DU) :
 ∀n:Nat,FnOk P w K mg base CX0 (n+2) f fd ["tree","switches","point","p"] (jb n)
 | 0=>tV
 | n+1=>tW F cz (Cal.of F (lT F m cz n) m (fun _ _ _ _ _ _ us hl=>by obtain⟨u0,u1,u2,u3,rfl⟩:=vb hl;rfl))
theorem jE{H:Hp}{b:Addr}{ys zs:List V}(h:H b=some (.lst ys)):∀a xs,H a=some (.tup xs)->(upd H b (.lst zs)) a=some (.tup xs):=fun a xs e=>by
 rw[aq]
 . exact e
 . intro z;rw[z,h]at e;cases e
theorem at0(x:V)(xs:List V):atI (x::xs) 0=some x:=cM (j:=0) rfl
theorem sJ{ts:List Tr}{i:Nat}{u:Tr}(h:ts[i]?=some u):ip (ts.take (i+1))=ip (ts.take i)++u.names:=by
 unfold ip;rw[qQ0,h,zM0,List.flatten_append]
 simp
theorem uQ(ts:List Tr):(ip ts).length<=gO ts:=by
 induction ts with
 | nil=>simp [ip,gO]
 | cons a r ih=>
   have:=a.names_len
   simp only[ip,gO,zS0,List.flatten_cons,zN0,List.sum_cons]at ih ⊢;omega
theorem uk(ts:List Tr)(i:Nat):gO (ts.take i)<=gO ts:=by
 induction ts generalizing i with
 | nil=>simp
 | cons a r ih=>
   cases i with
   | zero=>simp [gO]
   | succ i=>
     have:=ih i
     simp only[gO,List.take_succ_cons,zS0,List.sum_cons]at this ⊢;omega
theorem vw(ns:List Str)(z:Str):((ns.map V.str).countP fun y=>eqV y (.str z))=ns.count z:=by
 rw[List.countP_map];rfl
def iH:Sp:=fun vs H Q _=>∃(v:V)(t:Tr),vs=[v]/\TreeAt H v t/\t.wf/\∀(p:Addr)(xs:List V)(H':Hp),Same H H'->H' p=some (.tup xs)->TreesAt H' xs t.parts->Q (.ref p) H'
theorem me:FnScope ["tree"] ["tree"] (af cU):=⟨rfl,rfl,rfl,by decide +kernel,rfl,by decide +kernel,by decide +kernel⟩
theorem mh {f:Addr} {fd:FuncData} (F:Fun K "trees_within" "trees_within" cU f fd):FnOk P w K mg base CX0 1 f fd ["tree"] iH:=by
 refine F.ok me (fun vs H Q E h=>?_) (fun cdv A outer s H vs Q E hr h=>?_)
 . obtain⟨v,t,rfl,_⟩:=h;rfl
 obtain ⟨v,t,rfl,T,wf,q⟩:=h;refine⟨_,(ad (aR (ax bb (aY bc (pv 0) ai (fun _ _=>rfl)) aV (aF _)) (ag (aD (bE ae))) aG)
  (ag (aD (ku zx (pv 0) (ko ai) qH)))),?_⟩
 rcases T.view wf with⟨a,x,rfl,rfl,_,e⟩ | ⟨a,o,xs,rfl,no,xl,e,TS,_⟩
 . refine⟨_,rfl,a,_,0,_,rfl,rfl,zE0 e,rfl,rfl,_,rfl,?_⟩;refine bz rfl ?_;refine⟨(by show 0<=sizeLine;decide),fun p hp=>?_⟩;exact q p [] _ (zD0 hp _) am .nil
 . refine⟨_,rfl,a,_,0,.str o,rfl,rfl,zE0 e,at0 ..,rfl,_,rfl,?_⟩;refine aI (fun z=>no (by injection z)) ?_;obtain⟨c1,c2⟩:=cut1 (.str o) xs xl;refine⟨_,rfl,1,rfl,a,_,rfl,zE0 e,c2,fun p hp=>?_⟩;rw[c1];exact q p xs _ (zD0 hp _) am (TS.mono (bp (zD0 hp _)))
def eQ(n:Nat):Sp:=fun vs H Q _=>∃(v:V)(t:Tr),vs=[v]/\TreeAt H v t/\t.wf/\t.depth<=n/\t.size<=400/\∀(l:Addr)(H':Hp),H l=none->Same H H'->H' l=some (.lst (t.names.map V.str))->Q (.ref l) H'
theorem iM:FnScope ["tree","names","part"] ["tree"] (af dP):=⟨rfl,rfl,rfl,by decide +kernel,rfl,by decide +kernel,by decide +kernel⟩
theorem uO {n:Nat} {f:Addr} {fd:FuncData} (F:Fun K "names_in" "names_in" dP f fd) (bj:Cal P w K mg base 1 "trees_within" ["tree"] iH) (dy:Cal P w K mg base (n+2) "names_in" ["tree"] (eQ n)):FnOk P w K mg base CX0 (n+3) f fd ["tree"] (eQ (n+1)):=by
 refine F.ok iM (fun vs H Q E h=>?_) (fun cdv A outer s H vs Q E hr h=>?_)
 . obtain⟨v,t,rfl,_⟩:=h;rfl
 obtain ⟨v,t,rfl,T,wf,dn,sz,q⟩:=h;refine⟨_,(ad (aR (ax bb (aY bc (pv 0) ai (fun _ _=>rfl)) aV (aF _)) (ag (aD (da (aa (aY bc (pv 0) ai (fun _ _=>rfl)) ae)))) aG)
  (ad (ay (i:=1) iM.nd rfl (Or.inl rfl) (da ae))
  (ad (dR PassesOwn.never rfl (iQ (aJ bj hr (by omega) rfl (aa (pv 0) ae))) (cB (i:=2) iM.nd rfl (Or.inl rfl)) (ag (bX (kx PySem.F.plainAttrs_list PySem.F.slot_list_extend PySem.F.type_list_extend xW (pv 1) (aa (aJ dy hr (zF0 _) rfl (aa (pv 2) ae)) ae)))))
  (ag (aD (pv 1)))))),?_⟩
 have wf':=wf;rcases T.view wf with⟨a,x,rfl,rfl,_,e⟩ | ⟨a,o,xs0,rfl,no,xl0,e,_,nis⟩
 . refine⟨_,rfl,a,_,0,_,rfl,rfl,zE0 e,rfl,rfl,_,rfl,?_⟩;refine bz rfl ?_;refine⟨_,rfl,a,_,1,_,rfl,rfl,zE0 e,rfl,(by show 1<=sizeLine;decide),fun p hp=>?_⟩;exact q p _ hp (zD0 hp _) am
 . refine ⟨_,rfl,a,_,0,.str o,rfl,rfl,zE0 e,at0 ..,rfl,_,rfl,?_⟩;refine aI (fun z=>no (by injection z)) ?_;refine⟨(by show 0<=sizeLine;decide),fun L hL=>?_⟩;have G0:=zD0 hL (.lst []);refine⟨_,rfl,_,t,rfl,T.mono (bp G0),wf,fun p xs H1 S1 hp TS=>?_⟩;have hL1:H1 L=some (.lst []):=S1 _ _ am;have pL:p≠L:=fun z=>by rw[z,hL1]at hp;cases hp
   have xl:=TS.length;have sp:=t.size_parts;refine⟨p,rfl,⟨_,zE0 hp⟩,wD (K:=K) (xs:=xs) (fun i σ H'=>∃x2,σ=[some (.ref a),some (.ref L),x2]/\H' L=some (.lst ((ip (t.parts.take i)).map V.str))/\SameBut L H1 H') ⟨_,rfl,hL1,SameBut.refl _ _⟩ (fun i σ H' _ hst=>by obtain⟨_,_,_,h⟩:=hst;exact zE0 (h _ _ pL hp)) ?_ ?_⟩
   . rintro i x σ H2 hx ⟨x2,rfl,hl,S2⟩;obtain⟨u,hu,Tu⟩:=TS.get hx;have um:=qJ0 hu;obtain⟨uw,ud,us⟩:=Tr.parts_mem um wf;have Tu2:TreeAt H2 x u:=Tu.mono fun b ys h=>S2 b _ (fun z=>by rw[z,hL1]at h;cases h) h
     refine⟨_,rfl,.inl ⟨rfl,_,zI0 hl⟩,_,rfl,x,u,rfl,Tu2,uw,by omega,by omega,fun l H3 l0 S3 hl3=>?_⟩;have nl:=u.names_len;have nl2:=uQ (t.parts.take i);have nl3:=uk t.parts i;refine⟨L,l,_,_,rfl,rfl,S3 _ _ hl,hl3,?_,?_⟩
     . rw[zG0,zG0];exact eC (by omega)
     refine⟨_,rfl,?_,fun b o hb h=>?_⟩
     . rw[am,sJ hu,zM0]
     . rw[aq hb];exact S3 _ _ (S2 _ _ hb h)
   . rintro σ H2 ⟨x2,rfl,hl,S2⟩;rw[xl,qR0,←t.names_parts nis]at hl;refine⟨_,rfl,?_⟩;refine q L H2 hL (fun b o h=>?_) hl;exact S2 b o (aN h hL) (S1 _ _ (G0 _ _ h))
theorem uN {f:Addr} {fd:FuncData}:FnOk P w K mg base CX0 2 f fd ["tree"] (eQ 0):=by
 have no:∀vs H Q E,¬ eQ 0 vs H Q E:=fun vs H Q E h=>by
  obtain⟨v,t,_,_,_,h1,_⟩:=h
  have:=t.depth_pos
  omega
 exact⟨fun vs H Q E h=>absurd h (no vs H Q E),fun A outer s H args us vs Q E _ _ _ _ h=>absurd h (no vs H Q E)⟩
theorem lV {f:Addr} {fd:FuncData} (F:Fun K "names_in" "names_in" dP f fd) (m:mg "names_in"=some (.ref f)) (bj:Cal P w K mg base 1 "trees_within" ["tree"] iH) :
 ∀n:Nat,FnOk P w K mg base CX0 (n+2) f fd ["tree"] (eQ n)
 | 0=>uN
 | n+1=>uO F bj (Cal.of F (lV F m bj n) m (fun _ _ _ _ _ _ us hl=>by obtain⟨u0,rfl⟩:=gs hl;rfl))
def vV:Sp:=fun vs H Q _=>∃n:Int,vs=[.int n]/\n<=999999/\∀b:Bool,(b=true↔2<n/\Pr n)->Q (.bl b) H
theorem iZ:FnScope ["number","divisor"] ["number"] (af eY):=⟨rfl,rfl,rfl,by decide +kernel,rfl,by decide +kernel,by decide +kernel⟩
theorem sD {f:Addr} {fd:FuncData} (F:Fun K "is_field" "is_field" eY f fd):FnOk P w K mg base CX0 1 f fd ["number"] vV:=by
 refine F.ok iZ (fun vs H Q E h=>?_) (fun cdv A outer s H vs Q E hr h=>?_)
 . obtain⟨n,rfl,_⟩:=h;rfl
 obtain ⟨n,rfl,n9,q⟩:=h;refine⟨_,(ad (aR (PW.pt (we (ax iS (pv 0) ai (aF _)) (qB (ax bb (ao bh (pv 0) ai) ai (aF _))))) (ag (aD lS)) aG)
  (ad (ay (i:=1) iZ.nd rfl (Or.inl rfl) ai)
  (ad (iP PassesOwn.never (ax sx (ao cq (pv 1) (pv 1)) (pv 0) (aF _)) (ad (aR (ax bb (ao bh (pv 0) (pv 1)) ai (aF _)) (ag (aD lS)) aG)
   (ag (ay (i:=1) iZ.nd rfl (Or.inl rfl) (ao bn (pv 1) ai)))))
  (ag (aD lS))))),?_⟩
 refine⟨_,rfl,_,_,rfl,rfl,_,rfl,?_⟩
 by_cases c:n<3
 . refine bz c ?_;refine jK ?_;exact q false ⟨fun z=>(nomatch z),fun z=>by omega⟩
 refine aI c ?_;refine⟨_,rfl,_,_,rfl,rfl,(by show(0:Int)<_;decide),rfl,_,rfl,?_⟩
 by_cases c2:n % 2=0
 . refine bz (congrArg V.int c2) ?_;exact q false ⟨fun z=>(nomatch z),fun z=>absurd z.2 (yr c2 (by omega))⟩
 refine aI (fun z=>c2 (V.int.inj z)) ?_;refine⟨fun m σ H'=>∃d:Int,σ=[some (.int n),some (.int d)]/\H'=H/\3<=d/\d<=1001/\d % 2=1/\tS n d/\m=(n+3-d).toNat,⟨_,3,rfl,rfl,by omega,by omega,by omega,xT n,rfl⟩,?_⟩;rintro m σ H' ⟨d,rfl,rfl,d3,d9,d2,u,rfl⟩;refine⟨_,rfl,_,rfl,_,_,rfl,rfl,.inl ⟨by omega,by omega⟩,_,rfl,_,_,rfl,rfl,_,rfl,?_⟩
 by_cases c3:d*d<=n
 . refine bz c3 ?_;have r1:=uj n9 d3 c3;have r2:=Cb d3 c3;refine⟨_,fun _ _ h=>h,?_⟩;refine⟨_,rfl,_,rfl,_,_,rfl,rfl,(show 0<d by omega),rfl,_,rfl,?_⟩
   by_cases c4:n % d=0
   . refine bz (congrArg V.int c4) ?_;exact q false ⟨fun z=>(nomatch z),fun z=>absurd z.2 (yq n9 d3 c3 c4)⟩
   refine aI (fun z=>c4 (V.int.inj z)) ?_;refine⟨_,rfl,_,_,rfl,rfl,?_⟩;exact⟨_,by omega,d+2,rfl,rfl,by omega,by omega,by omega,Ax u d2 c4,rfl⟩
 . refine aI c3 ?_;exact q true ⟨fun _=>⟨by omega,yp (by omega) c2 d3 u (by omega)⟩,fun _=>rfl⟩
abbrev jo:Stmt:=bJ qw 0
abbrev lh:Stmt:=bJ qw 1
abbrev gU:Stmt:=bJ qw 2
abbrev gV:Stmt:=bJ qw 3
def gf (a b:Addr) (p:Int) (d:Addr):List (Str×V):=bK "degrees" (.ref d) (bK "field" (.int p) (bK "trees" (.ref b) (bK "switches" (.ref a) [])))
theorem lZ (a b:Addr) (p:Int) (d:Addr):(gf a b p d).lookup ("switches":Str)=some (.ref a):=by
 unfold gf;rw[aZ,zA0 (by decide +kernel),aZ,zA0 (by decide +kernel),aZ,zA0 (by decide +kernel),aZ,zB0 rfl]
theorem kG (a b:Addr) (p:Int) (d:Addr):(gf a b p d).lookup ("trees":Str)=some (.ref b):=by
 unfold gf;rw[aZ,zA0 (by decide +kernel),aZ,zA0 (by decide +kernel),aZ,zB0 rfl]
theorem gu (a b:Addr) (p:Int) (d:Addr):(gf a b p d).lookup ("field":Str)=some (.int p):=by
 unfold gf;rw[aZ,zA0 (by decide +kernel),aZ,zB0 rfl]
theorem Bc (a b:Addr) (p:Int) (d:Addr):(gf a b p d).lookup ("degrees":Str)=some (.ref d):=by
 unfold gf;rw[aZ,zB0 rfl]
theorem oA (a b:Addr) (p:Int) (d:Addr) {m:Str} (h1:¬ m="degrees") (h2:¬ m="field") (h3:¬ m="trees") (h4:¬ m="switches"):(gf a b p d).lookup m=none:=by
 unfold gf;rw[aZ,zA0 h1,aZ,zA0 h2,aZ,zA0 h3,aZ,zA0 h4]
 all_goals rfl
structure GTxt(K:W.Frag)(mg:Str->Option Value)(C:Addr):Prop where
 cl:Cls K C
 nS:NoAttr K C "switches"
 nT:NoAttr K C "trees"
 nF:NoAttr K C "field"
 nD:NoAttr K C "degrees"
 mgC:mg "Game"=some (.ref C)
theorem tP(g:Nat->Int):∀n,∃k,k<=n/\dJ g n=g k
 | 0=>⟨0,zF0 _,rfl⟩
 | n+1=>by
   obtain⟨k,hk,e⟩:=tP g n;unfold dJ
   split
   . exact⟨n+1,zF0 _,rfl⟩
   . exact⟨k,by omega,e⟩
theorem iT{ns:List Int}(h:ns≠[]):xZ ns 0∈ns:=by
 cases ns with
 | nil=>exact absurd rfl h
 | cons a r=>
   obtain ⟨k,hk,e⟩:=tP (fun i=>(a::r)[i]?.getD 0) ((a::r).length-1);have e1:xZ (a::r) 0=dJ (fun i=>(a::r)[i]?.getD 0) ((a::r).length-1):=rfl;have hl:k<(a::r).length:=by
    rw[qC0]at hk ⊢;omega
   rw[e1,e];show(a::r)[k]?.getD 0∈a::r;rw[zP0 hl];exact qM0 hl
def bd(ts:List Tr)(x:Str):Int:=xZ (ts.map fun t=>(t.names.count x:Int)) 0
theorem oK{ts:List Tr}{x:Str}{p:Int}(h0:ts≠[])(h:∀t∈ts,(t.names.count x:Int)<p):bd ts x<p:=by
 have:=iT (ns:=ts.map fun t=>(t.names.count x:Int)) (by simpa using h0)
 obtain⟨t,ht,e⟩:=List.mem_map.mp this;unfold bd;rw[←e];exact h t ht
def Dl:Sp:=fun vs H Q _=>∃(x:Str)(b:Addr)(tv:List V)(ts:List Tr),vs=[.str x,.ref b]/\H b=some (.tup tv)/\TreesAt H tv ts/\ts≠[]/\ts.length<=10/\(∀t∈ts,t.wf/\t.depth<=10/\t.size<=400)/\∀H',Same H H'->Q (.int (bd ts x)) H'
theorem qr:FnScope ["name","trees"] ["name","trees"] (af dZ):=⟨rfl,rfl,rfl,by decide +kernel,rfl,by decide +kernel,by decide +kernel⟩
theorem qQ {f:Addr} {fd:FuncData} (F:Fun K "degree_of" "degree_of" dZ f fd) (hmax:mg "max"=none) (dy:Cal P w K mg base 12 "names_in" ["tree"] (eQ 10)):FnOk P w K mg base CX0 13 f fd ["name","trees"] Dl:=by
 refine F.ok qr (fun vs H Q E h=>?_) (fun cdv A outer s H vs Q E hr h=>?_)
 . obtain⟨x,b,tv,ts,rfl,_⟩:=h;rfl
 obtain ⟨x,b,tv,ts,rfl,hb,TS,t0,tl,tok,q⟩:=h;refine⟨_,(ag (aD (aO (pU rfl) rfl hmax PyProof.Rows.boot_max (aa (dM (N:=["name"]) (ix:=[0]) rfl
  (CompScope.one (by with_unfolding_all rfl) (by decide) rfl (by decide) rfl (by decide +kernel) (by with_unfolding_all rfl) (by with_unfolding_all rfl) (by with_unfolding_all rfl) rfl rfl) rfl
  (iQ (pv 1)) (fun _ _ _=>eE (Ef K PySem.F.plainAttrs_list PySem.F.slot_list_count PySem.F.type_list_count (xX K) (aJ dy hr (by decide) rfl (aa (pv 0) ae)) (aa (pv 1) ae)))) ae)))),?_⟩
 have vl:=TS.length;refine⟨_,rfl,b,rfl,⟨_,zE0 hb⟩,fun D hD=>?_⟩;refine hZ (K:=K) (xs:=tv) (fun i H'=>H' D=some (.lst (((ts.take i).map fun t=>(t.names.count x:Int)).map V.int))/\Same H H') ⟨by rw[am];rfl,zD0 hD _⟩ (fun i H' _ h=>zE0 (h.2 _ _ hb)) ?_ ?_
 . rintro i z H2 hz ⟨hl,S2⟩;obtain⟨t,ht,T⟩:=TS.get hz;obtain⟨tw,td,tz⟩:=tok t (qJ0 ht);have hi:i<tv.length:=(zX0 hz).1;refine⟨_,rfl,z,t,rfl,T.mono (bp S2),tw,by omega,tz,fun l H3 l0 S3 hl3=>?_⟩;refine⟨.inl ⟨rfl,_,zI0 hl3⟩,_,rfl,l,_,_,rfl,rfl,zI0 hl3,hU _,rfl,?_⟩;rw[vw];refine⟨_,S3 _ _ hl,?_,Nx.of hi ⟨?_,fun b' o' e'=>?_⟩⟩
   . rw[zG0,zG0,qN0];exact bi (by omega)
   . rw[am,qQ0,ht,zM0,zM0];rfl
   . rw[aq (aN e' hD)];exact S3 _ _ (S2 _ _ e')
 . rintro H2 ⟨hl,S2⟩;rw[vl,qR0]at hl;exact⟨D,_,rfl,zI0 hl,by simpa using t0,q H2 S2⟩
def vR:Sp:=fun vs H Q _=>∃(a:Addr)(ns:List Str),vs=[.ref a]/\H a=some (.tup (ns.map V.str))/\ns.Nodup/\ns.length<=10/\∀H',Same H H'->Q .non H'
theorem wA(x:Str)(ns:List Str):inV (.str x) (ns.map V.str)=decide (x∈ns):=by
 unfold inV
 induction ns with
 | nil=>rfl
 | cons a r ih=>
   rw [zS0,List.any_cons,ih];have e:eqV (.str a) (.str x)=decide (x=a):=by
    show(a==x)=_
    by_cases c:x=a
    . subst c;simp
    . rw[decide_eq_false c];simpa using fun h=>c h.symm
   rw[e]
   by_cases c1:x=a <;> by_cases c2:x∈r <;> simp [c1,c2]
theorem fJ:FnScope ["switches","place","name"] ["switches"] (af cH):=⟨rfl,rfl,rfl,by decide +kernel,rfl,by decide +kernel,by decide +kernel⟩
theorem ly {f:Addr} {fd:FuncData} (F:Fun K "look_switches" "look_switches" cH f fd) (henum:mg "enumerate"=none):FnOk P w K mg base CX0 1 f fd ["switches"] vR:=by
 refine F.ok fJ (fun vs H Q E h=>?_) (fun cdv A outer s H vs Q E hr h=>?_)
 . obtain⟨a,ns,rfl,_⟩:=h;rfl
 obtain ⟨a,ns,rfl,ha,nd,nl,q⟩:=h;refine⟨_,(ag (dR PassesOwn.never rfl (Aa rfl henum (pv 0)) (Ab rfl (kt (cB (i:=1) fJ.nd rfl (Or.inl rfl)) (kt (cB (i:=2) fJ.nd rfl (Or.inl rfl)) wl)))
  (ag (aR (ax xH (pv 2) (ku zx (pv 0) qH (ko (pv 1))) (by with_unfolding_all rfl)) dH aG)))),?_⟩
 refine⟨_,rfl,a,rfl,⟨_,zE0 ha⟩,yo (K:=K) (xs:=ns.map V.str) (fun i σ H'=>∃x1 x2:Option V,σ=[some (.ref a),x1,x2]/\Same H H') ⟨_,_,rfl,Same.refl _⟩ (fun i σ H' _ hst=>by obtain⟨_,_,_,h⟩:=hst;exact zE0 (h _ _ ha)) ?_ ?_⟩
 . rintro i z σ H1 t hz ⟨x1,x2,rfl,S1⟩ ht;have hi:i<(ns.map V.str).length:=(zX0 hz).1;rw[qA0]at hz;obtain⟨x,hx,rfl⟩:=Option.map_eq_some_iff.mp hz;have G:=zD0 ht (.tup [.int (i:Int),.str x]);have S2:=S1.trans G;have hi':i<ns.length:=by rw[zG0]at hi;exact hi
   refine⟨t,_,rfl,zE0 am,rfl,_,_,rfl,_,_,rfl,rfl,?_⟩;refine⟨_,rfl,_,rfl,_,rfl,(i:Int),rfl,a,_,rfl,zE0 (S2 _ _ ha),?_,fun c hc=>?_⟩
   . rintro⟨_,h⟩;rw[HT.sIx_nat]at h;omega
   . refine ⟨c,_,rfl,.inr (zE0 am),rfl,?_,_,rfl,?_⟩
     . have ec:pj (ns.map V.str) none (some (i:Int))=(ns.take i).map V.str:=by
        unfold pj;rw[HT.sIx_none,HT.sIx_nat,List.drop_zero,Nat.sub_zero,List.map_take]
        congr 1
        omega
       rw[ec];exact hU _
     . have ec:pj (ns.map V.str) none (some (i:Int))=(ns.take i).map V.str:=by
        unfold pj;rw[HT.sIx_none,HT.sIx_nat,List.drop_zero,Nat.sub_zero,List.map_take]
        congr 1
        omega
       show if inV (.str x) (pj (ns.map V.str) none (some (i:Int)))=true then _ else _
       rw[ec,wA,decide_eq_false ?_]
       . refine gx ?_;exact⟨_,_,rfl,S2.trans (zD0 hc _)⟩
       . intro hm;obtain⟨j,hj,e⟩:=List.getElem_of_mem hm;rw[qN0]at hj;rw[List.getElem_take]at e;have ex:ns[i]=x:=by
          rw[zP0 hi']at hx;exact zR0 hx
         exact List.pairwise_iff_getElem.mp nd j i (by omega) hi' (by omega) (e.trans ex.symm)
 . rintro σ H1 ⟨x1,x2,rfl,S1⟩;exact q H1 S1
theorem kC{ns:List Str}:∀t:Tr,t.ok ns->∀x∈t.names,x∈ns
 | .is y,h,x,hx=>by rw[zT0 hx];exact h
 | .yes,_,x,hx=>by cases hx
 | .no,_,x,hx=>by cases hx
 | .not a,h,x,hx=>kC a h x hx
 | .bin _ a b,⟨_,h1,h2⟩,x,hx=>by
   rcases qL0 hx with h | h
   . exact kC a h1 x h
   . exact kC b h2 x h
def vS:Sp:=fun vs H Q _=>∃(a b:Addr)(ns:List Str)(tv:List V)(ts:List Tr),vs=[.ref b,.ref a]/\H a=some (.tup (ns.map V.str))/\H b=some (.tup tv)/\TreesAt H tv ts/\(∀t∈ts,t.ok ns/\t.wf/\t.depth<=10/\t.size<=400)/\∀H',Same H H'->Q .non H'
theorem gP:FnScope ["trees","switches","tree","name"] ["trees","switches"] (af dB):=⟨rfl,rfl,rfl,by decide +kernel,rfl,by decide +kernel,by decide +kernel⟩
theorem oW {f:Addr} {fd:FuncData} (F:Fun K "look_names" "look_names" dB f fd) (dy:Cal P w K mg base 12 "names_in" ["tree"] (eQ 10)):FnOk P w K mg base CX0 13 f fd ["trees","switches"] vS:=by
 refine F.ok gP (fun vs H Q E h=>?_) (fun cdv A outer s H vs Q E hr h=>?_)
 . obtain⟨a,b,ns,tv,ts,rfl,_⟩:=h;rfl
 obtain ⟨a,b,ns,tv,ts,rfl,ha,hb,TS,tok,q⟩:=h;refine⟨_,(ag (dR PassesOwn.never rfl (iQ (pv 0)) (cB (i:=2) gP.nd rfl (Or.inl rfl))
  (ag (dR PassesOwn.never rfl (jy (aJ dy hr (by decide) rfl (aa (pv 2) ae))) (cB (i:=3) gP.nd rfl (Or.inl rfl))
   (ag (aR (ax qK (pv 3) (pv 1) (by with_unfolding_all rfl)) dH aG)))))),?_⟩
 refine⟨_,rfl,b,rfl,⟨_,zE0 hb⟩,wD (K:=K) (xs:=tv) (fun i σ H'=>∃x2 x3:Option V,σ=[some (.ref b),some (.ref a),x2,x3]/\Same H H') ⟨_,_,rfl,Same.refl _⟩ (fun i σ H' _ hst=>by obtain⟨_,_,_,h⟩:=hst;exact zE0 (h _ _ hb)) ?_ ?_⟩
 . rintro i z σ H1 hz ⟨x2,x3,rfl,S1⟩;obtain⟨t,ht,T⟩:=TS.get hz;obtain⟨tk,tw,td,tz⟩:=tok t (qJ0 ht);refine⟨_,rfl,z,t,rfl,T.mono (bp S1),tw,by omega,tz,fun l H2 l0 S2 hl=>?_⟩;have S12:=S1.trans S2;refine⟨l,rfl,⟨_,zI0 hl⟩,oF (K:=K) (xs:=t.names.map V.str) (fun j σ H'=>∃x3:Option V,σ=[some (.ref b),some (.ref a),some z,x3]/\H'=H2) ⟨_,rfl,rfl⟩ (fun j σ H' _ hst=>by obtain⟨_,_,h⟩:=hst;subst h;exact zI0 hl) ?_ ?_⟩
   . rintro j y σ H3 hy ⟨y3,rfl,rfl⟩;rw[qA0]at hy;obtain⟨x,hx,rfl⟩:=Option.map_eq_some_iff.mp hy;refine⟨_,rfl,_,rfl,a,_,rfl,.inr (zE0 (S12 _ _ ha)),rfl,hU _,_,rfl,?_⟩;show if(!inV (.str x) (ns.map V.str))=true then _ else _
     rw[wA,decide_eq_true (kC t tk x (qJ0 hx))];refine gx ?_;exact⟨_,rfl,rfl⟩
   . rintro σ H3 ⟨y3,rfl,rfl⟩;exact⟨_,_,rfl,S12⟩
 . rintro σ H1 ⟨x2,x3,rfl,S1⟩;exact q H1 S1
def vT:Sp:=fun vs H Q _=>∃p:Int,vs=[.int p]/\Pr p/\2<p/\p<=999983/\Q .non H
theorem oV:FnScope ["field"] ["field"] (af dC):=⟨rfl,rfl,rfl,by decide +kernel,rfl,by decide +kernel,by decide +kernel⟩
theorem oX {f:Addr} {fd:FuncData} (F:Fun K "look_field" "look_field" dC f fd) (hend:∃t,mg "FIELDS_END"=some (.int 1000000 t)) (kf:Cal P w K mg base 1 "is_field" ["number"] vV):FnOk P w K mg base CX0 2 f fd ["field"] vT:=by
 refine F.ok oV (fun vs H Q E h=>?_) (fun cdv A outer s H vs Q E hr h=>?_)
 . obtain⟨p,rfl,_⟩:=h;rfl
 obtain⟨p,rfl,pp,p2,p9,q⟩:=h;obtain⟨te,ge⟩:=hend;refine⟨_,(ag (aR (PW.pt (we (ax Dt (pv 0) (dj (v:=.int 1000000) rfl ge ⟨_,rfl⟩) (aF _)) (qB (jT (io (aJ kf hr (by decide) rfl (aa (pv 0) ae))))))) dH aG)),?_⟩;refine⟨_,rfl,_,_,rfl,rfl,_,rfl,?_⟩;refine aI (by omega) ?_;refine⟨_,rfl,p,rfl,by omega,fun b hb=>⟨b,rfl,?_⟩⟩;rw[hb.mpr ⟨p2,pp⟩];exact gx q
def vQ:Sp:=fun vs H Q _=>∃(p:Int)(d:Addr)(ns:List Int),vs=[.int p,.ref d]/\H d=some (.lst (ns.map V.int))/\ns≠[]/\(∀n∈ns,n<p)/\Q .non H
theorem mv:FnScope ["field","degrees","greatest"] ["field","degrees"] (af dU):=⟨rfl,rfl,rfl,by decide +kernel,rfl,by decide +kernel,by decide +kernel⟩
theorem qM {f:Addr} {fd:FuncData} (F:Fun K "look_size" "look_size" dU f fd) (hmax:mg "max"=none):FnOk P w K mg base CX0 1 f fd ["field","degrees"] vQ:=by
 refine F.ok mv (fun vs H Q E h=>?_) (fun cdv A outer s H vs Q E hr h=>?_)
 . obtain⟨p,d,ns,rfl,_⟩:=h;rfl
 obtain ⟨p,d,ns,rfl,hd,n0,nl,q⟩:=h;refine⟨_,(ad (ay (i:=2) mv.nd rfl (Or.inl rfl) (aO (pU rfl) rfl hmax PyProof.Rows.boot_max (aa (pv 1) ae)))
  (ag (aR (ax sx (pv 0) (pv 2) (aF _)) dH aG))),?_⟩
 refine⟨_,rfl,d,ns,rfl,zI0 hd,n0,?_⟩;refine⟨_,rfl,_,rfl,_,_,rfl,rfl,_,rfl,?_⟩
 have:=nl _ (iT n0)
 exact aI (by omega) q
theorem gp(f:Str)(v:V):∀fs:List (Str×V),(bK f v fs).length<=fs.length+1
 | []=>zF0 _
 | (g,u)::r=>by
   have:=gp f v r
   unfold bK
   split
   . simp
   . simp only[qC0];omega
def gf3 (a b:Addr) (p:Int):List (Str×V):=bK "field" (.int p) (bK "trees" (.ref b) (bK "switches" (.ref a) []))
theorem EH (a b:Addr) (p:Int):(gf3 a b p).lookup ("switches":Str)=some (.ref a):=by
 unfold gf3;rw[aZ,zA0 (by decide +kernel),aZ,zA0 (by decide +kernel),aZ,zB0 rfl]
theorem EG (a b:Addr) (p:Int):(gf3 a b p).lookup ("trees":Str)=some (.ref b):=by
 unfold gf3;rw[aZ,zA0 (by decide +kernel),aZ,zB0 rfl]
def GameAt(C:Addr)(H:Hp)(g a b d:Addr)(p:Int):Prop:=∃dx,H g=some (.ins C dx (gf a b p d))
theorem GameAt.same{C:Addr}{H H':Hp}{g a b d:Addr}{p:Int}(h:GameAt C H g a b d p)(s:Same H H'):GameAt C H' g a b d p:=by
 obtain⟨dx,e⟩:=h;exact⟨dx,s _ _ e⟩
def qh(C:Addr):Sp:=fun vs H Q _=>∃(g dx a b:Addr)(ns:List Str)(tv:List V)(ts:List Tr)(p:Int),vs=[.ref g,.ref a,.ref b,.int p]/\H g=some (.ins C dx [])/\H a=some (.tup (ns.map V.str))/\ns.Nodup/\ns.length<=10/\H b=some (.tup tv)/\TreesAt H tv ts/\1<=ts.length/\ts.length<=10/\
 (∀t∈ts,t.ok ns/\t.wf/\t.depth<=10/\t.size<=400)/\Pr p/\2<p/\p<=999983/\(ts.length:Int)<=p/\(∀t∈ts,∀x∈ns,(t.names.count x:Int)<p)/\
 ∀(d:Addr)(H':Hp),H d=none->GameAt C H' g a b d p->H' d=some (.lst ((ns.map (bd ts)).map V.int))->SameBut g H H'->Q .non H'
theorem zD:FnScope ["self","switches","trees","field"] ["self","switches","trees","field"] (af jo):=⟨rfl,rfl,rfl,by decide +kernel,rfl,by decide +kernel,by decide +kernel⟩
theorem Ap {f C:Addr} {fd:FuncData} (F:Fun K "__init__" "Game.__init__" jo f fd) (T:GTxt K mg C) (htuple:mg "tuple"=none) (hlen:mg "len"=none) (i4:Cal P w K mg base 13 "degree_of" ["name","trees"] Dl) (fN:Cal P w K mg base 1 "look_switches" ["switches"] vR)
 (ic:Cal P w K mg base 13 "look_names" ["trees","switches"] vS) (ie:Cal P w K mg base 2 "look_field" ["field"] vT) (i7:Cal P w K mg base 1 "look_size" ["field","degrees"] vQ):FnOk P w K mg base CX0 14 f fd ["self","switches","trees","field"] (qh C):=by
 refine F.ok zD (fun vs H Q E h=>?_) (fun cdv A outer s H vs Q E hr h=>?_)
 . obtain⟨g,dx,a,b,ns,tv,ts,p,rfl,_⟩:=h;rfl
 obtain ⟨g,dx,a,b,ns,tv,ts,p,rfl,hg,ha,nd,nl,hb,TS,t1,t10,tok,pp,p2,p9,tp,tc,q⟩:=h;refine⟨_,(ad (aX (pv 0) (cI cf rfl htuple cL (aa (pv 1) ae)) rfl)
  (ad (aX (pv 0) (cI cf rfl htuple cL (aa (pv 2) ae)) rfl)
  (ad (aX (pv 0) (pv 3) rfl)
  (ad (aX (pv 0) (dM (N:=["self"]) (ix:=[0]) rfl
   (CompScope.one (by with_unfolding_all rfl) (by decide) rfl (by decide) rfl (by decide +kernel) (by with_unfolding_all rfl) (by with_unfolding_all rfl) (by with_unfolding_all rfl) rfl rfl) rfl
   (iQ (au (pv 0) rfl)) (fun _ _ _=>eE (aJ i4 hr (by decide) rfl (aa (pv 0) (aa (jz K (pv 1)) ae))))) rfl)
  (ad (bX (aJ fN hr (by decide) rfl (aa (au (pv 0) rfl) ae)))
  (ad (bX (aJ ic hr (by decide) rfl (aa (au (pv 0) rfl) (aa (au (pv 0) rfl) ae))))
  (ad (bX (aJ ie hr (by decide) rfl (aa (pv 3) ae)))
  (ag (bX (aJ i7 hr (by decide) rfl (aa (pv 3) (aa (ao qL (au (pv 0) rfl) (da (aa (ao cj (aO aM rfl hlen PySem.boot_len (aa (au (pv 0) rfl) ae)) ai) ae))) ae)))))))))))),?_⟩
 have nag:a≠g:=bq ha hg (by intro z;cases z);have nbg:b≠g:=bq hb hg (by intro z;cases z);have vl:=TS.length;refine⟨_,rfl,a,_,rfl,.inr ⟨zE0 ha,_,rfl,g,C,dx,[],rfl,hg,T.cl,T.nS,(by show 0<1000;decide),?_⟩⟩;refine⟨_,rfl,b,_,rfl,.inr ⟨zE0 (by rw[aq nbg];exact hb),_,rfl,g,C,dx,_,rfl,am,T.cl,T.nT,(Nat.lt_of_le_of_lt (gp _ _ _) (by show 1<1000;decide)),?_⟩⟩;refine⟨_,rfl,_,rfl,g,C,dx,_,rfl,am,T.cl,T.nF,(Nat.lt_of_le_of_lt (gp _ _ _) (Nat.lt_of_le_of_lt (Nat.succ_le_succ (gp _ _ _)) (by show 2<1000;decide))),?_⟩;have S3:SameBut g H (upd (upd (upd H g (.ins C dx (bK "switches" (.ref a) []))) g (.ins C dx (bK "trees" (.ref b) (bK "switches" (.ref a) [])))) g (.ins C dx (bK "field" (.int p) (bK "trees" (.ref b) (bK "switches" (.ref a) []))))):=
  (SameBut.upd _).trans ((SameBut.upd _).trans (SameBut.upd _))
 have hg3:upd (upd (upd H g (.ins C dx (bK "switches" (.ref a) []))) g (.ins C dx (bK "trees" (.ref b) (bK "switches" (.ref a) [])))) g (.ins C dx (bK "field" (.int p) (bK "trees" (.ref b) (bK "switches" (.ref a) [])))) g=some (.ins C dx (gf3 a b p)):=am;generalize upd (upd (upd H g (.ins C dx (bK "switches" (.ref a) []))) g (.ins C dx (bK "trees" (.ref b) (bK "switches" (.ref a) [])))) g (.ins C dx (bK "field" (.int p) (bK "trees" (.ref b) (bK "switches" (.ref a) []))))=H3 at S3 hg3;have kT:dA H H3:=fun c xs h=>S3 c _ (bq h hg (by intro z;cases z)) h
 have ha3:=kT _ _ ha;have hb3:=kT _ _ hb;have TS3:=TS.mono kT;refine⟨_,rfl,g,C,dx,_,_,rfl,hg3,T.cl,T.nS,EH ..,a,rfl,⟨_,zE0 ha3⟩,fun D hD=>?_⟩;have D0:H D=none:=by
  cases e:H D with
  | none=>rfl
  | some o=>
    by_cases c:D=g
    . rw[c,hg3]at hD;cases hD
    . rw[S3 D o c e]at hD;cases hD
 refine hZ (K:=K) (xs:=ns.map V.str) (fun i H'=>H' D=some (.lst (((ns.take i).map (bd ts)).map V.int))/\Same H3 H') ⟨by rw[am];rfl,zD0 hD _⟩ (fun i H' _ h=>zE0 (h.2 _ _ ha3)) ?_ ?_
 . rintro i z H4 hz ⟨hl,S4⟩;have hi:i<(ns.map V.str).length:=(zX0 hz).1;rw[qA0]at hz;obtain⟨x,hx,rfl⟩:=Option.map_eq_some_iff.mp hz;refine⟨_,rfl,_,rfl,g,C,dx,_,_,rfl,S4 _ _ hg3,T.cl,T.nT,EG ..,x,b,tv,ts,rfl,S4 _ _ hb3,TS3.mono (bp S4),?_,t10,fun t ht=>(tok t ht).2,fun H5 S5=>?_⟩
   . intro e;rw[e]at t1;exact absurd t1 (by decide)
   refine⟨_,S5 _ _ hl,?_,Nx.of hi ⟨?_,fun b' o' e'=>?_⟩⟩
   . rw[zG0,zG0,qN0];exact bi (by omega)
   . rw[am,qQ0,hx,zM0,zM0];rfl
   . rw[aq (aN e' hD)];exact S5 _ _ (S4 _ _ e')
 rintro H4 ⟨hl,S4⟩;rw[zG0,qR0]at hl;refine⟨_,rfl,g,C,dx,_,rfl,S4 _ _ hg3,T.cl,T.nD,?_,?_⟩
 . exact Nat.lt_of_le_of_lt (qB0 (gp _ _ _) (Nat.succ_le_succ (qB0 (gp _ _ _) (Nat.succ_le_succ (gp _ _ _))))) (by show 3<1000;decide)
 have nDg:D≠g:=fun z=>by rw[z,hg3]at hD;cases hD
 have hg5:upd H4 g (.ins C dx (gf a b p D)) g=some (.ins C dx (gf a b p D)):=am;have S5:SameBut g H (upd H4 g (.ins C dx (gf a b p D))):=S3.trans ((zL0 S4).trans (SameBut.upd _));have hD5:upd H4 g (.ins C dx (gf a b p D)) D=some (.lst ((ns.map (bd ts)).map V.int)):=by rw[aq nDg];exact hl
 show _;generalize he5:upd H4 g (.ins C dx (gf a b p D))=H5 at hg5 S5 hD5;have kT5:dA H H5:=fun c xs h=>S5 c _ (bq h hg (by intro z;cases z)) h
 rw[show upd H4 g (.ins C dx (bK "degrees" (.ref D) (gf3 a b p)))=H5 from he5];refine⟨_,rfl,g,C,dx,_,_,rfl,hg5,T.cl,T.nS,lZ ..,a,ns,rfl,kT5 _ _ ha,nd,nl,fun H6 S6=>?_⟩;have kT6:dA H H6:=fun c xs h=>S6 _ _ (kT5 c xs h)
 refine⟨_,rfl,g,C,dx,_,_,rfl,S6 _ _ hg5,T.cl,T.nT,kG ..,_,rfl,g,C,dx,_,_,rfl,S6 _ _ hg5,T.cl,T.nS,lZ ..,a,b,ns,tv,ts,rfl,kT6 _ _ ha,kT6 _ _ hb,TS.mono kT6,tok,fun H7 S7=>?_⟩;have S57:=S6.trans S7;refine⟨_,rfl,p,rfl,pp,p2,p9,?_⟩;refine⟨_,rfl,_,rfl,g,C,dx,_,_,rfl,S57 _ _ hg5,T.cl,T.nD,Bc ..,_,rfl,g,C,dx,_,_,rfl,S57 _ _ hg5,T.cl,T.nT,kG ..,b,_,rfl,.inr (zE0 (S57 _ _ (kT5 _ _ hb))),_,_,rfl,rfl,(by show 1<=sizeLine;decide),fun l hl2=>?_⟩;have Gl:=zD0 hl2 (.lst [.int ((tv.length:Int)-1)]);refine⟨D,l,_,_,rfl,rfl,Gl _ _ (S57 _ _ hD5),am,?_,fun r hr0=>?_⟩
 . rw[zG0,zG0];exact eC (by simp;omega)
 have Gr:=zD0 hr0 (.lst ((ns.map (bd ts)).map V.int++[.int ((tv.length:Int)-1)]));refine⟨p,r,ns.map (bd ts)++[(tv.length:Int)-1],rfl,?_,by simp,fun n hn=>?_,?_⟩
 . rw[am,zM0];rfl
 . rcases qL0 hn with h | h
   . obtain ⟨x,hx,rfl⟩:=List.mem_map.mp h;refine oK ?_ fun t ht=>tc t ht x hx
     intro e;rw[e]at t1;exact absurd t1 (by decide)
   . rw[zT0 h];omega
 . have S59:=S57.trans (Gl.trans Gr);exact q D _ D0 ⟨dx,S59 _ _ hg5⟩ (S59 _ _ hD5) (S5.trans (zL0 S59))
def zj:Sp:=fun vs H Q _=>∃a p:Int,vs=[.int a,.int p]/\Pr p/\p<=999983/\0<a/\a<p/\∀g:Int,0<g->g<p->g*a % p=1->Q (.int g) H
theorem bF:FnScope ["a","p","former","former_factor","rest","factor","times","lesser","lesser_factor"] ["a","p"] (af dF):=⟨rfl,rfl,rfl,by decide +kernel,rfl,by decide +kernel,by decide +kernel⟩
theorem oZ {f:Addr} {fd:FuncData} (F:Fun K "inverse_of" "inverse_of" dF f fd):FnOk P w K mg base CX0 1 f fd ["a","p"] zj:=by
 refine F.ok bF (fun vs H Q E h=>?_) (fun cdv A outer s H vs Q E hr h=>?_)
 . obtain⟨a,p,rfl,_⟩:=h;rfl
 obtain ⟨a,p,rfl,pr,p1,a0,a1,q⟩:=h;have p2:2<=p:=pr.1;refine⟨_,(ad (ay (i:=2) bF.nd rfl (Or.inl rfl) (pv 1))
  (ad (ay (i:=3) bF.nd rfl (Or.inl rfl) ai)
  (ad (ay (i:=4) bF.nd rfl (Or.inl rfl) (ao bh (pv 0) (pv 1)))
  (ad (ay (i:=5) bF.nd rfl (Or.inl rfl) ai)
  (ad (iP PassesOwn.never (ax nZ (pv 4) ai (aF _)) (ad (ay (i:=6) bF.nd rfl (Or.inl rfl) (ao wp (pv 2) (pv 4)))
   (ad (ay (i:=7) bF.nd rfl (Or.inl rfl) (ao cj (pv 2) (ao cq (pv 6) (pv 4))))
   (ad (ay (i:=8) bF.nd rfl (Or.inl rfl) (ao bh (ao cj (pv 3) (ao cq (pv 6) (pv 5))) (pv 1)))
   (ad (ay (i:=2) bF.nd rfl (Or.inl rfl) (pv 4))
   (ad (ay (i:=3) bF.nd rfl (Or.inl rfl) (pv 5))
   (ad (ay (i:=4) bF.nd rfl (Or.inl rfl) (pv 7))
   (ag (ay (i:=5) bF.nd rfl (Or.inl rfl) (pv 8))))))))))
  (ag (aD (pv 5)))))))),?_⟩
 refine ⟨_,rfl,?_⟩;refine⟨_,rfl,_,rfl,_,_,rfl,rfl,(show 0<p by omega),?_⟩;refine⟨fun m σ H'=>∃(former ff rest g:Int)(x6 x7 x8:Option V),σ=[some (.int a),some (.int p),some (.int former),some (.int ff),some (.int rest),some (.int g),x6,x7,x8]/\H'=H/\Eu a p former ff rest g/\m=rest.toNat,
  ⟨_,_,_,_,_,_,_,_,rfl,rfl,tu pr (by omega) a0 a1,rfl⟩,?_⟩
 rintro m σ H' ⟨former,ff,rest,g,x6,x7,x8,rfl,rfl,eu,rfl⟩;refine⟨_,rfl,rfl,_,rfl,?_⟩
 by_cases c:rest=1
 . refine sU (congrArg V.int c) ?_;obtain⟨g0,g1,g2⟩:=Bk eu c (by omega);exact⟨_,rfl,q g g0 g1 g2⟩
 . refine iteN (fun z=>c (V.int.inj z)) ?_;refine⟨_,fun _ _ h=>h,?_⟩;have r0:=eu.r0;have rp:=eu.rp;have f0:=eu.f0;have f1:=eu.f1;obtain⟨nx,lt⟩:=wG eu c;refine⟨_,rfl,_,rfl,_,_,rfl,rfl,⟨r0,by omega⟩,?_⟩;refine⟨_,rfl,_,rfl,_,rfl,_,_,rfl,rfl,.inr ⟨by omega,by omega⟩,_,_,rfl,rfl,?_⟩;refine⟨_,rfl,_,rfl,_,rfl,_,_,rfl,rfl,.inr ⟨by omega,by omega⟩,_,_,rfl,rfl,_,rfl,_,_,rfl,rfl,(show 0<p by omega),?_⟩;refine⟨_,rfl,_,rfl,_,rfl,_,rfl,?_⟩;exact⟨_,lt,_,_,_,_,_,_,_,rfl,rfl,nx,rfl⟩
theorem md{p x y:Int}(h:p ∣ x-y):x % p=y % p:=by
 obtain⟨k,hk⟩:=h
 have:x=y+p*k:=by omega
 rw[this,Int.add_mul_emod_self_left]
theorem dm(p x:Int):p ∣ x % p-x:=⟨-(x / p),by
 have:=Int.emod_add_mul_ediv x p
 rw[Int.mul_neg];omega⟩
def pmd(p:Int)(g:Nat->Int):Nat->Int
 | 0=>1
 | k+1=>pmd p g k*g k % p
theorem kr(p:Int)(g:Nat->Int):∀k,p ∣ pmd p g k-pr g k
 | 0=>⟨0,by simp [pmd,pr]⟩
 | k+1=>by
   obtain⟨a,ha⟩:=kr p g k;obtain⟨b,hb⟩:=dm p (pmd p g k*g k);exact⟨b+a*g k,by show pmd p g k*g k % p-pr g k*g k=_;grind⟩
theorem kq{p:Int}(hp:1<p)(g:Nat->Int):∀k,0<=pmd p g k/\pmd p g k<p
 | 0=>⟨by show(0:Int)<=1;decide,hp⟩
 | k+1=>⟨zU0 _ (by omega),zY0 _ (by omega)⟩
def prL(p:Int)(g:Nat->Int)(n:Nat):List V:=((List.range n).map (pmd p g)).map V.int
theorem nO(p:Int)(g:Nat->Int)(n:Nat):prL p g (n+1)=prL p g n++[.int (pmd p g n)]:=by
 unfold prL;rw[List.range_succ,zM0,zM0];rfl
theorem Ck(p:Int)(g:Nat->Int)(n:Nat):(prL p g n).length=n:=by
 unfold prL;rw[zG0,zG0,qO0]
theorem uW{f:Nat->Int}{n k:Nat}(h:k<n):atI (((List.range n).map f).map V.int) (k:Int)=some (.int (f k)):=by
 refine cM ?_;rw[qA0,qA0,List.getElem?_range h];rfl
theorem uy{p:Int}{g:Nat->Int}{n k:Nat}(h:k<n):atI (prL p g n) (k:Int)=some (.int (pmd p g k)):=uW h
def ui:Sp:=fun vs H Q _=>∃(a:Addr)(g:Nat->Int)(n:Nat)(p:Int),vs=[.ref a,.int p]/\H a=some (.lst (((List.range n).map g).map V.int))/\n<=500/\1<p/\p<2 ^ 40/\∀(l:Addr)(H':Hp),H l=none->Same H H'->H' l=some (.lst (prL p g (n+1)))->Q (.ref l) H'
theorem i8:FnScope ["numbers","p","told","number"] ["numbers","p"] (af eW):=⟨rfl,rfl,rfl,by decide +kernel,rfl,by decide +kernel,by decide +kernel⟩
theorem sB {f:Addr} {fd:FuncData} (F:Fun K "products" "products" eW f fd):FnOk P w K mg base CX0 1 f fd ["numbers","p"] ui:=by
 refine F.ok i8 (fun vs H Q E h=>?_) (fun cdv A outer s H vs Q E hr h=>?_)
 . obtain⟨a,g,n,p,rfl,_⟩:=h;rfl
 obtain ⟨a,g,n,p,rfl,ha,n5,p1,p40,q⟩:=h;refine⟨_,(ad (ay (i:=2) i8.nd rfl (Or.inl rfl) (da (aa ai ae)))
  (ad (dR PassesOwn.never rfl (jy (pv 0)) (cB (i:=3) i8.nd rfl (Or.inl rfl)) (ag (bX (kx PySem.F.plainAttrs_list PySem.F.slot_list_append PySem.F.type_list_append fh (pv 2) (aa (ao bh (ao cq (aY ix_list (pv 2) (Ac ua ai) (fun _ _=>rfl)) (pv 3)) (pv 1)) ae)))))
  (ag (aD (pv 2))))),?_⟩
 refine ⟨(by show 1<=sizeLine;decide),fun L hL=>?_⟩;have aL:a≠L:=aN ha hL;refine⟨_,rfl,a,rfl,⟨_,zI0 ((zD0 hL _) _ _ ha)⟩,oF (K:=K) (xs:=((List.range n).map g).map V.int) (fun i σ H'=>∃x3:Option V,σ=[some (.ref a),some (.int p),some (.ref L),x3]/\H' L=some (.lst (prL p g (i+1)))/\SameBut L H H')
  ⟨_,rfl,by rw[am];rfl,SameBut.upd _⟩ (fun i σ H' _ hst=>by obtain⟨_,_,_,h⟩:=hst;exact zI0 (h _ _ aL ha)) ?_ ?_⟩
 . rintro i z σ H1 hz ⟨x3,rfl,hL1,S1⟩;have hi:=(zX0 hz).1;rw[zG0,zG0,qO0]at hi;rw[qA0,qA0,List.getElem?_range hi]at hz;obtain rfl:V.int (g i)=z:=zR0 hz;have rg:=kq p1 g i;refine⟨_,rfl,.inl ⟨rfl,_,zI0 hL1⟩,?_⟩;refine⟨_,rfl,_,rfl,L,_,_,.int (pmd p g i),rfl,rfl,zI0 hL1,?_,_,rfl,_,_,rfl,rfl,.inl ⟨by omega,by omega⟩,_,rfl,_,_,rfl,rfl,(by omega),L,_,_,rfl,rfl,hL1,?_,?_⟩
   . rw[nO];exact tR _ _
   . rw[Ck];exact bi (by omega)
   . refine ⟨_,rfl,?_,fun c o hc e=>?_⟩
     . rw[am,nO p g (i+1)];rfl
     . rw[aq hc];exact S1 c o hc e
 . rintro σ H1 ⟨x3,rfl,hL1,S1⟩;rw[zG0,zG0,qO0]at hL1;exact⟨_,rfl,q L H1 hL (fun b o e=>S1 b o (aN e hL) e) hL1⟩
theorem zW:∀n:Nat,pr (fun k=>1+(k:Int)) n=fac n
 | 0=>rfl
 | n+1=>by
   show pr (fun k=>1+(k:Int)) n*(1+(n:Int))=fac n*((n:Int)+1)
   rw[zW n,Int.add_comm]
theorem zA{p g a t s:Int}{k m:Nat}(hg:g*a % p=1)(p1:1<p)(ha:p ∣ a-fac (k+m))(ht:p ∣ t-pr (fun j=>((k+m:Nat):Int)-j) m)(hs:p ∣ s-g*t):p ∣ s*fac k-1:=by
 have f:=tj m k;obtain⟨x,hx⟩:=ha;obtain⟨y,hy⟩:=ht;obtain⟨z,hz⟩:=hs;obtain⟨e,he⟩:=dm p (g*a);rw[hg]at he;exact⟨z*fac k+g*y*fac k-g*x-e,by grind⟩
def zo:Sp:=fun vs H Q _=>∃(L:Nat)(p:Int),vs=[.int (L:Int),.int p]/\L<=500/\(L:Int)<p/\Pr p/\p<=999983/\∀(l:Addr)(H':Hp)(sh:Nat->Int),H l=none->Same H H'->(∀k,k<=L->p ∣ sh k*fac k-1)->(∀k,0<=sh k/\sh k<p)->H' l=some (.lst (((List.range (L+1)).map sh).map V.int))->Q (.ref l) H'
theorem cr:FnScope ["last","p","numbers","whole","told"] ["last","p"] (af bQ):=⟨rfl,rfl,rfl,by decide +kernel,rfl,by decide +kernel,by decide +kernel⟩
theorem iD {f:Addr} {fd:FuncData} (F:Fun K "inverse_factorials" "inverse_factorials" bQ f fd) (B:Bl mg) (d8:Cal P w K mg base 1 "products" ["numbers","p"] ui) (eK:Cal P w K mg base 1 "inverse_of" ["a","p"] zj):FnOk P w K mg base CX0 2 f fd ["last","p"] zo:=by
 refine F.ok cr (fun vs H Q E h=>?_) (fun cdv A outer s H vs Q E hr h=>?_)
 . obtain⟨L,p,rfl,_⟩:=h;rfl
 obtain ⟨L,p,rfl,L5,Lp,pp,p9,q⟩:=h;refine⟨_,(ad (ay (i:=2) cr.nd rfl (Or.inl rfl) (uD rfl rfl B.list rfl B.range (aa ai (aa (ao bn (pv 0) ai) ae))))
  (ad (ay (i:=3) cr.nd rfl (Or.inr rfl) (aJ eK hr (by decide) rfl (aa (aY ix_list (aJ d8 hr (by decide) rfl (aa (pv 2) (aa (pv 1) ae))) (Ac ua ai) (fun _ _=>rfl)) (aa (pv 1) ae))))
  (ad (ay (i:=4) cr.nd rfl (Or.inr rfl) (aJ d8 hr (by decide) rfl (aa (dM (N:=["last"]) (ix:=[0]) rfl
   (CompScope.one (by with_unfolding_all rfl) (by decide) rfl (by decide) rfl (by decide +kernel) (by with_unfolding_all rfl) (by with_unfolding_all rfl) (by with_unfolding_all rfl) rfl rfl) rfl
   (cv rfl B.range (aa (pv 0) ae)) (fun _ _ _=>eE (ao cj (pv 1) (pv 0)))) (aa (pv 1) ae))))
  (ag (aD (dM (N:=["whole","told","p","last"]) (ix:=[3,4,1,0]) rfl
   (CompScope.four (by with_unfolding_all rfl) (by decide) rfl (by decide) rfl (by decide +kernel) rfl (by with_unfolding_all rfl) (by with_unfolding_all rfl) (by with_unfolding_all rfl) (by with_unfolding_all rfl) (by with_unfolding_all rfl) (by with_unfolding_all rfl) rfl rfl (by with_unfolding_all rfl) rfl rfl (by with_unfolding_all rfl) rfl rfl (by with_unfolding_all rfl) rfl rfl) rfl
   (cv rfl B.range (aa (ao bn (pv 0) ai) ae)) (fun _ _ _=>eE (ao bh (ao cq (pv 1) (aY (sT K) (pv 2) (ao cj (pv 4) (pv 0)) (fun _ _=>rfl))) (pv 3))))))))),?_⟩
 have p2:=pp.1;have hP:=sq pp (by omega);refine⟨_,rfl,_,_,rfl,rfl,1,_,rfl,⟨by decide,by decide,by omega,by omega⟩,by omega,fun a ha=>?_⟩;have e1:qy 1 ((L:Int)+1-1).toNat=(List.range L).map fun k:Nat=>1+(k:Int):=by
  unfold qy;rw[show((L:Int)+1-1).toNat=L by omega]
 rw [e1];have Ga:=zD0 ha (.lst (((List.range L).map fun k:Nat=>1+(k:Int)).map V.int));refine⟨_,rfl,_,rfl,a,_,L,p,rfl,am,L5,by omega,by omega,fun l H2 l0 S2 hl2=>?_⟩;have rg:=kq (show 1<p by omega) (fun k:Nat=>1+(k:Int)) L;have dv:=kr p (fun k:Nat=>1+(k:Int)) L;rw[zW]at dv;have ne0:pmd p (fun k:Nat=>1+(k:Int)) L≠0:=fun z=>by
  rw[z]at dv;obtain⟨m,hm⟩:=dv;exact rc hP L Lp ⟨-m,by rw[Int.mul_neg];omega⟩
 refine⟨_,rfl,l,_,_,.int (pmd p (fun k:Nat=>1+(k:Int)) L),rfl,rfl,zI0 hl2,by rw[nO];exact tR _ _,_,rfl,_,p,rfl,pp,p9,by omega,rg.2,fun g g0 g1 hg=>?_⟩;have SH2:=Ga.trans S2;refine⟨_,rfl,_,rfl,by omega,by omega,fun D hD=>?_⟩;refine fk (fun i H'=>H' D=some (.lst (((List.range i).map fun j:Nat=>(L:Int)-j).map V.int))/\Same H2 H') ⟨by rw[am];rfl,zD0 hD _⟩ ?_ ?_
 . rintro i H3 hi ⟨hD3,S3⟩;refine⟨_,rfl,_,rfl,_,_,rfl,rfl,_,hD3,?_,Nx.of hi ⟨?_,fun b o e=>?_⟩⟩
   . rw[zG0,zG0,qO0];exact bi (by omega)
   . rw[am,List.range_succ,zM0,zM0,Int.zero_add];rfl
   . rw[aq (aN e hD)];exact S3 _ _ e
 rintro H3 ⟨hD3,S3⟩;rw[show((L:Int)).toNat=L from qS0 L]at hD3;refine⟨_,rfl,D,_,L,p,rfl,hD3,L5,by omega,by omega,fun t H4 t0 S4 ht4=>?_⟩;refine⟨_,rfl,_,_,rfl,rfl,_,rfl,by omega,by omega,fun D2 hD2=>?_⟩;refine fk (fun i H'=>H' D2=some (.lst (((List.range i).map fun k:Nat=>g*pmd p (fun j:Nat=>(L:Int)-j) (L-k) % p).map V.int))/\Same H4 H') ⟨by rw[am];rfl,zD0 hD2 _⟩ ?_ ?_
 . rintro i H5 hi ⟨hD5,S5⟩;have hi':i<L+1:=by omega
   have rg2:=kq (show 1<p by omega) (fun j:Nat=>(L:Int)-j) (L-i);have e2:(L:Int)-(0+(i:Int))=((L-i:Nat):Int):=by omega
   refine⟨_,rfl,_,rfl,_,rfl,_,rfl,_,_,rfl,rfl,t,_,_,.int (pmd p (fun j:Nat=>(L:Int)-j) (L-i)),rfl,rfl,zI0 (S5 _ _ ht4),by rw[e2];exact uy (by omega),_,_,rfl,rfl,.inl ⟨by omega,by omega⟩,_,rfl,_,_,rfl,rfl,(by omega),_,hD5,?_,Nx.of hi ⟨?_,fun b o e=>?_⟩⟩
   . rw[zG0,zG0,qO0];exact bi (by omega)
   . rw[am,List.range_succ,zM0,zM0];rfl
   . rw[aq (aN e hD2)];exact S5 _ _ e
 rintro H5 ⟨hD5,S5⟩;rw[show((L:Int)+1).toNat=L+1 by omega]at hD5;have S05:=SH2.trans (S3.trans (S4.trans S5));refine q D2 H5 (fun k=>g*pmd p (fun j:Nat=>(L:Int)-j) (L-k) % p) ((SH2.trans (S3.trans S4)).free hD2) S05 (fun k hk=>?_) (fun k=>⟨zU0 _ (by omega),zY0 _ (by omega)⟩) hD5;obtain⟨m,rfl⟩:∃m,L=k+m:=⟨L-k,by omega⟩
 rw[show k+m-k=m by omega];exact zA hg (by omega) dv (kr p _ m) (dm p _)
def wt(p:Int)(n i:Nat):Int:=(px (i:Int) i n % p) ^ (p-2).toNat
theorem tX{p:Int}(hp:Pm p){n:Nat}(hn:(n:Int)<=p):Wgt p n (wt p n):=fun i hi=>by
 have h1:=Eh hp hn hi;obtain⟨k,hk⟩:=dm p (px (i:Int) i n);have h2:¬ p ∣ px (i:Int) i n % p:=fun⟨m,hm⟩=>h1 ⟨m-k,by grind⟩
 obtain⟨m,hm⟩:=EI hp h2 (zU0 _ (by have:=hp.1;omega));exact⟨m-k*(px (i:Int) i n % p) ^ (p-2).toNat,by unfold wt;grind⟩
def val(p:Int)(xs:List Int)(r:Int):Int:=lag (fun i=>xs.getD i 0) (wt p xs.length) xs.length r % p
theorem DG{p t r:Int}{xs:List Int}{u:Nat->Int}(hp:Pm p)(hn:(xs.length:Int)<=p)(hu:Wgt p xs.length u)(t0:0<=t)(t1:t<p)(h:p ∣ t-lag (fun i=>xs.getD i 0) u xs.length r):t=val p xs r:=by
 have e:p ∣ t-lag (fun i=>xs.getD i 0) (wt p xs.length) xs.length r:=by
  have:=AS hp hn (v:=fun i=>xs.getD i 0) hu (tX hp hn) r
  have z:=Int.dvd_add h this;have e2:t-lag (fun i=>xs.getD i 0) u xs.length r+(lag (fun i=>xs.getD i 0) u xs.length r-lag (fun i=>xs.getD i 0) (wt p xs.length) xs.length r)=t-lag (fun i=>xs.getD i 0) (wt p xs.length) xs.length r:=by omega
  rw[e2]at z;exact z
 have:=md e
 rw[qP0 t0 t1]at this;exact this
theorem BM{p:Int}(hp:1<p)(xs:List Int)(r:Int):0<=val p xs r/\val p xs r<p:=⟨zU0 _ (by omega),zY0 _ (by omega)⟩
theorem DH{p:Int}{xs:List Int}{k:Nat}(hp:Pm p)(hn:(xs.length:Int)<=p)(hk:k<xs.length):val p xs k=xs.getD k 0 % p:=md (vc (tX hp hn) hk)
theorem sgn(m:Nat):(-1:Int) ^ m=if m % 2=1 then -1 else 1:=by
 induction m with
 | zero=>rfl
 | succ m ih=>
   rw[Int.pow_succ,ih]
   by_cases c:m % 2=1
   . rw[zB0 c,zA0 (by omega)];rfl
   . rw[zA0 c,zB0 (by omega)];rfl
theorem BL{p r v t s a b c d e:Int}{i m:Nat}{x y:Int}(ht:p ∣ t-s)(ha:p ∣ a-pr (fun j=>r-j) i)(hb:p ∣ b-pr (fun j=>r-(i+m:Nat)+j) m)(hc:p ∣ c-v*a*b)(hd:p ∣ d-x*y)(he:p ∣ e-(t+(if m % 2=1 then -(c*d)else c*d))) :
 p ∣ e-(s+v*px r i (i+m+1)*((-1) ^ m*(x*y))):=by
 rw[show i+m+1=i+1+m by omega,nz,sgn];rw[wg]at hb;generalize pr (fun j=>r-j) i=A at *
 generalize pr (fun j=>r-(i+1+j:Nat)) m=B at *
 obtain⟨t',ht⟩:=ht;obtain⟨a',ha⟩:=ha;obtain⟨b',hb⟩:=hb;obtain⟨c',hc⟩:=hc;obtain⟨d',hd⟩:=hd;obtain⟨e',he⟩:=he;have e1:c*d-v*(A*B)*(x*y)=p*(c'*d+v*(a'*b+A*b')*d+v*A*B*d'):=by grind
 by_cases z:m % 2=1
 . rw [zB0 z]at *
   exact⟨e'+t'-(c'*d+v*(a'*b+A*b')*d+v*A*B*d'),by grind⟩
 . rw [zA0 z]at *
   exact⟨e'+t'+(c'*d+v*(a'*b+A*b')*d+v*A*B*d'),by grind⟩
def IntsAt(H:Hp)(a:Addr)(xs:List Int):Prop:=H a=some (.lst (xs.map V.int))∨H a=some (.tup (xs.map V.int))
theorem IntsAt.same{H H':Hp}{a:Addr}{xs:List Int}(h:IntsAt H a xs)(s:Same H H'):IntsAt H' a xs:=h.elim (fun e=>.inl (s _ _ e)) (fun e=>.inr (s _ _ e))
theorem IntsAt.seq{K:W.Frag}{H:Hp}{a:Addr}{xs:List Int}(h:IntsAt H a xs):SqL K H a (xs.map V.int)∨SqT K H a (xs.map V.int):=h.elim (fun e=>.inl (zI0 e)) (fun e=>.inr (zE0 e))
theorem IntsAt.ix{K:W.Frag}{H:Hp}{a:Addr}{xs:List Int}{k:Nat}{Q:VK}(h:IntsAt H a xs)(hk:k<xs.length)(q:Q (.int (xs.getD k 0)) H):Ea K (.ref a) (.int (k:Int)) H Q∨rIxT K (.ref a) (.int (k:Int)) H Q:=by
 have e:atI (xs.map V.int) (k:Int)=some (.int (xs.getD k 0)):=cM (by rw[qA0,zP0 hk,qI0,zP0 hk];rfl);rcases h with h | h
 . exact .inl ⟨a,_,_,_,rfl,rfl,zI0 h,e,q⟩
 . exact .inr ⟨a,_,_,_,rfl,rfl,zE0 h,e,q⟩
def jP(xs:List Int)(p:Int):Prop:=1<=xs.length/\xs.length<=500/\(xs.length:Int)<=p/\∀k,0<=xs.getD k 0/\xs.getD k 0<2 ^ 40
def pE:Sp:=fun vs H Q _=>∃(a:Addr)(xs:List Int)(r p:Int),vs=[.ref a,.int r,.int p]/\IntsAt H a xs/\jP xs p/\Pr p/\p<=999983/\0<=r/\r<p/\∀H',Same H H'->Q (.int (val p xs r)) H'
theorem bw:FnScope ["values","r","p","last","ahead","behind","shares","total","place","share","part"] ["values","r","p"] (af cS):=⟨rfl,rfl,rfl,by decide +kernel,rfl,by decide +kernel,by decide +kernel⟩
theorem mf {f:Addr} {fd:FuncData} (F:Fun K "value_behind" "value_behind" cS f fd) (B:Bl mg) (d8:Cal P w K mg base 1 "products" ["numbers","p"] ui) (eN:Cal P w K mg base 2 "inverse_factorials" ["last","p"] zo):FnOk P w K mg base CX0 3 f fd ["values","r","p"] pE:=by
 refine F.ok bw (fun vs H Q E h=>?_) (fun cdv A outer s H vs Q E hr h=>?_)
 . obtain⟨a,xs,r,p,rfl,_⟩:=h;rfl
 obtain ⟨a,xs,r,p,rfl,ha,⟨x1,x5,xp,xb⟩,pp,p9,r0,r1,q⟩:=h;refine⟨_,(ad (ay (i:=3) bw.nd rfl (Or.inr rfl) (ao cj (aO aM rfl B.len PySem.boot_len (aa (pv 0) ae)) ai))
  (ad (ay (i:=4) bw.nd rfl (Or.inl rfl) (aJ d8 hr (by decide) rfl (aa (dM (N:=["r"]) (ix:=[1]) rfl
   (CompScope.one (by with_unfolding_all rfl) (by decide) rfl (by decide) rfl (by decide +kernel) (by with_unfolding_all rfl) (by with_unfolding_all rfl) (by with_unfolding_all rfl) rfl rfl) rfl
   (cv rfl B.range (aa (pv 3) ae)) (fun _ _ _=>eE (ao cj (pv 1) (pv 0)))) (aa (pv 2) ae))))
  (ad (ay (i:=5) bw.nd rfl (Or.inl rfl) (aJ d8 hr (by decide) rfl (aa (dM (N:=["r","last"]) (ix:=[1,3]) rfl
   (CompScope.two (by with_unfolding_all rfl) (by decide) rfl (by decide) rfl (by decide +kernel) (by first | exact Or.inl rfl | exact Or.inr rfl) (by with_unfolding_all rfl) (by with_unfolding_all rfl) (by with_unfolding_all rfl) (by with_unfolding_all rfl) rfl rfl (by with_unfolding_all rfl) rfl rfl) rfl
   (cv rfl B.range (aa (pv 3) ae)) (fun _ _ _=>eE (ao bn (ao cj (pv 1) (pv 2)) (pv 0)))) (aa (pv 2) ae))))
  (ad (ay (i:=6) bw.nd rfl (Or.inl rfl) (aJ eN hr (by decide) rfl (aa (pv 3) (aa (pv 2) ae))))
  (ad (ay (i:=7) bw.nd rfl (Or.inl rfl) ai)
  (ad (dR PassesOwn.never rfl (cv rfl B.range (aa (ao bn (pv 3) ai) ae)) (cB (i:=8) bw.nd rfl (Or.inl rfl)) (ad (ay (i:=9) bw.nd rfl (Or.inl rfl) (ao bh (ao cq (aY ix_list (pv 6) (pv 8) (fun _ _=>rfl)) (aY ix_list (pv 6) (ao cj (pv 3) (pv 8)) (fun _ _=>rfl))) (pv 2)))
   (ad (ay (i:=10) bw.nd rfl (Or.inl rfl) (ao cq (ao bh (ao cq (ao cq (aY (ix_list.or bc) (pv 0) (pv 8) (fun _ _=>rfl)) (aY ix_list (pv 4) (pv 8) (fun _ _=>rfl))) (aY ix_list (pv 5) (ao cj (pv 3) (pv 8)) (fun _ _=>rfl))) (pv 2)) (pv 9)))
   (ad (aR (ax bb (ao bh (ao cj (pv 3) (pv 8)) ai) ai (aF _)) (ag (ay (i:=10) bw.nd rfl (Or.inl rfl) (Ac ua (pv 10)))) aG)
   (ag (ay (i:=7) bw.nd rfl (Or.inl rfl) (ao bh (ao bn (pv 7) (pv 10)) (pv 2))))))))
  (ag (aD (pv 7))))))))),?_⟩
 have p2:=pp.1;have p1:1<p:=by omega
 have p0:0<p:=by omega
 have hP:=sq pp (by omega);obtain⟨L,hL⟩:∃L,xs.length=L+1:=⟨xs.length-1,by omega⟩
 have eL:(((xs.map V.int).length:Nat):Int)-1=(L:Int):=by rw[zG0];omega
 refine⟨_,rfl,a,_,rfl,ha.seq,_,_,rfl,rfl,?_⟩
 dsimp only
 rw[eL];refine⟨_,rfl,(L:Int),rfl,by omega,by omega,fun D hD=>?_⟩;refine fk (fun i H'=>H' D=some (.lst (((List.range i).map fun j:Nat=>r-j).map V.int))/\Same H H') ⟨by rw[am];rfl,zD0 hD _⟩ ?_ ?_
 . rintro i H3 hi ⟨hD3,S3⟩;refine⟨_,rfl,_,rfl,_,_,rfl,rfl,_,hD3,?_,Nx.of hi ⟨?_,fun b o e=>?_⟩⟩
   . rw[zG0,zG0,qO0];exact bi (by omega)
   . rw[am,List.range_succ,zM0,zM0,Int.zero_add];rfl
   . rw[aq (aN e hD)];exact S3 _ _ e
 rintro H1 ⟨hD1,S1⟩;rw[show((L:Int)).toNat=L from qS0 L]at hD1;refine⟨_,rfl,D,_,L,p,rfl,hD1,by omega,p1,by omega,fun la H2 la0 S2 hla=>?_⟩;refine⟨_,rfl,(L:Int),rfl,by omega,by omega,fun D2 hD2=>?_⟩;refine fk (fun i H'=>H' D2=some (.lst (((List.range i).map fun j:Nat=>r-(L:Int)+j).map V.int))/\Same H2 H') ⟨by rw[am];rfl,zD0 hD2 _⟩ ?_ ?_
 . rintro i H3 hi ⟨hD3,S3⟩;refine⟨_,rfl,_,rfl,_,_,rfl,rfl,_,rfl,_,_,rfl,rfl,_,hD3,?_,Nx.of hi ⟨?_,fun b o e=>?_⟩⟩
   . rw[zG0,zG0,qO0];exact bi (by omega)
   . rw[am,List.range_succ,zM0,zM0,Int.zero_add];rfl
   . rw[aq (aN e hD2)];exact S3 _ _ e
 rintro H3 ⟨hD3,S3⟩;rw[show((L:Int)).toNat=L from qS0 L]at hD3;refine⟨_,rfl,D2,_,L,p,rfl,hD3,by omega,p1,by omega,fun lb H4 lb0 S4 hlb=>?_⟩;refine⟨_,rfl,_,rfl,L,p,rfl,by omega,by omega,pp,p9,fun ls H5 sh ls0 S5 hsh hsr hls=>?_⟩;have S25:=S3.trans (S4.trans S5);have S05:=S1.trans (S2.trans S25);have hla5:=S25 _ _ hla;have hlb5:=S5 _ _ hlb;have ha5:=ha.same S05;have hW:=BI hsh;refine⟨_,rfl,_,_,rfl,rfl,_,rfl,by omega,by omega,eB (fun i σ H'=>∃(t:Int)(x8 x9 x10:Option V),σ=[some (.ref a),some (.int r),some (.int p),some (.int L),some (.ref la),some (.ref lb),some (.ref ls),some (.int t),x8,x9,x10]/\0<=t/\t<p/\p ∣ t-sm (fun i=>xs.getD i 0*px r i (L+1)*((-1) ^ (L-i)*(sh i*sh (L-i)))) i/\H'=H5)
  ⟨0,_,_,_,rfl,by decide,p0,⟨0,by simp [sm]⟩,rfl⟩ ?_ ?_⟩
 . rintro i σ H6 hi ⟨t,x8,x9,x10,rfl,t0,t1,td,rfl⟩;have hi':i<L+1:=by omega
   obtain⟨m,hm⟩:∃m,L=i+m:=⟨L-i,by omega⟩
   have e0:(0:Int)+(i:Int)=(i:Int):=Int.zero_add _;have e1:(L:Int)-(0+(i:Int))=(m:Int):=by omega
   have r1':=hsr i;have r2':=hsr m;have ar:=kq p1 (fun j:Nat=>r-j) i;have br:=kq p1 (fun j:Nat=>r-(L:Int)+j) m;have xi:=xb i;have m1:∀z:Int,0<=z % p:=fun z=>zU0 _ (by omega)
   have m2:∀z:Int,z % p<p:=fun z=>zY0 _ p0
   refine ⟨_,rfl,_,rfl,ls,_,_,.int (sh i),rfl,rfl,zI0 hls,by rw[e0];exact uW hi',_,rfl,_,rfl,_,rfl,_,_,rfl,rfl,ls,_,_,.int (sh m),rfl,rfl,zI0 hls,by rw[e1];exact uW (by omega),_,_,rfl,rfl,.inl ⟨by omega,by omega⟩,_,rfl,_,_,rfl,rfl,p0,?_⟩;refine⟨_,rfl,_,rfl,?_⟩;rw[e0];refine ha5.ix (by omega) ?_;refine⟨_,rfl,_,rfl,la,_,_,.int (pmd p (fun j:Nat=>r-j) i),rfl,rfl,zI0 hla5,uy hi',_,_,rfl,rfl,.inl ⟨by omega,by omega⟩,?_⟩;refine⟨_,rfl,_,rfl,_,rfl,_,_,rfl,rfl,lb,_,_,.int (pmd p (fun j:Nat=>r-(L:Int)+j) m),rfl,rfl,zI0 hlb5,by rw[←e0,e1];exact uy (by omega),_,_,rfl,rfl,.inr ⟨by omega,by omega⟩,_,rfl,_,_,rfl,rfl,p0,?_⟩;have s1:=m1 (sh i*sh m);have s2:=m2 (sh i*sh m);refine⟨_,rfl,_,_,rfl,rfl,.inr ⟨by omega,by omega⟩,?_⟩;refine⟨_,rfl,_,rfl,_,_,rfl,rfl,_,_,rfl,rfl,(by show(0:Int)<_;decide),rfl,_,rfl,?_⟩;have fin:∀z:Int,z=(if m % 2=1 then -(xs.getD i 0*pmd p (fun j:Nat=>r-j) i*pmd p (fun j:Nat=>r-(L:Int)+j) m % p*(sh i*sh m % p))else xs.getD i 0*pmd p (fun j:Nat=>r-j) i*pmd p (fun j:Nat=>r-(L:Int)+j) m % p*(sh i*sh m % p)) ->
    p ∣ (t+z) % p-sm (fun i=>xs.getD i 0*px r i (L+1)*((-1) ^ (L-i)*(sh i*sh (L-i)))) (i+1):=fun z hz=>by
    show p ∣ _-(sm _ i+xs.getD i 0*px r i (L+1)*((-1) ^ (L-i)*(sh i*sh (L-i))))
    have em:L-i=m:=by omega
    have hb:p ∣ pmd p (fun j:Nat=>r-(L:Int)+j) m-pr (fun j=>r-(i+m:Nat)+j) m:=by
     rw[←hm];exact kr p _ m
    subst hz;rw[em];have el:L+1=i+m+1:=by omega
    rw[el]at td ⊢;exact BL td (kr p _ i) hb (dm p _) (dm p _) (dm p _)
   by_cases c:m % 2=1
   . refine bz (congrArg V.int (by omega)) ?_;refine⟨_,rfl,_,rfl,?_⟩;refine⟨_,rfl,_,rfl,_,_,rfl,rfl,_,rfl,_,_,rfl,rfl,p0,?_⟩;exact⟨_,_,_,_,rfl,m1 _,m2 _,fin _ (by rw[zB0 c]),rfl⟩
   . refine aI (fun z=>c (by have:=V.int.inj z;omega)) ?_;refine⟨_,rfl,_,rfl,_,_,rfl,rfl,_,rfl,_,_,rfl,rfl,p0,?_⟩;exact⟨_,_,_,_,rfl,m1 _,m2 _,fin _ (by rw[zA0 c]),rfl⟩
 . rintro σ H6 ⟨t,x8,x9,x10,rfl,t0,t1,td,rfl⟩;rw[show((L:Int)+1).toNat=L+1 by omega]at td;rw[←hL]at hW;have e:=DG (r:=r) hP xp hW t0 t1 (by
    unfold lag;rw[hL];exact td)
   rw[e];exact⟨_,rfl,q H6 S05⟩
theorem qm:FnScope ["values","r","p","place"] ["values","r","p"] (af eT):=⟨rfl,rfl,rfl,by decide +kernel,rfl,by decide +kernel,by decide +kernel⟩
theorem sy {f:Addr} {fd:FuncData} (F:Fun K "value_at" "value_at" eT f fd) (B:Bl mg) (fY:Cal P w K mg base 3 "value_behind" ["values","r","p"] pE):FnOk P w K mg base CX0 4 f fd ["values","r","p"] pE:=by
 refine F.ok qm (fun vs H Q E h=>?_) (fun cdv A outer s H vs Q E hr h=>?_)
 . obtain⟨a,xs,r,p,rfl,_⟩:=h;rfl
 obtain ⟨a,xs,r,p,rfl,ha,ok,pp,p9,r0,r1,q⟩:=h;refine⟨_,(ad (ay (i:=3) qm.nd rfl (Or.inl rfl) (ao bh (pv 1) (pv 2)))
  (ad (aR (ax iS (pv 3) (aO aM rfl B.len PySem.boot_len (aa (pv 0) ae)) (aF _)) (ag (aD (ao bh (aY (ix_list.or bc) (pv 0) (pv 3) (fun _ _=>rfl)) (pv 2)))) aG)
  (ag (aD (aJ fY hr (by decide) rfl (aa (pv 0) (aa (pv 3) (aa (pv 2) ae)))))))),?_⟩
 have p0:0<p:=by omega
 have hP:=sq pp (by omega);have er:r % p=r:=qP0 r0 r1;refine⟨_,rfl,_,rfl,_,_,rfl,rfl,p0,?_⟩
 dsimp only
 rw[er];refine⟨_,rfl,_,rfl,a,_,rfl,ha.seq,_,_,rfl,rfl,_,rfl,?_⟩;refine sV (fun c=>?_) (fun c=>?_)
 . have c':=of_decide_eq_true c;rw[zG0]at c';obtain⟨k,rfl⟩:∃k:Nat,r=(k:Int):=⟨r.toNat,by omega⟩
   refine⟨_,rfl,_,rfl,?_⟩;refine ha.ix (by omega) ?_;refine⟨_,rfl,_,_,rfl,rfl,p0,?_⟩;show Q (.int (xs.getD k 0 % p)) H;rw[←DH hP ok.2.2.1 (by omega)];exact q H (Same.refl _)
 . exact⟨_,rfl,_,rfl,_,rfl,a,xs,r,p,rfl,ha,ok,pp,p9,r0,r1,q⟩
def zq:Sp:=fun vs H Q _=>∃(a:Addr)(xs:List Int)(p:Int),vs=[.ref a,.int p]/\IntsAt H a xs/\jP xs p/\Pr p/\p<=999983/\∀H',Same H H'->Q (.int ((val p xs 0+val p xs 1) % p)) H'
theorem qu:FnScope ["values","p"] ["values","p"] (af ei):=⟨rfl,rfl,rfl,by decide +kernel,rfl,by decide +kernel,by decide +kernel⟩
theorem qS {f:Addr} {fd:FuncData} (F:Fun K "both_ends" "both_ends" ei f fd) (b9:Cal P w K mg base 4 "value_at" ["values","r","p"] pE):FnOk P w K mg base CX0 5 f fd ["values","p"] zq:=by
 refine F.ok qu (fun vs H Q E h=>?_) (fun cdv A outer s H vs Q E hr h=>?_)
 . obtain⟨a,xs,p,rfl,_⟩:=h;rfl
 obtain⟨a,xs,p,rfl,ha,ok,pp,p9,q⟩:=h;refine⟨_,(ag (aD (ao bh (ao bn (aJ b9 hr (by decide) rfl (aa (pv 0) (aa ai (aa (pv 1) ae)))) (aJ b9 hr (by decide) rfl (aa (pv 0) (aa ai (aa (pv 1) ae))))) (pv 1)))),?_⟩;have p2:=pp.1;refine⟨_,rfl,_,rfl,a,xs,0,p,rfl,ha,ok,pp,p9,by decide,by omega,fun H1 S1=>?_⟩;refine⟨_,rfl,_,rfl,a,xs,1,p,rfl,ha.same S1,ok,pp,p9,by decide,by omega,fun H2 S2=>?_⟩;exact⟨_,_,rfl,rfl,_,rfl,_,_,rfl,rfl,(by omega),q H2 (S1.trans S2)⟩
theorem IntsAt.sqB{K:W.Frag}{H:Hp}{a:Addr}{xs:List Int}(h:IntsAt H a xs):∃c,SqB K c H a (xs.map V.int):=h.elim (fun e=>⟨true,zI0 e⟩) (fun e=>⟨false,zE0 e⟩)
def hor(s p:Int):List Int->Int
 | []=>0
 | a::r=>(hor s p r*s+a) % p
theorem jF{s p:Int}(hp:0<p):∀ns,0<=hor s p ns/\hor s p ns<p
 | []=>⟨Int.le_refl 0,hp⟩
 | a::r=>⟨zU0 _ (by omega),zY0 _ hp⟩
def zi(C:Addr):Sp:=fun vs H Q _=>∃(g a b d l:Addr)(ns:List Int)(s p:Int),vs=[.ref g,.ref l,.int s]/\GameAt C H g a b d p/\0<p/\p<2 ^ 40/\IntsAt H l ns/\Q (.int (hor s p ns)) H
theorem o9:FnScope ["self","numbers","s","total","number"] ["self","numbers","s"] (af lh):=⟨rfl,rfl,rfl,by decide +kernel,rfl,by decide +kernel,by decide +kernel⟩
theorem Cu {f C:Addr} {fd:FuncData} (F:Fun K "mix" "Game.mix" lh f fd) (T:GTxt K mg C) (hrev:mg "reversed"=none):FnOk P w K mg base CX0 1 f fd ["self","numbers","s"] (zi C):=by
 refine F.ok o9 (fun vs H Q E h=>?_) (fun cdv A outer s H vs Q E hr h=>?_)
 . obtain⟨g,a,b,d,l,ns,s,p,rfl,_⟩:=h;rfl
 obtain ⟨g,a,b,d,l,ns,s,p,rfl,⟨dx,hg⟩,p0,p40,hl,q⟩:=h;refine⟨_,(ad (ay (i:=3) o9.nd rfl (Or.inl rfl) ai)
  (ad (dR PassesOwn.never rfl (Cl rfl hrev (pv 1)) (cB (i:=4) o9.nd rfl (Or.inl rfl)) (ag (ay (i:=3) o9.nd rfl (Or.inl rfl) (ao bh (ao bn (ao cq (pv 3) (pv 2)) (pv 4)) (au (pv 0) rfl)))))
  (ag (aD (pv 3))))),?_⟩
 obtain ⟨c,hl⟩:=hl.sqB (K:=K);refine⟨_,rfl,c,l,_,rfl,hl,Bg (K:=K) (c:=c) (xs:=ns.map V.int) (fun i σ H'=>∃(x4:Option V)(t:Int),σ=[some (.ref g),some (.ref l),some (.int s),some (.int t),x4]/\t=hor s p (ns.drop (ns.length-i))/\H'=H)
  ⟨_,0,rfl,by rw[Nat.sub_zero,List.drop_length];rfl,rfl⟩ (fun i σ H' _ hst=>by obtain⟨_,_,_,_,h⟩:=hst;subst h;exact hl) ?_ ?_⟩
 . rintro i z σ H1 hi hz ⟨x4,t,rfl,rfl,rfl⟩;rw[zG0]at hi;rw[←List.map_reverse,qA0]at hz;obtain⟨x,hx,rfl⟩:=Option.map_eq_some_iff.mp hz;rw[List.getElem?_reverse hi]at hx;have hr2:=jF (s:=s) p0 (ns.drop (ns.length-i));refine⟨_,rfl,_,rfl,_,_,rfl,rfl,.inl ⟨by omega,by omega⟩,_,rfl,_,_,rfl,rfl,_,rfl,g,C,dx,_,_,rfl,hg,T.cl,T.nF,gu ..,_,_,rfl,rfl,p0,?_⟩;refine⟨_,_,rfl,?_,rfl⟩;have hj:ns.length-1-i<ns.length:=by omega
   have ed:ns.drop (ns.length-(i+1))=x::ns.drop (ns.length-i):=by
    have e1:ns.length-(i+1)=ns.length-1-i:=by omega
    have e2:ns.length-i=ns.length-1-i+1:=by omega
    rw[e1,e2,List.drop_eq_getElem_cons hj]
    congr 1
    rw[zP0 hj]at hx;exact zR0 hx
   rw[ed];rfl
 . rintro σ H1 ⟨x4,t,rfl,rfl,rfl⟩;rw[zG0,Nat.sub_self,List.drop_zero];exact⟨_,rfl,q⟩
def zc(C:Addr):Sp:=fun vs H Q _=>∃(g a b d r:Addr)(ns:List Str)(tv:List V)(ts:List Tr)(pt:List Int)(s p:Int),vs=[.ref g,.ref r,.int s]/\GameAt C H g a b d p/\1<p/\p<2 ^ 40/\H a=some (.tup (ns.map V.str))/\H b=some (.tup tv)/\TreesAt H tv ts/\ts.length<=10/\(∀t∈ts,t.ok ns/\t.depth<=10)/\
 H r=some (.tup (pt.map V.int))/\pt.length=ns.length/\cg pt p/\∀H',Same H H'->Q (.int (hor s p (ts.map fun t=>t.worth ns pt p))) H'
theorem xt:FnScope ["self","point","s"] ["self","point","s"] (af gU):=⟨rfl,rfl,rfl,by decide +kernel,rfl,by decide +kernel,by decide +kernel⟩
theorem xM {f fm C:Addr} {fd fdm:FuncData} (F:Fun K "worth_at" "Game.worth_at" gU f fd) (T:GTxt K mg C) (mM:Meth K C "mix" fm) (GM:FnOk P w K mg base CX0 1 fm fdm ["self","numbers","s"] (zi C)) (bM:Binds K fdm ["self","numbers","s"] []) (e8:Cal P w K mg base 12 "worth_of" ["tree","switches","point","p"] (jb 10)):FnOk P w K mg base CX0 13 f fd ["self","point","s"] (zc C):=by
 refine F.ok xt (fun vs H Q E h=>?_) (fun cdv A outer s H vs Q E hr h=>?_)
 . obtain⟨g,a,b,d,r,ns,tv,ts,pt,s,p,rfl,_⟩:=h;rfl
 obtain ⟨g,a,b,d,r,ns,tv,ts,pt,s,p,rfl,⟨dx,hg⟩,p1,p40,ha,hb,TS,t10,tok,hr0,pl,po,q⟩:=h;have hr1:Room 1 _:=hr.mono (by decide);refine⟨_,(ag (aD (cZ (pv 0) T.cl mM GM hr1 bM .nil bY (aa (dM (N:=["self","point"]) (ix:=[0,1]) rfl
  (CompScope.two (by with_unfolding_all rfl) (by decide) rfl (by decide) rfl (by decide +kernel) (by first | exact Or.inl rfl | exact Or.inr rfl) (by with_unfolding_all rfl) (by with_unfolding_all rfl) (by with_unfolding_all rfl) (by with_unfolding_all rfl) rfl rfl (by with_unfolding_all rfl) rfl rfl) rfl
  (iQ (au (pv 0) rfl)) (fun _ _ _=>eE (aJ e8 hr (by decide) rfl (aa (pv 0) (aa (jz K (pv 1)) (aa (pv 2) (aa (jz K (pv 1)) ae))))))) (aa (pv 2) ae))))),?_⟩
 have vl:=TS.length;refine⟨_,rfl,g,dx,_,rfl,hg,oA _ _ _ _ (by decide +kernel) (by decide +kernel) (by decide +kernel) (by decide +kernel),?_⟩;refine⟨_,rfl,g,C,dx,_,_,rfl,hg,T.cl,T.nT,kG ..,b,rfl,⟨_,zE0 hb⟩,fun D hD=>?_⟩;refine hZ (K:=K) (xs:=tv) (fun i H'=>H' D=some (.lst (((ts.take i).map fun t=>t.worth ns pt p).map V.int))/\Same H H') ⟨by rw[am];rfl,zD0 hD _⟩ (fun i H' _ h=>zE0 (h.2 _ _ hb)) ?_ ?_
 . rintro i z H2 hz ⟨hl,S2⟩;obtain⟨t,ht,Tt⟩:=TS.get hz;obtain⟨tk,td⟩:=tok t (qJ0 ht);have hi:i<tv.length:=(zX0 hz).1;refine⟨_,rfl,_,rfl,g,C,dx,_,_,rfl,S2 _ _ hg,T.cl,T.nS,lZ ..,_,rfl,_,rfl,g,C,dx,_,_,rfl,S2 _ _ hg,T.cl,T.nF,gu ..,z,t,a,r,ns,pt,p,rfl,Tt.mono (bp S2),tk,td,.inr (S2 _ _ ha),S2 _ _ hr0,pl,p1,p40,po,?_⟩;refine⟨_,hl,?_,Nx.of hi ⟨?_,fun b' o' e'=>?_⟩⟩
   . rw[zG0,zG0,qN0];exact bi (by omega)
   . rw[am,qQ0,ht,zM0,zM0];rfl
   . rw[aq (aN e' hD)];exact S2 _ _ e'
 . rintro H2 ⟨hl,S2⟩;rw[vl,qR0]at hl;exact⟨_,rfl,g,a,b,d,D,_,s,p,rfl,⟨dx,S2 _ _ hg⟩,by omega,p40,.inl hl,q H2 S2⟩
def qk(C:Addr):Sp:=fun vs H Q _=>∃(g a b d:Addr)(ns:List Str)(tv:List V)(p:Int),vs=[.ref g]/\GameAt C H g a b d p/\H a=some (.tup (ns.map V.str))/\H b=some (.tup tv)/\Q (.int (if tv.length=1 then(ns.length:Int)else(ns.length:Int)+1)) H
theorem xu:FnScope ["self"] ["self"] (af gV):=⟨rfl,rfl,rfl,by decide +kernel,rfl,by decide +kernel,by decide +kernel⟩
theorem xN {f C:Addr} {fd:FuncData} (F:Fun K "coins" "Game.coins" gV f fd) (T:GTxt K mg C) (hlen:mg "len"=none):FnOk P w K mg base CX0 1 f fd ["self"] (qk C):=by
 refine F.ok xu (fun vs H Q E h=>?_) (fun cdv A outer s H vs Q E hr h=>?_)
 . obtain⟨g,a,b,d,ns,tv,p,rfl,_⟩:=h;rfl
 obtain ⟨g,a,b,d,ns,tv,p,rfl,⟨dx,hg⟩,ha,hb,q⟩:=h;refine⟨_,(ad (aR (ax bb (aO aM rfl hlen PySem.boot_len (aa (au (pv 0) rfl) ae)) ai (aF _)) (ag (aD (aO aM rfl hlen PySem.boot_len (aa (au (pv 0) rfl) ae)))) aG)
  (ag (aD (ao bn (aO aM rfl hlen PySem.boot_len (aa (au (pv 0) rfl) ae)) ai)))),?_⟩
 refine⟨_,rfl,g,C,dx,_,_,rfl,hg,T.cl,T.nT,kG ..,b,_,rfl,.inr (zE0 hb),rfl,_,rfl,?_⟩
 by_cases c:V.int (tv.length:Int)=V.int 1
 . refine bz c ?_;have c':tv.length=1:=by have:=V.int.inj c;omega
   rw[zB0 c']at q;refine⟨_,rfl,g,C,dx,_,_,rfl,hg,T.cl,T.nS,lZ ..,a,_,rfl,.inr (zE0 ha),?_⟩;rw[zG0];exact q
 . refine aI c ?_;have c':¬ tv.length=1:=fun z=>c (by rw[z];rfl)
   rw[zA0 c']at q;refine⟨_,rfl,g,C,dx,_,_,rfl,hg,T.cl,T.nS,lZ ..,a,_,rfl,.inr (zE0 ha),?_⟩;rw[zG0];exact⟨_,_,rfl,rfl,q⟩
def kU(n:Nat):Sp:=fun vs H Q _=>∃(v:V)(t:Tr),vs=[v]/\TreeAt H v t/\t.wf/\t.depth<=n/\t.size<=400/\∀H',Same H H'->Q (.int t.size) H'
theorem ul(ts:List Tr):(ts.map fun u=>(u.size:Int)).sum=(gO ts:Int):=by
 induction ts with
 | nil=>rfl
 | cons a r ih=>
   simp only[gO,zS0,List.sum_cons]at ih ⊢;rw[ih];omega
theorem uq:FnScope ["tree"] ["tree"] (af eV):=⟨rfl,rfl,rfl,by decide +kernel,rfl,by decide +kernel,by decide +kernel⟩
theorem xj {n:Nat} {f:Addr} {fd:FuncData} (F:Fun K "size_of" "size_of" eV f fd) (B:Bl mg) (bj:Cal P w K mg base 1 "trees_within" ["tree"] iH) (gI:Cal P w K mg base (n+2) "size_of" ["tree"] (kU n)):FnOk P w K mg base CX0 (n+3) f fd ["tree"] (kU (n+1)):=by
 refine F.ok uq (fun vs H Q E h=>?_) (fun cdv A outer s H vs Q E hr h=>?_)
 . obtain⟨v,t,rfl,_⟩:=h;rfl
 obtain ⟨v,t,rfl,T,wf,dn,sz,q⟩:=h;refine⟨_,(ag (aD (ao bn ai (aO (oM rfl) rfl B.sum PyProof.Rows.boot_sum (aa (dM (N:=[]) (ix:=[]) (cl:=[]) rfl (CompScope.closed (by with_unfolding_all rfl) (by decide) rfl (by decide) rfl (by with_unfolding_all rfl)) rfl
  (iQ (aJ bj hr (by omega) rfl (aa (pv 0) ae))) (fun _ _ _=>eE (aJ gI hr (zF0 _) rfl (aa (pv 0) ae)))) ae))))),?_⟩
 refine⟨_,rfl,v,t,rfl,T,wf,fun p xs H1 S1 hp TS=>?_⟩;refine⟨p,rfl,⟨_,zE0 hp⟩,fun D hD=>?_⟩;have pD:p≠D:=aN hp hD;have xl:=TS.length;have sp:=t.size_parts;refine hZ (K:=K) (xs:=xs) (fun i H'=>H' D=some (.lst (((t.parts.take i).map fun u=>(u.size:Int)).map V.int))/\Same H1 H') ⟨by rw[am];rfl,zD0 hD _⟩ (fun i H' _ h=>zE0 (h.2 _ _ hp)) ?_ ?_
 . rintro i x H2 hx ⟨hl,S2⟩;obtain⟨u,hu,Tu⟩:=TS.get hx;have um:=qJ0 hu;obtain⟨uw,ud,us⟩:=Tr.parts_mem um wf;have hi:i<xs.length:=(zX0 hx).1;refine⟨_,rfl,x,u,rfl,Tu.mono (bp S2),uw,by omega,by omega,fun H3 S3=>?_⟩;refine⟨_,S3 _ _ hl,?_,Nx.of hi ⟨?_,fun b o e=>?_⟩⟩
   . have:t.parts.length<=2:=by cases t <;> simp [Tr.parts]
     rw[zG0,zG0,qN0];exact bi (by omega)
   . rw[am,qQ0,hu,zM0,zM0];rfl
   . rw[aq (aN e hD)];exact S3 _ _ (S2 _ _ e)
 . rintro H2 ⟨hl,S2⟩;rw[xl,qR0]at hl;have sc:=ul t.parts;refine⟨D,_,rfl,zI0 hl,?_,?_,?_⟩
   . intro n hn;obtain⟨u,_,rfl⟩:=List.mem_map.mp hn;omega
   . rw[sc];omega
   . rw [sc];refine⟨_,_,rfl,rfl,?_⟩;have e:(1:Int)+(gO t.parts:Int)=(t.size:Int):=by omega
     show Q (.int (1+(gO t.parts:Int))) H2;rw[e];exact q H2 (S1.trans S2)
theorem xh {f:Addr} {fd:FuncData}:FnOk P w K mg base CX0 2 f fd ["tree"] (kU 0):=by
 have no:∀vs H Q E,¬ kU 0 vs H Q E:=fun vs H Q E h=>by
  obtain⟨v,t,_,_,_,h1,_⟩:=h
  have:=t.depth_pos
  omega
 exact⟨fun vs H Q E h=>absurd h (no vs H Q E),fun A outer s H args us vs Q E _ _ _ _ h=>absurd h (no vs H Q E)⟩
theorem oh {f:Addr} {fd:FuncData} (F:Fun K "size_of" "size_of" eV f fd) (B:Bl mg) (m:mg "size_of"=some (.ref f)) (bj:Cal P w K mg base 1 "trees_within" ["tree"] iH) :
 ∀n:Nat,FnOk P w K mg base CX0 (n+2) f fd ["tree"] (kU n)
 | 0=>xh
 | n+1=>xj F B bj (Cal.of F (oh F B m bj n) m (fun _ _ _ _ _ _ us hl=>by obtain⟨u0,rfl⟩:=gs hl;rfl))
abbrev jr:Stmt:=bJ cW 0
abbrev gW:Stmt:=bJ cW 1
abbrev lj:Stmt:=bJ cW 2
abbrev jt:Stmt:=bJ cW 4
abbrev jq:Stmt:=bJ cW 5
abbrev gh:Stmt:=bJ cW 6
abbrev gY:Stmt:=bJ cW 7
abbrev li:Stmt:=bJ cW 8
abbrev pH:Stmt:=bJ cW 9
abbrev gX:Stmt:=bJ cW 10
def dl (g aA aC:Addr) (s:Int) (aH aT:Addr) (ed pl:Int):List (Str×V):=[("game",.ref g),("awaited",.ref aA),("claims",.ref aC),("s",.int s),("heard",.ref aH),("tossed",.ref aT),("held",.int ed),("places",.int pl)]
section
variable {g aA aC aH aT:Addr} {s ed pl:Int}
theorem hX:(dl g aA aC s aH aT ed pl).lookup ("game":Str)=some (.ref g):=by with_unfolding_all rfl
theorem Bp:(dl g aA aC s aH aT ed pl).lookup ("awaited":Str)=some (.ref aA):=by with_unfolding_all rfl
theorem EQ:(dl g aA aC s aH aT ed pl).lookup ("claims":Str)=some (.ref aC):=by with_unfolding_all rfl
theorem EL:(dl g aA aC s aH aT ed pl).lookup ("s":Str)=some (.int s):=by with_unfolding_all rfl
theorem EO:(dl g aA aC s aH aT ed pl).lookup ("heard":Str)=some (.ref aH):=by with_unfolding_all rfl
theorem vq:(dl g aA aC s aH aT ed pl).lookup ("tossed":Str)=some (.ref aT):=by with_unfolding_all rfl
theorem wK:(dl g aA aC s aH aT ed pl).lookup ("held":Str)=some (.int ed):=by with_unfolding_all rfl
theorem wI:(dl g aA aC s aH aT ed pl).lookup ("places":Str)=some (.int pl):=by with_unfolding_all rfl
theorem wJ:(dl g aA aC s aH aT ed pl).lookup ("waits":Str)=none:=by with_unfolding_all rfl
theorem dl_n2:(dl g aA aC s aH aT ed pl).lookup ("due":Str)=none:=by with_unfolding_all rfl
theorem dl_n4:(dl g aA aC s aH aT ed pl).lookup ("hear":Str)=none:=by with_unfolding_all rfl
theorem dl_n5:(dl g aA aC s aH aT ed pl).lookup ("toss":Str)=none:=by with_unfolding_all rfl
theorem dl_n6:(dl g aA aC s aH aT ed pl).lookup ("hear_claims":Str)=none:=by with_unfolding_all rfl
theorem Dw:(dl g aA aC s aH aT ed pl).lookup ("begin_rounds":Str)=none:=by with_unfolding_all rfl
theorem dl_n8:(dl g aA aC s aH aT ed pl).lookup ("hear_row":Str)=none:=by with_unfolding_all rfl
theorem Bo:(dl g aA aC s aH aT ed pl).lookup ("go_on":Str)=none:=by with_unfolding_all rfl
theorem EN:(dl g aA aC s aH aT ed pl).lookup ("look_at_trees":Str)=none:=by with_unfolding_all rfl
theorem nI {v:Addr}:bK "awaited" (.ref v) (dl g aA aC s aH aT ed pl)=dl g v aC s aH aT ed pl:=by with_unfolding_all rfl
theorem Dr {v:Addr}:bK "claims" (.ref v) (dl g aA aC s aH aT ed pl)=dl g aA v s aH aT ed pl:=by with_unfolding_all rfl
theorem Dp {v:Int}:bK "s" (.int v) (dl g aA aC s aH aT ed pl)=dl g aA aC v aH aT ed pl:=by with_unfolding_all rfl
theorem Dq {v:Addr}:bK "heard" (.ref v) (dl g aA aC s aH aT ed pl)=dl g aA aC s v aT ed pl:=by with_unfolding_all rfl
theorem zS {v:Addr}:bK "tossed" (.ref v) (dl g aA aC s aH aT ed pl)=dl g aA aC s aH v ed pl:=by with_unfolding_all rfl
theorem ux {v:Int}:bK "held" (.int v) (dl g aA aC s aH aT ed pl)=dl g aA aC s aH aT v pl:=by with_unfolding_all rfl
theorem qE {v:Int}:bK "places" (.int v) (dl g aA aC s aH aT ed pl)=dl g aA aC s aH aT ed v:=by with_unfolding_all rfl
theorem cw:(dl g aA aC s aH aT ed pl).length<1000:=by show 8<1000;decide
end
structure DTxt(K:W.Frag)(mg:Str->Option Value)(C:Addr):Prop where
 cl:Cls K C
 nG:NoAttr K C "game"
 nA:NoAttr K C "awaited"
 nC:NoAttr K C "claims"
 nS:NoAttr K C "s"
 nH:NoAttr K C "heard"
 nT:NoAttr K C "tossed"
 nE:NoAttr K C "held"
 nP:NoAttr K C "places"
 mgC:mg "Doubter"=some (.ref C)
structure Db where
 aw:Str×Option Int
 cl:List Int
 s:Int
 he:List Int
 to:List Int
 ed:Int
 pl:Int
def awV(a:Str×Option Int):List V:=match a.2 with
 | none=>[.str a.1]
 | some n=>[.str a.1,.int n]
structure DbR(C:Addr)(H:Hp)(D g:Addr)(z:Db)(dx aA aC aH aT:Addr):Prop where
 hD:H D=some (.ins C dx (dl g aA aC z.s aH aT z.ed z.pl))
 hA:H aA=some (.tup (awV z.aw))
 hC:H aC=some (.tup (z.cl.map V.int))
 hH:H aH=some (.tup (z.he.map V.int))
 hT:H aT=some (.tup (z.to.map V.int))
theorem DbR.same{C:Addr}{H H':Hp}{D g:Addr}{z:Db}{dx aA aC aH aT:Addr}(h:DbR C H D g z dx aA aC aH aT)(s:Same H H'):DbR C H' D g z dx aA aC aH aT:=⟨s _ _ h.hD,s _ _ h.hA,s _ _ h.hC,s _ _ h.hH,s _ _ h.hT⟩
theorem DbR.set{C:Addr}{H:Hp}{D g:Addr}{z:Db}{dx aA aC aH aT C' dx':Addr}{fs:List (Str×V)}(hD:H D=some (.ins C' dx' fs))(hA:H aA=some (.tup (awV z.aw)))(hC:H aC=some (.tup (z.cl.map V.int)))(hH:H aH=some (.tup (z.he.map V.int)))(hT:H aT=some (.tup (z.to.map V.int))) :
 DbR C (upd H D (.ins C dx (dl g aA aC z.s aH aT z.ed z.pl))) D g z dx aA aC aH aT:=by
 refine⟨am,?_,?_,?_,?_⟩
 . rw[aq (bq hA hD (by intro z;cases z))];exact hA
 . rw[aq (bq hC hD (by intro z;cases z))];exact hC
 . rw[aq (bq hH hD (by intro z;cases z))];exact hH
 . rw[aq (bq hT hD (by intro z;cases z))];exact hT
def DbAt(C:Addr)(H:Hp)(D g:Addr)(z:Db):Prop:=∃dx aA aC aH aT,DbR C H D g z dx aA aC aH aT
theorem DbAt.same{C:Addr}{H H':Hp}{D g:Addr}{z:Db}(h:DbAt C H D g z)(s:Same H H'):DbAt C H' D g z:=by
 obtain⟨_,_,_,_,_,r⟩:=h;exact⟨_,_,_,_,_,r.same s⟩
def Gm(CG:Addr)(H:Hp)(g:Addr)(ns:List Str)(ts:List Tr)(p:Int):Prop:=∃(a b d:Addr)(tv:List V),GameAt CG H g a b d p/\H a=some (.tup (ns.map V.str))/\H b=some (.tup tv)/\TreesAt H tv ts/\H d=some (.lst ((ns.map (bd ts)).map V.int))
theorem Gm.same{CG:Addr}{H H':Hp}{g:Addr}{ns:List Str}{ts:List Tr}{p:Int}(h:Gm CG H g ns ts p)(s:Same H H'):Gm CG H' g ns ts p:=by
 obtain⟨a,b,d,tv,h1,h2,h3,h4,h5⟩:=h;exact⟨a,b,d,tv,h1.same s,s _ _ h2,s _ _ h3,h4.mono (bp s),s _ _ h5⟩
theorem CK (a b:Addr) (p:Int) (d:Addr):(gf a b p d).lookup ("game":Str)=none:=oA _ _ _ _ (by decide +kernel) (by decide +kernel) (by decide +kernel) (by decide +kernel)
theorem Gm.ne {CG C:Addr} {H:Hp} {g D:Addr} {ns:List Str} {ts:List Tr} {p:Int} {dx:Addr} {fs:List (Str×V)} {v:V} (h:Gm CG H g ns ts p) (hD:H D=some (.ins C dx fs)) (hg:fs.lookup ("game":Str)=some v):g≠D:=fun z=>by
 obtain⟨a,b,d,tv,⟨dx',e⟩,_⟩:=h;rw[z,hD]at e;cases e;rw[CK]at hg;cases hg
theorem Gm.but{CG C:Addr}{H H':Hp}{g D:Addr}{ns:List Str}{ts:List Tr}{p:Int}{dx:Addr}{fs:List (Str×V)}(h:Gm CG H g ns ts p)(hD:H D=some (.ins C dx fs))(hg:g≠D)(s:SameBut D H H'):Gm CG H' g ns ts p:=by
 obtain⟨a,b,d,tv,⟨dx',e⟩,h2,h3,h4,h5⟩:=h;exact⟨a,b,d,tv,⟨dx',s _ _ hg e⟩,s _ _ (bq h2 hD (by intro z;cases z)) h2,s _ _ (bq h3 hD (by intro z;cases z)) h3,h4.mono (fun c xs hc=>s _ _ (bq hc hD (by intro z;cases z)) hc),s _ _ (bq h5 hD (by intro z;cases z)) h5⟩
structure GmK(ns:List Str)(ts:List Tr)(p:Int):Prop where
 pr:Pr p
 p2:2<p
 p9:p<=999983
 n10:ns.length<=10
 t1:1<=ts.length
 t10:ts.length<=10
 tok:∀t∈ts,t.ok ns/\t.wf/\t.depth<=10/\t.size<=400
 tp:(ts.length:Int)<=p
 tc:∀t∈ts,∀x∈ns,(t.names.count x:Int)<p
theorem GmK.deg{ns:List Str}{ts:List Tr}{p:Int}(k:GmK ns ts p):∀x∈ns,0<=bd ts x/\bd ts x<p:=fun x hx=>by
 have t0:ts≠[]:=fun z=>by have:=k.t1;rw[z]at this;cases this
 refine⟨?_,oK t0 fun t ht=>k.tc t ht x hx⟩
 have:=iT (ns:=ts.map fun t=>(t.names.count x:Int)) (by simpa using t0)
 obtain⟨t,_,e⟩:=List.mem_map.mp this;unfold bd;rw[←e];omega
def szs(ts:List Tr):Int:=(ts.map fun t=>(t.size:Int)).sum
def dh(ns:List Str)(ts:List Tr)(p:Int)(z:Db):Db:=
 { z with pl:=z.pl+szs ts,aw:=if z.ed=hor z.s p (ts.map fun t=>t.worth ns z.to p)then("believed",none)else("caught",some ((z.to.length:Int)+1)) }
def goOn(ns:List Str)(ts:List Tr)(p:Int)(z:Db):Db:=
 if z.to.length<ns.length then { z with aw:=("hear",some (bd ts (ns.getD z.to.length "")+1)) }else dh ns ts p z
def pk(ns:List Str)(ts:List Tr)(p s:Int)(z:Db):Db:=goOn ns ts p { z with s:=s,ed:=hor s p z.cl }
def iy(ns:List Str)(ts:List Tr)(p:Int)(xs:List Int)(z:Db):Db:=
 if ts.length=1 then pk ns ts p 0 { z with cl:=xs }else { z with cl:=xs,aw:=("coin",none) }
def de(p:Int)(xs:List Int)(z:Db):Db:=
 { z with he:=xs,aw:=if(val p xs 0+val p xs 1) % p=z.ed then("coin",none)else("caught",some ((z.to.length:Int)+1)) }
def cD(ns:List Str)(ts:List Tr)(p:Int)(xs:List Int)(z:Db):Db:=
 if z.cl=[]then iy ns ts p xs { z with pl:=z.pl+(xs.length:Int) }else de p xs { z with pl:=z.pl+(xs.length:Int) }
def dc(ns:List Str)(ts:List Tr)(p r:Int)(z:Db):Db:=
 if z.he=[]then pk ns ts p r { z with pl:=z.pl+1 }else goOn ns ts p { z with pl:=z.pl+1,ed:=val p z.he r,to:=z.to++[r] }
def Db.new (ts:List Tr):Db:=⟨("hear",some (ts.length:Int)),[],0,[],[],0,0⟩
def qg:Sp:=fun vs H Q _=>∃n p:Int,vs=[.int n,.int p]/\Q (.bl (decide (0<=n)&&decide (n<p))) H
theorem qo:FnScope ["value","p"] ["value","p"] (af dX):=⟨rfl,rfl,rfl,by decide +kernel,rfl,by decide +kernel,by decide +kernel⟩
theorem qO {f:Addr} {fd:FuncData} (F:Fun K "is_number" "is_number" dX f fd) (B:Bl mg):FnOk P w K mg base CX0 1 f fd ["value","p"] qg:=by
 refine F.ok qo (fun vs H Q E h=>?_) (fun cdv A outer s H vs Q E hr h=>?_)
 . obtain⟨n,p,rfl,_⟩:=h;rfl
 obtain⟨n,p,rfl,q⟩:=h;refine⟨_,(ag (aD (lu (aO gG rfl B.isinstance PyProof.Rows.boot_isinstance (aa (pv 0) (aa (jA (v:=V.ty "int") rfl B.int lI rfl) ae))) (lu (uC (aO gG rfl B.isinstance PyProof.Rows.boot_isinstance (aa (pv 0) (aa (jA (v:=V.ty "bool") rfl B.bool oQ rfl) ae)))) (nW (Ag sx iS ai (pv 0) (pv 1))))))),?_⟩;refine⟨_,rfl,_,_,"int",true,rfl,TyOf.int _,sS _ _,true,rfl,jK ?_⟩;refine⟨_,rfl,_,_,"bool",false,rfl,TyOf.int _,kD _,false,rfl,true,rfl,jK ?_⟩;refine⟨_,rfl,_,_,rfl,rfl,_,rfl,?_⟩
 by_cases c:0<=n
 . rw[decide_eq_true c]at q;refine bz c ⟨_,rfl,_,_,rfl,rfl,?_⟩;exact q
 . rw[decide_eq_false c]at q;refine aI c ?_;exact q
def vX(C:Addr):Sp:=fun vs H Q _=>∃(g:Addr)(ns:List Str)(ts:List Tr)(p:Int),vs=[.ref g]/\Gm C H g ns ts p/\GmK ns ts p/\∀H',Same H H'->Q (.int (szs ts)) H'
theorem qv:FnScope ["game"] ["game"] (af eA):=⟨rfl,rfl,rfl,by decide +kernel,rfl,by decide +kernel,by decide +kernel⟩
theorem BQ{ts:List Tr}(h:∀t∈ts,t.size<=400)(hl:ts.length<=10):0<=szs ts/\szs ts<=4000:=by
 have:∀l:List Tr,(∀t∈l,t.size<=400)->0<=szs l/\szs l<=400*(l.length:Int):=fun l=>by
  induction l with
  | nil=>intro _;exact⟨Int.le_refl _,Int.le_refl _⟩
  | cons t r ih=>
    intro hh;have h1:=ih fun u hu=>hh u (qF0 _ hu)
    have h2:=hh t (qG0 ..);have e:szs (t::r)=(t.size:Int)+szs r:=by unfold szs;rw[zS0,List.sum_cons]
    rw[e,qC0];omega
 have:=this ts h
 omega
theorem qT {f C:Addr} {fd:FuncData} (F:Fun K "all_sizes" "all_sizes" eA f fd) (B:Bl mg) (T:GTxt K mg C) (gI:Cal P w K mg base 12 "size_of" ["tree"] (kU 10)):FnOk P w K mg base CX0 13 f fd ["game"] (vX C):=by
 refine F.ok qv (fun vs H Q E h=>?_) (fun cdv A outer s H vs Q E hr h=>?_)
 . obtain⟨g,ns,ts,p,rfl,_⟩:=h;rfl
 obtain ⟨g,ns,ts,p,rfl,⟨a,b,d,tv,⟨dx,hg⟩,ha,hb,TS,hd⟩,k,q⟩:=h;refine⟨_,(ag (aD (aO (oM rfl) rfl B.sum PyProof.Rows.boot_sum (aa (dM (N:=[]) (ix:=[]) (cl:=[]) rfl (CompScope.closed (by with_unfolding_all rfl) (by decide) rfl (by decide) rfl (by with_unfolding_all rfl)) rfl
  (iQ (au (pv 0) rfl)) (fun _ _ _=>eE (aJ gI hr (by decide) rfl (aa (pv 0) ae)))) ae)))),?_⟩
 have vl:=TS.length;refine⟨_,rfl,g,C,dx,_,_,rfl,hg,T.cl,T.nT,kG ..,b,rfl,⟨_,zE0 hb⟩,fun D hD=>?_⟩;refine hZ (K:=K) (xs:=tv) (fun i H'=>H' D=some (.lst (((ts.take i).map fun t=>(t.size:Int)).map V.int))/\Same H H') ⟨by rw[am];rfl,zD0 hD _⟩ (fun i H' _ h=>zE0 (h.2 _ _ hb)) ?_ ?_
 . rintro i x H2 hx ⟨hl,S2⟩;obtain⟨u,hu,Tu⟩:=TS.get hx;obtain⟨_,uw,ud,us⟩:=k.tok u (qJ0 hu);have hi:i<tv.length:=(zX0 hx).1
   have:=k.t10
   refine⟨_,rfl,x,u,rfl,Tu.mono (bp S2),uw,ud,us,fun H3 S3=>?_⟩;refine⟨_,S3 _ _ hl,?_,Nx.of hi ⟨?_,fun b o e=>?_⟩⟩
   . rw[zG0,zG0,qN0];exact bi (by omega)
   . rw[am,qQ0,hu,zM0,zM0];rfl
   . rw[aq (aN e hD)];exact S3 _ _ (S2 _ _ e)
 . rintro H2 ⟨hl,S2⟩;rw[vl,qR0]at hl;have sr:=BQ (fun t ht=>(k.tok t ht).2.2.2) k.t10;refine⟨D,_,rfl,zI0 hl,?_,?_,?_⟩
   . intro n hn;obtain⟨u,hu,rfl⟩:=List.mem_map.mp hn
     have:=(k.tok u hu).2.2.2
     omega
   . have e:((ts.map fun t=>(t.size:Int)).sum)=szs ts:=rfl;rw[e];omega
   . exact q H2 S2
section
variable {C CG:Addr}
def vM(C CG:Addr):Sp:=fun vs H Q _=>∃(D g:Addr)(z:Db)(ns:List Str)(ts:List Tr)(p:Int),vs=[.ref D]/\DbAt C H D g z/\Gm CG H g ns ts p/\GmK ns ts p/\z.to.length=ns.length/\cg z.to p/\∀H',SameBut D H H'->DbAt C H' D g (dh ns ts p z)->Q .non H'
theorem xx:FnScope ["self"] ["self"] (af gX):=⟨rfl,rfl,rfl,by decide +kernel,rfl,by decide +kernel,by decide +kernel⟩
theorem xP {f fW:Addr} {fd fdW:FuncData} (F:Fun K "look_at_trees" "Doubter.look_at_trees" gX f fd) (B:Bl mg) (T:DTxt K mg C) (TG:GTxt K mg CG) (mW:Meth K CG "worth_at" fW) (GW:FnOk P w K mg base CX0 13 fW fdW ["self","point","s"] (zc CG)) (bW:Binds K fdW ["self","point","s"] [])
 (i9:Cal P w K mg base 13 "all_sizes" ["game"] (vX CG)):FnOk P w K mg base CX0 14 f fd ["self"] (vM C CG):=by
 refine F.ok xx (fun vs H Q E h=>?_) (fun cdv A outer s H vs Q E hr h=>?_)
 . obtain⟨D,g,z,ns,ts,p,rfl,_⟩:=h;rfl
 obtain ⟨D,g,z,ns,ts,p,rfl,⟨dx,aA,aC,aH,aT,R⟩,G,k,tl,po,q⟩:=h;have hr13:Room 13 _:=hr;refine⟨_,(ad (aX (pv 0) (ao bn (au (pv 0) rfl) (aJ i9 hr (by decide) rfl (aa (au (pv 0) rfl) ae))) rfl)
  (ag (aR (ax bb (au (pv 0) rfl) (cZ (au (pv 0) rfl) TG.cl mW GW hr13 bW .nil bY (aa (au (pv 0) rfl) (aa (au (pv 0) rfl) ae))) (aF _))
   (ag (aX (pv 0) (bE (aa aV ae)) rfl))
   (ag (aX (pv 0) (bE (aa aV (aa (ao bn (aO aM rfl B.len PySem.boot_len (aa (au (pv 0) rfl) ae)) ai) ae))) rfl))))),?_⟩
 have gD:=G.ne R.hD hX;refine⟨_,rfl,D,C,dx,_,_,rfl,R.hD,T.cl,T.nP,wI,_,rfl,D,C,dx,_,_,rfl,R.hD,T.cl,T.nG,hX,g,ns,ts,p,rfl,G,k,fun H1 S1=>?_⟩;have R1:=R.same S1;refine⟨_,_,rfl,rfl,_,rfl,D,C,dx,_,rfl,R1.hD,T.cl,T.nP,cw,?_⟩;rw[qE];have S2:SameBut D H1 (upd H1 D (.ins C dx (dl g aA aC z.s aH aT z.ed (z.pl+szs ts)))):=SameBut.upd _;have R2:DbR C (upd H1 D (.ins C dx (dl g aA aC z.s aH aT z.ed (z.pl+szs ts)))) D g { z with pl:=z.pl+szs ts } dx aA aC aH aT:=DbR.set (z:={ z with pl:=z.pl+szs ts }) R1.hD R1.hA R1.hC R1.hH R1.hT;have G2:=(G.same S1).but R1.hD gD S2;generalize upd H1 D (.ins C dx (dl g aA aC z.s aH aT z.ed (z.pl+szs ts)))=H2 at S2 R2 G2;have G2':=G2;obtain⟨a,b,d,tv,GA,ha,hb,TS,hd⟩:=G2';obtain⟨dg,hg⟩:=GA;have p2:=k.p2;have p9:=k.p9;refine⟨_,rfl,D,C,dx,_,_,rfl,R2.hD,T.cl,T.nE,wK,_,rfl,D,C,dx,_,_,rfl,R2.hD,T.cl,T.nG,hX,g,dg,_,rfl,hg,oA _ _ _ _ (by decide +kernel) (by decide +kernel) (by decide +kernel) (by decide +kernel),_,rfl,D,C,dx,_,_,rfl,R2.hD,T.cl,T.nT,vq,_,rfl,D,C,dx,_,_,rfl,R2.hD,T.cl,T.nS,EL,?_⟩;refine⟨g,a,b,d,aT,ns,tv,ts,z.to,z.s,p,rfl,⟨dg,hg⟩,by omega,by omega,ha,hb,TS,k.t10,fun t ht=>⟨(k.tok t ht).1,(k.tok t ht).2.2.1⟩,R2.hT,tl,po,fun H3 S3=>?_⟩;have R3:=R2.same S3;have S03:SameBut D H H3:=(zL0 S1).trans (S2.trans (zL0 S3));refine⟨rfl,_,rfl,?_⟩
 by_cases c:z.ed=hor z.s p (ts.map fun t=>t.worth ns z.to p)
 . refine bz (congrArg V.int c) ?_;refine⟨(by show 1<=sizeLine;decide),fun t ht=>?_⟩;have I:=zD0 ht (.tup [.str "believed"]);have R4:=R3.same I;refine⟨_,rfl,D,C,dx,_,rfl,R4.hD,T.cl,T.nA,cw,?_⟩;rw[nI];have e:dh ns ts p z={ z with pl:=z.pl+szs ts,aw:=("believed",none) }:=by
    unfold dh;rw[zB0 c]
   refine q _ (S03.trans ((zL0 I).trans (SameBut.upd _))) ?_;rw[e];exact⟨dx,t,aC,aH,aT,DbR.set (z:={ z with pl:=z.pl+szs ts,aw:=("believed",none) }) R4.hD am R4.hC R4.hH R4.hT⟩
 . refine aI (fun e=>c (V.int.inj e)) ?_;refine⟨_,rfl,D,C,dx,_,_,rfl,R3.hD,T.cl,T.nT,vq,aT,_,rfl,.inr (zE0 R3.hT),_,_,rfl,rfl,(by show 2<=sizeLine;decide),fun t ht=>?_⟩;have I:=zD0 ht (.tup [.str "caught",.int (((z.to.map V.int).length:Int)+1)]);have R4:=R3.same I;refine⟨_,rfl,D,C,dx,_,rfl,R4.hD,T.cl,T.nA,cw,?_⟩;rw[nI];have e:dh ns ts p z={ z with pl:=z.pl+szs ts,aw:=("caught",some ((z.to.length:Int)+1)) }:=by
    unfold dh;rw[zA0 c]
   refine q _ (S03.trans ((zL0 I).trans (SameBut.upd _))) ?_;rw[e];refine⟨dx,t,aC,aH,aT,DbR.set (z:={ z with pl:=z.pl+szs ts,aw:=("caught",some ((z.to.length:Int)+1)) }) R4.hD ?_ R4.hC R4.hH R4.hT⟩;rw[am,zG0];rfl
theorem qX{xs:List Int}{j:Nat}(h:j<xs.length):atI (xs.map V.int) (j:Int)=some (.int (xs.getD j 0)):=cM (by rw[qA0,zP0 h,qI0,zP0 h];rfl)
theorem CO {ns:List Str} {ts:List Tr} {j:Nat} (h:j<ns.length):(ns.map (bd ts)).getD j 0=bd ts (ns.getD j ""):=by
 rw[qI0,qA0,qI0,zP0 h];rfl
def DV(C CG:Addr):Sp:=fun vs H Q _=>∃(D g:Addr)(z:Db)(ns:List Str)(ts:List Tr)(p:Int),vs=[.ref D]/\DbAt C H D g z/\Gm CG H g ns ts p/\GmK ns ts p/\z.to.length<=ns.length/\cg z.to p/\∀H',SameBut D H H'->DbAt C H' D g (goOn ns ts p z)->Q .non H'
theorem Fy:FnScope ["self","done"] ["self"] (af pH):=⟨rfl,rfl,rfl,by decide +kernel,rfl,by decide +kernel,by decide +kernel⟩
theorem Em {f fT:Addr} {fd fdT:FuncData} (F:Fun K "go_on" "Doubter.go_on" pH f fd) (B:Bl mg) (T:DTxt K mg C) (TG:GTxt K mg CG) (mT:Meth K C "look_at_trees" fT) (GT:FnOk P w K mg base CX0 14 fT fdT ["self"] (vM C CG)) (bT:Binds K fdT ["self"] []):FnOk P w K mg base CX0 15 f fd ["self"] (DV C CG):=by
 refine F.ok Fy (fun vs H Q E h=>?_) (fun cdv A outer s H vs Q E hr h=>?_)
 . obtain⟨D,g,z,ns,ts,p,rfl,_⟩:=h;rfl
 obtain ⟨D,g,z,ns,ts,p,rfl,⟨dx,aA,aC,aH,aT,R⟩,G,k,tl,po,q⟩:=h;refine⟨_,(ad (ay (i:=1) Fy.nd rfl (Or.inl rfl) (aO aM rfl B.len PySem.boot_len (aa (au (pv 0) rfl) ae)))
  (ag (aR (ax iS (pv 1) (aO aM rfl B.len PySem.boot_len (aa (au (au (pv 0) rfl) rfl) ae)) (aF _))
   (ag (aX (pv 0) (bE (aa aV (aa (ao bn (aY ix_list (au (au (pv 0) rfl) rfl) (pv 1) (fun _ _=>rfl)) ai) ae))) rfl))
   (ag (bX (cY (pv 0) T.cl mT GT hr bT .nil bY)))))),?_⟩
 have G':=G;obtain⟨a,b,d,tv,⟨dg,hg⟩,ha,hb,TS,hd⟩:=G';refine⟨_,rfl,D,C,dx,_,_,rfl,R.hD,T.cl,T.nT,vq,aT,_,rfl,.inr (zE0 R.hT),?_⟩;refine⟨_,rfl,_,rfl,D,C,dx,_,_,rfl,R.hD,T.cl,T.nG,hX,g,CG,dg,_,_,rfl,hg,TG.cl,TG.nS,lZ ..,a,_,rfl,.inr (zE0 ha),_,_,rfl,rfl,_,rfl,?_⟩
 by_cases c:z.to.length<ns.length
 . refine bz (by rw[zG0,zG0];omega) ?_;have ej:((z.to.map V.int).length:Int)=(z.to.length:Int):=by rw[zG0]
   have hx:ns.getD z.to.length ""∈ns:=by
    rw[qI0,zP0 c];exact qM0 c
   have dr:=k.deg _ hx;refine⟨_,rfl,D,C,dx,_,_,rfl,R.hD,T.cl,T.nG,hX,g,CG,dg,_,_,rfl,hg,TG.cl,TG.nD,Bc ..,_,rfl,d,_,_,_,rfl,rfl,zI0 hd,by rw[ej];exact qX (by rw[zG0];exact c),_,_,rfl,rfl,(by show 2<=sizeLine;decide),fun t ht=>?_⟩;rw[CO c]at *
   have I:=zD0 ht (.tup [.str "hear",.int (bd ts (ns.getD z.to.length "")+1)]);have R4:=R.same I;refine⟨_,rfl,D,C,dx,_,rfl,R4.hD,T.cl,T.nA,cw,?_⟩;rw[nI];have e:goOn ns ts p z={ z with aw:=("hear",some (bd ts (ns.getD z.to.length "")+1)) }:=by
    unfold goOn;rw[zB0 c]
   refine q _ ((zL0 I).trans (SameBut.upd _)) ?_;rw[e];exact⟨dx,t,aC,aH,aT,DbR.set (z:={ z with aw:=("hear",some (bd ts (ns.getD z.to.length "")+1)) }) R4.hD am R4.hC R4.hH R4.hT⟩
 . refine aI (by rw[zG0,zG0];omega) ?_;have e:goOn ns ts p z=dh ns ts p z:=by
    unfold goOn;rw[zA0 c]
   rw[e]at q;refine⟨_,rfl,D,dx,_,rfl,R.hD,EN,?_⟩;exact⟨D,g,z,ns,ts,p,rfl,⟨dx,aA,aC,aH,aT,R⟩,G,k,by omega,po,q⟩
def zr(C CG:Addr):Sp:=fun vs H Q _=>∃(D g:Addr)(z:Db)(s:Int)(ns:List Str)(ts:List Tr)(p:Int),vs=[.ref D,.int s]/\DbAt C H D g z/\Gm CG H g ns ts p/\GmK ns ts p/\z.to.length<=ns.length/\cg z.to p/\∀H',SameBut D H H'->DbAt C H' D g (pk ns ts p s z)->Q .non H'
theorem xy:FnScope ["self","s"] ["self","s"] (af gY):=⟨rfl,rfl,rfl,by decide +kernel,rfl,by decide +kernel,by decide +kernel⟩
theorem xQ {f fG fM:Addr} {fd fdG fdM:FuncData} (F:Fun K "begin_rounds" "Doubter.begin_rounds" gY f fd) (T:DTxt K mg C) (TG:GTxt K mg CG) (mM:Meth K CG "mix" fM) (GM:FnOk P w K mg base CX0 1 fM fdM ["self","numbers","s"] (zi CG)) (bM:Binds K fdM ["self","numbers","s"] [])
 (mG:Meth K C "go_on" fG) (GG:FnOk P w K mg base CX0 15 fG fdG ["self"] (DV C CG)) (bG:Binds K fdG ["self"] []):FnOk P w K mg base CX0 16 f fd ["self","s"] (zr C CG):=by
 refine F.ok xy (fun vs H Q E h=>?_) (fun cdv A outer s H vs Q E hr h=>?_)
 . obtain⟨D,g,z,s,ns,ts,p,rfl,_⟩:=h;rfl
 obtain ⟨D,g,z,s,ns,ts,p,rfl,⟨dx,aA,aC,aH,aT,R⟩,G,k,tl,po,q⟩:=h;have hr1:Room 1 _:=hr.mono (by decide);refine⟨_,(ad (aX (pv 0) (pv 1) rfl)
  (ad (aX (pv 0) (cZ (au (pv 0) rfl) TG.cl mM GM hr1 bM .nil bY (aa (au (pv 0) rfl) (aa (pv 1) ae))) rfl)
  (ag (bX (cY (pv 0) T.cl mG GG hr bG .nil bY))))),?_⟩
 have gD:=G.ne R.hD hX;have p2:=k.p2;have p9:=k.p9;refine⟨_,rfl,_,rfl,D,C,dx,_,rfl,R.hD,T.cl,T.nS,cw,?_⟩;rw[Dp];have S1:SameBut D H (upd H D (.ins C dx (dl g aA aC s aH aT z.ed z.pl))):=SameBut.upd _;have R1:DbR C (upd H D (.ins C dx (dl g aA aC s aH aT z.ed z.pl))) D g { z with s:=s } dx aA aC aH aT:=DbR.set (z:={ z with s:=s }) R.hD R.hA R.hC R.hH R.hT;have G1:=G.but R.hD gD S1;generalize upd H D (.ins C dx (dl g aA aC s aH aT z.ed z.pl))=H1 at S1 R1 G1;have G1':=G1;obtain⟨a,b,d,tv,⟨dg,hg⟩,ha,hb,TS,hd⟩:=G1';refine⟨_,rfl,D,C,dx,_,_,rfl,R1.hD,T.cl,T.nG,hX,g,dg,_,rfl,hg,oA _ _ _ _ (by decide +kernel) (by decide +kernel) (by decide +kernel) (by decide +kernel),_,rfl,D,C,dx,_,_,rfl,R1.hD,T.cl,T.nC,EQ,_,rfl,?_⟩;refine⟨g,a,b,d,aC,z.cl,s,p,rfl,⟨dg,hg⟩,by omega,by omega,.inr R1.hC,?_⟩;refine⟨_,rfl,D,C,dx,_,rfl,R1.hD,T.cl,T.nE,cw,?_⟩;rw[ux];have S2:SameBut D H1 (upd H1 D (.ins C dx (dl g aA aC s aH aT (hor s p z.cl) z.pl))):=SameBut.upd _;have R2:DbR C (upd H1 D (.ins C dx (dl g aA aC s aH aT (hor s p z.cl) z.pl))) D g { z with s:=s,ed:=hor s p z.cl } dx aA aC aH aT:=DbR.set (z:={ z with s:=s,ed:=hor s p z.cl }) R1.hD R1.hA R1.hC R1.hH R1.hT;have G2:=G1.but R1.hD gD S2;generalize upd H1 D (.ins C dx (dl g aA aC s aH aT (hor s p z.cl) z.pl))=H2 at S2 R2 G2;refine⟨_,rfl,D,dx,_,rfl,R2.hD,Bo,?_⟩;exact⟨D,g,_,ns,ts,p,rfl,⟨dx,aA,aC,aH,aT,R2⟩,G2,k,tl,po,fun H3 S3 D3=>q H3 (S1.trans (S2.trans S3)) D3⟩
def rS(C CG:Addr):Sp:=fun vs H Q _=>∃(D g l:Addr)(z:Db)(xs:List Int)(ns:List Str)(ts:List Tr)(p:Int),vs=[.ref D,.ref l]/\DbAt C H D g z/\Gm CG H g ns ts p/\GmK ns ts p/\H l=some (.tup (xs.map V.int))/\z.to.length<=ns.length/\cg z.to p/\∀H',SameBut D H H'->DbAt C H' D g (iy ns ts p xs z)->Q .non H'
theorem ut:FnScope ["self","values"] ["self","values"] (af gh):=⟨rfl,rfl,rfl,by decide +kernel,rfl,by decide +kernel,by decide +kernel⟩
theorem uJ {f fB:Addr} {fd fdB:FuncData} (F:Fun K "hear_claims" "Doubter.hear_claims" gh f fd) (B:Bl mg) (T:DTxt K mg C) (TG:GTxt K mg CG) (mB:Meth K C "begin_rounds" fB) (GB:FnOk P w K mg base CX0 16 fB fdB ["self","s"] (zr C CG)) (bB:Binds K fdB ["self","s"] []):FnOk P w K mg base CX0 17 f fd ["self","values"] (rS C CG):=by
 refine F.ok ut (fun vs H Q E h=>?_) (fun cdv A outer s H vs Q E hr h=>?_)
 . obtain⟨D,g,l,z,xs,ns,ts,p,rfl,_⟩:=h;rfl
 obtain ⟨D,g,l,z,xs,ns,ts,p,rfl,⟨dx,aA,aC,aH,aT,R⟩,G,k,hl,tl,po,q⟩:=h;refine⟨_,(ad (aX (pv 0) (pv 1) rfl)
  (ag (aR (ax bb (aO aM rfl B.len PySem.boot_len (aa (au (au (pv 0) rfl) rfl) ae)) ai (aF _))
   (ag (bX (cZ (pv 0) T.cl mB GB hr bB .nil bY (aa ai ae))))
   (ag (aX (pv 0) (bE (aa aV ae)) rfl))))),?_⟩
 have gD:=G.ne R.hD hX;refine⟨_,rfl,_,rfl,D,C,dx,_,rfl,R.hD,T.cl,T.nC,cw,?_⟩;rw[Dr];have S1:SameBut D H (upd H D (.ins C dx (dl g aA l z.s aH aT z.ed z.pl))):=SameBut.upd _;have R1:DbR C (upd H D (.ins C dx (dl g aA l z.s aH aT z.ed z.pl))) D g { z with cl:=xs } dx aA l aH aT:=DbR.set (z:={ z with cl:=xs }) R.hD R.hA hl R.hH R.hT;have G1:=G.but R.hD gD S1;generalize upd H D (.ins C dx (dl g aA l z.s aH aT z.ed z.pl))=H1 at S1 R1 G1;have G1':=G1;obtain⟨a,b,d,tv,⟨dg,hg⟩,ha,hb,TS,hd⟩:=G1';have vl:=TS.length;refine⟨_,rfl,D,C,dx,_,_,rfl,R1.hD,T.cl,T.nG,hX,g,CG,dg,_,_,rfl,hg,TG.cl,TG.nT,kG ..,b,_,rfl,.inr (zE0 hb),rfl,_,rfl,?_⟩
 by_cases c:ts.length=1
 . refine bz (congrArg V.int (by omega)) ?_;have e:iy ns ts p xs z=pk ns ts p 0 { z with cl:=xs }:=by
    unfold iy;rw[zB0 c]
   rw[e]at q;refine⟨_,rfl,D,dx,_,rfl,R1.hD,Dw,?_⟩;exact⟨D,g,_,0,ns,ts,p,rfl,⟨dx,aA,l,aH,aT,R1⟩,G1,k,tl,po,fun H3 S3 D3=>q H3 (S1.trans S3) D3⟩
 . refine aI (fun e=>c (by have:=V.int.inj e;omega)) ?_;have e:iy ns ts p xs z={ z with cl:=xs,aw:=("coin",none) }:=by
    unfold iy;rw[zA0 c]
   refine⟨(by show 1<=sizeLine;decide),fun t ht=>?_⟩;have I:=zD0 ht (.tup [.str "coin"]);have R4:=R1.same I;refine⟨_,rfl,D,C,dx,_,rfl,R4.hD,T.cl,T.nA,cw,?_⟩;rw[nI];refine q _ (S1.trans ((zL0 I).trans (SameBut.upd _))) ?_;rw[e];exact⟨dx,t,l,aH,aT,DbR.set (z:={ z with cl:=xs,aw:=("coin",none) }) R4.hD am R4.hC R4.hH R4.hT⟩
def zm(C CG:Addr):Sp:=fun vs H Q _=>∃(D g l:Addr)(z:Db)(xs:List Int)(ns:List Str)(ts:List Tr)(p:Int),vs=[.ref D,.ref l]/\DbAt C H D g z/\Gm CG H g ns ts p/\GmK ns ts p/\H l=some (.tup (xs.map V.int))/\jP xs p/\∀H',SameBut D H H'->DbAt C H' D g (de p xs z)->Q .non H'
theorem BW:FnScope ["self","values"] ["self","values"] (af li):=⟨rfl,rfl,rfl,by decide +kernel,rfl,by decide +kernel,by decide +kernel⟩
theorem Cv {f:Addr} {fd:FuncData} (F:Fun K "hear_row" "Doubter.hear_row" li f fd) (B:Bl mg) (T:DTxt K mg C) (TG:GTxt K mg CG) (jM:Cal P w K mg base 5 "both_ends" ["values","p"] zq):FnOk P w K mg base CX0 6 f fd ["self","values"] (zm C CG):=by
 refine F.ok BW (fun vs H Q E h=>?_) (fun cdv A outer s H vs Q E hr h=>?_)
 . obtain⟨D,g,l,z,xs,ns,ts,p,rfl,_⟩:=h;rfl
 obtain ⟨D,g,l,z,xs,ns,ts,p,rfl,⟨dx,aA,aC,aH,aT,R⟩,G,k,hl,ro,q⟩:=h;refine⟨_,(ad (aX (pv 0) (pv 1) rfl)
  (ag (aR (ax bb (aJ jM hr (by decide) rfl (aa (pv 1) (aa (au (au (pv 0) rfl) rfl) ae))) (au (pv 0) rfl) (aF _))
   (ag (aX (pv 0) (bE (aa aV ae)) rfl))
   (ag (aX (pv 0) (bE (aa aV (aa (ao bn (aO aM rfl B.len PySem.boot_len (aa (au (pv 0) rfl) ae)) ai) ae))) rfl))))),?_⟩
 have gD:=G.ne R.hD hX;refine⟨_,rfl,_,rfl,D,C,dx,_,rfl,R.hD,T.cl,T.nH,cw,?_⟩;rw[Dq];have S1:SameBut D H (upd H D (.ins C dx (dl g aA aC z.s l aT z.ed z.pl))):=SameBut.upd _;have R1:DbR C (upd H D (.ins C dx (dl g aA aC z.s l aT z.ed z.pl))) D g { z with he:=xs } dx aA aC l aT:=DbR.set (z:={ z with he:=xs }) R.hD R.hA R.hC hl R.hT;have G1:=G.but R.hD gD S1;generalize upd H D (.ins C dx (dl g aA aC z.s l aT z.ed z.pl))=H1 at S1 R1 G1;have G1':=G1;obtain⟨a,b,d,tv,⟨dg,hg⟩,ha,hb,TS,hd⟩:=G1';refine⟨_,rfl,_,rfl,D,C,dx,_,_,rfl,R1.hD,T.cl,T.nG,hX,g,CG,dg,_,_,rfl,hg,TG.cl,TG.nF,gu ..,l,xs,p,rfl,.inr R1.hH,ro,k.pr,k.p9,fun H2 S2=>?_⟩;have R2:=R1.same S2;refine⟨_,rfl,D,C,dx,_,_,rfl,R2.hD,T.cl,T.nE,wK,rfl,_,rfl,?_⟩;have S02:SameBut D H H2:=S1.trans (zL0 S2)
 by_cases c:(val p xs 0+val p xs 1) % p=z.ed
 . refine bz (congrArg V.int c) ?_;have e:de p xs z={ z with he:=xs,aw:=("coin",none) }:=by
    unfold de;rw[zB0 c]
   refine⟨(by show 1<=sizeLine;decide),fun t ht=>?_⟩;have I:=zD0 ht (.tup [.str "coin"]);have R4:=R2.same I;refine⟨_,rfl,D,C,dx,_,rfl,R4.hD,T.cl,T.nA,cw,?_⟩;rw[nI];refine q _ (S02.trans ((zL0 I).trans (SameBut.upd _))) ?_;rw[e];exact⟨dx,t,aC,l,aT,DbR.set (z:={ z with he:=xs,aw:=("coin",none) }) R4.hD am R4.hC R4.hH R4.hT⟩
 . refine aI (fun e=>c (V.int.inj e)) ?_;have e:de p xs z={ z with he:=xs,aw:=("caught",some ((z.to.length:Int)+1)) }:=by
    unfold de;rw[zA0 c]
   refine⟨_,rfl,D,C,dx,_,_,rfl,R2.hD,T.cl,T.nT,vq,aT,_,rfl,.inr (zE0 R2.hT),_,_,rfl,rfl,(by show 2<=sizeLine;decide),fun t ht=>?_⟩;have I:=zD0 ht (.tup [.str "caught",.int (((z.to.map V.int).length:Int)+1)]);have R4:=R2.same I;refine⟨_,rfl,D,C,dx,_,rfl,R4.hD,T.cl,T.nA,cw,?_⟩;rw[nI];refine q _ (S02.trans ((zL0 I).trans (SameBut.upd _))) ?_;rw[e];refine⟨dx,t,aC,l,aT,DbR.set (z:={ z with he:=xs,aw:=("caught",some ((z.to.length:Int)+1)) }) R4.hD ?_ R4.hC R4.hH R4.hT⟩;rw[am,zG0];rfl
end
section
variable {C CG:Addr}
theorem jx{K:W.Frag}{H:Hp}{a:Addr}{xs:List Int}(h:H a=some (.tup (xs.map V.int))):Rep K H (.ref a) (.tuple (xs.map PyData.int)):=.tup (zE0 h) (nv xs)
theorem wH(xs:List Int):PyData.eqv (.tuple (xs.map PyData.int)) (.tuple [])=decide (xs=[]):=by
 cases xs with
 | nil=>rfl
 | cons a r=>rfl
theorem jf(ns:List Int):SeqAt.shaped (.tuple (ns.map PyData.int))=true:=by
 simp [SeqAt.shaped,PyData.canLay0,PyData.depth,W.ke_canLayAll0,W.ke_depthAll]
def zk (C CG:Addr):Sp:=fun vs H Q _=>∃(D g l:Addr) (z:Db) (xs:List Int) (ns:List Str) (ts:List Tr) (p:Int),vs=[.ref D,.ref l]/\DbAt C H D g z/\Gm CG H g ns ts p/\GmK ns ts p/\H l=some (.lst (xs.map V.int))/\z.aw=(("hear":Str),some (xs.length:Int))/\cg xs p/\xs.length<=500/\(z.cl≠[]->jP xs p)/\z.to.length<=ns.length/\cg z.to p/\∀H',SameBut D H H'->DbAt C H' D g (cD ns ts p xs z)->Q .non H'
theorem zG:FnScope ["self","values"] ["self","values"] (af jt):=⟨rfl,rfl,rfl,by decide +kernel,rfl,by decide +kernel,by decide +kernel⟩
theorem At {f fC fR:Addr} {fd fdC fdR:FuncData} (F:Fun K "hear" "Doubter.hear" jt f fd) (B:Bl mg) (T:DTxt K mg C) (TG:GTxt K mg CG) (eO:Cal P w K mg base 1 "is_number" ["value","p"] qg)
 (mC:Meth K C "hear_claims" fC) (GC:FnOk P w K mg base CX0 17 fC fdC ["self","values"] (rS C CG)) (bC:Binds K fdC ["self","values"] [])
 (mR:Meth K C "hear_row" fR) (GR:FnOk P w K mg base CX0 6 fR fdR ["self","values"] (zm C CG)) (bR:Binds K fdR ["self","values"] []):FnOk P w K mg base CX0 18 f fd ["self","values"] (zk C CG):=by
 refine F.ok zG (fun vs H Q E h=>?_) (fun cdv A outer s H vs Q E hr h=>?_)
 . obtain⟨D,g,l,z,xs,ns,ts,p,rfl,_⟩:=h;rfl
 obtain ⟨D,g,l,z,xs,ns,ts,p,rfl,⟨dx,aA,aC,aH,aT,R⟩,G,k,hl,ea,xo,xl,ro,tl,po,q⟩:=h;have hr6:Room 6 _:=hr.mono (by decide);refine⟨_,(ad (aR (ax nZ (aY bc (au (pv 0) rfl) ai (fun _ _=>rfl)) aV (aF _)) dH aG)
  (ad (aR (ax nZ (aO aM rfl B.len PySem.boot_len (aa (pv 1) ae)) (aY bc (au (pv 0) rfl) ai (fun _ _=>rfl)) (aF _)) dH aG)
  (ad (aR (jT (io (aO (Bx rfl) rfl B.all PyProof.Rows.boot_all (aa (dM (N:=["self"]) (ix:=[0]) rfl
   (CompScope.one (by with_unfolding_all rfl) (by decide) rfl (by decide) rfl (by decide +kernel) (by with_unfolding_all rfl) (by with_unfolding_all rfl) (by with_unfolding_all rfl) rfl rfl) rfl
   (jy (pv 1)) (fun _ _ _=>eE (aJ eO hr (by decide) rfl (aa (pv 0) (aa (jz K (jz K (pv 1))) ae))))) ae)))) dH aG)
  (ad (aX (pv 0) (ao bn (au (pv 0) rfl) (aO aM rfl B.len PySem.boot_len (aa (pv 1) ae))) rfl)
  (ag (aR (ax (jU hr.units) (au (pv 0) rfl) (bE ae) (aF _))
   (ag (bX (cZ (pv 0) T.cl mC GC hr bC .nil bY (aa (cI cf rfl B.tuple cL (aa (pv 1) ae)) ae))))
   (ag (bX (cZ (pv 0) T.cl mR GR hr6 bR .nil bY (aa (cI cf rfl B.tuple cL (aa (pv 1) ae)) ae)))))))))),?_⟩
 have gD:=G.ne R.hD hX;have hA:=R.hA;rw[ea]at hA;have hA:H aA=some (.tup [.str "hear",.int (xs.length:Int)]):=hA;refine⟨_,rfl,D,C,dx,_,_,rfl,R.hD,T.cl,T.nA,Bp,aA,_,_,_,rfl,rfl,zE0 hA,cM (j:=0) rfl,rfl,_,rfl,?_⟩;refine sU rfl ?_;refine⟨_,rfl,l,_,rfl,.inl (zI0 hl),_,rfl,D,C,dx,_,_,rfl,R.hD,T.cl,T.nA,Bp,aA,_,_,_,rfl,rfl,zE0 hA,cM (j:=1) rfl,rfl,_,rfl,?_⟩;refine sU (by rw[zG0]) ?_;have G':=G;obtain⟨a,b,d,tv,⟨dg,hg⟩,ha,hb,TS,hd⟩:=G';refine⟨_,rfl,l,rfl,⟨_,zI0 hl⟩,fun W hW=>?_⟩;refine lF (K:=K) (xs:=xs.map V.int) (fun i H'=>H' W=some (.lst ((List.replicate i true).map V.bl))/\Same H H') ⟨by rw[am];rfl,zD0 hW _⟩ (fun i H' _ h=>zI0 (h.2 _ _ hl)) ?_ ?_
 . rintro i v H2 hv ⟨hW2,S2⟩;have hi:=(zX0 hv).1;rw[qA0]at hv;obtain⟨n,hn,rfl⟩:=Option.map_eq_some_iff.mp hv;have nr:=xo n (qJ0 hn);refine⟨_,rfl,_,rfl,D,C,dx,_,_,rfl,S2 _ _ R.hD,T.cl,T.nG,hX,g,CG,dg,_,_,rfl,S2 _ _ hg,TG.cl,TG.nF,gu ..,n,p,rfl,?_⟩;rw[decide_eq_true nr.1,decide_eq_true nr.2];refine⟨_,hW2,?_,Nx.of hi ⟨?_,fun b o e=>?_⟩⟩
   . rw[zG0,List.length_replicate];rw[zG0]at hi;exact bi (by omega)
   . rw[am,List.replicate_succ',zM0];rfl
   . rw[aq (aN e hW)];exact S2 _ _ e
 rintro H1 ⟨hW1,S1⟩;refine⟨W,_,rfl,zI0 hW1,?_⟩;have ea:(List.replicate (xs.map V.int).length true).all id=true:=by simp
 rw [ea];refine⟨_,rfl,?_⟩;refine gx ?_;have R1:=R.same S1;have G1:=G.same S1;refine⟨_,rfl,D,C,dx,_,_,rfl,R1.hD,T.cl,T.nP,wI,_,rfl,l,_,rfl,.inl (zI0 (S1 _ _ hl)),_,_,rfl,rfl,_,rfl,D,C,dx,_,rfl,R1.hD,T.cl,T.nP,cw,?_⟩;rw[qE,zG0];have S2:SameBut D H1 (upd H1 D (.ins C dx (dl g aA aC z.s aH aT z.ed (z.pl+(xs.length:Int))))):=SameBut.upd _;have R2:DbR C (upd H1 D (.ins C dx (dl g aA aC z.s aH aT z.ed (z.pl+(xs.length:Int))))) D g { z with pl:=z.pl+(xs.length:Int) } dx aA aC aH aT:=DbR.set (z:={ z with pl:=z.pl+(xs.length:Int) }) R1.hD R1.hA R1.hC R1.hH R1.hT;have G2:=G1.but R1.hD gD S2;have hl2:upd H1 D (.ins C dx (dl g aA aC z.s aH aT z.ed (z.pl+(xs.length:Int)))) l=some (.lst (xs.map V.int)):=by
  rw[aq (bq hl R.hD (by intro z;cases z))];exact S1 _ _ hl
 generalize upd H1 D (.ins C dx (dl g aA aC z.s aH aT z.ed (z.pl+(xs.length:Int))))=H2 at S2 R2 G2 hl2;refine⟨_,rfl,D,C,dx,_,_,rfl,R2.hD,T.cl,T.nC,EQ,(by show 0<=sizeLine;decide),fun u hu=>?_⟩;have I:=zD0 hu (.tup []);have R3:=R2.same I;have hu3:upd H2 u (.tup []) u=some (.tup []):=am;have hl3:=I _ _ hl2;have G3:=G2.same I;generalize upd H2 u (.tup [])=H3 at I R3 hu3 hl3 G3;have S03:SameBut D H H3:=(zL0 S1).trans (S2.trans (zL0 I));refine⟨_,_,jx R3.hC,jx (xs:=[]) hu3,jf _,jf [],_,rfl,?_⟩;rw[show PyData.eqv (.tuple (z.cl.map PyData.int)) (.tuple (([]:List Int).map PyData.int))=decide (z.cl=[])from wH z.cl]
 by_cases c:z.cl=[]
 . refine bz c ?_;have e:cD ns ts p xs z=iy ns ts p xs { z with pl:=z.pl+(xs.length:Int) }:=by
    unfold cD;rw[zB0 c]
   rw[e]at q;refine⟨_,rfl,D,dx,_,rfl,R3.hD,dl_n6,?_⟩;refine⟨_,rfl,l,_,rfl,.inl ⟨zI0 hl3,fun t ht=>?_⟩⟩;have J:=zD0 ht (.tup (xs.map V.int));exact⟨D,g,t,_,xs,ns,ts,p,rfl,⟨dx,aA,aC,aH,aT,R3.same J⟩,G3.same J,k,am,tl,po,fun H5 S5 D5=>q H5 (S03.trans ((zL0 J).trans S5)) D5⟩
 . refine aI c ?_;have e:cD ns ts p xs z=de p xs { z with pl:=z.pl+(xs.length:Int) }:=by
    unfold cD;rw[zA0 c]
   rw[e]at q;refine⟨_,rfl,D,dx,_,rfl,R3.hD,dl_n8,?_⟩;refine⟨_,rfl,l,_,rfl,.inl ⟨zI0 hl3,fun t ht=>?_⟩⟩;have J:=zD0 ht (.tup (xs.map V.int));exact⟨D,g,t,_,xs,ns,ts,p,rfl,⟨dx,aA,aC,aH,aT,R3.same J⟩,G3.same J,k,am,ro c,fun H5 S5 D5=>q H5 (S03.trans ((zL0 J).trans S5)) D5⟩
def zg (C CG:Addr):Sp:=fun vs H Q _=>∃(D g:Addr) (z:Db) (r:Int) (ns:List Str) (ts:List Tr) (p:Int),vs=[.ref D,.int r]/\DbAt C H D g z/\Gm CG H g ns ts p/\GmK ns ts p/\z.aw.1="coin"/\0<=r/\r<p/\z.to.length<=ns.length/\(z.he≠[]->jP z.he p/\z.to.length<ns.length)/\cg z.to p/\∀H',SameBut D H H'->DbAt C H' D g (dc ns ts p r z)->Q .non H'
theorem zE:FnScope ["self","r"] ["self","r"] (af jq):=⟨rfl,rfl,rfl,by decide +kernel,rfl,by decide +kernel,by decide +kernel⟩
theorem Dy(a:Str×Option Int):(awV a)[0]?=some (.str a.1):=by
 unfold awV
 split <;> rfl
def rCatA(K:W.Frag):R2:=fun x y H Q=>∃a b xs ys,x=.ref a/\y=.ref b/\SqT K H a xs/\SqT K H b ys/\ys≠[]/\xs.length+ys.length<=sizeLine/\(xs=[]->Q (.ref b) H)/\(xs≠[]->∀p,H p=none->Q (.ref p) (upd H p (.tup (xs++ys))))
theorem Cp{X:Cx}:OpR X (binaryOp .Add) (rCatA X.K):=by
 intro pins s σ H x y v u Q I rx ry h;obtain⟨a,b,xs,ys,ex,ey,ha,hb,hy,hz,q1,q2⟩:=h
 by_cases c:xs=[]
 . subst c;exact ky pins s σ H x y v u Q I rx ry ⟨a,b,ys,ex,ey,ha,hb,q1 rfl⟩
 . exact op_catT pins s σ H x y v u Q I rx ry ⟨a,b,xs,ys,ex,ey,ha,hb,c,hz,fun z=>absurd z hy,fun _=>q2 c⟩
theorem Ar {f fB fG:Addr} {fd fdB fdG:FuncData} (F:Fun K "toss" "Doubter.toss" jq f fd) (B:Bl mg) (T:DTxt K mg C) (TG:GTxt K mg CG) (eO:Cal P w K mg base 1 "is_number" ["value","p"] qg) (b9:Cal P w K mg base 4 "value_at" ["values","r","p"] pE)
 (mB:Meth K C "begin_rounds" fB) (GB:FnOk P w K mg base CX0 16 fB fdB ["self","s"] (zr C CG)) (bB:Binds K fdB ["self","s"] [])
 (mG:Meth K C "go_on" fG) (GG:FnOk P w K mg base CX0 15 fG fdG ["self"] (DV C CG)) (bG:Binds K fdG ["self"] []):FnOk P w K mg base CX0 17 f fd ["self","r"] (zg C CG):=by
 refine F.ok zE (fun vs H Q E h=>?_) (fun cdv A outer s H vs Q E hr h=>?_)
 . obtain⟨D,g,z,r,ns,ts,p,rfl,_⟩:=h;rfl
 obtain ⟨D,g,z,r,ns,ts,p,rfl,⟨dx,aA,aC,aH,aT,R⟩,G,k,ea,r0,r1,tl,ro,po,q⟩:=h;have hr15:Room 15 _:=hr.mono (by decide);refine⟨_,(ad (aR (ax nZ (aY bc (au (pv 0) rfl) ai (fun _ _=>rfl)) aV (aF _)) dH aG)
  (ad (aR (jT (io (aJ eO hr (by decide) rfl (aa (pv 1) (aa (au (au (pv 0) rfl) rfl) ae))))) dH aG)
  (ad (aX (pv 0) (ao bn (au (pv 0) rfl) ai) rfl)
  (ag (aR (ax (jU hr.units) (au (pv 0) rfl) (bE ae) (aF _))
   (ag (bX (cZ (pv 0) T.cl mB GB hr bB .nil bY (aa (pv 1) ae))))
   (ad (aX (pv 0) (aJ b9 hr (by decide) rfl (aa (au (pv 0) rfl) (aa (pv 1) (aa (au (au (pv 0) rfl) rfl) ae)))) rfl)
   (ad (aX (pv 0) (ao Cp (au (pv 0) rfl) (bE (aa (pv 1) ae))) rfl)
   (ag (bX (cY (pv 0) T.cl mG GG hr15 bG .nil bY)))))))))),?_⟩
 have gD:=G.ne R.hD hX;have G':=G;obtain⟨a,b,d,tv,⟨dg,hg⟩,ha,hb,TS,hd⟩:=G';refine⟨_,rfl,D,C,dx,_,_,rfl,R.hD,T.cl,T.nA,Bp,aA,_,_,_,rfl,rfl,zE0 R.hA,cM (j:=0) (Dy _),rfl,_,rfl,?_⟩;refine sU (congrArg V.str ea) ?_;refine⟨_,rfl,_,rfl,D,C,dx,_,_,rfl,R.hD,T.cl,T.nG,hX,g,CG,dg,_,_,rfl,hg,TG.cl,TG.nF,gu ..,r,p,rfl,?_⟩;rw[decide_eq_true r0,decide_eq_true r1];refine⟨_,rfl,?_⟩;refine gx ?_;refine⟨_,rfl,D,C,dx,_,_,rfl,R.hD,T.cl,T.nP,wI,_,_,rfl,rfl,_,rfl,D,C,dx,_,rfl,R.hD,T.cl,T.nP,cw,?_⟩;rw[qE];have S2:SameBut D H (upd H D (.ins C dx (dl g aA aC z.s aH aT z.ed (z.pl+1)))):=SameBut.upd _;have R2:DbR C (upd H D (.ins C dx (dl g aA aC z.s aH aT z.ed (z.pl+1)))) D g { z with pl:=z.pl+1 } dx aA aC aH aT:=DbR.set (z:={ z with pl:=z.pl+1 }) R.hD R.hA R.hC R.hH R.hT;have G2:=G.but R.hD gD S2;generalize upd H D (.ins C dx (dl g aA aC z.s aH aT z.ed (z.pl+1)))=H2 at S2 R2 G2;refine⟨_,rfl,D,C,dx,_,_,rfl,R2.hD,T.cl,T.nH,EO,(by show 0<=sizeLine;decide),fun u hu=>?_⟩;have I:=zD0 hu (.tup []);have R3:=R2.same I;have hu3:upd H2 u (.tup []) u=some (.tup []):=am;have G3:=G2.same I;generalize upd H2 u (.tup [])=H3 at I R3 hu3 G3;have S03:SameBut D H H3:=S2.trans (zL0 I);refine⟨_,_,jx R3.hH,jx (xs:=[]) hu3,jf _,jf [],_,rfl,?_⟩;rw[show PyData.eqv (.tuple (z.he.map PyData.int)) (.tuple (([]:List Int).map PyData.int))=decide (z.he=[])from wH z.he]
 by_cases c:z.he=[]
 . refine bz c ?_;have e:dc ns ts p r z=pk ns ts p r { z with pl:=z.pl+1 }:=by
    unfold dc;rw[zB0 c]
   rw[e]at q;refine⟨_,rfl,D,dx,_,rfl,R3.hD,Dw,_,rfl,?_⟩;exact⟨D,g,_,r,ns,ts,p,rfl,⟨dx,aA,aC,aH,aT,R3⟩,G3,k,tl,po,fun H5 S5 D5=>q H5 (S03.trans S5) D5⟩
 . refine aI c ?_;obtain⟨rok,tl'⟩:=ro c;have e:dc ns ts p r z=goOn ns ts p { z with pl:=z.pl+1,ed:=val p z.he r,to:=z.to++[r] }:=by
    unfold dc;rw[zA0 c]
   rw [e]at q;have G3':=G3;obtain⟨a3,b3,d3,tv3,⟨dg3,hg3⟩,_⟩:=G3';refine⟨_,rfl,D,C,dx,_,_,rfl,R3.hD,T.cl,T.nH,EO,_,rfl,_,rfl,D,C,dx,_,_,rfl,R3.hD,T.cl,T.nG,hX,g,CG,dg3,_,_,rfl,hg3,TG.cl,TG.nF,gu ..,aH,z.he,r,p,rfl,.inr R3.hH,rok,k.pr,k.p9,r0,r1,fun H4 S4=>?_⟩;have R4:=R3.same S4;have G4:=G3.same S4;refine⟨_,rfl,D,C,dx,_,rfl,R4.hD,T.cl,T.nE,cw,?_⟩;rw[ux];have S5:SameBut D H4 (upd H4 D (.ins C dx (dl g aA aC z.s aH aT (val p z.he r) (z.pl+1)))):=SameBut.upd _;have R5:DbR C (upd H4 D (.ins C dx (dl g aA aC z.s aH aT (val p z.he r) (z.pl+1)))) D g { z with pl:=z.pl+1,ed:=val p z.he r } dx aA aC aH aT:=DbR.set (z:={ z with pl:=z.pl+1,ed:=val p z.he r }) R4.hD R4.hA R4.hC R4.hH R4.hT;have G5:=G4.but R4.hD gD S5;generalize upd H4 D (.ins C dx (dl g aA aC z.s aH aT (val p z.he r) (z.pl+1)))=H5 at S5 R5 G5;have S05:SameBut D H H5:=S03.trans ((zL0 S4).trans S5);refine⟨_,rfl,D,C,dx,_,_,rfl,R5.hD,T.cl,T.nT,vq,_,rfl,(by show 1<=sizeLine;decide),fun t ht=>?_⟩;have J:=zD0 ht (.tup [.int r]);have R6:=R5.same J;have G6:=G5.same J;have ht6:upd H5 t (.tup [.int r]) t=some (.tup [.int r]):=am;generalize upd H5 t (.tup [.int r])=H6 at J R6 G6 ht6;have n10:=k.n10;have fin:∀(x:Addr)(H7:Hp),Same H6 H7->H7 x=some (.tup ((z.to++[r]).map V.int))->(ps_fin:True)->∀QQ:Hp->Prop,(∀H8,SameBut D H7 H8->DbR C H8 D g { z with pl:=z.pl+1,ed:=val p z.he r,to:=z.to++[r] } dx aA aC aH x->Gm CG H8 g ns ts p->QQ H8)->QQ (upd H7 D (.ins C dx (dl g aA aC z.s aH x (val p z.he r) (z.pl+1)))):=by
    intro x H7 s7 hx _ QQ hq;have R7:=R6.same s7;exact hq _ (SameBut.upd _) (DbR.set (z:={ z with pl:=z.pl+1,ed:=val p z.he r,to:=z.to++[r] }) R7.hD R7.hA R7.hC R7.hH hx) ((G6.same s7).but R7.hD gD (SameBut.upd _))
   have po2:cg (z.to++[r]) p:=fun x hx=>by
    rcases qL0 hx with h | h
    . exact po x h
    . rw[zT0 h];exact⟨r0,r1⟩
   have tl2:(z.to++[r]).length<=ns.length:=by
    rw[zN0,qH0];omega
   have S06:SameBut D H H6:=S05.trans (zL0 J);refine⟨aT,t,_,_,rfl,rfl,zE0 R6.hT,zE0 ht6,(fun z=>by cases z),eC (by rw[zG0];show z.to.length+1<=1000;omega),fun z0=>?_,fun z0 p7 hp7=>?_⟩
   . have e0:z.to=[]:=by simpa using z0
     refine⟨_,rfl,D,C,dx,_,rfl,R6.hD,T.cl,T.nT,cw,?_⟩;rw[zS];refine fin t H6 (Same.refl _) (by rw[e0];exact ht6) trivial _ fun H8 S8 R8 G8=>?_
     refine⟨_,rfl,D,dx,_,rfl,R8.hD,Bo,?_⟩;exact⟨D,g,_,ns,ts,p,rfl,⟨dx,aA,aC,aH,t,R8⟩,G8,k,tl2,po2,fun H9 S9 D9=>q H9 (S06.trans (S8.trans S9)) D9⟩
   . have L:=zD0 hp7 (.tup (z.to.map V.int++[.int r]));have R7:=R6.same L;refine⟨_,rfl,D,C,dx,_,rfl,R7.hD,T.cl,T.nT,cw,?_⟩;rw[zS];refine fin p7 _ L (by rw[am,zM0];rfl) trivial _ fun H8 S8 R8 G8=>?_
     refine⟨_,rfl,D,dx,_,rfl,R8.hD,Bo,?_⟩;exact⟨D,g,_,ns,ts,p,rfl,⟨dx,aA,aC,aH,p7,R8⟩,G8,k,tl2,po2,fun H9 S9 D9=>q H9 (S06.trans ((zL0 L).trans (S8.trans S9))) D9⟩
def qj(C CG:Addr):Sp:=fun vs H Q _=>∃(D g dx:Addr)(ns:List Str)(ts:List Tr)(p:Int),vs=[.ref D,.ref g]/\H D=some (.ins C dx [])/\Gm CG H g ns ts p/\g≠D/\∀H',SameBut D H H'->DbAt C H' D g (Db.new ts)->Q .non H'
theorem zF:FnScope ["self","game"] ["self","game"] (af jr):=⟨rfl,rfl,rfl,by decide +kernel,rfl,by decide +kernel,by decide +kernel⟩
def BS(C:Addr)(t:Db->V->Hp->Prop):Sp:=fun vs H Q _=>∃(D g:Addr)(z:Db),vs=[.ref D]/\DbAt C H D g z/\∀v,t z v H->Q v H
theorem BY:FnScope ["self"] ["self"] (af lj):=⟨rfl,rfl,rfl,by decide +kernel,rfl,by decide +kernel,by decide +kernel⟩
theorem Cw {f:Addr} {fd:FuncData} (F:Fun K "due" "Doubter.due" lj f fd) (T:DTxt K mg C):FnOk P w K mg base CX0 1 f fd ["self"] (BS C fun z v _=>v=.int z.ed):=by
 refine F.ok BY (fun vs H Q E h=>?_) (fun cdv A outer s H vs Q E hr h=>?_)
 . obtain⟨D,g,z,rfl,_⟩:=h;rfl
 obtain⟨D,g,z,rfl,⟨dx,aA,aC,aH,aT,R⟩,q⟩:=h;refine⟨_,(ag (aD (au (pv 0) rfl))),?_⟩;exact⟨_,rfl,D,C,dx,_,_,rfl,R.hD,T.cl,T.nE,wK,q _ rfl⟩
theorem xw:FnScope ["self"] ["self"] (af gW):=⟨rfl,rfl,rfl,by decide +kernel,rfl,by decide +kernel,by decide +kernel⟩
theorem xO {f:Addr} {fd:FuncData} (F:Fun K "waits" "Doubter.waits" gW f fd) (T:DTxt K mg C):FnOk P w K mg base CX0 1 f fd ["self"] (BS C fun z v H=>∃a,v=.ref a/\H a=some (.tup (awV z.aw))):=by
 refine F.ok xw (fun vs H Q E h=>?_) (fun cdv A outer s H vs Q E hr h=>?_)
 . obtain⟨D,g,z,rfl,_⟩:=h;rfl
 obtain⟨D,g,z,rfl,⟨dx,aA,aC,aH,aT,R⟩,q⟩:=h;refine⟨_,(ag (aD (au (pv 0) rfl))),?_⟩;exact⟨_,rfl,D,C,dx,_,_,rfl,R.hD,T.cl,T.nA,Bp,q _ ⟨aA,rfl,R.hA⟩⟩
end
section
variable {C CG:Addr}
def AwW (x:Str):Prop:=x="hear"∨x="coin"∨x="caught"∨x="believed"
end
section
variable {C CG:Addr}
def d1 (g:Addr):List (Str×V):=[("game",.ref g)]
def d2 (g t1:Addr):List (Str×V):=[("game",.ref g),("awaited",.ref t1)]
def d3 (g t1 t2:Addr):List (Str×V):=[("game",.ref g),("awaited",.ref t1),("claims",.ref t2)]
def d4 (g t1 t2:Addr):List (Str×V):=[("game",.ref g),("awaited",.ref t1),("claims",.ref t2),("s",.int 0)]
def d5 (g t1 t2 t3:Addr):List (Str×V):=[("game",.ref g),("awaited",.ref t1),("claims",.ref t2),("s",.int 0),("heard",.ref t3)]
def d6 (g t1 t2 t3 t4:Addr):List (Str×V):=[("game",.ref g),("awaited",.ref t1),("claims",.ref t2),("s",.int 0),("heard",.ref t3),("tossed",.ref t4)]
def d7 (g t1 t2 t3 t4:Addr):List (Str×V):=[("game",.ref g),("awaited",.ref t1),("claims",.ref t2),("s",.int 0),("heard",.ref t3),("tossed",.ref t4),("held",.int 0)]
theorem pd1 (g:Addr):bK "game" (.ref g) []=d1 g:=by with_unfolding_all rfl
theorem pd2 (g t1:Addr):bK "awaited" (.ref t1) (d1 g)=d2 g t1:=by with_unfolding_all rfl
theorem pd3 (g t1 t2:Addr):bK "claims" (.ref t2) (d2 g t1)=d3 g t1 t2:=by with_unfolding_all rfl
theorem pd4 (g t1 t2:Addr):bK "s" (.int 0) (d3 g t1 t2)=d4 g t1 t2:=by with_unfolding_all rfl
theorem pd5 (g t1 t2 t3:Addr):bK "heard" (.ref t3) (d4 g t1 t2)=d5 g t1 t2 t3:=by with_unfolding_all rfl
theorem pd6 (g t1 t2 t3 t4:Addr):bK "tossed" (.ref t4) (d5 g t1 t2 t3)=d6 g t1 t2 t3 t4:=by with_unfolding_all rfl
theorem pd7 (g t1 t2 t3 t4:Addr):bK "held" (.int 0) (d6 g t1 t2 t3 t4)=d7 g t1 t2 t3 t4:=by with_unfolding_all rfl
theorem pd8 (g t1 t2 t3 t4:Addr):bK "places" (.int 0) (d7 g t1 t2 t3 t4)=dl g t1 t2 0 t3 t4 0 0:=by with_unfolding_all rfl
theorem As {f:Addr} {fd:FuncData} (F:Fun K "__init__" "Doubter.__init__" jr f fd) (B:Bl mg) (T:DTxt K mg C) (TG:GTxt K mg CG):FnOk P w K mg base CX0 1 f fd ["self","game"] (qj C CG):=by
 refine F.ok zF (fun vs H Q E h=>?_) (fun cdv A outer s H vs Q E hr h=>?_)
 . obtain⟨D,g,dx,ns,ts,p,rfl,_⟩:=h;rfl
 obtain ⟨D,g,dx,ns,ts,p,rfl,hD,G,gD,q⟩:=h;refine⟨_,(ad (aX (pv 0) (pv 1) rfl)
  (ad (aX (pv 0) (bE (aa aV (aa (aO aM rfl B.len PySem.boot_len (aa (au (pv 1) rfl) ae)) ae))) rfl)
  (ad (aX (pv 0) (bE ae) rfl)
  (ad (aX (pv 0) ai rfl)
  (ad (aX (pv 0) (bE ae) rfl)
  (ad (aX (pv 0) (bE ae) rfl)
  (ad (aX (pv 0) ai rfl)
  (ag (aX (pv 0) ai rfl))))))))),?_⟩
 obtain ⟨a,b,d,tv,⟨dg,hg⟩,ha,hb,TS,hd⟩:=G;have vl:=TS.length;refine⟨_,rfl,_,rfl,D,C,dx,_,rfl,hD,T.cl,T.nG,(by show 0<1000;decide),?_⟩;rw[pd1];have S1:SameBut D H (upd H D (.ins C dx (d1 g))):=SameBut.upd _;have h1:upd H D (.ins C dx (d1 g)) D=some (.ins C dx (d1 g)):=am;generalize upd H D (.ins C dx (d1 g))=H1 at S1 h1;have nb:=bq hb hD (by intro z;cases z);refine⟨_,rfl,g,CG,dg,_,_,rfl,S1 _ _ gD hg,TG.cl,TG.nT,kG ..,b,_,rfl,.inr (zE0 (S1 _ _ nb hb)),(by show 2<=sizeLine;decide),fun t1 ht1=>?_⟩;have I1:=zD0 ht1 (.tup [.str "hear",.int (tv.length:Int)]);have g1:upd H1 t1 (.tup [.str "hear",.int (tv.length:Int)]) t1=some (.tup [.str "hear",.int (tv.length:Int)]):=am;generalize upd H1 t1 (.tup [.str "hear",.int (tv.length:Int)])=H2 at I1 g1;refine⟨_,rfl,D,C,dx,_,rfl,I1 _ _ h1,T.cl,T.nA,(by show 1<1000;decide),?_⟩;rw[pd2];have n1:t1≠D:=(aN h1 ht1).symm;have S2:SameBut D H2 (upd H2 D (.ins C dx (d2 g t1))):=SameBut.upd _;have h2:upd H2 D (.ins C dx (d2 g t1)) D=some (.ins C dx (d2 g t1)):=am;have k1:=S2 _ _ n1 g1;generalize upd H2 D (.ins C dx (d2 g t1))=H3 at S2 h2 k1;refine⟨(by show 0<=sizeLine;decide),fun t2 ht2=>?_⟩;have I2:=zD0 ht2 (.tup []);have g2:upd H3 t2 (.tup []) t2=some (.tup []):=am;generalize upd H3 t2 (.tup [])=H4 at I2 g2;refine⟨_,rfl,D,C,dx,_,rfl,I2 _ _ h2,T.cl,T.nC,(by show 2<1000;decide),?_⟩;rw[pd3];have n2:t2≠D:=(aN h2 ht2).symm;have S3:SameBut D H4 (upd H4 D (.ins C dx (d3 g t1 t2))):=SameBut.upd _;have h3:upd H4 D (.ins C dx (d3 g t1 t2)) D=some (.ins C dx (d3 g t1 t2)):=am;generalize upd H4 D (.ins C dx (d3 g t1 t2))=H5 at S3 h3;refine⟨_,rfl,D,C,dx,_,rfl,h3,T.cl,T.nS,(by show 3<1000;decide),?_⟩;rw[pd4];have S4:SameBut D H5 (upd H5 D (.ins C dx (d4 g t1 t2))):=SameBut.upd _;have h4:upd H5 D (.ins C dx (d4 g t1 t2)) D=some (.ins C dx (d4 g t1 t2)):=am;generalize upd H5 D (.ins C dx (d4 g t1 t2))=H6 at S4 h4;refine⟨(by show 0<=sizeLine;decide),fun t3 ht3=>?_⟩;have I3:=zD0 ht3 (.tup []);have g3:upd H6 t3 (.tup []) t3=some (.tup []):=am;generalize upd H6 t3 (.tup [])=H7 at I3 g3;refine⟨_,rfl,D,C,dx,_,rfl,I3 _ _ h4,T.cl,T.nH,(by show 4<1000;decide),?_⟩;rw[pd5];have n3:t3≠D:=(aN h4 ht3).symm;have S5:SameBut D H7 (upd H7 D (.ins C dx (d5 g t1 t2 t3))):=SameBut.upd _;have h5:upd H7 D (.ins C dx (d5 g t1 t2 t3)) D=some (.ins C dx (d5 g t1 t2 t3)):=am;generalize upd H7 D (.ins C dx (d5 g t1 t2 t3))=H8 at S5 h5;refine⟨(by show 0<=sizeLine;decide),fun t4 ht4=>?_⟩;have I4:=zD0 ht4 (.tup []);have g4:upd H8 t4 (.tup []) t4=some (.tup []):=am;generalize upd H8 t4 (.tup [])=H9 at I4 g4;refine⟨_,rfl,D,C,dx,_,rfl,I4 _ _ h5,T.cl,T.nT,(by show 5<1000;decide),?_⟩;rw[pd6];have n4:t4≠D:=(aN h5 ht4).symm;refine⟨_,rfl,D,C,dx,_,rfl,am,T.cl,T.nE,(by show 6<1000;decide),?_⟩;rw[pd7];refine⟨_,rfl,D,C,dx,_,rfl,am,T.cl,T.nP,(by show 7<1000;decide),?_⟩;rw[pd8];have W:∀{x:Addr} {H':Hp} {o1 o2 o3:HO} {u:HO},x≠D->H' x=some u->upd (upd (upd H' D o1) D o2) D o3 x=some u:=fun {x H' o1 o2 o3 u} n e=>by
  rw[aq n,aq n,aq n];exact e
 have k2:=S3 _ _ n2 g2;have k3:=S5 _ _ n3 g3;refine q _ (S1.trans ((zL0 I1).trans (S2.trans ((zL0 I2).trans (S3.trans (S4.trans ((zL0 I3).trans (S5.trans ((zL0 I4).trans ((SameBut.upd _).trans ((SameBut.upd _).trans (SameBut.upd _)))))))))))) ⟨dx,t1,t2,t3,t4,am,?_,?_,?_,W n4 g4⟩
 . rw[vl]at k1;exact W n1 (I4 _ _ (S5 _ _ n1 (I3 _ _ (S4 _ _ n1 (S3 _ _ n1 (I2 _ _ k1))))))
 . exact W n2 (I4 _ _ (S5 _ _ n2 (I3 _ _ (S4 _ _ n2 k2))))
 . exact W n3 (I4 _ _ k3)
end
def iw (o:Str) (p q:Bool):Bool:=if o="and" then p&&q else if o="or" then p||q else if o="odd" then p != q else p==q
def Tr.holds(ns:List Str)(st:List Int):Tr->Bool
 | .is x=>match eD x ns with | some j=>decide (st.getD j 0=1) | none=>false
 | .yes=>true
 | .no=>false
 | .not a=>!a.holds ns st
 | .bin o a b=>iw o (a.holds ns st) (b.holds ns st)
def ni:Sp:=fun vs H Q _=>∃(o:Str)(p q:Bool),vs=[.str o,.bl p,.bl q]/\Q (.bl (iw o p q)) H
theorem xr:FnScope ["word","first","second"] ["word","first","second"] (af gT):=⟨rfl,rfl,rfl,by decide +kernel,rfl,by decide +kernel,by decide +kernel⟩
theorem xL {f:Addr} {fd:FuncData} (F:Fun K "joined" "joined" gT f fd):FnOk P w K mg base CX0 1 f fd ["word","first","second"] ni:=by
 refine F.ok xr (fun vs H Q E h=>?_) (fun cdv A outer s H vs Q E hr h=>?_)
 . obtain⟨o,p,q,rfl,_⟩:=h;rfl
 obtain ⟨o,p,q,rfl,k⟩:=h;refine⟨_,(ad (aR (ax bb (pv 0) aV (aF _)) (ag (aD (lu (pv 1) (nW (pv 2))))) aG)
  (ad (aR (ax bb (pv 0) aV (aF _)) (ag (aD (pe_or (pv 1) (nW (pv 2))))) aG)
  (ad (aR (ax bb (pv 0) aV (aF _)) (ag (aD (fE nZ (pv 1) (pv 2) (aF _)))) aG)
  (ag (aD (fE bb (pv 1) (pv 2) (aF _))))))),?_⟩
 refine⟨_,rfl,rfl,_,rfl,?_⟩
 by_cases c1:V.str o=V.str "and"
 . refine bz c1 ?_;have e:iw o p q=(p&&q):=by unfold iw;rw[zB0 (gB c1)]
   rw[e]at k;refine⟨_,rfl,p,rfl,?_⟩;cases p with
   | true=>exact jK ⟨_,rfl,by simpa using k⟩
   | false=>exact gx (by simpa using k)
 refine aI c1 ?_;have n1:¬ o="and":=fun z=>c1 (by rw[z])
 refine⟨_,rfl,rfl,_,rfl,?_⟩
 by_cases c2:V.str o=V.str "or"
 . refine bz c2 ?_;have e:iw o p q=(p||q):=by unfold iw;rw[zA0 n1,zB0 (gB c2)]
   rw[e]at k;refine⟨_,rfl,p,rfl,?_⟩;cases p with
   | true=>exact jK (by simpa using k)
   | false=>exact gx ⟨_,rfl,by simpa using k⟩
 refine aI c2 ?_;have n2:¬ o="or":=fun z=>c2 (by rw[z])
 refine⟨_,rfl,rfl,_,rfl,?_⟩
 by_cases c3:V.str o=V.str "odd"
 . refine bz c3 ?_;have e:iw o p q=(p != q):=by unfold iw;rw[zA0 n1,zA0 n2,zB0 (gB c3)]
   rw[e]at k;refine⟨_,rfl,_,rfl,rfl,?_⟩;have e2:(!decide (V.bl p=V.bl q))=(p != q):=by cases p <;> cases q <;> decide
   show Q (.bl (!decide (V.bl p=V.bl q))) H;rw[e2];exact k
 refine aI c3 ?_;have n3:¬ o="odd":=fun z=>c3 (by rw[z])
 have e:iw o p q=(p==q):=by unfold iw;rw[zA0 n1,zA0 n2,zA0 n3]
 rw[e]at k;refine⟨_,rfl,_,rfl,rfl,?_⟩;have e2:decide (V.bl p=V.bl q)=(p==q):=by cases p <;> cases q <;> decide
 show Q (.bl (decide (V.bl p=V.bl q))) H;rw[e2];exact k
def jd(n:Nat):Sp:=fun vs H Q _=>∃(v:V)(t:Tr)(a b:Addr)(ns:List Str)(st:List Int),vs=[v,.ref a,.ref b]/\TreeAt H v t/\t.ok ns/\t.depth<=n/\NamesAt H a ns/\H b=some (.tup (st.map V.int))/\st.length=ns.length/\Q (.bl (t.holds ns st)) H
theorem jN:FnScope ["tree","switches","setting","word","first"] ["tree","switches","setting"] (af dQ):=⟨rfl,rfl,rfl,by decide +kernel,rfl,by decide +kernel,by decide +kernel⟩
theorem vi {n:Nat} {f:Addr} {fd:FuncData} (F:Fun K "holds_at" "holds_at" dQ f fd) (gw:Cal P w K mg base 1 "joined" ["word","first","second"] ni) (e9:Cal P w K mg base (n+2) "holds_at" ["tree","switches","setting"] (jd n)):FnOk P w K mg base CX0 (n+3) f fd ["tree","switches","setting"] (jd (n+1)):=by
 refine F.ok jN (fun vs H Q E h=>?_) (fun cdv A outer s H vs Q E hr h=>?_)
 . obtain⟨v,t,a,b,ns,st,rfl,_⟩:=h;rfl
 obtain ⟨v,t,a,b,ns,st,rfl,T,ok,dn,hN,hb,sl,k⟩:=h;refine⟨_,(ad (ay (i:=3) jN.nd rfl (Or.inl rfl) (aY bc (pv 0) ai (fun _ _=>rfl)))
  (ad (aR (ax bb (pv 3) aV (aF _)) (ag (aD (fE bb (aY bc (pv 2) (su PySem.F.plainAttrs_list PySem.F.plainAttrs_tuple (pv 1) (aa (aY bc (pv 0) ai (fun _ _=>rfl)) ae)) (fun _ _=>rfl)) ai (aF _)))) aG)
  (ad (aR (PW.pt (we (ax bb (pv 3) aV (aF _)) (qB (ax bb (pv 3) aV (aF _))))) (ag (aD (fE bb (pv 3) aV (aF _)))) aG)
  (ad (ay (i:=4) jN.nd rfl (Or.inl rfl) (aJ e9 hr (zF0 _) rfl (aa (aY bc (pv 0) ai (fun _ _=>rfl)) (aa (pv 1) (aa (pv 2) ae)))))
  (ad (aR (ax bb (pv 3) aV (aF _)) (ag (aD (uC (pv 4)))) aG)
  (ag (aD (aJ gw hr (by omega) rfl (aa (pv 3) (aa (pv 4) (aa (aJ e9 hr (zF0 _) rfl (aa (aY bc (pv 0) ai (fun _ _=>rfl)) (aa (pv 1) (aa (pv 2) ae)))) ae))))))))))),?_⟩
 cases T with
 | @is p x e=>
   refine⟨_,rfl,p,_,0,_,rfl,rfl,zE0 e,rfl,?_⟩;refine⟨_,rfl,rfl,_,rfl,?_⟩;refine bz rfl ?_;obtain⟨j,hj,jl⟩:=gl ok;have jl':j<st.length:=by omega
   refine⟨_,rfl,_,rfl,a,ns,rfl,hN,_,rfl,p,_,1,_,rfl,rfl,zE0 e,rfl,rfl,x,j,rfl,hj,b,_,(j:Int),.int st[j],rfl,rfl,zE0 hb,?_,rfl,?_⟩
   . refine cM ?_;rw[qA0,zP0 jl'];rfl
   . have e1:(Tr.is x).holds ns st=decide (V.int st[j]=V.int 1):=by
      show(match eD x ns with | some j=>decide (st.getD j 0=1) | none=>false)=_;rw[hj];show decide (st.getD j 0=1)=_;rw[qI0,zP0 jl']
      simp
     rw[e1]at k;exact k
 | @yes p e=>
   refine⟨_,rfl,p,_,0,_,rfl,rfl,zE0 e,rfl,?_⟩;refine⟨_,rfl,rfl,_,rfl,?_⟩;refine aI (by decide +kernel) ?_;refine⟨_,rfl,rfl,_,rfl,?_⟩;refine bz rfl (jK ?_);exact⟨_,rfl,rfl,k⟩
 | @no p e=>
   refine⟨_,rfl,p,_,0,_,rfl,rfl,zE0 e,rfl,?_⟩;refine⟨_,rfl,rfl,_,rfl,?_⟩;refine aI (by decide +kernel) ?_;refine⟨_,rfl,rfl,_,rfl,?_⟩;refine aI (by decide +kernel) ?_;refine⟨_,rfl,rfl,_,rfl,?_⟩;refine bz rfl ?_;refine⟨_,rfl,rfl,?_⟩;have e1:decide (V.str "no"=V.str "yes")=false:=by decide +kernel
   show Q (.bl (decide (V.str "no"=V.str "yes"))) H;rw[e1];exact k
 | @not p u r e T1=>
   have dp:r.depth+1<=n+1:=dn;refine⟨_,rfl,p,_,0,_,rfl,rfl,zE0 e,rfl,?_⟩;refine⟨_,rfl,rfl,_,rfl,?_⟩;refine aI (by decide +kernel) ?_;refine⟨_,rfl,rfl,_,rfl,?_⟩;refine aI (by decide +kernel) ?_;refine⟨_,rfl,rfl,_,rfl,?_⟩;refine aI (by decide +kernel) ?_;refine⟨_,rfl,p,_,1,_,rfl,rfl,zE0 e,rfl,_,rfl,_,rfl,u,r,a,b,ns,st,rfl,T1,ok,by omega,hN,hb,sl,?_⟩;refine⟨_,rfl,rfl,_,rfl,?_⟩;refine bz rfl ?_;exact⟨_,rfl,_,rfl,k⟩
 | @bin p o u u2 r r2 e T1 T2=>
   obtain⟨ho,ok1,ok2⟩:=ok;have dp:max r.depth r2.depth+1<=n+1:=dn;have ne:∀z:Str,z∉pM->¬ V.str o=V.str z:=fun z hz h=>hz (gB h▸ho)
   refine⟨_,rfl,p,_,0,_,rfl,rfl,zE0 e,rfl,?_⟩;refine⟨_,rfl,rfl,_,rfl,?_⟩;refine aI (ne _ (by decide +kernel)) ?_;refine⟨_,rfl,rfl,_,rfl,?_⟩;refine aI (ne _ (by decide +kernel)) ?_;refine⟨_,rfl,rfl,_,rfl,?_⟩;refine aI (ne _ (by decide +kernel)) ?_;refine⟨_,rfl,p,_,1,_,rfl,rfl,zE0 e,rfl,_,rfl,_,rfl,u,r,a,b,ns,st,rfl,T1,ok1,by omega,hN,hb,sl,?_⟩;refine⟨_,rfl,rfl,_,rfl,?_⟩;refine aI (ne _ (by decide +kernel)) ?_;refine⟨_,rfl,_,rfl,_,rfl,p,_,2,_,rfl,rfl,zE0 e,rfl,_,rfl,_,rfl,u2,r2,a,b,ns,st,rfl,T2,ok2,by omega,hN,hb,sl,?_⟩;exact⟨o,_,_,rfl,k⟩
theorem vh {f:Addr} {fd:FuncData}:FnOk P w K mg base CX0 2 f fd ["tree","switches","setting"] (jd 0):=by
 have no:∀vs H Q E,¬ jd 0 vs H Q E:=fun vs H Q E h=>by
  obtain⟨v,t,_,_,_,_,_,_,_,h1,_⟩:=h
  have:=t.depth_pos
  omega
 exact⟨fun vs H Q E h=>absurd h (no vs H Q E),fun A outer s H args us vs Q E _ _ _ _ h=>absurd h (no vs H Q E)⟩
theorem lW {f:Addr} {fd:FuncData} (F:Fun K "holds_at" "holds_at" dQ f fd) (m:mg "holds_at"=some (.ref f)) (gw:Cal P w K mg base 1 "joined" ["word","first","second"] ni) :
 ∀n:Nat,FnOk P w K mg base CX0 (n+2) f fd ["tree","switches","setting"] (jd n)
 | 0=>vh
 | n+1=>vi F gw (Cal.of F (lW F m gw n) m (fun _ _ _ _ _ _ us hl=>by obtain⟨u0,u1,u2,rfl⟩:=jJ hl;rfl))
def Dz(H:Hp)(v:V)(s:List Int):Prop:=∃a,v=.ref a/\H a=some (.tup (s.map V.int))
abbrev TupsAt(H:Hp):List V->List (List Int)->Prop:=PySem.Paired (Dz H)
def BE(H:Hp)(r:Addr)(ss:List (List Int)):Prop:=∃rs,H r=some (.lst rs)/\TupsAt H rs ss
theorem TupsAt.mono{H H':Hp}(k:∀a xs,H a=some (.tup xs)->H' a=some (.tup xs)):∀{rs:List V}{ss:List (List Int)},TupsAt H rs ss->TupsAt H' rs ss
 | _,_,.nil=>.nil
 | _,_,.cons ⟨a,e,h⟩ t=>.cons ⟨a,e,k _ _ h⟩ (TupsAt.mono k t)
theorem TupsAt.get{H:Hp}:∀{rs:List V}{ss:List (List Int)}{i:Nat}{v:V},TupsAt H rs ss->rs[i]?=some v->∃s,ss[i]?=some s/\Dz H v s
 | _,_,_,_,.nil,h=>by simp at h
 | _,_,0,_,.cons h _,e=>by
   simp at e
   subst e;exact⟨_,rfl,h⟩
 | _,_,i+1,v,.cons _ t,e=>by
   obtain⟨s,h1,h2⟩:=TupsAt.get (i:=i) t (by simpa using e);exact⟨s,by simpa using h1,h2⟩
theorem yh{H H':Hp}{b:Addr}{ys:List V}(s:SameBut b H H')(h:H b=some (.lst ys)∨H b=none):∀a xs,H a=some (.tup xs)->H' a=some (.tup xs):=fun a xs e=>s a _ (fun z=>by
 rw[z]at e;rcases h with h | h
 . rw[h]at e;cases e
 . rw[h]at e;cases e) e
theorem tM{K:W.Frag}{H1:Hp}{a p:Addr}{s:List Int}{z:Int}{Q:VK}(ha:H1 a=some (.tup (s.map V.int)))(hp:H1 p=some (.tup [.int z]))(hl:s.length<=100)
 (q:∀t H2,Same H1 H2->H2 t=some (.tup ((s++[z]).map V.int))->Q (.ref t) H2):sk K (.ref a) (.ref p) H1 Q∨ny K (.ref a) (.ref p) H1 Q:=by
 cases s with
 | nil=>exact .inr ⟨a,p,_,rfl,rfl,zE0 ha,zE0 hp,q p H1 (Same.refl _) hp⟩
 | cons x r=>
   refine .inl ⟨a,p,_,_,rfl,rfl,zE0 ha,zE0 hp,by simp,eC (by simp at hl ⊢;omega),(fun z=>nomatch z),(fun _ t ht=>q t _ (zD0 ht _) ?_)⟩;rw[am,zM0];rfl
def qd:Sp:=fun vs H Q _=>∃n:Int,vs=[.int n]/\0<=n/\n<=6/\∀(r:Addr)(H':Hp),H r=none->Same H H'->BE H' r (bL n.toNat)->Q (.ref r) H'
theorem cx:FnScope ["n","told","switch","longer","setting"] ["n"] (af cX):=⟨rfl,rfl,rfl,by decide +kernel,rfl,by decide +kernel,by decide +kernel⟩
theorem mo {f:Addr} {fd:FuncData} (F:Fun K "all_settings" "all_settings" cX f fd) (hrange:mg "range"=none):FnOk P w K mg base CX0 1 f fd ["n"] qd:=by
 refine F.ok cx (fun vs H Q E h=>?_) (fun cdv A outer s H vs Q E hr h=>?_)
 . obtain⟨n,rfl,_⟩:=h;rfl
 obtain ⟨n,rfl,n0,n6,q⟩:=h;refine⟨_,(ad (ay (i:=1) cx.nd rfl (Or.inl rfl) (da (aa (bE ae) ae)))
  (ad (dR PassesOwn.never rfl (cv rfl hrange (aa (pv 0) ae)) (cB (i:=2) cx.nd rfl (Or.inl rfl)) (ad (ay (i:=3) cx.nd rfl (Or.inl rfl) (da ae))
   (ad (dR PassesOwn.never rfl (jy (pv 1)) (cB (i:=4) cx.nd rfl (Or.inl rfl)) (ad (bX (kx PySem.F.plainAttrs_list PySem.F.slot_list_append PySem.F.type_list_append fh (pv 3) (aa (ao (op_catT.or ky) (pv 4) (bE (aa ai ae))) ae)))
    (ag (bX (kx PySem.F.plainAttrs_list PySem.F.slot_list_append PySem.F.type_list_append fh (pv 3) (aa (ao (op_catT.or ky) (pv 4) (bE (aa ai ae))) ae))))))
   (ag (ay (i:=1) cx.nd rfl (Or.inl rfl) (pv 3))))))
  (ag (aD (pv 1))))),?_⟩
 refine ⟨(by show 0<=sizeLine;decide),fun p hp=>?_⟩;refine⟨(by show 1<=sizeLine;decide),fun a ha=>?_⟩;have np:p≠a:=fun z=>by
  subst z;rw[am]at ha;cases ha
 have ha0:H a=none:=(zD0 hp _).free ha;refine⟨_,rfl,n,rfl,by omega,by omega,eB (fun i σ H'=>∃(a:Addr)(x2 x3 x4:Option V),σ=[some (.int n),some (.ref a),x2,x3,x4]/\H a=none/\Same H H'/\BE H' a (bL i))
  ⟨a,_,_,_,rfl,ha0,(zD0 hp _).trans (zD0 ha _),[.ref p],am,.cons ⟨p,rfl,by rw[aq np,am];rfl⟩ .nil⟩ ?_ ?_⟩
 . rintro i σ H' hi ⟨a,x2,x3,x4,rfl,a0,s0,rs,hrs,T⟩;have i6:i<6:=by omega
   have sl:=jg i;have s64:=lm (n:=i) (by omega);refine⟨(by show 0<=sizeLine;decide),fun b hb=>?_⟩;have ab:a≠b:=aN hrs hb;refine⟨_,rfl,a,rfl,⟨_,zI0 (by rw[aq ab];exact hrs)⟩,oF (K:=K) (xs:=rs) (fun j σ H2=>∃(x4:Option V)(bs:List V),σ=[some (.int n),some (.ref a),some (.int (0+(i:Int))),some (.ref b),x4]/\SameBut b H' H2/\H2 b=some (.lst bs)/\TupsAt H2 bs (((bL i).take j).flatMap fun s=>[s++[0],s++[1]]))
    ⟨_,[],rfl,SameBut.upd _,am,.nil⟩ (fun j σ H2 _ hst=>by obtain⟨_,_,_,sb,_⟩:=hst;exact zI0 (sb a _ ab hrs)) ?_ ?_⟩
   . rintro j y σ H2 hj ⟨x4,bs,rfl,sb,hbs,TB⟩;have T2:TupsAt H2 rs (bL i):=T.mono (yh (ys:=[]) sb (.inr hb));obtain⟨s,hs,t,rfl,ht⟩:=T2.get hj;have hsm:s∈bL i:=qJ0 hs;have hsl:=ft i s hsm;have hbl:=TB.length;rw[lE,qN0]at hbl;refine⟨_,rfl,.inl ⟨rfl,_,zI0 hbs⟩,?_⟩;refine⟨_,rfl,(by show 1<=sizeLine;decide),fun p1 hp1=>?_⟩;have S1:Same H2 (upd H2 p1 (.tup [.int 0])):=zD0 hp1 _;refine tM (s:=s) (z:=0) (S1 _ _ ht) am (by omega) fun t1 H3 S3 e3=>?_
     have S13:Same H2 H3:=S1.trans S3;refine⟨b,bs,_,rfl,rfl,S13 _ _ hbs,bi (by omega),?_⟩;have K4:=jE (H:=H3) (b:=b) (ys:=bs) (zs:=bs++[.ref t1]) (S13 _ _ hbs);have e4:=K4 _ _ e3;have t4:=K4 _ _ (S13 _ _ ht);refine⟨_,rfl,.inl ⟨rfl,_,zI0 am⟩,?_⟩;refine⟨_,rfl,(by show 1<=sizeLine;decide),fun p2 hp2=>?_⟩;have S4:Same (upd H3 b (.lst (bs++[.ref t1]))) (upd (upd H3 b (.lst (bs++[.ref t1]))) p2 (.tup [.int 1])):=zD0 hp2 _;refine tM (s:=s) (z:=1) (S4 _ _ t4) am (by omega) fun t2 H5 S5 e5=>?_
     have S45:=S4.trans S5;have hb5:H5 b=some (.lst (bs++[.ref t1])):=S45 _ _ am;refine⟨b,bs++[.ref t1],_,rfl,rfl,hb5,bi (by rw[zN0,qH0];omega),?_⟩;have K6:=jE (H:=H5) (b:=b) (ys:=bs++[.ref t1]) (zs:=bs++[.ref t1]++[.ref t2]) hb5;refine⟨_,bs++[.ref t1]++[.ref t2],rfl,?_,am,?_⟩
     . have q1:SameBut b H' H3:=sb.trans (zL0 S13);have q2:SameBut b H' H5:=(q1.trans (SameBut.upd _)).trans (zL0 S45);exact q2.trans (SameBut.upd _)
     . have hbase:TupsAt (upd H5 b (.lst (bs++[.ref t1]++[.ref t2]))) bs (((bL i).take j).flatMap fun s=>[s++[0],s++[1]]):=
        TB.mono fun a xs e=>K6 _ _ (S45 _ _ (K4 _ _ (S13 _ _ e)))
       rw[qQ0,hs,List.flatMap_append];have e:((some s).toList.flatMap fun s:List Int=>[s++[0],s++[1]])=[s++[0]]++[s++[1]]:=by simp
       rw[e,←List.append_assoc];exact(hbase.snoc ⟨t1,rfl,K6 _ _ (S45 _ _ e4)⟩).snoc ⟨t2,rfl,K6 _ _ e5⟩
   . rintro σ H2 ⟨x4,bs,rfl,sb,hbs,TB⟩;have rl:=T.length;rw[rl,qR0]at TB;exact⟨_,rfl,b,_,_,_,rfl,s0.free hb,s0.but (s0.free hb) sb,bs,hbs,TB⟩
 . rintro σ H' ⟨a,x2,x3,x4,rfl,a0,s0,S⟩;exact⟨_,rfl,q a H' a0 s0 S⟩
def cnt(t:Tr)(ns:List Str):Nat:=((bL ns.length).filter fun st=>t.holds ns st).length
def vW:Sp:=fun vs H Q _=>∃(v:V)(t:Tr)(a:Addr)(ns:List Str),vs=[v,.ref a]/\TreeAt H v t/\t.ok ns/\t.depth<=12/\NamesAt H a ns/\ns.length<=6/\∀H',Same H H'->Q (.int (cnt t ns:Int)) H'
theorem q0:FnScope ["tree","switches","holding"] ["tree","switches"] (af eZ):=⟨rfl,rfl,rfl,by decide +kernel,rfl,by decide +kernel,by decide +kernel⟩
theorem sE {f:Addr} {fd:FuncData} (F:Fun K "count_of" "count_of" eZ f fd) (hlen:mg "len"=none) (cF:Cal P w K mg base 1 "all_settings" ["n"] qd) (e9:Cal P w K mg base 14 "holds_at" ["tree","switches","setting"] (jd 12)):FnOk P w K mg base CX0 15 f fd ["tree","switches"] vW:=by
 refine F.ok q0 (fun vs H Q E h=>?_) (fun cdv A outer s H vs Q E hr h=>?_)
 . obtain⟨v,t,a,ns,rfl,_⟩:=h;rfl
 obtain ⟨v,t,a,ns,rfl,T,ok,dp,hN,nl,q⟩:=h;refine⟨_,(ad (qG (i:=2) (N:=["tree","switches"]) (ix:=[0,1]) q0.nd rfl (Or.inl rfl) rfl
  (CompScope.two (by with_unfolding_all rfl) (by decide) rfl (by decide) rfl (by decide +kernel) (by first | exact Or.inl rfl | exact Or.inr rfl) (by with_unfolding_all rfl) (by with_unfolding_all rfl) (by with_unfolding_all rfl) (by with_unfolding_all rfl) rfl rfl (by with_unfolding_all rfl) rfl rfl) rfl
  (jy (aJ cF hr (by decide) rfl (aa (aO aM rfl hlen PySem.boot_len (aa (pv 1) ae)) ae)))
  (fun _ _ _=>pb_if (io (aJ e9 hr (by decide) rfl (aa (pv 1) (aa (pv 2) (aa (pv 0) ae))))) (pv 0)))
  (ag (aD (aO aM rfl hlen PySem.boot_len (aa (pv 2) ae))))),?_⟩
 have en:((ns.map V.str).length:Int)=(ns.length:Int):=by rw[zG0]
 refine⟨_,rfl,a,_,rfl,hN.seq,_,rfl,by omega,by omega,fun r H1 r0 S1 R1=>?_⟩;rw[en]at R1;have e2:((ns.length:Int)).toNat=ns.length:=by omega
 rw[e2]at R1;obtain⟨rs,hrs,TS⟩:=R1;have rl:=TS.length;have sl:=jg ns.length;have s64:=lm nl;refine⟨r,rfl,⟨_,zI0 hrs⟩,fun D hD=>?_⟩;refine lF (K:=K) (xs:=rs) (fun i H'=>∃ys,H' D=some (.lst ys)/\ys.length=(((bL ns.length).take i).filter fun st=>t.holds ns st).length/\Same H1 H') ⟨[],am,rfl,zD0 hD _⟩ (fun i H' _ hst=>by obtain⟨_,_,_,h⟩:=hst;exact zI0 (h _ _ hrs)) ?_ ?_
 . rintro i x H2 hx ⟨ys,hl,yl,S2⟩;have hi:i<rs.length:=(zX0 hx).1;have TS2:=TS.mono (bp S2);obtain⟨st,hst,b,rfl,hb⟩:=TS2.get hx;have stl:=ft _ _ (qJ0 hst);have S02:=S1.trans S2;have tk:((bL ns.length).take (i+1)).filter (fun st=>t.holds ns st)=((bL ns.length).take i).filter (fun st=>t.holds ns st)++[st].filter (fun st=>t.holds ns st):=by
    rw[qQ0,hst,List.filter_append];rfl
   refine⟨_,rfl,_,rfl,_,rfl,v,t,a,b,ns,st,rfl,T.mono (bp S02),ok,dp,hN.same S02,hb,stl,_,rfl,?_⟩;cases c:t.holds ns st with
   | true=>
     refine jK ?_;refine⟨_,rfl,ys,hl,?_,Nx.of hi ⟨_,am,?_,fun b' o e=>?_⟩⟩
     . have:=List.length_filter_le (fun st=>t.holds ns st) ((bL ns.length).take i)
       rw[qN0]at this;exact bi (by omega)
     . rw [tk,zN0,zN0,yl]
       simp [c]
     . rw[aq (aN e hD)];exact S2 _ _ e
   | false=>
     refine gx ?_;refine Nx.of hi ⟨ys,hl,?_,S2⟩;rw[tk,zN0,yl]
     simp [c]
 . rintro H2 ⟨ys,hl,yl,S2⟩;have e3:rs.length=(bL ns.length).length:=rl;rw[e3,qR0]at yl;refine⟨_,rfl,D,_,rfl,.inl (zI0 hl),?_⟩;rw[yl];exact q H2 (S1.trans S2)
def rQ(C:Addr):Sp:=fun vs H Q _=>∃(g a b d:Addr)(ns:List Str)(tv:List V)(ts:List Tr)(p:Int),vs=[.ref g]/\GameAt C H g a b d p/\H a=some (.tup (ns.map V.str))/\ns.length<=6/\H b=some (.tup tv)/\TreesAt H tv ts/\ts.length<=10/\(∀t∈ts,t.ok ns/\t.depth<=12)/\
 ∀(l:Addr)(H':Hp),H l=none->Same H H'->H' l=some (.lst ((ts.map fun t=>(cnt t ns:Int)).map V.int))->Q (.ref l) H'
theorem qt:FnScope ["game"] ["game"] (af eg):=⟨rfl,rfl,rfl,by decide +kernel,rfl,by decide +kernel,by decide +kernel⟩
theorem qR {f C:Addr} {fd:FuncData} (F:Fun K "counts_of" "counts_of" eg f fd) (T:GTxt K mg C) (kg:Cal P w K mg base 15 "count_of" ["tree","switches"] vW):FnOk P w K mg base CX0 16 f fd ["game"] (rQ C):=by
 refine F.ok qt (fun vs H Q E h=>?_) (fun cdv A outer s H vs Q E hr h=>?_)
 . obtain⟨g,a,b,d,ns,tv,ts,p,rfl,_⟩:=h;rfl
 obtain ⟨g,a,b,d,ns,tv,ts,p,rfl,⟨dx,hg⟩,ha,nl,hb,TS,t10,tok,q⟩:=h;refine⟨_,(ag (aD (dM (N:=["game"]) (ix:=[0]) rfl
  (CompScope.one (by with_unfolding_all rfl) (by decide) rfl (by decide) rfl (by decide +kernel) (by with_unfolding_all rfl) (by with_unfolding_all rfl) (by with_unfolding_all rfl) rfl rfl) rfl
  (iQ (au (pv 0) rfl)) (fun _ _ _=>eE (aJ kg hr (by decide) rfl (aa (pv 0) (aa (jz K (pv 1)) ae))))))),?_⟩
 have vl:=TS.length;refine⟨_,rfl,g,C,dx,_,_,rfl,hg,T.cl,T.nT,kG ..,b,rfl,⟨_,zE0 hb⟩,fun D hD=>?_⟩;refine hZ (K:=K) (xs:=tv) (fun i H'=>H' D=some (.lst (((ts.take i).map fun t=>(cnt t ns:Int)).map V.int))/\Same H H') ⟨by rw[am];rfl,zD0 hD _⟩ (fun i H' _ h=>zE0 (h.2 _ _ hb)) ?_ ?_
 . rintro i z H2 hz ⟨hl,S2⟩;obtain⟨t,ht,Tt⟩:=TS.get hz;obtain⟨tk,td⟩:=tok t (qJ0 ht);have hi:i<tv.length:=(zX0 hz).1;refine⟨_,rfl,_,rfl,g,C,dx,_,_,rfl,S2 _ _ hg,T.cl,T.nS,lZ ..,z,t,a,ns,rfl,Tt.mono (bp S2),tk,td,.inr (S2 _ _ ha),nl,fun H3 S3=>?_⟩;refine⟨_,S3 _ _ hl,?_,Nx.of hi ⟨?_,fun b' o' e'=>?_⟩⟩
   . rw[zG0,zG0,qN0];exact bi (by omega)
   . rw[am,qQ0,ht,zM0,zM0];rfl
   . rw[aq (aN e' hD)];exact S3 _ _ (S2 _ _ e')
 . rintro H2 ⟨hl,S2⟩;rw[vl,qR0]at hl;exact q D H2 hD S2 hl
def gq(s:Int):List Int->Int
 | []=>0
 | a::r=>a+s*gq s r
theorem kE(s p:Int):∀ns,hor s p ns=gq s ns % p
 | []=>(Int.zero_emod p).symm
 | a::r=>by
   show(hor s p r*s+a) % p=(a+s*gq s r) % p;rw[kE s p r,Int.add_emod,Int.mul_emod,Int.emod_emod,←Int.mul_emod,←Int.add_emod,Int.mul_comm,Int.add_comm]
theorem kd:∀(n:Nat)(s:List Int),s∈bL n->∀x∈s,x=0∨x=1
 | 0,s,h,x,hx=>by
   have:s=[]:=by simpa [bL]using h
   subst this;cases hx
 | n+1,s,h,x,hx=>by
   rw[bL,List.mem_flatMap]at h;obtain⟨t,ht,hs⟩:=h
   simp at hs
   rcases hs with rfl | rfl
   . rcases qL0 hx with h | h
     . exact kd n t ht x h
     . exact .inl (zT0 h)
   . rcases qL0 hx with h | h
     . exact kd n t ht x h
     . exact .inr (zT0 h)
theorem mJ{K:W.Frag}{H1:Hp}{a b:Addr}{xs ys:List Int}{Q:VK}(ha:H1 a=some (.tup (xs.map V.int)))(hb:H1 b=some (.tup (ys.map V.int)))(hl:xs.length+ys.length<=100)
 (q:∀t H2,Same H1 H2->H2 t=some (.tup ((xs++ys).map V.int))->Q (.ref t) H2):sk K (.ref a) (.ref b) H1 Q∨ny K (.ref a) (.ref b) H1 Q:=by
 cases xs with
 | nil=>exact .inr ⟨a,b,_,rfl,rfl,zE0 ha,zE0 hb,q b H1 (Same.refl _) hb⟩
 | cons x r=>
   refine .inl ⟨a,b,_,_,rfl,rfl,zE0 ha,zE0 hb,by simp,eC (by simp at hl ⊢;omega),(fun z=>?_),(fun _ t ht=>q t _ (zD0 ht _) ?_)⟩
   . cases ys with
     | nil=>
       refine q a H1 (Same.refl _) ?_;rw[List.append_nil];exact ha
     | cons y r2=>exact nomatch z
   . rw[am,zM0]
def cP(ns:List Str)(ts:List Tr)(s p:Int)(pt:List Int):Int:=((bL (ns.length-pt.length)).map fun st=>gq s (ts.map fun t=>t.worth ns (pt++st) p)).sum % p
theorem vK{α:Type}(p:Int)(f:α->Int):∀l:List α,(l.map fun x=>f x % p).sum % p=(l.map f).sum % p
 | []=>rfl
 | a::r=>by
   rw[zS0,zS0,List.sum_cons,List.sum_cons,Int.add_emod,Int.emod_emod,vK p f r,←Int.add_emod]
theorem vJ{α:Type}{p:Int}(hp:0<p)(f:α->Int)(h:∀x,0<=f x/\f x<p):∀l:List α,0<=(l.map f).sum/\(l.map f).sum<=p*l.length
 | []=>⟨Int.le_refl 0,by simp⟩
 | a::r=>by
   have h1:=h a;have h2:=vJ hp f h r;rw[zS0,List.sum_cons,qC0];refine⟨by omega,?_⟩
   have:p*((r.length+1:Nat):Int)=p*(r.length:Int)+p:=by
    rw[Int.natCast_add,Int.mul_add]
    simp
   omega
theorem so{a b:List Int}{p:Int}(h:cg a p)(h2:cg b p):cg (a++b) p:=fun x hx=>by
 rcases qL0 hx with e | e
 . exact h x e
 . exact h2 x e
theorem pt01{a b:List Int}{p:Int}(h:cg a p)(p1:1<p)(h2:∀x∈b,x=0∨x=1):cg (a++b) p:=so h fun x hx=>by rcases h2 x hx with e | e <;> omega
theorem mx{X:Cx}(K:W.Frag)(hK:X.K=K:=by rfl):OpR X (binaryOp .Add) (fun x y H Q=>sk K x y H Q∨ny K x y H Q):=by subst hK;exact op_catT.or ky
theorem tE{ts:List Tr}{x:Str}(h0:ts≠[]):0<=bd ts x:=by
 have:=iT (ns:=ts.map fun t=>(t.names.count x:Int)) (by simpa using h0)
 obtain⟨t,ht,e⟩:=List.mem_map.mp this;unfold bd;rw[←e];exact Int.natCast_nonneg _
def fX(ns:List Str)(ts:List Tr)(s p:Int)(cs:List Int)(n:Nat):List Int:=(List.range n).map fun k:Nat=>cP ns ts s p (cs++[(k:Int)])
theorem DX{ns:List Str}{ts:List Tr}{s p d:Int}{cs:List Int}{i:Nat}(hi:i<(d+1).toNat)(h:d<=500):((fX ns ts s p cs i).map V.int).length<sizeLine:=by
 unfold fX;rw[zG0,zG0,qO0];exact bi (by omega)
theorem ptI{a:List Int}{p d:Int}{i:Nat}(h:cg a p)(hi:i<(d+1).toNat)(hd:d<p):cg (a++[(i:Int)]) p:=so h fun x hx=>by
 rw[zT0 hx];omega
theorem cat1{n k:Nat}(h:n<k)(h6:k<=6):n+([(0:Int)]:List Int).length<=100/\n+1<=k:=by
 rw[qH0];omega
theorem s64{n k:Nat}(h6:n<=6):(bL (n-(k+1))).length<=64:=by
 have s64:=jg (n-(k+1));have p64:=lm (n:=n-(k+1)) (by omega);omega
theorem DW{α:Type}{f:α->Int}{l:List α}{j:Nat}(h:l.length<=64):(((l.take j).map f).map V.int).length<sizeLine:=by
 rw[zG0,zG0,qN0];exact bi (by omega)
theorem sum63{p x:Int}{n:Nat}(p0:0<p)(p40:p<2 ^ 40)(h:n<=64)(hx:x<=p*(n:Int)):x<2 ^ 63:=by
 have:p*(n:Int)<=p*64:=qX0 (by omega) (by omega)
 omega
def zf(C:Addr):Sp:=fun vs H Q _=>∃(g a b d c:Addr)(ns:List Str)(tv:List V)(ts:List Tr)(cs:List Int)(x:Str)(s p:Int),vs=[.ref g,.int s,.ref c]/\GameAt C H g a b d p/\H a=some (.tup (ns.map V.str))/\ns.length<=6/\H b=some (.tup tv)/\TreesAt H tv ts/\ts≠[]/\ts.length<=10/\(∀t∈ts,t.ok ns/\t.depth<=10)/\
 H d=some (.lst ((ns.map (bd ts)).map V.int))/\H c=some (.tup (cs.map V.int))/\ns[cs.length]?=some x/\bd ts x<p/\bd ts x<=500/\cg cs p/\1<p/\p<2 ^ 40/\
 ∀(l:Addr)(H':Hp),H l=none->Same H H'->H' l=some (.lst ((fX ns ts s p cs (bd ts x+1).toNat).map V.int))->Q (.ref l) H'
theorem eJ:FnScope ["game","s","coins","ahead","switch","behind","row","x","worths"] ["game","s","coins"] (af eU):=⟨rfl,rfl,rfl,by decide +kernel,rfl,by decide +kernel,by decide +kernel⟩
theorem sA {f fW C:Addr} {fd fdW:FuncData} (F:Fun K "true_row" "true_row" eU f fd) (B:Bl mg) (T:GTxt K mg C) (mW:Meth K C "worth_at" fW) (GW:FnOk P w K mg base CX0 13 fW fdW ["self","point","s"] (zc C)) (bW:Binds K fdW ["self","point","s"] []) (cF:Cal P w K mg base 1 "all_settings" ["n"] qd):FnOk P w K mg base CX0 14 f fd ["game","s","coins"] (zf C):=by
 refine F.ok eJ (fun vs H Q E h=>?_) (fun cdv A outer s H vs Q E hr h=>?_)
 . obtain⟨g,a,b,d,c,ns,tv,ts,cs,x,s,p,rfl,_⟩:=h;rfl
 obtain ⟨g,a,b,d,c,ns,tv,ts,cs,x,s,p,rfl,⟨dx,hg⟩,ha,nl,hb,TS,tne,t10,tok,hd,hc,hx,dp,d500,po,p1,p40,q⟩:=h;refine⟨_,(ad (ay (i:=3) eJ.nd rfl (Or.inr rfl) (cI cf rfl B.tuple cL (aa (pv 2) ae)))
  (ad (ay (i:=4) eJ.nd rfl (Or.inl rfl) (aO aM rfl B.len PySem.boot_len (aa (pv 3) ae)))
  (ad (ay (i:=5) eJ.nd rfl (Or.inl rfl) (aJ cF hr (by decide) rfl (aa (ao cj (ao cj (aO aM rfl B.len PySem.boot_len (aa (au (pv 0) rfl) ae)) (pv 4)) ai) ae)))
  (ad (ay (i:=6) eJ.nd rfl (Or.inl rfl) (da ae))
  (ad (dR PassesOwn.never rfl (cv rfl B.range (aa (ao bn (aY ix_list (au (pv 0) rfl) (pv 4) (fun _ _=>rfl)) ai) ae)) (cB (i:=7) eJ.nd rfl (Or.inr rfl)) (ad (qG (i:=8) (N:=["x","s","game","ahead"]) (ix:=[7,1,0,3]) eJ.nd rfl (Or.inl rfl) rfl
   (CompScope.four (by with_unfolding_all rfl) (by decide) rfl (by decide) rfl (by decide +kernel) rfl (by with_unfolding_all rfl) (by with_unfolding_all rfl) (by with_unfolding_all rfl) (by with_unfolding_all rfl) (by with_unfolding_all rfl) (by with_unfolding_all rfl) rfl rfl (by with_unfolding_all rfl) rfl rfl (by with_unfolding_all rfl) rfl rfl (by with_unfolding_all rfl) rfl rfl) rfl
   (jy (pv 5)) (fun _ _ _=>eE (cZ (pv 3) T.cl mW GW hr bW .nil bY (aa (ao (mx K) (ao (mx K) (pv 4) (bE (aa (pv 1) ae))) (pv 0)) (aa (pv 2) ae)))))
   (ag (bX (kx PySem.F.plainAttrs_list PySem.F.slot_list_append PySem.F.type_list_append fh (pv 6) (aa (ao bh (aO (oM rfl) rfl B.sum PyProof.Rows.boot_sum (aa (pv 8) ae)) (au (pv 0) rfl)) ae))))))
  (ag (aD (pv 6)))))))),?_⟩
 have kl:cs.length<ns.length:=(zX0 hx).1;have d0:=tE (x:=x) tne;have p0:0<p:=Int.lt_trans Int.zero_lt_one p1;refine⟨_,rfl,c,_,rfl,.inr ⟨zE0 hc,?_⟩⟩;have G1:Same H H:=fun _ _ e=>e
 have hah1:=hc;refine⟨_,rfl,c,_,rfl,.inr (zE0 hah1),?_⟩;refine⟨_,rfl,g,C,dx,_,_,rfl,G1 _ _ hg,T.cl,T.nS,lZ ..,a,_,rfl,.inr (zE0 (G1 _ _ ha)),_,rfl,_,_,rfl,rfl,_,_,rfl,rfl,_,rfl,by rw[zG0,zG0];omega,by rw[zG0,zG0];omega,fun r H2 r0 S2 R2=>?_⟩;have en:((((ns.map V.str).length:Nat):Int)-(((cs.map V.int).length:Nat):Int)-1).toNat=ns.length-(cs.length+1):=by rw[zG0,zG0];omega
 rw[en]at R2;obtain⟨rs,hrs,TB⟩:=R2;have rl:=TB.length;refine⟨(by show 0<=sizeLine;decide),fun L hL=>?_⟩;have S02:=G1.trans S2;have GL:=zD0 hL (.lst []);have S03:=S02.trans GL;have L0:H L=none:=S02.free hL;have e1:(((cs.map V.int).length:Nat):Int)=(cs.length:Int):=by rw[zG0]
 refine⟨_,rfl,g,C,dx,_,_,rfl,S03 _ _ hg,T.cl,T.nD,Bc ..,_,rfl,d,_,_,.int (bd ts x),rfl,rfl,zI0 (S03 _ _ hd),?_,_,_,rfl,rfl,_,rfl,by omega,by omega,eB (fun i σ H'=>∃x7 x8:Option V,σ=[some (.ref g),some (.int s),some (.ref c),some (.ref c),some (.int (((cs.map V.int).length:Nat):Int)),some (.ref r),some (.ref L),x7,x8]/\H' L=some (.lst ((fX ns ts s p cs i).map V.int))/\SameBut L H2 H') ⟨_,_,rfl,by rw[am];rfl,SameBut.upd _⟩ ?_ ?_⟩
 . rw[e1];refine cM ?_;rw[qA0,qA0,hx];rfl
 . rintro i σ H4 hi ⟨x7,x8,rfl,hL4,S4⟩;have gL:g≠L:=aN (S02 _ _ hg) hL;have rL:r≠L:=aN hrs hL;have kT:dA H2 H4:=fun c xs h=>S4 c _ (aN h hL) h
   have hg4:=S4 g _ gL (S02 _ _ hg);have hrs4:=S4 r _ rL hrs;have ha4:=kT _ _ (S02 _ _ ha);have hb4:=kT _ _ (S02 _ _ hb);have hah4:=kT _ _ (S2 _ _ hah1);have TS4:=(TS.mono (bp S02)).mono kT;have TB4:=TB.mono kT;refine⟨_,rfl,r,rfl,⟨_,zI0 hrs4⟩,fun D hD=>?_⟩;refine lF (K:=K) (xs:=rs) (fun j H'=>H' D=some (.lst ((((bL (ns.length-(cs.length+1))).take j).map fun st=>hor s p (ts.map fun t=>t.worth ns (cs++[(i:Int)]++st) p)).map V.int))/\Same H4 H') ⟨by rw[am];rfl,zD0 hD _⟩ (fun j H' _ h=>zI0 (h.2 _ _ hrs4)) ?_ ?_
   . rintro j z H5 hz ⟨hD5,S5⟩;obtain⟨st,hst,y,rfl,hy⟩:=(TB4.mono (bp S5)).get hz;have stm:=qJ0 hst;have stl:=ft _ _ stm;have s01:=kd _ _ stm;have hj:j<rs.length:=(zX0 hz).1;have po2:cg (cs++[(i:Int)]++st) p:=pt01 (ptI po hi dp) p1 s01;have pl2:(cs++[(i:Int)]++st).length=ns.length:=by rw[zN0,zN0,qH0];omega
     refine⟨_,rfl,g,dx,_,rfl,S5 _ _ hg4,oA _ _ _ _ (by decide +kernel) (by decide +kernel) (by decide +kernel) (by decide +kernel),?_⟩;refine⟨_,rfl,_,rfl,(by show 1<=sizeLine;decide),fun u hu=>?_⟩;have Gu:=zD0 hu (.tup [.int (0+(i:Int))]);have hu6:upd H5 u (.tup [.int (0+(i:Int))]) u=some (.tup ([(i:Int)].map V.int)):=by rw[am,Int.zero_add];rfl
     generalize upd H5 u (.tup [.int (0+(i:Int))])=H6 at Gu hu6;refine mJ (Gu _ _ (S5 _ _ hah4)) hu6 (cat1 kl nl).1 fun t1 H7 S7 h7=>?_
     refine⟨_,rfl,?_⟩;have S57:=Gu.trans S7;refine mJ h7 (S57 _ _ hy) (by rw[zN0,qH0];omega) fun t2 H8 S8 h8=>?_
     have S48:=S5.trans (S57.trans S8);refine⟨_,rfl,g,a,b,d,t2,ns,tv,ts,_,s,p,rfl,⟨dx,S48 _ _ hg4⟩,p1,p40,S48 _ _ ha4,S48 _ _ hb4,TS4.mono (bp S48),t10,tok,h8,pl2,po2,fun H9 S9=>?_⟩;refine⟨_,S9 _ _ ((S57.trans S8) _ _ hD5),?_,Nx.of hj ⟨?_,fun b' o' e'=>?_⟩⟩
     . exact DW (s64 nl)
     . rw[am,qQ0,hst,zM0,zM0];rfl
     . rw[aq (aN e' hD)];exact S9 _ _ (S48 _ _ e')
   rintro H5 ⟨hD5,S5⟩;rw[rl,qR0]at hD5;have hor_r:=fun st:List Int=>jF (s:=s) (p:=p) p0 (ts.map fun t=>t.worth ns (cs++[(i:Int)]++st) p)
   have sr:=vJ (p:=p) p0 (fun st:List Int=>hor s p (ts.map fun t=>t.worth ns (cs++[(i:Int)]++st) p)) hor_r (bL (ns.length-(cs.length+1)));have hL5:=S5 _ _ hL4;refine⟨_,rfl,.inl ⟨rfl,_,zI0 hL5⟩,_,rfl,D,_,rfl,zI0 hD5,?_,?_,?_⟩
   . intro n hn;obtain⟨st,_,rfl⟩:=List.mem_map.mp hn;exact(hor_r st).1
   . exact sum63 p0 p40 (s64 nl) sr.2
   refine⟨_,rfl,g,C,dx,_,_,rfl,S5 _ _ hg4,T.cl,T.nF,gu ..,_,_,rfl,rfl,p0,L,_,_,rfl,rfl,hL5,?_,?_⟩
   . exact DX hi d500
   . refine ⟨_,_,rfl,?_,fun c o hc e=>?_⟩
     . rw [am];unfold fX;rw[List.range_succ,zM0,zM0];have e2:((bL (ns.length-(cs.length+1))).map fun st=>hor s p (ts.map fun t=>t.worth ns (cs++[(i:Int)]++st) p)).sum % p=cP ns ts s p (cs++[(i:Int)]):=by
        unfold cP;rw[zN0,qH0,show(fun st:List Int=>hor s p (ts.map fun t=>t.worth ns (cs++[(i:Int)]++st) p))=fun st=>gq s (ts.map fun t=>t.worth ns (cs++[(i:Int)]++st) p) % p from funext fun st=>kE _ _ _];exact vK p (fun st:List Int=>gq s (ts.map fun t=>t.worth ns (cs++[(i:Int)]++st) p)) _
       show some (HO.lst (_++[V.int (((bL (ns.length-(cs.length+1))).map fun st=>hor s p (ts.map fun t=>t.worth ns (cs++[(i:Int)]++st) p)).sum % p)]))=_;rw[e2];rfl
     . rw[aq hc];exact S5 _ _ (S4 c o hc e)
 . rintro σ H4 ⟨x7,x8,rfl,hL4,S4⟩;exact⟨_,rfl,q L H4 L0 (S02.but L0 S4) hL4⟩
theorem neS{a b:Str}(h:¬ a=b):¬ V.str a=V.str b:=fun z=>h (V.str.inj z)
open Classical in
noncomputable def Ey(p a:Int):Int:=if h:∃g:Int,0<g/\g<p/\g*a % p=1 then h.choose else 0
theorem AX{p a g k:Int}(g0:0<g)(g1:g<p)(hg:g*a % p=1)(k0:0<k)(k1:k<p)(hk:k*a % p=1):g=k:=by
 have e1:g*(k*a) % p=g:=by
  rw[Int.mul_emod,hk,Int.mul_one,Int.emod_emod,qP0 (by omega) g1]
 have e2:k*(g*a) % p=k:=by
  rw[Int.mul_emod,hg,Int.mul_one,Int.emod_emod,qP0 (by omega) k1]
 have e3:g*(k*a) % p=k*(g*a) % p:=by rw[Int.mul_left_comm]
 exact e1.symm.trans (e3.trans e2)
theorem CJ{p a g:Int}(g0:0<g)(g1:g<p)(hg:g*a % p=1):Ey p a=g:=by
 have h:∃g:Int,0<g/\g<p/\g*a % p=1:=⟨g,g0,g1,hg⟩
 unfold Ey;rw[dif_pos h];obtain⟨k0,k1,hk⟩:=h.choose_spec;exact AX k0 k1 hk g0 g1 hg
noncomputable def vt(p x y:Int):Int:=if y=0 then 0 else x*Ey p y % p
noncomputable def opV(p:Int)(s:Str)(x y:Int):Int:=
 if s="+" then(x+y) % p else if s="-" then(x-y) % p else if s="*" then x*y % p else if s="/" then vt p x y else if s="=" then(if x=y then 1 else 0)else if x<y then 1 else 0
theorem Bs{p x y:Int}(hp:0<p):0<=vt p x y/\vt p x y<p:=by
 unfold vt
 split
 . omega
 . exact⟨zU0 _ (by omega),zY0 _ hp⟩
theorem Cq{p x y:Int}{s:Str}(hp:1<p):0<=opV p s x y/\opV p s x y<p:=by
 have m:∀z:Int,0<=z % p/\z % p<p:=fun z=>⟨zU0 _ (by omega),zY0 _ (by omega)⟩
 unfold opV
 split
 . exact m _
 . split
   . exact m _
   . split
     . exact m _
     . split
       . exact Bs (by omega)
       . split <;> split <;> omega
def Dk:Sp:=fun vs H Q _=>∃(x y p:Int),vs=[.int x,.int y,.int p]/\Pr p/\p<=999983/\0<=x/\x<p/\0<=y/\y<p/\Q (.int (vt p x y)) H
theorem ur:FnScope ["first","second","p"] ["first","second","p"] (af gg):=⟨rfl,rfl,rfl,by decide +kernel,rfl,by decide +kernel,by decide +kernel⟩
theorem uI {f:Addr} {fd:FuncData} (F:Fun K "divided" "divided" gg f fd) (eK:Cal P w K mg base 1 "inverse_of" ["a","p"] zj):FnOk P w K mg base CX0 2 f fd ["first","second","p"] Dk:=by
 refine F.ok ur (fun vs H Q E h=>?_) (fun cdv A outer s H vs Q E hr h=>?_)
 . obtain⟨x,y,p,rfl,_⟩:=h;rfl
 obtain ⟨x,y,p,rfl,pp,p9,x0,x1,y0,y1,q⟩:=h;refine⟨_,(ad (aR (ax bb (pv 1) ai (aF _)) (ag (aD ai)) aG)
  (ag (aD (ao bh (ao cq (pv 0) (aJ eK hr (by decide) rfl (aa (pv 1) (aa (pv 2) ae)))) (pv 2))))),?_⟩
 unfold vt at q;refine⟨_,rfl,rfl,_,rfl,?_⟩
 by_cases c:y=0
 . rw[zB0 c]at q;exact bz (congrArg V.int c) q
 . rw[zA0 c]at q;refine aI (fun z=>c (V.int.inj z)) ?_;refine⟨_,rfl,_,rfl,_,rfl,y,p,rfl,pp,p9,by omega,y1,fun g g0 g1 hg=>?_⟩;rw[CJ g0 g1 hg]at q;exact⟨_,_,rfl,rfl,.inl ⟨by omega,by omega⟩,_,rfl,_,_,rfl,rfl,(by show 0<p;omega),q⟩
def zz:List Str:=["+","-","*","/","=","<"]
def DT:Sp:=fun vs H Q _=>∃(s:Str)(x y p:Int),vs=[.str s,.int x,.int y,.int p]/\s∈zz/\Pr p/\p<=999983/\0<=x/\x<p/\0<=y/\y<p/\Q (.int (opV p s x y)) H
theorem rW:FnScope ["sign","first","second","p"] ["sign","first","second","p"] (af eX):=⟨rfl,rfl,rfl,by decide +kernel,rfl,by decide +kernel,by decide +kernel⟩
theorem opV_1 {p x y:Int}:opV p "+" x y=(x+y) % p:=zB0 rfl
theorem opV_2 {p x y:Int}:opV p "-" x y=(x-y) % p:=by unfold opV;rw[zA0 (by decide +kernel),zB0 rfl]
theorem opV_3 {p x y:Int}:opV p "*" x y=x*y % p:=by unfold opV;rw[zA0 (by decide +kernel),zA0 (by decide +kernel),zB0 rfl]
theorem opV_4 {p x y:Int}:opV p "/" x y=vt p x y:=by unfold opV;rw[zA0 (by decide +kernel),zA0 (by decide +kernel),zA0 (by decide +kernel),zB0 rfl]
theorem opV_5 {p x y:Int}:opV p "=" x y=if x=y then 1 else 0:=by unfold opV;rw[zA0 (by decide +kernel),zA0 (by decide +kernel),zA0 (by decide +kernel),zA0 (by decide +kernel),zB0 rfl]
theorem opV_6 {p x y:Int}:opV p "<" x y=if x<y then 1 else 0:=by unfold opV;rw[zA0 (by decide +kernel),zA0 (by decide +kernel),zA0 (by decide +kernel),zA0 (by decide +kernel),zA0 (by decide +kernel)]
theorem sC {f:Addr} {fd:FuncData} (F:Fun K "op_value" "op_value" eX f fd) (m8:Cal P w K mg base 2 "divided" ["first","second","p"] Dk):FnOk P w K mg base CX0 3 f fd ["sign","first","second","p"] DT:=by
 refine F.ok rW (fun vs H Q E h=>?_) (fun cdv A outer s H vs Q E hr h=>?_)
 . obtain⟨s,x,y,p,rfl,_⟩:=h;rfl
 obtain⟨s,x,y,p,rfl,hs,pp,p9,x0,x1,y0,y1,q⟩:=h;have p0:0<p:=by omega
 refine ⟨_,(ad (aR (ax bb (pv 0) aV (aF _)) (ag (aD (ao bh (ao bn (pv 1) (pv 2)) (pv 3)))) aG)
  (ad (aR (ax bb (pv 0) aV (aF _)) (ag (aD (ao bh (ao cj (pv 1) (pv 2)) (pv 3)))) aG)
  (ad (aR (ax bb (pv 0) aV (aF _)) (ag (aD (ao bh (ao cq (pv 1) (pv 2)) (pv 3)))) aG)
  (ad (aR (ax bb (pv 0) aV (aF _)) (ag (aD (aJ m8 hr (by decide) rfl (aa (pv 1) (aa (pv 2) (aa (pv 3) ae)))))) aG)
  (ad (aR (ax bb (pv 0) aV (aF _)) (ag (aD (sv (ax bb (pv 1) (pv 2) (aF _)) ai ai))) aG)
  (ag (aD (sv (ax iS (pv 1) (pv 2) (aF _)) ai ai)))))))),?_⟩
 have hs':s="+"∨s="-"∨s="*"∨s="/"∨s="="∨s="<":=by simpa [zz]using hs
 rcases hs' with rfl | rfl | rfl | rfl | rfl | rfl
 . rw[opV_1]at q;refine⟨_,rfl,rfl,_,rfl,bz rfl ?_⟩;exact⟨_,rfl,_,rfl,_,_,rfl,rfl,_,rfl,_,_,rfl,rfl,p0,q⟩
 . rw[opV_2]at q;refine⟨_,rfl,rfl,_,rfl,aI (neS (by decide +kernel)) ?_⟩;refine⟨_,rfl,rfl,_,rfl,bz rfl ?_⟩;exact⟨_,rfl,_,rfl,_,_,rfl,rfl,_,rfl,_,_,rfl,rfl,p0,q⟩
 . rw[opV_3]at q;refine⟨_,rfl,rfl,_,rfl,aI (neS (by decide +kernel)) ?_⟩;refine⟨_,rfl,rfl,_,rfl,aI (neS (by decide +kernel)) ?_⟩;refine⟨_,rfl,rfl,_,rfl,bz rfl ?_⟩;exact⟨_,rfl,_,rfl,_,_,rfl,rfl,.inl ⟨by omega,by omega⟩,_,rfl,_,_,rfl,rfl,p0,q⟩
 . rw[opV_4]at q;refine⟨_,rfl,rfl,_,rfl,aI (neS (by decide +kernel)) ?_⟩;refine⟨_,rfl,rfl,_,rfl,aI (neS (by decide +kernel)) ?_⟩;refine⟨_,rfl,rfl,_,rfl,aI (neS (by decide +kernel)) ?_⟩;refine⟨_,rfl,rfl,_,rfl,bz rfl ?_⟩;exact⟨_,rfl,_,rfl,_,rfl,x,y,p,rfl,pp,p9,x0,x1,y0,y1,q⟩
 . rw [opV_5]at q;refine⟨_,rfl,rfl,_,rfl,aI (neS (by decide +kernel)) ?_⟩;refine⟨_,rfl,rfl,_,rfl,aI (neS (by decide +kernel)) ?_⟩;refine⟨_,rfl,rfl,_,rfl,aI (neS (by decide +kernel)) ?_⟩;refine⟨_,rfl,rfl,_,rfl,aI (neS (by decide +kernel)) ?_⟩;refine⟨_,rfl,rfl,_,rfl,bz rfl ?_⟩;refine⟨_,rfl,_,rfl,rfl,_,rfl,?_⟩
   by_cases c:x=y
   . rw[zB0 c]at q;exact bz (congrArg V.int c) q
   . rw[zA0 c]at q;exact aI (fun z=>c (V.int.inj z)) q
 . rw [opV_6]at q;refine⟨_,rfl,rfl,_,rfl,aI (neS (by decide +kernel)) ?_⟩;refine⟨_,rfl,rfl,_,rfl,aI (neS (by decide +kernel)) ?_⟩;refine⟨_,rfl,rfl,_,rfl,aI (neS (by decide +kernel)) ?_⟩;refine⟨_,rfl,rfl,_,rfl,aI (neS (by decide +kernel)) ?_⟩;refine⟨_,rfl,rfl,_,rfl,aI (neS (by decide +kernel)) ?_⟩;refine⟨_,rfl,_,rfl,_,_,rfl,rfl,_,rfl,?_⟩
   by_cases c:x<y
   . rw[zB0 c]at q;exact bz c q
   . rw[zA0 c]at q;exact aI c q
theorem qF{X:Cx}{ss:List Stmt}{t t':TS}(h:PSs X ss t)(hw:∀D σ H,t' D σ H->t D σ H):PSs X ss t':=fun pins s σ H D I k=>h pins s σ H D I (hw _ _ _ k)
inductive Tm where
 | num (n:Int) | box (x:Str) | plain (w:Str) | ask (w:Str) (a:Tm) | op (s:Str) (a b:Tm)
def Tm.depth:Tm->Nat
 | .num _=>1 | .box _=>1 | .plain _=>1 | .ask _ a=>a.depth+1 | .op _ a b=>max a.depth b.depth+1
theorem Tm.depth_pos:∀t:Tm,1<=t.depth
 | .num _=>zF0 _ | .box _=>zF0 _ | .plain _=>zF0 _ | .ask _ a=>Nat.le_add_left .. | .op _ a b=>Nat.le_add_left ..
def zY:List Str:=["round","due","asked"]
def askW:List Str:=["coin","true"]
inductive TmAt(H:Hp):V->Tm->Prop
 | num {a:Addr} {n:Int}:H a=some (.tup [.str "num",.int n])->TmAt H (.ref a) (.num n)
 | box {a:Addr} {x:Str}:H a=some (.tup [.str "box",.str x])->TmAt H (.ref a) (.box x)
 | plain {a:Addr} {w:Str}:H a=some (.tup [.str w])->TmAt H (.ref a) (.plain w)
 | ask {a:Addr} {w:Str} {v:V} {t:Tm}:H a=some (.tup [.str w,v])->TmAt H v t->TmAt H (.ref a) (.ask w t)
 | op {a:Addr} {s:Str} {v u:V} {t r:Tm}:H a=some (.tup [.str "op",.str s,v,u])->TmAt H v t->TmAt H u r->TmAt H (.ref a) (.op s t r)
theorem TmAt.mono{H H':Hp}(k:dA H H'){v:V}{t:Tm}(h:TmAt H v t):TmAt H' v t:=by
 induction h with
 | num e=>exact .num (k _ _ e)
 | box e=>exact .box (k _ _ e)
 | plain e=>exact .plain (k _ _ e)
 | ask e _ ih=>exact .ask (k _ _ e) ih
 | op e _ _ i1 i2=>exact .op (k _ _ e) i1 i2
inductive Hr where
 | fin | go (n:Int) | iff (t:Tm) (n:Int) | set (x:Str) (t:Tm) | say (t:Tm)
inductive HrAt(H:Hp):V->Hr->Prop
 | fin {a:Addr}:H a=some (.tup [.str "end"])->HrAt H (.ref a) .fin
 | go {a:Addr} {n:Int}:H a=some (.tup [.str "go",.int n])->HrAt H (.ref a) (.go n)
 | iff {a:Addr} {v:V} {t:Tm} {n:Int}:H a=some (.tup [.str "if",v,.int n])->TmAt H v t->HrAt H (.ref a) (.iff t n)
 | set {a:Addr} {x:Str} {v:V} {t:Tm}:H a=some (.tup [.str "set",.str x,v])->TmAt H v t->HrAt H (.ref a) (.set x t)
 | say {a:Addr} {v:V} {t:Tm}:H a=some (.tup [.str "say",v])->TmAt H v t->HrAt H (.ref a) (.say t)
theorem HrAt.mono{H H':Hp}(k:dA H H'){v:V}{r:Hr}(h:HrAt H v r):HrAt H' v r:=by
 cases h with
 | fin e=>exact .fin (k _ _ e)
 | go e=>exact .go (k _ _ e)
 | iff e t=>exact .iff (k _ _ e) (t.mono k)
 | set e t=>exact .set (k _ _ e) (t.mono k)
 | say e t=>exact .say (k _ _ e) (t.mono k)
section
variable {CM CA CG:Addr}
abbrev jv:Stmt:=bJ iN 0
abbrev gZ:Stmt:=bJ iN 1
abbrev jw:Stmt:=bJ iN 2
abbrev gi:Stmt:=bJ iN 3
abbrev ju:Stmt:=bJ iN 4
abbrev jk:Stmt:=bJ jm 0
abbrev lc:Stmt:=bJ jm 1
abbrev lg:Stmt:=bJ jm 2
def al (g:Addr) (nr mn hd s:Int) (aT:Addr) (tr:V):List (Str×V):=[("game",.ref g),("number",.int nr),("many",.int mn),("held",.int hd),("s",.int s),("tossed",.ref aT),("truths",tr)]
theorem rm {g:Addr} {nr mn hd s:Int} {aT:Addr} {tr:V}:(al g nr mn hd s aT tr).lookup ("game":Str)=some (.ref g):=by with_unfolding_all rfl
structure ATxt(K:W.Frag)(mg:Str->Option Value)(C:Addr):Prop where
 cl:Cls K C
 nG:NoAttr K C "game"
 nN:NoAttr K C "number"
 nM:NoAttr K C "many"
 nH:NoAttr K C "held"
 nS:NoAttr K C "s"
 nT:NoAttr K C "tossed"
 nR:NoAttr K C "truths"
 mgC:mg "Asking"=some (.ref C)
def ml (g h:Addr) (r:Int) (b:Addr):List (Str×V):=[("game",.ref g),("helper",.ref h),("next_round",.int r),("boxes",.ref b)]
section
variable {g h b:Addr} {r:Int}
theorem ml_g:(ml g h r b).lookup ("game":Str)=some (.ref g):=by with_unfolding_all rfl
theorem CC:(ml g h r b).lookup ("helper":Str)=some (.ref h):=by with_unfolding_all rfl
theorem Eo:(ml g h r b).lookup ("next_round":Str)=some (.int r):=by with_unfolding_all rfl
theorem AL:(ml g h r b).lookup ("boxes":Str)=some (.ref b):=by with_unfolding_all rfl
theorem ml_n1:(ml g h r b).lookup ("do_row":Str)=none:=by with_unfolding_all rfl
theorem ml_n2:(ml g h r b).lookup ("say":Str)=none:=by with_unfolding_all rfl
theorem uU:(ml g h r b).length<1000:=by show 4<1000;decide
theorem AJ {v:Int}:bK "next_round" (.int v) (ml g h r b)=ml g h v b:=by with_unfolding_all rfl
end
structure MTxt(K:W.Frag)(mg:Str->Option Value)(C:Addr):Prop where
 cl:Cls K C
 nG:NoAttr K C "game"
 nH:NoAttr K C "helper"
 nR:NoAttr K C "next_round"
 nB:NoAttr K C "boxes"
 mgC:mg "Machine"=some (.ref C)
def BxAt(H:Hp)(b:Addr)(bx:Str->Int)(m:Nat):Prop:=∃kvs:List (Key×V),H b=some (.dK kvs)/\kvs.length<=m/\∀x:Str,(gm kvs (.inr x)).getD (.int 0)=.int (bx x)
def iB(bx:Str->Int)(x:Str)(n:Int):Str->Int:=fun y=>if y=x then n else bx y
theorem BxAt.keep{H H':Hp}{b:Addr}{bx:Str->Int}{m:Nat}(h:BxAt H b bx m)(k:∀o,H b=some o->H' b=some o):BxAt H' b bx m:=by
 obtain⟨kvs,e,r⟩:=h;exact⟨kvs,k _ e,r⟩
theorem EX{kvs:List (Key×V)}{bx:Str->Int}(x:Str)(n:Int)(h:∀x:Str,(gm kvs (.inr x)).getD (.int 0)=.int (bx x)):∀y:Str,(gm (km kvs (.inr x) (.int n)) (.inr y)).getD (.int 0)=.int (iB bx x n y):=fun y=>by
 rw[yO];unfold iB
 by_cases c:y=x
 . rw[zB0 (by rw[c]),zB0 c];rfl
 . rw[zA0 (fun z=>c (Sum.inr.inj z)),zA0 c];exact h y
section
variable {g aT:Addr} {nr mn hd s:Int} {tr:V}
theorem Fc:(al g nr mn hd s aT tr).lookup ("number":Str)=some (.int nr):=by with_unfolding_all rfl
theorem al_m:(al g nr mn hd s aT tr).lookup ("many":Str)=some (.int mn):=by with_unfolding_all rfl
theorem al_h:(al g nr mn hd s aT tr).lookup ("held":Str)=some (.int hd):=by with_unfolding_all rfl
theorem al_s:(al g nr mn hd s aT tr).lookup ("s":Str)=some (.int s):=by with_unfolding_all rfl
theorem al_t:(al g nr mn hd s aT tr).lookup ("tossed":Str)=some (.ref aT):=by with_unfolding_all rfl
theorem CU:(al g nr mn hd s aT tr).lookup ("truths":Str)=some tr:=by with_unfolding_all rfl
theorem al_n1:(al g nr mn hd s aT tr).lookup ("plain_value":Str)=none:=by with_unfolding_all rfl
theorem al_n2:(al g nr mn hd s aT tr).lookup ("coin_at":Str)=none:=by with_unfolding_all rfl
theorem al_n3:(al g nr mn hd s aT tr).lookup ("true_numbers":Str)=none:=by with_unfolding_all rfl
theorem al_n4:(al g nr mn hd s aT tr).lookup ("true_at":Str)=none:=by with_unfolding_all rfl
theorem BC {v:V}:bK "truths" v (al g nr mn hd s aT tr)=al g nr mn hd s aT v:=by with_unfolding_all rfl
theorem BD:(al g nr mn hd s aT tr).length<1000:=by show 7<1000;decide
end
structure Ak where
 ns:List Str
 ts:List Tr
 p:Int
 nr:Int
 mn:Int
 hd:Int
 s:Int
 to:List Int
def Ak.tru (z:Ak):List Int:=if z.nr=0 then z.ts.map (fun t=>(cnt t z.ns:Int))else fX z.ns z.ts z.s z.p z.to (bd z.ts (z.ns.getD z.to.length "")+1).toNat
structure AkOk(z:Ak):Prop where
 gk:GmK z.ns z.ts z.p
 n6:z.ns.length<=6
 nr0:0<=z.nr
 nrt:0<z.nr->z.to.length<z.ns.length
 po:cg z.to z.p
 s0:0<=z.s
 s1:z.s<z.p
 h0:0<=z.hd
 h1:z.hd<z.p
 tl:z.to.length<=100
def AkAt(CA CG:Addr)(H:Hp)(k g v:Addr)(z:Ak):Prop:=∃(dk aT a b d:Addr)(tv:List V)(tr:V),H k=some (.ins CA dk (al g z.nr z.mn z.hd z.s aT tr))/\GameAt CG H g a b d z.p/\H a=some (.tup (z.ns.map V.str))/\H b=some (.tup tv)/\TreesAt H tv z.ts/\H d=some (.lst ((z.ns.map (bd z.ts)).map V.int))/\d≠v/\H aT=some (.tup (z.to.map V.int))/\(tr=.non∨∃l,tr=.ref l/\l≠v/\H l=some (.lst (z.tru.map V.int)))
theorem AkAt.same{H H':Hp}{k g v:Addr}{z:Ak}(h:AkAt CA CG H k g v z)(s:Same H H'):AkAt CA CG H' k g v z:=by
 obtain⟨dk,aT,a,b,d,tv,tr,h1,h2,h3,h4,h5,h6,h7,h8,h9⟩:=h;exact⟨dk,aT,a,b,d,tv,tr,s _ _ h1,h2.same s,s _ _ h3,s _ _ h4,h5.mono (bp s),s _ _ h6,h7,s _ _ h8,h9.imp_right fun⟨l,e,n,r⟩=>⟨l,e,n,s _ _ r⟩⟩
theorem AkAt.but2{H H':Hp}{k g v b:Addr}{z:Ak}{kvs:List (Key×V)}{ys:List V}(h:AkAt CA CG H k g v z)(hb:H b=some (.dK kvs))(hv:H v=some (.lst ys))(s:∀a o,a≠b->a≠v->H a=some o->H' a=some o):AkAt CA CG H' k g v z:=by
 obtain⟨dk,aT,a,b',d,tv,tr,h1,⟨dg,h2⟩,h3,h4,h5,h6,h7,h8,h9⟩:=h;have T:dA H H':=fun c xs e=>s _ _ (bq e hb (by intro z;cases z)) (bq e hv (by intro z;cases z)) e
 exact⟨dk,aT,a,b',d,tv,tr,s _ _ (bq h1 hb (by intro z;cases z)) (bq h1 hv (by intro z;cases z)) h1,⟨dg,s _ _ (bq h2 hb (by intro z;cases z)) (bq h2 hv (by intro z;cases z)) h2⟩,T _ _ h3,T _ _ h4,h5.mono T,s _ _ (bq h6 hb (by intro z;cases z)) h7 h6,h7,T _ _ h8,h9.imp_right fun⟨l,e,n,r⟩=>⟨l,e,n,s _ _ (bq r hb (by intro z;cases z)) n r⟩⟩
def jO(z:Ak):List Int:=if 1<z.ts.length then z.s::z.to else z.to
def ia(z:Ak)(i:Int):Int:=if 1<=i/\i<=((jO z).length:Int)then(jO z).getD (i-1).toNat 0 else 0
def di(z:Ak)(i:Int):Int:=if 0<z.nr then val z.p z.tru i else if i<(z.tru.length:Int)then z.tru.getD i.toNat 0 % z.p else 0
def lq (z:Ak) (w:Str):Int:=if w="round" then z.nr % z.p else if w="asked" then z.mn % z.p else z.hd
theorem AkOk.p0{z:Ak}(k:AkOk z):2<z.p:=k.gk.p2
theorem oC{p:Int}{xs:List Int}(h:cg xs p)(p0:0<p)(i:Nat):0<=xs.getD i 0/\xs.getD i 0<p:=by
 rw[qI0];cases e:xs[i]? with
 | none=>exact⟨Int.le_refl 0,p0⟩
 | some x=>exact h x (qJ0 e)
theorem Bv{z:Ak}(k:AkOk z):cg (jO z) z.p:=by
 unfold jO
 split
 . intro x hx;rcases qD0 hx with rfl | hx
   . exact⟨k.s0,k.s1⟩
   . exact k.po x hx
 . exact k.po
theorem yz{z:Ak}(k:AkOk z)(i:Int):0<=ia z i/\ia z i<z.p:=by
 have:=k.p0
 unfold ia
 split
 . exact oC (Bv k) (by omega) _
 . omega
theorem xa{z:Ak}(k:AkOk z)(i:Int):0<=di z i/\di z i<z.p:=by
 have:=k.p0
 unfold di
 split
 . exact⟨zU0 _ (by omega),zY0 _ (by omega)⟩
 . split
   . exact⟨zU0 _ (by omega),zY0 _ (by omega)⟩
   . omega
theorem uz{z:Ak}(k:AkOk z)(w:Str):0<=lq z w/\lq z w<z.p:=by
 have:=k.p0
 unfold lq
 split
 . exact⟨zU0 _ (by omega),zY0 _ (by omega)⟩
 . split
   . exact⟨zU0 _ (by omega),zY0 _ (by omega)⟩
   . exact⟨k.h0,k.h1⟩
def vO(CA CG:Addr):Sp:=fun vs H Q _=>∃(k g v:Addr)(z:Ak)(w:Str),vs=[.ref k,.str w]/\AkAt CA CG H k g v z/\0<z.p/\Q (.int (lq z w)) H
theorem xz:FnScope ["self","word"] ["self","word"] (af gZ):=⟨rfl,rfl,rfl,by decide +kernel,rfl,by decide +kernel,by decide +kernel⟩
theorem xR {f:Addr} {fd:FuncData} (F:Fun K "plain_value" "Asking.plain_value" gZ f fd) (TA:ATxt K mg CA) (TG:GTxt K mg CG):FnOk P w K mg base CX0 1 f fd ["self","word"] (vO CA CG):=by
 refine F.ok xz (fun vs H Q E h=>?_) (fun cdv A outer s H vs Q E hr h=>?_)
 . obtain⟨k,g,v,z,w,rfl,_⟩:=h;rfl
 obtain ⟨k,g,v,z,w,rfl,⟨dk,aT,a,b,d,tv,tr,hk,⟨dg,hg⟩,_⟩,p0,q⟩:=h;refine⟨_,(ad (aR (ax bb (pv 1) aV (aF _)) (ag (aD (ao bh (au (pv 0) rfl) (au (au (pv 0) rfl) rfl)))) aG)
  (ad (aR (ax bb (pv 1) aV (aF _)) (ag (aD (ao bh (au (pv 0) rfl) (au (au (pv 0) rfl) rfl)))) aG)
  (ag (aD (au (pv 0) rfl))))),?_⟩
 unfold lq at q;refine⟨_,rfl,rfl,_,rfl,?_⟩
 by_cases c:w="round"
 . rw[zB0 c]at q;refine bz (congrArg V.str c) ?_;exact⟨_,rfl,k,CA,dk,_,_,rfl,hk,TA.cl,TA.nN,Fc,_,rfl,k,CA,dk,_,_,rfl,hk,TA.cl,TA.nG,rm,g,CG,dg,_,_,rfl,hg,TG.cl,TG.nF,gu ..,_,_,rfl,rfl,p0,q⟩
 . rw [zA0 c]at q;refine aI (neS c) ?_;refine⟨_,rfl,rfl,_,rfl,?_⟩
   by_cases c:w="asked"
   . rw[zB0 c]at q;refine bz (congrArg V.str c) ?_;exact⟨_,rfl,k,CA,dk,_,_,rfl,hk,TA.cl,TA.nM,al_m,_,rfl,k,CA,dk,_,_,rfl,hk,TA.cl,TA.nG,rm,g,CG,dg,_,_,rfl,hg,TG.cl,TG.nF,gu ..,_,_,rfl,rfl,p0,q⟩
   . rw[zA0 c]at q;refine aI (neS c) ?_;exact⟨_,rfl,k,CA,dk,_,_,rfl,hk,TA.cl,TA.nH,al_h,q⟩
def rR(CA CG:Addr):Sp:=fun vs H Q _=>∃(k g v:Addr)(z:Ak)(i:Int),vs=[.ref k,.int i]/\AkAt CA CG H k g v z/\z.to.length<=100/\∀H',Same H H'->Q (.int (ia z i)) H'
theorem t8:FnScope ["self","place","tossed"] ["self","place"] (af jw):=⟨rfl,rfl,rfl,by decide +kernel,rfl,by decide +kernel,by decide +kernel⟩
def DQ(z:Ak):TS:=fun Dn σ H=>∃(x0:Option V)(a:Addr)(i:Int),σ=[x0,some (.int i),some (.ref a)]/\H a=some (.tup ((jO z).map V.int))/\Dn.rt (.int (ia z i)) H
theorem Aw {f:Addr} {fd:FuncData} (F:Fun K "coin_at" "Asking.coin_at" jw f fd) (B:Bl mg) (TA:ATxt K mg CA) (TG:GTxt K mg CG):FnOk P w K mg base CX0 1 f fd ["self","place"] (rR CA CG):=by
 refine F.ok t8 (fun vs H Q E h=>?_) (fun cdv A outer s H vs Q E hr h=>?_)
 . obtain⟨k,g,v,z,i,rfl,_⟩:=h;rfl
 obtain ⟨k,g,v,z,i,rfl,⟨dk,aT,a,b,d,tv,tr,hk,⟨dg,hg⟩,ha,hb,TS,_,_,hT,_⟩,tl,q⟩:=h;have vl:=TS.length;refine⟨_,(ad (ay (i:=2) t8.nd rfl (Or.inl rfl) (au (pv 0) rfl))
  (ad (aR (ax oa (aO aM rfl B.len PySem.boot_len (aa (au (au (pv 0) rfl) rfl) ae)) ai (aF _)) (ag (ay (i:=2) t8.nd rfl (Or.inl rfl) (ao op_catT (bE (aa (au (pv 0) rfl) ae)) (pv 2)))) aG)
  (qF (t':=DQ z) (ad (aR (zT sx sx ai (pv 1) (aO aM rfl B.len PySem.boot_len (aa (pv 2) ae))) (ag (aD (aY bc (pv 2) (ao cj (pv 1) ai) (fun _ _=>rfl)))) aG)
  (ag (aD ai))) (by
   rintro Dn σ H ⟨x0,a,i,rfl,ha,q⟩;unfold ia at q;refine⟨_,rfl,_,_,rfl,rfl,_,rfl,?_⟩;have el:(((jO z).map V.int).length:Int)=((jO z).length:Int):=by rw[zG0]
   by_cases c1:1<=i
   . refine bz c1 ?_;refine⟨_,rfl,a,_,rfl,.inr (zE0 ha),_,_,rfl,rfl,_,rfl,?_⟩
     by_cases c2:i<=((jO z).length:Int)
     . rw [zB0 ⟨c1,c2⟩]at q;refine bz (by rw[el];exact c2) ?_;obtain⟨j,ej⟩:∃j:Nat,i-1=(j:Int):=⟨(i-1).toNat,by omega⟩
       rw[ej,qS0]at q;refine⟨_,rfl,_,rfl,_,_,rfl,rfl,a,_,_,_,rfl,rfl,zE0 ha,?_,q⟩;rw[ej];exact qX (by omega)
     . rw[zA0 (fun z=>c2 z.2)]at q;exact aI (by rw[el];exact c2) q
   . rw[zA0 (fun z=>c1 z.1)]at q;exact aI c1 ⟨_,rfl,gx q⟩)))),?_⟩
 refine⟨_,rfl,k,CA,dk,_,_,rfl,hk,TA.cl,TA.nT,al_t,?_⟩;refine⟨_,rfl,k,CA,dk,_,_,rfl,hk,TA.cl,TA.nG,rm,g,CG,dg,_,_,rfl,hg,TG.cl,TG.nT,kG ..,b,_,rfl,.inr (zE0 hb),_,_,rfl,rfl,_,rfl,?_⟩
 by_cases c:1<z.ts.length
 . refine bz (by rw[vl];omega) ?_;have ec:jO z=z.s::z.to:=zB0 c;refine⟨_,rfl,k,CA,dk,_,_,rfl,hk,TA.cl,TA.nS,al_s,(by show 1<=sizeLine;decide),fun t ht=>?_⟩;have I:=zD0 ht (.tup [.int z.s]);have g1:upd H t (.tup [.int z.s]) t=some (.tup [.int z.s]):=am;generalize upd H t (.tup [.int z.s])=H1 at I g1;refine⟨_,rfl,t,aT,_,_,rfl,rfl,zE0 g1,zE0 (I _ _ hT),(fun z=>nomatch z),eC (by show 1+(z.to.map V.int).length<=1000;rw[zG0];omega),fun e=>?_,fun _ y hy=>?_⟩
   . refine⟨_,t,i,rfl,?_,q _ I⟩;rw[ec,g1,zS0,e]
   . refine⟨_,y,i,rfl,?_,q _ (I.trans (zD0 hy _))⟩;rw[am,ec];rfl
 . refine aI (by rw[vl];omega) ?_;have ec:jO z=z.to:=zA0 c;exact⟨_,aT,i,rfl,by rw[ec];exact hT,q _ fun _ _ e=>e⟩
end
section
variable {CM CA CG:Addr}
theorem zL(ns:List Str)(ts:List Tr)(s p:Int)(cs:List Int)(n:Nat):(fX ns ts s p cs n).length=n:=by
 unfold fX;rw[zG0,qO0]
theorem zK{ns:List Str}{ts:List Tr}{s p:Int}{cs:List Int}{n:Nat}(hp:0<p):cg (fX ns ts s p cs n) p:=fun x hx=>by
 unfold fX at hx;obtain⟨k,_,rfl⟩:=List.mem_map.mp hx;exact⟨zU0 _ (by omega),zY0 _ hp⟩
theorem AkOk.deg {z:Ak} (k:AkOk z) (h:0<z.nr):∃x,z.ns[z.to.length]?=some x/\z.ns.getD z.to.length ""=x/\0<=bd z.ts x/\bd z.ts x<z.p/\bd z.ts x<=400:=by
 have hl:=k.nrt h;refine⟨z.ns[z.to.length],zP0 hl,by rw[qI0,zP0 hl];rfl,?_⟩;have hm:=qM0 hl;obtain⟨d0,d1⟩:=k.gk.deg _ hm;refine⟨d0,d1,?_⟩;have t0:z.ts≠[]:=fun e=>by have:=k.gk.t1;rw[e]at this;cases this
 have:=oK (p:=401) (x:=z.ns[z.to.length]) t0 fun t ht=>by
  have h1:=(k.gk.tok t ht).2.2.2;have h2:=t.names_len;have h3:=List.count_le_length (a:=z.ns[z.to.length]) (l:=t.names);omega
 omega
theorem AkOk.row{z:Ak}(k:AkOk z)(h:0<z.nr):jP z.tru z.p:=by
 obtain ⟨x,hx,ex,d0,d1,d4⟩:=k.deg h;have p2:=k.p0;have p9:=k.gk.p9;have e:z.tru=fX z.ns z.ts z.s z.p z.to (bd z.ts x+1).toNat:=by
  unfold Ak.tru;rw[zA0 (by omega),ex]
 rw[e];unfold jP;rw[zL];refine⟨by omega,by omega,by omega,fun j=>?_⟩
 have:=oC (zK (ns:=z.ns) (ts:=z.ts) (s:=z.s) (cs:=z.to) (n:=(bd z.ts x+1).toNat) (show 0<z.p by omega)) (by omega) j
 omega
def rM(CA CG:Addr):Sp:=fun vs H Q _=>∃(k g v:Addr)(z:Ak)(ys:List V),vs=[.ref k]/\AkAt CA CG H k g v z/\AkOk z/\H v=some (.lst ys)/\∀(l:Addr)(H':Hp),H' l=some (.lst (z.tru.map V.int))->AkAt CA CG H' k g v z->SameBut k H H'->Q (.ref l) H'
theorem uu:FnScope ["self"] ["self"] (af gi):=⟨rfl,rfl,rfl,by decide +kernel,rfl,by decide +kernel,by decide +kernel⟩
theorem uK {f:Addr} {fd:FuncData} (F:Fun K "true_numbers" "Asking.true_numbers" gi f fd) (TA:ATxt K mg CA) (jQ:Cal P w K mg base 16 "counts_of" ["game"] (rQ CG)) (ki:Cal P w K mg base 14 "true_row" ["game","s","coins"] (zf CG)):FnOk P w K mg base CX0 17 f fd ["self"] (rM CA CG):=by
 refine F.ok uu (fun vs H Q E h=>?_) (fun cdv A outer s H vs Q E hr h=>?_)
 . obtain⟨k,g,v,z,ys,rfl,_⟩:=h;rfl
 obtain ⟨k,g,v,z,ys,rfl,AK,ok,hv,q⟩:=h;refine⟨_,(ad (aR (ax Aj (au (pv 0) rfl) iR (aF _)) (ag (aR (ax bb (au (pv 0) rfl) ai (aF _)) (ag (aX (pv 0) (aJ jQ hr (by decide) rfl (aa (au (pv 0) rfl) ae)) rfl)) (ag (aX (pv 0) (aJ ki hr (by decide) rfl (aa (au (pv 0) rfl) (aa (au (pv 0) rfl) (aa (au (pv 0) rfl) ae)))) rfl)))) aG)
  (ag (aD (au (pv 0) rfl)))),?_⟩
 have AK':=AK;obtain⟨dk,aT,a,b,d,tv,tr,hk,GA,ha,hb,TS,hd,dv,hT,ht⟩:=AK';have t0:z.ts≠[]:=fun e=>by have:=ok.gk.t1;rw[e]at this;cases this
 have t10:=ok.gk.t10;have p2:=ok.p0;have p9:=ok.gk.p9;refine⟨_,rfl,k,CA,dk,_,_,rfl,hk,TA.cl,TA.nR,CU,?_⟩;rcases ht with rfl | ⟨l,rfl,lv,hl⟩
 . -- not yet asked
   have put:∀(l:Addr)(H1:Hp),H l=none->Same H H1->H1 l=some (.lst (z.tru.map V.int))->AkAt CA CG (upd H1 k (.ins CA dk (al g z.nr z.mn z.hd z.s aT (.ref l)))) k g v z/\(upd H1 k (.ins CA dk (al g z.nr z.mn z.hd z.s aT (.ref l)))) l=some (.lst (z.tru.map V.int))/\SameBut k H (upd H1 k (.ins CA dk (al g z.nr z.mn z.hd z.s aT (.ref l)))):=by
    intro l H1 l0 S1 hl;have lk:l≠k:=(aN hk l0).symm;have U:∀{c:Addr}{o:HO},c≠k->H1 c=some o->(upd H1 k (.ins CA dk (al g z.nr z.mn z.hd z.s aT (.ref l)))) c=some o:=fun n e=>by rw[aq n];exact e
    have gk:g≠k:=fun e=>by
     obtain⟨dg,hg⟩:=GA;rw[e,hk]at hg;cases hg
    have kT:dA H (upd H1 k (.ins CA dk (al g z.nr z.mn z.hd z.s aT (.ref l)))):=fun c xs e=>U (bq e hk (by intro z;cases z)) (S1 _ _ e)
    obtain⟨dg,hg⟩:=GA;exact⟨⟨dk,aT,a,b,d,tv,.ref l,am,⟨dg,U gk (S1 _ _ hg)⟩,kT _ _ ha,kT _ _ hb,TS.mono kT,U (bq hd hk (by intro z;cases z)) (S1 _ _ hd),dv,kT _ _ hT,.inr ⟨l,rfl,(aN hv l0).symm,U lk hl⟩⟩,U lk hl,(zL0 S1).trans (SameBut.upd _)⟩
   refine⟨rfl,_,rfl,jK ?_⟩;refine⟨_,rfl,k,CA,dk,_,_,rfl,hk,TA.cl,TA.nN,Fc,rfl,_,rfl,?_⟩
   by_cases c:z.nr=0
   . refine bz (congrArg V.int c) ?_;refine⟨_,rfl,k,CA,dk,_,_,rfl,hk,TA.cl,TA.nG,rm,g,a,b,d,z.ns,tv,z.ts,z.p,rfl,GA,ha,ok.n6,hb,TS,t10,fun t ht=>⟨(ok.gk.tok t ht).1,by have:=(ok.gk.tok t ht).2.2.1;omega⟩,fun l H1 l0 S1 hl=>?_⟩;have et:z.tru=z.ts.map (fun t=>(cnt t z.ns:Int)):=zB0 c;rw[←et]at hl;obtain⟨A1,L1,B1⟩:=put l H1 l0 S1 hl;refine⟨_,rfl,k,CA,dk,_,rfl,S1 _ _ hk,TA.cl,TA.nR,BD,?_⟩;rw[BC];exact⟨_,rfl,k,CA,dk,_,_,rfl,am,TA.cl,TA.nR,CU,q l _ L1 A1 B1⟩
   . refine aI (fun e=>c (V.int.inj e)) ?_;have n0:=ok.nr0;obtain⟨x,hx,ex,d0,d1,d4⟩:=ok.deg (by omega);refine⟨_,rfl,k,CA,dk,_,_,rfl,hk,TA.cl,TA.nG,rm,_,rfl,k,CA,dk,_,_,rfl,hk,TA.cl,TA.nS,al_s,_,rfl,k,CA,dk,_,_,rfl,hk,TA.cl,TA.nT,al_t,g,a,b,d,aT,z.ns,tv,z.ts,z.to,x,z.s,z.p,rfl,GA,ha,ok.n6,hb,TS,t0,t10,fun t ht=>⟨(ok.gk.tok t ht).1,(ok.gk.tok t ht).2.2.1⟩,hd,hT,hx,d1,by omega,ok.po,by omega,by omega,fun l H1 l0 S1 hl=>?_⟩;have et:z.tru=fX z.ns z.ts z.s z.p z.to (bd z.ts x+1).toNat:=by
      unfold Ak.tru;rw[zA0 c,ex]
     rw[←et]at hl;obtain⟨A1,L1,B1⟩:=put l H1 l0 S1 hl;refine⟨_,rfl,k,CA,dk,_,rfl,S1 _ _ hk,TA.cl,TA.nR,BD,?_⟩;rw[BC];exact⟨_,rfl,k,CA,dk,_,_,rfl,am,TA.cl,TA.nR,CU,q l _ L1 A1 B1⟩
 . refine⟨rfl,_,rfl,gx ?_⟩;exact⟨_,rfl,k,CA,dk,_,_,rfl,hk,TA.cl,TA.nR,CU,q l H hl AK (SameBut.refl _ _)⟩
def rN(CA CG:Addr):Sp:=fun vs H Q _=>∃(k g v:Addr)(z:Ak)(ys:List V)(i:Int),vs=[.ref k,.int i]/\AkAt CA CG H k g v z/\AkOk z/\H v=some (.lst ys)/\0<=i/\i<z.p/\∀H',AkAt CA CG H' k g v z->SameBut k H H'->Q (.int (di z i)) H'
theorem C6:FnScope ["self","place","truths"] ["self","place"] (af ju):=⟨rfl,rfl,rfl,by decide +kernel,rfl,by decide +kernel,by decide +kernel⟩
theorem Au {f fT:Addr} {fd fdT:FuncData} (F:Fun K "true_at" "Asking.true_at" ju f fd) (B:Bl mg) (TA:ATxt K mg CA) (TG:GTxt K mg CG) (mT:Meth K CA "true_numbers" fT) (GT:FnOk P w K mg base CX0 17 fT fdT ["self"] (rM CA CG)) (bT:Binds K fdT ["self"] []) (b9:Cal P w K mg base 4 "value_at" ["values","r","p"] pE):FnOk P w K mg base CX0 18 f fd ["self","place"] (rN CA CG):=by
 refine F.ok C6 (fun vs H Q E h=>?_) (fun cdv A outer s H vs Q E hr h=>?_)
 . obtain⟨k,g,v,z,ys,i,rfl,_⟩:=h;rfl
 obtain ⟨k,g,v,z,ys,i,rfl,AK,ok,hv,i0,i1,q⟩:=h;refine⟨_,(ad (ay (i:=2) C6.nd rfl (Or.inl rfl) (cY (pv 0) TA.cl mT GT hr bT .nil bY))
  (ad (aR (ax oa (au (pv 0) rfl) ai (aF _)) (ag (aD (aJ b9 hr (by decide) rfl (aa (pv 2) (aa (pv 1) (aa (au (au (pv 0) rfl) rfl) ae)))))) aG)
  (ad (aR (ax iS (pv 1) (aO aM rfl B.len PySem.boot_len (aa (pv 2) ae)) (aF _)) (ag (aD (ao bh (aY ix_list (pv 2) (pv 1) (fun _ _=>rfl)) (au (au (pv 0) rfl) rfl)))) aG)
  (ag (aD ai))))),?_⟩
 have p2:=ok.p0;have p9:=ok.gk.p9;obtain⟨dk,aT,_,_,_,_,tr,hk,_⟩:=id AK;refine⟨_,rfl,k,dk,_,rfl,hk,al_n3,k,g,v,z,ys,rfl,AK,ok,hv,fun l H1 hl A1 S1=>?_⟩;have A1':=A1;obtain⟨dk1,aT1,a1,b1,d1,tv1,tr1,hk1,⟨dg1,hg1⟩,_⟩:=A1';unfold di at q;refine⟨_,rfl,k,CA,dk1,_,_,rfl,hk1,TA.cl,TA.nN,Fc,_,_,rfl,rfl,_,rfl,?_⟩
 by_cases c:0<z.nr
 . rw[zB0 c]at q;refine bz c ?_;exact⟨_,rfl,_,rfl,_,rfl,k,CA,dk1,_,_,rfl,hk1,TA.cl,TA.nG,rm,g,CG,dg1,_,_,rfl,hg1,TG.cl,TG.nF,gu ..,l,z.tru,i,z.p,rfl,.inl hl,ok.row c,ok.gk.pr,p9,i0,i1,fun H2 S2=>q H2 (A1.same S2) (S1.trans (zL0 S2))⟩
 . rw [zA0 c]at q;refine aI c ?_;refine⟨_,rfl,_,rfl,l,_,rfl,.inl (zI0 hl),_,_,rfl,rfl,_,rfl,?_⟩;have el:((z.tru.map V.int).length:Int)=(z.tru.length:Int):=by rw[zG0]
   by_cases c2:i<(z.tru.length:Int)
   . rw[zB0 c2]at q;refine bz (by rw[el];exact c2) ?_;obtain⟨j,rfl⟩:=Int.eq_ofNat_of_zero_le i0;rw[qS0]at q;exact⟨_,rfl,_,rfl,l,_,_,_,rfl,rfl,zI0 hl,qX (by omega),_,rfl,k,CA,dk1,_,_,rfl,hk1,TA.cl,TA.nG,rm,g,CG,dg1,_,_,rfl,hg1,TG.cl,TG.nF,gu ..,_,_,rfl,rfl,(by show 0<z.p;omega),q H1 A1 S1⟩
   . rw[zA0 c2]at q;refine aI (by rw[el];exact c2) ?_;exact q H1 A1 S1
noncomputable def Tm.worth(z:Ak)(bx:Str->Int):Tm->Int
 | .num n=>n % z.p | .box x=>bx x | .plain w=>lq z w
 | .ask w a=>if w="coin" then ia z (a.worth z bx)else di z (a.worth z bx)
 | .op s a b=>opV z.p s (a.worth z bx) (b.worth z bx)
def Tm.good:Tm->Prop
 | .num _=>True | .box _=>True | .plain w=>w∈zY | .ask w a=>w∈askW/\a.good | .op s a b=>s∈zz/\a.good/\b.good
def ja(p:Int)(bx:Str->Int):Prop:=∀x,0<=bx x/\bx x<p
theorem Tm.worth_rng{z:Ak}{bx:Str->Int}(k:AkOk z)(hb:ja z.p bx):∀t:Tm,0<=t.worth z bx/\t.worth z bx<z.p
 | .num n=>by have:=k.p0;exact⟨zU0 _ (by omega),zY0 _ (by omega)⟩
 | .box x=>hb x
 | .plain w=>uz k w
 | .ask w a=>by
   show 0<=(if w="coin" then ia z (a.worth z bx)else di z (a.worth z bx))/\(if w="coin" then ia z (a.worth z bx)else di z (a.worth z bx))<z.p
   split
   . exact yz k _
   . exact xa k _
 | .op s a b=>by have:=k.p0;exact Cq (by omega)
def xg(CA CG:Addr)(n:Nat):Sp:=fun vs H Q _=>∃(v:V)(t:Tm)(b k g sd:Addr)(z:Ak)(ys:List V)(bx:Str->Int)(m:Nat),vs=[v,.ref b,.ref k]/\TmAt H v t/\t.good/\t.depth<=n/\BxAt H b bx m/\ja z.p bx/\AkAt CA CG H k g sd z/\AkOk z/\H sd=some (.lst ys)/\
 ∀H',AkAt CA CG H' k g sd z->SameBut k H H'->Q (.int (t.worth z bx)) H'
theorem gH:FnScope ["term","boxes","asking","word","first","second"] ["term","boxes","asking"] (af dO):=⟨rfl,rfl,rfl,by decide +kernel,rfl,by decide +kernel,by decide +kernel⟩
structure AskF(P:Program)(w:World)(K:W.Frag)(mg:Str->Option Value)(base:Heap)(CA CG fP fC fR:Addr)(fdP fdC fdR:FuncData):Prop where
 mP:Meth K CA "plain_value" fP
 GP:FnOk P w K mg base CX0 1 fP fdP ["self","word"] (vO CA CG)
 bP:Binds K fdP ["self","word"] []
 mC:Meth K CA "coin_at" fC
 GC:FnOk P w K mg base CX0 1 fC fdC ["self","place"] (rR CA CG)
 bC:Binds K fdC ["self","place"] []
 mR:Meth K CA "true_at" fR
 GR:FnOk P w K mg base CX0 18 fR fdR ["self","place"] (rN CA CG)
 bR:Binds K fdR ["self","place"] []
theorem yL {n:Nat} {f fP fC fR:Addr} {fd fdP fdC fdR:FuncData} (F:Fun K "value_of" "value_of" dO f fd) (TA:ATxt K mg CA) (TG:GTxt K mg CG) (M:AskF P w K mg base CA CG fP fC fR fdP fdC fdR) (fq:Cal P w K mg base 3 "op_value" ["sign","first","second","p"] DT) (ci:Cal P w K mg base (n+18) "value_of" ["term","boxes","asking"] (xg CA CG n)):FnOk P w K mg base CX0 (n+19) f fd ["term","boxes","asking"] (xg CA CG (n+1)):=by
 refine F.ok gH (fun vs H Q E h=>?_) (fun cdv A outer s H vs Q E hr h=>?_)
 . obtain⟨v,t,b,k,g,sd,z,ys,bx,m,rfl,_⟩:=h;rfl
 obtain ⟨v,t,b,k,g,sd,z,ys,bx,m,rfl,T,tg,td,BX,bo,AK,ok,hs,q⟩:=h;have hu:=Dv hr;have hr1:Room 1 _:=hr.mono (by omega);have hr18:Room 18 _:=hr.mono (by omega);refine⟨_,(ad (ay (i:=3) gH.nd rfl (Or.inl rfl) (aY bc (pv 0) ai (fun _ _=>rfl)))
  (ad (aR (ax bb (pv 3) aV (aF _)) (ag (aD (ao bh (aY bc (pv 0) ai (fun _ _=>rfl)) (au (au (pv 2) rfl) rfl)))) aG)
  (ad (aR (ax bb (pv 3) aV (aF _)) (ag (aD (Af hu (pv 1) (aY bc (pv 0) ai (fun _ _=>rfl)) ai ⟨rfl,rfl,rfl,rfl⟩))) aG)
  (ad (aR (ax bb (pv 3) aV (aF _)) (ag (aD (cZ (pv 2) TA.cl M.mC M.GC hr1 M.bC .nil bY (aa (aJ ci hr (zF0 _) rfl (aa (aY bc (pv 0) ai (fun _ _=>rfl)) (aa (pv 1) (aa (pv 2) ae)))) ae)))) aG)
  (ad (aR (ax bb (pv 3) aV (aF _)) (ag (aD (cZ (pv 2) TA.cl M.mR M.GR hr18 M.bR .nil bY (aa (aJ ci hr (zF0 _) rfl (aa (aY bc (pv 0) ai (fun _ _=>rfl)) (aa (pv 1) (aa (pv 2) ae)))) ae)))) aG)
  (ad (aR (ax bb (pv 3) aV (aF _)) (ad (ay (i:=4) gH.nd rfl (Or.inl rfl) (aJ ci hr (zF0 _) rfl (aa (aY bc (pv 0) ai (fun _ _=>rfl)) (aa (pv 1) (aa (pv 2) ae)))))
   (ad (ay (i:=5) gH.nd rfl (Or.inl rfl) (aJ ci hr (zF0 _) rfl (aa (aY bc (pv 0) ai (fun _ _=>rfl)) (aa (pv 1) (aa (pv 2) ae)))))
   (ag (aD (aJ fq hr (by omega) rfl (aa (aY bc (pv 0) ai (fun _ _=>rfl)) (aa (pv 4) (aa (pv 5) (aa (au (au (pv 2) rfl) rfl) ae))))))))) aG)
  (ag (aD (cZ (pv 2) TA.cl M.mP M.GP hr1 M.bP .nil bY (aa (pv 3) ae)))))))))),?_⟩
 have AK':=AK;obtain⟨dk,aT,ga,gb,gd,tv,tr,hk,⟨dg,hg⟩,_⟩:=AK';have p2:=ok.p0;have p0:0<z.p:=by omega
 have kT:∀{H':Hp},SameBut k H H'->dA H H':=fun s c xs e=>s _ _ (bq e hk (by intro z;cases z)) e
 have kB:∀{H':Hp},SameBut k H H'->BxAt H' b bx m:=fun s=>BX.keep fun o e=>s _ _ (by
  obtain⟨kvs,e',_⟩:=BX;exact bq e' hk (by intro z;cases z)) e
 have kS:∀{H':Hp},SameBut k H H'->H' sd=some (.lst ys):=fun s=>s _ _ (bq hs hk (by intro z;cases z)) hs
 cases T with
 | @num a n e=>
   refine⟨_,rfl,a,_,0,_,rfl,rfl,zE0 e,rfl,?_⟩;refine⟨_,rfl,rfl,_,rfl,bz rfl ?_⟩;exact⟨_,rfl,a,_,1,_,rfl,rfl,zE0 e,rfl,_,rfl,k,CA,dk,_,_,rfl,hk,TA.cl,TA.nG,rm,g,CG,dg,_,_,rfl,hg,TG.cl,TG.nF,gu ..,_,_,rfl,rfl,p0,q H AK (SameBut.refl _ _)⟩
 | @box a x e=>
   refine⟨_,rfl,a,_,0,_,rfl,rfl,zE0 e,rfl,?_⟩;refine⟨_,rfl,rfl,_,rfl,aI (neS (by decide +kernel)) ?_⟩;refine⟨_,rfl,rfl,_,rfl,bz rfl ?_⟩;obtain⟨kvs,hb,_,hx⟩:=BX;refine⟨_,rfl,b,rfl,.inl ⟨kvs,.inl hb⟩,_,rfl,a,_,1,_,rfl,rfl,zE0 e,rfl,_,DGet.k (k:=.inr x) hb,?_⟩;rw[hx];exact q H AK (SameBut.refl _ _)
 | @plain a wd e=>
   have no:∀x:Str,x∉zY->¬ V.str wd=V.str x:=fun x hx e=>hx (by rw[←V.str.inj e];exact tg)
   refine⟨_,rfl,a,_,0,_,rfl,rfl,zE0 e,rfl,?_⟩;refine⟨_,rfl,rfl,_,rfl,aI (no _ (by decide +kernel)) ?_⟩;refine⟨_,rfl,rfl,_,rfl,aI (no _ (by decide +kernel)) ?_⟩;refine⟨_,rfl,rfl,_,rfl,aI (no _ (by decide +kernel)) ?_⟩;refine⟨_,rfl,rfl,_,rfl,aI (no _ (by decide +kernel)) ?_⟩;refine⟨_,rfl,rfl,_,rfl,aI (no _ (by decide +kernel)) ?_⟩;exact⟨_,rfl,k,dk,_,rfl,hk,al_n1,_,rfl,k,g,sd,z,wd,rfl,AK,p0,q H AK (SameBut.refl _ _)⟩
 | @ask a wd v1 t1 e T1=>
   obtain⟨wq,tq⟩:=tg;have hw:wd="coin"∨wd="true":=by simpa [askW]using wq
   have d1:t1.depth<=n:=by have:t1.depth+1<=n+1:=td;omega
   have wr:=Tm.worth_rng ok bo t1;refine⟨_,rfl,a,_,0,_,rfl,rfl,zE0 e,rfl,?_⟩;rcases hw with rfl | rfl
   . refine⟨_,rfl,rfl,_,rfl,aI (neS (by decide +kernel)) ?_⟩;refine⟨_,rfl,rfl,_,rfl,aI (neS (by decide +kernel)) ?_⟩;refine⟨_,rfl,rfl,_,rfl,bz rfl ?_⟩;refine⟨_,rfl,k,dk,_,rfl,hk,al_n2,_,rfl,a,_,1,_,rfl,rfl,zE0 e,rfl,_,rfl,_,rfl,v1,t1,b,k,g,sd,z,ys,bx,m,rfl,T1,tq,d1,BX,bo,AK,ok,hs,fun H1 A1 S1=>?_⟩;refine⟨k,g,sd,z,_,rfl,A1,ok.tl,fun H2 S2=>?_⟩;have qq:=q H2 (A1.same S2) (S1.trans (zL0 S2));have e1:(Tm.ask "coin" t1).worth z bx=ia z (t1.worth z bx):=zB0 rfl;rw[e1]at qq;exact qq
   . refine⟨_,rfl,rfl,_,rfl,aI (neS (by decide +kernel)) ?_⟩;refine⟨_,rfl,rfl,_,rfl,aI (neS (by decide +kernel)) ?_⟩;refine⟨_,rfl,rfl,_,rfl,aI (neS (by decide +kernel)) ?_⟩;refine⟨_,rfl,rfl,_,rfl,bz rfl ?_⟩;refine⟨_,rfl,k,dk,_,rfl,hk,al_n4,_,rfl,a,_,1,_,rfl,rfl,zE0 e,rfl,_,rfl,_,rfl,v1,t1,b,k,g,sd,z,ys,bx,m,rfl,T1,tq,d1,BX,bo,AK,ok,hs,fun H1 A1 S1=>?_⟩;refine⟨k,g,sd,z,ys,_,rfl,A1,ok,kS S1,wr.1,wr.2,fun H2 A2 S2=>?_⟩;have qq:=q H2 A2 (S1.trans S2);have e1:(Tm.ask "true" t1).worth z bx=di z (t1.worth z bx):=zA0 (by decide +kernel);rw[e1]at qq;exact qq
 | @op a o v1 v2 t1 t2 e T1 T2=>
   obtain⟨oq,q1,q2⟩:=tg;have d1:t1.depth<=n:=by have:max t1.depth t2.depth+1<=n+1:=td;omega
   have d2:t2.depth<=n:=by have:max t1.depth t2.depth+1<=n+1:=td;omega
   have w1:=Tm.worth_rng ok bo t1;have w2:=Tm.worth_rng ok bo t2;refine⟨_,rfl,a,_,0,_,rfl,rfl,zE0 e,rfl,?_⟩;refine⟨_,rfl,rfl,_,rfl,aI (neS (by decide +kernel)) ?_⟩;refine⟨_,rfl,rfl,_,rfl,aI (neS (by decide +kernel)) ?_⟩;refine⟨_,rfl,rfl,_,rfl,aI (neS (by decide +kernel)) ?_⟩;refine⟨_,rfl,rfl,_,rfl,aI (neS (by decide +kernel)) ?_⟩;refine⟨_,rfl,rfl,_,rfl,bz rfl ?_⟩;refine⟨_,rfl,a,_,2,_,rfl,rfl,zE0 e,rfl,_,rfl,_,rfl,v1,t1,b,k,g,sd,z,ys,bx,m,rfl,T1,q1,d1,BX,bo,AK,ok,hs,fun H1 A1 S1=>?_⟩;have e1:=kT S1 _ _ e;refine⟨_,rfl,a,_,3,_,rfl,rfl,zE0 e1,rfl,_,rfl,_,rfl,v2,t2,b,k,g,sd,z,ys,bx,m,rfl,T2.mono (kT S1),q2,d2,kB S1,bo,A1,ok,kS S1,fun H2 A2 S2=>?_⟩;have e2:=kT (S1.trans S2) _ _ e;obtain⟨dk2,aT2,_,_,_,_,tr2,hk2,⟨dg2,hg2⟩,_⟩:=id A2;exact⟨_,rfl,a,_,1,_,rfl,rfl,zE0 e2,rfl,_,rfl,_,rfl,_,rfl,k,CA,dk2,_,_,rfl,hk2,TA.cl,TA.nG,rm,g,CG,dg2,_,_,rfl,hg2,TG.cl,TG.nF,gu ..,o,_,_,z.p,rfl,oq,ok.gk.pr,ok.gk.p9,w1.1,w1.2,w2.1,w2.2,q H2 A2 (S1.trans S2)⟩
theorem yJ {f:Addr} {fd:FuncData}:FnOk P w K mg base CX0 18 f fd ["term","boxes","asking"] (xg CA CG 0):=by
 have no:∀vs H Q E,¬ xg CA CG 0 vs H Q E:=fun vs H Q E h=>by
  obtain⟨v,t,_,_,_,_,_,_,_,_,_,_,_,h1,_⟩:=h
  have:=t.depth_pos
  omega
 exact⟨fun vs H Q E h=>absurd h (no vs H Q E),fun A outer s H args us vs Q E _ _ _ _ h=>absurd h (no vs H Q E)⟩
theorem lU {f fP fC fR:Addr} {fd fdP fdC fdR:FuncData} (F:Fun K "value_of" "value_of" dO f fd) (m:mg "value_of"=some (.ref f)) (TA:ATxt K mg CA) (TG:GTxt K mg CG) (M:AskF P w K mg base CA CG fP fC fR fdP fdC fdR) (fq:Cal P w K mg base 3 "op_value" ["sign","first","second","p"] DT) :
 ∀n:Nat,FnOk P w K mg base CX0 (n+18) f fd ["term","boxes","asking"] (xg CA CG n)
 | 0=>yJ
 | n+1=>yL F TA TG M fq (Cal.of F (lU F m TA TG M fq n) m (fun _ _ _ _ _ _ us hl=>by obtain⟨u0,u1,u2,rfl⟩:=jJ hl;rfl))
end
section
variable {CM CA CG:Addr}
structure MS where
 pl:Int
 bx:Str->Int
 sd:List Int
noncomputable def Dh(z:Ak)(len:Int)(s:MS):Hr->MS
 | .fin=>⟨len,s.bx,s.sd⟩
 | .go n=>⟨n,s.bx,s.sd⟩
 | .iff t n=>⟨if t.worth z s.bx=0 then s.pl+1 else n,s.bx,s.sd⟩
 | .set x t=>⟨s.pl+1,iB s.bx x (t.worth z s.bx),s.sd⟩
 | .say t=>⟨s.pl+1,s.bx,s.sd++[t.worth z s.bx]⟩
noncomputable def dI(z:Ak)(rows:List Hr)(s:MS):MS:=match rows[s.pl.toNat]? with
 | some r=>Dh z rows.length s r
 | none=>s
noncomputable def jI(z:Ak)(rows:List Hr):Nat->MS->MS
 | 0,s=>s
 | n+1,s=>if s.pl<(rows.length:Int)/\(s.sd.length:Int)<z.mn then jI z rows n (dI z rows s)else s
def nY(mn:Int)(sd:List Int):List Int:=sd++List.replicate (mn-(sd.length:Int)).toNat 0
def Hr.good:Hr->Prop
 | .fin=>True | .go n=>0<=n | .iff t n=>t.good/\t.depth<=5/\0<=n | .set _ t=>t.good/\t.depth<=5 | .say t=>t.good/\t.depth<=5
theorem zb{z:Ak}{rows:List Hr}(hq:∀r∈rows,r.good){s:MS}(h:0<=s.pl):0<=(dI z rows s).pl:=by
 unfold dI;cases e:rows[s.pl.toNat]? with
 | none=>exact h
 | some r=>
   have q:=hq r (qJ0 e);cases r with
   | fin=>exact Int.natCast_nonneg _
   | go n=>exact q
   | iff t n=>
     show 0<=if t.worth z s.bx=0 then s.pl+1 else n
     by_cases c:t.worth z s.bx=0
     . rw[zB0 c];omega
     . rw[zA0 c];exact q.2.2
   | set x t=>show 0<=s.pl+1;omega
   | say t=>show 0<=s.pl+1;omega
theorem rK{z:Ak}{rows:List Hr}{s:MS}:(dI z rows s).sd.length<=s.sd.length+1:=by
 unfold dI;cases e:rows[s.pl.toNat]? with
 | none=>exact qK0 _
 | some r=>
   cases r with
   | fin=>exact qK0 _
   | go n=>exact qK0 _
   | iff t n=>exact qK0 _
   | set x t=>exact qK0 _
   | say t=>show(s.sd++[_]).length<=_;rw[zN0];exact zF0 _
theorem Bz{p n:Int}{bx:Str->Int}{x:Str}(h:ja p bx)(h0:0<=n)(h1:n<p):ja p (iB bx x n):=fun y=>by
 unfold iB
 split
 . exact⟨h0,h1⟩
 . exact h y
theorem ng{z:Ak}{rows:List Hr}{s:MS}(k:AkOk z)(h:ja z.p s.bx)(hs:cg s.sd z.p):ja z.p (dI z rows s).bx/\cg (dI z rows s).sd z.p:=by
 unfold dI;cases e:rows[s.pl.toNat]? with
 | none=>exact⟨h,hs⟩
 | some r=>
   cases r with
   | fin=>exact⟨h,hs⟩
   | go n=>exact⟨h,hs⟩
   | iff t n=>exact⟨h,hs⟩
   | set x t=>
     have w:=Tm.worth_rng k h t;exact⟨Bz h w.1 w.2,hs⟩
   | say t=>
     have w:=Tm.worth_rng k h t;refine⟨h,fun y hy=>?_⟩;rcases qL0 hy with hy | hy
     . exact hs y hy
     . rw[zT0 hy];exact w
theorem kj{z:Ak}{rows:List Hr}(k:AkOk z):∀(n:Nat)(s:MS),ja z.p s.bx->cg s.sd z.p->(s.sd.length:Int)<=z.mn->ja z.p (jI z rows n s).bx/\cg (jI z rows n s).sd z.p/\((jI z rows n s).sd.length:Int)<=z.mn
 | 0,s,h,hs,hl=>⟨h,hs,hl⟩
 | n+1,s,h,hs,hl=>by
   show ja z.p (if _ then _ else _:MS).bx/\cg (if _ then _ else _:MS).sd z.p/\((if _ then _ else _:MS).sd.length:Int)<=z.mn
   by_cases c:s.pl<(rows.length:Int)/\(s.sd.length:Int)<z.mn
   . rw [zB0 c];obtain⟨h1,h2⟩:=ng (rows:=rows) k h hs
     have:=rK (z:=z) (rows:=rows) (s:=s)
     exact kj k n _ h1 h2 (by omega)
   . rw[zA0 c];exact⟨h,hs,hl⟩
theorem sw{mn:Int}{sd:List Int}(h:(sd.length:Int)<=mn):((nY mn sd).length:Int)=mn:=by
 unfold nY;rw[zN0,List.length_replicate];omega
theorem wo{p mn:Int}{sd:List Int}(h:cg sd p)(p0:0<p):cg (nY mn sd) p:=fun x hx=>by
 unfold nY at hx;rcases qL0 hx with hx | hx
 . exact h x hx
 . rw[List.eq_of_mem_replicate hx];omega
def RowsAt(H:Hp)(rv:List V)(rows:List Hr):Prop:=rv.length=rows.length/\∀(i:Nat)(v:V)(r:Hr),rv[i]?=some v->rows[i]?=some r->HrAt H v r
theorem RowsAt.mono{H H':Hp}{rv:List V}{rows:List Hr}(h:RowsAt H rv rows)(k:dA H H'):RowsAt H' rv rows:=⟨h.1,fun i v r h1 h2=>(h.2 i v r h1 h2).mono k⟩
def CY(b c:Addr)(H H':Hp):Prop:=∀a o,a≠b->a≠c->H a=some o->H' a=some o
theorem BxAt.le{H:Hp}{b:Addr}{bx:Str->Int}{m n:Nat}(h:BxAt H b bx m)(k:m<=n):BxAt H b bx n:=by
 obtain⟨kvs,e,l,r⟩:=h;exact⟨kvs,e,qB0 l k,r⟩
def But3(b c d:Addr)(H H':Hp):Prop:=∀a o,a≠b->a≠c->a≠d->H a=some o->H' a=some o
theorem But3.trans{b c d:Addr}{H H1 H2:Hp}(x:But3 b c d H H1)(y:But3 b c d H1 H2):But3 b c d H H2:=fun a o h1 h2 h3 e=>y a o h1 h2 h3 (x a o h1 h2 h3 e)
def zh(CM CA CG:Addr):Sp:=fun vs H Q _=>∃(M g h b dm k sd:Addr)(rv:List V)(r pl:Int)(z:Ak)(rows:List Hr)(bx:Str->Int)(m:Nat)(said:List Int),
 vs=[.ref M,.int pl,.ref sd,.ref k]/\H M=some (.ins CM dm (ml g h r b))/\M≠k/\H h=some (.tup rv)/\RowsAt H rv rows/\(∀r∈rows,r.good)/\0<=pl/\pl<(rows.length:Int)/\BxAt H b bx m/\ja z.p bx/\m<=10000/\H sd=some (.lst (said.map V.int))/\said.length<=900/\AkAt CA CG H k g sd z/\AkOk z/\
 ∀H',H' sd=some (.lst ((dI z rows ⟨pl,bx,said⟩).sd.map V.int))->BxAt H' b (dI z rows ⟨pl,bx,said⟩).bx (m+1)->AkAt CA CG H' k g sd z->But3 b sd k H H'->Q (.int (dI z rows ⟨pl,bx,said⟩).pl) H'
theorem B0:FnScope ["self","place","said","asking","row","word"] ["self","place","said","asking"] (af lg):=⟨rfl,rfl,rfl,by decide +kernel,rfl,by decide +kernel,by decide +kernel⟩
theorem Ct {f:Addr} {fd:FuncData} (F:Fun K "do_row" "Machine.do_row" lg f fd) (B:Bl mg) (TM:MTxt K mg CM) (ci:Cal P w K mg base 23 "value_of" ["term","boxes","asking"] (xg CA CG 5)):FnOk P w K mg base CX0 24 f fd ["self","place","said","asking"] (zh CM CA CG):=by
 refine F.ok B0 (fun vs H Q E h=>?_) (fun cdv A outer s H vs Q E hr h=>?_)
 . obtain⟨M,g,h,b,dm,k,sd,rv,r,pl,z,rows,bx,m,said,rfl,_⟩:=h;rfl
 obtain ⟨M,g,h,b,dm,k,sd,rv,rn,pl,z,rows,bx,m,said,rfl,hM,nMk,hh,RW,rq,pl0,pl1,BX,bo,m1,hsd,sl,AK,ok,q⟩:=h;have hu:=Dv hr;refine⟨_,(ad (ay (i:=4) B0.nd rfl (Or.inl rfl) (aY bc (au (pv 0) rfl) (pv 1) (fun _ _=>rfl)))
  (ad (ay (i:=5) B0.nd rfl (Or.inl rfl) (aY bc (pv 4) ai (fun _ _=>rfl)))
  (ad (aR (ax bb (pv 5) aV (aF _)) (ag (aD (aO aM rfl B.len PySem.boot_len (aa (au (pv 0) rfl) ae)))) aG)
  (ad (aR (ax bb (pv 5) aV (aF _)) (ag (aD (aY bc (pv 4) ai (fun _ _=>rfl)))) aG)
  (ad (aR (ax bb (pv 5) aV (aF _)) (ag (Ch hu (au (pv 0) rfl) (aY bc (pv 4) ai (fun _ _=>rfl)) (aJ ci hr (by decide) rfl (aa (aY bc (pv 4) ai (fun _ _=>rfl)) (aa (au (pv 0) rfl) (aa (pv 3) ae)))) rfl)) (ag (aR (ax bb (pv 5) aV (aF _)) (ag (bX (kx PySem.F.plainAttrs_list PySem.F.slot_list_append PySem.F.type_list_append fh (pv 2) (aa (aJ ci hr (by decide) rfl (aa (aY bc (pv 4) ai (fun _ _=>rfl)) (aa (au (pv 0) rfl) (aa (pv 3) ae)))) ae)))) (ag (aR (ax nZ (aJ ci hr (by decide) rfl (aa (aY bc (pv 4) ai (fun _ _=>rfl)) (aa (au (pv 0) rfl) (aa (pv 3) ae)))) ai (aF _)) (ag (aD (aY bc (pv 4) ai (fun _ _=>rfl)))) aG)))))
  (ag (aD (ao bn (pv 1) ai)))))))),?_⟩
 obtain⟨i,rfl⟩:=Int.eq_ofNat_of_zero_le pl0;have hi:i<rows.length:=by omega
 have hi':i<rv.length:=by rw[RW.1];exact hi
 have er:rows[i]?=some rows[i]:=zP0 hi;have ev:rv[i]?=some rv[i]:=zP0 hi';have RA:=RW.2 i _ _ ev er;have rqi:=rq _ (qM0 hi);have hst:dI z rows ⟨(i:Int),bx,said⟩=Dh z rows.length ⟨(i:Int),bx,said⟩ rows[i]:=by
  unfold dI;rw[show((⟨(i:Int),bx,said⟩:MS).pl.toNat)=i from qS0 i,er]
 rw[hst]at q;generalize rows[i]=row at RA rqi q er hst;have at_:atI rv (i:Int)=some rv[i]:=cM ev;generalize rv[i]=v at RA at_ ev;refine⟨_,rfl,M,CM,dm,_,_,rfl,hM,TM.cl,TM.nH,CC,_,rfl,h,_,_,v,rfl,rfl,zE0 hh,at_,?_⟩;have K0:But3 b sd k H H:=fun _ _ _ _ _ e=>e
 have nBS:sd≠b:=by
  obtain⟨kvs,e,_⟩:=BX;exact bq hsd e (by intro z;cases z)
 obtain⟨kvs,hb,kl,hx⟩:=id BX;obtain⟨dk,_,_,_,_,_,_,hk,_⟩:=id AK;have kT:∀{H':Hp},SameBut k H H'->dA H H':=fun s c xs e=>s _ _ (bq e hk (by intro z;cases z)) e
 have nbk:b≠k:=bq hb hk (by intro z;cases z);have nsk:sd≠k:=bq hsd hk (by intro z;cases z);cases RA with
 | @fin a e=>
   refine⟨_,rfl,a,_,0,_,rfl,rfl,zE0 e,rfl,?_⟩;refine⟨_,rfl,rfl,_,rfl,bz rfl ?_⟩;refine⟨_,rfl,M,CM,dm,_,_,rfl,hM,TM.cl,TM.nH,CC,h,_,rfl,.inr (zE0 hh),?_⟩;rw[RW.1];exact q H hsd (BX.le (qK0 _)) AK K0
 | @go a n e=>
   refine⟨_,rfl,a,_,0,_,rfl,rfl,zE0 e,rfl,?_⟩;refine⟨_,rfl,rfl,_,rfl,aI (neS (by decide +kernel)) ?_⟩;refine⟨_,rfl,rfl,_,rfl,bz rfl ?_⟩;exact⟨_,rfl,a,_,1,_,rfl,rfl,zE0 e,rfl,q H hsd (BX.le (qK0 _)) AK K0⟩
 | @iff a u t n e T=>
   refine⟨_,rfl,a,_,0,_,rfl,rfl,zE0 e,rfl,?_⟩;refine⟨_,rfl,rfl,_,rfl,aI (neS (by decide +kernel)) ?_⟩;refine⟨_,rfl,rfl,_,rfl,aI (neS (by decide +kernel)) ?_⟩;refine⟨_,rfl,rfl,_,rfl,aI (neS (by decide +kernel)) ?_⟩;refine⟨_,rfl,rfl,_,rfl,aI (neS (by decide +kernel)) ?_⟩;refine⟨_,rfl,a,_,1,_,rfl,rfl,zE0 e,rfl,_,rfl,M,CM,dm,_,_,rfl,hM,TM.cl,TM.nB,AL,_,rfl,u,t,b,k,g,sd,z,_,bx,m,rfl,T,rqi.1,rqi.2.1,BX,bo,AK,ok,hsd,fun H1 A1 S1=>?_⟩;refine⟨rfl,_,rfl,?_⟩;have q':∀H',H' sd=some (.lst (said.map V.int))->BxAt H' b bx (m+1)->AkAt CA CG H' k g sd z->But3 b sd k H H'->Q (.int (if t.worth z bx=0 then(i:Int)+1 else n)) H':=q
   have q1:=q' H1 (S1 _ _ nsk hsd) ((BX.keep fun o e=>S1 _ _ nbk e).le (qK0 _)) A1 (fun c o _ _ h3 e=>S1 _ _ h3 e)
   by_cases c:t.worth z bx=0
   . rw[zB0 c]at q1;refine sU (congrArg V.int c) ?_;exact⟨_,rfl,_,_,rfl,rfl,q1⟩
   . rw[zA0 c]at q1;refine iteN (fun z=>c (V.int.inj z)) ?_;exact⟨_,rfl,a,_,2,_,rfl,rfl,zE0 (kT S1 _ _ e),rfl,q1⟩
 | @set a x u t e T=>
   refine⟨_,rfl,a,_,0,_,rfl,rfl,zE0 e,rfl,?_⟩;refine⟨_,rfl,rfl,_,rfl,aI (neS (by decide +kernel)) ?_⟩;refine⟨_,rfl,rfl,_,rfl,aI (neS (by decide +kernel)) ?_⟩;refine⟨_,rfl,rfl,_,rfl,bz rfl ?_⟩;refine⟨_,rfl,a,_,2,_,rfl,rfl,zE0 e,rfl,_,rfl,M,CM,dm,_,_,rfl,hM,TM.cl,TM.nB,AL,_,rfl,u,t,b,k,g,sd,z,_,bx,m,rfl,T,rqi.1,rqi.2,BX,bo,AK,ok,hsd,fun H1 A1 S1=>?_⟩;have hb1:=S1 _ _ nbk hb;have hs1:=S1 _ _ nsk hsd;refine⟨_,rfl,M,CM,dm,_,_,rfl,S1 _ _ nMk hM,TM.cl,TM.nB,AL,_,rfl,a,_,1,_,rfl,rfl,zE0 (kT S1 _ _ e),rfl,b,_,rfl,DPut.k (k:=.inr x) hb1 ?_,?_⟩
   . exact Nat.lt_of_le_of_lt kl (Nat.lt_of_le_of_lt m1 (by decide))
   refine⟨_,rfl,_,_,rfl,rfl,?_⟩;refine q _ ?_ ⟨_,am,qB0 (iV _ _ _) (Nat.succ_le_succ kl),EX x _ hx⟩ (A1.but2 hb1 hs1 fun c o h1 _ e=>by rw[aq h1];exact e) (fun c o h1 _ h3 e=>by rw[aq h1];exact S1 _ _ h3 e);rw[aq nBS];exact hs1
 | @say a u t e T=>
   refine⟨_,rfl,a,_,0,_,rfl,rfl,zE0 e,rfl,?_⟩;refine⟨_,rfl,rfl,_,rfl,aI (neS (by decide +kernel)) ?_⟩;refine⟨_,rfl,rfl,_,rfl,aI (neS (by decide +kernel)) ?_⟩;refine⟨_,rfl,rfl,_,rfl,aI (neS (by decide +kernel)) ?_⟩;refine⟨_,rfl,rfl,_,rfl,bz rfl ?_⟩;refine⟨_,rfl,.inl ⟨rfl,_,zI0 hsd⟩,?_⟩;refine⟨_,rfl,a,_,1,_,rfl,rfl,zE0 e,rfl,_,rfl,M,CM,dm,_,_,rfl,hM,TM.cl,TM.nB,AL,_,rfl,u,t,b,k,g,sd,z,_,bx,m,rfl,T,rqi.1,rqi.2,BX,bo,AK,ok,hsd,fun H1 A1 S1=>?_⟩;have hb1:=S1 _ _ nbk hb;have hs1:=S1 _ _ nsk hsd;refine⟨sd,_,_,rfl,rfl,hs1,?_,?_⟩
   . rw[zG0];exact bi (by omega)
   refine⟨_,rfl,_,_,rfl,rfl,?_⟩;refine q _ ?_ ((BX.keep fun o e=>by rw[aq nBS.symm];exact S1 _ _ nbk e).le (qK0 _)) (A1.but2 hb1 hs1 fun c o _ h2 e=>by rw[aq h2];exact e) (fun c o _ h2 h3 e=>by rw[aq h2];exact S1 _ _ h3 e);rw[am];show _=some (HO.lst ((said++[t.worth z bx]).map V.int));rw[zM0];rfl
end
section
variable {CM CA CG:Addr}
def m1 (g:Addr):List (Str×V):=[("game",.ref g)]
def m2 (g h:Addr):List (Str×V):=[("game",.ref g),("helper",.ref h)]
def m3 (g h:Addr):List (Str×V):=[("game",.ref g),("helper",.ref h),("next_round",.int 0)]
theorem pm1 {g:Addr}:bK "game" (.ref g) []=m1 g:=by with_unfolding_all rfl
theorem pm2 {g h:Addr}:bK "helper" (.ref h) (m1 g)=m2 g h:=by with_unfolding_all rfl
theorem pm3 {g h:Addr}:bK "next_round" (.int 0) (m2 g h)=m3 g h:=by with_unfolding_all rfl
theorem pm4 {g h b:Addr}:bK "boxes" (.ref b) (m3 g h)=ml g h 0 b:=by with_unfolding_all rfl
def qf(CM:Addr):Sp:=fun vs H Q _=>∃(M g h dm:Addr),vs=[.ref M,.ref g,.ref h]/\H M=some (.ins CM dm [])/\∀(b:Addr)(H':Hp),H b=none->H' M=some (.ins CM dm (ml g h 0 b))->H' b=some (.dK [])->SameBut M H H'->Q .non H'
theorem zC:FnScope ["self","game","helper"] ["self","game","helper"] (af jk):=⟨rfl,rfl,rfl,by decide +kernel,rfl,by decide +kernel,by decide +kernel⟩
theorem Ao {f:Addr} {fd:FuncData} (F:Fun K "__init__" "Machine.__init__" jk f fd) (T:MTxt K mg CM):FnOk P w K mg base CX0 1 f fd ["self","game","helper"] (qf CM):=by
 refine F.ok zC (fun vs H Q E h=>?_) (fun cdv A outer s H vs Q E hr h=>?_)
 . obtain⟨M,g,h,dm,rfl,_⟩:=h;rfl
 obtain ⟨M,g,h,dm,rfl,hM,q⟩:=h;refine⟨_,(ad (aX (pv 0) (pv 1) rfl)
  (ad (aX (pv 0) (pv 2) rfl)
  (ad (aX (pv 0) ai rfl)
  (ag (aX (pv 0) Ae rfl))))),?_⟩
 refine⟨_,rfl,_,rfl,M,CM,dm,_,rfl,hM,T.cl,T.nG,(by show 0<1000;decide),?_⟩;rw[pm1];refine⟨_,rfl,_,rfl,M,CM,dm,_,rfl,am,T.cl,T.nH,(by show 1<1000;decide),?_⟩;rw[pm2];refine⟨_,rfl,M,CM,dm,_,rfl,am,T.cl,T.nR,(by show 2<1000;decide),?_⟩;rw[pm3];have S3:SameBut M H (upd (upd (upd H M (.ins CM dm (m1 g))) M (.ins CM dm (m2 g h))) M (.ins CM dm (m3 g h))):=(SameBut.upd _).trans ((SameBut.upd _).trans (SameBut.upd _));have g3:upd (upd (upd H M (.ins CM dm (m1 g))) M (.ins CM dm (m2 g h))) M (.ins CM dm (m3 g h)) M=some (.ins CM dm (m3 g h)):=am;generalize upd (upd (upd H M (.ins CM dm (m1 g))) M (.ins CM dm (m2 g h))) M (.ins CM dm (m3 g h))=H3 at S3 g3;intro b hb;have bM:b≠M:=(aN g3 hb).symm;refine⟨_,rfl,M,CM,dm,_,rfl,by rw[aq bM.symm];exact g3,T.cl,T.nB,(by show 3<1000;decide),?_⟩;rw[pm4];refine q b _ ?_ am (by rw[aq bM];exact am) (S3.trans ((zL0 (zD0 hb _)).trans (SameBut.upd _)));cases e:H b with
 | none=>rfl
 | some o=>rw[S3 b o bM e]at hb;cases hb
def a1 (g:Addr):List (Str×V):=[("game",.ref g)]
def a2 (g:Addr) (nr:Int):List (Str×V):=[("game",.ref g),("number",.int nr)]
def a3 (g:Addr) (nr mn:Int):List (Str×V):=[("game",.ref g),("number",.int nr),("many",.int mn)]
def a4 (g:Addr) (nr mn hd:Int):List (Str×V):=[("game",.ref g),("number",.int nr),("many",.int mn),("held",.int hd)]
def a5 (g:Addr) (nr mn hd s:Int):List (Str×V):=[("game",.ref g),("number",.int nr),("many",.int mn),("held",.int hd),("s",.int s)]
def a6 (g:Addr) (nr mn hd s:Int) (aT:Addr):List (Str×V):=[("game",.ref g),("number",.int nr),("many",.int mn),("held",.int hd),("s",.int s),("tossed",.ref aT)]
section
variable {g aT:Addr} {nr mn hd s:Int}
theorem pa1:bK "game" (.ref g) []=a1 g:=by with_unfolding_all rfl
theorem pa2:bK "number" (.int nr) (a1 g)=a2 g nr:=by with_unfolding_all rfl
theorem pa3:bK "many" (.int mn) (a2 g nr)=a3 g nr mn:=by with_unfolding_all rfl
theorem pa4:bK "held" (.int hd) (a3 g nr mn)=a4 g nr mn hd:=by with_unfolding_all rfl
theorem pa5:bK "s" (.int s) (a4 g nr mn hd)=a5 g nr mn hd s:=by with_unfolding_all rfl
theorem pa6:bK "tossed" (.ref aT) (a5 g nr mn hd s)=a6 g nr mn hd s aT:=by with_unfolding_all rfl
theorem pa7:bK "truths" .non (a6 g nr mn hd s aT)=al g nr mn hd s aT .non:=by with_unfolding_all rfl
end
def vY(CA:Addr):Sp:=fun vs H Q _=>∃(k dk g c:Addr)(nr mn hd s:Int)(xs:List V),vs=[.ref k,.ref g,.int nr,.int mn,.int hd,.int s,.ref c]/\H k=some (.ins CA dk [])/\(H c=some (.lst xs)∨H c=some (.tup xs))/\
 ∀(aT:Addr)(H':Hp),H' k=some (.ins CA dk (al g nr mn hd s aT .non))->H' aT=some (.tup xs)->SameBut k H H'->Q .non H'
theorem zI:FnScope ["self","game","number","many","due","s","coins"] ["self","game","number","many","due","s","coins"] (af jv):=⟨rfl,rfl,rfl,by decide +kernel,rfl,by decide +kernel,by decide +kernel⟩
theorem Av {f:Addr} {fd:FuncData} (F:Fun K "__init__" "Asking.__init__" jv f fd) (B:Bl mg) (T:ATxt K mg CA):FnOk P w K mg base CX0 1 f fd ["self","game","number","many","due","s","coins"] (vY CA):=by
 refine F.ok zI (fun vs H Q E h=>?_) (fun cdv A outer s H vs Q E hr h=>?_)
 . obtain⟨k,dk,g,c,nr,mn,hd,s,xs,rfl,_⟩:=h;rfl
 obtain ⟨k,dk,g,c,nr,mn,hd,s,xs,rfl,hk,hc,q⟩:=h;refine⟨_,(ad (aX (pv 0) (pv 1) rfl)
  (ad (aX (pv 0) (pv 2) rfl)
  (ad (aX (pv 0) (pv 3) rfl)
  (ad (aX (pv 0) (pv 4) rfl)
  (ad (aX (pv 0) (pv 5) rfl)
  (ad (aX (pv 0) (cI cf rfl B.tuple cL (aa (pv 6) ae)) rfl)
  (ag (aX (pv 0) iR rfl)))))))),?_⟩
 refine⟨_,rfl,_,rfl,k,CA,dk,_,rfl,hk,T.cl,T.nG,(by show 0<1000;decide),?_⟩;rw[pa1];refine⟨_,rfl,_,rfl,k,CA,dk,_,rfl,am,T.cl,T.nN,(by show 1<1000;decide),?_⟩;rw[pa2];refine⟨_,rfl,_,rfl,k,CA,dk,_,rfl,am,T.cl,T.nM,(by show 2<1000;decide),?_⟩;rw[pa3];refine⟨_,rfl,_,rfl,k,CA,dk,_,rfl,am,T.cl,T.nH,(by show 3<1000;decide),?_⟩;rw[pa4];refine⟨_,rfl,_,rfl,k,CA,dk,_,rfl,am,T.cl,T.nS,(by show 4<1000;decide),?_⟩;rw[pa5];have S5:SameBut k H (upd (upd (upd (upd (upd H k (.ins CA dk (a1 g))) k (.ins CA dk (a2 g nr))) k (.ins CA dk (a3 g nr mn))) k (.ins CA dk (a4 g nr mn hd))) k (.ins CA dk (a5 g nr mn hd s))):=(SameBut.upd _).trans ((SameBut.upd _).trans ((SameBut.upd _).trans ((SameBut.upd _).trans (SameBut.upd _))));have g5:upd (upd (upd (upd (upd H k (.ins CA dk (a1 g))) k (.ins CA dk (a2 g nr))) k (.ins CA dk (a3 g nr mn))) k (.ins CA dk (a4 g nr mn hd))) k (.ins CA dk (a5 g nr mn hd s)) k=some (.ins CA dk (a5 g nr mn hd s)):=am;generalize upd (upd (upd (upd (upd H k (.ins CA dk (a1 g))) k (.ins CA dk (a2 g nr))) k (.ins CA dk (a3 g nr mn))) k (.ins CA dk (a4 g nr mn hd))) k (.ins CA dk (a5 g nr mn hd s))=H5 at S5 g5;rcases hc with hc | hc
 . have hc5:=S5 _ _ (bq hc hk (by intro z;cases z)) hc;refine⟨_,rfl,c,_,rfl,.inl ⟨zI0 hc5,fun aT ha=>?_⟩⟩;have aK:aT≠k:=(aN g5 ha).symm;refine⟨_,rfl,k,CA,dk,_,rfl,by rw[aq aK.symm];exact g5,T.cl,T.nT,(by show 5<1000;decide),?_⟩;rw[pa6];refine⟨_,rfl,k,CA,dk,_,rfl,am,T.cl,T.nR,(by show 6<1000;decide),?_⟩;rw[pa7];exact q aT _ am (by rw[aq aK,aq aK];exact am) (S5.trans ((zL0 (zD0 ha _)).trans ((SameBut.upd _).trans (SameBut.upd _))))
 . have nc:=bq hc hk (by intro z;cases z);have hc5:=S5 _ _ nc hc;refine⟨_,rfl,c,_,rfl,.inr ⟨zE0 hc5,?_⟩⟩;refine⟨_,rfl,k,CA,dk,_,rfl,g5,T.cl,T.nT,(by show 5<1000;decide),?_⟩;rw[pa6];refine⟨_,rfl,k,CA,dk,_,rfl,am,T.cl,T.nR,(by show 6<1000;decide),?_⟩;rw[pa7];exact q c _ am (by rw[aq nc,aq nc];exact hc5) (S5.trans ((SameBut.upd _).trans (SameBut.upd _)))
def Di(CM CG:Addr):Sp:=fun vs H Q _=>∃(M g h b dm c:Addr)(rv:List V)(z:Ak)(rows:List Hr)(bx:Str->Int)(m:Nat),
 vs=[.ref M,.int z.mn,.int z.hd,.int z.s,.ref c]/\H M=some (.ins CM dm (ml g h z.nr b))/\H h=some (.tup rv)/\RowsAt H rv rows/\(∀r∈rows,r.good)/\BxAt H b bx m/\ja z.p bx/\m<=5000/\Gm CG H g z.ns z.ts z.p/\AkOk z/\(H c=some (.lst (z.to.map V.int))∨H c=some (.tup (z.to.map V.int)))/\0<=z.mn/\z.mn<=500/\
 ∀(l:Addr)(H':Hp),H l=none->H' l=some (.lst ((nY z.mn (jI z rows 200 ⟨0,bx,[]⟩).sd).map V.int))->BxAt H' b (jI z rows 200 ⟨0,bx,[]⟩).bx (m+200)->H' M=some (.ins CM dm (ml g h (z.nr+1) b))->CY M b H H'->Q (.ref l) H'
theorem gC:FnScope ["self","many","due","s","coins","asking","said","place","done"] ["self","many","due","s","coins"] (af lc):=⟨rfl,rfl,rfl,by decide +kernel,rfl,by decide +kernel,by decide +kernel⟩
theorem zP(k:Nat)(x:V):(List.replicate k [x]).flatten=List.replicate k x:=by
 induction k with
 | zero=>rfl
 | succ k ih=>rw[List.replicate_succ,List.flatten_cons,ih,List.replicate_succ];rfl
def tSayE:TS:=fun Dn σ H=>∃(x0 x2 x3 x4 x5 x7 x8:Option V)(sd:Addr)(mn:Int)(xs:List Int),σ=[x0,some (.int mn),x2,x3,x4,x5,some (.ref sd),x7,x8]/\H sd=some (.lst (xs.map V.int))/\xs.length<=200/\0<=mn/\mn<=500/\
 ∀(l:Addr)(H':Hp),H l=none->Same H H'->H' l=some (.lst ((nY mn xs).map V.int))->Dn.rt (.ref l) H'
theorem Cs {f fA fR:Addr} {fd fdA fdR:FuncData} (F:Fun K "say" "Machine.say" lc f fd) (B:Bl mg) (TM:MTxt K mg CM) (TA:ATxt K mg CA) (hmost:∃t,mg "MOST_ROWS_DONE"=some (.int 200 t))
 (MA:Mk K CA fA) (GA:FnOk P w K mg base CX0 1 fA fdA ["self","game","number","many","due","s","coins"] (vY CA)) (bA:Binds K fdA ["self","game","number","many","due","s","coins"] [])
 (mR:Meth K CM "do_row" fR) (GR:FnOk P w K mg base CX0 24 fR fdR ["self","place","said","asking"] (zh CM CA CG)) (bR:Binds K fdR ["self","place","said","asking"] []):FnOk P w K mg base CX0 25 f fd ["self","many","due","s","coins"] (Di CM CG):=by
 refine F.ok gC (fun vs H Q E h=>?_) (fun cdv A outer s H vs Q E hr h=>?_)
 . obtain⟨M,g,h,b,dm,c,rv,z,rows,bx,m,rfl,_⟩:=h;rfl
 obtain ⟨M,g,h,b,dm,c,rv,z,rows,bx,m,rfl,hM,hh,RW,rq,BX,bo,mm,GG,ok,hc,mn0,mn1,q⟩:=h;obtain⟨a',b',d',tv,G,hga,hgb,TS,hgd⟩:=GG;obtain⟨te,ge⟩:=hmost;have hr2:Room (1+1) _:=hr.mono (by decide);have hr7:Room 24 _:=hr.mono (by decide);refine⟨_,(ad (ay (i:=5) gC.nd rfl (Or.inl rfl) (gE MA GA hr2 rfl TA.mgC bA .nil bY (aa (au (pv 0) rfl) (aa (au (pv 0) rfl) (aa (pv 1) (aa (pv 2) (aa (pv 3) (aa (pv 4) ae))))))))
  (ad (aX (pv 0) (ao bn (au (pv 0) rfl) ai) rfl)
  (ad (ay (i:=6) gC.nd rfl (Or.inl rfl) (da ae))
  (ad (ay (i:=7) gC.nd rfl (Or.inl rfl) ai)
  (ad (ay (i:=8) gC.nd rfl (Or.inl rfl) ai)
  (ad (iP PassesOwn.never (PW.pt (qD (ax iS (pv 7) (aO aM rfl B.len PySem.boot_len (aa (au (pv 0) rfl) ae)) (aF _)) (qD (ax iS (aO aM rfl B.len PySem.boot_len (aa (pv 6) ae)) (pv 1) (aF _)) (qC (ax iS (pv 8) (dj (v:=.int 200) rfl ge ⟨_,rfl⟩) (aF _)))))) (ad (ay (i:=7) gC.nd rfl (Or.inl rfl) (cZ (pv 0) TM.cl mR GR hr7 bR .nil bY (aa (pv 7) (aa (pv 6) (aa (pv 5) ae)))))
   (ag (ay (i:=8) gC.nd rfl (Or.inl rfl) (ao bn (pv 8) ai)))))
  (qF (t':=tSayE) (ag (aD (ao qL (pv 6) (ao Ei (da (aa ai ae)) (ao cj (pv 1) (aO aM rfl B.len PySem.boot_len (aa (pv 6) ae))))))) (by
   rintro Dn σ H ⟨x0,x2,x3,x4,x5,x7,x8,sd,mn,xs,rfl,hsd,xl,mn0,mn1,q⟩;refine⟨_,rfl,(by show 1<=sizeLine;decide),fun z hz=>?_⟩;have I1:=zD0 hz (.lst [.int 0]);have g1:upd H z (.lst [.int 0]) z=some (.lst [.int 0]):=am;generalize upd H z (.lst [.int 0])=H1 at I1 g1;refine⟨_,rfl,_,rfl,sd,_,rfl,.inl (zI0 (I1 _ _ hsd)),_,_,rfl,rfl,?_⟩;have el:((xs.map V.int).length:Int)=(xs.length:Int):=by rw[zG0]
   refine⟨z,_,_,rfl,rfl,g1,by omega,by omega,eC (by show 1*(mn-((xs.map V.int).length:Int)).toNat<=1000;omega),fun y hy=>?_⟩;rw[zP];have I2:=zD0 hy (.lst (List.replicate (mn-((xs.map V.int).length:Int)).toNat (.int 0)));have g2:upd H1 y (.lst (List.replicate (mn-((xs.map V.int).length:Int)).toNat (.int 0))) y=some (.lst (List.replicate (mn-((xs.map V.int).length:Int)).toNat (.int 0))):=am;generalize upd H1 y (.lst (List.replicate (mn-((xs.map V.int).length:Int)).toNat (.int 0)))=H2 at I2 g2;refine⟨sd,y,_,_,rfl,rfl,I2 _ _ (I1 _ _ hsd),g2,?_,fun l hl=>?_⟩
   . rw[List.length_replicate,zG0];exact eC (by omega)
   refine q l _ ?_ (I1.trans (I2.trans (zD0 hl _))) ?_
   . cases e:H l with
     | none=>rfl
     | some o=>rw[I2 _ _ (I1 _ _ e)]at hl;cases hl
   . rw[am,el];unfold nY;rw[zM0,List.map_replicate])))))))),?_⟩
 refine ⟨_,rfl,M,CM,dm,_,_,rfl,hM,TM.cl,TM.nG,ml_g,_,rfl,M,CM,dm,_,_,rfl,hM,TM.cl,TM.nR,Eo,_,rfl,_,rfl,_,rfl,_,rfl,fun k dk hk hdk nk=>?_⟩;have S1:Same H (upd (upd H dk (.own k)) k (.ins CA dk [])):=fun a o e=>by
  rw[aq (aN e hk),aq (aN e hdk)];exact e
 have g1:upd (upd H dk (.own k)) k (.ins CA dk []) k=some (.ins CA dk []):=am;generalize upd (upd H dk (.own k)) k (.ins CA dk [])=H1 at S1 g1;refine⟨k,dk,g,c,z.nr,z.mn,z.hd,z.s,z.to.map V.int,rfl,g1,hc.imp (S1 _ _) (S1 _ _),fun aT H2 hk2 hT2 S2=>⟨rfl,?_⟩⟩;have S02:Same H H2:=Same.but S1 hk S2;clear S1 S2 g1;have hM2:=S02 _ _ hM;refine⟨_,rfl,M,CM,dm,_,_,rfl,hM2,TM.cl,TM.nR,Eo,_,_,rfl,rfl,_,rfl,M,CM,dm,_,rfl,hM2,TM.cl,TM.nR,uU,?_⟩;rw[AJ];have nMk:M≠k:=aN hM hk;have S3:SameBut M H2 (upd H2 M (.ins CM dm (ml g h (z.nr+1) b))):=SameBut.upd _;have hM3:upd H2 M (.ins CM dm (ml g h (z.nr+1) b)) M=some (.ins CM dm (ml g h (z.nr+1) b)):=am;generalize upd H2 M (.ins CM dm (ml g h (z.nr+1) b))=H3 at S3 hM3;refine⟨(by show 0<=sizeLine;decide),fun sd hsd=>?_⟩;have I4:=zD0 hsd (.lst []);have g4:upd H3 sd (.lst []) sd=some (.lst []):=am;generalize upd H3 sd (.lst [])=H4 at I4 g4;have gM:g≠M:=fun e=>by
  obtain⟨dg,hg⟩:=G;rw[e,hM]at hg;cases hg
 have nbM:b≠M:=by
  obtain⟨kvs,e,_⟩:=BX;exact bq e hM (by intro z;cases z)
 have S04:SameBut M H H4:=(zL0 S02).trans (S3.trans (zL0 I4));have hM4:=I4 _ _ hM3;have kT:dA H H4:=fun c xs h=>S04 c _ (bq h hM (by intro z;cases z)) h
 have hh4:=kT _ _ hh;have RW4:=RW.mono kT;have BX4:BxAt H4 b bx m:=BX.keep fun o e=>S04 b o nbM e
 have G4:GameAt CG H4 g a' b' d' z.p:=by
  obtain⟨dg,hg⟩:=G;exact⟨dg,S04 _ _ gM hg⟩
 have hT4:H4 aT=some (.tup (z.to.map V.int)):=I4 _ _ (S3 _ _ (bq hT2 hM2 (by intro z;cases z)) hT2);have hgd4:=S04 _ _ (bq hgd hM (by intro z;cases z)) hgd;have nds:d'≠sd:=aN (S3 _ _ (bq hgd hM (by intro z;cases z)) (S02 _ _ hgd)) hsd;have hk4:=I4 _ _ (S3 _ _ nMk.symm hk2);have b4:∃kvs,H4 b=some (.dK kvs):=by
  obtain⟨kvs,e,_⟩:=BX4;exact⟨kvs,e⟩
 obtain⟨kv4,hb4⟩:=b4;have nbs:b≠sd:=bq hb4 g4 (by intro z;cases z);have nhb:h≠b:=bq hh4 hb4 (by intro z;cases z);have nhs:h≠sd:=bq hh4 g4 (by intro z;cases z);have nMs:M≠sd:=bq hM4 g4 (by intro z;cases z);have nkb:k≠b:=bq hk4 hb4 (by intro z;cases z);have nks:k≠sd:=bq hk4 g4 (by intro z;cases z);have AK4:AkAt CA CG H4 k g sd z:=⟨dk,aT,a',b',d',tv,.non,hk4,G4,kT _ _ hga,kT _ _ hgb,TS.mono kT,hgd4,nds,hT4,.inl rfl⟩
 have sd0:H sd=none:=by
  cases e:H sd with
  | none=>rfl
  | some o=>rw[S3 _ _ nMs.symm (S02 _ _ e)]at hsd;cases hsd
 refine ⟨fun mm σ H'=>∃(st:MS)(d:Nat),σ=[some (.ref M),some (.int z.mn),some (.int z.hd),some (.int z.s),some (.ref c),some (.ref k),some (.ref sd),some (.int st.pl),some (.int (d:Int))]/\d<=200/\mm=200-d/\0<=st.pl/\st.sd.length<=d/\jI z rows (200-d) st=jI z rows 200 ⟨0,bx,[]⟩/\H' sd=some (.lst (st.sd.map V.int))/\BxAt H' b st.bx (m+d)/\ja z.p st.bx/\cg st.sd z.p/\AkAt CA CG H' k g sd z/\But3 b sd k H4 H',
  ⟨_,⟨0,bx,[]⟩,0,rfl,zZ0 _,rfl,Int.le_refl 0,zF0 _,rfl,g4,BX4,bo,(fun x hx=>by cases hx),AK4,fun _ _ _ _ _ e=>e⟩,?_⟩
 rintro mm σ H' ⟨st,d,rfl,d2,rfl,st0,sl,hrun,hsd',BX',bo',so',AK',S'⟩;have hM':=S' _ _ nbM.symm nMs nMk hM4;have hh':=S' _ _ nhb nhs (bq hh4 hk4 (by intro z;cases z)) hh4;have kT':dA H4 H':=fun c xs h=>S' c _ (bq h hb4 (by intro z;cases z)) (bq h g4 (by intro z;cases z)) (bq h hk4 (by intro z;cases z)) h
 have RW':=RW4.mono kT';have fin:jI z rows (200-d) st=st->∀(l:Addr)(H5:Hp),H' l=none->Same H' H5->H5 l=some (.lst ((nY z.mn st.sd).map V.int))->Q (.ref l) H5:=fun er l H5 l0 S5 hl=>by
  rw[er]at hrun;rw[←hrun]at q;refine q l H5 ?_ hl ((BX'.keep fun o e=>S5 b o e).le (by omega)) (S5 _ _ hM') (fun a o h1 h2 e=>?_)
  . cases e:H l with
    | none=>rfl
    | some o=>
      have lM:l≠M:=fun z=>by rw[z,hM']at l0;cases l0
      have lb:l≠b:=fun z=>by
       obtain⟨kvs,e',_⟩:=BX';rw[z,e']at l0;cases l0
      have ls:l≠sd:=fun z=>by rw[z,hsd']at l0;cases l0
      rw[S' _ _ lb ls (aN e hk) (S04 _ _ lM e)]at l0;cases l0
  . exact S5 _ _ (S' _ _ h2 (aN e sd0) (aN e hk) (S04 _ _ h1 e))
 refine⟨_,rfl,_,rfl,M,CM,dm,_,_,rfl,hM',TM.cl,TM.nH,CC,h,_,rfl,.inr (zE0 hh'),_,_,rfl,rfl,_,rfl,?_⟩;rw[RW.1]
 by_cases c1:st.pl<(rows.length:Int)
 . refine bz c1 ?_;refine⟨_,rfl,sd,_,rfl,.inl (zI0 hsd'),_,rfl,_,_,rfl,rfl,_,rfl,?_⟩;rw[zG0]
   by_cases c2:(st.sd.length:Int)<z.mn
   . refine bz c2 ?_;refine⟨_,rfl,_,_,rfl,rfl,_,rfl,?_⟩
     by_cases c3:d<200
     . refine bz (by omega) ?_;refine⟨_,fun _ _ h=>h,?_⟩;refine⟨_,rfl,M,dm,_,rfl,hM',ml_n1,_,rfl,_,rfl,_,rfl,M,g,h,b,dm,k,sd,rv,_,st.pl,z,rows,st.bx,m+d,st.sd,rfl,hM',nMk,hh',RW',rq,st0,c1,BX',bo',by omega,hsd',by omega,AK',ok,fun H6 hs6 BX6 A6 S6=>?_⟩;refine⟨_,rfl,_,_,rfl,rfl,?_⟩;refine⟨_,(show 200-(d+1)<200-d by omega),dI z rows st,d+1,rfl,c3,rfl,zb rq st0,qB0 rK (Nat.succ_le_succ sl),?_,hs6,BX6,(ng ok bo' so').1,(ng ok bo' so').2,A6,S'.trans S6⟩;rw[←hrun,show 200-d=(200-(d+1))+1 by omega];exact(zB0 ⟨c1,c2⟩).symm
     . refine aI (by omega) ?_;have ed:200-d=0:=by omega
       exact⟨_,_,_,_,_,_,_,sd,z.mn,st.sd,rfl,hsd',by omega,mn0,mn1,fin (by rw[ed];rfl)⟩
   . refine aI c2 (gx ?_);refine⟨_,_,_,_,_,_,_,sd,z.mn,st.sd,rfl,hsd',by omega,mn0,mn1,fin ?_⟩;cases 200-d with
     | zero=>rfl
     | succ n=>exact zA0 (fun z=>c2 z.2)
 . refine aI c1 (gx ?_);refine⟨_,_,_,_,_,_,_,sd,z.mn,st.sd,rfl,hsd',by omega,mn0,mn1,fin ?_⟩;cases 200-d with
   | zero=>rfl
   | succ n=>exact zA0 (fun z=>c1 z.1)
end
section
variable {ns:List Str} {ts:List Tr} {p:Int}
theorem mF(k:GmK ns ts p)(x:Str):0<=bd ts x/\bd ts x<=400:=by
 have t0:ts≠[]:=fun z=>by have:=k.t1;rw[z]at this;cases this
 have:=iT (ns:=ts.map fun t=>(t.names.count x:Int)) (by simpa using t0)
 obtain⟨t,ht,e⟩:=List.mem_map.mp this;unfold bd;rw[←e];have h1:=List.count_le_length (a:=x) (l:=t.names);have h2:=t.names_len;have h3:=(k.tok t ht).2.2.2;omega
end
structure HearOk(ns:List Str)(p:Int)(z:Db)(xs:List Int):Prop where
 aw:z.aw=(("hear":Str),some (xs.length:Int))
 xo:cg xs p
 x5:xs.length<=500
 ro:z.cl≠[]->jP xs p
 tl:z.to.length<=ns.length
 po:cg z.to p
structure TossOk(ns:List Str)(p:Int)(z:Db)(r:Int):Prop where
 aw:z.aw.1="coin"
 r0:0<=r
 r1:r<p
 tl:z.to.length<=ns.length
 ro:z.he≠[]->jP z.he p/\z.to.length<ns.length
 po:cg z.to p
section
variable {C CG cT cC cN:Addr}
structure Gd(ns:List Str)(ts:List Tr)(p:Int)(z:Db):Prop where
 tl:z.to.length<=ns.length
 po:cg z.to p
 e0:0<=z.ed
 e1:z.ed<p
 he:z.aw.1="hear" -> (z.cl=[]/\z.aw=(("hear":Str),some (ts.length:Int)))∨(z.cl≠[]/\z.to.length<ns.length/\z.aw=(("hear":Str),some (bd ts (ns.getD z.to.length "")+1)))
 co:z.aw.1="coin" -> z.cl≠[]/\(z.he≠[]->jP z.he p/\z.to.length<ns.length)
 h0:z.cl=[]->z.he=[]
 ww:AwW z.aw.1
section
variable {ns:List Str} {ts:List Tr} {p:Int} {z:Db}
theorem Gd.new(k:GmK ns ts p):Gd ns ts p (Db.new ts):=by
 have:=k.p2
 exact⟨zZ0 _,(fun x hx=>by cases hx),Int.le_refl _,(by show(0:Int)<p;omega),fun _=>.inl ⟨rfl,rfl⟩,(fun h=>by cases h),fun _=>rfl,.inl rfl⟩
theorem Gd.goOn(tl:z.to.length<=ns.length)(po:cg z.to p)(e0:0<=z.ed)(e1:z.ed<p)(cl:z.cl≠[]):Gd ns ts p (goOn ns ts p z):=by
 unfold Mine.goOn
 by_cases c:z.to.length<ns.length
 . rw[zB0 c];exact⟨tl,po,e0,e1,fun _=>.inr ⟨cl,c,rfl⟩,(fun h=>by cases h),fun h=>absurd h cl,.inl rfl⟩
 . rw [zA0 c];unfold dh
   by_cases e:z.ed=hor z.s p (ts.map fun t=>t.worth ns z.to p)
   . rw[zB0 e];exact⟨tl,po,e0,e1,(fun h=>by cases h),(fun h=>by cases h),fun h=>absurd h cl,.inr (.inr (.inr rfl))⟩
   . rw[zA0 e];exact⟨tl,po,e0,e1,(fun h=>by cases h),(fun h=>by cases h),fun h=>absurd h cl,.inr (.inr (.inl rfl))⟩
theorem Gd.hear_ne(k:GmK ns ts p)(h:Gd ns ts p z){xs:List Int}(ok:HearOk ns p z xs):xs≠[]:=fun e=>by
 have a:=ok.aw;rw[e,List.length_nil]at a;have t1:=k.t1;rcases h.he (by rw[a])with⟨_,w⟩ | ⟨_,_,w⟩
 . rw [w]at a
   have:=zR0 (Prod.mk.inj a).2
   omega
 . rw [w]at a
   have:=zR0 (Prod.mk.inj a).2
   have:=mF k (ns.getD z.to.length "")
   omega
theorem Gd.hear(k:GmK ns ts p)(h:Gd ns ts p z){xs:List Int}(ok:HearOk ns p z xs):Gd ns ts p (cD ns ts p xs z)/\(cD ns ts p xs z).cl≠[]:=by
 have p2:=k.p2;have xn:=h.hear_ne k ok;have a1:z.aw.1="hear":=by rw[ok.aw]
 unfold cD
 by_cases c:z.cl=[]
 . rw [zB0 c];unfold iy
   by_cases c1:ts.length=1
   . rw [zB0 c1];unfold pk;have hr:=jF (s:=0) (p:=p) (by omega) xs;refine⟨Gd.goOn h.tl h.po hr.1 hr.2 xn,?_⟩;unfold Mine.goOn dh
     split <;> exact xn
   . rw[zA0 c1];exact⟨⟨h.tl,h.po,h.e0,h.e1,(fun z=>by cases z),fun _=>⟨xn,fun e=>absurd (h.h0 c) e⟩,fun e=>absurd e xn,.inr (.inl rfl)⟩,xn⟩
 . rw [zA0 c];unfold de;have tl:z.to.length<ns.length:=by
    rcases h.he a1 with⟨e,_⟩ | ⟨_,t,_⟩
    . exact absurd e c
    . exact t
   by_cases e:(val p xs 0+val p xs 1) % p=z.ed
   . rw[zB0 e];exact⟨⟨h.tl,h.po,h.e0,h.e1,(fun z=>by cases z),fun _=>⟨c,fun _=>⟨ok.ro c,tl⟩⟩,fun e=>absurd e c,.inr (.inl rfl)⟩,c⟩
   . rw[zA0 e];exact⟨⟨h.tl,h.po,h.e0,h.e1,(fun z=>by cases z),(fun z=>by cases z),fun e=>absurd e c,.inr (.inr (.inl rfl))⟩,c⟩
theorem Gd.toss(k:GmK ns ts p)(h:Gd ns ts p z){r:Int}(ok:TossOk ns p z r):Gd ns ts p (dc ns ts p r z)/\(dc ns ts p r z).cl≠[]:=by
 have p2:=k.p2;obtain⟨cl,ro⟩:=h.co ok.aw;unfold dc
 by_cases c:z.he=[]
 . rw [zB0 c];unfold pk;have hr:=jF (s:=r) (p:=p) (by omega) z.cl;refine⟨Gd.goOn h.tl h.po hr.1 hr.2 cl,?_⟩;unfold Mine.goOn dh
   split <;> exact cl
 . rw [zA0 c];have hr:=BM (p:=p) (by omega) z.he r;refine⟨Gd.goOn ?_ (fun x hx=>?_) hr.1 hr.2 cl,?_⟩
   . show (z.to++[r]).length<=_;rw[zN0,qH0]
     have:=(ro c).2
     omega
   . rcases qL0 hx with h' | h'
     . exact h.po x h'
     . rw[zT0 h'];exact⟨ok.r0,ok.r1⟩
   . unfold Mine.goOn dh
     split <;> exact cl
end
end
structure Tk where
 z:Db
 bx:Str->Int
 nr:Int
def awN(z:Db):Int:=z.aw.2.getD 0
def Tk.ak(ns:List Str)(ts:List Tr)(p:Int)(t:Tk):Ak:=⟨ns,ts,p,t.nr,awN t.z,t.z.ed,t.z.s,t.z.to⟩
noncomputable def Tk.run(ns:List Str)(ts:List Tr)(p:Int)(rows:List Hr)(t:Tk):MS:=jI (t.ak ns ts p) rows 200 ⟨0,t.bx,[]⟩
noncomputable def Tk.said(ns:List Str)(ts:List Tr)(p:Int)(rows:List Hr)(t:Tk):List Int:=nY (awN t.z) (t.run ns ts p rows).sd
noncomputable def Tk.ask(ns:List Str)(ts:List Tr)(p:Int)(rows:List Hr)(t:Tk):Tk:=⟨cD ns ts p (t.said ns ts p rows) t.z,(t.run ns ts p rows).bx,t.nr+1⟩
noncomputable def Tk.toss(ns:List Str)(ts:List Tr)(p r:Int)(t:Tk):Tk:=⟨dc ns ts p r t.z,t.bx,t.nr⟩
def Tk.new(ts:List Tr):Tk:=⟨Db.new ts,fun _=>0,0⟩
def bt (ns:List Str) (z:Db):Nat:=if z.aw.1="hear" then 2*(ns.length-z.to.length)else if z.aw.1="coin" then(if z.he=[]then 2*ns.length+1 else 2*(ns.length-z.to.length)-1)else 0
def bO (ns:List Str) (z:Db):Nat:=if z.aw.1="hear" then ns.length-z.to.length else if z.aw.1="coin" then(if z.he=[]then ns.length+1 else ns.length-z.to.length)else 0
structure TkOk(ns:List Str)(ts:List Tr)(p:Int)(t:Tk):Prop where
 gd:Gd ns ts p t.z
 cl:t.z.cl≠[]
 s0:0<=t.z.s
 s1:t.z.s<p
 bo:ja p t.bx
 nr:1<=t.nr
 fi:t.z.aw.1="coin" -> t.z.he=[]->t.z.to=[]
section
variable {ns:List Str} {ts:List Tr} {p:Int} {t:Tk} {rows:List Hr}
theorem gr:¬ (("coin":Str)="hear"):=by decide +kernel
theorem sI:¬ (("caught":Str)="hear"):=by decide +kernel
theorem ne_w3:¬ (("caught":Str)="coin"):=by decide +kernel
theorem wx:¬ (("believed":Str)="coin"):=by decide +kernel
theorem jX(z:Db):(goOn ns ts p z).s=z.s/\(goOn ns ts p z).to=z.to/\(goOn ns ts p z).he=z.he/\(goOn ns ts p z).cl=z.cl:=by
 unfold goOn dh
 split <;> exact⟨rfl,rfl,rfl,rfl⟩
theorem jG (z:Db):¬ (goOn ns ts p z).aw.1="coin":=by
 unfold goOn dh
 split
 . exact fun h=>gr h.symm
 . show ¬ (if _ then _ else _:Str×Option Int).1="coin"
   split
   . exact wx
   . exact ne_w3
theorem lD(z:Db):bt ns (goOn ns ts p z)<=2*(ns.length-z.to.length)/\bO ns (goOn ns ts p z)<=ns.length-z.to.length:=by
 obtain⟨_,e,_⟩:=jX (ns:=ns) (ts:=ts) (p:=p) z;have no:=jG (ns:=ns) (ts:=ts) (p:=p) z;unfold bt bO;rw[e,zA0 no,zA0 no]
 constructor <;> split <;> omega
theorem TkOk.ak (k:GmK ns ts p) (n6:ns.length<=6) (h:TkOk ns ts p t) (hw:t.z.aw.1="hear"):AkOk (t.ak ns ts p)/\0<=awN t.z/\awN t.z<=500/\t.z.to.length<ns.length/\t.z.aw=(("hear":Str),some (awN t.z))/\awN t.z=bd ts (ns.getD t.z.to.length "")+1:=by
 rcases h.gd.he hw with⟨e,_⟩ | ⟨_,tl,aw⟩
 . exact absurd e h.cl
 have ea:awN t.z=bd ts (ns.getD t.z.to.length "")+1:=by unfold awN;rw[aw];rfl
 obtain⟨d0,d4⟩:=mF k (ns.getD t.z.to.length "");have nr:=h.nr;refine⟨⟨k,n6,by show 0<=t.nr;omega,fun _=>tl,h.gd.po,h.s0,h.s1,h.gd.e0,h.gd.e1,by show t.z.to.length<=100;omega⟩,by omega,by omega,tl,by rw[ea];exact aw,ea⟩
theorem TkOk.hear (k:GmK ns ts p) (n6:ns.length<=6) (h:TkOk ns ts p t) (hw:t.z.aw.1="hear"):HearOk ns p t.z (t.said ns ts p rows):=by
 obtain ⟨ok,a0,a5,tl,aw,ea⟩:=h.ak k n6 hw;have p2:=k.p2;have p9:=k.p9;obtain⟨_,r2,r3⟩:=kj (rows:=rows) ok 200 ⟨0,t.bx,[]⟩ h.bo (fun x hx=>by cases hx) a0;have xo:cg (t.said ns ts p rows) p:=wo r2 (by show 0<p;omega);have xl:((t.said ns ts p rows).length:Int)=awN t.z:=sw r3;have hx:ns.getD t.z.to.length ""∈ns:=by
  rw[qI0,zP0 tl];exact qM0 tl
 obtain⟨d0,d1⟩:=k.deg _ hx;obtain⟨_,d4⟩:=mF k (ns.getD t.z.to.length "");refine⟨by rw[xl];exact aw,xo,by omega,fun _=>⟨by omega,by omega,by omega,fun j=>?_⟩,h.gd.tl,h.gd.po⟩
 have:=oC xo (by omega) j
 omega
theorem vj(z:Db)(xs:List Int)(x0:xs≠[]):bt ns (de p xs z)<=2*(ns.length-z.to.length)-1/\bO ns (de p xs z)<=ns.length-z.to.length:=by
 have h1:(de p xs z).to=z.to:=rfl;have h2:(de p xs z).he=xs:=rfl;unfold bt bO;rw[h1,h2,zA0 x0,zA0 x0];have nh:¬ (de p xs z).aw.1="hear":=by
  unfold de;show ¬ (if _ then _ else _:Str×Option Int).1="hear"
  split
  . exact gr
  . exact sI
 rw[zA0 nh,zA0 nh]
 constructor <;> split <;> omega
theorem TkOk.ask (k:GmK ns ts p) (n6:ns.length<=6) (h:TkOk ns ts p t) (hw:t.z.aw.1="hear"):TkOk ns ts p (t.ask ns ts p rows)/\bt ns (t.ask ns ts p rows).z<bt ns t.z/\bO ns (t.ask ns ts p rows).z<=bO ns t.z/\¬ (t.ask ns ts p rows).z.aw.1="hear":=by
 obtain⟨ok,a0,a5,tl,aw,ea⟩:=h.ak k n6 hw;have ho:=h.hear (rows:=rows) k n6 hw;obtain⟨r1,_,_⟩:=kj (rows:=rows) ok 200 ⟨0,t.bx,[]⟩ h.bo (fun x hx=>by cases hx) a0;obtain⟨g1,g2⟩:=h.gd.hear k ho;have x0:=h.gd.hear_ne k ho;have e:cD ns ts p (t.said ns ts p rows) t.z=de p (t.said ns ts p rows) { t.z with pl:=t.z.pl+((t.said ns ts p rows).length:Int) }:=zA0 h.cl;have nr:=h.nr;obtain⟨l1,l2⟩:=vj (ns:=ns) (p:=p) { t.z with pl:=t.z.pl+((t.said ns ts p rows).length:Int) } _ x0;have s1:bt ns t.z=2*(ns.length-t.z.to.length):=zB0 hw;have s2:bO ns t.z=ns.length-t.z.to.length:=zB0 hw;refine⟨⟨g1,g2,?_,?_,r1,by show 1<=t.nr+1;omega,fun _ he=>?_⟩,?_,?_,?_⟩
 . show 0<=(cD ns ts p _ t.z).s;rw[e];exact h.s0
 . show(cD ns ts p _ t.z).s<p;rw[e];exact h.s1
 . have:(cD ns ts p (t.said ns ts p rows) t.z).he=[]:=he
   rw[e]at this;exact absurd this x0
 . show bt ns (cD ns ts p _ t.z)<_;rw[e,s1];have l1':bt ns (de p (t.said ns ts p rows) { t.z with pl:=t.z.pl+((t.said ns ts p rows).length:Int) })<=2*(ns.length-t.z.to.length)-1:=l1;omega
 . show bO ns (cD ns ts p _ t.z)<=_;rw[e,s2];exact l2
 . show ¬ (cD ns ts p _ t.z).aw.1="hear";rw[e];unfold de;show ¬ (if _ then _ else _:Str×Option Int).1="hear"
   split
   . exact gr
   . exact sI
theorem TkOk.tossOk (h:TkOk ns ts p t) (hw:t.z.aw.1="coin") {r:Int} (r0:0<=r) (r1:r<p):TossOk ns p t.z r:=⟨hw,r0,r1,h.gd.tl,(h.gd.co hw).2,h.gd.po⟩
theorem TkOk.toss (k:GmK ns ts p) (h:TkOk ns ts p t) (hw:t.z.aw.1="coin") {r:Int} (r0:0<=r) (r1:r<p):TkOk ns ts p (t.toss ns ts p r)/\bt ns (t.toss ns ts p r).z<bt ns t.z/\bO ns (t.toss ns ts p r).z+1<=bO ns t.z/\¬ (t.toss ns ts p r).z.aw.1="coin"/\(t.z.he=[]->(t.toss ns ts p r).z.s=r/\(t.toss ns ts p r).z.to=[])/\(t.z.he≠[]->(t.toss ns ts p r).z.s=t.z.s/\(t.toss ns ts p r).z.to=t.z.to++[r]):=by
 have ok:=h.tossOk hw r0 r1;obtain⟨g1,g2⟩:=h.gd.toss k ok;have nh:¬ t.z.aw.1="hear":=by rw[hw];exact gr
 have s1:bt ns t.z=if t.z.he=[]then 2*ns.length+1 else 2*(ns.length-t.z.to.length)-1:=by unfold bt;rw[zA0 nh,zB0 hw]
 have s2:bO ns t.z=if t.z.he=[]then ns.length+1 else ns.length-t.z.to.length:=by unfold bO;rw[zA0 nh,zB0 hw]
 have nr:=h.nr
 by_cases c:t.z.he=[]
 . have et:=h.fi hw c;have e:dc ns ts p r t.z=goOn ns ts p { t.z with pl:=t.z.pl+1,s:=r,ed:=hor r p t.z.cl }:=zB0 c;have lw:=jX (ns:=ns) (ts:=ts) (p:=p) { t.z with pl:=t.z.pl+1,s:=r,ed:=hor r p t.z.cl };have ll:=lD (ns:=ns) (ts:=ts) (p:=p) { t.z with pl:=t.z.pl+1,s:=r,ed:=hor r p t.z.cl };have ln:=jG (ns:=ns) (ts:=ts) (p:=p) { t.z with pl:=t.z.pl+1,s:=r,ed:=hor r p t.z.cl };rw[←e]at lw ll ln;obtain⟨w1,w2,w3,w4⟩:=lw;have l1:bt ns (dc ns ts p r t.z)<=2*(ns.length-t.z.to.length):=ll.1;have l2:bO ns (dc ns ts p r t.z)<=ns.length-t.z.to.length:=ll.2;rw[zB0 c]at s1 s2;refine⟨⟨g1,g2,?_,?_,h.bo,nr,fun a=>absurd a ln⟩,?_,?_,ln,fun _=>⟨w1,w2.trans et⟩,fun z=>absurd c z⟩
   . show 0<=(dc ns ts p r t.z).s;rw[w1];exact r0
   . show(dc ns ts p r t.z).s<p;rw[w1];exact r1
   . show bt ns (dc ns ts p r t.z)<_;omega
   . show bO ns (dc ns ts p r t.z)+1<=_;omega
 . have tl:=((h.gd.co hw).2 c).2;have e:dc ns ts p r t.z=goOn ns ts p { t.z with pl:=t.z.pl+1,ed:=val p t.z.he r,to:=t.z.to++[r] }:=zA0 c;have lw:=jX (ns:=ns) (ts:=ts) (p:=p) { t.z with pl:=t.z.pl+1,ed:=val p t.z.he r,to:=t.z.to++[r] };have ll:=lD (ns:=ns) (ts:=ts) (p:=p) { t.z with pl:=t.z.pl+1,ed:=val p t.z.he r,to:=t.z.to++[r] };have ln:=jG (ns:=ns) (ts:=ts) (p:=p) { t.z with pl:=t.z.pl+1,ed:=val p t.z.he r,to:=t.z.to++[r] };rw[←e]at lw ll ln;obtain⟨w1,w2,w3,w4⟩:=lw;have el:(t.z.to++[r]).length=t.z.to.length+1:=by rw[zN0];rfl
   have l1:bt ns (dc ns ts p r t.z)<=2*(ns.length-(t.z.to++[r]).length):=ll.1;have l2:bO ns (dc ns ts p r t.z)<=ns.length-(t.z.to++[r]).length:=ll.2;rw[el]at l1 l2;rw[zA0 c]at s1 s2;refine⟨⟨g1,g2,?_,?_,h.bo,nr,fun a=>absurd a ln⟩,?_,?_,ln,fun z=>absurd z c,fun _=>⟨w1,w2⟩⟩
   . show 0<=(dc ns ts p r t.z).s;rw[w1];exact h.s0
   . show(dc ns ts p r t.z).s<p;rw[w1];exact h.s1
   . show bt ns (dc ns ts p r t.z)<_;omega
   . show bO ns (dc ns ts p r t.z)+1<=_;omega
theorem Ay(k:GmK ns ts p)(n6:ns.length<=6):AkOk ((Tk.new ts).ak ns ts p)/\awN (Tk.new ts).z=(ts.length:Int)/\HearOk ns p (Db.new ts) ((Tk.new ts).said ns ts p rows)/\ja p (Tk.new ts).bx:=by
 have p2:=k.p2;have t1:=k.t1;have t10:=k.t10;have b0:ja p (Tk.new ts).bx:=fun x=>by show(0:Int)<=0/\(0:Int)<p;omega
 have ok:AkOk ((Tk.new ts).ak ns ts p):=⟨k,n6,Int.le_refl 0,fun z=>absurd z (by show ¬ (0:Int)<0;omega),(fun x hx=>by cases hx),Int.le_refl 0,(by show(0:Int)<p;omega),Int.le_refl 0,(by show(0:Int)<p;omega),zZ0 _⟩
 obtain⟨_,r2,r3⟩:=kj (rows:=rows) ok 200 ⟨0,(Tk.new ts).bx,[]⟩ b0 (fun x hx=>by cases hx) (by show(0:Int)<=(ts.length:Int);omega);have xl:(((Tk.new ts).said ns ts p rows).length:Int)=(ts.length:Int):=sw r3;refine⟨ok,rfl,⟨?_,wo r2 (by show 0<p;omega),by omega,fun z=>absurd rfl z,zZ0 _,fun x hx=>by cases hx⟩,b0⟩;rw[xl];rfl
theorem kA (k:GmK ns ts p) (n6:ns.length<=6):TkOk ns ts p ((Tk.new ts).ask ns ts p rows)/\bt ns ((Tk.new ts).ask ns ts p rows).z<=2*ns.length+1/\bO ns ((Tk.new ts).ask ns ts p rows).z<=ns.length+(if 1<ts.length then 1 else 0)/\(1<ts.length->((Tk.new ts).ask ns ts p rows).z.aw=(("coin":Str),none)/\((Tk.new ts).ask ns ts p rows).z.he=[]/\((Tk.new ts).ask ns ts p rows).z.to=[])/\(¬ 1<ts.length->¬ ((Tk.new ts).ask ns ts p rows).z.aw.1="coin"/\((Tk.new ts).ask ns ts p rows).z.s=0/\((Tk.new ts).ask ns ts p rows).z.to=[]):=by
 have p2:=k.p2;have t1:=k.t1;obtain⟨ok,_,ho,b0⟩:=Ay (rows:=rows) k n6;obtain⟨r1,_,_⟩:=kj (rows:=rows) ok 200 ⟨0,(Tk.new ts).bx,[]⟩ b0 (fun x hx=>by cases hx) (by show(0:Int)<=(ts.length:Int);omega);obtain⟨g1,g2⟩:=(Gd.new k).hear k ho;have e0:cD ns ts p ((Tk.new ts).said ns ts p rows) (Db.new ts)=iy ns ts p ((Tk.new ts).said ns ts p rows) { Db.new ts with pl:=(Db.new ts).pl+(((Tk.new ts).said ns ts p rows).length:Int) }:=zB0 rfl
 by_cases c:ts.length=1
 . have e:cD ns ts p ((Tk.new ts).said ns ts p rows) (Db.new ts)=goOn ns ts p { Db.new ts with pl:=(Db.new ts).pl+(((Tk.new ts).said ns ts p rows).length:Int),cl:=(Tk.new ts).said ns ts p rows,s:=0,ed:=hor 0 p ((Tk.new ts).said ns ts p rows) }:=by
    rw[e0];exact zB0 c
   have lw:=jX (ns:=ns) (ts:=ts) (p:=p) { Db.new ts with pl:=(Db.new ts).pl+(((Tk.new ts).said ns ts p rows).length:Int),cl:=(Tk.new ts).said ns ts p rows,s:=0,ed:=hor 0 p ((Tk.new ts).said ns ts p rows) };have ll:=lD (ns:=ns) (ts:=ts) (p:=p) { Db.new ts with pl:=(Db.new ts).pl+(((Tk.new ts).said ns ts p rows).length:Int),cl:=(Tk.new ts).said ns ts p rows,s:=0,ed:=hor 0 p ((Tk.new ts).said ns ts p rows) };have ln:=jG (ns:=ns) (ts:=ts) (p:=p) { Db.new ts with pl:=(Db.new ts).pl+(((Tk.new ts).said ns ts p rows).length:Int),cl:=(Tk.new ts).said ns ts p rows,s:=0,ed:=hor 0 p ((Tk.new ts).said ns ts p rows) };rw[←e]at lw ll ln;obtain⟨w1,w2,w3,w4⟩:=lw;have l1:bt ns (cD ns ts p ((Tk.new ts).said ns ts p rows) (Db.new ts))<=2*(ns.length-0):=ll.1;have l2:bO ns (cD ns ts p ((Tk.new ts).said ns ts p rows) (Db.new ts))<=ns.length-0:=ll.2;refine⟨⟨g1,g2,?_,?_,r1,by show(1:Int)<=0+1;decide,fun a=>absurd a ln⟩,?_,?_,fun z=>by omega,fun _=>⟨ln,w1,w2⟩⟩
   . show 0<=(cD ns ts p _ (Db.new ts)).s;rw[w1];exact Int.le_refl 0
   . show(cD ns ts p _ (Db.new ts)).s<p;rw[w1];show(0:Int)<p;omega
   . show bt ns (cD ns ts p _ (Db.new ts))<=_;omega
   . show bO ns (cD ns ts p _ (Db.new ts))<=_;rw[zA0 (by omega)];omega
 . have e:cD ns ts p ((Tk.new ts).said ns ts p rows) (Db.new ts)={ Db.new ts with pl:=(Db.new ts).pl+(((Tk.new ts).said ns ts p rows).length:Int),cl:=(Tk.new ts).said ns ts p rows,aw:=("coin",none) }:=by
    rw[e0];exact zA0 c
   have ez:((Tk.new ts).ask ns ts p rows).z={ Db.new ts with pl:=(Db.new ts).pl+(((Tk.new ts).said ns ts p rows).length:Int),cl:=(Tk.new ts).said ns ts p rows,aw:=("coin",none) }:=e;refine⟨⟨g1,g2,?_,?_,r1,by show(1:Int)<=0+1;decide,fun _ _=>?_⟩,?_,?_,fun _=>⟨?_,?_,?_⟩,fun z=>by omega⟩
   . rw[ez];exact Int.le_refl 0
   . rw[ez];show(0:Int)<p;omega
   . rw[ez];rfl
   . rw[ez];show(if(("coin":Str)="hear")then _ else if(("coin":Str)="coin")then(if([]:List Int)=[]then 2*ns.length+1 else _)else 0)<=_;rw[zA0 gr,zB0 rfl,zB0 rfl];exact zF0 _
   . rw[ez];show(if(("coin":Str)="hear")then _ else if(("coin":Str)="coin")then(if([]:List Int)=[]then ns.length+1 else _)else 0)<=_;rw[zA0 gr,zB0 rfl,zB0 rfl,zB0 (by omega)];exact zF0 _
   . rw[ez]
   . rw[ez];rfl
   . rw[ez];rfl
end
inductive TR where
 | claims (xs:List Int) | say (xs:List Int) | coin (r:Int)
noncomputable def cJ(ns:List Str)(ts:List Tr)(p:Int)(rows:List Hr):List Int->Nat->Tk->List TR×Tk
 | _,0,t=>([],t)
 | cs,n+1,t=>if t.z.aw.1="hear" then(.say (t.said ns ts p rows)::(cJ ns ts p rows cs n (t.ask ns ts p rows)).1,(cJ ns ts p rows cs n (t.ask ns ts p rows)).2)
   else if t.z.aw.1="coin" then(.coin (cs.headD 0)::(cJ ns ts p rows cs.tail n (t.toss ns ts p (cs.headD 0))).1,(cJ ns ts p rows cs.tail n (t.toss ns ts p (cs.headD 0))).2)
   else([],t)
noncomputable def mV(ns:List Str)(ts:List Tr)(p:Int)(rows:List Hr)(cs:List Int):List TR×Tk:=(.claims ((Tk.new ts).said ns ts p rows)::(cJ ns ts p rows cs 20 ((Tk.new ts).ask ns ts p rows)).1,(cJ ns ts p rows cs 20 ((Tk.new ts).ask ns ts p rows)).2)
theorem df {ns:List Str} {ts:List Tr} {p:Int} {rows:List Hr} {cs:List Int} {t:Tk} (h1:¬ t.z.aw.1="hear") (h2:¬ t.z.aw.1="coin"):∀n,cJ ns ts p rows cs n t=([],t)
 | 0=>rfl
 | n+1=>by
   show(if _ then _ else _)=_;rw[zA0 h1,zA0 h2]
noncomputable def settle(ns:List Str)(ts:List Tr)(p:Int)(rows:List Hr):Nat->Tk->Tk
 | 0,t=>t
 | n+1,t=>if t.z.aw.1="hear" then settle ns ts p rows n (t.ask ns ts p rows)else t
def hR(f:Int->Int×Option (List Int)):Nat->Int×Option (List Int)
 | 0=>(0,none)
 | k+1=>((hR f k).1+(f (k:Int)).1,(hR f k).2.or (f (k:Int)).2)
noncomputable def dq(ns:List Str)(ts:List Tr)(p:Int)(rows:List Hr)(cn:Nat):Nat->Tk->List Int->Int×Option (List Int)
 | 0,_,_=>(0,none)
 | d+1,t,cs=>if(settle ns ts p rows 2 t).z.aw.1="believed" then(1,none)else if(settle ns ts p rows 2 t).z.aw.1="caught" then(0,some (cs++List.replicate (cn-cs.length) 0))
   else hR (fun r=>dq ns ts p rows cn d ((settle ns ts p rows 2 t).toss ns ts p r) (cs++[r])) p.toNat
def Beg(ns:List Str)(ts:List Tr)(p:Int)(t:Tk):Prop:=t=Tk.new ts∨TkOk ns ts p t
section
variable {ns:List Str} {ts:List Tr} {p:Int} {t:Tk} {rows:List Hr}
theorem cE (h:¬ t.z.aw.1="hear"):∀n,settle ns ts p rows n t=t
 | 0=>rfl
 | n+1=>zA0 h
theorem jh (k:GmK ns ts p) (n6:ns.length<=6) (h:TkOk ns ts p t):TkOk ns ts p (settle ns ts p rows 2 t)/\bO ns (settle ns ts p rows 2 t).z<=bO ns t.z/\¬ (settle ns ts p rows 2 t).z.aw.1="hear":=by
 by_cases c:t.z.aw.1="hear"
 . obtain⟨o1,_,o3,o4⟩:=h.ask (rows:=rows) k n6 c;have e:settle ns ts p rows 2 t=t.ask ns ts p rows:=(zB0 c).trans (cE o4 1);rw[e];exact⟨o1,o3,o4⟩
 . rw[cE c];exact⟨h,zF0 _,c⟩
theorem ik (k:GmK ns ts p) (n6:ns.length<=6):TkOk ns ts p (settle ns ts p rows 2 (Tk.new ts))/\bO ns (settle ns ts p rows 2 (Tk.new ts)).z<=ns.length+(if 1<ts.length then 1 else 0)/\¬ (settle ns ts p rows 2 (Tk.new ts)).z.aw.1="hear":=by
 obtain⟨o1,_,o3,_,_⟩:=kA (rows:=rows) k n6;have e:settle ns ts p rows 2 (Tk.new ts)=settle ns ts p rows 1 ((Tk.new ts).ask ns ts p rows):=zB0 rfl;rw[e]
 by_cases c:((Tk.new ts).ask ns ts p rows).z.aw.1="hear"
 . obtain⟨q1,_,q3,q4⟩:=o1.ask (rows:=rows) k n6 c;have e:settle ns ts p rows 1 ((Tk.new ts).ask ns ts p rows)=((Tk.new ts).ask ns ts p rows).ask ns ts p rows:=zB0 c;rw[e];exact⟨q1,qB0 q3 o3,q4⟩
 . rw[cE c];exact⟨o1,o3,c⟩
theorem Beg.settle (k:GmK ns ts p) (n6:ns.length<=6) (h:Beg ns ts p t):TkOk ns ts p (settle ns ts p rows 2 t)/\¬ (settle ns ts p rows 2 t).z.aw.1="hear":=by
 rcases h with rfl | h
 . exact⟨(ik k n6).1,(ik k n6).2.2⟩
 . exact⟨(jh k n6 h).1,(jh k n6 h).2.2⟩
theorem tQ (h:TkOk ns ts p t) (hn:¬ t.z.aw.1="hear") (h1:¬ t.z.aw.1="believed") (h2:¬ t.z.aw.1="caught"):t.z.aw.1="coin":=by
 rcases h.gd.ww with e | e | e | e
 . exact absurd e hn
 . exact e
 . exact absurd e h2
 . exact absurd e h1
structure AskOk(ns:List Str)(ts:List Tr)(p:Int)(rows:List Hr)(t:Tk):Prop where
 ak:AkOk (t.ak ns ts p)
 bo:ja p t.bx
 aw:t.z.aw=(("hear":Str),some (awN t.z))
 a0:0<=awN t.z
 a5:awN t.z<=500
 ho:HearOk ns p t.z (t.said ns ts p rows)
theorem Beg.ask (k:GmK ns ts p) (n6:ns.length<=6) (h:Beg ns ts p t) (hw:t.z.aw.1="hear"):AskOk ns ts p rows t:=by
 rcases h with rfl | h
 . obtain⟨ak0,an0,ho0,bo0⟩:=Ay (rows:=rows) k n6;have t1:=k.t1;have t10:=k.t10;exact⟨ak0,bo0,rfl,by rw[an0];omega,by rw[an0];omega,ho0⟩
 . obtain⟨ak,a0,a5,tl,aw,ea⟩:=h.ak k n6 hw;exact⟨ak,h.bo,aw,a0,a5,h.hear (rows:=rows) k n6 hw⟩
theorem Beg.asked (k:GmK ns ts p) (n6:ns.length<=6) (h:Beg ns ts p t) (hw:t.z.aw.1="hear"):TkOk ns ts p (t.ask ns ts p rows):=by
 rcases h with rfl | h
 . exact(kA (rows:=rows) k n6).1
 . exact(h.ask (rows:=rows) k n6 hw).1
end
section
variable {C CM CA CG:Addr}
structure TalkAt(C CM CG:Addr)(H:Hp)(D M g h b:Addr)(rows:List Hr)(ns:List Str)(ts:List Tr)(p:Int)(t:Tk)(m:Nat):Prop where
 DA:DbAt C H D g t.z
 G:Gm CG H g ns ts p
 hM:∃dm,H M=some (.ins CM dm (ml g h t.nr b))
 hh:∃rv,H h=some (.tup rv)/\RowsAt H rv rows
 BX:BxAt H b t.bx m
 ne:D≠M
theorem TalkAt.same{H H':Hp}{D M g h b:Addr}{rows:List Hr}{ns:List Str}{ts:List Tr}{p:Int}{t:Tk}{m:Nat}(w:TalkAt C CM CG H D M g h b rows ns ts p t m)(s:Same H H'):TalkAt C CM CG H' D M g h b rows ns ts p t m:=by
 obtain⟨DA,G,⟨dm,hM⟩,⟨rv,hh,R⟩,B,ne⟩:=w;exact⟨DA.same s,G.same s,⟨dm,s _ _ hM⟩,⟨rv,s _ _ hh,R.mono (bp s)⟩,B.keep fun o e=>s _ _ e,ne⟩
theorem DbAt.but2{H H':Hp}{D g M b:Addr}{z:Db}{C' dm:Addr}{fs:List (Str×V)}{kvs:List (Key×V)}(h:DbAt C H D g z)(s:CY M b H H')(hM:H M=some (.ins C' dm fs))(hb:H b=some (.dK kvs))(ne:D≠M):DbAt C H' D g z:=by
 obtain⟨dx,aA,aC,aH,aT,R⟩:=h;have kT:dA H H':=fun a xs e=>s _ _ (bq e hM (by intro z;cases z)) (bq e hb (by intro z;cases z)) e
 exact⟨dx,aA,aC,aH,aT,s _ _ ne (bq R.hD hb (by intro z;cases z)) R.hD,kT _ _ R.hA,kT _ _ R.hC,kT _ _ R.hH,kT _ _ R.hT⟩
theorem Gm.but2{H H':Hp}{g M b:Addr}{ns:List Str}{ts:List Tr}{p:Int}{dm g' h:Addr}{r:Int}{b':Addr}{kvs:List (Key×V)}(G:Gm CG H g ns ts p)(s:CY M b H H')(hM:H M=some (.ins CM dm (ml g' h r b')))(hb:H b=some (.dK kvs)):Gm CG H' g ns ts p:=by
 obtain⟨a,b1,d,tv,⟨dg,hg⟩,h2,h3,h4,h5⟩:=G;have kT:dA H H':=fun a xs e=>s _ _ (bq e hM (by intro z;cases z)) (bq e hb (by intro z;cases z)) e
 have gM:g≠M:=fun e=>by
  rw[e,hM]at hg;cases hg
 exact⟨a,b1,d,tv,⟨dg,s _ _ gM (bq hg hb (by intro z;cases z)) hg⟩,kT _ _ h2,kT _ _ h3,h4.mono kT,s _ _ (bq h5 hM (by intro z;cases z)) (bq h5 hb (by intro z;cases z)) h5⟩
theorem TalkAt.doub{H H':Hp}{D M g h b:Addr}{rows:List Hr}{ns:List Str}{ts:List Tr}{p:Int}{t:Tk}{m:Nat}{z':Db}(w:TalkAt C CM CG H D M g h b rows ns ts p t m)(s:SameBut D H H')(DA:DbAt C H' D g z'):TalkAt C CM CG H' D M g h b rows ns ts p ⟨z',t.bx,t.nr⟩ m:=by
 obtain⟨DA0,G,⟨dm,hM⟩,⟨rv,hh,R⟩,B,ne⟩:=w;obtain⟨dx,aA,aC,aH,aT,R0⟩:=DA0;have kT:dA H H':=fun a xs e=>s _ _ (bq e R0.hD (by intro z;cases z)) e
 obtain⟨kvs,hb,_⟩:=id B;exact⟨DA,G.but R0.hD (G.ne R0.hD hX) s,⟨dm,s _ _ ne.symm hM⟩,⟨rv,kT _ _ hh,R.mono kT⟩,B.keep fun o e=>s _ _ (bq hb R0.hD (by intro z;cases z)) e,ne⟩
def ql (C CM CG:Addr):Sp:=fun vs H Q _=>∃(D M g h b:Addr) (rows:List Hr) (ns:List Str) (ts:List Tr) (p:Int) (t:Tk) (m:Nat),vs=[.ref M,.ref D]/\TalkAt C CM CG H D M g h b rows ns ts p t m/\GmK ns ts p/\(∀r∈rows,r.good)/\AkOk (t.ak ns ts p)/\ja p t.bx/\t.z.aw=(("hear":Str),some (awN t.z))/\0<=awN t.z/\awN t.z<=500/\HearOk ns p t.z (t.said ns ts p rows)/\m<=5000/\
 ∀(a:Addr)(H':Hp),H a=none->H' a=some (.tup ((t.said ns ts p rows).map V.int))->TalkAt C CM CG H' D M g h b rows ns ts p (t.ask ns ts p rows) (m+200)->But3 D M b H H'->Q (.ref a) H'
theorem lP:FnScope ["machine","doubter","values"] ["machine","doubter"] (af dG):=⟨rfl,rfl,rfl,by decide +kernel,rfl,by decide +kernel,by decide +kernel⟩
structure Ways(P:Program)(w:World)(K:W.Frag)(mg:Str->Option Value)(base:Heap)(C CM CG fW fU fH fT fS:Addr)(fdW fdU fdH fdT fdS:FuncData):Prop where
 mW:Meth K C "waits" fW
 GW:FnOk P w K mg base CX0 1 fW fdW ["self"] (BS C fun z v H=>∃a,v=.ref a/\H a=some (.tup (awV z.aw)))
 bW:Binds K fdW ["self"] []
 mU:Meth K C "due" fU
 GU:FnOk P w K mg base CX0 1 fU fdU ["self"] (BS C fun z v _=>v=.int z.ed)
 bU:Binds K fdU ["self"] []
 mH:Meth K C "hear" fH
 GH:FnOk P w K mg base CX0 18 fH fdH ["self","values"] (zk C CG)
 bH:Binds K fdH ["self","values"] []
 mT:Meth K C "toss" fT
 GT:FnOk P w K mg base CX0 17 fT fdT ["self","r"] (zg C CG)
 bT:Binds K fdT ["self","r"] []
 mS:Meth K CM "say" fS
 GS:FnOk P w K mg base CX0 25 fS fdS ["self","many","due","s","coins"] (Di CM CG)
 bS:Binds K fdS ["self","many","due","s","coins"] []
theorem TalkAt.asked{H H1:Hp}{D M g h b dm:Addr}{rows:List Hr}{ns:List Str}{ts:List Tr}{p:Int}{t:Tk}{m:Nat}{n1:Int}(w:TalkAt C CM CG H D M g h b rows ns ts p t m)(hM:H M=some (.ins CM dm (ml g h t.nr b)))(B1:BxAt H1 b (t.run ns ts p rows).bx (m+200))(hM1:H1 M=some (.ins CM dm (ml g h (t.nr+1) b)))(s1:CY M b H H1)(e1:n1=t.nr+1):TalkAt C CM CG H1 D M g h b rows ns ts p ⟨t.z,(t.run ns ts p rows).bx,n1⟩ (m+200):=by
 obtain⟨DA0,G,_,⟨rv,hh,R⟩,B,ne⟩:=w;obtain⟨kvs,hb,_⟩:=id B;have kT:dA H H1:=fun a xs e=>s1 _ _ (bq e hM (by intro z;cases z)) (bq e hb (by intro z;cases z)) e
 subst e1;exact⟨DA0.but2 s1 hM hb ne,G.but2 s1 hM hb,⟨dm,hM1⟩,⟨rv,kT _ _ hh,R.mono kT⟩,B1,ne⟩
theorem pd {f fW fU fH fT fS:Addr} {fd fdW fdU fdH fdT fdS:FuncData} (F:Fun K "asked_once" "asked_once" dG f fd) (B:Bl mg) (T:DTxt K mg C) (TM:MTxt K mg CM) (Y:Ways P w K mg base C CM CG fW fU fH fT fS fdW fdU fdH fdT fdS):FnOk P w K mg base CX0 26 f fd ["machine","doubter"] (ql C CM CG):=by
 refine F.ok lP (fun vs H Q E h=>?_) (fun cdv A outer s H vs Q E hr h=>?_)
 . obtain⟨D,M,g,h,b,rows,ns,ts,p,t,m,rfl,_⟩:=h;rfl
 obtain ⟨D,M,g,h,b,rows,ns,ts,p,t,m,rfl,W,k,rg,ok,bo,aw,a0,a5,ho,mm,q⟩:=h;have hr1:Room 1 _:=hr.mono (by decide);have hr18:Room 18 _:=hr.mono (by decide);have hr25:Room 25 _:=hr.mono (by decide);refine⟨_,(ad (ay (i:=2) lP.nd rfl (Or.inl rfl) (cZ (pv 0) TM.cl Y.mS Y.GS hr25 Y.bS .nil bY (aa (aY bc (cY (pv 1) T.cl Y.mW Y.GW hr1 Y.bW .nil bY) ai (fun _ _=>rfl)) (aa (cY (pv 1) T.cl Y.mU Y.GU hr1 Y.bU .nil bY) (aa (au (pv 1) rfl) (aa (cI rh rfl B.list oP (aa (au (pv 1) rfl) ae)) ae))))))
  (ad (bX (cZ (pv 1) T.cl Y.mH Y.GH hr18 Y.bH .nil bY (aa (pv 2) ae)))
  (ag (aD (cI cf rfl B.tuple cL (aa (pv 2) ae)))))),?_⟩
 obtain⟨dm,hM⟩:=W.hM;have DA:=W.DA;obtain⟨dx,aA,aC,aH,aT,R⟩:=id DA;refine⟨_,rfl,M,dm,_,rfl,hM,ml_n2,_,rfl,D,dx,_,rfl,R.hD,wJ,D,g,t.z,rfl,DA,fun v hv=>?_⟩;obtain⟨av,rfl,hav⟩:=hv;rw[aw]at hav;refine⟨av,_,1,.int (awN t.z),rfl,rfl,zE0 hav,rfl,_,rfl,D,dx,_,rfl,R.hD,dl_n2,D,g,t.z,rfl,DA,fun v hv=>?_⟩;subst hv;refine⟨_,rfl,D,C,dx,_,_,rfl,R.hD,T.cl,T.nS,EL,_,rfl,D,C,dx,_,_,rfl,R.hD,T.cl,T.nT,vq,aT,_,rfl,.inr (zE0 R.hT),fun l hl=>?_⟩;have I:=zD0 hl (.lst (t.z.to.map V.int));have g1:upd H l (.lst (t.z.to.map V.int)) l=some (.lst (t.z.to.map V.int)):=am;generalize upd H l (.lst (t.z.to.map V.int))=H1 at I g1;have W1:=W.same I;obtain⟨rv,hh,RW⟩:=W1.hh;refine⟨M,g,h,b,dm,l,rv,t.ak ns ts p,rows,t.bx,m,rfl,I _ _ hM,hh,RW,rg,W1.BX,bo,mm,W1.G,ok,.inl g1,a0,a5,fun l2 H2 l20 hl2 B2 hM2 S2=>?_⟩;have hs:H2 l2=some (.lst ((t.said ns ts p rows).map V.int)):=hl2;have W2:=W1.asked (n1:=t.nr+1) (I _ _ hM) B2 hM2 S2 rfl;obtain⟨dx2,_,_,_,_,R2⟩:=id W2.DA;refine⟨_,rfl,D,dx2,_,rfl,R2.hD,dl_n4,_,rfl,D,g,l2,t.z,t.said ns ts p rows,ns,ts,p,rfl,W2.DA,W2.G,k,hs,ho.aw,ho.xo,ho.x5,ho.ro,ho.tl,ho.po,fun H3 S3 DA3=>?_⟩;have W3:=W2.doub S3 DA3;have hs3:=S3 _ _ (bq hs R2.hD (by intro z;cases z)) hs;refine⟨_,rfl,l2,_,rfl,.inl ⟨zI0 hs3,fun a ha=>?_⟩⟩;have J:=zD0 ha (.tup ((t.said ns ts p rows).map V.int));have fr:But3 D M b H H3:=fun c o h1 h2 h3 e=>S3 _ _ h1 (S2 _ _ h2 h3 (I _ _ e))
 refine q a _ ?_ am (W3.same J) (fun c o h1 h2 h3 e=>J _ _ (fr c o h1 h2 h3 e));cases e:H a with
 | none=>rfl
 | some o=>
   obtain⟨dx3,_,_,_,_,R3⟩:=W3.DA;obtain⟨dm3,hM3⟩:=W3.hM;obtain⟨kvs,hb3,_⟩:=W3.BX;have n1:a≠D:=fun z=>by rw[z,R3.hD]at ha;cases ha
   have n2:a≠M:=fun z=>by rw[z,hM3]at ha;cases ha
   have n3:a≠b:=fun z=>by rw[z,hb3]at ha;cases ha
   rw[fr a o n1 n2 n3 e]at ha;cases ha
end
section
variable {C CM CA CG:Addr}
theorem EZ(a:Str×Option Int):atI (awV a) 0=some (.str a.1):=cM (j:=0) (Dy a)
theorem gn {ns:List Str} {ts:List Tr} {p:Int} {rows:List Hr} {cs:List Int} {n:Nat} {t:Tk} (h:t.z.aw.1="hear"):cJ ns ts p rows cs (n+1) t=(.say (t.said ns ts p rows)::(cJ ns ts p rows cs n (t.ask ns ts p rows)).1,(cJ ns ts p rows cs n (t.ask ns ts p rows)).2):=zB0 h
theorem eP {ns:List Str} {ts:List Tr} {p:Int} {rows:List Hr} {cs:List Int} {n:Nat} {t:Tk} (h:t.z.aw.1="coin"):cJ ns ts p rows cs (n+1) t=(.coin (cs.headD 0)::(cJ ns ts p rows cs.tail n (t.toss ns ts p (cs.headD 0))).1,(cJ ns ts p rows cs.tail n (t.toss ns ts p (cs.headD 0))).2):=by
 show(if _ then _ else if _ then _ else _)=_;rw[zA0 (by rw[h];exact gr),zB0 h]
theorem dS {ns:List Str} {ts:List Tr} {p:Int} {t:Tk} (h:TkOk ns ts p t) (hw:t.z.aw.1="hear"∨t.z.aw.1="coin"):1<=bt ns t.z/\(t.z.aw.1="coin" -> 1<=bO ns t.z):=by
 rcases hw with hw | hw
 . have tl:t.z.to.length<ns.length:=by
    rcases h.gd.he hw with⟨e,_⟩ | ⟨_,tl,_⟩
    . exact absurd e h.cl
    . exact tl
   refine⟨?_,fun z=>absurd (z.symm.trans hw) gr⟩
   have:bt ns t.z=2*(ns.length-t.z.to.length):=zB0 hw
   omega
 . have nh:¬ t.z.aw.1="hear":=by rw[hw];exact gr
   have s1:bt ns t.z=if t.z.he=[]then 2*ns.length+1 else 2*(ns.length-t.z.to.length)-1:=by unfold bt;rw[zA0 nh,zB0 hw]
   have s2:bO ns t.z=if t.z.he=[]then ns.length+1 else ns.length-t.z.to.length:=by unfold bO;rw[zA0 nh,zB0 hw]
   by_cases c:t.z.he=[]
   . rw[zB0 c]at s1 s2;exact⟨by omega,fun _=>by omega⟩
   . have tl:=((h.gd.co hw).2 c).2;rw[zA0 c]at s1 s2;exact⟨by omega,fun _=>by omega⟩
end
section
variable {C CG:Addr}
abbrev jp:Stmt:=bJ cW 11
def zd(C CG:Addr):Sp:=fun vs H Q _=>∃(D g:Addr)(z:Db)(ns:List Str)(ts:List Tr)(p:Int),vs=[.ref D]/\DbAt C H D g z/\Gm CG H g ns ts p/\∀(D2:Addr)(H':Hp),H D2=none->Same H H'->DbAt C H' D2 g z->Q (.ref D2) H'
theorem C7:FnScope ["self","other"] ["self"] (af jp):=⟨rfl,rfl,rfl,by decide +kernel,rfl,by decide +kernel,by decide +kernel⟩
theorem Aq {f fD:Addr} {fd fdD:FuncData} (F:Fun K "twin" "Doubter.twin" jp f fd) (T:DTxt K mg C) (MD:Mk K C fD) (GD:FnOk P w K mg base CX0 1 fD fdD ["self","game"] (qj C CG)) (bD:Binds K fdD ["self","game"] []):FnOk P w K mg base CX0 3 f fd ["self"] (zd C CG):=by
 refine F.ok C7 (fun vs H Q E h=>?_) (fun cdv A outer s H vs Q E hr h=>?_)
 . obtain⟨D,g,z,ns,ts,p,rfl,_⟩:=h;rfl
 obtain ⟨D,g,z,ns,ts,p,rfl,⟨dx,aA,aC,aH,aT,R⟩,G,q⟩:=h;have hr2:Room (1+1) _:=hr.mono (by decide);refine⟨_,(ad (ay (i:=1) C7.nd rfl (Or.inl rfl) (gE MD GD hr2 rfl T.mgC bD .nil bY (aa (au (pv 0) rfl) ae)))
  (ad (aX (pv 1) (au (pv 0) rfl) rfl)
  (ad (aX (pv 1) (au (pv 0) rfl) rfl)
  (ad (aX (pv 1) (au (pv 0) rfl) rfl)
  (ad (aX (pv 1) (au (pv 0) rfl) rfl)
  (ad (aX (pv 1) (au (pv 0) rfl) rfl)
  (ad (aX (pv 1) (au (pv 0) rfl) rfl)
  (ad (aX (pv 1) (au (pv 0) rfl) rfl)
  (ag (aD (pv 1))))))))))),?_⟩
 refine ⟨_,rfl,D,C,dx,_,_,rfl,R.hD,T.cl,T.nG,hX,fun D2 dD nD ndD neD=>?_⟩;have s10:Same H (upd (upd H dD (.own D2)) D2 (.ins C dD [])):=fun b o e=>by
  rw[aq (aN e nD),aq (aN e ndD)];exact e
 have gD:g≠D2:=by
  obtain⟨a,b,d,tv,⟨dg,hg⟩,_⟩:=id G;exact aN hg nD
 refine⟨D2,g,dD,ns,ts,p,rfl,am,G.same s10,gD,fun H0 S0 D0=>⟨rfl,?_⟩⟩;have S00:Same H H0:=fun b o e=>S0 b o (aN e nD) (s10 b o e)
 have nDD:D≠D2:=aN R.hD nD;obtain⟨dx2,aA2,aC2,aH2,aT2,R2⟩:=D0;have h0:=R2.hD;generalize (Db.new ts).s=s2,(Db.new ts).ed=ed2,(Db.new ts).pl=pl2 at h0;have hD0:=S00 _ _ R.hD;refine⟨_,rfl,D,C,dx,_,_,rfl,hD0,T.cl,T.nA,Bp,_,rfl,D2,C,dx2,_,rfl,h0,T.cl,T.nA,cw,?_⟩;rw[nI];have U0:SameBut D2 H0 (upd H0 D2 (.ins C dx2 (dl g aA aC2 s2 aH2 aT2 ed2 pl2))):=SameBut.upd _;have h1:upd H0 D2 (.ins C dx2 (dl g aA aC2 s2 aH2 aT2 ed2 pl2)) D2=some (.ins C dx2 (dl g aA aC2 s2 aH2 aT2 ed2 pl2)):=am;have hD1:=U0 _ _ nDD hD0;generalize upd H0 D2 (.ins C dx2 (dl g aA aC2 s2 aH2 aT2 ed2 pl2))=H1 at U0 h1 hD1;refine⟨_,rfl,D,C,dx,_,_,rfl,hD1,T.cl,T.nC,EQ,_,rfl,D2,C,dx2,_,rfl,h1,T.cl,T.nC,cw,?_⟩;rw[Dr];have U1:SameBut D2 H1 (upd H1 D2 (.ins C dx2 (dl g aA aC s2 aH2 aT2 ed2 pl2))):=SameBut.upd _;have h2:upd H1 D2 (.ins C dx2 (dl g aA aC s2 aH2 aT2 ed2 pl2)) D2=some (.ins C dx2 (dl g aA aC s2 aH2 aT2 ed2 pl2)):=am;have hD2:=U1 _ _ nDD hD1;generalize upd H1 D2 (.ins C dx2 (dl g aA aC s2 aH2 aT2 ed2 pl2))=H2 at U1 h2 hD2;refine⟨_,rfl,D,C,dx,_,_,rfl,hD2,T.cl,T.nS,EL,_,rfl,D2,C,dx2,_,rfl,h2,T.cl,T.nS,cw,?_⟩;rw[Dp];have U2:SameBut D2 H2 (upd H2 D2 (.ins C dx2 (dl g aA aC z.s aH2 aT2 ed2 pl2))):=SameBut.upd _;have h3:upd H2 D2 (.ins C dx2 (dl g aA aC z.s aH2 aT2 ed2 pl2)) D2=some (.ins C dx2 (dl g aA aC z.s aH2 aT2 ed2 pl2)):=am;have hD3:=U2 _ _ nDD hD2;generalize upd H2 D2 (.ins C dx2 (dl g aA aC z.s aH2 aT2 ed2 pl2))=H3 at U2 h3 hD3;refine⟨_,rfl,D,C,dx,_,_,rfl,hD3,T.cl,T.nH,EO,_,rfl,D2,C,dx2,_,rfl,h3,T.cl,T.nH,cw,?_⟩;rw[Dq];have U3:SameBut D2 H3 (upd H3 D2 (.ins C dx2 (dl g aA aC z.s aH aT2 ed2 pl2))):=SameBut.upd _;have h4:upd H3 D2 (.ins C dx2 (dl g aA aC z.s aH aT2 ed2 pl2)) D2=some (.ins C dx2 (dl g aA aC z.s aH aT2 ed2 pl2)):=am;have hD4:=U3 _ _ nDD hD3;generalize upd H3 D2 (.ins C dx2 (dl g aA aC z.s aH aT2 ed2 pl2))=H4 at U3 h4 hD4;refine⟨_,rfl,D,C,dx,_,_,rfl,hD4,T.cl,T.nT,vq,_,rfl,D2,C,dx2,_,rfl,h4,T.cl,T.nT,cw,?_⟩;rw[zS];have U4:SameBut D2 H4 (upd H4 D2 (.ins C dx2 (dl g aA aC z.s aH aT ed2 pl2))):=SameBut.upd _;have h5:upd H4 D2 (.ins C dx2 (dl g aA aC z.s aH aT ed2 pl2)) D2=some (.ins C dx2 (dl g aA aC z.s aH aT ed2 pl2)):=am;have hD5:=U4 _ _ nDD hD4;generalize upd H4 D2 (.ins C dx2 (dl g aA aC z.s aH aT ed2 pl2))=H5 at U4 h5 hD5;refine⟨_,rfl,D,C,dx,_,_,rfl,hD5,T.cl,T.nE,wK,_,rfl,D2,C,dx2,_,rfl,h5,T.cl,T.nE,cw,?_⟩;rw[ux];have U5:SameBut D2 H5 (upd H5 D2 (.ins C dx2 (dl g aA aC z.s aH aT z.ed pl2))):=SameBut.upd _;have h6:upd H5 D2 (.ins C dx2 (dl g aA aC z.s aH aT z.ed pl2)) D2=some (.ins C dx2 (dl g aA aC z.s aH aT z.ed pl2)):=am;have hD6:=U5 _ _ nDD hD5;generalize upd H5 D2 (.ins C dx2 (dl g aA aC z.s aH aT z.ed pl2))=H6 at U5 h6 hD6;refine⟨_,rfl,D,C,dx,_,_,rfl,hD6,T.cl,T.nP,wI,_,rfl,D2,C,dx2,_,rfl,h6,T.cl,T.nP,cw,?_⟩;rw[qE];have U6:SameBut D2 H6 (upd H6 D2 (.ins C dx2 (dl g aA aC z.s aH aT z.ed z.pl))):=SameBut.upd _;have h7:upd H6 D2 (.ins C dx2 (dl g aA aC z.s aH aT z.ed z.pl)) D2=some (.ins C dx2 (dl g aA aC z.s aH aT z.ed z.pl)):=am;have hD7:=U6 _ _ nDD hD6;generalize upd H6 D2 (.ins C dx2 (dl g aA aC z.s aH aT z.ed z.pl))=H7 at U6 h7 hD7;have U:SameBut D2 H0 H7:=U0.trans (U1.trans (U2.trans (U3.trans (U4.trans (U5.trans U6)))));have S07:Same H H7:=fun b o e=>U b o (aN e nD) (S00 b o e)
 exact⟨_,rfl,q D2 H7 nD S07 ⟨dx2,aA,aC,aH,aT,h7,S07 _ _ R.hA,S07 _ _ R.hC,S07 _ _ R.hH,S07 _ _ R.hT⟩⟩
end
section
variable {CM CA CG:Addr}
abbrev jj:Stmt:=bJ jm 4
theorem ml_n4 {g h b:Addr} {r:Int}:(ml g h r b).lookup ("twin":Str)=none:=by with_unfolding_all rfl
theorem CB {g h b b':Addr} {r:Int}:bK "boxes" (.ref b') (ml g h r b)=ml g h r b':=by with_unfolding_all rfl
def vP(CM:Addr):Sp:=fun vs H Q _=>∃(M g h b dm:Addr)(r:Int)(bx:Str->Int)(m:Nat),vs=[.ref M]/\H M=some (.ins CM dm (ml g h r b))/\BxAt H b bx m/\
 ∀(M' dm' b':Addr)(H':Hp),H M'=none->H b'=none->H' M'=some (.ins CM dm' (ml g h r b'))->BxAt H' b' bx m->Same H H'->Q (.ref M') H'
theorem C8:FnScope ["self","other"] ["self"] (af jj):=⟨rfl,rfl,rfl,by decide +kernel,rfl,by decide +kernel,by decide +kernel⟩
theorem An {f fI:Addr} {fd fdI:FuncData} (F:Fun K "twin" "Machine.twin" jj f fd) (B:Bl mg) (T:MTxt K mg CM) (MM:Mk K CM fI) (GI:FnOk P w K mg base CX0 1 fI fdI ["self","game","helper"] (qf CM)) (bI:Binds K fdI ["self","game","helper"] []):FnOk P w K mg base CX0 3 f fd ["self"] (vP CM):=by
 refine F.ok C8 (fun vs H Q E h=>?_) (fun cdv A outer s H vs Q E hr h=>?_)
 . obtain⟨M,g,h,b,dm,r,bx,m,rfl,_⟩:=h;rfl
 obtain ⟨M,g,h,b,dm,r,bx,m,rfl,hM,BX,q⟩:=h;have hr2:Room (1+1) _:=hr.mono (by decide);refine⟨_,(ad (ay (i:=1) C8.nd rfl (Or.inl rfl) (gE MM GI hr2 rfl T.mgC bI .nil bY (aa (au (pv 0) rfl) (aa (au (pv 0) rfl) ae))))
  (ad (aX (pv 1) (au (pv 0) rfl) rfl)
  (ad (aX (pv 1) (cI vB rfl B.dict vC (aa (au (pv 0) rfl) ae)) rfl)
  (ag (aD (pv 1)))))),?_⟩
 refine ⟨_,rfl,M,CM,dm,_,_,rfl,hM,T.cl,T.nG,ml_g,_,rfl,M,CM,dm,_,_,rfl,hM,T.cl,T.nH,CC,fun N dn hN hdn nN=>?_⟩;have S1:Same H (upd (upd H dn (.own N)) N (.ins CM dn [])):=fun a o e=>by
  rw[aq (aN e hN),aq (aN e hdn)];exact e
 have g1:upd (upd H dn (.own N)) N (.ins CM dn []) N=some (.ins CM dn []):=am;generalize upd (upd H dn (.own N)) N (.ins CM dn [])=H1 at S1 g1;refine⟨N,g,h,dn,rfl,g1,fun b1 H2 hb1 hN2 _ S2=>⟨rfl,?_⟩⟩;have S02:Same H H2:=Same.but S1 hN S2;have hM2:=S02 _ _ hM;have nMN:M≠N:=aN hM hN;refine⟨_,rfl,M,CM,dm,_,_,rfl,hM2,T.cl,T.nR,Eo,_,rfl,N,CM,dn,_,rfl,hN2,T.cl,T.nR,uU,?_⟩;rw[AJ];have S3:SameBut N H2 (upd H2 N (.ins CM dn (ml g h r b1))):=SameBut.upd _;have hN3:upd H2 N (.ins CM dn (ml g h r b1)) N=some (.ins CM dn (ml g h r b1)):=am;generalize upd H2 N (.ins CM dn (ml g h r b1))=H3 at S3 hN3;have S03:Same H H3:=Same.but S02 hN S3;obtain⟨kvs,eb,lb,hx⟩:=BX;refine⟨_,rfl,M,CM,dm,_,_,rfl,S03 _ _ hM,T.cl,T.nB,AL,b,kvs,rfl,S03 _ _ eb,fun c hc=>?_⟩;have cN:c≠N:=(aN hN3 hc).symm;have c0:H c=none:=S03.free hc;refine⟨_,rfl,N,CM,dn,_,rfl,by rw[aq cN.symm];exact hN3,T.cl,T.nB,uU,?_⟩;rw[CB];refine⟨_,rfl,q N dn c _ hN c0 am ⟨kvs,by rw[aq cN];exact am,lb,hx⟩ fun a o e=>?_⟩;rw[aq (aN e hN),aq (aN e c0)];exact S03 _ _ e
end
def Dj:Sp:=fun vs H Q _=>∃(x k:Int),vs=[.int x,.int k]/\0<=k/\k<=100/\0<x/\x<2 ^ 40/\Q (.int (x ^ k.toNat)) H
theorem kz:FnScope ["number","times","told","step"] ["number","times"] (af ji):=⟨rfl,rfl,rfl,by decide +kernel,rfl,by decide +kernel,by decide +kernel⟩
theorem Am {f:Addr} {fd:FuncData} (F:Fun K "power" "power" ji f fd) (B:Bl mg):FnOk P w K mg base CX0 1 f fd ["number","times"] Dj:=by
 refine F.ok kz (fun vs H Q E h=>?_) (fun cdv A outer s H vs Q E hr h=>?_)
 . obtain⟨x,k,rfl,_⟩:=h;rfl
 obtain ⟨x,k,rfl,k0,k1,x0,x1,q⟩:=h;refine⟨_,(ad (ay (i:=2) kz.nd rfl (Or.inl rfl) ai)
  (ad (dR PassesOwn.never rfl (cv rfl B.range (aa (pv 1) ae)) (cB (i:=3) kz.nd rfl (Or.inl rfl)) (ag (ay (i:=2) kz.nd rfl (Or.inl rfl) (ao cq (pv 2) (pv 0)))))
  (ag (aD (pv 2))))),?_⟩
 refine⟨_,rfl,k,rfl,by omega,by omega,eB (n:=k.toNat) (fun i σ H'=>∃x3:Option V,σ=[some (.int x),some (.int k),some (.int (x ^ i)),x3]/\H'=H) ⟨none,by rw[Int.pow_zero];rfl,rfl⟩ ?_ ?_⟩
 . rintro i σ H1 hi ⟨x3,rfl,rfl⟩;refine⟨_,rfl,_,rfl,_,_,rfl,rfl,.inr ⟨by omega,by omega⟩,?_⟩;refine⟨some (.int (0+(i:Int))),?_,rfl⟩;rw[Int.pow_succ];rfl
 . rintro σ H1 ⟨x3,rfl,rfl⟩;exact⟨_,rfl,q⟩
section
variable {C CM CA CG:Addr}
theorem EM {g aA aC aH aT:Addr} {s ed pl:Int}:(dl g aA aC s aH aT ed pl).lookup ("twin":Str)=none:=by with_unfolding_all rfl
def OptAt(H:Hp)(v:V):Option (List Int)->Prop
 | none=>v=.non
 | some cs=>∃b,v=.ref b/\H b=some (.tup (cs.map V.int))
theorem OptAt.mono{H H':Hp}{v:V}{x:Option (List Int)}(h:OptAt H v x)(k:dA H H'):OptAt H' v x:=by
 cases x with
 | none=>exact h
 | some cs=>obtain⟨b,e,hb⟩:=h;exact⟨b,e,k _ _ hb⟩
def WtAt(H:Hp)(a:Addr)(x:Int×Option (List Int)):Prop:=∃v,H a=some (.tup [.int x.1,v])/\OptAt H v x.2
def aS(ns:List Str)(ts:List Tr):Nat:=if ts.length=1 then ns.length else ns.length+1
theorem kH{ns:List Str}{ts:List Tr}(h:ns.length<=6):aS ns ts<=7:=by unfold aS;split <;> omega
def qi(CG:Addr):Sp:=fun vs H Q _=>∃(g c:Addr)(ns:List Str)(ts:List Tr)(p:Int)(cs:List Int),vs=[.ref g,.ref c]/\Gm CG H g ns ts p/\ns.length<=6/\H c=some (.tup (cs.map V.int))/\cs.length<=aS ns ts/\∀(a:Addr)(H':Hp),Same H H'->H' a=some (.tup ((cs++List.replicate (aS ns ts-cs.length) 0).map V.int))->Q (.ref a) H'
theorem qp:FnScope ["game","coins"] ["game","coins"] (af dY):=⟨rfl,rfl,rfl,by decide +kernel,rfl,by decide +kernel,by decide +kernel⟩
theorem qP {f fC:Addr} {fd fdC:FuncData} (F:Fun K "first_row" "first_row" dY f fd) (B:Bl mg) (TG:GTxt K mg CG) (mC:Meth K CG "coins" fC) (GC:FnOk P w K mg base CX0 1 fC fdC ["self"] (qk CG)) (bC:Binds K fdC ["self"] []):FnOk P w K mg base CX0 2 f fd ["game","coins"] (qi CG):=by
 refine F.ok qp (fun vs H Q E h=>?_) (fun cdv A outer s H vs Q E hr h=>?_)
 . obtain⟨g,c,ns,ts,p,cs,rfl,_⟩:=h;rfl
 obtain ⟨g,c,ns,ts,p,cs,rfl,G,n6,hc,cl,q⟩:=h;have hr1:Room 1 _:=hr.mono (by decide);refine⟨_,(ag (aD (ao (mx K) (pv 1) (ao (Ai K) (bE (aa ai ae)) (ao cj (cY (pv 0) TG.cl mC GC hr1 bC .nil bY) (aO aM rfl B.len PySem.boot_len (aa (pv 1) ae))))))),?_⟩;refine⟨_,rfl,(by show 1<=sizeLine;decide),fun z hz=>?_⟩;have I:=zD0 hz (.tup [.int 0]);have gz:upd H z (.tup [.int 0]) z=some (.tup [.int 0]):=am;generalize upd H z (.tup [.int 0])=H1 at I gz;obtain⟨a,b,d,tv,⟨dx,hg⟩,ha,hb,TS,hd⟩:=G.same I;have vl:=TS.length;have noc:(gf a b p d).lookup ("coins":Str)=none:=oA _ _ _ _ (by decide +kernel) (by decide +kernel) (by decide +kernel) (by decide +kernel);refine⟨_,rfl,g,dx,_,rfl,hg,noc,g,a,b,d,ns,tv,p,rfl,⟨dx,hg⟩,ha,hb,?_⟩;have hc1:=I _ _ hc;refine⟨_,rfl,c,_,rfl,.inr (zE0 hc1),_,_,rfl,rfl,?_⟩;have ek:(if tv.length=1 then(ns.length:Int)else(ns.length:Int)+1)-((cs.map V.int).length:Int)=((aS ns ts-cs.length:Nat):Int):=by
  rw[zG0,vl];unfold aS at cl ⊢
  split <;> rename_i h <;> (first | rw[zB0 h]at cl | rw[zA0 h]at cl) <;> omega
 show zQ K (.ref z) (.int ((if tv.length=1 then(ns.length:Int)else(ns.length:Int)+1)-((cs.map V.int).length:Int))) H1 _;rw[ek];have c7:=kH (ts:=ts) n6;have fin:∀(y:Addr)(H2:Hp),Same H1 H2->H2 y=some (.tup ((List.replicate (aS ns ts-cs.length) (0:Int)).map V.int))->sk K (.ref c) (.ref y) H2 Q∨ny K (.ref c) (.ref y) H2 Q:=fun y H2 S2 hy=>
  mJ (S2 _ _ hc1) hy (by rw[List.length_replicate];omega) fun t H3 S3 h3=>q t H3 (I.trans (S2.trans S3)) h3
 refine⟨z,.int 0,((aS ns ts-cs.length:Nat):Int),rfl,rfl,zE0 gz,by omega,by omega,fun e=>fin z H1 (Same.refl _) ?_,fun _ y hy=>fin y _ (zD0 hy _) ?_⟩
 . have e1:aS ns ts-cs.length=1:=by omega
   rw[e1];exact gz
 . rw[am,List.map_replicate,qS0]
def vN(CG:Addr):Sp:=fun vs H Q _=>∃(g:Addr)(ns:List Str)(ts:List Tr)(p:Int),vs=[.ref g]/\Gm CG H g ns ts p/\ns.length<=6/\0<p/\p<2 ^ 40/\Q (.int (p ^ aS ns ts)) H
theorem kY:FnScope ["game"] ["game"] (af cG):=⟨rfl,rfl,rfl,by decide +kernel,rfl,by decide +kernel,by decide +kernel⟩
theorem lx {f fC:Addr} {fd fdC:FuncData} (F:Fun K "rows_of_coins" "rows_of_coins" cG f fd) (T:GTxt K mg CG) (mC:Meth K CG "coins" fC) (GC:FnOk P w K mg base CX0 1 fC fdC ["self"] (qk CG)) (bC:Binds K fdC ["self"] []) (B3:Cal P w K mg base 1 "power" ["number","times"] Dj):FnOk P w K mg base CX0 2 f fd ["game"] (vN CG):=by
 refine F.ok kY (fun vs H Q E h=>?_) (fun cdv A outer s H vs Q E hr h=>?_)
 . obtain⟨g,ns,ts,p,rfl,_⟩:=h;rfl
 obtain⟨g,ns,ts,p,rfl,⟨a,b,d,tv,⟨dx,hg⟩,ha,hb,TS,hd⟩,nl,p0,p40,q⟩:=h;have hr1:Room 1 _:=hr.mono (by decide);refine⟨_,(ag (aD (aJ B3 hr (by decide) rfl (aa (au (pv 0) rfl) (aa (cY (pv 0) T.cl mC GC hr1 bC .nil bY) ae))))),?_⟩;have noc:(gf a b p d).lookup ("coins":Str)=none:=oA _ _ _ _ (by decide +kernel) (by decide +kernel) (by decide +kernel) (by decide +kernel);have vl:=TS.length;refine⟨_,rfl,g,CG,dx,_,_,rfl,hg,T.cl,T.nF,gu ..,_,rfl,g,dx,_,rfl,hg,noc,g,a,b,d,ns,tv,p,rfl,⟨dx,hg⟩,ha,hb,p,_,rfl,?_,?_,p0,p40,?_⟩
 . split <;> omega
 . split <;> omega
 . have e:(if tv.length=1 then(ns.length:Int)else(ns.length:Int)+1).toNat=aS ns ts:=by
    rw[vl];unfold aS
    split <;> omega
   rw[e];exact q
structure Twins(P:Program)(w:World)(K:W.Frag)(mg:Str->Option Value)(base:Heap)(C CM CG fD fM:Addr)(fdD fdM:FuncData):Prop where
 mD:Meth K C "twin" fD
 GD:FnOk P w K mg base CX0 3 fD fdD ["self"] (zd C CG)
 bD:Binds K fdD ["self"] []
 mM:Meth K CM "twin" fM
 GM:FnOk P w K mg base CX0 3 fM fdM ["self"] (vP CM)
 bM:Binds K fdM ["self"] []
def xf(C CM CG:Addr)(d:Nat):Sp:=fun vs H Q _=>∃(D M g h b c:Addr)(rows:List Hr)(ns:List Str)(ts:List Tr)(p:Int)(t:Tk)(m:Nat)(cs:List Int),vs=[.ref M,.ref D,.ref c]/\TalkAt C CM CG H D M g h b rows ns ts p t m/\GmK ns ts p/\ns.length<=6/\(∀r∈rows,r.good)/\Beg ns ts p t/\bO ns (settle ns ts p rows 2 t).z<d/\
 H c=some (.tup (cs.map V.int))/\cs.length+bO ns (settle ns ts p rows 2 t).z<=aS ns ts/\m+400*d<=5000/\
 ∀(a:Addr)(H':Hp),WtAt H' a (dq ns ts p rows (aS ns ts) d t cs)->But3 D M b H H'->Q (.ref a) H'
theorem b6:FnScope ["machine","doubter","coins","number","row","coin","behind","told"] ["machine","doubter","coins"] (af bZ):=⟨rfl,rfl,rfl,by decide +kernel,rfl,by decide +kernel,by decide +kernel⟩
theorem BJ {f:Addr} {fd:FuncData}:FnOk P w K mg base CX0 27 f fd ["machine","doubter","coins"] (xf C CM CG 0):=by
 have no:∀vs H Q E,¬ xf C CM CG 0 vs H Q E:=fun vs H Q E h=>by
  obtain⟨D,M,g,h,b,c,rows,ns,ts,p,t,m,cs,_,_,_,_,_,_,h1,_⟩:=h;exact absurd h1 (Nat.not_lt_zero _)
 exact⟨fun vs H Q E h=>absurd h (no vs H Q E),fun A outer s H args us vs Q E _ _ _ _ h=>absurd h (no vs H Q E)⟩
theorem TalkAt.twins{H H':Hp}{D M g h b D2 M2 b2 dm2:Addr}{rows:List Hr}{ns:List Str}{ts:List Tr}{p:Int}{t:Tk}{m:Nat}{z:Db}(w:TalkAt C CM CG H D M g h b rows ns ts p t m)(s:Same H H')(DA:DbAt C H' D2 g z)(hM:H' M2=some (.ins CM dm2 (ml g h t.nr b2)))(B:BxAt H' b2 t.bx m)(ne:D2≠M2):TalkAt C CM CG H' D2 M2 g h b2 rows ns ts p ⟨z,t.bx,t.nr⟩ m:=by
 obtain⟨_,G,_,⟨rv,hh,R⟩,_,_⟩:=w.same s;exact⟨DA,G,⟨dm2,hM⟩,⟨rv,hh,R⟩,B,ne⟩
theorem BK {n:Nat} {f fW fU fH fT fS fDt fMt:Addr} {fd fdW fdU fdH fdT fdS fdDt fdMt:FuncData} (F:Fun K "weighed_behind" "weighed_behind" bZ f fd) (B:Bl mg) (T:DTxt K mg C) (TM:MTxt K mg CM) (TG:GTxt K mg CG) (Y:Ways P w K mg base C CM CG fW fU fH fT fS fdW fdU fdH fdT fdS) (Z:Twins P w K mg base C CM CG fDt fMt fdDt fdMt)
 (eM:Cal P w K mg base 26 "asked_once" ["machine","doubter"] (ql C CM CG)) (eR:Cal P w K mg base 2 "first_row" ["game","coins"] (qi CG)) (cO:Cal P w K mg base (n+27) "weighed_behind" ["machine","doubter","coins"] (xf C CM CG n)):FnOk P w K mg base CX0 (n+28) f fd ["machine","doubter","coins"] (xf C CM CG (n+1)):=by
 refine F.ok b6 (fun vs H Q E h=>?_) (fun cdv A outer s H vs Q E hr h=>?_)
 . obtain⟨D,M,g,h,b,c,rows,ns,ts,p,t,m,cs,rfl,_⟩:=h;rfl
 obtain ⟨D,M,g,h,b,c,rows,ns,ts,p,t,m,cs,rfl,W,k,n6,rg,bg,cd,hc,cl,mm,q⟩:=h;have hr1:Room 1 _:=hr.mono (by omega);have hr3:Room 3 _:=hr.mono (by omega);have hr17:Room 17 _:=hr.mono (by omega);refine⟨_,(ad (iP PassesOwn.never (ax bb (aY bc (cY (pv 1) T.cl Y.mW Y.GW hr1 Y.bW .nil bY) ai (fun _ _=>rfl)) aV (aF _)) (ag (bX (aJ eM hr (by omega) rfl (aa (pv 0) (aa (pv 1) ae))))))
  (ad (aR (ax bb (aY bc (cY (pv 1) T.cl Y.mW Y.GW hr1 Y.bW .nil bY) ai (fun _ _=>rfl)) aV (aF _)) (ag (aD (bE (aa ai (aa iR ae))))) aG)
  (ad (aR (ax bb (aY bc (cY (pv 1) T.cl Y.mW Y.GW hr1 Y.bW .nil bY) ai (fun _ _=>rfl)) aV (aF _)) (ag (aD (bE (aa ai (aa (aJ eR hr (by omega) rfl (aa (au (pv 1) rfl) (aa (pv 2) ae))) ae))))) aG)
  (ad (ay (i:=3) b6.nd rfl (Or.inl rfl) ai)
  (ad (ay (i:=4) b6.nd rfl (Or.inl rfl) iR)
  (ad (dR PassesOwn.never rfl (cv rfl B.range (aa (au (au (pv 1) rfl) rfl) ae)) (cB (i:=5) b6.nd rfl (Or.inl rfl)) (ad (ay (i:=6) b6.nd rfl (Or.inl rfl) (cY (pv 1) T.cl Z.mD Z.GD hr3 Z.bD .nil bY))
   (ad (bX (cZ (pv 6) T.cl Y.mT Y.GT hr17 Y.bT .nil bY (aa (pv 5) ae)))
   (ad (ay (i:=7) b6.nd rfl (Or.inl rfl) (aJ cO hr (by omega) rfl (aa (cY (pv 0) TM.cl Z.mM Z.GM hr3 Z.bM .nil bY) (aa (pv 6) (aa (ao (mx K) (pv 2) (bE (aa (pv 5) ae))) ae)))))
   (ad (ay (i:=3) b6.nd rfl (Or.inl rfl) (ao bn (pv 3) (aY bc (pv 7) ai (fun _ _=>rfl))))
   (ag (aR (ax Aj (pv 4) iR (aF _)) (ag (ay (i:=4) b6.nd rfl (Or.inl rfl) (aY bc (pv 7) ai (fun _ _=>rfl)))) aG)))))))
  (ag (aD (bE (aa (pv 3) (aa (pv 4) ae))))))))))),?_⟩
 have p2:=k.p2;have p9:=k.p9;obtain⟨uok,uno⟩:=bg.settle (rows:=rows) k n6;have rec1:settle ns ts p rows 2 t=settle ns ts p rows 2 t:=rfl;generalize eu:settle ns ts p rows 2 t=u at uok uno cd cl;clear rec1;have c7:=kH (ts:=ts) n6;refine⟨fun mm σ H'=>∃(t':Tk) (j m':Nat),σ=[some (.ref M),some (.ref D),some (.ref c),none,none,none,none,none]/\mm=j/\j<=2/\Beg ns ts p t'/\(j<=1->TkOk ns ts p t')/\(j=0->¬ t'.z.aw.1="hear")/\settle ns ts p rows j t'=u/\TalkAt C CM CG H' D M g h b rows ns ts p t' m'/\m'+200*j<=m+400/\But3 D M b H H',
  ⟨2,t,2,m,rfl,rfl,zF0 _,bg,fun z=>absurd z (by decide),fun z=>absurd z (by decide),eu,W,zF0 _,fun _ _ _ _ _ e=>e⟩,?_⟩
 rintro mm1 σ H1 ⟨t',j,m',rfl,rfl,j2,bg',ok',no',es,W1,m1,S1⟩;have DA:=W1.DA;obtain⟨dx,aA,aC,aH,aT,R⟩:=id DA;refine⟨_,rfl,D,dx,_,rfl,R.hD,wJ,D,g,t'.z,rfl,DA,fun v hv=>?_⟩;obtain⟨av,rfl,hav⟩:=hv;refine⟨av,_,0,_,rfl,rfl,zE0 hav,EZ _,rfl,_,rfl,?_⟩
 by_cases ch:t'.z.aw.1="hear"
 . refine bz (congrArg V.str ch) ⟨_,fun _ _ h=>h,?_⟩;obtain⟨i,rfl⟩:∃i,mm1=i+1:=⟨mm1-1,by have:mm1≠0:=fun z=>no' z ch;omega⟩
   obtain⟨ak,bo,aw,a0,a5,ho⟩:=bg'.ask (rows:=rows) k n6 ch;refine⟨_,rfl,_,rfl,D,M,g,h,b,rows,ns,ts,p,t',m',rfl,W1,k,rg,ak,bo,aw,a0,a5,ho,by omega,fun a6 H6 _ _ W6 S6=>?_⟩;have ok2:=bg'.asked (rows:=rows) k n6 ch;refine⟨i,Nat.lt_succ_self _,t'.ask ns ts p rows,i,m'+200,rfl,rfl,by omega,.inr ok2,fun _=>ok2,fun z=>?_,?_,W6,by omega,fun a o h1 h2 h3 e=>S6 _ _ h1 h2 h3 (S1 _ _ h1 h2 h3 e)⟩
   . subst z;exact((ok' (zF0 _)).ask (rows:=rows) k n6 ch).2.2.2
   . rw[←es];exact(zB0 ch).symm
 refine aI (neS ch) ?_;rw[cE ch]at es;subst es;clear bg' ok' no' hav;refine⟨_,rfl,D,dx,_,rfl,R.hD,wJ,D,g,t'.z,rfl,DA,fun v hv=>?_⟩;obtain⟨av,rfl,hav⟩:=hv;refine⟨av,_,0,_,rfl,rfl,zE0 hav,EZ _,rfl,_,rfl,?_⟩
 by_cases cb:t'.z.aw.1="believed"
 . refine bz (congrArg V.str cb) ⟨(by show 2<=sizeLine;decide),fun a ha=>?_⟩;have I:=zD0 ha (.tup [.int 1,.non]);refine q a _ ?_ (fun x o h1 h2 h3 e=>I _ _ (S1 _ _ h1 h2 h3 e));have e:dq ns ts p rows (aS ns ts) (n+1) t cs=(1,none):=by
    show(if(settle ns ts p rows 2 t).z.aw.1="believed" then _ else _)=_;rw[eu,zB0 cb]
   rw[e];exact⟨.non,am,rfl⟩
 refine aI (neS cb) ?_;clear hav;refine⟨_,rfl,D,dx,_,rfl,R.hD,wJ,D,g,t'.z,rfl,DA,fun v hv=>?_⟩;obtain⟨av,rfl,hav⟩:=hv;refine⟨av,_,0,_,rfl,rfl,zE0 hav,EZ _,rfl,_,rfl,?_⟩;have hDM:c≠D/\c≠M/\c≠b:=by
  obtain⟨dx0,_,_,_,_,R0⟩:=W.DA;obtain⟨dm0,hM0⟩:=W.hM;obtain⟨kv0,hb0,_⟩:=W.BX;exact⟨bq hc R0.hD (by intro z;cases z),bq hc hM0 (by intro z;cases z),bq hc hb0 (by intro z;cases z)⟩
 have hc1:=S1 _ _ hDM.1 hDM.2.1 hDM.2.2 hc
 by_cases cc:t'.z.aw.1="caught"
 . refine bz (congrArg V.str cc) ⟨_,rfl,D,C,dx,_,_,rfl,R.hD,T.cl,T.nG,hX,_,rfl,g,c,ns,ts,p,cs,rfl,W1.G,n6,hc1,by omega,fun a2 H2 S2 h2=>?_⟩;refine⟨(by show 2<=sizeLine;decide),fun a ha=>?_⟩;have I:=zD0 ha (.tup [.int 0,.ref a2]);refine q a _ ?_ (fun x o h1 h2 h3 e=>I _ _ (S2 _ _ (S1 _ _ h1 h2 h3 e)));have e:dq ns ts p rows (aS ns ts) (n+1) t cs=(0,some (cs++List.replicate (aS ns ts-cs.length) 0)):=by
    show(if(settle ns ts p rows 2 t).z.aw.1="believed" then _ else if(settle ns ts p rows 2 t).z.aw.1="caught" then _ else _)=_;rw[eu,zA0 cb,zB0 cc]
   rw[e];exact⟨.ref a2,am,a2,rfl,I _ _ h2⟩
 refine aI (neS cc) ?_;have co:=tQ uok uno cb cc;have e:dq ns ts p rows (aS ns ts) (n+1) t cs=hR (fun r=>dq ns ts p rows (aS ns ts) n (t'.toss ns ts p r) (cs++[r])) p.toNat:=by
  show(if(settle ns ts p rows 2 t).z.aw.1="believed" then _ else if(settle ns ts p rows 2 t).z.aw.1="caught" then _ else _)=_;rw[eu,zA0 cb,zA0 cc]
 rw[e]at q;clear e hav eu bg W hc;have cp:=(dS uok (.inr co)).2 co;generalize ef:(fun r=>dq ns ts p rows (aS ns ts) n (t'.toss ns ts p r) (cs++[r]))=fw at q;obtain⟨ga,gb,gd,tv,⟨dg,hg⟩,_⟩:=W1.G;refine⟨_,rfl,D,C,dx,_,_,rfl,R.hD,T.cl,T.nG,hX,g,CG,dg,_,_,rfl,hg,TG.cl,TG.nF,gu ..,p,rfl,by omega,by omega,eB (n:=p.toNat) (fun i σ H'=>∃(v:V)(x5 x6 x7:Option V),σ=[some (.ref M),some (.ref D),some (.ref c),some (.int (hR fw i).1),some v,x5,x6,x7]/\OptAt H' v (hR fw i).2/\Same H1 H') ⟨.non,none,none,none,rfl,rfl,Same.refl _⟩ ?_ ?_⟩
 . rintro i σ H2 hi ⟨v,x5,x6,x7,rfl,ov,S2⟩;rw[Int.zero_add];have W2:=W1.same S2;have DA2:=W2.DA;obtain⟨dx2,_,_,_,_,R2⟩:=id DA2;refine⟨_,rfl,D,dx2,_,rfl,R2.hD,EM,D,g,t'.z,ns,ts,p,rfl,DA2,W2.G,fun D3 H3 D30 S3 DA3=>?_⟩;obtain⟨dx3,_,_,_,_,R3⟩:=id DA3;have to:=uok.tossOk co (r:=(i:Int)) (by omega) (by omega);refine⟨_,rfl,D3,dx3,_,rfl,R3.hD,dl_n5,_,rfl,D3,g,t'.z,(i:Int),ns,ts,p,rfl,DA3,W2.G.same S3,k,to.aw,to.r0,to.r1,to.tl,to.ro,to.po,fun H4 S4 DA4=>?_⟩;have S24:Same H2 H4:=Same.but S3 D30 S4;have W4:=W2.same S24;obtain⟨dm4,hM4⟩:=W4.hM;refine⟨_,rfl,M,dm4,_,rfl,hM4,ml_n4,M,g,h,b,dm4,t'.nr,t'.bx,m',rfl,hM4,W4.BX,fun M5 dm5 b5 H5 M50 b50 hM5 BX5 S5=>?_⟩;refine⟨_,rfl,_,rfl,_,rfl,(by show 1<=sizeLine;decide),fun z hz=>?_⟩;have I6:=zD0 hz (.tup [.int (i:Int)]);have g6:upd H5 z (.tup [.int (i:Int)]) z=some (.tup ([(i:Int)].map V.int)):=am;generalize upd H5 z (.tup [.int (i:Int)])=H6 at I6 g6;have S26:Same H2 H6:=S24.trans (S5.trans I6);refine mJ (S26 _ _ (S2 _ _ hc1)) g6 (by rw[qH0];omega) fun c7 H7 S7 h7=>?_
   have S47:Same H4 H7:=S5.trans (I6.trans S7);have S57:Same H5 H7:=I6.trans S7;obtain⟨ok3,st3,co3,_⟩:=uok.toss k co to.r0 to.r1;obtain⟨_,cs3,_⟩:=jh (rows:=rows) k n6 ok3;have el:(cs++[(i:Int)]).length=cs.length+1:=by rw[zN0];rfl
   have D3M5:D3≠M5:=by
    obtain⟨_,_,_,_,_,R4⟩:=DA4;exact aN R4.hD M50
   have W7:TalkAt C CM CG H7 D3 M5 g h b5 rows ns ts p (t'.toss ns ts p (i:Int)) m':=W4.twins S47 (DA4.same S47) (S57 _ _ hM5) (BX5.keep fun o e=>S57 _ _ e) D3M5;refine⟨D3,M5,g,h,b5,c7,rows,ns,ts,p,t'.toss ns ts p (i:Int),m',cs++[(i:Int)],rfl,W7,k,n6,rg,.inr ok3,by omega,h7,by omega,by omega,fun a8 H8 w8 S8=>?_⟩;have S28:Same H2 H8:=fun a o e=>S8 _ _ (aN e D30) (aN (S24 _ _ e) M50) (aN (S24 _ _ e) b50) (S26.trans S7 _ _ e)
   obtain⟨v8,ha8,o8⟩:=w8;have ef8:dq ns ts p rows (aS ns ts) n (t'.toss ns ts p (i:Int)) (cs++[(i:Int)])=fw (i:Int):=by rw[←ef]
   rw[ef8]at ha8 o8;refine⟨_,rfl,_,rfl,a8,_,0,_,rfl,rfl,zE0 ha8,at0 _ _,_,_,rfl,rfl,?_⟩;refine⟨_,rfl,rfl,_,rfl,?_⟩;cases eo:(hR fw i).2 with
   | none=>
     rw[eo]at ov;have ov:v=.non:=ov;subst ov;refine bz rfl ⟨_,rfl,a8,_,1,_,rfl,rfl,zE0 ha8,cM (j:=1) rfl,?_⟩;refine⟨v8,_,_,_,rfl,?_,S2.trans S28⟩;show OptAt H8 v8 ((hR fw i).2.or (fw (i:Int)).2);rw[eo];exact o8
   | some rr=>
     rw[eo]at ov;have ov':=ov;obtain⟨bv,rfl,hbv⟩:=ov';refine aI (by intro z;cases z) ?_;refine⟨.ref bv,_,_,_,rfl,?_,S2.trans S28⟩;show OptAt H8 (.ref bv) ((hR fw i).2.or (fw (i:Int)).2);rw[eo];exact⟨bv,rfl,S28 _ _ hbv⟩
 . rintro σ H2 ⟨v,x5,x6,x7,rfl,ov,S2⟩;refine⟨_,rfl,_,rfl,(by show 2<=sizeLine;decide),fun a ha=>?_⟩;have I:=zD0 ha (.tup [.int (hR fw p.toNat).1,v]);exact q a _ ⟨v,am,ov.mono (bp I)⟩ (fun x o h1 h2 h3 e=>I _ _ (S2 _ _ (S1 _ _ h1 h2 h3 e)))
theorem gF {f fW fU fH fT fS fDt fMt:Addr} {fd fdW fdU fdH fdT fdS fdDt fdMt:FuncData} (F:Fun K "weighed_behind" "weighed_behind" bZ f fd) (m:mg "weighed_behind"=some (.ref f)) (B:Bl mg) (T:DTxt K mg C) (TM:MTxt K mg CM) (TG:GTxt K mg CG) (Y:Ways P w K mg base C CM CG fW fU fH fT fS fdW fdU fdH fdT fdS) (Z:Twins P w K mg base C CM CG fDt fMt fdDt fdMt)
 (eM:Cal P w K mg base 26 "asked_once" ["machine","doubter"] (ql C CM CG)) (eR:Cal P w K mg base 2 "first_row" ["game","coins"] (qi CG)):∀n:Nat,FnOk P w K mg base CX0 (n+27) f fd ["machine","doubter","coins"] (xf C CM CG n)
 | 0=>BJ
 | n+1=>BK F B T TM TG Y Z eM eR (Cal.of F (gF F m B T TM TG Y Z eM eR n) m (fun _ _ _ _ _ _ us hl=>by obtain⟨u0,u1,u2,rfl⟩:=jJ hl;rfl))
end
abbrev fb:Stmt:=bJ (top 2) 0
abbrev gj:Stmt:=bJ (top 12) 0
def FmOk(v:V):Prop:=(∃i:Int,v=.int i/\0<=i/\i<10000000000000000000000000000000000000000)∨(∃y:Str,v=.str y/\y.length<=20)∨v=.non
theorem yb{n:Int}(h0:0<=n)(h1:n<10000000000000000000000000000000000000000):n.natAbs.log2<1920:=by
 have h2:n.natAbs<2 ^ 140:=by omega
 by_cases c:n.natAbs=0
 . rw[c];decide
 . have:=(Nat.log2_lt c).mpr h2
   omega
theorem FmOk.fm{v:V}(h:FmOk v):∃y,FmV v y/\y.length<=60:=by
 rcases h with⟨i,rfl,h0,h1⟩ | ⟨y,rfl,hy⟩ | rfl
 . exact⟨_,.inl ⟨i,rfl,yb h0 h1,rfl⟩,qB0 (PyProof.Rows.toString_length_le h0 (k:=40) (by decide) (by show i<10 ^ 40;omega)) (by decide)⟩
 . exact⟨y,.inr (.inl rfl),by omega⟩
 . exact⟨_,.inr (.inr ⟨rfl,rfl⟩),by decide +kernel⟩
theorem fl1{a:Str}(ha:a.length<=60):(Str.empty++a).length<=sizeLine:=by
 rw[Str.length_append]
 have:Str.empty.length=0:=rfl
 exact eC (by omega)
theorem fl2{a b:Str}(ha:a.length<=60)(hb:b.length<=60):((Str.empty++a)++b).length<=sizeLine:=by
 rw[Str.length_append,Str.length_append]
 have:Str.empty.length=0:=rfl
 exact eC (by omega)
def spAI(K:W.Frag):Sp:=fun vs H Q _=>∃(e C f:Addr)(x:V),vs=[.ref e,x]/\H e=some (mr C e)/\MkX K C f/\Q .non H
theorem sf:FnScope ["self","words"] ["self","words"] (af fb):=⟨rfl,rfl,rfl,by decide +kernel,rfl,by decide +kernel,by decide +kernel⟩
theorem sF {f:Addr} {fd:FuncData} {dV:Value} (F:FunD K "__init__" "AskError.__init__" fb f fd dV) (hV:mg "ValueError"=none):FnOk P w K mg base CX0 1 f fd ["self","words"] (spAI K):=by
 refine F.ok sf (fun vs H Q E h=>?_) (fun cdv A outer s H vs Q E hr h=>?_)
 . obtain⟨e,C,f,x,rfl,_⟩:=h;rfl
 obtain⟨e,C,f,x,rfl,he,M,q⟩:=h;refine⟨_,ag (bX (uB rfl hV (aa (pv 0) (aa (pv 1) ae)))),?_⟩;exact⟨_,rfl,_,rfl,e,C,f,x,rfl,he,M,q⟩
def DS(C:Addr)(a:Str):Sp:=fun vs H Q _=>∃(e:Addr)(v:V),vs=[.ref e,v]/\H e=some (mr C e)/\FmOk v/\∀dx,H dx=none->dx≠e->Q .non (upd (upd H dx (.xd [(a,v)])) e (rA C e dx))
structure AskC(P:Program)(w:World)(K:W.Frag)(mg:Str->Option Value)(base:Heap)(CA fA:Addr)(fdA:FuncData):Prop where
 g:mg "AskError"=some (.ref CA)
 c:ClsFn K CA fA "__init__"
 ok:FnOk P w K mg base CX0 1 fA fdA ["self","words"] (spAI K)
 b:Binds K fdA ["self","words"] []
section
variable {CA fA:Addr} {fdA:FuncData}
theorem uv:FnScope ["self","rows"] ["self","rows"] (af gj):=⟨rfl,rfl,rfl,by decide +kernel,rfl,by decide +kernel,by decide +kernel⟩
theorem uL {f C:Addr} {fd:FuncData} {dV:Value} (F:FunD K "__init__" "TooMany.__init__" gj f fd dV) (T:AskC P w K mg base CA fA fdA) (M:MkX K C f) (c:ClsX K C CA) (na:NoAttr K C "rows"):FnOk P w K mg base CX0 2 f fd ["self","rows"] (DS C "rows"):=by
 refine F.ok uv (fun vs H Q E h=>?_) (fun cdv A outer s H vs Q E hr h=>?_)
 . obtain⟨e,v,rfl,_⟩:=h;rfl
 obtain⟨e,v,rfl,he,hv,q⟩:=h;refine⟨_,ad (bX (uE rfl T.g T.c T.ok hr T.b .nil bY (aa (pv 0) (aa (Cm (wk aV (wk (Cn (pv 1)) Ed))) ae)))) (ag (Cg (pv 0) (pv 1) rfl)),?_⟩;obtain⟨y,fy,hy⟩:=hv.fm;refine⟨_,rfl,_,rfl,fl1 (by decide +kernel),_,rfl,y,fy,qB0 hy (by decide),y,rfl,fl2 (by decide +kernel) hy,fl2 (by decide +kernel) hy,?_⟩;refine⟨e,C,f,_,rfl,he,M,?_⟩;exact⟨_,rfl,_,rfl,e,C,CA,rfl,he,c,na,q⟩
end
structure Exs(K:W.Frag)(mg:Str->Option Value)(CA c0 c1 c2 c3 c4 c5 c6 c7 c8 c9:Addr):Prop where
 g0:mg "NoText"=some (.ref c0)
 x0:ClsX K c0 CA
 n0:c0≠CA
 g1:mg "Twice"=some (.ref c1)
 x1:ClsX K c1 CA
 n1:c1≠CA
 g2:mg "NoName"=some (.ref c2)
 x2:ClsX K c2 CA
 n2:c2≠CA
 g3:mg "NoField"=some (.ref c3)
 x3:ClsX K c3 CA
 n3:c3≠CA
 g4:mg "SmallField"=some (.ref c4)
 x4:ClsX K c4 CA
 n4:c4≠CA
 g5:mg "NoRow"=some (.ref c5)
 x5:ClsX K c5 CA
 n5:c5≠CA
 g6:mg "NoTurn"=some (.ref c6)
 x6:ClsX K c6 CA
 n6:c6≠CA
 g7:mg "NoCount"=some (.ref c7)
 x7:ClsX K c7 CA
 n7:c7≠CA
 g8:mg "NoNumber"=some (.ref c8)
 x8:ClsX K c8 CA
 n8:c8≠CA
 g9:mg "TooMany"=some (.ref c9)
 x9:ClsX K c9 CA
 n9:c9≠CA
 gA:mg "AskError"=some (.ref CA)
 iA:qW K CA
 nd:[c0,c1,c2,c3,c4,c5,c6,c7,c8,c9].Nodup
structure Mkr(P:Program)(w:World)(K:W.Frag)(mg:Str->Option Value)(base:Heap)(C:Addr)(a:Str)(f:Addr)(fd:FuncData):Prop where
 made:MkX K C f
 ok:FnOk P w K mg base CX0 2 f fd ["self",a] (DS C a)
 b:Binds K fd ["self",a] []
 na:NoAttr K C a
theorem CN{H:Hp}{e dx C:Addr}{a:Str}{v:V}(h0:H e=none)(h1:upd H e (mr C e) dx=none)(h2:dx≠e):Same H (upd (upd (upd H e (mr C e)) dx (.xd [(a,v)])) e (rA C e dx))/\Ex (upd (upd (upd H e (mr C e)) dx (.xd [(a,v)])) e (rA C e dx)) e C a v:=by
 rw[aq h2]at h1;refine⟨fun b o hb=>?_,dx,am,?_⟩
 . rw[aq (aN hb h0),aq (aN hb h1),aq (aN hb h0)];exact hb
 . rw[aq h2,am]
theorem mk_sp{H:Hp}{C e:Addr}{a:Str}{v:V}{Q:VK}{E:XK}(hv:FmOk v)(he:H e=none)(h:∀H2,Same H H2->Ex H2 e C a v->Q .non H2):DS C a [.ref e,v] (upd H e (mr C e)) Q E:=by
 refine⟨e,v,rfl,am,hv,fun dx h1 h2=>?_⟩;obtain⟨s,x⟩:=CN (a:=a) (v:=v) he h1 h2;exact h _ s x
theorem lk1(f:Str)(v:V):([(f,v)]:List (Str×V)).lookup f=some v:=by simp [List.lookup]
theorem AU{K:W.Frag}{C:Addr}:W.kitOne K (.ref C) (.ref C)=some true:=by
 unfold W.kitOne;rw[zB0 (by simp)]
theorem ye{K:W.Frag}{t:Value}{Ds:List Addr}(h:∀D∈Ds,W.kitOne K t (.ref D)=some false):W.kitAny K t (Ds.map Value.ref)=some false:=by
 induction Ds with
 | nil=>rfl
 | cons D r ih=>
   show(match W.kitOne K t (.ref D)with | some true=>some true | some false=>W.kitAny K t (r.map Value.ref) | none=>none)=_;rw[h D qG0];exact ih fun D' hD=>h D' (qF0 _ hD)
section
variable {C CM CA CG:Addr}
variable {cA c0 c1 c2 c3 c4 c5 c6 c7 c8 c9:Addr}
def kR(C CM CG c9:Addr):Sp:=fun vs H Q E=>∃(g h:Addr)(rv:List V)(rows:List Hr)(ns:List Str)(ts:List Tr)(p:Int),vs=[.ref g,.ref h]/\Gm CG H g ns ts p/\GmK ns ts p/\ns.length<=6/\H h=some (.tup rv)/\RowsAt H rv rows/\(∀r∈rows,r.good)/\p ^ aS ns ts<10000000000000000000000000000000000000000/\
 (∀(a:Addr)(H':Hp),p ^ aS ns ts<=4000->Same H H'->WtAt H' a (dq ns ts p rows (aS ns ts) 8 (Tk.new ts) [])->Q (.ref a) H')/\
 ∀(e dx:Addr) (H':Hp),¬ p ^ aS ns ts<=4000->Same H H'->H' e=some (tT c9 e dx)->H' dx=some (.xd [("rows",.int (p ^ aS ns ts))])->E (.ref e) (some dx) H'
theorem u8:FnScope ["game","helper","rows"] ["game","helper"] (af fZ):=⟨rfl,rfl,rfl,by decide +kernel,rfl,by decide +kernel,by decide +kernel⟩
theorem uG {f fI fM f9:Addr} {fd fdI fdM fd9:FuncData} (F:Fun K "weighed" "weighed" fZ f fd) (T:DTxt K mg C) (TM:MTxt K mg CM) (hmost:∃t,mg "MOST_ROWS"=some (.int 4000 t)) (TX:Exs K mg cA c0 c1 c2 c3 c4 c5 c6 c7 c8 c9) (M9:Mkr P w K mg base c9 "rows" f9 fd9)
 (MD:Mk K C fI) (GD:FnOk P w K mg base CX0 1 fI fdI ["self","game"] (qj C CG)) (bD:Binds K fdI ["self","game"] []) (MM:Mk K CM fM) (GM:FnOk P w K mg base CX0 1 fM fdM ["self","game","helper"] (qf CM)) (bM:Binds K fdM ["self","game","helper"] [])
 (fO:Cal P w K mg base 2 "rows_of_coins" ["game"] (vN CG)) (cO:Cal P w K mg base 35 "weighed_behind" ["machine","doubter","coins"] (xf C CM CG 8)):FnOk P w K mg base (CXr P w) 36 f fd ["game","helper"] (kR C CM CG c9):=by
 refine F.okX u8 (fun vs H Q E h=>?_) (fun cdv A outer s H vs Q E hr h=>?_)
 . obtain⟨g,h,rv,rows,ns,ts,p,rfl,_⟩:=h;rfl
 obtain ⟨g,h,rv,rows,ns,ts,p,rfl,G,k,n6,hh,RW,rg,p40,q,qe⟩:=h;obtain⟨te,ge⟩:=hmost;have hr2:Room (1+1) _:=hr.mono (by decide);have hr3:Room 3 _:=hr.mono (by decide);refine⟨_,(ad (ay (i:=2) u8.nd rfl (Or.inl rfl) (aJ fO hr (by decide) rfl (aa (pv 0) ae)))
  (ad (aR (ax oa (pv 2) (dj (v:=.int 4000) rfl ge ⟨_,rfl⟩) (aF _)) (ag (zV (Ad M9.made M9.ok hr3 rfl TX.g9 M9.b .nil bY (aa (pv 2) ae)))) aG)
  (ag (aD (aJ cO hr (by decide) rfl (aa (gE MM GM hr2 rfl TM.mgC bM .nil bY (aa (pv 0) (aa (pv 1) ae))) (aa (gE MD GD hr2 rfl T.mgC bD .nil bY (aa (pv 0) ae)) (aa (bE ae) ae)))))))),?_⟩
 have p2:=k.p2;have p9:=k.p9;refine⟨_,rfl,g,ns,ts,p,rfl,G,n6,by omega,by omega,?_⟩;refine⟨_,rfl,_,_,rfl,rfl,_,rfl,?_⟩
 by_cases p4:¬ p ^ aS ns ts<=4000
 . refine bz (by omega) ?_;have p0:0<=p ^ aS ns ts:=Int.pow_nonneg (by omega);refine⟨_,rfl,(by show 1<=sizeLine;decide),fun e ze=>mk_sp (.inl ⟨_,rfl,p0,p40⟩) ze fun G4 s4 x4=>⟨rfl,?_⟩⟩;obtain⟨dx,e1,e2⟩:=x4;have hde:dx≠e:=fun z=>by
    rw[z,e1]at e2;cases e2
   refine⟨e,c9,cA,dx,rfl,e1,TX.x9,qe e dx _ p4 (fun b o hb=>?_) am (by rw[aq hde];exact e2)⟩;rw[aq (aN hb ze)];exact s4 _ _ hb
 have p4:p ^ aS ns ts<=4000:=Decidable.not_not.mp p4;refine aI (by omega) ?_;refine⟨_,rfl,_,rfl,fun M dm hM0 hdm0 nM=>?_⟩;have K1:Same H (upd (upd H dm (.own M)) M (.ins CM dm [])):=fun a o e=>by
  rw[aq (aN e hM0),aq (aN e hdm0)];exact e
 refine ⟨M,g,h,dm,rfl,am,fun b H2 b0 hM2 hb2 S2=>⟨rfl,?_⟩⟩;have T2:Same H H2:=Same.but K1 hM0 S2;have b00:H b=none:=K1.free b0;clear K1 S2 b0;refine⟨_,rfl,fun D dd hD0 hdd0 nD=>?_⟩;have K3:Same H2 (upd (upd H2 dd (.own D)) D (.ins C dd [])):=fun a o e=>by
  rw[aq (aN e hD0),aq (aN e hdd0)];exact e
 have G2:=G.same T2;have gD:g≠D:=by
  obtain⟨_,_,_,_,⟨dg,hg⟩,_⟩:=G2;exact aN hg hD0
 refine⟨D,g,dd,ns,ts,p,rfl,am,G2.same K3,gD,fun H4 S4 DA4=>⟨rfl,?_⟩⟩;have T24:Same H2 H4:=Same.but K3 hD0 S4;have T4:Same H H4:=T2.trans T24;have D00:H D=none:=T2.free hD0;have nDM:D≠M:=(aN hM2 hD0).symm;have W4:TalkAt C CM CG H4 D M g h b rows ns ts p (Tk.new ts) 0:=⟨DA4,G.same T4,⟨dm,T24 _ _ hM2⟩,⟨rv,T4 _ _ hh,RW.mono (bp T4)⟩,⟨[],T24 _ _ hb2,zF0 _,fun _=>rfl⟩,nDM⟩
 refine ⟨(by show 0<=sizeLine;decide),fun c hc=>?_⟩;have I:=zD0 hc (.tup []);have gc:upd H4 c (.tup []) c=some (.tup (([]:List Int).map V.int)):=am;generalize upd H4 c (.tup [])=H5 at I gc;obtain⟨_,c1,_⟩:=ik (rows:=rows) k n6;have c2:ns.length+(if 1<ts.length then 1 else 0)<=aS ns ts:=by
  unfold aS
  split <;> split <;> omega
 have c7:=kH (ts:=ts) n6;refine⟨D,M,g,h,b,c,rows,ns,ts,p,Tk.new ts,0,[],rfl,W4.same I,k,n6,rg,.inl rfl,by omega,gc,(by show 0+_<=_;omega),by decide,fun a H6 w6 S6=>q a H6 p4 (fun x o e=>?_) w6⟩;exact S6 _ _ (aN e D00) (aN e hM0) (aN e b00) (I _ _ (T4 _ _ e))
end
def dz(p:Nat):Nat->List (List Int)
 | 0=>[[]]
 | k+1=>(List.range p).flatMap fun r:Nat=>(dz p k).map ((r:Int)::·)
theorem ib{p:Nat}:∀(k:Nat)(c:List Int),c∈dz p k->c.length=k/\cg c (p:Int)
 | 0,c,h=>by
   have e:c=[]:=by simpa [dz]using h
   subst e;exact⟨rfl,fun x hx=>by cases hx⟩
 | k+1,c,h=>by
   unfold dz at h;obtain⟨r,hr,h⟩:=List.mem_flatMap.mp h;obtain⟨c',hc',rfl⟩:=List.mem_map.mp h;have hr:=List.mem_range.mp hr;obtain⟨l,o⟩:=ib k c' hc';refine⟨by rw[qC0,l],fun x hx=>?_⟩;rcases qD0 hx with e | e
   . subst e;omega
   . exact o x e
theorem lJ{p:Nat}(hp:0<p):∀k,(dz p k).head?=some (List.replicate k 0)
 | 0=>rfl
 | k+1=>by
   obtain⟨q,rfl⟩:∃q,p=q+1:=⟨p-1,by omega⟩
   unfold dz;rw[List.range_succ_eq_map,List.flatMap_cons,List.head?_append,List.head?_map,lJ hp k];rfl
theorem kL{p:Nat}:∀k,(dz p k).length=p ^ k
 | 0=>rfl
 | k+1=>by
   unfold dz;rw[List.length_flatMap]
   have:((List.range p).map fun a:Nat=>((dz p k).map ((a:Int)::·)).length)=List.replicate p (p ^ k):=by
    rw[List.eq_replicate_iff];refine⟨by simp,fun b hb=>?_⟩;obtain⟨a,_,rfl⟩:=List.mem_map.mp hb;rw[zG0,kL k]
   rw[this,List.sum_replicate_nat,Nat.pow_succ,Nat.mul_comm]
def gJ(L:List (List Int))(b:List Int->Bool)(cs:List Int):Int×Option (List Int):=(((L.filter b).length:Int),((L.filter fun c=>!b c).head?).map (cs++·))
theorem fg{L:List (List Int)}{b b':List Int->Bool}{cs:List Int}(h:∀c∈L,b c=b' c):gJ L b cs=gJ L b' cs:=by
 unfold gJ;have e1:L.filter b=L.filter b':=List.filter_congr h;have e2:(L.filter fun c=>!b c)=L.filter fun c=>!b' c:=List.filter_congr fun c hc=>by rw[h c hc]
 rw[e1,e2]
theorem zO{L M:List (List Int)}{b:List Int->Bool}{cs:List Int}:gJ (L++M) b cs=((gJ L b cs).1+(gJ M b cs).1,(gJ L b cs).2.or (gJ M b cs).2):=by
 unfold gJ;rw[List.filter_append,List.filter_append,zN0,List.head?_append,Int.natCast_add]
 congr 1
 cases(List.filter (fun c=>!b c) L).head? <;> rfl
theorem zN{L:List (List Int)}{b:List Int->Bool}{cs:List Int}{r:Int}:gJ (L.map (r::·)) b cs=gJ L (fun c=>b (r::c)) (cs++[r]):=by
 unfold gJ;rw[List.filter_map,List.filter_map,zG0,List.head?_map]
 congr 1
 show Option.map _ (Option.map _ _)=_;rw[Option.map_map]
 congr 1
 funext c
 show cs++(r::c)=(cs++[r])++c;rw[List.append_assoc];rfl
theorem pR{p j:Nat}{f:Int->Int×Option (List Int)}{b:List Int->Bool}{cs:List Int}(h:∀r:Nat,r<p->f (r:Int)=gJ (dz p j) (fun c=>b ((r:Int)::c)) (cs++[(r:Int)])):∀k,k<=p->hR f k=gJ ((List.range k).flatMap fun r:Nat=>(dz p j).map ((r:Int)::·)) b cs
 | 0,_=>rfl
 | k+1,hk=>by
   show((hR f k).1+(f (k:Int)).1,(hR f k).2.or (f (k:Int)).2)=_;rw[pR h k (by omega),h k (by omega),List.range_succ,List.flatMap_append,zO,List.flatMap_singleton,zN]
section
variable {ns:List Str} {ts:List Tr} {p:Int} {t:Tk} {rows:List Hr}
theorem za(z:Db):bt ns z<=2*ns.length+1:=by
 unfold bt
 split
 . omega
 . split
   . split <;> omega
   . omega
theorem lC{cs:List Int}(h:cg cs p)(p0:0<p):0<=cs.headD 0/\cs.headD 0<p:=by
 cases cs with
 | nil=>exact⟨Int.le_refl 0,p0⟩
 | cons a r=>exact h a (qG0 ..)
theorem mt{cs:List Int}(h:cg cs p):cg cs.tail p:=fun x hx=>h x (List.mem_of_mem_tail hx)
theorem jR(k:GmK ns ts p)(n6:ns.length<=6):∀(n:Nat)(t:Tk)(cs:List Int),TkOk ns ts p t->cg cs p->bt ns t.z<=n->(cJ ns ts p rows cs (n+1) t).2=(cJ ns ts p rows cs n t).2
 | 0,t,cs,h,hc,hs=>by
   have h1:¬ t.z.aw.1="hear":=fun z=>by have:=(dS h (.inl z)).1;omega
   have h2:¬ t.z.aw.1="coin":=fun z=>by have:=(dS h (.inr z)).1;omega
   rw[df h1 h2,df h1 h2]
 | n+1,t,cs,h,hc,hs=>by
   have p2:=k.p2
   by_cases ch:t.z.aw.1="hear"
   . rw[gn ch,gn ch];obtain⟨o,s,_⟩:=h.ask (rows:=rows) k n6 ch;exact jR k n6 n _ cs o hc (by omega)
   . by_cases cc:t.z.aw.1="coin"
     . rw[eP cc,eP cc];obtain⟨r0,r1⟩:=lC hc (by omega);obtain⟨o,s,_⟩:=h.toss k cc r0 r1;exact jR k n6 n _ cs.tail o (mt hc) (by omega)
     . rw[df ch cc,df ch cc]
theorem mQ(k:GmK ns ts p)(n6:ns.length<=6){cs:List Int}(h:TkOk ns ts p t)(hc:cg cs p){n:Nat}(hs:bt ns t.z<=n):∀m,(cJ ns ts p rows cs (n+m) t).2=(cJ ns ts p rows cs n t).2
 | 0=>rfl
 | m+1=>by rw[←Nat.add_assoc,jR k n6 _ _ _ h hc (by omega),mQ k n6 h hc hs m]
theorem rG(k:GmK ns ts p)(n6:ns.length<=6){cs:List Int}(h:TkOk ns ts p t)(hc:cg cs p){n m:Nat}(hn:13<=n)(hm:13<=m):(cJ ns ts p rows cs n t).2=(cJ ns ts p rows cs m t).2:=by
 have:=za (ns:=ns) t.z
 obtain⟨a,rfl⟩:∃a,n=13+a:=⟨n-13,by omega⟩
 obtain⟨b,rfl⟩:∃b,m=13+b:=⟨m-13,by omega⟩
 rw[mQ k n6 h hc (by omega),mQ k n6 h hc (by omega)]
theorem jZ(k:GmK ns ts p)(n6:ns.length<=6){cs:List Int}(h:TkOk ns ts p t)(hc:cg cs p){n m:Nat}(hn:14<=n)(hm:14<=m):(cJ ns ts p rows cs n t).2=(cJ ns ts p rows cs m (settle ns ts p rows 2 t)).2:=by
 by_cases ch:t.z.aw.1="hear"
 . obtain ⟨o,s,_,o4⟩:=h.ask (rows:=rows) k n6 ch;have e:settle ns ts p rows 2 t=t.ask ns ts p rows:=(zB0 ch).trans (cE o4 1);rw[e];obtain⟨a,rfl⟩:∃a,n=a+1:=⟨n-1,by omega⟩
   rw[gn ch];exact rG k n6 o hc (by omega) (by omega)
 . rw[cE ch];exact rG k n6 h hc (by omega) (by omega)
structure Lf(ns:List Str)(t:Tk)(j:Nat):Prop where
 hc:t.z.aw.1="hear"∨t.z.aw.1="coin" -> bO ns t.z=j
 be:t.z.aw.1="believed" -> j=0
theorem Az:¬ (("believed":Str)="hear"):=by decide +kernel
theorem Du:¬ (("coin":Str)="believed"):=by decide +kernel
theorem wv:¬ (("caught":Str)="believed"):=by decide +kernel
theorem ne_w8:¬ (("hear":Str)="believed"):=by decide +kernel
theorem wu:¬ (("caught":Str)="coin"):=by decide +kernel
theorem qZ(z:Db)(tl:z.to.length<=ns.length)(bx:Str->Int)(nr:Int):Lf ns ⟨goOn ns ts p z,bx,nr⟩ (ns.length-z.to.length):=by
 unfold goOn
 by_cases c:z.to.length<ns.length
 . rw[zB0 c];exact⟨fun _=>zB0 rfl,fun h=>absurd h ne_w8⟩
 . rw [zA0 c];unfold dh
   by_cases e:z.ed=hor z.s p (ts.map fun t=>t.worth ns z.to p)
   . rw[zB0 e];exact⟨fun h=>h.elim (fun h=>absurd h Az) (fun h=>absurd h wx),fun _=>(by show ns.length-z.to.length=0;omega)⟩
   . rw[zA0 e];exact⟨fun h=>h.elim (fun h=>absurd h sI) (fun h=>absurd h wu),fun h=>absurd h wv⟩
theorem Lf.ask (k:GmK ns ts p) (n6:ns.length<=6) {j:Nat} (h:TkOk ns ts p t) (l:Lf ns t j) (hw:t.z.aw.1="hear"):Lf ns (t.ask ns ts p rows) j:=by
 have ho:=h.hear (rows:=rows) k n6 hw;have x0:=h.gd.hear_ne k ho;have e:cD ns ts p (t.said ns ts p rows) t.z=de p (t.said ns ts p rows) { t.z with pl:=t.z.pl+((t.said ns ts p rows).length:Int) }:=zA0 h.cl;have l1:=l.hc (.inl hw);have s2:bO ns t.z=ns.length-t.z.to.length:=zB0 hw;have ez:(t.ask ns ts p rows).z=de p (t.said ns ts p rows) { t.z with pl:=t.z.pl+((t.said ns ts p rows).length:Int) }:=e;refine⟨fun hh=>?_,fun hh=>?_⟩
 . rw [ez]at hh ⊢;unfold de at hh ⊢
   by_cases c:(val p (t.said ns ts p rows) 0+val p (t.said ns ts p rows) 1) % p=t.z.ed
   . rw[zB0 c];show(if(("coin":Str)="hear")then _ else if(("coin":Str)="coin")then(if t.said ns ts p rows=[]then _ else _)else _)=j;rw[zA0 gr,zB0 rfl,zA0 x0];show ns.length-t.z.to.length=j;omega
   . rw[zA0 c]at hh;exact hh.elim (fun h=>absurd h sI) (fun h=>absurd h wu)
 . rw [ez]at hh;unfold de at hh
   by_cases c:(val p (t.said ns ts p rows) 0+val p (t.said ns ts p rows) 1) % p=t.z.ed
   . rw[zB0 c]at hh;exact absurd hh Du
   . rw[zA0 c]at hh;exact absurd hh wv
theorem Lf.settle(k:GmK ns ts p)(n6:ns.length<=6){j:Nat}(h:TkOk ns ts p t)(l:Lf ns t j):Lf ns (settle ns ts p rows 2 t) j:=by
 by_cases ch:t.z.aw.1="hear"
 . obtain⟨o,s,_,o4⟩:=h.ask (rows:=rows) k n6 ch;have e:Mine.settle ns ts p rows 2 t=t.ask ns ts p rows:=(zB0 ch).trans (cE o4 1);rw[e];exact l.ask k n6 h ch
 . rw[cE ch];exact l
theorem Lf.toss (h:TkOk ns ts p t) {j:Nat} (l:Lf ns t (j+1)) (hw:t.z.aw.1="coin") (r:Int):Lf ns (t.toss ns ts p r) j:=by
 have nh:¬ t.z.aw.1="hear":=by rw[hw];exact gr
 have s2:bO ns t.z=if t.z.he=[]then ns.length+1 else ns.length-t.z.to.length:=by unfold bO;rw[zA0 nh,zB0 hw]
 have l1:=l.hc (.inr hw)
 by_cases c:t.z.he=[]
 . have et:=h.fi hw c;rw[zB0 c]at s2;have e:t.toss ns ts p r=⟨goOn ns ts p { t.z with pl:=t.z.pl+1,s:=r,ed:=hor r p t.z.cl },t.bx,t.nr⟩:=by
    unfold Tk.toss dc pk;rw[zB0 c]
   rw[e]
   have:=qZ (ns:=ns) (ts:=ts) (p:=p) { t.z with pl:=t.z.pl+1,s:=r,ed:=hor r p t.z.cl } h.gd.tl t.bx t.nr
   have ej:ns.length-t.z.to.length=j:=by rw[et,List.length_nil];omega
   rw[←ej];exact this
 . have tl:=((h.gd.co hw).2 c).2;rw[zA0 c]at s2;have e:t.toss ns ts p r=⟨goOn ns ts p { t.z with pl:=t.z.pl+1,ed:=val p t.z.he r,to:=t.z.to++[r] },t.bx,t.nr⟩:=by
    unfold Tk.toss dc;rw[zA0 c]
   rw[e];have el:(t.z.to++[r]).length=t.z.to.length+1:=by rw[zN0];rfl
   have:=qZ (ns:=ns) (ts:=ts) (p:=p) { t.z with pl:=t.z.pl+1,ed:=val p t.z.he r,to:=t.z.to++[r] } (by show(t.z.to++[r]).length<=_;omega) t.bx t.nr
   have ej:ns.length-(t.z.to++[r]).length=j:=by omega
   rw[←ej];exact this
theorem Lf.new(k:GmK ns ts p):Lf ns ((Tk.new ts).ask ns ts p rows) (aS ns ts):=by
 have e0:cD ns ts p ((Tk.new ts).said ns ts p rows) (Db.new ts)=iy ns ts p ((Tk.new ts).said ns ts p rows) { Db.new ts with pl:=(Db.new ts).pl+(((Tk.new ts).said ns ts p rows).length:Int) }:=zB0 rfl
 by_cases c:ts.length=1
 . have e:(Tk.new ts).ask ns ts p rows=⟨goOn ns ts p { Db.new ts with pl:=(Db.new ts).pl+(((Tk.new ts).said ns ts p rows).length:Int),cl:=(Tk.new ts).said ns ts p rows,s:=0,ed:=hor 0 p ((Tk.new ts).said ns ts p rows) },((Tk.new ts).run ns ts p rows).bx,(Tk.new ts).nr+1⟩:=by
    unfold Tk.ask
    congr 1
    exact e0.trans (zB0 c)
   rw[e];have ej:aS ns ts=ns.length-([]:List Int).length:=zB0 c;rw[ej];exact qZ _ (zZ0 _) _ _
 . have ez:((Tk.new ts).ask ns ts p rows).z={ Db.new ts with pl:=(Db.new ts).pl+(((Tk.new ts).said ns ts p rows).length:Int),cl:=(Tk.new ts).said ns ts p rows,aw:=("coin",none) }:=e0.trans (zA0 c);have ej:aS ns ts=ns.length+1:=zA0 c;refine⟨fun _=>?_,fun h=>?_⟩
   . rw[ez,ej];show(if(("coin":Str)="hear")then _ else if(("coin":Str)="coin")then(if([]:List Int)=[]then ns.length+1 else _)else 0)=_;rw[zA0 gr,zB0 rfl,zB0 rfl]
   . rw[ez]at h;exact absurd h Du
noncomputable def vD (ns:List Str) (ts:List Tr) (p:Int) (rows:List Hr) (t:Tk) (c:List Int):Bool:=decide ((cJ ns ts p rows c 20 t).2.z.aw.1="believed")
theorem pq (k:GmK ns ts p) (n6:ns.length<=6) {cn:Nat}:∀(d j:Nat) (t:Tk) (cs:List Int),TkOk ns ts p (settle ns ts p rows 2 t)->¬ (settle ns ts p rows 2 t).z.aw.1="hear" -> Lf ns (settle ns ts p rows 2 t) j->j<d->cs.length+j=cn ->
 dq ns ts p rows cn d t cs=gJ (dz p.toNat j) (vD ns ts p rows (settle ns ts p rows 2 t)) cs
 | 0,j,_,_,_,_,_,hd,_=>absurd hd (Nat.not_lt_zero _)
 | d+1,j,t,cs,ok,no,lf,hd,hl=>by
   have p2:=k.p2;have ep:(p.toNat:Int)=p:=by omega
   show(if(settle ns ts p rows 2 t).z.aw.1="believed" then _ else if(settle ns ts p rows 2 t).z.aw.1="caught" then _ else _)=_;generalize settle ns ts p rows 2 t=u at ok no lf
   by_cases cb:u.z.aw.1="believed"
   . rw [zB0 cb];have e0:=lf.be cb;subst e0;have e1:vD ns ts p rows u []=true:=by
      unfold vD;rw[df no (by rw[cb];exact wx)];exact decide_eq_true cb
     unfold gJ dz;rw[List.filter_cons_of_pos e1,List.filter_cons_of_neg (by rw[e1];decide)];rfl
   . rw [zA0 cb]
     by_cases cc:u.z.aw.1="caught"
     . rw [zB0 cc];have e1:∀c∈dz p.toNat j,vD ns ts p rows u c=false:=fun c _=>by
        unfold vD;rw[df no (by rw[cc];exact wu)];exact decide_eq_false cb
       rw[fg (b':=fun _=>false) e1];unfold gJ;have e2:(dz p.toNat j).filter (fun _=>false)=[]:=List.filter_eq_nil_iff.mpr fun _ _=>by decide
       have e3:(dz p.toNat j).filter (fun c=>!((fun _=>false) c))=dz p.toNat j:=List.filter_eq_self.mpr fun _ _=>rfl
       rw[e2,e3,lJ (by omega)];show(0,some (cs++List.replicate (cn-cs.length) 0))=((([]:List (List Int)).length:Int),some (cs++List.replicate j 0))
       rw[show cn-cs.length=j by omega];rfl
     . rw [zA0 cc];have co:=tQ ok no cb cc;have cp:=(dS ok (.inr co)).2 co;obtain⟨i,rfl⟩:∃i,j=i+1:=⟨j-1,by have:=lf.hc (.inr co);omega⟩
       refine pR (p:=p.toNat) (j:=i) (fun r hr=>?_) p.toNat (zF0 _);have r0:(0:Int)<=(r:Int):=Int.natCast_nonneg r;have r1:(r:Int)<p:=by omega
       obtain⟨ok3,_⟩:=ok.toss k co r0 r1;obtain⟨ok4,_,no4⟩:=jh (rows:=rows) k n6 ok3;rw[pq k n6 d i _ (cs++[(r:Int)]) ok4 no4 ((lf.toss ok co (r:Int)).settle k n6 ok3) (by omega) (by rw[zN0,qH0];omega)];refine fg fun c hc=>?_
       have po:cg c p:=by
        have:=(ib _ _ hc).2
        rwa [ep]at this
       unfold vD;rw[←jZ (n:=19) k n6 ok3 po (by decide) (by decide),eP (n:=19) co];rfl
theorem kQ (k:GmK ns ts p) (n6:ns.length<=6):dq ns ts p rows (aS ns ts) 8 (Tk.new ts) []=gJ (dz p.toNat (aS ns ts)) (fun c=>decide ((mV ns ts p rows c).2.z.aw.1="believed")) []:=by
 obtain⟨o1,_,no1⟩:=ik (rows:=rows) k n6;obtain⟨o2,_⟩:=kA (rows:=rows) k n6;have c7:=kH (ts:=ts) n6;have ep:(p.toNat:Int)=p:=by have:=k.p2;omega
 have e:settle ns ts p rows 2 (Tk.new ts)=settle ns ts p rows 1 ((Tk.new ts).ask ns ts p rows):=zB0 rfl;have e2:settle ns ts p rows 2 (Tk.new ts)=settle ns ts p rows 2 ((Tk.new ts).ask ns ts p rows):=by
  rw[e]
  by_cases c:((Tk.new ts).ask ns ts p rows).z.aw.1="hear"
  . have n4:=(o2.ask (rows:=rows) k n6 c).2.2.2;show(if _ then _ else _)=(if _ then _ else _)
    rw[zB0 c,zB0 c,cE n4,cE n4]
  . rw[cE c,cE c]
 have lf:=(Lf.new (rows:=rows) k).settle (rows:=rows) k n6 o2;rw[←e2]at lf;rw[pq k n6 8 (aS ns ts) (Tk.new ts) [] o1 no1 lf (by omega) (Nat.zero_add _)];refine fg fun c hc=>?_
 have po:cg c p:=by
  have:=(ib _ _ hc).2
  rwa [ep]at this
 unfold vD;rw[e2,←jZ (n:=20) k n6 o2 po (by decide) (by decide)];rfl
end
theorem yi{p x y:Int}(hp:1<p){o:Str}(bx cy:Bool)(hx:x=if bx then 1 else 0)(hy:y=if cy then 1 else 0):dL p o x y=if iw o bx cy then 1 else 0:=by
 have m0:(0:Int) % p=0:=Int.zero_emod p;have m1:(1:Int) % p=1:=qP0 (by decide) hp;subst hx hy;unfold dL iw;cases bx <;> cases cy <;> (repeat' split) <;> simp_all
theorem gy{ns:List Str}{st:List Int}{p:Int}(hp:1<p)(h:∀x∈st,x=0∨x=1)(hl:st.length=ns.length):∀t:Tr,t.ok ns->t.worth ns st p=if t.holds ns st then 1 else 0
 | .is x,ok=>by
   obtain⟨j,hj,jl⟩:=gl ok;show(match eD x ns with | some j=>st.getD j 0 | none=>0)=if(match eD x ns with | some j=>decide (st.getD j 0=1) | none=>false)=true then 1 else 0
   rw[hj];show st.getD j 0=if decide (st.getD j 0=1)=true then 1 else 0
   rw[oE (by omega)];rcases h _ (qM0 (show j<st.length by omega))with e | e <;> rw[e] <;> rfl
 | .yes,_=>rfl
 | .no,_=>rfl
 | .not a,ok=>by
   have m0:(0:Int) % p=0:=Int.zero_emod p;have m1:(1:Int) % p=1:=qP0 (by decide) hp;show(1-a.worth ns st p) % p=if(!a.holds ns st)=true then 1 else 0
   rw[gy hp h hl a ok];cases a.holds ns st
   . exact m1
   . exact m0
 | .bin o a b,⟨_,k1,k2⟩=>yi hp _ _ (gy hp h hl a k1) (gy hp h hl b k2)
theorem nd_at{ns:List Str}(nd:ns.Nodup){i j:Nat}{z:Str}(hi:ns[i]?=some z)(hj:ns[j]?=some z):i=j:=by
 obtain⟨h1,e1⟩:=zX0 hi;obtain⟨h2,e2⟩:=zX0 hj;rcases Nat.lt_trichotomy i j with h | h | h
 . exact absurd (e1.trans e2.symm) (List.pairwise_iff_getElem.mp nd i j h1 h2 h)
 . exact h
 . exact absurd (e2.trans e1.symm) (List.pairwise_iff_getElem.mp nd j i h2 h1 h)
theorem zB{pt:List Int}{j i:Nat}{x:Int}(hj:j<pt.length):(pt.set j x).getD i 0=if i=j then x else pt.getD i 0:=by
 rw[qI0,qI0,List.getElem?_set]
 by_cases c:j=i
 . subst c
   simp [hj]
 . rw[zA0 c,zA0 (Ne.symm c)]
theorem ig{ns:List Str}{pt:List Int}{p:Int}{j:Nat}{y:Str}(hy:ns[j]?=some y)(hl:pt.length=ns.length)(nd:ns.Nodup):∀t:Tr,t.ok ns->∃f:Int->Int,IsPoly (t.names.count y+1) f/\∀x:Int,p ∣ t.worth ns (pt.set j x) p-f x
 | .is z,ok=>by
   have jl:j<ns.length:=(zX0 hy).1;obtain⟨i,hi,il⟩:=gl ok;have hz:=(nU hi).1;have e:∀x,(Tr.is z).worth ns (pt.set j x) p=if i=j then x else pt.getD i 0:=fun x=>by
    show(match eD z ns with | some j'=>(pt.set j x).getD j' 0 | none=>0)=_;rw[hi];exact zB (by omega)
   by_cases c:i=j
   . subst c;have ez:z=y:=zR0 (hz.symm.trans hy);subst ez;refine⟨fun x=>x,?_,fun x=>⟨0,by rw[e x,zB0 rfl];simp⟩⟩
     have:(Tr.is z).names.count z=1:=by simp [Tr.names]
     rw[this];exact IsPoly.self
   . have ez:z≠y:=fun h=>c (by
      subst h;exact nd_at nd hz hy)
     refine⟨fun _=>pt.getD i 0,?_,fun x=>⟨0,by rw[e x,zA0 c];simp⟩⟩;exact IsPoly.const _ _
 | .yes,_=>⟨fun _=>1,IsPoly.const _ _,fun x=>⟨0,by show(1:Int)-1=_;simp⟩⟩
 | .no,_=>⟨fun _=>0,IsPoly.const _ _,fun x=>⟨0,by show(0:Int)-0=_;simp⟩⟩
 | .not a,ok=>by
   obtain⟨f,hf,h⟩:=ig (p:=p) hy hl nd a ok;refine⟨fun x=>1+(-1)*f x,(IsPoly.const 1 _).add (hf.mul (-1)),fun x=>?_⟩;obtain⟨k,hk⟩:=h x;obtain⟨m,hm⟩:=oJ p (1-a.worth ns (pt.set j x) p);show p ∣ (1-a.worth ns (pt.set j x) p) % p-_;exact⟨m-k,by grind⟩
 | .bin o a b,⟨_,ok1,ok2⟩=>by
   obtain ⟨f,hf,h⟩:=ig (p:=p) hy hl nd a ok1;obtain⟨g,hg,h'⟩:=ig (p:=p) hy hl nd b ok2;have ec:(Tr.bin o a b).names.count y+1=a.names.count y+b.names.count y+1:=by
    show(a.names++b.names).count y+1=_;rw[List.count_append]
   rw [ec];have hF:IsPoly (a.names.count y+b.names.count y+1) f:=hf.upTo _ (by omega);have hG:IsPoly (a.names.count y+b.names.count y+1) g:=hg.upTo _ (by omega);have hP:=hf.prod hg;have fin:∀(c0 c1 c2:Int),(∀u v:Int,dL p o u v=(c0+c1*(u+v)+c2*(u*v)) % p)->∃F:Int->Int,IsPoly (a.names.count y+b.names.count y+1) F/\∀x:Int,p ∣ (Tr.bin o a b).worth ns (pt.set j x) p-F x:=fun c0 c1 c2 hJ=>by
    refine⟨fun x=>c0+c1*(f x+g x)+c2*(f x*g x),((IsPoly.const c0 _).add ((hF.add hG).mul c1)).add (hP.mul c2),fun x=>?_⟩;obtain⟨k,hk⟩:=h x;obtain⟨l,hl⟩:=h' x;show p ∣ dL p o (a.worth ns (pt.set j x) p) (b.worth ns (pt.set j x) p)-_;rw[hJ];generalize a.worth ns (pt.set j x) p=u at *
    generalize b.worth ns (pt.set j x) p=v at *
    obtain⟨m,hm⟩:=oJ p (c0+c1*(u+v)+c2*(u*v));exact⟨m+c1*(k+l)+c2*(k*v+f x*l),by grind⟩
   by_cases c1:o="and"
   . exact fin 0 0 1 fun u v=>by unfold dL;rw[zB0 c1];congr 1;grind
   by_cases c2:o="or"
   . exact fin 0 1 (-1) fun u v=>by unfold dL;rw[zA0 c1,zB0 c2];congr 1;grind
   by_cases c3:o="odd"
   . exact fin 0 1 (-2) fun u v=>by unfold dL;rw[zA0 c1,zA0 c2,zB0 c3];congr 1;grind
   . exact fin 1 (-1) 2 fun u v=>by unfold dL;rw[zA0 c1,zA0 c2,zA0 c3];congr 1;grind
theorem sK{ns:List Str}{pt:List Int}{p s:Int}{j D:Nat}{y:Str}(hy:ns[j]?=some y)(hl:pt.length=ns.length)(nd:ns.Nodup):∀ts:List Tr,(∀t∈ts,t.ok ns/\t.names.count y<=D)->∃f:Int->Int,IsPoly (D+1) f/\∀x:Int,p ∣ gq s (ts.map fun t=>t.worth ns (pt.set j x) p)-f x
 | [],_=>⟨fun _=>0,IsPoly.const _ _,fun x=>⟨0,by simp [gq]⟩⟩
 | t::ts,h=>by
   obtain⟨f,hf,h1⟩:=ig (p:=p) hy hl nd t (h t qG0).1;obtain⟨g,hg,h2⟩:=sK (p:=p) (s:=s) hy hl nd ts fun u hu=>h u (qF0 _ hu)
   have hd:=(h t qG0).2;refine⟨fun x=>f x+s*g x,(hf.upTo _ (by omega)).add (hg.mul s),fun x=>?_⟩;obtain⟨k,hk⟩:=h1 x;obtain⟨l,hl⟩:=h2 x;show p ∣ t.worth ns (pt.set j x) p+s*gq s (ts.map fun t=>t.worth ns (pt.set j x) p)-_;exact⟨k+s*l,by grind⟩
theorem yM{p:Int}(hp:Pm p){xs:List Int}{f:Int->Int}(hn:(xs.length:Int)<=p)(hf:IsPoly xs.length f)(h:∀k,k<xs.length->p ∣ xs.getD k 0-f k)(r:Int):val p xs r=f r % p:=
 md (sQ hp hn (tX hp hn) hf h r)
theorem ES{ts:List Tr}{x:Str}:∀t∈ts,t.names.count x<=(bd ts x).toNat:=fun t ht=>by
 have:=CF (d:=0) (List.mem_map.mpr ⟨t,ht,rfl⟩:((t.names.count x:Nat):Int)∈ts.map fun t=>(t.names.count x:Int))
 unfold bd;omega
theorem vZ:∀(cs st:List Int)(x z:Int),(cs++[z]++st).set cs.length x=cs++[x]++st
 | [],_,_,_=>rfl
 | a::cs,st,x,z=>congrArg (a::·) (vZ cs st x z)
theorem rH{ns:List Str}{cs:List Int}{p s:Int}{D:Nat}{y:Str}{ts:List Tr}(hy:ns[cs.length]?=some y)(nd:ns.Nodup)(h:∀t∈ts,t.ok ns/\t.names.count y<=D):∀l:List (List Int),(∀st∈l,cs.length+1+st.length=ns.length) ->
 ∃f:Int->Int,IsPoly (D+1) f/\∀x:Int,p ∣ (l.map fun st=>gq s (ts.map fun t=>t.worth ns (cs++[x]++st) p)).sum-f x
 | [],_=>⟨fun _=>0,IsPoly.const _ _,fun x=>⟨0,by simp⟩⟩
 | st::l,hs=>by
   obtain⟨f,hf,h1⟩:=sK (p:=p) (s:=s) (pt:=cs++[0]++st) hy (by rw[zN0,zN0,qH0];exact hs st qG0) nd ts h;obtain⟨g,hg,h2⟩:=rH (p:=p) (s:=s) hy nd h l fun u hu=>hs u (qF0 _ hu)
   refine⟨fun x=>f x+g x,hf.add hg,fun x=>?_⟩;obtain⟨k,hk⟩:=h1 x;rw[vZ]at hk;obtain⟨m,hm⟩:=h2 x;refine⟨k+m,?_⟩;simp only[zS0,List.sum_cons];rw[Int.mul_add];omega
theorem kX:∀(n:Nat)(s:List Int),s∈bL n->s.length=n
 | 0,s,h=>by rw[zT0 h];rfl
 | n+1,s,h=>by
   obtain⟨t,ht,h⟩:=List.mem_flatMap.mp h
   have:=kX n t ht
   rcases qD0 h with h | h
   . rw[h,zN0,this];rfl
   . rw[zT0 h,zN0,this];rfl
theorem vG{ns:List Str}{ts:List Tr}{s p:Int}{cs:List Int}{y:Str}(hp:Pm p)(hy:ns[cs.length]?=some y)(nd:ns.Nodup)(ok:∀t∈ts,t.ok ns)(tne:ts≠[])(dp:bd ts y<p)(r:Int) :
 val p (fX ns ts s p cs (bd ts y+1).toNat) r=cP ns ts s p (cs++[r]):=by
 have cl:cs.length<ns.length:=(zX0 hy).1;have d0:=tE (x:=y) tne;obtain⟨f,hf,h⟩:=rH (p:=p) (s:=s) hy nd (fun t ht=>⟨ok t ht,ES t ht⟩) (bL (ns.length-(cs.length+1))) fun st hst=>by
  have:=kX _ _ hst
  omega
 have ll:(fX ns ts s p cs (bd ts y+1).toNat).length=(bd ts y).toNat+1:=by
  unfold fX;rw[zG0,qO0];omega
 have eq:∀x:Int,cP ns ts s p (cs++[x])=((bL (ns.length-(cs.length+1))).map fun st=>gq s (ts.map fun t=>t.worth ns (cs++[x]++st) p)).sum % p:=fun x=>by
  unfold cP;rw[zN0,qH0]
 rw [yM hp (f:=f) (by rw[ll];omega) (by rw[ll];exact hf) (fun k hk=>by
  have e:(fX ns ts s p cs (bd ts y+1).toNat).getD k 0=cP ns ts s p (cs++[(k:Int)]):=by
   unfold fX at hk ⊢;rw[zG0,qO0]at hk;rw[qI0,qA0,List.getElem?_range hk];rfl
  rw[e,eq];obtain⟨a,ha⟩:=h k;obtain⟨b,hb⟩:=oJ p ((bL (ns.length-(cs.length+1))).map fun st=>gq s (ts.map fun t=>t.worth ns (cs++[(k:Int)]++st) p)).sum;exact⟨a+b,by grind⟩) r,eq]
 obtain⟨a,ha⟩:=h r;exact md ⟨-a,by grind⟩
theorem vI{α:Type}(F:List α->Int)(G:List α->Int):∀l:List (List α),(l.map fun s=>F s+G s).sum=(l.map F).sum+(l.map G).sum
 | []=>rfl
 | a::l=>by
   simp only[zS0,List.sum_cons,vI F G l];omega
theorem mX(F:List Int->Int):∀l:List (List Int),((l.flatMap fun s=>[s++[0],s++[1]]).map F).sum=(l.map fun s=>F (s++[0])+F (s++[1])).sum
 | []=>rfl
 | a::l=>by
   rw[List.flatMap_cons,zM0,List.sum_append,mX F l]
   simp
theorem lO:∀(n:Nat)(F:List Int->Int),((bL (n+1)).map F).sum=((bL n).map fun s=>F (0::s)+F (1::s)).sum
 | 0,F=>by simp [bL]
 | n+1,F=>by
   have e1:((bL (n+1+1)).map F).sum=((bL (n+1)).map fun s=>F (s++[0])+F (s++[1])).sum:=mX F _;rw[e1,lO n fun s=>F (s++[0])+F (s++[1])];have e2:((bL (n+1)).map fun s=>F (0::s)+F (1::s)).sum=((bL n).map fun s=>(F (0::(s++[0]))+F (1::(s++[0])))+(F (0::(s++[1]))+F (1::(s++[1])))).sum:=mX (fun s=>F (0::s)+F (1::s)) _;rw[e2]
   congr 1
   refine List.map_congr_left fun s _=>?_
   show F (0::s++[0])+F (0::s++[1])+(F (1::s++[0])+F (1::s++[1]))=_;simp only[List.cons_append];omega
theorem xD{ns:List Str}{ts:List Tr}{s p:Int}{cs:List Int}(cl:cs.length<ns.length):(cP ns ts s p (cs++[0])+cP ns ts s p (cs++[1])) % p=cP ns ts s p cs:=by
 have eq:∀x:Int,cP ns ts s p (cs++[x])=((bL (ns.length-(cs.length+1))).map fun st=>gq s (ts.map fun t=>t.worth ns (cs++[x]++st) p)).sum % p:=fun x=>by
  unfold cP;rw[zN0,qH0]
 have e0:cP ns ts s p cs=((bL (ns.length-(cs.length+1)+1)).map fun st=>gq s (ts.map fun t=>t.worth ns (cs++st) p)).sum % p:=by
  unfold cP;rw[show ns.length-cs.length=ns.length-(cs.length+1)+1 by omega]
 rw [e0,lO,eq,eq];have e1:((bL (ns.length-(cs.length+1))).map fun st=>gq s (ts.map fun t=>t.worth ns (cs++0::st) p)+gq s (ts.map fun t=>t.worth ns (cs++1::st) p)).sum
  = ((bL (ns.length-(cs.length+1))).map fun st=>gq s (ts.map fun t=>t.worth ns (cs++[0]++st) p)).sum+((bL (ns.length-(cs.length+1))).map fun st=>gq s (ts.map fun t=>t.worth ns (cs++[1]++st) p)).sum:=by
  rw[←vI]
  congr 1
  refine List.map_congr_left fun st _=>?_
  simp only[List.append_assoc,List.singleton_append]
 rw[e1,←Int.add_emod]
theorem nV(s:Int){α:Type}(F:Tr->α->Int)(l:List α):∀ts:List Tr,gq s (ts.map fun t=>(l.map (F t)).sum)=(l.map fun a=>gq s (ts.map fun t=>F t a)).sum
 | []=>by
   simp only[List.map_nil,gq]
   induction l with
   | nil=>rfl
   | cons a l ih=>simpa using ih
 | t::ts=>by
   show(l.map (F t)).sum+s*gq s (ts.map fun t=>(l.map (F t)).sum)=_;rw[nV s F l ts];clear nV
   induction l with
   | nil=>simp
   | cons a l ih=>
     simp only[zS0,List.sum_cons,gq]at ih ⊢
     grind
theorem Ca{ns:List Str}{ts:List Tr}{s p:Int}{cs:List Int}(cl:cs.length=ns.length):cP ns ts s p cs=hor s p (ts.map fun t=>t.worth ns cs p):=by
 rw[kE];unfold cP;rw[cl,Nat.sub_self]
 simp [bL]
section
theorem yR{z:Ak}(k:AkOk z)(nd:z.ns.Nodup)(i:Int)(h:0<z.nr):di z i=cP z.ns z.ts z.s z.p (z.to++[i]):=by
 obtain ⟨x,hx,ex,d0,d1,d4⟩:=k.deg h;unfold di;rw[zB0 h];have e:z.tru=fX z.ns z.ts z.s z.p z.to (bd z.ts x+1).toNat:=by
  unfold Ak.tru;rw[zA0 (by omega),ex]
 have t0:z.ts≠[]:=fun e=>by have:=k.gk.t1;rw[e]at this;cases this
 rw[e];exact vG (sq k.gk.pr (by have:=k.gk.p9;omega)) hx nd (fun t ht=>(k.gk.tok t ht).1) t0 d1 i
theorem yS{z:Ak}(h:z.nr=0)(i:Nat){t:Tr}(ht:z.ts[i]?=some t):di z (i:Int)=(cnt t z.ns:Int) % z.p:=by
 have hl:=(zX0 ht).1;unfold di;have e:z.tru=z.ts.map (fun t=>(cnt t z.ns:Int)):=by
  unfold Ak.tru;rw[zB0 h]
 rw[zA0 (by omega),e,zG0,zB0 (by omega),qS0,qI0,qA0,ht];rfl
end
theorem CP{ns:List Str}{p:Int}(hp:1<p){t:Tr}(ok:t.ok ns):(cnt t ns:Int)=((bL ns.length).map fun st=>t.worth ns st p).sum:=by
 unfold cnt;have h:∀st∈bL ns.length,t.worth ns st p=if t.holds ns st then 1 else 0:=fun st hst=>gy hp (kd _ _ hst) (kX _ _ hst) t ok
 generalize bL ns.length=l at h
 induction l with
 | nil=>rfl
 | cons a l ih=>
   have ih:=ih fun st hst=>h st (qF0 _ hst)
   rw[zS0,List.sum_cons,←ih,h a qG0,List.filter_cons];cases t.holds ns a
   . simp
   . simp only[if_true,qC0];omega
theorem uV{ns:List Str}{ts:List Tr}{s p:Int}(hp:1<p)(ok:∀t∈ts,t.ok ns):hor s p (ts.map fun t=>(cnt t ns:Int))=cP ns ts s p []:=by
 rw[kE];unfold cP;have e:(ts.map fun t=>(cnt t ns:Int))=ts.map fun t=>((bL ns.length).map fun st=>t.worth ns st p).sum:=List.map_congr_left fun t ht=>CP hp (ok t ht)
 rw[e,nV s (fun t st=>t.worth ns st p)];rfl
theorem wB(s p:Int):∀xs:List Int,hor s p (xs.map (· % p))=hor s p xs
 | []=>rfl
 | a::r=>by
   show(hor s p (r.map (· % p))*s+a % p) % p=(hor s p r*s+a) % p;rw[wB s p r,Int.add_emod_emod]
section
variable {ns:List Str} {ts:List Tr} {p:Int} {t:Tk} {rows:List Hr}
theorem sL(k:GmK ns ts p)(s:Int):hor s p (ts.map fun u=>(cnt u ns:Int) % p)=cP ns ts s p []:=by
 have p2:=k.p2;rw[←uV (s:=s) (p:=p) (by omega) (fun u hu=>(k.tok u hu).1),←wB s p (ts.map fun t=>(cnt t ns:Int)),List.map_map];rfl
theorem sY (z:Db) (tl:z.to.length<=ns.length) (e:z.ed=cP ns ts z.s p z.to):((goOn ns ts p z).aw.1="hear" -> (goOn ns ts p z).ed=cP ns ts (goOn ns ts p z).s p (goOn ns ts p z).to)/\(¬ (goOn ns ts p z).aw.1="hear" -> (goOn ns ts p z).aw=(("believed":Str),none)):=by
 unfold goOn
 by_cases c:z.to.length<ns.length
 . rw[zB0 c];exact⟨fun _=>e,fun h=>absurd rfl h⟩
 . rw [zA0 c];unfold dh;have e2:z.ed=hor z.s p (ts.map fun t=>t.worth ns z.to p):=by rw[e,Ca (by omega)]
   rw[zB0 e2];exact⟨fun h=>absurd h Az,fun _=>rfl⟩
structure Tru(ns:List Str)(ts:List Tr)(p:Int)(t:Tk):Prop where
 he:t.z.aw.1="hear" -> t.z.ed=cP ns ts t.z.s p t.z.to
 co:t.z.aw.1="coin" -> t.z.he≠[]->t.z.he=fX ns ts t.z.s p t.z.to (bd ts (ns.getD t.z.to.length "")+1).toNat
 cm:t.z.aw.1="coin" -> t.z.he=[]->t.z.cl=ts.map (fun u=>(cnt u ns:Int) % p)/\t.z.to=[]
 en:¬ t.z.aw.1="hear" -> ¬ t.z.aw.1="coin" -> t.z.aw=(("believed":Str),none)
structure Hon(ns:List Str)(ts:List Tr)(p:Int)(rows:List Hr):Prop where
 cl:(Tk.new ts).said ns ts p rows=ts.map (fun u=>(cnt u ns:Int) % p)
 ro:∀t,TkOk ns ts p t->t.z.aw.1="hear" -> t.said ns ts p rows=fX ns ts t.z.s p t.z.to (awN t.z).toNat
theorem mL (k:GmK ns ts p) (nd:ns.Nodup) {cs:List Int} {s:Int} (tl:cs.length<ns.length) (r:Int):val p (fX ns ts s p cs (bd ts (ns.getD cs.length "")+1).toNat) r=cP ns ts s p (cs++[r]):=by
 have hy:ns[cs.length]?=some (ns.getD cs.length ""):=by
  rw[qI0,zP0 tl];rfl
 have hx:ns.getD cs.length ""∈ns:=qJ0 hy;have t0:ts≠[]:=fun e=>by have:=k.t1;rw[e]at this;cases this
 exact vG (sq k.pr (by have:=k.p9;omega)) hy nd (fun u hu=>(k.tok u hu).1) t0 (k.deg _ hx).2 r
theorem Tru.ask (k:GmK ns ts p) (n6:ns.length<=6) (nd:ns.Nodup) (hn:Hon ns ts p rows) (h:TkOk ns ts p t) (d:Tru ns ts p t) (hw:t.z.aw.1="hear"):Tru ns ts p (t.ask ns ts p rows):=by
 obtain⟨_,_,_,tl,aw,ea⟩:=h.ak k n6 hw;have x0:=h.gd.hear_ne k (h.hear (rows:=rows) k n6 hw);have e:(t.ask ns ts p rows).z=de p (t.said ns ts p rows) { t.z with pl:=t.z.pl+((t.said ns ts p rows).length:Int) }:=zA0 h.cl;have es:t.said ns ts p rows=fX ns ts t.z.s p t.z.to (bd ts (ns.getD t.z.to.length "")+1).toNat:=by rw[hn.ro t h hw,ea]
 have ac:(t.ask ns ts p rows).z.aw=(("coin":Str),none):=by
  rw[e];unfold de;rw[zB0];show(val p (t.said ns ts p rows) 0+val p (t.said ns ts p rows) 1) % p=t.z.ed;rw[es,mL k nd tl,mL k nd tl,xD tl,d.he hw]
 refine⟨fun z=>?_,fun _ _=>?_,fun _ z=>?_,fun _ z=>?_⟩
 . rw[ac]at z;exact absurd z gr
 . rw[e];exact es
 . rw[e]at z;exact absurd z x0
 . rw[ac]at z;exact absurd rfl z
theorem Tru.toss (k:GmK ns ts p) (nd:ns.Nodup) (h:TkOk ns ts p t) (d:Tru ns ts p t) (hw:t.z.aw.1="coin") (r:Int):Tru ns ts p (t.toss ns ts p r):=by
 have fin:∀z:Db,z.to.length<=ns.length->z.ed=cP ns ts z.s p z.to->(t.toss ns ts p r).z=goOn ns ts p z->Tru ns ts p (t.toss ns ts p r):=fun z tl e ez=>by
  obtain⟨f1,f2⟩:=sY (ns:=ns) (ts:=ts) (p:=p) z tl e;have no:=jG (ns:=ns) (ts:=ts) (p:=p) z;rw[←ez]at f1 f2 no;exact⟨f1,fun z=>absurd z no,fun z=>absurd z no,fun z _=>f2 z⟩
 by_cases c:t.z.he=[]
 . obtain⟨ec,et⟩:=d.cm hw c;refine fin { t.z with pl:=t.z.pl+1,s:=r,ed:=hor r p t.z.cl } h.gd.tl ?_ (zB0 c);show hor r p t.z.cl=cP ns ts r p t.z.to;rw[ec,et,sL k]
 . have tl:=((h.gd.co hw).2 c).2;refine fin { t.z with pl:=t.z.pl+1,ed:=val p t.z.he r,to:=t.z.to++[r] } (by show(t.z.to++[r]).length<=_;rw[zN0,qH0];omega) ?_ (zA0 c);show val p t.z.he r=cP ns ts t.z.s p (t.z.to++[r]);rw[d.co hw c,mL k nd tl]
theorem iW (k:GmK ns ts p) (n6:ns.length<=6) (nd:ns.Nodup) (hn:Hon ns ts p rows):∀(n:Nat) (t:Tk) (cs:List Int),TkOk ns ts p t->Tru ns ts p t->cg cs p->bt ns t.z<=n->(cJ ns ts p rows cs n t).2.z.aw=(("believed":Str),none)
 | 0,t,cs,h,d,hc,hs=>d.en (fun z=>by have:=(dS h (.inl z)).1;omega) (fun z=>by have:=(dS h (.inr z)).1;omega)
 | n+1,t,cs,h,d,hc,hs=>by
   have p2:=k.p2
   by_cases ch:t.z.aw.1="hear"
   . rw[gn ch];obtain⟨o,s,_⟩:=h.ask (rows:=rows) k n6 ch;exact iW k n6 nd hn n _ cs o (d.ask k n6 nd hn h ch) hc (by omega)
   . by_cases cc:t.z.aw.1="coin"
     . rw[eP cc];obtain⟨r0,r1⟩:=lC hc (by omega);obtain⟨o,s,_⟩:=h.toss k cc r0 r1;exact iW k n6 nd hn n _ cs.tail o (d.toss k nd h cc _) (mt hc) (by omega)
     . rw[df ch cc];exact d.en ch cc
theorem Tru.new(k:GmK ns ts p)(hn:Hon ns ts p rows):Tru ns ts p ((Tk.new ts).ask ns ts p rows):=by
 have e0:cD ns ts p ((Tk.new ts).said ns ts p rows) (Db.new ts)=iy ns ts p ((Tk.new ts).said ns ts p rows) { Db.new ts with pl:=(Db.new ts).pl+(((Tk.new ts).said ns ts p rows).length:Int) }:=zB0 rfl
 by_cases c:ts.length=1
 . have e:((Tk.new ts).ask ns ts p rows).z=goOn ns ts p { Db.new ts with pl:=(Db.new ts).pl+(((Tk.new ts).said ns ts p rows).length:Int),cl:=(Tk.new ts).said ns ts p rows,s:=0,ed:=hor 0 p ((Tk.new ts).said ns ts p rows) }:=e0.trans (zB0 c);obtain⟨f1,f2⟩:=sY (ns:=ns) (ts:=ts) (p:=p) { Db.new ts with pl:=(Db.new ts).pl+(((Tk.new ts).said ns ts p rows).length:Int),cl:=(Tk.new ts).said ns ts p rows,s:=0,ed:=hor 0 p ((Tk.new ts).said ns ts p rows) } (zZ0 _) (by
    show hor 0 p ((Tk.new ts).said ns ts p rows)=cP ns ts 0 p [];rw[hn.cl,sL k])
   have no:=jG (ns:=ns) (ts:=ts) (p:=p) { Db.new ts with pl:=(Db.new ts).pl+(((Tk.new ts).said ns ts p rows).length:Int),cl:=(Tk.new ts).said ns ts p rows,s:=0,ed:=hor 0 p ((Tk.new ts).said ns ts p rows) };rw[←e]at f1 f2 no;exact⟨f1,fun z=>absurd z no,fun z=>absurd z no,fun z _=>f2 z⟩
 . have ez:((Tk.new ts).ask ns ts p rows).z={ Db.new ts with pl:=(Db.new ts).pl+(((Tk.new ts).said ns ts p rows).length:Int),cl:=(Tk.new ts).said ns ts p rows,aw:=("coin",none) }:=e0.trans (zA0 c);refine⟨fun z=>?_,fun _ z=>?_,fun _ _=>?_,fun _ z=>?_⟩
   . rw[ez]at z;exact absurd z gr
   . rw[ez]at z;exact absurd rfl z
   . rw[ez];exact⟨hn.cl,rfl⟩
   . rw[ez]at z;exact absurd rfl z
theorem vg (k:GmK ns ts p) (n6:ns.length<=6) (nd:ns.Nodup) (hn:Hon ns ts p rows) {c:List Int} (hc:cg c p):(mV ns ts p rows c).2.z.aw=(("believed":Str),none):=by
 obtain⟨o,st,_⟩:=kA (rows:=rows) k n6;exact iW k n6 nd hn 20 _ c o (Tru.new k hn) hc (by omega)
theorem kF(k:GmK ns ts p)(n6:ns.length<=6)(nd:ns.Nodup)(hn:Hon ns ts p rows):dq ns ts p rows (aS ns ts) 8 (Tk.new ts) []=(p ^ aS ns ts,none):=by
 have p2:=k.p2;have ep:(p.toNat:Int)=p:=by omega
 have e1:∀c∈dz p.toNat (aS ns ts),decide ((mV ns ts p rows c).2.z.aw.1="believed")=true:=fun c hc=>by
  obtain⟨_,co⟩:=ib _ _ hc;rw[ep]at co;rw[vg k n6 nd hn co];exact decide_eq_true rfl
 rw[kQ k n6,fg (b':=fun _=>true) e1];unfold gJ;have e2:(dz p.toNat (aS ns ts)).filter (fun _=>true)=dz p.toNat (aS ns ts):=List.filter_eq_self.mpr fun _ _=>rfl
 have e3:(dz p.toNat (aS ns ts)).filter (fun c=>!((fun _=>true) c))=[]:=List.filter_eq_nil_iff.mpr fun _ _=>by simp
 rw[e2,e3,kL,Int.natCast_pow,ep];rfl
end
section
variable {C CM CA CG cA c0 c1 c2 c3 c4 c5 c6 c7 c8 c9:Addr}
theorem wj:Pr 4001:=kn (by decide +kernel)
theorem Ci:Pr 4003:=kn (by decide +kernel)
def pG:Sp:=fun vs H Q _=>∃n:Int,vs=[.int n]/\2<n/\n<=4003/\∀b:Bool,(b=true↔Pr n)->Q (.bl b) H
theorem lQ:FnScope ["_law_number","_law_k"] ["_law_number"] (af dE):=⟨rfl,rfl,rfl,by decide +kernel,rfl,by decide +kernel,by decide +kernel⟩
theorem oY {f:Addr} {fd:FuncData} (F:Fun K "_law_is_prime" "_law_is_prime" dE f fd) (B:Bl mg):FnOk P w K mg base CX0 1 f fd ["_law_number"] pG:=by
 refine F.ok lQ (fun vs H Q E h=>?_) (fun cdv A outer s H vs Q E hr h=>?_)
 . obtain⟨n,rfl,_⟩:=h;rfl
 obtain ⟨n,rfl,n2,n4,q⟩:=h;refine⟨_,(ad (dR PassesOwn.never rfl (xG rfl B.range (aa ai (aa ai ae))) (cB (i:=1) lQ.nd rfl (Or.inl rfl)) (ag (aR (PW.pt (qD (ax iS (pv 1) (pv 0) (aF _)) (qC (ax bb (ao bh (pv 0) (pv 1)) ai (aF _))))) (ag (aD lS)) aG)))
  (ag (aD (fE oa (pv 0) ai (aF _))))),?_⟩
 refine⟨2,65,rfl,⟨by decide,by decide,by decide,by decide⟩,eB (n:=63) (fun i σ H'=>∃x,σ=[some (.int n),x]/\H'=H/\∀k:Int,2<=k->k<2+(i:Int)->k<n->n % k≠0) ⟨_,rfl,rfl,fun k a b=>by omega⟩ ?_ ?_⟩
 . rintro i σ H' hi ⟨x,rfl,rfl,u⟩;have hi':i<63:=hi;refine⟨_,rfl,_,rfl,_,_,rfl,rfl,_,rfl,?_⟩;refine sV (fun c1=>?_) (fun c1=>?_)
   . have c1:2+(i:Int)<n:=of_decide_eq_true c1;refine⟨_,rfl,_,rfl,_,_,rfl,rfl,(show(0:Int)<2+(i:Int) by omega),rfl,_,rfl,?_⟩;refine sV (fun c3=>?_) (fun c3=>?_)
     . have c4:=V.int.inj (of_decide_eq_true c3);exact q false ⟨fun z=>(nomatch z),fun z=>(zX z (by omega) (by omega) c1 (Int.dvd_of_emod_eq_zero c4)).elim⟩
     . have c4:=of_decide_eq_false (Bool.eq_false_iff.mpr c3);refine⟨_,rfl,rfl,fun k a b c=>?_⟩
       by_cases e:k=2+(i:Int)
       . subst e;exact fun z=>c4 (congrArg V.int z)
       . exact u k a (by omega) c
   . have c1:¬ 2+(i:Int)<n:=of_decide_eq_false (Bool.eq_false_iff.mpr c1);exact⟨_,rfl,rfl,fun k a b c=>u k a (by omega) c⟩
 . rintro σ H' ⟨x,rfl,rfl,u⟩;refine⟨_,rfl,_,_,rfl,rfl,?_⟩;show Q (.bl (decide (2<n))) H';rw[show decide (2<n)=true from decide_eq_true n2];refine q true ⟨fun _=>⟨by omega,fun j j2 j3 js=>?_⟩,fun _=>rfl⟩;have j64:j<65:=by
    by_cases c:j<65
    . exact c
    . have:=pC (a:=65) (b:=j) (by omega) (by omega)
      omega
   have jn:j<n:=by
    have:2*j<=j*j:=Int.mul_le_mul_of_nonneg_right j2 (by omega)
    omega
   exact u j j2 (by show j<2+63;omega) jn
theorem nQ{l f:Int}(h0:0<=l)(h:l<=f):∀k:Nat,l ^ k<=f ^ k
 | 0=>by rw[Int.pow_zero,Int.pow_zero];exact Int.le_refl _
 | k+1=>by
   rw[Int.pow_succ,Int.pow_succ];exact Int.mul_le_mul (nQ h0 h k) h h0 (Int.pow_nonneg (by omega))
def rO:Sp:=fun vs H Q _=>∃f:Addr,vs=[.ref f]/\FeedAt H f/\∀(t:Addr)(c p:Int)(H':Hp),H' t=some (.tup [.int c,.int p])->1<=c->c<=7->Pr p->3<p->p<=4003->4000<p ^ c.toNat->FeedAt H' f->SameBut f H H'->Q (.ref t) H'
theorem gK:FnScope ["_law_feed_here","_law_coins","_law_least","_law_field"] ["_law_feed_here"] (af gR):=⟨rfl,rfl,rfl,by decide +kernel,rfl,by decide +kernel,by decide +kernel⟩
theorem BU{c:Int}(h2:2<=c)(h7:c<=7):∃l:Int,atI ([65,17,9,6,5,4].map V.int) (c-2)=some (.int l)/\4<=l/\l<=65/\4000<l ^ c.toNat:=by
 rcases(show c=2∨c=3∨c=4∨c=5∨c=6∨c=7 by omega)with rfl | rfl | rfl | rfl | rfl | rfl
 . exact⟨65,rfl,by decide,by decide,by decide⟩
 . exact⟨17,rfl,by decide,by decide,by decide⟩
 . exact⟨9,rfl,by decide,by decide,by decide⟩
 . exact⟨6,rfl,by decide,by decide,by decide⟩
 . exact⟨5,rfl,by decide,by decide,by decide⟩
 . exact⟨4,rfl,by decide,by decide,by decide⟩
theorem xJ {f:Addr} {fd:FuncData} (F:Fun K "_law_size" "_law_size" gR f fd) (B:Bl mg) (ba:Cal P w K mg base 1 "_law_take" ["_law_feed_here","_law_many"] qc) (ii:Cal P w K mg base 1 "_law_is_prime" ["_law_number"] pG):FnOk P w K mg base CX0 2 f fd ["_law_feed_here"] rO:=by
 refine F.ok gK (fun vs H Q E h=>?_) (fun cdv A outer s H vs Q E hr h=>?_)
 . obtain⟨f,rfl,_⟩:=h;rfl
 obtain ⟨f,rfl,hF,q⟩:=h;refine⟨_,(ad (ay (i:=1) gK.nd rfl (Or.inl rfl) (ao bn ai (aJ ba hr (by decide) rfl (aa (pv 0) (aa ai ae)))))
  (ad (aR (ax bb (pv 1) ai (aF _)) (ag (aD (bE (aa ai (aa (aY ix_list (da (aa ai (aa ai ae))) (aJ ba hr (by decide) rfl (aa (pv 0) (aa ai ae))) (fun _ _=>rfl)) ae))))) aG)
  (ad (ay (i:=2) gK.nd rfl (Or.inl rfl) (aY ix_list (da (aa ai (aa ai (aa ai (aa ai (aa ai (aa ai ae))))))) (ao cj (pv 1) ai) (fun _ _=>rfl)))
  (ad (ay (i:=3) gK.nd rfl (Or.inl rfl) (ao bn (pv 2) (aY ix_list (da (aa (aJ ba hr (by decide) rfl (aa (pv 0) (aa ai ae))) (aa (aJ ba hr (by decide) rfl (aa (pv 0) (aa (ao cj ai (pv 2)) ae))) ae))) (cI yC rfl B.int lI (aa (fE bb (aJ ba hr (by decide) rfl (aa (pv 0) (aa ai ae))) ai (aF _)) ae)) (fun _ _=>rfl))))
  (ad (iP PassesOwn.never (jT (io (aJ ii hr (by decide) rfl (aa (pv 3) ae)))) (ag (ay (i:=3) gK.nd rfl (Or.inl rfl) (ao bn (pv 3) ai))))
  (ag (aD (bE (aa (pv 1) (aa (pv 3) ae)))))))))),?_⟩
 refine⟨_,rfl,f,7,rfl,hF,by decide,by decide,fun d H1 d0 d7 F1 S1=>?_⟩;refine⟨_,_,rfl,rfl,?_⟩;refine⟨_,rfl,rfl,_,rfl,?_⟩;have d7':d<7:=d7
 by_cases c1:d=0
 . refine bz (by rw[c1];rfl) ?_;refine⟨(by show 2<=sizeLine;decide),fun l hl=>?_⟩;have lf:=F1.ne hl;have G2:=zD0 hl (.lst [.int 4001,.int 4003]);refine⟨_,rfl,f,2,rfl,F1.same G2,by decide,by decide,fun j H3 j0 j2 F3 S3=>?_⟩;have hl3:=S3 l _ lf am;have j2':j<2:=j2;obtain⟨p,hp,pp,p3,p4⟩:∃p:Int,atI [V.int 4001,V.int 4003] j=some (.int p)/\Pr p/\4000<p/\p<=4003:=by
    rcases(show j=0∨j=1 by omega)with rfl | rfl
    . exact⟨4001,rfl,wj,by decide,by decide⟩
    . exact⟨4003,rfl,Ci,by decide,by decide⟩
   refine⟨l,_,_,_,rfl,rfl,zI0 hl3,hp,(by show 2<=sizeLine;decide),fun t ht=>?_⟩;have I:=zD0 ht (.tup [.int 1,.int p]);refine q t 1 p _ am (by decide) (by decide) pp (by omega) p4 (by rw[show(1:Int).toNat=1 from rfl,Int.pow_succ,Int.pow_zero];omega) (F3.same I) (S1.trans ((zL0 G2).trans (S3.trans (zL0 I))))
 refine aI (fun z=>c1 (by have:=V.int.inj z;omega)) ?_;have c2:2<=1+d:=by omega
 have c7:1+d<=7:=by omega
 obtain ⟨ls,hls,l4,l65,lp⟩:=BU c2 c7;refine⟨(by show 6<=sizeLine;decide),fun l hl=>?_⟩;have G2:=zD0 hl (.lst [.int 65,.int 17,.int 9,.int 6,.int 5,.int 4]);refine⟨_,rfl,_,_,rfl,rfl,l,_,_,_,rfl,rfl,zI0 am,hls,?_⟩;have F2:=F1.same G2;generalize upd H1 l (.lst [.int 65,.int 17,.int 9,.int 6,.int 5,.int 4])=H2 at G2 F2;refine⟨_,rfl,_,rfl,f,3,rfl,F2,by decide,by decide,fun d1 H3 d10 d13 F3 S3=>?_⟩;refine⟨_,rfl,_,rfl,_,_,rfl,rfl,f,4000-ls,rfl,F3,by omega,by omega,fun d2 H4 d20 d24 F4 S4=>?_⟩;refine⟨(by show 2<=sizeLine;decide),fun l5 hl5=>?_⟩;have l5f:=F4.ne hl5;have G5:=zD0 hl5 (.lst [.int d1,.int d2]);have g5:upd H4 l5 (.lst [.int d1,.int d2]) l5=some (.lst [.int d1,.int d2]):=am;have F5:=F4.same G5;generalize upd H4 l5 (.lst [.int d1,.int d2])=H5 at G5 g5 F5;refine⟨_,rfl,f,4,rfl,F5,by decide,by decide,fun d4 H6 d40 d44 F6 S6=>?_⟩;have d13':d1<3:=d13;have d24':d2<4000-ls:=d24;have S16:SameBut f H H6:=S1.trans ((zL0 G2).trans (S3.trans (S4.trans ((zL0 G5).trans S6))));have h56:=S6 _ _ l5f g5;obtain⟨e,he,e0,e4⟩:∃e:Int,atI [V.int d1,V.int d2] (if decide (V.int d4=V.int 0)=true then 1 else 0)=some (.int e)/\0<=e/\ls+e<=4001:=by
  cases decide (V.int d4=V.int 0)
  . exact⟨d1,rfl,d10,by omega⟩
  . exact⟨d2,rfl,d20,by omega⟩
 refine⟨rfl,.inr ⟨_,rfl,l5,_,_,_,rfl,rfl,zI0 h56,he,_,_,rfl,rfl,?_⟩⟩;refine⟨fun mm σ H'=>∃n:Int,σ=[some (.ref f),some (.int (1+d)),some (.int ls),some (.int n)]/\H'=H6/\ls<=n/\n<=4001/\mm=(4001-n).toNat,⟨_,ls+e,rfl,rfl,by omega,e4,rfl⟩,?_⟩;rintro mm σ H' ⟨n,rfl,rfl,n0,n1,rfl⟩;refine⟨_,rfl,n,rfl,by omega,by omega,fun b hb=>⟨b,rfl,?_⟩⟩;cases b with
 | true=>
   refine gx ?_;refine⟨_,rfl,_,rfl,(by show 2<=sizeLine;decide),fun t ht=>?_⟩;have I:=zD0 ht (.tup [.int (1+d),.int n])
   have:=nQ (by omega) n0 (1+d).toNat
   exact q t (1+d) n _ am (by omega) c7 (hb.mp rfl) (by omega) (by omega) (by omega) (F6.same I) (S16.trans (zL0 I))
 | false=>
   refine jK ?_;refine⟨_,fun _ _ h=>h,?_⟩;have ne:n≠4001:=fun z=>by
    subst z;exact nomatch hb.mpr wj
   refine⟨_,rfl,_,_,rfl,rfl,?_⟩;exact⟨_,by omega,n+1,rfl,rfl,by omega,by omega,rfl⟩
def pF(CG:Addr):Sp:=fun vs H Q _=>∃(g h:Addr)(rv:List V)(rows:List Hr)(ns:List Str)(ts:List Tr)(p:Int),vs=[.ref g,.ref h,.int (p ^ aS ns ts)]/\Gm CG H g ns ts p/\GmK ns ts p/\ns.length<=6/\H h=some (.tup rv)/\RowsAt H rv rows/\(∀r∈rows,r.good)/\p ^ aS ns ts<10000000000000000000000000000000000000000/\4000<p ^ aS ns ts/\∀H',Same H H'->Q (.bl true) H'
theorem fQ:FnScope ["_law_game","_law_helper","_law_rows","_law_caught","e"] ["_law_game","_law_helper","_law_rows"] (af dW):=⟨rfl,rfl,rfl,by decide +kernel,rfl,by decide +kernel,by decide +kernel⟩
theorem qN {f:Addr} {fd:FuncData} (F:Fun K "_law_refused" "_law_refused" dW f fd) (B:Bl mg) (hV:mg "ValueError"=none) (T:Exs K mg cA c0 c1 c2 c3 c4 c5 c6 c7 c8 c9) (n9:NoAttr K c9 "rows") (eI:CalR P w K mg base 36 "weighed" ["game","helper"] (kR C CM CG c9)):FnOk P w K mg base CX0 37 f fd ["_law_game","_law_helper","_law_rows"] (pF CG):=by
 refine F.ok fQ (fun vs H Q E h=>?_) (fun cdv A outer s H vs Q E hr h=>?_)
 . obtain⟨g,h,rv,rows,ns,ts,p,rfl,_⟩:=h;rfl
 obtain ⟨g,h,rv,rows,ns,ts,p,rfl,G,k,n6,hh,RW,rg,p40,p4,q⟩:=h;refine⟨_,(ad (ay (i:=3) fQ.nd rfl (Or.inl rfl) iR)
  (ad (Ec (i:=4) (CA:=cA) fQ.nd rfl rfl rfl T.gA T.iA (zU eI hr (by decide) rfl (fun W=>aa (pv 0) (aa (pv 1) ae))) (fun e=>ag (ay (i:=3) fQ.nd rfl (Or.inl rfl) (pv 4))))
  (ad (aR (PW.pt (we (jT (io (aO lH rfl B.isinstance PyProof.Rows.boot_isinstance (aa (pv 3) (aa (dj (v:=.ref c9) rfl T.g9 rfl) ae))))) (qB (jT (io (aO lH rfl B.isinstance PyProof.Rows.boot_isinstance (aa (pv 3) (aa (jA (v:=V.ty "ValueError") rfl hV tN rfl) ae)))))))) (ag (aD lS)) aG)
  (ad (aR (io (aO lH rfl B.isinstance PyProof.Rows.boot_isinstance (aa (pv 3) (aa (bE (aa (dj (v:=.ref c7) rfl T.g7 rfl) (aa (dj (v:=.ref c3) rfl T.g3 rfl) (aa (dj (v:=.ref c2) rfl T.g2 rfl) (aa (dj (v:=.ref c8) rfl T.g8 rfl) (aa (dj (v:=.ref c5) rfl T.g5 rfl) (aa (dj (v:=.ref c0) rfl T.g0 rfl) (aa (dj (v:=.ref c6) rfl T.g6 rfl) (aa (dj (v:=.ref c4) rfl T.g4 rfl) (aa (dj (v:=.ref c1) rfl T.g1 rfl) ae)))))))))) ae)))) (ag (aD lS)) aG)
  (ag (aD (lu (aO gG rfl B.isinstance PyProof.Rows.boot_isinstance (aa (qJ (pv 3) rfl) (aa (jA (v:=V.ty "int") rfl B.int lI rfl) ae))) (lu (uC (aO gG rfl B.isinstance PyProof.Rows.boot_isinstance (aa (qJ (pv 3) rfl) (aa (jA (v:=V.ty "bool") rfl B.bool oQ rfl) ae)))) (nW (fE bb (qJ (pv 3) rfl) (pv 2) (aF _))))))))))),?_⟩
 refine ⟨_,rfl,_,rfl,g,h,rv,rows,ns,ts,p,rfl,G,k,n6,hh,RW,rg,p40,fun a H2 c=>absurd c (by omega),fun e dx H2 _ S2 he hd=>?_⟩;refine⟨e,c9,dx,rfl,rfl,he,T.x9,_,rfl,?_⟩;refine⟨_,rfl,e,c9,cA,dx,_,_,rfl,.inr he,T.x9,.inl ⟨_,rfl,AU⟩,_,rfl,?_⟩;refine gx ?_;refine⟨_,rfl,e,c9,cA,dx,_,_,rfl,.inr he,T.x9,.inr (.inl ⟨_,rfl,CI T.x9⟩),_,rfl,?_⟩;refine gx ?_;refine⟨_,rfl,(by show 9<=sizeLine;decide),fun tp htp=>?_⟩;have S3:=zD0 htp (.tup [.ref c7,.ref c3,.ref c2,.ref c8,.ref c5,.ref c0,.ref c6,.ref c4,.ref c1]);have nds:=T.nd;have ka:W.kitAny K (.ref c9) ([c7,c3,c2,c8,c5,c0,c6,c4,c1].map Value.ref)=some false:=ye fun D hD=>by
  simp only[List.nodup_cons,List.mem_cons,List.not_mem_nil,or_false,not_or]at nds;simp only[List.mem_cons,List.not_mem_nil,or_false]at hD;rcases hD with rfl | rfl | rfl | rfl | rfl | rfl | rfl | rfl | rfl
  . rw[iu T.x9 T.x7 T.n7,beq_eq_false_iff_ne.mpr (by grind)]
  . rw[iu T.x9 T.x3 T.n3,beq_eq_false_iff_ne.mpr (by grind)]
  . rw[iu T.x9 T.x2 T.n2,beq_eq_false_iff_ne.mpr (by grind)]
  . rw[iu T.x9 T.x8 T.n8,beq_eq_false_iff_ne.mpr (by grind)]
  . rw[iu T.x9 T.x5 T.n5,beq_eq_false_iff_ne.mpr (by grind)]
  . rw[iu T.x9 T.x0 T.n0,beq_eq_false_iff_ne.mpr (by grind)]
  . rw[iu T.x9 T.x6 T.n6,beq_eq_false_iff_ne.mpr (by grind)]
  . rw[iu T.x9 T.x4 T.n4,beq_eq_false_iff_ne.mpr (by grind)]
  . rw[iu T.x9 T.x1 T.n1,beq_eq_false_iff_ne.mpr (by grind)]
 refine⟨e,c9,cA,dx,_,_,rfl,.inr (S3 _ _ he),T.x9,.inr (.inr ⟨tp,[c7,c3,c2,c8,c5,c0,c6,c4,c1],rfl,am,ka⟩),_,rfl,?_⟩;refine gx ?_;refine⟨_,rfl,e,c9,cA,dx,_,_,rfl,.inr (S3 _ _ he),S3 _ _ hd,lk1 _ _,T.x9,n9,_,_,"int",true,rfl,TyOf.int _,sS _ _,_,rfl,?_⟩;refine jK ?_;refine⟨_,rfl,e,c9,cA,dx,_,_,rfl,.inr (S3 _ _ he),S3 _ _ hd,lk1 _ _,T.x9,n9,_,_,"bool",false,rfl,TyOf.int _,kD _,_,rfl,_,rfl,?_⟩;refine jK ?_;refine⟨_,rfl,e,c9,cA,dx,_,_,rfl,.inr (S3 _ _ he),S3 _ _ hd,lk1 _ _,T.x9,n9,_,rfl,rfl,?_⟩
 have:=q _ (S2.trans S3)
 rw[show decide (V.int (p ^ aS ns ts)=V.int (p ^ aS ns ts))=true from decide_eq_true rfl];exact this
end
theorem AR{v u:Nat->Int}{x:Int}(h:∀i,v i=0)(n:Nat):lag v u n x=0:=by
 have:∀m,sm (fun i=>v i*px x i n*u i) m=0:=fun m=>by
  induction m with
  | zero=>rfl
  | succ m ih=>
    show sm (fun i=>v i*px x i n*u i) m+v m*px x m n*u m=0;rw[ih,h m,Int.zero_mul,Int.zero_mul];rfl
 exact this n
theorem DI{p:Int}{xs:List Int}(h:∀x∈xs,x=0)(r:Int):val p xs r=0:=by
 unfold val;rw[AR]
 . exact Int.zero_emod p
 . intro i;show xs.getD i 0=0;rw[qI0];cases e:xs[i]? with
   | none=>rfl
   | some a=>exact h a (qJ0 e)
theorem ox{s p:Int}:∀xs:List Int,(∀x∈xs,x=0)->hor s p xs=0
 | [],_=>rfl
 | a::r,h=>by
   show(hor s p r*s+a) % p=0;rw[ox r (fun x hx=>h x (qF0 _ hx)),h a (qG0 ..),Int.zero_mul];exact Int.zero_emod p
def tD (ns:List Str) (ts:List Tr) (p s:Int) (to:List Int):Str×Option Int:=if 0=hor s p (ts.map fun t=>t.worth ns to p)then("believed",none)else("caught",some ((to.length:Int)+1))
section
variable {ns:List Str} {ts:List Tr} {p:Int} {t:Tk}
theorem Dm:t.said ns ts p []=List.replicate (awN t.z).toNat 0:=by
 have e:t.run ns ts p []=⟨0,t.bx,[]⟩:=by
  unfold Tk.run;exact zA0 fun c=>absurd c.1 (by show ¬ (0:Int)<0;omega)
 unfold Tk.said;rw[e];show []++List.replicate (awN t.z-0).toNat 0=_;rw[List.nil_append,Int.sub_zero]
structure Idl(t:Tk):Prop where
 ed:t.z.ed=0
 he:∀x∈t.z.he,x=0
 cl:∀x∈t.z.cl,x=0
theorem oz (z:Db) (e:z.ed=0):(goOn ns ts p z).ed=0/\(¬ (goOn ns ts p z).aw.1="hear" -> (goOn ns ts p z).aw=tD ns ts p z.s z.to/\ns.length<=z.to.length):=by
 unfold goOn
 by_cases c:z.to.length<ns.length
 . rw[zB0 c];exact⟨e,fun h=>absurd rfl h⟩
 . rw[zA0 c];refine⟨e,fun _=>⟨?_,by omega⟩⟩;unfold dh tD;rw[←e]
def jV (ns:List Str) (t:Tk):Nat:=if t.z.aw.1="coin"/\t.z.he=[]then ns.length+1 else ns.length-t.z.to.length
def sZ (ns:List Str) (ts:List Tr) (p:Int) (t:Tk) (cs:List Int):Str×Option Int:=if t.z.aw.1="coin"/\t.z.he=[]then tD ns ts p (cs.headD 0) cs.tail else tD ns ts p t.z.s (t.z.to++cs)
theorem rC{n:Nat}:∀x∈List.replicate n (0:Int),x=0:=fun _ hx=>List.eq_of_mem_replicate hx
theorem Idl.ask (k:GmK ns ts p) (n6:ns.length<=6) (h:TkOk ns ts p t) (d:Idl t) (hw:t.z.aw.1="hear"):Idl (t.ask ns ts p [])/\(t.ask ns ts p []).z.aw.1="coin"/\(t.ask ns ts p []).z.he≠[]/\(t.ask ns ts p []).z.s=t.z.s/\(t.ask ns ts p []).z.to=t.z.to:=by
 have x0:=h.gd.hear_ne k (h.hear (rows:=[]) k n6 hw);have e:(t.ask ns ts p []).z=de p (t.said ns ts p []) { t.z with pl:=t.z.pl+((t.said ns ts p []).length:Int) }:=zA0 h.cl;have sz:∀x∈t.said ns ts p [],x=0:=by rw[Dm];exact rC
 refine⟨⟨by rw[e];exact d.ed,by rw[e];exact sz,by rw[e];exact d.cl⟩,?_,by rw[e];exact x0,by rw[e];rfl,by rw[e];rfl⟩;rw[e];unfold de;rw[zB0];show(val p (t.said ns ts p []) 0+val p (t.said ns ts p []) 1) % p=t.z.ed;rw[DI sz,DI sz,d.ed];exact Int.zero_emod p
theorem pP (k:GmK ns ts p) (n6:ns.length<=6):∀(n:Nat) (t:Tk) (cs:List Int),TkOk ns ts p t->Idl t->(¬ t.z.aw.1="hear" -> ¬ t.z.aw.1="coin" -> t.z.aw=tD ns ts p t.z.s t.z.to/\ns.length<=t.z.to.length)->cg cs p->bt ns t.z<=n->cs.length=jV ns t->(cJ ns ts p [] cs n t).2.z.aw=sZ ns ts p t cs:=by
 have fin:∀(n:Nat) (t:Tk) (cs:List Int),(¬ t.z.aw.1="hear" -> ¬ t.z.aw.1="coin" -> t.z.aw=tD ns ts p t.z.s t.z.to/\ns.length<=t.z.to.length)->cs.length=jV ns t->¬ t.z.aw.1="hear" -> ¬ t.z.aw.1="coin" -> (cJ ns ts p [] cs n t).2.z.aw=sZ ns ts p t cs:=fun n t cs je cl h1 h2=>by
  obtain⟨ea,ln⟩:=je h1 h2;rw[df h1 h2];have e1:jV ns t=ns.length-t.z.to.length:=zA0 fun z=>h2 z.1
  have e0:cs=[]:=List.eq_nil_of_length_eq_zero (by omega);subst e0;unfold sZ;rw[zA0 fun z=>h2 z.1,List.append_nil];exact ea
 intro n
 induction n with
 | zero=>
   intro t cs h d je hc hs cl;exact fin 0 t cs je cl (fun z=>by have:=(dS h (.inl z)).1;omega) (fun z=>by have:=(dS h (.inr z)).1;omega)
 | succ n ih=>
   intro t cs h d je hc hs cl;have p2:=k.p2
   by_cases ch:t.z.aw.1="hear"
   . have nc:¬ t.z.aw.1="coin":=fun z=>gr (z.symm.trans ch)
     obtain⟨o,s,_,o4⟩:=h.ask (rows:=[]) k n6 ch;obtain⟨d2,ac,ah,es,eo⟩:=d.ask k n6 h ch;rw[gn ch];have e1:jV ns t=ns.length-t.z.to.length:=zA0 fun z=>nc z.1
     have e2:jV ns (t.ask ns ts p [])=ns.length-t.z.to.length:=(zA0 fun z=>ah z.2).trans (by rw[eo])
     have:=ih (t.ask ns ts p []) cs o d2 (fun _ z=>absurd ac z) hc (by omega) (by omega)
     refine this.trans ?_;unfold sZ;rw[zA0 fun z=>ah z.2,zA0 fun z=>nc z.1,es,eo]
   . by_cases cc:t.z.aw.1="coin"
     . rw [eP cc];obtain⟨r0,r1⟩:=lC hc (by omega);obtain⟨o,s,_,nc2,w1,w2⟩:=h.toss k cc r0 r1;have c0:cs≠[]:=fun z=>by
        have:1<=jV ns t:=by
         unfold jV
         by_cases c:t.z.he=[]
         . rw[zB0 ⟨cc,c⟩];omega
         . rw [zA0 fun z=>c z.2]
           have:=((h.gd.co cc).2 c).2
           omega
        rw[z,List.length_nil]at cl;omega
       obtain⟨r,cs',rfl⟩:=List.exists_cons_of_ne_nil c0;show(cJ ns ts p [] cs' n (t.toss ns ts p r)).2.z.aw=_
       by_cases c:t.z.he=[]
       . obtain ⟨es,eo⟩:=w1 c;have e:(t.toss ns ts p r).z=goOn ns ts p { t.z with pl:=t.z.pl+1,s:=r,ed:=hor r p t.z.cl }:=zB0 c;obtain⟨f1,f2⟩:=oz (ns:=ns) (ts:=ts) (p:=p) { t.z with pl:=t.z.pl+1,s:=r,ed:=hor r p t.z.cl } (ox _ d.cl);obtain⟨g1,g2,g3,g4⟩:=jX (ns:=ns) (ts:=ts) (p:=p) { t.z with pl:=t.z.pl+1,s:=r,ed:=hor r p t.z.cl };rw[←e]at f1 f2 g1 g2 g3 g4;have e1:jV ns t=ns.length+1:=zB0 ⟨cc,c⟩;have e2:jV ns (t.toss ns ts p r)=ns.length-0:=(zA0 fun z=>nc2 z.1).trans (by rw[show(t.toss ns ts p r).z.to=[]from eo];rfl);have cl':cs'.length+1=jV ns t:=cl
         have:=ih (t.toss ns ts p r) cs' o ⟨f1,by rw[g3];exact d.he,by rw[g4];exact d.cl⟩ (fun z _=>by rw[g1,g2];exact f2 z) (mt hc) (by have:bt ns (t.toss ns ts p r).z<bt ns t.z:=s;omega) (by omega)
         refine this.trans ?_;unfold sZ;rw[zA0 fun z=>nc2 z.1,zB0 ⟨cc,c⟩,show(t.toss ns ts p r).z.s=r from es,show(t.toss ns ts p r).z.to=[]from eo];rfl
       . obtain ⟨es,eo⟩:=w2 c;have tl:=((h.gd.co cc).2 c).2;have e:(t.toss ns ts p r).z=goOn ns ts p { t.z with pl:=t.z.pl+1,ed:=val p t.z.he r,to:=t.z.to++[r] }:=zA0 c;obtain⟨f1,f2⟩:=oz (ns:=ns) (ts:=ts) (p:=p) { t.z with pl:=t.z.pl+1,ed:=val p t.z.he r,to:=t.z.to++[r] } (DI d.he r);obtain⟨g1,g2,g3,g4⟩:=jX (ns:=ns) (ts:=ts) (p:=p) { t.z with pl:=t.z.pl+1,ed:=val p t.z.he r,to:=t.z.to++[r] };rw[←e]at f1 f2 g1 g2 g3 g4;have e1:jV ns t=ns.length-t.z.to.length:=zA0 fun z=>c z.2
         have eo':(t.toss ns ts p r).z.to=t.z.to++[r]:=eo;have e2:jV ns (t.toss ns ts p r)=ns.length-(t.z.to++[r]).length:=(zA0 fun z=>nc2 z.1).trans (by rw[eo']);rw[zN0,qH0]at e2;have cl':cs'.length+1=jV ns t:=cl
         have:=ih (t.toss ns ts p r) cs' o ⟨f1,by rw[g3];exact d.he,by rw[g4];exact d.cl⟩ (fun z _=>by rw[g1,g2];exact f2 z) (mt hc) (by have:bt ns (t.toss ns ts p r).z<bt ns t.z:=s;omega) (by omega)
         refine this.trans ?_;unfold sZ;rw[zA0 fun z=>nc2 z.1,zA0 fun z=>c z.2,show(t.toss ns ts p r).z.s=t.z.s from es,eo',List.append_assoc];rfl
     . exact fin (n+1) t cs je cl ch cc
def oo(ns:List Str)(ts:List Tr)(p:Int)(c:List Int):Int:=if 1<ts.length then hor (c.headD 0) p (ts.map fun t=>t.worth ns c.tail p)else hor 0 p (ts.map fun t=>t.worth ns c p)
theorem AY (k:GmK ns ts p) (n6:ns.length<=6) {c:List Int} (hc:cg c p) (cl:c.length=aS ns ts):(mV ns ts p [] c).2.z.aw=if 0=oo ns ts p c then(("believed":Str),none)else("caught",some ((ns.length:Int)+1)):=by
 obtain⟨o,st,_,a1,a2⟩:=kA (rows:=[]) k n6;have t1:=k.t1;have sz:∀x∈(Tk.new ts).said ns ts p [],x=0:=by rw[Dm];exact rC
 have e0:cD ns ts p ((Tk.new ts).said ns ts p []) (Db.new ts)=iy ns ts p ((Tk.new ts).said ns ts p []) { Db.new ts with pl:=(Db.new ts).pl+(((Tk.new ts).said ns ts p []).length:Int) }:=zB0 rfl
 by_cases c1:1<ts.length
 . obtain ⟨aw,ah,ato⟩:=a1 c1;have ez:((Tk.new ts).ask ns ts p []).z={ Db.new ts with pl:=(Db.new ts).pl+(((Tk.new ts).said ns ts p []).length:Int),cl:=(Tk.new ts).said ns ts p [],aw:=("coin",none) }:=e0.trans (zA0 (by omega));have ac:((Tk.new ts).ask ns ts p []).z.aw.1="coin":=by rw[aw]
   have el:jV ns ((Tk.new ts).ask ns ts p [])=ns.length+1:=zB0 ⟨ac,ah⟩;have en:aS ns ts=ns.length+1:=zA0 (by omega)
   have:=pP k n6 20 _ c o ⟨by rw[ez];rfl,(by rw[ah];intro x hx;cases hx),by rw[ez];exact sz⟩ (fun _ z=>absurd ac z) hc (by omega) (by omega)
   refine this.trans ?_;unfold sZ;rw[zB0 ⟨ac,ah⟩];unfold tD oo;rw[zB0 c1];have ct:c.tail.length=ns.length:=by rw[List.length_tail];omega
   rw[ct]
 . obtain ⟨nc,es,eo⟩:=a2 c1;have e:((Tk.new ts).ask ns ts p []).z=goOn ns ts p { Db.new ts with pl:=(Db.new ts).pl+(((Tk.new ts).said ns ts p []).length:Int),cl:=(Tk.new ts).said ns ts p [],s:=0,ed:=hor 0 p ((Tk.new ts).said ns ts p []) }:=e0.trans (zB0 (by omega));obtain⟨f1,f2⟩:=oz (ns:=ns) (ts:=ts) (p:=p) { Db.new ts with pl:=(Db.new ts).pl+(((Tk.new ts).said ns ts p []).length:Int),cl:=(Tk.new ts).said ns ts p [],s:=0,ed:=hor 0 p ((Tk.new ts).said ns ts p []) } (ox _ sz);obtain⟨g1,g2,g3,g4⟩:=jX (ns:=ns) (ts:=ts) (p:=p) { Db.new ts with pl:=(Db.new ts).pl+(((Tk.new ts).said ns ts p []).length:Int),cl:=(Tk.new ts).said ns ts p [],s:=0,ed:=hor 0 p ((Tk.new ts).said ns ts p []) };rw[←e]at f1 f2 g1 g2 g3 g4;have el:jV ns ((Tk.new ts).ask ns ts p [])=ns.length-0:=(zA0 fun z=>nc z.1).trans (by rw[eo];rfl);have en:aS ns ts=ns.length:=zB0 (by omega)
   have:=pP k n6 20 _ c o ⟨f1,(by rw[g3];intro x hx;cases hx),by rw[g4];exact sz⟩ (fun z _=>by rw[g1,g2];exact f2 z) hc (by omega) (by omega)
   refine this.trans ?_;unfold sZ;rw[zA0 fun z=>nc z.1,es,eo,List.nil_append];unfold tD oo;rw[zA0 c1];have ct:c.length=ns.length:=by omega
   rw[ct]
end
section
variable {ns:List Str} {ts:List Tr} {p:Int} {t:Tk}
def cR(z:Ak)(n:Nat):List Int:=(List.range n).map fun k:Nat=>di z ((k:Int) % z.p)
theorem gN(z:Ak)(n:Nat):(cR z n).length=n:=by unfold cR;rw[zG0,qO0]
theorem uf(z:Ak)(n:Nat):cR z (n+1)=cR z n++[di z ((n:Int) % z.p)]:=by
 unfold cR;rw[List.range_succ,zM0];rfl
theorem nX(z:Ak){n:Nat}(h:z.mn=(n:Int)):nY z.mn (cR z n)=cR z n:=by
 unfold nY;rw[gN,h,Int.sub_self];exact List.append_nil _
theorem wY (k:GmK ns ts p) (n6:ns.length<=6) (nd:ns.Nodup) (h:TkOk ns ts p t) (hw:t.z.aw.1="hear"):cR (t.ak ns ts p) (awN t.z).toNat=fX ns ts t.z.s p t.z.to (awN t.z).toNat:=by
 obtain ⟨ok,a0,a5,tl,aw,ea⟩:=h.ak k n6 hw;have nr:=h.nr;have hx:ns.getD t.z.to.length ""∈ns:=by
  rw[qI0,zP0 tl];exact qM0 tl
 have dp:=(k.deg _ hx).2;unfold cR fX;refine List.map_congr_left fun j hj=>?_
 have hj:=List.mem_range.mp hj;have e:(j:Int) % (t.ak ns ts p).p=(j:Int):=qP0 (by omega) (by show(j:Int)<p;omega);rw[e];exact yR ok nd (j:Int) (by show 0<t.nr;omega)
theorem wZ(k:GmK ns ts p):cR ((Tk.new ts).ak ns ts p) ts.length=ts.map fun u=>(cnt u ns:Int) % p:=by
 have tp:=k.tp;refine List.ext_getElem? fun j=>?_
 unfold cR;rw[qA0,qA0]
 by_cases c:j<ts.length
 . rw[List.getElem?_range c,zP0 c];show some (di ((Tk.new ts).ak ns ts p) ((j:Int) % ((Tk.new ts).ak ns ts p).p))=_;have e:(j:Int) % ((Tk.new ts).ak ns ts p).p=(j:Int):=qP0 (by omega) (by show(j:Int)<p;omega);rw[e,yS (z:=(Tk.new ts).ak ns ts p) rfl j (zP0 c)];rfl
 . rw[List.getElem?_eq_none (by rw[qO0];omega),List.getElem?_eq_none (by omega)];rfl
theorem Hon.of{rows:List Hr}(k:GmK ns ts p)(n6:ns.length<=6)(nd:ns.Nodup)(h:∀(z:Ak) (bx:Str->Int) (n:Nat),z.p=p->z.mn=(n:Int)->1<=n->(n=ts.length∨∃x∈ns,(n:Int)=bd ts x+1)->(jI z rows 200 ⟨0,bx,[]⟩).sd=cR z n):Hon ns ts p rows:=by
 refine⟨?_,fun t ht hw=>?_⟩
 . have e:=h ((Tk.new ts).ak ns ts p) (Tk.new ts).bx ts.length rfl rfl k.t1 (.inl rfl);unfold Tk.said Tk.run;rw[e];exact(nX ((Tk.new ts).ak ns ts p) rfl).trans (wZ k)
 . obtain ⟨ok,a0,a5,tl,aw,ea⟩:=ht.ak k n6 hw;have hx:ns.getD t.z.to.length ""∈ns:=by
    rw[qI0,zP0 tl];exact qM0 tl
   have d0:=(mF k (ns.getD t.z.to.length "")).1;have en:awN t.z=((awN t.z).toNat:Int):=by omega
   have e:=h (t.ak ns ts p) t.bx (awN t.z).toNat rfl en (by omega) (.inr ⟨_,hx,by omega⟩);unfold Tk.said Tk.run;rw[e];exact(nX (t.ak ns ts p) en).trans (wY k n6 nd ht hw)
theorem AA:¬ (("true":Str)="coin"):=by decide +kernel
def hA:List Hr:=[.say (.ask "true" (.num 0)),.say (.ask "true" (.num 1))]
def hB (x:Str):List Hr:=[.set x (.num 0),.say (.ask "true" (.box x)),.set x (.op "+" (.box x) (.num 1)),.go 1]
def hC(c:Int):List Hr:=[.say (.num c)]
theorem jS{z:Ak}{rows:List Hr}{n:Nat}{s:MS}(h1:s.pl<(rows.length:Int))(h2:(s.sd.length:Int)<z.mn):jI z rows (n+1) s=jI z rows n (dI z rows s):=zB0 ⟨h1,h2⟩
theorem mw{z:Ak}{rows:List Hr}{s:MS}(h:¬ (s.pl<(rows.length:Int)/\(s.sd.length:Int)<z.mn)):∀n,jI z rows n s=s
 | 0=>rfl
 | n+1=>zA0 h
theorem runA{z:Ak}{bx:Str->Int}(h:z.mn=2):(jI z hA 200 ⟨0,bx,[]⟩).sd=cR z 2:=by
 have e1:dI z hA ⟨0,bx,[]⟩=⟨1,bx,[di z (0 % z.p)]⟩:=by
  show(⟨0+1,bx,[]++[if("true":Str)="coin" then ia z (0 % z.p)else di z (0 % z.p)]⟩:MS)=_;rw[zA0 AA];rfl
 have e2:dI z hA ⟨1,bx,[di z (0 % z.p)]⟩=⟨2,bx,[di z (0 % z.p),di z (1 % z.p)]⟩:=by
  show(⟨1+1,bx,[di z (0 % z.p)]++[if("true":Str)="coin" then ia z (1 % z.p)else di z (1 % z.p)]⟩:MS)=_;rw[zA0 AA];rfl
 rw[jS (by show(0:Int)<2;decide) (by rw[h];show(0:Int)<2;decide),e1,jS (by show(1:Int)<2;decide) (by rw[h];show(1:Int)<2;decide),e2,mw (fun c=>absurd c.1 (by show ¬ (2:Int)<2;decide))];rfl
theorem hon_A(k:GmK ns ts p)(n6:ns.length<=6)(nd:ns.Nodup)(t2:ts.length=2)(d1:∀x∈ns,bd ts x=1):Hon ns ts p hA:=Hon.of k n6 nd fun z bx n _ hn _ h=>by
 have e:n=2:=by
  rcases h with h | ⟨x,hx,h⟩
  . omega
  . have:=d1 x hx
    omega
 subst e;exact runA hn
theorem runB{z:Ak}{x:Str}(p0:0<z.p):∀(m j fuel:Nat)(bx:Str->Int),z.mn=((j+m:Nat):Int)->3*m<=fuel->bx x=(j:Int) % z.p->(jI z (hB x) fuel ⟨1,bx,cR z j⟩).sd=cR z (j+m)
 | 0,j,fuel,bx,hm,hf,hb=>by
   rw[mw (fun c=>absurd c.2 (by show ¬ ((cR z j).length:Int)<z.mn;rw[gN,hm];omega))];rfl
 | m+1,j,fuel,bx,hm,hf,hb=>by
   obtain⟨fu,rfl⟩:∃fu,fuel=fu+3:=⟨fuel-3,by omega⟩
   have e1:dI z (hB x) ⟨1,bx,cR z j⟩=⟨2,bx,cR z (j+1)⟩:=by
    show(⟨1+1,bx,cR z j++[if("true":Str)="coin" then ia z (bx x)else di z (bx x)]⟩:MS)=_;rw[zA0 AA,hb,uf];rfl
   rw[jS (by show(1:Int)<4;decide) (by show((cR z j).length:Int)<z.mn;rw[gN,hm];omega),e1];cases m with
   | zero=>
     rw[mw (fun c=>absurd c.2 (by show ¬ ((cR z (j+1)).length:Int)<z.mn;rw[gN,hm];omega))]
   | succ m=>
     have hl:((cR z (j+1)).length:Int)<z.mn:=by rw[gN,hm];omega
     have e2:dI z (hB x) ⟨2,bx,cR z (j+1)⟩=⟨3,iB bx x (opV z.p "+" (bx x) (1 % z.p)),cR z (j+1)⟩:=rfl;have e3:dI z (hB x) ⟨3,iB bx x (opV z.p "+" (bx x) (1 % z.p)),cR z (j+1)⟩=⟨1,iB bx x (opV z.p "+" (bx x) (1 % z.p)),cR z (j+1)⟩:=rfl;rw[jS (by show(2:Int)<4;decide) hl,e2,jS (by show(3:Int)<4;decide) hl,e3];have hb2:iB bx x (opV z.p "+" (bx x) (1 % z.p)) x=((j+1:Nat):Int) % z.p:=by
      unfold iB;rw[zB0 rfl];show(bx x+1 % z.p) % z.p=_;rw[hb,Int.emod_add_emod,Int.add_emod_emod];rfl
     have:=runB p0 (m+1) (j+1) fu _ (by rw[hm];omega) (by omega) hb2
     rw[this]
     congr 1
     omega
theorem hon_B{x:Str}(k:GmK ns ts p)(n6:ns.length<=6)(nd:ns.Nodup)(d60:∀y∈ns,bd ts y<=60):Hon ns ts p (hB x):=Hon.of k n6 nd fun z bx n zp hn n1 h=>by
 have p2:=k.p2;have t10:=k.t10;have n66:n<=66:=by
  rcases h with h | ⟨y,hy,h⟩
  . omega
  . have:=d60 y hy
    omega
 have e1:dI z (hB x) ⟨0,bx,[]⟩=⟨1,iB bx x (0 % z.p),cR z 0⟩:=rfl;rw[jS (by show(0:Int)<4;decide) (by rw[hn];show(0:Int)<(n:Int);omega),e1,runB (by omega) n 0 199 _ (by rw[hn,Nat.zero_add]) (by omega) (by unfold iB;rw[zB0 rfl];rfl),Nat.zero_add]
theorem DY{c:Int}:(Tk.new [.yes,.no]).said [] [.yes,.no] 3989 (hC c)=[c % 3989,0]:=by
 have e1:dI ((Tk.new [.yes,.no]).ak [] [.yes,.no] 3989) (hC c) ⟨0,(Tk.new [.yes,.no]).bx,[]⟩=⟨1,(Tk.new [.yes,.no]).bx,[c % 3989]⟩:=rfl;unfold Tk.said Tk.run;rw[jS (by show(0:Int)<1;decide) (by show(0:Int)<2;decide),e1,mw (fun c=>absurd c.1 (by show ¬ (1:Int)<1;decide))];rfl
theorem oj:∀x∈(["b","c","d","f","g"]:List Str),oS x:=by
 unfold oS;decide +kernel
theorem pr_11:Pr 11:=kn (by decide +kernel)
theorem pr_3:Pr 3:=kn (by decide +kernel)
theorem Cj:Pr 3989:=kn (by decide +kernel)
end
def tK(ns:List Str)(ts:List Tr)(p:Int):List (List Int):=(dz p.toNat (aS ns ts)).filter fun c=>decide (oo ns ts p c>0)
theorem CD{ns:List Str}{ts:List Tr}{p:Int}(p0:0<p)(c:List Int):0<=oo ns ts p c:=by
 unfold oo
 split
 . exact(jF p0 _).1
 . exact(jF p0 _).1
theorem oG{α:Type}(f:α->Bool):∀L:List α,(L.filter f).length+(L.filter fun c=>!f c).length=L.length
 | []=>rfl
 | a::r=>by
   have ih:=oG f r;cases e:f a <;> simp [e] <;> omega
theorem vf{ns:List Str}{ts:List Tr}{p:Int}(k:GmK ns ts p)(n6:ns.length<=6):dq ns ts p [] (aS ns ts) 8 (Tk.new ts) []=(p ^ aS ns ts-((tK ns ts p).length:Int),(tK ns ts p).head?):=by
 have p2:=k.p2;have ep:(p.toNat:Int)=p:=by omega
 have e1:∀c∈dz p.toNat (aS ns ts),decide ((mV ns ts p [] c).2.z.aw.1="believed")=!decide (oo ns ts p c>0):=fun c hc=>by
  obtain⟨cl,co⟩:=ib _ _ hc;rw[ep]at co;rw[AY k n6 co cl];have m0:=CD (ns:=ns) (ts:=ts) (p:=p) (by omega) c
  by_cases z:0=oo ns ts p c
  . rw[zB0 z,decide_eq_true rfl,decide_eq_false (by omega)];rfl
  . rw[zA0 z,decide_eq_false wv,decide_eq_true (by omega)];rfl
 rw [kQ k n6,fg e1];unfold gJ;have e2:((dz p.toNat (aS ns ts)).filter fun c=>!!decide (oo ns ts p c>0))=tK ns ts p:=by
  unfold tK
  congr 1
  funext c
  rw[Bool.not_not]
 have e3:=oG (fun c=>decide (oo ns ts p c>0)) (dz p.toNat (aS ns ts));rw[kL]at e3;have e4:((p.toNat ^ aS ns ts:Nat):Int)=p ^ aS ns ts:=by rw[Int.natCast_pow,ep]
 rw[e2]
 congr 1
 . have:((tK ns ts p).length:Int)+(((dz p.toNat (aS ns ts)).filter fun c=>!decide (oo ns ts p c>0)).length:Int)=p ^ aS ns ts:=by
    rw[←e4,←e3];exact(Int.natCast_add _ _).symm
   omega
 . cases(tK ns ts p).head? <;> rfl
def uF:Option (List Int)->PyData
 | none=>.none
 | some c=>.tuple (c.map PyData.int)
def wtD(x:Int×Option (List Int)):PyData:=.tuple [.int x.1,uF x.2]
theorem OptAt.rep{K:W.Frag}{H:Hp}{v:V}{x:Option (List Int)}(h:OptAt H v x):Rep K H v (uF x):=by
 cases x with
 | none=>rw[show v=.non from h];exact .non
 | some c=>obtain⟨b,rfl,hb⟩:=h;exact .tup (zE0 hb) (nv _)
theorem Ah(x:Option (List Int)):(uF x).canLay0=true/\(uF x).depth<=1:=by
 cases x with
 | none=>simp [uF,PyData.canLay0,PyData.depth]
 | some c=>simp [uF,PyData.canLay0,PyData.depth,W.ke_canLayAll0,W.ke_depthAll]
theorem kN(x:Int×Option (List Int)):SeqAt.shaped (wtD x)=true:=by
 have h:=Ah x.2;have hc:(wtD x).canLay0=true:=by simp [wtD,PyData.canLay0,PyData.canLayAll0,h.1]
 have hd:(wtD x).depth<=10:=by
  show max 0 (max (uF x.2).depth 0)+1<=10;omega
 unfold SeqAt.shaped;rw[hc,Bool.true_and,decide_eq_true_eq];omega
theorem DC(x:Int×Option (List Int)):PyData.eqv (wtD x) (wtD x)=true:=PySem.SeqAt.eqv_refl _ (SeqAt.canLay_of_shaped (kN x))
def tupD(c:List Int):PyData:=.tuple (c.map PyData.int)
theorem vH:∀cs:List (List Int),PyData.canLayAll0 (cs.map tupD)=true/\PyData.depthAll (cs.map tupD)<=1
 | []=>by simp [PyData.canLayAll0,PyData.depthAll]
 | c::cs=>by
   have h1:=Ah (some c);have h2:=vH cs;have h3:(tupD c).canLay0=true/\(tupD c).depth<=1:=h1;simp only[zS0,PyData.canLayAll0,PyData.depthAll,h3.1,h2.1];exact⟨rfl,by omega⟩
theorem rF(cs:List (List Int)):SeqAt.shaped (.list (cs.map tupD))=true:=by
 have h:=vH cs;have hc:(PyData.list (cs.map tupD)).canLay0=true:=by simp [PyData.canLay0,h.1]
 have hd:(PyData.list (cs.map tupD)).depth<=10:=by
  show PyData.depthAll (cs.map tupD)+1<=10;omega
 unfold SeqAt.shaped;rw[hc,Bool.true_and,decide_eq_true_eq];omega
theorem uM:SeqAt.shaped (.list [])=true:=rF []
def nsA:List Str:=["b","c"]
def tsA:List Tr:=[.is "b",.is "c"]
def nsB:List Str:=["b","c","d","f","g"]
def tsB:List Tr:=[.is "b",.bin "odd" (.is "c") (.is "d")]
theorem gmA:GmK nsA tsA 11:=by
 refine⟨pr_11,by decide,by decide,by decide,by decide,by decide,fun t ht=>?_,by decide,fun t ht x hx=>?_⟩
 . have h:t=.is "b"∨t=.is "c":=by simpa [tsA]using ht
   rcases h with rfl | rfl
   . exact⟨(by show("b":Str)∈nsA;decide +kernel),oj _ (by decide +kernel),by decide,by decide⟩
   . exact⟨(by show("c":Str)∈nsA;decide +kernel),oj _ (by decide +kernel),by decide,by decide⟩
 . have:=(by decide +kernel:∀t∈tsA.map Tr.names,∀x∈nsA,(t.count x:Int)<11) _ (List.mem_map_of_mem ht) x hx
   exact this
theorem gmB:GmK nsB tsB 3:=by
 refine⟨pr_3,by decide,by decide,by decide,by decide,by decide,fun t ht=>?_,by decide,fun t ht x hx=>?_⟩
 . have h:t=.is "b"∨t=.bin "odd" (.is "c") (.is "d"):=by simpa [tsB]using ht
   rcases h with rfl | rfl
   . exact⟨(by show("b":Str)∈nsB;decide +kernel),oj _ (by decide +kernel),by decide,by decide⟩
   . exact⟨⟨(by decide +kernel),(by show("c":Str)∈nsB;decide +kernel),(by show("d":Str)∈nsB;decide +kernel)⟩,⟨(by decide +kernel),oj _ (by decide +kernel),oj _ (by decide +kernel)⟩,by decide,by decide⟩
 . have:=(by decide +kernel:∀t∈tsB.map Tr.names,∀x∈nsB,(t.count x:Int)<3) _ (List.mem_map_of_mem ht) x hx
   exact this
theorem gmC:GmK [] [.yes,.no] 3989:=by
 refine⟨Cj,by decide,by decide,by decide,by decide,by decide,fun t ht=>?_,by decide,fun t ht x hx=>by cases hx⟩;have h:t=.yes∨t=.no:=by simpa using ht
 rcases h with rfl | rfl
 . exact⟨trivial,trivial,by decide,by decide⟩
 . exact⟨trivial,trivial,by decide,by decide⟩
theorem degA:∀x∈nsA,bd tsA x=1:=by decide +kernel
theorem degB:∀x∈nsB,bd tsB x<=60:=by decide +kernel
theorem resA:dq nsA tsA 11 hA (aS nsA tsA) 8 (Tk.new tsA) []=(1331,none):=kF gmA (by decide) (by decide +kernel) (hon_A gmA (by decide) (by decide +kernel) rfl degA)
theorem resB:dq nsB tsB 3 (hB "h") (aS nsB tsB) 8 (Tk.new tsB) []=(729,none):=kF gmB (by decide) (by decide +kernel) (hon_B gmB (by decide) (by decide +kernel) degB)
theorem cgtB:(tK nsB tsB 3).length=486/\(tK nsB tsB 3).head?=some [0,1,0,0,0,0]:=by decide +kernel
theorem resI:dq nsB tsB 3 [] (aS nsB tsB) 8 (Tk.new tsB) []=(243,some [0,1,0,0,0,0]):=by
 rw[vf gmB (by decide),cgtB.1,cgtB.2];rfl
theorem endC {c:Int} (c0:0<=c) (c3:c<3) (r:Int) (r0:0<=r) (r1:r<3989):(mV [] [.yes,.no] 3989 (hC c) [r]).2.z.aw.1=if c=1 then "believed" else "caught":=by
 have es:=DY (c:=c);rw[qP0 c0 (by omega)]at es;have ez:((Tk.new [.yes,.no]).ask [] [.yes,.no] 3989 (hC c)).z={ Db.new [.yes,.no]with pl:=(Db.new [.yes,.no]).pl+((([c,0]:List Int)).length:Int),cl:=[c,0],aw:=("coin",none) }:=by
  show cD [] [.yes,.no] 3989 ((Tk.new [.yes,.no]).said [] [.yes,.no] 3989 (hC c)) (Db.new [.yes,.no])=_;rw[es];rfl
 have ac:((Tk.new [.yes,.no]).ask [] [.yes,.no] 3989 (hC c)).z.aw.1="coin":=by rw[ez]
 have e0:((0*r+0) % 3989*r+c) % 3989=c:=by
  rw[Int.zero_mul,Int.zero_add,Int.zero_emod,Int.zero_mul,Int.zero_add];exact qP0 c0 (by omega)
 have e1:((0*r+0) % 3989*r+1) % 3989=1:=by
  rw[Int.zero_mul,Int.zero_add,Int.zero_emod,Int.zero_mul,Int.zero_add];rfl
 have et:((Tk.new [.yes,.no]).ask [] [.yes,.no] 3989 (hC c)).toss [] [.yes,.no] 3989 r=⟨dh [] [.yes,.no] 3989 { Db.new [.yes,.no]with pl:=(Db.new [.yes,.no]).pl+((([c,0]:List Int)).length:Int)+1,cl:=[c,0],aw:=("coin",none),s:=r,ed:=c },((Tk.new [.yes,.no]).ask [] [.yes,.no] 3989 (hC c)).bx,((Tk.new [.yes,.no]).ask [] [.yes,.no] 3989 (hC c)).nr⟩:=by
  unfold Tk.toss;rw[ez]
  congr 1
  show pk [] [.yes,.no] 3989 r { Db.new [.yes,.no]with pl:=(Db.new [.yes,.no]).pl+((([c,0]:List Int)).length:Int)+1,cl:=[c,0],aw:=("coin",none) }=_;unfold pk;have eh:hor r 3989 [c,0]=c:=e0;show goOn [] [.yes,.no] 3989 { Db.new [.yes,.no]with pl:=(Db.new [.yes,.no]).pl+((([c,0]:List Int)).length:Int)+1,cl:=[c,0],aw:=("coin",none),s:=r,ed:=hor r 3989 [c,0] }=_;rw[eh];rfl
 show(cJ [] [.yes,.no] 3989 (hC c) [r] 20 ((Tk.new [.yes,.no]).ask [] [.yes,.no] 3989 (hC c))).2.z.aw.1=_;rw[eP ac];show(cJ [] [.yes,.no] 3989 (hC c) [] 19 (((Tk.new [.yes,.no]).ask [] [.yes,.no] 3989 (hC c)).toss [] [.yes,.no] 3989 r)).2.z.aw.1=_;rw[et];have eh:hor r 3989 ([Tr.yes,.no].map fun t=>t.worth [] [] 3989)=1:=e1;unfold dh;show(cJ [] [.yes,.no] 3989 (hC c) [] 19 ⟨{ Db.new [.yes,.no]with pl:=_,cl:=[c,0],s:=r,ed:=c,aw:=if c=hor r 3989 ([Tr.yes,.no].map fun t=>t.worth [] [] 3989)then("believed",none)else("caught",some (0+1)) },_,_⟩).2.z.aw.1=_;rw[eh]
 by_cases h:c=1
 . rw[zB0 h,zB0 h,df Az wx]
 . rw[zA0 h,zA0 h,df sI wu]
theorem BB{p:Nat}{c:List Int}(h:c∈dz p 1):∃r:Int,c=[r]/\0<=r/\r<(p:Int):=by
 obtain⟨l,o⟩:=ib 1 c h
 match c,l with
 | [r],_=>exact⟨r,rfl,o r (List.mem_singleton.mpr rfl)⟩
theorem resC{c:Int}(c0:0<=c)(c3:c<3):dq [] [.yes,.no] 3989 (hC c) (aS [] [.yes,.no]) 8 (Tk.new [.yes,.no]) []=if c=1 then(3989,none)else(0,some [0]):=by
 rw [kQ gmC (by decide)];have ec:aS [] [.yes,.no]=1:=rfl;rw[ec];have e1:∀x∈dz (3989:Int).toNat 1,decide ((mV [] [.yes,.no] 3989 (hC c) x).2.z.aw.1="believed")=decide (c=1):=fun x hx=>by
  obtain⟨r,rfl,r0,r1⟩:=BB hx;rw[endC c0 c3 r r0 r1]
  by_cases h:c=1
  . rw[zB0 h,decide_eq_true rfl,decide_eq_true h]
  . rw[zA0 h,decide_eq_false wv,decide_eq_false h]
 rw[fg (b':=fun _=>decide (c=1)) e1];unfold gJ;have al:=kL (p:=(3989:Int).toNat) 1;have az:=lJ (p:=(3989:Int).toNat) (by decide) 1
 by_cases h:c=1
 . rw [zB0 h,decide_eq_true h];have e2:(dz (3989:Int).toNat 1).filter (fun _=>true)=dz (3989:Int).toNat 1:=List.filter_eq_self.mpr fun _ _=>rfl
   have e3:(dz (3989:Int).toNat 1).filter (fun _=>!true)=[]:=List.filter_eq_nil_iff.mpr fun _ _=>by simp
   rw[e2,e3,al];rfl
 . rw [zA0 h,decide_eq_false h];have e2:(dz (3989:Int).toNat 1).filter (fun _=>false)=[]:=List.filter_eq_nil_iff.mpr fun _ _=>by simp
   have e3:(dz (3989:Int).toNat 1).filter (fun _=>!false)=dz (3989:Int).toNat 1:=List.filter_eq_self.mpr fun _ _=>rfl
   rw[e2,e3,az];rfl
section
structure PSW(X:Cx)(st:List Stmt)(t:TS):Prop where
 out:PSs X st t
end
section
structure PEW(X:Cx)(e:Expr)(t:TE):Prop where
 out:PE X e t
structure PAW(X:Cx)(es:List Expr)(t:TA):Prop where
 out:PA X es t
structure PTW(X:Cx)(s:Stmt)(t:TS):Prop where
 out:PS X s t
section
variable {X:Cx} {e:Expr} {es:List Expr} {te:TE} {t:TA} {pos:Pos}
theorem aQ:PAW X [] uh:=⟨ae⟩
theorem aj(ha:PEW X e te)(hr:PAW X es t)(hs:starEach (e::es) X.env=(false,eval e X.env)::starEach es X.env:=by rfl):PAW X (e::es) (iE te t):=⟨aa ha.out hr.out hs⟩
theorem aW{x1}(h:PAW X es t):PEW X (.Tuple es x1 pos) (ug t):=⟨bE h.out⟩
theorem aU{x j}:PEW X (.Constant (.str x) j pos) (tC (.str x)):=⟨aV⟩
theorem cQ{i j}:PEW X (.Constant (.int i) j pos) (tC (.int i)):=⟨ai⟩
theorem yE(h:PEW X e te):PTW X (.Return (some e) pos) (tRet te):=⟨aD h.out⟩
theorem kO{i:Nat}{x:Str}{pos':Pos}(hN:X.N.Nodup)(hi:X.N[i]?=some x)(hx:Loc X.env.scope x)(he:PEW X e te)(hs:swapsWith e (some (.Name x pos')) pos.line X.env=pure false:=by rfl)(hf:X.fn x=true∨X.env.scope.names.lookup x=some .local:=by first | exact .inl rfl | exact .inr rfl | assumption) :
 PTW X (.Assign [.Name x pos'] e pos) (DR te (Be i)):=⟨ay hN hi hx he.out hs hf⟩
theorem yF:PSW X [] Dc:=⟨aG⟩
theorem bV{s:Stmt}{ss:List Stmt}{a b:TS}(h:PTW X s a)(k:PSW X ss b):PSW X (s::ss) (tSeq a b):=⟨ad h.out k.out⟩
theorem tU{s:Stmt}{a:TS}(h:PTW X s a):PSW X [s] a:=⟨ag h.out⟩
theorem kP{ss:List Stmt}{t t':TS}(h:PSW X ss t)(hw:∀D σ H,t' D σ H->t D σ H):PSW X ss t':=⟨qF h.out hw⟩
theorem CZ{c:Expr}{a b:List Stmt}{tc:TT}{t u:TS}(hc:PT X c tc)(ha:PSW X a t)(hb:PSW X b u):PTW X (.If c a b pos) (tIfS tc t u):=⟨aR hc ha.out hb.out⟩
end
end
section
theorem yI{X:Cx}{es:List Expr}{t:TA}{pos:Pos}(h:PAW X es t):PEW X (.List es pos) (tLst t):=⟨da h.out⟩
end
section
variable {X:Cx} {a b e:Expr} {es:List Expr} {ta tb:TE} {t:TA} {p pos:Pos}
theorem we_ix{r:R2}(hr:IxR X r)(ha:PEW X a ta)(hb:PEW X b tb)(hs:wT b):PEW X (.Subscript a b pos) (tOp r ta tb):=⟨aY hr ha.out hb.out hs⟩
theorem tY{op:CmpOp}{r:R2}(ho:OpR X (compareOp op) r)(ha:PEW X a ta)(hb:PEW X b tb)(hm:behindInMarks op b=false):PEW X (.Compare a [op] [b] pos) (tOp r ta tb):=⟨fE ho ha.out hb.out hm⟩
theorem DE {n k:Nat} {x:Str} {ps:List Str} {sp:Sp} (C:Cal X.prog X.w X.K X.mg X.base n x ps sp) (hr:Room k X.A) (hk:n<=k) (hg:Gl X x) (ha:PAW X (e::es) t) (hdb:(x==("__debug__":Str))=false:=by decide) (he:starEach (e::es) X.env=(false,eval e X.env)::starEach es X.env:=by rfl) (hpl:(backTo pos (starEach es X.env)).any (·.1)=false:=by rfl):PEW X (.Call (.Name x p) (e::es) [] pos) (lL sp [] E0 t):=⟨aJ C hr hk hg ha.out hdb he hpl⟩
theorem qa {n k:Nat} {x:Str} {ps:List Str} {sp:Sp} {E:XK} (C:CalR X.prog X.w X.K X.mg X.base n x ps sp) (hr:Room k X.A) (hk:n<=k) (hg:Gl X x) (hx:fo (CXr X.prog X.w) X E) (ha:PAW X (e::es) t) (hdb:(x==("__debug__":Str))=false:=by decide) (he:starEach (e::es) X.env=(false,eval e X.env)::starEach es X.env:=by rfl) (hpl:(backTo pos (starEach es X.env)).any (·.1)=false:=by rfl):PEW X (.Call (.Name x p) (e::es) [] pos) (lL sp [] E t):=⟨wn C hr hk hg hx ha.out hdb he hpl⟩
theorem vF {C f:Addr} {fd:FuncData} {k:Nat} {x:Str} {ps:List Str} {sp:Sp} (M:Mk X.K C f) (F:FnOk X.prog X.w X.K X.mg X.base CX0 k f fd ps sp) (hr:Room (k+1) X.A) (hg:Gl X x) (hm:X.mg x=some (.ref C)) (hb:Binds X.K fd ps []) (ha:PAW X (e::es) t) (hdb:(x==("__debug__":Str))=false:=by decide) (he:starEach (e::es) X.env=(false,eval e X.env)::starEach es X.env:=by rfl) (hpl:(backTo pos (starEach es X.env)).any (·.1)=false:=by rfl):PEW X (.Call (.Name x p) (e::es) [] pos) (De C sp [] E0 t):=⟨gE M F hr hg hm hb .nil bY ha.out hdb he hpl⟩
theorem DD{op}(h:PEW X a ta):PEW X (.BoolOp op [a] pos) ta:=⟨nW h.out⟩
theorem DF{rest:List Expr}(ha:PEW X a ta)(hb:PEW X (.BoolOp .And (b::rest) pos) tb):PEW X (.BoolOp .And (a::b::rest) pos) (Dg ta tb):=⟨lu ha.out hb.out⟩
theorem yH{j}:PEW X (.Constant .none j pos) (tC .non):=⟨iR⟩
end
section
variable {C CM CA CG cA c0 c1 c2 c3 c4 c5 c6 c7 c8 c9:Addr}
theorem rb{H:Hp}{a b g dx:Addr}{ns:List Str}{tv:List V}{ts:List Tr}{p:Int}{Q:VK}{E:XK}(ha:H a=some (.tup (ns.map V.str)))(hb:H b=some (.tup tv))(TS:TreesAt H tv ts)(k:GmK ns ts p)(nd:ns.Nodup)(nx:H g=none)(ndx:H dx=none)(q:∀H',Same H H'->Gm CG H' g ns ts p->Q .non H') :
 qh CG [.ref g,.ref a,.ref b,.int p] (upd (upd H dx (.own g)) g (.ins CG dx [])) Q E:=by
 have s3:Same H (upd (upd H dx (.own g)) g (.ins CG dx [])):=fun b o e=>by
  rw[aq (aN e nx),aq (aN e ndx)];exact e
 refine⟨g,dx,a,b,ns,tv,ts,p,rfl,am,s3 _ _ ha,nd,k.n10,s3 _ _ hb,TS.mono (bp s3),k.t1,k.t10,k.tok,k.pr,k.p2,k.p9,k.tp,k.tc,fun d H3 d0 GA hd S3=>?_⟩;have S23:Same H H3:=fun b o e=>S3 b o (aN e nx) (s3 b o e)
 exact q H3 S23 ⟨a,b,d,tv,GA,S23 _ _ ha,S23 _ _ hb,TS.mono (bp S23),hd⟩
def HelpAt(H:Hp)(c:Addr)(rows:List Hr):Prop:=∃rv,H c=some (.tup rv)/\RowsAt H rv rows
theorem HelpAt.same{H H':Hp}{c:Addr}{rows:List Hr}(h:HelpAt H c rows)(s:Same H H'):HelpAt H' c rows:=by
 obtain⟨rv,h1,h2⟩:=h;exact⟨rv,s _ _ h1,h2.mono (bp s)⟩
theorem iO{H:Hp}:RowsAt H [] []:=⟨rfl,fun i v r h=>by cases h⟩
theorem fe{H:Hp}{v:V}{r:Hr}{rv:List V}{rows:List Hr}(h:HrAt H v r)(t:RowsAt H rv rows):RowsAt H (v::rv) (r::rows):=by
 refine⟨by rw[qC0,qC0,t.1],fun i u s hu hs=>?_⟩;cases i with
 | zero=>cases hu;cases hs;exact h
 | succ i=>exact t.2 i u s hu hs
theorem Ba:∀r∈hA,r.good:=fun r hr=>by
 have h:r=.say (.ask "true" (.num 0))∨r=.say (.ask "true" (.num 1)):=by simpa [hA]using hr
 rcases h with rfl | rfl <;> exact⟨⟨(by decide +kernel),trivial⟩,(by show 2<=5;decide)⟩
theorem EF:∀r∈hB "h",r.good:=fun r hr=>by
 have h:r=.set "h" (.num 0)∨r=.say (.ask "true" (.box "h"))∨r=.set "h" (.op "+" (.box "h") (.num 1))∨r=.go 1:=by simpa [hB]using hr
 rcases h with rfl | rfl | rfl | rfl
 . exact⟨trivial,(by show 1<=5;decide)⟩
 . exact⟨⟨(by decide +kernel),trivial⟩,(by show 2<=5;decide)⟩
 . exact⟨⟨(by decide +kernel),trivial,trivial⟩,(by show 2<=5;decide)⟩
 . exact(by show(0:Int)<=1;decide)
theorem ED{c:Int}:∀r∈hC c,r.good:=fun r hr=>by
 have h:r=.say (.num c):=by simpa [hC]using hr
 subst h;exact⟨trivial,(by show 1<=5;decide)⟩
theorem Bb:∀r∈([]:List Hr),r.good:=fun r hr=>by cases hr
def teS (n:Int):TE:=ug (iE (tC (.str "say")) (iE (ug (iE (tC (.str "true")) (iE (ug (iE (tC (.str "num")) (iE (tC (.int n)) uh))) uh))) uh))
def teA:TE:=ug (iE (teS 0) (iE (teS 1) uh))
theorem rdS {n:Int} {σ:St} {H:Hp} {Q:VK} (q:∀(v:V) (H':Hp),Same H H'->HrAt H' v (.say (.ask "true" (.num n)))->Q v H'):teS n σ H Q:=by
 refine⟨(by show 2<=sizeLine;decide),fun a1 h1=>⟨(by show 2<=sizeLine;decide),fun a2 h2=>⟨(by show 2<=sizeLine;decide),fun a3 h3=>?_⟩⟩⟩;have I1:=zD0 h1 (.tup [.str "num",.int n]);have I2:=zD0 h2 (.tup [.str "true",.ref a1]);have I3:=zD0 h3 (.tup [.str "say",.ref a2]);exact q (.ref a3) _ (I1.trans (I2.trans I3)) (.say am (.ask (I3 _ _ am) (.num (I3 _ _ (I2 _ _ am)))))
theorem rdA{σ:St}{H:Hp}{Q:VK}(q:∀(c:Addr) (H':Hp),Same H H'->HelpAt H' c hA->Q (.ref c) H'):teA σ H Q:=by
 unfold teA ug;unfold iE;refine rdS fun v1 H1 S1 h1=>?_
 refine rdS fun v2 H2 S2 h2=>?_
 refine⟨(by show 2<=sizeLine;decide),fun c hc=>?_⟩;have I3:=zD0 hc (.tup [v1,v2]);exact q c _ (S1.trans (S2.trans I3)) ⟨_,am,fe ((h1.mono (bp S2)).mono (bp I3)) (fe (h2.mono (bp I3)) iO)⟩
theorem mK{H:Hp}{a b:Addr}{x:Int×Option (List Int)}{v:V}{K:W.Frag}{Q:VK}(h:WtAt H a x)(hb:H b=some (.tup [.int x.1,v]))(ov:OptAt H v x.2)(q:Q (.bl true) H):rEqD K (.ref a) (.ref b) H Q:=by
 obtain⟨v2,h2,o2⟩:=h;refine⟨wtD x,wtD x,.tup (zE0 h2) (.cons (.int _) (.cons o2.rep .nil)),.tup (zE0 hb) (.cons (.int _) (.cons ov.rep .nil)),kN _,kN _,?_⟩;rw[DC];exact q
theorem WtAt.same{H H':Hp}{a:Addr}{x:Int×Option (List Int)}(h:WtAt H a x)(s:Same H H'):WtAt H' a x:=by
 obtain⟨v,h1,h2⟩:=h;exact⟨v,s _ _ h1,h2.mono (bp s)⟩
theorem b7:FnScope ["_law_script","_law_feed_here","_law_coins","_law_field","_law_many","_law_names_here","_law_trees","_law_rows","_law_k","_law_helper","_law_turn","_law_game","_law_on","_law_right","_law_claim","_law_found"] ["_law_script"] (af kh):=⟨rfl,rfl,rfl,by decide +kernel,rfl,by decide +kernel,by decide +kernel⟩
structure Siz(c p m:Int):Prop where
 c1:1<=c
 c7:c<=7
 pp:Pr p
 p3:3<p
 p4:p<=4003
 pw:4000<p ^ c.toNat
 m1:1<=m
 m2:m<=2
 m7:c=7->m=2
def tN56:TS:=fun Dn σ H=>∃(x0 x5 x6 x7 x8 x9 x10 x11 x12 x13 x14 x15:Option V)(f:Addr)(c p m:Int),σ=[x0,some (.ref f),some (.int c),some (.int p),some (.int m),x5,x6,x7,x8,x9,x10,x11,x12,x13,x14,x15]/\Siz c p m/\FeedAt H f/\∀H',Dn.rt (.bl true) H'
def tR56:TS:=fun Dn σ H=>∃(x0 x4 x7 x8 x9 x10 x11 x12 x13 x14 x15:Option V)(f na ta:Addr)(c p:Int)(ns:List Str)(tv:List V)(ts:List Tr),σ=[x0,some (.ref f),some (.int c),some (.int p),x4,some (.ref na),some (.ref ta),x7,x8,x9,x10,x11,x12,x13,x14,x15]/\H na=some (.lst (ns.map V.str))/\H ta=some (.lst tv)/\TreesAt H tv ts/\GmK ns ts p/\ns.length<=6/\ns.Nodup/\0<=c/\c<=7/\aS ns ts=c.toNat/\4000<p ^ c.toNat/\p<=4003/\na≠f/\ta≠f/\FeedAt H f/\∀H',Dn.rt (.bl true) H'
def tT56:TS:=fun Dn σ H=>∃(x0 x2 x3 x4 x5 x6 x7 x8 x9 x10 x11 x12 x13 x14 x15:Option V)(f:Addr),σ=[x0,some (.ref f),x2,x3,x4,x5,x6,x7,x8,x9,x10,x11,x12,x13,x14,x15]/\FeedAt H f/\∀H',Dn.rt (.bl true) H'
def BO:TS:=fun Dn σ H=>∃(x0 x2 x3 x4 x5 x6 x7 x8 x9 x11 x12 x13 x14 x15:Option V)(f:Addr)(u:Int),σ=[x0,some (.ref f),x2,x3,x4,x5,x6,x7,x8,x9,some (.int u),x11,x12,x13,x14,x15]/\FeedAt H f/\∀H',Dn.rt (.bl true) H'
end
section
theorem HelpAt.keep{H H':Hp}{c:Addr}{rows:List Hr}(h:HelpAt H c rows)(k:dA H H'):HelpAt H' c rows:=by
 obtain⟨rv,h1,h2⟩:=h;exact⟨rv,k _ _ h1,h2.mono k⟩
theorem EJ(ss:List Str):PyData.eqv (.list (ss.map PyData.str)) (.list [])=decide (ss=[]):=by
 cases ss <;> simp [PyData.eqv,PyData.eqvAll]
theorem xk{ns:List Str}(h:∀x∈ns,oS x):SeqAt.shaped (.list (ns.map PyData.str))=true:=by
 have h1:=rT h
 simp [SeqAt.shaped,PyData.canLay0,PyData.depth,h1.1,h1.2]
def Ff(ns:List Str)(t:Tr):Prop:=t=.yes∨t=.no∨∃x∈ns,t=.is x
theorem gm56{ns:List Str}{ts:List Tr}{p:Int}(pp:Pr p)(p3:3<p)(p4:p<=4003)(n6:ns.length<=6)(nok:∀x∈ns,oS x)(t1:1<=ts.length)(t2:ts.length<=2)(h:∀t∈ts,Ff ns t):GmK ns ts p:=by
 refine⟨pp,by omega,by omega,by omega,t1,by omega,fun t ht=>?_,by omega,fun t ht x hx=>?_⟩
 . rcases h t ht with rfl | rfl | ⟨x,hx,rfl⟩
   . exact⟨trivial,trivial,by decide,by decide⟩
   . exact⟨trivial,trivial,by decide,by decide⟩
   . exact⟨hx,nok x hx,(by show 1<=10;decide),(by show 1<=400;decide)⟩
 . have:t.names.count x<=1:=by
    refine qB0 List.count_le_length ?_;rcases h t ht with rfl | rfl | ⟨x,hx,rfl⟩
    . exact zZ0 _
    . exact zZ0 _
    . exact zF0 _
   omega
theorem Bw{ns:List Str}{ts:List Tr}{c m:Int}(h1:ns.length=(c-m+1).toNat)(h2:ts.length=m.toNat)(m1:1<=m)(m2:m<=2)(c1:1<=c):aS ns ts=c.toNat:=by
 unfold aS
 split <;> omega
theorem pow56{p:Int}{n:Nat}(p0:0<=p)(p4:p<=4003)(n7:n<=7):p ^ n<10000000000000000000000000000000000000000:=by
 have h1:=nQ p0 p4 n;have h2:(4003:Int) ^ n<=4003 ^ 7:=by
  rcases(show n=0∨n=1∨n=2∨n=3∨n=4∨n=5∨n=6∨n=7 by omega)with rfl | rfl | rfl | rfl | rfl | rfl | rfl | rfl <;> decide
 have h3:(4003:Int) ^ 7<10000000000000000000000000000000000000000:=by decide
 omega
theorem TreesAt.put0{H:Hp}{tv:List V}{ts:List Tr}{v:V}{t:Tr}(h:TreesAt H tv ts)(hv:TreeAt H v t):TreesAt H (tv.set 0 v) (ts.set 0 t):=by
 cases h with
 | nil=>exact .nil
 | cons _ r=>exact .cons hv r
theorem ixN0{n:Nat}(h:0<n):ixN n 0=some 0:=by
 unfold ixN;rw[zB0 (by decide),zB0 (by omega)];rfl
end
section
variable {C CM CA CG cA c0 c1 c2 c3 c4 c5 c6 c7 c8 c9:Addr}
theorem El {f fI:Addr} {fd fdI:FuncData} (F:Fun K "law" "law" kh f fd) (B:Bl mg) (TG:GTxt K mg CG) (M:Mk K CG fI) (GI:FnOk P w K mg base CX0 14 fI fdI ["self","switches","trees","field"] (qh CG)) (bI:Binds K fdI ["self","switches","trees","field"] [])
 (t9:Cal P w K mg base 1 "_law_feed" ["_law_script","_law_k"] (zn K)) (ba:Cal P w K mg base 1 "_law_take" ["_law_feed_here","_law_many"] qc) (m9:Cal P w K mg base 2 "_law_names" ["_law_feed_here","_law_many"] rP) (u7:Cal P w K mg base 2 "_law_size" ["_law_feed_here"] rO)
 (j4:Cal P w K mg base 37 "_law_refused" ["_law_game","_law_helper","_law_rows"] (pF CG)) (eI:CalR P w K mg base 36 "weighed" ["game","helper"] (kR C CM CG c9)):FnOk P w K mg base CX0 38 f fd ["_law_script"] (vU K):=by
 refine F.ok b7 (fun vs H Q E h=>?_) (fun cdv A outer s H vs Q E hr h=>?_)
 . obtain⟨a,ns,rfl,_⟩:=h;rfl
 obtain ⟨a,sn,rfl,hS,h63,q⟩:=h;have hr15:Room 15 _:=hr.mono (by decide);refine⟨_,(PSW.out (bV ⟨ay (i:=1) b7.nd rfl (Or.inr rfl) (aJ t9 hr (by decide) rfl (aa (pv 0) (aa ai ae)))⟩
  (bV ⟨nJ (aJ u7 hr (by decide) rfl (aa (pv 1) ae)) (Ab rfl (kt (cB (i:=2) b7.nd rfl (Or.inl rfl)) (kt (cB (i:=3) b7.nd rfl (Or.inl rfl)) wl)))⟩
  (bV ⟨ay (i:=4) b7.nd rfl (Or.inl rfl) (ao bn ai (aJ ba hr (by decide) rfl (aa (pv 1) (aa ai ae))))⟩
  (bV ⟨aR (ax bb (pv 2) ai (aF _)) (ag (ay (i:=4) b7.nd rfl (Or.inl rfl) ai)) aG⟩
  (kP (t':=tN56) (bV ⟨ay (i:=5) b7.nd rfl (Or.inl rfl) (aJ m9 hr (by decide) rfl (aa (pv 1) (aa (ao bn (ao cj (pv 2) (pv 4)) ai) ae)))⟩
  (bV ⟨qG (i:=6) (N:=["_law_feed_here"]) (ix:=[1]) b7.nd rfl (Or.inl rfl) rfl
   (CompScope.one (by with_unfolding_all rfl) (by decide) rfl (by decide) rfl (by decide +kernel) (by with_unfolding_all rfl) (by with_unfolding_all rfl) (by with_unfolding_all rfl) rfl rfl) rfl
   (cv rfl B.range (aa (pv 4) ae)) (fun _ _ _=>eE (aY (sT K) (PEW.out (yI (aj (aW (aj aU aQ)) (aj (aW (aj aU aQ)) aQ)))) (aJ ba hr (by decide) rfl (aa (pv 1) (aa ai ae))) (fun _ _=>rfl)))⟩
  (bV ⟨aR (ax (Ek hr.units) (pv 5) (da ae) (aF _)) (ag (nJ (bE (aa aV (aa (aY ix_list (pv 5) (aJ ba hr (by decide) rfl (aa (pv 1) (aa (aO aM rfl B.len PySem.boot_len (aa (pv 5) ae)) ae))) (fun _ _=>rfl)) ae))) (qI (pv 6) ai ke))) aG⟩
  (kP (t':=tR56) (bV ⟨ay (i:=7) b7.nd rfl (Or.inl rfl) ai⟩
  (bV ⟨dR PassesOwn.never rfl (cv rfl B.range (aa (pv 2) ae)) (cB (i:=8) b7.nd rfl (Or.inl rfl)) (ag (ay (i:=7) b7.nd rfl (Or.inl rfl) (ao cq (pv 7) (pv 3))))⟩
  (bV (kO (i:=9) b7.nd rfl (Or.inl rfl) (we_ix ix_list (yI (aj (aW aQ) (aj (aW (aj (aW (aj aU (aj (aW (aj aU (aj (aW (aj aU (aj cQ aQ))) aQ))) aQ))) (aj (aW (aj aU (aj (aW (aj aU (aj (aW (aj aU (aj cQ aQ))) aQ))) aQ))) aQ))) aQ))) (DE ba hr (by decide) rfl (aj ⟨pv 1⟩ (aj cQ aQ))) (fun _ _=>rfl)))
  (bV ⟨aR (jT (io (aJ j4 hr (by decide) rfl (aa (gE M GI hr15 rfl TG.mgC bI .nil bY (aa (cI cf rfl B.tuple cL (aa (pv 5) ae)) (aa (cI cf rfl B.tuple cL (aa (pv 6) ae)) (aa (pv 3) ae)))) (aa (pv 9) (aa (pv 7) ae)))))) (ag (aD lS)) aG⟩
  (kP (t':=tT56) (bV ⟨ay (i:=10) b7.nd rfl (Or.inl rfl) (aJ ba hr (by decide) rfl (aa (pv 1) (aa ai ae)))⟩
  (bV (CZ (ax bb (pv 10) ai (aF _)) (kP (t':=BO) (bV (kO (i:=11) b7.nd rfl (Or.inl rfl) (vF M GI hr15 rfl TG.mgC bI (aj (aW (aj aU (aj aU aQ))) (aj (aW (aj (aW (aj aU (aj aU aQ))) (aj (aW (aj aU (aj aU aQ))) aQ))) (aj cQ aQ)))))
   (tU (yE (tY (jU hr.units) (qa eI hr (by decide) rfl my (aj ⟨pv 11⟩ (aj (aW (aj (aW (aj aU (aj (aW (aj aU (aj (aW (aj aU (aj cQ aQ))) aQ))) aQ))) (aj (aW (aj aU (aj (aW (aj aU (aj (aW (aj aU (aj cQ aQ))) aQ))) aQ))) aQ))) aQ))) (aW (aj cQ (aj yH aQ))) (aF _))))) (by
    rintro Dn σ H ⟨x0,x2,x3,x4,x5,x6,x7,x8,x9,x11,x12,x13,x14,x15,f,u,rfl,F0,q⟩;refine⟨(by show 2<=sizeLine;decide),fun a1 h1=>?_⟩;have I1:=zD0 h1 (.tup [.str "b",.str "c"]);have g1:upd H a1 (.tup [.str "b",.str "c"]) a1=some (.tup (nsA.map V.str)):=am;generalize upd H a1 (.tup [.str "b",.str "c"])=H1 at I1 g1;refine⟨(by show 2<=sizeLine;decide),fun b1 k1=>⟨(by show 2<=sizeLine;decide),fun b2 k2=>⟨(by show 2<=sizeLine;decide),fun b3 k3=>?_⟩⟩⟩;have J1:=zD0 k1 (.tup [.str "is",.str "b"]);have J2:=zD0 k2 (.tup [.str "is",.str "c"]);have J3:=zD0 k3 (.tup [.ref b1,.ref b2]);have TS:TreesAt _ [V.ref b1,V.ref b2] tsA:=.cons (.is (J3 _ _ (J2 _ _ am))) (.cons (.is (J3 _ _ am)) .nil);refine fun g dx nx ndx _=>rb (ns:=nsA) (ts:=tsA) (J3 _ _ (J2 _ _ (J1 _ _ g1))) am TS gmA (by decide +kernel) nx ndx fun H5 S5 G5=>⟨rfl,?_⟩
    refine⟨_,rfl,rdA fun c H6 S6 hh=>?_⟩;obtain⟨rv,hc,RW⟩:=hh;refine⟨g,c,rv,hA,nsA,tsA,11,rfl,G5.same S6,gmA,by decide,hc,RW,Ba,by decide,fun a H7 _ S7 W7=>?_,fun e dx H' z=>absurd (by decide) z⟩;rw[resA]at W7;refine⟨(by show 2<=sizeLine;decide),fun b hb=>?_⟩;exact mK (W7.same (zD0 hb _)) am rfl (q _))) yF)
  (bV (CZ (ax bb (pv 10) ai (aF _)) (kP (t':=BO) (bV (kO (i:=6) b7.nd rfl (Or.inl rfl) (aW (aj (aW (aj aU (aj aU aQ))) (aj (aW (aj aU (aj (aW (aj aU (aj aU aQ))) (aj (aW (aj aU (aj aU aQ))) aQ)))) aQ))))
   (bV (kO (i:=11) b7.nd rfl (Or.inl rfl) (vF M GI hr15 rfl TG.mgC bI (aj (aW (aj aU (aj aU (aj aU (aj aU (aj aU aQ)))))) (aj ⟨pv 6⟩ (aj cQ aQ)))))
   (bV (kO (i:=12) b7.nd rfl (Or.inl rfl) (aW (aj aU (aj aU (aj (aW (aj aU (aj aU (aj (aW (aj aU (aj aU aQ))) (aj (aW (aj aU (aj cQ aQ))) aQ))))) aQ)))))
   (bV (kO (i:=13) b7.nd rfl (Or.inl rfl) (aW (aj (aW (aj aU (aj aU (aj (aW (aj aU (aj cQ aQ))) aQ)))) (aj (aW (aj aU (aj (aW (aj aU (aj (aW (aj aU (aj aU aQ))) aQ))) aQ))) (aj ⟨pv 12⟩ (aj (aW (aj aU (aj cQ aQ))) aQ))))))
   (tU (yE (DF (tY (jU hr.units) (qa eI hr (by decide) rfl my (aj ⟨pv 11⟩ (aj ⟨pv 13⟩ aQ))) (aW (aj cQ (aj yH aQ))) (aF _)) (DD (tY (jU hr.units) (qa eI hr (by decide) rfl my (aj ⟨pv 11⟩ (aj (aW aQ) aQ))) (aW (aj cQ (aj (aW (aj cQ (aj cQ (aj cQ (aj cQ (aj cQ (aj cQ aQ))))))) aQ))) (aF _)))))))))) (by
    rintro Dn σ H ⟨x0,x2,x3,x4,x5,x6,x7,x8,x9,x11,x12,x13,x14,x15,f,u,rfl,F0,q⟩;refine⟨(by show 2<=sizeLine;decide),fun b1 k1=>⟨(by show 2<=sizeLine;decide),fun b2 k2=>⟨(by show 2<=sizeLine;decide),fun b3 k3=>⟨(by show 3<=sizeLine;decide),fun b4 k4=>⟨(by show 2<=sizeLine;decide),fun b5 k5=>?_⟩⟩⟩⟩⟩;have J1:=zD0 k1 (.tup [.str "is",.str "b"]);have J2:=zD0 k2 (.tup [.str "is",.str "c"]);have J3:=zD0 k3 (.tup [.str "is",.str "d"]);have J4:=zD0 k4 (.tup [.str "odd",.ref b2,.ref b3]);have J5:=zD0 k5 (.tup [.ref b1,.ref b4]);have TS:TreesAt _ [V.ref b1,V.ref b4] tsB:=.cons (.is (J5 _ _ (J4 _ _ (J3 _ _ (J2 _ _ am))))) (.cons (.bin (J5 _ _ am) (.is (J5 _ _ (J4 _ _ (J3 _ _ am)))) (.is (J5 _ _ (J4 _ _ am)))) .nil);have g5:upd (upd (upd (upd (upd H b1 (.tup [.str "is",.str "b"])) b2 (.tup [.str "is",.str "c"])) b3 (.tup [.str "is",.str "d"])) b4 (.tup [.str "odd",.ref b2,.ref b3])) b5 (.tup [.ref b1,.ref b4]) b5=some (.tup [.ref b1,.ref b4]):=am;clear J1 J2 J3 J4 J5 k1 k2 k3 k4 k5;generalize upd (upd (upd (upd (upd H b1 (.tup [.str "is",.str "b"])) b2 (.tup [.str "is",.str "c"])) b3 (.tup [.str "is",.str "d"])) b4 (.tup [.str "odd",.ref b2,.ref b3])) b5 (.tup [.ref b1,.ref b4])=H1 at TS g5;refine⟨(by show 5<=sizeLine;decide),fun a1 h1=>?_⟩;have I1:=zD0 h1 (.tup [.str "b",.str "c",.str "d",.str "f",.str "g"]);have g1:upd H1 a1 (.tup [.str "b",.str "c",.str "d",.str "f",.str "g"]) a1=some (.tup (nsB.map V.str)):=am;generalize upd H1 a1 (.tup [.str "b",.str "c",.str "d",.str "f",.str "g"])=H2 at I1 g1;refine⟨_,rfl,fun g dx nx ndx _=>rb (ns:=nsB) (ts:=tsB) g1 (I1 _ _ g5) (TS.mono (bp I1)) gmB (by decide +kernel) nx ndx fun H5 S5 G5=>⟨rfl,?_⟩⟩;refine⟨(by show 2<=sizeLine;decide),fun d1 l1=>⟨(by show 2<=sizeLine;decide),fun d2 l2=>⟨(by show 4<=sizeLine;decide),fun d3 l3=>⟨(by show 3<=sizeLine;decide),fun d4 l4=>?_⟩⟩⟩⟩;have L1:=zD0 l1 (.tup [.str "box",.str "h"]);have L2:=zD0 l2 (.tup [.str "num",.int 1]);have L3:=zD0 l3 (.tup [.str "op",.str "+",.ref d1,.ref d2]);have L4:=zD0 l4 (.tup [.str "set",.str "h",.ref d3]);have HO:HrAt _ (V.ref d4) (.set "h" (.op "+" (.box "h") (.num 1))):=.set am (.op (L4 _ _ am) (.box (L4 _ _ (L3 _ _ (L2 _ _ am)))) (.num (L4 _ _ (L3 _ _ am))));have S6:=L1.trans (L2.trans (L3.trans L4));generalize upd (upd (upd (upd H5 d1 (.tup [.str "box",.str "h"])) d2 (.tup [.str "num",.int 1])) d3 (.tup [.str "op",.str "+",.ref d1,.ref d2])) d4 (.tup [.str "set",.str "h",.ref d3])=H6 at HO S6;clear L1 L2 L3 L4 l1 l2 l3 l4;refine⟨(by show 2<=sizeLine;decide),fun e1 m1=>⟨(by show 3<=sizeLine;decide),fun e2 m2=>⟨(by show 2<=sizeLine;decide),fun e3 m3=>⟨(by show 2<=sizeLine;decide),fun e4 m4=>⟨(by show 2<=sizeLine;decide),fun e5 m5=>⟨_,rfl,(by show 2<=sizeLine;decide),fun e6 m6=>⟨(by show 4<=sizeLine;decide),fun e7 m7=>?_⟩⟩⟩⟩⟩⟩⟩;have M1:=zD0 m1 (.tup [.str "num",.int 0]);have M2:=zD0 m2 (.tup [.str "set",.str "h",.ref e1]);have M3:=zD0 m3 (.tup [.str "box",.str "h"]);have M4:=zD0 m4 (.tup [.str "true",.ref e3]);have M5:=zD0 m5 (.tup [.str "say",.ref e4]);have M6:=zD0 m6 (.tup [.str "go",.int 1]);have M7:=zD0 m7 (.tup [.ref e2,.ref e5,.ref d4,.ref e6]);have S27:=M2.trans (M3.trans (M4.trans (M5.trans (M6.trans M7))));have S37:=M3.trans (M4.trans (M5.trans (M6.trans M7)));have S47:=M4.trans (M5.trans (M6.trans M7));have S57:=M5.trans (M6.trans M7);have S67:=M6.trans M7;have HH:HelpAt _ e7 (hB "h"):=⟨_,am,fe (.set (S37 _ _ am) (.num (S27 _ _ am))) (fe (.say (S67 _ _ am) (.ask (S57 _ _ am) (.box (S47 _ _ am)))) (fe (HO.mono (bp (M1.trans S27))) (fe (.go (M7 _ _ am)) iO)))⟩
    have S7:=S6.trans (M1.trans S27);generalize upd (upd (upd (upd (upd (upd (upd H6 e1 (.tup [.str "num",.int 0])) e2 (.tup [.str "set",.str "h",.ref e1])) e3 (.tup [.str "box",.str "h"])) e4 (.tup [.str "true",.ref e3])) e5 (.tup [.str "say",.ref e4])) e6 (.tup [.str "go",.int 1])) e7 (.tup [.ref e2,.ref e5,.ref d4,.ref e6])=H7 at HH S7;obtain⟨rv,hc,RW⟩:=HH;refine⟨_,rfl,_,rfl,g,e7,rv,hB "h",nsB,tsB,3,rfl,G5.same S7,gmB,by decide,hc,RW,EF,by decide,fun a H8 _ S8 W8=>?_,fun e dx H' z=>absurd (by decide) z⟩;rw[resB]at W8;refine⟨(by show 2<=sizeLine;decide),fun b hb=>?_⟩;have I9:=zD0 hb (.tup [.int 729,.non]);refine mK (W8.same I9) am rfl ⟨_,rfl,jK ?_⟩;generalize upd H8 b (.tup [.int 729,.non])=H9 at I9;refine⟨_,rfl,(by show 0<=sizeLine;decide),fun c hc=>?_⟩;have I10:=zD0 hc (.tup []);refine⟨g,c,[],[],nsB,tsB,3,rfl,G5.same (S7.trans (S8.trans (I9.trans I10))),gmB,by decide,am,iO,Bb,by decide,fun a2 H11 _ S11 W11=>?_,fun e dx H' z=>absurd (by decide) z⟩;rw[resI]at W11;refine⟨(by show 6<=sizeLine;decide),fun t1 ht1=>⟨(by show 2<=sizeLine;decide),fun t2 ht2=>?_⟩⟩;have I12:=zD0 ht1 (.tup [.int 0,.int 1,.int 0,.int 0,.int 0,.int 0]);have I13:=zD0 ht2 (.tup [.int 243,.ref t1]);exact mK (W11.same (I12.trans I13)) am ⟨t1,rfl,I13 _ _ am⟩ (q _))) yF)
  (kP (t':=BO) (bV ⟨aR (ax nZ (pv 10) ai (aF _)) (ag (aD lS)) aG⟩
  (bV ⟨ay (i:=14) b7.nd rfl (Or.inl rfl) (aJ ba hr (by decide) rfl (aa (pv 1) (aa ai ae)))⟩
  (bV ⟨ay (i:=11) b7.nd rfl (Or.inl rfl) (gE M GI hr15 rfl TG.mgC bI .nil bY (PAW.out (aj (aW aQ) (aj (aW (aj (aW (aj aU aQ)) (aj (aW (aj aU aQ)) aQ))) (aj cQ aQ)))))⟩
  (bV ⟨ay (i:=15) b7.nd rfl (Or.inl rfl) (wn eI hr (by decide) rfl my (aa (pv 11) (aa (PEW.out (aW (aj (aW (aj aU (aj (aW (aj aU (aj ⟨pv 14⟩ aQ))) aQ))) aQ))) ae)))⟩
  (bV ⟨aR (ax bb (pv 14) ai (aF _)) (ag (aD (fE (jU hr.units) (pv 15) (bE (aa ai (aa iR ae))) (aF _)))) aG⟩
  (tU ⟨aD (fE (jU hr.units) (pv 15) (bE (aa ai (aa (bE (aa ai ae)) ae))) (aF _))⟩)))))) (by
   rintro Dn σ H ⟨x0,x2,x3,x4,x5,x6,x7,x8,x9,x11,x12,x13,x14,x15,f,u,rfl,F0,q⟩;refine⟨_,rfl,rfl,_,rfl,?_⟩
   by_cases cu:V.int u=V.int 7
   . rw [decide_eq_true cu];refine gx ?_;refine⟨_,rfl,f,3,rfl,F0,by decide,by decide,fun c H1 c0 c3 F1 S1=>?_⟩;have c3':c<3:=c3;refine⟨(by show 0<=sizeLine;decide),fun a1 h1=>?_⟩;have I1:=zD0 h1 (.tup []);have g1:upd H1 a1 (.tup []) a1=some (.tup (([]:List Str).map V.str)):=am;generalize upd H1 a1 (.tup [])=H2 at I1 g1;refine⟨(by show 1<=sizeLine;decide),fun b1 k1=>⟨(by show 1<=sizeLine;decide),fun b2 k2=>⟨(by show 2<=sizeLine;decide),fun b3 k3=>?_⟩⟩⟩;have J1:=zD0 k1 (.tup [.str "yes"]);have J2:=zD0 k2 (.tup [.str "no"]);have J3:=zD0 k3 (.tup [.ref b1,.ref b2]);have TS:TreesAt _ [V.ref b1,V.ref b2] [.yes,.no]:=.cons (.yes (J3 _ _ (J2 _ _ am))) (.cons (.no (J3 _ _ am)) .nil);refine fun g dx nx ndx _=>rb (ns:=[]) (ts:=[.yes,.no]) (J3 _ _ (J2 _ _ (J1 _ _ g1))) am TS gmC .nil nx ndx fun H5 S5 G5=>⟨rfl,?_⟩
     refine⟨_,rfl,_,rfl,(by show 2<=sizeLine;decide),fun d1 l1=>⟨(by show 2<=sizeLine;decide),fun d2 l2=>⟨(by show 1<=sizeLine;decide),fun d3 l3=>?_⟩⟩⟩;have L1:=zD0 l1 (.tup [.str "num",.int c]);have L2:=zD0 l2 (.tup [.str "say",.ref d1]);have L3:=zD0 l3 (.tup [.ref d2]);refine⟨g,d3,[.ref d2],hC c,[],[.yes,.no],3989,rfl,G5.same (L1.trans (L2.trans L3)),gmC,by decide,am,fe (.say (L3 _ _ am) (.num (L3 _ _ (L2 _ _ am)))) iO,ED,by decide,fun a H7 _ S7 W7=>?_,fun e dx H' z=>absurd (by decide) z⟩;rw[resC c0 c3']at W7;refine⟨_,rfl,rfl,_,rfl,?_⟩
     by_cases h1:c=1
     . rw[zB0 h1]at W7;refine bz (by rw[h1]) ?_;refine⟨_,rfl,(by show 2<=sizeLine;decide),fun b hb=>?_⟩;exact mK (W7.same (zD0 hb _)) am rfl (q _)
     . rw[zA0 h1]at W7;refine aI (fun z=>h1 (V.int.inj z)) ?_;refine⟨_,rfl,(by show 1<=sizeLine;decide),fun t1 ht1=>⟨(by show 2<=sizeLine;decide),fun t2 ht2=>?_⟩⟩;have I12:=zD0 ht1 (.tup [.int 0]);have I13:=zD0 ht2 (.tup [.int 0,.ref t1]);exact mK (W7.same (I12.trans I13)) am ⟨t1,rfl,I13 _ _ am⟩ (q _)
   . rw[decide_eq_false cu];exact jK (q _)))))) (by
   rintro Dn σ H ⟨x0,x2,x3,x4,x5,x6,x7,x8,x9,x10,x11,x12,x13,x14,x15,f,rfl,F0,q⟩;refine⟨_,rfl,f,16,rfl,F0,by decide,by decide,fun u H1 _ _ F1 S1=>?_⟩;have E1:BO Dn [x0,some (.ref f),x2,x3,x4,x5,x6,x7,x8,x9,some (.int u),x11,x12,x13,x14,x15] H1:=⟨_,_,_,_,_,_,_,_,_,_,_,_,_,_,f,u,rfl,F1,q⟩
   refine⟨_,rfl,rfl,_,rfl,?_⟩
   by_cases c9:V.int u=V.int 9
   . exact bz c9 ⟨_,_,_,_,_,_,_,_,_,_,_,_,_,_,f,u,rfl,F1,q⟩
   . refine aI c9 ?_;refine⟨_,rfl,rfl,_,rfl,?_⟩
     by_cases c11:V.int u=V.int 11
     . exact bz c11 ⟨_,_,_,_,_,_,_,_,_,_,_,_,_,_,f,u,rfl,F1,q⟩
     . exact aI c11 ⟨_,_,_,_,_,_,_,_,_,_,_,_,_,_,f,u,rfl,F1,q⟩)))))) (by
   rintro Dn σ H ⟨x0,x4,x7,x8,x9,x10,x11,x12,x13,x14,x15,f,na,ta,c,p,ns,tv,ts,rfl,hna,hta,TS,k,n6,nd,c0,c7,ec,pw,p4,nf,tf,F0,q⟩;have p2:=k.p2;refine⟨_,rfl,c,rfl,by omega,by omega,eB (n:=c.toNat) (fun i σ H'=>∃y8:Option V,σ=[x0,some (.ref f),some (.int c),some (.int p),x4,some (.ref na),some (.ref ta),some (.int (p ^ i)),y8,x9,x10,x11,x12,x13,x14,x15]/\H'=H) ⟨x8,by rw[Int.pow_zero];rfl,rfl⟩ ?_ ?_⟩
   . rintro i σ H1 hi ⟨y8,rfl,rfl⟩;refine⟨_,rfl,_,rfl,_,_,rfl,rfl,.inr ⟨by omega,by omega⟩,?_⟩;refine⟨some (.int (0+(i:Int))),?_,rfl⟩;rw[Int.pow_succ];rfl
   rintro σ H1 ⟨y8,rfl,rfl⟩;refine⟨(by show 0<=sizeLine;decide),fun e0 h0=>?_⟩;have I1:=zD0 h0 (.tup []);have g1:upd H1 e0 (.tup []) e0=some (.tup []):=am;generalize upd H1 e0 (.tup [])=H2 at I1 g1;refine rdA fun c1 H3 S3 hh=>?_
   refine⟨(by show 2<=sizeLine;decide),fun l hl=>?_⟩;have I4:=zD0 hl (.lst [.ref e0,.ref c1]);have S14:=I1.trans (S3.trans I4);have F4:=F0.same S14;have lf:l≠f:=(F0.same (I1.trans S3)).ne hl;have g4:upd H3 l (.lst [.ref e0,.ref c1]) l=some (.lst [.ref e0,.ref c1]):=am;have HA:=hh.same I4;have H0:HelpAt (upd H3 l (.lst [.ref e0,.ref c1])) e0 []:=⟨[],I4 _ _ (S3 _ _ g1),iO⟩
   generalize upd H3 l (.lst [.ref e0,.ref c1])=H4 at I4 S14 F4 g4 HA H0;refine⟨_,rfl,f,2,rfl,F4,by decide,by decide,fun j H5 j0 j2 F5 S5=>?_⟩;have kT:=jW F4 S5;have j2':j<2:=j2;obtain⟨hp,rows,hj,HP,good⟩:∃(hp:Addr)(rows:List Hr),atI [V.ref e0,V.ref c1] j=some (.ref hp)/\HelpAt H5 hp rows/\∀r∈rows,r.good:=by
    rcases(show j=0∨j=1 by omega)with rfl | rfl
    . exact⟨e0,[],rfl,H0.keep kT,Bb⟩
    . exact⟨c1,hA,rfl,HA.keep kT,Ba⟩
   refine⟨l,_,_,_,rfl,rfl,zI0 (S5 _ _ lf g4),hj,?_⟩;have hna5:=S5 _ _ nf (S14 _ _ hna);have hta5:=S5 _ _ tf (S14 _ _ hta);have TS5:=(TS.mono (bp S14)).mono kT;refine⟨_,rfl,na,_,rfl,.inl ⟨zI0 hna5,fun a ha=>?_⟩⟩;have Ga:=zD0 ha (.tup (ns.map V.str));refine⟨_,rfl,ta,_,rfl,.inl ⟨zI0 (Ga _ _ hta5),fun b hb=>?_⟩⟩;have Gb:=zD0 hb (.tup tv);refine⟨_,rfl,fun g dx nx ndx _=>rb (Gb _ _ am) am (TS5.mono (bp (Ga.trans Gb))) k nd nx ndx fun H7 S7 G7=>⟨rfl,?_⟩⟩;have S57:=(Ga.trans Gb).trans S7;obtain⟨rv,hc,RW⟩:=HP.same S57;refine⟨_,rfl,_,rfl,g,hp,rv,rows,ns,ts,p,by rw[ec];rfl,G7,k,n6,hc,RW,good,by rw[ec];exact pow56 (by omega) p4 (by omega),by rw[ec];exact pw,fun H8 S8=>⟨_,rfl,gx ?_⟩⟩;exact⟨_,_,_,_,_,_,_,_,_,_,_,_,_,_,_,f,rfl,(F5.same S57).same S8,q⟩))))) (by
   rintro Dn σ H ⟨x0,x5,x6,x7,x8,x9,x10,x11,x12,x13,x14,x15,f,c,p,m,rfl,Z,F0,q⟩;have c1:=Z.c1;have c7:=Z.c7;have p3:=Z.p3;have p4:=Z.p4;have m1:=Z.m1;have m2:=Z.m2;have m7:=Z.m7;refine⟨_,rfl,_,rfl,_,rfl,_,_,rfl,rfl,_,_,rfl,rfl,f,c-m+1,rfl,F0,by omega,by omega,fun nl ns H2 nl0 nlf hnl nsl nok nnd F2 S2=>?_⟩;refine⟨_,rfl,m,rfl,by omega,by omega,fun D hD=>?_⟩;have Df:=F2.ne hD;have nD:nl≠D:=aN hnl hD;have GD:=zD0 hD (.lst []);refine fk (n:=m.toNat) (fun i H'=>∃(tv:List V)(ts:List Tr),H' D=some (.lst tv)/\TreesAt H' tv ts/\ts.length=i/\(∀t∈ts,Ff ns t)/\FeedAt H' f/\SameBut f H2 H') ⟨[],[],am,.nil,rfl,(fun t ht=>by cases ht),F2.same GD,zL0 GD⟩ ?_ ?_
   . rintro i H4 hi ⟨tv,ts,hD4,TS,tl,tok,F4,S4⟩;have hi':i<m.toNat:=hi;refine⟨(by show 1<=sizeLine;decide),fun y1 k1=>⟨(by show 1<=sizeLine;decide),fun y2 k2=>⟨(by show 2<=sizeLine;decide),fun l hl=>?_⟩⟩⟩;have J1:=zD0 k1 (.tup [.str "yes"]);have J2:=zD0 k2 (.tup [.str "no"]);have J3:=zD0 hl (.lst [.ref y1,.ref y2]);have S45:=J1.trans (J2.trans J3);have F5:=F4.same S45;have lf:l≠f:=(F4.same (J1.trans J2)).ne hl;have t1:=J3 _ _ (J2 _ _ (am (H:=H4) (a:=y1) (o:=.tup [.str "yes"])));have t2:=J3 _ _ (am (H:=upd H4 y1 (.tup [.str "yes"])) (a:=y2) (o:=.tup [.str "no"]));have g5:upd (upd (upd H4 y1 (.tup [.str "yes"])) y2 (.tup [.str "no"])) l (.lst [.ref y1,.ref y2]) l=some (.lst [.ref y1,.ref y2]):=am;generalize upd (upd (upd H4 y1 (.tup [.str "yes"])) y2 (.tup [.str "no"])) l (.lst [.ref y1,.ref y2])=H5 at S45 F5 t1 t2 g5 J3;refine⟨_,rfl,f,2,rfl,F5,by decide,by decide,fun j H6 j0 j2 F6 S6=>?_⟩;have kT:=jW F5 S6;have j2':j<2:=j2;obtain⟨yv,t,hj,Ty,Lt⟩:∃(yv:Addr) (t:Tr),atI [V.ref y1,V.ref y2] j=some (.ref yv)/\TreeAt H6 (.ref yv) t/\Ff ns t:=by
      rcases(show j=0∨j=1 by omega)with rfl | rfl
      . exact⟨y1,.yes,rfl,.yes (kT _ _ t1),.inl rfl⟩
      . exact⟨y2,.no,rfl,.no (kT _ _ t2),.inr (.inl rfl)⟩
     have S46:SameBut f H4 H6:=(zL0 S45).trans S6;have hD6:=S46 D _ Df hD4;have vl:=TS.length;refine⟨l,_,_,_,rfl,rfl,zI0 (S6 _ _ lf g5),hj,_,hD6,bi (by omega),Nx.of hi ⟨tv++[.ref yv],ts++[t],am,?_,?_,?_,iX F6 Df,?_⟩⟩
     . have k:=jE (H:=H6) (b:=D) (ys:=tv) (zs:=tv++[.ref yv]) hD6;exact(((TS.mono (bp S45)).mono kT).mono k).append (.cons (Ty.mono k) .nil)
     . rw[zN0,qH0,tl]
     . intro u hu;rcases qL0 hu with h | h
       . exact tok u h
       . rw[zT0 h];exact Lt
     . intro b o hb eb;rw[aq (aN eb hD)];exact S46 b o hb (S4 b o hb eb)
   rintro H4 ⟨tv,ts,hD4,TS,tl,tok,F4,S4⟩;have hnl4:=S4 nl _ nlf hnl;have tl':ts.length=m.toNat:=tl;have n6:ns.length<=6:=by omega
   have vl:=TS.length;refine⟨_,rfl,(by show 0<=sizeLine;decide),fun e0 he0=>?_⟩;have I5:=zD0 he0 (.lst []);have g5:upd H4 e0 (.lst []) e0=some (.lst []):=am;have F5:=F4.same I5;have hnl5:=I5 _ _ hnl4;have hD5:=I5 _ _ hD4;have TS5:=TS.mono (bp I5);generalize upd H4 e0 (.lst [])=H5 at I5 g5 F5 hnl5 hD5 TS5;refine⟨_,_,.lst (zI0 hnl5) (sg _),.lst (zI0 g5) .nil,xk nok,uM,_,rfl,?_⟩;rw[EJ]
   by_cases cn:ns=[]
   . rw[decide_eq_true cn];refine gx ?_;exact⟨_,_,_,_,_,_,_,_,_,_,_,f,nl,D,c,p,ns,tv,ts,rfl,hnl5,hD5,TS5,gm56 Z.pp p3 p4 n6 nok (by omega) (by omega) tok,n6,nnd,by omega,c7,Bw nsl tl' m1 m2 c1,Z.pw,p4,nlf,Df,F5,q⟩
   . rw [decide_eq_false cn];refine jK ?_;have n0:0<ns.length:=List.length_pos_iff.mpr cn;have el:((ns.map V.str).length:Int)=(ns.length:Int):=by rw[zG0]
     refine ⟨_,rfl,_,rfl,_,rfl,nl,_,rfl,.inl (zI0 hnl5),f,_,rfl,F5,by omega,by omega,fun d H6 d0 d1 F6 S6=>?_⟩;have d1':d<((ns.map V.str).length:Int):=d1;obtain⟨x,hx,xm⟩:=wS (l:=ns) (i:=d) d0 (by omega);have hx2:atI (ns.map V.str) d=some (.str x):=by
      obtain⟨dn,rfl⟩:∃dn:Nat,d=(dn:Int):=⟨d.toNat,by omega⟩
      have hdl:dn<ns.length:=by omega
      refine cM ?_;have h2:=hx;unfold atI ixN at h2;rw[zB0 d0,zB0 (by omega),qS0]at h2;have h3:ns[dn]?=some x:=h2;rw[qA0,h3];rfl
     refine⟨nl,_,_,_,rfl,rfl,zI0 (S6 _ _ nlf hnl5),hx2,(by show 2<=sizeLine;decide),fun t ht=>?_⟩;have I7:=zD0 ht (.tup [.str "is",.str x]);have Tx:TreeAt (upd H6 t (.tup [.str "is",.str x])) (.ref t) (.is x):=.is am;have S57:SameBut f H5 (upd H6 t (.tup [.str "is",.str x])):=S6.trans (zL0 I7);have F7:=F6.same I7;generalize upd H6 t (.tup [.str "is",.str x])=H7 at I7 Tx S57 F7;have hD7:=S57 D _ Df hD5;have kT:=jW F5 S57;refine⟨_,rfl,D,tv,0,0,rfl,rfl,hD7,ixN0 (by omega),?_⟩;have k8:=jE (H:=H7) (b:=D) (ys:=tv) (zs:=tv.set 0 (.ref t)) hD7;refine⟨_,_,_,_,_,_,_,_,_,_,_,f,nl,D,c,p,ns,tv.set 0 (.ref t),ts.set 0 (.is x),rfl,?_,am,((TS5.mono kT).mono k8).put0 (Tx.mono k8),gm56 Z.pp p3 p4 n6 nok (by rw[List.length_set];omega) (by rw[List.length_set];omega) (fun u hu=>?_),n6,nnd,by omega,c7,Bw nsl (by rw[List.length_set];exact tl') m1 m2 c1,Z.pw,p4,nlf,Df,iX F7 Df,q⟩
     . rw[aq nD];exact S57 nl _ nlf hnl5
     . rcases List.mem_or_eq_of_mem_set hu with h | h
       . exact tok u h
       . rw[h];exact .inr (.inr ⟨x,xm,rfl⟩)))))))),?_⟩
 refine⟨_,rfl,a,sn,1,rfl,hS,h63,by decide,by decide,fun f H1 f0 S1 F1=>?_⟩;refine⟨_,rfl,f,rfl,F1,fun t c p H2 ht c1 c7 pp p3 p4 pw F2 S2=>?_⟩;refine⟨t,_,rfl,zE0 ht,rfl,_,_,rfl,_,_,rfl,rfl,?_⟩;refine⟨_,rfl,f,2,rfl,F2,by decide,by decide,fun d H3 d0 d2 F3 S3=>?_⟩;have d2':d<2:=d2;refine⟨_,_,rfl,rfl,?_⟩;refine⟨_,rfl,rfl,_,rfl,?_⟩
 by_cases cc:V.int c=V.int 7
 . exact bz cc ⟨_,_,_,_,_,_,_,_,_,_,_,_,f,c,p,2,rfl,⟨c1,c7,pp,p3,p4,pw,by decide,by decide,fun _=>rfl⟩,F3,q⟩
 . exact aI cc ⟨_,_,_,_,_,_,_,_,_,_,_,_,f,c,p,1+d,rfl,⟨c1,c7,pp,p3,p4,pw,by omega,by omega,fun z=>absurd (congrArg V.int z) cc⟩,F3,q⟩
end
theorem clsfc {K:W.Frag} {C g:Addr} {m:Str} (h:W.findCls K (.ref C) (.type "type") m=some (.val (.ref g))):(match W.findCls K (.ref C) (.type "type") m with | some (.val v)=>some v | _=>none)=some (.ref g):=by
 rw[h]
end
theorem all_mk {l:PySem.W.OpenLaw} {w:World} {K:W.Frag} {h:Heap} {mg:Str->Option Value} {fa f0 f1 f2 f3 f4 f5 f6 f7 f8 f9 f10 f11 f12 f13 f14 f15 f16 f17 f18 f19 f20 f21 f22 f23 f24 f25 f26 f27 f28 f29 f30 f31 f32 f33 f34 f35 f36 f37 f38 f39 f40:Addr} (X:K.In h) (G:h.Ns mainGlobals mg) (hfa:mg "law"=some (.ref fa))
 {od0 an0 od1 an1 od2 an2 od3 an3 od4 an4 od5 an5 od6 an6 od7 an7 od8 an8 od9 an9 od10 an10 od11 an11 od12 an12 od13 an13 od14 an14 od15 an15 od16 an16 od17 an17 od18 an18 od19 an19 od20 an20 od21 an21 od22 an22 od23 an23 od24 an24 od25 an25 od26 an26 od27 an27 od28 an28 od29 an29 od30 an30 od31 an31 od32 an32 od33 an33 od34 an34 od35 an35 od36 an36 od37 an37 od38 an38 od39 an39 od40 an40:Option Addr} {sl0 sl1 sl2 sl3 sl4 sl5 sl6 sl7 sl8 sl9 sl10 sl11 sl12 sl13 sl14 sl15 sl16 sl17 sl18 sl19 sl20 sl21 sl22 sl23 sl24 sl25 sl26 sl27 sl28 sl29 sl30 sl31 sl32 sl33 sl34 sl35 sl36 sl37 sl38 sl39 sl40:Array (Option Value)} {oc0 kV0 dc0 pm0 cd0 ct0 oc1 kV1 dc1 pm1 cd1 ct1 oc2 kV2 dc2 pm2 cd2 ct2 oc3 kV3 dc3 pm3 cd3 ct3 oc4 kV4 dc4 pm4 cd4 ct4 oc5 kV5 dc5 pm5 cd5 ct5 oc6 kV6 dc6 pm6 cd6 ct6 oc7 kV7 dc7 pm7 cd7 ct7 oc8 kV8 dc8 pm8 cd8 ct8 oc9 kV9 dc9 pm9 cd9 ct9 oc10 kV10 dc10 pm10 cd10 ct10 oc11 kV11 dc11 pm11 cd11 ct11 oc12 kV12 dc12 pm12 cd12 ct12 oc13 kV13 dc13 pm13 cd13 ct13 oc14 kV14 dc14 pm14 cd14 ct14 oc15 kV15 dc15 pm15 cd15 ct15 oc16 kV16 dc16 pm16 cd16 ct16 oc17 kV17 dc17 pm17 cd17 ct17 oc18 kV18 dc18 pm18 cd18 ct18 oc19 kV19 dc19 pm19 cd19 ct19 oc20 kV20 dc20 pm20 cd20 ct20 oc21 kV21 dc21 pm21 cd21 ct21 oc22 kV22 dc22 pm22 cd22 ct22 oc23 kV23 dc23 pm23 cd23 ct23 oc24 kV24 dc24 pm24 cd24 ct24 oc25 kV25 dc25 pm25 cd25 ct25 oc26 kV26 dc26 pm26 cd26 ct26 oc27 kV27 dc27 pm27 cd27 ct27 oc28 kV28 dc28 pm28 cd28 ct28 oc29 kV29 dc29 pm29 cd29 ct29 oc30 kV30 dc30 pm30 cd30 ct30 oc31 kV31 dc31 pm31 cd31 ct31 oc32 kV32 dc32 pm32 cd32 ct32 oc33 kV33 dc33 pm33 cd33 ct33 oc34 kV34 dc34 pm34 cd34 ct34 oc35 kV35 dc35 pm35 cd35 ct35 oc36 kV36 dc36 pm36 cd36 ct36 oc37 kV37 dc37 pm37 cd37 ct37 oc38 kV38 dc38 pm38 cd38 ct38 oc39 kV39 dc39 pm39 cd39 ct39 oc40 kV40 dc40 pm40 cd40 ct40:Value}
 (a0:W.nsIn K mainGlobals "is_field"=some (some (.ref f0))) (l0:K.lookup f0=some ⟨oc0,od0,.func (W.fnOf "is_field" "is_field" (aE eY) (aB eY) (af eY) .none kV0 dc0 pm0 an0 cd0 ct0),sl0⟩) (c0:W.codeIn K cd0 "is_field"=true) (k0:W.keepIn K (.ref f0)=true)
 (a1:W.nsIn K mainGlobals "inverse_of"=some (some (.ref f1))) (l1:K.lookup f1=some ⟨oc1,od1,.func (W.fnOf "inverse_of" "inverse_of" (aE dF) (aB dF) (af dF) .none kV1 dc1 pm1 an1 cd1 ct1),sl1⟩) (c1:W.codeIn K cd1 "inverse_of"=true) (k1:W.keepIn K (.ref f1)=true)
 (a2:W.nsIn K mainGlobals "is_number"=some (some (.ref f2))) (l2:K.lookup f2=some ⟨oc2,od2,.func (W.fnOf "is_number" "is_number" (aE dX) (aB dX) (af dX) .none kV2 dc2 pm2 an2 cd2 ct2),sl2⟩) (c2:W.codeIn K cd2 "is_number"=true) (k2:W.keepIn K (.ref f2)=true)
 (a3:W.nsIn K mainGlobals "value_at"=some (some (.ref f3))) (l3:K.lookup f3=some ⟨oc3,od3,.func (W.fnOf "value_at" "value_at" (aE eT) (aB eT) (af eT) .none kV3 dc3 pm3 an3 cd3 ct3),sl3⟩) (c3:W.codeIn K cd3 "value_at"=true) (k3:W.keepIn K (.ref f3)=true)
 (a4:W.nsIn K mainGlobals "both_ends"=some (some (.ref f4))) (l4:K.lookup f4=some ⟨oc4,od4,.func (W.fnOf "both_ends" "both_ends" (aE ei) (aB ei) (af ei) .none kV4 dc4 pm4 an4 cd4 ct4),sl4⟩) (c4:W.codeIn K cd4 "both_ends"=true) (k4:W.keepIn K (.ref f4)=true)
 (a5:W.nsIn K mainGlobals "value_behind"=some (some (.ref f5))) (l5:K.lookup f5=some ⟨oc5,od5,.func (W.fnOf "value_behind" "value_behind" (aE cS) (aB cS) (af cS) .none kV5 dc5 pm5 an5 cd5 ct5),sl5⟩) (c5:W.codeIn K cd5 "value_behind"=true) (k5:W.keepIn K (.ref f5)=true)
 (a6:W.nsIn K mainGlobals "products"=some (some (.ref f6))) (l6:K.lookup f6=some ⟨oc6,od6,.func (W.fnOf "products" "products" (aE eW) (aB eW) (af eW) .none kV6 dc6 pm6 an6 cd6 ct6),sl6⟩) (c6:W.codeIn K cd6 "products"=true) (k6:W.keepIn K (.ref f6)=true)
 (a7:W.nsIn K mainGlobals "inverse_factorials"=some (some (.ref f7))) (l7:K.lookup f7=some ⟨oc7,od7,.func (W.fnOf "inverse_factorials" "inverse_factorials" (aE bQ) (aB bQ) (af bQ) .none kV7 dc7 pm7 an7 cd7 ct7),sl7⟩) (c7:W.codeIn K cd7 "inverse_factorials"=true) (k7:W.keepIn K (.ref f7)=true)
 (a8:W.nsIn K mainGlobals "all_settings"=some (some (.ref f8))) (l8:K.lookup f8=some ⟨oc8,od8,.func (W.fnOf "all_settings" "all_settings" (aE cX) (aB cX) (af cX) .none kV8 dc8 pm8 an8 cd8 ct8),sl8⟩) (c8:W.codeIn K cd8 "all_settings"=true) (k8:W.keepIn K (.ref f8)=true)
 (a9:W.nsIn K mainGlobals "holds_at"=some (some (.ref f9))) (l9:K.lookup f9=some ⟨oc9,od9,.func (W.fnOf "holds_at" "holds_at" (aE dQ) (aB dQ) (af dQ) .none kV9 dc9 pm9 an9 cd9 ct9),sl9⟩) (c9:W.codeIn K cd9 "holds_at"=true) (k9:W.keepIn K (.ref f9)=true)
 (a10:W.nsIn K mainGlobals "joined"=some (some (.ref f10))) (l10:K.lookup f10=some ⟨oc10,od10,.func (W.fnOf "joined" "joined" (aE gT) (aB gT) (af gT) .none kV10 dc10 pm10 an10 cd10 ct10),sl10⟩) (c10:W.codeIn K cd10 "joined"=true) (k10:W.keepIn K (.ref f10)=true)
 (a11:W.nsIn K mainGlobals "count_of"=some (some (.ref f11))) (l11:K.lookup f11=some ⟨oc11,od11,.func (W.fnOf "count_of" "count_of" (aE eZ) (aB eZ) (af eZ) .none kV11 dc11 pm11 an11 cd11 ct11),sl11⟩) (c11:W.codeIn K cd11 "count_of"=true) (k11:W.keepIn K (.ref f11)=true)
 (a12:W.nsIn K mainGlobals "trees_within"=some (some (.ref f12))) (l12:K.lookup f12=some ⟨oc12,od12,.func (W.fnOf "trees_within" "trees_within" (aE cU) (aB cU) (af cU) .none kV12 dc12 pm12 an12 cd12 ct12),sl12⟩) (c12:W.codeIn K cd12 "trees_within"=true) (k12:W.keepIn K (.ref f12)=true)
 (a13:W.nsIn K mainGlobals "size_of"=some (some (.ref f13))) (l13:K.lookup f13=some ⟨oc13,od13,.func (W.fnOf "size_of" "size_of" (aE eV) (aB eV) (af eV) .none kV13 dc13 pm13 an13 cd13 ct13),sl13⟩) (c13:W.codeIn K cd13 "size_of"=true) (k13:W.keepIn K (.ref f13)=true)
 (a14:W.nsIn K mainGlobals "names_in"=some (some (.ref f14))) (l14:K.lookup f14=some ⟨oc14,od14,.func (W.fnOf "names_in" "names_in" (aE dP) (aB dP) (af dP) .none kV14 dc14 pm14 an14 cd14 ct14),sl14⟩) (c14:W.codeIn K cd14 "names_in"=true) (k14:W.keepIn K (.ref f14)=true)
 (a15:W.nsIn K mainGlobals "all_sizes"=some (some (.ref f15))) (l15:K.lookup f15=some ⟨oc15,od15,.func (W.fnOf "all_sizes" "all_sizes" (aE eA) (aB eA) (af eA) .none kV15 dc15 pm15 an15 cd15 ct15),sl15⟩) (c15:W.codeIn K cd15 "all_sizes"=true) (k15:W.keepIn K (.ref f15)=true)
 (a16:W.nsIn K mainGlobals "counts_of"=some (some (.ref f16))) (l16:K.lookup f16=some ⟨oc16,od16,.func (W.fnOf "counts_of" "counts_of" (aE eg) (aB eg) (af eg) .none kV16 dc16 pm16 an16 cd16 ct16),sl16⟩) (c16:W.codeIn K cd16 "counts_of"=true) (k16:W.keepIn K (.ref f16)=true)
 (a17:W.nsIn K mainGlobals "true_row"=some (some (.ref f17))) (l17:K.lookup f17=some ⟨oc17,od17,.func (W.fnOf "true_row" "true_row" (aE eU) (aB eU) (af eU) .none kV17 dc17 pm17 an17 cd17 ct17),sl17⟩) (c17:W.codeIn K cd17 "true_row"=true) (k17:W.keepIn K (.ref f17)=true)
 (a18:W.nsIn K mainGlobals "value_of"=some (some (.ref f18))) (l18:K.lookup f18=some ⟨oc18,od18,.func (W.fnOf "value_of" "value_of" (aE dO) (aB dO) (af dO) .none kV18 dc18 pm18 an18 cd18 ct18),sl18⟩) (c18:W.codeIn K cd18 "value_of"=true) (k18:W.keepIn K (.ref f18)=true)
 (a19:W.nsIn K mainGlobals "op_value"=some (some (.ref f19))) (l19:K.lookup f19=some ⟨oc19,od19,.func (W.fnOf "op_value" "op_value" (aE eX) (aB eX) (af eX) .none kV19 dc19 pm19 an19 cd19 ct19),sl19⟩) (c19:W.codeIn K cd19 "op_value"=true) (k19:W.keepIn K (.ref f19)=true)
 (a20:W.nsIn K mainGlobals "divided"=some (some (.ref f20))) (l20:K.lookup f20=some ⟨oc20,od20,.func (W.fnOf "divided" "divided" (aE gg) (aB gg) (af gg) .none kV20 dc20 pm20 an20 cd20 ct20),sl20⟩) (c20:W.codeIn K cd20 "divided"=true) (k20:W.keepIn K (.ref f20)=true)
 (a21:W.nsIn K mainGlobals "power"=some (some (.ref f21))) (l21:K.lookup f21=some ⟨oc21,od21,.func (W.fnOf "power" "power" (aE ji) (aB ji) (af ji) .none kV21 dc21 pm21 an21 cd21 ct21),sl21⟩) (c21:W.codeIn K cd21 "power"=true) (k21:W.keepIn K (.ref f21)=true)
 (a22:W.nsIn K mainGlobals "rows_of_coins"=some (some (.ref f22))) (l22:K.lookup f22=some ⟨oc22,od22,.func (W.fnOf "rows_of_coins" "rows_of_coins" (aE cG) (aB cG) (af cG) .none kV22 dc22 pm22 an22 cd22 ct22),sl22⟩) (c22:W.codeIn K cd22 "rows_of_coins"=true) (k22:W.keepIn K (.ref f22)=true)
 (a23:W.nsIn K mainGlobals "asked_once"=some (some (.ref f23))) (l23:K.lookup f23=some ⟨oc23,od23,.func (W.fnOf "asked_once" "asked_once" (aE dG) (aB dG) (af dG) .none kV23 dc23 pm23 an23 cd23 ct23),sl23⟩) (c23:W.codeIn K cd23 "asked_once"=true) (k23:W.keepIn K (.ref f23)=true)
 (a24:W.nsIn K mainGlobals "weighed"=some (some (.ref f24))) (l24:K.lookup f24=some ⟨oc24,od24,.func (W.fnOf "weighed" "weighed" (aE fZ) (aB fZ) (af fZ) .none kV24 dc24 pm24 an24 cd24 ct24),sl24⟩) (c24:W.codeIn K cd24 "weighed"=true) (k24:W.keepIn K (.ref f24)=true)
 (a25:W.nsIn K mainGlobals "weighed_behind"=some (some (.ref f25))) (l25:K.lookup f25=some ⟨oc25,od25,.func (W.fnOf "weighed_behind" "weighed_behind" (aE bZ) (aB bZ) (af bZ) .none kV25 dc25 pm25 an25 cd25 ct25),sl25⟩) (c25:W.codeIn K cd25 "weighed_behind"=true) (k25:W.keepIn K (.ref f25)=true)
 (a26:W.nsIn K mainGlobals "first_row"=some (some (.ref f26))) (l26:K.lookup f26=some ⟨oc26,od26,.func (W.fnOf "first_row" "first_row" (aE dY) (aB dY) (af dY) .none kV26 dc26 pm26 an26 cd26 ct26),sl26⟩) (c26:W.codeIn K cd26 "first_row"=true) (k26:W.keepIn K (.ref f26)=true)
 (a27:W.nsIn K mainGlobals "worth_of"=some (some (.ref f27))) (l27:K.lookup f27=some ⟨oc27,od27,.func (W.fnOf "worth_of" "worth_of" (aE dN) (aB dN) (af dN) .none kV27 dc27 pm27 an27 cd27 ct27),sl27⟩) (c27:W.codeIn K cd27 "worth_of"=true) (k27:W.keepIn K (.ref f27)=true)
 (a28:W.nsIn K mainGlobals "joined_worth"=some (some (.ref f28))) (l28:K.lookup f28=some ⟨oc28,od28,.func (W.fnOf "joined_worth" "joined_worth" (aE cV) (aB cV) (af cV) .none kV28 dc28 pm28 an28 cd28 ct28),sl28⟩) (c28:W.codeIn K cd28 "joined_worth"=true) (k28:W.keepIn K (.ref f28)=true)
 (a29:W.nsIn K mainGlobals "degree_of"=some (some (.ref f29))) (l29:K.lookup f29=some ⟨oc29,od29,.func (W.fnOf "degree_of" "degree_of" (aE dZ) (aB dZ) (af dZ) .none kV29 dc29 pm29 an29 cd29 ct29),sl29⟩) (c29:W.codeIn K cd29 "degree_of"=true) (k29:W.keepIn K (.ref f29)=true)
 (a30:W.nsIn K mainGlobals "look_switches"=some (some (.ref f30))) (l30:K.lookup f30=some ⟨oc30,od30,.func (W.fnOf "look_switches" "look_switches" (aE cH) (aB cH) (af cH) .none kV30 dc30 pm30 an30 cd30 ct30),sl30⟩) (c30:W.codeIn K cd30 "look_switches"=true) (k30:W.keepIn K (.ref f30)=true)
 (a31:W.nsIn K mainGlobals "look_names"=some (some (.ref f31))) (l31:K.lookup f31=some ⟨oc31,od31,.func (W.fnOf "look_names" "look_names" (aE dB) (aB dB) (af dB) .none kV31 dc31 pm31 an31 cd31 ct31),sl31⟩) (c31:W.codeIn K cd31 "look_names"=true) (k31:W.keepIn K (.ref f31)=true)
 (a32:W.nsIn K mainGlobals "look_field"=some (some (.ref f32))) (l32:K.lookup f32=some ⟨oc32,od32,.func (W.fnOf "look_field" "look_field" (aE dC) (aB dC) (af dC) .none kV32 dc32 pm32 an32 cd32 ct32),sl32⟩) (c32:W.codeIn K cd32 "look_field"=true) (k32:W.keepIn K (.ref f32)=true)
 (a33:W.nsIn K mainGlobals "look_size"=some (some (.ref f33))) (l33:K.lookup f33=some ⟨oc33,od33,.func (W.fnOf "look_size" "look_size" (aE dU) (aB dU) (af dU) .none kV33 dc33 pm33 an33 cd33 ct33),sl33⟩) (c33:W.codeIn K cd33 "look_size"=true) (k33:W.keepIn K (.ref f33)=true)
 (a34:W.nsIn K mainGlobals "_law_feed"=some (some (.ref f34))) (l34:K.lookup f34=some ⟨oc34,od34,.func (W.fnOf "_law_feed" "_law_feed" (aE gS) (aB gS) (af gS) .none kV34 dc34 pm34 an34 cd34 ct34),sl34⟩) (c34:W.codeIn K cd34 "_law_feed"=true) (k34:W.keepIn K (.ref f34)=true)
 (a35:W.nsIn K mainGlobals "_law_take"=some (some (.ref f35))) (l35:K.lookup f35=some ⟨oc35,od35,.func (W.fnOf "_law_take" "_law_take" (aE gQ) (aB gQ) (af gQ) .none kV35 dc35 pm35 an35 cd35 ct35),sl35⟩) (c35:W.codeIn K cd35 "_law_take"=true) (k35:W.keepIn K (.ref f35)=true)
 (a36:W.nsIn K mainGlobals "_law_names"=some (some (.ref f36))) (l36:K.lookup f36=some ⟨oc36,od36,.func (W.fnOf "_law_names" "_law_names" (aE bu) (aB bu) (af bu) .none kV36 dc36 pm36 an36 cd36 ct36),sl36⟩) (c36:W.codeIn K cd36 "_law_names"=true) (k36:W.keepIn K (.ref f36)=true)
 (a37:W.nsIn K mainGlobals "_law_is_prime"=some (some (.ref f37))) (l37:K.lookup f37=some ⟨oc37,od37,.func (W.fnOf "_law_is_prime" "_law_is_prime" (aE dE) (aB dE) (af dE) .none kV37 dc37 pm37 an37 cd37 ct37),sl37⟩) (c37:W.codeIn K cd37 "_law_is_prime"=true) (k37:W.keepIn K (.ref f37)=true)
 (a38:W.nsIn K mainGlobals "_law_size"=some (some (.ref f38))) (l38:K.lookup f38=some ⟨oc38,od38,.func (W.fnOf "_law_size" "_law_size" (aE gR) (aB gR) (af gR) .none kV38 dc38 pm38 an38 cd38 ct38),sl38⟩) (c38:W.codeIn K cd38 "_law_size"=true) (k38:W.keepIn K (.ref f38)=true)
 (a39:W.nsIn K mainGlobals "_law_refused"=some (some (.ref f39))) (l39:K.lookup f39=some ⟨oc39,od39,.func (W.fnOf "_law_refused" "_law_refused" (aE dW) (aB dW) (af dW) .none kV39 dc39 pm39 an39 cd39 ct39),sl39⟩) (c39:W.codeIn K cd39 "_law_refused"=true) (k39:W.keepIn K (.ref f39)=true)
 (a40:W.nsIn K mainGlobals "law"=some (some (.ref f40))) (l40:K.lookup f40=some ⟨oc40,od40,.func (W.fnOf "law" "law" (aE kh) (aB kh) (af kh) .none kV40 dc40 pm40 an40 cd40 ct40),sl40⟩) (c40:W.codeIn K cd40 "law"=true) (k40:W.keepIn K (.ref f40)=true)
 {CG gmgI gmgM gmgW gmgC:Addr} {gmodI gmanI gmodM gmanM gmodW gmanW gmodC gmanC:Option Addr} {gmslI gmslM gmslW gmslC:Array (Option Value)} {gmocI gmkVI gmdcI gmpmI gmcdI gmctI gmocM gmkVM gmdcM gmpmM gmcdM gmctM gmocW gmkVW gmdcW gmpmW gmcdW gmctW gmocC gmkVC gmdcC gmpmC gmcdC gmctC:Value}
 {C dbgI dbgW dbgU dbgH dbgT dbgC dbgB dbgR dbgG dbgE dbgN:Addr} {dbodI dbanI dbodW dbanW dbodU dbanU dbodH dbanH dbodT dbanT dbodC dbanC dbodB dbanB dbodR dbanR dbodG dbanG dbodE dbanE dbodN dbanN:Option Addr} {dbslI dbslW dbslU dbslH dbslT dbslC dbslB dbslR dbslG dbslE dbslN:Array (Option Value)} {dbocI dbkVI dbdcI dbpmI dbcdI dbctI dbocW dbkVW dbdcW dbpmW dbcdW dbctW dbocU dbkVU dbdcU dbpmU dbcdU dbctU dbocH dbkVH dbdcH dbpmH dbcdH dbctH dbocT dbkVT dbdcT dbpmT dbcdT dbctT dbocC dbkVC dbdcC dbpmC dbcdC dbctC dbocB dbkVB dbdcB dbpmB dbcdB dbctB dbocR dbkVR dbdcR dbpmR dbcdR dbctR dbocG dbkVG dbdcG dbpmG dbcdG dbctG dbocE dbkVE dbdcE dbpmE dbcdE dbctE dbocN dbkVN dbdcN dbpmN dbcdN dbctN:Value}
 {CA asgI asgP asgC asgN asgR:Addr} {asodI asanI asodP asanP asodC asanC asodN asanN asodR asanR:Option Addr} {asslI asslP asslC asslN asslR:Array (Option Value)} {asocI askVI asdcI aspmI ascdI asctI asocP askVP asdcP aspmP ascdP asctP asocC askVC asdcC aspmC ascdC asctC asocN askVN asdcN aspmN ascdN asctN asocR askVR asdcR aspmR ascdR asctR:Value}
 {CM mcgI mcgS mcgR mcgN:Addr} {mcodI mcanI mcodS mcanS mcodR mcanR mcodN mcanN:Option Addr} {mcslI mcslS mcslR mcslN:Array (Option Value)} {mcocI mckVI mcdcI mcpmI mccdI mcctI mcocS mckVS mcdcS mcpmS mccdS mcctS mcocR mckVR mcdcR mcpmR mccdR mcctR mcocN mckVN mcdcN mcpmN mccdN mcctN:Value}
 {te tm tr:Tok}
 {XA gA TA NA cc0 N0 cc1 N1 cc2 N2 cc3 N3 cc4 N4 cc5 N5 cc6 N6 cc7 N7 cc8 N8 cc9 N9 g9:Addr} {odA anA tdA ddA dd0 dd1 dd2 dd3 dd4 dd5 dd6 dd7 dd8 dd9 od_9 an_9:Option Addr} {slA tslA sl_9:Array (Option Value)} {ocA kVA dcA pmA cdA ctA kV_9 dc_9 pm_9 cd_9 ct_9:Value} {tkA:Tok} {tnA:Nat} {nmA qnA nm0 qn0 nm1 qn1 nm2 qn2 nm3 qn3 nm4 qn4 nm5 qn5 nm6 qn6 nm7 qn7 nm8 qn8 nm9 qn9:Str} {bsA subA bs0 sub0 bs1 sub1 bs2 sub2 bs3 sub3 bs4 sub4 bs5 sub5 bs6 sub6 bs7 sub7 bs8 sub8 bs9 sub9:List Value} {snA sn0 sn1 sn2 sn3 sn4 sn5 sn6 sn7 sn8 sn9:List Str} {abA ab0 ab1 ab2 ab3 ab4 ab5 ab6 ab7 ab8 ab9:Bool} {colA col0 col1 col2 col3 col4 col5 col6 col7 col8 col9:Option Bool} {q0A q1A q2A q3A q5A q00 q10 q20 q30 q50 q01 q11 q21 q31 q51 q02 q12 q22 q32 q52 q03 q13 q23 q33 q53 q04 q14 q24 q34 q54 q05 q15 q25 q35 q55 q06 q16 q26 q36 q56 q07 q17 q27 q37 q57 q08 q18 q28 q38 q58 q09 q19 q29 q39 q59:Option Value}
 (Hx:W.nsIn K mainGlobals "Game"=some (some (.ref CG)))
 (Hy:W.findIn K (.ref CG) "__init__"=some (some (.ref gmgI)))
 (Hz:W.isFn K (.ref gmgI)=true)
 (HB:K.lookup gmgI=some ⟨gmocI,gmodI,.func (W.fnOf "__init__" "Game.__init__" (aE jo) (aB jo) (af jo) .none gmkVI gmdcI gmpmI gmanI gmcdI gmctI),gmslI⟩)
 (HC:W.codeIn K gmcdI "Game.__init__"=true)
 (HD:W.keepIn K (.ref gmgI)=true)
 (HE:W.findIn K (.ref CG) "mix"=some (some (.ref gmgM)))
 (HF:W.isFn K (.ref gmgM)=true)
 (HG:K.lookup gmgM=some ⟨gmocM,gmodM,.func (W.fnOf "mix" "Game.mix" (aE lh) (aB lh) (af lh) .none gmkVM gmdcM gmpmM gmanM gmcdM gmctM),gmslM⟩)
 (HI:W.codeIn K gmcdM "Game.mix"=true)
 (FD:W.keepIn K (.ref gmgM)=true)
 (HJ:W.findIn K (.ref CG) "worth_at"=some (some (.ref gmgW)))
 (HK:W.isFn K (.ref gmgW)=true)
 (HL:K.lookup gmgW=some ⟨gmocW,gmodW,.func (W.fnOf "worth_at" "Game.worth_at" (aE gU) (aB gU) (af gU) .none gmkVW gmdcW gmpmW gmanW gmcdW gmctW),gmslW⟩)
 (HM:W.codeIn K gmcdW "Game.worth_at"=true)
 (FE:W.keepIn K (.ref gmgW)=true)
 (HN:W.findIn K (.ref CG) "coins"=some (some (.ref gmgC)))
 (HQ:W.isFn K (.ref gmgC)=true)
 (HR:K.lookup gmgC=some ⟨gmocC,gmodC,.func (W.fnOf "coins" "Game.coins" (aE gV) (aB gV) (af gV) .none gmkVC gmdcC gmpmC gmanC gmcdC gmctC),gmslC⟩)
 (HS:W.codeIn K gmcdC "Game.coins"=true)
 (FF:W.keepIn K (.ref gmgC)=true)
 (HU:W.plainGet K CG Str.empty=true)
 (FR:W.hasDictIn K CG=true)
 (FS:W.plainOver K CG=true)
 (FT:W.findIn K (.ref CG) "__setattr__"=some (some (.builtin "object.__setattr__")))
 (FU:W.makesIn K CG=true)
 (FV:W.keepIn K (.ref CG)=true)
 (nt:W.findIn K (.ref CG) "switches"=some none)
 (B8:W.findIn K (.ref CG) "trees"=some none)
 (B9:W.findIn K (.ref CG) "field"=some none)
 (q8:W.findIn K (.ref CG) "degrees"=some none)
 (dbgg:W.nsIn K mainGlobals "Doubter"=some (some (.ref C)))
 (dbaI:W.findIn K (.ref C) "__init__"=some (some (.ref dbgI)))
 (dbiI:W.isFn K (.ref dbgI)=true)
 (dblI:K.lookup dbgI=some ⟨dbocI,dbodI,.func (W.fnOf "__init__" "Doubter.__init__" (aE jr) (aB jr) (af jr) .none dbkVI dbdcI dbpmI dbanI dbcdI dbctI),dbslI⟩)
 (dbcI:W.codeIn K dbcdI "Doubter.__init__"=true)
 (dbkI:W.keepIn K (.ref dbgI)=true)
 (dbaW:W.findIn K (.ref C) "waits"=some (some (.ref dbgW)))
 (dbiW:W.isFn K (.ref dbgW)=true)
 (dblW:K.lookup dbgW=some ⟨dbocW,dbodW,.func (W.fnOf "waits" "Doubter.waits" (aE gW) (aB gW) (af gW) .none dbkVW dbdcW dbpmW dbanW dbcdW dbctW),dbslW⟩)
 (dbcW:W.codeIn K dbcdW "Doubter.waits"=true)
 (dbkW:W.keepIn K (.ref dbgW)=true)
 (dbaU:W.findIn K (.ref C) "due"=some (some (.ref dbgU)))
 (dbiU:W.isFn K (.ref dbgU)=true)
 (dblU:K.lookup dbgU=some ⟨dbocU,dbodU,.func (W.fnOf "due" "Doubter.due" (aE lj) (aB lj) (af lj) .none dbkVU dbdcU dbpmU dbanU dbcdU dbctU),dbslU⟩)
 (dbcU:W.codeIn K dbcdU "Doubter.due"=true)
 (dbkU:W.keepIn K (.ref dbgU)=true)
 (dbaH:W.findIn K (.ref C) "hear"=some (some (.ref dbgH)))
 (dbiH:W.isFn K (.ref dbgH)=true)
 (dblH:K.lookup dbgH=some ⟨dbocH,dbodH,.func (W.fnOf "hear" "Doubter.hear" (aE jt) (aB jt) (af jt) .none dbkVH dbdcH dbpmH dbanH dbcdH dbctH),dbslH⟩)
 (dbcH:W.codeIn K dbcdH "Doubter.hear"=true)
 (dbkH:W.keepIn K (.ref dbgH)=true)
 (dbaT:W.findIn K (.ref C) "toss"=some (some (.ref dbgT)))
 (dbiT:W.isFn K (.ref dbgT)=true)
 (dblT:K.lookup dbgT=some ⟨dbocT,dbodT,.func (W.fnOf "toss" "Doubter.toss" (aE jq) (aB jq) (af jq) .none dbkVT dbdcT dbpmT dbanT dbcdT dbctT),dbslT⟩)
 (dbcT:W.codeIn K dbcdT "Doubter.toss"=true)
 (dbkT:W.keepIn K (.ref dbgT)=true)
 (dbaC:W.findIn K (.ref C) "hear_claims"=some (some (.ref dbgC)))
 (dbiC:W.isFn K (.ref dbgC)=true)
 (dblC:K.lookup dbgC=some ⟨dbocC,dbodC,.func (W.fnOf "hear_claims" "Doubter.hear_claims" (aE gh) (aB gh) (af gh) .none dbkVC dbdcC dbpmC dbanC dbcdC dbctC),dbslC⟩)
 (dbcC:W.codeIn K dbcdC "Doubter.hear_claims"=true)
 (dbkC:W.keepIn K (.ref dbgC)=true)
 (dbaB:W.findIn K (.ref C) "begin_rounds"=some (some (.ref dbgB)))
 (dbiB:W.isFn K (.ref dbgB)=true)
 (dblB:K.lookup dbgB=some ⟨dbocB,dbodB,.func (W.fnOf "begin_rounds" "Doubter.begin_rounds" (aE gY) (aB gY) (af gY) .none dbkVB dbdcB dbpmB dbanB dbcdB dbctB),dbslB⟩)
 (dbcB:W.codeIn K dbcdB "Doubter.begin_rounds"=true)
 (dbkB:W.keepIn K (.ref dbgB)=true)
 (dbaR:W.findIn K (.ref C) "hear_row"=some (some (.ref dbgR)))
 (dbiR:W.isFn K (.ref dbgR)=true)
 (dblR:K.lookup dbgR=some ⟨dbocR,dbodR,.func (W.fnOf "hear_row" "Doubter.hear_row" (aE li) (aB li) (af li) .none dbkVR dbdcR dbpmR dbanR dbcdR dbctR),dbslR⟩)
 (dbcR:W.codeIn K dbcdR "Doubter.hear_row"=true)
 (dbkR:W.keepIn K (.ref dbgR)=true)
 (dbaG:W.findIn K (.ref C) "go_on"=some (some (.ref dbgG)))
 (dbiG:W.isFn K (.ref dbgG)=true)
 (dblG:K.lookup dbgG=some ⟨dbocG,dbodG,.func (W.fnOf "go_on" "Doubter.go_on" (aE pH) (aB pH) (af pH) .none dbkVG dbdcG dbpmG dbanG dbcdG dbctG),dbslG⟩)
 (dbcG:W.codeIn K dbcdG "Doubter.go_on"=true)
 (dbkG:W.keepIn K (.ref dbgG)=true)
 (dbaE:W.findIn K (.ref C) "look_at_trees"=some (some (.ref dbgE)))
 (dbiE:W.isFn K (.ref dbgE)=true)
 (dblE:K.lookup dbgE=some ⟨dbocE,dbodE,.func (W.fnOf "look_at_trees" "Doubter.look_at_trees" (aE gX) (aB gX) (af gX) .none dbkVE dbdcE dbpmE dbanE dbcdE dbctE),dbslE⟩)
 (dbcE:W.codeIn K dbcdE "Doubter.look_at_trees"=true)
 (dbkE:W.keepIn K (.ref dbgE)=true)
 (dbaN:W.findIn K (.ref C) "twin"=some (some (.ref dbgN)))
 (dbiN:W.isFn K (.ref dbgN)=true)
 (dblN:K.lookup dbgN=some ⟨dbocN,dbodN,.func (W.fnOf "twin" "Doubter.twin" (aE jp) (aB jp) (af jp) .none dbkVN dbdcN dbpmN dbanN dbcdN dbctN),dbslN⟩)
 (dbcN:W.codeIn K dbcdN "Doubter.twin"=true)
 (dbkN:W.keepIn K (.ref dbgN)=true)
 (dbpg:W.plainGet K C Str.empty=true)
 (dbhdi:W.hasDictIn K C=true)
 (dbpov:W.plainOver K C=true)
 (dbsat:W.findIn K (.ref C) "__setattr__"=some (some (.builtin "object.__setattr__")))
 (dbmki:W.makesIn K C=true)
 (dbkcl:W.keepIn K (.ref C)=true)
 (dbn_game:W.findIn K (.ref C) "game"=some none)
 (dbn_awaited:W.findIn K (.ref C) "awaited"=some none)
 (dbn_claims:W.findIn K (.ref C) "claims"=some none)
 (dbn_s:W.findIn K (.ref C) "s"=some none)
 (dbn_heard:W.findIn K (.ref C) "heard"=some none)
 (dbn_tossed:W.findIn K (.ref C) "tossed"=some none)
 (dbn_held:W.findIn K (.ref C) "held"=some none)
 (dbn_places:W.findIn K (.ref C) "places"=some none)
 (HV:W.nsIn K mainGlobals "Asking"=some (some (.ref CA)))
 (HW:W.findIn K (.ref CA) "__init__"=some (some (.ref asgI)))
 (HX:W.isFn K (.ref asgI)=true)
 (HY:K.lookup asgI=some ⟨asocI,asodI,.func (W.fnOf "__init__" "Asking.__init__" (aE jv) (aB jv) (af jv) .none askVI asdcI aspmI asanI ascdI asctI),asslI⟩)
 (HZ:W.codeIn K ascdI "Asking.__init__"=true)
 (Ia:W.keepIn K (.ref asgI)=true)
 (Ib:W.findIn K (.ref CA) "plain_value"=some (some (.ref asgP)))
 (Ic:W.isFn K (.ref asgP)=true)
 (Id:K.lookup asgP=some ⟨asocP,asodP,.func (W.fnOf "plain_value" "Asking.plain_value" (aE gZ) (aB gZ) (af gZ) .none askVP asdcP aspmP asanP ascdP asctP),asslP⟩)
 (Ie:W.codeIn K ascdP "Asking.plain_value"=true)
 (FG:W.keepIn K (.ref asgP)=true)
 (Ig:W.findIn K (.ref CA) "coin_at"=some (some (.ref asgC)))
 (Ih:W.isFn K (.ref asgC)=true)
 (Ii:K.lookup asgC=some ⟨asocC,asodC,.func (W.fnOf "coin_at" "Asking.coin_at" (aE jw) (aB jw) (af jw) .none askVC asdcC aspmC asanC ascdC asctC),asslC⟩)
 (Ij:W.codeIn K ascdC "Asking.coin_at"=true)
 (FH:W.keepIn K (.ref asgC)=true)
 (Ik:W.findIn K (.ref CA) "true_numbers"=some (some (.ref asgN)))
 (Il:W.isFn K (.ref asgN)=true)
 (Im:K.lookup asgN=some ⟨asocN,asodN,.func (W.fnOf "true_numbers" "Asking.true_numbers" (aE gi) (aB gi) (af gi) .none askVN asdcN aspmN asanN ascdN asctN),asslN⟩)
 (Io:W.codeIn K ascdN "Asking.true_numbers"=true)
 (FI:W.keepIn K (.ref asgN)=true)
 (Ip:W.findIn K (.ref CA) "true_at"=some (some (.ref asgR)))
 (Iq:W.isFn K (.ref asgR)=true)
 (Ir:K.lookup asgR=some ⟨asocR,asodR,.func (W.fnOf "true_at" "Asking.true_at" (aE ju) (aB ju) (af ju) .none askVR asdcR aspmR asanR ascdR asctR),asslR⟩)
 (Iu:W.codeIn K ascdR "Asking.true_at"=true)
 (FJ:W.keepIn K (.ref asgR)=true)
 (Iv:W.plainGet K CA Str.empty=true)
 (FW:W.hasDictIn K CA=true)
 (FX:W.plainOver K CA=true)
 (FY:W.findIn K (.ref CA) "__setattr__"=some (some (.builtin "object.__setattr__")))
 (FZ:W.makesIn K CA=true)
 (Gc:W.keepIn K (.ref CA)=true)
 (C9:W.findIn K (.ref CA) "game"=some none)
 (u9:W.findIn K (.ref CA) "number"=some none)
 (D1:W.findIn K (.ref CA) "many"=some none)
 (D4:W.findIn K (.ref CA) "held"=some none)
 (Ge:W.findIn K (.ref CA) "s"=some none)
 (v3:W.findIn K (.ref CA) "tossed"=some none)
 (v4:W.findIn K (.ref CA) "truths"=some none)
 (Iw:W.nsIn K mainGlobals "Machine"=some (some (.ref CM)))
 (Ix:W.findIn K (.ref CM) "__init__"=some (some (.ref mcgI)))
 (Iy:W.isFn K (.ref mcgI)=true)
 (Iz:K.lookup mcgI=some ⟨mcocI,mcodI,.func (W.fnOf "__init__" "Machine.__init__" (aE jk) (aB jk) (af jk) .none mckVI mcdcI mcpmI mcanI mccdI mcctI),mcslI⟩)
 (IA:W.codeIn K mccdI "Machine.__init__"=true)
 (IB:W.keepIn K (.ref mcgI)=true)
 (IC:W.findIn K (.ref CM) "say"=some (some (.ref mcgS)))
 (ID:W.isFn K (.ref mcgS)=true)
 (IE:K.lookup mcgS=some ⟨mcocS,mcodS,.func (W.fnOf "say" "Machine.say" (aE lc) (aB lc) (af lc) .none mckVS mcdcS mcpmS mcanS mccdS mcctS),mcslS⟩)
 (IF:W.codeIn K mccdS "Machine.say"=true)
 (FK:W.keepIn K (.ref mcgS)=true)
 (IG:W.findIn K (.ref CM) "do_row"=some (some (.ref mcgR)))
 (IH:W.isFn K (.ref mcgR)=true)
 (II:K.lookup mcgR=some ⟨mcocR,mcodR,.func (W.fnOf "do_row" "Machine.do_row" (aE lg) (aB lg) (af lg) .none mckVR mcdcR mcpmR mcanR mccdR mcctR),mcslR⟩)
 (IJ:W.codeIn K mccdR "Machine.do_row"=true)
 (FL:W.keepIn K (.ref mcgR)=true)
 (IK:W.findIn K (.ref CM) "twin"=some (some (.ref mcgN)))
 (IL:W.isFn K (.ref mcgN)=true)
 (IM:K.lookup mcgN=some ⟨mcocN,mcodN,.func (W.fnOf "twin" "Machine.twin" (aE jj) (aB jj) (af jj) .none mckVN mcdcN mcpmN mcanN mccdN mcctN),mcslN⟩)
 (IN:W.codeIn K mccdN "Machine.twin"=true)
 (FM:W.keepIn K (.ref mcgN)=true)
 (IO:W.plainGet K CM Str.empty=true)
 (Gf:W.hasDictIn K CM=true)
 (Gg:W.plainOver K CM=true)
 (Gh:W.findIn K (.ref CM) "__setattr__"=some (some (.builtin "object.__setattr__")))
 (Gi:W.makesIn K CM=true)
 (Gj:W.keepIn K (.ref CM)=true)
 (D6:W.findIn K (.ref CM) "game"=some none)
 (v5:W.findIn K (.ref CM) "helper"=some none)
 (j5:W.findIn K (.ref CM) "next_round"=some none)
 (CW:W.findIn K (.ref CM) "boxes"=some none)
 (gmr:W.nsIn K mainGlobals "MOST_ROWS"=some (some (.int 4000 tr)))
 (ge:W.nsIn K mainGlobals "FIELDS_END"=some (some (.int 1000000 te)))
 (gmo:W.nsIn K mainGlobals "MOST_ROWS_DONE"=some (some (.int 200 tm)))
 (gAs:W.nsIn K mainGlobals "AskError"=some (some (.ref XA)))
 (iAs0:K.lookup XA=some (excClassObj nmA qnA XA NA bsA bmV true snA subA abA colA ddA q0A q1A q2A q3A q5A "ValueError.__new__"))
 (xga:W.specialIn K (.ref XA) "__getattribute__"=some (some (.builtin "type.__getattribute__")))
 (xrd:W.readsIn K XA (.type "type")=true)
 (xfc0:W.findCls K (.ref XA) (.type "type") "__init__"=some (.val (.ref gA)))
 (xlk:K.lookup gA=some ⟨ocA,odA,.func (W.fnOf "__init__" "AskError.__init__" (aE fb) (aB fb) (af fb) (.ref TA) kVA dcA pmA anA cdA ctA),slA⟩)
 (xtp:K.lookup TA=some ⟨.type "tuple",tdA,.seq #[.str "" tkA] tnA,tslA⟩)
 (xcd:W.codeIn K cdA "AskError.__init__"=true)
 (xkp:W.keepIn K (.ref gA)=true)
 (yg0:W.nsIn K mainGlobals "NoText"=some (some (.ref cc0)))
 (yo0:K.lookup cc0=some (excClassObj nm0 qn0 cc0 N0 bs0 (.ref XA::bmV) true sn0 sub0 ab0 col0 dd0 q00 q10 q20 q30 q50 "ValueError.__new__"))
 (ys0:W.findIn K (.ref cc0) "__setattr__"=some (some (.builtin "object.__setattr__")))
 (ya0:W.findIn K (.ref cc0) "__getattribute__"=some (some (.builtin "BaseException.__getattribute__")))
 (yt0:W.findIn K (.ref cc0) "__getattr__"=some none)
 (yc0:W.findIn K (.ref cc0) "__class__"=some (some (.builtin "object.__class__")))
 (ye0:cc0≠XA)
 (yg1:W.nsIn K mainGlobals "Twice"=some (some (.ref cc1)))
 (yo1:K.lookup cc1=some (excClassObj nm1 qn1 cc1 N1 bs1 (.ref XA::bmV) true sn1 sub1 ab1 col1 dd1 q01 q11 q21 q31 q51 "ValueError.__new__"))
 (ys1:W.findIn K (.ref cc1) "__setattr__"=some (some (.builtin "object.__setattr__")))
 (ya1:W.findIn K (.ref cc1) "__getattribute__"=some (some (.builtin "BaseException.__getattribute__")))
 (yt1:W.findIn K (.ref cc1) "__getattr__"=some none)
 (yc1:W.findIn K (.ref cc1) "__class__"=some (some (.builtin "object.__class__")))
 (ye1:cc1≠XA)
 (yg2:W.nsIn K mainGlobals "NoName"=some (some (.ref cc2)))
 (yo2:K.lookup cc2=some (excClassObj nm2 qn2 cc2 N2 bs2 (.ref XA::bmV) true sn2 sub2 ab2 col2 dd2 q02 q12 q22 q32 q52 "ValueError.__new__"))
 (ys2:W.findIn K (.ref cc2) "__setattr__"=some (some (.builtin "object.__setattr__")))
 (ya2:W.findIn K (.ref cc2) "__getattribute__"=some (some (.builtin "BaseException.__getattribute__")))
 (yt2:W.findIn K (.ref cc2) "__getattr__"=some none)
 (yc2:W.findIn K (.ref cc2) "__class__"=some (some (.builtin "object.__class__")))
 (ye2:cc2≠XA)
 (yg3:W.nsIn K mainGlobals "NoField"=some (some (.ref cc3)))
 (yo3:K.lookup cc3=some (excClassObj nm3 qn3 cc3 N3 bs3 (.ref XA::bmV) true sn3 sub3 ab3 col3 dd3 q03 q13 q23 q33 q53 "ValueError.__new__"))
 (ys3:W.findIn K (.ref cc3) "__setattr__"=some (some (.builtin "object.__setattr__")))
 (ya3:W.findIn K (.ref cc3) "__getattribute__"=some (some (.builtin "BaseException.__getattribute__")))
 (yt3:W.findIn K (.ref cc3) "__getattr__"=some none)
 (yc3:W.findIn K (.ref cc3) "__class__"=some (some (.builtin "object.__class__")))
 (ye3:cc3≠XA)
 (yg4:W.nsIn K mainGlobals "SmallField"=some (some (.ref cc4)))
 (yo4:K.lookup cc4=some (excClassObj nm4 qn4 cc4 N4 bs4 (.ref XA::bmV) true sn4 sub4 ab4 col4 dd4 q04 q14 q24 q34 q54 "ValueError.__new__"))
 (ys4:W.findIn K (.ref cc4) "__setattr__"=some (some (.builtin "object.__setattr__")))
 (ya4:W.findIn K (.ref cc4) "__getattribute__"=some (some (.builtin "BaseException.__getattribute__")))
 (yt4:W.findIn K (.ref cc4) "__getattr__"=some none)
 (yc4:W.findIn K (.ref cc4) "__class__"=some (some (.builtin "object.__class__")))
 (ye4:cc4≠XA)
 (yg5:W.nsIn K mainGlobals "NoRow"=some (some (.ref cc5)))
 (yo5:K.lookup cc5=some (excClassObj nm5 qn5 cc5 N5 bs5 (.ref XA::bmV) true sn5 sub5 ab5 col5 dd5 q05 q15 q25 q35 q55 "ValueError.__new__"))
 (ys5:W.findIn K (.ref cc5) "__setattr__"=some (some (.builtin "object.__setattr__")))
 (ya5:W.findIn K (.ref cc5) "__getattribute__"=some (some (.builtin "BaseException.__getattribute__")))
 (yt5:W.findIn K (.ref cc5) "__getattr__"=some none)
 (yc5:W.findIn K (.ref cc5) "__class__"=some (some (.builtin "object.__class__")))
 (ye5:cc5≠XA)
 (yg6:W.nsIn K mainGlobals "NoTurn"=some (some (.ref cc6)))
 (yo6:K.lookup cc6=some (excClassObj nm6 qn6 cc6 N6 bs6 (.ref XA::bmV) true sn6 sub6 ab6 col6 dd6 q06 q16 q26 q36 q56 "ValueError.__new__"))
 (ys6:W.findIn K (.ref cc6) "__setattr__"=some (some (.builtin "object.__setattr__")))
 (ya6:W.findIn K (.ref cc6) "__getattribute__"=some (some (.builtin "BaseException.__getattribute__")))
 (yt6:W.findIn K (.ref cc6) "__getattr__"=some none)
 (yc6:W.findIn K (.ref cc6) "__class__"=some (some (.builtin "object.__class__")))
 (ye6:cc6≠XA)
 (yg7:W.nsIn K mainGlobals "NoCount"=some (some (.ref cc7)))
 (yo7:K.lookup cc7=some (excClassObj nm7 qn7 cc7 N7 bs7 (.ref XA::bmV) true sn7 sub7 ab7 col7 dd7 q07 q17 q27 q37 q57 "ValueError.__new__"))
 (ys7:W.findIn K (.ref cc7) "__setattr__"=some (some (.builtin "object.__setattr__")))
 (ya7:W.findIn K (.ref cc7) "__getattribute__"=some (some (.builtin "BaseException.__getattribute__")))
 (yt7:W.findIn K (.ref cc7) "__getattr__"=some none)
 (yc7:W.findIn K (.ref cc7) "__class__"=some (some (.builtin "object.__class__")))
 (ye7:cc7≠XA)
 (yg8:W.nsIn K mainGlobals "NoNumber"=some (some (.ref cc8)))
 (yo8:K.lookup cc8=some (excClassObj nm8 qn8 cc8 N8 bs8 (.ref XA::bmV) true sn8 sub8 ab8 col8 dd8 q08 q18 q28 q38 q58 "ValueError.__new__"))
 (ys8:W.findIn K (.ref cc8) "__setattr__"=some (some (.builtin "object.__setattr__")))
 (ya8:W.findIn K (.ref cc8) "__getattribute__"=some (some (.builtin "BaseException.__getattribute__")))
 (yt8:W.findIn K (.ref cc8) "__getattr__"=some none)
 (yc8:W.findIn K (.ref cc8) "__class__"=some (some (.builtin "object.__class__")))
 (ye8:cc8≠XA)
 (yg9:W.nsIn K mainGlobals "TooMany"=some (some (.ref cc9)))
 (yo9:K.lookup cc9=some (excClassObj nm9 qn9 cc9 N9 bs9 (.ref XA::bmV) true sn9 sub9 ab9 col9 dd9 q09 q19 q29 q39 q59 "ValueError.__new__"))
 (ys9:W.findIn K (.ref cc9) "__setattr__"=some (some (.builtin "object.__setattr__")))
 (ya9:W.findIn K (.ref cc9) "__getattribute__"=some (some (.builtin "BaseException.__getattribute__")))
 (yt9:W.findIn K (.ref cc9) "__getattr__"=some none)
 (yc9:W.findIn K (.ref cc9) "__class__"=some (some (.builtin "object.__class__")))
 (yi9:W.findIn K (.ref cc9) "__init__"=some (some (.ref g9)))
 (yl9:K.lookup g9=some ⟨.type "function",od_9,.func (W.fnOf "__init__" "TooMany.__init__" (aE gj) (aB gj) (af gj) .none kV_9 dc_9 pm_9 an_9 cd_9 ct_9),sl_9⟩)
 (yk9:W.codeIn K cd_9 "TooMany.__init__"=true)
 (yp9:W.keepIn K (.ref g9)=true)
 (yq9:W.keepIn K (.ref cc9)=true)
 (yn9:W.findIn K (.ref cc9) "rows"=some none)
 (ye9:cc9≠XA)
 (hV0:W.nsIn K mainGlobals "ValueError"=some none)
 (ynd:[cc0,cc1,cc2,cc3,cc4,cc5,cc6,cc7,cc8,cc9].Nodup)
 (z0:W.nsIn K mainGlobals "len"=some none) (z1:W.nsIn K mainGlobals "range"=some none) (z2:W.nsIn K mainGlobals "isinstance"=some none) (z3:W.nsIn K mainGlobals "int"=some none) (z4:W.nsIn K mainGlobals "bool"=some none) (z5:W.nsIn K mainGlobals "list"=some none) (z6:W.nsIn K mainGlobals "tuple"=some none) (z7:W.nsIn K mainGlobals "max"=some none) (z8:W.nsIn K mainGlobals "min"=some none) (z9:W.nsIn K mainGlobals "reversed"=some none) (z10:W.nsIn K mainGlobals "enumerate"=some none) (z11:W.nsIn K mainGlobals "sum"=some none) (z12:W.nsIn K mainGlobals "all"=some none) (z13:W.nsIn K mainGlobals "zip"=some none) (z14:W.nsIn K mainGlobals "dict"=some none) :
 ∃fd:FuncData,(∀(s:Shared) (v:Value),BindsTo s fd ⟨[v],[]⟩ [("_law_script",v)])/\∀base:Heap,K.In base->base.Ns mainGlobals mg->FnOk l.prog w K mg base CX0 38 fa fd ["_law_script"] (vU K):=by
 have e:=hfa.symm.trans (W.mg_of X G a40);cases e;have v6:=aP (st:=eY) l0 c0 k0;have Fs:=W.mg_of X G a0;have nu:=aP (st:=dF) l1 c1 k1;have D7:=W.mg_of X G a1;have rX:=aP (st:=dX) l2 c2 k2;have Fh:=W.mg_of X G a2;have v7:=aP (st:=eT) l3 c3 k3;have Ft:=W.mg_of X G a3;have rY:=aP (st:=ei) l4 c4 k4;have Fi:=W.mg_of X G a4;have j6:=aP (st:=cS) l5 c5 k5;have B4:=W.mg_of X G a5;have yD:=aP (st:=eW) l6 c6 k6;have Fu:=W.mg_of X G a6;have fV:=aP (st:=bQ) l7 c7 k7;have kZ:=W.mg_of X G a7;have j7:=aP (st:=cX) l8 c8 k8;have B5:=W.mg_of X G a8;have y4:=aP (st:=dQ) l9 c9 k9;have y6:=W.mg_of X G a9;have D8:=aP (st:=gT) l10 c10 k10;have FN:=W.mg_of X G a10;have y9:=aP (st:=eZ) l11 c11 k11;have Fv:=W.mg_of X G a11;have j8:=aP (st:=cU) l12 c12 k12;have B6:=W.mg_of X G a12;have C1:=aP (st:=eV) l13 c13 k13;have C2:=W.mg_of X G a13;have zH:=aP (st:=dP) l14 c14 k14;have A0:=W.mg_of X G a14;have rZ:=aP (st:=eA) l15 c15 k15;have Fj:=W.mg_of X G a15;have r6:=aP (st:=eg) l16 c16 k16;have Fk:=W.mg_of X G a16;have A3:=aP (st:=eU) l17 c17 k17;have Fw:=W.mg_of X G a17;have A4:=aP (st:=dO) l18 c18 k18;have A5:=W.mg_of X G a18;have A7:=aP (st:=eX) l19 c19 k19;have Fx:=W.mg_of X G a19;have C3:=aP (st:=gg) l20 c20 k20;have Fz:=W.mg_of X G a20;have Fr:=aP (st:=ji) l21 c21 k21;have Hw:=W.mg_of X G a21;have iJ:=aP (st:=cG) l22 c22 k22;have A8:=W.mg_of X G a22;have oR:=aP (st:=dG) l23 c23 k23;have E3:=W.mg_of X G a23;have C4:=aP (st:=fZ) l24 c24 k24;have FA:=W.mg_of X G a24;have im:=aP (st:=bZ) l25 c25 k25;have iI:=W.mg_of X G a25;have r8:=aP (st:=dY) l26 c26 k26;have Fl:=W.mg_of X G a26;have A9:=aP (st:=dN) l27 c27 k27;have BG:=W.mg_of X G a27;have j9:=aP (st:=cV) l28 c28 k28;have B7:=W.mg_of X G a28;have r9:=aP (st:=dZ) l29 c29 k29;have Fm:=W.mg_of X G a29;have iK:=aP (st:=cH) l30 c30 k30;have BH:=W.mg_of X G a30;have o5:=aP (st:=dB) l31 c31 k31;have E4:=W.mg_of X G a31;have o6:=aP (st:=dC) l32 c32 k32;have E5:=W.mg_of X G a32;have t5:=aP (st:=dU) l33 c33 k33;have Fp:=W.mg_of X G a33;have E6:=aP (st:=gS) l34 c34 k34;have FO:=W.mg_of X G a34;have E7:=aP (st:=gQ) l35 c35 k35;have FP:=W.mg_of X G a35;have C5:=aP (st:=bu) l36 c36 k36;have FC:=W.mg_of X G a36;have o7:=aP (st:=dE) l37 c37 k37;have E8:=W.mg_of X G a37;have E9:=aP (st:=gR) l38 c38 k38;have FQ:=W.mg_of X G a38;have t7:=aP (st:=dW) l39 c39 k39;have Fq:=W.mg_of X G a39;have IP:=aP (st:=kh) l40 c40 k40;have B:Bl mg:=⟨W.mg_none_of X G z0,W.mg_none_of X G z1,W.mg_none_of X G z2,W.mg_none_of X G z3,W.mg_none_of X G z4,W.mg_none_of X G z5,W.mg_none_of X G z6,W.mg_none_of X G z7,W.mg_none_of X G z8,W.mg_none_of X G z9,W.mg_none_of X G z10,W.mg_none_of X G z11,W.mg_none_of X G z12,W.mg_none_of X G z13,W.mg_none_of X G z14⟩
 refine⟨W.fnOf "law" "law" (aE kh) (aB kh) (af kh) .none kV40 dc40 pm40 an40 cd40 ct40,fun s v=>.of_eq rfl,fun base _ _=>?_⟩;have iAs:qW K XA:=⟨_,_,_,_,_,_,_,_,_,_,_,_,_,_,iAs0⟩
 have xfc:=clsfc xfc0;have hV:=W.mg_none_of X G hV0;have JM:=wC (st:=fb) xlk xcd xkp;have K_A:AskC l.prog w K mg base XA gA _:=⟨W.mg_of X G gAs,⟨xga,xrd,xfc,xkp⟩,sF (P:=l.prog) (w:=w) (base:=base) JM hV,fun s us KX hl=>match us,hl with | [_,_],_=>W.binds_K KX rfl xtp rfl rfl rfl⟩
 have L_0:ClsX K cc0 XA:=⟨⟨_,_,_,_,_,_,_,_,_,_,_,_,_,_,yo0⟩,ys0,ya0,yt0,yc0⟩
 have L_1:ClsX K cc1 XA:=⟨⟨_,_,_,_,_,_,_,_,_,_,_,_,_,_,yo1⟩,ys1,ya1,yt1,yc1⟩
 have L_2:ClsX K cc2 XA:=⟨⟨_,_,_,_,_,_,_,_,_,_,_,_,_,_,yo2⟩,ys2,ya2,yt2,yc2⟩
 have L_3:ClsX K cc3 XA:=⟨⟨_,_,_,_,_,_,_,_,_,_,_,_,_,_,yo3⟩,ys3,ya3,yt3,yc3⟩
 have L_4:ClsX K cc4 XA:=⟨⟨_,_,_,_,_,_,_,_,_,_,_,_,_,_,yo4⟩,ys4,ya4,yt4,yc4⟩
 have L_5:ClsX K cc5 XA:=⟨⟨_,_,_,_,_,_,_,_,_,_,_,_,_,_,yo5⟩,ys5,ya5,yt5,yc5⟩
 have L_6:ClsX K cc6 XA:=⟨⟨_,_,_,_,_,_,_,_,_,_,_,_,_,_,yo6⟩,ys6,ya6,yt6,yc6⟩
 have L_7:ClsX K cc7 XA:=⟨⟨_,_,_,_,_,_,_,_,_,_,_,_,_,_,yo7⟩,ys7,ya7,yt7,yc7⟩
 have L_8:ClsX K cc8 XA:=⟨⟨_,_,_,_,_,_,_,_,_,_,_,_,_,_,yo8⟩,ys8,ya8,yt8,yc8⟩
 have L_9:ClsX K cc9 XA:=⟨⟨_,_,_,_,_,_,_,_,_,_,_,_,_,_,yo9⟩,ys9,ya9,yt9,yc9⟩
 have J_9:MkX K cc9 g9:=L_9.mk' yi9 ⟨_,yl9,rfl⟩ yq9;have JN:=wC (st:=gj) yl9 yk9 yp9;have M_9:Mkr l.prog w K mg base cc9 "rows" g9 _:=⟨J_9,uL (P:=l.prog) (w:=w) (base:=base) JN K_A J_9 L_9 yn9,.all fun us hl=>by obtain⟨u0,u1,rfl⟩:=fj hl;rfl,yn9⟩
 have TX:Exs K mg XA cc0 cc1 cc2 cc3 cc4 cc5 cc6 cc7 cc8 cc9:=⟨W.mg_of X G yg0,L_0,ye0,W.mg_of X G yg1,L_1,ye1,W.mg_of X G yg2,L_2,ye2,W.mg_of X G yg3,L_3,ye3,W.mg_of X G yg4,L_4,ye4,W.mg_of X G yg5,L_5,ye5,W.mg_of X G yg6,L_6,ye6,W.mg_of X G yg7,L_7,ye7,W.mg_of X G yg8,L_8,ye8,W.mg_of X G yg9,L_9,ye9,W.mg_of X G gAs,iAs,ynd⟩
 have TG:GTxt K mg CG:=⟨⟨HU,FR,FS,FT⟩,nt,B8,B9,q8,W.mg_of X G Hx⟩
 have T:DTxt K mg C:=⟨⟨dbpg,dbhdi,dbpov,dbsat⟩,dbn_game,dbn_awaited,dbn_claims,dbn_s,dbn_heard,dbn_tossed,dbn_held,dbn_places,W.mg_of X G dbgg⟩
 have TA:ATxt K mg CA:=⟨⟨Iv,FW,FX,FY⟩,C9,u9,D1,D4,Ge,v3,v4,W.mg_of X G HV⟩
 have TM:MTxt K mg CM:=⟨⟨IO,Gf,Gg,Gh⟩,D6,v5,j5,CW,W.mg_of X G Iw⟩
 have Gk:=aP (st:=jo) HB HC HD;have IQ:=Gk.binds (ps:=["self","switches","trees","field"]) fun _ _ _ _ _ _ us hl=>by obtain⟨u0,u1,u2,u3,rfl⟩:=vb hl;rfl
 have Gn:=aP (st:=lh) HG HI FD;have Go:=Gn.binds (ps:=["self","numbers","s"]) fun _ _ _ _ _ _ us hl=>by obtain⟨u0,u1,u2,rfl⟩:=jJ hl;rfl
 have Gp:Meth K CG "mix" gmgM:=⟨HE,HF,FD⟩
 have Gq:=aP (st:=gU) HL HM FE;have Gs:=Gq.binds (ps:=["self","point","s"]) fun _ _ _ _ _ _ us hl=>by obtain⟨u0,u1,u2,rfl⟩:=jJ hl;rfl
 have Gv:Meth K CG "worth_at" gmgW:=⟨HJ,HK,FE⟩
 have Gw:=aP (st:=gV) HR HS FF;have Gx:=Gw.binds (ps:=["self"]) fun _ _ _ _ _ _ us hl=>by obtain⟨u0,rfl⟩:=gs hl;rfl
 have Gy:Meth K CG "coins" gmgC:=⟨HN,HQ,FF⟩
 have Gz:=aP (st:=jr) dblI dbcI dbkI;have GE:=Gz.binds (ps:=["self","game"]) fun _ _ _ _ _ _ us hl=>by obtain⟨u0,u1,rfl⟩:=fj hl;rfl
 have GF:=aP (st:=gW) dblW dbcW dbkW;have IR:=GF.binds (ps:=["self"]) fun _ _ _ _ _ _ us hl=>by obtain⟨u0,rfl⟩:=gs hl;rfl
 have IS:Meth K C "waits" dbgW:=⟨dbaW,dbiW,dbkW⟩
 have GJ:=aP (st:=lj) dblU dbcU dbkU;have IT:=GJ.binds (ps:=["self"]) fun _ _ _ _ _ _ us hl=>by obtain⟨u0,rfl⟩:=gs hl;rfl
 have IU:Meth K C "due" dbgU:=⟨dbaU,dbiU,dbkU⟩
 have GK:=aP (st:=jt) dblH dbcH dbkH;have IV:=GK.binds (ps:=["self","values"]) fun _ _ _ _ _ _ us hl=>by obtain⟨u0,u1,rfl⟩:=fj hl;rfl
 have IW:Meth K C "hear" dbgH:=⟨dbaH,dbiH,dbkH⟩
 have GN:=aP (st:=jq) dblT dbcT dbkT;have IX:=GN.binds (ps:=["self","r"]) fun _ _ _ _ _ _ us hl=>by obtain⟨u0,u1,rfl⟩:=fj hl;rfl
 have IY:Meth K C "toss" dbgT:=⟨dbaT,dbiT,dbkT⟩
 have GO:=aP (st:=gh) dblC dbcC dbkC;have IZ:=GO.binds (ps:=["self","values"]) fun _ _ _ _ _ _ us hl=>by obtain⟨u0,u1,rfl⟩:=fj hl;rfl
 have I0:Meth K C "hear_claims" dbgC:=⟨dbaC,dbiC,dbkC⟩
 have GQ:=aP (st:=gY) dblB dbcB dbkB;have GV:=GQ.binds (ps:=["self","s"]) fun _ _ _ _ _ _ us hl=>by obtain⟨u0,u1,rfl⟩:=fj hl;rfl
 have GX:Meth K C "begin_rounds" dbgB:=⟨dbaB,dbiB,dbkB⟩
 have GY:=aP (st:=li) dblR dbcR dbkR;have Ja:=GY.binds (ps:=["self","values"]) fun _ _ _ _ _ _ us hl=>by obtain⟨u0,u1,rfl⟩:=fj hl;rfl
 have Jb:Meth K C "hear_row" dbgR:=⟨dbaR,dbiR,dbkR⟩
 have GZ:=aP (st:=pH) dblG dbcG dbkG;have G9:=GZ.binds (ps:=["self"]) fun _ _ _ _ _ _ us hl=>by obtain⟨u0,rfl⟩:=gs hl;rfl
 have Ha:Meth K C "go_on" dbgG:=⟨dbaG,dbiG,dbkG⟩
 have Hb:=aP (st:=gX) dblE dbcE dbkE;have Jc:=Hb.binds (ps:=["self"]) fun _ _ _ _ _ _ us hl=>by obtain⟨u0,rfl⟩:=gs hl;rfl
 have Jd:Meth K C "look_at_trees" dbgE:=⟨dbaE,dbiE,dbkE⟩
 have Hc:=aP (st:=jp) dblN dbcN dbkN;have Je:=Hc.binds (ps:=["self"]) fun _ _ _ _ _ _ us hl=>by obtain⟨u0,rfl⟩:=gs hl;rfl
 have Jf:Meth K C "twin" dbgN:=⟨dbaN,dbiN,dbkN⟩
 have Hd:=aP (st:=jv) HY HZ Ia;have Jg:=Hd.binds (ps:=["self","game","number","many","due","s","coins"]) fun _ _ _ _ _ _ us hl=>by obtain⟨u0,u1,u2,u3,u4,u5,u6,rfl⟩:=len7 hl;rfl
 have He:=aP (st:=gZ) Id Ie FG;have Jh:=He.binds (ps:=["self","word"]) fun _ _ _ _ _ _ us hl=>by obtain⟨u0,u1,rfl⟩:=fj hl;rfl
 have Ji:Meth K CA "plain_value" asgP:=⟨Ib,Ic,FG⟩
 have Hf:=aP (st:=jw) Ii Ij FH;have Jj:=Hf.binds (ps:=["self","place"]) fun _ _ _ _ _ _ us hl=>by obtain⟨u0,u1,rfl⟩:=fj hl;rfl
 have Jk:Meth K CA "coin_at" asgC:=⟨Ig,Ih,FH⟩
 have Hg:=aP (st:=gi) Im Io FI;have Jl:=Hg.binds (ps:=["self"]) fun _ _ _ _ _ _ us hl=>by obtain⟨u0,rfl⟩:=gs hl;rfl
 have Jm:Meth K CA "true_numbers" asgN:=⟨Ik,Il,FI⟩
 have Hh:=aP (st:=ju) Ir Iu FJ;have Jn:=Hh.binds (ps:=["self","place"]) fun _ _ _ _ _ _ us hl=>by obtain⟨u0,u1,rfl⟩:=fj hl;rfl
 have Jo:Meth K CA "true_at" asgR:=⟨Ip,Iq,FJ⟩
 have Hi:=aP (st:=jk) Iz IA IB;have Hj:=Hi.binds (ps:=["self","game","helper"]) fun _ _ _ _ _ _ us hl=>by obtain⟨u0,u1,u2,rfl⟩:=jJ hl;rfl
 have Hk:=aP (st:=lc) IE IF FK;have Jp:=Hk.binds (ps:=["self","many","due","s","coins"]) fun _ _ _ _ _ _ us hl=>by obtain⟨u0,u1,u2,u3,u4,rfl⟩:=len5 hl;rfl
 have Jq:Meth K CM "say" mcgS:=⟨IC,ID,FK⟩
 have Hl:=aP (st:=lg) II IJ FL;have Jr:=Hl.binds (ps:=["self","place","said","asking"]) fun _ _ _ _ _ _ us hl=>by obtain⟨u0,u1,u2,u3,rfl⟩:=vb hl;rfl
 have Js:Meth K CM "do_row" mcgR:=⟨IG,IH,FL⟩
 have Hm:=aP (st:=jj) IM IN FM;have Jt:=Hm.binds (ps:=["self"]) fun _ _ _ _ _ _ us hl=>by obtain⟨u0,rfl⟩:=gs hl;rfl
 have Ju:Meth K CM "twin" mcgN:=⟨IK,IL,FM⟩
 have t9:=Cal.of (P:=l.prog) (w:=w) (base:=base) E6 (xK E6 B.len) FO (fun _ _ _ _ _ _ us hl=>by obtain⟨u0,u1,rfl⟩:=fj hl;rfl);have ba:=Cal.of (P:=l.prog) (w:=w) (base:=base) E7 (xI E7 ) FP (fun _ _ _ _ _ _ us hl=>by obtain⟨u0,u1,rfl⟩:=fj hl;rfl);have kf:=Cal.of (P:=l.prog) (w:=w) (base:=base) v6 (sD v6 ) Fs (fun _ _ _ _ _ _ us hl=>by obtain⟨u0,rfl⟩:=gs hl;rfl);have eK:=Cal.of (P:=l.prog) (w:=w) (base:=base) nu (oZ nu ) D7 (fun _ _ _ _ _ _ us hl=>by obtain⟨u0,u1,rfl⟩:=fj hl;rfl);have eO:=Cal.of (P:=l.prog) (w:=w) (base:=base) rX (qO rX B) Fh (fun _ _ _ _ _ _ us hl=>by obtain⟨u0,u1,rfl⟩:=fj hl;rfl);have d8:=Cal.of (P:=l.prog) (w:=w) (base:=base) yD (sB yD ) Fu (fun _ _ _ _ _ _ us hl=>by obtain⟨u0,u1,rfl⟩:=fj hl;rfl);have eN:=Cal.of (P:=l.prog) (w:=w) (base:=base) fV (iD fV B d8 eK) kZ (fun _ _ _ _ _ _ us hl=>by obtain⟨u0,u1,rfl⟩:=fj hl;rfl);have fY:=Cal.of (P:=l.prog) (w:=w) (base:=base) j6 (mf j6 B d8 eN) B4 (fun _ _ _ _ _ _ us hl=>by obtain⟨u0,u1,u2,rfl⟩:=jJ hl;rfl);have b9:=Cal.of (P:=l.prog) (w:=w) (base:=base) v7 (sy v7 B fY) Ft (fun _ _ _ _ _ _ us hl=>by obtain⟨u0,u1,u2,rfl⟩:=jJ hl;rfl);have jM:=Cal.of (P:=l.prog) (w:=w) (base:=base) rY (qS rY b9) Fi (fun _ _ _ _ _ _ us hl=>by obtain⟨u0,u1,rfl⟩:=fj hl;rfl);have bj:=Cal.of (P:=l.prog) (w:=w) (base:=base) j8 (mh j8 ) B6 (fun _ _ _ _ _ _ us hl=>by obtain⟨u0,rfl⟩:=gs hl;rfl);have gI:=Cal.of (P:=l.prog) (w:=w) (base:=base) C1 (oh C1 B C2 bj 10) C2 (fun _ _ _ _ _ _ us hl=>by obtain⟨u0,rfl⟩:=gs hl;rfl);have dy:=Cal.of (P:=l.prog) (w:=w) (base:=base) zH (lV zH A0 bj 10) A0 (fun _ _ _ _ _ _ us hl=>by obtain⟨u0,rfl⟩:=gs hl;rfl);have cz:=Cal.of (P:=l.prog) (w:=w) (base:=base) j9 (mi j9 ) B7 (fun _ _ _ _ _ _ us hl=>by obtain⟨u0,u1,u2,u3,rfl⟩:=vb hl;rfl);have e8:=Cal.of (P:=l.prog) (w:=w) (base:=base) A9 (lT A9 BG cz 10) BG (fun _ _ _ _ _ _ us hl=>by obtain⟨u0,u1,u2,u3,rfl⟩:=vb hl;rfl);have i4:=Cal.of (P:=l.prog) (w:=w) (base:=base) r9 (qQ r9 B.max dy) Fm (fun _ _ _ _ _ _ us hl=>by obtain⟨u0,u1,rfl⟩:=fj hl;rfl);have fN:=Cal.of (P:=l.prog) (w:=w) (base:=base) iK (ly iK B.enumerate) BH (fun _ _ _ _ _ _ us hl=>by obtain⟨u0,rfl⟩:=gs hl;rfl);have ic:=Cal.of (P:=l.prog) (w:=w) (base:=base) o5 (oW o5 dy) E4 (fun _ _ _ _ _ _ us hl=>by obtain⟨u0,u1,rfl⟩:=fj hl;rfl);have ie:=Cal.of (P:=l.prog) (w:=w) (base:=base) o6 (oX o6 ⟨te,W.mg_of X G ge⟩ kf) E5 (fun _ _ _ _ _ _ us hl=>by obtain⟨u0,rfl⟩:=gs hl;rfl);have i7:=Cal.of (P:=l.prog) (w:=w) (base:=base) t5 (qM t5 B.max) Fp (fun _ _ _ _ _ _ us hl=>by obtain⟨u0,u1,rfl⟩:=fj hl;rfl);have m9:=Cal.of (P:=l.prog) (w:=w) (base:=base) C5 (uH C5 B.range ba) FC (fun _ _ _ _ _ _ us hl=>by obtain⟨u0,u1,rfl⟩:=fj hl;rfl);have i9:=Cal.of (P:=l.prog) (w:=w) (base:=base) rZ (qT rZ B TG gI) Fj (fun _ _ _ _ _ _ us hl=>by obtain⟨u0,rfl⟩:=gs hl;rfl);have Jv:=Ap (P:=l.prog) (w:=w) (base:=base) Gk TG B.tuple B.len i4 fN ic ie i7;have Hn:=Cu (P:=l.prog) (w:=w) (base:=base) Gn TG B.reversed;have Ho:=xM (P:=l.prog) (w:=w) (base:=base) Gq TG Gp Hn Go e8;have Hq:=xN (P:=l.prog) (w:=w) (base:=base) Gw TG B.len;have Jw:=xP (P:=l.prog) (w:=w) (base:=base) Hb B T TG Gv Ho Gs i9;have Hs:=Em (P:=l.prog) (w:=w) (base:=base) GZ B T TG Jd Jw Jc;have Ht:=xQ (P:=l.prog) (w:=w) (base:=base) GQ T TG Gp Hn Go Ha Hs G9;have Jx:=uJ (P:=l.prog) (w:=w) (base:=base) GO B T TG GX Ht GV;have Jy:=Cv (P:=l.prog) (w:=w) (base:=base) GY B T TG jM;have Jz:=At (P:=l.prog) (w:=w) (base:=base) GK B T TG eO I0 Jx IZ Jb Jy Ja;have JA:=Ar (P:=l.prog) (w:=w) (base:=base) GN B T TG eO b9 GX Ht GV Ha Hs G9;have Hu:=As (P:=l.prog) (w:=w) (base:=base) Gz B T TG;have JB:=xO (P:=l.prog) (w:=w) (base:=base) GF T;have JC:=Cw (P:=l.prog) (w:=w) (base:=base) GJ T;have cF:=Cal.of (P:=l.prog) (w:=w) (base:=base) j7 (mo j7 B.range) B5 (fun _ _ _ _ _ _ us hl=>by obtain⟨u0,rfl⟩:=gs hl;rfl);have gw:=Cal.of (P:=l.prog) (w:=w) (base:=base) D8 (xL D8 ) FN (fun _ _ _ _ _ _ us hl=>by obtain⟨u0,u1,u2,rfl⟩:=jJ hl;rfl);have e9:=Cal.of (P:=l.prog) (w:=w) (base:=base) y4 (lW y4 y6 gw 12) y6 (fun _ _ _ _ _ _ us hl=>by obtain⟨u0,u1,u2,rfl⟩:=jJ hl;rfl);have kg:=Cal.of (P:=l.prog) (w:=w) (base:=base) y9 (sE y9 B.len cF e9) Fv (fun _ _ _ _ _ _ us hl=>by obtain⟨u0,u1,rfl⟩:=fj hl;rfl);have jQ:=Cal.of (P:=l.prog) (w:=w) (base:=base) r6 (qR r6 TG kg) Fk (fun _ _ _ _ _ _ us hl=>by obtain⟨u0,rfl⟩:=gs hl;rfl);have ki:=Cal.of (P:=l.prog) (w:=w) (base:=base) A3 (sA A3 B TG Gv Ho Gs cF) Fw (fun _ _ _ _ _ _ us hl=>by obtain⟨u0,u1,u2,rfl⟩:=jJ hl;rfl);have m8:=Cal.of (P:=l.prog) (w:=w) (base:=base) C3 (uI C3 eK) Fz (fun _ _ _ _ _ _ us hl=>by obtain⟨u0,u1,u2,rfl⟩:=jJ hl;rfl);have fq:=Cal.of (P:=l.prog) (w:=w) (base:=base) A7 (sC A7 m8) Fx (fun _ _ _ _ _ _ us hl=>by obtain⟨u0,u1,u2,u3,rfl⟩:=vb hl;rfl);have JD:=Av (P:=l.prog) (w:=w) (base:=base) Hd B TA;have JE:=xR (P:=l.prog) (w:=w) (base:=base) He TA TG;have JF:=Aw (P:=l.prog) (w:=w) (base:=base) Hf B TA TG;have JG:=uK (P:=l.prog) (w:=w) (base:=base) Hg TA jQ ki;have JH:=Au (P:=l.prog) (w:=w) (base:=base) Hh B TA TG Jm JG Jl b9;have AF:AskF l.prog w K mg base CA CG _ _ _ _ _ _:=⟨Ji,JE,Jh,Jk,JF,Jj,Jo,JH,Jn⟩
 have ci:=Cal.of (P:=l.prog) (w:=w) (base:=base) A4 (lU A4 A5 TA TG AF fq 5) A5 (fun _ _ _ _ _ _ us hl=>by obtain⟨u0,u1,u2,rfl⟩:=jJ hl;rfl);have Hv:=Ao (P:=l.prog) (w:=w) (base:=base) Hi TM;have JI:=Ct (P:=l.prog) (w:=w) (base:=base) Hl B TM ci;have JJ:=Cs (P:=l.prog) (w:=w) (base:=base) Hk B TM TA ⟨tm,W.mg_of X G gmo⟩ ⟨FZ,HW,HX,Gc⟩ JD Jg Js JI Jr;have Y:Ways l.prog w K mg base C CM CG _ _ _ _ _ _ _ _ _ _:=⟨IS,JB,IR,IU,JC,IT,IW,Jz,IV,IY,JA,IX,Jq,JJ,Jp⟩
 have MDk:Mk K C dbgI:=⟨dbmki,dbaI,dbiI,dbkcl⟩
 have MMk:Mk K CM mcgI:=⟨Gi,Ix,Iy,Gj⟩
 have JK:=Aq (P:=l.prog) (w:=w) (base:=base) Hc T MDk Hu GE;have JL:=An (P:=l.prog) (w:=w) (base:=base) Hm B TM MMk Hv Hj;have Z:Twins l.prog w K mg base C CM CG _ _ _ _:=⟨Jf,JK,Je,Ju,JL,Jt⟩
 have eM:=Cal.of (P:=l.prog) (w:=w) (base:=base) oR (pd oR B T TM Y) E3 (fun _ _ _ _ _ _ us hl=>by obtain⟨u0,u1,rfl⟩:=fj hl;rfl);have B3:=Cal.of (P:=l.prog) (w:=w) (base:=base) Fr (Am Fr B) Hw (fun _ _ _ _ _ _ us hl=>by obtain⟨u0,u1,rfl⟩:=fj hl;rfl);have fO:=Cal.of (P:=l.prog) (w:=w) (base:=base) iJ (lx iJ TG Gy Hq Gx B3) A8 (fun _ _ _ _ _ _ us hl=>by obtain⟨u0,rfl⟩:=gs hl;rfl);have eR:=Cal.of (P:=l.prog) (w:=w) (base:=base) r8 (qP r8 B TG Gy Hq Gx) Fl (fun _ _ _ _ _ _ us hl=>by obtain⟨u0,u1,rfl⟩:=fj hl;rfl);have cO:=Cal.of (P:=l.prog) (w:=w) (base:=base) im (gF im iI B T TM TG Y Z eM eR 8) iI (fun _ _ _ _ _ _ us hl=>by obtain⟨u0,u1,u2,rfl⟩:=jJ hl;rfl);have eI:=CalR.of (P:=l.prog) (w:=w) (base:=base) C4 (uG C4 T TM ⟨tr,W.mg_of X G gmr⟩ TX M_9 MDk Hu GE MMk Hv Hj fO cO) FA (fun _ _ _ _ _ _ us hl=>by obtain⟨u0,u1,rfl⟩:=fj hl;rfl);have ii:=Cal.of (P:=l.prog) (w:=w) (base:=base) o7 (oY o7 B) E8 (fun _ _ _ _ _ _ us hl=>by obtain⟨u0,rfl⟩:=gs hl;rfl);have u7:=Cal.of (P:=l.prog) (w:=w) (base:=base) E9 (xJ E9 B ba ii) FQ (fun _ _ _ _ _ _ us hl=>by obtain⟨u0,rfl⟩:=gs hl;rfl);have j4:=Cal.of (P:=l.prog) (w:=w) (base:=base) t7 (qN t7 B hV TX yn9 eI) Fq (fun _ _ _ _ _ _ us hl=>by obtain⟨u0,u1,u2,rfl⟩:=jJ hl;rfl);exact El IP B TG ⟨FU,Hy,Hz,FV⟩ Jv IQ t9 ba m9 u7 j4 eI
theorem walk{l:PySem.W.OpenLaw}{q:Program}{loose:List Str}{XP:(Str->Option Value)->Heap->Prop}{YP:World->Heap->Prop}{d:DefRec}{K:Params->PySem.W.Frag}(hn:l.most=some 63)(hdf:d.params.defaults=[])
 (hY:∀(w:World)(h:Heap),YP w h->(K w.params).In h)
 (F:∀(w:World)(mg:Str->Option Value)(fa:Addr)(h:Heap),(K w.params).In h->h.Ns mainGlobals mg->mg d.name=some (.ref fa) ->
  ∃fd:FuncData,(∀(s:Shared) (u:Value),BindsTo s fd ⟨[u],[]⟩ [("_law_script",u)])/\∀base:Heap,(K w.params).In base->base.Ns mainGlobals mg->FnOk l.prog w (K w.params) mg base CX0 38 fa fd ["_law_script"] (vU (K w.params))) :
 PySem.W.WalkO q loose XP YP l.row.toRowW d [] (fun f vs=>PySem.call f vs):=
 L2.walk_of (n:=63) (k:=38) (x:="_law_script") (CX:=fun _=>CX0) (sp:=fun w=>vU (K w.params)) hn (by decide) hdf ⟨rfl,by decide,by decide⟩ hY F (fun _ _ a ns hl _ hS=>⟨a,ns,rfl,hS,hl,fun _=>rfl⟩) fun _ _ _ _ _ z=>z
end Mine
namespace PySem.W.Fast
def tw11037740441874550301:=()
def tw2057522694671344601:=()
def tw13100281144797331711:=()
def tw2515305090794863539:=()
def tw1146677720663947673:=()
def tw4725644811934216774:=()
def tw4753101830110786310:=()
def tw3500049385469501780:=()
def tw12426178003547260234:=()
def tw8448500447125662748:=()
def tw6135589399684044388:=()
def tw13207457872830344985:=()
def tw3365967228499642156:=()
def tw583674894496007560:=()
def tw7745311365742330703:=()
def tw727441615789513650:=()
def tw11480648118508892291:=()
def tw8640209973810822360:=()
def tw5723532938074366837:=()
def tw2466239220556712656:=()
def tw17569596151289771305:=()
def tw12755472327933427379:=()
def tw4262818753818431568:=()
def tw16960714423229570266:=()
def tw12902678481361991609:=()
def tw16542489021251431492:=()
def tw15380974032604767073:=()
def tw3672252785099281176:=()
def tw230455616862778721:=()
def tw6321942367314904665:=()
def tw15803729411452261275:=()
def tw14112180565954159531:=()
def tw12618100195755362066:=()
def tw10168228675334156553:=()
def tw6381730268283209685:=()
def tw94614097349366881:=()
def tw9366674908191110606:=()
def tw1563847457581519963:=()
def tw17196374308983407898:=()
def tw3973484547672968346:=()
def tw11408978873677700263:=()
def tw4389057373062627785:=()
def tw10856264050922248972:=()
def tw13555806836523667227:=()
def tw6608220990807483593:=()
def tw10011210094487290003:=()
def tw13140774683077194655:=()
def tw7829787553321509634:=()
def tw17506267958971978045:=()
def tw17393741965984909080:=()
def tw380776839468586585:=()
def tw12530021541314493728:=()
def tw1431643957747415266:=()
def tw12905176460060813419:=()
def tw3422733593609362024:=()
def tw17118093351717786617:=()
def tw10050215587598194232:=()
def tw2874784528807959877:=()
def tw14100208181451399207:=()
def tw13199295013173911795:=()
def tw9841650171875244873:=()
def tw7802414216322241918:=()
def tw6532749156539710799:=()
def tw1768059321392237755:=()
def tw1700917412055590829:=()
def tw14991128664698871002:=()
def tw1429861380979615285:=()
def tw6458538783976625132:=()
def tw2639744888660423108:=()
def tw17205261599934645246:=()
def tw2590817115131634994:=()
def tw8113891905942726076:=()
def tw16249273379534046075:=()
def tw5300395605776453712:=()
def tw9700402574087998132:=()
def tw17164392469038973252:=()
def tw3256625845204271863:=()
def tw1692712927627310931:=()
def tw6992014724722159834:=()
def tw17339910653077508760:=()
def tw17784780932480537416:=()
def tw2992435326869717129:=()
def tw10575473593217930553:=()
def tw13253584710496485544:=()
def tw17084438245715693316:=()
def tw2862371415309775158:=()
def tw6986625393441293554:=()
def tw6901936349969962931:=()
def tw7972505245157075449:=()
def tw4493959299068107514:=()
def tw6969230595377907899:=()
def tw7636737367041753696:=()
def tw2666700629472122312:=()
def tw6723781586713400441:=()
def tw6030090315660439342:=()
def tw18119251620318611186:=()
def tw6451722455258299332:=()
def tw1412420329326516226:=()
def tw270418278357708956:=()
def tw14248684492026523467:=()
def tw17771704696208514429:=()
def tw17624708391791896510:=()
def tw719649992933382508:=()
def tw5341495716892081498:=()
def tw321811813254651708:=()
def tw7242772851774709422:=()
def tw17695978944381919334:=()
def tw3427207288349608993:=()
def tw7203564237146016061:=()
def tw2283820980970874473:=()
def tw13956162457590161200:=()
def tw524828493137114824:=()
def tw15860424654942122245:=()
def tw1565680984186203479:=()
def tw15251299696009939443:=()
def tw8324309900776067897:=()
def tw14448600735006446778:=()
def tw12513509980600482141:=()
def tw3222328653124942595:=()
def tw6468856221338732186:=()
def tw17987076622940323199:=()
def tw10940834320163489714:=()
def tw14056761476884249751:=()
def tw10909909287576896444:=()
def tw6299001372661522204:=()
def tw11000659118842197151:=()
def tw14789717910920901992:=()
def tw2996926351135607280:=()
def tw9016676337795129807:=()
def tw12099948950908410759:=()
def tw2107593596823794954:=()
def tw1149156211292085328:=()
def tw1538021722977403673:=()
def tw13198252580076783413:=()
def tw10844991514997278949:=()
def tw11615676031784117428:=()
def tw1988571018848038061:=()
def tw1554621243036031293:=()
def tw11406278357707293193:=()
def tw11245011104265283509:=()
def tw633520289495892691:=()
def tw18071298792681305767:=()
def tw7974211043504577876:=()
def tw13743925455274437191:=()
def tw14197653220830125755:=()
def tw14438816957209331279:=()
def tw17654466740508792048:=()
def tw558103307663576069:=()
def tw12778384174126835608:=()
def tw3396278114860879155:=()
def tw7600903392767638239:=()
def tw16224411594062914826:=()
def tw12404543782126809523:=()
def tw13413206807359505597:=()
def tw11344947437144595637:=()
def tw9324385327362912562:=()
def tw13263770514717686437:=()
def tw7270708989006039942:=()
def tw6774939149800357376:=()
def tw16145074410368327114:=()
def tw12856085167478651921:=()
def tw11687947237527338758:=()
def tw2833720968202561362:=()
def tw10442664293023205332:=()
def tw2816097605618386807:=()
def tw11916922778173420589:=()
def tw10785692638454675019:=()
def tw16958738713160375021:=()
def tw659181932322810998:=()
def tw15303699760380157653:=()
def tw12799574582482546702:=()
def tw13695868348135775259:=()
def tw11990105448744594604:=()
def tw11826042982993225816:=()
def tw14895470608675869567:=()
def tw6925205492503353227:=()
def tw3465907576482965420:=()
def tw11087452333299281407:=()
def tw16066084561023865102:=()
def tw433814056253733591:=()
def tw15364158220438288361:=()
def tw2271336107878134699:=()
def tw11613823540332360492:=()
def tw5906028622624435928:=()
def tw12662280563140244354:=()
def tw3111826618621167915:=()
def tw8373364889412475900:=()
def tw13144634171136830163:=()
def tw14010773641594990430:=()
def tw17424484186473351174:=()
def tw8926847307527261555:=()
def tw16884106589794561015:=()
def tw610526741768322967:=()
def tw6058236678569256724:=()
def tw235152270241724739:=()
def tw5035169976132012133:=()
def tw6306936784332223013:=()
def tw9180882760822883044:=()
def tw555968002170689129:=()
def tw11417862849040415509:=()
def tw2946550852726309936:=()
def tw11978073342493741551:=()
def tw13789453456629597494:=()
def tw16616094060515319833:=()
def tw5400655252135025596:=()
def tw16670139230873054527:=()
def tw8638594297931365701:=()
def tw16936075596084290867:=()
def tw2425296707684531432:=()
def tw14874801624807250602:=()
def tw5779866394196781300:=()
def tw15851998325137498729:=()
def tw3529198037890485355:=()
def tw3538575763601974894:=()
def tw16141158311363514801:=()
def tw5657951676743397469:=()
def tw3374794137643462016:=()
def tw11451713127734675766:=()
def tw12966160011627309995:=()
def tw15814397782965593114:=()
def tw11906855926188698940:=()
def tw8123263167421120087:=()
def tw2763711616207367489:=()
def tw10123434855175282522:=()
def tw10652378634427893817:=()
def tw11502611782483326180:=()
def tw17657564903548484202:=()
def tw13622994949851060964:=()
def tw15751382200102990247:=()
def tw2993059540500724931:=()
def tw17960897937359871497:=()
def tw16391700820431011659:=()
def tw5010365351666528740:=()
def tw1694561358142946328:=()
def tw15855936050818389086:=()
def tw12047672080762325664:=()
def tw5881562626075775052:=()
def tw630381313769823577:=()
def tw683712631498252312:=()
def tw1027763841462168796:=()
def tw12281005508417172918:=()
def tw13026350434611785327:=()
def tw17633011401657204111:=()
def tw2341786664136876611:=()
def tw6647396253624836157:=()
def tw7814014786118776140:=()
def tw9105819011237079657:=()
def tw11954831486656511519:=()
def tw14186696042529363742:=()
def tw10614577212150507861:=()
def tw4481059012950350784:=()
def tw5864860204221099696:=()
def tw15137440525341974069:=()
def tw18095196699056953803:=()
def tw14432879291640187368:=()
def tw9939221334444569263:=()
def tw14640157483090535030:=()
def tw1947064510596376303:=()
def tw15461586610843396422:=()
def tw11524045733406378257:=()
def tw16091135920738704323:=()
def tw12350994071763682321:=()
def tw9386860505398517412:=()
def tw10667870396198048882:=()
def tw18115059814580847050:=()
def tw1834269095475959492:=()
def tw16202813512966784600:=()
def tw14634418257058022933:=()
def tw14899219425888294881:=()
def tw10255786543098669960:=()
def tw14235954716076757797:=()
def tw6549603796544190543:=()
def tw9801989462441111425:=()
def tw12320466330887915873:=()
def tw1689450885777108461:=()
def tw4392889006369795082:=()
def tw13921369123407540194:=()
def tw1033130659931034465:=()
def tw13196646749047732430:=()
def tw18115567368794136500:=()
def tw4137092216304279023:=()
def tw13965092668795511614:=()
def tw16789777404389688668:=()
def tw7785698041851334577:=()
def tw16606522177513040361:=()
def tw5887953807448539493:=()
def tw827449601268391472:=()
def tw6589204532893116038:=()
def tw9799217521859945284:=()
def tw14899373194786868683:=()
def tw8017965144158485001:=()
def tw18141165698932795213:=()
def tw6055095259277675931:=()
def tw1498930151387960359:=()
def tw13952966485094424669:=()
def tw7567621348525765394:=()
def tw1323418021342039662:=()
def tw2578623539669766764:=()
def tw12565542247471870535:=()
def tw4326408918825506401:=()
def tw4902222095031334980:=()
def tw11938801331130837726:=()
def tw15415210402607334042:=()
def tw17465811475878121372:=()
def tw9492999281472141348:=()
def tw17014705096618091030:=()
def tw6005102259152960662:=()
def tw678018038113481966:=()
def tw11764872274367061607:=()
def tw15791214010983225499:=()
def tw3014961399789390139:=()
def tw4972119263016516427:=()
def tw9968850757738793190:=()
def tw12547621077121671510:=()
def tw1297363246205213772:=()
def tw3855654346221340827:=()
def tw9978447095548613272:=()
def tw10478019613659950227:=()
def tw13004789620605004548:=()
def tw1824591444732488362:=()
def tw18074542692834591014:=()
def tw7562447921059519939:=()
def tw4261647643193935718:=()
def tw4015335983244358395:=()
def tw5658718582452827100:=()
def tw17823634298118090087:=()
def tw13197376096139754262:=()
def tw4711445676488485737:=()
def tw5104229990486036455:=()
def tw5930594566553027158:=()
def tw747780341308040541:=()
def tw16133847440084258344:=()
def tw5278251264054226660:=()
def tw16119788732077570472:=()
def tw17160989062584692683:=()
def tw9337950159282776043:=()
def tw7930708658686084807:=()
def tw1967060241638422662:=()
def tw11837311781236681778:=()
def tw799123916346542367:=()
def tw6613331744108765472:=()
def tw2064443123809660933:=()
def tw7020644407279232211:=()
def tw9744345886806893328:=()
def tw17829818175234723089:=()
def tw12993848362739602882:=()
def tw14954077585994266099:=()
def tw4996248046519089853:=()
def tw11428875038267322453:=()
def tw15602923538237098187:=()
def tw4995794914435714949:=()
def tw1879901079523813094:=()
def tw14413351228646122325:=()
def tw18088644438272436567:=()
def tw7454416900047543285:=()
def tw14042507038107501168:=()
def tw9471026251575270095:=()
def tw13545810349005422416:=()
def tw13546154293341051557:=()
def tw17903231379844804216:=()
def tw5658862206442841913:=()
def tw716479076479031731:=()
def tw3660743373234919999:=()
def tw2977387141588764924:=()
def tw11557424831819953192:=()
def tw3433458977672797426:=()
def tw12426037430781612230:=()
def tw77398211425854629:=()
def tw6857914697135627716:=()
def tw3450804949682492789:=()
def tw11361749489001240742:=()
def tw839921249093548457:=()
def tw9770554095298858830:=()
def tw12309431421871627123:=()
def tw11971912241195467942:=()
def tw13227924649116552388:=()
def tw5807507061371765226:=()
def tw12232694265084850604:=()
def tw5636075184882828508:=()
def tw10236060531228484731:=()
def tw6539005570225891482:=()
def tw10478961304407587964:=()
def tw4125660899280408729:=()
def tw9541892621225935054:=()
def tw5938826754354943110:=()
def tw8234347127488045445:=()
def tw12922404755053766321:=()
def tw17638978854515273806:=()
def tw467922744507421622:=()
def tw4612758187971146694:=()
def tw10119530766769275385:=()
def tw7434238681890123273:=()
def tw9903646110255588308:=()
def tw18387292828147748326:=()
def tw8964602554434354007:=()
def tw4575016808423537552:=()
def tw9749798027828044481:=()
def tw12033750085132974747:=()
def tw9022573690860580676:=()
def tw12304046570381009287:=()
end PySem.W.Fast
open PySem PySem.W PyProof.Rows
set_option maxRecDepth 100000 in
set_option maxHeartbeats 0 in
theorem PySem.Challenge.cw_asktally_k56_too_many_rows_of_coins_holds : PySem.Challenge.rw_asktally_k56_too_many_rows_of_coins.Holds := by
 w_on; o_law; k_head; (case hw=>w_witness2)
 k_fill
 refine Mine.walk (l:=PySem.Challenge.rw_asktally_k56_too_many_rows_of_coins) rfl rfl (fun w h Y=>PySem.W.kIn_of Y) ?F
 case F =>
  intro w mg fa h KX G hmg
  refine' Mine.all_mk KX G hmg ?a0 ?l0 ?c0 ?k0 ?a1 ?l1 ?c1 ?k1 ?a2 ?l2 ?c2 ?k2 ?a3 ?l3 ?c3 ?k3 ?a4 ?l4 ?c4 ?k4 ?a5 ?l5 ?c5 ?k5 ?a6 ?l6 ?c6 ?k6 ?a7 ?l7 ?c7 ?k7 ?a8 ?l8 ?c8 ?k8 ?a9 ?l9 ?c9 ?k9 ?a10 ?l10 ?c10 ?k10 ?a11 ?l11 ?c11 ?k11 ?a12 ?l12 ?c12 ?k12 ?a13 ?l13 ?c13 ?k13 ?a14 ?l14 ?c14 ?k14 ?a15 ?l15 ?c15 ?k15 ?a16 ?l16 ?c16 ?k16 ?a17 ?l17 ?c17 ?k17 ?a18 ?l18 ?c18 ?k18 ?a19 ?l19 ?c19 ?k19 ?a20 ?l20 ?c20 ?k20 ?a21 ?l21 ?c21 ?k21 ?a22 ?l22 ?c22 ?k22 ?a23 ?l23 ?c23 ?k23 ?a24 ?l24 ?c24 ?k24 ?a25 ?l25 ?c25 ?k25 ?a26 ?l26 ?c26 ?k26 ?a27 ?l27 ?c27 ?k27 ?a28 ?l28 ?c28 ?k28 ?a29 ?l29 ?c29 ?k29 ?a30 ?l30 ?c30 ?k30 ?a31 ?l31 ?c31 ?k31 ?a32 ?l32 ?c32 ?k32 ?a33 ?l33 ?c33 ?k33 ?a34 ?l34 ?c34 ?k34 ?a35 ?l35 ?c35 ?k35 ?a36 ?l36 ?c36 ?k36 ?a37 ?l37 ?c37 ?k37 ?a38 ?l38 ?c38 ?k38 ?a39 ?l39 ?c39 ?k39 ?a40 ?l40 ?c40 ?k40 ?Hx ?Hy ?Hz ?HB ?HC ?HD ?HE ?HF ?HG ?HI ?FD ?HJ ?HK ?HL ?HM ?FE ?HN ?HQ ?HR ?HS ?FF ?HU ?FR ?FS ?FT ?FU ?FV ?nt ?B8 ?B9 ?q8 ?dbgg ?dbaI ?dbiI ?dblI ?dbcI ?dbkI ?dbaW ?dbiW ?dblW ?dbcW ?dbkW ?dbaU ?dbiU ?dblU ?dbcU ?dbkU ?dbaH ?dbiH ?dblH ?dbcH ?dbkH ?dbaT ?dbiT ?dblT ?dbcT ?dbkT ?dbaC ?dbiC ?dblC ?dbcC ?dbkC ?dbaB ?dbiB ?dblB ?dbcB ?dbkB ?dbaR ?dbiR ?dblR ?dbcR ?dbkR ?dbaG ?dbiG ?dblG ?dbcG ?dbkG ?dbaE ?dbiE ?dblE ?dbcE ?dbkE ?dbaN ?dbiN ?dblN ?dbcN ?dbkN ?dbpg ?dbhdi ?dbpov ?dbsat ?dbmki ?dbkcl ?dbn_game ?dbn_awaited ?dbn_claims ?dbn_s ?dbn_heard ?dbn_tossed ?dbn_held ?dbn_places ?HV ?HW ?HX ?HY ?HZ ?Ia ?Ib ?Ic ?Id ?Ie ?FG ?Ig ?Ih ?Ii ?Ij ?FH ?Ik ?Il ?Im ?Io ?FI ?Ip ?Iq ?Ir ?Iu ?FJ ?Iv ?FW ?FX ?FY ?FZ ?Gc ?C9 ?u9 ?D1 ?D4 ?Ge ?v3 ?v4 ?Iw ?Ix ?Iy ?Iz ?IA ?IB ?IC ?ID ?IE ?IF ?FK ?IG ?IH ?II ?IJ ?FL ?IK ?IL ?IM ?IN ?FM ?IO ?Gf ?Gg ?Gh ?Gi ?Gj ?D6 ?v5 ?j5 ?CW ?gmr ?ge ?gmo ?gAs ?iAs0 ?xga ?xrd ?xfc0 ?xlk ?xtp ?xcd ?xkp ?yg0 ?yo0 ?ys0 ?ya0 ?yt0 ?yc0 ?ye0 ?yg1 ?yo1 ?ys1 ?ya1 ?yt1 ?yc1 ?ye1 ?yg2 ?yo2 ?ys2 ?ya2 ?yt2 ?yc2 ?ye2 ?yg3 ?yo3 ?ys3 ?ya3 ?yt3 ?yc3 ?ye3 ?yg4 ?yo4 ?ys4 ?ya4 ?yt4 ?yc4 ?ye4 ?yg5 ?yo5 ?ys5 ?ya5 ?yt5 ?yc5 ?ye5 ?yg6 ?yo6 ?ys6 ?ya6 ?yt6 ?yc6 ?ye6 ?yg7 ?yo7 ?ys7 ?ya7 ?yt7 ?yc7 ?ye7 ?yg8 ?yo8 ?ys8 ?ya8 ?yt8 ?yc8 ?ye8 ?yg9 ?yo9 ?ys9 ?ya9 ?yt9 ?yc9 ?yi9 ?yl9 ?yk9 ?yp9 ?yq9 ?yn9 ?ye9 ?hV0 ?ynd ?z0 ?z1 ?z2 ?z3 ?z4 ?z5 ?z6 ?z7 ?z8 ?z9 ?z10 ?z11 ?z12 ?z13 ?z14
  (case a0=>k_is); (case l0=>k_is); (case c0=>k_is); (case k0=>k_is)
  (case a1=>k_is); (case l1=>k_is); (case c1=>k_is); (case k1=>k_is)
  (case a2=>k_is); (case l2=>k_is); (case c2=>k_is); (case k2=>k_is)
  (case a3=>k_is); (case l3=>k_is); (case c3=>k_is); (case k3=>k_is)
  (case a4=>k_is); (case l4=>k_is); (case c4=>k_is); (case k4=>k_is)
  (case a5=>k_is); (case l5=>k_is); (case c5=>k_is); (case k5=>k_is)
  (case a6=>k_is); (case l6=>k_is); (case c6=>k_is); (case k6=>k_is)
  (case a7=>k_is); (case l7=>k_is); (case c7=>k_is); (case k7=>k_is)
  (case a8=>k_is); (case l8=>k_is); (case c8=>k_is); (case k8=>k_is)
  (case a9=>k_is); (case l9=>k_is); (case c9=>k_is); (case k9=>k_is)
  (case a10=>k_is); (case l10=>k_is); (case c10=>k_is); (case k10=>k_is)
  (case a11=>k_is); (case l11=>k_is); (case c11=>k_is); (case k11=>k_is)
  (case a12=>k_is); (case l12=>k_is); (case c12=>k_is); (case k12=>k_is)
  (case a13=>k_is); (case l13=>k_is); (case c13=>k_is); (case k13=>k_is)
  (case a14=>k_is); (case l14=>k_is); (case c14=>k_is); (case k14=>k_is)
  (case a15=>k_is); (case l15=>k_is); (case c15=>k_is); (case k15=>k_is)
  (case a16=>k_is); (case l16=>k_is); (case c16=>k_is); (case k16=>k_is)
  (case a17=>k_is); (case l17=>k_is); (case c17=>k_is); (case k17=>k_is)
  (case a18=>k_is); (case l18=>k_is); (case c18=>k_is); (case k18=>k_is)
  (case a19=>k_is); (case l19=>k_is); (case c19=>k_is); (case k19=>k_is)
  (case a20=>k_is); (case l20=>k_is); (case c20=>k_is); (case k20=>k_is)
  (case a21=>k_is); (case l21=>k_is); (case c21=>k_is); (case k21=>k_is)
  (case a22=>k_is); (case l22=>k_is); (case c22=>k_is); (case k22=>k_is)
  (case a23=>k_is); (case l23=>k_is); (case c23=>k_is); (case k23=>k_is)
  (case a24=>k_is); (case l24=>k_is); (case c24=>k_is); (case k24=>k_is)
  (case a25=>k_is); (case l25=>k_is); (case c25=>k_is); (case k25=>k_is)
  (case a26=>k_is); (case l26=>k_is); (case c26=>k_is); (case k26=>k_is)
  (case a27=>k_is); (case l27=>k_is); (case c27=>k_is); (case k27=>k_is)
  (case a28=>k_is); (case l28=>k_is); (case c28=>k_is); (case k28=>k_is)
  (case a29=>k_is); (case l29=>k_is); (case c29=>k_is); (case k29=>k_is)
  (case a30=>k_is); (case l30=>k_is); (case c30=>k_is); (case k30=>k_is)
  (case a31=>k_is); (case l31=>k_is); (case c31=>k_is); (case k31=>k_is)
  (case a32=>k_is); (case l32=>k_is); (case c32=>k_is); (case k32=>k_is)
  (case a33=>k_is); (case l33=>k_is); (case c33=>k_is); (case k33=>k_is)
  (case a34=>k_is); (case l34=>k_is); (case c34=>k_is); (case k34=>k_is)
  (case a35=>k_is); (case l35=>k_is); (case c35=>k_is); (case k35=>k_is)
  (case a36=>k_is); (case l36=>k_is); (case c36=>k_is); (case k36=>k_is)
  (case a37=>k_is); (case l37=>k_is); (case c37=>k_is); (case k37=>k_is)
  (case a38=>k_is); (case l38=>k_is); (case c38=>k_is); (case k38=>k_is)
  (case a39=>k_is); (case l39=>k_is); (case c39=>k_is); (case k39=>k_is)
  (case a40=>k_is); (case l40=>k_is); (case c40=>k_is); (case k40=>k_is)
  (case Hx=>k_is)
  (case Hy=>k_is)
  (case Hz=>k_is)
  (case HB=>k_is)
  (case HC=>k_is)
  (case HD=>k_is)
  (case HE=>k_is)
  (case HF=>k_is)
  (case HG=>k_is)
  (case HI=>k_is)
  (case FD=>k_is)
  (case HJ=>k_is)
  (case HK=>k_is)
  (case HL=>k_is)
  (case HM=>k_is)
  (case FE=>k_is)
  (case HN=>k_is)
  (case HQ=>k_is)
  (case HR=>k_is)
  (case HS=>k_is)
  (case FF=>k_is)
  (case HU=>k_is)
  (case FR=>k_is)
  (case FS=>k_is)
  (case FT=>k_is)
  (case FU=>k_is)
  (case FV=>k_is)
  (case nt=>k_is)
  (case B8=>k_is)
  (case B9=>k_is)
  (case q8=>k_is)
  (case dbgg=>k_is)
  (case dbaI=>k_is)
  (case dbiI=>k_is)
  (case dblI=>k_is)
  (case dbcI=>k_is)
  (case dbkI=>k_is)
  (case dbaW=>k_is)
  (case dbiW=>k_is)
  (case dblW=>k_is)
  (case dbcW=>k_is)
  (case dbkW=>k_is)
  (case dbaU=>k_is)
  (case dbiU=>k_is)
  (case dblU=>k_is)
  (case dbcU=>k_is)
  (case dbkU=>k_is)
  (case dbaH=>k_is)
  (case dbiH=>k_is)
  (case dblH=>k_is)
  (case dbcH=>k_is)
  (case dbkH=>k_is)
  (case dbaT=>k_is)
  (case dbiT=>k_is)
  (case dblT=>k_is)
  (case dbcT=>k_is)
  (case dbkT=>k_is)
  (case dbaC=>k_is)
  (case dbiC=>k_is)
  (case dblC=>k_is)
  (case dbcC=>k_is)
  (case dbkC=>k_is)
  (case dbaB=>k_is)
  (case dbiB=>k_is)
  (case dblB=>k_is)
  (case dbcB=>k_is)
  (case dbkB=>k_is)
  (case dbaR=>k_is)
  (case dbiR=>k_is)
  (case dblR=>k_is)
  (case dbcR=>k_is)
  (case dbkR=>k_is)
  (case dbaG=>k_is)
  (case dbiG=>k_is)
  (case dblG=>k_is)
  (case dbcG=>k_is)
  (case dbkG=>k_is)
  (case dbaE=>k_is)
  (case dbiE=>k_is)
  (case dblE=>k_is)
  (case dbcE=>k_is)
  (case dbkE=>k_is)
  (case dbaN=>k_is)
  (case dbiN=>k_is)
  (case dblN=>k_is)
  (case dbcN=>k_is)
  (case dbkN=>k_is)
  (case dbpg=>k_is)
  (case dbhdi=>k_is)
  (case dbpov=>k_is)
  (case dbsat=>k_is)
  (case dbmki=>k_is)
  (case dbkcl=>k_is)
  (case dbn_game=>k_is)
  (case dbn_awaited=>k_is)
  (case dbn_claims=>k_is)
  (case dbn_s=>k_is)
  (case dbn_heard=>k_is)
  (case dbn_tossed=>k_is)
  (case dbn_held=>k_is)
  (case dbn_places=>k_is)
  (case HV=>k_is)
  (case HW=>k_is)
  (case HX=>k_is)
  (case HY=>k_is)
  (case HZ=>k_is)
  (case Ia=>k_is)
  (case Ib=>k_is)
  (case Ic=>k_is)
  (case Id=>k_is)
  (case Ie=>k_is)
  (case FG=>k_is)
  (case Ig=>k_is)
  (case Ih=>k_is)
  (case Ii=>k_is)
  (case Ij=>k_is)
  (case FH=>k_is)
  (case Ik=>k_is)
  (case Il=>k_is)
  (case Im=>k_is)
  (case Io=>k_is)
  (case FI=>k_is)
  (case Ip=>k_is)
  (case Iq=>k_is)
  (case Ir=>k_is)
  (case Iu=>k_is)
  (case FJ=>k_is)
  (case Iv=>k_is)
  (case FW=>k_is)
  (case FX=>k_is)
  (case FY=>k_is)
  (case FZ=>k_is)
  (case Gc=>k_is)
  (case C9=>k_is)
  (case u9=>k_is)
  (case D1=>k_is)
  (case D4=>k_is)
  (case Ge=>k_is)
  (case v3=>k_is)
  (case v4=>k_is)
  (case Iw=>k_is)
  (case Ix=>k_is)
  (case Iy=>k_is)
  (case Iz=>k_is)
  (case IA=>k_is)
  (case IB=>k_is)
  (case IC=>k_is)
  (case ID=>k_is)
  (case IE=>k_is)
  (case IF=>k_is)
  (case FK=>k_is)
  (case IG=>k_is)
  (case IH=>k_is)
  (case II=>k_is)
  (case IJ=>k_is)
  (case FL=>k_is)
  (case IK=>k_is)
  (case IL=>k_is)
  (case IM=>k_is)
  (case IN=>k_is)
  (case FM=>k_is)
  (case IO=>k_is)
  (case Gf=>k_is)
  (case Gg=>k_is)
  (case Gh=>k_is)
  (case Gi=>k_is)
  (case Gj=>k_is)
  (case D6=>k_is)
  (case v5=>k_is)
  (case j5=>k_is)
  (case CW=>k_is)
  (case gmr=>k_is)
  (case ge=>k_is)
  (case gmo=>k_is)
  (case gAs=>k_is)
  (case iAs0=>k_is)
  (case xga=>k_is)
  (case xrd=>k_is)
  (case xfc0=>k_is)
  (case xlk=>k_is)
  (case xtp=>k_is)
  (case xcd=>k_is)
  (case xkp=>k_is)
  (case yg0=>k_is)
  (case yo0=>k_is)
  (case ys0=>k_is)
  (case ya0=>k_is)
  (case yt0=>k_is)
  (case yc0=>k_is)
  (case ye0=>decide)
  (case yg1=>k_is)
  (case yo1=>k_is)
  (case ys1=>k_is)
  (case ya1=>k_is)
  (case yt1=>k_is)
  (case yc1=>k_is)
  (case ye1=>decide)
  (case yg2=>k_is)
  (case yo2=>k_is)
  (case ys2=>k_is)
  (case ya2=>k_is)
  (case yt2=>k_is)
  (case yc2=>k_is)
  (case ye2=>decide)
  (case yg3=>k_is)
  (case yo3=>k_is)
  (case ys3=>k_is)
  (case ya3=>k_is)
  (case yt3=>k_is)
  (case yc3=>k_is)
  (case ye3=>decide)
  (case yg4=>k_is)
  (case yo4=>k_is)
  (case ys4=>k_is)
  (case ya4=>k_is)
  (case yt4=>k_is)
  (case yc4=>k_is)
  (case ye4=>decide)
  (case yg5=>k_is)
  (case yo5=>k_is)
  (case ys5=>k_is)
  (case ya5=>k_is)
  (case yt5=>k_is)
  (case yc5=>k_is)
  (case ye5=>decide)
  (case yg6=>k_is)
  (case yo6=>k_is)
  (case ys6=>k_is)
  (case ya6=>k_is)
  (case yt6=>k_is)
  (case yc6=>k_is)
  (case ye6=>decide)
  (case yg7=>k_is)
  (case yo7=>k_is)
  (case ys7=>k_is)
  (case ya7=>k_is)
  (case yt7=>k_is)
  (case yc7=>k_is)
  (case ye7=>decide)
  (case yg8=>k_is)
  (case yo8=>k_is)
  (case ys8=>k_is)
  (case ya8=>k_is)
  (case yt8=>k_is)
  (case yc8=>k_is)
  (case ye8=>decide)
  (case yg9=>k_is)
  (case yo9=>k_is)
  (case ys9=>k_is)
  (case ya9=>k_is)
  (case yt9=>k_is)
  (case yc9=>k_is)
  (case yi9=>k_is)
  (case yl9=>k_is)
  (case yk9=>k_is)
  (case yp9=>k_is)
  (case yq9=>k_is)
  (case yn9=>k_is)
  (case ye9=>decide)
  (case hV0=>k_is)
  (case ynd=>decide)
  (case z0=>k_is)
  (case z1=>k_is)
  (case z2=>k_is)
  (case z3=>k_is)
  (case z4=>k_is)
  (case z5=>k_is)
  (case z6=>k_is)
  (case z7=>k_is)
  (case z8=>k_is)
  (case z9=>k_is)
  (case z10=>k_is)
  (case z11=>k_is)
  (case z12=>k_is)
  (case z13=>k_is)
  (case z14=>k_is)
