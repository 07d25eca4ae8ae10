import PyProof.Rows.All
import Wide.All
import OpenK.AllK
import Wide.FinOn
import Lean
import PyProof.EqAt
import PyProof.EqKinds
import PyProof.TupleCall
import PySem.Challenge.RW_asktally_k69_whole_disputes_by_a_model
set_option Elab.async false
set_option linter.all false
set_option maxRecDepth 100000
set_option bootstrap.genMatcherCode false
set_option compiler.extract_closed false
local macro_rules | `(tactic|omega)=>`(tactic|first | lia | omega +splitDisjunctions)
local macro_rules | `(command|def $n:declId $s:optDeclSig $b:declVal)=>`(command|noncomputable def $n:declId $s:optDeclSig $b:declVal)
noncomputable section
section
open PySem PySem.Spec PyProof.Rows
abbrev zA0:=@wpAny_bind
theorem zD0.{u}{c:Prop}{h:Decidable c}(hc:¬c){α:Sort u}{t e:α}:ite c t e=e:=if_neg hc
theorem zF0.{u}{c:Prop}{h:Decidable c}(hc:c){α:Sort u}{t e:α}:ite c t e=t:=if_pos hc
abbrev zG0:=@Nat.le_refl
abbrev zH0:=@List.length_map
abbrev zI0:=@wpAny_pure
abbrev zK0:=@List.map_append
abbrev zL0:=@List.length_append
theorem zM0.{u}{α:Type u}{a b:α}(h:a∈[b]):a=b:=List.mem_singleton.mp h
abbrev zN0:=@Heap.lt_size
abbrev zO0:=@Heap.get?_push_of_some
abbrev zP0:=@List.size_toArray
abbrev zQ0:=@List.getElem?_eq_getElem
abbrev zR0:=@Option.some.inj
abbrev zS0:=@Nat.ne_of_lt
theorem zT0.{u}{α:Type u}{a:α}{s t:List α}(h:a∈s++t):a∈s∨a∈t:=List.mem_append.mp h
abbrev zU0:=@Int.emod_nonneg
abbrev zV0:=@Heap.get?_push_size
theorem zW0.{u}{α:Type u}{l:List α}{i:Nat}{a:α}(h:l[i]?=some a):∃h:i<l.length,l[i]=a:=List.getElem?_eq_some_iff.mp h
abbrev zX0:=@Int.emod_lt_of_pos
abbrev zY0:=@Bool.false_ne_true
abbrev zZ0:=@Nat.le_trans
abbrev qA0:=@List.map_cons
abbrev qB0:=@Nat.zero_le
theorem qC0.{u}{α:Type u}{a b:α}{l:List α}(h:a∈b::l):a=b∨a∈l:=List.mem_cons.mp h
abbrev qD0:=@List.getElem?_map
abbrev qE0:=@List.mem_of_getElem?
abbrev qF0:=@Nat.lt_of_lt_of_le
abbrev qG0:=@List.mem_cons_self
abbrev qH0:=@List.length_cons
abbrev qI0:=@List.take_length
abbrev qJ0:=@List.take_add_one
abbrev qK0:=@Nat.le_succ
abbrev qL0:=@List.mem_cons_of_mem
abbrev qM0:=@List.length_take
abbrev qN0:=@Int.emod_eq_of_lt
abbrev qO0:=@Int.toNat_natCast
abbrev qP0:=@Nat.ne_of_gt
abbrev qQ0:=@List.length_singleton
abbrev qR0:=@List.length_range
abbrev qS0:=@List.getD_eq_getElem?_getD
abbrev qT0:=@List.getElem_mem
abbrev qU0:=@List.mem_append_right
abbrev qV0:=@Nat.lt_irrefl
theorem qW0{α β:Type}{f:α->β}{x:Option α}{b:β}(h:x.map f=some b):∃a,x=some a/\f a=b:=Option.map_eq_some_iff.mp h
abbrev qX0:=@Int.mul_le_mul_of_nonneg_left
end
namespace L2
open PySem PySem.Spec PyProof.Rows
abbrev Key:=Sum Int Str
def pq:Key->Value->Bool
 | .inl k,v=>Value.isInt k v
 | .inr x,v=>Value.isStrOf x v
def keyH(w:World):Key->Int
 | .inl k=>hashInt k
 | .inr x=>hashStr w x
theorem cf:∀{k:Key}{v:Value},pq k v=true->(∃i t,k=Sum.inl i/\v=Value.int i t)∨(∃x t,k=Sum.inr x/\v=Value.str x t)
 | .inl i,v,h=>by
   obtain⟨t,e⟩:=Value.isInt_shape (k:=i) (v:=v) h;exact .inl ⟨i,t,rfl,e⟩
 | .inr x,v,h=>by
   obtain⟨t,e⟩:=Value.isStrOf_shape (x:=x) (v:=v) h;exact .inr ⟨x,t,rfl,e⟩
theorem wU(i:Int)(t:Tok):pq (.inl i) (.int i t)=true:=by simp [pq,Value.isInt]
theorem wT(x:Str)(t:Tok):pq (.inr x) (.str x t)=true:=by simp [pq,Value.isStrOf]
theorem Dr(a b:Int):decide ((Sum.inl a:Key)=Sum.inl b)=(a==b):=by
 by_cases e:a=b
 . subst e;simp
 . have h:¬ (Sum.inl a:Key)=Sum.inl b:=fun q=>e (Sum.inl.inj q)
   rw[decide_eq_false h];exact(beq_eq_false_iff_ne.mpr e).symm
theorem Do(a b:Str):decide ((Sum.inr a:Key)=Sum.inr b)=decide (a=b):=by
 by_cases e:a=b
 . subst e;simp
 . have h:¬ (Sum.inr a:Key)=Sum.inr b:=fun q=>e (Sum.inr.inj q)
   rw[decide_eq_false h,decide_eq_false e]
theorem Dq(a:Int)(b:Str):decide ((Sum.inl a:Key)=Sum.inr b)=false:=decide_eq_false (fun q=>nomatch q)
theorem Dp(a:Str)(b:Int):decide ((Sum.inr a:Key)=Sum.inl b)=false:=decide_eq_false (fun q=>nomatch q)
def bj(prog:Program)(w:World):PySem.KeyKind prog w Key where
 is:=pq
 hash:=keyH w
 inj:=fun v a b ha hb=>by
  rcases cf ha with⟨i,t,rfl,rfl⟩ | ⟨x,t,rfl,rfl⟩
  . rcases cf hb with⟨j,u,rfl,e⟩ | ⟨y,u,rfl,e⟩
    . injection e with e1 _;rw[e1]
    . exact nomatch e
  . rcases cf hb with⟨j,u,rfl,e⟩ | ⟨y,u,rfl,e⟩
    . exact nomatch e
    . injection e with e1 _;rw[e1]
 byValue:=fun k v h=>by
  rcases cf h with⟨i,t,rfl,rfl⟩ | ⟨x,t,rfl,rfl⟩ <;> rfl
 pyHash:=fun hv h=>by
  rcases cf hv with⟨i,t,rfl,rfl⟩ | ⟨x,t,rfl,rfl⟩
  . exact wpAny_pyHash_int h
  . exact wpAny_pyHash_str h
 eqBool:=fun hu hv h=>by
  rcases cf hu with⟨i,t,rfl,rfl⟩ | ⟨x,t,rfl,rfl⟩
  . rcases cf hv with⟨j,u,rfl,rfl⟩ | ⟨y,u,rfl,rfl⟩
    . rw[Dr]at h;exact wpAny_eqBool_int h
    . rw[Dq]at h;exact SeqAt.EqAt.int_str i t y u _ _ _ _ h
  . rcases cf hv with⟨j,u,rfl,rfl⟩ | ⟨y,u,rfl,rfl⟩
    . rw[Dp]at h;exact SeqAt.EqAt.str_int x t j u _ _ _ _ h
    . rw[Do]at h;exact wpAny_eqBool_str h
 «strs»:=fun k x t v h=>by
  rcases cf h with⟨i,u,rfl,e⟩ | ⟨y,u,rfl,e⟩
  . exact nomatch e
  . injection e with e1 _;subst e1;cases v <;> rfl
theorem sn(prog:Program)(w:World)(i:Int)(t:Tok):(bj prog w).is (.inl i) (.int i t)=true:=wU i t
theorem sk(prog:Program)(w:World)(x:Str)(t:Tok):(bj prog w).is (.inr x) (.str x t)=true:=wT x t
inductive V where
 | non | bl (b:Bool) | int (i:Int) | str (x:Str) | byt (b:Array UInt8) | flt (b:UInt64) | ref (a:Addr) | ty (n:String)
 deriving DecidableEq
def RelV:V->Value->Prop
 | .non,u=>u=Value.none
 | .bl b,u=>u=Value.bool b
 | .int i,u=>∃t,u=Value.int i t
 | .str x,u=>∃t,u=Value.str x t
 | .byt b,u=>∃t,u=Value.bytes b t
 | .flt b,u=>∃t,u=Value.float b t
 | .ref a,u=>u=Value.ref a
 | .ty n,u=>u=Value.type n
abbrev Vals:List V->List Value->Prop:=Paired RelV
theorem Vals.length{xs:List V}{us:List Value}(r:Vals xs us):xs.length=us.length:=Paired.length r
theorem Vals.get:∀{xs:List V}{us:List Value}{i:Nat}{x:V},Vals xs us->xs[i]?=some x->∃u,us[i]?=some u/\RelV x u
 | _,_,_,_,.nil,e=>by simp at e
 | _,_,0,_,.cons r _,e=>by simp at e;subst e;exact⟨_,rfl,r⟩
 | _,_,i+1,x,.cons _ t,e=>by
   obtain⟨u,h1,h2⟩:=Vals.get (i:=i) (x:=x) t (by simpa using e);exact⟨u,by simpa using h1,h2⟩
theorem Vals.set{x:V}{u:Value}(r:RelV x u):∀{xs:List V}{us:List Value}(i:Nat),Vals xs us->Vals (xs.set i x) (us.set i u)
 | _,_,_,.nil=>.nil
 | _,_,0,.cons _ t=>.cons r t
 | _,_,i+1,.cons q t=>.cons q (Vals.set r i t)
theorem Vals.append:∀{xs ys:List V}{us ws:List Value},Vals xs us->Vals ys ws->Vals (xs++ys) (us++ws)
 | _,_,_,_,.nil,s=>s
 | _,_,_,_,.cons r t,s=>.cons r (Vals.append t s)
theorem Vals.take:∀{xs:List V}{us:List Value}(n:Nat),Vals xs us->Vals (xs.take n) (us.take n)
 | _,_,0,_=>.nil
 | _,_,_+1,.nil=>.nil
 | _,_,n+1,.cons r t=>.cons r (Vals.take n t)
theorem Vals.drop:∀{xs:List V}{us:List Value}(n:Nat),Vals xs us->Vals (xs.drop n) (us.drop n)
 | _,_,0,r=>r
 | _,_,_+1,.nil=>.nil
 | _,_,n+1,.cons _ t=>Vals.drop n t
def RelO:Option V->Option Value->Prop
 | some v,some u=>RelV v u
 | none,none=>True
 | _,_=>False
def KV{κ:Type}:List (κ×V)->List (κ×Value)->Prop:=Paired fun(p:κ×V)(q:κ×Value)=>p.1=q.1/\RelV p.2 q.2
def kV:Key->V
 | .inl i=>.int i
 | .inr x=>.str x
inductive HO where
 | lst (xs:List V)
 | tup (xs:List V)
 | dK (kvs:List (Key×V)) | dT (kvs:List (List Key×V))
 | set (S:Int->Bool) (n:Nat)
 | ins (C dx:Addr) (fs:List (Str×V))
 | own (x:Addr)
 | xd (fs:List (Str×V))
 | met (f x:Addr)
 | rng (lo hi:Int)
 | frz (o:Obj) (u:HO)
 | tbl (ps:Array Value)
 | ext (φ:Heap->Prop)
abbrev Hp:=Addr->Option HO
def upd(H:Hp)(a:Addr)(o:HO):Hp:=fun b=>if b=a then some o else H b
theorem aD{H:Hp}{a:Addr}{o:HO}:upd H a o a=some o:=by unfold upd;rw[zF0 rfl]
theorem ao{H:Hp}{a b:Addr}{o:HO}(h:b≠a):upd H a o b=H b:=by unfold upd;rw[zD0 h]
theorem bh{H:Hp}{a b:Addr}{o u:HO}(h:H a=some o)(h':H b=some u)(d:o≠u):a≠b:=by
 intro e;subst e;rw[h]at h';exact d (zR0 h')
theorem aO{H:Hp}{a b:Addr}{o:HO}(h:H a=some o)(h':H b=none):a≠b:=by
 intro e;subst e;rw[h]at h';cases h'
section
variable (P:Program) (w:World)
def ObjOk(H:Hp)(h:Heap)(a:Addr):HO->Prop
 | .lst xs=>xs.length<=sizeLine/\∃(its:List Value) (n:Nat),Vals xs its/\h.get? a=some { cls:=.type "list",data:=.seq its.toArray n }
 | .tup xs=>xs.length<=sizeLine/\∃its:List Value,Vals xs its/\IsTup h a its.toArray/\∃o,h.get? a=some o/\o.dict=none
 | .dK kvs=>kvs.length<=sizeLine/\(a==sysModules)=false/\∃vs,KV kvs vs/\h.DictOf (bj P w) a vs
 | .dT kvs=>kvs.length<=sizeLine/\(a==sysModules)=false/\∃xs:List (List Key×Addr×Value),
  Paired (fun(p:List Key×V)(q:List Key×Addr×Value)=>p.1=q.1/\H q.2.1=some (.tup (p.1.map kV))/\RelV p.2 q.2.2) kvs xs/\
  ∃o es ep,h.get? a=some o/\o.ExactDict/\o.data=.dict es ep/\es.toList=xs.map (entryOfKey (tupleKind (bj P w)))/\(xs.map (·.1)).Nodup
 | .set S n=>h.SetOf (intKind P w) a S n
 | .ins C dx fs=>H dx=some (.own a)/\fs.length<=1000/\dx≠a/\h.get? a=some (PySem.W.instObj C dx)/\
  ∃mA,h.Ns1 dx mA/\(∀f,RelO (fs.lookup f) (mA f))/\PySem.Within mA (fs.map (·.1))
 | .own _=>∃o,h.get? a=some o
 | .xd fs=>∃mA,h.Ns1 a mA/\∀f,RelO (fs.lookup f) (mA f)
 | .rng lo hi=>∃t u v,h.get? a=some { cls:=.type "range",data:=.fields #[.int lo t,.int hi u,.int 1 v] }
 | .frz o u=>h.get? a=some o/\ObjOk H h a u
 | .tbl ps=>h.get? a=some { cls:=.none,data:=.fields ps }
 | .met f x=>h.get? a=some (PySem.W.methodObj (.ref f) (.ref x))
 | .ext φ=>φ h/\(∃o,h.get? a=some o)/\∀h1 h2:Heap,φ h1->(∀o,h1.get? a=some o->h2.get? a=some o)->φ h2
def HOk(H:Hp)(h:Heap):Prop:=∀a o,H a=some o->ObjOk P w H h a o
end
section
variable {P:Program} {w:World} {H H':Hp} {h h':Heap} {a:Addr} {o:HO}
theorem ObjOk.lt(x:ObjOk P w H h a o):a<h.objs.size:=by
 cases o with
 | lst xs=>obtain⟨_,_,_,_,e⟩:=x;exact zN0 e
 | tup xs=>obtain⟨_,_,_,p,_⟩:=x;exact p.lt
 | dK kvs=>obtain⟨_,_,_,_,o,_,_,e,_⟩:=x;exact zN0 e
 | dT kvs=>obtain⟨_,_,_,_,o,_,_,e,_⟩:=x;exact zN0 e
 | set S n=>obtain⟨o,_,_,_,e,_⟩:=x;exact zN0 e
 | ins C dx fs=>obtain⟨_,_,_,e,_⟩:=x;exact zN0 e
 | own y=>obtain⟨_,e⟩:=x;exact zN0 e
 | xd fs=>obtain⟨_,⟨_,_,_,e,_⟩,_⟩:=x;exact zN0 e
 | rng lo hi=>obtain⟨_,_,_,e⟩:=x;exact zN0 e
 | frz ob u=>obtain⟨e,_⟩:=x;exact zN0 e
 | tbl ps=>exact zN0 (show h.get? a=some _ from x)
 | met f y=>exact zN0 (show h.get? a=some _ from x)
 | ext φ=>obtain⟨_,⟨_,e⟩,_⟩:=x;exact zN0 e
theorem Paired.mapP{α β:Type}{F G:α->β->Prop}:∀{l₁:List α}{l₂:List β},Paired F l₁ l₂->(∀a b,F a b->G a b)->Paired G l₁ l₂
 | _,_,.nil,_=>.nil
 | _,_,.cons r t,f=>.cons (f _ _ r) (Paired.mapP t f)
theorem ObjOk.stay(x:ObjOk P w H h a o)(k:∀b u,(b=a∨H b=some (.own a))->h.get? b=some u->h'.get? b=some u)
 (ho:∀b,H b=some (.own a)->H' b=some (.own a)) (ht:∀b xs,H b=some (.tup xs)->H' b=some (.tup xs)):ObjOk P w H' h' a o:=by
 induction o with
 | lst xs=>obtain⟨z,its,n,r,e⟩:=x;exact⟨z,its,n,r,k _ _ (.inl rfl) e⟩
 | tup xs=>obtain⟨z,its,r,⟨ob,e,c⟩,od,e2,d⟩:=x;exact⟨z,its,r,⟨ob,k _ _ (.inl rfl) e,c⟩,od,k _ _ (.inl rfl) e2,d⟩
 | dK kvs=>obtain⟨z,y,vs,r,ob,es,ep,e,c⟩:=x;exact⟨z,y,vs,r,ob,es,ep,k _ _ (.inl rfl) e,c⟩
 | dT kvs=>
   obtain⟨z,y,xs,r,ob,es,ep,e,c⟩:=x;exact⟨z,y,xs,Paired.mapP r fun p q z=>⟨z.1,ht _ _ z.2.1,z.2.2⟩,ob,es,ep,k _ _ (.inl rfl) e,c⟩
 | set S n=>obtain⟨ob,es,ep,t,e,c⟩:=x;exact⟨ob,es,ep,t,k _ _ (.inl rfl) e,c⟩
 | ins C dx fs=>
   obtain⟨d,z,ne,e,mA,⟨od,es,ep,e2,c⟩,r⟩:=x;exact⟨ho _ d,z,ne,k _ _ (.inl rfl) e,mA,⟨od,es,ep,k _ _ (.inr d) e2,c⟩,r⟩
 | own y=>obtain⟨ob,e⟩:=x;exact⟨ob,k _ _ (.inl rfl) e⟩
 | xd fs=>obtain⟨mA,⟨od,es,ep,e,c⟩,r⟩:=x;exact⟨mA,⟨od,es,ep,k _ _ (.inl rfl) e,c⟩,r⟩
 | rng lo hi=>obtain⟨t,u,v,e⟩:=x;exact⟨t,u,v,k _ _ (.inl rfl) e⟩
 | frz ob u ih=>obtain⟨e,q⟩:=x;exact⟨k _ _ (.inl rfl) e,ih q⟩
 | tbl ps=>
   have e:h.get? a=some { cls:=.none,data:=.fields ps }:=x;show h'.get? a=some { cls:=.none,data:=.fields ps };exact k a _ (.inl rfl) e
 | met f y=>
   have e:h.get? a=some (PySem.W.methodObj (.ref f) (.ref y)):=x;show h'.get? a=some (PySem.W.methodObj (.ref f) (.ref y));exact k a _ (.inl rfl) e
 | ext φ=>obtain⟨p,⟨o,e⟩,st⟩:=x;exact⟨st _ _ p fun o q=>k _ _ (.inl rfl) q,⟨o,k _ _ (.inl rfl) e⟩,st⟩
theorem HOk.lt(x:HOk P w H h)(e:H a=some o):a<h.objs.size:=(x a o e).lt
theorem HOk.fresh(x:HOk P w H h)(e:h.objs.size<=a):H a=none:=by
 cases q:H a with
 | none=>rfl
 | some u=>exact absurd (qF0 (x.lt q) e) (qV0 _)
theorem HOk.kept(x:HOk P w H h)(k:∀b u,h.get? b=some u->h'.get? b=some u):HOk P w H h':=fun a o e=>
 (x a o e).stay (fun b u _ q=>k b u q) (fun _ q=>q) fun _ _ q=>q
theorem HOk.laid(x:HOk P w H h)(k:∀b u,h.get? b=some u->h'.get? b=some u)(hp:h.objs.size<=a)(new:ObjOk P w (upd H a o) h' a o):HOk P w (upd H a o) h':=fun b u e=>by
 have hn:=x.fresh hp
 by_cases hb:b=a
 . subst hb;rw[aD]at e;cases e;exact new
 . rw[ao hb]at e;exact(x b u e).stay (fun c v _ q=>k c v q) (fun c q=>by rw[ao (aO q hn)];exact q) fun c xs q=>by rw[ao (aO q hn)];exact q
end
def Rd(H:Hp)(a:Addr)(u:HO):Prop:=H a=some u∨∃o,H a=some (.frz o u)
theorem Rd.ok{P:Program}{w:World}{H:Hp}{h:Heap}{a:Addr}{u:HO}(r:Rd H a u)(x:HOk P w H h):ObjOk P w H h a u:=by
 rcases r with r | ⟨o,r⟩
 . exact x a u r
 . obtain⟨_,q⟩:=x a _ r;exact q
def Mut:Option HO->Prop
 | some (.lst _)=>True
 | some (.dK _)=>True
 | some (.dT _)=>True
 | some (.set _ _)=>True
 | some (.ins _ _ _)=>True
 | some (.ext _)=>True
 | _=>False
section
variable {P:Program} {w:World} {H:Hp} {h h':Heap} {x e:Addr} {o':HO}
theorem HOk.write(ok:HOk P w H h)(mu:Mut (H x))(he:e=x∨H e=some (.own x))(k:∀b u,b≠e->h.get? b=some u->h'.get? b=some u)(heo:∃u,h'.get? e=some u)
 (new:ObjOk P w (upd H x o') h' x o'):HOk P w (upd H x o') h':=fun b u q=>by
 have nown:∀c y,H c=some (.own y)->c≠x:=fun c y r z=>by subst z;rw[r]at mu;exact mu
 have ntup:∀c xs,H c=some (.tup xs)->c≠x:=fun c xs r z=>by subst z;rw[r]at mu;exact mu
 by_cases hb:b=x
 . subst hb;rw[aD]at q;cases q;exact new
 . rw [ao hb]at q
   by_cases hbe:b=e
   . have q':H b=some (.own x):=by
      rcases he with z | z
      . exact absurd (hbe.trans z) hb
      . rw[hbe];exact z
     rw[q]at q';cases q';obtain⟨v,hv⟩:=heo;exact⟨v,by rw[hbe];exact hv⟩
   . refine (ok b u q).stay (fun c v hc r=>k c v ?_ r) (fun c r=>by rw[ao (nown c b r)];exact r) fun c xs r=>by rw[ao (ntup c xs r)];exact r
     rcases hc with rfl | hc
     . exact hbe
     . rintro rfl;rcases he with z | z
       . exact nown c b hc z
       . rw[hc]at z;cases z;exact hb rfl
end
structure Un(fs ex:List Addr)(H H':Hp)(h h':Heap):Prop where
 keep:∀b o,h.get? b=some o->H b=none->b∉fs->b∉ex->h'.get? b=some o
 slot:∀b o,h.get? b=some o->H b=none->b∈fs->b∉ex->∃sl,h'.get? b=some { o with slots:=sl }
 free:∀b o,h.get? b=some o->H b=none->b∉ex->H' b=none
 there:∀b o,h.get? b=some o->b∉ex->∃o',h'.get? b=some o'
 tups:∀b xs,H b=some (.tup xs)->H' b=some (.tup xs)
 frzs:∀b o u,H b=some (.frz o u)->H' b=some (.frz o u)
 tbls:∀b ps,H b=some (.tbl ps)->∃more,H' b=some (.tbl (ps++more))
section
variable {fs fs' ex ex':List Addr} {H H1 H2:Hp} {h h1 h2 h':Heap} {a x e:Addr} {o:HO}
theorem Un.any(u:Un fs ex H H1 h h1){b:Addr}{ob:Obj}(q:h.get? b=some ob)(n:H b=none)(hx:b∉ex):∃sl,h1.get? b=some { ob with slots:=sl }:=by
 by_cases hb:b∈fs
 . exact u.slot b ob q n hb hx
 . exact⟨ob.slots,u.keep b ob q n hb hx⟩
theorem Un.kept(k:∀b u,h.get? b=some u->h'.get? b=some u):Un fs ex H H h h':=
 ⟨fun b ob q _ _ _=>k b ob q,fun b ob q _ _ _=>⟨ob.slots,k b ob q⟩,fun _ _ _ n _=>n,fun b ob q _=>⟨ob,k b ob q⟩,fun _ _ q=>q,fun _ _ _ q=>q,fun _ ps q=>⟨#[],by rw[q];simp⟩⟩
theorem Un.refl:Un fs ex H H h h:=Un.kept fun _ _ q=>q
theorem Un.laid(k:∀b u,h.get? b=some u->h'.get? b=some u)(hp:h.objs.size<=a)(hn:H a=none):Un fs ex H (upd H a o) h h' where
 keep:=fun b u q _ _ _=>k b u q
 slot:=fun b u q _ _ _=>⟨u.slots,k b u q⟩
 free:=fun b u q n _=>by rw[ao (zS0 (qF0 (zN0 q) hp))];exact n
 there:=fun b u q _=>⟨u,k b u q⟩
 tups:=fun b xs q=>by rw[ao (aO q hn)];exact q
 frzs:=fun b u xs q=>by rw[ao (aO q hn)];exact q
 tbls:=fun b ps q=>⟨#[],by rw[ao (aO q hn),q];simp⟩
theorem Un.write(mu:Mut (H x))(he:e=x∨H e=some (.own x))(k:∀b u,b≠e->h.get? b=some u->h'.get? b=some u)(heo:∃u,h'.get? e=some u):Un fs ex H (upd H x o) h h':=by
 have hx:∀b,H b=none->b≠x:=fun b n z=>by subst z;rw[n]at mu;exact mu
 have hb:∀b,H b=none->b≠e:=fun b n z=>by
  subst z;rcases he with r | r
  . exact hx b n r
  . rw[n]at r;cases r
 have hm:∀b u,H b=some u->¬ Mut (some u)->b≠x:=fun b u q nm z=>by subst z;rw[q]at mu;exact nm mu
 refine ⟨fun b u q n _ _=>k b u (hb b n) q,fun b u q n _ _=>⟨u.slots,k b u (hb b n) q⟩,fun b u q n _=>by rw[ao (hx b n)];exact n,fun b u q _=>?_,
  fun b xs q=>by rw[ao (hm b _ q fun z=>z)];exact q,fun b u xs q=>by rw[ao (hm b _ q fun z=>z)];exact q,fun b ps q=>⟨#[],by rw[ao (hm b _ q fun z=>z),q];simp⟩⟩
 by_cases hbe:b=e
 . subst hbe;exact heo
 . exact⟨u,k b u hbe q⟩
end
def trk(h:Heap)(H:Hp):List Addr:=(List.range h.objs.size).filter fun a=>(H a).isSome
def qC(h:Heap)(H:Hp):Heap:=PySem.W.hideAll h (trk h H)
theorem xa(h:Heap)(H:Hp):(qC h H).objs.size=h.objs.size:=PySem.W.hideAll_size _ _
theorem zM{h:Heap}{H:Hp}{b:Addr}{o:Obj}(e:h.get? b=some o)(n:H b=none):(qC h H).get? b=some o:=
 PySem.W.hideAll_get _ e fun hm=>by
  have q:(H b).isSome=true:=(List.mem_filter.mp hm).2;rw[n]at q;simp at q
theorem AV{h:Heap}{H:Hp}{b:Addr}{o:Obj}(e:(qC h H).get? b=some o):h.get? b=some o/\H b=none:=by
 have e':h.get? b=some o:=PySem.W.of_hideAll (trk h H) e;refine⟨e',?_⟩;cases q:H b with
 | none=>rfl
 | some x=>
   have hm:b∈trk h H:=List.mem_filter.mpr ⟨List.mem_range.mpr (zN0 e'),by simp [q]⟩;have z:(qC h H).get? b=none:=PySem.W.hideAll_none (trk h H) hm;rw[z]at e;cases e
structure Mod(K:W.Frag)(mg:Str->Option Value)(base:Heap):Prop where
 kin:K.In base
 glob:base.Ns mainGlobals mg
 blt:∃mb,base.Ns builtinsNs mb/\∀x:Str,x≠"__name__" -> mb x=bootBuiltins x
 nolimit:base.NoLimit
structure Cx where
 prog:Program
 w:World
 K:W.Frag
 mg:Str->Option Value
 base:Heap
 A:Around
 N:List Str
 s₀:Shared
 H₀:Hp
 env:Env
 outer:List Env
 stack:List Env
 ex:List Addr
 fn:Str->Bool
 calm:Bool
 pn:List (Addr×Obj)
 xe:Value->Shared->Prop
def frs(l:List Env):List Addr:=l.filterMap (·.frame)
abbrev Cx.fs(X:Cx):List Addr:=frs X.outer
def Vis(sc:Scope)(x:Str):Prop:=sc.names.lookup x=some .local∨sc.names.lookup x=some .cell∨sc.names.lookup x=some .free
def Loc(sc:Scope)(x:Str):Prop:=sc.names.lookup x=some .local∨sc.names.lookup x=some .cell
def Look(env:Env)(h:Heap)(m:Str->Option Value)(x:Str)(u:Value):Prop:=
 (env.kindOf x=some .local/\m x=some u)∨((env.kindOf x=some .cell∨env.kindOf x=some .free)/\∃c,env.cells.lookup x=some c/\h.IsCell c (some u))
structure Cx.Ok(X:Cx):Prop where
 mod:Mod X.K X.mg X.base
 kind:X.env.scope.kind=.function
 glob:X.env.globals=mainGlobals
 blt:X.env.builtins=builtinsNs
 above:X.s₀.heap.objs.size<=X.env.locals
 inj:∀x y c,X.env.cells.lookup x=some c->X.env.cells.lookup y=some c->x=y
 has:∀x,(X.env.kindOf x=some .cell∨X.env.kindOf x=some .free)->∃c,X.env.cells.lookup x=some c
 cab:∀x c,X.fn x=true->X.env.cells.lookup x=some c->X.s₀.heap.objs.size<=c
 hd:X.calm=true->X.A.handled=none
 frames:X.A.frames=some X.stack
 stk:X.stack=X.outer∨(X.stack=X.env::X.outer/\X.env.frame=some X.env.locals)
 exf:∀b∈X.ex,b≠X.env.locals/\∀x c,X.env.cells.lookup x=some c->c≠b
 bs:∀b o,X.base.get? b=some o->X.s₀.heap.get? b=some o/\X.H₀ b=none
 bsz:X.base.objs.size<=X.s₀.heap.objs.size
 noex:∀b o,X.base.get? b=some o->b∉X.ex
 exfs:∀b∈X.ex,b∉X.fs
 funs:X.s₀.heap.FunFrames X.base X.outer
 frf:∀b∈X.fs,X.H₀ b=none
structure Inv(X:Cx)(pins:List (Addr×Obj))(σ:List (Option V))(H:Hp)(s:Shared):Prop where
 ok:X.Ok
 os:s.os=X.s₀.os
 bare:AllBare s.gens
 base:Un X.fs X.ex X.H₀ H X.s₀.heap s.heap
 loc:∃m,s.heap.Ns X.env.locals m/\∀(i:Nat)(x:Str)(v:V),X.N[i]?=some x->σ[i]?=some (some v)->Vis X.env.scope x->∃u,RelV v u/\Look X.env s.heap m x u
 cell:∀x c,X.env.cells.lookup x=some c->∃v,s.heap.IsCell c v
 free:H X.env.locals=none
 freeC:∀x c,X.env.cells.lookup x=some c->H c=none
 pin:∀p∈X.pn++pins,s.heap.get? p.1=some p.2/\H p.1=none/\p.1≠X.env.locals/\p.1∉X.fs/\∀v,p.2.data≠.cell v
 hok:HOk X.prog X.w H s.heap
 len:σ.length=X.N.length
section
variable {X:Cx} {pins:List (Addr×Obj)} {σ:List (Option V)} {H H':Hp} {s:Shared} {h':Heap}
theorem Cx.Ok.nofr(ok:X.Ok){b:Addr}{o:Obj}(e:X.base.get? b=some o):b∉X.fs:=fun hb=>by
 have:=(ok.funs.mem hb).1
 rw[e]at this;cases this
theorem Inv.bs(I:Inv X pins σ H s):∀b o,X.base.get? b=some o->s.heap.get? b=some o/\H b=none:=fun b o e=>
 ⟨I.base.keep b o (I.ok.bs b o e).1 (I.ok.bs b o e).2 (I.ok.nofr e) (I.ok.noex b o e),I.base.free b o (I.ok.bs b o e).1 (I.ok.bs b o e).2 (I.ok.noex b o e)⟩
theorem Inv.bk(I:Inv X pins σ H s):∀b o,X.base.get? b=some o->s.heap.get? b=some o:=fun b o e=>(I.bs b o e).1
theorem Inv.mod(I:Inv X pins σ H s):Mod X.K X.mg X.base:=I.ok.mod
theorem Inv.kIn(I:Inv X pins σ H s):X.K.In s.heap:=I.ok.mod.kin.keeps I.bk
theorem Inv.lt(I:Inv X pins σ H s):X.env.locals<s.heap.objs.size:=let⟨_,hn,_⟩:=I.loc;hn.lt
theorem Inv.sz(I:Inv X pins σ H s):X.s₀.heap.objs.size<=s.heap.objs.size:=zZ0 I.ok.above (Nat.le_of_lt I.lt)
theorem Inv.nofs(I:Inv X pins σ H s){a:Addr}(h:s.heap.objs.size<=a):a∉X.fs:=fun hb=>by
 obtain⟨_,o,ho,_⟩:=I.ok.funs.mem hb;exact absurd (qF0 (zN0 ho) (zZ0 I.sz h)) (qV0 _)
theorem Inv.cne(I:Inv X pins σ H s):∀x c,X.env.cells.lookup x=some c->c≠X.env.locals:=fun x c e z=>by
 obtain⟨v,o,ho,hd⟩:=I.cell x c e;obtain⟨m,⟨o',es,ep,ho',hd',_⟩,_⟩:=I.loc;rw[z,ho']at ho;cases ho;rw[hd']at hd;cases hd
theorem Inv.funs(I:Inv X pins σ H s):s.heap.FunFrames X.base X.outer:=by
 have all:∀(l:List Env),(∀b∈frs l,b∈X.fs)->X.s₀.heap.FunFrames X.base l->s.heap.FunFrames X.base l:=by
  intro l
  induction l with
  | nil=>intro _ _;trivial
  | cons env r ih=>
    intro hs hl;obtain⟨hk,⟨L,o,hf,hn,ho,hd⟩,hr⟩:=hl;have hL:L∈X.fs:=hs L (by unfold frs;rw[List.filterMap_cons,hf];exact qG0);obtain⟨sl,e⟩:=I.base.slot L o ho (I.ok.frf L hL) hL fun z=>I.ok.exfs L z hL
    exact⟨hk,⟨L,_,hf,hn,e,hd⟩,ih (fun b hb=>hs b (by unfold frs;rw[List.filterMap_cons,hf];exact qL0 _ hb)) hr⟩
 exact all X.outer (fun _ hb=>hb) I.ok.funs
theorem Inv.stack(I:Inv X pins σ H s):s.heap.FunFrames X.base X.stack:=by
 rcases I.ok.stk with e | ⟨e,hf⟩
 . rw[e];exact I.funs
 . rw[e];obtain⟨m,hn,_⟩:=I.loc;refine .cons (by rw[I.ok.kind];decide) hf hn ?_ I.funs;exact Heap.get?_none_of_le (zZ0 I.ok.bsz I.ok.above)
theorem Inv.stkSub(I:Inv X pins σ H s):∀b∈frs X.stack,b∈X.env.locals::X.fs:=fun b hb=>by
 rcases I.ok.stk with e | ⟨e,hf⟩
 . rw[e]at hb;exact qL0 _ hb
 . rw[e]at hb;unfold frs at hb;rw[List.filterMap_cons,hf]at hb;exact hb
theorem Inv.stkFree(I:Inv X pins σ H s):∀b∈frs X.stack,H b=none:=fun b hb=>by
 rcases qC0 (I.stkSub b hb)with e | hb
 . rw[e];exact I.free
 . obtain⟨_,o,ho,_⟩:=I.ok.funs.mem hb;exact I.base.free b o ho (I.ok.frf b hb) fun z=>I.ok.exfs b z hb
theorem Inv.step{g':Array GenState}{t':Nat}{d':Drawn}{ch:List Addr}(I:Inv X pins σ H s)
 (hch:∀b∈ch,(b∈X.ex∨X.s₀.heap.objs.size<=b)/\b≠X.env.locals/\(∀x c,X.env.cells.lookup x=some c->c≠b)/\∀p∈X.pn++pins,p.1≠b)
 (keep:∀b o,b≠X.env.locals->b∉X.fs->b∉ch->s.heap.get? b=some o->H b=none->h'.get? b=some o)
 (slot:∀b o,b≠X.env.locals->b∈X.fs->b∉ch->s.heap.get? b=some o->H b=none->∃sl,h'.get? b=some { o with slots:=sl }) (free:∀b o,b∉ch->s.heap.get? b=some o->H b=none->H' b=none)
 (there:∀b o,b∉ch->s.heap.get? b=some o->∃o',h'.get? b=some o')
 (tups:∀b xs,H b=some (.tup xs)->H' b=some (.tup xs)) (frzs:∀b o u,H b=some (.frz o u)->H' b=some (.frz o u)) (tbls:∀b ps,H b=some (.tbl ps)->∃more,H' b=some (.tbl (ps++more)))
 (ns:∀m,s.heap.Ns X.env.locals m->h'.Ns X.env.locals m) (hok:HOk X.prog X.w H' h') (hg:AllBare g') :
 Inv X pins σ H' { s with heap:=h',gens:=g',drawn:=d',toks:=t' }:=by
 have neL:∀b o,X.s₀.heap.get? b=some o->b≠X.env.locals:=fun b o e=>zS0 (qF0 (zN0 e) I.ok.above)
 have neC:∀b o,X.s₀.heap.get? b=some o->b∉X.ex->b∉ch:=fun b o e hx hb=>by
  rcases(hch b hb).1 with z | z
  . exact hx z
  . exact absurd (qF0 (zN0 e) z) (qV0 _)
 have cellK:∀x c,X.env.cells.lookup x=some c->∀v,s.heap.IsCell c v->h'.IsCell c v:=fun x c e v ⟨o,ho,hd⟩=>by
  have nch:c∉ch:=fun z=>(hch c z).2.2.1 x c e rfl
  by_cases hc:c∈X.fs
  . obtain⟨sl,q⟩:=slot c o (I.cne x c e) hc nch ho (I.freeC x c e);exact⟨_,q,hd⟩
  . exact⟨o,keep c o (I.cne x c e) hc nch ho (I.freeC x c e),hd⟩
 refine⟨I.ok,I.os,hg,⟨fun b o e n hb hx=>?_,fun b o e n hb hx=>?_,fun b o e n hx=>?_,fun b o e hx=>?_,fun b xs e=>tups b xs (I.base.tups b xs e),fun b o xs e=>frzs b o xs (I.base.frzs b o xs e),fun b ps e=>?_⟩,?_,fun x c e=>?_,?_,fun x c e=>?_,fun p hp=>?_,hok,I.len⟩
 . exact keep b o (neL b o e) hb (neC b o e hx) (I.base.keep b o e n hb hx) (I.base.free b o e n hx)
 . obtain⟨sl,e1⟩:=I.base.slot b o e n hb hx;obtain⟨sl',e2⟩:=slot b _ (neL b o e) hb (neC b o e hx) e1 (I.base.free b o e n hx);exact⟨sl',e2⟩
 . obtain⟨o',e1⟩:=I.base.there b o e hx;exact free b o' (neC b o e hx) e1 (I.base.free b o e n hx)
 . obtain⟨o',e1⟩:=I.base.there b o e hx;exact there b o' (neC b o e hx) e1
 . obtain⟨m1,e1⟩:=I.base.tbls b ps e;obtain⟨m2,e2⟩:=tbls b _ e1;exact⟨m1++m2,by rw[e2,Array.append_assoc]⟩
 . obtain ⟨m,hn,hl⟩:=I.loc;refine⟨m,ns m hn,fun i x v e1 e2 e3=>?_⟩;obtain⟨u,r,l⟩:=hl i x v e1 e2 e3;refine⟨u,r,?_⟩;rcases l with l | ⟨k,c,e,z⟩
   . exact .inl l
   . exact .inr ⟨k,c,e,cellK x c e _ z⟩
 . obtain⟨v,z⟩:=I.cell x c e;exact⟨v,cellK x c e v z⟩
 . obtain⟨m,⟨o,_,_,ho,_⟩,_⟩:=I.loc;exact free _ o (fun z=>(hch _ z).2.1 rfl) ho I.free
 . obtain⟨v,o,ho,hd⟩:=I.cell x c e;exact free c o (fun z=>(hch c z).2.2.1 x c e rfl) ho (I.freeC x c e)
 . obtain ⟨e,n,ne,nf,d⟩:=I.pin p hp;have nch:p.1∉ch:=fun z=>(hch p.1 z).2.2.2 p hp rfl
   exact⟨keep p.1 p.2 ne nf nch e n,free p.1 p.2 nch e n,ne,nf,d⟩
theorem Inv.un{t':Nat}(I:Inv X pins σ H s)(u:Un X.fs [] H H' s.heap h')(hok:HOk X.prog X.w H' h'):Inv X pins σ H' { s with heap:=h',toks:=t' }:=by
 obtain ⟨m,⟨o,es,ep,ho,r⟩,_⟩:=id I.loc;obtain⟨sl,hL⟩:=u.any ho I.free (by simp);exact I.step (g':=s.gens) (d':=s.drawn) (ch:=[]) (fun _ z=>nomatch z) (fun b o _ hb _ e n=>u.keep b o e n hb (by simp)) (fun b o _ hb _ e n=>u.slot b o e n hb (by simp)) (fun b o _ e n=>u.free b o e n (by simp)) (fun b o _ e=>u.there b o e (by simp)) u.tups u.frzs u.tbls (fun m' hm=>by
  obtain⟨o',es',ep',ho',r'⟩:=hm;rw[ho]at ho';cases ho';exact⟨_,es',ep',hL,r'⟩) hok I.bare
theorem Inv.call{g':Array GenState}{t':Nat}{d':Drawn}{ch:List Addr}(I:Inv X pins σ H s)(u:Un (frs X.stack) ch H H' s.heap h')(hok:HOk X.prog X.w H' h')(hg:AllBare g')
 (hch:∀b∈ch,(b∈X.ex∨X.s₀.heap.objs.size<=b)/\b≠X.env.locals/\(∀x c,X.env.cells.lookup x=some c->c≠b)/\∀p∈X.pn++pins,p.1≠b) :
 Inv X pins σ H' { s with heap:=h',gens:=g',drawn:=d',toks:=t' }:=by
 obtain⟨m,⟨o,es,ep,ho,r⟩,_⟩:=id I.loc;obtain⟨sl,hL⟩:=u.any ho I.free fun z=>(hch _ z).2.1 rfl
 exact I.step (ch:=ch) hch (fun b o hL hb hc e n=>u.keep b o e n (fun z=>(qC0 (I.stkSub b z)).elim hL hb) hc) (fun b o _ _ hc e n=>u.any e n hc) (fun b o hc e n=>u.free b o e n hc) (fun b o hc e=>u.there b o e hc) u.tups u.frzs u.tbls (fun m' hm=>by
  obtain⟨o',es',ep',ho',r'⟩:=hm;rw[ho]at ho';cases ho';exact⟨_,es',ep',hL,r'⟩) hok hg
theorem Inv.turned{t':Nat}{it:Addr}(I:Inv X pins σ H s)(k:∀b o,b≠it->s.heap.get? b=some o->h'.get? b=some o)(hn:H it=none)(hL:it≠X.env.locals)
 (h1:it∈X.ex∨X.s₀.heap.objs.size<=it) (h2:∀x c,X.env.cells.lookup x=some c->c≠it) (h3:∀p∈X.pn++pins,p.1≠it):Inv X pins σ H { s with heap:=h',toks:=t' }:=by
 have nit:∀b u,H b=some u->b≠it:=fun b u e z=>by rw[z,hn]at e;cases e
 refine I.step (g':=s.gens) (d':=s.drawn) (ch:=[it]) (fun b hb=>?_) (fun b o _ _ hc e _=>k b o (fun z=>hc (by simp [z])) e) (fun b o _ _ hc e _=>⟨o.slots,k b o (fun z=>hc (by simp [z])) e⟩) (fun _ _ _ _ n=>n)
  (fun b o hc e=>⟨o,k b o (fun z=>hc (by simp [z])) e⟩) (fun _ _ e=>e) (fun _ _ _ e=>e) (fun b ps e=>⟨#[],by rw[e];simp⟩) (fun m hm=>?_) (fun b u e=>?_) I.bare
 . have e:b=it:=by simpa using hb
   subst e;exact⟨h1,hL,h2,h3⟩
 . obtain⟨o,es,ep,ho,r⟩:=hm;exact⟨o,es,ep,k _ o (Ne.symm hL) ho,r⟩
 . refine (I.hok b u e).stay (fun c v hc q=>k c v ?_ q) (fun _ q=>q) fun _ _ q=>q
   rcases hc with z | z
   . rw[z];exact nit b u e
   . exact nit c _ z
theorem Inv.tok(I:Inv X pins σ H s)(t:Nat):Inv X pins σ H { s with toks:=t }:=I.un (h':=s.heap) (t':=t) Un.refl I.hok
theorem Inv.kept{t':Nat}(I:Inv X pins σ H s)(k:∀b u,s.heap.get? b=some u->h'.get? b=some u):Inv X pins σ H { s with heap:=h',toks:=t' }:=I.un (Un.kept k) (I.hok.kept k)
theorem Inv.laid{a:Addr}{o:HO}{t':Nat}(I:Inv X pins σ H s)(k:∀b u,s.heap.get? b=some u->h'.get? b=some u)(hp:s.heap.objs.size<=a)(new:ObjOk X.prog X.w (upd H a o) h' a o) :
 Inv X pins σ (upd H a o) { s with heap:=h',toks:=t' }:=I.un (Un.laid k hp (I.hok.fresh hp)) (I.hok.laid k hp new)
theorem Inv.write{x e:Addr}{o:HO}{t':Nat}(I:Inv X pins σ H s)(mu:Mut (H x))(he:e=x∨H e=some (.own x))(k:∀b u,b≠e->s.heap.get? b=some u->h'.get? b=some u)(heo:∃u,h'.get? e=some u)
 (new:ObjOk X.prog X.w (upd H x o) h' x o):Inv X pins σ (upd H x o) { s with heap:=h',toks:=t' }:=I.un (Un.write mu he k heo) (I.hok.write mu he k heo new)
theorem Inv.pins_of{pins':List (Addr×Obj)}(I:Inv X pins σ H s)(h:∀p∈pins',s.heap.get? p.1=some p.2/\H p.1=none/\p.1≠X.env.locals/\p.1∉X.fs/\∀v,p.2.data≠.cell v):Inv X pins' σ H s:=
 ⟨I.ok,I.os,I.bare,I.base,I.loc,I.cell,I.free,I.freeC,fun p hp=>(zT0 hp).elim (fun z=>I.pin p (List.mem_append_left _ z)) (h p),I.hok,I.len⟩
theorem rW{N:List Str}(hN:N.Nodup){i j:Nat}{x:Str}(a:N[i]?=some x)(b:N[j]?=some x):i=j:=by
 obtain⟨h1,e1⟩:=zW0 a;obtain⟨h2,e2⟩:=zW0 b;exact(List.getElem_inj hN).mp (e1.trans e2.symm)
theorem oS{M:Model}{A:Around}{E:Value->Shared->Prop}{i:Nat}{x:Str}{v:V}{u:Value}{Q:Unit->Shared->Prop}(I:Inv X pins σ H s)(hN:X.N.Nodup)(hi:X.N[i]?=some x)(hx:Loc X.env.scope x)(r:RelV v u)
 (h:∀s',Inv X pins (σ.set i (some v)) H s'->(∃a,Heap.SameBut a s.heap s'.heap/\(a=X.env.locals∨X.env.cells.lookup x=some a))->Q () s') (hf:X.fn x=true∨X.env.scope.names.lookup x=some .local:=by first | exact .inl rfl | exact .inr rfl | assumption):wpAny M A (storeName X.env x u) Q E s:=by
 obtain⟨m,hn,hl⟩:=id I.loc;have hcls:(X.env.scope.kind==.class||(X.env.scope.kind==.module&&X.env.locals != X.env.globals))=false:=by rw[I.ok.kind];rfl
 have hiσ:i<σ.length:=by rw[I.len];exact(zW0 hi).1
 have cne:=I.cne;have tracked:∀{a:Addr}{h':Heap},(∃o,s.heap.get? a=some o/\H a=none)->Heap.SameBut a s.heap h'->HOk X.prog X.w H h':=fun{a h'} ha hs b ob e=>by
  obtain⟨_,_,hfree⟩:=ha;refine(I.hok b ob e).stay (fun c w' hc q=>(hs.2 c ?_).trans q) (fun _ q=>q) fun _ _ q=>q
  rintro rfl;rcases hc with rfl | hc
  . rw[hfree]at e;cases e
  . rw[hfree]at hc;cases hc
 rcases hx with hk | hk
 . refine wpAny_storeName_local hk hn (fun h' hn' hs=>?_) hcls;obtain⟨oL,_,_,hoL,_⟩:=id hn;refine h _ ⟨I.ok,I.os,I.bare,⟨fun b o e n hb hx=>?_,fun b o e n hb hx=>?_,I.base.free,fun b o e hx=>?_,I.base.tups,I.base.frzs,I.base.tbls⟩,⟨_,hn',fun j y v' e1 e2 e3=>?_⟩,fun y c e=>?_,I.free,I.freeC,fun p hp=>?_,tracked ⟨oL,hoL,I.free⟩ hs,by simpa using I.len⟩ ⟨_,hs,.inl rfl⟩
   . exact(hs.2 b (zS0 (qF0 (zN0 e) I.ok.above))).trans (I.base.keep b o e n hb hx)
   . obtain⟨sl,e1⟩:=I.base.slot b o e n hb hx;exact⟨sl,(hs.2 b (zS0 (qF0 (zN0 e) I.ok.above))).trans e1⟩
   . obtain⟨o',e1⟩:=I.base.there b o e hx;exact⟨o',(hs.2 b (zS0 (qF0 (zN0 e) I.ok.above))).trans e1⟩
   . by_cases hj:j=i
     . subst hj;rw[hi]at e1;cases e1;rw[List.getElem?_set_self hiσ]at e2;cases e2;exact⟨u,r,.inl ⟨hk,by simp⟩⟩
     . rw [List.getElem?_set_ne (Ne.symm hj)]at e2;obtain⟨u',r',q⟩:=hl j y v' e1 e2 e3;refine⟨u',r',?_⟩;rcases q with⟨k,e⟩ | ⟨k,c,e,z⟩
       . refine .inl ⟨k,?_⟩
         have:y≠x:=fun e=>hj (rW hN e1 (e▸hi))
         simp [this,e]
       . exact .inr ⟨k,c,e,z.sameBut hs (cne y c e)⟩
   . obtain⟨w',z⟩:=I.cell y c e;exact⟨w',z.sameBut hs (cne y c e)⟩
   . obtain⟨e,n,ne,nf,d⟩:=I.pin p hp;exact⟨(hs.2 p.1 ne).trans e,n,ne,nf,d⟩
 . have hfn:X.fn x=true:=by
    rcases hf with z | z
    . exact z
    . rw[z]at hk;cases hk
   obtain⟨c,hc⟩:=I.ok.has x (.inl hk);obtain⟨w',z⟩:=I.cell x c hc;refine wpAny_storeName_cell I.ok.kind hk hc z (fun h' hc' hs=>?_);obtain⟨oc,hoc,hocd⟩:=id z;refine h { s with heap:=h' } ⟨I.ok,I.os,I.bare,⟨fun b o e n hb hx=>?_,fun b o e n hb hx=>?_,I.base.free,fun b o e hx=>?_,I.base.tups,I.base.frzs,I.base.tbls⟩,⟨m,hn.sameBut hs (Ne.symm (cne x c hc)),fun j y v' e1 e2 e3=>?_⟩,fun y c' e=>?_,I.free,I.freeC,fun p hp=>?_,tracked ⟨oc,hoc,I.freeC x c hc⟩ hs,by simpa using I.len⟩ ⟨c,hs,.inr hc⟩
   . exact(hs.2 b (zS0 (qF0 (zN0 e) (I.ok.cab x c hfn hc)))).trans (I.base.keep b o e n hb hx)
   . obtain⟨sl,e1⟩:=I.base.slot b o e n hb hx;exact⟨sl,(hs.2 b (zS0 (qF0 (zN0 e) (I.ok.cab x c hfn hc)))).trans e1⟩
   . obtain⟨o',e1⟩:=I.base.there b o e hx;exact⟨o',(hs.2 b (zS0 (qF0 (zN0 e) (I.ok.cab x c hfn hc)))).trans e1⟩
   . by_cases hj:j=i
     . subst hj;rw[hi]at e1;cases e1;rw[List.getElem?_set_self hiσ]at e2;cases e2;exact⟨u,r,.inr ⟨.inl hk,c,hc,hc'⟩⟩
     . rw [List.getElem?_set_ne (Ne.symm hj)]at e2;obtain⟨u',r',q⟩:=hl j y v' e1 e2 e3;refine⟨u',r',?_⟩;rcases q with q | ⟨k,c',e,z'⟩
       . exact .inl q
       . refine .inr ⟨k,c',e,z'.sameBut hs ?_⟩;rintro rfl;exact hj (rW hN e1 (I.ok.inj _ _ _ e hc▸hi))
   . by_cases hcc:c'=c
     . subst hcc;exact⟨_,hc'⟩
     . obtain⟨w2,z2⟩:=I.cell y c' e;exact⟨w2,z2.sameBut hs hcc⟩
   . obtain⟨e,n,ne,nf,d⟩:=I.pin p hp;refine⟨(hs.2 p.1 ?_).trans e,n,ne,nf,d⟩;intro q;rw[q,hoc]at e;have q':oc=p.2:=zR0 e;exact d w' (by rw[←q'];exact hocd)
theorem mE{M:Model}{A:Around}{E:Value->Shared->Prop}{i:Nat}{x:Str}{v:V}{u:Value}{Q:Unit->Shared->Prop}(I:Inv X pins σ H s)(hN:X.N.Nodup)(hi:X.N[i]?=some x)(hx:Loc X.env.scope x)(r:RelV v u)
 (h:∀s',Inv X pins (σ.set i (some v)) H s'->Q () s') (hf:X.fn x=true∨X.env.scope.names.lookup x=some .local:=by first | exact .inl rfl | exact .inr rfl | assumption):wpAny M A (storeName X.env x u) Q E s:=
 oS I hN hi hx r (fun s' I' _=>h s' I') hf
theorem Inv.call'{s':Shared}{ch:List Addr}(I:Inv X pins σ H s)(ho:s'.os=s.os)(u:Un (frs X.stack) ch H H' s.heap s'.heap)(hok:HOk X.prog X.w H' s'.heap)(hg:AllBare s'.gens)
 (hch:∀b∈ch,(b∈X.ex∨X.s₀.heap.objs.size<=b)/\b≠X.env.locals/\(∀x c,X.env.cells.lookup x=some c->c≠b)/\∀p∈X.pn++pins,p.1≠b):Inv X pins σ H' s':=by
 obtain⟨h',g',d',t',o'⟩:=s';have e:o'=s.os:=ho;subst e;exact I.call (g':=g') (t':=t') (d':=d') u hok hg hch
end
abbrev XK:=Value->Option Addr->Hp->Prop
abbrev St:=List (Option V)
abbrev VK:=V->Hp->Prop
abbrev TE:=St->Hp->VK->Prop
abbrev TT:=St->Hp->(Bool->Hp->Prop)->Prop
abbrev TA:=St->Hp->(List V->Hp->Prop)->Prop
structure Ends where
 nx:St->Hp->Prop
 rt:VK
 bk:St->Hp->Prop:=fun _ _=>False
 ct:St->Hp->Prop:=fun _ _=>False
abbrev TS:=Ends->St->Hp->Prop
def EP(X:Cx)(pins:List (Addr×Obj))(σ:St)(Q:VK)(u:Value)(s':Shared):Prop:=∃v H',Inv X pins σ H' s'/\RelV v u/\Q v H'
def TP(X:Cx)(pins:List (Addr×Obj))(σ:St)(Q:Bool->Hp->Prop)(b:Bool)(s':Shared):Prop:=∃H',Inv X pins σ H' s'/\Q b H'
def AP(X:Cx)(pins:List (Addr×Obj))(σ:St)(Q:List V->Hp->Prop)(us:List Value)(s':Shared):Prop:=∃vs H',Inv X pins σ H' s'/\Vals vs us/\Q vs H'
def SP(X:Cx)(pins:List (Addr×Obj))(D:Ends)(f:Flow)(s':Shared):Prop:=
 match f with
 | .next=>∃ σ' H',Inv X pins σ' H' s'/\D.nx σ' H'
 | .brk=>∃ σ' H',Inv X pins σ' H' s'/\D.bk σ' H'
 | .cont=>∃ σ' H',Inv X pins σ' H' s'/\D.ct σ' H'
 | .ret u=>∃v σ' H',Inv X pins σ' H' s'/\RelV v u/\D.rt v H'
def PE(X:Cx)(e:Expr)(t:TE):Prop:=
 ∀(pins:List (Addr×Obj))(s:Shared)(σ:St)(H:Hp)(Q:VK),Inv X pins σ H s->t σ H Q->wpAny (model X.prog X.w) X.A (eval e X.env) (EP X pins σ Q) X.xe s
def PT(X:Cx)(e:Expr)(t:TT):Prop:=
 ∀(pins:List (Addr×Obj))(s:Shared)(σ:St)(H:Hp)(Q:Bool->Hp->Prop),Inv X pins σ H s->t σ H Q->wpAny (model X.prog X.w) X.A (isTrue e X.env (eval e X.env)) (TP X pins σ Q) X.xe s
def PW(X:Cx)(e:Expr)(t:TT):Prop:=
 ∀(whole:Sem Value)(pins:List (Addr×Obj))(s:Shared)(σ:St)(H:Hp)(Q:Bool->Hp->Prop),Inv X pins σ H s->t σ H Q->wpAny (model X.prog X.w) X.A (isTrue e X.env whole) (TP X pins σ Q) X.xe s
theorem PW.pt{X:Cx}{e:Expr}{t:TT}(h:PW X e t):PT X e t:=h _
def PA(X:Cx)(es:List Expr)(t:TA):Prop:=
 ∀(pos:Pos)(pins:List (Addr×Obj))(s:Shared)(σ:St)(H:Hp)(Q:List V->Hp->Prop),Inv X pins σ H s->t σ H Q->wpAny (model X.prog X.w) X.A (spliced (backTo pos (starEach es X.env))) (AP X pins σ Q) X.xe s
def PS(X:Cx)(st:Stmt)(t:TS):Prop:=
 ∀(pins:List (Addr×Obj))(s:Shared)(σ:St)(H:Hp)(D:Ends),Inv X pins σ H s->t D σ H->wpAny (model X.prog X.w) X.A (exec st X.env) (SP X pins D) X.xe s
def PSs(X:Cx)(st:List Stmt)(t:TS):Prop:=
 ∀(pins:List (Addr×Obj))(s:Shared)(σ:St)(H:Hp)(D:Ends),Inv X pins σ H s->t D σ H->wpAny (model X.prog X.w) X.A (execs st X.env) (SP X pins D) X.xe s
theorem thn{α:Type}{t:Sem α}{Q Q':α->Shared->Prop}{M:Model}{A:Around}{E:Value->Shared->Prop}{s:Shared}(h:wpAny M A t Q E s)(hQ:∀a s,Q a s->Q' a s):wpAny M A t Q' E s:=wpAny_mono h hQ fun _ _ x=>x
section
variable {X:Cx}
def qQ(i:Nat):TE:=fun σ H Q=>∃v,σ[i]?=some (some v)/\Q v H
def tC(v:V):TE:=fun _ H Q=>Q v H
theorem CQ {i:Nat} {x:Str} {pos:Pos} (hN:X.N[i]?=some x) (hv:Vis X.env.scope x) (hd:(x==("__debug__":Str))=false:=by decide) (hcd:(x==("__classdict__":Str))=false:=by decide):PE X (.Name x pos) (qQ i):=by
 intro pins s σ H Q I h;obtain⟨v,e,h⟩:=h;obtain⟨m,hn,hl⟩:=I.loc;obtain⟨u,r,l⟩:=hl i x v hN e hv;have fin:EP X pins σ Q u s:=⟨v,H,I,r,h⟩
 rcases l with⟨hk,hm⟩ | ⟨hk,c,hc,hcell⟩
 . exact wpAny_Name (wpAny_loadName_local I.ok.kind hk hn hm fin) hd
 . rcases hk with hk | hk
   . exact wpAny_Name (wpAny_loadName_cell I.ok.kind hk hc hcell fin) hd
   . exact wpAny_Name (wpAny_loadName_free I.ok.kind hk hc hcell fin hcd) hd
theorem aa{i j pos}:PE X (.Constant (.int i) j pos) (tC (.int i)):=fun _ _ _ H _ I h=>wpAny_Constant_int ⟨.int i,H,I.tok _,⟨_,rfl⟩,h⟩
theorem jo{b j pos}:PE X (.Constant (.bool b) j pos) (tC (.bl b)):=fun _ _ _ H _ I h=>Constant_bool ⟨.bl b,H,I,rfl,h⟩
theorem yM{j pos}:PE X (.Constant .none j pos) (tC .non):=fun _ _ _ H _ I h=>Constant_none ⟨.non,H,I,rfl,h⟩
theorem ax{x j pos}:PE X (.Constant (.str x) j pos) (tC (.str x)):=fun _ _ _ H _ I h=>Calls.Constant_str ⟨.str x,H,I.tok _,⟨_,rfl⟩,h⟩
def Gl(X:Cx)(x:Str):Prop:=X.env.kindOf x=some .globalImplicit
theorem qz{E:Value->Shared->Prop}{pins:List (Addr×Obj)}{s:Shared}{σ:St}{H:Hp}{x:Str}{u:Value}{pos:Pos}{Q:Value->Shared->Prop}(I:Inv X pins σ H s)(hg:Gl X x)(hm:X.mg x=some u)(h:Q u s)
 (hd:(x==("__debug__":Str))=false:=by decide):wpAny (model X.prog X.w) X.A (eval (.Name x pos) X.env) Q E s:=
 Calls.Name_function_global I.ok.kind hg (Calls.loadGlobal_global (by rw[I.ok.glob];exact I.mod.glob.keeps I.bk) hm h) hd
theorem gN{E:Value->Shared->Prop}{pins:List (Addr×Obj)}{s:Shared}{σ:St}{H:Hp}{x:Str}{u:Value}{pos:Pos}{Q:Value->Shared->Prop}(I:Inv X pins σ H s)(hg:Gl X x)(hm:X.mg x=none)(hv:bootBuiltins x=some u)(h:Q u s)
 (hn:x≠"__name__":=by decide) (hd:(x==("__debug__":Str))=false:=by decide):wpAny (model X.prog X.w) X.A (eval (.Name x pos) X.env) Q E s:=by
 obtain⟨mb,h1,h2⟩:=I.mod.blt;exact Calls.Name_function_global I.ok.kind hg (Calls.loadGlobal_builtin (by rw[I.ok.glob];exact I.mod.glob.keeps I.bk) hm (by rw[I.ok.blt];exact h1.keeps I.bk) ((h2 x hn).trans hv) h) hd
theorem vx {x:Str} {v:V} {u:Value} {pos:Pos} (hg:Gl X x) (hm:X.mg x=some u) (r:RelV v u) (hd:(x==("__debug__":Str))=false:=by decide):PE X (.Name x pos) (tC v):=
 fun _ _ _ H _ I h=>qz I hg hm ⟨v,H,I,r,h⟩ hd
theorem jH {x:Str} {v:V} {u:Value} {pos:Pos} (hg:Gl X x) (hm:X.mg x=none) (hv:bootBuiltins x=some u) (r:RelV v u) (hn:x≠"__name__":=by decide) (hd:(x==("__debug__":Str))=false:=by decide):PE X (.Name x pos) (tC v):=
 fun _ _ _ H _ I h=>gN I hg hm hv ⟨v,H,I,r,h⟩ hn hd
variable {a b:Expr} {ta tb:TE} {pos:Pos}
def PC(X:Cx)(op:CmpOp)(a b:Expr)(t:TE):Prop:=
 ∀(pins:List (Addr×Obj))(s:Shared)(σ:St)(H:Hp)(Q:VK),Inv X pins σ H s->t σ H Q ->
  wpAny (model X.prog X.w) X.A (eval a X.env) (fun v s₁=>wpAny (model X.prog X.w) X.A (eval b X.env) (fun u s₂=>wpAny (model X.prog X.w) X.A (compareOp op v u) (EP X pins σ Q) X.xe s₂) X.xe s₁) X.xe s
def tB(t:TE):TT:=fun σ H Q=>t σ H fun x H1=>∃c,x=.bl c/\Q c H1
theorem CF{op:CmpOp}{t:TE}(h:PC X op a b t)(h1:behindInMarks op b=false:=by first | exact nobehind _ (by decide) (by decide) | rfl):PT X (.Compare a [op] [b] pos) (tB t):=by
 intro pins s σ H Q I hw;refine wpAny_isTrue_Compare1 (thn (h pins s σ H _ I hw) fun v s1 h1=>thn h1 fun u s2 h2=>thn h2 fun c s3 ⟨x,H1,I1,r1,q1⟩=>?_) h1;obtain⟨d,rfl,q⟩:=q1;cases r1;exact wpAny_truthy_bool ⟨H1,I1,q⟩
theorem jj{e:Expr}{t:TE}(h:PE X e t)(he:∀whole,isTrue e X.env whole=(do let v ←whole;standAt e.pos;holding [v] (truthy v)):=by intro _;rfl):PT X e (tB t):=by
 intro pins s σ H Q I hw;refine isTrue_plain (thn (h pins s σ H _ I hw) fun v s1 ⟨x,H1,I1,r1,q1⟩=>?_) (he _);obtain⟨d,rfl,q⟩:=q1;cases r1;exact wpAny_truthy_bool ⟨H1,I1,q⟩
variable {tA tB':TT} {rest:List Expr}
def tAnd(t u:TT):TT:=fun σ H Q=>t σ H fun c H1=>if c=true then u σ H1 Q else Q false H1
def tOr(t u:TT):TT:=fun σ H Q=>t σ H fun c H1=>if c=true then Q true H1 else u σ H1 Q
def tNot(t:TT):TT:=fun σ H Q=>t σ H fun c H1=>Q (!c) H1
theorem kq(ha:PT X a tA):PW X (.BoolOp .And [a] pos) tA:=by
 intro wh pins s σ H Q I h;refine isTrue_and (thn (ha pins s σ H Q I h) fun c s1 e=>?_);cases c with
 | true=>exact isTrue_and_nil e
 | false=>exact e
theorem fV(ha:PT X a tA):PW X (.BoolOp .Or [a] pos) tA:=by
 intro wh pins s σ H Q I h;refine isTrue_or (thn (ha pins s σ H Q I h) fun c s1 e=>?_);cases c with
 | false=>exact isTrue_or_nil e
 | true=>exact e
theorem lh(ha:PT X a tA)(hb:PW X (.BoolOp .And (b::rest) pos) tB'):PW X (.BoolOp .And (a::b::rest) pos) (tAnd tA tB'):=by
 intro wh pins s σ H Q I h;refine isTrue_and (thn (ha pins s σ H _ I h) fun c s1 ⟨H1,I1,q1⟩=>?_);cases c with
 | true=>exact hb wh pins s1 σ H1 Q I1 q1
 | false=>exact⟨H1,I1,q1⟩
theorem gI(ha:PT X a tA)(hb:PW X (.BoolOp .Or (b::rest) pos) tB'):PW X (.BoolOp .Or (a::b::rest) pos) (tOr tA tB'):=by
 intro wh pins s σ H Q I h;refine isTrue_or (thn (ha pins s σ H _ I h) fun c s1 ⟨H1,I1,q1⟩=>?_);cases c with
 | true=>exact⟨H1,I1,q1⟩
 | false=>exact hb wh pins s1 σ H1 Q I1 q1
theorem li(ha:PT X a tA):PT X (.UnaryOp .Not a pos) (tNot tA):=by
 intro pins s σ H Q I h;exact isTrue_not (ha pins s σ H (fun c H1=>Q (!c) H1) I h)
def Bz(ta tb:TE):TE:=fun σ H Q=>ta σ H fun x H1=>∃c,x=.bl c/\if c=true then tb σ H1 Q else Q (.bl false) H1
def tOrV(ta tb:TE):TE:=fun σ H Q=>ta σ H fun x H1=>∃c,x=.bl c/\if c=true then Q (.bl true) H1 else tb σ H1 Q
def tNotV(ta:TE):TE:=fun σ H Q=>ta σ H fun x H1=>∃c,x=.bl c/\Q (.bl (!c)) H1
theorem jT{op}{t:TE}(h:PE X a t):PE X (.BoolOp op [a] pos) t:=fun pins s σ H Q I hw=>BoolOp_one (h pins s σ H Q I hw)
theorem lq(ha:PE X a ta)(hb:PE X (.BoolOp .And (b::rest) pos) tb):PE X (.BoolOp .And (a::b::rest) pos) (Bz ta tb):=by
 intro pins s σ H Q I h;refine BoolOp_and (thn (ha pins s σ H _ I h) fun v s1 ⟨x,H1,I1,r1,q1⟩=>?_);obtain⟨c,rfl,q1⟩:=q1;cases r1;refine wpAny_truthy_bool ?_;cases c with
 | true=>exact hb pins s1 σ H1 Q I1 q1
 | false=>exact⟨.bl false,H1,I1,rfl,q1⟩
theorem BO(ha:PE X a ta)(hb:PE X (.BoolOp .Or (b::rest) pos) tb):PE X (.BoolOp .Or (a::b::rest) pos) (tOrV ta tb):=by
 intro pins s σ H Q I h;refine BoolOp_or (thn (ha pins s σ H _ I h) fun v s1 ⟨x,H1,I1,r1,q1⟩=>?_);obtain⟨c,rfl,q1⟩:=q1;cases r1;refine wpAny_truthy_bool ?_;cases c with
 | false=>exact hb pins s1 σ H1 Q I1 q1
 | true=>exact⟨.bl true,H1,I1,rfl,q1⟩
theorem ql(ha:PE X a ta):PE X (.UnaryOp .Not a pos) (tNotV ta):=by
 intro pins s σ H Q I h;refine UnaryOp_ (thn (ha pins s σ H _ I h) fun v s1 ⟨x,H1,I1,r1,q1⟩=>?_);obtain⟨c,rfl,q1⟩:=q1;cases r1;exact not_of (wpAny_truthy_bool ⟨.bl (!c),H1,I1,rfl,q1⟩)
def tIf(t:TT)(ta tb:TE):TE:=fun σ H Q=>t σ H fun c H1=>if c=true then ta σ H1 Q else tb σ H1 Q
theorem iw{c:Expr}(hc:PT X c tA)(ha:PE X a ta)(hb:PE X b tb):PE X (.IfExp c a b pos) (tIf tA ta tb):=by
 intro pins s σ H Q I h;refine wpAny_IfExp (thn (hc pins s σ H _ I h) fun d s1 ⟨H1,I1,q1⟩=>?_);cases d with
 | true=>exact ha pins s1 σ H1 Q I1 q1
 | false=>exact hb pins s1 σ H1 Q I1 q1
end
def SqL(K:W.Frag)(H:Hp)(a:Addr)(xs:List V):Prop:=
 Rd H a (.lst xs)∨
  ∃(o:Obj) (its:Array Value) (n:Nat),K.lookup a=some o/\o.cls=.type "list"/\o.dict=none/\o.data=.seq its n/\its.size<=sizeLine/\Vals xs its.toList
def SqT(K:W.Frag)(H:Hp)(a:Addr)(xs:List V):Prop:=
 Rd H a (.tup xs)∨
  ∃(o:Obj) (its:Array Value) (n:Nat),K.lookup a=some o/\o.cls=.type "tuple"/\o.data=.seq its n/\its.size<=sizeLine/\Vals xs its.toList
def absV:Value->Option V
 | .none=>some .non
 | .bool b=>some (.bl b)
 | .int i _=>some (.int i)
 | .str x _=>some (.str x)
 | .bytes b _=>some (.byt b)
 | .float b _=>some (.flt b)
 | .ref a=>some (.ref a)
 | .type n=>some (.ty n)
 | _=>none
theorem RelV.abs{x:V}{u:Value}(r:RelV x u):absV u=some x:=by
 cases x with
 | non=>cases r;rfl
 | bl _=>cases r;rfl
 | int _=>obtain⟨t,rfl⟩:=r;rfl
 | str _=>obtain⟨t,rfl⟩:=r;rfl
 | byt _=>obtain⟨t,rfl⟩:=r;rfl
 | flt _=>obtain⟨t,rfl⟩:=r;rfl
 | ref _=>cases r;rfl
 | ty _=>cases r;rfl
theorem RelV.inj{x y:V}{u:Value}(r:RelV x u)(q:RelV y u):x=y:=zR0 (r.abs.symm.trans q.abs)
theorem Vals.inj:∀{xs ys:List V}{us:List Value},Vals xs us->Vals ys us->xs=ys
 | _,_,_,.nil,.nil=>rfl
 | _,_,_,.cons r t,.cons r' t'=>by rw[r.inj r',Vals.inj t t']
section
variable {X:Cx} {pins:List (Addr×Obj)} {σ:St} {H:Hp} {s:Shared} {a:Addr} {xs ys:List V}
theorem zE0{K:W.Frag}(h:H a=some (.lst xs)):SqL K H a xs:=.inl (.inl h)
abbrev SqL.of:=@zE0
theorem zB0{K:W.Frag}(h:H a=some (.tup xs)):SqT K H a xs:=.inl (.inl h)
abbrev SqT.of:=@zB0
theorem Inv.list(I:Inv X pins σ H s)(h:SqL X.K H a xs):∃its:List Value,Vals xs its/\PlainL s.heap a its.toArray/\xs.length<=sizeLine:=by
 rcases h with h | ⟨o,its,n,hk,hc,hd,hs,hz,r⟩
 . obtain⟨z,its,n,r,e⟩:=h.ok I.hok;exact⟨its,r,⟨_,n,e,rfl,rfl,rfl⟩,z⟩
 . refine⟨its.toList,r,⟨o,n,I.kIn a o hk,hc,hd,by simpa using hs⟩,?_⟩;have e:=r.length;simp only[Array.length_toList]at e;omega
theorem Inv.tuple(I:Inv X pins σ H s)(h:SqT X.K H a xs):∃its:List Value,Vals xs its/\IsTup s.heap a its.toArray/\xs.length<=sizeLine:=by
 rcases h with h | ⟨o,its,n,hk,hc,hs,hz,r⟩
 . obtain⟨z,its,r,p,_⟩:=h.ok I.hok;exact⟨its,r,p,z⟩
 . refine⟨its.toList,r,⟨o,I.kIn a o hk,hc,n,by simpa using hs⟩,?_⟩;have e:=r.length;simp only[Array.length_toList]at e;omega
theorem Inv.list_inj(I:Inv X pins σ H s)(h:SqL X.K H a xs)(h':SqL X.K H a ys):xs=ys:=by
 obtain⟨its,r,⟨o,n,e,_,_,d⟩,_⟩:=I.list h;obtain⟨its',r',⟨o',n',e',_,_,d'⟩,_⟩:=I.list h';rw[e]at e';cases e';rw[d]at d';injection d' with d1 _
 have:its=its':=by simpa using congrArg Array.toList d1
 subst this;exact r.inj r'
theorem Inv.tuple_inj(I:Inv X pins σ H s)(h:SqT X.K H a xs)(h':SqT X.K H a ys):xs=ys:=by
 obtain⟨its,r,⟨o,e,_,n,d⟩,_⟩:=I.tuple h;obtain⟨its',r',⟨o',e',_,n',d'⟩,_⟩:=I.tuple h';rw[e]at e';cases e';rw[d]at d';injection d' with d1 _
 have:its=its':=by simpa using congrArg Array.toList d1
 subst this;exact r.inj r'
end
abbrev Cx.wish(X:Cx)(E:Value->Shared->Prop):Cx:={ X with xe:=E }
abbrev Cx.nox(X:Cx):Cx:=X.wish fun _ _=>False
theorem Cx.Ok.wish{X:Cx}(ok:X.Ok)(E:Value->Shared->Prop):(X.wish E).Ok:=
 ⟨ok.mod,ok.kind,ok.glob,ok.blt,ok.above,ok.inj,ok.has,ok.cab,ok.hd,ok.frames,ok.stk,ok.exf,ok.bs,ok.bsz,ok.noex,ok.exfs,ok.funs,ok.frf⟩
theorem Cx.Ok.unwish{X:Cx}{E:Value->Shared->Prop}(ok:(X.wish E).Ok):X.Ok:=
 ⟨ok.mod,ok.kind,ok.glob,ok.blt,ok.above,ok.inj,ok.has,ok.cab,ok.hd,ok.frames,ok.stk,ok.exf,ok.bs,ok.bsz,ok.noex,ok.exfs,ok.funs,ok.frf⟩
section
variable {X:Cx} {pins:List (Addr×Obj)} {σ:St} {H:Hp} {s:Shared} {E:Value->Shared->Prop}
theorem Inv.wish(I:Inv X pins σ H s)(E:Value->Shared->Prop):Inv (X.wish E) pins σ H s:=⟨I.ok.wish E,I.os,I.bare,I.base,I.loc,I.cell,I.free,I.freeC,I.pin,I.hok,I.len⟩
theorem Inv.unwish(I:Inv (X.wish E) pins σ H s):Inv X pins σ H s:=⟨I.ok.unwish,I.os,I.bare,I.base,I.loc,I.cell,I.free,I.freeC,I.pin,I.hok,I.len⟩
theorem SP.unwish{D:Ends}{f:Flow}{s':Shared}(h:SP (X.wish E) pins D f s'):SP X pins D f s':=by
 cases f with
 | next=>obtain⟨σ',H',I,q⟩:=h;exact⟨σ',H',I.unwish,q⟩
 | brk=>obtain⟨σ',H',I,q⟩:=h;exact⟨σ',H',I.unwish,q⟩
 | cont=>obtain⟨σ',H',I,q⟩:=h;exact⟨σ',H',I.unwish,q⟩
 | ret u=>obtain⟨v,σ',H',I,r,q⟩:=h;exact⟨v,σ',H',I.unwish,r,q⟩
theorem PSs.nox{st:List Stmt}{t:TS}(h:PSs X.nox st t):PSs X st t:=fun pins s σ H D I hw=>
 wpAny_mono (h pins s σ H D (I.wish _) hw) (fun _ _ q=>q.unwish) fun _ _ z=>False.elim z
end
section
variable {X:Cx} {st:Stmt} {rest:List Stmt} {t u:TS} {e:Expr} {te:TE} {pos:Pos}
def Bx:TS:=fun D σ H=>D.nx σ H
def qR(t u:TS):TS:=fun D σ H=>t { D with nx:=u D } σ H
theorem az:PSs X [] Bx:=fun _ _ σ H _ I h=>wpAny_execs_nil ⟨σ,H,I,h⟩
theorem ac(h1:PS X st t)(h2:PSs X rest u):PSs X (st::rest) (qR t u):=by
 intro pins s σ H D I h;refine wpAny_execs_cons (thn (h1 pins s σ H { D with nx:=u D } I h) fun f s1 q=>?_);cases f with
 | next=>
   obtain⟨σ',H',I',q⟩:=q;exact h2 pins s1 σ' H' D I' q
 | ret v=>exact q
 | brk=>exact q
 | cont=>exact q
theorem ad(h1:PS X st t):PSs X [st] t:=by
 intro pins s σ H D I h;refine wpAny_execs_cons (thn (h1 pins s σ H D I h) fun f s1 q=>?_);cases f with
 | next=>exact wpAny_execs_nil q
 | ret v=>exact q
 | brk=>exact q
 | cont=>exact q
def Ct:TS:=fun D σ H=>D.bk σ H
theorem yH:PS X (.Break pos) Ct:=fun _ _ σ H _ I h=>wpAny_Break ⟨σ,H,I,h⟩
theorem Inv.quiet{pins:List (Addr×Obj)}{σ:St}{H:Hp}{s:Shared}(I:Inv X pins σ H s):interactive X.env=false:=by simp [interactive,I.ok.kind]
def tDrop(te:TE):TS:=fun D σ H=>te σ H fun _ H1=>D.nx σ H1
theorem bE(he:PE X e te)(hs:swapsWith e none pos.line X.env=pure false:=by rfl):PS X (.Expr e pos) (tDrop te):=by
 intro pins s σ H D I h;exact wpAny_Expr_any (thn (he pins s σ H _ I h) fun v s1 ⟨x,H1,I1,r1,q1⟩=>⟨σ,H1,I1,q1⟩) I.quiet hs
def tRet(te:TE):TS:=fun D σ H=>te σ H D.rt
theorem av(he:PE X e te):PS X (.Return (some e) pos) (tRet te):=by
 intro pins s σ H D I h;exact wpAny_Return_some (thn (he pins s σ H _ I h) fun v s1 ⟨x,H1,I1,r1,q1⟩=>⟨x,σ,H1,I1,r1,q1⟩)
def Co(c:TT)(t u:TS):TS:=fun D σ H=>c σ H fun b H1=>if b=true then t D σ H1 else u D σ H1
theorem aJ{c:Expr}{a b:List Stmt}{tc:TT}(hc:PT X c tc)(ha:PSs X a t)(hb:PSs X b u):PS X (.If c a b pos) (Co tc t u):=by
 intro pins s σ H D I h;refine wpAny_If (thn (hc pins s σ H _ I h) fun d s1 ⟨H1,I1,q1⟩=>?_);cases d with
 | true=>exact ha pins s1 σ H1 D I1 q1
 | false=>exact hb pins s1 σ H1 D I1 q1
def Cl:TS:=fun _ _ _=>False
theorem jG{sts:List Stmt}:PSs X sts Cl:=fun _ _ _ _ _ _ h=>h.elim
end
abbrev TG:=V->St->Hp->(St->Hp->Prop)->Prop
abbrev TGs:=List V->St->Hp->(St->Hp->Prop)->Prop
def PG(X:Cx)(target:Expr)(t:TG):Prop:=
 ∀(pins:List (Addr×Obj))(s:Shared)(σ:St)(H:Hp)(v:V)(u:Value)(Q:St->Hp->Prop),Inv X pins σ H s->RelV v u->t v σ H Q ->
  wpAny (model X.prog X.w) X.A (assign target X.env u) (fun _ s'=>∃ σ' H',Inv X pins σ' H' s'/\Q σ' H') X.xe s
def PGs(X:Cx)(ts:List Expr)(t:TGs):Prop:=
 ∀(pins:List (Addr×Obj))(s:Shared)(σ:St)(H:Hp)(vs:List V)(us:List Value)(Q:St->Hp->Prop),Inv X pins σ H s->Vals vs us->t vs σ H Q ->
  wpAny (model X.prog X.w) X.A (assignInOrder ((assignEach ts X.env).map (·.2)) us) (fun _ s'=>∃ σ' H',Inv X pins σ' H' s'/\Q σ' H') X.xe s
abbrev DL:=V->V->V->Hp->(Hp->Prop)->Prop
def PSet(X:Cx)(t:DL):Prop:=
 ∀(pins:List (Addr×Obj))(s:Shared)(σ:St)(H:Hp)(o i v:V)(ov iv u:Value)(Q:Hp->Prop),Inv X pins σ H s->RelV o ov->RelV i iv->RelV v u->t o i v H Q ->
  wpAny (model X.prog X.w) X.A (setItem ov iv u) (fun _ s'=>∃H',Inv X pins σ H' s'/\Q H') X.xe s
section
variable {X:Cx} {pos:Pos}
def sD(i:Nat):TG:=fun v σ H Q=>Q (σ.set i (some v)) H
theorem bd{i:Nat}{x:Str}(hN:X.N.Nodup)(hi:X.N[i]?=some x)(hx:Loc X.env.scope x)(hf:X.fn x=true∨X.env.scope.names.lookup x=some .local:=by first | exact .inl rfl | exact .inr rfl | assumption):PG X (.Name x pos) (sD i):=by
 intro pins s σ H v u Q I r h;exact wpAny_assign_Name (mE I hN hi hx r (fun s' I'=>⟨_,H,I',h⟩) hf)
def gNil:TGs:=fun vs σ H Q=>vs=[]/\Q σ H
def gCons(t:TG)(u:TGs):TGs:=fun vs σ H Q=>∃v r,vs=v::r/\t v σ H fun σ' H'=>u r σ' H' Q
theorem qi:PGs X [] gNil:=by
 intro pins s σ H vs us Q I r h;obtain⟨e,h⟩:=h;subst e;cases r;exact assignInOrder_nil ⟨σ,H,I,h⟩
theorem fJ{e:Expr}{es:List Expr}{t:TG}{u:TGs}(h1:PG X e t)(h2:PGs X es u)
 (hs:(assignEach (e::es) X.env).map (·.2)=assign e X.env::(assignEach es X.env).map (·.2):=by rfl):PGs X (e::es) (gCons t u):=by
 intro pins s σ H vs us Q I r h;obtain⟨v,vr,e1,h⟩:=h;subst e1;cases r with
 | cons r rr=>
   rw[hs];refine assignInOrder_cons (thn (h1 pins s σ H _ _ _ I r h) fun _ s1 ⟨σ1,H1,I1,q1⟩=>?_);exact h2 pins s1 σ1 H1 _ _ Q I1 rr q1
def gTup(K:W.Frag)(n:Nat)(t:TGs):TG:=fun v σ H Q=>∃a xs,v=.ref a/\SqT K H a xs/\xs.length=n/\t xs σ H Q
theorem yL{es:List Expr}{k:Nat}{t:TGs}{n:Nat}(hc:X.calm=true)(h:PGs X es t)
 (hn:(assignEach es X.env).length=n:=by rfl) (hst:(assignEach es X.env).findIdx? (·.1)=none:=by rfl):PG X (.Tuple es k pos) (gTup X.K n t):=by
 intro pins s σ H v u Q I r hw;obtain⟨a,xs,e1,hq,hl,hw⟩:=hw;subst e1;cases r;obtain⟨its,rv,ht,hz⟩:=I.tuple hq;refine assign_Tuple_tuple (I.ok.hd hc) ht (by simp [hn,←hl,rv.length]) hst fun h' hx=>?_
 have I1:Inv X pins σ H { s with heap:=h' }:=I.kept (t':=s.toks) fun b o e=>hx b o (zS0 (zN0 e)) e
 exact h pins _ σ H xs _ Q I1 (by simpa using rv) hw
def gSub(to ti:TE)(t:DL):TG:=fun v σ H Q=>to σ H fun o H1=>ti σ H1 fun i H2=>t o i v H2 fun H3=>Q σ H3
theorem qj{o i:Expr}{to ti:TE}{t:DL}(ho:PE X o to)(hi:PE X i ti)(hs:PSet X t)
 (ha:∀v,assign (.Subscript o i pos) X.env v=(do
  let ov ←holding [v] (eval o X.env)
  let iv ←holding [v,ov] (eval i X.env)
  standAt pos
  holding [v,ov,iv] (setItem ov iv v)
  release [v,ov,iv] []):=by intro _;rfl):PG X (.Subscript o i pos) (gSub to ti t):=by
 intro pins s σ H v u Q I r h;rw[ha];refine zA0 (wpAny_holding (thn (ho pins s σ H _ I h) fun ov s1 ⟨x,H1,I1,r1,q1⟩=>?_));refine zA0 (wpAny_holding (thn (hi pins s1 σ H1 _ I1 q1) fun iv s2 ⟨y,H2,I2,r2,q2⟩=>?_));refine zA0 (wpAny_standAt (zA0 (wpAny_holding (thn (hs pins s2 σ H2 x y v ov iv u _ I2 r1 r2 r q2) fun _ s3 ⟨H3,I3,q3⟩=>?_))));exact wpAny_release ⟨σ,H3,I3,q3⟩
def xR(te:TE)(g:TG):TS:=fun D σ H=>te σ H fun x H1=>g x σ H1 D.nx
theorem lj{tg e:Expr}{te:TE}{g:TG}(he:PE X e te)(hg:PG X tg g)(hs:swapsWithSole [tg] e pos.line X.env=pure false:=by rfl)(hw:swappedStores [tg] e X.env=pure none:=by rfl)
 (h1:(assignEach [tg] X.env).map (·.2)=[assign tg X.env]:=by rfl):PS X (.Assign [tg] e pos) (xR te g):=by
 intro pins s σ H D I h;refine wpAny_Assign_stores (thn (he pins s σ H _ I h) fun v s1 ⟨x,H1,I1,r1,q1⟩=>?_) hs hw;rw[h1];exact thn (hg pins s1 σ H1 x v _ I1 r1 q1) fun _ s2 q=>q
theorem am{i:Nat}{x:Str}{e:Expr}{te:TE}{pos':Pos}(hN:X.N.Nodup)(hi:X.N[i]?=some x)(hx:Loc X.env.scope x)(he:PE X e te)(hs:swapsWith e (some (.Name x pos')) pos.line X.env=pure false:=by rfl)(hf:X.fn x=true∨X.env.scope.names.lookup x=some .local:=by first | exact .inl rfl | exact .inr rfl | assumption) :
 PS X (.Assign [.Name x pos'] e pos) (xR te (sD i)):=by
 intro pins s σ H D I h;refine wpAny_Assign_Name (thn (he pins s σ H _ I h) fun v s1 ⟨y,H1,I1,r1,q1⟩=>?_) hs;exact mE I1 hN hi hx r1 (fun s2 I2=>⟨_,H1,I2,q1⟩) hf
end
section
variable {X:Cx} {pos:Pos}
def xL(c:TT)(tb:TS):TS:=fun D σ H=>∃W:Nat->St->Hp->Prop,(∃m,W m σ H)/\∀m σ H,W m σ H ->
 c σ H fun b H1=>if b=true then ∃N:St->Hp->Prop,(∀ σ' H',N σ' H'->∃m',m'<m/\W m' σ' H')/\tb { D with nx:=N,ct:=N,bk:=D.nx } σ H1 else D.nx σ H1
theorem ir{c:Expr}{body:List Stmt}{tc:TT}{tb:TS}(hp:PassesOwn (model X.prog X.w) X.A X.env X.xe)(hc:PT X c tc)(hb:PSs X body tb):PS X (.While c body [] pos) (xL tc tb):=by
 intro pins s σ H D I h;obtain⟨W,⟨m0,w0⟩,turn⟩:=h;refine wpAny_While (codeAny_whileLoop (fun n s'=>∃ σ' H',Inv X pins σ' H' s'/\W n σ' H') ?_ m0 ⟨σ,H,I,w0⟩);rintro n s1 ⟨σ1,H1,I1,w1⟩;refine wpAny_passesOwn hp (thn (hc pins s1 σ1 H1 _ I1 (turn n σ1 H1 w1)) fun b s2 ⟨H2,I2,q2⟩=>?_);cases b with
 | true=>
   obtain⟨N,hN,q2⟩:=q2;rw[zF0 rfl];refine wpAny_passesOwn hp (thn (hb pins s2 σ1 H2 _ I2 q2) fun f s3 q3=>?_);cases f with
   | next=>
     obtain⟨σ3,H3,I3,n3⟩:=q3;obtain⟨m',hm,w3⟩:=hN σ3 H3 n3;exact⟨m',hm,σ3,H3,I3,w3⟩
   | cont=>
     obtain⟨σ3,H3,I3,n3⟩:=q3;obtain⟨m',hm,w3⟩:=hN σ3 H3 n3;exact⟨m',hm,σ3,H3,I3,w3⟩
   | brk=>exact q3
   | ret v=>exact q3
 | false=>
   rw[zD0 zY0];exact wpAny_execs_nil ⟨σ1,H2,I2,q2⟩
end
structure It where
 go:Nat->Hp->Prop
 yld:Nat->Hp->V->Hp->Prop
 stop:Nat->Hp->Prop
def kQ(X:Cx)(pins:List (Addr×Obj))(H:Hp)(b:Addr):Prop:=
 H b=none/\b≠X.env.locals/\b∉X.fs/\(b∈X.ex∨X.s₀.heap.objs.size<=b)/\(∀x c,X.env.cells.lookup x=some c->c≠b)/\∀p∈X.pn++pins,p.1≠b
theorem Inv.fpOk{X:Cx}{pins:List (Addr×Obj)}{σ:St}{H H':Hp}{s:Shared}{b:Addr}(I:Inv X pins σ H s)(hb:s.heap.objs.size<=b)(hn:H' b=none):kQ X pins H' b:=by
 refine⟨hn,qP0 (qF0 I.lt hb),I.nofs hb,.inr (zZ0 I.sz hb),fun x c e z=>?_,fun p hp z=>?_⟩
 . obtain⟨v,q⟩:=I.cell x c e;exact absurd (qF0 q.lt (by rw[z];exact hb)) (qV0 _)
 . exact absurd (qF0 (zN0 (I.pin p hp).1) (by rw[z];exact hb)) (qV0 _)
structure Turn(P:Program)(w:World)(K:W.Frag)(tg:Expr)(J:It)(fp:List Addr)(it:Addr)(tn:Nat->Heap->Prop):Prop where
 mem:it∈fp
 obj:∀i h,tn i h->∀b∈fp,∃o,h.get? b=some o/\∀v,o.data≠.cell v
 keep:∀i h h',tn i h->(∀b∈fp,∀o,h.get? b=some o->h'.get? b=some o)->tn i h'
 item:∀(X:Cx),X.prog=P->X.w=w->X.K=K->X.calm=true->∀(i:Nat)(pins:List (Addr×Obj))(s:Shared)(σ:St)(H:Hp)(E:Value->Shared->Prop),Inv X pins σ H s->(∀b∈fp,kQ X pins H b)->tn i s.heap->J.go i H ->
  wpAny (model P w) X.A (pyNext (.ref it)) (fun r s1=>∃u,r=some u/\
   wpAny (model P w) X.A (letOwnedTupleGo tg (.ref it) u) (fun _ s2=>∃x H',Inv X pins σ H' s2/\RelV x u/\J.yld i H x H'/\tn (i+1) s2.heap/\∀b∈fp,H' b=none) E s1) E s
 done:∀(X:Cx),X.prog=P->X.w=w->X.K=K->X.calm=true->∀(i:Nat)(pins:List (Addr×Obj))(s:Shared)(σ:St)(H:Hp)(E:Value->Shared->Prop),Inv X pins σ H s->(∀b∈fp,kQ X pins H b)->tn i s.heap->J.stop i H ->
  wpAny (model P w) X.A (pyNext (.ref it)) (fun r s1=>r=none/\Inv X pins σ H s1) E s
 self:∀(A:Around)(i:Nat)(s:Shared)(Q:Value->Shared->Prop)(E:Value->Shared->Prop),tn i s.heap->Q (.ref it) s->wpAny (model P w) A (pyIter (.ref it)) Q E s
abbrev TI:=St->Hp->(It->Hp->Prop)->Prop
def PIE(X:Cx)(pins:List (Addr×Obj))(σ:St)(tg:Expr)(R:It->Hp->Prop)(itv:Value)(s2:Shared):Prop:=
 ∃(it:Addr)(fp:List Addr)(tn:Nat->Heap->Prop)(J:It)(H':Hp),itv=.ref it/\Inv X pins σ H' s2/\Turn X.prog X.w X.K tg J fp it tn/\tn 0 s2.heap/\(∀b∈fp,kQ X pins H' b)/\R J H'
def PI(X:Cx)(tg iter:Expr)(wi:TI):Prop:=
 ∀(pins:List (Addr×Obj))(s:Shared)(σ:St)(H:Hp)(R:It->Hp->Prop),Inv X pins σ H s->wi σ H R ->
  wpAny (model X.prog X.w) X.A (eval iter X.env) (fun v s1=>wpAny (model X.prog X.w) X.A (pyIter v) (PIE X pins σ tg R) X.xe s1) X.xe s
theorem sy{M:Model}{A:Around}{E:Value->Shared->Prop}{s:Shared}{tg:Expr}{it:Addr}{u:Value}{o:Obj}{n:String}{vs:Array Value}{Q:Unit->Shared->Prop}(ho:s.heap.get? it=some o)(hc:o.cls=.type n)(hd:o.data=.fields vs)
 (hn:["enumerate","zip","dict_itemiterator","dict_reverseitemiterator","odict_iterator","itertools.zip_longest","itertools.pairwise"].contains n=false) (hQ:Q () s):wpAny M A (letOwnedTupleGo tg (.ref it) u) Q E s:=by
 unfold letOwnedTupleGo;cases tg <;> first
  | exact zI0 hQ
  | (cases u <;> first
   | exact zI0 hQ
   | (refine zA0 (wpAny_load ho ?_)
      rw[hc,hd];show wpAny M A (if(["enumerate","zip","dict_itemiterator","dict_reverseitemiterator","odict_iterator","itertools.zip_longest","itertools.pairwise"].contains n&&vs[0]?==some (rawInt _))=true then _ else _) Q E s;rw[zD0 (by intro h;rw[hn,Bool.false_and]at h;cases h)];exact zI0 hQ))
def Itl(K:W.Frag)(a:Addr):It:=
 ⟨fun i H=>∃xs x,SqL K H a xs/\xs[i]?=some x,fun i H x H'=>H'=H/\∀xs,SqL K H a xs->xs[i]?=some x,fun i H=>∃xs,SqL K H a xs/\xs.length<=i⟩
def Itt(K:W.Frag)(a:Addr):It:=
 ⟨fun i H=>∃xs x,SqT K H a xs/\xs[i]?=some x,fun i H x H'=>H'=H/\∀xs,SqT K H a xs->xs[i]?=some x,fun i H=>∃xs,SqT K H a xs/\xs.length<=i⟩
def Itr(lo:Int)(n:Nat):It:=⟨fun i _=>i<n,fun i H x H'=>H'=H/\x=.int (lo+i),fun i _=>n<=i⟩
theorem vQ{P:Program}{w:World}{K:W.Frag}{tg:Expr}(a it:Addr):Turn P w K tg (Itl K a) [it] it (fun i h=>h.IsListIter it a i) where
 mem:=by simp
 obj:=fun i h st b hb=>by
  have e:b=it:=by simpa using hb
  subst e;obtain⟨o,e,c,d⟩:=st;exact⟨o,e,fun v z=>by rw[d]at z;cases z⟩
 keep:=fun i h h' st k=>st.at fun o e=>k it (by simp) o e
 item:=by
  intro X hP hw hK hc i pins s σ H E I hf st hg;subst hP hw hK;obtain⟨xs,x,hq,hx⟩:=hg;obtain⟨its,rv,p,hz⟩:=I.list hq;obtain⟨u,hu,ru⟩:=rv.get hx;obtain⟨f0,f1,f2,f3,f4,f5⟩:=hf it (by simp);refine wpAny_pyNext_list_item st p.isList (x:=u) (by simpa using hu) fun h' st' sb=>?_
  have I1:Inv X pins σ H { s with heap:=h' }:=I.turned (t':=s.toks) (fun b o hb e=>(sb.2 b hb).trans e) f0 f1 f3 f4 f5;obtain⟨o,e,c,d⟩:=id st';exact⟨u,rfl,sy (s:={ s with heap:=h' }) e c d (by decide) ⟨x,H,I1,ru,⟨rfl,fun ys hy=>by rw[I.list_inj hy hq];exact hx⟩,st',fun b hb=>(hf b hb).1⟩⟩
 done:=by
  intro X hP hw hK hc i pins s σ H E I hf st hg;subst hP hw hK;obtain⟨xs,hq,hx⟩:=hg;obtain⟨its,rv,p,hz⟩:=I.list hq;obtain⟨f0,f1,f2,f3,f4,f5⟩:=hf it (by simp);have hl:=rv.length;exact wpAny_pyNext_list_end (I.ok.hd hc) st p.isList (by simp;omega) fun h' eb=>⟨rfl,I.turned (t':=s.toks) (fun b o hb e=>eb b o hb e) f0 f1 f3 f4 f5⟩
 self:=fun _ _ _ _ _ st h=>wpAny_pyIter_listiter st h
theorem sZ{P:Program}{w:World}{K:W.Frag}{tg:Expr}(a it:Addr):Turn P w K tg (Itt K a) [it] it (fun i h=>h.IsTupleIter it a i) where
 mem:=by simp
 obj:=fun i h st b hb=>by
  have e:b=it:=by simpa using hb
  subst e;obtain⟨o,e,c,d⟩:=st;exact⟨o,e,fun v z=>by rw[d]at z;cases z⟩
 keep:=fun i h h' st k=>st.at fun o e=>k it (by simp) o e
 item:=by
  intro X hP hw hK hc i pins s σ H E I hf st hg;subst hP hw hK;obtain⟨xs,x,hq,hx⟩:=hg;obtain⟨its,rv,p,hz⟩:=I.tuple hq;obtain⟨u,hu,ru⟩:=rv.get hx;obtain⟨f0,f1,f2,f3,f4,f5⟩:=hf it (by simp);refine wpAny_pyNext_tuple_item st (show s.heap.IsTuple a its.toArray from p) (x:=u) (by simpa using hu) fun h' st' sb=>?_
  have I1:Inv X pins σ H { s with heap:=h' }:=I.turned (t':=s.toks) (fun b o hb e=>(sb.2 b hb).trans e) f0 f1 f3 f4 f5;obtain⟨o,e,c,d⟩:=id st';exact⟨u,rfl,sy (s:={ s with heap:=h' }) e c d (by decide) ⟨x,H,I1,ru,⟨rfl,fun ys hy=>by rw[I.tuple_inj hy hq];exact hx⟩,st',fun b hb=>(hf b hb).1⟩⟩
 done:=by
  intro X hP hw hK hc i pins s σ H E I hf st hg;subst hP hw hK;obtain⟨xs,hq,hx⟩:=hg;obtain⟨its,rv,p,hz⟩:=I.tuple hq;obtain⟨f0,f1,f2,f3,f4,f5⟩:=hf it (by simp);have hl:=rv.length;exact wpAny_pyNext_tuple_end (I.ok.hd hc) st (show s.heap.IsTuple a its.toArray from p) (by simp;omega) fun h' eb=>⟨rfl,I.turned (t':=s.toks) (fun b o hb e=>eb b o hb e) f0 f1 f3 f4 f5⟩
 self:=fun _ _ _ _ _ st h=>wpAny_pyIter_tupleiter st h
theorem tf{P:Program}{w:World}{K:W.Frag}{tg:Expr}(it:Addr)(lo:Int)(n:Nat):Turn P w K tg (Itr lo n) [it] it (fun i h=>IsRangeIter h it (lo+(i:Nat)*1) ((n:Int)-(i:Nat)) 1) where
 mem:=by simp
 obj:=fun i h st b hb=>by
  have e:b=it:=by simpa using hb
  subst e;exact⟨_,st,fun v z=>by
   have z':Data.fields _=Data.cell v:=z;cases z'⟩
 keep:=fun i h h' st k=>k it (by simp) _ st
 item:=by
  intro X hP hw hK hc i pins s σ H E I hf st hg;subst hP hw hK;obtain⟨f0,f1,f2,f3,f4,f5⟩:=hf it (by simp);have W:=Walks.range (prog:=X.prog) (w:=X.w) (I.ok.hd hc) it lo 1 n;refine W.item i s _ _ hg st fun v h' tk hv st' kk=>?_
  obtain⟨t,rfl⟩:=hv;have I1:Inv X pins σ H { s with heap:=h',toks:=tk }:=I.turned (fun b o hb e=>kk b o (by simpa using hb) e) f0 f1 f3 f4 f5;refine⟨_,rfl,sy (s:={ s with heap:=h',toks:=tk }) (n:="range_iterator") st' rfl rfl (by decide) ⟨.int (lo+i),H,I1,⟨t,?_⟩,⟨rfl,rfl⟩,st',fun b hb=>(hf b hb).1⟩⟩;rw[Int.mul_one]
 done:=by
  intro X hP hw hK hc i pins s σ H E I hf st hg;subst hP hw hK;obtain⟨f0,f1,f2,f3,f4,f5⟩:=hf it (by simp);exact wpAny_pyNext_range_end (I.ok.hd hc) st (by have:n<=i:=hg;omega) fun h' eb=>⟨rfl,I.turned (t':=s.toks) (fun b o hb e=>eb b o hb e) f0 f1 f3 f4 f5⟩
 self:=fun _ _ _ _ _ st h=>wpAny_pyIter_rangeiter st h
section
variable {X:Cx} {tg:Expr}
def iList(K:W.Frag)(tl:TE):TI:=fun σ H R=>tl σ H fun x H1=>∃a,x=.ref a/\(∃xs,SqL K H1 a xs)/\R (Itl K a) H1
def iTup(K:W.Frag)(tl:TE):TI:=fun σ H R=>tl σ H fun x H1=>∃a,x=.ref a/\(∃xs,SqT K H1 a xs)/\R (Itt K a) H1
theorem dZ{l:Expr}{tl:TE}(hl:PE X l tl):PI X tg l (iList X.K tl):=by
 intro pins s σ H R I h;refine thn (hl pins s σ H _ I h) fun v s1 ⟨x,H1,I1,r1,q1⟩=>?_
 obtain⟨a,e,⟨xs,hq⟩,q⟩:=q1;subst e;cases r1;obtain⟨its,rv,p,hz⟩:=I1.list hq;refine wpAny_pyIter_list p.isList ?_;refine⟨s1.heap.objs.size,[s1.heap.objs.size],_,_,H1,rfl,I1.kept (t':=s1.toks) fun b o e=>zO0 _ e,vQ a _,⟨_,zV0 _ rfl,rfl,rfl⟩,fun b hb=>?_,q⟩;have e:b=s1.heap.objs.size:=by simpa using hb
 subst e;exact I1.fpOk (zG0 _) (I1.hok.fresh (zG0 _))
theorem jm{l:Expr}{tl:TE}(hl:PE X l tl):PI X tg l (iTup X.K tl):=by
 intro pins s σ H R I h;refine thn (hl pins s σ H _ I h) fun v s1 ⟨x,H1,I1,r1,q1⟩=>?_
 obtain⟨a,e,⟨xs,hq⟩,q⟩:=q1;subst e;cases r1;obtain⟨its,rv,p,hz⟩:=I1.tuple hq;refine wpAny_pyIter_tuple (show s1.heap.IsTuple a its.toArray from p) ?_;refine⟨s1.heap.objs.size,[s1.heap.objs.size],_,_,H1,rfl,I1.kept (t':=s1.toks) fun b o e=>zO0 _ e,sZ a _,⟨_,zV0 _ rfl,rfl,rfl⟩,fun b hb=>?_,q⟩;have e:b=s1.heap.objs.size:=by simpa using hb
 subst e;exact I1.fpOk (zG0 _) (I1.hok.fresh (zG0 _))
theorem rD{pins:List (Addr×Obj)}{σ:St}{H:Hp}{s:Shared}{R:It->Hp->Prop}{E:Value->Shared->Prop}{lo hi:Int}{t u v:Tok}{tk:Nat}(I:Inv X pins σ H s)(h1:-(2 ^ 62)<=lo)(h2:lo<2 ^ 62)(h3:-(2 ^ 62)<=hi)(h4:hi<2 ^ 62)
 (q:R (Itr lo (hi-lo).toNat) H):wpAny (model X.prog X.w) X.A (pyIter (.ref s.heap.objs.size)) (PIE X pins σ tg R) E { s with heap:=s.heap.push { cls:=.type "range",data:=.fields #[.int lo t,.int hi u,.int 1 v] },toks:=tk }:=by
 refine wpAny_pyIter_range (IsRange.new ..) (small_one h1 h2 h3 h4) ?_;have I1:Inv X pins σ H { s with heap:=s.heap.push { cls:=.type "range",data:=.fields #[.int lo t,.int hi u,.int 1 v] },toks:=tk }:=I.kept fun b o e=>zO0 _ e
 refine ⟨(s.heap.push { cls:=.type "range",data:=.fields #[.int lo t,.int hi u,.int 1 v] }).objs.size,[(s.heap.push { cls:=.type "range",data:=.fields #[.int lo t,.int hi u,.int 1 v] }).objs.size],_,_,H,rfl,
  I1.kept (t':=tk) fun b o e=>zO0 _ e,tf _ lo (hi-lo).toNat,?_,fun b hb=>?_,q⟩
 . have e1:lo+((0:Nat):Int)*1=lo:=by simp
   have e2:(((hi-lo).toNat:Nat):Int)-((0:Nat):Int)=Builtin.Range.rangeSize lo hi 1:=by rw[rangeSize_one];split <;> omega
   show IsRangeIter _ _ (lo+((0:Nat):Int)*1) ((((hi-lo).toNat:Nat):Int)-((0:Nat):Int)) 1;rw[e1,e2];exact zV0 _ rfl
 . have e:b=(s.heap.push { cls:=.type "range",data:=.fields #[.int lo t,.int hi u,.int 1 v] }).objs.size:=by simpa using hb
   subst e;exact I1.fpOk (zG0 _) (I1.hok.fresh (zG0 _))
def iRng1(ta:TA):TI:=fun σ H R=>ta σ H fun vs H1=>∃j:Int,vs=[.int j]/\-(2 ^ 62)<=j/\j<2 ^ 62/\R (Itr 0 j.toNat) H1
def iRng2(ta:TA):TI:=fun σ H R=>ta σ H fun vs H1=>∃i j:Int,vs=[.int i,.int j]/\(-(2 ^ 62)<=i/\i<2 ^ 62/\-(2 ^ 62)<=j/\j<2 ^ 62)/\R (Itr i (j-i).toNat) H1
theorem bt {a:Expr} {ta:TA} {p pos:Pos} (hg:Gl X "range") (hm:X.mg "range"=none) (ha:PA X [a] ta) (hs:starEach [a] X.env=[(false,eval a X.env)]:=by rfl):PI X tg (.Call (.Name "range" p) [a] [] pos) (iRng1 ta):=by
 intro pins s σ H R I h;refine Call_ (gN I hg hm boot_range (PyProof.Rows.callWith_type1 (thn (ha pos pins s σ H _ I h) fun us s1 ⟨vs,H1,I1,r1,q1⟩=>?_) hs rfl));obtain⟨j,e,q1,q2,q⟩:=q1;subst e;cases r1 with
 | cons r rr=>
   cases rr;obtain⟨t,rfl⟩:=r;exact call_range_1 (rD I1 (by omega) (by omega) q1 q2 (by simpa using q))
theorem pf {a b:Expr} {ta:TA} {p pos:Pos} (hg:Gl X "range") (hm:X.mg "range"=none) (ha:PA X [a,b] ta) (hs:starEach [a,b] X.env=[(false,eval a X.env),(false,eval b X.env)]:=by rfl) (hs2:starEach [b] X.env=[(false,eval b X.env)]:=by rfl) :
 PI X tg (.Call (.Name "range" p) [a,b] [] pos) (iRng2 ta):=by
 intro pins s σ H R I h;refine Call_ (gN I hg hm boot_range (PyProof.Rows.callWith_type1 (thn (ha pos pins s σ H _ I h) fun us s1 ⟨vs,H1,I1,r1,q1⟩=>?_) (by rw[hs,hs2]) (by rw[hs2];rfl)));obtain⟨i,j,e,⟨q1,q2,q3,q4⟩,q⟩:=q1;subst e;cases r1 with
 | cons r rr=>
   cases rr with
   | cons r' rr=>
     cases rr;obtain⟨t,rfl⟩:=r;obtain⟨t',rfl⟩:=r';exact call_range_2 (rD I1 q1 q2 q3 q4 q)
def tFor(wi:TI)(g:TG)(tb:TS):TS:=fun D σ H=>wi σ H fun J H1=>∃W:Nat->Nat->St->Hp->Prop,(∃m,W 0 m σ H1)/\∀i m σ H,W i m σ H ->
 (J.stop i H/\D.nx σ H)∨(J.go i H/\∃N:St->Hp->Prop,(∀ σ' H',N σ' H'->∃m',m'<m/\W (i+1) m' σ' H')/\∀x H',J.yld i H x H'->g x σ H' fun σ2 H2=>tb { D with nx:=N,ct:=N,bk:=D.nx } σ2 H2)
def lp(fp:List Addr)(h:Heap):List (Addr×Obj):=fp.filterMap fun b=>(h.get? b).map fun o=>(b,o)
theorem iJ{fp:List Addr}{h:Heap}{b:Addr}{o:Obj}(hb:b∈fp)(e:h.get? b=some o):(b,o)∈lp fp h:=List.mem_filterMap.mpr ⟨b,hb,by rw[e];rfl⟩
theorem wI{fp:List Addr}{h:Heap}{p:Addr×Obj}(hp:p∈lp fp h):p.1∈fp/\h.get? p.1=some p.2:=by
 obtain⟨b,hb,e⟩:=List.mem_filterMap.mp hp;cases q:h.get? b with
 | none=>rw[q]at e;cases e
 | some o=>
   rw[q]at e;have e':(b,o)=p:=zR0 e;subst e';exact⟨hb,q⟩
theorem Inv.pinned{pins:List (Addr×Obj)}{σ:St}{H:Hp}{s:Shared}{fp:List Addr}(I:Inv X pins σ H s)(hf:∀b∈fp,kQ X pins H b)(ho:∀b∈fp,∃o,s.heap.get? b=some o/\∀v,o.data≠.cell v):Inv X (pins++lp fp s.heap) σ H s:=
 I.pins_of fun p hp=>(zT0 hp).elim (fun z=>I.pin p (qU0 _ z)) fun z=>by
  obtain⟨hb,e⟩:=wI z;obtain⟨f0,f1,f2,_⟩:=hf p.1 hb;obtain⟨o,e',d⟩:=ho p.1 hb;rw[e]at e';cases e';exact⟨e,f0,f1,f2,d⟩
theorem Inv.unpinned{pins pl:List (Addr×Obj)}{σ:St}{H:Hp}{s:Shared}(I:Inv X (pins++pl) σ H s):Inv X pins σ H s:=I.pins_of fun p hp=>I.pin p (qU0 _ (List.mem_append_left _ hp))
theorem bY{iter:Expr}{body:List Stmt}{wi:TI}{g:TG}{tb:TS}{pos:Pos}(hp:PassesOwn (model X.prog X.w) X.A X.env X.xe)(hc:X.calm=true)(hi:PI X tg iter wi)(hg:PG X tg g)(hb:PSs X body tb)
 (hs:∀x,foldedSetIterable iter X.env x=pure x:=by intro _;rfl):PS X (.For tg iter body [] pos) (tFor wi g tb):=by
 intro pins s σ H D I h;refine wpAny_For (thn (hi pins s σ H _ I h) fun v s1 h1=>thn h1 fun itv s2 h2=>?_) hs;obtain⟨it,fp,tn,J,H2,e,I2,T,st2,f2,W,⟨m0,w0⟩,turn⟩:=h2;subst e;have stat:∀{H':Hp},(∀b∈fp,H' b=none)->∀b∈fp,kQ X pins H' b:=fun hn b hb=>⟨hn b hb,(f2 b hb).2⟩
 refine codeAny_forLoop_any (fun n s'=>∃i σ' H',Inv X pins σ' H' s'/\tn i s'.heap/\(∀b∈fp,H' b=none)/\W i n σ' H') ?_ m0 ⟨0,σ,H2,I2,st2,fun b hb=>(f2 b hb).1,w0⟩;rintro n s3 ⟨i,σ3,H3,I3,st3,fr3,w3⟩;rcases turn i n σ3 H3 w3 with⟨stop,qn⟩ | ⟨go,N,hN,step⟩
 . refine wpAny_passesOwn hp (thn (T.done X rfl rfl rfl hc i pins s3 σ3 H3 X.xe I3 (stat fr3) st3 stop) fun r s4 ⟨hr,I4⟩=>?_);subst hr;exact wpAny_execs_nil ⟨σ3,H3,I4,qn⟩
 . refine wpAny_passesOwn hp (thn (T.item X rfl rfl rfl hc i pins s3 σ3 H3 X.xe I3 (stat fr3) st3 go) fun r s4 ⟨u,hr,h4⟩=>?_);subst hr;refine wpAny_passesOwn hp (thn h4 fun _ s5 ⟨x,H5,I5,r5,y5,st5,fr5⟩=>?_);have I5':=I5.pinned (stat fr5) (T.obj _ _ st5);refine wpAny_passesOwn hp (thn (hg _ s5 σ3 H5 x u _ I5' r5 (step x H5 y5)) fun _ s6 ⟨σ6,H6,I6,q6⟩=>?_);refine wpAny_passesOwn hp (thn (hb _ s6 σ6 H6 _ I6 q6) fun f s7 q7=>?_);have again:∀{σ7:St}{H7:Hp},Inv X (pins++lp fp s5.heap) σ7 H7 s7->N σ7 H7->∃m,m<n/\∃i σ' H',Inv X pins σ' H' s7/\tn i s7.heap/\(∀b∈fp,H' b=none)/\W i m σ' H':=fun{σ7 H7} I7 n7=>by
    obtain⟨m',hm,w7⟩:=hN σ7 H7 n7;refine⟨m',hm,i+1,σ7,H7,I7.unpinned,T.keep _ _ _ st5 fun b hb o e=>(I7.pin (b,o) (qU0 _ (qU0 _ (iJ hb e)))).1,fun b hb=>?_,w7⟩;obtain⟨o,e,d⟩:=T.obj _ _ st5 b hb;exact(I7.pin (b,o) (qU0 _ (qU0 _ (iJ hb e)))).2.1
   cases f with
   | next=>obtain⟨σ7,H7,I7,n7⟩:=q7;exact again I7 n7
   | cont=>obtain⟨σ7,H7,I7,n7⟩:=q7;exact again I7 n7
   | brk=>obtain⟨σ7,H7,I7,q7⟩:=q7;exact⟨σ7,H7,I7.unpinned,q7⟩
   | ret v=>obtain⟨x7,σ7,H7,I7,r7,q7⟩:=q7;exact⟨x7,σ7,H7,I7.unpinned,r7,q7⟩
end
theorem jq{K:W.Frag}{a:Addr}{xs:List V}{g:TG}{tb:TS}{D:Ends}{σ:St}{H:Hp}(Pv:Nat->St->Hp->Prop)(h0:Pv 0 σ H)(hl:∀i σ H,i<=xs.length->Pv i σ H->SqL K H a xs)
 (hs:∀i x σ H,xs[i]?=some x->Pv i σ H->g x σ H fun σ2 H2=>tb { D with nx:=Pv (i+1),ct:=Pv (i+1),bk:=D.nx } σ2 H2) (hd:∀ σ H,Pv xs.length σ H->D.nx σ H) :
 ∃ W:Nat->Nat->St->Hp->Prop,(∃m,W 0 m σ H)/\∀i m σ H,W i m σ H ->
  ((Itl K a).stop i H/\D.nx σ H)∨((Itl K a).go i H/\∃N:St->Hp->Prop,(∀ σ' H',N σ' H'->∃m',m'<m/\W (i+1) m' σ' H')/\∀x H',(Itl K a).yld i H x H'->g x σ H' fun σ2 H2=>tb { D with nx:=N,ct:=N,bk:=D.nx } σ2 H2):=by
 refine⟨fun i m σ H=>m=xs.length-i/\i<=xs.length/\Pv i σ H,⟨xs.length,by simp,qB0 _,h0⟩,?_⟩;rintro i m σ H ⟨rfl,hi,p⟩;have q:=hl i σ H hi p
 by_cases hlt:i<xs.length
 . refine .inr ⟨⟨xs,xs[i],q,by simp [hlt]⟩,Pv (i+1),fun σ' H' p'=>⟨xs.length-(i+1),by omega,rfl,hlt,p'⟩,fun x H' y=>?_⟩;obtain⟨e,y⟩:=y;subst e;exact hs i x σ _ (y xs q) p
 . have e:i=xs.length:=by omega
   subst e;exact .inl ⟨⟨xs,q,zG0 _⟩,hd σ H p⟩
theorem mv{K:W.Frag}{a:Addr}{xs:List V}{g:TG}{tb:TS}{D:Ends}{σ:St}{H:Hp}(Pv:Nat->St->Hp->Prop)(h0:Pv 0 σ H)(hl:∀i σ H,i<=xs.length->Pv i σ H->SqT K H a xs)
 (hs:∀i x σ H,xs[i]?=some x->Pv i σ H->g x σ H fun σ2 H2=>tb { D with nx:=Pv (i+1),ct:=Pv (i+1),bk:=D.nx } σ2 H2) (hd:∀ σ H,Pv xs.length σ H->D.nx σ H) :
 ∃ W:Nat->Nat->St->Hp->Prop,(∃m,W 0 m σ H)/\∀i m σ H,W i m σ H ->
  ((Itt K a).stop i H/\D.nx σ H)∨((Itt K a).go i H/\∃N:St->Hp->Prop,(∀ σ' H',N σ' H'->∃m',m'<m/\W (i+1) m' σ' H')/\∀x H',(Itt K a).yld i H x H'->g x σ H' fun σ2 H2=>tb { D with nx:=N,ct:=N,bk:=D.nx } σ2 H2):=by
 refine⟨fun i m σ H=>m=xs.length-i/\i<=xs.length/\Pv i σ H,⟨xs.length,by simp,qB0 _,h0⟩,?_⟩;rintro i m σ H ⟨rfl,hi,p⟩;have q:=hl i σ H hi p
 by_cases hlt:i<xs.length
 . refine .inr ⟨⟨xs,xs[i],q,by simp [hlt]⟩,Pv (i+1),fun σ' H' p'=>⟨xs.length-(i+1),by omega,rfl,hlt,p'⟩,fun x H' y=>?_⟩;obtain⟨e,y⟩:=y;subst e;exact hs i x σ _ (y xs q) p
 . have e:i=xs.length:=by omega
   subst e;exact .inl ⟨⟨xs,q,zG0 _⟩,hd σ H p⟩
theorem cS{lo:Int}{n:Nat}{g:TG}{tb:TS}{D:Ends}{σ:St}{H:Hp}(Pv:Nat->St->Hp->Prop)(h0:Pv 0 σ H)
 (hs:∀i σ H,i<n->Pv i σ H->g (.int (lo+i)) σ H fun σ2 H2=>tb { D with nx:=Pv (i+1),ct:=Pv (i+1),bk:=D.nx } σ2 H2) (hd:∀ σ H,Pv n σ H->D.nx σ H) :
 ∃ W:Nat->Nat->St->Hp->Prop,(∃m,W 0 m σ H)/\∀i m σ H,W i m σ H ->
  ((Itr lo n).stop i H/\D.nx σ H)∨((Itr lo n).go i H/\∃N:St->Hp->Prop,(∀ σ' H',N σ' H'->∃m',m'<m/\W (i+1) m' σ' H')/\∀x H',(Itr lo n).yld i H x H'->g x σ H' fun σ2 H2=>tb { D with nx:=N,ct:=N,bk:=D.nx } σ2 H2):=by
 refine⟨fun i m σ H=>m=n-i/\i<=n/\Pv i σ H,⟨n,by simp,qB0 _,h0⟩,?_⟩;rintro i m σ H ⟨rfl,hi,p⟩
 by_cases hlt:i<n
 . refine .inr ⟨hlt,Pv (i+1),fun σ' H' p'=>⟨n-(i+1),by omega,rfl,hlt,p'⟩,fun x H' y=>?_⟩;obtain⟨e,y⟩:=y;subst e y;exact hs i σ _ hlt p
 . have e:i=n:=by omega
   subst e;exact .inl ⟨zG0 _,hd σ H p⟩
abbrev R2:=V->V->Hp->VK->Prop
def OpR(X:Cx)(f:Value->Value->Sem Value)(r:R2):Prop:=
 ∀(pins:List (Addr×Obj))(s:Shared)(σ:St)(H:Hp)(x y:V)(v u:Value)(Q:VK),Inv X pins σ H s->RelV x v->RelV y u->r x y H Q ->
  wpAny (model X.prog X.w) X.A (f v u) (EP X pins σ Q) X.xe s
def UnR(X:Cx)(f:Value->Sem Value)(r:V->Hp->VK->Prop):Prop:=
 ∀(pins:List (Addr×Obj))(s:Shared)(σ:St)(H:Hp)(x:V)(v:Value)(Q:VK),Inv X pins σ H s->RelV x v->r x H Q ->
  wpAny (model X.prog X.w) X.A (f v) (EP X pins σ Q) X.xe s
def iC(X:Cx)(f:Value)(r:List V->Hp->VK->Prop):Prop:=
 ∀(pins:List (Addr×Obj))(s:Shared)(σ:St)(H:Hp)(xs:List V)(us:List Value)(Q:VK),Inv X pins σ H s->Vals xs us->r xs H Q ->
  wpAny (model X.prog X.w) X.A (call f us) (EP X pins σ Q) X.xe s
def tOp(r:R2)(ta tb:TE):TE:=fun σ H Q=>ta σ H fun x H1=>tb σ H1 fun y H2=>r x y H2 Q
def tUn(r:V->Hp->VK->Prop)(ta:TE):TE:=fun σ H Q=>ta σ H fun x H1=>r x H1 Q
def rI(C:Int->Int->Prop)(g:Int->Int->V):R2:=fun x y H Q=>∃i j,x=.int i/\y=.int j/\C i j/\Q (g i j) H
def rI0(g:Int->Int->V):R2:=fun x y H Q=>∃i j,x=.int i/\y=.int j/\Q (g i j) H
def rU(g:Int->V):V->Hp->VK->Prop:=fun x H Q=>∃i,x=.int i/\Q (g i) H
section
variable {X:Cx} {a b c:Expr} {ta tb tc:TE} {pos:Pos}
theorem DI(ha:PE X a ta)(hb:PE X b tb){pins:List (Addr×Obj)}{s:Shared}{σ:St}{H:Hp}{R:V->V->Hp->Prop}(I:Inv X pins σ H s)
 (h:ta σ H fun x H1=>tb σ H1 fun y H2=>R x y H2) {Q:Value->Shared->Prop} {f:Value->Value->Sem Value}
 (hf:∀v u s2 x y H2,Inv X pins σ H2 s2->RelV x v->RelV y u->R x y H2->wpAny (model X.prog X.w) X.A (f v u) Q X.xe s2) :
 wpAny (model X.prog X.w) X.A (eval a X.env) (fun v s₁=>wpAny (model X.prog X.w) X.A (eval b X.env) (fun u s₂=>wpAny (model X.prog X.w) X.A (f v u) Q X.xe s₂) X.xe s₁) X.xe s:=by
 refine thn (ha pins s σ H _ I h) fun v s1 ⟨x,H1,I1,r1,q1⟩=>?_
 refine thn (hb pins s1 σ H1 _ I1 q1) fun u s2 ⟨y,H2,I2,r2,q2⟩=>?_
 exact hf v u s2 x y H2 I2 r1 r2 q2
theorem ag{op:Operator}{r:R2}(ho:OpR X (binaryOp op) r)(ha:PE X a ta)(hb:PE X b tb):PE X (.BinOp a op b pos) (tOp r ta tb):=by
 intro pins s σ H Q I h;exact wpAny_BinOp (DI ha hb I h fun v u s2 x y H2 I2 rx ry q=>ho pins s2 σ H2 x y v u Q I2 rx ry q)
theorem lK{op:UnaryOp}{r:V->Hp->VK->Prop}(ho:UnR X (unaryOp op) r)(ha:PE X a ta):PE X (.UnaryOp op a pos) (tUn r ta):=by
 intro pins s σ H Q I h;exact UnaryOp_ (thn (ha pins s σ H _ I h) fun v s1 ⟨x,H1,I1,r1,q1⟩=>ho pins s1 σ H1 x v Q I1 r1 q1)
theorem opI{f:Value->Value->Sem Value}{C:Int->Int->Prop}{g:Int->Int->Int}
 (rule:∀(i j:Int)(t u:Tok)(s:Shared)(Q:Value->Shared->Prop)(E:Value->Shared->Prop),C i j->Q (.int (g i j) s.toks) { s with toks:=s.toks+1 }->wpAny (model X.prog X.w) X.A (f (.int i t) (.int j u)) Q E s) :
 OpR X f (rI C fun i j=>.int (g i j)):=by
 intro pins s σ H x y v u Q I rx ry h;obtain⟨i,j,rfl,rfl,hc,q⟩:=h;obtain⟨t,rfl⟩:=rx;obtain⟨t',rfl⟩:=ry;exact rule i j t t' s _ _ hc ⟨.int (g i j),H,I.tok _,⟨_,rfl⟩,q⟩
theorem opI0{f:Value->Value->Sem Value}{g:Int->Int->Int}
 (rule:∀(i j:Int)(t u:Tok)(s:Shared)(Q:Value->Shared->Prop)(E:Value->Shared->Prop),Q (.int (g i j) s.toks) { s with toks:=s.toks+1 }->wpAny (model X.prog X.w) X.A (f (.int i t) (.int j u)) Q E s) :
 OpR X f (rI0 fun i j=>.int (g i j)):=by
 intro pins s σ H x y v u Q I rx ry h;obtain⟨i,j,rfl,rfl,q⟩:=h;obtain⟨t,rfl⟩:=rx;obtain⟨t',rfl⟩:=ry;exact rule i j t t' s _ _ ⟨.int (g i j),H,I.tok _,⟨_,rfl⟩,q⟩
theorem AR{f:Value->Value->Sem Value}{g:Int->Int->Bool}
 (rule:∀(i j:Int)(t u:Tok)(s:Shared)(Q:Value->Shared->Prop)(E:Value->Shared->Prop),Q (.bool (g i j)) s->wpAny (model X.prog X.w) X.A (f (.int i t) (.int j u)) Q E s) :
 OpR X f (rI0 fun i j=>.bl (g i j)):=by
 intro pins s σ H x y v u Q I rx ry h;obtain⟨i,j,rfl,rfl,q⟩:=h;obtain⟨t,rfl⟩:=rx;obtain⟨t',rfl⟩:=ry;exact rule i j t t' s _ _ ⟨.bl (g i j),H,I,rfl,q⟩
def CDiv(i j:Int):Prop:=0<j/\j<1073741824
def CPow(i j:Int):Prop:=0<=j/\j<=1000000/\i.natAbs<2 ^ 64
def CMul(i j:Int):Prop:=(-(2 ^ 64)<i/\i<2 ^ 64)∨(-(2 ^ 64)<j/\j<2 ^ 64)
theorem CMul.ok{i j:Int}(h:CMul i j):IntMulOk i j:=by
 rcases h with⟨h1,h2⟩ | ⟨h1,h2⟩
 . exact .of_left (intBits_le_64 h1 h2)
 . exact .of_right (intBits_le_64 h1 h2)
theorem aW:OpR X (binaryOp .Add) (rI0 fun i j=>.int (i+j)):=opI0 fun _ _ _ _ _ _ _ q=>add_int q
theorem aV:OpR X (binaryOp .Sub) (rI0 fun i j=>.int (i-j)):=opI0 fun _ _ _ _ _ _ _ q=>sub_int q
theorem bg:OpR X (binaryOp .Mult) (rI CMul fun i j=>.int (i*j)):=opI fun _ _ _ _ _ _ _ hc q=>mul_int q hc.ok
theorem qp:OpR X (binaryOp .FloorDiv) (rI CDiv fun i j=>.int (i / j)):=opI fun i j _ _ _ _ _ hc q=>by
 have h1:(0:Int)<j:=hc.1;have h2:j<1073741824:=hc.2;exact floordiv_int (by omega) (by rw[Int.fdiv_eq_ediv_of_nonneg i (by omega)];exact q) (.inl (PyProof.noPylong_small (by omega)))
theorem aN:OpR X (binaryOp .Mod) (rI (fun _ j=>0<j) fun i j=>.int (i % j)):=opI fun i j _ _ _ _ _ hc q=>by
 have h1:(0:Int)<j:=hc;exact mod_int' (by omega) (by rw[Int.fmod_eq_emod_of_nonneg i (by omega)];exact q)
theorem tY:OpR X (binaryOp .Pow) (rI CPow fun i j=>.int (i ^ j.toNat)):=opI fun _ _ _ _ _ _ _ hc q=>pow_int_small hc.1 hc.2.1 hc.2.2 q
theorem unI{f:Value->Sem Value}{g:Int->Int}
 (rule:∀(i:Int)(t:Tok)(s:Shared)(Q:Value->Shared->Prop)(E:Value->Shared->Prop),Q (.int (g i) s.toks) { s with toks:=s.toks+1 }->wpAny (model X.prog X.w) X.A (f (.int i t)) Q E s) :
 UnR X f (rU fun i=>.int (g i)):=by
 intro pins s σ H x v Q I rx h;obtain⟨i,rfl,q⟩:=h;obtain⟨t,rfl⟩:=rx;exact rule i t s _ _ ⟨.int (g i),H,I.tok _,⟨_,rfl⟩,q⟩
theorem ja:UnR X (unaryOp .USub) (rU fun i=>.int (-i)):=unI fun _ _ _ _ _ q=>neg_int q
end
def scal:V->V->Bool
 | .non,.non=>true | .non,.int _=>true | .int _,.non=>true | .non,.bl _=>true | .bl _,.non=>true | .non,.str _=>true | .str _,.non=>true
 | .int _,.int _=>true | .bl _,.bl _=>true | .str _,.str _=>true | .byt _,.byt _=>true
 | .int _,.str _=>true | .str _,.int _=>true | .bl _,.str _=>true | .str _,.bl _=>true
 | _,_=>false
def rEq:R2:=fun x y H Q=>scal x y=true/\Q (.bl (decide (x=y))) H
def rNe:R2:=fun x y H Q=>scal x y=true/\Q (.bl (!decide (x=y))) H
theorem vH{i j:Int}:decide (V.int i=V.int j)=(i==j):=by
 rw[Bool.eq_iff_iff]
 simp
theorem zU{i j:Bool}:decide (V.bl i=V.bl j)=(i==j):=by
 rw[Bool.eq_iff_iff]
 simp
theorem vG{i j:Str}:decide (V.str i=V.str j)=(i==j):=by
 rw[Bool.eq_iff_iff]
 simp
theorem vI{i j:Array UInt8}:decide (V.byt i=V.byt j)=(i.toList==j.toList):=by
 rw[Bool.eq_iff_iff];cases i;cases j
 simp
section
variable {X:Cx} {a b c:Expr} {ta tb tc:TE} {pos:Pos}
theorem bp{pins:List (Addr×Obj)}{σ:St}{H:Hp}{s:Shared}{Q:VK}{k k':Bool}(I:Inv X pins σ H s)(q:Q (.bl k) H)(e:k=k'):EP X pins σ Q (.bool k') s:=by
 subst e;exact⟨.bl k,H,I,rfl,q⟩
theorem aM:OpR X (compareOp .Eq) rEq:=by
 intro pins s σ H x y v u Q I rx ry h;obtain⟨hs,q⟩:=h;cases x with
 | non=>
   cases rx;cases y with
   | non=>cases ry;exact PySem.EqNone.eq_none_none (bp I q (by simp))
   | bl j=>cases ry;exact PySem.EqNone.eq_none_bool (bp I q (by simp))
   | int j=>obtain⟨t',rfl⟩:=ry;exact PySem.EqNone.eq_none_int (bp I q (by simp))
   | str j=>obtain⟨t',rfl⟩:=ry;exact PySem.EqNone.eq_none_str (bp I q (by simp))
   | _=>exact absurd (show false=true from hs) zY0
 | bl i=>
   cases rx;cases y with
   | non=>cases ry;exact PySem.EqNone.eq_bool_none (bp I q (by simp))
   | bl j=>cases ry;exact eq_bool (bp I q zU)
   | str j=>obtain⟨t',rfl⟩:=ry;exact PySem.EqMixed.eq_bool_str (bp I q (by simp))
   | _=>exact absurd (show false=true from hs) zY0
 | int i=>
   obtain⟨t,rfl⟩:=rx;cases y with
   | non=>cases ry;exact PySem.EqNone.eq_int_none (bp I q (by simp))
   | int j=>obtain⟨t',rfl⟩:=ry;exact eq_int (bp I q vH)
   | str j=>obtain⟨t',rfl⟩:=ry;exact PySem.EqMixed.eq_int_str (bp I q (by simp))
   | _=>exact absurd (show false=true from hs) zY0
 | str i=>
   obtain⟨t,rfl⟩:=rx;cases y with
   | non=>cases ry;exact PySem.EqNone.eq_str_none (bp I q (by simp))
   | bl j=>cases ry;exact PySem.EqMixed.eq_str_bool (bp I q (by simp))
   | int j=>obtain⟨t',rfl⟩:=ry;exact PySem.EqMixed.eq_str_int (bp I q (by simp))
   | str j=>obtain⟨t',rfl⟩:=ry;exact eq_str (bp I q vG)
   | _=>exact absurd (show false=true from hs) zY0
 | byt i=>
   obtain⟨t,rfl⟩:=rx;cases y with
   | byt j=>obtain⟨t',rfl⟩:=ry;exact PySem.W.eq_bytes (bp I q vI)
   | _=>exact absurd (show false=true from hs) zY0
 | _=>cases y <;> exact absurd (show false=true from hs) zY0
theorem jP:OpR X (compareOp .NotEq) rNe:=by
 intro pins s σ H x y v u Q I rx ry h;obtain⟨hs,q⟩:=h;cases x with
 | non=>
   cases rx;cases y with
   | non=>cases ry;exact PySem.EqNone.ne_none_none (bp I q (by simp))
   | bl j=>cases ry;exact PySem.EqNone.ne_none_bool (bp I q (by simp))
   | int j=>obtain⟨t',rfl⟩:=ry;exact PySem.EqNone.ne_none_int (bp I q (by simp))
   | str j=>obtain⟨t',rfl⟩:=ry;exact PySem.EqNone.ne_none_str (bp I q (by simp))
   | _=>exact absurd (show false=true from hs) zY0
 | bl i=>
   cases rx;cases y with
   | non=>cases ry;exact PySem.EqNone.ne_bool_none (bp I q (by simp))
   | bl j=>cases ry;exact ne_bool (bp I q (congrArg not zU))
   | str j=>obtain⟨t',rfl⟩:=ry;exact PySem.EqMixed.ne_bool_str (bp I q (by simp))
   | _=>exact absurd (show false=true from hs) zY0
 | int i=>
   obtain⟨t,rfl⟩:=rx;cases y with
   | non=>cases ry;exact PySem.EqNone.ne_int_none (bp I q (by simp))
   | int j=>obtain⟨t',rfl⟩:=ry;exact ne_int (bp I q (congrArg not vH))
   | str j=>obtain⟨t',rfl⟩:=ry;exact PySem.EqMixed.ne_int_str (bp I q (by simp))
   | _=>exact absurd (show false=true from hs) zY0
 | str i=>
   obtain⟨t,rfl⟩:=rx;cases y with
   | non=>cases ry;exact PySem.EqNone.ne_str_none (bp I q (by simp))
   | bl j=>cases ry;exact PySem.EqMixed.ne_str_bool (bp I q (by simp))
   | int j=>obtain⟨t',rfl⟩:=ry;exact PySem.EqMixed.ne_str_int (bp I q (by simp))
   | str j=>obtain⟨t',rfl⟩:=ry;exact ne_str (bp I q (congrArg not vG))
   | _=>exact absurd (show false=true from hs) zY0
 | byt i=>
   obtain⟨t,rfl⟩:=rx;cases y with
   | byt j=>obtain⟨t',rfl⟩:=ry;exact PySem.W.ne_bytes (bp I q (congrArg not vI))
   | _=>exact absurd (show false=true from hs) zY0
 | _=>cases y <;> exact absurd (show false=true from hs) zY0
theorem df:OpR X (compareOp .Lt) (rI0 fun i j=>.bl (decide (i<j))):=AR fun _ _ _ _ _ _ _ q=>lt_int q
theorem vy:OpR X (compareOp .LtE) (rI0 fun i j=>.bl (decide (i<=j))):=AR fun _ _ _ _ _ _ _ q=>le_int q
theorem iz:OpR X (compareOp .Gt) (rI0 fun i j=>.bl (decide (j<i))):=AR fun _ _ _ _ _ _ _ q=>gt_int q
theorem yT:OpR X (compareOp .GtE) (rI0 fun i j=>.bl (decide (j<=i))):=AR fun _ _ _ _ _ _ _ q=>ge_int q
theorem CY:OpR X (compareOp .Is) (fun x y H Q=>y=.non/\Q (.bl (decide (x=.non))) H):=by
 intro pins s σ H x y v u Q I rx ry h;obtain⟨rfl,q⟩:=h;cases ry;refine is_none_gen (bp I q ?_);cases x <;> first
  | (cases rx;rfl)
  | (obtain⟨t,rfl⟩:=rx;rfl)
theorem OpR.or{f:Value->Value->Sem Value}{r r':R2}(h:OpR X f r)(h':OpR X f r'):OpR X f (fun x y H Q=>r x y H Q∨r' x y H Q):=by
 intro pins s σ H x y v u Q I rx ry q;rcases q with q | q
 . exact h pins s σ H x y v u Q I rx ry q
 . exact h' pins s σ H x y v u Q I rx ry q
theorem aj(b:Expr){op:CmpOp}(h:op≠.In:=by decide)(h2:op≠.NotIn:=by decide):behindInMarks op b=false:=by
 have e1:(op==CmpOp.In)=false:=by cases op <;> first | rfl | exact absurd rfl h
 have e2:(op==CmpOp.NotIn)=false:=by cases op <;> first | rfl | exact absurd rfl h2
 cases b <;> simp [behindInMarks,e1,e2]
theorem cr{op:CmpOp}{r:R2}(ho:OpR X (compareOp op) r)(ha:PE X a ta)(hb:PE X b tb)(hm:behindInMarks op b=false):PE X (.Compare a [op] [b] pos) (tOp r ta tb):=by
 intro pins s σ H Q I h;exact wpAny_Compare1 (DI ha hb I h fun v u s2 x y H2 I2 rx ry q=>ho pins s2 σ H2 x y v u Q I2 rx ry q) hm
def Bw(t:TE):TT:=fun σ H Q=>t σ H fun x H'=>∃k,x=.bl k/\Q k H'
theorem ah{op:CmpOp}{r:R2}(ho:OpR X (compareOp op) r)(ha:PE X a ta)(hb:PE X b tb)(hm:behindInMarks op b=false):PT X (.Compare a [op] [b] pos) (Bw (tOp r ta tb)):=by
 intro pins s σ H Q I h;refine wpAny_isTrue_Compare1 (thn (ha pins s σ H _ I h) fun v s1 ⟨x,H1,I1,r1,q1⟩=>thn (hb pins s1 σ H1 _ I1 q1) fun u s2 ⟨y,H2,I2,r2,q2⟩=>
  thn (ho pins s2 σ H2 x y v u _ I2 r1 r2 q2) fun c s3 ⟨z,H3,I3,r3,k,e,q3⟩=>?_) hm
 subst e;cases r3;exact wpAny_truthy_bool ⟨H3,I3,q3⟩
def Cs(r r':R2)(ta tb tc:TE):TE:=fun σ H Q=>ta σ H fun x H1=>tb σ H1 fun y H2=>r x y H2 fun z H3=>∃k,z=.bl k/\
 (if k=true then tc σ H3 fun w' H4=>r' y w' H4 Q else Q (.bl false) H3)
theorem yG{op op':CmpOp}{r r':R2}(ho:OpR X (compareOp op) r)(ho':OpR X (compareOp op') r')(ha:PE X a ta)(hb:PE X b tb)(hc:PE X c tc)
 (hm:lastMarks [op,op'] [b,c]=false:=by with_unfolding_all rfl):PT X (.Compare a [op,op'] [b,c] pos) (Bw (Cs r r' ta tb tc)):=by
 intro pins s σ H Q I h;refine isTrue_chain (thn (ha pins s σ H _ I h) fun v s1 ⟨x,H1,I1,r1,q1⟩=>test_link (thn (hb pins s1 σ H1 _ I1 q1) fun u s2 ⟨y,H2,I2,r2,q2⟩=>
  thn (ho pins s2 σ H2 x y v u _ I2 r1 r2 q2) fun d s3 ⟨z,H3,I3,r3,k,e,q3⟩=>?_)) hm
 subst e;cases r3;refine wpAny_truthy_bool ?_;cases k with
 | false=>
   obtain⟨k',e',q'⟩:=q3;cases e';exact ite_ff ⟨H3,I3,q'⟩
 | true=>
   refine ite_tt (test_last (thn (hc pins s3 σ H3 _ I3 q3) fun w' s4 ⟨z',H4,I4,r4,q4⟩=>thn (ho' pins s4 σ H4 y z' u w' _ I4 r2 r4 q4) fun d' s5 ⟨z2,H5,I5,r5,k2,e2,q5⟩=>?_));subst e2;cases r5;exact wpAny_truthy_bool ⟨H5,I5,q5⟩
theorem iK:(sizeLine:Nat)<2 ^ 63:=by rw[sizeLine_eq];decide
theorem jU:OpR X (binaryOp .Add) (fun x y H Q=>∃i j,x=.str i/\y=.str j/\i.length+j.length<=sizeLine/\Q (.str (i++j)) H):=by
 intro pins s σ H x y v u Q I rx ry h;obtain⟨i,j,rfl,rfl,hz,q⟩:=h;obtain⟨t,rfl⟩:=rx;obtain⟨t',rfl⟩:=ry;exact add_str (fun t' tk=>⟨.str (i++j),H,I.tok _,⟨_,rfl⟩,q⟩) hz
theorem lE{x:V}{us:List Value}(r:Vals [x] us):∃u,us=[u]/\RelV x u:=by
 cases r with
 | cons r1 r2=>cases r2;exact⟨_,rfl,r1⟩
theorem xC{x y:V}{us:List Value}(r:Vals [x,y] us):∃u w',us=[u,w']/\RelV x u/\RelV y w':=by
 cases r with
 | cons r1 r2=>
   cases r2 with
   | cons r3 r4=>cases r4;exact⟨_,_,rfl,r1,r3⟩
theorem pH (hc:X.calm=true):iC X (.builtin "max") (fun xs H Q=>∃i j,xs=[.int i,.int j]/\Q (.int (if j>i then j else i)) H):=by
 intro pins s σ H xs us Q I r h;obtain⟨i,j,rfl,q⟩:=h;obtain⟨u,w',rfl,⟨t,rfl⟩,⟨t',rfl⟩⟩:=xC r;refine max_two_ints (I.ok.hd hc) fun h' tk k=>⟨_,H,I.kept k,?_,q⟩
 by_cases hj:j>i
 . rw[zF0 hj,zF0 hj];exact⟨_,rfl⟩
 . rw[zD0 hj,zD0 hj];exact⟨_,rfl⟩
theorem xx (hc:X.calm=true):iC X (.builtin "min") (fun xs H Q=>∃i j,xs=[.int i,.int j]/\Q (.int (if j<i then j else i)) H):=by
 intro pins s σ H xs us Q I r h;obtain⟨i,j,rfl,q⟩:=h;obtain⟨u,w',rfl,⟨t,rfl⟩,⟨t',rfl⟩⟩:=xC r;refine min_two_ints (I.ok.hd hc) fun h' tk k=>⟨_,H,I.kept k,?_,q⟩
 by_cases hj:j<i
 . rw[zF0 hj,zF0 hj];exact⟨_,rfl⟩
 . rw[zD0 hj,zD0 hj];exact⟨_,rfl⟩
theorem lC:iC X (.type "int") (fun xs H Q=>(∃i,xs=[.int i]/\Q (.int i) H)∨∃k,xs=[.bl k]/\Q (.int (if k then 1 else 0)) H):=by
 intro pins s σ H xs us Q I r h;rcases h with⟨i,rfl,q⟩ | ⟨k,rfl,q⟩
 . obtain⟨u,rfl,t,rfl⟩:=lE r;exact call_int_int ⟨.int i,H,I,⟨_,rfl⟩,q⟩
 . obtain⟨u,rfl,r1⟩:=lE r;cases r1;exact call_int_bool ⟨.int (if k then 1 else 0),H,I.tok _,⟨_,rfl⟩,q⟩
end
structure ObjM(h:Heap)(x dx C:Addr)(mA:Str->Option Value):Prop where
 obj:h.get? x=some (PySem.W.instObj C dx)
 ns:h.Ns1 dx mA
 ne:dx≠x
theorem wR{h:Heap}{dx:Addr}{mA:Str->Option Value}(n:h.Ns1 dx mA):∃od,h.get? dx=some od/\∀name,PySem.W.lookIn name od=some (mA name):=by
 obtain⟨o,es,ep,ho,hd,hk,_,hm⟩:=n;refine⟨o,ho,fun name=>?_⟩;have e:=hm name;unfold nsFind findBy at e;rw[←Array.find?_toList]at e;unfold PySem.W.lookIn;rw[hd]
 dsimp only
 split
 . rename_i y q;rw[q]at e;exact congrArg some e
 . rename_i q;rw[q]at e;have a:es.toList.any (·.refKey)=false:=by
    rw[List.any_eq_false];intro y hy;obtain⟨z,t,hkey⟩:=hk y (Array.mem_toList_iff.mp hy)
    simp [DictEntry.refKey,hkey]
   have a':¬ es.toList.any (·.refKey)=true:=by rw[a];exact zY0
   rw[zD0 a'];exact congrArg some e
theorem ObjM.look{h:Heap}{x dx C:Addr}{mA:Str->Option Value}(I:ObjM h x dx C mA):∃od,PySem.W.InstAt h x (PySem.W.instObj C dx) C (some od)/\∀name,PySem.W.lookIn name od=some (mA name):=
 let⟨od,ho,hl⟩:=wR I.ns
 ⟨od,⟨I.obj,rfl,rfl,ho⟩,hl⟩
section
variable {prog:Program} {w:World} {A:Around} {E:Value->Shared->Prop} {s:Shared} {K:W.Frag} {x dx C f:Addr} {mA:Str->Option Value} {name:Str} {v:Value}
theorem Bj{expr:Bool}{Q:Value->Shared->Prop}(X:K.In s.heap)(I:ObjM s.heap x dx C mA)(hg:PySem.W.plainGet K C name=true)(hh:PySem.W.hasDictIn K C=true)
 (ha:PySem.W.findIn K (.ref C) name=some none) (hv:mA name=some v) (hv':PySem.W.handedIn v=true) (h:Q v { s with toks:=s.toks+1 }) :
 wpAny (model prog w) A (getAttr (.ref x) name expr) Q E s:=by
 obtain⟨od,J,hl⟩:=I.look;exact PySem.W.get_value X J (PySem.W.plainGet_of hg).1 (PySem.W.findObj_own hh ha rfl (by rw[hl,hv])) hv' h
theorem zO{pl:Sem Bool}{Q:Value×List Value->Shared->Prop}(X:K.In s.heap)(I:ObjM s.heap x dx C mA)(hg:PySem.W.plainGet K C name=true)
 (hf:PySem.W.findIn K (.ref C) name=some (some (.ref f))) (ht:PySem.W.isFn K (.ref f)=true) (hv:mA name=none) (h:Q (.ref f,[.ref x]) s) :
 wpAny (model prog w) A (getMethod (.ref x) name pl) Q E s:=by
 obtain⟨od,J,hl⟩:=I.look;exact PySem.W.method_fn X J (PySem.W.plainGet_of hg).1 (PySem.W.plainGet_of hg).2 hf (beq_iff_eq.mp ht) (by show(PySem.W.lookIn name od).map (·.isSome)=some false;rw[hl,hv];rfl) h
theorem Az{ns:List Str}{Q:Unit->Shared->Prop}(X:K.In s.heap)(I:ObjM s.heap x dx C mA)
 (hs:PySem.W.findIn K (.ref C) "__setattr__"=some (some (.builtin "object.__setattr__"))) (hp:PySem.W.plainOver K C=true) (ht:PySem.W.takerIn K C name=some none) (hh:PySem.W.hasDictIn K C=true)
 (hw:PySem.Within mA ns) (hsz:ns.length<=sizeLine)
 (h:∀h',ObjM h' x dx C (fun y=>if y=name then some v else mA y)->Heap.SameBut dx s.heap h'->Q () { s with heap:=h',toks:=s.toks+2 }) :
 wpAny (model prog w) A (setAttr (.ref x) name v) Q E s:=by
 obtain⟨od,J,hl⟩:=I.look;refine PySem.W.set_plain X J hs (PySem.W.osa_open (s:={ s with toks:=s.toks+1 }) (r:=none) X J hp ht fun b=>?_);obtain⟨cd,hc,hd'⟩:=PySem.W.any_some hh;have hx:s.heap.get? x=some ⟨.ref C,some dx,.plain,#[]⟩:=I.obj;refine zA0 (zI0 (zA0 (zA0 (wpAny_loadPart hx (zA0 (PySem.W.Looks.here (s:={ s with toks:=s.toks+1 }) (PySem.W.looks_clsIn X hc) ?_))))));rw[hd'];refine zI0 (a:=some dx) (zA0 (zI0 (zA0 ?_)));refine wpAny_nsSet1 (s:={ s with toks:=s.toks+1 }) I.ns fun h' hn2 hs2=>?_
 obtain⟨oD,esD,epD,hoD,hdD,hcD⟩:=hn2.count (PySem.Within.cons name v hw);refine zA0 (wpAny_lookBehind hoD (by rw[hdD];exact pastItsLine_dict (zZ0 hcD (by rw[qH0];omega))) ?_);exact zI0 (h _ ⟨(hs2.2 _ (Ne.symm I.ne)).trans I.obj,hn2,I.ne⟩ hs2)
theorem zC{R:Result->Shared->Prop}{vs:List Value}{kw:List (Str×Value)}(X:K.In s.heap)(hm:PySem.W.makesIn K C=true)
 (hi:PySem.W.findIn K (.ref C) "__init__"=some (some (.ref f))) (hf:PySem.W.typeIn K (.ref f)=some (.type "function"))
 (h:codeAny (model prog w) (A.under (.builtin "type.__call__" ⟨.ref C::vs,kw⟩)) (.call (.ref f) ⟨.ref (s.heap.objs.size+1)::vs,kw⟩) (PySem.W.InitBack (s.heap.objs.size+1) R)
  { s with heap:=(s.heap.push PySem.W.emptyDict).push (PySem.W.instObj C s.heap.objs.size) }) :
 codeAny (model prog w) A (.call (.ref C) ⟨vs,kw⟩) R s:=by
 obtain⟨hh,g,d,t,os⟩:=s;exact PySem.W.make_core (PySem.W.makes_of X hm) (PySem.W.looks_findIn X hi) (fun self=>PySem.W.bind_fn X self hf) (.inl rfl) h
end
def cn(f:Str)(v:V):List (Str×V)->List (Str×V)
 | []=>[(f,v)]
 | (g,x)::r=>if g=f then(g,v)::r else(g,x)::cn f v r
theorem aR(f g:Str)(v:V):∀fs:List (Str×V),(cn f v fs).lookup g=if g=f then some v else fs.lookup g
 | []=>by
   show List.lookup g [(f,v)]=_
   by_cases h:g=f
   . have hb:(g==f)=true:=beq_iff_eq.mpr h;simp only[List.lookup,hb,zF0 h]
   . have hb:(g==f)=false:=beq_eq_false_iff_ne.mpr h;simp only[List.lookup,hb,zD0 h]
 | (k,x)::r=>by
   have ih:=aR f g v r;rw[show cn f v ((k,x)::r)=(if k=f then(k,v)::r else(k,x)::cn f v r)from rfl]
   by_cases hk:k=f
   . rw [zF0 hk]
     by_cases h:g=k
     . have hb:(g==k)=true:=beq_iff_eq.mpr h;simp only[List.lookup,hb,zF0 (h.trans hk)]
     . have hb:(g==k)=false:=beq_eq_false_iff_ne.mpr h;simp only[List.lookup,hb,zD0 (fun e:g=f=>h (e.trans hk.symm))]
   . rw [zD0 hk]
     by_cases h:g=k
     . have hb:(g==k)=true:=beq_iff_eq.mpr h;simp only[List.lookup,hb,zD0 (fun e:g=f=>hk (h.symm.trans e))]
     . have hb:(g==k)=false:=beq_eq_false_iff_ne.mpr h;simp only[List.lookup,hb];exact ih
theorem lw(f:Str)(v:V):∀fs:List (Str×V),f∈(cn f v fs).map (·.1)/\∀g,g∈fs.map (·.1)->g∈(cn f v fs).map (·.1)
 | []=>⟨by simp [cn],fun g h=>by simp at h⟩
 | (k,x)::r=>by
   obtain⟨i1,i2⟩:=lw f v r;rw[show cn f v ((k,x)::r)=(if k=f then(k,v)::r else(k,x)::cn f v r)from rfl]
   by_cases hk:k=f
   . rw[zF0 hk];subst hk;exact⟨by simp,fun g h=>by simpa using h⟩
   . rw [zD0 hk];refine⟨?_,fun g h=>?_⟩
     . rw[qA0];exact qL0 _ i1
     . rw [qA0]at h ⊢;rcases qC0 h with e | e
       . exact List.mem_cons.mpr (.inl e)
       . exact qL0 _ (i2 g e)
theorem lR(f:Str)(v:V):∀fs:List (Str×V),(cn f v fs).length<=fs.length+1
 | []=>by simp [cn]
 | (k,x)::r=>by
   have ih:=lR f v r;rw[show cn f v ((k,x)::r)=(if k=f then(k,v)::r else(k,x)::cn f v r)from rfl]
   by_cases hk:k=f
   . rw[zF0 hk,qH0,qH0];omega
   . rw[zD0 hk,qH0,qH0];omega
theorem RelO.some_of{v:V}{o:Option Value}(r:RelO (some v) o):∃u,o=some u/\RelV v u:=by
 cases o with
 | none=>exact(show False from r).elim
 | some u=>exact⟨u,rfl,r⟩
theorem RelO.none_of{o:Option Value}(r:RelO none o):o=none:=by
 cases o with
 | none=>rfl
 | some u=>exact(show False from r).elim
theorem xc{v:V}{u:Value}(r:RelV v u):PySem.W.handedIn u=true:=by
 cases v with
 | non=>cases(show u=Value.none from r);rfl
 | bl b=>cases(show u=Value.bool b from r);rfl
 | int i=>obtain⟨t,e⟩:=(show ∃t,u=Value.int i t from r);cases e;rfl
 | str x=>obtain⟨t,e⟩:=(show ∃t,u=Value.str x t from r);cases e;rfl
 | byt b=>obtain⟨t,e⟩:=(show ∃t,u=Value.bytes b t from r);cases e;rfl
 | flt b=>obtain⟨t,e⟩:=(show ∃t,u=Value.float b t from r);cases e;rfl
 | ref a=>cases(show u=Value.ref a from r);rfl
 | ty n=>cases(show u=Value.type n from r);rfl
section
variable {P:Program} {w:World} {H H':Hp} {h h':Heap} {a C dx:Addr} {fs fs':List (Str×V)}
theorem ms(hok:HOk P w H h)(e:H a=some (.ins C dx fs)):∃mA,ObjM h a dx C mA/\(∀f,RelO (fs.lookup f) (mA f))/\PySem.Within mA (fs.map (·.1))/\fs.length<=1000/\H dx=some (.own a):=by
 obtain⟨d,z,ne,ob,mA,n,r,q⟩:=(show ObjOk P w H h a (.ins C dx fs)from hok a _ e)
 exact⟨mA,⟨ob,n,ne⟩,r,q,z,d⟩
end
structure Cls(K:W.Frag)(C:Addr):Prop where
 pg:PySem.W.plainGet K C Str.empty=true
 hd:PySem.W.hasDictIn K C=true
 po:PySem.W.plainOver K C=true
 sa:PySem.W.findIn K (.ref C) "__setattr__"=some (some (.builtin "object.__setattr__"))
theorem Cls.get{K:W.Frag}{C:Addr}(c:Cls K C)(f:Str):PySem.W.plainGet K C f=true:=c.pg
def NoAttr(K:W.Frag)(C:Addr)(f:Str):Prop:=PySem.W.findIn K (.ref C) f=some none
theorem NoAttr.taker{K:W.Frag}{C:Addr}{f:Str}(n:NoAttr K C f):PySem.W.takerIn K C f=some none:=by
 unfold PySem.W.takerIn;rw[show PySem.W.findIn K (.ref C) f=some none from n];rfl
structure Meth(K:W.Frag)(C:Addr)(m:Str)(f:Addr):Prop where
 at_:PySem.W.findIn K (.ref C) m=some (some (.ref f))
 fn:PySem.W.isFn K (.ref f)=true
 kp:PySem.W.keepIn K (.ref f)=true
section
variable {X:Cx} {pins:List (Addr×Obj)} {σ:St} {H:Hp} {s:Shared} {a C dx:Addr} {fs:List (Str×V)} {f:Str} {v:V} {A:Around} {E:Value->Shared->Prop}
theorem uH{b:Bool}{Q:Value->Shared->Prop}(I:Inv X pins σ H s)(e:H a=some (.ins C dx fs))(c:Cls X.K C)(n:NoAttr X.K C f)(l:fs.lookup f=some v)
 (h:∀u s',Inv X pins σ H s'->RelV v u->Q u s'):wpAny (model X.prog X.w) A (getAttr (.ref a) f b) Q E s:=by
 obtain⟨mA,O,r,_,_,_⟩:=ms I.hok e;obtain⟨u,hu,ru⟩:=RelO.some_of (v:=v) (o:=mA f) (by rw[←l];exact r f);exact Bj I.kIn O (c.get f) c.hd n hu (xc ru) (h u _ (I.tok _) ru)
theorem nY{m:Str}{g:Addr}{pl:Sem Bool}{Q:Value×List Value->Shared->Prop}(I:Inv X pins σ H s)(e:H a=some (.ins C dx fs))(c:Cls X.K C)(k:Meth X.K C m g)(l:fs.lookup m=none)
 (h:Q (.ref g,[.ref a]) s):wpAny (model X.prog X.w) A (getMethod (.ref a) m pl) Q E s:=by
 obtain⟨mA,O,r,_,_,_⟩:=ms I.hok e;have hn:mA m=none:=RelO.none_of (by rw[←l];exact r m);exact zO I.kIn O (c.get m) k.at_ k.fn hn h
theorem tL{y:V}{u:Value}{Q:Unit->Shared->Prop}(I:Inv X pins σ H s)(e:H a=some (.ins C dx fs))(c:Cls X.K C)(n:NoAttr X.K C f)(hl:fs.length<1000)(ry:RelV y u)
 (h:∀s',Inv X pins σ (upd H a (.ins C dx (cn f y fs))) s'->Q () s'):wpAny (model X.prog X.w) A (setAttr (.ref a) f u) Q E s:=by
 obtain⟨mA,O,r,wi,_,ho⟩:=ms I.hok e;have hz:(fs.map (·.1)).length<=sizeLine:=by rw[zH0,sizeLine_eq];omega
 refine Az I.kIn O c.sa c.po n.taker c.hd wi hz fun h' O' sb=>h _ ?_
 have hd:∃o,h'.get? dx=some o:=let⟨o,_,_,e',_⟩:=O'.ns;⟨o,e'⟩
 refine I.write (x:=a) (e:=dx) (by rw[e];exact True.intro) (.inr ho) (fun b q hb z=>(sb.2 b hb).trans z) hd ?_;refine⟨by rw[ao O.ne];exact ho,?_,O.ne,O'.obj,_,O'.ns,fun g=>?_,fun g hg=>?_⟩
 . have:=lR f y fs;omega
 . show RelO ((cn f y fs).lookup g) (if g=f then some u else mA g);rw[aR]
   by_cases q:g=f
   . rw[zF0 q,zF0 q];exact ry
   . rw[zD0 q,zD0 q];exact r g
 . by_cases q:g=f
   . rw[q];exact(lw f y fs).1
   . refine(lw f y fs).2 g (wi g fun z=>hg ?_);show(if g=f then some u else mA g)=none;rw[zD0 q];exact z
theorem Inv.made(I:Inv X pins σ H s):Inv X pins σ (upd (upd H s.heap.objs.size (.own (s.heap.objs.size+1))) (s.heap.objs.size+1) (.ins C s.heap.objs.size []))
 { s with heap:=(s.heap.push PySem.W.emptyDict).push (PySem.W.instObj C s.heap.objs.size) }:=by
 have e1:(s.heap.push PySem.W.emptyDict).get? s.heap.objs.size=some PySem.W.emptyDict:=zV0 s.heap rfl;have e2:((s.heap.push PySem.W.emptyDict).push (PySem.W.instObj C s.heap.objs.size)).get? (s.heap.objs.size+1)=some (PySem.W.instObj C s.heap.objs.size):=by
  have:=zV0 (s.heap.push PySem.W.emptyDict) (o:=PySem.W.instObj C s.heap.objs.size) rfl
  rwa [Heap.size_push]at this
 have e3:(s.heap.push PySem.W.emptyDict).Ns s.heap.objs.size (fun _=>none):=⟨PySem.W.emptyDict,#[],_,e1,rfl,(fun e he=>absurd he (by simp)),fun _=>rfl⟩
 have I1:=I.laid (a:=s.heap.objs.size) (o:=.own (s.heap.objs.size+1)) (h':=s.heap.push PySem.W.emptyDict) (t':=s.toks) (fun b u q=>zO0 _ q) (zG0 _) ⟨_,e1⟩;refine I1.laid (a:=s.heap.objs.size+1) (o:=.ins C s.heap.objs.size []) (t':=s.toks) (fun b u q=>zO0 _ q) (Nat.le_of_eq (Heap.size_push _ _)) ?_;have ne:s.heap.objs.size≠s.heap.objs.size+1:=zS0 (Nat.lt_succ_self _);refine⟨by rw[ao ne,aD],qB0 _,ne,e2,fun _=>none,(Heap.Ns1.of_empty e3).at fun o q=>zO0 _ q,fun _=>True.intro,fun y hy=>absurd rfl hy⟩
theorem Br{prog:Program}{w:World}{env:Env}{e:Expr}{f:Str}{pos:Pos}{s:Shared}{Q:Value->Shared->Prop}(hb:attributeBase e f env (eval e env)=eval e env)
 (h:wpAny (model prog w) A (eval e env) (fun o s₁=>wpAny (model prog w) A (getAttr o f true) Q E s₁) E s):wpAny (model prog w) A (eval (.Attribute e f pos) env) Q E s:=
 Attribute_any_ h (by rw[arm_eval_Attribute,hb])
end
def tFld(K:W.Frag)(ta:TE)(f:Str):TE:=fun σ H Q=>ta σ H fun x H1=>∃a C dx fs v,x=.ref a/\H1 a=some (.ins C dx fs)/\Cls K C/\NoAttr K C f/\fs.lookup f=some v/\Q v H1
def sFld(K:W.Frag)(ta tv:TE)(f:Str):TS:=fun D σ H=>tv σ H fun y H1=>ta σ H1 fun x H2=>∃a C dx fs,x=.ref a/\H2 a=some (.ins C dx fs)/\Cls K C/\NoAttr K C f/\fs.length<1000/\
 D.nx σ (upd H2 a (.ins C dx (cn f y fs)))
section
variable {X:Cx} {o e value:Expr} {f:Str} {pos pos' tpos:Pos} {ta tv:TE}
theorem aG(he:PE X e ta)(hb:attributeBase e f X.env (eval e X.env)=eval e X.env):PE X (.Attribute e f pos) (tFld X.K ta f):=by
 intro pins s σ H Q I h;refine Br hb (thn (he pins s σ H _ I h) fun u s1 ⟨x,H1,I1,rx,a,C,dx,fs,v,ex,ea,c,n,l,q⟩=>?_);subst ex;obtain rfl:u=Value.ref a:=rx;exact uH I1 ea c n l fun u' s2 I2 ru=>⟨v,H1,I2,ru,q⟩
theorem bO(ha:PE X o ta)(hv:PE X value tv)(hs:swapsWith value (some (.Attribute o f pos')) pos.line X.env=pure false):PS X (.Assign [.Attribute o f pos'] value pos) (sFld X.K ta tv f):=by
 intro pins s σ H D I h;refine plainObj_wpAny_Assign_Attribute (thn (hv pins s σ H _ I h) fun u s1 ⟨y,H1,I1,ry,q⟩=>thn (ha pins s1 σ H1 _ I1 q) fun ov s2 ⟨x,H2,I2,rx,a,C,dx,fs,ex,ea,c,n,l,q2⟩=>?_) hs;subst ex;obtain rfl:ov=Value.ref a:=rx;exact tL I2 ea c n l ry fun s3 I3=>⟨σ,_,I3,q2⟩
end
section
variable {X:Cx} {pins:List (Addr×Obj)} {σ:St} {H:Hp} {s:Shared} {A:Around} {E:Value->Shared->Prop} {Q:Value->Shared->Prop} {c:Value} {b:Bool}
inductive TyOf(K:W.Frag)(H:Hp):V->Value->Prop where
 | non:TyOf K H .non (.type "NoneType")
 | bl (x:Bool):TyOf K H (.bl x) (.type "bool")
 | int (i:Int):TyOf K H (.int i) (.type "int")
 | str (x:Str):TyOf K H (.str x) (.type "str")
 | flt (x:UInt64):TyOf K H (.flt x) (.type "float")
 | lst {a:Addr} {xs:List V} (e:H a=some (.lst xs)):TyOf K H (.ref a) (.type "list")
 | frz {a:Addr} {o:Obj} {xs:List V} (e:H a=some (.frz o (.lst xs))):TyOf K H (.ref a) (.type "list")
 | tup {a:Addr} {xs:List V} (e:H a=some (.tup xs)):TyOf K H (.ref a) (.type "tuple")
 | dK {a:Addr} {kvs:List (Key×V)} (e:H a=some (.dK kvs)):TyOf K H (.ref a) (.type "dict")
 | dT {a:Addr} {kvs:List (List Key×V)} (e:H a=some (.dT kvs)):TyOf K H (.ref a) (.type "dict")
 | ins {a C dx:Addr} {fs:List (Str×V)} (e:H a=some (.ins C dx fs)) (cl:Cls K C) (ha:PySem.W.findIn K (.ref C) "__class__"=some (some (.builtin "object.__class__")))
  (hn:PySem.W.specialIn K (.builtin "object.__class__") "__get__"=some (some (.builtin "getset_descriptor.__get__"))) (htk:PySem.W.takesIn K (.builtin "object.__class__")=some true)
  (hm:PySem.W.mroIn K C (.type "object")=some true):TyOf K H (.ref a) (.ref C)
theorem wY{x:V}{u t:Value}(I:Inv X pins σ H s)(rx:RelV x u)(ty:TyOf X.K H x t)(e:PySem.W.kitOne X.K t c=some b)(h:∀tk,Q (.bool b) { s with toks:=tk }) :
 wpAny (model X.prog X.w) A (call (.builtin "isinstance") [u,c]) Q E s:=by
 cases ty with
 | non=>cases(show u=Value.none from rx);exact PySem.W.kia_one PySem.W.kitx_none I.kIn True.intro e (fun z=>nomatch z) h
 | bl y=>cases(show u=Value.bool y from rx);exact PySem.W.kia_one PySem.W.kitx_bool I.kIn True.intro e (fun z=>nomatch z) h
 | int i=>obtain⟨t,q⟩:=(show ∃t,u=Value.int i t from rx);cases q;exact PySem.W.kia_one PySem.W.kitx_int I.kIn True.intro e (fun z=>nomatch z) h
 | str y=>obtain⟨t,q⟩:=(show ∃t,u=Value.str y t from rx);cases q;exact PySem.W.kia_one PySem.W.kitx_str I.kIn True.intro e (fun z=>nomatch z) h
 | flt y=>obtain⟨t,q⟩:=(show ∃t,u=Value.float y t from rx);cases q;exact PySem.W.kia_one PySem.W.kitx_float I.kIn True.intro e (fun z=>nomatch z) h
 | @lst a xs ea=>
   cases(show u=Value.ref a from rx);obtain⟨_,_,n,_,h1⟩:=(show ObjOk X.prog X.w H s.heap a (.lst xs)from I.hok a _ ea)
   exact PySem.W.kia_one PySem.W.kitx_list I.kIn ⟨_,h1,rfl⟩ e (fun z=>nomatch z) h
 | @frz a ob xs ea=>
   cases(show u=Value.ref a from rx);obtain⟨_,_,_,n,_,h1⟩:=(show ObjOk X.prog X.w H s.heap a (.frz ob (.lst xs))from I.hok a _ ea)
   exact PySem.W.kia_one PySem.W.kitx_list I.kIn ⟨_,h1,rfl⟩ e (fun z=>nomatch z) h
 | @tup a xs ea=>
   cases(show u=Value.ref a from rx);obtain⟨_,_,_,p,_⟩:=(show ObjOk X.prog X.w H s.heap a (.tup xs)from I.hok a _ ea)
   obtain⟨o,h1,h2,_⟩:=p;exact PySem.W.kia_one PySem.W.kitx_tuple I.kIn ⟨o,h1,h2⟩ e (fun z=>nomatch z) h
 | @dK a kvs ea=>
   cases(show u=Value.ref a from rx);obtain⟨_,_,vs,_,p⟩:=(show ObjOk X.prog X.w H s.heap a (.dK kvs)from I.hok a _ ea)
   obtain⟨o,es,ep,h1,h2,_⟩:=p;exact PySem.W.kia_one PySem.W.kitx_dict I.kIn ⟨o,h1,h2.1⟩ e (fun z=>nomatch z) h
 | @dT a kvs ea=>
   cases(show u=Value.ref a from rx);obtain⟨_,_,xs,_,o,es,ep,h1,h2,_⟩:=(show ObjOk X.prog X.w H s.heap a (.dT kvs)from I.hok a _ ea)
   exact PySem.W.kia_one PySem.W.kitx_dict I.kIn ⟨o,h1,h2.1⟩ e (fun z=>nomatch z) h
 | @ins a C dx fs ea cl ha hn htk hm=>
   cases(show u=Value.ref a from rx);obtain⟨mA,O,_⟩:=ms I.hok ea;obtain⟨od,J,_⟩:=O.look;exact PySem.W.kia_one (PySem.W.kitx_own (cl.get _) cl.hd ha hn htk hm) I.kIn J e (fun z=>nomatch z) h
end
structure Room(k:Nat)(A:Around):Prop where
 hd:A.handled=none
 dp:A.depth+3*k+5<recursionLimit
 un:A.units+16*k+200<cLine
theorem Room.mono{j k:Nat}{A:Around}(r:Room k A)(h:j<=k):Room j A:=⟨r.hd,by have:=r.dp;omega,by have:=r.un;omega⟩
theorem Room.deeper{k:Nat}{A:Around}(r:Room (k+1) A)(env:Env):Room k (A.deeper env):=
 ⟨r.hd,by have:=r.dp;show A.depth+1+3*k+5<_;omega,by have:=r.un;show A.units+3+16*k+200<_;omega⟩
theorem uz {A:Around} {C:Addr} {us:List Value} {kw:List (Str×Value)}:(A.under (.builtin "type.__call__" ⟨.ref C::us,kw⟩)).depth=A.depth+1:=by
 first | rfl | simp [Around.under,Code.weight,Code.isCreation,Code.isGuard,Code.isCaller,Code.frames,Code.isFrame,guardIds]
theorem uy {A:Around} {C:Addr} {us:List Value} {kw:List (Str×Value)}:(A.under (.builtin "type.__call__" ⟨.ref C::us,kw⟩)).units=A.units+1:=by
 first | rfl | simp [Around.under,Code.cUnits,Code.frames,Code.isFrame]
theorem Room.make {k:Nat} {A:Around} (r:Room (k+1) A) (C:Addr) (us:List Value) (kw:List (Str×Value)):Room k (A.under (.builtin "type.__call__" ⟨.ref C::us,kw⟩)):=
 ⟨r.hd,by have:=r.dp;rw[uz];omega,by have:=r.un;rw[uy];omega⟩
theorem Room.depth{k:Nat}{A:Around}(r:Room k A):A.depth<recursionLimit:=by have:=r.dp;omega
theorem Room.units{k:Nat}{A:Around}(r:Room k A):A.units+64<cLine:=by have:=r.un;omega
def tE:TA:=fun _ H Q=>Q [] H
def jY(ta:TE)(tr:TA):TA:=fun σ H Q=>ta σ H fun x H1=>tr σ H1 fun xs H2=>Q (x::xs) H2
section
variable {X:Cx} {e:Expr} {es:List Expr} {te:TE} {t:TA} {pos:Pos}
theorem aH:PA X [] tE:=fun _ _ _ _ H Q I h=>Calls.spliced_nil ⟨[],H,I,.nil,h⟩
theorem af(ha:PE X e te)(hr:PA X es t)(hs:starEach (e::es) X.env=(false,eval e X.env)::starEach es X.env:=by rfl):PA X (e::es) (jY te t):=by
 intro pos pins s σ H Q I h;rw[hs];show wpAny _ _ (spliced ((false,eval e X.env)::backTo pos (starEach es X.env))) _ _ s;refine Calls.spliced_cons (thn (ha pins s σ H _ I h) fun u s1 ⟨x,H1,I1,r1,q1⟩=>?_);exact thn (hr pos pins s1 σ H1 _ I1 q1) fun us s2 ⟨xs,H2,I2,r2,q2⟩=>⟨x::xs,H2,I2,.cons r1 r2,q2⟩
def Ck(t:TA):TE:=fun σ H Q=>t σ H fun xs H1=>xs.length<=sizeLine/\∀p,H1 p=none->Q (.ref p) (upd H1 p (.tup xs))
def Cm(t:TA):TE:=fun σ H Q=>t σ H fun xs H1=>xs.length<=sizeLine/\∀p,H1 p=none->Q (.ref p) (upd H1 p (.lst xs))
theorem aX{x1}(h:PA X es t):PE X (.Tuple es x1 pos) (Ck t):=by
 intro pins s σ H Q I hq;refine wpAny_Tuple_spliced (thn (h pos pins s σ H _ I hq) fun us s1 ⟨xs,H1,I1,r,z,q⟩=>⟨by rw[←r.length];exact z,?_⟩);have hf:H1 s1.heap.objs.size=none:=I1.hok.fresh (zG0 _);refine⟨.ref s1.heap.objs.size,upd H1 s1.heap.objs.size (.tup xs),I1.laid (t':=s1.toks) (fun b u e=>zO0 _ e) (zG0 _) ?_,rfl,q _ hf⟩;exact⟨z,us,r,⟨_,zV0 _ rfl,rfl,_,rfl⟩,_,zV0 _ rfl,rfl⟩
theorem bL(h:PA X es t):PE X (.List es pos) (Cm t):=by
 intro pins s σ H Q I hq;refine wpAny_List_spliced (thn (h pos pins s σ H _ I hq) fun us s1 ⟨xs,H1,I1,r,z,q⟩=>⟨by rw[←r.length];exact z,?_⟩);have hf:H1 s1.heap.objs.size=none:=I1.hok.fresh (zG0 _);refine⟨.ref s1.heap.objs.size,upd H1 s1.heap.objs.size (.lst xs),I1.laid (t':=s1.toks) (fun b u e=>zO0 _ e) (zG0 _) ?_,rfl,q _ hf⟩;exact⟨z,us,0,r,zV0 _ rfl⟩
end
abbrev Sp:=List V->Hp->VK->XK->Prop
abbrev CXT:=List Env->Hp->Shared->XK->Value->Shared->Prop
structure Env0(P:Program)(w:World)(K:W.Frag)(mg:Str->Option Value)(base:Heap)(A:Around)(outer:List Env)(s:Shared)(H:Hp):Prop where
 frames:A.frames=some outer
 mod:Mod K mg base
 bs:∀b o,base.get? b=some o->s.heap.get? b=some o/\H b=none
 bsz:base.objs.size<=s.heap.objs.size
 funs:s.heap.FunFrames base outer
 frf:∀b∈frs outer,H b=none
 hok:HOk P w H s.heap
 bare:AllBare s.gens
def CE(outer:List Env)(P:Program)(w:World)(H:Hp)(s:Shared)(Q:VK)(u:Value)(s':Shared):Prop:=
 ∃v H',s'.os=s.os/\AllBare s'.gens/\Un (frs outer) [] H H' s.heap s'.heap/\HOk P w H' s'.heap/\RelV v u/\Q v H'
def CR(CX:CXT)(outer:List Env)(P:Program)(w:World)(H:Hp)(s:Shared)(Q:VK)(E:XK)(r:Result)(s':Shared):Prop:=
 match r with
 | .ok (.ret u)=>CE outer P w H s Q u s'
 | .ok _=>False
 | .error e=>CX outer H s E e s'
structure FnOk(P:Program)(w:World)(K:W.Frag)(mg:Str->Option Value)(base:Heap)(CX:CXT)(k:Nat)(f:Addr)(fd:FuncData)(ps:List Str)(sp:Sp):Prop where
 len:∀vs H Q E,sp vs H Q E->vs.length=ps.length
 run:∀(A:Around)(outer:List Env)(s:Shared)(H:Hp)(args:Args)(us:List Value)(vs:List V)(Q:VK)(E:XK),Room k A->Env0 P w K mg base A outer s H->BindsTo s fd args (ps.zip us)->Vals vs us->sp vs H Q E ->
  codeAny (model P w) A (.call (.ref f) args) (CR CX outer P w H s Q E) s
theorem Env0.make{P:Program}{w:World}{K:W.Frag}{mg:Str->Option Value}{base:Heap}{A:Around}{outer:List Env}{s:Shared}{H:Hp}(e:Env0 P w K mg base A outer s H)(C:Addr)(us:List Value)(kw:List (Str×Value)) :
 Env0 P w K mg base (A.under (.builtin "type.__call__" ⟨.ref C::us,kw⟩)) outer s H:=⟨by first | exact e.frames | (simpa [Around.under,Code.envs,Code.isFrame,pushEnvs]using e.frames),e.mod,e.bs,e.bsz,e.funs,e.frf,e.hok,e.bare⟩
section
variable {X:Cx} {pins:List (Addr×Obj)} {σ:St} {H:Hp} {s s':Shared}
theorem Inv.env0(I:Inv X pins σ H s):Env0 X.prog X.w X.K X.mg X.base X.A X.stack s H:=
 ⟨I.ok.frames,I.ok.mod,I.bs,zZ0 I.ok.bsz I.sz,I.stack,I.stkFree,I.hok,I.bare⟩
theorem Inv.after{Q:VK}{u:Value}(I:Inv X pins σ H s)(h:CE X.stack X.prog X.w H s Q u s'):EP X pins σ Q u s':=by
 obtain⟨v,H',os,bare,un,hok,r,q⟩:=h;obtain⟨hh,g,d,t,os'⟩:=s';obtain rfl:os'=s.os:=os;exact⟨v,H',I.call (h':=hh) (g':=g) (d':=d) (t':=t) (ch:=[]) un hok bare (fun b z=>absurd z (by simp)),r,q⟩
end
def xQ(sp:Sp)(dvs:List V)(E:XK)(t:TA):TE:=fun σ H Q=>t σ H fun vs H1=>sp (vs++dvs) H1 Q E
def By(C:Addr)(m:Str)(sp:Sp)(dvs:List V)(E:XK)(ta:TE)(t:TA):TE:=fun σ H Q=>ta σ H fun x H1=>∃a dx fs,x=.ref a/\H1 a=some (.ins C dx fs)/\fs.lookup m=none/\
 t σ H1 fun vs H2=>sp (x::(vs++dvs)) H2 Q E
def tMake(C:Addr)(sp:Sp)(dvs:List V)(E:XK)(t:TA):TE:=fun σ H Q=>t σ H fun vs H1=>∀x dx,H1 x=none->H1 dx=none->dx≠x ->
 sp (.ref x::(vs++dvs)) (upd (upd H1 dx (.own x)) x (.ins C dx [])) (fun v H2=>v=.non/\Q (.ref x) H2) E
def Binds(K:W.Frag)(fd:FuncData)(ps:List Str)(ds:List Value):Prop:=
 ∀(s:Shared)(us:List Value),K.In s.heap->(us++ds).length=ps.length->BindsTo s fd ⟨us,[]⟩ (ps.zip (us++ds))
theorem Binds.all{K:W.Frag}{fd:FuncData}{ps:List Str}(h:∀us:List Value,us.length=ps.length->bindArgs fd ⟨us,[]⟩=pure (ps.zip us)):Binds K fd ps []:=fun s us _ hl=>by
 rw[List.append_nil]at hl ⊢;exact .of_eq (h us hl)
def jW(CX:CXT)(X:Cx)(E:XK):Prop:=∀(pins:List (Addr×Obj))(σ:St)(H:Hp)(s:Shared)(e:Value)(s':Shared),Inv X pins σ H s->CX X.stack H s E e s'->X.xe e s'
section
variable {X:Cx} {CX:CXT} {k:Nat} {f C:Addr} {fd:FuncData} {ps:List Str} {sp:Sp} {dvs:List V} {ds:List Value} {E:XK} {x m:Str} {p pos apos:Pos} {e o:Expr} {es:List Expr} {ta:TE} {t:TA}
theorem tR{pins:List (Addr×Obj)}{σ:St}{H:Hp}{s:Shared}{Q:VK}{us:List Value}{vs:List V}(F:FnOk X.prog X.w X.K X.mg X.base CX k f fd ps sp)(hr:Room k X.A)(hb:Binds X.K fd ps ds)(hd:Vals dvs ds)(hx:jW CX X E)
 (I:Inv X pins σ H s) (r:Vals vs us) (h:sp (vs++dvs) H Q E):wpAny (model X.prog X.w) X.A (call (.ref f) us) (EP X pins σ Q) X.xe s:=by
 have r2:Vals (vs++dvs) (us++ds):=r.append hd;have hl:(us++ds).length=ps.length:=by rw[←r2.length];exact F.len _ _ _ _ h
 refine wpAny_call (codeAny_mono (F.run X.A X.stack s H ⟨us,[]⟩ (us++ds) (vs++dvs) Q E hr I.env0 (hb s us I.kIn hl) r2 h) fun r s' hq=>?_);cases r with
 | error e=>exact hx pins σ H s e s' I hq
 | ok fl=>
   cases fl with
   | ret u=>exact I.after hq
   | next=>exact False.elim hq
   | brk=>exact False.elim hq
   | cont=>exact False.elim hq
theorem AO(F:FnOk X.prog X.w X.K X.mg X.base CX k f fd ps sp)(hr:Room k X.A)(hg:Gl X x)(hm:X.mg x=some (.ref f))(hk:PySem.W.keepIn X.K (.ref f)=true)(hb:Binds X.K fd ps ds)(hd:Vals dvs ds)(hx:jW CX X E)
 (ha:PA X (e::es) t) (hdb:(x==("__debug__":Str))=false:=by decide) (he:starEach (e::es) X.env=(false,eval e X.env)::starEach es X.env:=by rfl) (hpl:(backTo pos (starEach es X.env)).any (·.1)=false:=by rfl) :
 PE X (.Call (.Name x p) (e::es) [] pos) (xQ sp dvs E t):=by
 intro pins s σ H Q I h;refine wpAny_Call_Name_kw (qz I hg hm ?_ hdb);refine PySem.W.callWith_K (h₀:=X.base) I.ok.mod.kin hk (thn (ha pos pins s σ H _ I h) fun us s1 ⟨vs,H1,I1,r,q⟩=>⟨I1.kIn,?_⟩) he hpl;exact tR F hr hb hd hx I1 r q
theorem dG{pl:Sem Bool}(he:PE X o ta)(c:Cls X.K C)(hm:Meth X.K C m f)(F:FnOk X.prog X.w X.K X.mg X.base CX k f fd ps sp)(hr:Room k X.A)(hb:Binds X.K fd ps ds)(hd:Vals dvs ds)(hx:jW CX X E)(ha:PA X (e::es) t)
 (hst:starEach (e::es) X.env=(false,eval e X.env)::starEach es X.env:=by rfl) (hpl:(backTo pos (starEach es X.env)).any (·.1)=false:=by rfl)
 (ht:eval (.Call (.Attribute o m apos) (e::es) [] pos) X.env=(do
  let ov ←eval o X.env
  standAt apos.atName
  let(f,first) ←holding [ov] (getMethod ov m pl)
  callWith pos f first (backTo pos (starEach (e::es) X.env)) (backToKw pos (keywordEach [] X.env))):=by rfl) :
 PE X (.Call (.Attribute o m apos) (e::es) [] pos) (By C m sp dvs E ta t):=by
 intro pins s σ H Q I h;refine PySem.W.methodCall_KW (pl:=pl) (thn (he pins s σ H _ I h) fun u s1 ⟨x,H1,I1,rx,a,dx,fs,ex,ea,l,q⟩=>?_) ht;subst ex;obtain rfl:u=Value.ref a:=rx;refine nY I1 ea c hm l ?_;refine PySem.W.callWith_K (first:=[.ref a]) (h₀:=X.base) I.ok.mod.kin hm.kp (thn (ha pos pins s1 σ H1 _ I1 q) fun us s2 ⟨vs,H2,I2,r,q2⟩=>⟨I2.kIn,?_⟩) hst hpl;exact tR (us:=.ref a::us) (vs:=.ref a::vs) F hr hb hd hx I2 (.cons rfl r) q2
theorem yN{pl:Sem Bool}(he:PE X o ta)(c:Cls X.K C)(hm:Meth X.K C m f)(F:FnOk X.prog X.w X.K X.mg X.base CX k f fd ps sp)(hr:Room k X.A)(hb:Binds X.K fd ps ds)(hd:Vals dvs ds)(hx:jW CX X E)
 (ht:eval (.Call (.Attribute o m apos) [] [] pos) X.env=(do
  let ov ←eval o X.env
  standAt apos.atName
  let(f,first) ←holding [ov] (getMethod ov m pl)
  callWith pos f first (backTo pos (starEach [] X.env)) (backToKw pos (keywordEach [] X.env))):=by rfl) :
 PE X (.Call (.Attribute o m apos) [] [] pos) (By C m sp dvs E ta tE):=by
 intro pins s σ H Q I h;refine PySem.W.methodCall_KW (pl:=pl) (thn (he pins s σ H _ I h) fun u s1 ⟨x,H1,I1,rx,a,dx,fs,ex,ea,l,q⟩=>?_) ht;subst ex;obtain rfl:u=Value.ref a:=rx;refine nY I1 ea c hm l ?_;exact PySem.W.callWith_K0 (first:=[.ref a]) I1.kIn hm.kp (tR (us:=[.ref a]) (vs:=[.ref a]) F hr hb hd hx I1 (.cons rfl .nil) q)
structure Mk(K:W.Frag)(C f:Addr):Prop where
 makes:PySem.W.makesIn K C=true
 init:PySem.W.findIn K (.ref C) "__init__"=some (some (.ref f))
 fn:PySem.W.isFn K (.ref f)=true
 kp:PySem.W.keepIn K (.ref C)=true
theorem yA{pins:List (Addr×Obj)}{σ:St}{H:Hp}{s:Shared}{Q:VK}{us:List Value}{vs:List V}(M:Mk X.K C f)(F:FnOk X.prog X.w X.K X.mg X.base CX k f fd ps sp)(hr:Room (k+1) X.A)(hb:Binds X.K fd ps ds)(hd:Vals dvs ds)
 (hx:jW CX X E) (I:Inv X pins σ H s) (r:Vals vs us)
 (h:∀x dx,H x=none->H dx=none->dx≠x->sp (.ref x::(vs++dvs)) (upd (upd H dx (.own x)) x (.ins C dx [])) (fun v H2=>v=.non/\Q (.ref x) H2) E) :
 wpAny (model X.prog X.w) X.A (call (.ref C) us) (EP X pins σ Q) X.xe s:=by
 have hq:=h (s.heap.objs.size+1) s.heap.objs.size (I.hok.fresh (qK0 _)) (I.hok.fresh (zG0 _)) (zS0 (Nat.lt_succ_self _));have I2:=Inv.made (C:=C) I;have r2:Vals (V.ref (s.heap.objs.size+1)::(vs++dvs)) (Value.ref (s.heap.objs.size+1)::(us++ds)):=.cons rfl (r.append hd);have hl:(Value.ref (s.heap.objs.size+1)::us++ds).length=ps.length:=by
  have e:=r2.length;rw[F.len _ _ _ _ hq]at e;exact e.symm
 refine wpAny_call (zC (f:=f) I.kIn M.makes M.init (beq_iff_eq.mp M.fn) (codeAny_mono (F.run _ X.stack _ _ ⟨Value.ref (s.heap.objs.size+1)::us,[]⟩ (Value.ref (s.heap.objs.size+1)::(us++ds)) _ _ E (hr.make C us [])
  (I2.env0.make C us []) (hb _ (Value.ref (s.heap.objs.size+1)::us) I2.kIn hl) r2 hq) fun r s' hq'=>?_))
 cases r with
 | error e=>exact hx pins σ _ _ e s' I2 hq'
 | ok fl=>
   cases fl with
   | ret u=>
     obtain⟨v,H',I3,rv,ev,q3⟩:=I2.after hq';subst ev;exact⟨rv,⟨V.ref (s.heap.objs.size+1),H',I3,rfl,q3⟩⟩
   | next=>exact False.elim hq'
   | brk=>exact False.elim hq'
   | cont=>exact False.elim hq'
theorem kC(M:Mk X.K C f)(F:FnOk X.prog X.w X.K X.mg X.base CX k f fd ps sp)(hr:Room (k+1) X.A)(hg:Gl X x)(hm:X.mg x=some (.ref C))(hb:Binds X.K fd ps ds)(hd:Vals dvs ds)(hx:jW CX X E)
 (ha:PA X (e::es) t) (hdb:(x==("__debug__":Str))=false:=by decide) (he:starEach (e::es) X.env=(false,eval e X.env)::starEach es X.env:=by rfl) (hpl:(backTo pos (starEach es X.env)).any (·.1)=false:=by rfl) :
 PE X (.Call (.Name x p) (e::es) [] pos) (tMake C sp dvs E t):=by
 intro pins s σ H Q I h;refine wpAny_Call_Name_kw (qz I hg hm ?_ hdb);refine PySem.W.callWith_K (h₀:=X.base) I.ok.mod.kin M.kp (thn (ha pos pins s σ H _ I h) fun us s1 ⟨vs,H1,I1,r,q⟩=>⟨I1.kIn,?_⟩) he hpl;exact yA M F hr hb hd hx I1 r q
end
structure FnScope(N P:List Str)(sc:Scope):Prop where
 kind:sc.kind=.function
 co:sc.isCoroutine=false
 gen:sc.isGenerator=false
 nd:N.Nodup
 pre:N.take P.length=P
 par:∀x∈P,sc.names.lookup x=some .local∨sc.names.lookup x=some .cell
 nofree:∀y∈sc.names,y.2≠.free
theorem pJ{kindOf:Str->Option NameKind}{x:Str}:∀{binds:List (Str×Value)}{m:Str->Option Value},(∀v,(x,v)∉binds)->bindL kindOf binds m x=m x
 | [],_,_=>rfl
 | (n,v)::r,m,h=>by
   unfold bindL;rw[pJ fun w hw=>h w (qL0 _ hw)]
   split
   . have:x≠n:=by rintro rfl;exact h v qG0
     simp [this]
   . rfl
theorem pM{kindOf:Str->Option NameKind}{x:Str}:∀{binds:List (Str×Value)}{m:Str->Option Value},(∀v,(x,v)∉binds)->bindC kindOf binds m x=m x
 | [],_,_=>rfl
 | (n,v)::r,m,h=>by
   unfold bindC;rw[pM fun w hw=>h w (qL0 _ hw)]
   split
   . rfl
   . have:x≠n:=by rintro rfl;exact h v qG0
     simp [this]
theorem pK{kindOf:Str->Option NameKind}{x:Str}{v:Value}:∀{P:List Str}{vs:List Value}{i:Nat}{m:Str->Option Value},P.Nodup->P[i]?=some x->vs[i]?=some v->kindOf x=some .local ->
 bindL kindOf (P.zip vs) m x=some v
 | [],_,_,_,_,h,_,_=>by simp at h
 | _::_,[],_,_,_,_,h,_=>by simp at h
 | p::P,w::vs,0,m,nd,h1,h2,hk=>by
   simp at h1 h2;subst h1;subst h2
   show bindL kindOf ((p,w)::P.zip vs) m p=_;unfold bindL;rw[pJ fun v hv=>(List.nodup_cons.mp nd).1 (List.of_mem_zip hv).1,zF0 hk]
   simp
 | p::P,w::vs,i+1,m,nd,h1,h2,hk=>by
   show bindL kindOf ((p,w)::P.zip vs) m x=_;unfold bindL;exact pK (i:=i) (List.nodup_cons.mp nd).2 (by simpa using h1) (by simpa using h2) hk
theorem pN{kindOf:Str->Option NameKind}{x:Str}{v:Value}:∀{P:List Str}{vs:List Value}{i:Nat}{m:Str->Option Value},P.Nodup->P[i]?=some x->vs[i]?=some v->kindOf x≠some .local ->
 bindC kindOf (P.zip vs) m x=some v
 | [],_,_,_,_,h,_,_=>by simp at h
 | _::_,[],_,_,_,_,h,_=>by simp at h
 | p::P,w::vs,0,m,nd,h1,h2,hk=>by
   simp at h1 h2;subst h1;subst h2
   show bindC kindOf ((p,w)::P.zip vs) m p=_;unfold bindC;rw[pM fun v hv=>(List.nodup_cons.mp nd).1 (List.of_mem_zip hv).1,zD0 hk]
   simp
 | p::P,w::vs,i+1,m,nd,h1,h2,hk=>by
   show bindC kindOf ((p,w)::P.zip vs) m x=_;unfold bindC;exact pN (i:=i) (List.nodup_cons.mp nd).2 (by simpa using h1) (by simpa using h2) hk
def lG(N:List Str)(vs:List V):St:=vs.map some++List.replicate (N.length-vs.length) none
def xq(CX:CXT)(P:Program)(w:World)(K:W.Frag)(mg:Str->Option Value)(base:Heap)(N:List Str)(qual:Str)(scope:Scope)(f:Addr)(cd:Value)(A:Around)(outer:List Env)(s:Shared)(H:Hp)(E:XK):Cx where
 prog:=P
 w:=w
 K:=K
 mg:=mg
 base:=base
 A:=A.deeper (envOfC qual scope s.heap.objs.size f cd)
 N:=N
 s₀:=s
 H₀:=H
 env:=envOfC qual scope s.heap.objs.size f cd
 outer:=outer
 stack:=envOfC qual scope s.heap.objs.size f cd::outer
 ex:=[]
 calm:=true
 fn:=fun _=>true
 pn:=[]
 xe:=fun e s'=>wpAny (model P w) (A.deeper (envOfC qual scope s.heap.objs.size f cd)) (leaving (envOfC qual scope s.heap.objs.size f cd) e) (fun _ s''=>CX outer H s E e s'') (fun e' s''=>CX outer H s E e' s'') s'
theorem sN{sc:Scope}{n:Nat}{x:Str}(h:sc.names.lookup x=some .cell):∃c,(cellsFrom n sc.names []).lookup x=some c:=by
 have q:=PySem.W.cellsFrom_some sc.names n [] (.inl h);exact Option.isSome_iff_exists.mp q
theorem wZ{CX:CXT}{P:Program}{w:World}{K:W.Frag}{mg:Str->Option Value}{base:Heap}{N ps:List Str}{qual:Str}{scope:Scope}{f:Addr}{cd:Value}{A:Around}{outer:List Env}{s s1:Shared}{H:Hp}{E:XK}{us:List Value}{vs:List V}
 (S:FnScope N ps scope) (hd:A.handled=none) (e0:Env0 P w K mg base A outer s H) (hl:vs.length=ps.length) (r:Vals vs us)
 (x:InCallC s s.heap.objs.size (bindL (envOfC qual scope s.heap.objs.size f cd).kindOf (ps.zip us) fun _=>none) (cellsFrom (s.heap.objs.size+1) scope.names []) (bindC (envOfC qual scope s.heap.objs.size f cd).kindOf (ps.zip us) fun _=>none) s1) :
 Inv (xq CX P w K mg base N qual scope f cd A outer s H E) [] (lG N vs) H s1:=by
 have hpl:ps.length<=N.length:=by have:=congrArg List.length S.pre;rw[qM0]at this;omega
 obtain⟨h1,tk,rfl,hk⟩:=x.done;have noA:∀b:Addr,b∉(xq CX P w K mg base N qual scope f cd A outer s H E).ex:=fun b z=>absurd (show b∈([]:List Addr)from z) (by simp)
 refine ⟨⟨e0.mod,S.kind,rfl,rfl,zG0 _,fun y z c h1 h2=>?_,fun y hy=>?_,fun y c _ h=>?_,fun _=>hd,Around.frames_deeper e0.frames,.inr ⟨rfl,rfl⟩,fun b z=>absurd z (noA b),e0.bs,e0.bsz,fun b _ _=>noA b,fun b z=>absurd z (noA b),e0.funs,e0.frf⟩,
  rfl,e0.bare,Un.kept hk,⟨_,x.toInCall.ns,fun i y v h1 h2 h3=>?_⟩,fun y c h=>⟨_,x.cell y c h⟩,e0.hok.fresh (zG0 _),fun y c h=>?_,fun p hp=>absurd (show p∈([]:List (Addr×Obj))from hp) (by simp),e0.hok.kept hk,?_⟩
 . exact name_of_addr x.apart (PySem.mem_of_lookup h1) (PySem.mem_of_lookup h2)
 . have hy:scope.names.lookup y=some .cell∨scope.names.lookup y=some .free:=hy;rcases hy with hy | hy
   . exact sN hy
   . exact absurd rfl (S.nofree _ (PySem.mem_of_lookup hy))
 . exact Nat.le_of_lt (x.above y c (PySem.mem_of_lookup h))
 . have hi:i<vs.length:=by
    unfold lG at h2
    by_cases hi:i<vs.length
    . exact hi
    . rw [List.getElem?_append_right (by simpa using hi)]at h2;rw[List.getElem?_replicate]at h2
      split at h2 <;> cases h2
   have ha:vs[i]?=some v:=by
    unfold lG at h2;rw[List.getElem?_append_left (by simpa using hi),qD0]at h2;cases e:vs[i]? with
    | none=>rw[e]at h2;cases h2
    | some a=>rw[e]at h2;cases h2;rfl
   obtain ⟨u,hu,rv⟩:=r.get ha;have hp:ps[i]?=some y:=by
    rw[←S.pre,List.getElem?_take_of_lt (by omega)];exact h1
   have ndP:ps.Nodup:=by rw[←S.pre];exact S.nd.sublist (List.take_sublist _ _)
   refine⟨u,rv,?_⟩;rcases S.par y (qE0 hp)with k | k
   . exact .inl ⟨k,pK ndP hp hu k⟩
   . obtain⟨c,e⟩:=sN (n:=s.heap.objs.size+1) k;refine .inr ⟨.inl k,c,e,?_⟩;have q:=x.cell y c e;rw[pN ndP hp hu (by show scope.names.lookup y≠_;rw[k];decide)]at q;exact q
 . exact e0.hok.fresh (Nat.le_of_lt (x.above y c (PySem.mem_of_lookup h)))
 . unfold lG;show _=N.length;rw[zL0,zH0,List.length_replicate];omega
theorem fn_of{CX:CXT}{P:Program}{w:World}{K:W.Frag}{mg:Str->Option Value}{base:Heap}{k:Nat}{f:Addr}{name qual:Str}{params:Arguments}{body:List Stmt}{scope:Scope}{dV kV doc pm cdv ct oc:Value}{an od:Option Addr}
 {osl:Array (Option Value)} {N ps:List Str} {sp:Sp} (lk:K.lookup f=some ⟨oc,od,.func (PySem.W.fnOf name qual params body scope dV kV doc pm an cdv ct),osl⟩) (hcd:PySem.W.codeIn K cdv qual=true) (S:FnScope N ps scope)
 (len:∀vs H Q E,sp vs H Q E->vs.length=ps.length)
 (hbody:∀(A:Around)(outer:List Env)(s:Shared)(H:Hp)(vs:List V)(Q:VK)(E:XK),Room k (A.deeper (envOfC qual scope s.heap.objs.size f cdv))->sp vs H Q E ->
  ∃t,PSs (xq CX P w K mg base N qual scope f cdv A outer s H E) body t/\t { nx:=fun _ H'=>Q .non H',rt:=Q } (lG N vs) H) :
 FnOk P w K mg base CX (k+1) f (PySem.W.fnOf name qual params body scope dV kV doc pm an cdv ct) ps sp:=by
 refine⟨len,fun A outer s H args us vs Q E hr e0 hb r hsp=>?_⟩;have hl:=len _ _ _ _ hsp;have KX:K.In s.heap:=e0.mod.kin.keeps fun b o e=>(e0.bs b o e).1
 have lim:s.heap.NoLimit:=e0.mod.nolimit.keeps fun b o e=>(e0.bs b o e).1
 have hkind:∀y∈ps.zip us,scope.names.lookup y.1=some .local∨(scope.names.lookup y.1=some .cell/\((cellsFrom (s.heap.objs.size+1) scope.names []).lookup y.1).isSome=true):=fun⟨n,v⟩ hy=>by
  rcases S.par n (List.of_mem_zip hy).1 with q | q
  . exact .inl q
  . exact .inr ⟨q,PySem.W.cellsFrom_some _ _ _ (.inl q)⟩
 refine codeAny_call_function hr.depth (KX _ _ lk) rfl S.co S.gen rfl (PySem.W.codeRec_of KX hcd) (hb _ _ _ _ ?_);refine wpAny_newFunctionEnv_cells S.kind hkind fun env he s1 x=>?_
 subst he;refine⟨lim.keeps x.toInCall.keep,codeAny_func ?_⟩;obtain⟨t,ht,hq⟩:=hbody A outer s H vs Q E (hr.deeper _) hsp;have I:Inv (xq CX P w K mg base N qual scope f cdv A outer s H E) [] (lG N vs) H s1:=wZ S hr.hd e0 hl r x;refine wpAny_mono (ht [] s1 (lG N vs) H _ I hq) (fun fl s' hs=>?_) fun e s' hs=>hs
 have fin:∀{σ':St}{H':Hp}{v:V}{u:Value},Inv (xq CX P w K mg base N qual scope f cdv A outer s H E) [] σ' H' s'->RelV v u->Q v H'->CE outer P w H s Q u s':=
  fun{σ' H' v u} J rv q=>⟨v,H',J.os,J.bare,J.base,J.hok,rv,q⟩
 cases fl with
 | ret u=>
   obtain⟨v,σ',H',J,rv,q⟩:=hs;exact fin J rv q
 | next=>
   obtain⟨σ',H',J,q⟩:=hs;exact fin (v:=V.non) (u:=Value.none) J rfl q
 | brk=>
   obtain⟨_,_,_,q⟩:=hs;exact False.elim q
 | cont=>
   obtain⟨_,_,_,q⟩:=hs;exact False.elim q
section
variable {X:Cx} {x:Str} {p pos:Pos} {e:Expr} {es:List Expr} {t:TA} {id T:String} {r:List V->Hp->VK->Prop}
def tCB(r:List V->Hp->VK->Prop)(t:TA):TE:=fun σ H Q=>t σ H fun vs H1=>r vs H1 Q
theorem aE (hc:iC X (.builtin id) r) (hg:Gl X x) (hm:X.mg x=none) (hv:bootBuiltins x=some (.builtin id)) (ha:PA X (e::es) t) (hn:x≠"__name__":=by decide) (hdb:(x==("__debug__":Str))=false:=by decide)
 (he:starEach (e::es) X.env=(false,eval e X.env)::starEach es X.env:=by rfl) (hpl:(backTo pos (starEach es X.env)).any (·.1)=false:=by rfl):PE X (.Call (.Name x p) (e::es) [] pos) (tCB r t):=by
 intro pins s σ H Q I h;refine wpAny_Call_Name_kw (gN I hg hm hv ?_ hn hdb);exact PyProof.Rows.callWith_builtin1 (thn (ha pos pins s σ H _ I h) fun us s1 ⟨vs,H1,I1,r1,q1⟩=>hc pins s1 σ H1 vs us Q I1 r1 q1) he hpl
theorem bF (hc:iC X (.type T) r) (hg:Gl X x) (hm:X.mg x=none) (hv:bootBuiltins x=some (.type T)) (ha:PA X (e::es) t) (hn:x≠"__name__":=by decide) (hdb:(x==("__debug__":Str))=false:=by decide)
 (he:starEach (e::es) X.env=(false,eval e X.env)::starEach es X.env:=by rfl) (hpl:(backTo pos (starEach es X.env)).any (·.1)=false:=by rfl):PE X (.Call (.Name x p) (e::es) [] pos) (tCB r t):=by
 intro pins s σ H Q I h;refine wpAny_Call_Name_kw (gN I hg hm hv ?_ hn hdb);exact PyProof.Rows.callWith_type1 (thn (ha pos pins s σ H _ I h) fun us s1 ⟨vs,H1,I1,r1,q1⟩=>hc pins s1 σ H1 vs us Q I1 r1 q1) he hpl
end
end L2
namespace HT
open PySem PyProof.Rows
section
variable {prog:Program} {w:World} {A:Around} {E:Value->Shared->Prop} {s:Shared}
theorem cat_tup{t b:Addr}{vs ws:List Value}{Q:Value->Shared->Prop}(ht:IsTup s.heap t vs.toArray)(hb:IsTup s.heap b ws.toArray)(hv:vs≠[])
 (h1:ws=[]->Q (.ref t) s) (h2:ws≠[]->Q (.ref s.heap.objs.size) { s with heap:=s.heap.push { cls:=.type "tuple",data:=.seq (vs++ws).toArray } })
 (hsz:vs.length+ws.length<=sizeLine):wpAny (model prog w) A (binaryOp .Add (.ref t) (.ref b)) Q E s:=by
 obtain⟨⟨cls,dd,data,sl⟩,ho,hc,n,hd⟩:=id ht;obtain⟨⟨cls2,dd2,data2,sl2⟩,ho2,hc2,n2,hd2⟩:=id hb;simp only at hc hd hc2 hd2;subst hc hd hc2 hd2;have e:vs.toArray++ws.toArray=(vs++ws).toArray:=by simp
 by_cases hw:ws=[]
 . exact concat_meets ⟨_,ho,rfl⟩ ⟨_,ho2,rfl⟩ noFill_tuple_add seq_tuple_add PySem.F.slot_tuple_add PySem.F.entry_tuple_add (PySem.F.args_tuple_add_2 _ _)
    (tuple_addW1 t b vs.toArray ws.toArray n n2 dd dd2 sl sl2 (by simpa using hv) (by simp [hw])) ⟨ho,ho2,h1 hw⟩
 . refine concat_meets ⟨_,ho,rfl⟩ ⟨_,ho2,rfl⟩ noFill_tuple_add seq_tuple_add PySem.F.slot_tuple_add PySem.F.entry_tuple_add (PySem.F.args_tuple_add_2 _ _)
    (tuple_addW2 t b vs.toArray ws.toArray n n2 dd dd2 sl sl2 (by simpa using hv) (by simpa using hw) (by rw[zP0,zP0];exact hsz)) ⟨ho,ho2,?_⟩
   rw[e];exact h2 hw
def sIx(n d:Nat):Option Int->Nat
 | none=>d
 | some v=>if v<0 then(v+(n:Int)).toNat else min v.toNat n
theorem sIx_none(n d:Nat):sIx n d none=d:=rfl
theorem sIx_nat(n d k:Nat):sIx n d (some (k:Int))=min k n:=by
 show(if(k:Int)<0 then((k:Int)+(n:Int)).toNat else min (k:Int).toNat n)=min k n;rw[zD0 (by omega),qO0]
theorem CB(n d:Nat)(hd:d<=n)(o:Option Int):sIx n d o<=n:=by
 cases o with
 | none=>exact hd
 | some v=>
   show(if v<0 then(v+(n:Int)).toNat else min v.toNat n)<=n
   by_cases hv:v<0
   . rw[zF0 hv];omega
   . rw[zD0 hv];exact Nat.min_le_right _ _
theorem vJ(v:Int)(n d:Nat):(if v<0 then max (v+(n:Int)) 0 else min v (n:Int))=((sIx n d (some v):Nat):Int):=by
 show(if v<0 then max (v+(n:Int)) 0 else min v (n:Int))=(((if v<0 then(v+(n:Int)).toNat else min v.toNat n):Nat):Int)
 by_cases hv:v<0
 . simp only[zF0 hv];omega
 . simp only[zD0 hv];omega
theorem uO(lo hi:Option Int)(n:Nat):Builtin.Slice.sliceAdjust lo hi 1 (n:Int)=(((sIx n 0 lo:Nat):Int),((sIx n n hi:Nat):Int)):=by
 have h1:¬ ((1:Int)<0):=by omega
 unfold Builtin.Slice.sliceAdjust;simp only[h1,if_false];refine Prod.ext ?_ ?_
 . cases lo with
   | none=>rfl
   | some v=>exact vJ v n 0
 . cases hi with
   | none=>rfl
   | some v=>exact vJ v n n
theorem tV(i j:Nat):Builtin.Slice.slicePlaces (i:Int) (j:Int) 1=j-i:=by
 unfold Builtin.Slice.slicePlaces;have h1:(1:Int)>0:=by omega
 simp only[h1,if_true,Int.ediv_one]
 split <;> omega
theorem mN{v:Value}{o:Option Int}{Q:Option Int->Shared->Prop}(p:IsPart v o)(h:Q o s):wpAny (model prog w) A (Builtin.Slice.slicePartIndex v) Q E s:=by
 cases p with
 | none=>exact slicePart_none h
 | int i t=>exact slicePart_int h
theorem kW{sl:Addr}{vl vu:Value}{lo hi:Option Int}{n:Nat}{Q:Int×Int×Nat->Shared->Prop}(hs:s.heap.IsSliceOf sl vl vu .none)(pl:IsPart vl lo)(pu:IsPart vu hi)
 (h:Q (((sIx n 0 lo:Nat):Int),1,sIx n n hi-sIx n 0 lo) s):wpAny (model prog w) A (Builtin.Slice.sliceApplied (.ref sl) (pure (n:Int))) Q E s:=by
 obtain⟨os,hos,hcs,hds⟩:=id hs;unfold Builtin.Slice.sliceApplied Builtin.Slice.sliceFields;refine zA0 (zA0 (wpAny_field hos hds (x:=vl) rfl (zA0 (wpAny_field hos hds (x:=vu) rfl (zA0 (wpAny_field hos hds (x:=.none) rfl (zI0 ?_)))))));refine zA0 (slicePart_none ?_);show wpAny _ _ (if((1:Int)==0)=true then _ else _) _ _ s;rw[zD0 (by decide)];refine zA0 (mN pl (zA0 (mN pu (zA0 (zI0 ?_)))));show wpAny _ _ (match Builtin.Slice.sliceAdjust lo hi 1 (n:Int)with | (lo,hi)=>pure (lo,(1:Int),Builtin.Slice.slicePlaces lo hi 1)) _ _ s;rw[uO lo hi n];show wpAny _ _ (pure (((sIx n 0 lo:Nat):Int),(1:Int),Builtin.Slice.slicePlaces ((sIx n 0 lo:Nat):Int) ((sIx n n hi:Nat):Int) 1)) _ _ s;rw[tV];exact zI0 h
theorem yJ(xs:Array Value)(i k:Nat):((List.range k).filterMap fun(m:Nat)=>xs[((i:Int)+(m:Int)*1).toNat]?).toArray=((xs.toList.drop i).take k).toArray:=by
 have e:(fun(m:Nat)=>xs[((i:Int)+(m:Int)*1).toNat]?)=fun m=>xs[i+m]?:=by
  funext m
  have:((i:Int)+(m:Int)*1).toNat=i+m:=by omega
  rw[this]
 rw[e]
 have:=pick_run xs i k
 rw[List.filterMap_map]at this;have e2:((fun x=>xs[x]?) ∘ fun x=>i+x)=fun m=>xs[i+m]?:=rfl
 rw[e2]at this;rw[this]
theorem getItem_tuple_cut{t sl:Addr}{items:Array Value}{vl vu:Value}{lo hi:Option Int}{Q:Value->Shared->Prop}(ht:IsTup s.heap t items)(hs:s.heap.IsSliceOf sl vl vu .none)(pl:IsPart vl lo)(pu:IsPart vu hi)
 (hw:¬ (sIx items.size 0 lo=0/\sIx items.size items.size hi=items.size))
 (h:Q (.ref s.heap.objs.size) { s with heap:=s.heap.push { cls:=.type "tuple",data:=.seq ((items.toList.drop (sIx items.size 0 lo)).take (sIx items.size items.size hi-sIx items.size 0 lo)).toArray } })
 (hsz:items.size<=sizeLine):wpAny (model prog w) A (getItem (.ref t) (.ref sl)) Q E s:=by
 have htake:sizeOk (.seq ((items.toList.drop (sIx items.size 0 lo)).take (sIx items.size items.size hi-sIx items.size 0 lo)).toArray):=by
  show((items.toList.drop (sIx items.size 0 lo)).take (sIx items.size items.size hi-sIx items.size 0 lo)).toArray.size<=sizeLine;rw[zP0,qM0,List.length_drop,Array.length_toList];omega
 have hj:sIx items.size items.size hi<=items.size:=CB _ _ (zG0 _) hi;obtain⟨os,hos,hcs,hds⟩:=id hs;have hTs:s.TypeIs (.ref sl) "slice":=⟨os,hos,hcs⟩
 unfold getItem
 try with_reducible refine wpAny_holding ?_
 first | refine zA0 (zI0 ?_) | skip
 refine zA0 (wpAny_sequenceKey ht.typeIs (by decide) ?_);refine zA0 (wpAny_callSpecial?_slot (name:=Str.ofString "__getitem__") ht.typeIs PyProof.Rows.slot_tuple_getitem
  (wpAny_call_entry PyProof.Rows.slot_tuple_getitem ht.typeIs entry_tuple_getitem ?_ (args_tuple_getitem _ _)))
 show wpAny _ _ (Builtin.Tuple.tupleItemsOf (.ref t) >>= _) _ _ s;refine zA0 (tupleItemsOf_ ht ?_);refine zA0 (wpAny_typeOf hTs ?_);rw[zF0 (by decide)];refine zA0 (kW hs pl pu ?_);have hno:¬ ((((sIx items.size 0 lo:Nat):Int)==0&&(1:Int)==1&&(sIx items.size items.size hi-sIx items.size 0 lo)==items.size)=true):=by
  intro q;rw[Bool.and_eq_true,Bool.and_eq_true]at q;have q1:((sIx items.size 0 lo:Nat):Int)=0:=eq_of_beq q.1.1;have q2:sIx items.size items.size hi-sIx items.size 0 lo=items.size:=eq_of_beq q.2;exact hw ⟨by omega,by omega⟩
 show wpAny _ _ (if(((sIx items.size 0 lo:Nat):Int)==0&&(1:Int)==1&&(sIx items.size items.size hi-sIx items.size 0 lo)==items.size)=true then _ else _) _ _ s;rw[zD0 hno,yJ]
 first
  | exact zA0 (m:=Builtin.Tuple.tupleExact _) (wpAny_newObj_type (zI0 ⟨_,rfl,zI0 h⟩) htake)
  | exact zA0 (m:=Builtin.Tuple.tupleExact _) (wpAny_newObj_type (zA0 (zI0 (zI0 ⟨_,rfl,zI0 h⟩))) htake)
  | exact zA0 (zA0 (m:=Builtin.Tuple.tupleExact _) (wpAny_newObj_type (zI0 (zI0 ⟨_,rfl,zI0 h⟩)) htake))
  | exact zA0 (zA0 (m:=Builtin.Tuple.tupleExact _) (wpAny_newObj_type (zI0 ⟨_,rfl,zI0 h⟩) htake))
end
end HT
namespace L2
open PySem PySem.Spec PyProof.Rows
abbrev TO:=St->Hp->(Option Int->Hp->Prop)->Prop
def PO(X:Cx)(e:Option Expr)(t:TO):Prop:=
 ∀(pins:List (Addr×Obj))(s:Shared)(σ:St)(H:Hp)(Q:Option Int->Hp->Prop),Inv X pins σ H s->t σ H Q ->
  wpAny (model X.prog X.w) X.A (evalPart e X.env) (fun u s'=>∃o H',Inv X pins σ H' s'/\IsPart u o/\Q o H') X.xe s
def Ar:TO:=fun _ H Q=>Q none H
def tPart(t:TE):TO:=fun σ H Q=>t σ H fun x H1=>∃i,x=.int i/\Q (some i) H1
section
variable {X:Cx} {e:Expr} {te:TE} {lo hi:Option Expr} {tl th:TO} {pos p2:Pos}
theorem kx:PO X none Ar:=by
 intro pins s σ H Q I h;rw[evalPart_none];exact zI0 ⟨none,H,I,.none,h⟩
theorem iI(h:PE X e te):PO X (some e) (tPart te):=by
 intro pins s σ H Q I hw;rw[evalPart_some];refine thn (h pins s σ H _ I hw) fun u s1 ⟨x,H1,I1,r1,q1⟩=>?_
 obtain⟨i,rfl,q⟩:=q1;obtain⟨t,rfl⟩:=r1;exact⟨some i,H1,I1,.int i t,q⟩
def SlR(X:Cx)(r:V->Option Int->Option Int->Hp->VK->Prop):Prop:=
 ∀(pins:List (Addr×Obj))(s:Shared)(σ:St)(H:Hp)(x:V)(v vl vu:Value)(lo hi:Option Int)(sl:Addr)(Q:VK),Inv X pins σ H s->RelV x v->s.heap.IsSliceOf sl vl vu .none->IsPart vl lo->IsPart vu hi->r x lo hi H Q ->
  ∃T id,typeLookup (.type T) "__getitem__"=pure (some (.builtin id))/\s.TypeIs v T/\wpAny (model X.prog X.w) X.A (getItem v (.ref sl)) (EP X pins σ Q) X.xe s
def tSl(r:V->Option Int->Option Int->Hp->VK->Prop)(te:TE)(tl th:TO):TE:=fun σ H Q=>te σ H fun x H1=>tl σ H1 fun l H2=>th σ H2 fun u H3=>r x l u H3 Q
theorem iu{r:V->Option Int->Option Int->Hp->VK->Prop}(hr:SlR X r)(he:PE X e te)(hl:PO X lo tl)(hu:PO X hi th):PE X (.Subscript e (.Slice lo hi none p2) pos) (tSl r te tl th):=by
 intro pins s σ H Q I h;refine Subscript_ (thn (he pins s σ H _ I h) fun v s1 ⟨x,H1,I1,r1,q1⟩=>?_);refine wpAny_Slice (thn (hl pins s1 σ H1 _ I1 q1) fun vl s2 ⟨l,H2,I2,pl,q2⟩=>thn (hu pins s2 σ H2 _ I2 q2) fun vu s3 ⟨u,H3,I3,pu,q3⟩=>?_);rw[evalPart_none];refine zI0 ?_;have I4:Inv X pins σ H3 { s3 with heap:=s3.heap.push { cls:=.type "slice",data:=.fields #[vl,vu,.none] } }:=I3.kept (t':=s3.toks) fun b ob q=>zO0 _ q
 obtain⟨T,id,hT,ht,hg⟩:=hr pins { s3 with heap:=s3.heap.push { cls:=.type "slice",data:=.fields #[vl,vu,.none] } } σ H3 x v vl vu l u s3.heap.objs.size Q I4 r1 (Heap.IsSliceOf.new ..) pl pu q3;show wpAny (model X.prog X.w) X.A (subscriptTail e (.Slice lo hi none p2) v (.ref s3.heap.objs.size)) (EP X pins σ Q) X.xe { s3 with heap:=s3.heap.push { cls:=.type "slice",data:=.fields #[vl,vu,.none] } };exact tail_any (ops:=[.ref s3.heap.objs.size,v]) ht hT hg (by with_unfolding_all rfl)
def jM(xs:List V)(lo hi:Option Int):List V:=(xs.drop (HT.sIx xs.length 0 lo)).take (HT.sIx xs.length xs.length hi-HT.sIx xs.length 0 lo)
theorem lU(xs:List V)(lo hi:Option Int):(jM xs lo hi).length<=xs.length:=by
 unfold jM;rw[qM0,List.length_drop];omega
def rSlT(K:W.Frag):V->Option Int->Option Int->Hp->VK->Prop:=fun x lo hi H Q=>∃a xs,x=.ref a/\SqT K H a xs/\
 ¬ (HT.sIx xs.length 0 lo=0/\HT.sIx xs.length xs.length hi=xs.length)/\∀p,H p=none->Q (.ref p) (upd H p (.tup (jM xs lo hi)))
theorem tK:SlR X (rSlT X.K):=by
 intro pins s σ H x v vl vu lo hi sl Q I rx hs pl pu h;obtain⟨a,xs,rfl,hx,hw,q⟩:=h;cases rx;obtain⟨its,r,ht,hz⟩:=I.tuple hx;have hlen:its.toArray.size=xs.length:=by rw[zP0];exact r.length.symm
 refine⟨"tuple",_,PyProof.Rows.slot_tuple_getitem.lookup,ht.typeIs,?_⟩;refine HT.getItem_tuple_cut ht hs pl pu (by rw[hlen];exact hw) ?_ (by rw[hlen];exact hz);rw[hlen];refine⟨.ref s.heap.objs.size,_,I.laid (t':=s.toks) (o:=.tup (jM xs lo hi)) (fun b ob q=>zO0 _ q) (zG0 _) ?_,rfl,q _ (I.hok.fresh (zG0 _))⟩;exact⟨zZ0 (lU xs lo hi) hz,_,(r.drop (HT.sIx xs.length 0 lo)).take (HT.sIx xs.length xs.length hi-HT.sIx xs.length 0 lo),IsTup.new _ _,_,zV0 _ rfl,rfl⟩
def rE(K:W.Frag):R2:=fun x y H Q=>∃a b xs ys,x=.ref a/\y=.ref b/\SqT K H a xs/\SqT K H b ys/\xs≠[]/\xs.length+ys.length<=sizeLine/\
 (ys=[]->Q (.ref a) H)/\(ys≠[]->∀p,H p=none->Q (.ref p) (upd H p (.tup (xs++ys))))
theorem Vals.nil_iff{xs:List V}{us:List Value}(r:Vals xs us):us=[]↔xs=[]:=by
 cases r with
 | nil=>simp
 | cons _ _=>simp
theorem op_catT:OpR X (binaryOp .Add) (rE X.K):=by
 intro pins s σ H x y v u Q I rx ry h;obtain⟨a,b,xs,ys,rfl,rfl,ha,hb,hx,hz,q1,q2⟩:=h;cases rx;cases ry;obtain⟨its,r1,p1,_⟩:=I.tuple ha;obtain⟨its2,r2,p2,_⟩:=I.tuple hb;refine HT.cat_tup p1 p2 (fun z=>hx (r1.nil_iff.mp z)) (fun z=>⟨.ref a,H,I,rfl,q1 (r2.nil_iff.mp z)⟩) (fun z=>?_) (by rw[←r1.length,←r2.length];exact hz);refine⟨.ref s.heap.objs.size,_,I.laid (t':=s.toks) (o:=.tup (xs++ys)) (fun b ob q=>zO0 _ q) (zG0 _) ?_,rfl,q2 (fun w=>z (r2.nil_iff.mpr w)) _ (I.hok.fresh (zG0 _))⟩;exact⟨by rw[zL0];exact hz,_,r1.append r2,IsTup.new _ _,_,zV0 _ rfl,rfl⟩
end
def ixN(n:Nat)(i:Int):Option Nat:=if 0<=i then(if i<n then some i.toNat else none)else if -(n:Int)<=i then some (i+n).toNat else none
def atI{α:Type}(xs:List α)(i:Int):Option α:=(ixN xs.length i).bind fun j=>xs[j]?
theorem qB{n:Nat}{i:Int}{j:Nat}(h:ixN n i=some j):seqIndex? i n=some j/\j<n/\-(n:Int)<=i/\i<n:=by
 unfold ixN at h
 by_cases h0:0<=i
 . rw [zF0 h0]at h
   by_cases h1:i<n
   . rw[zF0 h1]at h;have e:i.toNat=j:=zR0 h;exact⟨by rw[seqIndex_of h0 h1,e],by omega,by omega,h1⟩
   . rw[zD0 h1]at h;cases h
 . rw [zD0 h0]at h
   by_cases h1:-(n:Int)<=i
   . rw[zF0 h1]at h;have e:(i+n).toNat=j:=zR0 h;exact⟨by rw[seqIndex_neg (by omega) h1,e],by omega,h1,by omega⟩
   . rw[zD0 h1]at h;cases h
theorem qJ{α:Type}{xs:List α}{i:Int}{v:α}(h:atI xs i=some v):∃j,seqIndex? i xs.length=some j/\xs[j]?=some v/\j<xs.length/\-(xs.length:Int)<=i/\i<xs.length:=by
 unfold atI at h;cases e:ixN xs.length i with
 | none=>rw[e]at h;cases h
 | some j=>
   rw[e]at h;obtain⟨h1,h2,h3,h4⟩:=qB e;exact⟨j,h1,h,h2,h3,h4⟩
theorem cg{α:Type}{xs:List α}{j:Nat}{v:α}(h:xs[j]?=some v):atI xs (j:Int)=some v:=by
 have hj:j<xs.length:=(zW0 h).1;have e:ixN xs.length (j:Int)=some j:=by
  unfold ixN;rw[zF0 (by omega),zF0 (by omega)];simp
 unfold atI;rw[e];exact h
theorem kM{α:Type}(xs:List α)(v:α):atI (xs++[v]) (-1)=some v:=by
 have hl:(xs++[v]).length=xs.length+1:=by simp
 have e:ixN (xs++[v]).length (-1)=some xs.length:=by
  unfold ixN;rw[hl,zD0 (by decide),zF0 (by omega)]
  congr 1
  omega
 unfold atI;rw[e];show(xs++[v])[xs.length]?=some v
 simp
def Bu(b:Expr):Prop:=∀o i,subscripted b false o i=operate [o,i] (getItem o i)
def IxR(X:Cx)(r:R2):Prop:=
 ∀(value slice:Expr)(pins:List (Addr×Obj))(s:Shared)(σ:St)(H:Hp)(x y:V)(v u:Value)(Q:VK),Inv X pins σ H s->RelV x v->RelV y u->r x y H Q ->
  subscripted slice false v u=operate [v,u] (getItem v u)->wpAny (model X.prog X.w) X.A (subscriptTail value slice v u) (EP X pins σ Q) X.xe s
def MtR(X:Cx)(id:String)(r:V->List V->Hp->VK->Prop):Prop:=
 ∀(pins:List (Addr×Obj))(s:Shared)(σ:St)(H:Hp)(x:V)(xs:List V)(v:Value)(us:List Value)(Q:VK),Inv X pins σ H s->RelV x v->Vals xs us->r x xs H Q ->
  wpAny (model X.prog X.w) X.A (call (.builtin id) (v::us)) (EP X pins σ Q) X.xe s
section
variable {X:Cx} {a b:Expr} {ta tb:TE} {pos:Pos}
theorem IxR.or{r r':R2}(h:IxR X r)(h':IxR X r'):IxR X (fun x y H Q=>r x y H Q∨r' x y H Q):=by
 intro value slice pins s σ H x y v u Q I rx ry q hs;rcases q with q | q
 . exact h value slice pins s σ H x y v u Q I rx ry q hs
 . exact h' value slice pins s σ H x y v u Q I rx ry q hs
theorem aq{r:R2}(hr:IxR X r)(ha:PE X a ta)(hb:PE X b tb)(hs:Bu b):PE X (.Subscript a b pos) (tOp r ta tb):=by
 intro pins s σ H Q I h;exact Subscript_ (DI ha hb I h fun v u s2 x y H2 I2 rx ry q=>hr a b pins s2 σ H2 x y v u Q I2 rx ry q (hs _ _))
def AD(K:W.Frag):R2:=fun x y H Q=>∃p xs i v,x=.ref p/\y=.int i/\SqL K H p xs/\atI xs i=some v/\Q v H
def AC(K:W.Frag):R2:=fun x y H Q=>∃p xs i v,x=.ref p/\y=.int i/\SqT K H p xs/\atI xs i=some v/\Q v H
def rIxS:R2:=fun x y H Q=>∃z i c,x=.str z/\y=.int i/\z.length<=sizeLine/\atI z.cps.toList i=some c/\Q (.str ⟨#[c]⟩) H
theorem ix_list:IxR X (AD X.K):=by
 intro value slice pins s σ H x y v u Q I rx ry h hs;obtain⟨p,xs,i,z,rfl,rfl,hq,he,q⟩:=h;cases rx;obtain⟨t,rfl⟩:=ry;obtain⟨its,r,pl,hz⟩:=I.list hq;obtain⟨j,h1,h2,h3,h4,h5⟩:=qJ he;obtain⟨w,ew,rw'⟩:=r.get h2;have hl:=r.length;have hn:=iK;have fin:EP X pins σ Q w s:=⟨z,H,I,rw',q⟩
 by_cases h0:0<=i
 . have hj:i.toNat=j:=by
    rw[seqIndex_of h0 h5]at h1;exact zR0 h1
   exact item_listR pl.isList h0 (by omega) (by rw[hj];simpa using ew) fin hs
 . have hj:(i+(its.toArray.size:Int)).toNat=j:=by
    rw[seqIndex_neg (by omega) h4]at h1;rw[zP0,←hl];exact zR0 h1
   exact subscriptTail_builtinR (x:=w) pl.isList.typeIs slot_list_getitem.lookup
    (wpAny_getItem_list_neg (Q:=fun r s'=>r=w/\EP X pins σ Q r s') pl.isList (by omega) (by rw[zP0] <;> omega) (by omega) (by rw[hj];simpa using ew) ⟨rfl,fin⟩) hs
theorem aC:IxR X (AC X.K):=by
 intro value slice pins s σ H x y v u Q I rx ry h hs;obtain⟨p,xs,i,z,rfl,rfl,hq,he,q⟩:=h;cases rx;obtain⟨t,rfl⟩:=ry;obtain⟨its,r,pl,hz⟩:=I.tuple hq;obtain⟨j,h1,h2,h3,h4,h5⟩:=qJ he;obtain⟨w,ew,rw'⟩:=r.get h2;have hl:=r.length;have hn:=iK;have fin:EP X pins σ Q w s:=⟨z,H,I,rw',q⟩
 exact subscriptTail_builtinR (x:=w) pl.typeIs slot_tuple_getitem.lookup
  (getItem_tuple (j:=j) (Q:=fun r s'=>r=w/\EP X pins σ Q r s') pl (by omega) (by omega) (by rw[zP0,←hl];exact h1) (by simpa using ew) ⟨rfl,fin⟩) hs
theorem uE:IxR X rIxS:=by
 intro value slice pins s σ H x y v u Q I rx ry h hs;obtain⟨z,i,c,rfl,rfl,hz,he,q⟩:=h;obtain⟨t,rfl⟩:=rx;obtain⟨t',rfl⟩:=ry;obtain⟨j,h1,h2,h3,h4,h5⟩:=qJ he;have hl:z.cps.toList.length=z.length:=by simp [Str.length]
 rw [hl]at h1 h4 h5;have hn:=iK;exact tail_any (typeIs_str s z t) slot_str_getitem.lookup (getItem_str (c:=c) (by
  have e1:decide (i < -(2 ^ 63:Int))=false:=decide_eq_false (by omega);have e2:decide (i≥2 ^ 63)=false:=decide_eq_false (by omega);rw[e1,e2,Bool.or_false]) (by rw[h1];simpa using h2) ⟨.str ⟨#[c]⟩,H,I.tok _,⟨_,rfl⟩,q⟩) hs
theorem ux (its:List Value) (n j:Nat) (u:Value):Obj.mapSeq (·.setIfInBounds j u) { cls:=.type "list",data:=.seq its.toArray n }={ cls:=.type "list",data:=.seq (its.set j u).toArray n }:=by
 simp [Obj.mapSeq]
theorem Inv.lst{pins:List (Addr×Obj)}{σ:St}{H:Hp}{s:Shared}{p:Addr}{xs:List V}(I:Inv X pins σ H s)(h:H p=some (.lst xs)) :
 ∃(its:List Value) (n:Nat),Vals xs its/\s.heap.get? p=some { cls:=.type "list",data:=.seq its.toArray n }/\xs.length<=sizeLine:=by
 obtain⟨z,its,n,r,e⟩:=I.hok p _ h;exact⟨its,n,r,e,z⟩
theorem Inv.lstUpd{pins:List (Addr×Obj)}{σ:St}{H:Hp}{s:Shared}{p:Addr}{xs ys:List V}{its its':List Value}{n n':Nat}{f:Obj->Obj}(I:Inv X pins σ H s)(h:H p=some (.lst xs))
 (ho:s.heap.get? p=some { cls:=.type "list",data:=.seq its.toArray n }) (hf:f { cls:=.type "list",data:=.seq its.toArray n }={ cls:=.type "list",data:=.seq its'.toArray n' }) (r:Vals ys its') (hz:ys.length<=sizeLine) (t:Nat) :
 Inv X pins σ (upd H p (.lst ys)) { s with heap:=s.heap.update p f,toks:=t }:=by
 have e:(s.heap.update p f).get? p=some { cls:=.type "list",data:=.seq its'.toArray n' }:=by
  rw[Heap.get?_update_self f ho (by rw[hf] <;> rfl),hf]
 refine I.write (x:=p) (e:=p) (by rw[h];trivial) (.inl rfl) (fun b u hb q=>(Heap.get?_update_other _ _ (Ne.symm hb)).trans q) ⟨_,e⟩ ?_;exact⟨hz,its',n',r,e⟩
def rSetL:V->V->V->Hp->(Hp->Prop)->Prop:=fun o i v H Q=>∃p xs k j,o=.ref p/\i=.int k/\H p=some (.lst xs)/\ixN xs.length k=some j/\Q (upd H p (.lst (xs.set j v)))
theorem kg:PSet X rSetL:=by
 intro pins s σ H o i v ov iv u Q I ro ri rv h;obtain⟨p,xs,k,j,rfl,rfl,hp,hj,q⟩:=h;cases ro;obtain⟨t,rfl⟩:=ri;obtain⟨its,n,r,ho,hz⟩:=I.lst hp;obtain⟨h1,h2,h3,h4⟩:=qB hj;have hl:=r.length;have hn:=iK;have I':Inv X pins σ (upd H p (.lst (xs.set j v))) { s with heap:=s.heap.update p (Obj.mapSeq (·.setIfInBounds j u)) }:=
  I.lstUpd hp ho (ux its n j u) (r.set rv j) (by rw[List.length_set];exact hz) s.toks
 by_cases h0:0<=k
 . have hk:k.toNat=j:=by
    rw[seqIndex_of h0 h4]at h1;exact zR0 h1
   exact PySem.W.ki_setAt ho h0 (by omega) (by rw[zP0,←hl];exact h4) (by rw[hk];exact⟨_,I',q⟩)
 . have hk:(k+(its.toArray.size:Int)).toNat=j:=by
    rw[seqIndex_neg (by omega) h3]at h1;rw[zP0,←hl];exact zR0 h1
   exact PySem.W.ki_setBack ho (by omega) (by rw[zP0,←hl];exact h3) (by omega) (by rw[hk];exact⟨_,I',q⟩)
theorem pX(lo hi:Option Int)(n:Nat):(sliceBounds lo hi none n).1=((HT.sIx n 0 lo:Nat):Int)/\(sliceBounds lo hi none n).2.1=((HT.sIx n n hi:Nat):Int)/\(sliceBounds lo hi none n).2.2=1:=by
 refine⟨?_,?_,rfl⟩
 . cases lo with
   | none=>simp [sliceBounds,HT.sIx]
   | some i=>
     simp only[sliceBounds,HT.sIx,Option.getD_none,show(1:Int)>0 by decide,if_true]
     by_cases h:i<0
     . simp only[h,if_true] <;> omega
     . simp only[h,if_false] <;> omega
 . cases hi with
   | none=>simp [sliceBounds,HT.sIx]
   | some i=>
     simp only[sliceBounds,HT.sIx,Option.getD_none,show(1:Int)>0 by decide,if_true]
     by_cases h:i<0
     . simp only[h,if_true] <;> omega
     . simp only[h,if_false] <;> omega
theorem oC(its:List Value)(lo hi:Option Int):slicePick its.toArray lo hi none=((its.drop (HT.sIx its.length 0 lo)).take (HT.sIx its.length its.length hi-HT.sIx its.length 0 lo)).toArray:=by
 obtain⟨h1,h2,h3⟩:=pX lo hi its.toArray.size;unfold slicePick;rw[h1,h2,h3];simp only[sliceRange_one,pick_run,zP0] <;> rfl
def rSlL(K:W.Frag):V->Option Int->Option Int->Hp->VK->Prop:=fun x lo hi H Q=>∃a xs,x=.ref a/\SqL K H a xs/\∀p,H p=none->Q (.ref p) (upd H p (.lst (jM xs lo hi)))
theorem Ax:SlR X (rSlL X.K):=by
 intro pins s σ H x v vl vu lo hi sl Q I rx hs pl pu h;obtain⟨a,xs,rfl,hx,q⟩:=h;cases rx;obtain⟨its,r,ht,hz⟩:=I.list hx;have hlen:=r.length;refine⟨"list",_,slot_list_getitem.lookup,ht.isList.typeIs,?_⟩;refine wpAny_getItem_list_slice ht.isList hs pl pu .none (by simp) ?_ (by rw[zP0] <;> omega);rw[oC,←hlen];refine⟨.ref s.heap.objs.size,_,I.laid (t':=s.toks) (o:=.lst (jM xs lo hi)) (fun b ob q=>zO0 _ q) (zG0 _) ?_,rfl,q _ (I.hok.fresh (zG0 _))⟩;exact⟨zZ0 (lU xs lo hi) hz,_,0,(r.drop (HT.sIx xs.length 0 lo)).take (HT.sIx xs.length xs.length hi-HT.sIx xs.length 0 lo),zV0 _ rfl⟩
def iR:V->Bool
 | .non=>true
 | .bl _=>true
 | .int _=>true
 | .str _=>true
 | _=>false
def eqV:V->V->Bool
 | .non,.non=>true
 | .bl a,.bl b=>a==b
 | .bl a,.int b=>(if a then 1 else 0)==b
 | .int a,.bl b=>a==(if b then 1 else 0)
 | .int a,.int b=>a==b
 | .str a,.str b=>a==b
 | _,_=>false
theorem DA{A:Around}{s:Shared}{y x:V}{u v:Value}(ry:RelV y u)(rx:RelV x v)(fy:iR y=true)(fx:iR x=true):SeqAt.EqAt A s u v (eqV y x):=by
 cases y with
 | non=>
   cases ry;cases x with
   | non=>cases rx;exact SeqAt.EqAt.same _
   | bl b=>cases rx;exact SeqAt.EqAt.none_bool b
   | int b=>obtain⟨t,rfl⟩:=rx;exact SeqAt.EqAt.none_int b t
   | str b=>obtain⟨t,rfl⟩:=rx;exact SeqAt.EqAt.none_str b t
   | _=>exact absurd (show false=true from fx) zY0
 | bl a=>
   cases ry;cases x with
   | non=>cases rx;exact SeqAt.EqAt.bool_none a
   | bl b=>cases rx;exact SeqAt.EqAt.bool_bool a b
   | int b=>obtain⟨t,rfl⟩:=rx;exact SeqAt.EqAt.bool_int a b t
   | str b=>obtain⟨t,rfl⟩:=rx;exact SeqAt.EqAt.bool_str a b t
   | _=>exact absurd (show false=true from fx) zY0
 | int a=>
   obtain⟨t',rfl⟩:=ry;cases x with
   | non=>cases rx;exact SeqAt.EqAt.int_none a t'
   | bl b=>cases rx;exact SeqAt.EqAt.int_bool a t' b
   | int b=>obtain⟨t,rfl⟩:=rx;exact SeqAt.EqAt.int_int a t' b t
   | str b=>obtain⟨t,rfl⟩:=rx;exact SeqAt.EqAt.int_str a t' b t
   | _=>exact absurd (show false=true from fx) zY0
 | str a=>
   obtain⟨t',rfl⟩:=ry;cases x with
   | non=>cases rx;exact SeqAt.EqAt.str_none a t'
   | bl b=>cases rx;exact SeqAt.EqAt.str_bool a t' b
   | int b=>obtain⟨t,rfl⟩:=rx;exact SeqAt.EqAt.str_int a t' b t
   | str b=>obtain⟨t,rfl⟩:=rx;exact SeqAt.EqAt.str_str a t' b t
   | _=>exact absurd (show false=true from fx) zY0
 | _=>exact absurd (show false=true from fy) zY0
def eqU(x:V)(u:Value):Bool:=match u with
 | .none=>eqV .non x
 | .bool b=>eqV (.bl b) x
 | .int i _=>eqV (.int i) x
 | .str z _=>eqV (.str z) x
 | _=>false
theorem uI{x y:V}{u:Value}(r:RelV y u)(f:iR y=true):eqU x u=eqV y x:=by
 cases y with
 | non=>cases r;rfl
 | bl b=>cases r;rfl
 | int i=>obtain⟨t,rfl⟩:=r;rfl
 | str z=>obtain⟨t,rfl⟩:=r;rfl
 | _=>exact absurd (show false=true from f) zY0
theorem kN{x:V}:∀{xs:List V}{us:List Value},Vals xs us->xs.all iR=true->us.any (eqU x)=xs.any fun y=>eqV y x
 | _,_,.nil,_=>rfl
 | y::xs,u::us,.cons r t,f=>by
   rw[List.all_cons,Bool.and_eq_true]at f;rw[List.any_cons,List.any_cons,uI r f.1,kN t f.2]
theorem fK{A:Around}{s:Shared}{x:V}{v:Value}(rx:RelV x v)(fx:iR x=true):∀{xs:List V}{us:List Value},Vals xs us->xs.all iR=true->∀u∈us,SeqAt.EqAt A s u v (eqU x u)
 | _,_,.nil,_=>fun u hu=>by cases hu
 | y::xs,u::us,.cons r t,f=>fun u' hu=>by
   rw[List.all_cons,Bool.and_eq_true]at f;rcases qC0 hu with rfl | hu
   . rw[uI r f.1];exact DA r rx f.1 fx
   . exact fK rx fx t f.2 u' hu
def inV(x:V)(xs:List V):Bool:=xs.any fun y=>eqV y x
def rIn(K:W.Frag)(neg:Bool):R2:=fun x y H Q=>∃p xs,y=.ref p/\(SqL K H p xs∨SqT K H p xs)/\iR x=true/\xs.all iR=true/\Q (.bl (if neg then !inV x xs else inV x xs)) H
theorem iy:OpR X (compareOp .In) (rIn X.K false):=by
 intro pins s σ H x y v u Q I rx ry h;obtain⟨p,xs,rfl,hq,fx,fs,q⟩:=h;cases ry;rcases hq with hq | hq
 . obtain⟨its,r,pl,hz⟩:=I.list hq;refine SeqAt.in_listAt (eqU x) pl.isList (fun w hw=>fK rx fx r fs w (by simpa using hw)) ⟨.bl _,H,I,rfl,?_⟩;rw[show its.toArray.any (eqU x)=its.any (eqU x) by simp,kN r fs];exact q
 . obtain⟨its,r,pl,hz⟩:=I.tuple hq;refine SeqAt.in_tupleAt (eqU x) pl (fun w hw=>fK rx fx r fs w (by simpa using hw)) ⟨.bl _,H,I,rfl,?_⟩;rw[show its.toArray.any (eqU x)=its.any (eqU x) by simp,kN r fs];exact q
theorem qo:OpR X (compareOp .NotIn) (rIn X.K true):=by
 intro pins s σ H x y v u Q I rx ry h;obtain⟨p,xs,rfl,hq,fx,fs,q⟩:=h;cases ry;rcases hq with hq | hq
 . obtain⟨its,r,pl,hz⟩:=I.list hq;refine SeqAt.notIn_listAt (eqU x) pl.isList (fun w hw=>fK rx fx r fs w (by simpa using hw)) ⟨.bl _,H,I,rfl,?_⟩;rw[show its.toArray.any (eqU x)=its.any (eqU x) by simp,kN r fs];exact q
 . obtain⟨its,r,pl,hz⟩:=I.tuple hq;refine SeqAt.notIn_tupleAt (eqU x) pl (fun w hw=>fK rx fx r fs w (by simpa using hw)) ⟨.bl _,H,I,rfl,?_⟩;rw[show its.toArray.any (eqU x)=its.any (eqU x) by simp,kN r fs];exact q
theorem aB:iC X (.builtin "len") (fun xs H Q=>∃p ys,xs=[.ref p]/\(SqL X.K H p ys∨SqT X.K H p ys)/\Q (.int ys.length) H):=by
 intro pins s σ H xs us Q I r h;obtain⟨p,ys,rfl,hq,q⟩:=h;obtain⟨u,rfl,rx⟩:=lE r;cases rx;have hn:=iK;rcases hq with hq | hq
 . obtain⟨its,r',pl,hz⟩:=I.list hq;have hlen:=r'.length;exact Calls.call_len_list pl.isList (by simp only[zP0] <;> omega) ⟨.int ys.length,H,I.tok _,⟨s.toks+1,by rw[zP0,hlen]⟩,q⟩
 . obtain⟨its,r',pl,hz⟩:=I.tuple hq;have hlen:=r'.length;exact len_tuple pl (by simp only[zP0] <;> omega) ⟨.int ys.length,H,I.tok _,⟨s.toks+1,by rw[zP0,hlen]⟩,q⟩
theorem qI:iC X (.builtin "len") (fun xs H Q=>∃z,xs=[.str z]/\z.length<=sizeLine/\Q (.int z.length) H):=by
 intro pins s σ H xs us Q I r h;obtain⟨z,rfl,hz,q⟩:=h;obtain⟨u,rfl,t,rfl⟩:=lE r;have hn:=iK;exact len_str (by omega) ⟨.int z.length,H,I.tok _,⟨_,rfl⟩,q⟩
theorem iM:iC X (.type "list") (fun xs H Q=>∃p ys,xs=[.ref p]/\(SqL X.K H p ys∨SqT X.K H p ys)/\∀l,H l=none->Q (.ref l) (upd H l (.lst ys))):=by
 intro pins s σ H xs us Q I r h;obtain⟨p,ys,rfl,hq,q⟩:=h;obtain⟨u,rfl,rx⟩:=lE r;cases rx;have fin:∀(its:List Value),Vals ys its->ys.length<=sizeLine->∀(h':Heap)(c':Nat),(∀b o',s.heap.get? b=some o'->h'.get? b=some o') ->
  h'.get? s.heap.objs.size=some { cls:=.type "list",dict:=none,data:=.seq its.toArray c',slots:=#[] }->EP X pins σ Q (.ref s.heap.objs.size) { s with heap:=h' }:=fun its r' hz h' c' kp e=>
  ⟨.ref s.heap.objs.size,_,I.laid (t':=s.toks) kp (zG0 _) (show ObjOk X.prog X.w _ h' _ (.lst ys)from⟨hz,its,c',r',e⟩),rfl,q _ (I.hok.fresh (zG0 _))⟩
 rcases hq with hq | hq
 . obtain⟨its,r',pl,hz⟩:=I.list hq;have hlen:=r'.length;obtain⟨o,ho,hc,n,hd⟩:=pl.isList;exact call_list_seq p (.inl rfl) ho hc hd (fun h' c' kp e=>fin its r' hz h' c' kp e) (by simp only[zP0] <;> omega)
 . obtain⟨its,r',pl,hz⟩:=I.tuple hq;have hlen:=r'.length;obtain⟨o,ho,hc,n,hd⟩:=pl;exact call_list_seq p (.inr rfl) ho hc hd (fun h' c' kp e=>fin its r' hz h' c' kp e) (by simp only[zP0] <;> omega)
theorem bw:iC X (.type "tuple") (fun xs H Q=>∃p ys,xs=[.ref p]/\((SqL X.K H p ys/\∀l,H l=none->Q (.ref l) (upd H l (.tup ys)))∨(SqT X.K H p ys/\Q (.ref p) H))):=by
 intro pins s σ H xs us Q I r h;obtain⟨p,ys,rfl,h⟩:=h;obtain⟨u,rfl,rx⟩:=lE r;cases rx;rcases h with⟨hq,q⟩ | ⟨hq,q⟩
 . obtain ⟨its,r',pl,hz⟩:=I.list hq;have hlen:=r'.length;refine call_tuple_list pl.isList (fun h' kp=>?_) (by simp only[zP0] <;> omega);have I1:Inv X pins σ H { s with heap:=h' }:=I.kept (t':=s.toks) kp;have I2:Inv X pins σ (upd H h'.objs.size (.tup ys)) { s with heap:=h'.push { cls:=.type "tuple",data:=.seq its.toArray } }:=
    I1.laid (t':=s.toks) (fun b o e=>zO0 _ e) (zG0 _) (show ObjOk X.prog X.w _ _ _ (.tup ys)from⟨hz,its,r',IsTup.new _ _,_,zV0 _ rfl,rfl⟩)
   exact⟨.ref h'.objs.size,_,I2,rfl,q _ (I1.hok.fresh (zG0 _))⟩
 . obtain⟨its,r',pl,hz⟩:=I.tuple hq;exact call_tuple_same pl ⟨.ref p,H,I,rfl,q⟩
def tyV(K:W.Frag)(T:String)(x:V)(H:Hp):Prop:=match x with
 | .str _=>T="str"
 | .int _=>T="int"
 | .ref p=>(T="list"/\∃xs,SqL K H p xs)∨(T="tuple"/\∃o,K.lookup p=some o/\o.cls=.type "tuple"/\o.dict=none)∨
  (T="dict"/\((∃kvs,H p=some (.dK kvs))∨∃kvs,H p=some (.dT kvs)))∨(T="set"/\∃S n,H p=some (.set S n))
 | _=>False
theorem Cj{pins:List (Addr×Obj)}{σ:St}{H:Hp}{s:Shared}{T:String}{x:V}{v:Value}(I:Inv X pins σ H s)(r:RelV x v)(ty:tyV X.K T x H) :
 s.TypeIs v T/\∀a,v=.ref a->∃ob,s.heap.get? a=some ob/\ob.dict=none:=by
 cases x with
 | str z=>
   obtain⟨t,rfl⟩:=r;cases(show T="str" from ty);exact⟨typeIs_str s z t,fun _ e=>nomatch e⟩
 | int i=>
   obtain⟨t,rfl⟩:=r;cases(show T="int" from ty);exact⟨typeIs_int s i t,fun _ e=>nomatch e⟩
 | ref p=>
   cases r;rcases ty with⟨rfl,xs,hq⟩ | ⟨rfl,o,hk,hc,hd⟩ | ⟨rfl,hk⟩ | ⟨rfl,S,n,hk⟩
   . obtain⟨its,_,pl,_⟩:=I.list hq;refine⟨pl.isList.typeIs,fun a e=>?_⟩;cases e;obtain⟨o,n,e,c,hd,_⟩:=pl;exact⟨o,e,hd⟩
   . refine⟨⟨o,I.kIn p o hk,hc⟩,fun a e=>?_⟩;cases e;exact⟨o,I.kIn _ o hk,hd⟩
   . have z:∃o,s.heap.get? p=some o/\o.ExactDict:=by
      rcases hk with⟨kvs,hk⟩ | ⟨kvs,hk⟩
      . obtain⟨_,_,_,_,o,_,_,e,ex,_⟩:=I.hok p _ hk;exact⟨o,e,ex⟩
      . obtain⟨_,_,_,_,o,_,_,e,ex,_⟩:=I.hok p _ hk;exact⟨o,e,ex⟩
     obtain⟨o,e,ex⟩:=z;refine⟨⟨o,e,ex.1⟩,fun a e2=>?_⟩;cases e2;exact⟨o,e,ex.2.1⟩
   . obtain⟨o,_,_,_,e,ex,_⟩:=I.hok p _ hk;refine⟨⟨o,e,ex.1⟩,fun a e2=>?_⟩;cases e2;exact⟨o,e,ex.2.1⟩
 | _=>exact False.elim ty
def tBM(K:W.Frag)(T:String)(r:V->List V->Hp->VK->Prop)(to:TE)(t:TA):TE:=fun σ H Q=>to σ H fun x H1=>tyV K T x H1/\t σ H1 fun xs H2=>r x xs H2 Q
variable {o e:Expr} {es:List Expr} {to:TE} {t:TA} {name:Str} {apos cpos:Pos} {T id:String} {r:V->List V->Hp->VK->Prop}
theorem dW (pa:PlainAttrs T) (slot:Slot T name id) (hty:typeOf (.builtin id)=pure (.type "method_descriptor")) (hm:MtR X id r) (ho:PE X o to) (ha:PA X (e::es) t)
 (hbase:attributeBase o name X.env (eval o X.env)=eval o X.env:=by rfl)
 (hfew:((backTo cpos (starEach (e::es) X.env)).all (fun x=>!x.1)&&(backToKw cpos (keywordEach [] X.env)).all (fun x=>x.1.isSome)
  &&decide ((e::es).length+([]:List Keyword).length+(if([]:List Keyword).isEmpty then 0 else 1)<30))=true:=by rfl)
 (hline:(apos.endLine==cpos.line)=true:=by rfl) (hs:starEach (e::es) X.env=(false,eval e X.env)::starEach es X.env:=by rfl) (hplain:(backTo cpos (starEach es X.env)).any (·.1)=false:=by rfl) :
 PE X (.Call (.Attribute o name apos) (e::es) [] cpos) (tBM X.K T r to t):=by
 intro pins s σ H Q I h;refine wpAny_Call_method_late hbase hfew hline rfl (thn (ho pins s σ H _ I h) fun v s1 ⟨x,H1,I1,r1,ty,q1⟩=>?_);obtain⟨h1,h2⟩:=Cj I1 r1 ty;refine⟨T,id,pa,slot,hty,h1,h2,?_⟩;have hA:=ha cpos pins s1 σ H1 _ I1 q1;rw[hs]at hA ⊢;refine Calls.callWith_builtin (by show(false||(backTo cpos (starEach es X.env)).any (·.1))=false;rw[hplain] <;> rfl) (Calls.evalArgs_plain ?_);exact thn hA fun us s2 ⟨vs,H2,I2,r2,q2⟩=>hm pins s2 σ H2 x vs v us Q I2 r1 r2 q2
/- xs.append(e),list.index on a module's tuple .. are MtR facts of 06m -/
end
def MtM(X:Cx)(id:String)(r:V->List V->Hp->VK->Prop):Prop:=
 ∀(pins:List (Addr×Obj))(s:Shared)(σ:St)(H:Hp)(x:V)(xs:List V)(v:Value)(us:List Value)(Q:VK),Inv X pins σ H s->RelV x v->Vals xs us->r x xs H Q ->
  wpAny (model X.prog X.w) X.A (call (.builtin id) (v::us)) (EP X pins σ Q) X.xe s
theorem Vals.one:∀{x:V}{us:List Value},Vals [x] us->∃u,us=[u]/\RelV x u
 | _,_,.cons r .nil=>⟨_,rfl,r⟩
theorem Vals.reverse{xs:List V}{us:List Value}(h:Vals xs us):Vals xs.reverse us.reverse:=by
 induction h with
 | nil=>exact .nil
 | cons r t ih=>rw[List.reverse_cons,List.reverse_cons];exact Vals.append ih (.cons r .nil)
theorem Vals.rep{xs:List V}{us:List Value}(h:Vals xs us):∀k:Nat,Vals (List.replicate k xs).flatten (List.replicate k us).flatten
 | 0=>.nil
 | k+1=>by
   rw[List.replicate_succ,List.replicate_succ,List.flatten_cons,List.flatten_cons];exact Vals.append h (Vals.rep h k)
theorem pD(its:List Value):∀(k:Nat)(acc:List Value),
 List.foldl (fun x1 x2=>x1++x2) acc.toArray (List.replicate k its.toArray)=(acc++(List.replicate k its).flatten).toArray
 | 0,acc=>by simp
 | k+1,acc=>by
   have e:acc.toArray++its.toArray=(acc++its).toArray:=by simp
   have e2:(acc++its)++(List.replicate k its).flatten=acc++(List.replicate (k+1) its).flatten:=by
    rw[List.replicate_succ,List.flatten_cons,List.append_assoc]
   rw[←e2,←pD its k (acc++its),←e,List.replicate_succ,List.foldl_cons]
section
variable {X:Cx} {pins:List (Addr×Obj)} {σ:St} {H:Hp} {s:Shared} {l b:Addr} {xs ys zs:List V}
theorem Inv.lset{its its':List Value}{n:Nat}{f:Array Value->Array Value}{t':Nat}(I:Inv X pins σ H s)(hH:H l=some (.lst xs))
 (e:s.heap.get? l=some { cls:=.type "list",data:=.seq its.toArray n }) (hf:f its.toArray=its'.toArray) (hv:Vals ys its') (hz:ys.length<=sizeLine) :
 Inv X pins σ (upd H l (.lst ys)) { s with heap:=s.heap.update l (Obj.mapSeq f),toks:=t' }:=by
 have q:=PySem.IsL.update e f;rw[hf]at q;refine I.write (x:=l) (e:=l) (by rw[hH];exact trivial) (.inl rfl) (fun b' u hb hu=>(Heap.get?_update_other s.heap (Obj.mapSeq f) (Ne.symm hb)).trans hu) ⟨_,q⟩ ?_;exact⟨hz,its',_,hv,q⟩
theorem Inv.lnew{its:List Value}{t':Nat}(I:Inv X pins σ H s)(hv:Vals ys its)(hz:ys.length<=sizeLine) :
 Inv X pins σ (upd H s.heap.objs.size (.lst ys)) { s with heap:=s.heap.push { cls:=.type "list",data:=.seq its.toArray },toks:=t' }:=
 I.laid (fun _ _ q=>zO0 _ q) (zG0 _) ⟨hz,its,0,hv,zV0 _ rfl⟩
theorem Inv.fresh(I:Inv X pins σ H s):H s.heap.objs.size=none:=I.hok.fresh (zG0 _)
theorem Inv.lstM (I:Inv X pins σ H s) (hH:H l=some (.lst xs)):xs.length<=sizeLine/\∃(its:List Value) (n:Nat),Vals xs its/\xs.length=its.length/\s.heap.get? l=some { cls:=.type "list",data:=.seq its.toArray n }:=by
 obtain⟨z,its,n,r,e⟩:=I.hok l _ hH;exact⟨z,its,n,r,r.length,e⟩
theorem rV{n:Nat}(h:n<=sizeLine):Builtin.List.listTooLong n=false:=by
 unfold Builtin.List.listTooLong;exact decide_eq_false (by omega)
end
section
variable {X:Cx}
def AI:V->List V->Hp->VK->Prop:=fun x vs H Q=>∃l xs y,x=.ref l/\vs=[y]/\H l=some (.lst xs)/\xs.length<sizeLine/\Q .non (upd H l (.lst (xs++[y])))
theorem bu:MtM X "list.append" AI:=by
 intro pins s σ H x vs v us Q I rx rv h;obtain⟨l,xs,y,rfl,rfl,hH,hz,q⟩:=h;cases rx;obtain⟨u,rfl,ru⟩:=rv.one;obtain⟨z,its,n,r,hl,e⟩:=I.lstM hH;refine call_meets F.slot_list_append ⟨_,e,rfl⟩ F.entry_list_append (F.args_list_append_2 _ _) (PySem.list_append l its.toArray n u (by rw[zP0];omega)) ⟨e,?_⟩;refine⟨.non,_,I.lset (its':=its++[u]) hH e (by simp) (r.append (.cons ru .nil)) ?_,rfl,q⟩;rw[zL0,qQ0];omega
def AH:V->List V->Hp->VK->Prop:=fun x vs H Q=>∃l b xs zs,x=.ref l/\vs=[.ref b]/\H l=some (.lst xs)/\H b=some (.lst zs)/\xs.length+zs.length<=sizeLine/\Q .non (upd H l (.lst (xs++zs)))
theorem wN:MtM X "list.extend" AH:=by
 intro pins s σ H x vs v us Q I rx rv h;obtain⟨l,b,xs,zs,rfl,rfl,hH,hB,hz,q⟩:=h;cases rx;obtain⟨u,rfl,ru⟩:=rv.one;cases ru;obtain⟨z,its,n,r,hl,e⟩:=I.lstM hH;obtain⟨z2,its2,n2,r2,hl2,e2⟩:=I.lstM hB;have hsz:its.toArray.size+its2.toArray.size<=sizeLine:=by rw[zP0,zP0];omega
 have hlong:¬ (!its.toArray.isEmpty&&Builtin.List.listTooLong (its.toArray.size+its2.toArray.size))=true:=by
  rw[rV hsz,Bool.and_false];exact zY0
 refine call_meets F.slot_list_extend ⟨_,e,rfl⟩ F.entry_list_extend (F.args_list_extend_2 _ _)
  (AutoSeq1.list_extend_list_list_0 l its.toArray n b its2.toArray n2 hlong (by rw[zP0];omega) (by omega)) ⟨e,e2,?_⟩
 refine⟨.non,_,I.lset (its':=its++its2) hH e (by simp) (r.append r2) ?_,rfl,q⟩;rw[zL0];omega
def rCat:R2:=fun x y H Q=>∃l b xs zs,x=.ref l/\y=.ref b/\H l=some (.lst xs)/\H b=some (.lst zs)/\xs.length+zs.length<=sizeLine/\∀p,H p=none->Q (.ref p) (upd H p (.lst (xs++zs)))
theorem fX:OpR X (binaryOp .Add) rCat:=by
 intro pins s σ H x y v u Q I rx ry h;obtain⟨l,b,xs,zs,rfl,rfl,hH,hB,hz,q⟩:=h;cases rx;cases ry;obtain⟨z,its,n,r,hl,e⟩:=I.lstM hH;obtain⟨z2,its2,n2,r2,hl2,e2⟩:=I.lstM hB;refine PySem.P.add_list e e2 ?_ (by rw[zP0,zP0];omega);have ea:its.toArray++its2.toArray=(its++its2).toArray:=by simp
 rw[ea];exact⟨.ref _,_,I.lnew (t':=s.toks) (r.append r2) (by rw[zL0];omega),rfl,q _ I.fresh⟩
def rRep:R2:=fun x y H Q=>∃l k xs,x=.ref l/\y=.int k/\H l=some (.lst xs)/\-(2 ^ 63)<=k/\k<2 ^ 63/\xs.length*k.toNat<=sizeLine/\
 ∀p,H p=none->Q (.ref p) (upd H p (.lst (List.replicate k.toNat xs).flatten))
theorem Be{α:Type}(xs:List α)(k:Nat):(List.replicate k xs).flatten.length=k*xs.length:=by
 induction k with
 | zero=>simp
 | succ k ih=>rw[List.replicate_succ,List.flatten_cons,zL0,ih,Nat.succ_mul,Nat.add_comm]
theorem yR:OpR X (binaryOp .Mult) rRep:=by
 intro pins s σ H x y v u Q I rx ry h;obtain⟨l,k,xs,rfl,rfl,hH,h1,h2,hz,q⟩:=h;cases rx;obtain⟨t,rfl⟩:=ry;obtain⟨z,its,n,r,hl,e⟩:=I.lstM hH;have hlen:its.toArray.size*k.toNat<=sizeLine:=by rw[zP0,←hl];exact hz
 have hcap:¬ its.toArray.size*k.toNat>(2 ^ 63-1) / 8:=by
  have:(sizeLine:Nat)<=(2 ^ 63-1) / 8:=by decide
  omega
 have hfit:¬ (!Builtin.List.listFitsIndex k)=true:=by
  rw[fitsIndex_both h1 h2];exact zY0
 have hlong:¬ Builtin.List.listTooLong (its.toArray.size*k.toNat)=true:=by
  rw[rV hlen];exact zY0
 have hnew:List.foldl (fun x1 x2=>x1++x2) #[] (List.replicate (if its.toArray.isEmpty=true then 0 else k.toNat) its.toArray)=(List.replicate k.toNat its).flatten.toArray:=by
  have f0:∀m:Nat,List.foldl (fun x1 x2=>x1++x2) #[] (List.replicate m its.toArray)=(List.replicate m its).flatten.toArray:=fun m=>by
   have:=pD its m []
   rw[List.nil_append]at this;exact this
  rw[f0];cases its with
  | nil=>simp
  | cons a r'=>rw[zD0 (by simp)]
 refine wpAny_binaryOp_repeat_ref (T:="list") (U:="int") (by decide) ⟨_,e,rfl⟩ (fun s'=>typeIs_int s' k t) noFill_list_mul F.fills_int_mul F.slot_int_rmul repeat_list F.slot_int_index.lookup
  (call_meets F.slot_int_rmul (typeIs_int s k t) F.entry_int_rmul (F.args_int_rmul_2 _ _) (int___rmul___int_list k t l its.toArray n)
   ⟨e,rfl,⟨_,e,rfl⟩,call_meets F.slot_list_mul ⟨_,e,rfl⟩ F.entry_list_mul (F.args_list_mul_2 _ _) (AutoListH.list___mul___list_int_3 l its.toArray n k t hfit hcap hlong) ⟨e,?_⟩⟩)
 rw[hnew];exact⟨.ref _,_,I.lnew (t':=s.toks) (r.rep k.toNat) (by rw[Be,Nat.mul_comm];exact hz),rfl,q _ I.fresh⟩
end
end L2
namespace Att
open PySem PySem.W PySem.Calls PyProof.Rows
theorem mh{P:Params}{h:Heap}:∀(ns:List Int)(vs:List Value),WellAll P h vs (ns.map WData.int)->IntsAre vs ns:=by
 intro ns
 induction ns with
 | nil=>
   intro vs w;rw[List.map_nil]at w;cases w;exact .nil
 | cons n ns ih=>
   intro vs w;rw[qA0]at w;cases w with
   | cons a b=>
     cases a;exact .cons _ _ (ih _ b)
theorem vY{l:OpenLaw}{n:Nat}(hn:l.most=some n){P:Params}{h:Heap}{args:List WData}{vals:List Value}
 (hpre:l.row.toRowW.claim.pre args=true) (hwl:WellAll P h vals args) :
 ∃a vs ns,vals=[Value.ref a]/\args=[WData.list (ns.map WData.int)]/\h.get? a=some { cls:=.type "list",data:=.seq vs.toArray }/\IntsAre vs ns/\ns.length<=n:=by
 have hsh:WShape.hasAll [] args [.list .int]=true:=(pre_splitW hpre).1;have hc:l.pre.holds [] { args:=args }=true:=(pre_splitW hpre).2;obtain⟨d,r,rfl,h1,h2⟩:=hasAllW_cons hsh;obtain rfl:=hasAllW_nil h2;obtain⟨xs,rfl,h3⟩:=hasW_list h1;obtain⟨ns,rfl⟩:=items_int h3;have hlen:ns.length<=n:=by
  unfold OpenLaw.pre at hc;have h4:(WTm.not (.lt (.lit (.int (n:Int))) (.len (.arg 0)))).holds [] { args:=[.list (ns.map .int)] }=true:=by
   have h4:=(holds_andW hc).1;rw[hn]at h4;exact h4
  have h5:=condW_of h4 (w_not (w_lt w_lit (w_len_list (w_arg rfl))));rw[zH0]at h5;refine Nat.le_of_not_lt fun q=>?_
  have q':(n:Int)<((ns.length:Nat):Int):=by omega
  first
   | (rw[decide_eq_true q']at h5;exact absurd h5 (by decide))
   | (simp at h5;omega)
 cases hwl with
 | cons w1 w2=>
   cases w2;cases w1 with
   | list ho hall=>exact⟨_,_,ns,rfl,rfl,ho,mh ns _ hall,hlen⟩
theorem ww(l:OpenLaw)(args:List WData):l.row.toRowW.claim.post args (.bool true) args=true:=
 postW_of (r:=l.row.toRowW) (X:=(true==true))
  (show WShape.has [] (.bool true) .bool=true by first | rfl | decide | simp [WShape.has,WShape.arms,WShape.armsAll])
  (show(WTm.eq .res (.lit (.bool true))).value [] { args:=args,res:=some (.bool true),after:=args }=some (.bool (true==true))from w_eq_bool (w_res rfl) w_lit) rfl
theorem attach_call{l:OpenLaw}{n:Nat}{q:Program}{loose:List Str}{XP:(Str->Option Value)->Heap->Prop}{YP:World->Heap->Prop}{d:DefRec}
 (hn:l.most=some n) (hdf:d.params.defaults=[])
 (call:∀(w:World)(s₀ s₁:Shared)(mg mb:Str->Option Value)(fa:Addr)(o:Obj)(pm cd doc:Value)(a:Addr)(vs:List Value)(ns:List Int),
  Ground q loose [] XP w s₀ mg mb s₁.heap->YP w s₁.heap ->
  s₁.heap.get? fa=some o->o.data=.func (docDef d.name d.params d.body d.scope pm cd doc)->s₁.heap.CodeRec cd d.name->mg d.name=some (.ref fa) ->
  s₁.heap.get? a=some { cls:=.type "list",data:=.seq vs.toArray }->IntsAre vs ns->ns.length<=n->s₁.gens=#[] ->
  codeAny (model l.prog w) callerA (.call (.ref fa) ⟨[.ref a],[]⟩) (fun r s'=>r=.ok (.ret (.bool true))/\OldK s₁.heap s'.heap/\s'.os=s₁.os/\AllBare s'.gens) s₁) :
 WalkO q loose XP YP l.row.toRowW d [] (fun f vs=>PySem.call f vs):=by
 intro w s₀ s₁ mg mb G Y fa o pm cd doc dV kV ho hd hcd hD hmg hg args vals as hpre hlay hrd hwl hlo;obtain rfl:dV=.none:=Dflts.none hD hdf;obtain rfl:kV=.none:=Dflts.noKw hD;obtain⟨a,vs,ns,rfl,rfl,hobj,hints,hlen⟩:=vY hn hpre hwl;refine enter_call (codeAny_mono (call w s₀ s₁ mg mb fa o pm cd doc a vs ns G Y ho (fd_plain hd) hcd hmg hobj hints hlen hg) fun r s' hq=>?_);obtain⟨rfl,h2,h3,h4⟩:=hq;exact⟨.inl ⟨.bool true,.bool true,[],rfl,fun _=>rfl,.bool true,ww l _,fun _=>⟨List.Pairwise.nil,fun _ hm=>(nomatch hm)⟩⟩,h2,h3,h4⟩
end Att
namespace L2
open PySem PySem.Spec PyProof.Rows
theorem oP:∀{vs:List Value}{ns:List Int},IntsAre vs ns->Vals (ns.map V.int) vs
 | _,_,.nil=>.nil
 | _,_,.cons n t h=>.cons ⟨t,rfl⟩ (oP h)
def DM(H:Hp):Prop:=∀b,H b=none∨∃o xs,H b=some (.frz o (.lst xs))
theorem zG{P:Program}{w:World}{K:W.Frag}{mg mb:Str->Option Value}{CX:CXT}{k:Nat}{fa a:Addr}{fd:FuncData}{x:Str}{sp:Sp}{s₁:Shared}{vs:List Value}{ns:List Int}
 (KX:K.In s₁.heap) (hns:s₁.heap.Ns mainGlobals mg) (hb:s₁.heap.Ns builtinsNs mb) (hbb:∀x:Str,x≠"__name__" -> mb x=bootBuiltins x) (hlim:s₁.heap.NoLimit) (hg:s₁.gens=#[])
 (ha:s₁.heap.get? a=some { cls:=.type "list",data:=.seq vs.toArray }) (hi:IntsAre vs ns) (hl:ns.length<=sizeLine) (hr:Room k callerA)
 (F:∀base:Heap,K.In base->base.Ns mainGlobals mg->FnOk P w K mg base CX k fa fd [x] sp) (hbind:∀(s:Shared)(u:Value),BindsTo s fd ⟨[u],[]⟩ [(x,u)])
 (hsp:∀H:Hp,DM H->SqL K H a (ns.map V.int)->sp [.ref a] H (fun v _=>v=.bl true) fun _ _ _=>False)
 (hCX:∀H e s',CX [] H s₁ (fun _ _ _=>False) e s'->False) :
 codeAny (model P w) callerA (.call (.ref fa) ⟨[.ref a],[]⟩) (fun r s'=>r=.ok (.ret (.bool true))/\OldK s₁.heap s'.heap/\s'.os=s₁.os/\AllBare s'.gens) s₁:=by
 have rv:=oP hi;have lenV:=hi.length;have core:∀H:Hp,DM H->SqL K H a (ns.map V.int)->HOk P w H s₁.heap->(∀b,H b≠none->b=a)->(H a≠none->K.lookup a=none) ->
  codeAny (model P w) callerA (.call (.ref fa) ⟨[.ref a],[]⟩) (fun r s'=>r=.ok (.ret (.bool true))/\OldK s₁.heap s'.heap/\s'.os=s₁.os/\AllBare s'.gens) s₁:=by
  intro H hO hS hok hA hK;have base_of:∀{b:Addr}{o:Obj},s₁.heap.get? b=some o->H b=none->(qC s₁.heap H).get? b=some o:=fun e n=>zM e n
  have noA:∀{b:Addr}{o:Obj}{es:Array DictEntry}{ep:Nat},s₁.heap.get? b=some o->o.data=.dict es ep->H b=none:=fun{b o es ep} e d=>by
   cases q:H b with
   | none=>rfl
   | some u=>
     have e':b=a:=hA b (by rw[q];simp);subst e';rw[ha]at e;cases e;have d':Data.seq vs.toArray _=Data.dict es ep:=d;cases d'
  have nsK:∀{b:Addr}{m:Str->Option Value},s₁.heap.Ns b m->(qC s₁.heap H).Ns b m:=fun{b m} ⟨o,es,ep,e,d,r⟩=>⟨o,es,ep,base_of e (noA e d),d,r⟩
  have hKb:K.In (qC s₁.heap H):=fun b o e=>base_of (KX b o e) (by
   cases q:H b with
   | none=>rfl
   | some u=>
     have e':b=a:=hA b (by rw[q];simp);subst e';rw[hK (by rw[q];simp)]at e;cases e)
  have hM:Mod K mg (qC s₁.heap H):=⟨hKb,nsK hns,⟨mb,nsK hb,hbb⟩,let⟨mc,h1,h2⟩:=hlim;⟨mc,nsK h1,h2⟩⟩
  have e0:Env0 P w K mg (qC s₁.heap H) callerA [] s₁ H:=⟨rfl,hM,fun b o e=>AV e,Nat.le_of_eq (xa _ _),trivial,fun b hb=>absurd (show b∈([]:List Addr)from hb) (by simp),hok,.of_eq hg⟩
  refine codeAny_mono ((F _ hKb (nsK hns)).run callerA [] s₁ H ⟨[.ref a],[]⟩ [.ref a] [.ref a] _ _ hr e0 (hbind s₁ (.ref a)) (.cons rfl .nil) (hsp H hO hS)) fun r s' h=>?_
  cases r with
  | error e=>exact(hCX H e s' h).elim
  | ok fl=>
    cases fl with
    | next=>exact False.elim h
    | brk=>exact False.elim h
    | cont=>exact False.elim h
    | ret u=>
      obtain⟨v,H',os,bare,un,hok',r',q⟩:=h;have q':v=.bl true:=q;subst q';obtain rfl:u=Value.bool true:=r';refine⟨rfl,OldK.of_keep fun b o e=>?_,os,bare⟩;cases q:H b with
      | none=>exact un.keep b o e q (by intro z;exact absurd (show b∈([]:List Addr)from z) (by simp)) (by simp)
      | some u=>
        rcases hO b with z | ⟨ob,xs,z⟩
        . rw[q]at z;cases z
        . have z2:=un.frzs b ob _ z;obtain⟨e1,_⟩:=hok b _ z;obtain⟨e2,_⟩:=hok' b _ z2;rw[e]at e1;cases e1;exact e2
 cases hk:K.lookup a with
 | some o=>
   have e:=KX a o hk;rw[ha]at e;cases e;refine core (fun _=>none) (fun _=>.inl rfl) (.inr ⟨_,vs.toArray,_,hk,rfl,rfl,rfl,by rw[zP0,lenV];exact hl,by simpa using rv⟩) (fun b u z=>by have z':(none:Option HO)=some u:=z;cases z') (fun b z=>absurd rfl z) fun z=>absurd rfl z
 | none=>
   refine core (fun b=>if b=a then some (.frz { cls:=.type "list",data:=.seq vs.toArray } (.lst (ns.map V.int)))else none) (fun b=>?_) (.inl (.inr ⟨{ cls:=.type "list",data:=.seq vs.toArray },zF0 rfl⟩)) (fun b u z=>?_) (fun b z=>?_) fun _=>hk
   . by_cases hb:b=a
     . exact .inr ⟨_,_,zF0 hb⟩
     . exact .inl (zD0 hb)
   . by_cases hb:b=a
     . have z':=(zF0 hb).symm.trans z;cases z';subst hb;exact⟨ha,by rw[zH0];exact hl,vs,_,rv,ha⟩
     . have z':=(zD0 hb).symm.trans z;cases z'
   . by_cases hb:b=a
     . exact hb
     . exact absurd (zD0 hb) z
theorem walk_of{l:PySem.W.OpenLaw}{n k:Nat}{q:Program}{loose:List Str}{XP:(Str->Option Value)->Heap->Prop}{YP:World->Heap->Prop}{d:DefRec}{K:Params->PySem.W.Frag}{CX:World->CXT}{sp:World->Sp}{x:Str}
 (hn:l.most=some n) (hn2:n<=sizeLine) (hdf:d.params.defaults=[]) (hr:Room k callerA)
 (hY:∀(w:World)(h:Heap),YP w h->(K w.params).In h)
 (F:∀(w:World)(mg:Str->Option Value)(fa:Addr)(h:Heap),(K w.params).In h->h.Ns mainGlobals mg->mg d.name=some (.ref fa) ->
  ∃ fd:FuncData,(∀(s:Shared)(u:Value),BindsTo s fd ⟨[u],[]⟩ [(x,u)])/\
   ∀base:Heap,(K w.params).In base->base.Ns mainGlobals mg->FnOk l.prog w (K w.params) mg base (CX w) k fa fd [x] (sp w))
 (hsp:∀(w:World)(H:Hp)(a:Addr)(ns:List Int),ns.length<=n->DM H->SqL (K w.params) H a (ns.map V.int)->sp w [.ref a] H (fun v _=>v=.bl true) fun _ _ _=>False)
 (hCX:∀(w:World)(H:Hp)(s:Shared)(e:Value)(s':Shared),CX w [] H s (fun _ _ _=>False) e s'->False) :
 PySem.W.WalkO q loose XP YP l.row.toRowW d [] (fun f vs=>PySem.call f vs):=by
 refine Att.attach_call hn hdf fun w s₀ s₁ mg mb fa o pm cd doc a vs ns G Y ho hd hcd hmg hobj hints hlen hg=>?_
 have KX:=hY w _ Y;obtain⟨fd,hb,hF⟩:=F w mg fa _ KX G.T.g hmg;exact zG KX G.T.g G.T.b G.T.builtins G.T.nolimit hg hobj hints (zZ0 hlen hn2) hr hF hb (fun H hO hS=>hsp w H a ns hlen hO hS) fun H e s'=>hCX w H s₁ e s'
end L2
/- THE LAST THEOREM (shape;LID,My.* are yours):
 My.Adr: a structure of the addresses that your layer names (classes,functions);My.Txt K t: a structure (Prop) of the equations over K;
 My.txt_mk:{K} {implicit addresses ..} (e1:nsIn K mainGlobals "law"=some (some (.ref f))) (e2:K.lookup f=some ⟨oc,od,.func (fnOf "law" "law" params body scope dV kV doc pm an cdv ct),sl⟩) (e3:codeIn K cdv "law"=true) ..:∃t,My.Txt K t
set_option maxRecDepth 100000 in
set_option maxHeartbeats 0 in
theorem PySem.Challenge.cw_LID_holds : PySem.Challenge.rw_LID.Holds:=by
 w_on;o_law;k_head;(case hw=>w_witness2)
 k_fill
 refine L2.walk_of (l:=PySem.Challenge.rw_LID) (n:=63) (k:=40) (x:="script") (CX:=fun w=>..) (sp:=fun _=>My.sp_law) rfl (by decide) rfl ⟨rfl,by decide,by decide⟩ (fun w h Y=>PySem.W.kIn_of Y) ?F ?S ?C
 case F=>
  intro w mg fa h KX G hmg;have T:∃t,My.Txt (L2.KOf KX) t:=by
   dsimp only [L2.KOf]                          -- K must stand as «<heap const> w.params» for k_is
   refine' My.txt_mk ?e1 ?e2 ?e3 ..
   (case e1=>PySem.W.k_is)                    -- in the order: a name -> its address -> its object -> its parts
   (case e2=>PySem.W.k_is)
   ..
  obtain⟨t,T⟩:=T;have e0:=hmg.symm.trans (PySem.W.mg_of KX G T.law);cases e0                                       -- fa is the law's own address;exact⟨_,fun s u=>.of_eq rfl,fun base kb nb=>My.law_fn T kb nb⟩     -- if «.of_eq rfl» comes too early: refine' ⟨_,?b,fun base kb nb=>My.law_fn T kb nb⟩;exact fun s u=>.of_eq rfl
 case S=>exact fun w H a ns hl hO hS=>..
 case C=>exact ..
(the tactic k_is has no namespace: write k_is) -/
namespace L2
open PySem PySem.Spec PyProof.Rows
def cX(s:Stmt)(j:Nat):Stmt:=match s with
 | .ClassDef _ _ _ body _ _ _ _ _ _ _=>body.getD j (.Pass ⟨0,0,0,0⟩)
 | _=>.Pass ⟨0,0,0,0⟩
def aA(s:Stmt):Arguments:=match s with
 | .FunctionDef _ a _ _ _ _ _ _ _ _=>a
 | _=>{ posonlyargs:=[],args:=[],vararg:=none,kwonlyargs:=[],kw_defaults:=[],kwarg:=none,defaults:=[] }
def ay(s:Stmt):List Stmt:=match s with
 | .FunctionDef _ _ b _ _ _ _ _ _ _=>b
 | _=>[]
def ae(s:Stmt):Scope:=match s with
 | .FunctionDef _ _ _ _ _ _ sc _ _ _=>sc
 | _=>{ kind:=.function,names:=[],isGenerator:=false,isCoroutine:=false }
abbrev CX0:CXT:=fun _ _ _ _ _ _=>False
abbrev E0:XK:=fun _ _ _=>False
theorem ee{X:Cx}:jW CX0 X E0:=fun _ _ _ _ _ _ _ h=>h.elim
structure Fun(K:W.Frag)(x qual:Str)(st:Stmt)(f:Addr)(fd:FuncData):Prop where
 ex:∃(oc:Value)(od:Option Addr)(kV doc pm:Value)(an:Option Addr)(cdv ct:Value)(osl:Array (Option Value)),
  fd=PySem.W.fnOf x qual (aA st) (ay st) (ae st) .none kV doc pm an cdv ct/\K.lookup f=some ⟨oc,od,.func fd,osl⟩/\PySem.W.codeIn K cdv qual=true
 kp:PySem.W.keepIn K (.ref f)=true
section
variable {P:Program} {w:World} {K:W.Frag} {mg:Str->Option Value} {base:Heap}
theorem Fun.ok{x qual:Str}{st:Stmt}{f:Addr}{fd:FuncData}{N ps:List Str}{k:Nat}{sp:Sp}(F:Fun K x qual st f fd)(S:FnScope N ps (ae st))(len:∀vs H Q E,sp vs H Q E->vs.length=ps.length)
 (hbody:∀(cdv:Value)(A:Around)(outer:List Env)(s:Shared)(H:Hp)(vs:List V)(Q:VK)(E:XK),Room k (A.deeper (envOfC qual (ae st) s.heap.objs.size f cdv))->sp vs H Q E ->
  ∃t,PSs (xq CX0 P w K mg base N qual (ae st) f cdv A outer s H E).nox (ay st) t/\t { nx:=fun _ H'=>Q .non H',rt:=Q } (lG N vs) H):FnOk P w K mg base CX0 (k+1) f fd ps sp:=by
 obtain⟨oc,od,kV,doc,pm,an,cdv,ct,osl,rfl,lk,hcd⟩:=F.ex;refine fn_of lk hcd S len fun A outer s H vs Q E hr hsp=>?_
 obtain⟨t,h,q⟩:=hbody cdv A outer s H vs Q E hr hsp;exact⟨t,h.nox,q⟩
theorem Fun.binds{x qual:Str}{st:Stmt}{f:Addr}{fd:FuncData}{ps:List Str}(F:Fun K x qual st f fd)
 (h:∀(kV doc pm:Value)(an:Option Addr)(cdv ct:Value)(us:List Value),us.length=ps.length->bindArgs (PySem.W.fnOf x qual (aA st) (ay st) (ae st) .none kV doc pm an cdv ct) ⟨us,[]⟩=pure (ps.zip us)):Binds K fd ps []:=by
 obtain⟨oc,od,kV,doc,pm,an,cdv,ct,osl,rfl,lk,hcd⟩:=F.ex;exact .all (h kV doc pm an cdv ct)
theorem aI{x qual:Str}{st:Stmt}{f:Addr}{oc:Value}{od an:Option Addr}{osl:Array (Option Value)}{kV doc pm cdv ct:Value}(l:K.lookup f=some ⟨oc,od,.func (PySem.W.fnOf x qual (aA st) (ay st) (ae st) .none kV doc pm an cdv ct),osl⟩)
 (c:PySem.W.codeIn K cdv qual=true) (k:PySem.W.keepIn K (.ref f)=true):Fun K x qual st f (PySem.W.fnOf x qual (aA st) (ay st) (ae st) .none kV doc pm an cdv ct):=⟨⟨oc,od,kV,doc,pm,an,cdv,ct,osl,rfl,l,c⟩,k⟩
end
theorem nU{A:Around}{k:Nat}(hr:Room k A):A.units+1<cLine:=Nat.lt_of_le_of_lt (Nat.add_le_add_left (by decide:1<=64) _) hr.units
theorem aS{n:Nat}(h:n<=1000):n<sizeLine:=Nat.lt_of_le_of_lt h (by decide)
section
variable {X:Cx}
theorem pv (i:Nat) {x:Str} {pos:Pos} (hN:X.N[i]?=some x:=by rfl) (hv:Vis X.env.scope x:=by first | exact Or.inl rfl | exact Or.inr (Or.inl rfl) | exact Or.inr (Or.inr rfl)) (hd:(x==("__debug__":Str))=false:=by decide)
 (hcd:(x==("__classdict__":Str))=false:=by decide):PE X (.Name x pos) (qQ i):=CQ hN hv hd hcd
end
theorem dD{A B:Prop}(h:B):if false=true then A else B:=by
 rw[zD0 zY0];exact h
theorem fq{A B:Prop}(h:A):if true=true then A else B:=by
 rw[zF0 rfl];exact h
theorem iV{c A B:Prop}[Decidable c](h1:c->A)(h2:¬ c->B):if c then A else B:=by
 by_cases h:c
 . rw[zF0 h];exact h1 h
 . rw[zD0 h];exact h2 h
theorem BZ{c A B:Prop}[Decidable c](hc:c)(h:B):if(!decide c)=true then A else B:=by
 rw[decide_eq_true hc];exact dD h
def Same(H H':Hp):Prop:=∀b o,H b=some o->H' b=some o
theorem Same.refl(H:Hp):Same H H:=fun _ _ h=>h
theorem Same.trans{H H1 H2:Hp}(a:Same H H1)(b:Same H1 H2):Same H H2:=fun c o h=>b c o (a c o h)
theorem Same.free{H H':Hp}(e:Same H H'){l:Addr}(h:H' l=Option.none):H l=Option.none:=by
 cases q:H l with
 | none=>rfl
 | some o=>
   rw[e l o q]at h;cases h
theorem Same.seq{K:W.Frag}{H H':Hp}{a:Addr}{xs:List V}(e:Same H H')(h:SqL K H a xs):SqL K H' a xs:=by
 rcases h with(h | ⟨o,h⟩) | h
 . exact .inl (.inl (e _ _ h))
 . exact .inl (.inr ⟨o,e _ _ h⟩)
 . exact .inr h
end L2
set_option maxHeartbeats 4000000
namespace L2
open PySem PySem.Spec PyProof.Rows
section
variable {X:Cx}
theorem dY:iC X (.builtin "isinstance") (fun xs H Q=>∃x t n b,xs=[x,.ty n]/\TyOf X.K H x t/\PySem.W.kitOne X.K t (.type n)=some b/\Q (.bl b) H):=by
 intro pins s σ H xs us Q I r h;obtain⟨x,t,n,b,rfl,ty,e,q⟩:=h;obtain⟨u,w',rfl,r1,r2⟩:=xC r;cases r2;exact wY I r1 ty e (fun tk=>⟨.bl b,H,I.tok tk,rfl,q⟩)
theorem jp(K:W.Frag)(n:String):PySem.W.kitOne K (.type n) (.type n)=some true:=by
 unfold PySem.W.kitOne;rw[zF0 (by simp)]
theorem qA (K:W.Frag):PySem.W.kitOne K (.type "int") (.type "bool")=some false:=by
 show(if((Value.type "int"==Value.type "bool")=true)then some true else if PySem.W.kitMeta "bool"=true then((fastBuiltinMro "int").map (·.contains (.type "bool")))else none)=some false;decide +kernel
def CDivL(_ j:Int):Prop:=0<j/\j<2 ^ 63
theorem yU:OpR X (binaryOp .FloorDiv) (rI CDivL fun i j=>.int (i / j)):=opI fun i j _ _ _ _ _ hc q=>by
 have e:Int.fdiv i j=i / j:=Int.fdiv_eq_ediv_of_nonneg i (Int.le_of_lt hc.1);rw[←e]at q;refine floordiv_int (by have:=hc.1;omega) q (.inl (PyProof.noPylong_of_log2 ?_));have h1:=hc.1;have h2:=hc.2;have h3:j.natAbs<2 ^ 63:=by omega
 have h4:=(Nat.log2_lt (n:=j.natAbs) (k:=63) (by omega)).mpr h3;omega
end
theorem jL:bootBuiltins "int"=some (.type "int"):=by decide +kernel
theorem jV:bootBuiltins "bool"=some (.type "bool"):=by decide +kernel
theorem iN:bootBuiltins "list"=some (.type "list"):=by decide +kernel
theorem bH:bootBuiltins "tuple"=some (.type "tuple"):=by decide +kernel
theorem ox:bootBuiltins "reversed"=some (.type "reversed"):=by decide +kernel
structure Cal(P:Program)(w:World)(K:W.Frag)(mg:Str->Option Value)(base:Heap)(n:Nat)(x:Str)(ps:List Str)(sp:Sp):Prop where
 ex:∃(f:Addr)(fd:FuncData),FnOk P w K mg base CX0 n f fd ps sp/\Binds K fd ps []/\PySem.W.keepIn K (.ref f)=true/\mg x=some (.ref f)
theorem ai{X:Cx}{n k:Nat}{x:Str}{ps:List Str}{sp:Sp}{e:Expr}{es:List Expr}{t:TA}{p pos:Pos}(C:Cal X.prog X.w X.K X.mg X.base n x ps sp)(hr:Room k X.A)(hk:n<=k)(hg:Gl X x)
 (ha:PA X (e::es) t) (hdb:(x==("__debug__":Str))=false:=by decide) (he:starEach (e::es) X.env=(false,eval e X.env)::starEach es X.env:=by rfl) (hpl:(backTo pos (starEach es X.env)).any (·.1)=false:=by rfl) :
 PE X (.Call (.Name x p) (e::es) [] pos) (xQ sp [] E0 t):=by
 obtain⟨f,fd,F,b,kp,m⟩:=C.ex;exact AO F (hr.mono hk) hg m kp b .nil ee ha hdb he hpl
theorem Cal.of{P:Program}{w:World}{K:W.Frag}{mg:Str->Option Value}{base:Heap}{n:Nat}{x qual:Str}{ps:List Str}{sp:Sp}{st:Stmt}{f:Addr}{fd:FuncData}(F:Fun K x qual st f fd)(O:FnOk P w K mg base CX0 n f fd ps sp)(m:mg x=some (.ref f))
 (h:∀(kV doc pm:Value)(an:Option Addr)(cdv ct:Value)(us:List Value),us.length=ps.length->bindArgs (PySem.W.fnOf x qual (aA st) (ay st) (ae st) .none kV doc pm an cdv ct) ⟨us,[]⟩=pure (ps.zip us)):Cal P w K mg base n x ps sp:=
 ⟨f,fd,O,F.binds h,F.kp,m⟩
theorem Bf{c A B:Prop}[Decidable c](hc:¬ c)(h:A):if(!decide c)=true then A else B:=by
 rw[decide_eq_false hc];exact fq h
theorem aU{c A B:Prop}[Decidable c](hc:c)(h:A):if decide c=true then A else B:=by
 rw[decide_eq_true hc];exact fq h
theorem au{c A B:Prop}[Decidable c](hc:¬ c)(h:B):if decide c=true then A else B:=by
 rw[decide_eq_false hc];exact dD h
def SameBut(f:Addr)(H H':Hp):Prop:=∀b o,b≠f->H b=some o->H' b=some o
theorem SameBut.trans{f:Addr}{H H1 H2:Hp}(a:SameBut f H H1)(b:SameBut f H1 H2):SameBut f H H2:=fun c o h e=>b c o h (a c o h e)
theorem SameBut.refl(f:Addr)(H:Hp):SameBut f H H:=fun _ _ _ h=>h
theorem zJ0{f:Addr}{H H':Hp}(h:Same H H'):SameBut f H H':=fun b o _ e=>h b o e
abbrev SameBut.of:=@zJ0
theorem SameBut.upd{f:Addr}{H:Hp}(o:HO):SameBut f H (upd H f o):=fun b u h e=>by rw[ao h];exact e
theorem zC0{H:Hp}{p:Addr}(h:H p=none)(o:HO):Same H (upd H p o):=fun b u q=>by rw[ao (aO q h)];exact q
abbrev Same.new:=@zC0
theorem Same.but{f:Addr}{H0 H H':Hp}(a:Same H0 H)(n:H0 f=none)(b:SameBut f H H'):Same H0 H':=fun c o e=>b c o (aO e n) (a c o e)
def FeedAt(H:Hp)(f:Addr):Prop:=∃own st:Int,H f=some (.lst [.int own,.int st])/\0<=own/\0<=st/\st<=2147483646
theorem FeedAt.ne{H:Hp}{f b:Addr}(F:FeedAt H f)(h:H b=none):b≠f:=by
 obtain⟨o,s,e,_⟩:=F;intro z;subst z;rw[h]at e;cases e
theorem FeedAt.same{H H':Hp}{f:Addr}(F:FeedAt H f)(s:Same H H'):FeedAt H' f:=by
 obtain⟨o,t,e,h⟩:=F;exact⟨o,t,s _ _ e,h⟩
def gD:Sp:=fun vs H Q _=>∃(f:Addr)(m:Int),vs=[.ref f,.int m]/\FeedAt H f/\0<m/\m<2 ^ 63/\∀(d:Int)(H':Hp),0<=d->d<m->FeedAt H' f->SameBut f H H'->Q (.int d) H'
def ye(K:W.Frag):Sp:=fun vs H Q _=>∃(a:Addr)(ns:List Int)(k:Int),vs=[.ref a,.int k]/\SqL K H a (ns.map V.int)/\ns.length<=63/\0<=k/\k<1000000/\∀(p:Addr)(H':Hp),H p=none->Same H H'->FeedAt H' p->Q (.ref p) H'
def vd(K:W.Frag):Sp:=fun vs H Q _=>∃(a:Addr)(ns:List Int),vs=[.ref a]/\SqL K H a (ns.map V.int)/\ns.length<=63/\∀H',Q (.bl true) H'
theorem cp{n:Nat}(h:n<=1000):n<=sizeLine:=Nat.le_of_lt (aS h)
theorem zY{ns:List Int}{k:Int}(h0:0<=k)(h:k<(ns.length:Int)):∃v:Int,atI (ns.map V.int) k=some (.int v):=by
 have hk:k.toNat<ns.length:=by omega
 have q:atI (ns.map V.int) ((k.toNat:Nat):Int)=some (.int ns[k.toNat]):=cg (by rw[qD0,zQ0 hk] <;> rfl);have ek:((k.toNat:Nat):Int)=k:=by omega
 rw[ek]at q;exact⟨_,q⟩
@[reducible] def ef (X:Cx) (N:List Str) (scope:Scope) (cl:List (Str×Addr)) (s:Shared) (H:Hp) (fp:List Addr):Cx where
 prog:=X.prog
 w:=X.w
 K:=X.K
 mg:=X.mg
 base:=X.base
 A:=X.A
 N:=N
 s₀:=s
 H₀:=H
 env:=compEnvC scope cl s.heap.objs.size X.env
 outer:=X.stack
 stack:=X.stack
 ex:=fp
 fn:=fun _=>false
 calm:=X.calm
 pn:=[]
 xe:=fun _ _=>False
structure CompScope(X:Cx)(x:Str)(N:List Str)(ix:List Nat)(scope:Scope)(cl:List (Str×Addr)):Prop where
 clos:closureFor scope X.env=pure cl
 nocell:∀y∈scope.names,y.2≠.cell
 kind:scope.kind=.function
 names:∀y∈scope.names,y.2=.local->scope.names.lookup y.1=some .local
 own:scope.names.lookup x=some .local
 nd:(x::N).Nodup
 sub:∀p∈cl,X.env.cells.lookup p.1=some p.2
 has:((relabel scope X.env).names.all fun p=>!(p.2==.cell||p.2==.free)||(cl.lookup p.1).isSome)=true
 outs:∀(j:Nat)(y:Str),N[j]?=some y->(relabel scope X.env).names.lookup y=some .cell/\∃k c,ix[j]?=some k/\X.N[k]?=some y/\cl.lookup y=some c/\X.env.scope.names.lookup y=some .cell
def outs(ix:List Nat)(σ:St):St:=ix.map fun k=>(σ[k]?).join
section
variable {X:Cx} {pins:List (Addr×Obj)} {σ:St} {x:Str} {N:List Str} {ix:List Nat} {scope:Scope} {cl:List (Str×Addr)} {fp:List Addr} {H3:Hp} {s3:Shared}
theorem CompScope.cells(S:CompScope X x N ix scope cl){y:Str}{c:Addr}(h:cl.lookup y=some c):X.env.cells.lookup y=some c:=S.sub _ (PySem.mem_of_lookup h)
theorem mw(S:CompScope X x N ix scope cl)(I3:Inv X pins σ H3 s3)(hf:∀b∈fp,kQ X pins H3 b)(hlt:∀b∈fp,b<s3.heap.objs.size):(ef X (x::N) scope cl s3 H3 fp).Ok where
 mod:=I3.ok.mod
 kind:=S.kind
 glob:=I3.ok.glob
 blt:=I3.ok.blt
 above:=zG0 _
 inj:=fun y z c h1 h2=>I3.ok.inj y z c (S.cells h1) (S.cells h2)
 has:=fun y hy=>by
  have q:=List.all_eq_true.mp S.has;have hy:(relabel scope X.env).names.lookup y=some .cell∨(relabel scope X.env).names.lookup y=some .free:=hy;have z:∀k:NameKind,(k==.cell||k==.free)=true->(relabel scope X.env).names.lookup y=some k->∃c,cl.lookup y=some c:=fun k hk e=>by
   have r:=q _ (PySem.mem_of_lookup e);rw[hk]at r;exact Option.isSome_iff_exists.mp (by simpa using r)
  rcases hy with e | e
  . exact z _ (by rfl) e
  . exact z _ (by rfl) e
 cab:=fun _ _ h _=>nomatch h
 hd:=I3.ok.hd
 frames:=I3.ok.frames
 stk:=.inl rfl
 exf:=fun b hb=>⟨zS0 (hlt b hb),fun y c e=>(hf b hb).2.2.2.2.1 y c (S.cells e)⟩
 bs:=fun b o e=>I3.bs b o e
 bsz:=zZ0 I3.ok.bsz I3.sz
 noex:=fun b o e hb=>by
  rcases(hf b hb).2.2.2.1 with z | z
  . exact I3.ok.noex b o e z
  . exact absurd (qF0 (zN0 e) (zZ0 I3.ok.bsz z)) (qV0 _)
 exfs:=fun b hb z=>by
  rcases qC0 (I3.stkSub b z)with e | e
  . exact(hf b hb).2.1 e
  . exact(hf b hb).2.2.1 e
 funs:=I3.stack
 frf:=I3.stkFree
theorem uL(S:CompScope X x N ix scope cl)(I3:Inv X pins σ H3 s3)(hf:∀b∈fp,kQ X pins H3 b)(hlt:∀b∈fp,b<s3.heap.objs.size)(hix:ix.length=N.length){h1:Heap}{t':Nat}{m:Str->Option Value}
 (hn:h1.Ns s3.heap.objs.size m) (hk:∀b o,s3.heap.get? b=some o->h1.get? b=some o):Inv (ef X (x::N) scope cl s3 H3 fp) [] (none::outs ix σ) H3 { s3 with heap:=h1,toks:=t' } where
 ok:=mw S I3 hf hlt
 os:=rfl
 bare:=I3.bare
 base:=Un.kept hk
 loc:=by
  refine⟨m,hn,fun i y v h1' h2 h3=>?_⟩;cases i with
  | zero=>
    have h2':(some (none:Option V))=some (some v):=h2;cases h2'
  | succ j=>
    have h1'':N[j]?=some y:=h1';have h2':(outs ix σ)[j]?=some (some v):=h2;obtain⟨hr,k,c,e1,e2,e3,e4⟩:=S.outs j y h1'';unfold outs at h2';rw[qD0,e1]at h2';have h2'':(σ[k]?).join=some v:=zR0 h2';have e5:σ[k]?=some (some v):=by
     cases q:σ[k]? with
     | none=>rw[q]at h2'';cases h2''
     | some o=>rw[q]at h2'';exact congrArg some h2''
    obtain⟨m0,_,hl⟩:=I3.loc;obtain⟨u,r,l⟩:=hl k y v e2 e5 (.inr (.inl e4));refine⟨u,r,.inr ⟨.inl hr,c,e3,?_⟩⟩;rcases l with⟨kk,_⟩ | ⟨_,c',ec,z⟩
    . have kk':X.env.scope.names.lookup y=some .local:=kk;rw[e4]at kk';cases kk'
    . rw[S.cells e3]at ec;cases ec;obtain⟨o,ho,hd⟩:=z;exact⟨o,hk _ _ ho,hd⟩
 cell:=fun y c e=>by
  obtain⟨v,o,ho,hd⟩:=I3.cell y c (S.cells e);exact⟨v,o,hk _ _ ho,hd⟩
 free:=I3.hok.fresh (zG0 _)
 freeC:=fun y c e=>I3.freeC y c (S.cells e)
 pin:=fun p hp=>absurd (show p∈([]:List (Addr×Obj))from hp) (by simp)
 hok:=I3.hok.kept hk
 len:=by
  show(none::outs ix σ).length=(x::N).length;rw[qH0,qH0];unfold outs;rw[zH0,hix]
theorem xt(I3:Inv X pins σ H3 s3)(hf:∀b∈fp,kQ X pins H3 b){σ':St}{H':Hp}{s':Shared}{h'':Heap}{N':List Str}(J:Inv (ef X N' scope cl s3 H3 fp) [] σ' H' s')(hb:Heap.SameBut s3.heap.objs.size s'.heap h'') :
 Inv X pins σ H' { s' with heap:=h'' }:=by
 have ne:∀b o,s3.heap.get? b=some o->b≠s3.heap.objs.size:=fun b o e=>zS0 (zN0 e)
 have B:Un (frs X.stack) fp H3 H' s3.heap s'.heap:=J.base;refine I3.call' (s':={ s' with heap:=h'' }) (ch:=fp) J.os ⟨fun b o e n h1 h2=>(hb.2 b (ne b o e)).trans (B.keep b o e n h1 h2),fun b o e n h1 h2=>?_,B.free,fun b o e h2=>?_,B.tups,B.frzs,B.tbls⟩ (fun b ob e=>?_) J.bare (fun b z=>?_)
 . obtain⟨sl,q⟩:=B.slot b o e n h1 h2;exact⟨sl,(hb.2 b (ne b o e)).trans q⟩
 . obtain⟨o',q⟩:=B.there b o e h2;exact⟨o',(hb.2 b (ne b o e)).trans q⟩
 . have fr:H' s3.heap.objs.size=none:=J.free;refine(J.hok b ob e).stay (fun c w' hc q=>(hb.2 c ?_).trans q) (fun _ q=>q) fun _ _ q=>q
   rintro rfl;rcases hc with rfl | hc
   . rw[fr]at e;cases e
   . rw[fr]at hc;cases hc
 . obtain⟨_,h2,_,h4,h5,h6⟩:=hf b z;exact⟨h4,h2,h5,h6⟩
end
abbrev TBl:=St->Hp->(Hp->Prop)->VK->Prop
def PB(X:Cx)(ifs:List Expr)(elt:Expr)(tb:TBl):Prop:=
 ∀(pins:List (Addr×Obj))(s:Shared)(σ:St)(H:Hp)(skip:Hp->Prop)(keep:VK),Inv X pins σ H s->tb σ H skip keep ->
  wpAny (model X.prog X.w) X.A (forIn ifs true fun c r=>if r=true then do let ok ←isTrue c X.env (eval c X.env);pure (ForInStep.yield ok)else pure (ForInStep.yield r))
   (fun ok s3=>if ok=true then wpAny (model X.prog X.w) X.A (eval elt X.env) (EP X pins σ keep) X.xe s3 else ∃H',Inv X pins σ H' s3/\skip H') X.xe s
def tB0(te:TE):TBl:=fun σ H _ keep=>te σ H keep
def tB1(tc:TT)(te:TE):TBl:=fun σ H skip keep=>tc σ H fun b H1=>if b=true then te σ H1 keep else skip H1
theorem cU{X:Cx}{elt:Expr}{te:TE}(he:PE X elt te):PB X [] elt (tB0 te):=by
 intro pins s σ H skip keep I h;refine wpAny_tests_nil ?_;rw[zF0 rfl];exact he pins s σ H keep I h
theorem pb_if{X:Cx}{c elt:Expr}{tc:TT}{te:TE}(hc:PT X c tc)(he:PE X elt te):PB X [c] elt (tB1 tc te):=by
 intro pins s σ H skip keep I h;refine wpAny_tests_one (thn (hc pins s σ H _ I h) fun b s1 ⟨H1,I1,q1⟩=>?_);cases b with
 | true=>
   rw[zF0 rfl]at q1 ⊢;exact he pins s1 σ H1 keep I1 q1
 | false=>
   rw[zD0 (by decide)]at q1 ⊢;exact⟨H1,I1,q1⟩
def oz(J:It)(D:Addr)(ix:List Nat)(tb:TBl)(σ:St)(H:Hp)(Q:VK):Prop:=∃W:Nat->Nat->Hp->Prop,(∃m,W 0 m (upd H D (.lst [])))/\∀i m H2,W i m H2 ->
 (J.stop i H2/\Q (.ref D) H2)∨(J.go i H2/\∀y H3,J.yld i H2 y H3->tb (some y::outs ix σ) H3 (fun H4=>∃m',m'<m/\W (i+1) m' H4)
  fun z H4=>∃ys,H4 D=some (.lst ys)/\ys.length<sizeLine/\∃m',m'<m/\W (i+1) m' (upd H4 D (.lst (ys++[z]))))
def xP(wi:TI)(ix:List Nat)(tb:TBl):TE:=fun σ H Q=>wi σ H fun J H1=>∀D,H1 D=none->oz J D ix tb σ H1 Q
section
variable {prog:Program} {w:World} {A:Around} {E:Value->Shared->Prop} {R:Result->Shared->Prop} {s:Shared}
theorem sM{elt target iter:Expr}{ifs:List Expr}{scope:Scope}{pos:Pos}{it acc:Value}{env:Env}(I:Nat->Shared->Prop)
 (turn:∀n s,I n s->wpAny (model prog w) A (pyNext it) (fun r s1=>match r with
  | none=>R (.ok .next) s1
  | some v=>wpAny (model prog w) A (letOwnedTupleGo target it v) (fun _ s1'=>wpAny (model prog w) A (assign target env v) (fun _ s2=>
   wpAny (model prog w) A (forIn ifs true fun c r=>if r=true then do let ok ←isTrue c env (eval c env);pure (ForInStep.yield ok)else pure (ForInStep.yield r)) (fun ok s3=>
    if ok=true then wpAny (model prog w) A (eval elt env) (fun x s4=>
     wpAny (model prog w) A (call (.builtin "list.append") [acc,x]) (fun _ s5=>∃m,m<n/\I m s5) (fun _ _=>False) s4) (fun _ _=>False) s3
    else ∃m,m<n/\I m s3) (fun _ _=>False) s2) (fun _ _=>False) s1') (fun _ _=>False) s1) (fun _ _=>False) s)
 (n:Nat) (h:I n s) :
 codeAny (model prog w) A (.compLoop (.ListComp elt [⟨target,iter,ifs,0⟩] scope pos) 0 it acc env) R s:=by
 have up:∀{α:Type}{t:Sem α}{Q Q':α->Shared->Prop}{E':Value->Shared->Prop}{s:Shared},wpAny (model prog w) A t Q (fun _ _=>False) s->(∀a s,Q a s->Q' a s)->wpAny (model prog w) A t Q' E' s:=
  fun h q=>wpAny_mono h q fun _ _ f=>f.elim
 refine codeAny_loop rfl I (fun n s hI=>?_) n h;show wpAny _ A ((compTurn (.ListComp elt [⟨target,iter,ifs,0⟩] scope pos) 0 it acc env).onRaise (fun x=>do noteFrame x env;theTreesLotGoes x)) _ _ s;refine wpAny_noted ?_;rw[compTurn_list];refine zA0 (wpAny_standAt (zA0 (up (turn n s hI) fun r s1 h1=>?_)));cases r with
 | none=>exact zI0 h1
 | some v=>
   refine zA0 (up h1 fun _ s1' h1'=>?_);refine zA0 (up h1' fun _ s2 h2=>zA0 (up h2 fun ok s3 h3=>?_));cases ok with
   | false=>exact zI0 ⟨rfl,h3⟩
   | true=>
     exact zA0 (zA0 (up h3 fun x s4 h4=>zA0 (up h4 fun _ s5 h5=>zI0 (zI0 ⟨rfl,h5⟩))))
end
structure Apart(X:Cx)(pins:List (Addr×Obj))(H:Hp)(C:Addr):Prop where
 fr:H C=none
 lo:C≠X.env.locals
 sz:X.s₀.heap.objs.size<=C
 ce:∀y c,X.env.cells.lookup y=some c->c≠C
 pi:∀p∈X.pn++pins,p.1≠C
theorem Apart.turn{X:Cx}{pins:List (Addr×Obj)}{σ:St}{H:Hp}{C:Addr}{s:Shared}{h':Heap}(a:Apart X pins H C)(I:Inv X pins σ H s)(hs:Heap.SameBut C s.heap h'):Inv X pins σ H { s with heap:=h' }:=
 I.turned (t':=s.toks) (fun b o ne e=>(hs.2 b ne).trans e) a.fr a.lo (.inr a.sz) a.ce a.pi
section
variable {X:Cx} {x:Str} {N:List Str} {ix:List Nat} {scope:Scope} {cl:List (Str×Addr)} {elt iter:Expr} {ifs:List Expr} {px pos:Pos} {wi:TI} {tb:TBl}
theorem sL(hc:X.calm=true)(S:CompScope X x N ix scope cl)(hix:ix.length=N.length)(hb:∀s3 H3 fp,PB (ef X (x::N) scope cl s3 H3 fp) ifs elt tb)
 {pins:List (Addr×Obj)} {s2:Shared} {σ:St} {H2:Hp} {Q:VK} {it:Addr} {fp:List Addr} {tn:Nat->Heap->Prop} {J:It} {RR:Value->Addr->Result->Shared->Prop} {E:Value->Shared->Prop}
 (I2:Inv X pins σ H2 s2) (T:Turn X.prog X.w X.K (.Name x px) J fp it tn) (st2:tn 0 s2.heap) (f2:∀b∈fp,kQ X pins H2 b)
 (h:∀D,H2 D=none->∃W:Nat->Nat->Hp->Prop,(∃m,W 0 m (upd H2 D (.lst [])))/\∀i m H3,W i m H3 ->
  (J.stop i H3/\Q (.ref D) H3)∨(J.go i H3/\∀y H4,J.yld i H3 y H4->tb (some y::outs ix σ) H4 (fun H5=>∃m',m'<m/\W (i+1) m' H5)
   fun z H5=>∃ys,H5 D=some (.lst ys)/\ys.length<sizeLine/\∃m',m'<m/\W (i+1) m' (upd H5 D (.lst (ys++[z])))))
 (hRR:∀(D C:Addr)(H':Hp)(s':Shared)(m:Str->Option Value),s'.heap.Ns C m->Apart X pins H' C->Inv X pins σ H' s'->Q (.ref D) H'->RR (.ref D) C (.ok .next) s') :
 wpAny (model X.prog X.w) X.A (newList []) (fun acc s3=>wpAny (model X.prog X.w) X.A (newFunctionEnv scope X.env.globals cl [] X.env.qual none .none (some X.env)) (fun cenv s4=>
  codeAny (model X.prog X.w) X.A (.compStart (.ListComp elt [⟨.Name x px,iter,ifs,0⟩] scope pos) 0 (.ref it) acc { cenv with scope:=relabel scope X.env }) (RR acc cenv.locals) s4) E s3) E s2:=by
 refine wpAny_newObj_type (wpAny_newFunctionEnv S.nocell (by intro y hy;simp at hy) (fun h1 hns1 hsb1=>?_) S.kind)
 dsimp only at hns1 hsb1 ⊢
 have I3:Inv X pins σ (upd H2 s2.heap.objs.size (.lst [])) { s2 with heap:=s2.heap.push { cls:=.type "list",dict:=none,data:=.seq ([]:List Value).toArray } }:=I2.lnew (its:=[]) (ys:=[]) (t':=s2.toks) .nil (qB0 _);have hD:H2 s2.heap.objs.size=none:=I2.fresh;obtain⟨W,⟨m0,w0⟩,turn⟩:=h s2.heap.objs.size hD;have hltF:∀b∈fp,b<s2.heap.objs.size:=fun b hb=>by
  obtain⟨o,e,_⟩:=T.obj 0 _ st2 b hb;exact zN0 e
 generalize hs3:({ s2 with heap:=s2.heap.push { cls:=.type "list",dict:=none,data:=.seq ([]:List Value).toArray } }:Shared)=s3 at I3;have eh:s2.heap.push { cls:=.type "list",dict:=none,data:=.seq ([]:List Value).toArray }=s3.heap:=by rw[←hs3]
 have et:s2.toks=s3.toks:=by rw[←hs3]
 rw[eh]at hns1 hsb1 ⊢;have sz3:s3.heap.objs.size=s2.heap.objs.size+1:=by rw[←eh,Heap.size_push]
 have hlt3:∀b∈fp,b<s3.heap.objs.size:=fun b hb=>qF0 (hltF b hb) (by rw[sz3];exact qK0 _)
 have f3:∀b∈fp,kQ X pins (upd H2 s2.heap.objs.size (.lst [])) b:=fun b hb=>by
  obtain⟨q1,q2⟩:=f2 b hb;exact⟨by rw[ao (zS0 (hltF b hb))];exact q1,q2⟩
 have up:∀b o,s3.heap.get? b=some o->h1.get? b=some o:=fun b o e=>hsb1.extBut b o (zS0 (zN0 e)) (zO0 _ e)
 have old:∀b o,s2.heap.get? b=some o->h1.get? b=some o:=fun b o e=>up b o (by rw[←eh];exact zO0 _ e)
 have es:({ s2 with heap:=h1,toks:=s2.toks+([]:List (Str×Value)).length }:Shared)={ s3 with heap:=h1,toks:=s2.toks+([]:List (Str×Value)).length }:=by rw[←hs3]
 rw [es];have I4:Inv (ef X (x::N) scope cl s3 (upd H2 s2.heap.objs.size (.lst [])) fp) [] (none::outs ix σ) (upd H2 s2.heap.objs.size (.lst [])) { s3 with heap:=h1,toks:=s2.toks+([]:List (Str×Value)).length }:=
  uL S I3 f3 hlt3 hix hns1 up
 have st4:tn 0 h1:=T.keep 0 _ _ st2 fun b _ o e=>old b o e
 have loop:codeAny (model X.prog X.w) X.A (.compLoop (.ListComp elt [⟨.Name x px,iter,ifs,0⟩] scope pos) 0 (.ref it) (.ref s2.heap.objs.size) (compEnvC scope cl s3.heap.objs.size X.env)) (RR (.ref s2.heap.objs.size) s3.heap.objs.size)
  { s3 with heap:=h1,toks:=s2.toks+([]:List (Str×Value)).length }:=by
  refine sM (fun n s'=>∃i v0 H',Inv (ef X (x::N) scope cl s3 (upd H2 s2.heap.objs.size (.lst [])) fp) [] (v0::outs ix σ) H' s'/\tn i s'.heap/\(∀b∈fp,H' b=none)/\W i n H') ?_ m0 ⟨0,none,_,I4,st4,fun b hb=>(f3 b hb).1,w0⟩;rintro n s5 ⟨i,v0,H5,I5,st5,fr5,w5⟩;have stat:∀{H':Hp},(∀b∈fp,H' b=none)->∀b∈fp,kQ (ef X (x::N) scope cl s3 (upd H2 s2.heap.objs.size (.lst [])) fp) [] H' b:=fun hn b hb=>
   ⟨hn b hb,((mw S I3 f3 hlt3).exf b hb).1,(mw S I3 f3 hlt3).exfs b hb,.inl hb,((mw S I3 f3 hlt3).exf b hb).2,fun p hp=>absurd (show p∈([]:List (Addr×Obj))from hp) (by simp)⟩
  rcases turn i n H5 w5 with⟨stop,qn⟩ | ⟨go,step⟩
  . refine thn (T.done (ef X (x::N) scope cl s3 (upd H2 s2.heap.objs.size (.lst [])) fp) rfl rfl rfl hc i [] s5 _ H5 _ I5 (stat fr5) st5 stop) fun r s6 ⟨hr,I6⟩=>?_
    subst hr;obtain⟨m6,hn6,_⟩:=I6.loc;exact hRR _ _ H5 s6 m6 hn6 ⟨I6.free,Ne.symm (zS0 I3.lt),I3.sz,fun y c e z=>by
     obtain⟨v,q⟩:=I3.cell y c e;exact absurd q.lt (by rw[z];exact qV0 _),fun p hp z=>absurd (zN0 (I3.pin p hp).1) (by rw[z];exact qV0 _)⟩ (xt I3 f3 I6 (Heap.SameBut.refl _ _)) qn
  . refine thn (T.item (ef X (x::N) scope cl s3 (upd H2 s2.heap.objs.size (.lst [])) fp) rfl rfl rfl hc i [] s5 _ H5 _ I5 (stat fr5) st5 go) fun r s6 ⟨u,hr,h6⟩=>?_
    subst hr;refine thn h6 fun _ s7 ⟨y,H7,I7,r7,y7,st7,fr7⟩=>?_
    have I7':=I7.pinned (stat fr7) (T.obj _ _ st7);refine wpAny_assign_Name (mE (i:=0) I7' S.nd rfl (.inl (lookup_relabel_local S.own)) r7 (fun s8 I8=>?_) (.inr (lookup_relabel_local S.own)));have I8':Inv (ef X (x::N) scope cl s3 (upd H2 s2.heap.objs.size (.lst [])) fp) ([]++lp fp s7.heap) (some y::outs ix σ) H7 s8:=I8;have again:∀{v9:Option V}{H9:Hp}{s9:Shared},Inv (ef X (x::N) scope cl s3 (upd H2 s2.heap.objs.size (.lst [])) fp) ([]++lp fp s7.heap) (v9::outs ix σ) H9 s9->(∃m',m'<n/\W (i+1) m' H9) ->
     ∃m,m<n/\∃i v0 H',Inv (ef X (x::N) scope cl s3 (upd H2 s2.heap.objs.size (.lst [])) fp) [] (v0::outs ix σ) H' s9/\tn i s9.heap/\(∀b∈fp,H' b=none)/\W i m H':=fun{v9 H9 s9} I9 ⟨m',hm,w9⟩=>by
     refine⟨m',hm,i+1,v9,H9,I9.unpinned,T.keep _ _ _ st7 fun b hb o e=>(I9.pin (b,o) (qU0 _ (qU0 _ (iJ hb e)))).1,fun b hb=>?_,w9⟩;obtain⟨o,e,d⟩:=T.obj _ _ st7 b hb;exact(I9.pin (b,o) (qU0 _ (qU0 _ (iJ hb e)))).2.1
    refine thn (hb s3 (upd H2 s2.heap.objs.size (.lst [])) fp _ s8 _ H7 _ _ I8' (step y H7 y7)) fun ok s9 q9=>?_
    cases ok with
    | false=>
      rw[zD0 (by decide)]at q9 ⊢;obtain⟨H9,I9,q9⟩:=q9;exact again I9 q9
    | true=>
      rw[zF0 rfl]at q9 ⊢;refine thn q9 fun u s10 ⟨z,H10,I10,r10,ys,hy,hz,q10⟩=>?_
      refine thn (bu _ s10 _ H10 (.ref s2.heap.objs.size) [z] (.ref s2.heap.objs.size) [u] (fun _ H'=>∃m',m'<n/\W (i+1) m' H') I10 rfl (.cons r10 .nil) ⟨_,ys,z,rfl,rfl,hy,hz,q10⟩) fun _ s11 ⟨_,H11,I11,_,q11⟩=>?_
      exact again I11 q11
 exact codeAny_compStart_list loop (T.self _ 0 _ _ _ st4 loop)
theorem cq(hc:X.calm=true)(S:CompScope X x N ix scope cl)(hix:ix.length=N.length)(hi:PI X (.Name x px) iter wi)(hb:∀s3 H3 fp,PB (ef X (x::N) scope cl s3 H3 fp) ifs elt tb)
 (hs:∀x,foldedSetIterable iter X.env x=pure x:=by intro _;rfl):PE X (.ListComp elt [⟨.Name x px,iter,ifs,0⟩] scope pos) (xP wi ix tb):=by
 intro pins s σ H Q I h;rw[eval_ListComp];refine wpAny_comprehension_free (use:=none) rfl hs S.clos S.kind S.names (thn (hi pins s σ H _ I h) fun xv s1 h1=>thn h1 fun itv s2 h2=>?_);obtain⟨it,fp,tn,J,H2,rfl,I2,T,st2,f2,R⟩:=h2;refine sL hc S hix hb (RR:=fun acc C=>compPost (model X.prog X.w) X.A X.xe none (EP X pins σ Q) acc C) I2 T st2 f2 R ?_;intro D C H' s' m hn ap I' q;exact⟨m,hn,fun h'' hb''=>⟨.ref D,H',ap.turn I' hb'',rfl,q⟩⟩
theorem qf{i:Nat}{y:Str}{py spos:Pos}(hN:X.N.Nodup)(hi0:X.N[i]?=some y)(hx:Loc X.env.scope y)(hc:X.calm=true)(S:CompScope X x N ix scope cl)(hix:ix.length=N.length)(hi:PI X (.Name x px) iter wi)(hb:∀s3 H3 fp,PB (ef X (x::N) scope cl s3 H3 fp) ifs elt tb)
 (hsw:swapsWith (.ListComp elt [⟨.Name x px,iter,ifs,0⟩] scope pos) (some (.Name y py)) spos.line X.env=pure true:=by with_unfolding_all rfl)
 (hs:∀x,foldedSetIterable iter X.env x=pure x:=by intro _;rfl) (hf:X.fn y=true∨X.env.scope.names.lookup y=some .local:=by first | exact .inl rfl | exact .inr rfl | assumption) :
 PS X (.Assign [.Name y py] (.ListComp elt [⟨.Name x px,iter,ifs,0⟩] scope pos) spos) (fun D σ H=>xP wi ix tb σ H fun v H'=>D.nx (σ.set i (some v)) H'):=by
 intro pins s σ H Dn I h;rw[exec_Assign_Name_used _ _ _ _ hsw];refine zA0 (wpAny_standAt (zA0 ?_));show wpAny _ X.A (do let _ ←comprehension (.ListComp elt [⟨.Name x px,iter,ifs,0⟩] scope pos) scope X.env _ (newList []) false (eval iter X.env) (some (assign (.Name y py) X.env))) _ _ s;refine zA0 (wpAny_mono (wpAny_comprehension_free (use:=some (assign (.Name y py) X.env)) (Q:=fun _ s'=>SP X pins Dn .next s') rfl hs S.clos S.kind S.names
  (thn (hi pins s σ H _ I h) fun xv s1 h1=>thn h1 fun itv s2 h2=>?_)) (fun _ s' hq=>zI0 (zI0 hq)) fun _ _ e=>e)
 obtain ⟨it,fp,tn,J,H2,rfl,I2,T,st2,f2,R⟩:=h2;refine sL hc S hix hb (RR:=fun acc C=>compPost (model X.prog X.w) X.A X.xe (some (assign (.Name y py) X.env)) (fun _ s'=>SP X pins Dn .next s') acc C) (Q:=fun v H'=>Dn.nx (σ.set i (some v)) H') I2 T st2 f2 R ?_;intro D C H' s' m hn ap I' q;show wpAny _ X.A (assign (.Name y py) X.env (.ref D)) _ _ _;refine wpAny_assign_Name (oS I' hN hi0 hx (v:=.ref D) rfl (fun s'' I'' hsb=>?_) hf);obtain⟨a,hsb,ha⟩:=hsb;have ne:C≠a:=by
  rcases ha with z | z
  . rw[z];exact ap.lo
  . exact Ne.symm (ap.ce y a z)
 exact⟨m,hn.sameBut hsb ne,fun h'' hb''=>⟨_,H',ap.turn I'' hb'',q⟩⟩
end
section
variable {X:Cx} {pins:List (Addr×Obj)} {σ:St} {H:Hp} {s:Shared} {h':Heap}
theorem Inv.turnedNew{t':Nat}{ch:List Addr}{T:Addr}{o:HO}(I:Inv X pins σ H s)(k:∀b u,b∉ch->s.heap.get? b=some u->h'.get? b=some u)(hf:∀b∈ch,kQ X pins H b)(hT:s.heap.objs.size<=T)
 (new:ObjOk X.prog X.w (upd H T o) h' T o):Inv X pins σ (upd H T o) { s with heap:=h',toks:=t' }:=by
 have nit:∀b u,H b=some u->b∉ch:=fun b u e z=>by rw[(hf b z).1]at e;cases e
 have hn:H T=none:=I.hok.fresh hT;have lt:∀b u,s.heap.get? b=some u->b≠T:=fun b u e=>zS0 (qF0 (zN0 e) hT)
 refine I.step (g':=s.gens) (d':=s.drawn) (ch:=ch) (fun b hb=>?_) (fun b u _ _ hc e _=>k b u hc e) (fun b u _ _ hc e _=>⟨u.slots,k b u hc e⟩) (fun b u _ e n=>by rw[ao (lt b u e)];exact n) (fun b u hc e=>⟨u,k b u hc e⟩)
  (fun b xs e=>by rw[ao (aO e hn)];exact e) (fun b ob u e=>by rw[ao (aO e hn)];exact e) (fun b ps e=>⟨#[],by rw[ao (aO e hn),e];simp⟩) (fun m hm=>?_) (fun b u e=>?_) I.bare
 . obtain⟨_,h2,_,h4,h5,h6⟩:=hf b hb;exact⟨h4,h2,h5,h6⟩
 . obtain⟨ob,es,ep,ho,r⟩:=hm;exact⟨ob,es,ep,k _ ob (fun z=>(hf _ z).2.1 rfl) ho,r⟩
 . by_cases hb:b=T
   . subst hb;rw[aD]at e;cases e;exact new
   . rw [ao hb]at e;refine(I.hok b u e).stay (fun c v hc q=>k c v ?_ q) (fun c q=>by rw[ao (aO q hn)];exact q) fun c xs q=>by rw[ao (aO q hn)];exact q
     rcases hc with z | z
     . rw[z];exact nit b u e
     . exact nit c _ z
theorem Inv.turnedL{t':Nat}{ch:List Addr}(I:Inv X pins σ H s)(k:∀b u,b∉ch->s.heap.get? b=some u->h'.get? b=some u)(hf:∀b∈ch,kQ X pins H b):Inv X pins σ H { s with heap:=h',toks:=t' }:=by
 have nit:∀b u,H b=some u->b∉ch:=fun b u e z=>by rw[(hf b z).1]at e;cases e
 refine I.step (g':=s.gens) (d':=s.drawn) (ch:=ch) (fun b hb=>?_) (fun b u _ _ hc e _=>k b u hc e) (fun b u _ _ hc e _=>⟨u.slots,k b u hc e⟩) (fun _ _ _ _ n=>n) (fun b u hc e=>⟨u,k b u hc e⟩)
  (fun _ _ e=>e) (fun _ _ _ e=>e) (fun b ps e=>⟨#[],by rw[e];simp⟩) (fun m hm=>?_) (fun b u e=>?_) I.bare
 . obtain⟨_,h2,_,h4,h5,h6⟩:=hf b hb;exact⟨h4,h2,h5,h6⟩
 . obtain⟨ob,es,ep,ho,r⟩:=hm;exact⟨ob,es,ep,k _ ob (fun z=>(hf _ z).2.1 rfl) ho,r⟩
 . refine (I.hok b u e).stay (fun c v hc q=>k c v ?_ q) (fun _ q=>q) fun _ _ q=>q
   rcases hc with z | z
   . rw[z];exact nit b u e
   . exact nit c _ z
end
mutual
inductive Rep(K:W.Frag)(H:Hp):V->PyData->Prop
 | non:Rep K H .non .none
 | bl (b:Bool):Rep K H (.bl b) (.bool b)
 | int (i:Int):Rep K H (.int i) (.int i)
 | str (x:Str):Rep K H (.str x) (.str x)
 | tup {a:Addr} {xs:List V} {ds:List PyData}:SqT K H a xs->RepAll K H xs ds->Rep K H (.ref a) (.tuple ds)
 | lst {a:Addr} {xs:List V} {ds:List PyData}:SqL K H a xs->RepAll K H xs ds->Rep K H (.ref a) (.list ds)
inductive RepAll(K:W.Frag)(H:Hp):List V->List PyData->Prop
 | nil:RepAll K H [] []
 | cons {x:V} {d:PyData} {xs:List V} {ds:List PyData}:Rep K H x d->RepAll K H xs ds->RepAll K H (x::xs) (d::ds)
end
section
variable {X:Cx} {pins:List (Addr×Obj)} {σ:St} {H:Hp} {s:Shared}
mutual
theorem Rep.reads(I:Inv X pins σ H s):∀{x:V}{d:PyData}{v:Value},Rep X.K H x d->RelV x v->∃as,Reads s.heap v d as
 | _,_,v,.non,r=>by cases(show v=Value.none from r);exact⟨_,Reads.none⟩
 | _,_,v,.bl b,r=>by cases(show v=Value.bool b from r);exact⟨_,Reads.bool b⟩
 | _,_,v,.int i,r=>by obtain⟨t,e⟩:=(show ∃t,v=Value.int i t from r);cases e;exact⟨_,Reads.int i t⟩
 | _,_,v,.str x,r=>by obtain⟨t,e⟩:=(show ∃t,v=Value.str x t from r);cases e;exact⟨_,Reads.str x t⟩
 | _,_,v,.tup (a:=a) h q,r=>by
   cases(show v=Value.ref a from r);obtain⟨its,rv,⟨o,ho,hc,n,hd⟩,_⟩:=I.tuple h;obtain⟨as,z⟩:=RepAll.reads I q rv;exact⟨_,reads_tuple_at ho hc hd (by simpa using z)⟩
 | _,_,v,.lst (a:=a) h q,r=>by
   cases(show v=Value.ref a from r);obtain⟨its,rv,⟨o,n,ho,hc,_,hd⟩,_⟩:=I.list h;obtain⟨as,z⟩:=RepAll.reads I q rv;exact⟨_,reads_list_at ho hc hd (by simpa using z)⟩
theorem RepAll.reads(I:Inv X pins σ H s):∀{xs:List V}{ds:List PyData}{vs:List Value},RepAll X.K H xs ds->Vals xs vs->∃as,ReadsAll s.heap vs ds as
 | _,_,_,.nil,.nil=>⟨_,ReadsAll.nil⟩
 | _,_,_,.cons h q,.cons r rs=>by
   obtain⟨as,z⟩:=Rep.reads I h r;obtain⟨bs,y⟩:=RepAll.reads I q rs;exact⟨_,ReadsAll.cons z y⟩
end
end
theorem rm{K:W.Frag}{H:Hp}:∀ns:List Int,RepAll K H (ns.map V.int) (ns.map PyData.int)
 | []=>.nil
 | n::r=>.cons (.int n) (rm r)
section
variable {X:Cx}
def rNeD(K:W.Frag):R2:=fun x y H Q=>∃d e,Rep K H x d/\Rep K H y e/\SeqAt.shaped d=true/\SeqAt.shaped e=true/\Q (.bl (!PyData.eqv d e)) H
theorem CW(hu:X.A.units+64<cLine):OpR X (compareOp .NotEq) (rNeD X.K):=by
 intro pins s σ H x y v u Q I rx ry h;obtain⟨d,e,hd,he,sd,se,q⟩:=h;obtain⟨as,r1⟩:=Rep.reads I hd rx;obtain⟨bs,r2⟩:=Rep.reads I he ry;exact ne_dataH r1 r2 sd se hu ⟨.bl _,H,I,rfl,q⟩
def mZ(K:W.Frag):R2:=fun x y H Q=>∃a b ys,x=.ref a/\y=.ref b/\SqT K H a []/\SqT K H b ys/\Q (.ref b) H
theorem nv:OpR X (binaryOp .Add) (mZ X.K):=by
 intro pins s σ H x y v u Q I rx ry h;obtain⟨a,b,ys,rfl,rfl,ha,hb,q⟩:=h;cases rx;cases ry;obtain⟨its,r1,p1,_⟩:=I.tuple ha;obtain⟨its2,r2,p2,_⟩:=I.tuple hb;obtain⟨⟨cls,dd,data,sl⟩,ho,hc,n,hd⟩:=id p1;obtain⟨⟨cls2,dd2,data2,sl2⟩,ho2,hc2,n2,hd2⟩:=id p2;simp only at hc hd hc2 hd2;subst hc hd hc2 hd2;have e:its=[]:=r1.nil_iff.mpr rfl;exact concat_meets ⟨_,ho,rfl⟩ ⟨_,ho2,rfl⟩ noFill_tuple_add seq_tuple_add PySem.F.slot_tuple_add PySem.F.entry_tuple_add (PySem.F.args_tuple_add_2 _ _)
  (tuple_addW0 a b its.toArray its2.toArray n n2 dd dd2 sl sl2 (by simp [e])) ⟨ho,ho2,⟨.ref b,H,I,rfl,q⟩⟩
end
def Nx(n i:Nat)(Pv:Nat->Hp->Prop)(H:Hp):Prop:=∃m',m'<n-i/\(m'=n-(i+1)/\i+1<=n/\Pv (i+1) H)
theorem Nx.of{n i:Nat}{Pv:Nat->Hp->Prop}{H:Hp}(h:i<n)(p:Pv (i+1) H):Nx n i Pv H:=⟨n-(i+1),by omega,rfl,h,p⟩
theorem kI{K:W.Frag}{a D:Addr}{xs:List V}{ix:List Nat}{tb:TBl}{σ:St}{H:Hp}{Q:VK}(Pv:Nat->Hp->Prop)(h0:Pv 0 (upd H D (.lst [])))(hl:∀i H,i<=xs.length->Pv i H->SqT K H a xs)
 (hs:∀i x H,xs[i]?=some x->Pv i H->tb (some x::outs ix σ) H (Nx xs.length i Pv) fun z H'=>∃ys,H' D=some (.lst ys)/\ys.length<sizeLine/\Nx xs.length i Pv (upd H' D (.lst (ys++[z])))) (hd:∀H,Pv xs.length H->Q (.ref D) H) :
 oz (Itt K a) D ix tb σ H Q:=by
 refine⟨fun i m H=>m=xs.length-i/\i<=xs.length/\Pv i H,⟨xs.length,by simp,qB0 _,h0⟩,?_⟩;rintro i m H ⟨rfl,hi,p⟩;have q:=hl i H hi p
 by_cases hlt:i<xs.length
 . refine .inr ⟨⟨xs,xs[i],q,by simp [hlt]⟩,fun x H' y=>?_⟩;obtain⟨e,y⟩:=y;subst e;exact hs i x _ (y xs q) p
 . have e:i=xs.length:=by omega
   subst e;exact .inl ⟨⟨xs,q,zG0 _⟩,hd H p⟩
theorem iB{K:W.Frag}{a D:Addr}{xs:List V}{ix:List Nat}{tb:TBl}{σ:St}{H:Hp}{Q:VK}(Pv:Nat->Hp->Prop)(h0:Pv 0 (upd H D (.lst [])))(hl:∀i H,i<=xs.length->Pv i H->SqL K H a xs)
 (hs:∀i x H,xs[i]?=some x->Pv i H->tb (some x::outs ix σ) H (Nx xs.length i Pv) fun z H'=>∃ys,H' D=some (.lst ys)/\ys.length<sizeLine/\Nx xs.length i Pv (upd H' D (.lst (ys++[z])))) (hd:∀H,Pv xs.length H->Q (.ref D) H) :
 oz (Itl K a) D ix tb σ H Q:=by
 refine⟨fun i m H=>m=xs.length-i/\i<=xs.length/\Pv i H,⟨xs.length,by simp,qB0 _,h0⟩,?_⟩;rintro i m H ⟨rfl,hi,p⟩;have q:=hl i H hi p
 by_cases hlt:i<xs.length
 . refine .inr ⟨⟨xs,xs[i],q,by simp [hlt]⟩,fun x H' y=>?_⟩;obtain⟨e,y⟩:=y;subst e;exact hs i x _ (y xs q) p
 . have e:i=xs.length:=by omega
   subst e;exact .inl ⟨⟨xs,q,zG0 _⟩,hd H p⟩
theorem cN{lo:Int}{n:Nat}{D:Addr}{ix:List Nat}{tb:TBl}{σ:St}{H:Hp}{Q:VK}(Pv:Nat->Hp->Prop)(h0:Pv 0 (upd H D (.lst [])))
 (hs:∀i H,i<n->Pv i H->tb (some (.int (lo+i))::outs ix σ) H (Nx n i Pv) fun z H'=>∃ys,H' D=some (.lst ys)/\ys.length<sizeLine/\Nx n i Pv (upd H' D (.lst (ys++[z])))) (hd:∀H,Pv n H->Q (.ref D) H) :
 oz (Itr lo n) D ix tb σ H Q:=by
 refine⟨fun i m H=>m=n-i/\i<=n/\Pv i H,⟨n,by simp,qB0 _,h0⟩,?_⟩;rintro i m H ⟨rfl,hi,p⟩
 by_cases hlt:i<n
 . refine .inr ⟨hlt,fun x H' y=>?_⟩;obtain⟨e,y⟩:=y;subst e y;exact hs i _ hlt p
 . have e:i=n:=by omega
   subst e;exact .inl ⟨zG0 _,hd H p⟩
theorem CompScope.closed{X:Cx}{x:Str}{scope:Scope}(c1:closureFor scope X.env=pure [])(c2:∀y∈scope.names,y.2≠.cell)(c3:scope.kind=.function)(c4:∀y∈scope.names,y.2=.local->scope.names.lookup y.1=some .local)
 (c5:scope.names.lookup x=some .local) (c6:((relabel scope X.env).names.all fun p=>!(p.2==.cell||p.2==.free)||((([]:List (Str×Addr))).lookup p.1).isSome)=true):CompScope X x [] [] scope [] where
 clos:=c1
 nocell:=c2
 kind:=c3
 names:=c4
 own:=c5
 nd:=by simp
 sub:=fun p hp=>absurd hp (by simp)
 has:=c6
 outs:=fun j y h=>by simp at h
section
variable {X:Cx}
theorem cI(K:W.Frag)(hK:X.K=K:=by rfl):IxR X (AD K):=by subst hK;exact ix_list
end
section
variable {X:Cx}
def rSlS:V->Option Int->Option Int->Hp->VK->Prop:=fun x lo hi H Q=>∃z,x=.str z/\z.length<=sizeLine/\Q (.str (Txt.slice z lo hi)) H
theorem yo:SlR X rSlS:=by
 intro pins s σ H x v vl vu lo hi sl Q I rx hs pl pu h;obtain⟨z,rfl,hz,q⟩:=h;obtain⟨t,rfl⟩:=rx;refine⟨"str",_,F.slot_str_getitem.lookup,typeIs_str _ _ _,?_⟩;have fin:∀t' k,EP X pins σ Q (.str (Txt.slice z lo hi) t') { s with toks:=k }:=fun t' k=>⟨.str _,H,I.tok k,⟨_,rfl⟩,q⟩
 obtain⟨o,ho,hc,hd⟩:=hs;cases pl with
 | none=>
   cases pu with
   | none=>exact wpAny_getItem_str_slice (l:=none) (u:=none) (st:=none) ⟨o,ho,hc,hd⟩ rfl (post_val_or_str ⟨zZ0 (Txt.slice_le z _ _) hz,fin⟩)
   | int j u=>exact wpAny_getItem_str_slice (l:=none) (u:=some (j,u)) (st:=none) ⟨o,ho,hc,hd⟩ rfl (post_val_or_str ⟨zZ0 (Txt.slice_le z _ _) hz,fin⟩)
 | int i u'=>
   cases pu with
   | none=>exact wpAny_getItem_str_slice (l:=some (i,u')) (u:=none) (st:=none) ⟨o,ho,hc,hd⟩ rfl (post_val_or_str ⟨zZ0 (Txt.slice_le z _ _) hz,fin⟩)
   | int j u=>exact wpAny_getItem_str_slice (l:=some (i,u')) (u:=some (j,u)) (st:=none) ⟨o,ho,hc,hd⟩ rfl (post_val_or_str ⟨zZ0 (Txt.slice_le z _ _) hz,fin⟩)
theorem mD:∀{zs:List Str}{us:List Value},Vals (zs.map V.str) us->StrsAre us zs
 | [],_,.nil=>.nil
 | _::_,_,.cons ⟨t,e⟩ r=>by subst e;exact .cons _ t (mD r)
def rJoin(K:W.Frag):V->List V->Hp->VK->Prop:=fun x vs H Q=>∃z a ys,x=.str z/\vs=[.ref a]/\SqL K H a (ys.map V.str)/\z.length<=16/\(ys.map (·.length)).sum+ys.length<=1048576/\Q (.str (Txt.join z ys)) H
theorem Ba:MtR X "str.join" (rJoin X.K):=by
 intro pins s σ H x vs v us Q I rx rv h;obtain⟨z,a,ys,rfl,rfl,hq,hz,hw,q⟩:=h;obtain⟨t,rfl⟩:=rx;obtain⟨w',rfl,ra⟩:=rv.one;cases ra;obtain⟨its,r',p,_⟩:=I.list hq;exact join_listW p.isList (by simpa using mD r') hz hw fun t' k=>⟨.str _,H,I.tok k,⟨_,rfl⟩,q⟩
end
inductive Consts:List Expr->List Str->Prop
 | nil:Consts [] []
 | cons {x:Str} {j:Nat} {pos:Pos} {es:List Expr} {zs:List Str}:Consts es zs->Consts (.Constant (.str x) j pos::es) (x::zs)
theorem jI{X:Cx}:∀{es:List Expr}{zs:List Str},Consts es zs->PA X es (fun _ H Q=>Q (zs.map V.str) H)
 | _,_,.nil=>aH
 | _,_,.cons h=>fun pos pins s σ H Q I q=>af ax (jI h) (by rfl) pos pins s σ H Q I q
theorem CompScope.one{X:Cx}{x y:Str}{scope:Scope}{k:Nat}{c:Addr}(c1:closureFor scope X.env=pure [(y,c)])(c2:∀y∈scope.names,y.2≠.cell)(c3:scope.kind=.function)(c4:∀y∈scope.names,y.2=.local->scope.names.lookup y.1=some .local)
 (c5:scope.names.lookup x=some .local) (nd:[x,y].Nodup) (hc:X.env.cells.lookup y=some c) (c6:((relabel scope X.env).names.all fun p=>!(p.2==.cell||p.2==.free)||(([(y,c)]:List (Str×Addr)).lookup p.1).isSome)=true)
 (hr:(relabel scope X.env).names.lookup y=some .cell) (hk:X.N[k]?=some y) (hs:X.env.scope.names.lookup y=some .cell):CompScope X x [y] [k] scope [(y,c)] where
 clos:=c1
 nocell:=c2
 kind:=c3
 names:=c4
 own:=c5
 nd:=nd
 sub:=fun p hp=>by
  rw[zM0 hp];exact hc
 has:=c6
 outs:=fun j z h=>by
  cases j with
  | zero=>
    have e:y=z:=zR0 h;subst e;exact⟨hr,k,c,rfl,hk,by simp [List.lookup],hs⟩
  | succ j=>simp at h
theorem CompScope.two{X:Cx}{x y z:Str}{scope:Scope}{k l:Nat}{c d:Addr}{cl:List (Str×Addr)}(c1:closureFor scope X.env=pure cl)(c2:∀y∈scope.names,y.2≠.cell)(c3:scope.kind=.function)(c4:∀y∈scope.names,y.2=.local->scope.names.lookup y.1=some .local)
 (c5:scope.names.lookup x=some .local) (nd:[x,y,z].Nodup) (hcl:cl=[(z,d),(y,c)]∨cl=[(y,c),(z,d)]) (hc:X.env.cells.lookup y=some c) (hd:X.env.cells.lookup z=some d) (c6:((relabel scope X.env).names.all fun p=>!(p.2==.cell||p.2==.free)||(cl.lookup p.1).isSome)=true)
 (hr:(relabel scope X.env).names.lookup y=some .cell) (hk:X.N[k]?=some y) (hs:X.env.scope.names.lookup y=some .cell)
 (hr2:(relabel scope X.env).names.lookup z=some .cell) (hk2:X.N[l]?=some z) (hs2:X.env.scope.names.lookup z=some .cell):CompScope X x [y,z] [k,l] scope cl where
 clos:=c1
 nocell:=c2
 kind:=c3
 names:=c4
 own:=c5
 nd:=nd
 sub:=fun p hp=>by
  rcases hcl with rfl | rfl
  all_goals
   rcases qC0 hp with e | e
   . rw[e];assumption
   . rw[zM0 e];assumption
 has:=c6
 outs:=fun j w h=>by
  have nyz:y≠z:=fun e=>by simp [e]at nd
  match j,h with
  | 0,h=>
    have e:y=w:=zR0 h;subst e;refine⟨hr,k,c,rfl,hk,?_,hs⟩;rcases hcl with rfl | rfl
    . have:(y==z)=false:=by simpa using nyz
      simp [List.lookup,this]
    . simp [List.lookup]
  | 1,h=>
    have e:z=w:=zR0 h;subst e;refine⟨hr2,l,d,rfl,hk2,?_,hs2⟩;rcases hcl with rfl | rfl
    . simp [List.lookup]
    . have:(z==y)=false:=by simpa using Ne.symm nyz
      simp [List.lookup,this]
  | j+2,h=>simp at h
end L2
namespace Mine
open PySem L2
def uP (x:Str):Prop:=x.length<=20/\(∀c∈x.cps.toList,97<=c/\c<=122)/\x≠"aa"
theorem jK{x:Str}{l u:Option Int}{c:Nat}(h:c∈(Txt.slice x l u).cps.toList):c∈x.cps.toList:=by
 have e:Txt.slice x l u=StrLaws.sliceText x l u:=rfl;rw[e]at h;unfold StrLaws.sliceText at h
 split at h
 . exact h
 . obtain ⟨i,_,hi⟩:=List.mem_filterMap.mp (show c∈(List.filterMap _ _) by simpa using h)
   have:=Array.mem_of_getElem? hi
   simpa using this
theorem mem_append{x y:Str}{c:Nat}(h:c∈(x++y).cps.toList):c∈x.cps.toList∨c∈y.cps.toList:=by
 have e:(x++y).cps.toList=x.cps.toList++y.cps.toList:=by simp [Str.cps_append]
 rw[e]at h;exact zT0 h
theorem wP {zs:List Str} {c:Nat} (h:c∈(Txt.join "" zs).cps.toList):∃z∈zs,c∈z.cps.toList:=by
 have e:Txt.join "" zs=Str.join "" zs:=by
  cases zs with
  | nil=>rfl
  | cons a r=>exact StrLaws.glued_cons "" r a
 rw[e]at h;rcases(PyProof.Rows.mem_join "" c zs).mp h with h | ⟨_,h⟩
 . exact h
 . have e0:(("":Str)).cps.toList=[]:=by decide +kernel
   rw[e0]at h;cases h
inductive Tr where
 | is (x:Str) | yes | no | not (a:Tr) | bin (w:Str) (a b:Tr)
def Tr.size:Tr->Nat
 | .is _=>1 | .yes=>1 | .no=>1 | .not a=>a.size+1 | .bin _ a b=>a.size+b.size+1
def Tr.depth:Tr->Nat
 | .is _=>1 | .yes=>1 | .no=>1 | .not a=>a.depth+1 | .bin _ a b=>max a.depth b.depth+1
def Tr.names:Tr->List Str
 | .is x=>[x] | .yes=>[] | .no=>[] | .not a=>a.names | .bin _ a b=>a.names++b.names
def joinW:List Str:=["and","or","odd","same"]
def Tr.ok(ns:List Str):Tr->Prop
 | .is x=>x∈ns | .yes=>True | .no=>True | .not a=>a.ok ns | .bin w a b=>w∈joinW/\a.ok ns/\b.ok ns
inductive TreeAt(H:Hp):V->Tr->Prop
 | is {a:Addr} {x:Str}:H a=some (.tup [.str "is",.str x])->TreeAt H (.ref a) (.is x)
 | yes {a:Addr}:H a=some (.tup [.str "yes"])->TreeAt H (.ref a) .yes
 | no {a:Addr}:H a=some (.tup [.str "no"])->TreeAt H (.ref a) .no
 | not {a:Addr} {v:V} {t:Tr}:H a=some (.tup [.str "not",v])->TreeAt H v t->TreeAt H (.ref a) (.not t)
 | bin {a:Addr} {w:Str} {v u:V} {t r:Tr}:H a=some (.tup [.str w,v,u])->TreeAt H v t->TreeAt H u r->TreeAt H (.ref a) (.bin w t r)
abbrev bv(H H':Hp):Prop:=∀a xs,H a=some (.tup xs)->H' a=some (.tup xs)
theorem TreeAt.mono{H H':Hp}(k:bv H H'){v:V}{t:Tr}(h:TreeAt H v t):TreeAt H' v t:=by
 induction h with
 | is e=>exact .is (k _ _ e)
 | yes e=>exact .yes (k _ _ e)
 | no e=>exact .no (k _ _ e)
 | not e _ ih=>exact .not (k _ _ e) ih
 | bin e _ _ i1 i2=>exact .bin (k _ _ e) i1 i2
theorem aY{H H':Hp}(s:Same H H'):bv H H':=fun a _ h=>s a _ h
theorem aQ{H H':Hp}{f:Addr}(F:FeedAt H f)(s:SameBut f H H'):bv H H':=fun a xs h=>s a _ (fun z=>by
 obtain⟨o,t,e,_⟩:=F;rw[z,e]at h;cases h) h
def NamesAt(H:Hp)(a:Addr)(ns:List Str):Prop:=H a=some (.lst (ns.map V.str))∨H a=some (.tup (ns.map V.str))
theorem NamesAt.ne{H:Hp}{f a:Addr}{ns:List Str}(F:FeedAt H f)(h:NamesAt H a ns):a≠f:=fun z=>by
 obtain⟨o,t,e,_⟩:=F;subst z;rcases h with h | h
 . rw [e]at h;have h':=HO.lst.inj (zR0 h);cases ns with
   | nil=>cases h'
   | cons x r=>simp at h'
 . rw[e]at h;cases h
theorem NamesAt.feed{H H':Hp}{f a:Addr}{ns:List Str}(F:FeedAt H f)(s:SameBut f H H')(h:NamesAt H a ns):NamesAt H' a ns:=by
 have ne:=h.ne F;rcases h with h | h
 . exact .inl (s _ _ ne h)
 . exact .inr (s _ _ ne h)
theorem NamesAt.same{H H':Hp}{a:Addr}{ns:List Str}(s:Same H H')(h:NamesAt H a ns):NamesAt H' a ns:=by
 rcases h with h | h
 . exact .inl (s _ _ h)
 . exact .inr (s _ _ h)
theorem NamesAt.seq{K:W.Frag}{H:Hp}{a:Addr}{ns:List Str}(h:NamesAt H a ns):SqL K H a (ns.map V.str)∨SqT K H a (ns.map V.str):=by
 rcases h with h | h
 . exact .inl (zE0 h)
 . exact .inr (zB0 h)
theorem NamesAt.ix{K:W.Frag}{H:Hp}{a:Addr}{ns:List Str}{i:Int}{x:V}{Q:VK}(h:NamesAt H a ns)(hx:atI (ns.map V.str) i=some x)(q:Q x H):AD K (.ref a) (.int i) H Q∨AC K (.ref a) (.int i) H Q:=by
 rcases h with h | h
 . exact .inl ⟨a,_,i,x,rfl,rfl,zE0 h,hx,q⟩
 . exact .inr ⟨a,_,i,x,rfl,rfl,zB0 h,hx,q⟩
def kU(n:Nat):Sp:=fun vs H Q _=>∃(f a:Addr)(room deep:Int)(ns:List Str),vs=[.ref f,.ref a,.int room,.int deep]/\FeedAt H f/\NamesAt H a ns/\ns.length<=6/\1<=room/\room<=100/\1<=deep/\deep+1<=(n:Int)+1/\
 ∀(v:V)(t:Tr)(H':Hp),FeedAt H' f->SameBut f H H'->TreeAt H' v t->t.ok ns->(t.size:Int)<=room->(t.depth:Int)<=deep->Q v H'
theorem lV{α:Type}{l:List α}{i:Int}(h0:0<=i)(h:i<(l.length:Int)):∃v,atI l i=some v/\v∈l:=by
 have hk:i.toNat<l.length:=by omega
 have q:atI l ((i.toNat:Nat):Int)=some l[i.toNat]:=cg (zQ0 hk);have ek:((i.toNat:Nat):Int)=i:=by omega
 rw[ek]at q;exact⟨_,q,qT0 hk⟩
end Mine
namespace L2
open PySem PySem.Spec PyProof.Rows
section
variable {X:Cx}
def qd(lo:Int)(n:Nat):List Int:=(List.range n).map fun i:Nat=>lo+(i:Int)
theorem yD(lo:Int)(n:Nat):(qd lo n).length=n:=by unfold qd;rw[zH0,qR0]
theorem wp{lo:Int}{n:Nat}{acc:List Value}(h:ItemsOf (fun i v=>∃t,v=Value.int (lo+(i:Int)*1) t) acc.toArray n):Vals ((qd lo n).map V.int) acc:=by
 obtain⟨h1,h2⟩:=h;have l1:acc.length=n:=by simpa using h1
 have key:∀(k:Nat)(l:List Value),(∀i v,l[i]?=some v->∃t,v=Value.int (lo+((k+i:Nat):Int)) t)->Vals (((List.range' k l.length).map fun i:Nat=>lo+(i:Int)).map V.int) l:=by
  intro k l
  induction l generalizing k with
  | nil=>intro _;exact .nil
  | cons a r ih=>
    intro h;obtain⟨t,e⟩:=h 0 a rfl;rw[qH0,List.range'_succ,qA0,qA0];refine .cons ⟨t,by simpa using e⟩ (ih (k+1) fun i v hv=>?_);obtain⟨t,e⟩:=h (i+1) v (by simpa using hv);exact⟨t,by rw[e];congr 2;omega⟩
 have:=key 0 acc fun i v hv=>by
  obtain⟨t,e⟩:=h2 i v (by simpa using hv);exact⟨t,by simpa using e⟩
 unfold qd;rw[←l1,List.range_eq_range'];exact this
def xM(ta:TA):TE:=fun σ H Q=>ta σ H fun vs H1=>∃i j:Int,vs=[.int i,.int j]/\(-(2 ^ 62)<=i/\i<2 ^ 62/\-(2 ^ 62)<=j/\j<2 ^ 62)/\j-i<=1000/\∀p,H1 p=none->Q (.ref p) (upd H1 p (.lst ((qd i (j-i).toNat).map V.int)))
theorem tW {a b:Expr} {ta:TA} {p1 p2 pos1 pos2:Pos} (hc:X.calm=true) (hg1:Gl X "list") (hm1:X.mg "list"=none) (hg2:Gl X "range") (hm2:X.mg "range"=none) (ha:PA X [a,b] ta)
 (hs1:starEach [(.Call (.Name "range" p2) [a,b] [] pos2:Expr)] X.env=[(false,eval (.Call (.Name "range" p2) [a,b] [] pos2) X.env)]:=by rfl) (hs:starEach [a,b] X.env=[(false,eval a X.env),(false,eval b X.env)]:=by rfl) (hs2:starEach [b] X.env=[(false,eval b X.env)]:=by rfl) :
 PE X (.Call (.Name "list" p1) [.Call (.Name "range" p2) [a,b] [] pos2] [] pos1) (xM ta):=by
 intro pins s σ H Q I h;refine wpAny_Call_Name_kw (gN I hg1 hm1 iN ?_);refine PyProof.Rows.callWith_type1 ?_ hs1 rfl;rw[hs1];show wpAny _ _ (spliced ((false,eval (.Call (.Name "range" p2) [a,b] [] pos2) X.env)::backTo pos1 (starEach [] X.env))) _ _ s;have step:wpAny (model X.prog X.w) X.A (eval (.Call (.Name "range" p2) [a,b] [] pos2) X.env) (fun v s1=>∃(r:Addr) (i j:Int) (t u k:Tok) (H1:Hp),v=.ref r/\Inv X pins σ H1 s1/\IsRange s1.heap r i j 1 t u k/\(-(2 ^ 62)<=i/\i<2 ^ 62/\-(2 ^ 62)<=j/\j<2 ^ 62)/\j-i<=1000/\
  ∀p,H1 p=none->Q (.ref p) (upd H1 p (.lst ((qd i (j-i).toNat).map V.int)))) X.xe s:=by
  refine Call_ (gN I hg2 hm2 boot_range (PyProof.Rows.callWith_type1 (thn (ha pos2 pins s σ H _ I h) fun us s1 ⟨vs,H1,I1,r1,q1⟩=>?_) (by rw[hs,hs2]) (by rw[hs2];rfl)));obtain⟨i,j,e,q1,q2,q⟩:=q1;subst e;cases r1 with
  | cons r rr=>
    cases rr with
    | cons r' rr=>
      cases rr;obtain⟨t,rfl⟩:=r;obtain⟨t',rfl⟩:=r';refine call_range_2 ⟨_,i,j,_,_,_,H1,rfl,I1.kept fun b o e=>zO0 _ e,IsRange.new ..,q1,q2,q⟩
 refine Calls.spliced_cons (thn step fun v s1 hv=>?_);obtain⟨r,i,j,t,u,k,H1,rfl,I1,hr,⟨a1,a2,a3,a4⟩,hle,q⟩:=hv;refine Calls.spliced_nil ?_;have e2:Builtin.Range.rangeSize i j 1=(((j-i).toNat:Nat):Int):=by rw[rangeSize_one];split <;> omega
 refine call_list_range (I1.ok.hd hc) hr (small_one a1 a2 a3 a4) e2 (by omega) fun h' tk acc' c' hk hS hacc=>?_
 obtain⟨acc,rfl⟩:∃acc:List Value,acc'=acc.toArray:=⟨acc'.toList,by simp⟩
 have rr:=wp hacc;have I2:Inv X pins σ (upd H1 s1.heap.objs.size (.lst ((qd i (j-i).toNat).map V.int))) { s1 with heap:=h',toks:=tk }:=by
  refine I1.turnedNew (ch:=[]) (fun b ob _ eb=>hk b ob eb) (fun b hb=>absurd hb (by simp)) (zG0 _) ⟨?_,acc,c',rr,hS⟩;rw[zH0,yD];exact cp (by omega)
 exact⟨.ref s1.heap.objs.size,_,I2,rfl,q _ (I1.hok.fresh (zG0 _))⟩
def rSum(K:W.Frag):List V->Hp->VK->Prop:=fun xs H Q=>∃(a:Addr)(ns:List Int),xs=[.ref a]/\SqL K H a (ns.map V.int)/\(∀n∈ns,0<=n)/\ns.sum<2 ^ 63/\Q (.int ns.sum) H
theorem nP:∀{bs:List Int}{us:List Value}{i:Nat}{v:Value},Vals (bs.map V.int) us->us[i]?=some v->∃b t,bs[i]?=some b/\v=.int b t
 | [],_,_,_,.nil,h=>by simp at h
 | b::_,_,0,_,.cons r _,h=>by
   simp at h
   subst h;obtain⟨t,e⟩:=r;exact⟨b,t,rfl,e⟩
 | _::_,_,i+1,_,.cons _ t,h=>by
   obtain⟨b,t,h1,h2⟩:=nP (i:=i) t (by simpa using h);exact⟨b,t,by simpa using h1,h2⟩
theorem lF{ns:List Int}(h:∀n∈ns,0<=n)(j:Nat):0<=(ns.take j).sum/\(ns.take j).sum<=ns.sum:=by
 induction ns generalizing j with
 | nil=>simp
 | cons a r ih=>
   cases j with
   | zero=>
     have:=ih (fun n hn=>h n (qL0 _ hn)) r.length
     rw[qI0]at this;have a0:=h a qG0;simp only[List.take_zero,List.sum_nil,List.sum_cons];omega
   | succ j=>
     have:=ih (fun n hn=>h n (qL0 _ hn)) j
     have a0:=h a qG0;simp only[List.take_succ_cons,List.sum_cons];omega
theorem lJ(ns:List Int)(j:Nat):preSum (fun i=>ns[i]?.getD 0) j=(ns.take j).sum:=by
 induction j with
 | zero=>simp;rfl
 | succ j ih=>
   show preSum (fun i=>ns[i]?.getD 0) j+(fun i=>ns[i]?.getD 0) j=_;rw[ih,qJ0,List.sum_append];cases e:ns[j]? with
   | none=>simp [e]
   | some x=>simp [e]
theorem ow (hc:X.calm=true):iC X (.builtin "sum") (rSum X.K):=by
 intro pins s σ H xs us Q I r h;obtain⟨a,ns,rfl,hq,n0,nb,q⟩:=h;obtain⟨u,rfl,ru⟩:=lE r;cases ru;obtain⟨its,r',p,hz⟩:=I.list hq;have hl:=r'.length;rw[zH0]at hl;have hlt:a<s.heap.objs.size:=by obtain⟨o,n,e,_⟩:=p;exact zN0 e
 refine call_sum_walk (wpAny_pyIter_list p.isList ?_);refine⟨s.heap.objs.size,_,_,_,_,_,fun i=>ns[i]?.getD 0,rfl,Walks.list (A:=X.A.in1) (I.ok.hd hc) s.heap.objs.size a (zS0 hlt) its.toArray,⟨⟨_,zV0 _ rfl,rfl,rfl⟩,p.isList.push _⟩,?_,?_,?_,?_⟩
 . intro b hb;have hpz:∀o:Obj,(s.heap.push o).objs.size=s.heap.objs.size+1:=fun o=>by simp [Heap.push]
   show b<(s.heap.push _).objs.size;rw[hpz];rcases qC0 hb with e | e
   . rw[e];exact Nat.lt_succ_self _
   . rw[zM0 e];exact Nat.lt_succ_of_lt hlt
 . intro i v hP;obtain⟨b,t,hb,rfl⟩:=nP r' (i:=i) (v:=v) (by simpa using hP);exact⟨t,by simp [hb]⟩
 . intro j hj;have hj':j<ns.length:=by rw[hl];simpa using hj
   have s1:=lF n0 (j+1);rw[lJ];refine⟨?_,by unfold InLong;omega⟩;have s2:=lF n0 j;have e:(ns.take (j+1)).sum=(ns.take j).sum+ns[j]:=by rw[qJ0,List.sum_append,zQ0 hj'];simp
   have n1:=n0 _ (qT0 hj');show InLong (ns[j]?.getD 0);rw[zQ0 hj'];show InLong ns[j];unfold InLong;omega
 . intro h' tk t' hk;rw[lJ,zP0,←hl,qI0];refine⟨.int _,H,?_,⟨_,rfl⟩,q⟩;have I1:Inv X pins σ H { s with heap:=s.heap.push { cls:=.type "list_iterator",data:=.fields #[.ref a,.int 0 0] } }:=I.kept (t':=s.toks) fun b o e=>zO0 _ e
   refine I1.turnedL (t':=tk) (ch:=[s.heap.objs.size]) (fun b o hb e=>hk b o (by simpa using hb) e) fun b hb=>?_
   rw[zM0 hb];exact I.fpOk (zG0 _) (I.hok.fresh (zG0 _))
end
theorem vk:Slot "reversed" "__iter__" "reversed.__iter__":=Slot.of (owner:="reversed") (n:="__iter__") (by rw[typeLookup_type,builtinLookup_eq_fast];kernel_rfl) (by decide +kernel) (by decide +kernel) (by decide +kernel) (by first | exact .inl (by decide +kernel) | exact .inr (by decide +kernel)) (by rw[isSubtype_type];kernel_rfl) (by decide +kernel)
theorem rv_next:Slot "reversed" "__next__" "reversed.__next__":=Slot.of (owner:="reversed") (n:="__next__") (by rw[typeLookup_type,builtinLookup_eq_fast];kernel_rfl) (by decide +kernel) (by decide +kernel) (by decide +kernel) (by first | exact .inl (by decide +kernel) | exact .inr (by decide +kernel)) (by rw[isSubtype_type];kernel_rfl) (by decide +kernel)
theorem xK:typeLookup (.type "tuple") "__reversed__"=pure none:=by rw[typeLookup_type,builtinLookup_eq_fast];kernel_rfl
theorem wj:entryFor table "reversed.__iter__"=some Builtin.«dict_keyiterator.__iter__»:=entryFor_alias (by kernel_rfl) rfl (show _="dict_keyiterator.__iter__" by decide +kernel) (by kernel_rfl)
theorem pc:entryFor table "reversed.__next__"=some Builtin.«reversed.__next__»:=entryFor_of_tree (by kernel_rfl)
def RevT (h:Heap) (it t:Addr) (i:Int):Prop:=h.get? it=some { cls:=.type "reversed",data:=.fields #[.ref t,rawInt i] }
section
variable {prog:Program} {w:World} {A:Around} {E:Value->Shared->Prop} {s:Shared} {R:Result->Shared->Prop} {it t:Addr}
theorem RevT.typeIs {i:Int} (h:RevT s.heap it t i):s.TypeIs (.ref it) "reversed":=⟨_,h,rfl⟩
theorem pA{i:Int}{Q:Value->Shared->Prop}(h:RevT s.heap it t i)(q:Q (.ref it) s):wpAny (model prog w) A (pyIter (.ref it)) Q E s:=
 wpAny_pyIter_slot h.typeIs vk (wpAny_call_entry vk h.typeIs wj (zI0 ⟨_,rfl,"reversed",_,h.typeIs,rv_next.lookup,q⟩) (by rfl))
theorem nC{i:Nat}{items:Array Value}{x:Value}{Q:Option Value->Shared->Prop}(h:RevT s.heap it t (i:Int))(ht:IsTup s.heap t items)(hx:items[i]?=some x)(hi:(i:Int)<2 ^ 63)
 (q:∀h' tk,RevT h' it t ((i:Int)-1)->Heap.SameBut it s.heap h'->Q (some x) { s with heap:=h',toks:=tk }):wpAny (model prog w) A (pyNext (.ref it)) Q E s:=by
 have hT:=h.typeIs;have hs:i<items.size:=(Array.getElem?_eq_some_iff.mp hx).1;unfold pyNext;refine zA0 (wpAny_attempt (wpAny_callSpecial?_slot hT rv_next (wpAny_call_entry rv_next hT pc ?_ (by rfl))));unfold Builtin.«reversed.__next__»;refine zA0 (wpAny_of_eq (show slotArgs "__next__" 0 ⟨[.ref it],[]⟩=pure (.ref it,[])from rfl) ?_);refine zA0 (wpAny_field h rfl rfl ?_);refine zA0 (wpAny_field h rfl rfl ?_);refine wpAny_ite_split (fun hab=>absurd hab (by omega)) (fun _=>?_);refine zA0 (wpAny_specialOf (show s.TypeIs (.ref t) "tuple" from ht.typeIs) PyProof.Rows.slot_tuple_getitem.lookup ?_);refine wpAny_ite_split (fun hab=>absurd hab (by simp)) (fun _=>?_);refine zA0 (wpAny_mkInt ?_);have e1:seqIndex? (i:Int) items.size=some i:=(qB (by unfold ixN;rw[zF0 (by omega),zF0 (by omega)];simp)).1;refine zA0 (wpAny_attempt (PyProof.Rows.getItem_tuple (items:=items) (x:=x) ht (by omega) hi e1 hx ?_));refine zA0 (wpAny_field h rfl rfl ?_);refine zA0 (wpAny_setField_rec h (by simp) fun h' e hb=>?_);refine zI0 ⟨_,rfl,zI0 (q h' _ ?_ hb)⟩;exact e
theorem oM{Q:Option Value->Shared->Prop}(hh:A.handled=none)(h:RevT s.heap it t (-1))
 (q:∀h' tk,Heap.ExtBut it s.heap h'->Q none { s with heap:=h',toks:=tk }):wpAny (model prog w) A (pyNext (.ref it)) Q E s:=by
 have hT:=h.typeIs;unfold pyNext;refine zA0 (wpAny_attempt (wpAny_callSpecial?_slot hT rv_next (wpAny_call_entry rv_next hT pc ?_ (by rfl))));unfold Builtin.«reversed.__next__»;refine zA0 (wpAny_of_eq (show slotArgs "__next__" 0 ⟨[.ref it],[]⟩=pure (.ref it,[])from rfl) ?_);refine zA0 (wpAny_field h rfl rfl ?_);refine zA0 (wpAny_field h rfl rfl ?_);refine wpAny_ite_split (fun _=>?_) (fun hab=>absurd (by decide) hab);refine zA0 (wpAny_rule ?_);refine zA0 ?_;show wpAny _ _ (setField (.ref it) 1 (rawInt (-1)) >>= fun _=>setField (.ref it) 0 Value.none) _ _ _;refine zA0 (wpAny_setField_rec h (by simp) fun h1 e1 b1=>?_);refine wpAny_setField_rec e1 (by simp) fun h2 e2 b2=>?_
 refine zA0 ?_;unfold Builtin.SmallTypes.stopIteration newExc newTuple;refine zA0 (zA0 (wpAny_newObj_type ?_ (by show 0<=sizeLine;decide)));refine zA0 (wpAny_of_eq (show firstArgMember (.type "StopIteration") []=pure .none by with_unfolding_all rfl) ?_);refine wpAny_newObj_type ?_ (sizeOk_excFields ..);refine wpAny_raiseNew_none hh ?_;refine zA0 (wpAny_isInstance (T:="StopIteration") ⟨_,zV0 _ rfl,rfl⟩ isSubtype_stop ?_);refine wpAny_ite_split (fun _=>?_) (fun hab=>absurd rfl hab);refine zI0 (q _ _ ?_);exact(b1.extBut.trans b2.extBut).trans fun b o hb e=>zO0 _ (zO0 _ e)
theorem AA:Slot "reversed" "__init__" "object.__init__":=Slot.of (owner:="object") (n:="__init__") (by rw[typeLookup_type,builtinLookup_eq_fast];kernel_rfl) (by decide +kernel) (by decide +kernel) (by decide +kernel) (by first | exact .inl (by decide +kernel) | exact .inr (by decide +kernel)) (by rw[isSubtype_type];kernel_rfl) (by decide +kernel)
theorem wk:TypeCalled "reversed" "reversed.__new__" "object.__init__":=⟨by decide,F.create_reversed,⟨_,_,F.mro_reversed⟩,F.made_reversed,F.plain_reversed_new,F.sub_reversed_self,AA⟩
theorem vU:isSubtype (.type "tuple") (.type "dict")=pure false:=by rw[isSubtype_type];kernel_rfl
theorem kL{items:Array Value}{Q:Value->Shared->Prop}(ht:IsTup s.heap t items)(hz:items.size<=sizeLine)
 (q:∀tk,Q (.ref s.heap.objs.size) { s with heap:=s.heap.push { cls:=.type "reversed",data:=.fields #[.ref t,rawInt ((items.size:Int)-1)] },toks:=tk }):wpAny (model prog w) A (call (.type "reversed") [.ref t]) Q E s:=by
 have h63:=iK;refine callType_newIn wk (by decide) (F.typeCall_reversed_1 _) (F.newCall_reversed_1 _) (fun _=>by rfl) F.entry_reversed_new
  (S:=fun A R s=>wpAny (model prog w) A.in1 (Builtin.«reversed.__new__» ⟨[.type "reversed",.ref t],[]⟩) (fun fin s'=>match fin with | .done f=>R (.ok f) s' | .again c'=>c'.quiet=true/\codeAny (model prog w) A c' R s') (fun e s'=>R (.error e) s') s) (fun A R s h=>h) ?_
 unfold Builtin.«reversed.__new__»;refine zA0 (wpAny_of_eq (newClass_reversed _) ?_);refine zA0 (wpAny_of_eq (a:=()) rfl ?_);refine zA0 (wpAny_of_eq (a:=()) rfl ?_);refine zA0 (wpAny_specialOf ht.typeIs xK ?_);refine zA0 ?_;refine zA0 (wpAny_isInstance ht.typeIs vU ?_);refine wpAny_ite_split (fun hab=>absurd hab (by decide)) (fun _=>?_);refine zA0 (wpAny_specialOf ht.typeIs PyProof.Rows.slot_tuple_getitem.lookup ?_);refine wpAny_ite_split (fun _=>?_) (fun hab=>absurd (by decide +kernel) hab);refine zI0 ?_;refine wpAny_ite_split (fun hab=>absurd hab (by decide)) (fun _=>?_);refine zA0 (len_tuple ht (by omega) ?_);refine zA0 (zI0 ?_);refine zA0 (wpAny_newObj_type (data:=.fields #[.ref t,rawInt ((items.size:Int)-1)]) ?_ (by show 2<=sizeLine+2;decide));refine zI0 ?_;exact⟨⟨_,zV0 _ rfl,rfl⟩,q _⟩
end
end L2
namespace Mine
open PySem L2
def Tr.wf:Tr->Prop
 | .is x=>uP x | .yes=>True | .no=>True | .not a=>a.wf | .bin w a b=>w∈joinW/\a.wf/\b.wf
def Tr.parts:Tr->List Tr
 | .is _=>[] | .yes=>[] | .no=>[] | .not a=>[a] | .bin _ a b=>[a,b]
theorem Tr.ok_wf{ns:List Str}(hn:∀x∈ns,uP x):∀t:Tr,t.ok ns->t.wf
 | .is _,h=>hn _ h
 | .yes,_=>trivial
 | .no,_=>trivial
 | .not a,h=>Tr.ok_wf hn a h
 | .bin _ a b,⟨h,h1,h2⟩=>⟨h,Tr.ok_wf hn a h1,Tr.ok_wf hn b h2⟩
theorem Tr.depth_pos:∀t:Tr,1<=t.depth
 | .is _=>zG0 _ | .yes=>zG0 _ | .no=>zG0 _ | .not a=>Nat.le_add_left .. | .bin _ a b=>Nat.le_add_left ..
def kc(ts:List Tr):Nat:=(ts.map Tr.size).sum
def gK(ts:List Tr):List Str:=(ts.map Tr.names).flatten
theorem Tr.size_parts(t:Tr):t.size=kc t.parts+1:=by
 cases t <;> simp [Tr.size,Tr.parts,kc]
theorem Tr.names_parts(t:Tr)(h:∀x,t≠.is x):t.names=gK t.parts:=by
 cases t with
 | is x=>exact absurd rfl (h x)
 | _=>simp [Tr.names,Tr.parts,gK]
theorem Tr.parts_mem{t u:Tr}(h:u∈t.parts)(w:t.wf):u.wf/\u.depth+1<=t.depth/\u.size+1<=t.size:=by
 cases t with
 | is x=>simp [Tr.parts]at h
 | yes=>simp [Tr.parts]at h
 | no=>simp [Tr.parts]at h
 | not a=>
   rw[zM0 h];exact⟨w,zG0 _,zG0 _⟩
 | bin o a b=>
   obtain⟨_,w1,w2⟩:=w;rcases qC0 h with e | e
   . rw [e];refine⟨w1,?_,?_⟩
     . show a.depth+1<=max a.depth b.depth+1;omega
     . show a.size+1<=a.size+b.size+1;omega
   . rw [zM0 e];refine⟨w2,?_,?_⟩
     . show b.depth+1<=max a.depth b.depth+1;omega
     . show b.size+1<=a.size+b.size+1;omega
inductive TreesAt(H:Hp):List V->List Tr->Prop
 | nil:TreesAt H [] []
 | cons {v:V} {t:Tr} {vs:List V} {ts:List Tr}:TreeAt H v t->TreesAt H vs ts->TreesAt H (v::vs) (t::ts)
theorem TreesAt.mono{H H':Hp}(k:bv H H'){vs:List V}{ts:List Tr}(h:TreesAt H vs ts):TreesAt H' vs ts:=by
 induction h with
 | nil=>exact .nil
 | cons a _ ih=>exact .cons (a.mono k) ih
theorem TreesAt.length{H:Hp}{vs:List V}{ts:List Tr}(h:TreesAt H vs ts):vs.length=ts.length:=by
 induction h with
 | nil=>rfl
 | cons _ _ ih=>rw[qH0,qH0,ih]
theorem TreesAt.get{H:Hp}{vs:List V}{ts:List Tr}(h:TreesAt H vs ts):∀{i:Nat}{v:V},vs[i]?=some v->∃t,ts[i]?=some t/\TreeAt H v t:=by
 induction h with
 | nil=>intro i v e;simp at e
 | cons a _ ih=>
   intro i v e;cases i with
   | zero=>cases(zR0 e);exact⟨_,rfl,a⟩
   | succ i=>exact ih (i:=i) (by simpa using e)
theorem uC {w:Str} (h:w∈joinW):w≠"is":=(by decide +kernel:∀w∈joinW,w≠("is":Str)) w h
theorem TreeAt.view {H:Hp} {v:V} {t:Tr} (h:TreeAt H v t) (w:t.wf):(∃(a:Addr) (x:Str),v=.ref a/\t=.is x/\uP x/\H a=some (.tup [.str "is",.str x]))∨
 ∃(a:Addr) (o:Str) (xs:List V),v=.ref a/\o≠"is"/\xs.length<=2/\H a=some (.tup (.str o::xs))/\TreesAt H xs t.parts/\(∀x,t≠.is x):=by
 cases h with
 | is e=>exact .inl ⟨_,_,rfl,rfl,w,e⟩
 | yes e=>exact .inr ⟨_,_,[],rfl,by decide +kernel,by simp,e,.nil,fun x z=>by cases z⟩
 | no e=>exact .inr ⟨_,_,[],rfl,by decide +kernel,by simp,e,.nil,fun x z=>by cases z⟩
 | not e g=>exact .inr ⟨_,_,[_],rfl,by decide +kernel,by simp,e,.cons g .nil,fun x z=>by cases z⟩
 | bin e g g2=>exact .inr ⟨_,_,[_,_],rfl,uC w.1,by simp,e,.cons g (.cons g2 .nil),fun x z=>by cases z⟩
theorem cut1(o:V):∀xs:List V,xs.length<=2->jM (o::xs) (some 1) none=xs/\¬ (HT.sIx (o::xs).length 0 (some 1)=0/\HT.sIx (o::xs).length (o::xs).length none=(o::xs).length)
 | [],_=>⟨rfl,fun h=>absurd h.1 (show ¬ HT.sIx 1 0 (some 1)=0 by decide)⟩
 | [_],_=>⟨rfl,fun h=>absurd h.1 (show ¬ HT.sIx 2 0 (some 1)=0 by decide)⟩
 | [_,_],_=>⟨rfl,fun h=>absurd h.1 (show ¬ HT.sIx 3 0 (some 1)=0 by decide)⟩
 | _::_::_::_,h=>absurd h (by simp)
theorem Tr.names_len:∀t:Tr,t.names.length<=t.size
 | .is _=>zG0 _
 | .yes=>qB0 _
 | .no=>qB0 _
 | .not a=>Nat.le_succ_of_le (Tr.names_len a)
 | .bin _ a b=>by
   have:=Tr.names_len a
   have:=Tr.names_len b
   show(a.names++b.names).length<=a.size+b.size+1;rw[zL0];omega
end Mine
namespace L2
open PySem PySem.Spec PyProof.Rows
section
variable {prog:Program} {w:World} {A:Around} {E:Value->Shared->Prop} {s:Shared}
def Dw(xs:Array Value)(x:Value):Nat->Option PySem.Fin×Unit->Sem (ForInStep (Option PySem.Fin×Unit)):=fun i _=>match xs[i]? with
 | some y=>do
   let b ←eqBool y x
   if b=true then do
    let r ←retInt (i:Int)
    pure (ForInStep.done (some r,()))
    else pure (ForInStep.yield (none,()))
 | _=>pure (ForInStep.yield (none,()))
theorem sx{xs:Array Value}{x:Value}{e:Value->Bool}(he:∀y∈xs,SeqAt.EqAt A s y x (e y)){j:Nat}(hj:j<xs.size)(ej:e xs[j]=true)(bf:∀(m:Nat) (hm:m<xs.size),m<j->e xs[m]=false){Q:Option PySem.Fin×Unit->Shared->Prop}
 (q:Q (some (.done (.ret (.int (j:Int) s.toks))),()) { s with toks:=s.toks+1 }):∀(n k:Nat),k<=j->j<k+n->k+n<=xs.size->wpAny (model prog w) A (forIn (List.range' k n 1) ((none:Option PySem.Fin),()) (Dw xs x)) Q E s
 | 0,k,h1,h2,_=>absurd h2 (by omega)
 | n+1,k,h1,h2,h3=>by
   have hk:k<xs.size:=by omega
   rw [List.range'_succ,List.forIn_cons];refine zA0 ?_;have e1:Dw xs x k ((none:Option PySem.Fin),())=(do
    let b ←eqBool xs[k] x
    if b=true then do
     let r ←retInt (k:Int)
     pure (ForInStep.done (some r,()))
     else pure (ForInStep.yield (none,()))):=by
    unfold Dw;rw[Array.getElem?_eq_getElem hk]
   rw[e1];refine zA0 (he _ (Array.getElem_mem hk) prog w _ _ ?_)
   by_cases c:k=j
   . subst c;rw[ej];refine wpAny_ite_split (fun _=>?_) (fun hab=>absurd rfl hab);refine zA0 ?_;refine zA0 (wpAny_mkInt ?_);refine zI0 ?_;refine zI0 ?_;exact zI0 q
   . rw[bf k hk (by omega)];refine wpAny_ite_split (fun hab=>absurd hab (by decide)) (fun _=>?_);refine zI0 ?_;exact sx he hj ej bf q n (k+1) (by omega) (by omega) (by omega)
theorem nI(l:Addr)(items:Array Value)(n:Nat)(dd:Option Addr)(sl:Array (Option Value))(x:Value)(e:Value->Bool)(j:Nat)(hj:j<items.size)(ej:e items[j]=true)(bf:∀(m:Nat) (hm:m<items.size),m<j->e items[m]=false) :
 Meets (Builtin.«tuple.index» { pos:=[.ref l,x] }) fun A R s=>s.heap.get? l=some { cls:=.type "tuple",dict:=dd,data:=.seq items n,slots:=sl }/\(∀y∈items,SeqAt.EqAt A.in1 s y x (e y))/\R (.ok (.ret (.int (j:Int) s.toks))) { s with toks:=s.toks+1 }:=by
 intro prog w A R s ⟨hl,he,q⟩;unfold Builtin.«tuple.index»;refine zA0 (wpAny_of_eq (a:=(Value.ref l,[x])) rfl ?_);refine zA0 (wpAny_tupleItemsOf hl rfl ?_);refine zA0 (zI0 ?_);refine zA0 (zI0 ?_);refine zA0 ?_;rw[Std.Legacy.Range.forIn_eq_forIn_range'];have e1:Std.Legacy.Range.size [0:min items.size items.size]=items.size:=by simp [Std.Legacy.Range.size]
 rw[e1];refine sx he hj ej bf ?_ items.size 0 (qB0 _) (by omega) (by omega);exact zI0 q
end
section
variable {X:Cx}
def cO(z:Str):List Str->Option Nat
 | []=>none
 | a::r=>if a=z then some 0 else(cO z r).map (·+1)
theorem nu{z:Str}:∀{ns:List Str}{j:Nat},cO z ns=some j->ns[j]?=some z/\∀m,m<j->∀y,ns[m]?=some y->y≠z
 | [],_,h=>by simp [cO]at h
 | a::r,j,h=>by
   unfold cO at h
   by_cases c:a=z
   . rw[zF0 c]at h;cases h;exact⟨by simp [c],fun m hm=>absurd hm (by omega)⟩
   . rw [zD0 c]at h;obtain⟨i,hi,rfl⟩:=qW0 h;obtain⟨h1,h2⟩:=nu hi;refine⟨by simpa using h1,fun m hm y hy=>?_⟩;cases m with
     | zero=>cases(zR0 hy);exact c
     | succ m=>exact h2 m (by omega) y (by simpa using hy)
theorem mz:∀{bs:List Str}{us:List Value}{i:Nat}{v:Value},Vals (bs.map V.str) us->us[i]?=some v->∃b t,bs[i]?=some b/\v=.str b t
 | [],_,_,_,.nil,h=>by simp at h
 | b::_,_,0,_,.cons r _,h=>by
   simp at h
   subst h;obtain⟨t,e⟩:=r;exact⟨b,t,rfl,e⟩
 | _::_,_,i+1,_,.cons _ t,h=>by
   obtain⟨b,t,h1,h2⟩:=mz (i:=i) t (by simpa using h);exact⟨b,t,by simpa using h1,h2⟩
theorem gC(ns:List Str):(ns.map V.str).all iR=true:=by
 induction ns with
 | nil=>rfl
 | cons a r ih=>rw[qA0,List.all_cons,ih];rfl
theorem lT{ns:List Str}{its:List Value}{z:Str}{j:Nat}(r:Vals (ns.map V.str) its)(h:cO z ns=some j) :
 ∃hj:j<its.toArray.size,eqU (.str z) its.toArray[j]=true/\∀(m:Nat)(hm:m<its.toArray.size),m<j->eqU (.str z) its.toArray[m]=false:=by
 obtain⟨h1,h2⟩:=nu h;have hl:=r.length;rw[zH0]at hl;have jl:j<ns.length:=(zW0 h1).1;have hj:j<its.toArray.size:=by rw[zP0,←hl];exact jl
 refine⟨hj,?_,fun m hm mj=>?_⟩
 . obtain ⟨b,t,e1,e2⟩:=mz r (i:=j) (v:=its.toArray[j]) (by simp);rw[e2];rw[h1]at e1;cases e1;show(z==z)=true
   simp
 . obtain ⟨b,t,e1,e2⟩:=mz r (i:=m) (v:=its.toArray[m]) (by simp);rw[e2];show(b==z)=false
   have:=h2 m mj b e1
   simpa using this
def AE(K:W.Frag):V->List V->Hp->VK->Prop:=fun x vs H Q=>∃(a:Addr)(ns:List Str)(z:Str)(j:Nat),x=.ref a/\vs=[.str z]/\SqT K H a (ns.map V.str)/\cO z ns=some j/\Q (.int (j:Int)) H
theorem wL:MtR X "tuple.index" (AE X.K):=by
 intro pins s σ H x vs v us Q I rx rv h;obtain⟨a,ns,z,j,rfl,rfl,hq,hp,q⟩:=h;cases rx;obtain⟨u,rfl,ru⟩:=rv.one;obtain⟨its,r,⟨⟨cls,dd,data,sl⟩,ho,hc,n,hd⟩,hz⟩:=I.tuple hq;simp only at hc hd;subst hc hd;obtain⟨hj,e1,e2⟩:=lT r hp;refine call_meets F.slot_tuple_index ⟨_,ho,rfl⟩ F.entry_tuple_index (F.args_tuple_index_2 _ _) (nI a its.toArray n dd sl u (eqU (.str z)) j hj e1 e2) ⟨ho,fun y hy=>?_,?_⟩
 . exact fK ru rfl r (gC ns) y (by simpa using hy)
 . exact⟨.int (j:Int),H,I.tok _,⟨_,rfl⟩,q⟩
def AG(K:W.Frag):V->List V->Hp->VK->Prop:=fun x vs H Q=>∃(a:Addr)(ns:List Str)(z:Str)(j:Nat),x=.ref a/\vs=[.str z]/\SqL K H a (ns.map V.str)/\cO z ns=some j/\Q (.int (j:Int)) H
theorem wM:MtR X "list.index" (AG X.K):=by
 intro pins s σ H x vs v us Q I rx rv h;obtain⟨a,ns,z,j,rfl,rfl,hq,hp,q⟩:=h;cases rx;obtain⟨u,rfl,ru⟩:=rv.one;obtain⟨its,r,⟨⟨cls,dd,data,sl⟩,n,ho,hc,hdd,hd⟩,hz⟩:=I.list hq;simp only at hc hd;subst hc hd;obtain⟨hj,e1,e2⟩:=lT r hp;have h63:=iK;have hl:=r.length;refine call_meets F.slot_list_index ⟨_,ho,rfl⟩ F.entry_list_index (F.args_list_index_2 _ _) (SeqAt.list_indexAt a its.toArray n dd sl u (eqU (.str z)) j hj (by rw[zP0]at hj;omega) e1 e2) ⟨ho,fun y hy=>?_,?_⟩
 . exact fK ru rfl r (gC ns) y (by simpa using hy)
 . exact⟨.int (j:Int),H,I.tok _,⟨_,rfl⟩,q⟩
end
section
variable {κ:Type} [DecidableEq κ]
def bQ(kvs:List (κ×V))(k:κ):Option V:=(kvs.find? fun kv=>decide (kv.1=k)).map (·.2)
def fj(kvs:List (κ×V))(k:κ)(v:V):List (κ×V):=
 if(kvs.any fun kv=>decide (kv.1=k))=true then kvs.map (fun kv=>if kv.1=k then(kv.1,v)else kv)else kvs++[(k,v)]
theorem cZ{p:κ×V}{r:List (κ×V)}{k:κ}(e:p.1=k):bQ (p::r) k=some p.2:=by simp [bQ,List.find?_cons,e]
theorem da{p:κ×V}{r:List (κ×V)}{k:κ}(e:¬ p.1=k):bQ (p::r) k=bQ r k:=by simp [bQ,List.find?_cons,e]
theorem jX(k:κ):∀kvs:List (κ×V),(kvs.any fun kv=>decide (kv.1=k))=(bQ kvs k).isSome
 | []=>rfl
 | p::r=>by
   rw[List.any_cons]
   by_cases e:p.1=k
   . simp only[cZ e,decide_eq_true e,Bool.true_or,Option.isSome_some]
   . rw[da e,decide_eq_false e,Bool.false_or];exact jX k r
theorem qP(k j:κ)(y:V):∀kvs:List (κ×V),bQ (kvs.map fun kv=>if kv.1=k then(kv.1,y)else kv) j=(bQ kvs j).map fun x=>if j=k then y else x
 | []=>rfl
 | p::r=>by
   have ih:=qP k j y r;rw[qA0]
   by_cases h:p.1=k
   . rw [zF0 h]
     by_cases e:p.1=j
     . rw[cZ (p:=(p.1,y)) e,cZ e,Option.map_some,zF0 (e.symm.trans h)]
     . rw[da (p:=(p.1,y)) e,da e,ih]
   . rw [zD0 h]
     by_cases e:p.1=j
     . rw[cZ (p:=p) e,cZ e,Option.map_some,zD0 (fun z=>h (e.trans z))]
     . rw[da (p:=p) e,da e,ih]
theorem oQ(k j:κ)(y:V):∀kvs:List (κ×V),bQ kvs k=none->bQ (kvs++[(k,y)]) j=if j=k then some y else bQ kvs j
 | [],_=>by
   by_cases e:k=j
   . rw[zF0 e.symm];exact cZ (p:=(k,y)) e
   . rw[zD0 (fun z=>e z.symm)];exact da (p:=(k,y)) e
 | p::r,hn=>by
   rw[List.cons_append];have hk:¬ p.1=k:=fun z=>by rw[cZ z]at hn;cases hn
   rw[da hk]at hn;have ih:=oQ k j y r hn
   by_cases e:p.1=j
   . rw[cZ e,cZ e,zD0 (fun z=>hk (e.trans z))]
   . rw[da e,da e,ih]
theorem iX(kvs:List (κ×V))(k j:κ)(y:V):bQ (fj kvs k y) j=if j=k then some y else bQ kvs j:=by
 unfold fj
 by_cases a:(kvs.any fun kv=>decide (kv.1=k))=true
 . rw [zF0 a,qP];rw[jX]at a
   by_cases e:j=k
   . obtain⟨x,hx⟩:=Option.isSome_iff_exists.mp a;rw[zF0 e,e,hx,Option.map_some,zF0 rfl]
   . rw [zD0 e];cases bQ kvs j with
     | none=>rfl
     | some x=>rw[Option.map_some,zD0 e]
 . rw [zD0 a];refine oQ k j y kvs ?_;rw[jX]at a;cases q:bQ kvs k with
   | none=>rfl
   | some x=>rw[q]at a;exact(a rfl).elim
theorem dX(kvs:List (κ×V))(k:κ)(v:V):(fj kvs k v).length<=kvs.length+1:=by
 unfold fj
 split
 . rw[zH0];omega
 . rw[zL0,qH0,List.length_nil];omega
theorem RelO.isSome_eq{o:Option V}{u:Option Value}(r:RelO o u):o.isSome=u.isSome:=by
 cases o with
 | none=>cases u with
   | none=>rfl
   | some _=>exact(show False from r).elim
 | some _=>cases u with
   | none=>exact(show False from r).elim
   | some _=>rfl
theorem RelO.getD{o:Option V}{u:Option Value}{d:V}{d':Value}(r:RelO o u)(rd:RelV d d'):RelV (o.getD d) (u.getD d'):=by
 cases o with
 | none=>cases u with
   | none=>exact rd
   | some _=>exact(show False from r).elim
 | some _=>cases u with
   | none=>exact(show False from r).elim
   | some _=>exact r
theorem KV.val{kvs:List (κ×V)}{vs:List (κ×Value)}(r:KV kvs vs)(k:κ):RelO (bQ kvs k) (valueAt vs k):=by
 unfold KV at r
 induction r with
 | nil=>exact True.intro
 | @cons p q ps qs h t ih=>
   obtain⟨h1,h2⟩:=h
   by_cases e:p.1=k
   . have e':q.1=k:=h1.symm.trans e;have b:valueAt (q::qs) k=some q.2:=by simp [valueAt,List.find?_cons,e']
     rw[cZ e,b];exact h2
   . have e':¬ q.1=k:=fun z=>e (h1.trans z)
     have b:valueAt (q::qs) k=valueAt qs k:=by simp [valueAt,List.find?_cons,e']
     rw[da e,b];exact ih
theorem KV.any{kvs:List (κ×V)}{vs:List (κ×Value)}(r:KV kvs vs)(k:κ):(kvs.any fun kv=>decide (kv.1=k))=vs.any fun kv=>decide (kv.1=k):=by
 unfold KV at r
 induction r with
 | nil=>rfl
 | cons h t ih=>rw[List.any_cons,List.any_cons,ih,h.1]
theorem KV.repl{kvs:List (κ×V)}{vs:List (κ×Value)}(r:KV kvs vs)(k:κ){y:V}{u:Value}(ry:RelV y u) :
 KV (kvs.map fun kv=>if kv.1=k then(kv.1,y)else kv) (vs.map fun kv=>if kv.1=k then(kv.1,u)else kv):=by
 unfold KV at r ⊢
 induction r with
 | nil=>exact .nil
 | @cons p q ps qs h t ih=>
   rw[qA0,qA0];refine .cons ?_ ih;obtain⟨h1,h2⟩:=h
   by_cases e:p.1=k
   . rw[zF0 e,zF0 (h1.symm.trans e)];exact⟨h1,ry⟩
   . rw[zD0 e,zD0 (fun z=>e (h1.trans z))];exact⟨h1,h2⟩
theorem KV.put{kvs:List (κ×V)}{vs:List (κ×Value)}(r:KV kvs vs)(k:κ){y:V}{u:Value}(ry:RelV y u):KV (fj kvs k y) (stored vs k u):=by
 unfold fj stored;rw[r.any k]
 by_cases e:(vs.any fun kv=>decide (kv.1=k))=true
 . rw[zF0 e,zF0 e];exact r.repl k ry
 . rw[zD0 e,zD0 e];exact Paired.snoc r ⟨rfl,ry⟩
theorem KV.length{kvs:List (κ×V)}{vs:List (κ×Value)}(r:KV kvs vs):kvs.length=vs.length:=Paired.length r
end
theorem nO{P:Program}{w:World}{k:Key}{u:Value}(r:RelV (kV k) u):(bj P w).is k u=true:=by
 cases k with
 | inl i=>obtain⟨t,e⟩:=(show ∃t,u=Value.int i t from r);subst e;exact sn P w i t
 | inr x=>obtain⟨t,e⟩:=(show ∃t,u=Value.str x t from r);subst e;exact sk P w x t
theorem pB{P:Program}{w:World}:∀{ks:List Key}{us:List Value},Vals (ks.map kV) us->ItemsAre (bj P w) ks us
 | [],_,r=>by rw[List.map_nil]at r;cases r;exact .nil
 | k::ks,_,r=>by
   rw[qA0]at r;cases r with
   | cons h t=>exact .cons (nO h) (pB t)
abbrev KT(H:Hp):List (List Key×V)->List (List Key×Addr×Value)->Prop:=Paired fun p q=>p.1=q.1/\H q.2.1=some (.tup (p.1.map kV))/\RelV p.2 q.2.2
theorem KT.val{H:Hp}{kvs:List (List Key×V)}{xs:List (List Key×Addr×Value)}(r:KT H kvs xs)(k:List Key):RelO (bQ kvs k) ((atKey xs k).map (·.2)):=by
 induction r with
 | nil=>exact True.intro
 | @cons p q ps qs h t ih=>
   obtain⟨h1,_,h2⟩:=h
   by_cases e:p.1=k
   . have e':q.1=k:=h1.symm.trans e;have b:atKey (q::qs) k=some q.2:=by simp [atKey,List.find?_cons,e']
     rw[cZ e,b];exact h2
   . have e':¬ q.1=k:=fun z=>e (h1.trans z)
     have b:atKey (q::qs) k=atKey qs k:=by simp [atKey,List.find?_cons,e']
     rw[da e,b];exact ih
theorem KT.repl{H:Hp}{kvs:List (List Key×V)}{xs:List (List Key×Addr×Value)}(r:KT H kvs xs)(k:List Key){y:V}{u:Value}(ry:RelV y u) :
 KT H (kvs.map fun kv=>if kv.1=k then(kv.1,y)else kv) (xs.map (putAt k u)):=by
 induction r with
 | nil=>exact .nil
 | @cons p q ps qs h t ih=>
   rw[qA0,qA0];refine .cons ?_ ih;obtain⟨h1,h2,h3⟩:=h;unfold putAt
   by_cases e:p.1=k
   . rw[zF0 e,zF0 (h1.symm.trans e)];exact⟨h1,h2,ry⟩
   . rw[zD0 e,zD0 (fun z=>e (h1.trans z))];exact⟨h1,h2,h3⟩
theorem KT.put{H:Hp}{kvs:List (List Key×V)}{xs:List (List Key×Addr×Value)}(r:KT H kvs xs)(k:List Key){b:Addr}{y:V}{u:Value}(hb:H b=some (.tup (k.map kV)))(ry:RelV y u) :
 KT H (fj kvs k y) (storedH xs k b u):=by
 have e:(kvs.any fun kv=>decide (kv.1=k))=(atKey xs k).isSome:=by
  rw[jX,(r.val k).isSome_eq,Option.isSome_map]
 unfold fj storedH;rw[e]
 by_cases q:(atKey xs k).isSome=true
 . rw[zF0 q,zF0 q];exact r.repl k ry
 . rw[zD0 q,zD0 q];exact Paired.snoc r ⟨rfl,hb,ry⟩
theorem KT.keeps{H H':Hp}{kvs:List (List Key×V)}{xs:List (List Key×Addr×Value)}(r:KT H kvs xs)(ht:∀b ys,H b=some (.tup ys)->H' b=some (.tup ys)):KT H' kvs xs:=
 Paired.mapP r fun _ _ z=>⟨z.1,ht _ _ z.2.1,z.2.2⟩
section
variable {P:Program} {w:World} {H:Hp} {h:Heap} {a:Addr}
theorem BN{u:HO}(ok:HOk P w H h)(e:Rd H a u):ObjOk P w H h a u:=e.ok ok
theorem pF{kvs:List (Key×V)}(ok:HOk P w H h)(e:Rd H a (.dK kvs)):kvs.length<=sizeLine/\(a==sysModules)=false/\∃vs,KV kvs vs/\h.DictOf (bj P w) a vs:=
 show ObjOk P w H h a (.dK kvs)from BN ok e
theorem Cc{kvs:List (Key×V)}(ok:HOk P w H h)(e:H a=some (.dK kvs)):kvs.length<=sizeLine/\(a==sysModules)=false/\∃vs,KV kvs vs/\h.DictOf (bj P w) a vs:=pF ok (.inl e)
theorem nL{ks:List Key}(ok:HOk P w H h)(e:H a=some (.tup (ks.map kV))):(tupleKind (bj P w)).is h ks a:=by
 obtain⟨_,its,r,⟨o,h1,h2,n,h3⟩,_⟩:=(show ObjOk P w H h a (.tup (ks.map kV))from ok a _ e)
 exact⟨o,its.toArray,n,h1,h2,h3,by simpa using pB r⟩
theorem pE{kvs:List (List Key×V)}(ok:HOk P w H h)(e:Rd H a (.dT kvs)):kvs.length<=sizeLine/\(a==sysModules)=false/\
 ∃xs,KT H kvs xs/\h.DictOfH (tupleKind (bj P w)) a xs:=by
 obtain⟨z,y,xs,r,o,es,ep,h1,h2,h3,h4,h5⟩:=(show ObjOk P w H h a (.dT kvs)from BN ok e)
 refine ⟨z,y,xs,r,o,es,ep,h1,h2,h3,h4,fun x hx=>?_,h5⟩;have all:∀{l:List (List Key×V)}{m:List (List Key×Addr×Value)},KT H l m->∀x∈m,(tupleKind (bj P w)).is h x.1 x.2.1:=by
  intro l m q
  induction q with
  | nil=>intro x hx;exact nomatch hx
  | @cons p q ps qs hq t ih=>
    intro x hx;rcases qC0 hx with e | hx
    . subst e;exact nL ok (by rw[←hq.1];exact hq.2.1)
    . exact ih x hx
 exact all r x hx
theorem dt_of{kvs:List (List Key×V)}(ok:HOk P w H h)(e:H a=some (.dT kvs)):kvs.length<=sizeLine/\(a==sysModules)=false/\
 ∃xs,KT H kvs xs/\h.DictOfH (tupleKind (bj P w)) a xs:=pE ok (.inl e)
end
def DGet(H:Hp)(a:Addr)(y:V)(r:Option V):Prop:=
 (∃kvs k,Rd H a (.dK kvs)/\y=kV k/\r=bQ kvs k)∨∃kvs k b,Rd H a (.dT kvs)/\y=.ref b/\H b=some (.tup (k.map kV))/\r=bQ kvs k
def DPut(H:Hp)(a:Addr)(y v:V)(H':Hp):Prop:=
 (∃kvs k,H a=some (.dK kvs)/\y=kV k/\kvs.length<sizeLine/\H'=upd H a (.dK (fj kvs k v)))∨
 ∃kvs k b,H a=some (.dT kvs)/\y=.ref b/\H b=some (.tup (k.map kV))/\kvs.length<sizeLine/\H'=upd H a (.dT (fj kvs k v))
theorem DGet.k{H:Hp}{a:Addr}{kvs:List (Key×V)}{k:Key}(e:H a=some (.dK kvs)):DGet H a (kV k) (bQ kvs k):=.inl ⟨kvs,k,.inl e,rfl,rfl⟩
theorem DPut.k{H:Hp}{a:Addr}{kvs:List (Key×V)}{k:Key}{v:V}(e:H a=some (.dK kvs))(hl:kvs.length<sizeLine):DPut H a (kV k) v (upd H a (.dK (fj kvs k v))):=.inl ⟨kvs,k,e,rfl,hl,rfl⟩
section
variable {X:Cx} {pins:List (Addr×Obj)} {σ:St} {H:Hp} {s:Shared} {a:Addr} {y v:V} {u r:Value} {o:Option V} {A:Around} {E:Value->Shared->Prop}
theorem Inv.big(I:Inv X pins σ H s):sysModules<s.heap.objs.size:=by
 have h:mainGlobals<s.heap.objs.size:=(I.mod.glob.keeps I.bk).lt;exact Nat.lt_trans (by decide) h
theorem xo{Q:Value->Shared->Prop}(hu:A.units+1<cLine)(I:Inv X pins σ H s)(g:DGet H a y (some v))(ry:RelV y u)(h:∀w' s',Inv X pins σ H s'->RelV v w'->Q w' s') :
 wpAny (model X.prog X.w) A (getItem (.ref a) u) Q E s:=by
 rcases g with⟨kvs,k,e,ey,l⟩ | ⟨kvs,k,b,e,ey,eb,l⟩
 . subst ey;obtain⟨z,hd,vs,rel,dd⟩:=pF I.hok e;obtain⟨w',hw,rw'⟩:=RelO.some_of (v:=v) (o:=valueAt vs k) (by rw[l];exact rel.val k);exact wpAny_getItem_of (nO ry) dd.mapOf hw (h w' _ (I.tok _) rw')
 . subst ey;cases(show u=Value.ref b from ry);obtain⟨z,hd,xs,rel,dd⟩:=pE I.hok e;obtain⟨w',hw,rw'⟩:=RelO.some_of (v:=v) (o:=(atKey xs k).map (·.2)) (by rw[l];exact rel.val k);obtain⟨p,hp,hp2⟩:=qW0 hw;refine wpAny_getItem_heap (tupleKind_room_in1 hu) (nL I.hok eb) dd hp ?_;rw[hp2];exact h w' _ (I.tok _) rw'
theorem Bn{Q:Value->Shared->Prop}(hu:A.units+1<cLine)(I:Inv X pins σ H s)(g:DGet H a y o)(ry:RelV y u)(h:∀s',Inv X pins σ H s'->Q (.bool (!o.isSome)) s') :
 wpAny (model X.prog X.w) A (compareOp .NotIn u (.ref a)) Q E s:=by
 rcases g with⟨kvs,k,e,ey,l⟩ | ⟨kvs,k,b,e,ey,eb,l⟩
 . subst ey;obtain⟨z,hd,vs,rel,dd⟩:=pF I.hok e;refine wpAny_notIn_of (nO ry) hd dd.mapOf ?_;rw[←(rel.val k).isSome_eq,←l];exact h _ (I.tok _)
 . subst ey;cases(show u=Value.ref b from ry);obtain⟨z,hd,xs,rel,dd⟩:=pE I.hok e;refine wpAny_notIn_heap (tupleKind_room_in1 hu) (nL I.hok eb) hd dd ?_;have q:=(rel.val k).isSome_eq;rw[Option.isSome_map]at q;rw[←q,←l];exact h _ (I.tok _)
theorem qF{h':Heap}{t':Nat}{ob:HO}(I:Inv X pins σ H s)(mu:Mut (H a))(hs:Heap.SameBut a s.heap h')(he:∃q,h'.get? a=some q)(new:ObjOk X.prog X.w (upd H a ob) h' a ob) :
 Inv X pins σ (upd H a ob) { s with heap:=h',toks:=t' }:=
 I.write (x:=a) (e:=a) mu (.inl rfl) (fun b q hb z=>(hs.2 b hb).trans z) he new
theorem uK{P:Program}{w:World}{H':Hp}{h':Heap}{kvs:List (Key×V)}{vs:List (Key×Value)}(z:kvs.length<=sizeLine)(hd:(a==sysModules)=false)(rel:KV kvs vs)(dd:h'.DictOf (bj P w) a vs) :
 ObjOk P w H' h' a (.dK kvs):=⟨z,hd,vs,rel,dd⟩
theorem xn{H':Hp}{Q:Unit->Shared->Prop}(hu:A.units+1<cLine)(I:Inv X pins σ H s)(g:DPut H a y v H')(ry:RelV y u)(rv:RelV v r)(h:∀s',Inv X pins σ H' s'->Q () s') :
 wpAny (model X.prog X.w) A (setItem (.ref a) u r) Q E s:=by
 rcases g with⟨kvs,k,e,ey,l,eH⟩ | ⟨kvs,k,b,e,ey,eb,l,eH⟩
 . subst ey eH;obtain⟨z,hd,vs,rel,dd⟩:=Cc I.hok e;have hz:vs.length<=sizeLine:=by rw[←rel.length];exact z
   have hl:(fj kvs k v).length<=sizeLine:=by have:=dX kvs k v;omega
   refine wpAny_setItem_pairs (hsz:=hz) (nO ry) dd fun h' dd' hs=>h _ ?_
   have he:∃q,h'.get? a=some q:=let⟨q,_,_,hq,_⟩:=dd';⟨q,hq⟩
   exact qF I (by rw[e];exact True.intro) hs he (uK hl hd (rel.put k rv) dd')
 . subst ey eH;cases(show u=Value.ref b from ry);obtain⟨z,hd,xs,rel,dd⟩:=dt_of I.hok e;have hz:xs.length<=sizeLine:=by rw[←Paired.length rel];exact z
   have hl:(fj kvs k v).length<=sizeLine:=by have:=dX kvs k v;omega
   refine wpAny_setItem_heap (hsz:=hz) (tupleKind_room_in1 hu) (nL I.hok eb) dd fun h' dd' hs=>h _ ?_
   obtain⟨q,es,ep,hq,h2,h3,h4,_,h5⟩:=dd';refine qF I (by rw[e];exact True.intro) hs ⟨q,hq⟩ ⟨hl,hd,_,(rel.put k eb rv).keeps fun c ys ec=>?_,q,es,ep,hq,h2,h3,h4,h5⟩;rw[ao (bh ec e (fun z=>nomatch z))];exact ec
end
def NoSl(i:Expr):Prop:=∀ov iv,subscripted i false ov iv=operate [ov,iv] (getItem ov iv)
theorem At{prog:Program}{w:World}{A:Around}{E:Value->Shared->Prop}{s:Shared}{env:Env}{value slice:Expr}{pos:Pos}{T id:String}{Q:Value->Shared->Prop}
 (hl:typeLookup (.type T) "__getitem__"=pure (some (.builtin id))) (hs:NoSl slice)
 (h:wpAny (model prog w) A (eval value env) (fun o s₁=>wpAny (model prog w) A (eval slice env) (fun i s₂=>s₂.TypeIs o T/\wpAny (model prog w) A (getItem o i) Q E s₂) E s₁) E s) :
 wpAny (model prog w) A (eval (.Subscript value slice pos) env) Q E s:=by
 refine Subscript_ (wpAny_mono h (fun o s₁ h₁=>wpAny_mono h₁ (fun i s₂ h₂=>?_) fun _ _ x=>x) fun _ _ x=>x);obtain⟨hT,h₂⟩:=h₂;unfold subscriptTail;refine zA0 ?_;rw[getitemInPython_of_ne hT.not_modules];refine zA0 (wpAny_specialOf hT hl ?_);have fin:wpAny (model prog w) A (subscripted slice false o i) (fun r s₃=>wpAny (model prog w) A (letTemporaryGo value o r >>= fun _=>pure r) Q E s₃) E s₂:=by
  rw[hs o i];exact wpAny_operating (wpAny_mono h₂ (fun r s₃ h₃=>zA0 (wpAny_letTemporaryGo (zI0 h₃))) fun _ _ x=>x)
 first
  | exact zI0 (zA0 fin)
  | exact zA0 (zI0 (zA0 fin))
  | exact zA0 fin
theorem sJ {X:Cx} {pins:List (Addr×Obj)} {σ:St} {H:Hp} {s:Shared} {a:Addr} {y:V} {o:Option V} (I:Inv X pins σ H s) (g:DGet H a y o):s.TypeIs (.ref a) "dict":=by
 rcases g with⟨kvs,k,e,_,_⟩ | ⟨kvs,k,b,e,_,_,_⟩
 . obtain⟨_,_,vs,_,dd⟩:=pF I.hok e;exact dd.typeIs
 . obtain⟨_,_,xs,_,dd⟩:=pE I.hok e;exact dd.typeIs
def tDGet(td ty:TE):TE:=fun σ H Q=>td σ H fun x H1=>ty σ H1 fun y H2=>∃a v,x=.ref a/\DGet H2 a y (some v)/\Q v H2
def As(ty td:TE):TE:=fun σ H Q=>ty σ H fun y H1=>td σ H1 fun x H2=>∃a o,x=.ref a/\DGet H2 a y o/\Q (.bl (!o.isSome)) H2
def sDPut(td ty tv:TE):TS:=fun D σ H=>tv σ H fun v H1=>td σ H1 fun x H2=>ty σ H2 fun y H3=>∃a H4,x=.ref a/\DPut H3 a y v H4/\D.nx σ H4
section
variable {X:Cx} {o i e value:Expr} {pos pos' tpos:Pos} {td ty tv:TE}
theorem cc(hu:X.A.units+1<cLine)(ho:PE X o td)(hi:PE X i ty)(hs:NoSl i):PE X (.Subscript o i pos) (tDGet td ty):=by
 intro pins s σ H Q I h;refine At PySem.F.slot_dict_getitem.lookup hs (thn (ho pins s σ H _ I h) fun u s1 ⟨x,H1,I1,rx,q1⟩=>thn (hi pins s1 σ H1 _ I1 q1) fun iv s2 ⟨y,H2,I2,ry,a,v,ex,g,q2⟩=>?_);subst ex;obtain rfl:u=Value.ref a:=rx;exact⟨sJ I2 g,xo hu I2 g ry fun w' s3 I3 rw'=>⟨v,H2,I3,rw',q2⟩⟩
theorem wx(hu:X.A.units+1<cLine)(hi:PE X i ty)(ho:PE X o td):PC X .NotIn i o (As ty td):=by
 intro pins s σ H Q I h;refine thn (hi pins s σ H _ I h) fun iv s1 ⟨y,H1,I1,ry,q1⟩=>thn (ho pins s1 σ H1 _ I1 q1) fun u s2 ⟨x,H2,I2,rx,a,ov,ex,g,q2⟩=>?_
 subst ex;obtain rfl:u=Value.ref a:=rx;exact Bn hu I2 g ry fun s3 I3=>⟨.bl (!ov.isSome),H2,I3,rfl,q2⟩
theorem ku(hu:X.A.units+1<cLine)(ho:PE X o td)(hi:PE X i ty)(hv:PE X value tv)(hs:swapsWith value (some (.Subscript o i pos')) pos.line X.env=pure false) :
 PS X (.Assign [.Subscript o i pos'] value pos) (sDPut td ty tv):=by
 intro pins s σ H D I h;refine wpAny_Assign_Subscript (thn (hv pins s σ H _ I h) fun r s1 ⟨v,H1,I1,rv,q1⟩=>thn (ho pins s1 σ H1 _ I1 q1) fun u s2 ⟨x,H2,I2,rx,q2⟩=>thn (hi pins s2 σ H2 _ I2 q2) fun iv s3 ⟨y,H3,I3,ry,a,H4,ex,g,q3⟩=>?_) hs;subst ex;obtain rfl:u=Value.ref a:=rx;exact xn hu I3 g ry rv fun s4 I4=>⟨σ,H4,I4,q3⟩
end
theorem sI {P:Program} {w:World} {H:Hp} (h:Heap) (hb:sysModules<h.objs.size):ObjOk P w H (h.push { cls:=.type "dict",data:=.dict #[] }) h.objs.size (.dK []):=
 ⟨qB0 _,beq_eq_false_iff_ne.mpr (Ne.symm (zS0 hb)),[],.nil,Heap.DictOf.new h⟩
def Cp:TE:=fun _ H Q=>∀p,H p=none->Q (.ref p) (upd H p (.dK []))
section
variable {X:Cx} {pos:Pos}
theorem jn:PE X (.Dict [] [] pos) Cp:=fun pins s σ H Q I h=>
 wpAny_Dict_empty ⟨.ref s.heap.objs.size,_,I.laid (a:=s.heap.objs.size) (o:=.dK []) (t':=s.toks) (fun _ _ q=>zO0 _ q) (zG0 _) (sI s.heap I.big),rfl,h _ (I.hok.fresh (zG0 _))⟩
end
def tD:List (TE×TE)->St->Hp->(List (V×V)->Hp->Prop)->Prop
 | [],_,H,Q=>Q [] H
 | (tk,tv)::r,σ,H,Q=>tk σ H fun x H1=>tv σ H1 fun y H2=>tD r σ H2 fun ps H3=>Q ((x,y)::ps) H3
abbrev VV:List (V×V)->List (Value×Value)->Prop:=Paired fun p q=>RelV p.1 q.1/\RelV p.2 q.2
def PPs(X:Cx)(pos:Pos)(keys:List (Option Expr))(values:List Expr)(trs:List (TE×TE)):Prop:=
 ∀(pins:List (Addr×Obj))(s:Shared)(σ:St)(H:Hp)(Q:List (V×V)->Hp->Prop),Inv X pins σ H s->tD trs σ H Q ->
  wpAny (model X.prog X.w) X.A (evalPairs (pairTrees keys values X.env pos)) (fun vs s'=>∃ps H',Inv X pins σ H' s'/\VV ps vs/\Q ps H') X.xe s
theorem qg{X:Cx}{pos:Pos}:PPs X pos [] [] []:=fun pins s σ H Q I h=>pairTrees_nil_walk ⟨[],H,I,.nil,h⟩
theorem cD{X:Cx}{pos:Pos}{k v:Expr}{ks:List (Option Expr)}{vs:List Expr}{tk tv:TE}{trs:List (TE×TE)}(hk:PE X k tk)(hv:PE X v tv)(hr:PPs X pos ks vs trs) :
 PPs X pos (some k::ks) (v::vs) ((tk,tv)::trs):=fun pins s σ H Q I h=>
 pairTrees_cons_walk (thn (hk pins s σ H _ I h) fun u s1 ⟨x,H1,I1,rx,q1⟩=>thn (hv pins s1 σ H1 _ I1 q1) fun w2 s2 ⟨y,H2,I2,ry,q2⟩=>
  thn (hr pins s2 σ H2 _ I2 q2) fun ws s3 ⟨ps,H3,I3,rel,q3⟩=>⟨(x,y)::ps,H3,I3,.cons ⟨rx,ry⟩ rel,q3⟩)
def eD(kvs more:List (Key×V)):List (Key×V):=more.foldl (fun acc kv=>fj acc kv.1 kv.2) kvs
theorem KV.merge:∀{more:List (Key×V)}{rs:List (Key×Value)}{kvs:List (Key×V)}{vs:List (Key×Value)},KV more rs->KV kvs vs->KV (eD kvs more) (merged vs rs):=by
 intro more rs kvs vs r;unfold KV at r
 induction r generalizing kvs vs with
 | nil=>intro q;exact q
 | @cons p q ps qs h t ih=>
   intro r0;have e:KV (fj kvs p.1 p.2) (stored vs q.1 q.2):=by
    have:=r0.put p.1 h.2
    rw[←h.1];exact this
   exact ih e
theorem hV:∀(more kvs:List (Key×V)),(eD kvs more).length<=kvs.length+more.length
 | [],kvs=>by show kvs.length<=kvs.length+0;omega
 | p::r,kvs=>by
   have h1:=hV r (fj kvs p.1 p.2);have h2:=dX kvs p.1 p.2;show(eD (fj kvs p.1 p.2) r).length<=_;rw[qH0];omega
theorem ot{P:Program}{w:World}:∀{kvs:List (Key×V)}{ws:List (Value×Value)},VV (kvs.map fun kv=>(kV kv.1,kv.2)) ws->∃rs,Carries (bj P w) ws rs/\KV kvs rs
 | [],_,r=>by rw[List.map_nil]at r;cases r;exact⟨[],True.intro,.nil⟩
 | p::kvs,_,r=>by
   rw[qA0]at r;cases r with
   | @cons a b as bs h t=>
     obtain⟨rs,c,q⟩:=ot (P:=P) (w:=w) t;obtain⟨b1,b2⟩:=b;exact⟨(p.1,b2)::rs,⟨nO h.1,rfl,c⟩,.cons ⟨rfl,h.2⟩ q⟩
def xN(trs:List (TE×TE)):TE:=fun σ H Q=>∀p,H p=none->tD trs σ (upd H p (.dK [])) fun ps H2=>H2 p=some (.dK [])/\∃kvs:List (Key×V),ps=kvs.map (fun kv=>(kV kv.1,kv.2))/\kvs.length<=15/\Q (.ref p) (upd H2 p (.dK (eD [] kvs)))
theorem qm{X:Cx}{pos:Pos}{keys:List (Option Expr)}{values:List Expr}{trs:List (TE×TE)}(h:PPs X pos keys values trs)(hall:keys.all (·.isSome)=true)(hl:keys.length=values.length)(h0:keys≠[])
 (h15:keys.length<=15):PE X (.Dict keys values pos) (xN trs):=by
 intro pins s σ H Q I q;have hn:=I.hok.fresh (zG0 s.heap.objs.size);have I1:=I.laid (a:=s.heap.objs.size) (o:=.dK []) (h':=s.heap.push { cls:=.type "dict",data:=.dict #[] }) (t':=s.toks) (fun _ _ q=>zO0 _ q) (zG0 _) (sI s.heap I.big);refine wpAny_Dict_walk (knd:=bj X.prog X.w) hall hl h0 h15 (thn (h pins _ σ _ _ I1 (q _ hn)) fun ws s2 ⟨ps,H2,I2,rel,e,kvs,ep,lk,q2⟩=>?_);subst ep;obtain⟨rs,c,rk⟩:=ot (P:=X.prog) (w:=X.w) rel;obtain⟨z,hd,vs0,r0,dd⟩:=Cc I2.hok e;cases r0;refine⟨rs,c,dd,fun h' dd' hs=>⟨.ref s.heap.objs.size,_,?_,rfl,q2⟩⟩;have hz:(eD [] kvs).length<=sizeLine:=by
  have h1:=hV kvs [];rw[List.length_nil]at h1;rw[sizeLine_eq];omega
 have he:∃q,h'.get? s.heap.objs.size=some q:=let⟨q,_,_,hq,_⟩:=dd';⟨q,hq⟩
 exact qF I2 (by rw[e];exact True.intro) hs he (uK hz hd (rk.merge .nil) dd')
structure M2(X:Cx)(o:Expr)(m:Str)(apos:Pos)(e f:Expr)(cpos:Pos):Prop where
 base:attributeBase o m X.env (eval o X.env)=eval o X.env
 few:((backTo cpos (starEach [e,f] X.env)).all (fun x=>!x.1)&&(backToKw cpos (keywordEach [] X.env)).all (fun x=>x.1.isSome)
  &&decide (([e,f]:List Expr).length+([]:List Keyword).length+(if([]:List Keyword).isEmpty then 0 else 1)<30))=true
 line:(apos.endLine==cpos.line)=true
 trees:backTo cpos (starEach [e,f] X.env)=[(false,eval e X.env),(false,eval f X.env)]
def IsD(H:Hp)(a:Addr):Prop:=(∃kvs,Rd H a (.dK kvs))∨∃kvs,Rd H a (.dT kvs)
theorem Ds{X:Cx}{pins:List (Addr×Obj)}{σ:St}{H:Hp}{s:Shared}{a:Addr}(I:Inv X pins σ H s)(d:IsD H a) :
 s.TypeIs (.ref a) "dict"/\(∀b,Value.ref a=.ref b->∃ob,s.heap.get? b=some ob/\ob.dict=none)/\(a==sysModules)=false:=by
 rcases d with⟨kvs,e⟩ | ⟨kvs,e⟩
 . obtain⟨_,hd,vs,_,dd⟩:=pF I.hok e;refine⟨dd.typeIs,fun b q=>?_,hd⟩;cases q;obtain⟨ob,_,_,h1,h2,_⟩:=dd;exact⟨ob,h1,h2.2.1⟩
 . obtain⟨_,hd,xs,_,dd⟩:=pE I.hok e;refine⟨dd.typeIs,fun b q=>?_,hd⟩;cases q;obtain⟨ob,_,_,h1,h2,_⟩:=dd;exact⟨ob,h1,h2.2.1⟩
section
variable {X:Cx} {pins:List (Addr×Obj)} {σ:St} {H:Hp} {s:Shared} {a:Addr} {y d:V} {u r:Value} {o:Option V} {A:Around} {E:Value->Shared->Prop}
theorem DD{Q:Value->Shared->Prop}(hu:A.units+1<cLine)(I:Inv X pins σ H s)(g:DGet H a y o)(ry:RelV y u)(rd:RelV d r)(h:∀w' s',Inv X pins σ H s'->RelV (o.getD d) w'->Q w' s') :
 wpAny (model X.prog X.w) A (call (.builtin "dict.get") [.ref a,u,r]) Q E s:=by
 rcases g with⟨kvs,k,e,ey,l⟩ | ⟨kvs,k,b,e,ey,eb,l⟩
 . subst ey;obtain⟨z,hd,vs,rel,dd⟩:=pF I.hok e;refine call_meetsIn PySem.F.slot_dict_get dd.typeIs PySem.F.entry_dict_get (PySem.F.args_dict_get_3 _ _ _) (meets_dict_get_default (bj X.prog X.w) a (nO ry) hd r) ⟨_,dd.mapOf,h _ _ (I.tok _) ?_⟩;rw[l];exact(rel.val k).getD rd
 . subst ey;cases(show u=Value.ref b from ry);obtain⟨z,hd,xs,rel,dd⟩:=pE I.hok e;refine call_meetsIn PySem.F.slot_dict_get dd.typeIs PySem.F.entry_dict_get (PySem.F.args_dict_get_3 _ _ _) (meetsH_dict_get_default (tupleKind (bj X.prog X.w)) a b hd r) ⟨tupleKind_room_in1 hu,k,xs,nL I.hok eb,dd,h _ _ (I.tok _) ?_⟩;rw[l];exact(rel.val k).getD rd
end
def Cq(td ty tx:TE):TE:=fun σ H Q=>td σ H fun x H1=>∃a,x=.ref a/\IsD H1 a/\ty σ H1 fun y H2=>tx σ H2 fun z H3=>∃o,DGet H3 a y o/\Q (o.getD z) H3
section
variable {X:Cx} {o e f:Expr} {apos cpos:Pos} {td ty tx:TE}
theorem rK (hu:X.A.units+1<cLine) (ho:PE X o td) (he:PE X e ty) (hf:PE X f tx) (m:M2 X o "get" apos e f cpos):PE X (.Call (.Attribute o "get" apos) [e,f] [] cpos) (Cq td ty tx):=by
 intro pins s σ H Q I h;refine wpAny_Call_method m.base m.few m.line PySem.F.plainAttrs_dict PySem.F.slot_dict_get PySem.F.type_dict_get (thn (ho pins s σ H _ I h) fun u s1 ⟨x,H1,I1,rx,a,ex,d,q1⟩=>?_);subst ex;obtain rfl:u=Value.ref a:=rx;obtain⟨t1,t2,_⟩:=Ds I1 d;refine⟨t1,t2,?_⟩;rw[m.trees];refine Calls.callWith_builtin rfl (Calls.evalArgs_plain (Calls.spliced_cons (thn (he pins s1 σ H1 _ I1 q1) fun iv s2 ⟨y,H2,I2,ry,q2⟩=>
  Calls.spliced_cons (thn (hf pins s2 σ H2 _ I2 q2) fun fv s3 ⟨z,H3,I3,rz,ov,g,q3⟩=>Calls.spliced_nil ?_))))
 exact DD hu I3 g ry rz fun w' s4 I4 rw'=>⟨_,H3,I4,rw',q3⟩
end
section
variable {X:Cx}
theorem Inv.tupD{pins:List (Addr×Obj)}{σ:St}{H:Hp}{s:Shared}{a:Addr}{xs:List V}(I:Inv X pins σ H s)(h:H a=some (.tup xs)):∃ob,s.heap.get? a=some ob/\ob.dict=none:=by
 obtain⟨_,_,_,_,o,e,d⟩:=(show ObjOk X.prog X.w H s.heap a (.tup xs)from I.hok a _ h)
 exact⟨o,e,d⟩
def Cn(K:W.Frag)(to:TE)(t:TA):TE:=fun σ H Q=>to σ H fun x H1=>∃(a:Addr)(ns:List Str),x=.ref a/\(H1 a=some (.lst (ns.map V.str))∨H1 a=some (.tup (ns.map V.str)))/\t σ H1 fun vs H2=>(H2 a=H1 a)/\∃(z:Str)(j:Nat),vs=[.str z]/\cO z ns=some j/\Q (.int (j:Int)) H2
variable {o e:Expr} {es:List Expr} {to:TE} {t:TA} {apos cpos:Pos}
theorem rJ (pl:PlainAttrs "list") (pt:PlainAttrs "tuple") (ho:PE X o to) (ha:PA X (e::es) t)
 (hbase:attributeBase o "index" X.env (eval o X.env)=eval o X.env:=by rfl)
 (hfew:((backTo cpos (starEach (e::es) X.env)).all (fun x=>!x.1)&&(backToKw cpos (keywordEach [] X.env)).all (fun x=>x.1.isSome)
  &&decide ((e::es).length+([]:List Keyword).length+(if([]:List Keyword).isEmpty then 0 else 1)<30))=true:=by rfl)
 (hline:(apos.endLine==cpos.line)=true:=by rfl) (hs:starEach (e::es) X.env=(false,eval e X.env)::starEach es X.env:=by rfl) (hplain:(backTo cpos (starEach es X.env)).any (·.1)=false:=by rfl) :
 PE X (.Call (.Attribute o "index" apos) (e::es) [] cpos) (Cn X.K to t):=by
 intro pins s σ H Q I h;refine wpAny_Call_method_late hbase hfew hline rfl (thn (ho pins s σ H _ I h) fun v s1 ⟨x,H1,I1,r1,a,ns,ex,hh,q1⟩=>?_);subst ex;cases r1;have hA:=ha cpos pins s1 σ H1 _ I1 q1;rw[hs]at hA ⊢;rcases hh with hh | hh
 . obtain ⟨its,_,p,_⟩:=I1.list (zE0 hh);obtain⟨ob,n,e1,c,d,_⟩:=id p;refine⟨"list","list.index",pl,F.slot_list_index,F.type_list_index,p.isList.typeIs,fun b eb=>?_,?_⟩
   . cases eb;exact⟨ob,e1,d⟩
   . refine Calls.callWith_builtin (by show(false||(backTo cpos (starEach es X.env)).any (·.1))=false;rw[hplain] <;> rfl) (Calls.evalArgs_plain ?_);exact thn hA fun us s2 ⟨vs,H2,I2,r2,ek,z,j,ez,hp,q2⟩=>wM pins s2 σ H2 (.ref a) vs (.ref a) us Q I2 rfl r2 ⟨a,ns,z,j,rfl,ez,zE0 (ek.trans hh),hp,q2⟩
 . obtain ⟨its,_,p,_⟩:=I1.tuple (zB0 hh);refine⟨"tuple","tuple.index",pt,F.slot_tuple_index,F.type_tuple_index,p.typeIs,fun b eb=>?_,?_⟩
   . cases eb;exact I1.tupD hh
   . refine Calls.callWith_builtin (by show(false||(backTo cpos (starEach es X.env)).any (·.1))=false;rw[hplain] <;> rfl) (Calls.evalArgs_plain ?_);exact thn hA fun us s2 ⟨vs,H2,I2,r2,ek,z,j,ez,hp,q2⟩=>wL pins s2 σ H2 (.ref a) vs (.ref a) us Q I2 rfl r2 ⟨a,ns,z,j,rfl,ez,zB0 (ek.trans hh),hp,q2⟩
end
theorem CompScope.three{X:Cx}{x y z u:Str}{scope:Scope}{k l m:Nat}{c d e:Addr}{cl:List (Str×Addr)}(c1:closureFor scope X.env=pure cl)(c2:∀y∈scope.names,y.2≠.cell)(c3:scope.kind=.function)(c4:∀y∈scope.names,y.2=.local->scope.names.lookup y.1=some .local)
 (c5:scope.names.lookup x=some .local) (nd:[x,y,z,u].Nodup) (hcl:cl=[(y,c),(z,d),(u,e)]) (hc:X.env.cells.lookup y=some c) (hd:X.env.cells.lookup z=some d) (he:X.env.cells.lookup u=some e) (c6:((relabel scope X.env).names.all fun p=>!(p.2==.cell||p.2==.free)||(cl.lookup p.1).isSome)=true)
 (hr:(relabel scope X.env).names.lookup y=some .cell) (hk:X.N[k]?=some y) (hs:X.env.scope.names.lookup y=some .cell)
 (hr2:(relabel scope X.env).names.lookup z=some .cell) (hk2:X.N[l]?=some z) (hs2:X.env.scope.names.lookup z=some .cell)
 (hr3:(relabel scope X.env).names.lookup u=some .cell) (hk3:X.N[m]?=some u) (hs3:X.env.scope.names.lookup u=some .cell):CompScope X x [y,z,u] [k,l,m] scope cl where
 clos:=c1
 nocell:=c2
 kind:=c3
 names:=c4
 own:=c5
 nd:=nd
 sub:=fun p hp=>by
  subst hcl;rcases qC0 hp with h | h
  . rw[h];assumption
  . rcases qC0 h with h | h
    . rw[h];assumption
    . rw[zM0 h];assumption
 has:=c6
 outs:=fun j w h=>by
  have nyz:y≠z:=fun e=>by simp [e]at nd
  have nyu:y≠u:=fun e=>by simp [e]at nd
  have nzu:z≠u:=fun e=>by simp [e]at nd
  subst hcl
  match j,h with
  | 0,h=>
    have e:y=w:=zR0 h;subst e;exact⟨hr,k,c,rfl,hk,by simp [List.lookup],hs⟩
  | 1,h=>
    have e:z=w:=zR0 h;subst e
    have:(z==y)=false:=by simpa using Ne.symm nyz
    exact⟨hr2,l,d,rfl,hk2,by simp [List.lookup,this],hs2⟩
  | 2,h=>
    have ew:u=w:=zR0 h;subst ew;have h1:(u==y)=false:=by simpa using Ne.symm nyu
    have h2:(u==z)=false:=by simpa using Ne.symm nzu
    exact⟨hr3,m,e,rfl,hk3,by simp [List.lookup,h1,h2],hs3⟩
  | j+3,h=>simp at h
section
variable {X:Cx}
theorem pG{x:V}:∀{xs:List V}{us:List Value},Vals xs us->xs.all iR=true->us.countP (eqU x)=xs.countP fun y=>eqV y x
 | _,_,.nil,_=>rfl
 | y::xs,u::us,.cons r t,f=>by
   rw[List.all_cons,Bool.and_eq_true]at f;rw[List.countP_cons,List.countP_cons,uI r f.1,pG t f.2]
def vo(K:W.Frag):V->List V->Hp->VK->Prop:=fun x vs H Q=>∃(a:Addr)(xs:List V)(z:V),x=.ref a/\vs=[z]/\SqL K H a xs/\xs.all iR=true/\iR z=true/\Q (.int ((xs.countP fun y=>eqV y z:Nat):Int)) H
theorem sf:MtR X "list.count" (vo X.K):=by
 intro pins s σ H x vs v us Q I rx rv h;obtain⟨a,xs,z,rfl,rfl,hq,fs,fz,q⟩:=h;cases rx;obtain⟨u,rfl,ru⟩:=rv.one;obtain⟨its,r,⟨⟨cls,dd,data,sl⟩,n,ho,hc,hdd,hd⟩,hz⟩:=I.list hq;simp only at hc hd;subst hc hd;refine call_meets F.slot_list_count ⟨_,ho,rfl⟩ F.entry_list_count (F.args_list_count_2 _ _) (SeqAt.list_countAt a its.toArray n dd sl u (eqU z)) ⟨ho,fun y hy=>?_,?_⟩
 . exact fK ru fz r fs y (by simpa using hy)
 . rw[show its.toArray.toList=its from rfl,pG r fs];exact⟨.int ((xs.countP fun y=>eqV y z:Nat):Int),H,I.tok _,⟨_,rfl⟩,q⟩
end
theorem rj{α:Type}(l:List α):∀m,m<=l.length->((List.range m).filterMap fun k=>l[l.length-1-k]?)=l.reverse.take m
 | 0,_=>by simp
 | m+1,h=>by
   rw[List.range_succ,List.filterMap_append,rj l m (by omega),qJ0,List.getElem?_reverse (by omega)];cases e:l[l.length-1-m]? with
   | none=>simp [e]
   | some y=>simp [e]
theorem mY(its:List Value):((List.range its.length).filterMap fun(k:Nat)=>its.toArray[(((its.length:Nat):Int)-1+(k:Int)*(-1)).toNat]?)=its.reverse:=by
 have e:=rj its its.length (zG0 _);rw[←List.length_reverse,qI0]at e;rw[List.length_reverse]at e;rw[←e];refine congrArg (fun f=>List.filterMap f (List.range its.length)) (funext fun k=>?_);have e1:(((its.length:Nat):Int)-1+(k:Int)*(-1)).toNat=its.length-1-k:=by omega
 rw[e1]
 simp
theorem wu(its:List Value):slicePick its.toArray none none (some (-1))=its.reverse.toArray:=by
 have e1:sliceBounds none none (some (-1)) its.toArray.size=(((its.length:Nat):Int)-1,-1,-1):=by simp [sliceBounds]
 have e2:sliceRange (((its.length:Nat):Int)-1) (-1) (-1)=(List.range its.length).map fun(k:Nat)=>(((its.length:Nat):Int)-1+(k:Int)*(-1)).toNat:=by
  unfold sliceRange;have e3:(if(-1:Int)>0 then(if(((its.length:Nat):Int)-1) < -1 then(-1-(((its.length:Nat):Int)-1)+-1-1) / -1 else 0)else(if(((its.length:Nat):Int)-1) > -1 then((((its.length:Nat):Int)-1) - -1 - -1-1) / (- -1)else 0))=((its.length:Nat):Int):=by
   rw[zD0 (by decide)]
   split
   . have:((((its.length:Nat):Int)-1) - -1 - -1-1)=((its.length:Nat):Int):=by omega
     rw[this,show(- (-1:Int))=1 from rfl,Int.ediv_one]
   . omega
  simp only[e3];rw[qO0];refine congrArg (fun f=>List.map f (List.range its.length)) (funext fun k=>?_);omega
 unfold slicePick;rw[e1];show((sliceRange (((its.length:Nat):Int)-1) (-1) (-1)).filterMap (its.toArray[·]?)).toArray=_;rw[e2,List.filterMap_map];exact congrArg List.toArray (mY its)
section
variable {prog:Program} {w:World} {A:Around} {E:Value->Shared->Prop} {s:Shared}
theorem Ao{t sl:Addr}{its:List Value}{tk:Tok}{Q:Value->Shared->Prop}(ht:IsTup s.heap t its.toArray)(hs:s.heap.IsSliceOf sl .none .none (.int (-1) tk))
 (h:Q (.ref s.heap.objs.size) { s with heap:=s.heap.push { cls:=.type "tuple",data:=.seq its.reverse.toArray } }) (hz:its.length<=sizeLine):wpAny (model prog w) A (getItem (.ref t) (.ref sl)) Q E s:=by
 have oa:sizeOk (.seq its.reverse.toArray):=by
  show its.reverse.toArray.size<=sizeLine;rw[zP0,List.length_reverse];exact hz
 obtain⟨os,hos,hcs,hds⟩:=id hs;have hTs:s.TypeIs (.ref sl) "slice":=⟨os,hos,hcs⟩
 unfold getItem
 try with_reducible refine wpAny_holding ?_
 first | refine zA0 (zI0 ?_) | skip
 refine zA0 (wpAny_sequenceKey ht.typeIs (by decide) ?_);refine zA0 (wpAny_callSpecial?_slot (name:=Str.ofString "__getitem__") ht.typeIs PyProof.Rows.slot_tuple_getitem
  (wpAny_call_entry PyProof.Rows.slot_tuple_getitem ht.typeIs entry_tuple_getitem ?_ (args_tuple_getitem _ _)))
 show wpAny _ _ (Builtin.Tuple.tupleItemsOf (.ref t) >>= _) _ _ s;refine zA0 (tupleItemsOf_ ht ?_);refine zA0 (wpAny_typeOf hTs ?_);rw[zF0 (by decide)];have ap:∀{Q':Int×Int×Nat->Shared->Prop},Q' (((its.length:Nat):Int)-1,-1,its.length) s->wpAny (model prog w) A.in1 (Builtin.Slice.sliceApplied (.ref sl) (pure ((its.toArray.size:Nat):Int))) Q' E s:=by
  intro Q' q;unfold Builtin.Slice.sliceApplied Builtin.Slice.sliceFields;refine zA0 (zA0 (wpAny_field hos hds (x:=.none) rfl (zA0 (wpAny_field hos hds (x:=.none) rfl (zA0 (wpAny_field hos hds (x:=.int (-1) tk) rfl (zI0 ?_)))))));refine zA0 (slicePart_int ?_);show wpAny _ _ (if((-1:Int)==0)=true then _ else _) _ _ s;rw[zD0 (by decide)];refine zA0 (slicePart_none (zA0 (slicePart_none (zA0 (zI0 ?_)))));have e1:Builtin.Slice.sliceAdjust none none (-1) ((its.toArray.size:Nat):Int)=(((its.length:Nat):Int)-1,-1):=by simp [Builtin.Slice.sliceAdjust]
  have e2:Builtin.Slice.slicePlaces (((its.length:Nat):Int)-1) (-1) (-1)=its.length:=by
   unfold Builtin.Slice.slicePlaces;rw[zD0 (by decide)]
   split
   . have:(((its.length:Nat):Int)-1 - -1-1) / (- -1)+1=((its.length:Nat):Int):=by
      rw[show(- (-1:Int))=1 from rfl,Int.ediv_one];omega
     rw[this];omega
   . omega
  show wpAny _ _ (match Builtin.Slice.sliceAdjust none none (-1) ((its.toArray.size:Nat):Int)with | (lo,hi)=>pure (lo,(-1:Int),Builtin.Slice.slicePlaces lo hi (-1))) _ _ s;rw[e1];show wpAny _ _ (pure (((its.length:Nat):Int)-1,(-1:Int),Builtin.Slice.slicePlaces (((its.length:Nat):Int)-1) (-1) (-1))) _ _ s;rw[e2];exact zI0 q
 refine zA0 (ap ?_);have no:¬ (((((its.length:Nat):Int)-1==0)&&((-1:Int)==1)&&(its.length==its.toArray.size))=true):=by simp
 show wpAny _ _ (if((((its.length:Nat):Int)-1==0)&&((-1:Int)==1)&&(its.length==its.toArray.size))=true then _ else _) _ _ s;rw[zD0 no,mY]
 first
  | exact zA0 (m:=Builtin.Tuple.tupleExact _) (wpAny_newObj_type (zI0 ⟨_,rfl,zI0 h⟩) oa)
  | exact zA0 (m:=Builtin.Tuple.tupleExact _) (wpAny_newObj_type (zA0 (zI0 (zI0 ⟨_,rfl,zI0 h⟩))) oa)
  | exact zA0 (zA0 (m:=Builtin.Tuple.tupleExact _) (wpAny_newObj_type (zI0 (zI0 ⟨_,rfl,zI0 h⟩)) oa))
  | exact zA0 (zA0 (m:=Builtin.Tuple.tupleExact _) (wpAny_newObj_type (zI0 ⟨_,rfl,zI0 h⟩) oa))
end
section
variable {X:Cx} {e k:Expr} {te tk:TE} {pos p2:Pos}
def tRev(K:W.Frag)(te tk:TE):TE:=fun σ H Q=>te σ H fun x H1=>tk σ H1 fun y H2=>y=.int (-1)/\∃a xs,x=.ref a/\
 ((SqL K H2 a xs/\∀p,H2 p=none->Q (.ref p) (upd H2 p (.lst xs.reverse)))∨(SqT K H2 a xs/\∀p,H2 p=none->Q (.ref p) (upd H2 p (.tup xs.reverse))))
theorem CT(he:PE X e te)(hk:PE X k tk):PE X (.Subscript e (.Slice none none (some k) p2) pos) (tRev X.K te tk):=by
 intro pins s σ H Q I h;refine Subscript_ (thn (he pins s σ H _ I h) fun v s1 ⟨x,H1,I1,r1,q1⟩=>?_);refine wpAny_Slice ?_;rw[evalPart_none];refine zI0 (zI0 ?_);rw[evalPart_some];refine thn (hk pins s1 σ H1 _ I1 q1) fun u s2 ⟨y,H2,I2,r2,ey,a,xs,ex,q2⟩=>?_
 subst ey ex;cases r1;obtain⟨t,rfl⟩:=r2;have I3:Inv X pins σ H2 { s2 with heap:=s2.heap.push { cls:=.type "slice",data:=.fields #[.none,.none,.int (-1) t] } }:=I2.kept (t':=s2.toks) fun b ob q=>zO0 _ q
 show wpAny (model X.prog X.w) X.A (subscriptTail e (.Slice none none (some k) p2) (.ref a) (.ref s2.heap.objs.size)) (EP X pins σ Q) X.xe { s2 with heap:=s2.heap.push { cls:=.type "slice",data:=.fields #[.none,.none,.int (-1) t] } };rcases q2 with⟨hq,q⟩ | ⟨hq,q⟩
 . obtain⟨its,r,ht,hz⟩:=I3.list hq;have hl:=r.length;refine tail_any (ops:=[.ref a,.ref s2.heap.objs.size]) ht.isList.typeIs slot_list_getitem.lookup ?_ (by with_unfolding_all rfl);refine wpAny_getItem_list_slice (st:=some (-1)) ht.isList (Heap.IsSliceOf.new ..) .none .none (.int (-1) t) (by simp) ?_ (by rw[zP0];omega);rw[wu];refine⟨.ref _,_,I3.laid (t':=s2.toks) (o:=.lst xs.reverse) (fun b ob q=>zO0 _ q) (zG0 _) ?_,rfl,q _ (I3.hok.fresh (zG0 _))⟩;exact⟨by rw[List.length_reverse];exact hz,_,0,r.reverse,zV0 _ rfl⟩
 . obtain⟨its,r,ht,hz⟩:=I3.tuple hq;have hl:=r.length;refine tail_any (ops:=[.ref a,.ref s2.heap.objs.size]) ht.typeIs PyProof.Rows.slot_tuple_getitem.lookup ?_ (by with_unfolding_all rfl);refine Ao ht (Heap.IsSliceOf.new ..) ?_ (by omega);refine⟨.ref _,_,I3.laid (t':=s2.toks) (o:=.tup xs.reverse) (fun b ob q=>zO0 _ q) (zG0 _) ?_,rfl,q _ (I3.hok.fresh (zG0 _))⟩;exact⟨by rw[List.length_reverse];exact hz,_,r.reverse,IsTup.new _ _,_,zV0 _ rfl,rfl⟩
end
def dB(g:Nat->Int):Nat->Int
 | 0=>g 0
 | k+1=>if dB g k<g (k+1)then g (k+1)else dB g k
theorem sR(g:Nat->Int):∀n k,k<=n->g k<=dB g n
 | 0,k,h=>by
   have e:k=0:=by omega
   subst e;exact Int.le_refl _
 | n+1,k,h=>by
   unfold dB
   by_cases c:k=n+1
   . subst c
     split <;> omega
   . have:=sR g n k (by omega)
     split <;> omega
def wQ(ns:List Int)(d:Int):Int:=match ns with | []=>d | _::_=>dB (fun i=>ns[i]?.getD 0) (ns.length-1)
theorem Bc{ns:List Int}{d x:Int}(h:x∈ns):x<=wQ ns d:=by
 obtain⟨i,hi,e⟩:=List.getElem_of_mem h;cases ns with
 | nil=>cases h
 | cons a r=>
   have:=sR (fun i=>(a::r)[i]?.getD 0) ((a::r).length-1) i (by omega)
   simp only[zQ0 hi,Option.getD_some,e]at this;exact this
section
variable {prog:Program} {w:World} {A:Around} {R:Result->Shared->Prop} {I S:Addr} {fp wr:List Addr} {n:Nat} {P:Nat->Value->Prop} {St:Nat->Heap->Prop} {g:Nat->Int} {kw:List (Str×Value)}
theorem mr:(toString "max"++toString ".loop":String)="max.loop":=by decide
theorem zx(W:Walks prog w A.in1 I fp wr n P St)(gv:∀i v,P i v->∃t,v=Value.int (g i) t)(nS:S∉fp):∀(k j:Nat)(s:Shared)(t:Tok)(c:Nat),j+1+k=n->St (j+1) s.heap ->
 s.heap.get? S=some { cls:=.type "list",dict:=none,data:=.seq #[.int (dB g j) t,.int (dB g j) t] c,slots:=#[] } ->
 (∀t' h' tk,(∀b o,b∉wr->b≠S->s.heap.get? b=some o->h'.get? b=some o)->R (.ok (.ret (.int (dB g (n-1)) t'))) { s with heap:=h',toks:=tk }) ->
 codeAny (model prog w) A (.builtin "max.loop" ⟨[.ref I,.none,.ref S],kw⟩) R s:=by
 have nw:S∉wr:=fun z=>nS (W.sub _ z)
 intro k
 induction k with
 | zero=>
   intro j s t c ek st eS q;refine codeAny_builtin F.entry_max_loop ?_;rw[Around.under_plainId F.plain_max_loop _];show wpAny _ A.in1 (seqItems? (.ref S) >>= _) _ _ s;refine zA0 (wpAny_seqItems eS rfl ?_);show wpAny _ A.in1 (tryCatch (pyNext (.ref I)) _ >>= _) _ _ s;refine zA0 (wpAny_tryCatch (W.done s _ _ (by rw[←ek];exact st) fun h' tk kp=>?_));show wpAny _ A.in1 (updateSeq S (fun _=>#[]) >>= _) _ _ _;refine zA0 ?_;refine wpAny_updateSeq (kp S _ nw eS) rfl (zA0 (wpAny_letGo (zI0 ?_)));have e:n-1=j:=by omega
   rw[e]at q;exact q t _ tk fun b o h1 h2 eb=>(Heap.get?_update_other _ _ (Ne.symm h2)).trans (kp b o h1 eb)
 | succ k ih=>
   intro j s t c ek st eS q;refine codeAny_builtin F.entry_max_loop ?_;rw[Around.under_plainId F.plain_max_loop _];show wpAny _ A.in1 (seqItems? (.ref S) >>= _) _ _ s;refine zA0 (wpAny_seqItems eS rfl ?_);show wpAny _ A.in1 (tryCatch (pyNext (.ref I)) _ >>= _) _ _ s;refine zA0 (wpAny_tryCatch (W.item (j+1) s _ _ (by omega) st fun v h' tk pv st' kp=>?_));obtain⟨tv,rfl⟩:=gv _ _ pv;have eS':=kp S _ nw eS;show wpAny _ A.in1 (tryCatch (holding [Value.int (g (j+1)) tv,Value.int (g (j+1)) tv] (richCompare .Gt (Value.int (g (j+1)) tv) (Value.int (dB g j) t) >>= _)) _ >>= _) _ _ _;refine zA0 (wpAny_tryCatch (wpAny_holding (zA0 (CmpOf.ints_gt (prog:=prog) (w:=w) (A:=A.in1) (P:=fun i v=>∃t,v=Value.int (if i=0 then dB g j else g (j+1)) t) (fun i=>if i=0 then dB g j else g (j+1)) (fun i v h=>h) 1 0 _ _ _ _ _ ⟨tv,rfl⟩ ⟨t,rfl⟩ ?_))));refine zA0 (wpAny_holding (wpAny_truthy_bool ?_));refine zA0 (wpAny_letGo (zI0 ?_))
   by_cases c1:dB g j<g (j+1)
   . have e1:dB g (j+1)=g (j+1):=by unfold dB;rw[zF0 c1]
     refine wpAny_ite_split (fun _=>?_) (fun hab=>absurd (decide_eq_true c1) hab);refine zA0 ?_;refine wpAny_updateSeq eS' rfl (zA0 (wpAny_letGo ?_));rw[mr];refine zI0 ⟨plainId_quiet F.plain_max_loop _,ih (j+1) _ tv _ (by omega) (W.frame _ _ _ st' fun b hb o eb=>?_) (by rw[e1];exact Heap.get?_update_self _ eS' rfl) fun t' h2 tk2 kp2=>?_⟩
     . exact(Heap.get?_update_other _ _ (fun z:S=b=>nS (by rw[z];exact hb))).trans eb
     . exact q t' h2 tk2 fun b o h1 h3 eb=>kp2 b o h1 h3 ((Heap.get?_update_other _ _ (Ne.symm h3)).trans (kp b o h1 eb))
   . have e1:dB g (j+1)=dB g j:=by unfold dB;rw[zD0 c1];cases j <;> rfl
     refine wpAny_ite_split (fun hab=>absurd (of_decide_eq_true hab) c1) (fun _=>?_);refine zA0 (wpAny_letGo ?_);rw[mr];refine zI0 ⟨plainId_quiet F.plain_max_loop _,ih (j+1) _ t c (by omega) st' (by rw[e1];exact eS') fun t' h2 tk2 kp2=>?_⟩;exact q t' h2 tk2 fun b o h1 h3 eb=>kp2 b o h1 h3 (kp b o h1 eb)
theorem zy (W:Walks prog w A.in1 I fp wr n P St) (gv:∀i v,P i v->∃t,v=Value.int (g i) t) (nS:S∉fp) (hn:0<n) {s:Shared} {c:Nat} (st:St 0 s.heap) (eS:s.heap.get? S=some { cls:=.type "list",dict:=none,data:=.seq #[] c,slots:=#[] })
 (q:∀t' h' tk,(∀b o,b∉wr->b≠S->s.heap.get? b=some o->h'.get? b=some o)->R (.ok (.ret (.int (dB g (n-1)) t'))) { s with heap:=h',toks:=tk }) :
 codeAny (model prog w) A (.builtin "max.loop" ⟨[.ref I,.none,.ref S],kw⟩) R s:=by
 have nw:S∉wr:=fun z=>nS (W.sub _ z)
 refine codeAny_builtin F.entry_max_loop ?_;rw[Around.under_plainId F.plain_max_loop _];show wpAny _ A.in1 (seqItems? (.ref S) >>= _) _ _ s;refine zA0 (wpAny_seqItems eS rfl ?_);show wpAny _ A.in1 (tryCatch (pyNext (.ref I)) _ >>= _) _ _ s;refine zA0 (wpAny_tryCatch (W.item 0 s _ _ hn st fun v h' tk pv st' kp=>?_));obtain⟨tv,rfl⟩:=gv _ _ pv;have eS':=kp S _ nw eS;show wpAny _ A.in1 (updateSeq S (fun _=>#[Value.int (g 0) tv,Value.int (g 0) tv]) >>= _) _ _ _;refine zA0 ?_;refine wpAny_updateSeq eS' rfl ?_;rw[mr];refine zI0 ⟨plainId_quiet F.plain_max_loop _,zx W gv nS (n-1) 0 _ tv _ (by omega) (W.frame _ _ _ st' fun b hb o eb=>?_) (Heap.get?_update_self _ eS' rfl) fun t' h2 tk2 kp2=>?_⟩
 . exact(Heap.get?_update_other _ _ (fun z:S=b=>nS (by rw[z];exact hb))).trans eb
 . exact q t' h2 tk2 fun b o h1 h3 eb=>kp2 b o h1 h3 ((Heap.get?_update_other _ _ (Ne.symm h3)).trans (kp b o h1 eb))
end
section
variable {X:Cx} {e k:Expr} {te tk:TE} {pos p1 kp:Pos}
def rMax1(K:W.Frag):List V->Hp->VK->Prop:=fun xs H Q=>∃a ns,xs=[.ref a]/\SqL K H a (ns.map V.int)/\ns≠[]/\Q (.int (wQ ns 0)) H
theorem pI (hc:X.calm=true):iC X (.builtin "max") (rMax1 X.K):=by
 intro pins s2 σ H2 xs us Q I2 r h;obtain⟨a,ns,rfl,hq,hn,q⟩:=h;obtain⟨u,rfl,ru⟩:=lE r;cases ru;obtain⟨its,r',p,hz⟩:=I2.list hq;have hl:=r'.length;rw[zH0]at hl;have hlt:a<s2.heap.objs.size:=by obtain⟨o,n,e,_⟩:=p;exact zN0 e
 refine call_function_tree F.kind_max F.plain_max F.entry_max (F.args_max1 _) ?_;show wpAny _ X.A.in1 (Builtin.Builtins.bindParams "max" ["key","default"] 0 ⟨[],[]⟩ >>= fun _=>_) _ _ s2;refine zA0 (wpAny_of_eq (a:=[none,none]) rfl ?_);refine zA0 (zI0 ?_);refine zA0 (wpAny_pyIter_list p.isList ?_);refine zA0 (wpAny_newObj_type ?_);rw[mr];have hne:a≠s2.heap.objs.size:=zS0 hlt;have W:=Walks.list (prog:=X.prog) (w:=X.w) (A:=X.A.in1) (I2.ok.hd hc) s2.heap.objs.size a hne its.toArray;have I3:Inv X pins σ H2 { s2 with heap:=s2.heap.push { cls:=.type "list_iterator",data:=.fields #[.ref a,.int 0 0] } }:=I2.kept (t':=s2.toks) fun b o eb=>zO0 _ eb
 have I4:Inv X pins σ H2 { s2 with heap:=(s2.heap.push { cls:=.type "list_iterator",data:=.fields #[.ref a,.int 0 0] }).push { cls:=.type "list",data:=.seq #[] } }:=I3.kept (t':=s2.toks) fun b o eb=>zO0 _ eb
 have hz1:∀o:Obj,(s2.heap.push o).objs.size=s2.heap.objs.size+1:=fun o=>by simp [Heap.push]
 have nS:(s2.heap.push { cls:=.type "list_iterator",data:=.fields #[.ref a,.int 0 0] }).objs.size∉[s2.heap.objs.size,a]:=by
  intro hm;rcases qC0 hm with z | z
  . rw[hz1]at z;exact absurd z (Nat.succ_ne_self _)
  . have z:=zM0 z;rw[hz1]at z;exact absurd z (qP0 (Nat.lt_succ_of_lt hlt))
 have gv:∀i v,its.toArray[i]?=some v->∃t,v=Value.int (ns[i]?.getD 0) t:=fun i v hv=>by
  obtain⟨b,t,hb,rfl⟩:=nP r' (i:=i) (v:=v) (by first | exact hv | simpa using hv | (rw[List.getElem?_toArray]at hv;exact hv));exact⟨t,by rw[hb];rfl⟩
 have n0:0<ns.length:=List.length_pos_iff.mpr hn;refine zI0 ⟨plainId_quiet F.plain_max_loop _,zy (g:=fun i=>ns[i]?.getD 0) W gv nS (by rw[zP0,←hl];exact n0) ⟨⟨_,zO0 _ (zV0 _ rfl),rfl,rfl⟩,(p.isList.push _).push _⟩ (zV0 _ rfl) fun t' h' tk kp=>?_⟩;rw[zP0,←hl];have em:dB (fun i=>ns[i]?.getD 0) (ns.length-1)=wQ ns 0:=by
  cases ns with
  | nil=>exact absurd rfl hn
  | cons _ _=>rfl
 rw[em];refine⟨.int _,H2,?_,⟨_,rfl⟩,q⟩;have J:=Inv.turnedL (h':=h') (t':=tk) (ch:=[s2.heap.objs.size,s2.heap.objs.size+1]) I4 (fun b o hb eb=>kp b o (fun z=>hb (by rw[zM0 z];exact qG0)) (fun z=>hb (by rw[z,hz1];exact qL0 _ qG0)) eb);refine J fun b hb=>?_
 rcases qC0 hb with h | h
 . rw[h];exact I2.fpOk (zG0 _) (I2.hok.fresh (zG0 _))
 . rw[zM0 h];exact I2.fpOk (qK0 _) (I2.hok.fresh (qK0 _))
end
section
variable {prog:Program} {w:World} {A:Around} {E:Value->Shared->Prop} {s:Shared}
theorem uR{it t:Addr}{i:Nat}{items:Array Value}{x:Value}{Q:Value->Shared->Prop}(hit:s.heap.IsTupleIter it t i)(ht:s.heap.IsTuple t items)(hx:items[i]?=some x)
 (q:∀h',h'.IsTupleIter it t (i+1)->Heap.SameBut it s.heap h'->Q x { s with heap:=h' }):wpAny (model prog w) A (Builtin.SmallTypes.nextOf (.ref it)) Q E s:=by
 obtain⟨o,ho,hc,hd⟩:=id hit;obtain⟨ol,hol,_,nl,hdl⟩:=ht;unfold Builtin.SmallTypes.nextOf;refine zA0 (wpAny_callSpecial?_slot (name:=Str.ofString "__next__") hit.typeIs F.slot_tuple_iterator_next (wpAny_call_entry F.slot_tuple_iterator_next hit.typeIs F.entry_tuple_iterator_next ?_ (F.args_tuple_iterator_next_1 _)));show wpAny _ _ (field (.ref it) 0 >>= _) _ _ s;refine zA0 (wpAny_field ho hd (x:=.ref t) rfl ?_);show wpAny _ _ (if(Value.ref t==Value.none)=true then _ else _) _ _ s;rw[zD0 (show ¬ ((Value.ref t==Value.none)=true)from zY0)];show wpAny _ _ (field (.ref it) 1 >>= _) _ _ s;refine zA0 (wpAny_field ho hd (x:=.int i 0) rfl ?_);show wpAny _ _ (seqItems? (.ref t) >>= _) _ _ s;refine zA0 (wpAny_seqItems hol hdl ?_);simp only[qO0,hx];refine zA0 (wpAny_setField ho hd (by simp) (zI0 ⟨x,rfl,zI0 (q _ ?_ (Heap.SameBut.update ..))⟩));exact⟨_,Heap.get?_update_self _ ho (Obj.isFreed_of_fields (Obj.data_mapFields hd _)),(Obj.cls_mapFields ..).trans hc,by rw[Obj.data_mapFields hd];simp [rawInt]⟩
theorem tu{it t:Addr}{i:Nat}{items:Array Value}{Q:Value->Shared->Prop}(hh:A.handled=none)(hit:s.heap.IsTupleIter it t i)(ht:s.heap.IsTuple t items)(hx:items[i]?=none)
 (q:∀h' e,Heap.ExtBut it s.heap h'->(∃o,h'.get? e=some o/\o.cls=.type "StopIteration")->E (.ref e) { s with heap:=h' }):wpAny (model prog w) A (Builtin.SmallTypes.nextOf (.ref it)) Q E s:=by
 obtain⟨o,ho,hc,hd⟩:=id hit;obtain⟨ol,hol,_,nl,hdl⟩:=ht;unfold Builtin.SmallTypes.nextOf;refine zA0 (wpAny_callSpecial?_slot (name:=Str.ofString "__next__") hit.typeIs F.slot_tuple_iterator_next (wpAny_call_entry F.slot_tuple_iterator_next hit.typeIs F.entry_tuple_iterator_next ?_ (F.args_tuple_iterator_next_1 _)));show wpAny _ _ (field (.ref it) 0 >>= _) _ _ s;refine zA0 (wpAny_field ho hd (x:=.ref t) rfl ?_);show wpAny _ _ (if(Value.ref t==Value.none)=true then _ else _) _ _ s;rw[zD0 (show ¬ ((Value.ref t==Value.none)=true)from zY0)];show wpAny _ _ (field (.ref it) 1 >>= _) _ _ s;refine zA0 (wpAny_field ho hd (x:=.int i 0) rfl ?_);show wpAny _ _ (seqItems? (.ref t) >>= _) _ _ s;refine zA0 (wpAny_seqItems hol hdl ?_);simp only[qO0,hx]
 first
  | refine zA0 (wpAny_rule (zA0 (wpAny_setField ho hd (by simp) (zA0 (wpAny_letGo ?_)))))
  | refine zA0 (wpAny_rule (zA0 (wpAny_setField ho hd (by simp) ?_)))
 show wpAny _ _ (newExc (.type "StopIteration") [] >>= _) _ _ _;refine zA0 ?_;simp only[newExc,newTuple];refine zA0 (wpAny_newObj_type ?_ (by size_fits));refine zA0 (m:=firstArgMember _ _) (wpAny_of_eq (a:=Value.none) (by first | rfl | (simp only[firstArgMember];rfl)) ?_);refine wpAny_newObj_type ?_ (by size_fits);simp only[raiseNew];refine zA0 (wpAny_handled ?_)
 first | rw[show A.in1.handled=none from hh] | rw[hh]
 refine zA0 (zI0 (wpAny_throw ?_));exact q _ _ (((Heap.SameBut.update ..).extBut.push _).push _) ⟨_,zV0 _ rfl,rfl⟩
theorem xk{e it t:Addr}{j:Nat}{i:Int}{old:Value}{items:Array Value}{Q:Option Value->Shared->Prop}(hh:A.handled=none)(he:IsEnum s.heap e it i old)(hit:s.heap.IsTupleIter it t j)(ht:s.heap.IsTuple t items)(hx:items[j]?=none)
 (q:∀h',Heap.ExtBut it s.heap h'->Q none { s with heap:=h' }):wpAny (model prog w) A (pyNext (.ref e)) Q E s:=by
 have hT:s.TypeIs (.ref e) "enumerate":=⟨_,he,rfl⟩
 unfold pyNext;refine zA0 (wpAny_attempt (wpAny_callSpecial?_slot (name:=Str.ofString "__next__") hT F.slot_enumerate_next (wpAny_call_entry F.slot_enumerate_next hT F.entry_enumerate_next ?_ (F.args_enumerate_next_1 _))));show wpAny _ _ (field (.ref e) 2 >>= _) _ _ _;refine zA0 (wpAny_field he rfl (x:=.ref it) rfl ?_);refine zA0 (tu hh hit ht hx fun h' x he' hx'=>?_);obtain⟨o,ho,hc⟩:=hx';refine zA0 (wpAny_isInstance (T:="StopIteration") (b:=true) ⟨o,ho,hc⟩ isSubtype_stop ?_);exact zI0 (q h' he')
end
theorem xm{prog:Program}{w:World}{A:Around}(hh:A.handled=none)(it l:Addr)(hne:l≠it)(items:Array Value):Draws prog w A it [it,l] items.size (fun i v=>items[i]?=some v) (fun i h=>h.IsTupleIter it l i/\h.IsTuple l items) where
 live:=fun _ _ st=>let⟨o,ho,_⟩:=st.1;⟨o,ho⟩
 frame:=fun _ _ _ st k=>⟨st.1.at fun o e=>k it (by simp) o e,st.2.at fun o e=>k l (by simp) o e⟩
 item:=fun i s Q E hi st q=>by
  refine uR st.1 st.2 (x:=items[i]) (by simp [hi]) fun h' a b=>?_
  exact q _ h' s.toks (by simp [hi]) ⟨a,st.2.extBut b.extBut hne⟩ b
 done:=fun s Q E st q=>tu hh st.1 st.2 (by simp) q
open AutoSeq1 (wpAny_loadPart') in
set_option maxHeartbeats 1000000 in
theorem sq(l:Addr)(items:Array Value)(n:Nat)(dct:Option Addr)(sl:Array (Option Value)) :
 Meets (Builtin.«enumerate.__new__» ⟨[.type "enumerate",.ref l],[]⟩) (fun _ R s=>s.heap.get? l=some { cls:=.type "tuple",dict:=dct,data:=.seq items n,slots:=sl }/\
  R (.ok (.ret (.ref (s.heap.push { cls:=.type "tuple_iterator",data:=.fields #[.ref l,.int 0 0] }).objs.size)))
   { s with heap:=(s.heap.push { cls:=.type "tuple_iterator",data:=.fields #[.ref l,.int 0 0] }).push { cls:=.type "enumerate",data:=.fields #[.none,.bool false,.ref s.heap.objs.size,rawInt 0,.none,.none] } }):=
 .of_wp fun prog w A R s h=>by
  obtain⟨hp,g,d,tk,os⟩:=s;obtain⟨hl,h⟩:=h;have hsub:=sub_enumerate;have hL:Heap.IsTuple (Shared.heap ⟨hp,g,d,tk,os⟩) l items:=⟨_,hl,rfl,n,rfl⟩
  wp_walk using wpAny_loadPart' hl
  refine wpAny_stack_any fun st=>zI0 ?_
  split
  . rename_i c _ _ _ _ _;cases(c==Value.type "enumerate")
    . wp_walk using wpAny_loadPart' hl,wpAny_pyIter_tuple hL
      exact⟨_,rfl,h⟩
    . wp_walk using wpAny_loadPart' hl,wpAny_pyIter_tuple hL
      exact⟨_,rfl,h⟩
  . wp_walk using wpAny_loadPart' hl,wpAny_pyIter_tuple hL
    exact⟨_,rfl,h⟩
section
variable {prog:Program} {w:World} {A:Around} {E:Value->Shared->Prop} {s:Shared}
theorem uM{l:Addr}{items:Array Value}{Q:Value->Shared->Prop}(hL:s.heap.IsTuple l items)
 (q:∀h',IsEnum h' (s.heap.objs.size+1) s.heap.objs.size 0 .none->h'.IsTupleIter s.heap.objs.size l 0->(∀b o,s.heap.get? b=some o->h'.get? b=some o)->Q (.ref (s.heap.objs.size+1)) { s with heap:=h' }) :
 wpAny (model prog w) A (call (.type "enumerate") [.ref l]) Q E s:=by
 obtain⟨⟨c,dct,dt,sl⟩,hl,hc,n,hd⟩:=hL
 replace hc:c=.type "tuple":=hc
 replace hd:dt=.seq items n:=hd
 subst hc hd;refine callType_new F.called_enumerate (by decide) (F.typeCall_enumerate_1 _) (F.newCall_enumerate_1 _) (fun obj=>F.args_object_init_2 obj _) F.entry_enumerate_new (sq l items n dct sl) ⟨hl,?_⟩;have hz:(s.heap.push { cls:=.type "tuple_iterator",data:=.fields #[.ref l,.int 0 0] }).objs.size=s.heap.objs.size+1:=Heap.size_push ..;show _/\_;rw[hz];have he:IsEnum ((s.heap.push { cls:=.type "tuple_iterator",data:=.fields #[.ref l,.int 0 0] }).push { cls:=.type "enumerate",data:=.fields #[.none,.bool false,.ref s.heap.objs.size,rawInt 0,.none,.none] }) (s.heap.objs.size+1) s.heap.objs.size 0 .none:=by
  have:=zV0 (s.heap.push { cls:=.type "tuple_iterator",data:=.fields #[.ref l,.int 0 0] }) (o:={ cls:=.type "enumerate",data:=.fields #[.none,.bool false,.ref s.heap.objs.size,rawInt 0,.none,.none] }) rfl
  rw[hz]at this;exact this
 exact⟨⟨_,he,rfl⟩,q _ he ⟨_,zO0 _ (zV0 _ rfl),rfl,rfl⟩ fun b o x=>zO0 _ (zO0 _ x)⟩
end
def Ad(K:W.Frag)(a:Addr):It:=
 ⟨fun i H=>∃xs x,SqT K H a xs/\xs[i]?=some x,fun i H y H'=>∃t,y=.ref t/\H t=none/\∀xs x,SqT K H a xs->xs[i]?=some x->H'=upd H t (.tup [.int i,x]),fun i H=>∃xs,SqT K H a xs/\xs.length<=i⟩
theorem tj{P:Program}{w:World}{K:W.Frag}{elts:List Expr}{k:Nat}{pos:Pos}(a e it:Addr)(hei:e≠it)(hai:a≠it)(hae:a≠e) :
 Turn P w K (.Tuple elts k pos) (Ad K a) [e,it] e (fun i h=>(∃old,IsEnum h e it i old)/\h.IsTupleIter it a i) where
 mem:=by simp
 obj:=fun i h st b hb=>by
  obtain⟨⟨old,he⟩,o,e2,c,d⟩:=st;rcases qC0 hb with z | z
  . subst z;exact⟨_,he,fun v z=>nomatch z⟩
  . have z':=zM0 z;subst z';exact⟨o,e2,fun v z=>by rw[d]at z;cases z⟩
 keep:=fun i h h' st k=>by
  obtain⟨⟨old,he⟩,hit⟩:=st;exact⟨⟨old,k e (by simp) _ he⟩,hit.at fun o x=>k it (by simp) o x⟩
 item:=by
  intro X hP hw hK hc i pins s σ H E I hf st hg;subst hP hw hK;obtain⟨xs,x,hq,hx⟩:=hg;obtain⟨its,rv,p,hz⟩:=I.tuple hq;obtain⟨u,hu,ru⟩:=rv.get hx;obtain⟨⟨old,he⟩,hit⟩:=st;have hi:i<its.toArray.size:=by
   rw[zP0];exact(zW0 hu).1
  refine wpAny_pyNext_enum_itemD (xm (prog:=X.prog) (w:=X.w) (A:=X.A.in1) (I.ok.hd hc) it a hai its.toArray) he ⟨hit,p⟩ hi hei (by simp [hei,Ne.symm hae]) fun y h1 tk hy ho hst1 hT hsz hk=>?_
  have ey:y=u:=by
   have h1:its.toArray[i]?=some u:=by simpa using hu
   rw[h1]at hy;exact(zR0 hy).symm
  subst ey;refine⟨_,rfl,wpAny_letOwnedTupleGo_enum ho fun h2 he2 hs2=>?_⟩;have elt:e<s.heap.objs.size:=zN0 he;have hT2:h2.get? s.heap.objs.size=some { cls:=.type "tuple",data:=.seq #[.int i tk,y] }:=(hs2.2 _ (Ne.symm (zS0 elt))).trans hT;have I2:Inv X pins σ (upd H s.heap.objs.size (.tup [.int i,x])) { s with heap:=h2,toks:=tk+1 }:=by
   refine I.turnedNew (ch:=[e,it]) (fun b ob hb eb=>?_) hf (zG0 _) ⟨by show 2<=sizeLine;decide,[.int i tk,y],.cons ⟨_,rfl⟩ (.cons ru .nil),⟨_,hT2,rfl,_,rfl⟩,_,hT2,rfl⟩;have b1:b≠e:=fun z=>hb (by simp [z])
   have b2:b≠it:=fun z=>hb (by simp [z])
   exact(hs2.2 b b1).trans (hk b ob b1 b2 eb)
  refine⟨.ref s.heap.objs.size,_,I2,rfl,⟨_,rfl,I.hok.fresh (zG0 _),fun ys z hy hyi=>?_⟩,⟨⟨y,by simpa using he2⟩,hst1.1.at fun o z=>(hs2.2 it (Ne.symm hei)).trans z⟩,fun b hb=>?_⟩
  . have e1:=I.tuple_inj hy hq;subst e1;rw[hx]at hyi;cases hyi;rfl
  . have z:=hf b hb;have hlt:b<s.heap.objs.size:=by
     rcases qC0 hb with y | y
     . rw[y];exact elt
     . rw[zM0 y];obtain⟨o,e2,_⟩:=hit;exact zN0 e2
    rw[ao (zS0 hlt)];exact z.1
 done:=by
  intro X hP hw hK hc i pins s σ H E I hf st hg;subst hP hw hK;obtain⟨xs,hq,hx⟩:=hg;obtain⟨its,rv,p,hz⟩:=I.tuple hq;obtain⟨⟨old,he⟩,hit⟩:=st;have hl:=rv.length;exact xk (I.ok.hd hc) he hit p (Array.getElem?_eq_none (by simp;omega)) fun h' eb=>⟨rfl,I.turnedL (t':=s.toks) (ch:=[e,it]) (fun b o hb eo=>eb b o (fun z=>hb (by simp [z])) eo) hf⟩
 self:=fun _ _ _ _ _ st h=>by
  obtain⟨⟨old,he⟩,_⟩:=st;exact wpAny_pyIter_enum he h
section
variable {X:Cx} {elts:List Expr} {k:Nat} {tpos:Pos}
def Dx(K:W.Frag)(tl:TE):TI:=fun σ H R=>tl σ H fun x H1=>∃a,x=.ref a/\(∃xs,SqT K H1 a xs)/\R (Ad K a) H1
theorem yK {l:Expr} {tl:TE} {p pos:Pos} (hg:Gl X "enumerate") (hm:X.mg "enumerate"=none) (hl:PE X l tl) (hs:starEach [l] X.env=[(false,eval l X.env)]:=by rfl) :
 PI X (.Tuple elts k tpos) (.Call (.Name "enumerate" p) [l] [] pos) (Dx X.K tl):=by
 intro pins s σ H R I h;refine Call_ (gN I hg hm boot_enumerate (PyProof.Rows.callWith_type1 ?_ hs rfl));rw[hs];show wpAny _ _ (spliced ((false,eval l X.env)::backTo pos (starEach [] X.env))) _ _ s;refine Calls.spliced_cons (thn (hl pins s σ H _ I h) fun u s1 ⟨x,H1,I1,r1,a,ex,⟨xs,hq⟩,q⟩=>?_);subst ex;cases r1;obtain⟨its,rv,p,hz⟩:=I1.tuple hq;have alt:=p.lt;refine Calls.spliced_nil ?_;refine uM p fun h' he hit hk=>?_
 refine wpAny_pyIter_enum he ?_;have I2:Inv X pins σ H1 { s1 with heap:=h' }:=I1.kept (t':=s1.toks) hk;refine⟨s1.heap.objs.size+1,[s1.heap.objs.size+1,s1.heap.objs.size],_,_,H1,rfl,I2,tj a _ _ (qP0 (Nat.lt_succ_self _)) (zS0 alt) (zS0 (Nat.lt_succ_of_lt alt)),⟨⟨_,he⟩,hit⟩,fun b hb=>?_,q⟩;rcases qC0 hb with z | z
 . rw[z];exact I1.fpOk (qK0 _) (I1.hok.fresh (qK0 _))
 . rw[zM0 z];exact I1.fpOk (zG0 _) (I1.hok.fresh (zG0 _))
end
theorem xf{K:W.Frag}{a:Addr}{xs:List V}{g:TG}{tb:TS}{D:Ends}{σ:St}{H:Hp}(Pv:Nat->St->Hp->Prop)(h0:Pv 0 σ H)(hl:∀i σ H,i<=xs.length->Pv i σ H->SqT K H a xs)
 (hs:∀i x σ H t,xs[i]?=some x->Pv i σ H->H t=none->g (.ref t) σ (upd H t (.tup [.int i,x])) fun σ2 H2=>tb { D with nx:=Pv (i+1),ct:=Pv (i+1),bk:=D.nx } σ2 H2) (hd:∀ σ H,Pv xs.length σ H->D.nx σ H) :
 ∃ W:Nat->Nat->St->Hp->Prop,(∃m,W 0 m σ H)/\∀i m σ H,W i m σ H ->
  ((Ad K a).stop i H/\D.nx σ H)∨((Ad K a).go i H/\∃N:St->Hp->Prop,(∀ σ' H',N σ' H'->∃m',m'<m/\W (i+1) m' σ' H')/\∀x H',(Ad K a).yld i H x H'->g x σ H' fun σ2 H2=>tb { D with nx:=N,ct:=N,bk:=D.nx } σ2 H2):=by
 refine⟨fun i m σ H=>m=xs.length-i/\i<=xs.length/\Pv i σ H,⟨xs.length,by simp,qB0 _,h0⟩,?_⟩;rintro i m σ H ⟨rfl,hi,p⟩;have q:=hl i σ H hi p
 by_cases hlt:i<xs.length
 . refine .inr ⟨⟨xs,xs[i],q,by simp [hlt]⟩,Pv (i+1),fun σ' H' p'=>⟨xs.length-(i+1),by omega,rfl,hlt,p'⟩,fun x H' y=>?_⟩;obtain⟨t,rfl,ht,e⟩:=y;have e':=e xs xs[i] q (by simp [hlt]);subst e';exact hs i xs[i] σ H t (by simp [hlt]) p ht
 . have e:i=xs.length:=by omega
   subst e;exact .inl ⟨⟨xs,q,zG0 _⟩,hd σ H p⟩
def ItV(K:W.Frag)(a:Addr)(xs:List V):It:=⟨fun i H=>SqL K H a xs/\i<xs.length,fun i H y H'=>H'=H/\xs.reverse[i]?=some y,fun i _=>xs.length<=i⟩
theorem vO{P:Program}{w:World}{K:W.Frag}{tg:Expr}(a it:Addr)(xs:List V):Turn P w K tg (ItV K a xs) [it] it (fun i h=>i<=xs.length/\h.IsRevIter it a ((xs.length:Int)-1-(i:Int))) where
 mem:=by simp
 obj:=fun i h st b hb=>by
  have e:b=it:=by simpa using hb
  subst e;obtain⟨_,o,e,c,d⟩:=st;exact⟨o,e,fun v z=>by rw[d]at z;cases z⟩
 keep:=fun i h h' st k=>⟨st.1,st.2.at fun o e=>k it (by simp) o e⟩
 item:=by
  intro X hP hw hK hc i pins s σ H E I hf st hg;subst hP hw hK;obtain⟨hq,hi⟩:=hg;obtain⟨its,rv,p,hz⟩:=I.list hq;have hj:xs.length-1-i<xs.length:=by omega
  have hx:xs[xs.length-1-i]?=some xs[xs.length-1-i]:=zQ0 hj;obtain⟨u,hu,ru⟩:=rv.get hx;obtain⟨f0,f1,f2,f3,f4,f5⟩:=hf it (by simp);obtain⟨_,hit⟩:=st;have e1:((xs.length:Int)-1-(i:Int))=((xs.length-1-i:Nat):Int):=by omega
  rw[e1]at hit;refine wpAny_pyNext_rev_item hit p.isList (x:=u) (by simpa using hu) fun h' st' sb=>?_
  have I1:Inv X pins σ H { s with heap:=h' }:=I.turned (t':=s.toks) (fun b o hb e=>(sb.2 b hb).trans e) f0 f1 f3 f4 f5;have e2:((xs.length-1-i:Nat):Int)-1=(xs.length:Int)-1-((i+1:Nat):Int):=by omega
  rw[e2]at st';obtain⟨o,e,c,d⟩:=id st';refine⟨u,rfl,sy (s:={ s with heap:=h' }) e c d (by decide) ⟨xs[xs.length-1-i],H,I1,ru,⟨rfl,?_⟩,⟨by omega,st'⟩,fun b hb=>(hf b hb).1⟩⟩;rw[List.getElem?_reverse hi,hx]
 done:=by
  intro X hP hw hK hc i pins s σ H E I hf st hg;subst hP hw hK;have hg:xs.length<=i:=hg;obtain⟨f0,f1,f2,f3,f4,f5⟩:=hf it (by simp);obtain⟨hi,hit⟩:=st;have e1:(xs.length:Int)-1-(i:Int)=-1:=by omega
  rw[e1]at hit;exact wpAny_pyNext_rev_end (I.ok.hd hc) hit fun h' eb=>⟨rfl,I.turned (t':=s.toks) (fun b o hb e=>eb b o hb e) f0 f1 f3 f4 f5⟩
 self:=fun _ _ _ _ _ st h=>wpAny_pyIter_revIter st.2 h
theorem zP{K:W.Frag}{a:Addr}{xs:List V}{g:TG}{tb:TS}{D:Ends}{σ:St}{H:Hp}(Pv:Nat->St->Hp->Prop)(h0:Pv 0 σ H)(hl:∀i σ H,i<=xs.length->Pv i σ H->SqL K H a xs)
 (hs:∀i x σ H,i<xs.length->xs.reverse[i]?=some x->Pv i σ H->g x σ H fun σ2 H2=>tb { D with nx:=Pv (i+1),ct:=Pv (i+1),bk:=D.nx } σ2 H2) (hd:∀ σ H,Pv xs.length σ H->D.nx σ H) :
 ∃ W:Nat->Nat->St->Hp->Prop,(∃m,W 0 m σ H)/\∀i m σ H,W i m σ H ->
  ((ItV K a xs).stop i H/\D.nx σ H)∨((ItV K a xs).go i H/\∃N:St->Hp->Prop,(∀ σ' H',N σ' H'->∃m',m'<m/\W (i+1) m' σ' H')/\∀x H',(ItV K a xs).yld i H x H'->g x σ H' fun σ2 H2=>tb { D with nx:=N,ct:=N,bk:=D.nx } σ2 H2):=by
 refine⟨fun i m σ H=>m=xs.length-i/\i<=xs.length/\Pv i σ H,⟨xs.length,by simp,qB0 _,h0⟩,?_⟩;rintro i m σ H ⟨rfl,hi,p⟩;have q:=hl i σ H hi p
 by_cases hlt:i<xs.length
 . refine .inr ⟨⟨q,hlt⟩,Pv (i+1),fun σ' H' p'=>⟨xs.length-(i+1),by omega,rfl,hlt,p'⟩,fun x H' y=>?_⟩;obtain⟨e,ex⟩:=y;subst e;exact hs i x σ _ hlt ex p
 . have e:i=xs.length:=by omega
   subst e;exact .inl ⟨zG0 _,hd σ H p⟩
theorem wO {X:Cx} (K:W.Frag) (h:X.K=K:=by rfl):MtR X "list.count" (vo K):=by subst h;exact sf
section
variable {X:Cx} {o e:Expr} {es:List Expr} {to ta:TE} {t:TA} {T id:String} {name f:Str} {r:V->List V->Hp->VK->Prop} {apos cpos pos:Pos}
theorem CU (K:W.Frag) (pa:PlainAttrs T) (slot:Slot T name id) (hty:typeOf (.builtin id)=pure (.type "method_descriptor")) (hm:MtR X id r) (ho:PE X o to) (ha:PA X (e::es) t) (hK:X.K=K:=by rfl)
 (hbase:attributeBase o name X.env (eval o X.env)=eval o X.env:=by rfl)
 (hfew:((backTo cpos (starEach (e::es) X.env)).all (fun x=>!x.1)&&(backToKw cpos (keywordEach [] X.env)).all (fun x=>x.1.isSome)&&decide ((e::es).length+([]:List Keyword).length+(if([]:List Keyword).isEmpty then 0 else 1)<30))=true:=by rfl)
 (hline:(apos.endLine==cpos.line)=true:=by rfl) (hs:starEach (e::es) X.env=(false,eval e X.env)::starEach es X.env:=by rfl) (hplain:(backTo cpos (starEach es X.env)).any (·.1)=false:=by rfl) :
 PE X (.Call (.Attribute o name apos) (e::es) [] cpos) (tBM K T r to t):=by subst hK;exact dW pa slot hty hm ho ha hbase hfew hline hs hplain
theorem mo(K:W.Frag)(he:PE X e ta)(hK:X.K=K:=by rfl)(hb:attributeBase e f X.env (eval e X.env)=eval e X.env:=by rfl):PE X (.Attribute e f pos) (tFld K ta f):=by subst hK;exact aG he hb
end
@[reducible] def cxCompO (X:Cx) (x:Str) (N:List Str) (scope:Scope) (cl:List (Str×Addr)) (s:Shared) (H:Hp) (fp:List Addr):Cx where
 prog:=X.prog
 w:=X.w
 K:=X.K
 mg:=X.mg
 base:=X.base
 A:=X.A
 N:=x::N
 s₀:=s
 H₀:=H
 env:=compEnvC scope ((x,s.heap.objs.size+1)::cl) s.heap.objs.size X.env
 outer:=X.stack
 stack:=X.stack
 ex:=fp
 fn:=fun y=>y==x
 calm:=X.calm
 pn:=[]
 xe:=fun _ _=>False
section
variable {X:Cx} {x:Str} {N:List Str} {ix:List Nat} {scope:Scope} {cl:List (Str×Addr)} {elt iter:Expr} {ifs:List Expr} {px pos:Pos} {wi:TI} {tb:TBl}
theorem ou (K:W.Frag) (hK:X.K=K:=by rfl):iC X (.type "tuple") (fun xs H Q=>∃p ys,xs=[.ref p]/\((SqL K H p ys/\∀l,H l=none->Q (.ref l) (upd H l (.tup ys)))∨(SqT K H p ys/\Q (.ref p) H))):=by subst hK;exact bw
end
theorem CompScope.four{X:Cx}{x y z u v:Str}{scope:Scope}{k l m n:Nat}{c d e g:Addr}{cl:List (Str×Addr)}(c1:closureFor scope X.env=pure cl)(c2:∀y∈scope.names,y.2≠.cell)(c3:scope.kind=.function)(c4:∀y∈scope.names,y.2=.local->scope.names.lookup y.1=some .local)
 (c5:scope.names.lookup x=some .local) (nd:[x,y,z,u,v].Nodup) (hcl:cl=[(y,c),(z,d),(u,e),(v,g)]) (hc:X.env.cells.lookup y=some c) (hd:X.env.cells.lookup z=some d) (he:X.env.cells.lookup u=some e) (hg:X.env.cells.lookup v=some g) (c6:((relabel scope X.env).names.all fun p=>!(p.2==.cell||p.2==.free)||(cl.lookup p.1).isSome)=true)
 (hr:(relabel scope X.env).names.lookup y=some .cell) (hk:X.N[k]?=some y) (hs:X.env.scope.names.lookup y=some .cell)
 (hr2:(relabel scope X.env).names.lookup z=some .cell) (hk2:X.N[l]?=some z) (hs2:X.env.scope.names.lookup z=some .cell)
 (hr3:(relabel scope X.env).names.lookup u=some .cell) (hk3:X.N[m]?=some u) (hs3:X.env.scope.names.lookup u=some .cell)
 (hr4:(relabel scope X.env).names.lookup v=some .cell) (hk4:X.N[n]?=some v) (hs4:X.env.scope.names.lookup v=some .cell):CompScope X x [y,z,u,v] [k,l,m,n] scope cl where
 clos:=c1
 nocell:=c2
 kind:=c3
 names:=c4
 own:=c5
 nd:=nd
 sub:=fun p hp=>by
  subst hcl;rcases qC0 hp with h | h
  . rw[h];assumption
  . rcases qC0 h with h | h
    . rw[h];assumption
    . rcases qC0 h with h | h
      . rw[h];assumption
      . rw[zM0 h];assumption
 has:=c6
 outs:=fun j w h=>by
  have nyz:y≠z:=fun e=>by simp [e]at nd
  have nyu:y≠u:=fun e=>by simp [e]at nd
  have nyv:y≠v:=fun e=>by simp [e]at nd
  have nzu:z≠u:=fun e=>by simp [e]at nd
  have nzv:z≠v:=fun e=>by simp [e]at nd
  have nuv:u≠v:=fun e=>by simp [e]at nd
  subst hcl
  match j,h with
  | 0,h=>
    have e:y=w:=zR0 h;subst e;exact⟨hr,k,c,rfl,hk,by simp [List.lookup],hs⟩
  | 1,h=>
    have e:z=w:=zR0 h;subst e
    have:(z==y)=false:=by simpa using Ne.symm nyz
    exact⟨hr2,l,d,rfl,hk2,by simp [List.lookup,this],hs2⟩
  | 2,h=>
    have ew:u=w:=zR0 h;subst ew;have h1:(u==y)=false:=by simpa using Ne.symm nyu
    have h2:(u==z)=false:=by simpa using Ne.symm nzu
    exact⟨hr3,m,e,rfl,hk3,by simp [List.lookup,h1,h2],hs3⟩
  | 3,h=>
    have ew:v=w:=zR0 h;subst ew;have h1:(v==y)=false:=by simpa using Ne.symm nyv
    have h2:(v==z)=false:=by simpa using Ne.symm nzv
    have h3:(v==u)=false:=by simpa using Ne.symm nuv
    exact⟨hr4,n,g,rfl,hk4,by simp [List.lookup,h1,h2,h3],hs4⟩
  | j+4,h=>simp at h
def SqIt(h:Heap)(i l:Addr)(k:Nat)(xs:Array Value):Prop:=(h.IsListIter i l k/\h.IsList l xs)∨(h.IsTupleIter i l k/\h.IsTuple l xs)
theorem SqIt.at{h h':Heap}{i l:Addr}{k:Nat}{xs:Array Value}(q:SqIt h i l k xs)(e1:∀o,h.get? i=some o->h'.get? i=some o)(e2:∀o,h.get? l=some o->h'.get? l=some o):SqIt h' i l k xs:=by
 rcases q with⟨a,b⟩ | ⟨a,b⟩
 . exact .inl ⟨a.at e1,b.at e2⟩
 . exact .inr ⟨a.at e1,b.at e2⟩
theorem SqIt.ext{h h':Heap}{i l c:Addr}{k:Nat}{xs:Array Value}(q:SqIt h i l k xs)(e:Heap.ExtBut c h h')(n1:i≠c)(n2:l≠c):SqIt h' i l k xs:=q.at (fun o z=>e _ o n1 z) (fun o z=>e _ o n2 z)
theorem SqIt.obj{h:Heap}{i l:Addr}{k:Nat}{xs:Array Value}(q:SqIt h i l k xs):∃o,h.get? i=some o/\∀v,o.data≠.cell v:=by
 rcases q with⟨⟨o,e,_,d⟩,_⟩ | ⟨⟨o,e,_,d⟩,_⟩
 . exact⟨o,e,fun v z=>by rw[d]at z;cases z⟩
 . exact⟨o,e,fun v z=>by rw[d]at z;cases z⟩
section
variable {prog:Program} {w:World} {A:Around} {E:Value->Shared->Prop} {s:Shared}
theorem jZ{i l:Addr}{k:Nat}{xs:Array Value}{x:Value}{Q:Value->Shared->Prop}(q:SqIt s.heap i l k xs)(n:l≠i)(hx:xs[k]?=some x)
 (hQ:∀h',SqIt h' i l (k+1) xs->Heap.SameBut i s.heap h'->Q x { s with heap:=h' }):wpAny (model prog w) A (Builtin.SmallTypes.nextOf (.ref i)) Q E s:=by
 rcases q with⟨a,b⟩ | ⟨a,b⟩
 . exact wpAny_nextOf_list_item a b hx fun h' a' e=>hQ h' (.inl ⟨a',b.extBut e.extBut n⟩) e
 . exact uR a b hx fun h' a' e=>hQ h' (.inr ⟨a',b.extBut e.extBut n⟩) e
theorem tG{i l:Addr}{k:Nat}{xs:Array Value}{Q:Value->Shared->Prop}(hh:A.handled=none)(q:SqIt s.heap i l k xs)(hx:xs[k]?=none)
 (hE:∀h' e,Heap.ExtBut i s.heap h'->(∃o,h'.get? e=some o/\o.cls=.type "StopIteration")->E (.ref e) { s with heap:=h' }):wpAny (model prog w) A (Builtin.SmallTypes.nextOf (.ref i)) Q E s:=by
 rcases q with⟨a,b⟩ | ⟨a,b⟩
 . exact wpAny_nextOf_list_end hh a b hx hE
 . exact tu hh a b hx hE
theorem Af{z TI TO i1 i2 l1 l2:Addr}{k1 k2:Nat}{xs ys:Array Value}{x y a b:Value}{Q:Option Value->Shared->Prop}(D:ZipApart z TI TO i1 i2 l1 l2)
 (hz:IsZip s.heap z TI TO .none) (hTI:IsPair s.heap TI (.ref i1) (.ref i2)) (hTO:IsPair s.heap TO a b) (h1:SqIt s.heap i1 l1 k1 xs) (h2:SqIt s.heap i2 l2 k2 ys) (hx:xs[k1]?=some x) (hy:ys[k2]?=some y)
 (hQ:∀h',IsZip h' z TI TO (rawInt s.heap.objs.size)->IsPair h' TO x y->SqIt h' i1 l1 (k1+1) xs->SqIt h' i2 l2 (k2+1) ys->IsPair h' s.heap.objs.size x y ->
  (∀c o,c≠z->c≠TO->c≠i1->c≠i2->s.heap.get? c=some o->h'.get? c=some o)->Q (some (.ref s.heap.objs.size)) { s with heap:=h' }) :
 wpAny (model prog w) A (pyNext (.ref z)) Q E s:=by
 have hT:s.TypeIs (.ref z) "zip":=⟨_,hz,rfl⟩
 unfold pyNext;refine zA0 (wpAny_attempt (wpAny_callSpecial?_slot (name:=Str.ofString "__next__") hT F.slot_zip_next (wpAny_call_entry F.slot_zip_next hT F.entry_zip_next ?_ (F.args_zip_next_1 _))));show wpAny _ _ (field (.ref z) 2 >>= _) _ _ _;refine zA0 (wpAny_field hz rfl (x:=.bool false) rfl ?_);show wpAny _ _ (field (.ref z) 3 >>= _) _ _ _;refine zA0 (wpAny_field hz rfl (x:=.ref TI) rfl (zA0 (wpAny_seqItems hTI rfl ?_)));show wpAny _ _ (Builtin.SmallTypes.ownedTupleIsFree (.ref z) >>= _) _ _ _;refine zA0 ?_;unfold Builtin.SmallTypes.ownedTupleIsFree;refine zA0 (wpAny_field hz rfl (x:=.none) rfl (zI0 ?_));simp only[if_true];refine zA0 (wpAny_rule (zA0 (wpAny_field hz rfl (x:=.ref TO) rfl (zA0 (wpAny_setField_rec hz (by simp) fun ha za sa=>zA0 ?_)))))
 replace za:IsZip ha z TI TO .ellipsis:=za
 simp only[List.zipIdx_cons,List.zipIdx_nil,List.forIn_cons,List.forIn_nil];refine zA0 (zA0 (wpAny_onRaise ?_));show wpAny _ _ (Builtin.SmallTypes.nextOf (.ref i1) >>= _) _ _ _;refine zA0 (jZ (h1.ext sa.extBut D.i1z D.l1z) D.l1i1 hx fun hb q1 sb=>zI0 ?_);have TOb:IsPair hb TO a b:=sb.extBut _ _ D.TOi1 (sa.extBut _ _ D.TOz hTO);refine zA0 (wpAny_seqItems TOb rfl (zA0 (wpAny_updateSeq_pair TOb fun hc TOc sc=>?_)))
 replace TOc:IsPair hc TO x b:=TOc
 refine zA0 (wpAny_letGo (zI0 (zA0 (zA0 (wpAny_onRaise ?_)))));show wpAny _ _ (Builtin.SmallTypes.nextOf (.ref i2) >>= _) _ _ _;refine zA0 (jZ (((h2.ext sa.extBut D.i2z D.l2z).ext sb.extBut D.i12.symm D.l2i1).ext sc.extBut D.TOi2.symm D.l2TO) D.l2i2 hy fun hd q2 sd=>zI0 ?_);have TOd:IsPair hd TO x b:=sd.extBut _ _ D.TOi2 TOc;refine zA0 (wpAny_seqItems TOd rfl (zA0 (wpAny_updateSeq_pair TOd fun he TOe se=>?_)))
 replace TOe:IsPair he TO x y:=TOe
 refine zA0 (wpAny_letGo (zI0 (zI0 (zA0 (wpAny_seqItems TOe rfl (zA0 (wpAny_newTuple ?_)))))));have sz:he.objs.size=s.heap.objs.size:=by rw[se.1,sd.1,sc.1,sb.1,sa.1]
 have ze:IsZip he z TI TO .ellipsis:=se.extBut _ _ D.TOz.symm (sd.extBut _ _ D.i2z.symm (sc.extBut _ _ D.TOz.symm (sb.extBut _ _ D.i1z.symm za)));have ke:∀c o,c≠z->c≠TO->c≠i1->c≠i2->s.heap.get? c=some o->he.get? c=some o:=fun c o c1 c2 c3 c4 e=>se.extBut _ _ c2 (sd.extBut _ _ c4 (sc.extBut _ _ c2 (sb.extBut _ _ c3 (sa.extBut _ _ c1 e))))
 have q1e:=((q1.ext sc.extBut D.TOi1.symm D.l1TO).ext sd.extBut D.i12 D.l1i2).ext se.extBut D.TOi1.symm D.l1TO;have q2e:=q2.ext se.extBut D.TOi2.symm D.l2TO;have zlt:z<he.objs.size:=zN0 ze;show wpAny _ _ (Builtin.SmallTypes.ownedTupleHandOut (.ref z) (.ref he.objs.size) >>= _) _ _ _;refine zA0 ?_;unfold Builtin.SmallTypes.ownedTupleHandOut;have zf:IsZip (he.push { cls:=.type "tuple",data:=.seq #[x,y] }) z TI TO .ellipsis:=zO0 _ ze;refine zA0 (wpAny_setField_rec zf (by simp) fun hg zg sg=>?_)
 replace zg:IsZip hg z TI TO (rawInt he.objs.size):=zg
 refine wpAny_setField_rec zg (by simp) fun hi zi si=>?_
 replace zi:IsZip hi z TI TO (rawInt he.objs.size):=zi
 have up:∀c o,c≠z->he.get? c=some o->hi.get? c=some o:=fun c o c1 e=>si.extBut _ _ c1 (sg.extBut _ _ c1 (zO0 _ e))
 have Ti:IsPair hi he.objs.size x y:=si.extBut _ _ (qP0 zlt) (sg.extBut _ _ (qP0 zlt) (zV0 _ rfl));rw[sz]at zi Ti;refine zI0 ⟨_,rfl,zI0 ?_⟩;show Q (some (.ref he.objs.size)) _;rw[sz];exact hQ hi zi (up _ _ D.TOz TOe) (q1e.at (fun o e=>up _ o D.i1z e) (fun o e=>up _ o D.l1z e)) (q2e.at (fun o e=>up _ o D.i2z e) (fun o e=>up _ o D.l2z e)) Ti fun c o c1 c2 c3 c4 e=>up c o c1 (ke c o c1 c2 c3 c4 e)
theorem Cf{z TI TO i1 i2 l1 l2:Addr}{k1 k2:Nat}{xs ys:Array Value}{a b:Value}{Q:Option Value->Shared->Prop}(hh:A.handled=none)(D:ZipApart z TI TO i1 i2 l1 l2)
 (hz:IsZip s.heap z TI TO .none) (hTI:IsPair s.heap TI (.ref i1) (.ref i2)) (hTO:IsPair s.heap TO a b) (h1:SqIt s.heap i1 l1 k1 xs) (h2:SqIt s.heap i2 l2 k2 ys) (hend:xs[k1]?=none∨ys[k2]?=none)
 (hQ:∀h',(∀c o,c≠z->c≠TO->c≠i1->c≠i2->s.heap.get? c=some o->h'.get? c=some o)->Q none { s with heap:=h' }):wpAny (model prog w) A (pyNext (.ref z)) Q E s:=by
 have hT:s.TypeIs (.ref z) "zip":=⟨_,hz,rfl⟩
 unfold pyNext;have hh1:A.in1.handled=none:=hh
 suffices hs:wpAny (model prog w) A.in1 (Builtin.«zip.__next__» ⟨[.ref z],[]⟩) (fun fin s'=>∃v,fin=.done (.ret v)/\False)
  (fun v s'=>∃h' e,v=.ref e/\s'={ s with heap:=h' }/\(∀c o,c≠z->c≠TO->c≠i1->c≠i2->s.heap.get? c=some o->h'.get? c=some o)/\∃o,h'.get? e=some o/\o.cls=.type "StopIteration") s by
  refine zA0 (wpAny_attempt (wpAny_callSpecial?_slot (name:=Str.ofString "__next__") hT F.slot_zip_next (wpAny_call_entry F.slot_zip_next hT F.entry_zip_next (wpAny_mono hs (fun _ _ h=>by obtain⟨_,_,f⟩:=h;exact f.elim) ?_) (F.args_zip_next_1 _))));rintro _ _ ⟨h',e,rfl,rfl,hk,o,ho,hc⟩;exact zA0 (wpAny_isInstance (T:="StopIteration") (b:=true) ⟨o,ho,hc⟩ isSubtype_stop (zI0 (hQ _ hk)))
 show wpAny _ _ (field (.ref z) 2 >>= _) _ _ _;refine zA0 (wpAny_field hz rfl (x:=.bool false) rfl ?_);show wpAny _ _ (field (.ref z) 3 >>= _) _ _ _;refine zA0 (wpAny_field hz rfl (x:=.ref TI) rfl (zA0 (wpAny_seqItems hTI rfl ?_)));show wpAny _ _ (Builtin.SmallTypes.ownedTupleIsFree (.ref z) >>= _) _ _ _;refine zA0 ?_;unfold Builtin.SmallTypes.ownedTupleIsFree;refine zA0 (wpAny_field hz rfl (x:=.none) rfl (zI0 ?_));simp only[if_true];refine zA0 (wpAny_rule (zA0 (wpAny_field hz rfl (x:=.ref TO) rfl (zA0 (wpAny_setField_rec hz (by simp) fun ha za sa=>zA0 ?_)))))
 replace za:IsZip ha z TI TO .ellipsis:=za
 simp only[List.zipIdx_cons,List.zipIdx_nil,List.forIn_cons,List.forIn_nil];refine zA0 (zA0 (wpAny_onRaise ?_));show wpAny _ _ (Builtin.SmallTypes.nextOf (.ref i1) >>= _) _ _ _;cases hx:xs[k1]? with
 | none=>
   refine zA0 (tG hh1 (h1.ext sa.extBut D.i1z D.l1z) hx fun hb e sb ⟨oe,hoe,hce⟩=>?_);have zb:IsZip hb z TI TO .ellipsis:=sb _ _ D.i1z.symm za;have ez:e≠z:=fun x=>by subst x;rw[zb]at hoe;cases hoe;simp at hce
   exact wpAny_setField_rec zb (by simp) fun hc _ sc=>⟨hc,e,rfl,rfl,fun c o c1 _ c3 _ x=>sc.extBut _ _ c1 (sb _ _ c3 (sa.extBut _ _ c1 x)),oe,sc.extBut _ _ ez hoe,hce⟩
 | some x=>
   have hy:ys[k2]?=none:=by
    rcases hend with h | h
    . rw[hx]at h;cases h
    . exact h
   refine zA0 (jZ (h1.ext sa.extBut D.i1z D.l1z) D.l1i1 hx fun hb q1 sb=>zI0 ?_);have TOb:IsPair hb TO a b:=sb.extBut _ _ D.TOi1 (sa.extBut _ _ D.TOz hTO);refine zA0 (wpAny_seqItems TOb rfl (zA0 (wpAny_updateSeq_pair TOb fun hc TOc sc=>?_)));refine zA0 (wpAny_letGo (zI0 (zA0 (zA0 (wpAny_onRaise ?_)))));show wpAny _ _ (Builtin.SmallTypes.nextOf (.ref i2) >>= _) _ _ _;refine zA0 (tG hh1 (((h2.ext sa.extBut D.i2z D.l2z).ext sb.extBut D.i12.symm D.l2i1).ext sc.extBut D.TOi2.symm D.l2TO) hy fun hd e sd ⟨oe,hoe,hce⟩=>?_);have zd:IsZip hd z TI TO .ellipsis:=sd _ _ D.i2z.symm (sc.extBut _ _ D.TOz.symm (sb.extBut _ _ D.i1z.symm za));have ez:e≠z:=fun x=>by subst x;rw[zd]at hoe;cases hoe;simp at hce
   exact wpAny_setField_rec zd (by simp) fun he _ se=>⟨he,e,rfl,rfl,fun c o c1 c2 c3 c4 x=>se.extBut _ _ c1 (sd _ _ c4 (sc.extBut _ _ c2 (sb.extBut _ _ c3 (sa.extBut _ _ c1 x)))),oe,se.extBut _ _ ez hoe,hce⟩
end
def itO (b:Bool) (l:Addr):Obj:={ cls:=.type (if b=true then "list_iterator" else "tuple_iterator"),data:=.fields #[.ref l,.int 0 0] }
def SqO(b:Bool)(h:Heap)(l:Addr)(xs:Array Value):Prop:=if b=true then h.IsList l xs else h.IsTuple l xs
abbrev zqH (h:Heap) (b1 b2:Bool) (l1 l2:Addr):Heap:=((((h.push (itO b1 l1)).push (itO b2 l2)).push { cls:=.type "tuple",data:=.seq #[.ref h.objs.size,.ref (h.push (itO b1 l1)).objs.size] }).push { cls:=.type "tuple",data:=.seq #[.none,.none] }).push
 { cls:=.type "zip",data:=.fields #[.none,.bool false,.bool false,.ref ((h.push (itO b1 l1)).push (itO b2 l2)).objs.size,.ref (((h.push (itO b1 l1)).push (itO b2 l2)).push { cls:=.type "tuple",data:=.seq #[.ref h.objs.size,.ref (h.push (itO b1 l1)).objs.size] }).objs.size] }
abbrev zqA (h:Heap) (b1 b2:Bool) (l1 l2:Addr):Addr:=((((h.push (itO b1 l1)).push (itO b2 l2)).push { cls:=.type "tuple",data:=.seq #[.ref h.objs.size,.ref (h.push (itO b1 l1)).objs.size] }).push { cls:=.type "tuple",data:=.seq #[.none,.none] }).objs.size
theorem xU{b:Bool}{h:Heap}{l:Addr}{xs:Array Value}(q:SqO b h l xs)(o:Obj):SqO b (h.push o) l xs:=by
 cases b
 . exact Heap.IsTuple.at q fun o' e=>zO0 _ e
 . exact Heap.IsList.push q _
theorem qV{prog:Program}{w:World}{A:Around}{E:Value->Shared->Prop}{s:Shared}{b:Bool}{l:Addr}{xs:Array Value}{Q:Value->Shared->Prop}(q:SqO b s.heap l xs)(hQ:Q (.ref s.heap.objs.size) { s with heap:=s.heap.push (itO b l) }) :
 wpAny (model prog w) A (pyIter (.ref l)) Q E s:=by
 cases b
 . exact wpAny_pyIter_tuple (t:=l) (items:=xs) q hQ
 . exact wpAny_pyIter_list (l:=l) (items:=xs) q hQ
set_option maxHeartbeats 1000000 in
theorem zz(b1 b2:Bool)(l1 l2:Addr)(xs ys:Array Value) :
 Meets (Builtin.«zip.__new__» ⟨[.type "zip",.ref l1,.ref l2],[]⟩) (fun _ R s=>SqO b1 s.heap l1 xs/\SqO b2 s.heap l2 ys/\
  R (.ok (.ret (.ref (zqA s.heap b1 b2 l1 l2)))) { s with heap:=zqH s.heap b1 b2 l1 l2 }):=
 .of_wp fun prog w A R s h=>by
  obtain⟨hp,g,d,tk,os⟩:=s;obtain⟨hl1,hl2,h⟩:=h;have hsub:=sub_zip;have hL1:SqO b1 (Shared.heap ⟨hp,g,d,tk,os⟩) l1 xs:=hl1;have hL2:SqO b2 (Shared.heap ⟨hp.push (itO b1 l1),g,d,tk,os⟩) l2 ys:=xU hl2 _
  wp_walk using qV hL1,qV hL2
  exact⟨_,rfl,h⟩
section
variable {prog:Program} {w:World} {A:Around} {E:Value->Shared->Prop} {s:Shared}
theorem zJ{b:Bool}{h h':Heap}{n l:Addr}{xs:Array Value}(e:h'.get? n=some (itO b l))(q:SqO b h l xs)(k:∀o,h.get? l=some o->h'.get? l=some o):SqIt h' n l 0 xs:=by
 cases b
 . exact .inr ⟨⟨_,e,rfl,rfl⟩,Heap.IsTuple.at q k⟩
 . exact .inl ⟨⟨_,e,rfl,rfl⟩,Heap.IsList.at q k⟩
theorem Bq{b1 b2:Bool}{l1 l2:Addr}{xs ys:Array Value}{Q:Value->Shared->Prop}(hl1:SqO b1 s.heap l1 xs)(hl2:SqO b2 s.heap l2 ys)
 (h:∀h',IsZip h' (s.heap.objs.size+4) (s.heap.objs.size+2) (s.heap.objs.size+3) .none->IsPair h' (s.heap.objs.size+2) (.ref s.heap.objs.size) (.ref (s.heap.objs.size+1)) ->
  IsPair h' (s.heap.objs.size+3) .none .none->SqIt h' s.heap.objs.size l1 0 xs->SqIt h' (s.heap.objs.size+1) l2 0 ys ->
  (∀c o,s.heap.get? c=some o->h'.get? c=some o)->Q (.ref (s.heap.objs.size+4)) { s with heap:=h' }) :
 wpAny (model prog w) A (call (.type "zip") [.ref l1,.ref l2]) Q E s:=by
 refine callType_new F.called_zip (by decide) (F.typeCall_zip_2 _ _) (F.newCall_zip_2 _ _) (fun obj=>F.args_object_init_3 obj _ _) F.entry_zip_new (zz b1 b2 l1 l2 xs ys) ⟨hl1,hl2,?_⟩;have z1:∀(h:Heap)(o:Obj),(h.push o).objs.size=h.objs.size+1:=fun h o=>Heap.size_push ..
 have up:∀(h:Heap)(o:Obj)(c:Addr)(u:Obj),h.get? c=some u->(h.push o).get? c=some u:=fun h o c u e=>zO0 _ e
 have top:∀(h:Heap)(o:Obj)(n:Nat),o.isFreed=false->h.objs.size=n->(h.push o).get? n=some o:=fun h o n f e=>by rw[←e];exact zV0 _ f
 have f1:∀b l,(itO b l).isFreed=false:=fun _ _=>rfl
 show _/\_;have g1:(zqH s.heap b1 b2 l1 l2).get? s.heap.objs.size=some (itO b1 l1):=up _ _ _ _ (up _ _ _ _ (up _ _ _ _ (up _ _ _ _ (top _ _ _ (f1 _ _) rfl))));have g2:(zqH s.heap b1 b2 l1 l2).get? (s.heap.objs.size+1)=some (itO b2 l2):=up _ _ _ _ (up _ _ _ _ (up _ _ _ _ (top _ _ _ (f1 _ _) (z1 _ _))));have g3:IsPair (zqH s.heap b1 b2 l1 l2) (s.heap.objs.size+2) (.ref s.heap.objs.size) (.ref (s.heap.objs.size+1)):=by
  have:=up _ { cls:=.type "zip",data:=.fields #[.none,.bool false,.bool false,.ref ((s.heap.push (itO b1 l1)).push (itO b2 l2)).objs.size,.ref (((s.heap.push (itO b1 l1)).push (itO b2 l2)).push { cls:=.type "tuple",data:=.seq #[.ref s.heap.objs.size,.ref (s.heap.push (itO b1 l1)).objs.size] }).objs.size] } _ _ (up _ { cls:=.type "tuple",data:=.seq #[.none,.none] } _ _ (top ((s.heap.push (itO b1 l1)).push (itO b2 l2)) { cls:=.type "tuple",data:=.seq #[.ref s.heap.objs.size,.ref (s.heap.push (itO b1 l1)).objs.size] } (s.heap.objs.size+2) rfl (by rw[z1,z1])))
  exact this.trans (by rw[z1])
 have g4:IsPair (zqH s.heap b1 b2 l1 l2) (s.heap.objs.size+3) .none .none:=up _ _ _ _ (top _ _ _ rfl (by rw[z1,z1,z1]));have g5:IsZip (zqH s.heap b1 b2 l1 l2) (s.heap.objs.size+4) (s.heap.objs.size+2) (s.heap.objs.size+3) .none:=by
  have:=top ((((s.heap.push (itO b1 l1)).push (itO b2 l2)).push { cls:=.type "tuple",data:=.seq #[.ref s.heap.objs.size,.ref (s.heap.push (itO b1 l1)).objs.size] }).push { cls:=.type "tuple",data:=.seq #[.none,.none] })
   { cls:=.type "zip",data:=.fields #[.none,.bool false,.bool false,.ref ((s.heap.push (itO b1 l1)).push (itO b2 l2)).objs.size,.ref (((s.heap.push (itO b1 l1)).push (itO b2 l2)).push { cls:=.type "tuple",data:=.seq #[.ref s.heap.objs.size,.ref (s.heap.push (itO b1 l1)).objs.size] }).objs.size] } (s.heap.objs.size+4) rfl (by rw[z1,z1,z1,z1])
  exact this.trans (by simp only[z1])
 have ea:zqA s.heap b1 b2 l1 l2=s.heap.objs.size+4:=by simp only[zqA,z1]
 have keep:∀c o,s.heap.get? c=some o->(zqH s.heap b1 b2 l1 l2).get? c=some o:=fun c o e=>up _ _ _ _ (up _ _ _ _ (up _ _ _ _ (up _ _ _ _ (up _ _ _ _ e))))
 rw[ea];exact⟨⟨_,g5,rfl⟩,h _ g5 g3 g4 (zJ g1 hl1 (keep _)) (zJ g2 hl2 (keep _)) keep⟩
end
def SqB(K:W.Frag)(b:Bool)(H:Hp)(a:Addr)(xs:List V):Prop:=if b=true then SqL K H a xs else SqT K H a xs
theorem SqB.at{X:Cx}{pins:List (Addr×Obj)}{σ:St}{H:Hp}{s:Shared}{b:Bool}{a:Addr}{xs:List V}(I:Inv X pins σ H s)(q:SqB X.K b H a xs):∃its,Vals xs its/\SqO b s.heap a its.toArray/\a<s.heap.objs.size:=by
 cases b
 . obtain⟨its,rv,p,_⟩:=I.tuple q;exact⟨its,rv,p,p.lt⟩
 . obtain⟨its,rv,p,_⟩:=I.list q;exact⟨its,rv,p.isList,p.lt⟩
theorem zipAp{n l1 l2:Nat}(h1:l1<n)(h2:l2<n):ZipApart (n+4) (n+2) (n+3) n (n+1) l1 l2:=by
 constructor <;> exact fun y=>by
  have y':(_:Nat)=_:=y;omega
section
variable {X:Cx} {elts:List Expr} {k:Nat} {tpos:Pos}
theorem xy:bootBuiltins ("zip":Str)=some (.type "zip"):=by decide +kernel
end
abbrev jt(h:Heap)(z TI TO:Addr)(f0:Value)(b:Bool):Prop:=
 h.get? z=some { cls:=.type "zip",dict:=none,data:=.fields #[f0,.bool b,.bool false,.ref TI,.ref TO],slots:=#[] }
section
variable {prog:Program} {w:World} {A:Around} {E:Value->Shared->Prop} {s:Shared}
theorem qO{a:Addr}{Q:Option Obj->Shared->Prop}(h:Q (s.heap.get? a) s):wpAny (model prog w) A (loadIfAlive a) Q E s:=fun Γ p _=>by
 unfold loadIfAlive;rw[Sem.wp_loadIfAlive];exact h
theorem mx{z TI TO t:Addr}{b:Bool}{ob:Obj}{Q:Bool->Shared->Prop}(hz:jt s.heap z TI TO (rawInt t) b)(ht:s.heap.get? t=some ob)
 (hQ:∀h',jt h' z TI TO (rawInt t) true->Heap.SameBut z s.heap h'->Q false { s with heap:=h' }):wpAny (model prog w) A (Builtin.SmallTypes.ownedTupleIsFree (.ref z)) Q E s:=by
 unfold Builtin.SmallTypes.ownedTupleIsFree;refine zA0 (wpAny_field hz rfl (x:=rawInt t) rfl ?_);show wpAny _ _ (loadIfAlive (Int.toNat (t:Int)) >>= _) _ _ _;rw[qO0];refine zA0 (qO ?_);rw[ht];simp only[Option.isNone_some,Bool.false_eq_true,if_false];refine zA0 (wpAny_field hz rfl (x:=.bool b) rfl ?_);cases b with
 | true=>
   rw[zD0 (by decide)];exact zI0 (hQ s.heap hz (Heap.SameBut.refl _ _))
 | false=>
   rw[zF0 (by decide)];refine zA0 (wpAny_setField_rec hz (by simp) fun ha za sa=>zI0 ?_);exact hQ ha za sa
theorem Ag{z TI TO i1 i2 l1 l2 t:Addr}{k1 k2:Nat}{xs ys:Array Value}{x y:Value}{b:Bool}{ob:Obj}{Q:Option Value->Shared->Prop}(D:ZipApart z TI TO i1 i2 l1 l2)
 (hz:jt s.heap z TI TO (rawInt t) b) (ht:s.heap.get? t=some ob) (hTI:IsPair s.heap TI (.ref i1) (.ref i2)) (h1:SqIt s.heap i1 l1 k1 xs) (h2:SqIt s.heap i2 l2 k2 ys) (hx:xs[k1]?=some x) (hy:ys[k2]?=some y)
 (hQ:∀h',jt h' z TI TO (rawInt t) true->SqIt h' i1 l1 (k1+1) xs->SqIt h' i2 l2 (k2+1) ys->IsPair h' s.heap.objs.size x y ->
  (∀c o,c≠z->c≠i1->c≠i2->s.heap.get? c=some o->h'.get? c=some o)->Q (some (.ref s.heap.objs.size)) { s with heap:=h' }) :
 wpAny (model prog w) A (pyNext (.ref z)) Q E s:=by
 have hT:s.TypeIs (.ref z) "zip":=⟨_,hz,rfl⟩
 unfold pyNext;refine zA0 (wpAny_attempt (wpAny_callSpecial?_slot (name:=Str.ofString "__next__") hT F.slot_zip_next (wpAny_call_entry F.slot_zip_next hT F.entry_zip_next ?_ (F.args_zip_next_1 _))));show wpAny _ _ (field (.ref z) 2 >>= _) _ _ _;refine zA0 (wpAny_field hz rfl (x:=.bool false) rfl ?_);show wpAny _ _ (field (.ref z) 3 >>= _) _ _ _;refine zA0 (wpAny_field hz rfl (x:=.ref TI) rfl (zA0 (wpAny_seqItems hTI rfl ?_)));show wpAny _ _ (Builtin.SmallTypes.ownedTupleIsFree (.ref z) >>= _) _ _ _;refine zA0 (mx hz ht fun ha za sa=>?_);simp only[Bool.false_eq_true,if_false];refine zA0 ?_;rw[←Array.forIn_toList];simp only[List.forIn_cons,List.forIn_nil];refine zA0 (zA0 (wpAny_holding ?_));show wpAny _ _ (Builtin.SmallTypes.nextOf (.ref i1) >>= _) _ _ _;refine zA0 (jZ (h1.ext sa.extBut D.i1z D.l1z) D.l1i1 hx fun hb q1 sb=>zI0 ?_);refine zI0 (zA0 (zA0 (wpAny_holding ?_)));show wpAny _ _ (Builtin.SmallTypes.nextOf (.ref i2) >>= _) _ _ _;refine zA0 (jZ ((h2.ext sa.extBut D.i2z D.l2z).ext sb.extBut D.i12.symm D.l2i1) D.l2i2 hy fun hd q2 sd=>zI0 ?_);refine zI0 (zI0 (zA0 (wpAny_newTuple (hsz:=by show 2<=sizeLine;decide) ?_)));have sz:hd.objs.size=s.heap.objs.size:=by rw[sd.1,sb.1,sa.1]
 have zd:jt hd z TI TO (rawInt t) true:=sd.extBut _ _ D.i2z.symm (sb.extBut _ _ D.i1z.symm za);have q1d:=q1.ext sd.extBut D.i12 D.l1i2;have up:∀c o,hd.get? c=some o->(hd.push { cls:=.type "tuple",data:=.seq #[x,y] }).get? c=some o:=fun c o e=>zO0 _ e
 refine zI0 ⟨_,rfl,zI0 ?_⟩;show Q (some (.ref hd.objs.size)) _;rw[sz];refine hQ _ (up _ _ zd) (q1d.at (fun o e=>up _ o e) (fun o e=>up _ o e)) (q2.at (fun o e=>up _ o e) (fun o e=>up _ o e)) ?_ fun c o c1 c2 c3 e=>up _ _ (sd.extBut _ _ c3 (sb.extBut _ _ c2 (sa.extBut _ _ c1 e)))
 rw[←sz];exact zV0 _ rfl
theorem Cg{z TI TO i1 i2 l1 l2 t:Addr}{k1:Nat}{xs:Array Value}{b:Bool}{ob:Obj}{Q:Option Value->Shared->Prop}(hh:A.handled=none)(D:ZipApart z TI TO i1 i2 l1 l2)
 (hz:jt s.heap z TI TO (rawInt t) b) (ht:s.heap.get? t=some ob) (hTI:IsPair s.heap TI (.ref i1) (.ref i2)) (h1:SqIt s.heap i1 l1 k1 xs) (hx:xs[k1]?=none)
 (hQ:∀h',(∀c o,c≠z->c≠i1->c≠i2->s.heap.get? c=some o->h'.get? c=some o)->Q none { s with heap:=h' }):wpAny (model prog w) A (pyNext (.ref z)) Q E s:=by
 have hT:s.TypeIs (.ref z) "zip":=⟨_,hz,rfl⟩
 unfold pyNext;have hh1:A.in1.handled=none:=hh
 suffices hs:wpAny (model prog w) A.in1 (Builtin.«zip.__next__» ⟨[.ref z],[]⟩) (fun fin s'=>∃v,fin=.done (.ret v)/\False)
  (fun v s'=>∃h' e,v=.ref e/\s'={ s with heap:=h' }/\(∀c o,c≠z->c≠i1->c≠i2->s.heap.get? c=some o->h'.get? c=some o)/\∃o,h'.get? e=some o/\o.cls=.type "StopIteration") s by
  refine zA0 (wpAny_attempt (wpAny_callSpecial?_slot (name:=Str.ofString "__next__") hT F.slot_zip_next (wpAny_call_entry F.slot_zip_next hT F.entry_zip_next (wpAny_mono hs (fun _ _ h=>by obtain⟨_,_,f⟩:=h;exact f.elim) ?_) (F.args_zip_next_1 _))));rintro _ _ ⟨h',e,rfl,rfl,hk,o,ho,hc⟩;exact zA0 (wpAny_isInstance (T:="StopIteration") (b:=true) ⟨o,ho,hc⟩ isSubtype_stop (zI0 (hQ _ hk)))
 show wpAny _ _ (field (.ref z) 2 >>= _) _ _ _;refine zA0 (wpAny_field hz rfl (x:=.bool false) rfl ?_);show wpAny _ _ (field (.ref z) 3 >>= _) _ _ _;refine zA0 (wpAny_field hz rfl (x:=.ref TI) rfl (zA0 (wpAny_seqItems hTI rfl ?_)));show wpAny _ _ (Builtin.SmallTypes.ownedTupleIsFree (.ref z) >>= _) _ _ _;refine zA0 (mx hz ht fun ha za sa=>?_);simp only[Bool.false_eq_true,if_false];refine zA0 ?_;rw[←Array.forIn_toList];simp only[List.forIn_cons,List.forIn_nil];refine zA0 (zA0 (wpAny_holding ?_));show wpAny _ _ (Builtin.SmallTypes.nextOf (.ref i1) >>= _) _ _ _;refine zA0 (tG hh1 (h1.ext sa.extBut D.i1z D.l1z) hx fun hb e sb hoe=>?_);exact⟨hb,e,rfl,rfl,fun c o c1 c3 _ x=>sb _ _ c3 (sa.extBut _ _ c1 x),hoe⟩
end
section
variable {X:Cx} {pins:List (Addr×Obj)} {σ:St}
def CD(K:W.Frag):R2:=fun x y H Q=>∃a b xs,x=.ref a/\y=.ref b/\SqL K H a xs/\SqL K H b []/\Q (.bl (!xs.isEmpty)) H
theorem yS(hu:X.A.units<cLine):OpR X (compareOp .NotEq) (CD X.K):=by
 intro pins s σ H x y v u Q I rx ry h;obtain⟨a,b,xs,rfl,rfl,ha,hb,q⟩:=h;cases rx;cases ry;obtain⟨its,r1,p1,_⟩:=I.list ha;obtain⟨its2,r2,p2,_⟩:=I.list hb;have e2:its2=[]:=r2.nil_iff.mpr rfl;subst e2;cases xs with
 | nil=>
   have e1:its=[]:=r1.nil_iff.mpr rfl;subst e1;exact(SeqAt.RcNeAt.lists (e:=fun _=>true) p1.isList p2.isList rfl hu fun j h1=>absurd h1 (by simp)) X.prog X.w X.xe _ ⟨.bl false,H,I,rfl,q⟩
 | cons z r=>
   have l1:=r1.length;exact(SeqAt.RcNeAt.lists_lengths p1.isList p2.isList (by simp at l1 ⊢;intro e;rw[e]at l1;simp at l1) hu) X.prog X.w X.xe _ ⟨.bl true,H,I,rfl,q⟩
end
def DO(K:W.Frag)(a:Addr)(xs:List V):It:=⟨fun i H=>SqT K H a xs/\i<xs.length,fun i H y H'=>H'=H/\xs.reverse[i]?=some y,fun i _=>xs.length<=i⟩
theorem RevT.keep{h h':Heap}{it t:Addr}{i:Int}(x:RevT h it t i)(k:∀o,h.get? it=some o->h'.get? it=some o):RevT h' it t i:=k _ x
theorem vP{P:Program}{w:World}{K:W.Frag}{tg:Expr}(a it:Addr)(xs:List V):Turn P w K tg (DO K a xs) [it] it (fun i h=>i<=xs.length/\RevT h it a ((xs.length:Int)-1-(i:Int))) where
 mem:=by simp
 obj:=fun i h st b hb=>by
  have e:b=it:=by simpa using hb
  subst e;exact⟨_,st.2,fun v z=>by cases z⟩
 keep:=fun i h h' st k=>⟨st.1,st.2.keep fun o e=>k it (by simp) o e⟩
 item:=by
  intro X hP hw hK hc i pins s σ H E I hf st hg;subst hP hw hK;obtain⟨hq,hi⟩:=hg;obtain⟨its,rv,p,hz⟩:=I.tuple hq;have hj:xs.length-1-i<xs.length:=by omega
  have hx:xs[xs.length-1-i]?=some xs[xs.length-1-i]:=zQ0 hj;obtain⟨u,hu,ru⟩:=rv.get hx;obtain⟨f0,f1,f2,f3,f4,f5⟩:=hf it (by simp);obtain⟨_,hit⟩:=st;have e1:((xs.length:Int)-1-(i:Int))=((xs.length-1-i:Nat):Int):=by omega
  rw[e1]at hit;have h63:=iK;refine nC hit p (x:=u) (by simpa using hu) (by omega) fun h' tk st' sb=>?_
  have I1:Inv X pins σ H { s with heap:=h',toks:=tk }:=I.turned (t':=tk) (fun b o hb e=>(sb.2 b hb).trans e) f0 f1 f3 f4 f5;have e2:((xs.length-1-i:Nat):Int)-1=(xs.length:Int)-1-((i+1:Nat):Int):=by omega
  rw[e2]at st';refine⟨u,rfl,sy (s:={ s with heap:=h',toks:=tk }) st' rfl rfl (by decide) ⟨xs[xs.length-1-i],H,I1,ru,⟨rfl,?_⟩,⟨by omega,st'⟩,fun b hb=>(hf b hb).1⟩⟩;rw[List.getElem?_reverse hi,hx]
 done:=by
  intro X hP hw hK hc i pins s σ H E I hf st hg;subst hP hw hK;have hg:xs.length<=i:=hg;obtain⟨f0,f1,f2,f3,f4,f5⟩:=hf it (by simp);obtain⟨hi,hit⟩:=st;have e1:(xs.length:Int)-1-(i:Int)=-1:=by omega
  rw[e1]at hit;exact oM (I.ok.hd hc) hit fun h' tk eb=>⟨rfl,I.turned (t':=tk) (fun b o hb e=>eb b o hb e) f0 f1 f3 f4 f5⟩
 self:=fun _ _ _ _ _ st h=>pA st.2 h
def Bv(K:W.Frag)(c:Bool)(a:Addr)(xs:List V):It:=if c=true then ItV K a xs else DO K a xs
section
variable {X:Cx} {tg:Expr}
def iRevB(K:W.Frag)(tl:TE):TI:=fun σ H R=>tl σ H fun x H1=>∃c a xs,x=.ref a/\SqB K c H1 a xs/\R (Bv K c a xs) H1
theorem vv {l:Expr} {tl:TE} {p pos:Pos} (hg:Gl X "reversed") (hm:X.mg "reversed"=none) (hl:PE X l tl) (hs:starEach [l] X.env=[(false,eval l X.env)]:=by rfl) :
 PI X tg (.Call (.Name "reversed" p) [l] [] pos) (iRevB X.K tl):=by
 intro pins s σ H R I h;refine wpAny_Call_Name_kw (gN I hg hm ox ?_);refine PyProof.Rows.callWith_type1 ?_ hs rfl;rw[hs];show wpAny _ _ (spliced ((false,eval l X.env)::backTo pos (starEach [] X.env))) _ _ s;refine Calls.spliced_cons (thn (hl pins s σ H _ I h) fun u s1 ⟨x,H1,I1,r1,c,a,xs,ex,hq,q⟩=>?_);subst ex;cases r1;refine Calls.spliced_nil ?_;cases c with
 | true=>
   have hq:SqL X.K H1 a xs:=hq;have q:R (ItV X.K a xs) H1:=q;obtain⟨its,rv,p,hz⟩:=I1.list hq;have hlen:=rv.length;refine call_reversed_list p.isList ?_;have hr:(s1.heap.push (revObj a ((its.toArray.size:Int)-1))).IsRevIter s1.heap.objs.size a ((xs.length:Int)-1-((0:Nat):Int)):=by
    have e:(xs.length:Int)-1-((0:Nat):Int)=(its.toArray.size:Int)-1:=by rw[zP0];omega
    rw[e];exact⟨_,zV0 _ rfl,rfl,rfl⟩
   refine wpAny_pyIter_revIter hr ?_;refine⟨s1.heap.objs.size,[s1.heap.objs.size],_,_,H1,rfl,I1.kept (t':=s1.toks) fun b o e=>zO0 _ e,vO a _ xs,⟨qB0 _,hr⟩,fun b hb=>?_,q⟩;have e:b=s1.heap.objs.size:=by simpa using hb
   subst e;exact I1.fpOk (zG0 _) (I1.hok.fresh (zG0 _))
 | false=>
   have hq:SqT X.K H1 a xs:=hq;have q:R (DO X.K a xs) H1:=q;obtain⟨its,rv,p,hz⟩:=I1.tuple hq;have hlen:=rv.length;refine kL p (by rw[zP0,←rv.length];exact hz) fun tk=>?_
   have hr:RevT (s1.heap.push { cls:=.type "reversed",data:=.fields #[.ref a,rawInt ((its.toArray.size:Int)-1)] }) s1.heap.objs.size a ((xs.length:Int)-1-((0:Nat):Int)):=by
    have e:(xs.length:Int)-1-((0:Nat):Int)=(its.toArray.size:Int)-1:=by rw[zP0];omega
    rw[e];exact zV0 _ rfl
   refine pA hr ?_;refine⟨s1.heap.objs.size,[s1.heap.objs.size],_,_,H1,rfl,I1.kept (t':=tk) fun b o e=>zO0 _ e,vP a _ xs,⟨qB0 _,hr⟩,fun b hb=>?_,q⟩;have e:b=s1.heap.objs.size:=by simpa using hb
   subst e;exact I1.fpOk (zG0 _) (I1.hok.fresh (zG0 _))
end
theorem sE{K:W.Frag}{c:Bool}{a:Addr}{xs:List V}{g:TG}{tb:TS}{D:Ends}{σ:St}{H:Hp}(Pv:Nat->St->Hp->Prop)(h0:Pv 0 σ H)(hl:∀i σ H,i<=xs.length->Pv i σ H->SqB K c H a xs)
 (hs:∀i x σ H,i<xs.length->xs.reverse[i]?=some x->Pv i σ H->g x σ H fun σ2 H2=>tb { D with nx:=Pv (i+1),ct:=Pv (i+1),bk:=D.nx } σ2 H2) (hd:∀ σ H,Pv xs.length σ H->D.nx σ H) :
 ∃ W:Nat->Nat->St->Hp->Prop,(∃m,W 0 m σ H)/\∀i m σ H,W i m σ H ->
  ((Bv K c a xs).stop i H/\D.nx σ H)∨((Bv K c a xs).go i H/\∃N:St->Hp->Prop,(∀ σ' H',N σ' H'->∃m',m'<m/\W (i+1) m' σ' H')/\∀x H',(Bv K c a xs).yld i H x H'->g x σ H' fun σ2 H2=>tb { D with nx:=N,ct:=N,bk:=D.nx } σ2 H2):=by
 cases c with
 | true=>exact zP Pv h0 hl hs hd
 | false=>
   refine⟨fun i m σ H=>m=xs.length-i/\i<=xs.length/\Pv i σ H,⟨xs.length,by simp,qB0 _,h0⟩,?_⟩;rintro i m σ H ⟨rfl,hi,p⟩;have q:=hl i σ H hi p
   by_cases hlt:i<xs.length
   . refine .inr ⟨⟨q,hlt⟩,Pv (i+1),fun σ' H' p'=>⟨xs.length-(i+1),by omega,rfl,hlt,p'⟩,fun x H' y=>?_⟩;obtain⟨e,ex⟩:=y;subst e;exact hs i x σ _ hlt ex p
   . have e:i=xs.length:=by omega
     subst e;exact .inl ⟨zG0 _,hd σ H p⟩
section
variable {X:Cx} {pos:Pos}
def gLst(K:W.Frag)(n:Nat)(t:TGs):TG:=fun v σ H Q=>∃a xs,v=.ref a/\SqL K H a xs/\xs.length=n/\t xs σ H Q
theorem CP{es:List Expr}{k:Nat}{t:TGs}{n:Nat}(hc:X.calm=true)(h:PGs X es t)
 (hn:(assignEach es X.env).length=n:=by rfl) (hst:(assignEach es X.env).findIdx? (·.1)=none:=by rfl):PG X (.Tuple es k pos) (gLst X.K n t):=by
 intro pins s σ H v u Q I r hw;obtain⟨a,xs,e1,hq,hl,hw⟩:=hw;subst e1;cases r;obtain⟨its,rv,ht,hz⟩:=I.list hq;rw[assign_Tuple];refine zA0 (wpAny_standAt ?_);unfold unpack;rw[show(assignEach es X.env).length=its.toArray.size by simp [hn,←hl,rv.length],hst];refine zA0 (wpAny_holding (W.kun_itemsOf (I.ok.hd hc) ht.isList fun h' hx=>?_));have I1:Inv X pins σ H { s with heap:=h' }:=I.kept (t':=s.toks) fun b o e=>hx b o (zS0 (zN0 e)) e
 exact h pins _ σ H xs _ Q I1 (by simpa using rv) hw
end
theorem qN:typeLookup (.type "zip") "keys"=pure none:=by rw[typeLookup_type,builtinLookup_eq_fast];kernel_rfl
theorem kR:typeLookup (.type "zip") "__getattr__"=pure none:=by rw[typeLookup_type,builtinLookup_eq_fast];kernel_rfl
theorem iL:entryFor table "zip.__getattribute__"=some Builtin.«object.__getattribute__»:=entryFor_alias (id':="object.__getattribute__") (by kernel_rfl) (by decide +kernel) (by decide +kernel) (by kernel_rfl)
theorem nJ (a:Addr) (fs:Array Value) (name:Str) (u:Tok) (hmiss:typeLookup (.type "zip") name=pure none) (hname:(["__module__","__name__","__qualname__","__doc__","__annotations__"]:List Str).contains name=false) (hsz:name.length+100<=sizeLine:=by size_fits) :
 Meets (Builtin.«object.__getattribute__» ⟨[.ref a,.str name u],[]⟩) (fun A R s=>s.heap.get? a=some { cls:=.type "zip",dict:=none,data:=.fields fs,slots:=#[] }/\raisesAttr (.ref a) name A R s):=
 Meets.of_wp fun prog w A R s hs=>by
  obtain⟨hp,g,d,tk,os⟩:=s;obtain⟨hx,hs⟩:=hs;have hT:(⟨hp,g,d,tk,os⟩:Shared).TypeIs (.ref a) "zip":=⟨_,hx,rfl⟩
  unfold Builtin.«object.__getattribute__»
  repeat (any_goals (first | assumption | wp_step))
  simp only[hname,Bool.false_eq_true,if_false]
  repeat (any_goals (first | assumption | wp_step))
  exact wpAny_raiseAttrError hs.1 hs.2 (attrMsg_fits (by decide +kernel) hsz)
section
variable {prog:Program} {w:World} {A:Around} {E:Value->Shared->Prop} {s:Shared}
theorem AZ {a:Addr} {fs:Array Value} {Q:Option Value->Shared->Prop} (hx:s.heap.get? a=some { cls:=.type "zip",dict:=none,data:=.fields fs,slots:=#[] }) (hA:A.handled=none)
 (h:∀h' tk,(∀b o,s.heap.get? b=some o->h'.get? b=some o)->Q none { s with heap:=h',toks:=tk }):wpAny (model prog w) A (getAttr? (.ref a) "keys") Q E s:=by
 obtain⟨hp,g,d,tk,os⟩:=s;have hT:∀tk',(⟨hp,g,d,tk',os⟩:Shared).TypeIs (.ref a) "zip":=fun _=>⟨_,hx,rfl⟩
 have f1:=sub_AttributeError;have f3:=F.slot_zip_getattribute.lookup;have f4:=F.slot_zip_getattribute.bind (.ref a);have f5:=kR;unfold getAttr? getAttrBy? getAttrBy
 repeat (any_goals (first | assumption | exact hT _ | ((with_reducible show wpAny _ _ (call (Value.builtin "zip.__getattribute__") _ _) _ _ _);refine call_meets F.slot_zip_getattribute (hT _) iL (F.args_zip_getattribute_2 _ _) (nJ a fs "keys" _ qN (by decide) (by decide)) ⟨hx,hA,fun h' tk' e hx'=>?_⟩) | wp_step))
 obtain⟨t',u',he⟩:=hx'.there;show wpAny _ _ (getattributeRaised _ _ _ _ _ _ _) _ _ _;unfold getattributeRaised
 repeat (any_goals (first | assumption | wp_step))
 exact h _ _ hx'.keeps
theorem iA:entryFor table "dict.update.loop"=some Builtin.«dict.update.loop»:=entryFor_of_tree (by kernel_rfl)
theorem dy:plainId "dict.update.loop"=true:=by decide +kernel
theorem tF{vs:List (Key×Value)}{k:Key}{v:Value}:(stored vs k v).length<=vs.length+1:=by
 unfold stored
 split
 . rw[zH0];exact qK0 _
 . rw[zL0,qQ0];exact zG0 _
def ZS(d z TI TO i1 i2:Addr)(i:Nat)(h:Heap):Prop:=((i=0/\IsZip h z TI TO .none)∨∃(t:Addr)(f:Bool)(ob:Obj),jt h z TI TO (rawInt t) f/\h.get? t=some ob/\t∉[d,z,TO,i1,i2])/\IsPair h TI (.ref i1) (.ref i2)/\∃p q,IsPair h TO p q
theorem Bm{d z TI TO i1 i2 l1 l2:Addr}{xs ys:Array Value}{rs:List (Key×Value)}{R:Result->Shared->Prop}(hh:A.handled=none)(D:ZipApart z TI TO i1 i2 l1 l2)(dn:d∉[z,TI,TO,i1,i2,l1,l2])(hl:xs.size=rs.length)
 (hk:∀(j:Nat)(kv:Key×Value),rs[j]?=some kv->∃ky,xs[j]?=some ky/\ys[j]?=some kv.2/\(bj prog w).is kv.1 ky=true) :
 ∀(k i:Nat)(s:Shared)(kvs:List (Key×Value)),rs.length-i=k->i<=rs.length->ZS d z TI TO i1 i2 i s.heap->SqIt s.heap i1 l1 i xs->SqIt s.heap i2 l2 i ys->s.heap.DictOf (bj prog w) d kvs->kvs.length+k<=sizeLine ->
  (∀h' tk,h'.DictOf (bj prog w) d (merged kvs (rs.drop i))->(∀b o,b∉[d,z,TO,i1,i2]->s.heap.get? b=some o->h'.get? b=some o)->R (.ok (.ret .none)) { s with heap:=h',toks:=tk }) ->
  codeAny (model prog w) A (.builtin "dict.update.loop" ⟨[.ref d,.ref z,.int i 0,.none],[]⟩) R s:=by
 have dz:d≠z:=fun e=>dn (by simp [e])
 have dTI:d≠TI:=fun e=>dn (by simp [e])
 have dTO:d≠TO:=fun e=>dn (by simp [e])
 have d1:d≠i1:=fun e=>dn (by simp [e])
 have d2:d≠i2:=fun e=>dn (by simp [e])
 have dl1:d≠l1:=fun e=>dn (by simp [e])
 have dl2:d≠l2:=fun e=>dn (by simp [e])
 intro k
 induction k with
 | zero=>
   intro i s kvs hk0 hi zs q1 q2 hd hz hR;have hin:i=rs.length:=by omega
   refine codeAny_builtin iA ?_;rw[Around.under_plainId dy _];show wpAny _ A.in1 (pyNext (.ref z) >>= _) _ _ s;have hx:xs[i]?=none:=Array.getElem?_eq_none (by omega);have fin:∀h',(∀c o,c≠z->c≠TO->c≠i1->c≠i2->s.heap.get? c=some o->h'.get? c=some o)->R (.ok (.ret .none)) { s with heap:=h' }:=fun h' kp=>by
    refine hR h' s.toks ?_ fun b o nb e=>kp b o (fun y=>nb (by simp [y])) (fun y=>nb (by simp [y])) (fun y=>nb (by simp [y])) (fun y=>nb (by simp [y])) e
    rw[hin,List.drop_length];obtain⟨o,es,ep,e,r⟩:=hd;exact⟨o,es,ep,kp _ _ dz dTO d1 d2 e,r⟩
   obtain⟨hz',hTI,⟨p,q,hTO⟩⟩:=zs;rcases hz' with⟨_,hz'⟩ | ⟨t,f,ob,hz',ht,_⟩
   . refine zA0 (Cf (A:=A.in1) hh D hz' hTI hTO q1 q2 (.inl hx) fun h' kp=>?_);show wpAny _ A.in1 (Builtin.Dict.addKeywords d [] >>= _) _ _ _;exact zA0 (zI0 (zI0 (fin h' kp)))
   . refine zA0 (Cg (A:=A.in1) hh D hz' ht hTI q1 hx fun h' kp=>?_);show wpAny _ A.in1 (Builtin.Dict.addKeywords d [] >>= _) _ _ _;exact zA0 (zI0 (zI0 (fin h' fun c o n1 n2 n3 n4 e=>kp c o n1 n3 n4 e)))
 | succ k ih=>
   intro i s kvs hk0 hi zs q1 q2 hd hz hR;have hlt:i<rs.length:=by omega
   obtain ⟨ky,hx,hy,hkey⟩:=hk i rs[i] (zQ0 hlt);refine codeAny_builtin iA ?_;rw[Around.under_plainId dy _];show wpAny _ A.in1 (pyNext (.ref z) >>= _) _ _ s;have dlt:d<s.heap.objs.size:=by
    obtain⟨_,_,_,e,_⟩:=hd;exact zN0 e
   have sfr:s.heap.get? s.heap.objs.size=none:=by
    cases e:s.heap.get? s.heap.objs.size with
    | none=>rfl
    | some o=>exact absurd (zN0 e) (qV0 _)
   have step:∀ha,(∃(t:Addr)(f:Bool)(ob:Obj),jt ha z TI TO (rawInt t) f/\ha.get? t=some ob/\t∉[d,z,TO,i1,i2])->IsPair ha TI (.ref i1) (.ref i2)->(∃p q,IsPair ha TO p q)->SqIt ha i1 l1 (i+1) xs->SqIt ha i2 l2 (i+1) ys->IsPair ha s.heap.objs.size ky rs[i].2 ->
    (∀c o,c≠z->c≠TO->c≠i1->c≠i2->s.heap.get? c=some o->ha.get? c=some o) ->
    wpAny (model prog w) A.in1 (holding [Value.ref s.heap.objs.size] (do
     let pair ←(Builtin.Dict.pairItems (.ref s.heap.objs.size)).tryCatch fun e=>do
      if !(←isInstance e (.type "TypeError"))then throw e
      rule "dict.update.element-no-sequence"
      raiseError "TypeError" s!"cannot convert dictionary update sequence element #{(i : Int)} to a sequence"
     match pair with
     | [k,v]=>holding [k,v] (dictSet d k v)
     | l=>
       rule "dict.update.element-length"
       raiseError "ValueError" s!"dictionary update sequence element #{(i : Int)} has length {l.length}; 2 is required") >>= fun _=>again (.builtin "dict.update.loop" ⟨[.ref d,.ref z,rawInt ((i:Int)+1),.none],[]⟩))
     (fun fin s'=>match fin with | .done f=>R (.ok f) s' | .again c'=>c'.quiet=true/\codeAny (model prog w) A c' R s') (fun e s'=>R (.error e) s') { s with heap:=ha }:=fun ha za hTIa hTOa g1 g2 pr kp=>by
    refine zA0 (wpAny_holding ?_);refine zA0 ?_;have hT:Shared.TypeIs { s with heap:=ha } (.ref s.heap.objs.size) "tuple":=⟨_,pr,rfl⟩
    refine wpAny_tryCatch ?_;unfold Builtin.Dict.pairItems;refine zA0 (wpAny_typeOf hT ?_);rw[zF0 (by decide)];refine zA0 (wpAny_seqItems pr rfl (zI0 ?_));show wpAny _ A.in1 (holding [ky,rs[i].2] (dictSet d ky rs[i].2)) _ _ _;have hda:ha.DictOf (bj prog w) d kvs:=by
     obtain⟨o,es,ep,e,r⟩:=hd;exact⟨o,es,ep,kp _ _ dz dTO d1 d2 e,r⟩
    refine wpAny_holding (wpAny_dictSet_pairs (knd:=bj prog w) (hsz:=by omega) hkey hda fun hb hdb sb=>?_);refine zI0 ⟨plainId_quiet dy _,?_⟩;have ii:((i:Int)+1)=((i+1:Nat):Int):=by omega
    show codeAny _ A (.builtin "dict.update.loop" ⟨[.ref d,.ref z,.int ((i:Int)+1) 0,.none],[]⟩) R _;rw[ii];obtain⟨t,f,ob,hzt,ht,tn⟩:=za;obtain⟨p,q,hTO⟩:=hTOa;refine ih (i+1) _ (stored kvs rs[i].1 rs[i].2) (by omega) (by omega) ⟨.inr ⟨t,f,ob,sb.extBut _ _ (Ne.symm dz) hzt,sb.extBut _ _ (fun y=>tn (by simp [y])) ht,tn⟩,sb.extBut _ _ (Ne.symm dTI) hTIa,p,q,sb.extBut _ _ (Ne.symm dTO) hTO⟩ (g1.ext sb.extBut (Ne.symm d1) (Ne.symm dl1)) (g2.ext sb.extBut (Ne.symm d2) (Ne.symm dl2)) hdb (by have:=tF (vs:=kvs) (k:=rs[i].1) (v:=rs[i].2);omega) fun h' tk hd' kp'=>?_
    refine hR h' tk ?_ fun b o nb e=>kp' b o nb (sb.extBut _ _ (fun y=>nb (by simp [y])) (kp b o (fun y=>nb (by simp [y])) (fun y=>nb (by simp [y])) (fun y=>nb (by simp [y])) (fun y=>nb (by simp [y])) e))
    rw[List.drop_eq_getElem_cons hlt];exact hd'
   have lts:∀{c:Addr}{o:Obj},s.heap.get? c=some o->s.heap.objs.size≠c:=fun{c o} e y=>by rw[←y,sfr]at e;cases e
   obtain ⟨hz',hTI,⟨p,q,hTO⟩⟩:=zs;have ns:∀{zo:Obj},s.heap.get? z=some zo->s.heap.objs.size∉[d,z,TO,i1,i2]:=fun{zo} ez hm=>by
    simp only[List.mem_cons,List.not_mem_nil,or_false]at hm;obtain⟨o1,e1,_⟩:=q1.obj;obtain⟨o2,e2,_⟩:=q2.obj;rcases hm with h | h | h | h | h
    . exact absurd h (qP0 dlt)
    . exact lts ez h
    . exact lts hTO h
    . exact lts e1 h
    . exact lts e2 h
   rcases hz' with⟨_,hz'⟩ | ⟨t,f,ob,hz',ht,tn⟩
   . refine zA0 (Af D hz' hTI hTO q1 q2 hx hy fun h' z1 TO1 g1 g2 T1 k1=>?_);exact step h' ⟨_,_,_,z1,T1,ns hz'⟩ (k1 _ _ D.TIz D.TITO D.TIi1 D.TIi2 hTI) ⟨_,_,TO1⟩ g1 g2 T1 k1
   . refine zA0 (Ag D hz' ht hTI q1 q2 hx hy fun h' z1 g1 g2 T1 k1=>?_);exact step h' ⟨t,_,ob,z1,k1 _ _ (fun y=>tn (by simp [y])) (fun y=>tn (by simp [y])) (fun y=>tn (by simp [y])) ht,tn⟩ (k1 _ _ D.TIz D.TIi1 D.TIi2 hTI) ⟨p,q,k1 _ _ D.TOz D.TOi1 D.TOi2 hTO⟩ g1 g2 T1 fun c o n1 n2 n3 n4 e=>k1 c o n1 n3 n4 e
theorem oN{z TI TO i1 i2 l1 l2:Addr}{xs ys:Array Value}{rs:List (Key×Value)}{p q:Value}{Q:Value->Shared->Prop}(hh:A.handled=none)(D:ZipApart z TI TO i1 i2 l1 l2)(hz:IsZip s.heap z TI TO .none)(hTI:IsPair s.heap TI (.ref i1) (.ref i2))(hTO:IsPair s.heap TO p q)
 (q1:SqIt s.heap i1 l1 0 xs) (q2:SqIt s.heap i2 l2 0 ys) (ll1:l1<s.heap.objs.size) (ll2:l2<s.heap.objs.size) (hl:xs.size=rs.length) (hk:∀(j:Nat)(kv:Key×Value),rs[j]?=some kv->∃ky,xs[j]?=some ky/\ys[j]?=some kv.2/\(bj prog w).is kv.1 ky=true) (hn:rs.length<=sizeLine)
 (h:∀h' tk,h'.DictOf (bj prog w) s.heap.objs.size (merged [] rs)->(∀b o,b∉[z,TO,i1,i2]->s.heap.get? b=some o->h'.get? b=some o)->Q (.ref s.heap.objs.size) { s with heap:=h',toks:=tk }) :
 wpAny (model prog w) A (call (.type "dict") [.ref z]) Q E s:=by
 refine callType_codes (Q₁:=fun obj s₁=>obj=.ref s.heap.objs.size/\s₁={ s with heap:=s.heap.push { cls:=.type "dict",data:=.dict #[] } }) F.kt_called_dict (F.kt_typeCall_dict_1 _) F.entry_dict_init (kt_code_dict_new _ ⟨rfl,rfl⟩) ?_;rintro obj s₁ ⟨rfl,rfl⟩;have hnew:(s.heap.push { cls:=.type "dict",data:=.dict #[] }).DictOf (bj prog w) s.heap.objs.size []:=Heap.DictOf.new s.heap;have up:∀b o,s.heap.get? b=some o->(s.heap.push { cls:=.type "dict",data:=.dict #[] }).get? b=some o:=fun b o e=>zO0 _ e
 have lt:∀{b o},s.heap.get? b=some o->b<s.heap.objs.size:=fun e=>zN0 e
 refine ⟨hnew.typeIs,F.args_dict_init_2 _ _,?_⟩;unfold Builtin.«dict.__init__»;refine zA0 ?_;unfold Builtin.Dict.selfAndRest;refine zA0 (wpAny_notOrdered_dict hnew.typeIs ?_);show wpAny _ _ (pure (s.heap.objs.size,[Value.ref z])) _ _ _;refine zI0 ?_;show wpAny _ _ (Builtin.Dict.updateFrom "dict.__init__" s.heap.objs.size (.ref z) [] .none) _ _ _;unfold Builtin.Dict.updateFrom;have hz1:=up _ _ hz;refine zA0 (wpAny_typeOf (T:="zip") ⟨_,hz1,rfl⟩ ?_);rw[zF0 (by decide)];refine zA0 (AZ hz1 hh fun h2 tk kp=>?_);simp only[Option.isNone_none,if_true];have hd2:h2.DictOf (bj prog w) s.heap.objs.size []:=by
  obtain⟨o,es,ep,e,r⟩:=hnew;exact⟨o,es,ep,kp _ _ e,r⟩
 have k2:∀b o,s.heap.get? b=some o->h2.get? b=some o:=fun b o e=>kp _ _ (up _ _ e)
 refine zA0 (wpAny_rule ?_);refine zA0 (wpAny_pyIter_zip (k2 _ _ hz) (zI0 ?_));refine⟨plainId_quiet dy _,?_⟩;show codeAny _ A.in1 (.builtin "dict.update.loop" ⟨[.ref s.heap.objs.size,.ref z,.int ((0:Nat):Int) 0,.none],[]⟩) _ _;obtain⟨o1,e1,_⟩:=q1.obj;obtain⟨o2,e2,_⟩:=q2.obj;refine Bm (A:=A.in1) (xs:=xs) (ys:=ys) (rs:=rs) hh D (fun hm=>?_) hl hk (rs.length-0) 0 _ [] rfl (qB0 _) ⟨.inl ⟨rfl,k2 _ _ hz⟩,k2 _ _ hTI,_,_,k2 _ _ hTO⟩ (q1.at (fun o e=>k2 _ _ e) (fun o e=>k2 _ _ e)) (q2.at (fun o e=>k2 _ _ e) (fun o e=>k2 _ _ e)) hd2 (by rw[List.length_nil];omega) fun h' tk' hd' kp'=>?_
 . simp only [List.mem_cons,List.not_mem_nil,or_false]at hm;rcases hm with y | y | y | y | y | y | y
   . exact qP0 (lt hz) y
   . exact qP0 (lt hTI) y
   . exact qP0 (lt hTO) y
   . exact qP0 (lt e1) y
   . exact qP0 (lt e2) y
   . exact qP0 ll1 y
   . exact qP0 ll2 y
 . refine ⟨rfl,h h' tk' hd' fun b o nb e=>kp' b o (fun hm=>?_) (k2 _ _ e)⟩;rcases qC0 hm with y | y
   . exact zS0 (lt e) y
   . exact nb y
end
section
variable {X:Cx}
theorem zI{P:Program}{w:World}{xs ys:List V}{its1 its2:List Value}(rv1:Vals xs its1)(rv2:Vals ys its2):∀(kvs:List (Key×V))(n:Nat),(∀(j:Nat)(kv:Key×V),kvs[j]?=some kv->xs[n+j]?=some (kV kv.1)/\ys[n+j]?=some kv.2) ->
 ∃rs:List (Key×Value),KV kvs rs/\∀(j:Nat)(kv:Key×Value),rs[j]?=some kv->∃ky,its1[n+j]?=some ky/\its2[n+j]?=some kv.2/\(bj P w).is kv.1 ky=true
 | [],_,_=>⟨[],.nil,fun j kv hj=>by simp at hj⟩
 | kv::kvs,n,h=>by
   obtain ⟨e1,e2⟩:=h 0 kv rfl;obtain⟨ky,hky,rk⟩:=rv1.get e1;obtain⟨u,hu,ru⟩:=rv2.get e2;obtain⟨rs,h1,h2⟩:=zI rv1 rv2 kvs (n+1) (fun j kv' hj=>by
    have:=h (j+1) kv' hj
    rwa [show n+(j+1)=n+1+j by omega]at this)
   refine⟨(kv.1,u)::rs,.cons ⟨rfl,ru⟩ h1,fun j kv' hj=>?_⟩;cases j with
   | zero=>
     have e:(kv.1,u)=kv':=zR0 hj;subst e;exact⟨ky,hky,hu,nO rk⟩
   | succ j=>
     have:=h2 j kv' hj
     rwa [show n+1+j=n+(j+1) by omega]at this
def xO(K:W.Frag)(t:TA):TE:=fun σ H Q=>t σ H fun vs H1=>∃(a b:Addr)(c d:Bool)(xs ys:List V)(kvs:List (Key×V)),vs=[.ref a,.ref b]/\SqB K c H1 a xs/\SqB K d H1 b ys/\xs.length=kvs.length/\kvs.length<=sizeLine/\(∀(j:Nat)(kv:Key×V),kvs[j]?=some kv->xs[j]?=some (kV kv.1)/\ys[j]?=some kv.2)/\
 ∀p,H1 p=none->Q (.ref p) (upd H1 p (.dK (eD [] kvs)))
theorem uN:bootBuiltins ("dict":Str)=some (.type "dict"):=by decide +kernel
theorem tX {e1 e2:Expr} {t:TA} {p1 p2 pos1 pos2:Pos} (hc:X.calm=true) (hg1:Gl X "dict") (hm1:X.mg "dict"=none) (hg2:Gl X "zip") (hm2:X.mg "zip"=none) (ha:PA X [e1,e2] t)
 (hs1:starEach [(.Call (.Name "zip" p2) [e1,e2] [] pos2:Expr)] X.env=[(false,eval (.Call (.Name "zip" p2) [e1,e2] [] pos2) X.env)]:=by rfl) (hs:starEach [e1,e2] X.env=[(false,eval e1 X.env),(false,eval e2 X.env)]:=by rfl) (hs2:starEach [e2] X.env=[(false,eval e2 X.env)]:=by rfl) :
 PE X (.Call (.Name "dict" p1) [.Call (.Name "zip" p2) [e1,e2] [] pos2] [] pos1) (xO X.K t):=by
 intro pins s σ H Q I h;refine wpAny_Call_Name_kw (gN I hg1 hm1 uN ?_);refine PyProof.Rows.callWith_type1 ?_ hs1 rfl;rw[hs1];show wpAny _ _ (spliced ((false,eval (.Call (.Name "zip" p2) [e1,e2] [] pos2) X.env)::backTo pos1 (starEach [] X.env))) _ _ s;have step:wpAny (model X.prog X.w) X.A (eval (.Call (.Name "zip" p2) [e1,e2] [] pos2) X.env) (fun v s2=>∃(a b:Addr) (c d:Bool) (xs ys:List V) (kvs:List (Key×V)) (H1:Hp) (s1:Shared) (h':Heap) (its1 its2:List Value),s2={ s1 with heap:=h' }/\v=.ref (s1.heap.objs.size+4)/\Inv X pins σ H1 s1/\Vals xs its1/\Vals ys its2/\a<s1.heap.objs.size/\b<s1.heap.objs.size/\
  IsZip h' (s1.heap.objs.size+4) (s1.heap.objs.size+2) (s1.heap.objs.size+3) .none/\IsPair h' (s1.heap.objs.size+2) (.ref s1.heap.objs.size) (.ref (s1.heap.objs.size+1))/\IsPair h' (s1.heap.objs.size+3) .none .none/\SqIt h' s1.heap.objs.size a 0 its1.toArray/\SqIt h' (s1.heap.objs.size+1) b 0 its2.toArray/\(∀c o,s1.heap.get? c=some o->h'.get? c=some o)/\
  xs.length=kvs.length/\kvs.length<=sizeLine/\(∀(j:Nat)(kv:Key×V),kvs[j]?=some kv->xs[j]?=some (kV kv.1)/\ys[j]?=some kv.2)/\∀p,H1 p=none->Q (.ref p) (upd H1 p (.dK (eD [] kvs)))) X.xe s:=by
  refine Call_ (gN I hg2 hm2 xy (PyProof.Rows.callWith_type1 (thn (ha pos2 pins s σ H _ I h) fun us s1 ⟨vs,H1,I1,r1,q1⟩=>?_) (by rw[hs,hs2]) (by rw[hs2];rfl)));obtain⟨a,b,c,d,xs,ys,kvs,ev,hq1,hq2,hxl,hn,hkv,q⟩:=q1;subst ev;cases r1 with
  | cons r rr=>
    cases rr with
    | cons r' rr=>
      cases rr;cases r;cases r';obtain⟨its1,rv1,o1,l1⟩:=SqB.at I1 hq1;obtain⟨its2,rv2,o2,l2⟩:=SqB.at I1 hq2;exact Bq o1 o2 fun h' z1 p1 p2 k1 k2 keep=>⟨a,b,c,d,xs,ys,kvs,H1,s1,h',its1,its2,rfl,rfl,I1,rv1,rv2,l1,l2,z1,p1,p2,k1,k2,keep,hxl,hn,hkv,q⟩
 refine Calls.spliced_cons (thn step fun v s2 hv=>?_);obtain⟨a,b,c,d,xs,ys,kvs,H1,s1,h',its1,its2,rfl,rfl,I1,rv1,rv2,l1,l2,z1,p1,p2,k1,k2,keep,hxl,hn,hkv,q⟩:=hv;refine Calls.spliced_nil ?_;obtain⟨rs,hrs,hk⟩:=zI (P:=X.prog) (w:=X.w) rv1 rv2 kvs 0 (fun j kv hj=>by rw[Nat.zero_add];exact hkv j kv hj);have rl:kvs.length=rs.length:=hrs.length;have il:=rv1.length;have sz:s1.heap.objs.size+4<h'.objs.size:=zN0 z1;refine oN (rs:=rs) (I1.ok.hd hc) (zipAp l1 l2) z1 p1 p2 k1 k2 (Nat.lt_trans l1 (by show s1.heap.objs.size<h'.objs.size;omega)) (Nat.lt_trans l2 (by show s1.heap.objs.size<h'.objs.size;omega)) (by simp;omega) (fun j kv hj=>?_) (by omega) fun h2 tk dd kp=>?_
 . obtain⟨ky,e1,e2,e3⟩:=hk j kv hj;rw[Nat.zero_add]at e1 e2;exact⟨ky,by simpa using e1,by simpa using e2,e3⟩
 . have m:=KV.merge (kvs:=[]) (vs:=[]) hrs .nil;have ml:=hV kvs [];have kp2:∀b o,s1.heap.get? b=some o->h2.get? b=some o:=fun b o e=>kp b o (fun hm=>by
    have lb:=zN0 e;simp only[List.mem_cons,List.not_mem_nil,or_false]at hm;rcases hm with y | y | y | y
    . exact zS0 (qF0 lb (Nat.le_add_right _ 4)) y
    . exact zS0 (qF0 lb (Nat.le_add_right _ 3)) y
    . exact zS0 lb y
    . exact zS0 (qF0 lb (Nat.le_add_right _ 1)) y) (keep _ _ e)
   exact⟨.ref h'.objs.size,_,I1.laid (a:=h'.objs.size) (o:=.dK (eD [] kvs)) (t':=tk) kp2 (by omega) (uK (by rw[List.length_nil]at ml;omega) (beq_eq_false_iff_ne.mpr (Ne.symm (zS0 (qF0 I1.big (by omega))))) m dd),rfl,q _ (I1.hok.fresh (by omega))⟩
end
end L2
namespace Mine
def Pr(n:Int):Prop:=2<=n/\∀k:Int,2<=k->k<=1000->k*k<=n->n % k≠0
def lD(n:Int)(j:Int):Prop:=∀k:Int,2<=k->k<j->k*k<=n/\n % k≠0
theorem oT{a b:Int}(h0:0<=a)(h:a<=b):a*a<=b*b:=Int.mul_le_mul h h h0 (Int.le_trans h0 h)
theorem CL{n k:Int}(h2:2<=n)(h0:2<=k)(u:lD n k)(h:n<k*k):Pr n:=by
 refine⟨h2,fun j j2 _ js=>?_⟩
 by_cases c:j<k
 . exact(u j j2 c).2
 . have:=oT (a:=k) (b:=j) (by omega) (by omega)
   omega
theorem CN{n:Int}(h2:2<=n)(u:lD n 1001):Pr n:=⟨h2,fun j j2 j3 _=>(u j j2 (by omega)).2⟩
theorem CJ{n k:Int}(h0:2<=k)(h1:k<=1000)(hs:k*k<=n)(h:n % k=0):¬ Pr n:=fun p=>p.2 k h0 h1 hs h
theorem sY(n:Int):lD n 2:=fun k a b=>by omega
theorem vN{n k:Int}(u:lD n k)(hs:k*k<=n)(h:n % k≠0):lD n (k+1):=fun j a b=>by
 by_cases c:j<k
 . exact u j a c
 . have e:j=k:=by omega
   subst e;exact⟨hs,h⟩
def prB(n:Int):Bool:=decide (2<=n)&&(List.range 999).all fun i=>decide (n<((i:Int)+2)*((i:Int)+2))||decide (n % ((i:Int)+2)≠0)
theorem AL{n:Int}(h:prB n=true):Pr n:=by
 unfold prB at h;rw[Bool.and_eq_true]at h;refine⟨of_decide_eq_true h.1,fun k k2 k3 ks=>?_⟩;have q:=List.all_eq_true.mp h.2 (k.toNat-2) (List.mem_range.mpr (by omega));have e:(((k.toNat-2:Nat):Int)+2)=k:=by omega
 rw[e,Bool.or_eq_true]at q;rcases q with q | q
 . have:=of_decide_eq_true q;omega
 . exact of_decide_eq_true q
theorem wv:Pr 999983:=AL (by decide +kernel)
theorem CK{p d:Int}(h:Pr p)(hp:p<1002001)(d0:1<d)(d1:d<p)(hd:d ∣ p):False:=by
 obtain ⟨e,he⟩:=hd;have e0:1<e:=by
  by_cases c:e<=1
  . have:d*e<=d*1:=qX0 c (by omega)
    omega
  . omega
 by_cases c:d<=e
 . have s:d*d<=p:=by
    have:=qX0 c (show(0:Int)<=d by omega)
    omega
   have t:d<=1000:=by
    by_cases c2:1001<=d
    . have:=oT (a:=1001) (b:=d) (by omega) c2
      omega
    . omega
   refine h.2 d (by omega) t s ?_;rw[he];exact Int.mul_emod_right d e
 . have c':e<=d:=by omega
   have s:e*e<=p:=by
    have:=Int.mul_le_mul_of_nonneg_right c' (show(0:Int)<=e by omega)
    omega
   have t:e<=1000:=by
    by_cases c2:1001<=e
    . have:=oT (a:=1001) (b:=e) (by omega) c2
      omega
    . omega
   refine h.2 e (by omega) t s ?_;rw[he,Int.mul_comm];exact Int.mul_emod_right e d
def Cop(x y:Int):Prop:=∀d:Int,0<d->d ∣ x->d ∣ y->d=1
theorem DG{p a:Int}(h:Pr p)(hp:p<1002001)(a0:0<a)(a1:a<p):Cop p a:=fun d d0 h1 h2=>by
 have:=Int.le_of_dvd a0 h2
 by_cases c:1<d
 . exact(CK h hp c (by omega) h1).elim
 . omega
structure Eu(a p former ff rest f:Int):Prop where
 r0:0<rest
 rp:rest<p
 fr:rest<former
 f0:0<=f
 f1:f<p
 g0:0<=ff
 g1:ff<p
 cop:Cop former rest
 d1:p ∣ former-a*ff
 d2:p ∣ rest-a*f
theorem sH{a p:Int}(h:Pr p)(hp:p<1002001)(a0:0<a)(a1:a<p):Eu a p p 0 (a % p) 1:=by
 have e:a % p=a:=qN0 (by omega) a1;rw[e];exact⟨a0,a1,a1,by omega,by omega,by omega,by omega,DG h hp a0 a1,by rw[Int.mul_zero,Int.sub_zero];exact Int.dvd_refl p,by rw[Int.mul_one,Int.sub_self];exact Int.dvd_zero p⟩
theorem vF{a p former ff rest f:Int}(E:Eu a p former ff rest f)(h1:rest≠1):Eu a p rest f (former-former / rest*rest) ((ff-former / rest*f) % p)/\(former-former / rest*rest).toNat<rest.toNat:=by
 have r0:=E.r0;have rp:=E.rp;have em:former-former / rest*rest=former % rest:=by
  have:=Int.emod_add_mul_ediv former rest
  rw[Int.mul_comm]at this;omega
 have l0:0<=former % rest:=zU0 _ (by omega);have l1:former % rest<rest:=zX0 _ r0;have cop':Cop rest (former % rest):=fun d d0 x y=>by
  refine E.cop d d0 ?_ x
  have:=Int.emod_add_mul_ediv former rest
  rw[←this];exact Int.dvd_add y (Int.dvd_trans x (Int.dvd_mul_right _ _))
 have lz:former % rest≠0:=fun z=>by
  have:=cop' rest r0 (Int.dvd_refl _) (by rw[z];exact Int.dvd_zero _)
  exact h1 this
 rw [em];refine⟨⟨by omega,by omega,l1,zU0 _ (by omega),zX0 _ (by omega),E.f0,E.f1,cop',E.d2,?_⟩,by omega⟩;have q:p ∣ (former-a*ff)-former / rest*(rest-a*f):=Int.dvd_sub E.d1 (Int.dvd_trans E.d2 (Int.dvd_mul_left _ _));have q2:p ∣ (ff-former / rest*f)-(ff-former / rest*f) % p:=Int.dvd_self_sub_emod;have q3:p ∣ a*((ff-former / rest*f)-(ff-former / rest*f) % p):=Int.dvd_trans q2 (Int.dvd_mul_left _ _);have q4:=Int.dvd_add q q3;have e2:former-a*ff-former / rest*(rest-a*f)+a*(ff-former / rest*f-(ff-former / rest*f) % p)=former % rest-a*((ff-former / rest*f) % p):=by
  rw[←em];generalize former / rest=t;generalize (ff-t*f) % p=u;rw[Int.mul_sub,Int.mul_sub,Int.mul_sub,Int.mul_left_comm t a f];omega
 rw[e2]at q4;exact q4
theorem zS{a p former ff rest f:Int}(E:Eu a p former ff rest f)(h1:rest=1)(hp:1<p):0<f/\f<p/\f*a % p=1:=by
 subst h1;have d2:=E.d2;have f0:=E.f0;have hm:f*a % p=1:=by
  obtain ⟨c,hc⟩:=d2;have e:f*a=1+p*(-c):=by
   rw[Int.mul_comm f a,Int.mul_neg];omega
  rw[e,Int.add_mul_emod_self_left];exact qN0 (by omega) hp
 refine⟨?_,E.f1,hm⟩
 by_cases c:f=0
 . subst c;simp at hm
 . omega
end Mine
namespace Mine
def sT(n d:Int):Prop:=∀k:Int,3<=k->k % 2=1->k<d->n % k≠0
theorem wJ(n:Int):sT n 3:=fun k a _ c=>by omega
theorem zn{n d:Int}(u:sT n d)(hd:d % 2=1)(h:n % d≠0):sT n (d+2):=fun k a b c=>by
 by_cases e:k<d
 . exact u k a b e
 . have:k=d:=by omega
   subst this;exact h
theorem xg{n d:Int}(h3:3<=n)(h2:n % 2≠0)(h0:3<=d)(u:sT n d)(hd:n<d*d):Pr n:=by
 refine⟨by omega,fun k k2 k3 ks z=>?_⟩;obtain⟨q,hq⟩:=Int.dvd_of_emod_eq_zero z
 by_cases e:k % 2=1
 . by_cases c:k<d
   . exact u k (by omega) e c z
   . have:=oT (a:=d) (b:=k) (by omega) (by omega)
     omega
 . obtain ⟨j,hj⟩:∃j,k=2*j:=⟨k / 2,by omega⟩
   rw[hj,Int.mul_assoc]at hq;omega
theorem xj{n:Int}(h2:n % 2=0)(h3:2<n):¬ Pr n:=fun p=>p.2 2 (by omega) (by omega) (by omega) h2
theorem xh{n d:Int}(h9:n<=999999)(h0:3<=d)(hs:d*d<=n)(h:n % d=0):¬ Pr n:=fun p=>by
 have t:d<=1000:=by
  by_cases c2:1001<=d
  . have:=oT (a:=1001) (b:=d) (by omega) c2
    omega
  . omega
 exact p.2 d (by omega) t hs h
theorem tJ{n d:Int}(h9:n<=999999)(h0:3<=d)(hs:d*d<=n):d<=999:=by
 by_cases c2:1000<=d
 . have:=oT (a:=1000) (b:=d) (by omega) c2
   omega
 . omega
theorem AB{n d:Int}(h0:3<=d)(hs:d*d<=n):d<=n:=by
 have:=qX0 (show(1:Int)<=d by omega) (show(0:Int)<=d by omega)
 omega
end Mine
namespace Mine
def bJ:Nat->List (List Int)
 | 0=>[[]]
 | n+1=>(bJ n).flatMap fun s=>[s++[0],s++[1]]
theorem lx{α β:Type}(f g:α->β):∀l:List α,(l.flatMap fun s=>[f s,g s]).length=2*l.length
 | []=>rfl
 | x::r=>by
   have ih:=lx f g r;simp only[List.flatMap_cons,zL0,qH0,List.length_nil];omega
theorem jv:∀n:Nat,(bJ n).length=2 ^ n
 | 0=>rfl
 | n+1=>by rw[bJ,lx,jv n,Nat.pow_succ];omega
theorem dF:∀(n:Nat)(s:List Int),s∈bJ n->s.length=n
 | 0,s,h=>by
   have:s=[]:=by simpa [bJ]using h
   subst this;rfl
 | n+1,s,h=>by
   rw[bJ,List.mem_flatMap]at h;obtain⟨t,ht,hs⟩:=h
   have:=dF n t ht
   simp at hs
   rcases hs with rfl | rfl <;> simp [this]
theorem lm{n:Nat}(h:n<=6):2 ^ n<=64:=Nat.pow_le_pow_right (by decide) h
end Mine
namespace Mine
def Pm(p:Int):Prop:=1<p/\∀a:Int,¬ p ∣ a->∃f:Int,p ∣ f*a-1
theorem zR{a p:Int}(hp:1<p):∀(n:Nat){former ff rest f:Int},rest.toNat<=n->Eu a p former ff rest f->∃g:Int,g*a % p=1
 | 0,former,ff,rest,f,hn,E=>by
   have:=E.r0
   omega
 | n+1,former,ff,rest,f,hn,E=>by
   by_cases c:rest=1
   . exact⟨f,(zS E c hp).2.2⟩
   . obtain⟨E2,lt⟩:=vF E c;exact zR hp n (by omega) E2
theorem rH{p:Int}(h:Pr p)(hp:p<1002001):Pm p:=by
 have p1:1<p:=by have:=h.1;omega
 refine ⟨p1,fun a ha=>?_⟩;have a0:0<a % p:=by
  have:=zU0 a (show p≠0 by omega)
  by_cases c:a % p=0
  . exact absurd (Int.dvd_of_emod_eq_zero c) ha
  . omega
 have a1:a % p<p:=zX0 _ (by omega);obtain⟨g,hg⟩:=zR p1 _ (zG0 _) (sH h hp a0 a1);refine⟨g,?_⟩;have e1:g*a % p=1:=by rw[←hg,Int.mul_emod g (a % p),Int.emod_emod,←Int.mul_emod]
 have:=Int.emod_add_mul_ediv (g*a) p
 exact⟨g*a / p,by omega⟩
theorem Pm.mul{p a b:Int}(h:Pm p)(hd:p ∣ a*b)(ha:¬ p ∣ a):p ∣ b:=by
 obtain⟨f,k,hk⟩:=h.2 a ha;obtain⟨m,hm⟩:=hd;exact⟨f*m-k*b,by grind⟩
theorem Pm.not_mul{p a b:Int}(h:Pm p)(ha:¬ p ∣ a)(hb:¬ p ∣ b):¬ p ∣ a*b:=fun z=>hb (h.mul z ha)
def ch:Nat->Nat->Nat
 | _,0=>1
 | 0,_+1=>0
 | n+1,k+1=>ch n k+ch n (k+1)
theorem kJ(n:Nat):ch n 0=1:=by cases n <;> rfl
theorem ly:∀(n k:Nat),n<k->ch n k=0
 | 0,k+1,_=>rfl
 | n+1,k+1,h=>by
   show ch n k+ch n (k+1)=0;rw[ly n k (by omega),ly n (k+1) (by omega)]
theorem Bo(n:Nat):ch n n=1:=by
 induction n with
 | zero=>rfl
 | succ n ih=>
   show ch n n+ch n (n+1)=1;rw[ih,ly n (n+1) (by omega)]
theorem qH:∀(n k:Nat),(k+1)*ch (n+1) (k+1)=(n+1)*ch n k
 | 0,0=>rfl
 | 0,k+1=>by
   show(k+2)*(ch 0 (k+1)+ch 0 (k+2))=1*ch 0 (k+1);rw[ly 0 (k+1) (by omega),ly 0 (k+2) (by omega)]
   simp
 | n+1,0=>by
   have h:=qH n 0;rw[kJ n]at h;show(0+1)*(ch (n+1) 0+ch (n+1) (0+1))=(n+1+1)*ch (n+1) 0;rw[kJ (n+1)];omega
 | n+1,k+1=>by
   have h1:=qH n k;have h2:=qH n (k+1);show(k+2)*(ch (n+1) (k+1)+ch (n+1) (k+2))=(n+2)*ch (n+1) (k+1);have e:ch (n+1) (k+1)=ch n k+ch n (k+1):=rfl
   grind
def sm(f:Nat->Int):Nat->Int
 | 0=>0
 | n+1=>sm f n+f n
theorem mL{f g:Nat->Int}:∀n,(∀k,k<n->f k=g k)->sm f n=sm g n
 | 0,_=>rfl
 | n+1,h=>by
   show sm f n+f n=sm g n+g n;rw[mL n (fun k hk=>h k (by omega)),h n (by omega)]
theorem ym(f g:Nat->Int):∀n,sm (fun k=>f k+g k) n=sm f n+sm g n
 | 0=>rfl
 | n+1=>by
   show sm (fun k=>f k+g k) n+(f n+g n)=(sm f n+f n)+(sm g n+g n)
   rw[ym f g n];omega
theorem yj(c:Int)(f:Nat->Int):∀n,sm (fun k=>c*f k) n=c*sm f n
 | 0=>by simp [sm]
 | n+1=>by
   show sm (fun k=>c*f k) n+c*f n=c*(sm f n+f n)
   rw[yj c f n]
   grind
theorem ka(f:Nat->Int):∀n,sm f (n+1)=f 0+sm (fun k=>f (k+1)) n
 | 0=>by simp [sm]
 | n+1=>by
   show sm f (n+1)+f (n+1)=f 0+(sm (fun k=>f (k+1)) n+f (n+1))
   rw[ka f n];omega
theorem yk{p:Int}{f:Nat->Int}:∀n,(∀k,k<n->p ∣ f k)->p ∣ sm f n
 | 0,_=>⟨0,by simp [sm]⟩
 | n+1,h=>Int.dvd_add (yk n fun k hk=>h k (by omega)) (h n (by omega))
theorem Cd(a:Int):∀n:Nat,(a+1) ^ n=sm (fun k=>(ch n k:Int)*a ^ k) (n+1)
 | 0=>by simp [sm,ch]
 | n+1=>by
   have ih:=Cd a n;rw[Int.pow_succ,ih,ka (fun k=>((ch (n+1) k:Nat):Int)*a ^ k) (n+1)];have e1:sm (fun k=>((ch (n+1) (k+1):Nat):Int)*a ^ (k+1)) (n+1)=a*sm (fun k=>(ch n k:Int)*a ^ k) (n+1)+sm (fun k=>(ch n (k+1):Int)*a ^ (k+1)) (n+1):=by
    rw[←yj,←ym];refine mL _ fun k _=>?_
    have:ch (n+1) (k+1)=ch n k+ch n (k+1):=rfl
    rw[this,Int.natCast_add,Int.pow_succ]
    grind
   have e2:sm (fun k=>(ch n k:Int)*a ^ k) (n+1)=1+sm (fun k=>(ch n (k+1):Int)*a ^ (k+1)) (n+1):=by
    rw[ka]
    have:sm (fun k=>(ch n (k+1):Int)*a ^ (k+1)) (n+1)=sm (fun k=>(ch n (k+1):Int)*a ^ (k+1)) n:=by
     show _+(ch n (n+1):Int)*a ^ (n+1)=_;rw[ly n (n+1) (by omega)]
     simp
    rw[this,kJ]
    simp
   rw[e1,kJ]
   grind
theorem DH{p:Int}(h:Pm p){n k:Nat}(hn:(n:Int)+1=p)(hk:k<n):p ∣ ((ch (n+1) (k+1):Nat):Int):=by
 have e:((k:Int)+1)*((ch (n+1) (k+1):Nat):Int)=p*((ch n k:Nat):Int):=by
  have:=qH n k
  rw[←hn];exact_mod_cast this
 refine h.mul (a:=(k:Int)+1) ⟨_,e⟩ fun hd=>?_
 have:=Int.le_of_dvd (by omega) hd
 omega
theorem og{p:Int}(h:Pm p):∀a:Nat,p ∣ (a:Int) ^ p.toNat-a
 | 0=>by
   have:p.toNat≠0:=by have:=h.1;omega
   simp [Int.zero_pow this]
 | a+1=>by
   have ih:=og h a;obtain⟨n,hn⟩:∃n:Nat,p.toNat=n+1:=⟨p.toNat-1,by have:=h.1;omega⟩
   have hp:(n:Int)+1=p:=by have:=h.1;omega
   rw [hn]at ih ⊢;have b:=Cd (a:Int) (n+1);have e:sm (fun k=>(ch (n+1) k:Int)*(a:Int) ^ k) (n+1+1)=sm (fun k=>(ch (n+1) (k+1):Int)*(a:Int) ^ (k+1)) n+(a:Int) ^ (n+1)+1:=by
    rw[ka];show _+(sm _ n+(ch (n+1) (n+1):Int)*(a:Int) ^ (n+1))=_;rw[Bo,kJ]
    simp
    omega
   have d:p ∣ sm (fun k=>(ch (n+1) (k+1):Int)*(a:Int) ^ (k+1)) n:=yk n fun k hk=>Int.dvd_mul_of_dvd_left (DH h hp hk)
   obtain⟨u,hu⟩:=ih;obtain⟨v,hv⟩:=d;refine⟨u+v,?_⟩;rw[Int.natCast_add];show((a:Int)+1) ^ (n+1)-((a:Int)+1)=_;rw[b,e]
   grind
theorem zQ{p a:Int}(h:Pm p)(ha:¬ p ∣ a)(a0:0<=a):p ∣ a*a ^ (p-2).toNat-1:=by
 obtain⟨n,hn⟩:∃n:Nat,p.toNat=n+2:=⟨p.toNat-2,by have:=h.1;omega⟩
 have e:(p-2).toNat=n:=by omega
 have f:=og h a.toNat;rw[Int.toNat_of_nonneg a0,hn]at f;rw[e];have g:a ^ (n+2)-a=a*(a*a ^ n-1):=by
  rw[Int.pow_succ,Int.pow_succ]
  grind
 rw[g]at f;exact h.mul f ha
def IsPoly:Nat->(Int->Int)->Prop
 | 0,f=>∀x,f x=0
 | n+1,f=>∃(a:Int)(g:Int->Int),IsPoly n g/\∀x,f x=a+x*g x
theorem IsPoly.congr:∀{n:Nat}{f g:Int->Int},IsPoly n f->(∀x,g x=f x)->IsPoly n g
 | 0,_,_,h,e=>fun x=>(e x).trans (h x)
 | _+1,_,_,⟨a,k,hk,h⟩,e=>⟨a,k,hk,fun x=>(e x).trans (h x)⟩
theorem IsPoly.zero:∀n:Nat,IsPoly n fun _=>0
 | 0=>fun _=>rfl
 | n+1=>⟨0,fun _=>0,IsPoly.zero n,fun x=>by simp⟩
theorem IsPoly.up:∀{n:Nat}{f:Int->Int},IsPoly n f->IsPoly (n+1) f
 | 0,f,h=>⟨0,fun _=>0,fun _=>rfl,fun x=>by rw[h x];simp⟩
 | n+1,f,⟨a,g,hg,h⟩=>⟨a,g,hg.up,h⟩
theorem IsPoly.upTo{n:Nat}{f:Int->Int}(h:IsPoly n f):∀m,n<=m->IsPoly m f:=fun m hm=>by
 obtain⟨k,rfl⟩:∃k,m=n+k:=⟨m-n,by omega⟩
 clear hm
 induction k with
 | zero=>exact h
 | succ k ih=>exact ih.up
theorem IsPoly.add:∀{n:Nat}{f g:Int->Int},IsPoly n f->IsPoly n g->IsPoly n fun x=>f x+g x
 | 0,f,g,h,k=>fun x=>by show f x+g x=0;rw[h x,k x];rfl
 | n+1,f,g,⟨a,u,hu,h⟩,⟨b,v,hv,k⟩=>⟨a+b,fun x=>u x+v x,hu.add hv,fun x=>by show f x+g x=a+b+x*(u x+v x);rw[h x,k x];grind⟩
theorem IsPoly.mul(c:Int):∀{n:Nat}{f:Int->Int},IsPoly n f->IsPoly n fun x=>c*f x
 | 0,f,h=>fun x=>by show c*f x=0;rw[h x];simp
 | n+1,f,⟨a,u,hu,h⟩=>⟨c*a,fun x=>c*u x,hu.mul c,fun x=>by show c*f x=c*a+x*(c*u x);rw[h x];grind⟩
theorem IsPoly.lin{n:Nat}{f:Int->Int}(h:IsPoly n f)(r:Int):IsPoly (n+1) fun x=>(x-r)*f x:=by
 have h1:IsPoly (n+1) fun x=>x*f x:=⟨0,f,h,fun x=>by simp⟩
 exact(h1.add (h.up.mul (-r))).congr fun x=>by grind
theorem IsPoly.div:∀{n:Nat}{f:Int->Int},IsPoly (n+1) f->∀r:Int,∃q,IsPoly n q/\∀x,f x-f r=(x-r)*q x
 | 0,f,⟨a,g,hg,h⟩,r=>⟨fun _=>0,fun _=>rfl,fun x=>by rw[h x,h r,hg x,hg r];simp⟩
 | n+1,f,⟨a,g,hg,h⟩,r=>by
   obtain⟨q,hq,e⟩:=IsPoly.div hg r;refine⟨fun x=>g x+r*q x,hg.add (hq.up.mul r),fun x=>?_⟩
   have:=e x
   rw[h x,h r]
   grind
theorem IsPoly.roots{p:Int}(hp:Pm p):∀{n:Nat}{f:Int->Int}(rs:List Int),IsPoly n f->rs.length=n->rs.Pairwise (fun a b=>¬ p ∣ b-a)->(∀r∈rs,p ∣ f r)->∀x,p ∣ f x
 | 0,f,_,h,_,_,_,x=>⟨0,by rw[h x];simp⟩
 | n+1,f,[],_,hl,_,_,_=>by simp at hl
 | n+1,f,r::rs,h,hl,hd,hr,x=>by
   obtain ⟨q,hq,e⟩:=h.div r;have hd':=List.pairwise_cons.mp hd;have z:=IsPoly.roots hp rs hq (by simpa using hl) hd'.2 (fun s hs=>by
    have h1:p ∣ (s-r)*q s:=by
     rw[←e s];exact Int.dvd_sub (hr s (qL0 _ hs)) (hr r qG0)
    exact hp.mul h1 (hd'.1 s hs)) x
   have:f x=f r+(x-r)*q x:=by have:=e x;omega
   rw[this];exact Int.dvd_add (hr r qG0) (Int.dvd_mul_of_dvd_right z)
end Mine
namespace Mine
def pr(g:Nat->Int):Nat->Int
 | 0=>1
 | n+1=>pr g n*g n
theorem nj{f g:Nat->Int}:∀n,(∀k,k<n->f k=g k)->pr f n=pr g n
 | 0,_=>rfl
 | n+1,h=>by
   show pr f n*f n=pr g n*g n;rw[nj n (fun k hk=>h k (by omega)),h n (by omega)]
theorem ni(g:Nat->Int):∀n,pr g (n+1)=g 0*pr (fun k=>g (k+1)) n
 | 0=>by simp [pr]
 | n+1=>by
   show pr g (n+1)*g (n+1)=g 0*(pr (fun k=>g (k+1)) n*g (n+1))
   rw[ni g n,Int.mul_assoc]
def px(x:Int)(i:Nat):Nat->Int
 | 0=>1
 | n+1=>if n=i then px x i n else px x i n*(x-n)
theorem vp(i:Nat):∀n,IsPoly (if i<n then n else n+1) fun x=>px x i n
 | 0=>⟨1,fun _=>0,fun _=>rfl,fun x=>by simp [px]⟩
 | n+1=>by
   have ih:=vp i n
   by_cases c:n=i
   . subst c;rw[zD0 (qV0 n)]at ih;rw[zF0 (Nat.lt_succ_self n)];exact ih.congr fun x=>by simp [px]
   . have e:∀x,px x i (n+1)=(x-n)*px x i n:=fun x=>by
      show(if n=i then px x i n else px x i n*(x-n))=_;rw[zD0 c,Int.mul_comm]
     by_cases c2:i<n
     . rw[zF0 c2]at ih;rw[zF0 (by omega)];exact(ih.lin n).congr e
     . rw[zD0 c2]at ih;rw[zD0 (by omega)];exact(ih.lin n).congr e
theorem qe{k i:Nat}(h:k≠i):∀n,k<n->px (k:Int) i n=0
 | n+1,hk=>by
   show(if n=i then px (k:Int) i n else px (k:Int) i n*((k:Int)-n))=0
   by_cases c:n=i
   . rw[zF0 c];exact qe h n (by omega)
   . rw [zD0 c]
     by_cases c2:k=n
     . subst c2
       simp
     . rw [qe h n (by omega)]
       simp
def lag(v u:Nat->Int)(n:Nat)(x:Int):Int:=sm (fun i=>v i*px x i n*u i) n
theorem Aw{n m:Nat}{f:Nat->Int->Int}:(∀i,i<m->IsPoly n (f i))->IsPoly n fun x=>sm (fun i=>f i x) m:=by
 induction m with
 | zero=>exact fun _=>IsPoly.zero n
 | succ m ih=>exact fun h=>(ih fun i hi=>h i (by omega)).add (h m (by omega))
theorem sv(v u:Nat->Int)(n:Nat):IsPoly n (lag v u n):=Aw fun i hi=>by
 have h:=vp i n;rw[zF0 hi]at h;exact(h.mul (v i*u i)).congr fun x=>by grind
theorem yi{f:Nat->Int}{k:Nat}:∀n,k<n->(∀i,i<n->i≠k->f i=0)->sm f n=f k
 | n+1,hk,h=>by
   show sm f n+f n=f k
   by_cases c:k=n
   . subst c;have z:sm f k=0:=by
      have:sm f k=sm (fun _=>0) k:=mL k fun i hi=>h i (by omega) (by omega)
      rw[this];clear this h hk
      induction k with
      | zero=>rfl
      | succ k ih=>show sm (fun _=>0) k+0=0;rw[ih];rfl
     rw[z]
     simp
   . rw [yi n (by omega) (fun i hi=>h i (by omega)),h n (by omega) (by omega)]
     simp
def Wgt(p:Int)(n:Nat)(u:Nat->Int):Prop:=∀i,i<n->p ∣ px (i:Int) i n*u i-1
theorem uB{p:Int}{v u:Nat->Int}{n k:Nat}(hu:Wgt p n u)(hk:k<n):p ∣ lag v u n k-v k:=by
 unfold lag;rw[yi n hk fun i hi hne=>by rw[qe (Ne.symm hne) n hk];simp];obtain⟨m,hm⟩:=hu k hk;exact⟨v k*m,by grind⟩
theorem far{p:Int}{n:Nat}(hn:(n:Int)<=p):((List.range n).map fun k:Nat=>(k:Int)).Pairwise fun a b=>¬ p ∣ b-a:=by
 rw[List.pairwise_map];refine List.Pairwise.imp_of_mem (fun{a b} ha hb h=>?_) List.pairwise_lt_range;intro d
 have:=Int.le_of_dvd (by omega) d
 have hb':=List.mem_range.mp hb;omega
theorem alike{p:Int}(hp:Pm p){n:Nat}(hn:(n:Int)<=p){f g:Int->Int}(hf:IsPoly n f)(hg:IsPoly n g)(h:∀k:Nat,k<n->p ∣ f k-g k)(x:Int):p ∣ f x-g x:=by
 have hd:IsPoly n fun x=>f x-g x:=(hf.add (hg.mul (-1))).congr fun x=>by grind
 refine hd.roots hp ((List.range n).map fun k:Nat=>(k:Int)) (by simp) (far hn) (fun r hr=>?_) x;obtain⟨k,hk,rfl⟩:=List.mem_map.mp hr;exact h k (List.mem_range.mp hk)
theorem su{p:Int}(hp:Pm p){n:Nat}(hn:(n:Int)<=p){v u:Nat->Int}{P:Int->Int}(hu:Wgt p n u)(hP:IsPoly n P)(h:∀k:Nat,k<n->p ∣ v k-P k)(x:Int):p ∣ lag v u n x-P x:=
 alike hp hn (sv v u n) hP (fun k hk=>by
  have h1:=uB (v:=v) hu hk;have h2:=h k hk
  have:lag v u n k-P k=(lag v u n k-v k)+(v k-P k):=by omega
  rw[this];exact Int.dvd_add h1 h2) x
theorem zH{p:Int}(hp:Pm p){n:Nat}(hn:(n:Int)<=p){v u u':Nat->Int}(hu:Wgt p n u)(hu':Wgt p n u')(x:Int):p ∣ lag v u n x-lag v u' n x:=
 su hp hn hu (sv v u' n) (fun k hk=>by
  obtain⟨m,hm⟩:=uB (v:=v) hu' hk;exact⟨-m,by grind⟩) x
theorem nh(x:Int)(i:Nat):∀m,px x i (i+1+m)=pr (fun j=>x-j) i*pr (fun j=>x-(i+1+j:Nat)) m
 | 0=>by
   have h:∀k,k<=i->px x i k=pr (fun j=>x-j) k:=fun k=>by
    induction k with
    | zero=>exact fun _=>rfl
    | succ k ih=>
      intro hk;show(if k=i then px x i k else px x i k*(x-k))=pr (fun j=>x-j) k*(x-k)
      rw[zD0 (by omega),ih (by omega)]
   show(if i=i then px x i i else _)=_*1;rw[zF0 rfl,h i (zG0 _),Int.mul_one]
 | m+1=>by
   show(if i+1+m=i then _ else px x i (i+1+m)*(x-(i+1+m:Nat)))=pr (fun j=>x-j) i*(pr (fun j=>x-(i+1+j:Nat)) m*(x-(i+1+m:Nat)))
   rw[zD0 (by omega),nh x i m,Int.mul_assoc]
theorem vt(x:Int)(i:Nat):∀m,pr (fun j=>x-(i+m:Nat)+j) m=pr (fun j=>x-(i+1+j:Nat)) m
 | 0=>rfl
 | m+1=>by
   rw[ni];show _=pr (fun j=>x-(i+1+j:Nat)) m*(x-(i+1+m:Nat))
   have e:pr (fun k=>x-(i+(m+1):Nat)+(k+1:Nat)) m=pr (fun j=>x-(i+m:Nat)+j) m:=nj m fun k _=>by omega
   rw[e,vt x i m,Int.mul_comm]
   congr 1
   omega
def fac:Nat->Int
 | 0=>1
 | n+1=>fac n*((n:Int)+1)
theorem sG:∀n:Nat,pr (fun j=>(n:Int)-j) n=fac n
 | 0=>rfl
 | n+1=>by
   rw[ni];have e:pr (fun k=>((n+1:Nat):Int)-(k+1:Nat)) n=pr (fun j=>(n:Int)-j) n:=nj n fun k _=>by omega
   rw[e,sG n];show((n+1:Nat)-(0:Nat):Int)*fac n=fac n*((n:Int)+1)
   rw[Int.mul_comm]
   congr 1
theorem vE(i:Nat):∀m:Nat,pr (fun j=>(i:Int)-(i+1+j:Nat)) m=(-1) ^ m*fac m
 | 0=>rfl
 | m+1=>by
   show pr _ m*((i:Int)-(i+1+m:Nat))=(-1) ^ (m+1)*(fac m*((m:Int)+1))
   rw[vE i m,Int.pow_succ]
   have:((i:Int)-(i+1+m:Nat))=-((m:Int)+1):=by omega
   rw[this]
   grind
theorem yE(i m:Nat):px (i:Int) i (i+1+m)=fac i*((-1) ^ m*fac m):=by rw[nh,sG,vE]
theorem sF:∀(k d:Nat),fac d*pr (fun j=>((d+k:Nat):Int)-j) k=fac (d+k)
 | 0,d=>by simp [pr]
 | k+1,d=>by
   have ih:=sF k (d+1);rw[show d+1+k=d+(k+1) by omega]at ih;rw[←ih];show fac d*(pr (fun j=>((d+(k+1):Nat):Int)-j) k*(((d+(k+1):Nat):Int)-k))=fac d*((d:Int)+1)*pr (fun j=>((d+(k+1):Nat):Int)-j) k
   have:(((d+(k+1):Nat):Int)-k)=(d:Int)+1:=by omega
   rw[this]
   grind
theorem qD{p:Int}(hp:Pm p):∀n:Nat,(n:Int)<p->¬ p ∣ fac n
 | 0,_=>fun d=>by
   have:=Int.le_of_dvd (by decide) (show p ∣ 1 from d)
   have:=hp.1
   omega
 | n+1,h=>hp.not_mul (qD hp n (by omega)) fun d=>by
   have:=Int.le_of_dvd (by omega) d
   omega
theorem uU(m:Nat):((-1:Int) ^ m)*(-1) ^ m=1:=by
 induction m with
 | zero=>rfl
 | succ m ih=>rw[Int.pow_succ];grind
theorem CV{p:Int}(hp:Pm p){n i:Nat}(hn:(n:Int)<=p)(hi:i<n):¬ p ∣ px (i:Int) i n:=by
 obtain⟨m,rfl⟩:∃m,n=i+1+m:=⟨n-(i+1),by omega⟩
 rw[yE];refine hp.not_mul (qD hp i (by omega)) (hp.not_mul (fun d=>?_) (qD hp m (by omega)));obtain⟨k,hk⟩:=d;have s:=uU m
 have:p ∣ 1:=⟨k*(-1) ^ m,by grind⟩
 have:=Int.le_of_dvd (by decide) this
 have:=hp.1
 omega
theorem Ai{p:Int}{last:Nat}{sh:Nat->Int}(h:∀k,k<=last->p ∣ sh k*fac k-1):Wgt p (last+1) fun i=>(-1) ^ (last-i)*(sh i*sh (last-i)):=fun i hi=>by
 obtain⟨m,rfl⟩:∃m,last=i+m:=⟨last-i,by omega⟩
 show p ∣ px (i:Int) i (i+m+1)*((-1) ^ (i+m-i)*(sh i*sh (i+m-i)))-1;rw[show i+m+1=i+1+m by omega,yE,show i+m-i=m by omega];obtain⟨a,ha⟩:=h i (by omega);obtain⟨b,hb⟩:=h m (by omega);have s:=uU m;refine⟨a*(sh m*fac m)+b,?_⟩;have e:fac i*((-1) ^ m*fac m)*((-1) ^ m*(sh i*sh m))=((-1) ^ m*(-1) ^ m)*((sh i*fac i)*(sh m*fac m)):=by grind
 rw[e,s]
 grind
end Mine
namespace Mine
theorem IsPoly.prod:∀{m n:Nat}{f g:Int->Int},IsPoly (m+1) f->IsPoly (n+1) g->IsPoly (m+n+1) fun x=>f x*g x
 | 0,n,f,g,⟨a,u,hu,e⟩,hg=>by
   rw[Nat.zero_add];exact(hg.mul a).congr fun x=>by rw[e x,hu x];simp
 | m+1,n,f,g,⟨a,u,hu,e⟩,hg=>by
   have ih:=IsPoly.prod hu hg;have h1:IsPoly (m+n+1+1) fun x=>x*(u x*g x):=⟨0,_,ih,fun x=>by simp⟩
   have h2:IsPoly (m+n+1+1) fun x=>a*g x:=(hg.mul a).upTo _ (by omega)
   rw[show m+1+n+1=m+n+1+1 by omega];exact(h2.add h1).congr fun x=>by rw[e x];grind
theorem IsPoly.const(c:Int)(n:Nat):IsPoly (n+1) fun _=>c:=⟨c,fun _=>0,IsPoly.zero n,fun x=>by simp⟩
theorem IsPoly.self:IsPoly 2 fun x=>x:=⟨0,fun _=>1,IsPoly.const 1 0,fun x=>by simp⟩
theorem oi(p x:Int):p ∣ x % p-x:=⟨-(x / p),by
 have:=Int.emod_add_mul_ediv x p
 rw[Int.mul_neg];omega⟩
end Mine
namespace Mine
open PySem L2
theorem kF{us:List Value}(h:us.length=1):∃a,us=[a]:=by
 cases us with
 | nil=>cases h
 | cons a r=>
   cases r with
   | nil=>exact⟨a,rfl⟩
   | cons _ _=>cases h
theorem wS{us:List Value}{n:Nat}(h:us.length=n+1):∃a r,us=a::r/\r.length=n:=by
 cases us with
 | nil=>cases h
 | cons a r=>exact⟨a,r,rfl,Nat.succ.inj h⟩
theorem fZ{us:List Value}(h:us.length=2):∃a b,us=[a,b]:=by
 obtain⟨a,r,rfl,h1⟩:=wS h;obtain⟨b,rfl⟩:=kF h1;exact⟨a,b,rfl⟩
theorem fY{us:List Value}(h:us.length=3):∃a b c,us=[a,b,c]:=by
 obtain⟨a,r,rfl,h1⟩:=wS h;obtain⟨b,c,rfl⟩:=fZ h1;exact⟨a,b,c,rfl⟩
theorem nK{us:List Value}(h:us.length=4):∃a b c d,us=[a,b,c,d]:=by
 obtain⟨a,r,rfl,h1⟩:=wS h;obtain⟨b,c,d,rfl⟩:=fY h1;exact⟨a,b,c,d,rfl⟩
theorem len5{us:List Value}(h:us.length=5):∃a b c d e,us=[a,b,c,d,e]:=by
 obtain⟨a,r,rfl,h1⟩:=wS h;obtain⟨b,c,d,e,rfl⟩:=nK h1;exact⟨a,b,c,d,e,rfl⟩
theorem len6{us:List Value}(h:us.length=6):∃a b c d e f,us=[a,b,c,d,e,f]:=by
 obtain⟨a,r,rfl,h1⟩:=wS h;obtain⟨b,c,d,e,f,rfl⟩:=len5 h1;exact⟨a,b,c,d,e,f,rfl⟩
theorem len7{us:List Value}(h:us.length=7):∃a b c d e f g,us=[a,b,c,d,e,f,g]:=by
 obtain⟨a,r,rfl,h1⟩:=wS h;obtain⟨b,c,d,e,f,g,rfl⟩:=len6 h1;exact⟨a,b,c,d,e,f,g,rfl⟩
def top(i:Nat):Stmt:=PySem.Challenge.pw_asktally_k69_whole_disputes_by_a_model.main.body.getD i (.Pass ⟨0,0,0,0⟩)
abbrev fh:Stmt:=top 2
abbrev du:Stmt:=top 3
abbrev eW:Stmt:=top 5
abbrev cv:Stmt:=top 6
abbrev eY:Stmt:=top 7
abbrev bq:Stmt:=top 8
abbrev cB:Stmt:=top 10
abbrev dM:Stmt:=top 11
abbrev io:Stmt:=top 12
abbrev fi:Stmt:=top 13
abbrev cx:Stmt:=top 14
abbrev dL:Stmt:=top 15
abbrev dU:Stmt:=top 17
abbrev eX:Stmt:=top 18
abbrev dJ:Stmt:=top 22
abbrev eZ:Stmt:=top 23
abbrev gz:Stmt:=top 24
abbrev gq:Stmt:=top 30
abbrev cR:Stmt:=top 31
abbrev dI:Stmt:=top 39
abbrev cz:Stmt:=top 40
abbrev dR:Stmt:=top 44
abbrev cb:Stmt:=top 45
abbrev dj:Stmt:=top 46
abbrev dl:Stmt:=top 47
abbrev dN:Stmt:=top 48
abbrev im:Stmt:=top 50
abbrev ic:Stmt:=top 51
abbrev bi:Stmt:=top 52
abbrev gF:Stmt:=top 53
abbrev cM:Stmt:=top 54
abbrev ig:Stmt:=top 55
abbrev dr:Stmt:=top 56
abbrev gu:Stmt:=top 57
abbrev dq:Stmt:=top 58
abbrev gG:Stmt:=top 59
abbrev fe:Stmt:=top 60
abbrev ik:Stmt:=top 61
abbrev fc:Stmt:=top 62
abbrev gs:Stmt:=top 63
abbrev jB:Stmt:=top 64
abbrev jz:Stmt:=top 65
abbrev gx:Stmt:=top 66
abbrev dQ:Stmt:=top 67
abbrev ib:Stmt:=top 68
abbrev bV:Stmt:=top 69
abbrev ie:Stmt:=top 70
abbrev jA:Stmt:=top 71
abbrev fg:Stmt:=top 72
abbrev dP:Stmt:=top 73
abbrev gy:Stmt:=top 74
abbrev km:Stmt:=top 75
section
variable {P:Program} {w:World} {K:W.Frag} {mg:Str->Option Value} {base:Heap}
abbrev jh:Stmt:=top 20
abbrev lc:Stmt:=top 27
abbrev tP:Stmt:=top 29
abbrev tQ:Stmt:=top 43
structure Bl(mg:Str->Option Value):Prop where
 len:mg "len"=none
 range:mg "range"=none
 isinstance:mg "isinstance"=none
 int:mg "int"=none
 bool:mg "bool"=none
 list:mg "list"=none
 tuple:mg "tuple"=none
 max:mg "max"=none
 min:mg "min"=none
 reversed:mg "reversed"=none
 enumerate:mg "enumerate"=none
 sum:mg "sum"=none
 all:mg "all"=none
 zip:mg "zip"=none
 dict:mg "dict"=none
theorem vD(z:Int):0<=z % 2147483646+1/\z % 2147483646+1<=2147483646:=by omega
theorem fu:FnScope ["_law_script","_law_k","_law_cell","_law_own"] ["_law_script","_law_k"] (ae im):=⟨rfl,rfl,rfl,by decide +kernel,rfl,by decide +kernel,by decide +kernel⟩
theorem wE {f:Addr} {fd:FuncData} (F:Fun K "_law_feed" "_law_feed" im f fd) (hlen:mg "len"=none):FnOk P w K mg base CX0 1 f fd ["_law_script","_law_k"] (ye K):=by
 refine F.ok fu (fun vs H Q E h=>?_) (fun cdv A outer s H vs Q E hr h=>?_)
 . obtain⟨a,ns,k,rfl,_⟩:=h;rfl
 obtain ⟨a,ns,k,rfl,hS,h63,k0,k1,q⟩:=h;refine⟨_,(ac (am (i:=2) fu.nd rfl (Or.inl rfl) (ag aW (ag bg aa (pv 1)) aa))
  (ac (aJ (ah df (pv 1) (aE aB rfl hlen PySem.boot_len (af (pv 0) aH)) (aj _)) (ad (am (i:=2) fu.nd rfl (Or.inl rfl) (aq ix_list (pv 0) (pv 1) (fun _ _=>rfl)))) (ad (aJ (ah iz (aE aB rfl hlen PySem.boot_len (af (pv 0) aH)) aa (aj _)) (ad (am (i:=2) fu.nd rfl (Or.inl rfl) (ag aW (ag bg (ag aN (aq ix_list (pv 0) (ag aN (pv 1) (aE aB rfl hlen PySem.boot_len (af (pv 0) aH))) (fun _ _=>rfl)) aa) aa) (ag bg aa (pv 1))))) az)))
  (ac (am (i:=3) fu.nd rfl (Or.inl rfl) aa)
  (ac (aJ (ah yT (pv 2) (ag tY aa aa) (aj _)) (ad (am (i:=3) fu.nd rfl (Or.inl rfl) (pv 2))) az)
  (ad (av (bL (af (pv 3) (af (ag aW (ag aN (ag aW (ag bg (ag aN (pv 2) aa) aa) (ag bg aa (pv 1))) aa) aa) aH))))))))),?_⟩
 have hl:(ns.map V.int).length=ns.length:=zH0 _;have hp:(10:Int) ^ (18:Int).toNat=1000000000000000000:=by decide
 refine⟨_,rfl,_,_,rfl,rfl,.inl ⟨by decide,by decide⟩,_,_,rfl,rfl,?_⟩;refine⟨_,rfl,_,rfl,a,_,rfl,.inl hS,_,_,rfl,rfl,_,rfl,?_⟩;refine iV (fun c=>?b1) (fun c=>?b2)
 case' b1=>
  have c':k<(((ns.map V.int).length:Nat):Int):=of_decide_eq_true c;rw[hl]at c';obtain⟨v,hv⟩:=zY (ns:=ns) k0 c';refine⟨_,rfl,_,rfl,a,_,_,_,rfl,rfl,hS,hv,?_⟩
 case' b2=>
  refine⟨_,rfl,a,_,rfl,.inl hS,_,_,rfl,rfl,_,rfl,?_⟩;refine iV (fun c2=>?b3) (fun c2=>?b4)
  case' b3=>
   have c':(0:Int)<(((ns.map V.int).length:Nat):Int):=of_decide_eq_true c2;have m0:=zU0 k (b:=(((ns.map V.int).length:Nat):Int)) (by omega);have m1:=zX0 k c';obtain⟨v,hv⟩:=zY (ns:=ns) m0 (by rw[hl]at m1 ⊢;exact m1);have n0:=zU0 v (b:=2147483629) (by decide);have n1:=zX0 v (b:=2147483629) (by decide);refine⟨_,rfl,_,rfl,_,rfl,a,_,rfl,.inl hS,_,_,rfl,rfl,c',a,_,_,_,rfl,rfl,hS,hv,_,_,rfl,rfl,(by show(0:Int)<_;decide),_,_,rfl,rfl,.inr ⟨by decide,by decide⟩,_,rfl,_,_,rfl,rfl,.inl ⟨by decide,by decide⟩,_,_,rfl,rfl,?_⟩
 all_goals
  refine⟨_,rfl,_,_,rfl,rfl,⟨by decide,by decide,by decide⟩,_,_,rfl,rfl,_,rfl,?_⟩;refine iV (fun c3=>?_) (fun c3=>?_)
  . have c4:=of_decide_eq_true c3;rw[hp]at c4;refine⟨_,rfl,_,rfl,_,rfl,_,_,rfl,rfl,(by show(0:Int)<_;decide),_,_,rfl,rfl,.inr ⟨by decide,by decide⟩,_,rfl,_,_,rfl,rfl,.inl ⟨by decide,by decide⟩,_,_,rfl,rfl,_,_,rfl,rfl,(by show(0:Int)<_;decide),_,_,rfl,rfl,(by show 2<=sizeLine;decide),fun p hp=>?_⟩;refine q p _ hp (zC0 hp _) ⟨_,_,aD,Int.le_trans (by decide) c4,(vD _).1,(vD _).2⟩
  . refine⟨_,rfl,_,rfl,_,_,rfl,rfl,(by show(0:Int)<_;decide),_,_,rfl,rfl,.inr ⟨by decide,by decide⟩,_,rfl,_,_,rfl,rfl,.inl ⟨by decide,by decide⟩,_,_,rfl,rfl,_,_,rfl,rfl,(by show(0:Int)<_;decide),_,_,rfl,rfl,(by show 2<=sizeLine;decide),fun p hp=>?_⟩;refine q p _ hp (zC0 hp _) ⟨_,_,aD,Int.le_refl 0,(vD _).1,(vD _).2⟩
theorem mV:FnScope ["_law_feed_here","_law_many","_law_digit","_law_one"] ["_law_feed_here","_law_many"] (ae ic):=⟨rfl,rfl,rfl,by decide +kernel,rfl,by decide +kernel,by decide +kernel⟩
theorem wA {f:Addr} {fd:FuncData} (F:Fun K "_law_take" "_law_take" ic f fd):FnOk P w K mg base CX0 1 f fd ["_law_feed_here","_law_many"] gD:=by
 refine F.ok mV (fun vs H Q E h=>?_) (fun cdv A outer s H vs Q E hr h=>?_)
 . obtain⟨f,m,rfl,_⟩:=h;rfl
 obtain ⟨f,m,rfl,⟨own,st,hf,o0,s0,s1⟩,m0,m1,q⟩:=h;refine⟨_,(ac (aJ (ah iz (aq ix_list (pv 0) aa (fun _ _=>rfl)) aa (aj _)) (ac (am (i:=2) mV.nd rfl (Or.inl rfl) (ag aN (aq ix_list (pv 0) aa (fun _ _=>rfl)) (pv 1)))
  (ac (lj (ag yU (aq ix_list (pv 0) aa (fun _ _=>rfl)) (pv 1)) (qj (pv 0) aa kg))
  (ad (av (pv 2))))) az)
  (ac (am (i:=3) mV.nd rfl (Or.inl rfl) (ag aN (ag bg (aq ix_list (pv 0) aa (fun _ _=>rfl)) aa) aa))
  (ac (lj (ag aW (ag aN (ag aW (ag bg (pv 3) aa) aa) aa) aa) (qj (pv 0) aa kg))
  (ad (av (ag aN (ag qp (ag aW (ag bg (pv 3) aa) (aq ix_list (pv 0) aa (fun _ _=>rfl))) aa) (pv 1))))))),?_⟩
 refine⟨_,rfl,f,_,0,_,rfl,rfl,zE0 hf,rfl,_,_,rfl,rfl,_,rfl,?_⟩;refine iV (fun c=>?_) (fun c=>?_)
 . refine⟨_,rfl,f,_,0,_,rfl,rfl,zE0 hf,rfl,_,rfl,_,_,rfl,rfl,m0,?_⟩;refine⟨_,rfl,f,_,0,_,rfl,rfl,zE0 hf,rfl,_,rfl,_,_,rfl,rfl,⟨m0,m1⟩,_,rfl,f,_,0,0,rfl,rfl,hf,rfl,?_⟩;refine⟨_,rfl,?_⟩;exact q _ _ (zU0 _ (by omega)) (zX0 _ m0) ⟨_,_,aD,Int.ediv_nonneg o0 (by omega),s0,s1⟩ (SameBut.upd _)
 . have a0:=zU0 (st*69621) (b:=2147483647) (by decide);have a1:=zX0 (st*69621) (b:=2147483647) (by decide);refine⟨_,rfl,f,_,1,_,rfl,rfl,zE0 hf,rfl,_,_,rfl,rfl,.inr ⟨by decide,by decide⟩,_,_,rfl,rfl,(by show(0:Int)<_;decide),?_⟩;refine⟨_,rfl,_,_,rfl,rfl,.inr ⟨by decide,by decide⟩,_,_,rfl,rfl,_,_,rfl,rfl,(by show(0:Int)<_;decide),_,_,rfl,rfl,_,rfl,f,_,1,1,rfl,rfl,hf,rfl,?_⟩;have b0:=zU0 (st*69621 % 2147483647*48271+30103) (b:=2147483646) (by decide);have b1:=zX0 (st*69621 % 2147483647*48271+30103) (b:=2147483646) (by decide);refine⟨_,rfl,_,_,rfl,rfl,.inr ⟨by decide,by decide⟩,_,rfl,f,_,1,_,rfl,rfl,zE0 aD,rfl,_,_,rfl,rfl,_,_,rfl,rfl,⟨by decide,by decide⟩,_,rfl,_,_,rfl,rfl,m0,?_⟩;exact q _ _ (zU0 _ (by omega)) (zX0 _ m0) ⟨_,_,aD,o0,by omega,by omega⟩ (SameBut.upd _)
theorem gY:FnScope ["_law_feed_here","_law_names_here","_law_room","_law_deep","_law_form","_law_more","_law_one","_law_word"] ["_law_feed_here","_law_names_here","_law_room","_law_deep"] (ae gF):=⟨rfl,rfl,rfl,by decide +kernel,rfl,by decide +kernel,by decide +kernel⟩
theorem lf{a X Y B:Prop}[Decidable a](x:X)(h:¬ a->X->B):if decide a=true then(if true=true then X else Y)else B:=by
 by_cases c:a
 . rw[decide_eq_true c];exact fq (fq x)
 . rw[decide_eq_false c];exact dD (h c x)
theorem vT {n:Nat} {f:Addr} {fd:FuncData} (F:Fun K "_law_tree" "_law_tree" gF f fd) (hlen:mg "len"=none) (ba:Cal P w K mg base 1 "_law_take" ["_law_feed_here","_law_many"] gD)
 (eQ:Cal P w K mg base (n+2) "_law_tree" ["_law_feed_here","_law_names_here","_law_room","_law_deep"] (kU n)):FnOk P w K mg base CX0 (n+3) f fd ["_law_feed_here","_law_names_here","_law_room","_law_deep"] (kU (n+1)):=by
 refine F.ok gY (fun vs H Q E h=>?_) (fun cdv A outer s H vs Q E hr h=>?_)
 . obtain⟨f,a,room,deep,ns,rfl,_⟩:=h;rfl
 obtain ⟨f,a,room,deep,ns,rfl,hF,hN,nl,r1,r100,d1,dn,q⟩:=h;refine⟨_,(ac (am (i:=4) gY.nd rfl (Or.inl rfl) (ai ba hr (Nat.succ_le_succ (qB0 _)) rfl (af (pv 0) (af aa aH))))
  (ac (aJ (PW.pt (gI (ah df (pv 2) aa (aj _)) (gI (ah df (pv 3) aa (aj _)) (fV (ah aM (pv 4) aa (aj _)))))) (ac (aJ (PW.pt (gI (ah aM (ag aN (pv 4) aa) aa (aj _)) (fV (ah aM (aE aB rfl hlen PySem.boot_len (af (pv 1) aH)) aa (aj _))))) (ad (av (aq ix_list (bL (af (aX (af ax aH)) (af (aX (af ax aH)) aH))) (ai ba hr (Nat.succ_le_succ (qB0 _)) rfl (af (pv 0) (af aa aH))) (fun _ _=>rfl)))) az)
   (ad (av (aX (af ax (af (aq (ix_list.or aC) (pv 1) (ai ba hr (Nat.succ_le_succ (qB0 _)) rfl (af (pv 0) (af (aE aB rfl hlen PySem.boot_len (af (pv 1) aH)) aH))) (fun _ _=>rfl)) aH)))))) az)
  (ac (aJ (PW.pt (gI (ah df (pv 2) aa (aj _)) (fV (ah aM (pv 4) aa (aj _))))) (ad (av (aX (af ax (af (ai eQ hr (zG0 _) rfl (af (pv 0) (af (pv 1) (af (ag aV (pv 2) aa) (af (ag aV (pv 3) aa) aH))))) aH))))) az)
  (ac (am (i:=5) gY.nd rfl (Or.inl rfl) (ag aW aa (ai ba hr (Nat.succ_le_succ (qB0 _)) rfl (af (pv 0) (af (ag aV (pv 2) aa) aH)))))
  (ac (am (i:=6) gY.nd rfl (Or.inl rfl) (ai eQ hr (zG0 _) rfl (af (pv 0) (af (pv 1) (af (pv 5) (af (ag aV (pv 3) aa) aH))))))
  (ac (am (i:=7) gY.nd rfl (Or.inl rfl) (aq ix_list (bL (af ax (af ax (af ax (af ax aH))))) (ag aN (pv 4) aa) (fun _ _=>rfl)))
  (ad (av (aX (af (pv 7) (af (pv 6) (af (ai eQ hr (zG0 _) rfl (af (pv 0) (af (pv 1) (af (ag aV (ag aV (pv 2) aa) (pv 5)) (af (ag aV (pv 3) aa) aH))))) aH)))))))))))),?_⟩
 refine⟨_,rfl,f,10,rfl,hF,by decide,by decide,fun fm H1 f0 f10 F1 S1=>?_⟩;have N1:=hN.feed hF S1;refine⟨_,rfl,_,_,rfl,rfl,_,rfl,?_⟩;refine lf ?leaf fun c1 hX=>?_
 case leaf=>
  refine⟨_,rfl,_,_,rfl,rfl,(by show(0:Int)<_;decide),rfl,_,rfl,?_⟩;refine lf ?yn fun c6 hY=>?_
  case yn=>
   refine⟨(by show 1<=sizeLine;decide),fun p1 h1=>?_⟩;refine⟨(by show 1<=sizeLine;decide),fun p2 h2=>?_⟩;refine⟨(by show 2<=sizeLine;decide),fun l hl=>?_⟩;have ga:=zC0 h1 (.tup [.str "yes"]);have gb:=zC0 h2 (.tup [.str "no"]);have gc:=zC0 hl (.lst [.ref p1,.ref p2]);have G:=ga.trans (gb.trans gc);have nlf:=(F1.same (ga.trans gb)).ne hl;refine⟨_,rfl,f,2,rfl,F1.same G,by decide,by decide,fun d H2 d0 d2 F2 S2=>?_⟩;have y2:H2 p1=some (.tup [.str "yes"]):=aQ (F1.same G) S2 _ _ (gc _ _ (gb _ _ aD));have n2:H2 p2=some (.tup [.str "no"]):=aQ (F1.same G) S2 _ _ (gc _ _ aD);have l2:=S2 l _ nlf aD
   have:d=0∨d=1:=by omega
   rcases this with rfl | rfl
   . exact⟨l,_,0,_,rfl,rfl,zE0 l2,rfl,q (.ref p1) .yes H2 F2 (S1.trans ((zJ0 G).trans S2)) (.yes y2) trivial (show(1:Int)<=room from r1) (show(1:Int)<=deep from d1)⟩
   . exact⟨l,_,1,_,rfl,rfl,zE0 l2,rfl,q (.ref p2) .no H2 F2 (S1.trans ((zJ0 G).trans S2)) (.no n2) trivial (show(1:Int)<=room from r1) (show(1:Int)<=deep from d1)⟩
  refine⟨_,rfl,a,_,rfl,N1.seq,rfl,_,rfl,?_⟩
  by_cases c7:V.int ((ns.map V.str).length:Int)=V.int 0
  . exact aU c7 hY
  refine au c7 ?_;have nz:0<ns.length:=by
   have z:¬ ((ns.map V.str).length:Int)=0:=fun z=>c7 (congrArg V.int z)
   rw[zH0]at z;omega
  refine⟨_,rfl,_,rfl,_,rfl,a,_,rfl,N1.seq,f,_,rfl,F1,(show(0:Int)<((ns.map V.str).length:Int) by rw[zH0];omega),by rw[zH0];omega,fun d H2 d0 d9 F2 S2=>?_⟩;obtain⟨v,hv,vm⟩:=lV (l:=ns.map V.str) (i:=d) d0 d9;obtain⟨x,hx,rfl⟩:=List.mem_map.mp vm;refine(N1.feed F1 S2).ix hv ?_;refine⟨(by show 2<=sizeLine;decide),fun p hp=>?_⟩;have G:=zC0 hp (.tup [.str "is",.str x]);exact q (.ref p) (.is x) _ (F2.same G) (S1.trans (S2.trans (zJ0 G))) (.is aD) hx (show(1:Int)<=room from r1) (show(1:Int)<=deep from d1)
 refine⟨_,rfl,_,_,rfl,rfl,_,rfl,?_⟩
 by_cases c2:deep<2
 . exact aU c2 (fq hX)
 refine au c2 ?_;refine⟨_,rfl,rfl,_,rfl,?_⟩
 by_cases c3:V.int fm=V.int 9
 . exact aU c3 hX
 refine au c3 ?_;refine⟨_,rfl,_,_,rfl,rfl,_,rfl,?_⟩;have d2:2<=deep:=by omega
 have dd:1<=deep-1:=by omega
 have ddn:deep-1+1<=(n:Int)+1:=by omega
 refine lf ?nt fun c4 hN=>?_
 case nt=>
  refine⟨_,rfl,_,rfl,_,rfl,_,_,rfl,rfl,_,rfl,_,_,rfl,rfl,f,a,_,_,ns,rfl,F1,N1,nl,(show 1<=room-1 by omega),by omega,dd,ddn,fun v1 t1 H3 F3 S3 T1 o1 z1 p1=>?_⟩;refine⟨(by show 2<=sizeLine;decide),fun p hp=>?_⟩;have G5:=zC0 hp (.tup [.str "not",v1]);refine q (.ref p) (.not t1) _ (F3.same G5) (S1.trans (S3.trans (zJ0 G5))) (.not aD (T1.mono (aY G5))) o1 ?_ ?_
  . show((t1.size+1:Nat):Int)<=room;omega
  . show((t1.depth+1:Nat):Int)<=deep;omega
 refine⟨_,rfl,rfl,_,rfl,?_⟩
 by_cases c5:V.int fm=V.int 8
 . exact aU c5 hN
 refine au c5 ?_;refine⟨_,rfl,_,rfl,_,_,rfl,rfl,f,_,rfl,F1,(show(0:Int)<room-2 by omega),(show room-2<2 ^ 63 by omega),fun e H2 e0 e1 F2 S2=>?_⟩;refine⟨_,_,rfl,rfl,?_⟩;have N2:=N1.feed F1 S2;refine⟨_,rfl,_,rfl,_,rfl,_,rfl,_,_,rfl,rfl,f,a,_,_,ns,rfl,F2,N2,nl,by omega,by omega,dd,ddn,fun v1 t1 H3 F3 S3 T1 o1 z1 p1=>?_⟩;have N3:=N2.feed F2 S3;refine⟨(by show 4<=sizeLine;decide),fun l hl=>?_⟩;obtain⟨wd,hw,wm⟩:=lV (l:=joinW.map V.str) (i:=fm % 4) (by omega) (by
  have:(joinW.map V.str).length=4:=by rfl
  omega)
 obtain⟨x,hx,rfl⟩:=List.mem_map.mp wm;refine⟨_,rfl,_,_,rfl,rfl,(by show(0:Int)<_;decide),l,_,_,_,rfl,rfl,zE0 aD,hw,?_⟩;have G:=zC0 hl (.lst [.str "and",.str "or",.str "odd",.str "same"]);refine⟨_,rfl,_,rfl,_,rfl,_,rfl,_,rfl,_,_,rfl,rfl,_,rfl,_,_,rfl,rfl,_,rfl,_,_,rfl,rfl,f,a,_,_,ns,rfl,F3.same G,N3.same G,nl,(show 1<=room-1-(1+e) by omega),by omega,dd,ddn,fun v2 t2 H4 F4 S4 T2 o2 z2 p2=>?_⟩;refine⟨(by show 3<=sizeLine;decide),fun p hp=>?_⟩;have G5:=zC0 hp (.tup [.str x,v1,v2]);have T1':TreeAt H4 v1 t1:=(T1.mono (aY G)).mono (aQ (F3.same G) S4);refine q (.ref p) (.bin x t1 t2) _ (F4.same G5) (S1.trans (S2.trans (S3.trans ((zJ0 G).trans (S4.trans (zJ0 G5)))))) (.bin aD (T1'.mono (aY G5)) (T2.mono (aY G5))) ⟨hx,o1,o2⟩ ?_ ?_
 . show((t1.size+t2.size+1:Nat):Int)<=room;omega
 . show((max t1.depth t2.depth+1:Nat):Int)<=deep;omega
theorem vS {f:Addr} {fd:FuncData}:FnOk P w K mg base CX0 2 f fd ["_law_feed_here","_law_names_here","_law_room","_law_deep"] (kU 0):=by
 have no:∀vs H Q E,¬ kU 0 vs H Q E:=fun vs H Q E h=>by
  obtain⟨f,a,room,deep,ns,_,_,_,_,_,_,h1,h2,_⟩:=h;omega
 exact⟨fun vs H Q E h=>absurd h (no vs H Q E),fun A outer s H args us vs Q E _ _ _ _ h=>absurd h (no vs H Q E)⟩
theorem ph {f:Addr} {fd:FuncData} (F:Fun K "_law_tree" "_law_tree" gF f fd) (hlen:mg "len"=none) (m:mg "_law_tree"=some (.ref f)) (ba:Cal P w K mg base 1 "_law_take" ["_law_feed_here","_law_many"] gD) :
 ∀n:Nat,FnOk P w K mg base CX0 (n+2) f fd ["_law_feed_here","_law_names_here","_law_room","_law_deep"] (kU n)
 | 0=>vS
 | n+1=>vT F hlen ba (Cal.of F (ph F hlen m ba n) m (fun _ _ _ _ _ _ us hl=>by obtain⟨u0,u1,u2,u3,rfl⟩:=nK hl;rfl))
def Dv:Stmt->List Stmt
 | .If _ b _ _=>b
 | _=>[]
def Du:Stmt->Expr
 | .If c _ _ _=>c
 | _=>.Constant .none 0 ⟨0,0,0,0⟩
def xG:Stmt->Expr
 | .Assign _ v _=>v
 | .Return (some v) _=>v
 | _=>.Constant .none 0 ⟨0,0,0,0⟩
def uJ:Expr->List Expr
 | .List es _=>es
 | .BinOp _ _ (.List es _) _=>es
 | .Subscript (.List es _) _ _=>es
 | _=>[]
abbrev stm(s:Stmt)(i:Nat):Stmt:=(ay s).getD i (.Pass ⟨0,0,0,0⟩)
abbrev Au(s:Stmt)(i j:Nat):Stmt:=(Dv (stm s i)).getD j (.Pass ⟨0,0,0,0⟩)
def wordsA:List Str:=["is","set","say","if","go","end","num","box","op","field","holds","claims"]
def wordsB:List Str:=["nota","nob","yesx","andy","ors","oddly"]
def wordsC:List Str:=["samey","rounds","dues","coins","truex","asks"]
@[irreducible] def uu:List Expr:=uJ (xG (Au bi 6 0))
@[irreducible] def ut:List Expr:=uJ (xG (Au bi 6 1))
@[irreducible] def uq:List Expr:=uJ (xG (Au bi 6 2))
theorem zv:Consts uu wordsA:=by
 unfold uu;exact .cons (.cons (.cons (.cons (.cons (.cons (.cons (.cons (.cons (.cons (.cons (.cons .nil)))))))))))
theorem zu:Consts ut wordsB:=by
 unfold ut;exact .cons (.cons (.cons (.cons (.cons (.cons .nil)))))
theorem zt:Consts uq wordsC:=by
 unfold uq;exact .cons (.cons (.cons (.cons (.cons (.cons .nil)))))
theorem uo:∃p1 p2 p3 p4 p5 p6 p7 p8 p9 q1 q2 q3 q4 q5,ay bi=[stm bi 0,stm bi 1,stm bi 2,stm bi 3,stm bi 4,stm bi 5,
 .If (Du (stm bi 6)) [.Assign [.Name "_law_words" p1] (.List uu p2) p3,.Assign [.Name "_law_words" p4] (.BinOp (.Name "_law_words" p5) .Add (.List ut p6) p7) p8,.Assign [.Name "_law_words" p9] (.BinOp (.Name "_law_words" q1) .Add (.List uq q2) q3) q4,Au bi 6 3] [] q5,stm bi 7]:=
 ⟨_,_,_,_,_,_,_,_,_,_,_,_,_,_,by with_unfolding_all rfl⟩
def LTR:Str:="bcdfghjklmnpqrstvwxz"
theorem Dm:∀c∈LTR.cps.toList,c≠97:=by decide +kernel
theorem uA:∀c∈LTR.cps.toList,97<=c/\c<=122:=by decide +kernel
theorem xz:∀x∈(wordsA++wordsB)++wordsC,x.length<=20/\(∀c∈x.cps.toList,97<=c/\c<=122)/\x≠"aa":=by decide +kernel
def mJ:Sp:=fun vs H Q _=>∃(f:Addr)(m:Int),vs=[.ref f,.int m]/\FeedAt H f/\0<=m/\m<=6/\∀(l:Addr)(ns:List Str)(H':Hp),H l=none->l≠f->H' l=some (.lst (ns.map V.str))->ns.length=m.toNat->(∀x∈ns,uP x)->ns.Nodup->FeedAt H' f->SameBut f H H'->Q (.ref l) H'
theorem vL:∀x∈(wordsA++wordsB)++wordsC,∃c∈x.cps.toList,c∉LTR.cps.toList:=by decide +kernel
theorem Bd:∀a b:Fin 20,LTR.cps.toList[a.val]?=LTR.cps.toList[b.val]?->a=b:=by decide +kernel
theorem zq{ns:List Str}{t:Nat}{u:Int}(u0:0<=u)(u20:u<20)(hl:ns.length<=6)(h:∀(k:Nat) x,ns[k]?=some x->x.cps.toList[t]?=LTR.cps.toList[((u+7*(k:Int)) % 20).toNat]?):ns.Nodup:=by
 refine List.pairwise_iff_getElem.mpr fun i j hi hj ij e=>?_
 have h1:=h i _ (zQ0 hi);have h2:=h j _ (zQ0 hj);rw[e]at h1;have h3:=h1.symm.trans h2;have h4:=Bd ⟨((u+7*(i:Int)) % 20).toNat,by omega⟩ ⟨((u+7*(j:Int)) % 20).toNat,by omega⟩ h3;have h5:=congrArg Fin.val h4;simp only at h5;omega
theorem De{ns:List Str}{x:Str}{j:Nat}(h:ns.Nodup)(hx:x∉ns):(ns.set j x).Nodup:=by
 refine List.pairwise_iff_getElem.mpr fun a b ha hb ab=>?_
 rw[List.length_set]at ha hb;rw[List.getElem_set,List.getElem_set]
 split
 . split
   . omega
   . intro e;exact hx (e▸qT0 hb)
 . split
   . intro e;exact hx (e▸qT0 ha)
   . exact List.pairwise_iff_getElem.mp h a b ha hb ab
theorem DJ{α:Type}{l:List α}{i:Int}{v:α}(h0:0<=i)(h:atI l i=some v):l[i.toNat]?=some v:=by
 have ek:((i.toNat:Nat):Int)=i:=by omega
 by_cases c:i.toNat<l.length
 . have q:atI l ((i.toNat:Nat):Int)=some l[i.toNat]:=cg (zQ0 c);rw[ek,h]at q;rw[zQ0 c];exact q.symm
 . exfalso
   unfold atI ixN at h;rw[zF0 h0,zD0 (by omega)]at h;cases h
theorem xS{zs:List Str}(h:∀z∈zs,z.length=1/\∀c∈z.cps.toList,c∈LTR.cps.toList):(zs.map (·.length)).sum=zs.length:=by
 induction zs with
 | nil=>rfl
 | cons a r ih=>
   rw[qA0,List.sum_cons,ih fun z hz=>h z (qL0 _ hz),(h a qG0).1,qH0];omega
theorem bN:FnScope ["_law_feed_here","_law_many","_law_letters","_law_common","_law_at","_law_first","_law_found","_law_k","_law_tail","_law_sign","_law_words"] ["_law_feed_here","_law_many"] (ae bi):=⟨rfl,rfl,rfl,by decide +kernel,rfl,by decide +kernel,by decide +kernel⟩
theorem oh{H:Hp}{f p:Addr}{o:HO}(F:FeedAt H f)(h:p≠f):FeedAt (upd H p o) f:=by
 obtain⟨x,t,e,r⟩:=F;exact⟨x,t,by rw[ao (Ne.symm h)];exact e,r⟩
theorem ua {f:Addr} {fd:FuncData} (F:Fun K "_law_names" "_law_names" bi f fd) (hrange:mg "range"=none) (ba:Cal P w K mg base 1 "_law_take" ["_law_feed_here","_law_many"] gD):FnOk P w K mg base CX0 2 f fd ["_law_feed_here","_law_many"] mJ:=by
 refine F.ok bN (fun vs H Q E h=>?_) (fun cdv A outer s H vs Q E hr h=>?_)
 . obtain⟨f,m,rfl,_⟩:=h;rfl
 obtain ⟨f,m,rfl,hF,m0,m6,q⟩:=h;obtain⟨p1,p2,p3,p4,p5,p6,p7,p8,p9,q1,q2,q3,q4,q5,ebody⟩:=uo;rw[ebody];refine⟨_,(ac (am (i:=2) bN.nd rfl (Or.inr rfl) ax)
  (ac (am (i:=3) bN.nd rfl (Or.inl rfl) (dW PySem.F.plainAttrs_str PySem.F.slot_str_join PySem.F.type_str_join Ba ax (af (cq (N:=["_law_letters","_law_feed_here"]) (ix:=[2,0]) rfl
   (CompScope.two (by with_unfolding_all rfl) (by decide) rfl (by decide) rfl (by decide +kernel) (by first | exact Or.inl rfl | exact Or.inr rfl) (by with_unfolding_all rfl) (by with_unfolding_all rfl) (by with_unfolding_all rfl) (by with_unfolding_all rfl) rfl rfl (by with_unfolding_all rfl) rfl rfl) rfl
   (bt rfl hrange (af aa aH))
   (fun _ _ _=>cU (aq uE (pv 1) (ai ba hr (by decide) rfl (af (pv 2) (af aa aH))) (fun _ _=>rfl)))) aH)))
  (ac (am (i:=4) bN.nd rfl (Or.inl rfl) (ai ba hr (by decide) rfl (af (pv 0) (af aa aH))))
  (ac (am (i:=5) bN.nd rfl (Or.inl rfl) (ai ba hr (by decide) rfl (af (pv 0) (af aa aH))))
  (ac (am (i:=6) bN.nd rfl (Or.inl rfl) (bL aH))
  (ac (bY PassesOwn.never rfl (bt rfl hrange (af (pv 1) aH)) (bd (i:=7) bN.nd rfl (Or.inl rfl)) (ac (am (i:=8) bN.nd rfl (Or.inl rfl) (ag aN (ai ba hr (by decide) rfl (af (pv 0) (af (ag aV aa (pv 4)) aH))) aa))
   (ac (am (i:=9) bN.nd rfl (Or.inl rfl) (aq uE (pv 2) (ag aN (ag aW (pv 5) (ag bg aa (pv 7))) aa) (fun _ _=>rfl)))
   (ad (bE (dW PySem.F.plainAttrs_list PySem.F.slot_list_append PySem.F.type_list_append bu (pv 6) (af (ag jU (ag jU (iu yo (pv 3) kx (iI (pv 4))) (pv 9)) (iu yo (pv 3) (iI (pv 4)) (iI (ag aW (pv 4) (pv 8))))) aH)))))))
  (ac (aJ (PW.pt (lh (ah iz (pv 1) aa (aj _)) (kq (ah aM (ai ba hr (by decide) rfl (af (pv 0) (af aa aH))) aa (aj _))))) (ac (am (i:=10) bN.nd rfl (Or.inl rfl) (bL (jI zv)))
   (ac (am (i:=10) bN.nd rfl (Or.inl rfl) (ag fX (pv 10) (bL (jI zu))))
   (ac (am (i:=10) bN.nd rfl (Or.inl rfl) (ag fX (pv 10) (bL (jI zt))))
   (ad (lj (aq ix_list (pv 10) (ai ba hr (by decide) rfl (af (pv 0) (af aa aH))) (fun _ _=>rfl)) (qj (pv 6) (ai ba hr (by decide) rfl (af (pv 0) (af (pv 1) aH))) kg)))))) az)
  (ad (av (pv 6)))))))))),?_⟩
 refine⟨rfl,5,rfl,by decide,by decide,fun D hD=>?_⟩;have Df:=hF.ne hD;have L20:LTR.cps.toList.length=20:=by decide +kernel
 refine cN (fun i H'=>∃zs:List Str,H' D=some (.lst (zs.map V.str))/\zs.length=i/\(∀z∈zs,z.length=1/\∀c∈z.cps.toList,c∈LTR.cps.toList)/\FeedAt H' f/\SameBut f H H') ⟨[],by rw[aD];rfl,rfl,by simp,hF.same (zC0 hD _),zJ0 (zC0 hD _)⟩ ?_ ?_
 . rintro i H3 hi ⟨zs,hl,zl,z1,F3,S3⟩;have i5:i<5:=hi;refine⟨_,rfl,_,rfl,f,20,rfl,F3,by decide,by decide,fun d H4 d0 d26 F4 S4=>?_⟩;obtain⟨c,hc,hm⟩:=lV (l:=LTR.cps.toList) (i:=d) d0 (by rw[L20];exact d26);have hD4:H4 D=some (.lst (zs.map V.str)):=S4 D _ Df hl;refine⟨_,d,c,rfl,rfl,cp (by decide +kernel),hc,_,hD4,?_,Nx.of hi ⟨zs++[⟨#[c]⟩],?_,?_,?_,oh F4 Df,?_⟩⟩
   . rw[zH0,zl];exact aS (Nat.le_of_lt (Nat.lt_trans i5 (by decide)))
   . rw[aD,zK0];rfl
   . rw[zL0,qQ0,zl]
   . intro z hz;rcases zT0 hz with h | h
     . exact z1 z h
     . rw [zM0 h];refine⟨rfl,fun c' hc'=>?_⟩
       have:c'=c:=by simpa using hc'
       subst this;exact hm
   . intro b o hb e;rw[ao (aO e hD)];exact S4 b o hb (S3 b o hb e)
 rintro H3 ⟨zs,hl,zl,z1,F3,S3⟩;have sl:=xS z1;have zl5:zs.length=5:=zl;refine⟨_,D,zs,rfl,rfl,zE0 hl,(by decide +kernel),by omega,?_⟩;have jl:(Txt.join "" zs).length=5:=by
  have:=size_glued "" zs
  have e0:(("":Str)).length=0:=by decide +kernel
  rw[e0,Nat.mul_zero]at this;show(Builtin.Str.glued "" zs).length=5;omega
 have jc:∀c∈(Txt.join "" zs).cps.toList,c∈LTR.cps.toList:=fun c hc=>by
  obtain⟨z,hz,h⟩:=wP hc;exact(z1 z hz).2 c h
 generalize Txt.join "" zs=cm at jl jc;refine⟨_,rfl,f,6,rfl,F3,by decide,by decide,fun t H4 t0 t6 F4 S4=>?_⟩;refine⟨_,rfl,f,20,rfl,F4,by decide,by decide,fun u H5 u0 u20 F5 S5=>?_⟩;refine⟨(by show 0<=sizeLine;decide),fun L hL=>?_⟩;have S05:SameBut f H H5:=S3.trans (S4.trans S5);have Lf:=F5.ne hL;have L0:H L=none:=by
  cases e:H L with
  | none=>rfl
  | some o=>rw[S05 L o Lf e]at hL;cases hL
 refine ⟨_,rfl,m,rfl,by omega,by omega,cS (fun i σ H'=>∃(x7 x8 x9:Option V)(ns:List Str),σ=[some (.ref f),some (.int m),some (.str LTR),some (.str cm),some (.int t),some (.int u),some (.ref L),x7,x8,x9,none]/\H' L=some (.lst (ns.map V.str))/\ns.length=i/\(∀x∈ns,uP x)/\(∀x∈ns,∀c∈x.cps.toList,c∈LTR.cps.toList)/\(∀(k:Nat) x,ns[k]?=some x->x.cps.toList[t.toNat]?=LTR.cps.toList[((u+7*(k:Int)) % 20).toNat]?)/\FeedAt H' f/\SameBut f H H')
  ⟨_,_,_,[],rfl,by rw[aD];rfl,rfl,by simp,by simp,by simp,F5.same (zC0 hL _),S05.trans (zJ0 (zC0 hL _))⟩ ?_ ?_⟩
 . rintro i σ H6 hi ⟨x7,x8,x9,ns,rfl,hns,nl,nok,nlt,nat,F6,S6⟩;refine⟨_,rfl,_,rfl,_,_,rfl,rfl,f,_,rfl,F6,(Int.sub_pos_of_lt t6),(Int.lt_of_le_of_lt (Int.sub_le_self 6 t0) (by decide)),fun d H7 d0 d1 F7 S7=>?_⟩;refine⟨_,_,rfl,rfl,(by show(0:Int)<_;decide),?_⟩;obtain⟨c,hc,hm⟩:=lV (l:=LTR.cps.toList) (i:=(u+7*(0+(i:Int))) % 20) (zU0 _ (by decide)) (by rw[L20];exact zX0 _ (by decide));refine⟨_,rfl,_,rfl,_,rfl,_,_,rfl,rfl,?_,_,_,rfl,rfl,_,_,rfl,rfl,(by show(0:Int)<_;decide),_,_,c,rfl,rfl,cp (by decide +kernel),hc,?_⟩
   . exact .inl ⟨by decide,by decide⟩
   have hL7:=S7 L _ Lf hns;have z1:(Txt.slice cm none (some t)).length<=cm.length:=Txt.slice_le cm none (some t);have z2:(Txt.slice cm (some t) (some (t+d % 3))).length<=cm.length:=Txt.slice_le cm _ _;have z3:((⟨#[c]⟩:Str)).length=1:=rfl;refine⟨_,rfl,.inl ⟨rfl,_,zE0 hL7⟩,?_⟩;refine⟨_,rfl,_,rfl,_,rfl,_,rfl,cp (by rw[jl];decide),_,rfl,_,_,rfl,rfl,cp (by rw[z3];omega),?_⟩;refine⟨_,rfl,_,rfl,_,rfl,_,rfl,_,rfl,_,_,rfl,rfl,_,rfl,_,rfl,cp (by rw[jl];decide),_,_,rfl,rfl,cp (by rw[Str.length_append,z3];omega),?_⟩;refine⟨L,_,_,rfl,rfl,hL7,?_,?_⟩
   . rw[zH0];exact aS (by omega)
   refine⟨_,_,_,ns++[(Txt.slice cm none (some t)++⟨#[c]⟩)++Txt.slice cm (some t) (some (t+d % 3))],rfl,?_,?_,?_,?_,?_,oh F7 Lf,?_⟩
   . rw[aD,zK0];rfl
   . rw[zL0,qQ0,nl]
   . intro x hx;rcases zT0 hx with h | h
     . exact nok x h
     . rw [zM0 h];refine⟨?_,fun c' hc'=>?_,fun ea=>?_⟩
       . rw[Str.length_append,Str.length_append,z3];omega
       rotate_left
       . have cm1:c∈(((Txt.slice cm none (some t)++⟨#[c]⟩)++Txt.slice cm (some t) (some (t+d % 3)):Str)).cps.toList:=by
          rw[Str.cps_append,Str.cps_append]
          simp
         rw[ea]at cm1;exact Dm c hm ((by decide +kernel:∀c∈(("aa":Str)).cps.toList,c=97) c cm1)
       . rcases mem_append hc' with h | h
         . rcases mem_append h with h | h
           . exact uA _ (jc _ (jK h))
           . have:c'=c:=by simpa using h
             subst this;exact uA _ hm
         . exact uA _ (jc _ (jK h))
   . intro x hx c' hc';rcases zT0 hx with h | h
     . exact nlt x h c' hc'
     . rw [zM0 h]at hc';rcases mem_append hc' with h | h
       . rcases mem_append h with h | h
         . exact jc _ (jK h)
         . have:c'=c:=by simpa using h
           subst this;exact hm
       . exact jc _ (jK h)
   . intro k x hx
     by_cases ck:k<ns.length
     . rw[List.getElem?_append_left ck]at hx;exact nat k x hx
     . have kl:k<(ns++[(Txt.slice cm none (some t)++⟨#[c]⟩)++Txt.slice cm (some t) (some (t+d % 3))]).length:=(zW0 hx).1;rw[zL0,qQ0]at kl;have ek:k=i:=by omega
       subst ek;rw[List.getElem?_append_right (by omega),nl,Nat.sub_self]at hx;have ex:(Txt.slice cm none (some t)++⟨#[c]⟩)++Txt.slice cm (some t) (some (t+d % 3))=x:=zR0 hx;rw[←ex];have cl:cm.cps.toList.length=5:=jl;have es:Txt.slice cm none (some t)=⟨((cm.cps.toList.drop 0).take (t-0).toNat).toArray⟩:=StrLaws.sliceText_to ⟨t0,by omega⟩;have el:(Txt.slice cm none (some t)).cps.toList.length=t.toNat:=by
        rw[es];simp only[List.drop_zero,Int.sub_zero,qM0];omega
       have ea:((Txt.slice cm none (some t)++⟨#[c]⟩)++Txt.slice cm (some t) (some (t+d % 3))).cps.toList=(Txt.slice cm none (some t)).cps.toList++([c]++(Txt.slice cm (some t) (some (t+d % 3))).cps.toList):=by
        rw[Str.cps_append,Str.cps_append]
        simp
       rw[ea,List.getElem?_append_right (by omega),el,Nat.sub_self];have hc2:LTR.cps.toList[((u+7*(0+(k:Int))) % 20).toNat]?=some c:=DJ (zU0 _ (by decide)) hc;rw[Int.zero_add]at hc2;rw[hc2];rfl
   . intro b o hb e;rw[ao (aO e L0)];exact S7 b o hb (S6 b o hb e)
 . rintro σ H6 ⟨x7,x8,x9,ns,rfl,hns,nl,nok,nlt,nat,F6,S6⟩;have nnd:ns.Nodup:=zq u0 u20 (by omega) nat;refine⟨_,rfl,_,_,rfl,rfl,_,rfl,?_⟩;have fin:∀H':Hp,∀ns:List Str,H' L=some (.lst (ns.map V.str))->ns.length=m.toNat->(∀x∈ns,uP x)->ns.Nodup->FeedAt H' f->SameBut f H H'->Q (.ref L) H':=fun H' ns a b c nd d e=>q L ns H' L0 Lf a b c nd d e
   by_cases c1:(0:Int)<m
   . refine aU c1 ?_;refine⟨_,rfl,f,3,rfl,F6,by decide,by decide,fun d H7 d0 d1 F7 S7=>?_⟩;refine⟨rfl,_,rfl,?_⟩;have hL7:=S7 L _ Lf hns;refine iV (fun _=>?_) (fun _=>?_)
     . refine ⟨(by show 12<=sizeLine;decide),fun l1 h1=>?_⟩;refine⟨_,rfl,(by show 6<=sizeLine;decide),fun l2 h2=>?_⟩;refine⟨l1,l2,wordsA.map V.str,wordsB.map V.str,rfl,rfl,zC0 h2 _ _ _ aD,aD,(by show 18<=sizeLine;decide),fun l3 h3=>?_⟩;refine⟨_,rfl,(by show 6<=sizeLine;decide),fun l4 h4=>?_⟩;refine⟨l3,l4,wordsA.map V.str++wordsB.map V.str,wordsC.map V.str,rfl,rfl,zC0 h4 _ _ _ aD,aD,(by show 24<=sizeLine;decide),fun l5 h5=>?_⟩;have G:=(zC0 h1 (.lst (wordsA.map V.str))).trans ((zC0 h2 (.lst (wordsB.map V.str))).trans ((zC0 h3 (.lst (wordsA.map V.str++wordsB.map V.str))).trans ((zC0 h4 (.lst (wordsC.map V.str))).trans (zC0 h5 (.lst ((wordsA.map V.str++wordsB.map V.str)++wordsC.map V.str))))));have F8:=F7.same G;have n5:=(F7.same ((zC0 h1 (.lst (wordsA.map V.str))).trans ((zC0 h2 (.lst (wordsB.map V.str))).trans ((zC0 h3 (.lst (wordsA.map V.str++wordsB.map V.str))).trans (zC0 h4 (.lst (wordsC.map V.str))))))).ne h5;refine⟨_,rfl,_,rfl,f,24,rfl,F8,by decide,by decide,fun e H9 e0 e1 F9 S9=>?_⟩;obtain⟨v,hv,vm⟩:=lV (l:=(wordsA.map V.str++wordsB.map V.str)++wordsC.map V.str) (i:=e) e0 (by
        have:((wordsA.map V.str++wordsB.map V.str)++wordsC.map V.str).length=24:=by rfl
        omega)
       rw[←zK0,←zK0]at vm;obtain⟨x,hx,rfl⟩:=List.mem_map.mp vm;refine⟨l5,_,e,_,rfl,rfl,zE0 (S9 l5 _ n5 aD),hv,?_⟩;refine⟨_,rfl,_,rfl,_,rfl,f,m,rfl,F9,c1,by omega,fun j H10 j0 j1 F10 S10=>?_⟩;have hL10:=S10 L _ Lf (S9 L _ Lf (G L _ hL7));refine⟨L,_,j,j.toNat,rfl,rfl,hL10,?_,?_⟩
       . have jl:j<((ns.map V.str).length:Int):=by rw[zH0];omega
         unfold ixN;rw[zF0 j0,zF0 jl]
       refine⟨_,rfl,?_⟩;refine fin _ (ns.set j.toNat x) (by rw[aD,List.map_set]) (by rw[List.length_set];exact nl) ?_ ?_ (oh F10 Lf) ?_
       . intro y hy;rcases List.mem_or_eq_of_mem_set hy with h | h
         . exact nok y h
         . rw[h];exact xz x hx
       . refine De nnd fun hm=>?_
         obtain⟨c,c1,c2⟩:=vL x hx;exact c2 (nlt x hm c c1)
       . intro b o hb e';rw[ao (aO e' L0)];exact S10 b o hb (S9 b o hb (G b o (S7 b o hb (S6 b o hb e'))))
     . refine⟨_,rfl,?_⟩;exact fin H7 ns hL7 nl nok nnd F7 (S6.trans S7)
   . refine au c1 ?_;refine dD ?_;refine⟨_,rfl,?_⟩;exact fin H6 ns hns nl nok nnd F6 S6
theorem fk{x:Str}:∀{ns:List Str},x∈ns->∃j,cO x ns=some j/\j<ns.length
 | [],h=>by cases h
 | a::r,h=>by
   unfold cO
   by_cases c:a=x
   . exact⟨0,by rw[zF0 c],by simp⟩
   . rw [zD0 c];rcases qC0 h with e | e
     . exact absurd e.symm c
     . obtain⟨j,h1,h2⟩:=fk e;exact⟨j+1,by rw[h1];rfl,by simpa using h2⟩
theorem gU{a b:Str}(h:V.str a=V.str b):a=b:=by injection h
def dh (p:Int) (o:Str) (x y:Int):Int:=if o="and" then x*y % p else if o="or" then(x+y-x*y) % p else if o="odd" then(x+y-2*(x*y)) % p else(1-(x+y-2*(x*y))) % p
def Tr.worth(ns:List Str)(pt:List Int)(p:Int):Tr->Int
 | .is x=>match cO x ns with | some j=>pt.getD j 0 | none=>0
 | .yes=>1
 | .no=>0
 | .not a=>(1-a.worth ns pt p) % p
 | .bin o a b=>dh p o (a.worth ns pt p) (b.worth ns pt p)
def ft(pt:List Int)(p:Int):Prop:=∀x∈pt,0<=x/\x<p
theorem wX{p:Int}(hp:0<p)(o:Str)(x y:Int):0<=dh p o x y/\dh p o x y<p:=by
 have key:∀z:Int,0<=z % p/\z % p<p:=fun z=>⟨zU0 _ (by omega),zX0 _ hp⟩
 unfold dh
 repeat' split
 all_goals exact key _
theorem nZ{l:List Int}{j:Nat}(h:j<l.length):l.getD j 0=l[j]:=by
 rw[qS0,zQ0 h];rfl
theorem worth_rng{ns:List Str}{pt:List Int}{p:Int}(hp:1<p)(h:ft pt p)(hl:pt.length=ns.length):∀t:Tr,t.ok ns->0<=t.worth ns pt p/\t.worth ns pt p<p
 | .is x,ok=>by
   obtain⟨j,hj,jl⟩:=fk ok;show 0<=(match cO x ns with | some j=>pt.getD j 0 | none=>0)/\(match cO x ns with | some j=>pt.getD j 0 | none=>0)<p;rw[hj];show 0<=pt.getD j 0/\pt.getD j 0<p;rw[nZ (by omega)];exact h _ (qT0 _)
 | .yes,_=>⟨by show(0:Int)<=1;decide,hp⟩
 | .no,_=>⟨Int.le_refl 0,by show(0:Int)<p;omega⟩
 | .not a,_=>⟨zU0 _ (by omega),zX0 _ (by omega)⟩
 | .bin o a b,_=>wX (by omega) _ _ _
def Cv:Sp:=fun vs H Q _=>∃(o:Str)(x y p:Int),vs=[.str o,.int x,.int y,.int p]/\0<=x/\x<p/\p<2 ^ 40/\Q (.int (dh p o x y)) H
theorem fL:FnScope ["word","first","second","p","both","odd"] ["word","first","second","p"] (ae cz):=⟨rfl,rfl,rfl,by decide +kernel,rfl,by decide +kernel,by decide +kernel⟩
theorem me {f:Addr} {fd:FuncData} (F:Fun K "joined_worth" "joined_worth" cz f fd):FnOk P w K mg base CX0 1 f fd ["word","first","second","p"] Cv:=by
 refine F.ok fL (fun vs H Q E h=>?_) (fun cdv A outer s H vs Q E hr h=>?_)
 . obtain⟨o,x,y,p,rfl,_⟩:=h;rfl
 obtain ⟨o,x,y,p,rfl,x0,xp,pb,k⟩:=h;refine⟨_,(ac (am (i:=4) fL.nd rfl (Or.inl rfl) (ag bg (pv 1) (pv 2)))
  (ac (aJ (ah aM (pv 0) ax (aj _)) (ad (av (ag aN (pv 4) (pv 3)))) az)
  (ac (aJ (ah aM (pv 0) ax (aj _)) (ad (av (ag aN (ag aV (ag aW (pv 1) (pv 2)) (pv 4)) (pv 3)))) az)
  (ac (am (i:=5) fL.nd rfl (Or.inl rfl) (ag aV (ag aW (pv 1) (pv 2)) (ag bg aa (pv 4))))
  (ac (aJ (ah aM (pv 0) ax (aj _)) (ad (av (ag aN (pv 5) (pv 3)))) az)
  (ad (av (ag aN (ag aV aa (pv 5)) (pv 3))))))))),?_⟩
 refine⟨_,rfl,_,rfl,_,_,rfl,rfl,.inl ⟨by omega,by omega⟩,?_⟩;refine⟨_,rfl,rfl,_,rfl,?_⟩
 by_cases c1:V.str o=V.str "and"
 . refine aU c1 ?_;have e:dh p o x y=x*y % p:=by unfold dh;rw[zF0 (gU c1)]
   rw[e]at k;exact⟨_,rfl,_,rfl,_,_,rfl,rfl,(show(0:Int)<p by omega),k⟩
 refine au c1 ?_;have n1:¬ o="and":=fun z=>c1 (by rw[z])
 refine⟨_,rfl,rfl,_,rfl,?_⟩
 by_cases c2:V.str o=V.str "or"
 . refine aU c2 ?_;have e:dh p o x y=(x+y-x*y) % p:=by unfold dh;rw[zD0 n1,zF0 (gU c2)]
   rw[e]at k;exact⟨_,rfl,_,rfl,_,_,rfl,rfl,_,rfl,_,_,rfl,rfl,_,rfl,_,_,rfl,rfl,(show(0:Int)<p by omega),k⟩
 refine au c2 ?_;have n2:¬ o="or":=fun z=>c2 (by rw[z])
 refine⟨_,rfl,_,rfl,_,_,rfl,rfl,_,rfl,_,_,rfl,rfl,.inl ⟨by decide,by decide⟩,_,_,rfl,rfl,?_⟩;refine⟨_,rfl,rfl,_,rfl,?_⟩
 by_cases c3:V.str o=V.str "odd"
 . refine aU c3 ?_;have e:dh p o x y=(x+y-2*(x*y)) % p:=by unfold dh;rw[zD0 n1,zD0 n2,zF0 (gU c3)]
   rw[e]at k;exact⟨_,rfl,_,rfl,_,_,rfl,rfl,(show(0:Int)<p by omega),k⟩
 refine au c3 ?_;have n3:¬ o="odd":=fun z=>c3 (by rw[z])
 have e:dh p o x y=(1-(x+y-2*(x*y))) % p:=by unfold dh;rw[zD0 n1,zD0 n2,zD0 n3]
 rw[e]at k;exact⟨_,rfl,_,_,rfl,rfl,_,rfl,_,_,rfl,rfl,(show(0:Int)<p by omega),k⟩
def ju(n:Nat):Sp:=fun vs H Q _=>∃(v:V)(t:Tr)(a b:Addr)(ns:List Str)(pt:List Int)(p:Int),vs=[v,.ref a,.ref b,.int p]/\TreeAt H v t/\t.ok ns/\t.depth<=n/\NamesAt H a ns/\H b=some (.tup (pt.map V.int))/\pt.length=ns.length/\1<p/\p<2 ^ 40/\ft pt p/\Q (.int (t.worth ns pt p)) H
theorem i4:FnScope ["tree","switches","point","p","word","first"] ["tree","switches","point","p"] (ae dI):=⟨rfl,rfl,rfl,by decide +kernel,rfl,by decide +kernel,by decide +kernel⟩
theorem sW {n:Nat} {f:Addr} {fd:FuncData} (F:Fun K "worth_of" "worth_of" dI f fd) (ci:Cal P w K mg base 1 "joined_worth" ["word","first","second","p"] Cv) (eI:Cal P w K mg base (n+2) "worth_of" ["tree","switches","point","p"] (ju n)):FnOk P w K mg base CX0 (n+3) f fd ["tree","switches","point","p"] (ju (n+1)):=by
 refine F.ok i4 (fun vs H Q E h=>?_) (fun cdv A outer s H vs Q E hr h=>?_)
 . obtain⟨v,t,a,b,ns,pt,p,rfl,_⟩:=h;rfl
 obtain⟨v,t,a,b,ns,pt,p,rfl,T,ok,dn,hN,hb,sl,p1,p40,po,k⟩:=h;have p0:(0:Int)<p:=by omega
 refine ⟨_,(ac (am (i:=4) i4.nd rfl (Or.inl rfl) (aq aC (pv 0) aa (fun _ _=>rfl)))
  (ac (aJ (ah aM (pv 4) ax (aj _)) (ad (av (ag aN (aq aC (pv 2) (rJ PySem.F.plainAttrs_list PySem.F.plainAttrs_tuple (pv 1) (af (aq aC (pv 0) aa (fun _ _=>rfl)) aH)) (fun _ _=>rfl)) (pv 3)))) az)
  (ac (aJ (ah aM (pv 4) ax (aj _)) (ad (av aa)) az)
  (ac (aJ (ah aM (pv 4) ax (aj _)) (ad (av aa)) az)
  (ac (am (i:=5) i4.nd rfl (Or.inl rfl) (ai eI hr (zG0 _) rfl (af (aq aC (pv 0) aa (fun _ _=>rfl)) (af (pv 1) (af (pv 2) (af (pv 3) aH))))))
  (ac (aJ (ah aM (pv 4) ax (aj _)) (ad (av (ag aN (ag aV aa (pv 5)) (pv 3)))) az)
  (ad (av (ai ci hr (by omega) rfl (af (pv 4) (af (pv 5) (af (ai eI hr (zG0 _) rfl (af (aq aC (pv 0) aa (fun _ _=>rfl)) (af (pv 1) (af (pv 2) (af (pv 3) aH))))) (af (pv 3) aH))))))))))))),?_⟩
 cases T with
 | @is q x e=>
   refine⟨_,rfl,q,_,0,_,rfl,rfl,zB0 e,rfl,?_⟩;refine⟨_,rfl,rfl,_,rfl,?_⟩;refine aU rfl ?_;obtain⟨j,hj,jl⟩:=fk ok;have jl':j<pt.length:=by omega
   refine⟨_,rfl,_,rfl,a,ns,rfl,hN,_,rfl,q,_,1,_,rfl,rfl,zB0 e,rfl,rfl,x,j,rfl,hj,b,_,(j:Int),.int pt[j],rfl,rfl,zB0 hb,?_,_,rfl,_,_,rfl,rfl,p0,?_⟩
   . refine cg ?_;rw[qD0,zQ0 jl'];rfl
   . have e1:(Tr.is x).worth ns pt p=pt[j] % p:=by
      show(match cO x ns with | some j=>pt.getD j 0 | none=>0)=_;rw[hj];show pt.getD j 0=_;rw[nZ jl']
      have:=po _ (qT0 jl')
      rw[qN0 this.1 this.2]
     rw[e1]at k;exact k
 | @yes q e=>
   refine⟨_,rfl,q,_,0,_,rfl,rfl,zB0 e,rfl,?_⟩;refine⟨_,rfl,rfl,_,rfl,?_⟩;refine au (by decide +kernel) ?_;refine⟨_,rfl,rfl,_,rfl,?_⟩;exact aU rfl k
 | @no q e=>
   refine⟨_,rfl,q,_,0,_,rfl,rfl,zB0 e,rfl,?_⟩;refine⟨_,rfl,rfl,_,rfl,?_⟩;refine au (by decide +kernel) ?_;refine⟨_,rfl,rfl,_,rfl,?_⟩;refine au (by decide +kernel) ?_;refine⟨_,rfl,rfl,_,rfl,?_⟩;exact aU rfl k
 | @not q u r e T1=>
   have dp:r.depth+1<=n+1:=dn;refine⟨_,rfl,q,_,0,_,rfl,rfl,zB0 e,rfl,?_⟩;refine⟨_,rfl,rfl,_,rfl,?_⟩;refine au (by decide +kernel) ?_;refine⟨_,rfl,rfl,_,rfl,?_⟩;refine au (by decide +kernel) ?_;refine⟨_,rfl,rfl,_,rfl,?_⟩;refine au (by decide +kernel) ?_;refine⟨_,rfl,q,_,1,_,rfl,rfl,zB0 e,rfl,_,rfl,_,rfl,_,rfl,u,r,a,b,ns,pt,p,rfl,T1,ok,by omega,hN,hb,sl,p1,p40,po,?_⟩;refine⟨_,rfl,rfl,_,rfl,?_⟩;refine aU rfl ?_;exact⟨_,rfl,_,_,rfl,rfl,_,rfl,_,_,rfl,rfl,p0,k⟩
 | @bin q o u u2 r r2 e T1 T2=>
   obtain⟨ho,ok1,ok2⟩:=ok;have dp:max r.depth r2.depth+1<=n+1:=dn;have ne:∀z:Str,z∉joinW->¬ V.str o=V.str z:=fun z hz h=>hz (gU h▸ho)
   refine⟨_,rfl,q,_,0,_,rfl,rfl,zB0 e,rfl,?_⟩;refine⟨_,rfl,rfl,_,rfl,?_⟩;refine au (ne _ (by decide +kernel)) ?_;refine⟨_,rfl,rfl,_,rfl,?_⟩;refine au (ne _ (by decide +kernel)) ?_;refine⟨_,rfl,rfl,_,rfl,?_⟩;refine au (ne _ (by decide +kernel)) ?_;refine⟨_,rfl,q,_,1,_,rfl,rfl,zB0 e,rfl,_,rfl,_,rfl,_,rfl,u,r,a,b,ns,pt,p,rfl,T1,ok1,by omega,hN,hb,sl,p1,p40,po,?_⟩;refine⟨_,rfl,rfl,_,rfl,?_⟩;refine au (ne _ (by decide +kernel)) ?_;have wr:=worth_rng p1 po sl r ok1;refine⟨_,rfl,_,rfl,_,rfl,q,_,2,_,rfl,rfl,zB0 e,rfl,_,rfl,_,rfl,_,rfl,u2,r2,a,b,ns,pt,p,rfl,T2,ok2,by omega,hN,hb,sl,p1,p40,po,?_⟩;exact⟨_,rfl,o,_,_,p,rfl,wr.1,wr.2,p40,k⟩
theorem sV {f:Addr} {fd:FuncData}:FnOk P w K mg base CX0 2 f fd ["tree","switches","point","p"] (ju 0):=by
 have no:∀vs H Q E,¬ ju 0 vs H Q E:=fun vs H Q E h=>by
  obtain⟨v,t,_,_,_,_,_,_,_,_,h1,_⟩:=h
  have:=t.depth_pos
  omega
 exact⟨fun vs H Q E h=>absurd h (no vs H Q E),fun A outer s H args us vs Q E _ _ _ _ h=>absurd h (no vs H Q E)⟩
theorem lL {f:Addr} {fd:FuncData} (F:Fun K "worth_of" "worth_of" dI f fd) (m:mg "worth_of"=some (.ref f)) (ci:Cal P w K mg base 1 "joined_worth" ["word","first","second","p"] Cv) :
 ∀n:Nat,FnOk P w K mg base CX0 (n+2) f fd ["tree","switches","point","p"] (ju n)
 | 0=>sV
 | n+1=>sW F ci (Cal.of F (lL F m ci n) m (fun _ _ _ _ _ _ us hl=>by obtain⟨u0,u1,u2,u3,rfl⟩:=nK hl;rfl))
theorem gB{H:Hp}{b:Addr}{ys zs:List V}(h:H b=some (.lst ys)):∀a xs,H a=some (.tup xs)->(upd H b (.lst zs)) a=some (.tup xs):=fun a xs e=>by
 rw[ao]
 . exact e
 . intro z;rw[z,h]at e;cases e
theorem at0(x:V)(xs:List V):atI (x::xs) 0=some x:=cg (j:=0) rfl
theorem lQ{ts:List Tr}{i:Nat}{u:Tr}(h:ts[i]?=some u):gK (ts.take (i+1))=gK (ts.take i)++u.names:=by
 unfold gK;rw[qJ0,h,zK0,List.flatten_append]
 simp
theorem nE(ts:List Tr):(gK ts).length<=kc ts:=by
 induction ts with
 | nil=>simp [gK,kc]
 | cons a r ih=>
   have:=a.names_len
   simp only[gK,kc,qA0,List.flatten_cons,zL0,List.sum_cons]at ih ⊢;omega
theorem mO(ts:List Tr)(i:Nat):kc (ts.take i)<=kc ts:=by
 induction ts generalizing i with
 | nil=>simp
 | cons a r ih=>
   cases i with
   | zero=>simp [kc]
   | succ i=>
     have:=ih i
     simp only[kc,List.take_succ_cons,qA0,List.sum_cons]at this ⊢;omega
def vX(n:Nat):Sp:=fun vs H Q _=>∃(v:V)(t:Tr),vs=[v]/\TreeAt H v t/\t.wf/\t.depth<=n/\t.size<=400/\∀(l:Addr)(H':Hp),H l=none->Same H H'->H' l=some (.lst (t.names.map V.str))->Q (.ref l) H'
theorem eP:FnScope ["_law_tree_here","_law_found","_law_part"] ["_law_tree_here"] (ae cM):=⟨rfl,rfl,rfl,by decide +kernel,rfl,by decide +kernel,by decide +kernel⟩
theorem AY {n:Nat} {f:Addr} {fd:FuncData} (F:Fun K "_law_names_of" "_law_names_of" cM f fd) (eg:Cal P w K mg base (n+2) "_law_names_of" ["_law_tree_here"] (vX n)):FnOk P w K mg base CX0 (n+3) f fd ["_law_tree_here"] (vX (n+1)):=by
 refine F.ok eP (fun vs H Q E h=>?_) (fun cdv A outer s H vs Q E hr h=>?_)
 . obtain⟨v,t,rfl,_⟩:=h;rfl
 obtain ⟨v,t,rfl,T,wf,dn,sz,q⟩:=h;refine⟨_,(ac (aJ (ah aM (aq aC (pv 0) aa (fun _ _=>rfl)) ax (aj _)) (ad (av (bL (af (aq aC (pv 0) aa (fun _ _=>rfl)) aH)))) az)
  (ac (am (i:=1) eP.nd rfl (Or.inl rfl) (bL aH))
  (ac (bY PassesOwn.never rfl (jm (iu tK (pv 0) (iI aa) kx)) (bd (i:=2) eP.nd rfl (Or.inl rfl)) (ad (am (i:=1) eP.nd rfl (Or.inl rfl) (ag fX (pv 1) (ai eg hr (zG0 _) rfl (af (pv 2) aH))))))
  (ad (av (pv 1)))))),?_⟩
 rcases T.view wf with⟨a,x,rfl,rfl,_,e⟩ | ⟨a,o,xs,rfl,no,xl0,e,TS0,nis⟩
 . refine⟨_,rfl,a,_,0,_,rfl,rfl,zB0 e,rfl,rfl,_,rfl,?_⟩;refine aU rfl ?_;refine⟨_,rfl,a,_,1,_,rfl,rfl,zB0 e,rfl,(by show 1<=sizeLine;decide),fun p hp=>?_⟩;exact q p _ hp (zC0 hp _) aD
 . refine ⟨_,rfl,a,_,0,.str o,rfl,rfl,zB0 e,at0 ..,rfl,_,rfl,?_⟩;refine au (fun z=>no (by injection z)) ?_;refine⟨(by show 0<=sizeLine;decide),fun L hL=>?_⟩;have G0:=zC0 hL (.lst []);obtain⟨c1,c2⟩:=cut1 (.str o) xs xl0;refine⟨_,rfl,1,rfl,a,_,rfl,zB0 (G0 _ _ e),c2,fun p hp=>?_⟩;rw[c1];have G1:=zC0 hp (.tup xs);have hp1:upd (upd H L (.lst [])) p (.tup xs) p=some (.tup xs):=aD;have hL1:upd (upd H L (.lst [])) p (.tup xs) L=some (.lst []):=G1 _ _ aD;have S1:Same H (upd (upd H L (.lst [])) p (.tup xs)):=G0.trans G1;generalize upd (upd H L (.lst [])) p (.tup xs)=H1 at hp1 hL1 S1;have TS:=TS0.mono (aY S1);have xl:=TS.length;have sp:=t.size_parts;refine⟨p,rfl,⟨_,zB0 hp1⟩,mv (K:=K) (xs:=xs) (fun i σ H'=>∃(M:Addr)(x2:Option V),σ=[some (.ref a),some (.ref M),x2]/\H M=none/\H' M=some (.lst ((gK (t.parts.take i)).map V.str))/\Same H1 H') ⟨L,_,rfl,hL,hL1,Same.refl _⟩ (fun i σ H' _ hst=>by obtain⟨_,_,_,_,_,h⟩:=hst;exact zB0 (h _ _ hp1)) ?_ ?_⟩
   . rintro i x σ H2 hx ⟨M,x2,rfl,M0,hM,S2⟩;obtain⟨u,hu,Tu⟩:=TS.get hx;have um:=qE0 hu;obtain⟨uw,ud,us⟩:=Tr.parts_mem um wf;refine⟨_,rfl,_,rfl,x,u,rfl,Tu.mono (aY S2),uw,by omega,by omega,fun l H3 l0 S3 hl3=>?_⟩;have nl:=u.names_len;have nl2:=nE (t.parts.take i);have nl3:=mO t.parts i;refine⟨M,l,_,_,rfl,rfl,S3 _ _ hM,hl3,?_,fun r hr0=>?_⟩
     . rw[zH0,zH0];exact cp (by omega)
     . have S4:=(S2.trans S3).trans (zC0 hr0 (.lst ((gK (t.parts.take i)).map V.str++u.names.map V.str)));refine⟨r,_,rfl,(S1.trans (S2.trans S3)).free hr0,?_,S4⟩;rw[aD,lQ hu,zK0]
   . rintro σ H2 ⟨M,x2,rfl,M0,hM,S2⟩;rw[xl,qI0,←t.names_parts nis]at hM;exact⟨_,rfl,q M H2 M0 (S1.trans S2) hM⟩
theorem AX {f:Addr} {fd:FuncData}:FnOk P w K mg base CX0 2 f fd ["_law_tree_here"] (vX 0):=by
 have no:∀vs H Q E,¬ vX 0 vs H Q E:=fun vs H Q E h=>by
  obtain⟨v,t,_,_,_,h1,_⟩:=h
  have:=t.depth_pos
  omega
 exact⟨fun vs H Q E h=>absurd h (no vs H Q E),fun A outer s H args us vs Q E _ _ _ _ h=>absurd h (no vs H Q E)⟩
theorem jQ {f:Addr} {fd:FuncData} (F:Fun K "_law_names_of" "_law_names_of" cM f fd) (m:mg "_law_names_of"=some (.ref f)) :
 ∀n:Nat,FnOk P w K mg base CX0 (n+2) f fd ["_law_tree_here"] (vX n)
 | 0=>AX
 | n+1=>AY F (Cal.of F (jQ F m n) m (fun _ _ _ _ _ _ us hl=>by obtain⟨u0,rfl⟩:=kF hl;rfl))
theorem oo(ns:List Str)(z:Str):((ns.map V.str).countP fun y=>eqV y (.str z))=ns.count z:=by
 rw[List.countP_map];rfl
def ya:Sp:=fun vs H Q _=>∃(a b:Addr)(ns:List Str)(tv:List V)(ts:List Tr),vs=[.ref a,.ref b]/\H a=some (.lst (ns.map V.str))/\H b=some (.lst tv)/\TreesAt H tv ts/\ts.length<=10/\(∀t∈ts,t.wf/\t.depth<=10/\t.size<=400)/\
 ∀(m:Int)(H':Hp),Same H H'->2<=m->m<=400->(ts.length:Int)<=m+1->(∀t∈ts,∀x∈ns,(t.names.count x:Int)<=m)->Q (.int m) H'
theorem fw:FnScope ["_law_names_here","_law_trees","_law_need_here","_law_tree_here","_law_found","_law_name"] ["_law_names_here","_law_trees"] (ae ig):=⟨rfl,rfl,rfl,by decide +kernel,rfl,by decide +kernel,by decide +kernel⟩
theorem wC {f:Addr} {fd:FuncData} (F:Fun K "_law_need" "_law_need" ig f fd) (hlen:mg "len"=none) (hmax:mg "max"=none) (eg:Cal P w K mg base 12 "_law_names_of" ["_law_tree_here"] (vX 10)):FnOk P w K mg base CX0 13 f fd ["_law_names_here","_law_trees"] ya:=by
 refine F.ok fw (fun vs H Q E h=>?_) (fun cdv A outer s H vs Q E hr h=>?_)
 . obtain⟨a,b,ns,tv,ts,rfl,_⟩:=h;rfl
 obtain ⟨a,b,ns,tv,ts,rfl,ha,hb,TS,tl,tok,q⟩:=h;refine⟨_,(ac (am (i:=2) fw.nd rfl (Or.inl rfl) (aE (pH rfl) rfl hmax PyProof.Rows.boot_max (af aa (af (ag aV (aE aB rfl hlen PySem.boot_len (af (pv 1) aH)) aa) aH))))
  (ac (bY PassesOwn.never rfl (dZ (pv 1)) (bd (i:=3) fw.nd rfl (Or.inl rfl)) (ac (am (i:=4) fw.nd rfl (Or.inl rfl) (ai eg hr (by decide) rfl (af (pv 3) aH)))
   (ad (bY PassesOwn.never rfl (dZ (pv 0)) (bd (i:=5) fw.nd rfl (Or.inl rfl)) (ad (am (i:=2) fw.nd rfl (Or.inl rfl) (aE (pH rfl) rfl hmax PyProof.Rows.boot_max (af (pv 2) (af (dW PySem.F.plainAttrs_list PySem.F.slot_list_count PySem.F.type_list_count sf (pv 4) (af (pv 5) aH)) aH)))))))))
  (ad (av (pv 2))))),?_⟩
 have vl:=TS.length;refine⟨_,rfl,b,_,rfl,.inl (zE0 hb),_,_,rfl,rfl,_,_,rfl,?_⟩;obtain⟨m,em,m2,m4,mt⟩:∃m:Int,(if((tv.length:Int)-1)>2 then((tv.length:Int)-1)else 2)=m/\2<=m/\m<=400/\(ts.length:Int)<=m+1:=⟨_,rfl,by split <;> omega,by split <;> omega,by split <;> omega⟩
 rw [em];refine⟨_,rfl,b,rfl,⟨_,zE0 hb⟩,jq (K:=K) (xs:=tv) (fun i σ H'=>∃(m:Int)(x3 x4 x5:Option V),σ=[some (.ref a),some (.ref b),some (.int m),x3,x4,x5]/\2<=m/\m<=400/\(ts.length:Int)<=m+1/\(∀t∈ts.take i,∀x∈ns,(t.names.count x:Int)<=m)/\Same H H')
  ⟨m,_,_,_,rfl,m2,m4,mt,by simp,Same.refl _⟩ (fun i σ H' _ hst=>by obtain⟨_,_,_,_,_,_,_,_,_,h⟩:=hst;exact zE0 (h _ _ hb)) ?_ ?_⟩
 . rintro i v σ H1 hv ⟨m,x3,x4,x5,rfl,m2,m4,mt,mc,S1⟩;obtain⟨t,ht,T⟩:=TS.get hv;have tm:=qE0 ht;obtain⟨tw,td,tz⟩:=tok t tm;refine⟨_,rfl,v,t,rfl,T.mono (aY S1),tw,by omega,tz,fun l H2 l0 S2 hl=>?_⟩;have S12:=S1.trans S2;have tn:=t.names_len;refine⟨_,rfl,a,rfl,⟨_,zE0 (S12 _ _ ha)⟩,jq (K:=K) (xs:=ns.map V.str) (fun j σ H'=>∃(m':Int)(x5:Option V),σ=[some (.ref a),some (.ref b),some (.int m'),some v,some (.ref l),x5]/\m<=m'/\m'<=400/\(∀x∈ns.take j,(t.names.count x:Int)<=m')/\H'=H2)
    ⟨m,_,rfl,Int.le_refl _,m4,by simp,rfl⟩ (fun j σ H' _ hst=>by obtain⟨_,_,_,_,_,_,h⟩:=hst;subst h;exact zE0 (S12 _ _ ha)) ?_ ?_⟩
   . rintro j y σ H3 hy ⟨m',y5,rfl,mm,m4',mc',rfl⟩;rw[qD0]at hy;obtain⟨x,hx,rfl⟩:=qW0 hy;refine⟨_,rfl,_,rfl,.inl ⟨rfl,_,zE0 hl⟩,_,rfl,l,_,_,rfl,rfl,zE0 hl,gC _,rfl,_,_,rfl,?_⟩;rw[oo];have cl:=List.count_le_length (a:=x) (l:=t.names);refine⟨_,_,rfl,by split <;> omega,by split <;> omega,fun z hz=>?_,rfl⟩;rw[qJ0,hx]at hz;rcases zT0 hz with h | h
     . have:=mc' z h
       split <;> omega
     . have e:z=x:=by simpa using h
       subst e
       split <;> omega
   . rintro σ H3 ⟨m',y5,rfl,mm,m4',mc',rfl⟩;rw[zH0,qI0]at mc';refine⟨m',_,_,_,rfl,by omega,m4',by omega,fun u hu x hx=>?_,S12⟩;rw[qJ0,ht]at hu;rcases zT0 hu with h | h
     . have:=mc u h x hx
       omega
     . have e:u=t:=by simpa using h
       subst e;exact mc' x hx
 . rintro σ H1 ⟨m,x3,x4,x5,rfl,m2,m4,mt,mc,S1⟩;rw[vl,qI0]at mc;exact⟨_,rfl,q m H1 S1 m2 m4 mt mc⟩
def mI:Sp:=fun vs H Q _=>∃n:Int,vs=[.int n]/\∀b:Bool,(b=true↔Pr n)->Q (.bl b) H
theorem mq:FnScope ["_law_number","_law_k"] ["_law_number"] (ae dr):=⟨rfl,rfl,rfl,by decide +kernel,rfl,by decide +kernel,by decide +kernel⟩
theorem oJ {f:Addr} {fd:FuncData} (F:Fun K "_law_is_prime" "_law_is_prime" dr f fd) (hrange:mg "range"=none):FnOk P w K mg base CX0 1 f fd ["_law_number"] mI:=by
 refine F.ok mq (fun vs H Q E h=>?_) (fun cdv A outer s H vs Q E hr h=>?_)
 . obtain⟨n,rfl,_⟩:=h;rfl
 obtain ⟨n,rfl,q⟩:=h;refine⟨_,(ac (aJ (ah df (pv 0) aa (aj _)) (ad (av jo)) az)
  (ac (bY PassesOwn.never rfl (pf rfl hrange (af aa (af aa aH))) (bd (i:=1) mq.nd rfl (Or.inl rfl)) (ac (aJ (ah iz (ag bg (pv 1) (pv 1)) (pv 0) (aj _)) (ad (av jo)) az)
   (ad (aJ (ah aM (ag aN (pv 0) (pv 1)) aa (aj _)) (ad (av jo)) az))))
  (ad (av jo)))),?_⟩
 refine⟨_,rfl,_,_,rfl,rfl,_,rfl,?_⟩;refine iV (fun c=>?_) (fun c=>?_)
 . have c':=of_decide_eq_true c;exact q false ⟨fun z=>(nomatch z),fun z=>by have:=z.1;omega⟩
 have c':¬ n<2:=of_decide_eq_false (Bool.eq_false_iff.mpr c);refine⟨2,1001,rfl,⟨by decide,by decide,by decide,by decide⟩,cS (fun i σ H'=>∃x,σ=[some (.int n),x]/\H'=H/\lD n (2+(i:Int))) ⟨_,rfl,rfl,by simpa using sY n⟩ ?_ ?_⟩
 . rintro i σ H' hi ⟨x,rfl,rfl,u⟩;have hi':i<999:=hi;refine⟨_,rfl,_,rfl,_,_,rfl,rfl,.inl ⟨by omega,by omega⟩,_,rfl,_,_,rfl,rfl,_,rfl,?_⟩;refine iV (fun c1=>?_) (fun c1=>?_)
   . have c2:=of_decide_eq_true c1;exact q true ⟨fun _=>CL (by omega) (by omega) u c2,fun _=>rfl⟩
   . have c2:=of_decide_eq_false (Bool.eq_false_iff.mpr c1);refine⟨_,rfl,_,rfl,_,_,rfl,rfl,(show(0:Int)<2+(i:Int) by omega),rfl,_,rfl,?_⟩;refine iV (fun c3=>?_) (fun c3=>?_)
     . have c4:=V.int.inj (of_decide_eq_true c3);exact q false ⟨fun z=>(nomatch z),fun z=>(CJ (by omega) (by omega) (by omega) c4 z).elim⟩
     . have c4:=of_decide_eq_false (Bool.eq_false_iff.mpr c3);refine⟨_,rfl,rfl,?_⟩;have e:(2:Int)+((i+1:Nat):Int)=2+(i:Int)+1:=by omega
       rw[e];exact vN u (by omega) (fun z=>c4 (congrArg V.int z))
 . rintro σ H' ⟨x,rfl,rfl,u⟩;exact q true ⟨fun _=>CN (by omega) u,fun _=>rfl⟩
def qY:Sp:=fun vs H Q _=>∃(f:Addr)(m:Int),vs=[.ref f,.int m]/\FeedAt H f/\2<=m/\m<=400/\∀(p:Int)(H':Hp),Pr p->m<p->p<=999983->FeedAt H' f->SameBut f H H'->Q (.int p) H'
theorem tS{f:Addr}{m fm:Int}{D:Ends}{H:Hp}(hD:∀p:Int,Pr p->m<p->p<=999983->D.nx [some (.ref f),some (.int m),some (.int fm),some (.int p)] H)(n:Int)(h1:m<n)(h2:n<=999983) :
 xL (tNot (tB (xQ mI [] E0 (jY (qQ 3) tE)))) (xR (tOp (rI0 fun i j=>V.int (i+j)) (qQ 3) (tC (V.int 1))) (sD 3)) D [some (.ref f),some (.int m),some (.int fm),some (.int n)] H:=by
 refine⟨fun mm σ H'=>∃n:Int,σ=[some (.ref f),some (.int m),some (.int fm),some (.int n)]/\H'=H/\m<n/\n<=999983/\mm=(999983-n).toNat,⟨_,_,rfl,rfl,h1,h2,rfl⟩,?_⟩;rintro mm σ H' ⟨n,rfl,rfl,n0,n1,rfl⟩;refine⟨_,rfl,n,rfl,fun b hb=>⟨b,rfl,?_⟩⟩;cases b with
 | true=>exact dD (hD n (hb.mp rfl) n0 n1)
 | false=>
   refine fq ?_;refine⟨_,fun _ _ h=>h,?_⟩;have ne:n≠999983:=fun z=>by
    subst z;exact nomatch hb.mpr wv
   refine⟨_,rfl,_,_,rfl,rfl,?_⟩;exact⟨_,by omega,n+1,rfl,rfl,by omega,by omega,rfl⟩
theorem eJ:FnScope ["_law_feed_here","_law_need_here","_law_form","_law_number"] ["_law_feed_here","_law_need_here"] (ae gu):=⟨rfl,rfl,rfl,by decide +kernel,rfl,by decide +kernel,by decide +kernel⟩
theorem uc {f:Addr} {fd:FuncData} (F:Fun K "_law_field" "_law_field" gu f fd) (ba:Cal P w K mg base 1 "_law_take" ["_law_feed_here","_law_many"] gD) (iF:Cal P w K mg base 1 "_law_is_prime" ["_law_number"] mI):FnOk P w K mg base CX0 2 f fd ["_law_feed_here","_law_need_here"] qY:=by
 refine F.ok eJ (fun vs H Q E h=>?_) (fun cdv A outer s H vs Q E hr h=>?_)
 . obtain⟨f,m,rfl,_⟩:=h;rfl
 obtain ⟨f,m,rfl,hF,m2,m4,q⟩:=h;refine⟨_,(ac (am (i:=2) eJ.nd rfl (Or.inl rfl) (ai ba hr (by decide) rfl (af (pv 0) (af aa aH))))
  (ac (am (i:=3) eJ.nd rfl (Or.inl rfl) (ag aW (pv 1) aa))
  (ac (aJ (ah aM (pv 2) aa (aj _)) (ad (am (i:=3) eJ.nd rfl (Or.inl rfl) (ag aW (ag aW (pv 1) aa) (ai ba hr (by decide) rfl (af (pv 0) (af aa aH)))))) az)
  (ac (aJ (ah aM (pv 2) aa (aj _)) (ad (am (i:=3) eJ.nd rfl (Or.inl rfl) (ag aW (ag aW (pv 1) aa) (ai ba hr (by decide) rfl (af (pv 0) (af (ag aV aa (pv 1)) aH)))))) az)
  (ac (ir PassesOwn.never (li (jj (ai iF hr (by decide) rfl (af (pv 3) aH)))) (ad (am (i:=3) eJ.nd rfl (Or.inl rfl) (ag aW (pv 3) aa))))
  (ad (av (pv 3)))))))),?_⟩
 refine⟨_,rfl,f,4,rfl,hF,by decide,by decide,fun fm H1 _ _ F1 S1=>?_⟩;refine⟨_,rfl,_,_,rfl,rfl,?_⟩;refine⟨_,rfl,rfl,_,rfl,?_⟩;refine iV (fun c1=>?b1) (fun c1=>?b2)
 case' b1=>
  refine⟨_,rfl,_,_,rfl,rfl,_,rfl,f,60,rfl,F1,by decide,by decide,fun d H2 d0 d1 F2 S2=>?_⟩;refine⟨_,_,rfl,rfl,?_⟩;have G2:=S1.trans S2;have n1:m<m+1+d:=by omega
  have n2:m+1+d<=999983:=by omega
 case' b2=>
  have F2:=F1;have G2:=S1;have n1:m<m+1:=by omega
  have n2:m+1<=999983:=by omega
 all_goals
  refine⟨_,rfl,rfl,_,rfl,?_⟩;refine iV (fun c2=>?_) (fun c2=>?_);refine⟨_,rfl,_,_,rfl,rfl,_,rfl,_,rfl,_,_,rfl,rfl,f,_,rfl,F2,(show(0:Int)<999983-m by omega),(show(999983:Int)-m<2 ^ 63 by omega),fun d H3 d0 d1 F3 S3=>?_⟩;refine⟨_,_,rfl,rfl,?_⟩;have G3:=G2.trans S3;clear n1 n2;have n1:m<m+1+d:=by omega
  have n2:m+1+d<=999983:=by
   have:d<999983-m:=d1
   omega
  rotate_left
  have F3:=F2;have G3:=G2
  rotate_left
  all_goals
   refine tS (fun p pp mp p9=>?_) _ n1 n2;exact⟨_,rfl,q p _ pp mp p9 F3 G3⟩
theorem mB{m:Int}(h0:0<=m)(h6:m<=6):(0:Int)<m+1/\m+1<2 ^ 63:=by omega
theorem rB{r:Int}(h0:1<=r)(h6:r<=30):0<r/\r<2 ^ 63:=by omega
theorem eB{e r:Int}(h0:0<=e)(h1:e<r)(h6:r<=30):(1:Int)<=1+e/\(1:Int)+e<=100:=by omega
def BE:Sp:=fun vs H Q _=>∃(f:Addr)(most room:Int),vs=[.ref f,.int most,.int room]/\FeedAt H f/\0<=most/\most<=6/\1<=room/\room<=30/\
 ∀(g a b:Addr)(ns:List Str)(v:V)(t:Tr)(p:Int)(H':Hp),H' g=some (.tup [.ref a,.ref b,.int p])->H' a=some (.tup (ns.map V.str))->(ns.length:Int)<=most->(∀x∈ns,uP x)->ns.Nodup->H' b=some (.tup [v])->TreesAt H' [v] [t] ->
  (t.ok ns/\t.depth<=9/\(t.size:Int)<=room)->Pr p->2<p->p<=999983->(∀x∈ns,(t.names.count x:Int)<p)->FeedAt H' f->SameBut f H H'->Q (.ref g) H'
theorem g7:FnScope ["_law_feed_here","_law_most","_law_room","_law_names_here","_law_tree_here"] ["_law_feed_here","_law_most","_law_room"] (ae dq):=⟨rfl,rfl,rfl,by decide +kernel,rfl,by decide +kernel,by decide +kernel⟩
theorem oI {f:Addr} {fd:FuncData} (F:Fun K "_law_one_tree" "_law_one_tree" dq f fd) (htuple:mg "tuple"=none) (ba:Cal P w K mg base 1 "_law_take" ["_law_feed_here","_law_many"] gD) (fF:Cal P w K mg base 2 "_law_names" ["_law_feed_here","_law_many"] mJ)
 (eQ:Cal P w K mg base 12 "_law_tree" ["_law_feed_here","_law_names_here","_law_room","_law_deep"] (kU 10)) (t7:Cal P w K mg base 13 "_law_need" ["_law_names_here","_law_trees"] ya) (m7:Cal P w K mg base 2 "_law_field" ["_law_feed_here","_law_need_here"] qY):FnOk P w K mg base CX0 14 f fd ["_law_feed_here","_law_most","_law_room"] BE:=by
 refine F.ok g7 (fun vs H Q E h=>?_) (fun cdv A outer s H vs Q E hr h=>?_)
 . obtain⟨f,most,room,rfl,_⟩:=h;rfl
 obtain ⟨f,most,room,rfl,hF,m0,m6,r1,r30,q⟩:=h;refine⟨_,(ac (am (i:=3) g7.nd rfl (Or.inl rfl) (ai fF hr (by decide) rfl (af (pv 0) (af (ai ba hr (by decide) rfl (af (pv 0) (af (ag aW (pv 1) aa) aH))) aH))))
  (ac (am (i:=4) g7.nd rfl (Or.inl rfl) (ai eQ hr (by decide) rfl (af (pv 0) (af (pv 3) (af (ag aW aa (ai ba hr (by decide) rfl (af (pv 0) (af (pv 2) aH)))) (af aa aH))))))
  (ad (av (aX (af (bF bw rfl htuple bH (af (pv 3) aH)) (af (aX (af (pv 4) aH)) (af (ai m7 hr (by decide) rfl (af (pv 0) (af (ai t7 hr (by decide) rfl (af (pv 3) (af (bL (af (pv 4) aH)) aH))) aH))) aH)))))))),?_⟩
 refine⟨_,rfl,_,rfl,_,rfl,_,_,rfl,rfl,f,_,rfl,hF,(mB m0 m6).1,(mB m0 m6).2,fun mk H1 k0 k7 F1 S1=>?_⟩;refine⟨f,mk,rfl,F1,k0,by omega,fun nl ns H2 nl0 nlf hnl nsl nok nnd F2 S2=>?_⟩;have S02:=S1.trans S2;have nl6:ns.length<=6:=by omega
 refine ⟨_,rfl,_,rfl,_,rfl,_,rfl,f,room,rfl,F2,(rB r1 r30).1,(rB r1 r30).2,fun e H3 e0 e1 F3 S3=>?_⟩;have hnl3:=S3 nl _ nlf hnl;refine⟨_,_,rfl,rfl,f,nl,_,_,ns,rfl,F3,.inl hnl3,nl6,(eB e0 e1 r30).1,(eB e0 e1 r30).2,by decide,by decide,fun v t H4 F4 S4 T4 ok4 sz4 dp4=>?_⟩;have hnl4:=S4 nl _ nlf hnl3;have tok:t.ok ns/\t.depth<=9/\(t.size:Int)<=room:=by
  have d9:(t.depth:Int)<=9:=dp4;have s9:(t.size:Int)<=1+e:=sz4;exact⟨ok4,by omega,by omega⟩
 refine⟨_,rfl,nl,_,rfl,.inl ⟨zE0 hnl4,fun a ha=>?_⟩⟩;have Ga:=zC0 ha (.tup (ns.map V.str));refine⟨_,rfl,(by show 1<=sizeLine;decide),fun b hb=>?_⟩;have Gb:=zC0 hb (.tup [v]);have Gab:=Ga.trans Gb;have wf:=Tr.ok_wf nok t tok.1;refine⟨_,rfl,_,rfl,_,rfl,(by show 1<=sizeLine;decide),fun L hL=>?_⟩;have GL:=zC0 hL (.lst [v]);have GabL:=Gab.trans GL;have TS:TreesAt H4 [v] [t]:=.cons T4 .nil;refine⟨nl,L,ns,[v],[t],rfl,GabL _ _ hnl4,aD,TS.mono (aY GabL),(by show 1<=_;decide),fun t' ht=>?_,fun m H5 S5 m2 m4 mt mc=>?_⟩
 . rw[zM0 ht];exact⟨wf,zZ0 tok.2.1 (by decide),by have:=tok.2.2;omega⟩
 have F5:=(F4.same GabL).same S5;refine⟨f,m,rfl,F5,m2,m4,fun p H6 pp mp p9 F6 S6=>?_⟩;refine⟨(by show 3<=sizeLine;decide),fun g hg=>?_⟩;have Gg:=zC0 hg (.tup [.ref a,.ref b,.int p]);have k6:bv (upd (upd H4 a (.tup (ns.map V.str))) b (.tup [v])) (upd H6 g (.tup [.ref a,.ref b,.int p])):=fun c ys h=>Gg _ _ (aQ F5 S6 _ _ (S5 _ _ (GL _ _ h)))
 refine q g a b ns v t p _ aD (k6 _ _ (Gb _ _ aD)) (by omega) nok nnd (k6 _ _ aD) ((TS.mono (aY Gab)).mono k6) tok pp (by omega) p9 (fun x hx=>by have:=mc t qG0 x hx;omega) (F6.same Gg) ?_;exact S02.trans (S3.trans (S4.trans ((zJ0 (GabL.trans S5)).trans (S6.trans (zJ0 Gg)))))
def mH:Sp:=fun vs H Q _=>∃(v:V)(t:Tr),vs=[v]/\TreeAt H v t/\t.wf/\∀(p:Addr)(xs:List V)(H':Hp),Same H H'->H' p=some (.tup xs)->TreesAt H' xs t.parts->Q (.ref p) H'
theorem lX:FnScope ["tree"] ["tree"] (ae cx):=⟨rfl,rfl,rfl,by decide +kernel,rfl,by decide +kernel,by decide +kernel⟩
theorem ma {f:Addr} {fd:FuncData} (F:Fun K "trees_within" "trees_within" cx f fd):FnOk P w K mg base CX0 1 f fd ["tree"] mH:=by
 refine F.ok lX (fun vs H Q E h=>?_) (fun cdv A outer s H vs Q E hr h=>?_)
 . obtain⟨v,t,rfl,_⟩:=h;rfl
 obtain ⟨v,t,rfl,T,wf,q⟩:=h;refine⟨_,(ac (aJ (ah aM (aq aC (pv 0) aa (fun _ _=>rfl)) ax (aj _)) (ad (av (aX aH))) az)
  (ad (av (iu tK (pv 0) (iI aa) kx)))),?_⟩
 rcases T.view wf with⟨a,x,rfl,rfl,_,e⟩ | ⟨a,o,xs,rfl,no,xl,e,TS,_⟩
 . refine⟨_,rfl,a,_,0,_,rfl,rfl,zB0 e,rfl,rfl,_,rfl,?_⟩;refine aU rfl ?_;refine⟨(by show 0<=sizeLine;decide),fun p hp=>?_⟩;exact q p [] _ (zC0 hp _) aD .nil
 . refine⟨_,rfl,a,_,0,.str o,rfl,rfl,zB0 e,at0 ..,rfl,_,rfl,?_⟩;refine au (fun z=>no (by injection z)) ?_;obtain⟨c1,c2⟩:=cut1 (.str o) xs xl;refine⟨_,rfl,1,rfl,a,_,rfl,zB0 e,c2,fun p hp=>?_⟩;rw[c1];exact q p xs _ (zC0 hp _) aD (TS.mono (aY (zC0 hp _)))
def eO(n:Nat):Sp:=fun vs H Q _=>∃(v:V)(t:Tr),vs=[v]/\TreeAt H v t/\t.wf/\t.depth<=n/\t.size<=400/\∀(l:Addr)(H':Hp),H l=none->Same H H'->H' l=some (.lst (t.names.map V.str))->Q (.ref l) H'
theorem i7:FnScope ["tree","names","part"] ["tree"] (ae dL):=⟨rfl,rfl,rfl,by decide +kernel,rfl,by decide +kernel,by decide +kernel⟩
theorem uj {n:Nat} {f:Addr} {fd:FuncData} (F:Fun K "names_in" "names_in" dL f fd) (cu:Cal P w K mg base 1 "trees_within" ["tree"] mH) (cQ:Cal P w K mg base (n+2) "names_in" ["tree"] (eO n)):FnOk P w K mg base CX0 (n+3) f fd ["tree"] (eO (n+1)):=by
 refine F.ok i7 (fun vs H Q E h=>?_) (fun cdv A outer s H vs Q E hr h=>?_)
 . obtain⟨v,t,rfl,_⟩:=h;rfl
 obtain ⟨v,t,rfl,T,wf,dn,sz,q⟩:=h;refine⟨_,(ac (aJ (ah aM (aq aC (pv 0) aa (fun _ _=>rfl)) ax (aj _)) (ad (av (bL (af (aq aC (pv 0) aa (fun _ _=>rfl)) aH)))) az)
  (ac (am (i:=1) i7.nd rfl (Or.inl rfl) (bL aH))
  (ac (bY PassesOwn.never rfl (jm (ai cu hr (by omega) rfl (af (pv 0) aH))) (bd (i:=2) i7.nd rfl (Or.inl rfl)) (ad (bE (dW PySem.F.plainAttrs_list PySem.F.slot_list_extend PySem.F.type_list_extend wN (pv 1) (af (ai cQ hr (zG0 _) rfl (af (pv 2) aH)) aH)))))
  (ad (av (pv 1)))))),?_⟩
 have wf':=wf;rcases T.view wf with⟨a,x,rfl,rfl,_,e⟩ | ⟨a,o,xs0,rfl,no,xl0,e,_,nis⟩
 . refine⟨_,rfl,a,_,0,_,rfl,rfl,zB0 e,rfl,rfl,_,rfl,?_⟩;refine aU rfl ?_;refine⟨_,rfl,a,_,1,_,rfl,rfl,zB0 e,rfl,(by show 1<=sizeLine;decide),fun p hp=>?_⟩;exact q p _ hp (zC0 hp _) aD
 . refine ⟨_,rfl,a,_,0,.str o,rfl,rfl,zB0 e,at0 ..,rfl,_,rfl,?_⟩;refine au (fun z=>no (by injection z)) ?_;refine⟨(by show 0<=sizeLine;decide),fun L hL=>?_⟩;have G0:=zC0 hL (.lst []);refine⟨_,rfl,_,t,rfl,T.mono (aY G0),wf,fun p xs H1 S1 hp TS=>?_⟩;have hL1:H1 L=some (.lst []):=S1 _ _ aD;have pL:p≠L:=fun z=>by rw[z,hL1]at hp;cases hp
   have xl:=TS.length;have sp:=t.size_parts;refine⟨p,rfl,⟨_,zB0 hp⟩,mv (K:=K) (xs:=xs) (fun i σ H'=>∃x2,σ=[some (.ref a),some (.ref L),x2]/\H' L=some (.lst ((gK (t.parts.take i)).map V.str))/\SameBut L H1 H') ⟨_,rfl,hL1,SameBut.refl _ _⟩ (fun i σ H' _ hst=>by obtain⟨_,_,_,h⟩:=hst;exact zB0 (h _ _ pL hp)) ?_ ?_⟩
   . rintro i x σ H2 hx ⟨x2,rfl,hl,S2⟩;obtain⟨u,hu,Tu⟩:=TS.get hx;have um:=qE0 hu;obtain⟨uw,ud,us⟩:=Tr.parts_mem um wf;have Tu2:TreeAt H2 x u:=Tu.mono fun b ys h=>S2 b _ (fun z=>by rw[z,hL1]at h;cases h) h
     refine⟨_,rfl,.inl ⟨rfl,_,zE0 hl⟩,_,rfl,x,u,rfl,Tu2,uw,by omega,by omega,fun l H3 l0 S3 hl3=>?_⟩;have nl:=u.names_len;have nl2:=nE (t.parts.take i);have nl3:=mO t.parts i;refine⟨L,l,_,_,rfl,rfl,S3 _ _ hl,hl3,?_,?_⟩
     . rw[zH0,zH0];exact cp (by omega)
     refine⟨_,rfl,?_,fun b o hb h=>?_⟩
     . rw[aD,lQ hu,zK0]
     . rw[ao hb];exact S3 _ _ (S2 _ _ hb h)
   . rintro σ H2 ⟨x2,rfl,hl,S2⟩;rw[xl,qI0,←t.names_parts nis]at hl;refine⟨_,rfl,?_⟩;refine q L H2 hL (fun b o h=>?_) hl;exact S2 b o (aO h hL) (S1 _ _ (G0 _ _ h))
theorem ui {f:Addr} {fd:FuncData}:FnOk P w K mg base CX0 2 f fd ["tree"] (eO 0):=by
 have no:∀vs H Q E,¬ eO 0 vs H Q E:=fun vs H Q E h=>by
  obtain⟨v,t,_,_,_,h1,_⟩:=h
  have:=t.depth_pos
  omega
 exact⟨fun vs H Q E h=>absurd h (no vs H Q E),fun A outer s H args us vs Q E _ _ _ _ h=>absurd h (no vs H Q E)⟩
theorem lO {f:Addr} {fd:FuncData} (F:Fun K "names_in" "names_in" dL f fd) (m:mg "names_in"=some (.ref f)) (cu:Cal P w K mg base 1 "trees_within" ["tree"] mH) :
 ∀n:Nat,FnOk P w K mg base CX0 (n+2) f fd ["tree"] (eO n)
 | 0=>ui
 | n+1=>uj F cu (Cal.of F (lO F m cu n) m (fun _ _ _ _ _ _ us hl=>by obtain⟨u0,rfl⟩:=kF hl;rfl))
def vf:Sp:=fun vs H Q _=>∃n:Int,vs=[.int n]/\n<=999999/\∀b:Bool,(b=true↔2<n/\Pr n)->Q (.bl b) H
theorem i8:FnScope ["number","divisor"] ["number"] (ae fh):=⟨rfl,rfl,rfl,by decide +kernel,rfl,by decide +kernel,by decide +kernel⟩
theorem rS {f:Addr} {fd:FuncData} (F:Fun K "is_field" "is_field" fh f fd):FnOk P w K mg base CX0 1 f fd ["number"] vf:=by
 refine F.ok i8 (fun vs H Q E h=>?_) (fun cdv A outer s H vs Q E hr h=>?_)
 . obtain⟨n,rfl,_⟩:=h;rfl
 obtain ⟨n,rfl,n9,q⟩:=h;refine⟨_,(ac (aJ (PW.pt (gI (ah df (pv 0) aa (aj _)) (fV (ah aM (ag aN (pv 0) aa) aa (aj _))))) (ad (av jo)) az)
  (ac (am (i:=1) i8.nd rfl (Or.inl rfl) aa)
  (ac (ir PassesOwn.never (ah vy (ag bg (pv 1) (pv 1)) (pv 0) (aj _)) (ac (aJ (ah aM (ag aN (pv 0) (pv 1)) aa (aj _)) (ad (av jo)) az)
   (ad (am (i:=1) i8.nd rfl (Or.inl rfl) (ag aW (pv 1) aa)))))
  (ad (av jo))))),?_⟩
 refine⟨_,rfl,_,_,rfl,rfl,_,rfl,?_⟩
 by_cases c:n<3
 . refine aU c ?_;refine fq ?_;exact q false ⟨fun z=>(nomatch z),fun z=>by omega⟩
 refine au c ?_;refine⟨_,rfl,_,_,rfl,rfl,(by show(0:Int)<_;decide),rfl,_,rfl,?_⟩
 by_cases c2:n % 2=0
 . refine aU (congrArg V.int c2) ?_;exact q false ⟨fun z=>(nomatch z),fun z=>absurd z.2 (xj c2 (by omega))⟩
 refine au (fun z=>c2 (V.int.inj z)) ?_;refine⟨fun m σ H'=>∃d:Int,σ=[some (.int n),some (.int d)]/\H'=H/\3<=d/\d<=1001/\d % 2=1/\sT n d/\m=(n+3-d).toNat,⟨_,3,rfl,rfl,by omega,by omega,by omega,wJ n,rfl⟩,?_⟩;rintro m σ H' ⟨d,rfl,rfl,d3,d9,d2,u,rfl⟩;refine⟨_,rfl,_,rfl,_,_,rfl,rfl,.inl ⟨by omega,by omega⟩,_,rfl,_,_,rfl,rfl,_,rfl,?_⟩
 by_cases c3:d*d<=n
 . refine aU c3 ?_;have r1:=tJ n9 d3 c3;have r2:=AB d3 c3;refine⟨_,fun _ _ h=>h,?_⟩;refine⟨_,rfl,_,rfl,_,_,rfl,rfl,(show 0<d by omega),rfl,_,rfl,?_⟩
   by_cases c4:n % d=0
   . refine aU (congrArg V.int c4) ?_;exact q false ⟨fun z=>(nomatch z),fun z=>absurd z.2 (xh n9 d3 c3 c4)⟩
   refine au (fun z=>c4 (V.int.inj z)) ?_;refine⟨_,rfl,_,_,rfl,rfl,?_⟩;exact⟨_,by omega,d+2,rfl,rfl,by omega,by omega,by omega,zn u d2 c4,rfl⟩
 . refine au c3 ?_;exact q true ⟨fun _=>⟨by omega,xg (by omega) c2 d3 u (by omega)⟩,fun _=>rfl⟩
abbrev jC:Stmt:=cX tQ 0
abbrev ld:Stmt:=cX tQ 1
abbrev ip:Stmt:=cX tQ 2
def gf (a b:Addr) (p:Int) (d:Addr):List (Str×V):=cn "degrees" (.ref d) (cn "field" (.int p) (cn "trees" (.ref b) (cn "switches" (.ref a) [])))
theorem nX (a b:Addr) (p:Int) (d:Addr):(gf a b p d).lookup ("switches":Str)=some (.ref a):=by
 unfold gf;rw[aR,zD0 (by decide +kernel),aR,zD0 (by decide +kernel),aR,zD0 (by decide +kernel),aR,zF0 rfl]
theorem pC (a b:Addr) (p:Int) (d:Addr):(gf a b p d).lookup ("trees":Str)=some (.ref b):=by
 unfold gf;rw[aR,zD0 (by decide +kernel),aR,zD0 (by decide +kernel),aR,zF0 rfl]
theorem jR (a b:Addr) (p:Int) (d:Addr):(gf a b p d).lookup ("field":Str)=some (.int p):=by
 unfold gf;rw[aR,zD0 (by decide +kernel),aR,zF0 rfl]
theorem Cb (a b:Addr) (p:Int) (d:Addr):(gf a b p d).lookup ("degrees":Str)=some (.ref d):=by
 unfold gf;rw[aR,zF0 rfl]
theorem zN (a b:Addr) (p:Int) (d:Addr) {m:Str} (h1:¬ m="degrees") (h2:¬ m="field") (h3:¬ m="trees") (h4:¬ m="switches"):(gf a b p d).lookup m=none:=by
 unfold gf;rw[aR,zD0 h1,aR,zD0 h2,aR,zD0 h3,aR,zD0 h4]
 all_goals rfl
structure GTxt(K:W.Frag)(mg:Str->Option Value)(C:Addr):Prop where
 cl:Cls K C
 nS:NoAttr K C "switches"
 nT:NoAttr K C "trees"
 nF:NoAttr K C "field"
 nD:NoAttr K C "degrees"
 mgC:mg "Game"=some (.ref C)
theorem sS(g:Nat->Int):∀n,∃k,k<=n/\dB g n=g k
 | 0=>⟨0,zG0 _,rfl⟩
 | n+1=>by
   obtain⟨k,hk,e⟩:=sS g n;unfold dB
   split
   . exact⟨n+1,zG0 _,rfl⟩
   . exact⟨k,by omega,e⟩
theorem kE{ns:List Int}(h:ns≠[]):wQ ns 0∈ns:=by
 cases ns with
 | nil=>exact absurd rfl h
 | cons a r=>
   obtain ⟨k,hk,e⟩:=sS (fun i=>(a::r)[i]?.getD 0) ((a::r).length-1);have e1:wQ (a::r) 0=dB (fun i=>(a::r)[i]?.getD 0) ((a::r).length-1):=rfl;have hl:k<(a::r).length:=by
    rw[qH0]at hk ⊢;omega
   rw[e1,e];show(a::r)[k]?.getD 0∈a::r;rw[zQ0 hl];exact qT0 hl
def bK(ts:List Tr)(x:Str):Int:=wQ (ts.map fun t=>(t.names.count x:Int)) 0
theorem oj{ts:List Tr}{x:Str}{p:Int}(h0:ts≠[])(h:∀t∈ts,(t.names.count x:Int)<p):bK ts x<p:=by
 have:=kE (ns:=ts.map fun t=>(t.names.count x:Int)) (by simpa using h0)
 obtain⟨t,ht,e⟩:=List.mem_map.mp this;unfold bK;rw[←e];exact h t ht
def BH:Sp:=fun vs H Q _=>∃(x:Str)(b:Addr)(tv:List V)(ts:List Tr),vs=[.str x,.ref b]/\H b=some (.tup tv)/\TreesAt H tv ts/\ts≠[]/\ts.length<=10/\(∀t∈ts,t.wf/\t.depth<=10/\t.size<=400)/\∀H',Same H H'->Q (.int (bK ts x)) H'
theorem qa:FnScope ["name","trees"] ["name","trees"] (ae dR):=⟨rfl,rfl,rfl,by decide +kernel,rfl,by decide +kernel,by decide +kernel⟩
theorem qw {f:Addr} {fd:FuncData} (F:Fun K "degree_of" "degree_of" dR f fd) (hmax:mg "max"=none) (cQ:Cal P w K mg base 12 "names_in" ["tree"] (eO 10)):FnOk P w K mg base CX0 13 f fd ["name","trees"] BH:=by
 refine F.ok qa (fun vs H Q E h=>?_) (fun cdv A outer s H vs Q E hr h=>?_)
 . obtain⟨x,b,tv,ts,rfl,_⟩:=h;rfl
 obtain ⟨x,b,tv,ts,rfl,hb,TS,t0,tl,tok,q⟩:=h;refine⟨_,(ad (av (aE (pI rfl) rfl hmax PyProof.Rows.boot_max (af (cq (N:=["name"]) (ix:=[0]) rfl
  (CompScope.one (by with_unfolding_all rfl) (by decide) rfl (by decide) rfl (by decide +kernel) (by with_unfolding_all rfl) (by with_unfolding_all rfl) (by with_unfolding_all rfl) rfl rfl) rfl
  (jm (pv 1)) (fun _ _ _=>cU (CU K PySem.F.plainAttrs_list PySem.F.slot_list_count PySem.F.type_list_count (wO K) (ai cQ hr (by decide) rfl (af (pv 0) aH)) (af (pv 1) aH)))) aH)))),?_⟩
 have vl:=TS.length;refine⟨_,rfl,b,rfl,⟨_,zB0 hb⟩,fun D hD=>?_⟩;refine kI (K:=K) (xs:=tv) (fun i H'=>H' D=some (.lst (((ts.take i).map fun t=>(t.names.count x:Int)).map V.int))/\Same H H') ⟨by rw[aD];rfl,zC0 hD _⟩ (fun i H' _ h=>zB0 (h.2 _ _ hb)) ?_ ?_
 . rintro i z H2 hz ⟨hl,S2⟩;obtain⟨t,ht,T⟩:=TS.get hz;obtain⟨tw,td,tz⟩:=tok t (qE0 ht);have hi:i<tv.length:=(zW0 hz).1;refine⟨_,rfl,z,t,rfl,T.mono (aY S2),tw,by omega,tz,fun l H3 l0 S3 hl3=>?_⟩;refine⟨.inl ⟨rfl,_,zE0 hl3⟩,_,rfl,l,_,_,rfl,rfl,zE0 hl3,gC _,rfl,?_⟩;rw[oo];refine⟨_,S3 _ _ hl,?_,Nx.of hi ⟨?_,fun b' o' e'=>?_⟩⟩
   . rw[zH0,zH0,qM0];exact aS (by omega)
   . rw[aD,qJ0,ht,zK0,zK0];rfl
   . rw[ao (aO e' hD)];exact S3 _ _ (S2 _ _ e')
 . rintro H2 ⟨hl,S2⟩;rw[vl,qI0]at hl;exact⟨D,_,rfl,zE0 hl,by simpa using t0,q H2 S2⟩
def va:Sp:=fun vs H Q _=>∃(a:Addr)(ns:List Str),vs=[.ref a]/\H a=some (.tup (ns.map V.str))/\ns.Nodup/\ns.length<=10/\∀H',Same H H'->Q .non H'
theorem vB(x:Str)(ns:List Str):inV (.str x) (ns.map V.str)=decide (x∈ns):=by
 unfold inV
 induction ns with
 | nil=>rfl
 | cons a r ih=>
   rw [qA0,List.any_cons,ih];have e:eqV (.str a) (.str x)=decide (x=a):=by
    show(a==x)=_
    by_cases c:x=a
    . subst c;simp
    . rw[decide_eq_false c];simpa using fun h=>c h.symm
   rw[e]
   by_cases c1:x=a <;> by_cases c2:x∈r <;> simp [c1,c2]
theorem eU:FnScope ["switches","place","name"] ["switches"] (ae cb):=⟨rfl,rfl,rfl,by decide +kernel,rfl,by decide +kernel,by decide +kernel⟩
theorem lr {f:Addr} {fd:FuncData} (F:Fun K "look_switches" "look_switches" cb f fd) (henum:mg "enumerate"=none):FnOk P w K mg base CX0 1 f fd ["switches"] va:=by
 refine F.ok eU (fun vs H Q E h=>?_) (fun cdv A outer s H vs Q E hr h=>?_)
 . obtain⟨a,ns,rfl,_⟩:=h;rfl
 obtain ⟨a,ns,rfl,ha,nd,nl,q⟩:=h;refine⟨_,(ad (bY PassesOwn.never rfl (yK rfl henum (pv 0)) (yL rfl (fJ (bd (i:=1) eU.nd rfl (Or.inl rfl)) (fJ (bd (i:=2) eU.nd rfl (Or.inl rfl)) qi)))
  (ad (aJ (ah iy (pv 2) (iu tK (pv 0) kx (iI (pv 1))) (by with_unfolding_all rfl)) jG az)))),?_⟩
 refine⟨_,rfl,a,rfl,⟨_,zB0 ha⟩,xf (K:=K) (xs:=ns.map V.str) (fun i σ H'=>∃x1 x2:Option V,σ=[some (.ref a),x1,x2]/\Same H H') ⟨_,_,rfl,Same.refl _⟩ (fun i σ H' _ hst=>by obtain⟨_,_,_,h⟩:=hst;exact zB0 (h _ _ ha)) ?_ ?_⟩
 . rintro i z σ H1 t hz ⟨x1,x2,rfl,S1⟩ ht;have hi:i<(ns.map V.str).length:=(zW0 hz).1;rw[qD0]at hz;obtain⟨x,hx,rfl⟩:=qW0 hz;have G:=zC0 ht (.tup [.int (i:Int),.str x]);have S2:=S1.trans G;have hi':i<ns.length:=by rw[zH0]at hi;exact hi
   refine⟨t,_,rfl,zB0 aD,rfl,_,_,rfl,_,_,rfl,rfl,?_⟩;refine⟨_,rfl,_,rfl,_,rfl,(i:Int),rfl,a,_,rfl,zB0 (S2 _ _ ha),?_,fun c hc=>?_⟩
   . rintro⟨_,h⟩;rw[HT.sIx_nat]at h;omega
   . refine ⟨c,_,rfl,.inr (zB0 aD),rfl,?_,_,rfl,?_⟩
     . have ec:jM (ns.map V.str) none (some (i:Int))=(ns.take i).map V.str:=by
        unfold jM;rw[HT.sIx_none,HT.sIx_nat,List.drop_zero,Nat.sub_zero,List.map_take]
        congr 1
        omega
       rw[ec];exact gC _
     . have ec:jM (ns.map V.str) none (some (i:Int))=(ns.take i).map V.str:=by
        unfold jM;rw[HT.sIx_none,HT.sIx_nat,List.drop_zero,Nat.sub_zero,List.map_take]
        congr 1
        omega
       show if inV (.str x) (jM (ns.map V.str) none (some (i:Int)))=true then _ else _
       rw[ec,vB,decide_eq_false ?_]
       . refine dD ?_;exact⟨_,_,rfl,S2.trans (zC0 hc _)⟩
       . intro hm;obtain⟨j,hj,e⟩:=List.getElem_of_mem hm;rw[qM0]at hj;rw[List.getElem_take]at e;have ex:ns[i]=x:=by
          rw[zQ0 hi']at hx;exact zR0 hx
         exact List.pairwise_iff_getElem.mp nd j i (by omega) hi' (by omega) (e.trans ex.symm)
 . rintro σ H1 ⟨x1,x2,rfl,S1⟩;exact q H1 S1
theorem kD{ns:List Str}:∀t:Tr,t.ok ns->∀x∈t.names,x∈ns
 | .is y,h,x,hx=>by rw[zM0 hx];exact h
 | .yes,_,x,hx=>by cases hx
 | .no,_,x,hx=>by cases hx
 | .not a,h,x,hx=>kD a h x hx
 | .bin _ a b,⟨_,h1,h2⟩,x,hx=>by
   rcases zT0 hx with h | h
   . exact kD a h1 x h
   . exact kD b h2 x h
def vb:Sp:=fun vs H Q _=>∃(a b:Addr)(ns:List Str)(tv:List V)(ts:List Tr),vs=[.ref b,.ref a]/\H a=some (.tup (ns.map V.str))/\H b=some (.tup tv)/\TreesAt H tv ts/\(∀t∈ts,t.ok ns/\t.wf/\t.depth<=10/\t.size<=400)/\∀H',Same H H'->Q .non H'
theorem g9:FnScope ["trees","switches","tree","name"] ["trees","switches"] (ae dj):=⟨rfl,rfl,rfl,by decide +kernel,rfl,by decide +kernel,by decide +kernel⟩
theorem oG {f:Addr} {fd:FuncData} (F:Fun K "look_names" "look_names" dj f fd) (cQ:Cal P w K mg base 12 "names_in" ["tree"] (eO 10)):FnOk P w K mg base CX0 13 f fd ["trees","switches"] vb:=by
 refine F.ok g9 (fun vs H Q E h=>?_) (fun cdv A outer s H vs Q E hr h=>?_)
 . obtain⟨a,b,ns,tv,ts,rfl,_⟩:=h;rfl
 obtain ⟨a,b,ns,tv,ts,rfl,ha,hb,TS,tok,q⟩:=h;refine⟨_,(ad (bY PassesOwn.never rfl (jm (pv 0)) (bd (i:=2) g9.nd rfl (Or.inl rfl))
  (ad (bY PassesOwn.never rfl (dZ (ai cQ hr (by decide) rfl (af (pv 2) aH))) (bd (i:=3) g9.nd rfl (Or.inl rfl))
   (ad (aJ (ah qo (pv 3) (pv 1) (by with_unfolding_all rfl)) jG az)))))),?_⟩
 refine⟨_,rfl,b,rfl,⟨_,zB0 hb⟩,mv (K:=K) (xs:=tv) (fun i σ H'=>∃x2 x3:Option V,σ=[some (.ref b),some (.ref a),x2,x3]/\Same H H') ⟨_,_,rfl,Same.refl _⟩ (fun i σ H' _ hst=>by obtain⟨_,_,_,h⟩:=hst;exact zB0 (h _ _ hb)) ?_ ?_⟩
 . rintro i z σ H1 hz ⟨x2,x3,rfl,S1⟩;obtain⟨t,ht,T⟩:=TS.get hz;obtain⟨tk,tw,td,tz⟩:=tok t (qE0 ht);refine⟨_,rfl,z,t,rfl,T.mono (aY S1),tw,by omega,tz,fun l H2 l0 S2 hl=>?_⟩;have S12:=S1.trans S2;refine⟨l,rfl,⟨_,zE0 hl⟩,jq (K:=K) (xs:=t.names.map V.str) (fun j σ H'=>∃x3:Option V,σ=[some (.ref b),some (.ref a),some z,x3]/\H'=H2) ⟨_,rfl,rfl⟩ (fun j σ H' _ hst=>by obtain⟨_,_,h⟩:=hst;subst h;exact zE0 hl) ?_ ?_⟩
   . rintro j y σ H3 hy ⟨y3,rfl,rfl⟩;rw[qD0]at hy;obtain⟨x,hx,rfl⟩:=qW0 hy;refine⟨_,rfl,_,rfl,a,_,rfl,.inr (zB0 (S12 _ _ ha)),rfl,gC _,_,rfl,?_⟩;show if(!inV (.str x) (ns.map V.str))=true then _ else _
     rw[vB,decide_eq_true (kD t tk x (qE0 hx))];refine dD ?_;exact⟨_,rfl,rfl⟩
   . rintro σ H3 ⟨y3,rfl,rfl⟩;exact⟨_,_,rfl,S12⟩
 . rintro σ H1 ⟨x2,x3,rfl,S1⟩;exact q H1 S1
def vc:Sp:=fun vs H Q _=>∃p:Int,vs=[.int p]/\Pr p/\2<p/\p<=999983/\Q .non H
theorem oE:FnScope ["field"] ["field"] (ae dl):=⟨rfl,rfl,rfl,by decide +kernel,rfl,by decide +kernel,by decide +kernel⟩
theorem oH {f:Addr} {fd:FuncData} (F:Fun K "look_field" "look_field" dl f fd) (hend:∃t,mg "FIELDS_END"=some (.int 1000000 t)) (kh:Cal P w K mg base 1 "is_field" ["number"] vf):FnOk P w K mg base CX0 2 f fd ["field"] vc:=by
 refine F.ok oE (fun vs H Q E h=>?_) (fun cdv A outer s H vs Q E hr h=>?_)
 . obtain⟨p,rfl,_⟩:=h;rfl
 obtain⟨p,rfl,pp,p2,p9,q⟩:=h;obtain⟨te,ge⟩:=hend;refine⟨_,(ad (aJ (PW.pt (gI (ah yT (pv 0) (vx (v:=.int 1000000) rfl ge ⟨_,rfl⟩) (aj _)) (fV (li (jj (ai kh hr (by decide) rfl (af (pv 0) aH))))))) jG az)),?_⟩;refine⟨_,rfl,_,_,rfl,rfl,_,rfl,?_⟩;refine au (by omega) ?_;refine⟨_,rfl,p,rfl,by omega,fun b hb=>⟨b,rfl,?_⟩⟩;rw[hb.mpr ⟨p2,pp⟩];exact dD q
def uZ:Sp:=fun vs H Q _=>∃(p:Int)(d:Addr)(ns:List Int),vs=[.int p,.ref d]/\H d=some (.lst (ns.map V.int))/\ns≠[]/\(∀n∈ns,n<p)/\Q .non H
theorem m8:FnScope ["field","degrees","greatest"] ["field","degrees"] (ae dN):=⟨rfl,rfl,rfl,by decide +kernel,rfl,by decide +kernel,by decide +kernel⟩
theorem qt {f:Addr} {fd:FuncData} (F:Fun K "look_size" "look_size" dN f fd) (hmax:mg "max"=none):FnOk P w K mg base CX0 1 f fd ["field","degrees"] uZ:=by
 refine F.ok m8 (fun vs H Q E h=>?_) (fun cdv A outer s H vs Q E hr h=>?_)
 . obtain⟨p,d,ns,rfl,_⟩:=h;rfl
 obtain ⟨p,d,ns,rfl,hd,n0,nl,q⟩:=h;refine⟨_,(ac (am (i:=2) m8.nd rfl (Or.inl rfl) (aE (pI rfl) rfl hmax PyProof.Rows.boot_max (af (pv 1) aH)))
  (ad (aJ (ah vy (pv 0) (pv 2) (aj _)) jG az))),?_⟩
 refine⟨_,rfl,d,ns,rfl,zE0 hd,n0,?_⟩;refine⟨_,rfl,_,rfl,_,_,rfl,rfl,_,rfl,?_⟩
 have:=nl _ (kE n0)
 exact au (by omega) q
theorem gJ(f:Str)(v:V):∀fs:List (Str×V),(cn f v fs).length<=fs.length+1
 | []=>zG0 _
 | (g,u)::r=>by
   have:=gJ f v r
   unfold cn
   split
   . simp
   . simp only[qH0];omega
def gf3 (a b:Addr) (p:Int):List (Str×V):=cn "field" (.int p) (cn "trees" (.ref b) (cn "switches" (.ref a) []))
theorem Dz (a b:Addr) (p:Int):(gf3 a b p).lookup ("switches":Str)=some (.ref a):=by
 unfold gf3;rw[aR,zD0 (by decide +kernel),aR,zD0 (by decide +kernel),aR,zF0 rfl]
theorem Dy (a b:Addr) (p:Int):(gf3 a b p).lookup ("trees":Str)=some (.ref b):=by
 unfold gf3;rw[aR,zD0 (by decide +kernel),aR,zF0 rfl]
def GameAt(C:Addr)(H:Hp)(g a b d:Addr)(p:Int):Prop:=∃dx,H g=some (.ins C dx (gf a b p d))
theorem GameAt.same{C:Addr}{H H':Hp}{g a b d:Addr}{p:Int}(h:GameAt C H g a b d p)(s:Same H H'):GameAt C H' g a b d p:=by
 obtain⟨dx,e⟩:=h;exact⟨dx,s _ _ e⟩
def ve(C:Addr):Sp:=fun vs H Q _=>∃(g dx a b:Addr)(ns:List Str)(tv:List V)(ts:List Tr)(p:Int),vs=[.ref g,.ref a,.ref b,.int p]/\H g=some (.ins C dx [])/\H a=some (.tup (ns.map V.str))/\ns.Nodup/\ns.length<=10/\H b=some (.tup tv)/\TreesAt H tv ts/\1<=ts.length/\ts.length<=10/\
 (∀t∈ts,t.ok ns/\t.wf/\t.depth<=10/\t.size<=400)/\Pr p/\2<p/\p<=999983/\(ts.length:Int)<=p/\(∀t∈ts,∀x∈ns,(t.names.count x:Int)<p)/\
 ∀(d:Addr)(H':Hp),H d=none->GameAt C H' g a b d p->H' d=some (.lst ((ns.map (bK ts)).map V.int))->SameBut g H H'->Q .non H'
theorem yy:FnScope ["self","switches","trees","field"] ["self","switches","trees","field"] (ae jC):=⟨rfl,rfl,rfl,by decide +kernel,rfl,by decide +kernel,by decide +kernel⟩
theorem zh {f C:Addr} {fd:FuncData} (F:Fun K "__init__" "Game.__init__" jC f fd) (T:GTxt K mg C) (htuple:mg "tuple"=none) (hlen:mg "len"=none) (i9:Cal P w K mg base 13 "degree_of" ["name","trees"] BH) (fO:Cal P w K mg base 1 "look_switches" ["switches"] va)
 (iH:Cal P w K mg base 13 "look_names" ["trees","switches"] vb) (iP:Cal P w K mg base 2 "look_field" ["field"] vc) (jb:Cal P w K mg base 1 "look_size" ["field","degrees"] uZ):FnOk P w K mg base CX0 14 f fd ["self","switches","trees","field"] (ve C):=by
 refine F.ok yy (fun vs H Q E h=>?_) (fun cdv A outer s H vs Q E hr h=>?_)
 . obtain⟨g,dx,a,b,ns,tv,ts,p,rfl,_⟩:=h;rfl
 obtain ⟨g,dx,a,b,ns,tv,ts,p,rfl,hg,ha,nd,nl,hb,TS,t1,t10,tok,pp,p2,p9,tp,tc,q⟩:=h;refine⟨_,(ac (bO (pv 0) (bF bw rfl htuple bH (af (pv 1) aH)) rfl)
  (ac (bO (pv 0) (bF bw rfl htuple bH (af (pv 2) aH)) rfl)
  (ac (bO (pv 0) (pv 3) rfl)
  (ac (bO (pv 0) (cq (N:=["self"]) (ix:=[0]) rfl
   (CompScope.one (by with_unfolding_all rfl) (by decide) rfl (by decide) rfl (by decide +kernel) (by with_unfolding_all rfl) (by with_unfolding_all rfl) (by with_unfolding_all rfl) rfl rfl) rfl
   (jm (aG (pv 0) rfl)) (fun _ _ _=>cU (ai i9 hr (by decide) rfl (af (pv 0) (af (mo K (pv 1)) aH))))) rfl)
  (ac (bE (ai fO hr (by decide) rfl (af (aG (pv 0) rfl) aH)))
  (ac (bE (ai iH hr (by decide) rfl (af (aG (pv 0) rfl) (af (aG (pv 0) rfl) aH))))
  (ac (bE (ai iP hr (by decide) rfl (af (pv 3) aH)))
  (ad (bE (ai jb hr (by decide) rfl (af (pv 3) (af (ag fX (aG (pv 0) rfl) (bL (af (ag aV (aE aB rfl hlen PySem.boot_len (af (aG (pv 0) rfl) aH)) aa) aH))) aH)))))))))))),?_⟩
 have nag:a≠g:=bh ha hg (by intro z;cases z);have nbg:b≠g:=bh hb hg (by intro z;cases z);have vl:=TS.length;refine⟨_,rfl,a,_,rfl,.inr ⟨zB0 ha,_,rfl,g,C,dx,[],rfl,hg,T.cl,T.nS,(by show 0<1000;decide),?_⟩⟩;refine⟨_,rfl,b,_,rfl,.inr ⟨zB0 (by rw[ao nbg];exact hb),_,rfl,g,C,dx,_,rfl,aD,T.cl,T.nT,(Nat.lt_of_le_of_lt (gJ _ _ _) (by show 1<1000;decide)),?_⟩⟩;refine⟨_,rfl,_,rfl,g,C,dx,_,rfl,aD,T.cl,T.nF,(Nat.lt_of_le_of_lt (gJ _ _ _) (Nat.lt_of_le_of_lt (Nat.succ_le_succ (gJ _ _ _)) (by show 2<1000;decide))),?_⟩;have S3:SameBut g H (upd (upd (upd H g (.ins C dx (cn "switches" (.ref a) []))) g (.ins C dx (cn "trees" (.ref b) (cn "switches" (.ref a) [])))) g (.ins C dx (cn "field" (.int p) (cn "trees" (.ref b) (cn "switches" (.ref a) []))))):=
  (SameBut.upd _).trans ((SameBut.upd _).trans (SameBut.upd _))
 have hg3:upd (upd (upd H g (.ins C dx (cn "switches" (.ref a) []))) g (.ins C dx (cn "trees" (.ref b) (cn "switches" (.ref a) [])))) g (.ins C dx (cn "field" (.int p) (cn "trees" (.ref b) (cn "switches" (.ref a) [])))) g=some (.ins C dx (gf3 a b p)):=aD;generalize upd (upd (upd H g (.ins C dx (cn "switches" (.ref a) []))) g (.ins C dx (cn "trees" (.ref b) (cn "switches" (.ref a) [])))) g (.ins C dx (cn "field" (.int p) (cn "trees" (.ref b) (cn "switches" (.ref a) []))))=H3 at S3 hg3;have kT:bv H H3:=fun c xs h=>S3 c _ (bh h hg (by intro z;cases z)) h
 have ha3:=kT _ _ ha;have hb3:=kT _ _ hb;have TS3:=TS.mono kT;refine⟨_,rfl,g,C,dx,_,_,rfl,hg3,T.cl,T.nS,Dz ..,a,rfl,⟨_,zB0 ha3⟩,fun D hD=>?_⟩;have D0:H D=none:=by
  cases e:H D with
  | none=>rfl
  | some o=>
    by_cases c:D=g
    . rw[c,hg3]at hD;cases hD
    . rw[S3 D o c e]at hD;cases hD
 refine kI (K:=K) (xs:=ns.map V.str) (fun i H'=>H' D=some (.lst (((ns.take i).map (bK ts)).map V.int))/\Same H3 H') ⟨by rw[aD];rfl,zC0 hD _⟩ (fun i H' _ h=>zB0 (h.2 _ _ ha3)) ?_ ?_
 . rintro i z H4 hz ⟨hl,S4⟩;have hi:i<(ns.map V.str).length:=(zW0 hz).1;rw[qD0]at hz;obtain⟨x,hx,rfl⟩:=qW0 hz;refine⟨_,rfl,_,rfl,g,C,dx,_,_,rfl,S4 _ _ hg3,T.cl,T.nT,Dy ..,x,b,tv,ts,rfl,S4 _ _ hb3,TS3.mono (aY S4),?_,t10,fun t ht=>(tok t ht).2,fun H5 S5=>?_⟩
   . intro e;rw[e]at t1;exact absurd t1 (by decide)
   refine⟨_,S5 _ _ hl,?_,Nx.of hi ⟨?_,fun b' o' e'=>?_⟩⟩
   . rw[zH0,zH0,qM0];exact aS (by omega)
   . rw[aD,qJ0,hx,zK0,zK0];rfl
   . rw[ao (aO e' hD)];exact S5 _ _ (S4 _ _ e')
 rintro H4 ⟨hl,S4⟩;rw[zH0,qI0]at hl;refine⟨_,rfl,g,C,dx,_,rfl,S4 _ _ hg3,T.cl,T.nD,?_,?_⟩
 . exact Nat.lt_of_le_of_lt (zZ0 (gJ _ _ _) (Nat.succ_le_succ (zZ0 (gJ _ _ _) (Nat.succ_le_succ (gJ _ _ _))))) (by show 3<1000;decide)
 have nDg:D≠g:=fun z=>by rw[z,hg3]at hD;cases hD
 have hg5:upd H4 g (.ins C dx (gf a b p D)) g=some (.ins C dx (gf a b p D)):=aD;have S5:SameBut g H (upd H4 g (.ins C dx (gf a b p D))):=S3.trans ((zJ0 S4).trans (SameBut.upd _));have hD5:upd H4 g (.ins C dx (gf a b p D)) D=some (.lst ((ns.map (bK ts)).map V.int)):=by rw[ao nDg];exact hl
 show _;generalize he5:upd H4 g (.ins C dx (gf a b p D))=H5 at hg5 S5 hD5;have kT5:bv H H5:=fun c xs h=>S5 c _ (bh h hg (by intro z;cases z)) h
 rw[show upd H4 g (.ins C dx (cn "degrees" (.ref D) (gf3 a b p)))=H5 from he5];refine⟨_,rfl,g,C,dx,_,_,rfl,hg5,T.cl,T.nS,nX ..,a,ns,rfl,kT5 _ _ ha,nd,nl,fun H6 S6=>?_⟩;have kT6:bv H H6:=fun c xs h=>S6 _ _ (kT5 c xs h)
 refine⟨_,rfl,g,C,dx,_,_,rfl,S6 _ _ hg5,T.cl,T.nT,pC ..,_,rfl,g,C,dx,_,_,rfl,S6 _ _ hg5,T.cl,T.nS,nX ..,a,b,ns,tv,ts,rfl,kT6 _ _ ha,kT6 _ _ hb,TS.mono kT6,tok,fun H7 S7=>?_⟩;have S57:=S6.trans S7;refine⟨_,rfl,p,rfl,pp,p2,p9,?_⟩;refine⟨_,rfl,_,rfl,g,C,dx,_,_,rfl,S57 _ _ hg5,T.cl,T.nD,Cb ..,_,rfl,g,C,dx,_,_,rfl,S57 _ _ hg5,T.cl,T.nT,pC ..,b,_,rfl,.inr (zB0 (S57 _ _ (kT5 _ _ hb))),_,_,rfl,rfl,(by show 1<=sizeLine;decide),fun l hl2=>?_⟩;have Gl:=zC0 hl2 (.lst [.int ((tv.length:Int)-1)]);refine⟨D,l,_,_,rfl,rfl,Gl _ _ (S57 _ _ hD5),aD,?_,fun r hr0=>?_⟩
 . rw[zH0,zH0];exact cp (by simp;omega)
 have Gr:=zC0 hr0 (.lst ((ns.map (bK ts)).map V.int++[.int ((tv.length:Int)-1)]));refine⟨p,r,ns.map (bK ts)++[(tv.length:Int)-1],rfl,?_,by simp,fun n hn=>?_,?_⟩
 . rw[aD,zK0];rfl
 . rcases zT0 hn with h | h
   . obtain ⟨x,hx,rfl⟩:=List.mem_map.mp h;refine oj ?_ fun t ht=>tc t ht x hx
     intro e;rw[e]at t1;exact absurd t1 (by decide)
   . rw[zM0 h];omega
 . have S59:=S57.trans (Gl.trans Gr);exact q D _ D0 ⟨dx,S59 _ _ hg5⟩ (S59 _ _ hD5) (S5.trans (zJ0 S59))
def yc:Sp:=fun vs H Q _=>∃a p:Int,vs=[.int a,.int p]/\Pr p/\p<=999983/\0<a/\a<p/\∀g:Int,0<g->g<p->g*a % p=1->Q (.int g) H
theorem bn:FnScope ["a","p","former","former_factor","rest","factor","times","lesser","lesser_factor"] ["a","p"] (ae du):=⟨rfl,rfl,rfl,by decide +kernel,rfl,by decide +kernel,by decide +kernel⟩
theorem oK {f:Addr} {fd:FuncData} (F:Fun K "inverse_of" "inverse_of" du f fd):FnOk P w K mg base CX0 1 f fd ["a","p"] yc:=by
 refine F.ok bn (fun vs H Q E h=>?_) (fun cdv A outer s H vs Q E hr h=>?_)
 . obtain⟨a,p,rfl,_⟩:=h;rfl
 obtain ⟨a,p,rfl,pr,p1,a0,a1,q⟩:=h;have p2:2<=p:=pr.1;refine⟨_,(ac (am (i:=2) bn.nd rfl (Or.inl rfl) (pv 1))
  (ac (am (i:=3) bn.nd rfl (Or.inl rfl) aa)
  (ac (am (i:=4) bn.nd rfl (Or.inl rfl) (ag aN (pv 0) (pv 1)))
  (ac (am (i:=5) bn.nd rfl (Or.inl rfl) aa)
  (ac (ir PassesOwn.never (ah jP (pv 4) aa (aj _)) (ac (am (i:=6) bn.nd rfl (Or.inl rfl) (ag qp (pv 2) (pv 4)))
   (ac (am (i:=7) bn.nd rfl (Or.inl rfl) (ag aV (pv 2) (ag bg (pv 6) (pv 4))))
   (ac (am (i:=8) bn.nd rfl (Or.inl rfl) (ag aN (ag aV (pv 3) (ag bg (pv 6) (pv 5))) (pv 1)))
   (ac (am (i:=2) bn.nd rfl (Or.inl rfl) (pv 4))
   (ac (am (i:=3) bn.nd rfl (Or.inl rfl) (pv 5))
   (ac (am (i:=4) bn.nd rfl (Or.inl rfl) (pv 7))
   (ad (am (i:=5) bn.nd rfl (Or.inl rfl) (pv 8))))))))))
  (ad (av (pv 5)))))))),?_⟩
 refine ⟨_,rfl,?_⟩;refine⟨_,rfl,_,rfl,_,_,rfl,rfl,(show 0<p by omega),?_⟩;refine⟨fun m σ H'=>∃(former ff rest g:Int)(x6 x7 x8:Option V),σ=[some (.int a),some (.int p),some (.int former),some (.int ff),some (.int rest),some (.int g),x6,x7,x8]/\H'=H/\Eu a p former ff rest g/\m=rest.toNat,
  ⟨_,_,_,_,_,_,_,_,rfl,rfl,sH pr (by omega) a0 a1,rfl⟩,?_⟩
 rintro m σ H' ⟨former,ff,rest,g,x6,x7,x8,rfl,rfl,eu,rfl⟩;refine⟨_,rfl,rfl,_,rfl,?_⟩
 by_cases c:rest=1
 . refine BZ (congrArg V.int c) ?_;obtain⟨g0,g1,g2⟩:=zS eu c (by omega);exact⟨_,rfl,q g g0 g1 g2⟩
 . refine Bf (fun z=>c (V.int.inj z)) ?_;refine⟨_,fun _ _ h=>h,?_⟩;have r0:=eu.r0;have rp:=eu.rp;have f0:=eu.f0;have f1:=eu.f1;obtain⟨nx,lt⟩:=vF eu c;refine⟨_,rfl,_,rfl,_,_,rfl,rfl,⟨r0,by omega⟩,?_⟩;refine⟨_,rfl,_,rfl,_,rfl,_,_,rfl,rfl,.inr ⟨by omega,by omega⟩,_,_,rfl,rfl,?_⟩;refine⟨_,rfl,_,rfl,_,rfl,_,_,rfl,rfl,.inr ⟨by omega,by omega⟩,_,_,rfl,rfl,_,rfl,_,_,rfl,rfl,(show 0<p by omega),?_⟩;refine⟨_,rfl,_,rfl,_,rfl,_,rfl,?_⟩;exact⟨_,lt,_,_,_,_,_,_,_,rfl,rfl,nx,rfl⟩
theorem md{p x y:Int}(h:p ∣ x-y):x % p=y % p:=by
 obtain⟨k,hk⟩:=h
 have:x=y+p*k:=by omega
 rw[this,Int.add_mul_emod_self_left]
theorem dm(p x:Int):p ∣ x % p-x:=⟨-(x / p),by
 have:=Int.emod_add_mul_ediv x p
 rw[Int.mul_neg];omega⟩
def pmd(p:Int)(g:Nat->Int):Nat->Int
 | 0=>1
 | k+1=>pmd p g k*g k % p
theorem kA(p:Int)(g:Nat->Int):∀k,p ∣ pmd p g k-pr g k
 | 0=>⟨0,by simp [pmd,pr]⟩
 | k+1=>by
   obtain⟨a,ha⟩:=kA p g k;obtain⟨b,hb⟩:=dm p (pmd p g k*g k);exact⟨b+a*g k,by show pmd p g k*g k % p-pr g k*g k=_;grind⟩
theorem kz{p:Int}(hp:1<p)(g:Nat->Int):∀k,0<=pmd p g k/\pmd p g k<p
 | 0=>⟨by show(0:Int)<=1;decide,hp⟩
 | k+1=>⟨zU0 _ (by omega),zX0 _ (by omega)⟩
def prL(p:Int)(g:Nat->Int)(n:Nat):List V:=((List.range n).map (pmd p g)).map V.int
theorem nq(p:Int)(g:Nat->Int)(n:Nat):prL p g (n+1)=prL p g n++[.int (pmd p g n)]:=by
 unfold prL;rw[List.range_succ,zK0,zK0];rfl
theorem AM(p:Int)(g:Nat->Int)(n:Nat):(prL p g n).length=n:=by
 unfold prL;rw[zH0,zH0,qR0]
theorem uv{f:Nat->Int}{n k:Nat}(h:k<n):atI (((List.range n).map f).map V.int) (k:Int)=some (.int (f k)):=by
 refine cg ?_;rw[qD0,qD0,List.getElem?_range h];rfl
theorem tT{p:Int}{g:Nat->Int}{n k:Nat}(h:k<n):atI (prL p g n) (k:Int)=some (.int (pmd p g k)):=uv h
def tH:Sp:=fun vs H Q _=>∃(a:Addr)(g:Nat->Int)(n:Nat)(p:Int),vs=[.ref a,.int p]/\H a=some (.lst (((List.range n).map g).map V.int))/\n<=500/\1<p/\p<2 ^ 40/\∀(l:Addr)(H':Hp),H l=none->Same H H'->H' l=some (.lst (prL p g (n+1)))->Q (.ref l) H'
theorem jd:FnScope ["numbers","p","told","number"] ["numbers","p"] (ae eY):=⟨rfl,rfl,rfl,by decide +kernel,rfl,by decide +kernel,by decide +kernel⟩
theorem rO {f:Addr} {fd:FuncData} (F:Fun K "products" "products" eY f fd):FnOk P w K mg base CX0 1 f fd ["numbers","p"] tH:=by
 refine F.ok jd (fun vs H Q E h=>?_) (fun cdv A outer s H vs Q E hr h=>?_)
 . obtain⟨a,g,n,p,rfl,_⟩:=h;rfl
 obtain ⟨a,g,n,p,rfl,ha,n5,p1,p40,q⟩:=h;refine⟨_,(ac (am (i:=2) jd.nd rfl (Or.inl rfl) (bL (af aa aH)))
  (ac (bY PassesOwn.never rfl (dZ (pv 0)) (bd (i:=3) jd.nd rfl (Or.inl rfl)) (ad (bE (dW PySem.F.plainAttrs_list PySem.F.slot_list_append PySem.F.type_list_append bu (pv 2) (af (ag aN (ag bg (aq ix_list (pv 2) (lK ja aa) (fun _ _=>rfl)) (pv 3)) (pv 1)) aH)))))
  (ad (av (pv 2))))),?_⟩
 refine ⟨(by show 1<=sizeLine;decide),fun L hL=>?_⟩;have aL:a≠L:=aO ha hL;refine⟨_,rfl,a,rfl,⟨_,zE0 ((zC0 hL _) _ _ ha)⟩,jq (K:=K) (xs:=((List.range n).map g).map V.int) (fun i σ H'=>∃x3:Option V,σ=[some (.ref a),some (.int p),some (.ref L),x3]/\H' L=some (.lst (prL p g (i+1)))/\SameBut L H H')
  ⟨_,rfl,by rw[aD];rfl,SameBut.upd _⟩ (fun i σ H' _ hst=>by obtain⟨_,_,_,h⟩:=hst;exact zE0 (h _ _ aL ha)) ?_ ?_⟩
 . rintro i z σ H1 hz ⟨x3,rfl,hL1,S1⟩;have hi:=(zW0 hz).1;rw[zH0,zH0,qR0]at hi;rw[qD0,qD0,List.getElem?_range hi]at hz;obtain rfl:V.int (g i)=z:=zR0 hz;have rg:=kz p1 g i;refine⟨_,rfl,.inl ⟨rfl,_,zE0 hL1⟩,?_⟩;refine⟨_,rfl,_,rfl,L,_,_,.int (pmd p g i),rfl,rfl,zE0 hL1,?_,_,rfl,_,_,rfl,rfl,.inl ⟨by omega,by omega⟩,_,rfl,_,_,rfl,rfl,(by omega),L,_,_,rfl,rfl,hL1,?_,?_⟩
   . rw[nq];exact kM _ _
   . rw[AM];exact aS (by omega)
   . refine ⟨_,rfl,?_,fun c o hc e=>?_⟩
     . rw[aD,nq p g (i+1)];rfl
     . rw[ao hc];exact S1 c o hc e
 . rintro σ H1 ⟨x3,rfl,hL1,S1⟩;rw[zH0,zH0,qR0]at hL1;exact⟨_,rfl,q L H1 hL (fun b o e=>S1 b o (aO e hL) e) hL1⟩
theorem yI:∀n:Nat,pr (fun k=>1+(k:Int)) n=fac n
 | 0=>rfl
 | n+1=>by
   show pr (fun k=>1+(k:Int)) n*(1+(n:Int))=fac n*((n:Int)+1)
   rw[yI n,Int.add_comm]
theorem yt{p g a t s:Int}{k m:Nat}(hg:g*a % p=1)(p1:1<p)(ha:p ∣ a-fac (k+m))(ht:p ∣ t-pr (fun j=>((k+m:Nat):Int)-j) m)(hs:p ∣ s-g*t):p ∣ s*fac k-1:=by
 have f:=sF m k;obtain⟨x,hx⟩:=ha;obtain⟨y,hy⟩:=ht;obtain⟨z,hz⟩:=hs;obtain⟨e,he⟩:=dm p (g*a);rw[hg]at he;exact⟨z*fac k+g*y*fac k-g*x-e,by grind⟩
def yf:Sp:=fun vs H Q _=>∃(L:Nat)(p:Int),vs=[.int (L:Int),.int p]/\L<=500/\(L:Int)<p/\Pr p/\p<=999983/\∀(l:Addr)(H':Hp)(sh:Nat->Int),H l=none->Same H H'->(∀k,k<=L->p ∣ sh k*fac k-1)->(∀k,0<=sh k/\sh k<p)->H' l=some (.lst (((List.range (L+1)).map sh).map V.int))->Q (.ref l) H'
theorem b6:FnScope ["last","p","numbers","whole","told"] ["last","p"] (ae bq):=⟨rfl,rfl,rfl,by decide +kernel,rfl,by decide +kernel,by decide +kernel⟩
theorem iT {f:Addr} {fd:FuncData} (F:Fun K "inverse_factorials" "inverse_factorials" bq f fd) (B:Bl mg) (cV:Cal P w K mg base 1 "products" ["numbers","p"] tH) (dH:Cal P w K mg base 1 "inverse_of" ["a","p"] yc):FnOk P w K mg base CX0 2 f fd ["last","p"] yf:=by
 refine F.ok b6 (fun vs H Q E h=>?_) (fun cdv A outer s H vs Q E hr h=>?_)
 . obtain⟨L,p,rfl,_⟩:=h;rfl
 obtain ⟨L,p,rfl,L5,Lp,pp,p9,q⟩:=h;refine⟨_,(ac (am (i:=2) b6.nd rfl (Or.inl rfl) (tW rfl rfl B.list rfl B.range (af aa (af (ag aW (pv 0) aa) aH))))
  (ac (am (i:=3) b6.nd rfl (Or.inr rfl) (ai dH hr (by decide) rfl (af (aq ix_list (ai cV hr (by decide) rfl (af (pv 2) (af (pv 1) aH))) (lK ja aa) (fun _ _=>rfl)) (af (pv 1) aH))))
  (ac (am (i:=4) b6.nd rfl (Or.inr rfl) (ai cV hr (by decide) rfl (af (cq (N:=["last"]) (ix:=[0]) rfl
   (CompScope.one (by with_unfolding_all rfl) (by decide) rfl (by decide) rfl (by decide +kernel) (by with_unfolding_all rfl) (by with_unfolding_all rfl) (by with_unfolding_all rfl) rfl rfl) rfl
   (bt rfl B.range (af (pv 0) aH)) (fun _ _ _=>cU (ag aV (pv 1) (pv 0)))) (af (pv 1) aH))))
  (ad (av (cq (N:=["whole","told","p","last"]) (ix:=[3,4,1,0]) rfl
   (CompScope.four (by with_unfolding_all rfl) (by decide) rfl (by decide) rfl (by decide +kernel) rfl (by with_unfolding_all rfl) (by with_unfolding_all rfl) (by with_unfolding_all rfl) (by with_unfolding_all rfl) (by with_unfolding_all rfl) (by with_unfolding_all rfl) rfl rfl (by with_unfolding_all rfl) rfl rfl (by with_unfolding_all rfl) rfl rfl (by with_unfolding_all rfl) rfl rfl) rfl
   (bt rfl B.range (af (ag aW (pv 0) aa) aH)) (fun _ _ _=>cU (ag aN (ag bg (pv 1) (aq (cI K) (pv 2) (ag aV (pv 4) (pv 0)) (fun _ _=>rfl))) (pv 3))))))))),?_⟩
 have p2:=pp.1;have hP:=rH pp (by omega);refine⟨_,rfl,_,_,rfl,rfl,1,_,rfl,⟨by decide,by decide,by omega,by omega⟩,by omega,fun a ha=>?_⟩;have e1:qd 1 ((L:Int)+1-1).toNat=(List.range L).map fun k:Nat=>1+(k:Int):=by
  unfold qd;rw[show((L:Int)+1-1).toNat=L by omega]
 rw [e1];have Ga:=zC0 ha (.lst (((List.range L).map fun k:Nat=>1+(k:Int)).map V.int));refine⟨_,rfl,_,rfl,a,_,L,p,rfl,aD,L5,by omega,by omega,fun l H2 l0 S2 hl2=>?_⟩;have rg:=kz (show 1<p by omega) (fun k:Nat=>1+(k:Int)) L;have dv:=kA p (fun k:Nat=>1+(k:Int)) L;rw[yI]at dv;have ne0:pmd p (fun k:Nat=>1+(k:Int)) L≠0:=fun z=>by
  rw[z]at dv;obtain⟨m,hm⟩:=dv;exact qD hP L Lp ⟨-m,by rw[Int.mul_neg];omega⟩
 refine⟨_,rfl,l,_,_,.int (pmd p (fun k:Nat=>1+(k:Int)) L),rfl,rfl,zE0 hl2,by rw[nq];exact kM _ _,_,rfl,_,p,rfl,pp,p9,by omega,rg.2,fun g g0 g1 hg=>?_⟩;have SH2:=Ga.trans S2;refine⟨_,rfl,_,rfl,by omega,by omega,fun D hD=>?_⟩;refine cN (fun i H'=>H' D=some (.lst (((List.range i).map fun j:Nat=>(L:Int)-j).map V.int))/\Same H2 H') ⟨by rw[aD];rfl,zC0 hD _⟩ ?_ ?_
 . rintro i H3 hi ⟨hD3,S3⟩;refine⟨_,rfl,_,rfl,_,_,rfl,rfl,_,hD3,?_,Nx.of hi ⟨?_,fun b o e=>?_⟩⟩
   . rw[zH0,zH0,qR0];exact aS (by omega)
   . rw[aD,List.range_succ,zK0,zK0,Int.zero_add];rfl
   . rw[ao (aO e hD)];exact S3 _ _ e
 rintro H3 ⟨hD3,S3⟩;rw[show((L:Int)).toNat=L from qO0 L]at hD3;refine⟨_,rfl,D,_,L,p,rfl,hD3,L5,by omega,by omega,fun t H4 t0 S4 ht4=>?_⟩;refine⟨_,rfl,_,_,rfl,rfl,_,rfl,by omega,by omega,fun D2 hD2=>?_⟩;refine cN (fun i H'=>H' D2=some (.lst (((List.range i).map fun k:Nat=>g*pmd p (fun j:Nat=>(L:Int)-j) (L-k) % p).map V.int))/\Same H4 H') ⟨by rw[aD];rfl,zC0 hD2 _⟩ ?_ ?_
 . rintro i H5 hi ⟨hD5,S5⟩;have hi':i<L+1:=by omega
   have rg2:=kz (show 1<p by omega) (fun j:Nat=>(L:Int)-j) (L-i);have e2:(L:Int)-(0+(i:Int))=((L-i:Nat):Int):=by omega
   refine⟨_,rfl,_,rfl,_,rfl,_,rfl,_,_,rfl,rfl,t,_,_,.int (pmd p (fun j:Nat=>(L:Int)-j) (L-i)),rfl,rfl,zE0 (S5 _ _ ht4),by rw[e2];exact tT (by omega),_,_,rfl,rfl,.inl ⟨by omega,by omega⟩,_,rfl,_,_,rfl,rfl,(by omega),_,hD5,?_,Nx.of hi ⟨?_,fun b o e=>?_⟩⟩
   . rw[zH0,zH0,qR0];exact aS (by omega)
   . rw[aD,List.range_succ,zK0,zK0];rfl
   . rw[ao (aO e hD2)];exact S5 _ _ e
 rintro H5 ⟨hD5,S5⟩;rw[show((L:Int)+1).toNat=L+1 by omega]at hD5;have S05:=SH2.trans (S3.trans (S4.trans S5));refine q D2 H5 (fun k=>g*pmd p (fun j:Nat=>(L:Int)-j) (L-k) % p) ((SH2.trans (S3.trans S4)).free hD2) S05 (fun k hk=>?_) (fun k=>⟨zU0 _ (by omega),zX0 _ (by omega)⟩) hD5;obtain⟨m,rfl⟩:∃m,L=k+m:=⟨L-k,by omega⟩
 rw[show k+m-k=m by omega];exact yt hg (by omega) dv (kA p _ m) (dm p _)
def wt(p:Int)(n i:Nat):Int:=(px (i:Int) i n % p) ^ (p-2).toNat
theorem sX{p:Int}(hp:Pm p){n:Nat}(hn:(n:Int)<=p):Wgt p n (wt p n):=fun i hi=>by
 have h1:=CV hp hn hi;obtain⟨k,hk⟩:=dm p (px (i:Int) i n);have h2:¬ p ∣ px (i:Int) i n % p:=fun⟨m,hm⟩=>h1 ⟨m-k,by grind⟩
 obtain⟨m,hm⟩:=zQ hp h2 (zU0 _ (by have:=hp.1;omega));exact⟨m-k*(px (i:Int) i n % p) ^ (p-2).toNat,by unfold wt;grind⟩
def val(p:Int)(xs:List Int)(r:Int):Int:=lag (fun i=>xs.getD i 0) (wt p xs.length) xs.length r % p
theorem Ch{p t r:Int}{xs:List Int}{u:Nat->Int}(hp:Pm p)(hn:(xs.length:Int)<=p)(hu:Wgt p xs.length u)(t0:0<=t)(t1:t<p)(h:p ∣ t-lag (fun i=>xs.getD i 0) u xs.length r):t=val p xs r:=by
 have e:p ∣ t-lag (fun i=>xs.getD i 0) (wt p xs.length) xs.length r:=by
  have:=zH hp hn (v:=fun i=>xs.getD i 0) hu (sX hp hn) r
  have z:=Int.dvd_add h this;have e2:t-lag (fun i=>xs.getD i 0) u xs.length r+(lag (fun i=>xs.getD i 0) u xs.length r-lag (fun i=>xs.getD i 0) (wt p xs.length) xs.length r)=t-lag (fun i=>xs.getD i 0) (wt p xs.length) xs.length r:=by omega
  rw[e2]at z;exact z
 have:=md e
 rw[qN0 t0 t1]at this;exact this
theorem Ci{p:Int}{xs:List Int}{k:Nat}(hp:Pm p)(hn:(xs.length:Int)<=p)(hk:k<xs.length):val p xs k=xs.getD k 0 % p:=md (uB (sX hp hn) hk)
theorem sgn(m:Nat):(-1:Int) ^ m=if m % 2=1 then -1 else 1:=by
 induction m with
 | zero=>rfl
 | succ m ih=>
   rw[Int.pow_succ,ih]
   by_cases c:m % 2=1
   . rw[zF0 c,zD0 (by omega)];rfl
   . rw[zD0 c,zF0 (by omega)];rfl
theorem Aj{p r v t s a b c d e:Int}{i m:Nat}{x y:Int}(ht:p ∣ t-s)(ha:p ∣ a-pr (fun j=>r-j) i)(hb:p ∣ b-pr (fun j=>r-(i+m:Nat)+j) m)(hc:p ∣ c-v*a*b)(hd:p ∣ d-x*y)(he:p ∣ e-(t+(if m % 2=1 then -(c*d)else c*d))) :
 p ∣ e-(s+v*px r i (i+m+1)*((-1) ^ m*(x*y))):=by
 rw[show i+m+1=i+1+m by omega,nh,sgn];rw[vt]at hb;generalize pr (fun j=>r-j) i=A at *
 generalize pr (fun j=>r-(i+1+j:Nat)) m=B at *
 obtain⟨t',ht⟩:=ht;obtain⟨a',ha⟩:=ha;obtain⟨b',hb⟩:=hb;obtain⟨c',hc⟩:=hc;obtain⟨d',hd⟩:=hd;obtain⟨e',he⟩:=he;have e1:c*d-v*(A*B)*(x*y)=p*(c'*d+v*(a'*b+A*b')*d+v*A*B*d'):=by grind
 by_cases z:m % 2=1
 . rw [zF0 z]at *
   exact⟨e'+t'-(c'*d+v*(a'*b+A*b')*d+v*A*B*d'),by grind⟩
 . rw [zD0 z]at *
   exact⟨e'+t'+(c'*d+v*(a'*b+A*b')*d+v*A*B*d'),by grind⟩
def IntsAt(H:Hp)(a:Addr)(xs:List Int):Prop:=H a=some (.lst (xs.map V.int))∨H a=some (.tup (xs.map V.int))
theorem IntsAt.same{H H':Hp}{a:Addr}{xs:List Int}(h:IntsAt H a xs)(s:Same H H'):IntsAt H' a xs:=h.elim (fun e=>.inl (s _ _ e)) (fun e=>.inr (s _ _ e))
theorem IntsAt.seq{K:W.Frag}{H:Hp}{a:Addr}{xs:List Int}(h:IntsAt H a xs):SqL K H a (xs.map V.int)∨SqT K H a (xs.map V.int):=h.elim (fun e=>.inl (zE0 e)) (fun e=>.inr (zB0 e))
theorem IntsAt.ix{K:W.Frag}{H:Hp}{a:Addr}{xs:List Int}{k:Nat}{Q:VK}(h:IntsAt H a xs)(hk:k<xs.length)(q:Q (.int (xs.getD k 0)) H):AD K (.ref a) (.int (k:Int)) H Q∨AC K (.ref a) (.int (k:Int)) H Q:=by
 have e:atI (xs.map V.int) (k:Int)=some (.int (xs.getD k 0)):=cg (by rw[qD0,zQ0 hk,qS0,zQ0 hk];rfl);rcases h with h | h
 . exact .inl ⟨a,_,_,_,rfl,rfl,zE0 h,e,q⟩
 . exact .inr ⟨a,_,_,_,rfl,rfl,zB0 h,e,q⟩
def Ab(xs:List Int)(p:Int):Prop:=1<=xs.length/\xs.length<=500/\(xs.length:Int)<=p/\∀k,0<=xs.getD k 0/\xs.getD k 0<2 ^ 40
def uV:Sp:=fun vs H Q _=>∃(a:Addr)(xs:List Int)(r p:Int),vs=[.ref a,.int r,.int p]/\IntsAt H a xs/\Ab xs p/\Pr p/\p<=999983/\0<=r/\r<p/\∀H',Same H H'->Q (.int (val p xs r)) H'
theorem bm:FnScope ["values","r","p","last","ahead","behind","shares","total","place","share","part"] ["values","r","p"] (ae cv):=⟨rfl,rfl,rfl,by decide +kernel,rfl,by decide +kernel,by decide +kernel⟩
theorem lZ {f:Addr} {fd:FuncData} (F:Fun K "value_behind" "value_behind" cv f fd) (B:Bl mg) (cV:Cal P w K mg base 1 "products" ["numbers","p"] tH) (d7:Cal P w K mg base 2 "inverse_factorials" ["last","p"] yf):FnOk P w K mg base CX0 3 f fd ["values","r","p"] uV:=by
 refine F.ok bm (fun vs H Q E h=>?_) (fun cdv A outer s H vs Q E hr h=>?_)
 . obtain⟨a,xs,r,p,rfl,_⟩:=h;rfl
 obtain ⟨a,xs,r,p,rfl,ha,⟨x1,x5,xp,xb⟩,pp,p9,r0,r1,q⟩:=h;refine⟨_,(ac (am (i:=3) bm.nd rfl (Or.inr rfl) (ag aV (aE aB rfl B.len PySem.boot_len (af (pv 0) aH)) aa))
  (ac (am (i:=4) bm.nd rfl (Or.inl rfl) (ai cV hr (by decide) rfl (af (cq (N:=["r"]) (ix:=[1]) rfl
   (CompScope.one (by with_unfolding_all rfl) (by decide) rfl (by decide) rfl (by decide +kernel) (by with_unfolding_all rfl) (by with_unfolding_all rfl) (by with_unfolding_all rfl) rfl rfl) rfl
   (bt rfl B.range (af (pv 3) aH)) (fun _ _ _=>cU (ag aV (pv 1) (pv 0)))) (af (pv 2) aH))))
  (ac (am (i:=5) bm.nd rfl (Or.inl rfl) (ai cV hr (by decide) rfl (af (cq (N:=["r","last"]) (ix:=[1,3]) rfl
   (CompScope.two (by with_unfolding_all rfl) (by decide) rfl (by decide) rfl (by decide +kernel) (by first | exact Or.inl rfl | exact Or.inr rfl) (by with_unfolding_all rfl) (by with_unfolding_all rfl) (by with_unfolding_all rfl) (by with_unfolding_all rfl) rfl rfl (by with_unfolding_all rfl) rfl rfl) rfl
   (bt rfl B.range (af (pv 3) aH)) (fun _ _ _=>cU (ag aW (ag aV (pv 1) (pv 2)) (pv 0)))) (af (pv 2) aH))))
  (ac (am (i:=6) bm.nd rfl (Or.inl rfl) (ai d7 hr (by decide) rfl (af (pv 3) (af (pv 2) aH))))
  (ac (am (i:=7) bm.nd rfl (Or.inl rfl) aa)
  (ac (bY PassesOwn.never rfl (bt rfl B.range (af (ag aW (pv 3) aa) aH)) (bd (i:=8) bm.nd rfl (Or.inl rfl)) (ac (am (i:=9) bm.nd rfl (Or.inl rfl) (ag aN (ag bg (aq ix_list (pv 6) (pv 8) (fun _ _=>rfl)) (aq ix_list (pv 6) (ag aV (pv 3) (pv 8)) (fun _ _=>rfl))) (pv 2)))
   (ac (am (i:=10) bm.nd rfl (Or.inl rfl) (ag bg (ag aN (ag bg (ag bg (aq (ix_list.or aC) (pv 0) (pv 8) (fun _ _=>rfl)) (aq ix_list (pv 4) (pv 8) (fun _ _=>rfl))) (aq ix_list (pv 5) (ag aV (pv 3) (pv 8)) (fun _ _=>rfl))) (pv 2)) (pv 9)))
   (ac (aJ (ah aM (ag aN (ag aV (pv 3) (pv 8)) aa) aa (aj _)) (ad (am (i:=10) bm.nd rfl (Or.inl rfl) (lK ja (pv 10)))) az)
   (ad (am (i:=7) bm.nd rfl (Or.inl rfl) (ag aN (ag aW (pv 7) (pv 10)) (pv 2))))))))
  (ad (av (pv 7))))))))),?_⟩
 have p2:=pp.1;have p1:1<p:=by omega
 have p0:0<p:=by omega
 have hP:=rH pp (by omega);obtain⟨L,hL⟩:∃L,xs.length=L+1:=⟨xs.length-1,by omega⟩
 have eL:(((xs.map V.int).length:Nat):Int)-1=(L:Int):=by rw[zH0];omega
 refine⟨_,rfl,a,_,rfl,ha.seq,_,_,rfl,rfl,?_⟩
 dsimp only
 rw[eL];refine⟨_,rfl,(L:Int),rfl,by omega,by omega,fun D hD=>?_⟩;refine cN (fun i H'=>H' D=some (.lst (((List.range i).map fun j:Nat=>r-j).map V.int))/\Same H H') ⟨by rw[aD];rfl,zC0 hD _⟩ ?_ ?_
 . rintro i H3 hi ⟨hD3,S3⟩;refine⟨_,rfl,_,rfl,_,_,rfl,rfl,_,hD3,?_,Nx.of hi ⟨?_,fun b o e=>?_⟩⟩
   . rw[zH0,zH0,qR0];exact aS (by omega)
   . rw[aD,List.range_succ,zK0,zK0,Int.zero_add];rfl
   . rw[ao (aO e hD)];exact S3 _ _ e
 rintro H1 ⟨hD1,S1⟩;rw[show((L:Int)).toNat=L from qO0 L]at hD1;refine⟨_,rfl,D,_,L,p,rfl,hD1,by omega,p1,by omega,fun la H2 la0 S2 hla=>?_⟩;refine⟨_,rfl,(L:Int),rfl,by omega,by omega,fun D2 hD2=>?_⟩;refine cN (fun i H'=>H' D2=some (.lst (((List.range i).map fun j:Nat=>r-(L:Int)+j).map V.int))/\Same H2 H') ⟨by rw[aD];rfl,zC0 hD2 _⟩ ?_ ?_
 . rintro i H3 hi ⟨hD3,S3⟩;refine⟨_,rfl,_,rfl,_,_,rfl,rfl,_,rfl,_,_,rfl,rfl,_,hD3,?_,Nx.of hi ⟨?_,fun b o e=>?_⟩⟩
   . rw[zH0,zH0,qR0];exact aS (by omega)
   . rw[aD,List.range_succ,zK0,zK0,Int.zero_add];rfl
   . rw[ao (aO e hD2)];exact S3 _ _ e
 rintro H3 ⟨hD3,S3⟩;rw[show((L:Int)).toNat=L from qO0 L]at hD3;refine⟨_,rfl,D2,_,L,p,rfl,hD3,by omega,p1,by omega,fun lb H4 lb0 S4 hlb=>?_⟩;refine⟨_,rfl,_,rfl,L,p,rfl,by omega,by omega,pp,p9,fun ls H5 sh ls0 S5 hsh hsr hls=>?_⟩;have S25:=S3.trans (S4.trans S5);have S05:=S1.trans (S2.trans S25);have hla5:=S25 _ _ hla;have hlb5:=S5 _ _ hlb;have ha5:=ha.same S05;have hW:=Ai hsh;refine⟨_,rfl,_,_,rfl,rfl,_,rfl,by omega,by omega,cS (fun i σ H'=>∃(t:Int)(x8 x9 x10:Option V),σ=[some (.ref a),some (.int r),some (.int p),some (.int L),some (.ref la),some (.ref lb),some (.ref ls),some (.int t),x8,x9,x10]/\0<=t/\t<p/\p ∣ t-sm (fun i=>xs.getD i 0*px r i (L+1)*((-1) ^ (L-i)*(sh i*sh (L-i)))) i/\H'=H5)
  ⟨0,_,_,_,rfl,by decide,p0,⟨0,by simp [sm]⟩,rfl⟩ ?_ ?_⟩
 . rintro i σ H6 hi ⟨t,x8,x9,x10,rfl,t0,t1,td,rfl⟩;have hi':i<L+1:=by omega
   obtain⟨m,hm⟩:∃m,L=i+m:=⟨L-i,by omega⟩
   have e0:(0:Int)+(i:Int)=(i:Int):=Int.zero_add _;have e1:(L:Int)-(0+(i:Int))=(m:Int):=by omega
   have r1':=hsr i;have r2':=hsr m;have ar:=kz p1 (fun j:Nat=>r-j) i;have br:=kz p1 (fun j:Nat=>r-(L:Int)+j) m;have xi:=xb i;have m1:∀z:Int,0<=z % p:=fun z=>zU0 _ (by omega)
   have m2:∀z:Int,z % p<p:=fun z=>zX0 _ p0
   refine ⟨_,rfl,_,rfl,ls,_,_,.int (sh i),rfl,rfl,zE0 hls,by rw[e0];exact uv hi',_,rfl,_,rfl,_,rfl,_,_,rfl,rfl,ls,_,_,.int (sh m),rfl,rfl,zE0 hls,by rw[e1];exact uv (by omega),_,_,rfl,rfl,.inl ⟨by omega,by omega⟩,_,rfl,_,_,rfl,rfl,p0,?_⟩;refine⟨_,rfl,_,rfl,?_⟩;rw[e0];refine ha5.ix (by omega) ?_;refine⟨_,rfl,_,rfl,la,_,_,.int (pmd p (fun j:Nat=>r-j) i),rfl,rfl,zE0 hla5,tT hi',_,_,rfl,rfl,.inl ⟨by omega,by omega⟩,?_⟩;refine⟨_,rfl,_,rfl,_,rfl,_,_,rfl,rfl,lb,_,_,.int (pmd p (fun j:Nat=>r-(L:Int)+j) m),rfl,rfl,zE0 hlb5,by rw[←e0,e1];exact tT (by omega),_,_,rfl,rfl,.inr ⟨by omega,by omega⟩,_,rfl,_,_,rfl,rfl,p0,?_⟩;have s1:=m1 (sh i*sh m);have s2:=m2 (sh i*sh m);refine⟨_,rfl,_,_,rfl,rfl,.inr ⟨by omega,by omega⟩,?_⟩;refine⟨_,rfl,_,rfl,_,_,rfl,rfl,_,_,rfl,rfl,(by show(0:Int)<_;decide),rfl,_,rfl,?_⟩;have fin:∀z:Int,z=(if m % 2=1 then -(xs.getD i 0*pmd p (fun j:Nat=>r-j) i*pmd p (fun j:Nat=>r-(L:Int)+j) m % p*(sh i*sh m % p))else xs.getD i 0*pmd p (fun j:Nat=>r-j) i*pmd p (fun j:Nat=>r-(L:Int)+j) m % p*(sh i*sh m % p)) ->
    p ∣ (t+z) % p-sm (fun i=>xs.getD i 0*px r i (L+1)*((-1) ^ (L-i)*(sh i*sh (L-i)))) (i+1):=fun z hz=>by
    show p ∣ _-(sm _ i+xs.getD i 0*px r i (L+1)*((-1) ^ (L-i)*(sh i*sh (L-i))))
    have em:L-i=m:=by omega
    have hb:p ∣ pmd p (fun j:Nat=>r-(L:Int)+j) m-pr (fun j=>r-(i+m:Nat)+j) m:=by
     rw[←hm];exact kA p _ m
    subst hz;rw[em];have el:L+1=i+m+1:=by omega
    rw[el]at td ⊢;exact Aj td (kA p _ i) hb (dm p _) (dm p _) (dm p _)
   by_cases c:m % 2=1
   . refine aU (congrArg V.int (by omega)) ?_;refine⟨_,rfl,_,rfl,?_⟩;refine⟨_,rfl,_,rfl,_,_,rfl,rfl,_,rfl,_,_,rfl,rfl,p0,?_⟩;exact⟨_,_,_,_,rfl,m1 _,m2 _,fin _ (by rw[zF0 c]),rfl⟩
   . refine au (fun z=>c (by have:=V.int.inj z;omega)) ?_;refine⟨_,rfl,_,rfl,_,_,rfl,rfl,_,rfl,_,_,rfl,rfl,p0,?_⟩;exact⟨_,_,_,_,rfl,m1 _,m2 _,fin _ (by rw[zD0 c]),rfl⟩
 . rintro σ H6 ⟨t,x8,x9,x10,rfl,t0,t1,td,rfl⟩;rw[show((L:Int)+1).toNat=L+1 by omega]at td;rw[←hL]at hW;have e:=Ch (r:=r) hP xp hW t0 t1 (by
    unfold lag;rw[hL];exact td)
   rw[e];exact⟨_,rfl,q H6 S05⟩
theorem q0:FnScope ["values","r","p","place"] ["values","r","p"] (ae eW):=⟨rfl,rfl,rfl,by decide +kernel,rfl,by decide +kernel,by decide +kernel⟩
theorem rM {f:Addr} {fd:FuncData} (F:Fun K "value_at" "value_at" eW f fd) (B:Bl mg) (gl:Cal P w K mg base 3 "value_behind" ["values","r","p"] uV):FnOk P w K mg base CX0 4 f fd ["values","r","p"] uV:=by
 refine F.ok q0 (fun vs H Q E h=>?_) (fun cdv A outer s H vs Q E hr h=>?_)
 . obtain⟨a,xs,r,p,rfl,_⟩:=h;rfl
 obtain ⟨a,xs,r,p,rfl,ha,ok,pp,p9,r0,r1,q⟩:=h;refine⟨_,(ac (am (i:=3) q0.nd rfl (Or.inl rfl) (ag aN (pv 1) (pv 2)))
  (ac (aJ (ah df (pv 3) (aE aB rfl B.len PySem.boot_len (af (pv 0) aH)) (aj _)) (ad (av (ag aN (aq (ix_list.or aC) (pv 0) (pv 3) (fun _ _=>rfl)) (pv 2)))) az)
  (ad (av (ai gl hr (by decide) rfl (af (pv 0) (af (pv 3) (af (pv 2) aH)))))))),?_⟩
 have p0:0<p:=by omega
 have hP:=rH pp (by omega);have er:r % p=r:=qN0 r0 r1;refine⟨_,rfl,_,rfl,_,_,rfl,rfl,p0,?_⟩
 dsimp only
 rw[er];refine⟨_,rfl,_,rfl,a,_,rfl,ha.seq,_,_,rfl,rfl,_,rfl,?_⟩;refine iV (fun c=>?_) (fun c=>?_)
 . have c':=of_decide_eq_true c;rw[zH0]at c';obtain⟨k,rfl⟩:∃k:Nat,r=(k:Int):=⟨r.toNat,by omega⟩
   refine⟨_,rfl,_,rfl,?_⟩;refine ha.ix (by omega) ?_;refine⟨_,rfl,_,_,rfl,rfl,p0,?_⟩;show Q (.int (xs.getD k 0 % p)) H;rw[←Ci hP ok.2.2.1 (by omega)];exact q H (Same.refl _)
 . exact⟨_,rfl,_,rfl,_,rfl,a,xs,r,p,rfl,ha,ok,pp,p9,r0,r1,q⟩
theorem IntsAt.sqB{K:W.Frag}{H:Hp}{a:Addr}{xs:List Int}(h:IntsAt H a xs):∃c,SqB K c H a (xs.map V.int):=h.elim (fun e=>⟨true,zE0 e⟩) (fun e=>⟨false,zB0 e⟩)
def hor(s p:Int):List Int->Int
 | []=>0
 | a::r=>(hor s p r*s+a) % p
theorem kH{s p:Int}(hp:0<p):∀ns,0<=hor s p ns/\hor s p ns<p
 | []=>⟨Int.le_refl 0,hp⟩
 | a::r=>⟨zU0 _ (by omega),zX0 _ hp⟩
def BF(C:Addr):Sp:=fun vs H Q _=>∃(g a b d l:Addr)(ns:List Int)(s p:Int),vs=[.ref g,.ref l,.int s]/\GameAt C H g a b d p/\0<p/\p<2 ^ 40/\IntsAt H l ns/\Q (.int (hor s p ns)) H
theorem qM:FnScope ["self","numbers","s","total","number"] ["self","numbers","s"] (ae ld):=⟨rfl,rfl,rfl,by decide +kernel,rfl,by decide +kernel,by decide +kernel⟩
theorem AU {f C:Addr} {fd:FuncData} (F:Fun K "mix" "Game.mix" ld f fd) (T:GTxt K mg C) (hrev:mg "reversed"=none):FnOk P w K mg base CX0 1 f fd ["self","numbers","s"] (BF C):=by
 refine F.ok qM (fun vs H Q E h=>?_) (fun cdv A outer s H vs Q E hr h=>?_)
 . obtain⟨g,a,b,d,l,ns,s,p,rfl,_⟩:=h;rfl
 obtain ⟨g,a,b,d,l,ns,s,p,rfl,⟨dx,hg⟩,p0,p40,hl,q⟩:=h;refine⟨_,(ac (am (i:=3) qM.nd rfl (Or.inl rfl) aa)
  (ac (bY PassesOwn.never rfl (vv rfl hrev (pv 1)) (bd (i:=4) qM.nd rfl (Or.inl rfl)) (ad (am (i:=3) qM.nd rfl (Or.inl rfl) (ag aN (ag aW (ag bg (pv 3) (pv 2)) (pv 4)) (aG (pv 0) rfl)))))
  (ad (av (pv 3))))),?_⟩
 obtain ⟨c,hl⟩:=hl.sqB (K:=K);refine⟨_,rfl,c,l,_,rfl,hl,sE (K:=K) (c:=c) (xs:=ns.map V.int) (fun i σ H'=>∃(x4:Option V)(t:Int),σ=[some (.ref g),some (.ref l),some (.int s),some (.int t),x4]/\t=hor s p (ns.drop (ns.length-i))/\H'=H)
  ⟨_,0,rfl,by rw[Nat.sub_zero,List.drop_length];rfl,rfl⟩ (fun i σ H' _ hst=>by obtain⟨_,_,_,_,h⟩:=hst;subst h;exact hl) ?_ ?_⟩
 . rintro i z σ H1 hi hz ⟨x4,t,rfl,rfl,rfl⟩;rw[zH0]at hi;rw[←List.map_reverse,qD0]at hz;obtain⟨x,hx,rfl⟩:=qW0 hz;rw[List.getElem?_reverse hi]at hx;have hr2:=kH (s:=s) p0 (ns.drop (ns.length-i));refine⟨_,rfl,_,rfl,_,_,rfl,rfl,.inl ⟨by omega,by omega⟩,_,rfl,_,_,rfl,rfl,_,rfl,g,C,dx,_,_,rfl,hg,T.cl,T.nF,jR ..,_,_,rfl,rfl,p0,?_⟩;refine⟨_,_,rfl,?_,rfl⟩;have hj:ns.length-1-i<ns.length:=by omega
   have ed:ns.drop (ns.length-(i+1))=x::ns.drop (ns.length-i):=by
    have e1:ns.length-(i+1)=ns.length-1-i:=by omega
    have e2:ns.length-i=ns.length-1-i+1:=by omega
    rw[e1,e2,List.drop_eq_getElem_cons hj]
    congr 1
    rw[zQ0 hj]at hx;exact zR0 hx
   rw[ed];rfl
 . rintro σ H1 ⟨x4,t,rfl,rfl,rfl⟩;rw[zH0,Nat.sub_self,List.drop_zero];exact⟨_,rfl,q⟩
def BC(C:Addr):Sp:=fun vs H Q _=>∃(g a b d r:Addr)(ns:List Str)(tv:List V)(ts:List Tr)(pt:List Int)(s p:Int),vs=[.ref g,.ref r,.int s]/\GameAt C H g a b d p/\1<p/\p<2 ^ 40/\H a=some (.tup (ns.map V.str))/\H b=some (.tup tv)/\TreesAt H tv ts/\ts.length<=10/\(∀t∈ts,t.ok ns/\t.depth<=10)/\
 H r=some (.tup (pt.map V.int))/\pt.length=ns.length/\ft pt p/\∀H',Same H H'->Q (.int (hor s p (ts.map fun t=>t.worth ns pt p))) H'
theorem wb:FnScope ["self","point","s"] ["self","point","s"] (ae ip):=⟨rfl,rfl,rfl,by decide +kernel,rfl,by decide +kernel,by decide +kernel⟩
theorem wG {f fm C:Addr} {fd fdm:FuncData} (F:Fun K "worth_at" "Game.worth_at" ip f fd) (T:GTxt K mg C) (mM:Meth K C "mix" fm) (GM:FnOk P w K mg base CX0 1 fm fdm ["self","numbers","s"] (BF C)) (bM:Binds K fdm ["self","numbers","s"] []) (eI:Cal P w K mg base 12 "worth_of" ["tree","switches","point","p"] (ju 10)):FnOk P w K mg base CX0 13 f fd ["self","point","s"] (BC C):=by
 refine F.ok wb (fun vs H Q E h=>?_) (fun cdv A outer s H vs Q E hr h=>?_)
 . obtain⟨g,a,b,d,r,ns,tv,ts,pt,s,p,rfl,_⟩:=h;rfl
 obtain ⟨g,a,b,d,r,ns,tv,ts,pt,s,p,rfl,⟨dx,hg⟩,p1,p40,ha,hb,TS,t10,tok,hr0,pl,po,q⟩:=h;have hr1:Room 1 _:=hr.mono (by decide);refine⟨_,(ad (av (dG (pv 0) T.cl mM GM hr1 bM .nil ee (af (cq (N:=["self","point"]) (ix:=[0,1]) rfl
  (CompScope.two (by with_unfolding_all rfl) (by decide) rfl (by decide) rfl (by decide +kernel) (by first | exact Or.inl rfl | exact Or.inr rfl) (by with_unfolding_all rfl) (by with_unfolding_all rfl) (by with_unfolding_all rfl) (by with_unfolding_all rfl) rfl rfl (by with_unfolding_all rfl) rfl rfl) rfl
  (jm (aG (pv 0) rfl)) (fun _ _ _=>cU (ai eI hr (by decide) rfl (af (pv 0) (af (mo K (pv 1)) (af (pv 2) (af (mo K (pv 1)) aH))))))) (af (pv 2) aH))))),?_⟩
 have vl:=TS.length;refine⟨_,rfl,g,dx,_,rfl,hg,zN _ _ _ _ (by decide +kernel) (by decide +kernel) (by decide +kernel) (by decide +kernel),?_⟩;refine⟨_,rfl,g,C,dx,_,_,rfl,hg,T.cl,T.nT,pC ..,b,rfl,⟨_,zB0 hb⟩,fun D hD=>?_⟩;refine kI (K:=K) (xs:=tv) (fun i H'=>H' D=some (.lst (((ts.take i).map fun t=>t.worth ns pt p).map V.int))/\Same H H') ⟨by rw[aD];rfl,zC0 hD _⟩ (fun i H' _ h=>zB0 (h.2 _ _ hb)) ?_ ?_
 . rintro i z H2 hz ⟨hl,S2⟩;obtain⟨t,ht,Tt⟩:=TS.get hz;obtain⟨tk,td⟩:=tok t (qE0 ht);have hi:i<tv.length:=(zW0 hz).1;refine⟨_,rfl,_,rfl,g,C,dx,_,_,rfl,S2 _ _ hg,T.cl,T.nS,nX ..,_,rfl,_,rfl,g,C,dx,_,_,rfl,S2 _ _ hg,T.cl,T.nF,jR ..,z,t,a,r,ns,pt,p,rfl,Tt.mono (aY S2),tk,td,.inr (S2 _ _ ha),S2 _ _ hr0,pl,p1,p40,po,?_⟩;refine⟨_,hl,?_,Nx.of hi ⟨?_,fun b' o' e'=>?_⟩⟩
   . rw[zH0,zH0,qM0];exact aS (by omega)
   . rw[aD,qJ0,ht,zK0,zK0];rfl
   . rw[ao (aO e' hD)];exact S2 _ _ e'
 . rintro H2 ⟨hl,S2⟩;rw[vl,qI0]at hl;exact⟨_,rfl,g,a,b,d,D,_,s,p,rfl,⟨dx,S2 _ _ hg⟩,by omega,p40,.inl hl,q H2 S2⟩
def Gm(CG:Addr)(H:Hp)(g:Addr)(ns:List Str)(ts:List Tr)(p:Int):Prop:=∃(a b d:Addr)(tv:List V),GameAt CG H g a b d p/\H a=some (.tup (ns.map V.str))/\H b=some (.tup tv)/\TreesAt H tv ts/\H d=some (.lst ((ns.map (bK ts)).map V.int))
theorem Gm.same{CG:Addr}{H H':Hp}{g:Addr}{ns:List Str}{ts:List Tr}{p:Int}(h:Gm CG H g ns ts p)(s:Same H H'):Gm CG H' g ns ts p:=by
 obtain⟨a,b,d,tv,h1,h2,h3,h4,h5⟩:=h;exact⟨a,b,d,tv,h1.same s,s _ _ h2,s _ _ h3,h4.mono (aY s),s _ _ h5⟩
theorem Bi (a b:Addr) (p:Int) (d:Addr):(gf a b p d).lookup ("game":Str)=none:=zN _ _ _ _ (by decide +kernel) (by decide +kernel) (by decide +kernel) (by decide +kernel)
structure GmK(ns:List Str)(ts:List Tr)(p:Int):Prop where
 pr:Pr p
 p2:2<p
 p9:p<=999983
 n10:ns.length<=10
 t1:1<=ts.length
 t10:ts.length<=10
 tok:∀t∈ts,t.ok ns/\t.wf/\t.depth<=10/\t.size<=400
 tp:(ts.length:Int)<=p
 tc:∀t∈ts,∀x∈ns,(t.names.count x:Int)<p
theorem GmK.deg{ns:List Str}{ts:List Tr}{p:Int}(k:GmK ns ts p):∀x∈ns,0<=bK ts x/\bK ts x<p:=fun x hx=>by
 have t0:ts≠[]:=fun z=>by have:=k.t1;rw[z]at this;cases this
 refine⟨?_,oj t0 fun t ht=>k.tc t ht x hx⟩
 have:=kE (ns:=ts.map fun t=>(t.names.count x:Int)) (by simpa using t0)
 obtain⟨t,_,e⟩:=List.mem_map.mp this;unfold bK;rw[←e];omega
theorem vA{xs:List Int}{j:Nat}(h:j<xs.length):atI (xs.map V.int) (j:Int)=some (.int (xs.getD j 0)):=cg (by rw[qD0,zQ0 h,qS0,zQ0 h];rfl)
def iQ (o:Str) (p q:Bool):Bool:=if o="and" then p&&q else if o="or" then p||q else if o="odd" then p != q else p==q
def Tr.holds(ns:List Str)(st:List Int):Tr->Bool
 | .is x=>match cO x ns with | some j=>decide (st.getD j 0=1) | none=>false
 | .yes=>true
 | .no=>false
 | .not a=>!a.holds ns st
 | .bin o a b=>iQ o (a.holds ns st) (b.holds ns st)
def mK:Sp:=fun vs H Q _=>∃(o:Str)(p q:Bool),vs=[.str o,.bl p,.bl q]/\Q (.bl (iQ o p q)) H
theorem vZ:FnScope ["word","first","second"] ["word","first","second"] (ae io):=⟨rfl,rfl,rfl,by decide +kernel,rfl,by decide +kernel,by decide +kernel⟩
theorem wF {f:Addr} {fd:FuncData} (F:Fun K "joined" "joined" io f fd):FnOk P w K mg base CX0 1 f fd ["word","first","second"] mK:=by
 refine F.ok vZ (fun vs H Q E h=>?_) (fun cdv A outer s H vs Q E hr h=>?_)
 . obtain⟨o,p,q,rfl,_⟩:=h;rfl
 obtain ⟨o,p,q,rfl,k⟩:=h;refine⟨_,(ac (aJ (ah aM (pv 0) ax (aj _)) (ad (av (lq (pv 1) (jT (pv 2))))) az)
  (ac (aJ (ah aM (pv 0) ax (aj _)) (ad (av (BO (pv 1) (jT (pv 2))))) az)
  (ac (aJ (ah aM (pv 0) ax (aj _)) (ad (av (cr jP (pv 1) (pv 2) (aj _)))) az)
  (ad (av (cr aM (pv 1) (pv 2) (aj _))))))),?_⟩
 refine⟨_,rfl,rfl,_,rfl,?_⟩
 by_cases c1:V.str o=V.str "and"
 . refine aU c1 ?_;have e:iQ o p q=(p&&q):=by unfold iQ;rw[zF0 (gU c1)]
   rw[e]at k;refine⟨_,rfl,p,rfl,?_⟩;cases p with
   | true=>exact fq ⟨_,rfl,by simpa using k⟩
   | false=>exact dD (by simpa using k)
 refine au c1 ?_;have n1:¬ o="and":=fun z=>c1 (by rw[z])
 refine⟨_,rfl,rfl,_,rfl,?_⟩
 by_cases c2:V.str o=V.str "or"
 . refine aU c2 ?_;have e:iQ o p q=(p||q):=by unfold iQ;rw[zD0 n1,zF0 (gU c2)]
   rw[e]at k;refine⟨_,rfl,p,rfl,?_⟩;cases p with
   | true=>exact fq (by simpa using k)
   | false=>exact dD ⟨_,rfl,by simpa using k⟩
 refine au c2 ?_;have n2:¬ o="or":=fun z=>c2 (by rw[z])
 refine⟨_,rfl,rfl,_,rfl,?_⟩
 by_cases c3:V.str o=V.str "odd"
 . refine aU c3 ?_;have e:iQ o p q=(p != q):=by unfold iQ;rw[zD0 n1,zD0 n2,zF0 (gU c3)]
   rw[e]at k;refine⟨_,rfl,_,rfl,rfl,?_⟩;have e2:(!decide (V.bl p=V.bl q))=(p != q):=by cases p <;> cases q <;> decide
   show Q (.bl (!decide (V.bl p=V.bl q))) H;rw[e2];exact k
 refine au c3 ?_;have n3:¬ o="odd":=fun z=>c3 (by rw[z])
 have e:iQ o p q=(p==q):=by unfold iQ;rw[zD0 n1,zD0 n2,zD0 n3]
 rw[e]at k;refine⟨_,rfl,_,rfl,rfl,?_⟩;have e2:decide (V.bl p=V.bl q)=(p==q):=by cases p <;> cases q <;> decide
 show Q (.bl (decide (V.bl p=V.bl q))) H;rw[e2];exact k
def iG(n:Nat):Sp:=fun vs H Q _=>∃(v:V)(t:Tr)(a b:Addr)(ns:List Str)(st:List Int),vs=[v,.ref a,.ref b]/\TreeAt H v t/\t.ok ns/\t.depth<=n/\NamesAt H a ns/\H b=some (.tup (st.map V.int))/\st.length=ns.length/\Q (.bl (t.holds ns st)) H
theorem je:FnScope ["tree","switches","setting","word","first"] ["tree","switches","setting"] (ae dM):=⟨rfl,rfl,rfl,by decide +kernel,rfl,by decide +kernel,by decide +kernel⟩
theorem uG {n:Nat} {f:Addr} {fd:FuncData} (F:Fun K "holds_at" "holds_at" dM f fd) (gn:Cal P w K mg base 1 "joined" ["word","first","second"] mK) (b9:Cal P w K mg base (n+2) "holds_at" ["tree","switches","setting"] (iG n)):FnOk P w K mg base CX0 (n+3) f fd ["tree","switches","setting"] (iG (n+1)):=by
 refine F.ok je (fun vs H Q E h=>?_) (fun cdv A outer s H vs Q E hr h=>?_)
 . obtain⟨v,t,a,b,ns,st,rfl,_⟩:=h;rfl
 obtain ⟨v,t,a,b,ns,st,rfl,T,ok,dn,hN,hb,sl,k⟩:=h;refine⟨_,(ac (am (i:=3) je.nd rfl (Or.inl rfl) (aq aC (pv 0) aa (fun _ _=>rfl)))
  (ac (aJ (ah aM (pv 3) ax (aj _)) (ad (av (cr aM (aq aC (pv 2) (rJ PySem.F.plainAttrs_list PySem.F.plainAttrs_tuple (pv 1) (af (aq aC (pv 0) aa (fun _ _=>rfl)) aH)) (fun _ _=>rfl)) aa (aj _)))) az)
  (ac (aJ (PW.pt (gI (ah aM (pv 3) ax (aj _)) (fV (ah aM (pv 3) ax (aj _))))) (ad (av (cr aM (pv 3) ax (aj _)))) az)
  (ac (am (i:=4) je.nd rfl (Or.inl rfl) (ai b9 hr (zG0 _) rfl (af (aq aC (pv 0) aa (fun _ _=>rfl)) (af (pv 1) (af (pv 2) aH)))))
  (ac (aJ (ah aM (pv 3) ax (aj _)) (ad (av (ql (pv 4)))) az)
  (ad (av (ai gn hr (by omega) rfl (af (pv 3) (af (pv 4) (af (ai b9 hr (zG0 _) rfl (af (aq aC (pv 0) aa (fun _ _=>rfl)) (af (pv 1) (af (pv 2) aH)))) aH))))))))))),?_⟩
 cases T with
 | @is p x e=>
   refine⟨_,rfl,p,_,0,_,rfl,rfl,zB0 e,rfl,?_⟩;refine⟨_,rfl,rfl,_,rfl,?_⟩;refine aU rfl ?_;obtain⟨j,hj,jl⟩:=fk ok;have jl':j<st.length:=by omega
   refine⟨_,rfl,_,rfl,a,ns,rfl,hN,_,rfl,p,_,1,_,rfl,rfl,zB0 e,rfl,rfl,x,j,rfl,hj,b,_,(j:Int),.int st[j],rfl,rfl,zB0 hb,?_,rfl,?_⟩
   . refine cg ?_;rw[qD0,zQ0 jl'];rfl
   . have e1:(Tr.is x).holds ns st=decide (V.int st[j]=V.int 1):=by
      show(match cO x ns with | some j=>decide (st.getD j 0=1) | none=>false)=_;rw[hj];show decide (st.getD j 0=1)=_;rw[qS0,zQ0 jl']
      simp
     rw[e1]at k;exact k
 | @yes p e=>
   refine⟨_,rfl,p,_,0,_,rfl,rfl,zB0 e,rfl,?_⟩;refine⟨_,rfl,rfl,_,rfl,?_⟩;refine au (by decide +kernel) ?_;refine⟨_,rfl,rfl,_,rfl,?_⟩;refine aU rfl (fq ?_);exact⟨_,rfl,rfl,k⟩
 | @no p e=>
   refine⟨_,rfl,p,_,0,_,rfl,rfl,zB0 e,rfl,?_⟩;refine⟨_,rfl,rfl,_,rfl,?_⟩;refine au (by decide +kernel) ?_;refine⟨_,rfl,rfl,_,rfl,?_⟩;refine au (by decide +kernel) ?_;refine⟨_,rfl,rfl,_,rfl,?_⟩;refine aU rfl ?_;refine⟨_,rfl,rfl,?_⟩;have e1:decide (V.str "no"=V.str "yes")=false:=by decide +kernel
   show Q (.bl (decide (V.str "no"=V.str "yes"))) H;rw[e1];exact k
 | @not p u r e T1=>
   have dp:r.depth+1<=n+1:=dn;refine⟨_,rfl,p,_,0,_,rfl,rfl,zB0 e,rfl,?_⟩;refine⟨_,rfl,rfl,_,rfl,?_⟩;refine au (by decide +kernel) ?_;refine⟨_,rfl,rfl,_,rfl,?_⟩;refine au (by decide +kernel) ?_;refine⟨_,rfl,rfl,_,rfl,?_⟩;refine au (by decide +kernel) ?_;refine⟨_,rfl,p,_,1,_,rfl,rfl,zB0 e,rfl,_,rfl,_,rfl,u,r,a,b,ns,st,rfl,T1,ok,by omega,hN,hb,sl,?_⟩;refine⟨_,rfl,rfl,_,rfl,?_⟩;refine aU rfl ?_;exact⟨_,rfl,_,rfl,k⟩
 | @bin p o u u2 r r2 e T1 T2=>
   obtain⟨ho,ok1,ok2⟩:=ok;have dp:max r.depth r2.depth+1<=n+1:=dn;have ne:∀z:Str,z∉joinW->¬ V.str o=V.str z:=fun z hz h=>hz (gU h▸ho)
   refine⟨_,rfl,p,_,0,_,rfl,rfl,zB0 e,rfl,?_⟩;refine⟨_,rfl,rfl,_,rfl,?_⟩;refine au (ne _ (by decide +kernel)) ?_;refine⟨_,rfl,rfl,_,rfl,?_⟩;refine au (ne _ (by decide +kernel)) ?_;refine⟨_,rfl,rfl,_,rfl,?_⟩;refine au (ne _ (by decide +kernel)) ?_;refine⟨_,rfl,p,_,1,_,rfl,rfl,zB0 e,rfl,_,rfl,_,rfl,u,r,a,b,ns,st,rfl,T1,ok1,by omega,hN,hb,sl,?_⟩;refine⟨_,rfl,rfl,_,rfl,?_⟩;refine au (ne _ (by decide +kernel)) ?_;refine⟨_,rfl,_,rfl,_,rfl,p,_,2,_,rfl,rfl,zB0 e,rfl,_,rfl,_,rfl,u2,r2,a,b,ns,st,rfl,T2,ok2,by omega,hN,hb,sl,?_⟩;exact⟨o,_,_,rfl,k⟩
theorem uF {f:Addr} {fd:FuncData}:FnOk P w K mg base CX0 2 f fd ["tree","switches","setting"] (iG 0):=by
 have no:∀vs H Q E,¬ iG 0 vs H Q E:=fun vs H Q E h=>by
  obtain⟨v,t,_,_,_,_,_,_,_,h1,_⟩:=h
  have:=t.depth_pos
  omega
 exact⟨fun vs H Q E h=>absurd h (no vs H Q E),fun A outer s H args us vs Q E _ _ _ _ h=>absurd h (no vs H Q E)⟩
theorem lP {f:Addr} {fd:FuncData} (F:Fun K "holds_at" "holds_at" dM f fd) (m:mg "holds_at"=some (.ref f)) (gn:Cal P w K mg base 1 "joined" ["word","first","second"] mK) :
 ∀n:Nat,FnOk P w K mg base CX0 (n+2) f fd ["tree","switches","setting"] (iG n)
 | 0=>uF
 | n+1=>uG F gn (Cal.of F (lP F m gn n) m (fun _ _ _ _ _ _ us hl=>by obtain⟨u0,u1,u2,rfl⟩:=fY hl;rfl))
def Ce(H:Hp)(v:V)(s:List Int):Prop:=∃a,v=.ref a/\H a=some (.tup (s.map V.int))
abbrev TupsAt(H:Hp):List V->List (List Int)->Prop:=PySem.Paired (Ce H)
def qL(H:Hp)(r:Addr)(ss:List (List Int)):Prop:=∃rs,H r=some (.lst rs)/\TupsAt H rs ss
theorem TupsAt.mono{H H':Hp}(k:∀a xs,H a=some (.tup xs)->H' a=some (.tup xs)):∀{rs:List V}{ss:List (List Int)},TupsAt H rs ss->TupsAt H' rs ss
 | _,_,.nil=>.nil
 | _,_,.cons ⟨a,e,h⟩ t=>.cons ⟨a,e,k _ _ h⟩ (TupsAt.mono k t)
theorem TupsAt.get{H:Hp}:∀{rs:List V}{ss:List (List Int)}{i:Nat}{v:V},TupsAt H rs ss->rs[i]?=some v->∃s,ss[i]?=some s/\Ce H v s
 | _,_,_,_,.nil,h=>by simp at h
 | _,_,0,_,.cons h _,e=>by
   simp at e
   subst e;exact⟨_,rfl,h⟩
 | _,_,i+1,v,.cons _ t,e=>by
   obtain⟨s,h1,h2⟩:=TupsAt.get (i:=i) t (by simpa using e);exact⟨s,by simpa using h1,h2⟩
theorem wV{H H':Hp}{b:Addr}{ys:List V}(s:SameBut b H H')(h:H b=some (.lst ys)∨H b=none):∀a xs,H a=some (.tup xs)->H' a=some (.tup xs):=fun a xs e=>s a _ (fun z=>by
 rw[z]at e;rcases h with h | h
 . rw[h]at e;cases e
 . rw[h]at e;cases e) e
theorem sO{K:W.Frag}{H1:Hp}{a p:Addr}{s:List Int}{z:Int}{Q:VK}(ha:H1 a=some (.tup (s.map V.int)))(hp:H1 p=some (.tup [.int z]))(hl:s.length<=100)
 (q:∀t H2,Same H1 H2->H2 t=some (.tup ((s++[z]).map V.int))->Q (.ref t) H2):rE K (.ref a) (.ref p) H1 Q∨mZ K (.ref a) (.ref p) H1 Q:=by
 cases s with
 | nil=>exact .inr ⟨a,p,_,rfl,rfl,zB0 ha,zB0 hp,q p H1 (Same.refl _) hp⟩
 | cons x r=>
   refine .inl ⟨a,p,_,_,rfl,rfl,zB0 ha,zB0 hp,by simp,cp (by simp at hl ⊢;omega),(fun z=>nomatch z),(fun _ t ht=>q t _ (zC0 ht _) ?_)⟩;rw[aD,zK0];rfl
def pT:Sp:=fun vs H Q _=>∃n:Int,vs=[.int n]/\0<=n/\n<=6/\∀(r:Addr)(H':Hp),H r=none->Same H H'->qL H' r (bJ n.toNat)->Q (.ref r) H'
theorem b7:FnScope ["n","told","switch","longer","setting"] ["n"] (ae cB):=⟨rfl,rfl,rfl,by decide +kernel,rfl,by decide +kernel,by decide +kernel⟩
theorem mf {f:Addr} {fd:FuncData} (F:Fun K "all_settings" "all_settings" cB f fd) (hrange:mg "range"=none):FnOk P w K mg base CX0 1 f fd ["n"] pT:=by
 refine F.ok b7 (fun vs H Q E h=>?_) (fun cdv A outer s H vs Q E hr h=>?_)
 . obtain⟨n,rfl,_⟩:=h;rfl
 obtain ⟨n,rfl,n0,n6,q⟩:=h;refine⟨_,(ac (am (i:=1) b7.nd rfl (Or.inl rfl) (bL (af (aX aH) aH)))
  (ac (bY PassesOwn.never rfl (bt rfl hrange (af (pv 0) aH)) (bd (i:=2) b7.nd rfl (Or.inl rfl)) (ac (am (i:=3) b7.nd rfl (Or.inl rfl) (bL aH))
   (ac (bY PassesOwn.never rfl (dZ (pv 1)) (bd (i:=4) b7.nd rfl (Or.inl rfl)) (ac (bE (dW PySem.F.plainAttrs_list PySem.F.slot_list_append PySem.F.type_list_append bu (pv 3) (af (ag (op_catT.or nv) (pv 4) (aX (af aa aH))) aH)))
    (ad (bE (dW PySem.F.plainAttrs_list PySem.F.slot_list_append PySem.F.type_list_append bu (pv 3) (af (ag (op_catT.or nv) (pv 4) (aX (af aa aH))) aH))))))
   (ad (am (i:=1) b7.nd rfl (Or.inl rfl) (pv 3))))))
  (ad (av (pv 1))))),?_⟩
 refine ⟨(by show 0<=sizeLine;decide),fun p hp=>?_⟩;refine⟨(by show 1<=sizeLine;decide),fun a ha=>?_⟩;have np:p≠a:=fun z=>by
  subst z;rw[aD]at ha;cases ha
 have ha0:H a=none:=(zC0 hp _).free ha;refine⟨_,rfl,n,rfl,by omega,by omega,cS (fun i σ H'=>∃(a:Addr)(x2 x3 x4:Option V),σ=[some (.int n),some (.ref a),x2,x3,x4]/\H a=none/\Same H H'/\qL H' a (bJ i))
  ⟨a,_,_,_,rfl,ha0,(zC0 hp _).trans (zC0 ha _),[.ref p],aD,.cons ⟨p,rfl,by rw[ao np,aD];rfl⟩ .nil⟩ ?_ ?_⟩
 . rintro i σ H' hi ⟨a,x2,x3,x4,rfl,a0,s0,rs,hrs,T⟩;have i6:i<6:=by omega
   have sl:=jv i;have s64:=lm (n:=i) (by omega);refine⟨(by show 0<=sizeLine;decide),fun b hb=>?_⟩;have ab:a≠b:=aO hrs hb;refine⟨_,rfl,a,rfl,⟨_,zE0 (by rw[ao ab];exact hrs)⟩,jq (K:=K) (xs:=rs) (fun j σ H2=>∃(x4:Option V)(bs:List V),σ=[some (.int n),some (.ref a),some (.int (0+(i:Int))),some (.ref b),x4]/\SameBut b H' H2/\H2 b=some (.lst bs)/\TupsAt H2 bs (((bJ i).take j).flatMap fun s=>[s++[0],s++[1]]))
    ⟨_,[],rfl,SameBut.upd _,aD,.nil⟩ (fun j σ H2 _ hst=>by obtain⟨_,_,_,sb,_⟩:=hst;exact zE0 (sb a _ ab hrs)) ?_ ?_⟩
   . rintro j y σ H2 hj ⟨x4,bs,rfl,sb,hbs,TB⟩;have T2:TupsAt H2 rs (bJ i):=T.mono (wV (ys:=[]) sb (.inr hb));obtain⟨s,hs,t,rfl,ht⟩:=T2.get hj;have hsm:s∈bJ i:=qE0 hs;have hsl:=dF i s hsm;have hbl:=TB.length;rw[lx,qM0]at hbl;refine⟨_,rfl,.inl ⟨rfl,_,zE0 hbs⟩,?_⟩;refine⟨_,rfl,(by show 1<=sizeLine;decide),fun p1 hp1=>?_⟩;have S1:Same H2 (upd H2 p1 (.tup [.int 0])):=zC0 hp1 _;refine sO (s:=s) (z:=0) (S1 _ _ ht) aD (by omega) fun t1 H3 S3 e3=>?_
     have S13:Same H2 H3:=S1.trans S3;refine⟨b,bs,_,rfl,rfl,S13 _ _ hbs,aS (by omega),?_⟩;have K4:=gB (H:=H3) (b:=b) (ys:=bs) (zs:=bs++[.ref t1]) (S13 _ _ hbs);have e4:=K4 _ _ e3;have t4:=K4 _ _ (S13 _ _ ht);refine⟨_,rfl,.inl ⟨rfl,_,zE0 aD⟩,?_⟩;refine⟨_,rfl,(by show 1<=sizeLine;decide),fun p2 hp2=>?_⟩;have S4:Same (upd H3 b (.lst (bs++[.ref t1]))) (upd (upd H3 b (.lst (bs++[.ref t1]))) p2 (.tup [.int 1])):=zC0 hp2 _;refine sO (s:=s) (z:=1) (S4 _ _ t4) aD (by omega) fun t2 H5 S5 e5=>?_
     have S45:=S4.trans S5;have hb5:H5 b=some (.lst (bs++[.ref t1])):=S45 _ _ aD;refine⟨b,bs++[.ref t1],_,rfl,rfl,hb5,aS (by rw[zL0,qQ0];omega),?_⟩;have K6:=gB (H:=H5) (b:=b) (ys:=bs++[.ref t1]) (zs:=bs++[.ref t1]++[.ref t2]) hb5;refine⟨_,bs++[.ref t1]++[.ref t2],rfl,?_,aD,?_⟩
     . have q1:SameBut b H' H3:=sb.trans (zJ0 S13);have q2:SameBut b H' H5:=(q1.trans (SameBut.upd _)).trans (zJ0 S45);exact q2.trans (SameBut.upd _)
     . have hbase:TupsAt (upd H5 b (.lst (bs++[.ref t1]++[.ref t2]))) bs (((bJ i).take j).flatMap fun s=>[s++[0],s++[1]]):=
        TB.mono fun a xs e=>K6 _ _ (S45 _ _ (K4 _ _ (S13 _ _ e)))
       rw[qJ0,hs,List.flatMap_append];have e:((some s).toList.flatMap fun s:List Int=>[s++[0],s++[1]])=[s++[0]]++[s++[1]]:=by simp
       rw[e,←List.append_assoc];exact(hbase.snoc ⟨t1,rfl,K6 _ _ (S45 _ _ e4)⟩).snoc ⟨t2,rfl,K6 _ _ e5⟩
   . rintro σ H2 ⟨x4,bs,rfl,sb,hbs,TB⟩;have rl:=T.length;rw[rl,qI0]at TB;exact⟨_,rfl,b,_,_,_,rfl,s0.free hb,s0.but (s0.free hb) sb,bs,hbs,TB⟩
 . rintro σ H' ⟨a,x2,x3,x4,rfl,a0,s0,S⟩;exact⟨_,rfl,q a H' a0 s0 S⟩
def cnt(t:Tr)(ns:List Str):Nat:=((bJ ns.length).filter fun st=>t.holds ns st).length
def vg:Sp:=fun vs H Q _=>∃(v:V)(t:Tr)(a:Addr)(ns:List Str),vs=[v,.ref a]/\TreeAt H v t/\t.ok ns/\t.depth<=12/\NamesAt H a ns/\ns.length<=6/\∀H',Same H H'->Q (.int (cnt t ns:Int)) H'
theorem q8:FnScope ["tree","switches","holding"] ["tree","switches"] (ae fi):=⟨rfl,rfl,rfl,by decide +kernel,rfl,by decide +kernel,by decide +kernel⟩
theorem rT {f:Addr} {fd:FuncData} (F:Fun K "count_of" "count_of" fi f fd) (hlen:mg "len"=none) (cJ:Cal P w K mg base 1 "all_settings" ["n"] pT) (b9:Cal P w K mg base 14 "holds_at" ["tree","switches","setting"] (iG 12)):FnOk P w K mg base CX0 15 f fd ["tree","switches"] vg:=by
 refine F.ok q8 (fun vs H Q E h=>?_) (fun cdv A outer s H vs Q E hr h=>?_)
 . obtain⟨v,t,a,ns,rfl,_⟩:=h;rfl
 obtain ⟨v,t,a,ns,rfl,T,ok,dp,hN,nl,q⟩:=h;refine⟨_,(ac (qf (i:=2) (N:=["tree","switches"]) (ix:=[0,1]) q8.nd rfl (Or.inl rfl) rfl
  (CompScope.two (by with_unfolding_all rfl) (by decide) rfl (by decide) rfl (by decide +kernel) (by first | exact Or.inl rfl | exact Or.inr rfl) (by with_unfolding_all rfl) (by with_unfolding_all rfl) (by with_unfolding_all rfl) (by with_unfolding_all rfl) rfl rfl (by with_unfolding_all rfl) rfl rfl) rfl
  (dZ (ai cJ hr (by decide) rfl (af (aE aB rfl hlen PySem.boot_len (af (pv 1) aH)) aH)))
  (fun _ _ _=>pb_if (jj (ai b9 hr (by decide) rfl (af (pv 1) (af (pv 2) (af (pv 0) aH))))) (pv 0)))
  (ad (av (aE aB rfl hlen PySem.boot_len (af (pv 2) aH))))),?_⟩
 have en:((ns.map V.str).length:Int)=(ns.length:Int):=by rw[zH0]
 refine⟨_,rfl,a,_,rfl,hN.seq,_,rfl,by omega,by omega,fun r H1 r0 S1 R1=>?_⟩;rw[en]at R1;have e2:((ns.length:Int)).toNat=ns.length:=by omega
 rw[e2]at R1;obtain⟨rs,hrs,TS⟩:=R1;have rl:=TS.length;have sl:=jv ns.length;have s64:=lm nl;refine⟨r,rfl,⟨_,zE0 hrs⟩,fun D hD=>?_⟩;refine iB (K:=K) (xs:=rs) (fun i H'=>∃ys,H' D=some (.lst ys)/\ys.length=(((bJ ns.length).take i).filter fun st=>t.holds ns st).length/\Same H1 H') ⟨[],aD,rfl,zC0 hD _⟩ (fun i H' _ hst=>by obtain⟨_,_,_,h⟩:=hst;exact zE0 (h _ _ hrs)) ?_ ?_
 . rintro i x H2 hx ⟨ys,hl,yl,S2⟩;have hi:i<rs.length:=(zW0 hx).1;have TS2:=TS.mono (aY S2);obtain⟨st,hst,b,rfl,hb⟩:=TS2.get hx;have stl:=dF _ _ (qE0 hst);have S02:=S1.trans S2;have tk:((bJ ns.length).take (i+1)).filter (fun st=>t.holds ns st)=((bJ ns.length).take i).filter (fun st=>t.holds ns st)++[st].filter (fun st=>t.holds ns st):=by
    rw[qJ0,hst,List.filter_append];rfl
   refine⟨_,rfl,_,rfl,_,rfl,v,t,a,b,ns,st,rfl,T.mono (aY S02),ok,dp,hN.same S02,hb,stl,_,rfl,?_⟩;cases c:t.holds ns st with
   | true=>
     refine fq ?_;refine⟨_,rfl,ys,hl,?_,Nx.of hi ⟨_,aD,?_,fun b' o e=>?_⟩⟩
     . have:=List.length_filter_le (fun st=>t.holds ns st) ((bJ ns.length).take i)
       rw[qM0]at this;exact aS (by omega)
     . rw [tk,zL0,zL0,yl]
       simp [c]
     . rw[ao (aO e hD)];exact S2 _ _ e
   | false=>
     refine dD ?_;refine Nx.of hi ⟨ys,hl,?_,S2⟩;rw[tk,zL0,yl]
     simp [c]
 . rintro H2 ⟨ys,hl,yl,S2⟩;have e3:rs.length=(bJ ns.length).length:=rl;rw[e3,qI0]at yl;refine⟨_,rfl,D,_,rfl,.inl (zE0 hl),?_⟩;rw[yl];exact q H2 (S1.trans S2)
def qZ(C:Addr):Sp:=fun vs H Q _=>∃(g a b d:Addr)(ns:List Str)(tv:List V)(ts:List Tr)(p:Int),vs=[.ref g]/\GameAt C H g a b d p/\H a=some (.tup (ns.map V.str))/\ns.length<=6/\H b=some (.tup tv)/\TreesAt H tv ts/\ts.length<=10/\(∀t∈ts,t.ok ns/\t.depth<=12)/\
 ∀(l:Addr)(H':Hp),H l=none->Same H H'->H' l=some (.lst ((ts.map fun t=>(cnt t ns:Int)).map V.int))->Q (.ref l) H'
theorem qc:FnScope ["game"] ["game"] (ae dU):=⟨rfl,rfl,rfl,by decide +kernel,rfl,by decide +kernel,by decide +kernel⟩
theorem qx {f C:Addr} {fd:FuncData} (F:Fun K "counts_of" "counts_of" dU f fd) (T:GTxt K mg C) (ki:Cal P w K mg base 15 "count_of" ["tree","switches"] vg):FnOk P w K mg base CX0 16 f fd ["game"] (qZ C):=by
 refine F.ok qc (fun vs H Q E h=>?_) (fun cdv A outer s H vs Q E hr h=>?_)
 . obtain⟨g,a,b,d,ns,tv,ts,p,rfl,_⟩:=h;rfl
 obtain ⟨g,a,b,d,ns,tv,ts,p,rfl,⟨dx,hg⟩,ha,nl,hb,TS,t10,tok,q⟩:=h;refine⟨_,(ad (av (cq (N:=["game"]) (ix:=[0]) rfl
  (CompScope.one (by with_unfolding_all rfl) (by decide) rfl (by decide) rfl (by decide +kernel) (by with_unfolding_all rfl) (by with_unfolding_all rfl) (by with_unfolding_all rfl) rfl rfl) rfl
  (jm (aG (pv 0) rfl)) (fun _ _ _=>cU (ai ki hr (by decide) rfl (af (pv 0) (af (mo K (pv 1)) aH))))))),?_⟩
 have vl:=TS.length;refine⟨_,rfl,g,C,dx,_,_,rfl,hg,T.cl,T.nT,pC ..,b,rfl,⟨_,zB0 hb⟩,fun D hD=>?_⟩;refine kI (K:=K) (xs:=tv) (fun i H'=>H' D=some (.lst (((ts.take i).map fun t=>(cnt t ns:Int)).map V.int))/\Same H H') ⟨by rw[aD];rfl,zC0 hD _⟩ (fun i H' _ h=>zB0 (h.2 _ _ hb)) ?_ ?_
 . rintro i z H2 hz ⟨hl,S2⟩;obtain⟨t,ht,Tt⟩:=TS.get hz;obtain⟨tk,td⟩:=tok t (qE0 ht);have hi:i<tv.length:=(zW0 hz).1;refine⟨_,rfl,_,rfl,g,C,dx,_,_,rfl,S2 _ _ hg,T.cl,T.nS,nX ..,z,t,a,ns,rfl,Tt.mono (aY S2),tk,td,.inr (S2 _ _ ha),nl,fun H3 S3=>?_⟩;refine⟨_,S3 _ _ hl,?_,Nx.of hi ⟨?_,fun b' o' e'=>?_⟩⟩
   . rw[zH0,zH0,qM0];exact aS (by omega)
   . rw[aD,qJ0,ht,zK0,zK0];rfl
   . rw[ao (aO e' hD)];exact S3 _ _ (S2 _ _ e')
 . rintro H2 ⟨hl,S2⟩;rw[vl,qI0]at hl;exact q D H2 hD S2 hl
theorem Ca{c A B:Prop}[Decidable c](hc:c)(h:B):if(!decide c)=true then A else B:=by
 rw[decide_eq_true hc];exact dD h
def ln(s:Int):List Int->Int
 | []=>0
 | a::r=>a+s*ln s r
theorem nV(s p:Int):∀ns,hor s p ns=ln s ns % p
 | []=>(Int.zero_emod p).symm
 | a::r=>by
   show(hor s p r*s+a) % p=(a+s*ln s r) % p;rw[nV s p r,Int.add_emod,Int.mul_emod,Int.emod_emod,←Int.mul_emod,←Int.add_emod,Int.mul_comm,Int.add_comm]
theorem kf:∀(n:Nat)(s:List Int),s∈bJ n->∀x∈s,x=0∨x=1
 | 0,s,h,x,hx=>by
   have:s=[]:=by simpa [bJ]using h
   subst this;cases hx
 | n+1,s,h,x,hx=>by
   rw[bJ,List.mem_flatMap]at h;obtain⟨t,ht,hs⟩:=h
   simp at hs
   rcases hs with rfl | rfl
   . rcases zT0 hx with h | h
     . exact kf n t ht x h
     . exact .inl (zM0 h)
   . rcases zT0 hx with h | h
     . exact kf n t ht x h
     . exact .inr (zM0 h)
theorem kK{K:W.Frag}{H1:Hp}{a b:Addr}{xs ys:List Int}{Q:VK}(ha:H1 a=some (.tup (xs.map V.int)))(hb:H1 b=some (.tup (ys.map V.int)))(hl:xs.length+ys.length<=100)
 (q:∀t H2,Same H1 H2->H2 t=some (.tup ((xs++ys).map V.int))->Q (.ref t) H2):rE K (.ref a) (.ref b) H1 Q∨mZ K (.ref a) (.ref b) H1 Q:=by
 cases xs with
 | nil=>exact .inr ⟨a,b,_,rfl,rfl,zB0 ha,zB0 hb,q b H1 (Same.refl _) hb⟩
 | cons x r=>
   refine .inl ⟨a,b,_,_,rfl,rfl,zB0 ha,zB0 hb,by simp,cp (by simp at hl ⊢;omega),(fun z=>?_),(fun _ t ht=>q t _ (zC0 ht _) ?_)⟩
   . cases ys with
     | nil=>
       refine q a H1 (Same.refl _) ?_;rw[List.append_nil];exact ha
     | cons y r2=>exact nomatch z
   . rw[aD,zK0]
def ji(ns:List Str)(ts:List Tr)(s p:Int)(pt:List Int):Int:=((bJ (ns.length-pt.length)).map fun st=>ln s (ts.map fun t=>t.worth ns (pt++st) p)).sum % p
theorem pR{α:Type}(p:Int)(f:α->Int):∀l:List α,(l.map fun x=>f x % p).sum % p=(l.map f).sum % p
 | []=>rfl
 | a::r=>by
   rw[qA0,qA0,List.sum_cons,List.sum_cons,Int.add_emod,Int.emod_emod,pR p f r,←Int.add_emod]
theorem pQ{α:Type}{p:Int}(hp:0<p)(f:α->Int)(h:∀x,0<=f x/\f x<p):∀l:List α,0<=(l.map f).sum/\(l.map f).sum<=p*l.length
 | []=>⟨Int.le_refl 0,by simp⟩
 | a::r=>by
   have h1:=h a;have h2:=pQ hp f h r;rw[qA0,List.sum_cons,qH0];refine⟨by omega,?_⟩
   have:p*((r.length+1:Nat):Int)=p*(r.length:Int)+p:=by
    rw[Int.natCast_add,Int.mul_add]
    simp
   omega
theorem rF{a b:List Int}{p:Int}(h:ft a p)(h2:ft b p):ft (a++b) p:=fun x hx=>by
 rcases zT0 hx with e | e
 . exact h x e
 . exact h2 x e
theorem CH{a b:List Int}{p:Int}(h:ft a p)(p1:1<p)(h2:∀x∈b,x=0∨x=1):ft (a++b) p:=rF h fun x hx=>by rcases h2 x hx with e | e <;> omega
theorem lenB{n k:Nat}(h:k<=n)(h6:n<=6):0<=(n:Int)-k/\(n:Int)-k<=6/\((n:Int)-k).toNat=n-k:=by omega
theorem jJ{X:Cx}(K:W.Frag)(hK:X.K=K:=by rfl):OpR X (binaryOp .Add) (fun x y H Q=>rE K x y H Q∨mZ K x y H Q):=by subst hK;exact op_catT.or nv
theorem sK{ts:List Tr}{x:Str}(h0:ts≠[]):0<=bK ts x:=by
 have:=kE (ns:=ts.map fun t=>(t.names.count x:Int)) (by simpa using h0)
 obtain⟨t,ht,e⟩:=List.mem_map.mp this;unfold bK;rw[←e];exact Int.natCast_nonneg _
def iS(ns:List Str)(ts:List Tr)(s p:Int)(cs:List Int)(n:Nat):List Int:=(List.range n).map fun k:Nat=>ji ns ts s p (cs++[(k:Int)])
theorem Cy{ns:List Str}{ts:List Tr}{s p d:Int}{cs:List Int}{i:Nat}(hi:i<(d+1).toNat)(h:d<=500):((iS ns ts s p cs i).map V.int).length<sizeLine:=by
 unfold iS;rw[zH0,zH0,qR0];exact aS (by omega)
theorem ptI{a:List Int}{p d:Int}{i:Nat}(h:ft a p)(hi:i<(d+1).toNat)(hd:d<p):ft (a++[(i:Int)]) p:=rF h fun x hx=>by
 rw[zM0 hx];omega
theorem cat1{n k:Nat}(h:n<k)(h6:k<=6):n+([(0:Int)]:List Int).length<=100/\n+1<=k:=by
 rw[qQ0];omega
theorem s64{n k:Nat}(h6:n<=6):(bJ (n-(k+1))).length<=64:=by
 have s64:=jv (n-(k+1));have p64:=lm (n:=n-(k+1)) (by omega);omega
theorem Cw{α:Type}{f:α->Int}{l:List α}{j:Nat}(h:l.length<=64):(((l.take j).map f).map V.int).length<sizeLine:=by
 rw[zH0,zH0,qM0];exact aS (by omega)
theorem sum63{p x:Int}{n:Nat}(p0:0<p)(p40:p<2 ^ 40)(h:n<=64)(hx:x<=p*(n:Int)):x<2 ^ 63:=by
 have:p*(n:Int)<=p*64:=qX0 (by omega) (by omega)
 omega
def xV(C:Addr):Sp:=fun vs H Q _=>∃(g a b d c:Addr)(ns:List Str)(tv:List V)(ts:List Tr)(cs:List Int)(x:Str)(s p:Int),vs=[.ref g,.int s,.ref c]/\GameAt C H g a b d p/\H a=some (.tup (ns.map V.str))/\ns.length<=6/\H b=some (.tup tv)/\TreesAt H tv ts/\ts≠[]/\ts.length<=10/\(∀t∈ts,t.ok ns/\t.depth<=10)/\
 H d=some (.lst ((ns.map (bK ts)).map V.int))/\H c=some (.tup (cs.map V.int))/\ns[cs.length]?=some x/\bK ts x<p/\bK ts x<=500/\ft cs p/\1<p/\p<2 ^ 40/\
 ∀(l:Addr)(H':Hp),H l=none->Same H H'->H' l=some (.lst ((iS ns ts s p cs (bK ts x+1).toNat).map V.int))->Q (.ref l) H'
theorem dE:FnScope ["game","s","coins","ahead","switch","behind","row","x","worths"] ["game","s","coins"] (ae eX):=⟨rfl,rfl,rfl,by decide +kernel,rfl,by decide +kernel,by decide +kernel⟩
theorem rN {f fW C:Addr} {fd fdW:FuncData} (F:Fun K "true_row" "true_row" eX f fd) (B:Bl mg) (T:GTxt K mg C) (mW:Meth K C "worth_at" fW) (GW:FnOk P w K mg base CX0 13 fW fdW ["self","point","s"] (BC C)) (bW:Binds K fdW ["self","point","s"] []) (cJ:Cal P w K mg base 1 "all_settings" ["n"] pT):FnOk P w K mg base CX0 14 f fd ["game","s","coins"] (xV C):=by
 refine F.ok dE (fun vs H Q E h=>?_) (fun cdv A outer s H vs Q E hr h=>?_)
 . obtain⟨g,a,b,d,c,ns,tv,ts,cs,x,s,p,rfl,_⟩:=h;rfl
 obtain ⟨g,a,b,d,c,ns,tv,ts,cs,x,s,p,rfl,⟨dx,hg⟩,ha,nl,hb,TS,tne,t10,tok,hd,hc,hx,dp,d500,po,p1,p40,q⟩:=h;refine⟨_,(ac (am (i:=3) dE.nd rfl (Or.inr rfl) (bF bw rfl B.tuple bH (af (pv 2) aH)))
  (ac (am (i:=4) dE.nd rfl (Or.inl rfl) (aE aB rfl B.len PySem.boot_len (af (pv 3) aH)))
  (ac (am (i:=5) dE.nd rfl (Or.inl rfl) (ai cJ hr (by decide) rfl (af (ag aV (ag aV (aE aB rfl B.len PySem.boot_len (af (aG (pv 0) rfl) aH)) (pv 4)) aa) aH)))
  (ac (am (i:=6) dE.nd rfl (Or.inl rfl) (bL aH))
  (ac (bY PassesOwn.never rfl (bt rfl B.range (af (ag aW (aq ix_list (aG (pv 0) rfl) (pv 4) (fun _ _=>rfl)) aa) aH)) (bd (i:=7) dE.nd rfl (Or.inr rfl)) (ac (qf (i:=8) (N:=["x","s","game","ahead"]) (ix:=[7,1,0,3]) dE.nd rfl (Or.inl rfl) rfl
   (CompScope.four (by with_unfolding_all rfl) (by decide) rfl (by decide) rfl (by decide +kernel) rfl (by with_unfolding_all rfl) (by with_unfolding_all rfl) (by with_unfolding_all rfl) (by with_unfolding_all rfl) (by with_unfolding_all rfl) (by with_unfolding_all rfl) rfl rfl (by with_unfolding_all rfl) rfl rfl (by with_unfolding_all rfl) rfl rfl (by with_unfolding_all rfl) rfl rfl) rfl
   (dZ (pv 5)) (fun _ _ _=>cU (dG (pv 3) T.cl mW GW hr bW .nil ee (af (ag (jJ K) (ag (jJ K) (pv 4) (aX (af (pv 1) aH))) (pv 0)) (af (pv 2) aH)))))
   (ad (bE (dW PySem.F.plainAttrs_list PySem.F.slot_list_append PySem.F.type_list_append bu (pv 6) (af (ag aN (aE (ow rfl) rfl B.sum PyProof.Rows.boot_sum (af (pv 8) aH)) (aG (pv 0) rfl)) aH))))))
  (ad (av (pv 6)))))))),?_⟩
 have kl:cs.length<ns.length:=(zW0 hx).1;have d0:=sK (x:=x) tne;have p0:0<p:=Int.lt_trans Int.zero_lt_one p1;refine⟨_,rfl,c,_,rfl,.inr ⟨zB0 hc,?_⟩⟩;have G1:Same H H:=fun _ _ e=>e
 have hah1:=hc;refine⟨_,rfl,c,_,rfl,.inr (zB0 hah1),?_⟩;refine⟨_,rfl,g,C,dx,_,_,rfl,G1 _ _ hg,T.cl,T.nS,nX ..,a,_,rfl,.inr (zB0 (G1 _ _ ha)),_,rfl,_,_,rfl,rfl,_,_,rfl,rfl,_,rfl,by rw[zH0,zH0];omega,by rw[zH0,zH0];omega,fun r H2 r0 S2 R2=>?_⟩;have en:((((ns.map V.str).length:Nat):Int)-(((cs.map V.int).length:Nat):Int)-1).toNat=ns.length-(cs.length+1):=by rw[zH0,zH0];omega
 rw[en]at R2;obtain⟨rs,hrs,TB⟩:=R2;have rl:=TB.length;refine⟨(by show 0<=sizeLine;decide),fun L hL=>?_⟩;have S02:=G1.trans S2;have GL:=zC0 hL (.lst []);have S03:=S02.trans GL;have L0:H L=none:=S02.free hL;have e1:(((cs.map V.int).length:Nat):Int)=(cs.length:Int):=by rw[zH0]
 refine⟨_,rfl,g,C,dx,_,_,rfl,S03 _ _ hg,T.cl,T.nD,Cb ..,_,rfl,d,_,_,.int (bK ts x),rfl,rfl,zE0 (S03 _ _ hd),?_,_,_,rfl,rfl,_,rfl,by omega,by omega,cS (fun i σ H'=>∃x7 x8:Option V,σ=[some (.ref g),some (.int s),some (.ref c),some (.ref c),some (.int (((cs.map V.int).length:Nat):Int)),some (.ref r),some (.ref L),x7,x8]/\H' L=some (.lst ((iS ns ts s p cs i).map V.int))/\SameBut L H2 H') ⟨_,_,rfl,by rw[aD];rfl,SameBut.upd _⟩ ?_ ?_⟩
 . rw[e1];refine cg ?_;rw[qD0,qD0,hx];rfl
 . rintro i σ H4 hi ⟨x7,x8,rfl,hL4,S4⟩;have gL:g≠L:=aO (S02 _ _ hg) hL;have rL:r≠L:=aO hrs hL;have kT:bv H2 H4:=fun c xs h=>S4 c _ (aO h hL) h
   have hg4:=S4 g _ gL (S02 _ _ hg);have hrs4:=S4 r _ rL hrs;have ha4:=kT _ _ (S02 _ _ ha);have hb4:=kT _ _ (S02 _ _ hb);have hah4:=kT _ _ (S2 _ _ hah1);have TS4:=(TS.mono (aY S02)).mono kT;have TB4:=TB.mono kT;refine⟨_,rfl,r,rfl,⟨_,zE0 hrs4⟩,fun D hD=>?_⟩;refine iB (K:=K) (xs:=rs) (fun j H'=>H' D=some (.lst ((((bJ (ns.length-(cs.length+1))).take j).map fun st=>hor s p (ts.map fun t=>t.worth ns (cs++[(i:Int)]++st) p)).map V.int))/\Same H4 H') ⟨by rw[aD];rfl,zC0 hD _⟩ (fun j H' _ h=>zE0 (h.2 _ _ hrs4)) ?_ ?_
   . rintro j z H5 hz ⟨hD5,S5⟩;obtain⟨st,hst,y,rfl,hy⟩:=(TB4.mono (aY S5)).get hz;have stm:=qE0 hst;have stl:=dF _ _ stm;have s01:=kf _ _ stm;have hj:j<rs.length:=(zW0 hz).1;have po2:ft (cs++[(i:Int)]++st) p:=CH (ptI po hi dp) p1 s01;have pl2:(cs++[(i:Int)]++st).length=ns.length:=by rw[zL0,zL0,qQ0];omega
     refine⟨_,rfl,g,dx,_,rfl,S5 _ _ hg4,zN _ _ _ _ (by decide +kernel) (by decide +kernel) (by decide +kernel) (by decide +kernel),?_⟩;refine⟨_,rfl,_,rfl,(by show 1<=sizeLine;decide),fun u hu=>?_⟩;have Gu:=zC0 hu (.tup [.int (0+(i:Int))]);have hu6:upd H5 u (.tup [.int (0+(i:Int))]) u=some (.tup ([(i:Int)].map V.int)):=by rw[aD,Int.zero_add];rfl
     generalize upd H5 u (.tup [.int (0+(i:Int))])=H6 at Gu hu6;refine kK (Gu _ _ (S5 _ _ hah4)) hu6 (cat1 kl nl).1 fun t1 H7 S7 h7=>?_
     refine⟨_,rfl,?_⟩;have S57:=Gu.trans S7;refine kK h7 (S57 _ _ hy) (by rw[zL0,qQ0];omega) fun t2 H8 S8 h8=>?_
     have S48:=S5.trans (S57.trans S8);refine⟨_,rfl,g,a,b,d,t2,ns,tv,ts,_,s,p,rfl,⟨dx,S48 _ _ hg4⟩,p1,p40,S48 _ _ ha4,S48 _ _ hb4,TS4.mono (aY S48),t10,tok,h8,pl2,po2,fun H9 S9=>?_⟩;refine⟨_,S9 _ _ ((S57.trans S8) _ _ hD5),?_,Nx.of hj ⟨?_,fun b' o' e'=>?_⟩⟩
     . exact Cw (s64 nl)
     . rw[aD,qJ0,hst,zK0,zK0];rfl
     . rw[ao (aO e' hD)];exact S9 _ _ (S48 _ _ e')
   rintro H5 ⟨hD5,S5⟩;rw[rl,qI0]at hD5;have hor_r:=fun st:List Int=>kH (s:=s) (p:=p) p0 (ts.map fun t=>t.worth ns (cs++[(i:Int)]++st) p)
   have sr:=pQ (p:=p) p0 (fun st:List Int=>hor s p (ts.map fun t=>t.worth ns (cs++[(i:Int)]++st) p)) hor_r (bJ (ns.length-(cs.length+1)));have hL5:=S5 _ _ hL4;refine⟨_,rfl,.inl ⟨rfl,_,zE0 hL5⟩,_,rfl,D,_,rfl,zE0 hD5,?_,?_,?_⟩
   . intro n hn;obtain⟨st,_,rfl⟩:=List.mem_map.mp hn;exact(hor_r st).1
   . exact sum63 p0 p40 (s64 nl) sr.2
   refine⟨_,rfl,g,C,dx,_,_,rfl,S5 _ _ hg4,T.cl,T.nF,jR ..,_,_,rfl,rfl,p0,L,_,_,rfl,rfl,hL5,?_,?_⟩
   . exact Cy hi d500
   . refine ⟨_,_,rfl,?_,fun c o hc e=>?_⟩
     . rw [aD];unfold iS;rw[List.range_succ,zK0,zK0];have e2:((bJ (ns.length-(cs.length+1))).map fun st=>hor s p (ts.map fun t=>t.worth ns (cs++[(i:Int)]++st) p)).sum % p=ji ns ts s p (cs++[(i:Int)]):=by
        unfold ji;rw[zL0,qQ0,show(fun st:List Int=>hor s p (ts.map fun t=>t.worth ns (cs++[(i:Int)]++st) p))=fun st=>ln s (ts.map fun t=>t.worth ns (cs++[(i:Int)]++st) p) % p from funext fun st=>nV _ _ _];exact pR p (fun st:List Int=>ln s (ts.map fun t=>t.worth ns (cs++[(i:Int)]++st) p)) _
       show some (HO.lst (_++[V.int (((bJ (ns.length-(cs.length+1))).map fun st=>hor s p (ts.map fun t=>t.worth ns (cs++[(i:Int)]++st) p)).sum % p)]))=_;rw[e2];rfl
     . rw[ao hc];exact S5 _ _ (S4 c o hc e)
 . rintro σ H4 ⟨x7,x8,rfl,hL4,S4⟩;exact⟨_,rfl,q L H4 L0 (S02.but L0 S4) hL4⟩
theorem neS{a b:Str}(h:¬ a=b):¬ V.str a=V.str b:=fun z=>h (V.str.inj z)
open Classical in
noncomputable def zL(p a:Int):Int:=if h:∃g:Int,0<g/\g<p/\g*a % p=1 then h.choose else 0
theorem zK{p a g k:Int}(g0:0<g)(g1:g<p)(hg:g*a % p=1)(k0:0<k)(k1:k<p)(hk:k*a % p=1):g=k:=by
 have e1:g*(k*a) % p=g:=by
  rw[Int.mul_emod,hk,Int.mul_one,Int.emod_emod,qN0 (by omega) g1]
 have e2:k*(g*a) % p=k:=by
  rw[Int.mul_emod,hg,Int.mul_one,Int.emod_emod,qN0 (by omega) k1]
 have e3:g*(k*a) % p=k*(g*a) % p:=by rw[Int.mul_left_comm]
 exact e1.symm.trans (e3.trans e2)
theorem vz{p a g:Int}(g0:0<g)(g1:g<p)(hg:g*a % p=1):zL p a=g:=by
 have h:∃g:Int,0<g/\g<p/\g*a % p=1:=⟨g,g0,g1,hg⟩
 unfold zL;rw[dif_pos h];obtain⟨k0,k1,hk⟩:=h.choose_spec;exact zK k0 k1 hk g0 g1 hg
noncomputable def qE(p x y:Int):Int:=if y=0 then 0 else x*zL p y % p
noncomputable def opV(p:Int)(s:Str)(x y:Int):Int:=
 if s="+" then(x+y) % p else if s="-" then(x-y) % p else if s="*" then x*y % p else if s="/" then qE p x y else if s="=" then(if x=y then 1 else 0)else if x<y then 1 else 0
theorem zT{p x y:Int}(hp:0<p):0<=qE p x y/\qE p x y<p:=by
 unfold qE
 split
 . omega
 . exact⟨zU0 _ (by omega),zX0 _ hp⟩
theorem AQ{p x y:Int}{s:Str}(hp:1<p):0<=opV p s x y/\opV p s x y<p:=by
 have m:∀z:Int,0<=z % p/\z % p<p:=fun z=>⟨zU0 _ (by omega),zX0 _ (by omega)⟩
 unfold opV
 split
 . exact m _
 . split
   . exact m _
   . split
     . exact m _
     . split
       . exact zT (by omega)
       . split <;> split <;> omega
def BG:Sp:=fun vs H Q _=>∃(x y p:Int),vs=[.int x,.int y,.int p]/\Pr p/\p<=999983/\0<=x/\x<p/\0<=y/\y<p/\Q (.int (qE p x y)) H
theorem tN:FnScope ["first","second","p"] ["first","second","p"] (ae gz):=⟨rfl,rfl,rfl,by decide +kernel,rfl,by decide +kernel,by decide +kernel⟩
theorem ug {f:Addr} {fd:FuncData} (F:Fun K "divided" "divided" gz f fd) (dH:Cal P w K mg base 1 "inverse_of" ["a","p"] yc):FnOk P w K mg base CX0 2 f fd ["first","second","p"] BG:=by
 refine F.ok tN (fun vs H Q E h=>?_) (fun cdv A outer s H vs Q E hr h=>?_)
 . obtain⟨x,y,p,rfl,_⟩:=h;rfl
 obtain ⟨x,y,p,rfl,pp,p9,x0,x1,y0,y1,q⟩:=h;refine⟨_,(ac (aJ (ah aM (pv 1) aa (aj _)) (ad (av aa)) az)
  (ad (av (ag aN (ag bg (pv 0) (ai dH hr (by decide) rfl (af (pv 1) (af (pv 2) aH)))) (pv 2))))),?_⟩
 unfold qE at q;refine⟨_,rfl,rfl,_,rfl,?_⟩
 by_cases c:y=0
 . rw[zF0 c]at q;exact aU (congrArg V.int c) q
 . rw[zD0 c]at q;refine au (fun z=>c (V.int.inj z)) ?_;refine⟨_,rfl,_,rfl,_,rfl,y,p,rfl,pp,p9,by omega,y1,fun g g0 g1 hg=>?_⟩;rw[vz g0 g1 hg]at q;exact⟨_,_,rfl,rfl,.inl ⟨by omega,by omega⟩,_,rfl,_,_,rfl,rfl,(by show 0<p;omega),q⟩
def jN:List Str:=["+","-","*","/","=","<"]
def Cu:Sp:=fun vs H Q _=>∃(s:Str)(x y p:Int),vs=[.str s,.int x,.int y,.int p]/\s∈jN/\Pr p/\p<=999983/\0<=x/\x<p/\0<=y/\y<p/\Q (.int (opV p s x y)) H
theorem re:FnScope ["sign","first","second","p"] ["sign","first","second","p"] (ae eZ):=⟨rfl,rfl,rfl,by decide +kernel,rfl,by decide +kernel,by decide +kernel⟩
theorem BU {p x y:Int}:opV p "+" x y=(x+y) % p:=zF0 rfl
theorem BT {p x y:Int}:opV p "-" x y=(x-y) % p:=by unfold opV;rw[zD0 (by decide +kernel),zF0 rfl]
theorem BS {p x y:Int}:opV p "*" x y=x*y % p:=by unfold opV;rw[zD0 (by decide +kernel),zD0 (by decide +kernel),zF0 rfl]
theorem BR {p x y:Int}:opV p "/" x y=qE p x y:=by unfold opV;rw[zD0 (by decide +kernel),zD0 (by decide +kernel),zD0 (by decide +kernel),zF0 rfl]
theorem BQ {p x y:Int}:opV p "=" x y=if x=y then 1 else 0:=by unfold opV;rw[zD0 (by decide +kernel),zD0 (by decide +kernel),zD0 (by decide +kernel),zD0 (by decide +kernel),zF0 rfl]
theorem BP {p x y:Int}:opV p "<" x y=if x<y then 1 else 0:=by unfold opV;rw[zD0 (by decide +kernel),zD0 (by decide +kernel),zD0 (by decide +kernel),zD0 (by decide +kernel),zD0 (by decide +kernel)]
theorem rP {f:Addr} {fd:FuncData} (F:Fun K "op_value" "op_value" eZ f fd) (n8:Cal P w K mg base 2 "divided" ["first","second","p"] BG):FnOk P w K mg base CX0 3 f fd ["sign","first","second","p"] Cu:=by
 refine F.ok re (fun vs H Q E h=>?_) (fun cdv A outer s H vs Q E hr h=>?_)
 . obtain⟨s,x,y,p,rfl,_⟩:=h;rfl
 obtain⟨s,x,y,p,rfl,hs,pp,p9,x0,x1,y0,y1,q⟩:=h;have p0:0<p:=by omega
 refine ⟨_,(ac (aJ (ah aM (pv 0) ax (aj _)) (ad (av (ag aN (ag aW (pv 1) (pv 2)) (pv 3)))) az)
  (ac (aJ (ah aM (pv 0) ax (aj _)) (ad (av (ag aN (ag aV (pv 1) (pv 2)) (pv 3)))) az)
  (ac (aJ (ah aM (pv 0) ax (aj _)) (ad (av (ag aN (ag bg (pv 1) (pv 2)) (pv 3)))) az)
  (ac (aJ (ah aM (pv 0) ax (aj _)) (ad (av (ai n8 hr (by decide) rfl (af (pv 1) (af (pv 2) (af (pv 3) aH)))))) az)
  (ac (aJ (ah aM (pv 0) ax (aj _)) (ad (av (iw (ah aM (pv 1) (pv 2) (aj _)) aa aa))) az)
  (ad (av (iw (ah df (pv 1) (pv 2) (aj _)) aa aa)))))))),?_⟩
 have hs':s="+"∨s="-"∨s="*"∨s="/"∨s="="∨s="<":=by simpa [jN]using hs
 rcases hs' with rfl | rfl | rfl | rfl | rfl | rfl
 . rw[BU]at q;refine⟨_,rfl,rfl,_,rfl,aU rfl ?_⟩;exact⟨_,rfl,_,rfl,_,_,rfl,rfl,_,rfl,_,_,rfl,rfl,p0,q⟩
 . rw[BT]at q;refine⟨_,rfl,rfl,_,rfl,au (neS (by decide +kernel)) ?_⟩;refine⟨_,rfl,rfl,_,rfl,aU rfl ?_⟩;exact⟨_,rfl,_,rfl,_,_,rfl,rfl,_,rfl,_,_,rfl,rfl,p0,q⟩
 . rw[BS]at q;refine⟨_,rfl,rfl,_,rfl,au (neS (by decide +kernel)) ?_⟩;refine⟨_,rfl,rfl,_,rfl,au (neS (by decide +kernel)) ?_⟩;refine⟨_,rfl,rfl,_,rfl,aU rfl ?_⟩;exact⟨_,rfl,_,rfl,_,_,rfl,rfl,.inl ⟨by omega,by omega⟩,_,rfl,_,_,rfl,rfl,p0,q⟩
 . rw[BR]at q;refine⟨_,rfl,rfl,_,rfl,au (neS (by decide +kernel)) ?_⟩;refine⟨_,rfl,rfl,_,rfl,au (neS (by decide +kernel)) ?_⟩;refine⟨_,rfl,rfl,_,rfl,au (neS (by decide +kernel)) ?_⟩;refine⟨_,rfl,rfl,_,rfl,aU rfl ?_⟩;exact⟨_,rfl,_,rfl,_,rfl,x,y,p,rfl,pp,p9,x0,x1,y0,y1,q⟩
 . rw [BQ]at q;refine⟨_,rfl,rfl,_,rfl,au (neS (by decide +kernel)) ?_⟩;refine⟨_,rfl,rfl,_,rfl,au (neS (by decide +kernel)) ?_⟩;refine⟨_,rfl,rfl,_,rfl,au (neS (by decide +kernel)) ?_⟩;refine⟨_,rfl,rfl,_,rfl,au (neS (by decide +kernel)) ?_⟩;refine⟨_,rfl,rfl,_,rfl,aU rfl ?_⟩;refine⟨_,rfl,_,rfl,rfl,_,rfl,?_⟩
   by_cases c:x=y
   . rw[zF0 c]at q;exact aU (congrArg V.int c) q
   . rw[zD0 c]at q;exact au (fun z=>c (V.int.inj z)) q
 . rw [BP]at q;refine⟨_,rfl,rfl,_,rfl,au (neS (by decide +kernel)) ?_⟩;refine⟨_,rfl,rfl,_,rfl,au (neS (by decide +kernel)) ?_⟩;refine⟨_,rfl,rfl,_,rfl,au (neS (by decide +kernel)) ?_⟩;refine⟨_,rfl,rfl,_,rfl,au (neS (by decide +kernel)) ?_⟩;refine⟨_,rfl,rfl,_,rfl,au (neS (by decide +kernel)) ?_⟩;refine⟨_,rfl,_,rfl,_,_,rfl,rfl,_,rfl,?_⟩
   by_cases c:x<y
   . rw[zF0 c]at q;exact aU c q
   . rw[zD0 c]at q;exact au c q
theorem kt{X:Cx}{ss:List Stmt}{t t':TS}(h:PSs X ss t)(hw:∀D σ H,t' D σ H->t D σ H):PSs X ss t':=fun pins s σ H D I k=>h pins s σ H D I (hw _ _ _ k)
inductive Tm where
 | num (n:Int) | box (x:Str) | plain (w:Str) | ask (w:Str) (a:Tm) | op (s:Str) (a b:Tm)
def Tm.depth:Tm->Nat
 | .num _=>1 | .box _=>1 | .plain _=>1 | .ask _ a=>a.depth+1 | .op _ a b=>max a.depth b.depth+1
theorem Tm.depth_pos:∀t:Tm,1<=t.depth
 | .num _=>zG0 _ | .box _=>zG0 _ | .plain _=>zG0 _ | .ask _ a=>Nat.le_add_left .. | .op _ a b=>Nat.le_add_left ..
def hU:List Str:=["round","due","asked"]
def Bs:List Str:=["coin","true"]
inductive TmAt(H:Hp):V->Tm->Prop
 | num {a:Addr} {n:Int}:H a=some (.tup [.str "num",.int n])->TmAt H (.ref a) (.num n)
 | box {a:Addr} {x:Str}:H a=some (.tup [.str "box",.str x])->TmAt H (.ref a) (.box x)
 | plain {a:Addr} {w:Str}:H a=some (.tup [.str w])->TmAt H (.ref a) (.plain w)
 | ask {a:Addr} {w:Str} {v:V} {t:Tm}:H a=some (.tup [.str w,v])->TmAt H v t->TmAt H (.ref a) (.ask w t)
 | op {a:Addr} {s:Str} {v u:V} {t r:Tm}:H a=some (.tup [.str "op",.str s,v,u])->TmAt H v t->TmAt H u r->TmAt H (.ref a) (.op s t r)
theorem TmAt.mono{H H':Hp}(k:bv H H'){v:V}{t:Tm}(h:TmAt H v t):TmAt H' v t:=by
 induction h with
 | num e=>exact .num (k _ _ e)
 | box e=>exact .box (k _ _ e)
 | plain e=>exact .plain (k _ _ e)
 | ask e _ ih=>exact .ask (k _ _ e) ih
 | op e _ _ i1 i2=>exact .op (k _ _ e) i1 i2
inductive Hr where
 | fin | go (n:Int) | iff (t:Tm) (n:Int) | set (x:Str) (t:Tm) | say (t:Tm)
inductive HrAt(H:Hp):V->Hr->Prop
 | fin {a:Addr}:H a=some (.tup [.str "end"])->HrAt H (.ref a) .fin
 | go {a:Addr} {n:Int}:H a=some (.tup [.str "go",.int n])->HrAt H (.ref a) (.go n)
 | iff {a:Addr} {v:V} {t:Tm} {n:Int}:H a=some (.tup [.str "if",v,.int n])->TmAt H v t->HrAt H (.ref a) (.iff t n)
 | set {a:Addr} {x:Str} {v:V} {t:Tm}:H a=some (.tup [.str "set",.str x,v])->TmAt H v t->HrAt H (.ref a) (.set x t)
 | say {a:Addr} {v:V} {t:Tm}:H a=some (.tup [.str "say",v])->TmAt H v t->HrAt H (.ref a) (.say t)
theorem HrAt.mono{H H':Hp}(k:bv H H'){v:V}{r:Hr}(h:HrAt H v r):HrAt H' v r:=by
 cases h with
 | fin e=>exact .fin (k _ _ e)
 | go e=>exact .go (k _ _ e)
 | iff e t=>exact .iff (k _ _ e) (t.mono k)
 | set e t=>exact .set (k _ _ e) (t.mono k)
 | say e t=>exact .say (k _ _ e) (t.mono k)
section
variable {CM CA CG:Addr}
abbrev jE:Stmt:=cX jh 0
abbrev iq:Stmt:=cX jh 1
abbrev jF:Stmt:=cX jh 2
abbrev gA:Stmt:=cX jh 3
abbrev jD:Stmt:=cX jh 4
abbrev jy:Stmt:=cX lc 0
abbrev kY:Stmt:=cX lc 1
abbrev kZ:Stmt:=cX lc 2
def al (g:Addr) (nr mn hd s:Int) (aT:Addr) (tr:V):List (Str×V):=[("game",.ref g),("number",.int nr),("many",.int mn),("held",.int hd),("s",.int s),("tossed",.ref aT),("truths",tr)]
theorem qK {g:Addr} {nr mn hd s:Int} {aT:Addr} {tr:V}:(al g nr mn hd s aT tr).lookup ("game":Str)=some (.ref g):=by with_unfolding_all rfl
structure ATxt(K:W.Frag)(mg:Str->Option Value)(C:Addr):Prop where
 cl:Cls K C
 nG:NoAttr K C "game"
 nN:NoAttr K C "number"
 nM:NoAttr K C "many"
 nH:NoAttr K C "held"
 nS:NoAttr K C "s"
 nT:NoAttr K C "tossed"
 nR:NoAttr K C "truths"
 mgC:mg "Asking"=some (.ref C)
def ml (g h:Addr) (r:Int) (b:Addr):List (Str×V):=[("game",.ref g),("helper",.ref h),("next_round",.int r),("boxes",.ref b)]
section
variable {g h b:Addr} {r:Int}
theorem ml_g:(ml g h r b).lookup ("game":Str)=some (.ref g):=by with_unfolding_all rfl
theorem Dl:(ml g h r b).lookup ("helper":Str)=some (.ref h):=by with_unfolding_all rfl
theorem ml_r:(ml g h r b).lookup ("next_round":Str)=some (.int r):=by with_unfolding_all rfl
theorem Bb:(ml g h r b).lookup ("boxes":Str)=some (.ref b):=by with_unfolding_all rfl
theorem ml_n1:(ml g h r b).lookup ("do_row":Str)=none:=by with_unfolding_all rfl
theorem BY:(ml g h r b).lookup ("say":Str)=none:=by with_unfolding_all rfl
theorem Dk:(ml g h r b).length<1000:=by show 4<1000;decide
theorem Dj {v:Int}:cn "next_round" (.int v) (ml g h r b)=ml g h v b:=by with_unfolding_all rfl
end
structure MTxt(K:W.Frag)(mg:Str->Option Value)(C:Addr):Prop where
 cl:Cls K C
 nG:NoAttr K C "game"
 nH:NoAttr K C "helper"
 nR:NoAttr K C "next_round"
 nB:NoAttr K C "boxes"
 mgC:mg "Machine"=some (.ref C)
def BxAt(H:Hp)(b:Addr)(bx:Str->Int)(m:Nat):Prop:=∃kvs:List (Key×V),H b=some (.dK kvs)/\kvs.length<=m/\∀x:Str,(bQ kvs (.inr x)).getD (.int 0)=.int (bx x)
def sQ(bx:Str->Int)(x:Str)(n:Int):Str->Int:=fun y=>if y=x then n else bx y
theorem BxAt.keep{H H':Hp}{b:Addr}{bx:Str->Int}{m:Nat}(h:BxAt H b bx m)(k:∀o,H b=some o->H' b=some o):BxAt H' b bx m:=by
 obtain⟨kvs,e,r⟩:=h;exact⟨kvs,k _ e,r⟩
theorem zX{kvs:List (Key×V)}{bx:Str->Int}(x:Str)(n:Int)(h:∀x:Str,(bQ kvs (.inr x)).getD (.int 0)=.int (bx x)):∀y:Str,(bQ (fj kvs (.inr x) (.int n)) (.inr y)).getD (.int 0)=.int (sQ bx x n y):=fun y=>by
 rw[iX];unfold sQ
 by_cases c:y=x
 . rw[zF0 (by rw[c]),zF0 c];rfl
 . rw[zD0 (fun z=>c (Sum.inr.inj z)),zD0 c];exact h y
section
variable {g aT:Addr} {nr mn hd s:Int} {tr:V}
theorem DK:(al g nr mn hd s aT tr).lookup ("number":Str)=some (.int nr):=by with_unfolding_all rfl
theorem al_m:(al g nr mn hd s aT tr).lookup ("many":Str)=some (.int mn):=by with_unfolding_all rfl
theorem al_h:(al g nr mn hd s aT tr).lookup ("held":Str)=some (.int hd):=by with_unfolding_all rfl
theorem al_s:(al g nr mn hd s aT tr).lookup ("s":Str)=some (.int s):=by with_unfolding_all rfl
theorem al_t:(al g nr mn hd s aT tr).lookup ("tossed":Str)=some (.ref aT):=by with_unfolding_all rfl
theorem Bt:(al g nr mn hd s aT tr).lookup ("truths":Str)=some tr:=by with_unfolding_all rfl
theorem al_n1:(al g nr mn hd s aT tr).lookup ("plain_value":Str)=none:=by with_unfolding_all rfl
theorem al_n2:(al g nr mn hd s aT tr).lookup ("coin_at":Str)=none:=by with_unfolding_all rfl
theorem al_n3:(al g nr mn hd s aT tr).lookup ("true_numbers":Str)=none:=by with_unfolding_all rfl
theorem al_n4:(al g nr mn hd s aT tr).lookup ("true_at":Str)=none:=by with_unfolding_all rfl
theorem zZ {v:V}:cn "truths" v (al g nr mn hd s aT tr)=al g nr mn hd s aT v:=by with_unfolding_all rfl
theorem Aa:(al g nr mn hd s aT tr).length<1000:=by show 7<1000;decide
end
structure Ak where
 ns:List Str
 ts:List Tr
 p:Int
 nr:Int
 mn:Int
 hd:Int
 s:Int
 to:List Int
def Ak.tru (z:Ak):List Int:=if z.nr=0 then z.ts.map (fun t=>(cnt t z.ns:Int))else iS z.ns z.ts z.s z.p z.to (bK z.ts (z.ns.getD z.to.length "")+1).toNat
structure AkOk(z:Ak):Prop where
 gk:GmK z.ns z.ts z.p
 n6:z.ns.length<=6
 nr0:0<=z.nr
 nrt:0<z.nr->z.to.length<z.ns.length
 po:ft z.to z.p
 s0:0<=z.s
 s1:z.s<z.p
 h0:0<=z.hd
 h1:z.hd<z.p
 tl:z.to.length<=100
def AkAt(CA CG:Addr)(H:Hp)(k g v:Addr)(z:Ak):Prop:=∃(dk aT a b d:Addr)(tv:List V)(tr:V),H k=some (.ins CA dk (al g z.nr z.mn z.hd z.s aT tr))/\GameAt CG H g a b d z.p/\H a=some (.tup (z.ns.map V.str))/\H b=some (.tup tv)/\TreesAt H tv z.ts/\H d=some (.lst ((z.ns.map (bK z.ts)).map V.int))/\d≠v/\H aT=some (.tup (z.to.map V.int))/\(tr=.non∨∃l,tr=.ref l/\l≠v/\H l=some (.lst (z.tru.map V.int)))
theorem AkAt.same{H H':Hp}{k g v:Addr}{z:Ak}(h:AkAt CA CG H k g v z)(s:Same H H'):AkAt CA CG H' k g v z:=by
 obtain⟨dk,aT,a,b,d,tv,tr,h1,h2,h3,h4,h5,h6,h7,h8,h9⟩:=h;exact⟨dk,aT,a,b,d,tv,tr,s _ _ h1,h2.same s,s _ _ h3,s _ _ h4,h5.mono (aY s),s _ _ h6,h7,s _ _ h8,h9.imp_right fun⟨l,e,n,r⟩=>⟨l,e,n,s _ _ r⟩⟩
theorem AkAt.but2{H H':Hp}{k g v b:Addr}{z:Ak}{kvs:List (Key×V)}{ys:List V}(h:AkAt CA CG H k g v z)(hb:H b=some (.dK kvs))(hv:H v=some (.lst ys))(s:∀a o,a≠b->a≠v->H a=some o->H' a=some o):AkAt CA CG H' k g v z:=by
 obtain⟨dk,aT,a,b',d,tv,tr,h1,⟨dg,h2⟩,h3,h4,h5,h6,h7,h8,h9⟩:=h;have T:bv H H':=fun c xs e=>s _ _ (bh e hb (by intro z;cases z)) (bh e hv (by intro z;cases z)) e
 exact⟨dk,aT,a,b',d,tv,tr,s _ _ (bh h1 hb (by intro z;cases z)) (bh h1 hv (by intro z;cases z)) h1,⟨dg,s _ _ (bh h2 hb (by intro z;cases z)) (bh h2 hv (by intro z;cases z)) h2⟩,T _ _ h3,T _ _ h4,h5.mono T,s _ _ (bh h6 hb (by intro z;cases z)) h7 h6,h7,T _ _ h8,h9.imp_right fun⟨l,e,n,r⟩=>⟨l,e,n,s _ _ (bh r hb (by intro z;cases z)) n r⟩⟩
def gW(z:Ak):List Int:=if 1<z.ts.length then z.s::z.to else z.to
def gO(z:Ak)(i:Int):Int:=if 1<=i/\i<=((gW z).length:Int)then(gW z).getD (i-1).toNat 0 else 0
def cW(z:Ak)(i:Int):Int:=if 0<z.nr then val z.p z.tru i else if i<(z.tru.length:Int)then z.tru.getD i.toNat 0 % z.p else 0
def jk (z:Ak) (w:Str):Int:=if w="round" then z.nr % z.p else if w="asked" then z.mn % z.p else z.hd
theorem AkOk.p0{z:Ak}(k:AkOk z):2<z.p:=k.gk.p2
theorem sC{p:Int}{xs:List Int}(h:ft xs p)(p0:0<p)(i:Nat):0<=xs.getD i 0/\xs.getD i 0<p:=by
 rw[qS0];cases e:xs[i]? with
 | none=>exact⟨Int.le_refl 0,p0⟩
 | some x=>exact h x (qE0 e)
theorem zW{z:Ak}(k:AkOk z):ft (gW z) z.p:=by
 unfold gW
 split
 . intro x hx;rcases qC0 hx with rfl | hx
   . exact⟨k.s0,k.s1⟩
   . exact k.po x hx
 . exact k.po
theorem xw{z:Ak}(k:AkOk z)(i:Int):0<=gO z i/\gO z i<z.p:=by
 have:=k.p0
 unfold gO
 split
 . exact sC (zW k) (by omega) _
 . omega
theorem vR{z:Ak}(k:AkOk z)(i:Int):0<=cW z i/\cW z i<z.p:=by
 have:=k.p0
 unfold cW
 split
 . exact⟨zU0 _ (by omega),zX0 _ (by omega)⟩
 . split
   . exact⟨zU0 _ (by omega),zX0 _ (by omega)⟩
   . omega
theorem tU{z:Ak}(k:AkOk z)(w:Str):0<=jk z w/\jk z w<z.p:=by
 have:=k.p0
 unfold jk
 split
 . exact⟨zU0 _ (by omega),zX0 _ (by omega)⟩
 . split
   . exact⟨zU0 _ (by omega),zX0 _ (by omega)⟩
   . exact⟨k.h0,k.h1⟩
def uX(CA CG:Addr):Sp:=fun vs H Q _=>∃(k g v:Addr)(z:Ak)(w:Str),vs=[.ref k,.str w]/\AkAt CA CG H k g v z/\0<z.p/\Q (.int (jk z w)) H
theorem wg:FnScope ["self","word"] ["self","word"] (ae iq):=⟨rfl,rfl,rfl,by decide +kernel,rfl,by decide +kernel,by decide +kernel⟩
theorem wH {f:Addr} {fd:FuncData} (F:Fun K "plain_value" "Asking.plain_value" iq f fd) (TA:ATxt K mg CA) (TG:GTxt K mg CG):FnOk P w K mg base CX0 1 f fd ["self","word"] (uX CA CG):=by
 refine F.ok wg (fun vs H Q E h=>?_) (fun cdv A outer s H vs Q E hr h=>?_)
 . obtain⟨k,g,v,z,w,rfl,_⟩:=h;rfl
 obtain ⟨k,g,v,z,w,rfl,⟨dk,aT,a,b,d,tv,tr,hk,⟨dg,hg⟩,_⟩,p0,q⟩:=h;refine⟨_,(ac (aJ (ah aM (pv 1) ax (aj _)) (ad (av (ag aN (aG (pv 0) rfl) (aG (aG (pv 0) rfl) rfl)))) az)
  (ac (aJ (ah aM (pv 1) ax (aj _)) (ad (av (ag aN (aG (pv 0) rfl) (aG (aG (pv 0) rfl) rfl)))) az)
  (ad (av (aG (pv 0) rfl))))),?_⟩
 unfold jk at q;refine⟨_,rfl,rfl,_,rfl,?_⟩
 by_cases c:w="round"
 . rw[zF0 c]at q;refine aU (congrArg V.str c) ?_;exact⟨_,rfl,k,CA,dk,_,_,rfl,hk,TA.cl,TA.nN,DK,_,rfl,k,CA,dk,_,_,rfl,hk,TA.cl,TA.nG,qK,g,CG,dg,_,_,rfl,hg,TG.cl,TG.nF,jR ..,_,_,rfl,rfl,p0,q⟩
 . rw [zD0 c]at q;refine au (neS c) ?_;refine⟨_,rfl,rfl,_,rfl,?_⟩
   by_cases c:w="asked"
   . rw[zF0 c]at q;refine aU (congrArg V.str c) ?_;exact⟨_,rfl,k,CA,dk,_,_,rfl,hk,TA.cl,TA.nM,al_m,_,rfl,k,CA,dk,_,_,rfl,hk,TA.cl,TA.nG,qK,g,CG,dg,_,_,rfl,hg,TG.cl,TG.nF,jR ..,_,_,rfl,rfl,p0,q⟩
   . rw[zD0 c]at q;refine au (neS c) ?_;exact⟨_,rfl,k,CA,dk,_,_,rfl,hk,TA.cl,TA.nH,al_h,q⟩
def rc(CA CG:Addr):Sp:=fun vs H Q _=>∃(k g v:Addr)(z:Ak)(i:Int),vs=[.ref k,.int i]/\AkAt CA CG H k g v z/\z.to.length<=100/\∀H',Same H H'->Q (.int (gO z i)) H'
theorem t8:FnScope ["self","place","tossed"] ["self","place"] (ae jF):=⟨rfl,rfl,rfl,by decide +kernel,rfl,by decide +kernel,by decide +kernel⟩
def Cr(z:Ak):TS:=fun Dn σ H=>∃(x0:Option V)(a:Addr)(i:Int),σ=[x0,some (.int i),some (.ref a)]/\H a=some (.tup ((gW z).map V.int))/\Dn.rt (.int (gO z i)) H
theorem zm {f:Addr} {fd:FuncData} (F:Fun K "coin_at" "Asking.coin_at" jF f fd) (B:Bl mg) (TA:ATxt K mg CA) (TG:GTxt K mg CG):FnOk P w K mg base CX0 1 f fd ["self","place"] (rc CA CG):=by
 refine F.ok t8 (fun vs H Q E h=>?_) (fun cdv A outer s H vs Q E hr h=>?_)
 . obtain⟨k,g,v,z,i,rfl,_⟩:=h;rfl
 obtain ⟨k,g,v,z,i,rfl,⟨dk,aT,a,b,d,tv,tr,hk,⟨dg,hg⟩,ha,hb,TS,_,_,hT,_⟩,tl,q⟩:=h;have vl:=TS.length;refine⟨_,(ac (am (i:=2) t8.nd rfl (Or.inl rfl) (aG (pv 0) rfl))
  (ac (aJ (ah iz (aE aB rfl B.len PySem.boot_len (af (aG (aG (pv 0) rfl) rfl) aH)) aa (aj _)) (ad (am (i:=2) t8.nd rfl (Or.inl rfl) (ag op_catT (aX (af (aG (pv 0) rfl) aH)) (pv 2)))) az)
  (kt (t':=Cr z) (ac (aJ (yG vy vy aa (pv 1) (aE aB rfl B.len PySem.boot_len (af (pv 2) aH))) (ad (av (aq aC (pv 2) (ag aV (pv 1) aa) (fun _ _=>rfl)))) az)
  (ad (av aa))) (by
   rintro Dn σ H ⟨x0,a,i,rfl,ha,q⟩;unfold gO at q;refine⟨_,rfl,_,_,rfl,rfl,_,rfl,?_⟩;have el:(((gW z).map V.int).length:Int)=((gW z).length:Int):=by rw[zH0]
   by_cases c1:1<=i
   . refine aU c1 ?_;refine⟨_,rfl,a,_,rfl,.inr (zB0 ha),_,_,rfl,rfl,_,rfl,?_⟩
     by_cases c2:i<=((gW z).length:Int)
     . rw [zF0 ⟨c1,c2⟩]at q;refine aU (by rw[el];exact c2) ?_;obtain⟨j,ej⟩:∃j:Nat,i-1=(j:Int):=⟨(i-1).toNat,by omega⟩
       rw[ej,qO0]at q;refine⟨_,rfl,_,rfl,_,_,rfl,rfl,a,_,_,_,rfl,rfl,zB0 ha,?_,q⟩;rw[ej];exact vA (by omega)
     . rw[zD0 (fun z=>c2 z.2)]at q;exact au (by rw[el];exact c2) q
   . rw[zD0 (fun z=>c1 z.1)]at q;exact au c1 ⟨_,rfl,dD q⟩)))),?_⟩
 refine⟨_,rfl,k,CA,dk,_,_,rfl,hk,TA.cl,TA.nT,al_t,?_⟩;refine⟨_,rfl,k,CA,dk,_,_,rfl,hk,TA.cl,TA.nG,qK,g,CG,dg,_,_,rfl,hg,TG.cl,TG.nT,pC ..,b,_,rfl,.inr (zB0 hb),_,_,rfl,rfl,_,rfl,?_⟩
 by_cases c:1<z.ts.length
 . refine aU (by rw[vl];omega) ?_;have ec:gW z=z.s::z.to:=zF0 c;refine⟨_,rfl,k,CA,dk,_,_,rfl,hk,TA.cl,TA.nS,al_s,(by show 1<=sizeLine;decide),fun t ht=>?_⟩;have I:=zC0 ht (.tup [.int z.s]);have g1:upd H t (.tup [.int z.s]) t=some (.tup [.int z.s]):=aD;generalize upd H t (.tup [.int z.s])=H1 at I g1;refine⟨_,rfl,t,aT,_,_,rfl,rfl,zB0 g1,zB0 (I _ _ hT),(fun z=>nomatch z),cp (by show 1+(z.to.map V.int).length<=1000;rw[zH0];omega),fun e=>?_,fun _ y hy=>?_⟩
   . refine⟨_,t,i,rfl,?_,q _ I⟩;rw[ec,g1,qA0,e]
   . refine⟨_,y,i,rfl,?_,q _ (I.trans (zC0 hy _))⟩;rw[aD,ec];rfl
 . refine au (by rw[vl];omega) ?_;have ec:gW z=z.to:=zD0 c;exact⟨_,aT,i,rfl,by rw[ec];exact hT,q _ fun _ _ e=>e⟩
end
section
variable {CM CA CG:Addr}
theorem yC(ns:List Str)(ts:List Tr)(s p:Int)(cs:List Int)(n:Nat):(iS ns ts s p cs n).length=n:=by
 unfold iS;rw[zH0,qR0]
theorem yB{ns:List Str}{ts:List Tr}{s p:Int}{cs:List Int}{n:Nat}(hp:0<p):ft (iS ns ts s p cs n) p:=fun x hx=>by
 unfold iS at hx;obtain⟨k,_,rfl⟩:=List.mem_map.mp hx;exact⟨zU0 _ (by omega),zX0 _ hp⟩
theorem AkOk.deg {z:Ak} (k:AkOk z) (h:0<z.nr):∃x,z.ns[z.to.length]?=some x/\z.ns.getD z.to.length ""=x/\0<=bK z.ts x/\bK z.ts x<z.p/\bK z.ts x<=400:=by
 have hl:=k.nrt h;refine⟨z.ns[z.to.length],zQ0 hl,by rw[qS0,zQ0 hl];rfl,?_⟩;have hm:=qT0 hl;obtain⟨d0,d1⟩:=k.gk.deg _ hm;refine⟨d0,d1,?_⟩;have t0:z.ts≠[]:=fun e=>by have:=k.gk.t1;rw[e]at this;cases this
 have:=oj (p:=401) (x:=z.ns[z.to.length]) t0 fun t ht=>by
  have h1:=(k.gk.tok t ht).2.2.2;have h2:=t.names_len;have h3:=List.count_le_length (a:=z.ns[z.to.length]) (l:=t.names);omega
 omega
theorem AkOk.row{z:Ak}(k:AkOk z)(h:0<z.nr):Ab z.tru z.p:=by
 obtain ⟨x,hx,ex,d0,d1,d4⟩:=k.deg h;have p2:=k.p0;have p9:=k.gk.p9;have e:z.tru=iS z.ns z.ts z.s z.p z.to (bK z.ts x+1).toNat:=by
  unfold Ak.tru;rw[zD0 (by omega),ex]
 rw[e];unfold Ab;rw[yC];refine⟨by omega,by omega,by omega,fun j=>?_⟩
 have:=sC (yB (ns:=z.ns) (ts:=z.ts) (s:=z.s) (cs:=z.to) (n:=(bK z.ts x+1).toNat) (show 0<z.p by omega)) (by omega) j
 omega
def qW(CA CG:Addr):Sp:=fun vs H Q _=>∃(k g v:Addr)(z:Ak)(ys:List V),vs=[.ref k]/\AkAt CA CG H k g v z/\AkOk z/\H v=some (.lst ys)/\∀(l:Addr)(H':Hp),H' l=some (.lst (z.tru.map V.int))->AkAt CA CG H' k g v z->SameBut k H H'->Q (.ref l) H'
theorem tO:FnScope ["self"] ["self"] (ae gA):=⟨rfl,rfl,rfl,by decide +kernel,rfl,by decide +kernel,by decide +kernel⟩
theorem uh {f:Addr} {fd:FuncData} (F:Fun K "true_numbers" "Asking.true_numbers" gA f fd) (TA:ATxt K mg CA) (jf:Cal P w K mg base 16 "counts_of" ["game"] (qZ CG)) (kj:Cal P w K mg base 14 "true_row" ["game","s","coins"] (xV CG)):FnOk P w K mg base CX0 17 f fd ["self"] (qW CA CG):=by
 refine F.ok tO (fun vs H Q E h=>?_) (fun cdv A outer s H vs Q E hr h=>?_)
 . obtain⟨k,g,v,z,ys,rfl,_⟩:=h;rfl
 obtain ⟨k,g,v,z,ys,rfl,AK,ok,hv,q⟩:=h;refine⟨_,(ac (aJ (ah CY (aG (pv 0) rfl) yM (aj _)) (ad (aJ (ah aM (aG (pv 0) rfl) aa (aj _)) (ad (bO (pv 0) (ai jf hr (by decide) rfl (af (aG (pv 0) rfl) aH)) rfl)) (ad (bO (pv 0) (ai kj hr (by decide) rfl (af (aG (pv 0) rfl) (af (aG (pv 0) rfl) (af (aG (pv 0) rfl) aH)))) rfl)))) az)
  (ad (av (aG (pv 0) rfl)))),?_⟩
 have AK':=AK;obtain⟨dk,aT,a,b,d,tv,tr,hk,GA,ha,hb,TS,hd,dv,hT,ht⟩:=AK';have t0:z.ts≠[]:=fun e=>by have:=ok.gk.t1;rw[e]at this;cases this
 have t10:=ok.gk.t10;have p2:=ok.p0;have p9:=ok.gk.p9;refine⟨_,rfl,k,CA,dk,_,_,rfl,hk,TA.cl,TA.nR,Bt,?_⟩;rcases ht with rfl | ⟨l,rfl,lv,hl⟩
 . -- not yet asked
   have put:∀(l:Addr)(H1:Hp),H l=none->Same H H1->H1 l=some (.lst (z.tru.map V.int))->AkAt CA CG (upd H1 k (.ins CA dk (al g z.nr z.mn z.hd z.s aT (.ref l)))) k g v z/\(upd H1 k (.ins CA dk (al g z.nr z.mn z.hd z.s aT (.ref l)))) l=some (.lst (z.tru.map V.int))/\SameBut k H (upd H1 k (.ins CA dk (al g z.nr z.mn z.hd z.s aT (.ref l)))):=by
    intro l H1 l0 S1 hl;have lk:l≠k:=(aO hk l0).symm;have U:∀{c:Addr}{o:HO},c≠k->H1 c=some o->(upd H1 k (.ins CA dk (al g z.nr z.mn z.hd z.s aT (.ref l)))) c=some o:=fun n e=>by rw[ao n];exact e
    have gk:g≠k:=fun e=>by
     obtain⟨dg,hg⟩:=GA;rw[e,hk]at hg;cases hg
    have kT:bv H (upd H1 k (.ins CA dk (al g z.nr z.mn z.hd z.s aT (.ref l)))):=fun c xs e=>U (bh e hk (by intro z;cases z)) (S1 _ _ e)
    obtain⟨dg,hg⟩:=GA;exact⟨⟨dk,aT,a,b,d,tv,.ref l,aD,⟨dg,U gk (S1 _ _ hg)⟩,kT _ _ ha,kT _ _ hb,TS.mono kT,U (bh hd hk (by intro z;cases z)) (S1 _ _ hd),dv,kT _ _ hT,.inr ⟨l,rfl,(aO hv l0).symm,U lk hl⟩⟩,U lk hl,(zJ0 S1).trans (SameBut.upd _)⟩
   refine⟨rfl,_,rfl,fq ?_⟩;refine⟨_,rfl,k,CA,dk,_,_,rfl,hk,TA.cl,TA.nN,DK,rfl,_,rfl,?_⟩
   by_cases c:z.nr=0
   . refine aU (congrArg V.int c) ?_;refine⟨_,rfl,k,CA,dk,_,_,rfl,hk,TA.cl,TA.nG,qK,g,a,b,d,z.ns,tv,z.ts,z.p,rfl,GA,ha,ok.n6,hb,TS,t10,fun t ht=>⟨(ok.gk.tok t ht).1,by have:=(ok.gk.tok t ht).2.2.1;omega⟩,fun l H1 l0 S1 hl=>?_⟩;have et:z.tru=z.ts.map (fun t=>(cnt t z.ns:Int)):=zF0 c;rw[←et]at hl;obtain⟨A1,L1,B1⟩:=put l H1 l0 S1 hl;refine⟨_,rfl,k,CA,dk,_,rfl,S1 _ _ hk,TA.cl,TA.nR,Aa,?_⟩;rw[zZ];exact⟨_,rfl,k,CA,dk,_,_,rfl,aD,TA.cl,TA.nR,Bt,q l _ L1 A1 B1⟩
   . refine au (fun e=>c (V.int.inj e)) ?_;have n0:=ok.nr0;obtain⟨x,hx,ex,d0,d1,d4⟩:=ok.deg (by omega);refine⟨_,rfl,k,CA,dk,_,_,rfl,hk,TA.cl,TA.nG,qK,_,rfl,k,CA,dk,_,_,rfl,hk,TA.cl,TA.nS,al_s,_,rfl,k,CA,dk,_,_,rfl,hk,TA.cl,TA.nT,al_t,g,a,b,d,aT,z.ns,tv,z.ts,z.to,x,z.s,z.p,rfl,GA,ha,ok.n6,hb,TS,t0,t10,fun t ht=>⟨(ok.gk.tok t ht).1,(ok.gk.tok t ht).2.2.1⟩,hd,hT,hx,d1,by omega,ok.po,by omega,by omega,fun l H1 l0 S1 hl=>?_⟩;have et:z.tru=iS z.ns z.ts z.s z.p z.to (bK z.ts x+1).toNat:=by
      unfold Ak.tru;rw[zD0 c,ex]
     rw[←et]at hl;obtain⟨A1,L1,B1⟩:=put l H1 l0 S1 hl;refine⟨_,rfl,k,CA,dk,_,rfl,S1 _ _ hk,TA.cl,TA.nR,Aa,?_⟩;rw[zZ];exact⟨_,rfl,k,CA,dk,_,_,rfl,aD,TA.cl,TA.nR,Bt,q l _ L1 A1 B1⟩
 . refine⟨rfl,_,rfl,dD ?_⟩;exact⟨_,rfl,k,CA,dk,_,_,rfl,hk,TA.cl,TA.nR,Bt,q l H hl AK (SameBut.refl _ _)⟩
def qX(CA CG:Addr):Sp:=fun vs H Q _=>∃(k g v:Addr)(z:Ak)(ys:List V)(i:Int),vs=[.ref k,.int i]/\AkAt CA CG H k g v z/\AkOk z/\H v=some (.lst ys)/\0<=i/\i<z.p/\∀H',AkAt CA CG H' k g v z->SameBut k H H'->Q (.int (cW z i)) H'
theorem D3:FnScope ["self","place","truths"] ["self","place"] (ae jD):=⟨rfl,rfl,rfl,by decide +kernel,rfl,by decide +kernel,by decide +kernel⟩
theorem zj {f fT:Addr} {fd fdT:FuncData} (F:Fun K "true_at" "Asking.true_at" jD f fd) (B:Bl mg) (TA:ATxt K mg CA) (TG:GTxt K mg CG) (mT:Meth K CA "true_numbers" fT) (GT:FnOk P w K mg base CX0 17 fT fdT ["self"] (qW CA CG)) (bT:Binds K fdT ["self"] []) (ko:Cal P w K mg base 4 "value_at" ["values","r","p"] uV):FnOk P w K mg base CX0 18 f fd ["self","place"] (qX CA CG):=by
 refine F.ok D3 (fun vs H Q E h=>?_) (fun cdv A outer s H vs Q E hr h=>?_)
 . obtain⟨k,g,v,z,ys,i,rfl,_⟩:=h;rfl
 obtain ⟨k,g,v,z,ys,i,rfl,AK,ok,hv,i0,i1,q⟩:=h;refine⟨_,(ac (am (i:=2) D3.nd rfl (Or.inl rfl) (yN (pv 0) TA.cl mT GT hr bT .nil ee))
  (ac (aJ (ah iz (aG (pv 0) rfl) aa (aj _)) (ad (av (ai ko hr (by decide) rfl (af (pv 2) (af (pv 1) (af (aG (aG (pv 0) rfl) rfl) aH)))))) az)
  (ac (aJ (ah df (pv 1) (aE aB rfl B.len PySem.boot_len (af (pv 2) aH)) (aj _)) (ad (av (ag aN (aq ix_list (pv 2) (pv 1) (fun _ _=>rfl)) (aG (aG (pv 0) rfl) rfl)))) az)
  (ad (av aa))))),?_⟩
 have p2:=ok.p0;have p9:=ok.gk.p9;obtain⟨dk,aT,_,_,_,_,tr,hk,_⟩:=id AK;refine⟨_,rfl,k,dk,_,rfl,hk,al_n3,k,g,v,z,ys,rfl,AK,ok,hv,fun l H1 hl A1 S1=>?_⟩;have A1':=A1;obtain⟨dk1,aT1,a1,b1,d1,tv1,tr1,hk1,⟨dg1,hg1⟩,_⟩:=A1';unfold cW at q;refine⟨_,rfl,k,CA,dk1,_,_,rfl,hk1,TA.cl,TA.nN,DK,_,_,rfl,rfl,_,rfl,?_⟩
 by_cases c:0<z.nr
 . rw[zF0 c]at q;refine aU c ?_;exact⟨_,rfl,_,rfl,_,rfl,k,CA,dk1,_,_,rfl,hk1,TA.cl,TA.nG,qK,g,CG,dg1,_,_,rfl,hg1,TG.cl,TG.nF,jR ..,l,z.tru,i,z.p,rfl,.inl hl,ok.row c,ok.gk.pr,p9,i0,i1,fun H2 S2=>q H2 (A1.same S2) (S1.trans (zJ0 S2))⟩
 . rw [zD0 c]at q;refine au c ?_;refine⟨_,rfl,_,rfl,l,_,rfl,.inl (zE0 hl),_,_,rfl,rfl,_,rfl,?_⟩;have el:((z.tru.map V.int).length:Int)=(z.tru.length:Int):=by rw[zH0]
   by_cases c2:i<(z.tru.length:Int)
   . rw[zF0 c2]at q;refine aU (by rw[el];exact c2) ?_;obtain⟨j,rfl⟩:=Int.eq_ofNat_of_zero_le i0;rw[qO0]at q;exact⟨_,rfl,_,rfl,l,_,_,_,rfl,rfl,zE0 hl,vA (by omega),_,rfl,k,CA,dk1,_,_,rfl,hk1,TA.cl,TA.nG,qK,g,CG,dg1,_,_,rfl,hg1,TG.cl,TG.nF,jR ..,_,_,rfl,rfl,(by show 0<z.p;omega),q H1 A1 S1⟩
   . rw[zD0 c2]at q;refine au (by rw[el];exact c2) ?_;exact q H1 A1 S1
noncomputable def Tm.worth(z:Ak)(bx:Str->Int):Tm->Int
 | .num n=>n % z.p | .box x=>bx x | .plain w=>jk z w
 | .ask w a=>if w="coin" then gO z (a.worth z bx)else cW z (a.worth z bx)
 | .op s a b=>opV z.p s (a.worth z bx) (b.worth z bx)
def Tm.good:Tm->Prop
 | .num _=>True | .box _=>True | .plain w=>w∈hU | .ask w a=>w∈Bs/\a.good | .op s a b=>s∈jN/\a.good/\b.good
def dA(p:Int)(bx:Str->Int):Prop:=∀x,0<=bx x/\bx x<p
theorem Tm.worth_rng{z:Ak}{bx:Str->Int}(k:AkOk z)(hb:dA z.p bx):∀t:Tm,0<=t.worth z bx/\t.worth z bx<z.p
 | .num n=>by have:=k.p0;exact⟨zU0 _ (by omega),zX0 _ (by omega)⟩
 | .box x=>hb x
 | .plain w=>tU k w
 | .ask w a=>by
   show 0<=(if w="coin" then gO z (a.worth z bx)else cW z (a.worth z bx))/\(if w="coin" then gO z (a.worth z bx)else cW z (a.worth z bx))<z.p
   split
   . exact xw k _
   . exact vR k _
 | .op s a b=>by have:=k.p0;exact AQ (by omega)
def vW(CA CG:Addr)(n:Nat):Sp:=fun vs H Q _=>∃(v:V)(t:Tm)(b k g sd:Addr)(z:Ak)(ys:List V)(bx:Str->Int)(m:Nat),vs=[v,.ref b,.ref k]/\TmAt H v t/\t.good/\t.depth<=n/\BxAt H b bx m/\dA z.p bx/\AkAt CA CG H k g sd z/\AkOk z/\H sd=some (.lst ys)/\
 ∀H',AkAt CA CG H' k g sd z->SameBut k H H'->Q (.int (t.worth z bx)) H'
theorem gV:FnScope ["term","boxes","asking","word","first","second"] ["term","boxes","asking"] (ae dJ):=⟨rfl,rfl,rfl,by decide +kernel,rfl,by decide +kernel,by decide +kernel⟩
structure AskF(P:Program)(w:World)(K:W.Frag)(mg:Str->Option Value)(base:Heap)(CA CG fP fC fR:Addr)(fdP fdC fdR:FuncData):Prop where
 mP:Meth K CA "plain_value" fP
 GP:FnOk P w K mg base CX0 1 fP fdP ["self","word"] (uX CA CG)
 bP:Binds K fdP ["self","word"] []
 mC:Meth K CA "coin_at" fC
 GC:FnOk P w K mg base CX0 1 fC fdC ["self","place"] (rc CA CG)
 bC:Binds K fdC ["self","place"] []
 mR:Meth K CA "true_at" fR
 GR:FnOk P w K mg base CX0 18 fR fdR ["self","place"] (qX CA CG)
 bR:Binds K fdR ["self","place"] []
theorem xE {n:Nat} {f fP fC fR:Addr} {fd fdP fdC fdR:FuncData} (F:Fun K "value_of" "value_of" dJ f fd) (TA:ATxt K mg CA) (TG:GTxt K mg CG) (M:AskF P w K mg base CA CG fP fC fR fdP fdC fdR) (eK:Cal P w K mg base 3 "op_value" ["sign","first","second","p"] Cu) (b5:Cal P w K mg base (n+18) "value_of" ["term","boxes","asking"] (vW CA CG n)):FnOk P w K mg base CX0 (n+19) f fd ["term","boxes","asking"] (vW CA CG (n+1)):=by
 refine F.ok gV (fun vs H Q E h=>?_) (fun cdv A outer s H vs Q E hr h=>?_)
 . obtain⟨v,t,b,k,g,sd,z,ys,bx,m,rfl,_⟩:=h;rfl
 obtain ⟨v,t,b,k,g,sd,z,ys,bx,m,rfl,T,tg,td,BX,bo,AK,ok,hs,q⟩:=h;have hu:=nU hr;have hr1:Room 1 _:=hr.mono (by omega);have hr18:Room 18 _:=hr.mono (by omega);refine⟨_,(ac (am (i:=3) gV.nd rfl (Or.inl rfl) (aq aC (pv 0) aa (fun _ _=>rfl)))
  (ac (aJ (ah aM (pv 3) ax (aj _)) (ad (av (ag aN (aq aC (pv 0) aa (fun _ _=>rfl)) (aG (aG (pv 2) rfl) rfl)))) az)
  (ac (aJ (ah aM (pv 3) ax (aj _)) (ad (av (rK hu (pv 1) (aq aC (pv 0) aa (fun _ _=>rfl)) aa ⟨rfl,rfl,rfl,rfl⟩))) az)
  (ac (aJ (ah aM (pv 3) ax (aj _)) (ad (av (dG (pv 2) TA.cl M.mC M.GC hr1 M.bC .nil ee (af (ai b5 hr (zG0 _) rfl (af (aq aC (pv 0) aa (fun _ _=>rfl)) (af (pv 1) (af (pv 2) aH)))) aH)))) az)
  (ac (aJ (ah aM (pv 3) ax (aj _)) (ad (av (dG (pv 2) TA.cl M.mR M.GR hr18 M.bR .nil ee (af (ai b5 hr (zG0 _) rfl (af (aq aC (pv 0) aa (fun _ _=>rfl)) (af (pv 1) (af (pv 2) aH)))) aH)))) az)
  (ac (aJ (ah aM (pv 3) ax (aj _)) (ac (am (i:=4) gV.nd rfl (Or.inl rfl) (ai b5 hr (zG0 _) rfl (af (aq aC (pv 0) aa (fun _ _=>rfl)) (af (pv 1) (af (pv 2) aH)))))
   (ac (am (i:=5) gV.nd rfl (Or.inl rfl) (ai b5 hr (zG0 _) rfl (af (aq aC (pv 0) aa (fun _ _=>rfl)) (af (pv 1) (af (pv 2) aH)))))
   (ad (av (ai eK hr (by omega) rfl (af (aq aC (pv 0) aa (fun _ _=>rfl)) (af (pv 4) (af (pv 5) (af (aG (aG (pv 2) rfl) rfl) aH))))))))) az)
  (ad (av (dG (pv 2) TA.cl M.mP M.GP hr1 M.bP .nil ee (af (pv 3) aH)))))))))),?_⟩
 have AK':=AK;obtain⟨dk,aT,ga,gb,gd,tv,tr,hk,⟨dg,hg⟩,_⟩:=AK';have p2:=ok.p0;have p0:0<z.p:=by omega
 have kT:∀{H':Hp},SameBut k H H'->bv H H':=fun s c xs e=>s _ _ (bh e hk (by intro z;cases z)) e
 have kB:∀{H':Hp},SameBut k H H'->BxAt H' b bx m:=fun s=>BX.keep fun o e=>s _ _ (by
  obtain⟨kvs,e',_⟩:=BX;exact bh e' hk (by intro z;cases z)) e
 have kS:∀{H':Hp},SameBut k H H'->H' sd=some (.lst ys):=fun s=>s _ _ (bh hs hk (by intro z;cases z)) hs
 cases T with
 | @num a n e=>
   refine⟨_,rfl,a,_,0,_,rfl,rfl,zB0 e,rfl,?_⟩;refine⟨_,rfl,rfl,_,rfl,aU rfl ?_⟩;exact⟨_,rfl,a,_,1,_,rfl,rfl,zB0 e,rfl,_,rfl,k,CA,dk,_,_,rfl,hk,TA.cl,TA.nG,qK,g,CG,dg,_,_,rfl,hg,TG.cl,TG.nF,jR ..,_,_,rfl,rfl,p0,q H AK (SameBut.refl _ _)⟩
 | @box a x e=>
   refine⟨_,rfl,a,_,0,_,rfl,rfl,zB0 e,rfl,?_⟩;refine⟨_,rfl,rfl,_,rfl,au (neS (by decide +kernel)) ?_⟩;refine⟨_,rfl,rfl,_,rfl,aU rfl ?_⟩;obtain⟨kvs,hb,_,hx⟩:=BX;refine⟨_,rfl,b,rfl,.inl ⟨kvs,.inl hb⟩,_,rfl,a,_,1,_,rfl,rfl,zB0 e,rfl,_,DGet.k (k:=.inr x) hb,?_⟩;rw[hx];exact q H AK (SameBut.refl _ _)
 | @plain a wd e=>
   have no:∀x:Str,x∉hU->¬ V.str wd=V.str x:=fun x hx e=>hx (by rw[←V.str.inj e];exact tg)
   refine⟨_,rfl,a,_,0,_,rfl,rfl,zB0 e,rfl,?_⟩;refine⟨_,rfl,rfl,_,rfl,au (no _ (by decide +kernel)) ?_⟩;refine⟨_,rfl,rfl,_,rfl,au (no _ (by decide +kernel)) ?_⟩;refine⟨_,rfl,rfl,_,rfl,au (no _ (by decide +kernel)) ?_⟩;refine⟨_,rfl,rfl,_,rfl,au (no _ (by decide +kernel)) ?_⟩;refine⟨_,rfl,rfl,_,rfl,au (no _ (by decide +kernel)) ?_⟩;exact⟨_,rfl,k,dk,_,rfl,hk,al_n1,_,rfl,k,g,sd,z,wd,rfl,AK,p0,q H AK (SameBut.refl _ _)⟩
 | @ask a wd v1 t1 e T1=>
   obtain⟨wq,tq⟩:=tg;have hw:wd="coin"∨wd="true":=by simpa [Bs]using wq
   have d1:t1.depth<=n:=by have:t1.depth+1<=n+1:=td;omega
   have wr:=Tm.worth_rng ok bo t1;refine⟨_,rfl,a,_,0,_,rfl,rfl,zB0 e,rfl,?_⟩;rcases hw with rfl | rfl
   . refine⟨_,rfl,rfl,_,rfl,au (neS (by decide +kernel)) ?_⟩;refine⟨_,rfl,rfl,_,rfl,au (neS (by decide +kernel)) ?_⟩;refine⟨_,rfl,rfl,_,rfl,aU rfl ?_⟩;refine⟨_,rfl,k,dk,_,rfl,hk,al_n2,_,rfl,a,_,1,_,rfl,rfl,zB0 e,rfl,_,rfl,_,rfl,v1,t1,b,k,g,sd,z,ys,bx,m,rfl,T1,tq,d1,BX,bo,AK,ok,hs,fun H1 A1 S1=>?_⟩;refine⟨k,g,sd,z,_,rfl,A1,ok.tl,fun H2 S2=>?_⟩;have qq:=q H2 (A1.same S2) (S1.trans (zJ0 S2));have e1:(Tm.ask "coin" t1).worth z bx=gO z (t1.worth z bx):=zF0 rfl;rw[e1]at qq;exact qq
   . refine⟨_,rfl,rfl,_,rfl,au (neS (by decide +kernel)) ?_⟩;refine⟨_,rfl,rfl,_,rfl,au (neS (by decide +kernel)) ?_⟩;refine⟨_,rfl,rfl,_,rfl,au (neS (by decide +kernel)) ?_⟩;refine⟨_,rfl,rfl,_,rfl,aU rfl ?_⟩;refine⟨_,rfl,k,dk,_,rfl,hk,al_n4,_,rfl,a,_,1,_,rfl,rfl,zB0 e,rfl,_,rfl,_,rfl,v1,t1,b,k,g,sd,z,ys,bx,m,rfl,T1,tq,d1,BX,bo,AK,ok,hs,fun H1 A1 S1=>?_⟩;refine⟨k,g,sd,z,ys,_,rfl,A1,ok,kS S1,wr.1,wr.2,fun H2 A2 S2=>?_⟩;have qq:=q H2 A2 (S1.trans S2);have e1:(Tm.ask "true" t1).worth z bx=cW z (t1.worth z bx):=zD0 (by decide +kernel);rw[e1]at qq;exact qq
 | @op a o v1 v2 t1 t2 e T1 T2=>
   obtain⟨oq,q1,q2⟩:=tg;have d1:t1.depth<=n:=by have:max t1.depth t2.depth+1<=n+1:=td;omega
   have d2:t2.depth<=n:=by have:max t1.depth t2.depth+1<=n+1:=td;omega
   have w1:=Tm.worth_rng ok bo t1;have w2:=Tm.worth_rng ok bo t2;refine⟨_,rfl,a,_,0,_,rfl,rfl,zB0 e,rfl,?_⟩;refine⟨_,rfl,rfl,_,rfl,au (neS (by decide +kernel)) ?_⟩;refine⟨_,rfl,rfl,_,rfl,au (neS (by decide +kernel)) ?_⟩;refine⟨_,rfl,rfl,_,rfl,au (neS (by decide +kernel)) ?_⟩;refine⟨_,rfl,rfl,_,rfl,au (neS (by decide +kernel)) ?_⟩;refine⟨_,rfl,rfl,_,rfl,aU rfl ?_⟩;refine⟨_,rfl,a,_,2,_,rfl,rfl,zB0 e,rfl,_,rfl,_,rfl,v1,t1,b,k,g,sd,z,ys,bx,m,rfl,T1,q1,d1,BX,bo,AK,ok,hs,fun H1 A1 S1=>?_⟩;have e1:=kT S1 _ _ e;refine⟨_,rfl,a,_,3,_,rfl,rfl,zB0 e1,rfl,_,rfl,_,rfl,v2,t2,b,k,g,sd,z,ys,bx,m,rfl,T2.mono (kT S1),q2,d2,kB S1,bo,A1,ok,kS S1,fun H2 A2 S2=>?_⟩;have e2:=kT (S1.trans S2) _ _ e;obtain⟨dk2,aT2,_,_,_,_,tr2,hk2,⟨dg2,hg2⟩,_⟩:=id A2;exact⟨_,rfl,a,_,1,_,rfl,rfl,zB0 e2,rfl,_,rfl,_,rfl,_,rfl,k,CA,dk2,_,_,rfl,hk2,TA.cl,TA.nG,qK,g,CG,dg2,_,_,rfl,hg2,TG.cl,TG.nF,jR ..,o,_,_,z.p,rfl,oq,ok.gk.pr,ok.gk.p9,w1.1,w1.2,w2.1,w2.2,q H2 A2 (S1.trans S2)⟩
theorem xD {f:Addr} {fd:FuncData}:FnOk P w K mg base CX0 18 f fd ["term","boxes","asking"] (vW CA CG 0):=by
 have no:∀vs H Q E,¬ vW CA CG 0 vs H Q E:=fun vs H Q E h=>by
  obtain⟨v,t,_,_,_,_,_,_,_,_,_,_,_,h1,_⟩:=h
  have:=t.depth_pos
  omega
 exact⟨fun vs H Q E h=>absurd h (no vs H Q E),fun A outer s H args us vs Q E _ _ _ _ h=>absurd h (no vs H Q E)⟩
theorem lN {f fP fC fR:Addr} {fd fdP fdC fdR:FuncData} (F:Fun K "value_of" "value_of" dJ f fd) (m:mg "value_of"=some (.ref f)) (TA:ATxt K mg CA) (TG:GTxt K mg CG) (M:AskF P w K mg base CA CG fP fC fR fdP fdC fdR) (eK:Cal P w K mg base 3 "op_value" ["sign","first","second","p"] Cu) :
 ∀n:Nat,FnOk P w K mg base CX0 (n+18) f fd ["term","boxes","asking"] (vW CA CG n)
 | 0=>xD
 | n+1=>xE F TA TG M eK (Cal.of F (lN F m TA TG M eK n) m (fun _ _ _ _ _ _ us hl=>by obtain⟨u0,u1,u2,rfl⟩:=fY hl;rfl))
end
section
variable {CM CA CG:Addr}
structure MS where
 pl:Int
 bx:Str->Int
 sd:List Int
noncomputable def uT(z:Ak)(len:Int)(s:MS):Hr->MS
 | .fin=>⟨len,s.bx,s.sd⟩
 | .go n=>⟨n,s.bx,s.sd⟩
 | .iff t n=>⟨if t.worth z s.bx=0 then s.pl+1 else n,s.bx,s.sd⟩
 | .set x t=>⟨s.pl+1,sQ s.bx x (t.worth z s.bx),s.sd⟩
 | .say t=>⟨s.pl+1,s.bx,s.sd++[t.worth z s.bx]⟩
noncomputable def fE(z:Ak)(rows:List Hr)(s:MS):MS:=match rows[s.pl.toNat]? with
 | some r=>uT z rows.length s r
 | none=>s
noncomputable def hC(z:Ak)(rows:List Hr):Nat->MS->MS
 | 0,s=>s
 | n+1,s=>if s.pl<(rows.length:Int)/\(s.sd.length:Int)<z.mn then hC z rows n (fE z rows s)else s
def oF(mn:Int)(sd:List Int):List Int:=sd++List.replicate (mn-(sd.length:Int)).toNat 0
def Hr.good:Hr->Prop
 | .fin=>True | .go n=>0<=n | .iff t n=>t.good/\t.depth<=8/\0<=n | .set _ t=>t.good/\t.depth<=8 | .say t=>t.good/\t.depth<=8
theorem xT{z:Ak}{rows:List Hr}(hq:∀r∈rows,r.good){s:MS}(h:0<=s.pl):0<=(fE z rows s).pl:=by
 unfold fE;cases e:rows[s.pl.toNat]? with
 | none=>exact h
 | some r=>
   have q:=hq r (qE0 e);cases r with
   | fin=>exact Int.natCast_nonneg _
   | go n=>exact q
   | iff t n=>
     show 0<=if t.worth z s.bx=0 then s.pl+1 else n
     by_cases c:t.worth z s.bx=0
     . rw[zF0 c];omega
     . rw[zD0 c];exact q.2.2
   | set x t=>show 0<=s.pl+1;omega
   | say t=>show 0<=s.pl+1;omega
theorem qU{z:Ak}{rows:List Hr}{s:MS}:(fE z rows s).sd.length<=s.sd.length+1:=by
 unfold fE;cases e:rows[s.pl.toNat]? with
 | none=>exact qK0 _
 | some r=>
   cases r with
   | fin=>exact qK0 _
   | go n=>exact qK0 _
   | iff t n=>exact qK0 _
   | set x t=>exact qK0 _
   | say t=>show(s.sd++[_]).length<=_;rw[zL0];exact zG0 _
theorem sP{p n:Int}{bx:Str->Int}{x:Str}(h:dA p bx)(h0:0<=n)(h1:n<p):dA p (sQ bx x n):=fun y=>by
 unfold sQ
 split
 . exact⟨h0,h1⟩
 . exact h y
theorem mF{z:Ak}{rows:List Hr}{s:MS}(k:AkOk z)(h:dA z.p s.bx)(hs:ft s.sd z.p):dA z.p (fE z rows s).bx/\ft (fE z rows s).sd z.p:=by
 unfold fE;cases e:rows[s.pl.toNat]? with
 | none=>exact⟨h,hs⟩
 | some r=>
   cases r with
   | fin=>exact⟨h,hs⟩
   | go n=>exact⟨h,hs⟩
   | iff t n=>exact⟨h,hs⟩
   | set x t=>
     have w:=Tm.worth_rng k h t;exact⟨sP h w.1 w.2,hs⟩
   | say t=>
     have w:=Tm.worth_rng k h t;refine⟨h,fun y hy=>?_⟩;rcases zT0 hy with hy | hy
     . exact hs y hy
     . rw[zM0 hy];exact w
theorem vn{z:Ak}{rows:List Hr}(k:AkOk z):∀(n:Nat)(s:MS),dA z.p s.bx->ft s.sd z.p->(s.sd.length:Int)<=z.mn->dA z.p (hC z rows n s).bx/\ft (hC z rows n s).sd z.p/\((hC z rows n s).sd.length:Int)<=z.mn
 | 0,s,h,hs,hl=>⟨h,hs,hl⟩
 | n+1,s,h,hs,hl=>by
   show dA z.p (if _ then _ else _:MS).bx/\ft (if _ then _ else _:MS).sd z.p/\((if _ then _ else _:MS).sd.length:Int)<=z.mn
   by_cases c:s.pl<(rows.length:Int)/\(s.sd.length:Int)<z.mn
   . rw [zF0 c];obtain⟨h1,h2⟩:=mF (rows:=rows) k h hs
     have:=qU (z:=z) (rows:=rows) (s:=s)
     exact vn k n _ h1 h2 (by omega)
   . rw[zD0 c];exact⟨h,hs,hl⟩
def RowsAt(H:Hp)(rv:List V)(rows:List Hr):Prop:=rv.length=rows.length/\∀(i:Nat)(v:V)(r:Hr),rv[i]?=some v->rows[i]?=some r->HrAt H v r
theorem RowsAt.mono{H H':Hp}{rv:List V}{rows:List Hr}(h:RowsAt H rv rows)(k:bv H H'):RowsAt H' rv rows:=⟨h.1,fun i v r h1 h2=>(h.2 i v r h1 h2).mono k⟩
def But2(b c:Addr)(H H':Hp):Prop:=∀a o,a≠b->a≠c->H a=some o->H' a=some o
theorem But2.trans{b c:Addr}{H H1 H2:Hp}(x:But2 b c H H1)(y:But2 b c H1 H2):But2 b c H H2:=fun a o h1 h2 e=>y a o h1 h2 (x a o h1 h2 e)
theorem But2.of{b c:Addr}{H H':Hp}(h:Same H H'):But2 b c H H':=fun a o _ _ e=>h a o e
theorem BxAt.le{H:Hp}{b:Addr}{bx:Str->Int}{m n:Nat}(h:BxAt H b bx m)(k:m<=n):BxAt H b bx n:=by
 obtain⟨kvs,e,l,r⟩:=h;exact⟨kvs,e,zZ0 l k,r⟩
def But3(b c d:Addr)(H H':Hp):Prop:=∀a o,a≠b->a≠c->a≠d->H a=some o->H' a=some o
theorem But3.trans{b c d:Addr}{H H1 H2:Hp}(x:But3 b c d H H1)(y:But3 b c d H1 H2):But3 b c d H H2:=fun a o h1 h2 h3 e=>y a o h1 h2 h3 (x a o h1 h2 h3 e)
def xY(CM CA CG:Addr):Sp:=fun vs H Q _=>∃(M g h b dm k sd:Addr)(rv:List V)(r pl:Int)(z:Ak)(rows:List Hr)(bx:Str->Int)(m:Nat)(said:List Int),
 vs=[.ref M,.int pl,.ref sd,.ref k]/\H M=some (.ins CM dm (ml g h r b))/\M≠k/\H h=some (.tup rv)/\RowsAt H rv rows/\(∀r∈rows,r.good)/\0<=pl/\pl<(rows.length:Int)/\BxAt H b bx m/\dA z.p bx/\m<=10000/\H sd=some (.lst (said.map V.int))/\said.length<=900/\AkAt CA CG H k g sd z/\AkOk z/\
 ∀H',H' sd=some (.lst ((fE z rows ⟨pl,bx,said⟩).sd.map V.int))->BxAt H' b (fE z rows ⟨pl,bx,said⟩).bx (m+1)->AkAt CA CG H' k g sd z->But3 b sd k H H'->Q (.int (fE z rows ⟨pl,bx,said⟩).pl) H'
theorem B0:FnScope ["self","place","said","asking","row","word"] ["self","place","said","asking"] (ae kZ):=⟨rfl,rfl,rfl,by decide +kernel,rfl,by decide +kernel,by decide +kernel⟩
theorem AT {f:Addr} {fd:FuncData} (F:Fun K "do_row" "Machine.do_row" kZ f fd) (B:Bl mg) (TM:MTxt K mg CM) (b5:Cal P w K mg base 26 "value_of" ["term","boxes","asking"] (vW CA CG 8)):FnOk P w K mg base CX0 27 f fd ["self","place","said","asking"] (xY CM CA CG):=by
 refine F.ok B0 (fun vs H Q E h=>?_) (fun cdv A outer s H vs Q E hr h=>?_)
 . obtain⟨M,g,h,b,dm,k,sd,rv,r,pl,z,rows,bx,m,said,rfl,_⟩:=h;rfl
 obtain ⟨M,g,h,b,dm,k,sd,rv,rn,pl,z,rows,bx,m,said,rfl,hM,nMk,hh,RW,rq,pl0,pl1,BX,bo,m1,hsd,sl,AK,ok,q⟩:=h;have hu:=nU hr;refine⟨_,(ac (am (i:=4) B0.nd rfl (Or.inl rfl) (aq aC (aG (pv 0) rfl) (pv 1) (fun _ _=>rfl)))
  (ac (am (i:=5) B0.nd rfl (Or.inl rfl) (aq aC (pv 4) aa (fun _ _=>rfl)))
  (ac (aJ (ah aM (pv 5) ax (aj _)) (ad (av (aE aB rfl B.len PySem.boot_len (af (aG (pv 0) rfl) aH)))) az)
  (ac (aJ (ah aM (pv 5) ax (aj _)) (ad (av (aq aC (pv 4) aa (fun _ _=>rfl)))) az)
  (ac (aJ (ah aM (pv 5) ax (aj _)) (ad (ku hu (aG (pv 0) rfl) (aq aC (pv 4) aa (fun _ _=>rfl)) (ai b5 hr (by decide) rfl (af (aq aC (pv 4) aa (fun _ _=>rfl)) (af (aG (pv 0) rfl) (af (pv 3) aH)))) rfl)) (ad (aJ (ah aM (pv 5) ax (aj _)) (ad (bE (dW PySem.F.plainAttrs_list PySem.F.slot_list_append PySem.F.type_list_append bu (pv 2) (af (ai b5 hr (by decide) rfl (af (aq aC (pv 4) aa (fun _ _=>rfl)) (af (aG (pv 0) rfl) (af (pv 3) aH)))) aH)))) (ad (aJ (ah jP (ai b5 hr (by decide) rfl (af (aq aC (pv 4) aa (fun _ _=>rfl)) (af (aG (pv 0) rfl) (af (pv 3) aH)))) aa (aj _)) (ad (av (aq aC (pv 4) aa (fun _ _=>rfl)))) az)))))
  (ad (av (ag aW (pv 1) aa)))))))),?_⟩
 obtain⟨i,rfl⟩:=Int.eq_ofNat_of_zero_le pl0;have hi:i<rows.length:=by omega
 have hi':i<rv.length:=by rw[RW.1];exact hi
 have er:rows[i]?=some rows[i]:=zQ0 hi;have ev:rv[i]?=some rv[i]:=zQ0 hi';have RA:=RW.2 i _ _ ev er;have rqi:=rq _ (qT0 hi);have hst:fE z rows ⟨(i:Int),bx,said⟩=uT z rows.length ⟨(i:Int),bx,said⟩ rows[i]:=by
  unfold fE;rw[show((⟨(i:Int),bx,said⟩:MS).pl.toNat)=i from qO0 i,er]
 rw[hst]at q;generalize rows[i]=row at RA rqi q er hst;have at_:atI rv (i:Int)=some rv[i]:=cg ev;generalize rv[i]=v at RA at_ ev;refine⟨_,rfl,M,CM,dm,_,_,rfl,hM,TM.cl,TM.nH,Dl,_,rfl,h,_,_,v,rfl,rfl,zB0 hh,at_,?_⟩;have K0:But3 b sd k H H:=fun _ _ _ _ _ e=>e
 have nBS:sd≠b:=by
  obtain⟨kvs,e,_⟩:=BX;exact bh hsd e (by intro z;cases z)
 obtain⟨kvs,hb,kl,hx⟩:=id BX;obtain⟨dk,_,_,_,_,_,_,hk,_⟩:=id AK;have kT:∀{H':Hp},SameBut k H H'->bv H H':=fun s c xs e=>s _ _ (bh e hk (by intro z;cases z)) e
 have nbk:b≠k:=bh hb hk (by intro z;cases z);have nsk:sd≠k:=bh hsd hk (by intro z;cases z);cases RA with
 | @fin a e=>
   refine⟨_,rfl,a,_,0,_,rfl,rfl,zB0 e,rfl,?_⟩;refine⟨_,rfl,rfl,_,rfl,aU rfl ?_⟩;refine⟨_,rfl,M,CM,dm,_,_,rfl,hM,TM.cl,TM.nH,Dl,h,_,rfl,.inr (zB0 hh),?_⟩;rw[RW.1];exact q H hsd (BX.le (qK0 _)) AK K0
 | @go a n e=>
   refine⟨_,rfl,a,_,0,_,rfl,rfl,zB0 e,rfl,?_⟩;refine⟨_,rfl,rfl,_,rfl,au (neS (by decide +kernel)) ?_⟩;refine⟨_,rfl,rfl,_,rfl,aU rfl ?_⟩;exact⟨_,rfl,a,_,1,_,rfl,rfl,zB0 e,rfl,q H hsd (BX.le (qK0 _)) AK K0⟩
 | @iff a u t n e T=>
   refine⟨_,rfl,a,_,0,_,rfl,rfl,zB0 e,rfl,?_⟩;refine⟨_,rfl,rfl,_,rfl,au (neS (by decide +kernel)) ?_⟩;refine⟨_,rfl,rfl,_,rfl,au (neS (by decide +kernel)) ?_⟩;refine⟨_,rfl,rfl,_,rfl,au (neS (by decide +kernel)) ?_⟩;refine⟨_,rfl,rfl,_,rfl,au (neS (by decide +kernel)) ?_⟩;refine⟨_,rfl,a,_,1,_,rfl,rfl,zB0 e,rfl,_,rfl,M,CM,dm,_,_,rfl,hM,TM.cl,TM.nB,Bb,_,rfl,u,t,b,k,g,sd,z,_,bx,m,rfl,T,rqi.1,rqi.2.1,BX,bo,AK,ok,hsd,fun H1 A1 S1=>?_⟩;refine⟨rfl,_,rfl,?_⟩;have q':∀H',H' sd=some (.lst (said.map V.int))->BxAt H' b bx (m+1)->AkAt CA CG H' k g sd z->But3 b sd k H H'->Q (.int (if t.worth z bx=0 then(i:Int)+1 else n)) H':=q
   have q1:=q' H1 (S1 _ _ nsk hsd) ((BX.keep fun o e=>S1 _ _ nbk e).le (qK0 _)) A1 (fun c o _ _ h3 e=>S1 _ _ h3 e)
   by_cases c:t.worth z bx=0
   . rw[zF0 c]at q1;refine BZ (congrArg V.int c) ?_;exact⟨_,rfl,_,_,rfl,rfl,q1⟩
   . rw[zD0 c]at q1;refine Bf (fun z=>c (V.int.inj z)) ?_;exact⟨_,rfl,a,_,2,_,rfl,rfl,zB0 (kT S1 _ _ e),rfl,q1⟩
 | @set a x u t e T=>
   refine⟨_,rfl,a,_,0,_,rfl,rfl,zB0 e,rfl,?_⟩;refine⟨_,rfl,rfl,_,rfl,au (neS (by decide +kernel)) ?_⟩;refine⟨_,rfl,rfl,_,rfl,au (neS (by decide +kernel)) ?_⟩;refine⟨_,rfl,rfl,_,rfl,aU rfl ?_⟩;refine⟨_,rfl,a,_,2,_,rfl,rfl,zB0 e,rfl,_,rfl,M,CM,dm,_,_,rfl,hM,TM.cl,TM.nB,Bb,_,rfl,u,t,b,k,g,sd,z,_,bx,m,rfl,T,rqi.1,rqi.2,BX,bo,AK,ok,hsd,fun H1 A1 S1=>?_⟩;have hb1:=S1 _ _ nbk hb;have hs1:=S1 _ _ nsk hsd;refine⟨_,rfl,M,CM,dm,_,_,rfl,S1 _ _ nMk hM,TM.cl,TM.nB,Bb,_,rfl,a,_,1,_,rfl,rfl,zB0 (kT S1 _ _ e),rfl,b,_,rfl,DPut.k (k:=.inr x) hb1 ?_,?_⟩
   . exact Nat.lt_of_le_of_lt kl (Nat.lt_of_le_of_lt m1 (by decide))
   refine⟨_,rfl,_,_,rfl,rfl,?_⟩;refine q _ ?_ ⟨_,aD,zZ0 (dX _ _ _) (Nat.succ_le_succ kl),zX x _ hx⟩ (A1.but2 hb1 hs1 fun c o h1 _ e=>by rw[ao h1];exact e) (fun c o h1 _ h3 e=>by rw[ao h1];exact S1 _ _ h3 e);rw[ao nBS];exact hs1
 | @say a u t e T=>
   refine⟨_,rfl,a,_,0,_,rfl,rfl,zB0 e,rfl,?_⟩;refine⟨_,rfl,rfl,_,rfl,au (neS (by decide +kernel)) ?_⟩;refine⟨_,rfl,rfl,_,rfl,au (neS (by decide +kernel)) ?_⟩;refine⟨_,rfl,rfl,_,rfl,au (neS (by decide +kernel)) ?_⟩;refine⟨_,rfl,rfl,_,rfl,aU rfl ?_⟩;refine⟨_,rfl,.inl ⟨rfl,_,zE0 hsd⟩,?_⟩;refine⟨_,rfl,a,_,1,_,rfl,rfl,zB0 e,rfl,_,rfl,M,CM,dm,_,_,rfl,hM,TM.cl,TM.nB,Bb,_,rfl,u,t,b,k,g,sd,z,_,bx,m,rfl,T,rqi.1,rqi.2,BX,bo,AK,ok,hsd,fun H1 A1 S1=>?_⟩;have hb1:=S1 _ _ nbk hb;have hs1:=S1 _ _ nsk hsd;refine⟨sd,_,_,rfl,rfl,hs1,?_,?_⟩
   . rw[zH0];exact aS (by omega)
   refine⟨_,rfl,_,_,rfl,rfl,?_⟩;refine q _ ?_ ((BX.keep fun o e=>by rw[ao nBS.symm];exact S1 _ _ nbk e).le (qK0 _)) (A1.but2 hb1 hs1 fun c o _ h2 e=>by rw[ao h2];exact e) (fun c o _ h2 h3 e=>by rw[ao h2];exact S1 _ _ h3 e);rw[aD];show _=some (HO.lst ((said++[t.worth z bx]).map V.int));rw[zK0];rfl
end
section
variable {CM CA CG:Addr}
def m1 (g:Addr):List (Str×V):=[("game",.ref g)]
def m2 (g h:Addr):List (Str×V):=[("game",.ref g),("helper",.ref h)]
def m3 (g h:Addr):List (Str×V):=[("game",.ref g),("helper",.ref h),("next_round",.int 0)]
theorem pm1 {g:Addr}:cn "game" (.ref g) []=m1 g:=by with_unfolding_all rfl
theorem pm2 {g h:Addr}:cn "helper" (.ref h) (m1 g)=m2 g h:=by with_unfolding_all rfl
theorem pm3 {g h:Addr}:cn "next_round" (.int 0) (m2 g h)=m3 g h:=by with_unfolding_all rfl
theorem pm4 {g h b:Addr}:cn "boxes" (.ref b) (m3 g h)=ml g h 0 b:=by with_unfolding_all rfl
def uY(CM:Addr):Sp:=fun vs H Q _=>∃(M g h dm:Addr),vs=[.ref M,.ref g,.ref h]/\H M=some (.ins CM dm [])/\∀(b:Addr)(H':Hp),H b=none->H' M=some (.ins CM dm (ml g h 0 b))->H' b=some (.dK [])->SameBut M H H'->Q .non H'
theorem yx:FnScope ["self","game","helper"] ["self","game","helper"] (ae jy):=⟨rfl,rfl,rfl,by decide +kernel,rfl,by decide +kernel,by decide +kernel⟩
theorem yX {f:Addr} {fd:FuncData} (F:Fun K "__init__" "Machine.__init__" jy f fd) (T:MTxt K mg CM):FnOk P w K mg base CX0 1 f fd ["self","game","helper"] (uY CM):=by
 refine F.ok yx (fun vs H Q E h=>?_) (fun cdv A outer s H vs Q E hr h=>?_)
 . obtain⟨M,g,h,dm,rfl,_⟩:=h;rfl
 obtain ⟨M,g,h,dm,rfl,hM,q⟩:=h;refine⟨_,(ac (bO (pv 0) (pv 1) rfl)
  (ac (bO (pv 0) (pv 2) rfl)
  (ac (bO (pv 0) aa rfl)
  (ad (bO (pv 0) jn rfl))))),?_⟩
 refine⟨_,rfl,_,rfl,M,CM,dm,_,rfl,hM,T.cl,T.nG,(by show 0<1000;decide),?_⟩;rw[pm1];refine⟨_,rfl,_,rfl,M,CM,dm,_,rfl,aD,T.cl,T.nH,(by show 1<1000;decide),?_⟩;rw[pm2];refine⟨_,rfl,M,CM,dm,_,rfl,aD,T.cl,T.nR,(by show 2<1000;decide),?_⟩;rw[pm3];have S3:SameBut M H (upd (upd (upd H M (.ins CM dm (m1 g))) M (.ins CM dm (m2 g h))) M (.ins CM dm (m3 g h))):=(SameBut.upd _).trans ((SameBut.upd _).trans (SameBut.upd _));have g3:upd (upd (upd H M (.ins CM dm (m1 g))) M (.ins CM dm (m2 g h))) M (.ins CM dm (m3 g h)) M=some (.ins CM dm (m3 g h)):=aD;generalize upd (upd (upd H M (.ins CM dm (m1 g))) M (.ins CM dm (m2 g h))) M (.ins CM dm (m3 g h))=H3 at S3 g3;intro b hb;have bM:b≠M:=(aO g3 hb).symm;refine⟨_,rfl,M,CM,dm,_,rfl,by rw[ao bM.symm];exact g3,T.cl,T.nB,(by show 3<1000;decide),?_⟩;rw[pm4];refine q b _ ?_ aD (by rw[ao bM];exact aD) (S3.trans ((zJ0 (zC0 hb _)).trans (SameBut.upd _)));cases e:H b with
 | none=>rfl
 | some o=>rw[S3 b o bM e]at hb;cases hb
def a1 (g:Addr):List (Str×V):=[("game",.ref g)]
def a2 (g:Addr) (nr:Int):List (Str×V):=[("game",.ref g),("number",.int nr)]
def a3 (g:Addr) (nr mn:Int):List (Str×V):=[("game",.ref g),("number",.int nr),("many",.int mn)]
def a4 (g:Addr) (nr mn hd:Int):List (Str×V):=[("game",.ref g),("number",.int nr),("many",.int mn),("held",.int hd)]
def a5 (g:Addr) (nr mn hd s:Int):List (Str×V):=[("game",.ref g),("number",.int nr),("many",.int mn),("held",.int hd),("s",.int s)]
def a6 (g:Addr) (nr mn hd s:Int) (aT:Addr):List (Str×V):=[("game",.ref g),("number",.int nr),("many",.int mn),("held",.int hd),("s",.int s),("tossed",.ref aT)]
section
variable {g aT:Addr} {nr mn hd s:Int}
theorem pa1:cn "game" (.ref g) []=a1 g:=by with_unfolding_all rfl
theorem pa2:cn "number" (.int nr) (a1 g)=a2 g nr:=by with_unfolding_all rfl
theorem pa3:cn "many" (.int mn) (a2 g nr)=a3 g nr mn:=by with_unfolding_all rfl
theorem pa4:cn "held" (.int hd) (a3 g nr mn)=a4 g nr mn hd:=by with_unfolding_all rfl
theorem pa5:cn "s" (.int s) (a4 g nr mn hd)=a5 g nr mn hd s:=by with_unfolding_all rfl
theorem pa6:cn "tossed" (.ref aT) (a5 g nr mn hd s)=a6 g nr mn hd s aT:=by with_unfolding_all rfl
theorem pa7:cn "truths" .non (a6 g nr mn hd s aT)=al g nr mn hd s aT .non:=by with_unfolding_all rfl
end
def vh(CA:Addr):Sp:=fun vs H Q _=>∃(k dk g c:Addr)(nr mn hd s:Int)(xs:List V),vs=[.ref k,.ref g,.int nr,.int mn,.int hd,.int s,.ref c]/\H k=some (.ins CA dk [])/\(H c=some (.lst xs)∨H c=some (.tup xs))/\
 ∀(aT:Addr)(H':Hp),H' k=some (.ins CA dk (al g nr mn hd s aT .non))->H' aT=some (.tup xs)->SameBut k H H'->Q .non H'
theorem yz:FnScope ["self","game","number","many","due","s","coins"] ["self","game","number","many","due","s","coins"] (ae jE):=⟨rfl,rfl,rfl,by decide +kernel,rfl,by decide +kernel,by decide +kernel⟩
theorem zk {f:Addr} {fd:FuncData} (F:Fun K "__init__" "Asking.__init__" jE f fd) (B:Bl mg) (T:ATxt K mg CA):FnOk P w K mg base CX0 1 f fd ["self","game","number","many","due","s","coins"] (vh CA):=by
 refine F.ok yz (fun vs H Q E h=>?_) (fun cdv A outer s H vs Q E hr h=>?_)
 . obtain⟨k,dk,g,c,nr,mn,hd,s,xs,rfl,_⟩:=h;rfl
 obtain ⟨k,dk,g,c,nr,mn,hd,s,xs,rfl,hk,hc,q⟩:=h;refine⟨_,(ac (bO (pv 0) (pv 1) rfl)
  (ac (bO (pv 0) (pv 2) rfl)
  (ac (bO (pv 0) (pv 3) rfl)
  (ac (bO (pv 0) (pv 4) rfl)
  (ac (bO (pv 0) (pv 5) rfl)
  (ac (bO (pv 0) (bF bw rfl B.tuple bH (af (pv 6) aH)) rfl)
  (ad (bO (pv 0) yM rfl)))))))),?_⟩
 refine⟨_,rfl,_,rfl,k,CA,dk,_,rfl,hk,T.cl,T.nG,(by show 0<1000;decide),?_⟩;rw[pa1];refine⟨_,rfl,_,rfl,k,CA,dk,_,rfl,aD,T.cl,T.nN,(by show 1<1000;decide),?_⟩;rw[pa2];refine⟨_,rfl,_,rfl,k,CA,dk,_,rfl,aD,T.cl,T.nM,(by show 2<1000;decide),?_⟩;rw[pa3];refine⟨_,rfl,_,rfl,k,CA,dk,_,rfl,aD,T.cl,T.nH,(by show 3<1000;decide),?_⟩;rw[pa4];refine⟨_,rfl,_,rfl,k,CA,dk,_,rfl,aD,T.cl,T.nS,(by show 4<1000;decide),?_⟩;rw[pa5];have S5:SameBut k H (upd (upd (upd (upd (upd H k (.ins CA dk (a1 g))) k (.ins CA dk (a2 g nr))) k (.ins CA dk (a3 g nr mn))) k (.ins CA dk (a4 g nr mn hd))) k (.ins CA dk (a5 g nr mn hd s))):=(SameBut.upd _).trans ((SameBut.upd _).trans ((SameBut.upd _).trans ((SameBut.upd _).trans (SameBut.upd _))));have g5:upd (upd (upd (upd (upd H k (.ins CA dk (a1 g))) k (.ins CA dk (a2 g nr))) k (.ins CA dk (a3 g nr mn))) k (.ins CA dk (a4 g nr mn hd))) k (.ins CA dk (a5 g nr mn hd s)) k=some (.ins CA dk (a5 g nr mn hd s)):=aD;generalize upd (upd (upd (upd (upd H k (.ins CA dk (a1 g))) k (.ins CA dk (a2 g nr))) k (.ins CA dk (a3 g nr mn))) k (.ins CA dk (a4 g nr mn hd))) k (.ins CA dk (a5 g nr mn hd s))=H5 at S5 g5;rcases hc with hc | hc
 . have hc5:=S5 _ _ (bh hc hk (by intro z;cases z)) hc;refine⟨_,rfl,c,_,rfl,.inl ⟨zE0 hc5,fun aT ha=>?_⟩⟩;have aK:aT≠k:=(aO g5 ha).symm;refine⟨_,rfl,k,CA,dk,_,rfl,by rw[ao aK.symm];exact g5,T.cl,T.nT,(by show 5<1000;decide),?_⟩;rw[pa6];refine⟨_,rfl,k,CA,dk,_,rfl,aD,T.cl,T.nR,(by show 6<1000;decide),?_⟩;rw[pa7];exact q aT _ aD (by rw[ao aK,ao aK];exact aD) (S5.trans ((zJ0 (zC0 ha _)).trans ((SameBut.upd _).trans (SameBut.upd _))))
 . have nc:=bh hc hk (by intro z;cases z);have hc5:=S5 _ _ nc hc;refine⟨_,rfl,c,_,rfl,.inr ⟨zB0 hc5,?_⟩⟩;refine⟨_,rfl,k,CA,dk,_,rfl,g5,T.cl,T.nT,(by show 5<1000;decide),?_⟩;rw[pa6];refine⟨_,rfl,k,CA,dk,_,rfl,aD,T.cl,T.nR,(by show 6<1000;decide),?_⟩;rw[pa7];exact q c _ aD (by rw[ao nc,ao nc];exact hc5) (S5.trans ((SameBut.upd _).trans (SameBut.upd _)))
def xX(CM CG:Addr):Sp:=fun vs H Q _=>∃(M g h b dm c:Addr)(rv:List V)(z:Ak)(rows:List Hr)(bx:Str->Int)(m:Nat),
 vs=[.ref M,.int z.mn,.int z.hd,.int z.s,.ref c]/\H M=some (.ins CM dm (ml g h z.nr b))/\H h=some (.tup rv)/\RowsAt H rv rows/\(∀r∈rows,r.good)/\BxAt H b bx m/\dA z.p bx/\m<=5000/\Gm CG H g z.ns z.ts z.p/\AkOk z/\(H c=some (.lst (z.to.map V.int))∨H c=some (.tup (z.to.map V.int)))/\0<=z.mn/\z.mn<=500/\
 ∀(l:Addr)(H':Hp),H l=none->H' l=some (.lst ((oF z.mn (hC z rows 200 ⟨0,bx,[]⟩).sd).map V.int))->BxAt H' b (hC z rows 200 ⟨0,bx,[]⟩).bx (m+200)->H' M=some (.ins CM dm (ml g h (z.nr+1) b))->But2 M b H H'->Q (.ref l) H'
theorem gE:FnScope ["self","many","due","s","coins","asking","said","place","done"] ["self","many","due","s","coins"] (ae kY):=⟨rfl,rfl,rfl,by decide +kernel,rfl,by decide +kernel,by decide +kernel⟩
theorem rC(k:Nat)(x:V):(List.replicate k [x]).flatten=List.replicate k x:=by
 induction k with
 | zero=>rfl
 | succ k ih=>rw[List.replicate_succ,List.flatten_cons,ih,List.replicate_succ];rfl
def tSayE:TS:=fun Dn σ H=>∃(x0 x2 x3 x4 x5 x7 x8:Option V)(sd:Addr)(mn:Int)(xs:List Int),σ=[x0,some (.int mn),x2,x3,x4,x5,some (.ref sd),x7,x8]/\H sd=some (.lst (xs.map V.int))/\xs.length<=200/\0<=mn/\mn<=500/\
 ∀(l:Addr)(H':Hp),H l=none->Same H H'->H' l=some (.lst ((oF mn xs).map V.int))->Dn.rt (.ref l) H'
theorem AS {f fA fR:Addr} {fd fdA fdR:FuncData} (F:Fun K "say" "Machine.say" kY f fd) (B:Bl mg) (TM:MTxt K mg CM) (TA:ATxt K mg CA) (hmost:∃t,mg "MOST_ROWS_DONE"=some (.int 200 t))
 (MA:Mk K CA fA) (GA:FnOk P w K mg base CX0 1 fA fdA ["self","game","number","many","due","s","coins"] (vh CA)) (bA:Binds K fdA ["self","game","number","many","due","s","coins"] [])
 (mR:Meth K CM "do_row" fR) (GR:FnOk P w K mg base CX0 27 fR fdR ["self","place","said","asking"] (xY CM CA CG)) (bR:Binds K fdR ["self","place","said","asking"] []):FnOk P w K mg base CX0 28 f fd ["self","many","due","s","coins"] (xX CM CG):=by
 refine F.ok gE (fun vs H Q E h=>?_) (fun cdv A outer s H vs Q E hr h=>?_)
 . obtain⟨M,g,h,b,dm,c,rv,z,rows,bx,m,rfl,_⟩:=h;rfl
 obtain ⟨M,g,h,b,dm,c,rv,z,rows,bx,m,rfl,hM,hh,RW,rq,BX,bo,mm,GG,ok,hc,mn0,mn1,q⟩:=h;obtain⟨a',b',d',tv,G,hga,hgb,TS,hgd⟩:=GG;obtain⟨te,ge⟩:=hmost;have hr2:Room (1+1) _:=hr.mono (by decide);have hr7:Room 27 _:=hr.mono (by decide);refine⟨_,(ac (am (i:=5) gE.nd rfl (Or.inl rfl) (kC MA GA hr2 rfl TA.mgC bA .nil ee (af (aG (pv 0) rfl) (af (aG (pv 0) rfl) (af (pv 1) (af (pv 2) (af (pv 3) (af (pv 4) aH))))))))
  (ac (bO (pv 0) (ag aW (aG (pv 0) rfl) aa) rfl)
  (ac (am (i:=6) gE.nd rfl (Or.inl rfl) (bL aH))
  (ac (am (i:=7) gE.nd rfl (Or.inl rfl) aa)
  (ac (am (i:=8) gE.nd rfl (Or.inl rfl) aa)
  (ac (ir PassesOwn.never (PW.pt (lh (ah df (pv 7) (aE aB rfl B.len PySem.boot_len (af (aG (pv 0) rfl) aH)) (aj _)) (lh (ah df (aE aB rfl B.len PySem.boot_len (af (pv 6) aH)) (pv 1) (aj _)) (kq (ah df (pv 8) (vx (v:=.int 200) rfl ge ⟨_,rfl⟩) (aj _)))))) (ac (am (i:=7) gE.nd rfl (Or.inl rfl) (dG (pv 0) TM.cl mR GR hr7 bR .nil ee (af (pv 7) (af (pv 6) (af (pv 5) aH)))))
   (ad (am (i:=8) gE.nd rfl (Or.inl rfl) (ag aW (pv 8) aa)))))
  (kt (t':=tSayE) (ad (av (ag fX (pv 6) (ag yR (bL (af aa aH)) (ag aV (pv 1) (aE aB rfl B.len PySem.boot_len (af (pv 6) aH))))))) (by
   rintro Dn σ H ⟨x0,x2,x3,x4,x5,x7,x8,sd,mn,xs,rfl,hsd,xl,mn0,mn1,q⟩;refine⟨_,rfl,(by show 1<=sizeLine;decide),fun z hz=>?_⟩;have I1:=zC0 hz (.lst [.int 0]);have g1:upd H z (.lst [.int 0]) z=some (.lst [.int 0]):=aD;generalize upd H z (.lst [.int 0])=H1 at I1 g1;refine⟨_,rfl,_,rfl,sd,_,rfl,.inl (zE0 (I1 _ _ hsd)),_,_,rfl,rfl,?_⟩;have el:((xs.map V.int).length:Int)=(xs.length:Int):=by rw[zH0]
   refine⟨z,_,_,rfl,rfl,g1,by omega,by omega,cp (by show 1*(mn-((xs.map V.int).length:Int)).toNat<=1000;omega),fun y hy=>?_⟩;rw[rC];have I2:=zC0 hy (.lst (List.replicate (mn-((xs.map V.int).length:Int)).toNat (.int 0)));have g2:upd H1 y (.lst (List.replicate (mn-((xs.map V.int).length:Int)).toNat (.int 0))) y=some (.lst (List.replicate (mn-((xs.map V.int).length:Int)).toNat (.int 0))):=aD;generalize upd H1 y (.lst (List.replicate (mn-((xs.map V.int).length:Int)).toNat (.int 0)))=H2 at I2 g2;refine⟨sd,y,_,_,rfl,rfl,I2 _ _ (I1 _ _ hsd),g2,?_,fun l hl=>?_⟩
   . rw[List.length_replicate,zH0];exact cp (by omega)
   refine q l _ ?_ (I1.trans (I2.trans (zC0 hl _))) ?_
   . cases e:H l with
     | none=>rfl
     | some o=>rw[I2 _ _ (I1 _ _ e)]at hl;cases hl
   . rw[aD,el];unfold oF;rw[zK0,List.map_replicate])))))))),?_⟩
 refine ⟨_,rfl,M,CM,dm,_,_,rfl,hM,TM.cl,TM.nG,ml_g,_,rfl,M,CM,dm,_,_,rfl,hM,TM.cl,TM.nR,ml_r,_,rfl,_,rfl,_,rfl,_,rfl,fun k dk hk hdk nk=>?_⟩;have S1:Same H (upd (upd H dk (.own k)) k (.ins CA dk [])):=fun a o e=>by
  rw[ao (aO e hk),ao (aO e hdk)];exact e
 have g1:upd (upd H dk (.own k)) k (.ins CA dk []) k=some (.ins CA dk []):=aD;generalize upd (upd H dk (.own k)) k (.ins CA dk [])=H1 at S1 g1;refine⟨k,dk,g,c,z.nr,z.mn,z.hd,z.s,z.to.map V.int,rfl,g1,hc.imp (S1 _ _) (S1 _ _),fun aT H2 hk2 hT2 S2=>⟨rfl,?_⟩⟩;have S02:Same H H2:=Same.but S1 hk S2;clear S1 S2 g1;have hM2:=S02 _ _ hM;refine⟨_,rfl,M,CM,dm,_,_,rfl,hM2,TM.cl,TM.nR,ml_r,_,_,rfl,rfl,_,rfl,M,CM,dm,_,rfl,hM2,TM.cl,TM.nR,Dk,?_⟩;rw[Dj];have nMk:M≠k:=aO hM hk;have S3:SameBut M H2 (upd H2 M (.ins CM dm (ml g h (z.nr+1) b))):=SameBut.upd _;have hM3:upd H2 M (.ins CM dm (ml g h (z.nr+1) b)) M=some (.ins CM dm (ml g h (z.nr+1) b)):=aD;generalize upd H2 M (.ins CM dm (ml g h (z.nr+1) b))=H3 at S3 hM3;refine⟨(by show 0<=sizeLine;decide),fun sd hsd=>?_⟩;have I4:=zC0 hsd (.lst []);have g4:upd H3 sd (.lst []) sd=some (.lst []):=aD;generalize upd H3 sd (.lst [])=H4 at I4 g4;have gM:g≠M:=fun e=>by
  obtain⟨dg,hg⟩:=G;rw[e,hM]at hg;cases hg
 have nbM:b≠M:=by
  obtain⟨kvs,e,_⟩:=BX;exact bh e hM (by intro z;cases z)
 have S04:SameBut M H H4:=(zJ0 S02).trans (S3.trans (zJ0 I4));have hM4:=I4 _ _ hM3;have kT:bv H H4:=fun c xs h=>S04 c _ (bh h hM (by intro z;cases z)) h
 have hh4:=kT _ _ hh;have RW4:=RW.mono kT;have BX4:BxAt H4 b bx m:=BX.keep fun o e=>S04 b o nbM e
 have G4:GameAt CG H4 g a' b' d' z.p:=by
  obtain⟨dg,hg⟩:=G;exact⟨dg,S04 _ _ gM hg⟩
 have hT4:H4 aT=some (.tup (z.to.map V.int)):=I4 _ _ (S3 _ _ (bh hT2 hM2 (by intro z;cases z)) hT2);have hgd4:=S04 _ _ (bh hgd hM (by intro z;cases z)) hgd;have nds:d'≠sd:=aO (S3 _ _ (bh hgd hM (by intro z;cases z)) (S02 _ _ hgd)) hsd;have hk4:=I4 _ _ (S3 _ _ nMk.symm hk2);have b4:∃kvs,H4 b=some (.dK kvs):=by
  obtain⟨kvs,e,_⟩:=BX4;exact⟨kvs,e⟩
 obtain⟨kv4,hb4⟩:=b4;have nbs:b≠sd:=bh hb4 g4 (by intro z;cases z);have nhb:h≠b:=bh hh4 hb4 (by intro z;cases z);have nhs:h≠sd:=bh hh4 g4 (by intro z;cases z);have nMs:M≠sd:=bh hM4 g4 (by intro z;cases z);have nkb:k≠b:=bh hk4 hb4 (by intro z;cases z);have nks:k≠sd:=bh hk4 g4 (by intro z;cases z);have AK4:AkAt CA CG H4 k g sd z:=⟨dk,aT,a',b',d',tv,.non,hk4,G4,kT _ _ hga,kT _ _ hgb,TS.mono kT,hgd4,nds,hT4,.inl rfl⟩
 have sd0:H sd=none:=by
  cases e:H sd with
  | none=>rfl
  | some o=>rw[S3 _ _ nMs.symm (S02 _ _ e)]at hsd;cases hsd
 refine ⟨fun mm σ H'=>∃(st:MS)(d:Nat),σ=[some (.ref M),some (.int z.mn),some (.int z.hd),some (.int z.s),some (.ref c),some (.ref k),some (.ref sd),some (.int st.pl),some (.int (d:Int))]/\d<=200/\mm=200-d/\0<=st.pl/\st.sd.length<=d/\hC z rows (200-d) st=hC z rows 200 ⟨0,bx,[]⟩/\H' sd=some (.lst (st.sd.map V.int))/\BxAt H' b st.bx (m+d)/\dA z.p st.bx/\ft st.sd z.p/\AkAt CA CG H' k g sd z/\But3 b sd k H4 H',
  ⟨_,⟨0,bx,[]⟩,0,rfl,qB0 _,rfl,Int.le_refl 0,zG0 _,rfl,g4,BX4,bo,(fun x hx=>by cases hx),AK4,fun _ _ _ _ _ e=>e⟩,?_⟩
 rintro mm σ H' ⟨st,d,rfl,d2,rfl,st0,sl,hrun,hsd',BX',bo',so',AK',S'⟩;have hM':=S' _ _ nbM.symm nMs nMk hM4;have hh':=S' _ _ nhb nhs (bh hh4 hk4 (by intro z;cases z)) hh4;have kT':bv H4 H':=fun c xs h=>S' c _ (bh h hb4 (by intro z;cases z)) (bh h g4 (by intro z;cases z)) (bh h hk4 (by intro z;cases z)) h
 have RW':=RW4.mono kT';have fin:hC z rows (200-d) st=st->∀(l:Addr)(H5:Hp),H' l=none->Same H' H5->H5 l=some (.lst ((oF z.mn st.sd).map V.int))->Q (.ref l) H5:=fun er l H5 l0 S5 hl=>by
  rw[er]at hrun;rw[←hrun]at q;refine q l H5 ?_ hl ((BX'.keep fun o e=>S5 b o e).le (by omega)) (S5 _ _ hM') (fun a o h1 h2 e=>?_)
  . cases e:H l with
    | none=>rfl
    | some o=>
      have lM:l≠M:=fun z=>by rw[z,hM']at l0;cases l0
      have lb:l≠b:=fun z=>by
       obtain⟨kvs,e',_⟩:=BX';rw[z,e']at l0;cases l0
      have ls:l≠sd:=fun z=>by rw[z,hsd']at l0;cases l0
      rw[S' _ _ lb ls (aO e hk) (S04 _ _ lM e)]at l0;cases l0
  . exact S5 _ _ (S' _ _ h2 (aO e sd0) (aO e hk) (S04 _ _ h1 e))
 refine⟨_,rfl,_,rfl,M,CM,dm,_,_,rfl,hM',TM.cl,TM.nH,Dl,h,_,rfl,.inr (zB0 hh'),_,_,rfl,rfl,_,rfl,?_⟩;rw[RW.1]
 by_cases c1:st.pl<(rows.length:Int)
 . refine aU c1 ?_;refine⟨_,rfl,sd,_,rfl,.inl (zE0 hsd'),_,rfl,_,_,rfl,rfl,_,rfl,?_⟩;rw[zH0]
   by_cases c2:(st.sd.length:Int)<z.mn
   . refine aU c2 ?_;refine⟨_,rfl,_,_,rfl,rfl,_,rfl,?_⟩
     by_cases c3:d<200
     . refine aU (by omega) ?_;refine⟨_,fun _ _ h=>h,?_⟩;refine⟨_,rfl,M,dm,_,rfl,hM',ml_n1,_,rfl,_,rfl,_,rfl,M,g,h,b,dm,k,sd,rv,_,st.pl,z,rows,st.bx,m+d,st.sd,rfl,hM',nMk,hh',RW',rq,st0,c1,BX',bo',by omega,hsd',by omega,AK',ok,fun H6 hs6 BX6 A6 S6=>?_⟩;refine⟨_,rfl,_,_,rfl,rfl,?_⟩;refine⟨_,(show 200-(d+1)<200-d by omega),fE z rows st,d+1,rfl,c3,rfl,xT rq st0,zZ0 qU (Nat.succ_le_succ sl),?_,hs6,BX6,(mF ok bo' so').1,(mF ok bo' so').2,A6,S'.trans S6⟩;rw[←hrun,show 200-d=(200-(d+1))+1 by omega];exact(zF0 ⟨c1,c2⟩).symm
     . refine au (by omega) ?_;have ed:200-d=0:=by omega
       exact⟨_,_,_,_,_,_,_,sd,z.mn,st.sd,rfl,hsd',by omega,mn0,mn1,fin (by rw[ed];rfl)⟩
   . refine au c2 (dD ?_);refine⟨_,_,_,_,_,_,_,sd,z.mn,st.sd,rfl,hsd',by omega,mn0,mn1,fin ?_⟩;cases 200-d with
     | zero=>rfl
     | succ n=>exact zD0 (fun z=>c2 z.2)
 . refine au c1 (dD ?_);refine⟨_,_,_,_,_,_,_,sd,z.mn,st.sd,rfl,hsd',by omega,mn0,mn1,fin ?_⟩;cases 200-d with
   | zero=>rfl
   | succ n=>exact zD0 (fun z=>c1 z.1)
end
section
variable {CM CA CG:Addr}
def HlpAt(H:Hp)(h:Addr)(rows:List Hr):Prop:=(∃rv,H h=some (.tup rv)/\RowsAt H rv rows)/\∀r∈rows,r.good
theorem HlpAt.mono{H H':Hp}{h:Addr}{rows:List Hr}(x:HlpAt H h rows)(k:bv H H'):HlpAt H' h rows:=by
 obtain⟨⟨rv,e,R⟩,g⟩:=x;exact⟨⟨rv,k _ _ e,R.mono k⟩,g⟩
def StayO:HO->Prop
 | .dK _=>False
 | .ins _ _ fs=>fs.lookup ("game":Str)=none
 | _=>True
def Kp(H H':Hp):Prop:=∀a o,StayO o->H a=some o->H' a=some o
theorem Kp.of{H H':Hp}(s:Same H H'):Kp H H':=fun a o _ e=>s a o e
theorem Kp.T{H H':Hp}(x:Kp H H'):bv H H':=fun a xs e=>x a _ trivial e
theorem Gm.kp{H H':Hp}{g:Addr}{ns:List Str}{ts:List Tr}{p:Int}(h:Gm CG H g ns ts p)(x:Kp H H'):Gm CG H' g ns ts p:=by
 obtain⟨a,b,d,tv,⟨dx,h1⟩,h2,h3,h4,h5⟩:=h;exact⟨a,b,d,tv,⟨dx,x _ _ (Bi ..) h1⟩,x.T _ _ h2,x.T _ _ h3,h4.mono x.T,x _ _ trivial h5⟩
end
abbrev jw:Stmt:=cX tP 0
abbrev jx:Stmt:=cX tP 1
abbrev oY:Stmt:=cX tP 2
section
variable {CM CA CG CS:Addr}
structure STxt(K:W.Frag)(mg:Str->Option Value)(C:Addr):Prop where
 cl:Cls K C
 nF:NoAttr K C "field"
 nM:NoAttr K C "machine"
 nH:NoAttr K C "held"
 nS:NoAttr K C "said"
 mgC:mg "Side"=some (.ref C)
def s1 (p:Int):List (Str×V):=[("field",.int p)]
def s2 (p:Int) (M:Addr):List (Str×V):=[("field",.int p),("machine",.ref M)]
def s3 (p:Int) (M:Addr) (v:Int):List (Str×V):=[("field",.int p),("machine",.ref M),("held",.int v)]
def sl (p:Int) (M:Addr) (v:Int) (l:Addr):List (Str×V):=[("field",.int p),("machine",.ref M),("held",.int v),("said",.ref l)]
section
variable {p v v':Int} {M l l':Addr}
theorem ps1:cn "field" (.int p) []=s1 p:=by with_unfolding_all rfl
theorem ps2:cn "machine" (.ref M) (s1 p)=s2 p M:=by with_unfolding_all rfl
theorem ps3:cn "held" (.int v) (s2 p M)=s3 p M v:=by with_unfolding_all rfl
theorem ps4:cn "said" (.ref l) (s3 p M v)=sl p M v l:=by with_unfolding_all rfl
theorem psh:cn "held" (.int v') (sl p M v l)=sl p M v' l:=by with_unfolding_all rfl
theorem pss':cn "said" (.ref l') (sl p M v l)=sl p M v l':=by with_unfolding_all rfl
theorem s2_m:(s2 p M).lookup ("machine":Str)=some (.ref M):=by with_unfolding_all rfl
theorem sl_f:(sl p M v l).lookup ("field":Str)=some (.int p):=by with_unfolding_all rfl
theorem sl_m:(sl p M v l).lookup ("machine":Str)=some (.ref M):=by with_unfolding_all rfl
theorem pY:(sl p M v l).lookup ("held":Str)=some (.int v):=by with_unfolding_all rfl
theorem yp:(sl p M v l).lookup ("said":Str)=some (.ref l):=by with_unfolding_all rfl
theorem BM:(sl p M v l).lookup ("adds_up":Str)=none:=by with_unfolding_all rfl
theorem BK:(sl p M v l).lookup ("go_way":Str)=none:=by with_unfolding_all rfl
end
noncomputable def bU(z:Ak)(rows:List Hr)(bx:Str->Int):List Int:=oF z.mn (hC z rows 200 ⟨0,bx,[]⟩).sd
noncomputable def bxA(z:Ak)(rows:List Hr)(bx:Str->Int):Str->Int:=(hC z rows 200 ⟨0,bx,[]⟩).bx
theorem di{z:Ak}{rows:List Hr}{bx:Str->Int}(k:AkOk z)(bo:dA z.p bx)(h0:0<=z.mn):ft (bU z rows bx) z.p/\((bU z rows bx).length:Int)=z.mn/\dA z.p (bxA z rows bx):=by
 have h:=vn (rows:=rows) k 200 ⟨0,bx,[]⟩ bo (fun x hx=>by cases hx) (by show(0:Int)<=z.mn;exact h0);refine⟨fun x hx=>?_,?_,h.1⟩
 . unfold bU oF at hx;rcases zT0 hx with hx | hx
   . exact h.2.1 x hx
   . rw [(List.mem_replicate.mp hx).2]
     have:=k.gk.p2
     exact⟨Int.le_refl 0,by omega⟩
 . unfold bU oF;rw[zL0,List.length_replicate]
   have:=h.2.2
   omega
theorem SameBut.free{S a:Addr}{H H':Hp}(s:SameBut S H H')(h:H' a=none)(n:a≠S):H a=none:=by
 cases e:H a with
 | none=>rfl
 | some o=>rw[s _ _ n e]at h;cases h
theorem pz{S C d:Addr}{H H':Hp}{fs:List (Str×V)}(hS:H S=some (.ins C d fs))(s:SameBut S H H'):bv H H':=fun a xs e=>s _ _ (bh e hS (by intro z;cases z)) e
theorem Gm.sb{S C d:Addr}{H H':Hp}{fs:List (Str×V)}{g:Addr}{ns:List Str}{ts:List Tr}{p:Int}(x:Gm CG H g ns ts p)(n:g≠S)(hS:H S=some (.ins C d fs))(s:SameBut S H H'):Gm CG H' g ns ts p:=by
 obtain⟨a,b,d,tv,⟨dx,h1⟩,h2,h3,h4,h5⟩:=x;have kT:=pz hS s;exact⟨a,b,d,tv,⟨dx,s _ _ n h1⟩,kT _ _ h2,kT _ _ h3,h4.mono kT,s _ _ (bh h5 hS (by intro z;cases z)) h5⟩
def uW(CS CM CG:Addr):Sp:=fun vs H Q _=>∃(S ds g h:Addr)(ns:List Str)(ts:List Tr)(p:Int)(rows:List Hr),vs=[.ref S,.ref g,.ref h]/\H S=some (.ins CS ds [])/\Gm CG H g ns ts p/\GmK ns ts p/\ns.length<=6/\HlpAt H h rows/\
 ∀(M dm b l:Addr)(v:Int)(H':Hp),H M=none->H b=none->H l=none->H' S=some (.ins CS ds (sl p M v l))->H' M=some (.ins CM dm (ml g h 1 b))->BxAt H' b (bxA ⟨ns,ts,p,0,1,0,0,[]⟩ rows (fun _=>0)) 200->bU ⟨ns,ts,p,0,1,0,0,[]⟩ rows (fun _=>0)=[v]->H' l=some (.lst [])->SameBut S H H'->Q .non H'
theorem yv:FnScope ["self","game","helper"] ["self","game","helper"] (ae jw):=⟨rfl,rfl,rfl,by decide +kernel,rfl,by decide +kernel,by decide +kernel⟩
theorem yV {f fM fS:Addr} {fd fdM fdS:FuncData} (F:Fun K "__init__" "Side.__init__" jw f fd) (T:STxt K mg CS) (TM:MTxt K mg CM) (TG:GTxt K mg CG) (MM:Mk K CM fM) (GM:FnOk P w K mg base CX0 1 fM fdM ["self","game","helper"] (uY CM)) (bM:Binds K fdM ["self","game","helper"] []) (mS:Meth K CM "say" fS) (GS:FnOk P w K mg base CX0 28 fS fdS ["self","many","due","s","coins"] (xX CM CG)) (bS:Binds K fdS ["self","many","due","s","coins"] []):FnOk P w K mg base CX0 29 f fd ["self","game","helper"] (uW CS CM CG):=by
 refine F.ok yv (fun vs H Q E h=>?_) (fun cdv A outer s H vs Q E hr h=>?_)
 . obtain⟨S,ds,g,h,ns,ts,p,rows,rfl,_⟩:=h;rfl
 obtain ⟨S,ds,g,h,ns,ts,p,rows,rfl,hS,GG,k,n6,HL,q⟩:=h;have hr2:Room (1+1) _:=hr.mono (by decide);have hr28:Room 28 _:=hr.mono (by decide);refine⟨_,(ac (bO (pv 0) (aG (pv 1) rfl) rfl)
  (ac (bO (pv 0) (kC MM GM hr2 rfl TM.mgC bM .nil ee (af (pv 1) (af (pv 2) aH))) rfl)
  (ac (bO (pv 0) (aq ix_list (dG (aG (pv 0) rfl) TM.cl mS GS hr28 bS .nil ee (af aa (af aa (af aa (af (bL aH) aH))))) aa (fun _ _=>rfl)) rfl)
  (ad (bO (pv 0) (bL aH) rfl))))),?_⟩
 have p2:=k.p2;obtain⟨a',b',d',tv,⟨dx,h1⟩,_⟩:=id GG;have gS:g≠S:=fun z=>by
  rw[z,hS]at h1
  have:=congrArg (fun o=>match o with | some (HO.ins _ _ fs)=>fs.length | _=>0) h1
  cases this
 refine ⟨_,rfl,g,CG,dx,_,_,rfl,h1,TG.cl,TG.nF,jR ..,_,rfl,S,CS,ds,_,rfl,hS,T.cl,T.nF,(by show 0<1000;decide),?_⟩;rw[ps1];have B1:SameBut S H (upd H S (.ins CS ds (s1 p))):=SameBut.upd _;have e1:upd H S (.ins CS ds (s1 p)) S=some (.ins CS ds (s1 p)):=aD;show qR _ _ _ _ (upd H S (.ins CS ds (s1 p)));generalize upd H S (.ins CS ds (s1 p))=H1 at B1 e1;refine⟨_,rfl,_,rfl,fun M dm hM0 hdm0 nM=>?_⟩;have K2:Same H1 (upd (upd H1 dm (.own M)) M (.ins CM dm [])):=fun a o e=>by
  rw[ao (aO e hM0),ao (aO e hdm0)];exact e
 have g2:upd (upd H1 dm (.own M)) M (.ins CM dm []) M=some (.ins CM dm []):=aD;generalize upd (upd H1 dm (.own M)) M (.ins CM dm [])=H2 at K2 g2;refine⟨M,g,h,dm,rfl,g2,fun b H3 hb0 hM3 hb3 S3=>⟨rfl,?_⟩⟩;have T13:Same H1 H3:=Same.but K2 hM0 S3;have MS:M≠S:=(aO e1 hM0).symm;have bS':b≠S:=(aO (K2 _ _ e1) hb0).symm;refine⟨_,rfl,S,CS,ds,_,rfl,T13 _ _ e1,T.cl,T.nM,(by show 1<1000;decide),?_⟩;rw[ps2];have B4:SameBut S H (upd H3 S (.ins CS ds (s2 p M))):=fun a o n e=>by
  rw[ao n];exact T13 _ _ (B1 _ _ n e)
 have e4:upd H3 S (.ins CS ds (s2 p M)) S=some (.ins CS ds (s2 p M)):=aD;have hM4:upd H3 S (.ins CS ds (s2 p M)) M=some (.ins CM dm (ml g h 0 b)):=by rw[ao MS];exact hM3
 have hb4:upd H3 S (.ins CS ds (s2 p M)) b=some (.dK []):=by rw[ao bS'];exact hb3
 show qR _ _ _ _ (upd H3 S (.ins CS ds (s2 p M)));generalize upd H3 S (.ins CS ds (s2 p M))=H4 at B4 e4 hM4 hb4;refine⟨_,rfl,S,CS,ds,_,_,rfl,e4,T.cl,T.nM,s2_m,M,dm,_,rfl,hM4,BY,(by show 0<=sizeLine;decide),fun c hc=>?_⟩;have I5:=zC0 hc (.lst []);have g5:upd H4 c (.lst []) c=some (.lst (([]:List Int).map V.int)):=aD;generalize upd H4 c (.lst [])=H5 at I5 g5;obtain⟨⟨rv,hh,RW⟩,rg⟩:=(HL.mono (pz hS B4)).mono (aY I5);obtain⟨z,ez⟩:∃z:Ak,z=⟨ns,ts,p,0,1,0,0,[]⟩:=⟨_,rfl⟩
 have zok:AkOk z:=by
  subst ez;exact⟨k,n6,Int.le_refl 0,(fun h=>absurd h (by show ¬ (0:Int)<0;decide)),(fun x hx=>by cases hx),Int.le_refl 0,(by show(0:Int)<p;omega),Int.le_refl 0,(by show(0:Int)<p;omega),by show 0<=100;decide⟩
 have bo:dA z.p (fun _=>0):=by
  subst ez;exact fun x=>⟨Int.le_refl 0,by show(0:Int)<p;omega⟩
 have so:=di (rows:=rows) zok bo (by rw[ez];show(0:Int)<=1;decide);rw[←ez]at q;refine⟨M,g,h,b,dm,c,rv,z,rows,fun _=>0,0,(by rw[ez];rfl),(by rw[ez];exact I5 _ _ hM4),hh,RW,rg,⟨[],I5 _ _ hb4,zG0 _,fun x=>rfl⟩,bo,by decide,(by rw[ez];exact(GG.sb gS hS B4).kp (Kp.of I5)),zok,.inl (by rw[ez];exact g5),(by rw[ez];show(0:Int)<=1;decide),(by rw[ez];show(1:Int)<=500;decide),fun l1 H6 l10 hl1 BX6 hM6 S6=>?_⟩;have hl1':H6 l1=some (.lst ((bU z rows (fun _=>0)).map V.int)):=hl1;have BX6':BxAt H6 b (bxA z rows (fun _=>0)) 200:=BX6.le (by omega);have sl1:(bU z rows (fun _=>0)).length=1:=by
  have h1:=so.2.1;rw[show z.mn=1 by rw[ez]]at h1;omega
 obtain ⟨v,ev⟩:∃v,bU z rows (fun _=>0)=[v]:=by
  match bU z rows (fun _=>0),sl1 with
  | [v],_=>exact⟨v,rfl⟩
 rw[ev]at hl1';have hM6':H6 M=some (.ins CM dm (ml g h 1 b)):=by rw[ez]at hM6;exact hM6
 have e6:=S6 _ _ MS.symm bS'.symm (I5 _ _ e4);refine⟨l1,_,0,.int v,rfl,rfl,zE0 hl1',rfl,_,rfl,S,CS,ds,_,rfl,e6,T.cl,T.nH,(by show 2<1000;decide),?_⟩;rw[ps3];have B7:SameBut S H6 (upd H6 S (.ins CS ds (s3 p M v))):=SameBut.upd _;have e7:upd H6 S (.ins CS ds (s3 p M v)) S=some (.ins CS ds (s3 p M v)):=aD;generalize upd H6 S (.ins CS ds (s3 p M v))=H7 at B7 e7;refine⟨(by show 0<=sizeLine;decide),fun l hl=>?_⟩;have I8:=zC0 hl (.lst []);have g8:upd H7 l (.lst []) l=some (.lst []):=aD;have lS:l≠S:=(aO e7 hl).symm;have H0:∀{x:Addr},x≠S->H7 x=none->H x=none:=fun n e=>by
  cases eh:H _ with
  | none=>rfl
  | some o=>
    have e3:=T13 _ _ (B1 _ _ n eh);rw[B7 _ _ n (S6 _ _ (fun z=>by rw[z]at eh;rw[B1 _ _ MS eh]at hM0;cases hM0) (fun z=>by rw[z]at eh;rw[K2 _ _ (B1 _ _ bS' eh)]at hb0;cases hb0) (I5 _ _ (B4 _ _ n eh)))]at e;cases e
 generalize upd H7 l (.lst [])=H8 at I8 g8;refine⟨_,rfl,S,CS,ds,_,rfl,I8 _ _ e7,T.cl,T.nS,(by show 3<1000;decide),?_⟩;rw[ps4];have lM:l≠M:=fun z=>by rw[z,B7 _ _ MS hM6']at hl;cases hl
 have M0:H M=none:=SameBut.free B1 hM0 MS;have b0:H b=none:=SameBut.free B1 (K2.free hb0) bS';refine q M dm b l v _ M0 b0 (H0 lS hl) aD (by rw[ao MS];exact I8 _ _ (B7 _ _ MS hM6')) ?_ ev (by rw[ao lS];exact g8) (fun a o n e=>?_)
 . exact BX6'.keep fun o e=>by rw[ao bS'];exact I8 _ _ (B7 _ _ bS' e)
 . rw[ao n];exact I8 _ _ (B7 _ _ n (S6 _ _ (fun z=>by rw[z,M0]at e;cases e) (fun z=>by rw[z,b0]at e;cases e) (I5 _ _ (B4 _ _ n e))))
end
section
variable {CM CA CG CS:Addr}
def But3s(S M b:Addr)(H H':Hp):Prop:=∀a o,a≠S->a≠M->a≠b->H a=some o->H' a=some o
def yh(CS CM CG:Addr):Sp:=fun vs H Q _=>∃(S ds g h M dm b l w:Addr)(ns:List Str)(ts:List Tr)(p n v:Int)(rows:List Hr)(bx:Str->Int)(m:Nat)(ws:List Int),vs=[.ref S,.ref w]/\H S=some (.ins CS ds (sl p M v l))/\H M=some (.ins CM dm (ml g h n b))/\HlpAt H h rows/\BxAt H b bx m/\m<=4000/\dA p bx/\Gm CG H g ns ts p/\H w=some (.tup (ws.map V.int))/\S≠M/\AkOk ⟨ns,ts,p,n,2,v,0,ws⟩/\
 ∀(x0 x1:Int)(l':Addr)(H':Hp),bU ⟨ns,ts,p,n,2,v,0,ws⟩ rows bx=[x0,x1]->H l'=none->H' S=some (.ins CS ds (sl p M v l'))->H' l'=some (.lst [.int x0,.int x1])->H' M=some (.ins CM dm (ml g h (n+1) b))->BxAt H' b (bxA ⟨ns,ts,p,n,2,v,0,ws⟩ rows bx) (m+200)->But3s S M b H H'->Q (.bl (decide ((x0+x1) % p=v))) H'
theorem yw:FnScope ["self","ways"] ["self","ways"] (ae jx):=⟨rfl,rfl,rfl,by decide +kernel,rfl,by decide +kernel,by decide +kernel⟩
theorem yW {f fS:Addr} {fd fdS:FuncData} (F:Fun K "adds_up" "Side.adds_up" jx f fd) (B:Bl mg) (T:STxt K mg CS) (TM:MTxt K mg CM) (mS:Meth K CM "say" fS) (GS:FnOk P w K mg base CX0 28 fS fdS ["self","many","due","s","coins"] (xX CM CG)) (bS:Binds K fdS ["self","many","due","s","coins"] []):FnOk P w K mg base CX0 29 f fd ["self","ways"] (yh CS CM CG):=by
 refine F.ok yw (fun vs H Q E h=>?_) (fun cdv A outer s H vs Q E hr h=>?_)
 . obtain⟨S,ds,g,h,M,dm,b,l,w,ns,ts,p,n,v,rows,bx,m,ws,rfl,_⟩:=h;rfl
 obtain ⟨S,ds,g,h,M,dm,b,l,w,ns,ts,p,n,v,rows,bx,m,ws,rfl,hS,hM,HL,BX,m4,bo,GG,hw,SM,zok,q⟩:=h;have hr28:Room 28 _:=hr.mono (by decide);refine⟨_,(ac (bO (pv 0) (dG (aG (pv 0) rfl) TM.cl mS GS hr28 bS .nil ee (af aa (af (aG (pv 0) rfl) (af aa (af (bF iM rfl B.list iN (af (pv 1) aH)) aH))))) rfl)
  (ad (av (cr aM (ag aN (ag aW (aq ix_list (aG (pv 0) rfl) aa (fun _ _=>rfl)) (aq ix_list (aG (pv 0) rfl) aa (fun _ _=>rfl))) (aG (pv 0) rfl)) (aG (pv 0) rfl) (aj _))))),?_⟩
 have p2:=zok.gk.p2;have so:=di (rows:=rows) zok bo (by show(0:Int)<=2;decide);generalize ez:(⟨ns,ts,p,n,2,v,0,ws⟩:Ak)=z at q zok so;have p2:2<p:=by
  have:=zok.gk.p2
  rw[←ez]at this;exact this
 refine⟨_,rfl,S,CS,ds,_,_,rfl,hS,T.cl,T.nM,sl_m,M,dm,_,rfl,hM,BY,_,rfl,S,CS,ds,_,_,rfl,hS,T.cl,T.nH,pY,_,rfl,w,_,rfl,.inr (zB0 hw),fun c hc=>?_⟩;have I1:=zC0 hc (.lst (ws.map V.int));have g1:upd H c (.lst (ws.map V.int)) c=some (.lst (ws.map V.int)):=aD;generalize upd H c (.lst (ws.map V.int))=H1 at I1 g1;obtain⟨⟨rv,hh,RW⟩,rg⟩:=HL.mono (aY I1);have BX1:=BX.keep fun o e=>I1 _ _ e
 refine ⟨M,g,h,b,dm,c,rv,z,rows,bx,m,(by rw[←ez];rfl),(by rw[←ez];exact I1 _ _ hM),hh,RW,rg,BX1,(by rw[←ez];exact bo),by omega,(by rw[←ez];exact GG.kp (Kp.of I1)),zok,.inl (by rw[←ez];exact g1),(by rw[←ez];show(0:Int)<=2;decide),(by rw[←ez];show(2:Int)<=500;decide),fun l1 H2 l10 hl1 BX2 hM2 S2=>?_⟩;have hl1':H2 l1=some (.lst ((bU z rows bx).map V.int)):=hl1;have BX2':BxAt H2 b (bxA z rows bx) (m+200):=BX2;have sl2:(bU z rows bx).length=2:=by
  have h1:=so.2.1;rw[←ez]at h1 ⊢;have h2:((bU ⟨ns,ts,p,n,2,v,0,ws⟩ rows bx).length:Int)=2:=h1;omega
 obtain ⟨x0,x1,ev⟩:∃x0 x1,bU z rows bx=[x0,x1]:=by
  match bU z rows bx,sl2 with
  | [x0,x1],_=>exact⟨x0,x1,rfl⟩
 rw[ev]at hl1';have hM2':H2 M=some (.ins CM dm (ml g h (n+1) b)):=by rw[←ez]at hM2;exact hM2
 obtain⟨kvs,eb,_⟩:=id BX;have Sb:S≠b:=bh hS eb (by intro z;cases z);have e2:=S2 _ _ SM Sb (I1 _ _ hS);refine⟨_,rfl,S,CS,ds,_,rfl,e2,T.cl,T.nS,(by show 4<1000;decide),?_⟩;rw[pss'];have e3:upd H2 S (.ins CS ds (sl p M v l1)) S=some (.ins CS ds (sl p M v l1)):=aD;have B3:SameBut S H2 (upd H2 S (.ins CS ds (sl p M v l1))):=SameBut.upd _;have l1S:l1≠S:=fun z=>by rw[z,I1 _ _ hS]at l10;cases l10
 generalize upd H2 S (.ins CS ds (sl p M v l1))=H3 at e3 B3;have hl3:=B3 _ _ l1S hl1';refine⟨_,rfl,S,CS,ds,_,_,rfl,e3,T.cl,T.nS,yp,l1,_,0,.int x0,rfl,rfl,zE0 hl3,rfl,_,rfl,S,CS,ds,_,_,rfl,e3,T.cl,T.nS,yp,l1,_,1,.int x1,rfl,rfl,zE0 hl3,rfl,_,_,rfl,rfl,?_⟩;refine⟨_,rfl,S,CS,ds,_,_,rfl,e3,T.cl,T.nF,sl_f,_,_,rfl,rfl,(by show 0<p;omega),?_⟩;refine⟨_,rfl,S,CS,ds,_,_,rfl,e3,T.cl,T.nH,pY,rfl,?_⟩;have fin:=q x0 x1 l1 H3 ev (I1.free l10) e3 hl3 (B3 _ _ SM.symm hM2') (BX2'.keep fun o e=>B3 _ _ Sb.symm e) (fun a o n1 n2 n3 e=>B3 _ _ n1 (S2 _ _ n2 n3 (I1 _ _ e)));have ed:decide (V.int ((x0+x1) % p)=V.int v)=decide ((x0+x1) % p=v):=by
  by_cases c:(x0+x1) % p=v
  . rw[decide_eq_true c,decide_eq_true (congrArg V.int c)]
  . rw[decide_eq_false c,decide_eq_false (fun z=>c (V.int.inj z))]
 show Q (.bl (decide (V.int ((x0+x1) % p)=V.int v))) H3;rw[ed];exact fin
def spGo(CS:Addr):Sp:=fun vs H Q _=>∃(S ds M l:Addr)(p v x0 x1 wy:Int),vs=[.ref S,.int wy]/\H S=some (.ins CS ds (sl p M v l))/\H l=some (.lst [.int x0,.int x1])/\(wy=0∨wy=1)/\∀H',H' S=some (.ins CS ds (sl p M (if wy=0 then x0 else x1) l))->SameBut S H H'->Q .non H'
theorem Cz:FnScope ["self","way"] ["self","way"] (ae oY):=⟨rfl,rfl,rfl,by decide +kernel,rfl,by decide +kernel,by decide +kernel⟩
theorem Da {f:Addr} {fd:FuncData} (F:Fun K "go_way" "Side.go_way" oY f fd) (T:STxt K mg CS):FnOk P w K mg base CX0 1 f fd ["self","way"] (spGo CS):=by
 refine F.ok Cz (fun vs H Q E h=>?_) (fun cdv A outer s H vs Q E hr h=>?_)
 . obtain⟨S,ds,M,l,p,v,x0,x1,wy,rfl,_⟩:=h;rfl
 obtain ⟨S,ds,M,l,p,v,x0,x1,wy,rfl,hS,hl,hw,q⟩:=h;refine⟨_,(ad (bO (pv 0) (aq ix_list (aG (pv 0) rfl) (pv 1) (fun _ _=>rfl)) rfl)),?_⟩;have at_:atI [V.int x0,.int x1] wy=some (.int (if wy=0 then x0 else x1)):=by
  rcases hw with rfl | rfl <;> rfl
 refine⟨_,rfl,S,CS,ds,_,_,rfl,hS,T.cl,T.nS,yp,_,rfl,l,_,wy,_,rfl,rfl,zE0 hl,at_,_,rfl,S,CS,ds,_,rfl,hS,T.cl,T.nH,(by show 4<1000;decide),?_⟩;rw[psh];exact q _ aD (SameBut.upd _)
def BA(CS:Addr):Sp:=fun vs H Q _=>∃(S ds M l S' ds' M' l':Addr)(p v x0 x1 p' v' y0 y1:Int),vs=[.ref S,.ref S']/\H S=some (.ins CS ds (sl p M v l))/\H l=some (.lst [.int x0,.int x1])/\H S'=some (.ins CS ds' (sl p' M' v' l'))/\H l'=some (.lst [.int y0,.int y1])/\Q (.int (if x0=y0 then 1 else 0)) H
theorem mQ:FnScope ["first","second"] ["first","second"] (ae cR):=⟨rfl,rfl,rfl,by decide +kernel,rfl,by decide +kernel,by decide +kernel⟩
theorem ny {f:Addr} {fd:FuncData} (F:Fun K "way_between" "way_between" cR f fd) (T:STxt K mg CS):FnOk P w K mg base CX0 1 f fd ["first","second"] (BA CS):=by
 refine F.ok mQ (fun vs H Q E h=>?_) (fun cdv A outer s H vs Q E hr h=>?_)
 . obtain⟨S,ds,M,l,S',ds',M',l',p,v,x0,x1,p',v',y0,y1,rfl,_⟩:=h;rfl
 obtain⟨S,ds,M,l,S',ds',M',l',p,v,x0,x1,p',v',y0,y1,rfl,hS,hl,hS',hl',q⟩:=h;refine⟨_,(ad (av (iw (ah jP (aq ix_list (aG (pv 0) rfl) aa (fun _ _=>rfl)) (aq ix_list (aG (pv 1) rfl) aa (fun _ _=>rfl)) (aj _)) aa aa))),?_⟩;refine⟨_,rfl,S,CS,ds,_,_,rfl,hS,T.cl,T.nS,yp,l,_,0,.int x0,rfl,rfl,zE0 hl,rfl,_,rfl,S',CS,ds',_,_,rfl,hS',T.cl,T.nS,yp,l',_,0,.int y0,rfl,rfl,zE0 hl',rfl,rfl,_,rfl,?_⟩
 by_cases c:x0=y0
 . refine Ca (congrArg V.int c) ?_;rw[zF0 c]at q;exact q
 . refine Bf (fun z=>c (V.int.inj z)) ?_;rw[zD0 c]at q;exact q
end
section
variable {CM CA CG CS:Addr}
inductive Oc where
 | agr (v:Int)
 | cau (a b:Bool) (ws:List Int)
def OcAt(H:Hp)(a:Addr):Oc->Prop
 | .agr v=>H a=some (.tup [.str "agreed",.int v])
 | .cau x y ws=>∃t,H a=some (.tup [.str "caught",.bl x,.bl y,.ref t])/\H t=some (.tup (ws.map V.int))
structure Gv where
 ns:List Str
 ts:List Tr
 p:Int
abbrev Gv.z(G:Gv)(n mn hd:Int)(ws:List Int):Ak:=⟨G.ns,G.ts,G.p,n,mn,hd,0,ws⟩
def g0(xs:List Int):Int:=xs.getD 0 0
def g1(xs:List Int):Int:=xs.getD 1 0
def vM(xA xB:List Int):Int:=if g0 xA=g0 xB then 1 else 0
def AN(w:Int)(xs:List Int):Int:=if w=0 then g0 xs else g1 xs
def oa(p hd:Int)(xs:List Int):Bool:=decide ((g0 xs+g1 xs) % p=hd)
noncomputable def lg(G:Gv)(rA rB:List Hr)(tru:List Int->Int):Nat->List Int->(Str->Int)->Int->(Str->Int)->Int->Oc
 | 0,ws,_,hA,_,hB=>.cau (!decide (hA=tru ws)) (!decide (hB=tru ws)) ws
 | k+1,ws,bA,hA,bB,hB=>
   let sA:=bU (G.z ((ws.length:Int)+1) 2 hA ws) rA bA
   let sB:=bU (G.z ((ws.length:Int)+1) 2 hB ws) rB bB
   if oa G.p hA sA=true/\oa G.p hB sB=true then
    lg G rA rB tru k (ws++[vM sA sB]) (bxA (G.z ((ws.length:Int)+1) 2 hA ws) rA bA) (AN (vM sA sB) sA) (bxA (G.z ((ws.length:Int)+1) 2 hB ws) rB bB) (AN (vM sA sB) sB)
   else .cau (!oa G.p hA sA) (!oa G.p hB sB) ws
noncomputable def hd0(G:Gv)(r:List Hr):Int:=g0 (bU (G.z 0 1 0 []) r (fun _=>0))
noncomputable def lY(G:Gv)(rA rB:List Hr)(tru:List Int->Int):Oc:=
 if hd0 G rA=hd0 G rB then .agr (hd0 G rA)else lg G rA rB tru G.ns.length [] (bxA (G.z 0 1 0 []) rA (fun _=>0)) (hd0 G rA) (bxA (G.z 0 1 0 []) rB (fun _=>0)) (hd0 G rB)
theorem Ah{G:Gv}{hd:Int}{ws:List Int}(k:GmK G.ns G.ts G.p)(n6:G.ns.length<=6)(wl:ws.length<G.ns.length)(wo:∀w∈ws,w=0∨w=1)(h0:0<=hd)(h1:hd<G.p):AkOk (G.z ((ws.length:Int)+1) 2 hd ws):=by
 have p2:=k.p2;refine⟨k,n6,by show 0<=(ws.length:Int)+1;omega,fun _=>wl,fun x hx=>?_,Int.le_refl 0,by show(0:Int)<G.p;omega,h0,h1,by show ws.length<=100;omega⟩;rcases wo x hx with rfl | rfl
 . exact⟨Int.le_refl 0,by show(0:Int)<G.p;omega⟩
 . exact⟨by decide,by show(1:Int)<G.p;omega⟩
end
section
variable {CM CA CG CS:Addr}
structure Sd(CS CM:Addr)(H:Hp)(S ds M dm b l g h:Addr)(p n v:Int)(bx:Str->Int)(m:Nat):Prop where
 hS:H S=some (.ins CS ds (sl p M v l))
 hM:H M=some (.ins CM dm (ml g h n b))
 hb:BxAt H b bx m
 SM:S≠M
theorem Sd.same{H H':Hp}{S ds M dm b l g h:Addr}{p n v:Int}{bx:Str->Int}{m:Nat}(x:Sd CS CM H S ds M dm b l g h p n v bx m)(s:Same H H'):Sd CS CM H' S ds M dm b l g h p n v bx m:=⟨s _ _ x.hS,s _ _ x.hM,x.hb.keep fun o e=>s _ _ e,x.SM⟩
noncomputable def dC(ns:List Str)(t:Tr)(ws:List Int):Int:=if t.holds ns ws=true then 1 else 0
theorem pe{G:Gv}{rA rB:List Hr}{tru:List Int->Int}{k:Nat}{ws:List Int}{bA bB:Str->Int}{hA hB x0 x1 y0 y1:Int}(ea:bU (G.z ((ws.length:Int)+1) 2 hA ws) rA bA=[x0,x1])(eb:bU (G.z ((ws.length:Int)+1) 2 hB ws) rB bB=[y0,y1]) :
 lg G rA rB tru (k+1) ws bA hA bB hB=if(x0+x1) % G.p=hA/\(y0+y1) % G.p=hB then lg G rA rB tru k (ws++[if x0=y0 then 1 else 0]) (bxA (G.z ((ws.length:Int)+1) 2 hA ws) rA bA) (if(if x0=y0 then(1:Int)else 0)=0 then x0 else x1) (bxA (G.z ((ws.length:Int)+1) 2 hB ws) rB bB) (if(if x0=y0 then(1:Int)else 0)=0 then y0 else y1)else .cau (!decide ((x0+x1) % G.p=hA)) (!decide ((y0+y1) % G.p=hB)) ws:=by
 show(if oa G.p hA (bU (G.z ((ws.length:Int)+1) 2 hA ws) rA bA)=true/\oa G.p hB (bU (G.z ((ws.length:Int)+1) 2 hB ws) rB bB)=true then lg G rA rB tru k (ws++[vM (bU (G.z ((ws.length:Int)+1) 2 hA ws) rA bA) (bU (G.z ((ws.length:Int)+1) 2 hB ws) rB bB)]) (bxA (G.z ((ws.length:Int)+1) 2 hA ws) rA bA) (AN (vM (bU (G.z ((ws.length:Int)+1) 2 hA ws) rA bA) (bU (G.z ((ws.length:Int)+1) 2 hB ws) rB bB)) (bU (G.z ((ws.length:Int)+1) 2 hA ws) rA bA)) (bxA (G.z ((ws.length:Int)+1) 2 hB ws) rB bB) (AN (vM (bU (G.z ((ws.length:Int)+1) 2 hA ws) rA bA) (bU (G.z ((ws.length:Int)+1) 2 hB ws) rB bB)) (bU (G.z ((ws.length:Int)+1) 2 hB ws) rB bB))else .cau (!oa G.p hA (bU (G.z ((ws.length:Int)+1) 2 hA ws) rA bA)) (!oa G.p hB (bU (G.z ((ws.length:Int)+1) 2 hB ws) rB bB)) ws)=_;rw[ea,eb];have f1:(oa G.p hA [x0,x1]=true)=((x0+x1) % G.p=hA):=propext ⟨fun h=>of_decide_eq_true h,fun h=>decide_eq_true h⟩;have f2:(oa G.p hB [y0,y1]=true)=((y0+y1) % G.p=hB):=propext ⟨fun h=>of_decide_eq_true h,fun h=>decide_eq_true h⟩
 by_cases c:(x0+x1) % G.p=hA/\(y0+y1) % G.p=hB
 . rw[zF0 c,zF0 (by rw[f1,f2];exact c)];rfl
 . rw[zD0 c,zD0 (by rw[f1,f2];exact c)];rfl
def oU(CG:Addr):Sp:=fun vs H Q _=>∃(g hA hB:Addr)(ns:List Str)(t:Tr)(p:Int)(rA rB:List Hr),vs=[.ref g,.ref hA,.ref hB]/\Gm CG H g ns [t] p/\GmK ns [t] p/\ns.length<=6/\HlpAt H hA rA/\HlpAt H hB rB/\
 ∀(a:Addr)(H':Hp),OcAt H' a (lY ⟨ns,[t],p⟩ rA rB (dC ns t))->Same H H'->Q (.ref a) H'
theorem ca:FnScope ["game","one","other","first","second","ways","first_fits","second_fits","way","truth"] ["game","one","other"] (ae gq):=⟨rfl,rfl,rfl,by decide +kernel,rfl,by decide +kernel,by decide +kernel⟩
theorem tZ {f fI fA fG:Addr} {fd fdI fdA fdG:FuncData} (F:Fun K "settled" "settled" gq f fd) (B:Bl mg) (T:STxt K mg CS) (TG:GTxt K mg CG) (MS:Mk K CS fI) (GI:FnOk P w K mg base CX0 29 fI fdI ["self","game","helper"] (uW CS CM CG)) (bI:Binds K fdI ["self","game","helper"] []) (mA:Meth K CS "adds_up" fA) (GA:FnOk P w K mg base CX0 29 fA fdA ["self","ways"] (yh CS CM CG)) (bA:Binds K fdA ["self","ways"] []) (mG:Meth K CS "go_way" fG) (GG:FnOk P w K mg base CX0 1 fG fdG ["self","way"] (spGo CS)) (bG:Binds K fdG ["self","way"] [])
 (hZ:Cal P w K mg base 1 "way_between" ["first","second"] (BA CS)) (b9:Cal P w K mg base 14 "holds_at" ["tree","switches","setting"] (iG 12)):FnOk P w K mg base CX0 31 f fd ["game","one","other"] (oU CG):=by
 refine F.ok ca (fun vs H Q E h=>?_) (fun cdv A outer s H vs Q E hr h=>?_)
 . obtain⟨g,hA,hB,ns,t,p,rA,rB,rfl,_⟩:=h;rfl
 obtain ⟨g,hA,hB,ns,t,p,rA,rB,rfl,GM,k,n6,LA,LB,q⟩:=h;have hr30:Room (29+1) _:=hr;have hr29:Room 29 _:=hr.mono (by decide);have hr1:Room 1 _:=hr.mono (by decide);refine⟨_,(ac (am (i:=3) ca.nd rfl (Or.inl rfl) (kC MS GI hr30 rfl T.mgC bI .nil ee (af (pv 0) (af (pv 1) aH))))
  (ac (am (i:=4) ca.nd rfl (Or.inl rfl) (kC MS GI hr30 rfl T.mgC bI .nil ee (af (pv 0) (af (pv 2) aH))))
  (ac (aJ (ah aM (aG (pv 3) rfl) (aG (pv 4) rfl) (aj _)) (ad (av (aX (af ax (af (aG (pv 3) rfl) aH))))) az)
  (ac (am (i:=5) ca.nd rfl (Or.inl rfl) (aX aH))
  (ac (ir PassesOwn.never (ah df (aE aB rfl B.len PySem.boot_len (af (pv 5) aH)) (aE aB rfl B.len PySem.boot_len (af (aG (pv 0) rfl) aH)) (aj _)) (ac (am (i:=6) ca.nd rfl (Or.inl rfl) (dG (pv 3) T.cl mA GA hr29 bA .nil ee (af (pv 5) aH)))
   (ac (am (i:=7) ca.nd rfl (Or.inl rfl) (dG (pv 4) T.cl mA GA hr29 bA .nil ee (af (pv 5) aH)))
   (ac (aJ (PW.pt (gI (li (jj (pv 6))) (fV (li (jj (pv 7)))))) (ad (av (aX (af ax (af (ql (pv 6)) (af (ql (pv 7)) (af (pv 5) aH))))))) az)
   (ac (am (i:=8) ca.nd rfl (Or.inl rfl) (ai hZ hr (by decide) rfl (af (pv 3) (af (pv 4) aH))))
   (ac (bE (dG (pv 3) T.cl mG GG hr1 bG .nil ee (af (pv 8) aH)))
   (ac (bE (dG (pv 4) T.cl mG GG hr1 bG .nil ee (af (pv 8) aH)))
   (ad (am (i:=5) ca.nd rfl (Or.inl rfl) (ag (jJ K) (pv 5) (aX (af (pv 8) aH))))))))))))
  (ac (am (i:=9) ca.nd rfl (Or.inl rfl) (iw (jj (ai b9 hr (by decide) rfl (af (aq aC (aG (pv 0) rfl) aa (fun _ _=>rfl)) (af (aG (pv 0) rfl) (af (pv 5) aH))))) aa aa))
  (ad (av (aX (af ax (af (cr jP (aG (pv 3) rfl) (pv 9) (aj _)) (af (cr jP (aG (pv 4) rfl) (pv 9) (aj _)) (af (pv 5) aH))))))))))))),?_⟩
 have p2:=k.p2;have z0:AkOk (⟨ns,[t],p,0,1,0,0,[]⟩:Ak):=⟨k,n6,Int.le_refl 0,(fun h=>absurd h (by show ¬ (0:Int)<0;decide)),(fun x hx=>by cases hx),Int.le_refl 0,(by show(0:Int)<p;omega),Int.le_refl 0,(by show(0:Int)<p;omega),by show 0<=100;decide⟩
 have bz:dA p (fun _=>0):=fun x=>⟨Int.le_refl 0,by show(0:Int)<p;omega⟩
 refine ⟨_,rfl,_,rfl,fun S1 d1 hS10 hd10 nS1=>?_⟩;have K1:Same H (upd (upd H d1 (.own S1)) S1 (.ins CS d1 [])):=fun a o e=>by
  rw[ao (aO e hS10),ao (aO e hd10)];exact e
 have g1:upd (upd H d1 (.own S1)) S1 (.ins CS d1 []) S1=some (.ins CS d1 []):=aD;generalize upd (upd H d1 (.own S1)) S1 (.ins CS d1 [])=H1 at K1 g1;refine⟨S1,d1,g,hA,ns,[t],p,rA,rfl,g1,GM.kp (Kp.of K1),k,n6,LA.mono (aY K1),fun M1 m1 b1 l1 v1 H2 M10 b10 l10 hS1 hM1 BX1 ev1 hl1 B2=>⟨rfl,?_⟩⟩;have T2:Same H H2:=Same.but K1 hS10 B2;have sd1:Sd CS CM H2 S1 d1 M1 m1 b1 l1 g hA p 1 v1 _ 200:=⟨hS1,hM1,BX1,aO g1 M10⟩
 refine ⟨_,rfl,_,rfl,fun S2 d2 hS20 hd20 nS2=>?_⟩;have K3:Same H2 (upd (upd H2 d2 (.own S2)) S2 (.ins CS d2 [])):=fun a o e=>by
  rw[ao (aO e hS20),ao (aO e hd20)];exact e
 have g3:upd (upd H2 d2 (.own S2)) S2 (.ins CS d2 []) S2=some (.ins CS d2 []):=aD;generalize upd (upd H2 d2 (.own S2)) S2 (.ins CS d2 [])=H3 at K3 g3;refine⟨S2,d2,g,hB,ns,[t],p,rB,rfl,g3,GM.kp (Kp.of (T2.trans K3)),k,n6,LB.mono (aY (T2.trans K3)),fun M2 m2 b2 l2 v2 H4 M20 b20 l20 hS2 hM2 BX2 ev2 hl2 B4=>⟨rfl,?_⟩⟩;have T24:Same H2 H4:=Same.but K3 hS20 B4;have T4:=T2.trans T24;have sd2:Sd CS CM H4 S2 d2 M2 m2 b2 l2 g hB p 1 v2 _ 200:=⟨hS2,hM2,BX2,aO g3 M20⟩
 have sd1:=sd1.same T24;have eA:hd0 ⟨ns,[t],p⟩ rA=v1:=by
  show g0 (bU ⟨ns,[t],p,0,1,0,0,[]⟩ rA (fun _=>0))=v1;rw[ev1];rfl
 have eB:hd0 ⟨ns,[t],p⟩ rB=v2:=by
  show g0 (bU ⟨ns,[t],p,0,1,0,0,[]⟩ rB (fun _=>0))=v2;rw[ev2];rfl
 refine⟨_,rfl,S1,CS,d1,_,_,rfl,sd1.hS,T.cl,T.nH,pY,_,rfl,S2,CS,d2,_,_,rfl,sd2.hS,T.cl,T.nH,pY,rfl,_,rfl,?_⟩
 by_cases c:v1=v2
 . refine aU (congrArg V.int c) ?_;refine⟨_,rfl,S1,CS,d1,_,_,rfl,sd1.hS,T.cl,T.nH,pY,(by show 2<=sizeLine;decide),fun a ha=>?_⟩;refine q a _ ?_ (T4.trans (zC0 ha _));unfold lY;rw[zF0 (by rw[eA,eB];exact c),eA];exact aD
 refine au (fun z=>c (V.int.inj z)) ?_;have v1r:=(di (rows:=rA) z0 bz (by show(0:Int)<=1;decide)).1 v1 (by rw[ev1];exact List.mem_singleton.mpr rfl);have v2r:=(di (rows:=rB) z0 bz (by show(0:Int)<=1;decide)).1 v2 (by rw[ev2];exact List.mem_singleton.mpr rfl);refine⟨(by show 0<=sizeLine;decide),fun w0 hw0=>?_⟩;have I5:=zC0 hw0 (.tup []);have hw5:upd H4 w0 (.tup []) w0=some (.tup (([]:List Int).map V.int)):=aD;have T5:=T4.trans I5;have sd1:=sd1.same I5;have sd2:=sd2.same I5;show qR _ _ _ _ (upd H4 w0 (.tup []));generalize upd H4 w0 (.tup [])=H5 at I5 hw5 T5 sd1 sd2;have S1n:H S1=none:=hS10;have M1n:H M1=none:=K1.free M10;have b1n:H b1=none:=K1.free b10;have S2n:H S2=none:=T2.free hS20;have M2n:H M2=none:=(T2.trans K3).free M20;have b2n:H b2=none:=(T2.trans K3).free b20;have nSS:S1≠S2:=aO hS1 hS20;have nM1S2:M1≠S2:=aO hM1 hS20;have nMM:M1≠M2:=aO (K3 _ _ hM1) M20;have nS1M2:S1≠M2:=aO (K3 _ _ hS1) M20;obtain⟨kb1,eb1,_⟩:=id BX1;have nbb:b1≠b2:=aO (K3 _ _ eb1) b20;have e0:lg ⟨ns,[t],p⟩ rA rB (dC ns t) ns.length [] (bxA ⟨ns,[t],p,0,1,0,0,[]⟩ rA (fun _=>0)) v1 (bxA ⟨ns,[t],p,0,1,0,0,[]⟩ rB (fun _=>0)) v2=lY ⟨ns,[t],p⟩ rA rB (dC ns t):=by
  unfold lY;rw[zD0 (by rw[eA,eB];exact c),eA,eB]
 have bo1:=(di (rows:=rA) z0 bz (by show(0:Int)<=1;decide)).2.2;have bo2:=(di (rows:=rB) z0 bz (by show(0:Int)<=1;decide)).2.2;refine⟨fun mm σ H'=>∃(ws:List Int)(w l1 l2:Addr)(u1 u2:Int)(bx1 bx2:Str->Int)(z6 z7 z8:Option V),σ=[some (.ref g),some (.ref hA),some (.ref hB),some (.ref S1),some (.ref S2),some (.ref w),z6,z7,z8,none]/\mm=ns.length-ws.length/\ws.length<=ns.length/\(∀x∈ws,x=0∨x=1)/\H' w=some (.tup (ws.map V.int))/\Sd CS CM H' S1 d1 M1 m1 b1 l1 g hA p ((ws.length:Int)+1) u1 bx1 (200*(ws.length+1))/\Sd CS CM H' S2 d2 M2 m2 b2 l2 g hB p ((ws.length:Int)+1) u2 bx2 (200*(ws.length+1))/\dA p bx1/\dA p bx2/\(0<=u1/\u1<p)/\(0<=u2/\u2<p)/\lg ⟨ns,[t],p⟩ rA rB (dC ns t) (ns.length-ws.length) ws bx1 u1 bx2 u2=lY ⟨ns,[t],p⟩ rA rB (dC ns t)/\Same H H',
  ⟨_,[],w0,l1,l2,v1,v2,_,_,_,_,_,rfl,rfl,qB0 _,(fun x hx=>by cases hx),hw5,sd1,sd2,bo1,bo2,v1r,v2r,e0,T5⟩,?_⟩
 rintro mm σ H' ⟨ws,w,l1,l2,u1,u2,bx1,bx2,z6,z7,z8,rfl,rfl,wl,wo,hw,sd1,sd2,bo1,bo2,u1r,u2r,er,T'⟩;have GM':=GM.kp (Kp.of T');obtain⟨ga,gb,gd,gtv,⟨dx,hg⟩,hga,hgb,TS,hgd⟩:=id GM';refine⟨_,rfl,w,_,rfl,.inr (zB0 hw),_,rfl,g,CG,dx,_,_,rfl,hg,TG.cl,TG.nS,nX ..,ga,_,rfl,.inr (zB0 hga),_,_,rfl,rfl,_,rfl,?_⟩
 by_cases c1:ws.length<ns.length
 . refine aU (by rw[zH0,zH0];omega) ?_;refine⟨_,fun _ _ h=>h,?_⟩;have zA:=Ah (G:=⟨ns,[t],p⟩) (hd:=u1) k n6 c1 wo u1r.1 u1r.2;have zB:=Ah (G:=⟨ns,[t],p⟩) (hd:=u2) k n6 c1 wo u2r.1 u2r.2;obtain⟨k1,ek1,_⟩:=id sd1.hb;obtain⟨k2,ek2,_⟩:=id sd2.hb;refine⟨_,rfl,S1,d1,_,rfl,sd1.hS,BM,_,rfl,S1,d1,g,hA,M1,m1,b1,l1,w,ns,[t],p,(ws.length:Int)+1,u1,rA,bx1,200*(ws.length+1),ws,rfl,sd1.hS,sd1.hM,LA.mono (aY T'),sd1.hb,by omega,bo1,GM',hw,sd1.SM,zA,fun x0 x1 l1' H6 ex hl0 hS6 hl6 hM6 BX6 B6=>?_⟩;have T6:Same H H6:=fun a o e=>B6 _ _ (fun z=>by rw[z,S1n]at e;cases e) (fun z=>by rw[z,M1n]at e;cases e) (fun z=>by rw[z,b1n]at e;cases e) (T' _ _ e)
   have hw6:=B6 _ _ (bh hw sd1.hS (by intro z;cases z)) (bh hw sd1.hM (by intro z;cases z)) (bh hw ek1 (by intro z;cases z)) hw;have sd2':Sd CS CM H6 S2 d2 M2 m2 b2 l2 g hB p ((ws.length:Int)+1) u2 bx2 (200*(ws.length+1)):=⟨B6 _ _ nSS.symm nM1S2.symm (bh sd2.hS ek1 (by intro z;cases z)) sd2.hS,B6 _ _ nS1M2.symm nMM.symm (bh sd2.hM ek1 (by intro z;cases z)) sd2.hM,sd2.hb.keep (fun o e=>B6 _ _ (bh ek2 sd1.hS (by intro z;cases z)) (bh ek2 sd1.hM (by intro z;cases z)) nbb.symm e),sd2.SM⟩
   refine⟨_,rfl,S2,d2,_,rfl,sd2'.hS,BM,_,rfl,S2,d2,g,hB,M2,m2,b2,l2,w,ns,[t],p,(ws.length:Int)+1,u2,rB,bx2,200*(ws.length+1),ws,rfl,sd2'.hS,sd2'.hM,LB.mono (aY T6),sd2'.hb,by omega,bo2,GM.kp (Kp.of T6),hw6,sd2'.SM,zB,fun y0 y1 l2' H7 ey hl0' hS7 hl7 hM7 BX7 B7=>?_⟩;have T7:Same H H7:=fun a o e=>B7 _ _ (fun z=>by rw[z,S2n]at e;cases e) (fun z=>by rw[z,M2n]at e;cases e) (fun z=>by rw[z,b2n]at e;cases e) (T6 _ _ e)
   obtain ⟨k3,ek3,_⟩:=id sd2'.hb;obtain⟨k4,ek4,_⟩:=id BX6;have hw7:=B7 _ _ (bh hw6 sd2'.hS (by intro z;cases z)) (bh hw6 sd2'.hM (by intro z;cases z)) (bh hw6 ek3 (by intro z;cases z)) hw6;have hS17:=B7 _ _ nSS nS1M2 (bh hS6 ek3 (by intro z;cases z)) hS6;have hM17:=B7 _ _ nM1S2 nMM (bh hM6 ek3 (by intro z;cases z)) hM6;have hl17:=B7 _ _ (bh hl6 sd2'.hS (by intro z;cases z)) (bh hl6 sd2'.hM (by intro z;cases z)) (bh hl6 ek3 (by intro z;cases z)) hl6;have BX17:=BX6.keep (fun o e=>B7 _ _ (bh ek4 sd2'.hS (by intro z;cases z)) (bh ek4 sd2'.hM (by intro z;cases z)) nbb e);have st:=pe (tru:=dC ns t) (k:=ns.length-(ws.length+1)) (G:=⟨ns,[t],p⟩) ex ey;rw[show ns.length-ws.length=ns.length-(ws.length+1)+1 by omega,st]at er;have cau:∀(H8:Hp) (a:Addr),H7 a=none->H8=upd H7 a (.tup [.str "caught",.bl (!decide ((x0+x1) % p=u1)),.bl (!decide ((y0+y1) % p=u2)),.ref w])->¬ ((x0+x1) % p=u1/\(y0+y1) % p=u2)->Q (.ref a) H8:=fun H8 a ha e8 nc=>by
    rw[zD0 nc]at er;rw[←er]at q;subst e8;exact q a _ ⟨w,aD,zC0 ha _ _ _ hw7⟩ (T7.trans (zC0 ha _))
   refine⟨_,rfl,_,rfl,?_⟩
   by_cases fa:(x0+x1) % p=u1
   . rw [decide_eq_true fa];refine dD ?_;refine⟨_,rfl,_,rfl,?_⟩
     by_cases fb:(y0+y1) % p=u2
     . rw [decide_eq_true fb];refine dD ?_;rw[zF0 ⟨fa,fb⟩]at er;refine⟨_,rfl,_,rfl,S1,d1,M1,l1',S2,d2,M2,l2',p,u1,x0,x1,p,u2,y0,y1,rfl,hS17,hl17,hS7,hl7,?_⟩;obtain⟨wy,ewy,w01⟩:∃wy:Int,(if x0=y0 then(1:Int)else 0)=wy/\(wy=0∨wy=1):=⟨_,rfl,by split <;> simp⟩
       rw[ewy]at er ⊢;refine⟨_,rfl,S1,d1,_,rfl,hS17,BK,_,rfl,S1,d1,M1,l1',p,u1,x0,x1,wy,rfl,hS17,hl17,w01,fun H8 hS8 B8=>?_⟩;have hS28:=B8 _ _ nSS.symm hS7;have hl28:=B8 _ _ (bh hl7 hS17 (by intro z;cases z)) hl7;refine⟨_,rfl,S2,d2,_,rfl,hS28,BK,_,rfl,S2,d2,M2,l2',p,u2,y0,y1,wy,rfl,hS28,hl28,w01,fun H9 hS9 B9=>?_⟩;have X9:∀{a:Addr}{o:HO},a≠S1->a≠S2->H7 a=some o->H9 a=some o:=fun n1 n2 e=>B9 _ _ n2 (B8 _ _ n1 e)
       have T9:Same H H9:=fun a o e=>X9 (fun z=>by rw[z,S1n]at e;cases e) (fun z=>by rw[z,S2n]at e;cases e) (T7 _ _ e)
       have hw9:=X9 (bh hw7 hS17 (by intro z;cases z)) (bh hw7 hS7 (by intro z;cases z)) hw7;obtain⟨k7,ek7,_⟩:=id BX7;obtain⟨k8,ek8,_⟩:=id BX17;have sdA:Sd CS CM H9 S1 d1 M1 m1 b1 l1' g hA p (((ws++[wy]).length:Int)+1) (if wy=0 then x0 else x1) (bxA ((⟨ns,[t],p⟩:Gv).z ((ws.length:Int)+1) 2 u1 ws) rA bx1) (200*((ws++[wy]).length+1)):=by
        rw[zL0];refine⟨B9 _ _ nSS hS8,?_,(BX17.keep fun o e=>X9 (bh ek8 hS17 (by intro z;cases z)) (bh ek8 hS7 (by intro z;cases z)) e).le (by show _<=200*(ws.length+1+1);omega),sd1.SM⟩;exact X9 sd1.SM.symm nM1S2 hM17
       have sdB:Sd CS CM H9 S2 d2 M2 m2 b2 l2' g hB p (((ws++[wy]).length:Int)+1) (if wy=0 then y0 else y1) (bxA ((⟨ns,[t],p⟩:Gv).z ((ws.length:Int)+1) 2 u2 ws) rB bx2) (200*((ws++[wy]).length+1)):=by
        rw[zL0];refine⟨hS9,?_,(BX7.keep fun o e=>X9 (bh ek7 hS17 (by intro z;cases z)) (bh ek7 hS7 (by intro z;cases z)) e).le (by show _<=200*(ws.length+1+1);omega),sd2.SM⟩;exact X9 nS1M2.symm sd2.SM.symm hM7
       have so1:=di (rows:=rA) zA bo1 (by show(0:Int)<=2;decide);have so2:=di (rows:=rB) zB bo2 (by show(0:Int)<=2;decide);have r1:0<=(if wy=0 then x0 else x1)/\(if wy=0 then x0 else x1)<p:=so1.1 _ (by rw[ex];split <;> simp);have r2:0<=(if wy=0 then y0 else y1)/\(if wy=0 then y0 else y1)<p:=so2.1 _ (by rw[ey];split <;> simp);have wo':∀x∈ws++[wy],x=0∨x=1:=fun x hx=>by
        rcases zT0 hx with h | h
        . exact wo x h
        . rw[zM0 h];exact w01
       have wl':(ws++[wy]).length=ws.length+1:=by rw[zL0];rfl
       refine⟨_,rfl,_,rfl,(by show 1<=sizeLine;decide),fun tw htw=>?_⟩;have IW:=zC0 htw (.tup [.int wy])
       by_cases hws:ws=[]
       . refine .inr ⟨w,tw,[.int wy],rfl,rfl,zB0 (by rw[IW _ _ hw9,hws];rfl),zB0 aD,?_⟩;exact⟨ns.length-(ws.length+1),(by show _<ns.length-ws.length;omega),ws++[wy],tw,l1',l2',_,_,_,_,_,_,_,rfl,by rw[wl'],by rw[wl'];exact c1,wo',by rw[aD,hws];rfl,sdA.same IW,sdB.same IW,so1.2.2,so2.2.2,r1,r2,by rw[wl'];exact er,T9.trans IW⟩
       . refine .inl ⟨w,tw,ws.map V.int,[.int wy],rfl,rfl,zB0 (IW _ _ hw9),zB0 aD,(fun z=>hws (List.map_eq_nil_iff.mp z)),cp (by rw[zH0];show ws.length+1<=1000;omega),(fun z=>by cases z),fun _ wn hwn=>?_⟩;have IN:=IW.trans (zC0 hwn (.tup (ws.map V.int++[.int wy])));exact⟨ns.length-(ws.length+1),(by show _<ns.length-ws.length;omega),ws++[wy],wn,l1',l2',_,_,_,_,_,_,_,rfl,by rw[wl'],by rw[wl'];exact c1,wo',by rw[aD,zK0];rfl,sdA.same IN,sdB.same IN,so1.2.2,so2.2.2,r1,r2,by rw[wl'];exact er,T9.trans IN⟩
     . rw[decide_eq_false fb];refine fq ?_;refine⟨_,rfl,_,rfl,_,rfl,_,rfl,_,rfl,(by show 4<=sizeLine;decide),fun a ha=>?_⟩;exact cau _ a ha (by rw[decide_eq_true fa,decide_eq_false fb]) (fun h=>fb h.2)
   . rw[decide_eq_false fa];refine fq ?_;refine⟨_,rfl,_,rfl,_,rfl,_,rfl,_,rfl,(by show 4<=sizeLine;decide),fun a ha=>?_⟩;exact cau _ a ha (by rw[decide_eq_false fa]) (fun h=>fa h.1)
 . refine au (by rw[zH0,zH0];omega) ?_;have we:ws.length=ns.length:=by omega
   have tv1:∃v,gtv=[v]/\TreeAt H' v t:=by
    cases TS with
    | cons a r=>cases r;exact⟨_,rfl,a⟩
   obtain ⟨tv,rfl,TT⟩:=tv1;have tk:=k.tok t qG0;rw[show ns.length-ws.length=0 by omega]at er;have er':Oc.cau (!decide (u1=dC ns t ws)) (!decide (u2=dC ns t ws)) ws=lY ⟨ns,[t],p⟩ rA rB (dC ns t):=er;refine⟨_,rfl,g,CG,dx,_,_,rfl,hg,TG.cl,TG.nT,pC ..,gb,_,0,tv,rfl,rfl,zB0 hgb,rfl,_,rfl,g,CG,dx,_,_,rfl,hg,TG.cl,TG.nS,nX ..,_,rfl,tv,t,ga,w,ns,ws,rfl,TT,tk.1,zZ0 tk.2.2.1 (by decide),.inr hga,hw,we,_,rfl,?_⟩;have fin:∀(tr:Int),dC ns t ws=tr->∀(a:Addr),H' a=none->Q (.ref a) (upd H' a (.tup [.str "caught",.bl (!decide (V.int u1=V.int tr)),.bl (!decide (V.int u2=V.int tr)),.ref w])):=fun tr etr a ha=>by
    rw [←er',etr]at q;have dd:∀u:Int,decide (V.int u=V.int tr)=decide (u=tr):=fun u=>by
     by_cases c:u=tr
     . rw[decide_eq_true c,decide_eq_true (congrArg V.int c)]
     . rw[decide_eq_false c,decide_eq_false (fun z=>c (V.int.inj z))]
    rw[dd u1,dd u2];exact q a _ ⟨w,aD,zC0 ha _ _ _ hw⟩ (T'.trans (zC0 ha _))
   cases hh:t.holds ns ws with
   | true=>
     refine fq ?_;refine⟨_,rfl,S1,CS,d1,_,_,rfl,sd1.hS,T.cl,T.nH,pY,_,rfl,rfl,_,rfl,S2,CS,d2,_,_,rfl,sd2.hS,T.cl,T.nH,pY,_,rfl,rfl,_,rfl,(by show 4<=sizeLine;decide),fun a ha=>?_⟩;exact fin 1 (by unfold dC;rw[hh];rfl) a ha
   | false=>
     refine dD ?_;refine⟨_,rfl,S1,CS,d1,_,_,rfl,sd1.hS,T.cl,T.nH,pY,_,rfl,rfl,_,rfl,S2,CS,d2,_,_,rfl,sd2.hS,T.cl,T.nH,pY,_,rfl,rfl,_,rfl,(by show 4<=sizeLine;decide),fun a ha=>?_⟩;exact fin 0 (by unfold dC;rw[hh];rfl) a ha
end
section
theorem at0S(x:V)(xs:List V):atI (x::xs) 0=some x:=cg (j:=0) rfl
theorem pO (o:Str):inV (.str o) [.str "yes",.str "no"]=(decide (o="yes")||decide (o="no")):=by
 show (("yes"==o)||(("no"==o)||false))=_;rw[Bool.or_false];have e:∀z:Str,(z==o)=decide (o=z):=fun z=>by
  by_cases c:o=z
  . subst c;simp
  . rw[decide_eq_false c];simpa using fun h=>c h.symm
 rw[e,e]
def lW (o:Str) (x y:Int):Int:=if o="and" then x*y else if o="or" then x+y-x*y else if o="odd" then x+y-2*x*y else 1-x-y+2*x*y
def dS (x y:Int):List (Key×V):=[(Sum.inr "and",V.int (x*y)),(Sum.inr "or",V.int (x+y-x*y)),(Sum.inr "odd",V.int (x+y-2*x*y)),(Sum.inr "same",V.int (1-x-y+2*x*y))]
theorem zV(x y:Int):eD [] (dS x y)=dS x y:=by with_unfolding_all rfl
theorem DE(x y:Int):∀o∈joinW,bQ (dS x y) (Sum.inr o)=some (V.int (lW o x y)):=by
 intro o ho;simp only[joinW,List.mem_cons,List.not_mem_nil,or_false]at ho;rcases ho with rfl | rfl | rfl | rfl
 . have e:lW "and" x y=x*y:=by unfold lW;rw[zF0 rfl]
   rw[e];with_unfolding_all rfl
 . have e:lW "or" x y=x+y-x*y:=by unfold lW;rw[zD0 (by decide +kernel),zF0 rfl]
   rw[e];with_unfolding_all rfl
 . have e:lW "odd" x y=x+y-2*x*y:=by unfold lW;rw[zD0 (by decide +kernel),zD0 (by decide +kernel),zF0 rfl]
   rw[e];with_unfolding_all rfl
 . have e:lW "same" x y=1-x-y+2*x*y:=by unfold lW;rw[zD0 (by decide +kernel),zD0 (by decide +kernel),zD0 (by decide +kernel)]
   rw[e];with_unfolding_all rfl
theorem uD(o:Str)(p x y:Int):dh p o x y=lW o x y % p:=by
 unfold dh lW;rw[Int.mul_assoc]
 repeat' split
 . rfl
 . rfl
 . rfl
 . congr 1
   omega
theorem kG{o x:Str}(h:o∈joinW)(hx:x∉joinW):¬ V.str o=V.str x:=fun z=>hx (by rw[←V.str.inj z];exact h)
def NdAt(H:Hp)(d:Addr)(ns:List Str)(pt:List Int):Prop:=∃kvs:List (Key×V),H d=some (.dK kvs)/\∀(x:Str)(j:Nat),cO x ns=some j->bQ kvs (Sum.inr x)=some (.int (pt.getD j 0))
theorem NdAt.same{H H':Hp}{d:Addr}{ns:List Str}{pt:List Int}(h:NdAt H d ns pt)(S:Same H H'):NdAt H' d ns pt:=by
 obtain⟨kvs,e,r⟩:=h;exact⟨kvs,S _ _ e,r⟩
def oV(n:Nat):Sp:=fun vs H Q _=>∃(v:V)(t:Tr)(d:Addr)(ns:List Str)(pt:List Int)(p:Int),vs=[v,.ref d,.int p]/\TreeAt H v t/\t.ok ns/\t.depth<=n/\NdAt H d ns pt/\pt.length=ns.length/\1<p/\p<2 ^ 40/\ft pt p/\∀H',Same H H'->Q (.int (t.worth ns pt p)) H'
theorem fQ:FnScope ["_law_tree_here","_law_point","_law_p","_law_word","_law_a","_law_b","_law_some"] ["_law_tree_here","_law_point","_law_p"] (ae fc):=⟨rfl,rfl,rfl,by decide +kernel,rfl,by decide +kernel,by decide +kernel⟩
theorem zE {n:Nat} {f:Addr} {fd:FuncData} (F:Fun K "_law_worth" "_law_worth" fc f fd) (B:Bl mg) (fH:Cal P w K mg base (n+2) "_law_worth" ["_law_tree_here","_law_point","_law_p"] (oV n)):FnOk P w K mg base CX0 (n+3) f fd ["_law_tree_here","_law_point","_law_p"] (oV (n+1)):=by
 refine F.ok fQ (fun vs H Q E h=>?_) (fun cdv A outer s H vs Q E hr h=>?_)
 . obtain⟨v,t,d,ns,pt,p,rfl,_⟩:=h;rfl
 obtain⟨v,t,d,ns,pt,p,rfl,T,ok,dn,hO,sl,p1,p40,po,k⟩:=h;have hu:=nU hr;have p0:(0:Int)<p:=by omega
 refine ⟨_,(ac (am (i:=3) fQ.nd rfl (Or.inl rfl) (aq aC (pv 0) aa (fun _ _=>rfl)))
  (ac (aJ (ah aM (pv 3) ax (aj _)) (ad (av (cc hu (pv 1) (aq aC (pv 0) aa (fun _ _=>rfl)) (fun _ _=>rfl)))) az)
  (ac (aJ (ah iy (pv 3) (bL (af ax (af ax aH))) (by with_unfolding_all rfl)) (ad (av (bF lC rfl B.int jL (af (cr aM (pv 3) ax (aj _)) aH)))) az)
  (ac (am (i:=4) fQ.nd rfl (Or.inl rfl) (ai fH hr (zG0 _) rfl (af (aq aC (pv 0) aa (fun _ _=>rfl)) (af (pv 1) (af (pv 2) aH)))))
  (ac (aJ (ah aM (pv 3) ax (aj _)) (ad (av (ag aN (ag aV aa (pv 4)) (pv 2)))) az)
  (ac (am (i:=5) fQ.nd rfl (Or.inl rfl) (ai fH hr (zG0 _) rfl (af (aq aC (pv 0) aa (fun _ _=>rfl)) (af (pv 1) (af (pv 2) aH)))))
  (ac (am (i:=6) fQ.nd rfl (Or.inl rfl) (qm (cD ax (ag bg (pv 4) (pv 5)) (cD ax (ag aV (ag aW (pv 4) (pv 5)) (ag bg (pv 4) (pv 5))) (cD ax (ag aV (ag aW (pv 4) (pv 5)) (ag bg (ag bg aa (pv 4)) (pv 5))) (cD ax (ag aW (ag aV (ag aV aa (pv 4)) (pv 5)) (ag bg (ag bg aa (pv 4)) (pv 5))) qg)))) rfl rfl (by simp) (by decide)))
  (ad (av (ag aN (cc hu (pv 6) (pv 3) (fun _ _=>rfl)) (pv 2))))))))))),?_⟩
 cases T with
 | @is q x e=>
   refine⟨_,rfl,q,_,0,_,rfl,rfl,zB0 e,rfl,_,rfl,rfl,_,rfl,?_⟩;refine aU rfl ?_;obtain⟨j,hj,jl⟩:=fk (show x∈ns from ok);obtain⟨kvs,hd,hv⟩:=hO;refine⟨_,rfl,_,rfl,q,_,1,_,rfl,rfl,zB0 e,rfl,d,.int (pt.getD j 0),rfl,?_,?_⟩
   . rw[←hv x j hj];exact DGet.k (k:=Sum.inr x) hd
   . have e1:(Tr.is x).worth ns pt p=pt.getD j 0:=by
      show(match cO x ns with | some j=>pt.getD j 0 | none=>0)=_;rw[hj]
     have k':=k _ (Same.refl _);rw[e1]at k';exact k'
 | @yes q e=>
   refine⟨_,rfl,q,_,0,_,rfl,rfl,zB0 e,rfl,_,rfl,rfl,_,rfl,?_⟩;refine au (by decide +kernel) ?_;refine⟨_,rfl,(by show 2<=sizeLine;decide),fun c hc=>?_⟩;have G:=zC0 hc (.lst [.str "yes",.str "no"]);refine⟨c,_,rfl,.inl (zE0 aD),rfl,rfl,_,rfl,?_⟩;have e0:inV (.str "yes") [.str "yes",.str "no"]=true:=by rw[pO];decide +kernel
   show if inV (.str "yes") [.str "yes",.str "no"]=true then _ else _
   rw[e0];refine fq ?_;refine⟨_,rfl,rfl,.inr ⟨_,rfl,?_⟩⟩;have e1:decide (V.str "yes"=V.str "yes")=true:=decide_eq_true rfl;rw[e1];exact k _ G
 | @no q e=>
   refine⟨_,rfl,q,_,0,_,rfl,rfl,zB0 e,rfl,_,rfl,rfl,_,rfl,?_⟩;refine au (by decide +kernel) ?_;refine⟨_,rfl,(by show 2<=sizeLine;decide),fun c hc=>?_⟩;have G:=zC0 hc (.lst [.str "yes",.str "no"]);refine⟨c,_,rfl,.inl (zE0 aD),rfl,rfl,_,rfl,?_⟩;have e0:inV (.str "no") [.str "yes",.str "no"]=true:=by rw[pO];decide +kernel
   show if inV (.str "no") [.str "yes",.str "no"]=true then _ else _
   rw[e0];refine fq ?_;refine⟨_,rfl,rfl,.inr ⟨_,rfl,?_⟩⟩;have e1:decide (V.str "no"=V.str "yes")=false:=by decide +kernel
   rw[e1];exact k _ G
 | @not q u r e g=>
   refine⟨_,rfl,q,_,0,_,rfl,rfl,zB0 e,rfl,_,rfl,rfl,_,rfl,?_⟩;refine au (by decide +kernel) ?_;refine⟨_,rfl,(by show 2<=sizeLine;decide),fun c hc=>?_⟩;have G:=zC0 hc (.lst [.str "yes",.str "no"]);refine⟨c,_,rfl,.inl (zE0 aD),rfl,rfl,_,rfl,?_⟩;have e0:inV (.str "not") [.str "yes",.str "no"]=false:=by rw[pO];decide +kernel
   show if inV (.str "not") [.str "yes",.str "no"]=true then _ else _
   rw [e0];refine dD ?_;have dn':r.depth<=n:=by
    have:r.depth+1<=n+1:=dn
    omega
   refine⟨_,rfl,q,_,1,_,rfl,rfl,zB0 (G _ _ e),rfl,_,rfl,_,rfl,u,r,d,ns,pt,p,rfl,g.mono (aY G),ok,dn',hO.same G,sl,p1,p40,po,fun H2 S2=>?_⟩;refine⟨_,rfl,rfl,_,rfl,?_⟩;refine aU rfl ?_;refine⟨_,rfl,_,_,rfl,rfl,_,rfl,_,_,rfl,rfl,p0,?_⟩;exact k _ (G.trans S2)
 | @bin q o u u2 r r2 e g g2=>
   obtain ⟨ho,ok1,ok2⟩:=ok;refine⟨_,rfl,q,_,0,.str o,rfl,rfl,zB0 e,at0S ..,_,rfl,rfl,_,rfl,?_⟩;refine au (kG ho (by decide +kernel)) ?_;refine⟨_,rfl,(by show 2<=sizeLine;decide),fun c hc=>?_⟩;have G:=zC0 hc (.lst [.str "yes",.str "no"]);refine⟨c,_,rfl,.inl (zE0 aD),rfl,rfl,_,rfl,?_⟩;have e0:inV (.str o) [.str "yes",.str "no"]=false:=by
    rw[pO,decide_eq_false,decide_eq_false]
    . rfl
    . exact fun z=>kG ho (by decide +kernel) (congrArg V.str z)
    . exact fun z=>kG ho (by decide +kernel) (congrArg V.str z)
   show if inV (.str o) [.str "yes",.str "no"]=true then _ else _
   rw [e0];refine dD ?_;have dn':r.depth<=n/\r2.depth<=n:=by
    have:max r.depth r2.depth+1<=n+1:=dn
    omega
   refine⟨_,rfl,q,_,1,_,rfl,rfl,zB0 (G _ _ e),rfl,_,rfl,_,rfl,u,r,d,ns,pt,p,rfl,g.mono (aY G),ok1,dn'.1,hO.same G,sl,p1,p40,po,fun H2 S2=>?_⟩;have S02:=G.trans S2;have w1:=worth_rng p1 po sl r ok1;have w2:=worth_rng p1 po sl r2 ok2;have ew:(Tr.bin o r r2).worth ns pt p=lW o (r.worth ns pt p) (r2.worth ns pt p) % p:=uD o p _ _;rw[ew]at k;refine⟨_,rfl,rfl,_,rfl,?_⟩;refine au (kG ho (by decide +kernel)) ?_;refine⟨_,rfl,q,_,2,_,rfl,rfl,zB0 (S02 _ _ e),rfl,_,rfl,_,rfl,u2,r2,d,ns,pt,p,rfl,g2.mono (aY S02),ok2,dn'.2,hO.same S02,sl,p1,p40,po,fun H3 S3=>?_⟩;have S03:=S02.trans S3;generalize r.worth ns pt p=x at w1 k;generalize r2.worth ns pt p=y at w2 k;refine fun m hm=>?_
   refine ⟨_,rfl,_,rfl,_,_,rfl,rfl,.inl ⟨by omega,by omega⟩,_,rfl,_,rfl,_,_,rfl,rfl,_,rfl,_,rfl,_,_,rfl,rfl,.inl ⟨by omega,by omega⟩,_,_,rfl,rfl,_,rfl,_,rfl,_,_,rfl,rfl,_,rfl,_,_,rfl,rfl,.inl ⟨by decide,by decide⟩,_,rfl,_,_,rfl,rfl,.inr ⟨by omega,by omega⟩,_,_,rfl,rfl,?_⟩;refine⟨_,rfl,_,_,rfl,rfl,_,rfl,_,_,rfl,rfl,_,rfl,_,_,rfl,rfl,.inl ⟨by decide,by decide⟩,_,rfl,_,_,rfl,rfl,.inr ⟨by omega,by omega⟩,_,_,rfl,rfl,?_⟩;refine⟨aD,dS x y,rfl,by show 4<=15;decide,?_⟩;rw[zV];have Sd:Same H3 (upd (upd H3 m (.dK [])) m (.dK (dS x y))):=fun b' o' e'=>by
    have nb:=aO e' hm;rw[ao nb,ao nb];exact e'
   have hd2:upd (upd H3 m (.dK [])) m (.dK (dS x y)) m=some (.dK (dS x y)):=aD;generalize upd (upd H3 m (.dK [])) m (.dK (dS x y))=H4 at Sd hd2;refine⟨_,rfl,_,rfl,m,_,rfl,(by rw[←DE x y o ho];exact DGet.k (k:=Sum.inr _) hd2),_,rfl,_,_,rfl,rfl,p0,?_⟩;exact k _ (S03.trans Sd)
theorem zD {f:Addr} {fd:FuncData}:FnOk P w K mg base CX0 2 f fd ["_law_tree_here","_law_point","_law_p"] (oV 0):=by
 have no:∀vs H Q E,¬ oV 0 vs H Q E:=fun vs H Q E h=>by
  obtain⟨v,t,_,_,_,_,_,_,_,h1,_⟩:=h
  have:=t.depth_pos
  omega
 exact⟨fun vs H Q E h=>absurd h (no vs H Q E),fun A outer s H args us vs Q E _ _ _ _ h=>absurd h (no vs H Q E)⟩
theorem nA {f:Addr} {fd:FuncData} (F:Fun K "_law_worth" "_law_worth" fc f fd) (B:Bl mg) (m:mg "_law_worth"=some (.ref f)) :
 ∀n:Nat,FnOk P w K mg base CX0 (n+2) f fd ["_law_tree_here","_law_point","_law_p"] (oV n)
 | 0=>zD
 | n+1=>zE F B (Cal.of F (nA F B m n) m (fun _ _ _ _ _ _ us hl=>by obtain⟨u0,u1,u2,rfl⟩:=fY hl;rfl))
end
theorem wW{p x y:Int}(hp:1<p){o:Str}(bx cy:Bool)(hx:x=if bx then 1 else 0)(hy:y=if cy then 1 else 0):dh p o x y=if iQ o bx cy then 1 else 0:=by
 have m0:(0:Int) % p=0:=Int.zero_emod p;have m1:(1:Int) % p=1:=qN0 (by decide) hp;subst hx hy;unfold dh iQ;cases bx <;> cases cy <;> (repeat' split) <;> simp_all
theorem fD{ns:List Str}{st:List Int}{p:Int}(hp:1<p)(h:∀x∈st,x=0∨x=1)(hl:st.length=ns.length):∀t:Tr,t.ok ns->t.worth ns st p=if t.holds ns st then 1 else 0
 | .is x,ok=>by
   obtain⟨j,hj,jl⟩:=fk ok;show(match cO x ns with | some j=>st.getD j 0 | none=>0)=if(match cO x ns with | some j=>decide (st.getD j 0=1) | none=>false)=true then 1 else 0
   rw[hj];show st.getD j 0=if decide (st.getD j 0=1)=true then 1 else 0
   rw[nZ (by omega)];rcases h _ (qT0 (show j<st.length by omega))with e | e <;> rw[e] <;> rfl
 | .yes,_=>rfl
 | .no,_=>rfl
 | .not a,ok=>by
   have m0:(0:Int) % p=0:=Int.zero_emod p;have m1:(1:Int) % p=1:=qN0 (by decide) hp;show(1-a.worth ns st p) % p=if(!a.holds ns st)=true then 1 else 0
   rw[fD hp h hl a ok];cases a.holds ns st
   . exact m1
   . exact m0
 | .bin o a b,⟨_,k1,k2⟩=>wW hp _ _ (fD hp h hl a k1) (fD hp h hl b k2)
section
theorem DF{xs:List V}{k:Nat}(hk:k<=xs.length):jM xs none (some (k:Int))=xs.take k:=by
 unfold jM;rw[HT.sIx_none,HT.sIx_nat,List.drop_zero,Nat.sub_zero,Nat.min_eq_left hk]
structure GmT(H:Hp)(gh a b:Addr)(ns:List Str)(tv:List V)(ts:List Tr)(p:Int):Prop where
 hg:H gh=some (.tup [.ref a,.ref b,.int p])
 ha:H a=some (.tup (ns.map V.str))
 hb:H b=some (.tup tv)
 tr:TreesAt H tv ts
theorem GmT.mono{H H':Hp}{gh a b:Addr}{ns:List Str}{tv:List V}{ts:List Tr}{p:Int}(h:GmT H gh a b ns tv ts p)(k:bv H H'):GmT H' gh a b ns tv ts p:=⟨k _ _ h.hg,k _ _ h.ha,k _ _ h.hb,h.tr.mono k⟩
end
section
theorem rG{x:Str}:∀{ns:List Str}{j:Nat},cO x ns=some j->ns[j]?=some x
 | [],j,h=>by simp [cO]at h
 | a::r,j,h=>by
   unfold cO at h
   by_cases c:a=x
   . rw[zF0 c]at h;cases h;rw[c];rfl
   . rw[zD0 c]at h;obtain⟨i,hi,rfl⟩:=qW0 h;show r[i]?=some x;exact rG hi
theorem iY{k:Key}:∀(more acc:List (Key×V)),k∉more.map (·.1)->bQ (eD acc more) k=bQ acc k
 | [],acc,_=>rfl
 | kv::r,acc,h=>by
   have h1:k≠kv.1:=fun e=>h (by rw[e];exact qG0)
   have h2:k∉r.map (·.1):=fun e=>h (qL0 _ e)
   show bQ (eD (fj acc kv.1 kv.2) r) k=_;rw[iY r _ h2,iX,zD0 h1]
theorem iZ{k:Key}{v:V}:∀(more acc:List (Key×V)),(more.map (·.1)).Nodup->(k,v)∈more->bQ (eD acc more) k=some v
 | [],_,_,h=>by cases h
 | kv::r,acc,nd,h=>by
   have nd':kv.1∉r.map (·.1)/\(r.map (·.1)).Nodup:=List.nodup_cons.mp nd;show bQ (eD (fj acc kv.1 kv.2) r) k=_;rcases qC0 h with e | e
   . subst e;rw[iY r _ nd'.1,iX,zF0 rfl]
   . exact iZ r _ nd'.2 e
def ndL(ns:List Str)(pt:List Int):List (Key×V):=List.zipWith (fun(x:Str)(n:Int)=>((Sum.inr x:Key),V.int n)) ns pt
theorem zr{ns:List Str}{pt:List Int}{j:Nat}{x:Str}{n:Int}(h1:ns[j]?=some x)(h2:pt[j]?=some n):(ndL ns pt)[j]?=some (Sum.inr x,V.int n):=by
 unfold ndL;rw[List.getElem?_zipWith,h1,h2]
theorem qy{ns:List Str}{pt:List Int}(h:pt.length=ns.length):(ndL ns pt).length=ns.length:=by
 unfold ndL;rw[List.length_zipWith,h,Nat.min_self]
theorem rY:∀{ns:List Str}{pt:List Int},pt.length=ns.length->(ndL ns pt).map (·.1)=ns.map fun x=>(Sum.inr x:Key)
 | [],[],_=>rfl
 | a::ns,b::pt,h=>by
   have:=rY (ns:=ns) (pt:=pt) (by simpa using h)
   show(Sum.inr a:Key)::(ndL ns pt).map (·.1)=_;rw[this];rfl
 | [],_::_,h=>by simp at h
 | _::_,[],h=>by simp at h
theorem Dg{ns:List Str}{pt:List Int}(nd:ns.Nodup)(hl:pt.length=ns.length)(x:Str)(j:Nat)(h:cO x ns=some j):bQ (eD [] (ndL ns pt)) (Sum.inr x)=some (.int (pt.getD j 0)):=by
 have h1:=rG h;have jl:j<pt.length:=by
  have:=(zW0 h1).1
  omega
 have h2:pt[j]?=some pt[j]:=zQ0 jl;have nk:((ndL ns pt).map (·.1)).Nodup:=by
  rw[rY hl];exact List.Pairwise.map _ (fun a b (hab:a≠b) e=>hab (Sum.inr.inj e)) nd
 rw[iZ _ _ nk (qE0 (zr h1 h2)),qS0,h2];rfl
def pV:Sp:=fun vs H Q _=>∃(gh a b r:Addr)(ns:List Str)(tv:List V)(ts:List Tr)(pt:List Int)(s p:Int),vs=[.ref gh,.int s,.ref r]/\GmT H gh a b ns tv ts p/\ns.Nodup/\ns.length<=10/\(∀t∈ts,t.ok ns/\t.depth<=10)/\IntsAt H r pt/\pt.length=ns.length/\ft pt p/\1<p/\p<2 ^ 40/\∀H',Same H H'->Q (.int (hor s p (ts.map fun t=>t.worth ns pt p))) H'
theorem dc:FnScope ["_law_game","_law_s","_law_point","_law_switches","_law_trees","_law_p","_law_named","_law_total","_law_tree_here"] ["_law_game","_law_s","_law_point"] (ae gs):=⟨rfl,rfl,rfl,by decide +kernel,rfl,by decide +kernel,by decide +kernel⟩
theorem ub {f:Addr} {fd:FuncData} (F:Fun K "_law_mixed" "_law_mixed" gs f fd) (B:Bl mg) (fH:Cal P w K mg base 12 "_law_worth" ["_law_tree_here","_law_point","_law_p"] (oV 10)):FnOk P w K mg base CX0 13 f fd ["_law_game","_law_s","_law_point"] pV:=by
 refine F.ok dc (fun vs H Q E h=>?_) (fun cdv A outer s H vs Q E hr h=>?_)
 . obtain⟨gh,a,b,r,ns,tv,ts,pt,s,p,rfl,_⟩:=h;rfl
 obtain ⟨gh,a,b,r,ns,tv,ts,pt,s,p,rfl,G,nd,n10,tok,hr0,pl,po,p1,p40,q⟩:=h;refine⟨_,(ac (lj (pv 0) (yL rfl (fJ (bd (i:=3) dc.nd rfl (Or.inl rfl)) (fJ (bd (i:=4) dc.nd rfl (Or.inl rfl)) (fJ (bd (i:=5) dc.nd rfl (Or.inl rfl)) qi)))))
  (ac (am (i:=6) dc.nd rfl (Or.inl rfl) (tX rfl rfl B.dict rfl B.zip (af (pv 3) (af (pv 2) aH))))
  (ac (am (i:=7) dc.nd rfl (Or.inl rfl) aa)
  (ac (bY PassesOwn.never rfl (vv rfl B.reversed (pv 4)) (bd (i:=8) dc.nd rfl (Or.inl rfl)) (ad (am (i:=7) dc.nd rfl (Or.inl rfl) (ag aN (ag aW (ag bg (pv 7) (pv 1)) (ai fH hr (by decide) rfl (af (pv 8) (af (pv 6) (af (pv 5) aH))))) (pv 5)))))
  (ad (av (pv 7))))))),?_⟩
 have p0:0<p:=by omega
 have vl:=G.tr.length;obtain⟨c,hr1⟩:=hr0.sqB (K:=K);refine⟨_,rfl,gh,_,rfl,zB0 G.hg,rfl,_,_,rfl,_,_,rfl,_,_,rfl,rfl,?_⟩;refine⟨_,rfl,_,rfl,a,r,false,c,_,_,ndL ns pt,rfl,zB0 G.ha,hr1,by rw[zH0,qy pl],cp (by rw[qy pl];omega),fun j kv hj=>?_,fun d hd=>?_⟩
 . have jl:j<ns.length:=by
    have:=(zW0 hj).1
    rw[qy pl]at this;exact this
   have h1:ns[j]?=some ns[j]:=zQ0 jl;have h2:pt[j]?=some (pt[j]'(by omega)):=zQ0 _;rw[zr h1 h2]at hj;cases hj;exact⟨by rw[qD0,h1];rfl,by rw[qD0,h2];rfl⟩
 have Id:=zC0 hd (.dK (eD [] (ndL ns pt)));have Nd:NdAt (upd H d (.dK (eD [] (ndL ns pt)))) d ns pt:=⟨_,aD,Dg nd pl⟩
 generalize upd H d (.dK (eD [] (ndL ns pt)))=H1 at Id Nd;have hb1:=Id _ _ G.hb;refine⟨_,rfl,false,b,_,rfl,zB0 hb1,sE (K:=K) (c:=false) (xs:=tv) (fun i σ H'=>∃(x8:Option V)(t:Int),σ=[some (.ref gh),some (.int s),some (.ref r),some (.ref a),some (.ref b),some (.int p),some (.ref d),some (.int t),x8]/\t=hor s p ((ts.map fun t=>t.worth ns pt p).drop (ts.length-i))/\Same H1 H')
  ⟨_,0,rfl,by rw[Nat.sub_zero,←zH0 (as:=ts) (f:=fun t=>t.worth ns pt p),List.drop_length];rfl,Same.refl _⟩ (fun i σ H' _ hst=>by obtain⟨_,_,_,_,h⟩:=hst;exact zB0 (h _ _ hb1)) ?_ ?_⟩
 . rintro i z σ H2 hi hz ⟨x8,t,rfl,rfl,S2⟩;rw[List.getElem?_reverse hi]at hz;obtain⟨u,hu,Tu⟩:=(G.tr.mono (aY (Id.trans S2))).get hz;obtain⟨uk,ud⟩:=tok u (qE0 hu);have hr2:=kH (s:=s) p0 ((ts.map fun t=>t.worth ns pt p).drop (ts.length-i));refine⟨_,rfl,_,rfl,_,_,rfl,rfl,.inl ⟨by omega,by omega⟩,_,rfl,_,rfl,_,rfl,z,u,d,ns,pt,p,rfl,Tu,uk,ud,Nd.same S2,pl,p1,p40,po,fun H3 S3=>?_⟩;refine⟨_,_,rfl,rfl,_,rfl,_,_,rfl,rfl,p0,?_⟩;refine⟨_,_,rfl,?_,S2.trans S3⟩;have hj:ts.length-1-i<(ts.map fun t=>t.worth ns pt p).length:=by rw[zH0];omega
   have ed:(ts.map fun t=>t.worth ns pt p).drop (ts.length-(i+1))=u.worth ns pt p::(ts.map fun t=>t.worth ns pt p).drop (ts.length-i):=by
    have e1:ts.length-(i+1)=ts.length-1-i:=by omega
    have e2:ts.length-i=ts.length-1-i+1:=by omega
    rw[e1,e2,List.drop_eq_getElem_cons hj]
    congr 1
    rw[List.getElem_map];rw[vl]at hu;rw[(zW0 hu).2]
   rw[ed];rfl
 . rintro σ H2 ⟨x8,t,rfl,rfl,S2⟩;rw[vl,Nat.sub_self,List.drop_zero];exact⟨_,rfl,q _ (Id.trans S2)⟩
def gj:Nat->List (List Int)
 | 0=>[[]]
 | n+1=>(gj n).map (·++[0])++(gj n).map (·++[1])
theorem kP:∀n,(gj n).length=2 ^ n
 | 0=>rfl
 | n+1=>by
   show((gj n).map (·++[0])++(gj n).map (·++[1])).length=_;rw[zL0,zH0,zH0,kP n,Nat.pow_succ];omega
theorem jr:∀(n:Nat)(s:List Int),s∈gj n->s.length=n/\∀x∈s,x=0∨x=1
 | 0,s,h=>by
   rw[zM0 h];exact⟨rfl,fun x hx=>by cases hx⟩
 | n+1,s,h=>by
   have cl:∀(z:Int),(z=0∨z=1)->s∈(gj n).map (·++[z])->s.length=n+1/\∀x∈s,x=0∨x=1:=fun z hz hm=>by
    obtain⟨t,ht,rfl⟩:=List.mem_map.mp hm;obtain⟨l,o⟩:=jr n t ht;refine⟨by rw[zL0,l];rfl,fun x hx=>?_⟩;rcases zT0 hx with hx | hx
    . exact o x hx
    . rw[zM0 hx];exact hz
   rcases zT0 h with h | h
   . exact cl 0 (.inl rfl) h
   . exact cl 1 (.inr rfl) h
theorem qS{α:Type}(F G:α->Int):∀l:List α,(l.map fun s=>F s+G s).sum=(l.map F).sum+(l.map G).sum
 | []=>rfl
 | a::l=>by
   simp only[qA0,List.sum_cons,qS F G l];omega
theorem oR(F:List Int->Int):∀l:List (List Int),((l.flatMap fun s=>[s++[0],s++[1]]).map F).sum=(l.map fun s=>F (s++[0])+F (s++[1])).sum
 | []=>rfl
 | a::l=>by
   rw[List.flatMap_cons,zK0,List.sum_append,oR F l]
   simp
theorem kO:∀(n:Nat)(F:List Int->Int),((gj n).map F).sum=((bJ n).map F).sum
 | 0,F=>by simp [gj,bJ]
 | n+1,F=>by
   have e1:((bJ (n+1)).map F).sum=((bJ n).map fun s=>F (s++[0])+F (s++[1])).sum:=oR F _;rw[e1,qS (fun s=>F (s++[0])) (fun s=>F (s++[1]))];show(((gj n).map (·++[0])++(gj n).map (·++[1])).map F).sum=_;rw[zK0,List.sum_append,List.map_map,List.map_map];rw[←kO n (fun s=>F (s++[0])),←kO n (fun s=>F (s++[1]))];rfl
theorem CO{i:Nat}(h:i<=6):2 ^ i<=64:=by
 have:i=0∨i=1∨i=2∨i=3∨i=4∨i=5∨i=6:=by omega
 rcases this with h | h | h | h | h | h | h <;> subst h <;> decide
def tI:Sp:=fun vs H Q _=>∃n:Int,vs=[.int n]/\0<=n/\n<=6/\∀(r:Addr)(H':Hp),H r=none->Same H H'->qL H' r (gj n.toNat)->Q (.ref r) H'
theorem kX:FnScope ["_law_many","_law_rows","_law_k"] ["_law_many"] (ae jB):=⟨rfl,rfl,rfl,by decide +kernel,rfl,by decide +kernel,by decide +kernel⟩
theorem TupsAt.app{H:Hp}:∀{rs us:List V}{ss tt:List (List Int)},TupsAt H rs ss->TupsAt H us tt->TupsAt H (rs++us) (ss++tt)
 | _,_,_,_,.nil,h=>h
 | _,_,_,_,.cons a r,h=>.cons a (TupsAt.app r h)
theorem zc {f:Addr} {fd:FuncData} (F:Fun K "_law_all" "_law_all" jB f fd) (B:Bl mg):FnOk P w K mg base CX0 1 f fd ["_law_many"] tI:=by
 refine F.ok kX (fun vs H Q E h=>?_) (fun cdv A outer s H vs Q E hr h=>?_)
 . obtain⟨n,rfl,_⟩:=h;rfl
 obtain ⟨n,rfl,n0,n6,q⟩:=h;refine⟨_,(ac (am (i:=1) kX.nd rfl (Or.inl rfl) (bL (af (aX aH) aH)))
  (ac (bY PassesOwn.never rfl (bt rfl B.range (af (pv 0) aH)) (bd (i:=2) kX.nd rfl (Or.inl rfl)) (ad (am (i:=1) kX.nd rfl (Or.inl rfl) (ag fX
   (cq (N:=[]) (ix:=[]) (cl:=[]) rfl (CompScope.closed (by with_unfolding_all rfl) (by decide) rfl (by decide) rfl (by with_unfolding_all rfl)) rfl (dZ (pv 1)) (fun _ _ _=>cU (ag (jJ K) (pv 0) (aX (af aa aH)))))
   (cq (N:=[]) (ix:=[]) (cl:=[]) rfl (CompScope.closed (by with_unfolding_all rfl) (by decide) rfl (by decide) rfl (by with_unfolding_all rfl)) rfl (dZ (pv 1)) (fun _ _ _=>cU (ag (jJ K) (pv 0) (aX (af aa aH)))))))))
  (ad (av (pv 1))))),?_⟩
 refine⟨(by show 0<=sizeLine;decide),fun p hp=>?_⟩;have Ip:=zC0 hp (.tup []);have gp:upd H p (.tup []) p=some (.tup []):=aD;generalize upd H p (.tup [])=H1 at Ip gp;refine⟨(by show 1<=sizeLine;decide),fun a ha=>?_⟩;have Ia:=zC0 ha (.lst [.ref p]);have ga:upd H1 a (.lst [.ref p]) a=some (.lst [.ref p]):=aD;generalize upd H1 a (.lst [.ref p])=H2 at Ia ga;have S02:=Ip.trans Ia;refine⟨_,rfl,n,rfl,by omega,by omega,cS (fun i σ H'=>∃(r:Addr)(x2:Option V),σ=[some (.int n),some (.ref r),x2]/\H r=none/\Same H H'/\qL H' r (gj i)) ⟨a,_,rfl,Ip.free ha,S02,[.ref p],ga,.cons ⟨p,rfl,Ia _ _ gp⟩ .nil⟩ ?_ ?_⟩
 . rintro i σ H3 hi ⟨r,x2,rfl,r0,S3,rs,hrs,T⟩;have i6:i<6:=by omega
   have rl:=T.length;have sl:=kP i;have s64:=CO (i:=i) (by omega);have half:∀(z:Int)(H4:Hp)(Q':VK),Same H3 H4->(∀D us H5,H4 D=none->Same H4 H5->H5 D=some (.lst us)->TupsAt H5 us ((gj i).map (·++[z]))->Q' (.ref D) H5)->∀D,H4 D=none->oz (Itl K r) D [] (tB0 (tOp (fun x y H Q=>rE K x y H Q∨mZ K x y H Q) (qQ 0) (Ck (jY (tC (.int z)) tE)))) [some (.int n),some (.ref r),some (.int (0+(i:Int)))] H4 Q':=by
    intro z H4 Q' S4 q' D hD;refine iB (K:=K) (xs:=rs) (fun j H'=>∃us,H' D=some (.lst us)/\us.length=j/\Same H4 H'/\TupsAt H' us (((gj i).take j).map (·++[z]))) ⟨[],by rw[aD],rfl,zC0 hD _,.nil⟩ (fun j H' _ hst=>by obtain⟨_,_,_,h,_⟩:=hst;exact zE0 (h _ _ (S4 _ _ hrs))) ?_ ?_
    . rintro j v H5 hv ⟨us,hD5,ul,S5,TU⟩;have hj:=(zW0 hv).1;obtain⟨st,hst,t,rfl,ht⟩:=(T.mono (aY (S4.trans S5))).get hv;have stl:=(jr i st (qE0 hst)).1;refine⟨_,rfl,(by show 1<=sizeLine;decide),fun u hu=>?_⟩;have I6:=zC0 hu (.tup [.int z]);have g6:upd H5 u (.tup [.int z]) u=some (.tup ([z].map V.int)):=aD;generalize upd H5 u (.tup [.int z])=H6 at I6 g6;refine kK (I6 _ _ ht) g6 (by show st.length+1<=100;omega) fun t1 H7 S7 h7=>?_
      have S57:=I6.trans S7;have hD7:=S57 _ _ hD5;have kT:bv H7 (upd H7 D (.lst (us++[.ref t1]))):=gB hD7;refine⟨_,hD7,aS (by omega),Nx.of hj ⟨us++[.ref t1],aD,by rw[zL0,ul];rfl,fun b' o' e'=>?_,?_⟩⟩
      . rw[ao (aO e' hD)];exact S57 _ _ (S5 _ _ e')
      . rw[qJ0,hst,zK0];exact((TU.mono (aY S57)).mono kT).app (.cons ⟨t1,rfl,kT _ _ h7⟩ .nil)
    . rintro H5 ⟨us,hD5,ul,S5,TU⟩;rw[rl,qI0]at TU;exact q' D us H5 hD S5 hD5 TU
   refine⟨_,rfl,r,rfl,⟨_,zE0 hrs⟩,fun D hD=>half 0 H3 _ (Same.refl _) (fun D1 us H4 D10 S4 hD1 TU=>?_) D hD⟩;refine⟨_,rfl,r,rfl,⟨_,zE0 (S4 _ _ hrs)⟩,fun D' hD'=>half 1 H4 _ S4 (fun D2 vs H5 D20 S5 hD2 TV=>?_) D' hD'⟩;have hD15:=S5 _ _ hD1;have l1:=TU.length;have l2:=TV.length;rw[zH0,sl]at l1 l2;refine⟨D1,D2,_,_,rfl,rfl,hD15,hD2,cp (by omega),fun l hl=>?_⟩;have Il:=zC0 hl (.lst (us++vs));exact⟨l,_,rfl,(S3.trans (S4.trans S5)).free hl,S3.trans (S4.trans (S5.trans Il)),_,aD,(TU.mono (aY (S5.trans Il))).app (TV.mono (aY Il))⟩
 . rintro σ H3 ⟨r,x2,rfl,r0,S3,R⟩;exact⟨_,rfl,q r H3 r0 S3 R⟩
theorem vC(p w:Int)(h0:0<=w)(h1:w<p):hor 0 p [w]=w:=by
 show(0*0+w) % p=w;rw[Int.mul_zero,Int.zero_add];exact qN0 h0 h1
def xW:Sp:=fun vs H Q _=>∃(gh a b r:Addr)(ns:List Str)(tv:List V)(ts:List Tr)(cs:List Int)(s p:Int),vs=[.ref gh,.int s,.ref r]/\GmT H gh a b ns tv ts p/\ns.Nodup/\ns.length<=6/\(∀t∈ts,t.ok ns/\t.depth<=10)/\IntsAt H r cs/\cs.length<=ns.length/\ft cs p/\1<p/\p<2 ^ 40/\∀H',Same H H'->Q (.int (ji ns ts s p cs)) H'
theorem D4:FnScope ["_law_game","_law_s","_law_ahead","_law_rest"] ["_law_game","_law_s","_law_ahead"] (ae jz):=⟨rfl,rfl,rfl,by decide +kernel,rfl,by decide +kernel,by decide +kernel⟩
theorem yY {f:Addr} {fd:FuncData} (F:Fun K "_law_sum" "_law_sum" jz f fd) (B:Bl mg) (iD:Cal P w K mg base 1 "_law_all" ["_law_many"] tI) (de:Cal P w K mg base 13 "_law_mixed" ["_law_game","_law_s","_law_point"] pV):FnOk P w K mg base CX0 14 f fd ["_law_game","_law_s","_law_ahead"] xW:=by
 refine F.ok D4 (fun vs H Q E h=>?_) (fun cdv A outer s H vs Q E hr h=>?_)
 . obtain⟨gh,a,b,r,ns,tv,ts,cs,s,p,rfl,_⟩:=h;rfl
 obtain ⟨gh,a,b,r,ns,tv,ts,cs,s,p,rfl,G,nd,n6,tok,hr0,cl,po,p1,p40,q⟩:=h;refine⟨_,(ac (am (i:=3) D4.nd rfl (Or.inl rfl) (ai iD hr (by decide) rfl (af (ag aV (aE aB rfl B.len PySem.boot_len (af (aq aC (pv 0) aa (fun _ _=>rfl)) aH)) (aE aB rfl B.len PySem.boot_len (af (pv 2) aH))) aH)))
  (ad (av (ag aN (aE (ow rfl) rfl B.sum PyProof.Rows.boot_sum (af (cq (N:=["_law_s","_law_game","_law_ahead"]) (ix:=[1,0,2]) rfl
   (CompScope.three (by with_unfolding_all rfl) (by decide) rfl (by decide) rfl (by decide +kernel) rfl (by with_unfolding_all rfl) (by with_unfolding_all rfl) (by with_unfolding_all rfl) (by with_unfolding_all rfl) (by with_unfolding_all rfl) rfl rfl (by with_unfolding_all rfl) rfl rfl (by with_unfolding_all rfl) rfl rfl) rfl
   (dZ (pv 3)) (fun _ _ _=>cU (ai de hr (by decide) rfl (af (pv 2) (af (pv 1) (af (ag (jJ K) (bF (ou K) rfl B.tuple bH (af (pv 3) aH)) (pv 0)) aH)))))) aH)) (aq aC (pv 0) aa (fun _ _=>rfl)))))),?_⟩
 have p0:0<p:=by omega
 obtain⟨c,hr1⟩:=hr0.sqB (K:=K);have hrl:SqL K H r (cs.map V.int)∨SqT K H r (cs.map V.int):=hr0.elim (fun e=>.inl (zE0 e)) (fun e=>.inr (zB0 e));refine⟨_,rfl,gh,_,0,_,rfl,rfl,zB0 G.hg,rfl,a,_,rfl,.inr (zB0 G.ha),_,rfl,r,_,rfl,hrl,_,_,rfl,rfl,?_⟩;rw[zH0,zH0];have en:=lenB cl n6;refine⟨_,rfl,en.1,en.2.1,fun l H1 l0 S1 R1=>?_⟩;rw[en.2.2]at R1;obtain⟨rs,hrs,T⟩:=R1;have rl:=T.length;have al:=kP (ns.length-cs.length);have s64:=CO (i:=ns.length-cs.length) (by omega);refine⟨_,rfl,l,rfl,⟨_,zE0 hrs⟩,fun D hD=>?_⟩;refine iB (K:=K) (xs:=rs) (fun j H'=>H' D=some (.lst ((((gj (ns.length-cs.length)).take j).map fun st=>hor s p (ts.map fun t=>t.worth ns (cs++st) p)).map V.int))/\Same H1 H') ⟨by rw[aD];rfl,zC0 hD _⟩ (fun j H' _ h=>zE0 (h.2 _ _ hrs)) ?_ ?_
 . rintro j v H2 hv ⟨hD2,S2⟩;have hj:=(zW0 hv).1;obtain⟨st,hst,t,rfl,ht⟩:=(T.mono (aY S2)).get hv;obtain⟨stl,s01⟩:=jr _ st (qE0 hst);have S02:=S1.trans S2;have app:∀H',Same H2 H'->∃ys,H' D=some (.lst ys)/\ys.length<sizeLine/\Nx rs.length j (fun j H'=>H' D=some (.lst ((((gj (ns.length-cs.length)).take j).map fun st=>hor s p (ts.map fun t=>t.worth ns (cs++st) p)).map V.int))/\Same H1 H') (upd H' D (.lst (ys++[.int (hor s p (ts.map fun t=>t.worth ns (cs++st) p))]))):=fun H' S'=>by
    refine⟨_,S' _ _ hD2,?_,Nx.of hj ⟨?_,fun b' o' e'=>?_⟩⟩
    . rw[zH0,zH0,qM0];exact aS (by omega)
    . rw[aD,qJ0,hst,zK0,zK0];rfl
    . rw[ao (aO e' hD)];exact S' _ _ (S2 _ _ e')
   rcases hr0 with e | e
   . refine ⟨_,rfl,_,rfl,_,rfl,r,_,rfl,.inl ⟨zE0 (S02 _ _ e),fun r2 hr2=>⟨_,rfl,?_⟩⟩⟩;have Ir:=zC0 hr2 (.tup (cs.map V.int));refine kK aD (Ir _ _ ht) (by omega) fun t1 H4 S4 h4=>?_
     have S24:=Ir.trans S4;exact⟨gh,a,b,t1,ns,tv,ts,cs++st,s,p,rfl,G.mono (aY (S02.trans S24)),nd,by omega,tok,.inr h4,by rw[zL0];omega,CH po p1 s01,p1,p40,fun H' S'=>app H' (S24.trans S')⟩
   . refine ⟨_,rfl,_,rfl,_,rfl,r,_,rfl,.inr ⟨zB0 (S02 _ _ e),⟨_,rfl,?_⟩⟩⟩;refine kK (S02 _ _ e) ht (by omega) fun t1 H4 S24 h4=>?_
     exact⟨gh,a,b,t1,ns,tv,ts,cs++st,s,p,rfl,G.mono (aY (S02.trans S24)),nd,by omega,tok,.inr h4,by rw[zL0];omega,CH po p1 s01,p1,p40,fun H' S'=>app H' (S24.trans S')⟩
 . rintro H2 ⟨hD2,S2⟩;rw[rl,qI0]at hD2;have hor_r:=fun st:List Int=>kH (s:=s) (p:=p) p0 (ts.map fun t=>t.worth ns (cs++st) p)
   have sr:=pQ (p:=p) p0 (fun st:List Int=>hor s p (ts.map fun t=>t.worth ns (cs++st) p)) hor_r (gj (ns.length-cs.length));have bound:p*((gj (ns.length-cs.length)).length:Int)<=p*64:=qX0 (by omega) (by omega);refine⟨D,_,rfl,zE0 hD2,fun n hn=>?_,by omega,?_⟩
   . obtain⟨st,_,rfl⟩:=List.mem_map.mp hn;exact(hor_r st).1
   refine ⟨_,rfl,gh,_,2,_,rfl,rfl,zB0 (S2 _ _ (S1 _ _ G.hg)),rfl,_,_,rfl,rfl,p0,?_⟩;have e:(((gj (ns.length-cs.length)).map fun st=>hor s p (ts.map fun t=>t.worth ns (cs++st) p)).sum) % p=ji ns ts s p cs:=by
    rw[kO];unfold ji;rw[←pR p (fun st=>ln s (ts.map fun t=>t.worth ns (cs++st) p))]
    congr 3
    funext st
    exact nV s p _
   show Q (.int (_ % p)) _;rw[e];exact q _ (S1.trans S2)
theorem qG{ns:List Str}{t:Tr}{p:Int}(hp:1<p)(ok:t.ok ns):∀l:List (List Int),(∀st∈l,st.length=ns.length/\∀x∈st,x=0∨x=1)->(l.map fun st=>hor 0 p [t.worth ns st p]).sum=((l.filter fun st=>t.holds ns st).length:Int)
 | [],_=>rfl
 | st::l,h=>by
   obtain⟨h1,h2⟩:=h st qG0;have w:=fD hp h2 h1 t ok;rw[qA0,List.sum_cons,qG hp ok l (fun u hu=>h u (qL0 _ hu)),w];cases c:t.holds ns st with
   | true=>
     rw[zF0 rfl,vC p 1 (by decide) hp,List.filter_cons,zF0 c,qH0];omega
   | false=>
     rw[zD0 (by decide),vC p 0 (by decide) (by omega),List.filter_cons,zD0 (by rw[c];decide)];omega
def yg:Sp:=fun vs H Q _=>∃(gh a b:Addr)(ns:List Str)(tv:List V)(ts:List Tr)(p:Int)(k:Nat)(t:Tr),vs=[.ref gh,.int (k:Int)]/\GmT H gh a b ns tv ts p/\ns.Nodup/\ns.length<=6/\ts[k]?=some t/\t.ok ns/\t.depth<=10/\∀H',Same H H'->Q (.int (cnt t ns:Int)) H'
theorem uQ:FnScope ["_law_game","_law_k","_law_one"] ["_law_game","_law_k"] (ae gx):=⟨rfl,rfl,rfl,by decide +kernel,rfl,by decide +kernel,by decide +kernel⟩
theorem ue {f:Addr} {fd:FuncData} (F:Fun K "_law_count" "_law_count" gx f fd) (B:Bl mg) (iD:Cal P w K mg base 1 "_law_all" ["_law_many"] tI) (de:Cal P w K mg base 13 "_law_mixed" ["_law_game","_law_s","_law_point"] pV):FnOk P w K mg base CX0 14 f fd ["_law_game","_law_k"] yg:=by
 refine F.ok uQ (fun vs H Q E h=>?_) (fun cdv A outer s H vs Q E hr h=>?_)
 . obtain⟨gh,a,b,ns,tv,ts,p,k,t,rfl,_⟩:=h;rfl
 obtain ⟨gh,a,b,ns,tv,ts,p,k,t,rfl,G,nd,n6,ht,tk,td,q⟩:=h;refine⟨_,(ac (am (i:=2) uQ.nd rfl (Or.inr rfl) (aX (af (aq aC (pv 0) aa (fun _ _=>rfl)) (af (aX (af (aq aC (aq aC (pv 0) aa (fun _ _=>rfl)) (pv 1) (fun _ _=>rfl)) aH)) (af aa aH)))))
  (ad (av (aE (ow rfl) rfl B.sum PyProof.Rows.boot_sum (af (cq (N:=["_law_one"]) (ix:=[2]) rfl
   (CompScope.one (by with_unfolding_all rfl) (by decide) rfl (by decide) rfl (by decide +kernel) (by with_unfolding_all rfl) (by with_unfolding_all rfl) (by with_unfolding_all rfl) rfl rfl) rfl
   (dZ (ai iD hr (by decide) rfl (af (aE aB rfl B.len PySem.boot_len (af (aq aC (pv 0) aa (fun _ _=>rfl)) aH)) aH))) (fun _ _ _=>cU (ai de hr (by decide) rfl (af (pv 1) (af aa (af (pv 0) aH)))))) aH))))),?_⟩
 have vl:=G.tr.length;have hk:k<ts.length:=(zW0 ht).1;have hv:tv[k]?=some (tv[k]'(by omega)):=zQ0 _;generalize tv[k]'(by omega)=v at hv;obtain⟨u,hu,Tu⟩:=G.tr.get hv;rw[ht]at hu;cases hu;refine⟨_,rfl,gh,_,0,_,rfl,rfl,zB0 G.hg,rfl,_,rfl,gh,_,1,_,rfl,rfl,zB0 G.hg,rfl,_,rfl,b,_,_,v,rfl,rfl,zB0 G.hb,cg hv,(by show 1<=sizeLine;decide),fun b2 hb2=>⟨(by show 3<=sizeLine;decide),fun o ho=>?_⟩⟩;have I1:=zC0 hb2 (.tup [v]);have I2:=zC0 ho (.tup [.ref a,.ref b2,.int 999983]);have J2:=I1.trans I2;have G2:GmT (upd (upd H b2 (.tup [v])) o (.tup [.ref a,.ref b2,.int 999983])) o a b2 ns [v] [t] 999983:=⟨aD,J2 _ _ G.ha,I2 _ _ aD,.cons (Tu.mono (aY J2)) .nil⟩
 generalize upd (upd H b2 (.tup [v])) o (.tup [.ref a,.ref b2,.int 999983])=H2 at J2 G2;refine⟨_,rfl,gh,_,0,_,rfl,rfl,zB0 (J2 _ _ G.hg),rfl,a,_,rfl,.inr (zB0 (J2 _ _ G.ha)),_,rfl,?_⟩;rw[zH0];refine⟨by omega,by omega,fun l H3 l0 S3 R3=>?_⟩;rw[qO0]at R3;obtain⟨rs,hrs,T⟩:=R3;have rl:=T.length;have al:=kP ns.length;have s64:=CO (i:=ns.length) n6;refine⟨l,rfl,⟨_,zE0 hrs⟩,fun D hD=>?_⟩;refine iB (K:=K) (xs:=rs) (fun j H'=>H' D=some (.lst ((((gj ns.length).take j).map fun st=>hor 0 999983 [t.worth ns st 999983]).map V.int))/\Same H3 H') ⟨by rw[aD];rfl,zC0 hD _⟩ (fun j H' _ h=>zE0 (h.2 _ _ hrs)) ?_ ?_
 . rintro j x H4 hx ⟨hD4,S4⟩;have hj:=(zW0 hx).1;obtain⟨st,hst,r,rfl,hr0⟩:=(T.mono (aY S4)).get hx;obtain⟨stl,s01⟩:=jr _ st (qE0 hst);have po:ft st 999983:=fun x hx=>by rcases s01 x hx with e | e <;> rw[e] <;> decide
   refine⟨_,rfl,_,rfl,o,a,b2,r,ns,[v],[t],st,0,999983,rfl,G2.mono (aY (S3.trans S4)),nd,by omega,(fun u hu=>by rw[zM0 hu];exact⟨tk,td⟩),.inr hr0,stl,po,by decide,by decide,fun H5 S5=>?_⟩;refine⟨_,S5 _ _ hD4,?_,Nx.of hj ⟨?_,fun b' o' e'=>?_⟩⟩
   . rw[zH0,zH0,qM0];exact aS (by omega)
   . rw[aD,qJ0,hst,zK0,zK0];rfl
   . rw[ao (aO e' hD)];exact S5 _ _ (S4 _ _ e')
 . rintro H4 ⟨hD4,S4⟩;rw[rl,qI0]at hD4;have cs:=qG (p:=999983) (by decide) tk (gj ns.length) (jr ns.length);have e1:(((gj ns.length).filter fun st=>t.holds ns st).length:Int)=(cnt t ns:Int):=by
    rw[←cs,kO];exact qG (by decide) tk (bJ ns.length) (fun st hst=>⟨dF _ _ hst,kf _ _ hst⟩)
   have fl:=List.length_filter_le (fun st=>t.holds ns st) (gj ns.length);refine⟨D,_,rfl,zE0 hD4,fun n hn=>?_,by rw[cs];omega,?_⟩
   . obtain⟨st,_,rfl⟩:=List.mem_map.mp hn;exact(kH (by decide) _).1
   . rw[cs,e1];exact q _ (J2.trans (S3.trans S4))
end
theorem nd_at{ns:List Str}(nd:ns.Nodup){i j:Nat}{z:Str}(hi:ns[i]?=some z)(hj:ns[j]?=some z):i=j:=by
 obtain⟨h1,e1⟩:=zW0 hi;obtain⟨h2,e2⟩:=zW0 hj;rcases Nat.lt_trichotomy i j with h | h | h
 . exact absurd (e1.trans e2.symm) (List.pairwise_iff_getElem.mp nd i j h1 h2 h)
 . exact h
 . exact absurd (e2.trans e1.symm) (List.pairwise_iff_getElem.mp nd j i h2 h1 h)
theorem yu{pt:List Int}{j i:Nat}{x:Int}(hj:j<pt.length):(pt.set j x).getD i 0=if i=j then x else pt.getD i 0:=by
 rw[qS0,qS0,List.getElem?_set]
 by_cases c:j=i
 . subst c
   simp [hj]
 . rw[zD0 c,zD0 (Ne.symm c)]
theorem iE{ns:List Str}{pt:List Int}{p:Int}{j:Nat}{y:Str}(hy:ns[j]?=some y)(hl:pt.length=ns.length)(nd:ns.Nodup):∀t:Tr,t.ok ns->∃f:Int->Int,IsPoly (t.names.count y+1) f/\∀x:Int,p ∣ t.worth ns (pt.set j x) p-f x
 | .is z,ok=>by
   have jl:j<ns.length:=(zW0 hy).1;obtain⟨i,hi,il⟩:=fk ok;have hz:=(nu hi).1;have e:∀x,(Tr.is z).worth ns (pt.set j x) p=if i=j then x else pt.getD i 0:=fun x=>by
    show(match cO z ns with | some j'=>(pt.set j x).getD j' 0 | none=>0)=_;rw[hi];exact yu (by omega)
   by_cases c:i=j
   . subst c;have ez:z=y:=zR0 (hz.symm.trans hy);subst ez;refine⟨fun x=>x,?_,fun x=>⟨0,by rw[e x,zF0 rfl];simp⟩⟩
     have:(Tr.is z).names.count z=1:=by simp [Tr.names]
     rw[this];exact IsPoly.self
   . have ez:z≠y:=fun h=>c (by
      subst h;exact nd_at nd hz hy)
     refine⟨fun _=>pt.getD i 0,?_,fun x=>⟨0,by rw[e x,zD0 c];simp⟩⟩;exact IsPoly.const _ _
 | .yes,_=>⟨fun _=>1,IsPoly.const _ _,fun x=>⟨0,by show(1:Int)-1=_;simp⟩⟩
 | .no,_=>⟨fun _=>0,IsPoly.const _ _,fun x=>⟨0,by show(0:Int)-0=_;simp⟩⟩
 | .not a,ok=>by
   obtain⟨f,hf,h⟩:=iE (p:=p) hy hl nd a ok;refine⟨fun x=>1+(-1)*f x,(IsPoly.const 1 _).add (hf.mul (-1)),fun x=>?_⟩;obtain⟨k,hk⟩:=h x;obtain⟨m,hm⟩:=oi p (1-a.worth ns (pt.set j x) p);show p ∣ (1-a.worth ns (pt.set j x) p) % p-_;exact⟨m-k,by grind⟩
 | .bin o a b,⟨_,ok1,ok2⟩=>by
   obtain ⟨f,hf,h⟩:=iE (p:=p) hy hl nd a ok1;obtain⟨g,hg,h'⟩:=iE (p:=p) hy hl nd b ok2;have ec:(Tr.bin o a b).names.count y+1=a.names.count y+b.names.count y+1:=by
    show(a.names++b.names).count y+1=_;rw[List.count_append]
   rw [ec];have hF:IsPoly (a.names.count y+b.names.count y+1) f:=hf.upTo _ (by omega);have hG:IsPoly (a.names.count y+b.names.count y+1) g:=hg.upTo _ (by omega);have hP:=hf.prod hg;have fin:∀(c0 c1 c2:Int),(∀u v:Int,dh p o u v=(c0+c1*(u+v)+c2*(u*v)) % p)->∃F:Int->Int,IsPoly (a.names.count y+b.names.count y+1) F/\∀x:Int,p ∣ (Tr.bin o a b).worth ns (pt.set j x) p-F x:=fun c0 c1 c2 hJ=>by
    refine⟨fun x=>c0+c1*(f x+g x)+c2*(f x*g x),((IsPoly.const c0 _).add ((hF.add hG).mul c1)).add (hP.mul c2),fun x=>?_⟩;obtain⟨k,hk⟩:=h x;obtain⟨l,hl⟩:=h' x;show p ∣ dh p o (a.worth ns (pt.set j x) p) (b.worth ns (pt.set j x) p)-_;rw[hJ];generalize a.worth ns (pt.set j x) p=u at *
    generalize b.worth ns (pt.set j x) p=v at *
    obtain⟨m,hm⟩:=oi p (c0+c1*(u+v)+c2*(u*v));exact⟨m+c1*(k+l)+c2*(k*v+f x*l),by grind⟩
   by_cases c1:o="and"
   . exact fin 0 0 1 fun u v=>by unfold dh;rw[zF0 c1];congr 1;grind
   by_cases c2:o="or"
   . exact fin 0 1 (-1) fun u v=>by unfold dh;rw[zD0 c1,zF0 c2];congr 1;grind
   by_cases c3:o="odd"
   . exact fin 0 1 (-2) fun u v=>by unfold dh;rw[zD0 c1,zD0 c2,zF0 c3];congr 1;grind
   . exact fin 1 (-1) 2 fun u v=>by unfold dh;rw[zD0 c1,zD0 c2,zD0 c3];congr 1;grind
theorem sj{ns:List Str}{pt:List Int}{p s:Int}{j D:Nat}{y:Str}(hy:ns[j]?=some y)(hl:pt.length=ns.length)(nd:ns.Nodup):∀ts:List Tr,(∀t∈ts,t.ok ns/\t.names.count y<=D)->∃f:Int->Int,IsPoly (D+1) f/\∀x:Int,p ∣ ln s (ts.map fun t=>t.worth ns (pt.set j x) p)-f x
 | [],_=>⟨fun _=>0,IsPoly.const _ _,fun x=>⟨0,by simp [ln]⟩⟩
 | t::ts,h=>by
   obtain⟨f,hf,h1⟩:=iE (p:=p) hy hl nd t (h t qG0).1;obtain⟨g,hg,h2⟩:=sj (p:=p) (s:=s) hy hl nd ts fun u hu=>h u (qL0 _ hu)
   have hd:=(h t qG0).2;refine⟨fun x=>f x+s*g x,(hf.upTo _ (by omega)).add (hg.mul s),fun x=>?_⟩;obtain⟨k,hk⟩:=h1 x;obtain⟨l,hl⟩:=h2 x;show p ∣ t.worth ns (pt.set j x) p+s*ln s (ts.map fun t=>t.worth ns (pt.set j x) p)-_;exact⟨k+s*l,by grind⟩
theorem xF{p:Int}(hp:Pm p){xs:List Int}{f:Int->Int}(hn:(xs.length:Int)<=p)(hf:IsPoly xs.length f)(h:∀k,k<xs.length->p ∣ xs.getD k 0-f k)(r:Int):val p xs r=f r % p:=
 md (su hp hn (sX hp hn) hf h r)
theorem DB{ts:List Tr}{x:Str}:∀t∈ts,t.names.count x<=(bK ts x).toNat:=fun t ht=>by
 have:=Bc (d:=0) (List.mem_map.mpr ⟨t,ht,rfl⟩:((t.names.count x:Nat):Int)∈ts.map fun t=>(t.names.count x:Int))
 unfold bK;omega
theorem vi:∀(cs st:List Int)(x z:Int),(cs++[z]++st).set cs.length x=cs++[x]++st
 | [],_,_,_=>rfl
 | a::cs,st,x,z=>congrArg (a::·) (vi cs st x z)
theorem qT{ns:List Str}{cs:List Int}{p s:Int}{D:Nat}{y:Str}{ts:List Tr}(hy:ns[cs.length]?=some y)(nd:ns.Nodup)(h:∀t∈ts,t.ok ns/\t.names.count y<=D):∀l:List (List Int),(∀st∈l,cs.length+1+st.length=ns.length) ->
 ∃f:Int->Int,IsPoly (D+1) f/\∀x:Int,p ∣ (l.map fun st=>ln s (ts.map fun t=>t.worth ns (cs++[x]++st) p)).sum-f x
 | [],_=>⟨fun _=>0,IsPoly.const _ _,fun x=>⟨0,by simp⟩⟩
 | st::l,hs=>by
   obtain⟨f,hf,h1⟩:=sj (p:=p) (s:=s) (pt:=cs++[0]++st) hy (by rw[zL0,zL0,qQ0];exact hs st qG0) nd ts h;obtain⟨g,hg,h2⟩:=qT (p:=p) (s:=s) hy nd h l fun u hu=>hs u (qL0 _ hu)
   refine⟨fun x=>f x+g x,hf.add hg,fun x=>?_⟩;obtain⟨k,hk⟩:=h1 x;rw[vi]at hk;obtain⟨m,hm⟩:=h2 x;refine⟨k+m,?_⟩;simp only[qA0,List.sum_cons];rw[Int.mul_add];omega
theorem oW:∀(n:Nat)(s:List Int),s∈bJ n->s.length=n
 | 0,s,h=>by rw[zM0 h];rfl
 | n+1,s,h=>by
   obtain⟨t,ht,h⟩:=List.mem_flatMap.mp h
   have:=oW n t ht
   rcases qC0 h with h | h
   . rw[h,zL0,this];rfl
   . rw[zM0 h,zL0,this];rfl
theorem Al{ns:List Str}{ts:List Tr}{s p:Int}{cs:List Int}{y:Str}(hp:Pm p)(hy:ns[cs.length]?=some y)(nd:ns.Nodup)(ok:∀t∈ts,t.ok ns)(tne:ts≠[])(dp:bK ts y<p)(r:Int) :
 val p (iS ns ts s p cs (bK ts y+1).toNat) r=ji ns ts s p (cs++[r]):=by
 have cl:cs.length<ns.length:=(zW0 hy).1;have d0:=sK (x:=y) tne;obtain⟨f,hf,h⟩:=qT (p:=p) (s:=s) hy nd (fun t ht=>⟨ok t ht,DB t ht⟩) (bJ (ns.length-(cs.length+1))) fun st hst=>by
  have:=oW _ _ hst
  omega
 have ll:(iS ns ts s p cs (bK ts y+1).toNat).length=(bK ts y).toNat+1:=by
  unfold iS;rw[zH0,qR0];omega
 have eq:∀x:Int,ji ns ts s p (cs++[x])=((bJ (ns.length-(cs.length+1))).map fun st=>ln s (ts.map fun t=>t.worth ns (cs++[x]++st) p)).sum % p:=fun x=>by
  unfold ji;rw[zL0,qQ0]
 rw [xF hp (f:=f) (by rw[ll];omega) (by rw[ll];exact hf) (fun k hk=>by
  have e:(iS ns ts s p cs (bK ts y+1).toNat).getD k 0=ji ns ts s p (cs++[(k:Int)]):=by
   unfold iS at hk ⊢;rw[zH0,qR0]at hk;rw[qS0,qD0,List.getElem?_range hk];rfl
  rw[e,eq];obtain⟨a,ha⟩:=h k;obtain⟨b,hb⟩:=oi p ((bJ (ns.length-(cs.length+1))).map fun st=>ln s (ts.map fun t=>t.worth ns (cs++[(k:Int)]++st) p)).sum;exact⟨a+b,by grind⟩) r,eq]
 obtain⟨a,ha⟩:=h r;exact md ⟨-a,by grind⟩
section
theorem xH{z:Ak}(k:AkOk z)(nd:z.ns.Nodup)(i:Int)(h:0<z.nr):cW z i=ji z.ns z.ts z.s z.p (z.to++[i]):=by
 obtain ⟨x,hx,ex,d0,d1,d4⟩:=k.deg h;unfold cW;rw[zF0 h];have e:z.tru=iS z.ns z.ts z.s z.p z.to (bK z.ts x+1).toNat:=by
  unfold Ak.tru;rw[zD0 (by omega),ex]
 have t0:z.ts≠[]:=fun e=>by have:=k.gk.t1;rw[e]at this;cases this
 rw[e];exact Al (rH k.gk.pr (by have:=k.gk.p9;omega)) hx nd (fun t ht=>(k.gk.tok t ht).1) t0 d1 i
theorem xJ{z:Ak}(h:z.nr=0)(i:Nat){t:Tr}(ht:z.ts[i]?=some t):cW z (i:Int)=(cnt t z.ns:Int) % z.p:=by
 have hl:=(zW0 ht).1;unfold cW;have e:z.tru=z.ts.map (fun t=>(cnt t z.ns:Int)):=by
  unfold Ak.tru;rw[zF0 h]
 rw[zD0 (by omega),e,zH0,zF0 (by omega),qO0,qS0,qD0,ht];rfl
theorem xI{z:Ak}(h:z.nr=0){i:Int}(hi:(z.ts.length:Int)<=i):cW z i=0:=by
 unfold cW;have e:z.tru=z.ts.map (fun t=>(cnt t z.ns:Int)):=by
  unfold Ak.tru;rw[zF0 h]
 rw[zD0 (by omega),e,zH0,zD0 (by omega)]
end
section
theorem qh(x p:Int):∀n:Nat,(x % p) ^ n % p=x ^ n % p
 | 0=>by rw[Int.pow_zero,Int.pow_zero]
 | n+1=>by rw[Int.pow_succ,Int.pow_succ,Int.mul_emod,qh x p n,Int.emod_emod,←Int.mul_emod]
theorem Bg{p a:Int}(hp:Pm p)(p1:1<p)(a0:0<a)(a1:a<p):zL p a=a ^ (p-2).toNat % p:=by
 have na:¬ p ∣ a:=fun⟨k,hk⟩=>by
  have:k=0∨1<=k∨k<=-1:=by omega
  rcases this with h | h | h
  . rw[h,Int.mul_zero]at hk;omega
  . have:=qX0 h (show 0<=p by omega)
    omega
  . have:=qX0 h (show 0<=p by omega)
    omega
 have f:=zQ hp na (by omega);have e:(a ^ (p-2).toNat % p)*a % p=1:=by
  rw[Int.mul_emod,Int.emod_emod,←Int.mul_emod,Int.mul_comm];obtain⟨k,hk⟩:=f
  have:a*a ^ (p-2).toNat=1+p*k:=by omega
  rw[this,Int.add_mul_emod_self_left];exact qN0 (by decide) p1
 have r0:=zU0 (a ^ (p-2).toNat) (show p≠0 by omega);have r1:=zX0 (a ^ (p-2).toNat) (show 0<p by omega);refine vz ?_ r1 e
 have:a ^ (p-2).toNat % p≠0:=fun z=>by
  rw[z,Int.zero_mul,Int.zero_emod]at e;omega
 omega
theorem vq(x:Int)(m:Nat):x ^ (2*m)=(x*x) ^ m:=by
 induction m with
 | zero=>rw[Nat.mul_zero,Int.pow_zero,Int.pow_zero]
 | succ m ih=>rw[show 2*(m+1)=2*m+1+1 by omega,Int.pow_succ,Int.pow_succ,ih,Int.pow_succ,Int.mul_assoc]
theorem AJ{p f x:Int}{n:Nat}(h:n % 2=1):(f*x % p*(x*x % p) ^ (n / 2)) % p=(f*x ^ n) % p:=by
 have e:n=2*(n / 2)+1:=by omega
 rw[Int.mul_emod,Int.emod_emod,qh,←Int.mul_emod]
 congr 1
 conv=>rhs;rw[e,Int.pow_succ,vq]
 rw[Int.mul_assoc,Int.mul_comm x]
theorem yF{p f x:Int}{n:Nat}(h:n % 2=0):(f*(x*x % p) ^ (n / 2)) % p=(f*x ^ n) % p:=by
 have e:n=2*(n / 2):=by omega
 rw[Int.mul_emod,qh,←Int.mul_emod]
 congr 1
 conv=>rhs;rw[e,vq]
def pW:Sp:=fun vs H Q _=>∃(a p:Int),vs=[.int a,.int p]/\Pm p/\2<p/\p<=999983/\0<a/\a<p/\Q (.int (zL p a)) H
theorem cK:FnScope ["_law_a","_law_p","_law_found","_law_power","_law_left"] ["_law_a","_law_p"] (ae dQ):=⟨rfl,rfl,rfl,by decide +kernel,rfl,by decide +kernel,by decide +kernel⟩
theorem qv {f:Addr} {fd:FuncData} (F:Fun K "_law_inverse" "_law_inverse" dQ f fd):FnOk P w K mg base CX0 1 f fd ["_law_a","_law_p"] pW:=by
 refine F.ok cK (fun vs H Q E h=>?_) (fun cdv A outer s H vs Q E hr h=>?_)
 . obtain⟨a,p,rfl,_⟩:=h;rfl
 obtain ⟨a,p,rfl,pm,p2,p9,a0,a1,q⟩:=h;refine⟨_,(ac (am (i:=2) cK.nd rfl (Or.inl rfl) aa)
  (ac (am (i:=3) cK.nd rfl (Or.inl rfl) (pv 0))
  (ac (am (i:=4) cK.nd rfl (Or.inl rfl) (ag aV (pv 1) aa))
  (ac (ir PassesOwn.never (ah iz (pv 4) aa (aj _)) (ac (aJ (ah aM (ag aN (pv 4) aa) aa (aj _)) (ad (am (i:=2) cK.nd rfl (Or.inl rfl) (ag aN (ag bg (pv 2) (pv 3)) (pv 1)))) az)
   (ac (am (i:=3) cK.nd rfl (Or.inl rfl) (ag aN (ag bg (pv 3) (pv 3)) (pv 1)))
   (ad (am (i:=4) cK.nd rfl (Or.inl rfl) (ag qp (pv 4) aa))))))
  (ad (av (pv 2))))))),?_⟩
 refine ⟨_,rfl,_,rfl,_,_,rfl,rfl,?_⟩;refine⟨fun m σ H'=>∃(fo po:Int)(le:Nat),σ=[some (.int a),some (.int p),some (.int fo),some (.int po),some (.int (le:Int))]/\H'=H/\0<=fo/\fo<p/\0<=po/\po<p/\(fo*po ^ le) % p=a ^ (p-2).toNat % p/\le<=1000000/\m=le,
  ⟨_,1,a,(p-2).toNat,by rw[show(((p-2).toNat:Nat):Int)=p-2 by omega];rfl,rfl,by decide,by omega,by omega,a1,by rw[Int.one_mul],by omega,rfl⟩,?_⟩
 rintro m σ H' ⟨fo,po,le,rfl,rfl,f0,f1,o0,o1,e,l6,rfl⟩;have md:∀x:Int,0<=x % p/\x % p<p:=fun x=>⟨zU0 _ (by omega),zX0 _ (by omega)⟩
 refine⟨_,rfl,_,_,rfl,rfl,_,rfl,?_⟩
 by_cases c:0<(m:Int)
 . refine aU c ?_;refine⟨_,fun _ _ h=>h,?_⟩;have p0:0<p:=by omega
   refine⟨_,rfl,_,_,rfl,rfl,(by show(0:Int)<2;decide),rfl,_,rfl,?_⟩;have dv:(m:Int) / 2=((m / 2:Nat):Int):=by omega
   by_cases c2:m % 2=1
   . refine aU (congrArg V.int (by omega)) ?_;refine⟨_,rfl,_,rfl,_,_,rfl,rfl,.inl ⟨by omega,by omega⟩,_,rfl,_,_,rfl,rfl,p0,?_⟩;refine⟨_,rfl,_,rfl,_,_,rfl,rfl,.inl ⟨by omega,by omega⟩,_,rfl,_,_,rfl,rfl,p0,?_⟩;refine⟨_,rfl,_,_,rfl,rfl,⟨by decide,by omega⟩,?_⟩;refine⟨m / 2,by omega,fo*po % p,po*po % p,m / 2,?_,rfl,(md _).1,(md _).2,(md _).1,(md _).2,(AJ c2).trans e,by omega,rfl⟩;rw[←dv];rfl
   . refine au (fun z=>c2 (by have:=V.int.inj z;omega)) ?_;refine⟨_,rfl,_,rfl,_,_,rfl,rfl,.inl ⟨by omega,by omega⟩,_,rfl,_,_,rfl,rfl,p0,?_⟩;refine⟨_,rfl,_,_,rfl,rfl,⟨by decide,by omega⟩,?_⟩;refine⟨m / 2,by omega,fo,po*po % p,m / 2,?_,rfl,f0,f1,(md _).1,(md _).2,(yF (by omega)).trans e,by omega,rfl⟩;rw[←dv];rfl
 . refine au c ?_;have m0:m=0:=by omega
   subst m0;rw[Int.pow_zero,Int.mul_one,qN0 f0 f1]at e;refine⟨_,rfl,?_⟩;rw[e,←Bg pm (by omega) a0 a1];exact q
def gi(z:Ak):List Int:=(if 0<z.nr/\1<z.ts.length then [z.s]else [])++z.to
def iU (gh c tt kn:Addr) (z:Ak):List (Key×V):=[(Sum.inr "game",.ref gh),(Sum.inr "round",.int z.nr),(Sum.inr "asked",.int z.mn),(Sum.inr "due",.int z.hd),(Sum.inr "s",.int z.s),(Sum.inr "coins",.ref c),(Sum.inr "tossed",.ref tt),(Sum.inr "known",.ref kn)]
section
variable {gh c tt kn:Addr} {z:Ak}
theorem nw_g:bQ (iU gh c tt kn z) (Sum.inr "game")=some (.ref gh):=by with_unfolding_all rfl
theorem nw_r:bQ (iU gh c tt kn z) (Sum.inr "round")=some (.int z.nr):=by with_unfolding_all rfl
theorem Dd:bQ (iU gh c tt kn z) (Sum.inr "asked")=some (.int z.mn):=by with_unfolding_all rfl
theorem nw_d:bQ (iU gh c tt kn z) (Sum.inr "due")=some (.int z.hd):=by with_unfolding_all rfl
theorem nw_s:bQ (iU gh c tt kn z) (Sum.inr "s")=some (.int z.s):=by with_unfolding_all rfl
theorem nw_c:bQ (iU gh c tt kn z) (Sum.inr "coins")=some (.ref c):=by with_unfolding_all rfl
theorem nw_t:bQ (iU gh c tt kn z) (Sum.inr "tossed")=some (.ref tt):=by with_unfolding_all rfl
theorem AW:bQ (iU gh c tt kn z) (Sum.inr "known")=some (.ref kn):=by with_unfolding_all rfl
end
def KnAt(H:Hp)(kn:Addr)(z:Ak)(m:Nat):Prop:=∃kvs:List (Key×V),H kn=some (.dK kvs)/\kvs.length<=m/\∀(i:Int)(v:V),bQ kvs (Sum.inl i)=some v->v=.int (cW z i)
structure NowAt(H:Hp)(d gh a b c tt kn:Addr)(tv:List V)(z:Ak)(m:Nat):Prop where
 hd:H d=some (.dK (iU gh c tt kn z))
 gt:GmT H gh a b z.ns tv z.ts z.p
 hc:H c=some (.lst (z.to.map V.int))
 ht:H tt=some (.lst ((gi z).map V.int))
 hk:KnAt H kn z m
 dk:d≠kn
theorem NowAt.but{H H':Hp}{d gh a b c tt kn:Addr}{tv:List V}{z:Ak}{m m':Nat}(h:NowAt H d gh a b c tt kn tv z m)(s:SameBut kn H H')(k:KnAt H' kn z m'):NowAt H' d gh a b c tt kn tv z m':=by
 obtain⟨kvs,ek,_⟩:=h.hk;have kT:bv H H':=fun x xs e=>s _ _ (bh e ek (by intro z;cases z)) e
 exact⟨s _ _ h.dk h.hd,h.gt.mono kT,s _ _ (bh h.hc ek (by intro z;cases z)) h.hc,s _ _ (bh h.ht ek (by intro z;cases z)) h.ht,k,h.dk⟩
theorem KnAt.le{H:Hp}{kn:Addr}{z:Ak}{m m':Nat}(h:KnAt H kn z m)(k:m<=m'):KnAt H kn z m':=by
 obtain⟨kvs,e,l,r⟩:=h;exact⟨kvs,e,zZ0 l k,r⟩
def pS:Sp:=fun vs H Q _=>∃(d gh a b c tt kn:Addr)(tv:List V)(z:Ak)(m:Nat)(i:Int),vs=[.ref d,.int i]/\NowAt H d gh a b c tt kn tv z m/\z.ns.Nodup/\AkOk z/\0<=i/\i<z.p/\m<=1000000/\∀H',NowAt H' d gh a b c tt kn tv z (m+1)->SameBut kn H H'->Q (.int (cW z i)) H'
theorem C5:FnScope ["_law_now_here","_law_at","_law_game"] ["_law_now_here","_law_at"] (ae ib):=⟨rfl,rfl,rfl,by decide +kernel,rfl,by decide +kernel,by decide +kernel⟩
theorem wz {f:Addr} {fd:FuncData} (F:Fun K "_law_true" "_law_true" ib f fd) (B:Bl mg) (oy:Cal P w K mg base 14 "_law_count" ["_law_game","_law_k"] yg) (C0:Cal P w K mg base 14 "_law_sum" ["_law_game","_law_s","_law_ahead"] xW):FnOk P w K mg base CX0 15 f fd ["_law_now_here","_law_at"] pS:=by
 refine F.ok C5 (fun vs H Q E h=>?_) (fun cdv A outer s H vs Q E hr h=>?_)
 . obtain⟨d,gh,a,b,c,tt,kn,tv,z,m,i,rfl,_⟩:=h;rfl
 obtain ⟨d,gh,a,b,c,tt,kn,tv,z,m,i,rfl,N,nd,k,i0,i1,m6,q⟩:=h;have hu:=nU hr;refine⟨_,(ac (am (i:=2) C5.nd rfl (Or.inl rfl) (cc hu (pv 0) ax (fun _ _=>rfl)))
  (ac (aJ (ah aM (cc hu (pv 0) ax (fun _ _=>rfl)) aa (aj _)) (ad (av (iw (ah df (pv 1) (aE aB rfl B.len PySem.boot_len (af (aq aC (pv 2) aa (fun _ _=>rfl)) aH)) (aj _)) (ag aN (ai oy hr (by decide) rfl (af (pv 2) (af (pv 1) aH))) (aq aC (pv 2) aa (fun _ _=>rfl))) aa))) az)
  (ac (aJ (CF (wx hu (pv 1) (cc hu (pv 0) ax (fun _ _=>rfl))) rfl) (ad (ku hu (cc hu (pv 0) ax (fun _ _=>rfl)) (pv 1) (ai C0 hr (by decide) rfl (af (pv 2) (af (cc hu (pv 0) ax (fun _ _=>rfl)) (af (ag fX (cc hu (pv 0) ax (fun _ _=>rfl)) (bL (af (pv 1) aH))) aH)))) rfl)) az)
  (ad (av (cc hu (cc hu (pv 0) ax (fun _ _=>rfl)) (pv 1) (fun _ _=>rfl))))))),?_⟩
 have G:=N.gt;have vl:=G.tr.length;have p2:=k.p0;have p9:=k.gk.p9;have n6:=k.n6;have gg:∀{H':Hp}{x:Str}{v:V},H' d=some (.dK (iU gh c tt kn z))->bQ (iU gh c tt kn z) (Sum.inr x)=some v->DGet H' d (.str x) (some v):=fun h e=>by rw[←e];exact DGet.k (k:=Sum.inr _) h
 refine⟨_,rfl,d,_,rfl,gg N.hd nw_g,?_⟩;refine⟨_,rfl,d,_,rfl,gg N.hd nw_r,rfl,_,rfl,?_⟩
 by_cases c0:z.nr=0
 . refine aU (congrArg V.int c0) ?_;refine⟨_,rfl,_,rfl,gh,_,1,_,rfl,rfl,zB0 G.hg,rfl,b,_,rfl,.inr (zB0 G.hb),_,_,rfl,rfl,_,rfl,?_⟩
   by_cases c1:i<(z.ts.length:Int)
   . refine aU (by rw[vl];exact c1) ?_;obtain⟨j,rfl⟩:∃j:Nat,i=(j:Int):=⟨i.toNat,by omega⟩
     have hj:j<z.ts.length:=by omega
     have ht:=zQ0 hj;have tk:=k.gk.tok _ (qT0 hj);rw[xJ c0 j ht]at q;refine⟨_,rfl,_,rfl,gh,a,b,z.ns,tv,z.ts,z.p,j,_,rfl,G,nd,n6,ht,tk.1,tk.2.2.1,fun H1 S1=>?_⟩;have kn1:KnAt H1 kn z (m+1):=by
      obtain⟨kvs,ek,l,r⟩:=N.hk;exact⟨kvs,S1 _ _ ek,by omega,r⟩
     exact⟨_,rfl,gh,_,2,_,rfl,rfl,zB0 (S1 _ _ G.hg),rfl,_,_,rfl,rfl,(by show 0<z.p;omega),q _ (N.but (zJ0 S1) kn1) (zJ0 S1)⟩
   . refine au (by rw[vl];exact c1) ?_;rw[xI c0 (by omega)]at q;exact q _ (N.but (SameBut.refl _ _) (N.hk.le (by omega))) (SameBut.refl _ _)
 . refine au (fun e=>c0 (V.int.inj e)) ?_;have nr0:=k.nr0;have hlt:=k.nrt (by omega);have et:=xH k nd i (by omega);obtain⟨kvs,ek,kl,kr⟩:=N.hk;refine⟨_,rfl,_,rfl,d,_,rfl,gg N.hd AW,kn,_,rfl,DGet.k (k:=Sum.inl i) ek,_,rfl,?_⟩;cases ev:bQ kvs (Sum.inl i)with
   | some v=>
     rw[show(!(some v).isSome)=false from rfl];refine dD ?_
     have:=kr i v ev
     subst this;refine⟨_,rfl,d,_,rfl,gg N.hd AW,_,rfl,kn,_,rfl,(by rw[←ev];exact DGet.k (k:=Sum.inl i) ek),?_⟩;exact q _ (N.but (SameBut.refl _ _) (N.hk.le (by omega))) (SameBut.refl _ _)
   | none=>
     rw[show(!(none:Option V).isSome)=true from rfl];refine fq ?_;refine⟨_,rfl,_,rfl,d,_,rfl,gg N.hd nw_s,_,rfl,d,_,rfl,gg N.hd nw_c,_,rfl,(by show 1<=sizeLine;decide),fun u hu=>?_⟩;have Iu:=zC0 hu (.lst [.int i]);refine⟨c,u,_,_,rfl,rfl,Iu _ _ N.hc,aD,cp (by rw[zH0];show z.to.length+1<=1000;omega),fun l hl=>?_⟩;have Il:=zC0 hl (.lst (z.to.map V.int++[.int i]));have J:=Iu.trans Il;refine⟨gh,a,b,l,z.ns,tv,z.ts,z.to++[i],z.s,z.p,rfl,G.mono (aY J),nd,n6,fun t ht=>⟨(k.gk.tok t ht).1,(k.gk.tok t ht).2.2.1⟩,.inl (by rw[aD,zK0];rfl),by rw[zL0];show z.to.length+1<=_;omega,?_,by omega,by omega,fun H' S'=>?_⟩
     . intro x hx;rcases zT0 hx with h | h
       . exact k.po x h
       . rw[zM0 h];exact⟨i0,i1⟩
     have J':=J.trans S';rw[←et];refine⟨_,rfl,d,_,rfl,gg (J' _ _ N.hd) AW,_,rfl,kn,_,rfl,DPut.k (k:=Sum.inl i) (J' _ _ ek) (by have:sizeLine=16777216:=rfl;omega),?_⟩;have S2:SameBut kn H (upd H' kn (.dK (fj kvs (Sum.inl i) (.int (cW z i))))):=(zJ0 J').trans (SameBut.upd _);have pl:(fj kvs (Sum.inl i) (.int (cW z i))).length<=kvs.length+1:=dX _ _ _;have K2:KnAt (upd H' kn (.dK (fj kvs (Sum.inl i) (.int (cW z i))))) kn z (m+1):=by
      refine⟨_,aD,by omega,fun j v hv=>?_⟩;rw[iX]at hv
      by_cases cj:(Sum.inl j:Key)=Sum.inl i
      . rw[zF0 cj]at hv;cases hv;cases cj;rfl
      . rw[zD0 cj]at hv;exact kr j v hv
     have N2:=N.but S2 K2;refine⟨_,rfl,d,_,rfl,gg N2.hd AW,_,rfl,kn,_,rfl,?_,q _ N2 S2⟩
     have:=DGet.k (H:=upd H' kn (.dK (fj kvs (Sum.inl i) (.int (cW z i))))) (k:=Sum.inl i) aD
     rw[iX,zF0 rfl]at this;exact this
end
section
theorem xu{z:Ak}(h0:z.nr=0->z.s=0/\z.to=[])(n0:0<=z.nr){i:Int}(i0:0<=i) :
 atI (([0]++gi z++[0]).map V.int) (if((gi z).length:Int)+1<i then((gi z).length:Int)+1 else i)=some (.int (gO z i)):=by
 have key:∀(T:List Int)(i:Int),0<=i->atI (([0]++T++[0]).map V.int) (if(T.length:Int)+1<i then(T.length:Int)+1 else i)=some (.int (if 1<=i/\i<=(T.length:Int)then T.getD (i-1).toNat 0 else 0)):=by
  intro T i i0;obtain⟨j,hj,jl⟩:∃j:Nat,(if(T.length:Int)+1<i then(T.length:Int)+1 else i)=(j:Int)/\j<=T.length+1:=by
   split
   . exact⟨T.length+1,by omega,zG0 _⟩
   . exact⟨i.toNat,by omega,by omega⟩
  rw [hj];refine cg ?_;rw[qD0];have e:([0]++T++[0])[j]?=some (if 1<=i/\i<=(T.length:Int)then T.getD (i-1).toNat 0 else 0):=by
   cases j with
   | zero=>
     rw[zD0 (by split at hj <;> omega)];rfl
   | succ j=>
     show(T++[0])[j]?=_
     by_cases c:j<T.length
     . rw [List.getElem?_append_left c,zF0 (by split at hj <;> omega),zQ0 c,qS0]
       have:(i-1).toNat=j:=by split at hj <;> omega
       rw[this,zQ0 c];rfl
     . have ej:j=T.length:=by omega
       rw[ej,List.getElem?_append_right (zG0 _),Nat.sub_self,zD0 (by split at hj <;> omega)];rfl
  rw[e];rfl
 rw[key _ i i0]
 congr 2
 by_cases c:z.nr=0
 . obtain ⟨s0,t0⟩:=h0 c;have eT:gi z=[]:=by
    unfold gi;rw[zD0 (fun h=>by omega),t0];rfl
   have eC:∀n,(gW z).getD n 0=0:=fun n=>by
    unfold gW;rw[t0,s0]
    split
    . cases n <;> rfl
    . rfl
   rw[eT,zD0 (by show ¬ (1<=i/\i<=((0:Nat):Int));omega)];unfold gO
   split
   . exact(eC _).symm
   . rfl
 . have eT:gi z=gW z:=by
    unfold gi gW
    by_cases c2:1<z.ts.length
    . rw[zF0 c2,zF0 ⟨by omega,c2⟩];rfl
    . rw[zD0 c2,zD0 (fun h=>c2 h.2)];rfl
   rw[eT];rfl
end
section
structure PSW(X:Cx)(st:List Stmt)(t:TS):Prop where
 out:PSs X st t
end
section
structure PEW(X:Cx)(e:Expr)(t:TE):Prop where
 out:PE X e t
structure PAW(X:Cx)(es:List Expr)(t:TA):Prop where
 out:PA X es t
structure PTW(X:Cx)(s:Stmt)(t:TS):Prop where
 out:PS X s t
section
variable {X:Cx} {e:Expr} {es:List Expr} {te:TE} {t:TA} {pos:Pos}
theorem aZ:PAW X [] tE:=⟨aH⟩
theorem ak(ha:PEW X e te)(hr:PAW X es t)(hs:starEach (e::es) X.env=(false,eval e X.env)::starEach es X.env:=by rfl):PAW X (e::es) (jY te t):=⟨af ha.out hr.out hs⟩
theorem bc{x1}(h:PAW X es t):PEW X (.Tuple es x1 pos) (Ck t):=⟨aX h.out⟩
theorem aP{x j}:PEW X (.Constant (.str x) j pos) (tC (.str x)):=⟨ax⟩
theorem my{i j}:PEW X (.Constant (.int i) j pos) (tC (.int i)):=⟨aa⟩
theorem gX(h:PEW X e te):PTW X (.Return (some e) pos) (tRet te):=⟨av h.out⟩
theorem be{i:Nat}{x:Str}{pos':Pos}(hN:X.N.Nodup)(hi:X.N[i]?=some x)(hx:Loc X.env.scope x)(he:PEW X e te)(hs:swapsWith e (some (.Name x pos')) pos.line X.env=pure false:=by rfl)(hf:X.fn x=true∨X.env.scope.names.lookup x=some .local:=by first | exact .inl rfl | exact .inr rfl | assumption) :
 PTW X (.Assign [.Name x pos'] e pos) (xR te (sD i)):=⟨am hN hi hx he.out hs hf⟩
theorem cY:PSW X [] Bx:=⟨az⟩
theorem aF{s:Stmt}{ss:List Stmt}{a b:TS}(h:PTW X s a)(k:PSW X ss b):PSW X (s::ss) (qR a b):=⟨ac h.out k.out⟩
theorem cT{s:Stmt}{a:TS}(h:PTW X s a):PSW X [s] a:=⟨ad h.out⟩
theorem fN{ss:List Stmt}{t t':TS}(h:PSW X ss t)(hw:∀D σ H,t' D σ H->t D σ H):PSW X ss t':=⟨kt h.out hw⟩
theorem fB{c:Expr}{a b:List Stmt}{tc:TT}{t u:TS}(hc:PT X c tc)(ha:PSW X a t)(hb:PSW X b u):PTW X (.If c a b pos) (Co tc t u):=⟨aJ hc ha.out hb.out⟩
end
end
section
theorem pP{X:Cx}{es:List Expr}{t:TA}{pos:Pos}(h:PAW X es t):PEW X (.List es pos) (Cm t):=⟨bL h.out⟩
theorem yP{X:Cx}{k1 k2 k3:_}{p1 p2 p3 pd:Pos}{x1 x2 x3:Str}{v1 v2 v3:Expr}{t1 t2 t3:TE}(e1:PE X v1 t1)(e2:PE X v2 t2)(e3:PE X v3 t3) :
 PE X (.Dict [some (.Constant (.str x1) k1 p1),some (.Constant (.str x2) k2 p2),some (.Constant (.str x3) k3 p3)] [v1,v2,v3] pd) (xN [(tC (.str x1),t1),(tC (.str x2),t2),(tC (.str x3),t3)]):=
 qm (cD ax e1 (cD ax e2 (cD ax e3 qg))) rfl rfl (by simp) (by show 3<=15;decide)
theorem nQ(o z:Str):(z==o)=decide (o=z):=by
 by_cases c:o=z
 . subst c;simp
 . rw[decide_eq_false c];simpa using fun h=>c h.symm
theorem yQ (o:Str):inV (.str o) [.str "round",.str "due",.str "asked"]=(decide (o="round")||(decide (o="due")||decide (o="asked"))):=by
 show(("round"==o)||(("due"==o)||(("asked"==o)||false)))=_;rw[Bool.or_false,nQ,nQ,nQ]
theorem oZ (o:Str):inV (.str o) [.str "=",.str "<"]=(decide (o="=")||decide (o="<")):=by
 show(("="==o)||(("<"==o)||false))=_;rw[Bool.or_false,nQ,nQ]
theorem wK {gh c tt kn:Addr} {z:Ak} (k:AkOk z) {w:Str} (h:w∈hU):(∃n:Int,bQ (iU gh c tt kn z) (Sum.inr w)=some (V.int n)/\n % z.p=jk z w)/\inV (.str w) [.str "round",.str "due",.str "asked"]=true/\w≠"num"/\w≠"box":=by
 have a1:=k.h0;have a2:=k.h1;rw[yQ];unfold jk;simp only[hU,List.mem_cons,List.not_mem_nil,or_false]at h;rcases h with rfl | rfl | rfl
 all_goals refine⟨?_,by decide +kernel,by decide +kernel,by decide +kernel⟩
 . exact⟨_,nw_r,by rw[zF0 rfl]⟩
 . exact⟨_,nw_d,by rw[zD0 (by decide +kernel),zD0 (by decide +kernel)];exact qN0 a1 a2⟩
 . exact⟨_,Dd,by rw[zD0 (by decide +kernel),zF0 rfl]⟩
def dO (a b c:Int):List (Key×V):=[(Sum.inr "+",V.int a),(Sum.inr "-",V.int b),(Sum.inr "*",V.int c)]
theorem om(a b c:Int):eD [] (dO a b c)=dO a b c:=by with_unfolding_all rfl
theorem dO_1 (a b c:Int):bQ (dO a b c) (Sum.inr "+")=some (V.int a):=by with_unfolding_all rfl
theorem dO_2 (a b c:Int):bQ (dO a b c) (Sum.inr "-")=some (V.int b):=by with_unfolding_all rfl
theorem dO_3 (a b c:Int):bQ (dO a b c) (Sum.inr "*")=some (V.int c):=by with_unfolding_all rfl
def vV(n:Nat):Sp:=fun vs H Q _=>∃(v:V)(t:Tm)(bb d gh a b c tt kn:Addr)(tv:List V)(z:Ak)(bx:Str->Int)(m mb:Nat),vs=[v,.ref d,.ref bb]/\TmAt H v t/\t.good/\t.depth<=n/\NowAt H d gh a b c tt kn tv z m/\BxAt H bb bx mb/\bb≠kn/\dA z.p bx/\z.ns.Nodup/\AkOk z/\(z.nr=0->z.s=0/\z.to=[])/\m+2 ^ n<=1000000/\∀H',NowAt H' d gh a b c tt kn tv z (m+2 ^ n)->SameBut kn H H'->Q (.int (t.worth z bx)) H'
theorem b8:FnScope ["_law_term_here","_law_now_here","_law_boxes","_law_p","_law_word","_law_a","_law_b"] ["_law_term_here","_law_now_here","_law_boxes"] (ae bV):=⟨rfl,rfl,rfl,by decide +kernel,rfl,by decide +kernel,by decide +kernel⟩
theorem NowAt.kT{H H':Hp}{d gh a b c tt kn:Addr}{tv:List V}{z:Ak}{m:Nat}(h:NowAt H d gh a b c tt kn tv z m)(s:SameBut kn H H'):bv H H':=by
 obtain⟨kvs,ek,_⟩:=h.hk;exact fun x xs e=>s _ _ (bh e ek (by intro z;cases z)) e
theorem NowAt.up{H H':Hp}{d gh a b c tt kn:Addr}{tv:List V}{z:Ak}{m m':Nat}(h:NowAt H d gh a b c tt kn tv z m)(s:Same H H')(k:m<=m'):NowAt H' d gh a b c tt kn tv z m':=by
 obtain⟨kvs,ek,l,r⟩:=h.hk;exact h.but (zJ0 s) ⟨kvs,s _ _ ek,zZ0 l k,r⟩
theorem An {n:Nat} {f:Addr} {fd:FuncData} (F:Fun K "_law_term_worth" "_law_term_worth" bV f fd) (B:Bl mg) (d8:Cal P w K mg base 1 "_law_inverse" ["_law_a","_law_p"] pW) (gP:Cal P w K mg base 15 "_law_true" ["_law_now_here","_law_at"] pS) (bX:Cal P w K mg base (n+16) "_law_term_worth" ["_law_term_here","_law_now_here","_law_boxes"] (vV n)):FnOk P w K mg base CX0 (n+17) f fd ["_law_term_here","_law_now_here","_law_boxes"] (vV (n+1)):=by
 refine F.ok b8 (fun vs H Q E h=>?_) (fun cdv A outer s H vs Q E hr h=>?_)
 . obtain⟨v,t,bb,d,gh,a,b,c,tt,kn,tv,z,bx,m,mb,rfl,_⟩:=h;rfl
 obtain ⟨v,t,bb,d,gh,a,b,c,tt,kn,tv,z,bx,m,mb,rfl,T,tg,td,N,BX,bk,bo,nd,k,h0,mm,q⟩:=h;have hu:=nU hr;refine⟨_,PSW.out (aF (be (i:=3) b8.nd rfl (Or.inl rfl) ⟨aq aC (cc hu (pv 1) ax (fun _ _=>rfl)) aa (fun _ _=>rfl)⟩)
  (aF (be (i:=4) b8.nd rfl (Or.inl rfl) ⟨aq aC (pv 0) aa (fun _ _=>rfl)⟩)
  (aF (fB (ah aM (pv 4) ax (aj _)) ⟨ad (av (ag aN (aq aC (pv 0) aa (fun _ _=>rfl)) (pv 3)))⟩ cY)
  (aF (fB (ah aM (pv 4) ax (aj _)) ⟨ad (av (rK hu (pv 2) (aq aC (pv 0) aa (fun _ _=>rfl)) aa ⟨rfl,rfl,rfl,rfl⟩))⟩ cY)
  (aF (fB (ah iy (pv 4) (PEW.out (pP (ak aP (ak aP (ak aP aZ))))) (by with_unfolding_all rfl)) ⟨ad (av (ag aN (cc hu (pv 1) (pv 4) (fun _ _=>rfl)) (pv 3)))⟩ cY)
  (aF (be (i:=5) b8.nd rfl (Or.inl rfl) ⟨ai bX hr (zG0 _) rfl (af (aq aC (pv 0) (lK ja aa) (fun _ _=>rfl)) (af (pv 1) (af (pv 2) aH)))⟩)
  (aF (fB (ah aM (pv 4) ax (aj _)) ⟨ad (av (aq ix_list (ag fX (ag fX (bL (af aa aH)) (cc hu (pv 1) ax (fun _ _=>rfl))) (bL (af aa aH))) (aE (xx rfl) rfl B.min PyProof.Rows.boot_min (af (pv 5) (af (ag aW (aE aB rfl B.len PySem.boot_len (af (cc hu (pv 1) ax (fun _ _=>rfl)) aH)) aa) aH))) (fun _ _=>rfl)))⟩ cY)
  (aF (fB (ah aM (pv 4) ax (aj _)) ⟨ad (av (ai gP hr (by omega) rfl (af (pv 1) (af (pv 5) aH))))⟩ cY)
  (aF (be (i:=6) b8.nd rfl (Or.inl rfl) ⟨pv 5⟩)
  (aF (be (i:=5) b8.nd rfl (Or.inl rfl) ⟨ai bX hr (zG0 _) rfl (af (aq aC (pv 0) aa (fun _ _=>rfl)) (af (pv 1) (af (pv 2) aH)))⟩)
  (aF (fB (ah iy (aq aC (pv 0) aa (fun _ _=>rfl)) (PEW.out (pP (ak aP (ak aP aZ)))) (by with_unfolding_all rfl)) ⟨ad (av (bF lC rfl B.int jL (af (BO (lq (cr df (pv 5) (pv 6) (aj _)) (jT (cr aM (aq aC (pv 0) aa (fun _ _=>rfl)) ax (aj _)))) (jT (lq (cr aM (pv 5) (pv 6) (aj _)) (jT (cr aM (aq aC (pv 0) aa (fun _ _=>rfl)) ax (aj _)))))) aH)))⟩ cY)
  (aF (fB (ah aM (aq aC (pv 0) aa (fun _ _=>rfl)) ax (aj _)) ⟨ad (av (iw (ah iz (pv 6) aa (aj _)) (ag aN (ag bg (pv 5) (ai d8 hr (by omega) rfl (af (pv 6) (af (pv 3) aH)))) (pv 3)) aa))⟩ cY)
  (cT (gX ⟨ag aN (cc hu (yP (ag aW (pv 5) (pv 6)) (ag aV (pv 5) (pv 6)) (ag bg (pv 5) (pv 6))) (aq aC (pv 0) aa (fun _ _=>rfl)) (fun _ _=>rfl)) (pv 3)⟩)))))))))))))),?_⟩
 have p2:=k.p0;have p9:=k.gk.p9;have p0:0<z.p:=by omega
 have pw:2 ^ (n+1)=2 ^ n+2 ^ n:=by rw[Nat.pow_succ];omega
 have pw1:1<=2 ^ n:=Nat.one_le_two_pow;have gg:∀{H':Hp}{x:Str}{v:V},H' d=some (.dK (iU gh c tt kn z))->bQ (iU gh c tt kn z) (Sum.inr x)=some v->DGet H' d (.str x) (some v):=fun h e=>by rw[←e];exact DGet.k (k:=Sum.inr _) h
 have done:∀{H':Hp},Same H H'->NowAt H' d gh a b c tt kn tv z (m+2 ^ (n+1)):=fun S=>N.up S (by omega)
 refine⟨_,rfl,d,_,rfl,gg N.hd nw_g,gh,_,2,_,rfl,rfl,zB0 N.gt.hg,rfl,?_⟩;cases T with
 | @num ta i e=>
   refine⟨_,rfl,ta,_,0,_,rfl,rfl,zB0 e,rfl,_,rfl,rfl,_,rfl,aU rfl ?_⟩;exact⟨_,rfl,ta,_,1,_,rfl,rfl,zB0 e,rfl,_,rfl,_,_,rfl,rfl,p0,q _ (done (Same.refl _)) (SameBut.refl _ _)⟩
 | @box ta x e=>
   refine⟨_,rfl,ta,_,0,_,rfl,rfl,zB0 e,rfl,_,rfl,rfl,_,rfl,au (by decide +kernel) ?_⟩;refine⟨_,rfl,rfl,_,rfl,aU rfl ?_⟩;obtain⟨kvs,hb,_,hx⟩:=BX;refine⟨_,rfl,bb,rfl,.inl ⟨kvs,.inl hb⟩,_,rfl,ta,_,1,_,rfl,rfl,zB0 e,rfl,_,DGet.k (k:=.inr x) hb,?_⟩;rw[hx];exact q _ (done (Same.refl _)) (SameBut.refl _ _)
 | @plain ta w e=>
   obtain⟨⟨i,hi,ei⟩,e3,n1,n2⟩:=wK (gh:=gh) (c:=c) (tt:=tt) (kn:=kn) k (show w∈hU from tg);refine⟨_,rfl,ta,_,0,_,rfl,rfl,zB0 e,rfl,_,rfl,rfl,_,rfl,au (neS n1) ?_⟩;refine⟨_,rfl,rfl,_,rfl,au (neS n2) ?_⟩;refine⟨_,rfl,(by show 3<=sizeLine;decide),fun l hl=>?_⟩;have I:=zC0 hl (.lst [.str "round",.str "due",.str "asked"]);refine⟨l,_,rfl,.inl (zE0 aD),rfl,rfl,_,rfl,?_⟩;show if inV (.str w) [.str "round",.str "due",.str "asked"]=true then _ else _
   rw[e3];refine fq ?_;refine⟨_,rfl,_,rfl,d,_,rfl,gg (I _ _ N.hd) hi,_,rfl,_,_,rfl,rfl,p0,?_⟩;show Q (.int (i % z.p)) _;rw[ei];exact q _ (done I) (zJ0 I)
 | @ask ta w v t e T1=>
   obtain ⟨wa,tg1⟩:=tg;have td1:t.depth<=n:=by
    have:t.depth+1<=n+1:=td
    omega
   have wc:(w="coin"∨w="true"):=by
    simp only[Bs,List.mem_cons,List.not_mem_nil,or_false]at wa;rcases wa with h | h
    . first | exact .inl h | exact .inr h
    . first | exact .inr h | exact .inl h
   have n1:w≠"num":=fun z=>by rcases wc with h | h <;> rw[h]at z <;> revert z <;> decide +kernel
   have n2:w≠"box":=fun z=>by rcases wc with h | h <;> rw[h]at z <;> revert z <;> decide +kernel
   have e3:inV (.str w) [.str "round",.str "due",.str "asked"]=false:=by
    rw[yQ];rcases wc with rfl | rfl <;> decide +kernel
   refine⟨_,rfl,ta,_,0,_,rfl,rfl,zB0 e,rfl,_,rfl,rfl,_,rfl,au (neS n1) ?_⟩;refine⟨_,rfl,rfl,_,rfl,au (neS n2) ?_⟩;refine⟨_,rfl,(by show 3<=sizeLine;decide),fun l hl=>?_⟩;have I:=zC0 hl (.lst [.str "round",.str "due",.str "asked"]);refine⟨l,_,rfl,.inl (zE0 aD),rfl,rfl,_,rfl,?_⟩;show if inV (.str w) [.str "round",.str "due",.str "asked"]=true then _ else _
   rw[e3];refine dD ?_;generalize upd H l (.lst [.str "round",.str "due",.str "asked"])=H1 at I;refine⟨_,rfl,_,rfl,ta,_,_,v,rfl,rfl,zB0 (I _ _ e),rfl,_,rfl,_,rfl,v,t,bb,d,gh,a,b,c,tt,kn,tv,z,bx,m,mb,rfl,T1.mono (aY I),tg1,td1,N.up I (zG0 _),BX.keep (fun o h=>I _ _ h),bk,bo,nd,k,h0,by omega,fun H2 N2 S2=>?_⟩;have S02:=(zJ0 (f:=kn) I).trans S2;have wr:=Tm.worth_rng k bo t;refine⟨_,rfl,rfl,_,rfl,?_⟩
   by_cases cw:w="coin"
   . refine aU (congrArg V.str cw) ?_;have ew:(Tm.ask w t).worth z bx=gO z (t.worth z bx):=by
      show(if w="coin" then gO z (t.worth z bx)else cW z (t.worth z bx))=_;rw[zF0 cw]
     rw [ew]at q;have ct:=xu h0 k.nr0 wr.1;have tl:(gi z).length<=200:=by
      unfold gi;rw[zL0];have h1:=k.tl
      have:((if 0<z.nr/\1<z.ts.length then [z.s]else []):List Int).length<=1:=by split <;> simp
      omega
     have ht2:=N2.ht;generalize hT:gi z=T at ht2 tl ct;refine⟨(by show 1<=sizeLine;decide),fun u hu=>?_⟩;have I1:=zC0 hu (.lst [.int 0]);have g1:upd H2 u (.lst [.int 0]) u=some (.lst [.int 0]):=aD;generalize upd H2 u (.lst [.int 0])=H3 at I1 g1;refine⟨_,rfl,d,_,rfl,gg (I1 _ _ N2.hd) nw_t,u,tt,_,_,rfl,rfl,g1,I1 _ _ ht2,cp (by rw[zH0];show 1+T.length<=1000;omega),fun y hy=>?_⟩;have I2:=zC0 hy (.lst ([V.int 0]++T.map V.int));have g2:upd H3 y (.lst ([V.int 0]++T.map V.int)) y=some (.lst ([V.int 0]++T.map V.int)):=aD;generalize upd H3 y (.lst ([V.int 0]++T.map V.int))=H4 at I2 g2;refine⟨(by show 1<=sizeLine;decide),fun u2 hu2=>?_⟩;have I3:=zC0 hu2 (.lst [.int 0]);have g3:upd H4 u2 (.lst [.int 0]) u2=some (.lst [.int 0]):=aD;generalize upd H4 u2 (.lst [.int 0])=H5 at I3 g3;refine⟨y,u2,_,_,rfl,rfl,I3 _ _ g2,g3,cp (by rw[zL0,zH0];show 1+T.length+1<=1000;omega),fun w' hw'=>?_⟩;have I4:=zC0 hw' (.lst ([V.int 0]++T.map V.int++[V.int 0]));have g4:upd H5 w' (.lst ([V.int 0]++T.map V.int++[V.int 0])) w'=some (.lst (([0]++T++[0]).map V.int)):=by rw[aD,zK0,zK0];rfl
     generalize upd H5 w' (.lst ([V.int 0]++T.map V.int++[V.int 0]))=H6 at I4 g4;have J:=I1.trans (I2.trans (I3.trans I4));refine⟨_,rfl,_,rfl,d,_,rfl,gg (J _ _ N2.hd) nw_t,tt,_,rfl,.inl (zE0 (J _ _ ht2)),_,_,rfl,rfl,_,_,rfl,?_⟩;rw[zH0];refine⟨w',_,_,_,rfl,rfl,zE0 g4,ct,?_⟩;exact q _ (N2.up J (by omega)) (S02.trans (zJ0 J))
   . refine au (neS cw) ?_;have wt:w="true":=wc.resolve_left cw;have ew:(Tm.ask w t).worth z bx=cW z (t.worth z bx):=by
      show(if w="coin" then gO z (t.worth z bx)else cW z (t.worth z bx))=_;rw[zD0 cw]
     rw[ew]at q;refine⟨_,rfl,rfl,_,rfl,aU (congrArg V.str wt) ?_⟩;refine⟨_,rfl,_,rfl,d,gh,a,b,c,tt,kn,tv,z,m+2 ^ n,_,rfl,N2,nd,k,wr.1,wr.2,by omega,fun H3 N3 S3=>q _ (N3.up (Same.refl _) (by omega)) (S02.trans S3)⟩
 | @op ta s v u t r e T1 T2=>
   obtain ⟨sw,tg1,tg2⟩:=tg;have td1:t.depth<=n/\r.depth<=n:=by
    have:max t.depth r.depth+1<=n+1:=td
    omega
   have e3:inV (.str "op") [.str "round",.str "due",.str "asked"]=false:=by
    rw[yQ];decide +kernel
   refine⟨_,rfl,ta,_,0,_,rfl,rfl,zB0 e,rfl,_,rfl,rfl,_,rfl,au (by decide +kernel) ?_⟩;refine⟨_,rfl,rfl,_,rfl,au (by decide +kernel) ?_⟩;refine⟨_,rfl,(by show 3<=sizeLine;decide),fun l hl=>?_⟩;have I:=zC0 hl (.lst [.str "round",.str "due",.str "asked"]);refine⟨l,_,rfl,.inl (zE0 aD),rfl,rfl,_,rfl,?_⟩;show if inV (.str "op") [.str "round",.str "due",.str "asked"]=true then _ else _
   rw[e3];refine dD ?_;generalize upd H l (.lst [.str "round",.str "due",.str "asked"])=H1 at I;refine⟨_,rfl,_,rfl,ta,_,_,u,rfl,rfl,zB0 (I _ _ e),rfl,_,rfl,_,rfl,u,r,bb,d,gh,a,b,c,tt,kn,tv,z,bx,m,mb,rfl,T2.mono (aY I),tg2,td1.2,N.up I (zG0 _),BX.keep (fun o h=>I _ _ h),bk,bo,nd,k,h0,by omega,fun H2 N2 S2=>?_⟩;have S02:=(zJ0 (f:=kn) I).trans S2;have k02:=N.kT S02;refine⟨_,rfl,rfl,_,rfl,au (by decide +kernel) ?_⟩;refine⟨_,rfl,rfl,_,rfl,au (by decide +kernel) ?_⟩;refine⟨_,rfl,?_⟩;have bbk:∀o,H bb=some o->H2 bb=some o:=fun o h=>S02 _ _ bk h
   refine⟨_,rfl,ta,_,2,_,rfl,rfl,zB0 (k02 _ _ e),rfl,_,rfl,_,rfl,v,t,bb,d,gh,a,b,c,tt,kn,tv,z,bx,m+2 ^ n,mb,rfl,T1.mono k02,tg1,td1.1,N2,BX.keep bbk,bk,bo,nd,k,h0,by omega,fun H3 N3 S3=>?_⟩;have S03:=S02.trans S3;have k03:=N.kT S03;have e':=k03 _ _ e;have w1:=Tm.worth_rng k bo t;have w2:=Tm.worth_rng k bo r;have N3':∀{H':Hp},Same H3 H'->NowAt H' d gh a b c tt kn tv z (m+2 ^ (n+1)):=fun S=>N3.up S (by omega)
   have eo:(Tm.op s t r).worth z bx=opV z.p s (t.worth z bx) (r.worth z bx):=rfl;rw[eo]at q;generalize t.worth z bx=x at w1 q;generalize r.worth z bx=y at w2 q;refine⟨_,rfl,ta,_,1,_,rfl,rfl,zB0 e',rfl,(by show 2<=sizeLine;decide),fun l2 hl2=>?_⟩;have I4:=zC0 hl2 (.lst [.str "=",.str "<"]);refine⟨l2,_,rfl,.inl (zE0 aD),rfl,rfl,_,rfl,?_⟩;show if inV (.str s) [.str "=",.str "<"]=true then _ else _
   generalize upd H3 l2 (.lst [.str "=",.str "<"])=H4 at I4;have e4:=I4 _ _ e';have S04:=S03.trans (zJ0 I4);simp only[jN,List.mem_cons,List.not_mem_nil,or_false]at sw;have md:∀i:Int,0<=i % z.p/\i % z.p<z.p:=fun i=>⟨zU0 _ (by omega),zX0 _ p0⟩
   rcases sw with rfl | rfl | rfl | rfl | rfl | rfl
   . rw [oZ,show(decide ((Str.ofString "+")="=")||decide ((Str.ofString "+")="<"))=false by decide +kernel];refine dD ?_;refine⟨_,rfl,ta,_,1,_,rfl,rfl,zB0 e4,rfl,rfl,_,rfl,au (by decide +kernel) ?_⟩;refine fun dd hdd=>?_
     refine ⟨_,rfl,_,rfl,_,_,rfl,rfl,_,rfl,_,rfl,_,_,rfl,rfl,_,rfl,_,rfl,_,_,rfl,rfl,.inl ⟨by omega,by omega⟩,aD,dO (x+y) (x-y) (x*y),rfl,by show 3<=15;decide,?_⟩;rw[om];have Sd:Same H4 (upd (upd H4 dd (.dK [])) dd (.dK (dO (x+y) (x-y) (x*y)))):=fun b' o' e'=>by
      have nb:=aO e' hdd;rw[ao nb,ao nb];exact e'
     refine⟨_,rfl,ta,_,1,_,rfl,rfl,zB0 (Sd _ _ e4),rfl,dd,.int (x+y),rfl,(by rw[←dO_1 (x+y) (x-y) (x*y)];exact DGet.k (k:=Sum.inr _) aD),_,rfl,_,_,rfl,rfl,p0,?_⟩;rw[BU]at q;exact q _ (N3' (I4.trans Sd)) (S04.trans (zJ0 Sd))
   . rw [oZ,show(decide ((Str.ofString "-")="=")||decide ((Str.ofString "-")="<"))=false by decide +kernel];refine dD ?_;refine⟨_,rfl,ta,_,1,_,rfl,rfl,zB0 e4,rfl,rfl,_,rfl,au (by decide +kernel) ?_⟩;refine fun dd hdd=>?_
     refine ⟨_,rfl,_,rfl,_,_,rfl,rfl,_,rfl,_,rfl,_,_,rfl,rfl,_,rfl,_,rfl,_,_,rfl,rfl,.inl ⟨by omega,by omega⟩,aD,dO (x+y) (x-y) (x*y),rfl,by show 3<=15;decide,?_⟩;rw[om];have Sd:Same H4 (upd (upd H4 dd (.dK [])) dd (.dK (dO (x+y) (x-y) (x*y)))):=fun b' o' e'=>by
      have nb:=aO e' hdd;rw[ao nb,ao nb];exact e'
     refine⟨_,rfl,ta,_,1,_,rfl,rfl,zB0 (Sd _ _ e4),rfl,dd,.int (x-y),rfl,(by rw[←dO_2 (x+y) (x-y) (x*y)];exact DGet.k (k:=Sum.inr _) aD),_,rfl,_,_,rfl,rfl,p0,?_⟩;rw[BT]at q;exact q _ (N3' (I4.trans Sd)) (S04.trans (zJ0 Sd))
   . rw [oZ,show(decide ((Str.ofString "*")="=")||decide ((Str.ofString "*")="<"))=false by decide +kernel];refine dD ?_;refine⟨_,rfl,ta,_,1,_,rfl,rfl,zB0 e4,rfl,rfl,_,rfl,au (by decide +kernel) ?_⟩;refine fun dd hdd=>?_
     refine ⟨_,rfl,_,rfl,_,_,rfl,rfl,_,rfl,_,rfl,_,_,rfl,rfl,_,rfl,_,rfl,_,_,rfl,rfl,.inl ⟨by omega,by omega⟩,aD,dO (x+y) (x-y) (x*y),rfl,by show 3<=15;decide,?_⟩;rw[om];have Sd:Same H4 (upd (upd H4 dd (.dK [])) dd (.dK (dO (x+y) (x-y) (x*y)))):=fun b' o' e'=>by
      have nb:=aO e' hdd;rw[ao nb,ao nb];exact e'
     refine⟨_,rfl,ta,_,1,_,rfl,rfl,zB0 (Sd _ _ e4),rfl,dd,.int (x*y),rfl,(by rw[←dO_3 (x+y) (x-y) (x*y)];exact DGet.k (k:=Sum.inr _) aD),_,rfl,_,_,rfl,rfl,p0,?_⟩;rw[BS]at q;exact q _ (N3' (I4.trans Sd)) (S04.trans (zJ0 Sd))
   . rw [oZ,show(decide ((Str.ofString "/")="=")||decide ((Str.ofString "/")="<"))=false by decide +kernel];refine dD ?_;refine⟨_,rfl,ta,_,1,_,rfl,rfl,zB0 e4,rfl,rfl,_,rfl,aU rfl ?_⟩;rw[BR]at q;refine⟨_,rfl,_,_,rfl,rfl,_,rfl,?_⟩
     by_cases cy:0<y
     . refine aU cy ?_;refine⟨_,rfl,_,rfl,_,rfl,y,z.p,rfl,rH k.gk.pr (by omega),p2,p9,cy,w2.2,_,_,rfl,rfl,.inl ⟨by omega,by omega⟩,_,rfl,_,_,rfl,rfl,p0,?_⟩;unfold qE at q;rw[zD0 (by omega)]at q;exact q _ (N3' I4) S04
     . refine au cy ?_;unfold qE at q;rw[zF0 (by omega)]at q;exact q _ (N3' I4) S04
   . rw [oZ,show(decide ((Str.ofString "=")="=")||decide ((Str.ofString "=")="<"))=true by decide +kernel];refine fq ?_;rw[BQ]at q;have second:Bz (tOp rEq (qQ 5) (qQ 6)) (tOp rEq (tOp (AC K) (qQ 0) (tC (.int 1))) (tC (.str "="))) [some (.ref ta),some (.ref d),some (.ref bb),some (.int z.p),some (.str "op"),some (.int x),some (.int y)] H4 (fun v H'=>tE [some (.ref ta),some (.ref d),some (.ref bb),some (.int z.p),some (.str "op"),some (.int x),some (.int y)] H' fun xs H''=>(∃i,v::xs=[.int i]/\Q (.int i) H'')∨∃k,v::xs=[.bl k]/\Q (.int (if k=true then 1 else 0)) H''):=by
      refine⟨_,rfl,_,rfl,rfl,_,rfl,?_⟩
      by_cases c:x=y
      . refine aU (congrArg V.int c) ?_;refine⟨_,rfl,ta,_,1,_,rfl,rfl,zB0 e4,rfl,rfl,.inr ⟨_,rfl,?_⟩⟩;rw[zF0 c]at q;show Q (.int (if decide (V.str "="=V.str "=")=true then 1 else 0)) H4;rw[decide_eq_true rfl,zF0 rfl];exact q _ (N3' I4) S04
      . refine au (fun z=>c (V.int.inj z)) ?_;refine .inr ⟨_,rfl,?_⟩;rw[zD0 c]at q;exact q _ (N3' I4) S04
     refine⟨_,rfl,_,rfl,_,_,rfl,rfl,_,rfl,?_⟩
     by_cases c:x<y
     . refine aU c ?_;refine⟨_,rfl,ta,_,1,_,rfl,rfl,zB0 e4,rfl,rfl,_,rfl,au (by decide +kernel) second⟩
     . exact au c ⟨_,rfl,dD second⟩
   . rw [oZ,show(decide ((Str.ofString "<")="=")||decide ((Str.ofString "<")="<"))=true by decide +kernel];refine fq ?_;rw[BP]at q;refine⟨_,rfl,_,rfl,_,_,rfl,rfl,_,rfl,?_⟩
     by_cases c:x<y
     . refine aU c ?_;refine⟨_,rfl,ta,_,1,_,rfl,rfl,zB0 e4,rfl,rfl,_,rfl,aU rfl (.inr ⟨_,rfl,?_⟩)⟩;rw[zF0 c]at q;exact q _ (N3' I4) S04
     . refine au c ⟨_,rfl,dD ?_⟩;rw[zD0 c]at q;refine⟨_,rfl,_,rfl,rfl,_,rfl,?_⟩
       by_cases c2:x=y
       . refine aU (congrArg V.int c2) ?_;refine⟨_,rfl,ta,_,1,_,rfl,rfl,zB0 e4,rfl,rfl,.inr ⟨_,rfl,?_⟩⟩;show Q (.int (if decide (V.str "<"=V.str "=")=true then 1 else 0)) H4;rw[decide_eq_false (by decide +kernel),zD0 (by decide)];exact q _ (N3' I4) S04
       . refine au (fun z=>c2 (V.int.inj z)) ?_;exact .inr ⟨_,rfl,q _ (N3' I4) S04⟩
theorem Am {f:Addr} {fd:FuncData}:FnOk P w K mg base CX0 16 f fd ["_law_term_here","_law_now_here","_law_boxes"] (vV 0):=by
 have no:∀vs H Q E,¬ vV 0 vs H Q E:=fun vs H Q E h=>by
  obtain⟨v,t,_,_,_,_,_,_,_,_,_,_,_,_,_,_,_,_,h1,_⟩:=h
  have:=t.depth_pos
  omega
 exact⟨fun vs H Q E h=>absurd h (no vs H Q E),fun A outer s H args us vs Q E _ _ _ _ h=>absurd h (no vs H Q E)⟩
theorem iO {f:Addr} {fd:FuncData} (F:Fun K "_law_term_worth" "_law_term_worth" bV f fd) (B:Bl mg) (m:mg "_law_term_worth"=some (.ref f)) (d8:Cal P w K mg base 1 "_law_inverse" ["_law_a","_law_p"] pW) (gP:Cal P w K mg base 15 "_law_true" ["_law_now_here","_law_at"] pS) :
 ∀n:Nat,FnOk P w K mg base CX0 (n+16) f fd ["_law_term_here","_law_now_here","_law_boxes"] (vV n)
 | 0=>Am
 | n+1=>An F B d8 gP (Cal.of F (iO F B m d8 gP n) m (fun _ _ _ _ _ _ us hl=>by obtain⟨u0,u1,u2,rfl⟩:=fY hl;rfl))
end
section
theorem NowAt.bb{H H':Hp}{d gh a b c tt kn bb:Addr}{tv:List V}{z:Ak}{m:Nat}{kvs:List (Key×V)}(h:NowAt H d gh a b c tt kn tv z m)(hb:H bb=some (.dK kvs))(n1:d≠bb)(n2:kn≠bb)(s:SameBut bb H H'):NowAt H' d gh a b c tt kn tv z m:=by
 have kT:bv H H':=fun x xs e=>s _ _ (bh e hb (by intro z;cases z)) e
 obtain⟨kv,ek,l,r⟩:=h.hk;exact⟨s _ _ n1 h.hd,h.gt.mono kT,s _ _ (bh h.hc hb (by intro z;cases z)) h.hc,s _ _ (bh h.ht hb (by intro z;cases z)) h.ht,⟨kv,s _ _ n2 ek,l,r⟩,h.dk⟩
theorem NowAt.lst{H H':Hp}{d gh a b c tt kn sd:Addr}{tv ys:List V}{z:Ak}{m:Nat}(h:NowAt H d gh a b c tt kn tv z m)(hs:H sd=some (.lst ys))(n1:c≠sd)(n2:tt≠sd)(s:SameBut sd H H'):NowAt H' d gh a b c tt kn tv z m:=by
 have kT:bv H H':=fun x xs e=>s _ _ (bh e hs (by intro z;cases z)) e
 obtain⟨kv,ek,l,r⟩:=h.hk;exact⟨s _ _ (bh h.hd hs (by intro z;cases z)) h.hd,h.gt.mono kT,s _ _ n1 h.hc,s _ _ n2 h.ht,⟨kv,s _ _ (bh ek hs (by intro z;cases z)) ek,l,r⟩,h.dk⟩
theorem mX{z:Ak}{rows:List Hr}{s:MS}(h:¬ (s.pl<(rows.length:Int)/\(s.sd.length:Int)<z.mn)):∀n,hC z rows n s=s
 | 0=>rfl
 | n+1=>by
   show(if _/\_ then _ else _)=_;rw[zD0 h]
theorem CC{z:Ak}{rows:List Hr}{s:MS}{n:Nat}(h:s.pl<(rows.length:Int)/\(s.sd.length:Int)<z.mn):hC z rows (n+1) s=hC z rows n (fE z rows s):=by
 show(if _/\_ then _ else _)=_;rw[zF0 h]
theorem Av{z:Ak}{rows:List Hr}{s:MS}{r:Hr}{j:Nat}(hp:s.pl=(j:Int))(hr:rows[j]?=some r):fE z rows s=uT z rows.length s r:=by
 unfold fE;rw[hp,qO0,hr]
def tSdE:TS:=fun Dn σ H=>∃(x0 x2 x4 x5 x6:Option V)(d gh a b c tt kn sd:Addr)(tv:List V)(z:Ak)(m:Nat)(xs:List Int),σ=[x0,some (.ref d),x2,some (.ref sd),x4,x5,x6]/\H sd=some (.lst (xs.map V.int))/\NowAt H d gh a b c tt kn tv z m/\xs.length<=500/\0<=z.mn/\z.mn<=500/\∀(l:Addr)(H':Hp),H l=none->Same H H'->H' l=some (.lst ((oF z.mn xs).map V.int))->Dn.rt (.ref l) H'
def pU:Sp:=fun vs H Q _=>∃(h bb d gh a b c tt kn:Addr)(tv:List V)(z:Ak)(rows:List Hr)(bx:Str->Int)(m mb:Nat),vs=[.ref h,.ref d,.ref bb]/\HlpAt H h rows/\NowAt H d gh a b c tt kn tv z m/\BxAt H bb bx mb/\bb≠kn/\d≠bb/\dA z.p bx/\z.ns.Nodup/\AkOk z/\(z.nr=0->z.s=0/\z.to=[])/\0<=z.mn/\z.mn<=500/\m<=500000/\mb<=10000/\
 ∀(l:Addr)(H':Hp),H l=none->H' l=some (.lst ((oF z.mn (hC z rows 200 ⟨0,bx,[]⟩).sd).map V.int))->BxAt H' bb (hC z rows 200 ⟨0,bx,[]⟩).bx (mb+200)->NowAt H' d gh a b c tt kn tv z (m+256*200)->But2 bb kn H H'->Q (.ref l) H'
theorem eE:FnScope ["_law_helper_here","_law_now_here","_law_boxes","_law_said_here","_law_at","_law_step","_law_row"] ["_law_helper_here","_law_now_here","_law_boxes"] (ae ie):=⟨rfl,rfl,rfl,by decide +kernel,rfl,by decide +kernel,by decide +kernel⟩
theorem wB {f:Addr} {fd:FuncData} (F:Fun K "_law_said" "_law_said" ie f fd) (B:Bl mg) (bX:Cal P w K mg base 24 "_law_term_worth" ["_law_term_here","_law_now_here","_law_boxes"] (vV 8)):FnOk P w K mg base CX0 25 f fd ["_law_helper_here","_law_now_here","_law_boxes"] pU:=by
 refine F.ok eE (fun vs H Q E h=>?_) (fun cdv A outer s H vs Q E hr h=>?_)
 . obtain⟨h,bb,d,gh,a,b,c,tt,kn,tv,z,rows,bx,m,mb,rfl,_⟩:=h;rfl
 obtain ⟨h,bb,d,gh,a,b,c,tt,kn,tv,z,rows,bx,m,mb,rfl,HL,N,BX,bk,db,bo,nd,k,h0,mn0,mn5,m5,mb5,q⟩:=h;have hu:=nU hr;refine⟨_,PSW.out (aF (be (i:=3) eE.nd rfl (Or.inl rfl) ⟨bL aH⟩)
  (aF (be (i:=4) eE.nd rfl (Or.inl rfl) ⟨aa⟩)
  (aF ⟨bY PassesOwn.never rfl (bt rfl B.range (af aa aH)) (bd (i:=5) eE.nd rfl (Or.inl rfl)) (ac (aJ (PW.pt (gI (ah yT (pv 4) (aE aB rfl B.len PySem.boot_len (af (pv 0) aH)) (aj _)) (gI (ah aM (aE aB rfl B.len PySem.boot_len (af (pv 3) aH)) (cc hu (pv 1) ax (fun _ _=>rfl)) (aj _)) (fV (ah aM (aq aC (aq aC (pv 0) (pv 4) (fun _ _=>rfl)) aa (fun _ _=>rfl)) ax (aj _)))))) (ad yH) az)
   (ac (am (i:=6) eE.nd rfl (Or.inl rfl) (aq aC (pv 0) (pv 4) (fun _ _=>rfl)))
   (ac (am (i:=4) eE.nd rfl (Or.inl rfl) (ag aW (pv 4) aa))
   (ad (aJ (ah aM (aq aC (pv 6) aa (fun _ _=>rfl)) ax (aj _)) (ad (ku hu (pv 2) (aq aC (pv 6) aa (fun _ _=>rfl)) (ai bX hr (by decide) rfl (af (aq aC (pv 6) aa (fun _ _=>rfl)) (af (pv 1) (af (pv 2) aH)))) rfl)) (ad (aJ (ah aM (aq aC (pv 6) aa (fun _ _=>rfl)) ax (aj _)) (ad (bE (dW PySem.F.plainAttrs_list PySem.F.slot_list_append PySem.F.type_list_append bu (pv 3) (af (ai bX hr (by decide) rfl (af (aq aC (pv 6) aa (fun _ _=>rfl)) (af (pv 1) (af (pv 2) aH)))) aH)))) (ad (aJ (PW.pt (gI (ah aM (aq aC (pv 6) aa (fun _ _=>rfl)) ax (aj _)) (fV (ah jP (ai bX hr (by decide) rfl (af (aq aC (pv 6) aa (fun _ _=>rfl)) (af (pv 1) (af (pv 2) aH)))) aa (aj _))))) (ad (am (i:=4) eE.nd rfl (Or.inl rfl) (aq aC (pv 6) (lK ja aa) (fun _ _=>rfl)))) az)))))))))⟩
  (fN (t':=tSdE) (cT (gX ⟨ag fX (pv 3) (ag yR (bL (af aa aH)) (ag aV (cc hu (pv 1) ax (fun _ _=>rfl)) (aE aB rfl B.len PySem.boot_len (af (pv 3) aH))))⟩)) (by
   rintro Dn σ H ⟨x0,x2,x4,x5,x6,d,gh,a,b,c,tt,kn,sd,tv,z,m,xs,rfl,hsd,N,xl,mn0,mn1,q⟩;refine⟨_,rfl,(by show 1<=sizeLine;decide),fun y hy=>?_⟩;have I1:=zC0 hy (.lst [.int 0]);have g1:upd H y (.lst [.int 0]) y=some (.lst [.int 0]):=aD;generalize upd H y (.lst [.int 0])=H1 at I1 g1;have el:((xs.map V.int).length:Int)=(xs.length:Int):=by rw[zH0]
   refine⟨_,rfl,d,_,rfl,(by rw[←Dd (gh:=gh) (c:=c) (tt:=tt) (kn:=kn) (z:=z)];exact DGet.k (k:=Sum.inr _) (I1 _ _ N.hd)),_,rfl,sd,_,rfl,.inl (zE0 (I1 _ _ hsd)),_,_,rfl,rfl,?_⟩;refine⟨y,_,_,rfl,rfl,g1,by omega,by omega,cp (by show 1*(z.mn-((xs.map V.int).length:Int)).toNat<=1000;omega),fun u hu=>?_⟩;rw[rC];have I2:=zC0 hu (.lst (List.replicate (z.mn-((xs.map V.int).length:Int)).toNat (.int 0)));have g2:upd H1 u (.lst (List.replicate (z.mn-((xs.map V.int).length:Int)).toNat (.int 0))) u=some (.lst (List.replicate (z.mn-((xs.map V.int).length:Int)).toNat (.int 0))):=aD;generalize upd H1 u (.lst (List.replicate (z.mn-((xs.map V.int).length:Int)).toNat (.int 0)))=H2 at I2 g2;refine⟨sd,u,_,_,rfl,rfl,I2 _ _ (I1 _ _ hsd),g2,?_,fun l hl=>?_⟩
   . rw[List.length_replicate,zH0];exact cp (by omega)
   refine q l _ ((I1.trans I2).free hl) (I1.trans (I2.trans (zC0 hl _))) ?_;rw[aD,el];unfold oF;rw[zK0,List.map_replicate]))))),?_⟩
 obtain⟨R,hR⟩:∃R,R=hC z rows 200 ⟨0,bx,[]⟩:=⟨_,rfl⟩
 rw[←hR]at q;obtain⟨kv0,ek0,_⟩:=id N.hk;obtain⟨kb0,eb0,_⟩:=id BX;have kT0:∀{H':Hp},But2 bb kn H H'->bv H H':=fun s x xs e=>s _ _ (bh e eb0 (by intro z;cases z)) (bh e ek0 (by intro z;cases z)) e
 refine ⟨(by show 0<=sizeLine;decide),fun sd hsd=>?_⟩;have I1:=zC0 hsd (.lst []);have g1:upd H sd (.lst []) sd=some (.lst (([]:List Int).map V.int)):=aD;have ncs:c≠sd:=aO N.hc hsd;have nts:tt≠sd:=aO N.ht hsd;have nbs:bb≠sd:=aO eb0 hsd;have nks:kn≠sd:=aO ek0 hsd;generalize upd H sd (.lst [])=H1 at I1 g1;have fin:∀(at':Int)(bx':Str->Int)(xs:List Int)(i:Nat)(x4 x5 x6:Option V)(H':Hp),i<=200->H' sd=some (.lst (xs.map V.int))->NowAt H' d gh a b c tt kn tv z (m+256*i)->BxAt H' bb bx' (mb+i)->R.bx=bx'->R.sd=xs->(xs.length:Int)<=z.mn->But2 bb kn H H'->tSdE { nx:=fun _ H'=>Q .non H',rt:=Q } [some (.ref h),some (.ref d),some (.ref bb),some (.ref sd),x4,x5,x6] H':=fun at' bx' xs i x4 x5 x6 H' hi hs N' BX' e1 e2 xl b2=>by
  refine ⟨_,_,_,_,_,d,gh,a,b,c,tt,kn,sd,tv,z,_,xs,rfl,hs,N',by omega,mn0,mn5,fun l H'' hl S'' hl'=>?_⟩;rw[e1,e2]at q;have l0:H l=none:=by
   cases eh:H l with
   | none=>rfl
   | some o=>
     obtain⟨kv',ek',_⟩:=N'.hk;obtain⟨kb',eb',_⟩:=BX';rw[b2 l o (fun z=>by rw[z,eb']at hl;cases hl) (fun z=>by rw[z,ek']at hl;cases hl) eh]at hl;cases hl
  exact q l H'' l0 hl' ((BX'.keep fun o e=>S'' _ _ e).le (by omega)) (N'.up S'' (by omega)) (b2.trans (But2.of S''))
 refine ⟨_,rfl,by decide,by decide,cS (fun i σ H'=>∃(at':Int)(bx':Str->Int)(xs:List Int)(x5 x6:Option V),σ=[some (.ref h),some (.ref d),some (.ref bb),some (.ref sd),some (.int at'),x5,x6]/\H' sd=some (.lst (xs.map V.int))/\NowAt H' d gh a b c tt kn tv z (m+256*i)/\BxAt H' bb bx' (mb+i)/\dA z.p bx'/\hC z rows (200-i) ⟨at',bx',xs⟩=R/\0<=at'/\(xs.length:Int)<=z.mn/\But2 bb kn H H')
  ⟨0,bx,[],_,_,rfl,g1,N.up I1 (by omega),BX.keep (fun o e=>I1 _ _ e),bo,hR.symm,Int.le_refl 0,mn0,But2.of I1⟩ ?_ ?_⟩
 . rintro i σ H2 hi ⟨at',bx',xs,x5,x6,rfl,hs,N2,BX2,bo2,eR,a0,xl,b2⟩;have hi2:i<200:=hi;have kT2:=kT0 b2;obtain⟨⟨rv,hh,RW⟩,rg⟩:=HL.mono kT2;have rl:=RW.1;obtain⟨n,hn⟩:∃n,200-i=n+1:=⟨199-i,by omega⟩
   have hn1:200-(i+1)=n:=by omega
   rw[hn]at eR;have gg:∀{H':Hp}{x:Str}{v:V},H' d=some (.dK (iU gh c tt kn z))->bQ (iU gh c tt kn z) (Sum.inr x)=some v->DGet H' d (.str x) (some v):=fun h e=>by rw[←e];exact DGet.k (k:=Sum.inr _) h
   have xlm:((xs.map V.int).length:Int)=(xs.length:Int):=by rw[zH0]
   refine⟨_,rfl,_,rfl,h,_,rfl,.inr (zB0 hh),_,_,rfl,rfl,_,rfl,?_⟩
   by_cases c1:(rv.length:Int)<=at'
   . refine aU c1 ?_;have st:=mX (z:=z) (rows:=rows) (s:=⟨at',bx',xs⟩) (fun hh=>by have:=hh.1;rw[←rl]at this;have h2:at'<(rv.length:Int):=this;omega) (n+1);rw[st]at eR;exact fin at' bx' xs i _ _ _ H2 (by omega) hs N2 BX2 (by rw[←eR]) (by rw[←eR]) xl b2
   refine au c1 ?_;refine⟨_,rfl,sd,_,rfl,.inl (zE0 hs),_,rfl,d,_,rfl,gg N2.hd Dd,rfl,_,rfl,?_⟩
   by_cases c2:(xs.length:Int)=z.mn
   . refine aU (by rw[xlm,c2]) ?_;have st:=mX (z:=z) (rows:=rows) (s:=⟨at',bx',xs⟩) (fun hh=>by have h2:(xs.length:Int)<z.mn:=hh.2;omega) (n+1);rw[st]at eR;exact fin at' bx' xs i _ _ _ H2 (by omega) hs N2 BX2 (by rw[←eR]) (by rw[←eR]) xl b2
   refine au (fun e=>c2 (by have:=V.int.inj e;omega)) ?_;obtain⟨j,rfl⟩:∃j:Nat,at'=(j:Int):=⟨at'.toNat,by omega⟩
   have hj:j<rv.length:=by omega
   have hv:=zQ0 hj;generalize rv[j]=v at hv;have hrj:rows[j]?=some (rows[j]'(by omega)):=zQ0 _;generalize rows[j]'(by omega)=r at hrj;have HR:=RW.2 j v r hv hrj;have gr:=rg r (qE0 hrj);have eS:=Av (z:=z) (s:=⟨(j:Int),bx',xs⟩) rfl hrj;have eG:=CC (z:=z) (rows:=rows) (n:=n) (s:=⟨(j:Int),bx',xs⟩) ⟨by show(j:Int)<_;omega,by show(xs.length:Int)<_;omega⟩;rw[eG,eS]at eR;have m5':m+256*i+2 ^ 8<=1000000:=by have:2 ^ 8=256:=rfl;omega
   have nx:∀{at2:Int}{bx2:Str->Int}{xs2:List Int}{x5' x6':Option V}{H3:Hp},H3 sd=some (.lst (xs2.map V.int))->NowAt H3 d gh a b c tt kn tv z (m+256*i+2 ^ 8)->BxAt H3 bb bx2 (mb+(i+1))->dA z.p bx2->uT z rows.length ⟨(j:Int),bx',xs⟩ r=⟨at2,bx2,xs2⟩->0<=at2->(xs2.length:Int)<=z.mn->But2 bb kn H H3->∃(at':Int)(bx':Str->Int)(xs:List Int)(x5 x6:Option V),[some (V.ref h),some (.ref d),some (.ref bb),some (.ref sd),some (.int at2),x5',x6']=[some (V.ref h),some (.ref d),some (.ref bb),some (.ref sd),some (.int at'),x5,x6]/\H3 sd=some (.lst (xs.map V.int))/\NowAt H3 d gh a b c tt kn tv z (m+256*(i+1))/\BxAt H3 bb bx' (mb+(i+1))/\dA z.p bx'/\hC z rows (200-(i+1)) ⟨at',bx',xs⟩=R/\0<=at'/\(xs.length:Int)<=z.mn/\But2 bb kn H H3:=fun h1 h2 h3 h4 h5 h6 h7 h8=>⟨_,_,_,_,_,rfl,h1,h2.up (Same.refl _) (by have:2 ^ 8=256:=rfl;omega),h3,h4,by rw[hn1,←eR,h5],h6,h7,h8⟩
   have hat:atI rv (j:Int)=some v:=cg hv;have N2u:=N2.up (Same.refl H2) (show m+256*i<=m+256*i+2 ^ 8 by omega);cases HR with
   | @fin ta e=>
     refine⟨_,rfl,_,rfl,h,_,_,_,rfl,rfl,zB0 hh,hat,ta,_,0,_,rfl,rfl,zB0 e,rfl,rfl,_,rfl,aU rfl ?_⟩;have st:=mX (z:=z) (rows:=rows) (s:=⟨(rows.length:Int),bx',xs⟩) (fun hh=>absurd hh.1 (Int.lt_irrefl _)) n;have eR':hC z rows n ⟨(rows.length:Int),bx',xs⟩=R:=eR;rw[st]at eR';exact fin (j:Int) bx' xs i _ _ _ H2 (by omega) hs N2 BX2 (by rw[←eR']) (by rw[←eR']) xl b2
   | @go ta g e=>
     refine⟨_,rfl,_,rfl,h,_,_,_,rfl,rfl,zB0 hh,hat,ta,_,0,_,rfl,rfl,zB0 e,rfl,rfl,_,rfl,au (by decide +kernel) ?_⟩;refine⟨_,rfl,_,rfl,h,_,_,_,rfl,rfl,zB0 hh,hat,?_⟩;refine⟨_,rfl,_,_,rfl,rfl,?_⟩;refine⟨_,rfl,ta,_,0,_,rfl,rfl,zB0 e,rfl,rfl,_,rfl,au (by decide +kernel) ?_⟩;refine⟨_,rfl,ta,_,0,_,rfl,rfl,zB0 e,rfl,rfl,_,rfl,au (by decide +kernel) ?_⟩;refine⟨_,rfl,ta,_,0,_,rfl,rfl,zB0 e,rfl,rfl,_,rfl,aU rfl ?_⟩;refine⟨_,rfl,_,rfl,ta,_,_,.int g,rfl,rfl,zB0 e,rfl,?_⟩;exact nx hs N2u (BX2.le (by omega)) bo2 rfl gr xl b2
   | @iff ta t u g e T=>
     obtain⟨tg,td,g0⟩:=gr;refine⟨_,rfl,_,rfl,h,_,_,_,rfl,rfl,zB0 hh,hat,ta,_,0,_,rfl,rfl,zB0 e,rfl,rfl,_,rfl,au (by decide +kernel) ?_⟩;refine⟨_,rfl,_,rfl,h,_,_,_,rfl,rfl,zB0 hh,hat,?_⟩;refine⟨_,rfl,_,_,rfl,rfl,?_⟩;refine⟨_,rfl,ta,_,0,_,rfl,rfl,zB0 e,rfl,rfl,_,rfl,au (by decide +kernel) ?_⟩;refine⟨_,rfl,ta,_,0,_,rfl,rfl,zB0 e,rfl,rfl,_,rfl,au (by decide +kernel) ?_⟩;refine⟨_,rfl,ta,_,0,_,rfl,rfl,zB0 e,rfl,rfl,_,rfl,au (by decide +kernel) ?_⟩;refine⟨_,rfl,ta,_,1,_,rfl,rfl,zB0 e,rfl,_,rfl,_,rfl,_,u,bb,d,gh,a,b,c,tt,kn,tv,z,bx',_,_,rfl,T,tg,td,N2,BX2,bk,bo2,nd,k,h0,m5',fun H3 N3 S3=>⟨rfl,_,rfl,?_⟩⟩;have b3:But2 bb kn H H3:=fun x o n1 n2 e=>S3 _ _ n2 (b2 x o n1 n2 e)
     have hs3:=S3 _ _ nks.symm hs;have BX3:=BX2.keep (fun o e=>S3 _ _ bk e)
     by_cases cw:u.worth z bx'=0
     . refine Ca (congrArg V.int cw) ?_;exact nx hs3 N3 (BX3.le (by omega)) bo2 (by show(⟨if u.worth z bx'=0 then(j:Int)+1 else g,bx',xs⟩:MS)=_;rw[zF0 cw]) (by omega) xl b3
     . refine Bf (fun z=>cw (V.int.inj z)) ?_;refine⟨_,rfl,_,rfl,ta,_,_,.int g,rfl,rfl,zB0 (N2.kT S3 _ _ e),rfl,?_⟩;exact nx hs3 N3 (BX3.le (by omega)) bo2 (by show(⟨if u.worth z bx'=0 then(j:Int)+1 else g,bx',xs⟩:MS)=_;rw[zD0 cw]) g0 xl b3
   | @set ta x t u e T=>
     obtain⟨tg,td⟩:=gr;refine⟨_,rfl,_,rfl,h,_,_,_,rfl,rfl,zB0 hh,hat,ta,_,0,_,rfl,rfl,zB0 e,rfl,rfl,_,rfl,au (by decide +kernel) ?_⟩;refine⟨_,rfl,_,rfl,h,_,_,_,rfl,rfl,zB0 hh,hat,?_⟩;refine⟨_,rfl,_,_,rfl,rfl,?_⟩;refine⟨_,rfl,ta,_,0,_,rfl,rfl,zB0 e,rfl,rfl,_,rfl,aU rfl ?_⟩;refine⟨_,rfl,ta,_,2,_,rfl,rfl,zB0 e,rfl,_,rfl,_,rfl,_,u,bb,d,gh,a,b,c,tt,kn,tv,z,bx',_,_,rfl,T,tg,td,N2,BX2,bk,bo2,nd,k,h0,m5',fun H3 N3 S3=>?_⟩;have b3:But2 bb kn H H3:=fun x o n1 n2 e=>S3 _ _ n2 (b2 x o n1 n2 e)
     have hs3:=S3 _ _ nks.symm hs;obtain⟨kvs,eb,lb,hx⟩:=BX2.keep (fun o e=>S3 _ _ bk e);have wr:=Tm.worth_rng k bo2 u;refine⟨_,rfl,_,rfl,ta,_,1,_,rfl,rfl,zB0 (N2.kT S3 _ _ e),rfl,bb,_,rfl,DPut.k (k:=Sum.inr x) eb (by have:sizeLine=16777216:=rfl;omega),?_⟩;have pl:=dX kvs (Sum.inr x) (.int (u.worth z bx'));have S4:SameBut bb H3 (upd H3 bb (.dK (fj kvs (Sum.inr x) (.int (u.worth z bx'))))):=SameBut.upd _;exact nx (by rw[ao nbs.symm];exact hs3) (N3.bb eb db bk.symm S4) ⟨_,aD,by omega,zX x _ hx⟩ (sP bo2 wr.1 wr.2) rfl (by omega) xl (fun y o n1 n2 e=>S4 _ _ n1 (b3 y o n1 n2 e))
   | @say ta t u e T=>
     obtain⟨tg,td⟩:=gr;refine⟨_,rfl,_,rfl,h,_,_,_,rfl,rfl,zB0 hh,hat,ta,_,0,_,rfl,rfl,zB0 e,rfl,rfl,_,rfl,au (by decide +kernel) ?_⟩;refine⟨_,rfl,_,rfl,h,_,_,_,rfl,rfl,zB0 hh,hat,?_⟩;refine⟨_,rfl,_,_,rfl,rfl,?_⟩;refine⟨_,rfl,ta,_,0,_,rfl,rfl,zB0 e,rfl,rfl,_,rfl,au (by decide +kernel) ?_⟩;refine⟨_,rfl,ta,_,0,_,rfl,rfl,zB0 e,rfl,rfl,_,rfl,aU rfl ?_⟩;refine⟨_,rfl,.inl ⟨rfl,_,zE0 hs⟩,_,rfl,ta,_,1,_,rfl,rfl,zB0 e,rfl,_,rfl,_,rfl,_,u,bb,d,gh,a,b,c,tt,kn,tv,z,bx',_,_,rfl,T,tg,td,N2,BX2,bk,bo2,nd,k,h0,m5',fun H3 N3 S3=>?_⟩;have b3:But2 bb kn H H3:=fun x o n1 n2 e=>S3 _ _ n2 (b2 x o n1 n2 e)
     have hs3:=S3 _ _ nks.symm hs;have BX3:=BX2.keep (fun o e=>S3 _ _ bk e);have S4:SameBut sd H3 (upd H3 sd (.lst (xs.map V.int++[.int (u.worth z bx')]))):=SameBut.upd _;refine⟨sd,_,_,rfl,rfl,hs3,aS (by rw[zH0];omega),?_⟩;exact nx (by rw[aD,zK0];rfl) (N3.lst hs3 ncs nts S4) ((BX3.keep fun o e=>S4 _ _ nbs e).le (by omega)) bo2 rfl (by omega) (by rw[zL0];show(((xs.length+1:Nat)):Int)<=_;omega) (fun y o n1 n2 e=>by rw[ao (aO e hsd)];exact b3 y o n1 n2 e)
 . rintro σ H2 ⟨at',bx',xs,x5,x6,rfl,hs,N2,BX2,bo2,eR,a0,xl,b2⟩;have eR':hC z rows 0 ⟨at',bx',xs⟩=R:=eR;exact fin at' bx' xs 200 _ _ _ H2 (zG0 _) hs N2 BX2 (by rw[←eR'];rfl) (by rw[←eR'];rfl) xl b2
end
section
variable {CM CA CG:Addr}
def n6 (gh c:Addr) (z:Ak):List (Key×V):=[(Sum.inr "game",.ref gh),(Sum.inr "round",.int z.nr),(Sum.inr "asked",.int z.mn),(Sum.inr "due",.int z.hd),(Sum.inr "s",.int z.s),(Sum.inr "coins",.ref c)]
theorem zw(gh c:Addr)(z:Ak):eD [] (n6 gh c z)=n6 gh c z:=by with_unfolding_all rfl
def n7 (gh c tt:Addr) (z:Ak):List (Key×V):=n6 gh c z++([(Sum.inr "tossed",.ref tt)]:List (Key×V))
theorem Di (gh c tt:Addr) (z:Ak):fj (n6 gh c z) (Sum.inr "tossed") (.ref tt)=n7 gh c tt z:=by with_unfolding_all rfl
theorem Dh (gh c tt kn:Addr) (z:Ak):fj (n7 gh c tt z) (Sum.inr "known") (.ref kn)=iU gh c tt kn z:=by with_unfolding_all rfl
theorem yO{X:Cx}{k1 k2 k3 k4 k5 k6:_}{p1 p2 p3 p4 p5 p6 pd:Pos}{x1 x2 x3 x4 x5 x6:Str}{v1 v2 v3 v4 v5 v6:Expr}{t1 t2 t3 t4 t5 t6:TE}(e1:PE X v1 t1)(e2:PE X v2 t2)(e3:PE X v3 t3)(e4:PE X v4 t4)(e5:PE X v5 t5)(e6:PE X v6 t6) :
 PE X (.Dict [some (.Constant (.str x1) k1 p1),some (.Constant (.str x2) k2 p2),some (.Constant (.str x3) k3 p3),some (.Constant (.str x4) k4 p4),some (.Constant (.str x5) k5 p5),some (.Constant (.str x6) k6 p6)] [v1,v2,v3,v4,v5,v6] pd) (xN [(tC (.str x1),t1),(tC (.str x2),t2),(tC (.str x3),t3),(tC (.str x4),t4),(tC (.str x5),t5),(tC (.str x6),t6)]):=
 qm (cD ax e1 (cD ax e2 (cD ax e3 (cD ax e4 (cD ax e5 (cD ax e6 qg)))))) rfl rfl (by simp) (by show 6<=15;decide)
def tNw:TS:=fun Dn σ H=>∃(x7:Option V)(gh a b co tt:Addr)(tv:List V)(z:Ak),σ=[some (.ref gh),some (.int z.nr),some (.int z.mn),some (.int z.hd),some (.int z.s),some (.ref co),some (.ref tt),x7]/\GmT H gh a b z.ns tv z.ts z.p/\H co=some (.lst (z.to.map V.int))/\H tt=some (.lst ((gi z).map V.int))/\
 ∀(d c kn:Addr)(H':Hp),H d=none->H c=none->H kn=none->NowAt H' d gh a b c tt kn tv z 0->Same H H'->Dn.rt (.ref d) H'
def xZ:Sp:=fun vs H Q _=>∃(gh a b co:Addr)(tv:List V)(z:Ak),vs=[.ref gh,.int z.nr,.int z.mn,.int z.hd,.int z.s,.ref co]/\GmT H gh a b z.ns tv z.ts z.p/\H co=some (.lst (z.to.map V.int))/\z.to.length<=100/\
 ∀(d c tt kn:Addr)(H':Hp),H d=none->H c=none->H tt=none->H kn=none->NowAt H' d gh a b c tt kn tv z 0->Same H H'->Q (.ref d) H'
theorem lH:FnScope ["_law_game","_law_number","_law_many","_law_due","_law_s","_law_coins","_law_tossed","_law_now_here"] ["_law_game","_law_number","_law_many","_law_due","_law_s","_law_coins"] (ae jA):=⟨rfl,rfl,rfl,by decide +kernel,rfl,by decide +kernel,by decide +kernel⟩
theorem yZ {f:Addr} {fd:FuncData} (F:Fun K "_law_now" "_law_now" jA f fd) (B:Bl mg):FnOk P w K mg base CX0 1 f fd ["_law_game","_law_number","_law_many","_law_due","_law_s","_law_coins"] xZ:=by
 refine F.ok lH (fun vs H Q E h=>?_) (fun cdv A outer s H vs Q E hr h=>?_)
 . obtain⟨gh,a,b,co,tv,z,rfl,_⟩:=h;rfl
 obtain ⟨gh,a,b,co,tv,z,rfl,G,hco,tl,q⟩:=h;have hu:=nU hr;refine⟨_,PSW.out (aF (be (i:=6) lH.nd rfl (Or.inl rfl) ⟨bF iM rfl B.list iN (af (pv 5) aH)⟩)
  (aF (fB (PW.pt (lh (ah iz (pv 1) aa (aj _)) (kq (ah iz (aE aB rfl B.len PySem.boot_len (af (aq aC (pv 0) aa (fun _ _=>rfl)) aH)) aa (aj _))))) ⟨ad (am (i:=6) lH.nd rfl (Or.inl rfl) (ag fX (bL (af (pv 4) aH)) (pv 6)))⟩ cY)
  (fN (t':=tNw) (aF (be (i:=7) lH.nd rfl (Or.inl rfl) ⟨yO (pv 0) (pv 1) (pv 2) (pv 3) (pv 4) (bF iM rfl B.list iN (af (pv 5) aH))⟩)
  (aF ⟨ku hu (pv 7) ax (pv 6) rfl⟩
  (aF ⟨ku hu (pv 7) ax jn rfl⟩
  (cT (gX ⟨pv 7⟩))))) (by
   rintro Dn σ H ⟨x7,gh,a,b,co,tt,tv,z,rfl,G,hco,htt,q⟩;refine fun d hd=>?_
   have I1:=zC0 hd (.dK []);refine⟨_,rfl,_,rfl,_,rfl,_,rfl,_,rfl,_,rfl,co,_,rfl,.inl (zE0 (I1 _ _ hco)),fun c hc=>?_⟩;have cd:c≠d:=fun e=>by rw[e,aD]at hc;cases hc
   have c0:H c=none:=I1.free hc;refine⟨by rw[ao cd.symm];exact aD,n6 gh c z,rfl,by show 6<=15;decide,?_⟩;rw[zw];have I3:Same H (upd (upd (upd H d (.dK [])) c (.lst (z.to.map V.int))) d (.dK (n6 gh c z))):=fun x o e=>by
    rw[ao (aO e hd),ao (aO e c0),ao (aO e hd)];exact e
   have gc:upd (upd (upd H d (.dK [])) c (.lst (z.to.map V.int))) d (.dK (n6 gh c z)) c=some (.lst (z.to.map V.int)):=by rw[ao cd];exact aD
   have gd:upd (upd (upd H d (.dK [])) c (.lst (z.to.map V.int))) d (.dK (n6 gh c z)) d=some (.dK (n6 gh c z)):=aD;generalize upd (upd (upd H d (.dK [])) c (.lst (z.to.map V.int))) d (.dK (n6 gh c z))=H3 at I3 gc gd;refine⟨_,rfl,_,rfl,d,_,rfl,DPut.k (k:=Sum.inr "tossed") gd (by show 6<sizeLine;decide),?_⟩;rw[Di];have I4:Same H (upd H3 d (.dK (n7 gh c tt z))):=fun x o e=>by
    rw[ao (aO e hd)];exact I3 _ _ e
   have gc4:upd H3 d (.dK (n7 gh c tt z)) c=some (.lst (z.to.map V.int)):=by rw[ao cd];exact gc
   have gd4:upd H3 d (.dK (n7 gh c tt z)) d=some (.dK (n7 gh c tt z)):=aD;generalize upd H3 d (.dK (n7 gh c tt z))=H4 at I4 gc4 gd4;refine fun kn hkn=>?_
   have kd:kn≠d:=(aO gd4 hkn).symm;have ck:c≠kn:=aO gc4 hkn;have kn0:H kn=none:=I4.free hkn;refine⟨_,rfl,d,_,rfl,DPut.k (k:=Sum.inr "known") (by rw[ao kd.symm];exact gd4) (by show 7<sizeLine;decide),?_⟩;rw[Dh];have I6:Same H (upd (upd H4 kn (.dK [])) d (.dK (iU gh c tt kn z))):=fun x o e=>by
    rw[ao (aO e hd),ao (aO e kn0)];exact I4 _ _ e
   refine⟨_,rfl,q d c kn _ hd c0 kn0 ⟨aD,G.mono (aY I6),by rw[ao cd,ao ck];exact gc4,I6 _ _ htt,⟨[],by rw[ao kd];exact aD,zG0 _,fun i v h=>by cases h⟩,kd.symm⟩ I6⟩)))),?_⟩
 have vl:=G.tr.length;refine⟨_,rfl,co,_,rfl,.inl (zE0 hco),fun t0 ht0=>?_⟩;have I1:=zC0 ht0 (.lst (z.to.map V.int));have g1:upd H t0 (.lst (z.to.map V.int)) t0=some (.lst (z.to.map V.int)):=aD;generalize upd H t0 (.lst (z.to.map V.int))=H1 at I1 g1;have G1:=G.mono (aY I1);have fin:∀(tt:Addr)(H2:Hp)(T:List Int),T=gi z->H tt=none->Same H H2->H2 tt=some (.lst (T.map V.int))->tNw { nx:=fun _ H'=>Q .non H',rt:=Q } [some (.ref gh),some (.int z.nr),some (.int z.mn),some (.int z.hd),some (.int z.s),some (.ref co),some (.ref tt),none] H2:=fun tt H2 T eT tt0 S2 h2=>by
  subst eT;exact⟨_,gh,a,b,co,tt,tv,z,rfl,G.mono (aY S2),S2 _ _ hco,h2,fun d c kn H' d0 c0 k0 N S'=>q d c tt kn H' (S2.free d0) (S2.free c0) tt0 (S2.free k0) N (S2.trans S')⟩
 refine⟨_,rfl,_,_,rfl,rfl,_,rfl,?_⟩
 by_cases c1:0<z.nr
 . refine aU c1 ?_;refine⟨_,rfl,gh,_,1,_,rfl,rfl,zB0 G1.hg,rfl,b,_,rfl,.inr (zB0 G1.hb),_,_,rfl,rfl,_,rfl,?_⟩
   by_cases c2:1<z.ts.length
   . refine aU (by rw[vl];omega) ?_;refine⟨_,rfl,(by show 1<=sizeLine;decide),fun u hu=>?_⟩;have I2:=zC0 hu (.lst [.int z.s]);refine⟨_,rfl,u,t0,_,_,rfl,rfl,aD,I2 _ _ g1,cp (by rw[zH0];show 1+z.to.length<=1000;omega),fun tt htt=>?_⟩;have I3:=zC0 htt (.lst ([V.int z.s]++z.to.map V.int));exact fin tt _ (z.s::z.to) (by unfold gi;rw[zF0 ⟨c1,c2⟩];rfl) ((I1.trans I2).free htt) (I1.trans (I2.trans I3)) aD
   . refine au (by rw[vl];omega) ?_;exact fin t0 _ z.to (by unfold gi;rw[zD0 (fun h=>c2 h.2)];rfl) ht0 I1 g1
 . refine au c1 ?_;exact fin t0 _ z.to (by unfold gi;rw[zD0 (fun h=>c1 h.1)];rfl) ht0 I1 g1
end
section
def jS(n:Nat):Sp:=fun vs H Q _=>∃(f b:Addr)(bs:List Str)(room deep:Int),vs=[.ref f,.ref b,.int room,.int deep]/\FeedAt H f/\H b=some (.lst (bs.map V.str))/\b≠f/\1<=bs.length/\bs.length<=100/\1<=room/\room<=100/\1<=deep/\deep<=(n:Int)/\
 ∀(v:V)(t:Tm)(H':Hp),TmAt H' v t->t.good->(t.depth:Int)<=deep->FeedAt H' f->SameBut f H H'->Q v H'
theorem gZ:FnScope ["_law_feed_here","_law_boxes","_law_room","_law_deep","_law_form","_law_plain","_law_more","_law_one"] ["_law_feed_here","_law_boxes","_law_room","_law_deep"] (ae gG):=⟨rfl,rfl,rfl,by decide +kernel,rfl,by decide +kernel,by decide +kernel⟩
theorem Ay:∀c∈(("+-*/=<":Str)).cps.toList,(⟨#[c]⟩:Str)∈jN:=by decide +kernel
theorem yq:(("+-*/=<":Str)).cps.toList.length=6:=by decide +kernel
theorem at1(x y:V)(xs:List V):atI (x::y::xs) 1=some y:=cg (j:=1) rfl
def tLeaf:TS:=fun Dn σ H=>∃(x2 x3 x5 x6 x7:Option V)(f b:Addr)(bs:List Str)(fm:Int),σ=[some (.ref f),some (.ref b),x2,x3,some (.int fm),x5,x6,x7]/\FeedAt H f/\H b=some (.lst (bs.map V.str))/\b≠f/\1<=bs.length/\bs.length<=100/\∀(v:V)(t:Tm)(H':Hp),TmAt H' v t->t.good->t.depth=1->FeedAt H' f->SameBut f H H'->Dn.rt v H'
def tAskT(n:Nat):TS:=fun Dn σ H=>∃(x4 x5 x6 x7:Option V)(f b:Addr)(bs:List Str)(room deep:Int),σ=[some (.ref f),some (.ref b),some (.int room),some (.int deep),x4,x5,x6,x7]/\FeedAt H f/\H b=some (.lst (bs.map V.str))/\b≠f/\1<=bs.length/\bs.length<=100/\2<=room/\room<=100/\2<=deep/\deep<=(n:Int)+1/\∀(v:V)(t:Tm)(H':Hp),TmAt H' v t->t.good->(t.depth:Int)<=deep->FeedAt H' f->SameBut f H H'->Dn.rt v H'
theorem CI{X:Cx}{c:Expr}{a b:List Stmt}{tc:TT}{t u:TS}{pos:Pos}(hc:PT X c tc)(ha:PSW X a t)(hb:PSs X b u):PS X (.If c a b pos) (Co tc t u):=aJ hc ha.out hb
theorem zF{X:Cx}{i:Nat}{x:Str}{pos' pos p:Pos}{e1 e2 e3 e4 e5:Expr}{t1 t2 t3 t4 t5:TE}{rest:List Stmt}{u t':TS}(hN:X.N.Nodup)(hi:X.N[i]?=some x)(hx:Loc X.env.scope x)(h1:PE X e1 t1)(h2:PE X e2 t2)(h3:PE X e3 t3)(h4:PE X e4 t4)(h5:PE X e5 t5)(hr:PSs X rest u)
 (hw:∀D σ H,t' D σ H->qR (xR (Cm (jY t1 (jY t2 (jY t3 (jY t4 (jY t5 tE)))))) (sD i)) u D σ H)
 (s1:starEach [e1,e2,e3,e4,e5] X.env=(false,eval e1 X.env)::starEach [e2,e3,e4,e5] X.env:=by rfl) (s2:starEach [e2,e3,e4,e5] X.env=(false,eval e2 X.env)::starEach [e3,e4,e5] X.env:=by rfl) (s3:starEach [e3,e4,e5] X.env=(false,eval e3 X.env)::starEach [e4,e5] X.env:=by rfl) (s4:starEach [e4,e5] X.env=(false,eval e4 X.env)::starEach [e5] X.env:=by rfl) (s5:starEach [e5] X.env=(false,eval e5 X.env)::starEach [] X.env:=by rfl)
 (hf:X.fn x=true∨X.env.scope.names.lookup x=some .local:=by first | exact .inl rfl | exact .inr rfl):PSW X (.Assign [.Name x pos'] (.List [e1,e2,e3,e4,e5] p) pos::rest) t':=
 ⟨kt (ac (am hN hi hx (bL (af h1 (af h2 (af h3 (af h4 (af h5 aH s5) s4) s3) s2) s1)) rfl hf) hr) hw⟩
theorem Aq {n:Nat} {fA:Addr} {fd:FuncData} (F:Fun K "_law_term" "_law_term" gG fA fd) (B:Bl mg) (ba:Cal P w K mg base 1 "_law_take" ["_law_feed_here","_law_many"] gD) (bZ:Cal P w K mg base (n+2) "_law_term" ["_law_feed_here","_law_boxes","_law_room","_law_deep"] (jS n)):FnOk P w K mg base CX0 (n+3) fA fd ["_law_feed_here","_law_boxes","_law_room","_law_deep"] (jS (n+1)):=by
 refine F.ok gZ (fun vs H Q E h=>?_) (fun cdv A outer s H vs Q E hr h=>?_)
 . obtain⟨f,b,bs,room,deep,rfl,_⟩:=h;rfl
 obtain⟨f,b,bs,room,deep,rfl,F0,hb,nb,b1,b2,r1,r2,d1,d2,q⟩:=h;have hp12:(10:Int) ^ (12:Int).toNat=1000000000000:=by decide
 refine ⟨_,(ac (am (i:=4) gZ.nd rfl (Or.inl rfl) (ai ba hr (by omega) rfl (af (pv 0) (af aa aH))))
  (ac (CI (PW.pt (gI (ah df (pv 2) aa (aj _)) (gI (ah df (pv 3) aa (aj _)) (fV (ah df (pv 4) aa (aj _)))))) (zF (t':=tLeaf) (i:=5) gZ.nd rfl (Or.inl rfl) (aX (af ax aH)) (aX (af ax aH)) (aX (af ax aH)) (aX (af ax (af (ai ba hr (by omega) rfl (af (pv 0) (af aa aH))) aH))) (aX (af ax (af (ai ba hr (by omega) rfl (af (pv 0) (af (ag tY aa aa) aH))) aH)))
   (ac (aJ (ah aM (pv 4) aa (aj _)) (ad (av (aX (af ax (af (aq ix_list (pv 1) (ai ba hr (by omega) rfl (af (pv 0) (af (aE (x:="len") aB rfl B.len PySem.boot_len (af (pv 1) aH)) aH))) (fun _ _=>rfl)) aH))))) az)
   (ad (av (aq ix_list (pv 5) (ai ba hr (by omega) rfl (af (pv 0) (af aa aH))) (fun _ _=>rfl))))) (by
    rintro Dn σ H ⟨x2,x3,x5,x6,x7,f,b,bs,fm,rfl,F0,hb,nb,b1,b2,q⟩;refine⟨(by show 1<=sizeLine;decide),fun p1 hp1=>⟨(by show 1<=sizeLine;decide),fun p2 hp2=>⟨(by show 1<=sizeLine;decide),fun p3 hp3=>?_⟩⟩⟩;have g1:=zC0 hp1 (.tup [.str "round"]);have g2:=zC0 hp2 (.tup [.str "due"]);have g3:=zC0 hp3 (.tup [.str "asked"]);have e1:upd (upd (upd H p1 (.tup [.str "round"])) p2 (.tup [.str "due"])) p3 (.tup [.str "asked"]) p1=some (.tup [.str "round"]):=g3 _ _ (g2 _ _ aD);have e2:upd (upd (upd H p1 (.tup [.str "round"])) p2 (.tup [.str "due"])) p3 (.tup [.str "asked"]) p2=some (.tup [.str "due"]):=g3 _ _ aD;have e3:upd (upd (upd H p1 (.tup [.str "round"])) p2 (.tup [.str "due"])) p3 (.tup [.str "asked"]) p3=some (.tup [.str "asked"]):=aD;have S3:=g1.trans (g2.trans g3);generalize upd (upd (upd H p1 (.tup [.str "round"])) p2 (.tup [.str "due"])) p3 (.tup [.str "asked"])=H3 at e1 e2 e3 S3;refine⟨_,rfl,f,5,rfl,F0.same S3,by decide,by decide,fun w1 H4 _ _ F4 B4=>⟨(by show 2<=sizeLine;decide),fun p4 hp4=>?_⟩⟩;have k4:=aQ (F0.same S3) B4;have g4:=zC0 hp4 (.tup [.str "num",.int w1]);have e4:upd H4 p4 (.tup [.str "num",.int w1]) p4=some (.tup [.str "num",.int w1]):=aD;generalize upd H4 p4 (.tup [.str "num",.int w1])=H5 at g4 e4;refine⟨_,rfl,_,_,rfl,rfl,⟨by decide,by decide,by decide⟩,f,_,rfl,F4.same g4,(by show(0:Int)<10 ^ (12:Int).toNat;rw[hp12];decide),(by show(10:Int) ^ (12:Int).toNat<2 ^ 63;rw[hp12];decide),fun w2 H6 _ _ F6 B6=>⟨(by show 2<=sizeLine;decide),fun p5 hp5=>⟨(by show 5<=sizeLine;decide),fun L hL=>?_⟩⟩⟩;have k6:=aQ (F4.same g4) B6;have g5:=zC0 hp5 (.tup [.str "num",.int w2]);have g6:=zC0 hL (.lst [.ref p1,.ref p2,.ref p3,.ref p4,.ref p5]);have e5:upd (upd H6 p5 (.tup [.str "num",.int w2])) L (.lst [.ref p1,.ref p2,.ref p3,.ref p4,.ref p5]) p5=some (.tup [.str "num",.int w2]):=g6 _ _ aD;have eL:upd (upd H6 p5 (.tup [.str "num",.int w2])) L (.lst [.ref p1,.ref p2,.ref p3,.ref p4,.ref p5]) L=some (.lst [.ref p1,.ref p2,.ref p3,.ref p4,.ref p5]):=aD;have F7:=F6.same (g5.trans g6);have S7:SameBut f H (upd (upd H6 p5 (.tup [.str "num",.int w2])) L (.lst [.ref p1,.ref p2,.ref p3,.ref p4,.ref p5])):=(zJ0 S3).trans (B4.trans ((zJ0 g4).trans (B6.trans (zJ0 (g5.trans g6)))));have Lf:L≠f:=(F6.same g5).ne hL;have J:bv H5 (upd (upd H6 p5 (.tup [.str "num",.int w2])) L (.lst [.ref p1,.ref p2,.ref p3,.ref p4,.ref p5])):=fun a xs e=>(g5.trans g6) _ _ (k6 _ _ e)
    have J3:bv H3 (upd (upd H6 p5 (.tup [.str "num",.int w2])) L (.lst [.ref p1,.ref p2,.ref p3,.ref p4,.ref p5])):=fun a xs e=>J _ _ (g4 _ _ (k4 _ _ e))
    have e1':=J3 _ _ e1;have e2':=J3 _ _ e2;have e3':=J3 _ _ e3;have e4':=J _ _ e4;generalize upd (upd H6 p5 (.tup [.str "num",.int w2])) L (.lst [.ref p1,.ref p2,.ref p3,.ref p4,.ref p5])=H7 at e1' e2' e3' e4' e5 eL F7 S7;have hb7:=S7 _ _ nb hb;clear J J3 e1 e2 e3 e4 k4 k6;refine⟨_,rfl,rfl,_,rfl,?_⟩
    by_cases c:fm=3
    . refine aU (congrArg V.int c) ?_;have bl:(bs.map V.str).length=bs.length:=zH0 _;refine⟨_,rfl,_,rfl,_,rfl,b,_,rfl,.inl (zE0 hb7),f,_,rfl,F7,by omega,by omega,fun d H8 d0 d1 F8 B8=>?_⟩;obtain⟨v,hv,vm⟩:=lV (l:=bs.map V.str) (i:=d) d0 d1;obtain⟨x,hx,rfl⟩:=List.mem_map.mp vm;refine⟨b,_,_,_,rfl,rfl,zE0 (B8 _ _ nb hb7),hv,(by show 2<=sizeLine;decide),fun p8 hp8=>?_⟩;have g8:=zC0 hp8 (.tup [.str "box",.str x]);exact q _ (.box x) _ (.box aD) trivial rfl (F8.same g8) (S7.trans (B8.trans (zJ0 g8)))
    . refine au (fun z=>c (V.int.inj z)) ?_;refine⟨_,rfl,_,rfl,f,5,rfl,F7,by decide,by decide,fun d H8 d0 d1 F8 B8=>?_⟩;have k8:=aQ F7 B8;have hL8:=B8 _ _ Lf eL;have S8:=S7.trans B8
      have:d=0∨d=1∨d=2∨d=3∨d=4:=by omega
      rcases this with rfl | rfl | rfl | rfl | rfl
      . exact⟨L,_,0,.ref p1,rfl,rfl,zE0 hL8,rfl,q _ (.plain "round") _ (.plain (k8 _ _ e1')) (show("round":Str)∈hU by decide +kernel) rfl F8 S8⟩
      . exact⟨L,_,1,.ref p2,rfl,rfl,zE0 hL8,rfl,q _ (.plain "due") _ (.plain (k8 _ _ e2')) (show("due":Str)∈hU by decide +kernel) rfl F8 S8⟩
      . exact⟨L,_,2,.ref p3,rfl,rfl,zE0 hL8,rfl,q _ (.plain "asked") _ (.plain (k8 _ _ e3')) (show("asked":Str)∈hU by decide +kernel) rfl F8 S8⟩
      . exact⟨L,_,3,.ref p4,rfl,rfl,zE0 hL8,rfl,q _ (.num w1) _ (.num (k8 _ _ e4')) trivial rfl F8 S8⟩
      . exact⟨L,_,4,.ref p5,rfl,rfl,zE0 hL8,rfl,q _ (.num w2) _ (.num (k8 _ _ e5)) trivial rfl F8 S8⟩)) az)
  (ac (aJ (PW.pt (gI (ah df (pv 4) aa (aj _)) (fV (ah df (pv 2) aa (aj _))))) (kt (t':=tAskT n) (ad (av (aX (af (aq ix_list (bL (af ax (af ax aH))) (ai ba hr (by omega) rfl (af (pv 0) (af aa aH))) (fun _ _=>rfl)) (af (ai bZ hr (zG0 _) rfl (af (pv 0) (af (pv 1) (af (ag aV (pv 2) aa) (af (ag aV (pv 3) aa) aH))))) aH))))) (by
   rintro Dn σ H ⟨x4,x5,x6,x7,f,b,bs,room,deep,rfl,F0,hb,nb,b1,b2,r1,r2,d1,d2,q⟩;refine⟨(by show 2<=sizeLine;decide),fun L hL=>?_⟩;have gL:=zC0 hL (.lst [.str "coin",.str "true"]);have eL:upd H L (.lst [.str "coin",.str "true"]) L=some (.lst [.str "coin",.str "true"]):=aD;have Lf:L≠f:=F0.ne hL;generalize upd H L (.lst [.str "coin",.str "true"])=H1 at gL eL;refine⟨_,rfl,f,2,rfl,F0.same gL,by decide,by decide,fun d H2 d0 d1' F2 B2=>?_⟩;have aw:∃aw:Str,aw∈Bs/\atI [V.str "coin",.str "true"] d=some (.str aw):=by
    have:d=0∨d=1:=by omega
    rcases this with rfl | rfl
    . exact⟨"coin",by decide +kernel,at0 ..⟩
    . exact⟨"true",by decide +kernel,at1 ..⟩
   obtain⟨aw,awm,haw⟩:=aw;refine⟨L,_,_,_,rfl,rfl,zE0 (B2 _ _ Lf eL),haw,?_⟩;have hb2:=B2 _ _ nb (gL _ _ hb);refine⟨_,rfl,_,rfl,_,rfl,_,_,rfl,rfl,_,rfl,_,_,rfl,rfl,f,b,bs,room-1,deep-1,rfl,F2,hb2,nb,b1,b2,by omega,by omega,by omega,by omega,fun v t H3 T3 ok3 dp3 F3 B3=>?_⟩;refine⟨(by show 2<=sizeLine;decide),fun p hp=>?_⟩;have gp:=zC0 hp (.tup [.str aw,v]);have ed:((Tm.ask aw t).depth:Int)=(t.depth:Int)+1:=by show((t.depth+1:Nat):Int)=_;omega
   exact q _ (.ask aw t) _ (.ask aD (T3.mono (aY gp))) ⟨awm,ok3⟩ (by omega) (F3.same gp) ((zJ0 gL).trans (B2.trans (B3.trans (zJ0 gp)))))) az)
  (ac (am (i:=6) gZ.nd rfl (Or.inl rfl) (ag aW aa (ai ba hr (by omega) rfl (af (pv 0) (af (ag aV (pv 2) aa) aH)))))
  (ac (am (i:=7) gZ.nd rfl (Or.inl rfl) (ai bZ hr (zG0 _) rfl (af (pv 0) (af (pv 1) (af (pv 6) (af (ag aV (pv 3) aa) aH))))))
  (ad (av (aX (af ax (af (aq uE ax (ai ba hr (by omega) rfl (af (pv 0) (af aa aH))) (fun _ _=>rfl)) (af (pv 7) (af (ai bZ hr (zG0 _) rfl (af (pv 0) (af (pv 1) (af (ag aV (ag aV (pv 2) aa) (pv 6)) (af (ag aV (pv 3) aa) aH))))) aH)))))))))))),?_⟩
 refine⟨_,rfl,f,9,rfl,F0,by decide,by decide,fun fm H1 m0 m9 F1 B1=>?_⟩;have hb1:=B1 _ _ nb hb;have leaf:∀(v:V)(t:Tm)(H':Hp),TmAt H' v t->t.good->t.depth=1->FeedAt H' f->SameBut f H1 H'->Q v H':=fun v t H' T g d FF BB=>q v t H' T g (by omega) FF (B1.trans BB)
 refine⟨_,rfl,_,_,rfl,rfl,_,rfl,?_⟩
 by_cases c1:room<2
 . exact aU c1 (fq ⟨_,_,_,_,_,f,b,bs,fm,rfl,F1,hb1,nb,b1,b2,leaf⟩)
 refine au c1 ⟨_,rfl,_,_,rfl,rfl,_,rfl,?_⟩
 by_cases c2:deep<2
 . exact aU c2 (fq ⟨_,_,_,_,_,f,b,bs,fm,rfl,F1,hb1,nb,b1,b2,leaf⟩)
 refine au c2 ⟨_,rfl,_,_,rfl,rfl,_,rfl,?_⟩
 by_cases c3:fm<4
 . exact aU c3 ⟨_,_,_,_,_,f,b,bs,fm,rfl,F1,hb1,nb,b1,b2,leaf⟩
 refine au c3 ?_;have ask:∀(v:V)(t:Tm)(H':Hp),TmAt H' v t->t.good->(t.depth:Int)<=deep->FeedAt H' f->SameBut f H1 H'->Q v H':=fun v t H' T g d FF BB=>q v t H' T g d FF (B1.trans BB)
 refine⟨_,rfl,_,_,rfl,rfl,_,rfl,?_⟩
 by_cases c4:fm<6
 . exact aU c4 (fq ⟨_,_,_,_,f,b,bs,room,deep,rfl,F1,hb1,nb,b1,b2,by omega,r2,by omega,by omega,ask⟩)
 refine au c4 ⟨_,rfl,_,_,rfl,rfl,_,rfl,?_⟩
 by_cases c5:room<3
 . exact aU c5 ⟨_,_,_,_,f,b,bs,room,deep,rfl,F1,hb1,nb,b1,b2,by omega,r2,by omega,by omega,ask⟩
 refine au c5 ?_;refine⟨_,rfl,_,rfl,_,_,rfl,rfl,f,room-2,rfl,F1,by omega,by omega,fun d3 H2 a0 a1 F2 B2=>?_⟩;refine⟨_,_,rfl,rfl,?_⟩;have hb2:=B2 _ _ nb hb1;refine⟨_,rfl,_,rfl,_,rfl,_,rfl,_,_,rfl,rfl,f,b,bs,1+d3,deep-1,rfl,F2,hb2,nb,b1,b2,by omega,by omega,by omega,by omega,fun v1 t1 H3 T1 ok1 dp1 F3 B3=>?_⟩;have hb3:=B3 _ _ nb hb2;refine⟨_,rfl,f,6,rfl,F3,by decide,by decide,fun d4 H4 g0 g1 F4 B4=>?_⟩;obtain⟨c,hc,hm⟩:=lV (l:=(("+-*/=<":Str)).cps.toList) (i:=d4) g0 (by rw[yq];exact g1);have hb4:=B4 _ _ nb hb3;refine⟨_,_,_,rfl,rfl,cp (by decide +kernel),hc,_,rfl,?_⟩;refine⟨_,rfl,_,rfl,_,rfl,_,_,rfl,rfl,_,rfl,_,_,rfl,rfl,_,rfl,_,_,rfl,rfl,f,b,bs,room-1-(1+d3),deep-1,rfl,F4,hb4,nb,b1,b2,by omega,by omega,by omega,by omega,fun v2 t2 H5 T2 ok2 dp2 F5 B5=>?_⟩;have k35:bv H3 H5:=fun a ys e=>aQ F4 B5 _ _ (aQ F3 B4 _ _ e)
 refine ⟨(by show 4<=sizeLine;decide),fun p hp=>?_⟩;have gp:=zC0 hp (.tup [.str "op",.str ⟨#[c]⟩,v1,v2]);have ed:((Tm.op ⟨#[c]⟩ t1 t2).depth:Int)<=deep:=by
  show((max t1.depth t2.depth+1:Nat):Int)<=deep;omega
 exact q _ (.op ⟨#[c]⟩ t1 t2) _ (.op aD (T1.mono fun a xs e=>gp _ _ (k35 _ _ e)) (T2.mono (aY gp))) ⟨Ay c hm,ok1,ok2⟩ ed (F5.same gp) (B1.trans (B2.trans (B3.trans (B4.trans (B5.trans (zJ0 gp))))))
theorem Ap {f:Addr} {fd:FuncData}:FnOk P w K mg base CX0 2 f fd ["_law_feed_here","_law_boxes","_law_room","_law_deep"] (jS 0):=by
 have no:∀vs H Q E,¬ jS 0 vs H Q E:=fun vs H Q E h=>by
  obtain⟨_,_,_,_,_,_,_,_,_,_,_,_,_,h1,h2,_⟩:=h;omega
 exact⟨fun vs H Q E h=>absurd h (no vs H Q E),fun A outer s H args us vs Q E _ _ _ _ h=>absurd h (no vs H Q E)⟩
theorem pk {f:Addr} {fd:FuncData} (F:Fun K "_law_term" "_law_term" gG f fd) (B:Bl mg) (m:mg "_law_term"=some (.ref f)) (ba:Cal P w K mg base 1 "_law_take" ["_law_feed_here","_law_many"] gD) :
 ∀n:Nat,FnOk P w K mg base CX0 (n+2) f fd ["_law_feed_here","_law_boxes","_law_room","_law_deep"] (jS n)
 | 0=>Ap
 | n+1=>Aq F B ba (Cal.of F (pk F B m ba n) m (fun _ _ _ _ _ _ us hl=>by obtain⟨u0,u1,u2,u3,rfl⟩:=nK hl;rfl))
end
section
theorem RowsAt.app{H:Hp}{a b:List V}{r s:List Hr}(h:RowsAt H a r)(k:RowsAt H b s):RowsAt H (a++b) (r++s):=by
 refine⟨by rw[zL0,zL0,h.1,k.1],fun i v x e1 e2=>?_⟩
 by_cases c:i<a.length
 . rw[List.getElem?_append_left c]at e1;rw[List.getElem?_append_left (by rw[←h.1];exact c)]at e2;exact h.2 i v x e1 e2
 . rw[List.getElem?_append_right (by omega)]at e1;rw[List.getElem?_append_right (by rw[←h.1];omega),←h.1]at e2;exact k.2 _ v x e1 e2
theorem RowsAt.one{H:Hp}{v:V}{r:Hr}(h:HrAt H v r):RowsAt H [v] [r]:=⟨rfl,fun i u x e1 e2=>by
 cases i with
 | zero=>cases e1;cases e2;exact h
 | succ i=>cases e1⟩
def yd:Sp:=fun vs H Q _=>∃(f b:Addr)(bs:List Str)(most:Int),vs=[.ref f,.ref b,.int most]/\FeedAt H f/\H b=some (.lst (bs.map V.str))/\b≠f/\1<=bs.length/\bs.length<=100/\0<=most/\most<=60/\
 ∀(h:Addr)(rv:List V)(rows:List Hr)(H':Hp),H' h=some (.tup rv)->RowsAt H' rv rows->(∀r∈rows,r.good)->FeedAt H' f->SameBut f H H'->Q (.ref h) H'
theorem eM:FnScope ["_law_feed_here","_law_boxes","_law_most","_law_rows","_law_many","_law_k","_law_form"] ["_law_feed_here","_law_boxes","_law_most"] (ae fe):=⟨rfl,rfl,rfl,by decide +kernel,rfl,by decide +kernel,by decide +kernel⟩
theorem rQ {f:Addr} {fd:FuncData} (F:Fun K "_law_helper" "_law_helper" fe f fd) (B:Bl mg) (ba:Cal P w K mg base 1 "_law_take" ["_law_feed_here","_law_many"] gD) (bZ:Cal P w K mg base 10 "_law_term" ["_law_feed_here","_law_boxes","_law_room","_law_deep"] (jS 8)):FnOk P w K mg base CX0 11 f fd ["_law_feed_here","_law_boxes","_law_most"] yd:=by
 refine F.ok eM (fun vs H Q E h=>?_) (fun cdv A outer s H vs Q E hr h=>?_)
 . obtain⟨f,b,bs,most,rfl,_⟩:=h;rfl
 obtain ⟨f,b,bs,most,rfl,F0,hb,nb,b1,b2,m0,m1,q⟩:=h;refine⟨_,(ac (am (i:=3) eM.nd rfl (Or.inl rfl) (bL aH))
  (ac (am (i:=4) eM.nd rfl (Or.inl rfl) (ai ba hr (by decide) rfl (af (pv 0) (af (ag aW (pv 2) aa) aH))))
  (ac (bY PassesOwn.never rfl (bt rfl B.range (af (pv 4) aH)) (bd (i:=5) eM.nd rfl (Or.inl rfl)) (ac (am (i:=6) eM.nd rfl (Or.inl rfl) (ai ba hr (by decide) rfl (af (pv 0) (af aa aH))))
   (ad (aJ (ah df (pv 6) aa (aj _)) (ad (bE (dW PySem.F.plainAttrs_list PySem.F.slot_list_append PySem.F.type_list_append bu (pv 3) (af (aX (af ax (af (ai bZ hr (by decide) rfl (af (pv 0) (af (pv 1) (af aa (af aa aH))))) aH))) aH)))) (ad (aJ (ah df (pv 6) aa (aj _)) (ad (bE (dW PySem.F.plainAttrs_list PySem.F.slot_list_append PySem.F.type_list_append bu (pv 3) (af (aX (af ax (af (aq ix_list (pv 1) (ai ba hr (by decide) rfl (af (pv 0) (af (aE aB rfl B.len PySem.boot_len (af (pv 1) aH)) aH))) (fun _ _=>rfl)) (af (ai bZ hr (by decide) rfl (af (pv 0) (af (pv 1) (af aa (af aa aH))))) aH)))) aH)))) (ad (aJ (ah aM (pv 6) aa (aj _)) (ad (bE (dW PySem.F.plainAttrs_list PySem.F.slot_list_append PySem.F.type_list_append bu (pv 3) (af (aX (af ax (af (ai bZ hr (by decide) rfl (af (pv 0) (af (pv 1) (af aa (af aa aH))))) (af (ai ba hr (by decide) rfl (af (pv 0) (af (pv 4) aH))) aH)))) aH)))) (ad (aJ (ah aM (pv 6) aa (aj _)) (ad (bE (dW PySem.F.plainAttrs_list PySem.F.slot_list_append PySem.F.type_list_append bu (pv 3) (af (aX (af ax (af (ai ba hr (by decide) rfl (af (pv 0) (af (pv 4) aH))) aH))) aH)))) (ad (bE (dW PySem.F.plainAttrs_list PySem.F.slot_list_append PySem.F.type_list_append bu (pv 3) (af (aX (af ax aH)) aH))))))))))))))
  (ad (av (bF bw rfl B.tuple bH (af (pv 3) aH))))))),?_⟩
 refine ⟨(by show 0<=sizeLine;decide),fun L hL=>?_⟩;have I0:=zC0 hL (.lst []);have Lf:L≠f:=F0.ne hL;have g0:upd H L (.lst []) L=some (.lst []):=aD;generalize upd H L (.lst [])=H1 at I0 g0;refine⟨_,rfl,_,rfl,_,_,rfl,rfl,f,most+1,rfl,F0.same I0,by omega,by omega,fun mn H2 n0 n1 F2 B2=>?_⟩;have S2:SameBut f H H2:=(zJ0 I0).trans B2;refine⟨_,rfl,_,rfl,by omega,by omega,cS (fun i σ H'=>∃(x5 x6:Option V)(vs:List V)(rows:List Hr),σ=[some (.ref f),some (.ref b),some (.int most),some (.ref L),some (.int mn),x5,x6]/\FeedAt H' f/\SameBut f H H'/\H' L=some (.lst vs)/\RowsAt H' vs rows/\(∀r∈rows,r.good)/\vs.length=i)
  ⟨_,_,[],[],rfl,F2,S2,B2 _ _ Lf g0,⟨rfl,fun i v r e=>by cases e⟩,(fun r hr=>by cases hr),rfl⟩ ?_ ?_⟩
 . rintro i σ H3 hi ⟨x5,x6,vs,rows,rfl,F3,S3,hL3,RW,rg,vl⟩;have hb3:=S3 _ _ nb hb;refine⟨_,rfl,f,8,rfl,F3,by decide,by decide,fun fm H4 f0 f1 F4 B4=>?_⟩;have hb4:=B4 _ _ nb hb3;have hL4:=B4 _ _ Lf hL3;have S4:=S3.trans B4;have RW4:=RW.mono (aQ F3 B4);have fin:∀(r:Hr)(v:V)(H5:Hp),HrAt H5 v r->r.good->FeedAt H5 f->SameBut f H4 H5->H5 L=some (.lst vs)/\vs.length<sizeLine/\∃(x5' x6':Option V)(vs':List V)(rows':List Hr),[some (V.ref f),some (.ref b),some (.int most),some (.ref L),some (.int mn),some (.int (0+(i:Int))),some (.int fm)]=[some (V.ref f),some (.ref b),some (.int most),some (.ref L),some (.int mn),x5',x6']/\FeedAt (upd H5 L (.lst (vs++[v]))) f/\SameBut f H (upd H5 L (.lst (vs++[v])))/\(upd H5 L (.lst (vs++[v]))) L=some (.lst vs')/\RowsAt (upd H5 L (.lst (vs++[v]))) vs' rows'/\(∀r∈rows',r.good)/\vs'.length=i+1:=by
    intro r v H5 R5 g5 F5 B5;have hL5:=B5 _ _ Lf hL4;have k6:bv H5 (upd H5 L (.lst (vs++[v]))):=gB hL5;refine⟨hL5,aS (by omega),_,_,vs++[v],rows++[r],rfl,?_,?_,aD,((RW4.mono (aQ F4 B5)).mono k6).app (RowsAt.one (R5.mono k6)),fun r' hr'=>?_,by rw[zL0,vl];rfl⟩
    . obtain⟨x,t,e,rr⟩:=F5;exact⟨x,t,by rw[ao Lf.symm];exact e,rr⟩
    . intro c o hc e;rw[ao (aO e hL)];exact B5 _ _ hc (S4 _ _ hc e)
    . rcases zT0 hr' with h | h
      . exact rg r' h
      . rw[zM0 h];exact g5
   refine⟨_,rfl,_,_,rfl,rfl,_,rfl,?_⟩
   by_cases c1:fm<3
   . refine aU c1 ?_;refine⟨_,rfl,.inl ⟨rfl,_,zE0 hL4⟩,_,rfl,_,rfl,f,b,bs,6,5,rfl,F4,hb4,nb,b1,b2,by decide,by decide,by decide,by decide,fun v t H5 T5 g5 d5 F5 B5=>⟨(by show 2<=sizeLine;decide),fun p hp=>?_⟩⟩;have Ip:=zC0 hp (.tup [.str "say",v]);obtain⟨hLx,sz,iv⟩:=fin (.say t) (.ref p) _ (.say aD (T5.mono (aY Ip))) ⟨g5,by omega⟩ (F5.same Ip) (B5.trans (zJ0 Ip));exact⟨L,_,_,rfl,rfl,hLx,sz,iv⟩
   refine au c1 ⟨_,rfl,_,_,rfl,rfl,_,rfl,?_⟩
   by_cases c2:fm<5
   . refine aU c2 ?_;have bl:(bs.map V.str).length=bs.length:=zH0 _;refine⟨_,rfl,.inl ⟨rfl,_,zE0 hL4⟩,_,rfl,_,rfl,_,rfl,b,_,rfl,.inl (zE0 hb4),f,_,rfl,F4,by omega,by omega,fun d H5 d0 d1 F5 B5=>?_⟩;obtain⟨v,hv,vm⟩:=lV (l:=bs.map V.str) (i:=d) d0 d1;obtain⟨x,hx,rfl⟩:=List.mem_map.mp vm;have hb5:=B5 _ _ nb hb4;refine⟨b,_,_,_,rfl,rfl,zE0 hb5,hv,_,rfl,_,rfl,f,b,bs,6,5,rfl,F5,hb5,nb,b1,b2,by decide,by decide,by decide,by decide,fun v t H6 T6 g6 d6 F6 B6=>⟨(by show 3<=sizeLine;decide),fun p hp=>?_⟩⟩;have Ip:=zC0 hp (.tup [.str "set",.str x,v]);obtain⟨hLx,sz,iv⟩:=fin (.set x t) (.ref p) _ (.set aD (T6.mono (aY Ip))) ⟨g6,by omega⟩ (F6.same Ip) (B5.trans (B6.trans (zJ0 Ip)));exact⟨L,_,_,rfl,rfl,hLx,sz,iv⟩
   refine au c2 ⟨_,rfl,rfl,_,rfl,?_⟩
   by_cases c3:fm=5
   . refine aU (congrArg V.int c3) ?_;refine⟨_,rfl,.inl ⟨rfl,_,zE0 hL4⟩,_,rfl,_,rfl,f,b,bs,5,4,rfl,F4,hb4,nb,b1,b2,by decide,by decide,by decide,by decide,fun v t H5 T5 g5 d5 F5 B5=>?_⟩;refine⟨_,rfl,_,rfl,f,mn,rfl,F5,by omega,by omega,fun d H6 d0 d1 F6 B6=>⟨(by show 3<=sizeLine;decide),fun p hp=>?_⟩⟩;have Ip:=zC0 hp (.tup [.str "if",v,.int d]);obtain⟨hLx,sz,iv⟩:=fin (.iff t d) (.ref p) _ (.iff aD (T5.mono fun a xs e=>Ip _ _ (aQ F5 B6 _ _ e))) ⟨g5,by omega,d0⟩ (F6.same Ip) (B5.trans (B6.trans (zJ0 Ip)));exact⟨L,_,_,rfl,rfl,hLx,sz,iv⟩
   refine au (fun z=>c3 (V.int.inj z)) ⟨_,rfl,rfl,_,rfl,?_⟩
   by_cases c4:fm=6
   . refine aU (congrArg V.int c4) ?_;refine⟨_,rfl,.inl ⟨rfl,_,zE0 hL4⟩,_,rfl,_,rfl,f,mn,rfl,F4,by omega,by omega,fun d H6 d0 d1 F6 B6=>⟨(by show 2<=sizeLine;decide),fun p hp=>?_⟩⟩;have Ip:=zC0 hp (.tup [.str "go",.int d]);obtain⟨hLx,sz,iv⟩:=fin (.go d) (.ref p) _ (.go aD) d0 (F6.same Ip) (B6.trans (zJ0 Ip));exact⟨L,_,_,rfl,rfl,hLx,sz,iv⟩
   refine au (fun z=>c4 (V.int.inj z)) ?_;refine⟨_,rfl,.inl ⟨rfl,_,zE0 hL4⟩,(by show 1<=sizeLine;decide),fun p hp=>?_⟩;have Ip:=zC0 hp (.tup [.str "end"]);obtain⟨hLx,sz,iv⟩:=fin .fin (.ref p) _ (.fin aD) trivial (F4.same Ip) (zJ0 Ip);exact⟨L,_,_,rfl,rfl,hLx,sz,iv⟩
 . rintro σ H3 ⟨x5,x6,vs,rows,rfl,F3,S3,hL3,RW,rg,vl⟩;refine⟨_,rfl,L,_,rfl,.inl ⟨zE0 hL3,fun h hh=>?_⟩⟩;have Ih:=zC0 hh (.tup vs);exact q h vs rows _ aD (RW.mono (aY Ih)) rg (F3.same Ih) (S3.trans (zJ0 Ih))
end
section
def yb:Sp:=fun vs H Q _=>∃(f:Addr)(x:Str),vs=[.ref f,.str x]/\FeedAt H f/\∀(h:Addr)(rv:List V)(rows:List Hr)(H':Hp),H' h=some (.tup rv)->RowsAt H' rv rows->(∀r∈rows,r.good)->FeedAt H' f->SameBut f H H'->Q (.ref h) H'
theorem eF:FnScope ["_law_feed_here","_law_box","_law_j","_law_wrong","_law_more","_law_told"] ["_law_feed_here","_law_box"] (ae ik):=⟨rfl,rfl,rfl,by decide +kernel,rfl,by decide +kernel,by decide +kernel⟩
def tLi1:TS:=fun Dn σ H=>∃(x4 x5:Option V)(f:Addr)(x:Str)(vj vw:V)(tw:Tm),σ=[some (.ref f),some (.str x),some vj,some vw,x4,x5]/\FeedAt H f/\TmAt H vj (.box x)/\TmAt H vw tw/\tw.good/\tw.depth<=3/\∀(h:Addr)(rv:List V)(rows:List Hr)(H':Hp),H' h=some (.tup rv)->RowsAt H' rv rows->(∀r∈rows,r.good)->FeedAt H' f->SameBut f H H'->Dn.rt (.ref h) H'
def tLi2:TS:=fun Dn σ H=>∃(x3 x5:Option V)(f:Addr)(x:Str)(vj vm:V)(tm:Tm),σ=[some (.ref f),some (.str x),some vj,x3,some vm,x5]/\FeedAt H f/\TmAt H vj (.box x)/\TmAt H vm tm/\tm.good/\tm.depth<=4/\∀(h:Addr)(rv:List V)(rows:List Hr)(H':Hp),H' h=some (.tup rv)->RowsAt H' rv rows->(∀r∈rows,r.good)->FeedAt H' f->SameBut f H H'->Dn.rt (.ref h) H'
theorem CZ{s:Str}{a b:Tm}{m:Nat}(h1:a.depth<=m)(h2:b.depth<=m):(Tm.op s a b).depth<=m+1:=by
 show max a.depth b.depth+1<=m+1;omega
theorem wD {f:Addr} {fd:FuncData} (F:Fun K "_law_liar" "_law_liar" ik f fd) (ba:Cal P w K mg base 1 "_law_take" ["_law_feed_here","_law_many"] gD):FnOk P w K mg base CX0 2 f fd ["_law_feed_here","_law_box"] yb:=by
 refine F.ok eF (fun vs H Q E h=>?_) (fun cdv A outer s H vs Q E hr h=>?_)
 . obtain⟨f,x,rfl,_⟩:=h;rfl
 obtain ⟨f,x,rfl,F0,q⟩:=h;refine⟨_,PSW.out (aF (be (i:=2) eF.nd rfl (Or.inl rfl) (bc (ak aP (ak ⟨pv 1⟩ aZ))))
  (aF (be (i:=3) eF.nd rfl (Or.inl rfl) (bc (ak aP (ak aP (ak ⟨pv 2⟩ (ak (bc (ak aP (ak ⟨(ai ba hr (by decide) rfl (af (pv 0) (af aa aH)))⟩ aZ))) aZ))))))
  (aF (fB (ah iz (ai ba hr (by decide) rfl (af (pv 0) (af aa aH))) aa (aj _)) (cT (be (i:=3) eF.nd rfl (Or.inl rfl) (bc (ak aP (ak aP (ak ⟨pv 3⟩ (ak (bc (ak aP (ak aP (ak (bc (ak aP aZ)) (ak (bc (ak aP (ak ⟨(ai ba hr (by decide) rfl (af (pv 0) (af aa aH)))⟩ aZ))) aZ))))) aZ))))))) cY)
  (fN (t':=tLi1) (aF (be (i:=4) eF.nd rfl (Or.inl rfl) (bc (ak aP (ak aP (ak ⟨pv 3⟩ (ak (bc (ak aP (ak ⟨(ag aW aa (ai ba hr (by decide) rfl (af (pv 0) (af aa aH))))⟩ aZ))) aZ))))))
  (aF (fB (ah aM (ai ba hr (by decide) rfl (af (pv 0) (af aa aH))) aa (aj _)) (cT (be (i:=4) eF.nd rfl (Or.inl rfl) (bc (ak aP (ak aP (ak ⟨pv 3⟩ (ak (bc (ak aP (ak aP (ak (bc (ak aP (ak (bc (ak aP (ak ⟨(ag aW aa (ai ba hr (by decide) rfl (af (pv 0) (af aa aH))))⟩ aZ))) aZ))) (ak (bc (ak aP (ak ⟨(ai ba hr (by decide) rfl (af (pv 0) (af aa aH)))⟩ aZ))) aZ))))) aZ))))))) cY)
  (fN (t':=tLi2) (aF (be (i:=5) eF.nd rfl (Or.inl rfl) (bc (ak aP (ak aP (ak (bc (ak aP (ak ⟨pv 2⟩ aZ))) (ak ⟨pv 4⟩ aZ))))))
  (cT (gX (bc (ak (bc (ak aP (ak ⟨pv 1⟩ (ak (bc (ak aP (ak my aZ))) aZ)))) (ak (bc (ak aP (ak ⟨pv 5⟩ aZ))) (ak (bc (ak aP (ak ⟨pv 1⟩ (ak (bc (ak aP (ak aP (ak ⟨pv 2⟩ (ak (bc (ak aP (ak my aZ))) aZ))))) aZ)))) (ak (bc (ak aP (ak my aZ))) aZ)))))))) (by
   rintro Dn σ H ⟨x3,x5,f,x,vj,vm,tm,rfl,F0,Tj,Tm,gm,dm,q⟩;have s2:2<=sizeLine:=by decide
   have s3:3<=sizeLine:=by decide
   have s4:4<=sizeLine:=by decide
   refine⟨_,rfl,s2,fun p1 h1=>⟨_,rfl,s4,fun p2 h2=>?_⟩⟩;have I1:=zC0 h1 (.tup [.str "true",vj]);have I2:=zC0 h2 (.tup [.str "op",.str "+",.ref p1,vm]);have T2:TmAt (upd (upd H p1 (.tup [.str "true",vj])) p2 (.tup [.str "op",.str "+",.ref p1,vm])) (.ref p2) (.op "+" (.ask "true" (.box x)) tm):=.op aD (.ask (I2 _ _ aD) (Tj.mono (aY (I1.trans I2)))) (Tm.mono (aY (I1.trans I2)));have J2:=I1.trans I2;generalize upd (upd H p1 (.tup [.str "true",vj])) p2 (.tup [.str "op",.str "+",.ref p1,vm])=H2 at T2 J2;refine⟨_,rfl,s2,fun p5 h5=>⟨s3,fun p6 h6=>?_⟩⟩;have I5:=zC0 h5 (.tup [.str "num",.int 0]);have I6:=zC0 h6 (.tup [.str "set",.str x,.ref p5]);have R6:HrAt (upd (upd H2 p5 (.tup [.str "num",.int 0])) p6 (.tup [.str "set",.str x,.ref p5])) (.ref p6) (.set x (.num 0)):=.set aD (.num (I6 _ _ aD));have J6:=I5.trans I6;generalize upd (upd H2 p5 (.tup [.str "num",.int 0])) p6 (.tup [.str "set",.str x,.ref p5])=H6 at R6 J6;refine⟨_,rfl,s2,fun p7 h7=>?_⟩;have I7:=zC0 h7 (.tup [.str "say",.ref p2]);have R7:HrAt (upd H6 p7 (.tup [.str "say",.ref p2])) (.ref p7) (.say (.op "+" (.ask "true" (.box x)) tm)):=.say aD (T2.mono (aY (J6.trans I7)));generalize upd H6 p7 (.tup [.str "say",.ref p2])=H7 at R7 I7;refine⟨_,rfl,_,rfl,s2,fun p3 h3=>⟨s4,fun p4 h4=>?_⟩⟩;have I3:=zC0 h3 (.tup [.str "num",.int 1]);have I4:=zC0 h4 (.tup [.str "op",.str "+",vj,.ref p3]);have J4:=I3.trans I4;have T4:TmAt (upd (upd H7 p3 (.tup [.str "num",.int 1])) p4 (.tup [.str "op",.str "+",vj,.ref p3])) (.ref p4) (.op "+" (.box x) (.num 1)):=.op aD (Tj.mono (aY (J2.trans (J6.trans (I7.trans J4))))) (.num (I4 _ _ aD));generalize upd (upd H7 p3 (.tup [.str "num",.int 1])) p4 (.tup [.str "op",.str "+",vj,.ref p3])=H8 at T4 J4;refine⟨s3,fun p8 h8=>⟨s2,fun p9 h9=>⟨s4,fun p h10=>?_⟩⟩⟩;have I8:=zC0 h8 (.tup [.str "set",.str x,.ref p4]);have I9:=zC0 h9 (.tup [.str "go",.int 1]);have I10:=zC0 h10 (.tup [.ref p6,.ref p7,.ref p8,.ref p9]);have J10:=I8.trans (I9.trans I10);have R8:HrAt (upd (upd (upd H8 p8 (.tup [.str "set",.str x,.ref p4])) p9 (.tup [.str "go",.int 1])) p (.tup [.ref p6,.ref p7,.ref p8,.ref p9])) (.ref p8) (.set x (.op "+" (.box x) (.num 1))):=.set ((I9.trans I10) _ _ aD) (T4.mono (aY J10));have R9:HrAt (upd (upd (upd H8 p8 (.tup [.str "set",.str x,.ref p4])) p9 (.tup [.str "go",.int 1])) p (.tup [.ref p6,.ref p7,.ref p8,.ref p9])) (.ref p9) (.go 1):=.go (I10 _ _ aD);have JJ:=J2.trans (J6.trans (I7.trans (J4.trans J10)));have pl:("+":Str)∈jN:=by decide +kernel
   refine q p _ _ _ aD ((((RowsAt.one (R6.mono (aY (I7.trans (J4.trans J10))))).app (RowsAt.one (R7.mono (aY (J4.trans J10))))).app (RowsAt.one R8)).app (RowsAt.one R9)) (fun r hr=>?_) (F0.same JJ) (zJ0 JJ);rcases zT0 hr with hr | hr
   . rcases zT0 hr with hr | hr
     . rcases zT0 hr with hr | hr
       . rw[zM0 hr];exact⟨trivial,(by show 1<=8;decide)⟩
       . rw[zM0 hr];exact⟨⟨pl,⟨by decide +kernel,trivial⟩,gm⟩,zZ0 (CZ (m:=4) (by show 2<=4;decide) dm) (by decide)⟩
     . rw[zM0 hr];exact⟨⟨pl,trivial,trivial⟩,(by show 2<=8;decide)⟩
   . rw[zM0 hr];exact(by show(0:Int)<=1;decide))))) (by
   rintro Dn σ H ⟨x4,x5,f,x,vj,vw,tw,rfl,F0,Tj,Tw,gw,dw,q⟩;have s2:2<=sizeLine:=by decide
   have s4:4<=sizeLine:=by decide
   have st:("*":Str)∈jN:=by decide +kernel
   have pl:("+":Str)∈jN:=by decide +kernel
   refine⟨_,rfl,_,rfl,f,4,rfl,F0,by decide,by decide,fun d1 H1 _ _ F1 B1=>⟨_,_,rfl,rfl,s2,fun p1 h1=>⟨s4,fun p2 h2=>?_⟩⟩⟩;have k1:=aQ F0 B1;have I1:=zC0 h1 (.tup [.str "num",.int (1+d1)]);have I2:=zC0 h2 (.tup [.str "op",.str "*",vw,.ref p1]);have J2:=I1.trans I2;have T2:TmAt (upd (upd H1 p1 (.tup [.str "num",.int (1+d1)])) p2 (.tup [.str "op",.str "*",vw,.ref p1])) (.ref p2) (.op "*" tw (.num (1+d1))):=.op aD (Tw.mono fun a xs e=>J2 _ _ (k1 _ _ e)) (.num (I2 _ _ aD));generalize upd (upd H1 p1 (.tup [.str "num",.int (1+d1)])) p2 (.tup [.str "op",.str "*",vw,.ref p1])=H2 at T2 J2;have F2:=F1.same J2;refine⟨_,rfl,f,3,rfl,F2,by decide,by decide,fun d2 H3 _ _ F3 B3=>⟨rfl,_,rfl,?_⟩⟩;have k3:=aQ F2 B3;have S3:SameBut f H H3:=B1.trans ((zJ0 J2).trans B3);have kk:bv H H3:=fun a xs e=>k3 _ _ (J2 _ _ (k1 _ _ e))
   by_cases c:d2=0
   . refine aU (congrArg V.int c) ?_;refine⟨_,rfl,_,rfl,f,3,rfl,F3,by decide,by decide,fun d3 H4 _ _ F4 B4=>⟨_,_,rfl,rfl,s2,fun p3 h3=>⟨s2,fun p4 h4=>?_⟩⟩⟩;have k4:=aQ F3 B4;have I3:=zC0 h3 (.tup [.str "num",.int (1+d3)]);have I4:=zC0 h4 (.tup [.str "coin",.ref p3]);have J4:=I3.trans I4;have T4:TmAt (upd (upd H4 p3 (.tup [.str "num",.int (1+d3)])) p4 (.tup [.str "coin",.ref p3])) (.ref p4) (.ask "coin" (.num (1+d3))):=.ask aD (.num (I4 _ _ aD));generalize upd (upd H4 p3 (.tup [.str "num",.int (1+d3)])) p4 (.tup [.str "coin",.ref p3])=H5 at T4 J4;have F5:=F4.same J4;refine⟨_,rfl,f,3,rfl,F5,by decide,by decide,fun d5 H6 _ _ F6 B6=>⟨s2,fun p5 h5=>⟨s4,fun p6 h6=>?_⟩⟩⟩;have k6:=aQ F5 B6;have I5:=zC0 h5 (.tup [.str "num",.int d5]);have I6:=zC0 h6 (.tup [.str "op",.str "+",.ref p4,.ref p5]);have J6:=I5.trans I6;have T6:TmAt (upd (upd H6 p5 (.tup [.str "num",.int d5])) p6 (.tup [.str "op",.str "+",.ref p4,.ref p5])) (.ref p6) (.op "+" (.ask "coin" (.num (1+d3))) (.num d5)):=.op aD (T4.mono fun a xs e=>J6 _ _ (k6 _ _ e)) (.num (I6 _ _ aD));generalize upd (upd H6 p5 (.tup [.str "num",.int d5])) p6 (.tup [.str "op",.str "+",.ref p4,.ref p5])=H7 at T6 J6;have F7:=F6.same J6;have kw:bv H H7:=fun a xs e=>J6 _ _ (k6 _ _ (J4 _ _ (k4 _ _ (kk _ _ e))))
     refine⟨s4,fun p7 h7=>?_⟩;have I7:=zC0 h7 (.tup [.str "op",.str "*",vw,.ref p6]);refine⟨_,_,f,x,vj,.ref p7,.op "*" tw (.op "+" (.ask "coin" (.num (1+d3))) (.num d5)),rfl,F7.same I7,Tj.mono (fun a xs e=>I7 _ _ (kw _ _ e)),.op aD (Tw.mono fun a xs e=>I7 _ _ (kw _ _ e)) (T6.mono (aY I7)),⟨st,gw,pl,⟨by decide +kernel,trivial⟩,trivial⟩,CZ (m:=3) dw (by show 3<=3;decide),fun h rv rows H' h1 h2 h3 h4 h5=>q h rv rows H' h1 h2 h3 h4 (S3.trans (B4.trans ((zJ0 J4).trans (B6.trans ((zJ0 (J6.trans I7)).trans h5)))))⟩
   . refine au (fun z=>c (V.int.inj z)) ?_;exact⟨_,_,f,x,vj,.ref p2,.op "*" tw (.num (1+d1)),rfl,F3,Tj.mono kk,T2.mono k3,⟨st,gw,trivial⟩,CZ (m:=3) dw (by show 1<=3;decide),fun h rv rows H' h1 h2 h3 h4 h5=>q h rv rows H' h1 h2 h3 h4 (S3.trans h5)⟩))))),?_⟩
 have s1:1<=sizeLine:=by decide
 have s2:2<=sizeLine:=by decide
 have s4:4<=sizeLine:=by decide
 have st:("*":Str)∈jN:=by decide +kernel
 have eqs:("=":Str)∈jN:=by decide +kernel
 refine⟨_,rfl,s2,fun pj hj=>?_⟩;have Ij:=zC0 hj (.tup [.str "box",.str x]);have Tj:TmAt (upd H pj (.tup [.str "box",.str x])) (.ref pj) (.box x):=.box aD;generalize upd H pj (.tup [.str "box",.str x])=H1 at Ij Tj;refine⟨_,rfl,_,rfl,f,4,rfl,F0.same Ij,by decide,by decide,fun d1 H2 _ _ F2 B2=>⟨s2,fun p1 h1=>⟨s4,fun p2 h2=>?_⟩⟩⟩;have k2:=aQ (F0.same Ij) B2;have I1:=zC0 h1 (.tup [.str "num",.int d1]);have I2:=zC0 h2 (.tup [.str "op",.str "=",.ref pj,.ref p1]);have J2:=I1.trans I2;have T2:TmAt (upd (upd H2 p1 (.tup [.str "num",.int d1])) p2 (.tup [.str "op",.str "=",.ref pj,.ref p1])) (.ref p2) (.op "=" (.box x) (.num d1)):=.op aD (Tj.mono fun a xs e=>J2 _ _ (k2 _ _ e)) (.num (I2 _ _ aD));have Tj2:=Tj.mono fun a xs e=>J2 _ _ (k2 _ _ e)
 have S3:SameBut f H (upd (upd H2 p1 (.tup [.str "num",.int d1])) p2 (.tup [.str "op",.str "=",.ref pj,.ref p1])):=(zJ0 Ij).trans (B2.trans (zJ0 J2));have F3:=F2.same J2;generalize upd (upd H2 p1 (.tup [.str "num",.int d1])) p2 (.tup [.str "op",.str "=",.ref pj,.ref p1])=H3 at T2 Tj2 S3 F3;refine⟨_,rfl,f,3,rfl,F3,by decide,by decide,fun d2 H4 _ _ F4 B4=>⟨_,_,rfl,rfl,_,rfl,?_⟩⟩;have k4:=aQ F3 B4;have S4:=S3.trans B4
 by_cases c:d2>0
 . refine aU c ?_;refine⟨_,rfl,s1,fun p3 h3=>?_⟩;have I3:=zC0 h3 (.tup [.str "round"]);have e3:upd H4 p3 (.tup [.str "round"]) p3=some (.tup [.str "round"]):=aD;generalize upd H4 p3 (.tup [.str "round"])=H5 at I3 e3;refine⟨_,rfl,f,6,rfl,F4.same I3,by decide,by decide,fun d5 H6 _ _ F6 B6=>⟨s2,fun p5 h5=>⟨s4,fun p6 h6=>?_⟩⟩⟩;have k6:=aQ (F4.same I3) B6;have I5:=zC0 h5 (.tup [.str "num",.int d5]);have I6:=zC0 h6 (.tup [.str "op",.str "=",.ref p3,.ref p5]);have J6:=I5.trans I6;have T6:TmAt (upd (upd H6 p5 (.tup [.str "num",.int d5])) p6 (.tup [.str "op",.str "=",.ref p3,.ref p5])) (.ref p6) (.op "=" (.plain "round") (.num d5)):=.op aD (.plain (J6 _ _ (k6 _ _ e3))) (.num (I6 _ _ aD));generalize upd (upd H6 p5 (.tup [.str "num",.int d5])) p6 (.tup [.str "op",.str "=",.ref p3,.ref p5])=H7 at T6 J6;have kw:bv H3 H7:=fun a xs e=>J6 _ _ (k6 _ _ (I3 _ _ (k4 _ _ e)))
   refine⟨s4,fun p7 h7=>?_⟩;have I7:=zC0 h7 (.tup [.str "op",.str "*",.ref p2,.ref p6]);exact⟨_,_,f,x,.ref pj,.ref p7,.op "*" (.op "=" (.box x) (.num d1)) (.op "=" (.plain "round") (.num d5)),rfl,F6.same (J6.trans I7),Tj2.mono (fun a xs e=>I7 _ _ (kw _ _ e)),.op aD (T2.mono fun a xs e=>I7 _ _ (kw _ _ e)) (T6.mono (aY I7)),⟨st,⟨eqs,trivial,trivial⟩,eqs,(show("round":Str)∈hU by decide +kernel),trivial⟩,(by show 3<=3;decide),fun h rv rows H' h1 h2 h3 h4 h5=>q h rv rows H' h1 h2 h3 h4 (S4.trans ((zJ0 I3).trans (B6.trans ((zJ0 (J6.trans I7)).trans h5))))⟩
 . refine au c ?_;exact⟨_,_,f,x,.ref pj,.ref p2,.op "=" (.box x) (.num d1),rfl,F4,Tj2.mono k4,T2.mono k4,⟨eqs,trivial,trivial⟩,(by show 2<=3;decide),fun h rv rows H' h1 h2 h3 h4 h5=>q h rv rows H' h1 h2 h3 h4 (S4.trans h5)⟩
end
section
def BJ:Sp:=fun vs H Q _=>∃(f N:Addr)(x0 x1 x2:Str)(c:Int),vs=[.ref f,.ref N,.int c]/\FeedAt H f/\H N=some (.lst ([x0,x1,x2].map V.str))/\N≠f/\∀(h:Addr)(rows:List Hr)(H':Hp),HlpAt H' h rows->FeedAt H' f->SameBut f H H'->Q (.ref h) H'
theorem Bk{H:Hp}{f L:Addr}{o:HO}(F:FeedAt H f)(n:L≠f):FeedAt (upd H L o) f:=by
 obtain⟨x,t,e,r⟩:=F;exact⟨x,t,by rw[ao n.symm];exact e,r⟩
theorem vK{H1:Hp}{f L p:Addr}{vs:List V}{rows:List Hr}{x:Str}{v:V}{t:Tm}(F1:FeedAt H1 f)(Lf:L≠f)(hL:H1 L=some (.lst vs))(hp:H1 p=none)(RW:RowsAt H1 vs rows)(rg:∀r∈rows,r.good)(T:TmAt H1 v t)(g:t.good)(d:(t.depth:Int)<=6) :
 ∃H2,upd (upd H1 p (.tup [.str "set",.str x,v])) L (.lst (vs++[.ref p]))=H2/\FeedAt H2 f/\H2 L=some (.lst (vs++[.ref p]))/\RowsAt H2 (vs++[.ref p]) (rows++[.set x t])/\(∀r∈rows++[.set x t],r.good)/\∀a o,a≠L->H1 a=some o->H2 a=some o:=by
 have Ip:=zC0 hp (.tup [.str "set",.str x,v]);have hL':=Ip _ _ hL;have k6:bv _ (upd (upd H1 p (.tup [.str "set",.str x,v])) L (.lst (vs++[.ref p]))):=gB hL';refine⟨_,rfl,Bk (F1.same Ip) Lf,aD,((RW.mono (aY Ip)).mono k6).app (RowsAt.one (.set (k6 _ _ aD) ((T.mono (aY Ip)).mono k6))),fun r hr=>?_,fun a o n e=>by rw[ao n];exact Ip _ _ e⟩;rcases zT0 hr with h | h
 . exact rg r h
 . rw[zM0 h];exact⟨g,by omega⟩
def tAd1:TS:=fun Dn σ H=>∃(y1 y2 y3:Option V)(f L:Addr)(x1 x2:Str)(vs:List V)(rows:List Hr),σ=[some (.ref f),y1,y2,y3,some (.str x1),some (.str x2),some (.ref L)]/\FeedAt H f/\H L=some (.lst vs)/\L≠f/\vs.length<=10/\RowsAt H vs rows/\(∀r∈rows,r.good)/\∀(h:Addr)(rows':List Hr)(H':Hp),HlpAt H' h rows'->FeedAt H' f->(∀a o,a≠f->a≠L->H a=some o->H' a=some o)->Dn.rt (.ref h) H'
theorem cut3(a b c:V):jM [a,b,c] none (some 3)=[a,b,c]:=DF (xs:=[a,b,c]) (k:=3) (zG0 _)
theorem eN:FnScope ["_law_feed_here","_law_names_here","_law_claim","_law_first","_law_off","_law_more","_law_rows"] ["_law_feed_here","_law_names_here","_law_claim"] (ae fg):=⟨rfl,rfl,rfl,by decide +kernel,rfl,by decide +kernel,by decide +kernel⟩
theorem rR {f:Addr} {fd:FuncData} (F:Fun K "_law_adding" "_law_adding" fg f fd) (B:Bl mg) (bZ:Cal P w K mg base 10 "_law_term" ["_law_feed_here","_law_boxes","_law_room","_law_deep"] (jS 8)):FnOk P w K mg base CX0 11 f fd ["_law_feed_here","_law_names_here","_law_claim"] BJ:=by
 refine F.ok eN (fun vs H Q E h=>?_) (fun cdv A outer s H vs Q E hr h=>?_)
 . obtain⟨f,N,x0,x1,x2,c,rfl,_⟩:=h;rfl
 obtain⟨f,N,x0,x1,x2,c,rfl,F0,hN,Nf,q⟩:=h;have s1:1<=sizeLine:=by decide
 have s2:2<=sizeLine:=by decide
 have s3:3<=sizeLine:=by decide
 have s4:4<=sizeLine:=by decide
 refine ⟨_,PSW.out (aF ⟨lj (iu Ax (pv 1) kx (iI aa)) (CP rfl (fJ (bd (i:=3) eN.nd rfl (Or.inl rfl)) (fJ (bd (i:=4) eN.nd rfl (Or.inl rfl)) (fJ (bd (i:=5) eN.nd rfl (Or.inl rfl)) qi))))⟩
  (aF (be (i:=6) eN.nd rfl (Or.inl rfl) (pP (ak (bc (ak aP (ak (bc (ak aP (ak ⟨pv 3⟩ aZ))) (ak my aZ)))) (ak (bc (ak aP (ak ⟨pv 3⟩ (ak (bc (ak aP (ak my aZ))) aZ)))) (ak (bc (ak aP (ak (bc (ak aP (ak ⟨pv 2⟩ aZ))) aZ))) (ak (bc (ak aP aZ)) aZ))))))
  (fN (t':=tAd1) (aF ⟨bE (dW PySem.F.plainAttrs_list PySem.F.slot_list_append PySem.F.type_list_append bu (pv 6) (af (aX (af ax (af (pv 4) (af (ai bZ hr (by decide) rfl (af (pv 0) (af (bL (af (pv 4) (af (pv 5) aH))) (af aa (af aa aH))))) aH)))) aH))⟩
  (aF ⟨bE (dW PySem.F.plainAttrs_list PySem.F.slot_list_append PySem.F.type_list_append bu (pv 6) (af (aX (af ax (af (pv 5) (af (ai bZ hr (by decide) rfl (af (pv 0) (af (bL (af (pv 4) (af (pv 5) aH))) (af aa (af aa aH))))) aH)))) aH))⟩
  (cT (gX ⟨bF bw rfl B.tuple bH (af (ag fX (pv 6) (PEW.out (pP (ak (bc (ak aP (ak (bc (ak aP (ak ⟨pv 4⟩ aZ))) aZ))) (ak (bc (ak aP (ak (bc (ak aP (ak aP (ak (bc (ak aP aZ)) (ak (bc (ak aP (ak ⟨pv 4⟩ aZ))) aZ))))) aZ))) aZ))))) aH)⟩))))
  ?cA))),?_⟩
 case cA=>
  rintro Dn σ H ⟨y1,y2,y3,f,L,x1,x2,vs,rows,rfl,F0,hL,Lf,vl,RW,rg,q⟩;refine⟨_,rfl,.inl ⟨rfl,_,zE0 hL⟩,_,rfl,_,rfl,_,rfl,_,rfl,s2,fun b hb=>?_⟩;have Ib:=zC0 hb (.lst [.str x1,.str x2]);refine⟨f,b,[x1,x2],9,6,rfl,F0.same Ib,aD,F0.ne hb,(by show 1<=2;decide),(by show 2<=100;decide),by decide,by decide,by decide,by decide,fun v t H1 T1 g1 d1 F1 B1=>⟨s3,fun p hp=>?_⟩⟩;have k1:bv H H1:=fun a xs e=>aQ (F0.same Ib) B1 _ _ (Ib _ _ e)
  have hL1:=B1 _ _ Lf (Ib _ _ hL);refine⟨L,_,_,rfl,rfl,zC0 hp _ _ _ hL1,aS (by omega),?_⟩;obtain⟨H2,e2,F2,hL2,RW2,rg2,k2⟩:=vK (x:=x1) F1 Lf hL1 hp (RW.mono k1) rg T1 g1 d1;show qR _ _ _ _ (upd (upd H1 p (.tup [.str "set",.str x1,v])) L (.lst (vs++[.ref p])));rw[e2];have K2:∀a o,a≠f->a≠L->H a=some o->H2 a=some o:=fun a o n1 n2 e=>k2 _ _ n2 (B1 _ _ n1 (Ib _ _ e))
  clear e2 k2 k1;refine⟨_,rfl,.inl ⟨rfl,_,zE0 hL2⟩,_,rfl,_,rfl,_,rfl,_,rfl,s2,fun b2 hb2=>?_⟩;have Ib2:=zC0 hb2 (.lst [.str x1,.str x2]);refine⟨f,b2,[x1,x2],9,6,rfl,F2.same Ib2,aD,F2.ne hb2,(by show 1<=2;decide),(by show 2<=100;decide),by decide,by decide,by decide,by decide,fun v3 t3 H3 T3 g3 d3 F3 B3=>⟨s3,fun p3 hp3=>?_⟩⟩;have k3:bv H2 H3:=fun a xs e=>aQ (F2.same Ib2) B3 _ _ (Ib2 _ _ e)
  have hL3:=B3 _ _ Lf (Ib2 _ _ hL2);have vl2:(vs++[V.ref p]).length=vs.length+1:=by rw[zL0];rfl
  refine⟨L,_,_,rfl,rfl,zC0 hp3 _ _ _ hL3,aS (by omega),?_⟩;obtain⟨H4,e4,F4,hL4,RW4,rg4,k4⟩:=vK (x:=x2) F3 Lf hL3 hp3 (RW2.mono k3) rg2 T3 g3 d3;rw[e4];have K4:∀a o,a≠f->a≠L->H a=some o->H4 a=some o:=fun a o n1 n2 e=>k4 _ _ n2 (B3 _ _ n1 (Ib2 _ _ (K2 _ _ n1 n2 e)))
  clear e4 k4 k3;have vl4:(vs++[V.ref p]++[V.ref p3]).length=vs.length+2:=by rw[zL0,vl2];rfl
  generalize vs++[V.ref p]++[V.ref p3]=vs4 at *
  generalize rows++[Hr.set x1 t]++[Hr.set x2 t3]=rows4 at *
  refine⟨_,rfl,_,rfl,s2,fun a1 h1=>⟨s2,fun a2 h2=>?_⟩⟩;have I1:=zC0 h1 (.tup [.str "box",.str x1]);have I2:=zC0 h2 (.tup [.str "say",.ref a1]);have R2:HrAt (upd (upd H4 a1 (.tup [.str "box",.str x1])) a2 (.tup [.str "say",.ref a1])) (.ref a2) (.say (.box x1)):=.say aD (.box (I2 _ _ aD));have J2:=I1.trans I2;generalize upd (upd H4 a1 (.tup [.str "box",.str x1])) a2 (.tup [.str "say",.ref a1])=H5 at R2 J2;refine⟨s1,fun a3 h3=>⟨_,rfl,s2,fun a4 h4=>⟨s4,fun a5 h5=>⟨s2,fun a6 h6=>?_⟩⟩⟩⟩;have I3:=zC0 h3 (.tup [.str "due"]);have I4:=zC0 h4 (.tup [.str "box",.str x1]);have I5:=zC0 h5 (.tup [.str "op",.str "-",.ref a3,.ref a4]);have I6:=zC0 h6 (.tup [.str "say",.ref a5]);have J6:=I3.trans (I4.trans (I5.trans I6));have R6:HrAt (upd (upd (upd (upd H5 a3 (.tup [.str "due"])) a4 (.tup [.str "box",.str x1])) a5 (.tup [.str "op",.str "-",.ref a3,.ref a4])) a6 (.tup [.str "say",.ref a5])) (.ref a6) (.say (.op "-" (.plain "due") (.box x1))):=.say aD (.op (I6 _ _ aD) (.plain ((I4.trans (I5.trans I6)) _ _ aD)) (.box ((I5.trans I6) _ _ aD)));generalize upd (upd (upd (upd H5 a3 (.tup [.str "due"])) a4 (.tup [.str "box",.str x1])) a5 (.tup [.str "op",.str "-",.ref a3,.ref a4])) a6 (.tup [.str "say",.ref a5])=H6 at R6 J6;refine⟨s2,fun L2 hL2'=>?_⟩;have I7:=zC0 hL2' (.lst [.ref a2,.ref a6]);refine⟨L,L2,_,_,rfl,rfl,(J2.trans (J6.trans I7)) _ _ hL4,aD,cp (by show vs4.length+2<=1000;omega),fun L3 hL3'=>?_⟩;have I8:=zC0 hL3' (.lst (vs4++[.ref a2,.ref a6]));refine⟨L3,_,rfl,.inl ⟨zE0 aD,fun h hh=>?_⟩⟩;have I9:=zC0 hh (.tup (vs4++[.ref a2,.ref a6]));have J9:=I7.trans (I8.trans I9);have JJ:=J2.trans (J6.trans J9);refine q h (rows4++([Hr.say (.box x1)]++[.say (.op "-" (.plain "due") (.box x1))])) _ ⟨⟨_,aD,(RW4.mono (aY JJ)).app ((RowsAt.one (R2.mono (aY (J6.trans J9)))).app (RowsAt.one (R6.mono (aY J9))))⟩,fun r hr=>?_⟩ (F4.same JJ) (fun a o n1 n2 e=>JJ _ _ (K4 _ _ n1 n2 e));rcases zT0 hr with hr | hr
  . exact rg4 r hr
  rcases zT0 hr with hr | hr
  . rw[zM0 hr];exact⟨trivial,by show 1<=8;decide⟩
  . rw[zM0 hr];exact⟨⟨by decide +kernel,by show("due":Str)∈hU;decide +kernel,trivial⟩,by show 2<=8;decide⟩
 refine⟨_,rfl,_,rfl,N,_,rfl,zE0 hN,fun t0 h0=>?_⟩;rw[show jM ([x0,x1,x2].map V.str) none (some 3)=[.str x0,.str x1,.str x2]from cut3 _ _ _];have I0:=zC0 h0 (.lst [.str x0,.str x1,.str x2]);have g0:upd H t0 (.lst [.str x0,.str x1,.str x2]) t0=some (.lst [.str x0,.str x1,.str x2]):=aD;generalize upd H t0 (.lst [.str x0,.str x1,.str x2])=H1 at I0 g0;refine⟨t0,_,rfl,zE0 g0,rfl,_,_,rfl,_,_,rfl,_,_,rfl,rfl,?_⟩;refine⟨_,rfl,s2,fun a1 h1=>⟨s3,fun a2 h2=>?_⟩⟩;have I1:=zC0 h1 (.tup [.str "box",.str x0]);have I2:=zC0 h2 (.tup [.str "if",.ref a1,.int 4]);have R2:HrAt (upd (upd H1 a1 (.tup [.str "box",.str x0])) a2 (.tup [.str "if",.ref a1,.int 4])) (.ref a2) (.iff (.box x0) 4):=.iff aD (.box (I2 _ _ aD));have J2:=I1.trans I2;generalize upd (upd H1 a1 (.tup [.str "box",.str x0])) a2 (.tup [.str "if",.ref a1,.int 4])=H2 at R2 J2;refine⟨_,rfl,s2,fun a3 h3=>⟨s3,fun a4 h4=>?_⟩⟩;have I3:=zC0 h3 (.tup [.str "num",.int 1]);have I4:=zC0 h4 (.tup [.str "set",.str x0,.ref a3]);have R4:HrAt (upd (upd H2 a3 (.tup [.str "num",.int 1])) a4 (.tup [.str "set",.str x0,.ref a3])) (.ref a4) (.set x0 (.num 1)):=.set aD (.num (I4 _ _ aD));have J4:=I3.trans I4;generalize upd (upd H2 a3 (.tup [.str "num",.int 1])) a4 (.tup [.str "set",.str x0,.ref a3])=H4 at R4 J4;refine⟨_,rfl,s2,fun a5 h5=>⟨s2,fun a6 h6=>?_⟩⟩;have I5:=zC0 h5 (.tup [.str "num",.int c]);have I6:=zC0 h6 (.tup [.str "say",.ref a5]);have R6:HrAt (upd (upd H4 a5 (.tup [.str "num",.int c])) a6 (.tup [.str "say",.ref a5])) (.ref a6) (.say (.num c)):=.say aD (.num (I6 _ _ aD));have J6:=I5.trans I6;generalize upd (upd H4 a5 (.tup [.str "num",.int c])) a6 (.tup [.str "say",.ref a5])=H6 at R6 J6;refine⟨s1,fun a7 h7=>⟨s4,fun L hL=>?_⟩⟩;have I7:=zC0 h7 (.tup [.str "end"]);have IL:=zC0 hL (.lst [.ref a2,.ref a4,.ref a6,.ref a7]);have R7:HrAt (upd (upd H6 a7 (.tup [.str "end"])) L (.lst [.ref a2,.ref a4,.ref a6,.ref a7])) (.ref a7) .fin:=.fin (IL _ _ aD);have JL:=I7.trans IL;have JJ:=I0.trans (J2.trans (J4.trans (J6.trans JL)));have F6:FeedAt (upd H6 a7 (.tup [.str "end"])) f:=F0.same (I0.trans (J2.trans (J4.trans (J6.trans I7))));have Lf:L≠f:=F6.ne hL;have L0:H L=none:=(I0.trans (J2.trans (J4.trans (J6.trans I7)))).free hL;refine⟨_,_,_,f,L,x1,x2,[.ref a2]++([.ref a4]++([.ref a6]++[.ref a7])),[.iff (.box x0) 4]++([.set x0 (.num 1)]++([.say (.num c)]++[.fin])),rfl,F0.same JJ,aD,Lf,(by show 4<=10;decide),?_,?_,fun h rows' H' HL F' K'=>q h rows' H' HL F' (fun a o n e=>K' a o n (aO e L0) (JJ _ _ e))⟩
 . exact(RowsAt.one (R2.mono (aY (J4.trans (J6.trans JL))))).app ((RowsAt.one (R4.mono (aY (J6.trans JL)))).app ((RowsAt.one (R6.mono (aY JL))).app (RowsAt.one R7)))
 . intro r hr;rcases zT0 hr with hr | hr
   . rw[zM0 hr];exact⟨trivial,(by show 1<=8;decide),by decide⟩
   rcases zT0 hr with hr | hr
   . rw[zM0 hr];exact⟨trivial,by show 1<=8;decide⟩
   rcases zT0 hr with hr | hr
   . rw[zM0 hr];exact⟨trivial,by show 1<=8;decide⟩
   . rw[zM0 hr];exact trivial
end
section
structure Wr where
 gh:Addr
 a:Addr
 b:Addr
 hl:Addr
 hA:Addr
 hB:Addr
 BL:Addr
 b1:Addr
 b2:Addr
 W:Addr
 v:V
 ns:List Str
 t:Tr
 p:Int
 rA:List Hr
 rB:List Hr
abbrev Wr.G(y:Wr):Gv:=⟨y.ns,[y.t],y.p⟩
structure WrAt(H:Hp)(y:Wr):Prop where
 gt:GmT H y.gh y.a y.b y.ns [y.v] [y.t] y.p
 hl:H y.hl=some (.lst [.ref y.hA,.ref y.hB])
 LA:HlpAt H y.hA y.rA
 LB:HlpAt H y.hB y.rB
 bl:H y.BL=some (.lst [.ref y.b1,.ref y.b2])
 k:GmK y.ns [y.t] y.p
 n6:y.ns.length<=6
 nd:y.ns.Nodup
 bb:y.b1≠y.b2
 nW:y.hl≠y.W/\y.BL≠y.W
structure St9(H:Hp)(y:Wr)(D:Addr)(ws:List Int)(u1 u2:Int)(X1 X2:Str->Int)(m:Nat):Prop where
 w:WrAt H y
 hW:H y.W=some (.lst (ws.map V.int))
 hD:H D=some (.lst [.int u1,.int u2])
 DW:D≠y.W
 wo:∀x∈ws,x=0∨x=1
 r1:0<=u1/\u1<y.p
 r2:0<=u2/\u2<y.p
 h1:BxAt H y.b1 X1 m
 h2:BxAt H y.b2 X2 m
 o1:dA y.p X1
 o2:dA y.p X2
 ml:m<=200*(ws.length+1)
def KpW(y:Wr)(H H':Hp):Prop:=∀a o,a≠y.b1->a≠y.b2->a≠y.W->H a=some o->H' a=some o
theorem WrAt.keep{H H':Hp}{y:Wr}{ys:List V}{k1 k2:List (Key×V)}(w:WrAt H y)(hW:H y.W=some (.lst ys))(e1:H y.b1=some (.dK k1))(e2:H y.b2=some (.dK k2))(s:KpW y H H'):WrAt H' y:=by
 have kT:bv H H':=fun a xs e=>s _ _ (bh e e1 (by intro z;cases z)) (bh e e2 (by intro z;cases z)) (bh e hW (by intro z;cases z)) e
 exact⟨w.gt.mono kT,s _ _ (bh w.hl e1 (by intro z;cases z)) (bh w.hl e2 (by intro z;cases z)) w.nW.1 w.hl,w.LA.mono kT,w.LB.mono kT,s _ _ (bh w.bl e1 (by intro z;cases z)) (bh w.bl e2 (by intro z;cases z)) w.nW.2 w.bl,w.k,w.n6,w.nd,w.bb,w.nW⟩
theorem uS{x h p:Int}(h0:0<=h)(h1:h<p):((x-h) % p=0)↔x % p=h:=by
 rw[←Int.emod_eq_emod_iff_emod_sub_eq_zero,qN0 h0 h1]
theorem Bp{x h p:Int}(h0:0<=h)(h1:h<p):(!decide (V.int ((x-h) % p)=V.int 0))=!decide (x % p=h):=by
 by_cases c:x % p=h
 . rw[decide_eq_true c,decide_eq_true (congrArg V.int ((uS h0 h1).mpr c))]
 . rw[decide_eq_false c,decide_eq_false (fun z=>c ((uS h0 h1).mp (V.int.inj z)))]
theorem Dt(a b:Bool):inV (.bl true) [.bl a,.bl b]=(a||b):=by cases a <;> cases b <;> rfl
theorem Bh{ns:List Str}{t:Tr}{p:Int}{ws:List Int}(p1:1<p)(wo:∀x∈ws,x=0∨x=1)(wl:ws.length=ns.length)(ok:t.ok ns):hor 0 p ([t].map fun t=>t.worth ns ws p)=dC ns t ws:=by
 show(hor 0 p []*0+t.worth ns ws p) % p=dC ns t ws;rw[fD p1 wo wl t ok,Int.mul_zero,Int.zero_add];unfold dC
 split
 . exact qN0 (by decide) p1
 . exact Int.zero_emod p
def HdI(H:Hp)(D b1 b2:Addr)(v1 v2:Int)(X1 X2:Str->Int):Nat->Hp->Prop
 | 0,H'=>H' D=some (.lst [])/\BxAt H' b1 (fun _=>0) 0/\BxAt H' b2 (fun _=>0) 0/\But2 b1 b2 H H'
 | 1,H'=>H' D=some (.lst [.int v1])/\BxAt H' b1 X1 200/\BxAt H' b2 (fun _=>0) 0/\But2 b1 b2 H H'
 | _,H'=>H' D=some (.lst [.int v1,.int v2])/\BxAt H' b1 X1 200/\BxAt H' b2 X2 200/\But2 b1 b2 H H'
def NwI(H:Hp)(D:Addr)(y:Wr)(zA zB:Ak):Nat->Hp->Prop
 | 0,H'=>H' D=some (.lst [])/\Same H H'
 | 1,H'=>∃d1 c1 t1 k1,H' D=some (.lst [.ref d1])/\(H d1=none/\H k1=none)/\NowAt H' d1 y.gh y.a y.b c1 t1 k1 [y.v] zA 0/\(c1≠D/\t1≠D)/\Same H H'
 | _,H'=>∃d1 c1 t1 k1 d2 c2 t2 k2,H' D=some (.lst [.ref d1,.ref d2])/\(H d1=none/\H k1=none/\H d2=none/\H k2=none)/\(d1≠k2/\k1≠k2/\d2≠k1)/\NowAt H' d1 y.gh y.a y.b c1 t1 k1 [y.v] zA 0/\NowAt H' d2 y.gh y.a y.b c2 t2 k2 [y.v] zB 0/\Same H H'
def But4(b1 b2 k1 k2:Addr)(H H':Hp):Prop:=∀a o,a≠b1->a≠b2->a≠k1->a≠k2->H a=some o->H' a=some o
def RwI(H:Hp)(D:Addr)(y:Wr)(k1 d2 c2 t2 k2:Addr)(zB:Ak)(lA lB:List Int)(X1 X2 Y1 Y2:Str->Int)(m:Nat):Nat->Hp->Prop
 | 0,H'=>H' D=some (.lst [])/\Same H H'
 | 1,H'=>∃l1,H' D=some (.lst [.ref l1])/\(l1≠D/\l1≠y.W)/\H' l1=some (.lst (lA.map V.int))/\BxAt H' y.b1 Y1 (m+200)/\BxAt H' y.b2 X2 m/\NowAt H' d2 y.gh y.a y.b c2 t2 k2 [y.v] zB 0/\But4 y.b1 y.b2 k1 k2 H H'
 | _,H'=>∃l1 l2,H' D=some (.lst [.ref l1,.ref l2])/\(l1≠y.W/\l2≠y.W)/\H' l1=some (.lst (lA.map V.int))/\H' l2=some (.lst (lB.map V.int))/\BxAt H' y.b1 Y1 (m+200)/\BxAt H' y.b2 Y2 (m+200)/\But4 y.b1 y.b2 k1 k2 H H'
theorem NowAt.other{H H':Hp}{d gh a b c tt kn x k:Addr}{tv:List V}{z:Ak}{m:Nat}{q1 q2:List (Key×V)}(h:NowAt H d gh a b c tt kn tv z m)(e1:H x=some (.dK q1))(e2:H k=some (.dK q2))(n1:d≠x)(n2:d≠k)(n3:kn≠x)(n4:kn≠k)(s:But2 x k H H'):NowAt H' d gh a b c tt kn tv z m:=by
 obtain⟨hd,gt,hc,ht,⟨kvs,hk,r⟩,dk⟩:=h;exact⟨s _ _ n1 n2 hd,gt.mono (fun a xs e=>s _ _ (bh e e1 (by intro z;cases z)) (bh e e2 (by intro z;cases z)) e),s _ _ (bh hc e1 (by intro z;cases z)) (bh hc e2 (by intro z;cases z)) hc,s _ _ (bh ht e1 (by intro z;cases z)) (bh ht e2 (by intro z;cases z)) ht,⟨kvs,s _ _ n3 n4 hk,r⟩,dk⟩
def tLp9:TS:=fun Dn σ H=>∃(y:Wr)(D:Addr)(ws:List Int)(nn u1 u2:Int)(X1 X2:Str->Int)(m:Nat)(z7 z8 z9:Option V),σ=[some (.ref y.gh),some (.ref y.hl),some (.int y.p),some (.ref y.BL),some (.ref D),some (.ref y.W),some (.int nn),z7,z8,z9,none]/\nn=(ws.length:Int)+1/\St9 H y D ws u1 u2 X1 X2 m/\ws.length<y.ns.length/\
 (∀(D':Addr)(wy u1' u2':Int)(Y1 Y2:Str->Int)(m':Nat)(z7' z8' z9':Option V)(H':Hp),St9 H' y D' (ws++[wy]) u1' u2' Y1 Y2 m'->lg y.G y.rA y.rB (dC y.ns y.t) (y.ns.length-(ws.length+1)+1) ws X1 u1 X2 u2=lg y.G y.rA y.rB (dC y.ns y.t) (y.ns.length-(ws.length+1)) (ws++[wy]) Y1 u1' Y2 u2'->KpW y H H'->Dn.nx [some (.ref y.gh),some (.ref y.hl),some (.int y.p),some (.ref y.BL),some (.ref D'),some (.ref y.W),some (.int nn),z7',z8',z9',none] H')/\
 (∀(r:Addr)(H':Hp),OcAt H' r (lg y.G y.rA y.rB (dC y.ns y.t) (y.ns.length-(ws.length+1)+1) ws X1 u1 X2 u2)->KpW y H H'->Dn.rt (.ref r) H')
def BD:Sp:=fun vs H Q _=>∃(gh a b hl hA hB:Addr)(v:V)(ns:List Str)(t:Tr)(p:Int)(rA rB:List Hr),vs=[.ref gh,.ref hl]/\GmT H gh a b ns [v] [t] p/\H hl=some (.lst [.ref hA,.ref hB])/\HlpAt H hA rA/\HlpAt H hB rB/\GmK ns [t] p/\ns.length<=6/\ns.Nodup/\
 ∀(r:Addr)(H':Hp),OcAt H' r (lY ⟨ns,[t],p⟩ rA rB (dC ns t))->Same H H'->Q (.ref r) H'
theorem bD:FnScope ["_law_game","_law_helpers","_law_p","_law_boxes","_law_held","_law_ways","_law_number","_law_nows","_law_rows","_law_caught","_law_there"] ["_law_game","_law_helpers"] (ae dP):=⟨rfl,rfl,rfl,by decide +kernel,rfl,by decide +kernel,by decide +kernel⟩
theorem qu {f:Addr} {fd:FuncData} (F:Fun K "_law_settled" "_law_settled" dP f fd) (B:Bl mg) (gQ:Cal P w K mg base 1 "_law_now" ["_law_game","_law_number","_law_many","_law_due","_law_s","_law_coins"] xZ) (eV:Cal P w K mg base 25 "_law_said" ["_law_helper_here","_law_now_here","_law_boxes"] pU) (de:Cal P w K mg base 13 "_law_mixed" ["_law_game","_law_s","_law_point"] pV):FnOk P w K mg base CX0 26 f fd ["_law_game","_law_helpers"] BD:=by
 refine F.ok bD (fun vs H Q E h=>?_) (fun cdv A outer s H vs Q E hr h=>?_)
 . obtain⟨gh,a,b,hl,hA,hB,v,ns,t,p,rA,rB,rfl,_⟩:=h;rfl
 obtain⟨gh,a,b,hl,hA,hB,v,ns,t,p,rA,rB,rfl,G,hhl,LA,LB,k,n6,nd,q⟩:=h;have s0:0<=sizeLine:=by decide
 have s2:2<=sizeLine:=by decide
 have s4:4<=sizeLine:=by decide
 have z2:∀{n:Nat},n<=10->n<sizeLine:=fun h=>aS (by omega)
 refine ⟨_,PSW.out (aF (be (i:=2) bD.nd rfl (Or.inr rfl) ⟨aq aC (pv 0) aa (fun _ _=>rfl)⟩)
  (aF (be (i:=3) bD.nd rfl (Or.inr rfl) ⟨bL (af jn (af jn aH))⟩)
  (aF (be (i:=4) bD.nd rfl (Or.inr rfl) ⟨cq (N:=["_law_helpers","_law_game","_law_boxes"]) (ix:=[1,0,3]) rfl
   (CompScope.three (by with_unfolding_all rfl) (by decide) rfl (by decide) rfl (by decide +kernel) rfl (by with_unfolding_all rfl) (by with_unfolding_all rfl) (by with_unfolding_all rfl) (by with_unfolding_all rfl) (by with_unfolding_all rfl) rfl rfl (by with_unfolding_all rfl) rfl rfl (by with_unfolding_all rfl) rfl rfl) rfl
   (bt rfl B.range (af aa aH)) (fun _ _ _=>cU (aq (cI K) (ai eV hr (by decide) rfl (af (aq (cI K) (pv 1) (pv 0) (fun _ _=>rfl)) (af (ai gQ hr (by decide) rfl (af (pv 2) (af aa (af aa (af aa (af aa (af (bL aH) aH))))))) (af (aq (cI K) (pv 3) (pv 0) (fun _ _=>rfl)) aH)))) aa (fun _ _=>rfl)))⟩)
  (aF (fB (ah aM (aq ix_list (pv 4) aa (fun _ _=>rfl)) (aq ix_list (pv 4) aa (fun _ _=>rfl)) (aj _)) (cT (gX ⟨aX (af ax (af (aq ix_list (pv 4) aa (fun _ _=>rfl)) aH))⟩)) cY)
  (aF (be (i:=5) bD.nd rfl (Or.inr rfl) ⟨bL aH⟩)
  (aF ⟨bY PassesOwn.never rfl (pf rfl B.range (af aa (af (ag aW (aE aB rfl B.len PySem.boot_len (af (aq aC (pv 0) aa (fun _ _=>rfl)) aH)) aa) aH))) (bd (i:=6) bD.nd rfl (Or.inr rfl)) (PSW.out (fN (t':=tLp9)
   (aF (be (i:=7) bD.nd rfl (Or.inr rfl) ⟨cq (N:=["_law_ways","_law_number","_law_held","_law_game"]) (ix:=[5,6,4,0]) rfl
    (CompScope.four (by with_unfolding_all rfl) (by decide) rfl (by decide) rfl (by decide +kernel) rfl (by with_unfolding_all rfl) (by with_unfolding_all rfl) (by with_unfolding_all rfl) (by with_unfolding_all rfl) (by with_unfolding_all rfl) (by with_unfolding_all rfl) rfl rfl (by with_unfolding_all rfl) rfl rfl (by with_unfolding_all rfl) rfl rfl (by with_unfolding_all rfl) rfl rfl) rfl
    (bt rfl B.range (af aa aH)) (fun _ _ _=>cU (ai gQ hr (by decide) rfl (af (pv 4) (af (pv 2) (af aa (af (aq (cI K) (pv 3) (pv 0) (fun _ _=>rfl)) (af aa (af (pv 1) aH))))))))⟩)
   (aF (be (i:=8) bD.nd rfl (Or.inr rfl) ⟨cq (N:=["_law_nows","_law_helpers","_law_boxes"]) (ix:=[7,1,3]) rfl
    (CompScope.three (by with_unfolding_all rfl) (by decide) rfl (by decide) rfl (by decide +kernel) rfl (by with_unfolding_all rfl) (by with_unfolding_all rfl) (by with_unfolding_all rfl) (by with_unfolding_all rfl) (by with_unfolding_all rfl) rfl rfl (by with_unfolding_all rfl) rfl rfl (by with_unfolding_all rfl) rfl rfl) rfl
    (bt rfl B.range (af aa aH)) (fun _ _ _=>cU (ai eV hr (by decide) rfl (af (aq (cI K) (pv 2) (pv 0) (fun _ _=>rfl)) (af (aq (cI K) (pv 1) (pv 0) (fun _ _=>rfl)) (af (aq (cI K) (pv 3) (pv 0) (fun _ _=>rfl)) aH)))))⟩)
   (aF ⟨qf (i:=9) (N:=["_law_rows","_law_p","_law_held"]) (ix:=[8,2,4]) bD.nd rfl (Or.inl rfl) rfl
    (CompScope.three (by with_unfolding_all rfl) (by decide) rfl (by decide) rfl (by decide +kernel) rfl (by with_unfolding_all rfl) (by with_unfolding_all rfl) (by with_unfolding_all rfl) (by with_unfolding_all rfl) (by with_unfolding_all rfl) rfl rfl (by with_unfolding_all rfl) rfl rfl (by with_unfolding_all rfl) rfl rfl) rfl
    (bt rfl B.range (af aa aH)) (fun _ _ _=>cU (cr jP (ag aN (ag aV (ag aW (aq (cI K) (aq (cI K) (pv 1) (pv 0) (fun _ _=>rfl)) aa (fun _ _=>rfl)) (aq (cI K) (aq (cI K) (pv 1) (pv 0) (fun _ _=>rfl)) aa (fun _ _=>rfl))) (aq (cI K) (pv 3) (pv 0) (fun _ _=>rfl))) (pv 2)) aa (aj _)))⟩
   (aF (fB (ah iy jo (pv 9) (by with_unfolding_all rfl)) (cT (gX ⟨aX (af ax (af (aq ix_list (pv 9) aa (fun _ _=>rfl)) (af (aq ix_list (pv 9) aa (fun _ _=>rfl)) (af (bF bw rfl B.tuple bH (af (pv 5) aH)) aH))))⟩)) cY)
   (aF ⟨bE (dW PySem.F.plainAttrs_list PySem.F.slot_list_append PySem.F.type_list_append bu (pv 5) (af (bF lC rfl B.int jL (af (cr aM (aq ix_list (aq ix_list (pv 8) aa (fun _ _=>rfl)) aa (fun _ _=>rfl)) (aq ix_list (aq ix_list (pv 8) aa (fun _ _=>rfl)) aa (fun _ _=>rfl)) (aj _)) aH)) aH))⟩
   (cT (be (i:=4) bD.nd rfl (Or.inr rfl) ⟨bL (af (aq ix_list (aq ix_list (pv 8) aa (fun _ _=>rfl)) (aq ix_list (pv 5) (lK ja aa) (fun _ _=>rfl)) (fun _ _=>rfl)) (af (aq ix_list (aq ix_list (pv 8) aa (fun _ _=>rfl)) (aq ix_list (pv 5) (lK ja aa) (fun _ _=>rfl)) (fun _ _=>rfl)) aH))⟩))))))) ?cL))⟩
  (aF (be (i:=10) bD.nd rfl (Or.inl rfl) ⟨ai de hr (by decide) rfl (af (pv 0) (af aa (af (pv 5) aH)))⟩)
  (cT (gX ⟨aX (af ax (af (cr jP (aq ix_list (pv 4) aa (fun _ _=>rfl)) (pv 10) (aj _)) (af (cr jP (aq ix_list (pv 4) aa (fun _ _=>rfl)) (pv 10) (aj _)) (af (bF bw rfl B.tuple bH (af (pv 5) aH)) aH))))⟩))))))))),?_⟩
 case cL=>
  rintro Dn σ H ⟨y,D,ws,nn,u1,u2,X1,X2,m,z7,z8,z9,rfl,rfl,S,wl,qn,qr⟩;have w:=S.w;have p2:=w.k.p2;have n6:=w.n6;have ml:=S.ml;obtain⟨zA,eA⟩:∃z:Ak,z=y.G.z ((ws.length:Int)+1) 2 u1 ws:=⟨_,rfl⟩
  obtain⟨zB,eB⟩:∃z:Ak,z=y.G.z ((ws.length:Int)+1) 2 u2 ws:=⟨_,rfl⟩
  have okA:AkOk zA:=by rw[eA];exact Ah w.k w.n6 wl S.wo S.r1.1 S.r1.2
  have okB:AkOk zB:=by rw[eB];exact Ah w.k w.n6 wl S.wo S.r2.1 S.r2.2
  have oA:dA zA.p X1:=by rw[eA];exact S.o1
  have oB:dA zB.p X2:=by rw[eB];exact S.o2
  have mA:zA.mn=2:=by rw[eA]
  have mB:zB.mn=2:=by rw[eB]
  have soA:=di (rows:=y.rA) okA oA (by rw[mA];decide);have soB:=di (rows:=y.rB) okB oB (by rw[mB];decide);obtain⟨x0,x1,ex⟩:∃x0 x1,bU zA y.rA X1=[x0,x1]:=by
   have h1:=soA.2.1;rw[mA]at h1;have sl2:(bU zA y.rA X1).length=2:=by omega
   match bU zA y.rA X1,sl2 with
   | [x0,x1],_=>exact⟨x0,x1,rfl⟩
  obtain ⟨y0,y1,ey⟩:∃y0 y1,bU zB y.rB X2=[y0,y1]:=by
   have h1:=soB.2.1;rw[mB]at h1;have sl2:(bU zB y.rB X2).length=2:=by omega
   match bU zB y.rB X2,sl2 with
   | [x0,x1],_=>exact⟨x0,x1,rfl⟩
  have st:=pe (tru:=dC y.ns y.t) (k:=y.ns.length-(ws.length+1)) (G:=y.G) (by rw[←eA];exact ex) (by rw[←eB];exact ey);rw[←eA,←eB]at st;have xr:∀x∈[x0,x1],0<=x/\x<y.p:=by rw[←ex];have:=soA.1;rw[eA]at this ⊢;exact this
  have yr:∀x∈[y0,y1],0<=x/\x<y.p:=by rw[←ey];have:=soB.1;rw[eB]at this ⊢;exact this
  have ob1:dA y.p (bxA zA y.rA X1):=by have:=soA.2.2;rw[eA]at this ⊢;exact this
  have ob2:dA y.p (bxA zB y.rB X2):=by have:=soB.2.2;rw[eB]at this ⊢;exact this
  obtain⟨Y1,eY1⟩:∃Y,bxA zA y.rA X1=Y:=⟨_,rfl⟩
  obtain⟨Y2,eY2⟩:∃Y,bxA zB y.rB X2=Y:=⟨_,rfl⟩
  rw[eY1]at st ob1;rw[eY2]at st ob2;obtain⟨q1,eb1,_⟩:=id S.h1;obtain⟨q2,eb2,_⟩:=id S.h2;have wl100:ws.length<=100:=by omega
  refine⟨_,rfl,by decide,by decide,fun DN hDN=>?_⟩;refine cN (NwI H DN y zA zB) ⟨aD,zC0 hDN _⟩ ?_ ?_
  . intro i H8 hi h8;have hi':i<2:=hi;have i01:i=0∨i=1:=by omega
    rcases i01 with rfl | rfl
    . obtain⟨hDN8,S8⟩:=h8;refine⟨_,rfl,_,rfl,_,rfl,_,rfl,D,_,_,.int u1,rfl,rfl,zE0 (S8 _ _ S.hD),rfl,_,rfl,y.gh,y.a,y.b,y.W,[y.v],zA,(by rw[eA];rfl),by rw[eA];exact w.gt.mono (aY S8),by rw[eA];exact S8 _ _ S.hW,by rw[eA];exact wl100,fun d1 c1 t1 k1 H9 d10 c10 t10 k10 N9 S9=>?_⟩;have c1D:c1≠DN:=(aO hDN8 c10).symm;have t1D:t1≠DN:=(aO hDN8 t10).symm;have hDN9:=S9 _ _ hDN8;have B9:SameBut DN H9 (upd H9 DN (.lst ([]++[.ref d1]))):=SameBut.upd _;exact⟨[],hDN9,z2 (by show 0<=10;decide),Nx.of hi ⟨d1,c1,t1,k1,aD,⟨S8.free d10,S8.free k10⟩,N9.lst hDN9 c1D t1D B9,⟨c1D,t1D⟩,fun x o e=>B9 _ _ (aO e hDN) (S9 _ _ (S8 _ _ e))⟩⟩
    . obtain⟨d1,c1,t1,k1,hDN8,nn1,N1,nD1,S8⟩:=h8;refine⟨_,rfl,_,rfl,_,rfl,_,rfl,D,_,_,.int u2,rfl,rfl,zE0 (S8 _ _ S.hD),rfl,_,rfl,y.gh,y.a,y.b,y.W,[y.v],zB,(by rw[eB];rfl),by rw[eB];exact w.gt.mono (aY S8),by rw[eB];exact S8 _ _ S.hW,by rw[eB];exact wl100,fun d2 c2 t2 k2 H9 d20 c20 t20 k20 N9 S9=>?_⟩;have c2D:c2≠DN:=(aO hDN8 c20).symm;have t2D:t2≠DN:=(aO hDN8 t20).symm;have hDN9:=S9 _ _ hDN8;have B9:SameBut DN H9 (upd H9 DN (.lst ([.ref d1]++[.ref d2]))):=SameBut.upd _;obtain⟨kk,ek,_⟩:=id N1.hk;exact⟨[.ref d1],hDN9,z2 (by show 1<=10;decide),Nx.of hi ⟨d1,c1,t1,k1,d2,c2,t2,k2,aD,⟨nn1.1,nn1.2,S8.free d20,S8.free k20⟩,⟨aO N1.hd k20,aO ek k20,(aO ek d20).symm⟩,(N1.up S9 (zG0 0)).lst hDN9 nD1.1 nD1.2 B9,N9.lst hDN9 c2D t2D B9,fun x o e=>B9 _ _ (aO e hDN) (S9 _ _ (S8 _ _ e))⟩⟩
  rintro H1 ⟨d1,c1,t1,k1,d2,c2,t2,k2,hDN1,⟨d10,k10,d20,k20⟩,⟨nd1k2,nk1k2,nd2k1⟩,N1,N2,S1⟩;obtain⟨qk1,ek1,_⟩:=id N1.hk;obtain⟨qk2,ek2,_⟩:=id N2.hk;have fb1:=S1 _ _ eb1;have fb2:=S1 _ _ eb2;refine⟨_,rfl,by decide,by decide,fun DR hDR=>?_⟩;have DRb1:DR≠y.b1:=(aO fb1 hDR).symm;have DRb2:DR≠y.b2:=(aO fb2 hDR).symm;have DRk1:DR≠k1:=(aO ek1 hDR).symm;have DRk2:DR≠k2:=(aO ek2 hDR).symm;refine cN (RwI H1 DR y k1 d2 c2 t2 k2 zB [x0,x1] [y0,y1] X1 X2 Y1 Y2 m) ⟨aD,zC0 hDR _⟩ ?_ ?_
  . intro i H8 hi h8;have hi':i<2:=hi;have i01:i=0∨i=1:=by omega
    rcases i01 with rfl | rfl
    . obtain⟨hDR8,S8⟩:=h8;have T8:=S1.trans S8;refine⟨_,rfl,_,rfl,y.hl,_,_,.ref y.hA,rfl,rfl,zE0 (T8 _ _ w.hl),rfl,_,rfl,_,rfl,DN,_,_,.ref d1,rfl,rfl,zE0 (S8 _ _ hDN1),rfl,_,rfl,_,rfl,y.BL,_,_,.ref y.b1,rfl,rfl,zE0 (T8 _ _ w.bl),rfl,?_⟩;refine⟨y.hA,y.b1,d1,y.gh,y.a,y.b,c1,t1,k1,[y.v],zA,y.rA,X1,0,m,rfl,w.LA.mono (aY T8),N1.up S8 (zG0 0),S.h1.keep (fun o e=>T8 _ _ e),aO eb1 k10,(aO eb1 d10).symm,oA,(by rw[eA];exact w.nd),okA,(by rw[eA];intro h;exfalso;have h':(ws.length:Int)+1=0:=h;omega),(by rw[mA];decide),(by rw[mA];decide),by decide,by omega,fun l1 H9 l10 hl9 BX9 N9 B9=>?_⟩;have hl9':H9 l1=some (.lst ((bU zA y.rA X1).map V.int)):=hl9;have BX9':BxAt H9 y.b1 (bxA zA y.rA X1) (m+200):=BX9;rw[ex]at hl9';rw[eY1]at BX9';have l1D:l1≠DR:=(aO hDR8 l10).symm;have hDR9:=B9 _ _ DRb1 DRk1 hDR8;have U:SameBut DR H9 (upd H9 DR (.lst ([]++[.ref l1]))):=SameBut.upd _;exact⟨[],hDR9,z2 (by show 0<=10;decide),Nx.of hi ⟨l1,aD,⟨l1D,fun z=>by rw[z,T8 _ _ S.hW]at l10;cases l10⟩,U _ _ l1D hl9',BX9'.keep (fun o e=>U _ _ DRb1.symm e),S.h2.keep (fun o e=>U _ _ DRb2.symm (B9 _ _ w.bb.symm (aO eb2 k10) (T8 _ _ e))),(NowAt.other (N2.up S8 (zG0 0)) (S8 _ _ fb1) (S8 _ _ ek1) (aO eb1 d20).symm nd2k1 (aO eb1 k20).symm nk1k2.symm B9).lst hDR9 (aO N2.hc hDR) (aO N2.ht hDR) U,fun a o n1 n2 n3 n4 e=>U _ _ (aO e hDR) (B9 _ _ n1 n3 (S8 _ _ e))⟩⟩
    . obtain ⟨l1,hDR8,⟨l1D,l1W⟩,hl18,BX18,BX28,N28,K8⟩:=h8;have L8:∀{a:Addr}{ys:List V},H1 a=some (.lst ys)->H8 a=some (.lst ys):=fun e=>K8 _ _ (bh e fb1 (by intro z;cases z)) (bh e fb2 (by intro z;cases z)) (bh e ek1 (by intro z;cases z)) (bh e ek2 (by intro z;cases z)) e
      have T8:bv H H8:=fun a xs e=>K8 _ _ (bh e eb1 (by intro z;cases z)) (bh e eb2 (by intro z;cases z)) (aO e k10) (aO e k20) (S1 _ _ e)
      refine⟨_,rfl,_,rfl,y.hl,_,_,.ref y.hB,rfl,rfl,zE0 (L8 (S1 _ _ w.hl)),rfl,_,rfl,_,rfl,DN,_,_,.ref d2,rfl,rfl,zE0 (L8 hDN1),rfl,_,rfl,_,rfl,y.BL,_,_,.ref y.b2,rfl,rfl,zE0 (L8 (S1 _ _ w.bl)),rfl,?_⟩;refine⟨y.hB,y.b2,d2,y.gh,y.a,y.b,c2,t2,k2,[y.v],zB,y.rB,X2,0,m,rfl,w.LB.mono T8,N28,BX28,aO eb2 k20,(aO eb2 d20).symm,oB,(by rw[eB];exact w.nd),okB,(by rw[eB];intro h;exfalso;have h':(ws.length:Int)+1=0:=h;omega),(by rw[mB];decide),(by rw[mB];decide),by decide,by omega,fun l2 H9 l20 hl9 BX9 N9 B9=>?_⟩;have hl9':H9 l2=some (.lst ((bU zB y.rB X2).map V.int)):=hl9;have BX9':BxAt H9 y.b2 (bxA zB y.rB X2) (m+200):=BX9;rw[ey]at hl9';rw[eY2]at BX9';have l2D:l2≠DR:=(aO hDR8 l20).symm;have hDR9:=B9 _ _ DRb2 DRk2 hDR8;obtain⟨qb,eqb,_⟩:=id BX28;obtain⟨qk,eqk,_⟩:=id N28.hk;have U:SameBut DR H9 (upd H9 DR (.lst ([.ref l1]++[.ref l2]))):=SameBut.upd _;exact⟨[.ref l1],hDR9,z2 (by show 1<=10;decide),Nx.of hi ⟨l1,l2,aD,⟨l1W,fun z=>by rw[z,L8 (S1 _ _ S.hW)]at l20;cases l20⟩,U _ _ l1D (B9 _ _ (bh hl18 eqb (by intro z;cases z)) (bh hl18 eqk (by intro z;cases z)) hl18),U _ _ l2D hl9',BX18.keep (fun o e=>U _ _ DRb1.symm (B9 _ _ w.bb (aO eb1 k20) e)),BX9'.keep (fun o e=>U _ _ DRb2.symm e),fun a o n1 n2 n3 n4 e=>U _ _ (aO e hDR) (B9 _ _ n2 n4 (K8 _ _ n1 n2 n3 n4 e))⟩⟩
  rintro H2 ⟨l1,l2,hDR2,nl,hl12,hl22,BX12,BX22,K2⟩;have L2':∀{a:Addr}{ys:List V},H a=some (.lst ys)->H2 a=some (.lst ys):=fun e=>K2 _ _ (bh e eb1 (by intro z;cases z)) (bh e eb2 (by intro z;cases z)) (aO e k10) (aO e k20) (S1 _ _ e)
  have hD2:=L2' S.hD;have hW2:=L2' S.hW;have KW2:KpW y H H2:=fun a o n1 n2 _ e=>K2 _ _ n1 n2 (aO e k10) (aO e k20) (S1 _ _ e)
  refine⟨_,rfl,by decide,by decide,fun DC hDC=>?_⟩;obtain⟨f1,ef1⟩:∃f,(!decide ((x0+x1) % y.p=u1))=f:=⟨_,rfl⟩
  obtain⟨f2,ef2⟩:∃f,(!decide ((y0+y1) % y.p=u2))=f:=⟨_,rfl⟩
  refine cN (fun i H'=>H' DC=some (.lst (([f1,f2].take i).map V.bl))/\Same H2 H') ⟨aD,zC0 hDC _⟩ ?_ ?_
  . rintro i H8 hi ⟨hDC8,S8⟩;have hi':i<2:=hi;obtain⟨l,a0,a1,u,hat,hl8,hat2,ur,tk⟩:∃(l:Addr)(a0 a1 u:Int),atI [V.ref l1,.ref l2] (0+(i:Int))=some (.ref l)/\H8 l=some (.lst [.int a0,.int a1])/\atI [V.int u1,.int u2] (0+(i:Int))=some (.int u)/\(0<=u/\u<y.p)/\([f1,f2].take (i+1)).map V.bl=([f1,f2].take i).map V.bl++[.bl (!decide ((a0+a1) % y.p=u))]:=by
     have i01:i=0∨i=1:=by omega
     rcases i01 with rfl | rfl
     . exact⟨l1,x0,x1,u1,rfl,S8 _ _ hl12,rfl,S.r1,by rw[ef1];rfl⟩
     . exact⟨l2,y0,y1,u2,rfl,S8 _ _ hl22,rfl,S.r2,by rw[ef2];rfl⟩
    refine⟨_,rfl,_,rfl,DR,_,_,.ref l,rfl,rfl,zE0 (S8 _ _ hDR2),hat,l,_,0,.int a0,rfl,rfl,zE0 hl8,rfl,_,rfl,_,rfl,DR,_,_,.ref l,rfl,rfl,zE0 (S8 _ _ hDR2),hat,l,_,1,.int a1,rfl,rfl,zE0 hl8,rfl,_,_,rfl,rfl,?_⟩;refine⟨_,rfl,_,rfl,D,_,_,.int u,rfl,rfl,zE0 (S8 _ _ hD2),hat2,_,_,rfl,rfl,_,rfl,_,_,rfl,rfl,(by show 0<y.p;omega),rfl,?_⟩;refine⟨_,hDC8,z2 (by rw[zH0,qM0];show min i 2<=10;omega),Nx.of hi ⟨?_,fun a o e=>by rw[ao (aO e hDC)];exact S8 _ _ e⟩⟩;rw[aD,tk,←Bp ur.1 ur.2]
  rintro H3 ⟨hDC3,S3⟩;have hDC3':H3 DC=some (.lst [.bl f1,.bl f2]):=hDC3;have hW3:=S3 _ _ hW2;have KW3:KpW y H H3:=fun a o n1 n2 n3 e=>S3 _ _ (KW2 _ _ n1 n2 n3 e)
  refine⟨_,rfl,DC,_,rfl,.inl (zE0 hDC3'),rfl,rfl,_,rfl,?_⟩;have ein:inV (.bl true) [.bl f1,.bl f2]=(f1||f2):=Dt _ _;have e1':f1=false↔(x0+x1) % y.p=u1:=by rw[←ef1];simp
  have e2':f2=false↔(y0+y1) % y.p=u2:=by rw[←ef2];simp
  rw[ef1,ef2]at st;refine iV (fun hc=>?_) (fun hc=>?_)
  . have hc':inV (.bl true) [.bl f1,.bl f2]=true:=hc;rw[ein]at hc';have nc:¬ ((x0+x1) % y.p=u1/\(y0+y1) % y.p=u2):=fun h=>by
     rw[e1'.mpr h.1,e2'.mpr h.2]at hc';cases hc'
    rw[zD0 nc]at st;rw[st]at qr;refine⟨_,rfl,DC,_,0,.bl f1,rfl,rfl,zE0 hDC3',rfl,_,rfl,DC,_,1,.bl f2,rfl,rfl,zE0 hDC3',rfl,_,rfl,y.W,_,rfl,.inl ⟨zE0 hW3,fun tw htw=>⟨s4,fun r hr=>?_⟩⟩⟩;have It:=zC0 htw (.tup (ws.map V.int));have Ir:=zC0 hr (.tup [.str "caught",.bl f1,.bl f2,.ref tw]);exact qr r _ ⟨tw,aD,Ir _ _ aD⟩ (fun a o n1 n2 n3 e=>Ir _ _ (It _ _ (KW3 _ _ n1 n2 n3 e)))
  . have hc':inV (.bl true) [.bl f1,.bl f2]=false:=Bool.eq_false_iff.mpr hc;rw[ein,Bool.or_eq_false_iff]at hc';rw[zF0 ⟨e1'.mp hc'.1,e2'.mp hc'.2⟩]at st;have hDR3:=S3 _ _ hDR2;have hl13:=S3 _ _ hl12;have hl23:=S3 _ _ hl22;refine⟨_,rfl,.inl ⟨rfl,_,zE0 hW3⟩,_,rfl,DR,_,0,.ref l1,rfl,rfl,zE0 hDR3,rfl,l1,_,0,.int x0,rfl,rfl,zE0 hl13,rfl,_,rfl,DR,_,1,.ref l2,rfl,rfl,zE0 hDR3,rfl,l2,_,0,.int y0,rfl,rfl,zE0 hl23,rfl,rfl,.inr ⟨_,rfl,?_⟩⟩;obtain⟨wy,ewy,ewx,w01⟩:∃wy:Int,(if decide (V.int x0=V.int y0)=true then(1:Int)else 0)=wy/\(if x0=y0 then(1:Int)else 0)=wy/\(wy=0∨wy=1):=by
     by_cases c:x0=y0
     . exact⟨1,by rw[c];simp,zF0 c,.inr rfl⟩
     . exact⟨0,zD0 (fun h=>c (V.int.inj (of_decide_eq_true h))),zD0 c,.inl rfl⟩
    rw[ewx]at st;rw[ewy];refine⟨y.W,_,_,rfl,rfl,hW3,z2 (by rw[zH0];omega),?_⟩;have hW4:upd H3 y.W (.lst (ws.map V.int++[.int wy])) y.W=some (.lst (ws.map V.int++[.int wy])):=aD;have U4:SameBut y.W H3 (upd H3 y.W (.lst (ws.map V.int++[.int wy]))):=SameBut.upd _;generalize upd H3 y.W (.lst (ws.map V.int++[.int wy]))=H4 at hW4 U4;have WH:y.W≠DR:=fun z=>by rw[←z,S1 _ _ S.hW]at hDR;cases hDR
    have hDR4:=U4 _ _ WH.symm hDR3;have nl1:=nl.1;have nl2:=nl.2;have hl14:=U4 _ _ nl1 hl13;have hl24:=U4 _ _ nl2 hl23;have at1:∀(a b:Int),atI [V.int a,.int b] wy=some (.int (if wy=0 then a else b)):=fun a b=>by rcases w01 with rfl | rfl <;> rfl
    refine⟨_,rfl,DR,_,0,.ref l1,rfl,rfl,zE0 hDR4,rfl,_,rfl,_,rfl,y.W,_,_,.int wy,rfl,rfl,zE0 hW4,kM _ _,l1,_,_,.int (if wy=0 then x0 else x1),rfl,rfl,zE0 hl14,at1 _ _,?_⟩;refine⟨_,rfl,DR,_,1,.ref l2,rfl,rfl,zE0 hDR4,rfl,_,rfl,_,rfl,y.W,_,_,.int wy,rfl,rfl,zE0 hW4,kM _ _,l2,_,_,.int (if wy=0 then y0 else y1),rfl,rfl,zE0 hl24,at1 _ _,s2,fun D' hD'=>?_⟩;have ID:=zC0 hD' (.lst [.int (if wy=0 then x0 else x1),.int (if wy=0 then y0 else y1)]);have KW5:KpW y H _:=fun a o n1 n2 n3 e=>ID _ _ (U4 _ _ n3 (KW3 _ _ n1 n2 n3 e))
    have b1W:y.b1≠y.W:=bh eb1 S.hW (by intro z;cases z);have b2W:y.b2≠y.W:=bh eb2 S.hW (by intro z;cases z);refine qn D' wy _ _ Y1 Y2 (m+200) _ _ _ _ ⟨w.keep S.hW eb1 eb2 KW5,?_,aD,(aO hW4 hD').symm,fun x hx=>?_,xr _ (by split <;> simp),yr _ (by split <;> simp),BX12.keep (fun o e=>ID _ _ (U4 _ _ b1W (S3 _ _ e))),BX22.keep (fun o e=>ID _ _ (U4 _ _ b2W (S3 _ _ e))),ob1,ob2,by rw[zL0];show m+200<=200*(ws.length+1+1);omega⟩ st KW5
    . rw[ID _ _ hW4,zK0];rfl
    . rcases zT0 hx with h | h
      . exact S.wo x h
      . rw[zM0 h];exact w01
 have p2:=k.p2;have p9:=k.p9;refine⟨_,rfl,gh,_,2,_,rfl,rfl,zB0 G.hg,rfl,?_⟩;refine fun b1 b10=>fun b2 b20=>⟨s2,fun BL BL0=>?_⟩
 have I1:=zC0 b10 (.dK []);have I2:=zC0 b20 (.dK []);have I3:=zC0 BL0 (.lst [.ref b1,.ref b2]);have eb1:=I3 _ _ (I2 _ _ (aD (H:=H) (a:=b1) (o:=.dK [])));have eb2:=I3 _ _ (aD (H:=upd H b1 (.dK [])) (a:=b2) (o:=.dK []));have eBL:upd (upd (upd H b1 (.dK [])) b2 (.dK [])) BL (.lst [.ref b1,.ref b2]) BL=some (.lst [.ref b1,.ref b2]):=aD;have nbb:b1≠b2:=aO (aD (H:=H) (a:=b1) (o:=.dK [])) b20;have b2n:H b2=none:=I1.free b20;have T1:=I1.trans (I2.trans I3);generalize upd (upd (upd H b1 (.dK [])) b2 (.dK [])) BL (.lst [.ref b1,.ref b2])=H1 at eb1 eb2 eBL T1;clear I1 I2 I3;have G1:=G.mono (aY T1);obtain⟨z0,ez⟩:∃z:Ak,z=(⟨ns,[t],p⟩:Gv).z 0 1 0 []:=⟨_,rfl⟩
 have zok:AkOk z0:=by
  subst ez;exact⟨k,n6,Int.le_refl 0,(fun h=>absurd h (by show ¬ (0:Int)<0;decide)),(fun x hx=>by cases hx),Int.le_refl 0,(by show(0:Int)<p;omega),Int.le_refl 0,(by show(0:Int)<p;omega),by show 0<=100;decide⟩
 have bz:dA z0.p (fun _=>0):=by
  subst ez;exact fun x=>⟨Int.le_refl 0,by show(0:Int)<p;omega⟩
 have m1:z0.mn=1:=by rw[ez]
 have soA:=di (rows:=rA) zok bz (by rw[m1];decide);have soB:=di (rows:=rB) zok bz (by rw[m1];decide);have one:∀l:List Int,(l.length:Int)=z0.mn->∃v,l=[v]:=fun l h=>by
  rw[m1]at h;have h2:l.length=1:=by omega
  match l,h2 with
  | [v],_=>exact⟨v,rfl⟩
 obtain ⟨v1,ev1⟩:=one _ soA.2.1;obtain⟨v2,ev2⟩:=one _ soB.2.1;have v1r:0<=v1/\v1<p:=by
  have:=soA.1 v1 (by rw[ev1];exact List.mem_singleton.mpr rfl)
  rw[ez]at this;exact this
 have v2r:0<=v2/\v2<p:=by
  have:=soB.1 v2 (by rw[ev2];exact List.mem_singleton.mpr rfl)
  rw[ez]at this;exact this
 have eA:hd0 ⟨ns,[t],p⟩ rA=v1:=by
  unfold hd0;rw[←ez,ev1];rfl
 have eB:hd0 ⟨ns,[t],p⟩ rB=v2:=by
  unfold hd0;rw[←ez,ev2];rfl
 obtain⟨Y1,eY1⟩:∃Y,bxA z0 rA (fun _=>0)=Y:=⟨_,rfl⟩
 obtain⟨Y2,eY2⟩:∃Y,bxA z0 rB (fun _=>0)=Y:=⟨_,rfl⟩
 have ob1:dA p Y1:=by have:=soA.2.2;rw[eY1,ez]at this;exact this
 have ob2:dA p Y2:=by have:=soB.2.2;rw[eY2,ez]at this;exact this
 have z00:z0.nr=0->z0.s=0/\z0.to=[]:=fun _=>by rw[ez];exact⟨rfl,rfl⟩
 refine⟨_,rfl,by decide,by decide,fun D hD=>?_⟩;have Db1:D≠b1:=(aO eb1 hD).symm;have Db2:D≠b2:=(aO eb2 hD).symm;refine cN (HdI H1 D b1 b2 v1 v2 Y1 Y2) ⟨aD,⟨[],zC0 hD _ _ _ eb1,zG0 _,fun x=>rfl⟩,⟨[],zC0 hD _ _ _ eb2,zG0 _,fun x=>rfl⟩,fun a o _ _ e=>zC0 hD _ _ _ e⟩ ?_ ?_
 . intro i H8 hi h8;have hi':i<2:=hi;have i01:i=0∨i=1:=by omega
   rcases i01 with rfl | rfl
   . obtain ⟨hD8,BX1,BX2,K8⟩:=h8;have T8:∀{a:Addr}{o:HO},H a=some o->H8 a=some o:=fun e=>K8 _ _ (aO e b10) (aO e b2n) (T1 _ _ e)
     refine⟨_,rfl,_,rfl,hl,_,_,.ref hA,rfl,rfl,zE0 (T8 hhl),rfl,_,rfl,s0,fun co hco=>?_⟩;have Ic:=zC0 hco (.lst []);have gc:upd H8 co (.lst []) co=some (.lst []):=aD;generalize upd H8 co (.lst [])=H9 at Ic gc;refine⟨gh,a,b,co,[v],z0,(by rw[ez];rfl),by rw[ez];exact G.mono (fun a xs e=>Ic _ _ (T8 e)),by rw[ez];exact gc,by rw[ez];show 0<=100;decide,fun d c tt kn H10 d0 c0 t0 k0 N10 S10=>?_⟩;have T10:=Ic.trans S10;obtain⟨kb,ekb,_⟩:=id BX1;obtain⟨kb2,ekb2,_⟩:=id BX2;refine⟨_,rfl,_,rfl,BL,_,_,.ref b1,rfl,rfl,zE0 (T10 _ _ (K8 _ _ (bh eBL eb1 (by intro z;cases z)) (bh eBL eb2 (by intro z;cases z)) eBL)),rfl,?_⟩;refine⟨hA,b1,d,gh,a,b,c,tt,kn,[v],z0,rA,fun _=>0,0,0,rfl,LA.mono (fun a xs e=>T10 _ _ (T8 e)),N10,BX1.keep (fun o e=>T10 _ _ e),aO (Ic _ _ ekb) k0,(aO (Ic _ _ ekb) d0).symm,bz,(by rw[ez];exact nd),zok,z00,(by rw[m1];decide),(by rw[m1];decide),by decide,by decide,fun l H11 l0 hl11 BX11 N11 B11=>?_⟩;have hl11':H11 l=some (.lst ((bU z0 rA (fun _=>0)).map V.int)):=hl11;have BX11':BxAt H11 b1 (bxA z0 rA (fun _=>0)) 200:=BX11.le (by omega);rw[ev1]at hl11';rw[eY1]at BX11';have E11:∀{a:Addr}{o:HO},a≠b1->H8 a=some o->H11 a=some o:=fun n e=>B11 _ _ n (aO (Ic _ _ e) k0) (T10 _ _ e)
     refine⟨l,_,0,.int v1,rfl,rfl,zE0 hl11',rfl,[],E11 Db1 hD8,z2 (by show 0<=10;decide),Nx.of hi ⟨aD,BX11'.keep (fun o e=>by rw[ao Db1.symm];exact e),BX2.keep (fun o e=>by rw[ao Db2.symm];exact E11 nbb.symm e),fun a o n1 n2 e=>?_⟩⟩;rw[ao (aO e hD)];exact E11 n1 (K8 _ _ n1 n2 e)
   . obtain ⟨hD8,BX1,BX2,K8⟩:=h8;have T8:∀{a:Addr}{o:HO},H a=some o->H8 a=some o:=fun e=>K8 _ _ (aO e b10) (aO e b2n) (T1 _ _ e)
     refine⟨_,rfl,_,rfl,hl,_,_,.ref hB,rfl,rfl,zE0 (T8 hhl),rfl,_,rfl,s0,fun co hco=>?_⟩;have Ic:=zC0 hco (.lst []);have gc:upd H8 co (.lst []) co=some (.lst []):=aD;generalize upd H8 co (.lst [])=H9 at Ic gc;refine⟨gh,a,b,co,[v],z0,(by rw[ez];rfl),by rw[ez];exact G.mono (fun a xs e=>Ic _ _ (T8 e)),by rw[ez];exact gc,by rw[ez];show 0<=100;decide,fun d c tt kn H10 d0 c0 t0 k0 N10 S10=>?_⟩;have T10:=Ic.trans S10;obtain⟨kb,ekb,_⟩:=id BX1;obtain⟨kb2,ekb2,_⟩:=id BX2;refine⟨_,rfl,_,rfl,BL,_,_,.ref b2,rfl,rfl,zE0 (T10 _ _ (K8 _ _ (bh eBL eb1 (by intro z;cases z)) (bh eBL eb2 (by intro z;cases z)) eBL)),rfl,?_⟩;refine⟨hB,b2,d,gh,a,b,c,tt,kn,[v],z0,rB,fun _=>0,0,0,rfl,LB.mono (fun a xs e=>T10 _ _ (T8 e)),N10,BX2.keep (fun o e=>T10 _ _ e),aO (Ic _ _ ekb2) k0,(aO (Ic _ _ ekb2) d0).symm,bz,(by rw[ez];exact nd),zok,z00,(by rw[m1];decide),(by rw[m1];decide),by decide,by decide,fun l H11 l0 hl11 BX11 N11 B11=>?_⟩;have hl11':H11 l=some (.lst ((bU z0 rB (fun _=>0)).map V.int)):=hl11;have BX11':BxAt H11 b2 (bxA z0 rB (fun _=>0)) 200:=BX11.le (by omega);rw[ev2]at hl11';rw[eY2]at BX11';have E11:∀{a:Addr}{o:HO},a≠b2->H8 a=some o->H11 a=some o:=fun n e=>B11 _ _ n (aO (Ic _ _ e) k0) (T10 _ _ e)
     refine⟨l,_,0,.int v2,rfl,rfl,zE0 hl11',rfl,[.int v1],E11 Db2 hD8,z2 (by show 1<=10;decide),Nx.of hi ⟨aD,BX1.keep (fun o e=>by rw[ao Db1.symm];exact E11 nbb e),BX11'.keep (fun o e=>by rw[ao Db2.symm];exact e),fun a o n1 n2 e=>?_⟩⟩;rw[ao (aO e hD)];exact E11 n2 (K8 _ _ n1 n2 e)
 rintro H2 ⟨hD2,BX1,BX2,K2⟩;have T2:Same H H2:=fun a o e=>K2 _ _ (aO e b10) (aO e b2n) (T1 _ _ e)
 have eBL2:=K2 _ _ (bh eBL eb1 (by intro z;cases z)) (bh eBL eb2 (by intro z;cases z)) eBL;refine⟨_,rfl,D,_,0,.int v1,rfl,rfl,zE0 hD2,rfl,_,rfl,D,_,1,.int v2,rfl,rfl,zE0 hD2,rfl,rfl,_,rfl,?_⟩
 by_cases c:v1=v2
 . refine aU (congrArg V.int c) ?_;refine⟨_,rfl,D,_,0,.int v1,rfl,rfl,zE0 hD2,rfl,s2,fun r hr=>?_⟩;refine q r _ ?_ (T2.trans (zC0 hr _));unfold lY;rw[zF0 (by rw[eA,eB];exact c),eA];exact aD
 refine au (fun z=>c (V.int.inj z)) ?_;have e0:lg ⟨ns,[t],p⟩ rA rB (dC ns t) ns.length [] Y1 v1 Y2 v2=lY ⟨ns,[t],p⟩ rA rB (dC ns t):=by
  unfold lY;rw[zD0 (by rw[eA,eB];exact c),eA,eB,←ez,eY1,eY2]
 refine⟨s0,fun W hW0=>?_⟩;have I3:=zC0 hW0 (.lst []);have hW3:upd H2 W (.lst []) W=some (.lst (([]:List Int).map V.int)):=aD;have T3:=T2.trans I3;have Wn:H W=none:=T2.free hW0;show qR _ _ _ _ (upd H2 W (.lst []));generalize upd H2 W (.lst [])=H3 at I3 hW3 T3;obtain⟨y,ey⟩:∃y:Wr,y=⟨gh,a,b,hl,hA,hB,BL,b1,b2,W,v,ns,t,p,rA,rB⟩:=⟨_,rfl⟩
 have G3:=G.mono (aY T3);have W3:WrAt H3 y:=by
  subst ey;exact⟨G3,T3 _ _ hhl,LA.mono (aY T3),LB.mono (aY T3),I3 _ _ eBL2,k,n6,nd,nbb,aO hhl Wn,aO eBL2 hW0⟩
 have S0:St9 H3 y D [] v1 v2 Y1 Y2 200:=by
  subst ey;exact⟨W3,hW3,I3 _ _ hD2,aO hD2 hW0,(fun x hx=>by cases hx),v1r,v2r,BX1.keep (fun o e=>I3 _ _ e),BX2.keep (fun o e=>I3 _ _ e),ob1,ob2,by show 200<=200*(0+1);decide⟩
 have el:(ns.map V.str).length=ns.length:=zH0 _;refine⟨_,rfl,gh,_,0,.ref a,rfl,rfl,zB0 G3.hg,rfl,a,_,rfl,.inr (zB0 G3.ha),_,_,rfl,rfl,_,_,rfl,⟨by decide,by decide,by omega,by omega⟩,?_⟩;refine cS (fun i σ H'=>∃(D:Addr)(ws:List Int)(u1 u2:Int)(X1 X2:Str->Int)(m:Nat)(z6 z7 z8 z9:Option V),σ=[some (.ref gh),some (.ref hl),some (.int p),some (.ref BL),some (.ref D),some (.ref W),z6,z7,z8,z9,none]/\ws.length=i/\St9 H' y D ws u1 u2 X1 X2 m/\lg ⟨ns,[t],p⟩ rA rB (dC ns t) (ns.length-i) ws X1 u1 X2 u2=lY ⟨ns,[t],p⟩ rA rB (dC ns t)/\Same H H')
  ⟨D,[],v1,v2,Y1,Y2,200,_,_,_,_,rfl,rfl,S0,e0,T3⟩ ?_ ?_
 . rintro i σ H' hi ⟨D,ws,u1,u2,X1,X2,m,z6,z7,z8,z9,rfl,wl,S,er,T'⟩;rw[el]at hi;have hi':i<ns.length:=by omega
   have ek:ns.length-i=ns.length-(ws.length+1)+1:=by omega
   rw[ek]at er;have kp:∀H'':Hp,KpW y H' H''->Same H H'':=fun H'' kw a o e=>kw _ _ (by rw[ey];exact aO e b10) (by rw[ey];exact aO e b2n) (by rw[ey];exact aO e Wn) (T' _ _ e)
   refine⟨y,D,ws,1+(i:Int),u1,u2,X1,X2,m,z7,z8,z9,(by rw[ey];rfl),by omega,S,by rw[ey];show ws.length<ns.length;omega,?_,?_⟩
   . intro D' wy u1' u2' Y1' Y2' m' z7' z8' z9' H'' S'' eq kw;rw[ey]at eq ⊢;rw[ey]at S'' kw;refine⟨D',ws++[wy],u1',u2',Y1',Y2',m',_,_,_,_,rfl,by rw[zL0,wl];rfl,S'',?_,kp H'' (by rw[ey];exact kw)⟩;rw[show ns.length-(i+1)=ns.length-(ws.length+1) by omega,←er];exact eq.symm
   . intro r H'' oc kw;have oc':OcAt H'' r (lg ⟨ns,[t],p⟩ rA rB (dC ns t) (ns.length-(ws.length+1)+1) ws X1 u1 X2 u2):=by rw[ey]at oc;exact oc
     rw[er]at oc';exact q r H'' oc' (kp H'' kw)
 . rintro σ H' ⟨D,ws,u1,u2,X1,X2,m,z6,z7,z8,z9,rfl,wl,S,er,T'⟩;rw[el]at wl er;have wl':ws.length=ns.length:=by omega
   rw[show ns.length-((ns.length:Int)+1-1).toNat=0 by omega]at er;have er':Oc.cau (!decide (u1=dC ns t ws)) (!decide (u2=dC ns t ws)) ws=lY ⟨ns,[t],p⟩ rA rB (dC ns t):=er;have hW':H' W=some (.lst (ws.map V.int)):=by have:=S.hW;rw[ey]at this;exact this
   have tk:=k.tok t qG0;have wo:=S.wo;refine⟨_,rfl,_,rfl,gh,a,b,W,ns,[v],[t],ws,0,p,rfl,G.mono (aY T'),nd,by omega,(fun x hx=>by rw[zM0 hx];exact⟨tk.1,tk.2.2.1⟩),.inl hW',wl',(fun x hx=>by rcases wo x hx with rfl | rfl <;> omega),by omega,by omega,fun H4 S4=>?_⟩;rw[Bh (by omega) wo wl' tk.1];have hD4:=S4 _ _ S.hD;have hW4:=S4 _ _ hW';refine⟨_,rfl,D,_,0,.int u1,rfl,rfl,zE0 hD4,rfl,_,rfl,rfl,_,rfl,D,_,1,.int u2,rfl,rfl,zE0 hD4,rfl,_,rfl,rfl,_,rfl,W,_,rfl,.inl ⟨zE0 hW4,fun tw htw=>⟨s4,fun r hr=>?_⟩⟩⟩;have dd:∀u:Int,decide (V.int u=V.int (dC ns t ws))=decide (u=dC ns t ws):=fun u=>by
    by_cases c:u=dC ns t ws
    . rw[decide_eq_true c,decide_eq_true (congrArg V.int c)]
    . rw[decide_eq_false c,decide_eq_false (fun z=>c (V.int.inj z))]
   have Ir:=zC0 hr (.tup [.str "caught",.bl (!decide (V.int u1=V.int (dC ns t ws))),.bl (!decide (V.int u2=V.int (dC ns t ws))),.ref tw]);refine q r _ ?_ (T'.trans (S4.trans ((zC0 htw _).trans Ir)));rw[←er',←dd,←dd];exact⟨tw,aD,Ir _ _ aD⟩
end
section
def ocD:Oc->PyData
 | .agr v=>.tuple [.str "agreed",.int v]
 | .cau x y ws=>.tuple [.str "caught",.bool x,.bool y,.tuple (ws.map PyData.int)]
theorem zp{H:Hp}{a:Addr}:∀{o:Oc},OcAt H a o->Rep K H (.ref a) (ocD o)
 | .agr _,h=>.tup (zB0 h) (.cons (.str _) (.cons (.int _) .nil))
 | .cau _ _ ws,⟨_,h,h2⟩=>.tup (zB0 h) (.cons (.str _) (.cons (.bl _) (.cons (.bl _) (.cons (.tup (zB0 h2) (rm ws)) .nil))))
theorem BW:PyData.strOk ("agreed":Str)=true:=by decide +kernel
theorem BV:PyData.strOk ("caught":Str)=true:=by decide +kernel
theorem lu:∀o:Oc,SeqAt.shaped (ocD o)=true
 | .agr v=>by simp [BW,BV,ocD,SeqAt.shaped,PyData.canLay0,PyData.depth,PyData.canLayAll0,PyData.depthAll]
 | .cau x y ws=>by simp [BW,BV,ocD,SeqAt.shaped,PyData.canLay0,PyData.depth,PyData.canLayAll0,PyData.depthAll,W.ke_canLayAll0,W.ke_depthAll]
theorem Dc(o:Oc):PyData.eqv (ocD o) (ocD o)=true:=SeqAt.eqv_refl _ (by
 have:=lu o
 unfold SeqAt.shaped at this;rw[Bool.and_eq_true]at this;exact this.1)
def BI:Sp:=fun vs H Q _=>∃(a b:Addr)(o:Oc),vs=[.ref a,.ref b]/\OcAt H a o/\OcAt H b o/\Q (.bl true) H
theorem tM:FnScope ["_law_found","_law_due"] ["_law_found","_law_due"] (ae gy):=⟨rfl,rfl,rfl,by decide +kernel,rfl,by decide +kernel,by decide +kernel⟩
theorem uf {f:Addr} {fd:FuncData} (F:Fun K "_law_alike" "_law_alike" gy f fd) (B:Bl mg):FnOk P w K mg base CX0 1 f fd ["_law_found","_law_due"] BI:=by
 refine F.ok tM (fun vs H Q E h=>?_) (fun cdv A outer s H vs Q E hr h=>?_)
 . obtain⟨a,b,o,rfl,_⟩:=h;rfl
 obtain ⟨a,b,o,rfl,ha,hb,q⟩:=h;refine⟨_,(ac (aJ (PW.pt (gI (li (jj (aE dY rfl B.isinstance PyProof.Rows.boot_isinstance (af (pv 0) (af (jH (v:=V.ty "tuple") rfl B.tuple bH rfl) aH))))) (fV (ah (CW hr.units) (pv 0) (pv 1) (aj _))))) (ad (av jo)) az)
  (ac (aJ (ah aM (aq aC (pv 1) aa (fun _ _=>rfl)) ax (aj _)) (ad (av (lq (aE dY rfl B.isinstance PyProof.Rows.boot_isinstance (af (aq aC (pv 0) aa (fun _ _=>rfl)) (af (jH (v:=V.ty "int") rfl B.int jL rfl) aH))) (jT (ql (aE dY rfl B.isinstance PyProof.Rows.boot_isinstance (af (aq aC (pv 0) aa (fun _ _=>rfl)) (af (jH (v:=V.ty "bool") rfl B.bool jV rfl) aH)))))))) az)
  (ad (av (lq (aE dY rfl B.isinstance PyProof.Rows.boot_isinstance (af (aq aC (pv 0) aa (fun _ _=>rfl)) (af (jH (v:=V.ty "bool") rfl B.bool jV rfl) aH))) (lq (aE dY rfl B.isinstance PyProof.Rows.boot_isinstance (af (aq aC (pv 0) aa (fun _ _=>rfl)) (af (jH (v:=V.ty "bool") rfl B.bool jV rfl) aH))) (jT (aE dY rfl B.isinstance PyProof.Rows.boot_isinstance (af (aq aC (pv 0) aa (fun _ _=>rfl)) (af (jH (v:=V.ty "tuple") rfl B.tuple bH rfl) aH)))))))))),?_⟩
 have ra:=zp (K:=K) ha;have rb:=zp (K:=K) hb;have ty:∃xs,H a=some (.tup xs):=by
  cases o with
  | agr v=>exact⟨_,ha⟩
  | cau x y ws=>
    obtain⟨t,h,_⟩:=ha;exact⟨_,h⟩
 obtain⟨xs,hxs⟩:=ty;refine⟨_,rfl,_,_,"tuple",true,rfl,TyOf.tup hxs,jp _ _,_,rfl,dD ?_⟩;refine⟨_,rfl,_,rfl,_,_,ra,rb,lu _,lu _,_,rfl,?_⟩;rw[Dc];refine dD ?_;cases o with
 | agr v=>
   have ha':H a=some (.tup [.str "agreed",.int v]):=ha;have hb':H b=some (.tup [.str "agreed",.int v]):=hb;refine⟨_,rfl,b,_,0,.str "agreed",rfl,rfl,zB0 hb',rfl,rfl,_,rfl,aU rfl ?_⟩;refine⟨_,rfl,a,_,1,.int v,rfl,rfl,zB0 ha',rfl,_,_,"int",true,rfl,TyOf.int _,jp _ _,true,rfl,fq ?_⟩;exact⟨_,rfl,a,_,1,.int v,rfl,rfl,zB0 ha',rfl,_,_,"bool",false,rfl,TyOf.int _,qA _,false,rfl,q⟩
 | cau x y ws=>
   obtain⟨t,ha',ht⟩:=ha;obtain⟨t2,hb',ht2⟩:=hb;refine⟨_,rfl,b,_,0,.str "caught",rfl,rfl,zB0 hb',rfl,rfl,_,rfl,au (fun z=>by have:=V.str.inj z;revert this;decide +kernel) ?_⟩;refine⟨_,rfl,a,_,1,.bl x,rfl,rfl,zB0 ha',rfl,_,_,"bool",true,rfl,TyOf.bl _,jp _ _,true,rfl,fq ?_⟩;refine⟨_,rfl,a,_,2,.bl y,rfl,rfl,zB0 ha',rfl,_,_,"bool",true,rfl,TyOf.bl _,jp _ _,true,rfl,fq ?_⟩;exact⟨_,rfl,a,_,3,.ref t,rfl,rfl,zB0 ha',rfl,_,_,"tuple",true,rfl,TyOf.tup ht,jp _ _,q⟩
end
section
variable {CM CA CG CS:Addr}
theorem OcAt.same{H H':Hp}{a:Addr}(s:Same H H'):∀{o:Oc},OcAt H a o->OcAt H' a o
 | .agr _,h=>s _ _ h
 | .cau _ _ _,⟨t,h,h2⟩=>⟨t,s _ _ h,s _ _ h2⟩
structure L9 where
 a0:Addr
 ns0:List Int
 gh:Addr
 a:Addr
 b:Addr
 v:V
 ns:List Str
 t:Tr
 p:Int
 N:Addr
 x0:Str
 x1:Str
 x2:Str
structure L9At(K:W.Frag)(H:Hp)(y:L9):Prop where
 hS:SqL K H y.a0 (y.ns0.map V.int)
 h63:y.ns0.length<=63
 G:GmT H y.gh y.a y.b y.ns [y.v] [y.t] y.p
 k:GmK y.ns [y.t] y.p
 n3:y.ns.length<=3
 nd:y.ns.Nodup
 hN:H y.N=some (.lst ([y.x0,y.x1,y.x2].map V.str))
theorem L9At.same{H H':Hp}{y:L9}(h:L9At K H y)(s:Same H H'):L9At K H' y:=⟨s.seq h.hS,h.h63,h.G.mono (aY s),h.k,h.n3,h.nd,s _ _ h.hN⟩
def HsAt(H:Hp)(hs:List (Addr×List Hr)):Prop:=∀x∈hs,HlpAt H x.1 x.2
theorem HsAt.mono{H H':Hp}{hs:List (Addr×List Hr)}(h:HsAt H hs)(k:bv H H'):HsAt H' hs:=fun x hx=>(h x hx).mono k
abbrev hsV(hs:List (Addr×List Hr)):List V:=hs.map fun x=>.ref x.1
def tA9(K:W.Frag):TS:=fun Dn σ H=>∃(y:L9),σ=[some (.ref y.a0),some (.ref y.gh),some (.ref y.N),none,none,none,none,none,none,none,none,none]/\L9At K H y/\∀H',Dn.rt (.bl true) H'
def tH9:TS:=fun Dn σ H=>∃(z0 z1:Option V)(N HL f h:Addr)(i:Nat)(fm:Int)(hs:List (Addr×List Hr))(rows:List Hr)(x0 x1 x2:Str),σ=[z0,z1,some (.ref N),some (.ref HL),some (.int (0+(i:Int))),some (.ref f),some (.ref h),some (.int fm),none,none,none,none]/\i<2/\H N=some (.lst ([x0,x1,x2].map V.str))/\N≠f/\N≠HL/\H HL=some (.lst (hsV hs))/\HL≠f/\hs.length<=2/\HsAt H hs/\FeedAt H f/\HlpAt H h rows/\
 ∀(h':Addr)(rows':List Hr)(H':Hp),H' HL=some (.lst (hsV (hs++[(h',rows')])))->HlpAt H' h' rows'->(∀a o,a≠f->a≠HL->H a=some o->H' a=some o)->Dn.nx [z0,z1,some (.ref N),some (.ref HL),some (.int (0+(i:Int))),some (.ref f),some (.ref h'),some (.int fm),none,none,none,none] H'
def tC9(K:W.Frag):TS:=fun Dn σ H=>∃(y:L9)(HL hA hB:Addr)(rA rB:List Hr)(z4 z5 z6 z7:Option V),σ=[some (.ref y.a0),some (.ref y.gh),some (.ref y.N),some (.ref HL),z4,z5,z6,z7,none,none,none,none]/\L9At K H y/\H HL=some (.lst [.ref hA,.ref hB])/\HlpAt H hA rA/\HlpAt H hB rB/\∀H',Dn.rt (.bl true) H'
theorem cP:FnScope ["_law_script","_law_game","_law_names_here","_law_helpers","_law_k","_law_feed_here","_law_helper_here","_law_form","_law_made","_law_claim","_law_third","_law_some"] ["_law_script"] (ae km):=⟨rfl,rfl,rfl,by decide +kernel,rfl,by decide +kernel,by decide +kernel⟩
theorem Db {f fI:Addr} {fd fdI:FuncData} (F:Fun K "law" "law" km f fd) (B:Bl mg) (TG:GTxt K mg CG) (MG:Mk K CG fI) (GI:FnOk P w K mg base CX0 14 fI fdI ["self","switches","trees","field"] (ve CG)) (bI:Binds K fdI ["self","switches","trees","field"] [])
 (e9:Cal P w K mg base 1 "_law_feed" ["_law_script","_law_k"] (ye K)) (ba:Cal P w K mg base 1 "_law_take" ["_law_feed_here","_law_many"] gD) (fF:Cal P w K mg base 2 "_law_names" ["_law_feed_here","_law_many"] mJ) (iW:Cal P w K mg base 14 "_law_one_tree" ["_law_feed_here","_law_most","_law_room"] BE)
 (lI:Cal P w K mg base 11 "_law_helper" ["_law_feed_here","_law_boxes","_law_most"] yd) (t9:Cal P w K mg base 2 "_law_liar" ["_law_feed_here","_law_box"] yb) (ia:Cal P w K mg base 11 "_law_adding" ["_law_feed_here","_law_names_here","_law_claim"] BJ)
 (gQ:Cal P w K mg base 1 "_law_now" ["_law_game","_law_number","_law_many","_law_due","_law_s","_law_coins"] xZ) (eV:Cal P w K mg base 25 "_law_said" ["_law_helper_here","_law_now_here","_law_boxes"] pU) (jg:Cal P w K mg base 26 "_law_settled" ["_law_game","_law_helpers"] BD) (oO:Cal P w K mg base 1 "_law_alike" ["_law_found","_law_due"] BI)
 (oX:Cal P w K mg base 31 "settled" ["game","one","other"] (oU CG)):FnOk P w K mg base CX0 32 f fd ["_law_script"] (vd K):=by
 refine F.ok cP (fun vs H Q E h=>?_) (fun cdv A outer s H vs Q E hr h=>?_)
 . obtain⟨a,ns,rfl,_⟩:=h;rfl
 obtain⟨a0,ns0,rfl,hS,h63,q⟩:=h;have hr15:Room (14+1) _:=hr.mono (by decide);have s0:0<=sizeLine:=by decide
 have s2:2<=sizeLine:=by decide
 have s5:5<=sizeLine:=by decide
 have hp12:(10:Int) ^ (12:Int).toNat=1000000000000:=by decide
 refine ⟨_,PSW.out (aF (be (i:=1) cP.nd rfl (Or.inl rfl) ⟨ai iW hr (by decide) rfl (af (ai e9 hr (by decide) rfl (af (pv 0) (af aa aH))) (af aa (af aa aH)))⟩)
  (aF (be (i:=2) cP.nd rfl (Or.inl rfl) ⟨ai fF hr (by decide) rfl (af (ai e9 hr (by decide) rfl (af (pv 0) (af aa aH))) (af aa aH))⟩)
  (aF (fB (PW.pt (lh (ah df (aE qI rfl B.len PySem.boot_len (af (aq ix_list (pv 2) aa (fun _ _=>rfl)) aH)) aa (aj _)) (kq (ah iz (ai ba hr (by decide) rfl (af (ai e9 hr (by decide) rfl (af (pv 0) (af aa aH))) (af aa aH))) aa (aj _))))) ⟨ad (lj (ag jU (aq ix_list (pv 2) aa (fun _ _=>rfl)) ax) (qj (pv 2) aa kg))⟩ cY)
  (fN (t':=tA9 K) (aF (be (i:=3) cP.nd rfl (Or.inl rfl) ⟨bL aH⟩)
  (aF ⟨bY PassesOwn.never rfl (bt rfl B.range (af aa aH)) (bd (i:=4) cP.nd rfl (Or.inl rfl)) (PSW.out
   (aF (be (i:=5) cP.nd rfl (Or.inl rfl) ⟨ai e9 hr (by decide) rfl (af (pv 0) (af (ag aW aa (pv 4)) aH))⟩)
   (aF (be (i:=6) cP.nd rfl (Or.inl rfl) ⟨ai lI hr (by decide) rfl (af (pv 5) (af (pv 2) (af aa aH)))⟩)
   (aF (be (i:=7) cP.nd rfl (Or.inl rfl) ⟨ai ba hr (by decide) rfl (af (pv 5) (af aa aH))⟩)
   (fN (t':=tH9) (aF (fB (ah aM (pv 7) aa (aj _)) (cT (be (i:=6) cP.nd rfl (Or.inl rfl) ⟨ai t9 hr (by decide) rfl (af (pv 5) (af (aq ix_list (pv 2) (pv 4) (fun _ _=>rfl)) aH))⟩)) cY)
   (fN (t':=tH9) (aF (fB (PW.pt (lh (ah aM (pv 7) aa (aj _)) (kq (ah (yS (Nat.lt_of_le_of_lt (Nat.le_add_right _ _) hr.units)) (pv 3) (bL aH) (aj _))))) (cT (be (i:=6) cP.nd rfl (Or.inl rfl) ⟨aq ix_list (pv 3) aa (fun _ _=>rfl)⟩)) cY)
   (fN (t':=tH9) (aF (fB (ah iz (pv 7) aa (aj _)) (cT (be (i:=6) cP.nd rfl (Or.inl rfl) ⟨ai ia hr (by decide) rfl (af (pv 5) (af (pv 2) (af (aq ix_list (bL (af (ai ba hr (by decide) rfl (af (pv 5) (af aa aH))) (af (ai ba hr (by decide) rfl (af (pv 5) (af (ag tY aa aa) aH))) aH))) (ai ba hr (by decide) rfl (af (pv 5) (af aa aH))) (fun _ _=>rfl)) aH)))⟩)) cY)
   (fN (t':=tH9) (cT ⟨bE (dW PySem.F.plainAttrs_list PySem.F.slot_list_append PySem.F.type_list_append bu (pv 3) (af (pv 6) aH))⟩) ?cH)) ?cG)) ?cF)) ?cE)))))⟩
  (fN (t':=tC9 K) (aF (be (i:=8) cP.nd rfl (Or.inl rfl) ⟨kC MG GI hr15 rfl TG.mgC bI .nil ee (af (aq aC (pv 1) aa (fun _ _=>rfl)) (af (aq aC (pv 1) aa (fun _ _=>rfl)) (af (aq aC (pv 1) aa (fun _ _=>rfl)) aH)))⟩)
  (aF (be (i:=9) cP.nd rfl (Or.inl rfl) ⟨aq ix_list (ai eV hr (by decide) rfl (af (aq ix_list (pv 3) aa (fun _ _=>rfl)) (af (ai gQ hr (by decide) rfl (af (pv 1) (af aa (af aa (af aa (af aa (af (bL aH) aH))))))) (af jn aH)))) aa (fun _ _=>rfl)⟩)
  (aF (be (i:=10) cP.nd rfl (Or.inl rfl) ⟨ai ia hr (by decide) rfl (af (ai e9 hr (by decide) rfl (af (pv 0) (af aa aH))) (af (pv 2) (af (pv 9) aH)))⟩)
  (aF ⟨bY PassesOwn.never rfl (jm (aX (af (pv 3) (af (CT (pv 3) (lK ja aa)) (af (pv 3) (af (bL (af (pv 10) (af (aq ix_list (pv 3) aa (fun _ _=>rfl)) aH))) (af (pv 3) aH))))))) (bd (i:=11) cP.nd rfl (Or.inl rfl)) (PSW.out (cT (fB (li (jj (ai oO hr (by decide) rfl (af (ai oX hr (by decide) rfl (af (pv 8) (af (aq ix_list (pv 11) aa (fun _ _=>rfl)) (af (aq ix_list (pv 11) aa (fun _ _=>rfl)) aH)))) (af (ai jg hr (by decide) rfl (af (pv 1) (af (pv 11) aH))) aH))))) (cT (gX ⟨jo⟩)) cY)))⟩
  (cT (gX ⟨jo⟩)))))) ?cC))) ?cA)))),?_⟩
 case cH=>
  rintro Dn σ H ⟨z0,z1,N,HL,f,h,i,fm,hs,rows,x0,x1,x2,rfl,i2,hN,Nf,NH,hHL,HLf,h2,HS,F0,Hh,q⟩;refine⟨_,rfl,.inl ⟨rfl,_,zE0 hHL⟩,_,rfl,HL,_,_,rfl,rfl,hHL,aS (by rw[zH0];omega),?_⟩;have U:SameBut HL H (upd H HL (.lst (hsV hs++[.ref h]))):=SameBut.upd _;exact q h rows _ (by rw[aD];show _=some (HO.lst ((hs++[(h,rows)]).map _));rw[zK0];rfl) (Hh.mono (gB hHL)) (fun a o _ n e=>U _ _ n e)
 case cG=>
  rintro Dn σ H ⟨z0,z1,N,HL,f,h,i,fm,hs,rows,x0,x1,x2,rfl,i2,hN,Nf,NH,hHL,HLf,h2,HS,F0,Hh,q⟩;refine⟨_,rfl,_,_,rfl,rfl,_,rfl,?_⟩;refine iV (fun _=>?_) (fun _=>?_)
  . refine ⟨_,rfl,_,rfl,_,rfl,f,9,rfl,F0,by decide,by decide,fun c1 H1 _ _ F1 B1=>?_⟩;refine⟨_,rfl,_,_,rfl,rfl,⟨by decide,by decide,by decide⟩,f,_,rfl,F1,(by show(0:Int)<10 ^ (12:Int).toNat;rw[hp12];decide),(by show(10:Int) ^ (12:Int).toNat<2 ^ 63;rw[hp12];decide),fun c2 H2 _ _ F2 B2=>⟨s2,fun L hL=>?_⟩⟩;have IL:=zC0 hL (.lst [.int c1,.int c2]);have gL:upd H2 L (.lst [.int c1,.int c2]) L=some (.lst [.int c1,.int c2]):=aD;have Lf:L≠f:=F2.ne hL;have F2':=F2.same IL;generalize upd H2 L (.lst [.int c1,.int c2])=H3 at IL gL F2';refine⟨_,rfl,f,2,rfl,F2',by decide,by decide,fun d H4 d0 d1 F4 B4=>?_⟩;obtain⟨c,hat⟩:∃c:Int,atI [V.int c1,.int c2] d=some (.int c):=by
     have:d=0∨d=1:=by omega
     rcases this with rfl | rfl
     . exact⟨_,rfl⟩
     . exact⟨_,rfl⟩
    have S4:SameBut f H H4:=B1.trans (B2.trans ((zJ0 IL).trans B4));refine⟨L,_,_,.int c,rfl,rfl,zE0 (B4 _ _ Lf gL),hat,f,N,x0,x1,x2,c,rfl,F4,S4 _ _ Nf hN,Nf,fun h' rows' H5 HL5 F5 B5=>?_⟩;have S5:=S4.trans B5;exact⟨_,_,N,HL,f,h',i,fm,hs,rows',x0,x1,x2,rfl,i2,S5 _ _ Nf hN,Nf,NH,S5 _ _ HLf hHL,HLf,h2,HS.mono (aQ F0 S5),F5,HL5,fun h'' r'' H' e1 e2 e3=>q h'' r'' H' e1 e2 (fun a o n1 n2 e=>e3 a o n1 n2 (S5 _ _ n1 e))⟩
  . exact⟨_,_,N,HL,f,h,i,fm,hs,rows,x0,x1,x2,rfl,i2,hN,Nf,NH,hHL,HLf,h2,HS,F0,Hh,q⟩
 case cF=>
  rintro Dn σ H ⟨z0,z1,N,HL,f,h,i,fm,hs,rows,x0,x1,x2,rfl,i2,hN,Nf,NH,hHL,HLf,h2,HS,F0,Hh,q⟩;refine⟨_,rfl,rfl,_,rfl,?_⟩;refine iV (fun _=>?_) (fun _=>?_)
  . refine ⟨_,rfl,s0,fun e0 he0=>?_⟩;have I1:=zC0 he0 (.lst []);refine⟨HL,e0,_,rfl,rfl,zE0 (I1 _ _ hHL),zE0 aD,_,rfl,?_⟩;have nx:∀(h':Addr)(r':List Hr),HlpAt H h' r'->tH9 Dn [z0,z1,some (.ref N),some (.ref HL),some (.int (0+(i:Int))),some (.ref f),some (.ref h'),some (.int fm),none,none,none,none] (upd H e0 (.lst [])):=fun h' r' k=>⟨_,_,N,HL,f,h',i,fm,hs,r',x0,x1,x2,rfl,i2,I1 _ _ hN,Nf,NH,I1 _ _ hHL,HLf,h2,HS.mono (aY I1),F0.same I1,k.mono (aY I1),fun h'' r'' H' e1 e2 e3=>q h'' r'' H' e1 e2 (fun a o n1 n2 e=>e3 a o n1 n2 (I1 _ _ e))⟩
    refine iV (fun c=>?_) (fun _=>nx h rows Hh);cases hs with
    | nil=>exact absurd c (by decide)
    | cons x r=>
      exact⟨_,rfl,HL,_,0,.ref x.1,rfl,rfl,zE0 (I1 _ _ hHL),cg (j:=0) rfl,nx x.1 x.2 (HS x qG0)⟩
  . exact⟨_,_,N,HL,f,h,i,fm,hs,rows,x0,x1,x2,rfl,i2,hN,Nf,NH,hHL,HLf,h2,HS,F0,Hh,q⟩
 case cE=>
  rintro Dn σ H ⟨z0,z1,N,HL,f,h,i,fm,hs,rows,x0,x1,x2,rfl,i2,hN,Nf,NH,hHL,HLf,h2,HS,F0,Hh,q⟩;refine⟨_,rfl,rfl,_,rfl,?_⟩;refine iV (fun _=>?_) (fun _=>?_)
  . obtain ⟨x,hat⟩:∃x:Str,atI ([x0,x1,x2].map V.str) (0+(i:Int))=some (.str x):=by
     have:i=0∨i=1:=by omega
     rcases this with rfl | rfl
     . exact⟨_,rfl⟩
     . exact⟨_,rfl⟩
    refine⟨_,rfl,_,rfl,_,rfl,N,_,_,.str x,rfl,rfl,zE0 hN,hat,f,x,rfl,F0,fun h' rv r' H5 e1 R1 g1 F5 S5=>?_⟩;exact⟨_,_,N,HL,f,h',i,fm,hs,r',x0,x1,x2,rfl,i2,S5 _ _ Nf hN,Nf,NH,S5 _ _ HLf hHL,HLf,h2,HS.mono (aQ F0 S5),F5,⟨⟨rv,e1,R1⟩,g1⟩,fun h'' r'' H' e1 e2 e3=>q h'' r'' H' e1 e2 (fun a o n1 n2 e=>e3 a o n1 n2 (S5 _ _ n1 e))⟩
  . exact⟨_,_,N,HL,f,h,i,fm,hs,rows,x0,x1,x2,rfl,i2,hN,Nf,NH,hHL,HLf,h2,HS,F0,Hh,q⟩
 case cC=>
  rintro Dn σ H ⟨y,HL,hA,hB,rA,rB,z4,z5,z6,z7,rfl,Y,hHL,LA,LB,q⟩;have k:=Y.k;have p2:=k.p2;have p9:=k.p9;have n3:=Y.n3;have G:=Y.G;refine⟨_,rfl,y.gh,_,0,_,rfl,rfl,zB0 G.hg,rfl,_,rfl,y.gh,_,1,_,rfl,rfl,zB0 G.hg,rfl,_,rfl,y.gh,_,2,_,rfl,rfl,zB0 G.hg,rfl,fun g dg hg0 hdg0 ng=>?_⟩;have K2:Same H (upd (upd H dg (.own g)) g (.ins CG dg [])):=fun a o e=>by
   rw[ao (aO e hg0),ao (aO e hdg0)];exact e
  refine⟨g,dg,y.a,y.b,y.ns,[y.v],[y.t],y.p,rfl,aD,K2 _ _ G.ha,Y.nd,by omega,K2 _ _ G.hb,G.tr.mono (aY K2),k.t1,k.t10,k.tok,k.pr,p2,p9,k.tp,k.tc,fun gd H2 gd0 GA hgd S2=>⟨rfl,?_⟩⟩;have T2:Same H H2:=Same.but K2 hg0 S2;have GM2:Gm CG H2 g y.ns [y.t] y.p:=⟨y.a,y.b,gd,[y.v],GA,T2 _ _ G.ha,T2 _ _ G.hb,G.tr.mono (aY T2),hgd⟩
  clear K2 S2 GA;refine⟨_,rfl,HL,_,0,.ref hA,rfl,rfl,zE0 (T2 _ _ hHL),rfl,_,rfl,s0,fun co hco=>?_⟩;have Ic:=zC0 hco (.lst []);have gc:upd H2 co (.lst []) co=some (.lst []):=aD;generalize upd H2 co (.lst [])=H3 at Ic gc;have T3:=T2.trans Ic;obtain⟨z0,ez⟩:∃z:Ak,z=⟨y.ns,[y.t],y.p,0,1,0,0,[]⟩:=⟨_,rfl⟩
  have zok:AkOk z0:=by
   subst ez;exact⟨k,by show y.ns.length<=6;omega,Int.le_refl 0,(fun h=>absurd h (by show ¬ (0:Int)<0;decide)),(fun x hx=>by cases hx),Int.le_refl 0,(by show(0:Int)<y.p;omega),Int.le_refl 0,(by show(0:Int)<y.p;omega),by show 0<=100;decide⟩
  have bz:dA z0.p (fun _=>0):=by
   subst ez;exact fun x=>⟨Int.le_refl 0,by show(0:Int)<y.p;omega⟩
  have m1:z0.mn=1:=by rw[ez]
  have soA:=di (rows:=rA) zok bz (by rw[m1];decide);obtain⟨v1,ev1⟩:∃v,bU z0 rA (fun _=>0)=[v]:=by
   have h:=soA.2.1;rw[m1]at h;have h2:(bU z0 rA (fun _=>0)).length=1:=by omega
   match bU z0 rA (fun _=>0),h2 with
   | [v],_=>exact⟨v,rfl⟩
  refine⟨y.gh,y.a,y.b,co,[y.v],z0,(by rw[ez];rfl),by rw[ez];exact G.mono (aY T3),by rw[ez];exact gc,by rw[ez];show 0<=100;decide,fun d c tt kn H4 d0 c0 t0 k0 N4 S4=>fun bb hbb=>?_⟩;have I5:=zC0 hbb (.dK []);have g5:upd H4 bb (.dK []) bb=some (.dK []):=aD;generalize upd H4 bb (.dK [])=H5 at I5 g5;have T5:=T3.trans (S4.trans I5);obtain⟨qk,eqk,_⟩:=id N4.hk;refine⟨hA,bb,d,y.gh,y.a,y.b,c,tt,kn,[y.v],z0,rA,fun _=>0,0,0,rfl,LA.mono (aY T5),N4.up I5 (zG0 0),⟨[],g5,zG0 _,fun x=>rfl⟩,(aO eqk hbb).symm,aO N4.hd hbb,bz,(by rw[ez];exact Y.nd),zok,(fun _=>by rw[ez];exact⟨rfl,rfl⟩),(by rw[m1];decide),(by rw[m1];decide),by decide,by decide,fun l H6 l0 hl6 BX6 N6 B6=>?_⟩;have hl6':H6 l=some (.lst ((bU z0 rA (fun _=>0)).map V.int)):=hl6;rw[ev1]at hl6';have E6:Same H2 H6:=fun a o e=>B6 _ _ (aO (S4 _ _ (Ic _ _ e)) hbb) (aO (Ic _ _ e) k0) (I5 _ _ (S4 _ _ (Ic _ _ e)))
  have T6:=T2.trans E6;have Y6:=Y.same T6;refine⟨l,_,0,.int v1,rfl,rfl,zE0 hl6',rfl,?_⟩;refine⟨_,rfl,y.a0,y.ns0,7,rfl,Y6.hS,Y.h63,by decide,by decide,fun f7 H7 f70 S7 F7=>?_⟩;refine⟨_,rfl,_,rfl,f7,y.N,y.x0,y.x1,y.x2,v1,rfl,F7,S7 _ _ Y6.hN,aO Y6.hN f70,fun h3 r3 H8 L3 F8 B8=>?_⟩;have E8:Same H6 H8:=Same.but S7 f70 B8;have T8:=T6.trans E8;have hHL8:=T8 _ _ hHL;refine⟨_,rfl,_,rfl,_,rfl,rfl,HL,_,rfl,.inl ⟨zE0 hHL8,fun R hR=>?_⟩⟩;have IR:=zC0 hR (.lst [V.ref hA,.ref hB].reverse);have gR:upd H8 R (.lst [V.ref hA,.ref hB].reverse) R=some (.lst [.ref hB,.ref hA]):=aD;generalize upd H8 R (.lst [V.ref hA,.ref hB].reverse)=H9 at IR gR;refine⟨_,rfl,_,rfl,_,rfl,HL,_,1,.ref hB,rfl,rfl,zE0 (IR _ _ hHL8),rfl,s2,fun L hL=>?_⟩;have IL:=zC0 hL (.lst [.ref h3,.ref hB]);have gL:upd H9 L (.lst [.ref h3,.ref hB]) L=some (.lst [.ref h3,.ref hB]):=aD;generalize upd H9 L (.lst [.ref h3,.ref hB])=H10 at IL gL;refine⟨_,rfl,s5,fun T hT=>?_⟩;have IT:=zC0 hT (.tup [.ref HL,.ref R,.ref HL,.ref L,.ref HL]);have gT:upd H10 T (.tup [.ref HL,.ref R,.ref HL,.ref L,.ref HL]) T=some (.tup [.ref HL,.ref R,.ref HL,.ref L,.ref HL]):=aD;generalize upd H10 T (.tup [.ref HL,.ref R,.ref HL,.ref L,.ref HL])=H11 at IT gT;have J:=IL.trans IT;have T11:=T8.trans (IR.trans J);have LA':=LA.mono (aY T11);have LB':=LB.mono (aY T11);have L3':=L3.mono (aY (IR.trans J));have GM':=GM2.same (E6.trans (E8.trans (IR.trans J)));have two:∀x∈[V.ref HL,.ref R,.ref HL,.ref L,.ref HL],∃(u X Z:Addr)(rX rZ:List Hr),x=.ref u/\H11 u=some (.lst [.ref X,.ref Z])/\HlpAt H11 X rX/\HlpAt H11 Z rZ:=by
   intro x hx;have c1:∃(u X Z:Addr)(rX rZ:List Hr),V.ref HL=.ref u/\H11 u=some (.lst [.ref X,.ref Z])/\HlpAt H11 X rX/\HlpAt H11 Z rZ:=⟨HL,hA,hB,rA,rB,rfl,T11 _ _ hHL,LA',LB'⟩
   simp only[List.mem_cons,List.not_mem_nil,or_false]at hx;rcases hx with rfl | rfl | rfl | rfl | rfl
   . exact c1
   . exact⟨R,hB,hA,rB,rA,rfl,J _ _ gR,LB',LA'⟩
   . exact c1
   . exact⟨L,h3,hB,r3,rB,rfl,IT _ _ gL,L3',LB'⟩
   . exact c1
  refine⟨T,rfl,⟨_,zB0 gT⟩,mv (K:=K) (xs:=[.ref HL,.ref R,.ref HL,.ref L,.ref HL]) (fun i σ H'=>∃z11,σ=[some (.ref y.a0),some (.ref y.gh),some (.ref y.N),some (.ref HL),z4,z5,z6,z7,some (.ref g),some (.int v1),some (.ref h3),z11]/\Same H11 H') ⟨_,rfl,Same.refl _⟩ (fun i σ H' _ hst=>by obtain⟨_,_,h⟩:=hst;exact zB0 (h _ _ gT)) ?_ ?_⟩
  . rintro i x σ H' hx ⟨z11,rfl,S'⟩;obtain⟨u,X,Z,rX,rZ,rfl,hu,LX,LZ⟩:=two x (qE0 hx);have hu':=S' _ _ hu;have LX':=LX.mono (aY S');have LZ':=LZ.mono (aY S');refine⟨_,rfl,_,rfl,u,_,0,.ref X,rfl,rfl,zE0 hu',rfl,_,rfl,u,_,1,.ref Z,rfl,rfl,zE0 hu',rfl,g,X,Z,y.ns,y.t,y.p,rX,rZ,rfl,GM'.same S',k,by omega,LX',LZ',fun r1 K1 O1 S1=>?_⟩;refine⟨_,rfl,_,rfl,y.gh,y.a,y.b,u,X,Z,y.v,y.ns,y.t,y.p,rX,rZ,rfl,G.mono (aY (T11.trans (S'.trans S1))),S1 _ _ hu',LX'.mono (aY S1),LZ'.mono (aY S1),k,by omega,Y.nd,fun r2 K2 O2 S2=>?_⟩;exact⟨r1,r2,_,rfl,O1.same S2,O2,_,rfl,dD ⟨_,rfl,S'.trans (S1.trans S2)⟩⟩
  . rintro σ H' ⟨z11,rfl,S'⟩;exact q H'
 case cA=>
  rintro Dn σ H ⟨y,rfl,Y,q⟩;refine⟨s0,fun HL hHL0=>?_⟩;have I1:=zC0 hHL0 (.lst []);have gH:upd H HL (.lst []) HL=some (.lst (hsV [])):=aD;have NH:y.N≠HL:=aO Y.hN hHL0;generalize upd H HL (.lst [])=H1 at I1 gH;refine⟨_,rfl,by decide,by decide,cS (fun i σ H'=>∃(z4 z5 z6 z7:Option V)(hs:List (Addr×List Hr)),σ=[some (.ref y.a0),some (.ref y.gh),some (.ref y.N),some (.ref HL),z4,z5,z6,z7,none,none,none,none]/\H' HL=some (.lst (hsV hs))/\hs.length=i/\HsAt H' hs/\Same H H') ⟨_,_,_,_,[],rfl,gH,rfl,(fun x hx=>by cases hx),I1⟩ ?_ ?_⟩
  . rintro i σ H2 hi ⟨z4,z5,z6,z7,hs,rfl,hH2,hl,HS,T2⟩;have hi':i<2:=hi;have Y2:=Y.same T2;refine⟨_,rfl,_,rfl,_,_,rfl,rfl,y.a0,y.ns0,_,rfl,Y2.hS,Y.h63,by omega,by omega,fun f H3 f0 S3 F3=>?_⟩;have Nf:y.N≠f:=aO Y2.hN f0;have HLf:HL≠f:=aO hH2 f0;refine⟨_,rfl,_,rfl,f,y.N,[y.x0,y.x1,y.x2],10,rfl,F3,S3 _ _ Y2.hN,Nf,(by show 1<=3;decide),(by show 3<=100;decide),by decide,by decide,fun h rv rows H4 e1 R1 g1 F4 B4=>?_⟩;refine⟨_,rfl,f,6,rfl,F4,by decide,by decide,fun fm H5 m0 m1 F5 B5=>?_⟩;have E5:Same H2 H5:=Same.but S3 f0 (B4.trans B5);refine⟨_,_,y.N,HL,f,h,i,fm,hs,rows,y.x0,y.x1,y.x2,rfl,hi',E5 _ _ Y2.hN,Nf,NH,E5 _ _ hH2,HLf,by omega,HS.mono (aY E5),F5,HlpAt.mono (rows:=rows) ⟨⟨rv,e1,R1⟩,g1⟩ (aQ F4 B5),fun h' r' H' e1 e2 e3=>?_⟩;refine⟨_,_,_,_,hs++[(h',r')],rfl,e1,by rw[zL0,hl];rfl,fun x hx=>?_,fun a o e=>e3 _ _ (aO (T2 _ _ e) f0) (aO e hHL0) (E5 _ _ (T2 _ _ e))⟩;rcases zT0 hx with hx | hx
    . exact(HS x hx).mono (fun a xs e=>e3 _ _ (aO e f0) (bh e hH2 (by intro z;cases z)) (E5 _ _ e))
    . rw[zM0 hx];exact e2
  . rintro σ H2 ⟨z4,z5,z6,z7,hs,rfl,hH2,hl,HS,T2⟩;have hl2:hs.length=2:=hl;obtain⟨x,x',rfl⟩:∃x x',hs=[x,x']:=by
     match hs,hl2 with
     | [x,x'],_=>exact⟨_,_,rfl⟩
    exact⟨y,HL,x.1,x'.1,x.2,x'.2,_,_,_,_,rfl,Y.same T2,hH2,HS x (by simp),HS x' (by simp),q⟩
 refine ⟨_,rfl,a0,ns0,1,rfl,hS,h63,by decide,by decide,fun f1 H1 f10 S1 F1=>?_⟩;refine⟨f1,3,6,rfl,F1,by decide,by decide,by decide,by decide,fun gh a b ns v t p H2 hdr ha nl snok nd hb TS tok pp p3 p9 tc F2 S2=>?_⟩;have T2:Same H H2:=Same.but S1 f10 S2;have k:GmK ns [t] p:=⟨pp,p3,p9,by omega,by show 1<=1;decide,by show 1<=10;decide,fun t' ht=>by
  rw[zM0 ht];exact⟨tok.1,Tr.ok_wf snok t tok.1,by have:=tok.2.1;omega,by have:=tok.2.2;omega⟩,by show(1:Int)<=p;omega,fun t' ht=>by
  rw[zM0 ht];exact tc⟩
 have G2:GmT H2 gh a b ns [v] [t] p:=⟨hdr,ha,hb,TS⟩
 refine⟨_,rfl,a0,ns0,2,rfl,T2.seq hS,h63,by decide,by decide,fun f2 H6 f20 S6 F6=>?_⟩;refine⟨f2,3,rfl,F6,by decide,by decide,fun N xs H7 N0 nf2 hN xlen xok xnd F7 S7=>?_⟩;have T27:Same H2 H7:=Same.but S6 f20 S7;have T7:=T2.trans T27;have G7:=G2.mono (aY T27);have n3:ns.length<=3:=by omega
 obtain ⟨x0,x1,x2,rfl⟩:∃x0 x1 x2,xs=[x0,x1,x2]:=by
  have:xs.length=3:=xlen
  match xs,this with
  | [y0,y1,y2],_=>exact⟨_,_,_,rfl⟩
 have x20:=(xok x0 qG0).1;have N00:H2 N=none:=S6.free N0;have fin:∀(x1':Str)(H':Hp),Same H2 H'->H' N=some (.lst ([x0,x1',x2].map V.str))->tA9 K { nx:=fun _ H'=>Q .non H',rt:=Q } [some (.ref a0),some (.ref gh),some (.ref N),none,none,none,none,none,none,none,none,none] H':=fun x1' H' S' hN'=>
  ⟨⟨a0,ns0,gh,a,b,v,ns,t,p,N,x0,x1',x2⟩,rfl,⟨(T2.trans S').seq hS,h63,G2.mono (aY S'),k,n3,nd,hN'⟩,q⟩
 refine⟨_,rfl,N,_,0,.str x0,rfl,rfl,zE0 hN,rfl,x0,rfl,cp (by omega),_,_,rfl,rfl,_,rfl,?_⟩;refine iV (fun _=>?_) (fun _=>fin x1 H7 T27 hN);refine⟨_,rfl,a0,ns0,6,rfl,T7.seq hS,h63,by decide,by decide,fun f6 H8 f60 S8 F8=>?_⟩;refine⟨f6,3,rfl,F8,by decide,by decide,fun d H9 d0 d1 F9 S9=>⟨_,_,rfl,rfl,_,rfl,?_⟩⟩;have T79:Same H7 H9:=Same.but S8 f60 S9;have hN9:=T79 _ _ hN;refine iV (fun _=>?_) (fun _=>fin x1 H9 (T27.trans T79) hN9);refine⟨_,rfl,N,_,0,.str x0,rfl,rfl,zE0 hN9,rfl,x0,_,rfl,rfl,cp (by show x0.length+1<=1000;omega),?_⟩;refine⟨_,rfl,N,_,_,1,rfl,rfl,hN9,rfl,?_⟩;refine fin (x0++"q") _ (fun c o e=>?_) aD;rw[ao (aO e N00)];exact T79 _ _ (T27 _ _ e)
end
end
theorem all_mk {l:PySem.W.OpenLaw} {w:World} {K:W.Frag} {h:Heap} {mg:Str->Option Value} {fa f0 f1 f2 f3 f4 f5 f6 f7 f8 f9 f10 f11 f12 f13 f14 f15 f16 f17 f18 f19 f20 f21 f22 f23 f24 f25 f26 f27 f28 f29 f30 f31 f32 f33 f34 f35 f36 f37 f38 f39 f40 f41 f42 f43 f44 f45 f46 f47 f48 f49 f50 f51:Addr} (X:K.In h) (G:h.Ns mainGlobals mg) (hfa:mg "law"=some (.ref fa))
 {od0 an0 od1 an1 od2 an2 od3 an3 od4 an4 od5 an5 od6 an6 od7 an7 od8 an8 od9 an9 od10 an10 od11 an11 od12 an12 od13 an13 od14 an14 od15 an15 od16 an16 od17 an17 od18 an18 od19 an19 od20 an20 od21 an21 od22 an22 od23 an23 od24 an24 od25 an25 od26 an26 od27 an27 od28 an28 od29 an29 od30 an30 od31 an31 od32 an32 od33 an33 od34 an34 od35 an35 od36 an36 od37 an37 od38 an38 od39 an39 od40 an40 od41 an41 od42 an42 od43 an43 od44 an44 od45 an45 od46 an46 od47 an47 od48 an48 od49 an49 od50 an50 od51 an51:Option Addr} {sl0 sl1 sl2 sl3 sl4 sl5 sl6 sl7 sl8 sl9 sl10 sl11 sl12 sl13 sl14 sl15 sl16 sl17 sl18 sl19 sl20 sl21 sl22 sl23 sl24 sl25 sl26 sl27 sl28 sl29 sl30 sl31 sl32 sl33 sl34 sl35 sl36 sl37 sl38 sl39 sl40 sl41 sl42 sl43 sl44 sl45 sl46 sl47 sl48 sl49 sl50 sl51:Array (Option Value)} {oc0 kV0 dc0 pm0 cd0 ct0 oc1 kV1 dc1 pm1 cd1 ct1 oc2 kV2 dc2 pm2 cd2 ct2 oc3 kV3 dc3 pm3 cd3 ct3 oc4 kV4 dc4 pm4 cd4 ct4 oc5 kV5 dc5 pm5 cd5 ct5 oc6 kV6 dc6 pm6 cd6 ct6 oc7 kV7 dc7 pm7 cd7 ct7 oc8 kV8 dc8 pm8 cd8 ct8 oc9 kV9 dc9 pm9 cd9 ct9 oc10 kV10 dc10 pm10 cd10 ct10 oc11 kV11 dc11 pm11 cd11 ct11 oc12 kV12 dc12 pm12 cd12 ct12 oc13 kV13 dc13 pm13 cd13 ct13 oc14 kV14 dc14 pm14 cd14 ct14 oc15 kV15 dc15 pm15 cd15 ct15 oc16 kV16 dc16 pm16 cd16 ct16 oc17 kV17 dc17 pm17 cd17 ct17 oc18 kV18 dc18 pm18 cd18 ct18 oc19 kV19 dc19 pm19 cd19 ct19 oc20 kV20 dc20 pm20 cd20 ct20 oc21 kV21 dc21 pm21 cd21 ct21 oc22 kV22 dc22 pm22 cd22 ct22 oc23 kV23 dc23 pm23 cd23 ct23 oc24 kV24 dc24 pm24 cd24 ct24 oc25 kV25 dc25 pm25 cd25 ct25 oc26 kV26 dc26 pm26 cd26 ct26 oc27 kV27 dc27 pm27 cd27 ct27 oc28 kV28 dc28 pm28 cd28 ct28 oc29 kV29 dc29 pm29 cd29 ct29 oc30 kV30 dc30 pm30 cd30 ct30 oc31 kV31 dc31 pm31 cd31 ct31 oc32 kV32 dc32 pm32 cd32 ct32 oc33 kV33 dc33 pm33 cd33 ct33 oc34 kV34 dc34 pm34 cd34 ct34 oc35 kV35 dc35 pm35 cd35 ct35 oc36 kV36 dc36 pm36 cd36 ct36 oc37 kV37 dc37 pm37 cd37 ct37 oc38 kV38 dc38 pm38 cd38 ct38 oc39 kV39 dc39 pm39 cd39 ct39 oc40 kV40 dc40 pm40 cd40 ct40 oc41 kV41 dc41 pm41 cd41 ct41 oc42 kV42 dc42 pm42 cd42 ct42 oc43 kV43 dc43 pm43 cd43 ct43 oc44 kV44 dc44 pm44 cd44 ct44 oc45 kV45 dc45 pm45 cd45 ct45 oc46 kV46 dc46 pm46 cd46 ct46 oc47 kV47 dc47 pm47 cd47 ct47 oc48 kV48 dc48 pm48 cd48 ct48 oc49 kV49 dc49 pm49 cd49 ct49 oc50 kV50 dc50 pm50 cd50 ct50 oc51 kV51 dc51 pm51 cd51 ct51:Value}
 (a0:W.nsIn K mainGlobals "is_field"=some (some (.ref f0))) (l0:K.lookup f0=some ⟨oc0,od0,.func (W.fnOf "is_field" "is_field" (aA fh) (ay fh) (ae fh) .none kV0 dc0 pm0 an0 cd0 ct0),sl0⟩) (c0:W.codeIn K cd0 "is_field"=true) (k0:W.keepIn K (.ref f0)=true)
 (a1:W.nsIn K mainGlobals "inverse_of"=some (some (.ref f1))) (l1:K.lookup f1=some ⟨oc1,od1,.func (W.fnOf "inverse_of" "inverse_of" (aA du) (ay du) (ae du) .none kV1 dc1 pm1 an1 cd1 ct1),sl1⟩) (c1:W.codeIn K cd1 "inverse_of"=true) (k1:W.keepIn K (.ref f1)=true)
 (a2:W.nsIn K mainGlobals "value_at"=some (some (.ref f2))) (l2:K.lookup f2=some ⟨oc2,od2,.func (W.fnOf "value_at" "value_at" (aA eW) (ay eW) (ae eW) .none kV2 dc2 pm2 an2 cd2 ct2),sl2⟩) (c2:W.codeIn K cd2 "value_at"=true) (k2:W.keepIn K (.ref f2)=true)
 (a3:W.nsIn K mainGlobals "value_behind"=some (some (.ref f3))) (l3:K.lookup f3=some ⟨oc3,od3,.func (W.fnOf "value_behind" "value_behind" (aA cv) (ay cv) (ae cv) .none kV3 dc3 pm3 an3 cd3 ct3),sl3⟩) (c3:W.codeIn K cd3 "value_behind"=true) (k3:W.keepIn K (.ref f3)=true)
 (a4:W.nsIn K mainGlobals "products"=some (some (.ref f4))) (l4:K.lookup f4=some ⟨oc4,od4,.func (W.fnOf "products" "products" (aA eY) (ay eY) (ae eY) .none kV4 dc4 pm4 an4 cd4 ct4),sl4⟩) (c4:W.codeIn K cd4 "products"=true) (k4:W.keepIn K (.ref f4)=true)
 (a5:W.nsIn K mainGlobals "inverse_factorials"=some (some (.ref f5))) (l5:K.lookup f5=some ⟨oc5,od5,.func (W.fnOf "inverse_factorials" "inverse_factorials" (aA bq) (ay bq) (ae bq) .none kV5 dc5 pm5 an5 cd5 ct5),sl5⟩) (c5:W.codeIn K cd5 "inverse_factorials"=true) (k5:W.keepIn K (.ref f5)=true)
 (a6:W.nsIn K mainGlobals "all_settings"=some (some (.ref f6))) (l6:K.lookup f6=some ⟨oc6,od6,.func (W.fnOf "all_settings" "all_settings" (aA cB) (ay cB) (ae cB) .none kV6 dc6 pm6 an6 cd6 ct6),sl6⟩) (c6:W.codeIn K cd6 "all_settings"=true) (k6:W.keepIn K (.ref f6)=true)
 (a7:W.nsIn K mainGlobals "holds_at"=some (some (.ref f7))) (l7:K.lookup f7=some ⟨oc7,od7,.func (W.fnOf "holds_at" "holds_at" (aA dM) (ay dM) (ae dM) .none kV7 dc7 pm7 an7 cd7 ct7),sl7⟩) (c7:W.codeIn K cd7 "holds_at"=true) (k7:W.keepIn K (.ref f7)=true)
 (a8:W.nsIn K mainGlobals "joined"=some (some (.ref f8))) (l8:K.lookup f8=some ⟨oc8,od8,.func (W.fnOf "joined" "joined" (aA io) (ay io) (ae io) .none kV8 dc8 pm8 an8 cd8 ct8),sl8⟩) (c8:W.codeIn K cd8 "joined"=true) (k8:W.keepIn K (.ref f8)=true)
 (a9:W.nsIn K mainGlobals "count_of"=some (some (.ref f9))) (l9:K.lookup f9=some ⟨oc9,od9,.func (W.fnOf "count_of" "count_of" (aA fi) (ay fi) (ae fi) .none kV9 dc9 pm9 an9 cd9 ct9),sl9⟩) (c9:W.codeIn K cd9 "count_of"=true) (k9:W.keepIn K (.ref f9)=true)
 (a10:W.nsIn K mainGlobals "trees_within"=some (some (.ref f10))) (l10:K.lookup f10=some ⟨oc10,od10,.func (W.fnOf "trees_within" "trees_within" (aA cx) (ay cx) (ae cx) .none kV10 dc10 pm10 an10 cd10 ct10),sl10⟩) (c10:W.codeIn K cd10 "trees_within"=true) (k10:W.keepIn K (.ref f10)=true)
 (a11:W.nsIn K mainGlobals "names_in"=some (some (.ref f11))) (l11:K.lookup f11=some ⟨oc11,od11,.func (W.fnOf "names_in" "names_in" (aA dL) (ay dL) (ae dL) .none kV11 dc11 pm11 an11 cd11 ct11),sl11⟩) (c11:W.codeIn K cd11 "names_in"=true) (k11:W.keepIn K (.ref f11)=true)
 (a12:W.nsIn K mainGlobals "counts_of"=some (some (.ref f12))) (l12:K.lookup f12=some ⟨oc12,od12,.func (W.fnOf "counts_of" "counts_of" (aA dU) (ay dU) (ae dU) .none kV12 dc12 pm12 an12 cd12 ct12),sl12⟩) (c12:W.codeIn K cd12 "counts_of"=true) (k12:W.keepIn K (.ref f12)=true)
 (a13:W.nsIn K mainGlobals "true_row"=some (some (.ref f13))) (l13:K.lookup f13=some ⟨oc13,od13,.func (W.fnOf "true_row" "true_row" (aA eX) (ay eX) (ae eX) .none kV13 dc13 pm13 an13 cd13 ct13),sl13⟩) (c13:W.codeIn K cd13 "true_row"=true) (k13:W.keepIn K (.ref f13)=true)
 (a14:W.nsIn K mainGlobals "value_of"=some (some (.ref f14))) (l14:K.lookup f14=some ⟨oc14,od14,.func (W.fnOf "value_of" "value_of" (aA dJ) (ay dJ) (ae dJ) .none kV14 dc14 pm14 an14 cd14 ct14),sl14⟩) (c14:W.codeIn K cd14 "value_of"=true) (k14:W.keepIn K (.ref f14)=true)
 (a15:W.nsIn K mainGlobals "op_value"=some (some (.ref f15))) (l15:K.lookup f15=some ⟨oc15,od15,.func (W.fnOf "op_value" "op_value" (aA eZ) (ay eZ) (ae eZ) .none kV15 dc15 pm15 an15 cd15 ct15),sl15⟩) (c15:W.codeIn K cd15 "op_value"=true) (k15:W.keepIn K (.ref f15)=true)
 (a16:W.nsIn K mainGlobals "divided"=some (some (.ref f16))) (l16:K.lookup f16=some ⟨oc16,od16,.func (W.fnOf "divided" "divided" (aA gz) (ay gz) (ae gz) .none kV16 dc16 pm16 an16 cd16 ct16),sl16⟩) (c16:W.codeIn K cd16 "divided"=true) (k16:W.keepIn K (.ref f16)=true)
 (a17:W.nsIn K mainGlobals "settled"=some (some (.ref f17))) (l17:K.lookup f17=some ⟨oc17,od17,.func (W.fnOf "settled" "settled" (aA gq) (ay gq) (ae gq) .none kV17 dc17 pm17 an17 cd17 ct17),sl17⟩) (c17:W.codeIn K cd17 "settled"=true) (k17:W.keepIn K (.ref f17)=true)
 (a18:W.nsIn K mainGlobals "way_between"=some (some (.ref f18))) (l18:K.lookup f18=some ⟨oc18,od18,.func (W.fnOf "way_between" "way_between" (aA cR) (ay cR) (ae cR) .none kV18 dc18 pm18 an18 cd18 ct18),sl18⟩) (c18:W.codeIn K cd18 "way_between"=true) (k18:W.keepIn K (.ref f18)=true)
 (a19:W.nsIn K mainGlobals "worth_of"=some (some (.ref f19))) (l19:K.lookup f19=some ⟨oc19,od19,.func (W.fnOf "worth_of" "worth_of" (aA dI) (ay dI) (ae dI) .none kV19 dc19 pm19 an19 cd19 ct19),sl19⟩) (c19:W.codeIn K cd19 "worth_of"=true) (k19:W.keepIn K (.ref f19)=true)
 (a20:W.nsIn K mainGlobals "joined_worth"=some (some (.ref f20))) (l20:K.lookup f20=some ⟨oc20,od20,.func (W.fnOf "joined_worth" "joined_worth" (aA cz) (ay cz) (ae cz) .none kV20 dc20 pm20 an20 cd20 ct20),sl20⟩) (c20:W.codeIn K cd20 "joined_worth"=true) (k20:W.keepIn K (.ref f20)=true)
 (a21:W.nsIn K mainGlobals "degree_of"=some (some (.ref f21))) (l21:K.lookup f21=some ⟨oc21,od21,.func (W.fnOf "degree_of" "degree_of" (aA dR) (ay dR) (ae dR) .none kV21 dc21 pm21 an21 cd21 ct21),sl21⟩) (c21:W.codeIn K cd21 "degree_of"=true) (k21:W.keepIn K (.ref f21)=true)
 (a22:W.nsIn K mainGlobals "look_switches"=some (some (.ref f22))) (l22:K.lookup f22=some ⟨oc22,od22,.func (W.fnOf "look_switches" "look_switches" (aA cb) (ay cb) (ae cb) .none kV22 dc22 pm22 an22 cd22 ct22),sl22⟩) (c22:W.codeIn K cd22 "look_switches"=true) (k22:W.keepIn K (.ref f22)=true)
 (a23:W.nsIn K mainGlobals "look_names"=some (some (.ref f23))) (l23:K.lookup f23=some ⟨oc23,od23,.func (W.fnOf "look_names" "look_names" (aA dj) (ay dj) (ae dj) .none kV23 dc23 pm23 an23 cd23 ct23),sl23⟩) (c23:W.codeIn K cd23 "look_names"=true) (k23:W.keepIn K (.ref f23)=true)
 (a24:W.nsIn K mainGlobals "look_field"=some (some (.ref f24))) (l24:K.lookup f24=some ⟨oc24,od24,.func (W.fnOf "look_field" "look_field" (aA dl) (ay dl) (ae dl) .none kV24 dc24 pm24 an24 cd24 ct24),sl24⟩) (c24:W.codeIn K cd24 "look_field"=true) (k24:W.keepIn K (.ref f24)=true)
 (a25:W.nsIn K mainGlobals "look_size"=some (some (.ref f25))) (l25:K.lookup f25=some ⟨oc25,od25,.func (W.fnOf "look_size" "look_size" (aA dN) (ay dN) (ae dN) .none kV25 dc25 pm25 an25 cd25 ct25),sl25⟩) (c25:W.codeIn K cd25 "look_size"=true) (k25:W.keepIn K (.ref f25)=true)
 (a26:W.nsIn K mainGlobals "_law_feed"=some (some (.ref f26))) (l26:K.lookup f26=some ⟨oc26,od26,.func (W.fnOf "_law_feed" "_law_feed" (aA im) (ay im) (ae im) .none kV26 dc26 pm26 an26 cd26 ct26),sl26⟩) (c26:W.codeIn K cd26 "_law_feed"=true) (k26:W.keepIn K (.ref f26)=true)
 (a27:W.nsIn K mainGlobals "_law_take"=some (some (.ref f27))) (l27:K.lookup f27=some ⟨oc27,od27,.func (W.fnOf "_law_take" "_law_take" (aA ic) (ay ic) (ae ic) .none kV27 dc27 pm27 an27 cd27 ct27),sl27⟩) (c27:W.codeIn K cd27 "_law_take"=true) (k27:W.keepIn K (.ref f27)=true)
 (a28:W.nsIn K mainGlobals "_law_names"=some (some (.ref f28))) (l28:K.lookup f28=some ⟨oc28,od28,.func (W.fnOf "_law_names" "_law_names" (aA bi) (ay bi) (ae bi) .none kV28 dc28 pm28 an28 cd28 ct28),sl28⟩) (c28:W.codeIn K cd28 "_law_names"=true) (k28:W.keepIn K (.ref f28)=true)
 (a29:W.nsIn K mainGlobals "_law_tree"=some (some (.ref f29))) (l29:K.lookup f29=some ⟨oc29,od29,.func (W.fnOf "_law_tree" "_law_tree" (aA gF) (ay gF) (ae gF) .none kV29 dc29 pm29 an29 cd29 ct29),sl29⟩) (c29:W.codeIn K cd29 "_law_tree"=true) (k29:W.keepIn K (.ref f29)=true)
 (a30:W.nsIn K mainGlobals "_law_names_of"=some (some (.ref f30))) (l30:K.lookup f30=some ⟨oc30,od30,.func (W.fnOf "_law_names_of" "_law_names_of" (aA cM) (ay cM) (ae cM) .none kV30 dc30 pm30 an30 cd30 ct30),sl30⟩) (c30:W.codeIn K cd30 "_law_names_of"=true) (k30:W.keepIn K (.ref f30)=true)
 (a31:W.nsIn K mainGlobals "_law_need"=some (some (.ref f31))) (l31:K.lookup f31=some ⟨oc31,od31,.func (W.fnOf "_law_need" "_law_need" (aA ig) (ay ig) (ae ig) .none kV31 dc31 pm31 an31 cd31 ct31),sl31⟩) (c31:W.codeIn K cd31 "_law_need"=true) (k31:W.keepIn K (.ref f31)=true)
 (a32:W.nsIn K mainGlobals "_law_is_prime"=some (some (.ref f32))) (l32:K.lookup f32=some ⟨oc32,od32,.func (W.fnOf "_law_is_prime" "_law_is_prime" (aA dr) (ay dr) (ae dr) .none kV32 dc32 pm32 an32 cd32 ct32),sl32⟩) (c32:W.codeIn K cd32 "_law_is_prime"=true) (k32:W.keepIn K (.ref f32)=true)
 (a33:W.nsIn K mainGlobals "_law_field"=some (some (.ref f33))) (l33:K.lookup f33=some ⟨oc33,od33,.func (W.fnOf "_law_field" "_law_field" (aA gu) (ay gu) (ae gu) .none kV33 dc33 pm33 an33 cd33 ct33),sl33⟩) (c33:W.codeIn K cd33 "_law_field"=true) (k33:W.keepIn K (.ref f33)=true)
 (a34:W.nsIn K mainGlobals "_law_one_tree"=some (some (.ref f34))) (l34:K.lookup f34=some ⟨oc34,od34,.func (W.fnOf "_law_one_tree" "_law_one_tree" (aA dq) (ay dq) (ae dq) .none kV34 dc34 pm34 an34 cd34 ct34),sl34⟩) (c34:W.codeIn K cd34 "_law_one_tree"=true) (k34:W.keepIn K (.ref f34)=true)
 (a35:W.nsIn K mainGlobals "_law_term"=some (some (.ref f35))) (l35:K.lookup f35=some ⟨oc35,od35,.func (W.fnOf "_law_term" "_law_term" (aA gG) (ay gG) (ae gG) .none kV35 dc35 pm35 an35 cd35 ct35),sl35⟩) (c35:W.codeIn K cd35 "_law_term"=true) (k35:W.keepIn K (.ref f35)=true)
 (a36:W.nsIn K mainGlobals "_law_helper"=some (some (.ref f36))) (l36:K.lookup f36=some ⟨oc36,od36,.func (W.fnOf "_law_helper" "_law_helper" (aA fe) (ay fe) (ae fe) .none kV36 dc36 pm36 an36 cd36 ct36),sl36⟩) (c36:W.codeIn K cd36 "_law_helper"=true) (k36:W.keepIn K (.ref f36)=true)
 (a37:W.nsIn K mainGlobals "_law_liar"=some (some (.ref f37))) (l37:K.lookup f37=some ⟨oc37,od37,.func (W.fnOf "_law_liar" "_law_liar" (aA ik) (ay ik) (ae ik) .none kV37 dc37 pm37 an37 cd37 ct37),sl37⟩) (c37:W.codeIn K cd37 "_law_liar"=true) (k37:W.keepIn K (.ref f37)=true)
 (a38:W.nsIn K mainGlobals "_law_worth"=some (some (.ref f38))) (l38:K.lookup f38=some ⟨oc38,od38,.func (W.fnOf "_law_worth" "_law_worth" (aA fc) (ay fc) (ae fc) .none kV38 dc38 pm38 an38 cd38 ct38),sl38⟩) (c38:W.codeIn K cd38 "_law_worth"=true) (k38:W.keepIn K (.ref f38)=true)
 (a39:W.nsIn K mainGlobals "_law_mixed"=some (some (.ref f39))) (l39:K.lookup f39=some ⟨oc39,od39,.func (W.fnOf "_law_mixed" "_law_mixed" (aA gs) (ay gs) (ae gs) .none kV39 dc39 pm39 an39 cd39 ct39),sl39⟩) (c39:W.codeIn K cd39 "_law_mixed"=true) (k39:W.keepIn K (.ref f39)=true)
 (a40:W.nsIn K mainGlobals "_law_all"=some (some (.ref f40))) (l40:K.lookup f40=some ⟨oc40,od40,.func (W.fnOf "_law_all" "_law_all" (aA jB) (ay jB) (ae jB) .none kV40 dc40 pm40 an40 cd40 ct40),sl40⟩) (c40:W.codeIn K cd40 "_law_all"=true) (k40:W.keepIn K (.ref f40)=true)
 (a41:W.nsIn K mainGlobals "_law_sum"=some (some (.ref f41))) (l41:K.lookup f41=some ⟨oc41,od41,.func (W.fnOf "_law_sum" "_law_sum" (aA jz) (ay jz) (ae jz) .none kV41 dc41 pm41 an41 cd41 ct41),sl41⟩) (c41:W.codeIn K cd41 "_law_sum"=true) (k41:W.keepIn K (.ref f41)=true)
 (a42:W.nsIn K mainGlobals "_law_count"=some (some (.ref f42))) (l42:K.lookup f42=some ⟨oc42,od42,.func (W.fnOf "_law_count" "_law_count" (aA gx) (ay gx) (ae gx) .none kV42 dc42 pm42 an42 cd42 ct42),sl42⟩) (c42:W.codeIn K cd42 "_law_count"=true) (k42:W.keepIn K (.ref f42)=true)
 (a43:W.nsIn K mainGlobals "_law_inverse"=some (some (.ref f43))) (l43:K.lookup f43=some ⟨oc43,od43,.func (W.fnOf "_law_inverse" "_law_inverse" (aA dQ) (ay dQ) (ae dQ) .none kV43 dc43 pm43 an43 cd43 ct43),sl43⟩) (c43:W.codeIn K cd43 "_law_inverse"=true) (k43:W.keepIn K (.ref f43)=true)
 (a44:W.nsIn K mainGlobals "_law_true"=some (some (.ref f44))) (l44:K.lookup f44=some ⟨oc44,od44,.func (W.fnOf "_law_true" "_law_true" (aA ib) (ay ib) (ae ib) .none kV44 dc44 pm44 an44 cd44 ct44),sl44⟩) (c44:W.codeIn K cd44 "_law_true"=true) (k44:W.keepIn K (.ref f44)=true)
 (a45:W.nsIn K mainGlobals "_law_term_worth"=some (some (.ref f45))) (l45:K.lookup f45=some ⟨oc45,od45,.func (W.fnOf "_law_term_worth" "_law_term_worth" (aA bV) (ay bV) (ae bV) .none kV45 dc45 pm45 an45 cd45 ct45),sl45⟩) (c45:W.codeIn K cd45 "_law_term_worth"=true) (k45:W.keepIn K (.ref f45)=true)
 (a46:W.nsIn K mainGlobals "_law_said"=some (some (.ref f46))) (l46:K.lookup f46=some ⟨oc46,od46,.func (W.fnOf "_law_said" "_law_said" (aA ie) (ay ie) (ae ie) .none kV46 dc46 pm46 an46 cd46 ct46),sl46⟩) (c46:W.codeIn K cd46 "_law_said"=true) (k46:W.keepIn K (.ref f46)=true)
 (a47:W.nsIn K mainGlobals "_law_now"=some (some (.ref f47))) (l47:K.lookup f47=some ⟨oc47,od47,.func (W.fnOf "_law_now" "_law_now" (aA jA) (ay jA) (ae jA) .none kV47 dc47 pm47 an47 cd47 ct47),sl47⟩) (c47:W.codeIn K cd47 "_law_now"=true) (k47:W.keepIn K (.ref f47)=true)
 (a48:W.nsIn K mainGlobals "_law_adding"=some (some (.ref f48))) (l48:K.lookup f48=some ⟨oc48,od48,.func (W.fnOf "_law_adding" "_law_adding" (aA fg) (ay fg) (ae fg) .none kV48 dc48 pm48 an48 cd48 ct48),sl48⟩) (c48:W.codeIn K cd48 "_law_adding"=true) (k48:W.keepIn K (.ref f48)=true)
 (a49:W.nsIn K mainGlobals "_law_settled"=some (some (.ref f49))) (l49:K.lookup f49=some ⟨oc49,od49,.func (W.fnOf "_law_settled" "_law_settled" (aA dP) (ay dP) (ae dP) .none kV49 dc49 pm49 an49 cd49 ct49),sl49⟩) (c49:W.codeIn K cd49 "_law_settled"=true) (k49:W.keepIn K (.ref f49)=true)
 (a50:W.nsIn K mainGlobals "_law_alike"=some (some (.ref f50))) (l50:K.lookup f50=some ⟨oc50,od50,.func (W.fnOf "_law_alike" "_law_alike" (aA gy) (ay gy) (ae gy) .none kV50 dc50 pm50 an50 cd50 ct50),sl50⟩) (c50:W.codeIn K cd50 "_law_alike"=true) (k50:W.keepIn K (.ref f50)=true)
 (a51:W.nsIn K mainGlobals "law"=some (some (.ref f51))) (l51:K.lookup f51=some ⟨oc51,od51,.func (W.fnOf "law" "law" (aA km) (ay km) (ae km) .none kV51 dc51 pm51 an51 cd51 ct51),sl51⟩) (c51:W.codeIn K cd51 "law"=true) (k51:W.keepIn K (.ref f51)=true)
 {CG gmgI gmgM gmgW:Addr} {gmodI gmanI gmodM gmanM gmodW gmanW:Option Addr} {gmslI gmslM gmslW:Array (Option Value)} {gmocI gmkVI gmdcI gmpmI gmcdI gmctI gmocM gmkVM gmdcM gmpmM gmcdM gmctM gmocW gmkVW gmdcW gmpmW gmcdW gmctW:Value}
 {CA asgI asgP asgC asgN asgR:Addr} {asodI asanI asodP asanP asodC asanC asodN asanN asodR asanR:Option Addr} {asslI asslP asslC asslN asslR:Array (Option Value)} {asocI askVI asdcI aspmI ascdI asctI asocP askVP asdcP aspmP ascdP asctP asocC askVC asdcC aspmC ascdC asctC asocN askVN asdcN aspmN ascdN asctN asocR askVR asdcR aspmR ascdR asctR:Value}
 {CM mcgI mcgS mcgR:Addr} {mcodI mcanI mcodS mcanS mcodR mcanR:Option Addr} {mcslI mcslS mcslR:Array (Option Value)} {mcocI mckVI mcdcI mcpmI mccdI mcctI mcocS mckVS mcdcS mcpmS mccdS mcctS mcocR mckVR mcdcR mcpmR mccdR mcctR:Value}
 {CS sdgI sdgA sdgG:Addr} {sdodI sdanI sdodA sdanA sdodG sdanG:Option Addr} {sdslI sdslA sdslG:Array (Option Value)} {sdocI sdkVI sddcI sdpmI sdcdI sdctI sdocA sdkVA sddcA sdpmA sdcdA sdctA sdocG sdkVG sddcG sdpmG sdcdG sdctG:Value}
 {te tm:Tok}
 (FK:W.nsIn K mainGlobals "Game"=some (some (.ref CG)))
 (FL:W.findIn K (.ref CG) "__init__"=some (some (.ref gmgI)))
 (FM:W.isFn K (.ref gmgI)=true)
 (FN:K.lookup gmgI=some ⟨gmocI,gmodI,.func (W.fnOf "__init__" "Game.__init__" (aA jC) (ay jC) (ae jC) .none gmkVI gmdcI gmpmI gmanI gmcdI gmctI),gmslI⟩)
 (FO:W.codeIn K gmcdI "Game.__init__"=true)
 (FP:W.keepIn K (.ref gmgI)=true)
 (FQ:W.findIn K (.ref CG) "mix"=some (some (.ref gmgM)))
 (FR:W.isFn K (.ref gmgM)=true)
 (FS:K.lookup gmgM=some ⟨gmocM,gmodM,.func (W.fnOf "mix" "Game.mix" (aA ld) (ay ld) (ae ld) .none gmkVM gmdcM gmpmM gmanM gmcdM gmctM),gmslM⟩)
 (FT:W.codeIn K gmcdM "Game.mix"=true)
 (EO:W.keepIn K (.ref gmgM)=true)
 (FU:W.findIn K (.ref CG) "worth_at"=some (some (.ref gmgW)))
 (FV:W.isFn K (.ref gmgW)=true)
 (FW:K.lookup gmgW=some ⟨gmocW,gmodW,.func (W.fnOf "worth_at" "Game.worth_at" (aA ip) (ay ip) (ae ip) .none gmkVW gmdcW gmpmW gmanW gmcdW gmctW),gmslW⟩)
 (FX:W.codeIn K gmcdW "Game.worth_at"=true)
 (EQ:W.keepIn K (.ref gmgW)=true)
 (FY:W.plainGet K CG Str.empty=true)
 (E9:W.hasDictIn K CG=true)
 (Fa:W.plainOver K CG=true)
 (Fb:W.findIn K (.ref CG) "__setattr__"=some (some (.builtin "object.__setattr__")))
 (Fc:W.makesIn K CG=true)
 (Fd:W.keepIn K (.ref CG)=true)
 (o3:W.findIn K (.ref CG) "switches"=some none)
 (C6:W.findIn K (.ref CG) "trees"=some none)
 (C7:W.findIn K (.ref CG) "field"=some none)
 (rf:W.findIn K (.ref CG) "degrees"=some none)
 (FZ:W.nsIn K mainGlobals "Asking"=some (some (.ref CA)))
 (Gc:W.findIn K (.ref CA) "__init__"=some (some (.ref asgI)))
 (Gd:W.isFn K (.ref asgI)=true)
 (Ge:K.lookup asgI=some ⟨asocI,asodI,.func (W.fnOf "__init__" "Asking.__init__" (aA jE) (ay jE) (ae jE) .none askVI asdcI aspmI asanI ascdI asctI),asslI⟩)
 (Gf:W.codeIn K ascdI "Asking.__init__"=true)
 (Gh:W.keepIn K (.ref asgI)=true)
 (Gi:W.findIn K (.ref CA) "plain_value"=some (some (.ref asgP)))
 (Gj:W.isFn K (.ref asgP)=true)
 (Gk:K.lookup asgP=some ⟨asocP,asodP,.func (W.fnOf "plain_value" "Asking.plain_value" (aA iq) (ay iq) (ae iq) .none askVP asdcP aspmP asanP ascdP asctP),asslP⟩)
 (Gn:W.codeIn K ascdP "Asking.plain_value"=true)
 (ER:W.keepIn K (.ref asgP)=true)
 (Go:W.findIn K (.ref CA) "coin_at"=some (some (.ref asgC)))
 (Gp:W.isFn K (.ref asgC)=true)
 (Gq:K.lookup asgC=some ⟨asocC,asodC,.func (W.fnOf "coin_at" "Asking.coin_at" (aA jF) (ay jF) (ae jF) .none askVC asdcC aspmC asanC ascdC asctC),asslC⟩)
 (Gs:W.codeIn K ascdC "Asking.coin_at"=true)
 (ES:W.keepIn K (.ref asgC)=true)
 (Gw:W.findIn K (.ref CA) "true_numbers"=some (some (.ref asgN)))
 (Gx:W.isFn K (.ref asgN)=true)
 (Gy:K.lookup asgN=some ⟨asocN,asodN,.func (W.fnOf "true_numbers" "Asking.true_numbers" (aA gA) (ay gA) (ae gA) .none askVN asdcN aspmN asanN ascdN asctN),asslN⟩)
 (Gz:W.codeIn K ascdN "Asking.true_numbers"=true)
 (ET:W.keepIn K (.ref asgN)=true)
 (GB:W.findIn K (.ref CA) "true_at"=some (some (.ref asgR)))
 (GD:W.isFn K (.ref asgR)=true)
 (GE:K.lookup asgR=some ⟨asocR,asodR,.func (W.fnOf "true_at" "Asking.true_at" (aA jD) (ay jD) (ae jD) .none askVR asdcR aspmR asanR ascdR asctR),asslR⟩)
 (GF:W.codeIn K ascdR "Asking.true_at"=true)
 (EU:W.keepIn K (.ref asgR)=true)
 (GH:W.plainGet K CA Str.empty=true)
 (Fe:W.hasDictIn K CA=true)
 (Ff:W.plainOver K CA=true)
 (Fg:W.findIn K (.ref CA) "__setattr__"=some (some (.builtin "object.__setattr__")))
 (Fh:W.makesIn K CA=true)
 (Fi:W.keepIn K (.ref CA)=true)
 (D5:W.findIn K (.ref CA) "game"=some none)
 (u7:W.findIn K (.ref CA) "number"=some none)
 (D6:W.findIn K (.ref CA) "many"=some none)
 (D7:W.findIn K (.ref CA) "held"=some none)
 (Fj:W.findIn K (.ref CA) "s"=some none)
 (u8:W.findIn K (.ref CA) "tossed"=some none)
 (u9:W.findIn K (.ref CA) "truths"=some none)
 (GJ:W.nsIn K mainGlobals "Machine"=some (some (.ref CM)))
 (GK:W.findIn K (.ref CM) "__init__"=some (some (.ref mcgI)))
 (GN:W.isFn K (.ref mcgI)=true)
 (GO:K.lookup mcgI=some ⟨mcocI,mcodI,.func (W.fnOf "__init__" "Machine.__init__" (aA jy) (ay jy) (ae jy) .none mckVI mcdcI mcpmI mcanI mccdI mcctI),mcslI⟩)
 (GQ:W.codeIn K mccdI "Machine.__init__"=true)
 (GU:W.keepIn K (.ref mcgI)=true)
 (GV:W.findIn K (.ref CM) "say"=some (some (.ref mcgS)))
 (GX:W.isFn K (.ref mcgS)=true)
 (GY:K.lookup mcgS=some ⟨mcocS,mcodS,.func (W.fnOf "say" "Machine.say" (aA kY) (ay kY) (ae kY) .none mckVS mcdcS mcpmS mcanS mccdS mcctS),mcslS⟩)
 (GZ:W.codeIn K mccdS "Machine.say"=true)
 (EV:W.keepIn K (.ref mcgS)=true)
 (G6:W.findIn K (.ref CM) "do_row"=some (some (.ref mcgR)))
 (G8:W.isFn K (.ref mcgR)=true)
 (G9:K.lookup mcgR=some ⟨mcocR,mcodR,.func (W.fnOf "do_row" "Machine.do_row" (aA kZ) (ay kZ) (ae kZ) .none mckVR mcdcR mcpmR mcanR mccdR mcctR),mcslR⟩)
 (Ha:W.codeIn K mccdR "Machine.do_row"=true)
 (EW:W.keepIn K (.ref mcgR)=true)
 (Hb:W.plainGet K CM Str.empty=true)
 (Fk:W.hasDictIn K CM=true)
 (Fl:W.plainOver K CM=true)
 (Fm:W.findIn K (.ref CM) "__setattr__"=some (some (.builtin "object.__setattr__")))
 (Fn:W.makesIn K CM=true)
 (Fo:W.keepIn K (.ref CM)=true)
 (D8:W.findIn K (.ref CM) "game"=some none)
 (v7:W.findIn K (.ref CM) "helper"=some none)
 (jO:W.findIn K (.ref CM) "next_round"=some none)
 (C8:W.findIn K (.ref CM) "boxes"=some none)
 (sdgg:W.nsIn K mainGlobals "Side"=some (some (.ref CS)))
 (sdaI:W.findIn K (.ref CS) "__init__"=some (some (.ref sdgI)))
 (sdiI:W.isFn K (.ref sdgI)=true)
 (sdlI:K.lookup sdgI=some ⟨sdocI,sdodI,.func (W.fnOf "__init__" "Side.__init__" (aA jw) (ay jw) (ae jw) .none sdkVI sddcI sdpmI sdanI sdcdI sdctI),sdslI⟩)
 (sdcI:W.codeIn K sdcdI "Side.__init__"=true)
 (sdkI:W.keepIn K (.ref sdgI)=true)
 (sdaA:W.findIn K (.ref CS) "adds_up"=some (some (.ref sdgA)))
 (sdiA:W.isFn K (.ref sdgA)=true)
 (sdlA:K.lookup sdgA=some ⟨sdocA,sdodA,.func (W.fnOf "adds_up" "Side.adds_up" (aA jx) (ay jx) (ae jx) .none sdkVA sddcA sdpmA sdanA sdcdA sdctA),sdslA⟩)
 (sdcA:W.codeIn K sdcdA "Side.adds_up"=true)
 (sdkA:W.keepIn K (.ref sdgA)=true)
 (sdaG:W.findIn K (.ref CS) "go_way"=some (some (.ref sdgG)))
 (sdiG:W.isFn K (.ref sdgG)=true)
 (sdlG:K.lookup sdgG=some ⟨sdocG,sdodG,.func (W.fnOf "go_way" "Side.go_way" (aA oY) (ay oY) (ae oY) .none sdkVG sddcG sdpmG sdanG sdcdG sdctG),sdslG⟩)
 (sdcG:W.codeIn K sdcdG "Side.go_way"=true)
 (sdkG:W.keepIn K (.ref sdgG)=true)
 (sdpg:W.plainGet K CS Str.empty=true)
 (sdhdi:W.hasDictIn K CS=true)
 (sdpov:W.plainOver K CS=true)
 (sdsat:W.findIn K (.ref CS) "__setattr__"=some (some (.builtin "object.__setattr__")))
 (sdmki:W.makesIn K CS=true)
 (sdkcl:W.keepIn K (.ref CS)=true)
 (sdn_field:W.findIn K (.ref CS) "field"=some none)
 (sdn_machine:W.findIn K (.ref CS) "machine"=some none)
 (sdn_held:W.findIn K (.ref CS) "held"=some none)
 (sdn_said:W.findIn K (.ref CS) "said"=some none)
 (ge:W.nsIn K mainGlobals "FIELDS_END"=some (some (.int 1000000 te)))
 (gmo:W.nsIn K mainGlobals "MOST_ROWS_DONE"=some (some (.int 200 tm)))
 (z0:W.nsIn K mainGlobals "len"=some none) (z1:W.nsIn K mainGlobals "range"=some none) (z2:W.nsIn K mainGlobals "isinstance"=some none) (z3:W.nsIn K mainGlobals "int"=some none) (z4:W.nsIn K mainGlobals "bool"=some none) (z5:W.nsIn K mainGlobals "list"=some none) (z6:W.nsIn K mainGlobals "tuple"=some none) (z7:W.nsIn K mainGlobals "max"=some none) (z8:W.nsIn K mainGlobals "min"=some none) (z9:W.nsIn K mainGlobals "reversed"=some none) (z10:W.nsIn K mainGlobals "enumerate"=some none) (z11:W.nsIn K mainGlobals "sum"=some none) (z12:W.nsIn K mainGlobals "all"=some none) (z13:W.nsIn K mainGlobals "zip"=some none) (z14:W.nsIn K mainGlobals "dict"=some none) :
 ∃fd:FuncData,(∀(s:Shared) (v:Value),BindsTo s fd ⟨[v],[]⟩ [("_law_script",v)])/\∀base:Heap,K.In base->base.Ns mainGlobals mg->FnOk l.prog w K mg base CX0 32 fa fd ["_law_script"] (vd K):=by
 have e:=hfa.symm.trans (W.mg_of X G a51);cases e;have v8:=aI (st:=fh) l0 c0 k0;have Ez:=W.mg_of X G a0;have o4:=aI (st:=du) l1 c1 k1;have D9:=W.mg_of X G a1;have w4:=aI (st:=eW) l2 c2 k2;have EA:=W.mg_of X G a2;have j4:=aI (st:=cv) l3 c3 k3;have C1:=W.mg_of X G a3;have w6:=aI (st:=eY) l4 c4 k4;have EB:=W.mg_of X G a4;have fU:=aI (st:=bq) l5 c5 k5;have mi:=W.mg_of X G a5;have j5:=aI (st:=cB) l6 c6 k6;have C2:=W.mg_of X G a6;have w8:=aI (st:=dM) l7 c7 k7;have y4:=W.mg_of X G a7;have Ea:=aI (st:=io) l8 c8 k8;have EX:=W.mg_of X G a8;have y6:=aI (st:=fi) l9 c9 k9;have EC:=W.mg_of X G a9;have j6:=aI (st:=cx) l10 c10 k10;have C3:=W.mg_of X G a10;have y8:=aI (st:=dL) l11 c11 k11;have y9:=W.mg_of X G a11;have rh:=aI (st:=dU) l12 c12 k12;have Ep:=W.mg_of X G a12;have Ac:=aI (st:=eX) l13 c13 k13;have ED:=W.mg_of X G a13;have Ae:=aI (st:=dJ) l14 c14 k14;have A0:=W.mg_of X G a14;have A3:=aI (st:=eZ) l15 c15 k15;have EE:=W.mg_of X G a15;have C9:=aI (st:=gz) l16 c16 k16;have EH:=W.mg_of X G a16;have DP:=aI (st:=gq) l17 c17 k17;have EI:=W.mg_of X G a17;have mU:=aI (st:=cR) l18 c18 k18;have DZ:=W.mg_of X G a18;have A4:=aI (st:=dI) l19 c19 k19;have A5:=W.mg_of X G a19;have j7:=aI (st:=cz) l20 c20 k20;have C4:=W.mg_of X G a20;have r6:=aI (st:=dR) l21 c21 k21;have Er:=W.mg_of X G a21;have i3:=aI (st:=cb) l22 c22 k22;have A7:=W.mg_of X G a22;have o5:=aI (st:=dj) l23 c23 k23;have Eb:=W.mg_of X G a23;have o6:=aI (st:=dl) l24 c24 k24;have Ec:=W.mg_of X G a24;have r8:=aI (st:=dN) l25 c25 k25;have Es:=W.mg_of X G a25;have Ed:=aI (st:=im) l26 c26 k26;have EY:=W.mg_of X G a26;have Ee:=aI (st:=ic) l27 c27 k27;have EZ:=W.mg_of X G a27;have DQ:=aI (st:=bi) l28 c28 k28;have EJ:=W.mg_of X G a28;have Ef:=aI (st:=gF) l29 c29 k29;have Eg:=W.mg_of X G a29;have o7:=aI (st:=cM) l30 c30 k30;have o8:=W.mg_of X G a30;have Eh:=aI (st:=ig) l31 c31 k31;have E1:=W.mg_of X G a31;have o9:=aI (st:=dr) l32 c32 k32;have Ei:=W.mg_of X G a32;have DS:=aI (st:=gu) l33 c33 k33;have EK:=W.mg_of X G a33;have pZ:=aI (st:=dq) l34 c34 k34;have Ej:=W.mg_of X G a34;have Ek:=aI (st:=gG) l35 c35 k35;have El:=W.mg_of X G a35;have A8:=aI (st:=fe) l36 c36 k36;have EF:=W.mg_of X G a36;have Em:=aI (st:=ik) l37 c37 k37;have E3:=W.mg_of X G a37;have DT:=aI (st:=fc) l38 c38 k38;have DU:=W.mg_of X G a38;have DV:=aI (st:=gs) l39 c39 k39;have EL:=W.mg_of X G a39;have Ew:=aI (st:=jB) l40 c40 k40;have FH:=W.mg_of X G a40;have Ex:=aI (st:=jz) l41 c41 k41;have FI:=W.mg_of X G a41;have DX:=aI (st:=gx) l42 c42 k42;have EM:=W.mg_of X G a42;have r9:=aI (st:=dQ) l43 c43 k43;have Et:=W.mg_of X G a43;have En:=aI (st:=ib) l44 c44 k44;have E4:=W.mg_of X G a44;have j8:=aI (st:=bV) l45 c45 k45;have j9:=W.mg_of X G a45;have Eo:=aI (st:=ie) l46 c46 k46;have E7:=W.mg_of X G a46;have Ey:=aI (st:=jA) l47 c47 k47;have FJ:=W.mg_of X G a47;have A9:=aI (st:=fg) l48 c48 k48;have EG:=W.mg_of X G a48;have sU:=aI (st:=dP) l49 c49 k49;have Ev:=W.mg_of X G a49;have DY:=aI (st:=gy) l50 c50 k50;have EN:=W.mg_of X G a50;have Hc:=aI (st:=km) l51 c51 k51;have B:Bl mg:=⟨W.mg_none_of X G z0,W.mg_none_of X G z1,W.mg_none_of X G z2,W.mg_none_of X G z3,W.mg_none_of X G z4,W.mg_none_of X G z5,W.mg_none_of X G z6,W.mg_none_of X G z7,W.mg_none_of X G z8,W.mg_none_of X G z9,W.mg_none_of X G z10,W.mg_none_of X G z11,W.mg_none_of X G z12,W.mg_none_of X G z13,W.mg_none_of X G z14⟩
 refine⟨W.fnOf "law" "law" (aA km) (ay km) (ae km) .none kV51 dc51 pm51 an51 cd51 ct51,fun s v=>.of_eq rfl,fun base _ _=>?_⟩;have TG:GTxt K mg CG:=⟨⟨FY,E9,Fa,Fb⟩,o3,C6,C7,rf,W.mg_of X G FK⟩
 have TA:ATxt K mg CA:=⟨⟨GH,Fe,Ff,Fg⟩,D5,u7,D6,D7,Fj,u8,u9,W.mg_of X G FZ⟩
 have TM:MTxt K mg CM:=⟨⟨Hb,Fk,Fl,Fm⟩,D8,v7,jO,C8,W.mg_of X G GJ⟩
 have TS:STxt K mg CS:=⟨⟨sdpg,sdhdi,sdpov,sdsat⟩,sdn_field,sdn_machine,sdn_held,sdn_said,W.mg_of X G sdgg⟩
 have Fp:=aI (st:=jC) FN FO FP;have Hd:=Fp.binds (ps:=["self","switches","trees","field"]) fun _ _ _ _ _ _ us hl=>by obtain⟨u0,u1,u2,u3,rfl⟩:=nK hl;rfl
 have Fq:=aI (st:=ld) FS FT EO;have He:=Fq.binds (ps:=["self","numbers","s"]) fun _ _ _ _ _ _ us hl=>by obtain⟨u0,u1,u2,rfl⟩:=fY hl;rfl
 have Hf:Meth K CG "mix" gmgM:=⟨FQ,FR,EO⟩
 have Fr:=aI (st:=ip) FW FX EQ;have Hg:=Fr.binds (ps:=["self","point","s"]) fun _ _ _ _ _ _ us hl=>by obtain⟨u0,u1,u2,rfl⟩:=fY hl;rfl
 have Hi:Meth K CG "worth_at" gmgW:=⟨FU,FV,EQ⟩
 have Fs:=aI (st:=jE) Ge Gf Gh;have Hj:=Fs.binds (ps:=["self","game","number","many","due","s","coins"]) fun _ _ _ _ _ _ us hl=>by obtain⟨u0,u1,u2,u3,u4,u5,u6,rfl⟩:=len7 hl;rfl
 have Ft:=aI (st:=iq) Gk Gn ER;have Hk:=Ft.binds (ps:=["self","word"]) fun _ _ _ _ _ _ us hl=>by obtain⟨u0,u1,rfl⟩:=fZ hl;rfl
 have Hl:Meth K CA "plain_value" asgP:=⟨Gi,Gj,ER⟩
 have Fu:=aI (st:=jF) Gq Gs ES;have Hm:=Fu.binds (ps:=["self","place"]) fun _ _ _ _ _ _ us hl=>by obtain⟨u0,u1,rfl⟩:=fZ hl;rfl
 have Hn:Meth K CA "coin_at" asgC:=⟨Go,Gp,ES⟩
 have Fv:=aI (st:=gA) Gy Gz ET;have Ho:=Fv.binds (ps:=["self"]) fun _ _ _ _ _ _ us hl=>by obtain⟨u0,rfl⟩:=kF hl;rfl
 have Hq:Meth K CA "true_numbers" asgN:=⟨Gw,Gx,ET⟩
 have Fw:=aI (st:=jD) GE GF EU;have Hs:=Fw.binds (ps:=["self","place"]) fun _ _ _ _ _ _ us hl=>by obtain⟨u0,u1,rfl⟩:=fZ hl;rfl
 have Ht:Meth K CA "true_at" asgR:=⟨GB,GD,EU⟩
 have Fx:=aI (st:=jy) GO GQ GU;have Hu:=Fx.binds (ps:=["self","game","helper"]) fun _ _ _ _ _ _ us hl=>by obtain⟨u0,u1,u2,rfl⟩:=fY hl;rfl
 have Fy:=aI (st:=kY) GY GZ EV;have Fz:=Fy.binds (ps:=["self","many","due","s","coins"]) fun _ _ _ _ _ _ us hl=>by obtain⟨u0,u1,u2,u3,u4,rfl⟩:=len5 hl;rfl
 have FA:Meth K CM "say" mcgS:=⟨GV,GX,EV⟩
 have FB:=aI (st:=kZ) G9 Ha EW;have Hv:=FB.binds (ps:=["self","place","said","asking"]) fun _ _ _ _ _ _ us hl=>by obtain⟨u0,u1,u2,u3,rfl⟩:=nK hl;rfl
 have Hw:Meth K CM "do_row" mcgR:=⟨G6,G8,EW⟩
 have FC:=aI (st:=jw) sdlI sdcI sdkI;have Hx:=FC.binds (ps:=["self","game","helper"]) fun _ _ _ _ _ _ us hl=>by obtain⟨u0,u1,u2,rfl⟩:=fY hl;rfl
 have FD:=aI (st:=jx) sdlA sdcA sdkA;have Hy:=FD.binds (ps:=["self","ways"]) fun _ _ _ _ _ _ us hl=>by obtain⟨u0,u1,rfl⟩:=fZ hl;rfl
 have Hz:Meth K CS "adds_up" sdgA:=⟨sdaA,sdiA,sdkA⟩
 have FE:=aI (st:=oY) sdlG sdcG sdkG;have HA:=FE.binds (ps:=["self","way"]) fun _ _ _ _ _ _ us hl=>by obtain⟨u0,u1,rfl⟩:=fZ hl;rfl
 have HB:Meth K CS "go_way" sdgG:=⟨sdaG,sdiG,sdkG⟩
 have e9:=Cal.of (P:=l.prog) (w:=w) (base:=base) Ed (wE Ed B.len) EY (fun _ _ _ _ _ _ us hl=>by obtain⟨u0,u1,rfl⟩:=fZ hl;rfl);have ba:=Cal.of (P:=l.prog) (w:=w) (base:=base) Ee (wA Ee ) EZ (fun _ _ _ _ _ _ us hl=>by obtain⟨u0,u1,rfl⟩:=fZ hl;rfl);have kh:=Cal.of (P:=l.prog) (w:=w) (base:=base) v8 (rS v8 ) Ez (fun _ _ _ _ _ _ us hl=>by obtain⟨u0,rfl⟩:=kF hl;rfl);have dH:=Cal.of (P:=l.prog) (w:=w) (base:=base) o4 (oK o4 ) D9 (fun _ _ _ _ _ _ us hl=>by obtain⟨u0,u1,rfl⟩:=fZ hl;rfl);have cV:=Cal.of (P:=l.prog) (w:=w) (base:=base) w6 (rO w6 ) EB (fun _ _ _ _ _ _ us hl=>by obtain⟨u0,u1,rfl⟩:=fZ hl;rfl);have d7:=Cal.of (P:=l.prog) (w:=w) (base:=base) fU (iT fU B cV dH) mi (fun _ _ _ _ _ _ us hl=>by obtain⟨u0,u1,rfl⟩:=fZ hl;rfl);have gl:=Cal.of (P:=l.prog) (w:=w) (base:=base) j4 (lZ j4 B cV d7) C1 (fun _ _ _ _ _ _ us hl=>by obtain⟨u0,u1,u2,rfl⟩:=fY hl;rfl);have ko:=Cal.of (P:=l.prog) (w:=w) (base:=base) w4 (rM w4 B gl) EA (fun _ _ _ _ _ _ us hl=>by obtain⟨u0,u1,u2,rfl⟩:=fY hl;rfl);have cu:=Cal.of (P:=l.prog) (w:=w) (base:=base) j6 (ma j6 ) C3 (fun _ _ _ _ _ _ us hl=>by obtain⟨u0,rfl⟩:=kF hl;rfl);have cQ:=Cal.of (P:=l.prog) (w:=w) (base:=base) y8 (lO y8 y9 cu 10) y9 (fun _ _ _ _ _ _ us hl=>by obtain⟨u0,rfl⟩:=kF hl;rfl);have ci:=Cal.of (P:=l.prog) (w:=w) (base:=base) j7 (me j7 ) C4 (fun _ _ _ _ _ _ us hl=>by obtain⟨u0,u1,u2,u3,rfl⟩:=nK hl;rfl);have eI:=Cal.of (P:=l.prog) (w:=w) (base:=base) A4 (lL A4 A5 ci 10) A5 (fun _ _ _ _ _ _ us hl=>by obtain⟨u0,u1,u2,u3,rfl⟩:=nK hl;rfl);have i9:=Cal.of (P:=l.prog) (w:=w) (base:=base) r6 (qw r6 B.max cQ) Er (fun _ _ _ _ _ _ us hl=>by obtain⟨u0,u1,rfl⟩:=fZ hl;rfl);have fO:=Cal.of (P:=l.prog) (w:=w) (base:=base) i3 (lr i3 B.enumerate) A7 (fun _ _ _ _ _ _ us hl=>by obtain⟨u0,rfl⟩:=kF hl;rfl);have iH:=Cal.of (P:=l.prog) (w:=w) (base:=base) o5 (oG o5 cQ) Eb (fun _ _ _ _ _ _ us hl=>by obtain⟨u0,u1,rfl⟩:=fZ hl;rfl);have iP:=Cal.of (P:=l.prog) (w:=w) (base:=base) o6 (oH o6 ⟨te,W.mg_of X G ge⟩ kh) Ec (fun _ _ _ _ _ _ us hl=>by obtain⟨u0,rfl⟩:=kF hl;rfl);have jb:=Cal.of (P:=l.prog) (w:=w) (base:=base) r8 (qt r8 B.max) Es (fun _ _ _ _ _ _ us hl=>by obtain⟨u0,u1,rfl⟩:=fZ hl;rfl);have fF:=Cal.of (P:=l.prog) (w:=w) (base:=base) DQ (ua DQ B.range ba) EJ (fun _ _ _ _ _ _ us hl=>by obtain⟨u0,u1,rfl⟩:=fZ hl;rfl);have eQ:=Cal.of (P:=l.prog) (w:=w) (base:=base) Ef (ph Ef B.len Eg ba 10) Eg (fun _ _ _ _ _ _ us hl=>by obtain⟨u0,u1,u2,u3,rfl⟩:=nK hl;rfl);have eg:=Cal.of (P:=l.prog) (w:=w) (base:=base) o7 (jQ o7 o8 10) o8 (fun _ _ _ _ _ _ us hl=>by obtain⟨u0,rfl⟩:=kF hl;rfl);have t7:=Cal.of (P:=l.prog) (w:=w) (base:=base) Eh (wC Eh B.len B.max eg) E1 (fun _ _ _ _ _ _ us hl=>by obtain⟨u0,u1,rfl⟩:=fZ hl;rfl);have iF:=Cal.of (P:=l.prog) (w:=w) (base:=base) o9 (oJ o9 B.range) Ei (fun _ _ _ _ _ _ us hl=>by obtain⟨u0,rfl⟩:=kF hl;rfl);have m7:=Cal.of (P:=l.prog) (w:=w) (base:=base) DS (uc DS ba iF) EK (fun _ _ _ _ _ _ us hl=>by obtain⟨u0,u1,rfl⟩:=fZ hl;rfl);have iW:=Cal.of (P:=l.prog) (w:=w) (base:=base) pZ (oI pZ B.tuple ba fF eQ t7 m7) Ej (fun _ _ _ _ _ _ us hl=>by obtain⟨u0,u1,u2,rfl⟩:=fY hl;rfl);have HC:=zh (P:=l.prog) (w:=w) (base:=base) Fp TG B.tuple B.len i9 fO iH iP jb;have HD:=AU (P:=l.prog) (w:=w) (base:=base) Fq TG B.reversed;have HE:=wG (P:=l.prog) (w:=w) (base:=base) Fr TG Hf HD He eI;have cJ:=Cal.of (P:=l.prog) (w:=w) (base:=base) j5 (mf j5 B.range) C2 (fun _ _ _ _ _ _ us hl=>by obtain⟨u0,rfl⟩:=kF hl;rfl);have gn:=Cal.of (P:=l.prog) (w:=w) (base:=base) Ea (wF Ea ) EX (fun _ _ _ _ _ _ us hl=>by obtain⟨u0,u1,u2,rfl⟩:=fY hl;rfl);have b9:=Cal.of (P:=l.prog) (w:=w) (base:=base) w8 (lP w8 y4 gn 12) y4 (fun _ _ _ _ _ _ us hl=>by obtain⟨u0,u1,u2,rfl⟩:=fY hl;rfl);have ki:=Cal.of (P:=l.prog) (w:=w) (base:=base) y6 (rT y6 B.len cJ b9) EC (fun _ _ _ _ _ _ us hl=>by obtain⟨u0,u1,rfl⟩:=fZ hl;rfl);have jf:=Cal.of (P:=l.prog) (w:=w) (base:=base) rh (qx rh TG ki) Ep (fun _ _ _ _ _ _ us hl=>by obtain⟨u0,rfl⟩:=kF hl;rfl);have kj:=Cal.of (P:=l.prog) (w:=w) (base:=base) Ac (rN Ac B TG Hi HE Hg cJ) ED (fun _ _ _ _ _ _ us hl=>by obtain⟨u0,u1,u2,rfl⟩:=fY hl;rfl);have n8:=Cal.of (P:=l.prog) (w:=w) (base:=base) C9 (ug C9 dH) EH (fun _ _ _ _ _ _ us hl=>by obtain⟨u0,u1,u2,rfl⟩:=fY hl;rfl);have eK:=Cal.of (P:=l.prog) (w:=w) (base:=base) A3 (rP A3 n8) EE (fun _ _ _ _ _ _ us hl=>by obtain⟨u0,u1,u2,u3,rfl⟩:=nK hl;rfl);have HF:=zk (P:=l.prog) (w:=w) (base:=base) Fs B TA;have HG:=wH (P:=l.prog) (w:=w) (base:=base) Ft TA TG;have HH:=zm (P:=l.prog) (w:=w) (base:=base) Fu B TA TG;have HI:=uh (P:=l.prog) (w:=w) (base:=base) Fv TA jf kj;have HJ:=zj (P:=l.prog) (w:=w) (base:=base) Fw B TA TG Hq HI Ho ko;have AF:AskF l.prog w K mg base CA CG _ _ _ _ _ _:=⟨Hl,HG,Hk,Hn,HH,Hm,Ht,HJ,Hs⟩
 have b5:=Cal.of (P:=l.prog) (w:=w) (base:=base) Ae (lN Ae A0 TA TG AF eK 8) A0 (fun _ _ _ _ _ _ us hl=>by obtain⟨u0,u1,u2,rfl⟩:=fY hl;rfl);have HK:=yX (P:=l.prog) (w:=w) (base:=base) Fx TM;have HM:=AT (P:=l.prog) (w:=w) (base:=base) FB B TM b5;have FG:=AS (P:=l.prog) (w:=w) (base:=base) Fy B TM TA ⟨tm,W.mg_of X G gmo⟩ ⟨Fh,Gc,Gd,Fi⟩ HF Hj Hw HM Hv;have MMk:Mk K CM mcgI:=⟨Fn,GK,GN,Fo⟩
 have MGk:Mk K CG gmgI:=⟨Fc,FL,FM,Fd⟩
 have bZ:=Cal.of (P:=l.prog) (w:=w) (base:=base) Ek (pk Ek B El ba 8) El (fun _ _ _ _ _ _ us hl=>by obtain⟨u0,u1,u2,u3,rfl⟩:=nK hl;rfl);have lI:=Cal.of (P:=l.prog) (w:=w) (base:=base) A8 (rQ A8 B ba bZ) EF (fun _ _ _ _ _ _ us hl=>by obtain⟨u0,u1,u2,rfl⟩:=fY hl;rfl);have t9:=Cal.of (P:=l.prog) (w:=w) (base:=base) Em (wD Em ba) E3 (fun _ _ _ _ _ _ us hl=>by obtain⟨u0,u1,rfl⟩:=fZ hl;rfl);have fH:=Cal.of (P:=l.prog) (w:=w) (base:=base) DT (nA DT B DU 10) DU (fun _ _ _ _ _ _ us hl=>by obtain⟨u0,u1,u2,rfl⟩:=fY hl;rfl);have de:=Cal.of (P:=l.prog) (w:=w) (base:=base) DV (ub DV B fH) EL (fun _ _ _ _ _ _ us hl=>by obtain⟨u0,u1,u2,rfl⟩:=fY hl;rfl);have iD:=Cal.of (P:=l.prog) (w:=w) (base:=base) Ew (zc Ew B) FH (fun _ _ _ _ _ _ us hl=>by obtain⟨u0,rfl⟩:=kF hl;rfl);have C0:=Cal.of (P:=l.prog) (w:=w) (base:=base) Ex (yY Ex B iD de) FI (fun _ _ _ _ _ _ us hl=>by obtain⟨u0,u1,u2,rfl⟩:=fY hl;rfl);have oy:=Cal.of (P:=l.prog) (w:=w) (base:=base) DX (ue DX B iD de) EM (fun _ _ _ _ _ _ us hl=>by obtain⟨u0,u1,rfl⟩:=fZ hl;rfl);have d8:=Cal.of (P:=l.prog) (w:=w) (base:=base) r9 (qv r9 ) Et (fun _ _ _ _ _ _ us hl=>by obtain⟨u0,u1,rfl⟩:=fZ hl;rfl);have gP:=Cal.of (P:=l.prog) (w:=w) (base:=base) En (wz En B oy C0) E4 (fun _ _ _ _ _ _ us hl=>by obtain⟨u0,u1,rfl⟩:=fZ hl;rfl);have bX:=Cal.of (P:=l.prog) (w:=w) (base:=base) j8 (iO j8 B j9 d8 gP 8) j9 (fun _ _ _ _ _ _ us hl=>by obtain⟨u0,u1,u2,rfl⟩:=fY hl;rfl);have eV:=Cal.of (P:=l.prog) (w:=w) (base:=base) Eo (wB Eo B bX) E7 (fun _ _ _ _ _ _ us hl=>by obtain⟨u0,u1,u2,rfl⟩:=fY hl;rfl);have gQ:=Cal.of (P:=l.prog) (w:=w) (base:=base) Ey (yZ Ey B) FJ (fun _ _ _ _ _ _ us hl=>by obtain⟨u0,u1,u2,u3,u4,u5,rfl⟩:=len6 hl;rfl);have MSk:Mk K CS sdgI:=⟨sdmki,sdaI,sdiI,sdkcl⟩
 have HN:=yV (P:=l.prog) (w:=w) (base:=base) FC TS TM TG MMk HK Hu FA FG Fz;have HP:=yW (P:=l.prog) (w:=w) (base:=base) FD B TS TM FA FG Fz;have HQ:=Da (P:=l.prog) (w:=w) (base:=base) FE TS;have hZ:=Cal.of (P:=l.prog) (w:=w) (base:=base) mU (ny mU TS) DZ (fun _ _ _ _ _ _ us hl=>by obtain⟨u0,u1,rfl⟩:=fZ hl;rfl);have oX:=Cal.of (P:=l.prog) (w:=w) (base:=base) DP (tZ DP B TS TG MSk HN Hx Hz HP Hy HB HQ HA hZ b9) EI (fun _ _ _ _ _ _ us hl=>by obtain⟨u0,u1,u2,rfl⟩:=fY hl;rfl);have ia:=Cal.of (P:=l.prog) (w:=w) (base:=base) A9 (rR A9 B bZ) EG (fun _ _ _ _ _ _ us hl=>by obtain⟨u0,u1,u2,rfl⟩:=fY hl;rfl);have jg:=Cal.of (P:=l.prog) (w:=w) (base:=base) sU (qu sU B gQ eV de) Ev (fun _ _ _ _ _ _ us hl=>by obtain⟨u0,u1,rfl⟩:=fZ hl;rfl);have oO:=Cal.of (P:=l.prog) (w:=w) (base:=base) DY (uf DY B) EN (fun _ _ _ _ _ _ us hl=>by obtain⟨u0,u1,rfl⟩:=fZ hl;rfl);exact Db Hc B TG MGk HC Hd e9 ba fF iW lI t9 ia gQ eV jg oO oX
theorem walk{l:PySem.W.OpenLaw}{q:Program}{loose:List Str}{XP:(Str->Option Value)->Heap->Prop}{YP:World->Heap->Prop}{d:DefRec}{K:Params->PySem.W.Frag}(hn:l.most=some 63)(hdf:d.params.defaults=[])
 (hY:∀(w:World)(h:Heap),YP w h->(K w.params).In h)
 (F:∀(w:World)(mg:Str->Option Value)(fa:Addr)(h:Heap),(K w.params).In h->h.Ns mainGlobals mg->mg d.name=some (.ref fa) ->
  ∃fd:FuncData,(∀(s:Shared) (u:Value),BindsTo s fd ⟨[u],[]⟩ [("_law_script",u)])/\∀base:Heap,(K w.params).In base->base.Ns mainGlobals mg->FnOk l.prog w (K w.params) mg base CX0 32 fa fd ["_law_script"] (vd (K w.params))) :
 PySem.W.WalkO q loose XP YP l.row.toRowW d [] (fun f vs=>PySem.call f vs):=
 L2.walk_of (n:=63) (k:=32) (x:="_law_script") (CX:=fun _=>CX0) (sp:=fun w=>vd (K w.params)) hn (by decide) hdf ⟨rfl,by decide,by decide⟩ hY F (fun _ _ a ns hl _ hS=>⟨a,ns,rfl,hS,hl,fun _=>rfl⟩) fun _ _ _ _ _ z=>z
end Mine
namespace PySem.W.Fast
def tw1538731918149490420:=()
def tw3023454365138805769:=()
def tw13233078185821748892:=()
def tw4569963622841044170:=()
def tw6400095300265891364:=()
def tw12002096871541479599:=()
def tw10887579406465287262:=()
def tw4541756367958837553:=()
def tw14698216413934484938:=()
def tw10066884758044529911:=()
def tw3588589276463290066:=()
def tw3107076537316320092:=()
def tw6486213550716468947:=()
def tw16263565040626237697:=()
def tw13028044474137838015:=()
def tw8426092621112403293:=()
def tw5980423307026457870:=()
def tw11910186987717881953:=()
def tw10046132624558971870:=()
def tw11484823130989767456:=()
def tw2513357818305226115:=()
def tw2428043583331523054:=()
def tw15642659579722623016:=()
def tw13179634524994728105:=()
def tw2334338011667771002:=()
def tw16981700437043951230:=()
def tw5932291545511330363:=()
def tw10482550563038856225:=()
def tw1940726351277423039:=()
def tw2916583594865532488:=()
def tw483590474071911806:=()
def tw4447989839378251831:=()
def tw15541718114755755769:=()
def tw16365632172476248617:=()
def tw13106404962315835968:=()
def tw13883321086687780195:=()
def tw17561780417328976906:=()
def tw13554559539150338288:=()
def tw822242250878554790:=()
def tw10868404701590265657:=()
def tw16077467207716220239:=()
def tw12341796398148333691:=()
def tw12447134681578643641:=()
def tw14127407466614058977:=()
def tw1839356091425140291:=()
def tw5699775021248231768:=()
def tw6907193459864692108:=()
def tw11482840206146367209:=()
def tw6130385238231515104:=()
def tw2395824386512195247:=()
def tw2356910340687082932:=()
def tw6287459274661895570:=()
def tw15476557771633946876:=()
def tw7874952208699452442:=()
def tw1008574636055536435:=()
def tw11809780507903023892:=()
def tw2280881900414276221:=()
def tw9250717099081122639:=()
def tw14566470623567452528:=()
def tw18215184644034982625:=()
def tw14405672655299961738:=()
def tw6876857559557578840:=()
def tw10377193864664651510:=()
def tw18268602995632415801:=()
def tw468510754648702655:=()
def tw9816264301813954352:=()
def tw1054192519071887420:=()
def tw8538284324037847579:=()
def tw8756407674954999935:=()
def tw13044069517157363793:=()
def tw1836349541504295237:=()
def tw12035895464963537045:=()
def tw16743636436569162381:=()
def tw1205192397773613173:=()
def tw14965242132482826568:=()
def tw18209178702640494977:=()
def tw12885403619623686742:=()
def tw8704453129413240995:=()
def tw7052895868247284141:=()
def tw2151373231682016168:=()
def tw14912103279137488827:=()
def tw218656624340431775:=()
def tw4177272113508169206:=()
def tw10840175534948397210:=()
def tw12859214572743290406:=()
def tw2576021613658398293:=()
def tw11205957557228689396:=()
def tw4757708667412035033:=()
def tw17981110881997711510:=()
def tw9419282274875773938:=()
def tw4357905379880549253:=()
def tw15018204361252274961:=()
def tw3492897634804367351:=()
def tw3822385486803481578:=()
def tw6643878843378634316:=()
def tw17916016432567839885:=()
def tw4004540969302594409:=()
def tw9096645538618327371:=()
def tw12789855785301744536:=()
def tw515253163922670377:=()
def tw13448987928744451567:=()
def tw1927494640376550386:=()
def tw3790514229694123595:=()
def tw15539031474521045364:=()
def tw1097025523014984484:=()
def tw4483774824761189322:=()
def tw10974749128166169629:=()
def tw5011539706907811103:=()
def tw220462966009327995:=()
def tw16686288295124598011:=()
def tw14334060167471999966:=()
def tw721980942774984963:=()
def tw1304267599926995735:=()
def tw7491525937973236417:=()
def tw14023866771383113441:=()
def tw13730200261377893930:=()
def tw11256671173335014868:=()
def tw12610514521900066720:=()
def tw1825109584336057637:=()
def tw7245300527654459762:=()
def tw1105974180053352885:=()
def tw1806267093786002450:=()
def tw18229315859764137099:=()
def tw17962636690429941278:=()
def tw8919230029132934713:=()
def tw17961627278778644739:=()
def tw16112178422808014934:=()
def tw15761175098591579004:=()
def tw4293292450608426074:=()
def tw14410894952129490027:=()
def tw13763464967934692669:=()
def tw3556103087567487302:=()
def tw14188420098768549400:=()
def tw8921359023959494105:=()
def tw5954155059710717021:=()
def tw1517121379880026281:=()
def tw3537481819815174586:=()
def tw17737438461557075280:=()
def tw13147923101729857417:=()
def tw645453144835549366:=()
def tw12224040685791932959:=()
def tw2415219225733513536:=()
def tw4662378429086942418:=()
def tw12169079881700682537:=()
def tw13841769764187611552:=()
def tw2326957440707615251:=()
def tw6090951980307838609:=()
def tw4542021688340350421:=()
def tw8100298614031937969:=()
def tw17189004761555014256:=()
def tw3329710281483294309:=()
def tw17955020726464071097:=()
def tw6619878363275322162:=()
def tw12242977347815647088:=()
def tw13153219595978613564:=()
def tw2028599584247269853:=()
def tw10388060559193769526:=()
def tw10242234021122116998:=()
def tw9027997569882917915:=()
def tw18073330191360135381:=()
def tw14171256825888272850:=()
def tw9518882185990730532:=()
def tw9041326155364063913:=()
def tw16700049548099598411:=()
def tw13878277406850473276:=()
def tw5214798248515692012:=()
def tw14247669018405759075:=()
def tw18166873490634385593:=()
def tw14597292701891443137:=()
def tw15871471737220350985:=()
def tw11468626207976578178:=()
def tw162981178858276448:=()
def tw2757609114510077966:=()
def tw3836861332953606362:=()
def tw4152186946155699090:=()
def tw15773880182246084186:=()
def tw16329736878086983860:=()
def tw16258211551087348242:=()
def tw17567976792402991562:=()
def tw7972153687173697588:=()
def tw8144040502554254475:=()
def tw16957957451029130343:=()
def tw10887032394450149104:=()
def tw9863078192033573489:=()
def tw168964393523966307:=()
def tw4783268280809396420:=()
def tw1850810931049591690:=()
def tw15176170477153696783:=()
def tw11265917946369546351:=()
def tw3350573517953951724:=()
def tw5745986789454440564:=()
def tw6941121505996543434:=()
def tw13526203239241323641:=()
def tw5610089946430169300:=()
def tw14681853205702191589:=()
def tw12170784001778967976:=()
def tw5216015591583595477:=()
def tw2601375812014831227:=()
def tw9863160045746004553:=()
def tw1268454156875233410:=()
def tw16459329932211685759:=()
def tw9286440609693936314:=()
def tw18356515619101636515:=()
def tw11928266164325161654:=()
def tw13840827845053977979:=()
def tw9973388673912008361:=()
def tw14243607996152825804:=()
def tw8562400491373610962:=()
def tw3090115041170504501:=()
def tw4150928145310224487:=()
def tw13852890371398637365:=()
def tw11073795423755770805:=()
def tw17759520507493806927:=()
def tw18275785740700540299:=()
def tw15860361228923068629:=()
def tw11348009945896869571:=()
def tw5228463812590622708:=()
def tw18217380296903193591:=()
def tw2991279212508477633:=()
def tw11883273050177643572:=()
def tw2132554517194739192:=()
def tw14324730407896220338:=()
def tw11146102769320734509:=()
def tw486214722797001091:=()
def tw3087127695403042894:=()
def tw8210093659550493149:=()
def tw14003375397226627546:=()
def tw2357209231935446431:=()
def tw5864800437180051340:=()
def tw5501492192806608944:=()
def tw3420444847664252168:=()
def tw14387050205009146338:=()
def tw18029258607785592571:=()
def tw621654450230526115:=()
def tw16945237332925904077:=()
def tw7313768487921511683:=()
def tw4486169799382718917:=()
def tw9769244282294704714:=()
def tw7200178601841294611:=()
def tw1600921622178858814:=()
def tw253791191130712906:=()
def tw6426455753422940271:=()
def tw18311760542292184395:=()
def tw9817236569775316336:=()
def tw10876066508723226807:=()
def tw12841055032369489930:=()
def tw12561695554417498415:=()
def tw2251468136113718060:=()
def tw6324215988456971472:=()
def tw10528396441922319126:=()
def tw12542349274710683017:=()
def tw4120736604241061687:=()
def tw4971394612864041105:=()
def tw8544872879523320602:=()
def tw7608919036518361792:=()
def tw16898679432175859102:=()
def tw16945560377657199536:=()
def tw2663623483294381397:=()
def tw14780351960026472874:=()
def tw14580703347558660257:=()
def tw6439734616277774976:=()
def tw7534320494058202510:=()
def tw13186006174362311298:=()
def tw6075213263812294506:=()
def tw6547854589010243348:=()
def tw5222187583915147203:=()
def tw13750962967326777055:=()
def tw13411458106300211688:=()
def tw3348982788837022406:=()
def tw12145937215638123296:=()
def tw11470133256723522465:=()
def tw3916461299240301756:=()
def tw18207494755001790722:=()
def tw1221984222860732827:=()
def tw13452484599305692766:=()
def tw10140894346243540229:=()
def tw414065595450954652:=()
def tw16460091379033473177:=()
def tw8692087812875436995:=()
def tw12556671547527119191:=()
def tw3377533004383740973:=()
def tw14400544718107986582:=()
def tw16807915752826622812:=()
def tw5106452444081227207:=()
def tw4427933803352244281:=()
def tw2172575514123645272:=()
def tw85597256614086855:=()
def tw8218928460404388261:=()
def tw5548299592323157810:=()
def tw10043088468579306515:=()
def tw9415276440095117331:=()
def tw10526914270149665754:=()
def tw4868788382185225111:=()
def tw11781763524786616424:=()
def tw17718610779944874379:=()
def tw9904130840421190582:=()
def tw9000532805470684483:=()
def tw518083412445786868:=()
def tw8253601553920936248:=()
def tw12271908686569495522:=()
def tw2702730836653526716:=()
def tw16176719401953040268:=()
def tw10468148801849398261:=()
def tw2868482658588075499:=()
def tw11362193193532008229:=()
def tw17906408169853272457:=()
def tw14904195549807424602:=()
def tw11673867752739724714:=()
def tw2939407617509907311:=()
def tw4022149697009995386:=()
def tw11144705150746920102:=()
def tw10975934274538469914:=()
def tw17754075510546962831:=()
def tw6377335577014531604:=()
def tw11792313223588146503:=()
def tw16069055380086245578:=()
def tw10771150465409872724:=()
def tw17933779408899483003:=()
def tw6353264503409175534:=()
def tw5767604896138651093:=()
def tw1058957845984900153:=()
def tw15523806160393705551:=()
def tw8692714429590427933:=()
def tw7132956219539523096:=()
def tw11948673483665856131:=()
def tw16613039761910467089:=()
def tw8169761750332217973:=()
def tw5454148861911717846:=()
def tw3226691481885663595:=()
def tw11391098713072072310:=()
def tw13039872953559986724:=()
def tw9122179271801030076:=()
def tw6046522940397540248:=()
def tw4870295666096323233:=()
def tw8622466422531260000:=()
def tw10760092428701669728:=()
def tw731902101348950646:=()
def tw1714531934242409972:=()
def tw13091818459365829925:=()
def tw6826680845315479903:=()
def tw1574512371850380441:=()
def tw3971021609291440721:=()
def tw13147381721271154188:=()
def tw5655797061642489526:=()
def tw6385241611223738908:=()
def tw8004633443574731997:=()
def tw12591701030888692739:=()
def tw5795219235280338793:=()
def tw6335782745231641193:=()
def tw6105393189477039594:=()
def tw13570334559501404143:=()
def tw7423899126354037795:=()
def tw17798633791008979185:=()
def tw251217788401408567:=()
def tw4032334120906408465:=()
def tw17878905657028907616:=()
def tw7800314078652565426:=()
def tw18042158759684913474:=()
def tw16550381126311948786:=()
def tw13671205983419926702:=()
def tw1885653315331769157:=()
def tw145683248188963463:=()
def tw16912029900385874241:=()
def tw17334778366299019688:=()
def tw9193649341717797977:=()
def tw15925087080264905934:=()
def tw8473861898017298644:=()
def tw12278030011160252289:=()
def tw127566198871533933:=()
def tw13946261490935243146:=()
def tw12491936733944686649:=()
def tw3062784288881735693:=()
def tw12783105863449230582:=()
def tw10988218070302516953:=()
def tw4625625329000001132:=()
def tw14664448275988827977:=()
def tw16379368540393151814:=()
def tw14926689160428929126:=()
def tw15626548577917888548:=()
def tw2133369848473630819:=()
def tw16368664795673241036:=()
def tw10857837321128535012:=()
def tw8783436528459289851:=()
def tw5549034950411482891:=()
def tw16730205039818204301:=()
def tw12701993684605849237:=()
def tw2416237097350710954:=()
def tw2620556841379054490:=()
def tw10059951104110769682:=()
def tw5434087820473522392:=()
def tw13578566334793780503:=()
def tw6776877832018796254:=()
def tw2494668257886629491:=()
def tw7553028770526012433:=()
def tw9764289735650526729:=()
def tw18279172487706952531:=()
def tw222732049458546887:=()
def tw12059319215807480748:=()
def tw13071656473010699160:=()
def tw16552994840821426825:=()
def tw2708146642708143057:=()
def tw10174489383540848459:=()
def tw17107326014190000528:=()
def tw14584304916765373780:=()
def tw14811463253112465652:=()
def tw13049360621251427692:=()
def tw10877995103487078453:=()
def tw17790486525408971751:=()
def tw15962396024305546123:=()
def tw9777524452911124668:=()
def tw15408218258653929196:=()
def tw11084194439532609359:=()
def tw9729260920331806042:=()
def tw8595094375307240979:=()
def tw11879660394631344676:=()
def tw13370133869724856288:=()
def tw2872437598901390310:=()
def tw17039651972519770837:=()
def tw10106014857263161115:=()
def tw14036508457314537306:=()
def tw12267322881851890687:=()
def tw8928049538567589748:=()
def tw3095085344445622381:=()
def tw8036335910815526771:=()
def tw4337887802467305794:=()
def tw16856723269151322702:=()
def tw16578309151734532165:=()
def tw4813495757131310757:=()
def tw3547752093510002133:=()
def tw15875330904308810637:=()
def tw7696604280921206836:=()
def tw3163566806874539653:=()
def tw7346600078047374173:=()
def tw1003227362418807391:=()
def tw12151795661991091945:=()
def tw9845736431609714715:=()
def tw14350245030855769439:=()
def tw4105424082830901615:=()
def tw5309477514193376604:=()
def tw3336909827063460996:=()
def tw18221061872684726913:=()
def tw7453781761949364559:=()
def tw11437341812575494606:=()
def tw5683334112229649396:=()
def tw2858653598231350078:=()
def tw1513440916200242957:=()
def tw18153587714586296245:=()
def tw12545517228350246651:=()
def tw17815379113992327360:=()
def tw12009047027656823277:=()
def tw4407011487314563778:=()
def tw14010194428430591234:=()
def tw18410802961106127115:=()
def tw7558136382669356641:=()
def tw7468410351862653321:=()
def tw14410445392463244913:=()
def tw16404742327576330129:=()
def tw8143323507955142271:=()
def tw11591235052255429589:=()
def tw5043494507063563276:=()
end PySem.W.Fast
open PySem PySem.W PyProof.Rows
set_option maxRecDepth 100000 in
set_option maxHeartbeats 0 in
theorem PySem.Challenge.cw_asktally_k69_whole_disputes_by_a_model_holds : PySem.Challenge.rw_asktally_k69_whole_disputes_by_a_model.Holds := by
 w_on; o_law; k_head; (case hw=>w_witness2)
 k_fill
 refine Mine.walk (l:=PySem.Challenge.rw_asktally_k69_whole_disputes_by_a_model) rfl rfl (fun w h Y=>PySem.W.kIn_of Y) ?F
 case F =>
  intro w mg fa h KX G hmg
  refine' Mine.all_mk KX G hmg ?a0 ?l0 ?c0 ?k0 ?a1 ?l1 ?c1 ?k1 ?a2 ?l2 ?c2 ?k2 ?a3 ?l3 ?c3 ?k3 ?a4 ?l4 ?c4 ?k4 ?a5 ?l5 ?c5 ?k5 ?a6 ?l6 ?c6 ?k6 ?a7 ?l7 ?c7 ?k7 ?a8 ?l8 ?c8 ?k8 ?a9 ?l9 ?c9 ?k9 ?a10 ?l10 ?c10 ?k10 ?a11 ?l11 ?c11 ?k11 ?a12 ?l12 ?c12 ?k12 ?a13 ?l13 ?c13 ?k13 ?a14 ?l14 ?c14 ?k14 ?a15 ?l15 ?c15 ?k15 ?a16 ?l16 ?c16 ?k16 ?a17 ?l17 ?c17 ?k17 ?a18 ?l18 ?c18 ?k18 ?a19 ?l19 ?c19 ?k19 ?a20 ?l20 ?c20 ?k20 ?a21 ?l21 ?c21 ?k21 ?a22 ?l22 ?c22 ?k22 ?a23 ?l23 ?c23 ?k23 ?a24 ?l24 ?c24 ?k24 ?a25 ?l25 ?c25 ?k25 ?a26 ?l26 ?c26 ?k26 ?a27 ?l27 ?c27 ?k27 ?a28 ?l28 ?c28 ?k28 ?a29 ?l29 ?c29 ?k29 ?a30 ?l30 ?c30 ?k30 ?a31 ?l31 ?c31 ?k31 ?a32 ?l32 ?c32 ?k32 ?a33 ?l33 ?c33 ?k33 ?a34 ?l34 ?c34 ?k34 ?a35 ?l35 ?c35 ?k35 ?a36 ?l36 ?c36 ?k36 ?a37 ?l37 ?c37 ?k37 ?a38 ?l38 ?c38 ?k38 ?a39 ?l39 ?c39 ?k39 ?a40 ?l40 ?c40 ?k40 ?a41 ?l41 ?c41 ?k41 ?a42 ?l42 ?c42 ?k42 ?a43 ?l43 ?c43 ?k43 ?a44 ?l44 ?c44 ?k44 ?a45 ?l45 ?c45 ?k45 ?a46 ?l46 ?c46 ?k46 ?a47 ?l47 ?c47 ?k47 ?a48 ?l48 ?c48 ?k48 ?a49 ?l49 ?c49 ?k49 ?a50 ?l50 ?c50 ?k50 ?a51 ?l51 ?c51 ?k51 ?FK ?FL ?FM ?FN ?FO ?FP ?FQ ?FR ?FS ?FT ?EO ?FU ?FV ?FW ?FX ?EQ ?FY ?E9 ?Fa ?Fb ?Fc ?Fd ?o3 ?C6 ?C7 ?rf ?FZ ?Gc ?Gd ?Ge ?Gf ?Gh ?Gi ?Gj ?Gk ?Gn ?ER ?Go ?Gp ?Gq ?Gs ?ES ?Gw ?Gx ?Gy ?Gz ?ET ?GB ?GD ?GE ?GF ?EU ?GH ?Fe ?Ff ?Fg ?Fh ?Fi ?D5 ?u7 ?D6 ?D7 ?Fj ?u8 ?u9 ?GJ ?GK ?GN ?GO ?GQ ?GU ?GV ?GX ?GY ?GZ ?EV ?G6 ?G8 ?G9 ?Ha ?EW ?Hb ?Fk ?Fl ?Fm ?Fn ?Fo ?D8 ?v7 ?jO ?C8 ?sdgg ?sdaI ?sdiI ?sdlI ?sdcI ?sdkI ?sdaA ?sdiA ?sdlA ?sdcA ?sdkA ?sdaG ?sdiG ?sdlG ?sdcG ?sdkG ?sdpg ?sdhdi ?sdpov ?sdsat ?sdmki ?sdkcl ?sdn_field ?sdn_machine ?sdn_held ?sdn_said ?ge ?gmo ?z0 ?z1 ?z2 ?z3 ?z4 ?z5 ?z6 ?z7 ?z8 ?z9 ?z10 ?z11 ?z12 ?z13 ?z14
  (case a0=>k_is); (case l0=>k_is); (case c0=>k_is); (case k0=>k_is)
  (case a1=>k_is); (case l1=>k_is); (case c1=>k_is); (case k1=>k_is)
  (case a2=>k_is); (case l2=>k_is); (case c2=>k_is); (case k2=>k_is)
  (case a3=>k_is); (case l3=>k_is); (case c3=>k_is); (case k3=>k_is)
  (case a4=>k_is); (case l4=>k_is); (case c4=>k_is); (case k4=>k_is)
  (case a5=>k_is); (case l5=>k_is); (case c5=>k_is); (case k5=>k_is)
  (case a6=>k_is); (case l6=>k_is); (case c6=>k_is); (case k6=>k_is)
  (case a7=>k_is); (case l7=>k_is); (case c7=>k_is); (case k7=>k_is)
  (case a8=>k_is); (case l8=>k_is); (case c8=>k_is); (case k8=>k_is)
  (case a9=>k_is); (case l9=>k_is); (case c9=>k_is); (case k9=>k_is)
  (case a10=>k_is); (case l10=>k_is); (case c10=>k_is); (case k10=>k_is)
  (case a11=>k_is); (case l11=>k_is); (case c11=>k_is); (case k11=>k_is)
  (case a12=>k_is); (case l12=>k_is); (case c12=>k_is); (case k12=>k_is)
  (case a13=>k_is); (case l13=>k_is); (case c13=>k_is); (case k13=>k_is)
  (case a14=>k_is); (case l14=>k_is); (case c14=>k_is); (case k14=>k_is)
  (case a15=>k_is); (case l15=>k_is); (case c15=>k_is); (case k15=>k_is)
  (case a16=>k_is); (case l16=>k_is); (case c16=>k_is); (case k16=>k_is)
  (case a17=>k_is); (case l17=>k_is); (case c17=>k_is); (case k17=>k_is)
  (case a18=>k_is); (case l18=>k_is); (case c18=>k_is); (case k18=>k_is)
  (case a19=>k_is); (case l19=>k_is); (case c19=>k_is); (case k19=>k_is)
  (case a20=>k_is); (case l20=>k_is); (case c20=>k_is); (case k20=>k_is)
  (case a21=>k_is); (case l21=>k_is); (case c21=>k_is); (case k21=>k_is)
  (case a22=>k_is); (case l22=>k_is); (case c22=>k_is); (case k22=>k_is)
  (case a23=>k_is); (case l23=>k_is); (case c23=>k_is); (case k23=>k_is)
  (case a24=>k_is); (case l24=>k_is); (case c24=>k_is); (case k24=>k_is)
  (case a25=>k_is); (case l25=>k_is); (case c25=>k_is); (case k25=>k_is)
  (case a26=>k_is); (case l26=>k_is); (case c26=>k_is); (case k26=>k_is)
  (case a27=>k_is); (case l27=>k_is); (case c27=>k_is); (case k27=>k_is)
  (case a28=>k_is); (case l28=>k_is); (case c28=>k_is); (case k28=>k_is)
  (case a29=>k_is); (case l29=>k_is); (case c29=>k_is); (case k29=>k_is)
  (case a30=>k_is); (case l30=>k_is); (case c30=>k_is); (case k30=>k_is)
  (case a31=>k_is); (case l31=>k_is); (case c31=>k_is); (case k31=>k_is)
  (case a32=>k_is); (case l32=>k_is); (case c32=>k_is); (case k32=>k_is)
  (case a33=>k_is); (case l33=>k_is); (case c33=>k_is); (case k33=>k_is)
  (case a34=>k_is); (case l34=>k_is); (case c34=>k_is); (case k34=>k_is)
  (case a35=>k_is); (case l35=>k_is); (case c35=>k_is); (case k35=>k_is)
  (case a36=>k_is); (case l36=>k_is); (case c36=>k_is); (case k36=>k_is)
  (case a37=>k_is); (case l37=>k_is); (case c37=>k_is); (case k37=>k_is)
  (case a38=>k_is); (case l38=>k_is); (case c38=>k_is); (case k38=>k_is)
  (case a39=>k_is); (case l39=>k_is); (case c39=>k_is); (case k39=>k_is)
  (case a40=>k_is); (case l40=>k_is); (case c40=>k_is); (case k40=>k_is)
  (case a41=>k_is); (case l41=>k_is); (case c41=>k_is); (case k41=>k_is)
  (case a42=>k_is); (case l42=>k_is); (case c42=>k_is); (case k42=>k_is)
  (case a43=>k_is); (case l43=>k_is); (case c43=>k_is); (case k43=>k_is)
  (case a44=>k_is); (case l44=>k_is); (case c44=>k_is); (case k44=>k_is)
  (case a45=>k_is); (case l45=>k_is); (case c45=>k_is); (case k45=>k_is)
  (case a46=>k_is); (case l46=>k_is); (case c46=>k_is); (case k46=>k_is)
  (case a47=>k_is); (case l47=>k_is); (case c47=>k_is); (case k47=>k_is)
  (case a48=>k_is); (case l48=>k_is); (case c48=>k_is); (case k48=>k_is)
  (case a49=>k_is); (case l49=>k_is); (case c49=>k_is); (case k49=>k_is)
  (case a50=>k_is); (case l50=>k_is); (case c50=>k_is); (case k50=>k_is)
  (case a51=>k_is); (case l51=>k_is); (case c51=>k_is); (case k51=>k_is)
  case FK|FL|FM|FN|FO|FP|FQ|FR|FS|FT|EO|FU|FV|FW|FX|EQ|FY|E9|Fa|Fb|Fc|Fd|o3|C6|C7|rf|FZ|Gc|Gd|Ge|Gf|Gh|Gi|Gj|Gk|Gn|ER|Go|Gp|Gq|Gs|ES|Gw|Gx|Gy|Gz|ET|GB|GD|GE|GF|EU|GH|Fe|Ff|Fg|Fh|Fi|D5|u7|D6|D7|Fj|u8|u9|GJ|GK|GN|GO|GQ|GU|GV|GX|GY|GZ|EV|G6|G8|G9|Ha|EW|Hb|Fk|Fl|Fm|Fn|Fo|D8|v7|jO|C8|sdgg|sdaI|sdiI|sdlI|sdcI|sdkI|sdaA|sdiA|sdlA|sdcA|sdkA|sdaG|sdiG|sdlG|sdcG|sdkG|sdpg|sdhdi|sdpov|sdsat|sdmki|sdkcl|sdn_field|sdn_machine|sdn_held|sdn_said|ge|gmo|z0|z1|z2|z3|z4|z5|z6|z7|z8|z9|z10|z11|z12|z13|z14=>k_is
