import PyProof.Rows.All
import Wide.All
import OpenK.AllK
import Wide.FinOn
import Lean
import PyProof.EqAt
import PyProof.EqKinds
import PyProof.TupleCall
import PySem.Challenge.RW_asktally_k85_whole_one_number_once
set_option Elab.async false
set_option linter.all false
set_option maxRecDepth 100000
set_option bootstrap.genMatcherCode false
set_option compiler.extract_closed false
local macro_rules | `(tactic|omega)=>`(tactic|first | lia | omega +splitDisjunctions)
local macro_rules | `(command|def $n:declId $s:optDeclSig $b:declVal)=>`(command|noncomputable def $n:declId $s:optDeclSig $b:declVal)
noncomputable section
section
open PySem PySem.Spec PyProof.Rows
theorem zA0.{u}{c:Prop}{h:Decidable c}(hc:¬c){α:Sort u}{t e:α}:ite c t e=e:=if_neg hc
theorem zB0.{u}{c:Prop}{h:Decidable c}(hc:c){α:Sort u}{t e:α}:ite c t e=t:=if_pos hc
abbrev zE0:=@List.length_map
abbrev zF0:=@wpAny_bind
abbrev zG0:=@Nat.le_refl
abbrev zI0:=@wpAny_pure
abbrev zK0:=@List.getElem?_eq_getElem
abbrev zL0:=@List.map_append
abbrev zM0:=@List.length_append
abbrev zN0:=@Heap.lt_size
abbrev zO0:=@Heap.get?_push_of_some
abbrev zP0:=@List.size_toArray
abbrev zQ0:=@Option.some.inj
abbrev zR0:=@List.getElem?_map
abbrev zS0:=@List.getD_eq_getElem?_getD
theorem zT0.{u}{α:Type u}{a b:α}(h:a∈[b]):a=b:=List.mem_singleton.mp h
abbrev zU0:=@Nat.zero_le
abbrev zV0:=@Nat.ne_of_lt
abbrev zW0:=@Heap.get?_push_size
abbrev zX0:=@Int.emod_nonneg
theorem zY0.{u}{α:Type u}{l:List α}{i:Nat}{a:α}(h:l[i]?=some a):∃h:i<l.length,l[i]=a:=List.getElem?_eq_some_iff.mp h
abbrev zZ0:=@List.map_cons
abbrev qA0:=@Int.emod_lt_of_pos
abbrev qB0:=@Bool.false_ne_true
abbrev qC0:=@Nat.le_trans
theorem qD0.{u}{α:Type u}{a b:α}{l:List α}(h:a∈b::l):a=b∨a∈l:=List.mem_cons.mp h
abbrev qE0:=@List.length_singleton
abbrev qF0:=@List.length_cons
abbrev qG0:=@List.mem_of_getElem?
abbrev qH0:=@Int.emod_eq_of_lt
abbrev qI0:=@Nat.le_succ
theorem qJ0.{u}{α:Type u}{a:α}{s t:List α}(h:a∈s++t):a∈s∨a∈t:=List.mem_append.mp h
abbrev qK0:=@Nat.lt_of_lt_of_le
abbrev qL0:=@List.getElem_mem
abbrev qM0:=@List.take_length
abbrev qN0:=@List.take_add_one
abbrev qO0:=@List.length_take
abbrev qP0:=@List.mem_cons_self
abbrev qQ0:=@List.length_range
abbrev qR0:=@List.mem_cons_of_mem
abbrev qS0:=@List.mem_append_right
abbrev qT0:=@Int.toNat_natCast
abbrev qU0:=@Nat.lt_irrefl
theorem qV0{α β:Type}{f:α->β}{x:Option α}{b:β}(h:x.map f=some b):∃a,x=some a/\f a=b:=Option.map_eq_some_iff.mp h
abbrev qW0:=@Int.mul_le_mul_of_nonneg_left
end
namespace L2
open PySem PySem.Spec PyProof.Rows
abbrev Key:=Sum Int Str
def qU:Key->Value->Bool
 | .inl k,v=>Value.isInt k v
 | .inr x,v=>Value.isStrOf x v
def keyH(w:World):Key->Int
 | .inl k=>hashInt k
 | .inr x=>hashStr w x
theorem cX:∀{k:Key}{v:Value},qU k v=true->(∃i t,k=Sum.inl i/\v=Value.int i t)∨(∃x t,k=Sum.inr x/\v=Value.str x t)
 | .inl i,v,h=>by
   obtain⟨t,e⟩:=Value.isInt_shape (k:=i) (v:=v) h;exact .inl ⟨i,t,rfl,e⟩
 | .inr x,v,h=>by
   obtain⟨t,e⟩:=Value.isStrOf_shape (x:=x) (v:=v) h;exact .inr ⟨x,t,rfl,e⟩
theorem yT(i:Int)(t:Tok):qU (.inl i) (.int i t)=true:=by simp [qU,Value.isInt]
theorem yS(x:Str)(t:Tok):qU (.inr x) (.str x t)=true:=by simp [qU,Value.isStrOf]
theorem EQ(a b:Int):decide ((Sum.inl a:Key)=Sum.inl b)=(a==b):=by
 by_cases e:a=b
 . subst e;simp
 . have h:¬ (Sum.inl a:Key)=Sum.inl b:=fun q=>e (Sum.inl.inj q)
   rw[decide_eq_false h];exact(beq_eq_false_iff_ne.mpr e).symm
theorem EM(a b:Str):decide ((Sum.inr a:Key)=Sum.inr b)=decide (a=b):=by
 by_cases e:a=b
 . subst e;simp
 . have h:¬ (Sum.inr a:Key)=Sum.inr b:=fun q=>e (Sum.inr.inj q)
   rw[decide_eq_false h,decide_eq_false e]
theorem EO(a:Int)(b:Str):decide ((Sum.inl a:Key)=Sum.inr b)=false:=decide_eq_false (fun q=>nomatch q)
theorem EN(a:Str)(b:Int):decide ((Sum.inr a:Key)=Sum.inl b)=false:=decide_eq_false (fun q=>nomatch q)
def dC(prog:Program)(w:World):PySem.KeyKind prog w Key where
 is:=qU
 hash:=keyH w
 inj:=fun v a b ha hb=>by
  rcases cX ha with⟨i,t,rfl,rfl⟩ | ⟨x,t,rfl,rfl⟩
  . rcases cX hb with⟨j,u,rfl,e⟩ | ⟨y,u,rfl,e⟩
    . injection e with e1 _;rw[e1]
    . exact nomatch e
  . rcases cX hb with⟨j,u,rfl,e⟩ | ⟨y,u,rfl,e⟩
    . exact nomatch e
    . injection e with e1 _;rw[e1]
 byValue:=fun k v h=>by
  rcases cX h with⟨i,t,rfl,rfl⟩ | ⟨x,t,rfl,rfl⟩ <;> rfl
 pyHash:=fun hv h=>by
  rcases cX hv with⟨i,t,rfl,rfl⟩ | ⟨x,t,rfl,rfl⟩
  . exact wpAny_pyHash_int h
  . exact wpAny_pyHash_str h
 eqBool:=fun hu hv h=>by
  rcases cX hu with⟨i,t,rfl,rfl⟩ | ⟨x,t,rfl,rfl⟩
  . rcases cX hv with⟨j,u,rfl,rfl⟩ | ⟨y,u,rfl,rfl⟩
    . rw[EQ]at h;exact wpAny_eqBool_int h
    . rw[EO]at h;exact SeqAt.EqAt.int_str i t y u _ _ _ _ h
  . rcases cX hv with⟨j,u,rfl,rfl⟩ | ⟨y,u,rfl,rfl⟩
    . rw[EN]at h;exact SeqAt.EqAt.str_int x t j u _ _ _ _ h
    . rw[EM]at h;exact wpAny_eqBool_str h
 «strs»:=fun k x t v h=>by
  rcases cX h with⟨i,u,rfl,e⟩ | ⟨y,u,rfl,e⟩
  . exact nomatch e
  . injection e with e1 _;subst e1;cases v <;> rfl
theorem ui(prog:Program)(w:World)(i:Int)(t:Tok):(dC prog w).is (.inl i) (.int i t)=true:=yT i t
theorem uh(prog:Program)(w:World)(x:Str)(t:Tok):(dC prog w).is (.inr x) (.str x t)=true:=yS x t
inductive V where
 | non | bl (b:Bool) | int (i:Int) | str (x:Str) | byt (b:Array UInt8) | flt (b:UInt64) | ref (a:Addr) | ty (n:String)
 deriving DecidableEq
def RelV:V->Value->Prop
 | .non,u=>u=Value.none
 | .bl b,u=>u=Value.bool b
 | .int i,u=>∃t,u=Value.int i t
 | .str x,u=>∃t,u=Value.str x t
 | .byt b,u=>∃t,u=Value.bytes b t
 | .flt b,u=>∃t,u=Value.float b t
 | .ref a,u=>u=Value.ref a
 | .ty n,u=>u=Value.type n
abbrev Vals:List V->List Value->Prop:=Paired RelV
theorem Vals.length{xs:List V}{us:List Value}(r:Vals xs us):xs.length=us.length:=Paired.length r
theorem Vals.get:∀{xs:List V}{us:List Value}{i:Nat}{x:V},Vals xs us->xs[i]?=some x->∃u,us[i]?=some u/\RelV x u
 | _,_,_,_,.nil,e=>by simp at e
 | _,_,0,_,.cons r _,e=>by simp at e;subst e;exact⟨_,rfl,r⟩
 | _,_,i+1,x,.cons _ t,e=>by
   obtain⟨u,h1,h2⟩:=Vals.get (i:=i) (x:=x) t (by simpa using e);exact⟨u,by simpa using h1,h2⟩
theorem Vals.set{x:V}{u:Value}(r:RelV x u):∀{xs:List V}{us:List Value}(i:Nat),Vals xs us->Vals (xs.set i x) (us.set i u)
 | _,_,_,.nil=>.nil
 | _,_,0,.cons _ t=>.cons r t
 | _,_,i+1,.cons q t=>.cons q (Vals.set r i t)
theorem Vals.append:∀{xs ys:List V}{us ws:List Value},Vals xs us->Vals ys ws->Vals (xs++ys) (us++ws)
 | _,_,_,_,.nil,s=>s
 | _,_,_,_,.cons r t,s=>.cons r (Vals.append t s)
theorem Vals.take:∀{xs:List V}{us:List Value}(n:Nat),Vals xs us->Vals (xs.take n) (us.take n)
 | _,_,0,_=>.nil
 | _,_,_+1,.nil=>.nil
 | _,_,n+1,.cons r t=>.cons r (Vals.take n t)
theorem Vals.drop:∀{xs:List V}{us:List Value}(n:Nat),Vals xs us->Vals (xs.drop n) (us.drop n)
 | _,_,0,r=>r
 | _,_,_+1,.nil=>.nil
 | _,_,n+1,.cons _ t=>Vals.drop n t
def RelO:Option V->Option Value->Prop
 | some v,some u=>RelV v u
 | none,none=>True
 | _,_=>False
def KV{κ:Type}:List (κ×V)->List (κ×Value)->Prop:=Paired fun(p:κ×V)(q:κ×Value)=>p.1=q.1/\RelV p.2 q.2
def kV:Key->V
 | .inl i=>.int i
 | .inr x=>.str x
inductive HO where
 | lst (xs:List V)
 | tup (xs:List V)
 | dK (kvs:List (Key×V)) | dT (kvs:List (List Key×V))
 | set (S:Int->Bool) (n:Nat)
 | ins (C dx:Addr) (fs:List (Str×V))
 | own (x:Addr)
 | xd (fs:List (Str×V))
 | met (f x:Addr)
 | rng (lo hi:Int)
 | frz (o:Obj) (u:HO)
 | tbl (ps:Array Value)
 | ext (φ:Heap->Prop)
abbrev Hp:=Addr->Option HO
def upd(H:Hp)(a:Addr)(o:HO):Hp:=fun b=>if b=a then some o else H b
theorem ai{H:Hp}{a:Addr}{o:HO}:upd H a o a=some o:=by unfold upd;rw[zB0 rfl]
theorem ay{H:Hp}{a b:Addr}{o:HO}(h:b≠a):upd H a o b=H b:=by unfold upd;rw[zA0 h]
theorem bz{H:Hp}{a b:Addr}{o u:HO}(h:H a=some o)(h':H b=some u)(d:o≠u):a≠b:=by
 intro e;subst e;rw[h]at h';exact d (zQ0 h')
theorem aO{H:Hp}{a b:Addr}{o:HO}(h:H a=some o)(h':H b=none):a≠b:=by
 intro e;subst e;rw[h]at h';cases h'
section
variable (P:Program) (w:World)
def ObjOk(H:Hp)(h:Heap)(a:Addr):HO->Prop
 | .lst xs=>xs.length<=sizeLine/\∃(its:List Value) (n:Nat),Vals xs its/\h.get? a=some { cls:=.type "list",data:=.seq its.toArray n }
 | .tup xs=>xs.length<=sizeLine/\∃its:List Value,Vals xs its/\IsTup h a its.toArray/\∃o,h.get? a=some o/\o.dict=none
 | .dK kvs=>kvs.length<=sizeLine/\(a==sysModules)=false/\∃vs,KV kvs vs/\h.DictOf (dC P w) a vs
 | .dT kvs=>kvs.length<=sizeLine/\(a==sysModules)=false/\∃xs:List (List Key×Addr×Value),
  Paired (fun(p:List Key×V)(q:List Key×Addr×Value)=>p.1=q.1/\H q.2.1=some (.tup (p.1.map kV))/\RelV p.2 q.2.2) kvs xs/\
  ∃o es ep,h.get? a=some o/\o.ExactDict/\o.data=.dict es ep/\es.toList=xs.map (entryOfKey (tupleKind (dC P w)))/\(xs.map (·.1)).Nodup
 | .set S n=>h.SetOf (intKind P w) a S n
 | .ins C dx fs=>H dx=some (.own a)/\fs.length<=1000/\dx≠a/\h.get? a=some (PySem.W.instObj C dx)/\
  ∃mA,h.Ns1 dx mA/\(∀f,RelO (fs.lookup f) (mA f))/\PySem.Within mA (fs.map (·.1))
 | .own _=>∃o,h.get? a=some o
 | .xd fs=>∃mA,h.Ns1 a mA/\∀f,RelO (fs.lookup f) (mA f)
 | .rng lo hi=>∃t u v,h.get? a=some { cls:=.type "range",data:=.fields #[.int lo t,.int hi u,.int 1 v] }
 | .frz o u=>h.get? a=some o/\ObjOk H h a u
 | .tbl ps=>h.get? a=some { cls:=.none,data:=.fields ps }
 | .met f x=>h.get? a=some (PySem.W.methodObj (.ref f) (.ref x))
 | .ext φ=>φ h/\(∃o,h.get? a=some o)/\∀h1 h2:Heap,φ h1->(∀o,h1.get? a=some o->h2.get? a=some o)->φ h2
def HOk(H:Hp)(h:Heap):Prop:=∀a o,H a=some o->ObjOk P w H h a o
end
section
variable {P:Program} {w:World} {H H':Hp} {h h':Heap} {a:Addr} {o:HO}
theorem ObjOk.lt(x:ObjOk P w H h a o):a<h.objs.size:=by
 cases o with
 | lst xs=>obtain⟨_,_,_,_,e⟩:=x;exact zN0 e
 | tup xs=>obtain⟨_,_,_,p,_⟩:=x;exact p.lt
 | dK kvs=>obtain⟨_,_,_,_,o,_,_,e,_⟩:=x;exact zN0 e
 | dT kvs=>obtain⟨_,_,_,_,o,_,_,e,_⟩:=x;exact zN0 e
 | set S n=>obtain⟨o,_,_,_,e,_⟩:=x;exact zN0 e
 | ins C dx fs=>obtain⟨_,_,_,e,_⟩:=x;exact zN0 e
 | own y=>obtain⟨_,e⟩:=x;exact zN0 e
 | xd fs=>obtain⟨_,⟨_,_,_,e,_⟩,_⟩:=x;exact zN0 e
 | rng lo hi=>obtain⟨_,_,_,e⟩:=x;exact zN0 e
 | frz ob u=>obtain⟨e,_⟩:=x;exact zN0 e
 | tbl ps=>exact zN0 (show h.get? a=some _ from x)
 | met f y=>exact zN0 (show h.get? a=some _ from x)
 | ext φ=>obtain⟨_,⟨_,e⟩,_⟩:=x;exact zN0 e
theorem Paired.mapP{α β:Type}{F G:α->β->Prop}:∀{l₁:List α}{l₂:List β},Paired F l₁ l₂->(∀a b,F a b->G a b)->Paired G l₁ l₂
 | _,_,.nil,_=>.nil
 | _,_,.cons r t,f=>.cons (f _ _ r) (Paired.mapP t f)
theorem ObjOk.stay(x:ObjOk P w H h a o)(k:∀b u,(b=a∨H b=some (.own a))->h.get? b=some u->h'.get? b=some u)
 (ho:∀b,H b=some (.own a)->H' b=some (.own a)) (ht:∀b xs,H b=some (.tup xs)->H' b=some (.tup xs)):ObjOk P w H' h' a o:=by
 induction o with
 | lst xs=>obtain⟨z,its,n,r,e⟩:=x;exact⟨z,its,n,r,k _ _ (.inl rfl) e⟩
 | tup xs=>obtain⟨z,its,r,⟨ob,e,c⟩,od,e2,d⟩:=x;exact⟨z,its,r,⟨ob,k _ _ (.inl rfl) e,c⟩,od,k _ _ (.inl rfl) e2,d⟩
 | dK kvs=>obtain⟨z,y,vs,r,ob,es,ep,e,c⟩:=x;exact⟨z,y,vs,r,ob,es,ep,k _ _ (.inl rfl) e,c⟩
 | dT kvs=>
   obtain⟨z,y,xs,r,ob,es,ep,e,c⟩:=x;exact⟨z,y,xs,Paired.mapP r fun p q z=>⟨z.1,ht _ _ z.2.1,z.2.2⟩,ob,es,ep,k _ _ (.inl rfl) e,c⟩
 | set S n=>obtain⟨ob,es,ep,t,e,c⟩:=x;exact⟨ob,es,ep,t,k _ _ (.inl rfl) e,c⟩
 | ins C dx fs=>
   obtain⟨d,z,ne,e,mA,⟨od,es,ep,e2,c⟩,r⟩:=x;exact⟨ho _ d,z,ne,k _ _ (.inl rfl) e,mA,⟨od,es,ep,k _ _ (.inr d) e2,c⟩,r⟩
 | own y=>obtain⟨ob,e⟩:=x;exact⟨ob,k _ _ (.inl rfl) e⟩
 | xd fs=>obtain⟨mA,⟨od,es,ep,e,c⟩,r⟩:=x;exact⟨mA,⟨od,es,ep,k _ _ (.inl rfl) e,c⟩,r⟩
 | rng lo hi=>obtain⟨t,u,v,e⟩:=x;exact⟨t,u,v,k _ _ (.inl rfl) e⟩
 | frz ob u ih=>obtain⟨e,q⟩:=x;exact⟨k _ _ (.inl rfl) e,ih q⟩
 | tbl ps=>
   have e:h.get? a=some { cls:=.none,data:=.fields ps }:=x;show h'.get? a=some { cls:=.none,data:=.fields ps };exact k a _ (.inl rfl) e
 | met f y=>
   have e:h.get? a=some (PySem.W.methodObj (.ref f) (.ref y)):=x;show h'.get? a=some (PySem.W.methodObj (.ref f) (.ref y));exact k a _ (.inl rfl) e
 | ext φ=>obtain⟨p,⟨o,e⟩,st⟩:=x;exact⟨st _ _ p fun o q=>k _ _ (.inl rfl) q,⟨o,k _ _ (.inl rfl) e⟩,st⟩
theorem HOk.lt(x:HOk P w H h)(e:H a=some o):a<h.objs.size:=(x a o e).lt
theorem HOk.fresh(x:HOk P w H h)(e:h.objs.size<=a):H a=none:=by
 cases q:H a with
 | none=>rfl
 | some u=>exact absurd (qK0 (x.lt q) e) (qU0 _)
theorem HOk.kept(x:HOk P w H h)(k:∀b u,h.get? b=some u->h'.get? b=some u):HOk P w H h':=fun a o e=>
 (x a o e).stay (fun b u _ q=>k b u q) (fun _ q=>q) fun _ _ q=>q
theorem HOk.laid(x:HOk P w H h)(k:∀b u,h.get? b=some u->h'.get? b=some u)(hp:h.objs.size<=a)(new:ObjOk P w (upd H a o) h' a o):HOk P w (upd H a o) h':=fun b u e=>by
 have hn:=x.fresh hp
 by_cases hb:b=a
 . subst hb;rw[ai]at e;cases e;exact new
 . rw[ay hb]at e;exact(x b u e).stay (fun c v _ q=>k c v q) (fun c q=>by rw[ay (aO q hn)];exact q) fun c xs q=>by rw[ay (aO q hn)];exact q
end
def Rd(H:Hp)(a:Addr)(u:HO):Prop:=H a=some u∨∃o,H a=some (.frz o u)
theorem Rd.ok{P:Program}{w:World}{H:Hp}{h:Heap}{a:Addr}{u:HO}(r:Rd H a u)(x:HOk P w H h):ObjOk P w H h a u:=by
 rcases r with r | ⟨o,r⟩
 . exact x a u r
 . obtain⟨_,q⟩:=x a _ r;exact q
def Mut:Option HO->Prop
 | some (.lst _)=>True
 | some (.dK _)=>True
 | some (.dT _)=>True
 | some (.set _ _)=>True
 | some (.ins _ _ _)=>True
 | some (.ext _)=>True
 | _=>False
section
variable {P:Program} {w:World} {H:Hp} {h h':Heap} {x e:Addr} {o':HO}
theorem HOk.write(ok:HOk P w H h)(mu:Mut (H x))(he:e=x∨H e=some (.own x))(k:∀b u,b≠e->h.get? b=some u->h'.get? b=some u)(heo:∃u,h'.get? e=some u)
 (new:ObjOk P w (upd H x o') h' x o'):HOk P w (upd H x o') h':=fun b u q=>by
 have nown:∀c y,H c=some (.own y)->c≠x:=fun c y r z=>by subst z;rw[r]at mu;exact mu
 have ntup:∀c xs,H c=some (.tup xs)->c≠x:=fun c xs r z=>by subst z;rw[r]at mu;exact mu
 by_cases hb:b=x
 . subst hb;rw[ai]at q;cases q;exact new
 . rw [ay hb]at q
   by_cases hbe:b=e
   . have q':H b=some (.own x):=by
      rcases he with z | z
      . exact absurd (hbe.trans z) hb
      . rw[hbe];exact z
     rw[q]at q';cases q';obtain⟨v,hv⟩:=heo;exact⟨v,by rw[hbe];exact hv⟩
   . refine (ok b u q).stay (fun c v hc r=>k c v ?_ r) (fun c r=>by rw[ay (nown c b r)];exact r) fun c xs r=>by rw[ay (ntup c xs r)];exact r
     rcases hc with rfl | hc
     . exact hbe
     . rintro rfl;rcases he with z | z
       . exact nown c b hc z
       . rw[hc]at z;cases z;exact hb rfl
end
structure Un(fs ex:List Addr)(H H':Hp)(h h':Heap):Prop where
 keep:∀b o,h.get? b=some o->H b=none->b∉fs->b∉ex->h'.get? b=some o
 slot:∀b o,h.get? b=some o->H b=none->b∈fs->b∉ex->∃sl,h'.get? b=some { o with slots:=sl }
 free:∀b o,h.get? b=some o->H b=none->b∉ex->H' b=none
 there:∀b o,h.get? b=some o->b∉ex->∃o',h'.get? b=some o'
 tups:∀b xs,H b=some (.tup xs)->H' b=some (.tup xs)
 frzs:∀b o u,H b=some (.frz o u)->H' b=some (.frz o u)
 tbls:∀b ps,H b=some (.tbl ps)->∃more,H' b=some (.tbl (ps++more))
section
variable {fs fs' ex ex':List Addr} {H H1 H2:Hp} {h h1 h2 h':Heap} {a x e:Addr} {o:HO}
theorem Un.any(u:Un fs ex H H1 h h1){b:Addr}{ob:Obj}(q:h.get? b=some ob)(n:H b=none)(hx:b∉ex):∃sl,h1.get? b=some { ob with slots:=sl }:=by
 by_cases hb:b∈fs
 . exact u.slot b ob q n hb hx
 . exact⟨ob.slots,u.keep b ob q n hb hx⟩
theorem Un.kept(k:∀b u,h.get? b=some u->h'.get? b=some u):Un fs ex H H h h':=
 ⟨fun b ob q _ _ _=>k b ob q,fun b ob q _ _ _=>⟨ob.slots,k b ob q⟩,fun _ _ _ n _=>n,fun b ob q _=>⟨ob,k b ob q⟩,fun _ _ q=>q,fun _ _ _ q=>q,fun _ ps q=>⟨#[],by rw[q];simp⟩⟩
theorem Un.refl:Un fs ex H H h h:=Un.kept fun _ _ q=>q
theorem Un.laid(k:∀b u,h.get? b=some u->h'.get? b=some u)(hp:h.objs.size<=a)(hn:H a=none):Un fs ex H (upd H a o) h h' where
 keep:=fun b u q _ _ _=>k b u q
 slot:=fun b u q _ _ _=>⟨u.slots,k b u q⟩
 free:=fun b u q n _=>by rw[ay (zV0 (qK0 (zN0 q) hp))];exact n
 there:=fun b u q _=>⟨u,k b u q⟩
 tups:=fun b xs q=>by rw[ay (aO q hn)];exact q
 frzs:=fun b u xs q=>by rw[ay (aO q hn)];exact q
 tbls:=fun b ps q=>⟨#[],by rw[ay (aO q hn),q];simp⟩
theorem Un.write(mu:Mut (H x))(he:e=x∨H e=some (.own x))(k:∀b u,b≠e->h.get? b=some u->h'.get? b=some u)(heo:∃u,h'.get? e=some u):Un fs ex H (upd H x o) h h':=by
 have hx:∀b,H b=none->b≠x:=fun b n z=>by subst z;rw[n]at mu;exact mu
 have hb:∀b,H b=none->b≠e:=fun b n z=>by
  subst z;rcases he with r | r
  . exact hx b n r
  . rw[n]at r;cases r
 have hm:∀b u,H b=some u->¬ Mut (some u)->b≠x:=fun b u q nm z=>by subst z;rw[q]at mu;exact nm mu
 refine ⟨fun b u q n _ _=>k b u (hb b n) q,fun b u q n _ _=>⟨u.slots,k b u (hb b n) q⟩,fun b u q n _=>by rw[ay (hx b n)];exact n,fun b u q _=>?_,
  fun b xs q=>by rw[ay (hm b _ q fun z=>z)];exact q,fun b u xs q=>by rw[ay (hm b _ q fun z=>z)];exact q,fun b ps q=>⟨#[],by rw[ay (hm b _ q fun z=>z),q];simp⟩⟩
 by_cases hbe:b=e
 . subst hbe;exact heo
 . exact⟨u,k b u hbe q⟩
end
def trk(h:Heap)(H:Hp):List Addr:=(List.range h.objs.size).filter fun a=>(H a).isSome
def sJ(h:Heap)(H:Hp):Heap:=PySem.W.hideAll h (trk h H)
theorem yZ(h:Heap)(H:Hp):(sJ h H).objs.size=h.objs.size:=PySem.W.hideAll_size _ _
theorem BE{h:Heap}{H:Hp}{b:Addr}{o:Obj}(e:h.get? b=some o)(n:H b=none):(sJ h H).get? b=some o:=
 PySem.W.hideAll_get _ e fun hm=>by
  have q:(H b).isSome=true:=(List.mem_filter.mp hm).2;rw[n]at q;simp at q
theorem Dh{h:Heap}{H:Hp}{b:Addr}{o:Obj}(e:(sJ h H).get? b=some o):h.get? b=some o/\H b=none:=by
 have e':h.get? b=some o:=PySem.W.of_hideAll (trk h H) e;refine⟨e',?_⟩;cases q:H b with
 | none=>rfl
 | some x=>
   have hm:b∈trk h H:=List.mem_filter.mpr ⟨List.mem_range.mpr (zN0 e'),by simp [q]⟩;have z:(sJ h H).get? b=none:=PySem.W.hideAll_none (trk h H) hm;rw[z]at e;cases e
structure Mod(K:W.Frag)(mg:Str->Option Value)(base:Heap):Prop where
 kin:K.In base
 glob:base.Ns mainGlobals mg
 blt:∃mb,base.Ns builtinsNs mb/\∀x:Str,x≠"__name__" -> mb x=bootBuiltins x
 nolimit:base.NoLimit
structure Cx where
 prog:Program
 w:World
 K:W.Frag
 mg:Str->Option Value
 base:Heap
 A:Around
 N:List Str
 s₀:Shared
 H₀:Hp
 env:Env
 outer:List Env
 stack:List Env
 ex:List Addr
 fn:Str->Bool
 calm:Bool
 pn:List (Addr×Obj)
 xe:Value->Shared->Prop
def frs(l:List Env):List Addr:=l.filterMap (·.frame)
abbrev Cx.fs(X:Cx):List Addr:=frs X.outer
def Vis(sc:Scope)(x:Str):Prop:=sc.names.lookup x=some .local∨sc.names.lookup x=some .cell∨sc.names.lookup x=some .free
def Loc(sc:Scope)(x:Str):Prop:=sc.names.lookup x=some .local∨sc.names.lookup x=some .cell
def Look(env:Env)(h:Heap)(m:Str->Option Value)(x:Str)(u:Value):Prop:=
 (env.kindOf x=some .local/\m x=some u)∨((env.kindOf x=some .cell∨env.kindOf x=some .free)/\∃c,env.cells.lookup x=some c/\h.IsCell c (some u))
structure Cx.Ok(X:Cx):Prop where
 mod:Mod X.K X.mg X.base
 kind:X.env.scope.kind=.function
 glob:X.env.globals=mainGlobals
 blt:X.env.builtins=builtinsNs
 above:X.s₀.heap.objs.size<=X.env.locals
 inj:∀x y c,X.env.cells.lookup x=some c->X.env.cells.lookup y=some c->x=y
 has:∀x,(X.env.kindOf x=some .cell∨X.env.kindOf x=some .free)->∃c,X.env.cells.lookup x=some c
 cab:∀x c,X.fn x=true->X.env.cells.lookup x=some c->X.s₀.heap.objs.size<=c
 hd:X.calm=true->X.A.handled=none
 frames:X.A.frames=some X.stack
 stk:X.stack=X.outer∨(X.stack=X.env::X.outer/\X.env.frame=some X.env.locals)
 exf:∀b∈X.ex,b≠X.env.locals/\∀x c,X.env.cells.lookup x=some c->c≠b
 bs:∀b o,X.base.get? b=some o->X.s₀.heap.get? b=some o/\X.H₀ b=none
 bsz:X.base.objs.size<=X.s₀.heap.objs.size
 noex:∀b o,X.base.get? b=some o->b∉X.ex
 exfs:∀b∈X.ex,b∉X.fs
 funs:X.s₀.heap.FunFrames X.base X.outer
 frf:∀b∈X.fs,X.H₀ b=none
structure Inv(X:Cx)(pins:List (Addr×Obj))(σ:List (Option V))(H:Hp)(s:Shared):Prop where
 ok:X.Ok
 os:s.os=X.s₀.os
 bare:AllBare s.gens
 base:Un X.fs X.ex X.H₀ H X.s₀.heap s.heap
 loc:∃m,s.heap.Ns X.env.locals m/\∀(i:Nat)(x:Str)(v:V),X.N[i]?=some x->σ[i]?=some (some v)->Vis X.env.scope x->∃u,RelV v u/\Look X.env s.heap m x u
 cell:∀x c,X.env.cells.lookup x=some c->∃v,s.heap.IsCell c v
 free:H X.env.locals=none
 freeC:∀x c,X.env.cells.lookup x=some c->H c=none
 pin:∀p∈X.pn++pins,s.heap.get? p.1=some p.2/\H p.1=none/\p.1≠X.env.locals/\p.1∉X.fs/\∀v,p.2.data≠.cell v
 hok:HOk X.prog X.w H s.heap
 len:σ.length=X.N.length
section
variable {X:Cx} {pins:List (Addr×Obj)} {σ:List (Option V)} {H H':Hp} {s:Shared} {h':Heap}
theorem Cx.Ok.nofr(ok:X.Ok){b:Addr}{o:Obj}(e:X.base.get? b=some o):b∉X.fs:=fun hb=>by
 have:=(ok.funs.mem hb).1
 rw[e]at this;cases this
theorem Inv.bs(I:Inv X pins σ H s):∀b o,X.base.get? b=some o->s.heap.get? b=some o/\H b=none:=fun b o e=>
 ⟨I.base.keep b o (I.ok.bs b o e).1 (I.ok.bs b o e).2 (I.ok.nofr e) (I.ok.noex b o e),I.base.free b o (I.ok.bs b o e).1 (I.ok.bs b o e).2 (I.ok.noex b o e)⟩
theorem Inv.bk(I:Inv X pins σ H s):∀b o,X.base.get? b=some o->s.heap.get? b=some o:=fun b o e=>(I.bs b o e).1
theorem Inv.mod(I:Inv X pins σ H s):Mod X.K X.mg X.base:=I.ok.mod
theorem Inv.kIn(I:Inv X pins σ H s):X.K.In s.heap:=I.ok.mod.kin.keeps I.bk
theorem Inv.lt(I:Inv X pins σ H s):X.env.locals<s.heap.objs.size:=let⟨_,hn,_⟩:=I.loc;hn.lt
theorem Inv.sz(I:Inv X pins σ H s):X.s₀.heap.objs.size<=s.heap.objs.size:=qC0 I.ok.above (Nat.le_of_lt I.lt)
theorem Inv.nofs(I:Inv X pins σ H s){a:Addr}(h:s.heap.objs.size<=a):a∉X.fs:=fun hb=>by
 obtain⟨_,o,ho,_⟩:=I.ok.funs.mem hb;exact absurd (qK0 (zN0 ho) (qC0 I.sz h)) (qU0 _)
theorem Inv.cne(I:Inv X pins σ H s):∀x c,X.env.cells.lookup x=some c->c≠X.env.locals:=fun x c e z=>by
 obtain⟨v,o,ho,hd⟩:=I.cell x c e;obtain⟨m,⟨o',es,ep,ho',hd',_⟩,_⟩:=I.loc;rw[z,ho']at ho;cases ho;rw[hd']at hd;cases hd
theorem Inv.funs(I:Inv X pins σ H s):s.heap.FunFrames X.base X.outer:=by
 have all:∀(l:List Env),(∀b∈frs l,b∈X.fs)->X.s₀.heap.FunFrames X.base l->s.heap.FunFrames X.base l:=by
  intro l
  induction l with
  | nil=>intro _ _;trivial
  | cons env r ih=>
    intro hs hl;obtain⟨hk,⟨L,o,hf,hn,ho,hd⟩,hr⟩:=hl;have hL:L∈X.fs:=hs L (by unfold frs;rw[List.filterMap_cons,hf];exact qP0);obtain⟨sl,e⟩:=I.base.slot L o ho (I.ok.frf L hL) hL fun z=>I.ok.exfs L z hL
    exact⟨hk,⟨L,_,hf,hn,e,hd⟩,ih (fun b hb=>hs b (by unfold frs;rw[List.filterMap_cons,hf];exact qR0 _ hb)) hr⟩
 exact all X.outer (fun _ hb=>hb) I.ok.funs
theorem Inv.stack(I:Inv X pins σ H s):s.heap.FunFrames X.base X.stack:=by
 rcases I.ok.stk with e | ⟨e,hf⟩
 . rw[e];exact I.funs
 . rw[e];obtain⟨m,hn,_⟩:=I.loc;refine .cons (by rw[I.ok.kind];decide) hf hn ?_ I.funs;exact Heap.get?_none_of_le (qC0 I.ok.bsz I.ok.above)
theorem Inv.stkSub(I:Inv X pins σ H s):∀b∈frs X.stack,b∈X.env.locals::X.fs:=fun b hb=>by
 rcases I.ok.stk with e | ⟨e,hf⟩
 . rw[e]at hb;exact qR0 _ hb
 . rw[e]at hb;unfold frs at hb;rw[List.filterMap_cons,hf]at hb;exact hb
theorem Inv.stkFree(I:Inv X pins σ H s):∀b∈frs X.stack,H b=none:=fun b hb=>by
 rcases qD0 (I.stkSub b hb)with e | hb
 . rw[e];exact I.free
 . obtain⟨_,o,ho,_⟩:=I.ok.funs.mem hb;exact I.base.free b o ho (I.ok.frf b hb) fun z=>I.ok.exfs b z hb
theorem Inv.step{g':Array GenState}{t':Nat}{d':Drawn}{ch:List Addr}(I:Inv X pins σ H s)
 (hch:∀b∈ch,(b∈X.ex∨X.s₀.heap.objs.size<=b)/\b≠X.env.locals/\(∀x c,X.env.cells.lookup x=some c->c≠b)/\∀p∈X.pn++pins,p.1≠b)
 (keep:∀b o,b≠X.env.locals->b∉X.fs->b∉ch->s.heap.get? b=some o->H b=none->h'.get? b=some o)
 (slot:∀b o,b≠X.env.locals->b∈X.fs->b∉ch->s.heap.get? b=some o->H b=none->∃sl,h'.get? b=some { o with slots:=sl }) (free:∀b o,b∉ch->s.heap.get? b=some o->H b=none->H' b=none)
 (there:∀b o,b∉ch->s.heap.get? b=some o->∃o',h'.get? b=some o')
 (tups:∀b xs,H b=some (.tup xs)->H' b=some (.tup xs)) (frzs:∀b o u,H b=some (.frz o u)->H' b=some (.frz o u)) (tbls:∀b ps,H b=some (.tbl ps)->∃more,H' b=some (.tbl (ps++more)))
 (ns:∀m,s.heap.Ns X.env.locals m->h'.Ns X.env.locals m) (hok:HOk X.prog X.w H' h') (hg:AllBare g') :
 Inv X pins σ H' { s with heap:=h',gens:=g',drawn:=d',toks:=t' }:=by
 have neL:∀b o,X.s₀.heap.get? b=some o->b≠X.env.locals:=fun b o e=>zV0 (qK0 (zN0 e) I.ok.above)
 have neC:∀b o,X.s₀.heap.get? b=some o->b∉X.ex->b∉ch:=fun b o e hx hb=>by
  rcases(hch b hb).1 with z | z
  . exact hx z
  . exact absurd (qK0 (zN0 e) z) (qU0 _)
 have cellK:∀x c,X.env.cells.lookup x=some c->∀v,s.heap.IsCell c v->h'.IsCell c v:=fun x c e v ⟨o,ho,hd⟩=>by
  have nch:c∉ch:=fun z=>(hch c z).2.2.1 x c e rfl
  by_cases hc:c∈X.fs
  . obtain⟨sl,q⟩:=slot c o (I.cne x c e) hc nch ho (I.freeC x c e);exact⟨_,q,hd⟩
  . exact⟨o,keep c o (I.cne x c e) hc nch ho (I.freeC x c e),hd⟩
 refine⟨I.ok,I.os,hg,⟨fun b o e n hb hx=>?_,fun b o e n hb hx=>?_,fun b o e n hx=>?_,fun b o e hx=>?_,fun b xs e=>tups b xs (I.base.tups b xs e),fun b o xs e=>frzs b o xs (I.base.frzs b o xs e),fun b ps e=>?_⟩,?_,fun x c e=>?_,?_,fun x c e=>?_,fun p hp=>?_,hok,I.len⟩
 . exact keep b o (neL b o e) hb (neC b o e hx) (I.base.keep b o e n hb hx) (I.base.free b o e n hx)
 . obtain⟨sl,e1⟩:=I.base.slot b o e n hb hx;obtain⟨sl',e2⟩:=slot b _ (neL b o e) hb (neC b o e hx) e1 (I.base.free b o e n hx);exact⟨sl',e2⟩
 . obtain⟨o',e1⟩:=I.base.there b o e hx;exact free b o' (neC b o e hx) e1 (I.base.free b o e n hx)
 . obtain⟨o',e1⟩:=I.base.there b o e hx;exact there b o' (neC b o e hx) e1
 . obtain⟨m1,e1⟩:=I.base.tbls b ps e;obtain⟨m2,e2⟩:=tbls b _ e1;exact⟨m1++m2,by rw[e2,Array.append_assoc]⟩
 . obtain ⟨m,hn,hl⟩:=I.loc;refine⟨m,ns m hn,fun i x v e1 e2 e3=>?_⟩;obtain⟨u,r,l⟩:=hl i x v e1 e2 e3;refine⟨u,r,?_⟩;rcases l with l | ⟨k,c,e,z⟩
   . exact .inl l
   . exact .inr ⟨k,c,e,cellK x c e _ z⟩
 . obtain⟨v,z⟩:=I.cell x c e;exact⟨v,cellK x c e v z⟩
 . obtain⟨m,⟨o,_,_,ho,_⟩,_⟩:=I.loc;exact free _ o (fun z=>(hch _ z).2.1 rfl) ho I.free
 . obtain⟨v,o,ho,hd⟩:=I.cell x c e;exact free c o (fun z=>(hch c z).2.2.1 x c e rfl) ho (I.freeC x c e)
 . obtain ⟨e,n,ne,nf,d⟩:=I.pin p hp;have nch:p.1∉ch:=fun z=>(hch p.1 z).2.2.2 p hp rfl
   exact⟨keep p.1 p.2 ne nf nch e n,free p.1 p.2 nch e n,ne,nf,d⟩
theorem Inv.un{t':Nat}(I:Inv X pins σ H s)(u:Un X.fs [] H H' s.heap h')(hok:HOk X.prog X.w H' h'):Inv X pins σ H' { s with heap:=h',toks:=t' }:=by
 obtain ⟨m,⟨o,es,ep,ho,r⟩,_⟩:=id I.loc;obtain⟨sl,hL⟩:=u.any ho I.free (by simp);exact I.step (g':=s.gens) (d':=s.drawn) (ch:=[]) (fun _ z=>nomatch z) (fun b o _ hb _ e n=>u.keep b o e n hb (by simp)) (fun b o _ hb _ e n=>u.slot b o e n hb (by simp)) (fun b o _ e n=>u.free b o e n (by simp)) (fun b o _ e=>u.there b o e (by simp)) u.tups u.frzs u.tbls (fun m' hm=>by
  obtain⟨o',es',ep',ho',r'⟩:=hm;rw[ho]at ho';cases ho';exact⟨_,es',ep',hL,r'⟩) hok I.bare
theorem Inv.call{g':Array GenState}{t':Nat}{d':Drawn}{ch:List Addr}(I:Inv X pins σ H s)(u:Un (frs X.stack) ch H H' s.heap h')(hok:HOk X.prog X.w H' h')(hg:AllBare g')
 (hch:∀b∈ch,(b∈X.ex∨X.s₀.heap.objs.size<=b)/\b≠X.env.locals/\(∀x c,X.env.cells.lookup x=some c->c≠b)/\∀p∈X.pn++pins,p.1≠b) :
 Inv X pins σ H' { s with heap:=h',gens:=g',drawn:=d',toks:=t' }:=by
 obtain⟨m,⟨o,es,ep,ho,r⟩,_⟩:=id I.loc;obtain⟨sl,hL⟩:=u.any ho I.free fun z=>(hch _ z).2.1 rfl
 exact I.step (ch:=ch) hch (fun b o hL hb hc e n=>u.keep b o e n (fun z=>(qD0 (I.stkSub b z)).elim hL hb) hc) (fun b o _ _ hc e n=>u.any e n hc) (fun b o hc e n=>u.free b o e n hc) (fun b o hc e=>u.there b o e hc) u.tups u.frzs u.tbls (fun m' hm=>by
  obtain⟨o',es',ep',ho',r'⟩:=hm;rw[ho]at ho';cases ho';exact⟨_,es',ep',hL,r'⟩) hok hg
theorem Inv.turned{t':Nat}{it:Addr}(I:Inv X pins σ H s)(k:∀b o,b≠it->s.heap.get? b=some o->h'.get? b=some o)(hn:H it=none)(hL:it≠X.env.locals)
 (h1:it∈X.ex∨X.s₀.heap.objs.size<=it) (h2:∀x c,X.env.cells.lookup x=some c->c≠it) (h3:∀p∈X.pn++pins,p.1≠it):Inv X pins σ H { s with heap:=h',toks:=t' }:=by
 have nit:∀b u,H b=some u->b≠it:=fun b u e z=>by rw[z,hn]at e;cases e
 refine I.step (g':=s.gens) (d':=s.drawn) (ch:=[it]) (fun b hb=>?_) (fun b o _ _ hc e _=>k b o (fun z=>hc (by simp [z])) e) (fun b o _ _ hc e _=>⟨o.slots,k b o (fun z=>hc (by simp [z])) e⟩) (fun _ _ _ _ n=>n)
  (fun b o hc e=>⟨o,k b o (fun z=>hc (by simp [z])) e⟩) (fun _ _ e=>e) (fun _ _ _ e=>e) (fun b ps e=>⟨#[],by rw[e];simp⟩) (fun m hm=>?_) (fun b u e=>?_) I.bare
 . have e:b=it:=by simpa using hb
   subst e;exact⟨h1,hL,h2,h3⟩
 . obtain⟨o,es,ep,ho,r⟩:=hm;exact⟨o,es,ep,k _ o (Ne.symm hL) ho,r⟩
 . refine (I.hok b u e).stay (fun c v hc q=>k c v ?_ q) (fun _ q=>q) fun _ _ q=>q
   rcases hc with z | z
   . rw[z];exact nit b u e
   . exact nit c _ z
theorem Inv.tok(I:Inv X pins σ H s)(t:Nat):Inv X pins σ H { s with toks:=t }:=I.un (h':=s.heap) (t':=t) Un.refl I.hok
theorem Inv.kept{t':Nat}(I:Inv X pins σ H s)(k:∀b u,s.heap.get? b=some u->h'.get? b=some u):Inv X pins σ H { s with heap:=h',toks:=t' }:=I.un (Un.kept k) (I.hok.kept k)
theorem Inv.laid{a:Addr}{o:HO}{t':Nat}(I:Inv X pins σ H s)(k:∀b u,s.heap.get? b=some u->h'.get? b=some u)(hp:s.heap.objs.size<=a)(new:ObjOk X.prog X.w (upd H a o) h' a o) :
 Inv X pins σ (upd H a o) { s with heap:=h',toks:=t' }:=I.un (Un.laid k hp (I.hok.fresh hp)) (I.hok.laid k hp new)
theorem Inv.write{x e:Addr}{o:HO}{t':Nat}(I:Inv X pins σ H s)(mu:Mut (H x))(he:e=x∨H e=some (.own x))(k:∀b u,b≠e->s.heap.get? b=some u->h'.get? b=some u)(heo:∃u,h'.get? e=some u)
 (new:ObjOk X.prog X.w (upd H x o) h' x o):Inv X pins σ (upd H x o) { s with heap:=h',toks:=t' }:=I.un (Un.write mu he k heo) (I.hok.write mu he k heo new)
theorem Inv.pins_of{pins':List (Addr×Obj)}(I:Inv X pins σ H s)(h:∀p∈pins',s.heap.get? p.1=some p.2/\H p.1=none/\p.1≠X.env.locals/\p.1∉X.fs/\∀v,p.2.data≠.cell v):Inv X pins' σ H s:=
 ⟨I.ok,I.os,I.bare,I.base,I.loc,I.cell,I.free,I.freeC,fun p hp=>(qJ0 hp).elim (fun z=>I.pin p (List.mem_append_left _ z)) (h p),I.hok,I.len⟩
theorem ue{N:List Str}(hN:N.Nodup){i j:Nat}{x:Str}(a:N[i]?=some x)(b:N[j]?=some x):i=j:=by
 obtain⟨h1,e1⟩:=zY0 a;obtain⟨h2,e2⟩:=zY0 b;exact(List.getElem_inj hN).mp (e1.trans e2.symm)
theorem qK{M:Model}{A:Around}{E:Value->Shared->Prop}{i:Nat}{x:Str}{v:V}{u:Value}{Q:Unit->Shared->Prop}(I:Inv X pins σ H s)(hN:X.N.Nodup)(hi:X.N[i]?=some x)(hx:Loc X.env.scope x)(r:RelV v u)
 (h:∀s',Inv X pins (σ.set i (some v)) H s'->(∃a,Heap.SameBut a s.heap s'.heap/\(a=X.env.locals∨X.env.cells.lookup x=some a))->Q () s') (hf:X.fn x=true∨X.env.scope.names.lookup x=some .local:=by first | exact .inl rfl | exact .inr rfl | assumption):wpAny M A (storeName X.env x u) Q E s:=by
 obtain⟨m,hn,hl⟩:=id I.loc;have hcls:(X.env.scope.kind==.class||(X.env.scope.kind==.module&&X.env.locals != X.env.globals))=false:=by rw[I.ok.kind];rfl
 have hiσ:i<σ.length:=by rw[I.len];exact(zY0 hi).1
 have cne:=I.cne;have tracked:∀{a:Addr}{h':Heap},(∃o,s.heap.get? a=some o/\H a=none)->Heap.SameBut a s.heap h'->HOk X.prog X.w H h':=fun{a h'} ha hs b ob e=>by
  obtain⟨_,_,hfree⟩:=ha;refine(I.hok b ob e).stay (fun c w' hc q=>(hs.2 c ?_).trans q) (fun _ q=>q) fun _ _ q=>q
  rintro rfl;rcases hc with rfl | hc
  . rw[hfree]at e;cases e
  . rw[hfree]at hc;cases hc
 rcases hx with hk | hk
 . refine wpAny_storeName_local hk hn (fun h' hn' hs=>?_) hcls;obtain⟨oL,_,_,hoL,_⟩:=id hn;refine h _ ⟨I.ok,I.os,I.bare,⟨fun b o e n hb hx=>?_,fun b o e n hb hx=>?_,I.base.free,fun b o e hx=>?_,I.base.tups,I.base.frzs,I.base.tbls⟩,⟨_,hn',fun j y v' e1 e2 e3=>?_⟩,fun y c e=>?_,I.free,I.freeC,fun p hp=>?_,tracked ⟨oL,hoL,I.free⟩ hs,by simpa using I.len⟩ ⟨_,hs,.inl rfl⟩
   . exact(hs.2 b (zV0 (qK0 (zN0 e) I.ok.above))).trans (I.base.keep b o e n hb hx)
   . obtain⟨sl,e1⟩:=I.base.slot b o e n hb hx;exact⟨sl,(hs.2 b (zV0 (qK0 (zN0 e) I.ok.above))).trans e1⟩
   . obtain⟨o',e1⟩:=I.base.there b o e hx;exact⟨o',(hs.2 b (zV0 (qK0 (zN0 e) I.ok.above))).trans e1⟩
   . by_cases hj:j=i
     . subst hj;rw[hi]at e1;cases e1;rw[List.getElem?_set_self hiσ]at e2;cases e2;exact⟨u,r,.inl ⟨hk,by simp⟩⟩
     . rw [List.getElem?_set_ne (Ne.symm hj)]at e2;obtain⟨u',r',q⟩:=hl j y v' e1 e2 e3;refine⟨u',r',?_⟩;rcases q with⟨k,e⟩ | ⟨k,c,e,z⟩
       . refine .inl ⟨k,?_⟩
         have:y≠x:=fun e=>hj (ue hN e1 (e▸hi))
         simp [this,e]
       . exact .inr ⟨k,c,e,z.sameBut hs (cne y c e)⟩
   . obtain⟨w',z⟩:=I.cell y c e;exact⟨w',z.sameBut hs (cne y c e)⟩
   . obtain⟨e,n,ne,nf,d⟩:=I.pin p hp;exact⟨(hs.2 p.1 ne).trans e,n,ne,nf,d⟩
 . have hfn:X.fn x=true:=by
    rcases hf with z | z
    . exact z
    . rw[z]at hk;cases hk
   obtain⟨c,hc⟩:=I.ok.has x (.inl hk);obtain⟨w',z⟩:=I.cell x c hc;refine wpAny_storeName_cell I.ok.kind hk hc z (fun h' hc' hs=>?_);obtain⟨oc,hoc,hocd⟩:=id z;refine h { s with heap:=h' } ⟨I.ok,I.os,I.bare,⟨fun b o e n hb hx=>?_,fun b o e n hb hx=>?_,I.base.free,fun b o e hx=>?_,I.base.tups,I.base.frzs,I.base.tbls⟩,⟨m,hn.sameBut hs (Ne.symm (cne x c hc)),fun j y v' e1 e2 e3=>?_⟩,fun y c' e=>?_,I.free,I.freeC,fun p hp=>?_,tracked ⟨oc,hoc,I.freeC x c hc⟩ hs,by simpa using I.len⟩ ⟨c,hs,.inr hc⟩
   . exact(hs.2 b (zV0 (qK0 (zN0 e) (I.ok.cab x c hfn hc)))).trans (I.base.keep b o e n hb hx)
   . obtain⟨sl,e1⟩:=I.base.slot b o e n hb hx;exact⟨sl,(hs.2 b (zV0 (qK0 (zN0 e) (I.ok.cab x c hfn hc)))).trans e1⟩
   . obtain⟨o',e1⟩:=I.base.there b o e hx;exact⟨o',(hs.2 b (zV0 (qK0 (zN0 e) (I.ok.cab x c hfn hc)))).trans e1⟩
   . by_cases hj:j=i
     . subst hj;rw[hi]at e1;cases e1;rw[List.getElem?_set_self hiσ]at e2;cases e2;exact⟨u,r,.inr ⟨.inl hk,c,hc,hc'⟩⟩
     . rw [List.getElem?_set_ne (Ne.symm hj)]at e2;obtain⟨u',r',q⟩:=hl j y v' e1 e2 e3;refine⟨u',r',?_⟩;rcases q with q | ⟨k,c',e,z'⟩
       . exact .inl q
       . refine .inr ⟨k,c',e,z'.sameBut hs ?_⟩;rintro rfl;exact hj (ue hN e1 (I.ok.inj _ _ _ e hc▸hi))
   . by_cases hcc:c'=c
     . subst hcc;exact⟨_,hc'⟩
     . obtain⟨w2,z2⟩:=I.cell y c' e;exact⟨w2,z2.sameBut hs hcc⟩
   . obtain⟨e,n,ne,nf,d⟩:=I.pin p hp;refine⟨(hs.2 p.1 ?_).trans e,n,ne,nf,d⟩;intro q;rw[q,hoc]at e;have q':oc=p.2:=zQ0 e;exact d w' (by rw[←q'];exact hocd)
theorem lq{M:Model}{A:Around}{E:Value->Shared->Prop}{i:Nat}{x:Str}{v:V}{u:Value}{Q:Unit->Shared->Prop}(I:Inv X pins σ H s)(hN:X.N.Nodup)(hi:X.N[i]?=some x)(hx:Loc X.env.scope x)(r:RelV v u)
 (h:∀s',Inv X pins (σ.set i (some v)) H s'->Q () s') (hf:X.fn x=true∨X.env.scope.names.lookup x=some .local:=by first | exact .inl rfl | exact .inr rfl | assumption):wpAny M A (storeName X.env x u) Q E s:=
 qK I hN hi hx r (fun s' I' _=>h s' I') hf
theorem Inv.call'{s':Shared}{ch:List Addr}(I:Inv X pins σ H s)(ho:s'.os=s.os)(u:Un (frs X.stack) ch H H' s.heap s'.heap)(hok:HOk X.prog X.w H' s'.heap)(hg:AllBare s'.gens)
 (hch:∀b∈ch,(b∈X.ex∨X.s₀.heap.objs.size<=b)/\b≠X.env.locals/\(∀x c,X.env.cells.lookup x=some c->c≠b)/\∀p∈X.pn++pins,p.1≠b):Inv X pins σ H' s':=by
 obtain⟨h',g',d',t',o'⟩:=s';have e:o'=s.os:=ho;subst e;exact I.call (g':=g') (t':=t') (d':=d') u hok hg hch
end
abbrev XK:=Value->Option Addr->Hp->Prop
abbrev St:=List (Option V)
abbrev VK:=V->Hp->Prop
abbrev TE:=St->Hp->VK->Prop
abbrev TT:=St->Hp->(Bool->Hp->Prop)->Prop
abbrev TA:=St->Hp->(List V->Hp->Prop)->Prop
structure Ends where
 nx:St->Hp->Prop
 rt:VK
 bk:St->Hp->Prop:=fun _ _=>False
 ct:St->Hp->Prop:=fun _ _=>False
abbrev TS:=Ends->St->Hp->Prop
def EP(X:Cx)(pins:List (Addr×Obj))(σ:St)(Q:VK)(u:Value)(s':Shared):Prop:=∃v H',Inv X pins σ H' s'/\RelV v u/\Q v H'
def TP(X:Cx)(pins:List (Addr×Obj))(σ:St)(Q:Bool->Hp->Prop)(b:Bool)(s':Shared):Prop:=∃H',Inv X pins σ H' s'/\Q b H'
def AP(X:Cx)(pins:List (Addr×Obj))(σ:St)(Q:List V->Hp->Prop)(us:List Value)(s':Shared):Prop:=∃vs H',Inv X pins σ H' s'/\Vals vs us/\Q vs H'
def SP(X:Cx)(pins:List (Addr×Obj))(D:Ends)(f:Flow)(s':Shared):Prop:=
 match f with
 | .next=>∃ σ' H',Inv X pins σ' H' s'/\D.nx σ' H'
 | .brk=>∃ σ' H',Inv X pins σ' H' s'/\D.bk σ' H'
 | .cont=>∃ σ' H',Inv X pins σ' H' s'/\D.ct σ' H'
 | .ret u=>∃v σ' H',Inv X pins σ' H' s'/\RelV v u/\D.rt v H'
def PE(X:Cx)(e:Expr)(t:TE):Prop:=
 ∀(pins:List (Addr×Obj))(s:Shared)(σ:St)(H:Hp)(Q:VK),Inv X pins σ H s->t σ H Q->wpAny (model X.prog X.w) X.A (eval e X.env) (EP X pins σ Q) X.xe s
def PT(X:Cx)(e:Expr)(t:TT):Prop:=
 ∀(pins:List (Addr×Obj))(s:Shared)(σ:St)(H:Hp)(Q:Bool->Hp->Prop),Inv X pins σ H s->t σ H Q->wpAny (model X.prog X.w) X.A (isTrue e X.env (eval e X.env)) (TP X pins σ Q) X.xe s
def PW(X:Cx)(e:Expr)(t:TT):Prop:=
 ∀(whole:Sem Value)(pins:List (Addr×Obj))(s:Shared)(σ:St)(H:Hp)(Q:Bool->Hp->Prop),Inv X pins σ H s->t σ H Q->wpAny (model X.prog X.w) X.A (isTrue e X.env whole) (TP X pins σ Q) X.xe s
theorem PW.pt{X:Cx}{e:Expr}{t:TT}(h:PW X e t):PT X e t:=h _
def PA(X:Cx)(es:List Expr)(t:TA):Prop:=
 ∀(pos:Pos)(pins:List (Addr×Obj))(s:Shared)(σ:St)(H:Hp)(Q:List V->Hp->Prop),Inv X pins σ H s->t σ H Q->wpAny (model X.prog X.w) X.A (spliced (backTo pos (starEach es X.env))) (AP X pins σ Q) X.xe s
def PS(X:Cx)(st:Stmt)(t:TS):Prop:=
 ∀(pins:List (Addr×Obj))(s:Shared)(σ:St)(H:Hp)(D:Ends),Inv X pins σ H s->t D σ H->wpAny (model X.prog X.w) X.A (exec st X.env) (SP X pins D) X.xe s
def PSs(X:Cx)(st:List Stmt)(t:TS):Prop:=
 ∀(pins:List (Addr×Obj))(s:Shared)(σ:St)(H:Hp)(D:Ends),Inv X pins σ H s->t D σ H->wpAny (model X.prog X.w) X.A (execs st X.env) (SP X pins D) X.xe s
theorem thn{α:Type}{t:Sem α}{Q Q':α->Shared->Prop}{M:Model}{A:Around}{E:Value->Shared->Prop}{s:Shared}(h:wpAny M A t Q E s)(hQ:∀a s,Q a s->Q' a s):wpAny M A t Q' E s:=wpAny_mono h hQ fun _ _ x=>x
section
variable {X:Cx}
def Cq(i:Nat):TE:=fun σ H Q=>∃v,σ[i]?=some (some v)/\Q v H
def tC(v:V):TE:=fun _ H Q=>Q v H
theorem EA {i:Nat} {x:Str} {pos:Pos} (hN:X.N[i]?=some x) (hv:Vis X.env.scope x) (hd:(x==("__debug__":Str))=false:=by decide) (hcd:(x==("__classdict__":Str))=false:=by decide):PE X (.Name x pos) (Cq i):=by
 intro pins s σ H Q I h;obtain⟨v,e,h⟩:=h;obtain⟨m,hn,hl⟩:=I.loc;obtain⟨u,r,l⟩:=hl i x v hN e hv;have fin:EP X pins σ Q u s:=⟨v,H,I,r,h⟩
 rcases l with⟨hk,hm⟩ | ⟨hk,c,hc,hcell⟩
 . exact wpAny_Name (wpAny_loadName_local I.ok.kind hk hn hm fin) hd
 . rcases hk with hk | hk
   . exact wpAny_Name (wpAny_loadName_cell I.ok.kind hk hc hcell fin) hd
   . exact wpAny_Name (wpAny_loadName_free I.ok.kind hk hc hcell fin hcd) hd
theorem af{i j pos}:PE X (.Constant (.int i) j pos) (tC (.int i)):=fun _ _ _ H _ I h=>wpAny_Constant_int ⟨.int i,H,I.tok _,⟨_,rfl⟩,h⟩
theorem lN{b j pos}:PE X (.Constant (.bool b) j pos) (tC (.bl b)):=fun _ _ _ H _ I h=>Constant_bool ⟨.bl b,H,I,rfl,h⟩
theorem pR{j pos}:PE X (.Constant .none j pos) (tC .non):=fun _ _ _ H _ I h=>Constant_none ⟨.non,H,I,rfl,h⟩
theorem aR{x j pos}:PE X (.Constant (.str x) j pos) (tC (.str x)):=fun _ _ _ H _ I h=>Calls.Constant_str ⟨.str x,H,I.tok _,⟨_,rfl⟩,h⟩
def Gl(X:Cx)(x:Str):Prop:=X.env.kindOf x=some .globalImplicit
theorem sF{E:Value->Shared->Prop}{pins:List (Addr×Obj)}{s:Shared}{σ:St}{H:Hp}{x:Str}{u:Value}{pos:Pos}{Q:Value->Shared->Prop}(I:Inv X pins σ H s)(hg:Gl X x)(hm:X.mg x=some u)(h:Q u s)
 (hd:(x==("__debug__":Str))=false:=by decide):wpAny (model X.prog X.w) X.A (eval (.Name x pos) X.env) Q E s:=
 Calls.Name_function_global I.ok.kind hg (Calls.loadGlobal_global (by rw[I.ok.glob];exact I.mod.glob.keeps I.bk) hm h) hd
theorem jh{E:Value->Shared->Prop}{pins:List (Addr×Obj)}{s:Shared}{σ:St}{H:Hp}{x:Str}{u:Value}{pos:Pos}{Q:Value->Shared->Prop}(I:Inv X pins σ H s)(hg:Gl X x)(hm:X.mg x=none)(hv:bootBuiltins x=some u)(h:Q u s)
 (hn:x≠"__name__":=by decide) (hd:(x==("__debug__":Str))=false:=by decide):wpAny (model X.prog X.w) X.A (eval (.Name x pos) X.env) Q E s:=by
 obtain⟨mb,h1,h2⟩:=I.mod.blt;exact Calls.Name_function_global I.ok.kind hg (Calls.loadGlobal_builtin (by rw[I.ok.glob];exact I.mod.glob.keeps I.bk) hm (by rw[I.ok.blt];exact h1.keeps I.bk) ((h2 x hn).trans hv) h) hd
theorem sk {x:Str} {v:V} {u:Value} {pos:Pos} (hg:Gl X x) (hm:X.mg x=some u) (r:RelV v u) (hd:(x==("__debug__":Str))=false:=by decide):PE X (.Name x pos) (tC v):=
 fun _ _ _ H _ I h=>sF I hg hm ⟨v,H,I,r,h⟩ hd
theorem lL {x:Str} {v:V} {u:Value} {pos:Pos} (hg:Gl X x) (hm:X.mg x=none) (hv:bootBuiltins x=some u) (r:RelV v u) (hn:x≠"__name__":=by decide) (hd:(x==("__debug__":Str))=false:=by decide):PE X (.Name x pos) (tC v):=
 fun _ _ _ H _ I h=>jh I hg hm hv ⟨v,H,I,r,h⟩ hn hd
variable {a b:Expr} {ta tb:TE} {pos:Pos}
def tB(t:TE):TT:=fun σ H Q=>t σ H fun x H1=>∃c,x=.bl c/\Q c H1
theorem kR{e:Expr}{t:TE}(h:PE X e t)(he:∀whole,isTrue e X.env whole=(do let v ←whole;standAt e.pos;holding [v] (truthy v)):=by intro _;rfl):PT X e (tB t):=by
 intro pins s σ H Q I hw;refine isTrue_plain (thn (h pins s σ H _ I hw) fun v s1 ⟨x,H1,I1,r1,q1⟩=>?_) (he _);obtain⟨d,rfl,q⟩:=q1;cases r1;exact wpAny_truthy_bool ⟨H1,I1,q⟩
variable {tA tB':TT} {rest:List Expr}
def tAnd(t u:TT):TT:=fun σ H Q=>t σ H fun c H1=>if c=true then u σ H1 Q else Q false H1
def tOr(t u:TT):TT:=fun σ H Q=>t σ H fun c H1=>if c=true then Q true H1 else u σ H1 Q
def tNot(t:TT):TT:=fun σ H Q=>t σ H fun c H1=>Q (!c) H1
theorem kq(ha:PT X a tA):PW X (.BoolOp .And [a] pos) tA:=by
 intro wh pins s σ H Q I h;refine isTrue_and (thn (ha pins s σ H Q I h) fun c s1 e=>?_);cases c with
 | true=>exact isTrue_and_nil e
 | false=>exact e
theorem kQ(ha:PT X a tA):PW X (.BoolOp .Or [a] pos) tA:=by
 intro wh pins s σ H Q I h;refine isTrue_or (thn (ha pins s σ H Q I h) fun c s1 e=>?_);cases c with
 | false=>exact isTrue_or_nil e
 | true=>exact e
theorem jz(ha:PT X a tA)(hb:PW X (.BoolOp .And (b::rest) pos) tB'):PW X (.BoolOp .And (a::b::rest) pos) (tAnd tA tB'):=by
 intro wh pins s σ H Q I h;refine isTrue_and (thn (ha pins s σ H _ I h) fun c s1 ⟨H1,I1,q1⟩=>?_);cases c with
 | true=>exact hb wh pins s1 σ H1 Q I1 q1
 | false=>exact⟨H1,I1,q1⟩
theorem og(ha:PT X a tA)(hb:PW X (.BoolOp .Or (b::rest) pos) tB'):PW X (.BoolOp .Or (a::b::rest) pos) (tOr tA tB'):=by
 intro wh pins s σ H Q I h;refine isTrue_or (thn (ha pins s σ H _ I h) fun c s1 ⟨H1,I1,q1⟩=>?_);cases c with
 | true=>exact⟨H1,I1,q1⟩
 | false=>exact hb wh pins s1 σ H1 Q I1 q1
theorem nq(ha:PT X a tA):PT X (.UnaryOp .Not a pos) (tNot tA):=by
 intro pins s σ H Q I h;exact isTrue_not (ha pins s σ H (fun c H1=>Q (!c) H1) I h)
def tAndV(ta tb:TE):TE:=fun σ H Q=>ta σ H fun x H1=>∃c,x=.bl c/\if c=true then tb σ H1 Q else Q (.bl false) H1
def tOrV(ta tb:TE):TE:=fun σ H Q=>ta σ H fun x H1=>∃c,x=.bl c/\if c=true then Q (.bl true) H1 else tb σ H1 Q
def tNotV(ta:TE):TE:=fun σ H Q=>ta σ H fun x H1=>∃c,x=.bl c/\Q (.bl (!c)) H1
theorem sj{op}{t:TE}(h:PE X a t):PE X (.BoolOp op [a] pos) t:=fun pins s σ H Q I hw=>BoolOp_one (h pins s σ H Q I hw)
theorem pS(ha:PE X a ta)(hb:PE X (.BoolOp .And (b::rest) pos) tb):PE X (.BoolOp .And (a::b::rest) pos) (tAndV ta tb):=by
 intro pins s σ H Q I h;refine BoolOp_and (thn (ha pins s σ H _ I h) fun v s1 ⟨x,H1,I1,r1,q1⟩=>?_);obtain⟨c,rfl,q1⟩:=q1;cases r1;refine wpAny_truthy_bool ?_;cases c with
 | true=>exact hb pins s1 σ H1 Q I1 q1
 | false=>exact⟨.bl false,H1,I1,rfl,q1⟩
theorem pe_or(ha:PE X a ta)(hb:PE X (.BoolOp .Or (b::rest) pos) tb):PE X (.BoolOp .Or (a::b::rest) pos) (tOrV ta tb):=by
 intro pins s σ H Q I h;refine BoolOp_or (thn (ha pins s σ H _ I h) fun v s1 ⟨x,H1,I1,r1,q1⟩=>?_);obtain⟨c,rfl,q1⟩:=q1;cases r1;refine wpAny_truthy_bool ?_;cases c with
 | false=>exact hb pins s1 σ H1 Q I1 q1
 | true=>exact⟨.bl true,H1,I1,rfl,q1⟩
theorem vk(ha:PE X a ta):PE X (.UnaryOp .Not a pos) (tNotV ta):=by
 intro pins s σ H Q I h;refine UnaryOp_ (thn (ha pins s σ H _ I h) fun v s1 ⟨x,H1,I1,r1,q1⟩=>?_);obtain⟨c,rfl,q1⟩:=q1;cases r1;exact not_of (wpAny_truthy_bool ⟨.bl (!c),H1,I1,rfl,q1⟩)
def tIf(t:TT)(ta tb:TE):TE:=fun σ H Q=>t σ H fun c H1=>if c=true then ta σ H1 Q else tb σ H1 Q
theorem tS{c:Expr}(hc:PT X c tA)(ha:PE X a ta)(hb:PE X b tb):PE X (.IfExp c a b pos) (tIf tA ta tb):=by
 intro pins s σ H Q I h;refine wpAny_IfExp (thn (hc pins s σ H _ I h) fun d s1 ⟨H1,I1,q1⟩=>?_);cases d with
 | true=>exact ha pins s1 σ H1 Q I1 q1
 | false=>exact hb pins s1 σ H1 Q I1 q1
end
def SqL(K:W.Frag)(H:Hp)(a:Addr)(xs:List V):Prop:=
 Rd H a (.lst xs)∨
  ∃(o:Obj) (its:Array Value) (n:Nat),K.lookup a=some o/\o.cls=.type "list"/\o.dict=none/\o.data=.seq its n/\its.size<=sizeLine/\Vals xs its.toList
def SqT(K:W.Frag)(H:Hp)(a:Addr)(xs:List V):Prop:=
 Rd H a (.tup xs)∨
  ∃(o:Obj) (its:Array Value) (n:Nat),K.lookup a=some o/\o.cls=.type "tuple"/\o.data=.seq its n/\its.size<=sizeLine/\Vals xs its.toList
def absV:Value->Option V
 | .none=>some .non
 | .bool b=>some (.bl b)
 | .int i _=>some (.int i)
 | .str x _=>some (.str x)
 | .bytes b _=>some (.byt b)
 | .float b _=>some (.flt b)
 | .ref a=>some (.ref a)
 | .type n=>some (.ty n)
 | _=>none
theorem RelV.abs{x:V}{u:Value}(r:RelV x u):absV u=some x:=by
 cases x with
 | non=>cases r;rfl
 | bl _=>cases r;rfl
 | int _=>obtain⟨t,rfl⟩:=r;rfl
 | str _=>obtain⟨t,rfl⟩:=r;rfl
 | byt _=>obtain⟨t,rfl⟩:=r;rfl
 | flt _=>obtain⟨t,rfl⟩:=r;rfl
 | ref _=>cases r;rfl
 | ty _=>cases r;rfl
theorem RelV.inj{x y:V}{u:Value}(r:RelV x u)(q:RelV y u):x=y:=zQ0 (r.abs.symm.trans q.abs)
theorem Vals.inj:∀{xs ys:List V}{us:List Value},Vals xs us->Vals ys us->xs=ys
 | _,_,_,.nil,.nil=>rfl
 | _,_,_,.cons r t,.cons r' t'=>by rw[r.inj r',Vals.inj t t']
section
variable {X:Cx} {pins:List (Addr×Obj)} {σ:St} {H:Hp} {s:Shared} {a:Addr} {xs ys:List V}
theorem zH0{K:W.Frag}(h:H a=some (.lst xs)):SqL K H a xs:=.inl (.inl h)
abbrev SqL.of:=@zH0
theorem zC0{K:W.Frag}(h:H a=some (.tup xs)):SqT K H a xs:=.inl (.inl h)
abbrev SqT.of:=@zC0
theorem Inv.list(I:Inv X pins σ H s)(h:SqL X.K H a xs):∃its:List Value,Vals xs its/\PlainL s.heap a its.toArray/\xs.length<=sizeLine:=by
 rcases h with h | ⟨o,its,n,hk,hc,hd,hs,hz,r⟩
 . obtain⟨z,its,n,r,e⟩:=h.ok I.hok;exact⟨its,r,⟨_,n,e,rfl,rfl,rfl⟩,z⟩
 . refine⟨its.toList,r,⟨o,n,I.kIn a o hk,hc,hd,by simpa using hs⟩,?_⟩;have e:=r.length;simp only[Array.length_toList]at e;omega
theorem Inv.tuple(I:Inv X pins σ H s)(h:SqT X.K H a xs):∃its:List Value,Vals xs its/\IsTup s.heap a its.toArray/\xs.length<=sizeLine:=by
 rcases h with h | ⟨o,its,n,hk,hc,hs,hz,r⟩
 . obtain⟨z,its,r,p,_⟩:=h.ok I.hok;exact⟨its,r,p,z⟩
 . refine⟨its.toList,r,⟨o,I.kIn a o hk,hc,n,by simpa using hs⟩,?_⟩;have e:=r.length;simp only[Array.length_toList]at e;omega
theorem Inv.list_inj(I:Inv X pins σ H s)(h:SqL X.K H a xs)(h':SqL X.K H a ys):xs=ys:=by
 obtain⟨its,r,⟨o,n,e,_,_,d⟩,_⟩:=I.list h;obtain⟨its',r',⟨o',n',e',_,_,d'⟩,_⟩:=I.list h';rw[e]at e';cases e';rw[d]at d';injection d' with d1 _
 have:its=its':=by simpa using congrArg Array.toList d1
 subst this;exact r.inj r'
theorem Inv.tuple_inj(I:Inv X pins σ H s)(h:SqT X.K H a xs)(h':SqT X.K H a ys):xs=ys:=by
 obtain⟨its,r,⟨o,e,_,n,d⟩,_⟩:=I.tuple h;obtain⟨its',r',⟨o',e',_,n',d'⟩,_⟩:=I.tuple h';rw[e]at e';cases e';rw[d]at d';injection d' with d1 _
 have:its=its':=by simpa using congrArg Array.toList d1
 subst this;exact r.inj r'
end
abbrev Cx.wish(X:Cx)(E:Value->Shared->Prop):Cx:={ X with xe:=E }
abbrev Cx.nox(X:Cx):Cx:=X.wish fun _ _=>False
theorem Cx.Ok.wish{X:Cx}(ok:X.Ok)(E:Value->Shared->Prop):(X.wish E).Ok:=
 ⟨ok.mod,ok.kind,ok.glob,ok.blt,ok.above,ok.inj,ok.has,ok.cab,ok.hd,ok.frames,ok.stk,ok.exf,ok.bs,ok.bsz,ok.noex,ok.exfs,ok.funs,ok.frf⟩
theorem Cx.Ok.unwish{X:Cx}{E:Value->Shared->Prop}(ok:(X.wish E).Ok):X.Ok:=
 ⟨ok.mod,ok.kind,ok.glob,ok.blt,ok.above,ok.inj,ok.has,ok.cab,ok.hd,ok.frames,ok.stk,ok.exf,ok.bs,ok.bsz,ok.noex,ok.exfs,ok.funs,ok.frf⟩
section
variable {X:Cx} {pins:List (Addr×Obj)} {σ:St} {H:Hp} {s:Shared} {E:Value->Shared->Prop}
theorem Inv.wish(I:Inv X pins σ H s)(E:Value->Shared->Prop):Inv (X.wish E) pins σ H s:=⟨I.ok.wish E,I.os,I.bare,I.base,I.loc,I.cell,I.free,I.freeC,I.pin,I.hok,I.len⟩
theorem Inv.unwish(I:Inv (X.wish E) pins σ H s):Inv X pins σ H s:=⟨I.ok.unwish,I.os,I.bare,I.base,I.loc,I.cell,I.free,I.freeC,I.pin,I.hok,I.len⟩
theorem SP.unwish{D:Ends}{f:Flow}{s':Shared}(h:SP (X.wish E) pins D f s'):SP X pins D f s':=by
 cases f with
 | next=>obtain⟨σ',H',I,q⟩:=h;exact⟨σ',H',I.unwish,q⟩
 | brk=>obtain⟨σ',H',I,q⟩:=h;exact⟨σ',H',I.unwish,q⟩
 | cont=>obtain⟨σ',H',I,q⟩:=h;exact⟨σ',H',I.unwish,q⟩
 | ret u=>obtain⟨v,σ',H',I,r,q⟩:=h;exact⟨v,σ',H',I.unwish,r,q⟩
theorem PSs.nox{st:List Stmt}{t:TS}(h:PSs X.nox st t):PSs X st t:=fun pins s σ H D I hw=>
 wpAny_mono (h pins s σ H D (I.wish _) hw) (fun _ _ q=>q.unwish) fun _ _ z=>False.elim z
end
section
variable {X:Cx} {st:Stmt} {rest:List Stmt} {t u:TS} {e:Expr} {te:TE} {pos:Pos}
def DH:TS:=fun D σ H=>D.nx σ H
def tSeq(t u:TS):TS:=fun D σ H=>t { D with nx:=u D } σ H
theorem aI:PSs X [] DH:=fun _ _ σ H _ I h=>wpAny_execs_nil ⟨σ,H,I,h⟩
theorem ad(h1:PS X st t)(h2:PSs X rest u):PSs X (st::rest) (tSeq t u):=by
 intro pins s σ H D I h;refine wpAny_execs_cons (thn (h1 pins s σ H { D with nx:=u D } I h) fun f s1 q=>?_);cases f with
 | next=>
   obtain⟨σ',H',I',q⟩:=q;exact h2 pins s1 σ' H' D I' q
 | ret v=>exact q
 | brk=>exact q
 | cont=>exact q
theorem ah(h1:PS X st t):PSs X [st] t:=by
 intro pins s σ H D I h;refine wpAny_execs_cons (thn (h1 pins s σ H D I h) fun f s1 q=>?_);cases f with
 | next=>exact wpAny_execs_nil q
 | ret v=>exact q
 | brk=>exact q
 | cont=>exact q
theorem Inv.quiet{pins:List (Addr×Obj)}{σ:St}{H:Hp}{s:Shared}(I:Inv X pins σ H s):interactive X.env=false:=by simp [interactive,I.ok.kind]
def tDrop(te:TE):TS:=fun D σ H=>te σ H fun _ H1=>D.nx σ H1
theorem bL(he:PE X e te)(hs:swapsWith e none pos.line X.env=pure false:=by rfl):PS X (.Expr e pos) (tDrop te):=by
 intro pins s σ H D I h;exact wpAny_Expr_any (thn (he pins s σ H _ I h) fun v s1 ⟨x,H1,I1,r1,q1⟩=>⟨σ,H1,I1,q1⟩) I.quiet hs
def tRet(te:TE):TS:=fun D σ H=>te σ H D.rt
theorem az(he:PE X e te):PS X (.Return (some e) pos) (tRet te):=by
 intro pins s σ H D I h;exact wpAny_Return_some (thn (he pins s σ H _ I h) fun v s1 ⟨x,H1,I1,r1,q1⟩=>⟨x,σ,H1,I1,r1,q1⟩)
def tIfS(c:TT)(t u:TS):TS:=fun D σ H=>c σ H fun b H1=>if b=true then t D σ H1 else u D σ H1
theorem aS{c:Expr}{a b:List Stmt}{tc:TT}(hc:PT X c tc)(ha:PSs X a t)(hb:PSs X b u):PS X (.If c a b pos) (tIfS tc t u):=by
 intro pins s σ H D I h;refine wpAny_If (thn (hc pins s σ H _ I h) fun d s1 ⟨H1,I1,q1⟩=>?_);cases d with
 | true=>exact ha pins s1 σ H1 D I1 q1
 | false=>exact hb pins s1 σ H1 D I1 q1
def Ei:TS:=fun _ _ _=>False
theorem dE{sts:List Stmt}:PSs X sts Ei:=fun _ _ _ _ _ _ h=>h.elim
end
abbrev TG:=V->St->Hp->(St->Hp->Prop)->Prop
abbrev TGs:=List V->St->Hp->(St->Hp->Prop)->Prop
def PG(X:Cx)(target:Expr)(t:TG):Prop:=
 ∀(pins:List (Addr×Obj))(s:Shared)(σ:St)(H:Hp)(v:V)(u:Value)(Q:St->Hp->Prop),Inv X pins σ H s->RelV v u->t v σ H Q ->
  wpAny (model X.prog X.w) X.A (assign target X.env u) (fun _ s'=>∃ σ' H',Inv X pins σ' H' s'/\Q σ' H') X.xe s
def PGs(X:Cx)(ts:List Expr)(t:TGs):Prop:=
 ∀(pins:List (Addr×Obj))(s:Shared)(σ:St)(H:Hp)(vs:List V)(us:List Value)(Q:St->Hp->Prop),Inv X pins σ H s->Vals vs us->t vs σ H Q ->
  wpAny (model X.prog X.w) X.A (assignInOrder ((assignEach ts X.env).map (·.2)) us) (fun _ s'=>∃ σ' H',Inv X pins σ' H' s'/\Q σ' H') X.xe s
abbrev Fq:=V->V->V->Hp->(Hp->Prop)->Prop
def PSet(X:Cx)(t:Fq):Prop:=
 ∀(pins:List (Addr×Obj))(s:Shared)(σ:St)(H:Hp)(o i v:V)(ov iv u:Value)(Q:Hp->Prop),Inv X pins σ H s->RelV o ov->RelV i iv->RelV v u->t o i v H Q ->
  wpAny (model X.prog X.w) X.A (setItem ov iv u) (fun _ s'=>∃H',Inv X pins σ H' s'/\Q H') X.xe s
section
variable {X:Cx} {pos:Pos}
def xy(i:Nat):TG:=fun v σ H Q=>Q (σ.set i (some v)) H
theorem bX{i:Nat}{x:Str}(hN:X.N.Nodup)(hi:X.N[i]?=some x)(hx:Loc X.env.scope x)(hf:X.fn x=true∨X.env.scope.names.lookup x=some .local:=by first | exact .inl rfl | exact .inr rfl | assumption):PG X (.Name x pos) (xy i):=by
 intro pins s σ H v u Q I r h;exact wpAny_assign_Name (lq I hN hi hx r (fun s' I'=>⟨_,H,I',h⟩) hf)
def gNil:TGs:=fun vs σ H Q=>vs=[]/\Q σ H
def gCons(t:TG)(u:TGs):TGs:=fun vs σ H Q=>∃v r,vs=v::r/\t v σ H fun σ' H'=>u r σ' H' Q
theorem xa:PGs X [] gNil:=by
 intro pins s σ H vs us Q I r h;obtain⟨e,h⟩:=h;subst e;cases r;exact assignInOrder_nil ⟨σ,H,I,h⟩
theorem lK{e:Expr}{es:List Expr}{t:TG}{u:TGs}(h1:PG X e t)(h2:PGs X es u)
 (hs:(assignEach (e::es) X.env).map (·.2)=assign e X.env::(assignEach es X.env).map (·.2):=by rfl):PGs X (e::es) (gCons t u):=by
 intro pins s σ H vs us Q I r h;obtain⟨v,vr,e1,h⟩:=h;subst e1;cases r with
 | cons r rr=>
   rw[hs];refine assignInOrder_cons (thn (h1 pins s σ H _ _ _ I r h) fun _ s1 ⟨σ1,H1,I1,q1⟩=>?_);exact h2 pins s1 σ1 H1 _ _ Q I1 rr q1
def gTup(K:W.Frag)(n:Nat)(t:TGs):TG:=fun v σ H Q=>∃a xs,v=.ref a/\SqT K H a xs/\xs.length=n/\t xs σ H Q
theorem AL{es:List Expr}{k:Nat}{t:TGs}{n:Nat}(hc:X.calm=true)(h:PGs X es t)
 (hn:(assignEach es X.env).length=n:=by rfl) (hst:(assignEach es X.env).findIdx? (·.1)=none:=by rfl):PG X (.Tuple es k pos) (gTup X.K n t):=by
 intro pins s σ H v u Q I r hw;obtain⟨a,xs,e1,hq,hl,hw⟩:=hw;subst e1;cases r;obtain⟨its,rv,ht,hz⟩:=I.tuple hq;refine assign_Tuple_tuple (I.ok.hd hc) ht (by simp [hn,←hl,rv.length]) hst fun h' hx=>?_
 have I1:Inv X pins σ H { s with heap:=h' }:=I.kept (t':=s.toks) fun b o e=>hx b o (zV0 (zN0 e)) e
 exact h pins _ σ H xs _ Q I1 (by simpa using rv) hw
def gSub(to ti:TE)(t:Fq):TG:=fun v σ H Q=>to σ H fun o H1=>ti σ H1 fun i H2=>t o i v H2 fun H3=>Q σ H3
theorem si{o i:Expr}{to ti:TE}{t:Fq}(ho:PE X o to)(hi:PE X i ti)(hs:PSet X t)
 (ha:∀v,assign (.Subscript o i pos) X.env v=(do
  let ov ←holding [v] (eval o X.env)
  let iv ←holding [v,ov] (eval i X.env)
  standAt pos
  holding [v,ov,iv] (setItem ov iv v)
  release [v,ov,iv] []):=by intro _;rfl):PG X (.Subscript o i pos) (gSub to ti t):=by
 intro pins s σ H v u Q I r h;rw[ha];refine zF0 (wpAny_holding (thn (ho pins s σ H _ I h) fun ov s1 ⟨x,H1,I1,r1,q1⟩=>?_));refine zF0 (wpAny_holding (thn (hi pins s1 σ H1 _ I1 q1) fun iv s2 ⟨y,H2,I2,r2,q2⟩=>?_));refine zF0 (wpAny_standAt (zF0 (wpAny_holding (thn (hs pins s2 σ H2 x y v ov iv u _ I2 r1 r2 r q2) fun _ s3 ⟨H3,I3,q3⟩=>?_))));exact wpAny_release ⟨σ,H3,I3,q3⟩
def Ct(te:TE)(g:TG):TS:=fun D σ H=>te σ H fun x H1=>g x σ H1 D.nx
theorem pJ{tg e:Expr}{te:TE}{g:TG}(he:PE X e te)(hg:PG X tg g)(hs:swapsWithSole [tg] e pos.line X.env=pure false:=by rfl)(hw:swappedStores [tg] e X.env=pure none:=by rfl)
 (h1:(assignEach [tg] X.env).map (·.2)=[assign tg X.env]:=by rfl):PS X (.Assign [tg] e pos) (Ct te g):=by
 intro pins s σ H D I h;refine wpAny_Assign_stores (thn (he pins s σ H _ I h) fun v s1 ⟨x,H1,I1,r1,q1⟩=>?_) hs hw;rw[h1];exact thn (hg pins s1 σ H1 x v _ I1 r1 q1) fun _ s2 q=>q
theorem ao{i:Nat}{x:Str}{e:Expr}{te:TE}{pos':Pos}(hN:X.N.Nodup)(hi:X.N[i]?=some x)(hx:Loc X.env.scope x)(he:PE X e te)(hs:swapsWith e (some (.Name x pos')) pos.line X.env=pure false:=by rfl)(hf:X.fn x=true∨X.env.scope.names.lookup x=some .local:=by first | exact .inl rfl | exact .inr rfl | assumption) :
 PS X (.Assign [.Name x pos'] e pos) (Ct te (xy i)):=by
 intro pins s σ H D I h;refine wpAny_Assign_Name (thn (he pins s σ H _ I h) fun v s1 ⟨y,H1,I1,r1,q1⟩=>?_) hs;exact lq I1 hN hi hx r1 (fun s2 I2=>⟨_,H1,I2,q1⟩) hf
end
section
variable {X:Cx} {pos:Pos}
def zF(c:TT)(tb:TS):TS:=fun D σ H=>∃W:Nat->St->Hp->Prop,(∃m,W m σ H)/\∀m σ H,W m σ H ->
 c σ H fun b H1=>if b=true then ∃N:St->Hp->Prop,(∀ σ' H',N σ' H'->∃m',m'<m/\W m' σ' H')/\tb { D with nx:=N,ct:=N,bk:=D.nx } σ H1 else D.nx σ H1
theorem ia{c:Expr}{body:List Stmt}{tc:TT}{tb:TS}(hp:PassesOwn (model X.prog X.w) X.A X.env X.xe)(hc:PT X c tc)(hb:PSs X body tb):PS X (.While c body [] pos) (zF tc tb):=by
 intro pins s σ H D I h;obtain⟨W,⟨m0,w0⟩,turn⟩:=h;refine wpAny_While (codeAny_whileLoop (fun n s'=>∃ σ' H',Inv X pins σ' H' s'/\W n σ' H') ?_ m0 ⟨σ,H,I,w0⟩);rintro n s1 ⟨σ1,H1,I1,w1⟩;refine wpAny_passesOwn hp (thn (hc pins s1 σ1 H1 _ I1 (turn n σ1 H1 w1)) fun b s2 ⟨H2,I2,q2⟩=>?_);cases b with
 | true=>
   obtain⟨N,hN,q2⟩:=q2;rw[zB0 rfl];refine wpAny_passesOwn hp (thn (hb pins s2 σ1 H2 _ I2 q2) fun f s3 q3=>?_);cases f with
   | next=>
     obtain⟨σ3,H3,I3,n3⟩:=q3;obtain⟨m',hm,w3⟩:=hN σ3 H3 n3;exact⟨m',hm,σ3,H3,I3,w3⟩
   | cont=>
     obtain⟨σ3,H3,I3,n3⟩:=q3;obtain⟨m',hm,w3⟩:=hN σ3 H3 n3;exact⟨m',hm,σ3,H3,I3,w3⟩
   | brk=>exact q3
   | ret v=>exact q3
 | false=>
   rw[zA0 qB0];exact wpAny_execs_nil ⟨σ1,H2,I2,q2⟩
end
structure It where
 go:Nat->Hp->Prop
 yld:Nat->Hp->V->Hp->Prop
 stop:Nat->Hp->Prop
def iW(X:Cx)(pins:List (Addr×Obj))(H:Hp)(b:Addr):Prop:=
 H b=none/\b≠X.env.locals/\b∉X.fs/\(b∈X.ex∨X.s₀.heap.objs.size<=b)/\(∀x c,X.env.cells.lookup x=some c->c≠b)/\∀p∈X.pn++pins,p.1≠b
theorem Inv.fpOk{X:Cx}{pins:List (Addr×Obj)}{σ:St}{H H':Hp}{s:Shared}{b:Addr}(I:Inv X pins σ H s)(hb:s.heap.objs.size<=b)(hn:H' b=none):iW X pins H' b:=by
 refine⟨hn,Nat.ne_of_gt (qK0 I.lt hb),I.nofs hb,.inr (qC0 I.sz hb),fun x c e z=>?_,fun p hp z=>?_⟩
 . obtain⟨v,q⟩:=I.cell x c e;exact absurd (qK0 q.lt (by rw[z];exact hb)) (qU0 _)
 . exact absurd (qK0 (zN0 (I.pin p hp).1) (by rw[z];exact hb)) (qU0 _)
structure Turn(P:Program)(w:World)(K:W.Frag)(tg:Expr)(J:It)(fp:List Addr)(it:Addr)(tn:Nat->Heap->Prop):Prop where
 mem:it∈fp
 obj:∀i h,tn i h->∀b∈fp,∃o,h.get? b=some o/\∀v,o.data≠.cell v
 keep:∀i h h',tn i h->(∀b∈fp,∀o,h.get? b=some o->h'.get? b=some o)->tn i h'
 item:∀(X:Cx),X.prog=P->X.w=w->X.K=K->X.calm=true->∀(i:Nat)(pins:List (Addr×Obj))(s:Shared)(σ:St)(H:Hp)(E:Value->Shared->Prop),Inv X pins σ H s->(∀b∈fp,iW X pins H b)->tn i s.heap->J.go i H ->
  wpAny (model P w) X.A (pyNext (.ref it)) (fun r s1=>∃u,r=some u/\
   wpAny (model P w) X.A (letOwnedTupleGo tg (.ref it) u) (fun _ s2=>∃x H',Inv X pins σ H' s2/\RelV x u/\J.yld i H x H'/\tn (i+1) s2.heap/\∀b∈fp,H' b=none) E s1) E s
 done:∀(X:Cx),X.prog=P->X.w=w->X.K=K->X.calm=true->∀(i:Nat)(pins:List (Addr×Obj))(s:Shared)(σ:St)(H:Hp)(E:Value->Shared->Prop),Inv X pins σ H s->(∀b∈fp,iW X pins H b)->tn i s.heap->J.stop i H ->
  wpAny (model P w) X.A (pyNext (.ref it)) (fun r s1=>r=none/\Inv X pins σ H s1) E s
 self:∀(A:Around)(i:Nat)(s:Shared)(Q:Value->Shared->Prop)(E:Value->Shared->Prop),tn i s.heap->Q (.ref it) s->wpAny (model P w) A (pyIter (.ref it)) Q E s
abbrev TI:=St->Hp->(It->Hp->Prop)->Prop
def PIE(X:Cx)(pins:List (Addr×Obj))(σ:St)(tg:Expr)(R:It->Hp->Prop)(itv:Value)(s2:Shared):Prop:=
 ∃(it:Addr)(fp:List Addr)(tn:Nat->Heap->Prop)(J:It)(H':Hp),itv=.ref it/\Inv X pins σ H' s2/\Turn X.prog X.w X.K tg J fp it tn/\tn 0 s2.heap/\(∀b∈fp,iW X pins H' b)/\R J H'
def PI(X:Cx)(tg iter:Expr)(wi:TI):Prop:=
 ∀(pins:List (Addr×Obj))(s:Shared)(σ:St)(H:Hp)(R:It->Hp->Prop),Inv X pins σ H s->wi σ H R ->
  wpAny (model X.prog X.w) X.A (eval iter X.env) (fun v s1=>wpAny (model X.prog X.w) X.A (pyIter v) (PIE X pins σ tg R) X.xe s1) X.xe s
theorem ut{M:Model}{A:Around}{E:Value->Shared->Prop}{s:Shared}{tg:Expr}{it:Addr}{u:Value}{o:Obj}{n:String}{vs:Array Value}{Q:Unit->Shared->Prop}(ho:s.heap.get? it=some o)(hc:o.cls=.type n)(hd:o.data=.fields vs)
 (hn:["enumerate","zip","dict_itemiterator","dict_reverseitemiterator","odict_iterator","itertools.zip_longest","itertools.pairwise"].contains n=false) (hQ:Q () s):wpAny M A (letOwnedTupleGo tg (.ref it) u) Q E s:=by
 unfold letOwnedTupleGo;cases tg <;> first
  | exact zI0 hQ
  | (cases u <;> first
   | exact zI0 hQ
   | (refine zF0 (wpAny_load ho ?_)
      rw[hc,hd];show wpAny M A (if(["enumerate","zip","dict_itemiterator","dict_reverseitemiterator","odict_iterator","itertools.zip_longest","itertools.pairwise"].contains n&&vs[0]?==some (rawInt _))=true then _ else _) Q E s;rw[zA0 (by intro h;rw[hn,Bool.false_and]at h;cases h)];exact zI0 hQ))
def Itl(K:W.Frag)(a:Addr):It:=
 ⟨fun i H=>∃xs x,SqL K H a xs/\xs[i]?=some x,fun i H x H'=>H'=H/\∀xs,SqL K H a xs->xs[i]?=some x,fun i H=>∃xs,SqL K H a xs/\xs.length<=i⟩
def Itt(K:W.Frag)(a:Addr):It:=
 ⟨fun i H=>∃xs x,SqT K H a xs/\xs[i]?=some x,fun i H x H'=>H'=H/\∀xs,SqT K H a xs->xs[i]?=some x,fun i H=>∃xs,SqT K H a xs/\xs.length<=i⟩
def Itr(lo:Int)(n:Nat):It:=⟨fun i _=>i<n,fun i H x H'=>H'=H/\x=.int (lo+i),fun i _=>n<=i⟩
theorem qI{P:Program}{w:World}{K:W.Frag}{tg:Expr}(a it:Addr):Turn P w K tg (Itl K a) [it] it (fun i h=>h.IsListIter it a i) where
 mem:=by simp
 obj:=fun i h st b hb=>by
  have e:b=it:=by simpa using hb
  subst e;obtain⟨o,e,c,d⟩:=st;exact⟨o,e,fun v z=>by rw[d]at z;cases z⟩
 keep:=fun i h h' st k=>st.at fun o e=>k it (by simp) o e
 item:=by
  intro X hP hw hK hc i pins s σ H E I hf st hg;subst hP hw hK;obtain⟨xs,x,hq,hx⟩:=hg;obtain⟨its,rv,p,hz⟩:=I.list hq;obtain⟨u,hu,ru⟩:=rv.get hx;obtain⟨f0,f1,f2,f3,f4,f5⟩:=hf it (by simp);refine wpAny_pyNext_list_item st p.isList (x:=u) (by simpa using hu) fun h' st' sb=>?_
  have I1:Inv X pins σ H { s with heap:=h' }:=I.turned (t':=s.toks) (fun b o hb e=>(sb.2 b hb).trans e) f0 f1 f3 f4 f5;obtain⟨o,e,c,d⟩:=id st';exact⟨u,rfl,ut (s:={ s with heap:=h' }) e c d (by decide) ⟨x,H,I1,ru,⟨rfl,fun ys hy=>by rw[I.list_inj hy hq];exact hx⟩,st',fun b hb=>(hf b hb).1⟩⟩
 done:=by
  intro X hP hw hK hc i pins s σ H E I hf st hg;subst hP hw hK;obtain⟨xs,hq,hx⟩:=hg;obtain⟨its,rv,p,hz⟩:=I.list hq;obtain⟨f0,f1,f2,f3,f4,f5⟩:=hf it (by simp);have hl:=rv.length;exact wpAny_pyNext_list_end (I.ok.hd hc) st p.isList (by simp;omega) fun h' eb=>⟨rfl,I.turned (t':=s.toks) (fun b o hb e=>eb b o hb e) f0 f1 f3 f4 f5⟩
 self:=fun _ _ _ _ _ st h=>wpAny_pyIter_listiter st h
theorem oY{P:Program}{w:World}{K:W.Frag}{tg:Expr}(a it:Addr):Turn P w K tg (Itt K a) [it] it (fun i h=>h.IsTupleIter it a i) where
 mem:=by simp
 obj:=fun i h st b hb=>by
  have e:b=it:=by simpa using hb
  subst e;obtain⟨o,e,c,d⟩:=st;exact⟨o,e,fun v z=>by rw[d]at z;cases z⟩
 keep:=fun i h h' st k=>st.at fun o e=>k it (by simp) o e
 item:=by
  intro X hP hw hK hc i pins s σ H E I hf st hg;subst hP hw hK;obtain⟨xs,x,hq,hx⟩:=hg;obtain⟨its,rv,p,hz⟩:=I.tuple hq;obtain⟨u,hu,ru⟩:=rv.get hx;obtain⟨f0,f1,f2,f3,f4,f5⟩:=hf it (by simp);refine wpAny_pyNext_tuple_item st (show s.heap.IsTuple a its.toArray from p) (x:=u) (by simpa using hu) fun h' st' sb=>?_
  have I1:Inv X pins σ H { s with heap:=h' }:=I.turned (t':=s.toks) (fun b o hb e=>(sb.2 b hb).trans e) f0 f1 f3 f4 f5;obtain⟨o,e,c,d⟩:=id st';exact⟨u,rfl,ut (s:={ s with heap:=h' }) e c d (by decide) ⟨x,H,I1,ru,⟨rfl,fun ys hy=>by rw[I.tuple_inj hy hq];exact hx⟩,st',fun b hb=>(hf b hb).1⟩⟩
 done:=by
  intro X hP hw hK hc i pins s σ H E I hf st hg;subst hP hw hK;obtain⟨xs,hq,hx⟩:=hg;obtain⟨its,rv,p,hz⟩:=I.tuple hq;obtain⟨f0,f1,f2,f3,f4,f5⟩:=hf it (by simp);have hl:=rv.length;exact wpAny_pyNext_tuple_end (I.ok.hd hc) st (show s.heap.IsTuple a its.toArray from p) (by simp;omega) fun h' eb=>⟨rfl,I.turned (t':=s.toks) (fun b o hb e=>eb b o hb e) f0 f1 f3 f4 f5⟩
 self:=fun _ _ _ _ _ st h=>wpAny_pyIter_tupleiter st h
theorem uO{P:Program}{w:World}{K:W.Frag}{tg:Expr}(it:Addr)(lo:Int)(n:Nat):Turn P w K tg (Itr lo n) [it] it (fun i h=>IsRangeIter h it (lo+(i:Nat)*1) ((n:Int)-(i:Nat)) 1) where
 mem:=by simp
 obj:=fun i h st b hb=>by
  have e:b=it:=by simpa using hb
  subst e;exact⟨_,st,fun v z=>by
   have z':Data.fields _=Data.cell v:=z;cases z'⟩
 keep:=fun i h h' st k=>k it (by simp) _ st
 item:=by
  intro X hP hw hK hc i pins s σ H E I hf st hg;subst hP hw hK;obtain⟨f0,f1,f2,f3,f4,f5⟩:=hf it (by simp);have W:=Walks.range (prog:=X.prog) (w:=X.w) (I.ok.hd hc) it lo 1 n;refine W.item i s _ _ hg st fun v h' tk hv st' kk=>?_
  obtain⟨t,rfl⟩:=hv;have I1:Inv X pins σ H { s with heap:=h',toks:=tk }:=I.turned (fun b o hb e=>kk b o (by simpa using hb) e) f0 f1 f3 f4 f5;refine⟨_,rfl,ut (s:={ s with heap:=h',toks:=tk }) (n:="range_iterator") st' rfl rfl (by decide) ⟨.int (lo+i),H,I1,⟨t,?_⟩,⟨rfl,rfl⟩,st',fun b hb=>(hf b hb).1⟩⟩;rw[Int.mul_one]
 done:=by
  intro X hP hw hK hc i pins s σ H E I hf st hg;subst hP hw hK;obtain⟨f0,f1,f2,f3,f4,f5⟩:=hf it (by simp);exact wpAny_pyNext_range_end (I.ok.hd hc) st (by have:n<=i:=hg;omega) fun h' eb=>⟨rfl,I.turned (t':=s.toks) (fun b o hb e=>eb b o hb e) f0 f1 f3 f4 f5⟩
 self:=fun _ _ _ _ _ st h=>wpAny_pyIter_rangeiter st h
section
variable {X:Cx} {tg:Expr}
def iList(K:W.Frag)(tl:TE):TI:=fun σ H R=>tl σ H fun x H1=>∃a,x=.ref a/\(∃xs,SqL K H1 a xs)/\R (Itl K a) H1
def iTup(K:W.Frag)(tl:TE):TI:=fun σ H R=>tl σ H fun x H1=>∃a,x=.ref a/\(∃xs,SqT K H1 a xs)/\R (Itt K a) H1
theorem iu{l:Expr}{tl:TE}(hl:PE X l tl):PI X tg l (iList X.K tl):=by
 intro pins s σ H R I h;refine thn (hl pins s σ H _ I h) fun v s1 ⟨x,H1,I1,r1,q1⟩=>?_
 obtain⟨a,e,⟨xs,hq⟩,q⟩:=q1;subst e;cases r1;obtain⟨its,rv,p,hz⟩:=I1.list hq;refine wpAny_pyIter_list p.isList ?_;refine⟨s1.heap.objs.size,[s1.heap.objs.size],_,_,H1,rfl,I1.kept (t':=s1.toks) fun b o e=>zO0 _ e,qI a _,⟨_,zW0 _ rfl,rfl,rfl⟩,fun b hb=>?_,q⟩;have e:b=s1.heap.objs.size:=by simpa using hb
 subst e;exact I1.fpOk (zG0 _) (I1.hok.fresh (zG0 _))
theorem gq{l:Expr}{tl:TE}(hl:PE X l tl):PI X tg l (iTup X.K tl):=by
 intro pins s σ H R I h;refine thn (hl pins s σ H _ I h) fun v s1 ⟨x,H1,I1,r1,q1⟩=>?_
 obtain⟨a,e,⟨xs,hq⟩,q⟩:=q1;subst e;cases r1;obtain⟨its,rv,p,hz⟩:=I1.tuple hq;refine wpAny_pyIter_tuple (show s1.heap.IsTuple a its.toArray from p) ?_;refine⟨s1.heap.objs.size,[s1.heap.objs.size],_,_,H1,rfl,I1.kept (t':=s1.toks) fun b o e=>zO0 _ e,oY a _,⟨_,zW0 _ rfl,rfl,rfl⟩,fun b hb=>?_,q⟩;have e:b=s1.heap.objs.size:=by simpa using hb
 subst e;exact I1.fpOk (zG0 _) (I1.hok.fresh (zG0 _))
theorem tO{pins:List (Addr×Obj)}{σ:St}{H:Hp}{s:Shared}{R:It->Hp->Prop}{E:Value->Shared->Prop}{lo hi:Int}{t u v:Tok}{tk:Nat}(I:Inv X pins σ H s)(h1:-(2 ^ 62)<=lo)(h2:lo<2 ^ 62)(h3:-(2 ^ 62)<=hi)(h4:hi<2 ^ 62)
 (q:R (Itr lo (hi-lo).toNat) H):wpAny (model X.prog X.w) X.A (pyIter (.ref s.heap.objs.size)) (PIE X pins σ tg R) E { s with heap:=s.heap.push { cls:=.type "range",data:=.fields #[.int lo t,.int hi u,.int 1 v] },toks:=tk }:=by
 refine wpAny_pyIter_range (IsRange.new ..) (small_one h1 h2 h3 h4) ?_;have I1:Inv X pins σ H { s with heap:=s.heap.push { cls:=.type "range",data:=.fields #[.int lo t,.int hi u,.int 1 v] },toks:=tk }:=I.kept fun b o e=>zO0 _ e
 refine ⟨(s.heap.push { cls:=.type "range",data:=.fields #[.int lo t,.int hi u,.int 1 v] }).objs.size,[(s.heap.push { cls:=.type "range",data:=.fields #[.int lo t,.int hi u,.int 1 v] }).objs.size],_,_,H,rfl,
  I1.kept (t':=tk) fun b o e=>zO0 _ e,uO _ lo (hi-lo).toNat,?_,fun b hb=>?_,q⟩
 . have e1:lo+((0:Nat):Int)*1=lo:=by simp
   have e2:(((hi-lo).toNat:Nat):Int)-((0:Nat):Int)=Builtin.Range.rangeSize lo hi 1:=by rw[rangeSize_one];split <;> omega
   show IsRangeIter _ _ (lo+((0:Nat):Int)*1) ((((hi-lo).toNat:Nat):Int)-((0:Nat):Int)) 1;rw[e1,e2];exact zW0 _ rfl
 . have e:b=(s.heap.push { cls:=.type "range",data:=.fields #[.int lo t,.int hi u,.int 1 v] }).objs.size:=by simpa using hb
   subst e;exact I1.fpOk (zG0 _) (I1.hok.fresh (zG0 _))
def iRng1(ta:TA):TI:=fun σ H R=>ta σ H fun vs H1=>∃j:Int,vs=[.int j]/\-(2 ^ 62)<=j/\j<2 ^ 62/\R (Itr 0 j.toNat) H1
def iRng2(ta:TA):TI:=fun σ H R=>ta σ H fun vs H1=>∃i j:Int,vs=[.int i,.int j]/\(-(2 ^ 62)<=i/\i<2 ^ 62/\-(2 ^ 62)<=j/\j<2 ^ 62)/\R (Itr i (j-i).toNat) H1
theorem cF {a:Expr} {ta:TA} {p pos:Pos} (hg:Gl X "range") (hm:X.mg "range"=none) (ha:PA X [a] ta) (hs:starEach [a] X.env=[(false,eval a X.env)]:=by rfl):PI X tg (.Call (.Name "range" p) [a] [] pos) (iRng1 ta):=by
 intro pins s σ H R I h;refine Call_ (jh I hg hm boot_range (PyProof.Rows.callWith_type1 (thn (ha pos pins s σ H _ I h) fun us s1 ⟨vs,H1,I1,r1,q1⟩=>?_) hs rfl));obtain⟨j,e,q1,q2,q⟩:=q1;subst e;cases r1 with
 | cons r rr=>
   cases rr;obtain⟨t,rfl⟩:=r;exact call_range_1 (tO I1 (by omega) (by omega) q1 q2 (by simpa using q))
theorem yv {a b:Expr} {ta:TA} {p pos:Pos} (hg:Gl X "range") (hm:X.mg "range"=none) (ha:PA X [a,b] ta) (hs:starEach [a,b] X.env=[(false,eval a X.env),(false,eval b X.env)]:=by rfl) (hs2:starEach [b] X.env=[(false,eval b X.env)]:=by rfl) :
 PI X tg (.Call (.Name "range" p) [a,b] [] pos) (iRng2 ta):=by
 intro pins s σ H R I h;refine Call_ (jh I hg hm boot_range (PyProof.Rows.callWith_type1 (thn (ha pos pins s σ H _ I h) fun us s1 ⟨vs,H1,I1,r1,q1⟩=>?_) (by rw[hs,hs2]) (by rw[hs2];rfl)));obtain⟨i,j,e,⟨q1,q2,q3,q4⟩,q⟩:=q1;subst e;cases r1 with
 | cons r rr=>
   cases rr with
   | cons r' rr=>
     cases rr;obtain⟨t,rfl⟩:=r;obtain⟨t',rfl⟩:=r';exact call_range_2 (tO I1 q1 q2 q3 q4 q)
def tFor(wi:TI)(g:TG)(tb:TS):TS:=fun D σ H=>wi σ H fun J H1=>∃W:Nat->Nat->St->Hp->Prop,(∃m,W 0 m σ H1)/\∀i m σ H,W i m σ H ->
 (J.stop i H/\D.nx σ H)∨(J.go i H/\∃N:St->Hp->Prop,(∀ σ' H',N σ' H'->∃m',m'<m/\W (i+1) m' σ' H')/\∀x H',J.yld i H x H'->g x σ H' fun σ2 H2=>tb { D with nx:=N,ct:=N,bk:=D.nx } σ2 H2)
def jA(fp:List Addr)(h:Heap):List (Addr×Obj):=fp.filterMap fun b=>(h.get? b).map fun o=>(b,o)
theorem gr{fp:List Addr}{h:Heap}{b:Addr}{o:Obj}(hb:b∈fp)(e:h.get? b=some o):(b,o)∈jA fp h:=List.mem_filterMap.mpr ⟨b,hb,by rw[e];rfl⟩
theorem yJ{fp:List Addr}{h:Heap}{p:Addr×Obj}(hp:p∈jA fp h):p.1∈fp/\h.get? p.1=some p.2:=by
 obtain⟨b,hb,e⟩:=List.mem_filterMap.mp hp;cases q:h.get? b with
 | none=>rw[q]at e;cases e
 | some o=>
   rw[q]at e;have e':(b,o)=p:=zQ0 e;subst e';exact⟨hb,q⟩
theorem Inv.pinned{pins:List (Addr×Obj)}{σ:St}{H:Hp}{s:Shared}{fp:List Addr}(I:Inv X pins σ H s)(hf:∀b∈fp,iW X pins H b)(ho:∀b∈fp,∃o,s.heap.get? b=some o/\∀v,o.data≠.cell v):Inv X (pins++jA fp s.heap) σ H s:=
 I.pins_of fun p hp=>(qJ0 hp).elim (fun z=>I.pin p (qS0 _ z)) fun z=>by
  obtain⟨hb,e⟩:=yJ z;obtain⟨f0,f1,f2,_⟩:=hf p.1 hb;obtain⟨o,e',d⟩:=ho p.1 hb;rw[e]at e';cases e';exact⟨e,f0,f1,f2,d⟩
theorem Inv.unpinned{pins pl:List (Addr×Obj)}{σ:St}{H:Hp}{s:Shared}(I:Inv X (pins++pl) σ H s):Inv X pins σ H s:=I.pins_of fun p hp=>I.pin p (qS0 _ (List.mem_append_left _ hp))
theorem da{iter:Expr}{body:List Stmt}{wi:TI}{g:TG}{tb:TS}{pos:Pos}(hp:PassesOwn (model X.prog X.w) X.A X.env X.xe)(hc:X.calm=true)(hi:PI X tg iter wi)(hg:PG X tg g)(hb:PSs X body tb)
 (hs:∀x,foldedSetIterable iter X.env x=pure x:=by intro _;rfl):PS X (.For tg iter body [] pos) (tFor wi g tb):=by
 intro pins s σ H D I h;refine wpAny_For (thn (hi pins s σ H _ I h) fun v s1 h1=>thn h1 fun itv s2 h2=>?_) hs;obtain⟨it,fp,tn,J,H2,e,I2,T,st2,f2,W,⟨m0,w0⟩,turn⟩:=h2;subst e;have stat:∀{H':Hp},(∀b∈fp,H' b=none)->∀b∈fp,iW X pins H' b:=fun hn b hb=>⟨hn b hb,(f2 b hb).2⟩
 refine codeAny_forLoop_any (fun n s'=>∃i σ' H',Inv X pins σ' H' s'/\tn i s'.heap/\(∀b∈fp,H' b=none)/\W i n σ' H') ?_ m0 ⟨0,σ,H2,I2,st2,fun b hb=>(f2 b hb).1,w0⟩;rintro n s3 ⟨i,σ3,H3,I3,st3,fr3,w3⟩;rcases turn i n σ3 H3 w3 with⟨stop,qn⟩ | ⟨go,N,hN,step⟩
 . refine wpAny_passesOwn hp (thn (T.done X rfl rfl rfl hc i pins s3 σ3 H3 X.xe I3 (stat fr3) st3 stop) fun r s4 ⟨hr,I4⟩=>?_);subst hr;exact wpAny_execs_nil ⟨σ3,H3,I4,qn⟩
 . refine wpAny_passesOwn hp (thn (T.item X rfl rfl rfl hc i pins s3 σ3 H3 X.xe I3 (stat fr3) st3 go) fun r s4 ⟨u,hr,h4⟩=>?_);subst hr;refine wpAny_passesOwn hp (thn h4 fun _ s5 ⟨x,H5,I5,r5,y5,st5,fr5⟩=>?_);have I5':=I5.pinned (stat fr5) (T.obj _ _ st5);refine wpAny_passesOwn hp (thn (hg _ s5 σ3 H5 x u _ I5' r5 (step x H5 y5)) fun _ s6 ⟨σ6,H6,I6,q6⟩=>?_);refine wpAny_passesOwn hp (thn (hb _ s6 σ6 H6 _ I6 q6) fun f s7 q7=>?_);have again:∀{σ7:St}{H7:Hp},Inv X (pins++jA fp s5.heap) σ7 H7 s7->N σ7 H7->∃m,m<n/\∃i σ' H',Inv X pins σ' H' s7/\tn i s7.heap/\(∀b∈fp,H' b=none)/\W i m σ' H':=fun{σ7 H7} I7 n7=>by
    obtain⟨m',hm,w7⟩:=hN σ7 H7 n7;refine⟨m',hm,i+1,σ7,H7,I7.unpinned,T.keep _ _ _ st5 fun b hb o e=>(I7.pin (b,o) (qS0 _ (qS0 _ (gr hb e)))).1,fun b hb=>?_,w7⟩;obtain⟨o,e,d⟩:=T.obj _ _ st5 b hb;exact(I7.pin (b,o) (qS0 _ (qS0 _ (gr hb e)))).2.1
   cases f with
   | next=>obtain⟨σ7,H7,I7,n7⟩:=q7;exact again I7 n7
   | cont=>obtain⟨σ7,H7,I7,n7⟩:=q7;exact again I7 n7
   | brk=>obtain⟨σ7,H7,I7,q7⟩:=q7;exact⟨σ7,H7,I7.unpinned,q7⟩
   | ret v=>obtain⟨x7,σ7,H7,I7,r7,q7⟩:=q7;exact⟨x7,σ7,H7,I7.unpinned,r7,q7⟩
end
theorem jI{K:W.Frag}{a:Addr}{xs:List V}{g:TG}{tb:TS}{D:Ends}{σ:St}{H:Hp}(Pv:Nat->St->Hp->Prop)(h0:Pv 0 σ H)(hl:∀i σ H,i<=xs.length->Pv i σ H->SqL K H a xs)
 (hs:∀i x σ H,xs[i]?=some x->Pv i σ H->g x σ H fun σ2 H2=>tb { D with nx:=Pv (i+1),ct:=Pv (i+1),bk:=D.nx } σ2 H2) (hd:∀ σ H,Pv xs.length σ H->D.nx σ H) :
 ∃ W:Nat->Nat->St->Hp->Prop,(∃m,W 0 m σ H)/\∀i m σ H,W i m σ H ->
  ((Itl K a).stop i H/\D.nx σ H)∨((Itl K a).go i H/\∃N:St->Hp->Prop,(∀ σ' H',N σ' H'->∃m',m'<m/\W (i+1) m' σ' H')/\∀x H',(Itl K a).yld i H x H'->g x σ H' fun σ2 H2=>tb { D with nx:=N,ct:=N,bk:=D.nx } σ2 H2):=by
 refine⟨fun i m σ H=>m=xs.length-i/\i<=xs.length/\Pv i σ H,⟨xs.length,by simp,zU0 _,h0⟩,?_⟩;rintro i m σ H ⟨rfl,hi,p⟩;have q:=hl i σ H hi p
 by_cases hlt:i<xs.length
 . refine .inr ⟨⟨xs,xs[i],q,by simp [hlt]⟩,Pv (i+1),fun σ' H' p'=>⟨xs.length-(i+1),by omega,rfl,hlt,p'⟩,fun x H' y=>?_⟩;obtain⟨e,y⟩:=y;subst e;exact hs i x σ _ (y xs q) p
 . have e:i=xs.length:=by omega
   subst e;exact .inl ⟨⟨xs,q,zG0 _⟩,hd σ H p⟩
theorem lZ{K:W.Frag}{a:Addr}{xs:List V}{g:TG}{tb:TS}{D:Ends}{σ:St}{H:Hp}(Pv:Nat->St->Hp->Prop)(h0:Pv 0 σ H)(hl:∀i σ H,i<=xs.length->Pv i σ H->SqT K H a xs)
 (hs:∀i x σ H,xs[i]?=some x->Pv i σ H->g x σ H fun σ2 H2=>tb { D with nx:=Pv (i+1),ct:=Pv (i+1),bk:=D.nx } σ2 H2) (hd:∀ σ H,Pv xs.length σ H->D.nx σ H) :
 ∃ W:Nat->Nat->St->Hp->Prop,(∃m,W 0 m σ H)/\∀i m σ H,W i m σ H ->
  ((Itt K a).stop i H/\D.nx σ H)∨((Itt K a).go i H/\∃N:St->Hp->Prop,(∀ σ' H',N σ' H'->∃m',m'<m/\W (i+1) m' σ' H')/\∀x H',(Itt K a).yld i H x H'->g x σ H' fun σ2 H2=>tb { D with nx:=N,ct:=N,bk:=D.nx } σ2 H2):=by
 refine⟨fun i m σ H=>m=xs.length-i/\i<=xs.length/\Pv i σ H,⟨xs.length,by simp,zU0 _,h0⟩,?_⟩;rintro i m σ H ⟨rfl,hi,p⟩;have q:=hl i σ H hi p
 by_cases hlt:i<xs.length
 . refine .inr ⟨⟨xs,xs[i],q,by simp [hlt]⟩,Pv (i+1),fun σ' H' p'=>⟨xs.length-(i+1),by omega,rfl,hlt,p'⟩,fun x H' y=>?_⟩;obtain⟨e,y⟩:=y;subst e;exact hs i x σ _ (y xs q) p
 . have e:i=xs.length:=by omega
   subst e;exact .inl ⟨⟨xs,q,zG0 _⟩,hd σ H p⟩
theorem dU{lo:Int}{n:Nat}{g:TG}{tb:TS}{D:Ends}{σ:St}{H:Hp}(Pv:Nat->St->Hp->Prop)(h0:Pv 0 σ H)
 (hs:∀i σ H,i<n->Pv i σ H->g (.int (lo+i)) σ H fun σ2 H2=>tb { D with nx:=Pv (i+1),ct:=Pv (i+1),bk:=D.nx } σ2 H2) (hd:∀ σ H,Pv n σ H->D.nx σ H) :
 ∃ W:Nat->Nat->St->Hp->Prop,(∃m,W 0 m σ H)/\∀i m σ H,W i m σ H ->
  ((Itr lo n).stop i H/\D.nx σ H)∨((Itr lo n).go i H/\∃N:St->Hp->Prop,(∀ σ' H',N σ' H'->∃m',m'<m/\W (i+1) m' σ' H')/\∀x H',(Itr lo n).yld i H x H'->g x σ H' fun σ2 H2=>tb { D with nx:=N,ct:=N,bk:=D.nx } σ2 H2):=by
 refine⟨fun i m σ H=>m=n-i/\i<=n/\Pv i σ H,⟨n,by simp,zU0 _,h0⟩,?_⟩;rintro i m σ H ⟨rfl,hi,p⟩
 by_cases hlt:i<n
 . refine .inr ⟨hlt,Pv (i+1),fun σ' H' p'=>⟨n-(i+1),by omega,rfl,hlt,p'⟩,fun x H' y=>?_⟩;obtain⟨e,y⟩:=y;subst e y;exact hs i σ _ hlt p
 . have e:i=n:=by omega
   subst e;exact .inl ⟨zG0 _,hd σ H p⟩
abbrev R2:=V->V->Hp->VK->Prop
def OpR(X:Cx)(f:Value->Value->Sem Value)(r:R2):Prop:=
 ∀(pins:List (Addr×Obj))(s:Shared)(σ:St)(H:Hp)(x y:V)(v u:Value)(Q:VK),Inv X pins σ H s->RelV x v->RelV y u->r x y H Q ->
  wpAny (model X.prog X.w) X.A (f v u) (EP X pins σ Q) X.xe s
def UnR(X:Cx)(f:Value->Sem Value)(r:V->Hp->VK->Prop):Prop:=
 ∀(pins:List (Addr×Obj))(s:Shared)(σ:St)(H:Hp)(x:V)(v:Value)(Q:VK),Inv X pins σ H s->RelV x v->r x H Q ->
  wpAny (model X.prog X.w) X.A (f v) (EP X pins σ Q) X.xe s
def iz(X:Cx)(f:Value)(r:List V->Hp->VK->Prop):Prop:=
 ∀(pins:List (Addr×Obj))(s:Shared)(σ:St)(H:Hp)(xs:List V)(us:List Value)(Q:VK),Inv X pins σ H s->Vals xs us->r xs H Q ->
  wpAny (model X.prog X.w) X.A (call f us) (EP X pins σ Q) X.xe s
def tOp(r:R2)(ta tb:TE):TE:=fun σ H Q=>ta σ H fun x H1=>tb σ H1 fun y H2=>r x y H2 Q
def tUn(r:V->Hp->VK->Prop)(ta:TE):TE:=fun σ H Q=>ta σ H fun x H1=>r x H1 Q
def rI(C:Int->Int->Prop)(g:Int->Int->V):R2:=fun x y H Q=>∃i j,x=.int i/\y=.int j/\C i j/\Q (g i j) H
def rI0(g:Int->Int->V):R2:=fun x y H Q=>∃i j,x=.int i/\y=.int j/\Q (g i j) H
def rU(g:Int->V):V->Hp->VK->Prop:=fun x H Q=>∃i,x=.int i/\Q (g i) H
section
variable {X:Cx} {a b c:Expr} {ta tb tc:TE} {pos:Pos}
theorem Fn(ha:PE X a ta)(hb:PE X b tb){pins:List (Addr×Obj)}{s:Shared}{σ:St}{H:Hp}{R:V->V->Hp->Prop}(I:Inv X pins σ H s)
 (h:ta σ H fun x H1=>tb σ H1 fun y H2=>R x y H2) {Q:Value->Shared->Prop} {f:Value->Value->Sem Value}
 (hf:∀v u s2 x y H2,Inv X pins σ H2 s2->RelV x v->RelV y u->R x y H2->wpAny (model X.prog X.w) X.A (f v u) Q X.xe s2) :
 wpAny (model X.prog X.w) X.A (eval a X.env) (fun v s₁=>wpAny (model X.prog X.w) X.A (eval b X.env) (fun u s₂=>wpAny (model X.prog X.w) X.A (f v u) Q X.xe s₂) X.xe s₁) X.xe s:=by
 refine thn (ha pins s σ H _ I h) fun v s1 ⟨x,H1,I1,r1,q1⟩=>?_
 refine thn (hb pins s1 σ H1 _ I1 q1) fun u s2 ⟨y,H2,I2,r2,q2⟩=>?_
 exact hf v u s2 x y H2 I2 r1 r2 q2
theorem aj{op:Operator}{r:R2}(ho:OpR X (binaryOp op) r)(ha:PE X a ta)(hb:PE X b tb):PE X (.BinOp a op b pos) (tOp r ta tb):=by
 intro pins s σ H Q I h;exact wpAny_BinOp (Fn ha hb I h fun v u s2 x y H2 I2 rx ry q=>ho pins s2 σ H2 x y v u Q I2 rx ry q)
theorem AM{op:UnaryOp}{r:V->Hp->VK->Prop}(ho:UnR X (unaryOp op) r)(ha:PE X a ta):PE X (.UnaryOp op a pos) (tUn r ta):=by
 intro pins s σ H Q I h;exact UnaryOp_ (thn (ha pins s σ H _ I h) fun v s1 ⟨x,H1,I1,r1,q1⟩=>ho pins s1 σ H1 x v Q I1 r1 q1)
theorem opI{f:Value->Value->Sem Value}{C:Int->Int->Prop}{g:Int->Int->Int}
 (rule:∀(i j:Int)(t u:Tok)(s:Shared)(Q:Value->Shared->Prop)(E:Value->Shared->Prop),C i j->Q (.int (g i j) s.toks) { s with toks:=s.toks+1 }->wpAny (model X.prog X.w) X.A (f (.int i t) (.int j u)) Q E s) :
 OpR X f (rI C fun i j=>.int (g i j)):=by
 intro pins s σ H x y v u Q I rx ry h;obtain⟨i,j,rfl,rfl,hc,q⟩:=h;obtain⟨t,rfl⟩:=rx;obtain⟨t',rfl⟩:=ry;exact rule i j t t' s _ _ hc ⟨.int (g i j),H,I.tok _,⟨_,rfl⟩,q⟩
theorem opI0{f:Value->Value->Sem Value}{g:Int->Int->Int}
 (rule:∀(i j:Int)(t u:Tok)(s:Shared)(Q:Value->Shared->Prop)(E:Value->Shared->Prop),Q (.int (g i j) s.toks) { s with toks:=s.toks+1 }->wpAny (model X.prog X.w) X.A (f (.int i t) (.int j u)) Q E s) :
 OpR X f (rI0 fun i j=>.int (g i j)):=by
 intro pins s σ H x y v u Q I rx ry h;obtain⟨i,j,rfl,rfl,q⟩:=h;obtain⟨t,rfl⟩:=rx;obtain⟨t',rfl⟩:=ry;exact rule i j t t' s _ _ ⟨.int (g i j),H,I.tok _,⟨_,rfl⟩,q⟩
theorem CZ{f:Value->Value->Sem Value}{g:Int->Int->Bool}
 (rule:∀(i j:Int)(t u:Tok)(s:Shared)(Q:Value->Shared->Prop)(E:Value->Shared->Prop),Q (.bool (g i j)) s->wpAny (model X.prog X.w) X.A (f (.int i t) (.int j u)) Q E s) :
 OpR X f (rI0 fun i j=>.bl (g i j)):=by
 intro pins s σ H x y v u Q I rx ry h;obtain⟨i,j,rfl,rfl,q⟩:=h;obtain⟨t,rfl⟩:=rx;obtain⟨t',rfl⟩:=ry;exact rule i j t t' s _ _ ⟨.bl (g i j),H,I,rfl,q⟩
def CDiv(i j:Int):Prop:=0<j/\j<1073741824
def CPow(i j:Int):Prop:=0<=j/\j<=1000000/\i.natAbs<2 ^ 64
def CMul(i j:Int):Prop:=(-(2 ^ 64)<i/\i<2 ^ 64)∨(-(2 ^ 64)<j/\j<2 ^ 64)
theorem CMul.ok{i j:Int}(h:CMul i j):IntMulOk i j:=by
 rcases h with⟨h1,h2⟩ | ⟨h1,h2⟩
 . exact .of_left (intBits_le_64 h1 h2)
 . exact .of_right (intBits_le_64 h1 h2)
theorem aU:OpR X (binaryOp .Add) (rI0 fun i j=>.int (i+j)):=opI0 fun _ _ _ _ _ _ _ q=>add_int q
theorem bm:OpR X (binaryOp .Sub) (rI0 fun i j=>.int (i-j)):=opI0 fun _ _ _ _ _ _ _ q=>sub_int q
theorem cq:OpR X (binaryOp .Mult) (rI CMul fun i j=>.int (i*j)):=opI fun _ _ _ _ _ _ _ hc q=>mul_int q hc.ok
theorem xf:OpR X (binaryOp .FloorDiv) (rI CDiv fun i j=>.int (i / j)):=opI fun i j _ _ _ _ _ hc q=>by
 have h1:(0:Int)<j:=hc.1;have h2:j<1073741824:=hc.2;exact floordiv_int (by omega) (by rw[Int.fdiv_eq_ediv_of_nonneg i (by omega)];exact q) (.inl (PyProof.noPylong_small (by omega)))
theorem bd:OpR X (binaryOp .Mod) (rI (fun _ j=>0<j) fun i j=>.int (i % j)):=opI fun i j _ _ _ _ _ hc q=>by
 have h1:(0:Int)<j:=hc;exact mod_int' (by omega) (by rw[Int.fmod_eq_emod_of_nonneg i (by omega)];exact q)
theorem ED:OpR X (binaryOp .Pow) (rI CPow fun i j=>.int (i ^ j.toNat)):=opI fun _ _ _ _ _ _ _ hc q=>pow_int_small hc.1 hc.2.1 hc.2.2 q
theorem unI{f:Value->Sem Value}{g:Int->Int}
 (rule:∀(i:Int)(t:Tok)(s:Shared)(Q:Value->Shared->Prop)(E:Value->Shared->Prop),Q (.int (g i) s.toks) { s with toks:=s.toks+1 }->wpAny (model X.prog X.w) X.A (f (.int i t)) Q E s) :
 UnR X f (rU fun i=>.int (g i)):=by
 intro pins s σ H x v Q I rx h;obtain⟨i,rfl,q⟩:=h;obtain⟨t,rfl⟩:=rx;exact rule i t s _ _ ⟨.int (g i),H,I.tok _,⟨_,rfl⟩,q⟩
theorem uN:UnR X (unaryOp .USub) (rU fun i=>.int (-i)):=unI fun _ _ _ _ _ q=>neg_int q
end
def scal:V->V->Bool
 | .non,.non=>true | .non,.int _=>true | .int _,.non=>true | .non,.bl _=>true | .bl _,.non=>true | .non,.str _=>true | .str _,.non=>true
 | .int _,.int _=>true | .bl _,.bl _=>true | .str _,.str _=>true | .byt _,.byt _=>true
 | .int _,.str _=>true | .str _,.int _=>true | .bl _,.str _=>true | .str _,.bl _=>true
 | _,_=>false
def rEq:R2:=fun x y H Q=>scal x y=true/\Q (.bl (decide (x=y))) H
def rNe:R2:=fun x y H Q=>scal x y=true/\Q (.bl (!decide (x=y))) H
theorem xI{i j:Int}:decide (V.int i=V.int j)=(i==j):=by
 rw[Bool.eq_iff_iff]
 simp
theorem BT{i j:Bool}:decide (V.bl i=V.bl j)=(i==j):=by
 rw[Bool.eq_iff_iff]
 simp
theorem xH{i j:Str}:decide (V.str i=V.str j)=(i==j):=by
 rw[Bool.eq_iff_iff]
 simp
theorem xJ{i j:Array UInt8}:decide (V.byt i=V.byt j)=(i.toList==j.toList):=by
 rw[Bool.eq_iff_iff];cases i;cases j
 simp
section
variable {X:Cx} {a b c:Expr} {ta tb tc:TE} {pos:Pos}
theorem bN{pins:List (Addr×Obj)}{σ:St}{H:Hp}{s:Shared}{Q:VK}{k k':Bool}(I:Inv X pins σ H s)(q:Q (.bl k) H)(e:k=k'):EP X pins σ Q (.bool k') s:=by
 subst e;exact⟨.bl k,H,I,rfl,q⟩
theorem aZ:OpR X (compareOp .Eq) rEq:=by
 intro pins s σ H x y v u Q I rx ry h;obtain⟨hs,q⟩:=h;cases x with
 | non=>
   cases rx;cases y with
   | non=>cases ry;exact PySem.EqNone.eq_none_none (bN I q (by simp))
   | bl j=>cases ry;exact PySem.EqNone.eq_none_bool (bN I q (by simp))
   | int j=>obtain⟨t',rfl⟩:=ry;exact PySem.EqNone.eq_none_int (bN I q (by simp))
   | str j=>obtain⟨t',rfl⟩:=ry;exact PySem.EqNone.eq_none_str (bN I q (by simp))
   | _=>exact absurd (show false=true from hs) qB0
 | bl i=>
   cases rx;cases y with
   | non=>cases ry;exact PySem.EqNone.eq_bool_none (bN I q (by simp))
   | bl j=>cases ry;exact eq_bool (bN I q BT)
   | str j=>obtain⟨t',rfl⟩:=ry;exact PySem.EqMixed.eq_bool_str (bN I q (by simp))
   | _=>exact absurd (show false=true from hs) qB0
 | int i=>
   obtain⟨t,rfl⟩:=rx;cases y with
   | non=>cases ry;exact PySem.EqNone.eq_int_none (bN I q (by simp))
   | int j=>obtain⟨t',rfl⟩:=ry;exact eq_int (bN I q xI)
   | str j=>obtain⟨t',rfl⟩:=ry;exact PySem.EqMixed.eq_int_str (bN I q (by simp))
   | _=>exact absurd (show false=true from hs) qB0
 | str i=>
   obtain⟨t,rfl⟩:=rx;cases y with
   | non=>cases ry;exact PySem.EqNone.eq_str_none (bN I q (by simp))
   | bl j=>cases ry;exact PySem.EqMixed.eq_str_bool (bN I q (by simp))
   | int j=>obtain⟨t',rfl⟩:=ry;exact PySem.EqMixed.eq_str_int (bN I q (by simp))
   | str j=>obtain⟨t',rfl⟩:=ry;exact eq_str (bN I q xH)
   | _=>exact absurd (show false=true from hs) qB0
 | byt i=>
   obtain⟨t,rfl⟩:=rx;cases y with
   | byt j=>obtain⟨t',rfl⟩:=ry;exact PySem.W.eq_bytes (bN I q xJ)
   | _=>exact absurd (show false=true from hs) qB0
 | _=>cases y <;> exact absurd (show false=true from hs) qB0
theorem pU:OpR X (compareOp .NotEq) rNe:=by
 intro pins s σ H x y v u Q I rx ry h;obtain⟨hs,q⟩:=h;cases x with
 | non=>
   cases rx;cases y with
   | non=>cases ry;exact PySem.EqNone.ne_none_none (bN I q (by simp))
   | bl j=>cases ry;exact PySem.EqNone.ne_none_bool (bN I q (by simp))
   | int j=>obtain⟨t',rfl⟩:=ry;exact PySem.EqNone.ne_none_int (bN I q (by simp))
   | str j=>obtain⟨t',rfl⟩:=ry;exact PySem.EqNone.ne_none_str (bN I q (by simp))
   | _=>exact absurd (show false=true from hs) qB0
 | bl i=>
   cases rx;cases y with
   | non=>cases ry;exact PySem.EqNone.ne_bool_none (bN I q (by simp))
   | bl j=>cases ry;exact ne_bool (bN I q (congrArg not BT))
   | str j=>obtain⟨t',rfl⟩:=ry;exact PySem.EqMixed.ne_bool_str (bN I q (by simp))
   | _=>exact absurd (show false=true from hs) qB0
 | int i=>
   obtain⟨t,rfl⟩:=rx;cases y with
   | non=>cases ry;exact PySem.EqNone.ne_int_none (bN I q (by simp))
   | int j=>obtain⟨t',rfl⟩:=ry;exact ne_int (bN I q (congrArg not xI))
   | str j=>obtain⟨t',rfl⟩:=ry;exact PySem.EqMixed.ne_int_str (bN I q (by simp))
   | _=>exact absurd (show false=true from hs) qB0
 | str i=>
   obtain⟨t,rfl⟩:=rx;cases y with
   | non=>cases ry;exact PySem.EqNone.ne_str_none (bN I q (by simp))
   | bl j=>cases ry;exact PySem.EqMixed.ne_str_bool (bN I q (by simp))
   | int j=>obtain⟨t',rfl⟩:=ry;exact PySem.EqMixed.ne_str_int (bN I q (by simp))
   | str j=>obtain⟨t',rfl⟩:=ry;exact ne_str (bN I q (congrArg not xH))
   | _=>exact absurd (show false=true from hs) qB0
 | byt i=>
   obtain⟨t,rfl⟩:=rx;cases y with
   | byt j=>obtain⟨t',rfl⟩:=ry;exact PySem.W.ne_bytes (bN I q (congrArg not xJ))
   | _=>exact absurd (show false=true from hs) qB0
 | _=>cases y <;> exact absurd (show false=true from hs) qB0
theorem gO:OpR X (compareOp .Lt) (rI0 fun i j=>.bl (decide (i<j))):=CZ fun _ _ _ _ _ _ _ q=>lt_int q
theorem pV:OpR X (compareOp .LtE) (rI0 fun i j=>.bl (decide (i<=j))):=CZ fun _ _ _ _ _ _ _ q=>le_int q
theorem ic:OpR X (compareOp .Gt) (rI0 fun i j=>.bl (decide (j<i))):=CZ fun _ _ _ _ _ _ _ q=>gt_int q
theorem DV:OpR X (compareOp .GtE) (rI0 fun i j=>.bl (decide (j<=i))):=CZ fun _ _ _ _ _ _ _ q=>ge_int q
theorem AU:OpR X (compareOp .Is) (fun x y H Q=>y=.non/\Q (.bl (decide (x=.non))) H):=by
 intro pins s σ H x y v u Q I rx ry h;obtain⟨rfl,q⟩:=h;cases ry;refine is_none_gen (bN I q ?_);cases x <;> first
  | (cases rx;rfl)
  | (obtain⟨t,rfl⟩:=rx;rfl)
theorem OpR.or{f:Value->Value->Sem Value}{r r':R2}(h:OpR X f r)(h':OpR X f r'):OpR X f (fun x y H Q=>r x y H Q∨r' x y H Q):=by
 intro pins s σ H x y v u Q I rx ry q;rcases q with q | q
 . exact h pins s σ H x y v u Q I rx ry q
 . exact h' pins s σ H x y v u Q I rx ry q
theorem aq(b:Expr){op:CmpOp}(h:op≠.In:=by decide)(h2:op≠.NotIn:=by decide):behindInMarks op b=false:=by
 have e1:(op==CmpOp.In)=false:=by cases op <;> first | rfl | exact absurd rfl h
 have e2:(op==CmpOp.NotIn)=false:=by cases op <;> first | rfl | exact absurd rfl h2
 cases b <;> simp [behindInMarks,e1,e2]
theorem jg{op:CmpOp}{r:R2}(ho:OpR X (compareOp op) r)(ha:PE X a ta)(hb:PE X b tb)(hm:behindInMarks op b=false):PE X (.Compare a [op] [b] pos) (tOp r ta tb):=by
 intro pins s σ H Q I h;exact wpAny_Compare1 (Fn ha hb I h fun v u s2 x y H2 I2 rx ry q=>ho pins s2 σ H2 x y v u Q I2 rx ry q) hm
def DG(t:TE):TT:=fun σ H Q=>t σ H fun x H'=>∃k,x=.bl k/\Q k H'
theorem am{op:CmpOp}{r:R2}(ho:OpR X (compareOp op) r)(ha:PE X a ta)(hb:PE X b tb)(hm:behindInMarks op b=false):PT X (.Compare a [op] [b] pos) (DG (tOp r ta tb)):=by
 intro pins s σ H Q I h;refine wpAny_isTrue_Compare1 (thn (ha pins s σ H _ I h) fun v s1 ⟨x,H1,I1,r1,q1⟩=>thn (hb pins s1 σ H1 _ I1 q1) fun u s2 ⟨y,H2,I2,r2,q2⟩=>
  thn (ho pins s2 σ H2 x y v u _ I2 r1 r2 q2) fun c s3 ⟨z,H3,I3,r3,k,e,q3⟩=>?_) hm
 subst e;cases r3;exact wpAny_truthy_bool ⟨H3,I3,q3⟩
def zI(r r':R2)(ta tb tc:TE):TE:=fun σ H Q=>ta σ H fun x H1=>tb σ H1 fun y H2=>r x y H2 fun z H3=>∃k,z=.bl k/\
 (if k=true then tc σ H3 fun w' H4=>r' y w' H4 Q else Q (.bl false) H3)
theorem AR{op op':CmpOp}{r r':R2}(ho:OpR X (compareOp op) r)(ho':OpR X (compareOp op') r')(ha:PE X a ta)(hb:PE X b tb)(hc:PE X c tc)
 (hm:lastMarks [op,op'] [b,c]=false:=by with_unfolding_all rfl):PE X (.Compare a [op,op'] [b,c] pos) (zI r r' ta tb tc):=by
 intro pins s σ H Q I h;refine Compare_chain (thn (ha pins s σ H _ I h) fun v s1 ⟨x,H1,I1,r1,q1⟩=>chain_link (thn (hb pins s1 σ H1 _ I1 q1) fun u s2 ⟨y,H2,I2,r2,q2⟩=>
  thn (ho pins s2 σ H2 x y v u _ I2 r1 r2 q2) fun d s3 ⟨z,H3,I3,r3,k,e,q3⟩=>?_)) hm
 subst e;cases r3;refine wpAny_truthy_bool ?_;cases k with
 | false=>exact ite_ff ⟨.bl false,H3,I3,rfl,q3⟩
 | true=>exact ite_tt (chain_last (thn (hc pins s3 σ H3 _ I3 q3) fun w' s4 ⟨z',H4,I4,r4,q4⟩=>ho' pins s4 σ H4 y z' u w' Q I4 r2 r4 q4))
theorem AE{op op':CmpOp}{r r':R2}(ho:OpR X (compareOp op) r)(ho':OpR X (compareOp op') r')(ha:PE X a ta)(hb:PE X b tb)(hc:PE X c tc)
 (hm:lastMarks [op,op'] [b,c]=false:=by with_unfolding_all rfl):PT X (.Compare a [op,op'] [b,c] pos) (DG (zI r r' ta tb tc)):=by
 intro pins s σ H Q I h;refine isTrue_chain (thn (ha pins s σ H _ I h) fun v s1 ⟨x,H1,I1,r1,q1⟩=>test_link (thn (hb pins s1 σ H1 _ I1 q1) fun u s2 ⟨y,H2,I2,r2,q2⟩=>
  thn (ho pins s2 σ H2 x y v u _ I2 r1 r2 q2) fun d s3 ⟨z,H3,I3,r3,k,e,q3⟩=>?_)) hm
 subst e;cases r3;refine wpAny_truthy_bool ?_;cases k with
 | false=>
   obtain⟨k',e',q'⟩:=q3;cases e';exact ite_ff ⟨H3,I3,q'⟩
 | true=>
   refine ite_tt (test_last (thn (hc pins s3 σ H3 _ I3 q3) fun w' s4 ⟨z',H4,I4,r4,q4⟩=>thn (ho' pins s4 σ H4 y z' u w' _ I4 r2 r4 q4) fun d' s5 ⟨z2,H5,I5,r5,k2,e2,q5⟩=>?_));subst e2;cases r5;exact wpAny_truthy_bool ⟨H5,I5,q5⟩
theorem jE:(sizeLine:Nat)<2 ^ 63:=by rw[sizeLine_eq];decide
theorem pW:OpR X (binaryOp .Add) (fun x y H Q=>∃i j,x=.str i/\y=.str j/\i.length+j.length<=sizeLine/\Q (.str (i++j)) H):=by
 intro pins s σ H x y v u Q I rx ry h;obtain⟨i,j,rfl,rfl,hz,q⟩:=h;obtain⟨t,rfl⟩:=rx;obtain⟨t',rfl⟩:=ry;exact add_str (fun t' tk=>⟨.str (i++j),H,I.tok _,⟨_,rfl⟩,q⟩) hz
theorem nV{x:V}{us:List Value}(r:Vals [x] us):∃u,us=[u]/\RelV x u:=by
 cases r with
 | cons r1 r2=>cases r2;exact⟨_,rfl,r1⟩
theorem zv{x y:V}{us:List Value}(r:Vals [x,y] us):∃u w',us=[u,w']/\RelV x u/\RelV y w':=by
 cases r with
 | cons r1 r2=>
   cases r2 with
   | cons r3 r4=>cases r4;exact⟨_,_,rfl,r1,r3⟩
theorem re (hc:X.calm=true):iz X (.builtin "max") (fun xs H Q=>∃i j,xs=[.int i,.int j]/\Q (.int (if j>i then j else i)) H):=by
 intro pins s σ H xs us Q I r h;obtain⟨i,j,rfl,q⟩:=h;obtain⟨u,w',rfl,⟨t,rfl⟩,⟨t',rfl⟩⟩:=zv r;refine max_two_ints (I.ok.hd hc) fun h' tk k=>⟨_,H,I.kept k,?_,q⟩
 by_cases hj:j>i
 . rw[zB0 hj,zB0 hj];exact⟨_,rfl⟩
 . rw[zA0 hj,zA0 hj];exact⟨_,rfl⟩
theorem zp (hc:X.calm=true):iz X (.builtin "min") (fun xs H Q=>∃i j,xs=[.int i,.int j]/\Q (.int (if j<i then j else i)) H):=by
 intro pins s σ H xs us Q I r h;obtain⟨i,j,rfl,q⟩:=h;obtain⟨u,w',rfl,⟨t,rfl⟩,⟨t',rfl⟩⟩:=zv r;refine min_two_ints (I.ok.hd hc) fun h' tk k=>⟨_,H,I.kept k,?_,q⟩
 by_cases hj:j<i
 . rw[zB0 hj,zB0 hj];exact⟨_,rfl⟩
 . rw[zA0 hj,zA0 hj];exact⟨_,rfl⟩
theorem rf:iz X (.type "int") (fun xs H Q=>(∃i,xs=[.int i]/\Q (.int i) H)∨∃k,xs=[.bl k]/\Q (.int (if k then 1 else 0)) H):=by
 intro pins s σ H xs us Q I r h;rcases h with⟨i,rfl,q⟩ | ⟨k,rfl,q⟩
 . obtain⟨u,rfl,t,rfl⟩:=nV r;exact call_int_int ⟨.int i,H,I,⟨_,rfl⟩,q⟩
 . obtain⟨u,rfl,r1⟩:=nV r;cases r1;exact call_int_bool ⟨.int (if k then 1 else 0),H,I.tok _,⟨_,rfl⟩,q⟩
end
structure ObjM(h:Heap)(x dx C:Addr)(mA:Str->Option Value):Prop where
 obj:h.get? x=some (PySem.W.instObj C dx)
 ns:h.Ns1 dx mA
 ne:dx≠x
theorem yQ{h:Heap}{dx:Addr}{mA:Str->Option Value}(n:h.Ns1 dx mA):∃od,h.get? dx=some od/\∀name,PySem.W.lookIn name od=some (mA name):=by
 obtain⟨o,es,ep,ho,hd,hk,_,hm⟩:=n;refine⟨o,ho,fun name=>?_⟩;have e:=hm name;unfold nsFind findBy at e;rw[←Array.find?_toList]at e;unfold PySem.W.lookIn;rw[hd]
 dsimp only
 split
 . rename_i y q;rw[q]at e;exact congrArg some e
 . rename_i q;rw[q]at e;have a:es.toList.any (·.refKey)=false:=by
    rw[List.any_eq_false];intro y hy;obtain⟨z,t,hkey⟩:=hk y (Array.mem_toList_iff.mp hy)
    simp [DictEntry.refKey,hkey]
   have a':¬ es.toList.any (·.refKey)=true:=by rw[a];exact qB0
   rw[zA0 a'];exact congrArg some e
theorem ObjM.look{h:Heap}{x dx C:Addr}{mA:Str->Option Value}(I:ObjM h x dx C mA):∃od,PySem.W.InstAt h x (PySem.W.instObj C dx) C (some od)/\∀name,PySem.W.lookIn name od=some (mA name):=
 let⟨od,ho,hl⟩:=yQ I.ns
 ⟨od,⟨I.obj,rfl,rfl,ho⟩,hl⟩
section
variable {prog:Program} {w:World} {A:Around} {E:Value->Shared->Prop} {s:Shared} {K:W.Frag} {x dx C f:Addr} {mA:Str->Option Value} {name:Str} {v:Value}
theorem Du{expr:Bool}{Q:Value->Shared->Prop}(X:K.In s.heap)(I:ObjM s.heap x dx C mA)(hg:PySem.W.plainGet K C name=true)(hh:PySem.W.hasDictIn K C=true)
 (ha:PySem.W.findIn K (.ref C) name=some none) (hv:mA name=some v) (hv':PySem.W.handedIn v=true) (h:Q v { s with toks:=s.toks+1 }) :
 wpAny (model prog w) A (getAttr (.ref x) name expr) Q E s:=by
 obtain⟨od,J,hl⟩:=I.look;exact PySem.W.get_value X J (PySem.W.plainGet_of hg).1 (PySem.W.findObj_own hh ha rfl (by rw[hl,hv])) hv' h
theorem BH{pl:Sem Bool}{Q:Value×List Value->Shared->Prop}(X:K.In s.heap)(I:ObjM s.heap x dx C mA)(hg:PySem.W.plainGet K C name=true)
 (hf:PySem.W.findIn K (.ref C) name=some (some (.ref f))) (ht:PySem.W.isFn K (.ref f)=true) (hv:mA name=none) (h:Q (.ref f,[.ref x]) s) :
 wpAny (model prog w) A (getMethod (.ref x) name pl) Q E s:=by
 obtain⟨od,J,hl⟩:=I.look;exact PySem.W.method_fn X J (PySem.W.plainGet_of hg).1 (PySem.W.plainGet_of hg).2 hf (beq_iff_eq.mp ht) (by show(PySem.W.lookIn name od).map (·.isSome)=some false;rw[hl,hv];rfl) h
theorem CB{ns:List Str}{Q:Unit->Shared->Prop}(X:K.In s.heap)(I:ObjM s.heap x dx C mA)
 (hs:PySem.W.findIn K (.ref C) "__setattr__"=some (some (.builtin "object.__setattr__"))) (hp:PySem.W.plainOver K C=true) (ht:PySem.W.takerIn K C name=some none) (hh:PySem.W.hasDictIn K C=true)
 (hw:PySem.Within mA ns) (hsz:ns.length<=sizeLine)
 (h:∀h',ObjM h' x dx C (fun y=>if y=name then some v else mA y)->Heap.SameBut dx s.heap h'->Q () { s with heap:=h',toks:=s.toks+2 }) :
 wpAny (model prog w) A (setAttr (.ref x) name v) Q E s:=by
 obtain⟨od,J,hl⟩:=I.look;refine PySem.W.set_plain X J hs (PySem.W.osa_open (s:={ s with toks:=s.toks+1 }) (r:=none) X J hp ht fun b=>?_);obtain⟨cd,hc,hd'⟩:=PySem.W.any_some hh;have hx:s.heap.get? x=some ⟨.ref C,some dx,.plain,#[]⟩:=I.obj;refine zF0 (zI0 (zF0 (zF0 (wpAny_loadPart hx (zF0 (PySem.W.Looks.here (s:={ s with toks:=s.toks+1 }) (PySem.W.looks_clsIn X hc) ?_))))));rw[hd'];refine zI0 (a:=some dx) (zF0 (zI0 (zF0 ?_)));refine wpAny_nsSet1 (s:={ s with toks:=s.toks+1 }) I.ns fun h' hn2 hs2=>?_
 obtain⟨oD,esD,epD,hoD,hdD,hcD⟩:=hn2.count (PySem.Within.cons name v hw);refine zF0 (wpAny_lookBehind hoD (by rw[hdD];exact pastItsLine_dict (qC0 hcD (by rw[qF0];omega))) ?_);exact zI0 (h _ ⟨(hs2.2 _ (Ne.symm I.ne)).trans I.obj,hn2,I.ne⟩ hs2)
theorem Bx{R:Result->Shared->Prop}{vs:List Value}{kw:List (Str×Value)}(X:K.In s.heap)(hm:PySem.W.makesIn K C=true)
 (hi:PySem.W.findIn K (.ref C) "__init__"=some (some (.ref f))) (hf:PySem.W.typeIn K (.ref f)=some (.type "function"))
 (h:codeAny (model prog w) (A.under (.builtin "type.__call__" ⟨.ref C::vs,kw⟩)) (.call (.ref f) ⟨.ref (s.heap.objs.size+1)::vs,kw⟩) (PySem.W.InitBack (s.heap.objs.size+1) R)
  { s with heap:=(s.heap.push PySem.W.emptyDict).push (PySem.W.instObj C s.heap.objs.size) }) :
 codeAny (model prog w) A (.call (.ref C) ⟨vs,kw⟩) R s:=by
 obtain⟨hh,g,d,t,os⟩:=s;exact PySem.W.make_core (PySem.W.makes_of X hm) (PySem.W.looks_findIn X hi) (fun self=>PySem.W.bind_fn X self hf) (.inl rfl) h
end
def cf(f:Str)(v:V):List (Str×V)->List (Str×V)
 | []=>[(f,v)]
 | (g,x)::r=>if g=f then(g,v)::r else(g,x)::cf f v r
theorem aY(f g:Str)(v:V):∀fs:List (Str×V),(cf f v fs).lookup g=if g=f then some v else fs.lookup g
 | []=>by
   show List.lookup g [(f,v)]=_
   by_cases h:g=f
   . have hb:(g==f)=true:=beq_iff_eq.mpr h;simp only[List.lookup,hb,zB0 h]
   . have hb:(g==f)=false:=beq_eq_false_iff_ne.mpr h;simp only[List.lookup,hb,zA0 h]
 | (k,x)::r=>by
   have ih:=aY f g v r;rw[show cf f v ((k,x)::r)=(if k=f then(k,v)::r else(k,x)::cf f v r)from rfl]
   by_cases hk:k=f
   . rw [zB0 hk]
     by_cases h:g=k
     . have hb:(g==k)=true:=beq_iff_eq.mpr h;simp only[List.lookup,hb,zB0 (h.trans hk)]
     . have hb:(g==k)=false:=beq_eq_false_iff_ne.mpr h;simp only[List.lookup,hb,zA0 (fun e:g=f=>h (e.trans hk.symm))]
   . rw [zA0 hk]
     by_cases h:g=k
     . have hb:(g==k)=true:=beq_iff_eq.mpr h;simp only[List.lookup,hb,zA0 (fun e:g=f=>hk (h.symm.trans e))]
     . have hb:(g==k)=false:=beq_eq_false_iff_ne.mpr h;simp only[List.lookup,hb];exact ih
theorem nJ(f:Str)(v:V):∀fs:List (Str×V),f∈(cf f v fs).map (·.1)/\∀g,g∈fs.map (·.1)->g∈(cf f v fs).map (·.1)
 | []=>⟨by simp [cf],fun g h=>by simp at h⟩
 | (k,x)::r=>by
   obtain⟨i1,i2⟩:=nJ f v r;rw[show cf f v ((k,x)::r)=(if k=f then(k,v)::r else(k,x)::cf f v r)from rfl]
   by_cases hk:k=f
   . rw[zB0 hk];subst hk;exact⟨by simp,fun g h=>by simpa using h⟩
   . rw [zA0 hk];refine⟨?_,fun g h=>?_⟩
     . rw[zZ0];exact qR0 _ i1
     . rw [zZ0]at h ⊢;rcases qD0 h with e | e
       . exact List.mem_cons.mpr (.inl e)
       . exact qR0 _ (i2 g e)
theorem ou(f:Str)(v:V):∀fs:List (Str×V),(cf f v fs).length<=fs.length+1
 | []=>by simp [cf]
 | (k,x)::r=>by
   have ih:=ou f v r;rw[show cf f v ((k,x)::r)=(if k=f then(k,v)::r else(k,x)::cf f v r)from rfl]
   by_cases hk:k=f
   . rw[zB0 hk,qF0,qF0];omega
   . rw[zA0 hk,qF0,qF0];omega
theorem RelO.some_of{v:V}{o:Option Value}(r:RelO (some v) o):∃u,o=some u/\RelV v u:=by
 cases o with
 | none=>exact(show False from r).elim
 | some u=>exact⟨u,rfl,r⟩
theorem RelO.none_of{o:Option Value}(r:RelO none o):o=none:=by
 cases o with
 | none=>rfl
 | some u=>exact(show False from r).elim
theorem za{v:V}{u:Value}(r:RelV v u):PySem.W.handedIn u=true:=by
 cases v with
 | non=>cases(show u=Value.none from r);rfl
 | bl b=>cases(show u=Value.bool b from r);rfl
 | int i=>obtain⟨t,e⟩:=(show ∃t,u=Value.int i t from r);cases e;rfl
 | str x=>obtain⟨t,e⟩:=(show ∃t,u=Value.str x t from r);cases e;rfl
 | byt b=>obtain⟨t,e⟩:=(show ∃t,u=Value.bytes b t from r);cases e;rfl
 | flt b=>obtain⟨t,e⟩:=(show ∃t,u=Value.float b t from r);cases e;rfl
 | ref a=>cases(show u=Value.ref a from r);rfl
 | ty n=>cases(show u=Value.type n from r);rfl
section
variable {P:Program} {w:World} {H H':Hp} {h h':Heap} {a C dx:Addr} {fs fs':List (Str×V)}
theorem oS(hok:HOk P w H h)(e:H a=some (.ins C dx fs)):∃mA,ObjM h a dx C mA/\(∀f,RelO (fs.lookup f) (mA f))/\PySem.Within mA (fs.map (·.1))/\fs.length<=1000/\H dx=some (.own a):=by
 obtain⟨d,z,ne,ob,mA,n,r,q⟩:=(show ObjOk P w H h a (.ins C dx fs)from hok a _ e)
 exact⟨mA,⟨ob,n,ne⟩,r,q,z,d⟩
end
structure Cls(K:W.Frag)(C:Addr):Prop where
 pg:PySem.W.plainGet K C Str.empty=true
 hd:PySem.W.hasDictIn K C=true
 po:PySem.W.plainOver K C=true
 sa:PySem.W.findIn K (.ref C) "__setattr__"=some (some (.builtin "object.__setattr__"))
theorem Cls.get{K:W.Frag}{C:Addr}(c:Cls K C)(f:Str):PySem.W.plainGet K C f=true:=c.pg
def NoAttr(K:W.Frag)(C:Addr)(f:Str):Prop:=PySem.W.findIn K (.ref C) f=some none
theorem NoAttr.taker{K:W.Frag}{C:Addr}{f:Str}(n:NoAttr K C f):PySem.W.takerIn K C f=some none:=by
 unfold PySem.W.takerIn;rw[show PySem.W.findIn K (.ref C) f=some none from n];rfl
structure Meth(K:W.Frag)(C:Addr)(m:Str)(f:Addr):Prop where
 at_:PySem.W.findIn K (.ref C) m=some (some (.ref f))
 fn:PySem.W.isFn K (.ref f)=true
 kp:PySem.W.keepIn K (.ref f)=true
section
variable {X:Cx} {pins:List (Addr×Obj)} {σ:St} {H:Hp} {s:Shared} {a C dx:Addr} {fs:List (Str×V)} {f:Str} {v:V} {A:Around} {E:Value->Shared->Prop}
theorem vV{b:Bool}{Q:Value->Shared->Prop}(I:Inv X pins σ H s)(e:H a=some (.ins C dx fs))(c:Cls X.K C)(n:NoAttr X.K C f)(l:fs.lookup f=some v)
 (h:∀u s',Inv X pins σ H s'->RelV v u->Q u s'):wpAny (model X.prog X.w) A (getAttr (.ref a) f b) Q E s:=by
 obtain⟨mA,O,r,_,_,_⟩:=oS I.hok e;obtain⟨u,hu,ru⟩:=RelO.some_of (v:=v) (o:=mA f) (by rw[←l];exact r f);exact Du I.kIn O (c.get f) c.hd n hu (za ru) (h u _ (I.tok _) ru)
theorem qj{m:Str}{g:Addr}{pl:Sem Bool}{Q:Value×List Value->Shared->Prop}(I:Inv X pins σ H s)(e:H a=some (.ins C dx fs))(c:Cls X.K C)(k:Meth X.K C m g)(l:fs.lookup m=none)
 (h:Q (.ref g,[.ref a]) s):wpAny (model X.prog X.w) A (getMethod (.ref a) m pl) Q E s:=by
 obtain⟨mA,O,r,_,_,_⟩:=oS I.hok e;have hn:mA m=none:=RelO.none_of (by rw[←l];exact r m);exact BH I.kIn O (c.get m) k.at_ k.fn hn h
theorem uY{y:V}{u:Value}{Q:Unit->Shared->Prop}(I:Inv X pins σ H s)(e:H a=some (.ins C dx fs))(c:Cls X.K C)(n:NoAttr X.K C f)(hl:fs.length<1000)(ry:RelV y u)
 (h:∀s',Inv X pins σ (upd H a (.ins C dx (cf f y fs))) s'->Q () s'):wpAny (model X.prog X.w) A (setAttr (.ref a) f u) Q E s:=by
 obtain⟨mA,O,r,wi,_,ho⟩:=oS I.hok e;have hz:(fs.map (·.1)).length<=sizeLine:=by rw[zE0,sizeLine_eq];omega
 refine CB I.kIn O c.sa c.po n.taker c.hd wi hz fun h' O' sb=>h _ ?_
 have hd:∃o,h'.get? dx=some o:=let⟨o,_,_,e',_⟩:=O'.ns;⟨o,e'⟩
 refine I.write (x:=a) (e:=dx) (by rw[e];exact True.intro) (.inr ho) (fun b q hb z=>(sb.2 b hb).trans z) hd ?_;refine⟨by rw[ay O.ne];exact ho,?_,O.ne,O'.obj,_,O'.ns,fun g=>?_,fun g hg=>?_⟩
 . have:=ou f y fs;omega
 . show RelO ((cf f y fs).lookup g) (if g=f then some u else mA g);rw[aY]
   by_cases q:g=f
   . rw[zB0 q,zB0 q];exact ry
   . rw[zA0 q,zA0 q];exact r g
 . by_cases q:g=f
   . rw[q];exact(nJ f y fs).1
   . refine(nJ f y fs).2 g (wi g fun z=>hg ?_);show(if g=f then some u else mA g)=none;rw[zA0 q];exact z
theorem Inv.made(I:Inv X pins σ H s):Inv X pins σ (upd (upd H s.heap.objs.size (.own (s.heap.objs.size+1))) (s.heap.objs.size+1) (.ins C s.heap.objs.size []))
 { s with heap:=(s.heap.push PySem.W.emptyDict).push (PySem.W.instObj C s.heap.objs.size) }:=by
 have e1:(s.heap.push PySem.W.emptyDict).get? s.heap.objs.size=some PySem.W.emptyDict:=zW0 s.heap rfl;have e2:((s.heap.push PySem.W.emptyDict).push (PySem.W.instObj C s.heap.objs.size)).get? (s.heap.objs.size+1)=some (PySem.W.instObj C s.heap.objs.size):=by
  have:=zW0 (s.heap.push PySem.W.emptyDict) (o:=PySem.W.instObj C s.heap.objs.size) rfl
  rwa [Heap.size_push]at this
 have e3:(s.heap.push PySem.W.emptyDict).Ns s.heap.objs.size (fun _=>none):=⟨PySem.W.emptyDict,#[],_,e1,rfl,(fun e he=>absurd he (by simp)),fun _=>rfl⟩
 have I1:=I.laid (a:=s.heap.objs.size) (o:=.own (s.heap.objs.size+1)) (h':=s.heap.push PySem.W.emptyDict) (t':=s.toks) (fun b u q=>zO0 _ q) (zG0 _) ⟨_,e1⟩;refine I1.laid (a:=s.heap.objs.size+1) (o:=.ins C s.heap.objs.size []) (t':=s.toks) (fun b u q=>zO0 _ q) (Nat.le_of_eq (Heap.size_push _ _)) ?_;have ne:s.heap.objs.size≠s.heap.objs.size+1:=zV0 (Nat.lt_succ_self _);refine⟨by rw[ay ne,ai],zU0 _,ne,e2,fun _=>none,(Heap.Ns1.of_empty e3).at fun o q=>zO0 _ q,fun _=>True.intro,fun y hy=>absurd rfl hy⟩
theorem DC{prog:Program}{w:World}{env:Env}{e:Expr}{f:Str}{pos:Pos}{s:Shared}{Q:Value->Shared->Prop}(hb:attributeBase e f env (eval e env)=eval e env)
 (h:wpAny (model prog w) A (eval e env) (fun o s₁=>wpAny (model prog w) A (getAttr o f true) Q E s₁) E s):wpAny (model prog w) A (eval (.Attribute e f pos) env) Q E s:=
 Attribute_any_ h (by rw[arm_eval_Attribute,hb])
end
def tFld(K:W.Frag)(ta:TE)(f:Str):TE:=fun σ H Q=>ta σ H fun x H1=>∃a C dx fs v,x=.ref a/\H1 a=some (.ins C dx fs)/\Cls K C/\NoAttr K C f/\fs.lookup f=some v/\Q v H1
def sFld(K:W.Frag)(ta tv:TE)(f:Str):TS:=fun D σ H=>tv σ H fun y H1=>ta σ H1 fun x H2=>∃a C dx fs,x=.ref a/\H2 a=some (.ins C dx fs)/\Cls K C/\NoAttr K C f/\fs.length<1000/\
 D.nx σ (upd H2 a (.ins C dx (cf f y fs)))
section
variable {X:Cx} {o e value:Expr} {f:Str} {pos pos' tpos:Pos} {ta tv:TE}
theorem ax(he:PE X e ta)(hb:attributeBase e f X.env (eval e X.env)=eval e X.env):PE X (.Attribute e f pos) (tFld X.K ta f):=by
 intro pins s σ H Q I h;refine DC hb (thn (he pins s σ H _ I h) fun u s1 ⟨x,H1,I1,rx,a,C,dx,fs,v,ex,ea,c,n,l,q⟩=>?_);subst ex;obtain rfl:u=Value.ref a:=rx;exact vV I1 ea c n l fun u' s2 I2 ru=>⟨v,H1,I2,ru,q⟩
theorem aX(ha:PE X o ta)(hv:PE X value tv)(hs:swapsWith value (some (.Attribute o f pos')) pos.line X.env=pure false):PS X (.Assign [.Attribute o f pos'] value pos) (sFld X.K ta tv f):=by
 intro pins s σ H D I h;refine plainObj_wpAny_Assign_Attribute (thn (hv pins s σ H _ I h) fun u s1 ⟨y,H1,I1,ry,q⟩=>thn (ha pins s1 σ H1 _ I1 q) fun ov s2 ⟨x,H2,I2,rx,a,C,dx,fs,ex,ea,c,n,l,q2⟩=>?_) hs;subst ex;obtain rfl:ov=Value.ref a:=rx;exact uY I2 ea c n l ry fun s3 I3=>⟨σ,_,I3,q2⟩
end
section
variable {X:Cx} {pins:List (Addr×Obj)} {σ:St} {H:Hp} {s:Shared} {A:Around} {E:Value->Shared->Prop} {Q:Value->Shared->Prop} {c:Value} {b:Bool}
inductive TyOf(K:W.Frag)(H:Hp):V->Value->Prop where
 | non:TyOf K H .non (.type "NoneType")
 | bl (x:Bool):TyOf K H (.bl x) (.type "bool")
 | int (i:Int):TyOf K H (.int i) (.type "int")
 | str (x:Str):TyOf K H (.str x) (.type "str")
 | flt (x:UInt64):TyOf K H (.flt x) (.type "float")
 | lst {a:Addr} {xs:List V} (e:H a=some (.lst xs)):TyOf K H (.ref a) (.type "list")
 | frz {a:Addr} {o:Obj} {xs:List V} (e:H a=some (.frz o (.lst xs))):TyOf K H (.ref a) (.type "list")
 | tup {a:Addr} {xs:List V} (e:H a=some (.tup xs)):TyOf K H (.ref a) (.type "tuple")
 | dK {a:Addr} {kvs:List (Key×V)} (e:H a=some (.dK kvs)):TyOf K H (.ref a) (.type "dict")
 | dT {a:Addr} {kvs:List (List Key×V)} (e:H a=some (.dT kvs)):TyOf K H (.ref a) (.type "dict")
 | ins {a C dx:Addr} {fs:List (Str×V)} (e:H a=some (.ins C dx fs)) (cl:Cls K C) (ha:PySem.W.findIn K (.ref C) "__class__"=some (some (.builtin "object.__class__")))
  (hn:PySem.W.specialIn K (.builtin "object.__class__") "__get__"=some (some (.builtin "getset_descriptor.__get__"))) (htk:PySem.W.takesIn K (.builtin "object.__class__")=some true)
  (hm:PySem.W.mroIn K C (.type "object")=some true):TyOf K H (.ref a) (.ref C)
theorem yX{x:V}{u t:Value}(I:Inv X pins σ H s)(rx:RelV x u)(ty:TyOf X.K H x t)(e:PySem.W.kitOne X.K t c=some b)(h:∀tk,Q (.bool b) { s with toks:=tk }) :
 wpAny (model X.prog X.w) A (call (.builtin "isinstance") [u,c]) Q E s:=by
 cases ty with
 | non=>cases(show u=Value.none from rx);exact PySem.W.kia_one PySem.W.kitx_none I.kIn True.intro e (fun z=>nomatch z) h
 | bl y=>cases(show u=Value.bool y from rx);exact PySem.W.kia_one PySem.W.kitx_bool I.kIn True.intro e (fun z=>nomatch z) h
 | int i=>obtain⟨t,q⟩:=(show ∃t,u=Value.int i t from rx);cases q;exact PySem.W.kia_one PySem.W.kitx_int I.kIn True.intro e (fun z=>nomatch z) h
 | str y=>obtain⟨t,q⟩:=(show ∃t,u=Value.str y t from rx);cases q;exact PySem.W.kia_one PySem.W.kitx_str I.kIn True.intro e (fun z=>nomatch z) h
 | flt y=>obtain⟨t,q⟩:=(show ∃t,u=Value.float y t from rx);cases q;exact PySem.W.kia_one PySem.W.kitx_float I.kIn True.intro e (fun z=>nomatch z) h
 | @lst a xs ea=>
   cases(show u=Value.ref a from rx);obtain⟨_,_,n,_,h1⟩:=(show ObjOk X.prog X.w H s.heap a (.lst xs)from I.hok a _ ea)
   exact PySem.W.kia_one PySem.W.kitx_list I.kIn ⟨_,h1,rfl⟩ e (fun z=>nomatch z) h
 | @frz a ob xs ea=>
   cases(show u=Value.ref a from rx);obtain⟨_,_,_,n,_,h1⟩:=(show ObjOk X.prog X.w H s.heap a (.frz ob (.lst xs))from I.hok a _ ea)
   exact PySem.W.kia_one PySem.W.kitx_list I.kIn ⟨_,h1,rfl⟩ e (fun z=>nomatch z) h
 | @tup a xs ea=>
   cases(show u=Value.ref a from rx);obtain⟨_,_,_,p,_⟩:=(show ObjOk X.prog X.w H s.heap a (.tup xs)from I.hok a _ ea)
   obtain⟨o,h1,h2,_⟩:=p;exact PySem.W.kia_one PySem.W.kitx_tuple I.kIn ⟨o,h1,h2⟩ e (fun z=>nomatch z) h
 | @dK a kvs ea=>
   cases(show u=Value.ref a from rx);obtain⟨_,_,vs,_,p⟩:=(show ObjOk X.prog X.w H s.heap a (.dK kvs)from I.hok a _ ea)
   obtain⟨o,es,ep,h1,h2,_⟩:=p;exact PySem.W.kia_one PySem.W.kitx_dict I.kIn ⟨o,h1,h2.1⟩ e (fun z=>nomatch z) h
 | @dT a kvs ea=>
   cases(show u=Value.ref a from rx);obtain⟨_,_,xs,_,o,es,ep,h1,h2,_⟩:=(show ObjOk X.prog X.w H s.heap a (.dT kvs)from I.hok a _ ea)
   exact PySem.W.kia_one PySem.W.kitx_dict I.kIn ⟨o,h1,h2.1⟩ e (fun z=>nomatch z) h
 | @ins a C dx fs ea cl ha hn htk hm=>
   cases(show u=Value.ref a from rx);obtain⟨mA,O,_⟩:=oS I.hok ea;obtain⟨od,J,_⟩:=O.look;exact PySem.W.kia_one (PySem.W.kitx_own (cl.get _) cl.hd ha hn htk hm) I.kIn J e (fun z=>nomatch z) h
end
structure Room(k:Nat)(A:Around):Prop where
 hd:A.handled=none
 dp:A.depth+3*k+5<recursionLimit
 un:A.units+16*k+200<cLine
theorem Room.mono{j k:Nat}{A:Around}(r:Room k A)(h:j<=k):Room j A:=⟨r.hd,by have:=r.dp;omega,by have:=r.un;omega⟩
theorem Room.deeper{k:Nat}{A:Around}(r:Room (k+1) A)(env:Env):Room k (A.deeper env):=
 ⟨r.hd,by have:=r.dp;show A.depth+1+3*k+5<_;omega,by have:=r.un;show A.units+3+16*k+200<_;omega⟩
theorem vN {A:Around} {C:Addr} {us:List Value} {kw:List (Str×Value)}:(A.under (.builtin "type.__call__" ⟨.ref C::us,kw⟩)).depth=A.depth+1:=by
 first | rfl | simp [Around.under,Code.weight,Code.isCreation,Code.isGuard,Code.isCaller,Code.frames,Code.isFrame,guardIds]
theorem vM {A:Around} {C:Addr} {us:List Value} {kw:List (Str×Value)}:(A.under (.builtin "type.__call__" ⟨.ref C::us,kw⟩)).units=A.units+1:=by
 first | rfl | simp [Around.under,Code.cUnits,Code.frames,Code.isFrame]
theorem Room.make {k:Nat} {A:Around} (r:Room (k+1) A) (C:Addr) (us:List Value) (kw:List (Str×Value)):Room k (A.under (.builtin "type.__call__" ⟨.ref C::us,kw⟩)):=
 ⟨r.hd,by have:=r.dp;rw[vN];omega,by have:=r.un;rw[vM];omega⟩
theorem Room.depth{k:Nat}{A:Around}(r:Room k A):A.depth<recursionLimit:=by have:=r.dp;omega
theorem Room.units{k:Nat}{A:Around}(r:Room k A):A.units+64<cLine:=by have:=r.un;omega
def Cs:TA:=fun _ H Q=>Q [] H
def zH(ta:TE)(tr:TA):TA:=fun σ H Q=>ta σ H fun x H1=>tr σ H1 fun xs H2=>Q (x::xs) H2
section
variable {X:Cx} {e:Expr} {es:List Expr} {te:TE} {t:TA} {pos:Pos}
theorem ae:PA X [] Cs:=fun _ _ _ _ H Q I h=>Calls.spliced_nil ⟨[],H,I,.nil,h⟩
theorem aa(ha:PE X e te)(hr:PA X es t)(hs:starEach (e::es) X.env=(false,eval e X.env)::starEach es X.env:=by rfl):PA X (e::es) (zH te t):=by
 intro pos pins s σ H Q I h;rw[hs];show wpAny _ _ (spliced ((false,eval e X.env)::backTo pos (starEach es X.env))) _ _ s;refine Calls.spliced_cons (thn (ha pins s σ H _ I h) fun u s1 ⟨x,H1,I1,r1,q1⟩=>?_);exact thn (hr pos pins s1 σ H1 _ I1 q1) fun us s2 ⟨xs,H2,I2,r2,q2⟩=>⟨x::xs,H2,I2,.cons r1 r2,q2⟩
def tTup(t:TA):TE:=fun σ H Q=>t σ H fun xs H1=>xs.length<=sizeLine/\∀p,H1 p=none->Q (.ref p) (upd H1 p (.tup xs))
def tLst(t:TA):TE:=fun σ H Q=>t σ H fun xs H1=>xs.length<=sizeLine/\∀p,H1 p=none->Q (.ref p) (upd H1 p (.lst xs))
theorem bc{x1}(h:PA X es t):PE X (.Tuple es x1 pos) (tTup t):=by
 intro pins s σ H Q I hq;refine wpAny_Tuple_spliced (thn (h pos pins s σ H _ I hq) fun us s1 ⟨xs,H1,I1,r,z,q⟩=>⟨by rw[←r.length];exact z,?_⟩);have hf:H1 s1.heap.objs.size=none:=I1.hok.fresh (zG0 _);refine⟨.ref s1.heap.objs.size,upd H1 s1.heap.objs.size (.tup xs),I1.laid (t':=s1.toks) (fun b u e=>zO0 _ e) (zG0 _) ?_,rfl,q _ hf⟩;exact⟨z,us,r,⟨_,zW0 _ rfl,rfl,_,rfl⟩,_,zW0 _ rfl,rfl⟩
theorem cw(h:PA X es t):PE X (.List es pos) (tLst t):=by
 intro pins s σ H Q I hq;refine wpAny_List_spliced (thn (h pos pins s σ H _ I hq) fun us s1 ⟨xs,H1,I1,r,z,q⟩=>⟨by rw[←r.length];exact z,?_⟩);have hf:H1 s1.heap.objs.size=none:=I1.hok.fresh (zG0 _);refine⟨.ref s1.heap.objs.size,upd H1 s1.heap.objs.size (.lst xs),I1.laid (t':=s1.toks) (fun b u e=>zO0 _ e) (zG0 _) ?_,rfl,q _ hf⟩;exact⟨z,us,0,r,zW0 _ rfl⟩
end
abbrev Sp:=List V->Hp->VK->XK->Prop
abbrev CXT:=List Env->Hp->Shared->XK->Value->Shared->Prop
structure Env0(P:Program)(w:World)(K:W.Frag)(mg:Str->Option Value)(base:Heap)(A:Around)(outer:List Env)(s:Shared)(H:Hp):Prop where
 frames:A.frames=some outer
 mod:Mod K mg base
 bs:∀b o,base.get? b=some o->s.heap.get? b=some o/\H b=none
 bsz:base.objs.size<=s.heap.objs.size
 funs:s.heap.FunFrames base outer
 frf:∀b∈frs outer,H b=none
 hok:HOk P w H s.heap
 bare:AllBare s.gens
def CE(outer:List Env)(P:Program)(w:World)(H:Hp)(s:Shared)(Q:VK)(u:Value)(s':Shared):Prop:=
 ∃v H',s'.os=s.os/\AllBare s'.gens/\Un (frs outer) [] H H' s.heap s'.heap/\HOk P w H' s'.heap/\RelV v u/\Q v H'
def CR(CX:CXT)(outer:List Env)(P:Program)(w:World)(H:Hp)(s:Shared)(Q:VK)(E:XK)(r:Result)(s':Shared):Prop:=
 match r with
 | .ok (.ret u)=>CE outer P w H s Q u s'
 | .ok _=>False
 | .error e=>CX outer H s E e s'
structure FnOk(P:Program)(w:World)(K:W.Frag)(mg:Str->Option Value)(base:Heap)(CX:CXT)(k:Nat)(f:Addr)(fd:FuncData)(ps:List Str)(sp:Sp):Prop where
 len:∀vs H Q E,sp vs H Q E->vs.length=ps.length
 run:∀(A:Around)(outer:List Env)(s:Shared)(H:Hp)(args:Args)(us:List Value)(vs:List V)(Q:VK)(E:XK),Room k A->Env0 P w K mg base A outer s H->BindsTo s fd args (ps.zip us)->Vals vs us->sp vs H Q E ->
  codeAny (model P w) A (.call (.ref f) args) (CR CX outer P w H s Q E) s
theorem Env0.make{P:Program}{w:World}{K:W.Frag}{mg:Str->Option Value}{base:Heap}{A:Around}{outer:List Env}{s:Shared}{H:Hp}(e:Env0 P w K mg base A outer s H)(C:Addr)(us:List Value)(kw:List (Str×Value)) :
 Env0 P w K mg base (A.under (.builtin "type.__call__" ⟨.ref C::us,kw⟩)) outer s H:=⟨by first | exact e.frames | (simpa [Around.under,Code.envs,Code.isFrame,pushEnvs]using e.frames),e.mod,e.bs,e.bsz,e.funs,e.frf,e.hok,e.bare⟩
section
variable {X:Cx} {pins:List (Addr×Obj)} {σ:St} {H:Hp} {s s':Shared}
theorem Inv.env0(I:Inv X pins σ H s):Env0 X.prog X.w X.K X.mg X.base X.A X.stack s H:=
 ⟨I.ok.frames,I.ok.mod,I.bs,qC0 I.ok.bsz I.sz,I.stack,I.stkFree,I.hok,I.bare⟩
theorem Inv.after{Q:VK}{u:Value}(I:Inv X pins σ H s)(h:CE X.stack X.prog X.w H s Q u s'):EP X pins σ Q u s':=by
 obtain⟨v,H',os,bare,un,hok,r,q⟩:=h;obtain⟨hh,g,d,t,os'⟩:=s';obtain rfl:os'=s.os:=os;exact⟨v,H',I.call (h':=hh) (g':=g) (d':=d) (t':=t) (ch:=[]) un hok bare (fun b z=>absurd z (by simp)),r,q⟩
end
def zJ(sp:Sp)(dvs:List V)(E:XK)(t:TA):TE:=fun σ H Q=>t σ H fun vs H1=>sp (vs++dvs) H1 Q E
def DI(C:Addr)(m:Str)(sp:Sp)(dvs:List V)(E:XK)(ta:TE)(t:TA):TE:=fun σ H Q=>ta σ H fun x H1=>∃a dx fs,x=.ref a/\H1 a=some (.ins C dx fs)/\fs.lookup m=none/\
 t σ H1 fun vs H2=>sp (x::(vs++dvs)) H2 Q E
def tMake(C:Addr)(sp:Sp)(dvs:List V)(E:XK)(t:TA):TE:=fun σ H Q=>t σ H fun vs H1=>∀x dx,H1 x=none->H1 dx=none->dx≠x ->
 sp (.ref x::(vs++dvs)) (upd (upd H1 dx (.own x)) x (.ins C dx [])) (fun v H2=>v=.non/\Q (.ref x) H2) E
def Binds(K:W.Frag)(fd:FuncData)(ps:List Str)(ds:List Value):Prop:=
 ∀(s:Shared)(us:List Value),K.In s.heap->(us++ds).length=ps.length->BindsTo s fd ⟨us,[]⟩ (ps.zip (us++ds))
theorem Binds.all{K:W.Frag}{fd:FuncData}{ps:List Str}(h:∀us:List Value,us.length=ps.length->bindArgs fd ⟨us,[]⟩=pure (ps.zip us)):Binds K fd ps []:=fun s us _ hl=>by
 rw[List.append_nil]at hl ⊢;exact .of_eq (h us hl)
def li(CX:CXT)(X:Cx)(E:XK):Prop:=∀(pins:List (Addr×Obj))(σ:St)(H:Hp)(s:Shared)(e:Value)(s':Shared),Inv X pins σ H s->CX X.stack H s E e s'->X.xe e s'
section
variable {X:Cx} {CX:CXT} {k:Nat} {f C:Addr} {fd:FuncData} {ps:List Str} {sp:Sp} {dvs:List V} {ds:List Value} {E:XK} {x m:Str} {p pos apos:Pos} {e o:Expr} {es:List Expr} {ta:TE} {t:TA}
theorem vd{pins:List (Addr×Obj)}{σ:St}{H:Hp}{s:Shared}{Q:VK}{us:List Value}{vs:List V}(F:FnOk X.prog X.w X.K X.mg X.base CX k f fd ps sp)(hr:Room k X.A)(hb:Binds X.K fd ps ds)(hd:Vals dvs ds)(hx:li CX X E)
 (I:Inv X pins σ H s) (r:Vals vs us) (h:sp (vs++dvs) H Q E):wpAny (model X.prog X.w) X.A (call (.ref f) us) (EP X pins σ Q) X.xe s:=by
 have r2:Vals (vs++dvs) (us++ds):=r.append hd;have hl:(us++ds).length=ps.length:=by rw[←r2.length];exact F.len _ _ _ _ h
 refine wpAny_call (codeAny_mono (F.run X.A X.stack s H ⟨us,[]⟩ (us++ds) (vs++dvs) Q E hr I.env0 (hb s us I.kIn hl) r2 h) fun r s' hq=>?_);cases r with
 | error e=>exact hx pins σ H s e s' I hq
 | ok fl=>
   cases fl with
   | ret u=>exact I.after hq
   | next=>exact False.elim hq
   | brk=>exact False.elim hq
   | cont=>exact False.elim hq
theorem CU(F:FnOk X.prog X.w X.K X.mg X.base CX k f fd ps sp)(hr:Room k X.A)(hg:Gl X x)(hm:X.mg x=some (.ref f))(hk:PySem.W.keepIn X.K (.ref f)=true)(hb:Binds X.K fd ps ds)(hd:Vals dvs ds)(hx:li CX X E)
 (ha:PA X (e::es) t) (hdb:(x==("__debug__":Str))=false:=by decide) (he:starEach (e::es) X.env=(false,eval e X.env)::starEach es X.env:=by rfl) (hpl:(backTo pos (starEach es X.env)).any (·.1)=false:=by rfl) :
 PE X (.Call (.Name x p) (e::es) [] pos) (zJ sp dvs E t):=by
 intro pins s σ H Q I h;refine wpAny_Call_Name_kw (sF I hg hm ?_ hdb);refine PySem.W.callWith_K (h₀:=X.base) I.ok.mod.kin hk (thn (ha pos pins s σ H _ I h) fun us s1 ⟨vs,H1,I1,r,q⟩=>⟨I1.kIn,?_⟩) he hpl;exact vd F hr hb hd hx I1 r q
theorem db{pl:Sem Bool}(he:PE X o ta)(c:Cls X.K C)(hm:Meth X.K C m f)(F:FnOk X.prog X.w X.K X.mg X.base CX k f fd ps sp)(hr:Room k X.A)(hb:Binds X.K fd ps ds)(hd:Vals dvs ds)(hx:li CX X E)(ha:PA X (e::es) t)
 (hst:starEach (e::es) X.env=(false,eval e X.env)::starEach es X.env:=by rfl) (hpl:(backTo pos (starEach es X.env)).any (·.1)=false:=by rfl)
 (ht:eval (.Call (.Attribute o m apos) (e::es) [] pos) X.env=(do
  let ov ←eval o X.env
  standAt apos.atName
  let(f,first) ←holding [ov] (getMethod ov m pl)
  callWith pos f first (backTo pos (starEach (e::es) X.env)) (backToKw pos (keywordEach [] X.env))):=by rfl) :
 PE X (.Call (.Attribute o m apos) (e::es) [] pos) (DI C m sp dvs E ta t):=by
 intro pins s σ H Q I h;refine PySem.W.methodCall_KW (pl:=pl) (thn (he pins s σ H _ I h) fun u s1 ⟨x,H1,I1,rx,a,dx,fs,ex,ea,l,q⟩=>?_) ht;subst ex;obtain rfl:u=Value.ref a:=rx;refine qj I1 ea c hm l ?_;refine PySem.W.callWith_K (first:=[.ref a]) (h₀:=X.base) I.ok.mod.kin hm.kp (thn (ha pos pins s1 σ H1 _ I1 q) fun us s2 ⟨vs,H2,I2,r,q2⟩=>⟨I2.kIn,?_⟩) hst hpl;exact vd (us:=.ref a::us) (vs:=.ref a::vs) F hr hb hd hx I2 (.cons rfl r) q2
theorem cK{pl:Sem Bool}(he:PE X o ta)(c:Cls X.K C)(hm:Meth X.K C m f)(F:FnOk X.prog X.w X.K X.mg X.base CX k f fd ps sp)(hr:Room k X.A)(hb:Binds X.K fd ps ds)(hd:Vals dvs ds)(hx:li CX X E)
 (ht:eval (.Call (.Attribute o m apos) [] [] pos) X.env=(do
  let ov ←eval o X.env
  standAt apos.atName
  let(f,first) ←holding [ov] (getMethod ov m pl)
  callWith pos f first (backTo pos (starEach [] X.env)) (backToKw pos (keywordEach [] X.env))):=by rfl) :
 PE X (.Call (.Attribute o m apos) [] [] pos) (DI C m sp dvs E ta Cs):=by
 intro pins s σ H Q I h;refine PySem.W.methodCall_KW (pl:=pl) (thn (he pins s σ H _ I h) fun u s1 ⟨x,H1,I1,rx,a,dx,fs,ex,ea,l,q⟩=>?_) ht;subst ex;obtain rfl:u=Value.ref a:=rx;refine qj I1 ea c hm l ?_;exact PySem.W.callWith_K0 (first:=[.ref a]) I1.kIn hm.kp (vd (us:=[.ref a]) (vs:=[.ref a]) F hr hb hd hx I1 (.cons rfl .nil) q)
structure Mk(K:W.Frag)(C f:Addr):Prop where
 makes:PySem.W.makesIn K C=true
 init:PySem.W.findIn K (.ref C) "__init__"=some (some (.ref f))
 fn:PySem.W.isFn K (.ref f)=true
 kp:PySem.W.keepIn K (.ref C)=true
theorem At{pins:List (Addr×Obj)}{σ:St}{H:Hp}{s:Shared}{Q:VK}{us:List Value}{vs:List V}(M:Mk X.K C f)(F:FnOk X.prog X.w X.K X.mg X.base CX k f fd ps sp)(hr:Room (k+1) X.A)(hb:Binds X.K fd ps ds)(hd:Vals dvs ds)
 (hx:li CX X E) (I:Inv X pins σ H s) (r:Vals vs us)
 (h:∀x dx,H x=none->H dx=none->dx≠x->sp (.ref x::(vs++dvs)) (upd (upd H dx (.own x)) x (.ins C dx [])) (fun v H2=>v=.non/\Q (.ref x) H2) E) :
 wpAny (model X.prog X.w) X.A (call (.ref C) us) (EP X pins σ Q) X.xe s:=by
 have hq:=h (s.heap.objs.size+1) s.heap.objs.size (I.hok.fresh (qI0 _)) (I.hok.fresh (zG0 _)) (zV0 (Nat.lt_succ_self _));have I2:=Inv.made (C:=C) I;have r2:Vals (V.ref (s.heap.objs.size+1)::(vs++dvs)) (Value.ref (s.heap.objs.size+1)::(us++ds)):=.cons rfl (r.append hd);have hl:(Value.ref (s.heap.objs.size+1)::us++ds).length=ps.length:=by
  have e:=r2.length;rw[F.len _ _ _ _ hq]at e;exact e.symm
 refine wpAny_call (Bx (f:=f) I.kIn M.makes M.init (beq_iff_eq.mp M.fn) (codeAny_mono (F.run _ X.stack _ _ ⟨Value.ref (s.heap.objs.size+1)::us,[]⟩ (Value.ref (s.heap.objs.size+1)::(us++ds)) _ _ E (hr.make C us [])
  (I2.env0.make C us []) (hb _ (Value.ref (s.heap.objs.size+1)::us) I2.kIn hl) r2 hq) fun r s' hq'=>?_))
 cases r with
 | error e=>exact hx pins σ _ _ e s' I2 hq'
 | ok fl=>
   cases fl with
   | ret u=>
     obtain⟨v,H',I3,rv,ev,q3⟩:=I2.after hq';subst ev;exact⟨rv,⟨V.ref (s.heap.objs.size+1),H',I3,rfl,q3⟩⟩
   | next=>exact False.elim hq'
   | brk=>exact False.elim hq'
   | cont=>exact False.elim hq'
theorem iw(M:Mk X.K C f)(F:FnOk X.prog X.w X.K X.mg X.base CX k f fd ps sp)(hr:Room (k+1) X.A)(hg:Gl X x)(hm:X.mg x=some (.ref C))(hb:Binds X.K fd ps ds)(hd:Vals dvs ds)(hx:li CX X E)
 (ha:PA X (e::es) t) (hdb:(x==("__debug__":Str))=false:=by decide) (he:starEach (e::es) X.env=(false,eval e X.env)::starEach es X.env:=by rfl) (hpl:(backTo pos (starEach es X.env)).any (·.1)=false:=by rfl) :
 PE X (.Call (.Name x p) (e::es) [] pos) (tMake C sp dvs E t):=by
 intro pins s σ H Q I h;refine wpAny_Call_Name_kw (sF I hg hm ?_ hdb);refine PySem.W.callWith_K (h₀:=X.base) I.ok.mod.kin M.kp (thn (ha pos pins s σ H _ I h) fun us s1 ⟨vs,H1,I1,r,q⟩=>⟨I1.kIn,?_⟩) he hpl;exact At M F hr hb hd hx I1 r q
end
structure FnScope(N P:List Str)(sc:Scope):Prop where
 kind:sc.kind=.function
 co:sc.isCoroutine=false
 gen:sc.isGenerator=false
 nd:N.Nodup
 pre:N.take P.length=P
 par:∀x∈P,sc.names.lookup x=some .local∨sc.names.lookup x=some .cell
 nofree:∀y∈sc.names,y.2≠.free
theorem rj{kindOf:Str->Option NameKind}{x:Str}:∀{binds:List (Str×Value)}{m:Str->Option Value},(∀v,(x,v)∉binds)->bindL kindOf binds m x=m x
 | [],_,_=>rfl
 | (n,v)::r,m,h=>by
   unfold bindL;rw[rj fun w hw=>h w (qR0 _ hw)]
   split
   . have:x≠n:=by rintro rfl;exact h v qP0
     simp [this]
   . rfl
theorem rm{kindOf:Str->Option NameKind}{x:Str}:∀{binds:List (Str×Value)}{m:Str->Option Value},(∀v,(x,v)∉binds)->bindC kindOf binds m x=m x
 | [],_,_=>rfl
 | (n,v)::r,m,h=>by
   unfold bindC;rw[rm fun w hw=>h w (qR0 _ hw)]
   split
   . rfl
   . have:x≠n:=by rintro rfl;exact h v qP0
     simp [this]
theorem rk{kindOf:Str->Option NameKind}{x:Str}{v:Value}:∀{P:List Str}{vs:List Value}{i:Nat}{m:Str->Option Value},P.Nodup->P[i]?=some x->vs[i]?=some v->kindOf x=some .local ->
 bindL kindOf (P.zip vs) m x=some v
 | [],_,_,_,_,h,_,_=>by simp at h
 | _::_,[],_,_,_,_,h,_=>by simp at h
 | p::P,w::vs,0,m,nd,h1,h2,hk=>by
   simp at h1 h2;subst h1;subst h2
   show bindL kindOf ((p,w)::P.zip vs) m p=_;unfold bindL;rw[rj fun v hv=>(List.nodup_cons.mp nd).1 (List.of_mem_zip hv).1,zB0 hk]
   simp
 | p::P,w::vs,i+1,m,nd,h1,h2,hk=>by
   show bindL kindOf ((p,w)::P.zip vs) m x=_;unfold bindL;exact rk (i:=i) (List.nodup_cons.mp nd).2 (by simpa using h1) (by simpa using h2) hk
theorem rA{kindOf:Str->Option NameKind}{x:Str}{v:Value}:∀{P:List Str}{vs:List Value}{i:Nat}{m:Str->Option Value},P.Nodup->P[i]?=some x->vs[i]?=some v->kindOf x≠some .local ->
 bindC kindOf (P.zip vs) m x=some v
 | [],_,_,_,_,h,_,_=>by simp at h
 | _::_,[],_,_,_,_,h,_=>by simp at h
 | p::P,w::vs,0,m,nd,h1,h2,hk=>by
   simp at h1 h2;subst h1;subst h2
   show bindC kindOf ((p,w)::P.zip vs) m p=_;unfold bindC;rw[rm fun v hv=>(List.nodup_cons.mp nd).1 (List.of_mem_zip hv).1,zA0 hk]
   simp
 | p::P,w::vs,i+1,m,nd,h1,h2,hk=>by
   show bindC kindOf ((p,w)::P.zip vs) m x=_;unfold bindC;exact rA (i:=i) (List.nodup_cons.mp nd).2 (by simpa using h1) (by simpa using h2) hk
def nY(N:List Str)(vs:List V):St:=vs.map some++List.replicate (N.length-vs.length) none
def zj(CX:CXT)(P:Program)(w:World)(K:W.Frag)(mg:Str->Option Value)(base:Heap)(N:List Str)(qual:Str)(scope:Scope)(f:Addr)(cd:Value)(A:Around)(outer:List Env)(s:Shared)(H:Hp)(E:XK):Cx where
 prog:=P
 w:=w
 K:=K
 mg:=mg
 base:=base
 A:=A.deeper (envOfC qual scope s.heap.objs.size f cd)
 N:=N
 s₀:=s
 H₀:=H
 env:=envOfC qual scope s.heap.objs.size f cd
 outer:=outer
 stack:=envOfC qual scope s.heap.objs.size f cd::outer
 ex:=[]
 calm:=true
 fn:=fun _=>true
 pn:=[]
 xe:=fun e s'=>wpAny (model P w) (A.deeper (envOfC qual scope s.heap.objs.size f cd)) (leaving (envOfC qual scope s.heap.objs.size f cd) e) (fun _ s''=>CX outer H s E e s'') (fun e' s''=>CX outer H s E e' s'') s'
theorem uB{sc:Scope}{n:Nat}{x:Str}(h:sc.names.lookup x=some .cell):∃c,(cellsFrom n sc.names []).lookup x=some c:=by
 have q:=PySem.W.cellsFrom_some sc.names n [] (.inl h);exact Option.isSome_iff_exists.mp q
theorem yY{CX:CXT}{P:Program}{w:World}{K:W.Frag}{mg:Str->Option Value}{base:Heap}{N ps:List Str}{qual:Str}{scope:Scope}{f:Addr}{cd:Value}{A:Around}{outer:List Env}{s s1:Shared}{H:Hp}{E:XK}{us:List Value}{vs:List V}
 (S:FnScope N ps scope) (hd:A.handled=none) (e0:Env0 P w K mg base A outer s H) (hl:vs.length=ps.length) (r:Vals vs us)
 (x:InCallC s s.heap.objs.size (bindL (envOfC qual scope s.heap.objs.size f cd).kindOf (ps.zip us) fun _=>none) (cellsFrom (s.heap.objs.size+1) scope.names []) (bindC (envOfC qual scope s.heap.objs.size f cd).kindOf (ps.zip us) fun _=>none) s1) :
 Inv (zj CX P w K mg base N qual scope f cd A outer s H E) [] (nY N vs) H s1:=by
 have hpl:ps.length<=N.length:=by have:=congrArg List.length S.pre;rw[qO0]at this;omega
 obtain⟨h1,tk,rfl,hk⟩:=x.done;have noA:∀b:Addr,b∉(zj CX P w K mg base N qual scope f cd A outer s H E).ex:=fun b z=>absurd (show b∈([]:List Addr)from z) (by simp)
 refine ⟨⟨e0.mod,S.kind,rfl,rfl,zG0 _,fun y z c h1 h2=>?_,fun y hy=>?_,fun y c _ h=>?_,fun _=>hd,Around.frames_deeper e0.frames,.inr ⟨rfl,rfl⟩,fun b z=>absurd z (noA b),e0.bs,e0.bsz,fun b _ _=>noA b,fun b z=>absurd z (noA b),e0.funs,e0.frf⟩,
  rfl,e0.bare,Un.kept hk,⟨_,x.toInCall.ns,fun i y v h1 h2 h3=>?_⟩,fun y c h=>⟨_,x.cell y c h⟩,e0.hok.fresh (zG0 _),fun y c h=>?_,fun p hp=>absurd (show p∈([]:List (Addr×Obj))from hp) (by simp),e0.hok.kept hk,?_⟩
 . exact name_of_addr x.apart (PySem.mem_of_lookup h1) (PySem.mem_of_lookup h2)
 . have hy:scope.names.lookup y=some .cell∨scope.names.lookup y=some .free:=hy;rcases hy with hy | hy
   . exact uB hy
   . exact absurd rfl (S.nofree _ (PySem.mem_of_lookup hy))
 . exact Nat.le_of_lt (x.above y c (PySem.mem_of_lookup h))
 . have hi:i<vs.length:=by
    unfold nY at h2
    by_cases hi:i<vs.length
    . exact hi
    . rw [List.getElem?_append_right (by simpa using hi)]at h2;rw[List.getElem?_replicate]at h2
      split at h2 <;> cases h2
   have ha:vs[i]?=some v:=by
    unfold nY at h2;rw[List.getElem?_append_left (by simpa using hi),zR0]at h2;cases e:vs[i]? with
    | none=>rw[e]at h2;cases h2
    | some a=>rw[e]at h2;cases h2;rfl
   obtain ⟨u,hu,rv⟩:=r.get ha;have hp:ps[i]?=some y:=by
    rw[←S.pre,List.getElem?_take_of_lt (by omega)];exact h1
   have ndP:ps.Nodup:=by rw[←S.pre];exact S.nd.sublist (List.take_sublist _ _)
   refine⟨u,rv,?_⟩;rcases S.par y (qG0 hp)with k | k
   . exact .inl ⟨k,rk ndP hp hu k⟩
   . obtain⟨c,e⟩:=uB (n:=s.heap.objs.size+1) k;refine .inr ⟨.inl k,c,e,?_⟩;have q:=x.cell y c e;rw[rA ndP hp hu (by show scope.names.lookup y≠_;rw[k];decide)]at q;exact q
 . exact e0.hok.fresh (Nat.le_of_lt (x.above y c (PySem.mem_of_lookup h)))
 . unfold nY;show _=N.length;rw[zM0,zE0,List.length_replicate];omega
theorem fn_of{CX:CXT}{P:Program}{w:World}{K:W.Frag}{mg:Str->Option Value}{base:Heap}{k:Nat}{f:Addr}{name qual:Str}{params:Arguments}{body:List Stmt}{scope:Scope}{dV kV doc pm cdv ct oc:Value}{an od:Option Addr}
 {osl:Array (Option Value)} {N ps:List Str} {sp:Sp} (lk:K.lookup f=some ⟨oc,od,.func (PySem.W.fnOf name qual params body scope dV kV doc pm an cdv ct),osl⟩) (hcd:PySem.W.codeIn K cdv qual=true) (S:FnScope N ps scope)
 (len:∀vs H Q E,sp vs H Q E->vs.length=ps.length)
 (hbody:∀(A:Around)(outer:List Env)(s:Shared)(H:Hp)(vs:List V)(Q:VK)(E:XK),Room k (A.deeper (envOfC qual scope s.heap.objs.size f cdv))->sp vs H Q E ->
  ∃t,PSs (zj CX P w K mg base N qual scope f cdv A outer s H E) body t/\t { nx:=fun _ H'=>Q .non H',rt:=Q } (nY N vs) H) :
 FnOk P w K mg base CX (k+1) f (PySem.W.fnOf name qual params body scope dV kV doc pm an cdv ct) ps sp:=by
 refine⟨len,fun A outer s H args us vs Q E hr e0 hb r hsp=>?_⟩;have hl:=len _ _ _ _ hsp;have KX:K.In s.heap:=e0.mod.kin.keeps fun b o e=>(e0.bs b o e).1
 have lim:s.heap.NoLimit:=e0.mod.nolimit.keeps fun b o e=>(e0.bs b o e).1
 have hkind:∀y∈ps.zip us,scope.names.lookup y.1=some .local∨(scope.names.lookup y.1=some .cell/\((cellsFrom (s.heap.objs.size+1) scope.names []).lookup y.1).isSome=true):=fun⟨n,v⟩ hy=>by
  rcases S.par n (List.of_mem_zip hy).1 with q | q
  . exact .inl q
  . exact .inr ⟨q,PySem.W.cellsFrom_some _ _ _ (.inl q)⟩
 refine codeAny_call_function hr.depth (KX _ _ lk) rfl S.co S.gen rfl (PySem.W.codeRec_of KX hcd) (hb _ _ _ _ ?_);refine wpAny_newFunctionEnv_cells S.kind hkind fun env he s1 x=>?_
 subst he;refine⟨lim.keeps x.toInCall.keep,codeAny_func ?_⟩;obtain⟨t,ht,hq⟩:=hbody A outer s H vs Q E (hr.deeper _) hsp;have I:Inv (zj CX P w K mg base N qual scope f cdv A outer s H E) [] (nY N vs) H s1:=yY S hr.hd e0 hl r x;refine wpAny_mono (ht [] s1 (nY N vs) H _ I hq) (fun fl s' hs=>?_) fun e s' hs=>hs
 have fin:∀{σ':St}{H':Hp}{v:V}{u:Value},Inv (zj CX P w K mg base N qual scope f cdv A outer s H E) [] σ' H' s'->RelV v u->Q v H'->CE outer P w H s Q u s':=
  fun{σ' H' v u} J rv q=>⟨v,H',J.os,J.bare,J.base,J.hok,rv,q⟩
 cases fl with
 | ret u=>
   obtain⟨v,σ',H',J,rv,q⟩:=hs;exact fin J rv q
 | next=>
   obtain⟨σ',H',J,q⟩:=hs;exact fin (v:=V.non) (u:=Value.none) J rfl q
 | brk=>
   obtain⟨_,_,_,q⟩:=hs;exact False.elim q
 | cont=>
   obtain⟨_,_,_,q⟩:=hs;exact False.elim q
section
variable {X:Cx} {x:Str} {p pos:Pos} {e:Expr} {es:List Expr} {t:TA} {id T:String} {r:List V->Hp->VK->Prop}
def tCB(r:List V->Hp->VK->Prop)(t:TA):TE:=fun σ H Q=>t σ H fun vs H1=>r vs H1 Q
theorem aJ (hc:iz X (.builtin id) r) (hg:Gl X x) (hm:X.mg x=none) (hv:bootBuiltins x=some (.builtin id)) (ha:PA X (e::es) t) (hn:x≠"__name__":=by decide) (hdb:(x==("__debug__":Str))=false:=by decide)
 (he:starEach (e::es) X.env=(false,eval e X.env)::starEach es X.env:=by rfl) (hpl:(backTo pos (starEach es X.env)).any (·.1)=false:=by rfl):PE X (.Call (.Name x p) (e::es) [] pos) (tCB r t):=by
 intro pins s σ H Q I h;refine wpAny_Call_Name_kw (jh I hg hm hv ?_ hn hdb);exact PyProof.Rows.callWith_builtin1 (thn (ha pos pins s σ H _ I h) fun us s1 ⟨vs,H1,I1,r1,q1⟩=>hc pins s1 σ H1 vs us Q I1 r1 q1) he hpl
theorem bq (hc:iz X (.type T) r) (hg:Gl X x) (hm:X.mg x=none) (hv:bootBuiltins x=some (.type T)) (ha:PA X (e::es) t) (hn:x≠"__name__":=by decide) (hdb:(x==("__debug__":Str))=false:=by decide)
 (he:starEach (e::es) X.env=(false,eval e X.env)::starEach es X.env:=by rfl) (hpl:(backTo pos (starEach es X.env)).any (·.1)=false:=by rfl):PE X (.Call (.Name x p) (e::es) [] pos) (tCB r t):=by
 intro pins s σ H Q I h;refine wpAny_Call_Name_kw (jh I hg hm hv ?_ hn hdb);exact PyProof.Rows.callWith_type1 (thn (ha pos pins s σ H _ I h) fun us s1 ⟨vs,H1,I1,r1,q1⟩=>hc pins s1 σ H1 vs us Q I1 r1 q1) he hpl
end
end L2
namespace HT
open PySem PyProof.Rows
section
variable {prog:Program} {w:World} {A:Around} {E:Value->Shared->Prop} {s:Shared}
theorem cat_tup{t b:Addr}{vs ws:List Value}{Q:Value->Shared->Prop}(ht:IsTup s.heap t vs.toArray)(hb:IsTup s.heap b ws.toArray)(hv:vs≠[])
 (h1:ws=[]->Q (.ref t) s) (h2:ws≠[]->Q (.ref s.heap.objs.size) { s with heap:=s.heap.push { cls:=.type "tuple",data:=.seq (vs++ws).toArray } })
 (hsz:vs.length+ws.length<=sizeLine):wpAny (model prog w) A (binaryOp .Add (.ref t) (.ref b)) Q E s:=by
 obtain⟨⟨cls,dd,data,sl⟩,ho,hc,n,hd⟩:=id ht;obtain⟨⟨cls2,dd2,data2,sl2⟩,ho2,hc2,n2,hd2⟩:=id hb;simp only at hc hd hc2 hd2;subst hc hd hc2 hd2;have e:vs.toArray++ws.toArray=(vs++ws).toArray:=by simp
 by_cases hw:ws=[]
 . exact concat_meets ⟨_,ho,rfl⟩ ⟨_,ho2,rfl⟩ noFill_tuple_add seq_tuple_add PySem.F.slot_tuple_add PySem.F.entry_tuple_add (PySem.F.args_tuple_add_2 _ _)
    (tuple_addW1 t b vs.toArray ws.toArray n n2 dd dd2 sl sl2 (by simpa using hv) (by simp [hw])) ⟨ho,ho2,h1 hw⟩
 . refine concat_meets ⟨_,ho,rfl⟩ ⟨_,ho2,rfl⟩ noFill_tuple_add seq_tuple_add PySem.F.slot_tuple_add PySem.F.entry_tuple_add (PySem.F.args_tuple_add_2 _ _)
    (tuple_addW2 t b vs.toArray ws.toArray n n2 dd dd2 sl sl2 (by simpa using hv) (by simpa using hw) (by rw[zP0,zP0];exact hsz)) ⟨ho,ho2,?_⟩
   rw[e];exact h2 hw
def sIx(n d:Nat):Option Int->Nat
 | none=>d
 | some v=>if v<0 then(v+(n:Int)).toNat else min v.toNat n
theorem sIx_none(n d:Nat):sIx n d none=d:=rfl
theorem sIx_nat(n d k:Nat):sIx n d (some (k:Int))=min k n:=by
 show(if(k:Int)<0 then((k:Int)+(n:Int)).toNat else min (k:Int).toNat n)=min k n;rw[zA0 (by omega),qT0]
theorem Et(n d:Nat)(hd:d<=n)(o:Option Int):sIx n d o<=n:=by
 cases o with
 | none=>exact hd
 | some v=>
   show(if v<0 then(v+(n:Int)).toNat else min v.toNat n)<=n
   by_cases hv:v<0
   . rw[zB0 hv];omega
   . rw[zA0 hv];exact Nat.min_le_right _ _
theorem xM(v:Int)(n d:Nat):(if v<0 then max (v+(n:Int)) 0 else min v (n:Int))=((sIx n d (some v):Nat):Int):=by
 show(if v<0 then max (v+(n:Int)) 0 else min v (n:Int))=(((if v<0 then(v+(n:Int)).toNat else min v.toNat n):Nat):Int)
 by_cases hv:v<0
 . simp only[zB0 hv];omega
 . simp only[zA0 hv];omega
theorem wo(lo hi:Option Int)(n:Nat):Builtin.Slice.sliceAdjust lo hi 1 (n:Int)=(((sIx n 0 lo:Nat):Int),((sIx n n hi:Nat):Int)):=by
 have h1:¬ ((1:Int)<0):=by omega
 unfold Builtin.Slice.sliceAdjust;simp only[h1,if_false];refine Prod.ext ?_ ?_
 . cases lo with
   | none=>rfl
   | some v=>exact xM v n 0
 . cases hi with
   | none=>rfl
   | some v=>exact xM v n n
theorem vj(i j:Nat):Builtin.Slice.slicePlaces (i:Int) (j:Int) 1=j-i:=by
 unfold Builtin.Slice.slicePlaces;have h1:(1:Int)>0:=by omega
 simp only[h1,if_true,Int.ediv_one]
 split <;> omega
theorem pA{v:Value}{o:Option Int}{Q:Option Int->Shared->Prop}(p:IsPart v o)(h:Q o s):wpAny (model prog w) A (Builtin.Slice.slicePartIndex v) Q E s:=by
 cases p with
 | none=>exact slicePart_none h
 | int i t=>exact slicePart_int h
theorem mL{sl:Addr}{vl vu:Value}{lo hi:Option Int}{n:Nat}{Q:Int×Int×Nat->Shared->Prop}(hs:s.heap.IsSliceOf sl vl vu .none)(pl:IsPart vl lo)(pu:IsPart vu hi)
 (h:Q (((sIx n 0 lo:Nat):Int),1,sIx n n hi-sIx n 0 lo) s):wpAny (model prog w) A (Builtin.Slice.sliceApplied (.ref sl) (pure (n:Int))) Q E s:=by
 obtain⟨os,hos,hcs,hds⟩:=id hs;unfold Builtin.Slice.sliceApplied Builtin.Slice.sliceFields;refine zF0 (zF0 (wpAny_field hos hds (x:=vl) rfl (zF0 (wpAny_field hos hds (x:=vu) rfl (zF0 (wpAny_field hos hds (x:=.none) rfl (zI0 ?_)))))));refine zF0 (slicePart_none ?_);show wpAny _ _ (if((1:Int)==0)=true then _ else _) _ _ s;rw[zA0 (by decide)];refine zF0 (pA pl (zF0 (pA pu (zF0 (zI0 ?_)))));show wpAny _ _ (match Builtin.Slice.sliceAdjust lo hi 1 (n:Int)with | (lo,hi)=>pure (lo,(1:Int),Builtin.Slice.slicePlaces lo hi 1)) _ _ s;rw[wo lo hi n];show wpAny _ _ (pure (((sIx n 0 lo:Nat):Int),(1:Int),Builtin.Slice.slicePlaces ((sIx n 0 lo:Nat):Int) ((sIx n n hi:Nat):Int) 1)) _ _ s;rw[vj];exact zI0 h
theorem AH(xs:Array Value)(i k:Nat):((List.range k).filterMap fun(m:Nat)=>xs[((i:Int)+(m:Int)*1).toNat]?).toArray=((xs.toList.drop i).take k).toArray:=by
 have e:(fun(m:Nat)=>xs[((i:Int)+(m:Int)*1).toNat]?)=fun m=>xs[i+m]?:=by
  funext m
  have:((i:Int)+(m:Int)*1).toNat=i+m:=by omega
  rw[this]
 rw[e]
 have:=pick_run xs i k
 rw[List.filterMap_map]at this;have e2:((fun x=>xs[x]?) ∘ fun x=>i+x)=fun m=>xs[i+m]?:=rfl
 rw[e2]at this;rw[this]
theorem getItem_tuple_cut{t sl:Addr}{items:Array Value}{vl vu:Value}{lo hi:Option Int}{Q:Value->Shared->Prop}(ht:IsTup s.heap t items)(hs:s.heap.IsSliceOf sl vl vu .none)(pl:IsPart vl lo)(pu:IsPart vu hi)
 (hw:¬ (sIx items.size 0 lo=0/\sIx items.size items.size hi=items.size))
 (h:Q (.ref s.heap.objs.size) { s with heap:=s.heap.push { cls:=.type "tuple",data:=.seq ((items.toList.drop (sIx items.size 0 lo)).take (sIx items.size items.size hi-sIx items.size 0 lo)).toArray } })
 (hsz:items.size<=sizeLine):wpAny (model prog w) A (getItem (.ref t) (.ref sl)) Q E s:=by
 have htake:sizeOk (.seq ((items.toList.drop (sIx items.size 0 lo)).take (sIx items.size items.size hi-sIx items.size 0 lo)).toArray):=by
  show((items.toList.drop (sIx items.size 0 lo)).take (sIx items.size items.size hi-sIx items.size 0 lo)).toArray.size<=sizeLine;rw[zP0,qO0,List.length_drop,Array.length_toList];omega
 have hj:sIx items.size items.size hi<=items.size:=Et _ _ (zG0 _) hi;obtain⟨os,hos,hcs,hds⟩:=id hs;have hTs:s.TypeIs (.ref sl) "slice":=⟨os,hos,hcs⟩
 unfold getItem
 try with_reducible refine wpAny_holding ?_
 first | refine zF0 (zI0 ?_) | skip
 refine zF0 (wpAny_sequenceKey ht.typeIs (by decide) ?_);refine zF0 (wpAny_callSpecial?_slot (name:=Str.ofString "__getitem__") ht.typeIs PyProof.Rows.slot_tuple_getitem
  (wpAny_call_entry PyProof.Rows.slot_tuple_getitem ht.typeIs entry_tuple_getitem ?_ (args_tuple_getitem _ _)))
 show wpAny _ _ (Builtin.Tuple.tupleItemsOf (.ref t) >>= _) _ _ s;refine zF0 (tupleItemsOf_ ht ?_);refine zF0 (wpAny_typeOf hTs ?_);rw[zB0 (by decide)];refine zF0 (mL hs pl pu ?_);have hno:¬ ((((sIx items.size 0 lo:Nat):Int)==0&&(1:Int)==1&&(sIx items.size items.size hi-sIx items.size 0 lo)==items.size)=true):=by
  intro q;rw[Bool.and_eq_true,Bool.and_eq_true]at q;have q1:((sIx items.size 0 lo:Nat):Int)=0:=eq_of_beq q.1.1;have q2:sIx items.size items.size hi-sIx items.size 0 lo=items.size:=eq_of_beq q.2;exact hw ⟨by omega,by omega⟩
 show wpAny _ _ (if(((sIx items.size 0 lo:Nat):Int)==0&&(1:Int)==1&&(sIx items.size items.size hi-sIx items.size 0 lo)==items.size)=true then _ else _) _ _ s;rw[zA0 hno,AH]
 first
  | exact zF0 (m:=Builtin.Tuple.tupleExact _) (wpAny_newObj_type (zI0 ⟨_,rfl,zI0 h⟩) htake)
  | exact zF0 (m:=Builtin.Tuple.tupleExact _) (wpAny_newObj_type (zF0 (zI0 (zI0 ⟨_,rfl,zI0 h⟩))) htake)
  | exact zF0 (zF0 (m:=Builtin.Tuple.tupleExact _) (wpAny_newObj_type (zI0 (zI0 ⟨_,rfl,zI0 h⟩)) htake))
  | exact zF0 (zF0 (m:=Builtin.Tuple.tupleExact _) (wpAny_newObj_type (zI0 ⟨_,rfl,zI0 h⟩) htake))
end
end HT
namespace L2
open PySem PySem.Spec PyProof.Rows
abbrev TO:=St->Hp->(Option Int->Hp->Prop)->Prop
def PO(X:Cx)(e:Option Expr)(t:TO):Prop:=
 ∀(pins:List (Addr×Obj))(s:Shared)(σ:St)(H:Hp)(Q:Option Int->Hp->Prop),Inv X pins σ H s->t σ H Q ->
  wpAny (model X.prog X.w) X.A (evalPart e X.env) (fun u s'=>∃o H',Inv X pins σ H' s'/\IsPart u o/\Q o H') X.xe s
def Cr:TO:=fun _ H Q=>Q none H
def tPart(t:TE):TO:=fun σ H Q=>t σ H fun x H1=>∃i,x=.int i/\Q (some i) H1
section
variable {X:Cx} {e:Expr} {te:TE} {lo hi:Option Expr} {tl th:TO} {pos p2:Pos}
theorem lH:PO X none Cr:=by
 intro pins s σ H Q I h;rw[evalPart_none];exact zI0 ⟨none,H,I,.none,h⟩
theorem jf(h:PE X e te):PO X (some e) (tPart te):=by
 intro pins s σ H Q I hw;rw[evalPart_some];refine thn (h pins s σ H _ I hw) fun u s1 ⟨x,H1,I1,r1,q1⟩=>?_
 obtain⟨i,rfl,q⟩:=q1;obtain⟨t,rfl⟩:=r1;exact⟨some i,H1,I1,.int i t,q⟩
def SlR(X:Cx)(r:V->Option Int->Option Int->Hp->VK->Prop):Prop:=
 ∀(pins:List (Addr×Obj))(s:Shared)(σ:St)(H:Hp)(x:V)(v vl vu:Value)(lo hi:Option Int)(sl:Addr)(Q:VK),Inv X pins σ H s->RelV x v->s.heap.IsSliceOf sl vl vu .none->IsPart vl lo->IsPart vu hi->r x lo hi H Q ->
  ∃T id,typeLookup (.type T) "__getitem__"=pure (some (.builtin id))/\s.TypeIs v T/\wpAny (model X.prog X.w) X.A (getItem v (.ref sl)) (EP X pins σ Q) X.xe s
def tSl(r:V->Option Int->Option Int->Hp->VK->Prop)(te:TE)(tl th:TO):TE:=fun σ H Q=>te σ H fun x H1=>tl σ H1 fun l H2=>th σ H2 fun u H3=>r x l u H3 Q
theorem iQ{r:V->Option Int->Option Int->Hp->VK->Prop}(hr:SlR X r)(he:PE X e te)(hl:PO X lo tl)(hu:PO X hi th):PE X (.Subscript e (.Slice lo hi none p2) pos) (tSl r te tl th):=by
 intro pins s σ H Q I h;refine Subscript_ (thn (he pins s σ H _ I h) fun v s1 ⟨x,H1,I1,r1,q1⟩=>?_);refine wpAny_Slice (thn (hl pins s1 σ H1 _ I1 q1) fun vl s2 ⟨l,H2,I2,pl,q2⟩=>thn (hu pins s2 σ H2 _ I2 q2) fun vu s3 ⟨u,H3,I3,pu,q3⟩=>?_);rw[evalPart_none];refine zI0 ?_;have I4:Inv X pins σ H3 { s3 with heap:=s3.heap.push { cls:=.type "slice",data:=.fields #[vl,vu,.none] } }:=I3.kept (t':=s3.toks) fun b ob q=>zO0 _ q
 obtain⟨T,id,hT,ht,hg⟩:=hr pins { s3 with heap:=s3.heap.push { cls:=.type "slice",data:=.fields #[vl,vu,.none] } } σ H3 x v vl vu l u s3.heap.objs.size Q I4 r1 (Heap.IsSliceOf.new ..) pl pu q3;show wpAny (model X.prog X.w) X.A (subscriptTail e (.Slice lo hi none p2) v (.ref s3.heap.objs.size)) (EP X pins σ Q) X.xe { s3 with heap:=s3.heap.push { cls:=.type "slice",data:=.fields #[vl,vu,.none] } };exact tail_any (ops:=[.ref s3.heap.objs.size,v]) ht hT hg (by with_unfolding_all rfl)
def lc(xs:List V)(lo hi:Option Int):List V:=(xs.drop (HT.sIx xs.length 0 lo)).take (HT.sIx xs.length xs.length hi-HT.sIx xs.length 0 lo)
theorem oA(xs:List V)(lo hi:Option Int):(lc xs lo hi).length<=xs.length:=by
 unfold lc;rw[qO0,List.length_drop];omega
def rSlT(K:W.Frag):V->Option Int->Option Int->Hp->VK->Prop:=fun x lo hi H Q=>∃a xs,x=.ref a/\SqT K H a xs/\
 ¬ (HT.sIx xs.length 0 lo=0/\HT.sIx xs.length xs.length hi=xs.length)/\∀p,H p=none->Q (.ref p) (upd H p (.tup (lc xs lo hi)))
theorem uW:SlR X (rSlT X.K):=by
 intro pins s σ H x v vl vu lo hi sl Q I rx hs pl pu h;obtain⟨a,xs,rfl,hx,hw,q⟩:=h;cases rx;obtain⟨its,r,ht,hz⟩:=I.tuple hx;have hlen:its.toArray.size=xs.length:=by rw[zP0];exact r.length.symm
 refine⟨"tuple",_,PyProof.Rows.slot_tuple_getitem.lookup,ht.typeIs,?_⟩;refine HT.getItem_tuple_cut ht hs pl pu (by rw[hlen];exact hw) ?_ (by rw[hlen];exact hz);rw[hlen];refine⟨.ref s.heap.objs.size,_,I.laid (t':=s.toks) (o:=.tup (lc xs lo hi)) (fun b ob q=>zO0 _ q) (zG0 _) ?_,rfl,q _ (I.hok.fresh (zG0 _))⟩;exact⟨qC0 (oA xs lo hi) hz,_,(r.drop (HT.sIx xs.length 0 lo)).take (HT.sIx xs.length xs.length hi-HT.sIx xs.length 0 lo),IsTup.new _ _,_,zW0 _ rfl,rfl⟩
def tP(K:W.Frag):R2:=fun x y H Q=>∃a b xs ys,x=.ref a/\y=.ref b/\SqT K H a xs/\SqT K H b ys/\xs≠[]/\xs.length+ys.length<=sizeLine/\
 (ys=[]->Q (.ref a) H)/\(ys≠[]->∀p,H p=none->Q (.ref p) (upd H p (.tup (xs++ys))))
theorem Vals.nil_iff{xs:List V}{us:List Value}(r:Vals xs us):us=[]↔xs=[]:=by
 cases r with
 | nil=>simp
 | cons _ _=>simp
theorem op_catT:OpR X (binaryOp .Add) (tP X.K):=by
 intro pins s σ H x y v u Q I rx ry h;obtain⟨a,b,xs,ys,rfl,rfl,ha,hb,hx,hz,q1,q2⟩:=h;cases rx;cases ry;obtain⟨its,r1,p1,_⟩:=I.tuple ha;obtain⟨its2,r2,p2,_⟩:=I.tuple hb;refine HT.cat_tup p1 p2 (fun z=>hx (r1.nil_iff.mp z)) (fun z=>⟨.ref a,H,I,rfl,q1 (r2.nil_iff.mp z)⟩) (fun z=>?_) (by rw[←r1.length,←r2.length];exact hz);refine⟨.ref s.heap.objs.size,_,I.laid (t':=s.toks) (o:=.tup (xs++ys)) (fun b ob q=>zO0 _ q) (zG0 _) ?_,rfl,q2 (fun w=>z (r2.nil_iff.mpr w)) _ (I.hok.fresh (zG0 _))⟩;exact⟨by rw[zM0];exact hz,_,r1.append r2,IsTup.new _ _,_,zW0 _ rfl,rfl⟩
end
def ixN(n:Nat)(i:Int):Option Nat:=if 0<=i then(if i<n then some i.toNat else none)else if -(n:Int)<=i then some (i+n).toNat else none
def atI{α:Type}(xs:List α)(i:Int):Option α:=(ixN xs.length i).bind fun j=>xs[j]?
theorem sG{n:Nat}{i:Int}{j:Nat}(h:ixN n i=some j):seqIndex? i n=some j/\j<n/\-(n:Int)<=i/\i<n:=by
 unfold ixN at h
 by_cases h0:0<=i
 . rw [zB0 h0]at h
   by_cases h1:i<n
   . rw[zB0 h1]at h;have e:i.toNat=j:=zQ0 h;exact⟨by rw[seqIndex_of h0 h1,e],by omega,by omega,h1⟩
   . rw[zA0 h1]at h;cases h
 . rw [zA0 h0]at h
   by_cases h1:-(n:Int)<=i
   . rw[zB0 h1]at h;have e:(i+n).toNat=j:=zQ0 h;exact⟨by rw[seqIndex_neg (by omega) h1,e],by omega,h1,by omega⟩
   . rw[zA0 h1]at h;cases h
theorem sO{α:Type}{xs:List α}{i:Int}{v:α}(h:atI xs i=some v):∃j,seqIndex? i xs.length=some j/\xs[j]?=some v/\j<xs.length/\-(xs.length:Int)<=i/\i<xs.length:=by
 unfold atI at h;cases e:ixN xs.length i with
 | none=>rw[e]at h;cases h
 | some j=>
   rw[e]at h;obtain⟨h1,h2,h3,h4⟩:=sG e;exact⟨j,h1,h,h2,h3,h4⟩
theorem cL{α:Type}{xs:List α}{j:Nat}{v:α}(h:xs[j]?=some v):atI xs (j:Int)=some v:=by
 have hj:j<xs.length:=(zY0 h).1;have e:ixN xs.length (j:Int)=some j:=by
  unfold ixN;rw[zB0 (by omega),zB0 (by omega)];simp
 unfold atI;rw[e];exact h
theorem uH{α:Type}(xs:List α)(v:α):atI (xs++[v]) (-1)=some v:=by
 have hl:(xs++[v]).length=xs.length+1:=by simp
 have e:ixN (xs++[v]).length (-1)=some xs.length:=by
  unfold ixN;rw[hl,zA0 (by decide),zB0 (by omega)]
  congr 1
  omega
 unfold atI;rw[e];show(xs++[v])[xs.length]?=some v
 simp
def xN(b:Expr):Prop:=∀o i,subscripted b false o i=operate [o,i] (getItem o i)
def IxR(X:Cx)(r:R2):Prop:=
 ∀(value slice:Expr)(pins:List (Addr×Obj))(s:Shared)(σ:St)(H:Hp)(x y:V)(v u:Value)(Q:VK),Inv X pins σ H s->RelV x v->RelV y u->r x y H Q ->
  subscripted slice false v u=operate [v,u] (getItem v u)->wpAny (model X.prog X.w) X.A (subscriptTail value slice v u) (EP X pins σ Q) X.xe s
def MtR(X:Cx)(id:String)(r:V->List V->Hp->VK->Prop):Prop:=
 ∀(pins:List (Addr×Obj))(s:Shared)(σ:St)(H:Hp)(x:V)(xs:List V)(v:Value)(us:List Value)(Q:VK),Inv X pins σ H s->RelV x v->Vals xs us->r x xs H Q ->
  wpAny (model X.prog X.w) X.A (call (.builtin id) (v::us)) (EP X pins σ Q) X.xe s
section
variable {X:Cx} {a b:Expr} {ta tb:TE} {pos:Pos}
theorem IxR.or{r r':R2}(h:IxR X r)(h':IxR X r'):IxR X (fun x y H Q=>r x y H Q∨r' x y H Q):=by
 intro value slice pins s σ H x y v u Q I rx ry q hs;rcases q with q | q
 . exact h value slice pins s σ H x y v u Q I rx ry q hs
 . exact h' value slice pins s σ H x y v u Q I rx ry q hs
theorem aP{r:R2}(hr:IxR X r)(ha:PE X a ta)(hb:PE X b tb)(hs:xN b):PE X (.Subscript a b pos) (tOp r ta tb):=by
 intro pins s σ H Q I h;exact Subscript_ (Fn ha hb I h fun v u s2 x y H2 I2 rx ry q=>hr a b pins s2 σ H2 x y v u Q I2 rx ry q (hs _ _))
def AB(K:W.Frag):R2:=fun x y H Q=>∃p xs i v,x=.ref p/\y=.int i/\SqL K H p xs/\atI xs i=some v/\Q v H
def AA(K:W.Frag):R2:=fun x y H Q=>∃p xs i v,x=.ref p/\y=.int i/\SqT K H p xs/\atI xs i=some v/\Q v H
def rIxS:R2:=fun x y H Q=>∃z i c,x=.str z/\y=.int i/\z.length<=sizeLine/\atI z.cps.toList i=some c/\Q (.str ⟨#[c]⟩) H
theorem ix_list:IxR X (AB X.K):=by
 intro value slice pins s σ H x y v u Q I rx ry h hs;obtain⟨p,xs,i,z,rfl,rfl,hq,he,q⟩:=h;cases rx;obtain⟨t,rfl⟩:=ry;obtain⟨its,r,pl,hz⟩:=I.list hq;obtain⟨j,h1,h2,h3,h4,h5⟩:=sO he;obtain⟨w,ew,rw'⟩:=r.get h2;have hl:=r.length;have hn:=jE;have fin:EP X pins σ Q w s:=⟨z,H,I,rw',q⟩
 by_cases h0:0<=i
 . have hj:i.toNat=j:=by
    rw[seqIndex_of h0 h5]at h1;exact zQ0 h1
   exact item_listR pl.isList h0 (by omega) (by rw[hj];simpa using ew) fin hs
 . have hj:(i+(its.toArray.size:Int)).toNat=j:=by
    rw[seqIndex_neg (by omega) h4]at h1;rw[zP0,←hl];exact zQ0 h1
   exact subscriptTail_builtinR (x:=w) pl.isList.typeIs slot_list_getitem.lookup
    (wpAny_getItem_list_neg (Q:=fun r s'=>r=w/\EP X pins σ Q r s') pl.isList (by omega) (by rw[zP0] <;> omega) (by omega) (by rw[hj];simpa using ew) ⟨rfl,fin⟩) hs
theorem ix_tup:IxR X (AA X.K):=by
 intro value slice pins s σ H x y v u Q I rx ry h hs;obtain⟨p,xs,i,z,rfl,rfl,hq,he,q⟩:=h;cases rx;obtain⟨t,rfl⟩:=ry;obtain⟨its,r,pl,hz⟩:=I.tuple hq;obtain⟨j,h1,h2,h3,h4,h5⟩:=sO he;obtain⟨w,ew,rw'⟩:=r.get h2;have hl:=r.length;have hn:=jE;have fin:EP X pins σ Q w s:=⟨z,H,I,rw',q⟩
 exact subscriptTail_builtinR (x:=w) pl.typeIs slot_tuple_getitem.lookup
  (getItem_tuple (j:=j) (Q:=fun r s'=>r=w/\EP X pins σ Q r s') pl (by omega) (by omega) (by rw[zP0,←hl];exact h1) (by simpa using ew) ⟨rfl,fin⟩) hs
theorem vR:IxR X rIxS:=by
 intro value slice pins s σ H x y v u Q I rx ry h hs;obtain⟨z,i,c,rfl,rfl,hz,he,q⟩:=h;obtain⟨t,rfl⟩:=rx;obtain⟨t',rfl⟩:=ry;obtain⟨j,h1,h2,h3,h4,h5⟩:=sO he;have hl:z.cps.toList.length=z.length:=by simp [Str.length]
 rw [hl]at h1 h4 h5;have hn:=jE;exact tail_any (typeIs_str s z t) slot_str_getitem.lookup (getItem_str (c:=c) (by
  have e1:decide (i < -(2 ^ 63:Int))=false:=decide_eq_false (by omega);have e2:decide (i≥2 ^ 63)=false:=decide_eq_false (by omega);rw[e1,e2,Bool.or_false]) (by rw[h1];simpa using h2) ⟨.str ⟨#[c]⟩,H,I.tok _,⟨_,rfl⟩,q⟩) hs
def rIx(K:W.Frag):R2:=fun x y H Q=>AB K x y H Q∨AA K x y H Q∨rIxS x y H Q
theorem BC:IxR X (rIx X.K):=ix_list.or (ix_tup.or vR)
theorem vL (its:List Value) (n j:Nat) (u:Value):Obj.mapSeq (·.setIfInBounds j u) { cls:=.type "list",data:=.seq its.toArray n }={ cls:=.type "list",data:=.seq (its.set j u).toArray n }:=by
 simp [Obj.mapSeq]
theorem Inv.lst{pins:List (Addr×Obj)}{σ:St}{H:Hp}{s:Shared}{p:Addr}{xs:List V}(I:Inv X pins σ H s)(h:H p=some (.lst xs)) :
 ∃(its:List Value) (n:Nat),Vals xs its/\s.heap.get? p=some { cls:=.type "list",data:=.seq its.toArray n }/\xs.length<=sizeLine:=by
 obtain⟨z,its,n,r,e⟩:=I.hok p _ h;exact⟨its,n,r,e,z⟩
theorem Inv.lstUpd{pins:List (Addr×Obj)}{σ:St}{H:Hp}{s:Shared}{p:Addr}{xs ys:List V}{its its':List Value}{n n':Nat}{f:Obj->Obj}(I:Inv X pins σ H s)(h:H p=some (.lst xs))
 (ho:s.heap.get? p=some { cls:=.type "list",data:=.seq its.toArray n }) (hf:f { cls:=.type "list",data:=.seq its.toArray n }={ cls:=.type "list",data:=.seq its'.toArray n' }) (r:Vals ys its') (hz:ys.length<=sizeLine) (t:Nat) :
 Inv X pins σ (upd H p (.lst ys)) { s with heap:=s.heap.update p f,toks:=t }:=by
 have e:(s.heap.update p f).get? p=some { cls:=.type "list",data:=.seq its'.toArray n' }:=by
  rw[Heap.get?_update_self f ho (by rw[hf] <;> rfl),hf]
 refine I.write (x:=p) (e:=p) (by rw[h];trivial) (.inl rfl) (fun b u hb q=>(Heap.get?_update_other _ _ (Ne.symm hb)).trans q) ⟨_,e⟩ ?_;exact⟨hz,its',n',r,e⟩
def rSetL:V->V->V->Hp->(Hp->Prop)->Prop:=fun o i v H Q=>∃p xs k j,o=.ref p/\i=.int k/\H p=some (.lst xs)/\ixN xs.length k=some j/\Q (upd H p (.lst (xs.set j v)))
theorem ly:PSet X rSetL:=by
 intro pins s σ H o i v ov iv u Q I ro ri rv h;obtain⟨p,xs,k,j,rfl,rfl,hp,hj,q⟩:=h;cases ro;obtain⟨t,rfl⟩:=ri;obtain⟨its,n,r,ho,hz⟩:=I.lst hp;obtain⟨h1,h2,h3,h4⟩:=sG hj;have hl:=r.length;have hn:=jE;have I':Inv X pins σ (upd H p (.lst (xs.set j v))) { s with heap:=s.heap.update p (Obj.mapSeq (·.setIfInBounds j u)) }:=
  I.lstUpd hp ho (vL its n j u) (r.set rv j) (by rw[List.length_set];exact hz) s.toks
 by_cases h0:0<=k
 . have hk:k.toNat=j:=by
    rw[seqIndex_of h0 h4]at h1;exact zQ0 h1
   exact PySem.W.ki_setAt ho h0 (by omega) (by rw[zP0,←hl];exact h4) (by rw[hk];exact⟨_,I',q⟩)
 . have hk:(k+(its.toArray.size:Int)).toNat=j:=by
    rw[seqIndex_neg (by omega) h3]at h1;rw[zP0,←hl];exact zQ0 h1
   exact PySem.W.ki_setBack ho (by omega) (by rw[zP0,←hl];exact h3) (by omega) (by rw[hk];exact⟨_,I',q⟩)
theorem rJ(lo hi:Option Int)(n:Nat):(sliceBounds lo hi none n).1=((HT.sIx n 0 lo:Nat):Int)/\(sliceBounds lo hi none n).2.1=((HT.sIx n n hi:Nat):Int)/\(sliceBounds lo hi none n).2.2=1:=by
 refine⟨?_,?_,rfl⟩
 . cases lo with
   | none=>simp [sliceBounds,HT.sIx]
   | some i=>
     simp only[sliceBounds,HT.sIx,Option.getD_none,show(1:Int)>0 by decide,if_true]
     by_cases h:i<0
     . simp only[h,if_true] <;> omega
     . simp only[h,if_false] <;> omega
 . cases hi with
   | none=>simp [sliceBounds,HT.sIx]
   | some i=>
     simp only[sliceBounds,HT.sIx,Option.getD_none,show(1:Int)>0 by decide,if_true]
     by_cases h:i<0
     . simp only[h,if_true] <;> omega
     . simp only[h,if_false] <;> omega
theorem qx(its:List Value)(lo hi:Option Int):slicePick its.toArray lo hi none=((its.drop (HT.sIx its.length 0 lo)).take (HT.sIx its.length its.length hi-HT.sIx its.length 0 lo)).toArray:=by
 obtain⟨h1,h2,h3⟩:=rJ lo hi its.toArray.size;unfold slicePick;rw[h1,h2,h3];simp only[sliceRange_one,pick_run,zP0] <;> rfl
def rSlL(K:W.Frag):V->Option Int->Option Int->Hp->VK->Prop:=fun x lo hi H Q=>∃a xs,x=.ref a/\SqL K H a xs/\∀p,H p=none->Q (.ref p) (upd H p (.lst (lc xs lo hi)))
theorem Cz:SlR X (rSlL X.K):=by
 intro pins s σ H x v vl vu lo hi sl Q I rx hs pl pu h;obtain⟨a,xs,rfl,hx,q⟩:=h;cases rx;obtain⟨its,r,ht,hz⟩:=I.list hx;have hlen:=r.length;refine⟨"list",_,slot_list_getitem.lookup,ht.isList.typeIs,?_⟩;refine wpAny_getItem_list_slice ht.isList hs pl pu .none (by simp) ?_ (by rw[zP0] <;> omega);rw[qx,←hlen];refine⟨.ref s.heap.objs.size,_,I.laid (t':=s.toks) (o:=.lst (lc xs lo hi)) (fun b ob q=>zO0 _ q) (zG0 _) ?_,rfl,q _ (I.hok.fresh (zG0 _))⟩;exact⟨qC0 (oA xs lo hi) hz,_,0,(r.drop (HT.sIx xs.length 0 lo)).take (HT.sIx xs.length xs.length hi-HT.sIx xs.length 0 lo),zW0 _ rfl⟩
def jo:V->Bool
 | .non=>true
 | .bl _=>true
 | .int _=>true
 | .str _=>true
 | _=>false
def eqV:V->V->Bool
 | .non,.non=>true
 | .bl a,.bl b=>a==b
 | .bl a,.int b=>(if a then 1 else 0)==b
 | .int a,.bl b=>a==(if b then 1 else 0)
 | .int a,.int b=>a==b
 | .str a,.str b=>a==b
 | _,_=>false
theorem Fb{A:Around}{s:Shared}{y x:V}{u v:Value}(ry:RelV y u)(rx:RelV x v)(fy:jo y=true)(fx:jo x=true):SeqAt.EqAt A s u v (eqV y x):=by
 cases y with
 | non=>
   cases ry;cases x with
   | non=>cases rx;exact SeqAt.EqAt.same _
   | bl b=>cases rx;exact SeqAt.EqAt.none_bool b
   | int b=>obtain⟨t,rfl⟩:=rx;exact SeqAt.EqAt.none_int b t
   | str b=>obtain⟨t,rfl⟩:=rx;exact SeqAt.EqAt.none_str b t
   | _=>exact absurd (show false=true from fx) qB0
 | bl a=>
   cases ry;cases x with
   | non=>cases rx;exact SeqAt.EqAt.bool_none a
   | bl b=>cases rx;exact SeqAt.EqAt.bool_bool a b
   | int b=>obtain⟨t,rfl⟩:=rx;exact SeqAt.EqAt.bool_int a b t
   | str b=>obtain⟨t,rfl⟩:=rx;exact SeqAt.EqAt.bool_str a b t
   | _=>exact absurd (show false=true from fx) qB0
 | int a=>
   obtain⟨t',rfl⟩:=ry;cases x with
   | non=>cases rx;exact SeqAt.EqAt.int_none a t'
   | bl b=>cases rx;exact SeqAt.EqAt.int_bool a t' b
   | int b=>obtain⟨t,rfl⟩:=rx;exact SeqAt.EqAt.int_int a t' b t
   | str b=>obtain⟨t,rfl⟩:=rx;exact SeqAt.EqAt.int_str a t' b t
   | _=>exact absurd (show false=true from fx) qB0
 | str a=>
   obtain⟨t',rfl⟩:=ry;cases x with
   | non=>cases rx;exact SeqAt.EqAt.str_none a t'
   | bl b=>cases rx;exact SeqAt.EqAt.str_bool a t' b
   | int b=>obtain⟨t,rfl⟩:=rx;exact SeqAt.EqAt.str_int a t' b t
   | str b=>obtain⟨t,rfl⟩:=rx;exact SeqAt.EqAt.str_str a t' b t
   | _=>exact absurd (show false=true from fx) qB0
 | _=>exact absurd (show false=true from fy) qB0
def eqU(x:V)(u:Value):Bool:=match u with
 | .none=>eqV .non x
 | .bool b=>eqV (.bl b) x
 | .int i _=>eqV (.int i) x
 | .str z _=>eqV (.str z) x
 | _=>false
theorem vW{x y:V}{u:Value}(r:RelV y u)(f:jo y=true):eqU x u=eqV y x:=by
 cases y with
 | non=>cases r;rfl
 | bl b=>cases r;rfl
 | int i=>obtain⟨t,rfl⟩:=r;rfl
 | str z=>obtain⟨t,rfl⟩:=r;rfl
 | _=>exact absurd (show false=true from f) qB0
theorem mw{x:V}:∀{xs:List V}{us:List Value},Vals xs us->xs.all jo=true->us.any (eqU x)=xs.any fun y=>eqV y x
 | _,_,.nil,_=>rfl
 | y::xs,u::us,.cons r t,f=>by
   rw[List.all_cons,Bool.and_eq_true]at f;rw[List.any_cons,List.any_cons,vW r f.1,mw t f.2]
theorem gA{A:Around}{s:Shared}{x:V}{v:Value}(rx:RelV x v)(fx:jo x=true):∀{xs:List V}{us:List Value},Vals xs us->xs.all jo=true->∀u∈us,SeqAt.EqAt A s u v (eqU x u)
 | _,_,.nil,_=>fun u hu=>by cases hu
 | y::xs,u::us,.cons r t,f=>fun u' hu=>by
   rw[List.all_cons,Bool.and_eq_true]at f;rcases qD0 hu with rfl | hu
   . rw[vW r f.1];exact Fb r rx f.1 fx
   . exact gA rx fx t f.2 u' hu
def inV(x:V)(xs:List V):Bool:=xs.any fun y=>eqV y x
def rIn(K:W.Frag)(neg:Bool):R2:=fun x y H Q=>∃p xs,y=.ref p/\(SqL K H p xs∨SqT K H p xs)/\jo x=true/\xs.all jo=true/\Q (.bl (if neg then !inV x xs else inV x xs)) H
theorem qR:OpR X (compareOp .In) (rIn X.K false):=by
 intro pins s σ H x y v u Q I rx ry h;obtain⟨p,xs,rfl,hq,fx,fs,q⟩:=h;cases ry;rcases hq with hq | hq
 . obtain⟨its,r,pl,hz⟩:=I.list hq;refine SeqAt.in_listAt (eqU x) pl.isList (fun w hw=>gA rx fx r fs w (by simpa using hw)) ⟨.bl _,H,I,rfl,?_⟩;rw[show its.toArray.any (eqU x)=its.any (eqU x) by simp,mw r fs];exact q
 . obtain⟨its,r,pl,hz⟩:=I.tuple hq;refine SeqAt.in_tupleAt (eqU x) pl (fun w hw=>gA rx fx r fs w (by simpa using hw)) ⟨.bl _,H,I,rfl,?_⟩;rw[show its.toArray.any (eqU x)=its.any (eqU x) by simp,mw r fs];exact q
theorem so:OpR X (compareOp .NotIn) (rIn X.K true):=by
 intro pins s σ H x y v u Q I rx ry h;obtain⟨p,xs,rfl,hq,fx,fs,q⟩:=h;cases ry;rcases hq with hq | hq
 . obtain⟨its,r,pl,hz⟩:=I.list hq;refine SeqAt.notIn_listAt (eqU x) pl.isList (fun w hw=>gA rx fx r fs w (by simpa using hw)) ⟨.bl _,H,I,rfl,?_⟩;rw[show its.toArray.any (eqU x)=its.any (eqU x) by simp,mw r fs];exact q
 . obtain⟨its,r,pl,hz⟩:=I.tuple hq;refine SeqAt.notIn_tupleAt (eqU x) pl (fun w hw=>gA rx fx r fs w (by simpa using hw)) ⟨.bl _,H,I,rfl,?_⟩;rw[show its.toArray.any (eqU x)=its.any (eqU x) by simp,mw r fs];exact q
theorem aE:iz X (.builtin "len") (fun xs H Q=>∃p ys,xs=[.ref p]/\(SqL X.K H p ys∨SqT X.K H p ys)/\Q (.int ys.length) H):=by
 intro pins s σ H xs us Q I r h;obtain⟨p,ys,rfl,hq,q⟩:=h;obtain⟨u,rfl,rx⟩:=nV r;cases rx;have hn:=jE;rcases hq with hq | hq
 . obtain⟨its,r',pl,hz⟩:=I.list hq;have hlen:=r'.length;exact Calls.call_len_list pl.isList (by simp only[zP0] <;> omega) ⟨.int ys.length,H,I.tok _,⟨s.toks+1,by rw[zP0,hlen]⟩,q⟩
 . obtain⟨its,r',pl,hz⟩:=I.tuple hq;have hlen:=r'.length;exact len_tuple pl (by simp only[zP0] <;> omega) ⟨.int ys.length,H,I.tok _,⟨s.toks+1,by rw[zP0,hlen]⟩,q⟩
theorem mq:iz X (.type "list") (fun xs H Q=>∃p ys,xs=[.ref p]/\(SqL X.K H p ys∨SqT X.K H p ys)/\∀l,H l=none->Q (.ref l) (upd H l (.lst ys))):=by
 intro pins s σ H xs us Q I r h;obtain⟨p,ys,rfl,hq,q⟩:=h;obtain⟨u,rfl,rx⟩:=nV r;cases rx;have fin:∀(its:List Value),Vals ys its->ys.length<=sizeLine->∀(h':Heap)(c':Nat),(∀b o',s.heap.get? b=some o'->h'.get? b=some o') ->
  h'.get? s.heap.objs.size=some { cls:=.type "list",dict:=none,data:=.seq its.toArray c',slots:=#[] }->EP X pins σ Q (.ref s.heap.objs.size) { s with heap:=h' }:=fun its r' hz h' c' kp e=>
  ⟨.ref s.heap.objs.size,_,I.laid (t':=s.toks) kp (zG0 _) (show ObjOk X.prog X.w _ h' _ (.lst ys)from⟨hz,its,c',r',e⟩),rfl,q _ (I.hok.fresh (zG0 _))⟩
 rcases hq with hq | hq
 . obtain⟨its,r',pl,hz⟩:=I.list hq;have hlen:=r'.length;obtain⟨o,ho,hc,n,hd⟩:=pl.isList;exact call_list_seq p (.inl rfl) ho hc hd (fun h' c' kp e=>fin its r' hz h' c' kp e) (by simp only[zP0] <;> omega)
 . obtain⟨its,r',pl,hz⟩:=I.tuple hq;have hlen:=r'.length;obtain⟨o,ho,hc,n,hd⟩:=pl;exact call_list_seq p (.inr rfl) ho hc hd (fun h' c' kp e=>fin its r' hz h' c' kp e) (by simp only[zP0] <;> omega)
theorem ba:iz X (.type "tuple") (fun xs H Q=>∃p ys,xs=[.ref p]/\((SqL X.K H p ys/\∀l,H l=none->Q (.ref l) (upd H l (.tup ys)))∨(SqT X.K H p ys/\Q (.ref p) H))):=by
 intro pins s σ H xs us Q I r h;obtain⟨p,ys,rfl,h⟩:=h;obtain⟨u,rfl,rx⟩:=nV r;cases rx;rcases h with⟨hq,q⟩ | ⟨hq,q⟩
 . obtain ⟨its,r',pl,hz⟩:=I.list hq;have hlen:=r'.length;refine call_tuple_list pl.isList (fun h' kp=>?_) (by simp only[zP0] <;> omega);have I1:Inv X pins σ H { s with heap:=h' }:=I.kept (t':=s.toks) kp;have I2:Inv X pins σ (upd H h'.objs.size (.tup ys)) { s with heap:=h'.push { cls:=.type "tuple",data:=.seq its.toArray } }:=
    I1.laid (t':=s.toks) (fun b o e=>zO0 _ e) (zG0 _) (show ObjOk X.prog X.w _ _ _ (.tup ys)from⟨hz,its,r',IsTup.new _ _,_,zW0 _ rfl,rfl⟩)
   exact⟨.ref h'.objs.size,_,I2,rfl,q _ (I1.hok.fresh (zG0 _))⟩
 . obtain⟨its,r',pl,hz⟩:=I.tuple hq;exact call_tuple_same pl ⟨.ref p,H,I,rfl,q⟩
def tyV(K:W.Frag)(T:String)(x:V)(H:Hp):Prop:=match x with
 | .str _=>T="str"
 | .int _=>T="int"
 | .ref p=>(T="list"/\∃xs,SqL K H p xs)∨(T="tuple"/\∃o,K.lookup p=some o/\o.cls=.type "tuple"/\o.dict=none)∨
  (T="dict"/\((∃kvs,H p=some (.dK kvs))∨∃kvs,H p=some (.dT kvs)))∨(T="set"/\∃S n,H p=some (.set S n))
 | _=>False
theorem Eh{pins:List (Addr×Obj)}{σ:St}{H:Hp}{s:Shared}{T:String}{x:V}{v:Value}(I:Inv X pins σ H s)(r:RelV x v)(ty:tyV X.K T x H) :
 s.TypeIs v T/\∀a,v=.ref a->∃ob,s.heap.get? a=some ob/\ob.dict=none:=by
 cases x with
 | str z=>
   obtain⟨t,rfl⟩:=r;cases(show T="str" from ty);exact⟨typeIs_str s z t,fun _ e=>nomatch e⟩
 | int i=>
   obtain⟨t,rfl⟩:=r;cases(show T="int" from ty);exact⟨typeIs_int s i t,fun _ e=>nomatch e⟩
 | ref p=>
   cases r;rcases ty with⟨rfl,xs,hq⟩ | ⟨rfl,o,hk,hc,hd⟩ | ⟨rfl,hk⟩ | ⟨rfl,S,n,hk⟩
   . obtain⟨its,_,pl,_⟩:=I.list hq;refine⟨pl.isList.typeIs,fun a e=>?_⟩;cases e;obtain⟨o,n,e,c,hd,_⟩:=pl;exact⟨o,e,hd⟩
   . refine⟨⟨o,I.kIn p o hk,hc⟩,fun a e=>?_⟩;cases e;exact⟨o,I.kIn _ o hk,hd⟩
   . have z:∃o,s.heap.get? p=some o/\o.ExactDict:=by
      rcases hk with⟨kvs,hk⟩ | ⟨kvs,hk⟩
      . obtain⟨_,_,_,_,o,_,_,e,ex,_⟩:=I.hok p _ hk;exact⟨o,e,ex⟩
      . obtain⟨_,_,_,_,o,_,_,e,ex,_⟩:=I.hok p _ hk;exact⟨o,e,ex⟩
     obtain⟨o,e,ex⟩:=z;refine⟨⟨o,e,ex.1⟩,fun a e2=>?_⟩;cases e2;exact⟨o,e,ex.2.1⟩
   . obtain⟨o,_,_,_,e,ex,_⟩:=I.hok p _ hk;refine⟨⟨o,e,ex.1⟩,fun a e2=>?_⟩;cases e2;exact⟨o,e,ex.2.1⟩
 | _=>exact False.elim ty
def tBM(K:W.Frag)(T:String)(r:V->List V->Hp->VK->Prop)(to:TE)(t:TA):TE:=fun σ H Q=>to σ H fun x H1=>tyV K T x H1/\t σ H1 fun xs H2=>r x xs H2 Q
variable {o e:Expr} {es:List Expr} {to:TE} {t:TA} {name:Str} {apos cpos:Pos} {T id:String} {r:V->List V->Hp->VK->Prop}
theorem iR (pa:PlainAttrs T) (slot:Slot T name id) (hty:typeOf (.builtin id)=pure (.type "method_descriptor")) (hm:MtR X id r) (ho:PE X o to) (ha:PA X (e::es) t)
 (hbase:attributeBase o name X.env (eval o X.env)=eval o X.env:=by rfl)
 (hfew:((backTo cpos (starEach (e::es) X.env)).all (fun x=>!x.1)&&(backToKw cpos (keywordEach [] X.env)).all (fun x=>x.1.isSome)
  &&decide ((e::es).length+([]:List Keyword).length+(if([]:List Keyword).isEmpty then 0 else 1)<30))=true:=by rfl)
 (hline:(apos.endLine==cpos.line)=true:=by rfl) (hs:starEach (e::es) X.env=(false,eval e X.env)::starEach es X.env:=by rfl) (hplain:(backTo cpos (starEach es X.env)).any (·.1)=false:=by rfl) :
 PE X (.Call (.Attribute o name apos) (e::es) [] cpos) (tBM X.K T r to t):=by
 intro pins s σ H Q I h;refine wpAny_Call_method_late hbase hfew hline rfl (thn (ho pins s σ H _ I h) fun v s1 ⟨x,H1,I1,r1,ty,q1⟩=>?_);obtain⟨h1,h2⟩:=Eh I1 r1 ty;refine⟨T,id,pa,slot,hty,h1,h2,?_⟩;have hA:=ha cpos pins s1 σ H1 _ I1 q1;rw[hs]at hA ⊢;refine Calls.callWith_builtin (by show(false||(backTo cpos (starEach es X.env)).any (·.1))=false;rw[hplain] <;> rfl) (Calls.evalArgs_plain ?_);exact thn hA fun us s2 ⟨vs,H2,I2,r2,q2⟩=>hm pins s2 σ H2 x vs v us Q I2 r1 r2 q2
/- xs.append(e),list.index on a module's tuple .. are MtR facts of 06m -/
end
def MtM(X:Cx)(id:String)(r:V->List V->Hp->VK->Prop):Prop:=
 ∀(pins:List (Addr×Obj))(s:Shared)(σ:St)(H:Hp)(x:V)(xs:List V)(v:Value)(us:List Value)(Q:VK),Inv X pins σ H s->RelV x v->Vals xs us->r x xs H Q ->
  wpAny (model X.prog X.w) X.A (call (.builtin id) (v::us)) (EP X pins σ Q) X.xe s
theorem Vals.one:∀{x:V}{us:List Value},Vals [x] us->∃u,us=[u]/\RelV x u
 | _,_,.cons r .nil=>⟨_,rfl,r⟩
theorem Vals.rep{xs:List V}{us:List Value}(h:Vals xs us):∀k:Nat,Vals (List.replicate k xs).flatten (List.replicate k us).flatten
 | 0=>.nil
 | k+1=>by
   rw[List.replicate_succ,List.replicate_succ,List.flatten_cons,List.flatten_cons];exact Vals.append h (Vals.rep h k)
theorem kA(its:List Value):∀(k:Nat)(acc:List Value),
 List.foldl (fun x1 x2=>x1++x2) acc.toArray (List.replicate k its.toArray)=(acc++(List.replicate k its).flatten).toArray
 | 0,acc=>by simp
 | k+1,acc=>by
   have e:acc.toArray++its.toArray=(acc++its).toArray:=by simp
   have e2:(acc++its)++(List.replicate k its).flatten=acc++(List.replicate (k+1) its).flatten:=by
    rw[List.replicate_succ,List.flatten_cons,List.append_assoc]
   rw[←e2,←kA its k (acc++its),←e,List.replicate_succ,List.foldl_cons]
section
variable {X:Cx} {pins:List (Addr×Obj)} {σ:St} {H:Hp} {s:Shared} {l b:Addr} {xs ys zs:List V}
theorem Inv.lset{its its':List Value}{n:Nat}{f:Array Value->Array Value}{t':Nat}(I:Inv X pins σ H s)(hH:H l=some (.lst xs))
 (e:s.heap.get? l=some { cls:=.type "list",data:=.seq its.toArray n }) (hf:f its.toArray=its'.toArray) (hv:Vals ys its') (hz:ys.length<=sizeLine) :
 Inv X pins σ (upd H l (.lst ys)) { s with heap:=s.heap.update l (Obj.mapSeq f),toks:=t' }:=by
 have q:=PySem.IsL.update e f;rw[hf]at q;refine I.write (x:=l) (e:=l) (by rw[hH];exact trivial) (.inl rfl) (fun b' u hb hu=>(Heap.get?_update_other s.heap (Obj.mapSeq f) (Ne.symm hb)).trans hu) ⟨_,q⟩ ?_;exact⟨hz,its',_,hv,q⟩
theorem Inv.lnew{its:List Value}{t':Nat}(I:Inv X pins σ H s)(hv:Vals ys its)(hz:ys.length<=sizeLine) :
 Inv X pins σ (upd H s.heap.objs.size (.lst ys)) { s with heap:=s.heap.push { cls:=.type "list",data:=.seq its.toArray },toks:=t' }:=
 I.laid (fun _ _ q=>zO0 _ q) (zG0 _) ⟨hz,its,0,hv,zW0 _ rfl⟩
theorem Inv.fresh(I:Inv X pins σ H s):H s.heap.objs.size=none:=I.hok.fresh (zG0 _)
theorem Inv.lstM (I:Inv X pins σ H s) (hH:H l=some (.lst xs)):xs.length<=sizeLine/\∃(its:List Value) (n:Nat),Vals xs its/\xs.length=its.length/\s.heap.get? l=some { cls:=.type "list",data:=.seq its.toArray n }:=by
 obtain⟨z,its,n,r,e⟩:=I.hok l _ hH;exact⟨z,its,n,r,r.length,e⟩
theorem uc{n:Nat}(h:n<=sizeLine):Builtin.List.listTooLong n=false:=by
 unfold Builtin.List.listTooLong;exact decide_eq_false (by omega)
end
section
variable {X:Cx}
def CL:V->List V->Hp->VK->Prop:=fun x vs H Q=>∃l xs y,x=.ref l/\vs=[y]/\H l=some (.lst xs)/\xs.length<sizeLine/\Q .non (upd H l (.lst (xs++[y])))
theorem dw:MtM X "list.append" CL:=by
 intro pins s σ H x vs v us Q I rx rv h;obtain⟨l,xs,y,rfl,rfl,hH,hz,q⟩:=h;cases rx;obtain⟨u,rfl,ru⟩:=rv.one;obtain⟨z,its,n,r,hl,e⟩:=I.lstM hH;refine call_meets F.slot_list_append ⟨_,e,rfl⟩ F.entry_list_append (F.args_list_append_2 _ _) (PySem.list_append l its.toArray n u (by rw[zP0];omega)) ⟨e,?_⟩;refine⟨.non,_,I.lset (its':=its++[u]) hH e (by simp) (r.append (.cons ru .nil)) ?_,rfl,q⟩;rw[zM0,qE0];omega
def CK:V->List V->Hp->VK->Prop:=fun x vs H Q=>∃l b xs zs,x=.ref l/\vs=[.ref b]/\H l=some (.lst xs)/\H b=some (.lst zs)/\xs.length+zs.length<=sizeLine/\Q .non (upd H l (.lst (xs++zs)))
theorem yN:MtM X "list.extend" CK:=by
 intro pins s σ H x vs v us Q I rx rv h;obtain⟨l,b,xs,zs,rfl,rfl,hH,hB,hz,q⟩:=h;cases rx;obtain⟨u,rfl,ru⟩:=rv.one;cases ru;obtain⟨z,its,n,r,hl,e⟩:=I.lstM hH;obtain⟨z2,its2,n2,r2,hl2,e2⟩:=I.lstM hB;have hsz:its.toArray.size+its2.toArray.size<=sizeLine:=by rw[zP0,zP0];omega
 have hlong:¬ (!its.toArray.isEmpty&&Builtin.List.listTooLong (its.toArray.size+its2.toArray.size))=true:=by
  rw[uc hsz,Bool.and_false];exact qB0
 refine call_meets F.slot_list_extend ⟨_,e,rfl⟩ F.entry_list_extend (F.args_list_extend_2 _ _)
  (AutoSeq1.list_extend_list_list_0 l its.toArray n b its2.toArray n2 hlong (by rw[zP0];omega) (by omega)) ⟨e,e2,?_⟩
 refine⟨.non,_,I.lset (its':=its++its2) hH e (by simp) (r.append r2) ?_,rfl,q⟩;rw[zM0];omega
def rCat:R2:=fun x y H Q=>∃l b xs zs,x=.ref l/\y=.ref b/\H l=some (.lst xs)/\H b=some (.lst zs)/\xs.length+zs.length<=sizeLine/\∀p,H p=none->Q (.ref p) (upd H p (.lst (xs++zs)))
theorem kX:OpR X (binaryOp .Add) rCat:=by
 intro pins s σ H x y v u Q I rx ry h;obtain⟨l,b,xs,zs,rfl,rfl,hH,hB,hz,q⟩:=h;cases rx;cases ry;obtain⟨z,its,n,r,hl,e⟩:=I.lstM hH;obtain⟨z2,its2,n2,r2,hl2,e2⟩:=I.lstM hB;refine PySem.P.add_list e e2 ?_ (by rw[zP0,zP0];omega);have ea:its.toArray++its2.toArray=(its++its2).toArray:=by simp
 rw[ea];exact⟨.ref _,_,I.lnew (t':=s.toks) (r.append r2) (by rw[zM0];omega),rfl,q _ I.fresh⟩
def rRep:R2:=fun x y H Q=>∃l k xs,x=.ref l/\y=.int k/\H l=some (.lst xs)/\-(2 ^ 63)<=k/\k<2 ^ 63/\xs.length*k.toNat<=sizeLine/\
 ∀p,H p=none->Q (.ref p) (upd H p (.lst (List.replicate k.toNat xs).flatten))
theorem xq{α:Type}(xs:List α)(k:Nat):(List.replicate k xs).flatten.length=k*xs.length:=by
 induction k with
 | zero=>simp
 | succ k ih=>rw[List.replicate_succ,List.flatten_cons,zM0,ih,Nat.succ_mul,Nat.add_comm]
theorem vp:OpR X (binaryOp .Mult) rRep:=by
 intro pins s σ H x y v u Q I rx ry h;obtain⟨l,k,xs,rfl,rfl,hH,h1,h2,hz,q⟩:=h;cases rx;obtain⟨t,rfl⟩:=ry;obtain⟨z,its,n,r,hl,e⟩:=I.lstM hH;have hlen:its.toArray.size*k.toNat<=sizeLine:=by rw[zP0,←hl];exact hz
 have hcap:¬ its.toArray.size*k.toNat>(2 ^ 63-1) / 8:=by
  have:(sizeLine:Nat)<=(2 ^ 63-1) / 8:=by decide
  omega
 have hfit:¬ (!Builtin.List.listFitsIndex k)=true:=by
  rw[fitsIndex_both h1 h2];exact qB0
 have hlong:¬ Builtin.List.listTooLong (its.toArray.size*k.toNat)=true:=by
  rw[uc hlen];exact qB0
 have hnew:List.foldl (fun x1 x2=>x1++x2) #[] (List.replicate (if its.toArray.isEmpty=true then 0 else k.toNat) its.toArray)=(List.replicate k.toNat its).flatten.toArray:=by
  have f0:∀m:Nat,List.foldl (fun x1 x2=>x1++x2) #[] (List.replicate m its.toArray)=(List.replicate m its).flatten.toArray:=fun m=>by
   have:=kA its m []
   rw[List.nil_append]at this;exact this
  rw[f0];cases its with
  | nil=>simp
  | cons a r'=>rw[zA0 (by simp)]
 refine wpAny_binaryOp_repeat_ref (T:="list") (U:="int") (by decide) ⟨_,e,rfl⟩ (fun s'=>typeIs_int s' k t) noFill_list_mul F.fills_int_mul F.slot_int_rmul repeat_list F.slot_int_index.lookup
  (call_meets F.slot_int_rmul (typeIs_int s k t) F.entry_int_rmul (F.args_int_rmul_2 _ _) (int___rmul___int_list k t l its.toArray n)
   ⟨e,rfl,⟨_,e,rfl⟩,call_meets F.slot_list_mul ⟨_,e,rfl⟩ F.entry_list_mul (F.args_list_mul_2 _ _) (AutoListH.list___mul___list_int_3 l its.toArray n k t hfit hcap hlong) ⟨e,?_⟩⟩)
 rw[hnew];exact⟨.ref _,_,I.lnew (t':=s.toks) (r.rep k.toNat) (by rw[xq,Nat.mul_comm];exact hz),rfl,q _ I.fresh⟩
end
end L2
namespace Att
open PySem PySem.W PySem.Calls PyProof.Rows
theorem oJ{P:Params}{h:Heap}:∀(ns:List Int)(vs:List Value),WellAll P h vs (ns.map WData.int)->IntsAre vs ns:=by
 intro ns
 induction ns with
 | nil=>
   intro vs w;rw[List.map_nil]at w;cases w;exact .nil
 | cons n ns ih=>
   intro vs w;rw[zZ0]at w;cases w with
   | cons a b=>
     cases a;exact .cons _ _ (ih _ b)
theorem yg{l:OpenLaw}{n:Nat}(hn:l.most=some n){P:Params}{h:Heap}{args:List WData}{vals:List Value}
 (hpre:l.row.toRowW.claim.pre args=true) (hwl:WellAll P h vals args) :
 ∃a vs ns,vals=[Value.ref a]/\args=[WData.list (ns.map WData.int)]/\h.get? a=some { cls:=.type "list",data:=.seq vs.toArray }/\IntsAre vs ns/\ns.length<=n:=by
 have hsh:WShape.hasAll [] args [.list .int]=true:=(pre_splitW hpre).1;have hc:l.pre.holds [] { args:=args }=true:=(pre_splitW hpre).2;obtain⟨d,r,rfl,h1,h2⟩:=hasAllW_cons hsh;obtain rfl:=hasAllW_nil h2;obtain⟨xs,rfl,h3⟩:=hasW_list h1;obtain⟨ns,rfl⟩:=items_int h3;have hlen:ns.length<=n:=by
  unfold OpenLaw.pre at hc;have h4:(WTm.not (.lt (.lit (.int (n:Int))) (.len (.arg 0)))).holds [] { args:=[.list (ns.map .int)] }=true:=by
   have h4:=(holds_andW hc).1;rw[hn]at h4;exact h4
  have h5:=condW_of h4 (w_not (w_lt w_lit (w_len_list (w_arg rfl))));rw[zE0]at h5;refine Nat.le_of_not_lt fun q=>?_
  have q':(n:Int)<((ns.length:Nat):Int):=by omega
  first
   | (rw[decide_eq_true q']at h5;exact absurd h5 (by decide))
   | (simp at h5;omega)
 cases hwl with
 | cons w1 w2=>
   cases w2;cases w1 with
   | list ho hall=>exact⟨_,_,ns,rfl,rfl,ho,oJ ns _ hall,hlen⟩
theorem yu(l:OpenLaw)(args:List WData):l.row.toRowW.claim.post args (.bool true) args=true:=
 postW_of (r:=l.row.toRowW) (X:=(true==true))
  (show WShape.has [] (.bool true) .bool=true by first | rfl | decide | simp [WShape.has,WShape.arms,WShape.armsAll])
  (show(WTm.eq .res (.lit (.bool true))).value [] { args:=args,res:=some (.bool true),after:=args }=some (.bool (true==true))from w_eq_bool (w_res rfl) w_lit) rfl
theorem attach_call{l:OpenLaw}{n:Nat}{q:Program}{loose:List Str}{XP:(Str->Option Value)->Heap->Prop}{YP:World->Heap->Prop}{d:DefRec}
 (hn:l.most=some n) (hdf:d.params.defaults=[])
 (call:∀(w:World)(s₀ s₁:Shared)(mg mb:Str->Option Value)(fa:Addr)(o:Obj)(pm cd doc:Value)(a:Addr)(vs:List Value)(ns:List Int),
  Ground q loose [] XP w s₀ mg mb s₁.heap->YP w s₁.heap ->
  s₁.heap.get? fa=some o->o.data=.func (docDef d.name d.params d.body d.scope pm cd doc)->s₁.heap.CodeRec cd d.name->mg d.name=some (.ref fa) ->
  s₁.heap.get? a=some { cls:=.type "list",data:=.seq vs.toArray }->IntsAre vs ns->ns.length<=n->s₁.gens=#[] ->
  codeAny (model l.prog w) callerA (.call (.ref fa) ⟨[.ref a],[]⟩) (fun r s'=>r=.ok (.ret (.bool true))/\OldK s₁.heap s'.heap/\s'.os=s₁.os/\AllBare s'.gens) s₁) :
 WalkO q loose XP YP l.row.toRowW d [] (fun f vs=>PySem.call f vs):=by
 intro w s₀ s₁ mg mb G Y fa o pm cd doc dV kV ho hd hcd hD hmg hg args vals as hpre hlay hrd hwl hlo;obtain rfl:dV=.none:=Dflts.none hD hdf;obtain rfl:kV=.none:=Dflts.noKw hD;obtain⟨a,vs,ns,rfl,rfl,hobj,hints,hlen⟩:=yg hn hpre hwl;refine enter_call (codeAny_mono (call w s₀ s₁ mg mb fa o pm cd doc a vs ns G Y ho (fd_plain hd) hcd hmg hobj hints hlen hg) fun r s' hq=>?_);obtain⟨rfl,h2,h3,h4⟩:=hq;exact⟨.inl ⟨.bool true,.bool true,[],rfl,fun _=>rfl,.bool true,yu l _,fun _=>⟨List.Pairwise.nil,fun _ hm=>(nomatch hm)⟩⟩,h2,h3,h4⟩
end Att
namespace L2
open PySem PySem.Spec PyProof.Rows
theorem qG:∀{vs:List Value}{ns:List Int},IntsAre vs ns->Vals (ns.map V.int) vs
 | _,_,.nil=>.nil
 | _,_,.cons n t h=>.cons ⟨t,rfl⟩ (qG h)
def Fr(H:Hp):Prop:=∀b,H b=none∨∃o xs,H b=some (.frz o (.lst xs))
theorem Bz{P:Program}{w:World}{K:W.Frag}{mg mb:Str->Option Value}{CX:CXT}{k:Nat}{fa a:Addr}{fd:FuncData}{x:Str}{sp:Sp}{s₁:Shared}{vs:List Value}{ns:List Int}
 (KX:K.In s₁.heap) (hns:s₁.heap.Ns mainGlobals mg) (hb:s₁.heap.Ns builtinsNs mb) (hbb:∀x:Str,x≠"__name__" -> mb x=bootBuiltins x) (hlim:s₁.heap.NoLimit) (hg:s₁.gens=#[])
 (ha:s₁.heap.get? a=some { cls:=.type "list",data:=.seq vs.toArray }) (hi:IntsAre vs ns) (hl:ns.length<=sizeLine) (hr:Room k callerA)
 (F:∀base:Heap,K.In base->base.Ns mainGlobals mg->FnOk P w K mg base CX k fa fd [x] sp) (hbind:∀(s:Shared)(u:Value),BindsTo s fd ⟨[u],[]⟩ [(x,u)])
 (hsp:∀H:Hp,Fr H->SqL K H a (ns.map V.int)->sp [.ref a] H (fun v _=>v=.bl true) fun _ _ _=>False)
 (hCX:∀H e s',CX [] H s₁ (fun _ _ _=>False) e s'->False) :
 codeAny (model P w) callerA (.call (.ref fa) ⟨[.ref a],[]⟩) (fun r s'=>r=.ok (.ret (.bool true))/\OldK s₁.heap s'.heap/\s'.os=s₁.os/\AllBare s'.gens) s₁:=by
 have rv:=qG hi;have lenV:=hi.length;have core:∀H:Hp,Fr H->SqL K H a (ns.map V.int)->HOk P w H s₁.heap->(∀b,H b≠none->b=a)->(H a≠none->K.lookup a=none) ->
  codeAny (model P w) callerA (.call (.ref fa) ⟨[.ref a],[]⟩) (fun r s'=>r=.ok (.ret (.bool true))/\OldK s₁.heap s'.heap/\s'.os=s₁.os/\AllBare s'.gens) s₁:=by
  intro H hO hS hok hA hK;have base_of:∀{b:Addr}{o:Obj},s₁.heap.get? b=some o->H b=none->(sJ s₁.heap H).get? b=some o:=fun e n=>BE e n
  have noA:∀{b:Addr}{o:Obj}{es:Array DictEntry}{ep:Nat},s₁.heap.get? b=some o->o.data=.dict es ep->H b=none:=fun{b o es ep} e d=>by
   cases q:H b with
   | none=>rfl
   | some u=>
     have e':b=a:=hA b (by rw[q];simp);subst e';rw[ha]at e;cases e;have d':Data.seq vs.toArray _=Data.dict es ep:=d;cases d'
  have nsK:∀{b:Addr}{m:Str->Option Value},s₁.heap.Ns b m->(sJ s₁.heap H).Ns b m:=fun{b m} ⟨o,es,ep,e,d,r⟩=>⟨o,es,ep,base_of e (noA e d),d,r⟩
  have hKb:K.In (sJ s₁.heap H):=fun b o e=>base_of (KX b o e) (by
   cases q:H b with
   | none=>rfl
   | some u=>
     have e':b=a:=hA b (by rw[q];simp);subst e';rw[hK (by rw[q];simp)]at e;cases e)
  have hM:Mod K mg (sJ s₁.heap H):=⟨hKb,nsK hns,⟨mb,nsK hb,hbb⟩,let⟨mc,h1,h2⟩:=hlim;⟨mc,nsK h1,h2⟩⟩
  have e0:Env0 P w K mg (sJ s₁.heap H) callerA [] s₁ H:=⟨rfl,hM,fun b o e=>Dh e,Nat.le_of_eq (yZ _ _),trivial,fun b hb=>absurd (show b∈([]:List Addr)from hb) (by simp),hok,.of_eq hg⟩
  refine codeAny_mono ((F _ hKb (nsK hns)).run callerA [] s₁ H ⟨[.ref a],[]⟩ [.ref a] [.ref a] _ _ hr e0 (hbind s₁ (.ref a)) (.cons rfl .nil) (hsp H hO hS)) fun r s' h=>?_
  cases r with
  | error e=>exact(hCX H e s' h).elim
  | ok fl=>
    cases fl with
    | next=>exact False.elim h
    | brk=>exact False.elim h
    | cont=>exact False.elim h
    | ret u=>
      obtain⟨v,H',os,bare,un,hok',r',q⟩:=h;have q':v=.bl true:=q;subst q';obtain rfl:u=Value.bool true:=r';refine⟨rfl,OldK.of_keep fun b o e=>?_,os,bare⟩;cases q:H b with
      | none=>exact un.keep b o e q (by intro z;exact absurd (show b∈([]:List Addr)from z) (by simp)) (by simp)
      | some u=>
        rcases hO b with z | ⟨ob,xs,z⟩
        . rw[q]at z;cases z
        . have z2:=un.frzs b ob _ z;obtain⟨e1,_⟩:=hok b _ z;obtain⟨e2,_⟩:=hok' b _ z2;rw[e]at e1;cases e1;exact e2
 cases hk:K.lookup a with
 | some o=>
   have e:=KX a o hk;rw[ha]at e;cases e;refine core (fun _=>none) (fun _=>.inl rfl) (.inr ⟨_,vs.toArray,_,hk,rfl,rfl,rfl,by rw[zP0,lenV];exact hl,by simpa using rv⟩) (fun b u z=>by have z':(none:Option HO)=some u:=z;cases z') (fun b z=>absurd rfl z) fun z=>absurd rfl z
 | none=>
   refine core (fun b=>if b=a then some (.frz { cls:=.type "list",data:=.seq vs.toArray } (.lst (ns.map V.int)))else none) (fun b=>?_) (.inl (.inr ⟨{ cls:=.type "list",data:=.seq vs.toArray },zB0 rfl⟩)) (fun b u z=>?_) (fun b z=>?_) fun _=>hk
   . by_cases hb:b=a
     . exact .inr ⟨_,_,zB0 hb⟩
     . exact .inl (zA0 hb)
   . by_cases hb:b=a
     . have z':=(zB0 hb).symm.trans z;cases z';subst hb;exact⟨ha,by rw[zE0];exact hl,vs,_,rv,ha⟩
     . have z':=(zA0 hb).symm.trans z;cases z'
   . by_cases hb:b=a
     . exact hb
     . exact absurd (zA0 hb) z
theorem walk_of{l:PySem.W.OpenLaw}{n k:Nat}{q:Program}{loose:List Str}{XP:(Str->Option Value)->Heap->Prop}{YP:World->Heap->Prop}{d:DefRec}{K:Params->PySem.W.Frag}{CX:World->CXT}{sp:World->Sp}{x:Str}
 (hn:l.most=some n) (hn2:n<=sizeLine) (hdf:d.params.defaults=[]) (hr:Room k callerA)
 (hY:∀(w:World)(h:Heap),YP w h->(K w.params).In h)
 (F:∀(w:World)(mg:Str->Option Value)(fa:Addr)(h:Heap),(K w.params).In h->h.Ns mainGlobals mg->mg d.name=some (.ref fa) ->
  ∃ fd:FuncData,(∀(s:Shared)(u:Value),BindsTo s fd ⟨[u],[]⟩ [(x,u)])/\
   ∀base:Heap,(K w.params).In base->base.Ns mainGlobals mg->FnOk l.prog w (K w.params) mg base (CX w) k fa fd [x] (sp w))
 (hsp:∀(w:World)(H:Hp)(a:Addr)(ns:List Int),ns.length<=n->Fr H->SqL (K w.params) H a (ns.map V.int)->sp w [.ref a] H (fun v _=>v=.bl true) fun _ _ _=>False)
 (hCX:∀(w:World)(H:Hp)(s:Shared)(e:Value)(s':Shared),CX w [] H s (fun _ _ _=>False) e s'->False) :
 PySem.W.WalkO q loose XP YP l.row.toRowW d [] (fun f vs=>PySem.call f vs):=by
 refine Att.attach_call hn hdf fun w s₀ s₁ mg mb fa o pm cd doc a vs ns G Y ho hd hcd hmg hobj hints hlen hg=>?_
 have KX:=hY w _ Y;obtain⟨fd,hb,hF⟩:=F w mg fa _ KX G.T.g hmg;exact Bz KX G.T.g G.T.b G.T.builtins G.T.nolimit hg hobj hints (qC0 hlen hn2) hr hF hb (fun H hO hS=>hsp w H a ns hlen hO hS) fun H e s'=>hCX w H s₁ e s'
end L2
/- THE LAST THEOREM (shape;LID,My.* are yours):
 My.Adr: a structure of the addresses that your layer names (classes,functions);My.Txt K t: a structure (Prop) of the equations over K;
 My.txt_mk:{K} {implicit addresses ..} (e1:nsIn K mainGlobals "law"=some (some (.ref f))) (e2:K.lookup f=some ⟨oc,od,.func (fnOf "law" "law" params body scope dV kV doc pm an cdv ct),sl⟩) (e3:codeIn K cdv "law"=true) ..:∃t,My.Txt K t
set_option maxRecDepth 100000 in
set_option maxHeartbeats 0 in
theorem PySem.Challenge.cw_LID_holds : PySem.Challenge.rw_LID.Holds:=by
 w_on;o_law;k_head;(case hw=>w_witness2)
 k_fill
 refine L2.walk_of (l:=PySem.Challenge.rw_LID) (n:=63) (k:=40) (x:="script") (CX:=fun w=>..) (sp:=fun _=>My.sp_law) rfl (by decide) rfl ⟨rfl,by decide,by decide⟩ (fun w h Y=>PySem.W.kIn_of Y) ?F ?S ?C
 case F=>
  intro w mg fa h KX G hmg;have T:∃t,My.Txt (L2.KOf KX) t:=by
   dsimp only [L2.KOf]                          -- K must stand as «<heap const> w.params» for k_is
   refine' My.txt_mk ?e1 ?e2 ?e3 ..
   (case e1=>PySem.W.k_is)                    -- in the order: a name -> its address -> its object -> its parts
   (case e2=>PySem.W.k_is)
   ..
  obtain⟨t,T⟩:=T;have e0:=hmg.symm.trans (PySem.W.mg_of KX G T.law);cases e0                                       -- fa is the law's own address;exact⟨_,fun s u=>.of_eq rfl,fun base kb nb=>My.law_fn T kb nb⟩     -- if «.of_eq rfl» comes too early: refine' ⟨_,?b,fun base kb nb=>My.law_fn T kb nb⟩;exact fun s u=>.of_eq rfl
 case S=>exact fun w H a ns hl hO hS=>..
 case C=>exact ..
(the tactic k_is has no namespace: write k_is) -/
namespace L2
open PySem PySem.Spec PyProof.Rows
def bY(s:Stmt)(j:Nat):Stmt:=match s with
 | .ClassDef _ _ _ body _ _ _ _ _ _ _=>body.getD j (.Pass ⟨0,0,0,0⟩)
 | _=>.Pass ⟨0,0,0,0⟩
def aD(s:Stmt):Arguments:=match s with
 | .FunctionDef _ a _ _ _ _ _ _ _ _=>a
 | _=>{ posonlyargs:=[],args:=[],vararg:=none,kwonlyargs:=[],kw_defaults:=[],kwarg:=none,defaults:=[] }
def aB(s:Stmt):List Stmt:=match s with
 | .FunctionDef _ _ b _ _ _ _ _ _ _=>b
 | _=>[]
def ag(s:Stmt):Scope:=match s with
 | .FunctionDef _ _ _ _ _ _ sc _ _ _=>sc
 | _=>{ kind:=.function,names:=[],isGenerator:=false,isCoroutine:=false }
abbrev CX0:CXT:=fun _ _ _ _ _ _=>False
abbrev E0:XK:=fun _ _ _=>False
theorem bQ{X:Cx}:li CX0 X E0:=fun _ _ _ _ _ _ _ h=>h.elim
structure Fun(K:W.Frag)(x qual:Str)(st:Stmt)(f:Addr)(fd:FuncData):Prop where
 ex:∃(oc:Value)(od:Option Addr)(kV doc pm:Value)(an:Option Addr)(cdv ct:Value)(osl:Array (Option Value)),
  fd=PySem.W.fnOf x qual (aD st) (aB st) (ag st) .none kV doc pm an cdv ct/\K.lookup f=some ⟨oc,od,.func fd,osl⟩/\PySem.W.codeIn K cdv qual=true
 kp:PySem.W.keepIn K (.ref f)=true
section
variable {P:Program} {w:World} {K:W.Frag} {mg:Str->Option Value} {base:Heap}
theorem Fun.ok{x qual:Str}{st:Stmt}{f:Addr}{fd:FuncData}{N ps:List Str}{k:Nat}{sp:Sp}(F:Fun K x qual st f fd)(S:FnScope N ps (ag st))(len:∀vs H Q E,sp vs H Q E->vs.length=ps.length)
 (hbody:∀(cdv:Value)(A:Around)(outer:List Env)(s:Shared)(H:Hp)(vs:List V)(Q:VK)(E:XK),Room k (A.deeper (envOfC qual (ag st) s.heap.objs.size f cdv))->sp vs H Q E ->
  ∃t,PSs (zj CX0 P w K mg base N qual (ag st) f cdv A outer s H E).nox (aB st) t/\t { nx:=fun _ H'=>Q .non H',rt:=Q } (nY N vs) H):FnOk P w K mg base CX0 (k+1) f fd ps sp:=by
 obtain⟨oc,od,kV,doc,pm,an,cdv,ct,osl,rfl,lk,hcd⟩:=F.ex;refine fn_of lk hcd S len fun A outer s H vs Q E hr hsp=>?_
 obtain⟨t,h,q⟩:=hbody cdv A outer s H vs Q E hr hsp;exact⟨t,h.nox,q⟩
theorem Fun.binds{x qual:Str}{st:Stmt}{f:Addr}{fd:FuncData}{ps:List Str}(F:Fun K x qual st f fd)
 (h:∀(kV doc pm:Value)(an:Option Addr)(cdv ct:Value)(us:List Value),us.length=ps.length->bindArgs (PySem.W.fnOf x qual (aD st) (aB st) (ag st) .none kV doc pm an cdv ct) ⟨us,[]⟩=pure (ps.zip us)):Binds K fd ps []:=by
 obtain⟨oc,od,kV,doc,pm,an,cdv,ct,osl,rfl,lk,hcd⟩:=F.ex;exact .all (h kV doc pm an cdv ct)
theorem aN{x qual:Str}{st:Stmt}{f:Addr}{oc:Value}{od an:Option Addr}{osl:Array (Option Value)}{kV doc pm cdv ct:Value}(l:K.lookup f=some ⟨oc,od,.func (PySem.W.fnOf x qual (aD st) (aB st) (ag st) .none kV doc pm an cdv ct),osl⟩)
 (c:PySem.W.codeIn K cdv qual=true) (k:PySem.W.keepIn K (.ref f)=true):Fun K x qual st f (PySem.W.fnOf x qual (aD st) (aB st) (ag st) .none kV doc pm an cdv ct):=⟨⟨oc,od,kV,doc,pm,an,cdv,ct,osl,rfl,l,c⟩,k⟩
end
theorem DY{A:Around}{k:Nat}(hr:Room k A):A.units+1<cLine:=Nat.lt_of_le_of_lt (Nat.add_le_add_left (by decide:1<=64) _) hr.units
theorem aW{n:Nat}(h:n<=1000):n<sizeLine:=Nat.lt_of_le_of_lt h (by decide)
section
variable {X:Cx}
theorem pv (i:Nat) {x:Str} {pos:Pos} (hN:X.N[i]?=some x:=by rfl) (hv:Vis X.env.scope x:=by first | exact Or.inl rfl | exact Or.inr (Or.inl rfl) | exact Or.inr (Or.inr rfl)) (hd:(x==("__debug__":Str))=false:=by decide)
 (hcd:(x==("__classdict__":Str))=false:=by decide):PE X (.Name x pos) (Cq i):=EA hN hv hd hcd
end
theorem gJ{A B:Prop}(h:B):if false=true then A else B:=by
 rw[zA0 qB0];exact h
theorem ji{A B:Prop}(h:A):if true=true then A else B:=by
 rw[zB0 rfl];exact h
theorem lU{c A B:Prop}[Decidable c](h1:c->A)(h2:¬ c->B):if c then A else B:=by
 by_cases h:c
 . rw[zB0 h];exact h1 h
 . rw[zA0 h];exact h2 h
theorem uq{c A B:Prop}[Decidable c](hc:c)(h:B):if(!decide c)=true then A else B:=by
 rw[decide_eq_true hc];exact gJ h
def Same(H H':Hp):Prop:=∀b o,H b=some o->H' b=some o
theorem Same.refl(H:Hp):Same H H:=fun _ _ h=>h
theorem Same.trans{H H1 H2:Hp}(a:Same H H1)(b:Same H1 H2):Same H H2:=fun c o h=>b c o (a c o h)
theorem Same.free{H H':Hp}(e:Same H H'){l:Addr}(h:H' l=Option.none):H l=Option.none:=by
 cases q:H l with
 | none=>rfl
 | some o=>
   rw[e l o q]at h;cases h
theorem Same.seq{K:W.Frag}{H H':Hp}{a:Addr}{xs:List V}(e:Same H H')(h:SqL K H a xs):SqL K H' a xs:=by
 rcases h with(h | ⟨o,h⟩) | h
 . exact .inl (.inl (e _ _ h))
 . exact .inl (.inr ⟨o,e _ _ h⟩)
 . exact .inr h
end L2
set_option maxHeartbeats 4000000
namespace L2
open PySem PySem.Spec PyProof.Rows
section
variable {X:Cx}
theorem gB:iz X (.builtin "isinstance") (fun xs H Q=>∃x t n b,xs=[x,.ty n]/\TyOf X.K H x t/\PySem.W.kitOne X.K t (.type n)=some b/\Q (.bl b) H):=by
 intro pins s σ H xs us Q I r h;obtain⟨x,t,n,b,rfl,ty,e,q⟩:=h;obtain⟨u,w',rfl,r1,r2⟩:=zv r;cases r2;exact yX I r1 ty e (fun tk=>⟨.bl b,H,I.tok tk,rfl,q⟩)
theorem qf(K:W.Frag)(n:String):PySem.W.kitOne K (.type n) (.type n)=some true:=by
 unfold PySem.W.kitOne;rw[zB0 (by simp)]
theorem lT (K:W.Frag):PySem.W.kitOne K (.type "int") (.type "bool")=some false:=by
 show(if((Value.type "int"==Value.type "bool")=true)then some true else if PySem.W.kitMeta "bool"=true then((fastBuiltinMro "int").map (·.contains (.type "bool")))else none)=some false;decide +kernel
def CDivL(_ j:Int):Prop:=0<j/\j<2 ^ 63
theorem AV:OpR X (binaryOp .FloorDiv) (rI CDivL fun i j=>.int (i / j)):=opI fun i j _ _ _ _ _ hc q=>by
 have e:Int.fdiv i j=i / j:=Int.fdiv_eq_ediv_of_nonneg i (Int.le_of_lt hc.1);rw[←e]at q;refine floordiv_int (by have:=hc.1;omega) q (.inl (PyProof.noPylong_of_log2 ?_));have h1:=hc.1;have h2:=hc.2;have h3:j.natAbs<2 ^ 63:=by omega
 have h4:=(Nat.log2_lt (n:=j.natAbs) (k:=63) (by omega)).mpr h3;omega
end
theorem kD:bootBuiltins "int"=some (.type "int"):=by decide +kernel
theorem qr:bootBuiltins "bool"=some (.type "bool"):=by decide +kernel
theorem lg:bootBuiltins "list"=some (.type "list"):=by decide +kernel
theorem bi:bootBuiltins "tuple"=some (.type "tuple"):=by decide +kernel
theorem qp:bootBuiltins "reversed"=some (.type "reversed"):=by decide +kernel
structure Cal(P:Program)(w:World)(K:W.Frag)(mg:Str->Option Value)(base:Heap)(n:Nat)(x:Str)(ps:List Str)(sp:Sp):Prop where
 ex:∃(f:Addr)(fd:FuncData),FnOk P w K mg base CX0 n f fd ps sp/\Binds K fd ps []/\PySem.W.keepIn K (.ref f)=true/\mg x=some (.ref f)
theorem au{X:Cx}{n k:Nat}{x:Str}{ps:List Str}{sp:Sp}{e:Expr}{es:List Expr}{t:TA}{p pos:Pos}(C:Cal X.prog X.w X.K X.mg X.base n x ps sp)(hr:Room k X.A)(hk:n<=k)(hg:Gl X x)
 (ha:PA X (e::es) t) (hdb:(x==("__debug__":Str))=false:=by decide) (he:starEach (e::es) X.env=(false,eval e X.env)::starEach es X.env:=by rfl) (hpl:(backTo pos (starEach es X.env)).any (·.1)=false:=by rfl) :
 PE X (.Call (.Name x p) (e::es) [] pos) (zJ sp [] E0 t):=by
 obtain⟨f,fd,F,b,kp,m⟩:=C.ex;exact CU F (hr.mono hk) hg m kp b .nil bQ ha hdb he hpl
theorem Cal.of{P:Program}{w:World}{K:W.Frag}{mg:Str->Option Value}{base:Heap}{n:Nat}{x qual:Str}{ps:List Str}{sp:Sp}{st:Stmt}{f:Addr}{fd:FuncData}(F:Fun K x qual st f fd)(O:FnOk P w K mg base CX0 n f fd ps sp)(m:mg x=some (.ref f))
 (h:∀(kV doc pm:Value)(an:Option Addr)(cdv ct:Value)(us:List Value),us.length=ps.length->bindArgs (PySem.W.fnOf x qual (aD st) (aB st) (ag st) .none kV doc pm an cdv ct) ⟨us,[]⟩=pure (ps.zip us)):Cal P w K mg base n x ps sp:=
 ⟨f,fd,O,F.binds h,F.kp,m⟩
theorem iteN{c A B:Prop}[Decidable c](hc:¬ c)(h:A):if(!decide c)=true then A else B:=by
 rw[decide_eq_false hc];exact ji h
theorem bh{c A B:Prop}[Decidable c](hc:c)(h:A):if decide c=true then A else B:=by
 rw[decide_eq_true hc];exact ji h
theorem aF{c A B:Prop}[Decidable c](hc:¬ c)(h:B):if decide c=true then A else B:=by
 rw[decide_eq_false hc];exact gJ h
def SameBut(f:Addr)(H H':Hp):Prop:=∀b o,b≠f->H b=some o->H' b=some o
theorem SameBut.trans{f:Addr}{H H1 H2:Hp}(a:SameBut f H H1)(b:SameBut f H1 H2):SameBut f H H2:=fun c o h e=>b c o h (a c o h e)
theorem SameBut.refl(f:Addr)(H:Hp):SameBut f H H:=fun _ _ _ h=>h
theorem zJ0{f:Addr}{H H':Hp}(h:Same H H'):SameBut f H H':=fun b o _ e=>h b o e
abbrev SameBut.of:=@zJ0
theorem SameBut.upd{f:Addr}{H:Hp}(o:HO):SameBut f H (upd H f o):=fun b u h e=>by rw[ay h];exact e
theorem zD0{H:Hp}{p:Addr}(h:H p=none)(o:HO):Same H (upd H p o):=fun b u q=>by rw[ay (aO q h)];exact q
abbrev Same.new:=@zD0
theorem Same.but{f:Addr}{H0 H H':Hp}(a:Same H0 H)(n:H0 f=none)(b:SameBut f H H'):Same H0 H':=fun c o e=>b c o (aO e n) (a c o e)
def FeedAt(H:Hp)(f:Addr):Prop:=∃own st:Int,H f=some (.lst [.int own,.int st])/\0<=own/\0<=st/\st<=2147483646
theorem FeedAt.ne{H:Hp}{f b:Addr}(F:FeedAt H f)(h:H b=none):b≠f:=by
 obtain⟨o,s,e,_⟩:=F;intro z;subst z;rw[h]at e;cases e
theorem FeedAt.same{H H':Hp}{f:Addr}(F:FeedAt H f)(s:Same H H'):FeedAt H' f:=by
 obtain⟨o,t,e,h⟩:=F;exact⟨o,t,s _ _ e,h⟩
def kO:Sp:=fun vs H Q _=>∃(f:Addr)(m:Int),vs=[.ref f,.int m]/\FeedAt H f/\0<m/\m<2 ^ 63/\∀(d:Int)(H':Hp),0<=d->d<m->FeedAt H' f->SameBut f H H'->Q (.int d) H'
def zZ(K:W.Frag):Sp:=fun vs H Q _=>∃(a:Addr)(ns:List Int)(k:Int),vs=[.ref a,.int k]/\SqL K H a (ns.map V.int)/\ns.length<=63/\0<=k/\k<1000000/\∀(p:Addr)(H':Hp),H p=none->Same H H'->FeedAt H' p->Q (.ref p) H'
def wK(K:W.Frag):Sp:=fun vs H Q _=>∃(a:Addr)(ns:List Int),vs=[.ref a]/\SqL K H a (ns.map V.int)/\ns.length<=63/\∀H',Q (.bl true) H'
theorem dX{n:Nat}(h:n<=1000):n<=sizeLine:=Nat.le_of_lt (aW h)
theorem Cc{ns:List Int}{k:Int}(h0:0<=k)(h:k<(ns.length:Int)):∃v:Int,atI (ns.map V.int) k=some (.int v):=by
 have hk:k.toNat<ns.length:=by omega
 have q:atI (ns.map V.int) ((k.toNat:Nat):Int)=some (.int ns[k.toNat]):=cL (by rw[zR0,zK0 hk] <;> rfl);have ek:((k.toNat:Nat):Int)=k:=by omega
 rw[ek]at q;exact⟨_,q⟩
@[reducible] def eX (X:Cx) (N:List Str) (scope:Scope) (cl:List (Str×Addr)) (s:Shared) (H:Hp) (fp:List Addr):Cx where
 prog:=X.prog
 w:=X.w
 K:=X.K
 mg:=X.mg
 base:=X.base
 A:=X.A
 N:=N
 s₀:=s
 H₀:=H
 env:=compEnvC scope cl s.heap.objs.size X.env
 outer:=X.stack
 stack:=X.stack
 ex:=fp
 fn:=fun _=>false
 calm:=X.calm
 pn:=[]
 xe:=fun _ _=>False
structure CompScope(X:Cx)(x:Str)(N:List Str)(ix:List Nat)(scope:Scope)(cl:List (Str×Addr)):Prop where
 clos:closureFor scope X.env=pure cl
 nocell:∀y∈scope.names,y.2≠.cell
 kind:scope.kind=.function
 names:∀y∈scope.names,y.2=.local->scope.names.lookup y.1=some .local
 own:scope.names.lookup x=some .local
 nd:(x::N).Nodup
 sub:∀p∈cl,X.env.cells.lookup p.1=some p.2
 has:((relabel scope X.env).names.all fun p=>!(p.2==.cell||p.2==.free)||(cl.lookup p.1).isSome)=true
 outs:∀(j:Nat)(y:Str),N[j]?=some y->(relabel scope X.env).names.lookup y=some .cell/\∃k c,ix[j]?=some k/\X.N[k]?=some y/\cl.lookup y=some c/\X.env.scope.names.lookup y=some .cell
def outs(ix:List Nat)(σ:St):St:=ix.map fun k=>(σ[k]?).join
section
variable {X:Cx} {pins:List (Addr×Obj)} {σ:St} {x:Str} {N:List Str} {ix:List Nat} {scope:Scope} {cl:List (Str×Addr)} {fp:List Addr} {H3:Hp} {s3:Shared}
theorem CompScope.cells(S:CompScope X x N ix scope cl){y:Str}{c:Addr}(h:cl.lookup y=some c):X.env.cells.lookup y=some c:=S.sub _ (PySem.mem_of_lookup h)
theorem oU(S:CompScope X x N ix scope cl)(I3:Inv X pins σ H3 s3)(hf:∀b∈fp,iW X pins H3 b)(hlt:∀b∈fp,b<s3.heap.objs.size):(eX X (x::N) scope cl s3 H3 fp).Ok where
 mod:=I3.ok.mod
 kind:=S.kind
 glob:=I3.ok.glob
 blt:=I3.ok.blt
 above:=zG0 _
 inj:=fun y z c h1 h2=>I3.ok.inj y z c (S.cells h1) (S.cells h2)
 has:=fun y hy=>by
  have q:=List.all_eq_true.mp S.has;have hy:(relabel scope X.env).names.lookup y=some .cell∨(relabel scope X.env).names.lookup y=some .free:=hy;have z:∀k:NameKind,(k==.cell||k==.free)=true->(relabel scope X.env).names.lookup y=some k->∃c,cl.lookup y=some c:=fun k hk e=>by
   have r:=q _ (PySem.mem_of_lookup e);rw[hk]at r;exact Option.isSome_iff_exists.mp (by simpa using r)
  rcases hy with e | e
  . exact z _ (by rfl) e
  . exact z _ (by rfl) e
 cab:=fun _ _ h _=>nomatch h
 hd:=I3.ok.hd
 frames:=I3.ok.frames
 stk:=.inl rfl
 exf:=fun b hb=>⟨zV0 (hlt b hb),fun y c e=>(hf b hb).2.2.2.2.1 y c (S.cells e)⟩
 bs:=fun b o e=>I3.bs b o e
 bsz:=qC0 I3.ok.bsz I3.sz
 noex:=fun b o e hb=>by
  rcases(hf b hb).2.2.2.1 with z | z
  . exact I3.ok.noex b o e z
  . exact absurd (qK0 (zN0 e) (qC0 I3.ok.bsz z)) (qU0 _)
 exfs:=fun b hb z=>by
  rcases qD0 (I3.stkSub b z)with e | e
  . exact(hf b hb).2.1 e
  . exact(hf b hb).2.2.1 e
 funs:=I3.stack
 frf:=I3.stkFree
theorem wa(S:CompScope X x N ix scope cl)(I3:Inv X pins σ H3 s3)(hf:∀b∈fp,iW X pins H3 b)(hlt:∀b∈fp,b<s3.heap.objs.size)(hix:ix.length=N.length){h1:Heap}{t':Nat}{m:Str->Option Value}
 (hn:h1.Ns s3.heap.objs.size m) (hk:∀b o,s3.heap.get? b=some o->h1.get? b=some o):Inv (eX X (x::N) scope cl s3 H3 fp) [] (none::outs ix σ) H3 { s3 with heap:=h1,toks:=t' } where
 ok:=oU S I3 hf hlt
 os:=rfl
 bare:=I3.bare
 base:=Un.kept hk
 loc:=by
  refine⟨m,hn,fun i y v h1' h2 h3=>?_⟩;cases i with
  | zero=>
    have h2':(some (none:Option V))=some (some v):=h2;cases h2'
  | succ j=>
    have h1'':N[j]?=some y:=h1';have h2':(outs ix σ)[j]?=some (some v):=h2;obtain⟨hr,k,c,e1,e2,e3,e4⟩:=S.outs j y h1'';unfold outs at h2';rw[zR0,e1]at h2';have h2'':(σ[k]?).join=some v:=zQ0 h2';have e5:σ[k]?=some (some v):=by
     cases q:σ[k]? with
     | none=>rw[q]at h2'';cases h2''
     | some o=>rw[q]at h2'';exact congrArg some h2''
    obtain⟨m0,_,hl⟩:=I3.loc;obtain⟨u,r,l⟩:=hl k y v e2 e5 (.inr (.inl e4));refine⟨u,r,.inr ⟨.inl hr,c,e3,?_⟩⟩;rcases l with⟨kk,_⟩ | ⟨_,c',ec,z⟩
    . have kk':X.env.scope.names.lookup y=some .local:=kk;rw[e4]at kk';cases kk'
    . rw[S.cells e3]at ec;cases ec;obtain⟨o,ho,hd⟩:=z;exact⟨o,hk _ _ ho,hd⟩
 cell:=fun y c e=>by
  obtain⟨v,o,ho,hd⟩:=I3.cell y c (S.cells e);exact⟨v,o,hk _ _ ho,hd⟩
 free:=I3.hok.fresh (zG0 _)
 freeC:=fun y c e=>I3.freeC y c (S.cells e)
 pin:=fun p hp=>absurd (show p∈([]:List (Addr×Obj))from hp) (by simp)
 hok:=I3.hok.kept hk
 len:=by
  show(none::outs ix σ).length=(x::N).length;rw[qF0,qF0];unfold outs;rw[zE0,hix]
theorem zk(I3:Inv X pins σ H3 s3)(hf:∀b∈fp,iW X pins H3 b){σ':St}{H':Hp}{s':Shared}{h'':Heap}{N':List Str}(J:Inv (eX X N' scope cl s3 H3 fp) [] σ' H' s')(hb:Heap.SameBut s3.heap.objs.size s'.heap h'') :
 Inv X pins σ H' { s' with heap:=h'' }:=by
 have ne:∀b o,s3.heap.get? b=some o->b≠s3.heap.objs.size:=fun b o e=>zV0 (zN0 e)
 have B:Un (frs X.stack) fp H3 H' s3.heap s'.heap:=J.base;refine I3.call' (s':={ s' with heap:=h'' }) (ch:=fp) J.os ⟨fun b o e n h1 h2=>(hb.2 b (ne b o e)).trans (B.keep b o e n h1 h2),fun b o e n h1 h2=>?_,B.free,fun b o e h2=>?_,B.tups,B.frzs,B.tbls⟩ (fun b ob e=>?_) J.bare (fun b z=>?_)
 . obtain⟨sl,q⟩:=B.slot b o e n h1 h2;exact⟨sl,(hb.2 b (ne b o e)).trans q⟩
 . obtain⟨o',q⟩:=B.there b o e h2;exact⟨o',(hb.2 b (ne b o e)).trans q⟩
 . have fr:H' s3.heap.objs.size=none:=J.free;refine(J.hok b ob e).stay (fun c w' hc q=>(hb.2 c ?_).trans q) (fun _ q=>q) fun _ _ q=>q
   rintro rfl;rcases hc with rfl | hc
   . rw[fr]at e;cases e
   . rw[fr]at hc;cases hc
 . obtain⟨_,h2,_,h4,h5,h6⟩:=hf b z;exact⟨h4,h2,h5,h6⟩
end
abbrev TBl:=St->Hp->(Hp->Prop)->VK->Prop
def PB(X:Cx)(ifs:List Expr)(elt:Expr)(tb:TBl):Prop:=
 ∀(pins:List (Addr×Obj))(s:Shared)(σ:St)(H:Hp)(skip:Hp->Prop)(keep:VK),Inv X pins σ H s->tb σ H skip keep ->
  wpAny (model X.prog X.w) X.A (forIn ifs true fun c r=>if r=true then do let ok ←isTrue c X.env (eval c X.env);pure (ForInStep.yield ok)else pure (ForInStep.yield r))
   (fun ok s3=>if ok=true then wpAny (model X.prog X.w) X.A (eval elt X.env) (EP X pins σ keep) X.xe s3 else ∃H',Inv X pins σ H' s3/\skip H') X.xe s
def tB0(te:TE):TBl:=fun σ H _ keep=>te σ H keep
def tB1(tc:TT)(te:TE):TBl:=fun σ H skip keep=>tc σ H fun b H1=>if b=true then te σ H1 keep else skip H1
theorem dF{X:Cx}{elt:Expr}{te:TE}(he:PE X elt te):PB X [] elt (tB0 te):=by
 intro pins s σ H skip keep I h;refine wpAny_tests_nil ?_;rw[zB0 rfl];exact he pins s σ H keep I h
theorem pb_if{X:Cx}{c elt:Expr}{tc:TT}{te:TE}(hc:PT X c tc)(he:PE X elt te):PB X [c] elt (tB1 tc te):=by
 intro pins s σ H skip keep I h;refine wpAny_tests_one (thn (hc pins s σ H _ I h) fun b s1 ⟨H1,I1,q1⟩=>?_);cases b with
 | true=>
   rw[zB0 rfl]at q1 ⊢;exact he pins s1 σ H1 keep I1 q1
 | false=>
   rw[zA0 (by decide)]at q1 ⊢;exact⟨H1,I1,q1⟩
def sR(J:It)(D:Addr)(ix:List Nat)(tb:TBl)(σ:St)(H:Hp)(Q:VK):Prop:=∃W:Nat->Nat->Hp->Prop,(∃m,W 0 m (upd H D (.lst [])))/\∀i m H2,W i m H2 ->
 (J.stop i H2/\Q (.ref D) H2)∨(J.go i H2/\∀y H3,J.yld i H2 y H3->tb (some y::outs ix σ) H3 (fun H4=>∃m',m'<m/\W (i+1) m' H4)
  fun z H4=>∃ys,H4 D=some (.lst ys)/\ys.length<sizeLine/\∃m',m'<m/\W (i+1) m' (upd H4 D (.lst (ys++[z]))))
def uQ(wi:TI)(ix:List Nat)(tb:TBl):TE:=fun σ H Q=>wi σ H fun J H1=>∀D,H1 D=none->sR J D ix tb σ H1 Q
section
variable {prog:Program} {w:World} {A:Around} {E:Value->Shared->Prop} {R:Result->Shared->Prop} {s:Shared}
theorem oB{elt target iter:Expr}{ifs:List Expr}{scope:Scope}{pos:Pos}{it acc:Value}{env:Env}(I:Nat->Shared->Prop)
 (turn:∀n s,I n s->wpAny (model prog w) A (pyNext it) (fun r s1=>match r with
  | none=>R (.ok .next) s1
  | some v=>wpAny (model prog w) A (letOwnedTupleGo target it v) (fun _ s1'=>wpAny (model prog w) A (assign target env v) (fun _ s2=>
   wpAny (model prog w) A (forIn ifs true fun c r=>if r=true then do let ok ←isTrue c env (eval c env);pure (ForInStep.yield ok)else pure (ForInStep.yield r)) (fun ok s3=>
    if ok=true then wpAny (model prog w) A (eval elt env) (fun x s4=>
     wpAny (model prog w) A (call (.builtin "list.append") [acc,x]) (fun _ s5=>∃m,m<n/\I m s5) (fun _ _=>False) s4) (fun _ _=>False) s3
    else ∃m,m<n/\I m s3) (fun _ _=>False) s2) (fun _ _=>False) s1') (fun _ _=>False) s1) (fun _ _=>False) s)
 (n:Nat) (h:I n s) :
 codeAny (model prog w) A (.compLoop (.ListComp elt [⟨target,iter,ifs,0⟩] scope pos) 0 it acc env) R s:=by
 have up:∀{α:Type}{t:Sem α}{Q Q':α->Shared->Prop}{E':Value->Shared->Prop}{s:Shared},wpAny (model prog w) A t Q (fun _ _=>False) s->(∀a s,Q a s->Q' a s)->wpAny (model prog w) A t Q' E' s:=
  fun h q=>wpAny_mono h q fun _ _ f=>f.elim
 refine codeAny_loop rfl I (fun n s hI=>?_) n h;show wpAny _ A ((compTurn (.ListComp elt [⟨target,iter,ifs,0⟩] scope pos) 0 it acc env).onRaise (fun x=>do noteFrame x env;theTreesLotGoes x)) _ _ s;refine wpAny_noted ?_;rw[compTurn_list];refine zF0 (wpAny_standAt (zF0 (up (turn n s hI) fun r s1 h1=>?_)));cases r with
 | none=>exact zI0 h1
 | some v=>
   refine zF0 (up h1 fun _ s1' h1'=>?_);refine zF0 (up h1' fun _ s2 h2=>zF0 (up h2 fun ok s3 h3=>?_));cases ok with
   | false=>exact zI0 ⟨rfl,h3⟩
   | true=>
     exact zF0 (zF0 (up h3 fun x s4 h4=>zF0 (up h4 fun _ s5 h5=>zI0 (zI0 ⟨rfl,h5⟩))))
end
structure Apart(X:Cx)(pins:List (Addr×Obj))(H:Hp)(C:Addr):Prop where
 fr:H C=none
 lo:C≠X.env.locals
 sz:X.s₀.heap.objs.size<=C
 ce:∀y c,X.env.cells.lookup y=some c->c≠C
 pi:∀p∈X.pn++pins,p.1≠C
theorem Apart.turn{X:Cx}{pins:List (Addr×Obj)}{σ:St}{H:Hp}{C:Addr}{s:Shared}{h':Heap}(a:Apart X pins H C)(I:Inv X pins σ H s)(hs:Heap.SameBut C s.heap h'):Inv X pins σ H { s with heap:=h' }:=
 I.turned (t':=s.toks) (fun b o ne e=>(hs.2 b ne).trans e) a.fr a.lo (.inr a.sz) a.ce a.pi
section
variable {X:Cx} {x:Str} {N:List Str} {ix:List Nat} {scope:Scope} {cl:List (Str×Addr)} {elt iter:Expr} {ifs:List Expr} {px pos:Pos} {wi:TI} {tb:TBl}
theorem uz(hc:X.calm=true)(S:CompScope X x N ix scope cl)(hix:ix.length=N.length)(hb:∀s3 H3 fp,PB (eX X (x::N) scope cl s3 H3 fp) ifs elt tb)
 {pins:List (Addr×Obj)} {s2:Shared} {σ:St} {H2:Hp} {Q:VK} {it:Addr} {fp:List Addr} {tn:Nat->Heap->Prop} {J:It} {RR:Value->Addr->Result->Shared->Prop} {E:Value->Shared->Prop}
 (I2:Inv X pins σ H2 s2) (T:Turn X.prog X.w X.K (.Name x px) J fp it tn) (st2:tn 0 s2.heap) (f2:∀b∈fp,iW X pins H2 b)
 (h:∀D,H2 D=none->∃W:Nat->Nat->Hp->Prop,(∃m,W 0 m (upd H2 D (.lst [])))/\∀i m H3,W i m H3 ->
  (J.stop i H3/\Q (.ref D) H3)∨(J.go i H3/\∀y H4,J.yld i H3 y H4->tb (some y::outs ix σ) H4 (fun H5=>∃m',m'<m/\W (i+1) m' H5)
   fun z H5=>∃ys,H5 D=some (.lst ys)/\ys.length<sizeLine/\∃m',m'<m/\W (i+1) m' (upd H5 D (.lst (ys++[z])))))
 (hRR:∀(D C:Addr)(H':Hp)(s':Shared)(m:Str->Option Value),s'.heap.Ns C m->Apart X pins H' C->Inv X pins σ H' s'->Q (.ref D) H'->RR (.ref D) C (.ok .next) s') :
 wpAny (model X.prog X.w) X.A (newList []) (fun acc s3=>wpAny (model X.prog X.w) X.A (newFunctionEnv scope X.env.globals cl [] X.env.qual none .none (some X.env)) (fun cenv s4=>
  codeAny (model X.prog X.w) X.A (.compStart (.ListComp elt [⟨.Name x px,iter,ifs,0⟩] scope pos) 0 (.ref it) acc { cenv with scope:=relabel scope X.env }) (RR acc cenv.locals) s4) E s3) E s2:=by
 refine wpAny_newObj_type (wpAny_newFunctionEnv S.nocell (by intro y hy;simp at hy) (fun h1 hns1 hsb1=>?_) S.kind)
 dsimp only at hns1 hsb1 ⊢
 have I3:Inv X pins σ (upd H2 s2.heap.objs.size (.lst [])) { s2 with heap:=s2.heap.push { cls:=.type "list",dict:=none,data:=.seq ([]:List Value).toArray } }:=I2.lnew (its:=[]) (ys:=[]) (t':=s2.toks) .nil (zU0 _);have hD:H2 s2.heap.objs.size=none:=I2.fresh;obtain⟨W,⟨m0,w0⟩,turn⟩:=h s2.heap.objs.size hD;have hltF:∀b∈fp,b<s2.heap.objs.size:=fun b hb=>by
  obtain⟨o,e,_⟩:=T.obj 0 _ st2 b hb;exact zN0 e
 generalize hs3:({ s2 with heap:=s2.heap.push { cls:=.type "list",dict:=none,data:=.seq ([]:List Value).toArray } }:Shared)=s3 at I3;have eh:s2.heap.push { cls:=.type "list",dict:=none,data:=.seq ([]:List Value).toArray }=s3.heap:=by rw[←hs3]
 have et:s2.toks=s3.toks:=by rw[←hs3]
 rw[eh]at hns1 hsb1 ⊢;have sz3:s3.heap.objs.size=s2.heap.objs.size+1:=by rw[←eh,Heap.size_push]
 have hlt3:∀b∈fp,b<s3.heap.objs.size:=fun b hb=>qK0 (hltF b hb) (by rw[sz3];exact qI0 _)
 have f3:∀b∈fp,iW X pins (upd H2 s2.heap.objs.size (.lst [])) b:=fun b hb=>by
  obtain⟨q1,q2⟩:=f2 b hb;exact⟨by rw[ay (zV0 (hltF b hb))];exact q1,q2⟩
 have up:∀b o,s3.heap.get? b=some o->h1.get? b=some o:=fun b o e=>hsb1.extBut b o (zV0 (zN0 e)) (zO0 _ e)
 have old:∀b o,s2.heap.get? b=some o->h1.get? b=some o:=fun b o e=>up b o (by rw[←eh];exact zO0 _ e)
 have es:({ s2 with heap:=h1,toks:=s2.toks+([]:List (Str×Value)).length }:Shared)={ s3 with heap:=h1,toks:=s2.toks+([]:List (Str×Value)).length }:=by rw[←hs3]
 rw [es];have I4:Inv (eX X (x::N) scope cl s3 (upd H2 s2.heap.objs.size (.lst [])) fp) [] (none::outs ix σ) (upd H2 s2.heap.objs.size (.lst [])) { s3 with heap:=h1,toks:=s2.toks+([]:List (Str×Value)).length }:=
  wa S I3 f3 hlt3 hix hns1 up
 have st4:tn 0 h1:=T.keep 0 _ _ st2 fun b _ o e=>old b o e
 have loop:codeAny (model X.prog X.w) X.A (.compLoop (.ListComp elt [⟨.Name x px,iter,ifs,0⟩] scope pos) 0 (.ref it) (.ref s2.heap.objs.size) (compEnvC scope cl s3.heap.objs.size X.env)) (RR (.ref s2.heap.objs.size) s3.heap.objs.size)
  { s3 with heap:=h1,toks:=s2.toks+([]:List (Str×Value)).length }:=by
  refine oB (fun n s'=>∃i v0 H',Inv (eX X (x::N) scope cl s3 (upd H2 s2.heap.objs.size (.lst [])) fp) [] (v0::outs ix σ) H' s'/\tn i s'.heap/\(∀b∈fp,H' b=none)/\W i n H') ?_ m0 ⟨0,none,_,I4,st4,fun b hb=>(f3 b hb).1,w0⟩;rintro n s5 ⟨i,v0,H5,I5,st5,fr5,w5⟩;have stat:∀{H':Hp},(∀b∈fp,H' b=none)->∀b∈fp,iW (eX X (x::N) scope cl s3 (upd H2 s2.heap.objs.size (.lst [])) fp) [] H' b:=fun hn b hb=>
   ⟨hn b hb,((oU S I3 f3 hlt3).exf b hb).1,(oU S I3 f3 hlt3).exfs b hb,.inl hb,((oU S I3 f3 hlt3).exf b hb).2,fun p hp=>absurd (show p∈([]:List (Addr×Obj))from hp) (by simp)⟩
  rcases turn i n H5 w5 with⟨stop,qn⟩ | ⟨go,step⟩
  . refine thn (T.done (eX X (x::N) scope cl s3 (upd H2 s2.heap.objs.size (.lst [])) fp) rfl rfl rfl hc i [] s5 _ H5 _ I5 (stat fr5) st5 stop) fun r s6 ⟨hr,I6⟩=>?_
    subst hr;obtain⟨m6,hn6,_⟩:=I6.loc;exact hRR _ _ H5 s6 m6 hn6 ⟨I6.free,Ne.symm (zV0 I3.lt),I3.sz,fun y c e z=>by
     obtain⟨v,q⟩:=I3.cell y c e;exact absurd q.lt (by rw[z];exact qU0 _),fun p hp z=>absurd (zN0 (I3.pin p hp).1) (by rw[z];exact qU0 _)⟩ (zk I3 f3 I6 (Heap.SameBut.refl _ _)) qn
  . refine thn (T.item (eX X (x::N) scope cl s3 (upd H2 s2.heap.objs.size (.lst [])) fp) rfl rfl rfl hc i [] s5 _ H5 _ I5 (stat fr5) st5 go) fun r s6 ⟨u,hr,h6⟩=>?_
    subst hr;refine thn h6 fun _ s7 ⟨y,H7,I7,r7,y7,st7,fr7⟩=>?_
    have I7':=I7.pinned (stat fr7) (T.obj _ _ st7);refine wpAny_assign_Name (lq (i:=0) I7' S.nd rfl (.inl (lookup_relabel_local S.own)) r7 (fun s8 I8=>?_) (.inr (lookup_relabel_local S.own)));have I8':Inv (eX X (x::N) scope cl s3 (upd H2 s2.heap.objs.size (.lst [])) fp) ([]++jA fp s7.heap) (some y::outs ix σ) H7 s8:=I8;have again:∀{v9:Option V}{H9:Hp}{s9:Shared},Inv (eX X (x::N) scope cl s3 (upd H2 s2.heap.objs.size (.lst [])) fp) ([]++jA fp s7.heap) (v9::outs ix σ) H9 s9->(∃m',m'<n/\W (i+1) m' H9) ->
     ∃m,m<n/\∃i v0 H',Inv (eX X (x::N) scope cl s3 (upd H2 s2.heap.objs.size (.lst [])) fp) [] (v0::outs ix σ) H' s9/\tn i s9.heap/\(∀b∈fp,H' b=none)/\W i m H':=fun{v9 H9 s9} I9 ⟨m',hm,w9⟩=>by
     refine⟨m',hm,i+1,v9,H9,I9.unpinned,T.keep _ _ _ st7 fun b hb o e=>(I9.pin (b,o) (qS0 _ (qS0 _ (gr hb e)))).1,fun b hb=>?_,w9⟩;obtain⟨o,e,d⟩:=T.obj _ _ st7 b hb;exact(I9.pin (b,o) (qS0 _ (qS0 _ (gr hb e)))).2.1
    refine thn (hb s3 (upd H2 s2.heap.objs.size (.lst [])) fp _ s8 _ H7 _ _ I8' (step y H7 y7)) fun ok s9 q9=>?_
    cases ok with
    | false=>
      rw[zA0 (by decide)]at q9 ⊢;obtain⟨H9,I9,q9⟩:=q9;exact again I9 q9
    | true=>
      rw[zB0 rfl]at q9 ⊢;refine thn q9 fun u s10 ⟨z,H10,I10,r10,ys,hy,hz,q10⟩=>?_
      refine thn (dw _ s10 _ H10 (.ref s2.heap.objs.size) [z] (.ref s2.heap.objs.size) [u] (fun _ H'=>∃m',m'<n/\W (i+1) m' H') I10 rfl (.cons r10 .nil) ⟨_,ys,z,rfl,rfl,hy,hz,q10⟩) fun _ s11 ⟨_,H11,I11,_,q11⟩=>?_
      exact again I11 q11
 exact codeAny_compStart_list loop (T.self _ 0 _ _ _ st4 loop)
theorem dB(hc:X.calm=true)(S:CompScope X x N ix scope cl)(hix:ix.length=N.length)(hi:PI X (.Name x px) iter wi)(hb:∀s3 H3 fp,PB (eX X (x::N) scope cl s3 H3 fp) ifs elt tb)
 (hs:∀x,foldedSetIterable iter X.env x=pure x:=by intro _;rfl):PE X (.ListComp elt [⟨.Name x px,iter,ifs,0⟩] scope pos) (uQ wi ix tb):=by
 intro pins s σ H Q I h;rw[eval_ListComp];refine wpAny_comprehension_free (use:=none) rfl hs S.clos S.kind S.names (thn (hi pins s σ H _ I h) fun xv s1 h1=>thn h1 fun itv s2 h2=>?_);obtain⟨it,fp,tn,J,H2,rfl,I2,T,st2,f2,R⟩:=h2;refine uz hc S hix hb (RR:=fun acc C=>compPost (model X.prog X.w) X.A X.xe none (EP X pins σ Q) acc C) I2 T st2 f2 R ?_;intro D C H' s' m hn ap I' q;exact⟨m,hn,fun h'' hb''=>⟨.ref D,H',ap.turn I' hb'',rfl,q⟩⟩
theorem sg{i:Nat}{y:Str}{py spos:Pos}(hN:X.N.Nodup)(hi0:X.N[i]?=some y)(hx:Loc X.env.scope y)(hc:X.calm=true)(S:CompScope X x N ix scope cl)(hix:ix.length=N.length)(hi:PI X (.Name x px) iter wi)(hb:∀s3 H3 fp,PB (eX X (x::N) scope cl s3 H3 fp) ifs elt tb)
 (hsw:swapsWith (.ListComp elt [⟨.Name x px,iter,ifs,0⟩] scope pos) (some (.Name y py)) spos.line X.env=pure true:=by with_unfolding_all rfl)
 (hs:∀x,foldedSetIterable iter X.env x=pure x:=by intro _;rfl) (hf:X.fn y=true∨X.env.scope.names.lookup y=some .local:=by first | exact .inl rfl | exact .inr rfl | assumption) :
 PS X (.Assign [.Name y py] (.ListComp elt [⟨.Name x px,iter,ifs,0⟩] scope pos) spos) (fun D σ H=>uQ wi ix tb σ H fun v H'=>D.nx (σ.set i (some v)) H'):=by
 intro pins s σ H Dn I h;rw[exec_Assign_Name_used _ _ _ _ hsw];refine zF0 (wpAny_standAt (zF0 ?_));show wpAny _ X.A (do let _ ←comprehension (.ListComp elt [⟨.Name x px,iter,ifs,0⟩] scope pos) scope X.env _ (newList []) false (eval iter X.env) (some (assign (.Name y py) X.env))) _ _ s;refine zF0 (wpAny_mono (wpAny_comprehension_free (use:=some (assign (.Name y py) X.env)) (Q:=fun _ s'=>SP X pins Dn .next s') rfl hs S.clos S.kind S.names
  (thn (hi pins s σ H _ I h) fun xv s1 h1=>thn h1 fun itv s2 h2=>?_)) (fun _ s' hq=>zI0 (zI0 hq)) fun _ _ e=>e)
 obtain ⟨it,fp,tn,J,H2,rfl,I2,T,st2,f2,R⟩:=h2;refine uz hc S hix hb (RR:=fun acc C=>compPost (model X.prog X.w) X.A X.xe (some (assign (.Name y py) X.env)) (fun _ s'=>SP X pins Dn .next s') acc C) (Q:=fun v H'=>Dn.nx (σ.set i (some v)) H') I2 T st2 f2 R ?_;intro D C H' s' m hn ap I' q;show wpAny _ X.A (assign (.Name y py) X.env (.ref D)) _ _ _;refine wpAny_assign_Name (qK I' hN hi0 hx (v:=.ref D) rfl (fun s'' I'' hsb=>?_) hf);obtain⟨a,hsb,ha⟩:=hsb;have ne:C≠a:=by
  rcases ha with z | z
  . rw[z];exact ap.lo
  . exact Ne.symm (ap.ce y a z)
 exact⟨m,hn.sameBut hsb ne,fun h'' hb''=>⟨_,H',ap.turn I'' hb'',q⟩⟩
end
section
variable {X:Cx} {pins:List (Addr×Obj)} {σ:St} {H:Hp} {s:Shared} {h':Heap}
theorem Inv.turnedNew{t':Nat}{ch:List Addr}{T:Addr}{o:HO}(I:Inv X pins σ H s)(k:∀b u,b∉ch->s.heap.get? b=some u->h'.get? b=some u)(hf:∀b∈ch,iW X pins H b)(hT:s.heap.objs.size<=T)
 (new:ObjOk X.prog X.w (upd H T o) h' T o):Inv X pins σ (upd H T o) { s with heap:=h',toks:=t' }:=by
 have nit:∀b u,H b=some u->b∉ch:=fun b u e z=>by rw[(hf b z).1]at e;cases e
 have hn:H T=none:=I.hok.fresh hT;have lt:∀b u,s.heap.get? b=some u->b≠T:=fun b u e=>zV0 (qK0 (zN0 e) hT)
 refine I.step (g':=s.gens) (d':=s.drawn) (ch:=ch) (fun b hb=>?_) (fun b u _ _ hc e _=>k b u hc e) (fun b u _ _ hc e _=>⟨u.slots,k b u hc e⟩) (fun b u _ e n=>by rw[ay (lt b u e)];exact n) (fun b u hc e=>⟨u,k b u hc e⟩)
  (fun b xs e=>by rw[ay (aO e hn)];exact e) (fun b ob u e=>by rw[ay (aO e hn)];exact e) (fun b ps e=>⟨#[],by rw[ay (aO e hn),e];simp⟩) (fun m hm=>?_) (fun b u e=>?_) I.bare
 . obtain⟨_,h2,_,h4,h5,h6⟩:=hf b hb;exact⟨h4,h2,h5,h6⟩
 . obtain⟨ob,es,ep,ho,r⟩:=hm;exact⟨ob,es,ep,k _ ob (fun z=>(hf _ z).2.1 rfl) ho,r⟩
 . by_cases hb:b=T
   . subst hb;rw[ai]at e;cases e;exact new
   . rw [ay hb]at e;refine(I.hok b u e).stay (fun c v hc q=>k c v ?_ q) (fun c q=>by rw[ay (aO q hn)];exact q) fun c xs q=>by rw[ay (aO q hn)];exact q
     rcases hc with z | z
     . rw[z];exact nit b u e
     . exact nit c _ z
theorem Inv.turnedL{t':Nat}{ch:List Addr}(I:Inv X pins σ H s)(k:∀b u,b∉ch->s.heap.get? b=some u->h'.get? b=some u)(hf:∀b∈ch,iW X pins H b):Inv X pins σ H { s with heap:=h',toks:=t' }:=by
 have nit:∀b u,H b=some u->b∉ch:=fun b u e z=>by rw[(hf b z).1]at e;cases e
 refine I.step (g':=s.gens) (d':=s.drawn) (ch:=ch) (fun b hb=>?_) (fun b u _ _ hc e _=>k b u hc e) (fun b u _ _ hc e _=>⟨u.slots,k b u hc e⟩) (fun _ _ _ _ n=>n) (fun b u hc e=>⟨u,k b u hc e⟩)
  (fun _ _ e=>e) (fun _ _ _ e=>e) (fun b ps e=>⟨#[],by rw[e];simp⟩) (fun m hm=>?_) (fun b u e=>?_) I.bare
 . obtain⟨_,h2,_,h4,h5,h6⟩:=hf b hb;exact⟨h4,h2,h5,h6⟩
 . obtain⟨ob,es,ep,ho,r⟩:=hm;exact⟨ob,es,ep,k _ ob (fun z=>(hf _ z).2.1 rfl) ho,r⟩
 . refine (I.hok b u e).stay (fun c v hc q=>k c v ?_ q) (fun _ q=>q) fun _ _ q=>q
   rcases hc with z | z
   . rw[z];exact nit b u e
   . exact nit c _ z
end
mutual
inductive Rep(K:W.Frag)(H:Hp):V->PyData->Prop
 | non:Rep K H .non .none
 | bl (b:Bool):Rep K H (.bl b) (.bool b)
 | int (i:Int):Rep K H (.int i) (.int i)
 | str (x:Str):Rep K H (.str x) (.str x)
 | tup {a:Addr} {xs:List V} {ds:List PyData}:SqT K H a xs->RepAll K H xs ds->Rep K H (.ref a) (.tuple ds)
 | lst {a:Addr} {xs:List V} {ds:List PyData}:SqL K H a xs->RepAll K H xs ds->Rep K H (.ref a) (.list ds)
inductive RepAll(K:W.Frag)(H:Hp):List V->List PyData->Prop
 | nil:RepAll K H [] []
 | cons {x:V} {d:PyData} {xs:List V} {ds:List PyData}:Rep K H x d->RepAll K H xs ds->RepAll K H (x::xs) (d::ds)
end
section
variable {X:Cx} {pins:List (Addr×Obj)} {σ:St} {H:Hp} {s:Shared}
mutual
theorem Rep.reads(I:Inv X pins σ H s):∀{x:V}{d:PyData}{v:Value},Rep X.K H x d->RelV x v->∃as,Reads s.heap v d as
 | _,_,v,.non,r=>by cases(show v=Value.none from r);exact⟨_,Reads.none⟩
 | _,_,v,.bl b,r=>by cases(show v=Value.bool b from r);exact⟨_,Reads.bool b⟩
 | _,_,v,.int i,r=>by obtain⟨t,e⟩:=(show ∃t,v=Value.int i t from r);cases e;exact⟨_,Reads.int i t⟩
 | _,_,v,.str x,r=>by obtain⟨t,e⟩:=(show ∃t,v=Value.str x t from r);cases e;exact⟨_,Reads.str x t⟩
 | _,_,v,.tup (a:=a) h q,r=>by
   cases(show v=Value.ref a from r);obtain⟨its,rv,⟨o,ho,hc,n,hd⟩,_⟩:=I.tuple h;obtain⟨as,z⟩:=RepAll.reads I q rv;exact⟨_,reads_tuple_at ho hc hd (by simpa using z)⟩
 | _,_,v,.lst (a:=a) h q,r=>by
   cases(show v=Value.ref a from r);obtain⟨its,rv,⟨o,n,ho,hc,_,hd⟩,_⟩:=I.list h;obtain⟨as,z⟩:=RepAll.reads I q rv;exact⟨_,reads_list_at ho hc hd (by simpa using z)⟩
theorem RepAll.reads(I:Inv X pins σ H s):∀{xs:List V}{ds:List PyData}{vs:List Value},RepAll X.K H xs ds->Vals xs vs->∃as,ReadsAll s.heap vs ds as
 | _,_,_,.nil,.nil=>⟨_,ReadsAll.nil⟩
 | _,_,_,.cons h q,.cons r rs=>by
   obtain⟨as,z⟩:=Rep.reads I h r;obtain⟨bs,y⟩:=RepAll.reads I q rs;exact⟨_,ReadsAll.cons z y⟩
end
end
theorem lF{K:W.Frag}{H:Hp}:∀ns:List Int,RepAll K H (ns.map V.int) (ns.map PyData.int)
 | []=>.nil
 | n::r=>.cons (.int n) (lF r)
section
variable {X:Cx}
def rEqD(K:W.Frag):R2:=fun x y H Q=>∃d e,Rep K H x d/\Rep K H y e/\SeqAt.shaped d=true/\SeqAt.shaped e=true/\Q (.bl (PyData.eqv d e)) H
def rNeD(K:W.Frag):R2:=fun x y H Q=>∃d e,Rep K H x d/\Rep K H y e/\SeqAt.shaped d=true/\SeqAt.shaped e=true/\Q (.bl (!PyData.eqv d e)) H
theorem vq(hu:X.A.units+64<cLine):OpR X (compareOp .Eq) (rEqD X.K):=by
 intro pins s σ H x y v u Q I rx ry h;obtain⟨d,e,hd,he,sd,se,q⟩:=h;obtain⟨as,r1⟩:=Rep.reads I hd rx;obtain⟨bs,r2⟩:=Rep.reads I he ry;exact eq_dataH r1 r2 sd se hu ⟨.bl _,H,I,rfl,q⟩
theorem EE(hu:X.A.units+64<cLine):OpR X (compareOp .NotEq) (rNeD X.K):=by
 intro pins s σ H x y v u Q I rx ry h;obtain⟨d,e,hd,he,sd,se,q⟩:=h;obtain⟨as,r1⟩:=Rep.reads I hd rx;obtain⟨bs,r2⟩:=Rep.reads I he ry;exact ne_dataH r1 r2 sd se hu ⟨.bl _,H,I,rfl,q⟩
def pG(K:W.Frag):R2:=fun x y H Q=>∃a b ys,x=.ref a/\y=.ref b/\SqT K H a []/\SqT K H b ys/\Q (.ref b) H
theorem lO:OpR X (binaryOp .Add) (pG X.K):=by
 intro pins s σ H x y v u Q I rx ry h;obtain⟨a,b,ys,rfl,rfl,ha,hb,q⟩:=h;cases rx;cases ry;obtain⟨its,r1,p1,_⟩:=I.tuple ha;obtain⟨its2,r2,p2,_⟩:=I.tuple hb;obtain⟨⟨cls,dd,data,sl⟩,ho,hc,n,hd⟩:=id p1;obtain⟨⟨cls2,dd2,data2,sl2⟩,ho2,hc2,n2,hd2⟩:=id p2;simp only at hc hd hc2 hd2;subst hc hd hc2 hd2;have e:its=[]:=r1.nil_iff.mpr rfl;exact concat_meets ⟨_,ho,rfl⟩ ⟨_,ho2,rfl⟩ noFill_tuple_add seq_tuple_add PySem.F.slot_tuple_add PySem.F.entry_tuple_add (PySem.F.args_tuple_add_2 _ _)
  (tuple_addW0 a b its.toArray its2.toArray n n2 dd dd2 sl sl2 (by simp [e])) ⟨ho,ho2,⟨.ref b,H,I,rfl,q⟩⟩
end
def Nx(n i:Nat)(Pv:Nat->Hp->Prop)(H:Hp):Prop:=∃m',m'<n-i/\(m'=n-(i+1)/\i+1<=n/\Pv (i+1) H)
theorem Nx.of{n i:Nat}{Pv:Nat->Hp->Prop}{H:Hp}(h:i<n)(p:Pv (i+1) H):Nx n i Pv H:=⟨n-(i+1),by omega,rfl,h,p⟩
theorem eY{K:W.Frag}{a D:Addr}{xs:List V}{ix:List Nat}{tb:TBl}{σ:St}{H:Hp}{Q:VK}(Pv:Nat->Hp->Prop)(h0:Pv 0 (upd H D (.lst [])))(hl:∀i H,i<=xs.length->Pv i H->SqT K H a xs)
 (hs:∀i x H,xs[i]?=some x->Pv i H->tb (some x::outs ix σ) H (Nx xs.length i Pv) fun z H'=>∃ys,H' D=some (.lst ys)/\ys.length<sizeLine/\Nx xs.length i Pv (upd H' D (.lst (ys++[z])))) (hd:∀H,Pv xs.length H->Q (.ref D) H) :
 sR (Itt K a) D ix tb σ H Q:=by
 refine⟨fun i m H=>m=xs.length-i/\i<=xs.length/\Pv i H,⟨xs.length,by simp,zU0 _,h0⟩,?_⟩;rintro i m H ⟨rfl,hi,p⟩;have q:=hl i H hi p
 by_cases hlt:i<xs.length
 . refine .inr ⟨⟨xs,xs[i],q,by simp [hlt]⟩,fun x H' y=>?_⟩;obtain⟨e,y⟩:=y;subst e;exact hs i x _ (y xs q) p
 . have e:i=xs.length:=by omega
   subst e;exact .inl ⟨⟨xs,q,zG0 _⟩,hd H p⟩
theorem kC{K:W.Frag}{a D:Addr}{xs:List V}{ix:List Nat}{tb:TBl}{σ:St}{H:Hp}{Q:VK}(Pv:Nat->Hp->Prop)(h0:Pv 0 (upd H D (.lst [])))(hl:∀i H,i<=xs.length->Pv i H->SqL K H a xs)
 (hs:∀i x H,xs[i]?=some x->Pv i H->tb (some x::outs ix σ) H (Nx xs.length i Pv) fun z H'=>∃ys,H' D=some (.lst ys)/\ys.length<sizeLine/\Nx xs.length i Pv (upd H' D (.lst (ys++[z])))) (hd:∀H,Pv xs.length H->Q (.ref D) H) :
 sR (Itl K a) D ix tb σ H Q:=by
 refine⟨fun i m H=>m=xs.length-i/\i<=xs.length/\Pv i H,⟨xs.length,by simp,zU0 _,h0⟩,?_⟩;rintro i m H ⟨rfl,hi,p⟩;have q:=hl i H hi p
 by_cases hlt:i<xs.length
 . refine .inr ⟨⟨xs,xs[i],q,by simp [hlt]⟩,fun x H' y=>?_⟩;obtain⟨e,y⟩:=y;subst e;exact hs i x _ (y xs q) p
 . have e:i=xs.length:=by omega
   subst e;exact .inl ⟨⟨xs,q,zG0 _⟩,hd H p⟩
theorem gu{lo:Int}{n:Nat}{D:Addr}{ix:List Nat}{tb:TBl}{σ:St}{H:Hp}{Q:VK}(Pv:Nat->Hp->Prop)(h0:Pv 0 (upd H D (.lst [])))
 (hs:∀i H,i<n->Pv i H->tb (some (.int (lo+i))::outs ix σ) H (Nx n i Pv) fun z H'=>∃ys,H' D=some (.lst ys)/\ys.length<sizeLine/\Nx n i Pv (upd H' D (.lst (ys++[z])))) (hd:∀H,Pv n H->Q (.ref D) H) :
 sR (Itr lo n) D ix tb σ H Q:=by
 refine⟨fun i m H=>m=n-i/\i<=n/\Pv i H,⟨n,by simp,zU0 _,h0⟩,?_⟩;rintro i m H ⟨rfl,hi,p⟩
 by_cases hlt:i<n
 . refine .inr ⟨hlt,fun x H' y=>?_⟩;obtain⟨e,y⟩:=y;subst e y;exact hs i _ hlt p
 . have e:i=n:=by omega
   subst e;exact .inl ⟨zG0 _,hd H p⟩
theorem CompScope.closed{X:Cx}{x:Str}{scope:Scope}(c1:closureFor scope X.env=pure []:=by with_unfolding_all rfl)(c2:∀y∈scope.names,y.2≠.cell:=by decide)(c3:scope.kind=.function:=by rfl)(c4:∀y∈scope.names,y.2=.local->scope.names.lookup y.1=some .local:=by decide)
 (c5:scope.names.lookup x=some .local:=by rfl) (c6:((relabel scope X.env).names.all fun p=>!(p.2==.cell||p.2==.free)||((([]:List (Str×Addr))).lookup p.1).isSome)=true:=by with_unfolding_all rfl):CompScope X x [] [] scope [] where
 clos:=c1
 nocell:=c2
 kind:=c3
 names:=c4
 own:=c5
 nd:=by simp
 sub:=fun p hp=>absurd hp (by simp)
 has:=c6
 outs:=fun j y h=>by simp at h
section
variable {X:Cx}
theorem uo(K:W.Frag)(hK:X.K=K:=by rfl):IxR X (AB K):=by subst hK;exact ix_list
theorem Dq(K:W.Frag)(hK:X.K=K:=by rfl):IxR X (AA K):=by subst hK;exact ix_tup
end
section
variable {X:Cx}
def rSlS:V->Option Int->Option Int->Hp->VK->Prop:=fun x lo hi H Q=>∃z,x=.str z/\z.length<=sizeLine/\Q (.str (Txt.slice z lo hi)) H
theorem Ah:SlR X rSlS:=by
 intro pins s σ H x v vl vu lo hi sl Q I rx hs pl pu h;obtain⟨z,rfl,hz,q⟩:=h;obtain⟨t,rfl⟩:=rx;refine⟨"str",_,F.slot_str_getitem.lookup,typeIs_str _ _ _,?_⟩;have fin:∀t' k,EP X pins σ Q (.str (Txt.slice z lo hi) t') { s with toks:=k }:=fun t' k=>⟨.str _,H,I.tok k,⟨_,rfl⟩,q⟩
 obtain⟨o,ho,hc,hd⟩:=hs;cases pl with
 | none=>
   cases pu with
   | none=>exact wpAny_getItem_str_slice (l:=none) (u:=none) (st:=none) ⟨o,ho,hc,hd⟩ rfl (post_val_or_str ⟨qC0 (Txt.slice_le z _ _) hz,fin⟩)
   | int j u=>exact wpAny_getItem_str_slice (l:=none) (u:=some (j,u)) (st:=none) ⟨o,ho,hc,hd⟩ rfl (post_val_or_str ⟨qC0 (Txt.slice_le z _ _) hz,fin⟩)
 | int i u'=>
   cases pu with
   | none=>exact wpAny_getItem_str_slice (l:=some (i,u')) (u:=none) (st:=none) ⟨o,ho,hc,hd⟩ rfl (post_val_or_str ⟨qC0 (Txt.slice_le z _ _) hz,fin⟩)
   | int j u=>exact wpAny_getItem_str_slice (l:=some (i,u')) (u:=some (j,u)) (st:=none) ⟨o,ho,hc,hd⟩ rfl (post_val_or_str ⟨qC0 (Txt.slice_le z _ _) hz,fin⟩)
theorem pj:∀{zs:List Str}{us:List Value},Vals (zs.map V.str) us->StrsAre us zs
 | [],_,.nil=>.nil
 | _::_,_,.cons ⟨t,e⟩ r=>by subst e;exact .cons _ t (pj r)
def rJoin(K:W.Frag):V->List V->Hp->VK->Prop:=fun x vs H Q=>∃z a ys,x=.str z/\vs=[.ref a]/\SqL K H a (ys.map V.str)/\z.length<=16/\(ys.map (·.length)).sum+ys.length<=1048576/\Q (.str (Txt.join z ys)) H
theorem Dk:MtR X "str.join" (rJoin X.K):=by
 intro pins s σ H x vs v us Q I rx rv h;obtain⟨z,a,ys,rfl,rfl,hq,hz,hw,q⟩:=h;obtain⟨t,rfl⟩:=rx;obtain⟨w',rfl,ra⟩:=rv.one;cases ra;obtain⟨its,r',p,_⟩:=I.list hq;exact join_listW p.isList (by simpa using pj r') hz hw fun t' k=>⟨.str _,H,I.tok k,⟨_,rfl⟩,q⟩
def rAll(K:W.Frag):List V->Hp->VK->Prop:=fun xs H Q=>∃(a:Addr)(bs:List Bool),xs=[.ref a]/\SqL K H a (bs.map V.bl)/\Q (.bl (bs.all id)) H
theorem rh:∀{bs:List Bool}{us:List Value}{i:Nat}{v:Value},Vals (bs.map V.bl) us->us[i]?=some v->∃b,bs[i]?=some b/\v=.bool b
 | [],_,_,_,.nil,h=>by simp at h
 | b::_,_,0,_,.cons r _,h=>by
   simp at h
   subst h;exact⟨b,rfl,r⟩
 | _::_,_,i+1,_,.cons _ t,h=>by
   obtain⟨b,h1,h2⟩:=rh (i:=i) t (by simpa using h);exact⟨b,by simpa using h1,h2⟩
theorem BZ (hc:X.calm=true):iz X (.builtin "all") (rAll X.K):=by
 intro pins s σ H xs us Q I r h;obtain⟨a,bs,rfl,hq,q⟩:=h;obtain⟨u,rfl,ru⟩:=nV r;cases ru;obtain⟨its,r',p,hz⟩:=I.list hq;have hl:=r'.length;rw[zE0]at hl;have hlt:a<s.heap.objs.size:=by obtain⟨o,n,e,_⟩:=p;exact zN0 e
 refine call_all_walk (wpAny_pyIter_list p.isList ?_);refine⟨s.heap.objs.size,_,_,_,_,_,fun i=>bs[i]?.getD true,rfl,Walks.list (A:=X.A.in1) (I.ok.hd hc) s.heap.objs.size a (zV0 hlt) its.toArray,⟨⟨_,zW0 _ rfl,rfl,rfl⟩,p.isList.push _⟩,?_,?_⟩
 . intro i v s' Q' E' hP hQ;obtain⟨b,hb,rfl⟩:=rh r' (i:=i) (v:=v) (by simpa using hP);have hQ':Q' b s':=by simpa [hb]using hQ
   exact wpAny_truthy_bool hQ'
 . intro h' tk hk;have e:(List.range its.toArray.size).all (fun i=>bs[i]?.getD true)=bs.all id:=by
    rw[zP0,←hl];rw[Bool.eq_iff_iff,List.all_eq_true,List.all_eq_true]
    constructor
    . intro h b hb;obtain⟨i,hi,e⟩:=List.getElem_of_mem hb
      have:=h i (List.mem_range.mpr hi)
      rw[zK0 hi]at this
      simpa [e]using this
    . intro h i hi;have hi':=List.mem_range.mp hi;rw[zK0 hi'];exact h _ (qL0 hi')
   rw[e];refine⟨.bl _,H,?_,rfl,q⟩;have I1:Inv X pins σ H { s with heap:=s.heap.push { cls:=.type "list_iterator",data:=.fields #[.ref a,.int 0 0] } }:=I.kept (t':=s.toks) fun b o e=>zO0 _ e
   refine I1.turnedL (t':=tk) (ch:=[s.heap.objs.size]) (fun b o hb e=>hk b o (by simpa using hb) e) fun b hb=>?_
   rw[zT0 hb];exact I.fpOk (zG0 _) (I.hok.fresh (zG0 _))
end
inductive Consts:List Expr->List Str->Prop
 | nil:Consts [] []
 | cons {x:Str} {j:Nat} {pos:Pos} {es:List Expr} {zs:List Str}:Consts es zs->Consts (.Constant (.str x) j pos::es) (x::zs)
theorem ku{X:Cx}:∀{es:List Expr}{zs:List Str},Consts es zs->PA X es (fun _ H Q=>Q (zs.map V.str) H)
 | _,_,.nil=>ae
 | _,_,.cons h=>fun pos pins s σ H Q I q=>aa aR (ku h) (by rfl) pos pins s σ H Q I q
theorem CompScope.one{X:Cx}{x y:Str}{scope:Scope}{k:Nat}{c:Addr}(c1:closureFor scope X.env=pure [(y,c)]:=by with_unfolding_all rfl)(c2:∀y∈scope.names,y.2≠.cell:=by decide)(c3:scope.kind=.function:=by rfl)(c4:∀y∈scope.names,y.2=.local->scope.names.lookup y.1=some .local:=by decide)
 (c5:scope.names.lookup x=some .local:=by rfl) (nd:[x,y].Nodup:=by decide +kernel) (hc:X.env.cells.lookup y=some c:=by with_unfolding_all rfl) (c6:((relabel scope X.env).names.all fun p=>!(p.2==.cell||p.2==.free)||(([(y,c)]:List (Str×Addr)).lookup p.1).isSome)=true:=by with_unfolding_all rfl)
 (hr:(relabel scope X.env).names.lookup y=some .cell:=by with_unfolding_all rfl) (hk:X.N[k]?=some y:=by rfl) (hs:X.env.scope.names.lookup y=some .cell:=by rfl):CompScope X x [y] [k] scope [(y,c)] where
 clos:=c1
 nocell:=c2
 kind:=c3
 names:=c4
 own:=c5
 nd:=nd
 sub:=fun p hp=>by
  rw[zT0 hp];exact hc
 has:=c6
 outs:=fun j z h=>by
  cases j with
  | zero=>
    have e:y=z:=zQ0 h;subst e;exact⟨hr,k,c,rfl,hk,by simp [List.lookup],hs⟩
  | succ j=>simp at h
theorem CompScope.two{X:Cx}{x y z:Str}{scope:Scope}{k l:Nat}{c d:Addr}{cl:List (Str×Addr)}(c1:closureFor scope X.env=pure cl:=by with_unfolding_all rfl)(c2:∀y∈scope.names,y.2≠.cell:=by decide)(c3:scope.kind=.function:=by rfl)(c4:∀y∈scope.names,y.2=.local->scope.names.lookup y.1=some .local:=by decide)
 (c5:scope.names.lookup x=some .local:=by rfl) (nd:[x,y,z].Nodup:=by decide +kernel) (hcl:cl=[(z,d),(y,c)]∨cl=[(y,c),(z,d)]:=by first | exact Or.inl rfl | exact Or.inr rfl) (hc:X.env.cells.lookup y=some c:=by with_unfolding_all rfl) (hd:X.env.cells.lookup z=some d:=by with_unfolding_all rfl) (c6:((relabel scope X.env).names.all fun p=>!(p.2==.cell||p.2==.free)||(cl.lookup p.1).isSome)=true:=by with_unfolding_all rfl)
 (hr:(relabel scope X.env).names.lookup y=some .cell:=by with_unfolding_all rfl) (hk:X.N[k]?=some y:=by rfl) (hs:X.env.scope.names.lookup y=some .cell:=by rfl)
 (hr2:(relabel scope X.env).names.lookup z=some .cell:=by with_unfolding_all rfl) (hk2:X.N[l]?=some z:=by rfl) (hs2:X.env.scope.names.lookup z=some .cell:=by rfl):CompScope X x [y,z] [k,l] scope cl where
 clos:=c1
 nocell:=c2
 kind:=c3
 names:=c4
 own:=c5
 nd:=nd
 sub:=fun p hp=>by
  rcases hcl with rfl | rfl
  all_goals
   rcases qD0 hp with e | e
   . rw[e];assumption
   . rw[zT0 e];assumption
 has:=c6
 outs:=fun j w h=>by
  have nyz:y≠z:=fun e=>by simp [e]at nd
  match j,h with
  | 0,h=>
    have e:y=w:=zQ0 h;subst e;refine⟨hr,k,c,rfl,hk,?_,hs⟩;rcases hcl with rfl | rfl
    . have:(y==z)=false:=by simpa using nyz
      simp [List.lookup,this]
    . simp [List.lookup]
  | 1,h=>
    have e:z=w:=zQ0 h;subst e;refine⟨hr2,l,d,rfl,hk2,?_,hs2⟩;rcases hcl with rfl | rfl
    . simp [List.lookup]
    . have:(z==y)=false:=by simpa using Ne.symm nyz
      simp [List.lookup,this]
  | j+2,h=>simp at h
end L2
namespace Mine
open PySem L2
def wp (x:Str):Prop:=x.length<=20/\(∀c∈x.cps.toList,97<=c/\c<=122)/\x≠"aa"
theorem kx{x:Str}{l u:Option Int}{c:Nat}(h:c∈(Txt.slice x l u).cps.toList):c∈x.cps.toList:=by
 have e:Txt.slice x l u=StrLaws.sliceText x l u:=rfl;rw[e]at h;unfold StrLaws.sliceText at h
 split at h
 . exact h
 . obtain ⟨i,_,hi⟩:=List.mem_filterMap.mp (show c∈(List.filterMap _ _) by simpa using h)
   have:=Array.mem_of_getElem? hi
   simpa using this
theorem mem_append{x y:Str}{c:Nat}(h:c∈(x++y).cps.toList):c∈x.cps.toList∨c∈y.cps.toList:=by
 have e:(x++y).cps.toList=x.cps.toList++y.cps.toList:=by simp [Str.cps_append]
 rw[e]at h;exact qJ0 h
theorem yO {zs:List Str} {c:Nat} (h:c∈(Txt.join "" zs).cps.toList):∃z∈zs,c∈z.cps.toList:=by
 have e:Txt.join "" zs=Str.join "" zs:=by
  cases zs with
  | nil=>rfl
  | cons a r=>exact StrLaws.glued_cons "" r a
 rw[e]at h;rcases(PyProof.Rows.mem_join "" c zs).mp h with h | ⟨_,h⟩
 . exact h
 . have e0:(("":Str)).cps.toList=[]:=by decide +kernel
   rw[e0]at h;cases h
inductive Tr where
 | is (x:Str) | yes | no | not (a:Tr) | bin (w:Str) (a b:Tr)
def Tr.size:Tr->Nat
 | .is _=>1 | .yes=>1 | .no=>1 | .not a=>a.size+1 | .bin _ a b=>a.size+b.size+1
def Tr.depth:Tr->Nat
 | .is _=>1 | .yes=>1 | .no=>1 | .not a=>a.depth+1 | .bin _ a b=>max a.depth b.depth+1
def Tr.names:Tr->List Str
 | .is x=>[x] | .yes=>[] | .no=>[] | .not a=>a.names | .bin _ a b=>a.names++b.names
def joinW:List Str:=["and","or","odd","same"]
def Tr.ok(ns:List Str):Tr->Prop
 | .is x=>x∈ns | .yes=>True | .no=>True | .not a=>a.ok ns | .bin w a b=>w∈joinW/\a.ok ns/\b.ok ns
inductive TreeAt(H:Hp):V->Tr->Prop
 | is {a:Addr} {x:Str}:H a=some (.tup [.str "is",.str x])->TreeAt H (.ref a) (.is x)
 | yes {a:Addr}:H a=some (.tup [.str "yes"])->TreeAt H (.ref a) .yes
 | no {a:Addr}:H a=some (.tup [.str "no"])->TreeAt H (.ref a) .no
 | not {a:Addr} {v:V} {t:Tr}:H a=some (.tup [.str "not",v])->TreeAt H v t->TreeAt H (.ref a) (.not t)
 | bin {a:Addr} {w:Str} {v u:V} {t r:Tr}:H a=some (.tup [.str w,v,u])->TreeAt H v t->TreeAt H u r->TreeAt H (.ref a) (.bin w t r)
abbrev cx(H H':Hp):Prop:=∀a xs,H a=some (.tup xs)->H' a=some (.tup xs)
theorem TreeAt.mono{H H':Hp}(k:cx H H'){v:V}{t:Tr}(h:TreeAt H v t):TreeAt H' v t:=by
 induction h with
 | is e=>exact .is (k _ _ e)
 | yes e=>exact .yes (k _ _ e)
 | no e=>exact .no (k _ _ e)
 | not e _ ih=>exact .not (k _ _ e) ih
 | bin e _ _ i1 i2=>exact .bin (k _ _ e) i1 i2
theorem aG{H H':Hp}(s:Same H H'):cx H H':=fun a _ h=>s a _ h
theorem cM{H H':Hp}{f:Addr}(F:FeedAt H f)(s:SameBut f H H'):cx H H':=fun a xs h=>s a _ (fun z=>by
 obtain⟨o,t,e,_⟩:=F;rw[z,e]at h;cases h) h
def NamesAt(H:Hp)(a:Addr)(ns:List Str):Prop:=H a=some (.lst (ns.map V.str))∨H a=some (.tup (ns.map V.str))
theorem NamesAt.ne{H:Hp}{f a:Addr}{ns:List Str}(F:FeedAt H f)(h:NamesAt H a ns):a≠f:=fun z=>by
 obtain⟨o,t,e,_⟩:=F;subst z;rcases h with h | h
 . rw [e]at h;have h':=HO.lst.inj (zQ0 h);cases ns with
   | nil=>cases h'
   | cons x r=>simp at h'
 . rw[e]at h;cases h
theorem NamesAt.feed{H H':Hp}{f a:Addr}{ns:List Str}(F:FeedAt H f)(s:SameBut f H H')(h:NamesAt H a ns):NamesAt H' a ns:=by
 have ne:=h.ne F;rcases h with h | h
 . exact .inl (s _ _ ne h)
 . exact .inr (s _ _ ne h)
theorem NamesAt.same{H H':Hp}{a:Addr}{ns:List Str}(s:Same H H')(h:NamesAt H a ns):NamesAt H' a ns:=by
 rcases h with h | h
 . exact .inl (s _ _ h)
 . exact .inr (s _ _ h)
theorem NamesAt.seq{K:W.Frag}{H:Hp}{a:Addr}{ns:List Str}(h:NamesAt H a ns):SqL K H a (ns.map V.str)∨SqT K H a (ns.map V.str):=by
 rcases h with h | h
 . exact .inl (zH0 h)
 . exact .inr (zC0 h)
theorem NamesAt.ix{K:W.Frag}{H:Hp}{a:Addr}{ns:List Str}{i:Int}{x:V}{Q:VK}(h:NamesAt H a ns)(hx:atI (ns.map V.str) i=some x)(q:Q x H):AB K (.ref a) (.int i) H Q∨AA K (.ref a) (.int i) H Q:=by
 rcases h with h | h
 . exact .inl ⟨a,_,i,x,rfl,rfl,zH0 h,hx,q⟩
 . exact .inr ⟨a,_,i,x,rfl,rfl,zC0 h,hx,q⟩
def mJ(n:Nat):Sp:=fun vs H Q _=>∃(f a:Addr)(room deep:Int)(ns:List Str),vs=[.ref f,.ref a,.int room,.int deep]/\FeedAt H f/\NamesAt H a ns/\ns.length<=6/\1<=room/\room<=100/\1<=deep/\deep+1<=(n:Int)+1/\
 ∀(v:V)(t:Tr)(H':Hp),FeedAt H' f->SameBut f H H'->TreeAt H' v t->t.ok ns->(t.size:Int)<=room->(t.depth:Int)<=deep->Q v H'
theorem rC{α:Type}{l:List α}{i:Int}(h0:0<=i)(h:i<(l.length:Int)):∃v,atI l i=some v/\v∈l:=by
 have hk:i.toNat<l.length:=by omega
 have q:atI l ((i.toNat:Nat):Int)=some l[i.toNat]:=cL (zK0 hk);have ek:((i.toNat:Nat):Int)=i:=by omega
 rw[ek]at q;exact⟨_,q,qL0 hk⟩
end Mine
namespace L2
open PySem PySem.Spec PyProof.Rows
section
variable {X:Cx}
def rW(lo:Int)(n:Nat):List Int:=(List.range n).map fun i:Nat=>lo+(i:Int)
theorem Av(lo:Int)(n:Nat):(rW lo n).length=n:=by unfold rW;rw[zE0,qQ0]
theorem yt{lo:Int}{n:Nat}{acc:List Value}(h:ItemsOf (fun i v=>∃t,v=Value.int (lo+(i:Int)*1) t) acc.toArray n):Vals ((rW lo n).map V.int) acc:=by
 obtain⟨h1,h2⟩:=h;have l1:acc.length=n:=by simpa using h1
 have key:∀(k:Nat)(l:List Value),(∀i v,l[i]?=some v->∃t,v=Value.int (lo+((k+i:Nat):Int)) t)->Vals (((List.range' k l.length).map fun i:Nat=>lo+(i:Int)).map V.int) l:=by
  intro k l
  induction l generalizing k with
  | nil=>intro _;exact .nil
  | cons a r ih=>
    intro h;obtain⟨t,e⟩:=h 0 a rfl;rw[qF0,List.range'_succ,zZ0,zZ0];refine .cons ⟨t,by simpa using e⟩ (ih (k+1) fun i v hv=>?_);obtain⟨t,e⟩:=h (i+1) v (by simpa using hv);exact⟨t,by rw[e];congr 2;omega⟩
 have:=key 0 acc fun i v hv=>by
  obtain⟨t,e⟩:=h2 i v (by simpa using hv);exact⟨t,by simpa using e⟩
 unfold rW;rw[←l1,List.range_eq_range'];exact this
def zG(ta:TA):TE:=fun σ H Q=>ta σ H fun vs H1=>∃i j:Int,vs=[.int i,.int j]/\(-(2 ^ 62)<=i/\i<2 ^ 62/\-(2 ^ 62)<=j/\j<2 ^ 62)/\j-i<=1000/\∀p,H1 p=none->Q (.ref p) (upd H1 p (.lst ((rW i (j-i).toNat).map V.int)))
theorem vn {a b:Expr} {ta:TA} {p1 p2 pos1 pos2:Pos} (hc:X.calm=true) (hg1:Gl X "list") (hm1:X.mg "list"=none) (hg2:Gl X "range") (hm2:X.mg "range"=none) (ha:PA X [a,b] ta)
 (hs1:starEach [(.Call (.Name "range" p2) [a,b] [] pos2:Expr)] X.env=[(false,eval (.Call (.Name "range" p2) [a,b] [] pos2) X.env)]:=by rfl) (hs:starEach [a,b] X.env=[(false,eval a X.env),(false,eval b X.env)]:=by rfl) (hs2:starEach [b] X.env=[(false,eval b X.env)]:=by rfl) :
 PE X (.Call (.Name "list" p1) [.Call (.Name "range" p2) [a,b] [] pos2] [] pos1) (zG ta):=by
 intro pins s σ H Q I h;refine wpAny_Call_Name_kw (jh I hg1 hm1 lg ?_);refine PyProof.Rows.callWith_type1 ?_ hs1 rfl;rw[hs1];show wpAny _ _ (spliced ((false,eval (.Call (.Name "range" p2) [a,b] [] pos2) X.env)::backTo pos1 (starEach [] X.env))) _ _ s;have step:wpAny (model X.prog X.w) X.A (eval (.Call (.Name "range" p2) [a,b] [] pos2) X.env) (fun v s1=>∃(r:Addr) (i j:Int) (t u k:Tok) (H1:Hp),v=.ref r/\Inv X pins σ H1 s1/\IsRange s1.heap r i j 1 t u k/\(-(2 ^ 62)<=i/\i<2 ^ 62/\-(2 ^ 62)<=j/\j<2 ^ 62)/\j-i<=1000/\
  ∀p,H1 p=none->Q (.ref p) (upd H1 p (.lst ((rW i (j-i).toNat).map V.int)))) X.xe s:=by
  refine Call_ (jh I hg2 hm2 boot_range (PyProof.Rows.callWith_type1 (thn (ha pos2 pins s σ H _ I h) fun us s1 ⟨vs,H1,I1,r1,q1⟩=>?_) (by rw[hs,hs2]) (by rw[hs2];rfl)));obtain⟨i,j,e,q1,q2,q⟩:=q1;subst e;cases r1 with
  | cons r rr=>
    cases rr with
    | cons r' rr=>
      cases rr;obtain⟨t,rfl⟩:=r;obtain⟨t',rfl⟩:=r';refine call_range_2 ⟨_,i,j,_,_,_,H1,rfl,I1.kept fun b o e=>zO0 _ e,IsRange.new ..,q1,q2,q⟩
 refine Calls.spliced_cons (thn step fun v s1 hv=>?_);obtain⟨r,i,j,t,u,k,H1,rfl,I1,hr,⟨a1,a2,a3,a4⟩,hle,q⟩:=hv;refine Calls.spliced_nil ?_;have e2:Builtin.Range.rangeSize i j 1=(((j-i).toNat:Nat):Int):=by rw[rangeSize_one];split <;> omega
 refine call_list_range (I1.ok.hd hc) hr (small_one a1 a2 a3 a4) e2 (by omega) fun h' tk acc' c' hk hS hacc=>?_
 obtain⟨acc,rfl⟩:∃acc:List Value,acc'=acc.toArray:=⟨acc'.toList,by simp⟩
 have rr:=yt hacc;have I2:Inv X pins σ (upd H1 s1.heap.objs.size (.lst ((rW i (j-i).toNat).map V.int))) { s1 with heap:=h',toks:=tk }:=by
  refine I1.turnedNew (ch:=[]) (fun b ob _ eb=>hk b ob eb) (fun b hb=>absurd hb (by simp)) (zG0 _) ⟨?_,acc,c',rr,hS⟩;rw[zE0,Av];exact dX (by omega)
 exact⟨.ref s1.heap.objs.size,_,I2,rfl,q _ (I1.hok.fresh (zG0 _))⟩
def rSum(K:W.Frag):List V->Hp->VK->Prop:=fun xs H Q=>∃(a:Addr)(ns:List Int),xs=[.ref a]/\SqL K H a (ns.map V.int)/\(∀n∈ns,0<=n)/\ns.sum<2 ^ 63/\Q (.int ns.sum) H
theorem qg:∀{bs:List Int}{us:List Value}{i:Nat}{v:Value},Vals (bs.map V.int) us->us[i]?=some v->∃b t,bs[i]?=some b/\v=.int b t
 | [],_,_,_,.nil,h=>by simp at h
 | b::_,_,0,_,.cons r _,h=>by
   simp at h
   subst h;obtain⟨t,e⟩:=r;exact⟨b,t,rfl,e⟩
 | _::_,_,i+1,_,.cons _ t,h=>by
   obtain⟨b,t,h1,h2⟩:=qg (i:=i) t (by simpa using h);exact⟨b,t,by simpa using h1,h2⟩
theorem nX{ns:List Int}(h:∀n∈ns,0<=n)(j:Nat):0<=(ns.take j).sum/\(ns.take j).sum<=ns.sum:=by
 induction ns generalizing j with
 | nil=>simp
 | cons a r ih=>
   cases j with
   | zero=>
     have:=ih (fun n hn=>h n (qR0 _ hn)) r.length
     rw[qM0]at this;have a0:=h a qP0;simp only[List.take_zero,List.sum_nil,List.sum_cons];omega
   | succ j=>
     have:=ih (fun n hn=>h n (qR0 _ hn)) j
     have a0:=h a qP0;simp only[List.take_succ_cons,List.sum_cons];omega
theorem oh(ns:List Int)(j:Nat):preSum (fun i=>ns[i]?.getD 0) j=(ns.take j).sum:=by
 induction j with
 | zero=>simp;rfl
 | succ j ih=>
   show preSum (fun i=>ns[i]?.getD 0) j+(fun i=>ns[i]?.getD 0) j=_;rw[ih,qN0,List.sum_append];cases e:ns[j]? with
   | none=>simp [e]
   | some x=>simp [e]
theorem qo (hc:X.calm=true):iz X (.builtin "sum") (rSum X.K):=by
 intro pins s σ H xs us Q I r h;obtain⟨a,ns,rfl,hq,n0,nb,q⟩:=h;obtain⟨u,rfl,ru⟩:=nV r;cases ru;obtain⟨its,r',p,hz⟩:=I.list hq;have hl:=r'.length;rw[zE0]at hl;have hlt:a<s.heap.objs.size:=by obtain⟨o,n,e,_⟩:=p;exact zN0 e
 refine call_sum_walk (wpAny_pyIter_list p.isList ?_);refine⟨s.heap.objs.size,_,_,_,_,_,fun i=>ns[i]?.getD 0,rfl,Walks.list (A:=X.A.in1) (I.ok.hd hc) s.heap.objs.size a (zV0 hlt) its.toArray,⟨⟨_,zW0 _ rfl,rfl,rfl⟩,p.isList.push _⟩,?_,?_,?_,?_⟩
 . intro b hb;have hpz:∀o:Obj,(s.heap.push o).objs.size=s.heap.objs.size+1:=fun o=>by simp [Heap.push]
   show b<(s.heap.push _).objs.size;rw[hpz];rcases qD0 hb with e | e
   . rw[e];exact Nat.lt_succ_self _
   . rw[zT0 e];exact Nat.lt_succ_of_lt hlt
 . intro i v hP;obtain⟨b,t,hb,rfl⟩:=qg r' (i:=i) (v:=v) (by simpa using hP);exact⟨t,by simp [hb]⟩
 . intro j hj;have hj':j<ns.length:=by rw[hl];simpa using hj
   have s1:=nX n0 (j+1);rw[oh];refine⟨?_,by unfold InLong;omega⟩;have s2:=nX n0 j;have e:(ns.take (j+1)).sum=(ns.take j).sum+ns[j]:=by rw[qN0,List.sum_append,zK0 hj'];simp
   have n1:=n0 _ (qL0 hj');show InLong (ns[j]?.getD 0);rw[zK0 hj'];show InLong ns[j];unfold InLong;omega
 . intro h' tk t' hk;rw[oh,zP0,←hl,qM0];refine⟨.int _,H,?_,⟨_,rfl⟩,q⟩;have I1:Inv X pins σ H { s with heap:=s.heap.push { cls:=.type "list_iterator",data:=.fields #[.ref a,.int 0 0] } }:=I.kept (t':=s.toks) fun b o e=>zO0 _ e
   refine I1.turnedL (t':=tk) (ch:=[s.heap.objs.size]) (fun b o hb e=>hk b o (by simpa using hb) e) fun b hb=>?_
   rw[zT0 hb];exact I.fpOk (zG0 _) (I.hok.fresh (zG0 _))
end
theorem wT:Slot "reversed" "__iter__" "reversed.__iter__":=Slot.of (owner:="reversed") (n:="__iter__") (by rw[typeLookup_type,builtinLookup_eq_fast];kernel_rfl) (by decide +kernel) (by decide +kernel) (by decide +kernel) (by first | exact .inl (by decide +kernel) | exact .inr (by decide +kernel)) (by rw[isSubtype_type];kernel_rfl) (by decide +kernel)
theorem rv_next:Slot "reversed" "__next__" "reversed.__next__":=Slot.of (owner:="reversed") (n:="__next__") (by rw[typeLookup_type,builtinLookup_eq_fast];kernel_rfl) (by decide +kernel) (by decide +kernel) (by decide +kernel) (by first | exact .inl (by decide +kernel) | exact .inr (by decide +kernel)) (by rw[isSubtype_type];kernel_rfl) (by decide +kernel)
theorem zD:typeLookup (.type "tuple") "__reversed__"=pure none:=by rw[typeLookup_type,builtinLookup_eq_fast];kernel_rfl
theorem yq:entryFor table "reversed.__iter__"=some Builtin.«dict_keyiterator.__iter__»:=entryFor_alias (by kernel_rfl) rfl (show _="dict_keyiterator.__iter__" by decide +kernel) (by kernel_rfl)
theorem qP:entryFor table "reversed.__next__"=some Builtin.«reversed.__next__»:=entryFor_of_tree (by kernel_rfl)
def RevT (h:Heap) (it t:Addr) (i:Int):Prop:=h.get? it=some { cls:=.type "reversed",data:=.fields #[.ref t,rawInt i] }
section
variable {prog:Program} {w:World} {A:Around} {E:Value->Shared->Prop} {s:Shared} {R:Result->Shared->Prop} {it t:Addr}
theorem RevT.typeIs {i:Int} (h:RevT s.heap it t i):s.TypeIs (.ref it) "reversed":=⟨_,h,rfl⟩
theorem qV{i:Int}{Q:Value->Shared->Prop}(h:RevT s.heap it t i)(q:Q (.ref it) s):wpAny (model prog w) A (pyIter (.ref it)) Q E s:=
 wpAny_pyIter_slot h.typeIs wT (wpAny_call_entry wT h.typeIs yq (zI0 ⟨_,rfl,"reversed",_,h.typeIs,rv_next.lookup,q⟩) (by rfl))
theorem pY{i:Nat}{items:Array Value}{x:Value}{Q:Option Value->Shared->Prop}(h:RevT s.heap it t (i:Int))(ht:IsTup s.heap t items)(hx:items[i]?=some x)(hi:(i:Int)<2 ^ 63)
 (q:∀h' tk,RevT h' it t ((i:Int)-1)->Heap.SameBut it s.heap h'->Q (some x) { s with heap:=h',toks:=tk }):wpAny (model prog w) A (pyNext (.ref it)) Q E s:=by
 have hT:=h.typeIs;have hs:i<items.size:=(Array.getElem?_eq_some_iff.mp hx).1;unfold pyNext;refine zF0 (wpAny_attempt (wpAny_callSpecial?_slot hT rv_next (wpAny_call_entry rv_next hT qP ?_ (by rfl))));unfold Builtin.«reversed.__next__»;refine zF0 (wpAny_of_eq (show slotArgs "__next__" 0 ⟨[.ref it],[]⟩=pure (.ref it,[])from rfl) ?_);refine zF0 (wpAny_field h rfl rfl ?_);refine zF0 (wpAny_field h rfl rfl ?_);refine wpAny_ite_split (fun hab=>absurd hab (by omega)) (fun _=>?_);refine zF0 (wpAny_specialOf (show s.TypeIs (.ref t) "tuple" from ht.typeIs) PyProof.Rows.slot_tuple_getitem.lookup ?_);refine wpAny_ite_split (fun hab=>absurd hab (by simp)) (fun _=>?_);refine zF0 (wpAny_mkInt ?_);have e1:seqIndex? (i:Int) items.size=some i:=(sG (by unfold ixN;rw[zB0 (by omega),zB0 (by omega)];simp)).1;refine zF0 (wpAny_attempt (PyProof.Rows.getItem_tuple (items:=items) (x:=x) ht (by omega) hi e1 hx ?_));refine zF0 (wpAny_field h rfl rfl ?_);refine zF0 (wpAny_setField_rec h (by simp) fun h' e hb=>?_);refine zI0 ⟨_,rfl,zI0 (q h' _ ?_ hb)⟩;exact e
theorem qE{Q:Option Value->Shared->Prop}(hh:A.handled=none)(h:RevT s.heap it t (-1))
 (q:∀h' tk,Heap.ExtBut it s.heap h'->Q none { s with heap:=h',toks:=tk }):wpAny (model prog w) A (pyNext (.ref it)) Q E s:=by
 have hT:=h.typeIs;unfold pyNext;refine zF0 (wpAny_attempt (wpAny_callSpecial?_slot hT rv_next (wpAny_call_entry rv_next hT qP ?_ (by rfl))));unfold Builtin.«reversed.__next__»;refine zF0 (wpAny_of_eq (show slotArgs "__next__" 0 ⟨[.ref it],[]⟩=pure (.ref it,[])from rfl) ?_);refine zF0 (wpAny_field h rfl rfl ?_);refine zF0 (wpAny_field h rfl rfl ?_);refine wpAny_ite_split (fun _=>?_) (fun hab=>absurd (by decide) hab);refine zF0 (wpAny_rule ?_);refine zF0 ?_;show wpAny _ _ (setField (.ref it) 1 (rawInt (-1)) >>= fun _=>setField (.ref it) 0 Value.none) _ _ _;refine zF0 (wpAny_setField_rec h (by simp) fun h1 e1 b1=>?_);refine wpAny_setField_rec e1 (by simp) fun h2 e2 b2=>?_
 refine zF0 ?_;unfold Builtin.SmallTypes.stopIteration newExc newTuple;refine zF0 (zF0 (wpAny_newObj_type ?_ (by show 0<=sizeLine;decide)));refine zF0 (wpAny_of_eq (show firstArgMember (.type "StopIteration") []=pure .none by with_unfolding_all rfl) ?_);refine wpAny_newObj_type ?_ (sizeOk_excFields ..);refine wpAny_raiseNew_none hh ?_;refine zF0 (wpAny_isInstance (T:="StopIteration") ⟨_,zW0 _ rfl,rfl⟩ isSubtype_stop ?_);refine wpAny_ite_split (fun _=>?_) (fun hab=>absurd rfl hab);refine zI0 (q _ _ ?_);exact(b1.extBut.trans b2.extBut).trans fun b o hb e=>zO0 _ (zO0 _ e)
theorem CF:Slot "reversed" "__init__" "object.__init__":=Slot.of (owner:="object") (n:="__init__") (by rw[typeLookup_type,builtinLookup_eq_fast];kernel_rfl) (by decide +kernel) (by decide +kernel) (by decide +kernel) (by first | exact .inl (by decide +kernel) | exact .inr (by decide +kernel)) (by rw[isSubtype_type];kernel_rfl) (by decide +kernel)
theorem yr:TypeCalled "reversed" "reversed.__new__" "object.__init__":=⟨by decide,F.create_reversed,⟨_,_,F.mro_reversed⟩,F.made_reversed,F.plain_reversed_new,F.sub_reversed_self,CF⟩
theorem xZ:isSubtype (.type "tuple") (.type "dict")=pure false:=by rw[isSubtype_type];kernel_rfl
theorem mo{items:Array Value}{Q:Value->Shared->Prop}(ht:IsTup s.heap t items)(hz:items.size<=sizeLine)
 (q:∀tk,Q (.ref s.heap.objs.size) { s with heap:=s.heap.push { cls:=.type "reversed",data:=.fields #[.ref t,rawInt ((items.size:Int)-1)] },toks:=tk }):wpAny (model prog w) A (call (.type "reversed") [.ref t]) Q E s:=by
 have h63:=jE;refine callType_newIn yr (by decide) (F.typeCall_reversed_1 _) (F.newCall_reversed_1 _) (fun _=>by rfl) F.entry_reversed_new
  (S:=fun A R s=>wpAny (model prog w) A.in1 (Builtin.«reversed.__new__» ⟨[.type "reversed",.ref t],[]⟩) (fun fin s'=>match fin with | .done f=>R (.ok f) s' | .again c'=>c'.quiet=true/\codeAny (model prog w) A c' R s') (fun e s'=>R (.error e) s') s) (fun A R s h=>h) ?_
 unfold Builtin.«reversed.__new__»;refine zF0 (wpAny_of_eq (newClass_reversed _) ?_);refine zF0 (wpAny_of_eq (a:=()) rfl ?_);refine zF0 (wpAny_of_eq (a:=()) rfl ?_);refine zF0 (wpAny_specialOf ht.typeIs zD ?_);refine zF0 ?_;refine zF0 (wpAny_isInstance ht.typeIs xZ ?_);refine wpAny_ite_split (fun hab=>absurd hab (by decide)) (fun _=>?_);refine zF0 (wpAny_specialOf ht.typeIs PyProof.Rows.slot_tuple_getitem.lookup ?_);refine wpAny_ite_split (fun _=>?_) (fun hab=>absurd (by decide +kernel) hab);refine zI0 ?_;refine wpAny_ite_split (fun hab=>absurd hab (by decide)) (fun _=>?_);refine zF0 (len_tuple ht (by omega) ?_);refine zF0 (zI0 ?_);refine zF0 (wpAny_newObj_type (data:=.fields #[.ref t,rawInt ((items.size:Int)-1)]) ?_ (by show 2<=sizeLine+2;decide));refine zI0 ?_;exact⟨⟨_,zW0 _ rfl,rfl⟩,q _⟩
end
end L2
namespace Mine
open PySem L2
def Tr.wf:Tr->Prop
 | .is x=>wp x | .yes=>True | .no=>True | .not a=>a.wf | .bin w a b=>w∈joinW/\a.wf/\b.wf
def Tr.parts:Tr->List Tr
 | .is _=>[] | .yes=>[] | .no=>[] | .not a=>[a] | .bin _ a b=>[a,b]
theorem Tr.ok_wf{ns:List Str}(hn:∀x∈ns,wp x):∀t:Tr,t.ok ns->t.wf
 | .is _,h=>hn _ h
 | .yes,_=>trivial
 | .no,_=>trivial
 | .not a,h=>Tr.ok_wf hn a h
 | .bin _ a b,⟨h,h1,h2⟩=>⟨h,Tr.ok_wf hn a h1,Tr.ok_wf hn b h2⟩
theorem Tr.depth_pos:∀t:Tr,1<=t.depth
 | .is _=>zG0 _ | .yes=>zG0 _ | .no=>zG0 _ | .not a=>Nat.le_add_left .. | .bin _ a b=>Nat.le_add_left ..
def iC(ts:List Tr):Nat:=(ts.map Tr.size).sum
def ie(ts:List Tr):List Str:=(ts.map Tr.names).flatten
theorem Tr.size_parts(t:Tr):t.size=iC t.parts+1:=by
 cases t <;> simp [Tr.size,Tr.parts,iC]
theorem Tr.names_parts(t:Tr)(h:∀x,t≠.is x):t.names=ie t.parts:=by
 cases t with
 | is x=>exact absurd rfl (h x)
 | _=>simp [Tr.names,Tr.parts,ie]
theorem Tr.parts_mem{t u:Tr}(h:u∈t.parts)(w:t.wf):u.wf/\u.depth+1<=t.depth/\u.size+1<=t.size:=by
 cases t with
 | is x=>simp [Tr.parts]at h
 | yes=>simp [Tr.parts]at h
 | no=>simp [Tr.parts]at h
 | not a=>
   rw[zT0 h];exact⟨w,zG0 _,zG0 _⟩
 | bin o a b=>
   obtain⟨_,w1,w2⟩:=w;rcases qD0 h with e | e
   . rw [e];refine⟨w1,?_,?_⟩
     . show a.depth+1<=max a.depth b.depth+1;omega
     . show a.size+1<=a.size+b.size+1;omega
   . rw [zT0 e];refine⟨w2,?_,?_⟩
     . show b.depth+1<=max a.depth b.depth+1;omega
     . show b.size+1<=a.size+b.size+1;omega
inductive TreesAt(H:Hp):List V->List Tr->Prop
 | nil:TreesAt H [] []
 | cons {v:V} {t:Tr} {vs:List V} {ts:List Tr}:TreeAt H v t->TreesAt H vs ts->TreesAt H (v::vs) (t::ts)
theorem TreesAt.mono{H H':Hp}(k:cx H H'){vs:List V}{ts:List Tr}(h:TreesAt H vs ts):TreesAt H' vs ts:=by
 induction h with
 | nil=>exact .nil
 | cons a _ ih=>exact .cons (a.mono k) ih
theorem TreesAt.append{H:Hp}{vs us:List V}{ts rs:List Tr}(h:TreesAt H vs ts)(g:TreesAt H us rs):TreesAt H (vs++us) (ts++rs):=by
 induction h with
 | nil=>exact g
 | cons a _ ih=>exact .cons a ih
theorem TreesAt.length{H:Hp}{vs:List V}{ts:List Tr}(h:TreesAt H vs ts):vs.length=ts.length:=by
 induction h with
 | nil=>rfl
 | cons _ _ ih=>rw[qF0,qF0,ih]
theorem TreesAt.get{H:Hp}{vs:List V}{ts:List Tr}(h:TreesAt H vs ts):∀{i:Nat}{v:V},vs[i]?=some v->∃t,ts[i]?=some t/\TreeAt H v t:=by
 induction h with
 | nil=>intro i v e;simp at e
 | cons a _ ih=>
   intro i v e;cases i with
   | zero=>cases(zQ0 e);exact⟨_,rfl,a⟩
   | succ i=>exact ih (i:=i) (by simpa using e)
theorem vQ {w:Str} (h:w∈joinW):w≠"is":=(by decide +kernel:∀w∈joinW,w≠("is":Str)) w h
theorem TreeAt.view {H:Hp} {v:V} {t:Tr} (h:TreeAt H v t) (w:t.wf):(∃(a:Addr) (x:Str),v=.ref a/\t=.is x/\wp x/\H a=some (.tup [.str "is",.str x]))∨
 ∃(a:Addr) (o:Str) (xs:List V),v=.ref a/\o≠"is"/\xs.length<=2/\H a=some (.tup (.str o::xs))/\TreesAt H xs t.parts/\(∀x,t≠.is x):=by
 cases h with
 | is e=>exact .inl ⟨_,_,rfl,rfl,w,e⟩
 | yes e=>exact .inr ⟨_,_,[],rfl,by decide +kernel,by simp,e,.nil,fun x z=>by cases z⟩
 | no e=>exact .inr ⟨_,_,[],rfl,by decide +kernel,by simp,e,.nil,fun x z=>by cases z⟩
 | not e g=>exact .inr ⟨_,_,[_],rfl,by decide +kernel,by simp,e,.cons g .nil,fun x z=>by cases z⟩
 | bin e g g2=>exact .inr ⟨_,_,[_,_],rfl,vQ w.1,by simp,e,.cons g (.cons g2 .nil),fun x z=>by cases z⟩
theorem cut1(o:V):∀xs:List V,xs.length<=2->lc (o::xs) (some 1) none=xs/\¬ (HT.sIx (o::xs).length 0 (some 1)=0/\HT.sIx (o::xs).length (o::xs).length none=(o::xs).length)
 | [],_=>⟨rfl,fun h=>absurd h.1 (show ¬ HT.sIx 1 0 (some 1)=0 by decide)⟩
 | [_],_=>⟨rfl,fun h=>absurd h.1 (show ¬ HT.sIx 2 0 (some 1)=0 by decide)⟩
 | [_,_],_=>⟨rfl,fun h=>absurd h.1 (show ¬ HT.sIx 3 0 (some 1)=0 by decide)⟩
 | _::_::_::_,h=>absurd h (by simp)
theorem Tr.names_len:∀t:Tr,t.names.length<=t.size
 | .is _=>zG0 _
 | .yes=>zU0 _
 | .no=>zU0 _
 | .not a=>Nat.le_succ_of_le (Tr.names_len a)
 | .bin _ a b=>by
   have:=Tr.names_len a
   have:=Tr.names_len b
   show(a.names++b.names).length<=a.size+b.size+1;rw[zM0];omega
end Mine
namespace L2
open PySem PySem.Spec PyProof.Rows
section
variable {prog:Program} {w:World} {A:Around} {E:Value->Shared->Prop} {s:Shared}
def EV(xs:Array Value)(x:Value):Nat->Option PySem.Fin×Unit->Sem (ForInStep (Option PySem.Fin×Unit)):=fun i _=>match xs[i]? with
 | some y=>do
   let b ←eqBool y x
   if b=true then do
    let r ←retInt (i:Int)
    pure (ForInStep.done (some r,()))
    else pure (ForInStep.yield (none,()))
 | _=>pure (ForInStep.yield (none,()))
theorem ur{xs:Array Value}{x:Value}{e:Value->Bool}(he:∀y∈xs,SeqAt.EqAt A s y x (e y)){j:Nat}(hj:j<xs.size)(ej:e xs[j]=true)(bf:∀(m:Nat) (hm:m<xs.size),m<j->e xs[m]=false){Q:Option PySem.Fin×Unit->Shared->Prop}
 (q:Q (some (.done (.ret (.int (j:Int) s.toks))),()) { s with toks:=s.toks+1 }):∀(n k:Nat),k<=j->j<k+n->k+n<=xs.size->wpAny (model prog w) A (forIn (List.range' k n 1) ((none:Option PySem.Fin),()) (EV xs x)) Q E s
 | 0,k,h1,h2,_=>absurd h2 (by omega)
 | n+1,k,h1,h2,h3=>by
   have hk:k<xs.size:=by omega
   rw [List.range'_succ,List.forIn_cons];refine zF0 ?_;have e1:EV xs x k ((none:Option PySem.Fin),())=(do
    let b ←eqBool xs[k] x
    if b=true then do
     let r ←retInt (k:Int)
     pure (ForInStep.done (some r,()))
     else pure (ForInStep.yield (none,()))):=by
    unfold EV;rw[Array.getElem?_eq_getElem hk]
   rw[e1];refine zF0 (he _ (Array.getElem_mem hk) prog w _ _ ?_)
   by_cases c:k=j
   . subst c;rw[ej];refine wpAny_ite_split (fun _=>?_) (fun hab=>absurd rfl hab);refine zF0 ?_;refine zF0 (wpAny_mkInt ?_);refine zI0 ?_;refine zI0 ?_;exact zI0 q
   . rw[bf k hk (by omega)];refine wpAny_ite_split (fun hab=>absurd hab (by decide)) (fun _=>?_);refine zI0 ?_;exact ur he hj ej bf q n (k+1) (by omega) (by omega) (by omega)
theorem qd(l:Addr)(items:Array Value)(n:Nat)(dd:Option Addr)(sl:Array (Option Value))(x:Value)(e:Value->Bool)(j:Nat)(hj:j<items.size)(ej:e items[j]=true)(bf:∀(m:Nat) (hm:m<items.size),m<j->e items[m]=false) :
 Meets (Builtin.«tuple.index» { pos:=[.ref l,x] }) fun A R s=>s.heap.get? l=some { cls:=.type "tuple",dict:=dd,data:=.seq items n,slots:=sl }/\(∀y∈items,SeqAt.EqAt A.in1 s y x (e y))/\R (.ok (.ret (.int (j:Int) s.toks))) { s with toks:=s.toks+1 }:=by
 intro prog w A R s ⟨hl,he,q⟩;unfold Builtin.«tuple.index»;refine zF0 (wpAny_of_eq (a:=(Value.ref l,[x])) rfl ?_);refine zF0 (wpAny_tupleItemsOf hl rfl ?_);refine zF0 (zI0 ?_);refine zF0 (zI0 ?_);refine zF0 ?_;rw[Std.Legacy.Range.forIn_eq_forIn_range'];have e1:Std.Legacy.Range.size [0:min items.size items.size]=items.size:=by simp [Std.Legacy.Range.size]
 rw[e1];refine ur he hj ej bf ?_ items.size 0 (zU0 _) (by omega) (by omega);exact zI0 q
end
section
variable {X:Cx}
def eW(z:Str):List Str->Option Nat
 | []=>none
 | a::r=>if a=z then some 0 else(eW z r).map (·+1)
theorem pO{z:Str}:∀{ns:List Str}{j:Nat},eW z ns=some j->ns[j]?=some z/\∀m,m<j->∀y,ns[m]?=some y->y≠z
 | [],_,h=>by simp [eW]at h
 | a::r,j,h=>by
   unfold eW at h
   by_cases c:a=z
   . rw[zB0 c]at h;cases h;exact⟨by simp [c],fun m hm=>absurd hm (by omega)⟩
   . rw [zA0 c]at h;obtain⟨i,hi,rfl⟩:=qV0 h;obtain⟨h1,h2⟩:=pO hi;refine⟨by simpa using h1,fun m hm y hy=>?_⟩;cases m with
     | zero=>cases(zQ0 hy);exact c
     | succ m=>exact h2 m (by omega) y (by simpa using hy)
theorem pf:∀{bs:List Str}{us:List Value}{i:Nat}{v:Value},Vals (bs.map V.str) us->us[i]?=some v->∃b t,bs[i]?=some b/\v=.str b t
 | [],_,_,_,.nil,h=>by simp at h
 | b::_,_,0,_,.cons r _,h=>by
   simp at h
   subst h;obtain⟨t,e⟩:=r;exact⟨b,t,rfl,e⟩
 | _::_,_,i+1,_,.cons _ t,h=>by
   obtain⟨b,t,h1,h2⟩:=pf (i:=i) t (by simpa using h);exact⟨b,t,by simpa using h1,h2⟩
theorem gt(ns:List Str):(ns.map V.str).all jo=true:=by
 induction ns with
 | nil=>rfl
 | cons a r ih=>rw[zZ0,List.all_cons,ih];rfl
theorem ox{ns:List Str}{its:List Value}{z:Str}{j:Nat}(r:Vals (ns.map V.str) its)(h:eW z ns=some j) :
 ∃hj:j<its.toArray.size,eqU (.str z) its.toArray[j]=true/\∀(m:Nat)(hm:m<its.toArray.size),m<j->eqU (.str z) its.toArray[m]=false:=by
 obtain⟨h1,h2⟩:=pO h;have hl:=r.length;rw[zE0]at hl;have jl:j<ns.length:=(zY0 h1).1;have hj:j<its.toArray.size:=by rw[zP0,←hl];exact jl
 refine⟨hj,?_,fun m hm mj=>?_⟩
 . obtain ⟨b,t,e1,e2⟩:=pf r (i:=j) (v:=its.toArray[j]) (by simp);rw[e2];rw[h1]at e1;cases e1;show(z==z)=true
   simp
 . obtain ⟨b,t,e1,e2⟩:=pf r (i:=m) (v:=its.toArray[m]) (by simp);rw[e2];show(b==z)=false
   have:=h2 m mj b e1
   simpa using this
def CI(K:W.Frag):V->List V->Hp->VK->Prop:=fun x vs H Q=>∃(a:Addr)(ns:List Str)(z:Str)(j:Nat),x=.ref a/\vs=[.str z]/\SqT K H a (ns.map V.str)/\eW z ns=some j/\Q (.int (j:Int)) H
theorem yL:MtR X "tuple.index" (CI X.K):=by
 intro pins s σ H x vs v us Q I rx rv h;obtain⟨a,ns,z,j,rfl,rfl,hq,hp,q⟩:=h;cases rx;obtain⟨u,rfl,ru⟩:=rv.one;obtain⟨its,r,⟨⟨cls,dd,data,sl⟩,ho,hc,n,hd⟩,hz⟩:=I.tuple hq;simp only at hc hd;subst hc hd;obtain⟨hj,e1,e2⟩:=ox r hp;refine call_meets F.slot_tuple_index ⟨_,ho,rfl⟩ F.entry_tuple_index (F.args_tuple_index_2 _ _) (qd a its.toArray n dd sl u (eqU (.str z)) j hj e1 e2) ⟨ho,fun y hy=>?_,?_⟩
 . exact gA ru rfl r (gt ns) y (by simpa using hy)
 . exact⟨.int (j:Int),H,I.tok _,⟨_,rfl⟩,q⟩
def CJ(K:W.Frag):V->List V->Hp->VK->Prop:=fun x vs H Q=>∃(a:Addr)(ns:List Str)(z:Str)(j:Nat),x=.ref a/\vs=[.str z]/\SqL K H a (ns.map V.str)/\eW z ns=some j/\Q (.int (j:Int)) H
theorem yM:MtR X "list.index" (CJ X.K):=by
 intro pins s σ H x vs v us Q I rx rv h;obtain⟨a,ns,z,j,rfl,rfl,hq,hp,q⟩:=h;cases rx;obtain⟨u,rfl,ru⟩:=rv.one;obtain⟨its,r,⟨⟨cls,dd,data,sl⟩,n,ho,hc,hdd,hd⟩,hz⟩:=I.list hq;simp only at hc hd;subst hc hd;obtain⟨hj,e1,e2⟩:=ox r hp;have h63:=jE;have hl:=r.length;refine call_meets F.slot_list_index ⟨_,ho,rfl⟩ F.entry_list_index (F.args_list_index_2 _ _) (SeqAt.list_indexAt a its.toArray n dd sl u (eqU (.str z)) j hj (by rw[zP0]at hj;omega) e1 e2) ⟨ho,fun y hy=>?_,?_⟩
 . exact gA ru rfl r (gt ns) y (by simpa using hy)
 . exact⟨.int (j:Int),H,I.tok _,⟨_,rfl⟩,q⟩
end
section
variable {κ:Type} [DecidableEq κ]
def hR(kvs:List (κ×V))(k:κ):Option V:=(kvs.find? fun kv=>decide (kv.1=k)).map (·.2)
def lG(kvs:List (κ×V))(k:κ)(v:V):List (κ×V):=
 if(kvs.any fun kv=>decide (kv.1=k))=true then kvs.map (fun kv=>if kv.1=k then(kv.1,v)else kv)else kvs++[(k,v)]
theorem dH{p:κ×V}{r:List (κ×V)}{k:κ}(e:p.1=k):hR (p::r) k=some p.2:=by simp [hR,List.find?_cons,e]
theorem dI{p:κ×V}{r:List (κ×V)}{k:κ}(e:¬ p.1=k):hR (p::r) k=hR r k:=by simp [hR,List.find?_cons,e]
theorem lj(k:κ):∀kvs:List (κ×V),(kvs.any fun kv=>decide (kv.1=k))=(hR kvs k).isSome
 | []=>rfl
 | p::r=>by
   rw[List.any_cons]
   by_cases e:p.1=k
   . simp only[dH e,decide_eq_true e,Bool.true_or,Option.isSome_some]
   . rw[dI e,decide_eq_false e,Bool.false_or];exact lj k r
theorem sT(k j:κ)(y:V):∀kvs:List (κ×V),hR (kvs.map fun kv=>if kv.1=k then(kv.1,y)else kv) j=(hR kvs j).map fun x=>if j=k then y else x
 | []=>rfl
 | p::r=>by
   have ih:=sT k j y r;rw[zZ0]
   by_cases h:p.1=k
   . rw [zB0 h]
     by_cases e:p.1=j
     . rw[dH (p:=(p.1,y)) e,dH e,Option.map_some,zB0 (e.symm.trans h)]
     . rw[dI (p:=(p.1,y)) e,dI e,ih]
   . rw [zA0 h]
     by_cases e:p.1=j
     . rw[dH (p:=p) e,dH e,Option.map_some,zA0 (fun z=>h (e.trans z))]
     . rw[dI (p:=p) e,dI e,ih]
theorem qH(k j:κ)(y:V):∀kvs:List (κ×V),hR kvs k=none->hR (kvs++[(k,y)]) j=if j=k then some y else hR kvs j
 | [],_=>by
   by_cases e:k=j
   . rw[zB0 e.symm];exact dH (p:=(k,y)) e
   . rw[zA0 (fun z=>e z.symm)];exact dI (p:=(k,y)) e
 | p::r,hn=>by
   rw[List.cons_append];have hk:¬ p.1=k:=fun z=>by rw[dH z]at hn;cases hn
   rw[dI hk]at hn;have ih:=qH k j y r hn
   by_cases e:p.1=j
   . rw[dH e,dH e,zA0 (fun z=>hk (e.trans z))]
   . rw[dI e,dI e,ih]
theorem zy(kvs:List (κ×V))(k j:κ)(y:V):hR (lG kvs k y) j=if j=k then some y else hR kvs j:=by
 unfold lG
 by_cases a:(kvs.any fun kv=>decide (kv.1=k))=true
 . rw [zB0 a,sT];rw[lj]at a
   by_cases e:j=k
   . obtain⟨x,hx⟩:=Option.isSome_iff_exists.mp a;rw[zB0 e,e,hx,Option.map_some,zB0 rfl]
   . rw [zA0 e];cases hR kvs j with
     | none=>rfl
     | some x=>rw[Option.map_some,zA0 e]
 . rw [zA0 a];refine qH k j y kvs ?_;rw[lj]at a;cases q:hR kvs k with
   | none=>rfl
   | some x=>rw[q]at a;exact(a rfl).elim
theorem jF(kvs:List (κ×V))(k:κ)(v:V):(lG kvs k v).length<=kvs.length+1:=by
 unfold lG
 split
 . rw[zE0];omega
 . rw[zM0,qF0,List.length_nil];omega
theorem RelO.isSome_eq{o:Option V}{u:Option Value}(r:RelO o u):o.isSome=u.isSome:=by
 cases o with
 | none=>cases u with
   | none=>rfl
   | some _=>exact(show False from r).elim
 | some _=>cases u with
   | none=>exact(show False from r).elim
   | some _=>rfl
theorem RelO.getD{o:Option V}{u:Option Value}{d:V}{d':Value}(r:RelO o u)(rd:RelV d d'):RelV (o.getD d) (u.getD d'):=by
 cases o with
 | none=>cases u with
   | none=>exact rd
   | some _=>exact(show False from r).elim
 | some _=>cases u with
   | none=>exact(show False from r).elim
   | some _=>exact r
theorem KV.val{kvs:List (κ×V)}{vs:List (κ×Value)}(r:KV kvs vs)(k:κ):RelO (hR kvs k) (valueAt vs k):=by
 unfold KV at r
 induction r with
 | nil=>exact True.intro
 | @cons p q ps qs h t ih=>
   obtain⟨h1,h2⟩:=h
   by_cases e:p.1=k
   . have e':q.1=k:=h1.symm.trans e;have b:valueAt (q::qs) k=some q.2:=by simp [valueAt,List.find?_cons,e']
     rw[dH e,b];exact h2
   . have e':¬ q.1=k:=fun z=>e (h1.trans z)
     have b:valueAt (q::qs) k=valueAt qs k:=by simp [valueAt,List.find?_cons,e']
     rw[dI e,b];exact ih
theorem KV.any{kvs:List (κ×V)}{vs:List (κ×Value)}(r:KV kvs vs)(k:κ):(kvs.any fun kv=>decide (kv.1=k))=vs.any fun kv=>decide (kv.1=k):=by
 unfold KV at r
 induction r with
 | nil=>rfl
 | cons h t ih=>rw[List.any_cons,List.any_cons,ih,h.1]
theorem KV.repl{kvs:List (κ×V)}{vs:List (κ×Value)}(r:KV kvs vs)(k:κ){y:V}{u:Value}(ry:RelV y u) :
 KV (kvs.map fun kv=>if kv.1=k then(kv.1,y)else kv) (vs.map fun kv=>if kv.1=k then(kv.1,u)else kv):=by
 unfold KV at r ⊢
 induction r with
 | nil=>exact .nil
 | @cons p q ps qs h t ih=>
   rw[zZ0,zZ0];refine .cons ?_ ih;obtain⟨h1,h2⟩:=h
   by_cases e:p.1=k
   . rw[zB0 e,zB0 (h1.symm.trans e)];exact⟨h1,ry⟩
   . rw[zA0 e,zA0 (fun z=>e (h1.trans z))];exact⟨h1,h2⟩
theorem KV.put{kvs:List (κ×V)}{vs:List (κ×Value)}(r:KV kvs vs)(k:κ){y:V}{u:Value}(ry:RelV y u):KV (lG kvs k y) (stored vs k u):=by
 unfold lG stored;rw[r.any k]
 by_cases e:(vs.any fun kv=>decide (kv.1=k))=true
 . rw[zB0 e,zB0 e];exact r.repl k ry
 . rw[zA0 e,zA0 e];exact Paired.snoc r ⟨rfl,ry⟩
theorem KV.length{kvs:List (κ×V)}{vs:List (κ×Value)}(r:KV kvs vs):kvs.length=vs.length:=Paired.length r
end
theorem BB{P:Program}{w:World}{k:Key}{u:Value}(r:RelV (kV k) u):(dC P w).is k u=true:=by
 cases k with
 | inl i=>obtain⟨t,e⟩:=(show ∃t,u=Value.int i t from r);subst e;exact ui P w i t
 | inr x=>obtain⟨t,e⟩:=(show ∃t,u=Value.str x t from r);subst e;exact uh P w x t
theorem qW{P:Program}{w:World}:∀{ks:List Key}{us:List Value},Vals (ks.map kV) us->ItemsAre (dC P w) ks us
 | [],_,r=>by rw[List.map_nil]at r;cases r;exact .nil
 | k::ks,_,r=>by
   rw[zZ0]at r;cases r with
   | cons h t=>exact .cons (BB h) (qW t)
abbrev KT(H:Hp):List (List Key×V)->List (List Key×Addr×Value)->Prop:=Paired fun p q=>p.1=q.1/\H q.2.1=some (.tup (p.1.map kV))/\RelV p.2 q.2.2
theorem KT.val{H:Hp}{kvs:List (List Key×V)}{xs:List (List Key×Addr×Value)}(r:KT H kvs xs)(k:List Key):RelO (hR kvs k) ((atKey xs k).map (·.2)):=by
 induction r with
 | nil=>exact True.intro
 | @cons p q ps qs h t ih=>
   obtain⟨h1,_,h2⟩:=h
   by_cases e:p.1=k
   . have e':q.1=k:=h1.symm.trans e;have b:atKey (q::qs) k=some q.2:=by simp [atKey,List.find?_cons,e']
     rw[dH e,b];exact h2
   . have e':¬ q.1=k:=fun z=>e (h1.trans z)
     have b:atKey (q::qs) k=atKey qs k:=by simp [atKey,List.find?_cons,e']
     rw[dI e,b];exact ih
theorem KT.repl{H:Hp}{kvs:List (List Key×V)}{xs:List (List Key×Addr×Value)}(r:KT H kvs xs)(k:List Key){y:V}{u:Value}(ry:RelV y u) :
 KT H (kvs.map fun kv=>if kv.1=k then(kv.1,y)else kv) (xs.map (putAt k u)):=by
 induction r with
 | nil=>exact .nil
 | @cons p q ps qs h t ih=>
   rw[zZ0,zZ0];refine .cons ?_ ih;obtain⟨h1,h2,h3⟩:=h;unfold putAt
   by_cases e:p.1=k
   . rw[zB0 e,zB0 (h1.symm.trans e)];exact⟨h1,h2,ry⟩
   . rw[zA0 e,zA0 (fun z=>e (h1.trans z))];exact⟨h1,h2,h3⟩
theorem KT.put{H:Hp}{kvs:List (List Key×V)}{xs:List (List Key×Addr×Value)}(r:KT H kvs xs)(k:List Key){b:Addr}{y:V}{u:Value}(hb:H b=some (.tup (k.map kV)))(ry:RelV y u) :
 KT H (lG kvs k y) (storedH xs k b u):=by
 have e:(kvs.any fun kv=>decide (kv.1=k))=(atKey xs k).isSome:=by
  rw[lj,(r.val k).isSome_eq,Option.isSome_map]
 unfold lG storedH;rw[e]
 by_cases q:(atKey xs k).isSome=true
 . rw[zB0 q,zB0 q];exact r.repl k ry
 . rw[zA0 q,zA0 q];exact Paired.snoc r ⟨rfl,hb,ry⟩
theorem KT.keeps{H H':Hp}{kvs:List (List Key×V)}{xs:List (List Key×Addr×Value)}(r:KT H kvs xs)(ht:∀b ys,H b=some (.tup ys)->H' b=some (.tup ys)):KT H' kvs xs:=
 Paired.mapP r fun _ _ z=>⟨z.1,ht _ _ z.2.1,z.2.2⟩
section
variable {P:Program} {w:World} {H:Hp} {h:Heap} {a:Addr}
theorem DQ{u:HO}(ok:HOk P w H h)(e:Rd H a u):ObjOk P w H h a u:=e.ok ok
theorem xG{kvs:List (Key×V)}(ok:HOk P w H h)(e:Rd H a (.dK kvs)):kvs.length<=sizeLine/\(a==sysModules)=false/\∃vs,KV kvs vs/\h.DictOf (dC P w) a vs:=
 show ObjOk P w H h a (.dK kvs)from DQ ok e
theorem dk_of{kvs:List (Key×V)}(ok:HOk P w H h)(e:H a=some (.dK kvs)):kvs.length<=sizeLine/\(a==sysModules)=false/\∃vs,KV kvs vs/\h.DictOf (dC P w) a vs:=xG ok (.inl e)
theorem vP{ks:List Key}(ok:HOk P w H h)(e:H a=some (.tup (ks.map kV))):(tupleKind (dC P w)).is h ks a:=by
 obtain⟨_,its,r,⟨o,h1,h2,n,h3⟩,_⟩:=(show ObjOk P w H h a (.tup (ks.map kV))from ok a _ e)
 exact⟨o,its.toArray,n,h1,h2,h3,by simpa using qW r⟩
theorem BN{kvs:List (List Key×V)}(ok:HOk P w H h)(e:Rd H a (.dT kvs)):kvs.length<=sizeLine/\(a==sysModules)=false/\
 ∃xs,KT H kvs xs/\h.DictOfH (tupleKind (dC P w)) a xs:=by
 obtain⟨z,y,xs,r,o,es,ep,h1,h2,h3,h4,h5⟩:=(show ObjOk P w H h a (.dT kvs)from DQ ok e)
 refine ⟨z,y,xs,r,o,es,ep,h1,h2,h3,h4,fun x hx=>?_,h5⟩;have all:∀{l:List (List Key×V)}{m:List (List Key×Addr×Value)},KT H l m->∀x∈m,(tupleKind (dC P w)).is h x.1 x.2.1:=by
  intro l m q
  induction q with
  | nil=>intro x hx;exact nomatch hx
  | @cons p q ps qs hq t ih=>
    intro x hx;rcases qD0 hx with e | hx
    . subst e;exact vP ok (by rw[←hq.1];exact hq.2.1)
    . exact ih x hx
 exact all r x hx
theorem dt_of{kvs:List (List Key×V)}(ok:HOk P w H h)(e:H a=some (.dT kvs)):kvs.length<=sizeLine/\(a==sysModules)=false/\
 ∃xs,KT H kvs xs/\h.DictOfH (tupleKind (dC P w)) a xs:=BN ok (.inl e)
end
def DGet(H:Hp)(a:Addr)(y:V)(r:Option V):Prop:=
 (∃kvs k,Rd H a (.dK kvs)/\y=kV k/\r=hR kvs k)∨∃kvs k b,Rd H a (.dT kvs)/\y=.ref b/\H b=some (.tup (k.map kV))/\r=hR kvs k
def DPut(H:Hp)(a:Addr)(y v:V)(H':Hp):Prop:=
 (∃kvs k,H a=some (.dK kvs)/\y=kV k/\kvs.length<sizeLine/\H'=upd H a (.dK (lG kvs k v)))∨
 ∃kvs k b,H a=some (.dT kvs)/\y=.ref b/\H b=some (.tup (k.map kV))/\kvs.length<sizeLine/\H'=upd H a (.dT (lG kvs k v))
theorem DGet.k{H:Hp}{a:Addr}{kvs:List (Key×V)}{k:Key}(e:H a=some (.dK kvs)):DGet H a (kV k) (hR kvs k):=.inl ⟨kvs,k,.inl e,rfl,rfl⟩
theorem DPut.k{H:Hp}{a:Addr}{kvs:List (Key×V)}{k:Key}{v:V}(e:H a=some (.dK kvs))(hl:kvs.length<sizeLine):DPut H a (kV k) v (upd H a (.dK (lG kvs k v))):=.inl ⟨kvs,k,e,rfl,hl,rfl⟩
section
variable {X:Cx} {pins:List (Addr×Obj)} {σ:St} {H:Hp} {s:Shared} {a:Addr} {y v:V} {u r:Value} {o:Option V} {A:Around} {E:Value->Shared->Prop}
theorem Inv.big(I:Inv X pins σ H s):sysModules<s.heap.objs.size:=by
 have h:mainGlobals<s.heap.objs.size:=(I.mod.glob.keeps I.bk).lt;exact Nat.lt_trans (by decide) h
theorem xK{h':Heap}{t':Nat}{ob:HO}(I:Inv X pins σ H s)(mu:Mut (H a))(hs:Heap.SameBut a s.heap h')(he:∃q,h'.get? a=some q)(new:ObjOk X.prog X.w (upd H a ob) h' a ob) :
 Inv X pins σ (upd H a ob) { s with heap:=h',toks:=t' }:=
 I.write (x:=a) (e:=a) mu (.inl rfl) (fun b q hb z=>(hs.2 b hb).trans z) he new
theorem BQ{P:Program}{w:World}{H':Hp}{h':Heap}{kvs:List (Key×V)}{vs:List (Key×Value)}(z:kvs.length<=sizeLine)(hd:(a==sysModules)=false)(rel:KV kvs vs)(dd:h'.DictOf (dC P w) a vs) :
 ObjOk P w H' h' a (.dK kvs):=⟨z,hd,vs,rel,dd⟩
theorem zi{H':Hp}{Q:Unit->Shared->Prop}(hu:A.units+1<cLine)(I:Inv X pins σ H s)(g:DPut H a y v H')(ry:RelV y u)(rv:RelV v r)(h:∀s',Inv X pins σ H' s'->Q () s') :
 wpAny (model X.prog X.w) A (setItem (.ref a) u r) Q E s:=by
 rcases g with⟨kvs,k,e,ey,l,eH⟩ | ⟨kvs,k,b,e,ey,eb,l,eH⟩
 . subst ey eH;obtain⟨z,hd,vs,rel,dd⟩:=dk_of I.hok e;have hz:vs.length<=sizeLine:=by rw[←rel.length];exact z
   have hl:(lG kvs k v).length<=sizeLine:=by have:=jF kvs k v;omega
   refine wpAny_setItem_pairs (hsz:=hz) (BB ry) dd fun h' dd' hs=>h _ ?_
   have he:∃q,h'.get? a=some q:=let⟨q,_,_,hq,_⟩:=dd';⟨q,hq⟩
   exact xK I (by rw[e];exact True.intro) hs he (BQ hl hd (rel.put k rv) dd')
 . subst ey eH;cases(show u=Value.ref b from ry);obtain⟨z,hd,xs,rel,dd⟩:=dt_of I.hok e;have hz:xs.length<=sizeLine:=by rw[←Paired.length rel];exact z
   have hl:(lG kvs k v).length<=sizeLine:=by have:=jF kvs k v;omega
   refine wpAny_setItem_heap (hsz:=hz) (tupleKind_room_in1 hu) (vP I.hok eb) dd fun h' dd' hs=>h _ ?_
   obtain⟨q,es,ep,hq,h2,h3,h4,_,h5⟩:=dd';refine xK I (by rw[e];exact True.intro) hs ⟨q,hq⟩ ⟨hl,hd,_,(rel.put k eb rv).keeps fun c ys ec=>?_,q,es,ep,hq,h2,h3,h4,h5⟩;rw[ay (bz ec e (fun z=>nomatch z))];exact ec
end
def sDPut(td ty tv:TE):TS:=fun D σ H=>tv σ H fun v H1=>td σ H1 fun x H2=>ty σ H2 fun y H3=>∃a H4,x=.ref a/\DPut H3 a y v H4/\D.nx σ H4
section
variable {X:Cx} {o i e value:Expr} {pos pos' tpos:Pos} {td ty tv:TE}
theorem CN(hu:X.A.units+1<cLine)(ho:PE X o td)(hi:PE X i ty)(hv:PE X value tv)(hs:swapsWith value (some (.Subscript o i pos')) pos.line X.env=pure false) :
 PS X (.Assign [.Subscript o i pos'] value pos) (sDPut td ty tv):=by
 intro pins s σ H D I h;refine wpAny_Assign_Subscript (thn (hv pins s σ H _ I h) fun r s1 ⟨v,H1,I1,rv,q1⟩=>thn (ho pins s1 σ H1 _ I1 q1) fun u s2 ⟨x,H2,I2,rx,q2⟩=>thn (hi pins s2 σ H2 _ I2 q2) fun iv s3 ⟨y,H3,I3,ry,a,H4,ex,g,q3⟩=>?_) hs;subst ex;obtain rfl:u=Value.ref a:=rx;exact zi hu I3 g ry rv fun s4 I4=>⟨σ,H4,I4,q3⟩
end
theorem BR {P:Program} {w:World} {H:Hp} (h:Heap) (hb:sysModules<h.objs.size):ObjOk P w H (h.push { cls:=.type "dict",data:=.dict #[] }) h.objs.size (.dK []):=
 ⟨zU0 _,beq_eq_false_iff_ne.mpr (Ne.symm (zV0 hb)),[],.nil,Heap.DictOf.new h⟩
def Ek:TE:=fun _ H Q=>∀p,H p=none->Q (.ref p) (upd H p (.dK []))
section
variable {X:Cx} {pos:Pos}
theorem AN:PE X (.Dict [] [] pos) Ek:=fun pins s σ H Q I h=>
 wpAny_Dict_empty ⟨.ref s.heap.objs.size,_,I.laid (a:=s.heap.objs.size) (o:=.dK []) (t':=s.toks) (fun _ _ q=>zO0 _ q) (zG0 _) (BR s.heap I.big),rfl,h _ (I.hok.fresh (zG0 _))⟩
end
structure M2(X:Cx)(o:Expr)(m:Str)(apos:Pos)(e f:Expr)(cpos:Pos):Prop where
 base:attributeBase o m X.env (eval o X.env)=eval o X.env
 few:((backTo cpos (starEach [e,f] X.env)).all (fun x=>!x.1)&&(backToKw cpos (keywordEach [] X.env)).all (fun x=>x.1.isSome)
  &&decide (([e,f]:List Expr).length+([]:List Keyword).length+(if([]:List Keyword).isEmpty then 0 else 1)<30))=true
 line:(apos.endLine==cpos.line)=true
 trees:backTo cpos (starEach [e,f] X.env)=[(false,eval e X.env),(false,eval f X.env)]
def IsD(H:Hp)(a:Addr):Prop:=(∃kvs,Rd H a (.dK kvs))∨∃kvs,Rd H a (.dT kvs)
theorem ER{X:Cx}{pins:List (Addr×Obj)}{σ:St}{H:Hp}{s:Shared}{a:Addr}(I:Inv X pins σ H s)(d:IsD H a) :
 s.TypeIs (.ref a) "dict"/\(∀b,Value.ref a=.ref b->∃ob,s.heap.get? b=some ob/\ob.dict=none)/\(a==sysModules)=false:=by
 rcases d with⟨kvs,e⟩ | ⟨kvs,e⟩
 . obtain⟨_,hd,vs,_,dd⟩:=xG I.hok e;refine⟨dd.typeIs,fun b q=>?_,hd⟩;cases q;obtain⟨ob,_,_,h1,h2,_⟩:=dd;exact⟨ob,h1,h2.2.1⟩
 . obtain⟨_,hd,xs,_,dd⟩:=BN I.hok e;refine⟨dd.typeIs,fun b q=>?_,hd⟩;cases q;obtain⟨ob,_,_,h1,h2,_⟩:=dd;exact⟨ob,h1,h2.2.1⟩
section
variable {X:Cx} {pins:List (Addr×Obj)} {σ:St} {H:Hp} {s:Shared} {a:Addr} {y d:V} {u r:Value} {o:Option V} {A:Around} {E:Value->Shared->Prop}
theorem Fj{Q:Value->Shared->Prop}(hu:A.units+1<cLine)(I:Inv X pins σ H s)(g:DGet H a y o)(ry:RelV y u)(rd:RelV d r)(h:∀w' s',Inv X pins σ H s'->RelV (o.getD d) w'->Q w' s') :
 wpAny (model X.prog X.w) A (call (.builtin "dict.get") [.ref a,u,r]) Q E s:=by
 rcases g with⟨kvs,k,e,ey,l⟩ | ⟨kvs,k,b,e,ey,eb,l⟩
 . subst ey;obtain⟨z,hd,vs,rel,dd⟩:=xG I.hok e;refine call_meetsIn PySem.F.slot_dict_get dd.typeIs PySem.F.entry_dict_get (PySem.F.args_dict_get_3 _ _ _) (meets_dict_get_default (dC X.prog X.w) a (BB ry) hd r) ⟨_,dd.mapOf,h _ _ (I.tok _) ?_⟩;rw[l];exact(rel.val k).getD rd
 . subst ey;cases(show u=Value.ref b from ry);obtain⟨z,hd,xs,rel,dd⟩:=BN I.hok e;refine call_meetsIn PySem.F.slot_dict_get dd.typeIs PySem.F.entry_dict_get (PySem.F.args_dict_get_3 _ _ _) (meetsH_dict_get_default (tupleKind (dC X.prog X.w)) a b hd r) ⟨tupleKind_room_in1 hu,k,xs,vP I.hok eb,dd,h _ _ (I.tok _) ?_⟩;rw[l];exact(rel.val k).getD rd
end
def El(td ty tx:TE):TE:=fun σ H Q=>td σ H fun x H1=>∃a,x=.ref a/\IsD H1 a/\ty σ H1 fun y H2=>tx σ H2 fun z H3=>∃o,DGet H3 a y o/\Q (o.getD z) H3
section
variable {X:Cx} {o e f:Expr} {apos cpos:Pos} {td ty tx:TE}
theorem AO (hu:X.A.units+1<cLine) (ho:PE X o td) (he:PE X e ty) (hf:PE X f tx) (m:M2 X o "get" apos e f cpos):PE X (.Call (.Attribute o "get" apos) [e,f] [] cpos) (El td ty tx):=by
 intro pins s σ H Q I h;refine wpAny_Call_method m.base m.few m.line PySem.F.plainAttrs_dict PySem.F.slot_dict_get PySem.F.type_dict_get (thn (ho pins s σ H _ I h) fun u s1 ⟨x,H1,I1,rx,a,ex,d,q1⟩=>?_);subst ex;obtain rfl:u=Value.ref a:=rx;obtain⟨t1,t2,_⟩:=ER I1 d;refine⟨t1,t2,?_⟩;rw[m.trees];refine Calls.callWith_builtin rfl (Calls.evalArgs_plain (Calls.spliced_cons (thn (he pins s1 σ H1 _ I1 q1) fun iv s2 ⟨y,H2,I2,ry,q2⟩=>
  Calls.spliced_cons (thn (hf pins s2 σ H2 _ I2 q2) fun fv s3 ⟨z,H3,I3,rz,ov,g,q3⟩=>Calls.spliced_nil ?_))))
 exact Fj hu I3 g ry rz fun w' s4 I4 rw'=>⟨_,H3,I4,rw',q3⟩
end
section
variable {X:Cx} {pins:List (Addr×Obj)} {σ:St} {H:Hp} {s:Shared} {a:Addr} {kvs:List (Key×V)} {A:Around} {E:Value->Shared->Prop}
theorem BU {Q:Value->Shared->Prop} (I:Inv X pins σ H s) (e:Rd H a (.dK kvs)) (h:∀p s',H p=none->Inv X pins σ (upd H p (.dK kvs)) s'->Q (.ref p) s'):wpAny (model X.prog X.w) A (call (.type "dict") [.ref a]) Q E s:=by
 obtain⟨z,hd,vs,rel,dd⟩:=xG I.hok e;refine kt_call_dict hd dd (by rw[←rel.length];exact z) fun h' dd' hs=>?_
 refine h _ _ (I.hok.fresh (zG0 _)) (I.laid (a:=s.heap.objs.size) (o:=.dK kvs) (t':=s.toks) (fun b q hq=>?_) (zG0 _) (BQ z (beq_eq_false_iff_ne.mpr (Ne.symm (zV0 I.big))) rel dd'));exact(hs.2 b (zV0 (zN0 hq))).trans (zO0 _ hq)
end
section
variable {X:Cx}
theorem Inv.tupD{pins:List (Addr×Obj)}{σ:St}{H:Hp}{s:Shared}{a:Addr}{xs:List V}(I:Inv X pins σ H s)(h:H a=some (.tup xs)):∃ob,s.heap.get? a=some ob/\ob.dict=none:=by
 obtain⟨_,_,_,_,o,e,d⟩:=(show ObjOk X.prog X.w H s.heap a (.tup xs)from I.hok a _ h)
 exact⟨o,e,d⟩
def Ej(K:W.Frag)(to:TE)(t:TA):TE:=fun σ H Q=>to σ H fun x H1=>∃(a:Addr)(ns:List Str),x=.ref a/\(H1 a=some (.lst (ns.map V.str))∨H1 a=some (.tup (ns.map V.str)))/\t σ H1 fun vs H2=>(H2 a=H1 a)/\∃(z:Str)(j:Nat),vs=[.str z]/\eW z ns=some j/\Q (.int (j:Int)) H2
variable {o e:Expr} {es:List Expr} {to:TE} {t:TA} {apos cpos:Pos}
theorem tR (pl:PlainAttrs "list") (pt:PlainAttrs "tuple") (ho:PE X o to) (ha:PA X (e::es) t)
 (hbase:attributeBase o "index" X.env (eval o X.env)=eval o X.env:=by rfl)
 (hfew:((backTo cpos (starEach (e::es) X.env)).all (fun x=>!x.1)&&(backToKw cpos (keywordEach [] X.env)).all (fun x=>x.1.isSome)
  &&decide ((e::es).length+([]:List Keyword).length+(if([]:List Keyword).isEmpty then 0 else 1)<30))=true:=by rfl)
 (hline:(apos.endLine==cpos.line)=true:=by rfl) (hs:starEach (e::es) X.env=(false,eval e X.env)::starEach es X.env:=by rfl) (hplain:(backTo cpos (starEach es X.env)).any (·.1)=false:=by rfl) :
 PE X (.Call (.Attribute o "index" apos) (e::es) [] cpos) (Ej X.K to t):=by
 intro pins s σ H Q I h;refine wpAny_Call_method_late hbase hfew hline rfl (thn (ho pins s σ H _ I h) fun v s1 ⟨x,H1,I1,r1,a,ns,ex,hh,q1⟩=>?_);subst ex;cases r1;have hA:=ha cpos pins s1 σ H1 _ I1 q1;rw[hs]at hA ⊢;rcases hh with hh | hh
 . obtain ⟨its,_,p,_⟩:=I1.list (zH0 hh);obtain⟨ob,n,e1,c,d,_⟩:=id p;refine⟨"list","list.index",pl,F.slot_list_index,F.type_list_index,p.isList.typeIs,fun b eb=>?_,?_⟩
   . cases eb;exact⟨ob,e1,d⟩
   . refine Calls.callWith_builtin (by show(false||(backTo cpos (starEach es X.env)).any (·.1))=false;rw[hplain] <;> rfl) (Calls.evalArgs_plain ?_);exact thn hA fun us s2 ⟨vs,H2,I2,r2,ek,z,j,ez,hp,q2⟩=>yM pins s2 σ H2 (.ref a) vs (.ref a) us Q I2 rfl r2 ⟨a,ns,z,j,rfl,ez,zH0 (ek.trans hh),hp,q2⟩
 . obtain ⟨its,_,p,_⟩:=I1.tuple (zC0 hh);refine⟨"tuple","tuple.index",pt,F.slot_tuple_index,F.type_tuple_index,p.typeIs,fun b eb=>?_,?_⟩
   . cases eb;exact I1.tupD hh
   . refine Calls.callWith_builtin (by show(false||(backTo cpos (starEach es X.env)).any (·.1))=false;rw[hplain] <;> rfl) (Calls.evalArgs_plain ?_);exact thn hA fun us s2 ⟨vs,H2,I2,r2,ek,z,j,ez,hp,q2⟩=>yL pins s2 σ H2 (.ref a) vs (.ref a) us Q I2 rfl r2 ⟨a,ns,z,j,rfl,ez,zC0 (ek.trans hh),hp,q2⟩
end
theorem CompScope.three{X:Cx}{x y z u:Str}{scope:Scope}{k l m:Nat}{c d e:Addr}{cl:List (Str×Addr)}(c1:closureFor scope X.env=pure cl)(c2:∀y∈scope.names,y.2≠.cell)(c3:scope.kind=.function)(c4:∀y∈scope.names,y.2=.local->scope.names.lookup y.1=some .local)
 (c5:scope.names.lookup x=some .local) (nd:[x,y,z,u].Nodup) (hcl:cl=[(y,c),(z,d),(u,e)]) (hc:X.env.cells.lookup y=some c) (hd:X.env.cells.lookup z=some d) (he:X.env.cells.lookup u=some e) (c6:((relabel scope X.env).names.all fun p=>!(p.2==.cell||p.2==.free)||(cl.lookup p.1).isSome)=true)
 (hr:(relabel scope X.env).names.lookup y=some .cell) (hk:X.N[k]?=some y) (hs:X.env.scope.names.lookup y=some .cell)
 (hr2:(relabel scope X.env).names.lookup z=some .cell) (hk2:X.N[l]?=some z) (hs2:X.env.scope.names.lookup z=some .cell)
 (hr3:(relabel scope X.env).names.lookup u=some .cell) (hk3:X.N[m]?=some u) (hs3:X.env.scope.names.lookup u=some .cell):CompScope X x [y,z,u] [k,l,m] scope cl where
 clos:=c1
 nocell:=c2
 kind:=c3
 names:=c4
 own:=c5
 nd:=nd
 sub:=fun p hp=>by
  subst hcl;rcases qD0 hp with h | h
  . rw[h];assumption
  . rcases qD0 h with h | h
    . rw[h];assumption
    . rw[zT0 h];assumption
 has:=c6
 outs:=fun j w h=>by
  have nyz:y≠z:=fun e=>by simp [e]at nd
  have nyu:y≠u:=fun e=>by simp [e]at nd
  have nzu:z≠u:=fun e=>by simp [e]at nd
  subst hcl
  match j,h with
  | 0,h=>
    have e:y=w:=zQ0 h;subst e;exact⟨hr,k,c,rfl,hk,by simp [List.lookup],hs⟩
  | 1,h=>
    have e:z=w:=zQ0 h;subst e
    have:(z==y)=false:=by simpa using Ne.symm nyz
    exact⟨hr2,l,d,rfl,hk2,by simp [List.lookup,this],hs2⟩
  | 2,h=>
    have ew:u=w:=zQ0 h;subst ew;have h1:(u==y)=false:=by simpa using Ne.symm nyu
    have h2:(u==z)=false:=by simpa using Ne.symm nzu
    exact⟨hr3,m,e,rfl,hk3,by simp [List.lookup,h1,h2],hs3⟩
  | j+3,h=>simp at h
section
variable {X:Cx}
theorem rb{x:V}:∀{xs:List V}{us:List Value},Vals xs us->xs.all jo=true->us.countP (eqU x)=xs.countP fun y=>eqV y x
 | _,_,.nil,_=>rfl
 | y::xs,u::us,.cons r t,f=>by
   rw[List.all_cons,Bool.and_eq_true]at f;rw[List.countP_cons,List.countP_cons,vW r f.1,rb t f.2]
def wX(K:W.Frag):V->List V->Hp->VK->Prop:=fun x vs H Q=>∃(a:Addr)(xs:List V)(z:V),x=.ref a/\vs=[z]/\SqL K H a xs/\xs.all jo=true/\jo z=true/\Q (.int ((xs.countP fun y=>eqV y z:Nat):Int)) H
theorem uf:MtR X "list.count" (wX X.K):=by
 intro pins s σ H x vs v us Q I rx rv h;obtain⟨a,xs,z,rfl,rfl,hq,fs,fz,q⟩:=h;cases rx;obtain⟨u,rfl,ru⟩:=rv.one;obtain⟨its,r,⟨⟨cls,dd,data,sl⟩,n,ho,hc,hdd,hd⟩,hz⟩:=I.list hq;simp only at hc hd;subst hc hd;refine call_meets F.slot_list_count ⟨_,ho,rfl⟩ F.entry_list_count (F.args_list_count_2 _ _) (SeqAt.list_countAt a its.toArray n dd sl u (eqU z)) ⟨ho,fun y hy=>?_,?_⟩
 . exact gA ru fz r fs y (by simpa using hy)
 . rw[show its.toArray.toList=its from rfl,rb r fs];exact⟨.int ((xs.countP fun y=>eqV y z:Nat):Int),H,I.tok _,⟨_,rfl⟩,q⟩
end
def dY(g:Nat->Int):Nat->Int
 | 0=>g 0
 | k+1=>if dY g k<g (k+1)then g (k+1)else dY g k
theorem uD(g:Nat->Int):∀n k,k<=n->g k<=dY g n
 | 0,k,h=>by
   have e:k=0:=by omega
   subst e;exact Int.le_refl _
 | n+1,k,h=>by
   unfold dY
   by_cases c:k=n+1
   . subst c
     split <;> omega
   . have:=uD g n k (by omega)
     split <;> omega
def yP(ns:List Int)(d:Int):Int:=match ns with | []=>d | _::_=>dY (fun i=>ns[i]?.getD 0) (ns.length-1)
theorem Do{ns:List Int}{d x:Int}(h:x∈ns):x<=yP ns d:=by
 obtain⟨i,hi,e⟩:=List.getElem_of_mem h;cases ns with
 | nil=>cases h
 | cons a r=>
   have:=uD (fun i=>(a::r)[i]?.getD 0) ((a::r).length-1) i (by omega)
   simp only[zK0 hi,Option.getD_some,e]at this;exact this
section
variable {prog:Program} {w:World} {A:Around} {R:Result->Shared->Prop} {I S:Addr} {fp wr:List Addr} {n:Nat} {P:Nat->Value->Prop} {St:Nat->Heap->Prop} {g:Nat->Int} {kw:List (Str×Value)}
theorem oR:(toString "max"++toString ".loop":String)="max.loop":=by decide
theorem Bt(W:Walks prog w A.in1 I fp wr n P St)(gv:∀i v,P i v->∃t,v=Value.int (g i) t)(nS:S∉fp):∀(k j:Nat)(s:Shared)(t:Tok)(c:Nat),j+1+k=n->St (j+1) s.heap ->
 s.heap.get? S=some { cls:=.type "list",dict:=none,data:=.seq #[.int (dY g j) t,.int (dY g j) t] c,slots:=#[] } ->
 (∀t' h' tk,(∀b o,b∉wr->b≠S->s.heap.get? b=some o->h'.get? b=some o)->R (.ok (.ret (.int (dY g (n-1)) t'))) { s with heap:=h',toks:=tk }) ->
 codeAny (model prog w) A (.builtin "max.loop" ⟨[.ref I,.none,.ref S],kw⟩) R s:=by
 have nw:S∉wr:=fun z=>nS (W.sub _ z)
 intro k
 induction k with
 | zero=>
   intro j s t c ek st eS q;refine codeAny_builtin F.entry_max_loop ?_;rw[Around.under_plainId F.plain_max_loop _];show wpAny _ A.in1 (seqItems? (.ref S) >>= _) _ _ s;refine zF0 (wpAny_seqItems eS rfl ?_);show wpAny _ A.in1 (tryCatch (pyNext (.ref I)) _ >>= _) _ _ s;refine zF0 (wpAny_tryCatch (W.done s _ _ (by rw[←ek];exact st) fun h' tk kp=>?_));show wpAny _ A.in1 (updateSeq S (fun _=>#[]) >>= _) _ _ _;refine zF0 ?_;refine wpAny_updateSeq (kp S _ nw eS) rfl (zF0 (wpAny_letGo (zI0 ?_)));have e:n-1=j:=by omega
   rw[e]at q;exact q t _ tk fun b o h1 h2 eb=>(Heap.get?_update_other _ _ (Ne.symm h2)).trans (kp b o h1 eb)
 | succ k ih=>
   intro j s t c ek st eS q;refine codeAny_builtin F.entry_max_loop ?_;rw[Around.under_plainId F.plain_max_loop _];show wpAny _ A.in1 (seqItems? (.ref S) >>= _) _ _ s;refine zF0 (wpAny_seqItems eS rfl ?_);show wpAny _ A.in1 (tryCatch (pyNext (.ref I)) _ >>= _) _ _ s;refine zF0 (wpAny_tryCatch (W.item (j+1) s _ _ (by omega) st fun v h' tk pv st' kp=>?_));obtain⟨tv,rfl⟩:=gv _ _ pv;have eS':=kp S _ nw eS;show wpAny _ A.in1 (tryCatch (holding [Value.int (g (j+1)) tv,Value.int (g (j+1)) tv] (richCompare .Gt (Value.int (g (j+1)) tv) (Value.int (dY g j) t) >>= _)) _ >>= _) _ _ _;refine zF0 (wpAny_tryCatch (wpAny_holding (zF0 (CmpOf.ints_gt (prog:=prog) (w:=w) (A:=A.in1) (P:=fun i v=>∃t,v=Value.int (if i=0 then dY g j else g (j+1)) t) (fun i=>if i=0 then dY g j else g (j+1)) (fun i v h=>h) 1 0 _ _ _ _ _ ⟨tv,rfl⟩ ⟨t,rfl⟩ ?_))));refine zF0 (wpAny_holding (wpAny_truthy_bool ?_));refine zF0 (wpAny_letGo (zI0 ?_))
   by_cases c1:dY g j<g (j+1)
   . have e1:dY g (j+1)=g (j+1):=by unfold dY;rw[zB0 c1]
     refine wpAny_ite_split (fun _=>?_) (fun hab=>absurd (decide_eq_true c1) hab);refine zF0 ?_;refine wpAny_updateSeq eS' rfl (zF0 (wpAny_letGo ?_));rw[oR];refine zI0 ⟨plainId_quiet F.plain_max_loop _,ih (j+1) _ tv _ (by omega) (W.frame _ _ _ st' fun b hb o eb=>?_) (by rw[e1];exact Heap.get?_update_self _ eS' rfl) fun t' h2 tk2 kp2=>?_⟩
     . exact(Heap.get?_update_other _ _ (fun z:S=b=>nS (by rw[z];exact hb))).trans eb
     . exact q t' h2 tk2 fun b o h1 h3 eb=>kp2 b o h1 h3 ((Heap.get?_update_other _ _ (Ne.symm h3)).trans (kp b o h1 eb))
   . have e1:dY g (j+1)=dY g j:=by unfold dY;rw[zA0 c1];cases j <;> rfl
     refine wpAny_ite_split (fun hab=>absurd (of_decide_eq_true hab) c1) (fun _=>?_);refine zF0 (wpAny_letGo ?_);rw[oR];refine zI0 ⟨plainId_quiet F.plain_max_loop _,ih (j+1) _ t c (by omega) st' (by rw[e1];exact eS') fun t' h2 tk2 kp2=>?_⟩;exact q t' h2 tk2 fun b o h1 h3 eb=>kp2 b o h1 h3 (kp b o h1 eb)
theorem Bu (W:Walks prog w A.in1 I fp wr n P St) (gv:∀i v,P i v->∃t,v=Value.int (g i) t) (nS:S∉fp) (hn:0<n) {s:Shared} {c:Nat} (st:St 0 s.heap) (eS:s.heap.get? S=some { cls:=.type "list",dict:=none,data:=.seq #[] c,slots:=#[] })
 (q:∀t' h' tk,(∀b o,b∉wr->b≠S->s.heap.get? b=some o->h'.get? b=some o)->R (.ok (.ret (.int (dY g (n-1)) t'))) { s with heap:=h',toks:=tk }) :
 codeAny (model prog w) A (.builtin "max.loop" ⟨[.ref I,.none,.ref S],kw⟩) R s:=by
 have nw:S∉wr:=fun z=>nS (W.sub _ z)
 refine codeAny_builtin F.entry_max_loop ?_;rw[Around.under_plainId F.plain_max_loop _];show wpAny _ A.in1 (seqItems? (.ref S) >>= _) _ _ s;refine zF0 (wpAny_seqItems eS rfl ?_);show wpAny _ A.in1 (tryCatch (pyNext (.ref I)) _ >>= _) _ _ s;refine zF0 (wpAny_tryCatch (W.item 0 s _ _ hn st fun v h' tk pv st' kp=>?_));obtain⟨tv,rfl⟩:=gv _ _ pv;have eS':=kp S _ nw eS;show wpAny _ A.in1 (updateSeq S (fun _=>#[Value.int (g 0) tv,Value.int (g 0) tv]) >>= _) _ _ _;refine zF0 ?_;refine wpAny_updateSeq eS' rfl ?_;rw[oR];refine zI0 ⟨plainId_quiet F.plain_max_loop _,Bt W gv nS (n-1) 0 _ tv _ (by omega) (W.frame _ _ _ st' fun b hb o eb=>?_) (Heap.get?_update_self _ eS' rfl) fun t' h2 tk2 kp2=>?_⟩
 . exact(Heap.get?_update_other _ _ (fun z:S=b=>nS (by rw[z];exact hb))).trans eb
 . exact q t' h2 tk2 fun b o h1 h3 eb=>kp2 b o h1 h3 ((Heap.get?_update_other _ _ (Ne.symm h3)).trans (kp b o h1 eb))
end
section
variable {X:Cx} {e k:Expr} {te tk:TE} {pos p1 kp:Pos}
def DR(K:W.Frag):List V->Hp->VK->Prop:=fun xs H Q=>∃a ns,xs=[.ref a]/\SqL K H a (ns.map V.int)/\ns≠[]/\Q (.int (yP ns 0)) H
theorem nQ (hc:X.calm=true):iz X (.builtin "max") (DR X.K):=by
 intro pins s2 σ H2 xs us Q I2 r h;obtain⟨a,ns,rfl,hq,hn,q⟩:=h;obtain⟨u,rfl,ru⟩:=nV r;cases ru;obtain⟨its,r',p,hz⟩:=I2.list hq;have hl:=r'.length;rw[zE0]at hl;have hlt:a<s2.heap.objs.size:=by obtain⟨o,n,e,_⟩:=p;exact zN0 e
 refine call_function_tree F.kind_max F.plain_max F.entry_max (F.args_max1 _) ?_;show wpAny _ X.A.in1 (Builtin.Builtins.bindParams "max" ["key","default"] 0 ⟨[],[]⟩ >>= fun _=>_) _ _ s2;refine zF0 (wpAny_of_eq (a:=[none,none]) rfl ?_);refine zF0 (zI0 ?_);refine zF0 (wpAny_pyIter_list p.isList ?_);refine zF0 (wpAny_newObj_type ?_);rw[oR];have hne:a≠s2.heap.objs.size:=zV0 hlt;have W:=Walks.list (prog:=X.prog) (w:=X.w) (A:=X.A.in1) (I2.ok.hd hc) s2.heap.objs.size a hne its.toArray;have I3:Inv X pins σ H2 { s2 with heap:=s2.heap.push { cls:=.type "list_iterator",data:=.fields #[.ref a,.int 0 0] } }:=I2.kept (t':=s2.toks) fun b o eb=>zO0 _ eb
 have I4:Inv X pins σ H2 { s2 with heap:=(s2.heap.push { cls:=.type "list_iterator",data:=.fields #[.ref a,.int 0 0] }).push { cls:=.type "list",data:=.seq #[] } }:=I3.kept (t':=s2.toks) fun b o eb=>zO0 _ eb
 have hz1:∀o:Obj,(s2.heap.push o).objs.size=s2.heap.objs.size+1:=fun o=>by simp [Heap.push]
 have nS:(s2.heap.push { cls:=.type "list_iterator",data:=.fields #[.ref a,.int 0 0] }).objs.size∉[s2.heap.objs.size,a]:=by
  intro hm;rcases qD0 hm with z | z
  . rw[hz1]at z;exact absurd z (Nat.succ_ne_self _)
  . have z:=zT0 z;rw[hz1]at z;exact absurd z (Nat.ne_of_gt (Nat.lt_succ_of_lt hlt))
 have gv:∀i v,its.toArray[i]?=some v->∃t,v=Value.int (ns[i]?.getD 0) t:=fun i v hv=>by
  obtain⟨b,t,hb,rfl⟩:=qg r' (i:=i) (v:=v) (by first | exact hv | simpa using hv | (rw[List.getElem?_toArray]at hv;exact hv));exact⟨t,by rw[hb];rfl⟩
 have n0:0<ns.length:=List.length_pos_iff.mpr hn;refine zI0 ⟨plainId_quiet F.plain_max_loop _,Bu (g:=fun i=>ns[i]?.getD 0) W gv nS (by rw[zP0,←hl];exact n0) ⟨⟨_,zO0 _ (zW0 _ rfl),rfl,rfl⟩,(p.isList.push _).push _⟩ (zW0 _ rfl) fun t' h' tk kp=>?_⟩;rw[zP0,←hl];have em:dY (fun i=>ns[i]?.getD 0) (ns.length-1)=yP ns 0:=by
  cases ns with
  | nil=>exact absurd rfl hn
  | cons _ _=>rfl
 rw[em];refine⟨.int _,H2,?_,⟨_,rfl⟩,q⟩;have J:=Inv.turnedL (h':=h') (t':=tk) (ch:=[s2.heap.objs.size,s2.heap.objs.size+1]) I4 (fun b o hb eb=>kp b o (fun z=>hb (by rw[zT0 z];exact qP0)) (fun z=>hb (by rw[z,hz1];exact qR0 _ qP0)) eb);refine J fun b hb=>?_
 rcases qD0 hb with h | h
 . rw[h];exact I2.fpOk (zG0 _) (I2.hok.fresh (zG0 _))
 . rw[zT0 h];exact I2.fpOk (qI0 _) (I2.hok.fresh (qI0 _))
end
section
variable {prog:Program} {w:World} {A:Around} {E:Value->Shared->Prop} {s:Shared}
theorem Cp{it t:Addr}{i:Nat}{items:Array Value}{x:Value}{Q:Value->Shared->Prop}(hit:s.heap.IsTupleIter it t i)(ht:s.heap.IsTuple t items)(hx:items[i]?=some x)
 (q:∀h',h'.IsTupleIter it t (i+1)->Heap.SameBut it s.heap h'->Q x { s with heap:=h' }):wpAny (model prog w) A (Builtin.SmallTypes.nextOf (.ref it)) Q E s:=by
 obtain⟨o,ho,hc,hd⟩:=id hit;obtain⟨ol,hol,_,nl,hdl⟩:=ht;unfold Builtin.SmallTypes.nextOf;refine zF0 (wpAny_callSpecial?_slot (name:=Str.ofString "__next__") hit.typeIs F.slot_tuple_iterator_next (wpAny_call_entry F.slot_tuple_iterator_next hit.typeIs F.entry_tuple_iterator_next ?_ (F.args_tuple_iterator_next_1 _)));show wpAny _ _ (field (.ref it) 0 >>= _) _ _ s;refine zF0 (wpAny_field ho hd (x:=.ref t) rfl ?_);show wpAny _ _ (if(Value.ref t==Value.none)=true then _ else _) _ _ s;rw[zA0 (show ¬ ((Value.ref t==Value.none)=true)from qB0)];show wpAny _ _ (field (.ref it) 1 >>= _) _ _ s;refine zF0 (wpAny_field ho hd (x:=.int i 0) rfl ?_);show wpAny _ _ (seqItems? (.ref t) >>= _) _ _ s;refine zF0 (wpAny_seqItems hol hdl ?_);simp only[qT0,hx];refine zF0 (wpAny_setField ho hd (by simp) (zI0 ⟨x,rfl,zI0 (q _ ?_ (Heap.SameBut.update ..))⟩));exact⟨_,Heap.get?_update_self _ ho (Obj.isFreed_of_fields (Obj.data_mapFields hd _)),(Obj.cls_mapFields ..).trans hc,by rw[Obj.data_mapFields hd];simp [rawInt]⟩
theorem zE{it t:Addr}{i:Nat}{items:Array Value}{Q:Value->Shared->Prop}(hh:A.handled=none)(hit:s.heap.IsTupleIter it t i)(ht:s.heap.IsTuple t items)(hx:items[i]?=none)
 (q:∀h' e,Heap.ExtBut it s.heap h'->(∃o,h'.get? e=some o/\o.cls=.type "StopIteration")->E (.ref e) { s with heap:=h' }):wpAny (model prog w) A (Builtin.SmallTypes.nextOf (.ref it)) Q E s:=by
 obtain⟨o,ho,hc,hd⟩:=id hit;obtain⟨ol,hol,_,nl,hdl⟩:=ht;unfold Builtin.SmallTypes.nextOf;refine zF0 (wpAny_callSpecial?_slot (name:=Str.ofString "__next__") hit.typeIs F.slot_tuple_iterator_next (wpAny_call_entry F.slot_tuple_iterator_next hit.typeIs F.entry_tuple_iterator_next ?_ (F.args_tuple_iterator_next_1 _)));show wpAny _ _ (field (.ref it) 0 >>= _) _ _ s;refine zF0 (wpAny_field ho hd (x:=.ref t) rfl ?_);show wpAny _ _ (if(Value.ref t==Value.none)=true then _ else _) _ _ s;rw[zA0 (show ¬ ((Value.ref t==Value.none)=true)from qB0)];show wpAny _ _ (field (.ref it) 1 >>= _) _ _ s;refine zF0 (wpAny_field ho hd (x:=.int i 0) rfl ?_);show wpAny _ _ (seqItems? (.ref t) >>= _) _ _ s;refine zF0 (wpAny_seqItems hol hdl ?_);simp only[qT0,hx]
 first
  | refine zF0 (wpAny_rule (zF0 (wpAny_setField ho hd (by simp) (zF0 (wpAny_letGo ?_)))))
  | refine zF0 (wpAny_rule (zF0 (wpAny_setField ho hd (by simp) ?_)))
 show wpAny _ _ (newExc (.type "StopIteration") [] >>= _) _ _ _;refine zF0 ?_;simp only[newExc,newTuple];refine zF0 (wpAny_newObj_type ?_ (by size_fits));refine zF0 (m:=firstArgMember _ _) (wpAny_of_eq (a:=Value.none) (by first | rfl | (simp only[firstArgMember];rfl)) ?_);refine wpAny_newObj_type ?_ (by size_fits);simp only[raiseNew];refine zF0 (wpAny_handled ?_)
 first | rw[show A.in1.handled=none from hh] | rw[hh]
 refine zF0 (zI0 (wpAny_throw ?_));exact q _ _ (((Heap.SameBut.update ..).extBut.push _).push _) ⟨_,zW0 _ rfl,rfl⟩
theorem zf{e it t:Addr}{j:Nat}{i:Int}{old:Value}{items:Array Value}{Q:Option Value->Shared->Prop}(hh:A.handled=none)(he:IsEnum s.heap e it i old)(hit:s.heap.IsTupleIter it t j)(ht:s.heap.IsTuple t items)(hx:items[j]?=none)
 (q:∀h',Heap.ExtBut it s.heap h'->Q none { s with heap:=h' }):wpAny (model prog w) A (pyNext (.ref e)) Q E s:=by
 have hT:s.TypeIs (.ref e) "enumerate":=⟨_,he,rfl⟩
 unfold pyNext;refine zF0 (wpAny_attempt (wpAny_callSpecial?_slot (name:=Str.ofString "__next__") hT F.slot_enumerate_next (wpAny_call_entry F.slot_enumerate_next hT F.entry_enumerate_next ?_ (F.args_enumerate_next_1 _))));show wpAny _ _ (field (.ref e) 2 >>= _) _ _ _;refine zF0 (wpAny_field he rfl (x:=.ref it) rfl ?_);refine zF0 (zE hh hit ht hx fun h' x he' hx'=>?_);obtain⟨o,ho,hc⟩:=hx';refine zF0 (wpAny_isInstance (T:="StopIteration") (b:=true) ⟨o,ho,hc⟩ isSubtype_stop ?_);exact zI0 (q h' he')
end
theorem zh{prog:Program}{w:World}{A:Around}(hh:A.handled=none)(it l:Addr)(hne:l≠it)(items:Array Value):Draws prog w A it [it,l] items.size (fun i v=>items[i]?=some v) (fun i h=>h.IsTupleIter it l i/\h.IsTuple l items) where
 live:=fun _ _ st=>let⟨o,ho,_⟩:=st.1;⟨o,ho⟩
 frame:=fun _ _ _ st k=>⟨st.1.at fun o e=>k it (by simp) o e,st.2.at fun o e=>k l (by simp) o e⟩
 item:=fun i s Q E hi st q=>by
  refine Cp st.1 st.2 (x:=items[i]) (by simp [hi]) fun h' a b=>?_
  exact q _ h' s.toks (by simp [hi]) ⟨a,st.2.extBut b.extBut hne⟩ b
 done:=fun s Q E st q=>zE hh st.1 st.2 (by simp) q
open AutoSeq1 (wpAny_loadPart') in
set_option maxHeartbeats 1000000 in
theorem uj(l:Addr)(items:Array Value)(n:Nat)(dct:Option Addr)(sl:Array (Option Value)) :
 Meets (Builtin.«enumerate.__new__» ⟨[.type "enumerate",.ref l],[]⟩) (fun _ R s=>s.heap.get? l=some { cls:=.type "tuple",dict:=dct,data:=.seq items n,slots:=sl }/\
  R (.ok (.ret (.ref (s.heap.push { cls:=.type "tuple_iterator",data:=.fields #[.ref l,.int 0 0] }).objs.size)))
   { s with heap:=(s.heap.push { cls:=.type "tuple_iterator",data:=.fields #[.ref l,.int 0 0] }).push { cls:=.type "enumerate",data:=.fields #[.none,.bool false,.ref s.heap.objs.size,rawInt 0,.none,.none] } }):=
 .of_wp fun prog w A R s h=>by
  obtain⟨hp,g,d,tk,os⟩:=s;obtain⟨hl,h⟩:=h;have hsub:=sub_enumerate;have hL:Heap.IsTuple (Shared.heap ⟨hp,g,d,tk,os⟩) l items:=⟨_,hl,rfl,n,rfl⟩
  wp_walk using wpAny_loadPart' hl
  refine wpAny_stack_any fun st=>zI0 ?_
  split
  . rename_i c _ _ _ _ _;cases(c==Value.type "enumerate")
    . wp_walk using wpAny_loadPart' hl,wpAny_pyIter_tuple hL
      exact⟨_,rfl,h⟩
    . wp_walk using wpAny_loadPart' hl,wpAny_pyIter_tuple hL
      exact⟨_,rfl,h⟩
  . wp_walk using wpAny_loadPart' hl,wpAny_pyIter_tuple hL
    exact⟨_,rfl,h⟩
section
variable {prog:Program} {w:World} {A:Around} {E:Value->Shared->Prop} {s:Shared}
theorem we{l:Addr}{items:Array Value}{Q:Value->Shared->Prop}(hL:s.heap.IsTuple l items)
 (q:∀h',IsEnum h' (s.heap.objs.size+1) s.heap.objs.size 0 .none->h'.IsTupleIter s.heap.objs.size l 0->(∀b o,s.heap.get? b=some o->h'.get? b=some o)->Q (.ref (s.heap.objs.size+1)) { s with heap:=h' }) :
 wpAny (model prog w) A (call (.type "enumerate") [.ref l]) Q E s:=by
 obtain⟨⟨c,dct,dt,sl⟩,hl,hc,n,hd⟩:=hL
 replace hc:c=.type "tuple":=hc
 replace hd:dt=.seq items n:=hd
 subst hc hd;refine callType_new F.called_enumerate (by decide) (F.typeCall_enumerate_1 _) (F.newCall_enumerate_1 _) (fun obj=>F.args_object_init_2 obj _) F.entry_enumerate_new (uj l items n dct sl) ⟨hl,?_⟩;have hz:(s.heap.push { cls:=.type "tuple_iterator",data:=.fields #[.ref l,.int 0 0] }).objs.size=s.heap.objs.size+1:=Heap.size_push ..;show _/\_;rw[hz];have he:IsEnum ((s.heap.push { cls:=.type "tuple_iterator",data:=.fields #[.ref l,.int 0 0] }).push { cls:=.type "enumerate",data:=.fields #[.none,.bool false,.ref s.heap.objs.size,rawInt 0,.none,.none] }) (s.heap.objs.size+1) s.heap.objs.size 0 .none:=by
  have:=zW0 (s.heap.push { cls:=.type "tuple_iterator",data:=.fields #[.ref l,.int 0 0] }) (o:={ cls:=.type "enumerate",data:=.fields #[.none,.bool false,.ref s.heap.objs.size,rawInt 0,.none,.none] }) rfl
  rw[hz]at this;exact this
 exact⟨⟨_,he,rfl⟩,q _ he ⟨_,zO0 _ (zW0 _ rfl),rfl,rfl⟩ fun b o x=>zO0 _ (zO0 _ x)⟩
end
def Ci(K:W.Frag)(a:Addr):It:=
 ⟨fun i H=>∃xs x,SqT K H a xs/\xs[i]?=some x,fun i H y H'=>∃t,y=.ref t/\H t=none/\∀xs x,SqT K H a xs->xs[i]?=some x->H'=upd H t (.tup [.int i,x]),fun i H=>∃xs,SqT K H a xs/\xs.length<=i⟩
theorem uP{P:Program}{w:World}{K:W.Frag}{elts:List Expr}{k:Nat}{pos:Pos}(a e it:Addr)(hei:e≠it)(hai:a≠it)(hae:a≠e) :
 Turn P w K (.Tuple elts k pos) (Ci K a) [e,it] e (fun i h=>(∃old,IsEnum h e it i old)/\h.IsTupleIter it a i) where
 mem:=by simp
 obj:=fun i h st b hb=>by
  obtain⟨⟨old,he⟩,o,e2,c,d⟩:=st;rcases qD0 hb with z | z
  . subst z;exact⟨_,he,fun v z=>nomatch z⟩
  . have z':=zT0 z;subst z';exact⟨o,e2,fun v z=>by rw[d]at z;cases z⟩
 keep:=fun i h h' st k=>by
  obtain⟨⟨old,he⟩,hit⟩:=st;exact⟨⟨old,k e (by simp) _ he⟩,hit.at fun o x=>k it (by simp) o x⟩
 item:=by
  intro X hP hw hK hc i pins s σ H E I hf st hg;subst hP hw hK;obtain⟨xs,x,hq,hx⟩:=hg;obtain⟨its,rv,p,hz⟩:=I.tuple hq;obtain⟨u,hu,ru⟩:=rv.get hx;obtain⟨⟨old,he⟩,hit⟩:=st;have hi:i<its.toArray.size:=by
   rw[zP0];exact(zY0 hu).1
  refine wpAny_pyNext_enum_itemD (zh (prog:=X.prog) (w:=X.w) (A:=X.A.in1) (I.ok.hd hc) it a hai its.toArray) he ⟨hit,p⟩ hi hei (by simp [hei,Ne.symm hae]) fun y h1 tk hy ho hst1 hT hsz hk=>?_
  have ey:y=u:=by
   have h1:its.toArray[i]?=some u:=by simpa using hu
   rw[h1]at hy;exact(zQ0 hy).symm
  subst ey;refine⟨_,rfl,wpAny_letOwnedTupleGo_enum ho fun h2 he2 hs2=>?_⟩;have elt:e<s.heap.objs.size:=zN0 he;have hT2:h2.get? s.heap.objs.size=some { cls:=.type "tuple",data:=.seq #[.int i tk,y] }:=(hs2.2 _ (Ne.symm (zV0 elt))).trans hT;have I2:Inv X pins σ (upd H s.heap.objs.size (.tup [.int i,x])) { s with heap:=h2,toks:=tk+1 }:=by
   refine I.turnedNew (ch:=[e,it]) (fun b ob hb eb=>?_) hf (zG0 _) ⟨by show 2<=sizeLine;decide,[.int i tk,y],.cons ⟨_,rfl⟩ (.cons ru .nil),⟨_,hT2,rfl,_,rfl⟩,_,hT2,rfl⟩;have b1:b≠e:=fun z=>hb (by simp [z])
   have b2:b≠it:=fun z=>hb (by simp [z])
   exact(hs2.2 b b1).trans (hk b ob b1 b2 eb)
  refine⟨.ref s.heap.objs.size,_,I2,rfl,⟨_,rfl,I.hok.fresh (zG0 _),fun ys z hy hyi=>?_⟩,⟨⟨y,by simpa using he2⟩,hst1.1.at fun o z=>(hs2.2 it (Ne.symm hei)).trans z⟩,fun b hb=>?_⟩
  . have e1:=I.tuple_inj hy hq;subst e1;rw[hx]at hyi;cases hyi;rfl
  . have z:=hf b hb;have hlt:b<s.heap.objs.size:=by
     rcases qD0 hb with y | y
     . rw[y];exact elt
     . rw[zT0 y];obtain⟨o,e2,_⟩:=hit;exact zN0 e2
    rw[ay (zV0 hlt)];exact z.1
 done:=by
  intro X hP hw hK hc i pins s σ H E I hf st hg;subst hP hw hK;obtain⟨xs,hq,hx⟩:=hg;obtain⟨its,rv,p,hz⟩:=I.tuple hq;obtain⟨⟨old,he⟩,hit⟩:=st;have hl:=rv.length;exact zf (I.ok.hd hc) he hit p (Array.getElem?_eq_none (by simp;omega)) fun h' eb=>⟨rfl,I.turnedL (t':=s.toks) (ch:=[e,it]) (fun b o hb eo=>eb b o (fun z=>hb (by simp [z])) eo) hf⟩
 self:=fun _ _ _ _ _ st h=>by
  obtain⟨⟨old,he⟩,_⟩:=st;exact wpAny_pyIter_enum he h
section
variable {X:Cx} {elts:List Expr} {k:Nat} {tpos:Pos}
def EW(K:W.Frag)(tl:TE):TI:=fun σ H R=>tl σ H fun x H1=>∃a,x=.ref a/\(∃xs,SqT K H1 a xs)/\R (Ci K a) H1
theorem AI {l:Expr} {tl:TE} {p pos:Pos} (hg:Gl X "enumerate") (hm:X.mg "enumerate"=none) (hl:PE X l tl) (hs:starEach [l] X.env=[(false,eval l X.env)]:=by rfl) :
 PI X (.Tuple elts k tpos) (.Call (.Name "enumerate" p) [l] [] pos) (EW X.K tl):=by
 intro pins s σ H R I h;refine Call_ (jh I hg hm boot_enumerate (PyProof.Rows.callWith_type1 ?_ hs rfl));rw[hs];show wpAny _ _ (spliced ((false,eval l X.env)::backTo pos (starEach [] X.env))) _ _ s;refine Calls.spliced_cons (thn (hl pins s σ H _ I h) fun u s1 ⟨x,H1,I1,r1,a,ex,⟨xs,hq⟩,q⟩=>?_);subst ex;cases r1;obtain⟨its,rv,p,hz⟩:=I1.tuple hq;have alt:=p.lt;refine Calls.spliced_nil ?_;refine we p fun h' he hit hk=>?_
 refine wpAny_pyIter_enum he ?_;have I2:Inv X pins σ H1 { s1 with heap:=h' }:=I1.kept (t':=s1.toks) hk;refine⟨s1.heap.objs.size+1,[s1.heap.objs.size+1,s1.heap.objs.size],_,_,H1,rfl,I2,uP a _ _ (Nat.ne_of_gt (Nat.lt_succ_self _)) (zV0 alt) (zV0 (Nat.lt_succ_of_lt alt)),⟨⟨_,he⟩,hit⟩,fun b hb=>?_,q⟩;rcases qD0 hb with z | z
 . rw[z];exact I1.fpOk (qI0 _) (I1.hok.fresh (qI0 _))
 . rw[zT0 z];exact I1.fpOk (zG0 _) (I1.hok.fresh (zG0 _))
end
theorem zb{K:W.Frag}{a:Addr}{xs:List V}{g:TG}{tb:TS}{D:Ends}{σ:St}{H:Hp}(Pv:Nat->St->Hp->Prop)(h0:Pv 0 σ H)(hl:∀i σ H,i<=xs.length->Pv i σ H->SqT K H a xs)
 (hs:∀i x σ H t,xs[i]?=some x->Pv i σ H->H t=none->g (.ref t) σ (upd H t (.tup [.int i,x])) fun σ2 H2=>tb { D with nx:=Pv (i+1),ct:=Pv (i+1),bk:=D.nx } σ2 H2) (hd:∀ σ H,Pv xs.length σ H->D.nx σ H) :
 ∃ W:Nat->Nat->St->Hp->Prop,(∃m,W 0 m σ H)/\∀i m σ H,W i m σ H ->
  ((Ci K a).stop i H/\D.nx σ H)∨((Ci K a).go i H/\∃N:St->Hp->Prop,(∀ σ' H',N σ' H'->∃m',m'<m/\W (i+1) m' σ' H')/\∀x H',(Ci K a).yld i H x H'->g x σ H' fun σ2 H2=>tb { D with nx:=N,ct:=N,bk:=D.nx } σ2 H2):=by
 refine⟨fun i m σ H=>m=xs.length-i/\i<=xs.length/\Pv i σ H,⟨xs.length,by simp,zU0 _,h0⟩,?_⟩;rintro i m σ H ⟨rfl,hi,p⟩;have q:=hl i σ H hi p
 by_cases hlt:i<xs.length
 . refine .inr ⟨⟨xs,xs[i],q,by simp [hlt]⟩,Pv (i+1),fun σ' H' p'=>⟨xs.length-(i+1),by omega,rfl,hlt,p'⟩,fun x H' y=>?_⟩;obtain⟨t,rfl,ht,e⟩:=y;have e':=e xs xs[i] q (by simp [hlt]);subst e';exact hs i xs[i] σ H t (by simp [hlt]) p ht
 . have e:i=xs.length:=by omega
   subst e;exact .inl ⟨⟨xs,q,zG0 _⟩,hd σ H p⟩
def ItV(K:W.Frag)(a:Addr)(xs:List V):It:=⟨fun i H=>SqL K H a xs/\i<xs.length,fun i H y H'=>H'=H/\xs.reverse[i]?=some y,fun i _=>xs.length<=i⟩
theorem xR{P:Program}{w:World}{K:W.Frag}{tg:Expr}(a it:Addr)(xs:List V):Turn P w K tg (ItV K a xs) [it] it (fun i h=>i<=xs.length/\h.IsRevIter it a ((xs.length:Int)-1-(i:Int))) where
 mem:=by simp
 obj:=fun i h st b hb=>by
  have e:b=it:=by simpa using hb
  subst e;obtain⟨_,o,e,c,d⟩:=st;exact⟨o,e,fun v z=>by rw[d]at z;cases z⟩
 keep:=fun i h h' st k=>⟨st.1,st.2.at fun o e=>k it (by simp) o e⟩
 item:=by
  intro X hP hw hK hc i pins s σ H E I hf st hg;subst hP hw hK;obtain⟨hq,hi⟩:=hg;obtain⟨its,rv,p,hz⟩:=I.list hq;have hj:xs.length-1-i<xs.length:=by omega
  have hx:xs[xs.length-1-i]?=some xs[xs.length-1-i]:=zK0 hj;obtain⟨u,hu,ru⟩:=rv.get hx;obtain⟨f0,f1,f2,f3,f4,f5⟩:=hf it (by simp);obtain⟨_,hit⟩:=st;have e1:((xs.length:Int)-1-(i:Int))=((xs.length-1-i:Nat):Int):=by omega
  rw[e1]at hit;refine wpAny_pyNext_rev_item hit p.isList (x:=u) (by simpa using hu) fun h' st' sb=>?_
  have I1:Inv X pins σ H { s with heap:=h' }:=I.turned (t':=s.toks) (fun b o hb e=>(sb.2 b hb).trans e) f0 f1 f3 f4 f5;have e2:((xs.length-1-i:Nat):Int)-1=(xs.length:Int)-1-((i+1:Nat):Int):=by omega
  rw[e2]at st';obtain⟨o,e,c,d⟩:=id st';refine⟨u,rfl,ut (s:={ s with heap:=h' }) e c d (by decide) ⟨xs[xs.length-1-i],H,I1,ru,⟨rfl,?_⟩,⟨by omega,st'⟩,fun b hb=>(hf b hb).1⟩⟩;rw[List.getElem?_reverse hi,hx]
 done:=by
  intro X hP hw hK hc i pins s σ H E I hf st hg;subst hP hw hK;have hg:xs.length<=i:=hg;obtain⟨f0,f1,f2,f3,f4,f5⟩:=hf it (by simp);obtain⟨hi,hit⟩:=st;have e1:(xs.length:Int)-1-(i:Int)=-1:=by omega
  rw[e1]at hit;exact wpAny_pyNext_rev_end (I.ok.hd hc) hit fun h' eb=>⟨rfl,I.turned (t':=s.toks) (fun b o hb e=>eb b o hb e) f0 f1 f3 f4 f5⟩
 self:=fun _ _ _ _ _ st h=>wpAny_pyIter_revIter st.2 h
theorem BI{K:W.Frag}{a:Addr}{xs:List V}{g:TG}{tb:TS}{D:Ends}{σ:St}{H:Hp}(Pv:Nat->St->Hp->Prop)(h0:Pv 0 σ H)(hl:∀i σ H,i<=xs.length->Pv i σ H->SqL K H a xs)
 (hs:∀i x σ H,i<xs.length->xs.reverse[i]?=some x->Pv i σ H->g x σ H fun σ2 H2=>tb { D with nx:=Pv (i+1),ct:=Pv (i+1),bk:=D.nx } σ2 H2) (hd:∀ σ H,Pv xs.length σ H->D.nx σ H) :
 ∃ W:Nat->Nat->St->Hp->Prop,(∃m,W 0 m σ H)/\∀i m σ H,W i m σ H ->
  ((ItV K a xs).stop i H/\D.nx σ H)∨((ItV K a xs).go i H/\∃N:St->Hp->Prop,(∀ σ' H',N σ' H'->∃m',m'<m/\W (i+1) m' σ' H')/\∀x H',(ItV K a xs).yld i H x H'->g x σ H' fun σ2 H2=>tb { D with nx:=N,ct:=N,bk:=D.nx } σ2 H2):=by
 refine⟨fun i m σ H=>m=xs.length-i/\i<=xs.length/\Pv i σ H,⟨xs.length,by simp,zU0 _,h0⟩,?_⟩;rintro i m σ H ⟨rfl,hi,p⟩;have q:=hl i σ H hi p
 by_cases hlt:i<xs.length
 . refine .inr ⟨⟨q,hlt⟩,Pv (i+1),fun σ' H' p'=>⟨xs.length-(i+1),by omega,rfl,hlt,p'⟩,fun x H' y=>?_⟩;obtain⟨e,ex⟩:=y;subst e;exact hs i x σ _ hlt ex p
 . have e:i=xs.length:=by omega
   subst e;exact .inl ⟨zG0 _,hd σ H p⟩
theorem qT {X:Cx} (K:W.Frag) (h:X.K=K:=by rfl):MtR X "list.count" (wX K):=by subst h;exact uf
section
variable {X:Cx} {o e:Expr} {es:List Expr} {to ta:TE} {t:TA} {T id:String} {name f:Str} {r:V->List V->Hp->VK->Prop} {apos cpos pos:Pos}
theorem AS (K:W.Frag) (pa:PlainAttrs T) (slot:Slot T name id) (hty:typeOf (.builtin id)=pure (.type "method_descriptor")) (hm:MtR X id r) (ho:PE X o to) (ha:PA X (e::es) t) (hK:X.K=K:=by rfl)
 (hbase:attributeBase o name X.env (eval o X.env)=eval o X.env:=by rfl)
 (hfew:((backTo cpos (starEach (e::es) X.env)).all (fun x=>!x.1)&&(backToKw cpos (keywordEach [] X.env)).all (fun x=>x.1.isSome)&&decide ((e::es).length+([]:List Keyword).length+(if([]:List Keyword).isEmpty then 0 else 1)<30))=true:=by rfl)
 (hline:(apos.endLine==cpos.line)=true:=by rfl) (hs:starEach (e::es) X.env=(false,eval e X.env)::starEach es X.env:=by rfl) (hplain:(backTo cpos (starEach es X.env)).any (·.1)=false:=by rfl) :
 PE X (.Call (.Attribute o name apos) (e::es) [] cpos) (tBM K T r to t):=by subst hK;exact iR pa slot hty hm ho ha hbase hfew hline hs hplain
theorem kr(K:W.Frag)(he:PE X e ta)(hK:X.K=K:=by rfl)(hb:attributeBase e f X.env (eval e X.env)=eval e X.env:=by rfl):PE X (.Attribute e f pos) (tFld K ta f):=by subst hK;exact ax he hb
end
@[reducible] def dW (X:Cx) (x:Str) (N:List Str) (scope:Scope) (cl:List (Str×Addr)) (s:Shared) (H:Hp) (fp:List Addr):Cx where
 prog:=X.prog
 w:=X.w
 K:=X.K
 mg:=X.mg
 base:=X.base
 A:=X.A
 N:=x::N
 s₀:=s
 H₀:=H
 env:=compEnvC scope ((x,s.heap.objs.size+1)::cl) s.heap.objs.size X.env
 outer:=X.stack
 stack:=X.stack
 ex:=fp
 fn:=fun y=>y==x
 calm:=X.calm
 pn:=[]
 xe:=fun _ _=>False
structure CompScopeO(X:Cx)(x:Str)(N:List Str)(ix:List Nat)(scope:Scope)(cl:List (Str×Addr)):Prop where
 clos:closureFor scope X.env=pure cl
 lay:∀(n:Addr) (h:Heap),cellsFrom n scope.names cl=(x,n)::cl/\pushCells h scope.names=h.push { cls:=.type "cell",data:=.cell none }
 kind:scope.kind=.function
 names:∀y∈scope.names,y.2=.local->scope.names.lookup y.1=some .local
 own:(relabel scope X.env).names.lookup x=some .cell
 nd:(x::N).Nodup
 sub:∀p∈cl,X.env.cells.lookup p.1=some p.2
 has:((relabel scope X.env).names.all fun p=>!(p.2==.cell||p.2==.free)||(p.1==x||(cl.lookup p.1).isSome))=true
 outs:∀(j:Nat)(y:Str),N[j]?=some y->(relabel scope X.env).names.lookup y=some .cell/\∃k c,ix[j]?=some k/\X.N[k]?=some y/\cl.lookup y=some c/\X.env.scope.names.lookup y=some .cell
section
variable {X:Cx} {pins:List (Addr×Obj)} {σ:St} {x:Str} {N:List Str} {ix:List Nat} {scope:Scope} {cl:List (Str×Addr)} {fp:List Addr} {H3:Hp} {s3:Shared}
theorem CompScopeO.cells(S:CompScopeO X x N ix scope cl){y:Str}{c:Addr}(h:cl.lookup y=some c):X.env.cells.lookup y=some c:=S.sub _ (PySem.mem_of_lookup h)
theorem eU{x y:Str}{n c:Addr}{cl:List (Str×Addr)}(h:((x,n)::cl).lookup y=some c):(y=x/\c=n)∨(y≠x/\cl.lookup y=some c):=by
 by_cases e:y=x
 . subst e
   simp [List.lookup]at h
   exact .inl ⟨rfl,h.symm⟩
 . have e':(y==x)=false:=by simpa using e
   simp only[List.lookup,e']at h;exact .inr ⟨e,h⟩
theorem jL{x y:Str}{n:Addr}{cl:List (Str×Addr)}(e:y≠x):((x,n)::cl).lookup y=cl.lookup y:=by
 have e':(y==x)=false:=by simpa using e
 simp only[List.lookup,e']
theorem mf(S:CompScopeO X x N ix scope cl)(I3:Inv X pins σ H3 s3)(hf:∀b∈fp,iW X pins H3 b)(hlt:∀b∈fp,b<s3.heap.objs.size):(dW X x N scope cl s3 H3 fp).Ok where
 mod:=I3.ok.mod
 kind:=S.kind
 glob:=I3.ok.glob
 blt:=I3.ok.blt
 above:=zG0 _
 inj:=fun y z c h1 h2=>by
  have lt:∀y c,cl.lookup y=some c->c<s3.heap.objs.size:=fun y c e=>by
   obtain⟨v,q⟩:=I3.cell y c (S.cells e);exact q.lt
  rcases eU h1 with⟨e1,c1⟩ | ⟨e1,l1⟩ <;> rcases eU h2 with⟨e2,c2⟩ | ⟨e2,l2⟩
  . rw[e1,e2]
  . exact absurd (lt z c l2) (by rw[c1];exact Nat.not_lt.mpr (qI0 _))
  . exact absurd (lt y c l1) (by rw[c2];exact Nat.not_lt.mpr (qI0 _))
  . exact I3.ok.inj y z c (S.cells l1) (S.cells l2)
 has:=fun y hy=>by
  by_cases e:y=x
  . subst e;exact⟨s3.heap.objs.size+1,by show((y,s3.heap.objs.size+1)::cl).lookup y=_;simp [List.lookup]⟩
  have q:=List.all_eq_true.mp S.has;have hy:(relabel scope X.env).names.lookup y=some .cell∨(relabel scope X.env).names.lookup y=some .free:=hy;have z:∀k:NameKind,(k==.cell||k==.free)=true->(relabel scope X.env).names.lookup y=some k->∃c,((x,s3.heap.objs.size+1)::cl).lookup y=some c:=fun k hk e2=>by
   have r:=q _ (PySem.mem_of_lookup e2);have ey:(y==x)=false:=by simpa using e
   rw[hk]at r;rw[jL e];have r':(cl.lookup y).isSome=true:=by simpa [ey]using r
   exact Option.isSome_iff_exists.mp r'
  rcases hy with e | e
  . exact z _ (by rfl) e
  . exact z _ (by rfl) e
 cab:=fun y c h e=>by
  have ey:y=x:=by simpa using(show(y==x)=true from h)
  rcases eU e with⟨_,c1⟩ | ⟨n,_⟩
  . rw[c1];exact qI0 _
  . exact absurd ey n
 hd:=I3.ok.hd
 frames:=I3.ok.frames
 stk:=.inl rfl
 exf:=fun b hb=>⟨zV0 (hlt b hb),fun y c e=>by
  rcases eU e with⟨_,c1⟩ | ⟨_,l⟩
  . rw[c1];exact Nat.ne_of_gt (Nat.lt_succ_of_lt (hlt b hb))
  . exact(hf b hb).2.2.2.2.1 y c (S.cells l)⟩
 bs:=fun b o e=>I3.bs b o e
 bsz:=qC0 I3.ok.bsz I3.sz
 noex:=fun b o e hb=>by
  rcases(hf b hb).2.2.2.1 with z | z
  . exact I3.ok.noex b o e z
  . exact absurd (qK0 (zN0 e) (qC0 I3.ok.bsz z)) (qU0 _)
 exfs:=fun b hb z=>by
  rcases qD0 (I3.stkSub b z)with e | e
  . exact(hf b hb).2.1 e
  . exact(hf b hb).2.2.1 e
 funs:=I3.stack
 frf:=I3.stkFree
theorem uA(S:CompScopeO X x N ix scope cl)(I3:Inv X pins σ H3 s3)(hf:∀b∈fp,iW X pins H3 b)(hlt:∀b∈fp,b<s3.heap.objs.size)(hix:ix.length=N.length){h1:Heap}{t':Nat}{m:Str->Option Value}
 (hn:h1.Ns s3.heap.objs.size m) (hc:h1.IsCell (s3.heap.objs.size+1) none) (hk:∀b o,s3.heap.get? b=some o->h1.get? b=some o):Inv (dW X x N scope cl s3 H3 fp) [] (none::outs ix σ) H3 { s3 with heap:=h1,toks:=t' } where
 ok:=mf S I3 hf hlt
 os:=rfl
 bare:=I3.bare
 base:=Un.kept hk
 loc:=by
  refine⟨m,hn,fun i y v h1' h2 h3=>?_⟩;cases i with
  | zero=>
    have h2':(some (none:Option V))=some (some v):=h2;cases h2'
  | succ j=>
    have h1'':N[j]?=some y:=h1';have h2':(outs ix σ)[j]?=some (some v):=h2;have nyx:y≠x:=fun z=>(List.nodup_cons.mp S.nd).1 (z▸qG0 h1'')
    obtain ⟨hr,k,c,e1,e2,e3,e4⟩:=S.outs j y h1'';unfold outs at h2';rw[zR0,e1]at h2';have h2'':(σ[k]?).join=some v:=zQ0 h2';have e5:σ[k]?=some (some v):=by
     cases q:σ[k]? with
     | none=>rw[q]at h2'';cases h2''
     | some o=>rw[q]at h2'';exact congrArg some h2''
    obtain⟨m0,_,hl⟩:=I3.loc;obtain⟨u,r,l⟩:=hl k y v e2 e5 (.inr (.inl e4));refine⟨u,r,.inr ⟨.inl hr,c,(jL nyx).trans e3,?_⟩⟩;rcases l with⟨kk,_⟩ | ⟨_,c',ec,z⟩
    . have kk':X.env.scope.names.lookup y=some .local:=kk;rw[e4]at kk';cases kk'
    . rw[S.cells e3]at ec;cases ec;obtain⟨o,ho,hd⟩:=z;exact⟨o,hk _ _ ho,hd⟩
 cell:=fun y c e=>by
  rcases eU e with⟨_,c1⟩ | ⟨_,l⟩
  . rw[c1];exact⟨none,hc⟩
  . obtain⟨v,o,ho,hd⟩:=I3.cell y c (S.cells l);exact⟨v,o,hk _ _ ho,hd⟩
 free:=I3.hok.fresh (zG0 _)
 freeC:=fun y c e=>by
  rcases eU e with⟨_,c1⟩ | ⟨_,l⟩
  . rw[c1];exact I3.hok.fresh (qI0 _)
  . exact I3.freeC y c (S.cells l)
 pin:=fun p hp=>absurd (show p∈([]:List (Addr×Obj))from hp) (by simp)
 hok:=I3.hok.kept hk
 len:=by
  show(none::outs ix σ).length=(x::N).length;rw[qF0,qF0];unfold outs;rw[zE0,hix]
theorem wb(I3:Inv X pins σ H3 s3)(hf:∀b∈fp,iW X pins H3 b){σ':St}{H':Hp}{s':Shared}{h'':Heap}(J:Inv (dW X x N scope cl s3 H3 fp) [] σ' H' s')(hb:Heap.SameBut s3.heap.objs.size s'.heap h'') :
 Inv X pins σ H' { s' with heap:=h'' }:=by
 have ne:∀b o,s3.heap.get? b=some o->b≠s3.heap.objs.size:=fun b o e=>zV0 (zN0 e)
 have B:Un (frs X.stack) fp H3 H' s3.heap s'.heap:=J.base;refine I3.call' (s':={ s' with heap:=h'' }) (ch:=fp) J.os ⟨fun b o e n h1 h2=>(hb.2 b (ne b o e)).trans (B.keep b o e n h1 h2),fun b o e n h1 h2=>?_,B.free,fun b o e h2=>?_,B.tups,B.frzs,B.tbls⟩ (fun b ob e=>?_) J.bare (fun b z=>?_)
 . obtain⟨sl,q⟩:=B.slot b o e n h1 h2;exact⟨sl,(hb.2 b (ne b o e)).trans q⟩
 . obtain⟨o',q⟩:=B.there b o e h2;exact⟨o',(hb.2 b (ne b o e)).trans q⟩
 . have fr:H' s3.heap.objs.size=none:=J.free;refine(J.hok b ob e).stay (fun c w' hc q=>(hb.2 c ?_).trans q) (fun _ q=>q) fun _ _ q=>q
   rintro rfl;rcases hc with rfl | hc
   . rw[fr]at e;cases e
   . rw[fr]at hc;cases hc
 . obtain⟨_,h2,_,h4,h5,h6⟩:=hf b z;exact⟨h4,h2,h5,h6⟩
end
section
variable {M:Model} {A:Around} {E:Value->Shared->Prop} {s:Shared}
theorem Bk {scope:Scope} {globals:Addr} {cl:List (Str×Addr)} {x qual:Str} {env:Env} {Q:Env->Shared->Prop} (lay:∀(n:Addr) (h:Heap),cellsFrom n scope.names cl=(x,n)::cl/\pushCells h scope.names=h.push { cls:=.type "cell",data:=.cell none })
 (q:∀h',h'.Ns s.heap.objs.size (fun _=>none)->h'.IsCell (s.heap.objs.size+1) none->(∀b o,s.heap.get? b=some o->h'.get? b=some o) ->
  Q { scope:=scope,locals:=s.heap.objs.size,globals:=globals,cells:=(x,s.heap.objs.size+1)::cl,qual:=qual,func:=none,code:=env.code,frame:=env.frame,builtins:=env.builtins } { s with heap:=h' }) :
 wpAny M A (newFunctionEnv scope globals cl [] qual none .none (some env)) Q E s:=by
 simp only[newFunctionEnv,Option.isSome_some,if_true];refine zF0 (wpAny_alloc ?_);refine zF0 (wpAny_layCells _ (fun name kind cells=>by cases hkc:kind==NameKind.cell <;> simp [hkc]) _ _ _ _ ?_);have hz:(s.heap.push { cls:=.type "dict",data:=.dict #[] }).objs.size=s.heap.objs.size+1:=Heap.size_push ..;rw[show({ s with heap:=s.heap.push { cls:=.type "dict",data:=.dict #[] } }:Shared).heap.objs.size=s.heap.objs.size+1 from hz,(lay _ s.heap).1];show wpAny M A (do let _ ←(forIn [] PUnit.unit fun _ _=>_:Sem PUnit);pure _) Q E _;rw[List.forIn_nil];refine zF0 (zI0 (zI0 ?_));rw[(lay 0 _).2];refine q _ ((Heap.Ns.new s.heap (.type "dict")).keeps fun b o e=>zO0 _ e) ?_ fun b o e=>zO0 _ (zO0 _ e)
 rw[←hz];exact⟨_,zW0 _ rfl,rfl⟩
end
section
variable {X:Cx} {x:Str} {N:List Str} {ix:List Nat} {scope:Scope} {cl:List (Str×Addr)} {elt iter:Expr} {ifs:List Expr} {px pos:Pos} {wi:TI} {tb:TBl}
theorem zm(hc:X.calm=true)(S:CompScopeO X x N ix scope cl)(hix:ix.length=N.length)(hb:∀s3 H3 fp,PB (dW X x N scope cl s3 H3 fp) ifs elt tb)
 {pins:List (Addr×Obj)} {s2:Shared} {σ:St} {H2:Hp} {Q:VK} {it:Addr} {fp:List Addr} {tn:Nat->Heap->Prop} {J:It} {RR:Value->Addr->Result->Shared->Prop} {E:Value->Shared->Prop}
 (I2:Inv X pins σ H2 s2) (T:Turn X.prog X.w X.K (.Name x px) J fp it tn) (st2:tn 0 s2.heap) (f2:∀b∈fp,iW X pins H2 b)
 (h:∀D,H2 D=none->∃W:Nat->Nat->Hp->Prop,(∃m,W 0 m (upd H2 D (.lst [])))/\∀i m H3,W i m H3 ->
  (J.stop i H3/\Q (.ref D) H3)∨(J.go i H3/\∀y H4,J.yld i H3 y H4->tb (some y::outs ix σ) H4 (fun H5=>∃m',m'<m/\W (i+1) m' H5)
   fun z H5=>∃ys,H5 D=some (.lst ys)/\ys.length<sizeLine/\∃m',m'<m/\W (i+1) m' (upd H5 D (.lst (ys++[z])))))
 (hRR:∀(D C:Addr)(H':Hp)(s':Shared)(m:Str->Option Value),s'.heap.Ns C m->Apart X pins H' C->Inv X pins σ H' s'->Q (.ref D) H'->RR (.ref D) C (.ok .next) s') :
 wpAny (model X.prog X.w) X.A (newList []) (fun acc s3=>wpAny (model X.prog X.w) X.A (newFunctionEnv scope X.env.globals cl [] X.env.qual none .none (some X.env)) (fun cenv s4=>
  codeAny (model X.prog X.w) X.A (.compStart (.ListComp elt [⟨.Name x px,iter,ifs,0⟩] scope pos) 0 (.ref it) acc { cenv with scope:=relabel scope X.env }) (RR acc cenv.locals) s4) E s3) E s2:=by
 refine wpAny_newObj_type (Bk S.lay fun h1 hns1 hcl1 up1=>?_)
 dsimp only at hns1 hcl1 up1 ⊢
 have I3:Inv X pins σ (upd H2 s2.heap.objs.size (.lst [])) { s2 with heap:=s2.heap.push { cls:=.type "list",dict:=none,data:=.seq ([]:List Value).toArray } }:=I2.lnew (its:=[]) (ys:=[]) (t':=s2.toks) .nil (zU0 _);have hD:H2 s2.heap.objs.size=none:=I2.fresh;obtain⟨W,⟨m0,w0⟩,turn⟩:=h s2.heap.objs.size hD;have hltF:∀b∈fp,b<s2.heap.objs.size:=fun b hb=>by
  obtain⟨o,e,_⟩:=T.obj 0 _ st2 b hb;exact zN0 e
 generalize hs3:({ s2 with heap:=s2.heap.push { cls:=.type "list",dict:=none,data:=.seq ([]:List Value).toArray } }:Shared)=s3 at I3;have eh:s2.heap.push { cls:=.type "list",dict:=none,data:=.seq ([]:List Value).toArray }=s3.heap:=by rw[←hs3]
 have et:s2.toks=s3.toks:=by rw[←hs3]
 rw[eh]at hns1 hcl1 up1 ⊢;have sz3:s3.heap.objs.size=s2.heap.objs.size+1:=by rw[←eh,Heap.size_push]
 have hlt3:∀b∈fp,b<s3.heap.objs.size:=fun b hb=>qK0 (hltF b hb) (by rw[sz3];exact qI0 _)
 have f3:∀b∈fp,iW X pins (upd H2 s2.heap.objs.size (.lst [])) b:=fun b hb=>by
  obtain⟨q1,q2⟩:=f2 b hb;exact⟨by rw[ay (zV0 (hltF b hb))];exact q1,q2⟩
 have up:∀b o,s3.heap.get? b=some o->h1.get? b=some o:=up1
 have old:∀b o,s2.heap.get? b=some o->h1.get? b=some o:=fun b o e=>up b o (by rw[←eh];exact zO0 _ e)
 have es:({ s2 with heap:=h1 }:Shared)={ s3 with heap:=h1,toks:=s3.toks }:=by rw[←hs3]
 rw [es];have I4:Inv (dW X x N scope cl s3 (upd H2 s2.heap.objs.size (.lst [])) fp) [] (none::outs ix σ) (upd H2 s2.heap.objs.size (.lst [])) { s3 with heap:=h1,toks:=s3.toks }:=
  uA S I3 f3 hlt3 hix hns1 hcl1 up
 have st4:tn 0 h1:=T.keep 0 _ _ st2 fun b _ o e=>old b o e
 have loop:codeAny (model X.prog X.w) X.A (.compLoop (.ListComp elt [⟨.Name x px,iter,ifs,0⟩] scope pos) 0 (.ref it) (.ref s2.heap.objs.size) (compEnvC scope ((x,s3.heap.objs.size+1)::cl) s3.heap.objs.size X.env)) (RR (.ref s2.heap.objs.size) s3.heap.objs.size)
  { s3 with heap:=h1,toks:=s3.toks }:=by
  refine oB (fun n s'=>∃i v0 H',Inv (dW X x N scope cl s3 (upd H2 s2.heap.objs.size (.lst [])) fp) [] (v0::outs ix σ) H' s'/\tn i s'.heap/\(∀b∈fp,H' b=none)/\W i n H') ?_ m0 ⟨0,none,_,I4,st4,fun b hb=>(f3 b hb).1,w0⟩;rintro n s5 ⟨i,v0,H5,I5,st5,fr5,w5⟩;have stat:∀{H':Hp},(∀b∈fp,H' b=none)->∀b∈fp,iW (dW X x N scope cl s3 (upd H2 s2.heap.objs.size (.lst [])) fp) [] H' b:=fun hn b hb=>
   ⟨hn b hb,((mf S I3 f3 hlt3).exf b hb).1,(mf S I3 f3 hlt3).exfs b hb,.inl hb,((mf S I3 f3 hlt3).exf b hb).2,fun p hp=>absurd (show p∈([]:List (Addr×Obj))from hp) (by simp)⟩
  rcases turn i n H5 w5 with⟨stop,qn⟩ | ⟨go,step⟩
  . refine thn (T.done (dW X x N scope cl s3 (upd H2 s2.heap.objs.size (.lst [])) fp) rfl rfl rfl hc i [] s5 _ H5 _ I5 (stat fr5) st5 stop) fun r s6 ⟨hr,I6⟩=>?_
    subst hr;obtain⟨m6,hn6,_⟩:=I6.loc;exact hRR _ _ H5 s6 m6 hn6 ⟨I6.free,Ne.symm (zV0 I3.lt),I3.sz,fun y c e z=>by
     obtain⟨v,q⟩:=I3.cell y c e;exact absurd q.lt (by rw[z];exact qU0 _),fun p hp z=>absurd (zN0 (I3.pin p hp).1) (by rw[z];exact qU0 _)⟩ (wb I3 f3 I6 (Heap.SameBut.refl _ _)) qn
  . refine thn (T.item (dW X x N scope cl s3 (upd H2 s2.heap.objs.size (.lst [])) fp) rfl rfl rfl hc i [] s5 _ H5 _ I5 (stat fr5) st5 go) fun r s6 ⟨u,hr,h6⟩=>?_
    subst hr;refine thn h6 fun _ s7 ⟨y,H7,I7,r7,y7,st7,fr7⟩=>?_
    have I7':=I7.pinned (stat fr7) (T.obj _ _ st7);refine wpAny_assign_Name (lq (i:=0) I7' S.nd rfl (.inr S.own) r7 (fun s8 I8=>?_) (.inl (by show(x==x)=true;simp)));have I8':Inv (dW X x N scope cl s3 (upd H2 s2.heap.objs.size (.lst [])) fp) ([]++jA fp s7.heap) (some y::outs ix σ) H7 s8:=I8;have again:∀{v9:Option V}{H9:Hp}{s9:Shared},Inv (dW X x N scope cl s3 (upd H2 s2.heap.objs.size (.lst [])) fp) ([]++jA fp s7.heap) (v9::outs ix σ) H9 s9->(∃m',m'<n/\W (i+1) m' H9) ->
     ∃m,m<n/\∃i v0 H',Inv (dW X x N scope cl s3 (upd H2 s2.heap.objs.size (.lst [])) fp) [] (v0::outs ix σ) H' s9/\tn i s9.heap/\(∀b∈fp,H' b=none)/\W i m H':=fun{v9 H9 s9} I9 ⟨m',hm,w9⟩=>by
     refine⟨m',hm,i+1,v9,H9,I9.unpinned,T.keep _ _ _ st7 fun b hb o e=>(I9.pin (b,o) (qS0 _ (qS0 _ (gr hb e)))).1,fun b hb=>?_,w9⟩;obtain⟨o,e,d⟩:=T.obj _ _ st7 b hb;exact(I9.pin (b,o) (qS0 _ (qS0 _ (gr hb e)))).2.1
    refine thn (hb s3 (upd H2 s2.heap.objs.size (.lst [])) fp _ s8 _ H7 _ _ I8' (step y H7 y7)) fun ok s9 q9=>?_
    cases ok with
    | false=>
      rw[zA0 (by decide)]at q9 ⊢;obtain⟨H9,I9,q9⟩:=q9;exact again I9 q9
    | true=>
      rw[zB0 rfl]at q9 ⊢;refine thn q9 fun u s10 ⟨z,H10,I10,r10,ys,hy,hz,q10⟩=>?_
      refine thn (dw _ s10 _ H10 (.ref s2.heap.objs.size) [z] (.ref s2.heap.objs.size) [u] (fun _ H'=>∃m',m'<n/\W (i+1) m' H') I10 rfl (.cons r10 .nil) ⟨_,ys,z,rfl,rfl,hy,hz,q10⟩) fun _ s11 ⟨_,H11,I11,_,q11⟩=>?_
      exact again I11 q11
 exact codeAny_compStart_list loop (T.self _ 0 _ _ _ st4 loop)
theorem AQ(hc:X.calm=true)(S:CompScopeO X x N ix scope cl)(hix:ix.length=N.length)(hi:PI X (.Name x px) iter wi)(hb:∀s3 H3 fp,PB (dW X x N scope cl s3 H3 fp) ifs elt tb)
 (hs:∀x,foldedSetIterable iter X.env x=pure x:=by intro _;rfl):PE X (.ListComp elt [⟨.Name x px,iter,ifs,0⟩] scope pos) (uQ wi ix tb):=by
 intro pins s σ H Q I h;rw[eval_ListComp];refine wpAny_comprehension_free (use:=none) rfl hs S.clos S.kind S.names (thn (hi pins s σ H _ I h) fun xv s1 h1=>thn h1 fun itv s2 h2=>?_);obtain⟨it,fp,tn,J,H2,rfl,I2,T,st2,f2,R⟩:=h2;refine zm hc S hix hb (RR:=fun acc C=>compPost (model X.prog X.w) X.A X.xe none (EP X pins σ Q) acc C) I2 T st2 f2 R ?_;intro D C H' s' m hn ap I' q;exact⟨m,hn,fun h'' hb''=>⟨.ref D,H',ap.turn I' hb'',rfl,q⟩⟩
theorem CompScopeO.one {y:Str} {k:Nat} {c:Addr} (c1:closureFor scope X.env=pure [(y,c)]) (c2:∀(n:Addr) (h:Heap),cellsFrom n scope.names [(y,c)]=(x,n)::[(y,c)]/\pushCells h scope.names=h.push { cls:=.type "cell",data:=.cell none }) (c3:scope.kind=.function) (c4:∀y∈scope.names,y.2=.local->scope.names.lookup y.1=some .local)
 (c5:(relabel scope X.env).names.lookup x=some .cell) (nd:[x,y].Nodup) (hc:X.env.cells.lookup y=some c) (c6:((relabel scope X.env).names.all fun p=>!(p.2==.cell||p.2==.free)||(p.1==x||(([(y,c)]:List (Str×Addr)).lookup p.1).isSome))=true)
 (hr:(relabel scope X.env).names.lookup y=some .cell) (hk:X.N[k]?=some y) (hs:X.env.scope.names.lookup y=some .cell):CompScopeO X x [y] [k] scope [(y,c)] where
 clos:=c1
 lay:=c2
 kind:=c3
 names:=c4
 own:=c5
 nd:=nd
 sub:=fun p hp=>by
  rw[zT0 hp];exact hc
 has:=c6
 outs:=fun j z h=>by
  cases j with
  | zero=>
    have e:y=z:=zQ0 h;subst e;exact⟨hr,k,c,rfl,hk,by simp [List.lookup],hs⟩
  | succ j=>simp at h
end
theorem CompScope.four{X:Cx}{x y z u v:Str}{scope:Scope}{k l m n:Nat}{c d e g:Addr}{cl:List (Str×Addr)}(c1:closureFor scope X.env=pure cl:=by with_unfolding_all rfl)(c2:∀y∈scope.names,y.2≠.cell:=by decide)(c3:scope.kind=.function:=by rfl)(c4:∀y∈scope.names,y.2=.local->scope.names.lookup y.1=some .local:=by decide)
 (c5:scope.names.lookup x=some .local:=by rfl) (nd:[x,y,z,u,v].Nodup:=by decide +kernel) (hcl:cl=[(y,c),(z,d),(u,e),(v,g)]:=by rfl) (hc:X.env.cells.lookup y=some c:=by with_unfolding_all rfl) (hd:X.env.cells.lookup z=some d:=by with_unfolding_all rfl) (he:X.env.cells.lookup u=some e:=by with_unfolding_all rfl) (hg:X.env.cells.lookup v=some g:=by with_unfolding_all rfl) (c6:((relabel scope X.env).names.all fun p=>!(p.2==.cell||p.2==.free)||(cl.lookup p.1).isSome)=true:=by with_unfolding_all rfl)
 (hr:(relabel scope X.env).names.lookup y=some .cell:=by with_unfolding_all rfl) (hk:X.N[k]?=some y:=by rfl) (hs:X.env.scope.names.lookup y=some .cell:=by rfl)
 (hr2:(relabel scope X.env).names.lookup z=some .cell:=by with_unfolding_all rfl) (hk2:X.N[l]?=some z:=by rfl) (hs2:X.env.scope.names.lookup z=some .cell:=by rfl)
 (hr3:(relabel scope X.env).names.lookup u=some .cell:=by with_unfolding_all rfl) (hk3:X.N[m]?=some u:=by rfl) (hs3:X.env.scope.names.lookup u=some .cell:=by rfl)
 (hr4:(relabel scope X.env).names.lookup v=some .cell:=by with_unfolding_all rfl) (hk4:X.N[n]?=some v:=by rfl) (hs4:X.env.scope.names.lookup v=some .cell:=by rfl):CompScope X x [y,z,u,v] [k,l,m,n] scope cl where
 clos:=c1
 nocell:=c2
 kind:=c3
 names:=c4
 own:=c5
 nd:=nd
 sub:=fun p hp=>by
  subst hcl;rcases qD0 hp with h | h
  . rw[h];assumption
  . rcases qD0 h with h | h
    . rw[h];assumption
    . rcases qD0 h with h | h
      . rw[h];assumption
      . rw[zT0 h];assumption
 has:=c6
 outs:=fun j w h=>by
  have nyz:y≠z:=fun e=>by simp [e]at nd
  have nyu:y≠u:=fun e=>by simp [e]at nd
  have nyv:y≠v:=fun e=>by simp [e]at nd
  have nzu:z≠u:=fun e=>by simp [e]at nd
  have nzv:z≠v:=fun e=>by simp [e]at nd
  have nuv:u≠v:=fun e=>by simp [e]at nd
  subst hcl
  match j,h with
  | 0,h=>
    have e:y=w:=zQ0 h;subst e;exact⟨hr,k,c,rfl,hk,by simp [List.lookup],hs⟩
  | 1,h=>
    have e:z=w:=zQ0 h;subst e
    have:(z==y)=false:=by simpa using Ne.symm nyz
    exact⟨hr2,l,d,rfl,hk2,by simp [List.lookup,this],hs2⟩
  | 2,h=>
    have ew:u=w:=zQ0 h;subst ew;have h1:(u==y)=false:=by simpa using Ne.symm nyu
    have h2:(u==z)=false:=by simpa using Ne.symm nzu
    exact⟨hr3,m,e,rfl,hk3,by simp [List.lookup,h1,h2],hs3⟩
  | 3,h=>
    have ew:v=w:=zQ0 h;subst ew;have h1:(v==y)=false:=by simpa using Ne.symm nyv
    have h2:(v==z)=false:=by simpa using Ne.symm nzv
    have h3:(v==u)=false:=by simpa using Ne.symm nuv
    exact⟨hr4,n,g,rfl,hk4,by simp [List.lookup,h1,h2,h3],hs4⟩
  | j+4,h=>simp at h
def SqB(K:W.Frag)(b:Bool)(H:Hp)(a:Addr)(xs:List V):Prop:=if b=true then SqL K H a xs else SqT K H a xs
end L2
namespace L2
open PySem PyProof.Rows HT
section
variable {X:Cx}
theorem CQ(K:W.Frag){tg l:Expr}{tl:TE}(hl:PE X l tl)(hK:X.K=K:=by rfl):PI X tg l (iTup K tl):=by subst hK;exact gq hl
end
end L2
namespace L2
open PySem PySem.Spec PyProof.Rows
def Fs(K:W.Frag)(a:Addr)(xs:List V):It:=⟨fun i H=>SqT K H a xs/\i<xs.length,fun i H y H'=>H'=H/\xs.reverse[i]?=some y,fun i _=>xs.length<=i⟩
theorem RevT.keep{h h':Heap}{it t:Addr}{i:Int}(x:RevT h it t i)(k:∀o,h.get? it=some o->h'.get? it=some o):RevT h' it t i:=k _ x
theorem xS{P:Program}{w:World}{K:W.Frag}{tg:Expr}(a it:Addr)(xs:List V):Turn P w K tg (Fs K a xs) [it] it (fun i h=>i<=xs.length/\RevT h it a ((xs.length:Int)-1-(i:Int))) where
 mem:=by simp
 obj:=fun i h st b hb=>by
  have e:b=it:=by simpa using hb
  subst e;exact⟨_,st.2,fun v z=>by cases z⟩
 keep:=fun i h h' st k=>⟨st.1,st.2.keep fun o e=>k it (by simp) o e⟩
 item:=by
  intro X hP hw hK hc i pins s σ H E I hf st hg;subst hP hw hK;obtain⟨hq,hi⟩:=hg;obtain⟨its,rv,p,hz⟩:=I.tuple hq;have hj:xs.length-1-i<xs.length:=by omega
  have hx:xs[xs.length-1-i]?=some xs[xs.length-1-i]:=zK0 hj;obtain⟨u,hu,ru⟩:=rv.get hx;obtain⟨f0,f1,f2,f3,f4,f5⟩:=hf it (by simp);obtain⟨_,hit⟩:=st;have e1:((xs.length:Int)-1-(i:Int))=((xs.length-1-i:Nat):Int):=by omega
  rw[e1]at hit;have h63:=jE;refine pY hit p (x:=u) (by simpa using hu) (by omega) fun h' tk st' sb=>?_
  have I1:Inv X pins σ H { s with heap:=h',toks:=tk }:=I.turned (t':=tk) (fun b o hb e=>(sb.2 b hb).trans e) f0 f1 f3 f4 f5;have e2:((xs.length-1-i:Nat):Int)-1=(xs.length:Int)-1-((i+1:Nat):Int):=by omega
  rw[e2]at st';refine⟨u,rfl,ut (s:={ s with heap:=h',toks:=tk }) st' rfl rfl (by decide) ⟨xs[xs.length-1-i],H,I1,ru,⟨rfl,?_⟩,⟨by omega,st'⟩,fun b hb=>(hf b hb).1⟩⟩;rw[List.getElem?_reverse hi,hx]
 done:=by
  intro X hP hw hK hc i pins s σ H E I hf st hg;subst hP hw hK;have hg:xs.length<=i:=hg;obtain⟨f0,f1,f2,f3,f4,f5⟩:=hf it (by simp);obtain⟨hi,hit⟩:=st;have e1:(xs.length:Int)-1-(i:Int)=-1:=by omega
  rw[e1]at hit;exact qE (I.ok.hd hc) hit fun h' tk eb=>⟨rfl,I.turned (t':=tk) (fun b o hb e=>eb b o hb e) f0 f1 f3 f4 f5⟩
 self:=fun _ _ _ _ _ st h=>qV st.2 h
def DE(K:W.Frag)(c:Bool)(a:Addr)(xs:List V):It:=if c=true then ItV K a xs else Fs K a xs
section
variable {X:Cx} {tg:Expr}
def iRevB(K:W.Frag)(tl:TE):TI:=fun σ H R=>tl σ H fun x H1=>∃c a xs,x=.ref a/\SqB K c H1 a xs/\R (DE K c a xs) H1
theorem CT {l:Expr} {tl:TE} {p pos:Pos} (hg:Gl X "reversed") (hm:X.mg "reversed"=none) (hl:PE X l tl) (hs:starEach [l] X.env=[(false,eval l X.env)]:=by rfl) :
 PI X tg (.Call (.Name "reversed" p) [l] [] pos) (iRevB X.K tl):=by
 intro pins s σ H R I h;refine wpAny_Call_Name_kw (jh I hg hm qp ?_);refine PyProof.Rows.callWith_type1 ?_ hs rfl;rw[hs];show wpAny _ _ (spliced ((false,eval l X.env)::backTo pos (starEach [] X.env))) _ _ s;refine Calls.spliced_cons (thn (hl pins s σ H _ I h) fun u s1 ⟨x,H1,I1,r1,c,a,xs,ex,hq,q⟩=>?_);subst ex;cases r1;refine Calls.spliced_nil ?_;cases c with
 | true=>
   have hq:SqL X.K H1 a xs:=hq;have q:R (ItV X.K a xs) H1:=q;obtain⟨its,rv,p,hz⟩:=I1.list hq;have hlen:=rv.length;refine call_reversed_list p.isList ?_;have hr:(s1.heap.push (revObj a ((its.toArray.size:Int)-1))).IsRevIter s1.heap.objs.size a ((xs.length:Int)-1-((0:Nat):Int)):=by
    have e:(xs.length:Int)-1-((0:Nat):Int)=(its.toArray.size:Int)-1:=by rw[zP0];omega
    rw[e];exact⟨_,zW0 _ rfl,rfl,rfl⟩
   refine wpAny_pyIter_revIter hr ?_;refine⟨s1.heap.objs.size,[s1.heap.objs.size],_,_,H1,rfl,I1.kept (t':=s1.toks) fun b o e=>zO0 _ e,xR a _ xs,⟨zU0 _,hr⟩,fun b hb=>?_,q⟩;have e:b=s1.heap.objs.size:=by simpa using hb
   subst e;exact I1.fpOk (zG0 _) (I1.hok.fresh (zG0 _))
 | false=>
   have hq:SqT X.K H1 a xs:=hq;have q:R (Fs X.K a xs) H1:=q;obtain⟨its,rv,p,hz⟩:=I1.tuple hq;have hlen:=rv.length;refine mo p (by rw[zP0,←rv.length];exact hz) fun tk=>?_
   have hr:RevT (s1.heap.push { cls:=.type "reversed",data:=.fields #[.ref a,rawInt ((its.toArray.size:Int)-1)] }) s1.heap.objs.size a ((xs.length:Int)-1-((0:Nat):Int)):=by
    have e:(xs.length:Int)-1-((0:Nat):Int)=(its.toArray.size:Int)-1:=by rw[zP0];omega
    rw[e];exact zW0 _ rfl
   refine qV hr ?_;refine⟨s1.heap.objs.size,[s1.heap.objs.size],_,_,H1,rfl,I1.kept (t':=tk) fun b o e=>zO0 _ e,xS a _ xs,⟨zU0 _,hr⟩,fun b hb=>?_,q⟩;have e:b=s1.heap.objs.size:=by simpa using hb
   subst e;exact I1.fpOk (zG0 _) (I1.hok.fresh (zG0 _))
end
theorem BJ{K:W.Frag}{c:Bool}{a:Addr}{xs:List V}{g:TG}{tb:TS}{D:Ends}{σ:St}{H:Hp}(Pv:Nat->St->Hp->Prop)(h0:Pv 0 σ H)(hl:∀i σ H,i<=xs.length->Pv i σ H->SqB K c H a xs)
 (hs:∀i x σ H,i<xs.length->xs.reverse[i]?=some x->Pv i σ H->g x σ H fun σ2 H2=>tb { D with nx:=Pv (i+1),ct:=Pv (i+1),bk:=D.nx } σ2 H2) (hd:∀ σ H,Pv xs.length σ H->D.nx σ H) :
 ∃ W:Nat->Nat->St->Hp->Prop,(∃m,W 0 m σ H)/\∀i m σ H,W i m σ H ->
  ((DE K c a xs).stop i H/\D.nx σ H)∨((DE K c a xs).go i H/\∃N:St->Hp->Prop,(∀ σ' H',N σ' H'->∃m',m'<m/\W (i+1) m' σ' H')/\∀x H',(DE K c a xs).yld i H x H'->g x σ H' fun σ2 H2=>tb { D with nx:=N,ct:=N,bk:=D.nx } σ2 H2):=by
 cases c with
 | true=>exact BI Pv h0 hl hs hd
 | false=>
   refine⟨fun i m σ H=>m=xs.length-i/\i<=xs.length/\Pv i σ H,⟨xs.length,by simp,zU0 _,h0⟩,?_⟩;rintro i m σ H ⟨rfl,hi,p⟩;have q:=hl i σ H hi p
   by_cases hlt:i<xs.length
   . refine .inr ⟨⟨q,hlt⟩,Pv (i+1),fun σ' H' p'=>⟨xs.length-(i+1),by omega,rfl,hlt,p'⟩,fun x H' y=>?_⟩;obtain⟨e,ex⟩:=y;subst e;exact hs i x σ _ hlt ex p
   . have e:i=xs.length:=by omega
     subst e;exact .inl ⟨zG0 _,hd σ H p⟩
set_option maxRecDepth 100000
theorem nI:fillsNumberSlot (.type "tuple") "mul"=pure false:=
 PySem.fillsNumberSlot_seq (id:="tuple.__mul__") (r:=some (.builtin "tuple.__rmul__")) F.slot_tuple_mul.lookup (by decide +kernel) F.slot_tuple_rmul.lookup (by decide +kernel)
theorem rX:seqRepeat? (.type "tuple")=pure (some (.builtin "tuple.__mul__")):=by
 unfold seqRepeat?;rw[PySem.seqSlot_of (T:="tuple") (name:="__mul__") (id:="tuple.__mul__") F.slot_tuple_mul.lookup (by decide +kernel),PySem.seqSlot_of (T:="tuple") (name:="__rmul__") (id:="tuple.__rmul__") F.slot_tuple_rmul.lookup (by decide +kernel)];rfl
theorem qh(a:Int)(t:Tok)(l:Addr)(items:Array Value)(n:Nat)(dd:Option Addr)(sl:Array (Option Value)) :
 Meets (Builtin.«int.__rmul__» ⟨[.int a t,.ref l],[]⟩) (fun _ R s=>s.heap.get? l=some { cls:=.type "tuple",dict:=dd,data:=.seq items n,slots:=sl }/\R (.ok (.ret Value.notImplemented)) s):=
 .of_wp fun prog w A R s h=>by obtain⟨hp,g,d,tk,os⟩:=s;obtain⟨hl,h⟩:=h;wp_walk;exact⟨_,rfl,h⟩
theorem qw(l:Addr)(items:Array Value)(n:Nat)(dd:Option Addr)(sl:Array (Option Value))(u:Tok) :
 Meets (Builtin.«tuple.__mul__» ⟨[.ref l,.int 1 u],[]⟩) (fun _ R s=>s.heap.get? l=some { cls:=.type "tuple",dict:=dd,data:=.seq items n,slots:=sl }/\R (.ok (.ret (.ref l))) s):=
 .of_wp fun prog w A R s h=>by obtain⟨hp,g,d,tk,os⟩:=s;obtain⟨hl,h⟩:=h;wp_walk;exact⟨_,rfl,h⟩
theorem oZ(l:Addr)(v:Value)(n:Nat)(dd:Option Addr)(sl:Array (Option Value))(u:Tok) :
 Meets (Builtin.«tuple.__mul__» ⟨[.ref l,.int 0 u],[]⟩) (fun _ R s=>s.heap.get? l=some { cls:=.type "tuple",dict:=dd,data:=.seq #[v] n,slots:=sl }/\R (.ok (.ret (.ref s.heap.objs.size))) { s with heap:=s.heap.push { cls:=.type "tuple",data:=.seq #[] },toks:=s.toks }):=
 .of_wp fun prog w A R s h=>by obtain⟨hp,g,d,tk,os⟩:=s;obtain⟨hl,h⟩:=h;wp_walk;exact⟨_,rfl,h⟩
theorem pc(l:Addr)(v:Value)(n:Nat)(dd:Option Addr)(sl:Array (Option Value))(x:Int)(u:Tok)(h2:2<=x)(hx:x<=1000) :
 Meets (Builtin.«tuple.__mul__» ⟨[.ref l,.int x u],[]⟩) (fun _ R s=>s.heap.get? l=some { cls:=.type "tuple",dict:=dd,data:=.seq #[v] n,slots:=sl }/\R (.ok (.ret (.ref s.heap.objs.size))) { s with heap:=s.heap.push { cls:=.type "tuple",data:=.seq ((List.replicate x.toNat #[v]).foldl (·++·) #[]) },toks:=s.toks }):=
 .of_wp fun prog w A R s h=>by
  obtain ⟨hp,g,d,tk,os⟩:=s;obtain⟨hl,h⟩:=h;have c1:(decide (x < -(2 ^ 63))||decide (x≥2 ^ 63))=false:=by
   rw[decide_eq_false (by omega),decide_eq_false (by omega)];rfl
  have c2:(x==1)=false:=by simpa using(show x≠1 by omega)
  have c3:decide (x<=0)=false:=decide_eq_false (by omega);have c4:¬ ((1:Int)*x>(2 ^ 63-1) / 8):=by omega
  have c5:Builtin.Tuple.tupleTooMany (1*x)=false:=by
   unfold Builtin.Tuple.tupleTooMany
   have:(sizeLine:Int)≥1000:=by decide
   exact decide_eq_false (by omega)
  wp_walk
  refine wpAny_ite_split (fun hab=>by rw[c1]at hab;cases hab) (fun _=>?_);show wpAny _ _ (do let xs ←Builtin.Tuple.tupleItemsOf (Value.ref l);_) _ _ _
  wp_walk
  refine wpAny_ite_split (fun hab=>absurd hab c4) (fun _=>?_);refine wpAny_ite_split (fun hab=>by rw[show Builtin.Tuple.tupleTooMany (((#[v]:Array Value).size:Int)*x)=false from c5]at hab;cases hab) (fun _=>?_);have sz:((List.replicate x.toNat #[v]).foldl (·++·) #[]).size<=sizeLine:=by
   have e:(List.replicate x.toNat (#[v]:Array Value)).foldl (·++·) #[]=(List.replicate x.toNat [v]).flatten.toArray:=by
    have:=kA [v] x.toNat []
    rw[List.nil_append]at this;exact this
   rw[e,zP0,xq];exact dX (by show x.toNat*1<=1000;omega)
  refine zF0 (wpAny_newObj_type ?_ sz);exact zI0 ⟨_,rfl,h⟩
section
variable {X:Cx}
def Az(K:W.Frag):R2:=fun x y H Q=>∃a v k,x=.ref a/\y=.int k/\SqT K H a [v]/\0<=k/\k<=1000/\(k=1->Q (.ref a) H)/\(k≠1->∀p,H p=none->Q (.ref p) (upd H p (.tup (List.replicate k.toNat v))))
theorem sS{v:V}{u:Value}(r:RelV v u):∀n,Vals (List.replicate n v) (List.replicate n u)
 | 0=>.nil
 | n+1=>.cons r (sS r n)
theorem CV:OpR X (binaryOp .Mult) (Az X.K):=by
 intro pins s σ H x y vv u Q I rx ry h;obtain⟨a,v,k,rfl,rfl,hq,k0,k1,q1,q2⟩:=h;cases rx;obtain⟨t,rfl⟩:=ry;obtain⟨its,r,p,hz⟩:=I.tuple hq;obtain⟨w,rfl,rw'⟩:∃w,its=[w]/\RelV v w:=by
  cases r with
  | cons h1 h2=>cases h2;exact⟨_,rfl,h1⟩
 obtain ⟨o,e,hc,n,hd⟩:=p;obtain⟨cls,dd,data,sl⟩:=o;cases hc;cases hd;have e:s.heap.get? a=some { cls:=.type "tuple",dict:=dd,data:=.seq #[w] n,slots:=sl }:=e;refine wpAny_binaryOp_repeat_ref (T:="tuple") (U:="int") (by decide) ⟨_,e,rfl⟩ (fun s'=>typeIs_int s' k t) nI F.fills_int_mul F.slot_int_rmul rX F.slot_int_index.lookup
  (call_meets F.slot_int_rmul (typeIs_int s k t) F.entry_int_rmul (F.args_int_rmul_2 _ _) (qh k t a #[w] n dd sl)
   ⟨e,rfl,⟨_,e,rfl⟩,?_⟩)
 by_cases c1:k=1
 . subst c1;exact call_meets F.slot_tuple_mul ⟨_,e,rfl⟩ F.entry_tuple_mul (F.args_tuple_mul_2 _ _) (qw a #[w] n dd sl t) ⟨e,.ref a,H,I,rfl,q1 rfl⟩
 have laid:∀m:Nat,m<=1000->Inv X pins σ (upd H s.heap.objs.size (.tup (List.replicate m v))) { s with heap:=s.heap.push { cls:=.type "tuple",data:=.seq (List.replicate m w).toArray },toks:=s.toks }:=fun m hm=>
  I.laid (t':=s.toks) (o:=.tup (List.replicate m v)) (fun b ob q=>zO0 _ q) (zG0 _) ⟨by rw[List.length_replicate];exact dX hm,_,sS rw' m,IsTup.new _ _,_,zW0 _ rfl,rfl⟩
 by_cases c0:k=0
 . subst c0;exact call_meets F.slot_tuple_mul ⟨_,e,rfl⟩ F.entry_tuple_mul (F.args_tuple_mul_2 _ _) (oZ a w n dd sl t) ⟨e,.ref _,_,laid 0 (by decide),rfl,q2 (by decide) _ (I.hok.fresh (zG0 _))⟩
 . have ef:(List.replicate k.toNat (#[w]:Array Value)).foldl (·++·) #[]=(List.replicate k.toNat w).toArray:=by
    have:=kA [w] k.toNat []
    rw [List.nil_append]at this;rw[show(List.replicate k.toNat w)=(List.replicate k.toNat [w]).flatten by
     induction k.toNat with
     | zero=>rfl
     | succ m ih=>rw[List.replicate_succ,List.replicate_succ,List.flatten_cons,ih];rfl]
    exact this
   refine call_meets F.slot_tuple_mul ⟨_,e,rfl⟩ F.entry_tuple_mul (F.args_tuple_mul_2 _ _) (pc a w n dd sl k t (by omega) k1) ⟨e,?_⟩;rw[ef];exact⟨.ref _,_,laid k.toNat (by omega),rfl,q2 c1 _ (I.hok.fresh (zG0 _))⟩
theorem AT(K:W.Frag)(hK:X.K=K:=by rfl):OpR X (binaryOp .Mult) (Az K):=by subst hK;exact CV
end
def ItB(K:W.Frag)(c:Bool)(a:Addr):It:=if c=true then Itl K a else Itt K a
section
variable {X:Cx} {tg:Expr}
def iAny(K:W.Frag)(tl:TE):TI:=fun σ H R=>tl σ H fun x H1=>∃c a,x=.ref a/\(∃xs,SqB K c H1 a xs)/\R (ItB K c a) H1
theorem AJ{l:Expr}{tl:TE}(hl:PE X l tl):PI X tg l (iAny X.K tl):=by
 intro pins s σ H R I h;refine thn (hl pins s σ H _ I h) fun v s1 ⟨x,H1,I1,r1,q1⟩=>?_
 obtain⟨c,a,e,⟨xs,hq⟩,q⟩:=q1;subst e;cases r1;cases c with
 | true=>
   have hq:SqL X.K H1 a xs:=hq;have q:R (Itl X.K a) H1:=q;obtain⟨its,rv,p,hz⟩:=I1.list hq;refine wpAny_pyIter_list p.isList ?_;refine⟨s1.heap.objs.size,[s1.heap.objs.size],_,_,H1,rfl,I1.kept (t':=s1.toks) fun b o e=>zO0 _ e,qI a _,⟨_,zW0 _ rfl,rfl,rfl⟩,fun b hb=>?_,q⟩;have e:b=s1.heap.objs.size:=by simpa using hb
   subst e;exact I1.fpOk (zG0 _) (I1.hok.fresh (zG0 _))
 | false=>
   have hq:SqT X.K H1 a xs:=hq;have q:R (Itt X.K a) H1:=q;obtain⟨its,rv,p,hz⟩:=I1.tuple hq;refine wpAny_pyIter_tuple (show s1.heap.IsTuple a its.toArray from p) ?_;refine⟨s1.heap.objs.size,[s1.heap.objs.size],_,_,H1,rfl,I1.kept (t':=s1.toks) fun b o e=>zO0 _ e,oY a _,⟨_,zW0 _ rfl,rfl,rfl⟩,fun b hb=>?_,q⟩;have e:b=s1.heap.objs.size:=by simpa using hb
   subst e;exact I1.fpOk (zG0 _) (I1.hok.fresh (zG0 _))
end
section
variable {X:Cx}
def Ev:List V->Hp->VK->Prop:=fun xs H Q=>∃(a:Addr)(kvs:List (Key×V)),xs=[.ref a]/\H a=some (.dK kvs)/\∀p,H p=none->Q (.ref p) (upd H p (.dK kvs))
theorem wg:iz X (.type "dict") Ev:=by
 intro pins s σ H xs us Q I r h;obtain⟨a,kvs,rfl,ha,q⟩:=h;cases r with
 | cons ra rr=>
   cases rr;cases ra;exact BU I (.inl ha) fun p s' hp I'=>⟨.ref p,_,I',rfl,q p hp⟩
end
theorem wj:bootBuiltins ("dict":Str)=some (.type "dict"):=by decide +kernel
end L2
namespace Mine
def Pr(n:Int):Prop:=2<=n/\∀k:Int,2<=k->k<=1000->k*k<=n->n % k≠0
def nU(n:Int)(j:Int):Prop:=∀k:Int,2<=k->k<j->k*k<=n/\n % k≠0
theorem qL{a b:Int}(h0:0<=a)(h:a<=b):a*a<=b*b:=Int.mul_le_mul h h h0 (Int.le_trans h0 h)
theorem Ey{n k:Int}(h2:2<=n)(h0:2<=k)(u:nU n k)(h:n<k*k):Pr n:=by
 refine⟨h2,fun j j2 _ js=>?_⟩
 by_cases c:j<k
 . exact(u j j2 c).2
 . have:=qL (a:=k) (b:=j) (by omega) (by omega)
   omega
theorem Ez{n:Int}(h2:2<=n)(u:nU n 1001):Pr n:=⟨h2,fun j j2 j3 _=>(u j j2 (by omega)).2⟩
theorem Ew{n k:Int}(h0:2<=k)(h1:k<=1000)(hs:k*k<=n)(h:n % k=0):¬ Pr n:=fun p=>p.2 k h0 h1 hs h
theorem uM(n:Int):nU n 2:=fun k a b=>by omega
theorem xQ{n k:Int}(u:nU n k)(hs:k*k<=n)(h:n % k≠0):nU n (k+1):=fun j a b=>by
 by_cases c:j<k
 . exact u j a c
 . have e:j=k:=by omega
   subst e;exact⟨hs,h⟩
def prB(n:Int):Bool:=decide (2<=n)&&(List.range 999).all fun i=>decide (n<((i:Int)+2)*((i:Int)+2))||decide (n % ((i:Int)+2)≠0)
theorem CO{n:Int}(h:prB n=true):Pr n:=by
 unfold prB at h;rw[Bool.and_eq_true]at h;refine⟨of_decide_eq_true h.1,fun k k2 k3 ks=>?_⟩;have q:=List.all_eq_true.mp h.2 (k.toNat-2) (List.mem_range.mpr (by omega));have e:(((k.toNat-2:Nat):Int)+2)=k:=by omega
 rw[e,Bool.or_eq_true]at q;rcases q with q | q
 . have:=of_decide_eq_true q;omega
 . exact of_decide_eq_true q
theorem qQ:Pr 999983:=CO (by decide +kernel)
theorem Ex{p d:Int}(h:Pr p)(hp:p<1002001)(d0:1<d)(d1:d<p)(hd:d ∣ p):False:=by
 obtain ⟨e,he⟩:=hd;have e0:1<e:=by
  by_cases c:e<=1
  . have:d*e<=d*1:=qW0 c (by omega)
    omega
  . omega
 by_cases c:d<=e
 . have s:d*d<=p:=by
    have:=qW0 c (show(0:Int)<=d by omega)
    omega
   have t:d<=1000:=by
    by_cases c2:1001<=d
    . have:=qL (a:=1001) (b:=d) (by omega) c2
      omega
    . omega
   refine h.2 d (by omega) t s ?_;rw[he];exact Int.mul_emod_right d e
 . have c':e<=d:=by omega
   have s:e*e<=p:=by
    have:=Int.mul_le_mul_of_nonneg_right c' (show(0:Int)<=e by omega)
    omega
   have t:e<=1000:=by
    by_cases c2:1001<=e
    . have:=qL (a:=1001) (b:=e) (by omega) c2
      omega
    . omega
   refine h.2 e (by omega) t s ?_;rw[he,Int.mul_comm];exact Int.mul_emod_right e d
def Cop(x y:Int):Prop:=∀d:Int,0<d->d ∣ x->d ∣ y->d=1
theorem Fk{p a:Int}(h:Pr p)(hp:p<1002001)(a0:0<a)(a1:a<p):Cop p a:=fun d d0 h1 h2=>by
 have:=Int.le_of_dvd a0 h2
 by_cases c:1<d
 . exact(Ex h hp c (by omega) h1).elim
 . omega
structure Eu(a p former ff rest f:Int):Prop where
 r0:0<rest
 rp:rest<p
 fr:rest<former
 f0:0<=f
 f1:f<p
 g0:0<=ff
 g1:ff<p
 cop:Cop former rest
 d1:p ∣ former-a*ff
 d2:p ∣ rest-a*f
theorem ux{a p:Int}(h:Pr p)(hp:p<1002001)(a0:0<a)(a1:a<p):Eu a p p 0 (a % p) 1:=by
 have e:a % p=a:=qH0 (by omega) a1;rw[e];exact⟨a0,a1,a1,by omega,by omega,by omega,by omega,Fk h hp a0 a1,by rw[Int.mul_zero,Int.sub_zero];exact Int.dvd_refl p,by rw[Int.mul_one,Int.sub_self];exact Int.dvd_zero p⟩
theorem xC{a p former ff rest f:Int}(E:Eu a p former ff rest f)(h1:rest≠1):Eu a p rest f (former-former / rest*rest) ((ff-former / rest*f) % p)/\(former-former / rest*rest).toNat<rest.toNat:=by
 have r0:=E.r0;have rp:=E.rp;have em:former-former / rest*rest=former % rest:=by
  have:=Int.emod_add_mul_ediv former rest
  rw[Int.mul_comm]at this;omega
 have l0:0<=former % rest:=zX0 _ (by omega);have l1:former % rest<rest:=qA0 _ r0;have cop':Cop rest (former % rest):=fun d d0 x y=>by
  refine E.cop d d0 ?_ x
  have:=Int.emod_add_mul_ediv former rest
  rw[←this];exact Int.dvd_add y (Int.dvd_trans x (Int.dvd_mul_right _ _))
 have lz:former % rest≠0:=fun z=>by
  have:=cop' rest r0 (Int.dvd_refl _) (by rw[z];exact Int.dvd_zero _)
  exact h1 this
 rw [em];refine⟨⟨by omega,by omega,l1,zX0 _ (by omega),qA0 _ (by omega),E.f0,E.f1,cop',E.d2,?_⟩,by omega⟩;have q:p ∣ (former-a*ff)-former / rest*(rest-a*f):=Int.dvd_sub E.d1 (Int.dvd_trans E.d2 (Int.dvd_mul_left _ _));have q2:p ∣ (ff-former / rest*f)-(ff-former / rest*f) % p:=Int.dvd_self_sub_emod;have q3:p ∣ a*((ff-former / rest*f)-(ff-former / rest*f) % p):=Int.dvd_trans q2 (Int.dvd_mul_left _ _);have q4:=Int.dvd_add q q3;have e2:former-a*ff-former / rest*(rest-a*f)+a*(ff-former / rest*f-(ff-former / rest*f) % p)=former % rest-a*((ff-former / rest*f) % p):=by
  rw[←em];generalize former / rest=t;generalize (ff-t*f) % p=u;rw[Int.mul_sub,Int.mul_sub,Int.mul_sub,Int.mul_left_comm t a f];omega
 rw[e2]at q4;exact q4
theorem BL{a p former ff rest f:Int}(E:Eu a p former ff rest f)(h1:rest=1)(hp:1<p):0<f/\f<p/\f*a % p=1:=by
 subst h1;have d2:=E.d2;have f0:=E.f0;have hm:f*a % p=1:=by
  obtain ⟨c,hc⟩:=d2;have e:f*a=1+p*(-c):=by
   rw[Int.mul_comm f a,Int.mul_neg];omega
  rw[e,Int.add_mul_emod_self_left];exact qH0 (by omega) hp
 refine⟨?_,E.f1,hm⟩
 by_cases c:f=0
 . subst c;simp at hm
 . omega
end Mine
namespace Mine
def uJ(n d:Int):Prop:=∀k:Int,3<=k->k % 2=1->k<d->n % k≠0
theorem yK(n:Int):uJ n 3:=fun k a _ c=>by omega
theorem Bj{n d:Int}(u:uJ n d)(hd:d % 2=1)(h:n % d≠0):uJ n (d+2):=fun k a b c=>by
 by_cases e:k<d
 . exact u k a b e
 . have:k=d:=by omega
   subst this;exact h
theorem zc{n d:Int}(h3:3<=n)(h2:n % 2≠0)(h0:3<=d)(u:uJ n d)(hd:n<d*d):Pr n:=by
 refine⟨by omega,fun k k2 k3 ks z=>?_⟩;obtain⟨q,hq⟩:=Int.dvd_of_emod_eq_zero z
 by_cases e:k % 2=1
 . by_cases c:k<d
   . exact u k (by omega) e c z
   . have:=qL (a:=d) (b:=k) (by omega) (by omega)
     omega
 . obtain ⟨j,hj⟩:∃j,k=2*j:=⟨k / 2,by omega⟩
   rw[hj,Int.mul_assoc]at hq;omega
theorem ze{n:Int}(h2:n % 2=0)(h3:2<n):¬ Pr n:=fun p=>p.2 2 (by omega) (by omega) (by omega) h2
theorem zd{n d:Int}(h9:n<=999999)(h0:3<=d)(hs:d*d<=n)(h:n % d=0):¬ Pr n:=fun p=>by
 have t:d<=1000:=by
  by_cases c2:1001<=d
  . have:=qL (a:=1001) (b:=d) (by omega) c2
    omega
  . omega
 exact p.2 d (by omega) t hs h
theorem uV{n d:Int}(h9:n<=999999)(h0:3<=d)(hs:d*d<=n):d<=999:=by
 by_cases c2:1000<=d
 . have:=qL (a:=1000) (b:=d) (by omega) c2
   omega
 . omega
theorem CH{n d:Int}(h0:3<=d)(hs:d*d<=n):d<=n:=by
 have:=qW0 (show(1:Int)<=d by omega) (show(0:Int)<=d by omega)
 omega
end Mine
namespace Mine
def cv:Nat->List (List Int)
 | 0=>[[]]
 | n+1=>(cv n).flatMap fun s=>[s++[0],s++[1]]
theorem nL{α β:Type}(f g:α->β):∀l:List α,(l.flatMap fun s=>[f s,g s]).length=2*l.length
 | []=>rfl
 | x::r=>by
   have ih:=nL f g r;simp only[List.flatMap_cons,zM0,qF0,List.length_nil];omega
theorem jS:∀n:Nat,(cv n).length=2 ^ n
 | 0=>rfl
 | n+1=>by rw[cv,nL,jS n,Nat.pow_succ];omega
theorem gx:∀(n:Nat)(s:List Int),s∈cv n->s.length=n
 | 0,s,h=>by
   have:s=[]:=by simpa [cv]using h
   subst this;rfl
 | n+1,s,h=>by
   rw[cv,List.mem_flatMap]at h;obtain⟨t,ht,hs⟩:=h
   have:=gx n t ht
   simp at hs
   rcases hs with rfl | rfl <;> simp [this]
theorem nu{n:Nat}(h:n<=6):2 ^ n<=64:=Nat.pow_le_pow_right (by decide) h
end Mine
namespace Mine
def Pm(p:Int):Prop:=1<p/\∀a:Int,¬ p ∣ a->∃f:Int,p ∣ f*a-1
theorem BK{a p:Int}(hp:1<p):∀(n:Nat){former ff rest f:Int},rest.toNat<=n->Eu a p former ff rest f->∃g:Int,g*a % p=1
 | 0,former,ff,rest,f,hn,E=>by
   have:=E.r0
   omega
 | n+1,former,ff,rest,f,hn,E=>by
   by_cases c:rest=1
   . exact⟨f,(BL E c hp).2.2⟩
   . obtain⟨E2,lt⟩:=xC E c;exact BK hp n (by omega) E2
theorem pQ{p:Int}(h:Pr p)(hp:p<1002001):Pm p:=by
 have p1:1<p:=by have:=h.1;omega
 refine ⟨p1,fun a ha=>?_⟩;have a0:0<a % p:=by
  have:=zX0 a (show p≠0 by omega)
  by_cases c:a % p=0
  . exact absurd (Int.dvd_of_emod_eq_zero c) ha
  . omega
 have a1:a % p<p:=qA0 _ (by omega);obtain⟨g,hg⟩:=BK p1 _ (zG0 _) (ux h hp a0 a1);refine⟨g,?_⟩;have e1:g*a % p=1:=by rw[←hg,Int.mul_emod g (a % p),Int.emod_emod,←Int.mul_emod]
 have:=Int.emod_add_mul_ediv (g*a) p
 exact⟨g*a / p,by omega⟩
theorem Pm.mul{p a b:Int}(h:Pm p)(hd:p ∣ a*b)(ha:¬ p ∣ a):p ∣ b:=by
 obtain⟨f,k,hk⟩:=h.2 a ha;obtain⟨m,hm⟩:=hd;exact⟨f*m-k*b,by grind⟩
theorem Pm.not_mul{p a b:Int}(h:Pm p)(ha:¬ p ∣ a)(hb:¬ p ∣ b):¬ p ∣ a*b:=fun z=>hb (h.mul z ha)
def ch:Nat->Nat->Nat
 | _,0=>1
 | 0,_+1=>0
 | n+1,k+1=>ch n k+ch n (k+1)
theorem mh(n:Nat):ch n 0=1:=by cases n <;> rfl
theorem nO:∀(n k:Nat),n<k->ch n k=0
 | 0,k+1,_=>rfl
 | n+1,k+1,h=>by
   show ch n k+ch n (k+1)=0;rw[nO n k (by omega),nO n (k+1) (by omega)]
theorem DB(n:Nat):ch n n=1:=by
 induction n with
 | zero=>rfl
 | succ n ih=>
   show ch n n+ch n (n+1)=1;rw[ih,nO n (n+1) (by omega)]
theorem sN:∀(n k:Nat),(k+1)*ch (n+1) (k+1)=(n+1)*ch n k
 | 0,0=>rfl
 | 0,k+1=>by
   show(k+2)*(ch 0 (k+1)+ch 0 (k+2))=1*ch 0 (k+1);rw[nO 0 (k+1) (by omega),nO 0 (k+2) (by omega)]
   simp
 | n+1,0=>by
   have h:=sN n 0;rw[mh n]at h;show(0+1)*(ch (n+1) 0+ch (n+1) (0+1))=(n+1+1)*ch (n+1) 0;rw[mh (n+1)];omega
 | n+1,k+1=>by
   have h1:=sN n k;have h2:=sN n (k+1);show(k+2)*(ch (n+1) (k+1)+ch (n+1) (k+2))=(n+2)*ch (n+1) (k+1);have e:ch (n+1) (k+1)=ch n k+ch n (k+1):=rfl
   grind
def sm(f:Nat->Int):Nat->Int
 | 0=>0
 | n+1=>sm f n+f n
theorem pz{f g:Nat->Int}:∀n,(∀k,k<n->f k=g k)->sm f n=sm g n
 | 0,_=>rfl
 | n+1,h=>by
   show sm f n+f n=sm g n+g n;rw[pz n (fun k hk=>h k (by omega)),h n (by omega)]
theorem Ag(f g:Nat->Int):∀n,sm (fun k=>f k+g k) n=sm f n+sm g n
 | 0=>rfl
 | n+1=>by
   show sm (fun k=>f k+g k) n+(f n+g n)=(sm f n+f n)+(sm g n+g n)
   rw[Ag f g n];omega
theorem Ae(c:Int)(f:Nat->Int):∀n,sm (fun k=>c*f k) n=c*sm f n
 | 0=>by simp [sm]
 | n+1=>by
   show sm (fun k=>c*f k) n+c*f n=c*(sm f n+f n)
   rw[Ae c f n]
   grind
theorem lu(f:Nat->Int):∀n,sm f (n+1)=f 0+sm (fun k=>f (k+1)) n
 | 0=>by simp [sm]
 | n+1=>by
   show sm f (n+1)+f (n+1)=f 0+(sm (fun k=>f (k+1)) n+f (n+1))
   rw[lu f n];omega
theorem Af{p:Int}{f:Nat->Int}:∀n,(∀k,k<n->p ∣ f k)->p ∣ sm f n
 | 0,_=>⟨0,by simp [sm]⟩
 | n+1,h=>Int.dvd_add (Af n fun k hk=>h k (by omega)) (h n (by omega))
theorem Ec(a:Int):∀n:Nat,(a+1) ^ n=sm (fun k=>(ch n k:Int)*a ^ k) (n+1)
 | 0=>by simp [sm,ch]
 | n+1=>by
   have ih:=Ec a n;rw[Int.pow_succ,ih,lu (fun k=>((ch (n+1) k:Nat):Int)*a ^ k) (n+1)];have e1:sm (fun k=>((ch (n+1) (k+1):Nat):Int)*a ^ (k+1)) (n+1)=a*sm (fun k=>(ch n k:Int)*a ^ k) (n+1)+sm (fun k=>(ch n (k+1):Int)*a ^ (k+1)) (n+1):=by
    rw[←Ae,←Ag];refine pz _ fun k _=>?_
    have:ch (n+1) (k+1)=ch n k+ch n (k+1):=rfl
    rw[this,Int.natCast_add,Int.pow_succ]
    grind
   have e2:sm (fun k=>(ch n k:Int)*a ^ k) (n+1)=1+sm (fun k=>(ch n (k+1):Int)*a ^ (k+1)) (n+1):=by
    rw[lu]
    have:sm (fun k=>(ch n (k+1):Int)*a ^ (k+1)) (n+1)=sm (fun k=>(ch n (k+1):Int)*a ^ (k+1)) n:=by
     show _+(ch n (n+1):Int)*a ^ (n+1)=_;rw[nO n (n+1) (by omega)]
     simp
    rw[this,mh]
    simp
   rw[e1,mh]
   grind
theorem Fl{p:Int}(h:Pm p){n k:Nat}(hn:(n:Int)+1=p)(hk:k<n):p ∣ ((ch (n+1) (k+1):Nat):Int):=by
 have e:((k:Int)+1)*((ch (n+1) (k+1):Nat):Int)=p*((ch n k:Nat):Int):=by
  have:=sN n k
  rw[←hn];exact_mod_cast this
 refine h.mul (a:=(k:Int)+1) ⟨_,e⟩ fun hd=>?_
 have:=Int.le_of_dvd (by omega) hd
 omega
theorem ql{p:Int}(h:Pm p):∀a:Nat,p ∣ (a:Int) ^ p.toNat-a
 | 0=>by
   have:p.toNat≠0:=by have:=h.1;omega
   simp [Int.zero_pow this]
 | a+1=>by
   have ih:=ql h a;obtain⟨n,hn⟩:∃n:Nat,p.toNat=n+1:=⟨p.toNat-1,by have:=h.1;omega⟩
   have hp:(n:Int)+1=p:=by have:=h.1;omega
   rw [hn]at ih ⊢;have b:=Ec (a:Int) (n+1);have e:sm (fun k=>(ch (n+1) k:Int)*(a:Int) ^ k) (n+1+1)=sm (fun k=>(ch (n+1) (k+1):Int)*(a:Int) ^ (k+1)) n+(a:Int) ^ (n+1)+1:=by
    rw[lu];show _+(sm _ n+(ch (n+1) (n+1):Int)*(a:Int) ^ (n+1))=_;rw[DB,mh]
    simp
    omega
   have d:p ∣ sm (fun k=>(ch (n+1) (k+1):Int)*(a:Int) ^ (k+1)) n:=Af n fun k hk=>Int.dvd_mul_of_dvd_left (Fl h hp hk)
   obtain⟨u,hu⟩:=ih;obtain⟨v,hv⟩:=d;refine⟨u+v,?_⟩;rw[Int.natCast_add];show((a:Int)+1) ^ (n+1)-((a:Int)+1)=_;rw[b,e]
   grind
theorem Fa{p a:Int}(h:Pm p)(ha:¬ p ∣ a)(a0:0<=a):p ∣ a*a ^ (p-2).toNat-1:=by
 obtain⟨n,hn⟩:∃n:Nat,p.toNat=n+2:=⟨p.toNat-2,by have:=h.1;omega⟩
 have e:(p-2).toNat=n:=by omega
 have f:=ql h a.toNat;rw[Int.toNat_of_nonneg a0,hn]at f;rw[e];have g:a ^ (n+2)-a=a*(a*a ^ n-1):=by
  rw[Int.pow_succ,Int.pow_succ]
  grind
 rw[g]at f;exact h.mul f ha
def IsPoly:Nat->(Int->Int)->Prop
 | 0,f=>∀x,f x=0
 | n+1,f=>∃(a:Int)(g:Int->Int),IsPoly n g/\∀x,f x=a+x*g x
theorem IsPoly.congr:∀{n:Nat}{f g:Int->Int},IsPoly n f->(∀x,g x=f x)->IsPoly n g
 | 0,_,_,h,e=>fun x=>(e x).trans (h x)
 | _+1,_,_,⟨a,k,hk,h⟩,e=>⟨a,k,hk,fun x=>(e x).trans (h x)⟩
theorem IsPoly.zero:∀n:Nat,IsPoly n fun _=>0
 | 0=>fun _=>rfl
 | n+1=>⟨0,fun _=>0,IsPoly.zero n,fun x=>by simp⟩
theorem IsPoly.up:∀{n:Nat}{f:Int->Int},IsPoly n f->IsPoly (n+1) f
 | 0,f,h=>⟨0,fun _=>0,fun _=>rfl,fun x=>by rw[h x];simp⟩
 | n+1,f,⟨a,g,hg,h⟩=>⟨a,g,hg.up,h⟩
theorem IsPoly.upTo{n:Nat}{f:Int->Int}(h:IsPoly n f):∀m,n<=m->IsPoly m f:=fun m hm=>by
 obtain⟨k,rfl⟩:∃k,m=n+k:=⟨m-n,by omega⟩
 clear hm
 induction k with
 | zero=>exact h
 | succ k ih=>exact ih.up
theorem IsPoly.add:∀{n:Nat}{f g:Int->Int},IsPoly n f->IsPoly n g->IsPoly n fun x=>f x+g x
 | 0,f,g,h,k=>fun x=>by show f x+g x=0;rw[h x,k x];rfl
 | n+1,f,g,⟨a,u,hu,h⟩,⟨b,v,hv,k⟩=>⟨a+b,fun x=>u x+v x,hu.add hv,fun x=>by show f x+g x=a+b+x*(u x+v x);rw[h x,k x];grind⟩
theorem IsPoly.mul(c:Int):∀{n:Nat}{f:Int->Int},IsPoly n f->IsPoly n fun x=>c*f x
 | 0,f,h=>fun x=>by show c*f x=0;rw[h x];simp
 | n+1,f,⟨a,u,hu,h⟩=>⟨c*a,fun x=>c*u x,hu.mul c,fun x=>by show c*f x=c*a+x*(c*u x);rw[h x];grind⟩
theorem IsPoly.lin{n:Nat}{f:Int->Int}(h:IsPoly n f)(r:Int):IsPoly (n+1) fun x=>(x-r)*f x:=by
 have h1:IsPoly (n+1) fun x=>x*f x:=⟨0,f,h,fun x=>by simp⟩
 exact(h1.add (h.up.mul (-r))).congr fun x=>by grind
theorem IsPoly.div:∀{n:Nat}{f:Int->Int},IsPoly (n+1) f->∀r:Int,∃q,IsPoly n q/\∀x,f x-f r=(x-r)*q x
 | 0,f,⟨a,g,hg,h⟩,r=>⟨fun _=>0,fun _=>rfl,fun x=>by rw[h x,h r,hg x,hg r];simp⟩
 | n+1,f,⟨a,g,hg,h⟩,r=>by
   obtain⟨q,hq,e⟩:=IsPoly.div hg r;refine⟨fun x=>g x+r*q x,hg.add (hq.up.mul r),fun x=>?_⟩
   have:=e x
   rw[h x,h r]
   grind
theorem IsPoly.roots{p:Int}(hp:Pm p):∀{n:Nat}{f:Int->Int}(rs:List Int),IsPoly n f->rs.length=n->rs.Pairwise (fun a b=>¬ p ∣ b-a)->(∀r∈rs,p ∣ f r)->∀x,p ∣ f x
 | 0,f,_,h,_,_,_,x=>⟨0,by rw[h x];simp⟩
 | n+1,f,[],_,hl,_,_,_=>by simp at hl
 | n+1,f,r::rs,h,hl,hd,hr,x=>by
   obtain ⟨q,hq,e⟩:=h.div r;have hd':=List.pairwise_cons.mp hd;have z:=IsPoly.roots hp rs hq (by simpa using hl) hd'.2 (fun s hs=>by
    have h1:p ∣ (s-r)*q s:=by
     rw[←e s];exact Int.dvd_sub (hr s (qR0 _ hs)) (hr r qP0)
    exact hp.mul h1 (hd'.1 s hs)) x
   have:f x=f r+(x-r)*q x:=by have:=e x;omega
   rw[this];exact Int.dvd_add (hr r qP0) (Int.dvd_mul_of_dvd_right z)
end Mine
namespace Mine
def pr(g:Nat->Int):Nat->Int
 | 0=>1
 | n+1=>pr g n*g n
theorem pM{f g:Nat->Int}:∀n,(∀k,k<n->f k=g k)->pr f n=pr g n
 | 0,_=>rfl
 | n+1,h=>by
   show pr f n*f n=pr g n*g n;rw[pM n (fun k hk=>h k (by omega)),h n (by omega)]
theorem pK(g:Nat->Int):∀n,pr g (n+1)=g 0*pr (fun k=>g (k+1)) n
 | 0=>by simp [pr]
 | n+1=>by
   show pr g (n+1)*g (n+1)=g 0*(pr (fun k=>g (k+1)) n*g (n+1))
   rw[pK g n,Int.mul_assoc]
def px(x:Int)(i:Nat):Nat->Int
 | 0=>1
 | n+1=>if n=i then px x i n else px x i n*(x-n)
theorem wY(i:Nat):∀n,IsPoly (if i<n then n else n+1) fun x=>px x i n
 | 0=>⟨1,fun _=>0,fun _=>rfl,fun x=>by simp [px]⟩
 | n+1=>by
   have ih:=wY i n
   by_cases c:n=i
   . subst c;rw[zA0 (qU0 n)]at ih;rw[zB0 (Nat.lt_succ_self n)];exact ih.congr fun x=>by simp [px]
   . have e:∀x,px x i (n+1)=(x-n)*px x i n:=fun x=>by
      show(if n=i then px x i n else px x i n*(x-n))=_;rw[zA0 c,Int.mul_comm]
     by_cases c2:i<n
     . rw[zB0 c2]at ih;rw[zB0 (by omega)];exact(ih.lin n).congr e
     . rw[zA0 c2]at ih;rw[zA0 (by omega)];exact(ih.lin n).congr e
theorem rY{k i:Nat}(h:k≠i):∀n,k<n->px (k:Int) i n=0
 | n+1,hk=>by
   show(if n=i then px (k:Int) i n else px (k:Int) i n*((k:Int)-n))=0
   by_cases c:n=i
   . rw[zB0 c];exact rY h n (by omega)
   . rw [zA0 c]
     by_cases c2:k=n
     . subst c2
       simp
     . rw [rY h n (by omega)]
       simp
def lag(v u:Nat->Int)(n:Nat)(x:Int):Int:=sm (fun i=>v i*px x i n*u i) n
theorem Cy{n m:Nat}{f:Nat->Int->Int}:(∀i,i<m->IsPoly n (f i))->IsPoly n fun x=>sm (fun i=>f i x) m:=by
 induction m with
 | zero=>exact fun _=>IsPoly.zero n
 | succ m ih=>exact fun h=>(ih fun i hi=>h i (by omega)).add (h m (by omega))
theorem lS(v u:Nat->Int)(n:Nat):IsPoly n (lag v u n):=Cy fun i hi=>by
 have h:=wY i n;rw[zB0 hi]at h;exact(h.mul (v i*u i)).congr fun x=>by grind
theorem Ad{f:Nat->Int}{k:Nat}:∀n,k<n->(∀i,i<n->i≠k->f i=0)->sm f n=f k
 | n+1,hk,h=>by
   show sm f n+f n=f k
   by_cases c:k=n
   . subst c;have z:sm f k=0:=by
      have:sm f k=sm (fun _=>0) k:=pz k fun i hi=>h i (by omega) (by omega)
      rw[this];clear this h hk
      induction k with
      | zero=>rfl
      | succ k ih=>show sm (fun _=>0) k+0=0;rw[ih];rfl
     rw[z]
     simp
   . rw [Ad n (by omega) (fun i hi=>h i (by omega)),h n (by omega) (by omega)]
     simp
def Wgt(p:Int)(n:Nat)(u:Nat->Int):Prop:=∀i,i<n->p ∣ px (i:Int) i n*u i-1
theorem kY{p:Int}{v u:Nat->Int}{n k:Nat}(hu:Wgt p n u)(hk:k<n):p ∣ lag v u n k-v k:=by
 unfold lag;rw[Ad n hk fun i hi hne=>by rw[rY (Ne.symm hne) n hk];simp];obtain⟨m,hm⟩:=hu k hk;exact⟨v k*m,by grind⟩
theorem far{p:Int}{n:Nat}(hn:(n:Int)<=p):((List.range n).map fun k:Nat=>(k:Int)).Pairwise fun a b=>¬ p ∣ b-a:=by
 rw[List.pairwise_map];refine List.Pairwise.imp_of_mem (fun{a b} ha hb h=>?_) List.pairwise_lt_range;intro d
 have:=Int.le_of_dvd (by omega) d
 have hb':=List.mem_range.mp hb;omega
theorem alike{p:Int}(hp:Pm p){n:Nat}(hn:(n:Int)<=p){f g:Int->Int}(hf:IsPoly n f)(hg:IsPoly n g)(h:∀k:Nat,k<n->p ∣ f k-g k)(x:Int):p ∣ f x-g x:=by
 have hd:IsPoly n fun x=>f x-g x:=(hf.add (hg.mul (-1))).congr fun x=>by grind
 refine hd.roots hp ((List.range n).map fun k:Nat=>(k:Int)) (by simp) (far hn) (fun r hr=>?_) x;obtain⟨k,hk,rfl⟩:=List.mem_map.mp hr;exact h k (List.mem_range.mp hk)
theorem ul{p:Int}(hp:Pm p){n:Nat}(hn:(n:Int)<=p){v u:Nat->Int}{P:Int->Int}(hu:Wgt p n u)(hP:IsPoly n P)(h:∀k:Nat,k<n->p ∣ v k-P k)(x:Int):p ∣ lag v u n x-P x:=
 alike hp hn (lS v u n) hP (fun k hk=>by
  have h1:=kY (v:=v) hu hk;have h2:=h k hk
  have:lag v u n k-P k=(lag v u n k-v k)+(v k-P k):=by omega
  rw[this];exact Int.dvd_add h1 h2) x
theorem BA{p:Int}(hp:Pm p){n:Nat}(hn:(n:Int)<=p){v u u':Nat->Int}(hu:Wgt p n u)(hu':Wgt p n u')(x:Int):p ∣ lag v u n x-lag v u' n x:=
 ul hp hn hu (lS v u' n) (fun k hk=>by
  obtain⟨m,hm⟩:=kY (v:=v) hu' hk;exact⟨-m,by grind⟩) x
theorem pH(x:Int)(i:Nat):∀m,px x i (i+1+m)=pr (fun j=>x-j) i*pr (fun j=>x-(i+1+j:Nat)) m
 | 0=>by
   have h:∀k,k<=i->px x i k=pr (fun j=>x-j) k:=fun k=>by
    induction k with
    | zero=>exact fun _=>rfl
    | succ k ih=>
      intro hk;show(if k=i then px x i k else px x i k*(x-k))=pr (fun j=>x-j) k*(x-k)
      rw[zA0 (by omega),ih (by omega)]
   show(if i=i then px x i i else _)=_*1;rw[zB0 rfl,h i (zG0 _),Int.mul_one]
 | m+1=>by
   show(if i+1+m=i then _ else px x i (i+1+m)*(x-(i+1+m:Nat)))=pr (fun j=>x-j) i*(pr (fun j=>x-(i+1+j:Nat)) m*(x-(i+1+m:Nat)))
   rw[zA0 (by omega),pH x i m,Int.mul_assoc]
theorem wZ(x:Int)(i:Nat):∀m,pr (fun j=>x-(i+m:Nat)+j) m=pr (fun j=>x-(i+1+j:Nat)) m
 | 0=>rfl
 | m+1=>by
   rw[pK];show _=pr (fun j=>x-(i+1+j:Nat)) m*(x-(i+1+m:Nat))
   have e:pr (fun k=>x-(i+(m+1):Nat)+(k+1:Nat)) m=pr (fun j=>x-(i+m:Nat)+j) m:=pM m fun k _=>by omega
   rw[e,wZ x i m,Int.mul_comm]
   congr 1
   omega
def fac:Nat->Int
 | 0=>1
 | n+1=>fac n*((n:Int)+1)
theorem uv:∀n:Nat,pr (fun j=>(n:Int)-j) n=fac n
 | 0=>rfl
 | n+1=>by
   rw[pK];have e:pr (fun k=>((n+1:Nat):Int)-(k+1:Nat)) n=pr (fun j=>(n:Int)-j) n:=pM n fun k _=>by omega
   rw[e,uv n];show((n+1:Nat)-(0:Nat):Int)*fac n=fac n*((n:Int)+1)
   rw[Int.mul_comm]
   congr 1
theorem xB(i:Nat):∀m:Nat,pr (fun j=>(i:Int)-(i+1+j:Nat)) m=(-1) ^ m*fac m
 | 0=>rfl
 | m+1=>by
   show pr _ m*((i:Int)-(i+1+m:Nat))=(-1) ^ (m+1)*(fac m*((m:Int)+1))
   rw[xB i m,Int.pow_succ]
   have:((i:Int)-(i+1+m:Nat))=-((m:Int)+1):=by omega
   rw[this]
   grind
theorem AC(i m:Nat):px (i:Int) i (i+1+m)=fac i*((-1) ^ m*fac m):=by rw[pH,uv,xB]
theorem uu:∀(k d:Nat),fac d*pr (fun j=>((d+k:Nat):Int)-j) k=fac (d+k)
 | 0,d=>by simp [pr]
 | k+1,d=>by
   have ih:=uu k (d+1);rw[show d+1+k=d+(k+1) by omega]at ih;rw[←ih];show fac d*(pr (fun j=>((d+(k+1):Nat):Int)-j) k*(((d+(k+1):Nat):Int)-k))=fac d*((d:Int)+1)*pr (fun j=>((d+(k+1):Nat):Int)-j) k
   have:(((d+(k+1):Nat):Int)-k)=(d:Int)+1:=by omega
   rw[this]
   grind
theorem sM{p:Int}(hp:Pm p):∀n:Nat,(n:Int)<p->¬ p ∣ fac n
 | 0,_=>fun d=>by
   have:=Int.le_of_dvd (by decide) (show p ∣ 1 from d)
   have:=hp.1
   omega
 | n+1,h=>hp.not_mul (sM hp n (by omega)) fun d=>by
   have:=Int.le_of_dvd (by omega) d
   omega
theorem wB(m:Nat):((-1:Int) ^ m)*(-1) ^ m=1:=by
 induction m with
 | zero=>rfl
 | succ m ih=>rw[Int.pow_succ];grind
theorem EB{p:Int}(hp:Pm p){n i:Nat}(hn:(n:Int)<=p)(hi:i<n):¬ p ∣ px (i:Int) i n:=by
 obtain⟨m,rfl⟩:∃m,n=i+1+m:=⟨n-(i+1),by omega⟩
 rw[AC];refine hp.not_mul (sM hp i (by omega)) (hp.not_mul (fun d=>?_) (sM hp m (by omega)));obtain⟨k,hk⟩:=d;have s:=wB m
 have:p ∣ 1:=⟨k*(-1) ^ m,by grind⟩
 have:=Int.le_of_dvd (by decide) this
 have:=hp.1
 omega
theorem Cl{p:Int}{last:Nat}{sh:Nat->Int}(h:∀k,k<=last->p ∣ sh k*fac k-1):Wgt p (last+1) fun i=>(-1) ^ (last-i)*(sh i*sh (last-i)):=fun i hi=>by
 obtain⟨m,rfl⟩:∃m,last=i+m:=⟨last-i,by omega⟩
 show p ∣ px (i:Int) i (i+m+1)*((-1) ^ (i+m-i)*(sh i*sh (i+m-i)))-1;rw[show i+m+1=i+1+m by omega,AC,show i+m-i=m by omega];obtain⟨a,ha⟩:=h i (by omega);obtain⟨b,hb⟩:=h m (by omega);have s:=wB m;refine⟨a*(sh m*fac m)+b,?_⟩;have e:fac i*((-1) ^ m*fac m)*((-1) ^ m*(sh i*sh m))=((-1) ^ m*(-1) ^ m)*((sh i*fac i)*(sh m*fac m)):=by grind
 rw[e,s]
 grind
end Mine
namespace Mine
theorem IsPoly.prod:∀{m n:Nat}{f g:Int->Int},IsPoly (m+1) f->IsPoly (n+1) g->IsPoly (m+n+1) fun x=>f x*g x
 | 0,n,f,g,⟨a,u,hu,e⟩,hg=>by
   rw[Nat.zero_add];exact(hg.mul a).congr fun x=>by rw[e x,hu x];simp
 | m+1,n,f,g,⟨a,u,hu,e⟩,hg=>by
   have ih:=IsPoly.prod hu hg;have h1:IsPoly (m+n+1+1) fun x=>x*(u x*g x):=⟨0,_,ih,fun x=>by simp⟩
   have h2:IsPoly (m+n+1+1) fun x=>a*g x:=(hg.mul a).upTo _ (by omega)
   rw[show m+1+n+1=m+n+1+1 by omega];exact(h2.add h1).congr fun x=>by rw[e x];grind
theorem IsPoly.const(c:Int)(n:Nat):IsPoly (n+1) fun _=>c:=⟨c,fun _=>0,IsPoly.zero n,fun x=>by simp⟩
theorem IsPoly.self:IsPoly 2 fun x=>x:=⟨0,fun _=>1,IsPoly.const 1 0,fun x=>by simp⟩
theorem qm(p x:Int):p ∣ x % p-x:=⟨-(x / p),by
 have:=Int.emod_add_mul_ediv x p
 rw[Int.mul_neg];omega⟩
end Mine
namespace Mine
open PySem L2
theorem gI{us:List Value}(h:us.length=1):∃a,us=[a]:=by
 cases us with
 | nil=>cases h
 | cons a r=>
   cases r with
   | nil=>exact⟨a,rfl⟩
   | cons _ _=>cases h
theorem yR{us:List Value}{n:Nat}(h:us.length=n+1):∃a r,us=a::r/\r.length=n:=by
 cases us with
 | nil=>cases h
 | cons a r=>exact⟨a,r,rfl,Nat.succ.inj h⟩
theorem fF{us:List Value}(h:us.length=2):∃a b,us=[a,b]:=by
 obtain⟨a,r,rfl,h1⟩:=yR h;obtain⟨b,rfl⟩:=gI h1;exact⟨a,b,rfl⟩
theorem jG{us:List Value}(h:us.length=3):∃a b c,us=[a,b,c]:=by
 obtain⟨a,r,rfl,h1⟩:=yR h;obtain⟨b,c,rfl⟩:=fF h1;exact⟨a,b,c,rfl⟩
theorem qe{us:List Value}(h:us.length=4):∃a b c d,us=[a,b,c,d]:=by
 obtain⟨a,r,rfl,h1⟩:=yR h;obtain⟨b,c,d,rfl⟩:=jG h1;exact⟨a,b,c,d,rfl⟩
theorem EL{us:List Value}(h:us.length=5):∃a b c d e,us=[a,b,c,d,e]:=by
 obtain⟨a,r,rfl,h1⟩:=yR h;obtain⟨b,c,d,e,rfl⟩:=qe h1;exact⟨a,b,c,d,e,rfl⟩
theorem len6{us:List Value}(h:us.length=6):∃a b c d e f,us=[a,b,c,d,e,f]:=by
 obtain⟨a,r,rfl,h1⟩:=yR h;obtain⟨b,c,d,e,f,rfl⟩:=EL h1;exact⟨a,b,c,d,e,f,rfl⟩
theorem len7{us:List Value}(h:us.length=7):∃a b c d e f g,us=[a,b,c,d,e,f,g]:=by
 obtain⟨a,r,rfl,h1⟩:=yR h;obtain⟨b,c,d,e,f,g,rfl⟩:=len6 h1;exact⟨a,b,c,d,e,f,g,rfl⟩
def top(i:Nat):Stmt:=PySem.Challenge.pw_asktally_k85_whole_one_number_once.main.body.getD i (.Pass ⟨0,0,0,0⟩)
abbrev gj:Stmt:=top 12
abbrev dR:Stmt:=top 13
abbrev eK:Stmt:=top 14
abbrev fQ:Stmt:=top 16
abbrev eR:Stmt:=top 17
abbrev df:Stmt:=top 18
abbrev fY:Stmt:=top 19
abbrev bO:Stmt:=top 20
abbrev du:Stmt:=top 22
abbrev eF:Stmt:=top 23
abbrev iJ:Stmt:=top 24
abbrev gn:Stmt:=top 25
abbrev di:Stmt:=top 26
abbrev fX:Stmt:=top 27
abbrev eD:Stmt:=top 28
abbrev eT:Stmt:=top 31
abbrev eQ:Stmt:=top 33
abbrev fV:Stmt:=top 34
abbrev eC:Stmt:=top 38
abbrev fZ:Stmt:=top 39
abbrev gV:Stmt:=top 40
abbrev jV:Stmt:=top 45
abbrev cU:Stmt:=top 46
abbrev dS:Stmt:=top 48
abbrev iE:Stmt:=top 49
abbrev gT:Stmt:=top 52
abbrev cu:Stmt:=top 53
abbrev eO:Stmt:=top 54
abbrev eA:Stmt:=top 56
abbrev dj:Stmt:=top 57
abbrev eP:Stmt:=top 61
abbrev cV:Stmt:=top 62
abbrev dO:Stmt:=top 63
abbrev dP:Stmt:=top 64
abbrev eI:Stmt:=top 65
abbrev iI:Stmt:=top 67
abbrev iF:Stmt:=top 68
abbrev bu:Stmt:=top 69
abbrev hV:Stmt:=top 70
abbrev dA:Stmt:=top 71
abbrev iG:Stmt:=top 72
abbrev dQ:Stmt:=top 73
abbrev gU:Stmt:=top 74
abbrev iH:Stmt:=top 75
abbrev eJ:Stmt:=top 76
abbrev gi:Stmt:=top 77
abbrev jZ:Stmt:=top 78
abbrev gg:Stmt:=top 79
abbrev lC:Stmt:=top 80
section
variable {P:Program} {w:World} {K:W.Frag} {mg:Str->Option Value} {base:Heap}
abbrev dq:Stmt:=top 30
abbrev jy:Stmt:=top 36
abbrev jY:Stmt:=top 43
abbrev rT:Stmt:=top 60
structure Bl(mg:Str->Option Value):Prop where
 len:mg "len"=none
 range:mg "range"=none
 isinstance:mg "isinstance"=none
 int:mg "int"=none
 bool:mg "bool"=none
 list:mg "list"=none
 tuple:mg "tuple"=none
 max:mg "max"=none
 min:mg "min"=none
 reversed:mg "reversed"=none
 enumerate:mg "enumerate"=none
 sum:mg "sum"=none
 all:mg "all"=none
 zip:mg "zip"=none
 dict:mg "dict"=none
theorem xA(z:Int):0<=z % 2147483646+1/\z % 2147483646+1<=2147483646:=by omega
theorem gK:FnScope ["_law_script","_law_k","_law_cell","_law_own"] ["_law_script","_law_k"] (ag iI):=⟨rfl,rfl,rfl,by decide +kernel,rfl,by decide +kernel,by decide +kernel⟩
theorem yB {f:Addr} {fd:FuncData} (F:Fun K "_law_feed" "_law_feed" iI f fd) (hlen:mg "len"=none):FnOk P w K mg base CX0 1 f fd ["_law_script","_law_k"] (zZ K):=by
 refine F.ok gK (fun vs H Q E h=>?_) (fun cdv A outer s H vs Q E hr h=>?_)
 . obtain⟨a,ns,k,rfl,_⟩:=h;rfl
 obtain ⟨a,ns,k,rfl,hS,h63,k0,k1,q⟩:=h;refine⟨_,(ad (ao (i:=2) gK.nd rfl (Or.inl rfl) (aj aU (aj cq af (pv 1)) af))
  (ad (aS (am gO (pv 1) (aJ aE rfl hlen PySem.boot_len (aa (pv 0) ae)) (aq _)) (ah (ao (i:=2) gK.nd rfl (Or.inl rfl) (aP ix_list (pv 0) (pv 1) (fun _ _=>rfl)))) (ah (aS (am ic (aJ aE rfl hlen PySem.boot_len (aa (pv 0) ae)) af (aq _)) (ah (ao (i:=2) gK.nd rfl (Or.inl rfl) (aj aU (aj cq (aj bd (aP ix_list (pv 0) (aj bd (pv 1) (aJ aE rfl hlen PySem.boot_len (aa (pv 0) ae))) (fun _ _=>rfl)) af) af) (aj cq af (pv 1))))) aI)))
  (ad (ao (i:=3) gK.nd rfl (Or.inl rfl) af)
  (ad (aS (am DV (pv 2) (aj ED af af) (aq _)) (ah (ao (i:=3) gK.nd rfl (Or.inl rfl) (pv 2))) aI)
  (ah (az (cw (aa (pv 3) (aa (aj aU (aj bd (aj aU (aj cq (aj bd (pv 2) af) af) (aj cq af (pv 1))) af) af) ae))))))))),?_⟩
 have hl:(ns.map V.int).length=ns.length:=zE0 _;have hp:(10:Int) ^ (18:Int).toNat=1000000000000000000:=by decide
 refine⟨_,rfl,_,_,rfl,rfl,.inl ⟨by decide,by decide⟩,_,_,rfl,rfl,?_⟩;refine⟨_,rfl,_,rfl,a,_,rfl,.inl hS,_,_,rfl,rfl,_,rfl,?_⟩;refine lU (fun c=>?b1) (fun c=>?b2)
 case' b1=>
  have c':k<(((ns.map V.int).length:Nat):Int):=of_decide_eq_true c;rw[hl]at c';obtain⟨v,hv⟩:=Cc (ns:=ns) k0 c';refine⟨_,rfl,_,rfl,a,_,_,_,rfl,rfl,hS,hv,?_⟩
 case' b2=>
  refine⟨_,rfl,a,_,rfl,.inl hS,_,_,rfl,rfl,_,rfl,?_⟩;refine lU (fun c2=>?b3) (fun c2=>?b4)
  case' b3=>
   have c':(0:Int)<(((ns.map V.int).length:Nat):Int):=of_decide_eq_true c2;have m0:=zX0 k (b:=(((ns.map V.int).length:Nat):Int)) (by omega);have m1:=qA0 k c';obtain⟨v,hv⟩:=Cc (ns:=ns) m0 (by rw[hl]at m1 ⊢;exact m1);have n0:=zX0 v (b:=2147483629) (by decide);have n1:=qA0 v (b:=2147483629) (by decide);refine⟨_,rfl,_,rfl,_,rfl,a,_,rfl,.inl hS,_,_,rfl,rfl,c',a,_,_,_,rfl,rfl,hS,hv,_,_,rfl,rfl,(by show(0:Int)<_;decide),_,_,rfl,rfl,.inr ⟨by decide,by decide⟩,_,rfl,_,_,rfl,rfl,.inl ⟨by decide,by decide⟩,_,_,rfl,rfl,?_⟩
 all_goals
  refine⟨_,rfl,_,_,rfl,rfl,⟨by decide,by decide,by decide⟩,_,_,rfl,rfl,_,rfl,?_⟩;refine lU (fun c3=>?_) (fun c3=>?_)
  . have c4:=of_decide_eq_true c3;rw[hp]at c4;refine⟨_,rfl,_,rfl,_,rfl,_,_,rfl,rfl,(by show(0:Int)<_;decide),_,_,rfl,rfl,.inr ⟨by decide,by decide⟩,_,rfl,_,_,rfl,rfl,.inl ⟨by decide,by decide⟩,_,_,rfl,rfl,_,_,rfl,rfl,(by show(0:Int)<_;decide),_,_,rfl,rfl,(by show 2<=sizeLine;decide),fun p hp=>?_⟩;refine q p _ hp (zD0 hp _) ⟨_,_,ai,Int.le_trans (by decide) c4,(xA _).1,(xA _).2⟩
  . refine⟨_,rfl,_,rfl,_,_,rfl,rfl,(by show(0:Int)<_;decide),_,_,rfl,rfl,.inr ⟨by decide,by decide⟩,_,rfl,_,_,rfl,rfl,.inl ⟨by decide,by decide⟩,_,_,rfl,rfl,_,_,rfl,rfl,(by show(0:Int)<_;decide),_,_,rfl,rfl,(by show 2<=sizeLine;decide),fun p hp=>?_⟩;refine q p _ hp (zD0 hp _) ⟨_,_,ai,Int.le_refl 0,(xA _).1,(xA _).2⟩
theorem oP:FnScope ["_law_feed_here","_law_many","_law_digit","_law_one"] ["_law_feed_here","_law_many"] (ag iF):=⟨rfl,rfl,rfl,by decide +kernel,rfl,by decide +kernel,by decide +kernel⟩
theorem yy {f:Addr} {fd:FuncData} (F:Fun K "_law_take" "_law_take" iF f fd):FnOk P w K mg base CX0 1 f fd ["_law_feed_here","_law_many"] kO:=by
 refine F.ok oP (fun vs H Q E h=>?_) (fun cdv A outer s H vs Q E hr h=>?_)
 . obtain⟨f,m,rfl,_⟩:=h;rfl
 obtain ⟨f,m,rfl,⟨own,st,hf,o0,s0,s1⟩,m0,m1,q⟩:=h;refine⟨_,(ad (aS (am ic (aP ix_list (pv 0) af (fun _ _=>rfl)) af (aq _)) (ad (ao (i:=2) oP.nd rfl (Or.inl rfl) (aj bd (aP ix_list (pv 0) af (fun _ _=>rfl)) (pv 1)))
  (ad (pJ (aj AV (aP ix_list (pv 0) af (fun _ _=>rfl)) (pv 1)) (si (pv 0) af ly))
  (ah (az (pv 2))))) aI)
  (ad (ao (i:=3) oP.nd rfl (Or.inl rfl) (aj bd (aj cq (aP ix_list (pv 0) af (fun _ _=>rfl)) af) af))
  (ad (pJ (aj aU (aj bd (aj aU (aj cq (pv 3) af) af) af) af) (si (pv 0) af ly))
  (ah (az (aj bd (aj xf (aj aU (aj cq (pv 3) af) (aP ix_list (pv 0) af (fun _ _=>rfl))) af) (pv 1))))))),?_⟩
 refine⟨_,rfl,f,_,0,_,rfl,rfl,zH0 hf,rfl,_,_,rfl,rfl,_,rfl,?_⟩;refine lU (fun c=>?_) (fun c=>?_)
 . refine⟨_,rfl,f,_,0,_,rfl,rfl,zH0 hf,rfl,_,rfl,_,_,rfl,rfl,m0,?_⟩;refine⟨_,rfl,f,_,0,_,rfl,rfl,zH0 hf,rfl,_,rfl,_,_,rfl,rfl,⟨m0,m1⟩,_,rfl,f,_,0,0,rfl,rfl,hf,rfl,?_⟩;refine⟨_,rfl,?_⟩;exact q _ _ (zX0 _ (by omega)) (qA0 _ m0) ⟨_,_,ai,Int.ediv_nonneg o0 (by omega),s0,s1⟩ (SameBut.upd _)
 . have a0:=zX0 (st*69621) (b:=2147483647) (by decide);have a1:=qA0 (st*69621) (b:=2147483647) (by decide);refine⟨_,rfl,f,_,1,_,rfl,rfl,zH0 hf,rfl,_,_,rfl,rfl,.inr ⟨by decide,by decide⟩,_,_,rfl,rfl,(by show(0:Int)<_;decide),?_⟩;refine⟨_,rfl,_,_,rfl,rfl,.inr ⟨by decide,by decide⟩,_,_,rfl,rfl,_,_,rfl,rfl,(by show(0:Int)<_;decide),_,_,rfl,rfl,_,rfl,f,_,1,1,rfl,rfl,hf,rfl,?_⟩;have b0:=zX0 (st*69621 % 2147483647*48271+30103) (b:=2147483646) (by decide);have b1:=qA0 (st*69621 % 2147483647*48271+30103) (b:=2147483646) (by decide);refine⟨_,rfl,_,_,rfl,rfl,.inr ⟨by decide,by decide⟩,_,rfl,f,_,1,_,rfl,rfl,zH0 ai,rfl,_,_,rfl,rfl,_,_,rfl,rfl,⟨by decide,by decide⟩,_,rfl,_,_,rfl,rfl,m0,?_⟩;exact q _ _ (zX0 _ (by omega)) (qA0 _ m0) ⟨_,_,ai,o0,by omega,by omega⟩ (SameBut.upd _)
theorem i4:FnScope ["_law_feed_here","_law_names_here","_law_room","_law_deep","_law_form","_law_more","_law_one","_law_word"] ["_law_feed_here","_law_names_here","_law_room","_law_deep"] (ag hV):=⟨rfl,rfl,rfl,by decide +kernel,rfl,by decide +kernel,by decide +kernel⟩
theorem lf{a X Y B:Prop}[Decidable a](x:X)(h:¬ a->X->B):if decide a=true then(if true=true then X else Y)else B:=by
 by_cases c:a
 . rw[decide_eq_true c];exact ji (ji x)
 . rw[decide_eq_false c];exact gJ (h c x)
theorem xY {n:Nat} {f:Addr} {fd:FuncData} (F:Fun K "_law_tree" "_law_tree" hV f fd) (hlen:mg "len"=none) (aQ:Cal P w K mg base 1 "_law_take" ["_law_feed_here","_law_many"] kO)
 (gF:Cal P w K mg base (n+2) "_law_tree" ["_law_feed_here","_law_names_here","_law_room","_law_deep"] (mJ n)):FnOk P w K mg base CX0 (n+3) f fd ["_law_feed_here","_law_names_here","_law_room","_law_deep"] (mJ (n+1)):=by
 refine F.ok i4 (fun vs H Q E h=>?_) (fun cdv A outer s H vs Q E hr h=>?_)
 . obtain⟨f,a,room,deep,ns,rfl,_⟩:=h;rfl
 obtain ⟨f,a,room,deep,ns,rfl,hF,hN,nl,r1,r100,d1,dn,q⟩:=h;refine⟨_,(ad (ao (i:=4) i4.nd rfl (Or.inl rfl) (au aQ hr (Nat.succ_le_succ (zU0 _)) rfl (aa (pv 0) (aa af ae))))
  (ad (aS (PW.pt (og (am gO (pv 2) af (aq _)) (og (am gO (pv 3) af (aq _)) (kQ (am aZ (pv 4) af (aq _)))))) (ad (aS (PW.pt (og (am aZ (aj bd (pv 4) af) af (aq _)) (kQ (am aZ (aJ aE rfl hlen PySem.boot_len (aa (pv 1) ae)) af (aq _))))) (ah (az (aP ix_list (cw (aa (bc (aa aR ae)) (aa (bc (aa aR ae)) ae))) (au aQ hr (Nat.succ_le_succ (zU0 _)) rfl (aa (pv 0) (aa af ae))) (fun _ _=>rfl)))) aI)
   (ah (az (bc (aa aR (aa (aP (ix_list.or ix_tup) (pv 1) (au aQ hr (Nat.succ_le_succ (zU0 _)) rfl (aa (pv 0) (aa (aJ aE rfl hlen PySem.boot_len (aa (pv 1) ae)) ae))) (fun _ _=>rfl)) ae)))))) aI)
  (ad (aS (PW.pt (og (am gO (pv 2) af (aq _)) (kQ (am aZ (pv 4) af (aq _))))) (ah (az (bc (aa aR (aa (au gF hr (zG0 _) rfl (aa (pv 0) (aa (pv 1) (aa (aj bm (pv 2) af) (aa (aj bm (pv 3) af) ae))))) ae))))) aI)
  (ad (ao (i:=5) i4.nd rfl (Or.inl rfl) (aj aU af (au aQ hr (Nat.succ_le_succ (zU0 _)) rfl (aa (pv 0) (aa (aj bm (pv 2) af) ae)))))
  (ad (ao (i:=6) i4.nd rfl (Or.inl rfl) (au gF hr (zG0 _) rfl (aa (pv 0) (aa (pv 1) (aa (pv 5) (aa (aj bm (pv 3) af) ae))))))
  (ad (ao (i:=7) i4.nd rfl (Or.inl rfl) (aP ix_list (cw (aa aR (aa aR (aa aR (aa aR ae))))) (aj bd (pv 4) af) (fun _ _=>rfl)))
  (ah (az (bc (aa (pv 7) (aa (pv 6) (aa (au gF hr (zG0 _) rfl (aa (pv 0) (aa (pv 1) (aa (aj bm (aj bm (pv 2) af) (pv 5)) (aa (aj bm (pv 3) af) ae))))) ae)))))))))))),?_⟩
 refine⟨_,rfl,f,10,rfl,hF,by decide,by decide,fun fm H1 f0 f10 F1 S1=>?_⟩;have N1:=hN.feed hF S1;refine⟨_,rfl,_,_,rfl,rfl,_,rfl,?_⟩;refine lf ?leaf fun c1 hX=>?_
 case leaf=>
  refine⟨_,rfl,_,_,rfl,rfl,(by show(0:Int)<_;decide),rfl,_,rfl,?_⟩;refine lf ?yn fun c6 hY=>?_
  case yn=>
   refine⟨(by show 1<=sizeLine;decide),fun p1 h1=>?_⟩;refine⟨(by show 1<=sizeLine;decide),fun p2 h2=>?_⟩;refine⟨(by show 2<=sizeLine;decide),fun l hl=>?_⟩;have ga:=zD0 h1 (.tup [.str "yes"]);have gb:=zD0 h2 (.tup [.str "no"]);have gc:=zD0 hl (.lst [.ref p1,.ref p2]);have G:=ga.trans (gb.trans gc);have nlf:=(F1.same (ga.trans gb)).ne hl;refine⟨_,rfl,f,2,rfl,F1.same G,by decide,by decide,fun d H2 d0 d2 F2 S2=>?_⟩;have y2:H2 p1=some (.tup [.str "yes"]):=cM (F1.same G) S2 _ _ (gc _ _ (gb _ _ ai));have n2:H2 p2=some (.tup [.str "no"]):=cM (F1.same G) S2 _ _ (gc _ _ ai);have l2:=S2 l _ nlf ai
   have:d=0∨d=1:=by omega
   rcases this with rfl | rfl
   . exact⟨l,_,0,_,rfl,rfl,zH0 l2,rfl,q (.ref p1) .yes H2 F2 (S1.trans ((zJ0 G).trans S2)) (.yes y2) trivial (show(1:Int)<=room from r1) (show(1:Int)<=deep from d1)⟩
   . exact⟨l,_,1,_,rfl,rfl,zH0 l2,rfl,q (.ref p2) .no H2 F2 (S1.trans ((zJ0 G).trans S2)) (.no n2) trivial (show(1:Int)<=room from r1) (show(1:Int)<=deep from d1)⟩
  refine⟨_,rfl,a,_,rfl,N1.seq,rfl,_,rfl,?_⟩
  by_cases c7:V.int ((ns.map V.str).length:Int)=V.int 0
  . exact bh c7 hY
  refine aF c7 ?_;have nz:0<ns.length:=by
   have z:¬ ((ns.map V.str).length:Int)=0:=fun z=>c7 (congrArg V.int z)
   rw[zE0]at z;omega
  refine⟨_,rfl,_,rfl,_,rfl,a,_,rfl,N1.seq,f,_,rfl,F1,(show(0:Int)<((ns.map V.str).length:Int) by rw[zE0];omega),by rw[zE0];omega,fun d H2 d0 d9 F2 S2=>?_⟩;obtain⟨v,hv,vm⟩:=rC (l:=ns.map V.str) (i:=d) d0 d9;obtain⟨x,hx,rfl⟩:=List.mem_map.mp vm;refine(N1.feed F1 S2).ix hv ?_;refine⟨(by show 2<=sizeLine;decide),fun p hp=>?_⟩;have G:=zD0 hp (.tup [.str "is",.str x]);exact q (.ref p) (.is x) _ (F2.same G) (S1.trans (S2.trans (zJ0 G))) (.is ai) hx (show(1:Int)<=room from r1) (show(1:Int)<=deep from d1)
 refine⟨_,rfl,_,_,rfl,rfl,_,rfl,?_⟩
 by_cases c2:deep<2
 . exact bh c2 (ji hX)
 refine aF c2 ?_;refine⟨_,rfl,rfl,_,rfl,?_⟩
 by_cases c3:V.int fm=V.int 9
 . exact bh c3 hX
 refine aF c3 ?_;refine⟨_,rfl,_,_,rfl,rfl,_,rfl,?_⟩;have d2:2<=deep:=by omega
 have dd:1<=deep-1:=by omega
 have ddn:deep-1+1<=(n:Int)+1:=by omega
 refine lf ?nt fun c4 hN=>?_
 case nt=>
  refine⟨_,rfl,_,rfl,_,rfl,_,_,rfl,rfl,_,rfl,_,_,rfl,rfl,f,a,_,_,ns,rfl,F1,N1,nl,(show 1<=room-1 by omega),by omega,dd,ddn,fun v1 t1 H3 F3 S3 T1 o1 z1 p1=>?_⟩;refine⟨(by show 2<=sizeLine;decide),fun p hp=>?_⟩;have G5:=zD0 hp (.tup [.str "not",v1]);refine q (.ref p) (.not t1) _ (F3.same G5) (S1.trans (S3.trans (zJ0 G5))) (.not ai (T1.mono (aG G5))) o1 ?_ ?_
  . show((t1.size+1:Nat):Int)<=room;omega
  . show((t1.depth+1:Nat):Int)<=deep;omega
 refine⟨_,rfl,rfl,_,rfl,?_⟩
 by_cases c5:V.int fm=V.int 8
 . exact bh c5 hN
 refine aF c5 ?_;refine⟨_,rfl,_,rfl,_,_,rfl,rfl,f,_,rfl,F1,(show(0:Int)<room-2 by omega),(show room-2<2 ^ 63 by omega),fun e H2 e0 e1 F2 S2=>?_⟩;refine⟨_,_,rfl,rfl,?_⟩;have N2:=N1.feed F1 S2;refine⟨_,rfl,_,rfl,_,rfl,_,rfl,_,_,rfl,rfl,f,a,_,_,ns,rfl,F2,N2,nl,by omega,by omega,dd,ddn,fun v1 t1 H3 F3 S3 T1 o1 z1 p1=>?_⟩;have N3:=N2.feed F2 S3;refine⟨(by show 4<=sizeLine;decide),fun l hl=>?_⟩;obtain⟨wd,hw,wm⟩:=rC (l:=joinW.map V.str) (i:=fm % 4) (by omega) (by
  have:(joinW.map V.str).length=4:=by rfl
  omega)
 obtain⟨x,hx,rfl⟩:=List.mem_map.mp wm;refine⟨_,rfl,_,_,rfl,rfl,(by show(0:Int)<_;decide),l,_,_,_,rfl,rfl,zH0 ai,hw,?_⟩;have G:=zD0 hl (.lst [.str "and",.str "or",.str "odd",.str "same"]);refine⟨_,rfl,_,rfl,_,rfl,_,rfl,_,rfl,_,_,rfl,rfl,_,rfl,_,_,rfl,rfl,_,rfl,_,_,rfl,rfl,f,a,_,_,ns,rfl,F3.same G,N3.same G,nl,(show 1<=room-1-(1+e) by omega),by omega,dd,ddn,fun v2 t2 H4 F4 S4 T2 o2 z2 p2=>?_⟩;refine⟨(by show 3<=sizeLine;decide),fun p hp=>?_⟩;have G5:=zD0 hp (.tup [.str x,v1,v2]);have T1':TreeAt H4 v1 t1:=(T1.mono (aG G)).mono (cM (F3.same G) S4);refine q (.ref p) (.bin x t1 t2) _ (F4.same G5) (S1.trans (S2.trans (S3.trans ((zJ0 G).trans (S4.trans (zJ0 G5)))))) (.bin ai (T1'.mono (aG G5)) (T2.mono (aG G5))) ⟨hx,o1,o2⟩ ?_ ?_
 . show((t1.size+t2.size+1:Nat):Int)<=room;omega
 . show((max t1.depth t2.depth+1:Nat):Int)<=deep;omega
theorem xX {f:Addr} {fd:FuncData}:FnOk P w K mg base CX0 2 f fd ["_law_feed_here","_law_names_here","_law_room","_law_deep"] (mJ 0):=by
 have no:∀vs H Q E,¬ mJ 0 vs H Q E:=fun vs H Q E h=>by
  obtain⟨f,a,room,deep,ns,_,_,_,_,_,_,h1,h2,_⟩:=h;omega
 exact⟨fun vs H Q E h=>absurd h (no vs H Q E),fun A outer s H args us vs Q E _ _ _ _ h=>absurd h (no vs H Q E)⟩
theorem qS {f:Addr} {fd:FuncData} (F:Fun K "_law_tree" "_law_tree" hV f fd) (hlen:mg "len"=none) (m:mg "_law_tree"=some (.ref f)) (aQ:Cal P w K mg base 1 "_law_take" ["_law_feed_here","_law_many"] kO) :
 ∀n:Nat,FnOk P w K mg base CX0 (n+2) f fd ["_law_feed_here","_law_names_here","_law_room","_law_deep"] (mJ n)
 | 0=>xX
 | n+1=>xY F hlen aQ (Cal.of F (qS F hlen m aQ n) m (fun _ _ _ _ _ _ us hl=>by obtain⟨u0,u1,u2,u3,rfl⟩:=qe hl;rfl))
def EU:Stmt->List Stmt
 | .If _ b _ _=>b
 | _=>[]
def ET:Stmt->Expr
 | .If c _ _ _=>c
 | _=>.Constant .none 0 ⟨0,0,0,0⟩
def zz:Stmt->Expr
 | .Assign _ v _=>v
 | .Return (some v) _=>v
 | _=>.Constant .none 0 ⟨0,0,0,0⟩
def vX:Expr->List Expr
 | .List es _=>es
 | .BinOp _ _ (.List es _) _=>es
 | .Subscript (.List es _) _ _=>es
 | _=>[]
abbrev stm(s:Stmt)(i:Nat):Stmt:=(aB s).getD i (.Pass ⟨0,0,0,0⟩)
abbrev Cv(s:Stmt)(i j:Nat):Stmt:=(EU (stm s i)).getD j (.Pass ⟨0,0,0,0⟩)
def wordsA:List Str:=["is","set","say","if","go","end","num","box","op","field","holds","claims"]
def wordsB:List Str:=["nota","nob","yesx","andy","ors","oddly"]
def wordsC:List Str:=["samey","rounds","dues","coins","truex","asks"]
@[irreducible] def vH:List Expr:=vX (zz (Cv bu 6 0))
@[irreducible] def vG:List Expr:=vX (zz (Cv bu 6 1))
@[irreducible] def vF:List Expr:=vX (zz (Cv bu 6 2))
theorem Bs:Consts vH wordsA:=by
 unfold vH;exact .cons (.cons (.cons (.cons (.cons (.cons (.cons (.cons (.cons (.cons (.cons (.cons .nil)))))))))))
theorem Br:Consts vG wordsB:=by
 unfold vG;exact .cons (.cons (.cons (.cons (.cons (.cons .nil)))))
theorem Bq:Consts vF wordsC:=by
 unfold vF;exact .cons (.cons (.cons (.cons (.cons (.cons .nil)))))
theorem vE:∃p1 p2 p3 p4 p5 p6 p7 p8 p9 q1 q2 q3 q4 q5,aB bu=[stm bu 0,stm bu 1,stm bu 2,stm bu 3,stm bu 4,stm bu 5,
 .If (ET (stm bu 6)) [.Assign [.Name "_law_words" p1] (.List vH p2) p3,.Assign [.Name "_law_words" p4] (.BinOp (.Name "_law_words" p5) .Add (.List vG p6) p7) p8,.Assign [.Name "_law_words" p9] (.BinOp (.Name "_law_words" q1) .Add (.List vF q2) q3) q4,Cv bu 6 3] [] q5,stm bu 7]:=
 ⟨_,_,_,_,_,_,_,_,_,_,_,_,_,_,by with_unfolding_all rfl⟩
def LTR:Str:="bcdfghjklmnpqrstvwxz"
theorem EK:∀c∈LTR.cps.toList,c≠97:=by decide +kernel
theorem vO:∀c∈LTR.cps.toList,97<=c/\c<=122:=by decide +kernel
theorem zt:∀x∈(wordsA++wordsB)++wordsC,x.length<=20/\(∀c∈x.cps.toList,97<=c/\c<=122)/\x≠"aa":=by decide +kernel
def pq:Sp:=fun vs H Q _=>∃(f:Addr)(m:Int),vs=[.ref f,.int m]/\FeedAt H f/\0<=m/\m<=6/\∀(l:Addr)(ns:List Str)(H':Hp),H l=none->l≠f->H' l=some (.lst (ns.map V.str))->ns.length=m.toNat->(∀x∈ns,wp x)->ns.Nodup->FeedAt H' f->SameBut f H H'->Q (.ref l) H'
theorem xO:∀x∈(wordsA++wordsB)++wordsC,∃c∈x.cps.toList,c∉LTR.cps.toList:=by decide +kernel
theorem Dp:∀a b:Fin 20,LTR.cps.toList[a.val]?=LTR.cps.toList[b.val]?->a=b:=by decide +kernel
theorem Bp{ns:List Str}{t:Nat}{u:Int}(u0:0<=u)(u20:u<20)(hl:ns.length<=6)(h:∀(k:Nat) x,ns[k]?=some x->x.cps.toList[t]?=LTR.cps.toList[((u+7*(k:Int)) % 20).toNat]?):ns.Nodup:=by
 refine List.pairwise_iff_getElem.mpr fun i j hi hj ij e=>?_
 have h1:=h i _ (zK0 hi);have h2:=h j _ (zK0 hj);rw[e]at h1;have h3:=h1.symm.trans h2;have h4:=Dp ⟨((u+7*(i:Int)) % 20).toNat,by omega⟩ ⟨((u+7*(j:Int)) % 20).toNat,by omega⟩ h3;have h5:=congrArg Fin.val h4;simp only at h5;omega
theorem EI{ns:List Str}{x:Str}{j:Nat}(h:ns.Nodup)(hx:x∉ns):(ns.set j x).Nodup:=by
 refine List.pairwise_iff_getElem.mpr fun a b ha hb ab=>?_
 rw[List.length_set]at ha hb;rw[List.getElem_set,List.getElem_set]
 split
 . split
   . omega
   . intro e;exact hx (e▸qL0 hb)
 . split
   . intro e;exact hx (e▸qL0 ha)
   . exact List.pairwise_iff_getElem.mp h a b ha hb ab
theorem Fo{α:Type}{l:List α}{i:Int}{v:α}(h0:0<=i)(h:atI l i=some v):l[i.toNat]?=some v:=by
 have ek:((i.toNat:Nat):Int)=i:=by omega
 by_cases c:i.toNat<l.length
 . have q:atI l ((i.toNat:Nat):Int)=some l[i.toNat]:=cL (zK0 c);rw[ek,h]at q;rw[zK0 c];exact q.symm
 . exfalso
   unfold atI ixN at h;rw[zB0 h0,zA0 (by omega)]at h;cases h
theorem zK{zs:List Str}(h:∀z∈zs,z.length=1/\∀c∈z.cps.toList,c∈LTR.cps.toList):(zs.map (·.length)).sum=zs.length:=by
 induction zs with
 | nil=>rfl
 | cons a r ih=>
   rw[zZ0,List.sum_cons,ih fun z hz=>h z (qR0 _ hz),(h a qP0).1,qF0];omega
theorem b7:FnScope ["_law_feed_here","_law_many","_law_letters","_law_common","_law_at","_law_first","_law_found","_law_k","_law_tail","_law_sign","_law_words"] ["_law_feed_here","_law_many"] (ag bu):=⟨rfl,rfl,rfl,by decide +kernel,rfl,by decide +kernel,by decide +kernel⟩
theorem iT{H:Hp}{f p:Addr}{o:HO}(F:FeedAt H f)(h:p≠f):FeedAt (upd H p o) f:=by
 obtain⟨x,t,e,r⟩:=F;exact⟨x,t,by rw[ay (Ne.symm h)];exact e,r⟩
theorem vw {f:Addr} {fd:FuncData} (F:Fun K "_law_names" "_law_names" bu f fd) (hrange:mg "range"=none) (aQ:Cal P w K mg base 1 "_law_take" ["_law_feed_here","_law_many"] kO):FnOk P w K mg base CX0 2 f fd ["_law_feed_here","_law_many"] pq:=by
 refine F.ok b7 (fun vs H Q E h=>?_) (fun cdv A outer s H vs Q E hr h=>?_)
 . obtain⟨f,m,rfl,_⟩:=h;rfl
 obtain ⟨f,m,rfl,hF,m0,m6,q⟩:=h;obtain⟨p1,p2,p3,p4,p5,p6,p7,p8,p9,q1,q2,q3,q4,q5,ebody⟩:=vE;rw[ebody];refine⟨_,(ad (ao (i:=2) b7.nd rfl (Or.inr rfl) aR)
  (ad (ao (i:=3) b7.nd rfl (Or.inl rfl) (iR PySem.F.plainAttrs_str PySem.F.slot_str_join PySem.F.type_str_join Dk aR (aa (dB (N:=["_law_letters","_law_feed_here"]) (ix:=[2,0]) rfl
   CompScope.two rfl
   (cF rfl hrange (aa af ae))
   (fun _ _ _=>dF (aP vR (pv 1) (au aQ hr (by decide) rfl (aa (pv 2) (aa af ae))) (fun _ _=>rfl)))) ae)))
  (ad (ao (i:=4) b7.nd rfl (Or.inl rfl) (au aQ hr (by decide) rfl (aa (pv 0) (aa af ae))))
  (ad (ao (i:=5) b7.nd rfl (Or.inl rfl) (au aQ hr (by decide) rfl (aa (pv 0) (aa af ae))))
  (ad (ao (i:=6) b7.nd rfl (Or.inl rfl) (cw ae))
  (ad (da PassesOwn.never rfl (cF rfl hrange (aa (pv 1) ae)) (bX (i:=7) b7.nd rfl (Or.inl rfl)) (ad (ao (i:=8) b7.nd rfl (Or.inl rfl) (aj bd (au aQ hr (by decide) rfl (aa (pv 0) (aa (aj bm af (pv 4)) ae))) af))
   (ad (ao (i:=9) b7.nd rfl (Or.inl rfl) (aP vR (pv 2) (aj bd (aj aU (pv 5) (aj cq af (pv 7))) af) (fun _ _=>rfl)))
   (ah (bL (iR PySem.F.plainAttrs_list PySem.F.slot_list_append PySem.F.type_list_append dw (pv 6) (aa (aj pW (aj pW (iQ Ah (pv 3) lH (jf (pv 4))) (pv 9)) (iQ Ah (pv 3) (jf (pv 4)) (jf (aj aU (pv 4) (pv 8))))) ae)))))))
  (ad (aS (PW.pt (jz (am ic (pv 1) af (aq _)) (kq (am aZ (au aQ hr (by decide) rfl (aa (pv 0) (aa af ae))) af (aq _))))) (ad (ao (i:=10) b7.nd rfl (Or.inl rfl) (cw (ku Bs)))
   (ad (ao (i:=10) b7.nd rfl (Or.inl rfl) (aj kX (pv 10) (cw (ku Br))))
   (ad (ao (i:=10) b7.nd rfl (Or.inl rfl) (aj kX (pv 10) (cw (ku Bq))))
   (ah (pJ (aP ix_list (pv 10) (au aQ hr (by decide) rfl (aa (pv 0) (aa af ae))) (fun _ _=>rfl)) (si (pv 6) (au aQ hr (by decide) rfl (aa (pv 0) (aa (pv 1) ae))) ly)))))) aI)
  (ah (az (pv 6)))))))))),?_⟩
 refine⟨rfl,5,rfl,by decide,by decide,fun D hD=>?_⟩;have Df:=hF.ne hD;have L20:LTR.cps.toList.length=20:=by decide +kernel
 refine gu (fun i H'=>∃zs:List Str,H' D=some (.lst (zs.map V.str))/\zs.length=i/\(∀z∈zs,z.length=1/\∀c∈z.cps.toList,c∈LTR.cps.toList)/\FeedAt H' f/\SameBut f H H') ⟨[],by rw[ai];rfl,rfl,by simp,hF.same (zD0 hD _),zJ0 (zD0 hD _)⟩ ?_ ?_
 . rintro i H3 hi ⟨zs,hl,zl,z1,F3,S3⟩;have i5:i<5:=hi;refine⟨_,rfl,_,rfl,f,20,rfl,F3,by decide,by decide,fun d H4 d0 d26 F4 S4=>?_⟩;obtain⟨c,hc,hm⟩:=rC (l:=LTR.cps.toList) (i:=d) d0 (by rw[L20];exact d26);have hD4:H4 D=some (.lst (zs.map V.str)):=S4 D _ Df hl;refine⟨_,d,c,rfl,rfl,dX (by decide +kernel),hc,_,hD4,?_,Nx.of hi ⟨zs++[⟨#[c]⟩],?_,?_,?_,iT F4 Df,?_⟩⟩
   . rw[zE0,zl];exact aW (Nat.le_of_lt (Nat.lt_trans i5 (by decide)))
   . rw[ai,zL0];rfl
   . rw[zM0,qE0,zl]
   . intro z hz;rcases qJ0 hz with h | h
     . exact z1 z h
     . rw [zT0 h];refine⟨rfl,fun c' hc'=>?_⟩
       have:c'=c:=by simpa using hc'
       subst this;exact hm
   . intro b o hb e;rw[ay (aO e hD)];exact S4 b o hb (S3 b o hb e)
 rintro H3 ⟨zs,hl,zl,z1,F3,S3⟩;have sl:=zK z1;have zl5:zs.length=5:=zl;refine⟨_,D,zs,rfl,rfl,zH0 hl,(by decide +kernel),by omega,?_⟩;have jl:(Txt.join "" zs).length=5:=by
  have:=size_glued "" zs
  have e0:(("":Str)).length=0:=by decide +kernel
  rw[e0,Nat.mul_zero]at this;show(Builtin.Str.glued "" zs).length=5;omega
 have jc:∀c∈(Txt.join "" zs).cps.toList,c∈LTR.cps.toList:=fun c hc=>by
  obtain⟨z,hz,h⟩:=yO hc;exact(z1 z hz).2 c h
 generalize Txt.join "" zs=cm at jl jc;refine⟨_,rfl,f,6,rfl,F3,by decide,by decide,fun t H4 t0 t6 F4 S4=>?_⟩;refine⟨_,rfl,f,20,rfl,F4,by decide,by decide,fun u H5 u0 u20 F5 S5=>?_⟩;refine⟨(by show 0<=sizeLine;decide),fun L hL=>?_⟩;have S05:SameBut f H H5:=S3.trans (S4.trans S5);have Lf:=F5.ne hL;have L0:H L=none:=by
  cases e:H L with
  | none=>rfl
  | some o=>rw[S05 L o Lf e]at hL;cases hL
 refine ⟨_,rfl,m,rfl,by omega,by omega,dU (fun i σ H'=>∃(x7 x8 x9:Option V)(ns:List Str),σ=[some (.ref f),some (.int m),some (.str LTR),some (.str cm),some (.int t),some (.int u),some (.ref L),x7,x8,x9,none]/\H' L=some (.lst (ns.map V.str))/\ns.length=i/\(∀x∈ns,wp x)/\(∀x∈ns,∀c∈x.cps.toList,c∈LTR.cps.toList)/\(∀(k:Nat) x,ns[k]?=some x->x.cps.toList[t.toNat]?=LTR.cps.toList[((u+7*(k:Int)) % 20).toNat]?)/\FeedAt H' f/\SameBut f H H')
  ⟨_,_,_,[],rfl,by rw[ai];rfl,rfl,by simp,by simp,by simp,F5.same (zD0 hL _),S05.trans (zJ0 (zD0 hL _))⟩ ?_ ?_⟩
 . rintro i σ H6 hi ⟨x7,x8,x9,ns,rfl,hns,nl,nok,nlt,nat,F6,S6⟩;refine⟨_,rfl,_,rfl,_,_,rfl,rfl,f,_,rfl,F6,(Int.sub_pos_of_lt t6),(Int.lt_of_le_of_lt (Int.sub_le_self 6 t0) (by decide)),fun d H7 d0 d1 F7 S7=>?_⟩;refine⟨_,_,rfl,rfl,(by show(0:Int)<_;decide),?_⟩;obtain⟨c,hc,hm⟩:=rC (l:=LTR.cps.toList) (i:=(u+7*(0+(i:Int))) % 20) (zX0 _ (by decide)) (by rw[L20];exact qA0 _ (by decide));refine⟨_,rfl,_,rfl,_,rfl,_,_,rfl,rfl,?_,_,_,rfl,rfl,_,_,rfl,rfl,(by show(0:Int)<_;decide),_,_,c,rfl,rfl,dX (by decide +kernel),hc,?_⟩
   . exact .inl ⟨by decide,by decide⟩
   have hL7:=S7 L _ Lf hns;have z1:(Txt.slice cm none (some t)).length<=cm.length:=Txt.slice_le cm none (some t);have z2:(Txt.slice cm (some t) (some (t+d % 3))).length<=cm.length:=Txt.slice_le cm _ _;have z3:((⟨#[c]⟩:Str)).length=1:=rfl;refine⟨_,rfl,.inl ⟨rfl,_,zH0 hL7⟩,?_⟩;refine⟨_,rfl,_,rfl,_,rfl,_,rfl,dX (by rw[jl];decide),_,rfl,_,_,rfl,rfl,dX (by rw[z3];omega),?_⟩;refine⟨_,rfl,_,rfl,_,rfl,_,rfl,_,rfl,_,_,rfl,rfl,_,rfl,_,rfl,dX (by rw[jl];decide),_,_,rfl,rfl,dX (by rw[Str.length_append,z3];omega),?_⟩;refine⟨L,_,_,rfl,rfl,hL7,?_,?_⟩
   . rw[zE0];exact aW (by omega)
   refine⟨_,_,_,ns++[(Txt.slice cm none (some t)++⟨#[c]⟩)++Txt.slice cm (some t) (some (t+d % 3))],rfl,?_,?_,?_,?_,?_,iT F7 Lf,?_⟩
   . rw[ai,zL0];rfl
   . rw[zM0,qE0,nl]
   . intro x hx;rcases qJ0 hx with h | h
     . exact nok x h
     . rw [zT0 h];refine⟨?_,fun c' hc'=>?_,fun ea=>?_⟩
       . rw[Str.length_append,Str.length_append,z3];omega
       rotate_left
       . have cm1:c∈(((Txt.slice cm none (some t)++⟨#[c]⟩)++Txt.slice cm (some t) (some (t+d % 3)):Str)).cps.toList:=by
          rw[Str.cps_append,Str.cps_append]
          simp
         rw[ea]at cm1;exact EK c hm ((by decide +kernel:∀c∈(("aa":Str)).cps.toList,c=97) c cm1)
       . rcases mem_append hc' with h | h
         . rcases mem_append h with h | h
           . exact vO _ (jc _ (kx h))
           . have:c'=c:=by simpa using h
             subst this;exact vO _ hm
         . exact vO _ (jc _ (kx h))
   . intro x hx c' hc';rcases qJ0 hx with h | h
     . exact nlt x h c' hc'
     . rw [zT0 h]at hc';rcases mem_append hc' with h | h
       . rcases mem_append h with h | h
         . exact jc _ (kx h)
         . have:c'=c:=by simpa using h
           subst this;exact hm
       . exact jc _ (kx h)
   . intro k x hx
     by_cases ck:k<ns.length
     . rw[List.getElem?_append_left ck]at hx;exact nat k x hx
     . have kl:k<(ns++[(Txt.slice cm none (some t)++⟨#[c]⟩)++Txt.slice cm (some t) (some (t+d % 3))]).length:=(zY0 hx).1;rw[zM0,qE0]at kl;have ek:k=i:=by omega
       subst ek;rw[List.getElem?_append_right (by omega),nl,Nat.sub_self]at hx;have ex:(Txt.slice cm none (some t)++⟨#[c]⟩)++Txt.slice cm (some t) (some (t+d % 3))=x:=zQ0 hx;rw[←ex];have cl:cm.cps.toList.length=5:=jl;have es:Txt.slice cm none (some t)=⟨((cm.cps.toList.drop 0).take (t-0).toNat).toArray⟩:=StrLaws.sliceText_to ⟨t0,by omega⟩;have el:(Txt.slice cm none (some t)).cps.toList.length=t.toNat:=by
        rw[es];simp only[List.drop_zero,Int.sub_zero,qO0];omega
       have ea:((Txt.slice cm none (some t)++⟨#[c]⟩)++Txt.slice cm (some t) (some (t+d % 3))).cps.toList=(Txt.slice cm none (some t)).cps.toList++([c]++(Txt.slice cm (some t) (some (t+d % 3))).cps.toList):=by
        rw[Str.cps_append,Str.cps_append]
        simp
       rw[ea,List.getElem?_append_right (by omega),el,Nat.sub_self];have hc2:LTR.cps.toList[((u+7*(0+(k:Int))) % 20).toNat]?=some c:=Fo (zX0 _ (by decide)) hc;rw[Int.zero_add]at hc2;rw[hc2];rfl
   . intro b o hb e;rw[ay (aO e L0)];exact S7 b o hb (S6 b o hb e)
 . rintro σ H6 ⟨x7,x8,x9,ns,rfl,hns,nl,nok,nlt,nat,F6,S6⟩;have nnd:ns.Nodup:=Bp u0 u20 (by omega) nat;refine⟨_,rfl,_,_,rfl,rfl,_,rfl,?_⟩;have fin:∀H':Hp,∀ns:List Str,H' L=some (.lst (ns.map V.str))->ns.length=m.toNat->(∀x∈ns,wp x)->ns.Nodup->FeedAt H' f->SameBut f H H'->Q (.ref L) H':=fun H' ns a b c nd d e=>q L ns H' L0 Lf a b c nd d e
   by_cases c1:(0:Int)<m
   . refine bh c1 ?_;refine⟨_,rfl,f,3,rfl,F6,by decide,by decide,fun d H7 d0 d1 F7 S7=>?_⟩;refine⟨rfl,_,rfl,?_⟩;have hL7:=S7 L _ Lf hns;refine lU (fun _=>?_) (fun _=>?_)
     . refine ⟨(by show 12<=sizeLine;decide),fun l1 h1=>?_⟩;refine⟨_,rfl,(by show 6<=sizeLine;decide),fun l2 h2=>?_⟩;refine⟨l1,l2,wordsA.map V.str,wordsB.map V.str,rfl,rfl,zD0 h2 _ _ _ ai,ai,(by show 18<=sizeLine;decide),fun l3 h3=>?_⟩;refine⟨_,rfl,(by show 6<=sizeLine;decide),fun l4 h4=>?_⟩;refine⟨l3,l4,wordsA.map V.str++wordsB.map V.str,wordsC.map V.str,rfl,rfl,zD0 h4 _ _ _ ai,ai,(by show 24<=sizeLine;decide),fun l5 h5=>?_⟩;have G:=(zD0 h1 (.lst (wordsA.map V.str))).trans ((zD0 h2 (.lst (wordsB.map V.str))).trans ((zD0 h3 (.lst (wordsA.map V.str++wordsB.map V.str))).trans ((zD0 h4 (.lst (wordsC.map V.str))).trans (zD0 h5 (.lst ((wordsA.map V.str++wordsB.map V.str)++wordsC.map V.str))))));have F8:=F7.same G;have n5:=(F7.same ((zD0 h1 (.lst (wordsA.map V.str))).trans ((zD0 h2 (.lst (wordsB.map V.str))).trans ((zD0 h3 (.lst (wordsA.map V.str++wordsB.map V.str))).trans (zD0 h4 (.lst (wordsC.map V.str))))))).ne h5;refine⟨_,rfl,_,rfl,f,24,rfl,F8,by decide,by decide,fun e H9 e0 e1 F9 S9=>?_⟩;obtain⟨v,hv,vm⟩:=rC (l:=(wordsA.map V.str++wordsB.map V.str)++wordsC.map V.str) (i:=e) e0 (by
        have:((wordsA.map V.str++wordsB.map V.str)++wordsC.map V.str).length=24:=by rfl
        omega)
       rw[←zL0,←zL0]at vm;obtain⟨x,hx,rfl⟩:=List.mem_map.mp vm;refine⟨l5,_,e,_,rfl,rfl,zH0 (S9 l5 _ n5 ai),hv,?_⟩;refine⟨_,rfl,_,rfl,_,rfl,f,m,rfl,F9,c1,by omega,fun j H10 j0 j1 F10 S10=>?_⟩;have hL10:=S10 L _ Lf (S9 L _ Lf (G L _ hL7));refine⟨L,_,j,j.toNat,rfl,rfl,hL10,?_,?_⟩
       . have jl:j<((ns.map V.str).length:Int):=by rw[zE0];omega
         unfold ixN;rw[zB0 j0,zB0 jl]
       refine⟨_,rfl,?_⟩;refine fin _ (ns.set j.toNat x) (by rw[ai,List.map_set]) (by rw[List.length_set];exact nl) ?_ ?_ (iT F10 Lf) ?_
       . intro y hy;rcases List.mem_or_eq_of_mem_set hy with h | h
         . exact nok y h
         . rw[h];exact zt x hx
       . refine EI nnd fun hm=>?_
         obtain⟨c,c1,c2⟩:=xO x hx;exact c2 (nlt x hm c c1)
       . intro b o hb e';rw[ay (aO e' L0)];exact S10 b o hb (S9 b o hb (G b o (S7 b o hb (S6 b o hb e'))))
     . refine⟨_,rfl,?_⟩;exact fin H7 ns hL7 nl nok nnd F7 (S6.trans S7)
   . refine aF c1 ?_;refine gJ ?_;refine⟨_,rfl,?_⟩;exact fin H6 ns hns nl nok nnd F6 S6
theorem gY{x:Str}:∀{ns:List Str},x∈ns->∃j,eW x ns=some j/\j<ns.length
 | [],h=>by cases h
 | a::r,h=>by
   unfold eW
   by_cases c:a=x
   . exact⟨0,by rw[zB0 c],by simp⟩
   . rw [zA0 c];rcases qD0 h with e | e
     . exact absurd e.symm c
     . obtain⟨j,h1,h2⟩:=gY e;exact⟨j+1,by rw[h1];rfl,by simpa using h2⟩
theorem ip{a b:Str}(h:V.str a=V.str b):a=b:=by injection h
def eg (p:Int) (o:Str) (x y:Int):Int:=if o="and" then x*y % p else if o="or" then(x+y-x*y) % p else if o="odd" then(x+y-2*(x*y)) % p else(1-(x+y-2*(x*y))) % p
def Tr.worth(ns:List Str)(pt:List Int)(p:Int):Tr->Int
 | .is x=>match eW x ns with | some j=>pt.getD j 0 | none=>0
 | .yes=>1
 | .no=>0
 | .not a=>(1-a.worth ns pt p) % p
 | .bin o a b=>eg p o (a.worth ns pt p) (b.worth ns pt p)
def bV(pt:List Int)(p:Int):Prop:=∀x∈pt,0<=x/\x<p
theorem yW{p:Int}(hp:0<p)(o:Str)(x y:Int):0<=eg p o x y/\eg p o x y<p:=by
 have key:∀z:Int,0<=z % p/\z % p<p:=fun z=>⟨zX0 _ (by omega),qA0 _ hp⟩
 unfold eg
 repeat' split
 all_goals exact key _
theorem qk{l:List Int}{j:Nat}(h:j<l.length):l.getD j 0=l[j]:=by
 rw[zS0,zK0 h];rfl
theorem worth_rng{ns:List Str}{pt:List Int}{p:Int}(hp:1<p)(h:bV pt p)(hl:pt.length=ns.length):∀t:Tr,t.ok ns->0<=t.worth ns pt p/\t.worth ns pt p<p
 | .is x,ok=>by
   obtain⟨j,hj,jl⟩:=gY ok;show 0<=(match eW x ns with | some j=>pt.getD j 0 | none=>0)/\(match eW x ns with | some j=>pt.getD j 0 | none=>0)<p;rw[hj];show 0<=pt.getD j 0/\pt.getD j 0<p;rw[qk (by omega)];exact h _ (qL0 _)
 | .yes,_=>⟨by show(0:Int)<=1;decide,hp⟩
 | .no,_=>⟨Int.le_refl 0,by show(0:Int)<p;omega⟩
 | .not a,_=>⟨zX0 _ (by omega),qA0 _ (by omega)⟩
 | .bin o a b,_=>yW (by omega) _ _ _
def Eo:Sp:=fun vs H Q _=>∃(o:Str)(x y p:Int),vs=[.str o,.int x,.int y,.int p]/\0<=x/\x<p/\p<2 ^ 40/\Q (.int (eg p o x y)) H
theorem gS:FnScope ["word","first","second","p","both","odd"] ["word","first","second","p"] (ag dj):=⟨rfl,rfl,rfl,by decide +kernel,rfl,by decide +kernel,by decide +kernel⟩
theorem oH {f:Addr} {fd:FuncData} (F:Fun K "joined_worth" "joined_worth" dj f fd):FnOk P w K mg base CX0 1 f fd ["word","first","second","p"] Eo:=by
 refine F.ok gS (fun vs H Q E h=>?_) (fun cdv A outer s H vs Q E hr h=>?_)
 . obtain⟨o,x,y,p,rfl,_⟩:=h;rfl
 obtain ⟨o,x,y,p,rfl,x0,xp,pb,k⟩:=h;refine⟨_,(ad (ao (i:=4) gS.nd rfl (Or.inl rfl) (aj cq (pv 1) (pv 2)))
  (ad (aS (am aZ (pv 0) aR (aq _)) (ah (az (aj bd (pv 4) (pv 3)))) aI)
  (ad (aS (am aZ (pv 0) aR (aq _)) (ah (az (aj bd (aj bm (aj aU (pv 1) (pv 2)) (pv 4)) (pv 3)))) aI)
  (ad (ao (i:=5) gS.nd rfl (Or.inl rfl) (aj bm (aj aU (pv 1) (pv 2)) (aj cq af (pv 4))))
  (ad (aS (am aZ (pv 0) aR (aq _)) (ah (az (aj bd (pv 5) (pv 3)))) aI)
  (ah (az (aj bd (aj bm af (pv 5)) (pv 3))))))))),?_⟩
 refine⟨_,rfl,_,rfl,_,_,rfl,rfl,.inl ⟨by omega,by omega⟩,?_⟩;refine⟨_,rfl,rfl,_,rfl,?_⟩
 by_cases c1:V.str o=V.str "and"
 . refine bh c1 ?_;have e:eg p o x y=x*y % p:=by unfold eg;rw[zB0 (ip c1)]
   rw[e]at k;exact⟨_,rfl,_,rfl,_,_,rfl,rfl,(show(0:Int)<p by omega),k⟩
 refine aF c1 ?_;have n1:¬ o="and":=fun z=>c1 (by rw[z])
 refine⟨_,rfl,rfl,_,rfl,?_⟩
 by_cases c2:V.str o=V.str "or"
 . refine bh c2 ?_;have e:eg p o x y=(x+y-x*y) % p:=by unfold eg;rw[zA0 n1,zB0 (ip c2)]
   rw[e]at k;exact⟨_,rfl,_,rfl,_,_,rfl,rfl,_,rfl,_,_,rfl,rfl,_,rfl,_,_,rfl,rfl,(show(0:Int)<p by omega),k⟩
 refine aF c2 ?_;have n2:¬ o="or":=fun z=>c2 (by rw[z])
 refine⟨_,rfl,_,rfl,_,_,rfl,rfl,_,rfl,_,_,rfl,rfl,.inl ⟨by decide,by decide⟩,_,_,rfl,rfl,?_⟩;refine⟨_,rfl,rfl,_,rfl,?_⟩
 by_cases c3:V.str o=V.str "odd"
 . refine bh c3 ?_;have e:eg p o x y=(x+y-2*(x*y)) % p:=by unfold eg;rw[zA0 n1,zA0 n2,zB0 (ip c3)]
   rw[e]at k;exact⟨_,rfl,_,rfl,_,_,rfl,rfl,(show(0:Int)<p by omega),k⟩
 refine aF c3 ?_;have n3:¬ o="odd":=fun z=>c3 (by rw[z])
 have e:eg p o x y=(1-(x+y-2*(x*y))) % p:=by unfold eg;rw[zA0 n1,zA0 n2,zA0 n3]
 rw[e]at k;exact⟨_,rfl,_,_,rfl,rfl,_,rfl,_,_,rfl,rfl,(show(0:Int)<p by omega),k⟩
def jP(n:Nat):Sp:=fun vs H Q _=>∃(v:V)(t:Tr)(a b:Addr)(ns:List Str)(pt:List Int)(p:Int),vs=[v,.ref a,.ref b,.int p]/\TreeAt H v t/\t.ok ns/\t.depth<=n/\NamesAt H a ns/\H b=some (.tup (pt.map V.int))/\pt.length=ns.length/\1<p/\p<2 ^ 40/\bV pt p/\Q (.int (t.worth ns pt p)) H
theorem jx:FnScope ["tree","switches","point","p","word","first"] ["tree","switches","point","p"] (ag eA):=⟨rfl,rfl,rfl,by decide +kernel,rfl,by decide +kernel,by decide +kernel⟩
theorem uL {n:Nat} {f:Addr} {fd:FuncData} (F:Fun K "worth_of" "worth_of" eA f fd) (dz:Cal P w K mg base 1 "joined_worth" ["word","first","second","p"] Eo) (fN:Cal P w K mg base (n+2) "worth_of" ["tree","switches","point","p"] (jP n)):FnOk P w K mg base CX0 (n+3) f fd ["tree","switches","point","p"] (jP (n+1)):=by
 refine F.ok jx (fun vs H Q E h=>?_) (fun cdv A outer s H vs Q E hr h=>?_)
 . obtain⟨v,t,a,b,ns,pt,p,rfl,_⟩:=h;rfl
 obtain⟨v,t,a,b,ns,pt,p,rfl,T,ok,dn,hN,hb,sl,p1,p40,po,k⟩:=h;have p0:(0:Int)<p:=by omega
 refine ⟨_,(ad (ao (i:=4) jx.nd rfl (Or.inl rfl) (aP ix_tup (pv 0) af (fun _ _=>rfl)))
  (ad (aS (am aZ (pv 4) aR (aq _)) (ah (az (aj bd (aP ix_tup (pv 2) (tR PySem.F.plainAttrs_list PySem.F.plainAttrs_tuple (pv 1) (aa (aP ix_tup (pv 0) af (fun _ _=>rfl)) ae)) (fun _ _=>rfl)) (pv 3)))) aI)
  (ad (aS (am aZ (pv 4) aR (aq _)) (ah (az af)) aI)
  (ad (aS (am aZ (pv 4) aR (aq _)) (ah (az af)) aI)
  (ad (ao (i:=5) jx.nd rfl (Or.inl rfl) (au fN hr (zG0 _) rfl (aa (aP ix_tup (pv 0) af (fun _ _=>rfl)) (aa (pv 1) (aa (pv 2) (aa (pv 3) ae))))))
  (ad (aS (am aZ (pv 4) aR (aq _)) (ah (az (aj bd (aj bm af (pv 5)) (pv 3)))) aI)
  (ah (az (au dz hr (by omega) rfl (aa (pv 4) (aa (pv 5) (aa (au fN hr (zG0 _) rfl (aa (aP ix_tup (pv 0) af (fun _ _=>rfl)) (aa (pv 1) (aa (pv 2) (aa (pv 3) ae))))) (aa (pv 3) ae))))))))))))),?_⟩
 cases T with
 | @is q x e=>
   refine⟨_,rfl,q,_,0,_,rfl,rfl,zC0 e,rfl,?_⟩;refine⟨_,rfl,rfl,_,rfl,?_⟩;refine bh rfl ?_;obtain⟨j,hj,jl⟩:=gY ok;have jl':j<pt.length:=by omega
   refine⟨_,rfl,_,rfl,a,ns,rfl,hN,_,rfl,q,_,1,_,rfl,rfl,zC0 e,rfl,rfl,x,j,rfl,hj,b,_,(j:Int),.int pt[j],rfl,rfl,zC0 hb,?_,_,rfl,_,_,rfl,rfl,p0,?_⟩
   . refine cL ?_;rw[zR0,zK0 jl'];rfl
   . have e1:(Tr.is x).worth ns pt p=pt[j] % p:=by
      show(match eW x ns with | some j=>pt.getD j 0 | none=>0)=_;rw[hj];show pt.getD j 0=_;rw[qk jl']
      have:=po _ (qL0 jl')
      rw[qH0 this.1 this.2]
     rw[e1]at k;exact k
 | @yes q e=>
   refine⟨_,rfl,q,_,0,_,rfl,rfl,zC0 e,rfl,?_⟩;refine⟨_,rfl,rfl,_,rfl,?_⟩;refine aF (by decide +kernel) ?_;refine⟨_,rfl,rfl,_,rfl,?_⟩;exact bh rfl k
 | @no q e=>
   refine⟨_,rfl,q,_,0,_,rfl,rfl,zC0 e,rfl,?_⟩;refine⟨_,rfl,rfl,_,rfl,?_⟩;refine aF (by decide +kernel) ?_;refine⟨_,rfl,rfl,_,rfl,?_⟩;refine aF (by decide +kernel) ?_;refine⟨_,rfl,rfl,_,rfl,?_⟩;exact bh rfl k
 | @not q u r e T1=>
   have dp:r.depth+1<=n+1:=dn;refine⟨_,rfl,q,_,0,_,rfl,rfl,zC0 e,rfl,?_⟩;refine⟨_,rfl,rfl,_,rfl,?_⟩;refine aF (by decide +kernel) ?_;refine⟨_,rfl,rfl,_,rfl,?_⟩;refine aF (by decide +kernel) ?_;refine⟨_,rfl,rfl,_,rfl,?_⟩;refine aF (by decide +kernel) ?_;refine⟨_,rfl,q,_,1,_,rfl,rfl,zC0 e,rfl,_,rfl,_,rfl,_,rfl,u,r,a,b,ns,pt,p,rfl,T1,ok,by omega,hN,hb,sl,p1,p40,po,?_⟩;refine⟨_,rfl,rfl,_,rfl,?_⟩;refine bh rfl ?_;exact⟨_,rfl,_,_,rfl,rfl,_,rfl,_,_,rfl,rfl,p0,k⟩
 | @bin q o u u2 r r2 e T1 T2=>
   obtain⟨ho,ok1,ok2⟩:=ok;have dp:max r.depth r2.depth+1<=n+1:=dn;have ne:∀z:Str,z∉joinW->¬ V.str o=V.str z:=fun z hz h=>hz (ip h▸ho)
   refine⟨_,rfl,q,_,0,_,rfl,rfl,zC0 e,rfl,?_⟩;refine⟨_,rfl,rfl,_,rfl,?_⟩;refine aF (ne _ (by decide +kernel)) ?_;refine⟨_,rfl,rfl,_,rfl,?_⟩;refine aF (ne _ (by decide +kernel)) ?_;refine⟨_,rfl,rfl,_,rfl,?_⟩;refine aF (ne _ (by decide +kernel)) ?_;refine⟨_,rfl,q,_,1,_,rfl,rfl,zC0 e,rfl,_,rfl,_,rfl,_,rfl,u,r,a,b,ns,pt,p,rfl,T1,ok1,by omega,hN,hb,sl,p1,p40,po,?_⟩;refine⟨_,rfl,rfl,_,rfl,?_⟩;refine aF (ne _ (by decide +kernel)) ?_;have wr:=worth_rng p1 po sl r ok1;refine⟨_,rfl,_,rfl,_,rfl,q,_,2,_,rfl,rfl,zC0 e,rfl,_,rfl,_,rfl,_,rfl,u2,r2,a,b,ns,pt,p,rfl,T2,ok2,by omega,hN,hb,sl,p1,p40,po,?_⟩;exact⟨_,rfl,o,_,_,p,rfl,wr.1,wr.2,p40,k⟩
theorem uK {f:Addr} {fd:FuncData}:FnOk P w K mg base CX0 2 f fd ["tree","switches","point","p"] (jP 0):=by
 have no:∀vs H Q E,¬ jP 0 vs H Q E:=fun vs H Q E h=>by
  obtain⟨v,t,_,_,_,_,_,_,_,_,h1,_⟩:=h
  have:=t.depth_pos
  omega
 exact⟨fun vs H Q E h=>absurd h (no vs H Q E),fun A outer s H args us vs Q E _ _ _ _ h=>absurd h (no vs H Q E)⟩
theorem oi {f:Addr} {fd:FuncData} (F:Fun K "worth_of" "worth_of" eA f fd) (m:mg "worth_of"=some (.ref f)) (dz:Cal P w K mg base 1 "joined_worth" ["word","first","second","p"] Eo) :
 ∀n:Nat,FnOk P w K mg base CX0 (n+2) f fd ["tree","switches","point","p"] (jP n)
 | 0=>uK
 | n+1=>uL F dz (Cal.of F (oi F m dz n) m (fun _ _ _ _ _ _ us hl=>by obtain⟨u0,u1,u2,u3,rfl⟩:=qe hl;rfl))
theorem gs{H:Hp}{b:Addr}{ys zs:List V}(h:H b=some (.lst ys)):∀a xs,H a=some (.tup xs)->(upd H b (.lst zs)) a=some (.tup xs):=fun a xs e=>by
 rw[ay]
 . exact e
 . intro z;rw[z,h]at e;cases e
theorem at0(x:V)(xs:List V):atI (x::xs) 0=some x:=cL (j:=0) rfl
theorem ot{ts:List Tr}{i:Nat}{u:Tr}(h:ts[i]?=some u):ie (ts.take (i+1))=ie (ts.take i)++u.names:=by
 unfold ie;rw[qN0,h,zL0,List.flatten_append]
 simp
theorem qc(ts:List Tr):(ie ts).length<=iC ts:=by
 induction ts with
 | nil=>simp [ie,iC]
 | cons a r ih=>
   have:=a.names_len
   simp only[ie,iC,zZ0,List.flatten_cons,zM0,List.sum_cons]at ih ⊢;omega
theorem pB(ts:List Tr)(i:Nat):iC (ts.take i)<=iC ts:=by
 induction ts generalizing i with
 | nil=>simp
 | cons a r ih=>
   cases i with
   | zero=>simp [iC]
   | succ i=>
     have:=ih i
     simp only[iC,List.take_succ_cons,zZ0,List.sum_cons]at this ⊢;omega
def uU(n:Nat):Sp:=fun vs H Q _=>∃(v:V)(t:Tr),vs=[v]/\TreeAt H v t/\t.wf/\t.depth<=n/\t.size<=400/\∀(l:Addr)(H':Hp),H l=none->Same H H'->H' l=some (.lst (t.names.map V.str))->Q (.ref l) H'
theorem gE:FnScope ["_law_tree_here","_law_found","_law_part"] ["_law_tree_here"] (ag dA):=⟨rfl,rfl,rfl,by decide +kernel,rfl,by decide +kernel,by decide +kernel⟩
theorem Dj {n:Nat} {f:Addr} {fd:FuncData} (F:Fun K "_law_names_of" "_law_names_of" dA f fd) (cP:Cal P w K mg base (n+2) "_law_names_of" ["_law_tree_here"] (uU n)):FnOk P w K mg base CX0 (n+3) f fd ["_law_tree_here"] (uU (n+1)):=by
 refine F.ok gE (fun vs H Q E h=>?_) (fun cdv A outer s H vs Q E hr h=>?_)
 . obtain⟨v,t,rfl,_⟩:=h;rfl
 obtain ⟨v,t,rfl,T,wf,dn,sz,q⟩:=h;refine⟨_,(ad (aS (am aZ (aP ix_tup (pv 0) af (fun _ _=>rfl)) aR (aq _)) (ah (az (cw (aa (aP ix_tup (pv 0) af (fun _ _=>rfl)) ae)))) aI)
  (ad (ao (i:=1) gE.nd rfl (Or.inl rfl) (cw ae))
  (ad (da PassesOwn.never rfl (gq (iQ uW (pv 0) (jf af) lH)) (bX (i:=2) gE.nd rfl (Or.inl rfl)) (ah (ao (i:=1) gE.nd rfl (Or.inl rfl) (aj kX (pv 1) (au cP hr (zG0 _) rfl (aa (pv 2) ae))))))
  (ah (az (pv 1)))))),?_⟩
 rcases T.view wf with⟨a,x,rfl,rfl,_,e⟩ | ⟨a,o,xs,rfl,no,xl0,e,TS0,nis⟩
 . refine⟨_,rfl,a,_,0,_,rfl,rfl,zC0 e,rfl,rfl,_,rfl,?_⟩;refine bh rfl ?_;refine⟨_,rfl,a,_,1,_,rfl,rfl,zC0 e,rfl,(by show 1<=sizeLine;decide),fun p hp=>?_⟩;exact q p _ hp (zD0 hp _) ai
 . refine ⟨_,rfl,a,_,0,.str o,rfl,rfl,zC0 e,at0 ..,rfl,_,rfl,?_⟩;refine aF (fun z=>no (by injection z)) ?_;refine⟨(by show 0<=sizeLine;decide),fun L hL=>?_⟩;have G0:=zD0 hL (.lst []);obtain⟨c1,c2⟩:=cut1 (.str o) xs xl0;refine⟨_,rfl,1,rfl,a,_,rfl,zC0 (G0 _ _ e),c2,fun p hp=>?_⟩;rw[c1];have G1:=zD0 hp (.tup xs);have hp1:upd (upd H L (.lst [])) p (.tup xs) p=some (.tup xs):=ai;have hL1:upd (upd H L (.lst [])) p (.tup xs) L=some (.lst []):=G1 _ _ ai;have S1:Same H (upd (upd H L (.lst [])) p (.tup xs)):=G0.trans G1;generalize upd (upd H L (.lst [])) p (.tup xs)=H1 at hp1 hL1 S1;have TS:=TS0.mono (aG S1);have xl:=TS.length;have sp:=t.size_parts;refine⟨p,rfl,⟨_,zC0 hp1⟩,lZ (K:=K) (xs:=xs) (fun i σ H'=>∃(M:Addr)(x2:Option V),σ=[some (.ref a),some (.ref M),x2]/\H M=none/\H' M=some (.lst ((ie (t.parts.take i)).map V.str))/\Same H1 H') ⟨L,_,rfl,hL,hL1,Same.refl _⟩ (fun i σ H' _ hst=>by obtain⟨_,_,_,_,_,h⟩:=hst;exact zC0 (h _ _ hp1)) ?_ ?_⟩
   . rintro i x σ H2 hx ⟨M,x2,rfl,M0,hM,S2⟩;obtain⟨u,hu,Tu⟩:=TS.get hx;have um:=qG0 hu;obtain⟨uw,ud,us⟩:=Tr.parts_mem um wf;refine⟨_,rfl,_,rfl,x,u,rfl,Tu.mono (aG S2),uw,by omega,by omega,fun l H3 l0 S3 hl3=>?_⟩;have nl:=u.names_len;have nl2:=qc (t.parts.take i);have nl3:=pB t.parts i;refine⟨M,l,_,_,rfl,rfl,S3 _ _ hM,hl3,?_,fun r hr0=>?_⟩
     . rw[zE0,zE0];exact dX (by omega)
     . have S4:=(S2.trans S3).trans (zD0 hr0 (.lst ((ie (t.parts.take i)).map V.str++u.names.map V.str)));refine⟨r,_,rfl,(S1.trans (S2.trans S3)).free hr0,?_,S4⟩;rw[ai,ot hu,zL0]
   . rintro σ H2 ⟨M,x2,rfl,M0,hM,S2⟩;rw[xl,qM0,←t.names_parts nis]at hM;exact⟨_,rfl,q M H2 M0 (S1.trans S2) hM⟩
theorem Di {f:Addr} {fd:FuncData}:FnOk P w K mg base CX0 2 f fd ["_law_tree_here"] (uU 0):=by
 have no:∀vs H Q E,¬ uU 0 vs H Q E:=fun vs H Q E h=>by
  obtain⟨v,t,_,_,_,h1,_⟩:=h
  have:=t.depth_pos
  omega
 exact⟨fun vs H Q E h=>absurd h (no vs H Q E),fun A outer s H args us vs Q E _ _ _ _ h=>absurd h (no vs H Q E)⟩
theorem kI {f:Addr} {fd:FuncData} (F:Fun K "_law_names_of" "_law_names_of" dA f fd) (m:mg "_law_names_of"=some (.ref f)) :
 ∀n:Nat,FnOk P w K mg base CX0 (n+2) f fd ["_law_tree_here"] (uU n)
 | 0=>Di
 | n+1=>Dj F (Cal.of F (kI F m n) m (fun _ _ _ _ _ _ us hl=>by obtain⟨u0,rfl⟩:=gI hl;rfl))
theorem ld(ns:List Str)(z:Str):((ns.map V.str).countP fun y=>eqV y (.str z))=ns.count z:=by
 rw[List.countP_map];rfl
def SeqS(H:Hp)(a:Addr)(xs:List V):Prop:=H a=some (.tup xs)∨H a=some (.lst xs)
theorem SeqS.sq{K:W.Frag}{H:Hp}{a:Addr}{xs:List V}(h:SeqS H a xs):∃c:Bool,∀{H':Hp},Same H H'->SqB K c H' a xs:=by
 rcases h with h | h
 . exact⟨false,fun S=>zC0 (S _ _ h)⟩
 . exact⟨true,fun S=>zH0 (S _ _ h)⟩
theorem SeqS.len{K:W.Frag}{H:Hp}{a:Addr}{xs:List V}(h:SeqS H a xs):SqL K H a xs∨SqT K H a xs:=by
 rcases h with h | h
 . exact .inr (zC0 h)
 . exact .inl (zH0 h)
def Att(ts:List Tr)(ns:List Str)(m:Int):Prop:=m=2∨m=(ts.length:Int)-1∨∃t∈ts,∃x∈ns,m=(t.names.count x:Int)
theorem xz{K:W.Frag}{c:Bool}{a:Addr}{xs:List V}{g:TG}{tb:TS}{D:Ends}{σ:St}{H:Hp}(Pv:Nat->St->Hp->Prop)(h0:Pv 0 σ H)(hl:∀i σ H,i<=xs.length->Pv i σ H->SqB K c H a xs)
 (hs:∀i x σ H,xs[i]?=some x->Pv i σ H->g x σ H fun σ2 H2=>tb { D with nx:=Pv (i+1),ct:=Pv (i+1),bk:=D.nx } σ2 H2) (hd:∀ σ H,Pv xs.length σ H->D.nx σ H) :
 ∃ W:Nat->Nat->St->Hp->Prop,(∃m,W 0 m σ H)/\∀i m σ H,W i m σ H ->
  ((ItB K c a).stop i H/\D.nx σ H)∨((ItB K c a).go i H/\∃N:St->Hp->Prop,(∀ σ' H',N σ' H'->∃m',m'<m/\W (i+1) m' σ' H')/\∀x H',(ItB K c a).yld i H x H'->g x σ H' fun σ2 H2=>tb { D with nx:=N,ct:=N,bk:=D.nx } σ2 H2):=by
 cases c with
 | true=>exact jI (K:=K) (xs:=xs) Pv h0 hl hs hd
 | false=>exact lZ (K:=K) (xs:=xs) Pv h0 hl hs hd
def uT:Sp:=fun vs H Q _=>∃(a b:Addr)(ns:List Str)(tv:List V)(ts:List Tr),vs=[.ref a,.ref b]/\SeqS H a (ns.map V.str)/\SeqS H b tv/\TreesAt H tv ts/\ts.length<=10/\(∀t∈ts,t.wf/\t.depth<=10/\t.size<=400)/\
 ∀(m:Int)(H':Hp),Same H H'->2<=m->m<=400->(ts.length:Int)<=m+1->(∀t∈ts,∀x∈ns,(t.names.count x:Int)<=m)->Att ts ns m->Q (.int m) H'
theorem gN:FnScope ["_law_names_here","_law_trees","_law_need_here","_law_tree_here","_law_found","_law_name"] ["_law_names_here","_law_trees"] (ag iG):=⟨rfl,rfl,rfl,by decide +kernel,rfl,by decide +kernel,by decide +kernel⟩
theorem yz {f:Addr} {fd:FuncData} (F:Fun K "_law_need" "_law_need" iG f fd) (hlen:mg "len"=none) (hmax:mg "max"=none) (cP:Cal P w K mg base 12 "_law_names_of" ["_law_tree_here"] (uU 10)):FnOk P w K mg base CX0 13 f fd ["_law_names_here","_law_trees"] uT:=by
 refine F.ok gN (fun vs H Q E h=>?_) (fun cdv A outer s H vs Q E hr h=>?_)
 . obtain⟨a,b,ns,tv,ts,rfl,_⟩:=h;rfl
 obtain ⟨a,b,ns,tv,ts,rfl,ha,hb,TS,tl,tok,q⟩:=h;refine⟨_,(ad (ao (i:=2) gN.nd rfl (Or.inl rfl) (aJ (re rfl) rfl hmax PyProof.Rows.boot_max (aa af (aa (aj bm (aJ aE rfl hlen PySem.boot_len (aa (pv 1) ae)) af) ae))))
  (ad (da PassesOwn.never rfl (AJ (pv 1)) (bX (i:=3) gN.nd rfl (Or.inl rfl)) (ad (ao (i:=4) gN.nd rfl (Or.inl rfl) (au cP hr (by decide) rfl (aa (pv 3) ae)))
   (ah (da PassesOwn.never rfl (AJ (pv 0)) (bX (i:=5) gN.nd rfl (Or.inl rfl)) (ah (ao (i:=2) gN.nd rfl (Or.inl rfl) (aJ (re rfl) rfl hmax PyProof.Rows.boot_max (aa (pv 2) (aa (iR PySem.F.plainAttrs_list PySem.F.slot_list_count PySem.F.type_list_count uf (pv 4) (aa (pv 5) ae)) ae)))))))))
  (ah (az (pv 2))))),?_⟩
 have vl:=TS.length;obtain⟨ca,qa⟩:=SeqS.sq (K:=K) ha;obtain⟨cb,qb⟩:=SeqS.sq (K:=K) hb;refine⟨_,rfl,b,_,rfl,SeqS.len hb,_,_,rfl,rfl,_,_,rfl,?_⟩;obtain⟨m,em,m2,m4,mt,ma⟩:∃m:Int,(if((tv.length:Int)-1)>2 then((tv.length:Int)-1)else 2)=m/\2<=m/\m<=400/\(ts.length:Int)<=m+1/\Att ts ns m:=⟨_,rfl,by split <;> omega,by split <;> omega,by split <;> omega,by
  split
  . exact .inr (.inl (by rw[vl]))
  . exact .inl rfl⟩
 rw [em];refine⟨_,rfl,cb,b,rfl,⟨_,qb (Same.refl _)⟩,xz (K:=K) (c:=cb) (xs:=tv) (fun i σ H'=>∃(m:Int)(x3 x4 x5:Option V),σ=[some (.ref a),some (.ref b),some (.int m),x3,x4,x5]/\2<=m/\m<=400/\(ts.length:Int)<=m+1/\(∀t∈ts.take i,∀x∈ns,(t.names.count x:Int)<=m)/\Att ts ns m/\Same H H')
  ⟨m,_,_,_,rfl,m2,m4,mt,by simp,ma,Same.refl _⟩ (fun i σ H' _ hst=>by obtain⟨_,_,_,_,_,_,_,_,_,_,h⟩:=hst;exact qb h) ?_ ?_⟩
 . rintro i v σ H1 hv ⟨m,x3,x4,x5,rfl,m2,m4,mt,mc,ma,S1⟩;obtain⟨t,ht,T⟩:=TS.get hv;have tm:=qG0 ht;obtain⟨tw,td,tz⟩:=tok t tm;refine⟨_,rfl,v,t,rfl,T.mono (aG S1),tw,by omega,tz,fun l H2 l0 S2 hl=>?_⟩;have S12:=S1.trans S2;have tn:=t.names_len;refine⟨_,rfl,ca,a,rfl,⟨_,qa S12⟩,xz (K:=K) (c:=ca) (xs:=ns.map V.str) (fun j σ H'=>∃(m':Int)(x5:Option V),σ=[some (.ref a),some (.ref b),some (.int m'),some v,some (.ref l),x5]/\m<=m'/\m'<=400/\(∀x∈ns.take j,(t.names.count x:Int)<=m')/\Att ts ns m'/\H'=H2)
    ⟨m,_,rfl,Int.le_refl _,m4,by simp,ma,rfl⟩ (fun j σ H' _ hst=>by obtain⟨_,_,_,_,_,_,_,h⟩:=hst;subst h;exact qa S12) ?_ ?_⟩
   . rintro j y σ H3 hy ⟨m',y5,rfl,mm,m4',mc',ma',rfl⟩;rw[zR0]at hy;obtain⟨x,hx,rfl⟩:=qV0 hy;refine⟨_,rfl,_,rfl,.inl ⟨rfl,_,zH0 hl⟩,_,rfl,l,_,_,rfl,rfl,zH0 hl,gt _,rfl,_,_,rfl,?_⟩;rw[ld];have cl:=List.count_le_length (a:=x) (l:=t.names);refine⟨_,_,rfl,by split <;> omega,by split <;> omega,fun z hz=>?_,by
      split
      . exact .inr (.inr ⟨t,tm,x,qG0 hx,rfl⟩)
      . exact ma',rfl⟩
     rw[qN0,hx]at hz;rcases qJ0 hz with h | h
     . have:=mc' z h
       split <;> omega
     . have e:z=x:=by simpa using h
       subst e
       split <;> omega
   . rintro σ H3 ⟨m',y5,rfl,mm,m4',mc',ma',rfl⟩;rw[zE0,qM0]at mc';refine⟨m',_,_,_,rfl,by omega,m4',by omega,fun u hu x hx=>?_,ma',S12⟩;rw[qN0,ht]at hu;rcases qJ0 hu with h | h
     . have:=mc u h x hx
       omega
     . have e:u=t:=by simpa using h
       subst e;exact mc' x hx
 . rintro σ H1 ⟨m,x3,x4,x5,rfl,m2,m4,mt,mc,ma,S1⟩;rw[vl,qM0]at mc;exact⟨_,rfl,q m H1 S1 m2 m4 mt mc ma⟩
def lr:Sp:=fun vs H Q _=>∃n:Int,vs=[.int n]/\∀b:Bool,(b=true↔Pr n)->Q (.bl b) H
theorem ow:FnScope ["_law_number","_law_k"] ["_law_number"] (ag dQ):=⟨rfl,rfl,rfl,by decide +kernel,rfl,by decide +kernel,by decide +kernel⟩
theorem qB {f:Addr} {fd:FuncData} (F:Fun K "_law_is_prime" "_law_is_prime" dQ f fd) (hrange:mg "range"=none):FnOk P w K mg base CX0 1 f fd ["_law_number"] lr:=by
 refine F.ok ow (fun vs H Q E h=>?_) (fun cdv A outer s H vs Q E hr h=>?_)
 . obtain⟨n,rfl,_⟩:=h;rfl
 obtain ⟨n,rfl,q⟩:=h;refine⟨_,(ad (aS (am gO (pv 0) af (aq _)) (ah (az lN)) aI)
  (ad (da PassesOwn.never rfl (yv rfl hrange (aa af (aa af ae))) (bX (i:=1) ow.nd rfl (Or.inl rfl)) (ad (aS (am ic (aj cq (pv 1) (pv 1)) (pv 0) (aq _)) (ah (az lN)) aI)
   (ah (aS (am aZ (aj bd (pv 0) (pv 1)) af (aq _)) (ah (az lN)) aI))))
  (ah (az lN)))),?_⟩
 refine⟨_,rfl,_,_,rfl,rfl,_,rfl,?_⟩;refine lU (fun c=>?_) (fun c=>?_)
 . have c':=of_decide_eq_true c;exact q false ⟨fun z=>(nomatch z),fun z=>by have:=z.1;omega⟩
 have c':¬ n<2:=of_decide_eq_false (Bool.eq_false_iff.mpr c);refine⟨2,1001,rfl,⟨by decide,by decide,by decide,by decide⟩,dU (fun i σ H'=>∃x,σ=[some (.int n),x]/\H'=H/\nU n (2+(i:Int))) ⟨_,rfl,rfl,by simpa using uM n⟩ ?_ ?_⟩
 . rintro i σ H' hi ⟨x,rfl,rfl,u⟩;have hi':i<999:=hi;refine⟨_,rfl,_,rfl,_,_,rfl,rfl,.inl ⟨by omega,by omega⟩,_,rfl,_,_,rfl,rfl,_,rfl,?_⟩;refine lU (fun c1=>?_) (fun c1=>?_)
   . have c2:=of_decide_eq_true c1;exact q true ⟨fun _=>Ey (by omega) (by omega) u c2,fun _=>rfl⟩
   . have c2:=of_decide_eq_false (Bool.eq_false_iff.mpr c1);refine⟨_,rfl,_,rfl,_,_,rfl,rfl,(show(0:Int)<2+(i:Int) by omega),rfl,_,rfl,?_⟩;refine lU (fun c3=>?_) (fun c3=>?_)
     . have c4:=V.int.inj (of_decide_eq_true c3);exact q false ⟨fun z=>(nomatch z),fun z=>(Ew (by omega) (by omega) (by omega) c4 z).elim⟩
     . have c4:=of_decide_eq_false (Bool.eq_false_iff.mpr c3);refine⟨_,rfl,rfl,?_⟩;have e:(2:Int)+((i+1:Nat):Int)=2+(i:Int)+1:=by omega
       rw[e];exact xQ u (by omega) (fun z=>c4 (congrArg V.int z))
 . rintro σ H' ⟨x,rfl,rfl,u⟩;exact q true ⟨fun _=>Ez (by omega) u,fun _=>rfl⟩
def tf:Sp:=fun vs H Q _=>∃(f:Addr)(m:Int),vs=[.ref f,.int m]/\FeedAt H f/\2<=m/\m<=400/\∀(p:Int)(H':Hp),Pr p->m<p->p<=999983->FeedAt H' f->SameBut f H H'->Q (.int p) H'
theorem vf{f:Addr}{m fm:Int}{D:Ends}{H:Hp}(hD:∀p:Int,Pr p->m<p->p<=999983->D.nx [some (.ref f),some (.int m),some (.int fm),some (.int p)] H)(n:Int)(h1:m<n)(h2:n<=999983) :
 zF (tNot (tB (zJ lr [] E0 (zH (Cq 3) Cs)))) (Ct (tOp (rI0 fun i j=>V.int (i+j)) (Cq 3) (tC (V.int 1))) (xy 3)) D [some (.ref f),some (.int m),some (.int fm),some (.int n)] H:=by
 refine⟨fun mm σ H'=>∃n:Int,σ=[some (.ref f),some (.int m),some (.int fm),some (.int n)]/\H'=H/\m<n/\n<=999983/\mm=(999983-n).toNat,⟨_,_,rfl,rfl,h1,h2,rfl⟩,?_⟩;rintro mm σ H' ⟨n,rfl,rfl,n0,n1,rfl⟩;refine⟨_,rfl,n,rfl,fun b hb=>⟨b,rfl,?_⟩⟩;cases b with
 | true=>exact gJ (hD n (hb.mp rfl) n0 n1)
 | false=>
   refine ji ?_;refine⟨_,fun _ _ h=>h,?_⟩;have ne:n≠999983:=fun z=>by
    subst z;exact nomatch hb.mpr qQ
   refine⟨_,rfl,_,_,rfl,rfl,?_⟩;exact⟨_,by omega,n+1,rfl,rfl,by omega,by omega,rfl⟩
theorem fO:FnScope ["_law_feed_here","_law_need_here","_law_form","_law_number"] ["_law_feed_here","_law_need_here"] (ag gU):=⟨rfl,rfl,rfl,by decide +kernel,rfl,by decide +kernel,by decide +kernel⟩
theorem vx {f:Addr} {fd:FuncData} (F:Fun K "_law_field" "_law_field" gU f fd) (aQ:Cal P w K mg base 1 "_law_take" ["_law_feed_here","_law_many"] kO) (fh:Cal P w K mg base 1 "_law_is_prime" ["_law_number"] lr):FnOk P w K mg base CX0 2 f fd ["_law_feed_here","_law_need_here"] tf:=by
 refine F.ok fO (fun vs H Q E h=>?_) (fun cdv A outer s H vs Q E hr h=>?_)
 . obtain⟨f,m,rfl,_⟩:=h;rfl
 obtain ⟨f,m,rfl,hF,m2,m4,q⟩:=h;refine⟨_,(ad (ao (i:=2) fO.nd rfl (Or.inl rfl) (au aQ hr (by decide) rfl (aa (pv 0) (aa af ae))))
  (ad (ao (i:=3) fO.nd rfl (Or.inl rfl) (aj aU (pv 1) af))
  (ad (aS (am aZ (pv 2) af (aq _)) (ah (ao (i:=3) fO.nd rfl (Or.inl rfl) (aj aU (aj aU (pv 1) af) (au aQ hr (by decide) rfl (aa (pv 0) (aa af ae)))))) aI)
  (ad (aS (am aZ (pv 2) af (aq _)) (ah (ao (i:=3) fO.nd rfl (Or.inl rfl) (aj aU (aj aU (pv 1) af) (au aQ hr (by decide) rfl (aa (pv 0) (aa (aj bm af (pv 1)) ae)))))) aI)
  (ad (ia PassesOwn.never (nq (kR (au fh hr (by decide) rfl (aa (pv 3) ae)))) (ah (ao (i:=3) fO.nd rfl (Or.inl rfl) (aj aU (pv 3) af))))
  (ah (az (pv 3)))))))),?_⟩
 refine⟨_,rfl,f,4,rfl,hF,by decide,by decide,fun fm H1 _ _ F1 S1=>?_⟩;refine⟨_,rfl,_,_,rfl,rfl,?_⟩;refine⟨_,rfl,rfl,_,rfl,?_⟩;refine lU (fun c1=>?b1) (fun c1=>?b2)
 case' b1=>
  refine⟨_,rfl,_,_,rfl,rfl,_,rfl,f,60,rfl,F1,by decide,by decide,fun d H2 d0 d1 F2 S2=>?_⟩;refine⟨_,_,rfl,rfl,?_⟩;have G2:=S1.trans S2;have n1:m<m+1+d:=by omega
  have n2:m+1+d<=999983:=by omega
 case' b2=>
  have F2:=F1;have G2:=S1;have n1:m<m+1:=by omega
  have n2:m+1<=999983:=by omega
 all_goals
  refine⟨_,rfl,rfl,_,rfl,?_⟩;refine lU (fun c2=>?_) (fun c2=>?_);refine⟨_,rfl,_,_,rfl,rfl,_,rfl,_,rfl,_,_,rfl,rfl,f,_,rfl,F2,(show(0:Int)<999983-m by omega),(show(999983:Int)-m<2 ^ 63 by omega),fun d H3 d0 d1 F3 S3=>?_⟩;refine⟨_,_,rfl,rfl,?_⟩;have G3:=G2.trans S3;clear n1 n2;have n1:m<m+1+d:=by omega
  have n2:m+1+d<=999983:=by
   have:d<999983-m:=d1
   omega
  rotate_left
  have F3:=F2;have G3:=G2
  rotate_left
  all_goals
   refine vf (fun p pp mp p9=>?_) _ n1 n2;exact⟨_,rfl,q p _ pp mp p9 F3 G3⟩
def zY:Sp:=fun vs H Q _=>∃(f:Addr)(most room:Int),vs=[.ref f,.int most,.int room]/\FeedAt H f/\0<=most/\most<=6/\1<=room/\room<=30/\
 ∀(g a b:Addr)(ns:List Str)(tv:List V)(ts:List Tr)(p:Int)(H':Hp),H' g=some (.tup [.ref a,.ref b,.int p])->H' a=some (.tup (ns.map V.str))->(ns.length:Int)<=most->(∀x∈ns,wp x)->ns.Nodup->H' b=some (.tup tv)->TreesAt H' tv ts->1<=ts.length->ts.length<=4 ->
  (∀t∈ts,t.ok ns/\t.depth<=9/\(t.size:Int)<=room)->Pr p->2<p->p<=999983->(ts.length:Int)<=p->(∀t∈ts,∀x∈ns,(t.names.count x:Int)<p)->FeedAt H' f->SameBut f H H'->Q (.ref g) H'
theorem mB{m:Int}(h0:0<=m)(h6:m<=6):(0:Int)<m+1/\m+1<2 ^ 63:=by omega
theorem zB{z:Int}(h0:1<=z)(h6:z<=4):-(2 ^ 62)<=z/\z<2 ^ 62:=by omega
theorem rB{r:Int}(h0:1<=r)(h6:r<=30):0<r/\r<2 ^ 63:=by omega
theorem eB{e r:Int}(h0:0<=e)(h1:e<r)(h6:r<=30):(1:Int)<=1+e/\(1:Int)+e<=100:=by omega
theorem ju:FnScope ["_law_feed_here","_law_most","_law_room","_law_names_here","_law_many","_law_trees"] ["_law_feed_here","_law_most","_law_room"] (ag iH):=⟨rfl,rfl,rfl,by decide +kernel,rfl,by decide +kernel,by decide +kernel⟩
theorem yA {f:Addr} {fd:FuncData} (F:Fun K "_law_game" "_law_game" iH f fd) (hrange:mg "range"=none) (htuple:mg "tuple"=none) (aQ:Cal P w K mg base 1 "_law_take" ["_law_feed_here","_law_many"] kO) (gQ:Cal P w K mg base 2 "_law_names" ["_law_feed_here","_law_many"] pq)
 (gF:Cal P w K mg base 12 "_law_tree" ["_law_feed_here","_law_names_here","_law_room","_law_deep"] (mJ 10)) (iq:Cal P w K mg base 13 "_law_need" ["_law_names_here","_law_trees"] uT) (o5:Cal P w K mg base 2 "_law_field" ["_law_feed_here","_law_need_here"] tf):FnOk P w K mg base CX0 14 f fd ["_law_feed_here","_law_most","_law_room"] zY:=by
 refine F.ok ju (fun vs H Q E h=>?_) (fun cdv A outer s H vs Q E hr h=>?_)
 . obtain⟨f,most,room,rfl,_⟩:=h;rfl
 obtain ⟨f,most,room,rfl,hF,m0,m6,r1,r30,q⟩:=h;refine⟨_,(ad (ao (i:=3) ju.nd rfl (Or.inr rfl) (au gQ hr (by decide) rfl (aa (pv 0) (aa (au aQ hr (by decide) rfl (aa (pv 0) (aa (aj aU (pv 1) af) ae))) ae))))
  (ad (ao (i:=4) ju.nd rfl (Or.inl rfl) (aP ix_list (cw (aa af (aa af (aa af (aa af (aa af (aa af ae))))))) (au aQ hr (by decide) rfl (aa (pv 0) (aa af ae))) (fun _ _=>rfl)))
  (ad (sg (i:=5) (N:=["_law_room","_law_names_here","_law_feed_here"]) (ix:=[2,3,0]) ju.nd rfl (Or.inl rfl) rfl
   (CompScope.three (by with_unfolding_all rfl) (by decide) rfl (by decide) rfl (by decide +kernel) rfl (by with_unfolding_all rfl) (by with_unfolding_all rfl) (by with_unfolding_all rfl) (by with_unfolding_all rfl) (by with_unfolding_all rfl) rfl rfl (by with_unfolding_all rfl) rfl rfl (by with_unfolding_all rfl) rfl rfl) rfl
   (cF rfl hrange (aa (pv 4) ae))
   (fun _ _ _=>dF (au gF hr (by decide) rfl (aa (pv 3) (aa (pv 2) (aa (aj aU af (au aQ hr (by decide) rfl (aa (pv 3) (aa (pv 1) ae)))) (aa af ae)))))))
  (ah (az (bc (aa (bq ba rfl htuple bi (aa (pv 3) ae)) (aa (bq ba rfl htuple bi (aa (pv 5) ae)) (aa (au o5 hr (by decide) rfl (aa (pv 0) (aa (au iq hr (by decide) rfl (aa (pv 3) (aa (pv 5) ae))) ae))) ae))))))))),?_⟩
 refine ⟨_,rfl,_,rfl,_,rfl,_,_,rfl,rfl,f,_,rfl,hF,(mB m0 m6).1,(mB m0 m6).2,fun mk H1 k0 k7 F1 S1=>?_⟩;refine⟨f,mk,rfl,F1,k0,by omega,fun nl ns H2 nl0 nlf hnl nsl nok nnd F2 S2=>?_⟩;have S02:=S1.trans S2;refine⟨(by show 6<=sizeLine;decide),fun l hl=>?_⟩;have lf:=F2.ne hl;have G2:=zD0 hl (.lst [.int 1,.int 1,.int 1,.int 2,.int 3,.int 4]);refine⟨_,rfl,f,6,rfl,F2.same G2,by decide,by decide,fun j H3 j0 j6 F3 S3=>?_⟩;have hl3:=S3 l _ lf ai;obtain⟨x,hx,xm⟩:=rC (l:=[V.int 1,V.int 1,V.int 1,V.int 2,V.int 3,V.int 4]) (i:=j) j0 (by show j<6;omega);obtain⟨z,rfl,z0,z4⟩:∃z:Int,x=.int z/\1<=z/\z<=4:=by
  simp only[List.mem_cons,List.not_mem_nil,or_false]at xm;rcases xm with h | h | h | h | h | h <;> exact⟨_,h,by decide,by decide⟩
 refine⟨l,_,_,_,rfl,rfl,zH0 hl3,hx,?_⟩;have S23:SameBut f H2 H3:=(zJ0 G2).trans S3;have hnl3:=S23 nl _ nlf hnl;have S03:=S02.trans S23;have nl6:ns.length<=6:=by omega
 refine⟨_,rfl,z,rfl,(zB z0 z4).1,(zB z0 z4).2,fun D hD=>?_⟩;have Df:=F3.ne hD;have nD:nl≠D:=aO hnl3 hD;have GD:=zD0 hD (.lst []);refine gu (fun i H'=>∃(tv:List V)(ts:List Tr),H' D=some (.lst tv)/\TreesAt H' tv ts/\ts.length=i/\(∀t∈ts,t.ok ns/\t.depth<=9/\(t.size:Int)<=room)/\FeedAt H' f/\SameBut f H3 H') ⟨[],[],ai,.nil,rfl,(fun t ht=>by cases ht),F3.same GD,zJ0 GD⟩ ?_ ?_
 . rintro i H4 hi ⟨tv,ts,hD4,TS,tl,tok,F4,S4⟩;have hi':i<z.toNat:=hi;have hnl4:=S4 nl _ nlf hnl3;refine⟨_,rfl,_,rfl,_,rfl,_,rfl,f,room,rfl,F4,(rB r1 r30).1,(rB r1 r30).2,fun e H5 e0 e1 F5 S5=>?_⟩;have hnl5:=S5 nl _ nlf hnl4;refine⟨_,_,rfl,rfl,f,nl,_,_,ns,rfl,F5,.inl hnl5,nl6,(eB e0 e1 r30).1,(eB e0 e1 r30).2,by decide,by decide,fun v t H6 F6 S6 T6 ok6 sz6 dp6=>?_⟩;have S46:=S5.trans S6;have hD6:=S46 D _ Df hD4;have k46:=cM F4 S46;have vl:=TS.length;refine⟨_,hD6,aW (by omega),Nx.of hi ⟨tv++[v],ts++[t],ai,?_,?_,?_,iT F6 Df,?_⟩⟩
   . have k:=gs (H:=H6) (b:=D) (ys:=tv) (zs:=tv++[v]) hD6;exact((TS.mono k46).mono k).append (.cons (T6.mono k) .nil)
   . rw[zM0,qE0,tl]
   . intro u hu;rcases qJ0 hu with h | h
     . exact tok u h
     . rw[zT0 h];have d9:(t.depth:Int)<=9:=dp6;have s9:(t.size:Int)<=1+e:=sz6;exact⟨ok6,by omega,by omega⟩
   . intro b o hb eb;rw[ay (aO eb hD)];exact S46 b o hb (S4 b o hb eb)
 . rintro H4 ⟨tv,ts,hD4,TS,tl,tok,F4,S4⟩;have hnl4:=S4 nl _ nlf hnl3;have tl':ts.length=z.toNat:=tl;have tl1:1<=ts.length:=by omega
   have tl4:ts.length<=4:=by omega
   refine⟨_,rfl,nl,_,rfl,.inl ⟨zH0 hnl4,fun a ha=>?_⟩⟩;have Ga:=zD0 ha (.tup (ns.map V.str));refine⟨_,rfl,D,_,rfl,.inl ⟨zH0 (Ga _ _ hD4),fun b hb=>?_⟩⟩;have Gb:=zD0 hb (.tup tv);have Gab:=Ga.trans Gb;have wfs:∀t∈ts,t.wf:=fun t ht=>Tr.ok_wf nok t (tok t ht).1
   refine⟨_,rfl,_,rfl,_,rfl,nl,D,ns,tv,ts,rfl,.inr (Gab _ _ hnl4),.inr (Gab _ _ hD4),TS.mono (aG Gab),qC0 tl4 (by decide),fun t ht=>⟨wfs t ht,qC0 (tok t ht).2.1 (by decide),by have:=(tok t ht).2.2;omega⟩,fun m H5 S5 m2 m4 mt mc _=>?_⟩;have F5:=(F4.same Gab).same S5;refine⟨f,m,rfl,F5,m2,m4,fun p H6 pp mp p9 F6 S6=>?_⟩;refine⟨(by show 3<=sizeLine;decide),fun g hg=>?_⟩;have Gg:=zD0 hg (.tup [.ref a,.ref b,.int p]);have k6:cx (upd (upd H4 a (.tup (ns.map V.str))) b (.tup tv)) (upd H6 g (.tup [.ref a,.ref b,.int p])):=fun c ys h=>Gg _ _ (cM F5 S6 _ _ (S5 _ _ h))
   refine q g a b ns tv ts p _ ai (k6 _ _ (Gb _ _ ai)) (by omega) nok nnd (k6 _ _ ai) ((TS.mono (aG Gab)).mono k6) tl1 tl4 tok pp (by omega) p9 (by omega) (fun t ht x hx=>by have:=mc t ht x hx;omega) (F6.same Gg) ?_;exact S03.trans (S4.trans ((zJ0 (Gab.trans S5)).trans (S6.trans (zJ0 Gg))))
def jr:Sp:=fun vs H Q _=>∃(v:V)(t:Tr),vs=[v]/\TreeAt H v t/\t.wf/\∀(p:Addr)(xs:List V)(H':Hp),Same H H'->H' p=some (.tup xs)->TreesAt H' xs t.parts->Q (.ref p) H'
theorem oE:FnScope ["tree"] ["tree"] (ag di):=⟨rfl,rfl,rfl,by decide +kernel,rfl,by decide +kernel,by decide +kernel⟩
theorem oG {f:Addr} {fd:FuncData} (F:Fun K "trees_within" "trees_within" di f fd):FnOk P w K mg base CX0 1 f fd ["tree"] jr:=by
 refine F.ok oE (fun vs H Q E h=>?_) (fun cdv A outer s H vs Q E hr h=>?_)
 . obtain⟨v,t,rfl,_⟩:=h;rfl
 obtain ⟨v,t,rfl,T,wf,q⟩:=h;refine⟨_,(ad (aS (am aZ (aP ix_tup (pv 0) af (fun _ _=>rfl)) aR (aq _)) (ah (az (bc ae))) aI)
  (ah (az (iQ uW (pv 0) (jf af) lH)))),?_⟩
 rcases T.view wf with⟨a,x,rfl,rfl,_,e⟩ | ⟨a,o,xs,rfl,no,xl,e,TS,_⟩
 . refine⟨_,rfl,a,_,0,_,rfl,rfl,zC0 e,rfl,rfl,_,rfl,?_⟩;refine bh rfl ?_;refine⟨(by show 0<=sizeLine;decide),fun p hp=>?_⟩;exact q p [] _ (zD0 hp _) ai .nil
 . refine⟨_,rfl,a,_,0,.str o,rfl,rfl,zC0 e,at0 ..,rfl,_,rfl,?_⟩;refine aF (fun z=>no (by injection z)) ?_;obtain⟨c1,c2⟩:=cut1 (.str o) xs xl;refine⟨_,rfl,1,rfl,a,_,rfl,zC0 e,c2,fun p hp=>?_⟩;rw[c1];exact q p xs _ (zD0 hp _) ai (TS.mono (aG (zD0 hp _)))
def fL(n:Nat):Sp:=fun vs H Q _=>∃(v:V)(t:Tr),vs=[v]/\TreeAt H v t/\t.wf/\t.depth<=n/\t.size<=400/\∀(l:Addr)(H':Hp),H l=none->Same H H'->H' l=some (.lst (t.names.map V.str))->Q (.ref l) H'
theorem jU:FnScope ["tree","names","part"] ["tree"] (ag eD):=⟨rfl,rfl,rfl,by decide +kernel,rfl,by decide +kernel,by decide +kernel⟩
theorem vD {n:Nat} {f:Addr} {fd:FuncData} (F:Fun K "names_in" "names_in" eD f fd) (bp:Cal P w K mg base 1 "trees_within" ["tree"] jr) (eZ:Cal P w K mg base (n+2) "names_in" ["tree"] (fL n)):FnOk P w K mg base CX0 (n+3) f fd ["tree"] (fL (n+1)):=by
 refine F.ok jU (fun vs H Q E h=>?_) (fun cdv A outer s H vs Q E hr h=>?_)
 . obtain⟨v,t,rfl,_⟩:=h;rfl
 obtain ⟨v,t,rfl,T,wf,dn,sz,q⟩:=h;refine⟨_,(ad (aS (am aZ (aP ix_tup (pv 0) af (fun _ _=>rfl)) aR (aq _)) (ah (az (cw (aa (aP ix_tup (pv 0) af (fun _ _=>rfl)) ae)))) aI)
  (ad (ao (i:=1) jU.nd rfl (Or.inl rfl) (cw ae))
  (ad (da PassesOwn.never rfl (gq (au bp hr (by omega) rfl (aa (pv 0) ae))) (bX (i:=2) jU.nd rfl (Or.inl rfl)) (ah (bL (iR PySem.F.plainAttrs_list PySem.F.slot_list_extend PySem.F.type_list_extend yN (pv 1) (aa (au eZ hr (zG0 _) rfl (aa (pv 2) ae)) ae)))))
  (ah (az (pv 1)))))),?_⟩
 have wf':=wf;rcases T.view wf with⟨a,x,rfl,rfl,_,e⟩ | ⟨a,o,xs0,rfl,no,xl0,e,_,nis⟩
 . refine⟨_,rfl,a,_,0,_,rfl,rfl,zC0 e,rfl,rfl,_,rfl,?_⟩;refine bh rfl ?_;refine⟨_,rfl,a,_,1,_,rfl,rfl,zC0 e,rfl,(by show 1<=sizeLine;decide),fun p hp=>?_⟩;exact q p _ hp (zD0 hp _) ai
 . refine ⟨_,rfl,a,_,0,.str o,rfl,rfl,zC0 e,at0 ..,rfl,_,rfl,?_⟩;refine aF (fun z=>no (by injection z)) ?_;refine⟨(by show 0<=sizeLine;decide),fun L hL=>?_⟩;have G0:=zD0 hL (.lst []);refine⟨_,rfl,_,t,rfl,T.mono (aG G0),wf,fun p xs H1 S1 hp TS=>?_⟩;have hL1:H1 L=some (.lst []):=S1 _ _ ai;have pL:p≠L:=fun z=>by rw[z,hL1]at hp;cases hp
   have xl:=TS.length;have sp:=t.size_parts;refine⟨p,rfl,⟨_,zC0 hp⟩,lZ (K:=K) (xs:=xs) (fun i σ H'=>∃x2,σ=[some (.ref a),some (.ref L),x2]/\H' L=some (.lst ((ie (t.parts.take i)).map V.str))/\SameBut L H1 H') ⟨_,rfl,hL1,SameBut.refl _ _⟩ (fun i σ H' _ hst=>by obtain⟨_,_,_,h⟩:=hst;exact zC0 (h _ _ pL hp)) ?_ ?_⟩
   . rintro i x σ H2 hx ⟨x2,rfl,hl,S2⟩;obtain⟨u,hu,Tu⟩:=TS.get hx;have um:=qG0 hu;obtain⟨uw,ud,us⟩:=Tr.parts_mem um wf;have Tu2:TreeAt H2 x u:=Tu.mono fun b ys h=>S2 b _ (fun z=>by rw[z,hL1]at h;cases h) h
     refine⟨_,rfl,.inl ⟨rfl,_,zH0 hl⟩,_,rfl,x,u,rfl,Tu2,uw,by omega,by omega,fun l H3 l0 S3 hl3=>?_⟩;have nl:=u.names_len;have nl2:=qc (t.parts.take i);have nl3:=pB t.parts i;refine⟨L,l,_,_,rfl,rfl,S3 _ _ hl,hl3,?_,?_⟩
     . rw[zE0,zE0];exact dX (by omega)
     refine⟨_,rfl,?_,fun b o hb h=>?_⟩
     . rw[ai,ot hu,zL0]
     . rw[ay hb];exact S3 _ _ (S2 _ _ hb h)
   . rintro σ H2 ⟨x2,rfl,hl,S2⟩;rw[xl,qM0,←t.names_parts nis]at hl;refine⟨_,rfl,?_⟩;refine q L H2 hL (fun b o h=>?_) hl;exact S2 b o (aO h hL) (S1 _ _ (G0 _ _ h))
theorem vC {f:Addr} {fd:FuncData}:FnOk P w K mg base CX0 2 f fd ["tree"] (fL 0):=by
 have no:∀vs H Q E,¬ fL 0 vs H Q E:=fun vs H Q E h=>by
  obtain⟨v,t,_,_,_,h1,_⟩:=h
  have:=t.depth_pos
  omega
 exact⟨fun vs H Q E h=>absurd h (no vs H Q E),fun A outer s H args us vs Q E _ _ _ _ h=>absurd h (no vs H Q E)⟩
theorem om {f:Addr} {fd:FuncData} (F:Fun K "names_in" "names_in" eD f fd) (m:mg "names_in"=some (.ref f)) (bp:Cal P w K mg base 1 "trees_within" ["tree"] jr) :
 ∀n:Nat,FnOk P w K mg base CX0 (n+2) f fd ["tree"] (fL n)
 | 0=>vC
 | n+1=>vD F bp (Cal.of F (om F m bp n) m (fun _ _ _ _ _ _ us hl=>by obtain⟨u0,rfl⟩:=gI hl;rfl))
def wM:Sp:=fun vs H Q _=>∃n:Int,vs=[.int n]/\n<=999999/\∀b:Bool,(b=true↔2<n/\Pr n)->Q (.bl b) H
theorem j4:FnScope ["number","divisor"] ["number"] (ag gj):=⟨rfl,rfl,rfl,by decide +kernel,rfl,by decide +kernel,by decide +kernel⟩
theorem ua {f:Addr} {fd:FuncData} (F:Fun K "is_field" "is_field" gj f fd):FnOk P w K mg base CX0 1 f fd ["number"] wM:=by
 refine F.ok j4 (fun vs H Q E h=>?_) (fun cdv A outer s H vs Q E hr h=>?_)
 . obtain⟨n,rfl,_⟩:=h;rfl
 obtain ⟨n,rfl,n9,q⟩:=h;refine⟨_,(ad (aS (PW.pt (og (am gO (pv 0) af (aq _)) (kQ (am aZ (aj bd (pv 0) af) af (aq _))))) (ah (az lN)) aI)
  (ad (ao (i:=1) j4.nd rfl (Or.inl rfl) af)
  (ad (ia PassesOwn.never (am pV (aj cq (pv 1) (pv 1)) (pv 0) (aq _)) (ad (aS (am aZ (aj bd (pv 0) (pv 1)) af (aq _)) (ah (az lN)) aI)
   (ah (ao (i:=1) j4.nd rfl (Or.inl rfl) (aj aU (pv 1) af)))))
  (ah (az lN))))),?_⟩
 refine⟨_,rfl,_,_,rfl,rfl,_,rfl,?_⟩
 by_cases c:n<3
 . refine bh c ?_;refine ji ?_;exact q false ⟨fun z=>(nomatch z),fun z=>by omega⟩
 refine aF c ?_;refine⟨_,rfl,_,_,rfl,rfl,(by show(0:Int)<_;decide),rfl,_,rfl,?_⟩
 by_cases c2:n % 2=0
 . refine bh (congrArg V.int c2) ?_;exact q false ⟨fun z=>(nomatch z),fun z=>absurd z.2 (ze c2 (by omega))⟩
 refine aF (fun z=>c2 (V.int.inj z)) ?_;refine⟨fun m σ H'=>∃d:Int,σ=[some (.int n),some (.int d)]/\H'=H/\3<=d/\d<=1001/\d % 2=1/\uJ n d/\m=(n+3-d).toNat,⟨_,3,rfl,rfl,by omega,by omega,by omega,yK n,rfl⟩,?_⟩;rintro m σ H' ⟨d,rfl,rfl,d3,d9,d2,u,rfl⟩;refine⟨_,rfl,_,rfl,_,_,rfl,rfl,.inl ⟨by omega,by omega⟩,_,rfl,_,_,rfl,rfl,_,rfl,?_⟩
 by_cases c3:d*d<=n
 . refine bh c3 ?_;have r1:=uV n9 d3 c3;have r2:=CH d3 c3;refine⟨_,fun _ _ h=>h,?_⟩;refine⟨_,rfl,_,rfl,_,_,rfl,rfl,(show 0<d by omega),rfl,_,rfl,?_⟩
   by_cases c4:n % d=0
   . refine bh (congrArg V.int c4) ?_;exact q false ⟨fun z=>(nomatch z),fun z=>absurd z.2 (zd n9 d3 c3 c4)⟩
   refine aF (fun z=>c4 (V.int.inj z)) ?_;refine⟨_,rfl,_,_,rfl,rfl,?_⟩;exact⟨_,by omega,d+2,rfl,rfl,by omega,by omega,by omega,Bj u d2 c4,rfl⟩
 . refine aF c3 ?_;exact q true ⟨fun _=>⟨by omega,zc (by omega) c2 d3 u (by omega)⟩,fun _=>rfl⟩
abbrev ka:Stmt:=bY rT 0
abbrev mY:Stmt:=bY rT 1
abbrev iK:Stmt:=bY rT 2
abbrev iL:Stmt:=bY rT 3
def gf (a b:Addr) (p:Int) (d:Addr):List (Str×V):=cf "degrees" (.ref d) (cf "field" (.int p) (cf "trees" (.ref b) (cf "switches" (.ref a) [])))
theorem oy (a b:Addr) (p:Int) (d:Addr):(gf a b p d).lookup ("switches":Str)=some (.ref a):=by
 unfold gf;rw[aY,zA0 (by decide +kernel),aY,zA0 (by decide +kernel),aY,zA0 (by decide +kernel),aY,zB0 rfl]
theorem lY (a b:Addr) (p:Int) (d:Addr):(gf a b p d).lookup ("trees":Str)=some (.ref b):=by
 unfold gf;rw[aY,zA0 (by decide +kernel),aY,zA0 (by decide +kernel),aY,zB0 rfl]
theorem ig (a b:Addr) (p:Int) (d:Addr):(gf a b p d).lookup ("field":Str)=some (.int p):=by
 unfold gf;rw[aY,zA0 (by decide +kernel),aY,zB0 rfl]
theorem BG (a b:Addr) (p:Int) (d:Addr):(gf a b p d).lookup ("degrees":Str)=some (.ref d):=by
 unfold gf;rw[aY,zB0 rfl]
theorem qi (a b:Addr) (p:Int) (d:Addr) {m:Str} (h1:¬ m="degrees") (h2:¬ m="field") (h3:¬ m="trees") (h4:¬ m="switches"):(gf a b p d).lookup m=none:=by
 unfold gf;rw[aY,zA0 h1,aY,zA0 h2,aY,zA0 h3,aY,zA0 h4]
 all_goals rfl
structure GTxt(K:W.Frag)(mg:Str->Option Value)(C:Addr):Prop where
 cl:Cls K C
 nS:NoAttr K C "switches"
 nT:NoAttr K C "trees"
 nF:NoAttr K C "field"
 nD:NoAttr K C "degrees"
 mgC:mg "Game"=some (.ref C)
theorem uE(g:Nat->Int):∀n,∃k,k<=n/\dY g n=g k
 | 0=>⟨0,zG0 _,rfl⟩
 | n+1=>by
   obtain⟨k,hk,e⟩:=uE g n;unfold dY
   split
   . exact⟨n+1,zG0 _,rfl⟩
   . exact⟨k,by omega,e⟩
theorem jD{ns:List Int}(h:ns≠[]):yP ns 0∈ns:=by
 cases ns with
 | nil=>exact absurd rfl h
 | cons a r=>
   obtain ⟨k,hk,e⟩:=uE (fun i=>(a::r)[i]?.getD 0) ((a::r).length-1);have e1:yP (a::r) 0=dY (fun i=>(a::r)[i]?.getD 0) ((a::r).length-1):=rfl;have hl:k<(a::r).length:=by
    rw[qF0]at hk ⊢;omega
   rw[e1,e];show(a::r)[k]?.getD 0∈a::r;rw[zK0 hl];exact qL0 hl
def bj(ts:List Tr)(x:Str):Int:=yP (ts.map fun t=>(t.names.count x:Int)) 0
theorem me{ts:List Tr}{x:Str}{p:Int}(h0:ts≠[])(h:∀t∈ts,(t.names.count x:Int)<p):bj ts x<p:=by
 have:=jD (ns:=ts.map fun t=>(t.names.count x:Int)) (by simpa using h0)
 obtain⟨t,ht,e⟩:=List.mem_map.mp this;unfold bj;rw[←e];exact h t ht
def DO:Sp:=fun vs H Q _=>∃(x:Str)(b:Addr)(tv:List V)(ts:List Tr),vs=[.str x,.ref b]/\H b=some (.tup tv)/\TreesAt H tv ts/\ts≠[]/\ts.length<=10/\(∀t∈ts,t.wf/\t.depth<=10/\t.size<=400)/\∀H',Same H H'->Q (.int (bj ts x)) H'
theorem rP:FnScope ["name","trees"] ["name","trees"] (ag eP):=⟨rfl,rfl,rfl,by decide +kernel,rfl,by decide +kernel,by decide +kernel⟩
theorem sy {f:Addr} {fd:FuncData} (F:Fun K "degree_of" "degree_of" eP f fd) (hmax:mg "max"=none) (eZ:Cal P w K mg base 12 "names_in" ["tree"] (fL 10)):FnOk P w K mg base CX0 13 f fd ["name","trees"] DO:=by
 refine F.ok rP (fun vs H Q E h=>?_) (fun cdv A outer s H vs Q E hr h=>?_)
 . obtain⟨x,b,tv,ts,rfl,_⟩:=h;rfl
 obtain ⟨x,b,tv,ts,rfl,hb,TS,t0,tl,tok,q⟩:=h;refine⟨_,(ah (az (aJ (nQ rfl) rfl hmax PyProof.Rows.boot_max (aa (dB (N:=["name"]) (ix:=[0]) rfl
  CompScope.one rfl
  (gq (pv 1)) (fun _ _ _=>dF (AS K PySem.F.plainAttrs_list PySem.F.slot_list_count PySem.F.type_list_count (qT K) (au eZ hr (by decide) rfl (aa (pv 0) ae)) (aa (pv 1) ae)))) ae)))),?_⟩
 have vl:=TS.length;refine⟨_,rfl,b,rfl,⟨_,zC0 hb⟩,fun D hD=>?_⟩;refine eY (K:=K) (xs:=tv) (fun i H'=>H' D=some (.lst (((ts.take i).map fun t=>(t.names.count x:Int)).map V.int))/\Same H H') ⟨by rw[ai];rfl,zD0 hD _⟩ (fun i H' _ h=>zC0 (h.2 _ _ hb)) ?_ ?_
 . rintro i z H2 hz ⟨hl,S2⟩;obtain⟨t,ht,T⟩:=TS.get hz;obtain⟨tw,td,tz⟩:=tok t (qG0 ht);have hi:i<tv.length:=(zY0 hz).1;refine⟨_,rfl,z,t,rfl,T.mono (aG S2),tw,by omega,tz,fun l H3 l0 S3 hl3=>?_⟩;refine⟨.inl ⟨rfl,_,zH0 hl3⟩,_,rfl,l,_,_,rfl,rfl,zH0 hl3,gt _,rfl,?_⟩;rw[ld];refine⟨_,S3 _ _ hl,?_,Nx.of hi ⟨?_,fun b' o' e'=>?_⟩⟩
   . rw[zE0,zE0,qO0];exact aW (by omega)
   . rw[ai,qN0,ht,zL0,zL0];rfl
   . rw[ay (aO e' hD)];exact S3 _ _ (S2 _ _ e')
 . rintro H2 ⟨hl,S2⟩;rw[vl,qM0]at hl;exact⟨D,_,rfl,zH0 hl,by simpa using t0,q H2 S2⟩
def wH:Sp:=fun vs H Q _=>∃(a:Addr)(ns:List Str),vs=[.ref a]/\H a=some (.tup (ns.map V.str))/\ns.Nodup/\ns.length<=10/\∀H',Same H H'->Q .non H'
theorem xt(x:Str)(ns:List Str):inV (.str x) (ns.map V.str)=decide (x∈ns):=by
 unfold inV
 induction ns with
 | nil=>rfl
 | cons a r ih=>
   rw [zZ0,List.any_cons,ih];have e:eqV (.str a) (.str x)=decide (x=a):=by
    show(a==x)=_
    by_cases c:x=a
    . subst c;simp
    . rw[decide_eq_false c];simpa using fun h=>c h.symm
   rw[e]
   by_cases c1:x=a <;> by_cases c2:x∈r <;> simp [c1,c2]
theorem gH:FnScope ["switches","place","name"] ["switches"] (ag cV):=⟨rfl,rfl,rfl,by decide +kernel,rfl,by decide +kernel,by decide +kernel⟩
theorem ny {f:Addr} {fd:FuncData} (F:Fun K "look_switches" "look_switches" cV f fd) (henum:mg "enumerate"=none):FnOk P w K mg base CX0 1 f fd ["switches"] wH:=by
 refine F.ok gH (fun vs H Q E h=>?_) (fun cdv A outer s H vs Q E hr h=>?_)
 . obtain⟨a,ns,rfl,_⟩:=h;rfl
 obtain ⟨a,ns,rfl,ha,nd,nl,q⟩:=h;refine⟨_,(ah (da PassesOwn.never rfl (AI rfl henum (pv 0)) (AL rfl (lK (bX (i:=1) gH.nd rfl (Or.inl rfl)) (lK (bX (i:=2) gH.nd rfl (Or.inl rfl)) xa)))
  (ah (aS (am qR (pv 2) (iQ uW (pv 0) lH (jf (pv 1))) (by with_unfolding_all rfl)) dE aI)))),?_⟩
 refine⟨_,rfl,a,rfl,⟨_,zC0 ha⟩,zb (K:=K) (xs:=ns.map V.str) (fun i σ H'=>∃x1 x2:Option V,σ=[some (.ref a),x1,x2]/\Same H H') ⟨_,_,rfl,Same.refl _⟩ (fun i σ H' _ hst=>by obtain⟨_,_,_,h⟩:=hst;exact zC0 (h _ _ ha)) ?_ ?_⟩
 . rintro i z σ H1 t hz ⟨x1,x2,rfl,S1⟩ ht;have hi:i<(ns.map V.str).length:=(zY0 hz).1;rw[zR0]at hz;obtain⟨x,hx,rfl⟩:=qV0 hz;have G:=zD0 ht (.tup [.int (i:Int),.str x]);have S2:=S1.trans G;have hi':i<ns.length:=by rw[zE0]at hi;exact hi
   refine⟨t,_,rfl,zC0 ai,rfl,_,_,rfl,_,_,rfl,rfl,?_⟩;refine⟨_,rfl,_,rfl,_,rfl,(i:Int),rfl,a,_,rfl,zC0 (S2 _ _ ha),?_,fun c hc=>?_⟩
   . rintro⟨_,h⟩;rw[HT.sIx_nat]at h;omega
   . refine ⟨c,_,rfl,.inr (zC0 ai),rfl,?_,_,rfl,?_⟩
     . have ec:lc (ns.map V.str) none (some (i:Int))=(ns.take i).map V.str:=by
        unfold lc;rw[HT.sIx_none,HT.sIx_nat,List.drop_zero,Nat.sub_zero,List.map_take]
        congr 1
        omega
       rw[ec];exact gt _
     . have ec:lc (ns.map V.str) none (some (i:Int))=(ns.take i).map V.str:=by
        unfold lc;rw[HT.sIx_none,HT.sIx_nat,List.drop_zero,Nat.sub_zero,List.map_take]
        congr 1
        omega
       show if inV (.str x) (lc (ns.map V.str) none (some (i:Int)))=true then _ else _
       rw[ec,xt,decide_eq_false ?_]
       . refine gJ ?_;exact⟨_,_,rfl,S2.trans (zD0 hc _)⟩
       . intro hm;obtain⟨j,hj,e⟩:=List.getElem_of_mem hm;rw[qO0]at hj;rw[List.getElem_take]at e;have ex:ns[i]=x:=by
          rw[zK0 hi']at hx;exact zQ0 hx
         exact List.pairwise_iff_getElem.mp nd j i (by omega) hi' (by omega) (e.trans ex.symm)
 . rintro σ H1 ⟨x1,x2,rfl,S1⟩;exact q H1 S1
theorem lR{ns:List Str}:∀t:Tr,t.ok ns->∀x∈t.names,x∈ns
 | .is y,h,x,hx=>by rw[zT0 hx];exact h
 | .yes,_,x,hx=>by cases hx
 | .no,_,x,hx=>by cases hx
 | .not a,h,x,hx=>lR a h x hx
 | .bin _ a b,⟨_,h1,h2⟩,x,hx=>by
   rcases qJ0 hx with h | h
   . exact lR a h1 x h
   . exact lR b h2 x h
def wI:Sp:=fun vs H Q _=>∃(a b:Addr)(ns:List Str)(tv:List V)(ts:List Tr),vs=[.ref b,.ref a]/\H a=some (.tup (ns.map V.str))/\H b=some (.tup tv)/\TreesAt H tv ts/\(∀t∈ts,t.ok ns/\t.wf/\t.depth<=10/\t.size<=400)/\∀H',Same H H'->Q .non H'
theorem i8:FnScope ["trees","switches","tree","name"] ["trees","switches"] (ag dO):=⟨rfl,rfl,rfl,by decide +kernel,rfl,by decide +kernel,by decide +kernel⟩
theorem qz {f:Addr} {fd:FuncData} (F:Fun K "look_names" "look_names" dO f fd) (eZ:Cal P w K mg base 12 "names_in" ["tree"] (fL 10)):FnOk P w K mg base CX0 13 f fd ["trees","switches"] wI:=by
 refine F.ok i8 (fun vs H Q E h=>?_) (fun cdv A outer s H vs Q E hr h=>?_)
 . obtain⟨a,b,ns,tv,ts,rfl,_⟩:=h;rfl
 obtain ⟨a,b,ns,tv,ts,rfl,ha,hb,TS,tok,q⟩:=h;refine⟨_,(ah (da PassesOwn.never rfl (gq (pv 0)) (bX (i:=2) i8.nd rfl (Or.inl rfl))
  (ah (da PassesOwn.never rfl (iu (au eZ hr (by decide) rfl (aa (pv 2) ae))) (bX (i:=3) i8.nd rfl (Or.inl rfl))
   (ah (aS (am so (pv 3) (pv 1) (by with_unfolding_all rfl)) dE aI)))))),?_⟩
 refine⟨_,rfl,b,rfl,⟨_,zC0 hb⟩,lZ (K:=K) (xs:=tv) (fun i σ H'=>∃x2 x3:Option V,σ=[some (.ref b),some (.ref a),x2,x3]/\Same H H') ⟨_,_,rfl,Same.refl _⟩ (fun i σ H' _ hst=>by obtain⟨_,_,_,h⟩:=hst;exact zC0 (h _ _ hb)) ?_ ?_⟩
 . rintro i z σ H1 hz ⟨x2,x3,rfl,S1⟩;obtain⟨t,ht,T⟩:=TS.get hz;obtain⟨tk,tw,td,tz⟩:=tok t (qG0 ht);refine⟨_,rfl,z,t,rfl,T.mono (aG S1),tw,by omega,tz,fun l H2 l0 S2 hl=>?_⟩;have S12:=S1.trans S2;refine⟨l,rfl,⟨_,zH0 hl⟩,jI (K:=K) (xs:=t.names.map V.str) (fun j σ H'=>∃x3:Option V,σ=[some (.ref b),some (.ref a),some z,x3]/\H'=H2) ⟨_,rfl,rfl⟩ (fun j σ H' _ hst=>by obtain⟨_,_,h⟩:=hst;subst h;exact zH0 hl) ?_ ?_⟩
   . rintro j y σ H3 hy ⟨y3,rfl,rfl⟩;rw[zR0]at hy;obtain⟨x,hx,rfl⟩:=qV0 hy;refine⟨_,rfl,_,rfl,a,_,rfl,.inr (zC0 (S12 _ _ ha)),rfl,gt _,_,rfl,?_⟩;show if(!inV (.str x) (ns.map V.str))=true then _ else _
     rw[xt,decide_eq_true (lR t tk x (qG0 hx))];refine gJ ?_;exact⟨_,rfl,rfl⟩
   . rintro σ H3 ⟨y3,rfl,rfl⟩;exact⟨_,_,rfl,S12⟩
 . rintro σ H1 ⟨x2,x3,rfl,S1⟩;exact q H1 S1
def wJ:Sp:=fun vs H Q _=>∃p:Int,vs=[.int p]/\Pr p/\2<p/\p<=999983/\Q .non H
theorem qy:FnScope ["field"] ["field"] (ag dP):=⟨rfl,rfl,rfl,by decide +kernel,rfl,by decide +kernel,by decide +kernel⟩
theorem qA {f:Addr} {fd:FuncData} (F:Fun K "look_field" "look_field" dP f fd) (hend:∃t,mg "FIELDS_END"=some (.int 1000000 t)) (m5:Cal P w K mg base 1 "is_field" ["number"] wM):FnOk P w K mg base CX0 2 f fd ["field"] wJ:=by
 refine F.ok qy (fun vs H Q E h=>?_) (fun cdv A outer s H vs Q E hr h=>?_)
 . obtain⟨p,rfl,_⟩:=h;rfl
 obtain⟨p,rfl,pp,p2,p9,q⟩:=h;obtain⟨te,ge⟩:=hend;refine⟨_,(ah (aS (PW.pt (og (am DV (pv 0) (sk (v:=.int 1000000) rfl ge ⟨_,rfl⟩) (aq _)) (kQ (nq (kR (au m5 hr (by decide) rfl (aa (pv 0) ae))))))) dE aI)),?_⟩;refine⟨_,rfl,_,_,rfl,rfl,_,rfl,?_⟩;refine aF (by omega) ?_;refine⟨_,rfl,p,rfl,by omega,fun b hb=>⟨b,rfl,?_⟩⟩;rw[hb.mpr ⟨p2,pp⟩];exact gJ q
def wG:Sp:=fun vs H Q _=>∃(p:Int)(d:Addr)(ns:List Int),vs=[.int p,.ref d]/\H d=some (.lst (ns.map V.int))/\ns≠[]/\(∀n∈ns,n<p)/\Q .non H
theorem o6:FnScope ["field","degrees","greatest"] ["field","degrees"] (ag eI):=⟨rfl,rfl,rfl,by decide +kernel,rfl,by decide +kernel,by decide +kernel⟩
theorem su {f:Addr} {fd:FuncData} (F:Fun K "look_size" "look_size" eI f fd) (hmax:mg "max"=none):FnOk P w K mg base CX0 1 f fd ["field","degrees"] wG:=by
 refine F.ok o6 (fun vs H Q E h=>?_) (fun cdv A outer s H vs Q E hr h=>?_)
 . obtain⟨p,d,ns,rfl,_⟩:=h;rfl
 obtain ⟨p,d,ns,rfl,hd,n0,nl,q⟩:=h;refine⟨_,(ad (ao (i:=2) o6.nd rfl (Or.inl rfl) (aJ (nQ rfl) rfl hmax PyProof.Rows.boot_max (aa (pv 1) ae)))
  (ah (aS (am pV (pv 0) (pv 2) (aq _)) dE aI))),?_⟩
 refine⟨_,rfl,d,ns,rfl,zH0 hd,n0,?_⟩;refine⟨_,rfl,_,rfl,_,_,rfl,rfl,_,rfl,?_⟩
 have:=nl _ (jD n0)
 exact aF (by omega) q
theorem hZ(f:Str)(v:V):∀fs:List (Str×V),(cf f v fs).length<=fs.length+1
 | []=>zG0 _
 | (g,u)::r=>by
   have:=hZ f v r
   unfold cf
   split
   . simp
   . simp only[qF0];omega
def gf3 (a b:Addr) (p:Int):List (Str×V):=cf "field" (.int p) (cf "trees" (.ref b) (cf "switches" (.ref a) []))
theorem EZ (a b:Addr) (p:Int):(gf3 a b p).lookup ("switches":Str)=some (.ref a):=by
 unfold gf3;rw[aY,zA0 (by decide +kernel),aY,zA0 (by decide +kernel),aY,zB0 rfl]
theorem EY (a b:Addr) (p:Int):(gf3 a b p).lookup ("trees":Str)=some (.ref b):=by
 unfold gf3;rw[aY,zA0 (by decide +kernel),aY,zB0 rfl]
def GameAt(C:Addr)(H:Hp)(g a b d:Addr)(p:Int):Prop:=∃dx,H g=some (.ins C dx (gf a b p d))
theorem GameAt.same{C:Addr}{H H':Hp}{g a b d:Addr}{p:Int}(h:GameAt C H g a b d p)(s:Same H H'):GameAt C H' g a b d p:=by
 obtain⟨dx,e⟩:=h;exact⟨dx,s _ _ e⟩
def wL(C:Addr):Sp:=fun vs H Q _=>∃(g dx a b:Addr)(ns:List Str)(tv:List V)(ts:List Tr)(p:Int),vs=[.ref g,.ref a,.ref b,.int p]/\H g=some (.ins C dx [])/\H a=some (.tup (ns.map V.str))/\ns.Nodup/\ns.length<=10/\H b=some (.tup tv)/\TreesAt H tv ts/\1<=ts.length/\ts.length<=10/\
 (∀t∈ts,t.ok ns/\t.wf/\t.depth<=10/\t.size<=400)/\Pr p/\2<p/\p<=999983/\(ts.length:Int)<=p/\(∀t∈ts,∀x∈ns,(t.names.count x:Int)<p)/\
 ∀(d:Addr)(H':Hp),H d=none->GameAt C H' g a b d p->H' d=some (.lst ((ns.map (bj ts)).map V.int))->SameBut g H H'->Q .non H'
theorem An:FnScope ["self","switches","trees","field"] ["self","switches","trees","field"] (ag ka):=⟨rfl,rfl,rfl,by decide +kernel,rfl,by decide +kernel,by decide +kernel⟩
theorem Bb {f C:Addr} {fd:FuncData} (F:Fun K "__init__" "Game.__init__" ka f fd) (T:GTxt K mg C) (htuple:mg "tuple"=none) (hlen:mg "len"=none) (j5:Cal P w K mg base 13 "degree_of" ["name","trees"] DO) (g9:Cal P w K mg base 1 "look_switches" ["switches"] wH)
 (i9:Cal P w K mg base 13 "look_names" ["trees","switches"] wI) (jb:Cal P w K mg base 2 "look_field" ["field"] wJ) (j7:Cal P w K mg base 1 "look_size" ["field","degrees"] wG):FnOk P w K mg base CX0 14 f fd ["self","switches","trees","field"] (wL C):=by
 refine F.ok An (fun vs H Q E h=>?_) (fun cdv A outer s H vs Q E hr h=>?_)
 . obtain⟨g,dx,a,b,ns,tv,ts,p,rfl,_⟩:=h;rfl
 obtain ⟨g,dx,a,b,ns,tv,ts,p,rfl,hg,ha,nd,nl,hb,TS,t1,t10,tok,pp,p2,p9,tp,tc,q⟩:=h;refine⟨_,(ad (aX (pv 0) (bq ba rfl htuple bi (aa (pv 1) ae)) rfl)
  (ad (aX (pv 0) (bq ba rfl htuple bi (aa (pv 2) ae)) rfl)
  (ad (aX (pv 0) (pv 3) rfl)
  (ad (aX (pv 0) (dB (N:=["self"]) (ix:=[0]) rfl
   CompScope.one rfl
   (gq (ax (pv 0) rfl)) (fun _ _ _=>dF (au j5 hr (by decide) rfl (aa (pv 0) (aa (kr K (pv 1)) ae))))) rfl)
  (ad (bL (au g9 hr (by decide) rfl (aa (ax (pv 0) rfl) ae)))
  (ad (bL (au i9 hr (by decide) rfl (aa (ax (pv 0) rfl) (aa (ax (pv 0) rfl) ae))))
  (ad (bL (au jb hr (by decide) rfl (aa (pv 3) ae)))
  (ah (bL (au j7 hr (by decide) rfl (aa (pv 3) (aa (aj kX (ax (pv 0) rfl) (cw (aa (aj bm (aJ aE rfl hlen PySem.boot_len (aa (ax (pv 0) rfl) ae)) af) ae))) ae)))))))))))),?_⟩
 have nag:a≠g:=bz ha hg (by intro z;cases z);have nbg:b≠g:=bz hb hg (by intro z;cases z);have vl:=TS.length;refine⟨_,rfl,a,_,rfl,.inr ⟨zC0 ha,_,rfl,g,C,dx,[],rfl,hg,T.cl,T.nS,(by show 0<1000;decide),?_⟩⟩;refine⟨_,rfl,b,_,rfl,.inr ⟨zC0 (by rw[ay nbg];exact hb),_,rfl,g,C,dx,_,rfl,ai,T.cl,T.nT,(Nat.lt_of_le_of_lt (hZ _ _ _) (by show 1<1000;decide)),?_⟩⟩;refine⟨_,rfl,_,rfl,g,C,dx,_,rfl,ai,T.cl,T.nF,(Nat.lt_of_le_of_lt (hZ _ _ _) (Nat.lt_of_le_of_lt (Nat.succ_le_succ (hZ _ _ _)) (by show 2<1000;decide))),?_⟩;have S3:SameBut g H (upd (upd (upd H g (.ins C dx (cf "switches" (.ref a) []))) g (.ins C dx (cf "trees" (.ref b) (cf "switches" (.ref a) [])))) g (.ins C dx (cf "field" (.int p) (cf "trees" (.ref b) (cf "switches" (.ref a) []))))):=
  (SameBut.upd _).trans ((SameBut.upd _).trans (SameBut.upd _))
 have hg3:upd (upd (upd H g (.ins C dx (cf "switches" (.ref a) []))) g (.ins C dx (cf "trees" (.ref b) (cf "switches" (.ref a) [])))) g (.ins C dx (cf "field" (.int p) (cf "trees" (.ref b) (cf "switches" (.ref a) [])))) g=some (.ins C dx (gf3 a b p)):=ai;generalize upd (upd (upd H g (.ins C dx (cf "switches" (.ref a) []))) g (.ins C dx (cf "trees" (.ref b) (cf "switches" (.ref a) [])))) g (.ins C dx (cf "field" (.int p) (cf "trees" (.ref b) (cf "switches" (.ref a) []))))=H3 at S3 hg3;have kT:cx H H3:=fun c xs h=>S3 c _ (bz h hg (by intro z;cases z)) h
 have ha3:=kT _ _ ha;have hb3:=kT _ _ hb;have TS3:=TS.mono kT;refine⟨_,rfl,g,C,dx,_,_,rfl,hg3,T.cl,T.nS,EZ ..,a,rfl,⟨_,zC0 ha3⟩,fun D hD=>?_⟩;have D0:H D=none:=by
  cases e:H D with
  | none=>rfl
  | some o=>
    by_cases c:D=g
    . rw[c,hg3]at hD;cases hD
    . rw[S3 D o c e]at hD;cases hD
 refine eY (K:=K) (xs:=ns.map V.str) (fun i H'=>H' D=some (.lst (((ns.take i).map (bj ts)).map V.int))/\Same H3 H') ⟨by rw[ai];rfl,zD0 hD _⟩ (fun i H' _ h=>zC0 (h.2 _ _ ha3)) ?_ ?_
 . rintro i z H4 hz ⟨hl,S4⟩;have hi:i<(ns.map V.str).length:=(zY0 hz).1;rw[zR0]at hz;obtain⟨x,hx,rfl⟩:=qV0 hz;refine⟨_,rfl,_,rfl,g,C,dx,_,_,rfl,S4 _ _ hg3,T.cl,T.nT,EY ..,x,b,tv,ts,rfl,S4 _ _ hb3,TS3.mono (aG S4),?_,t10,fun t ht=>(tok t ht).2,fun H5 S5=>?_⟩
   . intro e;rw[e]at t1;exact absurd t1 (by decide)
   refine⟨_,S5 _ _ hl,?_,Nx.of hi ⟨?_,fun b' o' e'=>?_⟩⟩
   . rw[zE0,zE0,qO0];exact aW (by omega)
   . rw[ai,qN0,hx,zL0,zL0];rfl
   . rw[ay (aO e' hD)];exact S5 _ _ (S4 _ _ e')
 rintro H4 ⟨hl,S4⟩;rw[zE0,qM0]at hl;refine⟨_,rfl,g,C,dx,_,rfl,S4 _ _ hg3,T.cl,T.nD,?_,?_⟩
 . exact Nat.lt_of_le_of_lt (qC0 (hZ _ _ _) (Nat.succ_le_succ (qC0 (hZ _ _ _) (Nat.succ_le_succ (hZ _ _ _))))) (by show 3<1000;decide)
 have nDg:D≠g:=fun z=>by rw[z,hg3]at hD;cases hD
 have hg5:upd H4 g (.ins C dx (gf a b p D)) g=some (.ins C dx (gf a b p D)):=ai;have S5:SameBut g H (upd H4 g (.ins C dx (gf a b p D))):=S3.trans ((zJ0 S4).trans (SameBut.upd _));have hD5:upd H4 g (.ins C dx (gf a b p D)) D=some (.lst ((ns.map (bj ts)).map V.int)):=by rw[ay nDg];exact hl
 show _;generalize he5:upd H4 g (.ins C dx (gf a b p D))=H5 at hg5 S5 hD5;have kT5:cx H H5:=fun c xs h=>S5 c _ (bz h hg (by intro z;cases z)) h
 rw[show upd H4 g (.ins C dx (cf "degrees" (.ref D) (gf3 a b p)))=H5 from he5];refine⟨_,rfl,g,C,dx,_,_,rfl,hg5,T.cl,T.nS,oy ..,a,ns,rfl,kT5 _ _ ha,nd,nl,fun H6 S6=>?_⟩;have kT6:cx H H6:=fun c xs h=>S6 _ _ (kT5 c xs h)
 refine⟨_,rfl,g,C,dx,_,_,rfl,S6 _ _ hg5,T.cl,T.nT,lY ..,_,rfl,g,C,dx,_,_,rfl,S6 _ _ hg5,T.cl,T.nS,oy ..,a,b,ns,tv,ts,rfl,kT6 _ _ ha,kT6 _ _ hb,TS.mono kT6,tok,fun H7 S7=>?_⟩;have S57:=S6.trans S7;refine⟨_,rfl,p,rfl,pp,p2,p9,?_⟩;refine⟨_,rfl,_,rfl,g,C,dx,_,_,rfl,S57 _ _ hg5,T.cl,T.nD,BG ..,_,rfl,g,C,dx,_,_,rfl,S57 _ _ hg5,T.cl,T.nT,lY ..,b,_,rfl,.inr (zC0 (S57 _ _ (kT5 _ _ hb))),_,_,rfl,rfl,(by show 1<=sizeLine;decide),fun l hl2=>?_⟩;have Gl:=zD0 hl2 (.lst [.int ((tv.length:Int)-1)]);refine⟨D,l,_,_,rfl,rfl,Gl _ _ (S57 _ _ hD5),ai,?_,fun r hr0=>?_⟩
 . rw[zE0,zE0];exact dX (by simp;omega)
 have Gr:=zD0 hr0 (.lst ((ns.map (bj ts)).map V.int++[.int ((tv.length:Int)-1)]));refine⟨p,r,ns.map (bj ts)++[(tv.length:Int)-1],rfl,?_,by simp,fun n hn=>?_,?_⟩
 . rw[ai,zL0];rfl
 . rcases qJ0 hn with h | h
   . obtain ⟨x,hx,rfl⟩:=List.mem_map.mp h;refine me ?_ fun t ht=>tc t ht x hx
     intro e;rw[e]at t1;exact absurd t1 (by decide)
   . rw[zT0 h];omega
 . have S59:=S57.trans (Gl.trans Gr);exact q D _ D0 ⟨dx,S59 _ _ hg5⟩ (S59 _ _ hD5) (S5.trans (zJ0 S59))
def zV:Sp:=fun vs H Q _=>∃a p:Int,vs=[.int a,.int p]/\Pr p/\p<=999983/\0<a/\a<p/\∀g:Int,0<g->g<p->g*a % p=1->Q (.int g) H
theorem bF:FnScope ["a","p","former","former_factor","rest","factor","times","lesser","lesser_factor"] ["a","p"] (ag dR):=⟨rfl,rfl,rfl,by decide +kernel,rfl,by decide +kernel,by decide +kernel⟩
theorem qC {f:Addr} {fd:FuncData} (F:Fun K "inverse_of" "inverse_of" dR f fd):FnOk P w K mg base CX0 1 f fd ["a","p"] zV:=by
 refine F.ok bF (fun vs H Q E h=>?_) (fun cdv A outer s H vs Q E hr h=>?_)
 . obtain⟨a,p,rfl,_⟩:=h;rfl
 obtain ⟨a,p,rfl,pr,p1,a0,a1,q⟩:=h;have p2:2<=p:=pr.1;refine⟨_,(ad (ao (i:=2) bF.nd rfl (Or.inl rfl) (pv 1))
  (ad (ao (i:=3) bF.nd rfl (Or.inl rfl) af)
  (ad (ao (i:=4) bF.nd rfl (Or.inl rfl) (aj bd (pv 0) (pv 1)))
  (ad (ao (i:=5) bF.nd rfl (Or.inl rfl) af)
  (ad (ia PassesOwn.never (am pU (pv 4) af (aq _)) (ad (ao (i:=6) bF.nd rfl (Or.inl rfl) (aj xf (pv 2) (pv 4)))
   (ad (ao (i:=7) bF.nd rfl (Or.inl rfl) (aj bm (pv 2) (aj cq (pv 6) (pv 4))))
   (ad (ao (i:=8) bF.nd rfl (Or.inl rfl) (aj bd (aj bm (pv 3) (aj cq (pv 6) (pv 5))) (pv 1)))
   (ad (ao (i:=2) bF.nd rfl (Or.inl rfl) (pv 4))
   (ad (ao (i:=3) bF.nd rfl (Or.inl rfl) (pv 5))
   (ad (ao (i:=4) bF.nd rfl (Or.inl rfl) (pv 7))
   (ah (ao (i:=5) bF.nd rfl (Or.inl rfl) (pv 8))))))))))
  (ah (az (pv 5)))))))),?_⟩
 refine ⟨_,rfl,?_⟩;refine⟨_,rfl,_,rfl,_,_,rfl,rfl,(show 0<p by omega),?_⟩;refine⟨fun m σ H'=>∃(former ff rest g:Int)(x6 x7 x8:Option V),σ=[some (.int a),some (.int p),some (.int former),some (.int ff),some (.int rest),some (.int g),x6,x7,x8]/\H'=H/\Eu a p former ff rest g/\m=rest.toNat,
  ⟨_,_,_,_,_,_,_,_,rfl,rfl,ux pr (by omega) a0 a1,rfl⟩,?_⟩
 rintro m σ H' ⟨former,ff,rest,g,x6,x7,x8,rfl,rfl,eu,rfl⟩;refine⟨_,rfl,rfl,_,rfl,?_⟩
 by_cases c:rest=1
 . refine uq (congrArg V.int c) ?_;obtain⟨g0,g1,g2⟩:=BL eu c (by omega);exact⟨_,rfl,q g g0 g1 g2⟩
 . refine iteN (fun z=>c (V.int.inj z)) ?_;refine⟨_,fun _ _ h=>h,?_⟩;have r0:=eu.r0;have rp:=eu.rp;have f0:=eu.f0;have f1:=eu.f1;obtain⟨nx,lt⟩:=xC eu c;refine⟨_,rfl,_,rfl,_,_,rfl,rfl,⟨r0,by omega⟩,?_⟩;refine⟨_,rfl,_,rfl,_,rfl,_,_,rfl,rfl,.inr ⟨by omega,by omega⟩,_,_,rfl,rfl,?_⟩;refine⟨_,rfl,_,rfl,_,rfl,_,_,rfl,rfl,.inr ⟨by omega,by omega⟩,_,_,rfl,rfl,_,rfl,_,_,rfl,rfl,(show 0<p by omega),?_⟩;refine⟨_,rfl,_,rfl,_,rfl,_,rfl,?_⟩;exact⟨_,lt,_,_,_,_,_,_,_,rfl,rfl,nx,rfl⟩
theorem md{p x y:Int}(h:p ∣ x-y):x % p=y % p:=by
 obtain⟨k,hk⟩:=h
 have:x=y+p*k:=by omega
 rw[this,Int.add_mul_emod_self_left]
theorem dm(p x:Int):p ∣ x % p-x:=⟨-(x / p),by
 have:=Int.emod_add_mul_ediv x p
 rw[Int.mul_neg];omega⟩
def pmd(p:Int)(g:Nat->Int):Nat->Int
 | 0=>1
 | k+1=>pmd p g k*g k % p
theorem lJ(p:Int)(g:Nat->Int):∀k,p ∣ pmd p g k-pr g k
 | 0=>⟨0,by simp [pmd,pr]⟩
 | k+1=>by
   obtain⟨a,ha⟩:=lJ p g k;obtain⟨b,hb⟩:=dm p (pmd p g k*g k);exact⟨b+a*g k,by show pmd p g k*g k % p-pr g k*g k=_;grind⟩
theorem lI{p:Int}(hp:1<p)(g:Nat->Int):∀k,0<=pmd p g k/\pmd p g k<p
 | 0=>⟨by show(0:Int)<=1;decide,hp⟩
 | k+1=>⟨zX0 _ (by omega),qA0 _ (by omega)⟩
def prL(p:Int)(g:Nat->Int)(n:Nat):List V:=((List.range n).map (pmd p g)).map V.int
theorem pN(p:Int)(g:Nat->Int)(n:Nat):prL p g (n+1)=prL p g n++[.int (pmd p g n)]:=by
 unfold prL;rw[List.range_succ,zL0,zL0];rfl
theorem CP(p:Int)(g:Nat->Int)(n:Nat):(prL p g n).length=n:=by
 unfold prL;rw[zE0,zE0,qQ0]
theorem vK{f:Nat->Int}{n k:Nat}(h:k<n):atI (((List.range n).map f).map V.int) (k:Int)=some (.int (f k)):=by
 refine cL ?_;rw[zR0,zR0,List.getElem?_range h];rfl
theorem vg{p:Int}{g:Nat->Int}{n k:Nat}(h:k<n):atI (prL p g n) (k:Int)=some (.int (pmd p g k)):=vK h
def uS:Sp:=fun vs H Q _=>∃(a:Addr)(g:Nat->Int)(n:Nat)(p:Int),vs=[.ref a,.int p]/\H a=some (.lst (((List.range n).map g).map V.int))/\n<=500/\1<p/\p<2 ^ 40/\∀(l:Addr)(H':Hp),H l=none->Same H H'->H' l=some (.lst (prL p g (n+1)))->Q (.ref l) H'
theorem j8:FnScope ["numbers","p","told","number"] ["numbers","p"] (ag fY):=⟨rfl,rfl,rfl,by decide +kernel,rfl,by decide +kernel,by decide +kernel⟩
theorem tW {f:Addr} {fd:FuncData} (F:Fun K "products" "products" fY f fd):FnOk P w K mg base CX0 1 f fd ["numbers","p"] uS:=by
 refine F.ok j8 (fun vs H Q E h=>?_) (fun cdv A outer s H vs Q E hr h=>?_)
 . obtain⟨a,g,n,p,rfl,_⟩:=h;rfl
 obtain ⟨a,g,n,p,rfl,ha,n5,p1,p40,q⟩:=h;refine⟨_,(ad (ao (i:=2) j8.nd rfl (Or.inl rfl) (cw (aa af ae)))
  (ad (da PassesOwn.never rfl (iu (pv 0)) (bX (i:=3) j8.nd rfl (Or.inl rfl)) (ah (bL (iR PySem.F.plainAttrs_list PySem.F.slot_list_append PySem.F.type_list_append dw (pv 2) (aa (aj bd (aj cq (aP ix_list (pv 2) (AM uN af) (fun _ _=>rfl)) (pv 3)) (pv 1)) ae)))))
  (ah (az (pv 2))))),?_⟩
 refine ⟨(by show 1<=sizeLine;decide),fun L hL=>?_⟩;have aL:a≠L:=aO ha hL;refine⟨_,rfl,a,rfl,⟨_,zH0 ((zD0 hL _) _ _ ha)⟩,jI (K:=K) (xs:=((List.range n).map g).map V.int) (fun i σ H'=>∃x3:Option V,σ=[some (.ref a),some (.int p),some (.ref L),x3]/\H' L=some (.lst (prL p g (i+1)))/\SameBut L H H')
  ⟨_,rfl,by rw[ai];rfl,SameBut.upd _⟩ (fun i σ H' _ hst=>by obtain⟨_,_,_,h⟩:=hst;exact zH0 (h _ _ aL ha)) ?_ ?_⟩
 . rintro i z σ H1 hz ⟨x3,rfl,hL1,S1⟩;have hi:=(zY0 hz).1;rw[zE0,zE0,qQ0]at hi;rw[zR0,zR0,List.getElem?_range hi]at hz;obtain rfl:V.int (g i)=z:=zQ0 hz;have rg:=lI p1 g i;refine⟨_,rfl,.inl ⟨rfl,_,zH0 hL1⟩,?_⟩;refine⟨_,rfl,_,rfl,L,_,_,.int (pmd p g i),rfl,rfl,zH0 hL1,?_,_,rfl,_,_,rfl,rfl,.inl ⟨by omega,by omega⟩,_,rfl,_,_,rfl,rfl,(by omega),L,_,_,rfl,rfl,hL1,?_,?_⟩
   . rw[pN];exact uH _ _
   . rw[CP];exact aW (by omega)
   . refine ⟨_,rfl,?_,fun c o hc e=>?_⟩
     . rw[ai,pN p g (i+1)];rfl
     . rw[ay hc];exact S1 c o hc e
 . rintro σ H1 ⟨x3,rfl,hL1,S1⟩;rw[zE0,zE0,qQ0]at hL1;exact⟨_,rfl,q L H1 hL (fun b o e=>S1 b o (aO e hL) e) hL1⟩
theorem AG:∀n:Nat,pr (fun k=>1+(k:Int)) n=fac n
 | 0=>rfl
 | n+1=>by
   show pr (fun k=>1+(k:Int)) n*(1+(n:Int))=fac n*((n:Int)+1)
   rw[AG n,Int.add_comm]
theorem Aj{p g a t s:Int}{k m:Nat}(hg:g*a % p=1)(p1:1<p)(ha:p ∣ a-fac (k+m))(ht:p ∣ t-pr (fun j=>((k+m:Nat):Int)-j) m)(hs:p ∣ s-g*t):p ∣ s*fac k-1:=by
 have f:=uu m k;obtain⟨x,hx⟩:=ha;obtain⟨y,hy⟩:=ht;obtain⟨z,hz⟩:=hs;obtain⟨e,he⟩:=dm p (g*a);rw[hg]at he;exact⟨z*fac k+g*y*fac k-g*x-e,by grind⟩
def Aa:Sp:=fun vs H Q _=>∃(L:Nat)(p:Int),vs=[.int (L:Int),.int p]/\L<=500/\(L:Int)<p/\Pr p/\p<=999983/\∀(l:Addr)(H':Hp)(sh:Nat->Int),H l=none->Same H H'->(∀k,k<=L->p ∣ sh k*fac k-1)->(∀k,0<=sh k/\sh k<p)->H' l=some (.lst (((List.range (L+1)).map sh).map V.int))->Q (.ref l) H'
theorem cS:FnScope ["last","p","numbers","whole","told"] ["last","p"] (ag bO):=⟨rfl,rfl,rfl,by decide +kernel,rfl,by decide +kernel,by decide +kernel⟩
theorem jq {f:Addr} {fd:FuncData} (F:Fun K "inverse_factorials" "inverse_factorials" bO f fd) (B:Bl mg) (fe:Cal P w K mg base 1 "products" ["numbers","p"] uS) (fk:Cal P w K mg base 1 "inverse_of" ["a","p"] zV):FnOk P w K mg base CX0 2 f fd ["last","p"] Aa:=by
 refine F.ok cS (fun vs H Q E h=>?_) (fun cdv A outer s H vs Q E hr h=>?_)
 . obtain⟨L,p,rfl,_⟩:=h;rfl
 obtain ⟨L,p,rfl,L5,Lp,pp,p9,q⟩:=h;refine⟨_,(ad (ao (i:=2) cS.nd rfl (Or.inl rfl) (vn rfl rfl B.list rfl B.range (aa af (aa (aj aU (pv 0) af) ae))))
  (ad (ao (i:=3) cS.nd rfl (Or.inr rfl) (au fk hr (by decide) rfl (aa (aP ix_list (au fe hr (by decide) rfl (aa (pv 2) (aa (pv 1) ae))) (AM uN af) (fun _ _=>rfl)) (aa (pv 1) ae))))
  (ad (ao (i:=4) cS.nd rfl (Or.inr rfl) (au fe hr (by decide) rfl (aa (dB (N:=["last"]) (ix:=[0]) rfl
   CompScope.one rfl
   (cF rfl B.range (aa (pv 0) ae)) (fun _ _ _=>dF (aj bm (pv 1) (pv 0)))) (aa (pv 1) ae))))
  (ah (az (dB (N:=["whole","told","p","last"]) (ix:=[3,4,1,0]) rfl
   CompScope.four rfl
   (cF rfl B.range (aa (aj aU (pv 0) af) ae)) (fun _ _ _=>dF (aj bd (aj cq (pv 1) (aP (uo K) (pv 2) (aj bm (pv 4) (pv 0)) (fun _ _=>rfl))) (pv 3))))))))),?_⟩
 have p2:=pp.1;have hP:=pQ pp (by omega);refine⟨_,rfl,_,_,rfl,rfl,1,_,rfl,⟨by decide,by decide,by omega,by omega⟩,by omega,fun a ha=>?_⟩;have e1:rW 1 ((L:Int)+1-1).toNat=(List.range L).map fun k:Nat=>1+(k:Int):=by
  unfold rW;rw[show((L:Int)+1-1).toNat=L by omega]
 rw [e1];have Ga:=zD0 ha (.lst (((List.range L).map fun k:Nat=>1+(k:Int)).map V.int));refine⟨_,rfl,_,rfl,a,_,L,p,rfl,ai,L5,by omega,by omega,fun l H2 l0 S2 hl2=>?_⟩;have rg:=lI (show 1<p by omega) (fun k:Nat=>1+(k:Int)) L;have dv:=lJ p (fun k:Nat=>1+(k:Int)) L;rw[AG]at dv;have ne0:pmd p (fun k:Nat=>1+(k:Int)) L≠0:=fun z=>by
  rw[z]at dv;obtain⟨m,hm⟩:=dv;exact sM hP L Lp ⟨-m,by rw[Int.mul_neg];omega⟩
 refine⟨_,rfl,l,_,_,.int (pmd p (fun k:Nat=>1+(k:Int)) L),rfl,rfl,zH0 hl2,by rw[pN];exact uH _ _,_,rfl,_,p,rfl,pp,p9,by omega,rg.2,fun g g0 g1 hg=>?_⟩;have SH2:=Ga.trans S2;refine⟨_,rfl,_,rfl,by omega,by omega,fun D hD=>?_⟩;refine gu (fun i H'=>H' D=some (.lst (((List.range i).map fun j:Nat=>(L:Int)-j).map V.int))/\Same H2 H') ⟨by rw[ai];rfl,zD0 hD _⟩ ?_ ?_
 . rintro i H3 hi ⟨hD3,S3⟩;refine⟨_,rfl,_,rfl,_,_,rfl,rfl,_,hD3,?_,Nx.of hi ⟨?_,fun b o e=>?_⟩⟩
   . rw[zE0,zE0,qQ0];exact aW (by omega)
   . rw[ai,List.range_succ,zL0,zL0,Int.zero_add];rfl
   . rw[ay (aO e hD)];exact S3 _ _ e
 rintro H3 ⟨hD3,S3⟩;rw[show((L:Int)).toNat=L from qT0 L]at hD3;refine⟨_,rfl,D,_,L,p,rfl,hD3,L5,by omega,by omega,fun t H4 t0 S4 ht4=>?_⟩;refine⟨_,rfl,_,_,rfl,rfl,_,rfl,by omega,by omega,fun D2 hD2=>?_⟩;refine gu (fun i H'=>H' D2=some (.lst (((List.range i).map fun k:Nat=>g*pmd p (fun j:Nat=>(L:Int)-j) (L-k) % p).map V.int))/\Same H4 H') ⟨by rw[ai];rfl,zD0 hD2 _⟩ ?_ ?_
 . rintro i H5 hi ⟨hD5,S5⟩;have hi':i<L+1:=by omega
   have rg2:=lI (show 1<p by omega) (fun j:Nat=>(L:Int)-j) (L-i);have e2:(L:Int)-(0+(i:Int))=((L-i:Nat):Int):=by omega
   refine⟨_,rfl,_,rfl,_,rfl,_,rfl,_,_,rfl,rfl,t,_,_,.int (pmd p (fun j:Nat=>(L:Int)-j) (L-i)),rfl,rfl,zH0 (S5 _ _ ht4),by rw[e2];exact vg (by omega),_,_,rfl,rfl,.inl ⟨by omega,by omega⟩,_,rfl,_,_,rfl,rfl,(by omega),_,hD5,?_,Nx.of hi ⟨?_,fun b o e=>?_⟩⟩
   . rw[zE0,zE0,qQ0];exact aW (by omega)
   . rw[ai,List.range_succ,zL0,zL0];rfl
   . rw[ay (aO e hD2)];exact S5 _ _ e
 rintro H5 ⟨hD5,S5⟩;rw[show((L:Int)+1).toNat=L+1 by omega]at hD5;have S05:=SH2.trans (S3.trans (S4.trans S5));refine q D2 H5 (fun k=>g*pmd p (fun j:Nat=>(L:Int)-j) (L-k) % p) ((SH2.trans (S3.trans S4)).free hD2) S05 (fun k hk=>?_) (fun k=>⟨zX0 _ (by omega),qA0 _ (by omega)⟩) hD5;obtain⟨m,rfl⟩:∃m,L=k+m:=⟨L-k,by omega⟩
 rw[show k+m-k=m by omega];exact Aj hg (by omega) dv (lJ p _ m) (dm p _)
def wt(p:Int)(n i:Nat):Int:=(px (i:Int) i n % p) ^ (p-2).toNat
theorem rD{p:Int}(hp:Pm p){n:Nat}(hn:(n:Int)<=p):Wgt p n (wt p n):=fun i hi=>by
 have h1:=EB hp hn hi;obtain⟨k,hk⟩:=dm p (px (i:Int) i n);have h2:¬ p ∣ px (i:Int) i n % p:=fun⟨m,hm⟩=>h1 ⟨m-k,by grind⟩
 obtain⟨m,hm⟩:=Fa hp h2 (zX0 _ (by have:=hp.1;omega));exact⟨m-k*(px (i:Int) i n % p) ^ (p-2).toNat,by unfold wt;grind⟩
def val(p:Int)(xs:List Int)(r:Int):Int:=lag (fun i=>xs.getD i 0) (wt p xs.length) xs.length r % p
theorem Eg{p t r:Int}{xs:List Int}{u:Nat->Int}(hp:Pm p)(hn:(xs.length:Int)<=p)(hu:Wgt p xs.length u)(t0:0<=t)(t1:t<p)(h:p ∣ t-lag (fun i=>xs.getD i 0) u xs.length r):t=val p xs r:=by
 have e:p ∣ t-lag (fun i=>xs.getD i 0) (wt p xs.length) xs.length r:=by
  have:=BA hp hn (v:=fun i=>xs.getD i 0) hu (rD hp hn) r
  have z:=Int.dvd_add h this;have e2:t-lag (fun i=>xs.getD i 0) u xs.length r+(lag (fun i=>xs.getD i 0) u xs.length r-lag (fun i=>xs.getD i 0) (wt p xs.length) xs.length r)=t-lag (fun i=>xs.getD i 0) (wt p xs.length) xs.length r:=by omega
  rw[e2]at z;exact z
 have:=md e
 rw[qH0 t0 t1]at this;exact this
theorem wv{p:Int}(hp:1<p)(xs:List Int)(r:Int):0<=val p xs r/\val p xs r<p:=⟨zX0 _ (by omega),qA0 _ (by omega)⟩
theorem oX{p:Int}{xs:List Int}{k:Nat}(hp:Pm p)(hn:(xs.length:Int)<=p)(hk:k<xs.length):val p xs k=xs.getD k 0 % p:=md (kY (rD hp hn) hk)
theorem sgn(m:Nat):(-1:Int) ^ m=if m % 2=1 then -1 else 1:=by
 induction m with
 | zero=>rfl
 | succ m ih=>
   rw[Int.pow_succ,ih]
   by_cases c:m % 2=1
   . rw[zB0 c,zA0 (by omega)];rfl
   . rw[zA0 c,zB0 (by omega)];rfl
theorem Co{p r v t s a b c d e:Int}{i m:Nat}{x y:Int}(ht:p ∣ t-s)(ha:p ∣ a-pr (fun j=>r-j) i)(hb:p ∣ b-pr (fun j=>r-(i+m:Nat)+j) m)(hc:p ∣ c-v*a*b)(hd:p ∣ d-x*y)(he:p ∣ e-(t+(if m % 2=1 then -(c*d)else c*d))) :
 p ∣ e-(s+v*px r i (i+m+1)*((-1) ^ m*(x*y))):=by
 rw[show i+m+1=i+1+m by omega,pH,sgn];rw[wZ]at hb;generalize pr (fun j=>r-j) i=A at *
 generalize pr (fun j=>r-(i+1+j:Nat)) m=B at *
 obtain⟨t',ht⟩:=ht;obtain⟨a',ha⟩:=ha;obtain⟨b',hb⟩:=hb;obtain⟨c',hc⟩:=hc;obtain⟨d',hd⟩:=hd;obtain⟨e',he⟩:=he;have e1:c*d-v*(A*B)*(x*y)=p*(c'*d+v*(a'*b+A*b')*d+v*A*B*d'):=by grind
 by_cases z:m % 2=1
 . rw [zB0 z]at *
   exact⟨e'+t'-(c'*d+v*(a'*b+A*b')*d+v*A*B*d'),by grind⟩
 . rw [zA0 z]at *
   exact⟨e'+t'+(c'*d+v*(a'*b+A*b')*d+v*A*B*d'),by grind⟩
def IntsAt(H:Hp)(a:Addr)(xs:List Int):Prop:=H a=some (.lst (xs.map V.int))∨H a=some (.tup (xs.map V.int))
theorem IntsAt.same{H H':Hp}{a:Addr}{xs:List Int}(h:IntsAt H a xs)(s:Same H H'):IntsAt H' a xs:=h.elim (fun e=>.inl (s _ _ e)) (fun e=>.inr (s _ _ e))
theorem IntsAt.seq{K:W.Frag}{H:Hp}{a:Addr}{xs:List Int}(h:IntsAt H a xs):SqL K H a (xs.map V.int)∨SqT K H a (xs.map V.int):=h.elim (fun e=>.inl (zH0 e)) (fun e=>.inr (zC0 e))
theorem IntsAt.ix{K:W.Frag}{H:Hp}{a:Addr}{xs:List Int}{k:Nat}{Q:VK}(h:IntsAt H a xs)(hk:k<xs.length)(q:Q (.int (xs.getD k 0)) H):AB K (.ref a) (.int (k:Int)) H Q∨AA K (.ref a) (.int (k:Int)) H Q:=by
 have e:atI (xs.map V.int) (k:Int)=some (.int (xs.getD k 0)):=cL (by rw[zR0,zK0 hk,zS0,zK0 hk];rfl);rcases h with h | h
 . exact .inl ⟨a,_,_,_,rfl,rfl,zH0 h,e,q⟩
 . exact .inr ⟨a,_,_,_,rfl,rfl,zC0 h,e,q⟩
def kK(xs:List Int)(p:Int):Prop:=1<=xs.length/\xs.length<=500/\(xs.length:Int)<=p/\∀k,0<=xs.getD k 0/\xs.getD k 0<2 ^ 40
def qN:Sp:=fun vs H Q _=>∃(a:Addr)(xs:List Int)(r p:Int),vs=[.ref a,.int r,.int p]/\IntsAt H a xs/\kK xs p/\Pr p/\p<=999983/\0<=r/\r<p/\∀H',Same H H'->Q (.int (val p xs r)) H'
theorem bt:FnScope ["values","r","p","last","ahead","behind","shares","total","place","share","part"] ["values","r","p"] (ag df):=⟨rfl,rfl,rfl,by decide +kernel,rfl,by decide +kernel,by decide +kernel⟩
theorem oF {f:Addr} {fd:FuncData} (F:Fun K "value_behind" "value_behind" df f fd) (B:Bl mg) (fe:Cal P w K mg base 1 "products" ["numbers","p"] uS) (fo:Cal P w K mg base 2 "inverse_factorials" ["last","p"] Aa):FnOk P w K mg base CX0 3 f fd ["values","r","p"] qN:=by
 refine F.ok bt (fun vs H Q E h=>?_) (fun cdv A outer s H vs Q E hr h=>?_)
 . obtain⟨a,xs,r,p,rfl,_⟩:=h;rfl
 obtain ⟨a,xs,r,p,rfl,ha,⟨x1,x5,xp,xb⟩,pp,p9,r0,r1,q⟩:=h;refine⟨_,(ad (ao (i:=3) bt.nd rfl (Or.inr rfl) (aj bm (aJ aE rfl B.len PySem.boot_len (aa (pv 0) ae)) af))
  (ad (ao (i:=4) bt.nd rfl (Or.inl rfl) (au fe hr (by decide) rfl (aa (dB (N:=["r"]) (ix:=[1]) rfl
   CompScope.one rfl
   (cF rfl B.range (aa (pv 3) ae)) (fun _ _ _=>dF (aj bm (pv 1) (pv 0)))) (aa (pv 2) ae))))
  (ad (ao (i:=5) bt.nd rfl (Or.inl rfl) (au fe hr (by decide) rfl (aa (dB (N:=["r","last"]) (ix:=[1,3]) rfl
   CompScope.two rfl
   (cF rfl B.range (aa (pv 3) ae)) (fun _ _ _=>dF (aj aU (aj bm (pv 1) (pv 2)) (pv 0)))) (aa (pv 2) ae))))
  (ad (ao (i:=6) bt.nd rfl (Or.inl rfl) (au fo hr (by decide) rfl (aa (pv 3) (aa (pv 2) ae))))
  (ad (ao (i:=7) bt.nd rfl (Or.inl rfl) af)
  (ad (da PassesOwn.never rfl (cF rfl B.range (aa (aj aU (pv 3) af) ae)) (bX (i:=8) bt.nd rfl (Or.inl rfl)) (ad (ao (i:=9) bt.nd rfl (Or.inl rfl) (aj bd (aj cq (aP ix_list (pv 6) (pv 8) (fun _ _=>rfl)) (aP ix_list (pv 6) (aj bm (pv 3) (pv 8)) (fun _ _=>rfl))) (pv 2)))
   (ad (ao (i:=10) bt.nd rfl (Or.inl rfl) (aj cq (aj bd (aj cq (aj cq (aP (ix_list.or ix_tup) (pv 0) (pv 8) (fun _ _=>rfl)) (aP ix_list (pv 4) (pv 8) (fun _ _=>rfl))) (aP ix_list (pv 5) (aj bm (pv 3) (pv 8)) (fun _ _=>rfl))) (pv 2)) (pv 9)))
   (ad (aS (am aZ (aj bd (aj bm (pv 3) (pv 8)) af) af (aq _)) (ah (ao (i:=10) bt.nd rfl (Or.inl rfl) (AM uN (pv 10)))) aI)
   (ah (ao (i:=7) bt.nd rfl (Or.inl rfl) (aj bd (aj aU (pv 7) (pv 10)) (pv 2))))))))
  (ah (az (pv 7))))))))),?_⟩
 have p2:=pp.1;have p1:1<p:=by omega
 have p0:0<p:=by omega
 have hP:=pQ pp (by omega);obtain⟨L,hL⟩:∃L,xs.length=L+1:=⟨xs.length-1,by omega⟩
 have eL:(((xs.map V.int).length:Nat):Int)-1=(L:Int):=by rw[zE0];omega
 refine⟨_,rfl,a,_,rfl,ha.seq,_,_,rfl,rfl,?_⟩
 dsimp only
 rw[eL];refine⟨_,rfl,(L:Int),rfl,by omega,by omega,fun D hD=>?_⟩;refine gu (fun i H'=>H' D=some (.lst (((List.range i).map fun j:Nat=>r-j).map V.int))/\Same H H') ⟨by rw[ai];rfl,zD0 hD _⟩ ?_ ?_
 . rintro i H3 hi ⟨hD3,S3⟩;refine⟨_,rfl,_,rfl,_,_,rfl,rfl,_,hD3,?_,Nx.of hi ⟨?_,fun b o e=>?_⟩⟩
   . rw[zE0,zE0,qQ0];exact aW (by omega)
   . rw[ai,List.range_succ,zL0,zL0,Int.zero_add];rfl
   . rw[ay (aO e hD)];exact S3 _ _ e
 rintro H1 ⟨hD1,S1⟩;rw[show((L:Int)).toNat=L from qT0 L]at hD1;refine⟨_,rfl,D,_,L,p,rfl,hD1,by omega,p1,by omega,fun la H2 la0 S2 hla=>?_⟩;refine⟨_,rfl,(L:Int),rfl,by omega,by omega,fun D2 hD2=>?_⟩;refine gu (fun i H'=>H' D2=some (.lst (((List.range i).map fun j:Nat=>r-(L:Int)+j).map V.int))/\Same H2 H') ⟨by rw[ai];rfl,zD0 hD2 _⟩ ?_ ?_
 . rintro i H3 hi ⟨hD3,S3⟩;refine⟨_,rfl,_,rfl,_,_,rfl,rfl,_,rfl,_,_,rfl,rfl,_,hD3,?_,Nx.of hi ⟨?_,fun b o e=>?_⟩⟩
   . rw[zE0,zE0,qQ0];exact aW (by omega)
   . rw[ai,List.range_succ,zL0,zL0,Int.zero_add];rfl
   . rw[ay (aO e hD2)];exact S3 _ _ e
 rintro H3 ⟨hD3,S3⟩;rw[show((L:Int)).toNat=L from qT0 L]at hD3;refine⟨_,rfl,D2,_,L,p,rfl,hD3,by omega,p1,by omega,fun lb H4 lb0 S4 hlb=>?_⟩;refine⟨_,rfl,_,rfl,L,p,rfl,by omega,by omega,pp,p9,fun ls H5 sh ls0 S5 hsh hsr hls=>?_⟩;have S25:=S3.trans (S4.trans S5);have S05:=S1.trans (S2.trans S25);have hla5:=S25 _ _ hla;have hlb5:=S5 _ _ hlb;have ha5:=ha.same S05;have hW:=Cl hsh;refine⟨_,rfl,_,_,rfl,rfl,_,rfl,by omega,by omega,dU (fun i σ H'=>∃(t:Int)(x8 x9 x10:Option V),σ=[some (.ref a),some (.int r),some (.int p),some (.int L),some (.ref la),some (.ref lb),some (.ref ls),some (.int t),x8,x9,x10]/\0<=t/\t<p/\p ∣ t-sm (fun i=>xs.getD i 0*px r i (L+1)*((-1) ^ (L-i)*(sh i*sh (L-i)))) i/\H'=H5)
  ⟨0,_,_,_,rfl,by decide,p0,⟨0,by simp [sm]⟩,rfl⟩ ?_ ?_⟩
 . rintro i σ H6 hi ⟨t,x8,x9,x10,rfl,t0,t1,td,rfl⟩;have hi':i<L+1:=by omega
   obtain⟨m,hm⟩:∃m,L=i+m:=⟨L-i,by omega⟩
   have e0:(0:Int)+(i:Int)=(i:Int):=Int.zero_add _;have e1:(L:Int)-(0+(i:Int))=(m:Int):=by omega
   have r1':=hsr i;have r2':=hsr m;have ar:=lI p1 (fun j:Nat=>r-j) i;have br:=lI p1 (fun j:Nat=>r-(L:Int)+j) m;have xi:=xb i;have m1:∀z:Int,0<=z % p:=fun z=>zX0 _ (by omega)
   have m2:∀z:Int,z % p<p:=fun z=>qA0 _ p0
   refine ⟨_,rfl,_,rfl,ls,_,_,.int (sh i),rfl,rfl,zH0 hls,by rw[e0];exact vK hi',_,rfl,_,rfl,_,rfl,_,_,rfl,rfl,ls,_,_,.int (sh m),rfl,rfl,zH0 hls,by rw[e1];exact vK (by omega),_,_,rfl,rfl,.inl ⟨by omega,by omega⟩,_,rfl,_,_,rfl,rfl,p0,?_⟩;refine⟨_,rfl,_,rfl,?_⟩;rw[e0];refine ha5.ix (by omega) ?_;refine⟨_,rfl,_,rfl,la,_,_,.int (pmd p (fun j:Nat=>r-j) i),rfl,rfl,zH0 hla5,vg hi',_,_,rfl,rfl,.inl ⟨by omega,by omega⟩,?_⟩;refine⟨_,rfl,_,rfl,_,rfl,_,_,rfl,rfl,lb,_,_,.int (pmd p (fun j:Nat=>r-(L:Int)+j) m),rfl,rfl,zH0 hlb5,by rw[←e0,e1];exact vg (by omega),_,_,rfl,rfl,.inr ⟨by omega,by omega⟩,_,rfl,_,_,rfl,rfl,p0,?_⟩;have s1:=m1 (sh i*sh m);have s2:=m2 (sh i*sh m);refine⟨_,rfl,_,_,rfl,rfl,.inr ⟨by omega,by omega⟩,?_⟩;refine⟨_,rfl,_,rfl,_,_,rfl,rfl,_,_,rfl,rfl,(by show(0:Int)<_;decide),rfl,_,rfl,?_⟩;have fin:∀z:Int,z=(if m % 2=1 then -(xs.getD i 0*pmd p (fun j:Nat=>r-j) i*pmd p (fun j:Nat=>r-(L:Int)+j) m % p*(sh i*sh m % p))else xs.getD i 0*pmd p (fun j:Nat=>r-j) i*pmd p (fun j:Nat=>r-(L:Int)+j) m % p*(sh i*sh m % p)) ->
    p ∣ (t+z) % p-sm (fun i=>xs.getD i 0*px r i (L+1)*((-1) ^ (L-i)*(sh i*sh (L-i)))) (i+1):=fun z hz=>by
    show p ∣ _-(sm _ i+xs.getD i 0*px r i (L+1)*((-1) ^ (L-i)*(sh i*sh (L-i))))
    have em:L-i=m:=by omega
    have hb:p ∣ pmd p (fun j:Nat=>r-(L:Int)+j) m-pr (fun j=>r-(i+m:Nat)+j) m:=by
     rw[←hm];exact lJ p _ m
    subst hz;rw[em];have el:L+1=i+m+1:=by omega
    rw[el]at td ⊢;exact Co td (lJ p _ i) hb (dm p _) (dm p _) (dm p _)
   by_cases c:m % 2=1
   . refine bh (congrArg V.int (by omega)) ?_;refine⟨_,rfl,_,rfl,?_⟩;refine⟨_,rfl,_,rfl,_,_,rfl,rfl,_,rfl,_,_,rfl,rfl,p0,?_⟩;exact⟨_,_,_,_,rfl,m1 _,m2 _,fin _ (by rw[zB0 c]),rfl⟩
   . refine aF (fun z=>c (by have:=V.int.inj z;omega)) ?_;refine⟨_,rfl,_,rfl,_,_,rfl,rfl,_,rfl,_,_,rfl,rfl,p0,?_⟩;exact⟨_,_,_,_,rfl,m1 _,m2 _,fin _ (by rw[zA0 c]),rfl⟩
 . rintro σ H6 ⟨t,x8,x9,x10,rfl,t0,t1,td,rfl⟩;rw[show((L:Int)+1).toNat=L+1 by omega]at td;rw[←hL]at hW;have e:=Eg (r:=r) hP xp hW t0 t1 (by
    unfold lag;rw[hL];exact td)
   rw[e];exact⟨_,rfl,q H6 S05⟩
theorem r9:FnScope ["values","r","p","place"] ["values","r","p"] (ag fQ):=⟨rfl,rfl,rfl,by decide +kernel,rfl,by decide +kernel,by decide +kernel⟩
theorem tU {f:Addr} {fd:FuncData} (F:Fun K "value_at" "value_at" fQ f fd) (B:Bl mg) (ir:Cal P w K mg base 3 "value_behind" ["values","r","p"] qN):FnOk P w K mg base CX0 4 f fd ["values","r","p"] qN:=by
 refine F.ok r9 (fun vs H Q E h=>?_) (fun cdv A outer s H vs Q E hr h=>?_)
 . obtain⟨a,xs,r,p,rfl,_⟩:=h;rfl
 obtain ⟨a,xs,r,p,rfl,ha,ok,pp,p9,r0,r1,q⟩:=h;refine⟨_,(ad (ao (i:=3) r9.nd rfl (Or.inl rfl) (aj bd (pv 1) (pv 2)))
  (ad (aS (am gO (pv 3) (aJ aE rfl B.len PySem.boot_len (aa (pv 0) ae)) (aq _)) (ah (az (aj bd (aP (ix_list.or ix_tup) (pv 0) (pv 3) (fun _ _=>rfl)) (pv 2)))) aI)
  (ah (az (au ir hr (by decide) rfl (aa (pv 0) (aa (pv 3) (aa (pv 2) ae)))))))),?_⟩
 have p0:0<p:=by omega
 have hP:=pQ pp (by omega);have er:r % p=r:=qH0 r0 r1;refine⟨_,rfl,_,rfl,_,_,rfl,rfl,p0,?_⟩
 dsimp only
 rw[er];refine⟨_,rfl,_,rfl,a,_,rfl,ha.seq,_,_,rfl,rfl,_,rfl,?_⟩;refine lU (fun c=>?_) (fun c=>?_)
 . have c':=of_decide_eq_true c;rw[zE0]at c';obtain⟨k,rfl⟩:∃k:Nat,r=(k:Int):=⟨r.toNat,by omega⟩
   refine⟨_,rfl,_,rfl,?_⟩;refine ha.ix (by omega) ?_;refine⟨_,rfl,_,_,rfl,rfl,p0,?_⟩;show Q (.int (xs.getD k 0 % p)) H;rw[←oX hP ok.2.2.1 (by omega)];exact q H (Same.refl _)
 . exact⟨_,rfl,_,rfl,_,rfl,a,xs,r,p,rfl,ha,ok,pp,p9,r0,r1,q⟩
def Ab:Sp:=fun vs H Q _=>∃(a:Addr)(xs:List Int)(p:Int),vs=[.ref a,.int p]/\IntsAt H a xs/\kK xs p/\Pr p/\p<=999983/\∀H',Same H H'->Q (.int ((val p xs 0+val p xs 1) % p)) H'
theorem rR:FnScope ["values","p"] ["values","p"] (ag eR):=⟨rfl,rfl,rfl,by decide +kernel,rfl,by decide +kernel,by decide +kernel⟩
theorem sB {f:Addr} {fd:FuncData} (F:Fun K "both_ends" "both_ends" eR f fd) (b9:Cal P w K mg base 4 "value_at" ["values","r","p"] qN):FnOk P w K mg base CX0 5 f fd ["values","p"] Ab:=by
 refine F.ok rR (fun vs H Q E h=>?_) (fun cdv A outer s H vs Q E hr h=>?_)
 . obtain⟨a,xs,p,rfl,_⟩:=h;rfl
 obtain⟨a,xs,p,rfl,ha,ok,pp,p9,q⟩:=h;refine⟨_,(ah (az (aj bd (aj aU (au b9 hr (by decide) rfl (aa (pv 0) (aa af (aa (pv 1) ae)))) (au b9 hr (by decide) rfl (aa (pv 0) (aa af (aa (pv 1) ae))))) (pv 1)))),?_⟩;have p2:=pp.1;refine⟨_,rfl,_,rfl,a,xs,0,p,rfl,ha,ok,pp,p9,by decide,by omega,fun H1 S1=>?_⟩;refine⟨_,rfl,_,rfl,a,xs,1,p,rfl,ha.same S1,ok,pp,p9,by decide,by omega,fun H2 S2=>?_⟩;exact⟨_,_,rfl,rfl,_,rfl,_,_,rfl,rfl,(by omega),q H2 (S1.trans S2)⟩
theorem IntsAt.sqB{K:W.Frag}{H:Hp}{a:Addr}{xs:List Int}(h:IntsAt H a xs):∃c,SqB K c H a (xs.map V.int):=h.elim (fun e=>⟨true,zH0 e⟩) (fun e=>⟨false,zC0 e⟩)
def hor(s p:Int):List Int->Int
 | []=>0
 | a::r=>(hor s p r*s+a) % p
theorem ky{s p:Int}(hp:0<p):∀ns,0<=hor s p ns/\hor s p ns<p
 | []=>⟨Int.le_refl 0,hp⟩
 | a::r=>⟨zX0 _ (by omega),qA0 _ hp⟩
def zT(C:Addr):Sp:=fun vs H Q _=>∃(g a b d l:Addr)(ns:List Int)(s p:Int),vs=[.ref g,.ref l,.int s]/\GameAt C H g a b d p/\0<p/\p<2 ^ 40/\IntsAt H l ns/\Q (.int (hor s p ns)) H
theorem r8:FnScope ["self","numbers","s","total","number"] ["self","numbers","s"] (ag mY):=⟨rfl,rfl,rfl,by decide +kernel,rfl,by decide +kernel,by decide +kernel⟩
theorem Dd {f C:Addr} {fd:FuncData} (F:Fun K "mix" "Game.mix" mY f fd) (T:GTxt K mg C) (hrev:mg "reversed"=none):FnOk P w K mg base CX0 1 f fd ["self","numbers","s"] (zT C):=by
 refine F.ok r8 (fun vs H Q E h=>?_) (fun cdv A outer s H vs Q E hr h=>?_)
 . obtain⟨g,a,b,d,l,ns,s,p,rfl,_⟩:=h;rfl
 obtain ⟨g,a,b,d,l,ns,s,p,rfl,⟨dx,hg⟩,p0,p40,hl,q⟩:=h;refine⟨_,(ad (ao (i:=3) r8.nd rfl (Or.inl rfl) af)
  (ad (da PassesOwn.never rfl (CT rfl hrev (pv 1)) (bX (i:=4) r8.nd rfl (Or.inl rfl)) (ah (ao (i:=3) r8.nd rfl (Or.inl rfl) (aj bd (aj aU (aj cq (pv 3) (pv 2)) (pv 4)) (ax (pv 0) rfl)))))
  (ah (az (pv 3))))),?_⟩
 obtain ⟨c,hl⟩:=hl.sqB (K:=K);refine⟨_,rfl,c,l,_,rfl,hl,BJ (K:=K) (c:=c) (xs:=ns.map V.int) (fun i σ H'=>∃(x4:Option V)(t:Int),σ=[some (.ref g),some (.ref l),some (.int s),some (.int t),x4]/\t=hor s p (ns.drop (ns.length-i))/\H'=H)
  ⟨_,0,rfl,by rw[Nat.sub_zero,List.drop_length];rfl,rfl⟩ (fun i σ H' _ hst=>by obtain⟨_,_,_,_,h⟩:=hst;subst h;exact hl) ?_ ?_⟩
 . rintro i z σ H1 hi hz ⟨x4,t,rfl,rfl,rfl⟩;rw[zE0]at hi;rw[←List.map_reverse,zR0]at hz;obtain⟨x,hx,rfl⟩:=qV0 hz;rw[List.getElem?_reverse hi]at hx;have hr2:=ky (s:=s) p0 (ns.drop (ns.length-i));refine⟨_,rfl,_,rfl,_,_,rfl,rfl,.inl ⟨by omega,by omega⟩,_,rfl,_,_,rfl,rfl,_,rfl,g,C,dx,_,_,rfl,hg,T.cl,T.nF,ig ..,_,_,rfl,rfl,p0,?_⟩;refine⟨_,_,rfl,?_,rfl⟩;have hj:ns.length-1-i<ns.length:=by omega
   have ed:ns.drop (ns.length-(i+1))=x::ns.drop (ns.length-i):=by
    have e1:ns.length-(i+1)=ns.length-1-i:=by omega
    have e2:ns.length-i=ns.length-1-i+1:=by omega
    rw[e1,e2,List.drop_eq_getElem_cons hj]
    congr 1
    rw[zK0 hj]at hx;exact zQ0 hx
   rw[ed];rfl
 . rintro σ H1 ⟨x4,t,rfl,rfl,rfl⟩;rw[zE0,Nat.sub_self,List.drop_zero];exact⟨_,rfl,q⟩
def zO(C:Addr):Sp:=fun vs H Q _=>∃(g a b d r:Addr)(ns:List Str)(tv:List V)(ts:List Tr)(pt:List Int)(s p:Int),vs=[.ref g,.ref r,.int s]/\GameAt C H g a b d p/\1<p/\p<2 ^ 40/\H a=some (.tup (ns.map V.str))/\H b=some (.tup tv)/\TreesAt H tv ts/\ts.length<=10/\(∀t∈ts,t.ok ns/\t.depth<=10)/\
 H r=some (.tup (pt.map V.int))/\pt.length=ns.length/\bV pt p/\∀H',Same H H'->Q (.int (hor s p (ts.map fun t=>t.worth ns pt p))) H'
theorem yi:FnScope ["self","point","s"] ["self","point","s"] (ag iK):=⟨rfl,rfl,rfl,by decide +kernel,rfl,by decide +kernel,by decide +kernel⟩
theorem yD {f fm C:Addr} {fd fdm:FuncData} (F:Fun K "worth_at" "Game.worth_at" iK f fd) (T:GTxt K mg C) (mM:Meth K C "mix" fm) (GM:FnOk P w K mg base CX0 1 fm fdm ["self","numbers","s"] (zT C)) (bM:Binds K fdm ["self","numbers","s"] []) (fN:Cal P w K mg base 12 "worth_of" ["tree","switches","point","p"] (jP 10)):FnOk P w K mg base CX0 13 f fd ["self","point","s"] (zO C):=by
 refine F.ok yi (fun vs H Q E h=>?_) (fun cdv A outer s H vs Q E hr h=>?_)
 . obtain⟨g,a,b,d,r,ns,tv,ts,pt,s,p,rfl,_⟩:=h;rfl
 obtain ⟨g,a,b,d,r,ns,tv,ts,pt,s,p,rfl,⟨dx,hg⟩,p1,p40,ha,hb,TS,t10,tok,hr0,pl,po,q⟩:=h;have hr1:Room 1 _:=hr.mono (by decide);refine⟨_,(ah (az (db (pv 0) T.cl mM GM hr1 bM .nil bQ (aa (dB (N:=["self","point"]) (ix:=[0,1]) rfl
  CompScope.two rfl
  (gq (ax (pv 0) rfl)) (fun _ _ _=>dF (au fN hr (by decide) rfl (aa (pv 0) (aa (kr K (pv 1)) (aa (pv 2) (aa (kr K (pv 1)) ae))))))) (aa (pv 2) ae))))),?_⟩
 have vl:=TS.length;refine⟨_,rfl,g,dx,_,rfl,hg,qi _ _ _ _ (by decide +kernel) (by decide +kernel) (by decide +kernel) (by decide +kernel),?_⟩;refine⟨_,rfl,g,C,dx,_,_,rfl,hg,T.cl,T.nT,lY ..,b,rfl,⟨_,zC0 hb⟩,fun D hD=>?_⟩;refine eY (K:=K) (xs:=tv) (fun i H'=>H' D=some (.lst (((ts.take i).map fun t=>t.worth ns pt p).map V.int))/\Same H H') ⟨by rw[ai];rfl,zD0 hD _⟩ (fun i H' _ h=>zC0 (h.2 _ _ hb)) ?_ ?_
 . rintro i z H2 hz ⟨hl,S2⟩;obtain⟨t,ht,Tt⟩:=TS.get hz;obtain⟨tk,td⟩:=tok t (qG0 ht);have hi:i<tv.length:=(zY0 hz).1;refine⟨_,rfl,_,rfl,g,C,dx,_,_,rfl,S2 _ _ hg,T.cl,T.nS,oy ..,_,rfl,_,rfl,g,C,dx,_,_,rfl,S2 _ _ hg,T.cl,T.nF,ig ..,z,t,a,r,ns,pt,p,rfl,Tt.mono (aG S2),tk,td,.inr (S2 _ _ ha),S2 _ _ hr0,pl,p1,p40,po,?_⟩;refine⟨_,hl,?_,Nx.of hi ⟨?_,fun b' o' e'=>?_⟩⟩
   . rw[zE0,zE0,qO0];exact aW (by omega)
   . rw[ai,qN0,ht,zL0,zL0];rfl
   . rw[ay (aO e' hD)];exact S2 _ _ e'
 . rintro H2 ⟨hl,S2⟩;rw[vl,qM0]at hl;exact⟨_,rfl,g,a,b,d,D,_,s,p,rfl,⟨dx,S2 _ _ hg⟩,by omega,p40,.inl hl,q H2 S2⟩
def rH(C:Addr):Sp:=fun vs H Q _=>∃(g a b d:Addr)(ns:List Str)(tv:List V)(p:Int),vs=[.ref g]/\GameAt C H g a b d p/\H a=some (.tup (ns.map V.str))/\H b=some (.tup tv)/\Q (.int (if tv.length=1 then(ns.length:Int)else(ns.length:Int)+1)) H
theorem yj:FnScope ["self"] ["self"] (ag iL):=⟨rfl,rfl,rfl,by decide +kernel,rfl,by decide +kernel,by decide +kernel⟩
theorem yE {f C:Addr} {fd:FuncData} (F:Fun K "coins" "Game.coins" iL f fd) (T:GTxt K mg C) (hlen:mg "len"=none):FnOk P w K mg base CX0 1 f fd ["self"] (rH C):=by
 refine F.ok yj (fun vs H Q E h=>?_) (fun cdv A outer s H vs Q E hr h=>?_)
 . obtain⟨g,a,b,d,ns,tv,p,rfl,_⟩:=h;rfl
 obtain ⟨g,a,b,d,ns,tv,p,rfl,⟨dx,hg⟩,ha,hb,q⟩:=h;refine⟨_,(ad (aS (am aZ (aJ aE rfl hlen PySem.boot_len (aa (ax (pv 0) rfl) ae)) af (aq _)) (ah (az (aJ aE rfl hlen PySem.boot_len (aa (ax (pv 0) rfl) ae)))) aI)
  (ah (az (aj aU (aJ aE rfl hlen PySem.boot_len (aa (ax (pv 0) rfl) ae)) af)))),?_⟩
 refine⟨_,rfl,g,C,dx,_,_,rfl,hg,T.cl,T.nT,lY ..,b,_,rfl,.inr (zC0 hb),rfl,_,rfl,?_⟩
 by_cases c:V.int (tv.length:Int)=V.int 1
 . refine bh c ?_;have c':tv.length=1:=by have:=V.int.inj c;omega
   rw[zB0 c']at q;refine⟨_,rfl,g,C,dx,_,_,rfl,hg,T.cl,T.nS,oy ..,a,_,rfl,.inr (zC0 ha),?_⟩;rw[zE0];exact q
 . refine aF c ?_;have c':¬ tv.length=1:=fun z=>c (by rw[z];rfl)
   rw[zA0 c']at q;refine⟨_,rfl,g,C,dx,_,_,rfl,hg,T.cl,T.nS,oy ..,a,_,rfl,.inr (zC0 ha),?_⟩;rw[zE0];exact⟨_,_,rfl,rfl,q⟩
def mK(n:Nat):Sp:=fun vs H Q _=>∃(v:V)(t:Tr),vs=[v]/\TreeAt H v t/\t.wf/\t.depth<=n/\t.size<=400/\∀H',Same H H'->Q (.int t.size) H'
theorem uX(ts:List Tr):(ts.map fun u=>(u.size:Int)).sum=(iC ts:Int):=by
 induction ts with
 | nil=>rfl
 | cons a r ih=>
   simp only[iC,zZ0,List.sum_cons]at ih ⊢;rw[ih];omega
theorem uZ:FnScope ["tree"] ["tree"] (ag fX):=⟨rfl,rfl,rfl,by decide +kernel,rfl,by decide +kernel,by decide +kernel⟩
theorem yf {n:Nat} {f:Addr} {fd:FuncData} (F:Fun K "size_of" "size_of" fX f fd) (B:Bl mg) (bp:Cal P w K mg base 1 "trees_within" ["tree"] jr) (i7:Cal P w K mg base (n+2) "size_of" ["tree"] (mK n)):FnOk P w K mg base CX0 (n+3) f fd ["tree"] (mK (n+1)):=by
 refine F.ok uZ (fun vs H Q E h=>?_) (fun cdv A outer s H vs Q E hr h=>?_)
 . obtain⟨v,t,rfl,_⟩:=h;rfl
 obtain ⟨v,t,rfl,T,wf,dn,sz,q⟩:=h;refine⟨_,(ah (az (aj aU af (aJ (qo rfl) rfl B.sum PyProof.Rows.boot_sum (aa (dB (N:=[]) (ix:=[]) (cl:=[]) rfl CompScope.closed rfl
  (gq (au bp hr (by omega) rfl (aa (pv 0) ae))) (fun _ _ _=>dF (au i7 hr (zG0 _) rfl (aa (pv 0) ae)))) ae))))),?_⟩
 refine⟨_,rfl,v,t,rfl,T,wf,fun p xs H1 S1 hp TS=>?_⟩;refine⟨p,rfl,⟨_,zC0 hp⟩,fun D hD=>?_⟩;have pD:p≠D:=aO hp hD;have xl:=TS.length;have sp:=t.size_parts;refine eY (K:=K) (xs:=xs) (fun i H'=>H' D=some (.lst (((t.parts.take i).map fun u=>(u.size:Int)).map V.int))/\Same H1 H') ⟨by rw[ai];rfl,zD0 hD _⟩ (fun i H' _ h=>zC0 (h.2 _ _ hp)) ?_ ?_
 . rintro i x H2 hx ⟨hl,S2⟩;obtain⟨u,hu,Tu⟩:=TS.get hx;have um:=qG0 hu;obtain⟨uw,ud,us⟩:=Tr.parts_mem um wf;have hi:i<xs.length:=(zY0 hx).1;refine⟨_,rfl,x,u,rfl,Tu.mono (aG S2),uw,by omega,by omega,fun H3 S3=>?_⟩;refine⟨_,S3 _ _ hl,?_,Nx.of hi ⟨?_,fun b o e=>?_⟩⟩
   . have:t.parts.length<=2:=by cases t <;> simp [Tr.parts]
     rw[zE0,zE0,qO0];exact aW (by omega)
   . rw[ai,qN0,hu,zL0,zL0];rfl
   . rw[ay (aO e hD)];exact S3 _ _ (S2 _ _ e)
 . rintro H2 ⟨hl,S2⟩;rw[xl,qM0]at hl;have sc:=uX t.parts;refine⟨D,_,rfl,zH0 hl,?_,?_,?_⟩
   . intro n hn;obtain⟨u,_,rfl⟩:=List.mem_map.mp hn;omega
   . rw[sc];omega
   . rw [sc];refine⟨_,_,rfl,rfl,?_⟩;have e:(1:Int)+(iC t.parts:Int)=(t.size:Int):=by omega
     show Q (.int (1+(iC t.parts:Int))) H2;rw[e];exact q H2 (S1.trans S2)
theorem ye {f:Addr} {fd:FuncData}:FnOk P w K mg base CX0 2 f fd ["tree"] (mK 0):=by
 have no:∀vs H Q E,¬ mK 0 vs H Q E:=fun vs H Q E h=>by
  obtain⟨v,t,_,_,_,h1,_⟩:=h
  have:=t.depth_pos
  omega
 exact⟨fun vs H Q E h=>absurd h (no vs H Q E),fun A outer s H args us vs Q E _ _ _ _ h=>absurd h (no vs H Q E)⟩
theorem pX {f:Addr} {fd:FuncData} (F:Fun K "size_of" "size_of" fX f fd) (B:Bl mg) (m:mg "size_of"=some (.ref f)) (bp:Cal P w K mg base 1 "trees_within" ["tree"] jr) :
 ∀n:Nat,FnOk P w K mg base CX0 (n+2) f fd ["tree"] (mK n)
 | 0=>ye
 | n+1=>yf F B bp (Cal.of F (pX F B m bp n) m (fun _ _ _ _ _ _ us hl=>by obtain⟨u0,rfl⟩:=gI hl;rfl))
abbrev ke:Stmt:=bY dq 0
abbrev iM:Stmt:=bY dq 1
abbrev ni:Stmt:=bY dq 2
abbrev kf:Stmt:=bY dq 4
abbrev kd:Stmt:=bY dq 5
abbrev gW:Stmt:=bY dq 6
abbrev iO:Stmt:=bY dq 7
abbrev mZ:Stmt:=bY dq 8
abbrev qO:Stmt:=bY dq 9
abbrev iN:Stmt:=bY dq 10
def dl (g aA aC:Addr) (s:Int) (aH aT:Addr) (ed pl:Int):List (Str×V):=[("game",.ref g),("awaited",.ref aA),("claims",.ref aC),("s",.int s),("heard",.ref aH),("tossed",.ref aT),("held",.int ed),("places",.int pl)]
section
variable {g aA aC aH aT:Addr} {s ed pl:Int}
theorem iU:(dl g aA aC s aH aT ed pl).lookup ("game":Str)=some (.ref g):=by with_unfolding_all rfl
theorem BP:(dl g aA aC s aH aT ed pl).lookup ("awaited":Str)=some (.ref aA):=by with_unfolding_all rfl
theorem Fg:(dl g aA aC s aH aT ed pl).lookup ("claims":Str)=some (.ref aC):=by with_unfolding_all rfl
theorem Fc:(dl g aA aC s aH aT ed pl).lookup ("s":Str)=some (.int s):=by with_unfolding_all rfl
theorem Ff:(dl g aA aC s aH aT ed pl).lookup ("heard":Str)=some (.ref aH):=by with_unfolding_all rfl
theorem vY:(dl g aA aC s aH aT ed pl).lookup ("tossed":Str)=some (.ref aT):=by with_unfolding_all rfl
theorem xF:(dl g aA aC s aH aT ed pl).lookup ("held":Str)=some (.int ed):=by with_unfolding_all rfl
theorem xE:(dl g aA aC s aH aT ed pl).lookup ("places":Str)=some (.int pl):=by with_unfolding_all rfl
theorem oz:(dl g aA aC s aH aT ed pl).lookup ("waits":Str)=none:=by with_unfolding_all rfl
theorem dl_n2:(dl g aA aC s aH aT ed pl).lookup ("due":Str)=none:=by with_unfolding_all rfl
theorem dl_n4:(dl g aA aC s aH aT ed pl).lookup ("hear":Str)=none:=by with_unfolding_all rfl
theorem Eb:(dl g aA aC s aH aT ed pl).lookup ("toss":Str)=none:=by with_unfolding_all rfl
theorem dl_n6:(dl g aA aC s aH aT ed pl).lookup ("hear_claims":Str)=none:=by with_unfolding_all rfl
theorem Ea:(dl g aA aC s aH aT ed pl).lookup ("begin_rounds":Str)=none:=by with_unfolding_all rfl
theorem dl_n8:(dl g aA aC s aH aT ed pl).lookup ("hear_row":Str)=none:=by with_unfolding_all rfl
theorem BO:(dl g aA aC s aH aT ed pl).lookup ("go_on":Str)=none:=by with_unfolding_all rfl
theorem Fe:(dl g aA aC s aH aT ed pl).lookup ("look_at_trees":Str)=none:=by with_unfolding_all rfl
theorem pI {v:Addr}:cf "awaited" (.ref v) (dl g aA aC s aH aT ed pl)=dl g v aC s aH aT ed pl:=by with_unfolding_all rfl
theorem DU {v:Addr}:cf "claims" (.ref v) (dl g aA aC s aH aT ed pl)=dl g aA v s aH aT ed pl:=by with_unfolding_all rfl
theorem DS {v:Int}:cf "s" (.int v) (dl g aA aC s aH aT ed pl)=dl g aA aC v aH aT ed pl:=by with_unfolding_all rfl
theorem DT {v:Addr}:cf "heard" (.ref v) (dl g aA aC s aH aT ed pl)=dl g aA aC s v aT ed pl:=by with_unfolding_all rfl
theorem AD {v:Addr}:cf "tossed" (.ref v) (dl g aA aC s aH aT ed pl)=dl g aA aC s aH v ed pl:=by with_unfolding_all rfl
theorem ve {v:Int}:cf "held" (.int v) (dl g aA aC s aH aT ed pl)=dl g aA aC s aH aT v pl:=by with_unfolding_all rfl
theorem rZ {v:Int}:cf "places" (.int v) (dl g aA aC s aH aT ed pl)=dl g aA aC s aH aT ed v:=by with_unfolding_all rfl
theorem cO:(dl g aA aC s aH aT ed pl).length<1000:=by show 8<1000;decide
end
structure DTxt(K:W.Frag)(mg:Str->Option Value)(C:Addr):Prop where
 cl:Cls K C
 nG:NoAttr K C "game"
 nA:NoAttr K C "awaited"
 nC:NoAttr K C "claims"
 nS:NoAttr K C "s"
 nH:NoAttr K C "heard"
 nT:NoAttr K C "tossed"
 nE:NoAttr K C "held"
 nP:NoAttr K C "places"
 mgC:mg "Doubter"=some (.ref C)
structure Db where
 aw:Str×Option Int
 cl:List Int
 s:Int
 he:List Int
 to:List Int
 ed:Int
 pl:Int
def awV(a:Str×Option Int):List V:=match a.2 with
 | none=>[.str a.1]
 | some n=>[.str a.1,.int n]
structure DbR(C:Addr)(H:Hp)(D g:Addr)(z:Db)(dx aA aC aH aT:Addr):Prop where
 hD:H D=some (.ins C dx (dl g aA aC z.s aH aT z.ed z.pl))
 hA:H aA=some (.tup (awV z.aw))
 hC:H aC=some (.tup (z.cl.map V.int))
 hH:H aH=some (.tup (z.he.map V.int))
 hT:H aT=some (.tup (z.to.map V.int))
theorem DbR.same{C:Addr}{H H':Hp}{D g:Addr}{z:Db}{dx aA aC aH aT:Addr}(h:DbR C H D g z dx aA aC aH aT)(s:Same H H'):DbR C H' D g z dx aA aC aH aT:=⟨s _ _ h.hD,s _ _ h.hA,s _ _ h.hC,s _ _ h.hH,s _ _ h.hT⟩
theorem DbR.set{C:Addr}{H:Hp}{D g:Addr}{z:Db}{dx aA aC aH aT C' dx':Addr}{fs:List (Str×V)}(hD:H D=some (.ins C' dx' fs))(hA:H aA=some (.tup (awV z.aw)))(hC:H aC=some (.tup (z.cl.map V.int)))(hH:H aH=some (.tup (z.he.map V.int)))(hT:H aT=some (.tup (z.to.map V.int))) :
 DbR C (upd H D (.ins C dx (dl g aA aC z.s aH aT z.ed z.pl))) D g z dx aA aC aH aT:=by
 refine⟨ai,?_,?_,?_,?_⟩
 . rw[ay (bz hA hD (by intro z;cases z))];exact hA
 . rw[ay (bz hC hD (by intro z;cases z))];exact hC
 . rw[ay (bz hH hD (by intro z;cases z))];exact hH
 . rw[ay (bz hT hD (by intro z;cases z))];exact hT
def DbAt(C:Addr)(H:Hp)(D g:Addr)(z:Db):Prop:=∃dx aA aC aH aT,DbR C H D g z dx aA aC aH aT
theorem DbAt.same{C:Addr}{H H':Hp}{D g:Addr}{z:Db}(h:DbAt C H D g z)(s:Same H H'):DbAt C H' D g z:=by
 obtain⟨_,_,_,_,_,r⟩:=h;exact⟨_,_,_,_,_,r.same s⟩
def Gm(CG:Addr)(H:Hp)(g:Addr)(ns:List Str)(ts:List Tr)(p:Int):Prop:=∃(a b d:Addr)(tv:List V),GameAt CG H g a b d p/\H a=some (.tup (ns.map V.str))/\H b=some (.tup tv)/\TreesAt H tv ts/\H d=some (.lst ((ns.map (bj ts)).map V.int))
theorem Gm.same{CG:Addr}{H H':Hp}{g:Addr}{ns:List Str}{ts:List Tr}{p:Int}(h:Gm CG H g ns ts p)(s:Same H H'):Gm CG H' g ns ts p:=by
 obtain⟨a,b,d,tv,h1,h2,h3,h4,h5⟩:=h;exact⟨a,b,d,tv,h1.same s,s _ _ h2,s _ _ h3,h4.mono (aG s),s _ _ h5⟩
theorem Dt (a b:Addr) (p:Int) (d:Addr):(gf a b p d).lookup ("game":Str)=none:=qi _ _ _ _ (by decide +kernel) (by decide +kernel) (by decide +kernel) (by decide +kernel)
theorem Gm.ne {CG C:Addr} {H:Hp} {g D:Addr} {ns:List Str} {ts:List Tr} {p:Int} {dx:Addr} {fs:List (Str×V)} {v:V} (h:Gm CG H g ns ts p) (hD:H D=some (.ins C dx fs)) (hg:fs.lookup ("game":Str)=some v):g≠D:=fun z=>by
 obtain⟨a,b,d,tv,⟨dx',e⟩,_⟩:=h;rw[z,hD]at e;cases e;rw[Dt]at hg;cases hg
theorem Gm.but{CG C:Addr}{H H':Hp}{g D:Addr}{ns:List Str}{ts:List Tr}{p:Int}{dx:Addr}{fs:List (Str×V)}(h:Gm CG H g ns ts p)(hD:H D=some (.ins C dx fs))(hg:g≠D)(s:SameBut D H H'):Gm CG H' g ns ts p:=by
 obtain⟨a,b,d,tv,⟨dx',e⟩,h2,h3,h4,h5⟩:=h;exact⟨a,b,d,tv,⟨dx',s _ _ hg e⟩,s _ _ (bz h2 hD (by intro z;cases z)) h2,s _ _ (bz h3 hD (by intro z;cases z)) h3,h4.mono (fun c xs hc=>s _ _ (bz hc hD (by intro z;cases z)) hc),s _ _ (bz h5 hD (by intro z;cases z)) h5⟩
structure GmK(ns:List Str)(ts:List Tr)(p:Int):Prop where
 pr:Pr p
 p2:2<p
 p9:p<=999983
 n10:ns.length<=10
 t1:1<=ts.length
 t10:ts.length<=10
 tok:∀t∈ts,t.ok ns/\t.wf/\t.depth<=10/\t.size<=400
 tp:(ts.length:Int)<=p
 tc:∀t∈ts,∀x∈ns,(t.names.count x:Int)<p
theorem GmK.deg{ns:List Str}{ts:List Tr}{p:Int}(k:GmK ns ts p):∀x∈ns,0<=bj ts x/\bj ts x<p:=fun x hx=>by
 have t0:ts≠[]:=fun z=>by have:=k.t1;rw[z]at this;cases this
 refine⟨?_,me t0 fun t ht=>k.tc t ht x hx⟩
 have:=jD (ns:=ts.map fun t=>(t.names.count x:Int)) (by simpa using t0)
 obtain⟨t,_,e⟩:=List.mem_map.mp this;unfold bj;rw[←e];omega
def szs(ts:List Tr):Int:=(ts.map fun t=>(t.size:Int)).sum
def dZ(ns:List Str)(ts:List Tr)(p:Int)(z:Db):Db:=
 { z with pl:=z.pl+szs ts,aw:=if z.ed=hor z.s p (ts.map fun t=>t.worth ns z.to p)then("believed",none)else("caught",some ((z.to.length:Int)+1)) }
def goOn(ns:List Str)(ts:List Tr)(p:Int)(z:Db):Db:=
 if z.to.length<ns.length then { z with aw:=("hear",some (bj ts (ns.getD z.to.length "")+1)) }else dZ ns ts p z
def uF(ns:List Str)(ts:List Tr)(p s:Int)(z:Db):Db:=goOn ns ts p { z with s:=s,ed:=hor s p z.cl }
def jn(ns:List Str)(ts:List Tr)(p:Int)(xs:List Int)(z:Db):Db:=
 if ts.length=1 then uF ns ts p 0 { z with cl:=xs }else { z with cl:=xs,aw:=("coin",none) }
def dy(p:Int)(xs:List Int)(z:Db):Db:=
 { z with he:=xs,aw:=if(val p xs 0+val p xs 1) % p=z.ed then("coin",none)else("caught",some ((z.to.length:Int)+1)) }
def cY(ns:List Str)(ts:List Tr)(p:Int)(xs:List Int)(z:Db):Db:=
 if z.cl=[]then jn ns ts p xs { z with pl:=z.pl+(xs.length:Int) }else dy p xs { z with pl:=z.pl+(xs.length:Int) }
def cW(ns:List Str)(ts:List Tr)(p r:Int)(z:Db):Db:=
 if z.he=[]then uF ns ts p r { z with pl:=z.pl+1 }else goOn ns ts p { z with pl:=z.pl+1,ed:=val p z.he r,to:=z.to++[r] }
def Db.new (ts:List Tr):Db:=⟨("hear",some (ts.length:Int)),[],0,[],[],0,0⟩
def rF:Sp:=fun vs H Q _=>∃n p:Int,vs=[.int n,.int p]/\Q (.bl (decide (0<=n)&&decide (n<p))) H
theorem rN:FnScope ["value","p"] ["value","p"] (ag eK):=⟨rfl,rfl,rfl,by decide +kernel,rfl,by decide +kernel,by decide +kernel⟩
theorem sw {f:Addr} {fd:FuncData} (F:Fun K "is_number" "is_number" eK f fd) (B:Bl mg):FnOk P w K mg base CX0 1 f fd ["value","p"] rF:=by
 refine F.ok rN (fun vs H Q E h=>?_) (fun cdv A outer s H vs Q E hr h=>?_)
 . obtain⟨n,p,rfl,_⟩:=h;rfl
 obtain⟨n,p,rfl,q⟩:=h;refine⟨_,(ah (az (pS (aJ gB rfl B.isinstance PyProof.Rows.boot_isinstance (aa (pv 0) (aa (lL (v:=V.ty "int") rfl B.int kD rfl) ae))) (pS (vk (aJ gB rfl B.isinstance PyProof.Rows.boot_isinstance (aa (pv 0) (aa (lL (v:=V.ty "bool") rfl B.bool qr rfl) ae)))) (sj (AR pV gO af (pv 0) (pv 1))))))),?_⟩;refine⟨_,rfl,_,_,"int",true,rfl,TyOf.int _,qf _ _,true,rfl,ji ?_⟩;refine⟨_,rfl,_,_,"bool",false,rfl,TyOf.int _,lT _,false,rfl,true,rfl,ji ?_⟩;refine⟨_,rfl,_,_,rfl,rfl,_,rfl,?_⟩
 by_cases c:0<=n
 . rw[decide_eq_true c]at q;refine bh c ⟨_,rfl,_,_,rfl,rfl,?_⟩;exact q
 . rw[decide_eq_false c]at q;refine aF c ?_;exact q
def wQ(C:Addr):Sp:=fun vs H Q _=>∃(g:Addr)(ns:List Str)(ts:List Tr)(p:Int),vs=[.ref g]/\Gm C H g ns ts p/\GmK ns ts p/\∀H',Same H H'->Q (.int (szs ts)) H'
theorem rS:FnScope ["game"] ["game"] (ag eT):=⟨rfl,rfl,rfl,by decide +kernel,rfl,by decide +kernel,by decide +kernel⟩
theorem Cu{ts:List Tr}(h:∀t∈ts,t.size<=400)(hl:ts.length<=10):0<=szs ts/\szs ts<=4000:=by
 have:∀l:List Tr,(∀t∈l,t.size<=400)->0<=szs l/\szs l<=400*(l.length:Int):=fun l=>by
  induction l with
  | nil=>intro _;exact⟨Int.le_refl _,Int.le_refl _⟩
  | cons t r ih=>
    intro hh;have h1:=ih fun u hu=>hh u (qR0 _ hu)
    have h2:=hh t (qP0 ..);have e:szs (t::r)=(t.size:Int)+szs r:=by unfold szs;rw[zZ0,List.sum_cons]
    rw[e,qF0];omega
 have:=this ts h
 omega
theorem sC {f C:Addr} {fd:FuncData} (F:Fun K "all_sizes" "all_sizes" eT f fd) (B:Bl mg) (T:GTxt K mg C) (i7:Cal P w K mg base 12 "size_of" ["tree"] (mK 10)):FnOk P w K mg base CX0 13 f fd ["game"] (wQ C):=by
 refine F.ok rS (fun vs H Q E h=>?_) (fun cdv A outer s H vs Q E hr h=>?_)
 . obtain⟨g,ns,ts,p,rfl,_⟩:=h;rfl
 obtain ⟨g,ns,ts,p,rfl,⟨a,b,d,tv,⟨dx,hg⟩,ha,hb,TS,hd⟩,k,q⟩:=h;refine⟨_,(ah (az (aJ (qo rfl) rfl B.sum PyProof.Rows.boot_sum (aa (dB (N:=[]) (ix:=[]) (cl:=[]) rfl CompScope.closed rfl
  (gq (ax (pv 0) rfl)) (fun _ _ _=>dF (au i7 hr (by decide) rfl (aa (pv 0) ae)))) ae)))),?_⟩
 have vl:=TS.length;refine⟨_,rfl,g,C,dx,_,_,rfl,hg,T.cl,T.nT,lY ..,b,rfl,⟨_,zC0 hb⟩,fun D hD=>?_⟩;refine eY (K:=K) (xs:=tv) (fun i H'=>H' D=some (.lst (((ts.take i).map fun t=>(t.size:Int)).map V.int))/\Same H H') ⟨by rw[ai];rfl,zD0 hD _⟩ (fun i H' _ h=>zC0 (h.2 _ _ hb)) ?_ ?_
 . rintro i x H2 hx ⟨hl,S2⟩;obtain⟨u,hu,Tu⟩:=TS.get hx;obtain⟨_,uw,ud,us⟩:=k.tok u (qG0 hu);have hi:i<tv.length:=(zY0 hx).1
   have:=k.t10
   refine⟨_,rfl,x,u,rfl,Tu.mono (aG S2),uw,ud,us,fun H3 S3=>?_⟩;refine⟨_,S3 _ _ hl,?_,Nx.of hi ⟨?_,fun b o e=>?_⟩⟩
   . rw[zE0,zE0,qO0];exact aW (by omega)
   . rw[ai,qN0,hu,zL0,zL0];rfl
   . rw[ay (aO e hD)];exact S3 _ _ (S2 _ _ e)
 . rintro H2 ⟨hl,S2⟩;rw[vl,qM0]at hl;have sr:=Cu (fun t ht=>(k.tok t ht).2.2.2) k.t10;refine⟨D,_,rfl,zH0 hl,?_,?_,?_⟩
   . intro n hn;obtain⟨u,hu,rfl⟩:=List.mem_map.mp hn
     have:=(k.tok u hu).2.2.2
     omega
   . have e:((ts.map fun t=>(t.size:Int)).sum)=szs ts:=rfl;rw[e];omega
   . exact q H2 S2
section
variable {C CG:Addr}
def wC(C CG:Addr):Sp:=fun vs H Q _=>∃(D g:Addr)(z:Db)(ns:List Str)(ts:List Tr)(p:Int),vs=[.ref D]/\DbAt C H D g z/\Gm CG H g ns ts p/\GmK ns ts p/\z.to.length=ns.length/\bV z.to p/\∀H',SameBut D H H'->DbAt C H' D g (dZ ns ts p z)->Q .non H'
theorem ym:FnScope ["self"] ["self"] (ag iN):=⟨rfl,rfl,rfl,by decide +kernel,rfl,by decide +kernel,by decide +kernel⟩
theorem yG {f fW:Addr} {fd fdW:FuncData} (F:Fun K "look_at_trees" "Doubter.look_at_trees" iN f fd) (B:Bl mg) (T:DTxt K mg C) (TG:GTxt K mg CG) (mW:Meth K CG "worth_at" fW) (GW:FnOk P w K mg base CX0 13 fW fdW ["self","point","s"] (zO CG)) (bW:Binds K fdW ["self","point","s"] [])
 (j9:Cal P w K mg base 13 "all_sizes" ["game"] (wQ CG)):FnOk P w K mg base CX0 14 f fd ["self"] (wC C CG):=by
 refine F.ok ym (fun vs H Q E h=>?_) (fun cdv A outer s H vs Q E hr h=>?_)
 . obtain⟨D,g,z,ns,ts,p,rfl,_⟩:=h;rfl
 obtain ⟨D,g,z,ns,ts,p,rfl,⟨dx,aA,aC,aH,aT,R⟩,G,k,tl,po,q⟩:=h;have hr13:Room 13 _:=hr;refine⟨_,(ad (aX (pv 0) (aj aU (ax (pv 0) rfl) (au j9 hr (by decide) rfl (aa (ax (pv 0) rfl) ae))) rfl)
  (ah (aS (am aZ (ax (pv 0) rfl) (db (ax (pv 0) rfl) TG.cl mW GW hr13 bW .nil bQ (aa (ax (pv 0) rfl) (aa (ax (pv 0) rfl) ae))) (aq _))
   (ah (aX (pv 0) (bc (aa aR ae)) rfl))
   (ah (aX (pv 0) (bc (aa aR (aa (aj aU (aJ aE rfl B.len PySem.boot_len (aa (ax (pv 0) rfl) ae)) af) ae))) rfl))))),?_⟩
 have gD:=G.ne R.hD iU;refine⟨_,rfl,D,C,dx,_,_,rfl,R.hD,T.cl,T.nP,xE,_,rfl,D,C,dx,_,_,rfl,R.hD,T.cl,T.nG,iU,g,ns,ts,p,rfl,G,k,fun H1 S1=>?_⟩;have R1:=R.same S1;refine⟨_,_,rfl,rfl,_,rfl,D,C,dx,_,rfl,R1.hD,T.cl,T.nP,cO,?_⟩;rw[rZ];have S2:SameBut D H1 (upd H1 D (.ins C dx (dl g aA aC z.s aH aT z.ed (z.pl+szs ts)))):=SameBut.upd _;have R2:DbR C (upd H1 D (.ins C dx (dl g aA aC z.s aH aT z.ed (z.pl+szs ts)))) D g { z with pl:=z.pl+szs ts } dx aA aC aH aT:=DbR.set (z:={ z with pl:=z.pl+szs ts }) R1.hD R1.hA R1.hC R1.hH R1.hT;have G2:=(G.same S1).but R1.hD gD S2;generalize upd H1 D (.ins C dx (dl g aA aC z.s aH aT z.ed (z.pl+szs ts)))=H2 at S2 R2 G2;have G2':=G2;obtain⟨a,b,d,tv,GA,ha,hb,TS,hd⟩:=G2';obtain⟨dg,hg⟩:=GA;have p2:=k.p2;have p9:=k.p9;refine⟨_,rfl,D,C,dx,_,_,rfl,R2.hD,T.cl,T.nE,xF,_,rfl,D,C,dx,_,_,rfl,R2.hD,T.cl,T.nG,iU,g,dg,_,rfl,hg,qi _ _ _ _ (by decide +kernel) (by decide +kernel) (by decide +kernel) (by decide +kernel),_,rfl,D,C,dx,_,_,rfl,R2.hD,T.cl,T.nT,vY,_,rfl,D,C,dx,_,_,rfl,R2.hD,T.cl,T.nS,Fc,?_⟩;refine⟨g,a,b,d,aT,ns,tv,ts,z.to,z.s,p,rfl,⟨dg,hg⟩,by omega,by omega,ha,hb,TS,k.t10,fun t ht=>⟨(k.tok t ht).1,(k.tok t ht).2.2.1⟩,R2.hT,tl,po,fun H3 S3=>?_⟩;have R3:=R2.same S3;have S03:SameBut D H H3:=(zJ0 S1).trans (S2.trans (zJ0 S3));refine⟨rfl,_,rfl,?_⟩
 by_cases c:z.ed=hor z.s p (ts.map fun t=>t.worth ns z.to p)
 . refine bh (congrArg V.int c) ?_;refine⟨(by show 1<=sizeLine;decide),fun t ht=>?_⟩;have I:=zD0 ht (.tup [.str "believed"]);have R4:=R3.same I;refine⟨_,rfl,D,C,dx,_,rfl,R4.hD,T.cl,T.nA,cO,?_⟩;rw[pI];have e:dZ ns ts p z={ z with pl:=z.pl+szs ts,aw:=("believed",none) }:=by
    unfold dZ;rw[zB0 c]
   refine q _ (S03.trans ((zJ0 I).trans (SameBut.upd _))) ?_;rw[e];exact⟨dx,t,aC,aH,aT,DbR.set (z:={ z with pl:=z.pl+szs ts,aw:=("believed",none) }) R4.hD ai R4.hC R4.hH R4.hT⟩
 . refine aF (fun e=>c (V.int.inj e)) ?_;refine⟨_,rfl,D,C,dx,_,_,rfl,R3.hD,T.cl,T.nT,vY,aT,_,rfl,.inr (zC0 R3.hT),_,_,rfl,rfl,(by show 2<=sizeLine;decide),fun t ht=>?_⟩;have I:=zD0 ht (.tup [.str "caught",.int (((z.to.map V.int).length:Int)+1)]);have R4:=R3.same I;refine⟨_,rfl,D,C,dx,_,rfl,R4.hD,T.cl,T.nA,cO,?_⟩;rw[pI];have e:dZ ns ts p z={ z with pl:=z.pl+szs ts,aw:=("caught",some ((z.to.length:Int)+1)) }:=by
    unfold dZ;rw[zA0 c]
   refine q _ (S03.trans ((zJ0 I).trans (SameBut.upd _))) ?_;rw[e];refine⟨dx,t,aC,aH,aT,DbR.set (z:={ z with pl:=z.pl+szs ts,aw:=("caught",some ((z.to.length:Int)+1)) }) R4.hD ?_ R4.hC R4.hH R4.hT⟩;rw[ai,zE0];rfl
theorem lV{xs:List Int}{j:Nat}(h:j<xs.length):atI (xs.map V.int) (j:Int)=some (.int (xs.getD j 0)):=cL (by rw[zR0,zK0 h,zS0,zK0 h];rfl)
theorem Dy {ns:List Str} {ts:List Tr} {j:Nat} (h:j<ns.length):(ns.map (bj ts)).getD j 0=bj ts (ns.getD j ""):=by
 rw[zS0,zR0,zS0,zK0 h];rfl
def Ep(C CG:Addr):Sp:=fun vs H Q _=>∃(D g:Addr)(z:Db)(ns:List Str)(ts:List Tr)(p:Int),vs=[.ref D]/\DbAt C H D g z/\Gm CG H g ns ts p/\GmK ns ts p/\z.to.length<=ns.length/\bV z.to p/\∀H',SameBut D H H'->DbAt C H' D g (goOn ns ts p z)->Q .non H'
theorem GF:FnScope ["self","done"] ["self"] (ag qO):=⟨rfl,rfl,rfl,by decide +kernel,rfl,by decide +kernel,by decide +kernel⟩
theorem EG {f fT:Addr} {fd fdT:FuncData} (F:Fun K "go_on" "Doubter.go_on" qO f fd) (B:Bl mg) (T:DTxt K mg C) (TG:GTxt K mg CG) (mT:Meth K C "look_at_trees" fT) (GT:FnOk P w K mg base CX0 14 fT fdT ["self"] (wC C CG)) (bT:Binds K fdT ["self"] []):FnOk P w K mg base CX0 15 f fd ["self"] (Ep C CG):=by
 refine F.ok GF (fun vs H Q E h=>?_) (fun cdv A outer s H vs Q E hr h=>?_)
 . obtain⟨D,g,z,ns,ts,p,rfl,_⟩:=h;rfl
 obtain ⟨D,g,z,ns,ts,p,rfl,⟨dx,aA,aC,aH,aT,R⟩,G,k,tl,po,q⟩:=h;refine⟨_,(ad (ao (i:=1) GF.nd rfl (Or.inl rfl) (aJ aE rfl B.len PySem.boot_len (aa (ax (pv 0) rfl) ae)))
  (ah (aS (am gO (pv 1) (aJ aE rfl B.len PySem.boot_len (aa (ax (ax (pv 0) rfl) rfl) ae)) (aq _))
   (ah (aX (pv 0) (bc (aa aR (aa (aj aU (aP ix_list (ax (ax (pv 0) rfl) rfl) (pv 1) (fun _ _=>rfl)) af) ae))) rfl))
   (ah (bL (cK (pv 0) T.cl mT GT hr bT .nil bQ)))))),?_⟩
 have G':=G;obtain⟨a,b,d,tv,⟨dg,hg⟩,ha,hb,TS,hd⟩:=G';refine⟨_,rfl,D,C,dx,_,_,rfl,R.hD,T.cl,T.nT,vY,aT,_,rfl,.inr (zC0 R.hT),?_⟩;refine⟨_,rfl,_,rfl,D,C,dx,_,_,rfl,R.hD,T.cl,T.nG,iU,g,CG,dg,_,_,rfl,hg,TG.cl,TG.nS,oy ..,a,_,rfl,.inr (zC0 ha),_,_,rfl,rfl,_,rfl,?_⟩
 by_cases c:z.to.length<ns.length
 . refine bh (by rw[zE0,zE0];omega) ?_;have ej:((z.to.map V.int).length:Int)=(z.to.length:Int):=by rw[zE0]
   have hx:ns.getD z.to.length ""∈ns:=by
    rw[zS0,zK0 c];exact qL0 c
   have dr:=k.deg _ hx;refine⟨_,rfl,D,C,dx,_,_,rfl,R.hD,T.cl,T.nG,iU,g,CG,dg,_,_,rfl,hg,TG.cl,TG.nD,BG ..,_,rfl,d,_,_,_,rfl,rfl,zH0 hd,by rw[ej];exact lV (by rw[zE0];exact c),_,_,rfl,rfl,(by show 2<=sizeLine;decide),fun t ht=>?_⟩;rw[Dy c]at *
   have I:=zD0 ht (.tup [.str "hear",.int (bj ts (ns.getD z.to.length "")+1)]);have R4:=R.same I;refine⟨_,rfl,D,C,dx,_,rfl,R4.hD,T.cl,T.nA,cO,?_⟩;rw[pI];have e:goOn ns ts p z={ z with aw:=("hear",some (bj ts (ns.getD z.to.length "")+1)) }:=by
    unfold goOn;rw[zB0 c]
   refine q _ ((zJ0 I).trans (SameBut.upd _)) ?_;rw[e];exact⟨dx,t,aC,aH,aT,DbR.set (z:={ z with aw:=("hear",some (bj ts (ns.getD z.to.length "")+1)) }) R4.hD ai R4.hC R4.hH R4.hT⟩
 . refine aF (by rw[zE0,zE0];omega) ?_;have e:goOn ns ts p z=dZ ns ts p z:=by
    unfold goOn;rw[zA0 c]
   rw[e]at q;refine⟨_,rfl,D,dx,_,rfl,R.hD,Fe,?_⟩;exact⟨D,g,z,ns,ts,p,rfl,⟨dx,aA,aC,aH,aT,R⟩,G,k,by omega,po,q⟩
def Ac(C CG:Addr):Sp:=fun vs H Q _=>∃(D g:Addr)(z:Db)(s:Int)(ns:List Str)(ts:List Tr)(p:Int),vs=[.ref D,.int s]/\DbAt C H D g z/\Gm CG H g ns ts p/\GmK ns ts p/\z.to.length<=ns.length/\bV z.to p/\∀H',SameBut D H H'->DbAt C H' D g (uF ns ts p s z)->Q .non H'
theorem yo:FnScope ["self","s"] ["self","s"] (ag iO):=⟨rfl,rfl,rfl,by decide +kernel,rfl,by decide +kernel,by decide +kernel⟩
theorem yH {f fG fM:Addr} {fd fdG fdM:FuncData} (F:Fun K "begin_rounds" "Doubter.begin_rounds" iO f fd) (T:DTxt K mg C) (TG:GTxt K mg CG) (mM:Meth K CG "mix" fM) (GM:FnOk P w K mg base CX0 1 fM fdM ["self","numbers","s"] (zT CG)) (bM:Binds K fdM ["self","numbers","s"] [])
 (mG:Meth K C "go_on" fG) (GG:FnOk P w K mg base CX0 15 fG fdG ["self"] (Ep C CG)) (bG:Binds K fdG ["self"] []):FnOk P w K mg base CX0 16 f fd ["self","s"] (Ac C CG):=by
 refine F.ok yo (fun vs H Q E h=>?_) (fun cdv A outer s H vs Q E hr h=>?_)
 . obtain⟨D,g,z,s,ns,ts,p,rfl,_⟩:=h;rfl
 obtain ⟨D,g,z,s,ns,ts,p,rfl,⟨dx,aA,aC,aH,aT,R⟩,G,k,tl,po,q⟩:=h;have hr1:Room 1 _:=hr.mono (by decide);refine⟨_,(ad (aX (pv 0) (pv 1) rfl)
  (ad (aX (pv 0) (db (ax (pv 0) rfl) TG.cl mM GM hr1 bM .nil bQ (aa (ax (pv 0) rfl) (aa (pv 1) ae))) rfl)
  (ah (bL (cK (pv 0) T.cl mG GG hr bG .nil bQ))))),?_⟩
 have gD:=G.ne R.hD iU;have p2:=k.p2;have p9:=k.p9;refine⟨_,rfl,_,rfl,D,C,dx,_,rfl,R.hD,T.cl,T.nS,cO,?_⟩;rw[DS];have S1:SameBut D H (upd H D (.ins C dx (dl g aA aC s aH aT z.ed z.pl))):=SameBut.upd _;have R1:DbR C (upd H D (.ins C dx (dl g aA aC s aH aT z.ed z.pl))) D g { z with s:=s } dx aA aC aH aT:=DbR.set (z:={ z with s:=s }) R.hD R.hA R.hC R.hH R.hT;have G1:=G.but R.hD gD S1;generalize upd H D (.ins C dx (dl g aA aC s aH aT z.ed z.pl))=H1 at S1 R1 G1;have G1':=G1;obtain⟨a,b,d,tv,⟨dg,hg⟩,ha,hb,TS,hd⟩:=G1';refine⟨_,rfl,D,C,dx,_,_,rfl,R1.hD,T.cl,T.nG,iU,g,dg,_,rfl,hg,qi _ _ _ _ (by decide +kernel) (by decide +kernel) (by decide +kernel) (by decide +kernel),_,rfl,D,C,dx,_,_,rfl,R1.hD,T.cl,T.nC,Fg,_,rfl,?_⟩;refine⟨g,a,b,d,aC,z.cl,s,p,rfl,⟨dg,hg⟩,by omega,by omega,.inr R1.hC,?_⟩;refine⟨_,rfl,D,C,dx,_,rfl,R1.hD,T.cl,T.nE,cO,?_⟩;rw[ve];have S2:SameBut D H1 (upd H1 D (.ins C dx (dl g aA aC s aH aT (hor s p z.cl) z.pl))):=SameBut.upd _;have R2:DbR C (upd H1 D (.ins C dx (dl g aA aC s aH aT (hor s p z.cl) z.pl))) D g { z with s:=s,ed:=hor s p z.cl } dx aA aC aH aT:=DbR.set (z:={ z with s:=s,ed:=hor s p z.cl }) R1.hD R1.hA R1.hC R1.hH R1.hT;have G2:=G1.but R1.hD gD S2;generalize upd H1 D (.ins C dx (dl g aA aC s aH aT (hor s p z.cl) z.pl))=H2 at S2 R2 G2;refine⟨_,rfl,D,dx,_,rfl,R2.hD,BO,?_⟩;exact⟨D,g,_,ns,ts,p,rfl,⟨dx,aA,aC,aH,aT,R2⟩,G2,k,tl,po,fun H3 S3 D3=>q H3 (S1.trans (S2.trans S3)) D3⟩
def tF(C CG:Addr):Sp:=fun vs H Q _=>∃(D g l:Addr)(z:Db)(xs:List Int)(ns:List Str)(ts:List Tr)(p:Int),vs=[.ref D,.ref l]/\DbAt C H D g z/\Gm CG H g ns ts p/\GmK ns ts p/\H l=some (.tup (xs.map V.int))/\z.to.length<=ns.length/\bV z.to p/\∀H',SameBut D H H'->DbAt C H' D g (jn ns ts p xs z)->Q .non H'
theorem vb:FnScope ["self","values"] ["self","values"] (ag gW):=⟨rfl,rfl,rfl,by decide +kernel,rfl,by decide +kernel,by decide +kernel⟩
theorem vz {f fB:Addr} {fd fdB:FuncData} (F:Fun K "hear_claims" "Doubter.hear_claims" gW f fd) (B:Bl mg) (T:DTxt K mg C) (TG:GTxt K mg CG) (mB:Meth K C "begin_rounds" fB) (GB:FnOk P w K mg base CX0 16 fB fdB ["self","s"] (Ac C CG)) (bB:Binds K fdB ["self","s"] []):FnOk P w K mg base CX0 17 f fd ["self","values"] (tF C CG):=by
 refine F.ok vb (fun vs H Q E h=>?_) (fun cdv A outer s H vs Q E hr h=>?_)
 . obtain⟨D,g,l,z,xs,ns,ts,p,rfl,_⟩:=h;rfl
 obtain ⟨D,g,l,z,xs,ns,ts,p,rfl,⟨dx,aA,aC,aH,aT,R⟩,G,k,hl,tl,po,q⟩:=h;refine⟨_,(ad (aX (pv 0) (pv 1) rfl)
  (ah (aS (am aZ (aJ aE rfl B.len PySem.boot_len (aa (ax (ax (pv 0) rfl) rfl) ae)) af (aq _))
   (ah (bL (db (pv 0) T.cl mB GB hr bB .nil bQ (aa af ae))))
   (ah (aX (pv 0) (bc (aa aR ae)) rfl))))),?_⟩
 have gD:=G.ne R.hD iU;refine⟨_,rfl,_,rfl,D,C,dx,_,rfl,R.hD,T.cl,T.nC,cO,?_⟩;rw[DU];have S1:SameBut D H (upd H D (.ins C dx (dl g aA l z.s aH aT z.ed z.pl))):=SameBut.upd _;have R1:DbR C (upd H D (.ins C dx (dl g aA l z.s aH aT z.ed z.pl))) D g { z with cl:=xs } dx aA l aH aT:=DbR.set (z:={ z with cl:=xs }) R.hD R.hA hl R.hH R.hT;have G1:=G.but R.hD gD S1;generalize upd H D (.ins C dx (dl g aA l z.s aH aT z.ed z.pl))=H1 at S1 R1 G1;have G1':=G1;obtain⟨a,b,d,tv,⟨dg,hg⟩,ha,hb,TS,hd⟩:=G1';have vl:=TS.length;refine⟨_,rfl,D,C,dx,_,_,rfl,R1.hD,T.cl,T.nG,iU,g,CG,dg,_,_,rfl,hg,TG.cl,TG.nT,lY ..,b,_,rfl,.inr (zC0 hb),rfl,_,rfl,?_⟩
 by_cases c:ts.length=1
 . refine bh (congrArg V.int (by omega)) ?_;have e:jn ns ts p xs z=uF ns ts p 0 { z with cl:=xs }:=by
    unfold jn;rw[zB0 c]
   rw[e]at q;refine⟨_,rfl,D,dx,_,rfl,R1.hD,Ea,?_⟩;exact⟨D,g,_,0,ns,ts,p,rfl,⟨dx,aA,l,aH,aT,R1⟩,G1,k,tl,po,fun H3 S3 D3=>q H3 (S1.trans S3) D3⟩
 . refine aF (fun e=>c (by have:=V.int.inj e;omega)) ?_;have e:jn ns ts p xs z={ z with cl:=xs,aw:=("coin",none) }:=by
    unfold jn;rw[zA0 c]
   refine⟨(by show 1<=sizeLine;decide),fun t ht=>?_⟩;have I:=zD0 ht (.tup [.str "coin"]);have R4:=R1.same I;refine⟨_,rfl,D,C,dx,_,rfl,R4.hD,T.cl,T.nA,cO,?_⟩;rw[pI];refine q _ (S1.trans ((zJ0 I).trans (SameBut.upd _))) ?_;rw[e];exact⟨dx,t,l,aH,aT,DbR.set (z:={ z with cl:=xs,aw:=("coin",none) }) R4.hD ai R4.hC R4.hH R4.hT⟩
def zX(C CG:Addr):Sp:=fun vs H Q _=>∃(D g l:Addr)(z:Db)(xs:List Int)(ns:List Str)(ts:List Tr)(p:Int),vs=[.ref D,.ref l]/\DbAt C H D g z/\Gm CG H g ns ts p/\GmK ns ts p/\H l=some (.tup (xs.map V.int))/\kK xs p/\∀H',SameBut D H H'->DbAt C H' D g (dy p xs z)->Q .non H'
theorem CC:FnScope ["self","values"] ["self","values"] (ag mZ):=⟨rfl,rfl,rfl,by decide +kernel,rfl,by decide +kernel,by decide +kernel⟩
theorem De {f:Addr} {fd:FuncData} (F:Fun K "hear_row" "Doubter.hear_row" mZ f fd) (B:Bl mg) (T:DTxt K mg C) (TG:GTxt K mg CG) (kF:Cal P w K mg base 5 "both_ends" ["values","p"] Ab):FnOk P w K mg base CX0 6 f fd ["self","values"] (zX C CG):=by
 refine F.ok CC (fun vs H Q E h=>?_) (fun cdv A outer s H vs Q E hr h=>?_)
 . obtain⟨D,g,l,z,xs,ns,ts,p,rfl,_⟩:=h;rfl
 obtain ⟨D,g,l,z,xs,ns,ts,p,rfl,⟨dx,aA,aC,aH,aT,R⟩,G,k,hl,ro,q⟩:=h;refine⟨_,(ad (aX (pv 0) (pv 1) rfl)
  (ah (aS (am aZ (au kF hr (by decide) rfl (aa (pv 1) (aa (ax (ax (pv 0) rfl) rfl) ae))) (ax (pv 0) rfl) (aq _))
   (ah (aX (pv 0) (bc (aa aR ae)) rfl))
   (ah (aX (pv 0) (bc (aa aR (aa (aj aU (aJ aE rfl B.len PySem.boot_len (aa (ax (pv 0) rfl) ae)) af) ae))) rfl))))),?_⟩
 have gD:=G.ne R.hD iU;refine⟨_,rfl,_,rfl,D,C,dx,_,rfl,R.hD,T.cl,T.nH,cO,?_⟩;rw[DT];have S1:SameBut D H (upd H D (.ins C dx (dl g aA aC z.s l aT z.ed z.pl))):=SameBut.upd _;have R1:DbR C (upd H D (.ins C dx (dl g aA aC z.s l aT z.ed z.pl))) D g { z with he:=xs } dx aA aC l aT:=DbR.set (z:={ z with he:=xs }) R.hD R.hA R.hC hl R.hT;have G1:=G.but R.hD gD S1;generalize upd H D (.ins C dx (dl g aA aC z.s l aT z.ed z.pl))=H1 at S1 R1 G1;have G1':=G1;obtain⟨a,b,d,tv,⟨dg,hg⟩,ha,hb,TS,hd⟩:=G1';refine⟨_,rfl,_,rfl,D,C,dx,_,_,rfl,R1.hD,T.cl,T.nG,iU,g,CG,dg,_,_,rfl,hg,TG.cl,TG.nF,ig ..,l,xs,p,rfl,.inr R1.hH,ro,k.pr,k.p9,fun H2 S2=>?_⟩;have R2:=R1.same S2;refine⟨_,rfl,D,C,dx,_,_,rfl,R2.hD,T.cl,T.nE,xF,rfl,_,rfl,?_⟩;have S02:SameBut D H H2:=S1.trans (zJ0 S2)
 by_cases c:(val p xs 0+val p xs 1) % p=z.ed
 . refine bh (congrArg V.int c) ?_;have e:dy p xs z={ z with he:=xs,aw:=("coin",none) }:=by
    unfold dy;rw[zB0 c]
   refine⟨(by show 1<=sizeLine;decide),fun t ht=>?_⟩;have I:=zD0 ht (.tup [.str "coin"]);have R4:=R2.same I;refine⟨_,rfl,D,C,dx,_,rfl,R4.hD,T.cl,T.nA,cO,?_⟩;rw[pI];refine q _ (S02.trans ((zJ0 I).trans (SameBut.upd _))) ?_;rw[e];exact⟨dx,t,aC,l,aT,DbR.set (z:={ z with he:=xs,aw:=("coin",none) }) R4.hD ai R4.hC R4.hH R4.hT⟩
 . refine aF (fun e=>c (V.int.inj e)) ?_;have e:dy p xs z={ z with he:=xs,aw:=("caught",some ((z.to.length:Int)+1)) }:=by
    unfold dy;rw[zA0 c]
   refine⟨_,rfl,D,C,dx,_,_,rfl,R2.hD,T.cl,T.nT,vY,aT,_,rfl,.inr (zC0 R2.hT),_,_,rfl,rfl,(by show 2<=sizeLine;decide),fun t ht=>?_⟩;have I:=zD0 ht (.tup [.str "caught",.int (((z.to.map V.int).length:Int)+1)]);have R4:=R2.same I;refine⟨_,rfl,D,C,dx,_,rfl,R4.hD,T.cl,T.nA,cO,?_⟩;rw[pI];refine q _ (S02.trans ((zJ0 I).trans (SameBut.upd _))) ?_;rw[e];refine⟨dx,t,aC,l,aT,DbR.set (z:={ z with he:=xs,aw:=("caught",some ((z.to.length:Int)+1)) }) R4.hD ?_ R4.hC R4.hH R4.hT⟩;rw[ai,zE0];rfl
end
section
variable {C CG:Addr}
theorem kn{K:W.Frag}{H:Hp}{a:Addr}{xs:List Int}(h:H a=some (.tup (xs.map V.int))):Rep K H (.ref a) (.tuple (xs.map PyData.int)):=.tup (zC0 h) (lF xs)
theorem xD(xs:List Int):PyData.eqv (.tuple (xs.map PyData.int)) (.tuple [])=decide (xs=[]):=by
 cases xs with
 | nil=>rfl
 | cons a r=>rfl
theorem jR(ns:List Int):SeqAt.shaped (.tuple (ns.map PyData.int))=true:=by
 simp [SeqAt.shaped,PyData.canLay0,PyData.depth,W.ke_canLayAll0,W.ke_depthAll]
def zW (C CG:Addr):Sp:=fun vs H Q _=>∃(D g l:Addr) (z:Db) (xs:List Int) (ns:List Str) (ts:List Tr) (p:Int),vs=[.ref D,.ref l]/\DbAt C H D g z/\Gm CG H g ns ts p/\GmK ns ts p/\H l=some (.lst (xs.map V.int))/\z.aw=(("hear":Str),some (xs.length:Int))/\bV xs p/\xs.length<=500/\(z.cl≠[]->kK xs p)/\z.to.length<=ns.length/\bV z.to p/\∀H',SameBut D H H'->DbAt C H' D g (cY ns ts p xs z)->Q .non H'
theorem Aq:FnScope ["self","values"] ["self","values"] (ag kf):=⟨rfl,rfl,rfl,by decide +kernel,rfl,by decide +kernel,by decide +kernel⟩
theorem Bf {f fC fR:Addr} {fd fdC fdR:FuncData} (F:Fun K "hear" "Doubter.hear" kf f fd) (B:Bl mg) (T:DTxt K mg C) (TG:GTxt K mg CG) (fq:Cal P w K mg base 1 "is_number" ["value","p"] rF)
 (mC:Meth K C "hear_claims" fC) (GC:FnOk P w K mg base CX0 17 fC fdC ["self","values"] (tF C CG)) (bC:Binds K fdC ["self","values"] [])
 (mR:Meth K C "hear_row" fR) (GR:FnOk P w K mg base CX0 6 fR fdR ["self","values"] (zX C CG)) (bR:Binds K fdR ["self","values"] []):FnOk P w K mg base CX0 18 f fd ["self","values"] (zW C CG):=by
 refine F.ok Aq (fun vs H Q E h=>?_) (fun cdv A outer s H vs Q E hr h=>?_)
 . obtain⟨D,g,l,z,xs,ns,ts,p,rfl,_⟩:=h;rfl
 obtain ⟨D,g,l,z,xs,ns,ts,p,rfl,⟨dx,aA,aC,aH,aT,R⟩,G,k,hl,ea,xo,xl,ro,tl,po,q⟩:=h;have hr6:Room 6 _:=hr.mono (by decide);refine⟨_,(ad (aS (am pU (aP ix_tup (ax (pv 0) rfl) af (fun _ _=>rfl)) aR (aq _)) dE aI)
  (ad (aS (am pU (aJ aE rfl B.len PySem.boot_len (aa (pv 1) ae)) (aP ix_tup (ax (pv 0) rfl) af (fun _ _=>rfl)) (aq _)) dE aI)
  (ad (aS (nq (kR (aJ (BZ rfl) rfl B.all PyProof.Rows.boot_all (aa (dB (N:=["self"]) (ix:=[0]) rfl
   CompScope.one rfl
   (iu (pv 1)) (fun _ _ _=>dF (au fq hr (by decide) rfl (aa (pv 0) (aa (kr K (kr K (pv 1))) ae))))) ae)))) dE aI)
  (ad (aX (pv 0) (aj aU (ax (pv 0) rfl) (aJ aE rfl B.len PySem.boot_len (aa (pv 1) ae))) rfl)
  (ah (aS (am (vq hr.units) (ax (pv 0) rfl) (bc ae) (aq _))
   (ah (bL (db (pv 0) T.cl mC GC hr bC .nil bQ (aa (bq ba rfl B.tuple bi (aa (pv 1) ae)) ae))))
   (ah (bL (db (pv 0) T.cl mR GR hr6 bR .nil bQ (aa (bq ba rfl B.tuple bi (aa (pv 1) ae)) ae)))))))))),?_⟩
 have gD:=G.ne R.hD iU;have hA:=R.hA;rw[ea]at hA;have hA:H aA=some (.tup [.str "hear",.int (xs.length:Int)]):=hA;refine⟨_,rfl,D,C,dx,_,_,rfl,R.hD,T.cl,T.nA,BP,aA,_,_,_,rfl,rfl,zC0 hA,cL (j:=0) rfl,rfl,_,rfl,?_⟩;refine uq rfl ?_;refine⟨_,rfl,l,_,rfl,.inl (zH0 hl),_,rfl,D,C,dx,_,_,rfl,R.hD,T.cl,T.nA,BP,aA,_,_,_,rfl,rfl,zC0 hA,cL (j:=1) rfl,rfl,_,rfl,?_⟩;refine uq (by rw[zE0]) ?_;have G':=G;obtain⟨a,b,d,tv,⟨dg,hg⟩,ha,hb,TS,hd⟩:=G';refine⟨_,rfl,l,rfl,⟨_,zH0 hl⟩,fun W hW=>?_⟩;refine kC (K:=K) (xs:=xs.map V.int) (fun i H'=>H' W=some (.lst ((List.replicate i true).map V.bl))/\Same H H') ⟨by rw[ai];rfl,zD0 hW _⟩ (fun i H' _ h=>zH0 (h.2 _ _ hl)) ?_ ?_
 . rintro i v H2 hv ⟨hW2,S2⟩;have hi:=(zY0 hv).1;rw[zR0]at hv;obtain⟨n,hn,rfl⟩:=qV0 hv;have nr:=xo n (qG0 hn);refine⟨_,rfl,_,rfl,D,C,dx,_,_,rfl,S2 _ _ R.hD,T.cl,T.nG,iU,g,CG,dg,_,_,rfl,S2 _ _ hg,TG.cl,TG.nF,ig ..,n,p,rfl,?_⟩;rw[decide_eq_true nr.1,decide_eq_true nr.2];refine⟨_,hW2,?_,Nx.of hi ⟨?_,fun b o e=>?_⟩⟩
   . rw[zE0,List.length_replicate];rw[zE0]at hi;exact aW (by omega)
   . rw[ai,List.replicate_succ',zL0];rfl
   . rw[ay (aO e hW)];exact S2 _ _ e
 rintro H1 ⟨hW1,S1⟩;refine⟨W,_,rfl,zH0 hW1,?_⟩;have ea:(List.replicate (xs.map V.int).length true).all id=true:=by simp
 rw [ea];refine⟨_,rfl,?_⟩;refine gJ ?_;have R1:=R.same S1;have G1:=G.same S1;refine⟨_,rfl,D,C,dx,_,_,rfl,R1.hD,T.cl,T.nP,xE,_,rfl,l,_,rfl,.inl (zH0 (S1 _ _ hl)),_,_,rfl,rfl,_,rfl,D,C,dx,_,rfl,R1.hD,T.cl,T.nP,cO,?_⟩;rw[rZ,zE0];have S2:SameBut D H1 (upd H1 D (.ins C dx (dl g aA aC z.s aH aT z.ed (z.pl+(xs.length:Int))))):=SameBut.upd _;have R2:DbR C (upd H1 D (.ins C dx (dl g aA aC z.s aH aT z.ed (z.pl+(xs.length:Int))))) D g { z with pl:=z.pl+(xs.length:Int) } dx aA aC aH aT:=DbR.set (z:={ z with pl:=z.pl+(xs.length:Int) }) R1.hD R1.hA R1.hC R1.hH R1.hT;have G2:=G1.but R1.hD gD S2;have hl2:upd H1 D (.ins C dx (dl g aA aC z.s aH aT z.ed (z.pl+(xs.length:Int)))) l=some (.lst (xs.map V.int)):=by
  rw[ay (bz hl R.hD (by intro z;cases z))];exact S1 _ _ hl
 generalize upd H1 D (.ins C dx (dl g aA aC z.s aH aT z.ed (z.pl+(xs.length:Int))))=H2 at S2 R2 G2 hl2;refine⟨_,rfl,D,C,dx,_,_,rfl,R2.hD,T.cl,T.nC,Fg,(by show 0<=sizeLine;decide),fun u hu=>?_⟩;have I:=zD0 hu (.tup []);have R3:=R2.same I;have hu3:upd H2 u (.tup []) u=some (.tup []):=ai;have hl3:=I _ _ hl2;have G3:=G2.same I;generalize upd H2 u (.tup [])=H3 at I R3 hu3 hl3 G3;have S03:SameBut D H H3:=(zJ0 S1).trans (S2.trans (zJ0 I));refine⟨_,_,kn R3.hC,kn (xs:=[]) hu3,jR _,jR [],_,rfl,?_⟩;rw[show PyData.eqv (.tuple (z.cl.map PyData.int)) (.tuple (([]:List Int).map PyData.int))=decide (z.cl=[])from xD z.cl]
 by_cases c:z.cl=[]
 . refine bh c ?_;have e:cY ns ts p xs z=jn ns ts p xs { z with pl:=z.pl+(xs.length:Int) }:=by
    unfold cY;rw[zB0 c]
   rw[e]at q;refine⟨_,rfl,D,dx,_,rfl,R3.hD,dl_n6,?_⟩;refine⟨_,rfl,l,_,rfl,.inl ⟨zH0 hl3,fun t ht=>?_⟩⟩;have J:=zD0 ht (.tup (xs.map V.int));exact⟨D,g,t,_,xs,ns,ts,p,rfl,⟨dx,aA,aC,aH,aT,R3.same J⟩,G3.same J,k,ai,tl,po,fun H5 S5 D5=>q H5 (S03.trans ((zJ0 J).trans S5)) D5⟩
 . refine aF c ?_;have e:cY ns ts p xs z=dy p xs { z with pl:=z.pl+(xs.length:Int) }:=by
    unfold cY;rw[zA0 c]
   rw[e]at q;refine⟨_,rfl,D,dx,_,rfl,R3.hD,dl_n8,?_⟩;refine⟨_,rfl,l,_,rfl,.inl ⟨zH0 hl3,fun t ht=>?_⟩⟩;have J:=zD0 ht (.tup (xs.map V.int));exact⟨D,g,t,_,xs,ns,ts,p,rfl,⟨dx,aA,aC,aH,aT,R3.same J⟩,G3.same J,k,ai,ro c,fun H5 S5 D5=>q H5 (S03.trans ((zJ0 J).trans S5)) D5⟩
def zR (C CG:Addr):Sp:=fun vs H Q _=>∃(D g:Addr) (z:Db) (r:Int) (ns:List Str) (ts:List Tr) (p:Int),vs=[.ref D,.int r]/\DbAt C H D g z/\Gm CG H g ns ts p/\GmK ns ts p/\z.aw.1="coin"/\0<=r/\r<p/\z.to.length<=ns.length/\(z.he≠[]->kK z.he p/\z.to.length<ns.length)/\bV z.to p/\∀H',SameBut D H H'->DbAt C H' D g (cW ns ts p r z)->Q .non H'
theorem Ao:FnScope ["self","r"] ["self","r"] (ag kd):=⟨rfl,rfl,rfl,by decide +kernel,rfl,by decide +kernel,by decide +kernel⟩
theorem Ed(a:Str×Option Int):(awV a)[0]?=some (.str a.1):=by
 unfold awV
 split <;> rfl
def rCatA(K:W.Frag):R2:=fun x y H Q=>∃a b xs ys,x=.ref a/\y=.ref b/\SqT K H a xs/\SqT K H b ys/\ys≠[]/\xs.length+ys.length<=sizeLine/\(xs=[]->Q (.ref b) H)/\(xs≠[]->∀p,H p=none->Q (.ref p) (upd H p (.tup (xs++ys))))
theorem CW{X:Cx}:OpR X (binaryOp .Add) (rCatA X.K):=by
 intro pins s σ H x y v u Q I rx ry h;obtain⟨a,b,xs,ys,ex,ey,ha,hb,hy,hz,q1,q2⟩:=h
 by_cases c:xs=[]
 . subst c;exact lO pins s σ H x y v u Q I rx ry ⟨a,b,ys,ex,ey,ha,hb,q1 rfl⟩
 . exact op_catT pins s σ H x y v u Q I rx ry ⟨a,b,xs,ys,ex,ey,ha,hb,c,hz,fun z=>absurd z hy,fun _=>q2 c⟩
theorem Bd {f fB fG:Addr} {fd fdB fdG:FuncData} (F:Fun K "toss" "Doubter.toss" kd f fd) (B:Bl mg) (T:DTxt K mg C) (TG:GTxt K mg CG) (fq:Cal P w K mg base 1 "is_number" ["value","p"] rF) (b9:Cal P w K mg base 4 "value_at" ["values","r","p"] qN)
 (mB:Meth K C "begin_rounds" fB) (GB:FnOk P w K mg base CX0 16 fB fdB ["self","s"] (Ac C CG)) (bB:Binds K fdB ["self","s"] [])
 (mG:Meth K C "go_on" fG) (GG:FnOk P w K mg base CX0 15 fG fdG ["self"] (Ep C CG)) (bG:Binds K fdG ["self"] []):FnOk P w K mg base CX0 17 f fd ["self","r"] (zR C CG):=by
 refine F.ok Ao (fun vs H Q E h=>?_) (fun cdv A outer s H vs Q E hr h=>?_)
 . obtain⟨D,g,z,r,ns,ts,p,rfl,_⟩:=h;rfl
 obtain ⟨D,g,z,r,ns,ts,p,rfl,⟨dx,aA,aC,aH,aT,R⟩,G,k,ea,r0,r1,tl,ro,po,q⟩:=h;have hr15:Room 15 _:=hr.mono (by decide);refine⟨_,(ad (aS (am pU (aP ix_tup (ax (pv 0) rfl) af (fun _ _=>rfl)) aR (aq _)) dE aI)
  (ad (aS (nq (kR (au fq hr (by decide) rfl (aa (pv 1) (aa (ax (ax (pv 0) rfl) rfl) ae))))) dE aI)
  (ad (aX (pv 0) (aj aU (ax (pv 0) rfl) af) rfl)
  (ah (aS (am (vq hr.units) (ax (pv 0) rfl) (bc ae) (aq _))
   (ah (bL (db (pv 0) T.cl mB GB hr bB .nil bQ (aa (pv 1) ae))))
   (ad (aX (pv 0) (au b9 hr (by decide) rfl (aa (ax (pv 0) rfl) (aa (pv 1) (aa (ax (ax (pv 0) rfl) rfl) ae)))) rfl)
   (ad (aX (pv 0) (aj CW (ax (pv 0) rfl) (bc (aa (pv 1) ae))) rfl)
   (ah (bL (cK (pv 0) T.cl mG GG hr15 bG .nil bQ)))))))))),?_⟩
 have gD:=G.ne R.hD iU;have G':=G;obtain⟨a,b,d,tv,⟨dg,hg⟩,ha,hb,TS,hd⟩:=G';refine⟨_,rfl,D,C,dx,_,_,rfl,R.hD,T.cl,T.nA,BP,aA,_,_,_,rfl,rfl,zC0 R.hA,cL (j:=0) (Ed _),rfl,_,rfl,?_⟩;refine uq (congrArg V.str ea) ?_;refine⟨_,rfl,_,rfl,D,C,dx,_,_,rfl,R.hD,T.cl,T.nG,iU,g,CG,dg,_,_,rfl,hg,TG.cl,TG.nF,ig ..,r,p,rfl,?_⟩;rw[decide_eq_true r0,decide_eq_true r1];refine⟨_,rfl,?_⟩;refine gJ ?_;refine⟨_,rfl,D,C,dx,_,_,rfl,R.hD,T.cl,T.nP,xE,_,_,rfl,rfl,_,rfl,D,C,dx,_,rfl,R.hD,T.cl,T.nP,cO,?_⟩;rw[rZ];have S2:SameBut D H (upd H D (.ins C dx (dl g aA aC z.s aH aT z.ed (z.pl+1)))):=SameBut.upd _;have R2:DbR C (upd H D (.ins C dx (dl g aA aC z.s aH aT z.ed (z.pl+1)))) D g { z with pl:=z.pl+1 } dx aA aC aH aT:=DbR.set (z:={ z with pl:=z.pl+1 }) R.hD R.hA R.hC R.hH R.hT;have G2:=G.but R.hD gD S2;generalize upd H D (.ins C dx (dl g aA aC z.s aH aT z.ed (z.pl+1)))=H2 at S2 R2 G2;refine⟨_,rfl,D,C,dx,_,_,rfl,R2.hD,T.cl,T.nH,Ff,(by show 0<=sizeLine;decide),fun u hu=>?_⟩;have I:=zD0 hu (.tup []);have R3:=R2.same I;have hu3:upd H2 u (.tup []) u=some (.tup []):=ai;have G3:=G2.same I;generalize upd H2 u (.tup [])=H3 at I R3 hu3 G3;have S03:SameBut D H H3:=S2.trans (zJ0 I);refine⟨_,_,kn R3.hH,kn (xs:=[]) hu3,jR _,jR [],_,rfl,?_⟩;rw[show PyData.eqv (.tuple (z.he.map PyData.int)) (.tuple (([]:List Int).map PyData.int))=decide (z.he=[])from xD z.he]
 by_cases c:z.he=[]
 . refine bh c ?_;have e:cW ns ts p r z=uF ns ts p r { z with pl:=z.pl+1 }:=by
    unfold cW;rw[zB0 c]
   rw[e]at q;refine⟨_,rfl,D,dx,_,rfl,R3.hD,Ea,_,rfl,?_⟩;exact⟨D,g,_,r,ns,ts,p,rfl,⟨dx,aA,aC,aH,aT,R3⟩,G3,k,tl,po,fun H5 S5 D5=>q H5 (S03.trans S5) D5⟩
 . refine aF c ?_;obtain⟨rok,tl'⟩:=ro c;have e:cW ns ts p r z=goOn ns ts p { z with pl:=z.pl+1,ed:=val p z.he r,to:=z.to++[r] }:=by
    unfold cW;rw[zA0 c]
   rw [e]at q;have G3':=G3;obtain⟨a3,b3,d3,tv3,⟨dg3,hg3⟩,_⟩:=G3';refine⟨_,rfl,D,C,dx,_,_,rfl,R3.hD,T.cl,T.nH,Ff,_,rfl,_,rfl,D,C,dx,_,_,rfl,R3.hD,T.cl,T.nG,iU,g,CG,dg3,_,_,rfl,hg3,TG.cl,TG.nF,ig ..,aH,z.he,r,p,rfl,.inr R3.hH,rok,k.pr,k.p9,r0,r1,fun H4 S4=>?_⟩;have R4:=R3.same S4;have G4:=G3.same S4;refine⟨_,rfl,D,C,dx,_,rfl,R4.hD,T.cl,T.nE,cO,?_⟩;rw[ve];have S5:SameBut D H4 (upd H4 D (.ins C dx (dl g aA aC z.s aH aT (val p z.he r) (z.pl+1)))):=SameBut.upd _;have R5:DbR C (upd H4 D (.ins C dx (dl g aA aC z.s aH aT (val p z.he r) (z.pl+1)))) D g { z with pl:=z.pl+1,ed:=val p z.he r } dx aA aC aH aT:=DbR.set (z:={ z with pl:=z.pl+1,ed:=val p z.he r }) R4.hD R4.hA R4.hC R4.hH R4.hT;have G5:=G4.but R4.hD gD S5;generalize upd H4 D (.ins C dx (dl g aA aC z.s aH aT (val p z.he r) (z.pl+1)))=H5 at S5 R5 G5;have S05:SameBut D H H5:=S03.trans ((zJ0 S4).trans S5);refine⟨_,rfl,D,C,dx,_,_,rfl,R5.hD,T.cl,T.nT,vY,_,rfl,(by show 1<=sizeLine;decide),fun t ht=>?_⟩;have J:=zD0 ht (.tup [.int r]);have R6:=R5.same J;have G6:=G5.same J;have ht6:upd H5 t (.tup [.int r]) t=some (.tup [.int r]):=ai;generalize upd H5 t (.tup [.int r])=H6 at J R6 G6 ht6;have n10:=k.n10;have fin:∀(x:Addr)(H7:Hp),Same H6 H7->H7 x=some (.tup ((z.to++[r]).map V.int))->(ps_fin:True)->∀QQ:Hp->Prop,(∀H8,SameBut D H7 H8->DbR C H8 D g { z with pl:=z.pl+1,ed:=val p z.he r,to:=z.to++[r] } dx aA aC aH x->Gm CG H8 g ns ts p->QQ H8)->QQ (upd H7 D (.ins C dx (dl g aA aC z.s aH x (val p z.he r) (z.pl+1)))):=by
    intro x H7 s7 hx _ QQ hq;have R7:=R6.same s7;exact hq _ (SameBut.upd _) (DbR.set (z:={ z with pl:=z.pl+1,ed:=val p z.he r,to:=z.to++[r] }) R7.hD R7.hA R7.hC R7.hH hx) ((G6.same s7).but R7.hD gD (SameBut.upd _))
   have po2:bV (z.to++[r]) p:=fun x hx=>by
    rcases qJ0 hx with h | h
    . exact po x h
    . rw[zT0 h];exact⟨r0,r1⟩
   have tl2:(z.to++[r]).length<=ns.length:=by
    rw[zM0,qE0];omega
   have S06:SameBut D H H6:=S05.trans (zJ0 J);refine⟨aT,t,_,_,rfl,rfl,zC0 R6.hT,zC0 ht6,(fun z=>by cases z),dX (by rw[zE0];show z.to.length+1<=1000;omega),fun z0=>?_,fun z0 p7 hp7=>?_⟩
   . have e0:z.to=[]:=by simpa using z0
     refine⟨_,rfl,D,C,dx,_,rfl,R6.hD,T.cl,T.nT,cO,?_⟩;rw[AD];refine fin t H6 (Same.refl _) (by rw[e0];exact ht6) trivial _ fun H8 S8 R8 G8=>?_
     refine⟨_,rfl,D,dx,_,rfl,R8.hD,BO,?_⟩;exact⟨D,g,_,ns,ts,p,rfl,⟨dx,aA,aC,aH,t,R8⟩,G8,k,tl2,po2,fun H9 S9 D9=>q H9 (S06.trans (S8.trans S9)) D9⟩
   . have L:=zD0 hp7 (.tup (z.to.map V.int++[.int r]));have R7:=R6.same L;refine⟨_,rfl,D,C,dx,_,rfl,R7.hD,T.cl,T.nT,cO,?_⟩;rw[AD];refine fin p7 _ L (by rw[ai,zL0];rfl) trivial _ fun H8 S8 R8 G8=>?_
     refine⟨_,rfl,D,dx,_,rfl,R8.hD,BO,?_⟩;exact⟨D,g,_,ns,ts,p,rfl,⟨dx,aA,aC,aH,p7,R8⟩,G8,k,tl2,po2,fun H9 S9 D9=>q H9 (S06.trans ((zJ0 L).trans (S8.trans S9))) D9⟩
def oN(C CG:Addr):Sp:=fun vs H Q _=>∃(D g dx:Addr)(ns:List Str)(ts:List Tr)(p:Int),vs=[.ref D,.ref g]/\H D=some (.ins C dx [])/\Gm CG H g ns ts p/\g≠D/\∀H',SameBut D H H'->DbAt C H' D g (Db.new ts)->Q .non H'
theorem Ap:FnScope ["self","game"] ["self","game"] (ag ke):=⟨rfl,rfl,rfl,by decide +kernel,rfl,by decide +kernel,by decide +kernel⟩
def Cw(C:Addr)(t:Db->V->Hp->Prop):Sp:=fun vs H Q _=>∃(D g:Addr)(z:Db),vs=[.ref D]/\DbAt C H D g z/\∀v,t z v H->Q v H
theorem CD:FnScope ["self"] ["self"] (ag ni):=⟨rfl,rfl,rfl,by decide +kernel,rfl,by decide +kernel,by decide +kernel⟩
theorem Dg {f:Addr} {fd:FuncData} (F:Fun K "due" "Doubter.due" ni f fd) (T:DTxt K mg C):FnOk P w K mg base CX0 1 f fd ["self"] (Cw C fun z v _=>v=.int z.ed):=by
 refine F.ok CD (fun vs H Q E h=>?_) (fun cdv A outer s H vs Q E hr h=>?_)
 . obtain⟨D,g,z,rfl,_⟩:=h;rfl
 obtain⟨D,g,z,rfl,⟨dx,aA,aC,aH,aT,R⟩,q⟩:=h;refine⟨_,(ah (az (ax (pv 0) rfl))),?_⟩;exact⟨_,rfl,D,C,dx,_,_,rfl,R.hD,T.cl,T.nE,xF,q _ rfl⟩
theorem yk:FnScope ["self"] ["self"] (ag iM):=⟨rfl,rfl,rfl,by decide +kernel,rfl,by decide +kernel,by decide +kernel⟩
theorem yF {f:Addr} {fd:FuncData} (F:Fun K "waits" "Doubter.waits" iM f fd) (T:DTxt K mg C):FnOk P w K mg base CX0 1 f fd ["self"] (Cw C fun z v H=>∃a,v=.ref a/\H a=some (.tup (awV z.aw))):=by
 refine F.ok yk (fun vs H Q E h=>?_) (fun cdv A outer s H vs Q E hr h=>?_)
 . obtain⟨D,g,z,rfl,_⟩:=h;rfl
 obtain⟨D,g,z,rfl,⟨dx,aA,aC,aH,aT,R⟩,q⟩:=h;refine⟨_,(ah (az (ax (pv 0) rfl))),?_⟩;exact⟨_,rfl,D,C,dx,_,_,rfl,R.hD,T.cl,T.nA,BP,q _ ⟨aA,rfl,R.hA⟩⟩
end
section
variable {C CG:Addr}
def AwW (x:Str):Prop:=x="hear"∨x="coin"∨x="caught"∨x="believed"
end
section
variable {C CG:Addr}
def d1 (g:Addr):List (Str×V):=[("game",.ref g)]
def d2 (g t1:Addr):List (Str×V):=[("game",.ref g),("awaited",.ref t1)]
def d3 (g t1 t2:Addr):List (Str×V):=[("game",.ref g),("awaited",.ref t1),("claims",.ref t2)]
def d4 (g t1 t2:Addr):List (Str×V):=[("game",.ref g),("awaited",.ref t1),("claims",.ref t2),("s",.int 0)]
def d5 (g t1 t2 t3:Addr):List (Str×V):=[("game",.ref g),("awaited",.ref t1),("claims",.ref t2),("s",.int 0),("heard",.ref t3)]
def d6 (g t1 t2 t3 t4:Addr):List (Str×V):=[("game",.ref g),("awaited",.ref t1),("claims",.ref t2),("s",.int 0),("heard",.ref t3),("tossed",.ref t4)]
def d7 (g t1 t2 t3 t4:Addr):List (Str×V):=[("game",.ref g),("awaited",.ref t1),("claims",.ref t2),("s",.int 0),("heard",.ref t3),("tossed",.ref t4),("held",.int 0)]
theorem pd1 (g:Addr):cf "game" (.ref g) []=d1 g:=by with_unfolding_all rfl
theorem pd2 (g t1:Addr):cf "awaited" (.ref t1) (d1 g)=d2 g t1:=by with_unfolding_all rfl
theorem pd3 (g t1 t2:Addr):cf "claims" (.ref t2) (d2 g t1)=d3 g t1 t2:=by with_unfolding_all rfl
theorem pd4 (g t1 t2:Addr):cf "s" (.int 0) (d3 g t1 t2)=d4 g t1 t2:=by with_unfolding_all rfl
theorem pd5 (g t1 t2 t3:Addr):cf "heard" (.ref t3) (d4 g t1 t2)=d5 g t1 t2 t3:=by with_unfolding_all rfl
theorem pd6 (g t1 t2 t3 t4:Addr):cf "tossed" (.ref t4) (d5 g t1 t2 t3)=d6 g t1 t2 t3 t4:=by with_unfolding_all rfl
theorem pd7 (g t1 t2 t3 t4:Addr):cf "held" (.int 0) (d6 g t1 t2 t3 t4)=d7 g t1 t2 t3 t4:=by with_unfolding_all rfl
theorem pd8 (g t1 t2 t3 t4:Addr):cf "places" (.int 0) (d7 g t1 t2 t3 t4)=dl g t1 t2 0 t3 t4 0 0:=by with_unfolding_all rfl
theorem Be {f:Addr} {fd:FuncData} (F:Fun K "__init__" "Doubter.__init__" ke f fd) (B:Bl mg) (T:DTxt K mg C) (TG:GTxt K mg CG):FnOk P w K mg base CX0 1 f fd ["self","game"] (oN C CG):=by
 refine F.ok Ap (fun vs H Q E h=>?_) (fun cdv A outer s H vs Q E hr h=>?_)
 . obtain⟨D,g,dx,ns,ts,p,rfl,_⟩:=h;rfl
 obtain ⟨D,g,dx,ns,ts,p,rfl,hD,G,gD,q⟩:=h;refine⟨_,(ad (aX (pv 0) (pv 1) rfl)
  (ad (aX (pv 0) (bc (aa aR (aa (aJ aE rfl B.len PySem.boot_len (aa (ax (pv 1) rfl) ae)) ae))) rfl)
  (ad (aX (pv 0) (bc ae) rfl)
  (ad (aX (pv 0) af rfl)
  (ad (aX (pv 0) (bc ae) rfl)
  (ad (aX (pv 0) (bc ae) rfl)
  (ad (aX (pv 0) af rfl)
  (ah (aX (pv 0) af rfl))))))))),?_⟩
 obtain ⟨a,b,d,tv,⟨dg,hg⟩,ha,hb,TS,hd⟩:=G;have vl:=TS.length;refine⟨_,rfl,_,rfl,D,C,dx,_,rfl,hD,T.cl,T.nG,(by show 0<1000;decide),?_⟩;rw[pd1];have S1:SameBut D H (upd H D (.ins C dx (d1 g))):=SameBut.upd _;have h1:upd H D (.ins C dx (d1 g)) D=some (.ins C dx (d1 g)):=ai;generalize upd H D (.ins C dx (d1 g))=H1 at S1 h1;have nb:=bz hb hD (by intro z;cases z);refine⟨_,rfl,g,CG,dg,_,_,rfl,S1 _ _ gD hg,TG.cl,TG.nT,lY ..,b,_,rfl,.inr (zC0 (S1 _ _ nb hb)),(by show 2<=sizeLine;decide),fun t1 ht1=>?_⟩;have I1:=zD0 ht1 (.tup [.str "hear",.int (tv.length:Int)]);have g1:upd H1 t1 (.tup [.str "hear",.int (tv.length:Int)]) t1=some (.tup [.str "hear",.int (tv.length:Int)]):=ai;generalize upd H1 t1 (.tup [.str "hear",.int (tv.length:Int)])=H2 at I1 g1;refine⟨_,rfl,D,C,dx,_,rfl,I1 _ _ h1,T.cl,T.nA,(by show 1<1000;decide),?_⟩;rw[pd2];have n1:t1≠D:=(aO h1 ht1).symm;have S2:SameBut D H2 (upd H2 D (.ins C dx (d2 g t1))):=SameBut.upd _;have h2:upd H2 D (.ins C dx (d2 g t1)) D=some (.ins C dx (d2 g t1)):=ai;have k1:=S2 _ _ n1 g1;generalize upd H2 D (.ins C dx (d2 g t1))=H3 at S2 h2 k1;refine⟨(by show 0<=sizeLine;decide),fun t2 ht2=>?_⟩;have I2:=zD0 ht2 (.tup []);have g2:upd H3 t2 (.tup []) t2=some (.tup []):=ai;generalize upd H3 t2 (.tup [])=H4 at I2 g2;refine⟨_,rfl,D,C,dx,_,rfl,I2 _ _ h2,T.cl,T.nC,(by show 2<1000;decide),?_⟩;rw[pd3];have n2:t2≠D:=(aO h2 ht2).symm;have S3:SameBut D H4 (upd H4 D (.ins C dx (d3 g t1 t2))):=SameBut.upd _;have h3:upd H4 D (.ins C dx (d3 g t1 t2)) D=some (.ins C dx (d3 g t1 t2)):=ai;generalize upd H4 D (.ins C dx (d3 g t1 t2))=H5 at S3 h3;refine⟨_,rfl,D,C,dx,_,rfl,h3,T.cl,T.nS,(by show 3<1000;decide),?_⟩;rw[pd4];have S4:SameBut D H5 (upd H5 D (.ins C dx (d4 g t1 t2))):=SameBut.upd _;have h4:upd H5 D (.ins C dx (d4 g t1 t2)) D=some (.ins C dx (d4 g t1 t2)):=ai;generalize upd H5 D (.ins C dx (d4 g t1 t2))=H6 at S4 h4;refine⟨(by show 0<=sizeLine;decide),fun t3 ht3=>?_⟩;have I3:=zD0 ht3 (.tup []);have g3:upd H6 t3 (.tup []) t3=some (.tup []):=ai;generalize upd H6 t3 (.tup [])=H7 at I3 g3;refine⟨_,rfl,D,C,dx,_,rfl,I3 _ _ h4,T.cl,T.nH,(by show 4<1000;decide),?_⟩;rw[pd5];have n3:t3≠D:=(aO h4 ht3).symm;have S5:SameBut D H7 (upd H7 D (.ins C dx (d5 g t1 t2 t3))):=SameBut.upd _;have h5:upd H7 D (.ins C dx (d5 g t1 t2 t3)) D=some (.ins C dx (d5 g t1 t2 t3)):=ai;generalize upd H7 D (.ins C dx (d5 g t1 t2 t3))=H8 at S5 h5;refine⟨(by show 0<=sizeLine;decide),fun t4 ht4=>?_⟩;have I4:=zD0 ht4 (.tup []);have g4:upd H8 t4 (.tup []) t4=some (.tup []):=ai;generalize upd H8 t4 (.tup [])=H9 at I4 g4;refine⟨_,rfl,D,C,dx,_,rfl,I4 _ _ h5,T.cl,T.nT,(by show 5<1000;decide),?_⟩;rw[pd6];have n4:t4≠D:=(aO h5 ht4).symm;refine⟨_,rfl,D,C,dx,_,rfl,ai,T.cl,T.nE,(by show 6<1000;decide),?_⟩;rw[pd7];refine⟨_,rfl,D,C,dx,_,rfl,ai,T.cl,T.nP,(by show 7<1000;decide),?_⟩;rw[pd8];have W:∀{x:Addr} {H':Hp} {o1 o2 o3:HO} {u:HO},x≠D->H' x=some u->upd (upd (upd H' D o1) D o2) D o3 x=some u:=fun {x H' o1 o2 o3 u} n e=>by
  rw[ay n,ay n,ay n];exact e
 have k2:=S3 _ _ n2 g2;have k3:=S5 _ _ n3 g3;refine q _ (S1.trans ((zJ0 I1).trans (S2.trans ((zJ0 I2).trans (S3.trans (S4.trans ((zJ0 I3).trans (S5.trans ((zJ0 I4).trans ((SameBut.upd _).trans ((SameBut.upd _).trans (SameBut.upd _)))))))))))) ⟨dx,t1,t2,t3,t4,ai,?_,?_,?_,W n4 g4⟩
 . rw[vl]at k1;exact W n1 (I4 _ _ (S5 _ _ n1 (I3 _ _ (S4 _ _ n1 (S3 _ _ n1 (I2 _ _ k1))))))
 . exact W n2 (I4 _ _ (S5 _ _ n2 (I3 _ _ (S4 _ _ n2 k2))))
 . exact W n3 (I4 _ _ k3)
end
def jm (o:Str) (p q:Bool):Bool:=if o="and" then p&&q else if o="or" then p||q else if o="odd" then p != q else p==q
def Tr.holds(ns:List Str)(st:List Int):Tr->Bool
 | .is x=>match eW x ns with | some j=>decide (st.getD j 0=1) | none=>false
 | .yes=>true
 | .no=>false
 | .not a=>!a.holds ns st
 | .bin o a b=>jm o (a.holds ns st) (b.holds ns st)
def pw:Sp:=fun vs H Q _=>∃(o:Str)(p q:Bool),vs=[.str o,.bl p,.bl q]/\Q (.bl (jm o p q)) H
theorem yh:FnScope ["word","first","second"] ["word","first","second"] (ag iJ):=⟨rfl,rfl,rfl,by decide +kernel,rfl,by decide +kernel,by decide +kernel⟩
theorem yC {f:Addr} {fd:FuncData} (F:Fun K "joined" "joined" iJ f fd):FnOk P w K mg base CX0 1 f fd ["word","first","second"] pw:=by
 refine F.ok yh (fun vs H Q E h=>?_) (fun cdv A outer s H vs Q E hr h=>?_)
 . obtain⟨o,p,q,rfl,_⟩:=h;rfl
 obtain ⟨o,p,q,rfl,k⟩:=h;refine⟨_,(ad (aS (am aZ (pv 0) aR (aq _)) (ah (az (pS (pv 1) (sj (pv 2))))) aI)
  (ad (aS (am aZ (pv 0) aR (aq _)) (ah (az (pe_or (pv 1) (sj (pv 2))))) aI)
  (ad (aS (am aZ (pv 0) aR (aq _)) (ah (az (jg pU (pv 1) (pv 2) (aq _)))) aI)
  (ah (az (jg aZ (pv 1) (pv 2) (aq _))))))),?_⟩
 refine⟨_,rfl,rfl,_,rfl,?_⟩
 by_cases c1:V.str o=V.str "and"
 . refine bh c1 ?_;have e:jm o p q=(p&&q):=by unfold jm;rw[zB0 (ip c1)]
   rw[e]at k;refine⟨_,rfl,p,rfl,?_⟩;cases p with
   | true=>exact ji ⟨_,rfl,by simpa using k⟩
   | false=>exact gJ (by simpa using k)
 refine aF c1 ?_;have n1:¬ o="and":=fun z=>c1 (by rw[z])
 refine⟨_,rfl,rfl,_,rfl,?_⟩
 by_cases c2:V.str o=V.str "or"
 . refine bh c2 ?_;have e:jm o p q=(p||q):=by unfold jm;rw[zA0 n1,zB0 (ip c2)]
   rw[e]at k;refine⟨_,rfl,p,rfl,?_⟩;cases p with
   | true=>exact ji (by simpa using k)
   | false=>exact gJ ⟨_,rfl,by simpa using k⟩
 refine aF c2 ?_;have n2:¬ o="or":=fun z=>c2 (by rw[z])
 refine⟨_,rfl,rfl,_,rfl,?_⟩
 by_cases c3:V.str o=V.str "odd"
 . refine bh c3 ?_;have e:jm o p q=(p != q):=by unfold jm;rw[zA0 n1,zA0 n2,zB0 (ip c3)]
   rw[e]at k;refine⟨_,rfl,_,rfl,rfl,?_⟩;have e2:(!decide (V.bl p=V.bl q))=(p != q):=by cases p <;> cases q <;> decide
   show Q (.bl (!decide (V.bl p=V.bl q))) H;rw[e2];exact k
 refine aF c3 ?_;have n3:¬ o="odd":=fun z=>c3 (by rw[z])
 have e:jm o p q=(p==q):=by unfold jm;rw[zA0 n1,zA0 n2,zA0 n3]
 rw[e]at k;refine⟨_,rfl,_,rfl,rfl,?_⟩;have e2:decide (V.bl p=V.bl q)=(p==q):=by cases p <;> cases q <;> decide
 show Q (.bl (decide (V.bl p=V.bl q))) H;rw[e2];exact k
def jQ(n:Nat):Sp:=fun vs H Q _=>∃(v:V)(t:Tr)(a b:Addr)(ns:List Str)(st:List Int),vs=[v,.ref a,.ref b]/\TreeAt H v t/\t.ok ns/\t.depth<=n/\NamesAt H a ns/\H b=some (.tup (st.map V.int))/\st.length=ns.length/\Q (.bl (t.holds ns st)) H
theorem kG:FnScope ["tree","switches","setting","word","first"] ["tree","switches","setting"] (ag eF):=⟨rfl,rfl,rfl,by decide +kernel,rfl,by decide +kernel,by decide +kernel⟩
theorem vT {n:Nat} {f:Addr} {fd:FuncData} (F:Fun K "holds_at" "holds_at" eF f fd) (iA:Cal P w K mg base 1 "joined" ["word","first","second"] pw) (gw:Cal P w K mg base (n+2) "holds_at" ["tree","switches","setting"] (jQ n)):FnOk P w K mg base CX0 (n+3) f fd ["tree","switches","setting"] (jQ (n+1)):=by
 refine F.ok kG (fun vs H Q E h=>?_) (fun cdv A outer s H vs Q E hr h=>?_)
 . obtain⟨v,t,a,b,ns,st,rfl,_⟩:=h;rfl
 obtain ⟨v,t,a,b,ns,st,rfl,T,ok,dn,hN,hb,sl,k⟩:=h;refine⟨_,(ad (ao (i:=3) kG.nd rfl (Or.inl rfl) (aP ix_tup (pv 0) af (fun _ _=>rfl)))
  (ad (aS (am aZ (pv 3) aR (aq _)) (ah (az (jg aZ (aP ix_tup (pv 2) (tR PySem.F.plainAttrs_list PySem.F.plainAttrs_tuple (pv 1) (aa (aP ix_tup (pv 0) af (fun _ _=>rfl)) ae)) (fun _ _=>rfl)) af (aq _)))) aI)
  (ad (aS (PW.pt (og (am aZ (pv 3) aR (aq _)) (kQ (am aZ (pv 3) aR (aq _))))) (ah (az (jg aZ (pv 3) aR (aq _)))) aI)
  (ad (ao (i:=4) kG.nd rfl (Or.inl rfl) (au gw hr (zG0 _) rfl (aa (aP ix_tup (pv 0) af (fun _ _=>rfl)) (aa (pv 1) (aa (pv 2) ae)))))
  (ad (aS (am aZ (pv 3) aR (aq _)) (ah (az (vk (pv 4)))) aI)
  (ah (az (au iA hr (by omega) rfl (aa (pv 3) (aa (pv 4) (aa (au gw hr (zG0 _) rfl (aa (aP ix_tup (pv 0) af (fun _ _=>rfl)) (aa (pv 1) (aa (pv 2) ae)))) ae))))))))))),?_⟩
 cases T with
 | @is p x e=>
   refine⟨_,rfl,p,_,0,_,rfl,rfl,zC0 e,rfl,?_⟩;refine⟨_,rfl,rfl,_,rfl,?_⟩;refine bh rfl ?_;obtain⟨j,hj,jl⟩:=gY ok;have jl':j<st.length:=by omega
   refine⟨_,rfl,_,rfl,a,ns,rfl,hN,_,rfl,p,_,1,_,rfl,rfl,zC0 e,rfl,rfl,x,j,rfl,hj,b,_,(j:Int),.int st[j],rfl,rfl,zC0 hb,?_,rfl,?_⟩
   . refine cL ?_;rw[zR0,zK0 jl'];rfl
   . have e1:(Tr.is x).holds ns st=decide (V.int st[j]=V.int 1):=by
      show(match eW x ns with | some j=>decide (st.getD j 0=1) | none=>false)=_;rw[hj];show decide (st.getD j 0=1)=_;rw[zS0,zK0 jl']
      simp
     rw[e1]at k;exact k
 | @yes p e=>
   refine⟨_,rfl,p,_,0,_,rfl,rfl,zC0 e,rfl,?_⟩;refine⟨_,rfl,rfl,_,rfl,?_⟩;refine aF (by decide +kernel) ?_;refine⟨_,rfl,rfl,_,rfl,?_⟩;refine bh rfl (ji ?_);exact⟨_,rfl,rfl,k⟩
 | @no p e=>
   refine⟨_,rfl,p,_,0,_,rfl,rfl,zC0 e,rfl,?_⟩;refine⟨_,rfl,rfl,_,rfl,?_⟩;refine aF (by decide +kernel) ?_;refine⟨_,rfl,rfl,_,rfl,?_⟩;refine aF (by decide +kernel) ?_;refine⟨_,rfl,rfl,_,rfl,?_⟩;refine bh rfl ?_;refine⟨_,rfl,rfl,?_⟩;have e1:decide (V.str "no"=V.str "yes")=false:=by decide +kernel
   show Q (.bl (decide (V.str "no"=V.str "yes"))) H;rw[e1];exact k
 | @not p u r e T1=>
   have dp:r.depth+1<=n+1:=dn;refine⟨_,rfl,p,_,0,_,rfl,rfl,zC0 e,rfl,?_⟩;refine⟨_,rfl,rfl,_,rfl,?_⟩;refine aF (by decide +kernel) ?_;refine⟨_,rfl,rfl,_,rfl,?_⟩;refine aF (by decide +kernel) ?_;refine⟨_,rfl,rfl,_,rfl,?_⟩;refine aF (by decide +kernel) ?_;refine⟨_,rfl,p,_,1,_,rfl,rfl,zC0 e,rfl,_,rfl,_,rfl,u,r,a,b,ns,st,rfl,T1,ok,by omega,hN,hb,sl,?_⟩;refine⟨_,rfl,rfl,_,rfl,?_⟩;refine bh rfl ?_;exact⟨_,rfl,_,rfl,k⟩
 | @bin p o u u2 r r2 e T1 T2=>
   obtain⟨ho,ok1,ok2⟩:=ok;have dp:max r.depth r2.depth+1<=n+1:=dn;have ne:∀z:Str,z∉joinW->¬ V.str o=V.str z:=fun z hz h=>hz (ip h▸ho)
   refine⟨_,rfl,p,_,0,_,rfl,rfl,zC0 e,rfl,?_⟩;refine⟨_,rfl,rfl,_,rfl,?_⟩;refine aF (ne _ (by decide +kernel)) ?_;refine⟨_,rfl,rfl,_,rfl,?_⟩;refine aF (ne _ (by decide +kernel)) ?_;refine⟨_,rfl,rfl,_,rfl,?_⟩;refine aF (ne _ (by decide +kernel)) ?_;refine⟨_,rfl,p,_,1,_,rfl,rfl,zC0 e,rfl,_,rfl,_,rfl,u,r,a,b,ns,st,rfl,T1,ok1,by omega,hN,hb,sl,?_⟩;refine⟨_,rfl,rfl,_,rfl,?_⟩;refine aF (ne _ (by decide +kernel)) ?_;refine⟨_,rfl,_,rfl,_,rfl,p,_,2,_,rfl,rfl,zC0 e,rfl,_,rfl,_,rfl,u2,r2,a,b,ns,st,rfl,T2,ok2,by omega,hN,hb,sl,?_⟩;exact⟨o,_,_,rfl,k⟩
theorem vS {f:Addr} {fd:FuncData}:FnOk P w K mg base CX0 2 f fd ["tree","switches","setting"] (jQ 0):=by
 have no:∀vs H Q E,¬ jQ 0 vs H Q E:=fun vs H Q E h=>by
  obtain⟨v,t,_,_,_,_,_,_,_,h1,_⟩:=h
  have:=t.depth_pos
  omega
 exact⟨fun vs H Q E h=>absurd h (no vs H Q E),fun A outer s H args us vs Q E _ _ _ _ h=>absurd h (no vs H Q E)⟩
theorem oo {f:Addr} {fd:FuncData} (F:Fun K "holds_at" "holds_at" eF f fd) (m:mg "holds_at"=some (.ref f)) (iA:Cal P w K mg base 1 "joined" ["word","first","second"] pw) :
 ∀n:Nat,FnOk P w K mg base CX0 (n+2) f fd ["tree","switches","setting"] (jQ n)
 | 0=>vS
 | n+1=>vT F iA (Cal.of F (oo F m iA n) m (fun _ _ _ _ _ _ us hl=>by obtain⟨u0,u1,u2,rfl⟩:=jG hl;rfl))
def Ee(H:Hp)(v:V)(s:List Int):Prop:=∃a,v=.ref a/\H a=some (.tup (s.map V.int))
abbrev TupsAt(H:Hp):List V->List (List Int)->Prop:=PySem.Paired (Ee H)
def Ch(H:Hp)(r:Addr)(ss:List (List Int)):Prop:=∃rs,H r=some (.lst rs)/\TupsAt H rs ss
theorem TupsAt.mono{H H':Hp}(k:∀a xs,H a=some (.tup xs)->H' a=some (.tup xs)):∀{rs:List V}{ss:List (List Int)},TupsAt H rs ss->TupsAt H' rs ss
 | _,_,.nil=>.nil
 | _,_,.cons ⟨a,e,h⟩ t=>.cons ⟨a,e,k _ _ h⟩ (TupsAt.mono k t)
theorem TupsAt.get{H:Hp}:∀{rs:List V}{ss:List (List Int)}{i:Nat}{v:V},TupsAt H rs ss->rs[i]?=some v->∃s,ss[i]?=some s/\Ee H v s
 | _,_,_,_,.nil,h=>by simp at h
 | _,_,0,_,.cons h _,e=>by
   simp at e
   subst e;exact⟨_,rfl,h⟩
 | _,_,i+1,v,.cons _ t,e=>by
   obtain⟨s,h1,h2⟩:=TupsAt.get (i:=i) t (by simpa using e);exact⟨s,by simpa using h1,h2⟩
theorem yU{H H':Hp}{b:Addr}{ys:List V}(s:SameBut b H H')(h:H b=some (.lst ys)∨H b=none):∀a xs,H a=some (.tup xs)->H' a=some (.tup xs):=fun a xs e=>s a _ (fun z=>by
 rw[z]at e;rcases h with h | h
 . rw[h]at e;cases e
 . rw[h]at e;cases e) e
theorem uC{K:W.Frag}{H1:Hp}{a p:Addr}{s:List Int}{z:Int}{Q:VK}(ha:H1 a=some (.tup (s.map V.int)))(hp:H1 p=some (.tup [.int z]))(hl:s.length<=100)
 (q:∀t H2,Same H1 H2->H2 t=some (.tup ((s++[z]).map V.int))->Q (.ref t) H2):tP K (.ref a) (.ref p) H1 Q∨pG K (.ref a) (.ref p) H1 Q:=by
 cases s with
 | nil=>exact .inr ⟨a,p,_,rfl,rfl,zC0 ha,zC0 hp,q p H1 (Same.refl _) hp⟩
 | cons x r=>
   refine .inl ⟨a,p,_,_,rfl,rfl,zC0 ha,zC0 hp,by simp,dX (by simp at hl ⊢;omega),(fun z=>nomatch z),(fun _ t ht=>q t _ (zD0 ht _) ?_)⟩;rw[ai,zL0];rfl
def rE:Sp:=fun vs H Q _=>∃n:Int,vs=[.int n]/\0<=n/\n<=6/\∀(r:Addr)(H':Hp),H r=none->Same H H'->Ch H' r (cv n.toNat)->Q (.ref r) H'
theorem cZ:FnScope ["n","told","switch","longer","setting"] ["n"] (ag du):=⟨rfl,rfl,rfl,by decide +kernel,rfl,by decide +kernel,by decide +kernel⟩
theorem oI {f:Addr} {fd:FuncData} (F:Fun K "all_settings" "all_settings" du f fd) (hrange:mg "range"=none):FnOk P w K mg base CX0 1 f fd ["n"] rE:=by
 refine F.ok cZ (fun vs H Q E h=>?_) (fun cdv A outer s H vs Q E hr h=>?_)
 . obtain⟨n,rfl,_⟩:=h;rfl
 obtain ⟨n,rfl,n0,n6,q⟩:=h;refine⟨_,(ad (ao (i:=1) cZ.nd rfl (Or.inl rfl) (cw (aa (bc ae) ae)))
  (ad (da PassesOwn.never rfl (cF rfl hrange (aa (pv 0) ae)) (bX (i:=2) cZ.nd rfl (Or.inl rfl)) (ad (ao (i:=3) cZ.nd rfl (Or.inl rfl) (cw ae))
   (ad (da PassesOwn.never rfl (iu (pv 1)) (bX (i:=4) cZ.nd rfl (Or.inl rfl)) (ad (bL (iR PySem.F.plainAttrs_list PySem.F.slot_list_append PySem.F.type_list_append dw (pv 3) (aa (aj (op_catT.or lO) (pv 4) (bc (aa af ae))) ae)))
    (ah (bL (iR PySem.F.plainAttrs_list PySem.F.slot_list_append PySem.F.type_list_append dw (pv 3) (aa (aj (op_catT.or lO) (pv 4) (bc (aa af ae))) ae))))))
   (ah (ao (i:=1) cZ.nd rfl (Or.inl rfl) (pv 3))))))
  (ah (az (pv 1))))),?_⟩
 refine ⟨(by show 0<=sizeLine;decide),fun p hp=>?_⟩;refine⟨(by show 1<=sizeLine;decide),fun a ha=>?_⟩;have np:p≠a:=fun z=>by
  subst z;rw[ai]at ha;cases ha
 have ha0:H a=none:=(zD0 hp _).free ha;refine⟨_,rfl,n,rfl,by omega,by omega,dU (fun i σ H'=>∃(a:Addr)(x2 x3 x4:Option V),σ=[some (.int n),some (.ref a),x2,x3,x4]/\H a=none/\Same H H'/\Ch H' a (cv i))
  ⟨a,_,_,_,rfl,ha0,(zD0 hp _).trans (zD0 ha _),[.ref p],ai,.cons ⟨p,rfl,by rw[ay np,ai];rfl⟩ .nil⟩ ?_ ?_⟩
 . rintro i σ H' hi ⟨a,x2,x3,x4,rfl,a0,s0,rs,hrs,T⟩;have i6:i<6:=by omega
   have sl:=jS i;have s64:=nu (n:=i) (by omega);refine⟨(by show 0<=sizeLine;decide),fun b hb=>?_⟩;have ab:a≠b:=aO hrs hb;refine⟨_,rfl,a,rfl,⟨_,zH0 (by rw[ay ab];exact hrs)⟩,jI (K:=K) (xs:=rs) (fun j σ H2=>∃(x4:Option V)(bs:List V),σ=[some (.int n),some (.ref a),some (.int (0+(i:Int))),some (.ref b),x4]/\SameBut b H' H2/\H2 b=some (.lst bs)/\TupsAt H2 bs (((cv i).take j).flatMap fun s=>[s++[0],s++[1]]))
    ⟨_,[],rfl,SameBut.upd _,ai,.nil⟩ (fun j σ H2 _ hst=>by obtain⟨_,_,_,sb,_⟩:=hst;exact zH0 (sb a _ ab hrs)) ?_ ?_⟩
   . rintro j y σ H2 hj ⟨x4,bs,rfl,sb,hbs,TB⟩;have T2:TupsAt H2 rs (cv i):=T.mono (yU (ys:=[]) sb (.inr hb));obtain⟨s,hs,t,rfl,ht⟩:=T2.get hj;have hsm:s∈cv i:=qG0 hs;have hsl:=gx i s hsm;have hbl:=TB.length;rw[nL,qO0]at hbl;refine⟨_,rfl,.inl ⟨rfl,_,zH0 hbs⟩,?_⟩;refine⟨_,rfl,(by show 1<=sizeLine;decide),fun p1 hp1=>?_⟩;have S1:Same H2 (upd H2 p1 (.tup [.int 0])):=zD0 hp1 _;refine uC (s:=s) (z:=0) (S1 _ _ ht) ai (by omega) fun t1 H3 S3 e3=>?_
     have S13:Same H2 H3:=S1.trans S3;refine⟨b,bs,_,rfl,rfl,S13 _ _ hbs,aW (by omega),?_⟩;have K4:=gs (H:=H3) (b:=b) (ys:=bs) (zs:=bs++[.ref t1]) (S13 _ _ hbs);have e4:=K4 _ _ e3;have t4:=K4 _ _ (S13 _ _ ht);refine⟨_,rfl,.inl ⟨rfl,_,zH0 ai⟩,?_⟩;refine⟨_,rfl,(by show 1<=sizeLine;decide),fun p2 hp2=>?_⟩;have S4:Same (upd H3 b (.lst (bs++[.ref t1]))) (upd (upd H3 b (.lst (bs++[.ref t1]))) p2 (.tup [.int 1])):=zD0 hp2 _;refine uC (s:=s) (z:=1) (S4 _ _ t4) ai (by omega) fun t2 H5 S5 e5=>?_
     have S45:=S4.trans S5;have hb5:H5 b=some (.lst (bs++[.ref t1])):=S45 _ _ ai;refine⟨b,bs++[.ref t1],_,rfl,rfl,hb5,aW (by rw[zM0,qE0];omega),?_⟩;have K6:=gs (H:=H5) (b:=b) (ys:=bs++[.ref t1]) (zs:=bs++[.ref t1]++[.ref t2]) hb5;refine⟨_,bs++[.ref t1]++[.ref t2],rfl,?_,ai,?_⟩
     . have q1:SameBut b H' H3:=sb.trans (zJ0 S13);have q2:SameBut b H' H5:=(q1.trans (SameBut.upd _)).trans (zJ0 S45);exact q2.trans (SameBut.upd _)
     . have hbase:TupsAt (upd H5 b (.lst (bs++[.ref t1]++[.ref t2]))) bs (((cv i).take j).flatMap fun s=>[s++[0],s++[1]]):=
        TB.mono fun a xs e=>K6 _ _ (S45 _ _ (K4 _ _ (S13 _ _ e)))
       rw[qN0,hs,List.flatMap_append];have e:((some s).toList.flatMap fun s:List Int=>[s++[0],s++[1]])=[s++[0]]++[s++[1]]:=by simp
       rw[e,←List.append_assoc];exact(hbase.snoc ⟨t1,rfl,K6 _ _ (S45 _ _ e4)⟩).snoc ⟨t2,rfl,K6 _ _ e5⟩
   . rintro σ H2 ⟨x4,bs,rfl,sb,hbs,TB⟩;have rl:=T.length;rw[rl,qM0]at TB;exact⟨_,rfl,b,_,_,_,rfl,s0.free hb,s0.but (s0.free hb) sb,bs,hbs,TB⟩
 . rintro σ H' ⟨a,x2,x3,x4,rfl,a0,s0,S⟩;exact⟨_,rfl,q a H' a0 s0 S⟩
def cnt(t:Tr)(ns:List Str):Nat:=((cv ns.length).filter fun st=>t.holds ns st).length
def wP:Sp:=fun vs H Q _=>∃(v:V)(t:Tr)(a:Addr)(ns:List Str),vs=[v,.ref a]/\TreeAt H v t/\t.ok ns/\t.depth<=12/\NamesAt H a ns/\ns.length<=6/\∀H',Same H H'->Q (.int (cnt t ns:Int)) H'
theorem sQ:FnScope ["tree","switches","holding"] ["tree","switches"] (ag gn):=⟨rfl,rfl,rfl,by decide +kernel,rfl,by decide +kernel,by decide +kernel⟩
theorem ub {f:Addr} {fd:FuncData} (F:Fun K "count_of" "count_of" gn f fd) (hlen:mg "len"=none) (dM:Cal P w K mg base 1 "all_settings" ["n"] rE) (gw:Cal P w K mg base 14 "holds_at" ["tree","switches","setting"] (jQ 12)):FnOk P w K mg base CX0 15 f fd ["tree","switches"] wP:=by
 refine F.ok sQ (fun vs H Q E h=>?_) (fun cdv A outer s H vs Q E hr h=>?_)
 . obtain⟨v,t,a,ns,rfl,_⟩:=h;rfl
 obtain ⟨v,t,a,ns,rfl,T,ok,dp,hN,nl,q⟩:=h;refine⟨_,(ad (sg (i:=2) (N:=["tree","switches"]) (ix:=[0,1]) sQ.nd rfl (Or.inl rfl) rfl
  CompScope.two rfl
  (iu (au dM hr (by decide) rfl (aa (aJ aE rfl hlen PySem.boot_len (aa (pv 1) ae)) ae)))
  (fun _ _ _=>pb_if (kR (au gw hr (by decide) rfl (aa (pv 1) (aa (pv 2) (aa (pv 0) ae))))) (pv 0)))
  (ah (az (aJ aE rfl hlen PySem.boot_len (aa (pv 2) ae))))),?_⟩
 have en:((ns.map V.str).length:Int)=(ns.length:Int):=by rw[zE0]
 refine⟨_,rfl,a,_,rfl,hN.seq,_,rfl,by omega,by omega,fun r H1 r0 S1 R1=>?_⟩;rw[en]at R1;have e2:((ns.length:Int)).toNat=ns.length:=by omega
 rw[e2]at R1;obtain⟨rs,hrs,TS⟩:=R1;have rl:=TS.length;have sl:=jS ns.length;have s64:=nu nl;refine⟨r,rfl,⟨_,zH0 hrs⟩,fun D hD=>?_⟩;refine kC (K:=K) (xs:=rs) (fun i H'=>∃ys,H' D=some (.lst ys)/\ys.length=(((cv ns.length).take i).filter fun st=>t.holds ns st).length/\Same H1 H') ⟨[],ai,rfl,zD0 hD _⟩ (fun i H' _ hst=>by obtain⟨_,_,_,h⟩:=hst;exact zH0 (h _ _ hrs)) ?_ ?_
 . rintro i x H2 hx ⟨ys,hl,yl,S2⟩;have hi:i<rs.length:=(zY0 hx).1;have TS2:=TS.mono (aG S2);obtain⟨st,hst,b,rfl,hb⟩:=TS2.get hx;have stl:=gx _ _ (qG0 hst);have S02:=S1.trans S2;have tk:((cv ns.length).take (i+1)).filter (fun st=>t.holds ns st)=((cv ns.length).take i).filter (fun st=>t.holds ns st)++[st].filter (fun st=>t.holds ns st):=by
    rw[qN0,hst,List.filter_append];rfl
   refine⟨_,rfl,_,rfl,_,rfl,v,t,a,b,ns,st,rfl,T.mono (aG S02),ok,dp,hN.same S02,hb,stl,_,rfl,?_⟩;cases c:t.holds ns st with
   | true=>
     refine ji ?_;refine⟨_,rfl,ys,hl,?_,Nx.of hi ⟨_,ai,?_,fun b' o e=>?_⟩⟩
     . have:=List.length_filter_le (fun st=>t.holds ns st) ((cv ns.length).take i)
       rw[qO0]at this;exact aW (by omega)
     . rw [tk,zM0,zM0,yl]
       simp [c]
     . rw[ay (aO e hD)];exact S2 _ _ e
   | false=>
     refine gJ ?_;refine Nx.of hi ⟨ys,hl,?_,S2⟩;rw[tk,zM0,yl]
     simp [c]
 . rintro H2 ⟨ys,hl,yl,S2⟩;have e3:rs.length=(cv ns.length).length:=rl;rw[e3,qM0]at yl;refine⟨_,rfl,D,_,rfl,.inl (zH0 hl),?_⟩;rw[yl];exact q H2 (S1.trans S2)
def tu(C:Addr):Sp:=fun vs H Q _=>∃(g a b d:Addr)(ns:List Str)(tv:List V)(ts:List Tr)(p:Int),vs=[.ref g]/\GameAt C H g a b d p/\H a=some (.tup (ns.map V.str))/\ns.length<=6/\H b=some (.tup tv)/\TreesAt H tv ts/\ts.length<=10/\(∀t∈ts,t.ok ns/\t.depth<=12)/\
 ∀(l:Addr)(H':Hp),H l=none->Same H H'->H' l=some (.lst ((ts.map fun t=>(cnt t ns:Int)).map V.int))->Q (.ref l) H'
theorem rQ:FnScope ["game"] ["game"] (ag eQ):=⟨rfl,rfl,rfl,by decide +kernel,rfl,by decide +kernel,by decide +kernel⟩
theorem sA {f C:Addr} {fd:FuncData} (F:Fun K "counts_of" "counts_of" eQ f fd) (T:GTxt K mg C) (m7:Cal P w K mg base 15 "count_of" ["tree","switches"] wP):FnOk P w K mg base CX0 16 f fd ["game"] (tu C):=by
 refine F.ok rQ (fun vs H Q E h=>?_) (fun cdv A outer s H vs Q E hr h=>?_)
 . obtain⟨g,a,b,d,ns,tv,ts,p,rfl,_⟩:=h;rfl
 obtain ⟨g,a,b,d,ns,tv,ts,p,rfl,⟨dx,hg⟩,ha,nl,hb,TS,t10,tok,q⟩:=h;refine⟨_,(ah (az (dB (N:=["game"]) (ix:=[0]) rfl
  CompScope.one rfl
  (gq (ax (pv 0) rfl)) (fun _ _ _=>dF (au m7 hr (by decide) rfl (aa (pv 0) (aa (kr K (pv 1)) ae))))))),?_⟩
 have vl:=TS.length;refine⟨_,rfl,g,C,dx,_,_,rfl,hg,T.cl,T.nT,lY ..,b,rfl,⟨_,zC0 hb⟩,fun D hD=>?_⟩;refine eY (K:=K) (xs:=tv) (fun i H'=>H' D=some (.lst (((ts.take i).map fun t=>(cnt t ns:Int)).map V.int))/\Same H H') ⟨by rw[ai];rfl,zD0 hD _⟩ (fun i H' _ h=>zC0 (h.2 _ _ hb)) ?_ ?_
 . rintro i z H2 hz ⟨hl,S2⟩;obtain⟨t,ht,Tt⟩:=TS.get hz;obtain⟨tk,td⟩:=tok t (qG0 ht);have hi:i<tv.length:=(zY0 hz).1;refine⟨_,rfl,_,rfl,g,C,dx,_,_,rfl,S2 _ _ hg,T.cl,T.nS,oy ..,z,t,a,ns,rfl,Tt.mono (aG S2),tk,td,.inr (S2 _ _ ha),nl,fun H3 S3=>?_⟩;refine⟨_,S3 _ _ hl,?_,Nx.of hi ⟨?_,fun b' o' e'=>?_⟩⟩
   . rw[zE0,zE0,qO0];exact aW (by omega)
   . rw[ai,qN0,ht,zL0,zL0];rfl
   . rw[ay (aO e' hD)];exact S3 _ _ (S2 _ _ e')
 . rintro H2 ⟨hl,S2⟩;rw[vl,qM0]at hl;exact q D H2 hD S2 hl
def ib(s:Int):List Int->Int
 | []=>0
 | a::r=>a+s*ib s r
theorem lW(s p:Int):∀ns,hor s p ns=ib s ns % p
 | []=>(Int.zero_emod p).symm
 | a::r=>by
   show(hor s p r*s+a) % p=(a+s*ib s r) % p;rw[lW s p r,Int.add_emod,Int.mul_emod,Int.emod_emod,←Int.mul_emod,←Int.add_emod,Int.mul_comm,Int.add_comm]
theorem lx:∀(n:Nat)(s:List Int),s∈cv n->∀x∈s,x=0∨x=1
 | 0,s,h,x,hx=>by
   have:s=[]:=by simpa [cv]using h
   subst this;cases hx
 | n+1,s,h,x,hx=>by
   rw[cv,List.mem_flatMap]at h;obtain⟨t,ht,hs⟩:=h
   simp at hs
   rcases hs with rfl | rfl
   . rcases qJ0 hx with h | h
     . exact lx n t ht x h
     . exact .inl (zT0 h)
   . rcases qJ0 hx with h | h
     . exact lx n t ht x h
     . exact .inr (zT0 h)
theorem oV{K:W.Frag}{H1:Hp}{a b:Addr}{xs ys:List Int}{Q:VK}(ha:H1 a=some (.tup (xs.map V.int)))(hb:H1 b=some (.tup (ys.map V.int)))(hl:xs.length+ys.length<=100)
 (q:∀t H2,Same H1 H2->H2 t=some (.tup ((xs++ys).map V.int))->Q (.ref t) H2):tP K (.ref a) (.ref b) H1 Q∨pG K (.ref a) (.ref b) H1 Q:=by
 cases xs with
 | nil=>exact .inr ⟨a,b,_,rfl,rfl,zC0 ha,zC0 hb,q b H1 (Same.refl _) hb⟩
 | cons x r=>
   refine .inl ⟨a,b,_,_,rfl,rfl,zC0 ha,zC0 hb,by simp,dX (by simp at hl ⊢;omega),(fun z=>?_),(fun _ t ht=>q t _ (zD0 ht _) ?_)⟩
   . cases ys with
     | nil=>
       refine q a H1 (Same.refl _) ?_;rw[List.append_nil];exact ha
     | cons y r2=>exact nomatch z
   . rw[ai,zL0]
def cz(ns:List Str)(ts:List Tr)(s p:Int)(pt:List Int):Int:=((cv (ns.length-pt.length)).map fun st=>ib s (ts.map fun t=>t.worth ns (pt++st) p)).sum % p
theorem wz{α:Type}(p:Int)(f:α->Int):∀l:List α,(l.map fun x=>f x % p).sum % p=(l.map f).sum % p
 | []=>rfl
 | a::r=>by
   rw[zZ0,zZ0,List.sum_cons,List.sum_cons,Int.add_emod,Int.emod_emod,wz p f r,←Int.add_emod]
theorem wy{α:Type}{p:Int}(hp:0<p)(f:α->Int)(h:∀x,0<=f x/\f x<p):∀l:List α,0<=(l.map f).sum/\(l.map f).sum<=p*l.length
 | []=>⟨Int.le_refl 0,by simp⟩
 | a::r=>by
   have h1:=h a;have h2:=wy hp f h r;rw[zZ0,List.sum_cons,qF0];refine⟨by omega,?_⟩
   have:p*((r.length+1:Nat):Int)=p*(r.length:Int)+p:=by
    rw[Int.natCast_add,Int.mul_add]
    simp
   omega
theorem tQ{a b:List Int}{p:Int}(h:bV a p)(h2:bV b p):bV (a++b) p:=fun x hx=>by
 rcases qJ0 hx with e | e
 . exact h x e
 . exact h2 x e
theorem pt01{a b:List Int}{p:Int}(h:bV a p)(p1:1<p)(h2:∀x∈b,x=0∨x=1):bV (a++b) p:=tQ h fun x hx=>by rcases h2 x hx with e | e <;> omega
theorem oQ{X:Cx}(K:W.Frag)(hK:X.K=K:=by rfl):OpR X (binaryOp .Add) (fun x y H Q=>tP K x y H Q∨pG K x y H Q):=by subst hK;exact op_catT.or lO
theorem uy{ts:List Tr}{x:Str}(h0:ts≠[]):0<=bj ts x:=by
 have:=jD (ns:=ts.map fun t=>(t.names.count x:Int)) (by simpa using h0)
 obtain⟨t,ht,e⟩:=List.mem_map.mp this;unfold bj;rw[←e];exact Int.natCast_nonneg _
def fE(ns:List Str)(ts:List Tr)(s p:Int)(cs:List Int)(n:Nat):List Int:=(List.range n).map fun k:Nat=>cz ns ts s p (cs++[(k:Int)])
theorem Es{ns:List Str}{ts:List Tr}{s p d:Int}{cs:List Int}{i:Nat}(hi:i<(d+1).toNat)(h:d<=500):((fE ns ts s p cs i).map V.int).length<sizeLine:=by
 unfold fE;rw[zE0,zE0,qQ0];exact aW (by omega)
theorem ptI{a:List Int}{p d:Int}{i:Nat}(h:bV a p)(hi:i<(d+1).toNat)(hd:d<p):bV (a++[(i:Int)]) p:=tQ h fun x hx=>by
 rw[zT0 hx];omega
theorem cat1{n k:Nat}(h:n<k)(h6:k<=6):n+([(0:Int)]:List Int).length<=100/\n+1<=k:=by
 rw[qE0];omega
theorem s64{n k:Nat}(h6:n<=6):(cv (n-(k+1))).length<=64:=by
 have s64:=jS (n-(k+1));have p64:=nu (n:=n-(k+1)) (by omega);omega
theorem Er{α:Type}{f:α->Int}{l:List α}{j:Nat}(h:l.length<=64):(((l.take j).map f).map V.int).length<sizeLine:=by
 rw[zE0,zE0,qO0];exact aW (by omega)
theorem sum63{p x:Int}{n:Nat}(p0:0<p)(p40:p<2 ^ 40)(h:n<=64)(hx:x<=p*(n:Int)):x<2 ^ 63:=by
 have:p*(n:Int)<=p*64:=qW0 (by omega) (by omega)
 omega
def zQ(C:Addr):Sp:=fun vs H Q _=>∃(g a b d c:Addr)(ns:List Str)(tv:List V)(ts:List Tr)(cs:List Int)(x:Str)(s p:Int),vs=[.ref g,.int s,.ref c]/\GameAt C H g a b d p/\H a=some (.tup (ns.map V.str))/\ns.length<=6/\H b=some (.tup tv)/\TreesAt H tv ts/\ts≠[]/\ts.length<=10/\(∀t∈ts,t.ok ns/\t.depth<=10)/\
 H d=some (.lst ((ns.map (bj ts)).map V.int))/\H c=some (.tup (cs.map V.int))/\ns[cs.length]?=some x/\bj ts x<p/\bj ts x<=500/\bV cs p/\1<p/\p<2 ^ 40/\
 ∀(l:Addr)(H':Hp),H l=none->Same H H'->H' l=some (.lst ((fE ns ts s p cs (bj ts x+1).toNat).map V.int))->Q (.ref l) H'
theorem fg:FnScope ["game","s","coins","ahead","switch","behind","row","x","worths"] ["game","s","coins"] (ag fV):=⟨rfl,rfl,rfl,by decide +kernel,rfl,by decide +kernel,by decide +kernel⟩
theorem tV {f fW C:Addr} {fd fdW:FuncData} (F:Fun K "true_row" "true_row" fV f fd) (B:Bl mg) (T:GTxt K mg C) (mW:Meth K C "worth_at" fW) (GW:FnOk P w K mg base CX0 13 fW fdW ["self","point","s"] (zO C)) (bW:Binds K fdW ["self","point","s"] []) (dM:Cal P w K mg base 1 "all_settings" ["n"] rE):FnOk P w K mg base CX0 14 f fd ["game","s","coins"] (zQ C):=by
 refine F.ok fg (fun vs H Q E h=>?_) (fun cdv A outer s H vs Q E hr h=>?_)
 . obtain⟨g,a,b,d,c,ns,tv,ts,cs,x,s,p,rfl,_⟩:=h;rfl
 obtain ⟨g,a,b,d,c,ns,tv,ts,cs,x,s,p,rfl,⟨dx,hg⟩,ha,nl,hb,TS,tne,t10,tok,hd,hc,hx,dp,d500,po,p1,p40,q⟩:=h;refine⟨_,(ad (ao (i:=3) fg.nd rfl (Or.inr rfl) (bq ba rfl B.tuple bi (aa (pv 2) ae)))
  (ad (ao (i:=4) fg.nd rfl (Or.inl rfl) (aJ aE rfl B.len PySem.boot_len (aa (pv 3) ae)))
  (ad (ao (i:=5) fg.nd rfl (Or.inl rfl) (au dM hr (by decide) rfl (aa (aj bm (aj bm (aJ aE rfl B.len PySem.boot_len (aa (ax (pv 0) rfl) ae)) (pv 4)) af) ae)))
  (ad (ao (i:=6) fg.nd rfl (Or.inl rfl) (cw ae))
  (ad (da PassesOwn.never rfl (cF rfl B.range (aa (aj aU (aP ix_list (ax (pv 0) rfl) (pv 4) (fun _ _=>rfl)) af) ae)) (bX (i:=7) fg.nd rfl (Or.inr rfl)) (ad (sg (i:=8) (N:=["x","s","game","ahead"]) (ix:=[7,1,0,3]) fg.nd rfl (Or.inl rfl) rfl
   CompScope.four rfl
   (iu (pv 5)) (fun _ _ _=>dF (db (pv 3) T.cl mW GW hr bW .nil bQ (aa (aj (oQ K) (aj (oQ K) (pv 4) (bc (aa (pv 1) ae))) (pv 0)) (aa (pv 2) ae)))))
   (ah (bL (iR PySem.F.plainAttrs_list PySem.F.slot_list_append PySem.F.type_list_append dw (pv 6) (aa (aj bd (aJ (qo rfl) rfl B.sum PyProof.Rows.boot_sum (aa (pv 8) ae)) (ax (pv 0) rfl)) ae))))))
  (ah (az (pv 6)))))))),?_⟩
 have kl:cs.length<ns.length:=(zY0 hx).1;have d0:=uy (x:=x) tne;have p0:0<p:=Int.lt_trans Int.zero_lt_one p1;refine⟨_,rfl,c,_,rfl,.inr ⟨zC0 hc,?_⟩⟩;have G1:Same H H:=fun _ _ e=>e
 have hah1:=hc;refine⟨_,rfl,c,_,rfl,.inr (zC0 hah1),?_⟩;refine⟨_,rfl,g,C,dx,_,_,rfl,G1 _ _ hg,T.cl,T.nS,oy ..,a,_,rfl,.inr (zC0 (G1 _ _ ha)),_,rfl,_,_,rfl,rfl,_,_,rfl,rfl,_,rfl,by rw[zE0,zE0];omega,by rw[zE0,zE0];omega,fun r H2 r0 S2 R2=>?_⟩;have en:((((ns.map V.str).length:Nat):Int)-(((cs.map V.int).length:Nat):Int)-1).toNat=ns.length-(cs.length+1):=by rw[zE0,zE0];omega
 rw[en]at R2;obtain⟨rs,hrs,TB⟩:=R2;have rl:=TB.length;refine⟨(by show 0<=sizeLine;decide),fun L hL=>?_⟩;have S02:=G1.trans S2;have GL:=zD0 hL (.lst []);have S03:=S02.trans GL;have L0:H L=none:=S02.free hL;have e1:(((cs.map V.int).length:Nat):Int)=(cs.length:Int):=by rw[zE0]
 refine⟨_,rfl,g,C,dx,_,_,rfl,S03 _ _ hg,T.cl,T.nD,BG ..,_,rfl,d,_,_,.int (bj ts x),rfl,rfl,zH0 (S03 _ _ hd),?_,_,_,rfl,rfl,_,rfl,by omega,by omega,dU (fun i σ H'=>∃x7 x8:Option V,σ=[some (.ref g),some (.int s),some (.ref c),some (.ref c),some (.int (((cs.map V.int).length:Nat):Int)),some (.ref r),some (.ref L),x7,x8]/\H' L=some (.lst ((fE ns ts s p cs i).map V.int))/\SameBut L H2 H') ⟨_,_,rfl,by rw[ai];rfl,SameBut.upd _⟩ ?_ ?_⟩
 . rw[e1];refine cL ?_;rw[zR0,zR0,hx];rfl
 . rintro i σ H4 hi ⟨x7,x8,rfl,hL4,S4⟩;have gL:g≠L:=aO (S02 _ _ hg) hL;have rL:r≠L:=aO hrs hL;have kT:cx H2 H4:=fun c xs h=>S4 c _ (aO h hL) h
   have hg4:=S4 g _ gL (S02 _ _ hg);have hrs4:=S4 r _ rL hrs;have ha4:=kT _ _ (S02 _ _ ha);have hb4:=kT _ _ (S02 _ _ hb);have hah4:=kT _ _ (S2 _ _ hah1);have TS4:=(TS.mono (aG S02)).mono kT;have TB4:=TB.mono kT;refine⟨_,rfl,r,rfl,⟨_,zH0 hrs4⟩,fun D hD=>?_⟩;refine kC (K:=K) (xs:=rs) (fun j H'=>H' D=some (.lst ((((cv (ns.length-(cs.length+1))).take j).map fun st=>hor s p (ts.map fun t=>t.worth ns (cs++[(i:Int)]++st) p)).map V.int))/\Same H4 H') ⟨by rw[ai];rfl,zD0 hD _⟩ (fun j H' _ h=>zH0 (h.2 _ _ hrs4)) ?_ ?_
   . rintro j z H5 hz ⟨hD5,S5⟩;obtain⟨st,hst,y,rfl,hy⟩:=(TB4.mono (aG S5)).get hz;have stm:=qG0 hst;have stl:=gx _ _ stm;have s01:=lx _ _ stm;have hj:j<rs.length:=(zY0 hz).1;have po2:bV (cs++[(i:Int)]++st) p:=pt01 (ptI po hi dp) p1 s01;have pl2:(cs++[(i:Int)]++st).length=ns.length:=by rw[zM0,zM0,qE0];omega
     refine⟨_,rfl,g,dx,_,rfl,S5 _ _ hg4,qi _ _ _ _ (by decide +kernel) (by decide +kernel) (by decide +kernel) (by decide +kernel),?_⟩;refine⟨_,rfl,_,rfl,(by show 1<=sizeLine;decide),fun u hu=>?_⟩;have Gu:=zD0 hu (.tup [.int (0+(i:Int))]);have hu6:upd H5 u (.tup [.int (0+(i:Int))]) u=some (.tup ([(i:Int)].map V.int)):=by rw[ai,Int.zero_add];rfl
     generalize upd H5 u (.tup [.int (0+(i:Int))])=H6 at Gu hu6;refine oV (Gu _ _ (S5 _ _ hah4)) hu6 (cat1 kl nl).1 fun t1 H7 S7 h7=>?_
     refine⟨_,rfl,?_⟩;have S57:=Gu.trans S7;refine oV h7 (S57 _ _ hy) (by rw[zM0,qE0];omega) fun t2 H8 S8 h8=>?_
     have S48:=S5.trans (S57.trans S8);refine⟨_,rfl,g,a,b,d,t2,ns,tv,ts,_,s,p,rfl,⟨dx,S48 _ _ hg4⟩,p1,p40,S48 _ _ ha4,S48 _ _ hb4,TS4.mono (aG S48),t10,tok,h8,pl2,po2,fun H9 S9=>?_⟩;refine⟨_,S9 _ _ ((S57.trans S8) _ _ hD5),?_,Nx.of hj ⟨?_,fun b' o' e'=>?_⟩⟩
     . exact Er (s64 nl)
     . rw[ai,qN0,hst,zL0,zL0];rfl
     . rw[ay (aO e' hD)];exact S9 _ _ (S48 _ _ e')
   rintro H5 ⟨hD5,S5⟩;rw[rl,qM0]at hD5;have hor_r:=fun st:List Int=>ky (s:=s) (p:=p) p0 (ts.map fun t=>t.worth ns (cs++[(i:Int)]++st) p)
   have sr:=wy (p:=p) p0 (fun st:List Int=>hor s p (ts.map fun t=>t.worth ns (cs++[(i:Int)]++st) p)) hor_r (cv (ns.length-(cs.length+1)));have hL5:=S5 _ _ hL4;refine⟨_,rfl,.inl ⟨rfl,_,zH0 hL5⟩,_,rfl,D,_,rfl,zH0 hD5,?_,?_,?_⟩
   . intro n hn;obtain⟨st,_,rfl⟩:=List.mem_map.mp hn;exact(hor_r st).1
   . exact sum63 p0 p40 (s64 nl) sr.2
   refine⟨_,rfl,g,C,dx,_,_,rfl,S5 _ _ hg4,T.cl,T.nF,ig ..,_,_,rfl,rfl,p0,L,_,_,rfl,rfl,hL5,?_,?_⟩
   . exact Es hi d500
   . refine ⟨_,_,rfl,?_,fun c o hc e=>?_⟩
     . rw [ai];unfold fE;rw[List.range_succ,zL0,zL0];have e2:((cv (ns.length-(cs.length+1))).map fun st=>hor s p (ts.map fun t=>t.worth ns (cs++[(i:Int)]++st) p)).sum % p=cz ns ts s p (cs++[(i:Int)]):=by
        unfold cz;rw[zM0,qE0,show(fun st:List Int=>hor s p (ts.map fun t=>t.worth ns (cs++[(i:Int)]++st) p))=fun st=>ib s (ts.map fun t=>t.worth ns (cs++[(i:Int)]++st) p) % p from funext fun st=>lW _ _ _];exact wz p (fun st:List Int=>ib s (ts.map fun t=>t.worth ns (cs++[(i:Int)]++st) p)) _
       show some (HO.lst (_++[V.int (((cv (ns.length-(cs.length+1))).map fun st=>hor s p (ts.map fun t=>t.worth ns (cs++[(i:Int)]++st) p)).sum % p)]))=_;rw[e2];rfl
     . rw[ay hc];exact S5 _ _ (S4 c o hc e)
 . rintro σ H4 ⟨x7,x8,rfl,hL4,S4⟩;exact⟨_,rfl,q L H4 L0 (S02.but L0 S4) hL4⟩
theorem neS{a b:Str}(h:¬ a=b):¬ V.str a=V.str b:=fun z=>h (V.str.inj z)
open Classical in
noncomputable def ES(p a:Int):Int:=if h:∃g:Int,0<g/\g<p/\g*a % p=1 then h.choose else 0
theorem BD{p a g k:Int}(g0:0<g)(g1:g<p)(hg:g*a % p=1)(k0:0<k)(k1:k<p)(hk:k*a % p=1):g=k:=by
 have e1:g*(k*a) % p=g:=by
  rw[Int.mul_emod,hk,Int.mul_one,Int.emod_emod,qH0 (by omega) g1]
 have e2:k*(g*a) % p=k:=by
  rw[Int.mul_emod,hg,Int.mul_one,Int.emod_emod,qH0 (by omega) k1]
 have e3:g*(k*a) % p=k*(g*a) % p:=by rw[Int.mul_left_comm]
 exact e1.symm.trans (e3.trans e2)
theorem Dr{p a g:Int}(g0:0<g)(g1:g<p)(hg:g*a % p=1):ES p a=g:=by
 have h:∃g:Int,0<g/\g<p/\g*a % p=1:=⟨g,g0,g1,hg⟩
 unfold ES;rw[dif_pos h];obtain⟨k0,k1,hk⟩:=h.choose_spec;exact BD k0 k1 hk g0 g1 hg
noncomputable def vZ(p x y:Int):Int:=if y=0 then 0 else x*ES p y % p
noncomputable def opV(p:Int)(s:Str)(x y:Int):Int:=
 if s="+" then(x+y) % p else if s="-" then(x-y) % p else if s="*" then x*y % p else if s="/" then vZ p x y else if s="=" then(if x=y then 1 else 0)else if x<y then 1 else 0
theorem BS{p x y:Int}(hp:0<p):0<=vZ p x y/\vZ p x y<p:=by
 unfold vZ
 split
 . omega
 . exact⟨zX0 _ (by omega),qA0 _ hp⟩
theorem CY{p x y:Int}{s:Str}(hp:1<p):0<=opV p s x y/\opV p s x y<p:=by
 have m:∀z:Int,0<=z % p/\z % p<p:=fun z=>⟨zX0 _ (by omega),qA0 _ (by omega)⟩
 unfold opV
 split
 . exact m _
 . split
   . exact m _
   . split
     . exact m _
     . split
       . exact BS (by omega)
       . split <;> split <;> omega
def DN:Sp:=fun vs H Q _=>∃(x y p:Int),vs=[.int x,.int y,.int p]/\Pr p/\p<=999983/\0<=x/\x<p/\0<=y/\y<p/\Q (.int (vZ p x y)) H
theorem va:FnScope ["first","second","p"] ["first","second","p"] (ag gV):=⟨rfl,rfl,rfl,by decide +kernel,rfl,by decide +kernel,by decide +kernel⟩
theorem vy {f:Addr} {fd:FuncData} (F:Fun K "divided" "divided" gV f fd) (fk:Cal P w K mg base 1 "inverse_of" ["a","p"] zV):FnOk P w K mg base CX0 2 f fd ["first","second","p"] DN:=by
 refine F.ok va (fun vs H Q E h=>?_) (fun cdv A outer s H vs Q E hr h=>?_)
 . obtain⟨x,y,p,rfl,_⟩:=h;rfl
 obtain ⟨x,y,p,rfl,pp,p9,x0,x1,y0,y1,q⟩:=h;refine⟨_,(ad (aS (am aZ (pv 1) af (aq _)) (ah (az af)) aI)
  (ah (az (aj bd (aj cq (pv 0) (au fk hr (by decide) rfl (aa (pv 1) (aa (pv 2) ae)))) (pv 2))))),?_⟩
 unfold vZ at q;refine⟨_,rfl,rfl,_,rfl,?_⟩
 by_cases c:y=0
 . rw[zB0 c]at q;exact bh (congrArg V.int c) q
 . rw[zA0 c]at q;refine aF (fun z=>c (V.int.inj z)) ?_;refine⟨_,rfl,_,rfl,_,rfl,y,p,rfl,pp,p9,by omega,y1,fun g g0 g1 hg=>?_⟩;rw[Dr g0 g1 hg]at q;exact⟨_,_,rfl,rfl,.inl ⟨by omega,by omega⟩,_,rfl,_,_,rfl,rfl,(by show 0<p;omega),q⟩
def Ai:List Str:=["+","-","*","/","=","<"]
def En:Sp:=fun vs H Q _=>∃(s:Str)(x y p:Int),vs=[.str s,.int x,.int y,.int p]/\s∈Ai/\Pr p/\p<=999983/\0<=x/\x<p/\0<=y/\y<p/\Q (.int (opV p s x y)) H
theorem tG:FnScope ["sign","first","second","p"] ["sign","first","second","p"] (ag fZ):=⟨rfl,rfl,rfl,by decide +kernel,rfl,by decide +kernel,by decide +kernel⟩
theorem opV_1 {p x y:Int}:opV p "+" x y=(x+y) % p:=zB0 rfl
theorem opV_2 {p x y:Int}:opV p "-" x y=(x-y) % p:=by unfold opV;rw[zA0 (by decide +kernel),zB0 rfl]
theorem opV_3 {p x y:Int}:opV p "*" x y=x*y % p:=by unfold opV;rw[zA0 (by decide +kernel),zA0 (by decide +kernel),zB0 rfl]
theorem opV_4 {p x y:Int}:opV p "/" x y=vZ p x y:=by unfold opV;rw[zA0 (by decide +kernel),zA0 (by decide +kernel),zA0 (by decide +kernel),zB0 rfl]
theorem opV_5 {p x y:Int}:opV p "=" x y=if x=y then 1 else 0:=by unfold opV;rw[zA0 (by decide +kernel),zA0 (by decide +kernel),zA0 (by decide +kernel),zA0 (by decide +kernel),zB0 rfl]
theorem opV_6 {p x y:Int}:opV p "<" x y=if x<y then 1 else 0:=by unfold opV;rw[zA0 (by decide +kernel),zA0 (by decide +kernel),zA0 (by decide +kernel),zA0 (by decide +kernel),zA0 (by decide +kernel)]
theorem tX {f:Addr} {fd:FuncData} (F:Fun K "op_value" "op_value" fZ f fd) (o7:Cal P w K mg base 2 "divided" ["first","second","p"] DN):FnOk P w K mg base CX0 3 f fd ["sign","first","second","p"] En:=by
 refine F.ok tG (fun vs H Q E h=>?_) (fun cdv A outer s H vs Q E hr h=>?_)
 . obtain⟨s,x,y,p,rfl,_⟩:=h;rfl
 obtain⟨s,x,y,p,rfl,hs,pp,p9,x0,x1,y0,y1,q⟩:=h;have p0:0<p:=by omega
 refine ⟨_,(ad (aS (am aZ (pv 0) aR (aq _)) (ah (az (aj bd (aj aU (pv 1) (pv 2)) (pv 3)))) aI)
  (ad (aS (am aZ (pv 0) aR (aq _)) (ah (az (aj bd (aj bm (pv 1) (pv 2)) (pv 3)))) aI)
  (ad (aS (am aZ (pv 0) aR (aq _)) (ah (az (aj bd (aj cq (pv 1) (pv 2)) (pv 3)))) aI)
  (ad (aS (am aZ (pv 0) aR (aq _)) (ah (az (au o7 hr (by decide) rfl (aa (pv 1) (aa (pv 2) (aa (pv 3) ae)))))) aI)
  (ad (aS (am aZ (pv 0) aR (aq _)) (ah (az (tS (am aZ (pv 1) (pv 2) (aq _)) af af))) aI)
  (ah (az (tS (am gO (pv 1) (pv 2) (aq _)) af af)))))))),?_⟩
 have hs':s="+"∨s="-"∨s="*"∨s="/"∨s="="∨s="<":=by simpa [Ai]using hs
 rcases hs' with rfl | rfl | rfl | rfl | rfl | rfl
 . rw[opV_1]at q;refine⟨_,rfl,rfl,_,rfl,bh rfl ?_⟩;exact⟨_,rfl,_,rfl,_,_,rfl,rfl,_,rfl,_,_,rfl,rfl,p0,q⟩
 . rw[opV_2]at q;refine⟨_,rfl,rfl,_,rfl,aF (neS (by decide +kernel)) ?_⟩;refine⟨_,rfl,rfl,_,rfl,bh rfl ?_⟩;exact⟨_,rfl,_,rfl,_,_,rfl,rfl,_,rfl,_,_,rfl,rfl,p0,q⟩
 . rw[opV_3]at q;refine⟨_,rfl,rfl,_,rfl,aF (neS (by decide +kernel)) ?_⟩;refine⟨_,rfl,rfl,_,rfl,aF (neS (by decide +kernel)) ?_⟩;refine⟨_,rfl,rfl,_,rfl,bh rfl ?_⟩;exact⟨_,rfl,_,rfl,_,_,rfl,rfl,.inl ⟨by omega,by omega⟩,_,rfl,_,_,rfl,rfl,p0,q⟩
 . rw[opV_4]at q;refine⟨_,rfl,rfl,_,rfl,aF (neS (by decide +kernel)) ?_⟩;refine⟨_,rfl,rfl,_,rfl,aF (neS (by decide +kernel)) ?_⟩;refine⟨_,rfl,rfl,_,rfl,aF (neS (by decide +kernel)) ?_⟩;refine⟨_,rfl,rfl,_,rfl,bh rfl ?_⟩;exact⟨_,rfl,_,rfl,_,rfl,x,y,p,rfl,pp,p9,x0,x1,y0,y1,q⟩
 . rw [opV_5]at q;refine⟨_,rfl,rfl,_,rfl,aF (neS (by decide +kernel)) ?_⟩;refine⟨_,rfl,rfl,_,rfl,aF (neS (by decide +kernel)) ?_⟩;refine⟨_,rfl,rfl,_,rfl,aF (neS (by decide +kernel)) ?_⟩;refine⟨_,rfl,rfl,_,rfl,aF (neS (by decide +kernel)) ?_⟩;refine⟨_,rfl,rfl,_,rfl,bh rfl ?_⟩;refine⟨_,rfl,_,rfl,rfl,_,rfl,?_⟩
   by_cases c:x=y
   . rw[zB0 c]at q;exact bh (congrArg V.int c) q
   . rw[zA0 c]at q;exact aF (fun z=>c (V.int.inj z)) q
 . rw [opV_6]at q;refine⟨_,rfl,rfl,_,rfl,aF (neS (by decide +kernel)) ?_⟩;refine⟨_,rfl,rfl,_,rfl,aF (neS (by decide +kernel)) ?_⟩;refine⟨_,rfl,rfl,_,rfl,aF (neS (by decide +kernel)) ?_⟩;refine⟨_,rfl,rfl,_,rfl,aF (neS (by decide +kernel)) ?_⟩;refine⟨_,rfl,rfl,_,rfl,aF (neS (by decide +kernel)) ?_⟩;refine⟨_,rfl,_,rfl,_,_,rfl,rfl,_,rfl,?_⟩
   by_cases c:x<y
   . rw[zB0 c]at q;exact bh c q
   . rw[zA0 c]at q;exact aF c q
theorem sf{X:Cx}{ss:List Stmt}{t t':TS}(h:PSs X ss t)(hw:∀D σ H,t' D σ H->t D σ H):PSs X ss t':=fun pins s σ H D I k=>h pins s σ H D I (hw _ _ _ k)
inductive Tm where
 | num (n:Int) | box (x:Str) | plain (w:Str) | ask (w:Str) (a:Tm) | op (s:Str) (a b:Tm)
def Tm.depth:Tm->Nat
 | .num _=>1 | .box _=>1 | .plain _=>1 | .ask _ a=>a.depth+1 | .op _ a b=>max a.depth b.depth+1
theorem Tm.depth_pos:∀t:Tm,1<=t.depth
 | .num _=>zG0 _ | .box _=>zG0 _ | .plain _=>zG0 _ | .ask _ a=>Nat.le_add_left .. | .op _ a b=>Nat.le_add_left ..
def vh:List Str:=["round","due","asked"]
def askW:List Str:=["coin","true"]
inductive TmAt(H:Hp):V->Tm->Prop
 | num {a:Addr} {n:Int}:H a=some (.tup [.str "num",.int n])->TmAt H (.ref a) (.num n)
 | box {a:Addr} {x:Str}:H a=some (.tup [.str "box",.str x])->TmAt H (.ref a) (.box x)
 | plain {a:Addr} {w:Str}:H a=some (.tup [.str w])->TmAt H (.ref a) (.plain w)
 | ask {a:Addr} {w:Str} {v:V} {t:Tm}:H a=some (.tup [.str w,v])->TmAt H v t->TmAt H (.ref a) (.ask w t)
 | op {a:Addr} {s:Str} {v u:V} {t r:Tm}:H a=some (.tup [.str "op",.str s,v,u])->TmAt H v t->TmAt H u r->TmAt H (.ref a) (.op s t r)
theorem TmAt.mono{H H':Hp}(k:cx H H'){v:V}{t:Tm}(h:TmAt H v t):TmAt H' v t:=by
 induction h with
 | num e=>exact .num (k _ _ e)
 | box e=>exact .box (k _ _ e)
 | plain e=>exact .plain (k _ _ e)
 | ask e _ ih=>exact .ask (k _ _ e) ih
 | op e _ _ i1 i2=>exact .op (k _ _ e) i1 i2
inductive Hr where
 | fin | go (n:Int) | iff (t:Tm) (n:Int) | set (x:Str) (t:Tm) | say (t:Tm)
inductive HrAt(H:Hp):V->Hr->Prop
 | fin {a:Addr}:H a=some (.tup [.str "end"])->HrAt H (.ref a) .fin
 | go {a:Addr} {n:Int}:H a=some (.tup [.str "go",.int n])->HrAt H (.ref a) (.go n)
 | iff {a:Addr} {v:V} {t:Tm} {n:Int}:H a=some (.tup [.str "if",v,.int n])->TmAt H v t->HrAt H (.ref a) (.iff t n)
 | set {a:Addr} {x:Str} {v:V} {t:Tm}:H a=some (.tup [.str "set",.str x,v])->TmAt H v t->HrAt H (.ref a) (.set x t)
 | say {a:Addr} {v:V} {t:Tm}:H a=some (.tup [.str "say",v])->TmAt H v t->HrAt H (.ref a) (.say t)
theorem HrAt.mono{H H':Hp}(k:cx H H'){v:V}{r:Hr}(h:HrAt H v r):HrAt H' v r:=by
 cases h with
 | fin e=>exact .fin (k _ _ e)
 | go e=>exact .go (k _ _ e)
 | iff e t=>exact .iff (k _ _ e) (t.mono k)
 | set e t=>exact .set (k _ _ e) (t.mono k)
 | say e t=>exact .say (k _ _ e) (t.mono k)
section
variable {CM CA CG:Addr}
abbrev ki:Stmt:=bY jy 0
abbrev iP:Stmt:=bY jy 1
abbrev kj:Stmt:=bY jy 2
abbrev gX:Stmt:=bY jy 3
abbrev kh:Stmt:=bY jy 4
abbrev jX:Stmt:=bY jY 0
abbrev mV:Stmt:=bY jY 1
abbrev mX:Stmt:=bY jY 2
def al (g:Addr) (nr mn hd s:Int) (aT:Addr) (tr:V):List (Str×V):=[("game",.ref g),("number",.int nr),("many",.int mn),("held",.int hd),("s",.int s),("tossed",.ref aT),("truths",tr)]
theorem sP {g:Addr} {nr mn hd s:Int} {aT:Addr} {tr:V}:(al g nr mn hd s aT tr).lookup ("game":Str)=some (.ref g):=by with_unfolding_all rfl
structure ATxt(K:W.Frag)(mg:Str->Option Value)(C:Addr):Prop where
 cl:Cls K C
 nG:NoAttr K C "game"
 nN:NoAttr K C "number"
 nM:NoAttr K C "many"
 nH:NoAttr K C "held"
 nS:NoAttr K C "s"
 nT:NoAttr K C "tossed"
 nR:NoAttr K C "truths"
 mgC:mg "Asking"=some (.ref C)
def ml (g h:Addr) (r:Int) (b:Addr):List (Str×V):=[("game",.ref g),("helper",.ref h),("next_round",.int r),("boxes",.ref b)]
section
variable {g h b:Addr} {r:Int}
theorem ml_g:(ml g h r b).lookup ("game":Str)=some (.ref g):=by with_unfolding_all rfl
theorem Dm:(ml g h r b).lookup ("helper":Str)=some (.ref h):=by with_unfolding_all rfl
theorem EJ:(ml g h r b).lookup ("next_round":Str)=some (.int r):=by with_unfolding_all rfl
theorem Bw:(ml g h r b).lookup ("boxes":Str)=some (.ref b):=by with_unfolding_all rfl
theorem ml_n1:(ml g h r b).lookup ("do_row":Str)=none:=by with_unfolding_all rfl
theorem ml_n2:(ml g h r b).lookup ("say":Str)=none:=by with_unfolding_all rfl
theorem vI:(ml g h r b).length<1000:=by show 4<1000;decide
theorem Bv {v:Int}:cf "next_round" (.int v) (ml g h r b)=ml g h v b:=by with_unfolding_all rfl
end
structure MTxt(K:W.Frag)(mg:Str->Option Value)(C:Addr):Prop where
 cl:Cls K C
 nG:NoAttr K C "game"
 nH:NoAttr K C "helper"
 nR:NoAttr K C "next_round"
 nB:NoAttr K C "boxes"
 mgC:mg "Machine"=some (.ref C)
def BxAt(H:Hp)(b:Addr)(bx:Str->Int)(m:Nat):Prop:=∃kvs:List (Key×V),H b=some (.dK kvs)/\kvs.length<=m/\∀x:Str,(hR kvs (.inr x)).getD (.int 0)=.int (bx x)
def jp(bx:Str->Int)(x:Str)(n:Int):Str->Int:=fun y=>if y=x then n else bx y
theorem BxAt.keep{H H':Hp}{b:Addr}{bx:Str->Int}{m:Nat}(h:BxAt H b bx m)(k:∀o,H b=some o->H' b=some o):BxAt H' b bx m:=by
 obtain⟨kvs,e,r⟩:=h;exact⟨kvs,k _ e,r⟩
theorem Fm{kvs:List (Key×V)}{bx:Str->Int}(x:Str)(n:Int)(h:∀x:Str,(hR kvs (.inr x)).getD (.int 0)=.int (bx x)):∀y:Str,(hR (lG kvs (.inr x) (.int n)) (.inr y)).getD (.int 0)=.int (jp bx x n y):=fun y=>by
 rw[zy];unfold jp
 by_cases c:y=x
 . rw[zB0 (by rw[c]),zB0 c];rfl
 . rw[zA0 (fun z=>c (Sum.inr.inj z)),zA0 c];exact h y
section
variable {g aT:Addr} {nr mn hd s:Int} {tr:V}
theorem Fp:(al g nr mn hd s aT tr).lookup ("number":Str)=some (.int nr):=by with_unfolding_all rfl
theorem al_m:(al g nr mn hd s aT tr).lookup ("many":Str)=some (.int mn):=by with_unfolding_all rfl
theorem al_h:(al g nr mn hd s aT tr).lookup ("held":Str)=some (.int hd):=by with_unfolding_all rfl
theorem al_s:(al g nr mn hd s aT tr).lookup ("s":Str)=some (.int s):=by with_unfolding_all rfl
theorem al_t:(al g nr mn hd s aT tr).lookup ("tossed":Str)=some (.ref aT):=by with_unfolding_all rfl
theorem DD:(al g nr mn hd s aT tr).lookup ("truths":Str)=some tr:=by with_unfolding_all rfl
theorem al_n1:(al g nr mn hd s aT tr).lookup ("plain_value":Str)=none:=by with_unfolding_all rfl
theorem al_n2:(al g nr mn hd s aT tr).lookup ("coin_at":Str)=none:=by with_unfolding_all rfl
theorem al_n3:(al g nr mn hd s aT tr).lookup ("true_numbers":Str)=none:=by with_unfolding_all rfl
theorem al_n4:(al g nr mn hd s aT tr).lookup ("true_at":Str)=none:=by with_unfolding_all rfl
theorem Ce {v:V}:cf "truths" v (al g nr mn hd s aT tr)=al g nr mn hd s aT v:=by with_unfolding_all rfl
theorem Cf:(al g nr mn hd s aT tr).length<1000:=by show 7<1000;decide
end
structure Ak where
 ns:List Str
 ts:List Tr
 p:Int
 nr:Int
 mn:Int
 hd:Int
 s:Int
 to:List Int
def Ak.tru (z:Ak):List Int:=if z.nr=0 then z.ts.map (fun t=>(cnt t z.ns:Int))else fE z.ns z.ts z.s z.p z.to (bj z.ts (z.ns.getD z.to.length "")+1).toNat
structure AkOk(z:Ak):Prop where
 gk:GmK z.ns z.ts z.p
 n6:z.ns.length<=6
 nr0:0<=z.nr
 nrt:0<z.nr->z.to.length<z.ns.length
 po:bV z.to z.p
 s0:0<=z.s
 s1:z.s<z.p
 h0:0<=z.hd
 h1:z.hd<z.p
 tl:z.to.length<=100
def AkAt(CA CG:Addr)(H:Hp)(k g v:Addr)(z:Ak):Prop:=∃(dk aT a b d:Addr)(tv:List V)(tr:V),H k=some (.ins CA dk (al g z.nr z.mn z.hd z.s aT tr))/\GameAt CG H g a b d z.p/\H a=some (.tup (z.ns.map V.str))/\H b=some (.tup tv)/\TreesAt H tv z.ts/\H d=some (.lst ((z.ns.map (bj z.ts)).map V.int))/\d≠v/\H aT=some (.tup (z.to.map V.int))/\(tr=.non∨∃l,tr=.ref l/\l≠v/\H l=some (.lst (z.tru.map V.int)))
theorem AkAt.same{H H':Hp}{k g v:Addr}{z:Ak}(h:AkAt CA CG H k g v z)(s:Same H H'):AkAt CA CG H' k g v z:=by
 obtain⟨dk,aT,a,b,d,tv,tr,h1,h2,h3,h4,h5,h6,h7,h8,h9⟩:=h;exact⟨dk,aT,a,b,d,tv,tr,s _ _ h1,h2.same s,s _ _ h3,s _ _ h4,h5.mono (aG s),s _ _ h6,h7,s _ _ h8,h9.imp_right fun⟨l,e,n,r⟩=>⟨l,e,n,s _ _ r⟩⟩
theorem AkAt.but2{H H':Hp}{k g v b:Addr}{z:Ak}{kvs:List (Key×V)}{ys:List V}(h:AkAt CA CG H k g v z)(hb:H b=some (.dK kvs))(hv:H v=some (.lst ys))(s:∀a o,a≠b->a≠v->H a=some o->H' a=some o):AkAt CA CG H' k g v z:=by
 obtain⟨dk,aT,a,b',d,tv,tr,h1,⟨dg,h2⟩,h3,h4,h5,h6,h7,h8,h9⟩:=h;have T:cx H H':=fun c xs e=>s _ _ (bz e hb (by intro z;cases z)) (bz e hv (by intro z;cases z)) e
 exact⟨dk,aT,a,b',d,tv,tr,s _ _ (bz h1 hb (by intro z;cases z)) (bz h1 hv (by intro z;cases z)) h1,⟨dg,s _ _ (bz h2 hb (by intro z;cases z)) (bz h2 hv (by intro z;cases z)) h2⟩,T _ _ h3,T _ _ h4,h5.mono T,s _ _ (bz h6 hb (by intro z;cases z)) h7 h6,h7,T _ _ h8,h9.imp_right fun⟨l,e,n,r⟩=>⟨l,e,n,s _ _ (bz r hb (by intro z;cases z)) n r⟩⟩
def kJ(z:Ak):List Int:=if 1<z.ts.length then z.s::z.to else z.to
def jM(z:Ak)(i:Int):Int:=if 1<=i/\i<=((kJ z).length:Int)then(kJ z).getD (i-1).toNat 0 else 0
def fJ(z:Ak)(i:Int):Int:=if 0<z.nr then val z.p z.tru i else if i<(z.tru.length:Int)then z.tru.getD i.toNat 0 % z.p else 0
def kW (z:Ak) (w:Str):Int:=if w="round" then z.nr % z.p else if w="asked" then z.mn % z.p else z.hd
theorem AkOk.p0{z:Ak}(k:AkOk z):2<z.p:=k.gk.p2
theorem jH{p:Int}{xs:List Int}(h:bV xs p)(p0:0<p)(i:Nat):0<=xs.getD i 0/\xs.getD i 0<p:=by
 rw[zS0];cases e:xs[i]? with
 | none=>exact⟨Int.le_refl 0,p0⟩
 | some x=>exact h x (qG0 e)
theorem BW{z:Ak}(k:AkOk z):bV (kJ z) z.p:=by
 unfold kJ
 split
 . intro x hx;rcases qD0 hx with rfl | hx
   . exact⟨k.s0,k.s1⟩
   . exact k.po x hx
 . exact k.po
theorem zn{z:Ak}(k:AkOk z)(i:Int):0<=jM z i/\jM z i<z.p:=by
 have:=k.p0
 unfold jM
 split
 . exact jH (BW k) (by omega) _
 . omega
theorem xW{z:Ak}(k:AkOk z)(i:Int):0<=fJ z i/\fJ z i<z.p:=by
 have:=k.p0
 unfold fJ
 split
 . exact⟨zX0 _ (by omega),qA0 _ (by omega)⟩
 . split
   . exact⟨zX0 _ (by omega),qA0 _ (by omega)⟩
   . omega
theorem vi{z:Ak}(k:AkOk z)(w:Str):0<=kW z w/\kW z w<z.p:=by
 have:=k.p0
 unfold kW
 split
 . exact⟨zX0 _ (by omega),qA0 _ (by omega)⟩
 . split
   . exact⟨zX0 _ (by omega),qA0 _ (by omega)⟩
   . exact⟨k.h0,k.h1⟩
def wE(CA CG:Addr):Sp:=fun vs H Q _=>∃(k g v:Addr)(z:Ak)(w:Str),vs=[.ref k,.str w]/\AkAt CA CG H k g v z/\0<z.p/\Q (.int (kW z w)) H
theorem yp:FnScope ["self","word"] ["self","word"] (ag iP):=⟨rfl,rfl,rfl,by decide +kernel,rfl,by decide +kernel,by decide +kernel⟩
theorem yI {f:Addr} {fd:FuncData} (F:Fun K "plain_value" "Asking.plain_value" iP f fd) (TA:ATxt K mg CA) (TG:GTxt K mg CG):FnOk P w K mg base CX0 1 f fd ["self","word"] (wE CA CG):=by
 refine F.ok yp (fun vs H Q E h=>?_) (fun cdv A outer s H vs Q E hr h=>?_)
 . obtain⟨k,g,v,z,w,rfl,_⟩:=h;rfl
 obtain ⟨k,g,v,z,w,rfl,⟨dk,aT,a,b,d,tv,tr,hk,⟨dg,hg⟩,_⟩,p0,q⟩:=h;refine⟨_,(ad (aS (am aZ (pv 1) aR (aq _)) (ah (az (aj bd (ax (pv 0) rfl) (ax (ax (pv 0) rfl) rfl)))) aI)
  (ad (aS (am aZ (pv 1) aR (aq _)) (ah (az (aj bd (ax (pv 0) rfl) (ax (ax (pv 0) rfl) rfl)))) aI)
  (ah (az (ax (pv 0) rfl))))),?_⟩
 unfold kW at q;refine⟨_,rfl,rfl,_,rfl,?_⟩
 by_cases c:w="round"
 . rw[zB0 c]at q;refine bh (congrArg V.str c) ?_;exact⟨_,rfl,k,CA,dk,_,_,rfl,hk,TA.cl,TA.nN,Fp,_,rfl,k,CA,dk,_,_,rfl,hk,TA.cl,TA.nG,sP,g,CG,dg,_,_,rfl,hg,TG.cl,TG.nF,ig ..,_,_,rfl,rfl,p0,q⟩
 . rw [zA0 c]at q;refine aF (neS c) ?_;refine⟨_,rfl,rfl,_,rfl,?_⟩
   by_cases c:w="asked"
   . rw[zB0 c]at q;refine bh (congrArg V.str c) ?_;exact⟨_,rfl,k,CA,dk,_,_,rfl,hk,TA.cl,TA.nM,al_m,_,rfl,k,CA,dk,_,_,rfl,hk,TA.cl,TA.nG,sP,g,CG,dg,_,_,rfl,hg,TG.cl,TG.nF,ig ..,_,_,rfl,rfl,p0,q⟩
   . rw[zA0 c]at q;refine aF (neS c) ?_;exact⟨_,rfl,k,CA,dk,_,_,rfl,hk,TA.cl,TA.nH,al_h,q⟩
def tD(CA CG:Addr):Sp:=fun vs H Q _=>∃(k g v:Addr)(z:Ak)(i:Int),vs=[.ref k,.int i]/\AkAt CA CG H k g v z/\z.to.length<=100/\∀H',Same H H'->Q (.int (jM z i)) H'
theorem v3:FnScope ["self","place","tossed"] ["self","place"] (ag kj):=⟨rfl,rfl,rfl,by decide +kernel,rfl,by decide +kernel,by decide +kernel⟩
def Em(z:Ak):TS:=fun Dn σ H=>∃(x0:Option V)(a:Addr)(i:Int),σ=[x0,some (.int i),some (.ref a)]/\H a=some (.tup ((kJ z).map V.int))/\Dn.rt (.int (jM z i)) H
theorem Bi {f:Addr} {fd:FuncData} (F:Fun K "coin_at" "Asking.coin_at" kj f fd) (B:Bl mg) (TA:ATxt K mg CA) (TG:GTxt K mg CG):FnOk P w K mg base CX0 1 f fd ["self","place"] (tD CA CG):=by
 refine F.ok v3 (fun vs H Q E h=>?_) (fun cdv A outer s H vs Q E hr h=>?_)
 . obtain⟨k,g,v,z,i,rfl,_⟩:=h;rfl
 obtain ⟨k,g,v,z,i,rfl,⟨dk,aT,a,b,d,tv,tr,hk,⟨dg,hg⟩,ha,hb,TS,_,_,hT,_⟩,tl,q⟩:=h;have vl:=TS.length;refine⟨_,(ad (ao (i:=2) v3.nd rfl (Or.inl rfl) (ax (pv 0) rfl))
  (ad (aS (am ic (aJ aE rfl B.len PySem.boot_len (aa (ax (ax (pv 0) rfl) rfl) ae)) af (aq _)) (ah (ao (i:=2) v3.nd rfl (Or.inl rfl) (aj op_catT (bc (aa (ax (pv 0) rfl) ae)) (pv 2)))) aI)
  (sf (t':=Em z) (ad (aS (AE pV pV af (pv 1) (aJ aE rfl B.len PySem.boot_len (aa (pv 2) ae))) (ah (az (aP ix_tup (pv 2) (aj bm (pv 1) af) (fun _ _=>rfl)))) aI)
  (ah (az af))) (by
   rintro Dn σ H ⟨x0,a,i,rfl,ha,q⟩;unfold jM at q;refine⟨_,rfl,_,_,rfl,rfl,_,rfl,?_⟩;have el:(((kJ z).map V.int).length:Int)=((kJ z).length:Int):=by rw[zE0]
   by_cases c1:1<=i
   . refine bh c1 ?_;refine⟨_,rfl,a,_,rfl,.inr (zC0 ha),_,_,rfl,rfl,_,rfl,?_⟩
     by_cases c2:i<=((kJ z).length:Int)
     . rw [zB0 ⟨c1,c2⟩]at q;refine bh (by rw[el];exact c2) ?_;obtain⟨j,ej⟩:∃j:Nat,i-1=(j:Int):=⟨(i-1).toNat,by omega⟩
       rw[ej,qT0]at q;refine⟨_,rfl,_,rfl,_,_,rfl,rfl,a,_,_,_,rfl,rfl,zC0 ha,?_,q⟩;rw[ej];exact lV (by omega)
     . rw[zA0 (fun z=>c2 z.2)]at q;exact aF (by rw[el];exact c2) q
   . rw[zA0 (fun z=>c1 z.1)]at q;exact aF c1 ⟨_,rfl,gJ q⟩)))),?_⟩
 refine⟨_,rfl,k,CA,dk,_,_,rfl,hk,TA.cl,TA.nT,al_t,?_⟩;refine⟨_,rfl,k,CA,dk,_,_,rfl,hk,TA.cl,TA.nG,sP,g,CG,dg,_,_,rfl,hg,TG.cl,TG.nT,lY ..,b,_,rfl,.inr (zC0 hb),_,_,rfl,rfl,_,rfl,?_⟩
 by_cases c:1<z.ts.length
 . refine bh (by rw[vl];omega) ?_;have ec:kJ z=z.s::z.to:=zB0 c;refine⟨_,rfl,k,CA,dk,_,_,rfl,hk,TA.cl,TA.nS,al_s,(by show 1<=sizeLine;decide),fun t ht=>?_⟩;have I:=zD0 ht (.tup [.int z.s]);have g1:upd H t (.tup [.int z.s]) t=some (.tup [.int z.s]):=ai;generalize upd H t (.tup [.int z.s])=H1 at I g1;refine⟨_,rfl,t,aT,_,_,rfl,rfl,zC0 g1,zC0 (I _ _ hT),(fun z=>nomatch z),dX (by show 1+(z.to.map V.int).length<=1000;rw[zE0];omega),fun e=>?_,fun _ y hy=>?_⟩
   . refine⟨_,t,i,rfl,?_,q _ I⟩;rw[ec,g1,zZ0,e]
   . refine⟨_,y,i,rfl,?_,q _ (I.trans (zD0 hy _))⟩;rw[ai,ec];rfl
 . refine aF (by rw[vl];omega) ?_;have ec:kJ z=z.to:=zA0 c;exact⟨_,aT,i,rfl,by rw[ec];exact hT,q _ fun _ _ e=>e⟩
end
section
variable {CM CA CG:Addr}
theorem tL(ns:List Str)(ts:List Tr)(s p:Int)(cs:List Int)(n:Nat):(fE ns ts s p cs n).length=n:=by
 unfold fE;rw[zE0,qQ0]
theorem tK{ns:List Str}{ts:List Tr}{s p:Int}{cs:List Int}{n:Nat}(hp:0<p):bV (fE ns ts s p cs n) p:=fun x hx=>by
 unfold fE at hx;obtain⟨k,_,rfl⟩:=List.mem_map.mp hx;exact⟨zX0 _ (by omega),qA0 _ hp⟩
theorem AkOk.deg {z:Ak} (k:AkOk z) (h:0<z.nr):∃x,z.ns[z.to.length]?=some x/\z.ns.getD z.to.length ""=x/\0<=bj z.ts x/\bj z.ts x<z.p/\bj z.ts x<=400:=by
 have hl:=k.nrt h;refine⟨z.ns[z.to.length],zK0 hl,by rw[zS0,zK0 hl];rfl,?_⟩;have hm:=qL0 hl;obtain⟨d0,d1⟩:=k.gk.deg _ hm;refine⟨d0,d1,?_⟩;have t0:z.ts≠[]:=fun e=>by have:=k.gk.t1;rw[e]at this;cases this
 have:=me (p:=401) (x:=z.ns[z.to.length]) t0 fun t ht=>by
  have h1:=(k.gk.tok t ht).2.2.2;have h2:=t.names_len;have h3:=List.count_le_length (a:=z.ns[z.to.length]) (l:=t.names);omega
 omega
theorem AkOk.row{z:Ak}(k:AkOk z)(h:0<z.nr):kK z.tru z.p:=by
 obtain ⟨x,hx,ex,d0,d1,d4⟩:=k.deg h;have p2:=k.p0;have p9:=k.gk.p9;have e:z.tru=fE z.ns z.ts z.s z.p z.to (bj z.ts x+1).toNat:=by
  unfold Ak.tru;rw[zA0 (by omega),ex]
 rw[e];unfold kK;rw[tL];refine⟨by omega,by omega,by omega,fun j=>?_⟩
 have:=jH (tK (ns:=z.ns) (ts:=z.ts) (s:=z.s) (cs:=z.to) (n:=(bj z.ts x+1).toNat) (show 0<z.p by omega)) (by omega) j
 omega
def sX(CA CG:Addr):Sp:=fun vs H Q _=>∃(k g v:Addr)(z:Ak)(ys:List V),vs=[.ref k]/\AkAt CA CG H k g v z/\AkOk z/\H v=some (.lst ys)/\∀(l:Addr)(H':Hp),H' l=some (.lst (z.tru.map V.int))->AkAt CA CG H' k g v z->SameBut k H H'->Q (.ref l) H'
theorem vc:FnScope ["self"] ["self"] (ag gX):=⟨rfl,rfl,rfl,by decide +kernel,rfl,by decide +kernel,by decide +kernel⟩
theorem vA {f:Addr} {fd:FuncData} (F:Fun K "true_numbers" "Asking.true_numbers" gX f fd) (TA:ATxt K mg CA) (kH:Cal P w K mg base 16 "counts_of" ["game"] (tu CG)) (m8:Cal P w K mg base 14 "true_row" ["game","s","coins"] (zQ CG)):FnOk P w K mg base CX0 17 f fd ["self"] (sX CA CG):=by
 refine F.ok vc (fun vs H Q E h=>?_) (fun cdv A outer s H vs Q E hr h=>?_)
 . obtain⟨k,g,v,z,ys,rfl,_⟩:=h;rfl
 obtain ⟨k,g,v,z,ys,rfl,AK,ok,hv,q⟩:=h;refine⟨_,(ad (aS (am AU (ax (pv 0) rfl) pR (aq _)) (ah (aS (am aZ (ax (pv 0) rfl) af (aq _)) (ah (aX (pv 0) (au kH hr (by decide) rfl (aa (ax (pv 0) rfl) ae)) rfl)) (ah (aX (pv 0) (au m8 hr (by decide) rfl (aa (ax (pv 0) rfl) (aa (ax (pv 0) rfl) (aa (ax (pv 0) rfl) ae)))) rfl)))) aI)
  (ah (az (ax (pv 0) rfl)))),?_⟩
 have AK':=AK;obtain⟨dk,aT,a,b,d,tv,tr,hk,GA,ha,hb,TS,hd,dv,hT,ht⟩:=AK';have t0:z.ts≠[]:=fun e=>by have:=ok.gk.t1;rw[e]at this;cases this
 have t10:=ok.gk.t10;have p2:=ok.p0;have p9:=ok.gk.p9;refine⟨_,rfl,k,CA,dk,_,_,rfl,hk,TA.cl,TA.nR,DD,?_⟩;rcases ht with rfl | ⟨l,rfl,lv,hl⟩
 . -- not yet asked
   have put:∀(l:Addr)(H1:Hp),H l=none->Same H H1->H1 l=some (.lst (z.tru.map V.int))->AkAt CA CG (upd H1 k (.ins CA dk (al g z.nr z.mn z.hd z.s aT (.ref l)))) k g v z/\(upd H1 k (.ins CA dk (al g z.nr z.mn z.hd z.s aT (.ref l)))) l=some (.lst (z.tru.map V.int))/\SameBut k H (upd H1 k (.ins CA dk (al g z.nr z.mn z.hd z.s aT (.ref l)))):=by
    intro l H1 l0 S1 hl;have lk:l≠k:=(aO hk l0).symm;have U:∀{c:Addr}{o:HO},c≠k->H1 c=some o->(upd H1 k (.ins CA dk (al g z.nr z.mn z.hd z.s aT (.ref l)))) c=some o:=fun n e=>by rw[ay n];exact e
    have gk:g≠k:=fun e=>by
     obtain⟨dg,hg⟩:=GA;rw[e,hk]at hg;cases hg
    have kT:cx H (upd H1 k (.ins CA dk (al g z.nr z.mn z.hd z.s aT (.ref l)))):=fun c xs e=>U (bz e hk (by intro z;cases z)) (S1 _ _ e)
    obtain⟨dg,hg⟩:=GA;exact⟨⟨dk,aT,a,b,d,tv,.ref l,ai,⟨dg,U gk (S1 _ _ hg)⟩,kT _ _ ha,kT _ _ hb,TS.mono kT,U (bz hd hk (by intro z;cases z)) (S1 _ _ hd),dv,kT _ _ hT,.inr ⟨l,rfl,(aO hv l0).symm,U lk hl⟩⟩,U lk hl,(zJ0 S1).trans (SameBut.upd _)⟩
   refine⟨rfl,_,rfl,ji ?_⟩;refine⟨_,rfl,k,CA,dk,_,_,rfl,hk,TA.cl,TA.nN,Fp,rfl,_,rfl,?_⟩
   by_cases c:z.nr=0
   . refine bh (congrArg V.int c) ?_;refine⟨_,rfl,k,CA,dk,_,_,rfl,hk,TA.cl,TA.nG,sP,g,a,b,d,z.ns,tv,z.ts,z.p,rfl,GA,ha,ok.n6,hb,TS,t10,fun t ht=>⟨(ok.gk.tok t ht).1,by have:=(ok.gk.tok t ht).2.2.1;omega⟩,fun l H1 l0 S1 hl=>?_⟩;have et:z.tru=z.ts.map (fun t=>(cnt t z.ns:Int)):=zB0 c;rw[←et]at hl;obtain⟨A1,L1,B1⟩:=put l H1 l0 S1 hl;refine⟨_,rfl,k,CA,dk,_,rfl,S1 _ _ hk,TA.cl,TA.nR,Cf,?_⟩;rw[Ce];exact⟨_,rfl,k,CA,dk,_,_,rfl,ai,TA.cl,TA.nR,DD,q l _ L1 A1 B1⟩
   . refine aF (fun e=>c (V.int.inj e)) ?_;have n0:=ok.nr0;obtain⟨x,hx,ex,d0,d1,d4⟩:=ok.deg (by omega);refine⟨_,rfl,k,CA,dk,_,_,rfl,hk,TA.cl,TA.nG,sP,_,rfl,k,CA,dk,_,_,rfl,hk,TA.cl,TA.nS,al_s,_,rfl,k,CA,dk,_,_,rfl,hk,TA.cl,TA.nT,al_t,g,a,b,d,aT,z.ns,tv,z.ts,z.to,x,z.s,z.p,rfl,GA,ha,ok.n6,hb,TS,t0,t10,fun t ht=>⟨(ok.gk.tok t ht).1,(ok.gk.tok t ht).2.2.1⟩,hd,hT,hx,d1,by omega,ok.po,by omega,by omega,fun l H1 l0 S1 hl=>?_⟩;have et:z.tru=fE z.ns z.ts z.s z.p z.to (bj z.ts x+1).toNat:=by
      unfold Ak.tru;rw[zA0 c,ex]
     rw[←et]at hl;obtain⟨A1,L1,B1⟩:=put l H1 l0 S1 hl;refine⟨_,rfl,k,CA,dk,_,rfl,S1 _ _ hk,TA.cl,TA.nR,Cf,?_⟩;rw[Ce];exact⟨_,rfl,k,CA,dk,_,_,rfl,ai,TA.cl,TA.nR,DD,q l _ L1 A1 B1⟩
 . refine⟨rfl,_,rfl,gJ ?_⟩;exact⟨_,rfl,k,CA,dk,_,_,rfl,hk,TA.cl,TA.nR,DD,q l H hl AK (SameBut.refl _ _)⟩
def sY(CA CG:Addr):Sp:=fun vs H Q _=>∃(k g v:Addr)(z:Ak)(ys:List V)(i:Int),vs=[.ref k,.int i]/\AkAt CA CG H k g v z/\AkOk z/\H v=some (.lst ys)/\0<=i/\i<z.p/\∀H',AkAt CA CG H' k g v z->SameBut k H H'->Q (.int (fJ z i)) H'
theorem FC:FnScope ["self","place","truths"] ["self","place"] (ag kh):=⟨rfl,rfl,rfl,by decide +kernel,rfl,by decide +kernel,by decide +kernel⟩
theorem Bg {f fT:Addr} {fd fdT:FuncData} (F:Fun K "true_at" "Asking.true_at" kh f fd) (B:Bl mg) (TA:ATxt K mg CA) (TG:GTxt K mg CG) (mT:Meth K CA "true_numbers" fT) (GT:FnOk P w K mg base CX0 17 fT fdT ["self"] (sX CA CG)) (bT:Binds K fdT ["self"] []) (b9:Cal P w K mg base 4 "value_at" ["values","r","p"] qN):FnOk P w K mg base CX0 18 f fd ["self","place"] (sY CA CG):=by
 refine F.ok FC (fun vs H Q E h=>?_) (fun cdv A outer s H vs Q E hr h=>?_)
 . obtain⟨k,g,v,z,ys,i,rfl,_⟩:=h;rfl
 obtain ⟨k,g,v,z,ys,i,rfl,AK,ok,hv,i0,i1,q⟩:=h;refine⟨_,(ad (ao (i:=2) FC.nd rfl (Or.inl rfl) (cK (pv 0) TA.cl mT GT hr bT .nil bQ))
  (ad (aS (am ic (ax (pv 0) rfl) af (aq _)) (ah (az (au b9 hr (by decide) rfl (aa (pv 2) (aa (pv 1) (aa (ax (ax (pv 0) rfl) rfl) ae)))))) aI)
  (ad (aS (am gO (pv 1) (aJ aE rfl B.len PySem.boot_len (aa (pv 2) ae)) (aq _)) (ah (az (aj bd (aP ix_list (pv 2) (pv 1) (fun _ _=>rfl)) (ax (ax (pv 0) rfl) rfl)))) aI)
  (ah (az af))))),?_⟩
 have p2:=ok.p0;have p9:=ok.gk.p9;obtain⟨dk,aT,_,_,_,_,tr,hk,_⟩:=id AK;refine⟨_,rfl,k,dk,_,rfl,hk,al_n3,k,g,v,z,ys,rfl,AK,ok,hv,fun l H1 hl A1 S1=>?_⟩;have A1':=A1;obtain⟨dk1,aT1,a1,b1,d1,tv1,tr1,hk1,⟨dg1,hg1⟩,_⟩:=A1';unfold fJ at q;refine⟨_,rfl,k,CA,dk1,_,_,rfl,hk1,TA.cl,TA.nN,Fp,_,_,rfl,rfl,_,rfl,?_⟩
 by_cases c:0<z.nr
 . rw[zB0 c]at q;refine bh c ?_;exact⟨_,rfl,_,rfl,_,rfl,k,CA,dk1,_,_,rfl,hk1,TA.cl,TA.nG,sP,g,CG,dg1,_,_,rfl,hg1,TG.cl,TG.nF,ig ..,l,z.tru,i,z.p,rfl,.inl hl,ok.row c,ok.gk.pr,p9,i0,i1,fun H2 S2=>q H2 (A1.same S2) (S1.trans (zJ0 S2))⟩
 . rw [zA0 c]at q;refine aF c ?_;refine⟨_,rfl,_,rfl,l,_,rfl,.inl (zH0 hl),_,_,rfl,rfl,_,rfl,?_⟩;have el:((z.tru.map V.int).length:Int)=(z.tru.length:Int):=by rw[zE0]
   by_cases c2:i<(z.tru.length:Int)
   . rw[zB0 c2]at q;refine bh (by rw[el];exact c2) ?_;obtain⟨j,rfl⟩:=Int.eq_ofNat_of_zero_le i0;rw[qT0]at q;exact⟨_,rfl,_,rfl,l,_,_,_,rfl,rfl,zH0 hl,lV (by omega),_,rfl,k,CA,dk1,_,_,rfl,hk1,TA.cl,TA.nG,sP,g,CG,dg1,_,_,rfl,hg1,TG.cl,TG.nF,ig ..,_,_,rfl,rfl,(by show 0<z.p;omega),q H1 A1 S1⟩
   . rw[zA0 c2]at q;refine aF (by rw[el];exact c2) ?_;exact q H1 A1 S1
noncomputable def Tm.worth(z:Ak)(bx:Str->Int):Tm->Int
 | .num n=>n % z.p | .box x=>bx x | .plain w=>kW z w
 | .ask w a=>if w="coin" then jM z (a.worth z bx)else fJ z (a.worth z bx)
 | .op s a b=>opV z.p s (a.worth z bx) (b.worth z bx)
def Tm.good:Tm->Prop
 | .num _=>True | .box _=>True | .plain w=>w∈vh | .ask w a=>w∈askW/\a.good | .op s a b=>s∈Ai/\a.good/\b.good
def jO(p:Int)(bx:Str->Int):Prop:=∀x,0<=bx x/\bx x<p
theorem Tm.worth_rng{z:Ak}{bx:Str->Int}(k:AkOk z)(hb:jO z.p bx):∀t:Tm,0<=t.worth z bx/\t.worth z bx<z.p
 | .num n=>by have:=k.p0;exact⟨zX0 _ (by omega),qA0 _ (by omega)⟩
 | .box x=>hb x
 | .plain w=>vi k w
 | .ask w a=>by
   show 0<=(if w="coin" then jM z (a.worth z bx)else fJ z (a.worth z bx))/\(if w="coin" then jM z (a.worth z bx)else fJ z (a.worth z bx))<z.p
   split
   . exact zn k _
   . exact xW k _
 | .op s a b=>by have:=k.p0;exact CY (by omega)
def yd(CA CG:Addr)(n:Nat):Sp:=fun vs H Q _=>∃(v:V)(t:Tm)(b k g sd:Addr)(z:Ak)(ys:List V)(bx:Str->Int)(m:Nat),vs=[v,.ref b,.ref k]/\TmAt H v t/\t.good/\t.depth<=n/\BxAt H b bx m/\jO z.p bx/\AkAt CA CG H k g sd z/\AkOk z/\H sd=some (.lst ys)/\
 ∀H',AkAt CA CG H' k g sd z->SameBut k H H'->Q (.int (t.worth z bx)) H'
theorem iY:FnScope ["term","boxes","asking","word","first","second"] ["term","boxes","asking"] (ag eC):=⟨rfl,rfl,rfl,by decide +kernel,rfl,by decide +kernel,by decide +kernel⟩
structure AskF(P:Program)(w:World)(K:W.Frag)(mg:Str->Option Value)(base:Heap)(CA CG fP fC fR:Addr)(fdP fdC fdR:FuncData):Prop where
 mP:Meth K CA "plain_value" fP
 GP:FnOk P w K mg base CX0 1 fP fdP ["self","word"] (wE CA CG)
 bP:Binds K fdP ["self","word"] []
 mC:Meth K CA "coin_at" fC
 GC:FnOk P w K mg base CX0 1 fC fdC ["self","place"] (tD CA CG)
 bC:Binds K fdC ["self","place"] []
 mR:Meth K CA "true_at" fR
 GR:FnOk P w K mg base CX0 18 fR fdR ["self","place"] (sY CA CG)
 bR:Binds K fdR ["self","place"] []
theorem zx {n:Nat} {f fP fC fR:Addr} {fd fdP fdC fdR:FuncData} (F:Fun K "value_of" "value_of" eC f fd) (TA:ATxt K mg CA) (TG:GTxt K mg CG) (M:AskF P w K mg base CA CG fP fC fR fdP fdC fdR) (gy:Cal P w K mg base 3 "op_value" ["sign","first","second","p"] En) (cI:Cal P w K mg base (n+18) "value_of" ["term","boxes","asking"] (yd CA CG n)):FnOk P w K mg base CX0 (n+19) f fd ["term","boxes","asking"] (yd CA CG (n+1)):=by
 refine F.ok iY (fun vs H Q E h=>?_) (fun cdv A outer s H vs Q E hr h=>?_)
 . obtain⟨v,t,b,k,g,sd,z,ys,bx,m,rfl,_⟩:=h;rfl
 obtain ⟨v,t,b,k,g,sd,z,ys,bx,m,rfl,T,tg,td,BX,bo,AK,ok,hs,q⟩:=h;have hu:=DY hr;have hr1:Room 1 _:=hr.mono (by omega);have hr18:Room 18 _:=hr.mono (by omega);refine⟨_,(ad (ao (i:=3) iY.nd rfl (Or.inl rfl) (aP ix_tup (pv 0) af (fun _ _=>rfl)))
  (ad (aS (am aZ (pv 3) aR (aq _)) (ah (az (aj bd (aP ix_tup (pv 0) af (fun _ _=>rfl)) (ax (ax (pv 2) rfl) rfl)))) aI)
  (ad (aS (am aZ (pv 3) aR (aq _)) (ah (az (AO hu (pv 1) (aP ix_tup (pv 0) af (fun _ _=>rfl)) af ⟨rfl,rfl,rfl,rfl⟩))) aI)
  (ad (aS (am aZ (pv 3) aR (aq _)) (ah (az (db (pv 2) TA.cl M.mC M.GC hr1 M.bC .nil bQ (aa (au cI hr (zG0 _) rfl (aa (aP ix_tup (pv 0) af (fun _ _=>rfl)) (aa (pv 1) (aa (pv 2) ae)))) ae)))) aI)
  (ad (aS (am aZ (pv 3) aR (aq _)) (ah (az (db (pv 2) TA.cl M.mR M.GR hr18 M.bR .nil bQ (aa (au cI hr (zG0 _) rfl (aa (aP ix_tup (pv 0) af (fun _ _=>rfl)) (aa (pv 1) (aa (pv 2) ae)))) ae)))) aI)
  (ad (aS (am aZ (pv 3) aR (aq _)) (ad (ao (i:=4) iY.nd rfl (Or.inl rfl) (au cI hr (zG0 _) rfl (aa (aP ix_tup (pv 0) af (fun _ _=>rfl)) (aa (pv 1) (aa (pv 2) ae)))))
   (ad (ao (i:=5) iY.nd rfl (Or.inl rfl) (au cI hr (zG0 _) rfl (aa (aP ix_tup (pv 0) af (fun _ _=>rfl)) (aa (pv 1) (aa (pv 2) ae)))))
   (ah (az (au gy hr (by omega) rfl (aa (aP ix_tup (pv 0) af (fun _ _=>rfl)) (aa (pv 4) (aa (pv 5) (aa (ax (ax (pv 2) rfl) rfl) ae))))))))) aI)
  (ah (az (db (pv 2) TA.cl M.mP M.GP hr1 M.bP .nil bQ (aa (pv 3) ae)))))))))),?_⟩
 have AK':=AK;obtain⟨dk,aT,ga,gb,gd,tv,tr,hk,⟨dg,hg⟩,_⟩:=AK';have p2:=ok.p0;have p0:0<z.p:=by omega
 have kT:∀{H':Hp},SameBut k H H'->cx H H':=fun s c xs e=>s _ _ (bz e hk (by intro z;cases z)) e
 have kB:∀{H':Hp},SameBut k H H'->BxAt H' b bx m:=fun s=>BX.keep fun o e=>s _ _ (by
  obtain⟨kvs,e',_⟩:=BX;exact bz e' hk (by intro z;cases z)) e
 have kS:∀{H':Hp},SameBut k H H'->H' sd=some (.lst ys):=fun s=>s _ _ (bz hs hk (by intro z;cases z)) hs
 cases T with
 | @num a n e=>
   refine⟨_,rfl,a,_,0,_,rfl,rfl,zC0 e,rfl,?_⟩;refine⟨_,rfl,rfl,_,rfl,bh rfl ?_⟩;exact⟨_,rfl,a,_,1,_,rfl,rfl,zC0 e,rfl,_,rfl,k,CA,dk,_,_,rfl,hk,TA.cl,TA.nG,sP,g,CG,dg,_,_,rfl,hg,TG.cl,TG.nF,ig ..,_,_,rfl,rfl,p0,q H AK (SameBut.refl _ _)⟩
 | @box a x e=>
   refine⟨_,rfl,a,_,0,_,rfl,rfl,zC0 e,rfl,?_⟩;refine⟨_,rfl,rfl,_,rfl,aF (neS (by decide +kernel)) ?_⟩;refine⟨_,rfl,rfl,_,rfl,bh rfl ?_⟩;obtain⟨kvs,hb,_,hx⟩:=BX;refine⟨_,rfl,b,rfl,.inl ⟨kvs,.inl hb⟩,_,rfl,a,_,1,_,rfl,rfl,zC0 e,rfl,_,DGet.k (k:=.inr x) hb,?_⟩;rw[hx];exact q H AK (SameBut.refl _ _)
 | @plain a wd e=>
   have no:∀x:Str,x∉vh->¬ V.str wd=V.str x:=fun x hx e=>hx (by rw[←V.str.inj e];exact tg)
   refine⟨_,rfl,a,_,0,_,rfl,rfl,zC0 e,rfl,?_⟩;refine⟨_,rfl,rfl,_,rfl,aF (no _ (by decide +kernel)) ?_⟩;refine⟨_,rfl,rfl,_,rfl,aF (no _ (by decide +kernel)) ?_⟩;refine⟨_,rfl,rfl,_,rfl,aF (no _ (by decide +kernel)) ?_⟩;refine⟨_,rfl,rfl,_,rfl,aF (no _ (by decide +kernel)) ?_⟩;refine⟨_,rfl,rfl,_,rfl,aF (no _ (by decide +kernel)) ?_⟩;exact⟨_,rfl,k,dk,_,rfl,hk,al_n1,_,rfl,k,g,sd,z,wd,rfl,AK,p0,q H AK (SameBut.refl _ _)⟩
 | @ask a wd v1 t1 e T1=>
   obtain⟨wq,tq⟩:=tg;have hw:wd="coin"∨wd="true":=by simpa [askW]using wq
   have d1:t1.depth<=n:=by have:t1.depth+1<=n+1:=td;omega
   have wr:=Tm.worth_rng ok bo t1;refine⟨_,rfl,a,_,0,_,rfl,rfl,zC0 e,rfl,?_⟩;rcases hw with rfl | rfl
   . refine⟨_,rfl,rfl,_,rfl,aF (neS (by decide +kernel)) ?_⟩;refine⟨_,rfl,rfl,_,rfl,aF (neS (by decide +kernel)) ?_⟩;refine⟨_,rfl,rfl,_,rfl,bh rfl ?_⟩;refine⟨_,rfl,k,dk,_,rfl,hk,al_n2,_,rfl,a,_,1,_,rfl,rfl,zC0 e,rfl,_,rfl,_,rfl,v1,t1,b,k,g,sd,z,ys,bx,m,rfl,T1,tq,d1,BX,bo,AK,ok,hs,fun H1 A1 S1=>?_⟩;refine⟨k,g,sd,z,_,rfl,A1,ok.tl,fun H2 S2=>?_⟩;have qq:=q H2 (A1.same S2) (S1.trans (zJ0 S2));have e1:(Tm.ask "coin" t1).worth z bx=jM z (t1.worth z bx):=zB0 rfl;rw[e1]at qq;exact qq
   . refine⟨_,rfl,rfl,_,rfl,aF (neS (by decide +kernel)) ?_⟩;refine⟨_,rfl,rfl,_,rfl,aF (neS (by decide +kernel)) ?_⟩;refine⟨_,rfl,rfl,_,rfl,aF (neS (by decide +kernel)) ?_⟩;refine⟨_,rfl,rfl,_,rfl,bh rfl ?_⟩;refine⟨_,rfl,k,dk,_,rfl,hk,al_n4,_,rfl,a,_,1,_,rfl,rfl,zC0 e,rfl,_,rfl,_,rfl,v1,t1,b,k,g,sd,z,ys,bx,m,rfl,T1,tq,d1,BX,bo,AK,ok,hs,fun H1 A1 S1=>?_⟩;refine⟨k,g,sd,z,ys,_,rfl,A1,ok,kS S1,wr.1,wr.2,fun H2 A2 S2=>?_⟩;have qq:=q H2 A2 (S1.trans S2);have e1:(Tm.ask "true" t1).worth z bx=fJ z (t1.worth z bx):=zA0 (by decide +kernel);rw[e1]at qq;exact qq
 | @op a o v1 v2 t1 t2 e T1 T2=>
   obtain⟨oq,q1,q2⟩:=tg;have d1:t1.depth<=n:=by have:max t1.depth t2.depth+1<=n+1:=td;omega
   have d2:t2.depth<=n:=by have:max t1.depth t2.depth+1<=n+1:=td;omega
   have w1:=Tm.worth_rng ok bo t1;have w2:=Tm.worth_rng ok bo t2;refine⟨_,rfl,a,_,0,_,rfl,rfl,zC0 e,rfl,?_⟩;refine⟨_,rfl,rfl,_,rfl,aF (neS (by decide +kernel)) ?_⟩;refine⟨_,rfl,rfl,_,rfl,aF (neS (by decide +kernel)) ?_⟩;refine⟨_,rfl,rfl,_,rfl,aF (neS (by decide +kernel)) ?_⟩;refine⟨_,rfl,rfl,_,rfl,aF (neS (by decide +kernel)) ?_⟩;refine⟨_,rfl,rfl,_,rfl,bh rfl ?_⟩;refine⟨_,rfl,a,_,2,_,rfl,rfl,zC0 e,rfl,_,rfl,_,rfl,v1,t1,b,k,g,sd,z,ys,bx,m,rfl,T1,q1,d1,BX,bo,AK,ok,hs,fun H1 A1 S1=>?_⟩;have e1:=kT S1 _ _ e;refine⟨_,rfl,a,_,3,_,rfl,rfl,zC0 e1,rfl,_,rfl,_,rfl,v2,t2,b,k,g,sd,z,ys,bx,m,rfl,T2.mono (kT S1),q2,d2,kB S1,bo,A1,ok,kS S1,fun H2 A2 S2=>?_⟩;have e2:=kT (S1.trans S2) _ _ e;obtain⟨dk2,aT2,_,_,_,_,tr2,hk2,⟨dg2,hg2⟩,_⟩:=id A2;exact⟨_,rfl,a,_,1,_,rfl,rfl,zC0 e2,rfl,_,rfl,_,rfl,_,rfl,k,CA,dk2,_,_,rfl,hk2,TA.cl,TA.nG,sP,g,CG,dg2,_,_,rfl,hg2,TG.cl,TG.nF,ig ..,o,_,_,z.p,rfl,oq,ok.gk.pr,ok.gk.p9,w1.1,w1.2,w2.1,w2.2,q H2 A2 (S1.trans S2)⟩
theorem zw {f:Addr} {fd:FuncData}:FnOk P w K mg base CX0 18 f fd ["term","boxes","asking"] (yd CA CG 0):=by
 have no:∀vs H Q E,¬ yd CA CG 0 vs H Q E:=fun vs H Q E h=>by
  obtain⟨v,t,_,_,_,_,_,_,_,_,_,_,_,h1,_⟩:=h
  have:=t.depth_pos
  omega
 exact⟨fun vs H Q E h=>absurd h (no vs H Q E),fun A outer s H args us vs Q E _ _ _ _ h=>absurd h (no vs H Q E)⟩
theorem oj {f fP fC fR:Addr} {fd fdP fdC fdR:FuncData} (F:Fun K "value_of" "value_of" eC f fd) (m:mg "value_of"=some (.ref f)) (TA:ATxt K mg CA) (TG:GTxt K mg CG) (M:AskF P w K mg base CA CG fP fC fR fdP fdC fdR) (gy:Cal P w K mg base 3 "op_value" ["sign","first","second","p"] En) :
 ∀n:Nat,FnOk P w K mg base CX0 (n+18) f fd ["term","boxes","asking"] (yd CA CG n)
 | 0=>zw
 | n+1=>zx F TA TG M gy (Cal.of F (oj F m TA TG M gy n) m (fun _ _ _ _ _ _ us hl=>by obtain⟨u0,u1,u2,rfl⟩:=jG hl;rfl))
end
section
variable {CM CA CG:Addr}
structure MS where
 pl:Int
 bx:Str->Int
 sd:List Int
noncomputable def DJ(z:Ak)(len:Int)(s:MS):Hr->MS
 | .fin=>⟨len,s.bx,s.sd⟩
 | .go n=>⟨n,s.bx,s.sd⟩
 | .iff t n=>⟨if t.worth z s.bx=0 then s.pl+1 else n,s.bx,s.sd⟩
 | .set x t=>⟨s.pl+1,jp s.bx x (t.worth z s.bx),s.sd⟩
 | .say t=>⟨s.pl+1,s.bx,s.sd++[t.worth z s.bx]⟩
noncomputable def eV(z:Ak)(rows:List Hr)(s:MS):MS:=match rows[s.pl.toNat]? with
 | some r=>DJ z rows.length s r
 | none=>s
noncomputable def kP(z:Ak)(rows:List Hr):Nat->MS->MS
 | 0,s=>s
 | n+1,s=>if s.pl<(rows.length:Int)/\(s.sd.length:Int)<z.mn then kP z rows n (eV z rows s)else s
def pT(mn:Int)(sd:List Int):List Int:=sd++List.replicate (mn-(sd.length:Int)).toNat 0
def Hr.good:Hr->Prop
 | .fin=>True | .go n=>0<=n | .iff t n=>t.good/\t.depth<=5/\0<=n | .set _ t=>t.good/\t.depth<=5 | .say t=>t.good/\t.depth<=5
theorem zM{z:Ak}{rows:List Hr}(hq:∀r∈rows,r.good){s:MS}(h:0<=s.pl):0<=(eV z rows s).pl:=by
 unfold eV;cases e:rows[s.pl.toNat]? with
 | none=>exact h
 | some r=>
   have q:=hq r (qG0 e);cases r with
   | fin=>exact Int.natCast_nonneg _
   | go n=>exact q
   | iff t n=>
     show 0<=if t.worth z s.bx=0 then s.pl+1 else n
     by_cases c:t.worth z s.bx=0
     . rw[zB0 c];omega
     . rw[zA0 c];exact q.2.2
   | set x t=>show 0<=s.pl+1;omega
   | say t=>show 0<=s.pl+1;omega
theorem sW{z:Ak}{rows:List Hr}{s:MS}:(eV z rows s).sd.length<=s.sd.length+1:=by
 unfold eV;cases e:rows[s.pl.toNat]? with
 | none=>exact qI0 _
 | some r=>
   cases r with
   | fin=>exact qI0 _
   | go n=>exact qI0 _
   | iff t n=>exact qI0 _
   | set x t=>exact qI0 _
   | say t=>show(s.sd++[_]).length<=_;rw[zM0];exact zG0 _
theorem Ca{p n:Int}{bx:Str->Int}{x:Str}(h:jO p bx)(h0:0<=n)(h1:n<p):jO p (jp bx x n):=fun y=>by
 unfold jp
 split
 . exact⟨h0,h1⟩
 . exact h y
theorem pk{z:Ak}{rows:List Hr}{s:MS}(k:AkOk z)(h:jO z.p s.bx)(hs:bV s.sd z.p):jO z.p (eV z rows s).bx/\bV (eV z rows s).sd z.p:=by
 unfold eV;cases e:rows[s.pl.toNat]? with
 | none=>exact⟨h,hs⟩
 | some r=>
   cases r with
   | fin=>exact⟨h,hs⟩
   | go n=>exact⟨h,hs⟩
   | iff t n=>exact⟨h,hs⟩
   | set x t=>
     have w:=Tm.worth_rng k h t;exact⟨Ca h w.1 w.2,hs⟩
   | say t=>
     have w:=Tm.worth_rng k h t;refine⟨h,fun y hy=>?_⟩;rcases qJ0 hy with hy | hy
     . exact hs y hy
     . rw[zT0 hy];exact w
theorem lE{z:Ak}{rows:List Hr}(k:AkOk z):∀(n:Nat)(s:MS),jO z.p s.bx->bV s.sd z.p->(s.sd.length:Int)<=z.mn->jO z.p (kP z rows n s).bx/\bV (kP z rows n s).sd z.p/\((kP z rows n s).sd.length:Int)<=z.mn
 | 0,s,h,hs,hl=>⟨h,hs,hl⟩
 | n+1,s,h,hs,hl=>by
   show jO z.p (if _ then _ else _:MS).bx/\bV (if _ then _ else _:MS).sd z.p/\((if _ then _ else _:MS).sd.length:Int)<=z.mn
   by_cases c:s.pl<(rows.length:Int)/\(s.sd.length:Int)<z.mn
   . rw [zB0 c];obtain⟨h1,h2⟩:=pk (rows:=rows) k h hs
     have:=sW (z:=z) (rows:=rows) (s:=s)
     exact lE k n _ h1 h2 (by omega)
   . rw[zA0 c];exact⟨h,hs,hl⟩
theorem tT{mn:Int}{sd:List Int}(h:(sd.length:Int)<=mn):((pT mn sd).length:Int)=mn:=by
 unfold pT;rw[zM0,List.length_replicate];omega
theorem xc{p mn:Int}{sd:List Int}(h:bV sd p)(p0:0<p):bV (pT mn sd) p:=fun x hx=>by
 unfold pT at hx;rcases qJ0 hx with hx | hx
 . exact h x hx
 . rw[List.eq_of_mem_replicate hx];omega
def RowsAt(H:Hp)(rv:List V)(rows:List Hr):Prop:=rv.length=rows.length/\∀(i:Nat)(v:V)(r:Hr),rv[i]?=some v->rows[i]?=some r->HrAt H v r
theorem RowsAt.mono{H H':Hp}{rv:List V}{rows:List Hr}(h:RowsAt H rv rows)(k:cx H H'):RowsAt H' rv rows:=⟨h.1,fun i v r h1 h2=>(h.2 i v r h1 h2).mono k⟩
def DF(b c:Addr)(H H':Hp):Prop:=∀a o,a≠b->a≠c->H a=some o->H' a=some o
theorem BxAt.le{H:Hp}{b:Addr}{bx:Str->Int}{m n:Nat}(h:BxAt H b bx m)(k:m<=n):BxAt H b bx n:=by
 obtain⟨kvs,e,l,r⟩:=h;exact⟨kvs,e,qC0 l k,r⟩
def But3(b c d:Addr)(H H':Hp):Prop:=∀a o,a≠b->a≠c->a≠d->H a=some o->H' a=some o
theorem But3.trans{b c d:Addr}{H H1 H2:Hp}(x:But3 b c d H H1)(y:But3 b c d H1 H2):But3 b c d H H2:=fun a o h1 h2 h3 e=>y a o h1 h2 h3 (x a o h1 h2 h3 e)
def zS(CM CA CG:Addr):Sp:=fun vs H Q _=>∃(M g h b dm k sd:Addr)(rv:List V)(r pl:Int)(z:Ak)(rows:List Hr)(bx:Str->Int)(m:Nat)(said:List Int),
 vs=[.ref M,.int pl,.ref sd,.ref k]/\H M=some (.ins CM dm (ml g h r b))/\M≠k/\H h=some (.tup rv)/\RowsAt H rv rows/\(∀r∈rows,r.good)/\0<=pl/\pl<(rows.length:Int)/\BxAt H b bx m/\jO z.p bx/\m<=10000/\H sd=some (.lst (said.map V.int))/\said.length<=900/\AkAt CA CG H k g sd z/\AkOk z/\
 ∀H',H' sd=some (.lst ((eV z rows ⟨pl,bx,said⟩).sd.map V.int))->BxAt H' b (eV z rows ⟨pl,bx,said⟩).bx (m+1)->AkAt CA CG H' k g sd z->But3 b sd k H H'->Q (.int (eV z rows ⟨pl,bx,said⟩).pl) H'
theorem D8:FnScope ["self","place","said","asking","row","word"] ["self","place","said","asking"] (ag mX):=⟨rfl,rfl,rfl,by decide +kernel,rfl,by decide +kernel,by decide +kernel⟩
theorem Dc {f:Addr} {fd:FuncData} (F:Fun K "do_row" "Machine.do_row" mX f fd) (B:Bl mg) (TM:MTxt K mg CM) (cI:Cal P w K mg base 23 "value_of" ["term","boxes","asking"] (yd CA CG 5)):FnOk P w K mg base CX0 24 f fd ["self","place","said","asking"] (zS CM CA CG):=by
 refine F.ok D8 (fun vs H Q E h=>?_) (fun cdv A outer s H vs Q E hr h=>?_)
 . obtain⟨M,g,h,b,dm,k,sd,rv,r,pl,z,rows,bx,m,said,rfl,_⟩:=h;rfl
 obtain ⟨M,g,h,b,dm,k,sd,rv,rn,pl,z,rows,bx,m,said,rfl,hM,nMk,hh,RW,rq,pl0,pl1,BX,bo,m1,hsd,sl,AK,ok,q⟩:=h;have hu:=DY hr;refine⟨_,(ad (ao (i:=4) D8.nd rfl (Or.inl rfl) (aP ix_tup (ax (pv 0) rfl) (pv 1) (fun _ _=>rfl)))
  (ad (ao (i:=5) D8.nd rfl (Or.inl rfl) (aP ix_tup (pv 4) af (fun _ _=>rfl)))
  (ad (aS (am aZ (pv 5) aR (aq _)) (ah (az (aJ aE rfl B.len PySem.boot_len (aa (ax (pv 0) rfl) ae)))) aI)
  (ad (aS (am aZ (pv 5) aR (aq _)) (ah (az (aP ix_tup (pv 4) af (fun _ _=>rfl)))) aI)
  (ad (aS (am aZ (pv 5) aR (aq _)) (ah (CN hu (ax (pv 0) rfl) (aP ix_tup (pv 4) af (fun _ _=>rfl)) (au cI hr (by decide) rfl (aa (aP ix_tup (pv 4) af (fun _ _=>rfl)) (aa (ax (pv 0) rfl) (aa (pv 3) ae)))) rfl)) (ah (aS (am aZ (pv 5) aR (aq _)) (ah (bL (iR PySem.F.plainAttrs_list PySem.F.slot_list_append PySem.F.type_list_append dw (pv 2) (aa (au cI hr (by decide) rfl (aa (aP ix_tup (pv 4) af (fun _ _=>rfl)) (aa (ax (pv 0) rfl) (aa (pv 3) ae)))) ae)))) (ah (aS (am pU (au cI hr (by decide) rfl (aa (aP ix_tup (pv 4) af (fun _ _=>rfl)) (aa (ax (pv 0) rfl) (aa (pv 3) ae)))) af (aq _)) (ah (az (aP ix_tup (pv 4) af (fun _ _=>rfl)))) aI)))))
  (ah (az (aj aU (pv 1) af)))))))),?_⟩
 obtain⟨i,rfl⟩:=Int.eq_ofNat_of_zero_le pl0;have hi:i<rows.length:=by omega
 have hi':i<rv.length:=by rw[RW.1];exact hi
 have er:rows[i]?=some rows[i]:=zK0 hi;have ev:rv[i]?=some rv[i]:=zK0 hi';have RA:=RW.2 i _ _ ev er;have rqi:=rq _ (qL0 hi);have hst:eV z rows ⟨(i:Int),bx,said⟩=DJ z rows.length ⟨(i:Int),bx,said⟩ rows[i]:=by
  unfold eV;rw[show((⟨(i:Int),bx,said⟩:MS).pl.toNat)=i from qT0 i,er]
 rw[hst]at q;generalize rows[i]=row at RA rqi q er hst;have at_:atI rv (i:Int)=some rv[i]:=cL ev;generalize rv[i]=v at RA at_ ev;refine⟨_,rfl,M,CM,dm,_,_,rfl,hM,TM.cl,TM.nH,Dm,_,rfl,h,_,_,v,rfl,rfl,zC0 hh,at_,?_⟩;have K0:But3 b sd k H H:=fun _ _ _ _ _ e=>e
 have nBS:sd≠b:=by
  obtain⟨kvs,e,_⟩:=BX;exact bz hsd e (by intro z;cases z)
 obtain⟨kvs,hb,kl,hx⟩:=id BX;obtain⟨dk,_,_,_,_,_,_,hk,_⟩:=id AK;have kT:∀{H':Hp},SameBut k H H'->cx H H':=fun s c xs e=>s _ _ (bz e hk (by intro z;cases z)) e
 have nbk:b≠k:=bz hb hk (by intro z;cases z);have nsk:sd≠k:=bz hsd hk (by intro z;cases z);cases RA with
 | @fin a e=>
   refine⟨_,rfl,a,_,0,_,rfl,rfl,zC0 e,rfl,?_⟩;refine⟨_,rfl,rfl,_,rfl,bh rfl ?_⟩;refine⟨_,rfl,M,CM,dm,_,_,rfl,hM,TM.cl,TM.nH,Dm,h,_,rfl,.inr (zC0 hh),?_⟩;rw[RW.1];exact q H hsd (BX.le (qI0 _)) AK K0
 | @go a n e=>
   refine⟨_,rfl,a,_,0,_,rfl,rfl,zC0 e,rfl,?_⟩;refine⟨_,rfl,rfl,_,rfl,aF (neS (by decide +kernel)) ?_⟩;refine⟨_,rfl,rfl,_,rfl,bh rfl ?_⟩;exact⟨_,rfl,a,_,1,_,rfl,rfl,zC0 e,rfl,q H hsd (BX.le (qI0 _)) AK K0⟩
 | @iff a u t n e T=>
   refine⟨_,rfl,a,_,0,_,rfl,rfl,zC0 e,rfl,?_⟩;refine⟨_,rfl,rfl,_,rfl,aF (neS (by decide +kernel)) ?_⟩;refine⟨_,rfl,rfl,_,rfl,aF (neS (by decide +kernel)) ?_⟩;refine⟨_,rfl,rfl,_,rfl,aF (neS (by decide +kernel)) ?_⟩;refine⟨_,rfl,rfl,_,rfl,aF (neS (by decide +kernel)) ?_⟩;refine⟨_,rfl,a,_,1,_,rfl,rfl,zC0 e,rfl,_,rfl,M,CM,dm,_,_,rfl,hM,TM.cl,TM.nB,Bw,_,rfl,u,t,b,k,g,sd,z,_,bx,m,rfl,T,rqi.1,rqi.2.1,BX,bo,AK,ok,hsd,fun H1 A1 S1=>?_⟩;refine⟨rfl,_,rfl,?_⟩;have q':∀H',H' sd=some (.lst (said.map V.int))->BxAt H' b bx (m+1)->AkAt CA CG H' k g sd z->But3 b sd k H H'->Q (.int (if t.worth z bx=0 then(i:Int)+1 else n)) H':=q
   have q1:=q' H1 (S1 _ _ nsk hsd) ((BX.keep fun o e=>S1 _ _ nbk e).le (qI0 _)) A1 (fun c o _ _ h3 e=>S1 _ _ h3 e)
   by_cases c:t.worth z bx=0
   . rw[zB0 c]at q1;refine uq (congrArg V.int c) ?_;exact⟨_,rfl,_,_,rfl,rfl,q1⟩
   . rw[zA0 c]at q1;refine iteN (fun z=>c (V.int.inj z)) ?_;exact⟨_,rfl,a,_,2,_,rfl,rfl,zC0 (kT S1 _ _ e),rfl,q1⟩
 | @set a x u t e T=>
   refine⟨_,rfl,a,_,0,_,rfl,rfl,zC0 e,rfl,?_⟩;refine⟨_,rfl,rfl,_,rfl,aF (neS (by decide +kernel)) ?_⟩;refine⟨_,rfl,rfl,_,rfl,aF (neS (by decide +kernel)) ?_⟩;refine⟨_,rfl,rfl,_,rfl,bh rfl ?_⟩;refine⟨_,rfl,a,_,2,_,rfl,rfl,zC0 e,rfl,_,rfl,M,CM,dm,_,_,rfl,hM,TM.cl,TM.nB,Bw,_,rfl,u,t,b,k,g,sd,z,_,bx,m,rfl,T,rqi.1,rqi.2,BX,bo,AK,ok,hsd,fun H1 A1 S1=>?_⟩;have hb1:=S1 _ _ nbk hb;have hs1:=S1 _ _ nsk hsd;refine⟨_,rfl,M,CM,dm,_,_,rfl,S1 _ _ nMk hM,TM.cl,TM.nB,Bw,_,rfl,a,_,1,_,rfl,rfl,zC0 (kT S1 _ _ e),rfl,b,_,rfl,DPut.k (k:=.inr x) hb1 ?_,?_⟩
   . exact Nat.lt_of_le_of_lt kl (Nat.lt_of_le_of_lt m1 (by decide))
   refine⟨_,rfl,_,_,rfl,rfl,?_⟩;refine q _ ?_ ⟨_,ai,qC0 (jF _ _ _) (Nat.succ_le_succ kl),Fm x _ hx⟩ (A1.but2 hb1 hs1 fun c o h1 _ e=>by rw[ay h1];exact e) (fun c o h1 _ h3 e=>by rw[ay h1];exact S1 _ _ h3 e);rw[ay nBS];exact hs1
 | @say a u t e T=>
   refine⟨_,rfl,a,_,0,_,rfl,rfl,zC0 e,rfl,?_⟩;refine⟨_,rfl,rfl,_,rfl,aF (neS (by decide +kernel)) ?_⟩;refine⟨_,rfl,rfl,_,rfl,aF (neS (by decide +kernel)) ?_⟩;refine⟨_,rfl,rfl,_,rfl,aF (neS (by decide +kernel)) ?_⟩;refine⟨_,rfl,rfl,_,rfl,bh rfl ?_⟩;refine⟨_,rfl,.inl ⟨rfl,_,zH0 hsd⟩,?_⟩;refine⟨_,rfl,a,_,1,_,rfl,rfl,zC0 e,rfl,_,rfl,M,CM,dm,_,_,rfl,hM,TM.cl,TM.nB,Bw,_,rfl,u,t,b,k,g,sd,z,_,bx,m,rfl,T,rqi.1,rqi.2,BX,bo,AK,ok,hsd,fun H1 A1 S1=>?_⟩;have hb1:=S1 _ _ nbk hb;have hs1:=S1 _ _ nsk hsd;refine⟨sd,_,_,rfl,rfl,hs1,?_,?_⟩
   . rw[zE0];exact aW (by omega)
   refine⟨_,rfl,_,_,rfl,rfl,?_⟩;refine q _ ?_ ((BX.keep fun o e=>by rw[ay nBS.symm];exact S1 _ _ nbk e).le (qI0 _)) (A1.but2 hb1 hs1 fun c o _ h2 e=>by rw[ay h2];exact e) (fun c o _ h2 h3 e=>by rw[ay h2];exact S1 _ _ h3 e);rw[ai];show _=some (HO.lst ((said++[t.worth z bx]).map V.int));rw[zL0];rfl
end
section
variable {CM CA CG:Addr}
def m1 (g:Addr):List (Str×V):=[("game",.ref g)]
def m2 (g h:Addr):List (Str×V):=[("game",.ref g),("helper",.ref h)]
def m3 (g h:Addr):List (Str×V):=[("game",.ref g),("helper",.ref h),("next_round",.int 0)]
theorem pm1 {g:Addr}:cf "game" (.ref g) []=m1 g:=by with_unfolding_all rfl
theorem pm2 {g h:Addr}:cf "helper" (.ref h) (m1 g)=m2 g h:=by with_unfolding_all rfl
theorem pm3 {g h:Addr}:cf "next_round" (.int 0) (m2 g h)=m3 g h:=by with_unfolding_all rfl
theorem pm4 {g h b:Addr}:cf "boxes" (.ref b) (m3 g h)=ml g h 0 b:=by with_unfolding_all rfl
def oM(CM:Addr):Sp:=fun vs H Q _=>∃(M g h dm:Addr),vs=[.ref M,.ref g,.ref h]/\H M=some (.ins CM dm [])/\∀(b:Addr)(H':Hp),H b=none->H' M=some (.ins CM dm (ml g h 0 b))->H' b=some (.dK [])->SameBut M H H'->Q .non H'
theorem Am:FnScope ["self","game","helper"] ["self","game","helper"] (ag jX):=⟨rfl,rfl,rfl,by decide +kernel,rfl,by decide +kernel,by decide +kernel⟩
theorem AZ {f:Addr} {fd:FuncData} (F:Fun K "__init__" "Machine.__init__" jX f fd) (T:MTxt K mg CM):FnOk P w K mg base CX0 1 f fd ["self","game","helper"] (oM CM):=by
 refine F.ok Am (fun vs H Q E h=>?_) (fun cdv A outer s H vs Q E hr h=>?_)
 . obtain⟨M,g,h,dm,rfl,_⟩:=h;rfl
 obtain ⟨M,g,h,dm,rfl,hM,q⟩:=h;refine⟨_,(ad (aX (pv 0) (pv 1) rfl)
  (ad (aX (pv 0) (pv 2) rfl)
  (ad (aX (pv 0) af rfl)
  (ah (aX (pv 0) AN rfl))))),?_⟩
 refine⟨_,rfl,_,rfl,M,CM,dm,_,rfl,hM,T.cl,T.nG,(by show 0<1000;decide),?_⟩;rw[pm1];refine⟨_,rfl,_,rfl,M,CM,dm,_,rfl,ai,T.cl,T.nH,(by show 1<1000;decide),?_⟩;rw[pm2];refine⟨_,rfl,M,CM,dm,_,rfl,ai,T.cl,T.nR,(by show 2<1000;decide),?_⟩;rw[pm3];have S3:SameBut M H (upd (upd (upd H M (.ins CM dm (m1 g))) M (.ins CM dm (m2 g h))) M (.ins CM dm (m3 g h))):=(SameBut.upd _).trans ((SameBut.upd _).trans (SameBut.upd _));have g3:upd (upd (upd H M (.ins CM dm (m1 g))) M (.ins CM dm (m2 g h))) M (.ins CM dm (m3 g h)) M=some (.ins CM dm (m3 g h)):=ai;generalize upd (upd (upd H M (.ins CM dm (m1 g))) M (.ins CM dm (m2 g h))) M (.ins CM dm (m3 g h))=H3 at S3 g3;intro b hb;have bM:b≠M:=(aO g3 hb).symm;refine⟨_,rfl,M,CM,dm,_,rfl,by rw[ay bM.symm];exact g3,T.cl,T.nB,(by show 3<1000;decide),?_⟩;rw[pm4];refine q b _ ?_ ai (by rw[ay bM];exact ai) (S3.trans ((zJ0 (zD0 hb _)).trans (SameBut.upd _)));cases e:H b with
 | none=>rfl
 | some o=>rw[S3 b o bM e]at hb;cases hb
def a1 (g:Addr):List (Str×V):=[("game",.ref g)]
def a2 (g:Addr) (nr:Int):List (Str×V):=[("game",.ref g),("number",.int nr)]
def a3 (g:Addr) (nr mn:Int):List (Str×V):=[("game",.ref g),("number",.int nr),("many",.int mn)]
def a4 (g:Addr) (nr mn hd:Int):List (Str×V):=[("game",.ref g),("number",.int nr),("many",.int mn),("held",.int hd)]
def a5 (g:Addr) (nr mn hd s:Int):List (Str×V):=[("game",.ref g),("number",.int nr),("many",.int mn),("held",.int hd),("s",.int s)]
def a6 (g:Addr) (nr mn hd s:Int) (aT:Addr):List (Str×V):=[("game",.ref g),("number",.int nr),("many",.int mn),("held",.int hd),("s",.int s),("tossed",.ref aT)]
section
variable {g aT:Addr} {nr mn hd s:Int}
theorem pa1:cf "game" (.ref g) []=a1 g:=by with_unfolding_all rfl
theorem pa2:cf "number" (.int nr) (a1 g)=a2 g nr:=by with_unfolding_all rfl
theorem pa3:cf "many" (.int mn) (a2 g nr)=a3 g nr mn:=by with_unfolding_all rfl
theorem pa4:cf "held" (.int hd) (a3 g nr mn)=a4 g nr mn hd:=by with_unfolding_all rfl
theorem pa5:cf "s" (.int s) (a4 g nr mn hd)=a5 g nr mn hd s:=by with_unfolding_all rfl
theorem pa6:cf "tossed" (.ref aT) (a5 g nr mn hd s)=a6 g nr mn hd s aT:=by with_unfolding_all rfl
theorem pa7:cf "truths" .non (a6 g nr mn hd s aT)=al g nr mn hd s aT .non:=by with_unfolding_all rfl
end
def wR(CA:Addr):Sp:=fun vs H Q _=>∃(k dk g c:Addr)(nr mn hd s:Int)(xs:List V),vs=[.ref k,.ref g,.int nr,.int mn,.int hd,.int s,.ref c]/\H k=some (.ins CA dk [])/\(H c=some (.lst xs)∨H c=some (.tup xs))/\
 ∀(aT:Addr)(H':Hp),H' k=some (.ins CA dk (al g nr mn hd s aT .non))->H' aT=some (.tup xs)->SameBut k H H'->Q .non H'
theorem As:FnScope ["self","game","number","many","due","s","coins"] ["self","game","number","many","due","s","coins"] (ag ki):=⟨rfl,rfl,rfl,by decide +kernel,rfl,by decide +kernel,by decide +kernel⟩
theorem Bh {f:Addr} {fd:FuncData} (F:Fun K "__init__" "Asking.__init__" ki f fd) (B:Bl mg) (T:ATxt K mg CA):FnOk P w K mg base CX0 1 f fd ["self","game","number","many","due","s","coins"] (wR CA):=by
 refine F.ok As (fun vs H Q E h=>?_) (fun cdv A outer s H vs Q E hr h=>?_)
 . obtain⟨k,dk,g,c,nr,mn,hd,s,xs,rfl,_⟩:=h;rfl
 obtain ⟨k,dk,g,c,nr,mn,hd,s,xs,rfl,hk,hc,q⟩:=h;refine⟨_,(ad (aX (pv 0) (pv 1) rfl)
  (ad (aX (pv 0) (pv 2) rfl)
  (ad (aX (pv 0) (pv 3) rfl)
  (ad (aX (pv 0) (pv 4) rfl)
  (ad (aX (pv 0) (pv 5) rfl)
  (ad (aX (pv 0) (bq ba rfl B.tuple bi (aa (pv 6) ae)) rfl)
  (ah (aX (pv 0) pR rfl)))))))),?_⟩
 refine⟨_,rfl,_,rfl,k,CA,dk,_,rfl,hk,T.cl,T.nG,(by show 0<1000;decide),?_⟩;rw[pa1];refine⟨_,rfl,_,rfl,k,CA,dk,_,rfl,ai,T.cl,T.nN,(by show 1<1000;decide),?_⟩;rw[pa2];refine⟨_,rfl,_,rfl,k,CA,dk,_,rfl,ai,T.cl,T.nM,(by show 2<1000;decide),?_⟩;rw[pa3];refine⟨_,rfl,_,rfl,k,CA,dk,_,rfl,ai,T.cl,T.nH,(by show 3<1000;decide),?_⟩;rw[pa4];refine⟨_,rfl,_,rfl,k,CA,dk,_,rfl,ai,T.cl,T.nS,(by show 4<1000;decide),?_⟩;rw[pa5];have S5:SameBut k H (upd (upd (upd (upd (upd H k (.ins CA dk (a1 g))) k (.ins CA dk (a2 g nr))) k (.ins CA dk (a3 g nr mn))) k (.ins CA dk (a4 g nr mn hd))) k (.ins CA dk (a5 g nr mn hd s))):=(SameBut.upd _).trans ((SameBut.upd _).trans ((SameBut.upd _).trans ((SameBut.upd _).trans (SameBut.upd _))));have g5:upd (upd (upd (upd (upd H k (.ins CA dk (a1 g))) k (.ins CA dk (a2 g nr))) k (.ins CA dk (a3 g nr mn))) k (.ins CA dk (a4 g nr mn hd))) k (.ins CA dk (a5 g nr mn hd s)) k=some (.ins CA dk (a5 g nr mn hd s)):=ai;generalize upd (upd (upd (upd (upd H k (.ins CA dk (a1 g))) k (.ins CA dk (a2 g nr))) k (.ins CA dk (a3 g nr mn))) k (.ins CA dk (a4 g nr mn hd))) k (.ins CA dk (a5 g nr mn hd s))=H5 at S5 g5;rcases hc with hc | hc
 . have hc5:=S5 _ _ (bz hc hk (by intro z;cases z)) hc;refine⟨_,rfl,c,_,rfl,.inl ⟨zH0 hc5,fun aT ha=>?_⟩⟩;have aK:aT≠k:=(aO g5 ha).symm;refine⟨_,rfl,k,CA,dk,_,rfl,by rw[ay aK.symm];exact g5,T.cl,T.nT,(by show 5<1000;decide),?_⟩;rw[pa6];refine⟨_,rfl,k,CA,dk,_,rfl,ai,T.cl,T.nR,(by show 6<1000;decide),?_⟩;rw[pa7];exact q aT _ ai (by rw[ay aK,ay aK];exact ai) (S5.trans ((zJ0 (zD0 ha _)).trans ((SameBut.upd _).trans (SameBut.upd _))))
 . have nc:=bz hc hk (by intro z;cases z);have hc5:=S5 _ _ nc hc;refine⟨_,rfl,c,_,rfl,.inr ⟨zC0 hc5,?_⟩⟩;refine⟨_,rfl,k,CA,dk,_,rfl,g5,T.cl,T.nT,(by show 5<1000;decide),?_⟩;rw[pa6];refine⟨_,rfl,k,CA,dk,_,rfl,ai,T.cl,T.nR,(by show 6<1000;decide),?_⟩;rw[pa7];exact q c _ ai (by rw[ay nc,ay nc];exact hc5) (S5.trans ((SameBut.upd _).trans (SameBut.upd _)))
def DK(CM CG:Addr):Sp:=fun vs H Q _=>∃(M g h b dm c:Addr)(rv:List V)(z:Ak)(rows:List Hr)(bx:Str->Int)(m:Nat),
 vs=[.ref M,.int z.mn,.int z.hd,.int z.s,.ref c]/\H M=some (.ins CM dm (ml g h z.nr b))/\H h=some (.tup rv)/\RowsAt H rv rows/\(∀r∈rows,r.good)/\BxAt H b bx m/\jO z.p bx/\m<=5000/\Gm CG H g z.ns z.ts z.p/\AkOk z/\(H c=some (.lst (z.to.map V.int))∨H c=some (.tup (z.to.map V.int)))/\0<=z.mn/\z.mn<=500/\
 ∀(l:Addr)(H':Hp),H l=none->H' l=some (.lst ((pT z.mn (kP z rows 200 ⟨0,bx,[]⟩).sd).map V.int))->BxAt H' b (kP z rows 200 ⟨0,bx,[]⟩).bx (m+200)->H' M=some (.ins CM dm (ml g h (z.nr+1) b))->DF M b H H'->Q (.ref l) H'
theorem iD:FnScope ["self","many","due","s","coins","asking","said","place","done"] ["self","many","due","s","coins"] (ag mV):=⟨rfl,rfl,rfl,by decide +kernel,rfl,by decide +kernel,by decide +kernel⟩
theorem Ay(k:Nat)(x:V):(List.replicate k [x]).flatten=List.replicate k x:=by
 induction k with
 | zero=>rfl
 | succ k ih=>rw[List.replicate_succ,List.flatten_cons,ih,List.replicate_succ];rfl
def tSayE:TS:=fun Dn σ H=>∃(x0 x2 x3 x4 x5 x7 x8:Option V)(sd:Addr)(mn:Int)(xs:List Int),σ=[x0,some (.int mn),x2,x3,x4,x5,some (.ref sd),x7,x8]/\H sd=some (.lst (xs.map V.int))/\xs.length<=200/\0<=mn/\mn<=500/\
 ∀(l:Addr)(H':Hp),H l=none->Same H H'->H' l=some (.lst ((pT mn xs).map V.int))->Dn.rt (.ref l) H'
theorem Da {f fA fR:Addr} {fd fdA fdR:FuncData} (F:Fun K "say" "Machine.say" mV f fd) (B:Bl mg) (TM:MTxt K mg CM) (TA:ATxt K mg CA) (hmost:∃t,mg "MOST_ROWS_DONE"=some (.int 200 t))
 (MA:Mk K CA fA) (GA:FnOk P w K mg base CX0 1 fA fdA ["self","game","number","many","due","s","coins"] (wR CA)) (bA:Binds K fdA ["self","game","number","many","due","s","coins"] [])
 (mR:Meth K CM "do_row" fR) (GR:FnOk P w K mg base CX0 24 fR fdR ["self","place","said","asking"] (zS CM CA CG)) (bR:Binds K fdR ["self","place","said","asking"] []):FnOk P w K mg base CX0 25 f fd ["self","many","due","s","coins"] (DK CM CG):=by
 refine F.ok iD (fun vs H Q E h=>?_) (fun cdv A outer s H vs Q E hr h=>?_)
 . obtain⟨M,g,h,b,dm,c,rv,z,rows,bx,m,rfl,_⟩:=h;rfl
 obtain ⟨M,g,h,b,dm,c,rv,z,rows,bx,m,rfl,hM,hh,RW,rq,BX,bo,mm,GG,ok,hc,mn0,mn1,q⟩:=h;obtain⟨a',b',d',tv,G,hga,hgb,TS,hgd⟩:=GG;obtain⟨te,ge⟩:=hmost;have hr2:Room (1+1) _:=hr.mono (by decide);have hr7:Room 24 _:=hr.mono (by decide);refine⟨_,(ad (ao (i:=5) iD.nd rfl (Or.inl rfl) (iw MA GA hr2 rfl TA.mgC bA .nil bQ (aa (ax (pv 0) rfl) (aa (ax (pv 0) rfl) (aa (pv 1) (aa (pv 2) (aa (pv 3) (aa (pv 4) ae))))))))
  (ad (aX (pv 0) (aj aU (ax (pv 0) rfl) af) rfl)
  (ad (ao (i:=6) iD.nd rfl (Or.inl rfl) (cw ae))
  (ad (ao (i:=7) iD.nd rfl (Or.inl rfl) af)
  (ad (ao (i:=8) iD.nd rfl (Or.inl rfl) af)
  (ad (ia PassesOwn.never (PW.pt (jz (am gO (pv 7) (aJ aE rfl B.len PySem.boot_len (aa (ax (pv 0) rfl) ae)) (aq _)) (jz (am gO (aJ aE rfl B.len PySem.boot_len (aa (pv 6) ae)) (pv 1) (aq _)) (kq (am gO (pv 8) (sk (v:=.int 200) rfl ge ⟨_,rfl⟩) (aq _)))))) (ad (ao (i:=7) iD.nd rfl (Or.inl rfl) (db (pv 0) TM.cl mR GR hr7 bR .nil bQ (aa (pv 7) (aa (pv 6) (aa (pv 5) ae)))))
   (ah (ao (i:=8) iD.nd rfl (Or.inl rfl) (aj aU (pv 8) af)))))
  (sf (t':=tSayE) (ah (az (aj kX (pv 6) (aj vp (cw (aa af ae)) (aj bm (pv 1) (aJ aE rfl B.len PySem.boot_len (aa (pv 6) ae))))))) (by
   rintro Dn σ H ⟨x0,x2,x3,x4,x5,x7,x8,sd,mn,xs,rfl,hsd,xl,mn0,mn1,q⟩;refine⟨_,rfl,(by show 1<=sizeLine;decide),fun z hz=>?_⟩;have I1:=zD0 hz (.lst [.int 0]);have g1:upd H z (.lst [.int 0]) z=some (.lst [.int 0]):=ai;generalize upd H z (.lst [.int 0])=H1 at I1 g1;refine⟨_,rfl,_,rfl,sd,_,rfl,.inl (zH0 (I1 _ _ hsd)),_,_,rfl,rfl,?_⟩;have el:((xs.map V.int).length:Int)=(xs.length:Int):=by rw[zE0]
   refine⟨z,_,_,rfl,rfl,g1,by omega,by omega,dX (by show 1*(mn-((xs.map V.int).length:Int)).toNat<=1000;omega),fun y hy=>?_⟩;rw[Ay];have I2:=zD0 hy (.lst (List.replicate (mn-((xs.map V.int).length:Int)).toNat (.int 0)));have g2:upd H1 y (.lst (List.replicate (mn-((xs.map V.int).length:Int)).toNat (.int 0))) y=some (.lst (List.replicate (mn-((xs.map V.int).length:Int)).toNat (.int 0))):=ai;generalize upd H1 y (.lst (List.replicate (mn-((xs.map V.int).length:Int)).toNat (.int 0)))=H2 at I2 g2;refine⟨sd,y,_,_,rfl,rfl,I2 _ _ (I1 _ _ hsd),g2,?_,fun l hl=>?_⟩
   . rw[List.length_replicate,zE0];exact dX (by omega)
   refine q l _ ?_ (I1.trans (I2.trans (zD0 hl _))) ?_
   . cases e:H l with
     | none=>rfl
     | some o=>rw[I2 _ _ (I1 _ _ e)]at hl;cases hl
   . rw[ai,el];unfold pT;rw[zL0,List.map_replicate])))))))),?_⟩
 refine ⟨_,rfl,M,CM,dm,_,_,rfl,hM,TM.cl,TM.nG,ml_g,_,rfl,M,CM,dm,_,_,rfl,hM,TM.cl,TM.nR,EJ,_,rfl,_,rfl,_,rfl,_,rfl,fun k dk hk hdk nk=>?_⟩;have S1:Same H (upd (upd H dk (.own k)) k (.ins CA dk [])):=fun a o e=>by
  rw[ay (aO e hk),ay (aO e hdk)];exact e
 have g1:upd (upd H dk (.own k)) k (.ins CA dk []) k=some (.ins CA dk []):=ai;generalize upd (upd H dk (.own k)) k (.ins CA dk [])=H1 at S1 g1;refine⟨k,dk,g,c,z.nr,z.mn,z.hd,z.s,z.to.map V.int,rfl,g1,hc.imp (S1 _ _) (S1 _ _),fun aT H2 hk2 hT2 S2=>⟨rfl,?_⟩⟩;have S02:Same H H2:=Same.but S1 hk S2;clear S1 S2 g1;have hM2:=S02 _ _ hM;refine⟨_,rfl,M,CM,dm,_,_,rfl,hM2,TM.cl,TM.nR,EJ,_,_,rfl,rfl,_,rfl,M,CM,dm,_,rfl,hM2,TM.cl,TM.nR,vI,?_⟩;rw[Bv];have nMk:M≠k:=aO hM hk;have S3:SameBut M H2 (upd H2 M (.ins CM dm (ml g h (z.nr+1) b))):=SameBut.upd _;have hM3:upd H2 M (.ins CM dm (ml g h (z.nr+1) b)) M=some (.ins CM dm (ml g h (z.nr+1) b)):=ai;generalize upd H2 M (.ins CM dm (ml g h (z.nr+1) b))=H3 at S3 hM3;refine⟨(by show 0<=sizeLine;decide),fun sd hsd=>?_⟩;have I4:=zD0 hsd (.lst []);have g4:upd H3 sd (.lst []) sd=some (.lst []):=ai;generalize upd H3 sd (.lst [])=H4 at I4 g4;have gM:g≠M:=fun e=>by
  obtain⟨dg,hg⟩:=G;rw[e,hM]at hg;cases hg
 have nbM:b≠M:=by
  obtain⟨kvs,e,_⟩:=BX;exact bz e hM (by intro z;cases z)
 have S04:SameBut M H H4:=(zJ0 S02).trans (S3.trans (zJ0 I4));have hM4:=I4 _ _ hM3;have kT:cx H H4:=fun c xs h=>S04 c _ (bz h hM (by intro z;cases z)) h
 have hh4:=kT _ _ hh;have RW4:=RW.mono kT;have BX4:BxAt H4 b bx m:=BX.keep fun o e=>S04 b o nbM e
 have G4:GameAt CG H4 g a' b' d' z.p:=by
  obtain⟨dg,hg⟩:=G;exact⟨dg,S04 _ _ gM hg⟩
 have hT4:H4 aT=some (.tup (z.to.map V.int)):=I4 _ _ (S3 _ _ (bz hT2 hM2 (by intro z;cases z)) hT2);have hgd4:=S04 _ _ (bz hgd hM (by intro z;cases z)) hgd;have nds:d'≠sd:=aO (S3 _ _ (bz hgd hM (by intro z;cases z)) (S02 _ _ hgd)) hsd;have hk4:=I4 _ _ (S3 _ _ nMk.symm hk2);have b4:∃kvs,H4 b=some (.dK kvs):=by
  obtain⟨kvs,e,_⟩:=BX4;exact⟨kvs,e⟩
 obtain⟨kv4,hb4⟩:=b4;have nbs:b≠sd:=bz hb4 g4 (by intro z;cases z);have nhb:h≠b:=bz hh4 hb4 (by intro z;cases z);have nhs:h≠sd:=bz hh4 g4 (by intro z;cases z);have nMs:M≠sd:=bz hM4 g4 (by intro z;cases z);have nkb:k≠b:=bz hk4 hb4 (by intro z;cases z);have nks:k≠sd:=bz hk4 g4 (by intro z;cases z);have AK4:AkAt CA CG H4 k g sd z:=⟨dk,aT,a',b',d',tv,.non,hk4,G4,kT _ _ hga,kT _ _ hgb,TS.mono kT,hgd4,nds,hT4,.inl rfl⟩
 have sd0:H sd=none:=by
  cases e:H sd with
  | none=>rfl
  | some o=>rw[S3 _ _ nMs.symm (S02 _ _ e)]at hsd;cases hsd
 refine ⟨fun mm σ H'=>∃(st:MS)(d:Nat),σ=[some (.ref M),some (.int z.mn),some (.int z.hd),some (.int z.s),some (.ref c),some (.ref k),some (.ref sd),some (.int st.pl),some (.int (d:Int))]/\d<=200/\mm=200-d/\0<=st.pl/\st.sd.length<=d/\kP z rows (200-d) st=kP z rows 200 ⟨0,bx,[]⟩/\H' sd=some (.lst (st.sd.map V.int))/\BxAt H' b st.bx (m+d)/\jO z.p st.bx/\bV st.sd z.p/\AkAt CA CG H' k g sd z/\But3 b sd k H4 H',
  ⟨_,⟨0,bx,[]⟩,0,rfl,zU0 _,rfl,Int.le_refl 0,zG0 _,rfl,g4,BX4,bo,(fun x hx=>by cases hx),AK4,fun _ _ _ _ _ e=>e⟩,?_⟩
 rintro mm σ H' ⟨st,d,rfl,d2,rfl,st0,sl,hrun,hsd',BX',bo',so',AK',S'⟩;have hM':=S' _ _ nbM.symm nMs nMk hM4;have hh':=S' _ _ nhb nhs (bz hh4 hk4 (by intro z;cases z)) hh4;have kT':cx H4 H':=fun c xs h=>S' c _ (bz h hb4 (by intro z;cases z)) (bz h g4 (by intro z;cases z)) (bz h hk4 (by intro z;cases z)) h
 have RW':=RW4.mono kT';have fin:kP z rows (200-d) st=st->∀(l:Addr)(H5:Hp),H' l=none->Same H' H5->H5 l=some (.lst ((pT z.mn st.sd).map V.int))->Q (.ref l) H5:=fun er l H5 l0 S5 hl=>by
  rw[er]at hrun;rw[←hrun]at q;refine q l H5 ?_ hl ((BX'.keep fun o e=>S5 b o e).le (by omega)) (S5 _ _ hM') (fun a o h1 h2 e=>?_)
  . cases e:H l with
    | none=>rfl
    | some o=>
      have lM:l≠M:=fun z=>by rw[z,hM']at l0;cases l0
      have lb:l≠b:=fun z=>by
       obtain⟨kvs,e',_⟩:=BX';rw[z,e']at l0;cases l0
      have ls:l≠sd:=fun z=>by rw[z,hsd']at l0;cases l0
      rw[S' _ _ lb ls (aO e hk) (S04 _ _ lM e)]at l0;cases l0
  . exact S5 _ _ (S' _ _ h2 (aO e sd0) (aO e hk) (S04 _ _ h1 e))
 refine⟨_,rfl,_,rfl,M,CM,dm,_,_,rfl,hM',TM.cl,TM.nH,Dm,h,_,rfl,.inr (zC0 hh'),_,_,rfl,rfl,_,rfl,?_⟩;rw[RW.1]
 by_cases c1:st.pl<(rows.length:Int)
 . refine bh c1 ?_;refine⟨_,rfl,sd,_,rfl,.inl (zH0 hsd'),_,rfl,_,_,rfl,rfl,_,rfl,?_⟩;rw[zE0]
   by_cases c2:(st.sd.length:Int)<z.mn
   . refine bh c2 ?_;refine⟨_,rfl,_,_,rfl,rfl,_,rfl,?_⟩
     by_cases c3:d<200
     . refine bh (by omega) ?_;refine⟨_,fun _ _ h=>h,?_⟩;refine⟨_,rfl,M,dm,_,rfl,hM',ml_n1,_,rfl,_,rfl,_,rfl,M,g,h,b,dm,k,sd,rv,_,st.pl,z,rows,st.bx,m+d,st.sd,rfl,hM',nMk,hh',RW',rq,st0,c1,BX',bo',by omega,hsd',by omega,AK',ok,fun H6 hs6 BX6 A6 S6=>?_⟩;refine⟨_,rfl,_,_,rfl,rfl,?_⟩;refine⟨_,(show 200-(d+1)<200-d by omega),eV z rows st,d+1,rfl,c3,rfl,zM rq st0,qC0 sW (Nat.succ_le_succ sl),?_,hs6,BX6,(pk ok bo' so').1,(pk ok bo' so').2,A6,S'.trans S6⟩;rw[←hrun,show 200-d=(200-(d+1))+1 by omega];exact(zB0 ⟨c1,c2⟩).symm
     . refine aF (by omega) ?_;have ed:200-d=0:=by omega
       exact⟨_,_,_,_,_,_,_,sd,z.mn,st.sd,rfl,hsd',by omega,mn0,mn1,fin (by rw[ed];rfl)⟩
   . refine aF c2 (gJ ?_);refine⟨_,_,_,_,_,_,_,sd,z.mn,st.sd,rfl,hsd',by omega,mn0,mn1,fin ?_⟩;cases 200-d with
     | zero=>rfl
     | succ n=>exact zA0 (fun z=>c2 z.2)
 . refine aF c1 (gJ ?_);refine⟨_,_,_,_,_,_,_,sd,z.mn,st.sd,rfl,hsd',by omega,mn0,mn1,fin ?_⟩;cases 200-d with
   | zero=>rfl
   | succ n=>exact zA0 (fun z=>c1 z.1)
end
section
variable {ns:List Str} {ts:List Tr} {p:Int}
theorem oT(k:GmK ns ts p)(x:Str):0<=bj ts x/\bj ts x<=400:=by
 have t0:ts≠[]:=fun z=>by have:=k.t1;rw[z]at this;cases this
 have:=jD (ns:=ts.map fun t=>(t.names.count x:Int)) (by simpa using t0)
 obtain⟨t,ht,e⟩:=List.mem_map.mp this;unfold bj;rw[←e];have h1:=List.count_le_length (a:=x) (l:=t.names);have h2:=t.names_len;have h3:=(k.tok t ht).2.2.2;omega
end
structure HearOk(ns:List Str)(p:Int)(z:Db)(xs:List Int):Prop where
 aw:z.aw=(("hear":Str),some (xs.length:Int))
 xo:bV xs p
 x5:xs.length<=500
 ro:z.cl≠[]->kK xs p
 tl:z.to.length<=ns.length
 po:bV z.to p
structure TossOk(ns:List Str)(p:Int)(z:Db)(r:Int):Prop where
 aw:z.aw.1="coin"
 r0:0<=r
 r1:r<p
 tl:z.to.length<=ns.length
 ro:z.he≠[]->kK z.he p/\z.to.length<ns.length
 po:bV z.to p
section
variable {C CG cT cC cN:Addr}
structure Gd(ns:List Str)(ts:List Tr)(p:Int)(z:Db):Prop where
 tl:z.to.length<=ns.length
 po:bV z.to p
 e0:0<=z.ed
 e1:z.ed<p
 he:z.aw.1="hear" -> (z.cl=[]/\z.aw=(("hear":Str),some (ts.length:Int)))∨(z.cl≠[]/\z.to.length<ns.length/\z.aw=(("hear":Str),some (bj ts (ns.getD z.to.length "")+1)))
 co:z.aw.1="coin" -> z.cl≠[]/\(z.he≠[]->kK z.he p/\z.to.length<ns.length)
 h0:z.cl=[]->z.he=[]
 ww:AwW z.aw.1
section
variable {ns:List Str} {ts:List Tr} {p:Int} {z:Db}
theorem Gd.new(k:GmK ns ts p):Gd ns ts p (Db.new ts):=by
 have:=k.p2
 exact⟨zU0 _,(fun x hx=>by cases hx),Int.le_refl _,(by show(0:Int)<p;omega),fun _=>.inl ⟨rfl,rfl⟩,(fun h=>by cases h),fun _=>rfl,.inl rfl⟩
theorem Gd.goOn(tl:z.to.length<=ns.length)(po:bV z.to p)(e0:0<=z.ed)(e1:z.ed<p)(cl:z.cl≠[]):Gd ns ts p (goOn ns ts p z):=by
 unfold Mine.goOn
 by_cases c:z.to.length<ns.length
 . rw[zB0 c];exact⟨tl,po,e0,e1,fun _=>.inr ⟨cl,c,rfl⟩,(fun h=>by cases h),fun h=>absurd h cl,.inl rfl⟩
 . rw [zA0 c];unfold dZ
   by_cases e:z.ed=hor z.s p (ts.map fun t=>t.worth ns z.to p)
   . rw[zB0 e];exact⟨tl,po,e0,e1,(fun h=>by cases h),(fun h=>by cases h),fun h=>absurd h cl,.inr (.inr (.inr rfl))⟩
   . rw[zA0 e];exact⟨tl,po,e0,e1,(fun h=>by cases h),(fun h=>by cases h),fun h=>absurd h cl,.inr (.inr (.inl rfl))⟩
theorem Gd.hear_ne(k:GmK ns ts p)(h:Gd ns ts p z){xs:List Int}(ok:HearOk ns p z xs):xs≠[]:=fun e=>by
 have a:=ok.aw;rw[e,List.length_nil]at a;have t1:=k.t1;rcases h.he (by rw[a])with⟨_,w⟩ | ⟨_,_,w⟩
 . rw [w]at a
   have:=zQ0 (Prod.mk.inj a).2
   omega
 . rw [w]at a
   have:=zQ0 (Prod.mk.inj a).2
   have:=oT k (ns.getD z.to.length "")
   omega
theorem Gd.hear(k:GmK ns ts p)(h:Gd ns ts p z){xs:List Int}(ok:HearOk ns p z xs):Gd ns ts p (cY ns ts p xs z)/\(cY ns ts p xs z).cl≠[]:=by
 have p2:=k.p2;have xn:=h.hear_ne k ok;have a1:z.aw.1="hear":=by rw[ok.aw]
 unfold cY
 by_cases c:z.cl=[]
 . rw [zB0 c];unfold jn
   by_cases c1:ts.length=1
   . rw [zB0 c1];unfold uF;have hr:=ky (s:=0) (p:=p) (by omega) xs;refine⟨Gd.goOn h.tl h.po hr.1 hr.2 xn,?_⟩;unfold Mine.goOn dZ
     split <;> exact xn
   . rw[zA0 c1];exact⟨⟨h.tl,h.po,h.e0,h.e1,(fun z=>by cases z),fun _=>⟨xn,fun e=>absurd (h.h0 c) e⟩,fun e=>absurd e xn,.inr (.inl rfl)⟩,xn⟩
 . rw [zA0 c];unfold dy;have tl:z.to.length<ns.length:=by
    rcases h.he a1 with⟨e,_⟩ | ⟨_,t,_⟩
    . exact absurd e c
    . exact t
   by_cases e:(val p xs 0+val p xs 1) % p=z.ed
   . rw[zB0 e];exact⟨⟨h.tl,h.po,h.e0,h.e1,(fun z=>by cases z),fun _=>⟨c,fun _=>⟨ok.ro c,tl⟩⟩,fun e=>absurd e c,.inr (.inl rfl)⟩,c⟩
   . rw[zA0 e];exact⟨⟨h.tl,h.po,h.e0,h.e1,(fun z=>by cases z),(fun z=>by cases z),fun e=>absurd e c,.inr (.inr (.inl rfl))⟩,c⟩
theorem Gd.toss(k:GmK ns ts p)(h:Gd ns ts p z){r:Int}(ok:TossOk ns p z r):Gd ns ts p (cW ns ts p r z)/\(cW ns ts p r z).cl≠[]:=by
 have p2:=k.p2;obtain⟨cl,ro⟩:=h.co ok.aw;unfold cW
 by_cases c:z.he=[]
 . rw [zB0 c];unfold uF;have hr:=ky (s:=r) (p:=p) (by omega) z.cl;refine⟨Gd.goOn h.tl h.po hr.1 hr.2 cl,?_⟩;unfold Mine.goOn dZ
   split <;> exact cl
 . rw [zA0 c];have hr:=wv (p:=p) (by omega) z.he r;refine⟨Gd.goOn ?_ (fun x hx=>?_) hr.1 hr.2 cl,?_⟩
   . show (z.to++[r]).length<=_;rw[zM0,qE0]
     have:=(ro c).2
     omega
   . rcases qJ0 hx with h' | h'
     . exact h.po x h'
     . rw[zT0 h'];exact⟨ok.r0,ok.r1⟩
   . unfold Mine.goOn dZ
     split <;> exact cl
end
end
structure Tk where
 z:Db
 bx:Str->Int
 nr:Int
def awN(z:Db):Int:=z.aw.2.getD 0
def Tk.ak(ns:List Str)(ts:List Tr)(p:Int)(t:Tk):Ak:=⟨ns,ts,p,t.nr,awN t.z,t.z.ed,t.z.s,t.z.to⟩
noncomputable def Tk.run(ns:List Str)(ts:List Tr)(p:Int)(rows:List Hr)(t:Tk):MS:=kP (t.ak ns ts p) rows 200 ⟨0,t.bx,[]⟩
noncomputable def Tk.said(ns:List Str)(ts:List Tr)(p:Int)(rows:List Hr)(t:Tk):List Int:=pT (awN t.z) (t.run ns ts p rows).sd
noncomputable def Tk.ask(ns:List Str)(ts:List Tr)(p:Int)(rows:List Hr)(t:Tk):Tk:=⟨cY ns ts p (t.said ns ts p rows) t.z,(t.run ns ts p rows).bx,t.nr+1⟩
noncomputable def Tk.toss(ns:List Str)(ts:List Tr)(p r:Int)(t:Tk):Tk:=⟨cW ns ts p r t.z,t.bx,t.nr⟩
def Tk.new(ts:List Tr):Tk:=⟨Db.new ts,fun _=>0,0⟩
def bw (ns:List Str) (z:Db):Nat:=if z.aw.1="hear" then 2*(ns.length-z.to.length)else if z.aw.1="coin" then(if z.he=[]then 2*ns.length+1 else 2*(ns.length-z.to.length)-1)else 0
def bE (ns:List Str) (z:Db):Nat:=if z.aw.1="hear" then ns.length-z.to.length else if z.aw.1="coin" then(if z.he=[]then ns.length+1 else ns.length-z.to.length)else 0
structure TkOk(ns:List Str)(ts:List Tr)(p:Int)(t:Tk):Prop where
 gd:Gd ns ts p t.z
 cl:t.z.cl≠[]
 s0:0<=t.z.s
 s1:t.z.s<p
 bo:jO p t.bx
 nr:1<=t.nr
 fi:t.z.aw.1="coin" -> t.z.he=[]->t.z.to=[]
section
variable {ns:List Str} {ts:List Tr} {p:Int} {t:Tk} {rows:List Hr}
theorem gP:¬ (("coin":Str)="hear"):=by decide +kernel
theorem pZ:¬ (("caught":Str)="hear"):=by decide +kernel
theorem xj:¬ (("caught":Str)="coin"):=by decide +kernel
theorem Bo:¬ (("believed":Str)="coin"):=by decide +kernel
theorem sK(z:Db):(goOn ns ts p z).s=z.s/\(goOn ns ts p z).to=z.to/\(goOn ns ts p z).he=z.he/\(goOn ns ts p z).cl=z.cl:=by
 unfold goOn dZ
 split <;> exact⟨rfl,rfl,rfl,rfl⟩
theorem kz (z:Db):¬ (goOn ns ts p z).aw.1="coin":=by
 unfold goOn dZ
 split
 . exact fun h=>gP h.symm
 . show ¬ (if _ then _ else _:Str×Option Int).1="coin"
   split
   . exact Bo
   . exact xj
theorem nK(z:Db):bw ns (goOn ns ts p z)<=2*(ns.length-z.to.length)/\bE ns (goOn ns ts p z)<=ns.length-z.to.length:=by
 obtain⟨_,e,_⟩:=sK (ns:=ns) (ts:=ts) (p:=p) z;have no:=kz (ns:=ns) (ts:=ts) (p:=p) z;unfold bw bE;rw[e,zA0 no,zA0 no]
 constructor <;> split <;> omega
theorem TkOk.ak (k:GmK ns ts p) (n6:ns.length<=6) (h:TkOk ns ts p t) (hw:t.z.aw.1="hear"):AkOk (t.ak ns ts p)/\0<=awN t.z/\awN t.z<=500/\t.z.to.length<ns.length/\t.z.aw=(("hear":Str),some (awN t.z))/\awN t.z=bj ts (ns.getD t.z.to.length "")+1:=by
 rcases h.gd.he hw with⟨e,_⟩ | ⟨_,tl,aw⟩
 . exact absurd e h.cl
 have ea:awN t.z=bj ts (ns.getD t.z.to.length "")+1:=by unfold awN;rw[aw];rfl
 obtain⟨d0,d4⟩:=oT k (ns.getD t.z.to.length "");have nr:=h.nr;refine⟨⟨k,n6,by show 0<=t.nr;omega,fun _=>tl,h.gd.po,h.s0,h.s1,h.gd.e0,h.gd.e1,by show t.z.to.length<=100;omega⟩,by omega,by omega,tl,by rw[ea];exact aw,ea⟩
theorem TkOk.hear (k:GmK ns ts p) (n6:ns.length<=6) (h:TkOk ns ts p t) (hw:t.z.aw.1="hear"):HearOk ns p t.z (t.said ns ts p rows):=by
 obtain ⟨ok,a0,a5,tl,aw,ea⟩:=h.ak k n6 hw;have p2:=k.p2;have p9:=k.p9;obtain⟨_,r2,r3⟩:=lE (rows:=rows) ok 200 ⟨0,t.bx,[]⟩ h.bo (fun x hx=>by cases hx) a0;have xo:bV (t.said ns ts p rows) p:=xc r2 (by show 0<p;omega);have xl:((t.said ns ts p rows).length:Int)=awN t.z:=tT r3;have hx:ns.getD t.z.to.length ""∈ns:=by
  rw[zS0,zK0 tl];exact qL0 tl
 obtain⟨d0,d1⟩:=k.deg _ hx;obtain⟨_,d4⟩:=oT k (ns.getD t.z.to.length "");refine⟨by rw[xl];exact aw,xo,by omega,fun _=>⟨by omega,by omega,by omega,fun j=>?_⟩,h.gd.tl,h.gd.po⟩
 have:=jH xo (by omega) j
 omega
theorem vU(z:Db)(xs:List Int)(x0:xs≠[]):bw ns (dy p xs z)<=2*(ns.length-z.to.length)-1/\bE ns (dy p xs z)<=ns.length-z.to.length:=by
 have h1:(dy p xs z).to=z.to:=rfl;have h2:(dy p xs z).he=xs:=rfl;unfold bw bE;rw[h1,h2,zA0 x0,zA0 x0];have nh:¬ (dy p xs z).aw.1="hear":=by
  unfold dy;show ¬ (if _ then _ else _:Str×Option Int).1="hear"
  split
  . exact gP
  . exact pZ
 rw[zA0 nh,zA0 nh]
 constructor <;> split <;> omega
theorem TkOk.ask (k:GmK ns ts p) (n6:ns.length<=6) (h:TkOk ns ts p t) (hw:t.z.aw.1="hear"):TkOk ns ts p (t.ask ns ts p rows)/\bw ns (t.ask ns ts p rows).z<bw ns t.z/\bE ns (t.ask ns ts p rows).z<=bE ns t.z/\¬ (t.ask ns ts p rows).z.aw.1="hear":=by
 obtain⟨ok,a0,a5,tl,aw,ea⟩:=h.ak k n6 hw;have ho:=h.hear (rows:=rows) k n6 hw;obtain⟨r1,_,_⟩:=lE (rows:=rows) ok 200 ⟨0,t.bx,[]⟩ h.bo (fun x hx=>by cases hx) a0;obtain⟨g1,g2⟩:=h.gd.hear k ho;have x0:=h.gd.hear_ne k ho;have e:cY ns ts p (t.said ns ts p rows) t.z=dy p (t.said ns ts p rows) { t.z with pl:=t.z.pl+((t.said ns ts p rows).length:Int) }:=zA0 h.cl;have nr:=h.nr;obtain⟨l1,l2⟩:=vU (ns:=ns) (p:=p) { t.z with pl:=t.z.pl+((t.said ns ts p rows).length:Int) } _ x0;have s1:bw ns t.z=2*(ns.length-t.z.to.length):=zB0 hw;have s2:bE ns t.z=ns.length-t.z.to.length:=zB0 hw;refine⟨⟨g1,g2,?_,?_,r1,by show 1<=t.nr+1;omega,fun _ he=>?_⟩,?_,?_,?_⟩
 . show 0<=(cY ns ts p _ t.z).s;rw[e];exact h.s0
 . show(cY ns ts p _ t.z).s<p;rw[e];exact h.s1
 . have:(cY ns ts p (t.said ns ts p rows) t.z).he=[]:=he
   rw[e]at this;exact absurd this x0
 . show bw ns (cY ns ts p _ t.z)<_;rw[e,s1];have l1':bw ns (dy p (t.said ns ts p rows) { t.z with pl:=t.z.pl+((t.said ns ts p rows).length:Int) })<=2*(ns.length-t.z.to.length)-1:=l1;omega
 . show bE ns (cY ns ts p _ t.z)<=_;rw[e,s2];exact l2
 . show ¬ (cY ns ts p _ t.z).aw.1="hear";rw[e];unfold dy;show ¬ (if _ then _ else _:Str×Option Int).1="hear"
   split
   . exact gP
   . exact pZ
theorem TkOk.tossOk (h:TkOk ns ts p t) (hw:t.z.aw.1="coin") {r:Int} (r0:0<=r) (r1:r<p):TossOk ns p t.z r:=⟨hw,r0,r1,h.gd.tl,(h.gd.co hw).2,h.gd.po⟩
theorem TkOk.toss (k:GmK ns ts p) (h:TkOk ns ts p t) (hw:t.z.aw.1="coin") {r:Int} (r0:0<=r) (r1:r<p):TkOk ns ts p (t.toss ns ts p r)/\bw ns (t.toss ns ts p r).z<bw ns t.z/\bE ns (t.toss ns ts p r).z+1<=bE ns t.z/\¬ (t.toss ns ts p r).z.aw.1="coin"/\(t.z.he=[]->(t.toss ns ts p r).z.s=r/\(t.toss ns ts p r).z.to=[])/\(t.z.he≠[]->(t.toss ns ts p r).z.s=t.z.s/\(t.toss ns ts p r).z.to=t.z.to++[r]):=by
 have ok:=h.tossOk hw r0 r1;obtain⟨g1,g2⟩:=h.gd.toss k ok;have nh:¬ t.z.aw.1="hear":=by rw[hw];exact gP
 have s1:bw ns t.z=if t.z.he=[]then 2*ns.length+1 else 2*(ns.length-t.z.to.length)-1:=by unfold bw;rw[zA0 nh,zB0 hw]
 have s2:bE ns t.z=if t.z.he=[]then ns.length+1 else ns.length-t.z.to.length:=by unfold bE;rw[zA0 nh,zB0 hw]
 have nr:=h.nr
 by_cases c:t.z.he=[]
 . have et:=h.fi hw c;have e:cW ns ts p r t.z=goOn ns ts p { t.z with pl:=t.z.pl+1,s:=r,ed:=hor r p t.z.cl }:=zB0 c;have lw:=sK (ns:=ns) (ts:=ts) (p:=p) { t.z with pl:=t.z.pl+1,s:=r,ed:=hor r p t.z.cl };have ll:=nK (ns:=ns) (ts:=ts) (p:=p) { t.z with pl:=t.z.pl+1,s:=r,ed:=hor r p t.z.cl };have ln:=kz (ns:=ns) (ts:=ts) (p:=p) { t.z with pl:=t.z.pl+1,s:=r,ed:=hor r p t.z.cl };rw[←e]at lw ll ln;obtain⟨w1,w2,w3,w4⟩:=lw;have l1:bw ns (cW ns ts p r t.z)<=2*(ns.length-t.z.to.length):=ll.1;have l2:bE ns (cW ns ts p r t.z)<=ns.length-t.z.to.length:=ll.2;rw[zB0 c]at s1 s2;refine⟨⟨g1,g2,?_,?_,h.bo,nr,fun a=>absurd a ln⟩,?_,?_,ln,fun _=>⟨w1,w2.trans et⟩,fun z=>absurd c z⟩
   . show 0<=(cW ns ts p r t.z).s;rw[w1];exact r0
   . show(cW ns ts p r t.z).s<p;rw[w1];exact r1
   . show bw ns (cW ns ts p r t.z)<_;omega
   . show bE ns (cW ns ts p r t.z)+1<=_;omega
 . have tl:=((h.gd.co hw).2 c).2;have e:cW ns ts p r t.z=goOn ns ts p { t.z with pl:=t.z.pl+1,ed:=val p t.z.he r,to:=t.z.to++[r] }:=zA0 c;have lw:=sK (ns:=ns) (ts:=ts) (p:=p) { t.z with pl:=t.z.pl+1,ed:=val p t.z.he r,to:=t.z.to++[r] };have ll:=nK (ns:=ns) (ts:=ts) (p:=p) { t.z with pl:=t.z.pl+1,ed:=val p t.z.he r,to:=t.z.to++[r] };have ln:=kz (ns:=ns) (ts:=ts) (p:=p) { t.z with pl:=t.z.pl+1,ed:=val p t.z.he r,to:=t.z.to++[r] };rw[←e]at lw ll ln;obtain⟨w1,w2,w3,w4⟩:=lw;have el:(t.z.to++[r]).length=t.z.to.length+1:=by rw[zM0];rfl
   have l1:bw ns (cW ns ts p r t.z)<=2*(ns.length-(t.z.to++[r]).length):=ll.1;have l2:bE ns (cW ns ts p r t.z)<=ns.length-(t.z.to++[r]).length:=ll.2;rw[el]at l1 l2;rw[zA0 c]at s1 s2;refine⟨⟨g1,g2,?_,?_,h.bo,nr,fun a=>absurd a ln⟩,?_,?_,ln,fun z=>absurd z c,fun _=>⟨w1,w2⟩⟩
   . show 0<=(cW ns ts p r t.z).s;rw[w1];exact h.s0
   . show(cW ns ts p r t.z).s<p;rw[w1];exact h.s1
   . show bw ns (cW ns ts p r t.z)<_;omega
   . show bE ns (cW ns ts p r t.z)+1<=_;omega
theorem vB(k:GmK ns ts p)(n6:ns.length<=6):AkOk ((Tk.new ts).ak ns ts p)/\awN (Tk.new ts).z=(ts.length:Int)/\HearOk ns p (Db.new ts) ((Tk.new ts).said ns ts p rows)/\jO p (Tk.new ts).bx:=by
 have p2:=k.p2;have t1:=k.t1;have t10:=k.t10;have b0:jO p (Tk.new ts).bx:=fun x=>by show(0:Int)<=0/\(0:Int)<p;omega
 have ok:AkOk ((Tk.new ts).ak ns ts p):=⟨k,n6,Int.le_refl 0,fun z=>absurd z (by show ¬ (0:Int)<0;omega),(fun x hx=>by cases hx),Int.le_refl 0,(by show(0:Int)<p;omega),Int.le_refl 0,(by show(0:Int)<p;omega),zU0 _⟩
 obtain⟨_,r2,r3⟩:=lE (rows:=rows) ok 200 ⟨0,(Tk.new ts).bx,[]⟩ b0 (fun x hx=>by cases hx) (by show(0:Int)<=(ts.length:Int);omega);have xl:(((Tk.new ts).said ns ts p rows).length:Int)=(ts.length:Int):=tT r3;refine⟨ok,rfl,⟨?_,xc r2 (by show 0<p;omega),by omega,fun z=>absurd rfl z,zU0 _,fun x hx=>by cases hx⟩,b0⟩;rw[xl];rfl
theorem lQ (k:GmK ns ts p) (n6:ns.length<=6):TkOk ns ts p ((Tk.new ts).ask ns ts p rows)/\bw ns ((Tk.new ts).ask ns ts p rows).z<=2*ns.length+1/\bE ns ((Tk.new ts).ask ns ts p rows).z<=ns.length+(if 1<ts.length then 1 else 0)/\(1<ts.length->((Tk.new ts).ask ns ts p rows).z.aw=(("coin":Str),none)/\((Tk.new ts).ask ns ts p rows).z.he=[]/\((Tk.new ts).ask ns ts p rows).z.to=[])/\(¬ 1<ts.length->¬ ((Tk.new ts).ask ns ts p rows).z.aw.1="coin"/\((Tk.new ts).ask ns ts p rows).z.s=0/\((Tk.new ts).ask ns ts p rows).z.to=[]):=by
 have p2:=k.p2;have t1:=k.t1;obtain⟨ok,_,ho,b0⟩:=vB (rows:=rows) k n6;obtain⟨r1,_,_⟩:=lE (rows:=rows) ok 200 ⟨0,(Tk.new ts).bx,[]⟩ b0 (fun x hx=>by cases hx) (by show(0:Int)<=(ts.length:Int);omega);obtain⟨g1,g2⟩:=(Gd.new k).hear k ho;have e0:cY ns ts p ((Tk.new ts).said ns ts p rows) (Db.new ts)=jn ns ts p ((Tk.new ts).said ns ts p rows) { Db.new ts with pl:=(Db.new ts).pl+(((Tk.new ts).said ns ts p rows).length:Int) }:=zB0 rfl
 by_cases c:ts.length=1
 . have e:cY ns ts p ((Tk.new ts).said ns ts p rows) (Db.new ts)=goOn ns ts p { Db.new ts with pl:=(Db.new ts).pl+(((Tk.new ts).said ns ts p rows).length:Int),cl:=(Tk.new ts).said ns ts p rows,s:=0,ed:=hor 0 p ((Tk.new ts).said ns ts p rows) }:=by
    rw[e0];exact zB0 c
   have lw:=sK (ns:=ns) (ts:=ts) (p:=p) { Db.new ts with pl:=(Db.new ts).pl+(((Tk.new ts).said ns ts p rows).length:Int),cl:=(Tk.new ts).said ns ts p rows,s:=0,ed:=hor 0 p ((Tk.new ts).said ns ts p rows) };have ll:=nK (ns:=ns) (ts:=ts) (p:=p) { Db.new ts with pl:=(Db.new ts).pl+(((Tk.new ts).said ns ts p rows).length:Int),cl:=(Tk.new ts).said ns ts p rows,s:=0,ed:=hor 0 p ((Tk.new ts).said ns ts p rows) };have ln:=kz (ns:=ns) (ts:=ts) (p:=p) { Db.new ts with pl:=(Db.new ts).pl+(((Tk.new ts).said ns ts p rows).length:Int),cl:=(Tk.new ts).said ns ts p rows,s:=0,ed:=hor 0 p ((Tk.new ts).said ns ts p rows) };rw[←e]at lw ll ln;obtain⟨w1,w2,w3,w4⟩:=lw;have l1:bw ns (cY ns ts p ((Tk.new ts).said ns ts p rows) (Db.new ts))<=2*(ns.length-0):=ll.1;have l2:bE ns (cY ns ts p ((Tk.new ts).said ns ts p rows) (Db.new ts))<=ns.length-0:=ll.2;refine⟨⟨g1,g2,?_,?_,r1,by show(1:Int)<=0+1;decide,fun a=>absurd a ln⟩,?_,?_,fun z=>by omega,fun _=>⟨ln,w1,w2⟩⟩
   . show 0<=(cY ns ts p _ (Db.new ts)).s;rw[w1];exact Int.le_refl 0
   . show(cY ns ts p _ (Db.new ts)).s<p;rw[w1];show(0:Int)<p;omega
   . show bw ns (cY ns ts p _ (Db.new ts))<=_;omega
   . show bE ns (cY ns ts p _ (Db.new ts))<=_;rw[zA0 (by omega)];omega
 . have e:cY ns ts p ((Tk.new ts).said ns ts p rows) (Db.new ts)={ Db.new ts with pl:=(Db.new ts).pl+(((Tk.new ts).said ns ts p rows).length:Int),cl:=(Tk.new ts).said ns ts p rows,aw:=("coin",none) }:=by
    rw[e0];exact zA0 c
   have ez:((Tk.new ts).ask ns ts p rows).z={ Db.new ts with pl:=(Db.new ts).pl+(((Tk.new ts).said ns ts p rows).length:Int),cl:=(Tk.new ts).said ns ts p rows,aw:=("coin",none) }:=e;refine⟨⟨g1,g2,?_,?_,r1,by show(1:Int)<=0+1;decide,fun _ _=>?_⟩,?_,?_,fun _=>⟨?_,?_,?_⟩,fun z=>by omega⟩
   . rw[ez];exact Int.le_refl 0
   . rw[ez];show(0:Int)<p;omega
   . rw[ez];rfl
   . rw[ez];show(if(("coin":Str)="hear")then _ else if(("coin":Str)="coin")then(if([]:List Int)=[]then 2*ns.length+1 else _)else 0)<=_;rw[zA0 gP,zB0 rfl,zB0 rfl];exact zG0 _
   . rw[ez];show(if(("coin":Str)="hear")then _ else if(("coin":Str)="coin")then(if([]:List Int)=[]then ns.length+1 else _)else 0)<=_;rw[zA0 gP,zB0 rfl,zB0 rfl,zB0 (by omega)];exact zG0 _
   . rw[ez]
   . rw[ez];rfl
   . rw[ez];rfl
end
inductive TR where
 | claims (xs:List Int) | say (xs:List Int) | coin (r:Int)
noncomputable def cJ(ns:List Str)(ts:List Tr)(p:Int)(rows:List Hr):List Int->Nat->Tk->List TR×Tk
 | _,0,t=>([],t)
 | cs,n+1,t=>if t.z.aw.1="hear" then(.say (t.said ns ts p rows)::(cJ ns ts p rows cs n (t.ask ns ts p rows)).1,(cJ ns ts p rows cs n (t.ask ns ts p rows)).2)
   else if t.z.aw.1="coin" then(.coin (cs.headD 0)::(cJ ns ts p rows cs.tail n (t.toss ns ts p (cs.headD 0))).1,(cJ ns ts p rows cs.tail n (t.toss ns ts p (cs.headD 0))).2)
   else([],t)
noncomputable def qJ(ns:List Str)(ts:List Tr)(p:Int)(rows:List Hr)(cs:List Int):List TR×Tk:=(.claims ((Tk.new ts).said ns ts p rows)::(cJ ns ts p rows cs 20 ((Tk.new ts).ask ns ts p rows)).1,(cJ ns ts p rows cs 20 ((Tk.new ts).ask ns ts p rows)).2)
theorem de {ns:List Str} {ts:List Tr} {p:Int} {rows:List Hr} {cs:List Int} {t:Tk} (h1:¬ t.z.aw.1="hear") (h2:¬ t.z.aw.1="coin"):∀n,cJ ns ts p rows cs n t=([],t)
 | 0=>rfl
 | n+1=>by
   show(if _ then _ else _)=_;rw[zA0 h1,zA0 h2]
noncomputable def settle(ns:List Str)(ts:List Tr)(p:Int)(rows:List Hr):Nat->Tk->Tk
 | 0,t=>t
 | n+1,t=>if t.z.aw.1="hear" then settle ns ts p rows n (t.ask ns ts p rows)else t
def iS(f:Int->Int×Option (List Int)):Nat->Int×Option (List Int)
 | 0=>(0,none)
 | k+1=>((iS f k).1+(f (k:Int)).1,(iS f k).2.or (f (k:Int)).2)
noncomputable def gG(ns:List Str)(ts:List Tr)(p:Int)(rows:List Hr)(cn:Nat):Nat->Tk->List Int->Int×Option (List Int)
 | 0,_,_=>(0,none)
 | d+1,t,cs=>if(settle ns ts p rows 2 t).z.aw.1="believed" then(1,none)else if(settle ns ts p rows 2 t).z.aw.1="caught" then(0,some (cs++List.replicate (cn-cs.length) 0))
   else iS (fun r=>gG ns ts p rows cn d ((settle ns ts p rows 2 t).toss ns ts p r) (cs++[r])) p.toNat
def Beg(ns:List Str)(ts:List Tr)(p:Int)(t:Tk):Prop:=t=Tk.new ts∨TkOk ns ts p t
section
variable {ns:List Str} {ts:List Tr} {p:Int} {t:Tk} {rows:List Hr}
theorem cR (h:¬ t.z.aw.1="hear"):∀n,settle ns ts p rows n t=t
 | 0=>rfl
 | n+1=>zA0 h
theorem jT (k:GmK ns ts p) (n6:ns.length<=6) (h:TkOk ns ts p t):TkOk ns ts p (settle ns ts p rows 2 t)/\bE ns (settle ns ts p rows 2 t).z<=bE ns t.z/\¬ (settle ns ts p rows 2 t).z.aw.1="hear":=by
 by_cases c:t.z.aw.1="hear"
 . obtain⟨o1,_,o3,o4⟩:=h.ask (rows:=rows) k n6 c;have e:settle ns ts p rows 2 t=t.ask ns ts p rows:=(zB0 c).trans (cR o4 1);rw[e];exact⟨o1,o3,o4⟩
 . rw[cR c];exact⟨h,zG0 _,c⟩
theorem jd (k:GmK ns ts p) (n6:ns.length<=6):TkOk ns ts p (settle ns ts p rows 2 (Tk.new ts))/\bE ns (settle ns ts p rows 2 (Tk.new ts)).z<=ns.length+(if 1<ts.length then 1 else 0)/\¬ (settle ns ts p rows 2 (Tk.new ts)).z.aw.1="hear":=by
 obtain⟨o1,_,o3,_,_⟩:=lQ (rows:=rows) k n6;have e:settle ns ts p rows 2 (Tk.new ts)=settle ns ts p rows 1 ((Tk.new ts).ask ns ts p rows):=zB0 rfl;rw[e]
 by_cases c:((Tk.new ts).ask ns ts p rows).z.aw.1="hear"
 . obtain⟨q1,_,q3,q4⟩:=o1.ask (rows:=rows) k n6 c;have e:settle ns ts p rows 1 ((Tk.new ts).ask ns ts p rows)=((Tk.new ts).ask ns ts p rows).ask ns ts p rows:=zB0 c;rw[e];exact⟨q1,qC0 q3 o3,q4⟩
 . rw[cR c];exact⟨o1,o3,c⟩
theorem Beg.settle (k:GmK ns ts p) (n6:ns.length<=6) (h:Beg ns ts p t):TkOk ns ts p (settle ns ts p rows 2 t)/\¬ (settle ns ts p rows 2 t).z.aw.1="hear":=by
 rcases h with rfl | h
 . exact⟨(jd k n6).1,(jd k n6).2.2⟩
 . exact⟨(jT k n6 h).1,(jT k n6 h).2.2⟩
theorem uG (h:TkOk ns ts p t) (hn:¬ t.z.aw.1="hear") (h1:¬ t.z.aw.1="believed") (h2:¬ t.z.aw.1="caught"):t.z.aw.1="coin":=by
 rcases h.gd.ww with e | e | e | e
 . exact absurd e hn
 . exact e
 . exact absurd e h2
 . exact absurd e h1
structure AskOk(ns:List Str)(ts:List Tr)(p:Int)(rows:List Hr)(t:Tk):Prop where
 ak:AkOk (t.ak ns ts p)
 bo:jO p t.bx
 aw:t.z.aw=(("hear":Str),some (awN t.z))
 a0:0<=awN t.z
 a5:awN t.z<=500
 ho:HearOk ns p t.z (t.said ns ts p rows)
theorem Beg.ask (k:GmK ns ts p) (n6:ns.length<=6) (h:Beg ns ts p t) (hw:t.z.aw.1="hear"):AskOk ns ts p rows t:=by
 rcases h with rfl | h
 . obtain⟨ak0,an0,ho0,bo0⟩:=vB (rows:=rows) k n6;have t1:=k.t1;have t10:=k.t10;exact⟨ak0,bo0,rfl,by rw[an0];omega,by rw[an0];omega,ho0⟩
 . obtain⟨ak,a0,a5,tl,aw,ea⟩:=h.ak k n6 hw;exact⟨ak,h.bo,aw,a0,a5,h.hear (rows:=rows) k n6 hw⟩
theorem Beg.asked (k:GmK ns ts p) (n6:ns.length<=6) (h:Beg ns ts p t) (hw:t.z.aw.1="hear"):TkOk ns ts p (t.ask ns ts p rows):=by
 rcases h with rfl | h
 . exact(lQ (rows:=rows) k n6).1
 . exact(h.ask (rows:=rows) k n6 hw).1
end
section
variable {C CM CA CG:Addr}
structure TalkAt(C CM CG:Addr)(H:Hp)(D M g h b:Addr)(rows:List Hr)(ns:List Str)(ts:List Tr)(p:Int)(t:Tk)(m:Nat):Prop where
 DA:DbAt C H D g t.z
 G:Gm CG H g ns ts p
 hM:∃dm,H M=some (.ins CM dm (ml g h t.nr b))
 hh:∃rv,H h=some (.tup rv)/\RowsAt H rv rows
 BX:BxAt H b t.bx m
 ne:D≠M
theorem TalkAt.same{H H':Hp}{D M g h b:Addr}{rows:List Hr}{ns:List Str}{ts:List Tr}{p:Int}{t:Tk}{m:Nat}(w:TalkAt C CM CG H D M g h b rows ns ts p t m)(s:Same H H'):TalkAt C CM CG H' D M g h b rows ns ts p t m:=by
 obtain⟨DA,G,⟨dm,hM⟩,⟨rv,hh,R⟩,B,ne⟩:=w;exact⟨DA.same s,G.same s,⟨dm,s _ _ hM⟩,⟨rv,s _ _ hh,R.mono (aG s)⟩,B.keep fun o e=>s _ _ e,ne⟩
theorem DbAt.but2{H H':Hp}{D g M b:Addr}{z:Db}{C' dm:Addr}{fs:List (Str×V)}{kvs:List (Key×V)}(h:DbAt C H D g z)(s:DF M b H H')(hM:H M=some (.ins C' dm fs))(hb:H b=some (.dK kvs))(ne:D≠M):DbAt C H' D g z:=by
 obtain⟨dx,aA,aC,aH,aT,R⟩:=h;have kT:cx H H':=fun a xs e=>s _ _ (bz e hM (by intro z;cases z)) (bz e hb (by intro z;cases z)) e
 exact⟨dx,aA,aC,aH,aT,s _ _ ne (bz R.hD hb (by intro z;cases z)) R.hD,kT _ _ R.hA,kT _ _ R.hC,kT _ _ R.hH,kT _ _ R.hT⟩
theorem Gm.but2{H H':Hp}{g M b:Addr}{ns:List Str}{ts:List Tr}{p:Int}{dm g' h:Addr}{r:Int}{b':Addr}{kvs:List (Key×V)}(G:Gm CG H g ns ts p)(s:DF M b H H')(hM:H M=some (.ins CM dm (ml g' h r b')))(hb:H b=some (.dK kvs)):Gm CG H' g ns ts p:=by
 obtain⟨a,b1,d,tv,⟨dg,hg⟩,h2,h3,h4,h5⟩:=G;have kT:cx H H':=fun a xs e=>s _ _ (bz e hM (by intro z;cases z)) (bz e hb (by intro z;cases z)) e
 have gM:g≠M:=fun e=>by
  rw[e,hM]at hg;cases hg
 exact⟨a,b1,d,tv,⟨dg,s _ _ gM (bz hg hb (by intro z;cases z)) hg⟩,kT _ _ h2,kT _ _ h3,h4.mono kT,s _ _ (bz h5 hM (by intro z;cases z)) (bz h5 hb (by intro z;cases z)) h5⟩
theorem TalkAt.doub{H H':Hp}{D M g h b:Addr}{rows:List Hr}{ns:List Str}{ts:List Tr}{p:Int}{t:Tk}{m:Nat}{z':Db}(w:TalkAt C CM CG H D M g h b rows ns ts p t m)(s:SameBut D H H')(DA:DbAt C H' D g z'):TalkAt C CM CG H' D M g h b rows ns ts p ⟨z',t.bx,t.nr⟩ m:=by
 obtain⟨DA0,G,⟨dm,hM⟩,⟨rv,hh,R⟩,B,ne⟩:=w;obtain⟨dx,aA,aC,aH,aT,R0⟩:=DA0;have kT:cx H H':=fun a xs e=>s _ _ (bz e R0.hD (by intro z;cases z)) e
 obtain⟨kvs,hb,_⟩:=id B;exact⟨DA,G.but R0.hD (G.ne R0.hD iU) s,⟨dm,s _ _ ne.symm hM⟩,⟨rv,kT _ _ hh,R.mono kT⟩,B.keep fun o e=>s _ _ (bz hb R0.hD (by intro z;cases z)) e,ne⟩
def oO (C CM CG:Addr):Sp:=fun vs H Q _=>∃(D M g h b:Addr) (rows:List Hr) (ns:List Str) (ts:List Tr) (p:Int) (t:Tk) (m:Nat),vs=[.ref M,.ref D]/\TalkAt C CM CG H D M g h b rows ns ts p t m/\GmK ns ts p/\(∀r∈rows,r.good)/\AkOk (t.ak ns ts p)/\jO p t.bx/\t.z.aw=(("hear":Str),some (awN t.z))/\0<=awN t.z/\awN t.z<=500/\HearOk ns p t.z (t.said ns ts p rows)/\m<=5000/\
 ∀(a:Addr)(H':Hp),H a=none->H' a=some (.tup ((t.said ns ts p rows).map V.int))->TalkAt C CM CG H' D M g h b rows ns ts p (t.ask ns ts p rows) (m+200)->But3 D M b H H'->Q (.ref a) H'
theorem oK:FnScope ["machine","doubter","values"] ["machine","doubter"] (ag dS):=⟨rfl,rfl,rfl,by decide +kernel,rfl,by decide +kernel,by decide +kernel⟩
structure Ways(P:Program)(w:World)(K:W.Frag)(mg:Str->Option Value)(base:Heap)(C CM CG fW fU fH fT fS:Addr)(fdW fdU fdH fdT fdS:FuncData):Prop where
 mW:Meth K C "waits" fW
 GW:FnOk P w K mg base CX0 1 fW fdW ["self"] (Cw C fun z v H=>∃a,v=.ref a/\H a=some (.tup (awV z.aw)))
 bW:Binds K fdW ["self"] []
 mU:Meth K C "due" fU
 GU:FnOk P w K mg base CX0 1 fU fdU ["self"] (Cw C fun z v _=>v=.int z.ed)
 bU:Binds K fdU ["self"] []
 mH:Meth K C "hear" fH
 GH:FnOk P w K mg base CX0 18 fH fdH ["self","values"] (zW C CG)
 bH:Binds K fdH ["self","values"] []
 mT:Meth K C "toss" fT
 GT:FnOk P w K mg base CX0 17 fT fdT ["self","r"] (zR C CG)
 bT:Binds K fdT ["self","r"] []
 mS:Meth K CM "say" fS
 GS:FnOk P w K mg base CX0 25 fS fdS ["self","many","due","s","coins"] (DK CM CG)
 bS:Binds K fdS ["self","many","due","s","coins"] []
theorem TalkAt.asked{H H1:Hp}{D M g h b dm:Addr}{rows:List Hr}{ns:List Str}{ts:List Tr}{p:Int}{t:Tk}{m:Nat}{n1:Int}(w:TalkAt C CM CG H D M g h b rows ns ts p t m)(hM:H M=some (.ins CM dm (ml g h t.nr b)))(B1:BxAt H1 b (t.run ns ts p rows).bx (m+200))(hM1:H1 M=some (.ins CM dm (ml g h (t.nr+1) b)))(s1:DF M b H H1)(e1:n1=t.nr+1):TalkAt C CM CG H1 D M g h b rows ns ts p ⟨t.z,(t.run ns ts p rows).bx,n1⟩ (m+200):=by
 obtain⟨DA0,G,_,⟨rv,hh,R⟩,B,ne⟩:=w;obtain⟨kvs,hb,_⟩:=id B;have kT:cx H H1:=fun a xs e=>s1 _ _ (bz e hM (by intro z;cases z)) (bz e hb (by intro z;cases z)) e
 subst e1;exact⟨DA0.but2 s1 hM hb ne,G.but2 s1 hM hb,⟨dm,hM1⟩,⟨rv,kT _ _ hh,R.mono kT⟩,B1,ne⟩
theorem qD {f fW fU fH fT fS:Addr} {fd fdW fdU fdH fdT fdS:FuncData} (F:Fun K "asked_once" "asked_once" dS f fd) (B:Bl mg) (T:DTxt K mg C) (TM:MTxt K mg CM) (Y:Ways P w K mg base C CM CG fW fU fH fT fS fdW fdU fdH fdT fdS):FnOk P w K mg base CX0 26 f fd ["machine","doubter"] (oO C CM CG):=by
 refine F.ok oK (fun vs H Q E h=>?_) (fun cdv A outer s H vs Q E hr h=>?_)
 . obtain⟨D,M,g,h,b,rows,ns,ts,p,t,m,rfl,_⟩:=h;rfl
 obtain ⟨D,M,g,h,b,rows,ns,ts,p,t,m,rfl,W,k,rg,ok,bo,aw,a0,a5,ho,mm,q⟩:=h;have hr1:Room 1 _:=hr.mono (by decide);have hr18:Room 18 _:=hr.mono (by decide);have hr25:Room 25 _:=hr.mono (by decide);refine⟨_,(ad (ao (i:=2) oK.nd rfl (Or.inl rfl) (db (pv 0) TM.cl Y.mS Y.GS hr25 Y.bS .nil bQ (aa (aP ix_tup (cK (pv 1) T.cl Y.mW Y.GW hr1 Y.bW .nil bQ) af (fun _ _=>rfl)) (aa (cK (pv 1) T.cl Y.mU Y.GU hr1 Y.bU .nil bQ) (aa (ax (pv 1) rfl) (aa (bq mq rfl B.list lg (aa (ax (pv 1) rfl) ae)) ae))))))
  (ad (bL (db (pv 1) T.cl Y.mH Y.GH hr18 Y.bH .nil bQ (aa (pv 2) ae)))
  (ah (az (bq ba rfl B.tuple bi (aa (pv 2) ae)))))),?_⟩
 obtain⟨dm,hM⟩:=W.hM;have DA:=W.DA;obtain⟨dx,aA,aC,aH,aT,R⟩:=id DA;refine⟨_,rfl,M,dm,_,rfl,hM,ml_n2,_,rfl,D,dx,_,rfl,R.hD,oz,D,g,t.z,rfl,DA,fun v hv=>?_⟩;obtain⟨av,rfl,hav⟩:=hv;rw[aw]at hav;refine⟨av,_,1,.int (awN t.z),rfl,rfl,zC0 hav,rfl,_,rfl,D,dx,_,rfl,R.hD,dl_n2,D,g,t.z,rfl,DA,fun v hv=>?_⟩;subst hv;refine⟨_,rfl,D,C,dx,_,_,rfl,R.hD,T.cl,T.nS,Fc,_,rfl,D,C,dx,_,_,rfl,R.hD,T.cl,T.nT,vY,aT,_,rfl,.inr (zC0 R.hT),fun l hl=>?_⟩;have I:=zD0 hl (.lst (t.z.to.map V.int));have g1:upd H l (.lst (t.z.to.map V.int)) l=some (.lst (t.z.to.map V.int)):=ai;generalize upd H l (.lst (t.z.to.map V.int))=H1 at I g1;have W1:=W.same I;obtain⟨rv,hh,RW⟩:=W1.hh;refine⟨M,g,h,b,dm,l,rv,t.ak ns ts p,rows,t.bx,m,rfl,I _ _ hM,hh,RW,rg,W1.BX,bo,mm,W1.G,ok,.inl g1,a0,a5,fun l2 H2 l20 hl2 B2 hM2 S2=>?_⟩;have hs:H2 l2=some (.lst ((t.said ns ts p rows).map V.int)):=hl2;have W2:=W1.asked (n1:=t.nr+1) (I _ _ hM) B2 hM2 S2 rfl;obtain⟨dx2,_,_,_,_,R2⟩:=id W2.DA;refine⟨_,rfl,D,dx2,_,rfl,R2.hD,dl_n4,_,rfl,D,g,l2,t.z,t.said ns ts p rows,ns,ts,p,rfl,W2.DA,W2.G,k,hs,ho.aw,ho.xo,ho.x5,ho.ro,ho.tl,ho.po,fun H3 S3 DA3=>?_⟩;have W3:=W2.doub S3 DA3;have hs3:=S3 _ _ (bz hs R2.hD (by intro z;cases z)) hs;refine⟨_,rfl,l2,_,rfl,.inl ⟨zH0 hs3,fun a ha=>?_⟩⟩;have J:=zD0 ha (.tup ((t.said ns ts p rows).map V.int));have fr:But3 D M b H H3:=fun c o h1 h2 h3 e=>S3 _ _ h1 (S2 _ _ h2 h3 (I _ _ e))
 refine q a _ ?_ ai (W3.same J) (fun c o h1 h2 h3 e=>J _ _ (fr c o h1 h2 h3 e));cases e:H a with
 | none=>rfl
 | some o=>
   obtain⟨dx3,_,_,_,_,R3⟩:=W3.DA;obtain⟨dm3,hM3⟩:=W3.hM;obtain⟨kvs,hb3,_⟩:=W3.BX;have n1:a≠D:=fun z=>by rw[z,R3.hD]at ha;cases ha
   have n2:a≠M:=fun z=>by rw[z,hM3]at ha;cases ha
   have n3:a≠b:=fun z=>by rw[z,hb3]at ha;cases ha
   rw[fr a o n1 n2 n3 e]at ha;cases ha
end
section
variable {C CM CA CG:Addr}
inductive TRAt(H:Hp):V->TR->Prop
 | claims {a b:Addr} {xs:List Int}:H a=some (.tup [.str "claims",.ref b])->H b=some (.tup (xs.map V.int))->TRAt H (.ref a) (.claims xs)
 | say {a b:Addr} {xs:List Int}:H a=some (.tup [.str "say",.ref b])->H b=some (.tup (xs.map V.int))->TRAt H (.ref a) (.say xs)
 | coin {a:Addr} {r:Int}:H a=some (.tup [.str "coin",.int r])->TRAt H (.ref a) (.coin r)
theorem TRAt.mono{H H':Hp}(k:cx H H'){v:V}{r:TR}(h:TRAt H v r):TRAt H' v r:=by
 cases h with
 | claims e f=>exact .claims (k _ _ e) (k _ _ f)
 | say e f=>exact .say (k _ _ e) (k _ _ f)
 | coin e=>exact .coin (k _ _ e)
def TRsAt(H:Hp):List V->List TR->Prop
 | [],[]=>True
 | v::vs,r::rs=>TRAt H v r/\TRsAt H vs rs
 | _,_=>False
theorem TRsAt.mono{H H':Hp}(k:cx H H'):∀{vs:List V}{rs:List TR},TRsAt H vs rs->TRsAt H' vs rs
 | [],[],_=>trivial
 | _::_,_::_,h=>⟨h.1.mono k,TRsAt.mono k h.2⟩
 | [],_::_,h=>h.elim
 | _::_,[],h=>h.elim
theorem TRsAt.snoc{H:Hp}{v:V}{r:TR}(hr:TRAt H v r):∀{vs:List V}{rs:List TR},TRsAt H vs rs->TRsAt H (vs++[v]) (rs++[r])
 | [],[],_=>⟨hr,trivial⟩
 | _::_,_::_,h=>⟨h.1,TRsAt.snoc hr h.2⟩
 | [],_::_,h=>h.elim
 | _::_,[],h=>h.elim
structure Told(H:Hp)(a:Addr)(x:List TR×Tk):Prop where
 ex:∃(b c:Addr)(vs:List V),H a=some (.tup [.ref b,.ref c])/\H b=some (.tup vs)/\TRsAt H vs x.1/\H c=some (.tup (awV x.2.z.aw))
theorem hc_in (o:Str):inV (.str o) [.str "hear",.str "coin"]=(decide (o="hear")||decide (o="coin")):=by
 show (("hear"==o)||(("coin"==o)||false))=_;rw[Bool.or_false];have e:∀z:Str,(z==o)=decide (o=z):=fun z=>by
  by_cases c:o=z
  . subst c;simp
  . rw[decide_eq_false c];simpa using fun h=>c h.symm
 rw[e,e]
def sZ(C CM CG:Addr):Sp:=fun vs H Q _=>∃(g h c:Addr)(rv:List V)(rows:List Hr)(ns:List Str)(ts:List Tr)(p:Int)(cs:List Int),vs=[.ref g,.ref h,.ref c]/\Gm CG H g ns ts p/\GmK ns ts p/\ns.length<=6/\H h=some (.tup rv)/\RowsAt H rv rows/\(∀r∈rows,r.good)/\IntsAt H c cs/\bV cs p/\ns.length+(if 1<ts.length then 1 else 0)<=cs.length/\cs.length<=100/\
 ∀(a:Addr)(H':Hp),Same H H'->Told H' a (qJ ns ts p rows cs)->Q (.ref a) H'
theorem gR:FnScope ["game","helper","coins","machine","doubter","talk","tossed"] ["game","helper","coins"] (ag iE):=⟨rfl,rfl,rfl,by decide +kernel,rfl,by decide +kernel,by decide +kernel⟩
theorem zq(a:Str×Option Int):atI (awV a) 0=some (.str a.1):=cL (j:=0) (Ed a)
theorem dJ {ns:List Str} {ts:List Tr} {p:Int} {rows:List Hr} {cs:List Int} {n:Nat} {t:Tk} (h:t.z.aw.1="hear"):cJ ns ts p rows cs (n+1) t=(.say (t.said ns ts p rows)::(cJ ns ts p rows cs n (t.ask ns ts p rows)).1,(cJ ns ts p rows cs n (t.ask ns ts p rows)).2):=zB0 h
theorem dL {ns:List Str} {ts:List Tr} {p:Int} {rows:List Hr} {cs:List Int} {n:Nat} {t:Tk} (h:t.z.aw.1="coin"):cJ ns ts p rows cs (n+1) t=(.coin (cs.headD 0)::(cJ ns ts p rows cs.tail n (t.toss ns ts p (cs.headD 0))).1,(cJ ns ts p rows cs.tail n (t.toss ns ts p (cs.headD 0))).2):=by
 show(if _ then _ else if _ then _ else _)=_;rw[zA0 (by rw[h];exact gP),zB0 h]
theorem cQ {ns:List Str} {ts:List Tr} {p:Int} {t:Tk} (h:TkOk ns ts p t) (hw:t.z.aw.1="hear"∨t.z.aw.1="coin"):1<=bw ns t.z/\(t.z.aw.1="coin" -> 1<=bE ns t.z):=by
 rcases hw with hw | hw
 . have tl:t.z.to.length<ns.length:=by
    rcases h.gd.he hw with⟨e,_⟩ | ⟨_,tl,_⟩
    . exact absurd e h.cl
    . exact tl
   refine⟨?_,fun z=>absurd (z.symm.trans hw) gP⟩
   have:bw ns t.z=2*(ns.length-t.z.to.length):=zB0 hw
   omega
 . have nh:¬ t.z.aw.1="hear":=by rw[hw];exact gP
   have s1:bw ns t.z=if t.z.he=[]then 2*ns.length+1 else 2*(ns.length-t.z.to.length)-1:=by unfold bw;rw[zA0 nh,zB0 hw]
   have s2:bE ns t.z=if t.z.he=[]then ns.length+1 else ns.length-t.z.to.length:=by unfold bE;rw[zA0 nh,zB0 hw]
   by_cases c:t.z.he=[]
   . rw[zB0 c]at s1 s2;exact⟨by omega,fun _=>by omega⟩
   . have tl:=((h.gd.co hw).2 c).2;rw[zA0 c]at s1 s2;exact⟨by omega,fun _=>by omega⟩
theorem zg{cs:List Int}{u:Nat}(h:u<cs.length):(cs.drop u).headD 0=cs.getD u 0/\(cs.drop u).tail=cs.drop (u+1):=by
 rw[List.drop_eq_getElem_cons h,zS0,zK0 h];exact⟨rfl,rfl⟩
theorem xr{K:W.Frag}{H:Hp}{c:Addr}{cs:List Int}{u:Nat}{Q:VK}(h:IntsAt H c cs)(hu:u<cs.length)(q:Q (.int (cs.getD u 0)) H):rIx K (.ref c) (.int (u:Int)) H Q:=
 h.elim (fun e=>.inl ⟨c,_,_,_,rfl,rfl,zH0 e,lV hu,q⟩) (fun e=>.inr (.inl ⟨c,_,_,_,rfl,rfl,zC0 e,lV hu,q⟩))
theorem TalkAt.put{H:Hp}{D M g h b L:Addr}{rows:List Hr}{ns:List Str}{ts:List Tr}{p:Int}{t:Tk}{m:Nat}{ys zs:List V}(w:TalkAt C CM CG H D M g h b rows ns ts p t m)(hL:H L=some (.lst ys))(G:Gm CG (upd H L (.lst zs)) g ns ts p):TalkAt C CM CG (upd H L (.lst zs)) D M g h b rows ns ts p t m:=by
 obtain⟨⟨dx,aA,aC,aH,aT,R⟩,_,⟨dm,hM⟩,⟨rv,hh,RR⟩,B,ne⟩:=w;have kT:cx H (upd H L (.lst zs)):=gs hL;have U:∀{c:Addr}{o:HO},c≠L->H c=some o->upd H L (.lst zs) c=some o:=fun n e=>by rw[ay n];exact e
 obtain⟨kvs,hb,_⟩:=id B;exact⟨⟨dx,aA,aC,aH,aT,U (bz R.hD hL (by intro z;cases z)) R.hD,kT _ _ R.hA,kT _ _ R.hC,kT _ _ R.hH,kT _ _ R.hT⟩,G,⟨dm,U (bz hM hL (by intro z;cases z)) hM⟩,⟨rv,kT _ _ hh,RR.mono kT⟩,B.keep fun o e=>U (bz hb hL (by intro z;cases z)) e,ne⟩
theorem TRsAt.len{H:Hp}:∀{vs:List V}{rs:List TR},TRsAt H vs rs->vs.length=rs.length
 | [],[],_=>rfl
 | _::_,_::_,h=>congrArg (·+1) (TRsAt.len h.2)
 | [],_::_,h=>h.elim
 | _::_,[],h=>h.elim
theorem yx {f fI fM fW fU fH fT fS:Addr} {fd fdI fdM fdW fdU fdH fdT fdS:FuncData} (F:Fun K "talked" "talked" iE f fd) (B:Bl mg) (T:DTxt K mg C) (TM:MTxt K mg CM) (Y:Ways P w K mg base C CM CG fW fU fH fT fS fdW fdU fdH fdT fdS)
 (MD:Mk K C fI) (GD:FnOk P w K mg base CX0 1 fI fdI ["self","game"] (oN C CG)) (bD:Binds K fdI ["self","game"] []) (MM:Mk K CM fM) (GM:FnOk P w K mg base CX0 1 fM fdM ["self","game","helper"] (oM CM)) (bM:Binds K fdM ["self","game","helper"] [])
 (b6:Cal P w K mg base 26 "asked_once" ["machine","doubter"] (oO C CM CG)):FnOk P w K mg base CX0 27 f fd ["game","helper","coins"] (sZ C CM CG):=by
 refine F.ok gR (fun vs H Q E h=>?_) (fun cdv A outer s H vs Q E hr h=>?_)
 . obtain⟨g,h,c,rv,rows,ns,ts,p,cs,rfl,_⟩:=h;rfl
 obtain ⟨g,h,c,rv,rows,ns,ts,p,cs,rfl,G,k,n6,hh,RW,rg,hc,co,cl,c100,q⟩:=h;have hr1:Room 1 _:=hr.mono (by decide);have hr2:Room (1+1) _:=hr.mono (by decide);have hr17:Room 17 _:=hr.mono (by decide);refine⟨_,(ad (ao (i:=3) gR.nd rfl (Or.inl rfl) (iw MM GM hr2 rfl TM.mgC bM .nil bQ (aa (pv 0) (aa (pv 1) ae))))
  (ad (ao (i:=4) gR.nd rfl (Or.inl rfl) (iw MD GD hr2 rfl T.mgC bD .nil bQ (aa (pv 0) ae)))
  (ad (ao (i:=5) gR.nd rfl (Or.inl rfl) (cw (aa (bc (aa aR (aa (au b6 hr (by decide) rfl (aa (pv 3) (aa (pv 4) ae))) ae))) ae)))
  (ad (ao (i:=6) gR.nd rfl (Or.inl rfl) af)
  (ad (ia PassesOwn.never (am qR (aP ix_tup (cK (pv 4) T.cl Y.mW Y.GW hr1 Y.bW .nil bQ) af (fun _ _=>rfl)) (bc (aa aR (aa aR ae))) (by with_unfolding_all rfl)) (ah (aS (am aZ (aP ix_tup (cK (pv 4) T.cl Y.mW Y.GW hr1 Y.bW .nil bQ) af (fun _ _=>rfl)) aR (aq _)) (ah (bL (iR PySem.F.plainAttrs_list PySem.F.slot_list_append PySem.F.type_list_append dw (pv 5) (aa (bc (aa aR (aa (au b6 hr (by decide) rfl (aa (pv 3) (aa (pv 4) ae))) ae))) ae)))) (ad (bL (db (pv 4) T.cl Y.mT Y.GT hr17 Y.bT .nil bQ (aa (aP BC (pv 2) (pv 6) (fun _ _=>rfl)) ae)))
   (ad (bL (iR PySem.F.plainAttrs_list PySem.F.slot_list_append PySem.F.type_list_append dw (pv 5) (aa (bc (aa aR (aa (aP BC (pv 2) (pv 6) (fun _ _=>rfl)) ae))) ae)))
   (ah (ao (i:=6) gR.nd rfl (Or.inl rfl) (aj aU (pv 6) af))))))))
  (ah (az (bc (aa (bq ba rfl B.tuple bi (aa (pv 5) ae)) (aa (cK (pv 4) T.cl Y.mW Y.GW hr1 Y.bW .nil bQ) ae)))))))))),?_⟩
 refine ⟨_,rfl,_,rfl,fun M dm hM0 hdm0 nM=>?_⟩;have K1:Same H (upd (upd H dm (.own M)) M (.ins CM dm [])):=fun a o e=>by
  rw[ay (aO e hM0),ay (aO e hdm0)];exact e
 refine ⟨M,g,h,dm,rfl,ai,fun b H2 b0 hM2 hb2 S2=>⟨rfl,?_⟩⟩;have T2:Same H H2:=Same.but K1 hM0 S2;have b00:H b=none:=K1.free b0;clear K1 S2 b0;refine⟨_,rfl,fun D dd hD0 hdd0 nD=>?_⟩;have K3:Same H2 (upd (upd H2 dd (.own D)) D (.ins C dd [])):=fun a o e=>by
  rw[ay (aO e hD0),ay (aO e hdd0)];exact e
 have G2:=G.same T2;have gD:g≠D:=by
  obtain⟨_,_,_,_,⟨dg,hg⟩,_⟩:=G2;exact aO hg hD0
 refine⟨D,g,dd,ns,ts,p,rfl,ai,G2.same K3,gD,fun H4 S4 DA4=>⟨rfl,?_⟩⟩;have T24:Same H2 H4:=Same.but K3 hD0 S4;have T4:Same H H4:=T2.trans T24;have D00:H D=none:=T2.free hD0;have nDM:D≠M:=(aO hM2 hD0).symm;have W4:TalkAt C CM CG H4 D M g h b rows ns ts p (Tk.new ts) 0:=⟨DA4,G.same T4,⟨dm,T24 _ _ hM2⟩,⟨rv,T4 _ _ hh,RW.mono (aG T4)⟩,⟨[],T24 _ _ hb2,zG0 _,fun _=>rfl⟩,nDM⟩
 clear K3 S4 DA4 T24 hM2 hb2 G2 T2;obtain⟨ak0,an0,ho0,bo0⟩:=vB (rows:=rows) k n6;have t1:=k.t1;have t10:=k.t10;refine⟨_,rfl,_,rfl,D,M,g,h,b,rows,ns,ts,p,Tk.new ts,0,rfl,W4,k,rg,ak0,bo0,rfl,by rw[an0];omega,by rw[an0];omega,ho0,by decide,fun a5 H5 a50 ha5 W5 S5=>?_⟩;have T5:Same H H5:=fun a o e=>S5 _ _ (aO e D00) (aO e hM0) (aO e b00) (T4 _ _ e)
 refine⟨(by show 2<=sizeLine;decide),fun t6 h6=>⟨(by show 1<=sizeLine;decide),fun L hL=>?_⟩⟩;have I6:=zD0 h6 (.tup [.str "claims",.ref a5]);have I7:=zD0 hL (.lst [.ref t6]);have R7:TRsAt (upd (upd H5 t6 (.tup [.str "claims",.ref a5])) L (.lst [.ref t6])) [.ref t6] [.claims ((Tk.new ts).said ns ts p rows)]:=⟨.claims (I7 _ _ ai) (I7 _ _ (I6 _ _ ha5)),trivial⟩
 have g7:upd (upd H5 t6 (.tup [.str "claims",.ref a5])) L (.lst [.ref t6]) L=some (.lst [.ref t6]):=ai;have J7:=I6.trans I7;have L00:H L=none:=(T5.trans I6).free hL;generalize upd (upd H5 t6 (.tup [.str "claims",.ref a5])) L (.lst [.ref t6])=H7 at R7 g7 J7;obtain⟨ok7,st7,co7,_⟩:=lQ (rows:=rows) k n6;have W7:=W5.same J7;have T7:=T5.trans J7;clear I6 I7 J7 S5 T5 W5 W4 T4 ha5 h6 hL;refine⟨fun mm σ H'=>∃(t:Tk) (n u m:Nat) (rs:List TR) (vs:List V),σ=[some (.ref g),some (.ref h),some (.ref c),some (.ref M),some (.ref D),some (.ref L),some (.int (u:Int))]/\mm=n/\bw ns t.z<=n/\n<=20/\TalkAt C CM CG H' D M g h b rows ns ts p t m/\TkOk ns ts p t/\H' L=some (.lst vs)/\TRsAt H' vs rs/\(rs++(cJ ns ts p rows (cs.drop u) n t).1,(cJ ns ts p rows (cs.drop u) n t).2)=qJ ns ts p rows cs/\bE ns t.z+u<=cs.length/\m+200*n<=4200/\rs.length+n<=21/\Same H H',
  ⟨20,(Tk.new ts).ask ns ts p rows,20,0,200,_,_,rfl,rfl,by omega,zG0 _,W7,ok7,g7,R7,rfl,by omega,by decide,(by show 1+20<=21;decide),T7⟩,?_⟩
 clear st7 co7 ok7 W7 T7 R7 g7 ak0 an0 ho0 bo0;rintro mm σ H' ⟨t,n,u,m,rs,vs,rfl,rfl,sn,n20,W,ok,hL,TR,eq,cn,mn,rn,S⟩;have DA:=W.DA;obtain⟨dx,aA,aC,aH,aT,R⟩:=id DA;have p2:=k.p2;have vl:=TR.len;refine⟨_,rfl,D,dx,_,rfl,R.hD,oz,D,g,t.z,rfl,DA,fun v hv=>?_⟩;obtain⟨av,rfl,hav⟩:=hv;refine⟨av,_,0,_,rfl,rfl,zC0 hav,zq _,(by show 2<=sizeLine;decide),fun c1 hc1=>?_⟩;have I1:=zD0 hc1 (.tup [.str "hear",.str "coin"]);refine⟨c1,_,rfl,.inr (zC0 ai),rfl,rfl,_,rfl,?_⟩;generalize upd H' c1 (.tup [.str "hear",.str "coin"])=H1 at I1;have W1:=W.same I1;have DA1:=W1.DA;have hL1:=I1 _ _ hL;have TR1:=TR.mono (aG I1);have S1:=S.trans I1;obtain⟨dx1,aA1,aC1,aH1,aT1,R1⟩:=id DA1;show if inV (.str t.z.aw.1) [.str "hear",.str "coin"]=true then _ else _
 rw[hc_in];clear W DA R hL TR S hav I1
 by_cases ch:t.z.aw.1="hear"
 . rw [decide_eq_true ch,Bool.true_or];refine ji ?_;refine⟨_,fun _ _ h=>h,?_⟩;refine⟨_,rfl,D,dx1,_,rfl,R1.hD,oz,D,g,t.z,rfl,DA1,fun v hv=>?_⟩;obtain⟨av2,rfl,hav2⟩:=hv;refine⟨av2,_,0,_,rfl,rfl,zC0 hav2,zq _,rfl,_,rfl,bh (congrArg V.str ch) ?_⟩;have sp:=(cQ ok (.inl ch)).1;obtain⟨n',rfl⟩:∃n',mm=n'+1:=⟨mm-1,by omega⟩
   obtain⟨ak,a0,a5,tl,aw,ea⟩:=ok.ak k n6 ch;have ho:=ok.hear (rows:=rows) k n6 ch;obtain⟨ok',st',co',_⟩:=ok.ask (rows:=rows) k n6 ch;refine⟨_,rfl,.inl ⟨rfl,_,zH0 hL1⟩,_,rfl,_,rfl,D,M,g,h,b,rows,ns,ts,p,t,m,rfl,W1,k,rg,ak,ok.bo,aw,a0,a5,ho,by omega,fun a6 H6 a60 ha6 W6 S6=>?_⟩;obtain⟨dmw,hMw⟩:=W1.hM;obtain⟨kvw,hbw,_⟩:=W1.BX;have kT6:cx H1 H6:=fun a xs e=>S6 _ _ (bz e R1.hD (by intro z;cases z)) (bz e hMw (by intro z;cases z)) (bz e hbw (by intro z;cases z)) e
   have hL6:=S6 _ _ (bz hL1 R1.hD (by intro z;cases z)) (bz hL1 hMw (by intro z;cases z)) (bz hL1 hbw (by intro z;cases z)) hL1;have S06:Same H H6:=fun a o e=>S6 _ _ (aO e D00) (aO e hM0) (aO e b00) (S1 _ _ e)
   refine ⟨(by show 2<=sizeLine;decide),fun t7 h7=>?_⟩;have I7:=zD0 h7 (.tup [.str "say",.ref a6]);have R7:TRAt (upd H6 t7 (.tup [.str "say",.ref a6])) (.ref t7) (.say (t.said ns ts p rows)):=.say ai (I7 _ _ ha6);generalize upd H6 t7 (.tup [.str "say",.ref a6])=H7 at I7 R7;have hL7:=I7 _ _ hL6;refine⟨L,_,_,rfl,rfl,hL7,aW (by omega),?_⟩;have k8:cx H7 (upd H7 L (.lst (vs++[.ref t7]))):=gs hL7;have S8:Same H (upd H7 L (.lst (vs++[.ref t7]))):=fun a o e=>by
    rw[ay (aO e L00)];exact I7 _ _ (S06 _ _ e)
   refine⟨n',Nat.lt_succ_self _,t.ask ns ts p rows,n',u,m+200,rs++[.say (t.said ns ts p rows)],_,rfl,rfl,by omega,by omega,(W6.same I7).put hL7 (G.same S8),ok',ai,((TR1.mono (fun a xs e=>k8 _ _ (I7 _ _ (kT6 _ _ e)))).snoc (R7.mono k8)),?_,by omega,by omega,by rw[zM0];show rs.length+1+n'<=21;omega,S8⟩;rw[←eq,dJ ch,List.append_assoc];rfl
 . rw [decide_eq_false ch,Bool.false_or]
   by_cases cc:t.z.aw.1="coin"
   . rw [decide_eq_true cc];refine ji ?_;refine⟨_,fun _ _ h=>h,?_⟩;refine⟨_,rfl,D,dx1,_,rfl,R1.hD,oz,D,g,t.z,rfl,DA1,fun v hv=>?_⟩;obtain⟨av2,rfl,hav2⟩:=hv;refine⟨av2,_,0,_,rfl,rfl,zC0 hav2,zq _,rfl,_,rfl,aF (neS ch) ?_⟩;obtain⟨sp,cp⟩:=cQ ok (.inr cc);have cp:=cp cc;obtain⟨n',rfl⟩:∃n',mm=n'+1:=⟨mm-1,by omega⟩
     have hu:u<cs.length:=by omega
     obtain⟨dh,dt⟩:=zg hu;have rr:=jH co (by omega) u;obtain⟨ok',st',co',_⟩:=ok.toss k cc rr.1 rr.2;have to:=ok.tossOk cc rr.1 rr.2;refine⟨_,rfl,D,dx1,_,rfl,R1.hD,Eb,_,rfl,_,rfl,xr (hc.same S1) hu ?_⟩;refine⟨D,g,t.z,cs.getD u 0,ns,ts,p,rfl,DA1,W1.G,k,to.aw,to.r0,to.r1,to.tl,to.ro,to.po,fun H6 S6 DA6=>?_⟩;have W6:=W1.doub S6 DA6;have kT6:cx H1 H6:=fun a xs e=>S6 _ _ (bz e R1.hD (by intro z;cases z)) e
     have hL6:=S6 _ _ (bz hL1 R1.hD (by intro z;cases z)) hL1;have S06:Same H H6:=fun a o e=>S6 _ _ (aO e D00) (S1 _ _ e)
     refine ⟨_,rfl,.inl ⟨rfl,_,zH0 hL6⟩,_,rfl,_,rfl,xr (hc.same S06) hu ?_⟩;refine⟨(by show 2<=sizeLine;decide),fun t7 h7=>?_⟩;have I7:=zD0 h7 (.tup [.str "coin",.int (cs.getD u 0)]);have R7:TRAt (upd H6 t7 (.tup [.str "coin",.int (cs.getD u 0)])) (.ref t7) (.coin (cs.getD u 0)):=.coin ai;generalize upd H6 t7 (.tup [.str "coin",.int (cs.getD u 0)])=H7 at I7 R7;have hL7:=I7 _ _ hL6;refine⟨L,_,_,rfl,rfl,hL7,aW (by omega),?_⟩;have k8:cx H7 (upd H7 L (.lst (vs++[.ref t7]))):=gs hL7;have S8:Same H (upd H7 L (.lst (vs++[.ref t7]))):=fun a o e=>by
      rw[ay (aO e L00)];exact I7 _ _ (S06 _ _ e)
     refine⟨_,rfl,_,_,rfl,rfl,?_⟩;refine⟨n',Nat.lt_succ_self _,t.toss ns ts p (cs.getD u 0),n',u+1,m,rs++[.coin (cs.getD u 0)],_,rfl,rfl,by omega,by omega,(W6.same I7).put hL7 (G.same S8),ok',ai,((TR1.mono (fun a xs e=>k8 _ _ (I7 _ _ (kT6 _ _ e)))).snoc (R7.mono k8)),?_,by omega,by omega,by rw[zM0];show rs.length+1+n'<=21;omega,S8⟩;rw[←eq,dL cc,dh,dt,List.append_assoc];rfl
   . rw [decide_eq_false cc];refine gJ ?_;rw[de ch cc,List.append_nil]at eq;refine⟨_,rfl,L,_,rfl,.inl ⟨zH0 hL1,fun b8 hb8=>?_⟩⟩;have I8:=zD0 hb8 (.tup vs);have g8:upd H1 b8 (.tup vs) b8=some (.tup vs):=ai;generalize upd H1 b8 (.tup vs)=H8 at I8 g8;have DA8:=DA1.same I8;obtain⟨dx8,_,_,_,_,R8⟩:=id DA8;refine⟨_,rfl,D,dx8,_,rfl,R8.hD,oz,D,g,t.z,rfl,DA8,fun v hv=>?_⟩;obtain⟨av2,rfl,hav2⟩:=hv;refine⟨(by show 2<=sizeLine;decide),fun a9 ha9=>?_⟩;have I9:=zD0 ha9 (.tup [.ref b8,.ref av2]);refine q a9 _ (S1.trans (I8.trans I9)) ⟨b8,av2,vs,ai,I9 _ _ g8,?_,?_⟩
     . rw[←eq];exact TR1.mono (aG (I8.trans I9))
     . rw[←eq];exact I9 _ _ hav2
end
section
variable {C CG:Addr}
abbrev kc:Stmt:=bY dq 11
def zP(C CG:Addr):Sp:=fun vs H Q _=>∃(D g:Addr)(z:Db)(ns:List Str)(ts:List Tr)(p:Int),vs=[.ref D]/\DbAt C H D g z/\Gm CG H g ns ts p/\∀(D2:Addr)(H':Hp),H D2=none->Same H H'->DbAt C H' D2 g z->Q (.ref D2) H'
theorem FD:FnScope ["self","other"] ["self"] (ag kc):=⟨rfl,rfl,rfl,by decide +kernel,rfl,by decide +kernel,by decide +kernel⟩
theorem Bc {f fD:Addr} {fd fdD:FuncData} (F:Fun K "twin" "Doubter.twin" kc f fd) (T:DTxt K mg C) (MD:Mk K C fD) (GD:FnOk P w K mg base CX0 1 fD fdD ["self","game"] (oN C CG)) (bD:Binds K fdD ["self","game"] []):FnOk P w K mg base CX0 3 f fd ["self"] (zP C CG):=by
 refine F.ok FD (fun vs H Q E h=>?_) (fun cdv A outer s H vs Q E hr h=>?_)
 . obtain⟨D,g,z,ns,ts,p,rfl,_⟩:=h;rfl
 obtain ⟨D,g,z,ns,ts,p,rfl,⟨dx,aA,aC,aH,aT,R⟩,G,q⟩:=h;have hr2:Room (1+1) _:=hr.mono (by decide);refine⟨_,(ad (ao (i:=1) FD.nd rfl (Or.inl rfl) (iw MD GD hr2 rfl T.mgC bD .nil bQ (aa (ax (pv 0) rfl) ae)))
  (ad (aX (pv 1) (ax (pv 0) rfl) rfl)
  (ad (aX (pv 1) (ax (pv 0) rfl) rfl)
  (ad (aX (pv 1) (ax (pv 0) rfl) rfl)
  (ad (aX (pv 1) (ax (pv 0) rfl) rfl)
  (ad (aX (pv 1) (ax (pv 0) rfl) rfl)
  (ad (aX (pv 1) (ax (pv 0) rfl) rfl)
  (ad (aX (pv 1) (ax (pv 0) rfl) rfl)
  (ah (az (pv 1))))))))))),?_⟩
 refine ⟨_,rfl,D,C,dx,_,_,rfl,R.hD,T.cl,T.nG,iU,fun D2 dD nD ndD neD=>?_⟩;have s10:Same H (upd (upd H dD (.own D2)) D2 (.ins C dD [])):=fun b o e=>by
  rw[ay (aO e nD),ay (aO e ndD)];exact e
 have gD:g≠D2:=by
  obtain⟨a,b,d,tv,⟨dg,hg⟩,_⟩:=id G;exact aO hg nD
 refine⟨D2,g,dD,ns,ts,p,rfl,ai,G.same s10,gD,fun H0 S0 D0=>⟨rfl,?_⟩⟩;have S00:Same H H0:=fun b o e=>S0 b o (aO e nD) (s10 b o e)
 have nDD:D≠D2:=aO R.hD nD;obtain⟨dx2,aA2,aC2,aH2,aT2,R2⟩:=D0;have h0:=R2.hD;generalize (Db.new ts).s=s2,(Db.new ts).ed=ed2,(Db.new ts).pl=pl2 at h0;have hD0:=S00 _ _ R.hD;refine⟨_,rfl,D,C,dx,_,_,rfl,hD0,T.cl,T.nA,BP,_,rfl,D2,C,dx2,_,rfl,h0,T.cl,T.nA,cO,?_⟩;rw[pI];have U0:SameBut D2 H0 (upd H0 D2 (.ins C dx2 (dl g aA aC2 s2 aH2 aT2 ed2 pl2))):=SameBut.upd _;have h1:upd H0 D2 (.ins C dx2 (dl g aA aC2 s2 aH2 aT2 ed2 pl2)) D2=some (.ins C dx2 (dl g aA aC2 s2 aH2 aT2 ed2 pl2)):=ai;have hD1:=U0 _ _ nDD hD0;generalize upd H0 D2 (.ins C dx2 (dl g aA aC2 s2 aH2 aT2 ed2 pl2))=H1 at U0 h1 hD1;refine⟨_,rfl,D,C,dx,_,_,rfl,hD1,T.cl,T.nC,Fg,_,rfl,D2,C,dx2,_,rfl,h1,T.cl,T.nC,cO,?_⟩;rw[DU];have U1:SameBut D2 H1 (upd H1 D2 (.ins C dx2 (dl g aA aC s2 aH2 aT2 ed2 pl2))):=SameBut.upd _;have h2:upd H1 D2 (.ins C dx2 (dl g aA aC s2 aH2 aT2 ed2 pl2)) D2=some (.ins C dx2 (dl g aA aC s2 aH2 aT2 ed2 pl2)):=ai;have hD2:=U1 _ _ nDD hD1;generalize upd H1 D2 (.ins C dx2 (dl g aA aC s2 aH2 aT2 ed2 pl2))=H2 at U1 h2 hD2;refine⟨_,rfl,D,C,dx,_,_,rfl,hD2,T.cl,T.nS,Fc,_,rfl,D2,C,dx2,_,rfl,h2,T.cl,T.nS,cO,?_⟩;rw[DS];have U2:SameBut D2 H2 (upd H2 D2 (.ins C dx2 (dl g aA aC z.s aH2 aT2 ed2 pl2))):=SameBut.upd _;have h3:upd H2 D2 (.ins C dx2 (dl g aA aC z.s aH2 aT2 ed2 pl2)) D2=some (.ins C dx2 (dl g aA aC z.s aH2 aT2 ed2 pl2)):=ai;have hD3:=U2 _ _ nDD hD2;generalize upd H2 D2 (.ins C dx2 (dl g aA aC z.s aH2 aT2 ed2 pl2))=H3 at U2 h3 hD3;refine⟨_,rfl,D,C,dx,_,_,rfl,hD3,T.cl,T.nH,Ff,_,rfl,D2,C,dx2,_,rfl,h3,T.cl,T.nH,cO,?_⟩;rw[DT];have U3:SameBut D2 H3 (upd H3 D2 (.ins C dx2 (dl g aA aC z.s aH aT2 ed2 pl2))):=SameBut.upd _;have h4:upd H3 D2 (.ins C dx2 (dl g aA aC z.s aH aT2 ed2 pl2)) D2=some (.ins C dx2 (dl g aA aC z.s aH aT2 ed2 pl2)):=ai;have hD4:=U3 _ _ nDD hD3;generalize upd H3 D2 (.ins C dx2 (dl g aA aC z.s aH aT2 ed2 pl2))=H4 at U3 h4 hD4;refine⟨_,rfl,D,C,dx,_,_,rfl,hD4,T.cl,T.nT,vY,_,rfl,D2,C,dx2,_,rfl,h4,T.cl,T.nT,cO,?_⟩;rw[AD];have U4:SameBut D2 H4 (upd H4 D2 (.ins C dx2 (dl g aA aC z.s aH aT ed2 pl2))):=SameBut.upd _;have h5:upd H4 D2 (.ins C dx2 (dl g aA aC z.s aH aT ed2 pl2)) D2=some (.ins C dx2 (dl g aA aC z.s aH aT ed2 pl2)):=ai;have hD5:=U4 _ _ nDD hD4;generalize upd H4 D2 (.ins C dx2 (dl g aA aC z.s aH aT ed2 pl2))=H5 at U4 h5 hD5;refine⟨_,rfl,D,C,dx,_,_,rfl,hD5,T.cl,T.nE,xF,_,rfl,D2,C,dx2,_,rfl,h5,T.cl,T.nE,cO,?_⟩;rw[ve];have U5:SameBut D2 H5 (upd H5 D2 (.ins C dx2 (dl g aA aC z.s aH aT z.ed pl2))):=SameBut.upd _;have h6:upd H5 D2 (.ins C dx2 (dl g aA aC z.s aH aT z.ed pl2)) D2=some (.ins C dx2 (dl g aA aC z.s aH aT z.ed pl2)):=ai;have hD6:=U5 _ _ nDD hD5;generalize upd H5 D2 (.ins C dx2 (dl g aA aC z.s aH aT z.ed pl2))=H6 at U5 h6 hD6;refine⟨_,rfl,D,C,dx,_,_,rfl,hD6,T.cl,T.nP,xE,_,rfl,D2,C,dx2,_,rfl,h6,T.cl,T.nP,cO,?_⟩;rw[rZ];have U6:SameBut D2 H6 (upd H6 D2 (.ins C dx2 (dl g aA aC z.s aH aT z.ed z.pl))):=SameBut.upd _;have h7:upd H6 D2 (.ins C dx2 (dl g aA aC z.s aH aT z.ed z.pl)) D2=some (.ins C dx2 (dl g aA aC z.s aH aT z.ed z.pl)):=ai;have hD7:=U6 _ _ nDD hD6;generalize upd H6 D2 (.ins C dx2 (dl g aA aC z.s aH aT z.ed z.pl))=H7 at U6 h7 hD7;have U:SameBut D2 H0 H7:=U0.trans (U1.trans (U2.trans (U3.trans (U4.trans (U5.trans U6)))));have S07:Same H H7:=fun b o e=>U b o (aO e nD) (S00 b o e)
 exact⟨_,rfl,q D2 H7 nD S07 ⟨dx2,aA,aC,aH,aT,h7,S07 _ _ R.hA,S07 _ _ R.hC,S07 _ _ R.hH,S07 _ _ R.hT⟩⟩
end
section
variable {CM CA CG:Addr}
abbrev jW:Stmt:=bY jY 4
theorem ml_n4 {g h b:Addr} {r:Int}:(ml g h r b).lookup ("twin":Str)=none:=by with_unfolding_all rfl
theorem Dl {g h b b':Addr} {r:Int}:cf "boxes" (.ref b') (ml g h r b)=ml g h r b':=by with_unfolding_all rfl
def wF(CM:Addr):Sp:=fun vs H Q _=>∃(M g h b dm:Addr)(r:Int)(bx:Str->Int)(m:Nat),vs=[.ref M]/\H M=some (.ins CM dm (ml g h r b))/\BxAt H b bx m/\
 ∀(M' dm' b':Addr)(H':Hp),H M'=none->H b'=none->H' M'=some (.ins CM dm' (ml g h r b'))->BxAt H' b' bx m->Same H H'->Q (.ref M') H'
theorem FE:FnScope ["self","other"] ["self"] (ag jW):=⟨rfl,rfl,rfl,by decide +kernel,rfl,by decide +kernel,by decide +kernel⟩
theorem AY {f fI:Addr} {fd fdI:FuncData} (F:Fun K "twin" "Machine.twin" jW f fd) (B:Bl mg) (T:MTxt K mg CM) (MM:Mk K CM fI) (GI:FnOk P w K mg base CX0 1 fI fdI ["self","game","helper"] (oM CM)) (bI:Binds K fdI ["self","game","helper"] []):FnOk P w K mg base CX0 3 f fd ["self"] (wF CM):=by
 refine F.ok FE (fun vs H Q E h=>?_) (fun cdv A outer s H vs Q E hr h=>?_)
 . obtain⟨M,g,h,b,dm,r,bx,m,rfl,_⟩:=h;rfl
 obtain ⟨M,g,h,b,dm,r,bx,m,rfl,hM,BX,q⟩:=h;have hr2:Room (1+1) _:=hr.mono (by decide);refine⟨_,(ad (ao (i:=1) FE.nd rfl (Or.inl rfl) (iw MM GI hr2 rfl T.mgC bI .nil bQ (aa (ax (pv 0) rfl) (aa (ax (pv 0) rfl) ae))))
  (ad (aX (pv 1) (ax (pv 0) rfl) rfl)
  (ad (aX (pv 1) (bq wg rfl B.dict wj (aa (ax (pv 0) rfl) ae)) rfl)
  (ah (az (pv 1)))))),?_⟩
 refine ⟨_,rfl,M,CM,dm,_,_,rfl,hM,T.cl,T.nG,ml_g,_,rfl,M,CM,dm,_,_,rfl,hM,T.cl,T.nH,Dm,fun N dn hN hdn nN=>?_⟩;have S1:Same H (upd (upd H dn (.own N)) N (.ins CM dn [])):=fun a o e=>by
  rw[ay (aO e hN),ay (aO e hdn)];exact e
 have g1:upd (upd H dn (.own N)) N (.ins CM dn []) N=some (.ins CM dn []):=ai;generalize upd (upd H dn (.own N)) N (.ins CM dn [])=H1 at S1 g1;refine⟨N,g,h,dn,rfl,g1,fun b1 H2 hb1 hN2 _ S2=>⟨rfl,?_⟩⟩;have S02:Same H H2:=Same.but S1 hN S2;have hM2:=S02 _ _ hM;have nMN:M≠N:=aO hM hN;refine⟨_,rfl,M,CM,dm,_,_,rfl,hM2,T.cl,T.nR,EJ,_,rfl,N,CM,dn,_,rfl,hN2,T.cl,T.nR,vI,?_⟩;rw[Bv];have S3:SameBut N H2 (upd H2 N (.ins CM dn (ml g h r b1))):=SameBut.upd _;have hN3:upd H2 N (.ins CM dn (ml g h r b1)) N=some (.ins CM dn (ml g h r b1)):=ai;generalize upd H2 N (.ins CM dn (ml g h r b1))=H3 at S3 hN3;have S03:Same H H3:=Same.but S02 hN S3;obtain⟨kvs,eb,lb,hx⟩:=BX;refine⟨_,rfl,M,CM,dm,_,_,rfl,S03 _ _ hM,T.cl,T.nB,Bw,b,kvs,rfl,S03 _ _ eb,fun c hc=>?_⟩;have cN:c≠N:=(aO hN3 hc).symm;have c0:H c=none:=S03.free hc;refine⟨_,rfl,N,CM,dn,_,rfl,by rw[ay cN.symm];exact hN3,T.cl,T.nB,vI,?_⟩;rw[Dl];refine⟨_,rfl,q N dn c _ hN c0 ai ⟨kvs,by rw[ay cN];exact ai,lb,hx⟩ fun a o e=>?_⟩;rw[ay (aO e hN),ay (aO e c0)];exact S03 _ _ e
end
def DL:Sp:=fun vs H Q _=>∃(x k:Int),vs=[.int x,.int k]/\0<=k/\k<=100/\0<x/\x<2 ^ 40/\Q (.int (x ^ k.toNat)) H
theorem m9:FnScope ["number","times","told","step"] ["number","times"] (ag jV):=⟨rfl,rfl,rfl,by decide +kernel,rfl,by decide +kernel,by decide +kernel⟩
theorem AX {f:Addr} {fd:FuncData} (F:Fun K "power" "power" jV f fd) (B:Bl mg):FnOk P w K mg base CX0 1 f fd ["number","times"] DL:=by
 refine F.ok m9 (fun vs H Q E h=>?_) (fun cdv A outer s H vs Q E hr h=>?_)
 . obtain⟨x,k,rfl,_⟩:=h;rfl
 obtain ⟨x,k,rfl,k0,k1,x0,x1,q⟩:=h;refine⟨_,(ad (ao (i:=2) m9.nd rfl (Or.inl rfl) af)
  (ad (da PassesOwn.never rfl (cF rfl B.range (aa (pv 1) ae)) (bX (i:=3) m9.nd rfl (Or.inl rfl)) (ah (ao (i:=2) m9.nd rfl (Or.inl rfl) (aj cq (pv 2) (pv 0)))))
  (ah (az (pv 2))))),?_⟩
 refine⟨_,rfl,k,rfl,by omega,by omega,dU (n:=k.toNat) (fun i σ H'=>∃x3:Option V,σ=[some (.int x),some (.int k),some (.int (x ^ i)),x3]/\H'=H) ⟨none,by rw[Int.pow_zero];rfl,rfl⟩ ?_ ?_⟩
 . rintro i σ H1 hi ⟨x3,rfl,rfl⟩;refine⟨_,rfl,_,rfl,_,_,rfl,rfl,.inr ⟨by omega,by omega⟩,?_⟩;refine⟨some (.int (0+(i:Int))),?_,rfl⟩;rw[Int.pow_succ];rfl
 . rintro σ H1 ⟨x3,rfl,rfl⟩;exact⟨_,rfl,q⟩
section
variable {C CM CA CG:Addr}
theorem Fd {g aA aC aH aT:Addr} {s ed pl:Int}:(dl g aA aC s aH aT ed pl).lookup ("twin":Str)=none:=by with_unfolding_all rfl
def OptAt(H:Hp)(v:V):Option (List Int)->Prop
 | none=>v=.non
 | some cs=>∃b,v=.ref b/\H b=some (.tup (cs.map V.int))
theorem OptAt.mono{H H':Hp}{v:V}{x:Option (List Int)}(h:OptAt H v x)(k:cx H H'):OptAt H' v x:=by
 cases x with
 | none=>exact h
 | some cs=>obtain⟨b,e,hb⟩:=h;exact⟨b,e,k _ _ hb⟩
def WtAt(H:Hp)(a:Addr)(x:Int×Option (List Int)):Prop:=∃v,H a=some (.tup [.int x.1,v])/\OptAt H v x.2
def bn(ns:List Str)(ts:List Tr):Nat:=if ts.length=1 then ns.length else ns.length+1
theorem iV{ns:List Str}{ts:List Tr}(h:ns.length<=6):bn ns ts<=7:=by unfold bn;split <;> omega
def rG(CG:Addr):Sp:=fun vs H Q _=>∃(g c:Addr)(ns:List Str)(ts:List Tr)(p:Int)(cs:List Int),vs=[.ref g,.ref c]/\Gm CG H g ns ts p/\ns.length<=6/\H c=some (.tup (cs.map V.int))/\cs.length<=bn ns ts/\∀(a:Addr)(H':Hp),Same H H'->H' a=some (.tup ((cs++List.replicate (bn ns ts-cs.length) 0).map V.int))->Q (.ref a) H'
theorem rO:FnScope ["game","coins"] ["game","coins"] (ag eO):=⟨rfl,rfl,rfl,by decide +kernel,rfl,by decide +kernel,by decide +kernel⟩
theorem sx {f fC:Addr} {fd fdC:FuncData} (F:Fun K "first_row" "first_row" eO f fd) (B:Bl mg) (TG:GTxt K mg CG) (mC:Meth K CG "coins" fC) (GC:FnOk P w K mg base CX0 1 fC fdC ["self"] (rH CG)) (bC:Binds K fdC ["self"] []):FnOk P w K mg base CX0 2 f fd ["game","coins"] (rG CG):=by
 refine F.ok rO (fun vs H Q E h=>?_) (fun cdv A outer s H vs Q E hr h=>?_)
 . obtain⟨g,c,ns,ts,p,cs,rfl,_⟩:=h;rfl
 obtain ⟨g,c,ns,ts,p,cs,rfl,G,n6,hc,cl,q⟩:=h;have hr1:Room 1 _:=hr.mono (by decide);refine⟨_,(ah (az (aj (oQ K) (pv 1) (aj (AT K) (bc (aa af ae)) (aj bm (cK (pv 0) TG.cl mC GC hr1 bC .nil bQ) (aJ aE rfl B.len PySem.boot_len (aa (pv 1) ae))))))),?_⟩;refine⟨_,rfl,(by show 1<=sizeLine;decide),fun z hz=>?_⟩;have I:=zD0 hz (.tup [.int 0]);have gz:upd H z (.tup [.int 0]) z=some (.tup [.int 0]):=ai;generalize upd H z (.tup [.int 0])=H1 at I gz;obtain⟨a,b,d,tv,⟨dx,hg⟩,ha,hb,TS,hd⟩:=G.same I;have vl:=TS.length;have noc:(gf a b p d).lookup ("coins":Str)=none:=qi _ _ _ _ (by decide +kernel) (by decide +kernel) (by decide +kernel) (by decide +kernel);refine⟨_,rfl,g,dx,_,rfl,hg,noc,g,a,b,d,ns,tv,p,rfl,⟨dx,hg⟩,ha,hb,?_⟩;have hc1:=I _ _ hc;refine⟨_,rfl,c,_,rfl,.inr (zC0 hc1),_,_,rfl,rfl,?_⟩;have ek:(if tv.length=1 then(ns.length:Int)else(ns.length:Int)+1)-((cs.map V.int).length:Int)=((bn ns ts-cs.length:Nat):Int):=by
  rw[zE0,vl];unfold bn at cl ⊢
  split <;> rename_i h <;> (first | rw[zB0 h]at cl | rw[zA0 h]at cl) <;> omega
 show Az K (.ref z) (.int ((if tv.length=1 then(ns.length:Int)else(ns.length:Int)+1)-((cs.map V.int).length:Int))) H1 _;rw[ek];have c7:=iV (ts:=ts) n6;have fin:∀(y:Addr)(H2:Hp),Same H1 H2->H2 y=some (.tup ((List.replicate (bn ns ts-cs.length) (0:Int)).map V.int))->tP K (.ref c) (.ref y) H2 Q∨pG K (.ref c) (.ref y) H2 Q:=fun y H2 S2 hy=>
  oV (S2 _ _ hc1) hy (by rw[List.length_replicate];omega) fun t H3 S3 h3=>q t H3 (I.trans (S2.trans S3)) h3
 refine⟨z,.int 0,((bn ns ts-cs.length:Nat):Int),rfl,rfl,zC0 gz,by omega,by omega,fun e=>fin z H1 (Same.refl _) ?_,fun _ y hy=>fin y _ (zD0 hy _) ?_⟩
 . have e1:bn ns ts-cs.length=1:=by omega
   rw[e1];exact gz
 . rw[ai,List.map_replicate,qT0]
def wD(CG:Addr):Sp:=fun vs H Q _=>∃(g:Addr)(ns:List Str)(ts:List Tr)(p:Int),vs=[.ref g]/\Gm CG H g ns ts p/\ns.length<=6/\0<p/\p<2 ^ 40/\Q (.int (p ^ bn ns ts)) H
theorem mO:FnScope ["game"] ["game"] (ag cU):=⟨rfl,rfl,rfl,by decide +kernel,rfl,by decide +kernel,by decide +kernel⟩
theorem nv {f fC:Addr} {fd fdC:FuncData} (F:Fun K "rows_of_coins" "rows_of_coins" cU f fd) (T:GTxt K mg CG) (mC:Meth K CG "coins" fC) (GC:FnOk P w K mg base CX0 1 fC fdC ["self"] (rH CG)) (bC:Binds K fdC ["self"] []) (E1:Cal P w K mg base 1 "power" ["number","times"] DL):FnOk P w K mg base CX0 2 f fd ["game"] (wD CG):=by
 refine F.ok mO (fun vs H Q E h=>?_) (fun cdv A outer s H vs Q E hr h=>?_)
 . obtain⟨g,ns,ts,p,rfl,_⟩:=h;rfl
 obtain⟨g,ns,ts,p,rfl,⟨a,b,d,tv,⟨dx,hg⟩,ha,hb,TS,hd⟩,nl,p0,p40,q⟩:=h;have hr1:Room 1 _:=hr.mono (by decide);refine⟨_,(ah (az (au E1 hr (by decide) rfl (aa (ax (pv 0) rfl) (aa (cK (pv 0) T.cl mC GC hr1 bC .nil bQ) ae))))),?_⟩;have noc:(gf a b p d).lookup ("coins":Str)=none:=qi _ _ _ _ (by decide +kernel) (by decide +kernel) (by decide +kernel) (by decide +kernel);have vl:=TS.length;refine⟨_,rfl,g,CG,dx,_,_,rfl,hg,T.cl,T.nF,ig ..,_,rfl,g,dx,_,rfl,hg,noc,g,a,b,d,ns,tv,p,rfl,⟨dx,hg⟩,ha,hb,p,_,rfl,?_,?_,p0,p40,?_⟩
 . split <;> omega
 . split <;> omega
 . have e:(if tv.length=1 then(ns.length:Int)else(ns.length:Int)+1).toNat=bn ns ts:=by
    rw[vl];unfold bn
    split <;> omega
   rw[e];exact q
structure Twins(P:Program)(w:World)(K:W.Frag)(mg:Str->Option Value)(base:Heap)(C CM CG fD fM:Addr)(fdD fdM:FuncData):Prop where
 mD:Meth K C "twin" fD
 GD:FnOk P w K mg base CX0 3 fD fdD ["self"] (zP C CG)
 bD:Binds K fdD ["self"] []
 mM:Meth K CM "twin" fM
 GM:FnOk P w K mg base CX0 3 fM fdM ["self"] (wF CM)
 bM:Binds K fdM ["self"] []
def yc(C CM CG:Addr)(d:Nat):Sp:=fun vs H Q _=>∃(D M g h b c:Addr)(rows:List Hr)(ns:List Str)(ts:List Tr)(p:Int)(t:Tk)(m:Nat)(cs:List Int),vs=[.ref M,.ref D,.ref c]/\TalkAt C CM CG H D M g h b rows ns ts p t m/\GmK ns ts p/\ns.length<=6/\(∀r∈rows,r.good)/\Beg ns ts p t/\bE ns (settle ns ts p rows 2 t).z<d/\
 H c=some (.tup (cs.map V.int))/\cs.length+bE ns (settle ns ts p rows 2 t).z<=bn ns ts/\m+400*d<=5000/\
 ∀(a:Addr)(H':Hp),WtAt H' a (gG ns ts p rows (bn ns ts) d t cs)->But3 D M b H H'->Q (.ref a) H'
theorem bK:FnScope ["machine","doubter","coins","number","row","coin","behind","told"] ["machine","doubter","coins"] (ag cu):=⟨rfl,rfl,rfl,by decide +kernel,rfl,by decide +kernel,by decide +kernel⟩
theorem Cm {f:Addr} {fd:FuncData}:FnOk P w K mg base CX0 27 f fd ["machine","doubter","coins"] (yc C CM CG 0):=by
 have no:∀vs H Q E,¬ yc C CM CG 0 vs H Q E:=fun vs H Q E h=>by
  obtain⟨D,M,g,h,b,c,rows,ns,ts,p,t,m,cs,_,_,_,_,_,_,h1,_⟩:=h;exact absurd h1 (Nat.not_lt_zero _)
 exact⟨fun vs H Q E h=>absurd h (no vs H Q E),fun A outer s H args us vs Q E _ _ _ _ h=>absurd h (no vs H Q E)⟩
theorem TalkAt.twins{H H':Hp}{D M g h b D2 M2 b2 dm2:Addr}{rows:List Hr}{ns:List Str}{ts:List Tr}{p:Int}{t:Tk}{m:Nat}{z:Db}(w:TalkAt C CM CG H D M g h b rows ns ts p t m)(s:Same H H')(DA:DbAt C H' D2 g z)(hM:H' M2=some (.ins CM dm2 (ml g h t.nr b2)))(B:BxAt H' b2 t.bx m)(ne:D2≠M2):TalkAt C CM CG H' D2 M2 g h b2 rows ns ts p ⟨z,t.bx,t.nr⟩ m:=by
 obtain⟨_,G,_,⟨rv,hh,R⟩,_,_⟩:=w.same s;exact⟨DA,G,⟨dm2,hM⟩,⟨rv,hh,R⟩,B,ne⟩
theorem Cn {n:Nat} {f fW fU fH fT fS fDt fMt:Addr} {fd fdW fdU fdH fdT fdS fdDt fdMt:FuncData} (F:Fun K "weighed_behind" "weighed_behind" cu f fd) (B:Bl mg) (T:DTxt K mg C) (TM:MTxt K mg CM) (TG:GTxt K mg CG) (Y:Ways P w K mg base C CM CG fW fU fH fT fS fdW fdU fdH fdT fdS) (Z:Twins P w K mg base C CM CG fDt fMt fdDt fdMt)
 (b6:Cal P w K mg base 26 "asked_once" ["machine","doubter"] (oO C CM CG)) (ft:Cal P w K mg base 2 "first_row" ["game","coins"] (rG CG)) (d8:Cal P w K mg base (n+27) "weighed_behind" ["machine","doubter","coins"] (yc C CM CG n)):FnOk P w K mg base CX0 (n+28) f fd ["machine","doubter","coins"] (yc C CM CG (n+1)):=by
 refine F.ok bK (fun vs H Q E h=>?_) (fun cdv A outer s H vs Q E hr h=>?_)
 . obtain⟨D,M,g,h,b,c,rows,ns,ts,p,t,m,cs,rfl,_⟩:=h;rfl
 obtain ⟨D,M,g,h,b,c,rows,ns,ts,p,t,m,cs,rfl,W,k,n6,rg,bg,cd,hc,cl,mm,q⟩:=h;have hr1:Room 1 _:=hr.mono (by omega);have hr3:Room 3 _:=hr.mono (by omega);have hr17:Room 17 _:=hr.mono (by omega);refine⟨_,(ad (ia PassesOwn.never (am aZ (aP ix_tup (cK (pv 1) T.cl Y.mW Y.GW hr1 Y.bW .nil bQ) af (fun _ _=>rfl)) aR (aq _)) (ah (bL (au b6 hr (by omega) rfl (aa (pv 0) (aa (pv 1) ae))))))
  (ad (aS (am aZ (aP ix_tup (cK (pv 1) T.cl Y.mW Y.GW hr1 Y.bW .nil bQ) af (fun _ _=>rfl)) aR (aq _)) (ah (az (bc (aa af (aa pR ae))))) aI)
  (ad (aS (am aZ (aP ix_tup (cK (pv 1) T.cl Y.mW Y.GW hr1 Y.bW .nil bQ) af (fun _ _=>rfl)) aR (aq _)) (ah (az (bc (aa af (aa (au ft hr (by omega) rfl (aa (ax (pv 1) rfl) (aa (pv 2) ae))) ae))))) aI)
  (ad (ao (i:=3) bK.nd rfl (Or.inl rfl) af)
  (ad (ao (i:=4) bK.nd rfl (Or.inl rfl) pR)
  (ad (da PassesOwn.never rfl (cF rfl B.range (aa (ax (ax (pv 1) rfl) rfl) ae)) (bX (i:=5) bK.nd rfl (Or.inl rfl)) (ad (ao (i:=6) bK.nd rfl (Or.inl rfl) (cK (pv 1) T.cl Z.mD Z.GD hr3 Z.bD .nil bQ))
   (ad (bL (db (pv 6) T.cl Y.mT Y.GT hr17 Y.bT .nil bQ (aa (pv 5) ae)))
   (ad (ao (i:=7) bK.nd rfl (Or.inl rfl) (au d8 hr (by omega) rfl (aa (cK (pv 0) TM.cl Z.mM Z.GM hr3 Z.bM .nil bQ) (aa (pv 6) (aa (aj (oQ K) (pv 2) (bc (aa (pv 5) ae))) ae)))))
   (ad (ao (i:=3) bK.nd rfl (Or.inl rfl) (aj aU (pv 3) (aP ix_tup (pv 7) af (fun _ _=>rfl))))
   (ah (aS (am AU (pv 4) pR (aq _)) (ah (ao (i:=4) bK.nd rfl (Or.inl rfl) (aP ix_tup (pv 7) af (fun _ _=>rfl)))) aI)))))))
  (ah (az (bc (aa (pv 3) (aa (pv 4) ae))))))))))),?_⟩
 have p2:=k.p2;have p9:=k.p9;obtain⟨uok,uno⟩:=bg.settle (rows:=rows) k n6;have rec1:settle ns ts p rows 2 t=settle ns ts p rows 2 t:=rfl;generalize eu:settle ns ts p rows 2 t=u at uok uno cd cl;clear rec1;have c7:=iV (ts:=ts) n6;refine⟨fun mm σ H'=>∃(t':Tk) (j m':Nat),σ=[some (.ref M),some (.ref D),some (.ref c),none,none,none,none,none]/\mm=j/\j<=2/\Beg ns ts p t'/\(j<=1->TkOk ns ts p t')/\(j=0->¬ t'.z.aw.1="hear")/\settle ns ts p rows j t'=u/\TalkAt C CM CG H' D M g h b rows ns ts p t' m'/\m'+200*j<=m+400/\But3 D M b H H',
  ⟨2,t,2,m,rfl,rfl,zG0 _,bg,fun z=>absurd z (by decide),fun z=>absurd z (by decide),eu,W,zG0 _,fun _ _ _ _ _ e=>e⟩,?_⟩
 rintro mm1 σ H1 ⟨t',j,m',rfl,rfl,j2,bg',ok',no',es,W1,m1,S1⟩;have DA:=W1.DA;obtain⟨dx,aA,aC,aH,aT,R⟩:=id DA;refine⟨_,rfl,D,dx,_,rfl,R.hD,oz,D,g,t'.z,rfl,DA,fun v hv=>?_⟩;obtain⟨av,rfl,hav⟩:=hv;refine⟨av,_,0,_,rfl,rfl,zC0 hav,zq _,rfl,_,rfl,?_⟩
 by_cases ch:t'.z.aw.1="hear"
 . refine bh (congrArg V.str ch) ⟨_,fun _ _ h=>h,?_⟩;obtain⟨i,rfl⟩:∃i,mm1=i+1:=⟨mm1-1,by have:mm1≠0:=fun z=>no' z ch;omega⟩
   obtain⟨ak,bo,aw,a0,a5,ho⟩:=bg'.ask (rows:=rows) k n6 ch;refine⟨_,rfl,_,rfl,D,M,g,h,b,rows,ns,ts,p,t',m',rfl,W1,k,rg,ak,bo,aw,a0,a5,ho,by omega,fun a6 H6 _ _ W6 S6=>?_⟩;have ok2:=bg'.asked (rows:=rows) k n6 ch;refine⟨i,Nat.lt_succ_self _,t'.ask ns ts p rows,i,m'+200,rfl,rfl,by omega,.inr ok2,fun _=>ok2,fun z=>?_,?_,W6,by omega,fun a o h1 h2 h3 e=>S6 _ _ h1 h2 h3 (S1 _ _ h1 h2 h3 e)⟩
   . subst z;exact((ok' (zG0 _)).ask (rows:=rows) k n6 ch).2.2.2
   . rw[←es];exact(zB0 ch).symm
 refine aF (neS ch) ?_;rw[cR ch]at es;subst es;clear bg' ok' no' hav;refine⟨_,rfl,D,dx,_,rfl,R.hD,oz,D,g,t'.z,rfl,DA,fun v hv=>?_⟩;obtain⟨av,rfl,hav⟩:=hv;refine⟨av,_,0,_,rfl,rfl,zC0 hav,zq _,rfl,_,rfl,?_⟩
 by_cases cb:t'.z.aw.1="believed"
 . refine bh (congrArg V.str cb) ⟨(by show 2<=sizeLine;decide),fun a ha=>?_⟩;have I:=zD0 ha (.tup [.int 1,.non]);refine q a _ ?_ (fun x o h1 h2 h3 e=>I _ _ (S1 _ _ h1 h2 h3 e));have e:gG ns ts p rows (bn ns ts) (n+1) t cs=(1,none):=by
    show(if(settle ns ts p rows 2 t).z.aw.1="believed" then _ else _)=_;rw[eu,zB0 cb]
   rw[e];exact⟨.non,ai,rfl⟩
 refine aF (neS cb) ?_;clear hav;refine⟨_,rfl,D,dx,_,rfl,R.hD,oz,D,g,t'.z,rfl,DA,fun v hv=>?_⟩;obtain⟨av,rfl,hav⟩:=hv;refine⟨av,_,0,_,rfl,rfl,zC0 hav,zq _,rfl,_,rfl,?_⟩;have hDM:c≠D/\c≠M/\c≠b:=by
  obtain⟨dx0,_,_,_,_,R0⟩:=W.DA;obtain⟨dm0,hM0⟩:=W.hM;obtain⟨kv0,hb0,_⟩:=W.BX;exact⟨bz hc R0.hD (by intro z;cases z),bz hc hM0 (by intro z;cases z),bz hc hb0 (by intro z;cases z)⟩
 have hc1:=S1 _ _ hDM.1 hDM.2.1 hDM.2.2 hc
 by_cases cc:t'.z.aw.1="caught"
 . refine bh (congrArg V.str cc) ⟨_,rfl,D,C,dx,_,_,rfl,R.hD,T.cl,T.nG,iU,_,rfl,g,c,ns,ts,p,cs,rfl,W1.G,n6,hc1,by omega,fun a2 H2 S2 h2=>?_⟩;refine⟨(by show 2<=sizeLine;decide),fun a ha=>?_⟩;have I:=zD0 ha (.tup [.int 0,.ref a2]);refine q a _ ?_ (fun x o h1 h2 h3 e=>I _ _ (S2 _ _ (S1 _ _ h1 h2 h3 e)));have e:gG ns ts p rows (bn ns ts) (n+1) t cs=(0,some (cs++List.replicate (bn ns ts-cs.length) 0)):=by
    show(if(settle ns ts p rows 2 t).z.aw.1="believed" then _ else if(settle ns ts p rows 2 t).z.aw.1="caught" then _ else _)=_;rw[eu,zA0 cb,zB0 cc]
   rw[e];exact⟨.ref a2,ai,a2,rfl,I _ _ h2⟩
 refine aF (neS cc) ?_;have co:=uG uok uno cb cc;have e:gG ns ts p rows (bn ns ts) (n+1) t cs=iS (fun r=>gG ns ts p rows (bn ns ts) n (t'.toss ns ts p r) (cs++[r])) p.toNat:=by
  show(if(settle ns ts p rows 2 t).z.aw.1="believed" then _ else if(settle ns ts p rows 2 t).z.aw.1="caught" then _ else _)=_;rw[eu,zA0 cb,zA0 cc]
 rw[e]at q;clear e hav eu bg W hc;have cp:=(cQ uok (.inr co)).2 co;generalize ef:(fun r=>gG ns ts p rows (bn ns ts) n (t'.toss ns ts p r) (cs++[r]))=fw at q;obtain⟨ga,gb,gd,tv,⟨dg,hg⟩,_⟩:=W1.G;refine⟨_,rfl,D,C,dx,_,_,rfl,R.hD,T.cl,T.nG,iU,g,CG,dg,_,_,rfl,hg,TG.cl,TG.nF,ig ..,p,rfl,by omega,by omega,dU (n:=p.toNat) (fun i σ H'=>∃(v:V)(x5 x6 x7:Option V),σ=[some (.ref M),some (.ref D),some (.ref c),some (.int (iS fw i).1),some v,x5,x6,x7]/\OptAt H' v (iS fw i).2/\Same H1 H') ⟨.non,none,none,none,rfl,rfl,Same.refl _⟩ ?_ ?_⟩
 . rintro i σ H2 hi ⟨v,x5,x6,x7,rfl,ov,S2⟩;rw[Int.zero_add];have W2:=W1.same S2;have DA2:=W2.DA;obtain⟨dx2,_,_,_,_,R2⟩:=id DA2;refine⟨_,rfl,D,dx2,_,rfl,R2.hD,Fd,D,g,t'.z,ns,ts,p,rfl,DA2,W2.G,fun D3 H3 D30 S3 DA3=>?_⟩;obtain⟨dx3,_,_,_,_,R3⟩:=id DA3;have to:=uok.tossOk co (r:=(i:Int)) (by omega) (by omega);refine⟨_,rfl,D3,dx3,_,rfl,R3.hD,Eb,_,rfl,D3,g,t'.z,(i:Int),ns,ts,p,rfl,DA3,W2.G.same S3,k,to.aw,to.r0,to.r1,to.tl,to.ro,to.po,fun H4 S4 DA4=>?_⟩;have S24:Same H2 H4:=Same.but S3 D30 S4;have W4:=W2.same S24;obtain⟨dm4,hM4⟩:=W4.hM;refine⟨_,rfl,M,dm4,_,rfl,hM4,ml_n4,M,g,h,b,dm4,t'.nr,t'.bx,m',rfl,hM4,W4.BX,fun M5 dm5 b5 H5 M50 b50 hM5 BX5 S5=>?_⟩;refine⟨_,rfl,_,rfl,_,rfl,(by show 1<=sizeLine;decide),fun z hz=>?_⟩;have I6:=zD0 hz (.tup [.int (i:Int)]);have g6:upd H5 z (.tup [.int (i:Int)]) z=some (.tup ([(i:Int)].map V.int)):=ai;generalize upd H5 z (.tup [.int (i:Int)])=H6 at I6 g6;have S26:Same H2 H6:=S24.trans (S5.trans I6);refine oV (S26 _ _ (S2 _ _ hc1)) g6 (by rw[qE0];omega) fun c7 H7 S7 h7=>?_
   have S47:Same H4 H7:=S5.trans (I6.trans S7);have S57:Same H5 H7:=I6.trans S7;obtain⟨ok3,st3,co3,_⟩:=uok.toss k co to.r0 to.r1;obtain⟨_,cs3,_⟩:=jT (rows:=rows) k n6 ok3;have el:(cs++[(i:Int)]).length=cs.length+1:=by rw[zM0];rfl
   have D3M5:D3≠M5:=by
    obtain⟨_,_,_,_,_,R4⟩:=DA4;exact aO R4.hD M50
   have W7:TalkAt C CM CG H7 D3 M5 g h b5 rows ns ts p (t'.toss ns ts p (i:Int)) m':=W4.twins S47 (DA4.same S47) (S57 _ _ hM5) (BX5.keep fun o e=>S57 _ _ e) D3M5;refine⟨D3,M5,g,h,b5,c7,rows,ns,ts,p,t'.toss ns ts p (i:Int),m',cs++[(i:Int)],rfl,W7,k,n6,rg,.inr ok3,by omega,h7,by omega,by omega,fun a8 H8 w8 S8=>?_⟩;have S28:Same H2 H8:=fun a o e=>S8 _ _ (aO e D30) (aO (S24 _ _ e) M50) (aO (S24 _ _ e) b50) (S26.trans S7 _ _ e)
   obtain⟨v8,ha8,o8⟩:=w8;have ef8:gG ns ts p rows (bn ns ts) n (t'.toss ns ts p (i:Int)) (cs++[(i:Int)])=fw (i:Int):=by rw[←ef]
   rw[ef8]at ha8 o8;refine⟨_,rfl,_,rfl,a8,_,0,_,rfl,rfl,zC0 ha8,at0 _ _,_,_,rfl,rfl,?_⟩;refine⟨_,rfl,rfl,_,rfl,?_⟩;cases eo:(iS fw i).2 with
   | none=>
     rw[eo]at ov;have ov:v=.non:=ov;subst ov;refine bh rfl ⟨_,rfl,a8,_,1,_,rfl,rfl,zC0 ha8,cL (j:=1) rfl,?_⟩;refine⟨v8,_,_,_,rfl,?_,S2.trans S28⟩;show OptAt H8 v8 ((iS fw i).2.or (fw (i:Int)).2);rw[eo];exact o8
   | some rr=>
     rw[eo]at ov;have ov':=ov;obtain⟨bv,rfl,hbv⟩:=ov';refine aF (by intro z;cases z) ?_;refine⟨.ref bv,_,_,_,rfl,?_,S2.trans S28⟩;show OptAt H8 (.ref bv) ((iS fw i).2.or (fw (i:Int)).2);rw[eo];exact⟨bv,rfl,S28 _ _ hbv⟩
 . rintro σ H2 ⟨v,x5,x6,x7,rfl,ov,S2⟩;refine⟨_,rfl,_,rfl,(by show 2<=sizeLine;decide),fun a ha=>?_⟩;have I:=zD0 ha (.tup [.int (iS fw p.toNat).1,v]);exact q a _ ⟨v,ai,ov.mono (aG I)⟩ (fun x o h1 h2 h3 e=>I _ _ (S2 _ _ (S1 _ _ h1 h2 h3 e)))
theorem iy {f fW fU fH fT fS fDt fMt:Addr} {fd fdW fdU fdH fdT fdS fdDt fdMt:FuncData} (F:Fun K "weighed_behind" "weighed_behind" cu f fd) (m:mg "weighed_behind"=some (.ref f)) (B:Bl mg) (T:DTxt K mg C) (TM:MTxt K mg CM) (TG:GTxt K mg CG) (Y:Ways P w K mg base C CM CG fW fU fH fT fS fdW fdU fdH fdT fdS) (Z:Twins P w K mg base C CM CG fDt fMt fdDt fdMt)
 (b6:Cal P w K mg base 26 "asked_once" ["machine","doubter"] (oO C CM CG)) (ft:Cal P w K mg base 2 "first_row" ["game","coins"] (rG CG)):∀n:Nat,FnOk P w K mg base CX0 (n+27) f fd ["machine","doubter","coins"] (yc C CM CG n)
 | 0=>Cm
 | n+1=>Cn F B T TM TG Y Z b6 ft (Cal.of F (iy F m B T TM TG Y Z b6 ft n) m (fun _ _ _ _ _ _ us hl=>by obtain⟨u0,u1,u2,rfl⟩:=jG hl;rfl))
end
section
variable {C CM CA CG:Addr}
def qM(C CM CG:Addr):Sp:=fun vs H Q _=>∃(g h:Addr)(rv:List V)(rows:List Hr)(ns:List Str)(ts:List Tr)(p:Int),vs=[.ref g,.ref h]/\Gm CG H g ns ts p/\GmK ns ts p/\ns.length<=6/\H h=some (.tup rv)/\RowsAt H rv rows/\(∀r∈rows,r.good)/\p ^ bn ns ts<=4000/\
 ∀(a:Addr)(H':Hp),Same H H'->WtAt H' a (gG ns ts p rows (bn ns ts) 8 (Tk.new ts) [])->Q (.ref a) H'
theorem v7:FnScope ["game","helper","rows"] ["game","helper"] (ag gT):=⟨rfl,rfl,rfl,by decide +kernel,rfl,by decide +kernel,by decide +kernel⟩
theorem vt {f fI fM:Addr} {fd fdI fdM:FuncData} (F:Fun K "weighed" "weighed" gT f fd) (T:DTxt K mg C) (TM:MTxt K mg CM) (hmost:∃t,mg "MOST_ROWS"=some (.int 4000 t))
 (MD:Mk K C fI) (GD:FnOk P w K mg base CX0 1 fI fdI ["self","game"] (oN C CG)) (bD:Binds K fdI ["self","game"] []) (MM:Mk K CM fM) (GM:FnOk P w K mg base CX0 1 fM fdM ["self","game","helper"] (oM CM)) (bM:Binds K fdM ["self","game","helper"] [])
 (ii:Cal P w K mg base 2 "rows_of_coins" ["game"] (wD CG)) (d8:Cal P w K mg base 35 "weighed_behind" ["machine","doubter","coins"] (yc C CM CG 8)):FnOk P w K mg base CX0 36 f fd ["game","helper"] (qM C CM CG):=by
 refine F.ok v7 (fun vs H Q E h=>?_) (fun cdv A outer s H vs Q E hr h=>?_)
 . obtain⟨g,h,rv,rows,ns,ts,p,rfl,_⟩:=h;rfl
 obtain ⟨g,h,rv,rows,ns,ts,p,rfl,G,k,n6,hh,RW,rg,p4,q⟩:=h;obtain⟨te,ge⟩:=hmost;have hr2:Room (1+1) _:=hr.mono (by decide);refine⟨_,(ad (ao (i:=2) v7.nd rfl (Or.inl rfl) (au ii hr (by decide) rfl (aa (pv 0) ae)))
  (ad (aS (am ic (pv 2) (sk (v:=.int 4000) rfl ge ⟨_,rfl⟩) (aq _)) dE aI)
  (ah (az (au d8 hr (by decide) rfl (aa (iw MM GM hr2 rfl TM.mgC bM .nil bQ (aa (pv 0) (aa (pv 1) ae))) (aa (iw MD GD hr2 rfl T.mgC bD .nil bQ (aa (pv 0) ae)) (aa (bc ae) ae)))))))),?_⟩
 have p2:=k.p2;have p9:=k.p9;refine⟨_,rfl,g,ns,ts,p,rfl,G,n6,by omega,by omega,?_⟩;refine⟨_,rfl,_,_,rfl,rfl,_,rfl,aF (by omega) ?_⟩;refine⟨_,rfl,_,rfl,fun M dm hM0 hdm0 nM=>?_⟩;have K1:Same H (upd (upd H dm (.own M)) M (.ins CM dm [])):=fun a o e=>by
  rw[ay (aO e hM0),ay (aO e hdm0)];exact e
 refine ⟨M,g,h,dm,rfl,ai,fun b H2 b0 hM2 hb2 S2=>⟨rfl,?_⟩⟩;have T2:Same H H2:=Same.but K1 hM0 S2;have b00:H b=none:=K1.free b0;clear K1 S2 b0;refine⟨_,rfl,fun D dd hD0 hdd0 nD=>?_⟩;have K3:Same H2 (upd (upd H2 dd (.own D)) D (.ins C dd [])):=fun a o e=>by
  rw[ay (aO e hD0),ay (aO e hdd0)];exact e
 have G2:=G.same T2;have gD:g≠D:=by
  obtain⟨_,_,_,_,⟨dg,hg⟩,_⟩:=G2;exact aO hg hD0
 refine⟨D,g,dd,ns,ts,p,rfl,ai,G2.same K3,gD,fun H4 S4 DA4=>⟨rfl,?_⟩⟩;have T24:Same H2 H4:=Same.but K3 hD0 S4;have T4:Same H H4:=T2.trans T24;have D00:H D=none:=T2.free hD0;have nDM:D≠M:=(aO hM2 hD0).symm;have W4:TalkAt C CM CG H4 D M g h b rows ns ts p (Tk.new ts) 0:=⟨DA4,G.same T4,⟨dm,T24 _ _ hM2⟩,⟨rv,T4 _ _ hh,RW.mono (aG T4)⟩,⟨[],T24 _ _ hb2,zG0 _,fun _=>rfl⟩,nDM⟩
 refine ⟨(by show 0<=sizeLine;decide),fun c hc=>?_⟩;have I:=zD0 hc (.tup []);have gc:upd H4 c (.tup []) c=some (.tup (([]:List Int).map V.int)):=ai;generalize upd H4 c (.tup [])=H5 at I gc;obtain⟨_,c1,_⟩:=jd (rows:=rows) k n6;have c2:ns.length+(if 1<ts.length then 1 else 0)<=bn ns ts:=by
  unfold bn
  split <;> split <;> omega
 have c7:=iV (ts:=ts) n6;refine⟨D,M,g,h,b,c,rows,ns,ts,p,Tk.new ts,0,[],rfl,W4.same I,k,n6,rg,.inl rfl,by omega,gc,(by show 0+_<=_;omega),by decide,fun a H6 w6 S6=>q a H6 (fun x o e=>?_) w6⟩;exact S6 _ _ (aO e D00) (aO e hM0) (aO e b00) (I _ _ (T4 _ _ e))
end
def dN(p:Nat):Nat->List (List Int)
 | 0=>[[]]
 | k+1=>(List.range p).flatMap fun r:Nat=>(dN p k).map ((r:Int)::·)
theorem my{p:Nat}:∀(k:Nat)(c:List Int),c∈dN p k->c.length=k/\bV c (p:Int)
 | 0,c,h=>by
   have e:c=[]:=by simpa [dN]using h
   subst e;exact⟨rfl,fun x hx=>by cases hx⟩
 | k+1,c,h=>by
   unfold dN at h;obtain⟨r,hr,h⟩:=List.mem_flatMap.mp h;obtain⟨c',hc',rfl⟩:=List.mem_map.mp h;have hr:=List.mem_range.mp hr;obtain⟨l,o⟩:=my k c' hc';refine⟨by rw[qF0,l],fun x hx=>?_⟩;rcases qD0 hx with e | e
   . subst e;omega
   . exact o x e
theorem kE{p:Nat}(hp:0<p):∀k,(dN p k).head?=some (List.replicate k 0)
 | 0=>rfl
 | k+1=>by
   obtain⟨q,rfl⟩:∃q,p=q+1:=⟨p-1,by omega⟩
   unfold dN;rw[List.range_succ_eq_map,List.flatMap_cons,List.head?_append,List.head?_map,kE hp k];rfl
theorem uI{p:Nat}:∀k,(dN p k).length=p ^ k
 | 0=>rfl
 | k+1=>by
   unfold dN;rw[List.length_flatMap]
   have:((List.range p).map fun a:Nat=>((dN p k).map ((a:Int)::·)).length)=List.replicate p (p ^ k):=by
    rw[List.eq_replicate_iff];refine⟨by simp,fun b hb=>?_⟩;obtain⟨a,_,rfl⟩:=List.mem_map.mp hb;rw[zE0,uI k]
   rw[this,List.sum_replicate_nat,Nat.pow_succ,Nat.mul_comm]
def im(L:List (List Int))(b:List Int->Bool)(cs:List Int):Int×Option (List Int):=(((L.filter b).length:Int),((L.filter fun c=>!b c).head?).map (cs++·))
theorem eG{L:List (List Int)}{b b':List Int->Bool}{cs:List Int}(h:∀c∈L,b c=b' c):im L b cs=im L b' cs:=by
 unfold im;have e1:L.filter b=L.filter b':=List.filter_congr h;have e2:(L.filter fun c=>!b c)=L.filter fun c=>!b' c:=List.filter_congr fun c hc=>by rw[h c hc]
 rw[e1,e2]
theorem Ax{L M:List (List Int)}{b:List Int->Bool}{cs:List Int}:im (L++M) b cs=((im L b cs).1+(im M b cs).1,(im L b cs).2.or (im M b cs).2):=by
 unfold im;rw[List.filter_append,List.filter_append,zM0,List.head?_append,Int.natCast_add]
 congr 1
 cases(List.filter (fun c=>!b c) L).head? <;> rfl
theorem Aw{L:List (List Int)}{b:List Int->Bool}{cs:List Int}{r:Int}:im (L.map (r::·)) b cs=im L (fun c=>b (r::c)) (cs++[r]):=by
 unfold im;rw[List.filter_map,List.filter_map,zE0,List.head?_map]
 congr 1
 show Option.map _ (Option.map _ _)=_;rw[Option.map_map]
 congr 1
 funext c
 show cs++(r::c)=(cs++[r])++c;rw[List.append_assoc];rfl
theorem qY{p j:Nat}{f:Int->Int×Option (List Int)}{b:List Int->Bool}{cs:List Int}(h:∀r:Nat,r<p->f (r:Int)=im (dN p j) (fun c=>b ((r:Int)::c)) (cs++[(r:Int)])):∀k,k<=p->iS f k=im ((List.range k).flatMap fun r:Nat=>(dN p j).map ((r:Int)::·)) b cs
 | 0,_=>rfl
 | k+1,hk=>by
   show((iS f k).1+(f (k:Int)).1,(iS f k).2.or (f (k:Int)).2)=_;rw[qY h k (by omega),h k (by omega),List.range_succ,List.flatMap_append,Ax,List.flatMap_singleton,Aw]
section
variable {ns:List Str} {ts:List Tr} {p:Int} {t:Tk} {rows:List Hr}
theorem zL(z:Db):bw ns z<=2*ns.length+1:=by
 unfold bw
 split
 . omega
 . split
   . split <;> omega
   . omega
theorem gZ{cs:List Int}(h:bV cs p)(p0:0<p):0<=cs.headD 0/\cs.headD 0<p:=by
 cases cs with
 | nil=>exact⟨Int.le_refl 0,p0⟩
 | cons a r=>exact h a (qP0 ..)
theorem lp{cs:List Int}(h:bV cs p):bV cs.tail p:=fun x hx=>h x (List.mem_of_mem_tail hx)
theorem kN(k:GmK ns ts p)(n6:ns.length<=6):∀(n:Nat)(t:Tk)(cs:List Int),TkOk ns ts p t->bV cs p->bw ns t.z<=n->(cJ ns ts p rows cs (n+1) t).2=(cJ ns ts p rows cs n t).2
 | 0,t,cs,h,hc,hs=>by
   have h1:¬ t.z.aw.1="hear":=fun z=>by have:=(cQ h (.inl z)).1;omega
   have h2:¬ t.z.aw.1="coin":=fun z=>by have:=(cQ h (.inr z)).1;omega
   rw[de h1 h2,de h1 h2]
 | n+1,t,cs,h,hc,hs=>by
   have p2:=k.p2
   by_cases ch:t.z.aw.1="hear"
   . rw[dJ ch,dJ ch];obtain⟨o,s,_⟩:=h.ask (rows:=rows) k n6 ch;exact kN k n6 n _ cs o hc (by omega)
   . by_cases cc:t.z.aw.1="coin"
     . rw[dL cc,dL cc];obtain⟨r0,r1⟩:=gZ hc (by omega);obtain⟨o,s,_⟩:=h.toss k cc r0 r1;exact kN k n6 n _ cs.tail o (lp hc) (by omega)
     . rw[de ch cc,de ch cc]
theorem pd(k:GmK ns ts p)(n6:ns.length<=6){cs:List Int}(h:TkOk ns ts p t)(hc:bV cs p){n:Nat}(hs:bw ns t.z<=n):∀m,(cJ ns ts p rows cs (n+m) t).2=(cJ ns ts p rows cs n t).2
 | 0=>rfl
 | m+1=>by rw[←Nat.add_assoc,kN k n6 _ _ _ h hc (by omega),pd k n6 h hc hs m]
theorem sU(k:GmK ns ts p)(n6:ns.length<=6){cs:List Int}(h:TkOk ns ts p t)(hc:bV cs p){n m:Nat}(hn:13<=n)(hm:13<=m):(cJ ns ts p rows cs n t).2=(cJ ns ts p rows cs m t).2:=by
 have:=zL (ns:=ns) t.z
 obtain⟨a,rfl⟩:∃a,n=13+a:=⟨n-13,by omega⟩
 obtain⟨b,rfl⟩:∃b,m=13+b:=⟨m-13,by omega⟩
 rw[pd k n6 h hc (by omega),pd k n6 h hc (by omega)]
theorem lm(k:GmK ns ts p)(n6:ns.length<=6){cs:List Int}(h:TkOk ns ts p t)(hc:bV cs p){n m:Nat}(hn:14<=n)(hm:14<=m):(cJ ns ts p rows cs n t).2=(cJ ns ts p rows cs m (settle ns ts p rows 2 t)).2:=by
 by_cases ch:t.z.aw.1="hear"
 . obtain ⟨o,s,_,o4⟩:=h.ask (rows:=rows) k n6 ch;have e:settle ns ts p rows 2 t=t.ask ns ts p rows:=(zB0 ch).trans (cR o4 1);rw[e];obtain⟨a,rfl⟩:∃a,n=a+1:=⟨n-1,by omega⟩
   rw[dJ ch];exact sU k n6 o hc (by omega) (by omega)
 . rw[cR ch];exact sU k n6 h hc (by omega) (by omega)
structure Lf(ns:List Str)(t:Tk)(j:Nat):Prop where
 hc:t.z.aw.1="hear"∨t.z.aw.1="coin" -> bE ns t.z=j
 be:t.z.aw.1="believed" -> j=0
theorem DX:¬ (("believed":Str)="hear"):=by decide +kernel
theorem DW:¬ (("coin":Str)="believed"):=by decide +kernel
theorem Bn:¬ (("caught":Str)="believed"):=by decide +kernel
theorem ne_w8:¬ (("hear":Str)="believed"):=by decide +kernel
theorem Bm:¬ (("caught":Str)="coin"):=by decide +kernel
theorem sL(z:Db)(tl:z.to.length<=ns.length)(bx:Str->Int)(nr:Int):Lf ns ⟨goOn ns ts p z,bx,nr⟩ (ns.length-z.to.length):=by
 unfold goOn
 by_cases c:z.to.length<ns.length
 . rw[zB0 c];exact⟨fun _=>zB0 rfl,fun h=>absurd h ne_w8⟩
 . rw [zA0 c];unfold dZ
   by_cases e:z.ed=hor z.s p (ts.map fun t=>t.worth ns z.to p)
   . rw[zB0 e];exact⟨fun h=>h.elim (fun h=>absurd h DX) (fun h=>absurd h Bo),fun _=>(by show ns.length-z.to.length=0;omega)⟩
   . rw[zA0 e];exact⟨fun h=>h.elim (fun h=>absurd h pZ) (fun h=>absurd h Bm),fun h=>absurd h Bn⟩
theorem Lf.ask (k:GmK ns ts p) (n6:ns.length<=6) {j:Nat} (h:TkOk ns ts p t) (l:Lf ns t j) (hw:t.z.aw.1="hear"):Lf ns (t.ask ns ts p rows) j:=by
 have ho:=h.hear (rows:=rows) k n6 hw;have x0:=h.gd.hear_ne k ho;have e:cY ns ts p (t.said ns ts p rows) t.z=dy p (t.said ns ts p rows) { t.z with pl:=t.z.pl+((t.said ns ts p rows).length:Int) }:=zA0 h.cl;have l1:=l.hc (.inl hw);have s2:bE ns t.z=ns.length-t.z.to.length:=zB0 hw;have ez:(t.ask ns ts p rows).z=dy p (t.said ns ts p rows) { t.z with pl:=t.z.pl+((t.said ns ts p rows).length:Int) }:=e;refine⟨fun hh=>?_,fun hh=>?_⟩
 . rw [ez]at hh ⊢;unfold dy at hh ⊢
   by_cases c:(val p (t.said ns ts p rows) 0+val p (t.said ns ts p rows) 1) % p=t.z.ed
   . rw[zB0 c];show(if(("coin":Str)="hear")then _ else if(("coin":Str)="coin")then(if t.said ns ts p rows=[]then _ else _)else _)=j;rw[zA0 gP,zB0 rfl,zA0 x0];show ns.length-t.z.to.length=j;omega
   . rw[zA0 c]at hh;exact hh.elim (fun h=>absurd h pZ) (fun h=>absurd h Bm)
 . rw [ez]at hh;unfold dy at hh
   by_cases c:(val p (t.said ns ts p rows) 0+val p (t.said ns ts p rows) 1) % p=t.z.ed
   . rw[zB0 c]at hh;exact absurd hh DW
   . rw[zA0 c]at hh;exact absurd hh Bn
theorem Lf.settle(k:GmK ns ts p)(n6:ns.length<=6){j:Nat}(h:TkOk ns ts p t)(l:Lf ns t j):Lf ns (settle ns ts p rows 2 t) j:=by
 by_cases ch:t.z.aw.1="hear"
 . obtain⟨o,s,_,o4⟩:=h.ask (rows:=rows) k n6 ch;have e:Mine.settle ns ts p rows 2 t=t.ask ns ts p rows:=(zB0 ch).trans (cR o4 1);rw[e];exact l.ask k n6 h ch
 . rw[cR ch];exact l
theorem Lf.toss (h:TkOk ns ts p t) {j:Nat} (l:Lf ns t (j+1)) (hw:t.z.aw.1="coin") (r:Int):Lf ns (t.toss ns ts p r) j:=by
 have nh:¬ t.z.aw.1="hear":=by rw[hw];exact gP
 have s2:bE ns t.z=if t.z.he=[]then ns.length+1 else ns.length-t.z.to.length:=by unfold bE;rw[zA0 nh,zB0 hw]
 have l1:=l.hc (.inr hw)
 by_cases c:t.z.he=[]
 . have et:=h.fi hw c;rw[zB0 c]at s2;have e:t.toss ns ts p r=⟨goOn ns ts p { t.z with pl:=t.z.pl+1,s:=r,ed:=hor r p t.z.cl },t.bx,t.nr⟩:=by
    unfold Tk.toss cW uF;rw[zB0 c]
   rw[e]
   have:=sL (ns:=ns) (ts:=ts) (p:=p) { t.z with pl:=t.z.pl+1,s:=r,ed:=hor r p t.z.cl } h.gd.tl t.bx t.nr
   have ej:ns.length-t.z.to.length=j:=by rw[et,List.length_nil];omega
   rw[←ej];exact this
 . have tl:=((h.gd.co hw).2 c).2;rw[zA0 c]at s2;have e:t.toss ns ts p r=⟨goOn ns ts p { t.z with pl:=t.z.pl+1,ed:=val p t.z.he r,to:=t.z.to++[r] },t.bx,t.nr⟩:=by
    unfold Tk.toss cW;rw[zA0 c]
   rw[e];have el:(t.z.to++[r]).length=t.z.to.length+1:=by rw[zM0];rfl
   have:=sL (ns:=ns) (ts:=ts) (p:=p) { t.z with pl:=t.z.pl+1,ed:=val p t.z.he r,to:=t.z.to++[r] } (by show(t.z.to++[r]).length<=_;omega) t.bx t.nr
   have ej:ns.length-(t.z.to++[r]).length=j:=by omega
   rw[←ej];exact this
theorem Lf.new(k:GmK ns ts p):Lf ns ((Tk.new ts).ask ns ts p rows) (bn ns ts):=by
 have e0:cY ns ts p ((Tk.new ts).said ns ts p rows) (Db.new ts)=jn ns ts p ((Tk.new ts).said ns ts p rows) { Db.new ts with pl:=(Db.new ts).pl+(((Tk.new ts).said ns ts p rows).length:Int) }:=zB0 rfl
 by_cases c:ts.length=1
 . have e:(Tk.new ts).ask ns ts p rows=⟨goOn ns ts p { Db.new ts with pl:=(Db.new ts).pl+(((Tk.new ts).said ns ts p rows).length:Int),cl:=(Tk.new ts).said ns ts p rows,s:=0,ed:=hor 0 p ((Tk.new ts).said ns ts p rows) },((Tk.new ts).run ns ts p rows).bx,(Tk.new ts).nr+1⟩:=by
    unfold Tk.ask
    congr 1
    exact e0.trans (zB0 c)
   rw[e];have ej:bn ns ts=ns.length-([]:List Int).length:=zB0 c;rw[ej];exact sL _ (zU0 _) _ _
 . have ez:((Tk.new ts).ask ns ts p rows).z={ Db.new ts with pl:=(Db.new ts).pl+(((Tk.new ts).said ns ts p rows).length:Int),cl:=(Tk.new ts).said ns ts p rows,aw:=("coin",none) }:=e0.trans (zA0 c);have ej:bn ns ts=ns.length+1:=zA0 c;refine⟨fun _=>?_,fun h=>?_⟩
   . rw[ez,ej];show(if(("coin":Str)="hear")then _ else if(("coin":Str)="coin")then(if([]:List Int)=[]then ns.length+1 else _)else 0)=_;rw[zA0 gP,zB0 rfl,zB0 rfl]
   . rw[ez]at h;exact absurd h DW
noncomputable def wn (ns:List Str) (ts:List Tr) (p:Int) (rows:List Hr) (t:Tk) (c:List Int):Bool:=decide ((cJ ns ts p rows c 20 t).2.z.aw.1="believed")
theorem qF (k:GmK ns ts p) (n6:ns.length<=6) {cn:Nat}:∀(d j:Nat) (t:Tk) (cs:List Int),TkOk ns ts p (settle ns ts p rows 2 t)->¬ (settle ns ts p rows 2 t).z.aw.1="hear" -> Lf ns (settle ns ts p rows 2 t) j->j<d->cs.length+j=cn ->
 gG ns ts p rows cn d t cs=im (dN p.toNat j) (wn ns ts p rows (settle ns ts p rows 2 t)) cs
 | 0,j,_,_,_,_,_,hd,_=>absurd hd (Nat.not_lt_zero _)
 | d+1,j,t,cs,ok,no,lf,hd,hl=>by
   have p2:=k.p2;have ep:(p.toNat:Int)=p:=by omega
   show(if(settle ns ts p rows 2 t).z.aw.1="believed" then _ else if(settle ns ts p rows 2 t).z.aw.1="caught" then _ else _)=_;generalize settle ns ts p rows 2 t=u at ok no lf
   by_cases cb:u.z.aw.1="believed"
   . rw [zB0 cb];have e0:=lf.be cb;subst e0;have e1:wn ns ts p rows u []=true:=by
      unfold wn;rw[de no (by rw[cb];exact Bo)];exact decide_eq_true cb
     unfold im dN;rw[List.filter_cons_of_pos e1,List.filter_cons_of_neg (by rw[e1];decide)];rfl
   . rw [zA0 cb]
     by_cases cc:u.z.aw.1="caught"
     . rw [zB0 cc];have e1:∀c∈dN p.toNat j,wn ns ts p rows u c=false:=fun c _=>by
        unfold wn;rw[de no (by rw[cc];exact Bm)];exact decide_eq_false cb
       rw[eG (b':=fun _=>false) e1];unfold im;have e2:(dN p.toNat j).filter (fun _=>false)=[]:=List.filter_eq_nil_iff.mpr fun _ _=>by decide
       have e3:(dN p.toNat j).filter (fun c=>!((fun _=>false) c))=dN p.toNat j:=List.filter_eq_self.mpr fun _ _=>rfl
       rw[e2,e3,kE (by omega)];show(0,some (cs++List.replicate (cn-cs.length) 0))=((([]:List (List Int)).length:Int),some (cs++List.replicate j 0))
       rw[show cn-cs.length=j by omega];rfl
     . rw [zA0 cc];have co:=uG ok no cb cc;have cp:=(cQ ok (.inr co)).2 co;obtain⟨i,rfl⟩:∃i,j=i+1:=⟨j-1,by have:=lf.hc (.inr co);omega⟩
       refine qY (p:=p.toNat) (j:=i) (fun r hr=>?_) p.toNat (zG0 _);have r0:(0:Int)<=(r:Int):=Int.natCast_nonneg r;have r1:(r:Int)<p:=by omega
       obtain⟨ok3,_⟩:=ok.toss k co r0 r1;obtain⟨ok4,_,no4⟩:=jT (rows:=rows) k n6 ok3;rw[qF k n6 d i _ (cs++[(r:Int)]) ok4 no4 ((lf.toss ok co (r:Int)).settle k n6 ok3) (by omega) (by rw[zM0,qE0];omega)];refine eG fun c hc=>?_
       have po:bV c p:=by
        have:=(my _ _ hc).2
        rwa [ep]at this
       unfold wn;rw[←lm (n:=19) k n6 ok3 po (by decide) (by decide),dL (n:=19) co];rfl
theorem xP (k:GmK ns ts p) (n6:ns.length<=6):gG ns ts p rows (bn ns ts) 8 (Tk.new ts) []=im (dN p.toNat (bn ns ts)) (fun c=>decide ((qJ ns ts p rows c).2.z.aw.1="believed")) []:=by
 obtain⟨o1,_,no1⟩:=jd (rows:=rows) k n6;obtain⟨o2,_⟩:=lQ (rows:=rows) k n6;have c7:=iV (ts:=ts) n6;have ep:(p.toNat:Int)=p:=by have:=k.p2;omega
 have e:settle ns ts p rows 2 (Tk.new ts)=settle ns ts p rows 1 ((Tk.new ts).ask ns ts p rows):=zB0 rfl;have e2:settle ns ts p rows 2 (Tk.new ts)=settle ns ts p rows 2 ((Tk.new ts).ask ns ts p rows):=by
  rw[e]
  by_cases c:((Tk.new ts).ask ns ts p rows).z.aw.1="hear"
  . have n4:=(o2.ask (rows:=rows) k n6 c).2.2.2;show(if _ then _ else _)=(if _ then _ else _)
    rw[zB0 c,zB0 c,cR n4,cR n4]
  . rw[cR c,cR c]
 have lf:=(Lf.new (rows:=rows) k).settle (rows:=rows) k n6 o2;rw[←e2]at lf;rw[qF k n6 8 (bn ns ts) (Tk.new ts) [] o1 no1 lf (by omega) (Nat.zero_add _)];refine eG fun c hc=>?_
 have po:bV c p:=by
  have:=(my _ _ hc).2
  rwa [ep]at this
 unfold wn;rw[e2,←lm (n:=20) k n6 o2 po (by decide) (by decide)];rfl
end
theorem yV{p x y:Int}(hp:1<p){o:Str}(bx cy:Bool)(hx:x=if bx then 1 else 0)(hy:y=if cy then 1 else 0):eg p o x y=if jm o bx cy then 1 else 0:=by
 have m0:(0:Int) % p=0:=Int.zero_emod p;have m1:(1:Int) % p=1:=qH0 (by decide) hp;subst hx hy;unfold eg jm;cases bx <;> cases cy <;> (repeat' split) <;> simp_all
theorem io{ns:List Str}{st:List Int}{p:Int}(hp:1<p)(h:∀x∈st,x=0∨x=1)(hl:st.length=ns.length):∀t:Tr,t.ok ns->t.worth ns st p=if t.holds ns st then 1 else 0
 | .is x,ok=>by
   obtain⟨j,hj,jl⟩:=gY ok;show(match eW x ns with | some j=>st.getD j 0 | none=>0)=if(match eW x ns with | some j=>decide (st.getD j 0=1) | none=>false)=true then 1 else 0
   rw[hj];show st.getD j 0=if decide (st.getD j 0=1)=true then 1 else 0
   rw[qk (by omega)];rcases h _ (qL0 (show j<st.length by omega))with e | e <;> rw[e] <;> rfl
 | .yes,_=>rfl
 | .no,_=>rfl
 | .not a,ok=>by
   have m0:(0:Int) % p=0:=Int.zero_emod p;have m1:(1:Int) % p=1:=qH0 (by decide) hp;show(1-a.worth ns st p) % p=if(!a.holds ns st)=true then 1 else 0
   rw[io hp h hl a ok];cases a.holds ns st
   . exact m1
   . exact m0
 | .bin o a b,⟨_,k1,k2⟩=>yV hp _ _ (io hp h hl a k1) (io hp h hl b k2)
theorem nd_at{ns:List Str}(nd:ns.Nodup){i j:Nat}{z:Str}(hi:ns[i]?=some z)(hj:ns[j]?=some z):i=j:=by
 obtain⟨h1,e1⟩:=zY0 hi;obtain⟨h2,e2⟩:=zY0 hj;rcases Nat.lt_trichotomy i j with h | h | h
 . exact absurd (e1.trans e2.symm) (List.pairwise_iff_getElem.mp nd i j h1 h2 h)
 . exact h
 . exact absurd (e2.trans e1.symm) (List.pairwise_iff_getElem.mp nd j i h2 h1 h)
theorem Al{pt:List Int}{j i:Nat}{x:Int}(hj:j<pt.length):(pt.set j x).getD i 0=if i=j then x else pt.getD i 0:=by
 rw[zS0,zS0,List.getElem?_set]
 by_cases c:j=i
 . subst c
   simp [hj]
 . rw[zA0 c,zA0 (Ne.symm c)]
theorem iZ{ns:List Str}{pt:List Int}{p:Int}{j:Nat}{y:Str}(hy:ns[j]?=some y)(hl:pt.length=ns.length)(nd:ns.Nodup):∀t:Tr,t.ok ns->∃f:Int->Int,IsPoly (t.names.count y+1) f/\∀x:Int,p ∣ t.worth ns (pt.set j x) p-f x
 | .is z,ok=>by
   have jl:j<ns.length:=(zY0 hy).1;obtain⟨i,hi,il⟩:=gY ok;have hz:=(pO hi).1;have e:∀x,(Tr.is z).worth ns (pt.set j x) p=if i=j then x else pt.getD i 0:=fun x=>by
    show(match eW z ns with | some j'=>(pt.set j x).getD j' 0 | none=>0)=_;rw[hi];exact Al (by omega)
   by_cases c:i=j
   . subst c;have ez:z=y:=zQ0 (hz.symm.trans hy);subst ez;refine⟨fun x=>x,?_,fun x=>⟨0,by rw[e x,zB0 rfl];simp⟩⟩
     have:(Tr.is z).names.count z=1:=by simp [Tr.names]
     rw[this];exact IsPoly.self
   . have ez:z≠y:=fun h=>c (by
      subst h;exact nd_at nd hz hy)
     refine⟨fun _=>pt.getD i 0,?_,fun x=>⟨0,by rw[e x,zA0 c];simp⟩⟩;exact IsPoly.const _ _
 | .yes,_=>⟨fun _=>1,IsPoly.const _ _,fun x=>⟨0,by show(1:Int)-1=_;simp⟩⟩
 | .no,_=>⟨fun _=>0,IsPoly.const _ _,fun x=>⟨0,by show(0:Int)-0=_;simp⟩⟩
 | .not a,ok=>by
   obtain⟨f,hf,h⟩:=iZ (p:=p) hy hl nd a ok;refine⟨fun x=>1+(-1)*f x,(IsPoly.const 1 _).add (hf.mul (-1)),fun x=>?_⟩;obtain⟨k,hk⟩:=h x;obtain⟨m,hm⟩:=qm p (1-a.worth ns (pt.set j x) p);show p ∣ (1-a.worth ns (pt.set j x) p) % p-_;exact⟨m-k,by grind⟩
 | .bin o a b,⟨_,ok1,ok2⟩=>by
   obtain ⟨f,hf,h⟩:=iZ (p:=p) hy hl nd a ok1;obtain⟨g,hg,h'⟩:=iZ (p:=p) hy hl nd b ok2;have ec:(Tr.bin o a b).names.count y+1=a.names.count y+b.names.count y+1:=by
    show(a.names++b.names).count y+1=_;rw[List.count_append]
   rw [ec];have hF:IsPoly (a.names.count y+b.names.count y+1) f:=hf.upTo _ (by omega);have hG:IsPoly (a.names.count y+b.names.count y+1) g:=hg.upTo _ (by omega);have hP:=hf.prod hg;have fin:∀(c0 c1 c2:Int),(∀u v:Int,eg p o u v=(c0+c1*(u+v)+c2*(u*v)) % p)->∃F:Int->Int,IsPoly (a.names.count y+b.names.count y+1) F/\∀x:Int,p ∣ (Tr.bin o a b).worth ns (pt.set j x) p-F x:=fun c0 c1 c2 hJ=>by
    refine⟨fun x=>c0+c1*(f x+g x)+c2*(f x*g x),((IsPoly.const c0 _).add ((hF.add hG).mul c1)).add (hP.mul c2),fun x=>?_⟩;obtain⟨k,hk⟩:=h x;obtain⟨l,hl⟩:=h' x;show p ∣ eg p o (a.worth ns (pt.set j x) p) (b.worth ns (pt.set j x) p)-_;rw[hJ];generalize a.worth ns (pt.set j x) p=u at *
    generalize b.worth ns (pt.set j x) p=v at *
    obtain⟨m,hm⟩:=qm p (c0+c1*(u+v)+c2*(u*v));exact⟨m+c1*(k+l)+c2*(k*v+f x*l),by grind⟩
   by_cases c1:o="and"
   . exact fin 0 0 1 fun u v=>by unfold eg;rw[zB0 c1];congr 1;grind
   by_cases c2:o="or"
   . exact fin 0 1 (-1) fun u v=>by unfold eg;rw[zA0 c1,zB0 c2];congr 1;grind
   by_cases c3:o="odd"
   . exact fin 0 1 (-2) fun u v=>by unfold eg;rw[zA0 c1,zA0 c2,zB0 c3];congr 1;grind
   . exact fin 1 (-1) 2 fun u v=>by unfold eg;rw[zA0 c1,zA0 c2,zA0 c3];congr 1;grind
theorem ug{ns:List Str}{pt:List Int}{p s:Int}{j D:Nat}{y:Str}(hy:ns[j]?=some y)(hl:pt.length=ns.length)(nd:ns.Nodup):∀ts:List Tr,(∀t∈ts,t.ok ns/\t.names.count y<=D)->∃f:Int->Int,IsPoly (D+1) f/\∀x:Int,p ∣ ib s (ts.map fun t=>t.worth ns (pt.set j x) p)-f x
 | [],_=>⟨fun _=>0,IsPoly.const _ _,fun x=>⟨0,by simp [ib]⟩⟩
 | t::ts,h=>by
   obtain⟨f,hf,h1⟩:=iZ (p:=p) hy hl nd t (h t qP0).1;obtain⟨g,hg,h2⟩:=ug (p:=p) (s:=s) hy hl nd ts fun u hu=>h u (qR0 _ hu)
   have hd:=(h t qP0).2;refine⟨fun x=>f x+s*g x,(hf.upTo _ (by omega)).add (hg.mul s),fun x=>?_⟩;obtain⟨k,hk⟩:=h1 x;obtain⟨l,hl⟩:=h2 x;show p ∣ t.worth ns (pt.set j x) p+s*ib s (ts.map fun t=>t.worth ns (pt.set j x) p)-_;exact⟨k+s*l,by grind⟩
theorem oW{p:Int}(hp:Pm p){xs:List Int}{f:Int->Int}(hn:(xs.length:Int)<=p)(hf:IsPoly xs.length f)(h:∀k,k<xs.length->p ∣ xs.getD k 0-f k)(r:Int):val p xs r=f r % p:=
 md (ul hp hn (rD hp hn) hf h r)
theorem Fh{ts:List Tr}{x:Str}:∀t∈ts,t.names.count x<=(bj ts x).toNat:=fun t ht=>by
 have:=Do (d:=0) (List.mem_map.mpr ⟨t,ht,rfl⟩:((t.names.count x:Nat):Int)∈ts.map fun t=>(t.names.count x:Int))
 unfold bj;omega
theorem wS:∀(cs st:List Int)(x z:Int),(cs++[z]++st).set cs.length x=cs++[x]++st
 | [],_,_,_=>rfl
 | a::cs,st,x,z=>congrArg (a::·) (wS cs st x z)
theorem sV{ns:List Str}{cs:List Int}{p s:Int}{D:Nat}{y:Str}{ts:List Tr}(hy:ns[cs.length]?=some y)(nd:ns.Nodup)(h:∀t∈ts,t.ok ns/\t.names.count y<=D):∀l:List (List Int),(∀st∈l,cs.length+1+st.length=ns.length) ->
 ∃f:Int->Int,IsPoly (D+1) f/\∀x:Int,p ∣ (l.map fun st=>ib s (ts.map fun t=>t.worth ns (cs++[x]++st) p)).sum-f x
 | [],_=>⟨fun _=>0,IsPoly.const _ _,fun x=>⟨0,by simp⟩⟩
 | st::l,hs=>by
   obtain⟨f,hf,h1⟩:=ug (p:=p) (s:=s) (pt:=cs++[0]++st) hy (by rw[zM0,zM0,qE0];exact hs st qP0) nd ts h;obtain⟨g,hg,h2⟩:=sV (p:=p) (s:=s) hy nd h l fun u hu=>hs u (qR0 _ hu)
   refine⟨fun x=>f x+g x,hf.add hg,fun x=>?_⟩;obtain⟨k,hk⟩:=h1 x;rw[wS]at hk;obtain⟨m,hm⟩:=h2 x;refine⟨k+m,?_⟩;simp only[zZ0,List.sum_cons];rw[Int.mul_add];omega
theorem mN:∀(n:Nat)(s:List Int),s∈cv n->s.length=n
 | 0,s,h=>by rw[zT0 h];rfl
 | n+1,s,h=>by
   obtain⟨t,ht,h⟩:=List.mem_flatMap.mp h
   have:=mN n t ht
   rcases qD0 h with h | h
   . rw[h,zM0,this];rfl
   . rw[zT0 h,zM0,this];rfl
theorem wu{ns:List Str}{ts:List Tr}{s p:Int}{cs:List Int}{y:Str}(hp:Pm p)(hy:ns[cs.length]?=some y)(nd:ns.Nodup)(ok:∀t∈ts,t.ok ns)(tne:ts≠[])(dp:bj ts y<p)(r:Int) :
 val p (fE ns ts s p cs (bj ts y+1).toNat) r=cz ns ts s p (cs++[r]):=by
 have cl:cs.length<ns.length:=(zY0 hy).1;have d0:=uy (x:=y) tne;obtain⟨f,hf,h⟩:=sV (p:=p) (s:=s) hy nd (fun t ht=>⟨ok t ht,Fh t ht⟩) (cv (ns.length-(cs.length+1))) fun st hst=>by
  have:=mN _ _ hst
  omega
 have ll:(fE ns ts s p cs (bj ts y+1).toNat).length=(bj ts y).toNat+1:=by
  unfold fE;rw[zE0,qQ0];omega
 have eq:∀x:Int,cz ns ts s p (cs++[x])=((cv (ns.length-(cs.length+1))).map fun st=>ib s (ts.map fun t=>t.worth ns (cs++[x]++st) p)).sum % p:=fun x=>by
  unfold cz;rw[zM0,qE0]
 rw [oW hp (f:=f) (by rw[ll];omega) (by rw[ll];exact hf) (fun k hk=>by
  have e:(fE ns ts s p cs (bj ts y+1).toNat).getD k 0=cz ns ts s p (cs++[(k:Int)]):=by
   unfold fE at hk ⊢;rw[zE0,qQ0]at hk;rw[zS0,zR0,List.getElem?_range hk];rfl
  rw[e,eq];obtain⟨a,ha⟩:=h k;obtain⟨b,hb⟩:=qm p ((cv (ns.length-(cs.length+1))).map fun st=>ib s (ts.map fun t=>t.worth ns (cs++[(k:Int)]++st) p)).sum;exact⟨a+b,by grind⟩) r,eq]
 obtain⟨a,ha⟩:=h r;exact md ⟨-a,by grind⟩
theorem wx{α:Type}(F:List α->Int)(G:List α->Int):∀l:List (List α),(l.map fun s=>F s+G s).sum=(l.map F).sum+(l.map G).sum
 | []=>rfl
 | a::l=>by
   simp only[zZ0,List.sum_cons,wx F G l];omega
theorem pe(F:List Int->Int):∀l:List (List Int),((l.flatMap fun s=>[s++[0],s++[1]]).map F).sum=(l.map fun s=>F (s++[0])+F (s++[1])).sum
 | []=>rfl
 | a::l=>by
   rw[List.flatMap_cons,zL0,List.sum_append,pe F l]
   simp
theorem nZ:∀(n:Nat)(F:List Int->Int),((cv (n+1)).map F).sum=((cv n).map fun s=>F (0::s)+F (1::s)).sum
 | 0,F=>by simp [cv]
 | n+1,F=>by
   have e1:((cv (n+1+1)).map F).sum=((cv (n+1)).map fun s=>F (s++[0])+F (s++[1])).sum:=pe F _;rw[e1,nZ n fun s=>F (s++[0])+F (s++[1])];have e2:((cv (n+1)).map fun s=>F (0::s)+F (1::s)).sum=((cv n).map fun s=>(F (0::(s++[0]))+F (1::(s++[0])))+(F (0::(s++[1]))+F (1::(s++[1])))).sum:=pe (fun s=>F (0::s)+F (1::s)) _;rw[e2]
   congr 1
   refine List.map_congr_left fun s _=>?_
   show F (0::s++[0])+F (0::s++[1])+(F (1::s++[0])+F (1::s++[1]))=_;simp only[List.cons_append];omega
theorem nj{ns:List Str}{ts:List Tr}{s p:Int}{cs:List Int}(cl:cs.length<ns.length):(cz ns ts s p (cs++[0])+cz ns ts s p (cs++[1])) % p=cz ns ts s p cs:=by
 have eq:∀x:Int,cz ns ts s p (cs++[x])=((cv (ns.length-(cs.length+1))).map fun st=>ib s (ts.map fun t=>t.worth ns (cs++[x]++st) p)).sum % p:=fun x=>by
  unfold cz;rw[zM0,qE0]
 have e0:cz ns ts s p cs=((cv (ns.length-(cs.length+1)+1)).map fun st=>ib s (ts.map fun t=>t.worth ns (cs++st) p)).sum % p:=by
  unfold cz;rw[show ns.length-cs.length=ns.length-(cs.length+1)+1 by omega]
 rw [e0,nZ,eq,eq];have e1:((cv (ns.length-(cs.length+1))).map fun st=>ib s (ts.map fun t=>t.worth ns (cs++0::st) p)+ib s (ts.map fun t=>t.worth ns (cs++1::st) p)).sum
  = ((cv (ns.length-(cs.length+1))).map fun st=>ib s (ts.map fun t=>t.worth ns (cs++[0]++st) p)).sum+((cv (ns.length-(cs.length+1))).map fun st=>ib s (ts.map fun t=>t.worth ns (cs++[1]++st) p)).sum:=by
  rw[←wx]
  congr 1
  refine List.map_congr_left fun st _=>?_
  simp only[List.append_assoc,List.singleton_append]
 rw[e1,←Int.add_emod]
theorem pP(s:Int){α:Type}(F:Tr->α->Int)(l:List α):∀ts:List Tr,ib s (ts.map fun t=>(l.map (F t)).sum)=(l.map fun a=>ib s (ts.map fun t=>F t a)).sum
 | []=>by
   simp only[List.map_nil,ib]
   induction l with
   | nil=>rfl
   | cons a l ih=>simpa using ih
 | t::ts=>by
   show(l.map (F t)).sum+s*ib s (ts.map fun t=>(l.map (F t)).sum)=_;rw[pP s F l ts];clear pP
   induction l with
   | nil=>simp
   | cons a l ih=>
     simp only[zZ0,List.sum_cons,ib]at ih ⊢
     grind
theorem wV{ns:List Str}{ts:List Tr}{s p:Int}{cs:List Int}(cl:cs.length=ns.length):cz ns ts s p cs=hor s p (ts.map fun t=>t.worth ns cs p):=by
 rw[lW];unfold cz;rw[cl,Nat.sub_self]
 simp [cv]
section
theorem zA{z:Ak}(k:AkOk z)(nd:z.ns.Nodup)(i:Int)(h:0<z.nr):fJ z i=cz z.ns z.ts z.s z.p (z.to++[i]):=by
 obtain ⟨x,hx,ex,d0,d1,d4⟩:=k.deg h;unfold fJ;rw[zB0 h];have e:z.tru=fE z.ns z.ts z.s z.p z.to (bj z.ts x+1).toNat:=by
  unfold Ak.tru;rw[zA0 (by omega),ex]
 have t0:z.ts≠[]:=fun e=>by have:=k.gk.t1;rw[e]at this;cases this
 rw[e];exact wu (pQ k.gk.pr (by have:=k.gk.p9;omega)) hx nd (fun t ht=>(k.gk.tok t ht).1) t0 d1 i
theorem zC{z:Ak}(h:z.nr=0)(i:Nat){t:Tr}(ht:z.ts[i]?=some t):fJ z (i:Int)=(cnt t z.ns:Int) % z.p:=by
 have hl:=(zY0 ht).1;unfold fJ;have e:z.tru=z.ts.map (fun t=>(cnt t z.ns:Int)):=by
  unfold Ak.tru;rw[zB0 h]
 rw[zA0 (by omega),e,zE0,zB0 (by omega),qT0,zS0,zR0,ht];rfl
end
theorem Dz{ns:List Str}{p:Int}(hp:1<p){t:Tr}(ok:t.ok ns):(cnt t ns:Int)=((cv ns.length).map fun st=>t.worth ns st p).sum:=by
 unfold cnt;have h:∀st∈cv ns.length,t.worth ns st p=if t.holds ns st then 1 else 0:=fun st hst=>io hp (lx _ _ hst) (mN _ _ hst) t ok
 generalize cv ns.length=l at h
 induction l with
 | nil=>rfl
 | cons a l ih=>
   have ih:=ih fun st hst=>h st (qR0 _ hst)
   rw[zZ0,List.sum_cons,←ih,h a qP0,List.filter_cons];cases t.holds ns a
   . simp
   . simp only[if_true,qF0];omega
theorem vJ{ns:List Str}{ts:List Tr}{s p:Int}(hp:1<p)(ok:∀t∈ts,t.ok ns):hor s p (ts.map fun t=>(cnt t ns:Int))=cz ns ts s p []:=by
 rw[lW];unfold cz;have e:(ts.map fun t=>(cnt t ns:Int))=ts.map fun t=>((cv ns.length).map fun st=>t.worth ns st p).sum:=List.map_congr_left fun t ht=>Dz hp (ok t ht)
 rw[e,pP s (fun t st=>t.worth ns st p)];rfl
theorem xu(s p:Int):∀xs:List Int,hor s p (xs.map (· % p))=hor s p xs
 | []=>rfl
 | a::r=>by
   show(hor s p (r.map (· % p))*s+a % p) % p=(hor s p r*s+a) % p;rw[xu s p r,Int.add_emod_emod]
section
variable {ns:List Str} {ts:List Tr} {p:Int} {t:Tk} {rows:List Hr}
theorem jB(k:GmK ns ts p)(s:Int):hor s p (ts.map fun u=>(cnt u ns:Int) % p)=cz ns ts s p []:=by
 have p2:=k.p2;rw[←vJ (s:=s) (p:=p) (by omega) (fun u hu=>(k.tok u hu).1),←xu s p (ts.map fun t=>(cnt t ns:Int)),List.map_map];rfl
theorem lX (z:Db) (tl:z.to.length<=ns.length) (e:z.ed=cz ns ts z.s p z.to):((goOn ns ts p z).aw.1="hear" -> (goOn ns ts p z).ed=cz ns ts (goOn ns ts p z).s p (goOn ns ts p z).to)/\(¬ (goOn ns ts p z).aw.1="hear" -> (goOn ns ts p z).aw=(("believed":Str),none)):=by
 unfold goOn
 by_cases c:z.to.length<ns.length
 . rw[zB0 c];exact⟨fun _=>e,fun h=>absurd rfl h⟩
 . rw [zA0 c];unfold dZ;have e2:z.ed=hor z.s p (ts.map fun t=>t.worth ns z.to p):=by rw[e,wV (by omega)]
   rw[zB0 e2];exact⟨fun h=>absurd h DX,fun _=>rfl⟩
structure Tru(ns:List Str)(ts:List Tr)(p:Int)(t:Tk):Prop where
 he:t.z.aw.1="hear" -> t.z.ed=cz ns ts t.z.s p t.z.to
 co:t.z.aw.1="coin" -> t.z.he≠[]->t.z.he=fE ns ts t.z.s p t.z.to (bj ts (ns.getD t.z.to.length "")+1).toNat
 cm:t.z.aw.1="coin" -> t.z.he=[]->t.z.cl=ts.map (fun u=>(cnt u ns:Int) % p)/\t.z.to=[]
 en:¬ t.z.aw.1="hear" -> ¬ t.z.aw.1="coin" -> t.z.aw=(("believed":Str),none)
theorem iB (k:GmK ns ts p) (nd:ns.Nodup) {cs:List Int} {s:Int} (tl:cs.length<ns.length) (r:Int):val p (fE ns ts s p cs (bj ts (ns.getD cs.length "")+1).toNat) r=cz ns ts s p (cs++[r]):=by
 have hy:ns[cs.length]?=some (ns.getD cs.length ""):=by
  rw[zS0,zK0 tl];rfl
 have hx:ns.getD cs.length ""∈ns:=qG0 hy;have t0:ts≠[]:=fun e=>by have:=k.t1;rw[e]at this;cases this
 exact wu (pQ k.pr (by have:=k.p9;omega)) hy nd (fun u hu=>(k.tok u hu).1) t0 (k.deg _ hx).2 r
theorem Tru.toss (k:GmK ns ts p) (nd:ns.Nodup) (h:TkOk ns ts p t) (d:Tru ns ts p t) (hw:t.z.aw.1="coin") (r:Int):Tru ns ts p (t.toss ns ts p r):=by
 have fin:∀z:Db,z.to.length<=ns.length->z.ed=cz ns ts z.s p z.to->(t.toss ns ts p r).z=goOn ns ts p z->Tru ns ts p (t.toss ns ts p r):=fun z tl e ez=>by
  obtain⟨f1,f2⟩:=lX (ns:=ns) (ts:=ts) (p:=p) z tl e;have no:=kz (ns:=ns) (ts:=ts) (p:=p) z;rw[←ez]at f1 f2 no;exact⟨f1,fun z=>absurd z no,fun z=>absurd z no,fun z _=>f2 z⟩
 by_cases c:t.z.he=[]
 . obtain⟨ec,et⟩:=d.cm hw c;refine fin { t.z with pl:=t.z.pl+1,s:=r,ed:=hor r p t.z.cl } h.gd.tl ?_ (zB0 c);show hor r p t.z.cl=cz ns ts r p t.z.to;rw[ec,et,jB k]
 . have tl:=((h.gd.co hw).2 c).2;refine fin { t.z with pl:=t.z.pl+1,ed:=val p t.z.he r,to:=t.z.to++[r] } (by show(t.z.to++[r]).length<=_;rw[zM0,qE0];omega) ?_ (zA0 c);show val p t.z.he r=cz ns ts t.z.s p (t.z.to++[r]);rw[d.co hw c,iB k nd tl]
end
section
variable {ns:List Str} {ts:List Tr} {p:Int} {t:Tk}
def nW(z:Ak)(n:Nat):List Int:=(List.range n).map fun k:Nat=>fJ z ((k:Int) % z.p)
theorem xU(z:Ak)(n:Nat):(nW z n).length=n:=by unfold nW;rw[zE0,qQ0]
theorem xT (k:GmK ns ts p) (n6:ns.length<=6) (nd:ns.Nodup) (h:TkOk ns ts p t) (hw:t.z.aw.1="hear"):nW (t.ak ns ts p) (awN t.z).toNat=fE ns ts t.z.s p t.z.to (awN t.z).toNat:=by
 obtain ⟨ok,a0,a5,tl,aw,ea⟩:=h.ak k n6 hw;have nr:=h.nr;have hx:ns.getD t.z.to.length ""∈ns:=by
  rw[zS0,zK0 tl];exact qL0 tl
 have dp:=(k.deg _ hx).2;unfold nW fE;refine List.map_congr_left fun j hj=>?_
 have hj:=List.mem_range.mp hj;have e:(j:Int) % (t.ak ns ts p).p=(j:Int):=qH0 (by omega) (by show(j:Int)<p;omega);rw[e];exact zA ok nd (j:Int) (by show 0<t.nr;omega)
theorem xV(k:GmK ns ts p):nW ((Tk.new ts).ak ns ts p) ts.length=ts.map fun u=>(cnt u ns:Int) % p:=by
 have tp:=k.tp;refine List.ext_getElem? fun j=>?_
 unfold nW;rw[zR0,zR0]
 by_cases c:j<ts.length
 . rw[List.getElem?_range c,zK0 c];show some (fJ ((Tk.new ts).ak ns ts p) ((j:Int) % ((Tk.new ts).ak ns ts p).p))=_;have e:(j:Int) % ((Tk.new ts).ak ns ts p).p=(j:Int):=qH0 (by omega) (by show(j:Int)<p;omega);rw[e,zC (z:=(Tk.new ts).ak ns ts p) rfl j (zK0 c)];rfl
 . rw[List.getElem?_eq_none (by rw[qQ0];omega),List.getElem?_eq_none (by omega)];rfl
theorem ne_tc:¬ (("true":Str)="coin"):=by decide +kernel
theorem rV{z:Ak}{rows:List Hr}{n:Nat}{s:MS}(h1:s.pl<(rows.length:Int))(h2:(s.sd.length:Int)<z.mn):kP z rows (n+1) s=kP z rows n (eV z rows s):=zB0 ⟨h1,h2⟩
theorem wU{z:Ak}{rows:List Hr}{s:MS}(h:¬ (s.pl<(rows.length:Int)/\(s.sd.length:Int)<z.mn)):∀n,kP z rows n s=s
 | 0=>rfl
 | n+1=>zA0 h
end
section
def bmp(p:Int)(l:List Int)(a:Nat)(m:Int):List Int:=l.set a ((l.getD a 0+m) % p)
theorem jj(p:Int)(l:List Int)(a:Nat)(m:Int):(bmp p l a m).length=l.length:=List.length_set
theorem wl{p:Int}{l:List Int}{a:Nat}{m:Int}(h:a<l.length):(bmp p l a m).getD a 0=(l.getD a 0+m) % p:=by
 unfold bmp;rw[zS0,List.getElem?_set_self h];rfl
theorem wk{p:Int}{l:List Int}{a k:Nat}{m:Int}(h:k≠a):(bmp p l a m).getD k 0=l.getD k 0:=by
 unfold bmp;rw[zS0,List.getElem?_set_ne (Ne.symm h),←zS0]
theorem jN{p:Int}{l:List Int}{a:Nat}{m r:Int}(hp:Pm p)(hn:(l.length:Int)<=p)(r0:0<=r)(rl:r<l.length)(ra:r≠(a:Int)):val p (bmp p l a m) r=val p l r:=by
 obtain⟨k,rfl⟩:=Int.eq_ofNat_of_zero_le r0;rw[oX hp (by rw[jj];exact hn) (by rw[jj];omega),oX hp hn (by omega),wk (by omega)]
theorem mr{p:Int}{l:List Int}{a:Nat}{m:Int}(hp:Pm p)(hn:(l.length:Int)<=p)(al:a<l.length):val p (bmp p l a m) a=(val p l a+m) % p:=by
 rw[oX hp (by rw[jj];exact hn) (by rw[jj];omega),oX hp hn al,wl al,Int.emod_emod,Int.emod_add_emod]
theorem Cg{p x m:Int}(m0:¬ p ∣ m)(x0:0<=x)(x1:x<p):(x+m) % p≠x:=fun e=>m0 (by
 have h:(x+m) % p=x % p:=by rw[e,qH0 x0 x1]
 have:=Int.emod_eq_emod_iff_emod_sub_eq_zero.mp h
 rw[show x+m-x=m by omega]at this;exact Int.dvd_of_emod_eq_zero this)
theorem Cb{p:Int}{l:List Int}{a:Nat}{m r:Int}(hp:Pm p)(hn:(l.length:Int)<=p)(al:a<l.length)(m0:¬ p ∣ m)(r1:r<p)(rl:(l.length:Int)<=r):val p (bmp p l a m) r≠val p l r:=fun e=>by
 have hu:=rD hp hn;have nl:=jj p l a m;have e':p ∣ lag (fun i=>(bmp p l a m).getD i 0) (wt p l.length) l.length r-lag (fun i=>l.getD i 0) (wt p l.length) l.length r:=by
  refine Int.dvd_of_emod_eq_zero (Int.emod_eq_emod_iff_emod_sub_eq_zero.mp ?_);have h:=e;unfold val at h;rw[nl]at h;exact h
 have hpoly:IsPoly l.length fun x=>lag (fun i=>(bmp p l a m).getD i 0) (wt p l.length) l.length x+(-1)*lag (fun i=>l.getD i 0) (wt p l.length) l.length x:=(lS _ _ _).add ((lS _ _ _).mul (-1))
 have z:=IsPoly.roots hp ((List.range l.length).map fun i:Nat=>if i=a then r else(i:Int)) hpoly (by rw[zE0,qQ0]) ?_ ?_ (a:Int)
 . have z1:=kY (v:=fun i=>(bmp p l a m).getD i 0) hu al;have z2:=kY (v:=fun i=>l.getD i 0) hu al;have z1':p ∣ lag (fun i=>(bmp p l a m).getD i 0) (wt p l.length) l.length a-(l.getD a 0+m) % p:=by
    have h:=z1;rw[wl al]at h;exact h
   have z3:p ∣ (l.getD a 0+m) % p-(l.getD a 0+m):=Int.dvd_of_emod_eq_zero (Int.emod_eq_emod_iff_emod_sub_eq_zero.mp (Int.emod_emod ..));obtain⟨c,hc⟩:=z;obtain⟨c1,h1⟩:=z1';obtain⟨c2,h2⟩:=z2;obtain⟨c3,h3⟩:=z3;refine m0 ⟨c-c1+c2-c3,?_⟩;rw[Int.mul_sub,Int.mul_add,Int.mul_sub];omega
 . refine List.pairwise_map.mpr (List.Pairwise.imp_of_mem ?_ List.pairwise_lt_range);intro i j hi hj ij hd;have hi:=List.mem_range.mp hi;have hj:=List.mem_range.mp hj;obtain⟨c,hc⟩:=hd;have p1:=hp.1;have key:∀d:Int,d=p*c->0<d->d<p->False:=fun d hd h0 h1=>by
    rcases Int.lt_or_le c 1 with h | h
    . have:p*c<=0:=Int.mul_nonpos_of_nonneg_of_nonpos (by omega) (by omega)
      omega
    . have:p*1<=p*c:=qW0 h (by omega)
      omega
   have key2:∀d:Int,d=p*c->-p<d->d<0->False:=fun d hd h0 h1=>by
    rcases Int.lt_or_le c 0 with h | h
    . have:p*c<=p*(-1):=qW0 (by omega) (by omega)
      omega
    . have:0<=p*c:=Int.mul_nonneg (by omega) h
      omega
   by_cases ci:i=a
   . rw[zB0 ci,zA0 (by omega)]at hc;exact key2 _ hc (by omega) (by omega)
   . rw [zA0 ci]at hc
     by_cases cj:j=a
     . rw[zB0 cj]at hc;exact key _ hc (by omega) (by omega)
     . rw[zA0 cj]at hc;exact key _ hc (by omega) (by omega)
 . intro x hx;obtain⟨i,hi,rfl⟩:=List.mem_map.mp hx;have hi:=List.mem_range.mp hi
   by_cases ci:i=a
   . rw [zB0 ci]
     simpa [Int.sub_eq_add_neg]using e'
   . rw [zA0 ci];have z1:=kY (v:=fun i=>(bmp p l a m).getD i 0) hu hi;have z2:=kY (v:=fun i=>l.getD i 0) hu hi
     have:=Int.dvd_sub z1 z2
     simp only[wk ci]at this;rw[show ∀A B C:Int,A-C-(B-C)=A+-1*B by intro A B C;omega]at this;exact this
end
section
variable {ns:List Str} {ts:List Tr} {p:Int} {t:Tk} {rows:List Hr} {n a:Nat} {m:Int}
theorem Tru.ask1 (k:GmK ns ts p) (n6:ns.length<=6) (nd:ns.Nodup) (hs:t.said ns ts p rows=fE ns ts t.z.s p t.z.to (awN t.z).toNat) (h:TkOk ns ts p t) (d:Tru ns ts p t) (hw:t.z.aw.1="hear"):Tru ns ts p (t.ask ns ts p rows)/\(t.ask ns ts p rows).z.aw=(("coin":Str),none):=by
 obtain⟨_,_,_,tl,aw,ea⟩:=h.ak k n6 hw;have x0:=h.gd.hear_ne k (h.hear (rows:=rows) k n6 hw);have e:(t.ask ns ts p rows).z=dy p (t.said ns ts p rows) { t.z with pl:=t.z.pl+((t.said ns ts p rows).length:Int) }:=zA0 h.cl;have es:t.said ns ts p rows=fE ns ts t.z.s p t.z.to (bj ts (ns.getD t.z.to.length "")+1).toNat:=by rw[hs,ea]
 have ac:(t.ask ns ts p rows).z.aw=(("coin":Str),none):=by
  rw[e];unfold dy;rw[zB0];show(val p (t.said ns ts p rows) 0+val p (t.said ns ts p rows) 1) % p=t.z.ed;rw[es,iB k nd tl,iB k nd tl,nj tl,d.he hw]
 refine⟨⟨fun z=>?_,fun _ _=>?_,fun _ z=>?_,fun _ z=>?_⟩,ac⟩
 . rw[ac]at z;exact absurd z gP
 . rw[e];exact es
 . rw[e]at z;exact absurd z x0
 . rw[ac]at z;exact absurd rfl z
abbrev zo(ns:List Str)(ts:List Tr)(p:Int):List Int:=ts.map fun u=>(cnt u ns:Int) % p
structure OneL(ns:List Str)(ts:List Tr)(p:Int)(rows:List Hr)(n a:Nat)(m:Int):Prop where
 cl:(Tk.new ts).said ns ts p rows=if n=0 then bmp p (zo ns ts p) a m else zo ns ts p
 ro:∀t,TkOk ns ts p t->t.z.aw.1="hear" -> t.nr=(t.z.to.length:Int)+1->t.said ns ts p rows=if t.z.to.length+1=n then bmp p (fE ns ts t.z.s p t.z.to (awN t.z).toNat) a m else fE ns ts t.z.s p t.z.to (awN t.z).toNat
structure NrOk(t:Tk):Prop where
 he:t.z.aw.1="hear" -> t.nr=(t.z.to.length:Int)+1
 co:t.z.aw.1="coin" -> t.z.he≠[]->t.nr=(t.z.to.length:Int)+2
 c0:t.z.aw.1="coin" -> t.z.he=[]->t.nr=1/\t.z.to=[]
theorem Cd(h:TkOk ns ts p t):(t.ask ns ts p rows).z=dy p (t.said ns ts p rows) { t.z with pl:=t.z.pl+((t.said ns ts p rows).length:Int) }:=zA0 h.cl
theorem NrOk.ask (k:GmK ns ts p) (n6:ns.length<=6) (h:TkOk ns ts p t) (d:NrOk t) (hw:t.z.aw.1="hear"):NrOk (t.ask ns ts p rows)/\(t.ask ns ts p rows).z.to=t.z.to/\(t.ask ns ts p rows).z.he=t.said ns ts p rows/\t.said ns ts p rows≠[]:=by
 have x0:=h.gd.hear_ne k (h.hear (rows:=rows) k n6 hw);have e:=Cd (rows:=rows) h;obtain⟨_,_,_,nh⟩:=h.ask (rows:=rows) k n6 hw;have et:(t.ask ns ts p rows).z.to=t.z.to:=by rw[e];rfl
 have eh:(t.ask ns ts p rows).z.he=t.said ns ts p rows:=by rw[e];rfl
 refine⟨⟨fun z=>absurd z nh,fun _ _=>?_,fun _ z=>absurd (eh.symm.trans z) x0⟩,et,eh,x0⟩;show t.nr+1=_;rw[et,d.he hw];omega
theorem NrOk.toss (k:GmK ns ts p) (h:TkOk ns ts p t) (d:NrOk t) (hw:t.z.aw.1="coin") {r:Int} (r0:0<=r) (r1:r<p):NrOk (t.toss ns ts p r):=by
 obtain⟨_,_,_,nc,t1,t2⟩:=h.toss k hw r0 r1;refine⟨fun _=>?_,fun z=>absurd z nc,fun z=>absurd z nc⟩;show t.nr=_
 by_cases c:t.z.he=[]
 . rw[(t1 c).2,(d.c0 hw c).1];rfl
 . rw[(t2 c).2,d.co hw c,zM0,qE0];omega
theorem kt (k:GmK ns ts p) (n6:ns.length<=6) (nd:ns.Nodup) (hn:OneL ns ts p rows n a m):∀(f:Nat) (t:Tk) (cs:List Int),TkOk ns ts p t->Tru ns ts p t->NrOk t->(t.z.aw.1="hear" -> n<=t.z.to.length)->(t.z.aw.1="coin" -> t.z.he≠[]->n<=t.z.to.length+1)->(t.z.aw.1="coin" -> t.z.he=[]->n=0)->bV cs p->bw ns t.z<=f->(cJ ns ts p rows cs f t).2.z.aw=(("believed":Str),none)
 | 0,t,cs,h,d,_,_,_,_,hc,hs=>d.en (fun z=>by have:=(cQ h (.inl z)).1;omega) (fun z=>by have:=(cQ h (.inr z)).1;omega)
 | f+1,t,cs,h,d,nr,p1,p2,p3,hc,hs=>by
   have q2:=k.p2
   by_cases ch:t.z.aw.1="hear"
   . rw[dJ ch];obtain⟨o,s,_,nh⟩:=h.ask (rows:=rows) k n6 ch;obtain⟨nr',et,eh,x0⟩:=nr.ask (rows:=rows) k n6 h ch;have es:=hn.ro t h ch (nr.he ch);rw[zA0 (by have:=p1 ch;omega)]at es;exact kt k n6 nd hn f _ cs o (d.ask1 k n6 nd es h ch).1 nr' (fun z=>absurd z nh) (fun _ _=>by rw[et];have:=p1 ch;omega) (fun _ z=>absurd (eh.symm.trans z) x0) hc (by omega)
   . by_cases cc:t.z.aw.1="coin"
     . rw [dL cc];obtain⟨r0,r1⟩:=gZ hc (by omega);obtain⟨o,s,_,nc,t1,t2⟩:=h.toss k cc r0 r1;refine kt k n6 nd hn f _ cs.tail o (d.toss k nd h cc _) (nr.toss k h cc r0 r1) (fun _=>?_) (fun z=>absurd z nc) (fun z=>absurd z nc) (lp hc) (by omega)
       by_cases c:t.z.he=[]
       . rw[p3 cc c];exact zU0 _
       . rw[(t2 c).2,zM0,qE0];exact p2 cc c
     . rw[de ch cc];exact d.en ch cc
theorem qt (k:GmK ns ts p) (n6:ns.length<=6) (nd:ns.Nodup) (hn:OneL ns ts p rows n a m) {z:Db} (f:Nat) (cs:List Int) (h:TkOk ns ts p t) (nr:NrOk t) (ez:t.z=goOn ns ts p z) (tl:z.to.length<=ns.length) (e:z.ed≠cz ns ts z.s p z.to) (hp:n<=z.to.length) (hs:bw ns t.z<=f):(cJ ns ts p rows cs f t).2.z.aw=(("caught":Str),some ((z.to.length:Int)+1)):=by
 by_cases c:z.to.length<ns.length
 . have ez2:t.z={ z with aw:=("hear",some (bj ts (ns.getD z.to.length "")+1)) }:=ez.trans (zB0 c);have ch:t.z.aw.1="hear":=by rw[ez2]
   have et:t.z.to=z.to:=by rw[ez2]
   have ee:t.z.ed=z.ed:=by rw[ez2]
   have es':t.z.s=z.s:=by rw[ez2]
   obtain⟨_,_,_,_,aw,ea⟩:=h.ak k n6 ch;have es:=hn.ro t h ch (nr.he ch);rw[zA0 (by rw[et];omega),ea]at es;have tl2:t.z.to.length<ns.length:=by rw[et];exact c
   have ac:(t.ask ns ts p rows).z.aw=(("caught":Str),some ((z.to.length:Int)+1)):=by
    rw[Cd (rows:=rows) h];unfold dy;rw[zA0]
    . show(("caught":Str),some ((t.z.to.length:Int)+1))=_;rw[et]
    . show ¬ (val p (t.said ns ts p rows) 0+val p (t.said ns ts p rows) 1) % p=t.z.ed;rw[es,iB k nd tl2,iB k nd tl2,nj tl2,ee,et,es'];exact Ne.symm e
   cases f with
   | zero=>have:=(cQ h (.inl ch)).1;omega
   | succ f=>
     rw[dJ ch];show(cJ ns ts p rows cs f (t.ask ns ts p rows)).2.z.aw=_;rw[de (by rw[ac];exact pZ) (by rw[ac];exact xj)];exact ac
 . have ea:t.z.aw=(("caught":Str),some ((z.to.length:Int)+1)):=by
    rw[ez];unfold goOn;rw[zA0 c];unfold dZ;rw[zA0];rw[←wV (by omega)];exact e
   rw[de (by rw[ea];exact pZ) (by rw[ea];exact xj)];exact ea
end
section
variable {ns:List Str} {ts:List Tr} {p:Int} {t:Tk} {rows:List Hr} {n a:Nat} {m:Int}
noncomputable def uk (ns:List Str) (ts:List Tr) (n a:Nat) (r:Int):Str×Option Int:=if a<2 then("caught",some (n:Int))else if r<=bj ts (ns.getD (n-1) "")/\r≠(a:Int)then("believed",none)else("caught",some ((n:Int)+1))
theorem ya(cs:List Int)(j:Nat):cs.tail.getD j 0=cs.getD (j+1) 0:=by
 cases cs <;> rfl
theorem qX(cs:List Int):cs.getD 0 0=cs.headD 0:=by
 cases cs <;> rfl
theorem wA{p x y m:Int}:((x+m) % p+y) % p=((x+y) % p+m) % p:=by
 rw[Int.emod_add_emod,Int.emod_add_emod]
 congr 1
 omega
theorem By (k:GmK ns ts p) (n6:ns.length<=6) (nd:ns.Nodup) (hn:OneL ns ts p rows n a m) (m0:¬ p ∣ m) (f:Nat) (cs:List Int) (h:TkOk ns ts p t) (d:Tru ns ts p t) (nr:NrOk t) (hw:t.z.aw.1="hear") (en:t.z.to.length+1=n) (al:(a:Int)<=bj ts (ns.getD (n-1) "")) (hc:bV cs p) (hs:bw ns t.z<=f):(cJ ns ts p rows cs f t).2.z.aw=uk ns ts n a (cs.headD 0):=by
 have p2:=k.p2;have hp:Pm p:=pQ k.pr (by have:=k.p9;omega);obtain⟨_,_,_,tl,aw,ea⟩:=h.ak k n6 hw;obtain⟨o,s,_,nh⟩:=h.ask (rows:=rows) k n6 hw;obtain⟨nr',et,eh,x0⟩:=nr.ask (rows:=rows) k n6 h hw;have es:=hn.ro t h hw (nr.he hw);rw[zB0 en,ea]at es;have e1:n-1=t.z.to.length:=by omega
 rw [e1]at al;have hx:ns.getD t.z.to.length ""∈ns:=by
  rw[zS0,zK0 tl];exact qL0 tl
 obtain⟨d0,dp⟩:=k.deg _ hx;have vr:=fun r=>iB k nd (s:=t.z.s) tl r
 have ll:(fE ns ts t.z.s p t.z.to (bj ts (ns.getD t.z.to.length "")+1).toNat).length=(bj ts (ns.getD t.z.to.length "")+1).toNat:=tL ..;unfold uk;rw[e1];generalize bj ts (ns.getD t.z.to.length "")=dg at *
 generalize fE ns ts t.z.s p t.z.to (dg+1).toNat=L at *
 have hL:(L.length:Int)<=p:=by omega
 have aL:a<L.length:=by omega
 have ed:=d.he hw;have sp:=nj (ns:=ns) (ts:=ts) (s:=t.z.s) (p:=p) tl;rw[←vr 0,←vr 1]at sp;have hz:=Cd (rows:=rows) h;obtain⟨fu,rfl⟩:∃fu,f=fu+1:=⟨f-1,by have:=(cQ h (.inl hw)).1;omega⟩
 rw[dJ hw];show(cJ ns ts p rows cs fu (t.ask ns ts p rows)).2.z.aw=_
 by_cases c2:a<2
 . rw [zB0 c2];have ne:¬ (val p (bmp p L a m) 0+val p (bmp p L a m) 1) % p=t.z.ed:=by
    have key:=Cg m0 h.gd.e0 h.gd.e1
    by_cases cl:L.length=1
    . have a0:a=0:=by omega
      subst a0;have cst:∀(xs:List Int)(r:Int),xs.length=1->val p xs r=val p xs 0:=fun xs r hl=>by
       have hf:IsPoly xs.length fun _=>xs.getD 0 0:=by rw[hl];exact⟨xs.getD 0 0,fun _=>0,fun _=>rfl,fun x=>by simp⟩
       have hk:∀k,k<xs.length->p ∣ xs.getD k 0-xs.getD 0 0:=fun k hk=>by
        have:k=0:=by omega
        subst this;exact⟨0,by omega⟩
       rw[oW hp (by omega) hf hk r,oW hp (by omega) hf hk 0]
      rw[cst (bmp p L 0 m) 1 (by rw[jj,cl]),show(0:Int)=((0:Nat):Int)from rfl,mr hp hL aL];rw[cst L 1 cl]at sp;rw[ed,←sp];show ¬ ((val p L 0+m) % p+(val p L 0+m) % p) % p=(val p L 0+val p L 0) % p;rw[Int.emod_add_emod,Int.add_emod_emod];intro z
      have:=Int.emod_eq_emod_iff_emod_sub_eq_zero.mp z
      rw[show val p L 0+m+(val p L 0+m)-(val p L 0+val p L 0)=2*m by omega]at this;refine m0 (hp.mul (Int.dvd_of_emod_eq_zero this) (fun z2=>?_))
      have:=Int.le_of_dvd (by decide) z2
      omega
    . rcases(show a=0∨a=1 by omega)with rfl | rfl
      . rw[jN (r:=1) hp hL (by decide) (by omega) (by decide),show(0:Int)=((0:Nat):Int)from rfl,mr hp hL aL,wA];show ¬ ((val p L 0+val p L 1) % p+m) % p=t.z.ed;rw[sp,←ed];exact key
      . rw[jN (r:=0) hp hL (by decide) (by omega) (by decide),show val p (bmp p L 1 m) 1=(val p L 1+m) % p from mr hp hL aL,Int.add_comm,wA,Int.add_comm (val p L 1),sp,←ed];exact key
   have ac:(t.ask ns ts p rows).z.aw=(("caught":Str),some (n:Int)):=by
    rw[hz];unfold dy;rw[zA0]
    . show(("caught":Str),some ((t.z.to.length:Int)+1))=_;rw[←en];rfl
    . show ¬ (val p (t.said ns ts p rows) 0+val p (t.said ns ts p rows) 1) % p=t.z.ed;rw[es];exact ne
   rw[de (by rw[ac];exact pZ) (by rw[ac];exact xj)];exact ac
 . rw [zA0 c2];have ac:(t.ask ns ts p rows).z.aw=(("coin":Str),none):=by
    rw[hz];unfold dy;rw[zB0];show(val p (t.said ns ts p rows) 0+val p (t.said ns ts p rows) 1) % p=t.z.ed;rw[es,jN (r:=0) hp hL (by decide) (by omega) (by omega),jN (r:=1) hp hL (by decide) (by omega) (by omega),sp,ed]
   have cc:(t.ask ns ts p rows).z.aw.1="coin":=by rw[ac]
   have hne:(t.ask ns ts p rows).z.he≠[]:=by rw[eh];exact x0
   obtain⟨fv,rfl⟩:∃fv,fu=fv+1:=⟨fu-1,by have:=(cQ o (.inr cc)).1;omega⟩
   rw[dL cc];obtain⟨r0,r1⟩:=gZ hc (by omega);obtain⟨o2,s2,_,nc,_,t2⟩:=o.toss k cc r0 r1;have nr2:=nr'.toss k o cc r0 r1;show(cJ ns ts p rows cs.tail fv ((t.ask ns ts p rows).toss ns ts p (cs.headD 0))).2.z.aw=_;have ez:((t.ask ns ts p rows).toss ns ts p (cs.headD 0)).z=goOn ns ts p { (t.ask ns ts p rows).z with pl:=(t.ask ns ts p rows).z.pl+1,ed:=val p (t.ask ns ts p rows).z.he (cs.headD 0),to:=(t.ask ns ts p rows).z.to++[cs.headD 0] }:=zA0 hne;have tl2:((t.ask ns ts p rows).z.to++[cs.headD 0]).length=n:=by rw[et,zM0,qE0];exact en
   have tn:n<=ns.length:=by omega
   have ss:(t.ask ns ts p rows).z.s=t.z.s:=by rw[hz];rfl
   generalize cs.headD 0=r at *
   by_cases c:r<=dg/\r≠(a:Int)
   . rw [zB0 c];have e:val p (t.ask ns ts p rows).z.he r=cz ns ts (t.ask ns ts p rows).z.s p ((t.ask ns ts p rows).z.to++[r]):=by
      rw[eh,es,jN hp hL r0 (by omega) c.2,vr,et,ss]
     obtain⟨f1,f2⟩:=lX (ns:=ns) (ts:=ts) (p:=p) { (t.ask ns ts p rows).z with pl:=(t.ask ns ts p rows).z.pl+1,ed:=val p (t.ask ns ts p rows).z.he r,to:=(t.ask ns ts p rows).z.to++[r] } (by show((t.ask ns ts p rows).z.to++[r]).length<=_;omega) e;rw[←ez]at f1 f2;exact kt k n6 nd hn fv _ cs.tail o2 ⟨f1,fun z=>absurd z nc,fun z=>absurd z nc,fun z _=>f2 z⟩ nr2 (fun _=>by rw[(t2 hne).2,tl2];exact zG0 _) (fun z=>absurd z nc) (fun z=>absurd z nc) (lp hc) (by omega)
   . rw [zA0 c];have e:val p (t.ask ns ts p rows).z.he r≠cz ns ts (t.ask ns ts p rows).z.s p ((t.ask ns ts p rows).z.to++[r]):=by
      rw[eh,es,et,ss,←vr]
      by_cases cr:r<=dg
      . have ra:r=(a:Int):=by
         refine Decidable.byContradiction fun z=>c ⟨cr,z⟩
        rw[ra,mr hp hL aL]
        have:=wv hp.1 L a
        exact Cg m0 this.1 this.2
      . exact Cb hp hL aL m0 r1 (by omega)
     rw[qt k n6 nd hn fv cs.tail o2 nr2 ez (by show((t.ask ns ts p rows).z.to++[r]).length<=_;omega) e (by show n<=((t.ask ns ts p rows).z.to++[r]).length;omega) (by omega)];show(("caught":Str),some ((((t.ask ns ts p rows).z.to++[r]).length:Int)+1))=_;rw[tl2]
theorem lh (k:GmK ns ts p) (n6:ns.length<=6) (nd:ns.Nodup) (hn:OneL ns ts p rows n a m) (m0:¬ p ∣ m) (nn:n<=ns.length) (n1:1<=n) (al:(a:Int)<=bj ts (ns.getD (n-1) "")):∀(f:Nat) (t:Tk) (cs:List Int) (j:Nat),TkOk ns ts p t->Tru ns ts p t->NrOk t->(t.z.aw.1="hear"/\j+t.z.to.length+1=n∨t.z.aw.1="coin"/\t.z.he≠[]/\1<=j/\j+t.z.to.length+1=n∨t.z.aw.1="coin"/\t.z.he=[]/\j=n)->bV cs p->bw ns t.z<=f->(cJ ns ts p rows cs f t).2.z.aw=uk ns ts n a (cs.getD j 0)
 | 0,t,cs,j,h,d,nr,ph,hc,hs=>by
   have:t.z.aw.1="hear"∨t.z.aw.1="coin":=by
    rcases ph with⟨z,_⟩ | ⟨z,_⟩ | ⟨z,_⟩
    . exact .inl z
    . exact .inr z
    . exact .inr z
   have:=(cQ h this).1
   omega
 | f+1,t,cs,j,h,d,nr,ph,hc,hs=>by
   have q2:=k.p2
   by_cases ch:t.z.aw.1="hear"
   . have ej:j+t.z.to.length+1=n:=by
      rcases ph with⟨_,z⟩ | ⟨z,_⟩ | ⟨z,_⟩
      . exact z
      . rw[ch]at z;exact absurd z.symm gP
      . rw[ch]at z;exact absurd z.symm gP
     by_cases c0:j=0
     . subst c0;rw[qX];exact By k n6 nd hn m0 (f+1) cs h d nr ch (by omega) al hc hs
     . rw[dJ ch];obtain⟨o,s,_,nh⟩:=h.ask (rows:=rows) k n6 ch;obtain⟨nr',et,eh,x0⟩:=nr.ask (rows:=rows) k n6 h ch;have es:=hn.ro t h ch (nr.he ch);rw[zA0 (by omega)]at es;obtain⟨d2,ac⟩:=d.ask1 k n6 nd es h ch;exact lh k n6 nd hn m0 nn n1 al f _ cs j o d2 nr' (.inr (.inl ⟨by rw[ac],by rw[eh];exact x0,by omega,by rw[et];exact ej⟩)) hc (by omega)
   . have cc:t.z.aw.1="coin":=by
      rcases ph with⟨z,_⟩ | ⟨z,_⟩ | ⟨z,_⟩
      . exact absurd z ch
      . exact z
      . exact z
     rw [dL cc];obtain⟨r0,r1⟩:=gZ hc (by omega);obtain⟨o,s,_,nc,t1,t2⟩:=h.toss k cc r0 r1;have hear:∀z:Db,z.to.length<ns.length->(goOn ns ts p z).aw.1="hear":=fun z hz=>by
      unfold goOn;rw[zB0 hz]
     obtain ⟨i,ei,e1,e2⟩:∃i,j=i+1/\(t.toss ns ts p (cs.headD 0)).z.aw.1="hear"/\i+(t.toss ns ts p (cs.headD 0)).z.to.length+1=n:=by
      by_cases c:t.z.he=[]
      . have et:=(t1 c).2;have ej:j=n:=by
         rcases ph with⟨z,_⟩ | ⟨_,z,_⟩ | ⟨_,_,z⟩
         . exact absurd z ch
         . exact absurd c z
         . exact z
        refine⟨n-1,by omega,?_,by rw[et];show n-1+0+1=n;omega⟩;show(cW ns ts p (cs.headD 0) t.z).aw.1="hear";unfold cW;rw[zB0 c];exact hear _ (by show t.z.to.length<_;rw[(nr.c0 cc c).2];show 0<_;omega)
      . have et:=(t2 c).2;have ej:1<=j/\j+t.z.to.length+1=n:=by
         rcases ph with⟨z,_⟩ | ⟨_,_,z⟩ | ⟨_,z,_⟩
         . exact absurd z ch
         . exact z
         . exact absurd z c
        refine⟨j-1,by omega,?_,by rw[et,zM0,qE0];omega⟩;show(cW ns ts p (cs.headD 0) t.z).aw.1="hear";unfold cW;rw[zA0 c];exact hear _ (by show(t.z.to++[_]).length<_;rw[zM0,qE0];omega)
     rw[ei,←ya];exact lh k n6 nd hn m0 nn n1 al f _ cs.tail i o (d.toss k nd h cc _) (nr.toss k h cc r0 r1) (.inl ⟨e1,e2⟩) (lp hc) (by omega)
end
section
variable {ns:List Str} {ts:List Tr} {p:Int} {t:Tk} {rows:List Hr} {n a:Nat} {m:Int}
theorem sI{s p m:Int}:∀(l:List Int)(a:Nat),a<l.length->p ∣ hor s p (bmp p l a m)-(hor s p l+m*s ^ a)
 | [],a,h=>absurd h (Nat.not_lt_zero _)
 | x::r,0,_=>by
   show p ∣ (hor s p r*s+(x+m) % p) % p-((hor s p r*s+x) % p+m*s ^ 0)
   rw[Int.pow_zero,Int.mul_one,Int.add_emod_emod];refine Int.dvd_of_emod_eq_zero (Int.emod_eq_emod_iff_emod_sub_eq_zero.mp ?_);rw[Int.emod_emod,Int.emod_add_emod]
   congr 1
   omega
 | x::r,a+1,h=>by
   have ih:=sI (s:=s) (p:=p) (m:=m) r a (by simpa using h);show p ∣ (hor s p (bmp p r a m)*s+x) % p-((hor s p r*s+x) % p+m*s ^ (a+1))
   have e:(hor s p (bmp p r a m)*s+x) % p=((hor s p r+m*s ^ a)*s+x) % p:=by
    refine Int.emod_eq_emod_iff_emod_sub_eq_zero.mpr (Int.emod_eq_zero_of_dvd ?_);obtain⟨c,hc⟩:=ih;exact⟨c*s,by rw[←Int.mul_assoc,←hc,Int.sub_mul];omega⟩
   rw[e];refine Int.dvd_of_emod_eq_zero (Int.emod_eq_emod_iff_emod_sub_eq_zero.mp ?_);rw[Int.emod_emod,Int.emod_add_emod,Int.add_mul,Int.mul_assoc,←Int.pow_succ]
   congr 1
   show _+m*s ^ (a+1)+x=_;omega
theorem xh{p s:Int}(hp:Pm p)(h:¬ p ∣ s):∀a:Nat,¬ p ∣ s ^ a
 | 0=>fun z=>by
   rw[Int.pow_zero]at z
   have:=Int.le_of_dvd (by decide) z
   have:=hp.1
   omega
 | a+1=>by
   rw[Int.pow_succ];exact hp.not_mul (xh hp h a) h
theorem xw{p s m:Int}{l:List Int}{a:Nat}(hp:Pm p)(m0:¬ p ∣ m)(al:a<l.length)(s0:0<=s)(s1:s<p)(h:¬ (s=0/\0<a)):hor s p (bmp p l a m)≠hor s p l:=fun e=>by
 have z:=sI (s:=s) (p:=p) (m:=m) l a al;rw[e,show hor s p l-(hor s p l+m*s ^ a)=-(m*s ^ a) by omega]at z;refine hp.not_mul m0 ?_ (Int.dvd_neg.mp z)
 by_cases c:a=0
 . rw [c];exact fun z=>by
    rw[Int.pow_zero]at z
    have:=Int.le_of_dvd (by decide) z
    have:=hp.1
    omega
 . refine xh hp (fun z=>?_) a
   have:=Int.le_of_dvd (by omega) z
   omega
theorem EX{p m:Int}{l:List Int}{a:Nat}(hp:0<p)(al:a<l.length)(a0:0<a):hor 0 p (bmp p l a m)=hor 0 p l:=by
 have z:=sI (s:=0) (p:=p) (m:=m) l a al;rw[Int.zero_pow (by omega),Int.mul_zero,Int.add_zero]at z;have h1:=ky (s:=0) hp (bmp p l a m);have h2:=ky (s:=0) hp l
 have:=Int.emod_eq_emod_iff_emod_sub_eq_zero.mpr (Int.emod_eq_zero_of_dvd z)
 rwa [qH0 h1.1 h1.2,qH0 h2.1 h2.2]at this
theorem sE(c:ts.length=1):((Tk.new ts).ask ns ts p rows).z=goOn ns ts p { Db.new ts with pl:=(Db.new ts).pl+(((Tk.new ts).said ns ts p rows).length:Int),cl:=(Tk.new ts).said ns ts p rows,s:=0,ed:=hor 0 p ((Tk.new ts).said ns ts p rows) }:=(show cY ns ts p ((Tk.new ts).said ns ts p rows) (Db.new ts)=jn ns ts p ((Tk.new ts).said ns ts p rows) { Db.new ts with pl:=(Db.new ts).pl+(((Tk.new ts).said ns ts p rows).length:Int) }from zB0 rfl).trans (zB0 c)
theorem sD (c:¬ ts.length=1):((Tk.new ts).ask ns ts p rows).z={ Db.new ts with pl:=(Db.new ts).pl+(((Tk.new ts).said ns ts p rows).length:Int),cl:=(Tk.new ts).said ns ts p rows,aw:=("coin",none) }:=(show cY ns ts p ((Tk.new ts).said ns ts p rows) (Db.new ts)=jn ns ts p ((Tk.new ts).said ns ts p rows) { Db.new ts with pl:=(Db.new ts).pl+(((Tk.new ts).said ns ts p rows).length:Int) }from zB0 rfl).trans (zA0 c)
theorem xx(z:Db):(goOn ns ts p z).to=z.to:=by
 unfold goOn
 split <;> rfl
theorem Ds(z:Db):(goOn ns ts p z).he=z.he:=by
 unfold goOn
 split <;> rfl
theorem EH:NrOk ((Tk.new ts).ask ns ts p rows):=by
 have et:((Tk.new ts).ask ns ts p rows).z.to=[]/\((Tk.new ts).ask ns ts p rows).z.he=[]:=by
  by_cases c:ts.length=1
  . rw[sE c,xx,Ds];exact⟨rfl,rfl⟩
  . rw[sD c];exact⟨rfl,rfl⟩
 exact⟨fun _=>by rw[et.1];rfl,fun _ z=>absurd et.2 z,fun _ _=>⟨rfl,et.1⟩⟩
theorem Tru.new1(k:GmK ns ts p)(hcl:(Tk.new ts).said ns ts p rows=zo ns ts p):Tru ns ts p ((Tk.new ts).ask ns ts p rows):=by
 by_cases c:ts.length=1
 . have e:=sE (ns:=ns) (p:=p) (rows:=rows) c;obtain⟨f1,f2⟩:=lX (ns:=ns) (ts:=ts) (p:=p) { Db.new ts with pl:=(Db.new ts).pl+(((Tk.new ts).said ns ts p rows).length:Int),cl:=(Tk.new ts).said ns ts p rows,s:=0,ed:=hor 0 p ((Tk.new ts).said ns ts p rows) } (zU0 _) (by
    show hor 0 p ((Tk.new ts).said ns ts p rows)=cz ns ts 0 p [];rw[hcl,jB k])
   have no:=kz (ns:=ns) (ts:=ts) (p:=p) { Db.new ts with pl:=(Db.new ts).pl+(((Tk.new ts).said ns ts p rows).length:Int),cl:=(Tk.new ts).said ns ts p rows,s:=0,ed:=hor 0 p ((Tk.new ts).said ns ts p rows) };rw[←e]at f1 f2 no;exact⟨f1,fun z=>absurd z no,fun z=>absurd z no,fun z _=>f2 z⟩
 . have ez:=sD (ns:=ns) (p:=p) (rows:=rows) c;refine⟨fun z=>?_,fun _ z=>?_,fun _ _=>?_,fun _ z=>?_⟩
   . rw[ez]at z;exact absurd z gP
   . rw[ez]at z;exact absurd rfl z
   . rw[ez];exact⟨hcl,rfl⟩
   . rw[ez]at z;exact absurd rfl z
abbrev jC(ts:List Tr):Nat:=if 1<ts.length then 1 else 0
noncomputable def jJ(ns:List Str)(ts:List Tr)(n a:Nat)(c:List Int):Str×Option Int:=
 if n=0 then(if 1<ts.length/\c.headD 0=0/\0<a then("believed",none)else("caught",some 1))else uk ns ts n a (c.getD (jC ts+n-1) 0)
theorem xg (k:GmK ns ts p) (n6:ns.length<=6) (nd:ns.Nodup) (hn:OneL ns ts p rows n a m) (m0:¬ p ∣ m) (nn:n<=ns.length) (al0:n=0->a<ts.length) (al:1<=n->(a:Int)<=bj ts (ns.getD (n-1) "")) {c:List Int} (hc:bV c p):(qJ ns ts p rows c).2.z.aw=jJ ns ts n a c:=by
 have p2:=k.p2;have t1:=k.t1;have hp:Pm p:=pQ k.pr (by have:=k.p9;omega);obtain⟨o,st,_⟩:=lQ (rows:=rows) k n6;have nr:=EH (ns:=ns) (ts:=ts) (p:=p) (rows:=rows);show(cJ ns ts p rows c 20 ((Tk.new ts).ask ns ts p rows)).2.z.aw=_;unfold jJ
 by_cases n0:n=0
 . rw [zB0 n0];have hcl:=hn.cl;rw[zB0 n0]at hcl;have al:=al0 n0;have al':a<(zo ns ts p).length:=by rw[zE0];exact al
   by_cases c1:ts.length=1
   . rw [zA0 (by omega)];rw[qt k n6 nd hn 20 c o nr (sE c1) (zU0 _) ?_ (by omega) (by omega)]
     . rfl
     . show hor 0 p ((Tk.new ts).said ns ts p rows)≠cz ns ts 0 p [];rw[hcl,←jB k];exact xw hp m0 al' (Int.le_refl 0) (by omega) (by omega)
   . have ez:=sD (ns:=ns) (p:=p) (rows:=rows) c1;have cc:((Tk.new ts).ask ns ts p rows).z.aw.1="coin":=by rw[ez]
     have he:((Tk.new ts).ask ns ts p rows).z.he=[]:=by rw[ez];rfl
     have ecl:((Tk.new ts).ask ns ts p rows).z.cl=(Tk.new ts).said ns ts p rows:=by rw[ez]
     have eto:((Tk.new ts).ask ns ts p rows).z.to=[]:=by rw[ez];rfl
     rw[show(20:Nat)=19+1 from rfl,dL cc];obtain⟨r0,r1⟩:=gZ hc (by omega);obtain⟨o2,s2,_,nc,tt,_⟩:=o.toss k cc r0 r1;have nr2:=nr.toss k o cc r0 r1;have ez2:(((Tk.new ts).ask ns ts p rows).toss ns ts p (c.headD 0)).z=goOn ns ts p { ((Tk.new ts).ask ns ts p rows).z with pl:=((Tk.new ts).ask ns ts p rows).z.pl+1,s:=c.headD 0,ed:=hor (c.headD 0) p ((Tk.new ts).ask ns ts p rows).z.cl }:=zB0 he;show(cJ ns ts p rows c.tail 19 (((Tk.new ts).ask ns ts p rows).toss ns ts p (c.headD 0))).2.z.aw=_;generalize c.headD 0=r at *
     by_cases cr:r=0/\0<a
     . rw [zB0 ⟨by omega,cr⟩];have e:hor r p ((Tk.new ts).ask ns ts p rows).z.cl=cz ns ts r p ((Tk.new ts).ask ns ts p rows).z.to:=by
        rw[ecl,hcl,eto,←jB k,cr.1,EX (by omega) al' cr.2]
       obtain⟨f1,f2⟩:=lX (ns:=ns) (ts:=ts) (p:=p) { ((Tk.new ts).ask ns ts p rows).z with pl:=((Tk.new ts).ask ns ts p rows).z.pl+1,s:=r,ed:=hor r p ((Tk.new ts).ask ns ts p rows).z.cl } (by show((Tk.new ts).ask ns ts p rows).z.to.length<=_;rw[eto];exact zU0 _) e;rw[←ez2]at f1 f2;exact kt k n6 nd hn 19 _ c.tail o2 ⟨f1,fun z=>absurd z nc,fun z=>absurd z nc,fun z _=>f2 z⟩ nr2 (fun _=>by omega) (fun z=>absurd z nc) (fun z=>absurd z nc) (lp hc) (by omega)
     . rw [zA0 (fun z=>cr z.2)];rw[qt k n6 nd hn 19 c.tail o2 nr2 ez2 ?_ ?_ (by omega) (by omega)]
       . show(("caught":Str),some ((((Tk.new ts).ask ns ts p rows).z.to.length:Int)+1))=_;rw[eto];rfl
       . show((Tk.new ts).ask ns ts p rows).z.to.length<=_;rw[eto];exact zU0 _
       . show hor r p ((Tk.new ts).ask ns ts p rows).z.cl≠cz ns ts r p ((Tk.new ts).ask ns ts p rows).z.to;rw[ecl,hcl,eto,←jB k];exact xw hp m0 al' r0 r1 cr
 . rw [zA0 n0];have hcl:=hn.cl;rw[zA0 n0]at hcl;refine lh k n6 nd hn m0 nn (by omega) (al (by omega)) 20 _ c _ o (Tru.new1 k hcl) nr ?_ hc (by omega)
   by_cases c1:ts.length=1
   . refine .inl ?_;rw[sE c1,xx];refine⟨?_,?_⟩
     . unfold goOn;rw[zB0 (by show 0<ns.length;omega)]
     . show(if 1<ts.length then 1 else 0)+n-1+0+1=n;rw[zA0 (by omega)];omega
   . refine .inr (.inr ?_);rw[sD c1];refine⟨rfl,rfl,?_⟩;show(if 1<ts.length then 1 else 0)+n-1=n;rw[zB0 (by omega)];omega
end
section
theorem uR{P:Nat}(q:Nat->Bool)(v:Nat):(((List.range P).map fun r=>if q r=true then v else 0).sum:Nat)=v*((List.range P).filter q).length:=by
 induction P with
 | zero=>rfl
 | succ P ih=>
   rw[List.range_succ,zL0,List.sum_append,List.filter_append,zM0,ih,Nat.mul_add]
   congr 1
   by_cases c:q P=true
   . simp [c]
   . simp [c]
theorem xL{P:Nat}(q:Int->Bool):∀(N j:Nat),j<N->((dN P N).filter fun c=>q (c.getD j 0)).length=P ^ (N-1)*((List.range P).filter fun x:Nat=>q x).length
 | 0,j,h=>absurd h (Nat.not_lt_zero _)
 | N+1,0,_=>by
   unfold dN;rw[List.filter_flatMap,List.length_flatMap,Nat.add_sub_cancel,←uI (p:=P) N,←uR (fun x:Nat=>q x)]
   congr 1
   refine List.map_congr_left fun r _=>?_
   rw[List.filter_map,zE0]
   by_cases c:q (r:Int)=true
   . rw [zB0 c]
     congr 1
     exact List.filter_eq_self.mpr fun x _=>c
   . rw[zA0 c];rw[List.length_eq_zero_iff];exact List.filter_eq_nil_iff.mpr fun x _=>c
 | N+1,j+1,h=>by
   have ih:=xL (P:=P) q N j (by omega);unfold dN;rw[List.filter_flatMap,List.length_flatMap,Nat.add_sub_cancel]
   have:((List.range P).map fun a:Nat=>(((dN P N).map ((a:Int)::·)).filter fun c=>q (c.getD (j+1) 0)).length)=List.replicate P (P ^ (N-1)*((List.range P).filter fun x:Nat=>q x).length):=by
    rw[List.eq_replicate_iff];refine⟨by simp,fun b hb=>?_⟩;obtain⟨a,_,rfl⟩:=List.mem_map.mp hb;rw[List.filter_map,zE0,←ih];rfl
   rw[this,List.sum_replicate_nat,←Nat.mul_assoc]
   congr 1
   obtain⟨M,rfl⟩:∃M,N=M+1:=⟨N-1,by omega⟩
   rw[Nat.add_sub_cancel,Nat.pow_succ,Nat.mul_comm]
theorem qZ{P x0:Nat}{q:Int->Bool}(hx:x0<P)(hq:q (x0:Int)=false)(hl:∀x:Nat,x<x0->q (x:Int)=true):∀(N j:Nat),j<N->((dN P N).filter fun c=>!q (c.getD j 0)).head?=some ((List.replicate N 0).set j (x0:Int))
 | 0,j,h=>absurd h (Nat.not_lt_zero _)
 | N+1,0,_=>by
   unfold dN;obtain⟨d,rfl⟩:∃d,P=x0+(d+1):=⟨P-x0-1,by omega⟩
   rw [List.range_add,List.flatMap_append,List.filter_append,List.range_succ_eq_map,zZ0,List.flatMap_cons,List.filter_append];have e1:(List.filter (fun c:List Int=>!q (c.getD 0 0)) ((List.range x0).flatMap fun r:Nat=>(dN (x0+(d+1)) N).map ((r:Int)::·)))=[]:=List.filter_eq_nil_iff.mpr fun c hc=>by
    obtain⟨r,hr,h⟩:=List.mem_flatMap.mp hc;obtain⟨c',_,rfl⟩:=List.mem_map.mp h
    have:=hl r (List.mem_range.mp hr)
    show ¬ (!q (r:Int))=true;rw[this];decide
   have e2:(List.filter (fun c:List Int=>!q (c.getD 0 0)) ((dN (x0+(d+1)) N).map (((x0+0:Nat):Int)::·)))=(dN (x0+(d+1)) N).map (((x0+0:Nat):Int)::·):=List.filter_eq_self.mpr fun c hc=>by
    obtain⟨c',_,rfl⟩:=List.mem_map.mp hc;show(!q ((x0+0:Nat):Int))=true;rw[Nat.add_zero,hq];rfl
   rw[e1,List.nil_append,e2,List.head?_append,List.head?_map,kE (by omega)];rfl
 | N+1,j+1,h=>by
   have ih:=qZ hx hq hl N j (by omega);obtain⟨Q,rfl⟩:∃Q,P=Q+1:=⟨P-1,by omega⟩
   unfold dN;rw[List.range_succ_eq_map,List.flatMap_cons,List.filter_append,List.head?_append,List.filter_map,List.head?_map];have e:((dN (Q+1) N).filter ((fun c:List Int=>!q (c.getD (j+1) 0)) ∘ fun x=>((0:Nat):Int)::x)).head?=some ((List.replicate N 0).set j (x0:Int)):=ih;rw[e];rfl
theorem BY(dg a:Nat)(ha:a<=dg∨dg<a):∀P:Nat,((List.range P).filter fun x:Nat=>decide ((x:Int)<=(dg:Int)/\(x:Int)≠(a:Int))).length=min P (dg+1)-(if a<min P (dg+1)then 1 else 0)
 | 0=>by simp
 | P+1=>by
   rw[List.range_succ,List.filter_append,zM0,BY dg a ha P]
   by_cases c:(P:Int)<=(dg:Int)/\(P:Int)≠(a:Int)
   . rw [List.filter_cons_of_pos (by simpa using c)];show _+1=_
     split <;> split <;> omega
   . rw [List.filter_cons_of_neg (by simpa using c)];show _+0=_
     split <;> split <;> omega
end
section
variable {ns:List Str} {ts:List Tr} {p:Int} {t:Tk} {rows:List Hr} {n a:Nat} {m:Int}
noncomputable def wO(ns:List Str)(ts:List Tr)(p:Int)(n a:Nat):Int×Option (List Int):=
 if n=0 then(if 1<ts.length/\0<a then(p ^ (bn ns ts-1),some ((List.replicate (bn ns ts) 0).set 0 1))else(0,some (List.replicate (bn ns ts) 0)))
 else if a<2 then(0,some (List.replicate (bn ns ts) 0))else(p ^ (bn ns ts-1)*bj ts (ns.getD (n-1) ""),some ((List.replicate (bn ns ts) 0).set (jC ts+n-1) (a:Int)))
theorem tM{P N:Nat}(hP:0<P):im (dN P N) (fun _=>false) []=(0,some (List.replicate N 0)):=by
 unfold im;have e:(List.filter (fun c=>!(fun _:List Int=>false) c) (dN P N))=dN P N:=List.filter_eq_self.mpr (fun x _=>rfl);rw[List.filter_eq_nil_iff.mpr (fun x _=>by decide),e,kE hP];rfl
theorem wW{P N j x0 dg a:Nat}(hj:j<N)(hx:x0<P)(hd:dg+1<=P)(hq:¬ ((x0:Int)<=(dg:Int)/\(x0:Int)≠(a:Int)))(hl:∀x:Nat,x<x0->x<=dg/\x≠a):im (dN P N) (fun c=>decide (c.getD j 0<=(dg:Int)/\c.getD j 0≠(a:Int))) []=((P:Int) ^ (N-1)*(if a<dg+1 then(dg:Int)else(dg:Int)+1),some ((List.replicate N 0).set j (x0:Int))):=by
 unfold im;rw[xL (fun x:Int=>decide (x<=(dg:Int)/\x≠(a:Int))) N j hj,qZ (q:=fun x:Int=>decide (x<=(dg:Int)/\x≠(a:Int))) hx (decide_eq_false hq) (fun x h=>decide_eq_true (by have:=hl x h;omega)) N j hj,BY dg a (by omega) P,Nat.min_eq_right hd]
 congr 1
 rw[Int.natCast_mul,Int.natCast_pow]
 congr 1
 split <;> omega
theorem yw (k:GmK ns ts p) (n6:ns.length<=6) (nd:ns.Nodup) (hn:OneL ns ts p rows n a m) (m0:¬ p ∣ m) (nn:n<=ns.length) (al0:n=0->a<ts.length) (al:1<=n->(a:Int)<=bj ts (ns.getD (n-1) "")):gG ns ts p rows (bn ns ts) 8 (Tk.new ts) []=wO ns ts p n a:=by
 have p2:=k.p2;have t1:=k.t1;have ep:(p.toNat:Int)=p:=by omega
 rw [xP k n6];have en:∀c∈dN p.toNat (bn ns ts),(qJ ns ts p rows c).2.z.aw=jJ ns ts n a c/\bV c p:=fun c hc=>by
  have co:=(my _ _ hc).2;rw[ep]at co;exact⟨xg k n6 nd hn m0 nn al0 al co,co⟩
 have nb:∀x:Option Int,decide ((("caught":Str),x).1="believed")=false:=fun x=>decide_eq_false Bn
 have yb:∀x:Option Int,decide ((("believed":Str),x).1="believed")=true:=fun x=>decide_eq_true rfl
 unfold wO
 by_cases n0:n=0
 . rw [zB0 n0]
   by_cases c:1<ts.length/\0<a
   . rw [zB0 c,eG (b':=fun c=>decide (c.getD 0 0<=((0:Nat):Int)/\c.getD 0 0≠(a:Int))),wW (dg:=0) (x0:=1) (j:=0) (by unfold bn;split <;> omega) (by omega) (by omega) (by omega) (by omega),ep,zA0 (by omega)]
     . congr 1
       exact Int.mul_one _
     . intro x hx;obtain⟨e,co⟩:=en x hx;rw[e];unfold jJ;rw[zB0 n0,qX];obtain⟨r0,r1⟩:=gZ co (by omega)
       by_cases cr:x.headD 0=0
       . rw[zB0 ⟨c.1,cr,c.2⟩,yb];exact(decide_eq_true (by omega)).symm
       . rw[zA0 (fun z=>cr z.2.1),nb];exact(decide_eq_false (by omega)).symm
   . rw[zA0 c,eG (b':=fun _=>false),tM (by omega)];intro x hx;rw[(en x hx).1];unfold jJ;rw[zB0 n0,zA0 (fun z=>c ⟨z.1,z.2.2⟩),nb]
 . rw [zA0 n0]
   by_cases c2:a<2
   . rw[zB0 c2,eG (b':=fun _=>false),tM (by omega)];intro x hx;rw[(en x hx).1];unfold jJ uk;rw[zA0 n0,zB0 c2,nb]
   . rw [zA0 c2];have al:=al (by omega);have hx:ns.getD (n-1) ""∈ns:=by
      rw[zS0,zK0 (by omega)];exact qL0 _
     obtain ⟨d0,dp⟩:=k.deg _ hx;have e1:∀c∈dN p.toNat (bn ns ts),decide ((qJ ns ts p rows c).2.z.aw.1="believed")=decide (c.getD (jC ts+n-1) 0<=((bj ts (ns.getD (n-1) "")).toNat:Int)/\c.getD (jC ts+n-1) 0≠(a:Int)):=fun c hc=>by
      rw[(en c hc).1,show((bj ts (ns.getD (n-1) "")).toNat:Int)=bj ts (ns.getD (n-1) "") by omega];unfold jJ uk;rw[zA0 n0,zA0 c2]
      by_cases cr:c.getD (jC ts+n-1) 0<=bj ts (ns.getD (n-1) "")/\c.getD (jC ts+n-1) 0≠(a:Int)
      . rw[zB0 cr,yb];exact(decide_eq_true cr).symm
      . rw[zA0 cr,nb];exact(decide_eq_false cr).symm
     rw[eG e1,wW (x0:=a) (by unfold bn jC;split <;> split <;> omega) (by omega) (by omega) (by omega) (by omega),ep,zB0 (by omega)]
     congr 2
     omega
end
section
variable {ns:List Str} {ts:List Tr} {p:Int} {t:Tk} {n a:Nat} {m:Int}
def tE (x:Str) (a n:Nat) (m:Int):Tm:=.op "+" (.ask "true" (.box x)) (.op "*" (.op "*" (.op "=" (.box x) (.num (a:Int))) (.op "=" (.plain "round") (.num (n:Int)))) (.num m))
def hE (x:Str) (a n:Nat) (m:Int):List Hr:=[.set x (.num 0),.say (tE x a n m),.set x (.op "+" (.box x) (.num 1)),.go 1]
noncomputable def eE(z:Ak)(a n:Nat)(m:Int)(j:Nat):Int:=(fJ z ((j:Int) % z.p)+((if(j:Int) % z.p=(a:Int) % z.p then 1 else 0)*(if z.nr % z.p=(n:Int) % z.p then 1 else 0) % z.p*(m % z.p)) % z.p) % z.p
noncomputable def eL(z:Ak)(a n:Nat)(m:Int)(k:Nat):List Int:=(List.range k).map (eE z a n m)
theorem jK(z:Ak)(k:Nat):(eL z a n m k).length=k:=by unfold eL;rw[zE0,qQ0]
theorem Dx(z:Ak)(k:Nat):eL z a n m (k+1)=eL z a n m k++[eE z a n m k]:=by
 unfold eL;rw[List.range_succ,zL0];rfl
theorem tE_w{z:Ak}{x:Str}{bx:Str->Int}{j:Nat}(hb:bx x=(j:Int) % z.p):(tE x a n m).worth z bx=eE z a n m j:=by
 show opV z.p "+" (if("true":Str)="coin" then jM z (bx x)else fJ z (bx x)) (opV z.p "*" (opV z.p "*" (opV z.p "=" (bx x) ((a:Int) % z.p)) (opV z.p "=" (kW z "round") ((n:Int) % z.p))) (m % z.p))=_;rw[zA0 ne_tc,hb];rfl
theorem runE{z:Ak}{x:Str}(p0:0<z.p):∀(q j fuel:Nat)(bx:Str->Int),z.mn=((j+q:Nat):Int)->3*q<=fuel->bx x=(j:Int) % z.p->(kP z (hE x a n m) fuel ⟨1,bx,eL z a n m j⟩).sd=eL z a n m (j+q)
 | 0,j,fuel,bx,hm,hf,hb=>by
   rw[wU (fun c=>absurd c.2 (by show ¬ ((eL z a n m j).length:Int)<z.mn;rw[jK,hm];omega))];rfl
 | q+1,j,fuel,bx,hm,hf,hb=>by
   obtain⟨fu,rfl⟩:∃fu,fuel=fu+3:=⟨fuel-3,by omega⟩
   have e1:eV z (hE x a n m) ⟨1,bx,eL z a n m j⟩=⟨2,bx,eL z a n m (j+1)⟩:=by
    show(⟨1+1,bx,eL z a n m j++[(tE x a n m).worth z bx]⟩:MS)=_;rw[tE_w hb,Dx];rfl
   rw[rV (by show(1:Int)<4;decide) (by show((eL z a n m j).length:Int)<z.mn;rw[jK,hm];omega),e1];cases q with
   | zero=>
     rw[wU (fun c=>absurd c.2 (by show ¬ ((eL z a n m (j+1)).length:Int)<z.mn;rw[jK,hm];omega))]
   | succ q=>
     have hl:((eL z a n m (j+1)).length:Int)<z.mn:=by rw[jK,hm];omega
     have e2:eV z (hE x a n m) ⟨2,bx,eL z a n m (j+1)⟩=⟨3,jp bx x (opV z.p "+" (bx x) (1 % z.p)),eL z a n m (j+1)⟩:=rfl;have e3:eV z (hE x a n m) ⟨3,jp bx x (opV z.p "+" (bx x) (1 % z.p)),eL z a n m (j+1)⟩=⟨1,jp bx x (opV z.p "+" (bx x) (1 % z.p)),eL z a n m (j+1)⟩:=rfl;rw[rV (by show(2:Int)<4;decide) hl,e2,rV (by show(3:Int)<4;decide) hl,e3];have hb2:jp bx x (opV z.p "+" (bx x) (1 % z.p)) x=((j+1:Nat):Int) % z.p:=by
      unfold jp;rw[zB0 rfl];show(bx x+1 % z.p) % z.p=_;rw[hb,Int.emod_add_emod,Int.add_emod_emod];rfl
     have:=runE p0 (q+1) (j+1) fu _ (by rw[hm];omega) (by omega) hb2
     rw[this]
     congr 1
     omega
theorem DP{z:Ak}{x:Str}{bx:Str->Int}{k:Nat}(p0:0<z.p)(hm:z.mn=(k:Int))(k1:1<=k)(k66:k<=66):pT z.mn (kP z (hE x a n m) 200 ⟨0,bx,[]⟩).sd=eL z a n m k:=by
 have e1:eV z (hE x a n m) ⟨0,bx,[]⟩=⟨1,jp bx x (0 % z.p),eL z a n m 0⟩:=rfl;rw[rV (by show(0:Int)<4;decide) (by rw[hm];show(0:Int)<(k:Int);omega),e1,runE p0 k 0 199 _ (by rw[hm,Nat.zero_add]) (by omega) (by unfold jp;rw[zB0 rfl];rfl),Nat.zero_add];unfold pT;rw[jK,hm,Int.sub_self];exact List.append_nil _
theorem DZ{z:Ak}{k:Nat}{L:List Int}(p2:2<z.p)(kp:(k:Int)<=z.p)(ak:z.nr % z.p=(n:Int) % z.p->a<k)(hL:nW z k=L)(ok:bV L z.p):eL z a n m k=if z.nr % z.p=(n:Int) % z.p then bmp z.p L a m else L:=by
 have ll:L.length=k:=by rw[←hL,xU]
 have tj:∀j:Nat,j<k->L.getD j 0=fJ z ((j:Int) % z.p)/\(0<=L.getD j 0/\L.getD j 0<z.p):=fun j hj=>by
  refine⟨?_,jH ok (by omega) j⟩;rw[←hL];unfold nW;rw[zS0,zR0,List.getElem?_range hj];rfl
 refine List.ext_getElem (by rw[jK];split;rw[jj,ll];exact ll.symm) fun j h1 h2=>?_
 rw[jK]at h1;obtain⟨t1,t2,t3⟩:=tj j h1;have ej:(j:Int) % z.p=(j:Int):=qH0 (by omega) (by omega);have g:∀(l:List Int)(h:j<l.length),l[j]=l.getD j 0:=fun l h=>by rw[zS0,zK0 h];rfl
 rw [g _ h2];have e0:(eL z a n m k)[j]'(by rw[jK];exact h1)=eE z a n m j:=by
  unfold eL;rw[List.getElem_map,List.getElem_range]
 rw[e0];unfold eE;rw[←t1]
 by_cases c:z.nr % z.p=(n:Int) % z.p
 . rw [zB0 c,zB0 c,Int.mul_one];have ea:(a:Int) % z.p=(a:Int):=qH0 (by omega) (by have:=ak c;omega);rw[ej,ea]
   by_cases ja:(j:Int)=(a:Int)
   . have ja':j=a:=by omega
     subst ja';rw[zB0 rfl,wl (by omega),qH0 (by decide) (show(1:Int)<z.p by omega),Int.one_mul,Int.emod_emod,Int.add_emod_emod]
   . rw[zA0 ja,wk (by omega),Int.zero_emod,Int.zero_mul,Int.zero_emod,Int.add_zero,qH0 t2 t3]
 . rw[zA0 c,zA0 c,Int.mul_zero,Int.zero_emod,Int.zero_mul,Int.zero_emod,Int.add_zero,qH0 t2 t3]
theorem AW {x:Str} (k:GmK ns ts p) (n6:ns.length<=6) (nd:ns.Nodup) (d60:∀y∈ns,bj ts y<=60) (np:(n:Int)<p) (nl:(ns.length:Int)<=p) (n0:n=0->(ns.length:Int)<p) (al0:n=0->a<ts.length) (al:1<=n->(a:Int)<=bj ts (ns.getD (n-1) "")):OneL ns ts p (hE x a n m) n a m:=by
 have p2:=k.p2;have t10:=k.t10;have en:(n:Int) % p=(n:Int):=qH0 (by omega) np;refine⟨?_,fun t ht hw hnr=>?_⟩
 . have e:=DP (a:=a) (n:=n) (m:=m) (x:=x) (z:=(Tk.new ts).ak ns ts p) (bx:=(Tk.new ts).bx) (k:=ts.length) (by show 0<p;omega) rfl k.t1 (by omega);unfold Tk.said Tk.run;refine e.trans ?_;have e0:(((Tk.new ts).ak ns ts p).nr % ((Tk.new ts).ak ns ts p).p=(n:Int) % ((Tk.new ts).ak ns ts p).p)↔n=0:=by
    show(0:Int) % p=(n:Int) % p↔n=0;rw[en,Int.zero_emod];omega
   have ok:bV (zo ns ts p) p:=fun y hy=>by
    obtain⟨u,_,rfl⟩:=List.mem_map.mp hy;exact⟨zX0 _ (by omega),qA0 _ (by omega)⟩
   rw[DZ (L:=zo ns ts p) (by show 2<p;omega) (by show(ts.length:Int)<=p;exact k.tp) (fun z=>al0 (e0.mp z)) (xV k) ok]
   by_cases c:n=0
   . rw[zB0 c,zB0 (e0.mpr c)];rfl
   . rw[zA0 c,zA0 (fun z=>c (e0.mp z))]
 . obtain ⟨ok,a0,a5,tl,aw,ea⟩:=ht.ak k n6 hw;have hx:ns.getD t.z.to.length ""∈ns:=by
    rw[zS0,zK0 tl];exact qL0 tl
   have d0:=k.deg _ hx;have d6:=d60 _ hx;have emn:awN t.z=((awN t.z).toNat:Int):=by omega
   have e:=DP (a:=a) (n:=n) (m:=m) (x:=x) (z:=t.ak ns ts p) (bx:=t.bx) (k:=(awN t.z).toNat) (by show 0<p;omega) emn (by omega) (by omega);unfold Tk.said Tk.run;refine e.trans ?_;have e0:((t.ak ns ts p).nr % (t.ak ns ts p).p=(n:Int) % (t.ak ns ts p).p)↔t.z.to.length+1=n:=by
    show t.nr % p=(n:Int) % p↔_;rw[en,hnr]
    by_cases c:(t.z.to.length:Int)+1<p
    . rw[qH0 (by omega) c];omega
    . have:(t.z.to.length:Int)+1=p:=by omega
      rw[this,Int.emod_self];omega
   rw[DZ (by show 2<p;omega) (by show((awN t.z).toNat:Int)<=p;omega) (fun z=>by have z:=e0.mp z;have:=al (by omega);rw[show n-1=t.z.to.length by omega]at this;omega) (xT k n6 nd ht hw) (tK (by show 0<p;omega))]
   by_cases c:t.z.to.length+1=n
   . rw[zB0 c,zB0 (e0.mpr c)];rfl
   . rw[zA0 c,zA0 (fun z=>c (e0.mp z))]
end
section
structure PSW(X:Cx)(st:List Stmt)(t:TS):Prop where
 out:PSs X st t
end
section
structure PEW(X:Cx)(e:Expr)(t:TE):Prop where
 out:PE X e t
structure PAW(X:Cx)(es:List Expr)(t:TA):Prop where
 out:PA X es t
structure PTW(X:Cx)(s:Stmt)(t:TS):Prop where
 out:PS X s t
section
variable {X:Cx} {e:Expr} {es:List Expr} {te:TE} {t:TA} {pos:Pos}
theorem cH:PAW X [] Cs:=⟨ae⟩
theorem aM(ha:PEW X e te)(hr:PAW X es t)(hs:starEach (e::es) X.env=(false,eval e X.env)::starEach es X.env:=by rfl):PAW X (e::es) (zH te t):=⟨aa ha.out hr.out hs⟩
theorem cG{x1}(h:PAW X es t):PEW X (.Tuple es x1 pos) (tTup t):=⟨bc h.out⟩
theorem bZ{x j}:PEW X (.Constant (.str x) j pos) (tC (.str x)):=⟨aR⟩
theorem kM{i j}:PEW X (.Constant (.int i) j pos) (tC (.int i)):=⟨af⟩
theorem fK(h:PEW X e te):PTW X (.Return (some e) pos) (tRet te):=⟨az h.out⟩
theorem cg{i:Nat}{x:Str}{pos':Pos}(hN:X.N.Nodup)(hi:X.N[i]?=some x)(hx:Loc X.env.scope x)(he:PEW X e te)(hs:swapsWith e (some (.Name x pos')) pos.line X.env=pure false:=by rfl)(hf:X.fn x=true∨X.env.scope.names.lookup x=some .local:=by first | exact .inl rfl | exact .inr rfl | assumption) :
 PTW X (.Assign [.Name x pos'] e pos) (Ct te (xy i)):=⟨ao hN hi hx he.out hs hf⟩
theorem gC:PSW X [] DH:=⟨aI⟩
theorem aV{s:Stmt}{ss:List Stmt}{a b:TS}(h:PTW X s a)(k:PSW X ss b):PSW X (s::ss) (tSeq a b):=⟨ad h.out k.out⟩
theorem dG{s:Stmt}{a:TS}(h:PTW X s a):PSW X [s] a:=⟨ah h.out⟩
theorem mI{ss:List Stmt}{t t':TS}(h:PSW X ss t)(hw:∀D σ H,t' D σ H->t D σ H):PSW X ss t':=⟨sf h.out hw⟩
theorem jk{c:Expr}{a b:List Stmt}{tc:TT}{t u:TS}(hc:PT X c tc)(ha:PSW X a t)(hb:PSW X b u):PTW X (.If c a b pos) (tIfS tc t u):=⟨aS hc ha.out hb.out⟩
end
end
section
variable {X:Cx} {a b e:Expr} {es:List Expr} {ta tb:TE} {t:TA} {p pos:Pos}
theorem zu{r:R2}(hr:IxR X r)(ha:PEW X a ta)(hb:PEW X b tb)(hs:xN b):PEW X (.Subscript a b pos) (tOp r ta tb):=⟨aP hr ha.out hb.out hs⟩
end
section
theorem BV{xs:List V}{k:Nat}(hk:k<=xs.length):lc xs (some (k:Int)) none=xs.drop k:=by
 unfold lc;rw[HT.sIx_none,HT.sIx_nat,Nat.min_eq_left hk];exact List.take_of_length_le (by rw[List.length_drop];exact zG0 _)
structure GmT(H:Hp)(gh a b:Addr)(ns:List Str)(tv:List V)(ts:List Tr)(p:Int):Prop where
 hg:H gh=some (.tup [.ref a,.ref b,.int p])
 ha:H a=some (.tup (ns.map V.str))
 hb:H b=some (.tup tv)
 tr:TreesAt H tv ts
theorem GmT.mono{H H':Hp}{gh a b:Addr}{ns:List Str}{tv:List V}{ts:List Tr}{p:Int}(h:GmT H gh a b ns tv ts p)(k:cx H H'):GmT H' gh a b ns tv ts p:=⟨k _ _ h.hg,k _ _ h.ha,k _ _ h.hb,h.tr.mono k⟩
theorem wc {X:Cx} (K:W.Frag) (hc:X.calm=true) (h:X.K=K:=by rfl):iz X (.builtin "max") (DR K):=by subst h;exact nQ hc
def zU:Sp:=fun vs H Q _=>∃(gh a b:Addr)(ns:List Str)(tv:List V)(ts:List Tr)(p:Int),vs=[.ref gh]/\GmT H gh a b ns tv ts p/\GmK ns ts p/\∀(l:Addr)(H':Hp),H l=none->Same H H'->H' l=some (.lst ((ns.map (bj ts)).map V.int))->Q (.ref l) H'
theorem rM:FnScope ["_law_game_here"] ["_law_game_here"] (ag eJ):=⟨rfl,rfl,rfl,by decide +kernel,rfl,by decide +kernel,by decide +kernel⟩
theorem sv {f:Addr} {fd:FuncData} (F:Fun K "_law_degrees" "_law_degrees" eJ f fd) (B:Bl mg) (cP:Cal P w K mg base 12 "_law_names_of" ["_law_tree_here"] (uU 10)):FnOk P w K mg base CX0 13 f fd ["_law_game_here"] zU:=by
 refine F.ok rM (fun vs H Q E h=>?_) (fun cdv A outer s H vs Q E hr h=>?_)
 . obtain⟨gh,a,b,ns,tv,ts,p,rfl,_⟩:=h;rfl
 obtain ⟨gh,a,b,ns,tv,ts,p,rfl,G,k,q⟩:=h;refine⟨_,(ah (az (AQ (N:=["_law_game_here"]) (ix:=[0]) rfl
  (CompScopeO.one (by with_unfolding_all rfl) (fun _ _=>⟨by with_unfolding_all rfl,by with_unfolding_all rfl⟩) rfl (by decide) (by with_unfolding_all rfl) (by decide +kernel) (by with_unfolding_all rfl) (by with_unfolding_all rfl) (by with_unfolding_all rfl) rfl rfl) rfl
  (gq (aP ix_tup (pv 0) af (fun _ _=>rfl)))
  (fun _ _ _=>dF (aJ (wc K rfl) rfl B.max PyProof.Rows.boot_max (aa (dB (N:=["_law_name"]) (ix:=[0]) rfl
   (CompScope.one (by with_unfolding_all rfl) (by decide) rfl (by decide) rfl (by decide +kernel) (by with_unfolding_all rfl) (by with_unfolding_all rfl) (by with_unfolding_all rfl) (by with_unfolding_all rfl) (by with_unfolding_all rfl)) rfl
   (CQ K (aP (Dq K) (pv 1) af (fun _ _=>rfl)))
   (fun _ _ _=>dF (AS K PySem.F.plainAttrs_list PySem.F.slot_list_count PySem.F.type_list_count (qT K) (au cP hr (by decide) rfl (aa (pv 0) ae)) (aa (pv 1) ae)))) ae)))))),?_⟩
 obtain⟨hg,ha,hb,TS⟩:=G;have vl:=TS.length;have t10:=k.t10;have n10:=k.n10;have t0:ts≠[]:=fun z=>by have:=k.t1;rw[z]at this;cases this
 refine⟨_,rfl,gh,_,0,_,rfl,rfl,zC0 hg,rfl,a,rfl,⟨_,zC0 ha⟩,fun D hD=>?_⟩;refine eY (K:=K) (xs:=ns.map V.str) (fun i H'=>H' D=some (.lst (((ns.take i).map (bj ts)).map V.int))/\Same H H') ⟨by rw[ai];rfl,zD0 hD _⟩ (fun i H' _ h=>zC0 (h.2 _ _ ha)) ?_ ?_
 . rintro i z H2 hz ⟨hl,S2⟩;have hi:i<(ns.map V.str).length:=(zY0 hz).1;rw[zR0]at hz;obtain⟨x,hx,rfl⟩:=qV0 hz;refine⟨_,rfl,gh,_,1,_,rfl,rfl,zC0 (S2 _ _ hg),rfl,b,rfl,⟨_,zC0 (S2 _ _ hb)⟩,fun D2 hD2=>?_⟩;refine eY (K:=K) (xs:=tv) (fun j H'=>H' D2=some (.lst (((ts.take j).map fun t=>(t.names.count x:Int)).map V.int))/\Same H2 H') ⟨by rw[ai];rfl,zD0 hD2 _⟩ (fun j H' _ h=>zC0 (h.2 _ _ (S2 _ _ hb))) ?_ ?_
   . rintro j u H3 hu ⟨hl3,S3⟩;obtain⟨t,ht,Tt⟩:=TS.get hu;obtain⟨_,tw,td,tz⟩:=k.tok t (qG0 ht);have hj:j<tv.length:=(zY0 hu).1;refine⟨_,rfl,u,t,rfl,Tt.mono (aG (S2.trans S3)),tw,by omega,tz,fun l H4 l0 S4 hl4=>?_⟩;refine⟨.inl ⟨rfl,_,zH0 hl4⟩,_,rfl,l,_,_,rfl,rfl,zH0 hl4,gt _,rfl,?_⟩;rw[ld];refine⟨_,S4 _ _ hl3,?_,Nx.of hj ⟨?_,fun b' o' e'=>?_⟩⟩
     . rw[zE0,zE0,qO0];exact aW (by omega)
     . rw[ai,qN0,ht,zL0,zL0];rfl
     . rw[ay (aO e' hD2)];exact S4 _ _ (S3 _ _ e')
   . rintro H3 ⟨hl3,S3⟩;rw[vl,qM0]at hl3;refine⟨D2,_,rfl,zH0 hl3,by simpa using t0,?_⟩;refine⟨_,S3 _ _ hl,?_,Nx.of hi ⟨?_,fun b' o' e'=>?_⟩⟩
     . rw[zE0,zE0,qO0];exact aW (by omega)
     . rw[ai,qN0,hx,zL0,zL0];rfl
     . rw[ay (aO e' hD)];exact S3 _ _ (S2 _ _ e')
 . rintro H2 ⟨hl,S2⟩;rw[zE0,qM0]at hl;exact q D H2 hD S2 hl
end
section
def HelpAt(H:Hp)(c:Addr)(rows:List Hr):Prop:=∃rv,H c=some (.tup rv)/\RowsAt H rv rows
theorem HelpAt.same{H H':Hp}{c:Addr}{rows:List Hr}(h:HelpAt H c rows)(s:Same H H'):HelpAt H' c rows:=by
 obtain⟨rv,h1,h2⟩:=h;exact⟨rv,s _ _ h1,h2.mono (aG s)⟩
theorem Au{H:Hp}:RowsAt H [] []:=⟨rfl,fun i v r h=>by cases h⟩
theorem km{H:Hp}{v:V}{r:Hr}{rv:List V}{rows:List Hr}(h:HrAt H v r)(t:RowsAt H rv rows):RowsAt H (v::rv) (r::rows):=by
 refine⟨by rw[qF0,qF0,t.1],fun i u s hu hs=>?_⟩;cases i with
 | zero=>cases hu;cases hs;exact h
 | succ i=>exact t.2 i u s hu hs
theorem BF{x:Str}{a n:Nat}{m:Int}:∀r∈hE x a n m,r.good:=fun r hr=>by
 have h:r=.set x (.num 0)∨r=.say (tE x a n m)∨r=.set x (.op "+" (.box x) (.num 1))∨r=.go 1:=by simpa [hE]using hr
 rcases h with rfl | rfl | rfl | rfl
 . exact⟨trivial,(by show 1<=5;decide)⟩
 . exact⟨⟨(by decide +kernel),⟨(by decide +kernel),trivial⟩,(by decide +kernel),⟨(by decide +kernel),⟨(by decide +kernel),trivial,trivial⟩,(by decide +kernel),(show("round":Str)∈vh by decide +kernel),trivial⟩,trivial⟩,(by show 5<=5;decide)⟩
 . exact⟨⟨(by decide +kernel),trivial,trivial⟩,(by show 2<=5;decide)⟩
 . exact(by show(0:Int)<=1;decide)
def DM:Sp:=fun vs H Q _=>∃(N:Addr)(x:Str)(n a:Nat)(m:Int),vs=[.ref N,.int n,.int a,.int m]/\H N=some (.lst [.str x])/\∀(h:Addr)(H':Hp),HelpAt H' h (hE x a n m)->Same H H'->Q (.ref h) H'
theorem i3:FnScope ["_law_names_here","_law_number","_law_at","_law_more","_law_count","_law_here","_law_told"] ["_law_names_here","_law_number","_law_at","_law_more"] (ag gi):=⟨rfl,rfl,rfl,by decide +kernel,rfl,by decide +kernel,by decide +kernel⟩
theorem tZ {f:Addr} {fd:FuncData} (F:Fun K "_law_helper" "_law_helper" gi f fd):FnOk P w K mg base CX0 1 f fd ["_law_names_here","_law_number","_law_at","_law_more"] DM:=by
 refine F.ok i3 (fun vs H Q E h=>?_) (fun cdv A outer s H vs Q E hr h=>?_)
 . obtain⟨N,x,n,a,m,rfl,_⟩:=h;rfl
 obtain⟨N,x,n,a,m,rfl,hN,q⟩:=h;have s1:1<=sizeLine:=by decide
 have s2:2<=sizeLine:=by decide
 have s3:3<=sizeLine:=by decide
 have s4:4<=sizeLine:=by decide
 refine ⟨_,PSW.out (aV (cg (i:=4) i3.nd rfl (Or.inl rfl) (cG (aM bZ (aM (zu ix_list ⟨pv 0⟩ kM (fun _ _=>rfl)) cH))))
  (aV (cg (i:=5) i3.nd rfl (Or.inl rfl) (cG (aM bZ (aM bZ (aM (cG (aM bZ (aM bZ (aM ⟨pv 4⟩ (aM (cG (aM bZ (aM ⟨pv 2⟩ cH))) cH))))) (aM (cG (aM bZ (aM bZ (aM (cG (aM bZ cH)) (aM (cG (aM bZ (aM ⟨pv 1⟩ cH))) cH))))) cH))))))
  (aV (cg (i:=6) i3.nd rfl (Or.inl rfl) (cG (aM bZ (aM bZ (aM (cG (aM bZ (aM ⟨pv 4⟩ cH))) (aM (cG (aM bZ (aM bZ (aM ⟨pv 5⟩ (aM (cG (aM bZ (aM ⟨pv 3⟩ cH))) cH))))) cH))))))
  (dG (fK (cG (aM (cG (aM bZ (aM (zu ix_list ⟨pv 0⟩ kM (fun _ _=>rfl)) (aM (cG (aM bZ (aM kM cH))) cH)))) (aM (cG (aM bZ (aM ⟨pv 6⟩ cH))) (aM (cG (aM bZ (aM (zu ix_list ⟨pv 0⟩ kM (fun _ _=>rfl)) (aM (cG (aM bZ (aM bZ (aM ⟨pv 4⟩ (aM (cG (aM bZ (aM kM cH))) cH))))) cH)))) (aM (cG (aM bZ (aM kM cH))) cH)))))))))),?_⟩
 refine⟨_,rfl,N,_,0,.str x,rfl,rfl,zH0 hN,rfl,s2,fun q1 k1=>?_⟩;have I1:=zD0 k1 (.tup [.str "box",.str x]);have e1:upd H q1 (.tup [.str "box",.str x]) q1=some (.tup [.str "box",.str x]):=ai;generalize upd H q1 (.tup [.str "box",.str x])=H1 at I1 e1;have A1:Same H H1:=I1;refine⟨_,rfl,_,rfl,s2,fun q2 k2=>?_⟩;have I2:=zD0 k2 (.tup [.str "num",.int a]);have e2:upd H1 q2 (.tup [.str "num",.int a]) q2=some (.tup [.str "num",.int a]):=ai;generalize upd H1 q2 (.tup [.str "num",.int a])=H2 at I2 e2;have A2:Same H H2:=A1.trans I2;refine⟨s4,fun q3 k3=>?_⟩;have I3:=zD0 k3 (.tup [.str "op",.str "=",.ref q1,.ref q2]);have e3:upd H2 q3 (.tup [.str "op",.str "=",.ref q1,.ref q2]) q3=some (.tup [.str "op",.str "=",.ref q1,.ref q2]):=ai;generalize upd H2 q3 (.tup [.str "op",.str "=",.ref q1,.ref q2])=H3 at I3 e3;have A3:Same H H3:=A2.trans I3;refine⟨s1,fun q4 k4=>?_⟩;have I4:=zD0 k4 (.tup [.str "round"]);have e4:upd H3 q4 (.tup [.str "round"]) q4=some (.tup [.str "round"]):=ai;generalize upd H3 q4 (.tup [.str "round"])=H4 at I4 e4;have A4:Same H H4:=A3.trans I4;refine⟨_,rfl,s2,fun q5 k5=>?_⟩;have I5:=zD0 k5 (.tup [.str "num",.int n]);have e5:upd H4 q5 (.tup [.str "num",.int n]) q5=some (.tup [.str "num",.int n]):=ai;generalize upd H4 q5 (.tup [.str "num",.int n])=H5 at I5 e5;have A5:Same H H5:=A4.trans I5;refine⟨s4,fun q6 k6=>?_⟩;have I6:=zD0 k6 (.tup [.str "op",.str "=",.ref q4,.ref q5]);have e6:upd H5 q6 (.tup [.str "op",.str "=",.ref q4,.ref q5]) q6=some (.tup [.str "op",.str "=",.ref q4,.ref q5]):=ai;generalize upd H5 q6 (.tup [.str "op",.str "=",.ref q4,.ref q5])=H6 at I6 e6;have A6:Same H H6:=A5.trans I6;refine⟨s4,fun q7 k7=>?_⟩;have I7:=zD0 k7 (.tup [.str "op",.str "*",.ref q3,.ref q6]);have e7:upd H6 q7 (.tup [.str "op",.str "*",.ref q3,.ref q6]) q7=some (.tup [.str "op",.str "*",.ref q3,.ref q6]):=ai;generalize upd H6 q7 (.tup [.str "op",.str "*",.ref q3,.ref q6])=H7 at I7 e7;have A7:Same H H7:=A6.trans I7;refine⟨_,rfl,s2,fun q8 k8=>?_⟩;have I8:=zD0 k8 (.tup [.str "true",.ref q1]);have e8:upd H7 q8 (.tup [.str "true",.ref q1]) q8=some (.tup [.str "true",.ref q1]):=ai;generalize upd H7 q8 (.tup [.str "true",.ref q1])=H8 at I8 e8;have A8:Same H H8:=A7.trans I8;refine⟨_,rfl,_,rfl,s2,fun q9 k9=>?_⟩;have I9:=zD0 k9 (.tup [.str "num",.int m]);have e9:upd H8 q9 (.tup [.str "num",.int m]) q9=some (.tup [.str "num",.int m]):=ai;generalize upd H8 q9 (.tup [.str "num",.int m])=H9 at I9 e9;have A9:Same H H9:=A8.trans I9;refine⟨s4,fun q10 k10=>?_⟩;have I10:=zD0 k10 (.tup [.str "op",.str "*",.ref q7,.ref q9]);have e10:upd H9 q10 (.tup [.str "op",.str "*",.ref q7,.ref q9]) q10=some (.tup [.str "op",.str "*",.ref q7,.ref q9]):=ai;generalize upd H9 q10 (.tup [.str "op",.str "*",.ref q7,.ref q9])=H10 at I10 e10;have A10:Same H H10:=A9.trans I10;refine⟨s4,fun q11 k11=>?_⟩;have I11:=zD0 k11 (.tup [.str "op",.str "+",.ref q8,.ref q10]);have e11:upd H10 q11 (.tup [.str "op",.str "+",.ref q8,.ref q10]) q11=some (.tup [.str "op",.str "+",.ref q8,.ref q10]):=ai;generalize upd H10 q11 (.tup [.str "op",.str "+",.ref q8,.ref q10])=H11 at I11 e11;have A11:Same H H11:=A10.trans I11;refine⟨_,rfl,N,_,0,.str x,rfl,rfl,zH0 (A11 _ _ hN),rfl,s2,fun q12 k12=>?_⟩;have I12:=zD0 k12 (.tup [.str "num",.int 0]);have e12:upd H11 q12 (.tup [.str "num",.int 0]) q12=some (.tup [.str "num",.int 0]):=ai;generalize upd H11 q12 (.tup [.str "num",.int 0])=H12 at I12 e12;have A12:Same H H12:=A11.trans I12;refine⟨s3,fun q13 k13=>?_⟩;have I13:=zD0 k13 (.tup [.str "set",.str x,.ref q12]);have e13:upd H12 q13 (.tup [.str "set",.str x,.ref q12]) q13=some (.tup [.str "set",.str x,.ref q12]):=ai;generalize upd H12 q13 (.tup [.str "set",.str x,.ref q12])=H13 at I13 e13;have A13:Same H H13:=A12.trans I13;refine⟨_,rfl,s2,fun q14 k14=>?_⟩;have I14:=zD0 k14 (.tup [.str "say",.ref q11]);have e14:upd H13 q14 (.tup [.str "say",.ref q11]) q14=some (.tup [.str "say",.ref q11]):=ai;generalize upd H13 q14 (.tup [.str "say",.ref q11])=H14 at I14 e14;have A14:Same H H14:=A13.trans I14;refine⟨_,rfl,N,_,0,.str x,rfl,rfl,zH0 (A14 _ _ hN),rfl,_,rfl,s2,fun q15 k15=>?_⟩;have I15:=zD0 k15 (.tup [.str "num",.int 1]);have e15:upd H14 q15 (.tup [.str "num",.int 1]) q15=some (.tup [.str "num",.int 1]):=ai;generalize upd H14 q15 (.tup [.str "num",.int 1])=H15 at I15 e15;have A15:Same H H15:=A14.trans I15;refine⟨s4,fun q16 k16=>?_⟩;have I16:=zD0 k16 (.tup [.str "op",.str "+",.ref q1,.ref q15]);have e16:upd H15 q16 (.tup [.str "op",.str "+",.ref q1,.ref q15]) q16=some (.tup [.str "op",.str "+",.ref q1,.ref q15]):=ai;generalize upd H15 q16 (.tup [.str "op",.str "+",.ref q1,.ref q15])=H16 at I16 e16;have A16:Same H H16:=A15.trans I16;refine⟨s3,fun q17 k17=>?_⟩;have I17:=zD0 k17 (.tup [.str "set",.str x,.ref q16]);have e17:upd H16 q17 (.tup [.str "set",.str x,.ref q16]) q17=some (.tup [.str "set",.str x,.ref q16]):=ai;generalize upd H16 q17 (.tup [.str "set",.str x,.ref q16])=H17 at I17 e17;have A17:Same H H17:=A16.trans I17;refine⟨s2,fun q18 k18=>?_⟩;have I18:=zD0 k18 (.tup [.str "go",.int 1]);have e18:upd H17 q18 (.tup [.str "go",.int 1]) q18=some (.tup [.str "go",.int 1]):=ai;generalize upd H17 q18 (.tup [.str "go",.int 1])=H18 at I18 e18;have A18:Same H H18:=A17.trans I18;refine⟨s4,fun q19 k19=>?_⟩;have I19:=zD0 k19 (.tup [.ref q13,.ref q14,.ref q17,.ref q18]);have e19:upd H18 q19 (.tup [.ref q13,.ref q14,.ref q17,.ref q18]) q19=some (.tup [.ref q13,.ref q14,.ref q17,.ref q18]):=ai;generalize upd H18 q19 (.tup [.ref q13,.ref q14,.ref q17,.ref q18])=H19 at I19 e19;have A19:Same H H19:=A18.trans I19;have B19:Same H19 H19:=Same.refl _;have B18:Same H18 H19:=I19.trans B19;have B17:Same H17 H19:=I18.trans B18;have B16:Same H16 H19:=I17.trans B17;have B15:Same H15 H19:=I16.trans B16;have B14:Same H14 H19:=I15.trans B15;have B13:Same H13 H19:=I14.trans B14;have B12:Same H12 H19:=I13.trans B13;have B11:Same H11 H19:=I12.trans B12;have B10:Same H10 H19:=I11.trans B11;have B9:Same H9 H19:=I10.trans B10;have B8:Same H8 H19:=I9.trans B9;have B7:Same H7 H19:=I8.trans B8;have B6:Same H6 H19:=I7.trans B7;have B5:Same H5 H19:=I6.trans B6;have B4:Same H4 H19:=I5.trans B5;have B3:Same H3 H19:=I4.trans B4;have B2:Same H2 H19:=I3.trans B3;have B1:Same H1 H19:=I2.trans B2;have tc:TmAt H19 (.ref q1) (.box x):=.box (B1 _ _ e1);have th:TmAt H19 (.ref q7) (.op "*" (.op "=" (.box x) (.num (a:Int))) (.op "=" (.plain "round") (.num (n:Int)))):=.op (B7 _ _ e7) (.op (B3 _ _ e3) tc (.num (B2 _ _ e2))) (.op (B6 _ _ e6) (.plain (B4 _ _ e4)) (.num (B5 _ _ e5)));have tt:TmAt H19 (.ref q11) (tE x a n m):=.op (B11 _ _ e11) (.ask (B8 _ _ e8) tc) (.op (B10 _ _ e10) th (.num (B9 _ _ e9)));exact q q19 H19 ⟨_,e19,km (.set (B13 _ _ e13) (.num (B12 _ _ e12))) (km (.say (B14 _ _ e14) tt) (km (.set (B17 _ _ e17) (.op (B16 _ _ e16) tc (.num (B15 _ _ e15)))) (km (.go (B18 _ _ e18)) Au)))⟩ A19
end
theorem iteNt{c A B:Prop}[Decidable c](hc:¬ c)(h:A):if(!decide c)=true then A else B:=by
 rw[decide_eq_false hc];exact h
theorem iteNn{c A B:Prop}[Decidable c](hc:c)(h:B):if(!decide c)=true then A else B:=by
 rw[decide_eq_true hc];exact h
section
theorem awV_b:awV (("believed":Str),none)=[.str "believed"]:=rfl
theorem awV_c (i:Int):awV (("caught":Str),some i)=[.str "caught",.int i]:=rfl
def wN:Sp:=fun vs H Q _=>∃(gh a b D C:Addr)(ns:List Str)(tv:List V)(ts:List Tr)(p:Int)(n at_:Nat)(c:List Int),vs=[.ref gh,.ref D,.int n,.int at_,.ref C]/\GmT H gh a b ns tv ts p/\H D=some (.lst ((ns.map (bj ts)).map V.int))/\H C=some (.tup (c.map V.int))/\c.length=bn ns ts/\1<=ts.length/\n<=ns.length/\ns.length<=6/\
 ∀(o:Addr)(H':Hp),H' o=some (.tup (awV (jJ ns ts n at_ c)))->Same H H'->Q (.ref o) H'
theorem v4:FnScope ["_law_game_here","_law_degrees_here","_law_number","_law_at","_law_coins","_law_mixed","_law_r"] ["_law_game_here","_law_degrees_here","_law_number","_law_at","_law_coins"] (ag jZ):=⟨rfl,rfl,rfl,by decide +kernel,rfl,by decide +kernel,by decide +kernel⟩
theorem sH{xs:List Int}{j:Nat}(h:j<xs.length):atI (xs.map V.int) (j:Int)=some (.int (xs.getD j 0)):=by
 refine cL ?_;rw[zR0,zS0,zK0 h];rfl
theorem xk{tl:Nat}:(if decide ((1:Int)<(tl:Int))=true then(1:Int)else 0)=((if 1<tl then 1 else 0:Nat):Int):=by
 by_cases c:1<tl
 . rw[zB0 c,zB0 (decide_eq_true (by omega))];rfl
 . rw[zA0 c,zA0 (fun z=>c (by have:=of_decide_eq_true z;omega))];rfl
theorem Ba {f:Addr} {fd:FuncData} (F:Fun K "_law_end" "_law_end" jZ f fd) (B:Bl mg):FnOk P w K mg base CX0 1 f fd ["_law_game_here","_law_degrees_here","_law_number","_law_at","_law_coins"] wN:=by
 refine F.ok v4 (fun vs H Q E h=>?_) (fun cdv A outer s H vs Q E hr h=>?_)
 . obtain⟨gh,a,b,D,C,ns,tv,ts,p,n,at_,c,rfl,_⟩:=h;rfl
 obtain⟨gh,a,b,D,C,ns,tv,ts,p,n,at_,c,rfl,G,hD,hC,cl,t1,nn,n6,q⟩:=h;have s1:1<=sizeLine:=by decide
 have s2:2<=sizeLine:=by decide
 refine ⟨_,PSW.out (aV (cg (i:=5) v4.nd rfl (Or.inl rfl) ⟨bq rf rfl B.int kD (aa (jg ic (aJ aE rfl B.len PySem.boot_len (aa (aP ix_tup (pv 0) af (fun _ _=>rfl)) ae)) af (aq _)) ae)⟩)
  (aV (jk (am aZ (pv 2) af (aq _)) (aV (jk (PW.pt (jz (am aZ (pv 5) af (aq _)) (jz (am aZ (aP ix_tup (pv 4) af (fun _ _=>rfl)) af (aq _)) (kq (am ic (pv 3) af (aq _)))))) (dG (fK (cG (aM bZ cH)))) gC) (dG (fK (cG (aM bZ (aM kM cH)))))) gC)
  (aV (jk (am gO (pv 3) af (aq _)) (dG (fK (cG (aM bZ (aM ⟨pv 2⟩ cH))))) gC)
  (aV (cg (i:=6) v4.nd rfl (Or.inl rfl) ⟨aP ix_tup (pv 4) (aj bm (aj aU (pv 5) (pv 2)) af) (fun _ _=>rfl)⟩)
  (aV (jk (PW.pt (jz (am pV (pv 6) (aP ix_list (pv 1) (aj bm (pv 2) af) (fun _ _=>rfl)) (aq _)) (kq (am pU (pv 6) (pv 3) (aq _))))) (dG (fK (cG (aM bZ cH)))) gC)
  (dG (fK (cG (aM bZ (aM ⟨aj aU (pv 2) af⟩ cH)))))))))),?_⟩
 have vl:tv.length=ts.length:=G.tr.length;have fb:jJ ns ts n at_ c=(("believed":Str),none)->∀o,H o=none->Q (.ref o) (upd H o (.tup [.str "believed"])):=fun e o ho=>q o _ (by rw[e,awV_b];exact ai) (zD0 ho _)
 have fc:∀i:Int,jJ ns ts n at_ c=(("caught":Str),some i)->∀o,H o=none->Q (.ref o) (upd H o (.tup [.str "caught",.int i])):=fun i e o ho=>q o _ (by rw[e,awV_c];exact ai) (zD0 ho _)
 refine⟨_,rfl,gh,_,1,_,rfl,rfl,zC0 G.hg,rfl,b,_,rfl,.inr (zC0 G.hb),_,_,rfl,rfl,.inr ⟨_,rfl,?_⟩⟩;rw[vl,show(if decide ((ts.length:Int)>1)=true then(1:Int)else 0)=((if 1<ts.length then 1 else 0:Nat):Int)from xk];unfold jJ at fb fc;refine⟨_,rfl,rfl,_,rfl,?_⟩
 by_cases n0:n=0
 . subst n0;rw[zB0 rfl]at fb fc;refine bh rfl ?_
   by_cases c1:1<ts.length
   . rw [zB0 c1];refine⟨_,rfl,rfl,_,rfl,bh rfl ?_⟩;cases c with
     | nil=>rw[List.length_nil]at cl;unfold bn at cl;rw[zA0 (by omega)]at cl;omega
     | cons x r=>
       refine⟨_,rfl,C,_,0,.int x,rfl,rfl,zC0 hC,at0 ..,rfl,_,rfl,?_⟩
       by_cases x0:x=0
       . refine bh (congrArg V.int x0) ?_;refine⟨_,rfl,_,_,rfl,rfl,_,rfl,?_⟩
         by_cases a0:0<at_
         . refine bh (by show(0:Int)<(at_:Int);omega) ?_;exact⟨s1,fb (by rw[zB0 ⟨c1,x0,a0⟩])⟩
         . refine aF (by show ¬ (0:Int)<(at_:Int);omega) ?_;exact⟨s2,fc 1 (by rw[zA0 (fun z=>a0 z.2.2)])⟩
       . refine aF (fun z=>x0 (V.int.inj z)) (gJ ?_);exact⟨s2,fc 1 (by rw[zA0 (fun z=>x0 z.2.1)])⟩
   . rw[zA0 c1];refine⟨_,rfl,rfl,_,rfl,aF (fun z=>by cases V.int.inj z) (gJ ?_)⟩;exact⟨s2,fc 1 (by rw[zA0 (fun z=>c1 z.1)])⟩
 . rw [zA0 n0]at fb fc;refine aF (fun z=>n0 (by have:=V.int.inj z;omega)) ?_;unfold uk at fb fc;refine⟨_,rfl,_,_,rfl,rfl,_,rfl,?_⟩
   by_cases a2:at_<2
   . refine bh (by show(at_:Int)<2;omega) ?_;exact⟨_,rfl,s2,fc n (by rw[zB0 a2])⟩
   . rw [zA0 a2]at fb fc;refine aF (by show ¬ (at_:Int)<2;omega) ?_;have hj:jC ts+n-1<c.length:=by
      rw[cl];unfold bn jC
      split <;> split <;> omega
     have ej:((if 1<ts.length then 1 else 0:Nat):Int)+(n:Int)-1=((jC ts+n-1:Nat):Int):=by
      unfold jC;omega
     refine ⟨_,rfl,_,rfl,_,rfl,_,_,rfl,rfl,_,_,rfl,rfl,C,_,_,.int (c.getD (jC ts+n-1) 0),rfl,rfl,zC0 hC,(by rw[ej];exact sH hj),?_⟩;have hd:atI ((ns.map (bj ts)).map V.int) ((n:Int)-1)=some (.int (bj ts (ns.getD (n-1) ""))):=by
      have e:(n:Int)-1=((n-1:Nat):Int):=by omega
      rw[e]
      have:=sH (xs:=ns.map (bj ts)) (j:=n-1) (by rw[zE0];omega)
      rw[this,zS0,zR0,zK0 (by omega),zS0,zK0 (by omega)];rfl
     refine⟨_,rfl,_,rfl,_,rfl,_,_,rfl,rfl,D,_,_,_,rfl,rfl,zH0 hD,hd,_,_,rfl,rfl,_,rfl,?_⟩
     by_cases r1:c.getD (jC ts+n-1) 0<=bj ts (ns.getD (n-1) "")
     . refine bh r1 ?_;refine⟨_,rfl,_,rfl,rfl,_,rfl,?_⟩
       by_cases r2:c.getD (jC ts+n-1) 0=(at_:Int)
       . refine iteNn (congrArg V.int r2) ?_;exact⟨_,rfl,_,_,rfl,rfl,s2,fc _ (by rw[zA0 (fun z=>z.2 r2)])⟩
       . refine iteNt (fun z=>r2 (V.int.inj z)) ?_;exact⟨s1,fb (by rw[zB0 ⟨r1,r2⟩])⟩
     . refine aF r1 (gJ ?_);exact⟨_,rfl,_,_,rfl,rfl,s2,fc _ (by rw[zA0 (fun z=>r1 z.1)])⟩
end
section
def zN:Sp:=fun vs H Q _=>∃(gh a b D:Addr)(ns:List Str)(tv:List V)(ts:List Tr)(p:Int)(n at_:Nat),vs=[.ref gh,.ref D,.int n,.int at_]/\GmT H gh a b ns tv ts p/\GmK ns ts p/\H D=some (.lst ((ns.map (bj ts)).map V.int))/\n<=ns.length/\ns.length<=6/\
 ∀(o w2:Addr)(c:List Int)(H':Hp),H' o=some (.tup [.int (wO ns ts p n at_).1,.ref w2])->(wO ns ts p n at_).2=some c->H' w2=some (.tup (c.map V.int))->c.length=bn ns ts->Same H H'->Q (.ref o) H'
theorem dc:FnScope ["_law_game_here","_law_degrees_here","_law_number","_law_at","_law_p","_law_n","_law_mixed","_law_many","_law_k","_law_noughts"] ["_law_game_here","_law_degrees_here","_law_number","_law_at"] (ag gg):=⟨rfl,rfl,rfl,by decide +kernel,rfl,by decide +kernel,by decide +kernel⟩
theorem rc(ns:List Str)(ts:List Tr)(t1:1<=ts.length):bn ns ts=ns.length+jC ts:=by
 unfold bn jC
 split <;> split <;> omega
theorem Fi {ns:List Str} {ts:List Tr} {n:Nat} (n1:1<=n) (nn:n<=ns.length):atI ((ns.map (bj ts)).map V.int) ((n:Int)-1)=some (.int (bj ts (ns.getD (n-1) ""))):=by
 have e:(n:Int)-1=((n-1:Nat):Int):=by omega
 rw[e]
 have:=sH (xs:=ns.map (bj ts)) (j:=n-1) (by rw[zE0];omega)
 rw[this,zS0,zR0,zK0 (by omega),zS0,zK0 (by omega)];rfl
theorem tN{k:Int}{N:Nat}(h:k=(N:Int)):(List.replicate k.toNat [V.int 0]).flatten=(List.replicate N (0:Int)).map V.int:=by
 rw[h,qT0,List.flatten_replicate_singleton,List.map_replicate]
theorem tY {f:Addr} {fd:FuncData} (F:Fun K "_law_weight" "_law_weight" gg f fd) (B:Bl mg):FnOk P w K mg base CX0 1 f fd ["_law_game_here","_law_degrees_here","_law_number","_law_at"] zN:=by
 refine F.ok dc (fun vs H Q E h=>?_) (fun cdv A outer s H vs Q E hr h=>?_)
 . obtain⟨gh,a,b,D,ns,tv,ts,p,n,at_,rfl,_⟩:=h;rfl
 obtain⟨gh,a,b,D,ns,tv,ts,p,n,at_,rfl,G,k,hD,nn,n6,q⟩:=h;have s1:1<=sizeLine:=by decide
 have s2:2<=sizeLine:=by decide
 refine ⟨_,PSW.out (aV (cg (i:=4) dc.nd rfl (Or.inl rfl) ⟨aP ix_tup (pv 0) af (fun _ _=>rfl)⟩)
  (aV (cg (i:=5) dc.nd rfl (Or.inl rfl) ⟨aJ aE rfl B.len PySem.boot_len (aa (pv 1) ae)⟩)
  (aV (cg (i:=6) dc.nd rfl (Or.inl rfl) ⟨bq rf rfl B.int kD (aa (jg ic (aJ aE rfl B.len PySem.boot_len (aa (aP ix_tup (pv 0) af (fun _ _=>rfl)) ae)) af (aq _)) ae)⟩)
  (aV (cg (i:=7) dc.nd rfl (Or.inl rfl) ⟨af⟩)
  (aV ⟨da PassesOwn.never rfl (cF rfl B.range (aa (aj bm (aj aU (pv 5) (pv 6)) af) ae)) (bX (i:=8) dc.nd rfl (Or.inl rfl)) (ah (ao (i:=7) dc.nd rfl (Or.inl rfl) (aj cq (pv 7) (pv 4))))⟩
  (aV (cg (i:=9) dc.nd rfl (Or.inl rfl) ⟨aj vp (cw (aa af ae)) (aj aU (pv 5) (pv 6))⟩)
  (aV (jk (am aZ (pv 2) af (aq _)) (aV (jk (PW.pt (jz (am aZ (pv 6) af (aq _)) (kq (am ic (pv 3) af (aq _))))) (dG (fK ⟨bc (aa (pv 7) (aa (bq ba rfl B.tuple bi (aa (aj kX (cw (aa af ae)) (iQ Cz (pv 9) (jf af) lH)) ae)) ae))⟩)) gC) (dG (fK ⟨bc (aa af (aa (bq ba rfl B.tuple bi (aa (pv 9) ae)) ae))⟩))) gC)
  (aV (jk (am gO (pv 3) af (aq _)) (dG (fK ⟨bc (aa af (aa (bq ba rfl B.tuple bi (aa (pv 9) ae)) ae))⟩)) gC)
  (aV ⟨pJ (pv 3) (si (pv 9) (aj bm (aj aU (pv 6) (pv 2)) af) ly)⟩
  (dG (fK ⟨bc (aa (aj cq (pv 7) (aP ix_list (pv 1) (aj bm (pv 2) af) (fun _ _=>rfl))) (aa (bq ba rfl B.tuple bi (aa (pv 9) ae)) ae))⟩))))))))))),?_⟩
 have vl:tv.length=ts.length:=G.tr.length;have p2:=k.p2;have p9:=k.p9;have dl:((ns.map (bj ts)).map V.int).length=ns.length:=by rw[zE0,zE0]
 have ecn:=rc ns ts k.t1;refine⟨_,rfl,gh,_,2,_,rfl,rfl,zC0 G.hg,rfl,_,rfl,D,_,rfl,.inl (zH0 hD),_,rfl,gh,_,1,_,rfl,rfl,zC0 G.hg,rfl,b,_,rfl,.inr (zC0 G.hb),_,_,rfl,rfl,.inr ⟨_,rfl,?_⟩⟩;rw[vl,dl,show(if decide ((ts.length:Int)>1)=true then(1:Int)else 0)=((if 1<ts.length then 1 else 0:Nat):Int)from xk];generalize hmx:(if 1<ts.length then 1 else 0:Nat)=mx;have hm1:jC ts=mx:=hmx;have m1:mx<=1:=by rw[←hmx];split <;> omega
 have mi:1<ts.length↔mx=1:=by rw[←hmx];split <;> omega
 rw[hm1]at ecn;have eN:((ns.length:Int)+(mx:Int)-1).toNat=bn ns ts-1:=by omega
 refine⟨_,rfl,_,rfl,_,_,rfl,rfl,_,_,rfl,rfl,_,rfl,by omega,by omega,dU (n:=((ns.length:Int)+(mx:Int)-1).toNat) (fun i σ H'=>∃x8:Option V,σ=[some (.ref gh),some (.ref D),some (.int n),some (.int at_),some (.int p),some (.int (ns.length:Int)),some (.int (mx:Int)),some (.int (p ^ i)),x8,none]/\H'=H) ⟨none,by rw[Int.pow_zero];rfl,rfl⟩ ?_ ?_⟩
 . rintro i σ H1 hi ⟨x8,rfl,rfl⟩;refine⟨_,rfl,_,rfl,_,_,rfl,rfl,.inr ⟨by omega,by omega⟩,?_⟩;refine⟨some (.int (0+(i:Int))),?_,rfl⟩;rw[Int.pow_succ];rfl
 rintro σ H1 ⟨x8,rfl,rfl⟩;rw[eN];refine⟨s1,fun l1 k1=>?_⟩;have I1:=zD0 k1 (.lst [V.int 0]);have e1:upd H1 l1 (.lst [V.int 0]) l1=some (.lst [V.int 0]):=ai;generalize upd H1 l1 (.lst [V.int 0])=H2 at I1 e1;refine⟨_,rfl,_,rfl,_,_,rfl,rfl,l1,_,_,rfl,rfl,e1,by omega,by omega,dX (by show 1*((ns.length:Int)+(mx:Int)).toNat<=1000;omega),fun L kL=>?_⟩;rw[tN (k:=(ns.length:Int)+(mx:Int)) (N:=bn ns ts) (by omega)];have I2:=zD0 kL (.lst ((List.replicate (bn ns ts) (0:Int)).map V.int));have hL:upd H2 L (.lst ((List.replicate (bn ns ts) (0:Int)).map V.int)) L=some (.lst ((List.replicate (bn ns ts) (0:Int)).map V.int)):=ai;generalize upd H2 L (.lst ((List.replicate (bn ns ts) (0:Int)).map V.int))=H3 at I2 hL;have J3:=I1.trans I2;have L0:H1 L=none:=by
  cases e:H1 L with
  | none=>rfl
  | some o=>rw[I1 _ _ e]at kL;cases kL
 clear I1 I2 e1 k1;have non:wO ns ts p n at_=(0,some (List.replicate (bn ns ts) 0))->∃(p_1:Addr)(ys:List V),[V.ref L]=[.ref p_1]/\((SqL K H3 p_1 ys/\∀l,H3 l=none->2<=sizeLine/\∀o,upd H3 l (.tup ys) o=none->Q (.ref o) (upd (upd H3 l (.tup ys)) o (.tup [.int 0,.ref l])))∨(SqT K H3 p_1 ys/\2<=sizeLine/\∀o,H3 o=none->Q (.ref o) (upd H3 o (.tup [.int 0,.ref p_1])))):=fun e=>by
  refine⟨L,_,rfl,.inl ⟨zH0 hL,fun w2 kw=>⟨s2,fun o ko=>?_⟩⟩⟩;have Iw:=zD0 kw (.tup ((List.replicate (bn ns ts) (0:Int)).map V.int));have Io:=zD0 ko (.tup [.int 0,.ref w2]);exact q o w2 _ _ (by rw[e];exact ai) (by rw[e]) (Io _ _ ai) (List.length_replicate ..) (J3.trans (Iw.trans Io))
 refine⟨_,rfl,rfl,_,rfl,?_⟩
 by_cases n0:n=0
 . refine bh (by rw[n0];rfl) ?_;refine⟨_,rfl,rfl,_,rfl,?_⟩
   by_cases c1:1<ts.length
   . have em:=mi.mp c1;refine bh (by rw[em];rfl) ?_;refine⟨_,rfl,_,_,rfl,rfl,_,rfl,?_⟩
     by_cases a0:0<at_
     . refine bh (by show(0:Int)<(at_:Int);omega) ?_;have ew:wO ns ts p n at_=(p ^ (bn ns ts-1),some ((List.replicate (bn ns ts) 0).set 0 1)):=by
        unfold wO;rw[zB0 n0,zB0 ⟨c1,a0⟩]
       refine ⟨_,rfl,s1,fun l2 k2=>?_⟩;have I4:=zD0 k2 (.lst [V.int 1]);have e4:upd H3 l2 (.lst [V.int 1]) l2=some (.lst [V.int 1]):=ai;generalize upd H3 l2 (.lst [V.int 1])=H4 at I4 e4;refine⟨_,rfl,_,rfl,L,_,rfl,zH0 (I4 _ _ hL),fun l3 k3=>?_⟩;have ec:lc ((List.replicate (bn ns ts) (0:Int)).map V.int) (some 1) none=(List.replicate (bn ns ts-1) (0:Int)).map V.int:=by
        refine(BV (k:=1) (by rw[zE0,List.length_replicate];omega)).trans ?_;rw[←List.map_drop,List.drop_replicate]
       rw [ec];have I5:=zD0 k3 (.lst ((List.replicate (bn ns ts-1) (0:Int)).map V.int));have e5:upd H4 l3 (.lst ((List.replicate (bn ns ts-1) (0:Int)).map V.int)) l3=some (.lst ((List.replicate (bn ns ts-1) (0:Int)).map V.int)):=ai;generalize upd H4 l3 (.lst ((List.replicate (bn ns ts-1) (0:Int)).map V.int))=H5 at I5 e5;refine⟨l2,l3,_,_,rfl,rfl,I5 _ _ e4,e5,dX (by rw[zE0,List.length_replicate];show 1+_<=1000;omega),fun l4 k4=>?_⟩;have el:[V.int 1]++(List.replicate (bn ns ts-1) (0:Int)).map V.int=((List.replicate (bn ns ts) (0:Int)).set 0 1).map V.int:=by
        obtain⟨M,eM⟩:∃M,bn ns ts=M+1:=⟨bn ns ts-1,by omega⟩
        rw[eM];rfl
       rw[el];have I6:=zD0 k4 (.lst (((List.replicate (bn ns ts) (0:Int)).set 0 1).map V.int));have e6:upd H5 l4 (.lst (((List.replicate (bn ns ts) (0:Int)).set 0 1).map V.int)) l4=some (.lst (((List.replicate (bn ns ts) (0:Int)).set 0 1).map V.int)):=ai;generalize upd H5 l4 (.lst (((List.replicate (bn ns ts) (0:Int)).set 0 1).map V.int))=H6 at I6 e6;refine⟨l4,_,rfl,.inl ⟨zH0 e6,fun w2 kw=>⟨s2,fun o ko=>?_⟩⟩⟩;have Iw:=zD0 kw (.tup (((List.replicate (bn ns ts) (0:Int)).set 0 1).map V.int));have Io:=zD0 ko (.tup [.int (p ^ (bn ns ts-1)),.ref w2]);exact q o w2 _ _ (by rw[ew];exact ai) (by rw[ew]) (Io _ _ ai) (by rw[List.length_set,List.length_replicate]) (J3.trans (I4.trans (I5.trans (I6.trans (Iw.trans Io)))))
     . refine aF (by show ¬ (0:Int)<(at_:Int);omega) ?_;refine⟨_,rfl,non ?_⟩;unfold wO;rw[zB0 n0,zA0 (fun z=>a0 z.2)]
   . refine aF (fun z=>c1 (mi.mpr (by have:=V.int.inj z;omega))) (gJ ?_);refine⟨_,rfl,non ?_⟩;unfold wO;rw[zB0 n0,zA0 (fun z=>c1 z.1)]
 . refine aF (fun z=>n0 (by have:=V.int.inj z;omega)) ?_;refine⟨_,rfl,_,_,rfl,rfl,_,rfl,?_⟩
   by_cases a2:at_<2
   . refine bh (by show(at_:Int)<2;omega) ?_;refine⟨_,rfl,non ?_⟩;unfold wO;rw[zA0 n0,zB0 a2]
   . refine aF (by show ¬ (at_:Int)<2;omega) ?_;have ew:wO ns ts p n at_=(p ^ (bn ns ts-1)*bj ts (ns.getD (n-1) ""),some ((List.replicate (bn ns ts) 0).set (mx+n-1) (at_:Int))):=by
      unfold wO;rw[zA0 n0,zA0 a2,hm1]
     have hx:ns.getD (n-1) ""∈ns:=by
      rw[zS0,zK0 (by omega)];exact qL0 _
     obtain ⟨d0,dp⟩:=k.deg _ hx;have hix:ixN ((List.replicate (bn ns ts) (0:Int)).map V.int).length ((mx:Int)+(n:Int)-1)=some (mx+n-1):=by
      rw[zE0,List.length_replicate];unfold ixN;rw[zB0 (by omega),zB0 (by omega)]
      congr 1
      omega
     refine⟨_,rfl,_,rfl,_,rfl,_,rfl,_,_,rfl,rfl,_,_,rfl,rfl,L,_,_,_,rfl,rfl,hL,hix,?_⟩;rw[←List.map_set];have U:SameBut L H3 (upd H3 L (.lst (((List.replicate (bn ns ts) (0:Int)).set (mx+n-1) (at_:Int)).map V.int))):=SameBut.upd _;have hU:upd H3 L (.lst (((List.replicate (bn ns ts) (0:Int)).set (mx+n-1) (at_:Int)).map V.int)) L=some (.lst (((List.replicate (bn ns ts) (0:Int)).set (mx+n-1) (at_:Int)).map V.int)):=ai;generalize upd H3 L (.lst (((List.replicate (bn ns ts) (0:Int)).set (mx+n-1) (at_:Int)).map V.int))=H4 at U hU;have J4:Same H1 H4:=fun c o e=>U _ _ (aO e L0) (J3 _ _ e)
     refine⟨_,rfl,_,rfl,_,rfl,_,_,rfl,rfl,D,_,_,_,rfl,rfl,zH0 (J4 _ _ hD),Fi (by omega) nn,_,_,rfl,rfl,.inr ⟨by omega,by omega⟩,_,rfl,L,_,rfl,.inl ⟨zH0 hU,fun w2 kw=>⟨s2,fun o ko=>?_⟩⟩⟩;have Iw:=zD0 kw (.tup (((List.replicate (bn ns ts) (0:Int)).set (mx+n-1) (at_:Int)).map V.int));have Io:=zD0 ko (.tup [.int (p ^ (bn ns ts-1)*bj ts (ns.getD (n-1) "")),.ref w2]);exact q o w2 _ _ (by rw[ew];exact ai) (by rw[ew]) (Io _ _ ai) (by rw[List.length_set,List.length_replicate]) (J4.trans (Iw.trans Io))
end
def vo:Option (List Int)->PyData
 | none=>.none
 | some c=>.tuple (c.map PyData.int)
def wtD(x:Int×Option (List Int)):PyData:=.tuple [.int x.1,vo x.2]
theorem OptAt.rep{K:W.Frag}{H:Hp}{v:V}{x:Option (List Int)}(h:OptAt H v x):Rep K H v (vo x):=by
 cases x with
 | none=>rw[show v=.non from h];exact .non
 | some c=>obtain⟨b,rfl,hb⟩:=h;exact .tup (zC0 hb) (lF _)
theorem EC(x:Option (List Int)):(vo x).canLay0=true/\(vo x).depth<=1:=by
 cases x with
 | none=>simp [vo,PyData.canLay0,PyData.depth]
 | some c=>simp [vo,PyData.canLay0,PyData.depth,W.ke_canLayAll0,W.ke_depthAll]
theorem mF(x:Int×Option (List Int)):SeqAt.shaped (wtD x)=true:=by
 have h:=EC x.2;have hc:(wtD x).canLay0=true:=by simp [wtD,PyData.canLay0,PyData.canLayAll0,h.1]
 have hd:(wtD x).depth<=10:=by
  show max 0 (max (vo x.2).depth 0)+1<=10;omega
 unfold SeqAt.shaped;rw[hc,Bool.true_and,decide_eq_true_eq];omega
theorem Ef(x:Int×Option (List Int)):PyData.eqv (wtD x) (wtD x)=true:=PySem.SeqAt.eqv_refl _ (SeqAt.canLay_of_shaped (mF x))
section
variable {C CM CA CG:Addr}
structure GP(H:Hp)(gh a b:Addr)(ns:List Str)(tv:List V)(ts:List Tr)(p:Int):Prop where
 G:GmT H gh a b ns tv ts p
 k:GmK ns ts p
 nd:ns.Nodup
 n3:ns.length<=3
 d9:∀y∈ns,bj ts y<=60
theorem GP.mono{H H':Hp}{gh a b:Addr}{ns:List Str}{tv:List V}{ts:List Tr}{p:Int}(h:GP H gh a b ns tv ts p)(k:cx H H'):GP H' gh a b ns tv ts p:=⟨h.G.mono k,h.k,h.nd,h.n3,h.d9⟩
structure NA(ns:List Str)(ts:List Tr)(p:Int)(n at_:Nat):Prop where
 nn:n<=ns.length
 np:(n:Int)<p
 n0:n=0->(ns.length:Int)<p
 al0:n=0->at_<ts.length
 al:1<=n->(at_:Int)<=bj ts (ns.getD (n-1) "")
def eaD(a:Str×Option Int):PyData:=.tuple (match a.2 with | none=>[.str a.1] | some n=>[.str a.1,.int n])
theorem BM{K:W.Frag}{H:Hp}{o:Addr}{a:Str×Option Int}(h:H o=some (.tup (awV a))):Rep K H (.ref o) (eaD a):=by
 obtain⟨x,y⟩:=a;cases y with
 | none=>exact .tup (zC0 h) (.cons (.str _) .nil)
 | some n=>exact .tup (zC0 h) (.cons (.str _) (.cons (.int _) .nil))
theorem ok_be:PyData.strOk ("believed":Str)=true:=by decide +kernel
theorem ok_ca:PyData.strOk ("caught":Str)=true:=by decide +kernel
theorem Dw (ns:List Str) (ts:List Tr) (n a:Nat) (c:List Int):jJ ns ts n a c=(("believed":Str),none)∨∃i,jJ ns ts n a c=(("caught":Str),some i):=by
 unfold jJ uk
 repeat' split
 all_goals first | exact .inl rfl | exact .inr ⟨_,rfl⟩
theorem kZ(ns:List Str)(ts:List Tr)(n a:Nat)(c:List Int):SeqAt.shaped (eaD (jJ ns ts n a c))=true:=by
 rcases Dw ns ts n a c with e | ⟨i,e⟩
 . rw[e];simp [ok_be,eaD,SeqAt.shaped,PyData.canLay0,PyData.depth,PyData.canLayAll0,PyData.depthAll]
 . rw[e];simp [ok_ca,eaD,SeqAt.shaped,PyData.canLay0,PyData.depth,PyData.canLayAll0,PyData.depthAll]
theorem Dv(ns:List Str)(ts:List Tr)(n a:Nat)(c:List Int):PyData.eqv (eaD (jJ ns ts n a c)) (eaD (jJ ns ts n a c))=true:=PySem.SeqAt.eqv_refl _ (SeqAt.canLay_of_shaped (kZ ns ts n a c))
abbrev oC(x0 x1 x2 x3 x4 x5 x6 x7 x8 x9 x10 x11 x12 x13 x14 x15 x16 x17:Option V):St:=[x0,x1,x2,x3,x4,x5,x6,x7,x8,x9,x10,x11,x12,x13,x14,x15,x16,x17]
def Ks(K:W.Frag)(H:Hp)(f a0:Addr)(sn:List Int):Prop:=∀H',SameBut f H H'->SqL K H' a0 (sn.map V.int)
theorem Ks.but{K:W.Frag}{H H':Hp}{f a0:Addr}{sn:List Int}(h:Ks K H f a0 sn)(s:SameBut f H H'):Ks K H' f a0 sn:=fun H2 s2=>h H2 (s.trans s2)
def tA85(K:W.Frag):TS:=fun Dn σ H=>∃(a0 gh a b f:Addr)(sn:List Int)(ns:List Str)(tv:List V)(ts:List Tr)(p:Int),σ=oC (some (.ref a0)) (some (.ref gh)) (some (.ref f)) (some (.int p)) none none none none none none none none none none none none none none/\Ks K H f a0 sn/\sn.length<=63/\FeedAt H f/\GP H gh a b ns tv ts p/\∀H',Dn.rt (.bl true) H'
def tB85(K:W.Frag):TS:=fun Dn σ H=>∃(a0 gh a b f D:Addr)(z6:Option V)(sn:List Int)(ns:List Str)(tv:List V)(ts:List Tr)(p:Int)(n at_:Nat),σ=oC (some (.ref a0)) (some (.ref gh)) (some (.ref f)) (some (.int p)) (some (.ref D)) (some (.int n)) z6 (some (.int at_)) none none none none none none none none none none/\Ks K H f a0 sn/\sn.length<=63/\FeedAt H f/\GP H gh a b ns tv ts p/\H D=some (.lst ((ns.map (bj ts)).map V.int))/\D≠f/\NA ns ts p n at_/\∀H',Dn.rt (.bl true) H'
structure MW(CG:Addr)(H:Hp)(gh a b D h g w2:Addr)(ns:List Str)(tv:List V)(ts:List Tr)(p:Int)(n at_:Nat)(x:Str)(m w1:Int)(c:List Int):Prop where
 gp:GP H gh a b ns tv ts p
 hD:H D=some (.lst ((ns.map (bj ts)).map V.int))
 na:NA ns ts p n at_
 hh:HelpAt H h (hE x at_ n m)
 gm:Gm CG H g ns ts p
 m0:¬ p ∣ m
 e1:wO ns ts p n at_=(w1,some c)
 hw:H w2=some (.tup (c.map V.int))
 cl:c.length=bn ns ts
 cp:bV c p
theorem MW.same{H H':Hp}{gh a b D h g w2:Addr}{ns:List Str}{tv:List V}{ts:List Tr}{p:Int}{n at_:Nat}{x:Str}{m w1:Int}{c:List Int}(h0:MW CG H gh a b D h g w2 ns tv ts p n at_ x m w1 c)(s:Same H H'):MW CG H' gh a b D h g w2 ns tv ts p n at_ x m w1 c:=⟨h0.gp.mono (aG s),s _ _ h0.hD,h0.na,h0.hh.same s,h0.gm.same s,h0.m0,h0.e1,s _ _ h0.hw,h0.cl,h0.cp⟩
def tC85(K:W.Frag)(CG:Addr):TS:=fun Dn σ H=>∃(a0 gh a b D h g w2:Addr)(z2 z6:Option V)(sn:List Int)(ns:List Str)(tv:List V)(ts:List Tr)(p:Int)(n at_:Nat)(x:Str)(m w1:Int)(c:List Int),σ=oC (some (.ref a0)) (some (.ref gh)) z2 (some (.int p)) (some (.ref D)) (some (.int n)) z6 (some (.int at_)) (some (.ref h)) (some (.ref g)) (some (.int w1)) (some (.ref w2)) none none none none none none/\SqL K H a0 (sn.map V.int)/\sn.length<=63/\MW CG H gh a b D h g w2 ns tv ts p n at_ x m w1 c/\∀H',Dn.rt (.bl true) H'
def CsAt(H:Hp)(p:Int)(N:Nat)(vs:List V):Prop:=∀v∈vs,∃(u:Addr)(cs:List Int),v=.ref u/\H u=some (.tup (cs.map V.int))/\cs.length=N/\bV cs p
theorem CsAt.mono{H H':Hp}{p:Int}{N:Nat}{vs:List V}(h:CsAt H p N vs)(k:cx H H'):CsAt H' p N vs:=fun v hv=>by
 obtain⟨u,cs,e,hu,r⟩:=h v hv;exact⟨u,cs,e,k _ _ hu,r⟩
def tD85(CG:Addr):TS:=fun Dn σ H=>∃(gh a b D h g w2 L:Addr)(vs:List V)(z0 z2 z6 z13:Option V)(ns:List Str)(tv:List V)(ts:List Tr)(p:Int)(n at_:Nat)(x:Str)(m w1:Int)(c:List Int),σ=oC z0 (some (.ref gh)) z2 (some (.int p)) (some (.ref D)) (some (.int n)) z6 (some (.int at_)) (some (.ref h)) (some (.ref g)) (some (.int w1)) (some (.ref w2)) (some (.ref L)) z13 none none none none/\MW CG H gh a b D h g w2 ns tv ts p n at_ x m w1 c/\H L=some (.lst vs)/\CsAt H p (bn ns ts) vs/\∀H',Dn.rt (.bl true) H'
def tE85(CG:Addr):TS:=fun Dn σ H=>∃(gh a b D h g w2:Addr)(z0 z2 z4 z5 z6 z7 z12 z13 z14 z15:Option V)(ns:List Str)(tv:List V)(ts:List Tr)(p:Int)(n at_:Nat)(x:Str)(m w1:Int)(c:List Int),σ=oC z0 (some (.ref gh)) z2 (some (.int p)) z4 z5 z6 z7 (some (.ref h)) (some (.ref g)) (some (.int w1)) (some (.ref w2)) z12 z13 z14 z15 none none/\MW CG H gh a b D h g w2 ns tv ts p n at_ x m w1 c/\∀H',Dn.rt (.bl true) H'
def tN85(K:W.Frag):TS:=fun Dn σ H=>∃(a0 gh a b f D:Addr)(sn:List Int)(ns:List Str)(tv:List V)(ts:List Tr)(p:Int)(n:Nat),σ=oC (some (.ref a0)) (some (.ref gh)) (some (.ref f)) (some (.int p)) (some (.ref D)) (some (.int n)) none none none none none none none none none none none none/\Ks K H f a0 sn/\sn.length<=63/\FeedAt H f/\GP H gh a b ns tv ts p/\H D=some (.lst ((ns.map (bj ts)).map V.int))/\D≠f/\n<=ns.length/\(n:Int)<p/\(n=0->(ns.length:Int)<p)/\∀H',Dn.rt (.bl true) H'
theorem wO_pt{ns:List Str}{ts:List Tr}{p:Int}{n a:Nat}{c:List Int}(k:GmK ns ts p)(na:NA ns ts p n a)(h:(wO ns ts p n a).2=some c):bV c p:=by
 have p2:=k.p2;have z:bV (List.replicate (bn ns ts) 0) p:=fun x hx=>by rw[List.eq_of_mem_replicate hx];omega
 have st:∀(j:Nat)(y:Int),0<=y->y<p->bV ((List.replicate (bn ns ts) 0).set j y) p:=fun j y y0 y1 x hx=>by
  rcases List.mem_or_eq_of_mem_set hx with h | h
  . exact z x h
  . omega
 unfold wO at h
 by_cases n0:n=0
 . rw [zB0 n0]at h
   split at h
   . cases h;exact st 0 1 (by decide) (by omega)
   . cases h;exact z
 . rw [zA0 n0]at h
   split at h
   . cases h;exact z
   . cases h;have al:=na.al (by omega);have nn:=na.nn;have hx:ns.getD (n-1) ""∈ns:=by
      rw[zS0,zK0 (by omega)];exact qL0 _
     have:=k.deg _ hx
     exact st _ _ (by omega) (by omega)
theorem bJ:FnScope ["_law_script","_law_game_here","_law_feed_here","_law_p","_law_degrees_here","_law_number","_law_many","_law_at","_law_helper_here","_law_made","_law_let","_law_first","_law_some","_law_k","_law_coins","_law_found","_law_rows","_law_r"] ["_law_script"] (ag lC):=⟨rfl,rfl,rfl,by decide +kernel,rfl,by decide +kernel,by decide +kernel⟩
theorem EF {f fI:Addr} {fd fdI:FuncData} (F:Fun K "law" "law" lC f fd) (B:Bl mg) (TG:GTxt K mg CG) (MG:Mk K CG fI) (GI:FnOk P w K mg base CX0 14 fI fdI ["self","switches","trees","field"] (wL CG)) (bI:Binds K fdI ["self","switches","trees","field"] [])
 (iX:Cal P w K mg base 1 "_law_feed" ["_law_script","_law_k"] (zZ K)) (aQ:Cal P w K mg base 1 "_law_take" ["_law_feed_here","_law_many"] kO) (gQ:Cal P w K mg base 2 "_law_names" ["_law_feed_here","_law_many"] pq) (v5:Cal P w K mg base 14 "_law_game" ["_law_feed_here","_law_most","_law_room"] zY)
 (iq:Cal P w K mg base 13 "_law_need" ["_law_names_here","_law_trees"] uT) (fh:Cal P w K mg base 1 "_law_is_prime" ["_law_number"] lr) (lA:Cal P w K mg base 13 "_law_degrees" ["_law_game_here"] zU) (n8:Cal P w K mg base 1 "_law_helper" ["_law_names_here","_law_number","_law_at","_law_more"] DM)
 (E3:Cal P w K mg base 1 "_law_end" ["_law_game_here","_law_degrees_here","_law_number","_law_at","_law_coins"] wN) (oa:Cal P w K mg base 1 "_law_weight" ["_law_game_here","_law_degrees_here","_law_number","_law_at"] zN)
 (v6:Cal P w K mg base 27 "talked" ["game","helper","coins"] (sZ C CM CG)) (o9:Cal P w K mg base 36 "weighed" ["game","helper"] (qM C CM CG)):FnOk P w K mg base CX0 37 f fd ["_law_script"] (wK K):=by
 refine F.ok bJ (fun vs H Q E h=>?_) (fun cdv A outer s H vs Q E hr h=>?_)
 . obtain⟨a,ns,rfl,_⟩:=h;rfl
 obtain⟨a0,ns0,rfl,hS,h63,q⟩:=h;have hr15:Room (14+1) _:=hr.mono (by decide);have s0:0<=sizeLine:=by decide
 have s1:1<=sizeLine:=by decide
 have s2:2<=sizeLine:=by decide
 have s3:3<=sizeLine:=by decide
 refine ⟨_,PSW.out (aV (cg (i:=1) bJ.nd rfl (Or.inl rfl) ⟨au v5 hr (by decide) rfl (aa (au iX hr (by decide) rfl (aa (pv 0) (aa af ae))) (aa af (aa af ae)))⟩)
  (aV (cg (i:=2) bJ.nd rfl (Or.inr rfl) ⟨au iX hr (by decide) rfl (aa (pv 0) (aa af ae))⟩)
  (aV (cg (i:=3) bJ.nd rfl (Or.inr rfl) ⟨aP ix_tup (pv 1) af (fun _ _=>rfl)⟩)
  (aV (jk (am ic (au aQ hr (by decide) rfl (aa (pv 2) (aa af ae))) af (aq _)) (aV (cg (i:=3) bJ.nd rfl (Or.inr rfl) ⟨aj aU (au iq hr (by decide) rfl (aa (aP ix_tup (pv 1) af (fun _ _=>rfl)) (aa (aP ix_tup (pv 1) af (fun _ _=>rfl)) ae))) af⟩)
   (aV ⟨ia PassesOwn.never (nq (kR (au fh hr (by decide) rfl (aa (pv 3) ae)))) (ah (ao (i:=3) bJ.nd rfl (Or.inr rfl) (aj aU (pv 3) af)))⟩
   (dG (cg (i:=1) bJ.nd rfl (Or.inl rfl) (cG (aM ⟨aP ix_tup (pv 1) af (fun _ _=>rfl)⟩ (aM ⟨aP ix_tup (pv 1) af (fun _ _=>rfl)⟩ (aM ⟨pv 3⟩ cH)))))))) gC)
  (mI (t':=tA85 K) (aV (cg (i:=4) bJ.nd rfl (Or.inl rfl) ⟨au lA hr (by decide) rfl (aa (pv 1) ae)⟩)
  (aV (cg (i:=5) bJ.nd rfl (Or.inl rfl) ⟨au aQ hr (by decide) rfl (aa (pv 2) (aa (aj aU (aJ aE rfl B.len PySem.boot_len (aa (pv 4) ae)) af) ae))⟩)
  (aV (jk (am pV (pv 3) (aJ aE rfl B.len PySem.boot_len (aa (pv 4) ae)) (aq _)) (dG (cg (i:=5) bJ.nd rfl (Or.inl rfl) ⟨aj aU af (au aQ hr (by decide) rfl (aa (pv 2) (aa (aj bm (pv 3) af) ae)))⟩)) gC)
  (mI (t':=tN85 K) (aV (cg (i:=6) bJ.nd rfl (Or.inl rfl) ⟨aP ix_list (aj kX (cw (aa (aJ aE rfl B.len PySem.boot_len (aa (aP ix_tup (pv 1) af (fun _ _=>rfl)) ae)) ae)) (dB (N:=[]) (ix:=[]) (cl:=[]) rfl
   CompScope.closed rfl
   (iu (pv 4)) (fun _ _ _=>dF (aj aU (pv 0) af)))) (pv 5) (fun _ _=>rfl)⟩)
  (aV (cg (i:=7) bJ.nd rfl (Or.inl rfl) ⟨au aQ hr (by decide) rfl (aa (pv 2) (aa (pv 6) ae))⟩)
  (aV (jk (PW.pt (jz (am ic (pv 6) af (aq _)) (kq (am ic (au aQ hr (by decide) rfl (aa (pv 2) (aa af ae))) af (aq _))))) (dG (cg (i:=7) bJ.nd rfl (Or.inl rfl) ⟨aj aU af (au aQ hr (by decide) rfl (aa (pv 2) (aa (aj bm (pv 6) af) ae)))⟩)) gC)
  (mI (t':=tB85 K) (aV (cg (i:=8) bJ.nd rfl (Or.inl rfl) ⟨au n8 hr (by decide) rfl (aa (au gQ hr (by decide) rfl (aa (au iX hr (by decide) rfl (aa (pv 0) (aa af ae))) (aa af ae))) (aa (pv 5) (aa (pv 7) (aa (aj aU af (au aQ hr (by decide) rfl (aa (pv 2) (aa (aj bm (pv 3) af) ae)))) ae))))⟩)
  (aV (cg (i:=9) bJ.nd rfl (Or.inl rfl) ⟨iw MG GI hr15 rfl TG.mgC bI .nil bQ (aa (aP ix_tup (pv 1) af (fun _ _=>rfl)) (aa (aP ix_tup (pv 1) af (fun _ _=>rfl)) (aa (pv 3) ae)))⟩)
  (aV ⟨pJ (au oa hr (by decide) rfl (aa (pv 1) (aa (pv 4) (aa (pv 5) (aa (pv 7) ae))))) (AL rfl (lK (bX (i:=10) bJ.nd rfl (Or.inl rfl)) (lK (bX (i:=11) bJ.nd rfl (Or.inl rfl)) xa)))⟩
  (mI (t':=tC85 K CG) (aV (cg (i:=2) bJ.nd rfl (Or.inr rfl) ⟨au iX hr (by decide) rfl (aa (pv 0) (aa af ae))⟩)
  (aV (cg (i:=12) bJ.nd rfl (Or.inl rfl) ⟨cw (aa (pv 11) (aa (bq ba rfl B.tuple bi (aa (aj vp (cw (aa af ae)) (aJ aE rfl B.len PySem.boot_len (aa (pv 11) ae))) ae)) ae))⟩)
  (aV ⟨da PassesOwn.never rfl (cF rfl B.range (aa af ae)) (bX (i:=13) bJ.nd rfl (Or.inl rfl)) (ah (bL (iR PySem.F.plainAttrs_list PySem.F.slot_list_append PySem.F.type_list_append dw (pv 12) (aa (bq ba rfl B.tuple bi (aa (dB (N:=["_law_p","_law_feed_here"]) (ix:=[3,2]) rfl
   CompScope.two rfl
   (gq (pv 11)) (fun _ _ _=>dF (aP (uo K) (cw (aa (au aQ hr (by decide) rfl (aa (pv 2) (aa (pv 1) ae))) (aa (au aQ hr (by decide) rfl (aa (pv 2) (aa (aJ (zp rfl) rfl B.min PyProof.Rows.boot_min (aa (pv 1) (aa af ae))) ae))) ae))) (au aQ hr (by decide) rfl (aa (pv 2) (aa af ae))) (fun _ _=>rfl)))) ae)) ae))))⟩
  (mI (t':=tD85 CG) (aV ⟨da PassesOwn.never rfl (iu (pv 12)) (bX (i:=14) bJ.nd rfl (Or.inl rfl)) (PSW.out (aV (cg (i:=15) bJ.nd rfl (Or.inl rfl) ⟨aP ix_tup (au v6 hr (by decide) rfl (aa (pv 9) (aa (pv 8) (aa (bq mq rfl B.list lg (aa (pv 14) ae)) ae)))) af (fun _ _=>rfl)⟩)
   (dG (jk (PW.pt (og (am (EE hr.units) (pv 15) (au E3 hr (by decide) rfl (aa (pv 1) (aa (pv 4) (aa (pv 5) (aa (pv 7) (aa (pv 14) ae)))))) (aq _)) (kQ (nq (kR (aJ gB rfl B.isinstance PyProof.Rows.boot_isinstance (aa (pv 15) (aa (lL (v:=V.ty "tuple") rfl B.tuple bi rfl) ae)))))))) (dG (fK ⟨lN⟩)) gC))))⟩
  (mI (t':=tE85 CG) (aV (cg (i:=16) bJ.nd rfl (Or.inl rfl) ⟨af⟩)
  (aV ⟨da PassesOwn.never rfl (gq (pv 11)) (bX (i:=17) bJ.nd rfl (Or.inl rfl)) (ah (ao (i:=16) bJ.nd rfl (Or.inl rfl) (aj cq (pv 16) (pv 3))))⟩
  (aV (jk (am ic (pv 16) af (aq _)) (dG (fK ⟨lN⟩)) gC)
  (aV (cg (i:=15) bJ.nd rfl (Or.inl rfl) ⟨au o9 hr (by decide) rfl (aa (pv 9) (aa (pv 8) ae))⟩)
  (dG (fK ⟨pS (jg (vq hr.units) (pv 15) (bc (aa (pv 10) (aa (pv 11) ae))) (aq _)) (pS (aJ gB rfl B.isinstance PyProof.Rows.boot_isinstance (aa (aP ix_tup (pv 15) af (fun _ _=>rfl)) (aa (lL (v:=V.ty "int") rfl B.int kD rfl) ae))) (sj (vk (aJ gB rfl B.isinstance PyProof.Rows.boot_isinstance (aa (aP ix_tup (pv 15) af (fun _ _=>rfl)) (aa (lL (v:=V.ty "bool") rfl B.bool qr rfl) ae))))))⟩)))))) ?cE)) ?cD)))) ?cC)))) ?cB)))) ?cN)))) ?cA))))),?_⟩
 case cE=>
  rintro Dn σ H ⟨gh,a,b,D,h,g,w2,z0,z2,z4,z5,z6,z7,z12,z13,z14,z15,ns,tv,ts,p,n,at_,x,m,w1,c,rfl,M,q⟩;have k:=M.gp.k;have n3:=M.gp.n3;have p2:=k.p2;have p9:=k.p9;refine⟨_,rfl,w2,rfl,⟨_,zC0 M.hw⟩,lZ (K:=K) (xs:=c.map V.int) (fun i σ H'=>∃z17,σ=oC z0 (some (.ref gh)) z2 (some (.int p)) z4 z5 z6 z7 (some (.ref h)) (some (.ref g)) (some (.int w1)) (some (.ref w2)) z12 z13 z14 z15 (some (.int (p ^ i))) z17/\H'=H) ⟨none,by rw[Int.pow_zero];rfl,rfl⟩ (fun i σ H' _ hst=>by obtain⟨_,_,e⟩:=hst;subst e;exact zC0 M.hw) ?_ ?_⟩
  . rintro i v σ H' hv ⟨z17,rfl,rfl⟩;refine⟨_,rfl,_,rfl,_,_,rfl,rfl,.inr ⟨by omega,by omega⟩,?_⟩;exact⟨_,by rw[Int.pow_succ];rfl,rfl⟩
  rintro σ H' ⟨z17,rfl,rfl⟩;rw[zE0,M.cl];refine⟨_,rfl,_,_,rfl,rfl,_,rfl,?_⟩
  by_cases c60:p ^ bn ns ts>60
  . exact bh c60 (q _)
  . refine aF c60 ?_;obtain⟨rv,hrv,RW⟩:=M.hh;refine⟨_,rfl,_,rfl,g,h,rv,hE x at_ n m,ns,ts,p,rfl,M.gm,k,by omega,hrv,RW,BF,by omega,fun o H1 S1 W1=>?_⟩;rw[yw k (by omega) M.gp.nd (AW k (by omega) M.gp.nd M.gp.d9 M.na.np (by omega) M.na.n0 M.na.al0 M.na.al) M.m0 M.na.nn M.na.al0 M.na.al,M.e1]at W1;obtain⟨v1,h1,o1⟩:=W1;refine⟨_,rfl,_,rfl,_,rfl,s2,fun o2 k2=>?_⟩;have I2:=zD0 k2 (.tup [.int w1,.ref w2]);have g2:upd H1 o2 (.tup [.int w1,.ref w2]) o2=some (.tup [.int w1,.ref w2]):=ai;generalize upd H1 o2 (.tup [.int w1,.ref w2])=H2 at I2 g2;have hw2:=(S1.trans I2) _ _ M.hw;refine⟨wtD (w1,some c),wtD (w1,some c),.tup (zC0 (I2 _ _ h1)) (.cons (.int _) (.cons (o1.mono (aG I2)).rep .nil)),.tup (zC0 g2) (.cons (.int _) (.cons (.tup (zC0 hw2) (lF _)) .nil)),mF _,mF _,true,(by rw[Ef]),ji ?_⟩;refine⟨_,rfl,o,_,0,.int w1,rfl,rfl,zC0 (I2 _ _ h1),rfl,_,_,"int",true,rfl,TyOf.int _,qf _ _,true,rfl,ji ?_⟩;exact⟨_,rfl,o,_,0,.int w1,rfl,rfl,zC0 (I2 _ _ h1),rfl,_,_,"bool",false,rfl,TyOf.int _,lT _,false,rfl,q _⟩
 case cD=>
  rintro Dn σ H ⟨gh,a,b,D,h,g,w2,L,vs,z0,z2,z6,z13,ns,tv,ts,p,n,at_,x,m,w1,c,rfl,M,hL,CS,q⟩;have k:=M.gp.k;have n3:=M.gp.n3;refine⟨_,rfl,L,rfl,⟨_,zH0 hL⟩,jI (K:=K) (xs:=vs) (fun i σ H'=>∃z14 z15,σ=oC z0 (some (.ref gh)) z2 (some (.int p)) (some (.ref D)) (some (.int n)) z6 (some (.int at_)) (some (.ref h)) (some (.ref g)) (some (.int w1)) (some (.ref w2)) (some (.ref L)) z13 z14 z15 none none/\Same H H') ⟨_,_,rfl,Same.refl _⟩ (fun i σ H' _ hst=>by obtain⟨_,_,_,e⟩:=hst;exact zH0 (e _ _ hL)) ?_ ?_⟩
  . rintro i v σ H1 hv ⟨z14,z15,rfl,S1⟩;obtain⟨u,cs,rfl,hu,cl,cp⟩:=CS v (qG0 hv);have M1:=M.same S1;have hu1:=S1 _ _ hu;obtain⟨rv,hrv,RW⟩:=M1.hh;refine⟨_,rfl,_,rfl,_,rfl,u,_,rfl,.inr (zC0 hu1),fun l kl=>?_⟩;have Il:=zD0 kl (.lst (cs.map V.int));have gl:upd H1 l (.lst (cs.map V.int)) l=some (.lst (cs.map V.int)):=ai;generalize upd H1 l (.lst (cs.map V.int))=H2 at Il gl;have M2:=M1.same Il;have cm:=rc ns ts k.t1;refine⟨g,h,l,rv,hE x at_ n m,ns,ts,p,cs,rfl,M2.gm,k,by omega,Il _ _ hrv,RW.mono (aG Il),BF,.inl gl,cp,(by rw[cl,cm];exact zG0 _),(by have:=iV (ts:=ts) (show ns.length<=6 by omega);omega),fun t H3 S3 T3=>?_⟩;have M3:=M2.same S3;obtain⟨t1,t2,tvs,e1,e2,e3,e4⟩:=T3.ex;rw[xg k (by omega) M.gp.nd (AW k (by omega) M.gp.nd M.gp.d9 M.na.np (by have:=k.p2;omega) M.na.n0 M.na.al0 M.na.al) M.m0 M.na.nn M.na.al0 M.na.al cp]at e4;refine⟨t,_,1,.ref t2,rfl,rfl,zC0 e1,rfl,?_⟩;refine⟨_,rfl,_,rfl,_,rfl,_,rfl,_,rfl,_,rfl,gh,a,b,D,u,ns,tv,ts,p,n,at_,cs,rfl,M3.gp.G,M3.hD,(S3 _ _ (Il _ _ hu1)),cl,k.t1,M.na.nn,by omega,fun o H4 e5 S4=>?_⟩;refine⟨_,_,BM (S4 _ _ e4),BM e5,kZ ..,kZ ..,_,rfl,?_⟩;rw[Dv];refine gJ ?_;refine⟨_,rfl,_,_,"tuple",true,rfl,TyOf.tup (S4 _ _ e4),qf _ _,_,rfl,gJ ?_⟩;exact⟨_,_,rfl,S1.trans (Il.trans (S3.trans S4))⟩
  rintro σ H1 ⟨z14,z15,rfl,S1⟩;exact⟨gh,a,b,D,h,g,w2,_,_,_,_,_,_,_,_,_,_,ns,tv,ts,p,n,at_,x,m,w1,c,rfl,M.same S1,q⟩
 case cC =>
  rintro Dn σ H ⟨a0,gh,a,b,D,h,g,w2,z2,z6,sn,ns,tv,ts,p,n,at_,x,m,w1,c,rfl,hS,h63,M,q⟩;have k:=M.gp.k;have n3:=M.gp.n3;have p2:=k.p2;have p9:=k.p9;have c7:=iV (ts:=ts) (show ns.length<=6 by omega);have cl:=M.cl;refine⟨_,rfl,a0,sn,4,rfl,hS,h63,by decide,by decide,fun f H1 f0 S1 F1=>?_⟩;have M1:=M.same S1;refine⟨_,rfl,s1,fun l1 k1=>?_⟩;have I1:=zD0 k1 (.lst [V.int 0]);have e1:upd H1 l1 (.lst [V.int 0]) l1=some (.lst [V.int 0]):=ai;generalize upd H1 l1 (.lst [V.int 0])=H2 at I1 e1;refine⟨_,rfl,w2,_,rfl,.inr (zC0 (I1 _ _ M1.hw)),l1,_,_,rfl,rfl,e1,by rw[zE0];omega,by rw[zE0];omega,dX (by rw[zE0];show 1*(c.length:Int).toNat<=1000;omega),fun l2 k2=>?_⟩;rw[tN (k:=((c.map V.int).length:Int)) (N:=bn ns ts) (by rw[zE0,cl])];have I2:=zD0 k2 (.lst ((List.replicate (bn ns ts) (0:Int)).map V.int));have e2:upd H2 l2 (.lst ((List.replicate (bn ns ts) (0:Int)).map V.int)) l2=some (.lst ((List.replicate (bn ns ts) (0:Int)).map V.int)):=ai;generalize upd H2 l2 (.lst ((List.replicate (bn ns ts) (0:Int)).map V.int))=H3 at I2 e2;refine⟨l2,_,rfl,.inl ⟨zH0 e2,fun w3 k3=>⟨s2,fun L kL=>?_⟩⟩⟩;have I3:=zD0 k3 (.tup ((List.replicate (bn ns ts) (0:Int)).map V.int));have e3:upd H3 w3 (.tup ((List.replicate (bn ns ts) (0:Int)).map V.int)) w3=some (.tup ((List.replicate (bn ns ts) (0:Int)).map V.int)):=ai;generalize upd H3 w3 (.tup ((List.replicate (bn ns ts) (0:Int)).map V.int))=H4 at I3 e3 kL;have I4:=zD0 kL (.lst [V.ref w2,.ref w3]);have e4:upd H4 L (.lst [V.ref w2,.ref w3]) L=some (.lst [V.ref w2,.ref w3]):=ai;have J14:=I1.trans (I2.trans I3);have L1:H1 L=none:=by
   cases e:H1 L with
   | none=>rfl
   | some o=>rw[J14 _ _ e]at kL;cases kL
  have Lf:L≠f:=F1.ne L1;generalize upd H4 L (.lst [V.ref w2,.ref w3])=H5 at I4 e4;have J5:=J14.trans I4;have M5:=M1.same J5;have F5:=F1.same J5;have C5:CsAt H5 p (bn ns ts) [.ref w2,.ref w3]:=fun v hv=>by
   rcases qD0 hv with rfl | hv
   . exact⟨w2,c,rfl,M5.hw,cl,M.cp⟩
   . rw[zT0 hv];exact⟨w3,_,rfl,I4 _ _ e3,List.length_replicate ..,fun x hx=>by rw[List.eq_of_mem_replicate hx];omega⟩
  have H0L:H L=none:=by
   cases e:H L with
   | none=>rfl
   | some o=>rw[S1 _ _ e]at L1;cases L1
  refine⟨_,rfl,by decide,by decide,dU (fun i σ H'=>∃(z13:Option V)(vs:List V),σ=oC (some (.ref a0)) (some (.ref gh)) (some (.ref f)) (some (.int p)) (some (.ref D)) (some (.int n)) z6 (some (.int at_)) (some (.ref h)) (some (.ref g)) (some (.int w1)) (some (.ref w2)) (some (.ref L)) z13 none none none none/\H' L=some (.lst vs)/\vs.length<=2+i/\CsAt H' p (bn ns ts) vs/\FeedAt H' f/\Same H H') ⟨_,_,rfl,e4,zG0 _,C5,F5,S1.trans J5⟩ ?_ ?_⟩
  . rintro i σ H6 hi ⟨z13,vs,rfl,hL6,vl,C6,F6,T6⟩;have hi':i<3:=hi;have M6:=M.same T6;refine⟨_,rfl,.inl ⟨rfl,_,zH0 hL6⟩,_,rfl,w2,rfl,⟨_,zC0 M6.hw⟩,fun O hO=>?_⟩;have Of:O≠f:=F6.ne hO;have OL:L≠O:=aO hL6 hO;refine eY (K:=K) (xs:=c.map V.int) (fun u H'=>∃cs:List Int,H' O=some (.lst (cs.map V.int))/\cs.length=u/\bV cs p/\FeedAt H' f/\SameBut f H6 H') ⟨[],by rw[ai];rfl,rfl,(fun x hx=>by cases hx),F6.same (zD0 hO _),zJ0 (zD0 hO _)⟩ (fun u H' _ hst=>by obtain⟨_,_,_,_,_,s'⟩:=hst;exact zC0 (cM F6 s' _ _ M6.hw)) ?_ ?_
    . rintro u v H7 hv ⟨cs,hO7,cl7,cp7,F7,S7⟩;have hu:=(zY0 hv).1;refine⟨_,rfl,_,rfl,f,p,rfl,F7,by omega,by omega,fun d1 H8 d10 d1p F8 S8=>?_⟩;refine⟨_,rfl,_,rfl,_,_,rfl,f,_,rfl,F8,by split <;> omega,by split <;> omega,fun d2 H9 d20 d2p F9 S9=>?_⟩;refine⟨s2,fun l kl=>?_⟩;have Il:=zD0 kl (.lst [V.int d1,.int d2]);have el:upd H9 l (.lst [V.int d1,.int d2]) l=some (.lst [V.int d1,.int d2]):=ai;have lf:l≠f:=F9.ne kl;have FA:=F9.same Il;generalize upd H9 l (.lst [V.int d1,.int d2])=HA at Il el FA;refine⟨_,rfl,f,2,rfl,FA,by decide,by decide,fun j HB j0 j2 FB SB=>?_⟩;have j2':j<2:=j2;have d2':d2<p:=by
       have:=d2p
       split at this <;> omega
      obtain ⟨e,he,ee0,eep⟩:∃e:Int,atI [V.int d1,V.int d2] j=some (.int e)/\0<=e/\e<p:=by
       rcases(show j=0∨j=1 by omega)with rfl | rfl
       . exact⟨d1,rfl,d10,d1p⟩
       . exact⟨d2,rfl,d20,d2'⟩
      have S7B:SameBut f H7 HB:=S8.trans (S9.trans ((zJ0 Il).trans SB));have hOB:=S7B _ _ Of hO7;refine⟨l,_,_,_,rfl,rfl,zH0 (SB _ _ lf el),he,_,hOB,?_,Nx.of hu ⟨cs++[e],?_,?_,?_,iT FB Of,?_⟩⟩
      . rw[zE0]at hu ⊢;exact aW (by omega)
      . rw[ai,zL0];rfl
      . rw[zM0,cl7];rfl
      . intro y hy;rcases qJ0 hy with hy | hy
        . exact cp7 y hy
        . rw[zT0 hy];exact⟨ee0,eep⟩
      . intro b o hb eb;rw[ay (aO eb hO)];exact S7B b o hb (S7 b o hb eb)
    . rintro H7 ⟨cs,hO7,cl7,cp7,F7,S7⟩;rw[zE0,cl]at cl7;refine⟨O,_,rfl,.inl ⟨zH0 hO7,fun w4 k4=>?_⟩⟩;have I8:=zD0 k4 (.tup (cs.map V.int));have e8:upd H7 w4 (.tup (cs.map V.int)) w4=some (.tup (cs.map V.int)):=ai;generalize upd H7 w4 (.tup (cs.map V.int))=H8 at I8 e8;have hL8:=I8 _ _ (S7 _ _ Lf hL6);have k8:cx H6 H8:=fun b o e=>I8 _ _ (cM F6 S7 _ _ e)
      have F8:=F7.same I8;refine⟨L,_,_,rfl,rfl,hL8,aW (by omega),?_⟩;have kU:cx H8 (upd H8 L (.lst (vs++[.ref w4]))):=gs hL8;refine⟨_,vs++[.ref w4],rfl,ai,by rw[zM0,qE0];omega,fun v hv=>?_,iT F8 Lf,fun b o e=>?_⟩
      . rcases qJ0 hv with hv | hv
        . exact(C6.mono (fun b o e=>kU _ _ (k8 _ _ e))) v hv
        . rw[zT0 hv];exact⟨w4,cs,rfl,kU _ _ e8,cl7,cp7⟩
      . rw[ay (aO e H0L)];exact I8 _ _ (S7 _ _ (aO e f0) (T6 _ _ e))
  rintro σ H6 ⟨z13,vs,rfl,hL6,vl,C6,F6,T6⟩;exact⟨gh,a,b,D,h,g,w2,L,vs,_,_,_,_,ns,tv,ts,p,n,at_,x,m,w1,c,rfl,M.same T6,hL6,C6,q⟩
 case cB=>
  rintro Dn σ H ⟨a0,gh,a,b,f,D,z6,sn,ns,tv,ts,p,n,at_,rfl,hS,h63,F0,gp,hD,Df,na,q⟩;have k:=gp.k;have n3:=gp.n3;have p2:=k.p2;have p9:=k.p9;refine⟨_,rfl,a0,sn,3,rfl,hS H (zJ0 (Same.refl _)),h63,by decide,by decide,fun f3 H1 f30 S1 F1=>?_⟩;refine⟨f3,1,rfl,F1,by decide,by decide,fun N xs H2 N0 nf hN xlen xok xnd F2 S2=>?_⟩;obtain⟨x,rfl⟩:∃x,xs=[x]:=by
   have:xs.length=1:=xlen
   match xs,this with
   | [y],_=>exact⟨_,rfl⟩
  have T2:Same H H2:=Same.but S1 f30 S2;have Nf:N≠f:=(F0.same S1).ne N0;have F02:=F0.same T2;refine⟨_,rfl,_,rfl,_,rfl,_,rfl,_,_,rfl,rfl,f,_,rfl,F02,by omega,by omega,fun d H3 d0 dp F3 S3=>⟨_,_,rfl,rfl,N,x,n,at_,1+d,rfl,S3 _ _ Nf hN,fun h H4 Hh S4=>?_⟩⟩;have B4:SameBut f H H4:=(zJ0 T2).trans (S3.trans (zJ0 S4));have gp4:=gp.mono (cM F0 B4);have G:=gp4.G;have hD4:=B4 _ _ Df hD;refine⟨_,rfl,gh,_,0,_,rfl,rfl,zC0 G.hg,rfl,_,rfl,gh,_,1,_,rfl,rfl,zC0 G.hg,rfl,_,rfl,fun g dg hg0 hdg0 ng=>?_⟩;have K2:Same H4 (upd (upd H4 dg (.own g)) g (.ins CG dg [])):=fun a o e=>by
   rw[ay (aO e hg0),ay (aO e hdg0)];exact e
  refine⟨g,dg,a,b,ns,tv,ts,p,rfl,ai,K2 _ _ G.ha,gp.nd,by omega,K2 _ _ G.hb,G.tr.mono (aG K2),k.t1,k.t10,k.tok,k.pr,p2,p9,k.tp,k.tc,fun gd H5 gd0 GA hgd S5=>⟨rfl,?_⟩⟩;have T5:Same H4 H5:=Same.but K2 hg0 S5;have GM5:Gm CG H5 g ns ts p:=⟨a,b,gd,tv,GA,T5 _ _ G.ha,T5 _ _ G.hb,G.tr.mono (aG T5),hgd⟩
  clear K2 S5 GA;have gp5:=gp4.mono (aG T5);refine⟨_,rfl,_,rfl,_,rfl,_,rfl,gh,a,b,D,ns,tv,ts,p,n,at_,rfl,gp5.G,k,T5 _ _ hD4,na.nn,by omega,fun o w2 c H6 e1 e2 e3 e4 S6=>?_⟩;refine⟨o,_,rfl,zC0 e1,rfl,_,_,rfl,_,_,rfl,rfl,?_⟩;have dp':d<p-1:=dp;refine⟨a0,gh,a,b,D,h,g,w2,_,_,sn,ns,tv,ts,p,n,at_,x,1+d,_,c,rfl,hS H6 (B4.trans (zJ0 (T5.trans S6))),h63,⟨gp5.mono (aG S6),S6 _ _ (T5 _ _ hD4),na,(Hh.same (T5.trans S6)),GM5.same S6,(fun z=>?_),(by rw[←e2]),e3,e4,wO_pt k na e2⟩,q⟩
  have:=Int.le_of_dvd (by omega) z
  omega
 case cN=>
  rintro Dn σ H ⟨a0,gh,a,b,f,D,sn,ns,tv,ts,p,n,rfl,hS,h63,F0,gp,hD,Df,nn,np,n0,q⟩;have k:=gp.k;have n3:=gp.n3;have t10:=k.t10;have vl:tv.length=ts.length:=gp.G.tr.length;refine⟨_,rfl,gh,_,1,_,rfl,rfl,zC0 gp.G.hg,rfl,b,_,rfl,.inr (zC0 gp.G.hb),s1,fun l1 k1=>?_⟩;have I1:=zD0 k1 (.lst [V.int (tv.length:Int)]);have e1:upd H l1 (.lst [V.int (tv.length:Int)]) l1=some (.lst [V.int (tv.length:Int)]):=ai;generalize upd H l1 (.lst [V.int (tv.length:Int)])=H1 at I1 e1;refine⟨_,rfl,D,rfl,⟨_,zH0 (I1 _ _ hD)⟩,fun O hO=>?_⟩;refine kC (K:=K) (xs:=(ns.map (bj ts)).map V.int) (fun u H'=>H' O=some (.lst (((ns.map (bj ts)).take u).map fun d=>V.int (d+1)))/\Same H1 H') ⟨by rw[ai];rfl,zD0 hO _⟩ (fun u H' _ h=>zH0 (h.2 _ _ (I1 _ _ hD))) ?_ ?_
  . rintro u v H2 hv ⟨hO2,S2⟩;have hu:=(zY0 hv).1;rw[zR0]at hv;obtain⟨d,hd,rfl⟩:=qV0 hv;refine⟨_,rfl,_,_,rfl,rfl,_,hO2,?_,Nx.of hu ⟨?_,fun c o e=>?_⟩⟩
    . rw[zE0,qO0,zE0];exact aW (by omega)
    . rw[ai,qN0,hd,zL0];rfl
    . rw[ay (aO e hO)];exact S2 _ _ e
  rintro H2 ⟨hO2,S2⟩;rw[zE0,qM0]at hO2;refine⟨l1,O,_,_,rfl,rfl,S2 _ _ e1,hO2,dX (by rw[zE0,zE0];show 1+ns.length<=1000;omega),fun l2 k2=>?_⟩;have I3:=zD0 k2 (.lst ([V.int (tv.length:Int)]++(ns.map (bj ts)).map fun d=>V.int (d+1)));have e3:upd H2 l2 (.lst ([V.int (tv.length:Int)]++(ns.map (bj ts)).map fun d=>V.int (d+1))) l2=some (.lst ([V.int (tv.length:Int)]++(ns.map (bj ts)).map fun d=>V.int (d+1))):=ai;generalize upd H2 l2 (.lst ([V.int (tv.length:Int)]++(ns.map (bj ts)).map fun d=>V.int (d+1)))=H3 at I3 e3;have T3:=I1.trans (S2.trans I3);obtain⟨mv,hat,mv1,mv4,mz,ms⟩:∃mv:Nat,atI ([V.int (tv.length:Int)]++(ns.map (bj ts)).map fun d=>V.int (d+1)) (n:Int)=some (.int (mv:Int))/\1<=mv/\mv<=500/\(n=0->mv=ts.length)/\(1<=n->(mv:Int)=bj ts (ns.getD (n-1) "")+1):=by
   cases n with
   | zero=>exact⟨ts.length,by rw[←vl];exact cL (j:=0) rfl,k.t1,by omega,fun _=>rfl,fun z=>by omega⟩
   | succ j=>
     have d4:=oT k (ns.getD j "");refine⟨(bj ts (ns.getD j "")+1).toNat,cL (j:=j+1) ?_,by omega,by omega,fun z=>by omega,fun _=>by show _=bj ts (ns.getD j "")+1;omega⟩;show((ns.map (bj ts)).map fun d=>V.int (d+1))[j]?=_;rw[zR0,zR0,zK0 (by omega),show((bj ts (ns.getD j "")+1).toNat:Int)=bj ts (ns.getD j "")+1 by omega,zS0,zK0 (by omega)];rfl
  refine ⟨_,rfl,l2,_,_,_,rfl,rfl,zH0 e3,hat,?_⟩;have F3:=F0.same T3;refine⟨_,rfl,_,rfl,f,_,rfl,F3,by omega,by omega,fun d H4 d0 d1 F4 S4=>?_⟩;have B4:SameBut f H H4:=(zJ0 T3).trans S4;have fin:∀(at_:Nat)(H':Hp),at_<mv->SameBut f H4 H'->FeedAt H' f->tB85 K Dn (oC (some (.ref a0)) (some (.ref gh)) (some (.ref f)) (some (.int p)) (some (.ref D)) (some (.int n)) (some (.int (mv:Int))) (some (.int at_)) none none none none none none none none none none) H':=fun at_ H' ha S' F'=>
   ⟨a0,gh,a,b,f,D,_,sn,ns,tv,ts,p,n,at_,rfl,hS.but (B4.trans S'),h63,F',gp.mono (cM F0 (B4.trans S')),(B4.trans S') _ _ Df hD,Df,⟨nn,np,n0,fun z=>by rw[←mz z];exact ha,fun z=>by have:=ms z;omega⟩,q⟩
  obtain⟨j,rfl⟩:=Int.eq_ofNat_of_zero_le d0;have fj:=fun(H':Hp)=>fin j H' (by have:(j:Int)<(mv:Int):=d1;omega)
  refine⟨_,rfl,_,_,rfl,rfl,_,rfl,lU (fun c=>?_) (fun _=>fj H4 (zJ0 (Same.refl _)) F4)⟩;have c2:(mv:Int)>2:=of_decide_eq_true c;refine⟨_,rfl,f,3,rfl,F4,by decide,by decide,fun e H5 _ _ F5 S5=>⟨_,_,rfl,rfl,_,rfl,lU (fun _=>?_) (fun _=>fj H5 S5 F5)⟩⟩;refine⟨_,rfl,_,rfl,_,_,rfl,rfl,f,_,rfl,F5,by omega,by omega,fun e2 H6 e20 e21 F6 S6=>⟨_,_,rfl,rfl,?_⟩⟩;obtain⟨i,rfl⟩:=Int.eq_ofNat_of_zero_le e20;have r:=fin (2+i) H6 (by have:(i:Int)<(mv:Int)-2:=e21;omega) (S5.trans S6) F6;rw[show((2+i:Nat):Int)=2+(i:Int) by omega]at r;exact r
 case cA=>
  rintro Dn σ H ⟨a0,gh,a,b,f,sn,ns,tv,ts,p,rfl,hS,h63,F0,gp,q⟩;have k:=gp.k;have n3:=gp.n3;have p2:=k.p2;have p9:=k.p9;have dl:((ns.map (bj ts)).map V.int).length=ns.length:=by rw[zE0,zE0]
  refine ⟨_,rfl,gh,a,b,ns,tv,ts,p,rfl,gp.G,gp.k,fun D H1 D0 S1 hD=>?_⟩;have Df:D≠f:=F0.ne D0;have F1:=F0.same S1;refine⟨_,rfl,_,rfl,D,_,rfl,.inl (zH0 hD),_,_,rfl,rfl,f,_,rfl,F1,by omega,by omega,fun d H2 d0 dn F2 S2=>?_⟩;rw[dl]at dn;have B2:SameBut f H H2:=(zJ0 S1).trans S2;have hD2:=S2 _ _ Df hD;have fin:∀(n:Nat)(H':Hp),SameBut f H2 H'->FeedAt H' f->n<=ns.length->(n:Int)<p->(n=0->(ns.length:Int)<p)->tN85 K Dn (oC (some (.ref a0)) (some (.ref gh)) (some (.ref f)) (some (.int p)) (some (.ref D)) (some (.int n)) none none none none none none none none none none none none) H':=fun n H' S' F' e1 e2 e3=>
   ⟨a0,gh,a,b,f,D,sn,ns,tv,ts,p,n,rfl,hS.but (B2.trans S'),h63,F',gp.mono (cM F0 (B2.trans S')),S' _ _ Df hD2,Df,e1,e2,e3,q⟩
  obtain⟨n,rfl⟩:=Int.eq_ofNat_of_zero_le d0;refine⟨_,rfl,_,rfl,D,_,rfl,.inl (zH0 hD2),_,_,rfl,rfl,_,rfl,?_⟩;rw[dl]
  by_cases cp:p<=(ns.length:Int)
  . refine bh cp ?_;refine⟨_,rfl,_,rfl,_,_,rfl,rfl,f,_,rfl,F2,by omega,by omega,fun e H3 e0 ep F3 S3=>⟨_,_,rfl,rfl,?_⟩⟩;obtain⟨j,rfl⟩:=Int.eq_ofNat_of_zero_le e0;have r:=fin (1+j) H3 S3 F3 (by omega) (by omega) (by omega);rw[show((1+j:Nat):Int)=1+(j:Int) by omega]at r;exact r
  . refine aF cp ?_;exact fin n H2 (zJ0 (Same.refl _)) F2 (by omega) (by omega) (by omega)
 refine⟨_,rfl,a0,ns0,1,rfl,hS,h63,by decide,by decide,fun f1 H1 f10 S1 F1=>?_⟩;refine⟨f1,3,9,rfl,F1,by decide,by decide,by decide,by decide,fun gh a b ns tv ts p H2 hdr ha nl snok nd hb TS t1 t4 tok pp p3 p9 tp tc F2 S2=>?_⟩;have T2:Same H H2:=Same.but S1 f10 S2;have t0:ts≠[]:=fun z=>by rw[z]at t1;cases t1
 have tk:∀t∈ts,t.ok ns/\t.wf/\t.depth<=10/\t.size<=400:=fun t ht=>by
  obtain⟨h1,h2,h3⟩:=tok t ht;exact⟨h1,Tr.ok_wf snok t h1,by omega,by omega⟩
 have kk:∀u:Int,Pr u->2<u->u<=999983->(ts.length:Int)<=u->(∀t∈ts,∀x∈ns,(t.names.count x:Int)<u)->GmK ns ts u:=fun u e1 e2 e3 e4 e5=>⟨e1,e2,e3,by omega,t1,by omega,tk,e4,e5⟩
 have d9:∀y∈ns,bj ts y<=60:=fun y hy=>by
  have:=me (x:=y) (p:=61) t0 (fun t ht=>by
   have h1:=t.names_len;have h2:=List.count_le_length (a:=y) (l:=t.names);have h3:=(tok t ht).2.2;omega)
  omega
 have gp2:GP H2 gh a b ns tv ts p:=⟨⟨hdr,ha,hb,TS⟩,kk p pp p3 p9 tp tc,nd,by omega,d9⟩
 refine ⟨_,rfl,a0,ns0,2,rfl,T2.seq hS,h63,by decide,by decide,fun f2 H3 f20 S3 F3=>?_⟩;have gp3:=gp2.mono (aG S3);refine⟨_,rfl,gh,_,2,_,rfl,rfl,zC0 gp3.G.hg,rfl,?_⟩;refine⟨_,rfl,f2,4,rfl,F3,by decide,by decide,fun d H4 d0 d4 F4 S4=>⟨_,_,rfl,rfl,_,rfl,?_⟩⟩;have gp4:=gp3.mono (cM F3 S4);have ks4:Ks K H4 f2 a0 ns0:=fun H' s'=>(Same.but (T2.trans S3) (by
  cases e:H f2 with
  | none=>rfl
  | some o=>rw[T2 _ _ e]at f20;cases f20) (S4.trans s')).seq hS
 refine lU (fun _=>?_) (fun _=>⟨a0,gh,a,b,f2,ns0,ns,tv,ts,p,rfl,ks4,h63,F4,gp4,q⟩);refine⟨_,rfl,gh,_,0,_,rfl,rfl,zC0 gp4.G.hg,rfl,_,rfl,gh,_,1,_,rfl,rfl,zC0 gp4.G.hg,rfl,a,b,ns,tv,ts,rfl,.inl gp4.G.ha,.inl gp4.G.hb,gp4.G.tr,by omega,(fun t ht=>(tk t ht).2),fun m H5 S5 m2 m4 mt mc _=>?_⟩;refine⟨_,_,rfl,rfl,?_⟩;have gp5:=gp4.mono (aG S5);refine⟨fun mm σ H'=>∃u:Int,σ=oC (some (.ref a0)) (some (.ref gh)) (some (.ref f2)) (some (.int u)) none none none none none none none none none none none none none none/\H'=H5/\m<u/\u<=999983/\mm=(999983-u).toNat,⟨_,m+1,rfl,rfl,by omega,by omega,rfl⟩,?_⟩;rintro mm σ H' ⟨u,rfl,rfl,u0,u1,rfl⟩;refine⟨_,rfl,u,rfl,fun bb hb=>⟨bb,rfl,?_⟩⟩;cases bb with
 | true=>
   refine gJ ?_;refine⟨_,rfl,gh,_,0,_,rfl,rfl,zC0 gp5.G.hg,rfl,_,rfl,gh,_,1,_,rfl,rfl,zC0 gp5.G.hg,rfl,_,rfl,s3,fun g2 kg=>?_⟩;have Ig:=zD0 kg (.tup [.ref a,.ref b,.int u]);have G5:=gp5.G.mono (aG Ig);exact⟨a0,g2,a,b,f2,ns0,ns,tv,ts,u,rfl,ks4.but ((zJ0 S5).trans (zJ0 Ig)),h63,(F4.same S5).same Ig,⟨⟨ai,G5.ha,G5.hb,G5.tr⟩,kk u (hb.mp rfl) (by omega) u1 (by omega) (fun t ht x hx=>by have:=mc t ht x hx;omega),nd,by omega,d9⟩,q⟩
 | false=>
   refine ji ?_;refine⟨_,fun _ _ h=>h,?_⟩;have ne:u≠999983:=fun z=>by
    subst z;exact nomatch hb.mpr qQ
   refine⟨_,rfl,_,_,rfl,rfl,?_⟩;exact⟨_,by omega,u+1,rfl,rfl,by omega,by omega,rfl⟩
end
end
theorem all_mk {l:PySem.W.OpenLaw} {w:World} {K:W.Frag} {h:Heap} {mg:Str->Option Value} {fa f0 f1 f2 f3 f4 f5 f6 f7 f8 f9 f10 f11 f12 f13 f14 f15 f16 f17 f18 f19 f20 f21 f22 f23 f24 f25 f26 f27 f28 f29 f30 f31 f32 f33 f34 f35 f36 f37 f38 f39 f40 f41 f42 f43 f44 f45 f46 f47 f48:Addr} (X:K.In h) (G:h.Ns mainGlobals mg) (hfa:mg "law"=some (.ref fa))
 {od0 an0 od1 an1 od2 an2 od3 an3 od4 an4 od5 an5 od6 an6 od7 an7 od8 an8 od9 an9 od10 an10 od11 an11 od12 an12 od13 an13 od14 an14 od15 an15 od16 an16 od17 an17 od18 an18 od19 an19 od20 an20 od21 an21 od22 an22 od23 an23 od24 an24 od25 an25 od26 an26 od27 an27 od28 an28 od29 an29 od30 an30 od31 an31 od32 an32 od33 an33 od34 an34 od35 an35 od36 an36 od37 an37 od38 an38 od39 an39 od40 an40 od41 an41 od42 an42 od43 an43 od44 an44 od45 an45 od46 an46 od47 an47 od48 an48:Option Addr} {sl0 sl1 sl2 sl3 sl4 sl5 sl6 sl7 sl8 sl9 sl10 sl11 sl12 sl13 sl14 sl15 sl16 sl17 sl18 sl19 sl20 sl21 sl22 sl23 sl24 sl25 sl26 sl27 sl28 sl29 sl30 sl31 sl32 sl33 sl34 sl35 sl36 sl37 sl38 sl39 sl40 sl41 sl42 sl43 sl44 sl45 sl46 sl47 sl48:Array (Option Value)} {oc0 kV0 dc0 pm0 cd0 ct0 oc1 kV1 dc1 pm1 cd1 ct1 oc2 kV2 dc2 pm2 cd2 ct2 oc3 kV3 dc3 pm3 cd3 ct3 oc4 kV4 dc4 pm4 cd4 ct4 oc5 kV5 dc5 pm5 cd5 ct5 oc6 kV6 dc6 pm6 cd6 ct6 oc7 kV7 dc7 pm7 cd7 ct7 oc8 kV8 dc8 pm8 cd8 ct8 oc9 kV9 dc9 pm9 cd9 ct9 oc10 kV10 dc10 pm10 cd10 ct10 oc11 kV11 dc11 pm11 cd11 ct11 oc12 kV12 dc12 pm12 cd12 ct12 oc13 kV13 dc13 pm13 cd13 ct13 oc14 kV14 dc14 pm14 cd14 ct14 oc15 kV15 dc15 pm15 cd15 ct15 oc16 kV16 dc16 pm16 cd16 ct16 oc17 kV17 dc17 pm17 cd17 ct17 oc18 kV18 dc18 pm18 cd18 ct18 oc19 kV19 dc19 pm19 cd19 ct19 oc20 kV20 dc20 pm20 cd20 ct20 oc21 kV21 dc21 pm21 cd21 ct21 oc22 kV22 dc22 pm22 cd22 ct22 oc23 kV23 dc23 pm23 cd23 ct23 oc24 kV24 dc24 pm24 cd24 ct24 oc25 kV25 dc25 pm25 cd25 ct25 oc26 kV26 dc26 pm26 cd26 ct26 oc27 kV27 dc27 pm27 cd27 ct27 oc28 kV28 dc28 pm28 cd28 ct28 oc29 kV29 dc29 pm29 cd29 ct29 oc30 kV30 dc30 pm30 cd30 ct30 oc31 kV31 dc31 pm31 cd31 ct31 oc32 kV32 dc32 pm32 cd32 ct32 oc33 kV33 dc33 pm33 cd33 ct33 oc34 kV34 dc34 pm34 cd34 ct34 oc35 kV35 dc35 pm35 cd35 ct35 oc36 kV36 dc36 pm36 cd36 ct36 oc37 kV37 dc37 pm37 cd37 ct37 oc38 kV38 dc38 pm38 cd38 ct38 oc39 kV39 dc39 pm39 cd39 ct39 oc40 kV40 dc40 pm40 cd40 ct40 oc41 kV41 dc41 pm41 cd41 ct41 oc42 kV42 dc42 pm42 cd42 ct42 oc43 kV43 dc43 pm43 cd43 ct43 oc44 kV44 dc44 pm44 cd44 ct44 oc45 kV45 dc45 pm45 cd45 ct45 oc46 kV46 dc46 pm46 cd46 ct46 oc47 kV47 dc47 pm47 cd47 ct47 oc48 kV48 dc48 pm48 cd48 ct48:Value}
 (a0:W.nsIn K mainGlobals "is_field"=some (some (.ref f0))) (l0:K.lookup f0=some ⟨oc0,od0,.func (W.fnOf "is_field" "is_field" (aD gj) (aB gj) (ag gj) .none kV0 dc0 pm0 an0 cd0 ct0),sl0⟩) (c0:W.codeIn K cd0 "is_field"=true) (k0:W.keepIn K (.ref f0)=true)
 (a1:W.nsIn K mainGlobals "inverse_of"=some (some (.ref f1))) (l1:K.lookup f1=some ⟨oc1,od1,.func (W.fnOf "inverse_of" "inverse_of" (aD dR) (aB dR) (ag dR) .none kV1 dc1 pm1 an1 cd1 ct1),sl1⟩) (c1:W.codeIn K cd1 "inverse_of"=true) (k1:W.keepIn K (.ref f1)=true)
 (a2:W.nsIn K mainGlobals "is_number"=some (some (.ref f2))) (l2:K.lookup f2=some ⟨oc2,od2,.func (W.fnOf "is_number" "is_number" (aD eK) (aB eK) (ag eK) .none kV2 dc2 pm2 an2 cd2 ct2),sl2⟩) (c2:W.codeIn K cd2 "is_number"=true) (k2:W.keepIn K (.ref f2)=true)
 (a3:W.nsIn K mainGlobals "value_at"=some (some (.ref f3))) (l3:K.lookup f3=some ⟨oc3,od3,.func (W.fnOf "value_at" "value_at" (aD fQ) (aB fQ) (ag fQ) .none kV3 dc3 pm3 an3 cd3 ct3),sl3⟩) (c3:W.codeIn K cd3 "value_at"=true) (k3:W.keepIn K (.ref f3)=true)
 (a4:W.nsIn K mainGlobals "both_ends"=some (some (.ref f4))) (l4:K.lookup f4=some ⟨oc4,od4,.func (W.fnOf "both_ends" "both_ends" (aD eR) (aB eR) (ag eR) .none kV4 dc4 pm4 an4 cd4 ct4),sl4⟩) (c4:W.codeIn K cd4 "both_ends"=true) (k4:W.keepIn K (.ref f4)=true)
 (a5:W.nsIn K mainGlobals "value_behind"=some (some (.ref f5))) (l5:K.lookup f5=some ⟨oc5,od5,.func (W.fnOf "value_behind" "value_behind" (aD df) (aB df) (ag df) .none kV5 dc5 pm5 an5 cd5 ct5),sl5⟩) (c5:W.codeIn K cd5 "value_behind"=true) (k5:W.keepIn K (.ref f5)=true)
 (a6:W.nsIn K mainGlobals "products"=some (some (.ref f6))) (l6:K.lookup f6=some ⟨oc6,od6,.func (W.fnOf "products" "products" (aD fY) (aB fY) (ag fY) .none kV6 dc6 pm6 an6 cd6 ct6),sl6⟩) (c6:W.codeIn K cd6 "products"=true) (k6:W.keepIn K (.ref f6)=true)
 (a7:W.nsIn K mainGlobals "inverse_factorials"=some (some (.ref f7))) (l7:K.lookup f7=some ⟨oc7,od7,.func (W.fnOf "inverse_factorials" "inverse_factorials" (aD bO) (aB bO) (ag bO) .none kV7 dc7 pm7 an7 cd7 ct7),sl7⟩) (c7:W.codeIn K cd7 "inverse_factorials"=true) (k7:W.keepIn K (.ref f7)=true)
 (a8:W.nsIn K mainGlobals "all_settings"=some (some (.ref f8))) (l8:K.lookup f8=some ⟨oc8,od8,.func (W.fnOf "all_settings" "all_settings" (aD du) (aB du) (ag du) .none kV8 dc8 pm8 an8 cd8 ct8),sl8⟩) (c8:W.codeIn K cd8 "all_settings"=true) (k8:W.keepIn K (.ref f8)=true)
 (a9:W.nsIn K mainGlobals "holds_at"=some (some (.ref f9))) (l9:K.lookup f9=some ⟨oc9,od9,.func (W.fnOf "holds_at" "holds_at" (aD eF) (aB eF) (ag eF) .none kV9 dc9 pm9 an9 cd9 ct9),sl9⟩) (c9:W.codeIn K cd9 "holds_at"=true) (k9:W.keepIn K (.ref f9)=true)
 (a10:W.nsIn K mainGlobals "joined"=some (some (.ref f10))) (l10:K.lookup f10=some ⟨oc10,od10,.func (W.fnOf "joined" "joined" (aD iJ) (aB iJ) (ag iJ) .none kV10 dc10 pm10 an10 cd10 ct10),sl10⟩) (c10:W.codeIn K cd10 "joined"=true) (k10:W.keepIn K (.ref f10)=true)
 (a11:W.nsIn K mainGlobals "count_of"=some (some (.ref f11))) (l11:K.lookup f11=some ⟨oc11,od11,.func (W.fnOf "count_of" "count_of" (aD gn) (aB gn) (ag gn) .none kV11 dc11 pm11 an11 cd11 ct11),sl11⟩) (c11:W.codeIn K cd11 "count_of"=true) (k11:W.keepIn K (.ref f11)=true)
 (a12:W.nsIn K mainGlobals "trees_within"=some (some (.ref f12))) (l12:K.lookup f12=some ⟨oc12,od12,.func (W.fnOf "trees_within" "trees_within" (aD di) (aB di) (ag di) .none kV12 dc12 pm12 an12 cd12 ct12),sl12⟩) (c12:W.codeIn K cd12 "trees_within"=true) (k12:W.keepIn K (.ref f12)=true)
 (a13:W.nsIn K mainGlobals "size_of"=some (some (.ref f13))) (l13:K.lookup f13=some ⟨oc13,od13,.func (W.fnOf "size_of" "size_of" (aD fX) (aB fX) (ag fX) .none kV13 dc13 pm13 an13 cd13 ct13),sl13⟩) (c13:W.codeIn K cd13 "size_of"=true) (k13:W.keepIn K (.ref f13)=true)
 (a14:W.nsIn K mainGlobals "names_in"=some (some (.ref f14))) (l14:K.lookup f14=some ⟨oc14,od14,.func (W.fnOf "names_in" "names_in" (aD eD) (aB eD) (ag eD) .none kV14 dc14 pm14 an14 cd14 ct14),sl14⟩) (c14:W.codeIn K cd14 "names_in"=true) (k14:W.keepIn K (.ref f14)=true)
 (a15:W.nsIn K mainGlobals "all_sizes"=some (some (.ref f15))) (l15:K.lookup f15=some ⟨oc15,od15,.func (W.fnOf "all_sizes" "all_sizes" (aD eT) (aB eT) (ag eT) .none kV15 dc15 pm15 an15 cd15 ct15),sl15⟩) (c15:W.codeIn K cd15 "all_sizes"=true) (k15:W.keepIn K (.ref f15)=true)
 (a16:W.nsIn K mainGlobals "counts_of"=some (some (.ref f16))) (l16:K.lookup f16=some ⟨oc16,od16,.func (W.fnOf "counts_of" "counts_of" (aD eQ) (aB eQ) (ag eQ) .none kV16 dc16 pm16 an16 cd16 ct16),sl16⟩) (c16:W.codeIn K cd16 "counts_of"=true) (k16:W.keepIn K (.ref f16)=true)
 (a17:W.nsIn K mainGlobals "true_row"=some (some (.ref f17))) (l17:K.lookup f17=some ⟨oc17,od17,.func (W.fnOf "true_row" "true_row" (aD fV) (aB fV) (ag fV) .none kV17 dc17 pm17 an17 cd17 ct17),sl17⟩) (c17:W.codeIn K cd17 "true_row"=true) (k17:W.keepIn K (.ref f17)=true)
 (a18:W.nsIn K mainGlobals "value_of"=some (some (.ref f18))) (l18:K.lookup f18=some ⟨oc18,od18,.func (W.fnOf "value_of" "value_of" (aD eC) (aB eC) (ag eC) .none kV18 dc18 pm18 an18 cd18 ct18),sl18⟩) (c18:W.codeIn K cd18 "value_of"=true) (k18:W.keepIn K (.ref f18)=true)
 (a19:W.nsIn K mainGlobals "op_value"=some (some (.ref f19))) (l19:K.lookup f19=some ⟨oc19,od19,.func (W.fnOf "op_value" "op_value" (aD fZ) (aB fZ) (ag fZ) .none kV19 dc19 pm19 an19 cd19 ct19),sl19⟩) (c19:W.codeIn K cd19 "op_value"=true) (k19:W.keepIn K (.ref f19)=true)
 (a20:W.nsIn K mainGlobals "divided"=some (some (.ref f20))) (l20:K.lookup f20=some ⟨oc20,od20,.func (W.fnOf "divided" "divided" (aD gV) (aB gV) (ag gV) .none kV20 dc20 pm20 an20 cd20 ct20),sl20⟩) (c20:W.codeIn K cd20 "divided"=true) (k20:W.keepIn K (.ref f20)=true)
 (a21:W.nsIn K mainGlobals "power"=some (some (.ref f21))) (l21:K.lookup f21=some ⟨oc21,od21,.func (W.fnOf "power" "power" (aD jV) (aB jV) (ag jV) .none kV21 dc21 pm21 an21 cd21 ct21),sl21⟩) (c21:W.codeIn K cd21 "power"=true) (k21:W.keepIn K (.ref f21)=true)
 (a22:W.nsIn K mainGlobals "rows_of_coins"=some (some (.ref f22))) (l22:K.lookup f22=some ⟨oc22,od22,.func (W.fnOf "rows_of_coins" "rows_of_coins" (aD cU) (aB cU) (ag cU) .none kV22 dc22 pm22 an22 cd22 ct22),sl22⟩) (c22:W.codeIn K cd22 "rows_of_coins"=true) (k22:W.keepIn K (.ref f22)=true)
 (a23:W.nsIn K mainGlobals "asked_once"=some (some (.ref f23))) (l23:K.lookup f23=some ⟨oc23,od23,.func (W.fnOf "asked_once" "asked_once" (aD dS) (aB dS) (ag dS) .none kV23 dc23 pm23 an23 cd23 ct23),sl23⟩) (c23:W.codeIn K cd23 "asked_once"=true) (k23:W.keepIn K (.ref f23)=true)
 (a24:W.nsIn K mainGlobals "talked"=some (some (.ref f24))) (l24:K.lookup f24=some ⟨oc24,od24,.func (W.fnOf "talked" "talked" (aD iE) (aB iE) (ag iE) .none kV24 dc24 pm24 an24 cd24 ct24),sl24⟩) (c24:W.codeIn K cd24 "talked"=true) (k24:W.keepIn K (.ref f24)=true)
 (a25:W.nsIn K mainGlobals "weighed"=some (some (.ref f25))) (l25:K.lookup f25=some ⟨oc25,od25,.func (W.fnOf "weighed" "weighed" (aD gT) (aB gT) (ag gT) .none kV25 dc25 pm25 an25 cd25 ct25),sl25⟩) (c25:W.codeIn K cd25 "weighed"=true) (k25:W.keepIn K (.ref f25)=true)
 (a26:W.nsIn K mainGlobals "weighed_behind"=some (some (.ref f26))) (l26:K.lookup f26=some ⟨oc26,od26,.func (W.fnOf "weighed_behind" "weighed_behind" (aD cu) (aB cu) (ag cu) .none kV26 dc26 pm26 an26 cd26 ct26),sl26⟩) (c26:W.codeIn K cd26 "weighed_behind"=true) (k26:W.keepIn K (.ref f26)=true)
 (a27:W.nsIn K mainGlobals "first_row"=some (some (.ref f27))) (l27:K.lookup f27=some ⟨oc27,od27,.func (W.fnOf "first_row" "first_row" (aD eO) (aB eO) (ag eO) .none kV27 dc27 pm27 an27 cd27 ct27),sl27⟩) (c27:W.codeIn K cd27 "first_row"=true) (k27:W.keepIn K (.ref f27)=true)
 (a28:W.nsIn K mainGlobals "worth_of"=some (some (.ref f28))) (l28:K.lookup f28=some ⟨oc28,od28,.func (W.fnOf "worth_of" "worth_of" (aD eA) (aB eA) (ag eA) .none kV28 dc28 pm28 an28 cd28 ct28),sl28⟩) (c28:W.codeIn K cd28 "worth_of"=true) (k28:W.keepIn K (.ref f28)=true)
 (a29:W.nsIn K mainGlobals "joined_worth"=some (some (.ref f29))) (l29:K.lookup f29=some ⟨oc29,od29,.func (W.fnOf "joined_worth" "joined_worth" (aD dj) (aB dj) (ag dj) .none kV29 dc29 pm29 an29 cd29 ct29),sl29⟩) (c29:W.codeIn K cd29 "joined_worth"=true) (k29:W.keepIn K (.ref f29)=true)
 (a30:W.nsIn K mainGlobals "degree_of"=some (some (.ref f30))) (l30:K.lookup f30=some ⟨oc30,od30,.func (W.fnOf "degree_of" "degree_of" (aD eP) (aB eP) (ag eP) .none kV30 dc30 pm30 an30 cd30 ct30),sl30⟩) (c30:W.codeIn K cd30 "degree_of"=true) (k30:W.keepIn K (.ref f30)=true)
 (a31:W.nsIn K mainGlobals "look_switches"=some (some (.ref f31))) (l31:K.lookup f31=some ⟨oc31,od31,.func (W.fnOf "look_switches" "look_switches" (aD cV) (aB cV) (ag cV) .none kV31 dc31 pm31 an31 cd31 ct31),sl31⟩) (c31:W.codeIn K cd31 "look_switches"=true) (k31:W.keepIn K (.ref f31)=true)
 (a32:W.nsIn K mainGlobals "look_names"=some (some (.ref f32))) (l32:K.lookup f32=some ⟨oc32,od32,.func (W.fnOf "look_names" "look_names" (aD dO) (aB dO) (ag dO) .none kV32 dc32 pm32 an32 cd32 ct32),sl32⟩) (c32:W.codeIn K cd32 "look_names"=true) (k32:W.keepIn K (.ref f32)=true)
 (a33:W.nsIn K mainGlobals "look_field"=some (some (.ref f33))) (l33:K.lookup f33=some ⟨oc33,od33,.func (W.fnOf "look_field" "look_field" (aD dP) (aB dP) (ag dP) .none kV33 dc33 pm33 an33 cd33 ct33),sl33⟩) (c33:W.codeIn K cd33 "look_field"=true) (k33:W.keepIn K (.ref f33)=true)
 (a34:W.nsIn K mainGlobals "look_size"=some (some (.ref f34))) (l34:K.lookup f34=some ⟨oc34,od34,.func (W.fnOf "look_size" "look_size" (aD eI) (aB eI) (ag eI) .none kV34 dc34 pm34 an34 cd34 ct34),sl34⟩) (c34:W.codeIn K cd34 "look_size"=true) (k34:W.keepIn K (.ref f34)=true)
 (a35:W.nsIn K mainGlobals "_law_feed"=some (some (.ref f35))) (l35:K.lookup f35=some ⟨oc35,od35,.func (W.fnOf "_law_feed" "_law_feed" (aD iI) (aB iI) (ag iI) .none kV35 dc35 pm35 an35 cd35 ct35),sl35⟩) (c35:W.codeIn K cd35 "_law_feed"=true) (k35:W.keepIn K (.ref f35)=true)
 (a36:W.nsIn K mainGlobals "_law_take"=some (some (.ref f36))) (l36:K.lookup f36=some ⟨oc36,od36,.func (W.fnOf "_law_take" "_law_take" (aD iF) (aB iF) (ag iF) .none kV36 dc36 pm36 an36 cd36 ct36),sl36⟩) (c36:W.codeIn K cd36 "_law_take"=true) (k36:W.keepIn K (.ref f36)=true)
 (a37:W.nsIn K mainGlobals "_law_names"=some (some (.ref f37))) (l37:K.lookup f37=some ⟨oc37,od37,.func (W.fnOf "_law_names" "_law_names" (aD bu) (aB bu) (ag bu) .none kV37 dc37 pm37 an37 cd37 ct37),sl37⟩) (c37:W.codeIn K cd37 "_law_names"=true) (k37:W.keepIn K (.ref f37)=true)
 (a38:W.nsIn K mainGlobals "_law_tree"=some (some (.ref f38))) (l38:K.lookup f38=some ⟨oc38,od38,.func (W.fnOf "_law_tree" "_law_tree" (aD hV) (aB hV) (ag hV) .none kV38 dc38 pm38 an38 cd38 ct38),sl38⟩) (c38:W.codeIn K cd38 "_law_tree"=true) (k38:W.keepIn K (.ref f38)=true)
 (a39:W.nsIn K mainGlobals "_law_names_of"=some (some (.ref f39))) (l39:K.lookup f39=some ⟨oc39,od39,.func (W.fnOf "_law_names_of" "_law_names_of" (aD dA) (aB dA) (ag dA) .none kV39 dc39 pm39 an39 cd39 ct39),sl39⟩) (c39:W.codeIn K cd39 "_law_names_of"=true) (k39:W.keepIn K (.ref f39)=true)
 (a40:W.nsIn K mainGlobals "_law_need"=some (some (.ref f40))) (l40:K.lookup f40=some ⟨oc40,od40,.func (W.fnOf "_law_need" "_law_need" (aD iG) (aB iG) (ag iG) .none kV40 dc40 pm40 an40 cd40 ct40),sl40⟩) (c40:W.codeIn K cd40 "_law_need"=true) (k40:W.keepIn K (.ref f40)=true)
 (a41:W.nsIn K mainGlobals "_law_is_prime"=some (some (.ref f41))) (l41:K.lookup f41=some ⟨oc41,od41,.func (W.fnOf "_law_is_prime" "_law_is_prime" (aD dQ) (aB dQ) (ag dQ) .none kV41 dc41 pm41 an41 cd41 ct41),sl41⟩) (c41:W.codeIn K cd41 "_law_is_prime"=true) (k41:W.keepIn K (.ref f41)=true)
 (a42:W.nsIn K mainGlobals "_law_field"=some (some (.ref f42))) (l42:K.lookup f42=some ⟨oc42,od42,.func (W.fnOf "_law_field" "_law_field" (aD gU) (aB gU) (ag gU) .none kV42 dc42 pm42 an42 cd42 ct42),sl42⟩) (c42:W.codeIn K cd42 "_law_field"=true) (k42:W.keepIn K (.ref f42)=true)
 (a43:W.nsIn K mainGlobals "_law_game"=some (some (.ref f43))) (l43:K.lookup f43=some ⟨oc43,od43,.func (W.fnOf "_law_game" "_law_game" (aD iH) (aB iH) (ag iH) .none kV43 dc43 pm43 an43 cd43 ct43),sl43⟩) (c43:W.codeIn K cd43 "_law_game"=true) (k43:W.keepIn K (.ref f43)=true)
 (a44:W.nsIn K mainGlobals "_law_degrees"=some (some (.ref f44))) (l44:K.lookup f44=some ⟨oc44,od44,.func (W.fnOf "_law_degrees" "_law_degrees" (aD eJ) (aB eJ) (ag eJ) .none kV44 dc44 pm44 an44 cd44 ct44),sl44⟩) (c44:W.codeIn K cd44 "_law_degrees"=true) (k44:W.keepIn K (.ref f44)=true)
 (a45:W.nsIn K mainGlobals "_law_helper"=some (some (.ref f45))) (l45:K.lookup f45=some ⟨oc45,od45,.func (W.fnOf "_law_helper" "_law_helper" (aD gi) (aB gi) (ag gi) .none kV45 dc45 pm45 an45 cd45 ct45),sl45⟩) (c45:W.codeIn K cd45 "_law_helper"=true) (k45:W.keepIn K (.ref f45)=true)
 (a46:W.nsIn K mainGlobals "_law_end"=some (some (.ref f46))) (l46:K.lookup f46=some ⟨oc46,od46,.func (W.fnOf "_law_end" "_law_end" (aD jZ) (aB jZ) (ag jZ) .none kV46 dc46 pm46 an46 cd46 ct46),sl46⟩) (c46:W.codeIn K cd46 "_law_end"=true) (k46:W.keepIn K (.ref f46)=true)
 (a47:W.nsIn K mainGlobals "_law_weight"=some (some (.ref f47))) (l47:K.lookup f47=some ⟨oc47,od47,.func (W.fnOf "_law_weight" "_law_weight" (aD gg) (aB gg) (ag gg) .none kV47 dc47 pm47 an47 cd47 ct47),sl47⟩) (c47:W.codeIn K cd47 "_law_weight"=true) (k47:W.keepIn K (.ref f47)=true)
 (a48:W.nsIn K mainGlobals "law"=some (some (.ref f48))) (l48:K.lookup f48=some ⟨oc48,od48,.func (W.fnOf "law" "law" (aD lC) (aB lC) (ag lC) .none kV48 dc48 pm48 an48 cd48 ct48),sl48⟩) (c48:W.codeIn K cd48 "law"=true) (k48:W.keepIn K (.ref f48)=true)
 {CG gmgI gmgM gmgW gmgC:Addr} {gmodI gmanI gmodM gmanM gmodW gmanW gmodC gmanC:Option Addr} {gmslI gmslM gmslW gmslC:Array (Option Value)} {gmocI gmkVI gmdcI gmpmI gmcdI gmctI gmocM gmkVM gmdcM gmpmM gmcdM gmctM gmocW gmkVW gmdcW gmpmW gmcdW gmctW gmocC gmkVC gmdcC gmpmC gmcdC gmctC:Value}
 {C dbgI dbgW dbgU dbgH dbgT dbgC dbgB dbgR dbgG dbgE dbgN:Addr} {dbodI dbanI dbodW dbanW dbodU dbanU dbodH dbanH dbodT dbanT dbodC dbanC dbodB dbanB dbodR dbanR dbodG dbanG dbodE dbanE dbodN dbanN:Option Addr} {dbslI dbslW dbslU dbslH dbslT dbslC dbslB dbslR dbslG dbslE dbslN:Array (Option Value)} {dbocI dbkVI dbdcI dbpmI dbcdI dbctI dbocW dbkVW dbdcW dbpmW dbcdW dbctW dbocU dbkVU dbdcU dbpmU dbcdU dbctU dbocH dbkVH dbdcH dbpmH dbcdH dbctH dbocT dbkVT dbdcT dbpmT dbcdT dbctT dbocC dbkVC dbdcC dbpmC dbcdC dbctC dbocB dbkVB dbdcB dbpmB dbcdB dbctB dbocR dbkVR dbdcR dbpmR dbcdR dbctR dbocG dbkVG dbdcG dbpmG dbcdG dbctG dbocE dbkVE dbdcE dbpmE dbcdE dbctE dbocN dbkVN dbdcN dbpmN dbcdN dbctN:Value}
 {CA asgI asgP asgC asgN asgR:Addr} {asodI asanI asodP asanP asodC asanC asodN asanN asodR asanR:Option Addr} {asslI asslP asslC asslN asslR:Array (Option Value)} {asocI askVI asdcI aspmI ascdI asctI asocP askVP asdcP aspmP ascdP asctP asocC askVC asdcC aspmC ascdC asctC asocN askVN asdcN aspmN ascdN asctN asocR askVR asdcR aspmR ascdR asctR:Value}
 {CM mcgI mcgS mcgR mcgN:Addr} {mcodI mcanI mcodS mcanS mcodR mcanR mcodN mcanN:Option Addr} {mcslI mcslS mcslR mcslN:Array (Option Value)} {mcocI mckVI mcdcI mcpmI mccdI mcctI mcocS mckVS mcdcS mcpmS mccdS mcctS mcocR mckVR mcdcR mcpmR mccdR mcctR mcocN mckVN mcdcN mcpmN mccdN mcctN:Value}
 {te tm tr:Tok}
 (ID:W.nsIn K mainGlobals "Game"=some (some (.ref CG)))
 (IE:W.findIn K (.ref CG) "__init__"=some (some (.ref gmgI)))
 (IF:W.isFn K (.ref gmgI)=true)
 (IG:K.lookup gmgI=some ⟨gmocI,gmodI,.func (W.fnOf "__init__" "Game.__init__" (aD ka) (aB ka) (ag ka) .none gmkVI gmdcI gmpmI gmanI gmcdI gmctI),gmslI⟩)
 (IH:W.codeIn K gmcdI "Game.__init__"=true)
 (II:W.keepIn K (.ref gmgI)=true)
 (IJ:W.findIn K (.ref CG) "mix"=some (some (.ref gmgM)))
 (IK:W.isFn K (.ref gmgM)=true)
 (IL:K.lookup gmgM=some ⟨gmocM,gmodM,.func (W.fnOf "mix" "Game.mix" (aD mY) (aB mY) (ag mY) .none gmkVM gmdcM gmpmM gmanM gmcdM gmctM),gmslM⟩)
 (IM:W.codeIn K gmcdM "Game.mix"=true)
 (GQ:W.keepIn K (.ref gmgM)=true)
 (IN:W.findIn K (.ref CG) "worth_at"=some (some (.ref gmgW)))
 (IO:W.isFn K (.ref gmgW)=true)
 (IP:K.lookup gmgW=some ⟨gmocW,gmodW,.func (W.fnOf "worth_at" "Game.worth_at" (aD iK) (aB iK) (ag iK) .none gmkVW gmdcW gmpmW gmanW gmcdW gmctW),gmslW⟩)
 (IQ:W.codeIn K gmcdW "Game.worth_at"=true)
 (GV:W.keepIn K (.ref gmgW)=true)
 (IR:W.findIn K (.ref CG) "coins"=some (some (.ref gmgC)))
 (IS:W.isFn K (.ref gmgC)=true)
 (IT:K.lookup gmgC=some ⟨gmocC,gmodC,.func (W.fnOf "coins" "Game.coins" (aD iL) (aB iL) (ag iL) .none gmkVC gmdcC gmpmC gmanC gmcdC gmctC),gmslC⟩)
 (IU:W.codeIn K gmcdC "Game.coins"=true)
 (GX:W.keepIn K (.ref gmgC)=true)
 (IV:W.plainGet K CG Str.empty=true)
 (Hk:W.hasDictIn K CG=true)
 (Hl:W.plainOver K CG=true)
 (Hm:W.findIn K (.ref CG) "__setattr__"=some (some (.builtin "object.__setattr__")))
 (Hn:W.makesIn K CG=true)
 (Ho:W.keepIn K (.ref CG)=true)
 (pC:W.findIn K (.ref CG) "switches"=some none)
 (E8:W.findIn K (.ref CG) "trees"=some none)
 (E9:W.findIn K (.ref CG) "field"=some none)
 (tH:W.findIn K (.ref CG) "degrees"=some none)
 (dbgg:W.nsIn K mainGlobals "Doubter"=some (some (.ref C)))
 (dbaI:W.findIn K (.ref C) "__init__"=some (some (.ref dbgI)))
 (dbiI:W.isFn K (.ref dbgI)=true)
 (dblI:K.lookup dbgI=some ⟨dbocI,dbodI,.func (W.fnOf "__init__" "Doubter.__init__" (aD ke) (aB ke) (ag ke) .none dbkVI dbdcI dbpmI dbanI dbcdI dbctI),dbslI⟩)
 (dbcI:W.codeIn K dbcdI "Doubter.__init__"=true)
 (dbkI:W.keepIn K (.ref dbgI)=true)
 (dbaW:W.findIn K (.ref C) "waits"=some (some (.ref dbgW)))
 (dbiW:W.isFn K (.ref dbgW)=true)
 (dblW:K.lookup dbgW=some ⟨dbocW,dbodW,.func (W.fnOf "waits" "Doubter.waits" (aD iM) (aB iM) (ag iM) .none dbkVW dbdcW dbpmW dbanW dbcdW dbctW),dbslW⟩)
 (dbcW:W.codeIn K dbcdW "Doubter.waits"=true)
 (dbkW:W.keepIn K (.ref dbgW)=true)
 (dbaU:W.findIn K (.ref C) "due"=some (some (.ref dbgU)))
 (dbiU:W.isFn K (.ref dbgU)=true)
 (dblU:K.lookup dbgU=some ⟨dbocU,dbodU,.func (W.fnOf "due" "Doubter.due" (aD ni) (aB ni) (ag ni) .none dbkVU dbdcU dbpmU dbanU dbcdU dbctU),dbslU⟩)
 (dbcU:W.codeIn K dbcdU "Doubter.due"=true)
 (dbkU:W.keepIn K (.ref dbgU)=true)
 (dbaH:W.findIn K (.ref C) "hear"=some (some (.ref dbgH)))
 (dbiH:W.isFn K (.ref dbgH)=true)
 (dblH:K.lookup dbgH=some ⟨dbocH,dbodH,.func (W.fnOf "hear" "Doubter.hear" (aD kf) (aB kf) (ag kf) .none dbkVH dbdcH dbpmH dbanH dbcdH dbctH),dbslH⟩)
 (dbcH:W.codeIn K dbcdH "Doubter.hear"=true)
 (dbkH:W.keepIn K (.ref dbgH)=true)
 (dbaT:W.findIn K (.ref C) "toss"=some (some (.ref dbgT)))
 (dbiT:W.isFn K (.ref dbgT)=true)
 (dblT:K.lookup dbgT=some ⟨dbocT,dbodT,.func (W.fnOf "toss" "Doubter.toss" (aD kd) (aB kd) (ag kd) .none dbkVT dbdcT dbpmT dbanT dbcdT dbctT),dbslT⟩)
 (dbcT:W.codeIn K dbcdT "Doubter.toss"=true)
 (dbkT:W.keepIn K (.ref dbgT)=true)
 (dbaC:W.findIn K (.ref C) "hear_claims"=some (some (.ref dbgC)))
 (dbiC:W.isFn K (.ref dbgC)=true)
 (dblC:K.lookup dbgC=some ⟨dbocC,dbodC,.func (W.fnOf "hear_claims" "Doubter.hear_claims" (aD gW) (aB gW) (ag gW) .none dbkVC dbdcC dbpmC dbanC dbcdC dbctC),dbslC⟩)
 (dbcC:W.codeIn K dbcdC "Doubter.hear_claims"=true)
 (dbkC:W.keepIn K (.ref dbgC)=true)
 (dbaB:W.findIn K (.ref C) "begin_rounds"=some (some (.ref dbgB)))
 (dbiB:W.isFn K (.ref dbgB)=true)
 (dblB:K.lookup dbgB=some ⟨dbocB,dbodB,.func (W.fnOf "begin_rounds" "Doubter.begin_rounds" (aD iO) (aB iO) (ag iO) .none dbkVB dbdcB dbpmB dbanB dbcdB dbctB),dbslB⟩)
 (dbcB:W.codeIn K dbcdB "Doubter.begin_rounds"=true)
 (dbkB:W.keepIn K (.ref dbgB)=true)
 (dbaR:W.findIn K (.ref C) "hear_row"=some (some (.ref dbgR)))
 (dbiR:W.isFn K (.ref dbgR)=true)
 (dblR:K.lookup dbgR=some ⟨dbocR,dbodR,.func (W.fnOf "hear_row" "Doubter.hear_row" (aD mZ) (aB mZ) (ag mZ) .none dbkVR dbdcR dbpmR dbanR dbcdR dbctR),dbslR⟩)
 (dbcR:W.codeIn K dbcdR "Doubter.hear_row"=true)
 (dbkR:W.keepIn K (.ref dbgR)=true)
 (dbaG:W.findIn K (.ref C) "go_on"=some (some (.ref dbgG)))
 (dbiG:W.isFn K (.ref dbgG)=true)
 (dblG:K.lookup dbgG=some ⟨dbocG,dbodG,.func (W.fnOf "go_on" "Doubter.go_on" (aD qO) (aB qO) (ag qO) .none dbkVG dbdcG dbpmG dbanG dbcdG dbctG),dbslG⟩)
 (dbcG:W.codeIn K dbcdG "Doubter.go_on"=true)
 (dbkG:W.keepIn K (.ref dbgG)=true)
 (dbaE:W.findIn K (.ref C) "look_at_trees"=some (some (.ref dbgE)))
 (dbiE:W.isFn K (.ref dbgE)=true)
 (dblE:K.lookup dbgE=some ⟨dbocE,dbodE,.func (W.fnOf "look_at_trees" "Doubter.look_at_trees" (aD iN) (aB iN) (ag iN) .none dbkVE dbdcE dbpmE dbanE dbcdE dbctE),dbslE⟩)
 (dbcE:W.codeIn K dbcdE "Doubter.look_at_trees"=true)
 (dbkE:W.keepIn K (.ref dbgE)=true)
 (dbaN:W.findIn K (.ref C) "twin"=some (some (.ref dbgN)))
 (dbiN:W.isFn K (.ref dbgN)=true)
 (dblN:K.lookup dbgN=some ⟨dbocN,dbodN,.func (W.fnOf "twin" "Doubter.twin" (aD kc) (aB kc) (ag kc) .none dbkVN dbdcN dbpmN dbanN dbcdN dbctN),dbslN⟩)
 (dbcN:W.codeIn K dbcdN "Doubter.twin"=true)
 (dbkN:W.keepIn K (.ref dbgN)=true)
 (dbpg:W.plainGet K C Str.empty=true)
 (dbhdi:W.hasDictIn K C=true)
 (dbpov:W.plainOver K C=true)
 (dbsat:W.findIn K (.ref C) "__setattr__"=some (some (.builtin "object.__setattr__")))
 (dbmki:W.makesIn K C=true)
 (dbkcl:W.keepIn K (.ref C)=true)
 (dbn_game:W.findIn K (.ref C) "game"=some none)
 (dbn_awaited:W.findIn K (.ref C) "awaited"=some none)
 (dbn_claims:W.findIn K (.ref C) "claims"=some none)
 (dbn_s:W.findIn K (.ref C) "s"=some none)
 (dbn_heard:W.findIn K (.ref C) "heard"=some none)
 (dbn_tossed:W.findIn K (.ref C) "tossed"=some none)
 (dbn_held:W.findIn K (.ref C) "held"=some none)
 (dbn_places:W.findIn K (.ref C) "places"=some none)
 (IW:W.nsIn K mainGlobals "Asking"=some (some (.ref CA)))
 (IX:W.findIn K (.ref CA) "__init__"=some (some (.ref asgI)))
 (IY:W.isFn K (.ref asgI)=true)
 (IZ:K.lookup asgI=some ⟨asocI,asodI,.func (W.fnOf "__init__" "Asking.__init__" (aD ki) (aB ki) (ag ki) .none askVI asdcI aspmI asanI ascdI asctI),asslI⟩)
 (I0:W.codeIn K ascdI "Asking.__init__"=true)
 (Ja:W.keepIn K (.ref asgI)=true)
 (Jb:W.findIn K (.ref CA) "plain_value"=some (some (.ref asgP)))
 (Jc:W.isFn K (.ref asgP)=true)
 (Jd:K.lookup asgP=some ⟨asocP,asodP,.func (W.fnOf "plain_value" "Asking.plain_value" (aD iP) (aB iP) (ag iP) .none askVP asdcP aspmP asanP ascdP asctP),asslP⟩)
 (Je:W.codeIn K ascdP "Asking.plain_value"=true)
 (GY:W.keepIn K (.ref asgP)=true)
 (Jf:W.findIn K (.ref CA) "coin_at"=some (some (.ref asgC)))
 (Jg:W.isFn K (.ref asgC)=true)
 (Jh:K.lookup asgC=some ⟨asocC,asodC,.func (W.fnOf "coin_at" "Asking.coin_at" (aD kj) (aB kj) (ag kj) .none askVC asdcC aspmC asanC ascdC asctC),asslC⟩)
 (Ji:W.codeIn K ascdC "Asking.coin_at"=true)
 (GZ:W.keepIn K (.ref asgC)=true)
 (Jj:W.findIn K (.ref CA) "true_numbers"=some (some (.ref asgN)))
 (Jk:W.isFn K (.ref asgN)=true)
 (Jl:K.lookup asgN=some ⟨asocN,asodN,.func (W.fnOf "true_numbers" "Asking.true_numbers" (aD gX) (aB gX) (ag gX) .none askVN asdcN aspmN asanN ascdN asctN),asslN⟩)
 (Jm:W.codeIn K ascdN "Asking.true_numbers"=true)
 (G7:W.keepIn K (.ref asgN)=true)
 (Jn:W.findIn K (.ref CA) "true_at"=some (some (.ref asgR)))
 (Jo:W.isFn K (.ref asgR)=true)
 (Jp:K.lookup asgR=some ⟨asocR,asodR,.func (W.fnOf "true_at" "Asking.true_at" (aD kh) (aB kh) (ag kh) .none askVR asdcR aspmR asanR ascdR asctR),asslR⟩)
 (Jq:W.codeIn K ascdR "Asking.true_at"=true)
 (G9:W.keepIn K (.ref asgR)=true)
 (Jr:W.plainGet K CA Str.empty=true)
 (Hq:W.hasDictIn K CA=true)
 (Hs:W.plainOver K CA=true)
 (Ht:W.findIn K (.ref CA) "__setattr__"=some (some (.builtin "object.__setattr__")))
 (Hu:W.makesIn K CA=true)
 (Hv:W.keepIn K (.ref CA)=true)
 (FF:W.findIn K (.ref CA) "game"=some none)
 (y4:W.findIn K (.ref CA) "number"=some none)
 (FG:W.findIn K (.ref CA) "many"=some none)
 (FH:W.findIn K (.ref CA) "held"=some none)
 (Hw:W.findIn K (.ref CA) "s"=some none)
 (y6:W.findIn K (.ref CA) "tossed"=some none)
 (y8:W.findIn K (.ref CA) "truths"=some none)
 (Js:W.nsIn K mainGlobals "Machine"=some (some (.ref CM)))
 (Jt:W.findIn K (.ref CM) "__init__"=some (some (.ref mcgI)))
 (Ju:W.isFn K (.ref mcgI)=true)
 (Jv:K.lookup mcgI=some ⟨mcocI,mcodI,.func (W.fnOf "__init__" "Machine.__init__" (aD jX) (aB jX) (ag jX) .none mckVI mcdcI mcpmI mcanI mccdI mcctI),mcslI⟩)
 (Jw:W.codeIn K mccdI "Machine.__init__"=true)
 (Jx:W.keepIn K (.ref mcgI)=true)
 (Jy:W.findIn K (.ref CM) "say"=some (some (.ref mcgS)))
 (Jz:W.isFn K (.ref mcgS)=true)
 (JA:K.lookup mcgS=some ⟨mcocS,mcodS,.func (W.fnOf "say" "Machine.say" (aD mV) (aB mV) (ag mV) .none mckVS mcdcS mcpmS mcanS mccdS mcctS),mcslS⟩)
 (JB:W.codeIn K mccdS "Machine.say"=true)
 (Ha:W.keepIn K (.ref mcgS)=true)
 (JC:W.findIn K (.ref CM) "do_row"=some (some (.ref mcgR)))
 (JD:W.isFn K (.ref mcgR)=true)
 (JE:K.lookup mcgR=some ⟨mcocR,mcodR,.func (W.fnOf "do_row" "Machine.do_row" (aD mX) (aB mX) (ag mX) .none mckVR mcdcR mcpmR mcanR mccdR mcctR),mcslR⟩)
 (JF:W.codeIn K mccdR "Machine.do_row"=true)
 (Hb:W.keepIn K (.ref mcgR)=true)
 (JG:W.findIn K (.ref CM) "twin"=some (some (.ref mcgN)))
 (JH:W.isFn K (.ref mcgN)=true)
 (JI:K.lookup mcgN=some ⟨mcocN,mcodN,.func (W.fnOf "twin" "Machine.twin" (aD jW) (aB jW) (ag jW) .none mckVN mcdcN mcpmN mcanN mccdN mcctN),mcslN⟩)
 (JJ:W.codeIn K mccdN "Machine.twin"=true)
 (Hc:W.keepIn K (.ref mcgN)=true)
 (JK:W.plainGet K CM Str.empty=true)
 (Hx:W.hasDictIn K CM=true)
 (Hy:W.plainOver K CM=true)
 (Hz:W.findIn K (.ref CM) "__setattr__"=some (some (.builtin "object.__setattr__")))
 (HC:W.makesIn K CM=true)
 (HD:W.keepIn K (.ref CM)=true)
 (FI:W.findIn K (.ref CM) "game"=some none)
 (y9:W.findIn K (.ref CM) "helper"=some none)
 (lB:W.findIn K (.ref CM) "next_round"=some none)
 (Ft:W.findIn K (.ref CM) "boxes"=some none)
 (gmr:W.nsIn K mainGlobals "MOST_ROWS"=some (some (.int 4000 tr)))
 (ge:W.nsIn K mainGlobals "FIELDS_END"=some (some (.int 1000000 te)))
 (gmo:W.nsIn K mainGlobals "MOST_ROWS_DONE"=some (some (.int 200 tm)))
 (z0:W.nsIn K mainGlobals "len"=some none) (z1:W.nsIn K mainGlobals "range"=some none) (z2:W.nsIn K mainGlobals "isinstance"=some none) (z3:W.nsIn K mainGlobals "int"=some none) (z4:W.nsIn K mainGlobals "bool"=some none) (z5:W.nsIn K mainGlobals "list"=some none) (z6:W.nsIn K mainGlobals "tuple"=some none) (z7:W.nsIn K mainGlobals "max"=some none) (z8:W.nsIn K mainGlobals "min"=some none) (z9:W.nsIn K mainGlobals "reversed"=some none) (z10:W.nsIn K mainGlobals "enumerate"=some none) (z11:W.nsIn K mainGlobals "sum"=some none) (z12:W.nsIn K mainGlobals "all"=some none) (z13:W.nsIn K mainGlobals "zip"=some none) (z14:W.nsIn K mainGlobals "dict"=some none) :
 ∃fd:FuncData,(∀(s:Shared) (v:Value),BindsTo s fd ⟨[v],[]⟩ [("_law_script",v)])/\∀base:Heap,K.In base->base.Ns mainGlobals mg->FnOk l.prog w K mg base CX0 37 fa fd ["_law_script"] (wK K):=by
 have e:=hfa.symm.trans (W.mg_of X G a48);cases e;have zr:=aN (st:=gj) l0 c0 k0;have Gk:=W.mg_of X G a0;have pE:=aN (st:=dR) l1 c1 k1;have FJ:=W.mg_of X G a1;have tI:=aN (st:=eK) l2 c2 k2;have FW:=W.mg_of X G a2;have Ar:=aN (st:=fQ) l3 c3 k3;have Gn:=W.mg_of X G a3;have tJ:=aN (st:=eR) l4 c4 k4;have FX:=W.mg_of X G a4;have lD:=aN (st:=df) l5 c5 k5;have E4:=W.mg_of X G a5;have A0:=aN (st:=fY) l6 c6 k6;have Go:=W.mg_of X G a6;have ik:=aN (st:=bO) l7 c7 k7;have oe:=W.mg_of X G a7;have lP:=aN (st:=du) l8 c8 k8;have E5:=W.mg_of X G a8;have B0:=aN (st:=eF) l9 c9 k9;have Cj:=W.mg_of X G a9;have FK:=aN (st:=iJ) l10 c10 k10;have Hd:=W.mg_of X G a10;have Ck:=aN (st:=gn) l11 c11 k11;have Gp:=W.mg_of X G a11;have mE:=aN (st:=di) l12 c12 k12;have E6:=W.mg_of X G a12;have Fu:=aN (st:=fX) l13 c13 k13;have Fv:=W.mg_of X G a13;have C0:=aN (st:=eD) l14 c14 k14;have C1:=W.mg_of X G a14;have t5:=aN (st:=eT) l15 c15 k15;have FY:=W.mg_of X G a15;have t8:=aN (st:=eQ) l16 c16 k16;have FZ:=W.mg_of X G a16;have C2:=aN (st:=fV) l17 c17 k17;have Gq:=W.mg_of X G a17;have C3:=aN (st:=eC) l18 c18 k18;have C4:=W.mg_of X G a18;have C7:=aN (st:=fZ) l19 c19 k19;have Gs:=W.mg_of X G a19;have Fw:=aN (st:=gV) l20 c20 k20;have GJ:=W.mg_of X G a20;have Gi:=aN (st:=jV) l21 c21 k21;have IB:=W.mg_of X G a21;have jv:=aN (st:=cU) l22 c22 k22;have C8:=W.mg_of X G a22;have pF:=aN (st:=dS) l23 c23 k23;have FL:=W.mg_of X G a23;have FM:=aN (st:=iE) l24 c24 k24;have He:=W.mg_of X G a24;have Fx:=aN (st:=gT) l25 c25 k25;have GK:=W.mg_of X G a25;have je:=aN (st:=cu) l26 c26 k26;have jt:=W.mg_of X G a26;have t9:=aN (st:=eO) l27 c27 k27;have Gc:=W.mg_of X G a27;have C9:=aN (st:=eA) l28 c28 k28;have D1:=W.mg_of X G a28;have mQ:=aN (st:=dj) l29 c29 k29;have E7:=W.mg_of X G a29;have u7:=aN (st:=eP) l30 c30 k30;have Ge:=W.mg_of X G a30;have jw:=aN (st:=cV) l31 c31 k31;have D4:=W.mg_of X G a31;have qu:=aN (st:=dO) l32 c32 k32;have FN:=W.mg_of X G a32;have qv:=aN (st:=dP) l33 c33 k33;have FO:=W.mg_of X G a33;have u8:=aN (st:=eI) l34 c34 k34;have Gf:=W.mg_of X G a34;have FP:=aN (st:=iI) l35 c35 k35;have Hf:=W.mg_of X G a35;have FQ:=aN (st:=iF) l36 c36 k36;have Hg:=W.mg_of X G a36;have Fy:=aN (st:=bu) l37 c37 k37;have GN:=W.mg_of X G a37;have FR:=aN (st:=hV) l38 c38 k38;have FS:=W.mg_of X G a38;have q0:=aN (st:=dA) l39 c39 k39;have rK:=W.mg_of X G a39;have FT:=aN (st:=iG) l40 c40 k40;have Hi:=W.mg_of X G a40;have r6:=aN (st:=dQ) l41 c41 k41;have FU:=W.mg_of X G a41;have Fz:=aN (st:=gU) l42 c42 k42;have GO:=W.mg_of X G a42;have FV:=aN (st:=iH) l43 c43 k43;have Hj:=W.mg_of X G a43;have u9:=aN (st:=eJ) l44 c44 k44;have Gh:=W.mg_of X G a44;have D6:=aN (st:=gi) l45 c45 k45;have Gv:=W.mg_of X G a45;have Gj:=aN (st:=jZ) l46 c46 k46;have IC:=W.mg_of X G a46;have D7:=aN (st:=gg) l47 c47 k47;have Gw:=W.mg_of X G a47;have JL:=aN (st:=lC) l48 c48 k48;have B:Bl mg:=⟨W.mg_none_of X G z0,W.mg_none_of X G z1,W.mg_none_of X G z2,W.mg_none_of X G z3,W.mg_none_of X G z4,W.mg_none_of X G z5,W.mg_none_of X G z6,W.mg_none_of X G z7,W.mg_none_of X G z8,W.mg_none_of X G z9,W.mg_none_of X G z10,W.mg_none_of X G z11,W.mg_none_of X G z12,W.mg_none_of X G z13,W.mg_none_of X G z14⟩
 refine⟨W.fnOf "law" "law" (aD lC) (aB lC) (ag lC) .none kV48 dc48 pm48 an48 cd48 ct48,fun s v=>.of_eq rfl,fun base _ _=>?_⟩;have TG:GTxt K mg CG:=⟨⟨IV,Hk,Hl,Hm⟩,pC,E8,E9,tH,W.mg_of X G ID⟩
 have T:DTxt K mg C:=⟨⟨dbpg,dbhdi,dbpov,dbsat⟩,dbn_game,dbn_awaited,dbn_claims,dbn_s,dbn_heard,dbn_tossed,dbn_held,dbn_places,W.mg_of X G dbgg⟩
 have TA:ATxt K mg CA:=⟨⟨Jr,Hq,Hs,Ht⟩,FF,y4,FG,FH,Hw,y6,y8,W.mg_of X G IW⟩
 have TM:MTxt K mg CM:=⟨⟨JK,Hx,Hy,Hz⟩,FI,y9,lB,Ft,W.mg_of X G Js⟩
 have HE:=aN (st:=ka) IG IH II;have JM:=HE.binds (ps:=["self","switches","trees","field"]) fun _ _ _ _ _ _ us hl=>by obtain⟨u0,u1,u2,u3,rfl⟩:=qe hl;rfl
 have HF:=aN (st:=mY) IL IM GQ;have HG:=HF.binds (ps:=["self","numbers","s"]) fun _ _ _ _ _ _ us hl=>by obtain⟨u0,u1,u2,rfl⟩:=jG hl;rfl
 have HH:Meth K CG "mix" gmgM:=⟨IJ,IK,GQ⟩
 have HI:=aN (st:=iK) IP IQ GV;have HJ:=HI.binds (ps:=["self","point","s"]) fun _ _ _ _ _ _ us hl=>by obtain⟨u0,u1,u2,rfl⟩:=jG hl;rfl
 have HK:Meth K CG "worth_at" gmgW:=⟨IN,IO,GV⟩
 have HL:=aN (st:=iL) IT IU GX;have HM:=HL.binds (ps:=["self"]) fun _ _ _ _ _ _ us hl=>by obtain⟨u0,rfl⟩:=gI hl;rfl
 have HN:Meth K CG "coins" gmgC:=⟨IR,IS,GX⟩
 have HP:=aN (st:=ke) dblI dbcI dbkI;have Gx:=HP.binds (ps:=["self","game"]) fun _ _ _ _ _ _ us hl=>by obtain⟨u0,u1,rfl⟩:=fF hl;rfl
 have HQ:=aN (st:=iM) dblW dbcW dbkW;have JN:=HQ.binds (ps:=["self"]) fun _ _ _ _ _ _ us hl=>by obtain⟨u0,rfl⟩:=gI hl;rfl
 have JO:Meth K C "waits" dbgW:=⟨dbaW,dbiW,dbkW⟩
 have HR:=aN (st:=ni) dblU dbcU dbkU;have JP:=HR.binds (ps:=["self"]) fun _ _ _ _ _ _ us hl=>by obtain⟨u0,rfl⟩:=gI hl;rfl
 have JQ:Meth K C "due" dbgU:=⟨dbaU,dbiU,dbkU⟩
 have HS:=aN (st:=kf) dblH dbcH dbkH;have JR:=HS.binds (ps:=["self","values"]) fun _ _ _ _ _ _ us hl=>by obtain⟨u0,u1,rfl⟩:=fF hl;rfl
 have JS:Meth K C "hear" dbgH:=⟨dbaH,dbiH,dbkH⟩
 have HU:=aN (st:=kd) dblT dbcT dbkT;have JT:=HU.binds (ps:=["self","r"]) fun _ _ _ _ _ _ us hl=>by obtain⟨u0,u1,rfl⟩:=fF hl;rfl
 have JU:Meth K C "toss" dbgT:=⟨dbaT,dbiT,dbkT⟩
 have HV:=aN (st:=gW) dblC dbcC dbkC;have JV:=HV.binds (ps:=["self","values"]) fun _ _ _ _ _ _ us hl=>by obtain⟨u0,u1,rfl⟩:=fF hl;rfl
 have JW:Meth K C "hear_claims" dbgC:=⟨dbaC,dbiC,dbkC⟩
 have HW:=aN (st:=iO) dblB dbcB dbkB;have HX:=HW.binds (ps:=["self","s"]) fun _ _ _ _ _ _ us hl=>by obtain⟨u0,u1,rfl⟩:=fF hl;rfl
 have HY:Meth K C "begin_rounds" dbgB:=⟨dbaB,dbiB,dbkB⟩
 have HZ:=aN (st:=mZ) dblR dbcR dbkR;have JX:=HZ.binds (ps:=["self","values"]) fun _ _ _ _ _ _ us hl=>by obtain⟨u0,u1,rfl⟩:=fF hl;rfl
 have JY:Meth K C "hear_row" dbgR:=⟨dbaR,dbiR,dbkR⟩
 have Ia:=aN (st:=qO) dblG dbcG dbkG;have Ib:=Ia.binds (ps:=["self"]) fun _ _ _ _ _ _ us hl=>by obtain⟨u0,rfl⟩:=gI hl;rfl
 have Ic:Meth K C "go_on" dbgG:=⟨dbaG,dbiG,dbkG⟩
 have Id:=aN (st:=iN) dblE dbcE dbkE;have JZ:=Id.binds (ps:=["self"]) fun _ _ _ _ _ _ us hl=>by obtain⟨u0,rfl⟩:=gI hl;rfl
 have J0:Meth K C "look_at_trees" dbgE:=⟨dbaE,dbiE,dbkE⟩
 have Ie:=aN (st:=kc) dblN dbcN dbkN;have J1:=Ie.binds (ps:=["self"]) fun _ _ _ _ _ _ us hl=>by obtain⟨u0,rfl⟩:=gI hl;rfl
 have J2:Meth K C "twin" dbgN:=⟨dbaN,dbiN,dbkN⟩
 have Ih:=aN (st:=ki) IZ I0 Ja;have J6:=Ih.binds (ps:=["self","game","number","many","due","s","coins"]) fun _ _ _ _ _ _ us hl=>by obtain⟨u0,u1,u2,u3,u4,u5,u6,rfl⟩:=len7 hl;rfl
 have Ii:=aN (st:=iP) Jd Je GY;have J8:=Ii.binds (ps:=["self","word"]) fun _ _ _ _ _ _ us hl=>by obtain⟨u0,u1,rfl⟩:=fF hl;rfl
 have J9:Meth K CA "plain_value" asgP:=⟨Jb,Jc,GY⟩
 have Ij:=aN (st:=kj) Jh Ji GZ;have Ka:=Ij.binds (ps:=["self","place"]) fun _ _ _ _ _ _ us hl=>by obtain⟨u0,u1,rfl⟩:=fF hl;rfl
 have Kb:Meth K CA "coin_at" asgC:=⟨Jf,Jg,GZ⟩
 have Ik:=aN (st:=gX) Jl Jm G7;have Kc:=Ik.binds (ps:=["self"]) fun _ _ _ _ _ _ us hl=>by obtain⟨u0,rfl⟩:=gI hl;rfl
 have Kd:Meth K CA "true_numbers" asgN:=⟨Jj,Jk,G7⟩
 have Im:=aN (st:=kh) Jp Jq G9;have Ke:=Im.binds (ps:=["self","place"]) fun _ _ _ _ _ _ us hl=>by obtain⟨u0,u1,rfl⟩:=fF hl;rfl
 have Kf:Meth K CA "true_at" asgR:=⟨Jn,Jo,G9⟩
 have Ip:=aN (st:=jX) Jv Jw Jx;have Gy:=Ip.binds (ps:=["self","game","helper"]) fun _ _ _ _ _ _ us hl=>by obtain⟨u0,u1,u2,rfl⟩:=jG hl;rfl
 have Iq:=aN (st:=mV) JA JB Ha;have Kg:=Iq.binds (ps:=["self","many","due","s","coins"]) fun _ _ _ _ _ _ us hl=>by obtain⟨u0,u1,u2,u3,u4,rfl⟩:=EL hl;rfl
 have Kh:Meth K CM "say" mcgS:=⟨Jy,Jz,Ha⟩
 have Ir:=aN (st:=mX) JE JF Hb;have Ki:=Ir.binds (ps:=["self","place","said","asking"]) fun _ _ _ _ _ _ us hl=>by obtain⟨u0,u1,u2,u3,rfl⟩:=qe hl;rfl
 have Kj:Meth K CM "do_row" mcgR:=⟨JC,JD,Hb⟩
 have Iu:=aN (st:=jW) JI JJ Hc;have Kk:=Iu.binds (ps:=["self"]) fun _ _ _ _ _ _ us hl=>by obtain⟨u0,rfl⟩:=gI hl;rfl
 have Kl:Meth K CM "twin" mcgN:=⟨JG,JH,Hc⟩
 have iX:=Cal.of (P:=l.prog) (w:=w) (base:=base) FP (yB FP B.len) Hf (fun _ _ _ _ _ _ us hl=>by obtain⟨u0,u1,rfl⟩:=fF hl;rfl);have aQ:=Cal.of (P:=l.prog) (w:=w) (base:=base) FQ (yy FQ ) Hg (fun _ _ _ _ _ _ us hl=>by obtain⟨u0,u1,rfl⟩:=fF hl;rfl);have m5:=Cal.of (P:=l.prog) (w:=w) (base:=base) zr (ua zr ) Gk (fun _ _ _ _ _ _ us hl=>by obtain⟨u0,rfl⟩:=gI hl;rfl);have fk:=Cal.of (P:=l.prog) (w:=w) (base:=base) pE (qC pE ) FJ (fun _ _ _ _ _ _ us hl=>by obtain⟨u0,u1,rfl⟩:=fF hl;rfl);have fq:=Cal.of (P:=l.prog) (w:=w) (base:=base) tI (sw tI B) FW (fun _ _ _ _ _ _ us hl=>by obtain⟨u0,u1,rfl⟩:=fF hl;rfl);have fe:=Cal.of (P:=l.prog) (w:=w) (base:=base) A0 (tW A0 ) Go (fun _ _ _ _ _ _ us hl=>by obtain⟨u0,u1,rfl⟩:=fF hl;rfl);have fo:=Cal.of (P:=l.prog) (w:=w) (base:=base) ik (jq ik B fe fk) oe (fun _ _ _ _ _ _ us hl=>by obtain⟨u0,u1,rfl⟩:=fF hl;rfl);have ir:=Cal.of (P:=l.prog) (w:=w) (base:=base) lD (oF lD B fe fo) E4 (fun _ _ _ _ _ _ us hl=>by obtain⟨u0,u1,u2,rfl⟩:=jG hl;rfl);have b9:=Cal.of (P:=l.prog) (w:=w) (base:=base) Ar (tU Ar B ir) Gn (fun _ _ _ _ _ _ us hl=>by obtain⟨u0,u1,u2,rfl⟩:=jG hl;rfl);have kF:=Cal.of (P:=l.prog) (w:=w) (base:=base) tJ (sB tJ b9) FX (fun _ _ _ _ _ _ us hl=>by obtain⟨u0,u1,rfl⟩:=fF hl;rfl);have bp:=Cal.of (P:=l.prog) (w:=w) (base:=base) mE (oG mE ) E6 (fun _ _ _ _ _ _ us hl=>by obtain⟨u0,rfl⟩:=gI hl;rfl);have i7:=Cal.of (P:=l.prog) (w:=w) (base:=base) Fu (pX Fu B Fv bp 10) Fv (fun _ _ _ _ _ _ us hl=>by obtain⟨u0,rfl⟩:=gI hl;rfl);have eZ:=Cal.of (P:=l.prog) (w:=w) (base:=base) C0 (om C0 C1 bp 10) C1 (fun _ _ _ _ _ _ us hl=>by obtain⟨u0,rfl⟩:=gI hl;rfl);have dz:=Cal.of (P:=l.prog) (w:=w) (base:=base) mQ (oH mQ ) E7 (fun _ _ _ _ _ _ us hl=>by obtain⟨u0,u1,u2,u3,rfl⟩:=qe hl;rfl);have fN:=Cal.of (P:=l.prog) (w:=w) (base:=base) C9 (oi C9 D1 dz 10) D1 (fun _ _ _ _ _ _ us hl=>by obtain⟨u0,u1,u2,u3,rfl⟩:=qe hl;rfl);have j5:=Cal.of (P:=l.prog) (w:=w) (base:=base) u7 (sy u7 B.max eZ) Ge (fun _ _ _ _ _ _ us hl=>by obtain⟨u0,u1,rfl⟩:=fF hl;rfl);have g9:=Cal.of (P:=l.prog) (w:=w) (base:=base) jw (ny jw B.enumerate) D4 (fun _ _ _ _ _ _ us hl=>by obtain⟨u0,rfl⟩:=gI hl;rfl);have i9:=Cal.of (P:=l.prog) (w:=w) (base:=base) qu (qz qu eZ) FN (fun _ _ _ _ _ _ us hl=>by obtain⟨u0,u1,rfl⟩:=fF hl;rfl);have jb:=Cal.of (P:=l.prog) (w:=w) (base:=base) qv (qA qv ⟨te,W.mg_of X G ge⟩ m5) FO (fun _ _ _ _ _ _ us hl=>by obtain⟨u0,rfl⟩:=gI hl;rfl);have j7:=Cal.of (P:=l.prog) (w:=w) (base:=base) u8 (su u8 B.max) Gf (fun _ _ _ _ _ _ us hl=>by obtain⟨u0,u1,rfl⟩:=fF hl;rfl);have gQ:=Cal.of (P:=l.prog) (w:=w) (base:=base) Fy (vw Fy B.range aQ) GN (fun _ _ _ _ _ _ us hl=>by obtain⟨u0,u1,rfl⟩:=fF hl;rfl);have gF:=Cal.of (P:=l.prog) (w:=w) (base:=base) FR (qS FR B.len FS aQ 10) FS (fun _ _ _ _ _ _ us hl=>by obtain⟨u0,u1,u2,u3,rfl⟩:=qe hl;rfl);have cP:=Cal.of (P:=l.prog) (w:=w) (base:=base) q0 (kI q0 rK 10) rK (fun _ _ _ _ _ _ us hl=>by obtain⟨u0,rfl⟩:=gI hl;rfl);have iq:=Cal.of (P:=l.prog) (w:=w) (base:=base) FT (yz FT B.len B.max cP) Hi (fun _ _ _ _ _ _ us hl=>by obtain⟨u0,u1,rfl⟩:=fF hl;rfl);have fh:=Cal.of (P:=l.prog) (w:=w) (base:=base) r6 (qB r6 B.range) FU (fun _ _ _ _ _ _ us hl=>by obtain⟨u0,rfl⟩:=gI hl;rfl);have o5:=Cal.of (P:=l.prog) (w:=w) (base:=base) Fz (vx Fz aQ fh) GO (fun _ _ _ _ _ _ us hl=>by obtain⟨u0,u1,rfl⟩:=fF hl;rfl);have v5:=Cal.of (P:=l.prog) (w:=w) (base:=base) FV (yA FV B.range B.tuple aQ gQ gF iq o5) Hj (fun _ _ _ _ _ _ us hl=>by obtain⟨u0,u1,u2,rfl⟩:=jG hl;rfl);have lA:=Cal.of (P:=l.prog) (w:=w) (base:=base) u9 (sv u9 B cP) Gh (fun _ _ _ _ _ _ us hl=>by obtain⟨u0,rfl⟩:=gI hl;rfl);have j9:=Cal.of (P:=l.prog) (w:=w) (base:=base) t5 (sC t5 B TG i7) FY (fun _ _ _ _ _ _ us hl=>by obtain⟨u0,rfl⟩:=gI hl;rfl);have Km:=Bb (P:=l.prog) (w:=w) (base:=base) HE TG B.tuple B.len j5 g9 i9 jb j7;have Iv:=Dd (P:=l.prog) (w:=w) (base:=base) HF TG B.reversed;have Ix:=yD (P:=l.prog) (w:=w) (base:=base) HI TG HH Iv HG fN;have Iy:=yE (P:=l.prog) (w:=w) (base:=base) HL TG B.len;have Kn:=yG (P:=l.prog) (w:=w) (base:=base) Id B T TG HK Ix HJ j9;have Iz:=EG (P:=l.prog) (w:=w) (base:=base) Ia B T TG J0 Kn JZ;have IA:=yH (P:=l.prog) (w:=w) (base:=base) HW T TG HH Iv HG Ic Iz Ib;have Ko:=vz (P:=l.prog) (w:=w) (base:=base) HV B T TG HY IA HX;have Kp:=De (P:=l.prog) (w:=w) (base:=base) HZ B T TG kF;have Kq:=Bf (P:=l.prog) (w:=w) (base:=base) HS B T TG fq JW Ko JV JY Kp JX;have Kr:=Bd (P:=l.prog) (w:=w) (base:=base) HU B T TG fq b9 HY IA HX Ic Iz Ib;have Gz:=Be (P:=l.prog) (w:=w) (base:=base) HP B T TG;have Kt:=yF (P:=l.prog) (w:=w) (base:=base) HQ T;have Ku:=Dg (P:=l.prog) (w:=w) (base:=base) HR T;have dM:=Cal.of (P:=l.prog) (w:=w) (base:=base) lP (oI lP B.range) E5 (fun _ _ _ _ _ _ us hl=>by obtain⟨u0,rfl⟩:=gI hl;rfl);have iA:=Cal.of (P:=l.prog) (w:=w) (base:=base) FK (yC FK ) Hd (fun _ _ _ _ _ _ us hl=>by obtain⟨u0,u1,u2,rfl⟩:=jG hl;rfl);have gw:=Cal.of (P:=l.prog) (w:=w) (base:=base) B0 (oo B0 Cj iA 12) Cj (fun _ _ _ _ _ _ us hl=>by obtain⟨u0,u1,u2,rfl⟩:=jG hl;rfl);have m7:=Cal.of (P:=l.prog) (w:=w) (base:=base) Ck (ub Ck B.len dM gw) Gp (fun _ _ _ _ _ _ us hl=>by obtain⟨u0,u1,rfl⟩:=fF hl;rfl);have kH:=Cal.of (P:=l.prog) (w:=w) (base:=base) t8 (sA t8 TG m7) FZ (fun _ _ _ _ _ _ us hl=>by obtain⟨u0,rfl⟩:=gI hl;rfl);have m8:=Cal.of (P:=l.prog) (w:=w) (base:=base) C2 (tV C2 B TG HK Ix HJ dM) Gq (fun _ _ _ _ _ _ us hl=>by obtain⟨u0,u1,u2,rfl⟩:=jG hl;rfl);have o7:=Cal.of (P:=l.prog) (w:=w) (base:=base) Fw (vy Fw fk) GJ (fun _ _ _ _ _ _ us hl=>by obtain⟨u0,u1,u2,rfl⟩:=jG hl;rfl);have gy:=Cal.of (P:=l.prog) (w:=w) (base:=base) C7 (tX C7 o7) Gs (fun _ _ _ _ _ _ us hl=>by obtain⟨u0,u1,u2,u3,rfl⟩:=qe hl;rfl);have Kv:=Bh (P:=l.prog) (w:=w) (base:=base) Ih B TA;have Kw:=yI (P:=l.prog) (w:=w) (base:=base) Ii TA TG;have Kx:=Bi (P:=l.prog) (w:=w) (base:=base) Ij B TA TG;have Ky:=vA (P:=l.prog) (w:=w) (base:=base) Ik TA kH m8;have Kz:=Bg (P:=l.prog) (w:=w) (base:=base) Im B TA TG Kd Ky Kc b9;have AF:AskF l.prog w K mg base CA CG _ _ _ _ _ _:=⟨J9,Kw,J8,Kb,Kx,Ka,Kf,Kz,Ke⟩
 have cI:=Cal.of (P:=l.prog) (w:=w) (base:=base) C3 (oj C3 C4 TA TG AF gy 5) C4 (fun _ _ _ _ _ _ us hl=>by obtain⟨u0,u1,u2,rfl⟩:=jG hl;rfl);have GE:=AZ (P:=l.prog) (w:=w) (base:=base) Ip TM;have KA:=Dc (P:=l.prog) (w:=w) (base:=base) Ir B TM cI;have KB:=Da (P:=l.prog) (w:=w) (base:=base) Iq B TM TA ⟨tm,W.mg_of X G gmo⟩ ⟨Hu,IX,IY,Hv⟩ Kv J6 Kj KA Ki;have Y:Ways l.prog w K mg base C CM CG _ _ _ _ _ _ _ _ _ _:=⟨JO,Kt,JN,JQ,Ku,JP,JS,Kq,JR,JU,Kr,JT,Kh,KB,Kg⟩
 have MDk:Mk K C dbgI:=⟨dbmki,dbaI,dbiI,dbkcl⟩
 have MMk:Mk K CM mcgI:=⟨HC,Jt,Ju,HD⟩
 have KC:=Bc (P:=l.prog) (w:=w) (base:=base) Ie T MDk Gz Gx;have KD:=AY (P:=l.prog) (w:=w) (base:=base) Iu B TM MMk GE Gy;have Z:Twins l.prog w K mg base C CM CG _ _ _ _:=⟨J2,KC,J1,Kl,KD,Kk⟩
 have b6:=Cal.of (P:=l.prog) (w:=w) (base:=base) pF (qD pF B T TM Y) FL (fun _ _ _ _ _ _ us hl=>by obtain⟨u0,u1,rfl⟩:=fF hl;rfl);have v6:=Cal.of (P:=l.prog) (w:=w) (base:=base) FM (yx FM B T TM Y MDk Gz Gx MMk GE Gy b6) He (fun _ _ _ _ _ _ us hl=>by obtain⟨u0,u1,u2,rfl⟩:=jG hl;rfl);have E1:=Cal.of (P:=l.prog) (w:=w) (base:=base) Gi (AX Gi B) IB (fun _ _ _ _ _ _ us hl=>by obtain⟨u0,u1,rfl⟩:=fF hl;rfl);have ii:=Cal.of (P:=l.prog) (w:=w) (base:=base) jv (nv jv TG HN Iy HM E1) C8 (fun _ _ _ _ _ _ us hl=>by obtain⟨u0,rfl⟩:=gI hl;rfl);have ft:=Cal.of (P:=l.prog) (w:=w) (base:=base) t9 (sx t9 B TG HN Iy HM) Gc (fun _ _ _ _ _ _ us hl=>by obtain⟨u0,u1,rfl⟩:=fF hl;rfl);have d8:=Cal.of (P:=l.prog) (w:=w) (base:=base) je (iy je jt B T TM TG Y Z b6 ft 8) jt (fun _ _ _ _ _ _ us hl=>by obtain⟨u0,u1,u2,rfl⟩:=jG hl;rfl);have o9:=Cal.of (P:=l.prog) (w:=w) (base:=base) Fx (vt Fx T TM ⟨tr,W.mg_of X G gmr⟩ MDk Gz Gx MMk GE Gy ii d8) GK (fun _ _ _ _ _ _ us hl=>by obtain⟨u0,u1,rfl⟩:=fF hl;rfl);have n8:=Cal.of (P:=l.prog) (w:=w) (base:=base) D6 (tZ D6 ) Gv (fun _ _ _ _ _ _ us hl=>by obtain⟨u0,u1,u2,u3,rfl⟩:=qe hl;rfl);have E3:=Cal.of (P:=l.prog) (w:=w) (base:=base) Gj (Ba Gj B) IC (fun _ _ _ _ _ _ us hl=>by obtain⟨u0,u1,u2,u3,u4,rfl⟩:=EL hl;rfl);have oa:=Cal.of (P:=l.prog) (w:=w) (base:=base) D7 (tY D7 B) Gw (fun _ _ _ _ _ _ us hl=>by obtain⟨u0,u1,u2,u3,rfl⟩:=qe hl;rfl);exact EF JL B TG ⟨Hn,IE,IF,Ho⟩ Km JM iX aQ gQ v5 iq fh lA n8 E3 oa v6 o9
theorem walk{l:PySem.W.OpenLaw}{q:Program}{loose:List Str}{XP:(Str->Option Value)->Heap->Prop}{YP:World->Heap->Prop}{d:DefRec}{K:Params->PySem.W.Frag}(hn:l.most=some 63)(hdf:d.params.defaults=[])
 (hY:∀(w:World)(h:Heap),YP w h->(K w.params).In h)
 (F:∀(w:World)(mg:Str->Option Value)(fa:Addr)(h:Heap),(K w.params).In h->h.Ns mainGlobals mg->mg d.name=some (.ref fa) ->
  ∃fd:FuncData,(∀(s:Shared) (u:Value),BindsTo s fd ⟨[u],[]⟩ [("_law_script",u)])/\∀base:Heap,(K w.params).In base->base.Ns mainGlobals mg->FnOk l.prog w (K w.params) mg base CX0 37 fa fd ["_law_script"] (wK (K w.params))) :
 PySem.W.WalkO q loose XP YP l.row.toRowW d [] (fun f vs=>PySem.call f vs):=
 L2.walk_of (n:=63) (k:=37) (x:="_law_script") (CX:=fun _=>CX0) (sp:=fun w=>wK (K w.params)) hn (by decide) hdf ⟨rfl,by decide,by decide⟩ hY F (fun _ _ a ns hl _ hS=>⟨a,ns,rfl,hS,hl,fun _=>rfl⟩) fun _ _ _ _ _ z=>z
end Mine
namespace PySem.W.Fast
def tw7420029798448622979:=()
def tw465444805771666325:=()
def tw2436079383720962525:=()
def tw13244645835853354678:=()
def tw15781940767645142951:=()
def tw2845742235344124713:=()
def tw7864251707061888240:=()
def tw13275008625024719348:=()
def tw635813187515056486:=()
def tw15818344695099171329:=()
def tw7265520805301198741:=()
def tw10571235239595335130:=()
def tw1061667312887350028:=()
def tw4518854347430443574:=()
def tw10030251341186253086:=()
def tw9089548216913262450:=()
def tw15251506858856828164:=()
def tw12481567283341646623:=()
def tw10537653911693569267:=()
def tw5724233867936845922:=()
def tw3838812158947636755:=()
def tw5996982564222257446:=()
def tw12295049346019844540:=()
def tw5441004397896973158:=()
def tw15630462177743041514:=()
def tw18273957031632889419:=()
def tw1485683520567697002:=()
def tw4043834899345876061:=()
def tw3740207436354212775:=()
def tw13327573041876140490:=()
def tw9025678330443554890:=()
def tw15586429380464063585:=()
def tw13982481476299268266:=()
def tw13725731332775540566:=()
def tw14030296752008878185:=()
def tw1418095566323061941:=()
def tw1311994811200514882:=()
def tw16369977754980869874:=()
def tw13083969832323738647:=()
def tw10350274601177717119:=()
def tw15143661850298513951:=()
def tw16918528108120030216:=()
def tw1369933516593903437:=()
def tw11817562973076114068:=()
def tw4038371472179584209:=()
def tw6598007816920544005:=()
def tw14025805692159474386:=()
def tw9226206264426960473:=()
def tw7156896338735260009:=()
def tw4575362929916352261:=()
def tw4338900495766986007:=()
def tw16339448793800100965:=()
def tw14127879393862896608:=()
def tw15531210920537176828:=()
def tw8360400241584183002:=()
def tw17164921949825992591:=()
def tw10595017519208992855:=()
def tw13330798123414799892:=()
def tw9602448343334984039:=()
def tw15610091996351238140:=()
def tw16390215539287470966:=()
def tw6501603045996600021:=()
def tw3339553674827214276:=()
def tw10044452107208308806:=()
def tw9238132918828649592:=()
def tw12943703148678814342:=()
def tw2156837553044530974:=()
def tw2544826520339152719:=()
def tw13995416996373895693:=()
def tw13781362582339369644:=()
def tw8922344275184803868:=()
def tw6998237107265873959:=()
def tw14277296168318250108:=()
def tw3147938232766937534:=()
def tw11725023054017153024:=()
def tw4718124513393177026:=()
def tw6102502212765098682:=()
def tw15699132957099865824:=()
def tw15313993547823643411:=()
def tw14292077610403838208:=()
def tw12429995345259424076:=()
def tw5086779227491250065:=()
def tw15671499684428484938:=()
def tw7124885058757328233:=()
def tw10817021142818713689:=()
def tw1132476097814451164:=()
def tw15522374145193556824:=()
def tw5106032909007134115:=()
def tw12474950491242064053:=()
def tw5064699293014565739:=()
def tw16633891155608499243:=()
def tw13441007903695676274:=()
def tw9337774904008377345:=()
def tw7327627270951181840:=()
def tw364756510808181164:=()
def tw6521858854383680828:=()
def tw9366264047761613113:=()
def tw14020492110465893674:=()
def tw2633742735975081888:=()
def tw525373816962095974:=()
def tw2084428810405829051:=()
def tw5482778194430149950:=()
def tw16867771020430124816:=()
def tw221518429018063271:=()
def tw1556453282000991393:=()
def tw5801220134245409639:=()
def tw6071081715858137497:=()
def tw1574688877967993494:=()
def tw5688968022511259750:=()
def tw962728406472248773:=()
def tw15801512483116478571:=()
def tw18076356048154592163:=()
def tw5889738915126982391:=()
def tw4634312924182761508:=()
def tw2047960105018443285:=()
def tw6117422675709443564:=()
def tw3688386728352549137:=()
def tw2523181107214873369:=()
def tw37871085123751245:=()
def tw7775967579794081684:=()
def tw5043783158306610693:=()
def tw11646403648031436526:=()
def tw11700984111317988283:=()
def tw2583720117515071340:=()
def tw7388090797391396965:=()
def tw5163942607042837235:=()
def tw3150079491959002485:=()
def tw9020295244969322266:=()
def tw13165500218458595934:=()
def tw15028504573540264596:=()
def tw1371771887565603941:=()
def tw203446375212524559:=()
def tw36479134866112917:=()
def tw8965703166515677875:=()
def tw14017404928378090962:=()
def tw5139292324699641083:=()
def tw8203318620008168857:=()
def tw16835718720871029607:=()
def tw14548441557981356995:=()
def tw6482452972199327600:=()
def tw17646007318296694821:=()
def tw17670275487185435535:=()
def tw16566521604707969710:=()
def tw6550151913227212498:=()
def tw14615467861170417678:=()
def tw15002330123405035248:=()
def tw1196678520742136070:=()
def tw8263037926565538238:=()
def tw5283856235945088689:=()
def tw3462108673112954051:=()
def tw3560961580081757872:=()
def tw13503065306679724880:=()
def tw9151542170550404793:=()
def tw15857060006924552953:=()
def tw15516254886805776631:=()
def tw4968091223647964609:=()
def tw13470492894440590390:=()
def tw771570018076685147:=()
def tw3405589672872003534:=()
def tw16714297897433772372:=()
def tw6765406340533753637:=()
def tw7503246652163279570:=()
def tw8415663099435565620:=()
def tw8710632445409746831:=()
def tw5741570082242266621:=()
def tw7822462636758260234:=()
def tw2153956821808475955:=()
def tw17710119378148418573:=()
def tw7330012665637743992:=()
def tw6733768131765729461:=()
def tw9477763775703773701:=()
def tw6351476180147156817:=()
def tw800602604777119490:=()
def tw5643705360751495956:=()
def tw14274565572875647755:=()
def tw18424912134569835726:=()
def tw565270601188612691:=()
def tw2266346917191948500:=()
def tw12643783932153710875:=()
def tw5302160161153932103:=()
def tw6454662833699272697:=()
def tw3573279541579881331:=()
def tw13729277693397078065:=()
def tw17557835413790775779:=()
def tw5135654001994062769:=()
def tw17479176211769219151:=()
def tw13429164025913497036:=()
def tw679796980713987626:=()
def tw9867413645523647203:=()
def tw12899497568687385384:=()
def tw17187674930114346959:=()
def tw9395733551165295392:=()
def tw5407785301496390083:=()
def tw265674209475575631:=()
def tw17794290461037400420:=()
def tw15495191963022188518:=()
def tw5585871919689970491:=()
def tw14803003292067283955:=()
def tw17346567058290164632:=()
def tw8179317684731724507:=()
def tw3443434849155333507:=()
def tw16119225675382988218:=()
def tw18140518716108359319:=()
def tw8243112509517636440:=()
def tw8183650414680641890:=()
def tw3271728246222461618:=()
def tw13839927022934332075:=()
def tw10351087971965738953:=()
def tw777110143268892152:=()
def tw3584526996209462789:=()
def tw10631554284756315127:=()
def tw12984418025075881522:=()
def tw4902405405573866464:=()
def tw16141275421906275923:=()
def tw15787029783047176727:=()
def tw10001395857244695860:=()
def tw4359941485761299467:=()
def tw8985164349487942423:=()
def tw8126208368651172668:=()
def tw15121139502928637228:=()
def tw3168691740475101780:=()
def tw7562695827095176363:=()
def tw15714107481124506025:=()
def tw15725280527690487142:=()
def tw16374620084302967275:=()
def tw18344726085835845473:=()
def tw17662191691213670718:=()
def tw2087608757640999926:=()
def tw5754466290380876790:=()
def tw652803180779325902:=()
def tw14246852104632014040:=()
def tw14601099719064701920:=()
def tw17586428550043228094:=()
def tw870755171916018945:=()
def tw10612376349793638554:=()
def tw15747838715398366279:=()
def tw5955124049675622064:=()
def tw1355642388746754747:=()
def tw15483432470487612669:=()
def tw12689916862851485797:=()
def tw4777033253280738586:=()
def tw2253306628539973347:=()
def tw13663773473705880322:=()
def tw16536048997547901987:=()
def tw7903039545097914991:=()
def tw7077075290877092961:=()
def tw10802836311216365572:=()
def tw16122037705437984501:=()
def tw9027691851380906879:=()
def tw5985826821618821944:=()
def tw4234502009528314440:=()
def tw1336202475661265117:=()
def tw12552757304079004601:=()
def tw12263472910374428857:=()
def tw18416670064240317818:=()
def tw14403044325769148707:=()
def tw8643725715729849058:=()
def tw11734888063207800903:=()
def tw17669583934923428943:=()
def tw9497954057539678661:=()
def tw14618801292443483778:=()
def tw6116793736035366142:=()
def tw4794897970208775557:=()
def tw5745350364620564591:=()
def tw14509035175714050176:=()
def tw16634723518121179703:=()
def tw14901217717388152531:=()
def tw6390414657513834402:=()
def tw4567821228203961517:=()
def tw8507844195092909756:=()
def tw1500127717779184557:=()
def tw10075189699187922746:=()
def tw2224238933479579510:=()
def tw7309339948426576514:=()
def tw14751782240795911085:=()
def tw13017714472100813629:=()
def tw4532842734939660960:=()
def tw1720047091775470216:=()
def tw4430920958908471444:=()
def tw3358415964432029324:=()
def tw6947702771451148881:=()
def tw4326092957915827756:=()
def tw17661106829194694857:=()
def tw8863878299964623630:=()
def tw2275473045427285357:=()
def tw16582900940815122013:=()
def tw7681023377492795430:=()
def tw10638018169197877796:=()
def tw11342243722007734200:=()
def tw18308436408340374389:=()
def tw6625126154817239672:=()
def tw13511060874028072064:=()
def tw11673208256597951379:=()
def tw17469705646589011317:=()
def tw8916514136701395712:=()
def tw8630011396111018711:=()
def tw6411883567103291092:=()
def tw3762058150897046565:=()
def tw6882618469956988009:=()
def tw4292866981892145737:=()
def tw13769183841370488023:=()
def tw11132066650665858369:=()
def tw63266641898669917:=()
def tw3375816749770320583:=()
def tw4594442412549414152:=()
def tw12463676030873574428:=()
def tw14768278664613387844:=()
def tw11485207386783661190:=()
def tw11306501892075543599:=()
def tw5209499451507625952:=()
def tw2794883056377952379:=()
def tw13083734391942724505:=()
def tw6304878000215021825:=()
def tw6253419149875469442:=()
def tw2470835894955984315:=()
def tw8089295757991273000:=()
def tw13018153564825270904:=()
def tw14670334996919986160:=()
def tw6307031375706614073:=()
def tw17192317911079207524:=()
def tw11699556392878285602:=()
def tw16401262625140626024:=()
def tw11895220804378605258:=()
def tw14226676037178883534:=()
def tw13349149639706742924:=()
def tw6862048931811847936:=()
def tw13824236252987571098:=()
def tw9758996418348294297:=()
def tw6257999285674339907:=()
def tw14615047028261032719:=()
def tw15704853644885470208:=()
def tw638640584765664318:=()
def tw5023056645330583599:=()
def tw17907666430349998122:=()
def tw10616266726580534693:=()
def tw12237827129161830243:=()
def tw7669899230818854153:=()
def tw445628283616177827:=()
def tw14291511315518982289:=()
def tw8282133240995971783:=()
def tw17437895580834646365:=()
def tw738845087907836032:=()
def tw7709127920737595518:=()
def tw7618633088960222037:=()
def tw14378597997729220714:=()
def tw8895803088192274336:=()
def tw7978000197951844190:=()
def tw7848250619448489437:=()
def tw17130077378190295491:=()
def tw11888801149465536918:=()
def tw4544065143277920156:=()
def tw3487829210936152769:=()
def tw13017145520553544465:=()
def tw9831419314337199457:=()
def tw11575352788553653703:=()
def tw9551341900797522143:=()
def tw429035670994476186:=()
def tw8028842760044671049:=()
def tw2888520036954443282:=()
def tw2792811888518876083:=()
def tw10125553376469285628:=()
def tw13743191204266753535:=()
def tw13334628255685760226:=()
def tw12823847997759415075:=()
def tw11869527802883089320:=()
def tw6934051297910390526:=()
def tw8346931681045260234:=()
def tw2669747501054774606:=()
def tw8760200674477470024:=()
def tw13461858191597123170:=()
def tw12897663765842365918:=()
def tw2442906900624651412:=()
def tw17217681713399683612:=()
def tw14224786046277044601:=()
def tw16278698445159139890:=()
def tw1332503188998777334:=()
def tw7493892959419642187:=()
def tw8382733035336370935:=()
def tw10498221300927770341:=()
def tw9216708864426830006:=()
def tw7187145021437111952:=()
def tw7648538010786625605:=()
def tw13684030002766786626:=()
def tw8517856416547298605:=()
end PySem.W.Fast
open PySem PySem.W PyProof.Rows
set_option maxRecDepth 100000 in
set_option maxHeartbeats 0 in
theorem PySem.Challenge.cw_asktally_k85_whole_one_number_once_holds : PySem.Challenge.rw_asktally_k85_whole_one_number_once.Holds := by
 w_on; o_law; k_head; (case hw=>w_witness2)
 k_fill
 refine Mine.walk (l:=PySem.Challenge.rw_asktally_k85_whole_one_number_once) rfl rfl (fun w h Y=>PySem.W.kIn_of Y) ?F
 case F =>
  intro w mg fa h KX G hmg
  refine' Mine.all_mk KX G hmg ?a0 ?l0 ?c0 ?k0 ?a1 ?l1 ?c1 ?k1 ?a2 ?l2 ?c2 ?k2 ?a3 ?l3 ?c3 ?k3 ?a4 ?l4 ?c4 ?k4 ?a5 ?l5 ?c5 ?k5 ?a6 ?l6 ?c6 ?k6 ?a7 ?l7 ?c7 ?k7 ?a8 ?l8 ?c8 ?k8 ?a9 ?l9 ?c9 ?k9 ?a10 ?l10 ?c10 ?k10 ?a11 ?l11 ?c11 ?k11 ?a12 ?l12 ?c12 ?k12 ?a13 ?l13 ?c13 ?k13 ?a14 ?l14 ?c14 ?k14 ?a15 ?l15 ?c15 ?k15 ?a16 ?l16 ?c16 ?k16 ?a17 ?l17 ?c17 ?k17 ?a18 ?l18 ?c18 ?k18 ?a19 ?l19 ?c19 ?k19 ?a20 ?l20 ?c20 ?k20 ?a21 ?l21 ?c21 ?k21 ?a22 ?l22 ?c22 ?k22 ?a23 ?l23 ?c23 ?k23 ?a24 ?l24 ?c24 ?k24 ?a25 ?l25 ?c25 ?k25 ?a26 ?l26 ?c26 ?k26 ?a27 ?l27 ?c27 ?k27 ?a28 ?l28 ?c28 ?k28 ?a29 ?l29 ?c29 ?k29 ?a30 ?l30 ?c30 ?k30 ?a31 ?l31 ?c31 ?k31 ?a32 ?l32 ?c32 ?k32 ?a33 ?l33 ?c33 ?k33 ?a34 ?l34 ?c34 ?k34 ?a35 ?l35 ?c35 ?k35 ?a36 ?l36 ?c36 ?k36 ?a37 ?l37 ?c37 ?k37 ?a38 ?l38 ?c38 ?k38 ?a39 ?l39 ?c39 ?k39 ?a40 ?l40 ?c40 ?k40 ?a41 ?l41 ?c41 ?k41 ?a42 ?l42 ?c42 ?k42 ?a43 ?l43 ?c43 ?k43 ?a44 ?l44 ?c44 ?k44 ?a45 ?l45 ?c45 ?k45 ?a46 ?l46 ?c46 ?k46 ?a47 ?l47 ?c47 ?k47 ?a48 ?l48 ?c48 ?k48 ?ID ?IE ?IF ?IG ?IH ?II ?IJ ?IK ?IL ?IM ?GQ ?IN ?IO ?IP ?IQ ?GV ?IR ?IS ?IT ?IU ?GX ?IV ?Hk ?Hl ?Hm ?Hn ?Ho ?pC ?E8 ?E9 ?tH ?dbgg ?dbaI ?dbiI ?dblI ?dbcI ?dbkI ?dbaW ?dbiW ?dblW ?dbcW ?dbkW ?dbaU ?dbiU ?dblU ?dbcU ?dbkU ?dbaH ?dbiH ?dblH ?dbcH ?dbkH ?dbaT ?dbiT ?dblT ?dbcT ?dbkT ?dbaC ?dbiC ?dblC ?dbcC ?dbkC ?dbaB ?dbiB ?dblB ?dbcB ?dbkB ?dbaR ?dbiR ?dblR ?dbcR ?dbkR ?dbaG ?dbiG ?dblG ?dbcG ?dbkG ?dbaE ?dbiE ?dblE ?dbcE ?dbkE ?dbaN ?dbiN ?dblN ?dbcN ?dbkN ?dbpg ?dbhdi ?dbpov ?dbsat ?dbmki ?dbkcl ?dbn_game ?dbn_awaited ?dbn_claims ?dbn_s ?dbn_heard ?dbn_tossed ?dbn_held ?dbn_places ?IW ?IX ?IY ?IZ ?I0 ?Ja ?Jb ?Jc ?Jd ?Je ?GY ?Jf ?Jg ?Jh ?Ji ?GZ ?Jj ?Jk ?Jl ?Jm ?G7 ?Jn ?Jo ?Jp ?Jq ?G9 ?Jr ?Hq ?Hs ?Ht ?Hu ?Hv ?FF ?y4 ?FG ?FH ?Hw ?y6 ?y8 ?Js ?Jt ?Ju ?Jv ?Jw ?Jx ?Jy ?Jz ?JA ?JB ?Ha ?JC ?JD ?JE ?JF ?Hb ?JG ?JH ?JI ?JJ ?Hc ?JK ?Hx ?Hy ?Hz ?HC ?HD ?FI ?y9 ?lB ?Ft ?gmr ?ge ?gmo ?z0 ?z1 ?z2 ?z3 ?z4 ?z5 ?z6 ?z7 ?z8 ?z9 ?z10 ?z11 ?z12 ?z13 ?z14
  (case a0=>k_is); (case l0=>k_is); (case c0=>k_is); (case k0=>k_is)
  (case a1=>k_is); (case l1=>k_is); (case c1=>k_is); (case k1=>k_is)
  (case a2=>k_is); (case l2=>k_is); (case c2=>k_is); (case k2=>k_is)
  (case a3=>k_is); (case l3=>k_is); (case c3=>k_is); (case k3=>k_is)
  (case a4=>k_is); (case l4=>k_is); (case c4=>k_is); (case k4=>k_is)
  (case a5=>k_is); (case l5=>k_is); (case c5=>k_is); (case k5=>k_is)
  (case a6=>k_is); (case l6=>k_is); (case c6=>k_is); (case k6=>k_is)
  (case a7=>k_is); (case l7=>k_is); (case c7=>k_is); (case k7=>k_is)
  (case a8=>k_is); (case l8=>k_is); (case c8=>k_is); (case k8=>k_is)
  (case a9=>k_is); (case l9=>k_is); (case c9=>k_is); (case k9=>k_is)
  (case a10=>k_is); (case l10=>k_is); (case c10=>k_is); (case k10=>k_is)
  (case a11=>k_is); (case l11=>k_is); (case c11=>k_is); (case k11=>k_is)
  (case a12=>k_is); (case l12=>k_is); (case c12=>k_is); (case k12=>k_is)
  (case a13=>k_is); (case l13=>k_is); (case c13=>k_is); (case k13=>k_is)
  (case a14=>k_is); (case l14=>k_is); (case c14=>k_is); (case k14=>k_is)
  (case a15=>k_is); (case l15=>k_is); (case c15=>k_is); (case k15=>k_is)
  (case a16=>k_is); (case l16=>k_is); (case c16=>k_is); (case k16=>k_is)
  (case a17=>k_is); (case l17=>k_is); (case c17=>k_is); (case k17=>k_is)
  (case a18=>k_is); (case l18=>k_is); (case c18=>k_is); (case k18=>k_is)
  (case a19=>k_is); (case l19=>k_is); (case c19=>k_is); (case k19=>k_is)
  (case a20=>k_is); (case l20=>k_is); (case c20=>k_is); (case k20=>k_is)
  (case a21=>k_is); (case l21=>k_is); (case c21=>k_is); (case k21=>k_is)
  (case a22=>k_is); (case l22=>k_is); (case c22=>k_is); (case k22=>k_is)
  (case a23=>k_is); (case l23=>k_is); (case c23=>k_is); (case k23=>k_is)
  (case a24=>k_is); (case l24=>k_is); (case c24=>k_is); (case k24=>k_is)
  (case a25=>k_is); (case l25=>k_is); (case c25=>k_is); (case k25=>k_is)
  (case a26=>k_is); (case l26=>k_is); (case c26=>k_is); (case k26=>k_is)
  (case a27=>k_is); (case l27=>k_is); (case c27=>k_is); (case k27=>k_is)
  (case a28=>k_is); (case l28=>k_is); (case c28=>k_is); (case k28=>k_is)
  (case a29=>k_is); (case l29=>k_is); (case c29=>k_is); (case k29=>k_is)
  (case a30=>k_is); (case l30=>k_is); (case c30=>k_is); (case k30=>k_is)
  (case a31=>k_is); (case l31=>k_is); (case c31=>k_is); (case k31=>k_is)
  (case a32=>k_is); (case l32=>k_is); (case c32=>k_is); (case k32=>k_is)
  (case a33=>k_is); (case l33=>k_is); (case c33=>k_is); (case k33=>k_is)
  (case a34=>k_is); (case l34=>k_is); (case c34=>k_is); (case k34=>k_is)
  (case a35=>k_is); (case l35=>k_is); (case c35=>k_is); (case k35=>k_is)
  (case a36=>k_is); (case l36=>k_is); (case c36=>k_is); (case k36=>k_is)
  (case a37=>k_is); (case l37=>k_is); (case c37=>k_is); (case k37=>k_is)
  (case a38=>k_is); (case l38=>k_is); (case c38=>k_is); (case k38=>k_is)
  (case a39=>k_is); (case l39=>k_is); (case c39=>k_is); (case k39=>k_is)
  (case a40=>k_is); (case l40=>k_is); (case c40=>k_is); (case k40=>k_is)
  (case a41=>k_is); (case l41=>k_is); (case c41=>k_is); (case k41=>k_is)
  (case a42=>k_is); (case l42=>k_is); (case c42=>k_is); (case k42=>k_is)
  (case a43=>k_is); (case l43=>k_is); (case c43=>k_is); (case k43=>k_is)
  (case a44=>k_is); (case l44=>k_is); (case c44=>k_is); (case k44=>k_is)
  (case a45=>k_is); (case l45=>k_is); (case c45=>k_is); (case k45=>k_is)
  (case a46=>k_is); (case l46=>k_is); (case c46=>k_is); (case k46=>k_is)
  (case a47=>k_is); (case l47=>k_is); (case c47=>k_is); (case k47=>k_is)
  (case a48=>k_is); (case l48=>k_is); (case c48=>k_is); (case k48=>k_is)
  case ID|IE|IF|IG|IH|II|IJ|IK|IL|IM|GQ|IN|IO|IP|IQ|GV|IR|IS|IT|IU|GX|IV|Hk|Hl|Hm|Hn|Ho|pC|E8|E9|tH|dbgg|dbaI|dbiI|dblI|dbcI|dbkI|dbaW|dbiW|dblW|dbcW|dbkW|dbaU|dbiU|dblU|dbcU|dbkU|dbaH|dbiH|dblH|dbcH|dbkH|dbaT|dbiT|dblT|dbcT|dbkT|dbaC|dbiC|dblC|dbcC|dbkC|dbaB|dbiB|dblB|dbcB|dbkB|dbaR|dbiR|dblR|dbcR|dbkR|dbaG|dbiG|dblG|dbcG|dbkG|dbaE|dbiE|dblE|dbcE|dbkE|dbaN|dbiN|dblN|dbcN|dbkN|dbpg|dbhdi|dbpov|dbsat|dbmki|dbkcl|dbn_game|dbn_awaited|dbn_claims|dbn_s|dbn_heard|dbn_tossed|dbn_held|dbn_places|IW|IX|IY|IZ|I0|Ja|Jb|Jc|Jd|Je|GY|Jf|Jg|Jh|Ji|GZ|Jj|Jk|Jl|Jm|G7|Jn|Jo|Jp|Jq|G9|Jr|Hq|Hs|Ht|Hu|Hv|FF|y4|FG|FH|Hw|y6|y8|Js|Jt|Ju|Jv|Jw|Jx|Jy|Jz|JA|JB|Ha|JC|JD|JE|JF|Hb|JG|JH|JI|JJ|Hc|JK|Hx|Hy|Hz|HC|HD|FI|y9|lB|Ft|gmr|ge|gmo|z0|z1|z2|z3|z4|z5|z6|z7|z8|z9|z10|z11|z12|z13|z14=>k_is
