import PyProof.Rows.All
import Wide.All
import OpenK.AllK
import Wide.FinOn
import Lean
import PyProof.EqAt
import PyProof.EqKinds
import PyProof.TupleCall
import PySem.Challenge.RW_asktally_k40_turns_and_refusals
set_option Elab.async false
set_option linter.all false
set_option maxRecDepth 100000
set_option bootstrap.genMatcherCode false
set_option compiler.extract_closed false
local macro_rules | `(tactic|omega)=>`(tactic|first | lia | omega +splitDisjunctions)
local macro_rules | `(command|def $n:declId $s:optDeclSig $b:declVal)=>`(command|noncomputable def $n:declId $s:optDeclSig $b:declVal)
local macro_rules | `(tactic|decide)=>`(tactic|decide +kernel)
local macro_rules | `(tactic|rfl')=>`(tactic|with_unfolding_all rfl)
noncomputable section
section
open PySem PySem.Spec PyProof.Rows
abbrev zA0:=@wpAny_bind
theorem zD0.{u}{c:Prop}{h:Decidable c}(hc:¬c){α:Sort u}{t e:α}:ite c t e=e:=if_neg hc
abbrev zE0:=@List.length_map
theorem zF0.{u}{c:Prop}{h:Decidable c}(hc:c){α:Sort u}{t e:α}:ite c t e=t:=if_pos hc
abbrev zH0:=@wpAny_pure
abbrev zI0:=@Nat.le_refl
abbrev zK0:=@List.map_append
abbrev zL0:=@Heap.get?_push_of_some
abbrev zM0:=@Heap.lt_size
abbrev zN0:=@Nat.zero_le
abbrev zO0:=@Option.some.inj
abbrev zP0:=@List.size_toArray
theorem zQ0.{u}{α:Type u}{a b:α}(h:a∈[b]):a=b:=List.mem_singleton.mp h
abbrev zR0:=@List.length_append
abbrev zS0:=@Nat.ne_of_lt
theorem zT0.{u}{α:Type u}{l:List α}{i:Nat}{a:α}(h:l[i]?=some a):∃h:i<l.length,l[i]=a:=List.getElem?_eq_some_iff.mp h
abbrev zU0:=@List.getElem?_eq_getElem
abbrev zV0:=@List.length_cons
abbrev zW0:=@Heap.get?_push_size
abbrev zX0:=@Nat.le_trans
theorem zY0.{u}{α:Type u}{a b:α}{l:List α}(h:a∈b::l):a=b∨a∈l:=List.mem_cons.mp h
abbrev zZ0:=@List.mem_of_getElem?
abbrev qA0:=@Bool.false_ne_true
abbrev qB0:=@Int.emod_nonneg
abbrev qC0:=@Int.emod_lt_of_pos
theorem qD0.{u}{α:Type u}{a:α}{s t:List α}(h:a∈s++t):a∈s∨a∈t:=List.mem_append.mp h
abbrev qE0:=@List.getElem?_map
abbrev qF0:=@List.map_cons
abbrev qG0:=@List.take_length
abbrev qH0:=@Nat.lt_of_lt_of_le
abbrev qI0:=@List.take_add_one
abbrev qJ0:=@List.length_take
abbrev qK0:=@List.mem_cons_of_mem
abbrev qL0:=@List.mem_cons_self
abbrev qM0:=@List.getD_eq_getElem?_getD
abbrev qN0:=@List.mem_append_right
abbrev qO0:=@Nat.le_succ
abbrev qP0:=@List.length_range
abbrev qQ0:=@Nat.lt_irrefl
abbrev qR0:=@List.getElem_mem
theorem qS0{α β:Type}{f:α->β}{x:Option α}{b:β}(h:x.map f=some b):∃a,x=some a/\f a=b:=Option.map_eq_some_iff.mp h
abbrev qT0:=@List.length_singleton
abbrev qU0:=@Int.emod_eq_of_lt
abbrev qV0:=@Int.toNat_natCast
end
namespace L2
open PySem PySem.Spec PyProof.Rows
abbrev Key:=Sum Int Str
def pH:Key->Value->Bool
 | .inl k,v=>Value.isInt k v
 | .inr x,v=>Value.isStrOf x v
def keyH(w:World):Key->Int
 | .inl k=>hashInt k
 | .inr x=>hashStr w x
theorem cA:∀{k:Key}{v:Value},pH k v=true->(∃i t,k=Sum.inl i/\v=Value.int i t)∨(∃x t,k=Sum.inr x/\v=Value.str x t)
 | .inl i,v,h=>by
   obtain⟨t,e⟩:=Value.isInt_shape (k:=i) (v:=v) h;exact .inl ⟨i,t,rfl,e⟩
 | .inr x,v,h=>by
   obtain⟨t,e⟩:=Value.isStrOf_shape (x:=x) (v:=v) h;exact .inr ⟨x,t,rfl,e⟩
theorem yp(i:Int)(t:Tok):pH (.inl i) (.int i t)=true:=by simp [pH,Value.isInt]
theorem yo(x:Str)(t:Tok):pH (.inr x) (.str x t)=true:=by simp [pH,Value.isStrOf]
theorem DJ(a b:Int):decide ((Sum.inl a:Key)=Sum.inl b)=(a==b):=by
 by_cases e:a=b
 . subst e;simp
 . have h:¬ (Sum.inl a:Key)=Sum.inl b:=fun q=>e (Sum.inl.inj q)
   rw[decide_eq_false h];exact(beq_eq_false_iff_ne.mpr e).symm
theorem DG(a b:Str):decide ((Sum.inr a:Key)=Sum.inr b)=decide (a=b):=by
 by_cases e:a=b
 . subst e;simp
 . have h:¬ (Sum.inr a:Key)=Sum.inr b:=fun q=>e (Sum.inr.inj q)
   rw[decide_eq_false h,decide_eq_false e]
theorem DI(a:Int)(b:Str):decide ((Sum.inl a:Key)=Sum.inr b)=false:=decide_eq_false (fun q=>nomatch q)
theorem DH(a:Str)(b:Int):decide ((Sum.inr a:Key)=Sum.inl b)=false:=decide_eq_false (fun q=>nomatch q)
def cJ(prog:Program)(w:World):PySem.KeyKind prog w Key where
 is:=pH
 hash:=keyH w
 inj:=fun v a b ha hb=>by
  rcases cA ha with⟨i,t,rfl,rfl⟩ | ⟨x,t,rfl,rfl⟩
  . rcases cA hb with⟨j,u,rfl,e⟩ | ⟨y,u,rfl,e⟩
    . injection e with e1 _;rw[e1]
    . exact nomatch e
  . rcases cA hb with⟨j,u,rfl,e⟩ | ⟨y,u,rfl,e⟩
    . exact nomatch e
    . injection e with e1 _;rw[e1]
 byValue:=fun k v h=>by
  rcases cA h with⟨i,t,rfl,rfl⟩ | ⟨x,t,rfl,rfl⟩ <;> rfl
 pyHash:=fun hv h=>by
  rcases cA hv with⟨i,t,rfl,rfl⟩ | ⟨x,t,rfl,rfl⟩
  . exact wpAny_pyHash_int h
  . exact wpAny_pyHash_str h
 eqBool:=fun hu hv h=>by
  rcases cA hu with⟨i,t,rfl,rfl⟩ | ⟨x,t,rfl,rfl⟩
  . rcases cA hv with⟨j,u,rfl,rfl⟩ | ⟨y,u,rfl,rfl⟩
    . rw[DJ]at h;exact wpAny_eqBool_int h
    . rw[DI]at h;exact SeqAt.EqAt.int_str i t y u _ _ _ _ h
  . rcases cA hv with⟨j,u,rfl,rfl⟩ | ⟨y,u,rfl,rfl⟩
    . rw[DH]at h;exact SeqAt.EqAt.str_int x t j u _ _ _ _ h
    . rw[DG]at h;exact wpAny_eqBool_str h
 «strs»:=fun k x t v h=>by
  rcases cA h with⟨i,u,rfl,e⟩ | ⟨y,u,rfl,e⟩
  . exact nomatch e
  . injection e with e1 _;subst e1;cases v <;> rfl
theorem sy(prog:Program)(w:World)(i:Int)(t:Tok):(cJ prog w).is (.inl i) (.int i t)=true:=yp i t
theorem sx(prog:Program)(w:World)(x:Str)(t:Tok):(cJ prog w).is (.inr x) (.str x t)=true:=yo x t
inductive V where
 | non | bl (b:Bool) | int (i:Int) | str (x:Str) | byt (b:Array UInt8) | flt (b:UInt64) | ref (a:Addr) | ty (n:String)
 deriving DecidableEq
def RelV:V->Value->Prop
 | .non,u=>u=Value.none
 | .bl b,u=>u=Value.bool b
 | .int i,u=>∃t,u=Value.int i t
 | .str x,u=>∃t,u=Value.str x t
 | .byt b,u=>∃t,u=Value.bytes b t
 | .flt b,u=>∃t,u=Value.float b t
 | .ref a,u=>u=Value.ref a
 | .ty n,u=>u=Value.type n
abbrev Vals:List V->List Value->Prop:=Paired RelV
theorem Vals.length{xs:List V}{us:List Value}(r:Vals xs us):xs.length=us.length:=Paired.length r
theorem Vals.get:∀{xs:List V}{us:List Value}{i:Nat}{x:V},Vals xs us->xs[i]?=some x->∃u,us[i]?=some u/\RelV x u
 | _,_,_,_,.nil,e=>by simp at e
 | _,_,0,_,.cons r _,e=>by simp at e;subst e;exact⟨_,rfl,r⟩
 | _,_,i+1,x,.cons _ t,e=>by
   obtain⟨u,h1,h2⟩:=Vals.get (i:=i) (x:=x) t (by simpa using e);exact⟨u,by simpa using h1,h2⟩
theorem Vals.set{x:V}{u:Value}(r:RelV x u):∀{xs:List V}{us:List Value}(i:Nat),Vals xs us->Vals (xs.set i x) (us.set i u)
 | _,_,_,.nil=>.nil
 | _,_,0,.cons _ t=>.cons r t
 | _,_,i+1,.cons q t=>.cons q (Vals.set r i t)
theorem Vals.append:∀{xs ys:List V}{us ws:List Value},Vals xs us->Vals ys ws->Vals (xs++ys) (us++ws)
 | _,_,_,_,.nil,s=>s
 | _,_,_,_,.cons r t,s=>.cons r (Vals.append t s)
theorem Vals.take:∀{xs:List V}{us:List Value}(n:Nat),Vals xs us->Vals (xs.take n) (us.take n)
 | _,_,0,_=>.nil
 | _,_,_+1,.nil=>.nil
 | _,_,n+1,.cons r t=>.cons r (Vals.take n t)
theorem Vals.drop:∀{xs:List V}{us:List Value}(n:Nat),Vals xs us->Vals (xs.drop n) (us.drop n)
 | _,_,0,r=>r
 | _,_,_+1,.nil=>.nil
 | _,_,n+1,.cons _ t=>Vals.drop n t
def RelO:Option V->Option Value->Prop
 | some v,some u=>RelV v u
 | none,none=>True
 | _,_=>False
def KV{κ:Type}:List (κ×V)->List (κ×Value)->Prop:=Paired fun(p:κ×V)(q:κ×Value)=>p.1=q.1/\RelV p.2 q.2
def kV:Key->V
 | .inl i=>.int i
 | .inr x=>.str x
inductive HO where
 | lst (xs:List V)
 | tup (xs:List V)
 | dK (kvs:List (Key×V)) | dT (kvs:List (List Key×V))
 | set (S:Int->Bool) (n:Nat)
 | ins (C dx:Addr) (fs:List (Str×V))
 | own (x:Addr)
 | xd (fs:List (Str×V))
 | met (f x:Addr)
 | rng (lo hi:Int)
 | frz (o:Obj) (u:HO)
 | tbl (ps:Array Value)
 | ext (φ:Heap->Prop)
abbrev Hp:=Addr->Option HO
def upd(H:Hp)(a:Addr)(o:HO):Hp:=fun b=>if b=a then some o else H b
theorem ah{H:Hp}{a:Addr}{o:HO}:upd H a o a=some o:=by unfold upd;rw[zF0 rfl]
theorem aq{H:Hp}{a b:Addr}{o:HO}(h:b≠a):upd H a o b=H b:=by unfold upd;rw[zD0 h]
theorem dh{H:Hp}{a b:Addr}{o u:HO}(h:H a=some o)(h':H b=some u)(d:o≠u):a≠b:=by
 intro e;subst e;rw[h]at h';exact d (zO0 h')
theorem ai{H:Hp}{a b:Addr}{o:HO}(h:H a=some o)(h':H b=none):a≠b:=by
 intro e;subst e;rw[h]at h';cases h'
section
variable (P:Program) (w:World)
def ObjOk(H:Hp)(h:Heap)(a:Addr):HO->Prop
 | .lst xs=>xs.length<=sizeLine/\∃(its:List Value) (n:Nat),Vals xs its/\h.get? a=some { cls:=.type "list",data:=.seq its.toArray n }
 | .tup xs=>xs.length<=sizeLine/\∃its:List Value,Vals xs its/\IsTup h a its.toArray/\∃o,h.get? a=some o/\o.dict=none
 | .dK kvs=>kvs.length<=sizeLine/\(a==sysModules)=false/\∃vs,KV kvs vs/\h.DictOf (cJ P w) a vs
 | .dT kvs=>kvs.length<=sizeLine/\(a==sysModules)=false/\∃xs:List (List Key×Addr×Value),
  Paired (fun(p:List Key×V)(q:List Key×Addr×Value)=>p.1=q.1/\H q.2.1=some (.tup (p.1.map kV))/\RelV p.2 q.2.2) kvs xs/\
  ∃o es ep,h.get? a=some o/\o.ExactDict/\o.data=.dict es ep/\es.toList=xs.map (entryOfKey (tupleKind (cJ P w)))/\(xs.map (·.1)).Nodup
 | .set S n=>h.SetOf (intKind P w) a S n
 | .ins C dx fs=>H dx=some (.own a)/\fs.length<=1000/\dx≠a/\h.get? a=some (PySem.W.instObj C dx)/\
  ∃mA,h.Ns1 dx mA/\(∀f,RelO (fs.lookup f) (mA f))/\PySem.Within mA (fs.map (·.1))
 | .own _=>∃o,h.get? a=some o
 | .xd fs=>∃mA,h.Ns1 a mA/\∀f,RelO (fs.lookup f) (mA f)
 | .rng lo hi=>∃t u v,h.get? a=some { cls:=.type "range",data:=.fields #[.int lo t,.int hi u,.int 1 v] }
 | .frz o u=>h.get? a=some o/\ObjOk H h a u
 | .tbl ps=>h.get? a=some { cls:=.none,data:=.fields ps }
 | .met f x=>h.get? a=some (PySem.W.methodObj (.ref f) (.ref x))
 | .ext φ=>φ h/\(∃o,h.get? a=some o)/\∀h1 h2:Heap,φ h1->(∀o,h1.get? a=some o->h2.get? a=some o)->φ h2
def HOk(H:Hp)(h:Heap):Prop:=∀a o,H a=some o->ObjOk P w H h a o
end
section
variable {P:Program} {w:World} {H H':Hp} {h h':Heap} {a:Addr} {o:HO}
theorem ObjOk.lt(x:ObjOk P w H h a o):a<h.objs.size:=by
 cases o with
 | lst xs=>obtain⟨_,_,_,_,e⟩:=x;exact zM0 e
 | tup xs=>obtain⟨_,_,_,p,_⟩:=x;exact p.lt
 | dK kvs=>obtain⟨_,_,_,_,o,_,_,e,_⟩:=x;exact zM0 e
 | dT kvs=>obtain⟨_,_,_,_,o,_,_,e,_⟩:=x;exact zM0 e
 | set S n=>obtain⟨o,_,_,_,e,_⟩:=x;exact zM0 e
 | ins C dx fs=>obtain⟨_,_,_,e,_⟩:=x;exact zM0 e
 | own y=>obtain⟨_,e⟩:=x;exact zM0 e
 | xd fs=>obtain⟨_,⟨_,_,_,e,_⟩,_⟩:=x;exact zM0 e
 | rng lo hi=>obtain⟨_,_,_,e⟩:=x;exact zM0 e
 | frz ob u=>obtain⟨e,_⟩:=x;exact zM0 e
 | tbl ps=>exact zM0 (show h.get? a=some _ from x)
 | met f y=>exact zM0 (show h.get? a=some _ from x)
 | ext φ=>obtain⟨_,⟨_,e⟩,_⟩:=x;exact zM0 e
theorem Paired.mapP{α β:Type}{F G:α->β->Prop}:∀{l₁:List α}{l₂:List β},Paired F l₁ l₂->(∀a b,F a b->G a b)->Paired G l₁ l₂
 | _,_,.nil,_=>.nil
 | _,_,.cons r t,f=>.cons (f _ _ r) (Paired.mapP t f)
theorem ObjOk.stay(x:ObjOk P w H h a o)(k:∀b u,(b=a∨H b=some (.own a))->h.get? b=some u->h'.get? b=some u)
 (ho:∀b,H b=some (.own a)->H' b=some (.own a)) (ht:∀b xs,H b=some (.tup xs)->H' b=some (.tup xs)):ObjOk P w H' h' a o:=by
 induction o with
 | lst xs=>obtain⟨z,its,n,r,e⟩:=x;exact⟨z,its,n,r,k _ _ (.inl rfl) e⟩
 | tup xs=>obtain⟨z,its,r,⟨ob,e,c⟩,od,e2,d⟩:=x;exact⟨z,its,r,⟨ob,k _ _ (.inl rfl) e,c⟩,od,k _ _ (.inl rfl) e2,d⟩
 | dK kvs=>obtain⟨z,y,vs,r,ob,es,ep,e,c⟩:=x;exact⟨z,y,vs,r,ob,es,ep,k _ _ (.inl rfl) e,c⟩
 | dT kvs=>
   obtain⟨z,y,xs,r,ob,es,ep,e,c⟩:=x;exact⟨z,y,xs,Paired.mapP r fun p q z=>⟨z.1,ht _ _ z.2.1,z.2.2⟩,ob,es,ep,k _ _ (.inl rfl) e,c⟩
 | set S n=>obtain⟨ob,es,ep,t,e,c⟩:=x;exact⟨ob,es,ep,t,k _ _ (.inl rfl) e,c⟩
 | ins C dx fs=>
   obtain⟨d,z,ne,e,mA,⟨od,es,ep,e2,c⟩,r⟩:=x;exact⟨ho _ d,z,ne,k _ _ (.inl rfl) e,mA,⟨od,es,ep,k _ _ (.inr d) e2,c⟩,r⟩
 | own y=>obtain⟨ob,e⟩:=x;exact⟨ob,k _ _ (.inl rfl) e⟩
 | xd fs=>obtain⟨mA,⟨od,es,ep,e,c⟩,r⟩:=x;exact⟨mA,⟨od,es,ep,k _ _ (.inl rfl) e,c⟩,r⟩
 | rng lo hi=>obtain⟨t,u,v,e⟩:=x;exact⟨t,u,v,k _ _ (.inl rfl) e⟩
 | frz ob u ih=>obtain⟨e,q⟩:=x;exact⟨k _ _ (.inl rfl) e,ih q⟩
 | tbl ps=>
   have e:h.get? a=some { cls:=.none,data:=.fields ps }:=x;show h'.get? a=some { cls:=.none,data:=.fields ps };exact k a _ (.inl rfl) e
 | met f y=>
   have e:h.get? a=some (PySem.W.methodObj (.ref f) (.ref y)):=x;show h'.get? a=some (PySem.W.methodObj (.ref f) (.ref y));exact k a _ (.inl rfl) e
 | ext φ=>obtain⟨p,⟨o,e⟩,st⟩:=x;exact⟨st _ _ p fun o q=>k _ _ (.inl rfl) q,⟨o,k _ _ (.inl rfl) e⟩,st⟩
theorem HOk.lt(x:HOk P w H h)(e:H a=some o):a<h.objs.size:=(x a o e).lt
theorem HOk.fresh(x:HOk P w H h)(e:h.objs.size<=a):H a=none:=by
 cases q:H a with
 | none=>rfl
 | some u=>exact absurd (qH0 (x.lt q) e) (qQ0 _)
theorem HOk.kept(x:HOk P w H h)(k:∀b u,h.get? b=some u->h'.get? b=some u):HOk P w H h':=fun a o e=>
 (x a o e).stay (fun b u _ q=>k b u q) (fun _ q=>q) fun _ _ q=>q
theorem HOk.laid(x:HOk P w H h)(k:∀b u,h.get? b=some u->h'.get? b=some u)(hp:h.objs.size<=a)(new:ObjOk P w (upd H a o) h' a o):HOk P w (upd H a o) h':=fun b u e=>by
 have hn:=x.fresh hp
 by_cases hb:b=a
 . subst hb;rw[ah]at e;cases e;exact new
 . rw[aq hb]at e;exact(x b u e).stay (fun c v _ q=>k c v q) (fun c q=>by rw[aq (ai q hn)];exact q) fun c xs q=>by rw[aq (ai q hn)];exact q
end
def Rd(H:Hp)(a:Addr)(u:HO):Prop:=H a=some u∨∃o,H a=some (.frz o u)
theorem Rd.ok{P:Program}{w:World}{H:Hp}{h:Heap}{a:Addr}{u:HO}(r:Rd H a u)(x:HOk P w H h):ObjOk P w H h a u:=by
 rcases r with r | ⟨o,r⟩
 . exact x a u r
 . obtain⟨_,q⟩:=x a _ r;exact q
def Mut:Option HO->Prop
 | some (.lst _)=>True
 | some (.dK _)=>True
 | some (.dT _)=>True
 | some (.set _ _)=>True
 | some (.ins _ _ _)=>True
 | some (.ext _)=>True
 | _=>False
section
variable {P:Program} {w:World} {H:Hp} {h h':Heap} {x e:Addr} {o':HO}
theorem HOk.write(ok:HOk P w H h)(mu:Mut (H x))(he:e=x∨H e=some (.own x))(k:∀b u,b≠e->h.get? b=some u->h'.get? b=some u)(heo:∃u,h'.get? e=some u)
 (new:ObjOk P w (upd H x o') h' x o'):HOk P w (upd H x o') h':=fun b u q=>by
 have nown:∀c y,H c=some (.own y)->c≠x:=fun c y r z=>by subst z;rw[r]at mu;exact mu
 have ntup:∀c xs,H c=some (.tup xs)->c≠x:=fun c xs r z=>by subst z;rw[r]at mu;exact mu
 by_cases hb:b=x
 . subst hb;rw[ah]at q;cases q;exact new
 . rw [aq hb]at q
   by_cases hbe:b=e
   . have q':H b=some (.own x):=by
      rcases he with z | z
      . exact absurd (hbe.trans z) hb
      . rw[hbe];exact z
     rw[q]at q';cases q';obtain⟨v,hv⟩:=heo;exact⟨v,by rw[hbe];exact hv⟩
   . refine (ok b u q).stay (fun c v hc r=>k c v ?_ r) (fun c r=>by rw[aq (nown c b r)];exact r) fun c xs r=>by rw[aq (ntup c xs r)];exact r
     rcases hc with rfl | hc
     . exact hbe
     . rintro rfl;rcases he with z | z
       . exact nown c b hc z
       . rw[hc]at z;cases z;exact hb rfl
end
structure Un(fs ex:List Addr)(H H':Hp)(h h':Heap):Prop where
 keep:∀b o,h.get? b=some o->H b=none->b∉fs->b∉ex->h'.get? b=some o
 slot:∀b o,h.get? b=some o->H b=none->b∈fs->b∉ex->∃sl,h'.get? b=some { o with slots:=sl }
 free:∀b o,h.get? b=some o->H b=none->b∉ex->H' b=none
 there:∀b o,h.get? b=some o->b∉ex->∃o',h'.get? b=some o'
 tups:∀b xs,H b=some (.tup xs)->H' b=some (.tup xs)
 frzs:∀b o u,H b=some (.frz o u)->H' b=some (.frz o u)
 tbls:∀b ps,H b=some (.tbl ps)->∃more,H' b=some (.tbl (ps++more))
section
variable {fs fs' ex ex':List Addr} {H H1 H2:Hp} {h h1 h2 h':Heap} {a x e:Addr} {o:HO}
theorem Un.any(u:Un fs ex H H1 h h1){b:Addr}{ob:Obj}(q:h.get? b=some ob)(n:H b=none)(hx:b∉ex):∃sl,h1.get? b=some { ob with slots:=sl }:=by
 by_cases hb:b∈fs
 . exact u.slot b ob q n hb hx
 . exact⟨ob.slots,u.keep b ob q n hb hx⟩
theorem Un.trans(a:Un fs ex H H1 h h1)(b:Un fs ex H1 H2 h1 h2):Un fs ex H H2 h h2 where
 keep:=fun c ob q n hc hx=>b.keep c ob (a.keep c ob q n hc hx) (a.free c ob q n hx) hc hx
 slot:=fun c ob q n hc hx=>by
  obtain⟨sl,e1⟩:=a.slot c ob q n hc hx;obtain⟨sl',e2⟩:=b.slot c _ e1 (a.free c ob q n hx) hc hx;exact⟨sl',e2⟩
 free:=fun c ob q n hx=>by
  obtain⟨o',e1⟩:=a.there c ob q hx;exact b.free c o' e1 (a.free c ob q n hx) hx
 there:=fun c ob q hx=>by
  obtain⟨o',e1⟩:=a.there c ob q hx;exact b.there c o' e1 hx
 tups:=fun c xs q=>b.tups c xs (a.tups c xs q)
 frzs:=fun c ob xs q=>b.frzs c ob xs (a.frzs c ob xs q)
 tbls:=fun c ps q=>by
  obtain⟨m1,e1⟩:=a.tbls c ps q;obtain⟨m2,e2⟩:=b.tbls c _ e1;exact⟨m1++m2,by rw[e2,Array.append_assoc]⟩
theorem Un.kept(k:∀b u,h.get? b=some u->h'.get? b=some u):Un fs ex H H h h':=
 ⟨fun b ob q _ _ _=>k b ob q,fun b ob q _ _ _=>⟨ob.slots,k b ob q⟩,fun _ _ _ n _=>n,fun b ob q _=>⟨ob,k b ob q⟩,fun _ _ q=>q,fun _ _ _ q=>q,fun _ ps q=>⟨#[],by rw[q];simp⟩⟩
theorem Un.refl:Un fs ex H H h h:=Un.kept fun _ _ q=>q
theorem Un.laid(k:∀b u,h.get? b=some u->h'.get? b=some u)(hp:h.objs.size<=a)(hn:H a=none):Un fs ex H (upd H a o) h h' where
 keep:=fun b u q _ _ _=>k b u q
 slot:=fun b u q _ _ _=>⟨u.slots,k b u q⟩
 free:=fun b u q n _=>by rw[aq (zS0 (qH0 (zM0 q) hp))];exact n
 there:=fun b u q _=>⟨u,k b u q⟩
 tups:=fun b xs q=>by rw[aq (ai q hn)];exact q
 frzs:=fun b u xs q=>by rw[aq (ai q hn)];exact q
 tbls:=fun b ps q=>⟨#[],by rw[aq (ai q hn),q];simp⟩
theorem Un.write(mu:Mut (H x))(he:e=x∨H e=some (.own x))(k:∀b u,b≠e->h.get? b=some u->h'.get? b=some u)(heo:∃u,h'.get? e=some u):Un fs ex H (upd H x o) h h':=by
 have hx:∀b,H b=none->b≠x:=fun b n z=>by subst z;rw[n]at mu;exact mu
 have hb:∀b,H b=none->b≠e:=fun b n z=>by
  subst z;rcases he with r | r
  . exact hx b n r
  . rw[n]at r;cases r
 have hm:∀b u,H b=some u->¬ Mut (some u)->b≠x:=fun b u q nm z=>by subst z;rw[q]at mu;exact nm mu
 refine ⟨fun b u q n _ _=>k b u (hb b n) q,fun b u q n _ _=>⟨u.slots,k b u (hb b n) q⟩,fun b u q n _=>by rw[aq (hx b n)];exact n,fun b u q _=>?_,
  fun b xs q=>by rw[aq (hm b _ q fun z=>z)];exact q,fun b u xs q=>by rw[aq (hm b _ q fun z=>z)];exact q,fun b ps q=>⟨#[],by rw[aq (hm b _ q fun z=>z),q];simp⟩⟩
 by_cases hbe:b=e
 . subst hbe;exact heo
 . exact⟨u,k b u hbe q⟩
theorem Un.mono(u:Un fs ex H H1 h h1)(hs:∀b∈fs,b∈fs')(hx:∀b∈ex,b∈ex'):Un fs' ex' H H1 h h1:=
 ⟨fun b ob q n hb he=>u.keep b ob q n (fun z=>hb (hs b z)) fun z=>he (hx b z),fun _ _ q n _ he=>u.any q n fun z=>he (hx _ z),fun b ob q n he=>u.free b ob q n fun z=>he (hx b z),fun b ob q he=>u.there b ob q fun z=>he (hx b z),u.tups,u.frzs,u.tbls⟩
end
def trk(h:Heap)(H:Hp):List Addr:=(List.range h.objs.size).filter fun a=>(H a).isSome
def qW(h:Heap)(H:Hp):Heap:=PySem.W.hideAll h (trk h H)
theorem yv(h:Heap)(H:Hp):(qW h H).objs.size=h.objs.size:=PySem.W.hideAll_size _ _
theorem At{h:Heap}{H:Hp}{b:Addr}{o:Obj}(e:h.get? b=some o)(n:H b=none):(qW h H).get? b=some o:=
 PySem.W.hideAll_get _ e fun hm=>by
  have q:(H b).isSome=true:=(List.mem_filter.mp hm).2;rw[n]at q;simp at q
theorem BT{h:Heap}{H:Hp}{b:Addr}{o:Obj}(e:(qW h H).get? b=some o):h.get? b=some o/\H b=none:=by
 have e':h.get? b=some o:=PySem.W.of_hideAll (trk h H) e;refine⟨e',?_⟩;cases q:H b with
 | none=>rfl
 | some x=>
   have hm:b∈trk h H:=List.mem_filter.mpr ⟨List.mem_range.mpr (zM0 e'),by simp [q]⟩;have z:(qW h H).get? b=none:=PySem.W.hideAll_none (trk h H) hm;rw[z]at e;cases e
structure Mod(K:W.Frag)(mg:Str->Option Value)(base:Heap):Prop where
 kin:K.In base
 glob:base.Ns mainGlobals mg
 blt:∃mb,base.Ns builtinsNs mb/\∀x:Str,x≠"__name__" -> mb x=bootBuiltins x
 nolimit:base.NoLimit
structure Cx where
 prog:Program
 w:World
 K:W.Frag
 mg:Str->Option Value
 base:Heap
 A:Around
 N:List Str
 s₀:Shared
 H₀:Hp
 env:Env
 outer:List Env
 stack:List Env
 ex:List Addr
 fn:Str->Bool
 calm:Bool
 pn:List (Addr×Obj)
 xe:Value->Shared->Prop
def frs(l:List Env):List Addr:=l.filterMap (·.frame)
abbrev Cx.fs(X:Cx):List Addr:=frs X.outer
def Vis(sc:Scope)(x:Str):Prop:=sc.names.lookup x=some .local∨sc.names.lookup x=some .cell∨sc.names.lookup x=some .free
def Loc(sc:Scope)(x:Str):Prop:=sc.names.lookup x=some .local∨sc.names.lookup x=some .cell
def Look(env:Env)(h:Heap)(m:Str->Option Value)(x:Str)(u:Value):Prop:=
 (env.kindOf x=some .local/\m x=some u)∨((env.kindOf x=some .cell∨env.kindOf x=some .free)/\∃c,env.cells.lookup x=some c/\h.IsCell c (some u))
structure Cx.Ok(X:Cx):Prop where
 mod:Mod X.K X.mg X.base
 kind:X.env.scope.kind=.function
 glob:X.env.globals=mainGlobals
 blt:X.env.builtins=builtinsNs
 above:X.s₀.heap.objs.size<=X.env.locals
 inj:∀x y c,X.env.cells.lookup x=some c->X.env.cells.lookup y=some c->x=y
 has:∀x,(X.env.kindOf x=some .cell∨X.env.kindOf x=some .free)->∃c,X.env.cells.lookup x=some c
 cab:∀x c,X.fn x=true->X.env.cells.lookup x=some c->X.s₀.heap.objs.size<=c
 hd:X.calm=true->X.A.handled=none
 frames:X.A.frames=some X.stack
 stk:X.stack=X.outer∨(X.stack=X.env::X.outer/\X.env.frame=some X.env.locals)
 exf:∀b∈X.ex,b≠X.env.locals/\∀x c,X.env.cells.lookup x=some c->c≠b
 bs:∀b o,X.base.get? b=some o->X.s₀.heap.get? b=some o/\X.H₀ b=none
 bsz:X.base.objs.size<=X.s₀.heap.objs.size
 noex:∀b o,X.base.get? b=some o->b∉X.ex
 exfs:∀b∈X.ex,b∉X.fs
 funs:X.s₀.heap.FunFrames X.base X.outer
 frf:∀b∈X.fs,X.H₀ b=none
structure Inv(X:Cx)(pins:List (Addr×Obj))(σ:List (Option V))(H:Hp)(s:Shared):Prop where
 ok:X.Ok
 os:s.os=X.s₀.os
 bare:AllBare s.gens
 base:Un X.fs X.ex X.H₀ H X.s₀.heap s.heap
 loc:∃m,s.heap.Ns X.env.locals m/\∀(i:Nat)(x:Str)(v:V),X.N[i]?=some x->σ[i]?=some (some v)->Vis X.env.scope x->∃u,RelV v u/\Look X.env s.heap m x u
 cell:∀x c,X.env.cells.lookup x=some c->∃v,s.heap.IsCell c v
 free:H X.env.locals=none
 freeC:∀x c,X.env.cells.lookup x=some c->H c=none
 pin:∀p∈X.pn++pins,s.heap.get? p.1=some p.2/\H p.1=none/\p.1≠X.env.locals/\p.1∉X.fs/\∀v,p.2.data≠.cell v
 hok:HOk X.prog X.w H s.heap
 len:σ.length=X.N.length
section
variable {X:Cx} {pins:List (Addr×Obj)} {σ:List (Option V)} {H H':Hp} {s:Shared} {h':Heap}
theorem Cx.Ok.nofr(ok:X.Ok){b:Addr}{o:Obj}(e:X.base.get? b=some o):b∉X.fs:=fun hb=>by
 have:=(ok.funs.mem hb).1
 rw[e]at this;cases this
theorem Inv.bs(I:Inv X pins σ H s):∀b o,X.base.get? b=some o->s.heap.get? b=some o/\H b=none:=fun b o e=>
 ⟨I.base.keep b o (I.ok.bs b o e).1 (I.ok.bs b o e).2 (I.ok.nofr e) (I.ok.noex b o e),I.base.free b o (I.ok.bs b o e).1 (I.ok.bs b o e).2 (I.ok.noex b o e)⟩
theorem Inv.bk(I:Inv X pins σ H s):∀b o,X.base.get? b=some o->s.heap.get? b=some o:=fun b o e=>(I.bs b o e).1
theorem Inv.mod(I:Inv X pins σ H s):Mod X.K X.mg X.base:=I.ok.mod
theorem Inv.kIn(I:Inv X pins σ H s):X.K.In s.heap:=I.ok.mod.kin.keeps I.bk
theorem Inv.lt(I:Inv X pins σ H s):X.env.locals<s.heap.objs.size:=let⟨_,hn,_⟩:=I.loc;hn.lt
theorem Inv.sz(I:Inv X pins σ H s):X.s₀.heap.objs.size<=s.heap.objs.size:=zX0 I.ok.above (Nat.le_of_lt I.lt)
theorem Inv.nofs(I:Inv X pins σ H s){a:Addr}(h:s.heap.objs.size<=a):a∉X.fs:=fun hb=>by
 obtain⟨_,o,ho,_⟩:=I.ok.funs.mem hb;exact absurd (qH0 (zM0 ho) (zX0 I.sz h)) (qQ0 _)
theorem Inv.cne(I:Inv X pins σ H s):∀x c,X.env.cells.lookup x=some c->c≠X.env.locals:=fun x c e z=>by
 obtain⟨v,o,ho,hd⟩:=I.cell x c e;obtain⟨m,⟨o',es,ep,ho',hd',_⟩,_⟩:=I.loc;rw[z,ho']at ho;cases ho;rw[hd']at hd;cases hd
theorem Inv.funs(I:Inv X pins σ H s):s.heap.FunFrames X.base X.outer:=by
 have all:∀(l:List Env),(∀b∈frs l,b∈X.fs)->X.s₀.heap.FunFrames X.base l->s.heap.FunFrames X.base l:=by
  intro l
  induction l with
  | nil=>intro _ _;trivial
  | cons env r ih=>
    intro hs hl;obtain⟨hk,⟨L,o,hf,hn,ho,hd⟩,hr⟩:=hl;have hL:L∈X.fs:=hs L (by unfold frs;rw[List.filterMap_cons,hf];exact qL0);obtain⟨sl,e⟩:=I.base.slot L o ho (I.ok.frf L hL) hL fun z=>I.ok.exfs L z hL
    exact⟨hk,⟨L,_,hf,hn,e,hd⟩,ih (fun b hb=>hs b (by unfold frs;rw[List.filterMap_cons,hf];exact qK0 _ hb)) hr⟩
 exact all X.outer (fun _ hb=>hb) I.ok.funs
theorem Inv.stack(I:Inv X pins σ H s):s.heap.FunFrames X.base X.stack:=by
 rcases I.ok.stk with e | ⟨e,hf⟩
 . rw[e];exact I.funs
 . rw[e];obtain⟨m,hn,_⟩:=I.loc;refine .cons (by rw[I.ok.kind];decide) hf hn ?_ I.funs;exact Heap.get?_none_of_le (zX0 I.ok.bsz I.ok.above)
theorem Inv.stkSub(I:Inv X pins σ H s):∀b∈frs X.stack,b∈X.env.locals::X.fs:=fun b hb=>by
 rcases I.ok.stk with e | ⟨e,hf⟩
 . rw[e]at hb;exact qK0 _ hb
 . rw[e]at hb;unfold frs at hb;rw[List.filterMap_cons,hf]at hb;exact hb
theorem Inv.stkFree(I:Inv X pins σ H s):∀b∈frs X.stack,H b=none:=fun b hb=>by
 rcases zY0 (I.stkSub b hb)with e | hb
 . rw[e];exact I.free
 . obtain⟨_,o,ho,_⟩:=I.ok.funs.mem hb;exact I.base.free b o ho (I.ok.frf b hb) fun z=>I.ok.exfs b z hb
theorem Inv.step{g':Array GenState}{t':Nat}{d':Drawn}{ch:List Addr}(I:Inv X pins σ H s)
 (hch:∀b∈ch,(b∈X.ex∨X.s₀.heap.objs.size<=b)/\b≠X.env.locals/\(∀x c,X.env.cells.lookup x=some c->c≠b)/\∀p∈X.pn++pins,p.1≠b)
 (keep:∀b o,b≠X.env.locals->b∉X.fs->b∉ch->s.heap.get? b=some o->H b=none->h'.get? b=some o)
 (slot:∀b o,b≠X.env.locals->b∈X.fs->b∉ch->s.heap.get? b=some o->H b=none->∃sl,h'.get? b=some { o with slots:=sl }) (free:∀b o,b∉ch->s.heap.get? b=some o->H b=none->H' b=none)
 (there:∀b o,b∉ch->s.heap.get? b=some o->∃o',h'.get? b=some o')
 (tups:∀b xs,H b=some (.tup xs)->H' b=some (.tup xs)) (frzs:∀b o u,H b=some (.frz o u)->H' b=some (.frz o u)) (tbls:∀b ps,H b=some (.tbl ps)->∃more,H' b=some (.tbl (ps++more)))
 (ns:∀m,s.heap.Ns X.env.locals m->h'.Ns X.env.locals m) (hok:HOk X.prog X.w H' h') (hg:AllBare g') :
 Inv X pins σ H' { s with heap:=h',gens:=g',drawn:=d',toks:=t' }:=by
 have neL:∀b o,X.s₀.heap.get? b=some o->b≠X.env.locals:=fun b o e=>zS0 (qH0 (zM0 e) I.ok.above)
 have neC:∀b o,X.s₀.heap.get? b=some o->b∉X.ex->b∉ch:=fun b o e hx hb=>by
  rcases(hch b hb).1 with z | z
  . exact hx z
  . exact absurd (qH0 (zM0 e) z) (qQ0 _)
 have cellK:∀x c,X.env.cells.lookup x=some c->∀v,s.heap.IsCell c v->h'.IsCell c v:=fun x c e v ⟨o,ho,hd⟩=>by
  have nch:c∉ch:=fun z=>(hch c z).2.2.1 x c e rfl
  by_cases hc:c∈X.fs
  . obtain⟨sl,q⟩:=slot c o (I.cne x c e) hc nch ho (I.freeC x c e);exact⟨_,q,hd⟩
  . exact⟨o,keep c o (I.cne x c e) hc nch ho (I.freeC x c e),hd⟩
 refine⟨I.ok,I.os,hg,⟨fun b o e n hb hx=>?_,fun b o e n hb hx=>?_,fun b o e n hx=>?_,fun b o e hx=>?_,fun b xs e=>tups b xs (I.base.tups b xs e),fun b o xs e=>frzs b o xs (I.base.frzs b o xs e),fun b ps e=>?_⟩,?_,fun x c e=>?_,?_,fun x c e=>?_,fun p hp=>?_,hok,I.len⟩
 . exact keep b o (neL b o e) hb (neC b o e hx) (I.base.keep b o e n hb hx) (I.base.free b o e n hx)
 . obtain⟨sl,e1⟩:=I.base.slot b o e n hb hx;obtain⟨sl',e2⟩:=slot b _ (neL b o e) hb (neC b o e hx) e1 (I.base.free b o e n hx);exact⟨sl',e2⟩
 . obtain⟨o',e1⟩:=I.base.there b o e hx;exact free b o' (neC b o e hx) e1 (I.base.free b o e n hx)
 . obtain⟨o',e1⟩:=I.base.there b o e hx;exact there b o' (neC b o e hx) e1
 . obtain⟨m1,e1⟩:=I.base.tbls b ps e;obtain⟨m2,e2⟩:=tbls b _ e1;exact⟨m1++m2,by rw[e2,Array.append_assoc]⟩
 . obtain ⟨m,hn,hl⟩:=I.loc;refine⟨m,ns m hn,fun i x v e1 e2 e3=>?_⟩;obtain⟨u,r,l⟩:=hl i x v e1 e2 e3;refine⟨u,r,?_⟩;rcases l with l | ⟨k,c,e,z⟩
   . exact .inl l
   . exact .inr ⟨k,c,e,cellK x c e _ z⟩
 . obtain⟨v,z⟩:=I.cell x c e;exact⟨v,cellK x c e v z⟩
 . obtain⟨m,⟨o,_,_,ho,_⟩,_⟩:=I.loc;exact free _ o (fun z=>(hch _ z).2.1 rfl) ho I.free
 . obtain⟨v,o,ho,hd⟩:=I.cell x c e;exact free c o (fun z=>(hch c z).2.2.1 x c e rfl) ho (I.freeC x c e)
 . obtain ⟨e,n,ne,nf,d⟩:=I.pin p hp;have nch:p.1∉ch:=fun z=>(hch p.1 z).2.2.2 p hp rfl
   exact⟨keep p.1 p.2 ne nf nch e n,free p.1 p.2 nch e n,ne,nf,d⟩
theorem Inv.un{t':Nat}(I:Inv X pins σ H s)(u:Un X.fs [] H H' s.heap h')(hok:HOk X.prog X.w H' h'):Inv X pins σ H' { s with heap:=h',toks:=t' }:=by
 obtain ⟨m,⟨o,es,ep,ho,r⟩,_⟩:=id I.loc;obtain⟨sl,hL⟩:=u.any ho I.free (by simp);exact I.step (g':=s.gens) (d':=s.drawn) (ch:=[]) (fun _ z=>nomatch z) (fun b o _ hb _ e n=>u.keep b o e n hb (by simp)) (fun b o _ hb _ e n=>u.slot b o e n hb (by simp)) (fun b o _ e n=>u.free b o e n (by simp)) (fun b o _ e=>u.there b o e (by simp)) u.tups u.frzs u.tbls (fun m' hm=>by
  obtain⟨o',es',ep',ho',r'⟩:=hm;rw[ho]at ho';cases ho';exact⟨_,es',ep',hL,r'⟩) hok I.bare
theorem Inv.call{g':Array GenState}{t':Nat}{d':Drawn}{ch:List Addr}(I:Inv X pins σ H s)(u:Un (frs X.stack) ch H H' s.heap h')(hok:HOk X.prog X.w H' h')(hg:AllBare g')
 (hch:∀b∈ch,(b∈X.ex∨X.s₀.heap.objs.size<=b)/\b≠X.env.locals/\(∀x c,X.env.cells.lookup x=some c->c≠b)/\∀p∈X.pn++pins,p.1≠b) :
 Inv X pins σ H' { s with heap:=h',gens:=g',drawn:=d',toks:=t' }:=by
 obtain⟨m,⟨o,es,ep,ho,r⟩,_⟩:=id I.loc;obtain⟨sl,hL⟩:=u.any ho I.free fun z=>(hch _ z).2.1 rfl
 exact I.step (ch:=ch) hch (fun b o hL hb hc e n=>u.keep b o e n (fun z=>(zY0 (I.stkSub b z)).elim hL hb) hc) (fun b o _ _ hc e n=>u.any e n hc) (fun b o hc e n=>u.free b o e n hc) (fun b o hc e=>u.there b o e hc) u.tups u.frzs u.tbls (fun m' hm=>by
  obtain⟨o',es',ep',ho',r'⟩:=hm;rw[ho]at ho';cases ho';exact⟨_,es',ep',hL,r'⟩) hok hg
theorem Inv.turned{t':Nat}{it:Addr}(I:Inv X pins σ H s)(k:∀b o,b≠it->s.heap.get? b=some o->h'.get? b=some o)(hn:H it=none)(hL:it≠X.env.locals)
 (h1:it∈X.ex∨X.s₀.heap.objs.size<=it) (h2:∀x c,X.env.cells.lookup x=some c->c≠it) (h3:∀p∈X.pn++pins,p.1≠it):Inv X pins σ H { s with heap:=h',toks:=t' }:=by
 have nit:∀b u,H b=some u->b≠it:=fun b u e z=>by rw[z,hn]at e;cases e
 refine I.step (g':=s.gens) (d':=s.drawn) (ch:=[it]) (fun b hb=>?_) (fun b o _ _ hc e _=>k b o (fun z=>hc (by simp [z])) e) (fun b o _ _ hc e _=>⟨o.slots,k b o (fun z=>hc (by simp [z])) e⟩) (fun _ _ _ _ n=>n)
  (fun b o hc e=>⟨o,k b o (fun z=>hc (by simp [z])) e⟩) (fun _ _ e=>e) (fun _ _ _ e=>e) (fun b ps e=>⟨#[],by rw[e];simp⟩) (fun m hm=>?_) (fun b u e=>?_) I.bare
 . have e:b=it:=by simpa using hb
   subst e;exact⟨h1,hL,h2,h3⟩
 . obtain⟨o,es,ep,ho,r⟩:=hm;exact⟨o,es,ep,k _ o (Ne.symm hL) ho,r⟩
 . refine (I.hok b u e).stay (fun c v hc q=>k c v ?_ q) (fun _ q=>q) fun _ _ q=>q
   rcases hc with z | z
   . rw[z];exact nit b u e
   . exact nit c _ z
theorem Inv.tok(I:Inv X pins σ H s)(t:Nat):Inv X pins σ H { s with toks:=t }:=I.un (h':=s.heap) (t':=t) Un.refl I.hok
theorem Inv.kept{t':Nat}(I:Inv X pins σ H s)(k:∀b u,s.heap.get? b=some u->h'.get? b=some u):Inv X pins σ H { s with heap:=h',toks:=t' }:=I.un (Un.kept k) (I.hok.kept k)
theorem Inv.laid{a:Addr}{o:HO}{t':Nat}(I:Inv X pins σ H s)(k:∀b u,s.heap.get? b=some u->h'.get? b=some u)(hp:s.heap.objs.size<=a)(new:ObjOk X.prog X.w (upd H a o) h' a o) :
 Inv X pins σ (upd H a o) { s with heap:=h',toks:=t' }:=I.un (Un.laid k hp (I.hok.fresh hp)) (I.hok.laid k hp new)
theorem Inv.write{x e:Addr}{o:HO}{t':Nat}(I:Inv X pins σ H s)(mu:Mut (H x))(he:e=x∨H e=some (.own x))(k:∀b u,b≠e->s.heap.get? b=some u->h'.get? b=some u)(heo:∃u,h'.get? e=some u)
 (new:ObjOk X.prog X.w (upd H x o) h' x o):Inv X pins σ (upd H x o) { s with heap:=h',toks:=t' }:=I.un (Un.write mu he k heo) (I.hok.write mu he k heo new)
theorem Inv.pins_of{pins':List (Addr×Obj)}(I:Inv X pins σ H s)(h:∀p∈pins',s.heap.get? p.1=some p.2/\H p.1=none/\p.1≠X.env.locals/\p.1∉X.fs/\∀v,p.2.data≠.cell v):Inv X pins' σ H s:=
 ⟨I.ok,I.os,I.bare,I.base,I.loc,I.cell,I.free,I.freeC,fun p hp=>(qD0 hp).elim (fun z=>I.pin p (List.mem_append_left _ z)) (h p),I.hok,I.len⟩
theorem nO{N:List Str}(hN:N.Nodup){i j:Nat}{x:Str}(a:N[i]?=some x)(b:N[j]?=some x):i=j:=by
 obtain⟨h1,e1⟩:=zT0 a;obtain⟨h2,e2⟩:=zT0 b;exact(List.getElem_inj hN).mp (e1.trans e2.symm)
theorem oY{M:Model}{A:Around}{E:Value->Shared->Prop}{i:Nat}{x:Str}{v:V}{u:Value}{Q:Unit->Shared->Prop}(I:Inv X pins σ H s)(hN:X.N.Nodup)(hi:X.N[i]?=some x)(hx:Loc X.env.scope x)(r:RelV v u)
 (h:∀s',Inv X pins (σ.set i (some v)) H s'->(∃a,Heap.SameBut a s.heap s'.heap/\(a=X.env.locals∨X.env.cells.lookup x=some a))->Q () s') (hf:X.fn x=true∨X.env.scope.names.lookup x=some .local:=by first | exact .inl rfl | exact .inr rfl | assumption):wpAny M A (storeName X.env x u) Q E s:=by
 obtain⟨m,hn,hl⟩:=id I.loc;have hcls:(X.env.scope.kind==.class||(X.env.scope.kind==.module&&X.env.locals != X.env.globals))=false:=by rw[I.ok.kind];rfl
 have hiσ:i<σ.length:=by rw[I.len];exact(zT0 hi).1
 have cne:=I.cne;have tracked:∀{a:Addr}{h':Heap},(∃o,s.heap.get? a=some o/\H a=none)->Heap.SameBut a s.heap h'->HOk X.prog X.w H h':=fun{a h'} ha hs b ob e=>by
  obtain⟨_,_,hfree⟩:=ha;refine(I.hok b ob e).stay (fun c w' hc q=>(hs.2 c ?_).trans q) (fun _ q=>q) fun _ _ q=>q
  rintro rfl;rcases hc with rfl | hc
  . rw[hfree]at e;cases e
  . rw[hfree]at hc;cases hc
 rcases hx with hk | hk
 . refine wpAny_storeName_local hk hn (fun h' hn' hs=>?_) hcls;obtain⟨oL,_,_,hoL,_⟩:=id hn;refine h _ ⟨I.ok,I.os,I.bare,⟨fun b o e n hb hx=>?_,fun b o e n hb hx=>?_,I.base.free,fun b o e hx=>?_,I.base.tups,I.base.frzs,I.base.tbls⟩,⟨_,hn',fun j y v' e1 e2 e3=>?_⟩,fun y c e=>?_,I.free,I.freeC,fun p hp=>?_,tracked ⟨oL,hoL,I.free⟩ hs,by simpa using I.len⟩ ⟨_,hs,.inl rfl⟩
   . exact(hs.2 b (zS0 (qH0 (zM0 e) I.ok.above))).trans (I.base.keep b o e n hb hx)
   . obtain⟨sl,e1⟩:=I.base.slot b o e n hb hx;exact⟨sl,(hs.2 b (zS0 (qH0 (zM0 e) I.ok.above))).trans e1⟩
   . obtain⟨o',e1⟩:=I.base.there b o e hx;exact⟨o',(hs.2 b (zS0 (qH0 (zM0 e) I.ok.above))).trans e1⟩
   . by_cases hj:j=i
     . subst hj;rw[hi]at e1;cases e1;rw[List.getElem?_set_self hiσ]at e2;cases e2;exact⟨u,r,.inl ⟨hk,by simp⟩⟩
     . rw [List.getElem?_set_ne (Ne.symm hj)]at e2;obtain⟨u',r',q⟩:=hl j y v' e1 e2 e3;refine⟨u',r',?_⟩;rcases q with⟨k,e⟩ | ⟨k,c,e,z⟩
       . refine .inl ⟨k,?_⟩
         have:y≠x:=fun e=>hj (nO hN e1 (e▸hi))
         simp [this,e]
       . exact .inr ⟨k,c,e,z.sameBut hs (cne y c e)⟩
   . obtain⟨w',z⟩:=I.cell y c e;exact⟨w',z.sameBut hs (cne y c e)⟩
   . obtain⟨e,n,ne,nf,d⟩:=I.pin p hp;exact⟨(hs.2 p.1 ne).trans e,n,ne,nf,d⟩
 . have hfn:X.fn x=true:=by
    rcases hf with z | z
    . exact z
    . rw[z]at hk;cases hk
   obtain⟨c,hc⟩:=I.ok.has x (.inl hk);obtain⟨w',z⟩:=I.cell x c hc;refine wpAny_storeName_cell I.ok.kind hk hc z (fun h' hc' hs=>?_);obtain⟨oc,hoc,hocd⟩:=id z;refine h { s with heap:=h' } ⟨I.ok,I.os,I.bare,⟨fun b o e n hb hx=>?_,fun b o e n hb hx=>?_,I.base.free,fun b o e hx=>?_,I.base.tups,I.base.frzs,I.base.tbls⟩,⟨m,hn.sameBut hs (Ne.symm (cne x c hc)),fun j y v' e1 e2 e3=>?_⟩,fun y c' e=>?_,I.free,I.freeC,fun p hp=>?_,tracked ⟨oc,hoc,I.freeC x c hc⟩ hs,by simpa using I.len⟩ ⟨c,hs,.inr hc⟩
   . exact(hs.2 b (zS0 (qH0 (zM0 e) (I.ok.cab x c hfn hc)))).trans (I.base.keep b o e n hb hx)
   . obtain⟨sl,e1⟩:=I.base.slot b o e n hb hx;exact⟨sl,(hs.2 b (zS0 (qH0 (zM0 e) (I.ok.cab x c hfn hc)))).trans e1⟩
   . obtain⟨o',e1⟩:=I.base.there b o e hx;exact⟨o',(hs.2 b (zS0 (qH0 (zM0 e) (I.ok.cab x c hfn hc)))).trans e1⟩
   . by_cases hj:j=i
     . subst hj;rw[hi]at e1;cases e1;rw[List.getElem?_set_self hiσ]at e2;cases e2;exact⟨u,r,.inr ⟨.inl hk,c,hc,hc'⟩⟩
     . rw [List.getElem?_set_ne (Ne.symm hj)]at e2;obtain⟨u',r',q⟩:=hl j y v' e1 e2 e3;refine⟨u',r',?_⟩;rcases q with q | ⟨k,c',e,z'⟩
       . exact .inl q
       . refine .inr ⟨k,c',e,z'.sameBut hs ?_⟩;rintro rfl;exact hj (nO hN e1 (I.ok.inj _ _ _ e hc▸hi))
   . by_cases hcc:c'=c
     . subst hcc;exact⟨_,hc'⟩
     . obtain⟨w2,z2⟩:=I.cell y c' e;exact⟨w2,z2.sameBut hs hcc⟩
   . obtain⟨e,n,ne,nf,d⟩:=I.pin p hp;refine⟨(hs.2 p.1 ?_).trans e,n,ne,nf,d⟩;intro q;rw[q,hoc]at e;have q':oc=p.2:=zO0 e;exact d w' (by rw[←q'];exact hocd)
theorem eR{M:Model}{A:Around}{E:Value->Shared->Prop}{i:Nat}{x:Str}{v:V}{u:Value}{Q:Unit->Shared->Prop}(I:Inv X pins σ H s)(hN:X.N.Nodup)(hi:X.N[i]?=some x)(hx:Loc X.env.scope x)(r:RelV v u)
 (h:∀s',Inv X pins (σ.set i (some v)) H s'->Q () s') (hf:X.fn x=true∨X.env.scope.names.lookup x=some .local:=by first | exact .inl rfl | exact .inr rfl | assumption):wpAny M A (storeName X.env x u) Q E s:=
 oY I hN hi hx r (fun s' I' _=>h s' I') hf
theorem Inv.call'{s':Shared}{ch:List Addr}(I:Inv X pins σ H s)(ho:s'.os=s.os)(u:Un (frs X.stack) ch H H' s.heap s'.heap)(hok:HOk X.prog X.w H' s'.heap)(hg:AllBare s'.gens)
 (hch:∀b∈ch,(b∈X.ex∨X.s₀.heap.objs.size<=b)/\b≠X.env.locals/\(∀x c,X.env.cells.lookup x=some c->c≠b)/\∀p∈X.pn++pins,p.1≠b):Inv X pins σ H' s':=by
 obtain⟨h',g',d',t',o'⟩:=s';have e:o'=s.os:=ho;subst e;exact I.call (g':=g') (t':=t') (d':=d') u hok hg hch
end
abbrev XK:=Value->Option Addr->Hp->Prop
abbrev St:=List (Option V)
abbrev VK:=V->Hp->Prop
abbrev TE:=St->Hp->VK->Prop
abbrev TT:=St->Hp->(Bool->Hp->Prop)->Prop
abbrev TA:=St->Hp->(List V->Hp->Prop)->Prop
structure Ends where
 nx:St->Hp->Prop
 rt:VK
 bk:St->Hp->Prop:=fun _ _=>False
 ct:St->Hp->Prop:=fun _ _=>False
abbrev TS:=Ends->St->Hp->Prop
def EP(X:Cx)(pins:List (Addr×Obj))(σ:St)(Q:VK)(u:Value)(s':Shared):Prop:=∃v H',Inv X pins σ H' s'/\RelV v u/\Q v H'
def TP(X:Cx)(pins:List (Addr×Obj))(σ:St)(Q:Bool->Hp->Prop)(b:Bool)(s':Shared):Prop:=∃H',Inv X pins σ H' s'/\Q b H'
def AP(X:Cx)(pins:List (Addr×Obj))(σ:St)(Q:List V->Hp->Prop)(us:List Value)(s':Shared):Prop:=∃vs H',Inv X pins σ H' s'/\Vals vs us/\Q vs H'
def SP(X:Cx)(pins:List (Addr×Obj))(D:Ends)(f:Flow)(s':Shared):Prop:=
 match f with
 | .next=>∃ σ' H',Inv X pins σ' H' s'/\D.nx σ' H'
 | .brk=>∃ σ' H',Inv X pins σ' H' s'/\D.bk σ' H'
 | .cont=>∃ σ' H',Inv X pins σ' H' s'/\D.ct σ' H'
 | .ret u=>∃v σ' H',Inv X pins σ' H' s'/\RelV v u/\D.rt v H'
def PE(X:Cx)(e:Expr)(t:TE):Prop:=
 ∀(pins:List (Addr×Obj))(s:Shared)(σ:St)(H:Hp)(Q:VK),Inv X pins σ H s->t σ H Q->wpAny (model X.prog X.w) X.A (eval e X.env) (EP X pins σ Q) X.xe s
def PT(X:Cx)(e:Expr)(t:TT):Prop:=
 ∀(pins:List (Addr×Obj))(s:Shared)(σ:St)(H:Hp)(Q:Bool->Hp->Prop),Inv X pins σ H s->t σ H Q->wpAny (model X.prog X.w) X.A (isTrue e X.env (eval e X.env)) (TP X pins σ Q) X.xe s
def PW(X:Cx)(e:Expr)(t:TT):Prop:=
 ∀(whole:Sem Value)(pins:List (Addr×Obj))(s:Shared)(σ:St)(H:Hp)(Q:Bool->Hp->Prop),Inv X pins σ H s->t σ H Q->wpAny (model X.prog X.w) X.A (isTrue e X.env whole) (TP X pins σ Q) X.xe s
theorem PW.pt{X:Cx}{e:Expr}{t:TT}(h:PW X e t):PT X e t:=h _
def PA(X:Cx)(es:List Expr)(t:TA):Prop:=
 ∀(pos:Pos)(pins:List (Addr×Obj))(s:Shared)(σ:St)(H:Hp)(Q:List V->Hp->Prop),Inv X pins σ H s->t σ H Q->wpAny (model X.prog X.w) X.A (spliced (backTo pos (starEach es X.env))) (AP X pins σ Q) X.xe s
def PS(X:Cx)(st:Stmt)(t:TS):Prop:=
 ∀(pins:List (Addr×Obj))(s:Shared)(σ:St)(H:Hp)(D:Ends),Inv X pins σ H s->t D σ H->wpAny (model X.prog X.w) X.A (exec st X.env) (SP X pins D) X.xe s
def PSs(X:Cx)(st:List Stmt)(t:TS):Prop:=
 ∀(pins:List (Addr×Obj))(s:Shared)(σ:St)(H:Hp)(D:Ends),Inv X pins σ H s->t D σ H->wpAny (model X.prog X.w) X.A (execs st X.env) (SP X pins D) X.xe s
theorem thn{α:Type}{t:Sem α}{Q Q':α->Shared->Prop}{M:Model}{A:Around}{E:Value->Shared->Prop}{s:Shared}(h:wpAny M A t Q E s)(hQ:∀a s,Q a s->Q' a s):wpAny M A t Q' E s:=wpAny_mono h hQ fun _ _ x=>x
section
variable {X:Cx}
def Bh(i:Nat):TE:=fun σ H Q=>∃v,σ[i]?=some (some v)/\Q v H
def tC(v:V):TE:=fun _ H Q=>Q v H
theorem Dv {i:Nat} {x:Str} {pos:Pos} (hN:X.N[i]?=some x) (hv:Vis X.env.scope x) (hd:(x==("__debug__":Str))=false:=by decide) (hcd:(x==("__classdict__":Str))=false:=by decide):PE X (.Name x pos) (Bh i):=by
 intro pins s σ H Q I h;obtain⟨v,e,h⟩:=h;obtain⟨m,hn,hl⟩:=I.loc;obtain⟨u,r,l⟩:=hl i x v hN e hv;have fin:EP X pins σ Q u s:=⟨v,H,I,r,h⟩
 rcases l with⟨hk,hm⟩ | ⟨hk,c,hc,hcell⟩
 . exact wpAny_Name (wpAny_loadName_local I.ok.kind hk hn hm fin) hd
 . rcases hk with hk | hk
   . exact wpAny_Name (wpAny_loadName_cell I.ok.kind hk hc hcell fin) hd
   . exact wpAny_Name (wpAny_loadName_free I.ok.kind hk hc hcell fin hcd) hd
theorem ae{i j pos}:PE X (.Constant (.int i) j pos) (tC (.int i)):=fun _ _ _ H _ I h=>wpAny_Constant_int ⟨.int i,H,I.tok _,⟨_,rfl⟩,h⟩
theorem fg{b j pos}:PE X (.Constant (.bool b) j pos) (tC (.bl b)):=fun _ _ _ H _ I h=>Constant_bool ⟨.bl b,H,I,rfl,h⟩
theorem qA{j pos}:PE X (.Constant .none j pos) (tC .non):=fun _ _ _ H _ I h=>Constant_none ⟨.non,H,I,rfl,h⟩
theorem aG{x j pos}:PE X (.Constant (.str x) j pos) (tC (.str x)):=fun _ _ _ H _ I h=>Calls.Constant_str ⟨.str x,H,I.tok _,⟨_,rfl⟩,h⟩
def Gl(X:Cx)(x:Str):Prop:=X.env.kindOf x=some .globalImplicit
theorem ku{E:Value->Shared->Prop}{pins:List (Addr×Obj)}{s:Shared}{σ:St}{H:Hp}{x:Str}{u:Value}{pos:Pos}{Q:Value->Shared->Prop}(I:Inv X pins σ H s)(hg:Gl X x)(hm:X.mg x=some u)(h:Q u s)
 (hd:(x==("__debug__":Str))=false:=by decide):wpAny (model X.prog X.w) X.A (eval (.Name x pos) X.env) Q E s:=
 Calls.Name_function_global I.ok.kind hg (Calls.loadGlobal_global (by rw[I.ok.glob];exact I.mod.glob.keeps I.bk) hm h) hd
theorem iq{E:Value->Shared->Prop}{pins:List (Addr×Obj)}{s:Shared}{σ:St}{H:Hp}{x:Str}{u:Value}{pos:Pos}{Q:Value->Shared->Prop}(I:Inv X pins σ H s)(hg:Gl X x)(hm:X.mg x=none)(hv:bootBuiltins x=some u)(h:Q u s)
 (hn:x≠"__name__":=by decide) (hd:(x==("__debug__":Str))=false:=by decide):wpAny (model X.prog X.w) X.A (eval (.Name x pos) X.env) Q E s:=by
 obtain⟨mb,h1,h2⟩:=I.mod.blt;exact Calls.Name_function_global I.ok.kind hg (Calls.loadGlobal_builtin (by rw[I.ok.glob];exact I.mod.glob.keeps I.bk) hm (by rw[I.ok.blt];exact h1.keeps I.bk) ((h2 x hn).trans hv) h) hd
theorem da {x:Str} {v:V} {u:Value} {pos:Pos} (hg:Gl X x) (hm:X.mg x=some u) (r:RelV v u) (hd:(x==("__debug__":Str))=false:=by decide):PE X (.Name x pos) (tC v):=
 fun _ _ _ H _ I h=>ku I hg hm ⟨v,H,I,r,h⟩ hd
theorem mi {x:Str} {v:V} {u:Value} {pos:Pos} (hg:Gl X x) (hm:X.mg x=none) (hv:bootBuiltins x=some u) (r:RelV v u) (hn:x≠"__name__":=by decide) (hd:(x==("__debug__":Str))=false:=by decide):PE X (.Name x pos) (tC v):=
 fun _ _ _ H _ I h=>iq I hg hm hv ⟨v,H,I,r,h⟩ hn hd
variable {a b:Expr} {ta tb:TE} {pos:Pos}
def tB(t:TE):TT:=fun σ H Q=>t σ H fun x H1=>∃c,x=.bl c/\Q c H1
theorem fZ{e:Expr}{t:TE}(h:PE X e t)(he:∀whole,isTrue e X.env whole=(do let v ←whole;standAt e.pos;holding [v] (truthy v)):=by intro _;rfl):PT X e (tB t):=by
 intro pins s σ H Q I hw;refine isTrue_plain (thn (h pins s σ H _ I hw) fun v s1 ⟨x,H1,I1,r1,q1⟩=>?_) (he _);obtain⟨d,rfl,q⟩:=q1;cases r1;exact wpAny_truthy_bool ⟨H1,I1,q⟩
variable {tA tB':TT} {rest:List Expr}
def tAnd(t u:TT):TT:=fun σ H Q=>t σ H fun c H1=>if c=true then u σ H1 Q else Q false H1
def tOr(t u:TT):TT:=fun σ H Q=>t σ H fun c H1=>if c=true then Q true H1 else u σ H1 Q
def tNot(t:TT):TT:=fun σ H Q=>t σ H fun c H1=>Q (!c) H1
theorem ke(ha:PT X a tA):PW X (.BoolOp .And [a] pos) tA:=by
 intro wh pins s σ H Q I h;refine isTrue_and (thn (ha pins s σ H Q I h) fun c s1 e=>?_);cases c with
 | true=>exact isTrue_and_nil e
 | false=>exact e
theorem jF(ha:PT X a tA):PW X (.BoolOp .Or [a] pos) tA:=by
 intro wh pins s σ H Q I h;refine isTrue_or (thn (ha pins s σ H Q I h) fun c s1 e=>?_);cases c with
 | false=>exact isTrue_or_nil e
 | true=>exact e
theorem kM(ha:PT X a tA)(hb:PW X (.BoolOp .And (b::rest) pos) tB'):PW X (.BoolOp .And (a::b::rest) pos) (tAnd tA tB'):=by
 intro wh pins s σ H Q I h;refine isTrue_and (thn (ha pins s σ H _ I h) fun c s1 ⟨H1,I1,q1⟩=>?_);cases c with
 | true=>exact hb wh pins s1 σ H1 Q I1 q1
 | false=>exact⟨H1,I1,q1⟩
theorem lq(ha:PT X a tA)(hb:PW X (.BoolOp .Or (b::rest) pos) tB'):PW X (.BoolOp .Or (a::b::rest) pos) (tOr tA tB'):=by
 intro wh pins s σ H Q I h;refine isTrue_or (thn (ha pins s σ H _ I h) fun c s1 ⟨H1,I1,q1⟩=>?_);cases c with
 | true=>exact⟨H1,I1,q1⟩
 | false=>exact hb wh pins s1 σ H1 Q I1 q1
theorem kN(ha:PT X a tA):PT X (.UnaryOp .Not a pos) (tNot tA):=by
 intro pins s σ H Q I h;exact isTrue_not (ha pins s σ H (fun c H1=>Q (!c) H1) I h)
def tAndV(ta tb:TE):TE:=fun σ H Q=>ta σ H fun x H1=>∃c,x=.bl c/\if c=true then tb σ H1 Q else Q (.bl false) H1
def tNotV(ta:TE):TE:=fun σ H Q=>ta σ H fun x H1=>∃c,x=.bl c/\Q (.bl (!c)) H1
theorem zO{op}{t:TE}(h:PE X a t):PE X (.BoolOp op [a] pos) t:=fun pins s σ H Q I hw=>BoolOp_one (h pins s σ H Q I hw)
theorem uz(ha:PE X a ta)(hb:PE X (.BoolOp .And (b::rest) pos) tb):PE X (.BoolOp .And (a::b::rest) pos) (tAndV ta tb):=by
 intro pins s σ H Q I h;refine BoolOp_and (thn (ha pins s σ H _ I h) fun v s1 ⟨x,H1,I1,r1,q1⟩=>?_);obtain⟨c,rfl,q1⟩:=q1;cases r1;refine wpAny_truthy_bool ?_;cases c with
 | true=>exact hb pins s1 σ H1 Q I1 q1
 | false=>exact⟨.bl false,H1,I1,rfl,q1⟩
theorem zP(ha:PE X a ta):PE X (.UnaryOp .Not a pos) (tNotV ta):=by
 intro pins s σ H Q I h;refine UnaryOp_ (thn (ha pins s σ H _ I h) fun v s1 ⟨x,H1,I1,r1,q1⟩=>?_);obtain⟨c,rfl,q1⟩:=q1;cases r1;exact not_of (wpAny_truthy_bool ⟨.bl (!c),H1,I1,rfl,q1⟩)
end
def SqL(K:W.Frag)(H:Hp)(a:Addr)(xs:List V):Prop:=
 Rd H a (.lst xs)∨
  ∃(o:Obj) (its:Array Value) (n:Nat),K.lookup a=some o/\o.cls=.type "list"/\o.dict=none/\o.data=.seq its n/\its.size<=sizeLine/\Vals xs its.toList
def SqT(K:W.Frag)(H:Hp)(a:Addr)(xs:List V):Prop:=
 Rd H a (.tup xs)∨
  ∃(o:Obj) (its:Array Value) (n:Nat),K.lookup a=some o/\o.cls=.type "tuple"/\o.data=.seq its n/\its.size<=sizeLine/\Vals xs its.toList
def absV:Value->Option V
 | .none=>some .non
 | .bool b=>some (.bl b)
 | .int i _=>some (.int i)
 | .str x _=>some (.str x)
 | .bytes b _=>some (.byt b)
 | .float b _=>some (.flt b)
 | .ref a=>some (.ref a)
 | .type n=>some (.ty n)
 | _=>none
theorem RelV.abs{x:V}{u:Value}(r:RelV x u):absV u=some x:=by
 cases x with
 | non=>cases r;rfl
 | bl _=>cases r;rfl
 | int _=>obtain⟨t,rfl⟩:=r;rfl
 | str _=>obtain⟨t,rfl⟩:=r;rfl
 | byt _=>obtain⟨t,rfl⟩:=r;rfl
 | flt _=>obtain⟨t,rfl⟩:=r;rfl
 | ref _=>cases r;rfl
 | ty _=>cases r;rfl
theorem RelV.inj{x y:V}{u:Value}(r:RelV x u)(q:RelV y u):x=y:=zO0 (r.abs.symm.trans q.abs)
theorem Vals.inj:∀{xs ys:List V}{us:List Value},Vals xs us->Vals ys us->xs=ys
 | _,_,_,.nil,.nil=>rfl
 | _,_,_,.cons r t,.cons r' t'=>by rw[r.inj r',Vals.inj t t']
section
variable {X:Cx} {pins:List (Addr×Obj)} {σ:St} {H:Hp} {s:Shared} {a:Addr} {xs ys:List V}
theorem zG0{K:W.Frag}(h:H a=some (.lst xs)):SqL K H a xs:=.inl (.inl h)
abbrev SqL.of:=@zG0
theorem zC0{K:W.Frag}(h:H a=some (.tup xs)):SqT K H a xs:=.inl (.inl h)
abbrev SqT.of:=@zC0
theorem Inv.list(I:Inv X pins σ H s)(h:SqL X.K H a xs):∃its:List Value,Vals xs its/\PlainL s.heap a its.toArray/\xs.length<=sizeLine:=by
 rcases h with h | ⟨o,its,n,hk,hc,hd,hs,hz,r⟩
 . obtain⟨z,its,n,r,e⟩:=h.ok I.hok;exact⟨its,r,⟨_,n,e,rfl,rfl,rfl⟩,z⟩
 . refine⟨its.toList,r,⟨o,n,I.kIn a o hk,hc,hd,by simpa using hs⟩,?_⟩;have e:=r.length;simp only[Array.length_toList]at e;omega
theorem Inv.tuple(I:Inv X pins σ H s)(h:SqT X.K H a xs):∃its:List Value,Vals xs its/\IsTup s.heap a its.toArray/\xs.length<=sizeLine:=by
 rcases h with h | ⟨o,its,n,hk,hc,hs,hz,r⟩
 . obtain⟨z,its,r,p,_⟩:=h.ok I.hok;exact⟨its,r,p,z⟩
 . refine⟨its.toList,r,⟨o,I.kIn a o hk,hc,n,by simpa using hs⟩,?_⟩;have e:=r.length;simp only[Array.length_toList]at e;omega
theorem Inv.list_inj(I:Inv X pins σ H s)(h:SqL X.K H a xs)(h':SqL X.K H a ys):xs=ys:=by
 obtain⟨its,r,⟨o,n,e,_,_,d⟩,_⟩:=I.list h;obtain⟨its',r',⟨o',n',e',_,_,d'⟩,_⟩:=I.list h';rw[e]at e';cases e';rw[d]at d';injection d' with d1 _
 have:its=its':=by simpa using congrArg Array.toList d1
 subst this;exact r.inj r'
theorem Inv.tuple_inj(I:Inv X pins σ H s)(h:SqT X.K H a xs)(h':SqT X.K H a ys):xs=ys:=by
 obtain⟨its,r,⟨o,e,_,n,d⟩,_⟩:=I.tuple h;obtain⟨its',r',⟨o',e',_,n',d'⟩,_⟩:=I.tuple h';rw[e]at e';cases e';rw[d]at d';injection d' with d1 _
 have:its=its':=by simpa using congrArg Array.toList d1
 subst this;exact r.inj r'
end
abbrev Cx.wish(X:Cx)(E:Value->Shared->Prop):Cx:={ X with xe:=E }
abbrev Cx.nox(X:Cx):Cx:=X.wish fun _ _=>False
theorem Cx.Ok.wish{X:Cx}(ok:X.Ok)(E:Value->Shared->Prop):(X.wish E).Ok:=
 ⟨ok.mod,ok.kind,ok.glob,ok.blt,ok.above,ok.inj,ok.has,ok.cab,ok.hd,ok.frames,ok.stk,ok.exf,ok.bs,ok.bsz,ok.noex,ok.exfs,ok.funs,ok.frf⟩
theorem Cx.Ok.unwish{X:Cx}{E:Value->Shared->Prop}(ok:(X.wish E).Ok):X.Ok:=
 ⟨ok.mod,ok.kind,ok.glob,ok.blt,ok.above,ok.inj,ok.has,ok.cab,ok.hd,ok.frames,ok.stk,ok.exf,ok.bs,ok.bsz,ok.noex,ok.exfs,ok.funs,ok.frf⟩
section
variable {X:Cx} {pins:List (Addr×Obj)} {σ:St} {H:Hp} {s:Shared} {E:Value->Shared->Prop}
theorem Inv.wish(I:Inv X pins σ H s)(E:Value->Shared->Prop):Inv (X.wish E) pins σ H s:=⟨I.ok.wish E,I.os,I.bare,I.base,I.loc,I.cell,I.free,I.freeC,I.pin,I.hok,I.len⟩
theorem Inv.unwish(I:Inv (X.wish E) pins σ H s):Inv X pins σ H s:=⟨I.ok.unwish,I.os,I.bare,I.base,I.loc,I.cell,I.free,I.freeC,I.pin,I.hok,I.len⟩
theorem SP.unwish{D:Ends}{f:Flow}{s':Shared}(h:SP (X.wish E) pins D f s'):SP X pins D f s':=by
 cases f with
 | next=>obtain⟨σ',H',I,q⟩:=h;exact⟨σ',H',I.unwish,q⟩
 | brk=>obtain⟨σ',H',I,q⟩:=h;exact⟨σ',H',I.unwish,q⟩
 | cont=>obtain⟨σ',H',I,q⟩:=h;exact⟨σ',H',I.unwish,q⟩
 | ret u=>obtain⟨v,σ',H',I,r,q⟩:=h;exact⟨v,σ',H',I.unwish,r,q⟩
theorem PSs.nox{st:List Stmt}{t:TS}(h:PSs X.nox st t):PSs X st t:=fun pins s σ H D I hw=>
 wpAny_mono (h pins s σ H D (I.wish _) hw) (fun _ _ q=>q.unwish) fun _ _ z=>False.elim z
end
section
variable {X:Cx} {st:Stmt} {rest:List Stmt} {t u:TS} {e:Expr} {te:TE} {pos:Pos}
def Cq:TS:=fun D σ H=>D.nx σ H
def tSeq(t u:TS):TS:=fun D σ H=>t { D with nx:=u D } σ H
theorem aI:PSs X [] Cq:=fun _ _ σ H _ I h=>wpAny_execs_nil ⟨σ,H,I,h⟩
theorem ad(h1:PS X st t)(h2:PSs X rest u):PSs X (st::rest) (tSeq t u):=by
 intro pins s σ H D I h;refine wpAny_execs_cons (thn (h1 pins s σ H { D with nx:=u D } I h) fun f s1 q=>?_);cases f with
 | next=>
   obtain⟨σ',H',I',q⟩:=q;exact h2 pins s1 σ' H' D I' q
 | ret v=>exact q
 | brk=>exact q
 | cont=>exact q
theorem ag(h1:PS X st t):PSs X [st] t:=by
 intro pins s σ H D I h;refine wpAny_execs_cons (thn (h1 pins s σ H D I h) fun f s1 q=>?_);cases f with
 | next=>exact wpAny_execs_nil q
 | ret v=>exact q
 | brk=>exact q
 | cont=>exact q
theorem Inv.quiet{pins:List (Addr×Obj)}{σ:St}{H:Hp}{s:Shared}(I:Inv X pins σ H s):interactive X.env=false:=by simp [interactive,I.ok.kind]
def Cr(te:TE):TS:=fun D σ H=>te σ H fun _ H1=>D.nx σ H1
theorem bV(he:PE X e te)(hs:swapsWith e none pos.line X.env=pure false:=by rfl):PS X (.Expr e pos) (Cr te):=by
 intro pins s σ H D I h;exact wpAny_Expr_any (thn (he pins s σ H _ I h) fun v s1 ⟨x,H1,I1,r1,q1⟩=>⟨σ,H1,I1,q1⟩) I.quiet hs
def tRet(te:TE):TS:=fun D σ H=>te σ H D.rt
theorem ax(he:PE X e te):PS X (.Return (some e) pos) (tRet te):=by
 intro pins s σ H D I h;exact wpAny_Return_some (thn (he pins s σ H _ I h) fun v s1 ⟨x,H1,I1,r1,q1⟩=>⟨x,σ,H1,I1,r1,q1⟩)
def CZ(c:TT)(t u:TS):TS:=fun D σ H=>c σ H fun b H1=>if b=true then t D σ H1 else u D σ H1
theorem aX{c:Expr}{a b:List Stmt}{tc:TT}(hc:PT X c tc)(ha:PSs X a t)(hb:PSs X b u):PS X (.If c a b pos) (CZ tc t u):=by
 intro pins s σ H D I h;refine wpAny_If (thn (hc pins s σ H _ I h) fun d s1 ⟨H1,I1,q1⟩=>?_);cases d with
 | true=>exact ha pins s1 σ H1 D I1 q1
 | false=>exact hb pins s1 σ H1 D I1 q1
def CV:TS:=fun _ _ _=>False
theorem jn{sts:List Stmt}:PSs X sts CV:=fun _ _ _ _ _ _ h=>h.elim
end
abbrev TG:=V->St->Hp->(St->Hp->Prop)->Prop
abbrev TGs:=List V->St->Hp->(St->Hp->Prop)->Prop
def PG(X:Cx)(target:Expr)(t:TG):Prop:=
 ∀(pins:List (Addr×Obj))(s:Shared)(σ:St)(H:Hp)(v:V)(u:Value)(Q:St->Hp->Prop),Inv X pins σ H s->RelV v u->t v σ H Q ->
  wpAny (model X.prog X.w) X.A (assign target X.env u) (fun _ s'=>∃ σ' H',Inv X pins σ' H' s'/\Q σ' H') X.xe s
def PGs(X:Cx)(ts:List Expr)(t:TGs):Prop:=
 ∀(pins:List (Addr×Obj))(s:Shared)(σ:St)(H:Hp)(vs:List V)(us:List Value)(Q:St->Hp->Prop),Inv X pins σ H s->Vals vs us->t vs σ H Q ->
  wpAny (model X.prog X.w) X.A (assignInOrder ((assignEach ts X.env).map (·.2)) us) (fun _ s'=>∃ σ' H',Inv X pins σ' H' s'/\Q σ' H') X.xe s
abbrev Eh:=V->V->V->Hp->(Hp->Prop)->Prop
def PSet(X:Cx)(t:Eh):Prop:=
 ∀(pins:List (Addr×Obj))(s:Shared)(σ:St)(H:Hp)(o i v:V)(ov iv u:Value)(Q:Hp->Prop),Inv X pins σ H s->RelV o ov->RelV i iv->RelV v u->t o i v H Q ->
  wpAny (model X.prog X.w) X.A (setItem ov iv u) (fun _ s'=>∃H',Inv X pins σ H' s'/\Q H') X.xe s
section
variable {X:Cx} {pos:Pos}
def sK(i:Nat):TG:=fun v σ H Q=>Q (σ.set i (some v)) H
theorem aQ{i:Nat}{x:Str}(hN:X.N.Nodup)(hi:X.N[i]?=some x)(hx:Loc X.env.scope x)(hf:X.fn x=true∨X.env.scope.names.lookup x=some .local:=by first | exact .inl rfl | exact .inr rfl | assumption):PG X (.Name x pos) (sK i):=by
 intro pins s σ H v u Q I r h;exact wpAny_assign_Name (eR I hN hi hx r (fun s' I'=>⟨_,H,I',h⟩) hf)
def gNil:TGs:=fun vs σ H Q=>vs=[]/\Q σ H
def gCons(t:TG)(u:TGs):TGs:=fun vs σ H Q=>∃v r,vs=v::r/\t v σ H fun σ' H'=>u r σ' H' Q
theorem jp:PGs X [] gNil:=by
 intro pins s σ H vs us Q I r h;obtain⟨e,h⟩:=h;subst e;cases r;exact assignInOrder_nil ⟨σ,H,I,h⟩
theorem bx{e:Expr}{es:List Expr}{t:TG}{u:TGs}(h1:PG X e t)(h2:PGs X es u)
 (hs:(assignEach (e::es) X.env).map (·.2)=assign e X.env::(assignEach es X.env).map (·.2):=by rfl):PGs X (e::es) (gCons t u):=by
 intro pins s σ H vs us Q I r h;obtain⟨v,vr,e1,h⟩:=h;subst e1;cases r with
 | cons r rr=>
   rw[hs];refine assignInOrder_cons (thn (h1 pins s σ H _ _ _ I r h) fun _ s1 ⟨σ1,H1,I1,q1⟩=>?_);exact h2 pins s1 σ1 H1 _ _ Q I1 rr q1
def gTup(K:W.Frag)(n:Nat)(t:TGs):TG:=fun v σ H Q=>∃a xs,v=.ref a/\SqT K H a xs/\xs.length=n/\t xs σ H Q
theorem nI{es:List Expr}{k:Nat}{t:TGs}{n:Nat}(hc:X.calm=true)(h:PGs X es t)
 (hn:(assignEach es X.env).length=n:=by rfl) (hst:(assignEach es X.env).findIdx? (·.1)=none:=by rfl):PG X (.Tuple es k pos) (gTup X.K n t):=by
 intro pins s σ H v u Q I r hw;obtain⟨a,xs,e1,hq,hl,hw⟩:=hw;subst e1;cases r;obtain⟨its,rv,ht,hz⟩:=I.tuple hq;refine assign_Tuple_tuple (I.ok.hd hc) ht (by simp [hn,←hl,rv.length]) hst fun h' hx=>?_
 have I1:Inv X pins σ H { s with heap:=h' }:=I.kept (t':=s.toks) fun b o e=>hx b o (zS0 (zM0 e)) e
 exact h pins _ σ H xs _ Q I1 (by simpa using rv) hw
def gSub(to ti:TE)(t:Eh):TG:=fun v σ H Q=>to σ H fun o H1=>ti σ H1 fun i H2=>t o i v H2 fun H3=>Q σ H3
theorem kO{o i:Expr}{to ti:TE}{t:Eh}(ho:PE X o to)(hi:PE X i ti)(hs:PSet X t)
 (ha:∀v,assign (.Subscript o i pos) X.env v=(do
  let ov ←holding [v] (eval o X.env)
  let iv ←holding [v,ov] (eval i X.env)
  standAt pos
  holding [v,ov,iv] (setItem ov iv v)
  release [v,ov,iv] []):=by intro _;rfl):PG X (.Subscript o i pos) (gSub to ti t):=by
 intro pins s σ H v u Q I r h;rw[ha];refine zA0 (wpAny_holding (thn (ho pins s σ H _ I h) fun ov s1 ⟨x,H1,I1,r1,q1⟩=>?_));refine zA0 (wpAny_holding (thn (hi pins s1 σ H1 _ I1 q1) fun iv s2 ⟨y,H2,I2,r2,q2⟩=>?_));refine zA0 (wpAny_standAt (zA0 (wpAny_holding (thn (hs pins s2 σ H2 x y v ov iv u _ I2 r1 r2 r q2) fun _ s3 ⟨H3,I3,q3⟩=>?_))));exact wpAny_release ⟨σ,H3,I3,q3⟩
def Bj(te:TE)(g:TG):TS:=fun D σ H=>te σ H fun x H1=>g x σ H1 D.nx
theorem gN{tg e:Expr}{te:TE}{g:TG}(he:PE X e te)(hg:PG X tg g)(hs:swapsWithSole [tg] e pos.line X.env=pure false:=by rfl)(hw:swappedStores [tg] e X.env=pure none:=by rfl)
 (h1:(assignEach [tg] X.env).map (·.2)=[assign tg X.env]:=by rfl):PS X (.Assign [tg] e pos) (Bj te g):=by
 intro pins s σ H D I h;refine wpAny_Assign_stores (thn (he pins s σ H _ I h) fun v s1 ⟨x,H1,I1,r1,q1⟩=>?_) hs hw;rw[h1];exact thn (hg pins s1 σ H1 x v _ I1 r1 q1) fun _ s2 q=>q
theorem au{i:Nat}{x:Str}{e:Expr}{te:TE}{pos':Pos}(hN:X.N.Nodup)(hi:X.N[i]?=some x)(hx:Loc X.env.scope x)(he:PE X e te)(hs:swapsWith e (some (.Name x pos')) pos.line X.env=pure false:=by rfl)(hf:X.fn x=true∨X.env.scope.names.lookup x=some .local:=by first | exact .inl rfl | exact .inr rfl | assumption) :
 PS X (.Assign [.Name x pos'] e pos) (Bj te (sK i)):=by
 intro pins s σ H D I h;refine wpAny_Assign_Name (thn (he pins s σ H _ I h) fun v s1 ⟨y,H1,I1,r1,q1⟩=>?_) hs;exact eR I1 hN hi hx r1 (fun s2 I2=>⟨_,H1,I2,q1⟩) hf
def tPar(i j:Nat)(ta:TA):TS:=fun D σ H=>ta σ H fun vs H1=>∃v w,vs=[v,w]/\D.nx ((σ.set i (some v)).set j (some w)) H1
theorem zJ{i j:Nat}{x y:Str}{a b:Expr}{ta:TA}{px py pt:Pos}{kt k2 pt2}(hc:X.calm=true)(hN:X.N.Nodup)(hi:X.N[i]?=some x)(hj:X.N[j]?=some y)(hij:i≠j)
 (hx:X.env.scope.names.lookup x=some .local) (hy:X.env.scope.names.lookup y=some .local) (ha:PA X [a,b] ta)
 (hw:swappedStores [.Tuple [.Name x px,.Name y py] kt pt] (.Tuple [a,b] k2 pt2) X.env=pure (some [x,y]))
 (hs:swapsWithSole [.Tuple [.Name x px,.Name y py] kt pt] (.Tuple [a,b] k2 pt2) pos.line X.env=pure false:=by rfl) :
 PS X (.Assign [.Tuple [.Name x px,.Name y py] kt pt] (.Tuple [a,b] k2 pt2) pos) (tPar i j ta):=by
 intro pins s σ H D I h;rw[exec_Assign_arm];refine zA0 (wpAny_standAt ?_);rw[hs];refine zA0 (zH0 ?_);rw[zD0 (by decide)];refine zA0 (Tuple_ (thn (ha _ pins s σ H _ I h) fun us s1 ⟨vs,H1,I1,r1,q1⟩=>?_));obtain⟨v,w,e1,q1⟩:=q1;subst e1;obtain⟨u1,u2,rfl,rv,rw'⟩:∃u1 u2,us=[u1,u2]/\RelV v u1/\RelV w u2:=by
  cases r1 with
  | cons p q=>
    cases q with
    | cons p' q'=>
      cases q';exact⟨_,_,rfl,p,p'⟩
 refine wpAny_newObj_type ?_ (by show 2<=sizeLine;decide);have I2:Inv X pins σ H1 { s1 with heap:=s1.heap.push { cls:=.type "tuple",data:=.seq [u1,u2].toArray } }:=I1.kept (t':=s1.toks) fun b o e=>zL0 _ e
 rw[hw];refine zA0 (zH0 ?_);show wpAny (model X.prog X.w) X.A (do rule "assign.swapped-stores";let items ←unpackItems (.ref s1.heap.objs.size) 2 none;assignInOrder [fun v=>bindName X.env y v,fun v=>bindName X.env x v] items.reverse;pure Flow.next) _ _ _;refine zA0 (wpAny_rule (zA0 (unpackItems_tuple (items:=#[u1,u2]) (I.ok.hd hc) (IsTup.new s1.heap _) fun h' hx'=>?_)));have I3:=I2.kept (h':=h') (t':=s1.toks) fun b o e=>hx' b o (zS0 (zM0 e)) e
 show wpAny _ _ (assignInOrder [fun v=>bindName X.env y v,fun v=>bindName X.env x v] [u2,u1] >>= fun _=>pure Flow.next) _ _ _;refine zA0 (assignInOrder_cons (wpAny_bindName (eR I3 hN hj (.inl hy) rw' (fun s2 I4=>?_) (.inr hy))));refine assignInOrder_cons (wpAny_bindName (eR I4 hN hi (.inl hx) rv (fun s3 I5=>assignInOrder_nil (zH0 ?_)) (.inr hx)));rw[List.set_comm _ _ (Ne.symm hij)]at I5;exact⟨_,H1,I5,q1⟩
end
section
variable {X:Cx} {pos:Pos}
def yZ(c:TT)(tb:TS):TS:=fun D σ H=>∃W:Nat->St->Hp->Prop,(∃m,W m σ H)/\∀m σ H,W m σ H ->
 c σ H fun b H1=>if b=true then ∃N:St->Hp->Prop,(∀ σ' H',N σ' H'->∃m',m'<m/\W m' σ' H')/\tb { D with nx:=N,ct:=N,bk:=D.nx } σ H1 else D.nx σ H1
theorem kg{c:Expr}{body:List Stmt}{tc:TT}{tb:TS}(hp:PassesOwn (model X.prog X.w) X.A X.env X.xe)(hc:PT X c tc)(hb:PSs X body tb):PS X (.While c body [] pos) (yZ tc tb):=by
 intro pins s σ H D I h;obtain⟨W,⟨m0,w0⟩,turn⟩:=h;refine wpAny_While (codeAny_whileLoop (fun n s'=>∃ σ' H',Inv X pins σ' H' s'/\W n σ' H') ?_ m0 ⟨σ,H,I,w0⟩);rintro n s1 ⟨σ1,H1,I1,w1⟩;refine wpAny_passesOwn hp (thn (hc pins s1 σ1 H1 _ I1 (turn n σ1 H1 w1)) fun b s2 ⟨H2,I2,q2⟩=>?_);cases b with
 | true=>
   obtain⟨N,hN,q2⟩:=q2;rw[zF0 rfl];refine wpAny_passesOwn hp (thn (hb pins s2 σ1 H2 _ I2 q2) fun f s3 q3=>?_);cases f with
   | next=>
     obtain⟨σ3,H3,I3,n3⟩:=q3;obtain⟨m',hm,w3⟩:=hN σ3 H3 n3;exact⟨m',hm,σ3,H3,I3,w3⟩
   | cont=>
     obtain⟨σ3,H3,I3,n3⟩:=q3;obtain⟨m',hm,w3⟩:=hN σ3 H3 n3;exact⟨m',hm,σ3,H3,I3,w3⟩
   | brk=>exact q3
   | ret v=>exact q3
 | false=>
   rw[zD0 qA0];exact wpAny_execs_nil ⟨σ1,H2,I2,q2⟩
end
structure It where
 go:Nat->Hp->Prop
 yld:Nat->Hp->V->Hp->Prop
 stop:Nat->Hp->Prop
def hZ(X:Cx)(pins:List (Addr×Obj))(H:Hp)(b:Addr):Prop:=
 H b=none/\b≠X.env.locals/\b∉X.fs/\(b∈X.ex∨X.s₀.heap.objs.size<=b)/\(∀x c,X.env.cells.lookup x=some c->c≠b)/\∀p∈X.pn++pins,p.1≠b
theorem Inv.fpOk{X:Cx}{pins:List (Addr×Obj)}{σ:St}{H H':Hp}{s:Shared}{b:Addr}(I:Inv X pins σ H s)(hb:s.heap.objs.size<=b)(hn:H' b=none):hZ X pins H' b:=by
 refine⟨hn,Nat.ne_of_gt (qH0 I.lt hb),I.nofs hb,.inr (zX0 I.sz hb),fun x c e z=>?_,fun p hp z=>?_⟩
 . obtain⟨v,q⟩:=I.cell x c e;exact absurd (qH0 q.lt (by rw[z];exact hb)) (qQ0 _)
 . exact absurd (qH0 (zM0 (I.pin p hp).1) (by rw[z];exact hb)) (qQ0 _)
structure Turn(P:Program)(w:World)(K:W.Frag)(tg:Expr)(J:It)(fp:List Addr)(it:Addr)(tn:Nat->Heap->Prop):Prop where
 mem:it∈fp
 obj:∀i h,tn i h->∀b∈fp,∃o,h.get? b=some o/\∀v,o.data≠.cell v
 keep:∀i h h',tn i h->(∀b∈fp,∀o,h.get? b=some o->h'.get? b=some o)->tn i h'
 item:∀(X:Cx),X.prog=P->X.w=w->X.K=K->X.calm=true->∀(i:Nat)(pins:List (Addr×Obj))(s:Shared)(σ:St)(H:Hp)(E:Value->Shared->Prop),Inv X pins σ H s->(∀b∈fp,hZ X pins H b)->tn i s.heap->J.go i H ->
  wpAny (model P w) X.A (pyNext (.ref it)) (fun r s1=>∃u,r=some u/\
   wpAny (model P w) X.A (letOwnedTupleGo tg (.ref it) u) (fun _ s2=>∃x H',Inv X pins σ H' s2/\RelV x u/\J.yld i H x H'/\tn (i+1) s2.heap/\∀b∈fp,H' b=none) E s1) E s
 done:∀(X:Cx),X.prog=P->X.w=w->X.K=K->X.calm=true->∀(i:Nat)(pins:List (Addr×Obj))(s:Shared)(σ:St)(H:Hp)(E:Value->Shared->Prop),Inv X pins σ H s->(∀b∈fp,hZ X pins H b)->tn i s.heap->J.stop i H ->
  wpAny (model P w) X.A (pyNext (.ref it)) (fun r s1=>r=none/\Inv X pins σ H s1) E s
 self:∀(A:Around)(i:Nat)(s:Shared)(Q:Value->Shared->Prop)(E:Value->Shared->Prop),tn i s.heap->Q (.ref it) s->wpAny (model P w) A (pyIter (.ref it)) Q E s
abbrev TI:=St->Hp->(It->Hp->Prop)->Prop
def PIE(X:Cx)(pins:List (Addr×Obj))(σ:St)(tg:Expr)(R:It->Hp->Prop)(itv:Value)(s2:Shared):Prop:=
 ∃(it:Addr)(fp:List Addr)(tn:Nat->Heap->Prop)(J:It)(H':Hp),itv=.ref it/\Inv X pins σ H' s2/\Turn X.prog X.w X.K tg J fp it tn/\tn 0 s2.heap/\(∀b∈fp,hZ X pins H' b)/\R J H'
def PI(X:Cx)(tg iter:Expr)(wi:TI):Prop:=
 ∀(pins:List (Addr×Obj))(s:Shared)(σ:St)(H:Hp)(R:It->Hp->Prop),Inv X pins σ H s->wi σ H R ->
  wpAny (model X.prog X.w) X.A (eval iter X.env) (fun v s1=>wpAny (model X.prog X.w) X.A (pyIter v) (PIE X pins σ tg R) X.xe s1) X.xe s
theorem sJ{M:Model}{A:Around}{E:Value->Shared->Prop}{s:Shared}{tg:Expr}{it:Addr}{u:Value}{o:Obj}{n:String}{vs:Array Value}{Q:Unit->Shared->Prop}(ho:s.heap.get? it=some o)(hc:o.cls=.type n)(hd:o.data=.fields vs)
 (hn:["enumerate","zip","dict_itemiterator","dict_reverseitemiterator","odict_iterator","itertools.zip_longest","itertools.pairwise"].contains n=false) (hQ:Q () s):wpAny M A (letOwnedTupleGo tg (.ref it) u) Q E s:=by
 unfold letOwnedTupleGo;cases tg <;> first
  | exact zH0 hQ
  | (cases u <;> first
   | exact zH0 hQ
   | (refine zA0 (wpAny_load ho ?_)
      rw[hc,hd];show wpAny M A (if(["enumerate","zip","dict_itemiterator","dict_reverseitemiterator","odict_iterator","itertools.zip_longest","itertools.pairwise"].contains n&&vs[0]?==some (rawInt _))=true then _ else _) Q E s;rw[zD0 (by intro h;rw[hn,Bool.false_and]at h;cases h)];exact zH0 hQ))
def Itl(K:W.Frag)(a:Addr):It:=
 ⟨fun i H=>∃xs x,SqL K H a xs/\xs[i]?=some x,fun i H x H'=>H'=H/\∀xs,SqL K H a xs->xs[i]?=some x,fun i H=>∃xs,SqL K H a xs/\xs.length<=i⟩
def Itt(K:W.Frag)(a:Addr):It:=
 ⟨fun i H=>∃xs x,SqT K H a xs/\xs[i]?=some x,fun i H x H'=>H'=H/\∀xs,SqT K H a xs->xs[i]?=some x,fun i H=>∃xs,SqT K H a xs/\xs.length<=i⟩
def Itr(lo:Int)(n:Nat):It:=⟨fun i _=>i<n,fun i H x H'=>H'=H/\x=.int (lo+i),fun i _=>n<=i⟩
theorem oW{P:Program}{w:World}{K:W.Frag}{tg:Expr}(a it:Addr):Turn P w K tg (Itl K a) [it] it (fun i h=>h.IsListIter it a i) where
 mem:=by simp
 obj:=fun i h st b hb=>by
  have e:b=it:=by simpa using hb
  subst e;obtain⟨o,e,c,d⟩:=st;exact⟨o,e,fun v z=>by rw[d]at z;cases z⟩
 keep:=fun i h h' st k=>st.at fun o e=>k it (by simp) o e
 item:=by
  intro X hP hw hK hc i pins s σ H E I hf st hg;subst hP hw hK;obtain⟨xs,x,hq,hx⟩:=hg;obtain⟨its,rv,p,hz⟩:=I.list hq;obtain⟨u,hu,ru⟩:=rv.get hx;obtain⟨f0,f1,f2,f3,f4,f5⟩:=hf it (by simp);refine wpAny_pyNext_list_item st p.isList (x:=u) (by simpa using hu) fun h' st' sb=>?_
  have I1:Inv X pins σ H { s with heap:=h' }:=I.turned (t':=s.toks) (fun b o hb e=>(sb.2 b hb).trans e) f0 f1 f3 f4 f5;obtain⟨o,e,c,d⟩:=id st';exact⟨u,rfl,sJ (s:={ s with heap:=h' }) e c d (by decide) ⟨x,H,I1,ru,⟨rfl,fun ys hy=>by rw[I.list_inj hy hq];exact hx⟩,st',fun b hb=>(hf b hb).1⟩⟩
 done:=by
  intro X hP hw hK hc i pins s σ H E I hf st hg;subst hP hw hK;obtain⟨xs,hq,hx⟩:=hg;obtain⟨its,rv,p,hz⟩:=I.list hq;obtain⟨f0,f1,f2,f3,f4,f5⟩:=hf it (by simp);have hl:=rv.length;exact wpAny_pyNext_list_end (I.ok.hd hc) st p.isList (by simp;omega) fun h' eb=>⟨rfl,I.turned (t':=s.toks) (fun b o hb e=>eb b o hb e) f0 f1 f3 f4 f5⟩
 self:=fun _ _ _ _ _ st h=>wpAny_pyIter_listiter st h
theorem mE{P:Program}{w:World}{K:W.Frag}{tg:Expr}(a it:Addr):Turn P w K tg (Itt K a) [it] it (fun i h=>h.IsTupleIter it a i) where
 mem:=by simp
 obj:=fun i h st b hb=>by
  have e:b=it:=by simpa using hb
  subst e;obtain⟨o,e,c,d⟩:=st;exact⟨o,e,fun v z=>by rw[d]at z;cases z⟩
 keep:=fun i h h' st k=>st.at fun o e=>k it (by simp) o e
 item:=by
  intro X hP hw hK hc i pins s σ H E I hf st hg;subst hP hw hK;obtain⟨xs,x,hq,hx⟩:=hg;obtain⟨its,rv,p,hz⟩:=I.tuple hq;obtain⟨u,hu,ru⟩:=rv.get hx;obtain⟨f0,f1,f2,f3,f4,f5⟩:=hf it (by simp);refine wpAny_pyNext_tuple_item st (show s.heap.IsTuple a its.toArray from p) (x:=u) (by simpa using hu) fun h' st' sb=>?_
  have I1:Inv X pins σ H { s with heap:=h' }:=I.turned (t':=s.toks) (fun b o hb e=>(sb.2 b hb).trans e) f0 f1 f3 f4 f5;obtain⟨o,e,c,d⟩:=id st';exact⟨u,rfl,sJ (s:={ s with heap:=h' }) e c d (by decide) ⟨x,H,I1,ru,⟨rfl,fun ys hy=>by rw[I.tuple_inj hy hq];exact hx⟩,st',fun b hb=>(hf b hb).1⟩⟩
 done:=by
  intro X hP hw hK hc i pins s σ H E I hf st hg;subst hP hw hK;obtain⟨xs,hq,hx⟩:=hg;obtain⟨its,rv,p,hz⟩:=I.tuple hq;obtain⟨f0,f1,f2,f3,f4,f5⟩:=hf it (by simp);have hl:=rv.length;exact wpAny_pyNext_tuple_end (I.ok.hd hc) st (show s.heap.IsTuple a its.toArray from p) (by simp;omega) fun h' eb=>⟨rfl,I.turned (t':=s.toks) (fun b o hb e=>eb b o hb e) f0 f1 f3 f4 f5⟩
 self:=fun _ _ _ _ _ st h=>wpAny_pyIter_tupleiter st h
theorem tM{P:Program}{w:World}{K:W.Frag}{tg:Expr}(it:Addr)(lo:Int)(n:Nat):Turn P w K tg (Itr lo n) [it] it (fun i h=>IsRangeIter h it (lo+(i:Nat)*1) ((n:Int)-(i:Nat)) 1) where
 mem:=by simp
 obj:=fun i h st b hb=>by
  have e:b=it:=by simpa using hb
  subst e;exact⟨_,st,fun v z=>by
   have z':Data.fields _=Data.cell v:=z;cases z'⟩
 keep:=fun i h h' st k=>k it (by simp) _ st
 item:=by
  intro X hP hw hK hc i pins s σ H E I hf st hg;subst hP hw hK;obtain⟨f0,f1,f2,f3,f4,f5⟩:=hf it (by simp);have W:=Walks.range (prog:=X.prog) (w:=X.w) (I.ok.hd hc) it lo 1 n;refine W.item i s _ _ hg st fun v h' tk hv st' kk=>?_
  obtain⟨t,rfl⟩:=hv;have I1:Inv X pins σ H { s with heap:=h',toks:=tk }:=I.turned (fun b o hb e=>kk b o (by simpa using hb) e) f0 f1 f3 f4 f5;refine⟨_,rfl,sJ (s:={ s with heap:=h',toks:=tk }) (n:="range_iterator") st' rfl rfl (by decide) ⟨.int (lo+i),H,I1,⟨t,?_⟩,⟨rfl,rfl⟩,st',fun b hb=>(hf b hb).1⟩⟩;rw[Int.mul_one]
 done:=by
  intro X hP hw hK hc i pins s σ H E I hf st hg;subst hP hw hK;obtain⟨f0,f1,f2,f3,f4,f5⟩:=hf it (by simp);exact wpAny_pyNext_range_end (I.ok.hd hc) st (by have:n<=i:=hg;omega) fun h' eb=>⟨rfl,I.turned (t':=s.toks) (fun b o hb e=>eb b o hb e) f0 f1 f3 f4 f5⟩
 self:=fun _ _ _ _ _ st h=>wpAny_pyIter_rangeiter st h
section
variable {X:Cx} {tg:Expr}
def iList(K:W.Frag)(tl:TE):TI:=fun σ H R=>tl σ H fun x H1=>∃a,x=.ref a/\(∃xs,SqL K H1 a xs)/\R (Itl K a) H1
def iTup(K:W.Frag)(tl:TE):TI:=fun σ H R=>tl σ H fun x H1=>∃a,x=.ref a/\(∃xs,SqT K H1 a xs)/\R (Itt K a) H1
theorem dG{l:Expr}{tl:TE}(hl:PE X l tl):PI X tg l (iList X.K tl):=by
 intro pins s σ H R I h;refine thn (hl pins s σ H _ I h) fun v s1 ⟨x,H1,I1,r1,q1⟩=>?_
 obtain⟨a,e,⟨xs,hq⟩,q⟩:=q1;subst e;cases r1;obtain⟨its,rv,p,hz⟩:=I1.list hq;refine wpAny_pyIter_list p.isList ?_;refine⟨s1.heap.objs.size,[s1.heap.objs.size],_,_,H1,rfl,I1.kept (t':=s1.toks) fun b o e=>zL0 _ e,oW a _,⟨_,zW0 _ rfl,rfl,rfl⟩,fun b hb=>?_,q⟩;have e:b=s1.heap.objs.size:=by simpa using hb
 subst e;exact I1.fpOk (zI0 _) (I1.hok.fresh (zI0 _))
theorem dk{l:Expr}{tl:TE}(hl:PE X l tl):PI X tg l (iTup X.K tl):=by
 intro pins s σ H R I h;refine thn (hl pins s σ H _ I h) fun v s1 ⟨x,H1,I1,r1,q1⟩=>?_
 obtain⟨a,e,⟨xs,hq⟩,q⟩:=q1;subst e;cases r1;obtain⟨its,rv,p,hz⟩:=I1.tuple hq;refine wpAny_pyIter_tuple (show s1.heap.IsTuple a its.toArray from p) ?_;refine⟨s1.heap.objs.size,[s1.heap.objs.size],_,_,H1,rfl,I1.kept (t':=s1.toks) fun b o e=>zL0 _ e,mE a _,⟨_,zW0 _ rfl,rfl,rfl⟩,fun b hb=>?_,q⟩;have e:b=s1.heap.objs.size:=by simpa using hb
 subst e;exact I1.fpOk (zI0 _) (I1.hok.fresh (zI0 _))
theorem rO{pins:List (Addr×Obj)}{σ:St}{H:Hp}{s:Shared}{R:It->Hp->Prop}{E:Value->Shared->Prop}{lo hi:Int}{t u v:Tok}{tk:Nat}(I:Inv X pins σ H s)(h1:-(2 ^ 62)<=lo)(h2:lo<2 ^ 62)(h3:-(2 ^ 62)<=hi)(h4:hi<2 ^ 62)
 (q:R (Itr lo (hi-lo).toNat) H):wpAny (model X.prog X.w) X.A (pyIter (.ref s.heap.objs.size)) (PIE X pins σ tg R) E { s with heap:=s.heap.push { cls:=.type "range",data:=.fields #[.int lo t,.int hi u,.int 1 v] },toks:=tk }:=by
 refine wpAny_pyIter_range (IsRange.new ..) (small_one h1 h2 h3 h4) ?_;have I1:Inv X pins σ H { s with heap:=s.heap.push { cls:=.type "range",data:=.fields #[.int lo t,.int hi u,.int 1 v] },toks:=tk }:=I.kept fun b o e=>zL0 _ e
 refine ⟨(s.heap.push { cls:=.type "range",data:=.fields #[.int lo t,.int hi u,.int 1 v] }).objs.size,[(s.heap.push { cls:=.type "range",data:=.fields #[.int lo t,.int hi u,.int 1 v] }).objs.size],_,_,H,rfl,
  I1.kept (t':=tk) fun b o e=>zL0 _ e,tM _ lo (hi-lo).toNat,?_,fun b hb=>?_,q⟩
 . have e1:lo+((0:Nat):Int)*1=lo:=by simp
   have e2:(((hi-lo).toNat:Nat):Int)-((0:Nat):Int)=Builtin.Range.rangeSize lo hi 1:=by rw[rangeSize_one];split <;> omega
   show IsRangeIter _ _ (lo+((0:Nat):Int)*1) ((((hi-lo).toNat:Nat):Int)-((0:Nat):Int)) 1;rw[e1,e2];exact zW0 _ rfl
 . have e:b=(s.heap.push { cls:=.type "range",data:=.fields #[.int lo t,.int hi u,.int 1 v] }).objs.size:=by simpa using hb
   subst e;exact I1.fpOk (zI0 _) (I1.hok.fresh (zI0 _))
def iRng1(ta:TA):TI:=fun σ H R=>ta σ H fun vs H1=>∃j:Int,vs=[.int j]/\-(2 ^ 62)<=j/\j<2 ^ 62/\R (Itr 0 j.toNat) H1
def iRng2(ta:TA):TI:=fun σ H R=>ta σ H fun vs H1=>∃i j:Int,vs=[.int i,.int j]/\(-(2 ^ 62)<=i/\i<2 ^ 62/\-(2 ^ 62)<=j/\j<2 ^ 62)/\R (Itr i (j-i).toNat) H1
theorem bY {a:Expr} {ta:TA} {p pos:Pos} (hg:Gl X "range") (hm:X.mg "range"=none) (ha:PA X [a] ta) (hs:starEach [a] X.env=[(false,eval a X.env)]:=by rfl):PI X tg (.Call (.Name "range" p) [a] [] pos) (iRng1 ta):=by
 intro pins s σ H R I h;refine Call_ (iq I hg hm boot_range (PyProof.Rows.callWith_type1 (thn (ha pos pins s σ H _ I h) fun us s1 ⟨vs,H1,I1,r1,q1⟩=>?_) hs rfl));obtain⟨j,e,q1,q2,q⟩:=q1;subst e;cases r1 with
 | cons r rr=>
   cases rr;obtain⟨t,rfl⟩:=r;exact call_range_1 (rO I1 (by omega) (by omega) q1 q2 (by simpa using q))
theorem xL {a b:Expr} {ta:TA} {p pos:Pos} (hg:Gl X "range") (hm:X.mg "range"=none) (ha:PA X [a,b] ta) (hs:starEach [a,b] X.env=[(false,eval a X.env),(false,eval b X.env)]:=by rfl) (hs2:starEach [b] X.env=[(false,eval b X.env)]:=by rfl) :
 PI X tg (.Call (.Name "range" p) [a,b] [] pos) (iRng2 ta):=by
 intro pins s σ H R I h;refine Call_ (iq I hg hm boot_range (PyProof.Rows.callWith_type1 (thn (ha pos pins s σ H _ I h) fun us s1 ⟨vs,H1,I1,r1,q1⟩=>?_) (by rw[hs,hs2]) (by rw[hs2];rfl)));obtain⟨i,j,e,⟨q1,q2,q3,q4⟩,q⟩:=q1;subst e;cases r1 with
 | cons r rr=>
   cases rr with
   | cons r' rr=>
     cases rr;obtain⟨t,rfl⟩:=r;obtain⟨t',rfl⟩:=r';exact call_range_2 (rO I1 q1 q2 q3 q4 q)
def tFor(wi:TI)(g:TG)(tb:TS):TS:=fun D σ H=>wi σ H fun J H1=>∃W:Nat->Nat->St->Hp->Prop,(∃m,W 0 m σ H1)/\∀i m σ H,W i m σ H ->
 (J.stop i H/\D.nx σ H)∨(J.go i H/\∃N:St->Hp->Prop,(∀ σ' H',N σ' H'->∃m',m'<m/\W (i+1) m' σ' H')/\∀x H',J.yld i H x H'->g x σ H' fun σ2 H2=>tb { D with nx:=N,ct:=N,bk:=D.nx } σ2 H2)
def iN(fp:List Addr)(h:Heap):List (Addr×Obj):=fp.filterMap fun b=>(h.get? b).map fun o=>(b,o)
theorem eG{fp:List Addr}{h:Heap}{b:Addr}{o:Obj}(hb:b∈fp)(e:h.get? b=some o):(b,o)∈iN fp h:=List.mem_filterMap.mpr ⟨b,hb,by rw[e];rfl⟩
theorem yb{fp:List Addr}{h:Heap}{p:Addr×Obj}(hp:p∈iN fp h):p.1∈fp/\h.get? p.1=some p.2:=by
 obtain⟨b,hb,e⟩:=List.mem_filterMap.mp hp;cases q:h.get? b with
 | none=>rw[q]at e;cases e
 | some o=>
   rw[q]at e;have e':(b,o)=p:=zO0 e;subst e';exact⟨hb,q⟩
theorem Inv.pinned{pins:List (Addr×Obj)}{σ:St}{H:Hp}{s:Shared}{fp:List Addr}(I:Inv X pins σ H s)(hf:∀b∈fp,hZ X pins H b)(ho:∀b∈fp,∃o,s.heap.get? b=some o/\∀v,o.data≠.cell v):Inv X (pins++iN fp s.heap) σ H s:=
 I.pins_of fun p hp=>(qD0 hp).elim (fun z=>I.pin p (qN0 _ z)) fun z=>by
  obtain⟨hb,e⟩:=yb z;obtain⟨f0,f1,f2,_⟩:=hf p.1 hb;obtain⟨o,e',d⟩:=ho p.1 hb;rw[e]at e';cases e';exact⟨e,f0,f1,f2,d⟩
theorem Inv.unpinned{pins pl:List (Addr×Obj)}{σ:St}{H:Hp}{s:Shared}(I:Inv X (pins++pl) σ H s):Inv X pins σ H s:=I.pins_of fun p hp=>I.pin p (qN0 _ (List.mem_append_left _ hp))
theorem cD{iter:Expr}{body:List Stmt}{wi:TI}{g:TG}{tb:TS}{pos:Pos}(hp:PassesOwn (model X.prog X.w) X.A X.env X.xe)(hc:X.calm=true)(hi:PI X tg iter wi)(hg:PG X tg g)(hb:PSs X body tb)
 (hs:∀x,foldedSetIterable iter X.env x=pure x:=by intro _;rfl):PS X (.For tg iter body [] pos) (tFor wi g tb):=by
 intro pins s σ H D I h;refine wpAny_For (thn (hi pins s σ H _ I h) fun v s1 h1=>thn h1 fun itv s2 h2=>?_) hs;obtain⟨it,fp,tn,J,H2,e,I2,T,st2,f2,W,⟨m0,w0⟩,turn⟩:=h2;subst e;have stat:∀{H':Hp},(∀b∈fp,H' b=none)->∀b∈fp,hZ X pins H' b:=fun hn b hb=>⟨hn b hb,(f2 b hb).2⟩
 refine codeAny_forLoop_any (fun n s'=>∃i σ' H',Inv X pins σ' H' s'/\tn i s'.heap/\(∀b∈fp,H' b=none)/\W i n σ' H') ?_ m0 ⟨0,σ,H2,I2,st2,fun b hb=>(f2 b hb).1,w0⟩;rintro n s3 ⟨i,σ3,H3,I3,st3,fr3,w3⟩;rcases turn i n σ3 H3 w3 with⟨stop,qn⟩ | ⟨go,N,hN,step⟩
 . refine wpAny_passesOwn hp (thn (T.done X rfl rfl rfl hc i pins s3 σ3 H3 X.xe I3 (stat fr3) st3 stop) fun r s4 ⟨hr,I4⟩=>?_);subst hr;exact wpAny_execs_nil ⟨σ3,H3,I4,qn⟩
 . refine wpAny_passesOwn hp (thn (T.item X rfl rfl rfl hc i pins s3 σ3 H3 X.xe I3 (stat fr3) st3 go) fun r s4 ⟨u,hr,h4⟩=>?_);subst hr;refine wpAny_passesOwn hp (thn h4 fun _ s5 ⟨x,H5,I5,r5,y5,st5,fr5⟩=>?_);have I5':=I5.pinned (stat fr5) (T.obj _ _ st5);refine wpAny_passesOwn hp (thn (hg _ s5 σ3 H5 x u _ I5' r5 (step x H5 y5)) fun _ s6 ⟨σ6,H6,I6,q6⟩=>?_);refine wpAny_passesOwn hp (thn (hb _ s6 σ6 H6 _ I6 q6) fun f s7 q7=>?_);have again:∀{σ7:St}{H7:Hp},Inv X (pins++iN fp s5.heap) σ7 H7 s7->N σ7 H7->∃m,m<n/\∃i σ' H',Inv X pins σ' H' s7/\tn i s7.heap/\(∀b∈fp,H' b=none)/\W i m σ' H':=fun{σ7 H7} I7 n7=>by
    obtain⟨m',hm,w7⟩:=hN σ7 H7 n7;refine⟨m',hm,i+1,σ7,H7,I7.unpinned,T.keep _ _ _ st5 fun b hb o e=>(I7.pin (b,o) (qN0 _ (qN0 _ (eG hb e)))).1,fun b hb=>?_,w7⟩;obtain⟨o,e,d⟩:=T.obj _ _ st5 b hb;exact(I7.pin (b,o) (qN0 _ (qN0 _ (eG hb e)))).2.1
   cases f with
   | next=>obtain⟨σ7,H7,I7,n7⟩:=q7;exact again I7 n7
   | cont=>obtain⟨σ7,H7,I7,n7⟩:=q7;exact again I7 n7
   | brk=>obtain⟨σ7,H7,I7,q7⟩:=q7;exact⟨σ7,H7,I7.unpinned,q7⟩
   | ret v=>obtain⟨x7,σ7,H7,I7,r7,q7⟩:=q7;exact⟨x7,σ7,H7,I7.unpinned,r7,q7⟩
end
theorem cY{K:W.Frag}{a:Addr}{xs:List V}{g:TG}{tb:TS}{D:Ends}{σ:St}{H:Hp}(Pv:Nat->St->Hp->Prop)(h0:Pv 0 σ H)(hl:∀i σ H,i<=xs.length->Pv i σ H->SqL K H a xs)
 (hs:∀i x σ H,xs[i]?=some x->Pv i σ H->g x σ H fun σ2 H2=>tb { D with nx:=Pv (i+1),ct:=Pv (i+1),bk:=D.nx } σ2 H2) (hd:∀ σ H,Pv xs.length σ H->D.nx σ H) :
 ∃ W:Nat->Nat->St->Hp->Prop,(∃m,W 0 m σ H)/\∀i m σ H,W i m σ H ->
  ((Itl K a).stop i H/\D.nx σ H)∨((Itl K a).go i H/\∃N:St->Hp->Prop,(∀ σ' H',N σ' H'->∃m',m'<m/\W (i+1) m' σ' H')/\∀x H',(Itl K a).yld i H x H'->g x σ H' fun σ2 H2=>tb { D with nx:=N,ct:=N,bk:=D.nx } σ2 H2):=by
 refine⟨fun i m σ H=>m=xs.length-i/\i<=xs.length/\Pv i σ H,⟨xs.length,by simp,zN0 _,h0⟩,?_⟩;rintro i m σ H ⟨rfl,hi,p⟩;have q:=hl i σ H hi p
 by_cases hlt:i<xs.length
 . refine .inr ⟨⟨xs,xs[i],q,by simp [hlt]⟩,Pv (i+1),fun σ' H' p'=>⟨xs.length-(i+1),by omega,rfl,hlt,p'⟩,fun x H' y=>?_⟩;obtain⟨e,y⟩:=y;subst e;exact hs i x σ _ (y xs q) p
 . have e:i=xs.length:=by omega
   subst e;exact .inl ⟨⟨xs,q,zI0 _⟩,hd σ H p⟩
theorem qY{K:W.Frag}{a:Addr}{xs:List V}{g:TG}{tb:TS}{D:Ends}{σ:St}{H:Hp}(Pv:Nat->St->Hp->Prop)(h0:Pv 0 σ H)(hl:∀i σ H,i<=xs.length->Pv i σ H->SqT K H a xs)
 (hs:∀i x σ H,xs[i]?=some x->Pv i σ H->g x σ H fun σ2 H2=>tb { D with nx:=Pv (i+1),ct:=Pv (i+1),bk:=D.nx } σ2 H2) (hd:∀ σ H,Pv xs.length σ H->D.nx σ H) :
 ∃ W:Nat->Nat->St->Hp->Prop,(∃m,W 0 m σ H)/\∀i m σ H,W i m σ H ->
  ((Itt K a).stop i H/\D.nx σ H)∨((Itt K a).go i H/\∃N:St->Hp->Prop,(∀ σ' H',N σ' H'->∃m',m'<m/\W (i+1) m' σ' H')/\∀x H',(Itt K a).yld i H x H'->g x σ H' fun σ2 H2=>tb { D with nx:=N,ct:=N,bk:=D.nx } σ2 H2):=by
 refine⟨fun i m σ H=>m=xs.length-i/\i<=xs.length/\Pv i σ H,⟨xs.length,by simp,zN0 _,h0⟩,?_⟩;rintro i m σ H ⟨rfl,hi,p⟩;have q:=hl i σ H hi p
 by_cases hlt:i<xs.length
 . refine .inr ⟨⟨xs,xs[i],q,by simp [hlt]⟩,Pv (i+1),fun σ' H' p'=>⟨xs.length-(i+1),by omega,rfl,hlt,p'⟩,fun x H' y=>?_⟩;obtain⟨e,y⟩:=y;subst e;exact hs i x σ _ (y xs q) p
 . have e:i=xs.length:=by omega
   subst e;exact .inl ⟨⟨xs,q,zI0 _⟩,hd σ H p⟩
theorem fO{lo:Int}{n:Nat}{g:TG}{tb:TS}{D:Ends}{σ:St}{H:Hp}(Pv:Nat->St->Hp->Prop)(h0:Pv 0 σ H)
 (hs:∀i σ H,i<n->Pv i σ H->g (.int (lo+i)) σ H fun σ2 H2=>tb { D with nx:=Pv (i+1),ct:=Pv (i+1),bk:=D.nx } σ2 H2) (hd:∀ σ H,Pv n σ H->D.nx σ H) :
 ∃ W:Nat->Nat->St->Hp->Prop,(∃m,W 0 m σ H)/\∀i m σ H,W i m σ H ->
  ((Itr lo n).stop i H/\D.nx σ H)∨((Itr lo n).go i H/\∃N:St->Hp->Prop,(∀ σ' H',N σ' H'->∃m',m'<m/\W (i+1) m' σ' H')/\∀x H',(Itr lo n).yld i H x H'->g x σ H' fun σ2 H2=>tb { D with nx:=N,ct:=N,bk:=D.nx } σ2 H2):=by
 refine⟨fun i m σ H=>m=n-i/\i<=n/\Pv i σ H,⟨n,by simp,zN0 _,h0⟩,?_⟩;rintro i m σ H ⟨rfl,hi,p⟩
 by_cases hlt:i<n
 . refine .inr ⟨hlt,Pv (i+1),fun σ' H' p'=>⟨n-(i+1),by omega,rfl,hlt,p'⟩,fun x H' y=>?_⟩;obtain⟨e,y⟩:=y;subst e y;exact hs i σ _ hlt p
 . have e:i=n:=by omega
   subst e;exact .inl ⟨zI0 _,hd σ H p⟩
abbrev R2:=V->V->Hp->VK->Prop
def OpR(X:Cx)(f:Value->Value->Sem Value)(r:R2):Prop:=
 ∀(pins:List (Addr×Obj))(s:Shared)(σ:St)(H:Hp)(x y:V)(v u:Value)(Q:VK),Inv X pins σ H s->RelV x v->RelV y u->r x y H Q ->
  wpAny (model X.prog X.w) X.A (f v u) (EP X pins σ Q) X.xe s
def UnR(X:Cx)(f:Value->Sem Value)(r:V->Hp->VK->Prop):Prop:=
 ∀(pins:List (Addr×Obj))(s:Shared)(σ:St)(H:Hp)(x:V)(v:Value)(Q:VK),Inv X pins σ H s->RelV x v->r x H Q ->
  wpAny (model X.prog X.w) X.A (f v) (EP X pins σ Q) X.xe s
def fh(X:Cx)(f:Value)(r:List V->Hp->VK->Prop):Prop:=
 ∀(pins:List (Addr×Obj))(s:Shared)(σ:St)(H:Hp)(xs:List V)(us:List Value)(Q:VK),Inv X pins σ H s->Vals xs us->r xs H Q ->
  wpAny (model X.prog X.w) X.A (call f us) (EP X pins σ Q) X.xe s
def tOp(r:R2)(ta tb:TE):TE:=fun σ H Q=>ta σ H fun x H1=>tb σ H1 fun y H2=>r x y H2 Q
def tUn(r:V->Hp->VK->Prop)(ta:TE):TE:=fun σ H Q=>ta σ H fun x H1=>r x H1 Q
def rI(C:Int->Int->Prop)(g:Int->Int->V):R2:=fun x y H Q=>∃i j,x=.int i/\y=.int j/\C i j/\Q (g i j) H
def rI0(g:Int->Int->V):R2:=fun x y H Q=>∃i j,x=.int i/\y=.int j/\Q (g i j) H
def rU(g:Int->V):V->Hp->VK->Prop:=fun x H Q=>∃i,x=.int i/\Q (g i) H
section
variable {X:Cx} {a b c:Expr} {ta tb tc:TE} {pos:Pos}
theorem Ef(ha:PE X a ta)(hb:PE X b tb){pins:List (Addr×Obj)}{s:Shared}{σ:St}{H:Hp}{R:V->V->Hp->Prop}(I:Inv X pins σ H s)
 (h:ta σ H fun x H1=>tb σ H1 fun y H2=>R x y H2) {Q:Value->Shared->Prop} {f:Value->Value->Sem Value}
 (hf:∀v u s2 x y H2,Inv X pins σ H2 s2->RelV x v->RelV y u->R x y H2->wpAny (model X.prog X.w) X.A (f v u) Q X.xe s2) :
 wpAny (model X.prog X.w) X.A (eval a X.env) (fun v s₁=>wpAny (model X.prog X.w) X.A (eval b X.env) (fun u s₂=>wpAny (model X.prog X.w) X.A (f v u) Q X.xe s₂) X.xe s₁) X.xe s:=by
 refine thn (ha pins s σ H _ I h) fun v s1 ⟨x,H1,I1,r1,q1⟩=>?_
 refine thn (hb pins s1 σ H1 _ I1 q1) fun u s2 ⟨y,H2,I2,r2,q2⟩=>?_
 exact hf v u s2 x y H2 I2 r1 r2 q2
theorem aj{op:Operator}{r:R2}(ho:OpR X (binaryOp op) r)(ha:PE X a ta)(hb:PE X b tb):PE X (.BinOp a op b pos) (tOp r ta tb):=by
 intro pins s σ H Q I h;exact wpAny_BinOp (Ef ha hb I h fun v u s2 x y H2 I2 rx ry q=>ho pins s2 σ H2 x y v u Q I2 rx ry q)
theorem wu{op:UnaryOp}{r:V->Hp->VK->Prop}(ho:UnR X (unaryOp op) r)(ha:PE X a ta):PE X (.UnaryOp op a pos) (tUn r ta):=by
 intro pins s σ H Q I h;exact UnaryOp_ (thn (ha pins s σ H _ I h) fun v s1 ⟨x,H1,I1,r1,q1⟩=>ho pins s1 σ H1 x v Q I1 r1 q1)
theorem opI{f:Value->Value->Sem Value}{C:Int->Int->Prop}{g:Int->Int->Int}
 (rule:∀(i j:Int)(t u:Tok)(s:Shared)(Q:Value->Shared->Prop)(E:Value->Shared->Prop),C i j->Q (.int (g i j) s.toks) { s with toks:=s.toks+1 }->wpAny (model X.prog X.w) X.A (f (.int i t) (.int j u)) Q E s) :
 OpR X f (rI C fun i j=>.int (g i j)):=by
 intro pins s σ H x y v u Q I rx ry h;obtain⟨i,j,rfl,rfl,hc,q⟩:=h;obtain⟨t,rfl⟩:=rx;obtain⟨t',rfl⟩:=ry;exact rule i j t t' s _ _ hc ⟨.int (g i j),H,I.tok _,⟨_,rfl⟩,q⟩
theorem opI0{f:Value->Value->Sem Value}{g:Int->Int->Int}
 (rule:∀(i j:Int)(t u:Tok)(s:Shared)(Q:Value->Shared->Prop)(E:Value->Shared->Prop),Q (.int (g i j) s.toks) { s with toks:=s.toks+1 }->wpAny (model X.prog X.w) X.A (f (.int i t) (.int j u)) Q E s) :
 OpR X f (rI0 fun i j=>.int (g i j)):=by
 intro pins s σ H x y v u Q I rx ry h;obtain⟨i,j,rfl,rfl,q⟩:=h;obtain⟨t,rfl⟩:=rx;obtain⟨t',rfl⟩:=ry;exact rule i j t t' s _ _ ⟨.int (g i j),H,I.tok _,⟨_,rfl⟩,q⟩
theorem BN{f:Value->Value->Sem Value}{g:Int->Int->Bool}
 (rule:∀(i j:Int)(t u:Tok)(s:Shared)(Q:Value->Shared->Prop)(E:Value->Shared->Prop),Q (.bool (g i j)) s->wpAny (model X.prog X.w) X.A (f (.int i t) (.int j u)) Q E s) :
 OpR X f (rI0 fun i j=>.bl (g i j)):=by
 intro pins s σ H x y v u Q I rx ry h;obtain⟨i,j,rfl,rfl,q⟩:=h;obtain⟨t,rfl⟩:=rx;obtain⟨t',rfl⟩:=ry;exact rule i j t t' s _ _ ⟨.bl (g i j),H,I,rfl,q⟩
def CDiv(i j:Int):Prop:=0<j/\j<1073741824
def CPow(i j:Int):Prop:=0<=j/\j<=1000000/\i.natAbs<2 ^ 64
def CMul(i j:Int):Prop:=(-(2 ^ 64)<i/\i<2 ^ 64)∨(-(2 ^ 64)<j/\j<2 ^ 64)
theorem CMul.ok{i j:Int}(h:CMul i j):IntMulOk i j:=by
 rcases h with⟨h1,h2⟩ | ⟨h1,h2⟩
 . exact .of_left (intBits_le_64 h1 h2)
 . exact .of_right (intBits_le_64 h1 h2)
theorem aN:OpR X (binaryOp .Add) (rI0 fun i j=>.int (i+j)):=opI0 fun _ _ _ _ _ _ _ q=>add_int q
theorem bd:OpR X (binaryOp .Sub) (rI0 fun i j=>.int (i-j)):=opI0 fun _ _ _ _ _ _ _ q=>sub_int q
theorem bn:OpR X (binaryOp .Mult) (rI CMul fun i j=>.int (i*j)):=opI fun _ _ _ _ _ _ _ hc q=>mul_int q hc.ok
theorem qG:OpR X (binaryOp .FloorDiv) (rI CDiv fun i j=>.int (i / j)):=opI fun i j _ _ _ _ _ hc q=>by
 have h1:(0:Int)<j:=hc.1;have h2:j<1073741824:=hc.2;exact floordiv_int (by omega) (by rw[Int.fdiv_eq_ediv_of_nonneg i (by omega)];exact q) (.inl (PyProof.noPylong_small (by omega)))
theorem aW:OpR X (binaryOp .Mod) (rI (fun _ j=>0<j) fun i j=>.int (i % j)):=opI fun i j _ _ _ _ _ hc q=>by
 have h1:(0:Int)<j:=hc;exact mod_int' (by omega) (by rw[Int.fmod_eq_emod_of_nonneg i (by omega)];exact q)
theorem zT:OpR X (binaryOp .Pow) (rI CPow fun i j=>.int (i ^ j.toNat)):=opI fun _ _ _ _ _ _ _ hc q=>pow_int_small hc.1 hc.2.1 hc.2.2 q
theorem unI{f:Value->Sem Value}{g:Int->Int}
 (rule:∀(i:Int)(t:Tok)(s:Shared)(Q:Value->Shared->Prop)(E:Value->Shared->Prop),Q (.int (g i) s.toks) { s with toks:=s.toks+1 }->wpAny (model X.prog X.w) X.A (f (.int i t)) Q E s) :
 UnR X f (rU fun i=>.int (g i)):=by
 intro pins s σ H x v Q I rx h;obtain⟨i,rfl,q⟩:=h;obtain⟨t,rfl⟩:=rx;exact rule i t s _ _ ⟨.int (g i),H,I.tok _,⟨_,rfl⟩,q⟩
theorem qa:UnR X (unaryOp .USub) (rU fun i=>.int (-i)):=unI fun _ _ _ _ _ q=>neg_int q
end
def scal:V->V->Bool
 | .non,.non=>true | .non,.int _=>true | .int _,.non=>true | .non,.bl _=>true | .bl _,.non=>true | .non,.str _=>true | .str _,.non=>true
 | .int _,.int _=>true | .bl _,.bl _=>true | .str _,.str _=>true | .byt _,.byt _=>true
 | .int _,.str _=>true | .str _,.int _=>true | .bl _,.str _=>true | .str _,.bl _=>true
 | _,_=>false
def rEq:R2:=fun x y H Q=>scal x y=true/\Q (.bl (decide (x=y))) H
def rNe:R2:=fun x y H Q=>scal x y=true/\Q (.bl (!decide (x=y))) H
theorem wN{i j:Int}:decide (V.int i=V.int j)=(i==j):=by
 rw[Bool.eq_iff_iff]
 simp
theorem AS{i j:Bool}:decide (V.bl i=V.bl j)=(i==j):=by
 rw[Bool.eq_iff_iff]
 simp
theorem wM{i j:Str}:decide (V.str i=V.str j)=(i==j):=by
 rw[Bool.eq_iff_iff]
 simp
theorem wO{i j:Array UInt8}:decide (V.byt i=V.byt j)=(i.toList==j.toList):=by
 rw[Bool.eq_iff_iff];cases i;cases j
 simp
section
variable {X:Cx} {a b c:Expr} {ta tb tc:TE} {pos:Pos}
theorem bp{pins:List (Addr×Obj)}{σ:St}{H:Hp}{s:Shared}{Q:VK}{k k':Bool}(I:Inv X pins σ H s)(q:Q (.bl k) H)(e:k=k'):EP X pins σ Q (.bool k') s:=by
 subst e;exact⟨.bl k,H,I,rfl,q⟩
theorem bA:OpR X (compareOp .Eq) rEq:=by
 intro pins s σ H x y v u Q I rx ry h;obtain⟨hs,q⟩:=h;cases x with
 | non=>
   cases rx;cases y with
   | non=>cases ry;exact PySem.EqNone.eq_none_none (bp I q (by simp))
   | bl j=>cases ry;exact PySem.EqNone.eq_none_bool (bp I q (by simp))
   | int j=>obtain⟨t',rfl⟩:=ry;exact PySem.EqNone.eq_none_int (bp I q (by simp))
   | str j=>obtain⟨t',rfl⟩:=ry;exact PySem.EqNone.eq_none_str (bp I q (by simp))
   | _=>exact absurd (show false=true from hs) qA0
 | bl i=>
   cases rx;cases y with
   | non=>cases ry;exact PySem.EqNone.eq_bool_none (bp I q (by simp))
   | bl j=>cases ry;exact eq_bool (bp I q AS)
   | str j=>obtain⟨t',rfl⟩:=ry;exact PySem.EqMixed.eq_bool_str (bp I q (by simp))
   | _=>exact absurd (show false=true from hs) qA0
 | int i=>
   obtain⟨t,rfl⟩:=rx;cases y with
   | non=>cases ry;exact PySem.EqNone.eq_int_none (bp I q (by simp))
   | int j=>obtain⟨t',rfl⟩:=ry;exact eq_int (bp I q wN)
   | str j=>obtain⟨t',rfl⟩:=ry;exact PySem.EqMixed.eq_int_str (bp I q (by simp))
   | _=>exact absurd (show false=true from hs) qA0
 | str i=>
   obtain⟨t,rfl⟩:=rx;cases y with
   | non=>cases ry;exact PySem.EqNone.eq_str_none (bp I q (by simp))
   | bl j=>cases ry;exact PySem.EqMixed.eq_str_bool (bp I q (by simp))
   | int j=>obtain⟨t',rfl⟩:=ry;exact PySem.EqMixed.eq_str_int (bp I q (by simp))
   | str j=>obtain⟨t',rfl⟩:=ry;exact eq_str (bp I q wM)
   | _=>exact absurd (show false=true from hs) qA0
 | byt i=>
   obtain⟨t,rfl⟩:=rx;cases y with
   | byt j=>obtain⟨t',rfl⟩:=ry;exact PySem.W.eq_bytes (bp I q wO)
   | _=>exact absurd (show false=true from hs) qA0
 | _=>cases y <;> exact absurd (show false=true from hs) qA0
theorem nK:OpR X (compareOp .NotEq) rNe:=by
 intro pins s σ H x y v u Q I rx ry h;obtain⟨hs,q⟩:=h;cases x with
 | non=>
   cases rx;cases y with
   | non=>cases ry;exact PySem.EqNone.ne_none_none (bp I q (by simp))
   | bl j=>cases ry;exact PySem.EqNone.ne_none_bool (bp I q (by simp))
   | int j=>obtain⟨t',rfl⟩:=ry;exact PySem.EqNone.ne_none_int (bp I q (by simp))
   | str j=>obtain⟨t',rfl⟩:=ry;exact PySem.EqNone.ne_none_str (bp I q (by simp))
   | _=>exact absurd (show false=true from hs) qA0
 | bl i=>
   cases rx;cases y with
   | non=>cases ry;exact PySem.EqNone.ne_bool_none (bp I q (by simp))
   | bl j=>cases ry;exact ne_bool (bp I q (congrArg not AS))
   | str j=>obtain⟨t',rfl⟩:=ry;exact PySem.EqMixed.ne_bool_str (bp I q (by simp))
   | _=>exact absurd (show false=true from hs) qA0
 | int i=>
   obtain⟨t,rfl⟩:=rx;cases y with
   | non=>cases ry;exact PySem.EqNone.ne_int_none (bp I q (by simp))
   | int j=>obtain⟨t',rfl⟩:=ry;exact ne_int (bp I q (congrArg not wN))
   | str j=>obtain⟨t',rfl⟩:=ry;exact PySem.EqMixed.ne_int_str (bp I q (by simp))
   | _=>exact absurd (show false=true from hs) qA0
 | str i=>
   obtain⟨t,rfl⟩:=rx;cases y with
   | non=>cases ry;exact PySem.EqNone.ne_str_none (bp I q (by simp))
   | bl j=>cases ry;exact PySem.EqMixed.ne_str_bool (bp I q (by simp))
   | int j=>obtain⟨t',rfl⟩:=ry;exact PySem.EqMixed.ne_str_int (bp I q (by simp))
   | str j=>obtain⟨t',rfl⟩:=ry;exact ne_str (bp I q (congrArg not wM))
   | _=>exact absurd (show false=true from hs) qA0
 | byt i=>
   obtain⟨t,rfl⟩:=rx;cases y with
   | byt j=>obtain⟨t',rfl⟩:=ry;exact PySem.W.ne_bytes (bp I q (congrArg not wO))
   | _=>exact absurd (show false=true from hs) qA0
 | _=>cases y <;> exact absurd (show false=true from hs) qA0
theorem ko:OpR X (compareOp .Lt) (rI0 fun i j=>.bl (decide (i<j))):=BN fun _ _ _ _ _ _ _ q=>lt_int q
theorem zU:OpR X (compareOp .LtE) (rI0 fun i j=>.bl (decide (i<=j))):=BN fun _ _ _ _ _ _ _ q=>le_int q
theorem pB:OpR X (compareOp .Gt) (rI0 fun i j=>.bl (decide (j<i))):=BN fun _ _ _ _ _ _ _ q=>gt_int q
theorem CD:OpR X (compareOp .GtE) (rI0 fun i j=>.bl (decide (j<=i))):=BN fun _ _ _ _ _ _ _ q=>ge_int q
theorem DA:OpR X (compareOp .Is) (fun x y H Q=>y=.non/\Q (.bl (decide (x=.non))) H):=by
 intro pins s σ H x y v u Q I rx ry h;obtain⟨rfl,q⟩:=h;cases ry;refine is_none_gen (bp I q ?_);cases x <;> first
  | (cases rx;rfl)
  | (obtain⟨t,rfl⟩:=rx;rfl)
theorem BL:OpR X (compareOp .IsNot) (fun x y H Q=>y=.non/\Q (.bl (!decide (x=.non))) H):=by
 intro pins s σ H x y v u Q I rx ry h;obtain⟨rfl,q⟩:=h;cases ry;refine isnot_none_gen (bp I q ?_);cases x <;> first
  | (cases rx;rfl)
  | (obtain⟨t,rfl⟩:=rx;rfl)
theorem OpR.or{f:Value->Value->Sem Value}{r r':R2}(h:OpR X f r)(h':OpR X f r'):OpR X f (fun x y H Q=>r x y H Q∨r' x y H Q):=by
 intro pins s σ H x y v u Q I rx ry q;rcases q with q | q
 . exact h pins s σ H x y v u Q I rx ry q
 . exact h' pins s σ H x y v u Q I rx ry q
theorem ay(b:Expr){op:CmpOp}(h:op≠.In:=by decide)(h2:op≠.NotIn:=by decide):behindInMarks op b=false:=by
 have e1:(op==CmpOp.In)=false:=by cases op <;> first | rfl | exact absurd rfl h
 have e2:(op==CmpOp.NotIn)=false:=by cases op <;> first | rfl | exact absurd rfl h2
 cases b <;> simp [behindInMarks,e1,e2]
theorem jq{op:CmpOp}{r:R2}(ho:OpR X (compareOp op) r)(ha:PE X a ta)(hb:PE X b tb)(hm:behindInMarks op b=false):PE X (.Compare a [op] [b] pos) (tOp r ta tb):=by
 intro pins s σ H Q I h;exact wpAny_Compare1 (Ef ha hb I h fun v u s2 x y H2 I2 rx ry q=>ho pins s2 σ H2 x y v u Q I2 rx ry q) hm
def tTest(t:TE):TT:=fun σ H Q=>t σ H fun x H'=>∃k,x=.bl k/\Q k H'
theorem av{op:CmpOp}{r:R2}(ho:OpR X (compareOp op) r)(ha:PE X a ta)(hb:PE X b tb)(hm:behindInMarks op b=false):PT X (.Compare a [op] [b] pos) (tTest (tOp r ta tb)):=by
 intro pins s σ H Q I h;refine wpAny_isTrue_Compare1 (thn (ha pins s σ H _ I h) fun v s1 ⟨x,H1,I1,r1,q1⟩=>thn (hb pins s1 σ H1 _ I1 q1) fun u s2 ⟨y,H2,I2,r2,q2⟩=>
  thn (ho pins s2 σ H2 x y v u _ I2 r1 r2 q2) fun c s3 ⟨z,H3,I3,r3,k,e,q3⟩=>?_) hm
 subst e;cases r3;exact wpAny_truthy_bool ⟨H3,I3,q3⟩
def Da(r r':R2)(ta tb tc:TE):TE:=fun σ H Q=>ta σ H fun x H1=>tb σ H1 fun y H2=>r x y H2 fun z H3=>∃k,z=.bl k/\
 (if k=true then tc σ H3 fun w' H4=>r' y w' H4 Q else Q (.bl false) H3)
theorem zS{op op':CmpOp}{r r':R2}(ho:OpR X (compareOp op) r)(ho':OpR X (compareOp op') r')(ha:PE X a ta)(hb:PE X b tb)(hc:PE X c tc)
 (hm:lastMarks [op,op'] [b,c]=false:=by rfl'):PE X (.Compare a [op,op'] [b,c] pos) (Da r r' ta tb tc):=by
 intro pins s σ H Q I h;refine Compare_chain (thn (ha pins s σ H _ I h) fun v s1 ⟨x,H1,I1,r1,q1⟩=>chain_link (thn (hb pins s1 σ H1 _ I1 q1) fun u s2 ⟨y,H2,I2,r2,q2⟩=>
  thn (ho pins s2 σ H2 x y v u _ I2 r1 r2 q2) fun d s3 ⟨z,H3,I3,r3,k,e,q3⟩=>?_)) hm
 subst e;cases r3;refine wpAny_truthy_bool ?_;cases k with
 | false=>exact ite_ff ⟨.bl false,H3,I3,rfl,q3⟩
 | true=>exact ite_tt (chain_last (thn (hc pins s3 σ H3 _ I3 q3) fun w' s4 ⟨z',H4,I4,r4,q4⟩=>ho' pins s4 σ H4 y z' u w' Q I4 r2 r4 q4))
theorem ip:(sizeLine:Nat)<2 ^ 63:=by rw[sizeLine_eq];decide
theorem nL:OpR X (binaryOp .Add) (fun x y H Q=>∃i j,x=.str i/\y=.str j/\i.length+j.length<=sizeLine/\Q (.str (i++j)) H):=by
 intro pins s σ H x y v u Q I rx ry h;obtain⟨i,j,rfl,rfl,hz,q⟩:=h;obtain⟨t,rfl⟩:=rx;obtain⟨t',rfl⟩:=ry;exact add_str (fun t' tk=>⟨.str (i++j),H,I.tok _,⟨_,rfl⟩,q⟩) hz
theorem iu{x:V}{us:List Value}(r:Vals [x] us):∃u,us=[u]/\RelV x u:=by
 cases r with
 | cons r1 r2=>cases r2;exact⟨_,rfl,r1⟩
theorem Cp{x y:V}{us:List Value}(r:Vals [x,y] us):∃u w',us=[u,w']/\RelV x u/\RelV y w':=by
 cases r with
 | cons r1 r2=>
   cases r2 with
   | cons r3 r4=>cases r4;exact⟨_,_,rfl,r1,r3⟩
theorem pR (hc:X.calm=true):fh X (.builtin "max") (fun xs H Q=>∃i j,xs=[.int i,.int j]/\Q (.int (if j>i then j else i)) H):=by
 intro pins s σ H xs us Q I r h;obtain⟨i,j,rfl,q⟩:=h;obtain⟨u,w',rfl,⟨t,rfl⟩,⟨t',rfl⟩⟩:=Cp r;refine max_two_ints (I.ok.hd hc) fun h' tk k=>⟨_,H,I.kept k,?_,q⟩
 by_cases hj:j>i
 . rw[zF0 hj,zF0 hj];exact⟨_,rfl⟩
 . rw[zD0 hj,zD0 hj];exact⟨_,rfl⟩
theorem jv:fh X (.type "int") (fun xs H Q=>(∃i,xs=[.int i]/\Q (.int i) H)∨∃k,xs=[.bl k]/\Q (.int (if k then 1 else 0)) H):=by
 intro pins s σ H xs us Q I r h;rcases h with⟨i,rfl,q⟩ | ⟨k,rfl,q⟩
 . obtain⟨u,rfl,t,rfl⟩:=iu r;exact call_int_int ⟨.int i,H,I,⟨_,rfl⟩,q⟩
 . obtain⟨u,rfl,r1⟩:=iu r;cases r1;exact call_int_bool ⟨.int (if k then 1 else 0),H,I.tok _,⟨_,rfl⟩,q⟩
end
structure ObjM(h:Heap)(x dx C:Addr)(mA:Str->Option Value):Prop where
 obj:h.get? x=some (PySem.W.instObj C dx)
 ns:h.Ns1 dx mA
 ne:dx≠x
theorem yj{h:Heap}{dx:Addr}{mA:Str->Option Value}(n:h.Ns1 dx mA):∃od,h.get? dx=some od/\∀name,PySem.W.lookIn name od=some (mA name):=by
 obtain⟨o,es,ep,ho,hd,hk,_,hm⟩:=n;refine⟨o,ho,fun name=>?_⟩;have e:=hm name;unfold nsFind findBy at e;rw[←Array.find?_toList]at e;unfold PySem.W.lookIn;rw[hd]
 dsimp only
 split
 . rename_i y q;rw[q]at e;exact congrArg some e
 . rename_i q;rw[q]at e;have a:es.toList.any (·.refKey)=false:=by
    rw[List.any_eq_false];intro y hy;obtain⟨z,t,hkey⟩:=hk y (Array.mem_toList_iff.mp hy)
    simp [DictEntry.refKey,hkey]
   have a':¬ es.toList.any (·.refKey)=true:=by rw[a];exact qA0
   rw[zD0 a'];exact congrArg some e
theorem ObjM.look{h:Heap}{x dx C:Addr}{mA:Str->Option Value}(I:ObjM h x dx C mA):∃od,PySem.W.InstAt h x (PySem.W.instObj C dx) C (some od)/\∀name,PySem.W.lookIn name od=some (mA name):=
 let⟨od,ho,hl⟩:=yj I.ns
 ⟨od,⟨I.obj,rfl,rfl,ho⟩,hl⟩
section
variable {prog:Program} {w:World} {A:Around} {E:Value->Shared->Prop} {s:Shared} {K:W.Frag} {x dx C f:Addr} {mA:Str->Option Value} {name:Str} {v:Value}
theorem Ch{expr:Bool}{Q:Value->Shared->Prop}(X:K.In s.heap)(I:ObjM s.heap x dx C mA)(hg:PySem.W.plainGet K C name=true)(hh:PySem.W.hasDictIn K C=true)
 (ha:PySem.W.findIn K (.ref C) name=some none) (hv:mA name=some v) (hv':PySem.W.handedIn v=true) (h:Q v { s with toks:=s.toks+1 }) :
 wpAny (model prog w) A (getAttr (.ref x) name expr) Q E s:=by
 obtain⟨od,J,hl⟩:=I.look;exact PySem.W.get_value X J (PySem.W.plainGet_of hg).1 (PySem.W.findObj_own hh ha rfl (by rw[hl,hv])) hv' h
theorem Av{pl:Sem Bool}{Q:Value×List Value->Shared->Prop}(X:K.In s.heap)(I:ObjM s.heap x dx C mA)(hg:PySem.W.plainGet K C name=true)
 (hf:PySem.W.findIn K (.ref C) name=some (some (.ref f))) (ht:PySem.W.isFn K (.ref f)=true) (hv:mA name=none) (h:Q (.ref f,[.ref x]) s) :
 wpAny (model prog w) A (getMethod (.ref x) name pl) Q E s:=by
 obtain⟨od,J,hl⟩:=I.look;exact PySem.W.method_fn X J (PySem.W.plainGet_of hg).1 (PySem.W.plainGet_of hg).2 hf (beq_iff_eq.mp ht) (by show(PySem.W.lookIn name od).map (·.isSome)=some false;rw[hl,hv];rfl) h
theorem Br{ns:List Str}{Q:Unit->Shared->Prop}(X:K.In s.heap)(I:ObjM s.heap x dx C mA)
 (hs:PySem.W.findIn K (.ref C) "__setattr__"=some (some (.builtin "object.__setattr__"))) (hp:PySem.W.plainOver K C=true) (ht:PySem.W.takerIn K C name=some none) (hh:PySem.W.hasDictIn K C=true)
 (hw:PySem.Within mA ns) (hsz:ns.length<=sizeLine)
 (h:∀h',ObjM h' x dx C (fun y=>if y=name then some v else mA y)->Heap.SameBut dx s.heap h'->Q () { s with heap:=h',toks:=s.toks+2 }) :
 wpAny (model prog w) A (setAttr (.ref x) name v) Q E s:=by
 obtain⟨od,J,hl⟩:=I.look;refine PySem.W.set_plain X J hs (PySem.W.osa_open (s:={ s with toks:=s.toks+1 }) (r:=none) X J hp ht fun b=>?_);obtain⟨cd,hc,hd'⟩:=PySem.W.any_some hh;have hx:s.heap.get? x=some ⟨.ref C,some dx,.plain,#[]⟩:=I.obj;refine zA0 (zH0 (zA0 (zA0 (wpAny_loadPart hx (zA0 (PySem.W.Looks.here (s:={ s with toks:=s.toks+1 }) (PySem.W.looks_clsIn X hc) ?_))))));rw[hd'];refine zH0 (a:=some dx) (zA0 (zH0 (zA0 ?_)));refine wpAny_nsSet1 (s:={ s with toks:=s.toks+1 }) I.ns fun h' hn2 hs2=>?_
 obtain⟨oD,esD,epD,hoD,hdD,hcD⟩:=hn2.count (PySem.Within.cons name v hw);refine zA0 (wpAny_lookBehind hoD (by rw[hdD];exact pastItsLine_dict (zX0 hcD (by rw[zV0];omega))) ?_);exact zH0 (h _ ⟨(hs2.2 _ (Ne.symm I.ne)).trans I.obj,hn2,I.ne⟩ hs2)
theorem Ak{R:Result->Shared->Prop}{vs:List Value}{kw:List (Str×Value)}(X:K.In s.heap)(hm:PySem.W.makesIn K C=true)
 (hi:PySem.W.findIn K (.ref C) "__init__"=some (some (.ref f))) (hf:PySem.W.typeIn K (.ref f)=some (.type "function"))
 (h:codeAny (model prog w) (A.under (.builtin "type.__call__" ⟨.ref C::vs,kw⟩)) (.call (.ref f) ⟨.ref (s.heap.objs.size+1)::vs,kw⟩) (PySem.W.InitBack (s.heap.objs.size+1) R)
  { s with heap:=(s.heap.push PySem.W.emptyDict).push (PySem.W.instObj C s.heap.objs.size) }) :
 codeAny (model prog w) A (.call (.ref C) ⟨vs,kw⟩) R s:=by
 obtain⟨hh,g,d,t,os⟩:=s;exact PySem.W.make_core (PySem.W.makes_of X hm) (PySem.W.looks_findIn X hi) (fun self=>PySem.W.bind_fn X self hf) (.inl rfl) h
end
def bS(f:Str)(v:V):List (Str×V)->List (Str×V)
 | []=>[(f,v)]
 | (g,x)::r=>if g=f then(g,v)::r else(g,x)::bS f v r
theorem aS(f g:Str)(v:V):∀fs:List (Str×V),(bS f v fs).lookup g=if g=f then some v else fs.lookup g
 | []=>by
   show List.lookup g [(f,v)]=_
   by_cases h:g=f
   . have hb:(g==f)=true:=beq_iff_eq.mpr h;simp only[List.lookup,hb,zF0 h]
   . have hb:(g==f)=false:=beq_eq_false_iff_ne.mpr h;simp only[List.lookup,hb,zD0 h]
 | (k,x)::r=>by
   have ih:=aS f g v r;rw[show bS f v ((k,x)::r)=(if k=f then(k,v)::r else(k,x)::bS f v r)from rfl]
   by_cases hk:k=f
   . rw [zF0 hk]
     by_cases h:g=k
     . have hb:(g==k)=true:=beq_iff_eq.mpr h;simp only[List.lookup,hb,zF0 (h.trans hk)]
     . have hb:(g==k)=false:=beq_eq_false_iff_ne.mpr h;simp only[List.lookup,hb,zD0 (fun e:g=f=>h (e.trans hk.symm))]
   . rw [zD0 hk]
     by_cases h:g=k
     . have hb:(g==k)=true:=beq_iff_eq.mpr h;simp only[List.lookup,hb,zD0 (fun e:g=f=>hk (h.symm.trans e))]
     . have hb:(g==k)=false:=beq_eq_false_iff_ne.mpr h;simp only[List.lookup,hb];exact ih
theorem kS(f:Str)(v:V):∀fs:List (Str×V),f∈(bS f v fs).map (·.1)/\∀g,g∈fs.map (·.1)->g∈(bS f v fs).map (·.1)
 | []=>⟨by simp [bS],fun g h=>by simp at h⟩
 | (k,x)::r=>by
   obtain⟨i1,i2⟩:=kS f v r;rw[show bS f v ((k,x)::r)=(if k=f then(k,v)::r else(k,x)::bS f v r)from rfl]
   by_cases hk:k=f
   . rw[zF0 hk];subst hk;exact⟨by simp,fun g h=>by simpa using h⟩
   . rw [zD0 hk];refine⟨?_,fun g h=>?_⟩
     . rw[qF0];exact qK0 _ i1
     . rw [qF0]at h ⊢;rcases zY0 h with e | e
       . exact List.mem_cons.mpr (.inl e)
       . exact qK0 _ (i2 g e)
theorem lA(f:Str)(v:V):∀fs:List (Str×V),(bS f v fs).length<=fs.length+1
 | []=>by simp [bS]
 | (k,x)::r=>by
   have ih:=lA f v r;rw[show bS f v ((k,x)::r)=(if k=f then(k,v)::r else(k,x)::bS f v r)from rfl]
   by_cases hk:k=f
   . rw[zF0 hk,zV0,zV0];omega
   . rw[zD0 hk,zV0,zV0];omega
theorem RelO.some_of{v:V}{o:Option Value}(r:RelO (some v) o):∃u,o=some u/\RelV v u:=by
 cases o with
 | none=>exact(show False from r).elim
 | some u=>exact⟨u,rfl,r⟩
theorem RelO.none_of{o:Option Value}(r:RelO none o):o=none:=by
 cases o with
 | none=>rfl
 | some u=>exact(show False from r).elim
theorem pK{v:V}{u:Value}(r:RelV v u):PySem.W.handedIn u=true:=by
 cases v with
 | non=>cases(show u=Value.none from r);rfl
 | bl b=>cases(show u=Value.bool b from r);rfl
 | int i=>obtain⟨t,e⟩:=(show ∃t,u=Value.int i t from r);cases e;rfl
 | str x=>obtain⟨t,e⟩:=(show ∃t,u=Value.str x t from r);cases e;rfl
 | byt b=>obtain⟨t,e⟩:=(show ∃t,u=Value.bytes b t from r);cases e;rfl
 | flt b=>obtain⟨t,e⟩:=(show ∃t,u=Value.float b t from r);cases e;rfl
 | ref a=>cases(show u=Value.ref a from r);rfl
 | ty n=>cases(show u=Value.type n from r);rfl
section
variable {P:Program} {w:World} {H H':Hp} {h h':Heap} {a C dx:Addr} {fs fs':List (Str×V)}
theorem mr(hok:HOk P w H h)(e:H a=some (.ins C dx fs)):∃mA,ObjM h a dx C mA/\(∀f,RelO (fs.lookup f) (mA f))/\PySem.Within mA (fs.map (·.1))/\fs.length<=1000/\H dx=some (.own a):=by
 obtain⟨d,z,ne,ob,mA,n,r,q⟩:=(show ObjOk P w H h a (.ins C dx fs)from hok a _ e)
 exact⟨mA,⟨ob,n,ne⟩,r,q,z,d⟩
end
structure Cls(K:W.Frag)(C:Addr):Prop where
 pg:PySem.W.plainGet K C Str.empty=true
 hd:PySem.W.hasDictIn K C=true
 po:PySem.W.plainOver K C=true
 sa:PySem.W.findIn K (.ref C) "__setattr__"=some (some (.builtin "object.__setattr__"))
theorem Cls.get{K:W.Frag}{C:Addr}(c:Cls K C)(f:Str):PySem.W.plainGet K C f=true:=c.pg
def NoAttr(K:W.Frag)(C:Addr)(f:Str):Prop:=PySem.W.findIn K (.ref C) f=some none
theorem NoAttr.taker{K:W.Frag}{C:Addr}{f:Str}(n:NoAttr K C f):PySem.W.takerIn K C f=some none:=by
 unfold PySem.W.takerIn;rw[show PySem.W.findIn K (.ref C) f=some none from n];rfl
structure Meth(K:W.Frag)(C:Addr)(m:Str)(f:Addr):Prop where
 at_:PySem.W.findIn K (.ref C) m=some (some (.ref f))
 fn:PySem.W.isFn K (.ref f)=true
 kp:PySem.W.keepIn K (.ref f)=true
section
variable {X:Cx} {pins:List (Addr×Obj)} {σ:St} {H:Hp} {s:Shared} {a C dx:Addr} {fs:List (Str×V)} {f:Str} {v:V} {A:Around} {E:Value->Shared->Prop}
theorem vd{b:Bool}{Q:Value->Shared->Prop}(I:Inv X pins σ H s)(e:H a=some (.ins C dx fs))(c:Cls X.K C)(n:NoAttr X.K C f)(l:fs.lookup f=some v)
 (h:∀u s',Inv X pins σ H s'->RelV v u->Q u s'):wpAny (model X.prog X.w) A (getAttr (.ref a) f b) Q E s:=by
 obtain⟨mA,O,r,_,_,_⟩:=mr I.hok e;obtain⟨u,hu,ru⟩:=RelO.some_of (v:=v) (o:=mA f) (by rw[←l];exact r f);exact Ch I.kIn O (c.get f) c.hd n hu (pK ru) (h u _ (I.tok _) ru)
theorem jI{m:Str}{g:Addr}{pl:Sem Bool}{Q:Value×List Value->Shared->Prop}(I:Inv X pins σ H s)(e:H a=some (.ins C dx fs))(c:Cls X.K C)(k:Meth X.K C m g)(l:fs.lookup m=none)
 (h:Q (.ref g,[.ref a]) s):wpAny (model X.prog X.w) A (getMethod (.ref a) m pl) Q E s:=by
 obtain⟨mA,O,r,_,_,_⟩:=mr I.hok e;have hn:mA m=none:=RelO.none_of (by rw[←l];exact r m);exact Av I.kIn O (c.get m) k.at_ k.fn hn h
theorem uc{y:V}{u:Value}{Q:Unit->Shared->Prop}(I:Inv X pins σ H s)(e:H a=some (.ins C dx fs))(c:Cls X.K C)(n:NoAttr X.K C f)(hl:fs.length<1000)(ry:RelV y u)
 (h:∀s',Inv X pins σ (upd H a (.ins C dx (bS f y fs))) s'->Q () s'):wpAny (model X.prog X.w) A (setAttr (.ref a) f u) Q E s:=by
 obtain⟨mA,O,r,wi,_,ho⟩:=mr I.hok e;have hz:(fs.map (·.1)).length<=sizeLine:=by rw[zE0,sizeLine_eq];omega
 refine Br I.kIn O c.sa c.po n.taker c.hd wi hz fun h' O' sb=>h _ ?_
 have hd:∃o,h'.get? dx=some o:=let⟨o,_,_,e',_⟩:=O'.ns;⟨o,e'⟩
 refine I.write (x:=a) (e:=dx) (by rw[e];exact True.intro) (.inr ho) (fun b q hb z=>(sb.2 b hb).trans z) hd ?_;refine⟨by rw[aq O.ne];exact ho,?_,O.ne,O'.obj,_,O'.ns,fun g=>?_,fun g hg=>?_⟩
 . have:=lA f y fs;omega
 . show RelO ((bS f y fs).lookup g) (if g=f then some u else mA g);rw[aS]
   by_cases q:g=f
   . rw[zF0 q,zF0 q];exact ry
   . rw[zD0 q,zD0 q];exact r g
 . by_cases q:g=f
   . rw[q];exact(kS f y fs).1
   . refine(kS f y fs).2 g (wi g fun z=>hg ?_);show(if g=f then some u else mA g)=none;rw[zD0 q];exact z
theorem Inv.made(I:Inv X pins σ H s):Inv X pins σ (upd (upd H s.heap.objs.size (.own (s.heap.objs.size+1))) (s.heap.objs.size+1) (.ins C s.heap.objs.size []))
 { s with heap:=(s.heap.push PySem.W.emptyDict).push (PySem.W.instObj C s.heap.objs.size) }:=by
 have e1:(s.heap.push PySem.W.emptyDict).get? s.heap.objs.size=some PySem.W.emptyDict:=zW0 s.heap rfl;have e2:((s.heap.push PySem.W.emptyDict).push (PySem.W.instObj C s.heap.objs.size)).get? (s.heap.objs.size+1)=some (PySem.W.instObj C s.heap.objs.size):=by
  have:=zW0 (s.heap.push PySem.W.emptyDict) (o:=PySem.W.instObj C s.heap.objs.size) rfl
  rwa [Heap.size_push]at this
 have e3:(s.heap.push PySem.W.emptyDict).Ns s.heap.objs.size (fun _=>none):=⟨PySem.W.emptyDict,#[],_,e1,rfl,(fun e he=>absurd he (by simp)),fun _=>rfl⟩
 have I1:=I.laid (a:=s.heap.objs.size) (o:=.own (s.heap.objs.size+1)) (h':=s.heap.push PySem.W.emptyDict) (t':=s.toks) (fun b u q=>zL0 _ q) (zI0 _) ⟨_,e1⟩;refine I1.laid (a:=s.heap.objs.size+1) (o:=.ins C s.heap.objs.size []) (t':=s.toks) (fun b u q=>zL0 _ q) (Nat.le_of_eq (Heap.size_push _ _)) ?_;have ne:s.heap.objs.size≠s.heap.objs.size+1:=zS0 (Nat.lt_succ_self _);refine⟨by rw[aq ne,ah],zN0 _,ne,e2,fun _=>none,(Heap.Ns1.of_empty e3).at fun o q=>zL0 _ q,fun _=>True.intro,fun y hy=>absurd rfl hy⟩
theorem wS{prog:Program}{w:World}{env:Env}{e:Expr}{f:Str}{pos:Pos}{s:Shared}{Q:Value->Shared->Prop}(hb:attributeBase e f env (eval e env)=eval e env)
 (h:wpAny (model prog w) A (eval e env) (fun o s₁=>wpAny (model prog w) A (getAttr o f true) Q E s₁) E s):wpAny (model prog w) A (eval (.Attribute e f pos) env) Q E s:=
 Attribute_any_ h (by rw[arm_eval_Attribute,hb])
end
def tFld(K:W.Frag)(ta:TE)(f:Str):TE:=fun σ H Q=>ta σ H fun x H1=>∃a C dx fs v,x=.ref a/\H1 a=some (.ins C dx fs)/\Cls K C/\NoAttr K C f/\fs.lookup f=some v/\Q v H1
def sFld(K:W.Frag)(ta tv:TE)(f:Str):TS:=fun D σ H=>tv σ H fun y H1=>ta σ H1 fun x H2=>∃a C dx fs,x=.ref a/\H2 a=some (.ins C dx fs)/\Cls K C/\NoAttr K C f/\fs.length<1000/\
 D.nx σ (upd H2 a (.ins C dx (bS f y fs)))
section
variable {X:Cx} {o e value:Expr} {f:Str} {pos pos' tpos:Pos} {ta tv:TE}
theorem aU(he:PE X e ta)(hb:attributeBase e f X.env (eval e X.env)=eval e X.env):PE X (.Attribute e f pos) (tFld X.K ta f):=by
 intro pins s σ H Q I h;refine wS hb (thn (he pins s σ H _ I h) fun u s1 ⟨x,H1,I1,rx,a,C,dx,fs,v,ex,ea,c,n,l,q⟩=>?_);subst ex;obtain rfl:u=Value.ref a:=rx;exact vd I1 ea c n l fun u' s2 I2 ru=>⟨v,H1,I2,ru,q⟩
theorem bJ(ha:PE X o ta)(hv:PE X value tv)(hs:swapsWith value (some (.Attribute o f pos')) pos.line X.env=pure false):PS X (.Assign [.Attribute o f pos'] value pos) (sFld X.K ta tv f):=by
 intro pins s σ H D I h;refine plainObj_wpAny_Assign_Attribute (thn (hv pins s σ H _ I h) fun u s1 ⟨y,H1,I1,ry,q⟩=>thn (ha pins s1 σ H1 _ I1 q) fun ov s2 ⟨x,H2,I2,rx,a,C,dx,fs,ex,ea,c,n,l,q2⟩=>?_) hs;subst ex;obtain rfl:ov=Value.ref a:=rx;exact uc I2 ea c n l ry fun s3 I3=>⟨σ,_,I3,q2⟩
end
section
variable {X:Cx} {pins:List (Addr×Obj)} {σ:St} {H:Hp} {s:Shared} {A:Around} {E:Value->Shared->Prop} {Q:Value->Shared->Prop} {c:Value} {b:Bool}
inductive TyOf(K:W.Frag)(H:Hp):V->Value->Prop where
 | non:TyOf K H .non (.type "NoneType")
 | bl (x:Bool):TyOf K H (.bl x) (.type "bool")
 | int (i:Int):TyOf K H (.int i) (.type "int")
 | str (x:Str):TyOf K H (.str x) (.type "str")
 | flt (x:UInt64):TyOf K H (.flt x) (.type "float")
 | lst {a:Addr} {xs:List V} (e:H a=some (.lst xs)):TyOf K H (.ref a) (.type "list")
 | frz {a:Addr} {o:Obj} {xs:List V} (e:H a=some (.frz o (.lst xs))):TyOf K H (.ref a) (.type "list")
 | tup {a:Addr} {xs:List V} (e:H a=some (.tup xs)):TyOf K H (.ref a) (.type "tuple")
 | dK {a:Addr} {kvs:List (Key×V)} (e:H a=some (.dK kvs)):TyOf K H (.ref a) (.type "dict")
 | dT {a:Addr} {kvs:List (List Key×V)} (e:H a=some (.dT kvs)):TyOf K H (.ref a) (.type "dict")
 | ins {a C dx:Addr} {fs:List (Str×V)} (e:H a=some (.ins C dx fs)) (cl:Cls K C) (ha:PySem.W.findIn K (.ref C) "__class__"=some (some (.builtin "object.__class__")))
  (hn:PySem.W.specialIn K (.builtin "object.__class__") "__get__"=some (some (.builtin "getset_descriptor.__get__"))) (htk:PySem.W.takesIn K (.builtin "object.__class__")=some true)
  (hm:PySem.W.mroIn K C (.type "object")=some true):TyOf K H (.ref a) (.ref C)
theorem yt{x:V}{u t:Value}(I:Inv X pins σ H s)(rx:RelV x u)(ty:TyOf X.K H x t)(e:PySem.W.kitOne X.K t c=some b)(h:∀tk,Q (.bool b) { s with toks:=tk }) :
 wpAny (model X.prog X.w) A (call (.builtin "isinstance") [u,c]) Q E s:=by
 cases ty with
 | non=>cases(show u=Value.none from rx);exact PySem.W.kia_one PySem.W.kitx_none I.kIn True.intro e (fun z=>nomatch z) h
 | bl y=>cases(show u=Value.bool y from rx);exact PySem.W.kia_one PySem.W.kitx_bool I.kIn True.intro e (fun z=>nomatch z) h
 | int i=>obtain⟨t,q⟩:=(show ∃t,u=Value.int i t from rx);cases q;exact PySem.W.kia_one PySem.W.kitx_int I.kIn True.intro e (fun z=>nomatch z) h
 | str y=>obtain⟨t,q⟩:=(show ∃t,u=Value.str y t from rx);cases q;exact PySem.W.kia_one PySem.W.kitx_str I.kIn True.intro e (fun z=>nomatch z) h
 | flt y=>obtain⟨t,q⟩:=(show ∃t,u=Value.float y t from rx);cases q;exact PySem.W.kia_one PySem.W.kitx_float I.kIn True.intro e (fun z=>nomatch z) h
 | @lst a xs ea=>
   cases(show u=Value.ref a from rx);obtain⟨_,_,n,_,h1⟩:=(show ObjOk X.prog X.w H s.heap a (.lst xs)from I.hok a _ ea)
   exact PySem.W.kia_one PySem.W.kitx_list I.kIn ⟨_,h1,rfl⟩ e (fun z=>nomatch z) h
 | @frz a ob xs ea=>
   cases(show u=Value.ref a from rx);obtain⟨_,_,_,n,_,h1⟩:=(show ObjOk X.prog X.w H s.heap a (.frz ob (.lst xs))from I.hok a _ ea)
   exact PySem.W.kia_one PySem.W.kitx_list I.kIn ⟨_,h1,rfl⟩ e (fun z=>nomatch z) h
 | @tup a xs ea=>
   cases(show u=Value.ref a from rx);obtain⟨_,_,_,p,_⟩:=(show ObjOk X.prog X.w H s.heap a (.tup xs)from I.hok a _ ea)
   obtain⟨o,h1,h2,_⟩:=p;exact PySem.W.kia_one PySem.W.kitx_tuple I.kIn ⟨o,h1,h2⟩ e (fun z=>nomatch z) h
 | @dK a kvs ea=>
   cases(show u=Value.ref a from rx);obtain⟨_,_,vs,_,p⟩:=(show ObjOk X.prog X.w H s.heap a (.dK kvs)from I.hok a _ ea)
   obtain⟨o,es,ep,h1,h2,_⟩:=p;exact PySem.W.kia_one PySem.W.kitx_dict I.kIn ⟨o,h1,h2.1⟩ e (fun z=>nomatch z) h
 | @dT a kvs ea=>
   cases(show u=Value.ref a from rx);obtain⟨_,_,xs,_,o,es,ep,h1,h2,_⟩:=(show ObjOk X.prog X.w H s.heap a (.dT kvs)from I.hok a _ ea)
   exact PySem.W.kia_one PySem.W.kitx_dict I.kIn ⟨o,h1,h2.1⟩ e (fun z=>nomatch z) h
 | @ins a C dx fs ea cl ha hn htk hm=>
   cases(show u=Value.ref a from rx);obtain⟨mA,O,_⟩:=mr I.hok ea;obtain⟨od,J,_⟩:=O.look;exact PySem.W.kia_one (PySem.W.kitx_own (cl.get _) cl.hd ha hn htk hm) I.kIn J e (fun z=>nomatch z) h
end
structure Room(k:Nat)(A:Around):Prop where
 hd:A.handled=none
 gd:A.guards=some []
 dp:A.depth+3*k+5<recursionLimit
 un:A.units+16*k+200<cLine
theorem Room.mono{j k:Nat}{A:Around}(r:Room k A)(h:j<=k):Room j A:=⟨r.hd,r.gd,by have:=r.dp;omega,by have:=r.un;omega⟩
theorem Room.deeper{k:Nat}{A:Around}(r:Room (k+1) A)(env:Env):Room k (A.deeper env):=
 ⟨r.hd,r.gd,by have:=r.dp;show A.depth+1+3*k+5<_;omega,by have:=r.un;show A.units+3+16*k+200<_;omega⟩
theorem uU {A:Around} {C:Addr} {us:List Value} {kw:List (Str×Value)}:(A.under (.builtin "type.__call__" ⟨.ref C::us,kw⟩)).depth=A.depth+1:=by
 first | rfl | simp [Around.under,Code.weight,Code.isCreation,Code.isGuard,Code.isCaller,Code.frames,Code.isFrame,guardIds]
theorem uT {A:Around} {C:Addr} {us:List Value} {kw:List (Str×Value)}:(A.under (.builtin "type.__call__" ⟨.ref C::us,kw⟩)).units=A.units+1:=by
 first | rfl | simp [Around.under,Code.cUnits,Code.frames,Code.isFrame]
theorem Room.make {k:Nat} {A:Around} (r:Room (k+1) A) (C:Addr) (us:List Value) (kw:List (Str×Value)):Room k (A.under (.builtin "type.__call__" ⟨.ref C::us,kw⟩)):=
 ⟨r.hd,by simp [Around.under,Code.guards,Code.isGuard,guardIds,pushGuards,r.gd],by have:=r.dp;rw[uU];omega,by have:=r.un;rw[uT];omega⟩
theorem Room.depth{k:Nat}{A:Around}(r:Room k A):A.depth<recursionLimit:=by have:=r.dp;omega
theorem Room.units{k:Nat}{A:Around}(r:Room k A):A.units+64<cLine:=by have:=r.un;omega
def xg:TA:=fun _ H Q=>Q [] H
def vI(ta:TE)(tr:TA):TA:=fun σ H Q=>ta σ H fun x H1=>tr σ H1 fun xs H2=>Q (x::xs) H2
section
variable {X:Cx} {e:Expr} {es:List Expr} {te:TE} {t:TA} {pos:Pos}
theorem ac:PA X [] xg:=fun _ _ _ _ H Q I h=>Calls.spliced_nil ⟨[],H,I,.nil,h⟩
theorem aa(ha:PE X e te)(hr:PA X es t)(hs:starEach (e::es) X.env=(false,eval e X.env)::starEach es X.env:=by rfl):PA X (e::es) (vI te t):=by
 intro pos pins s σ H Q I h;rw[hs];show wpAny _ _ (spliced ((false,eval e X.env)::backTo pos (starEach es X.env))) _ _ s;refine Calls.spliced_cons (thn (ha pins s σ H _ I h) fun u s1 ⟨x,H1,I1,r1,q1⟩=>?_);exact thn (hr pos pins s1 σ H1 _ I1 q1) fun us s2 ⟨xs,H2,I2,r2,q2⟩=>⟨x::xs,H2,I2,.cons r1 r2,q2⟩
def tTup(t:TA):TE:=fun σ H Q=>t σ H fun xs H1=>xs.length<=sizeLine/\∀p,H1 p=none->Q (.ref p) (upd H1 p (.tup xs))
def tLst(t:TA):TE:=fun σ H Q=>t σ H fun xs H1=>xs.length<=sizeLine/\∀p,H1 p=none->Q (.ref p) (upd H1 p (.lst xs))
theorem aY{x1}(h:PA X es t):PE X (.Tuple es x1 pos) (tTup t):=by
 intro pins s σ H Q I hq;refine wpAny_Tuple_spliced (thn (h pos pins s σ H _ I hq) fun us s1 ⟨xs,H1,I1,r,z,q⟩=>⟨by rw[←r.length];exact z,?_⟩);have hf:H1 s1.heap.objs.size=none:=I1.hok.fresh (zI0 _);refine⟨.ref s1.heap.objs.size,upd H1 s1.heap.objs.size (.tup xs),I1.laid (t':=s1.toks) (fun b u e=>zL0 _ e) (zI0 _) ?_,rfl,q _ hf⟩;exact⟨z,us,r,⟨_,zW0 _ rfl,rfl,_,rfl⟩,_,zW0 _ rfl,rfl⟩
theorem bo(h:PA X es t):PE X (.List es pos) (tLst t):=by
 intro pins s σ H Q I hq;refine wpAny_List_spliced (thn (h pos pins s σ H _ I hq) fun us s1 ⟨xs,H1,I1,r,z,q⟩=>⟨by rw[←r.length];exact z,?_⟩);have hf:H1 s1.heap.objs.size=none:=I1.hok.fresh (zI0 _);refine⟨.ref s1.heap.objs.size,upd H1 s1.heap.objs.size (.lst xs),I1.laid (t':=s1.toks) (fun b u e=>zL0 _ e) (zI0 _) ?_,rfl,q _ hf⟩;exact⟨z,us,0,r,zW0 _ rfl⟩
end
abbrev Sp:=List V->Hp->VK->XK->Prop
abbrev CXT:=List Env->Hp->Shared->XK->Value->Shared->Prop
structure Env0(P:Program)(w:World)(K:W.Frag)(mg:Str->Option Value)(base:Heap)(A:Around)(outer:List Env)(s:Shared)(H:Hp):Prop where
 frames:A.frames=some outer
 mod:Mod K mg base
 bs:∀b o,base.get? b=some o->s.heap.get? b=some o/\H b=none
 bsz:base.objs.size<=s.heap.objs.size
 funs:s.heap.FunFrames base outer
 frf:∀b∈frs outer,H b=none
 hok:HOk P w H s.heap
 bare:AllBare s.gens
def CE(outer:List Env)(P:Program)(w:World)(H:Hp)(s:Shared)(Q:VK)(u:Value)(s':Shared):Prop:=
 ∃v H',s'.os=s.os/\AllBare s'.gens/\Un (frs outer) [] H H' s.heap s'.heap/\HOk P w H' s'.heap/\RelV v u/\Q v H'
def CR(CX:CXT)(outer:List Env)(P:Program)(w:World)(H:Hp)(s:Shared)(Q:VK)(E:XK)(r:Result)(s':Shared):Prop:=
 match r with
 | .ok (.ret u)=>CE outer P w H s Q u s'
 | .ok _=>False
 | .error e=>CX outer H s E e s'
structure FnOk(P:Program)(w:World)(K:W.Frag)(mg:Str->Option Value)(base:Heap)(CX:CXT)(k:Nat)(f:Addr)(fd:FuncData)(ps:List Str)(sp:Sp):Prop where
 len:∀vs H Q E,sp vs H Q E->vs.length=ps.length
 run:∀(A:Around)(outer:List Env)(s:Shared)(H:Hp)(args:Args)(us:List Value)(vs:List V)(Q:VK)(E:XK),Room k A->Env0 P w K mg base A outer s H->BindsTo s fd args (ps.zip us)->Vals vs us->sp vs H Q E ->
  codeAny (model P w) A (.call (.ref f) args) (CR CX outer P w H s Q E) s
theorem Env0.make{P:Program}{w:World}{K:W.Frag}{mg:Str->Option Value}{base:Heap}{A:Around}{outer:List Env}{s:Shared}{H:Hp}(e:Env0 P w K mg base A outer s H)(C:Addr)(us:List Value)(kw:List (Str×Value)) :
 Env0 P w K mg base (A.under (.builtin "type.__call__" ⟨.ref C::us,kw⟩)) outer s H:=⟨by first | exact e.frames | (simpa [Around.under,Code.envs,Code.isFrame,pushEnvs]using e.frames),e.mod,e.bs,e.bsz,e.funs,e.frf,e.hok,e.bare⟩
section
variable {X:Cx} {pins:List (Addr×Obj)} {σ:St} {H:Hp} {s s':Shared}
theorem Inv.env0(I:Inv X pins σ H s):Env0 X.prog X.w X.K X.mg X.base X.A X.stack s H:=
 ⟨I.ok.frames,I.ok.mod,I.bs,zX0 I.ok.bsz I.sz,I.stack,I.stkFree,I.hok,I.bare⟩
theorem Inv.after{Q:VK}{u:Value}(I:Inv X pins σ H s)(h:CE X.stack X.prog X.w H s Q u s'):EP X pins σ Q u s':=by
 obtain⟨v,H',os,bare,un,hok,r,q⟩:=h;obtain⟨hh,g,d,t,os'⟩:=s';obtain rfl:os'=s.os:=os;exact⟨v,H',I.call (h':=hh) (g':=g) (d':=d) (t':=t) (ch:=[]) un hok bare (fun b z=>absurd z (by simp)),r,q⟩
end
def vJ(sp:Sp)(dvs:List V)(E:XK)(t:TA):TE:=fun σ H Q=>t σ H fun vs H1=>sp (vs++dvs) H1 Q E
def vH(C:Addr)(m:Str)(sp:Sp)(dvs:List V)(E:XK)(ta:TE)(t:TA):TE:=fun σ H Q=>ta σ H fun x H1=>∃a dx fs,x=.ref a/\H1 a=some (.ins C dx fs)/\fs.lookup m=none/\
 t σ H1 fun vs H2=>sp (x::(vs++dvs)) H2 Q E
def tMake(C:Addr)(sp:Sp)(dvs:List V)(E:XK)(t:TA):TE:=fun σ H Q=>t σ H fun vs H1=>∀x dx,H1 x=none->H1 dx=none->dx≠x ->
 sp (.ref x::(vs++dvs)) (upd (upd H1 dx (.own x)) x (.ins C dx [])) (fun v H2=>v=.non/\Q (.ref x) H2) E
def Binds(K:W.Frag)(fd:FuncData)(ps:List Str)(ds:List Value):Prop:=
 ∀(s:Shared)(us:List Value),K.In s.heap->(us++ds).length=ps.length->BindsTo s fd ⟨us,[]⟩ (ps.zip (us++ds))
theorem Binds.all{K:W.Frag}{fd:FuncData}{ps:List Str}(h:∀us:List Value,us.length=ps.length->bindArgs fd ⟨us,[]⟩=pure (ps.zip us)):Binds K fd ps []:=fun s us _ hl=>by
 rw[List.append_nil]at hl ⊢;exact .of_eq (h us hl)
def gu(CX:CXT)(X:Cx)(E:XK):Prop:=∀(pins:List (Addr×Obj))(σ:St)(H:Hp)(s:Shared)(e:Value)(s':Shared),Inv X pins σ H s->CX X.stack H s E e s'->X.xe e s'
section
variable {X:Cx} {CX:CXT} {k:Nat} {f C:Addr} {fd:FuncData} {ps:List Str} {sp:Sp} {dvs:List V} {ds:List Value} {E:XK} {x m:Str} {p pos apos:Pos} {e o:Expr} {es:List Expr} {ta:TE} {t:TA}
theorem qu{pins:List (Addr×Obj)}{σ:St}{H:Hp}{s:Shared}{Q:VK}{us:List Value}{vs:List V}(F:FnOk X.prog X.w X.K X.mg X.base CX k f fd ps sp)(hr:Room k X.A)(hb:Binds X.K fd ps ds)(hd:Vals dvs ds)(hx:gu CX X E)
 (I:Inv X pins σ H s) (r:Vals vs us) (h:sp (vs++dvs) H Q E):wpAny (model X.prog X.w) X.A (call (.ref f) us) (EP X pins σ Q) X.xe s:=by
 have r2:Vals (vs++dvs) (us++ds):=r.append hd;have hl:(us++ds).length=ps.length:=by rw[←r2.length];exact F.len _ _ _ _ h
 refine wpAny_call (codeAny_mono (F.run X.A X.stack s H ⟨us,[]⟩ (us++ds) (vs++dvs) Q E hr I.env0 (hb s us I.kIn hl) r2 h) fun r s' hq=>?_);cases r with
 | error e=>exact hx pins σ H s e s' I hq
 | ok fl=>
   cases fl with
   | ret u=>exact I.after hq
   | next=>exact False.elim hq
   | brk=>exact False.elim hq
   | cont=>exact False.elim hq
theorem BK(F:FnOk X.prog X.w X.K X.mg X.base CX k f fd ps sp)(hr:Room k X.A)(hg:Gl X x)(hm:X.mg x=some (.ref f))(hk:PySem.W.keepIn X.K (.ref f)=true)(hb:Binds X.K fd ps ds)(hd:Vals dvs ds)(hx:gu CX X E)
 (ha:PA X (e::es) t) (hdb:(x==("__debug__":Str))=false:=by decide) (he:starEach (e::es) X.env=(false,eval e X.env)::starEach es X.env:=by rfl) (hpl:(backTo pos (starEach es X.env)).any (·.1)=false:=by rfl) :
 PE X (.Call (.Name x p) (e::es) [] pos) (vJ sp dvs E t):=by
 intro pins s σ H Q I h;refine wpAny_Call_Name_kw (ku I hg hm ?_ hdb);refine PySem.W.callWith_K (h₀:=X.base) I.ok.mod.kin hk (thn (ha pos pins s σ H _ I h) fun us s1 ⟨vs,H1,I1,r,q⟩=>⟨I1.kIn,?_⟩) he hpl;exact qu F hr hb hd hx I1 r q
theorem fv{pl:Sem Bool}(he:PE X o ta)(c:Cls X.K C)(hm:Meth X.K C m f)(F:FnOk X.prog X.w X.K X.mg X.base CX k f fd ps sp)(hr:Room k X.A)(hb:Binds X.K fd ps ds)(hd:Vals dvs ds)(hx:gu CX X E)(ha:PA X (e::es) t)
 (hst:starEach (e::es) X.env=(false,eval e X.env)::starEach es X.env:=by rfl) (hpl:(backTo pos (starEach es X.env)).any (·.1)=false:=by rfl)
 (ht:eval (.Call (.Attribute o m apos) (e::es) [] pos) X.env=(do
  let ov ←eval o X.env
  standAt apos.atName
  let(f,first) ←holding [ov] (getMethod ov m pl)
  callWith pos f first (backTo pos (starEach (e::es) X.env)) (backToKw pos (keywordEach [] X.env))):=by rfl) :
 PE X (.Call (.Attribute o m apos) (e::es) [] pos) (vH C m sp dvs E ta t):=by
 intro pins s σ H Q I h;refine PySem.W.methodCall_KW (pl:=pl) (thn (he pins s σ H _ I h) fun u s1 ⟨x,H1,I1,rx,a,dx,fs,ex,ea,l,q⟩=>?_) ht;subst ex;obtain rfl:u=Value.ref a:=rx;refine jI I1 ea c hm l ?_;refine PySem.W.callWith_K (first:=[.ref a]) (h₀:=X.base) I.ok.mod.kin hm.kp (thn (ha pos pins s1 σ H1 _ I1 q) fun us s2 ⟨vs,H2,I2,r,q2⟩=>⟨I2.kIn,?_⟩) hst hpl;exact qu (us:=.ref a::us) (vs:=.ref a::vs) F hr hb hd hx I2 (.cons rfl r) q2
theorem eT{pl:Sem Bool}(he:PE X o ta)(c:Cls X.K C)(hm:Meth X.K C m f)(F:FnOk X.prog X.w X.K X.mg X.base CX k f fd ps sp)(hr:Room k X.A)(hb:Binds X.K fd ps ds)(hd:Vals dvs ds)(hx:gu CX X E)
 (ht:eval (.Call (.Attribute o m apos) [] [] pos) X.env=(do
  let ov ←eval o X.env
  standAt apos.atName
  let(f,first) ←holding [ov] (getMethod ov m pl)
  callWith pos f first (backTo pos (starEach [] X.env)) (backToKw pos (keywordEach [] X.env))):=by rfl) :
 PE X (.Call (.Attribute o m apos) [] [] pos) (vH C m sp dvs E ta xg):=by
 intro pins s σ H Q I h;refine PySem.W.methodCall_KW (pl:=pl) (thn (he pins s σ H _ I h) fun u s1 ⟨x,H1,I1,rx,a,dx,fs,ex,ea,l,q⟩=>?_) ht;subst ex;obtain rfl:u=Value.ref a:=rx;refine jI I1 ea c hm l ?_;exact PySem.W.callWith_K0 (first:=[.ref a]) I1.kIn hm.kp (qu (us:=[.ref a]) (vs:=[.ref a]) F hr hb hd hx I1 (.cons rfl .nil) q)
structure Mk(K:W.Frag)(C f:Addr):Prop where
 makes:PySem.W.makesIn K C=true
 init:PySem.W.findIn K (.ref C) "__init__"=some (some (.ref f))
 fn:PySem.W.isFn K (.ref f)=true
 kp:PySem.W.keepIn K (.ref C)=true
theorem zE{pins:List (Addr×Obj)}{σ:St}{H:Hp}{s:Shared}{Q:VK}{us:List Value}{vs:List V}(M:Mk X.K C f)(F:FnOk X.prog X.w X.K X.mg X.base CX k f fd ps sp)(hr:Room (k+1) X.A)(hb:Binds X.K fd ps ds)(hd:Vals dvs ds)
 (hx:gu CX X E) (I:Inv X pins σ H s) (r:Vals vs us)
 (h:∀x dx,H x=none->H dx=none->dx≠x->sp (.ref x::(vs++dvs)) (upd (upd H dx (.own x)) x (.ins C dx [])) (fun v H2=>v=.non/\Q (.ref x) H2) E) :
 wpAny (model X.prog X.w) X.A (call (.ref C) us) (EP X pins σ Q) X.xe s:=by
 have hq:=h (s.heap.objs.size+1) s.heap.objs.size (I.hok.fresh (qO0 _)) (I.hok.fresh (zI0 _)) (zS0 (Nat.lt_succ_self _));have I2:=Inv.made (C:=C) I;have r2:Vals (V.ref (s.heap.objs.size+1)::(vs++dvs)) (Value.ref (s.heap.objs.size+1)::(us++ds)):=.cons rfl (r.append hd);have hl:(Value.ref (s.heap.objs.size+1)::us++ds).length=ps.length:=by
  have e:=r2.length;rw[F.len _ _ _ _ hq]at e;exact e.symm
 refine wpAny_call (Ak (f:=f) I.kIn M.makes M.init (beq_iff_eq.mp M.fn) (codeAny_mono (F.run _ X.stack _ _ ⟨Value.ref (s.heap.objs.size+1)::us,[]⟩ (Value.ref (s.heap.objs.size+1)::(us++ds)) _ _ E (hr.make C us [])
  (I2.env0.make C us []) (hb _ (Value.ref (s.heap.objs.size+1)::us) I2.kIn hl) r2 hq) fun r s' hq'=>?_))
 cases r with
 | error e=>exact hx pins σ _ _ e s' I2 hq'
 | ok fl=>
   cases fl with
   | ret u=>
     obtain⟨v,H',I3,rv,ev,q3⟩:=I2.after hq';subst ev;exact⟨rv,⟨V.ref (s.heap.objs.size+1),H',I3,rfl,q3⟩⟩
   | next=>exact False.elim hq'
   | brk=>exact False.elim hq'
   | cont=>exact False.elim hq'
theorem wv(M:Mk X.K C f)(F:FnOk X.prog X.w X.K X.mg X.base CX k f fd ps sp)(hr:Room (k+1) X.A)(hg:Gl X x)(hm:X.mg x=some (.ref C))(hb:Binds X.K fd ps ds)(hd:Vals dvs ds)(hx:gu CX X E)
 (ha:PA X (e::es) t) (hdb:(x==("__debug__":Str))=false:=by decide) (he:starEach (e::es) X.env=(false,eval e X.env)::starEach es X.env:=by rfl) (hpl:(backTo pos (starEach es X.env)).any (·.1)=false:=by rfl) :
 PE X (.Call (.Name x p) (e::es) [] pos) (tMake C sp dvs E t):=by
 intro pins s σ H Q I h;refine wpAny_Call_Name_kw (ku I hg hm ?_ hdb);refine PySem.W.callWith_K (h₀:=X.base) I.ok.mod.kin M.kp (thn (ha pos pins s σ H _ I h) fun us s1 ⟨vs,H1,I1,r,q⟩=>⟨I1.kIn,?_⟩) he hpl;exact zE M F hr hb hd hx I1 r q
end
structure FnScope(N P:List Str)(sc:Scope):Prop where
 kind:sc.kind=.function
 co:sc.isCoroutine=false
 gen:sc.isGenerator=false
 nd:N.Nodup
 pre:N.take P.length=P
 par:∀x∈P,sc.names.lookup x=some .local∨sc.names.lookup x=some .cell
 nofree:∀y∈sc.names,y.2≠.free
theorem pT{kindOf:Str->Option NameKind}{x:Str}:∀{binds:List (Str×Value)}{m:Str->Option Value},(∀v,(x,v)∉binds)->bindL kindOf binds m x=m x
 | [],_,_=>rfl
 | (n,v)::r,m,h=>by
   unfold bindL;rw[pT fun w hw=>h w (qK0 _ hw)]
   split
   . have:x≠n:=by rintro rfl;exact h v qL0
     simp [this]
   . rfl
theorem pV{kindOf:Str->Option NameKind}{x:Str}:∀{binds:List (Str×Value)}{m:Str->Option Value},(∀v,(x,v)∉binds)->bindC kindOf binds m x=m x
 | [],_,_=>rfl
 | (n,v)::r,m,h=>by
   unfold bindC;rw[pV fun w hw=>h w (qK0 _ hw)]
   split
   . rfl
   . have:x≠n:=by rintro rfl;exact h v qL0
     simp [this]
theorem pU{kindOf:Str->Option NameKind}{x:Str}{v:Value}:∀{P:List Str}{vs:List Value}{i:Nat}{m:Str->Option Value},P.Nodup->P[i]?=some x->vs[i]?=some v->kindOf x=some .local ->
 bindL kindOf (P.zip vs) m x=some v
 | [],_,_,_,_,h,_,_=>by simp at h
 | _::_,[],_,_,_,_,h,_=>by simp at h
 | p::P,w::vs,0,m,nd,h1,h2,hk=>by
   simp at h1 h2;subst h1;subst h2
   show bindL kindOf ((p,w)::P.zip vs) m p=_;unfold bindL;rw[pT fun v hv=>(List.nodup_cons.mp nd).1 (List.of_mem_zip hv).1,zF0 hk]
   simp
 | p::P,w::vs,i+1,m,nd,h1,h2,hk=>by
   show bindL kindOf ((p,w)::P.zip vs) m x=_;unfold bindL;exact pU (i:=i) (List.nodup_cons.mp nd).2 (by simpa using h1) (by simpa using h2) hk
theorem pW{kindOf:Str->Option NameKind}{x:Str}{v:Value}:∀{P:List Str}{vs:List Value}{i:Nat}{m:Str->Option Value},P.Nodup->P[i]?=some x->vs[i]?=some v->kindOf x≠some .local ->
 bindC kindOf (P.zip vs) m x=some v
 | [],_,_,_,_,h,_,_=>by simp at h
 | _::_,[],_,_,_,_,h,_=>by simp at h
 | p::P,w::vs,0,m,nd,h1,h2,hk=>by
   simp at h1 h2;subst h1;subst h2
   show bindC kindOf ((p,w)::P.zip vs) m p=_;unfold bindC;rw[pV fun v hv=>(List.nodup_cons.mp nd).1 (List.of_mem_zip hv).1,zD0 hk]
   simp
 | p::P,w::vs,i+1,m,nd,h1,h2,hk=>by
   show bindC kindOf ((p,w)::P.zip vs) m x=_;unfold bindC;exact pW (i:=i) (List.nodup_cons.mp nd).2 (by simpa using h1) (by simpa using h2) hk
def start(N:List Str)(vs:List V):St:=vs.map some++List.replicate (N.length-vs.length) none
def jy(CX:CXT)(P:Program)(w:World)(K:W.Frag)(mg:Str->Option Value)(base:Heap)(N:List Str)(qual:Str)(scope:Scope)(f:Addr)(cd:Value)(A:Around)(outer:List Env)(s:Shared)(H:Hp)(E:XK):Cx where
 prog:=P
 w:=w
 K:=K
 mg:=mg
 base:=base
 A:=A.deeper (envOfC qual scope s.heap.objs.size f cd)
 N:=N
 s₀:=s
 H₀:=H
 env:=envOfC qual scope s.heap.objs.size f cd
 outer:=outer
 stack:=envOfC qual scope s.heap.objs.size f cd::outer
 ex:=[]
 calm:=true
 fn:=fun _=>true
 pn:=[]
 xe:=fun e s'=>wpAny (model P w) (A.deeper (envOfC qual scope s.heap.objs.size f cd)) (leaving (envOfC qual scope s.heap.objs.size f cd) e) (fun _ s''=>CX outer H s E e s'') (fun e' s''=>CX outer H s E e' s'') s'
theorem sY{sc:Scope}{n:Nat}{x:Str}(h:sc.names.lookup x=some .cell):∃c,(cellsFrom n sc.names []).lookup x=some c:=by
 have q:=PySem.W.cellsFrom_some sc.names n [] (.inl h);exact Option.isSome_iff_exists.mp q
theorem yu{CX:CXT}{P:Program}{w:World}{K:W.Frag}{mg:Str->Option Value}{base:Heap}{N ps:List Str}{qual:Str}{scope:Scope}{f:Addr}{cd:Value}{A:Around}{outer:List Env}{s s1:Shared}{H:Hp}{E:XK}{us:List Value}{vs:List V}
 (S:FnScope N ps scope) (hd:A.handled=none) (e0:Env0 P w K mg base A outer s H) (hl:vs.length=ps.length) (r:Vals vs us)
 (x:InCallC s s.heap.objs.size (bindL (envOfC qual scope s.heap.objs.size f cd).kindOf (ps.zip us) fun _=>none) (cellsFrom (s.heap.objs.size+1) scope.names []) (bindC (envOfC qual scope s.heap.objs.size f cd).kindOf (ps.zip us) fun _=>none) s1) :
 Inv (jy CX P w K mg base N qual scope f cd A outer s H E) [] (start N vs) H s1:=by
 have hpl:ps.length<=N.length:=by have:=congrArg List.length S.pre;rw[qJ0]at this;omega
 obtain⟨h1,tk,rfl,hk⟩:=x.done;have noA:∀b:Addr,b∉(jy CX P w K mg base N qual scope f cd A outer s H E).ex:=fun b z=>absurd (show b∈([]:List Addr)from z) (by simp)
 refine ⟨⟨e0.mod,S.kind,rfl,rfl,zI0 _,fun y z c h1 h2=>?_,fun y hy=>?_,fun y c _ h=>?_,fun _=>hd,Around.frames_deeper e0.frames,.inr ⟨rfl,rfl⟩,fun b z=>absurd z (noA b),e0.bs,e0.bsz,fun b _ _=>noA b,fun b z=>absurd z (noA b),e0.funs,e0.frf⟩,
  rfl,e0.bare,Un.kept hk,⟨_,x.toInCall.ns,fun i y v h1 h2 h3=>?_⟩,fun y c h=>⟨_,x.cell y c h⟩,e0.hok.fresh (zI0 _),fun y c h=>?_,fun p hp=>absurd (show p∈([]:List (Addr×Obj))from hp) (by simp),e0.hok.kept hk,?_⟩
 . exact name_of_addr x.apart (PySem.mem_of_lookup h1) (PySem.mem_of_lookup h2)
 . have hy:scope.names.lookup y=some .cell∨scope.names.lookup y=some .free:=hy;rcases hy with hy | hy
   . exact sY hy
   . exact absurd rfl (S.nofree _ (PySem.mem_of_lookup hy))
 . exact Nat.le_of_lt (x.above y c (PySem.mem_of_lookup h))
 . have hi:i<vs.length:=by
    unfold start at h2
    by_cases hi:i<vs.length
    . exact hi
    . rw [List.getElem?_append_right (by simpa using hi)]at h2;rw[List.getElem?_replicate]at h2
      split at h2 <;> cases h2
   have ha:vs[i]?=some v:=by
    unfold start at h2;rw[List.getElem?_append_left (by simpa using hi),qE0]at h2;cases e:vs[i]? with
    | none=>rw[e]at h2;cases h2
    | some a=>rw[e]at h2;cases h2;rfl
   obtain ⟨u,hu,rv⟩:=r.get ha;have hp:ps[i]?=some y:=by
    rw[←S.pre,List.getElem?_take_of_lt (by omega)];exact h1
   have ndP:ps.Nodup:=by rw[←S.pre];exact S.nd.sublist (List.take_sublist _ _)
   refine⟨u,rv,?_⟩;rcases S.par y (zZ0 hp)with k | k
   . exact .inl ⟨k,pU ndP hp hu k⟩
   . obtain⟨c,e⟩:=sY (n:=s.heap.objs.size+1) k;refine .inr ⟨.inl k,c,e,?_⟩;have q:=x.cell y c e;rw[pW ndP hp hu (by show scope.names.lookup y≠_;rw[k];decide)]at q;exact q
 . exact e0.hok.fresh (Nat.le_of_lt (x.above y c (PySem.mem_of_lookup h)))
 . unfold start;show _=N.length;rw[zR0,zE0,List.length_replicate];omega
theorem Az{CX:CXT}{P:Program}{w:World}{K:W.Frag}{mg:Str->Option Value}{base:Heap}{k:Nat}{f:Addr}{name qual:Str}{params:Arguments}{body:List Stmt}{scope:Scope}{dV kV doc pm cdv ct oc:Value}{an od:Option Addr}
 {osl:Array (Option Value)} {N ps:List Str} {sp:Sp} (lk:K.lookup f=some ⟨oc,od,.func (PySem.W.fnOf name qual params body scope dV kV doc pm an cdv ct),osl⟩) (hcd:PySem.W.codeIn K cdv qual=true) (S:FnScope N ps scope)
 (len:∀vs H Q E,sp vs H Q E->vs.length=ps.length)
 (hbody:∀(A:Around)(outer:List Env)(s:Shared)(H:Hp)(vs:List V)(Q:VK)(E:XK),Room k (A.deeper (envOfC qual scope s.heap.objs.size f cdv))->sp vs H Q E ->
  ∃t,PSs (jy CX P w K mg base N qual scope f cdv A outer s H E) body t/\t { nx:=fun _ H'=>Q .non H',rt:=Q } (start N vs) H) :
 FnOk P w K mg base CX (k+1) f (PySem.W.fnOf name qual params body scope dV kV doc pm an cdv ct) ps sp:=by
 refine⟨len,fun A outer s H args us vs Q E hr e0 hb r hsp=>?_⟩;have hl:=len _ _ _ _ hsp;have KX:K.In s.heap:=e0.mod.kin.keeps fun b o e=>(e0.bs b o e).1
 have lim:s.heap.NoLimit:=e0.mod.nolimit.keeps fun b o e=>(e0.bs b o e).1
 have hkind:∀y∈ps.zip us,scope.names.lookup y.1=some .local∨(scope.names.lookup y.1=some .cell/\((cellsFrom (s.heap.objs.size+1) scope.names []).lookup y.1).isSome=true):=fun⟨n,v⟩ hy=>by
  rcases S.par n (List.of_mem_zip hy).1 with q | q
  . exact .inl q
  . exact .inr ⟨q,PySem.W.cellsFrom_some _ _ _ (.inl q)⟩
 refine codeAny_call_function hr.depth (KX _ _ lk) rfl S.co S.gen rfl (PySem.W.codeRec_of KX hcd) (hb _ _ _ _ ?_);refine wpAny_newFunctionEnv_cells S.kind hkind fun env he s1 x=>?_
 subst he;refine⟨lim.keeps x.toInCall.keep,codeAny_func ?_⟩;obtain⟨t,ht,hq⟩:=hbody A outer s H vs Q E (hr.deeper _) hsp;have I:Inv (jy CX P w K mg base N qual scope f cdv A outer s H E) [] (start N vs) H s1:=yu S hr.hd e0 hl r x;refine wpAny_mono (ht [] s1 (start N vs) H _ I hq) (fun fl s' hs=>?_) fun e s' hs=>hs
 have fin:∀{σ':St}{H':Hp}{v:V}{u:Value},Inv (jy CX P w K mg base N qual scope f cdv A outer s H E) [] σ' H' s'->RelV v u->Q v H'->CE outer P w H s Q u s':=
  fun{σ' H' v u} J rv q=>⟨v,H',J.os,J.bare,J.base,J.hok,rv,q⟩
 cases fl with
 | ret u=>
   obtain⟨v,σ',H',J,rv,q⟩:=hs;exact fin J rv q
 | next=>
   obtain⟨σ',H',J,q⟩:=hs;exact fin (v:=V.non) (u:=Value.none) J rfl q
 | brk=>
   obtain⟨_,_,_,q⟩:=hs;exact False.elim q
 | cont=>
   obtain⟨_,_,_,q⟩:=hs;exact False.elim q
section
variable {X:Cx} {x:Str} {p pos:Pos} {e:Expr} {es:List Expr} {t:TA} {id T:String} {r:List V->Hp->VK->Prop}
def tCB(r:List V->Hp->VK->Prop)(t:TA):TE:=fun σ H Q=>t σ H fun vs H1=>r vs H1 Q
theorem aD (hc:fh X (.builtin id) r) (hg:Gl X x) (hm:X.mg x=none) (hv:bootBuiltins x=some (.builtin id)) (ha:PA X (e::es) t) (hn:x≠"__name__":=by decide) (hdb:(x==("__debug__":Str))=false:=by decide)
 (he:starEach (e::es) X.env=(false,eval e X.env)::starEach es X.env:=by rfl) (hpl:(backTo pos (starEach es X.env)).any (·.1)=false:=by rfl):PE X (.Call (.Name x p) (e::es) [] pos) (tCB r t):=by
 intro pins s σ H Q I h;refine wpAny_Call_Name_kw (iq I hg hm hv ?_ hn hdb);exact PyProof.Rows.callWith_builtin1 (thn (ha pos pins s σ H _ I h) fun us s1 ⟨vs,H1,I1,r1,q1⟩=>hc pins s1 σ H1 vs us Q I1 r1 q1) he hpl
theorem bO (hc:fh X (.type T) r) (hg:Gl X x) (hm:X.mg x=none) (hv:bootBuiltins x=some (.type T)) (ha:PA X (e::es) t) (hn:x≠"__name__":=by decide) (hdb:(x==("__debug__":Str))=false:=by decide)
 (he:starEach (e::es) X.env=(false,eval e X.env)::starEach es X.env:=by rfl) (hpl:(backTo pos (starEach es X.env)).any (·.1)=false:=by rfl):PE X (.Call (.Name x p) (e::es) [] pos) (tCB r t):=by
 intro pins s σ H Q I h;refine wpAny_Call_Name_kw (iq I hg hm hv ?_ hn hdb);exact PyProof.Rows.callWith_type1 (thn (ha pos pins s σ H _ I h) fun us s1 ⟨vs,H1,I1,r1,q1⟩=>hc pins s1 σ H1 vs us Q I1 r1 q1) he hpl
end
end L2
namespace HT
open PySem PyProof.Rows
section
variable {prog:Program} {w:World} {A:Around} {E:Value->Shared->Prop} {s:Shared}
theorem cat_tup{t b:Addr}{vs ws:List Value}{Q:Value->Shared->Prop}(ht:IsTup s.heap t vs.toArray)(hb:IsTup s.heap b ws.toArray)(hv:vs≠[])
 (h1:ws=[]->Q (.ref t) s) (h2:ws≠[]->Q (.ref s.heap.objs.size) { s with heap:=s.heap.push { cls:=.type "tuple",data:=.seq (vs++ws).toArray } })
 (hsz:vs.length+ws.length<=sizeLine):wpAny (model prog w) A (binaryOp .Add (.ref t) (.ref b)) Q E s:=by
 obtain⟨⟨cls,dd,data,sl⟩,ho,hc,n,hd⟩:=id ht;obtain⟨⟨cls2,dd2,data2,sl2⟩,ho2,hc2,n2,hd2⟩:=id hb;simp only at hc hd hc2 hd2;subst hc hd hc2 hd2;have e:vs.toArray++ws.toArray=(vs++ws).toArray:=by simp
 by_cases hw:ws=[]
 . exact concat_meets ⟨_,ho,rfl⟩ ⟨_,ho2,rfl⟩ noFill_tuple_add seq_tuple_add PySem.F.slot_tuple_add PySem.F.entry_tuple_add (PySem.F.args_tuple_add_2 _ _)
    (tuple_addW1 t b vs.toArray ws.toArray n n2 dd dd2 sl sl2 (by simpa using hv) (by simp [hw])) ⟨ho,ho2,h1 hw⟩
 . refine concat_meets ⟨_,ho,rfl⟩ ⟨_,ho2,rfl⟩ noFill_tuple_add seq_tuple_add PySem.F.slot_tuple_add PySem.F.entry_tuple_add (PySem.F.args_tuple_add_2 _ _)
    (tuple_addW2 t b vs.toArray ws.toArray n n2 dd dd2 sl sl2 (by simpa using hv) (by simpa using hw) (by rw[zP0,zP0];exact hsz)) ⟨ho,ho2,?_⟩
   rw[e];exact h2 hw
def sIx(n d:Nat):Option Int->Nat
 | none=>d
 | some v=>if v<0 then(v+(n:Int)).toNat else min v.toNat n
theorem sIx_none(n d:Nat):sIx n d none=d:=rfl
theorem sIx_nat(n d k:Nat):sIx n d (some (k:Int))=min k n:=by
 show(if(k:Int)<0 then((k:Int)+(n:Int)).toNat else min (k:Int).toNat n)=min k n;rw[zD0 (by omega),qV0]
theorem Di(n d:Nat)(hd:d<=n)(o:Option Int):sIx n d o<=n:=by
 cases o with
 | none=>exact hd
 | some v=>
   show(if v<0 then(v+(n:Int)).toNat else min v.toNat n)<=n
   by_cases hv:v<0
   . rw[zF0 hv];omega
   . rw[zD0 hv];exact Nat.min_le_right _ _
theorem wQ(v:Int)(n d:Nat):(if v<0 then max (v+(n:Int)) 0 else min v (n:Int))=((sIx n d (some v):Nat):Int):=by
 show(if v<0 then max (v+(n:Int)) 0 else min v (n:Int))=(((if v<0 then(v+(n:Int)).toNat else min v.toNat n):Nat):Int)
 by_cases hv:v<0
 . simp only[zF0 hv];omega
 . simp only[zD0 hv];omega
theorem vB(lo hi:Option Int)(n:Nat):Builtin.Slice.sliceAdjust lo hi 1 (n:Int)=(((sIx n 0 lo:Nat):Int),((sIx n n hi:Nat):Int)):=by
 have h1:¬ ((1:Int)<0):=by omega
 unfold Builtin.Slice.sliceAdjust;simp only[h1,if_false];refine Prod.ext ?_ ?_
 . cases lo with
   | none=>rfl
   | some v=>exact wQ v n 0
 . cases hi with
   | none=>rfl
   | some v=>exact wQ v n n
theorem uu(i j:Nat):Builtin.Slice.slicePlaces (i:Int) (j:Int) 1=j-i:=by
 unfold Builtin.Slice.slicePlaces;have h1:(1:Int)>0:=by omega
 simp only[h1,if_true,Int.ediv_one]
 split <;> omega
theorem mQ{v:Value}{o:Option Int}{Q:Option Int->Shared->Prop}(p:IsPart v o)(h:Q o s):wpAny (model prog w) A (Builtin.Slice.slicePartIndex v) Q E s:=by
 cases p with
 | none=>exact slicePart_none h
 | int i t=>exact slicePart_int h
theorem kI{sl:Addr}{vl vu:Value}{lo hi:Option Int}{n:Nat}{Q:Int×Int×Nat->Shared->Prop}(hs:s.heap.IsSliceOf sl vl vu .none)(pl:IsPart vl lo)(pu:IsPart vu hi)
 (h:Q (((sIx n 0 lo:Nat):Int),1,sIx n n hi-sIx n 0 lo) s):wpAny (model prog w) A (Builtin.Slice.sliceApplied (.ref sl) (pure (n:Int))) Q E s:=by
 obtain⟨os,hos,hcs,hds⟩:=id hs;unfold Builtin.Slice.sliceApplied Builtin.Slice.sliceFields;refine zA0 (zA0 (wpAny_field hos hds (x:=vl) rfl (zA0 (wpAny_field hos hds (x:=vu) rfl (zA0 (wpAny_field hos hds (x:=.none) rfl (zH0 ?_)))))));refine zA0 (slicePart_none ?_);show wpAny _ _ (if((1:Int)==0)=true then _ else _) _ _ s;rw[zD0 (by decide)];refine zA0 (mQ pl (zA0 (mQ pu (zA0 (zH0 ?_)))));show wpAny _ _ (match Builtin.Slice.sliceAdjust lo hi 1 (n:Int)with | (lo,hi)=>pure (lo,(1:Int),Builtin.Slice.slicePlaces lo hi 1)) _ _ s;rw[vB lo hi n];show wpAny _ _ (pure (((sIx n 0 lo:Nat):Int),(1:Int),Builtin.Slice.slicePlaces ((sIx n 0 lo:Nat):Int) ((sIx n n hi:Nat):Int) 1)) _ _ s;rw[uu];exact zH0 h
theorem zL(xs:Array Value)(i k:Nat):((List.range k).filterMap fun(m:Nat)=>xs[((i:Int)+(m:Int)*1).toNat]?).toArray=((xs.toList.drop i).take k).toArray:=by
 have e:(fun(m:Nat)=>xs[((i:Int)+(m:Int)*1).toNat]?)=fun m=>xs[i+m]?:=by
  funext m
  have:((i:Int)+(m:Int)*1).toNat=i+m:=by omega
  rw[this]
 rw[e]
 have:=pick_run xs i k
 rw[List.filterMap_map]at this;have e2:((fun x=>xs[x]?) ∘ fun x=>i+x)=fun m=>xs[i+m]?:=rfl
 rw[e2]at this;rw[this]
theorem getItem_tuple_cut{t sl:Addr}{items:Array Value}{vl vu:Value}{lo hi:Option Int}{Q:Value->Shared->Prop}(ht:IsTup s.heap t items)(hs:s.heap.IsSliceOf sl vl vu .none)(pl:IsPart vl lo)(pu:IsPart vu hi)
 (hw:¬ (sIx items.size 0 lo=0/\sIx items.size items.size hi=items.size))
 (h:Q (.ref s.heap.objs.size) { s with heap:=s.heap.push { cls:=.type "tuple",data:=.seq ((items.toList.drop (sIx items.size 0 lo)).take (sIx items.size items.size hi-sIx items.size 0 lo)).toArray } })
 (hsz:items.size<=sizeLine):wpAny (model prog w) A (getItem (.ref t) (.ref sl)) Q E s:=by
 have htake:sizeOk (.seq ((items.toList.drop (sIx items.size 0 lo)).take (sIx items.size items.size hi-sIx items.size 0 lo)).toArray):=by
  show((items.toList.drop (sIx items.size 0 lo)).take (sIx items.size items.size hi-sIx items.size 0 lo)).toArray.size<=sizeLine;rw[zP0,qJ0,List.length_drop,Array.length_toList];omega
 have hj:sIx items.size items.size hi<=items.size:=Di _ _ (zI0 _) hi;obtain⟨os,hos,hcs,hds⟩:=id hs;have hTs:s.TypeIs (.ref sl) "slice":=⟨os,hos,hcs⟩
 unfold getItem
 try with_reducible refine wpAny_holding ?_
 first | refine zA0 (zH0 ?_) | skip
 refine zA0 (wpAny_sequenceKey ht.typeIs (by decide) ?_);refine zA0 (wpAny_callSpecial?_slot (name:=Str.ofString "__getitem__") ht.typeIs PyProof.Rows.slot_tuple_getitem
  (wpAny_call_entry PyProof.Rows.slot_tuple_getitem ht.typeIs entry_tuple_getitem ?_ (args_tuple_getitem _ _)))
 show wpAny _ _ (Builtin.Tuple.tupleItemsOf (.ref t) >>= _) _ _ s;refine zA0 (tupleItemsOf_ ht ?_);refine zA0 (wpAny_typeOf hTs ?_);rw[zF0 (by decide)];refine zA0 (kI hs pl pu ?_);have hno:¬ ((((sIx items.size 0 lo:Nat):Int)==0&&(1:Int)==1&&(sIx items.size items.size hi-sIx items.size 0 lo)==items.size)=true):=by
  intro q;rw[Bool.and_eq_true,Bool.and_eq_true]at q;have q1:((sIx items.size 0 lo:Nat):Int)=0:=eq_of_beq q.1.1;have q2:sIx items.size items.size hi-sIx items.size 0 lo=items.size:=eq_of_beq q.2;exact hw ⟨by omega,by omega⟩
 show wpAny _ _ (if(((sIx items.size 0 lo:Nat):Int)==0&&(1:Int)==1&&(sIx items.size items.size hi-sIx items.size 0 lo)==items.size)=true then _ else _) _ _ s;rw[zD0 hno,zL]
 first
  | exact zA0 (m:=Builtin.Tuple.tupleExact _) (wpAny_newObj_type (zH0 ⟨_,rfl,zH0 h⟩) htake)
  | exact zA0 (m:=Builtin.Tuple.tupleExact _) (wpAny_newObj_type (zA0 (zH0 (zH0 ⟨_,rfl,zH0 h⟩))) htake)
  | exact zA0 (zA0 (m:=Builtin.Tuple.tupleExact _) (wpAny_newObj_type (zH0 (zH0 ⟨_,rfl,zH0 h⟩)) htake))
  | exact zA0 (zA0 (m:=Builtin.Tuple.tupleExact _) (wpAny_newObj_type (zH0 ⟨_,rfl,zH0 h⟩) htake))
end
end HT
namespace L2
open PySem PySem.Spec PyProof.Rows
abbrev TO:=St->Hp->(Option Int->Hp->Prop)->Prop
def PO(X:Cx)(e:Option Expr)(t:TO):Prop:=
 ∀(pins:List (Addr×Obj))(s:Shared)(σ:St)(H:Hp)(Q:Option Int->Hp->Prop),Inv X pins σ H s->t σ H Q ->
  wpAny (model X.prog X.w) X.A (evalPart e X.env) (fun u s'=>∃o H',Inv X pins σ H' s'/\IsPart u o/\Q o H') X.xe s
def Bi:TO:=fun _ H Q=>Q none H
def tPart(t:TE):TO:=fun σ H Q=>t σ H fun x H1=>∃i,x=.int i/\Q (some i) H1
section
variable {X:Cx} {e:Expr} {te:TE} {lo hi:Option Expr} {tl th:TO} {pos p2:Pos}
theorem gH:PO X none Bi:=by
 intro pins s σ H Q I h;rw[evalPart_none];exact zH0 ⟨none,H,I,.none,h⟩
theorem eQ(h:PE X e te):PO X (some e) (tPart te):=by
 intro pins s σ H Q I hw;rw[evalPart_some];refine thn (h pins s σ H _ I hw) fun u s1 ⟨x,H1,I1,r1,q1⟩=>?_
 obtain⟨i,rfl,q⟩:=q1;obtain⟨t,rfl⟩:=r1;exact⟨some i,H1,I1,.int i t,q⟩
def SlR(X:Cx)(r:V->Option Int->Option Int->Hp->VK->Prop):Prop:=
 ∀(pins:List (Addr×Obj))(s:Shared)(σ:St)(H:Hp)(x:V)(v vl vu:Value)(lo hi:Option Int)(sl:Addr)(Q:VK),Inv X pins σ H s->RelV x v->s.heap.IsSliceOf sl vl vu .none->IsPart vl lo->IsPart vu hi->r x lo hi H Q ->
  ∃T id,typeLookup (.type T) "__getitem__"=pure (some (.builtin id))/\s.TypeIs v T/\wpAny (model X.prog X.w) X.A (getItem v (.ref sl)) (EP X pins σ Q) X.xe s
def tSl(r:V->Option Int->Option Int->Hp->VK->Prop)(te:TE)(tl th:TO):TE:=fun σ H Q=>te σ H fun x H1=>tl σ H1 fun l H2=>th σ H2 fun u H3=>r x l u H3 Q
theorem dH{r:V->Option Int->Option Int->Hp->VK->Prop}(hr:SlR X r)(he:PE X e te)(hl:PO X lo tl)(hu:PO X hi th):PE X (.Subscript e (.Slice lo hi none p2) pos) (tSl r te tl th):=by
 intro pins s σ H Q I h;refine Subscript_ (thn (he pins s σ H _ I h) fun v s1 ⟨x,H1,I1,r1,q1⟩=>?_);refine wpAny_Slice (thn (hl pins s1 σ H1 _ I1 q1) fun vl s2 ⟨l,H2,I2,pl,q2⟩=>thn (hu pins s2 σ H2 _ I2 q2) fun vu s3 ⟨u,H3,I3,pu,q3⟩=>?_);rw[evalPart_none];refine zH0 ?_;have I4:Inv X pins σ H3 { s3 with heap:=s3.heap.push { cls:=.type "slice",data:=.fields #[vl,vu,.none] } }:=I3.kept (t':=s3.toks) fun b ob q=>zL0 _ q
 obtain⟨T,id,hT,ht,hg⟩:=hr pins { s3 with heap:=s3.heap.push { cls:=.type "slice",data:=.fields #[vl,vu,.none] } } σ H3 x v vl vu l u s3.heap.objs.size Q I4 r1 (Heap.IsSliceOf.new ..) pl pu q3;show wpAny (model X.prog X.w) X.A (subscriptTail e (.Slice lo hi none p2) v (.ref s3.heap.objs.size)) (EP X pins σ Q) X.xe { s3 with heap:=s3.heap.push { cls:=.type "slice",data:=.fields #[vl,vu,.none] } };exact tail_any (ops:=[.ref s3.heap.objs.size,v]) ht hT hg (by rfl')
def eZ(xs:List V)(lo hi:Option Int):List V:=(xs.drop (HT.sIx xs.length 0 lo)).take (HT.sIx xs.length xs.length hi-HT.sIx xs.length 0 lo)
theorem lE(xs:List V)(lo hi:Option Int):(eZ xs lo hi).length<=xs.length:=by
 unfold eZ;rw[qJ0,List.length_drop];omega
def rSlT(K:W.Frag):V->Option Int->Option Int->Hp->VK->Prop:=fun x lo hi H Q=>∃a xs,x=.ref a/\SqT K H a xs/\
 ¬ (HT.sIx xs.length 0 lo=0/\HT.sIx xs.length xs.length hi=xs.length)/\∀p,H p=none->Q (.ref p) (upd H p (.tup (eZ xs lo hi)))
theorem qi:SlR X (rSlT X.K):=by
 intro pins s σ H x v vl vu lo hi sl Q I rx hs pl pu h;obtain⟨a,xs,rfl,hx,hw,q⟩:=h;cases rx;obtain⟨its,r,ht,hz⟩:=I.tuple hx;have hlen:its.toArray.size=xs.length:=by rw[zP0];exact r.length.symm
 refine⟨"tuple",_,PyProof.Rows.slot_tuple_getitem.lookup,ht.typeIs,?_⟩;refine HT.getItem_tuple_cut ht hs pl pu (by rw[hlen];exact hw) ?_ (by rw[hlen];exact hz);rw[hlen];refine⟨.ref s.heap.objs.size,_,I.laid (t':=s.toks) (o:=.tup (eZ xs lo hi)) (fun b ob q=>zL0 _ q) (zI0 _) ?_,rfl,q _ (I.hok.fresh (zI0 _))⟩;exact⟨zX0 (lE xs lo hi) hz,_,(r.drop (HT.sIx xs.length 0 lo)).take (HT.sIx xs.length xs.length hi-HT.sIx xs.length 0 lo),IsTup.new _ _,_,zW0 _ rfl,rfl⟩
def wn(K:W.Frag):R2:=fun x y H Q=>∃a b xs ys,x=.ref a/\y=.ref b/\SqT K H a xs/\SqT K H b ys/\xs≠[]/\xs.length+ys.length<=sizeLine/\
 (ys=[]->Q (.ref a) H)/\(ys≠[]->∀p,H p=none->Q (.ref p) (upd H p (.tup (xs++ys))))
theorem Vals.nil_iff{xs:List V}{us:List Value}(r:Vals xs us):us=[]↔xs=[]:=by
 cases r with
 | nil=>simp
 | cons _ _=>simp
theorem op_catT:OpR X (binaryOp .Add) (wn X.K):=by
 intro pins s σ H x y v u Q I rx ry h;obtain⟨a,b,xs,ys,rfl,rfl,ha,hb,hx,hz,q1,q2⟩:=h;cases rx;cases ry;obtain⟨its,r1,p1,_⟩:=I.tuple ha;obtain⟨its2,r2,p2,_⟩:=I.tuple hb;refine HT.cat_tup p1 p2 (fun z=>hx (r1.nil_iff.mp z)) (fun z=>⟨.ref a,H,I,rfl,q1 (r2.nil_iff.mp z)⟩) (fun z=>?_) (by rw[←r1.length,←r2.length];exact hz);refine⟨.ref s.heap.objs.size,_,I.laid (t':=s.toks) (o:=.tup (xs++ys)) (fun b ob q=>zL0 _ q) (zI0 _) ?_,rfl,q2 (fun w=>z (r2.nil_iff.mpr w)) _ (I.hok.fresh (zI0 _))⟩;exact⟨by rw[zR0];exact hz,_,r1.append r2,IsTup.new _ _,_,zW0 _ rfl,rfl⟩
end
def ixN(n:Nat)(i:Int):Option Nat:=if 0<=i then(if i<n then some i.toNat else none)else if -(n:Int)<=i then some (i+n).toNat else none
def atI{α:Type}(xs:List α)(i:Int):Option α:=(ixN xs.length i).bind fun j=>xs[j]?
theorem qS{n:Nat}{i:Int}{j:Nat}(h:ixN n i=some j):seqIndex? i n=some j/\j<n/\-(n:Int)<=i/\i<n:=by
 unfold ixN at h
 by_cases h0:0<=i
 . rw [zF0 h0]at h
   by_cases h1:i<n
   . rw[zF0 h1]at h;have e:i.toNat=j:=zO0 h;exact⟨by rw[seqIndex_of h0 h1,e],by omega,by omega,h1⟩
   . rw[zD0 h1]at h;cases h
 . rw [zD0 h0]at h
   by_cases h1:-(n:Int)<=i
   . rw[zF0 h1]at h;have e:(i+n).toNat=j:=zO0 h;exact⟨by rw[seqIndex_neg (by omega) h1,e],by omega,h1,by omega⟩
   . rw[zD0 h1]at h;cases h
theorem rm{α:Type}{xs:List α}{i:Int}{v:α}(h:atI xs i=some v):∃j,seqIndex? i xs.length=some j/\xs[j]?=some v/\j<xs.length/\-(xs.length:Int)<=i/\i<xs.length:=by
 unfold atI at h;cases e:ixN xs.length i with
 | none=>rw[e]at h;cases h
 | some j=>
   rw[e]at h;obtain⟨h1,h2,h3,h4⟩:=qS e;exact⟨j,h1,h,h2,h3,h4⟩
theorem aO{α:Type}{xs:List α}{j:Nat}{v:α}(h:xs[j]?=some v):atI xs (j:Int)=some v:=by
 have hj:j<xs.length:=(zT0 h).1;have e:ixN xs.length (j:Int)=some j:=by
  unfold ixN;rw[zF0 (by omega),zF0 (by omega)];simp
 unfold atI;rw[e];exact h
theorem tD{α:Type}(xs:List α)(v:α):atI (xs++[v]) (-1)=some v:=by
 have hl:(xs++[v]).length=xs.length+1:=by simp
 have e:ixN (xs++[v]).length (-1)=some xs.length:=by
  unfold ixN;rw[hl,zD0 (by decide),zF0 (by omega)]
  congr 1
  omega
 unfold atI;rw[e];show(xs++[v])[xs.length]?=some v
 simp
def wT(b:Expr):Prop:=∀o i,subscripted b false o i=operate [o,i] (getItem o i)
def IxR(X:Cx)(r:R2):Prop:=
 ∀(value slice:Expr)(pins:List (Addr×Obj))(s:Shared)(σ:St)(H:Hp)(x y:V)(v u:Value)(Q:VK),Inv X pins σ H s->RelV x v->RelV y u->r x y H Q ->
  subscripted slice false v u=operate [v,u] (getItem v u)->wpAny (model X.prog X.w) X.A (subscriptTail value slice v u) (EP X pins σ Q) X.xe s
def MtR(X:Cx)(id:String)(r:V->List V->Hp->VK->Prop):Prop:=
 ∀(pins:List (Addr×Obj))(s:Shared)(σ:St)(H:Hp)(x:V)(xs:List V)(v:Value)(us:List Value)(Q:VK),Inv X pins σ H s->RelV x v->Vals xs us->r x xs H Q ->
  wpAny (model X.prog X.w) X.A (call (.builtin id) (v::us)) (EP X pins σ Q) X.xe s
section
variable {X:Cx} {a b:Expr} {ta tb:TE} {pos:Pos}
theorem IxR.or{r r':R2}(h:IxR X r)(h':IxR X r'):IxR X (fun x y H Q=>r x y H Q∨r' x y H Q):=by
 intro value slice pins s σ H x y v u Q I rx ry q hs;rcases q with q | q
 . exact h value slice pins s σ H x y v u Q I rx ry q hs
 . exact h' value slice pins s σ H x y v u Q I rx ry q hs
theorem aJ{r:R2}(hr:IxR X r)(ha:PE X a ta)(hb:PE X b tb)(hs:wT b):PE X (.Subscript a b pos) (tOp r ta tb):=by
 intro pins s σ H Q I h;exact Subscript_ (Ef ha hb I h fun v u s2 x y H2 I2 rx ry q=>hr a b pins s2 σ H2 x y v u Q I2 rx ry q (hs _ _))
def By(K:W.Frag):R2:=fun x y H Q=>∃p xs i v,x=.ref p/\y=.int i/\SqL K H p xs/\atI xs i=some v/\Q v H
def Dl(K:W.Frag):R2:=fun x y H Q=>∃p xs i v,x=.ref p/\y=.int i/\SqT K H p xs/\atI xs i=some v/\Q v H
def rIxS:R2:=fun x y H Q=>∃z i c,x=.str z/\y=.int i/\z.length<=sizeLine/\atI z.cps.toList i=some c/\Q (.str ⟨#[c]⟩) H
theorem ix_list:IxR X (By X.K):=by
 intro value slice pins s σ H x y v u Q I rx ry h hs;obtain⟨p,xs,i,z,rfl,rfl,hq,he,q⟩:=h;cases rx;obtain⟨t,rfl⟩:=ry;obtain⟨its,r,pl,hz⟩:=I.list hq;obtain⟨j,h1,h2,h3,h4,h5⟩:=rm he;obtain⟨w,ew,rw'⟩:=r.get h2;have hl:=r.length;have hn:=ip;have fin:EP X pins σ Q w s:=⟨z,H,I,rw',q⟩
 by_cases h0:0<=i
 . have hj:i.toNat=j:=by
    rw[seqIndex_of h0 h5]at h1;exact zO0 h1
   exact item_listR pl.isList h0 (by omega) (by rw[hj];simpa using ew) fin hs
 . have hj:(i+(its.toArray.size:Int)).toNat=j:=by
    rw[seqIndex_neg (by omega) h4]at h1;rw[zP0,←hl];exact zO0 h1
   exact subscriptTail_builtinR (x:=w) pl.isList.typeIs slot_list_getitem.lookup
    (wpAny_getItem_list_neg (Q:=fun r s'=>r=w/\EP X pins σ Q r s') pl.isList (by omega) (by rw[zP0] <;> omega) (by omega) (by rw[hj];simpa using ew) ⟨rfl,fin⟩) hs
theorem aZ:IxR X (Dl X.K):=by
 intro value slice pins s σ H x y v u Q I rx ry h hs;obtain⟨p,xs,i,z,rfl,rfl,hq,he,q⟩:=h;cases rx;obtain⟨t,rfl⟩:=ry;obtain⟨its,r,pl,hz⟩:=I.tuple hq;obtain⟨j,h1,h2,h3,h4,h5⟩:=rm he;obtain⟨w,ew,rw'⟩:=r.get h2;have hl:=r.length;have hn:=ip;have fin:EP X pins σ Q w s:=⟨z,H,I,rw',q⟩
 exact subscriptTail_builtinR (x:=w) pl.typeIs slot_tuple_getitem.lookup
  (getItem_tuple (j:=j) (Q:=fun r s'=>r=w/\EP X pins σ Q r s') pl (by omega) (by omega) (by rw[zP0,←hl];exact h1) (by simpa using ew) ⟨rfl,fin⟩) hs
theorem Aq:IxR X rIxS:=by
 intro value slice pins s σ H x y v u Q I rx ry h hs;obtain⟨z,i,c,rfl,rfl,hz,he,q⟩:=h;obtain⟨t,rfl⟩:=rx;obtain⟨t',rfl⟩:=ry;obtain⟨j,h1,h2,h3,h4,h5⟩:=rm he;have hl:z.cps.toList.length=z.length:=by simp [Str.length]
 rw [hl]at h1 h4 h5;have hn:=ip;exact tail_any (typeIs_str s z t) slot_str_getitem.lookup (getItem_str (c:=c) (by
  have e1:decide (i < -(2 ^ 63:Int))=false:=decide_eq_false (by omega);have e2:decide (i≥2 ^ 63)=false:=decide_eq_false (by omega);rw[e1,e2,Bool.or_false]) (by rw[h1];simpa using h2) ⟨.str ⟨#[c]⟩,H,I.tok _,⟨_,rfl⟩,q⟩) hs
theorem uS (its:List Value) (n j:Nat) (u:Value):Obj.mapSeq (·.setIfInBounds j u) { cls:=.type "list",data:=.seq its.toArray n }={ cls:=.type "list",data:=.seq (its.set j u).toArray n }:=by
 simp [Obj.mapSeq]
theorem Inv.lst{pins:List (Addr×Obj)}{σ:St}{H:Hp}{s:Shared}{p:Addr}{xs:List V}(I:Inv X pins σ H s)(h:H p=some (.lst xs)) :
 ∃(its:List Value) (n:Nat),Vals xs its/\s.heap.get? p=some { cls:=.type "list",data:=.seq its.toArray n }/\xs.length<=sizeLine:=by
 obtain⟨z,its,n,r,e⟩:=I.hok p _ h;exact⟨its,n,r,e,z⟩
theorem Inv.lstUpd{pins:List (Addr×Obj)}{σ:St}{H:Hp}{s:Shared}{p:Addr}{xs ys:List V}{its its':List Value}{n n':Nat}{f:Obj->Obj}(I:Inv X pins σ H s)(h:H p=some (.lst xs))
 (ho:s.heap.get? p=some { cls:=.type "list",data:=.seq its.toArray n }) (hf:f { cls:=.type "list",data:=.seq its.toArray n }={ cls:=.type "list",data:=.seq its'.toArray n' }) (r:Vals ys its') (hz:ys.length<=sizeLine) (t:Nat) :
 Inv X pins σ (upd H p (.lst ys)) { s with heap:=s.heap.update p f,toks:=t }:=by
 have e:(s.heap.update p f).get? p=some { cls:=.type "list",data:=.seq its'.toArray n' }:=by
  rw[Heap.get?_update_self f ho (by rw[hf] <;> rfl),hf]
 refine I.write (x:=p) (e:=p) (by rw[h];trivial) (.inl rfl) (fun b u hb q=>(Heap.get?_update_other _ _ (Ne.symm hb)).trans q) ⟨_,e⟩ ?_;exact⟨hz,its',n',r,e⟩
def rSetL:V->V->V->Hp->(Hp->Prop)->Prop:=fun o i v H Q=>∃p xs k j,o=.ref p/\i=.int k/\H p=some (.lst xs)/\ixN xs.length k=some j/\Q (upd H p (.lst (xs.set j v)))
theorem gQ:PSet X rSetL:=by
 intro pins s σ H o i v ov iv u Q I ro ri rv h;obtain⟨p,xs,k,j,rfl,rfl,hp,hj,q⟩:=h;cases ro;obtain⟨t,rfl⟩:=ri;obtain⟨its,n,r,ho,hz⟩:=I.lst hp;obtain⟨h1,h2,h3,h4⟩:=qS hj;have hl:=r.length;have hn:=ip;have I':Inv X pins σ (upd H p (.lst (xs.set j v))) { s with heap:=s.heap.update p (Obj.mapSeq (·.setIfInBounds j u)) }:=
  I.lstUpd hp ho (uS its n j u) (r.set rv j) (by rw[List.length_set];exact hz) s.toks
 by_cases h0:0<=k
 . have hk:k.toNat=j:=by
    rw[seqIndex_of h0 h4]at h1;exact zO0 h1
   exact PySem.W.ki_setAt ho h0 (by omega) (by rw[zP0,←hl];exact h4) (by rw[hk];exact⟨_,I',q⟩)
 . have hk:(k+(its.toArray.size:Int)).toNat=j:=by
    rw[seqIndex_neg (by omega) h3]at h1;rw[zP0,←hl];exact zO0 h1
   exact PySem.W.ki_setBack ho (by omega) (by rw[zP0,←hl];exact h3) (by omega) (by rw[hk];exact⟨_,I',q⟩)
theorem qh(lo hi:Option Int)(n:Nat):(sliceBounds lo hi none n).1=((HT.sIx n 0 lo:Nat):Int)/\(sliceBounds lo hi none n).2.1=((HT.sIx n n hi:Nat):Int)/\(sliceBounds lo hi none n).2.2=1:=by
 refine⟨?_,?_,rfl⟩
 . cases lo with
   | none=>simp [sliceBounds,HT.sIx]
   | some i=>
     simp only[sliceBounds,HT.sIx,Option.getD_none,show(1:Int)>0 by decide,if_true]
     by_cases h:i<0
     . simp only[h,if_true] <;> omega
     . simp only[h,if_false] <;> omega
 . cases hi with
   | none=>simp [sliceBounds,HT.sIx]
   | some i=>
     simp only[sliceBounds,HT.sIx,Option.getD_none,show(1:Int)>0 by decide,if_true]
     by_cases h:i<0
     . simp only[h,if_true] <;> omega
     . simp only[h,if_false] <;> omega
theorem oH(its:List Value)(lo hi:Option Int):slicePick its.toArray lo hi none=((its.drop (HT.sIx its.length 0 lo)).take (HT.sIx its.length its.length hi-HT.sIx its.length 0 lo)).toArray:=by
 obtain⟨h1,h2,h3⟩:=qh lo hi its.toArray.size;unfold slicePick;rw[h1,h2,h3];simp only[sliceRange_one,pick_run,zP0] <;> rfl
def rSlL(K:W.Frag):V->Option Int->Option Int->Hp->VK->Prop:=fun x lo hi H Q=>∃a xs,x=.ref a/\SqL K H a xs/\∀p,H p=none->Q (.ref p) (upd H p (.lst (eZ xs lo hi)))
theorem qj:SlR X (rSlL X.K):=by
 intro pins s σ H x v vl vu lo hi sl Q I rx hs pl pu h;obtain⟨a,xs,rfl,hx,q⟩:=h;cases rx;obtain⟨its,r,ht,hz⟩:=I.list hx;have hlen:=r.length;refine⟨"list",_,slot_list_getitem.lookup,ht.isList.typeIs,?_⟩;refine wpAny_getItem_list_slice ht.isList hs pl pu .none (by simp) ?_ (by rw[zP0] <;> omega);rw[oH,←hlen];refine⟨.ref s.heap.objs.size,_,I.laid (t':=s.toks) (o:=.lst (eZ xs lo hi)) (fun b ob q=>zL0 _ q) (zI0 _) ?_,rfl,q _ (I.hok.fresh (zI0 _))⟩;exact⟨zX0 (lE xs lo hi) hz,_,0,(r.drop (HT.sIx xs.length 0 lo)).take (HT.sIx xs.length xs.length hi-HT.sIx xs.length 0 lo),zW0 _ rfl⟩
def gk:V->Bool
 | .non=>true
 | .bl _=>true
 | .int _=>true
 | .str _=>true
 | _=>false
def eqV:V->V->Bool
 | .non,.non=>true
 | .bl a,.bl b=>a==b
 | .bl a,.int b=>(if a then 1 else 0)==b
 | .int a,.bl b=>a==(if b then 1 else 0)
 | .int a,.int b=>a==b
 | .str a,.str b=>a==b
 | _,_=>false
theorem DU{A:Around}{s:Shared}{y x:V}{u v:Value}(ry:RelV y u)(rx:RelV x v)(fy:gk y=true)(fx:gk x=true):SeqAt.EqAt A s u v (eqV y x):=by
 cases y with
 | non=>
   cases ry;cases x with
   | non=>cases rx;exact SeqAt.EqAt.same _
   | bl b=>cases rx;exact SeqAt.EqAt.none_bool b
   | int b=>obtain⟨t,rfl⟩:=rx;exact SeqAt.EqAt.none_int b t
   | str b=>obtain⟨t,rfl⟩:=rx;exact SeqAt.EqAt.none_str b t
   | _=>exact absurd (show false=true from fx) qA0
 | bl a=>
   cases ry;cases x with
   | non=>cases rx;exact SeqAt.EqAt.bool_none a
   | bl b=>cases rx;exact SeqAt.EqAt.bool_bool a b
   | int b=>obtain⟨t,rfl⟩:=rx;exact SeqAt.EqAt.bool_int a b t
   | str b=>obtain⟨t,rfl⟩:=rx;exact SeqAt.EqAt.bool_str a b t
   | _=>exact absurd (show false=true from fx) qA0
 | int a=>
   obtain⟨t',rfl⟩:=ry;cases x with
   | non=>cases rx;exact SeqAt.EqAt.int_none a t'
   | bl b=>cases rx;exact SeqAt.EqAt.int_bool a t' b
   | int b=>obtain⟨t,rfl⟩:=rx;exact SeqAt.EqAt.int_int a t' b t
   | str b=>obtain⟨t,rfl⟩:=rx;exact SeqAt.EqAt.int_str a t' b t
   | _=>exact absurd (show false=true from fx) qA0
 | str a=>
   obtain⟨t',rfl⟩:=ry;cases x with
   | non=>cases rx;exact SeqAt.EqAt.str_none a t'
   | bl b=>cases rx;exact SeqAt.EqAt.str_bool a t' b
   | int b=>obtain⟨t,rfl⟩:=rx;exact SeqAt.EqAt.str_int a t' b t
   | str b=>obtain⟨t,rfl⟩:=rx;exact SeqAt.EqAt.str_str a t' b t
   | _=>exact absurd (show false=true from fx) qA0
 | _=>exact absurd (show false=true from fy) qA0
def eqU(x:V)(u:Value):Bool:=match u with
 | .none=>eqV .non x
 | .bool b=>eqV (.bl b) x
 | .int i _=>eqV (.int i) x
 | .str z _=>eqV (.str z) x
 | _=>false
theorem ot{x y:V}{u:Value}(r:RelV y u)(f:gk y=true):eqU x u=eqV y x:=by
 cases y with
 | non=>cases r;rfl
 | bl b=>cases r;rfl
 | int i=>obtain⟨t,rfl⟩:=r;rfl
 | str z=>obtain⟨t,rfl⟩:=r;rfl
 | _=>exact absurd (show false=true from f) qA0
theorem kD{x:V}:∀{xs:List V}{us:List Value},Vals xs us->xs.all gk=true->us.any (eqU x)=xs.any fun y=>eqV y x
 | _,_,.nil,_=>rfl
 | y::xs,u::us,.cons r t,f=>by
   rw[List.all_cons,Bool.and_eq_true]at f;rw[List.any_cons,List.any_cons,ot r f.1,kD t f.2]
theorem dL{A:Around}{s:Shared}{x:V}{v:Value}(rx:RelV x v)(fx:gk x=true):∀{xs:List V}{us:List Value},Vals xs us->xs.all gk=true->∀u∈us,SeqAt.EqAt A s u v (eqU x u)
 | _,_,.nil,_=>fun u hu=>by cases hu
 | y::xs,u::us,.cons r t,f=>fun u' hu=>by
   rw[List.all_cons,Bool.and_eq_true]at f;rcases zY0 hu with rfl | hu
   . rw[ot r f.1];exact DU r rx f.1 fx
   . exact dL rx fx t f.2 u' hu
def inV(x:V)(xs:List V):Bool:=xs.any fun y=>eqV y x
def rIn(K:W.Frag)(neg:Bool):R2:=fun x y H Q=>∃p xs,y=.ref p/\(SqL K H p xs∨SqT K H p xs)/\gk x=true/\xs.all gk=true/\Q (.bl (if neg then !inV x xs else inV x xs)) H
theorem jt:OpR X (compareOp .In) (rIn X.K false):=by
 intro pins s σ H x y v u Q I rx ry h;obtain⟨p,xs,rfl,hq,fx,fs,q⟩:=h;cases ry;rcases hq with hq | hq
 . obtain⟨its,r,pl,hz⟩:=I.list hq;refine SeqAt.in_listAt (eqU x) pl.isList (fun w hw=>dL rx fx r fs w (by simpa using hw)) ⟨.bl _,H,I,rfl,?_⟩;rw[show its.toArray.any (eqU x)=its.any (eqU x) by simp,kD r fs];exact q
 . obtain⟨its,r,pl,hz⟩:=I.tuple hq;refine SeqAt.in_tupleAt (eqU x) pl (fun w hw=>dL rx fx r fs w (by simpa using hw)) ⟨.bl _,H,I,rfl,?_⟩;rw[show its.toArray.any (eqU x)=its.any (eqU x) by simp,kD r fs];exact q
theorem qF:OpR X (compareOp .NotIn) (rIn X.K true):=by
 intro pins s σ H x y v u Q I rx ry h;obtain⟨p,xs,rfl,hq,fx,fs,q⟩:=h;cases ry;rcases hq with hq | hq
 . obtain⟨its,r,pl,hz⟩:=I.list hq;refine SeqAt.notIn_listAt (eqU x) pl.isList (fun w hw=>dL rx fx r fs w (by simpa using hw)) ⟨.bl _,H,I,rfl,?_⟩;rw[show its.toArray.any (eqU x)=its.any (eqU x) by simp,kD r fs];exact q
 . obtain⟨its,r,pl,hz⟩:=I.tuple hq;refine SeqAt.notIn_tupleAt (eqU x) pl (fun w hw=>dL rx fx r fs w (by simpa using hw)) ⟨.bl _,H,I,rfl,?_⟩;rw[show its.toArray.any (eqU x)=its.any (eqU x) by simp,kD r fs];exact q
theorem az:fh X (.builtin "len") (fun xs H Q=>∃p ys,xs=[.ref p]/\(SqL X.K H p ys∨SqT X.K H p ys)/\Q (.int ys.length) H):=by
 intro pins s σ H xs us Q I r h;obtain⟨p,ys,rfl,hq,q⟩:=h;obtain⟨u,rfl,rx⟩:=iu r;cases rx;have hn:=ip;rcases hq with hq | hq
 . obtain⟨its,r',pl,hz⟩:=I.list hq;have hlen:=r'.length;exact Calls.call_len_list pl.isList (by simp only[zP0] <;> omega) ⟨.int ys.length,H,I.tok _,⟨s.toks+1,by rw[zP0,hlen]⟩,q⟩
 . obtain⟨its,r',pl,hz⟩:=I.tuple hq;have hlen:=r'.length;exact len_tuple pl (by simp only[zP0] <;> omega) ⟨.int ys.length,H,I.tok _,⟨s.toks+1,by rw[zP0,hlen]⟩,q⟩
theorem bN:fh X (.type "tuple") (fun xs H Q=>∃p ys,xs=[.ref p]/\((SqL X.K H p ys/\∀l,H l=none->Q (.ref l) (upd H l (.tup ys)))∨(SqT X.K H p ys/\Q (.ref p) H))):=by
 intro pins s σ H xs us Q I r h;obtain⟨p,ys,rfl,h⟩:=h;obtain⟨u,rfl,rx⟩:=iu r;cases rx;rcases h with⟨hq,q⟩ | ⟨hq,q⟩
 . obtain ⟨its,r',pl,hz⟩:=I.list hq;have hlen:=r'.length;refine call_tuple_list pl.isList (fun h' kp=>?_) (by simp only[zP0] <;> omega);have I1:Inv X pins σ H { s with heap:=h' }:=I.kept (t':=s.toks) kp;have I2:Inv X pins σ (upd H h'.objs.size (.tup ys)) { s with heap:=h'.push { cls:=.type "tuple",data:=.seq its.toArray } }:=
    I1.laid (t':=s.toks) (fun b o e=>zL0 _ e) (zI0 _) (show ObjOk X.prog X.w _ _ _ (.tup ys)from⟨hz,its,r',IsTup.new _ _,_,zW0 _ rfl,rfl⟩)
   exact⟨.ref h'.objs.size,_,I2,rfl,q _ (I1.hok.fresh (zI0 _))⟩
 . obtain⟨its,r',pl,hz⟩:=I.tuple hq;exact call_tuple_same pl ⟨.ref p,H,I,rfl,q⟩
def tyV(K:W.Frag)(T:String)(x:V)(H:Hp):Prop:=match x with
 | .str _=>T="str"
 | .int _=>T="int"
 | .ref p=>(T="list"/\∃xs,SqL K H p xs)∨(T="tuple"/\∃o,K.lookup p=some o/\o.cls=.type "tuple"/\o.dict=none)∨
  (T="dict"/\((∃kvs,H p=some (.dK kvs))∨∃kvs,H p=some (.dT kvs)))∨(T="set"/\∃S n,H p=some (.set S n))
 | _=>False
theorem CT{pins:List (Addr×Obj)}{σ:St}{H:Hp}{s:Shared}{T:String}{x:V}{v:Value}(I:Inv X pins σ H s)(r:RelV x v)(ty:tyV X.K T x H) :
 s.TypeIs v T/\∀a,v=.ref a->∃ob,s.heap.get? a=some ob/\ob.dict=none:=by
 cases x with
 | str z=>
   obtain⟨t,rfl⟩:=r;cases(show T="str" from ty);exact⟨typeIs_str s z t,fun _ e=>nomatch e⟩
 | int i=>
   obtain⟨t,rfl⟩:=r;cases(show T="int" from ty);exact⟨typeIs_int s i t,fun _ e=>nomatch e⟩
 | ref p=>
   cases r;rcases ty with⟨rfl,xs,hq⟩ | ⟨rfl,o,hk,hc,hd⟩ | ⟨rfl,hk⟩ | ⟨rfl,S,n,hk⟩
   . obtain⟨its,_,pl,_⟩:=I.list hq;refine⟨pl.isList.typeIs,fun a e=>?_⟩;cases e;obtain⟨o,n,e,c,hd,_⟩:=pl;exact⟨o,e,hd⟩
   . refine⟨⟨o,I.kIn p o hk,hc⟩,fun a e=>?_⟩;cases e;exact⟨o,I.kIn _ o hk,hd⟩
   . have z:∃o,s.heap.get? p=some o/\o.ExactDict:=by
      rcases hk with⟨kvs,hk⟩ | ⟨kvs,hk⟩
      . obtain⟨_,_,_,_,o,_,_,e,ex,_⟩:=I.hok p _ hk;exact⟨o,e,ex⟩
      . obtain⟨_,_,_,_,o,_,_,e,ex,_⟩:=I.hok p _ hk;exact⟨o,e,ex⟩
     obtain⟨o,e,ex⟩:=z;refine⟨⟨o,e,ex.1⟩,fun a e2=>?_⟩;cases e2;exact⟨o,e,ex.2.1⟩
   . obtain⟨o,_,_,_,e,ex,_⟩:=I.hok p _ hk;refine⟨⟨o,e,ex.1⟩,fun a e2=>?_⟩;cases e2;exact⟨o,e,ex.2.1⟩
 | _=>exact False.elim ty
def tBM(K:W.Frag)(T:String)(r:V->List V->Hp->VK->Prop)(to:TE)(t:TA):TE:=fun σ H Q=>to σ H fun x H1=>tyV K T x H1/\t σ H1 fun xs H2=>r x xs H2 Q
variable {o e:Expr} {es:List Expr} {to:TE} {t:TA} {name:Str} {apos cpos:Pos} {T id:String} {r:V->List V->Hp->VK->Prop}
theorem nJ (pa:PlainAttrs T) (slot:Slot T name id) (hty:typeOf (.builtin id)=pure (.type "method_descriptor")) (hm:MtR X id r) (ho:PE X o to) (ha:PA X (e::es) t)
 (hbase:attributeBase o name X.env (eval o X.env)=eval o X.env:=by rfl)
 (hfew:((backTo cpos (starEach (e::es) X.env)).all (fun x=>!x.1)&&(backToKw cpos (keywordEach [] X.env)).all (fun x=>x.1.isSome)
  &&decide ((e::es).length+([]:List Keyword).length+(if([]:List Keyword).isEmpty then 0 else 1)<30))=true:=by rfl)
 (hline:(apos.endLine==cpos.line)=true:=by rfl) (hs:starEach (e::es) X.env=(false,eval e X.env)::starEach es X.env:=by rfl) (hplain:(backTo cpos (starEach es X.env)).any (·.1)=false:=by rfl) :
 PE X (.Call (.Attribute o name apos) (e::es) [] cpos) (tBM X.K T r to t):=by
 intro pins s σ H Q I h;refine wpAny_Call_method_late hbase hfew hline rfl (thn (ho pins s σ H _ I h) fun v s1 ⟨x,H1,I1,r1,ty,q1⟩=>?_);obtain⟨h1,h2⟩:=CT I1 r1 ty;refine⟨T,id,pa,slot,hty,h1,h2,?_⟩;have hA:=ha cpos pins s1 σ H1 _ I1 q1;rw[hs]at hA ⊢;refine Calls.callWith_builtin (by show(false||(backTo cpos (starEach es X.env)).any (·.1))=false;rw[hplain] <;> rfl) (Calls.evalArgs_plain ?_);exact thn hA fun us s2 ⟨vs,H2,I2,r2,q2⟩=>hm pins s2 σ H2 x vs v us Q I2 r1 r2 q2
/- xs.append(e),list.index on a module's tuple .. are MtR facts of 06m -/
end
def MtM(X:Cx)(id:String)(r:V->List V->Hp->VK->Prop):Prop:=
 ∀(pins:List (Addr×Obj))(s:Shared)(σ:St)(H:Hp)(x:V)(xs:List V)(v:Value)(us:List Value)(Q:VK),Inv X pins σ H s->RelV x v->Vals xs us->r x xs H Q ->
  wpAny (model X.prog X.w) X.A (call (.builtin id) (v::us)) (EP X pins σ Q) X.xe s
theorem Vals.one:∀{x:V}{us:List Value},Vals [x] us->∃u,us=[u]/\RelV x u
 | _,_,.cons r .nil=>⟨_,rfl,r⟩
theorem Vals.reverse{xs:List V}{us:List Value}(h:Vals xs us):Vals xs.reverse us.reverse:=by
 induction h with
 | nil=>exact .nil
 | cons r t ih=>rw[List.reverse_cons,List.reverse_cons];exact Vals.append ih (.cons r .nil)
theorem Vals.rep{xs:List V}{us:List Value}(h:Vals xs us):∀k:Nat,Vals (List.replicate k xs).flatten (List.replicate k us).flatten
 | 0=>.nil
 | k+1=>by
   rw[List.replicate_succ,List.replicate_succ,List.flatten_cons,List.flatten_cons];exact Vals.append h (Vals.rep h k)
theorem pN(its:List Value):∀(k:Nat)(acc:List Value),
 List.foldl (fun x1 x2=>x1++x2) acc.toArray (List.replicate k its.toArray)=(acc++(List.replicate k its).flatten).toArray
 | 0,acc=>by simp
 | k+1,acc=>by
   have e:acc.toArray++its.toArray=(acc++its).toArray:=by simp
   have e2:(acc++its)++(List.replicate k its).flatten=acc++(List.replicate (k+1) its).flatten:=by
    rw[List.replicate_succ,List.flatten_cons,List.append_assoc]
   rw[←e2,←pN its k (acc++its),←e,List.replicate_succ,List.foldl_cons]
section
variable {X:Cx} {pins:List (Addr×Obj)} {σ:St} {H:Hp} {s:Shared} {l b:Addr} {xs ys zs:List V}
theorem Inv.lset{its its':List Value}{n:Nat}{f:Array Value->Array Value}{t':Nat}(I:Inv X pins σ H s)(hH:H l=some (.lst xs))
 (e:s.heap.get? l=some { cls:=.type "list",data:=.seq its.toArray n }) (hf:f its.toArray=its'.toArray) (hv:Vals ys its') (hz:ys.length<=sizeLine) :
 Inv X pins σ (upd H l (.lst ys)) { s with heap:=s.heap.update l (Obj.mapSeq f),toks:=t' }:=by
 have q:=PySem.IsL.update e f;rw[hf]at q;refine I.write (x:=l) (e:=l) (by rw[hH];exact trivial) (.inl rfl) (fun b' u hb hu=>(Heap.get?_update_other s.heap (Obj.mapSeq f) (Ne.symm hb)).trans hu) ⟨_,q⟩ ?_;exact⟨hz,its',_,hv,q⟩
theorem Inv.lnew{its:List Value}{t':Nat}(I:Inv X pins σ H s)(hv:Vals ys its)(hz:ys.length<=sizeLine) :
 Inv X pins σ (upd H s.heap.objs.size (.lst ys)) { s with heap:=s.heap.push { cls:=.type "list",data:=.seq its.toArray },toks:=t' }:=
 I.laid (fun _ _ q=>zL0 _ q) (zI0 _) ⟨hz,its,0,hv,zW0 _ rfl⟩
theorem Inv.fresh(I:Inv X pins σ H s):H s.heap.objs.size=none:=I.hok.fresh (zI0 _)
theorem Inv.lstM (I:Inv X pins σ H s) (hH:H l=some (.lst xs)):xs.length<=sizeLine/\∃(its:List Value) (n:Nat),Vals xs its/\xs.length=its.length/\s.heap.get? l=some { cls:=.type "list",data:=.seq its.toArray n }:=by
 obtain⟨z,its,n,r,e⟩:=I.hok l _ hH;exact⟨z,its,n,r,r.length,e⟩
theorem so{n:Nat}(h:n<=sizeLine):Builtin.List.listTooLong n=false:=by
 unfold Builtin.List.listTooLong;exact decide_eq_false (by omega)
end
section
variable {X:Cx}
def wo:V->List V->Hp->VK->Prop:=fun x vs H Q=>∃l xs y,x=.ref l/\vs=[y]/\H l=some (.lst xs)/\xs.length<sizeLine/\Q .non (upd H l (.lst (xs++[y])))
theorem gY:MtM X "list.append" wo:=by
 intro pins s σ H x vs v us Q I rx rv h;obtain⟨l,xs,y,rfl,rfl,hH,hz,q⟩:=h;cases rx;obtain⟨u,rfl,ru⟩:=rv.one;obtain⟨z,its,n,r,hl,e⟩:=I.lstM hH;refine call_meets F.slot_list_append ⟨_,e,rfl⟩ F.entry_list_append (F.args_list_append_2 _ _) (PySem.list_append l its.toArray n u (by rw[zP0];omega)) ⟨e,?_⟩;refine⟨.non,_,I.lset (its':=its++[u]) hH e (by simp) (r.append (.cons ru .nil)) ?_,rfl,q⟩;rw[zR0,qT0];omega
def BB:V->List V->Hp->VK->Prop:=fun x vs H Q=>∃l b xs zs,x=.ref l/\vs=[.ref b]/\H l=some (.lst xs)/\H b=some (.lst zs)/\xs.length+zs.length<=sizeLine/\Q .non (upd H l (.lst (xs++zs)))
theorem yg:MtM X "list.extend" BB:=by
 intro pins s σ H x vs v us Q I rx rv h;obtain⟨l,b,xs,zs,rfl,rfl,hH,hB,hz,q⟩:=h;cases rx;obtain⟨u,rfl,ru⟩:=rv.one;cases ru;obtain⟨z,its,n,r,hl,e⟩:=I.lstM hH;obtain⟨z2,its2,n2,r2,hl2,e2⟩:=I.lstM hB;have hsz:its.toArray.size+its2.toArray.size<=sizeLine:=by rw[zP0,zP0];omega
 have hlong:¬ (!its.toArray.isEmpty&&Builtin.List.listTooLong (its.toArray.size+its2.toArray.size))=true:=by
  rw[so hsz,Bool.and_false];exact qA0
 refine call_meets F.slot_list_extend ⟨_,e,rfl⟩ F.entry_list_extend (F.args_list_extend_2 _ _)
  (AutoSeq1.list_extend_list_list_0 l its.toArray n b its2.toArray n2 hlong (by rw[zP0];omega) (by omega)) ⟨e,e2,?_⟩
 refine⟨.non,_,I.lset (its':=its++its2) hH e (by simp) (r.append r2) ?_,rfl,q⟩;rw[zR0];omega
def rCat:R2:=fun x y H Q=>∃l b xs zs,x=.ref l/\y=.ref b/\H l=some (.lst xs)/\H b=some (.lst zs)/\xs.length+zs.length<=sizeLine/\∀p,H p=none->Q (.ref p) (upd H p (.lst (xs++zs)))
theorem dI:OpR X (binaryOp .Add) rCat:=by
 intro pins s σ H x y v u Q I rx ry h;obtain⟨l,b,xs,zs,rfl,rfl,hH,hB,hz,q⟩:=h;cases rx;cases ry;obtain⟨z,its,n,r,hl,e⟩:=I.lstM hH;obtain⟨z2,its2,n2,r2,hl2,e2⟩:=I.lstM hB;refine PySem.P.add_list e e2 ?_ (by rw[zP0,zP0];omega);have ea:its.toArray++its2.toArray=(its++its2).toArray:=by simp
 rw[ea];exact⟨.ref _,_,I.lnew (t':=s.toks) (r.append r2) (by rw[zR0];omega),rfl,q _ I.fresh⟩
def rRep:R2:=fun x y H Q=>∃l k xs,x=.ref l/\y=.int k/\H l=some (.lst xs)/\-(2 ^ 63)<=k/\k<2 ^ 63/\xs.length*k.toNat<=sizeLine/\
 ∀p,H p=none->Q (.ref p) (upd H p (.lst (List.replicate k.toNat xs).flatten))
theorem wA{α:Type}(xs:List α)(k:Nat):(List.replicate k xs).flatten.length=k*xs.length:=by
 induction k with
 | zero=>simp
 | succ k ih=>rw[List.replicate_succ,List.flatten_cons,zR0,ih,Nat.succ_mul,Nat.add_comm]
theorem Dz:OpR X (binaryOp .Mult) rRep:=by
 intro pins s σ H x y v u Q I rx ry h;obtain⟨l,k,xs,rfl,rfl,hH,h1,h2,hz,q⟩:=h;cases rx;obtain⟨t,rfl⟩:=ry;obtain⟨z,its,n,r,hl,e⟩:=I.lstM hH;have hlen:its.toArray.size*k.toNat<=sizeLine:=by rw[zP0,←hl];exact hz
 have hcap:¬ its.toArray.size*k.toNat>(2 ^ 63-1) / 8:=by
  have:(sizeLine:Nat)<=(2 ^ 63-1) / 8:=by decide
  omega
 have hfit:¬ (!Builtin.List.listFitsIndex k)=true:=by
  rw[fitsIndex_both h1 h2];exact qA0
 have hlong:¬ Builtin.List.listTooLong (its.toArray.size*k.toNat)=true:=by
  rw[so hlen];exact qA0
 have hnew:List.foldl (fun x1 x2=>x1++x2) #[] (List.replicate (if its.toArray.isEmpty=true then 0 else k.toNat) its.toArray)=(List.replicate k.toNat its).flatten.toArray:=by
  have f0:∀m:Nat,List.foldl (fun x1 x2=>x1++x2) #[] (List.replicate m its.toArray)=(List.replicate m its).flatten.toArray:=fun m=>by
   have:=pN its m []
   rw[List.nil_append]at this;exact this
  rw[f0];cases its with
  | nil=>simp
  | cons a r'=>rw[zD0 (by simp)]
 refine wpAny_binaryOp_repeat_ref (T:="list") (U:="int") (by decide) ⟨_,e,rfl⟩ (fun s'=>typeIs_int s' k t) noFill_list_mul F.fills_int_mul F.slot_int_rmul repeat_list F.slot_int_index.lookup
  (call_meets F.slot_int_rmul (typeIs_int s k t) F.entry_int_rmul (F.args_int_rmul_2 _ _) (int___rmul___int_list k t l its.toArray n)
   ⟨e,rfl,⟨_,e,rfl⟩,call_meets F.slot_list_mul ⟨_,e,rfl⟩ F.entry_list_mul (F.args_list_mul_2 _ _) (AutoListH.list___mul___list_int_3 l its.toArray n k t hfit hcap hlong) ⟨e,?_⟩⟩)
 rw[hnew];exact⟨.ref _,_,I.lnew (t':=s.toks) (r.rep k.toNat) (by rw[wA,Nat.mul_comm];exact hz),rfl,q _ I.fresh⟩
end
end L2
namespace Att
open PySem PySem.W PySem.Calls PyProof.Rows
theorem lQ{P:Params}{h:Heap}:∀(ns:List Int)(vs:List Value),WellAll P h vs (ns.map WData.int)->IntsAre vs ns:=by
 intro ns
 induction ns with
 | nil=>
   intro vs w;rw[List.map_nil]at w;cases w;exact .nil
 | cons n ns ih=>
   intro vs w;rw[qF0]at w;cases w with
   | cons a b=>
     cases a;exact .cons _ _ (ih _ b)
theorem xu{l:OpenLaw}{n:Nat}(hn:l.most=some n){P:Params}{h:Heap}{args:List WData}{vals:List Value}
 (hpre:l.row.toRowW.claim.pre args=true) (hwl:WellAll P h vals args) :
 ∃a vs ns,vals=[Value.ref a]/\args=[WData.list (ns.map WData.int)]/\h.get? a=some { cls:=.type "list",data:=.seq vs.toArray }/\IntsAre vs ns/\ns.length<=n:=by
 have hsh:WShape.hasAll [] args [.list .int]=true:=(pre_splitW hpre).1;have hc:l.pre.holds [] { args:=args }=true:=(pre_splitW hpre).2;obtain⟨d,r,rfl,h1,h2⟩:=hasAllW_cons hsh;obtain rfl:=hasAllW_nil h2;obtain⟨xs,rfl,h3⟩:=hasW_list h1;obtain⟨ns,rfl⟩:=items_int h3;have hlen:ns.length<=n:=by
  unfold OpenLaw.pre at hc;have h4:(WTm.not (.lt (.lit (.int (n:Int))) (.len (.arg 0)))).holds [] { args:=[.list (ns.map .int)] }=true:=by
   have h4:=(holds_andW hc).1;rw[hn]at h4;exact h4
  have h5:=condW_of h4 (w_not (w_lt w_lit (w_len_list (w_arg rfl))));rw[zE0]at h5;refine Nat.le_of_not_lt fun q=>?_
  have q':(n:Int)<((ns.length:Nat):Int):=by omega
  first
   | (rw[decide_eq_true q']at h5;exact absurd h5 (by decide))
   | (simp at h5;omega)
 cases hwl with
 | cons w1 w2=>
   cases w2;cases w1 with
   | list ho hall=>exact⟨_,_,ns,rfl,rfl,ho,lQ ns _ hall,hlen⟩
theorem xK(l:OpenLaw)(args:List WData):l.row.toRowW.claim.post args (.bool true) args=true:=
 postW_of (r:=l.row.toRowW) (X:=(true==true))
  (show WShape.has [] (.bool true) .bool=true by first | rfl | decide | simp [WShape.has,WShape.arms,WShape.armsAll])
  (show(WTm.eq .res (.lit (.bool true))).value [] { args:=args,res:=some (.bool true),after:=args }=some (.bool (true==true))from w_eq_bool (w_res rfl) w_lit) rfl
theorem attach_call{l:OpenLaw}{n:Nat}{q:Program}{loose:List Str}{XP:(Str->Option Value)->Heap->Prop}{YP:World->Heap->Prop}{d:DefRec}
 (hn:l.most=some n) (hdf:d.params.defaults=[])
 (call:∀(w:World)(s₀ s₁:Shared)(mg mb:Str->Option Value)(fa:Addr)(o:Obj)(pm cd doc:Value)(a:Addr)(vs:List Value)(ns:List Int),
  Ground q loose [] XP w s₀ mg mb s₁.heap->YP w s₁.heap ->
  s₁.heap.get? fa=some o->o.data=.func (docDef d.name d.params d.body d.scope pm cd doc)->s₁.heap.CodeRec cd d.name->mg d.name=some (.ref fa) ->
  s₁.heap.get? a=some { cls:=.type "list",data:=.seq vs.toArray }->IntsAre vs ns->ns.length<=n->s₁.gens=#[] ->
  codeAny (model l.prog w) callerA (.call (.ref fa) ⟨[.ref a],[]⟩) (fun r s'=>r=.ok (.ret (.bool true))/\OldK s₁.heap s'.heap/\s'.os=s₁.os/\AllBare s'.gens) s₁) :
 WalkO q loose XP YP l.row.toRowW d [] (fun f vs=>PySem.call f vs):=by
 intro w s₀ s₁ mg mb G Y fa o pm cd doc dV kV ho hd hcd hD hmg hg args vals as hpre hlay hrd hwl hlo;obtain rfl:dV=.none:=Dflts.none hD hdf;obtain rfl:kV=.none:=Dflts.noKw hD;obtain⟨a,vs,ns,rfl,rfl,hobj,hints,hlen⟩:=xu hn hpre hwl;refine enter_call (codeAny_mono (call w s₀ s₁ mg mb fa o pm cd doc a vs ns G Y ho (fd_plain hd) hcd hmg hobj hints hlen hg) fun r s' hq=>?_);obtain⟨rfl,h2,h3,h4⟩:=hq;exact⟨.inl ⟨.bool true,.bool true,[],rfl,fun _=>rfl,.bool true,xK l _,fun _=>⟨List.Pairwise.nil,fun _ hm=>(nomatch hm)⟩⟩,h2,h3,h4⟩
end Att
namespace L2
open PySem PySem.Spec PyProof.Rows
theorem oV:∀{vs:List Value}{ns:List Int},IntsAre vs ns->Vals (ns.map V.int) vs
 | _,_,.nil=>.nil
 | _,_,.cons n t h=>.cons ⟨t,rfl⟩ (oV h)
def Ei(H:Hp):Prop:=∀b,H b=none∨∃o xs,H b=some (.frz o (.lst xs))
theorem An{P:Program}{w:World}{K:W.Frag}{mg mb:Str->Option Value}{CX:CXT}{k:Nat}{fa a:Addr}{fd:FuncData}{x:Str}{sp:Sp}{s₁:Shared}{vs:List Value}{ns:List Int}
 (KX:K.In s₁.heap) (hns:s₁.heap.Ns mainGlobals mg) (hb:s₁.heap.Ns builtinsNs mb) (hbb:∀x:Str,x≠"__name__" -> mb x=bootBuiltins x) (hlim:s₁.heap.NoLimit) (hg:s₁.gens=#[])
 (ha:s₁.heap.get? a=some { cls:=.type "list",data:=.seq vs.toArray }) (hi:IntsAre vs ns) (hl:ns.length<=sizeLine) (hr:Room k callerA)
 (F:∀base:Heap,K.In base->base.Ns mainGlobals mg->FnOk P w K mg base CX k fa fd [x] sp) (hbind:∀(s:Shared)(u:Value),BindsTo s fd ⟨[u],[]⟩ [(x,u)])
 (hsp:∀H:Hp,Ei H->SqL K H a (ns.map V.int)->sp [.ref a] H (fun v _=>v=.bl true) fun _ _ _=>False)
 (hCX:∀H e s',CX [] H s₁ (fun _ _ _=>False) e s'->False) :
 codeAny (model P w) callerA (.call (.ref fa) ⟨[.ref a],[]⟩) (fun r s'=>r=.ok (.ret (.bool true))/\OldK s₁.heap s'.heap/\s'.os=s₁.os/\AllBare s'.gens) s₁:=by
 have rv:=oV hi;have lenV:=hi.length;have core:∀H:Hp,Ei H->SqL K H a (ns.map V.int)->HOk P w H s₁.heap->(∀b,H b≠none->b=a)->(H a≠none->K.lookup a=none) ->
  codeAny (model P w) callerA (.call (.ref fa) ⟨[.ref a],[]⟩) (fun r s'=>r=.ok (.ret (.bool true))/\OldK s₁.heap s'.heap/\s'.os=s₁.os/\AllBare s'.gens) s₁:=by
  intro H hO hS hok hA hK;have base_of:∀{b:Addr}{o:Obj},s₁.heap.get? b=some o->H b=none->(qW s₁.heap H).get? b=some o:=fun e n=>At e n
  have noA:∀{b:Addr}{o:Obj}{es:Array DictEntry}{ep:Nat},s₁.heap.get? b=some o->o.data=.dict es ep->H b=none:=fun{b o es ep} e d=>by
   cases q:H b with
   | none=>rfl
   | some u=>
     have e':b=a:=hA b (by rw[q];simp);subst e';rw[ha]at e;cases e;have d':Data.seq vs.toArray _=Data.dict es ep:=d;cases d'
  have nsK:∀{b:Addr}{m:Str->Option Value},s₁.heap.Ns b m->(qW s₁.heap H).Ns b m:=fun{b m} ⟨o,es,ep,e,d,r⟩=>⟨o,es,ep,base_of e (noA e d),d,r⟩
  have hKb:K.In (qW s₁.heap H):=fun b o e=>base_of (KX b o e) (by
   cases q:H b with
   | none=>rfl
   | some u=>
     have e':b=a:=hA b (by rw[q];simp);subst e';rw[hK (by rw[q];simp)]at e;cases e)
  have hM:Mod K mg (qW s₁.heap H):=⟨hKb,nsK hns,⟨mb,nsK hb,hbb⟩,let⟨mc,h1,h2⟩:=hlim;⟨mc,nsK h1,h2⟩⟩
  have e0:Env0 P w K mg (qW s₁.heap H) callerA [] s₁ H:=⟨rfl,hM,fun b o e=>BT e,Nat.le_of_eq (yv _ _),trivial,fun b hb=>absurd (show b∈([]:List Addr)from hb) (by simp),hok,.of_eq hg⟩
  refine codeAny_mono ((F _ hKb (nsK hns)).run callerA [] s₁ H ⟨[.ref a],[]⟩ [.ref a] [.ref a] _ _ hr e0 (hbind s₁ (.ref a)) (.cons rfl .nil) (hsp H hO hS)) fun r s' h=>?_
  cases r with
  | error e=>exact(hCX H e s' h).elim
  | ok fl=>
    cases fl with
    | next=>exact False.elim h
    | brk=>exact False.elim h
    | cont=>exact False.elim h
    | ret u=>
      obtain⟨v,H',os,bare,un,hok',r',q⟩:=h;have q':v=.bl true:=q;subst q';obtain rfl:u=Value.bool true:=r';refine⟨rfl,OldK.of_keep fun b o e=>?_,os,bare⟩;cases q:H b with
      | none=>exact un.keep b o e q (by intro z;exact absurd (show b∈([]:List Addr)from z) (by simp)) (by simp)
      | some u=>
        rcases hO b with z | ⟨ob,xs,z⟩
        . rw[q]at z;cases z
        . have z2:=un.frzs b ob _ z;obtain⟨e1,_⟩:=hok b _ z;obtain⟨e2,_⟩:=hok' b _ z2;rw[e]at e1;cases e1;exact e2
 cases hk:K.lookup a with
 | some o=>
   have e:=KX a o hk;rw[ha]at e;cases e;refine core (fun _=>none) (fun _=>.inl rfl) (.inr ⟨_,vs.toArray,_,hk,rfl,rfl,rfl,by rw[zP0,lenV];exact hl,by simpa using rv⟩) (fun b u z=>by have z':(none:Option HO)=some u:=z;cases z') (fun b z=>absurd rfl z) fun z=>absurd rfl z
 | none=>
   refine core (fun b=>if b=a then some (.frz { cls:=.type "list",data:=.seq vs.toArray } (.lst (ns.map V.int)))else none) (fun b=>?_) (.inl (.inr ⟨{ cls:=.type "list",data:=.seq vs.toArray },zF0 rfl⟩)) (fun b u z=>?_) (fun b z=>?_) fun _=>hk
   . by_cases hb:b=a
     . exact .inr ⟨_,_,zF0 hb⟩
     . exact .inl (zD0 hb)
   . by_cases hb:b=a
     . have z':=(zF0 hb).symm.trans z;cases z';subst hb;exact⟨ha,by rw[zE0];exact hl,vs,_,rv,ha⟩
     . have z':=(zD0 hb).symm.trans z;cases z'
   . by_cases hb:b=a
     . exact hb
     . exact absurd (zD0 hb) z
theorem walk_of{l:PySem.W.OpenLaw}{n k:Nat}{q:Program}{loose:List Str}{XP:(Str->Option Value)->Heap->Prop}{YP:World->Heap->Prop}{d:DefRec}{K:Params->PySem.W.Frag}{CX:World->CXT}{sp:World->Sp}{x:Str}
 (hn:l.most=some n) (hn2:n<=sizeLine) (hdf:d.params.defaults=[]) (hr:Room k callerA)
 (hY:∀(w:World)(h:Heap),YP w h->(K w.params).In h)
 (F:∀(w:World)(mg:Str->Option Value)(fa:Addr)(h:Heap),(K w.params).In h->h.Ns mainGlobals mg->mg d.name=some (.ref fa) ->
  ∃ fd:FuncData,(∀(s:Shared)(u:Value),BindsTo s fd ⟨[u],[]⟩ [(x,u)])/\
   ∀base:Heap,(K w.params).In base->base.Ns mainGlobals mg->FnOk l.prog w (K w.params) mg base (CX w) k fa fd [x] (sp w))
 (hsp:∀(w:World)(H:Hp)(a:Addr)(ns:List Int),ns.length<=n->Ei H->SqL (K w.params) H a (ns.map V.int)->sp w [.ref a] H (fun v _=>v=.bl true) fun _ _ _=>False)
 (hCX:∀(w:World)(H:Hp)(s:Shared)(e:Value)(s':Shared),CX w [] H s (fun _ _ _=>False) e s'->False) :
 PySem.W.WalkO q loose XP YP l.row.toRowW d [] (fun f vs=>PySem.call f vs):=by
 refine Att.attach_call hn hdf fun w s₀ s₁ mg mb fa o pm cd doc a vs ns G Y ho hd hcd hmg hobj hints hlen hg=>?_
 have KX:=hY w _ Y;obtain⟨fd,hb,hF⟩:=F w mg fa _ KX G.T.g hmg;exact An KX G.T.g G.T.b G.T.builtins G.T.nolimit hg hobj hints (zX0 hlen hn2) hr hF hb (fun H hO hS=>hsp w H a ns hlen hO hS) fun H e s'=>hCX w H s₁ e s'
end L2
/- THE LAST THEOREM (shape;LID,My.* are yours):
 My.Adr: a structure of the addresses that your layer names (classes,functions);My.Txt K t: a structure (Prop) of the equations over K;
 My.txt_mk:{K} {implicit addresses ..} (e1:nsIn K mainGlobals "law"=some (some (.ref f))) (e2:K.lookup f=some ⟨oc,od,.func (fnOf "law" "law" params body scope dV kV doc pm an cdv ct),sl⟩) (e3:codeIn K cdv "law"=true) ..:∃t,My.Txt K t
set_option maxRecDepth 100000 in
set_option maxHeartbeats 0 in
theorem PySem.Challenge.cw_LID_holds : PySem.Challenge.rw_LID.Holds:=by
 w_on;o_law;k_head;(case hw=>w_witness2)
 k_fill
 refine L2.walk_of (l:=PySem.Challenge.rw_LID) (n:=63) (k:=40) (x:="script") (CX:=fun w=>..) (sp:=fun _=>My.sp_law) rfl (by decide) rfl ⟨rfl,by decide,by decide⟩ (fun w h Y=>PySem.W.kIn_of Y) ?F ?S ?C
 case F=>
  intro w mg fa h KX G hmg;have T:∃t,My.Txt (L2.KOf KX) t:=by
   dsimp only [L2.KOf]                          -- K must stand as «<heap const> w.params» for k_is
   refine' My.txt_mk ?e1 ?e2 ?e3 ..
   (case e1=>PySem.W.k_is)                    -- in the order: a name -> its address -> its object -> its parts
   (case e2=>PySem.W.k_is)
   ..
  obtain⟨t,T⟩:=T;have e0:=hmg.symm.trans (PySem.W.mg_of KX G T.law);cases e0                                       -- fa is the law's own address;exact⟨_,fun s u=>.of_eq rfl,fun base kb nb=>My.law_fn T kb nb⟩     -- if «.of_eq rfl» comes too early: refine' ⟨_,?b,fun base kb nb=>My.law_fn T kb nb⟩;exact fun s u=>.of_eq rfl
 case S=>exact fun w H a ns hl hO hS=>..
 case C=>exact ..
(the tactic k_is has no namespace: write k_is) -/
namespace L2
open PySem PySem.Spec PyProof.Rows
def cu(s:Stmt)(j:Nat):Stmt:=match s with
 | .ClassDef _ _ _ body _ _ _ _ _ _ _=>body.getD j (.Pass ⟨0,0,0,0⟩)
 | _=>.Pass ⟨0,0,0,0⟩
def cP(s:Stmt):Arguments:=match s with
 | .FunctionDef _ a _ _ _ _ _ _ _ _=>a
 | _=>{ posonlyargs:=[],args:=[],vararg:=none,kwonlyargs:=[],kw_defaults:=[],kwarg:=none,defaults:=[] }
def bP(s:Stmt):List Stmt:=match s with
 | .FunctionDef _ _ b _ _ _ _ _ _ _=>b
 | _=>[]
def ak(s:Stmt):Scope:=match s with
 | .FunctionDef _ _ _ _ _ _ sc _ _ _=>sc
 | _=>{ kind:=.function,names:=[],isGenerator:=false,isCoroutine:=false }
abbrev CX0:CXT:=fun _ _ _ _ _ _=>False
abbrev E0:XK:=fun _ _ _=>False
theorem cH{X:Cx}:gu CX0 X E0:=fun _ _ _ _ _ _ _ h=>h.elim
structure Fun(K:W.Frag)(x qual:Str)(st:Stmt)(f:Addr)(fd:FuncData):Prop where
 ex:∃(oc:Value)(od:Option Addr)(kV doc pm:Value)(an:Option Addr)(cdv ct:Value)(osl:Array (Option Value)),
  fd=PySem.W.fnOf x qual (cP st) (bP st) (ak st) .none kV doc pm an cdv ct/\K.lookup f=some ⟨oc,od,.func fd,osl⟩/\PySem.W.codeIn K cdv qual=true
 kp:PySem.W.keepIn K (.ref f)=true
section
variable {P:Program} {w:World} {K:W.Frag} {mg:Str->Option Value} {base:Heap}
theorem Fun.ok{x qual:Str}{st:Stmt}{f:Addr}{fd:FuncData}{N ps:List Str}{k:Nat}{sp:Sp}(F:Fun K x qual st f fd)(S:FnScope N ps (ak st))(len:∀vs H Q E,sp vs H Q E->vs.length=ps.length)
 (hbody:∀(cdv:Value)(A:Around)(outer:List Env)(s:Shared)(H:Hp)(vs:List V)(Q:VK)(E:XK),Room k (A.deeper (envOfC qual (ak st) s.heap.objs.size f cdv))->sp vs H Q E ->
  ∃t,PSs (jy CX0 P w K mg base N qual (ak st) f cdv A outer s H E).nox (bP st) t/\t { nx:=fun _ H'=>Q .non H',rt:=Q } (start N vs) H):FnOk P w K mg base CX0 (k+1) f fd ps sp:=by
 obtain⟨oc,od,kV,doc,pm,an,cdv,ct,osl,rfl,lk,hcd⟩:=F.ex;refine Az lk hcd S len fun A outer s H vs Q E hr hsp=>?_
 obtain⟨t,h,q⟩:=hbody cdv A outer s H vs Q E hr hsp;exact⟨t,h.nox,q⟩
theorem Fun.binds{x qual:Str}{st:Stmt}{f:Addr}{fd:FuncData}{ps:List Str}(F:Fun K x qual st f fd)
 (h:∀(kV doc pm:Value)(an:Option Addr)(cdv ct:Value)(us:List Value),us.length=ps.length->bindArgs (PySem.W.fnOf x qual (cP st) (bP st) (ak st) .none kV doc pm an cdv ct) ⟨us,[]⟩=pure (ps.zip us)):Binds K fd ps []:=by
 obtain⟨oc,od,kV,doc,pm,an,cdv,ct,osl,rfl,lk,hcd⟩:=F.ex;exact .all (h kV doc pm an cdv ct)
theorem aF{x qual:Str}{st:Stmt}{f:Addr}{oc:Value}{od an:Option Addr}{osl:Array (Option Value)}{kV doc pm cdv ct:Value}(l:K.lookup f=some ⟨oc,od,.func (PySem.W.fnOf x qual (cP st) (bP st) (ak st) .none kV doc pm an cdv ct),osl⟩)
 (c:PySem.W.codeIn K cdv qual=true) (k:PySem.W.keepIn K (.ref f)=true):Fun K x qual st f (PySem.W.fnOf x qual (cP st) (bP st) (ak st) .none kV doc pm an cdv ct):=⟨⟨oc,od,kV,doc,pm,an,cdv,ct,osl,rfl,l,c⟩,k⟩
end
theorem hu_of{A:Around}{k:Nat}(hr:Room k A):A.units+1<cLine:=Nat.lt_of_le_of_lt (Nat.add_le_add_left (by decide:1<=64) _) hr.units
theorem aK{n:Nat}(h:n<=1000):n<sizeLine:=Nat.lt_of_le_of_lt h (by decide)
section
variable {X:Cx}
theorem pv (i:Nat) {x:Str} {pos:Pos} (hN:X.N[i]?=some x:=by rfl) (hv:Vis X.env.scope x:=by first | exact Or.inl rfl | exact Or.inr (Or.inl rfl) | exact Or.inr (Or.inr rfl)) (hd:(x==("__debug__":Str))=false:=by decide)
 (hcd:(x==("__classdict__":Str))=false:=by decide):PE X (.Name x pos) (Bh i):=Dv hN hv hd hcd
end
theorem eJ{A B:Prop}(h:B):if false=true then A else B:=by
 rw[zD0 qA0];exact h
theorem fE{A B:Prop}(h:A):if true=true then A else B:=by
 rw[zF0 rfl];exact h
theorem lP{c A B:Prop}[Decidable c](h1:c->A)(h2:¬ c->B):if c then A else B:=by
 by_cases h:c
 . rw[zF0 h];exact h1 h
 . rw[zD0 h];exact h2 h
theorem eU{c A B:Prop}[Decidable c](hc:c)(h:B):if(!decide c)=true then A else B:=by
 rw[decide_eq_true hc];exact eJ h
def Same(H H':Hp):Prop:=∀b o,H b=some o->H' b=some o
theorem Same.refl(H:Hp):Same H H:=fun _ _ h=>h
theorem Same.trans{H H1 H2:Hp}(a:Same H H1)(b:Same H1 H2):Same H H2:=fun c o h=>b c o (a c o h)
theorem Same.free{H H':Hp}(e:Same H H'){l:Addr}(h:H' l=Option.none):H l=Option.none:=by
 cases q:H l with
 | none=>rfl
 | some o=>
   rw[e l o q]at h;cases h
theorem Same.seq{K:W.Frag}{H H':Hp}{a:Addr}{xs:List V}(e:Same H H')(h:SqL K H a xs):SqL K H' a xs:=by
 rcases h with(h | ⟨o,h⟩) | h
 . exact .inl (.inl (e _ _ h))
 . exact .inl (.inr ⟨o,e _ _ h⟩)
 . exact .inr h
end L2
set_option maxHeartbeats 4000000
namespace L2
open PySem PySem.Spec PyProof.Rows
section
variable {X:Cx}
theorem lG:fh X (.builtin "isinstance") (fun xs H Q=>∃x t n b,xs=[x,.ty n]/\TyOf X.K H x t/\PySem.W.kitOne X.K t (.type n)=some b/\Q (.bl b) H):=by
 intro pins s σ H xs us Q I r h;obtain⟨x,t,n,b,rfl,ty,e,q⟩:=h;obtain⟨u,w',rfl,r1,r2⟩:=Cp r;cases r2;exact yt I r1 ty e (fun tk=>⟨.bl b,H,I.tok tk,rfl,q⟩)
theorem sG(K:W.Frag)(n:String):PySem.W.kitOne K (.type n) (.type n)=some true:=by
 unfold PySem.W.kitOne;rw[zF0 (by simp)]
theorem qR (K:W.Frag):PySem.W.kitOne K (.type "int") (.type "bool")=some false:=by
 show(if((Value.type "int"==Value.type "bool")=true)then some true else if PySem.W.kitMeta "bool"=true then((fastBuiltinMro "int").map (·.contains (.type "bool")))else none)=some false;decide
def CDivL(_ j:Int):Prop:=0<j/\j<2 ^ 63
theorem zV:OpR X (binaryOp .FloorDiv) (rI CDivL fun i j=>.int (i / j)):=opI fun i j _ _ _ _ _ hc q=>by
 have e:Int.fdiv i j=i / j:=Int.fdiv_eq_ediv_of_nonneg i (Int.le_of_lt hc.1);rw[←e]at q;refine floordiv_int (by have:=hc.1;omega) q (.inl (PyProof.noPylong_of_log2 ?_));have h1:=hc.1;have h2:=hc.2;have h3:j.natAbs<2 ^ 63:=by omega
 have h4:=(Nat.log2_lt (n:=j.natAbs) (k:=63) (by omega)).mpr h3;omega
end
theorem hU:bootBuiltins "int"=some (.type "int"):=by decide
theorem vx:bootBuiltins "bool"=some (.type "bool"):=by decide
theorem vw:bootBuiltins "list"=some (.type "list"):=by decide
theorem bX:bootBuiltins "tuple"=some (.type "tuple"):=by decide
theorem oB:bootBuiltins "reversed"=some (.type "reversed"):=by decide
structure Cal(P:Program)(w:World)(K:W.Frag)(mg:Str->Option Value)(base:Heap)(n:Nat)(x:Str)(ps:List Str)(sp:Sp):Prop where
 ex:∃(f:Addr)(fd:FuncData),FnOk P w K mg base CX0 n f fd ps sp/\Binds K fd ps []/\PySem.W.keepIn K (.ref f)=true/\mg x=some (.ref f)
theorem al{X:Cx}{n k:Nat}{x:Str}{ps:List Str}{sp:Sp}{e:Expr}{es:List Expr}{t:TA}{p pos:Pos}(C:Cal X.prog X.w X.K X.mg X.base n x ps sp)(hr:Room k X.A)(hk:n<=k)(hg:Gl X x)
 (ha:PA X (e::es) t) (hdb:(x==("__debug__":Str))=false:=by decide) (he:starEach (e::es) X.env=(false,eval e X.env)::starEach es X.env:=by rfl) (hpl:(backTo pos (starEach es X.env)).any (·.1)=false:=by rfl) :
 PE X (.Call (.Name x p) (e::es) [] pos) (vJ sp [] E0 t):=by
 obtain⟨f,fd,F,b,kp,m⟩:=C.ex;exact BK F (hr.mono hk) hg m kp b .nil cH ha hdb he hpl
theorem Cal.of{P:Program}{w:World}{K:W.Frag}{mg:Str->Option Value}{base:Heap}{n:Nat}{x qual:Str}{ps:List Str}{sp:Sp}{st:Stmt}{f:Addr}{fd:FuncData}(F:Fun K x qual st f fd)(O:FnOk P w K mg base CX0 n f fd ps sp)(m:mg x=some (.ref f))
 (h:∀(kV doc pm:Value)(an:Option Addr)(cdv ct:Value)(us:List Value),us.length=ps.length->bindArgs (PySem.W.fnOf x qual (cP st) (bP st) (ak st) .none kV doc pm an cdv ct) ⟨us,[]⟩=pure (ps.zip us)):Cal P w K mg base n x ps sp:=
 ⟨f,fd,O,F.binds h,F.kp,m⟩
theorem iteN{c A B:Prop}[Decidable c](hc:¬ c)(h:A):if(!decide c)=true then A else B:=by
 rw[decide_eq_false hc];exact fE h
theorem cg{c A B:Prop}[Decidable c](hc:c)(h:A):if decide c=true then A else B:=by
 rw[decide_eq_true hc];exact fE h
theorem ba{c A B:Prop}[Decidable c](hc:¬ c)(h:B):if decide c=true then A else B:=by
 rw[decide_eq_false hc];exact eJ h
def SameBut(f:Addr)(H H':Hp):Prop:=∀b o,b≠f->H b=some o->H' b=some o
theorem SameBut.trans{f:Addr}{H H1 H2:Hp}(a:SameBut f H H1)(b:SameBut f H1 H2):SameBut f H H2:=fun c o h e=>b c o h (a c o h e)
theorem SameBut.refl(f:Addr)(H:Hp):SameBut f H H:=fun _ _ _ h=>h
theorem zJ0{f:Addr}{H H':Hp}(h:Same H H'):SameBut f H H':=fun b o _ e=>h b o e
abbrev SameBut.of:=@zJ0
theorem SameBut.upd{f:Addr}{H:Hp}(o:HO):SameBut f H (upd H f o):=fun b u h e=>by rw[aq h];exact e
theorem zB0{H:Hp}{p:Addr}(h:H p=none)(o:HO):Same H (upd H p o):=fun b u q=>by rw[aq (ai q h)];exact q
abbrev Same.new:=@zB0
theorem Same.but{f:Addr}{H0 H H':Hp}(a:Same H0 H)(n:H0 f=none)(b:SameBut f H H'):Same H0 H':=fun c o e=>b c o (ai e n) (a c o e)
def FeedAt(H:Hp)(f:Addr):Prop:=∃own st:Int,H f=some (.lst [.int own,.int st])/\0<=own/\0<=st/\st<=2147483646
theorem FeedAt.ne{H:Hp}{f b:Addr}(F:FeedAt H f)(h:H b=none):b≠f:=by
 obtain⟨o,s,e,_⟩:=F;intro z;subst z;rw[h]at e;cases e
theorem FeedAt.same{H H':Hp}{f:Addr}(F:FeedAt H f)(s:Same H H'):FeedAt H' f:=by
 obtain⟨o,t,e,h⟩:=F;exact⟨o,t,s _ _ e,h⟩
def dX:Sp:=fun vs H Q _=>∃(f:Addr)(m:Int),vs=[.ref f,.int m]/\FeedAt H f/\0<m/\m<2 ^ 63/\∀(d:Int)(H':Hp),0<=d->d<m->FeedAt H' f->SameBut f H H'->Q (.int d) H'
def zj(K:W.Frag):Sp:=fun vs H Q _=>∃(a:Addr)(ns:List Int)(k:Int),vs=[.ref a,.int k]/\SqL K H a (ns.map V.int)/\ns.length<=63/\0<=k/\k<1000000/\∀(p:Addr)(H':Hp),H p=none->Same H H'->FeedAt H' p->Q (.ref p) H'
def vW(K:W.Frag):Sp:=fun vs H Q _=>∃(a:Addr)(ns:List Int),vs=[.ref a]/\SqL K H a (ns.map V.int)/\ns.length<=63/\∀H',Q (.bl true) H'
theorem cL{n:Nat}(h:n<=1000):n<=sizeLine:=Nat.le_of_lt (aK h)
theorem AX{ns:List Int}{k:Int}(h0:0<=k)(h:k<(ns.length:Int)):∃v:Int,atI (ns.map V.int) k=some (.int v):=by
 have hk:k.toNat<ns.length:=by omega
 have q:atI (ns.map V.int) ((k.toNat:Nat):Int)=some (.int ns[k.toNat]):=aO (by rw[qE0,zU0 hk] <;> rfl);have ek:((k.toNat:Nat):Int)=k:=by omega
 rw[ek]at q;exact⟨_,q⟩
@[reducible] def dN (X:Cx) (N:List Str) (scope:Scope) (cl:List (Str×Addr)) (s:Shared) (H:Hp) (fp:List Addr):Cx where
 prog:=X.prog
 w:=X.w
 K:=X.K
 mg:=X.mg
 base:=X.base
 A:=X.A
 N:=N
 s₀:=s
 H₀:=H
 env:=compEnvC scope cl s.heap.objs.size X.env
 outer:=X.stack
 stack:=X.stack
 ex:=fp
 fn:=fun _=>false
 calm:=X.calm
 pn:=[]
 xe:=fun _ _=>False
structure CompScope(X:Cx)(x:Str)(N:List Str)(ix:List Nat)(scope:Scope)(cl:List (Str×Addr)):Prop where
 clos:closureFor scope X.env=pure cl
 nocell:∀y∈scope.names,y.2≠.cell
 kind:scope.kind=.function
 names:∀y∈scope.names,y.2=.local->scope.names.lookup y.1=some .local
 own:scope.names.lookup x=some .local
 nd:(x::N).Nodup
 sub:∀p∈cl,X.env.cells.lookup p.1=some p.2
 has:((relabel scope X.env).names.all fun p=>!(p.2==.cell||p.2==.free)||(cl.lookup p.1).isSome)=true
 outs:∀(j:Nat)(y:Str),N[j]?=some y->(relabel scope X.env).names.lookup y=some .cell/\∃k c,ix[j]?=some k/\X.N[k]?=some y/\cl.lookup y=some c/\X.env.scope.names.lookup y=some .cell
def outs(ix:List Nat)(σ:St):St:=ix.map fun k=>(σ[k]?).join
section
variable {X:Cx} {pins:List (Addr×Obj)} {σ:St} {x:Str} {N:List Str} {ix:List Nat} {scope:Scope} {cl:List (Str×Addr)} {fp:List Addr} {H3:Hp} {s3:Shared}
theorem CompScope.cells(S:CompScope X x N ix scope cl){y:Str}{c:Addr}(h:cl.lookup y=some c):X.env.cells.lookup y=some c:=S.sub _ (PySem.mem_of_lookup h)
theorem mx(S:CompScope X x N ix scope cl)(I3:Inv X pins σ H3 s3)(hf:∀b∈fp,hZ X pins H3 b)(hlt:∀b∈fp,b<s3.heap.objs.size):(dN X (x::N) scope cl s3 H3 fp).Ok where
 mod:=I3.ok.mod
 kind:=S.kind
 glob:=I3.ok.glob
 blt:=I3.ok.blt
 above:=zI0 _
 inj:=fun y z c h1 h2=>I3.ok.inj y z c (S.cells h1) (S.cells h2)
 has:=fun y hy=>by
  have q:=List.all_eq_true.mp S.has;have hy:(relabel scope X.env).names.lookup y=some .cell∨(relabel scope X.env).names.lookup y=some .free:=hy;have z:∀k:NameKind,(k==.cell||k==.free)=true->(relabel scope X.env).names.lookup y=some k->∃c,cl.lookup y=some c:=fun k hk e=>by
   have r:=q _ (PySem.mem_of_lookup e);rw[hk]at r;exact Option.isSome_iff_exists.mp (by simpa using r)
  rcases hy with e | e
  . exact z _ (by rfl) e
  . exact z _ (by rfl) e
 cab:=fun _ _ h _=>nomatch h
 hd:=I3.ok.hd
 frames:=I3.ok.frames
 stk:=.inl rfl
 exf:=fun b hb=>⟨zS0 (hlt b hb),fun y c e=>(hf b hb).2.2.2.2.1 y c (S.cells e)⟩
 bs:=fun b o e=>I3.bs b o e
 bsz:=zX0 I3.ok.bsz I3.sz
 noex:=fun b o e hb=>by
  rcases(hf b hb).2.2.2.1 with z | z
  . exact I3.ok.noex b o e z
  . exact absurd (qH0 (zM0 e) (zX0 I3.ok.bsz z)) (qQ0 _)
 exfs:=fun b hb z=>by
  rcases zY0 (I3.stkSub b z)with e | e
  . exact(hf b hb).2.1 e
  . exact(hf b hb).2.2.1 e
 funs:=I3.stack
 frf:=I3.stkFree
theorem vi(S:CompScope X x N ix scope cl)(I3:Inv X pins σ H3 s3)(hf:∀b∈fp,hZ X pins H3 b)(hlt:∀b∈fp,b<s3.heap.objs.size)(hix:ix.length=N.length){h1:Heap}{t':Nat}{m:Str->Option Value}
 (hn:h1.Ns s3.heap.objs.size m) (hk:∀b o,s3.heap.get? b=some o->h1.get? b=some o):Inv (dN X (x::N) scope cl s3 H3 fp) [] (none::outs ix σ) H3 { s3 with heap:=h1,toks:=t' } where
 ok:=mx S I3 hf hlt
 os:=rfl
 bare:=I3.bare
 base:=Un.kept hk
 loc:=by
  refine⟨m,hn,fun i y v h1' h2 h3=>?_⟩;cases i with
  | zero=>
    have h2':(some (none:Option V))=some (some v):=h2;cases h2'
  | succ j=>
    have h1'':N[j]?=some y:=h1';have h2':(outs ix σ)[j]?=some (some v):=h2;obtain⟨hr,k,c,e1,e2,e3,e4⟩:=S.outs j y h1'';unfold outs at h2';rw[qE0,e1]at h2';have h2'':(σ[k]?).join=some v:=zO0 h2';have e5:σ[k]?=some (some v):=by
     cases q:σ[k]? with
     | none=>rw[q]at h2'';cases h2''
     | some o=>rw[q]at h2'';exact congrArg some h2''
    obtain⟨m0,_,hl⟩:=I3.loc;obtain⟨u,r,l⟩:=hl k y v e2 e5 (.inr (.inl e4));refine⟨u,r,.inr ⟨.inl hr,c,e3,?_⟩⟩;rcases l with⟨kk,_⟩ | ⟨_,c',ec,z⟩
    . have kk':X.env.scope.names.lookup y=some .local:=kk;rw[e4]at kk';cases kk'
    . rw[S.cells e3]at ec;cases ec;obtain⟨o,ho,hd⟩:=z;exact⟨o,hk _ _ ho,hd⟩
 cell:=fun y c e=>by
  obtain⟨v,o,ho,hd⟩:=I3.cell y c (S.cells e);exact⟨v,o,hk _ _ ho,hd⟩
 free:=I3.hok.fresh (zI0 _)
 freeC:=fun y c e=>I3.freeC y c (S.cells e)
 pin:=fun p hp=>absurd (show p∈([]:List (Addr×Obj))from hp) (by simp)
 hok:=I3.hok.kept hk
 len:=by
  show(none::outs ix σ).length=(x::N).length;rw[zV0,zV0];unfold outs;rw[zE0,hix]
theorem yI(I3:Inv X pins σ H3 s3)(hf:∀b∈fp,hZ X pins H3 b){σ':St}{H':Hp}{s':Shared}{h'':Heap}{N':List Str}(J:Inv (dN X N' scope cl s3 H3 fp) [] σ' H' s')(hb:Heap.SameBut s3.heap.objs.size s'.heap h'') :
 Inv X pins σ H' { s' with heap:=h'' }:=by
 have ne:∀b o,s3.heap.get? b=some o->b≠s3.heap.objs.size:=fun b o e=>zS0 (zM0 e)
 have B:Un (frs X.stack) fp H3 H' s3.heap s'.heap:=J.base;refine I3.call' (s':={ s' with heap:=h'' }) (ch:=fp) J.os ⟨fun b o e n h1 h2=>(hb.2 b (ne b o e)).trans (B.keep b o e n h1 h2),fun b o e n h1 h2=>?_,B.free,fun b o e h2=>?_,B.tups,B.frzs,B.tbls⟩ (fun b ob e=>?_) J.bare (fun b z=>?_)
 . obtain⟨sl,q⟩:=B.slot b o e n h1 h2;exact⟨sl,(hb.2 b (ne b o e)).trans q⟩
 . obtain⟨o',q⟩:=B.there b o e h2;exact⟨o',(hb.2 b (ne b o e)).trans q⟩
 . have fr:H' s3.heap.objs.size=none:=J.free;refine(J.hok b ob e).stay (fun c w' hc q=>(hb.2 c ?_).trans q) (fun _ q=>q) fun _ _ q=>q
   rintro rfl;rcases hc with rfl | hc
   . rw[fr]at e;cases e
   . rw[fr]at hc;cases hc
 . obtain⟨_,h2,_,h4,h5,h6⟩:=hf b z;exact⟨h4,h2,h5,h6⟩
end
abbrev TBl:=St->Hp->(Hp->Prop)->VK->Prop
def PB(X:Cx)(ifs:List Expr)(elt:Expr)(tb:TBl):Prop:=
 ∀(pins:List (Addr×Obj))(s:Shared)(σ:St)(H:Hp)(skip:Hp->Prop)(keep:VK),Inv X pins σ H s->tb σ H skip keep ->
  wpAny (model X.prog X.w) X.A (forIn ifs true fun c r=>if r=true then do let ok ←isTrue c X.env (eval c X.env);pure (ForInStep.yield ok)else pure (ForInStep.yield r))
   (fun ok s3=>if ok=true then wpAny (model X.prog X.w) X.A (eval elt X.env) (EP X pins σ keep) X.xe s3 else ∃H',Inv X pins σ H' s3/\skip H') X.xe s
def tB0(te:TE):TBl:=fun σ H _ keep=>te σ H keep
theorem bZ{X:Cx}{elt:Expr}{te:TE}(he:PE X elt te):PB X [] elt (tB0 te):=by
 intro pins s σ H skip keep I h;refine wpAny_tests_nil ?_;rw[zF0 rfl];exact he pins s σ H keep I h
def oG(J:It)(D:Addr)(ix:List Nat)(tb:TBl)(σ:St)(H:Hp)(Q:VK):Prop:=∃W:Nat->Nat->Hp->Prop,(∃m,W 0 m (upd H D (.lst [])))/\∀i m H2,W i m H2 ->
 (J.stop i H2/\Q (.ref D) H2)∨(J.go i H2/\∀y H3,J.yld i H2 y H3->tb (some y::outs ix σ) H3 (fun H4=>∃m',m'<m/\W (i+1) m' H4)
  fun z H4=>∃ys,H4 D=some (.lst ys)/\ys.length<sizeLine/\∃m',m'<m/\W (i+1) m' (upd H4 D (.lst (ys++[z]))))
def tR(wi:TI)(ix:List Nat)(tb:TBl):TE:=fun σ H Q=>wi σ H fun J H1=>∀D,H1 D=none->oG J D ix tb σ H1 Q
section
variable {prog:Program} {w:World} {A:Around} {E:Value->Shared->Prop} {R:Result->Shared->Prop} {s:Shared}
theorem lF{elt target iter:Expr}{ifs:List Expr}{scope:Scope}{pos:Pos}{it acc:Value}{env:Env}(I:Nat->Shared->Prop)
 (turn:∀n s,I n s->wpAny (model prog w) A (pyNext it) (fun r s1=>match r with
  | none=>R (.ok .next) s1
  | some v=>wpAny (model prog w) A (letOwnedTupleGo target it v) (fun _ s1'=>wpAny (model prog w) A (assign target env v) (fun _ s2=>
   wpAny (model prog w) A (forIn ifs true fun c r=>if r=true then do let ok ←isTrue c env (eval c env);pure (ForInStep.yield ok)else pure (ForInStep.yield r)) (fun ok s3=>
    if ok=true then wpAny (model prog w) A (eval elt env) (fun x s4=>
     wpAny (model prog w) A (call (.builtin "list.append") [acc,x]) (fun _ s5=>∃m,m<n/\I m s5) (fun _ _=>False) s4) (fun _ _=>False) s3
    else ∃m,m<n/\I m s3) (fun _ _=>False) s2) (fun _ _=>False) s1') (fun _ _=>False) s1) (fun _ _=>False) s)
 (n:Nat) (h:I n s) :
 codeAny (model prog w) A (.compLoop (.ListComp elt [⟨target,iter,ifs,0⟩] scope pos) 0 it acc env) R s:=by
 have up:∀{α:Type}{t:Sem α}{Q Q':α->Shared->Prop}{E':Value->Shared->Prop}{s:Shared},wpAny (model prog w) A t Q (fun _ _=>False) s->(∀a s,Q a s->Q' a s)->wpAny (model prog w) A t Q' E' s:=
  fun h q=>wpAny_mono h q fun _ _ f=>f.elim
 refine codeAny_loop rfl I (fun n s hI=>?_) n h;show wpAny _ A ((compTurn (.ListComp elt [⟨target,iter,ifs,0⟩] scope pos) 0 it acc env).onRaise (fun x=>do noteFrame x env;theTreesLotGoes x)) _ _ s;refine wpAny_noted ?_;rw[compTurn_list];refine zA0 (wpAny_standAt (zA0 (up (turn n s hI) fun r s1 h1=>?_)));cases r with
 | none=>exact zH0 h1
 | some v=>
   refine zA0 (up h1 fun _ s1' h1'=>?_);refine zA0 (up h1' fun _ s2 h2=>zA0 (up h2 fun ok s3 h3=>?_));cases ok with
   | false=>exact zH0 ⟨rfl,h3⟩
   | true=>
     exact zA0 (zA0 (up h3 fun x s4 h4=>zA0 (up h4 fun _ s5 h5=>zH0 (zH0 ⟨rfl,h5⟩))))
end
structure Apart(X:Cx)(pins:List (Addr×Obj))(H:Hp)(C:Addr):Prop where
 fr:H C=none
 lo:C≠X.env.locals
 sz:X.s₀.heap.objs.size<=C
 ce:∀y c,X.env.cells.lookup y=some c->c≠C
 pi:∀p∈X.pn++pins,p.1≠C
theorem Apart.turn{X:Cx}{pins:List (Addr×Obj)}{σ:St}{H:Hp}{C:Addr}{s:Shared}{h':Heap}(a:Apart X pins H C)(I:Inv X pins σ H s)(hs:Heap.SameBut C s.heap h'):Inv X pins σ H { s with heap:=h' }:=
 I.turned (t':=s.toks) (fun b o ne e=>(hs.2 b ne).trans e) a.fr a.lo (.inr a.sz) a.ce a.pi
section
variable {X:Cx} {x:Str} {N:List Str} {ix:List Nat} {scope:Scope} {cl:List (Str×Addr)} {elt iter:Expr} {ifs:List Expr} {px pos:Pos} {wi:TI} {tb:TBl}
theorem sS(hc:X.calm=true)(S:CompScope X x N ix scope cl)(hix:ix.length=N.length)(hb:∀s3 H3 fp,PB (dN X (x::N) scope cl s3 H3 fp) ifs elt tb)
 {pins:List (Addr×Obj)} {s2:Shared} {σ:St} {H2:Hp} {Q:VK} {it:Addr} {fp:List Addr} {tn:Nat->Heap->Prop} {J:It} {RR:Value->Addr->Result->Shared->Prop} {E:Value->Shared->Prop}
 (I2:Inv X pins σ H2 s2) (T:Turn X.prog X.w X.K (.Name x px) J fp it tn) (st2:tn 0 s2.heap) (f2:∀b∈fp,hZ X pins H2 b)
 (h:∀D,H2 D=none->∃W:Nat->Nat->Hp->Prop,(∃m,W 0 m (upd H2 D (.lst [])))/\∀i m H3,W i m H3 ->
  (J.stop i H3/\Q (.ref D) H3)∨(J.go i H3/\∀y H4,J.yld i H3 y H4->tb (some y::outs ix σ) H4 (fun H5=>∃m',m'<m/\W (i+1) m' H5)
   fun z H5=>∃ys,H5 D=some (.lst ys)/\ys.length<sizeLine/\∃m',m'<m/\W (i+1) m' (upd H5 D (.lst (ys++[z])))))
 (hRR:∀(D C:Addr)(H':Hp)(s':Shared)(m:Str->Option Value),s'.heap.Ns C m->Apart X pins H' C->Inv X pins σ H' s'->Q (.ref D) H'->RR (.ref D) C (.ok .next) s') :
 wpAny (model X.prog X.w) X.A (newList []) (fun acc s3=>wpAny (model X.prog X.w) X.A (newFunctionEnv scope X.env.globals cl [] X.env.qual none .none (some X.env)) (fun cenv s4=>
  codeAny (model X.prog X.w) X.A (.compStart (.ListComp elt [⟨.Name x px,iter,ifs,0⟩] scope pos) 0 (.ref it) acc { cenv with scope:=relabel scope X.env }) (RR acc cenv.locals) s4) E s3) E s2:=by
 refine wpAny_newObj_type (wpAny_newFunctionEnv S.nocell (by intro y hy;simp at hy) (fun h1 hns1 hsb1=>?_) S.kind)
 dsimp only at hns1 hsb1 ⊢
 have I3:Inv X pins σ (upd H2 s2.heap.objs.size (.lst [])) { s2 with heap:=s2.heap.push { cls:=.type "list",dict:=none,data:=.seq ([]:List Value).toArray } }:=I2.lnew (its:=[]) (ys:=[]) (t':=s2.toks) .nil (zN0 _);have hD:H2 s2.heap.objs.size=none:=I2.fresh;obtain⟨W,⟨m0,w0⟩,turn⟩:=h s2.heap.objs.size hD;have hltF:∀b∈fp,b<s2.heap.objs.size:=fun b hb=>by
  obtain⟨o,e,_⟩:=T.obj 0 _ st2 b hb;exact zM0 e
 generalize hs3:({ s2 with heap:=s2.heap.push { cls:=.type "list",dict:=none,data:=.seq ([]:List Value).toArray } }:Shared)=s3 at I3;have eh:s2.heap.push { cls:=.type "list",dict:=none,data:=.seq ([]:List Value).toArray }=s3.heap:=by rw[←hs3]
 have et:s2.toks=s3.toks:=by rw[←hs3]
 rw[eh]at hns1 hsb1 ⊢;have sz3:s3.heap.objs.size=s2.heap.objs.size+1:=by rw[←eh,Heap.size_push]
 have hlt3:∀b∈fp,b<s3.heap.objs.size:=fun b hb=>qH0 (hltF b hb) (by rw[sz3];exact qO0 _)
 have f3:∀b∈fp,hZ X pins (upd H2 s2.heap.objs.size (.lst [])) b:=fun b hb=>by
  obtain⟨q1,q2⟩:=f2 b hb;exact⟨by rw[aq (zS0 (hltF b hb))];exact q1,q2⟩
 have up:∀b o,s3.heap.get? b=some o->h1.get? b=some o:=fun b o e=>hsb1.extBut b o (zS0 (zM0 e)) (zL0 _ e)
 have old:∀b o,s2.heap.get? b=some o->h1.get? b=some o:=fun b o e=>up b o (by rw[←eh];exact zL0 _ e)
 have es:({ s2 with heap:=h1,toks:=s2.toks+([]:List (Str×Value)).length }:Shared)={ s3 with heap:=h1,toks:=s2.toks+([]:List (Str×Value)).length }:=by rw[←hs3]
 rw [es];have I4:Inv (dN X (x::N) scope cl s3 (upd H2 s2.heap.objs.size (.lst [])) fp) [] (none::outs ix σ) (upd H2 s2.heap.objs.size (.lst [])) { s3 with heap:=h1,toks:=s2.toks+([]:List (Str×Value)).length }:=
  vi S I3 f3 hlt3 hix hns1 up
 have st4:tn 0 h1:=T.keep 0 _ _ st2 fun b _ o e=>old b o e
 have loop:codeAny (model X.prog X.w) X.A (.compLoop (.ListComp elt [⟨.Name x px,iter,ifs,0⟩] scope pos) 0 (.ref it) (.ref s2.heap.objs.size) (compEnvC scope cl s3.heap.objs.size X.env)) (RR (.ref s2.heap.objs.size) s3.heap.objs.size)
  { s3 with heap:=h1,toks:=s2.toks+([]:List (Str×Value)).length }:=by
  refine lF (fun n s'=>∃i v0 H',Inv (dN X (x::N) scope cl s3 (upd H2 s2.heap.objs.size (.lst [])) fp) [] (v0::outs ix σ) H' s'/\tn i s'.heap/\(∀b∈fp,H' b=none)/\W i n H') ?_ m0 ⟨0,none,_,I4,st4,fun b hb=>(f3 b hb).1,w0⟩;rintro n s5 ⟨i,v0,H5,I5,st5,fr5,w5⟩;have stat:∀{H':Hp},(∀b∈fp,H' b=none)->∀b∈fp,hZ (dN X (x::N) scope cl s3 (upd H2 s2.heap.objs.size (.lst [])) fp) [] H' b:=fun hn b hb=>
   ⟨hn b hb,((mx S I3 f3 hlt3).exf b hb).1,(mx S I3 f3 hlt3).exfs b hb,.inl hb,((mx S I3 f3 hlt3).exf b hb).2,fun p hp=>absurd (show p∈([]:List (Addr×Obj))from hp) (by simp)⟩
  rcases turn i n H5 w5 with⟨stop,qn⟩ | ⟨go,step⟩
  . refine thn (T.done (dN X (x::N) scope cl s3 (upd H2 s2.heap.objs.size (.lst [])) fp) rfl rfl rfl hc i [] s5 _ H5 _ I5 (stat fr5) st5 stop) fun r s6 ⟨hr,I6⟩=>?_
    subst hr;obtain⟨m6,hn6,_⟩:=I6.loc;exact hRR _ _ H5 s6 m6 hn6 ⟨I6.free,Ne.symm (zS0 I3.lt),I3.sz,fun y c e z=>by
     obtain⟨v,q⟩:=I3.cell y c e;exact absurd q.lt (by rw[z];exact qQ0 _),fun p hp z=>absurd (zM0 (I3.pin p hp).1) (by rw[z];exact qQ0 _)⟩ (yI I3 f3 I6 (Heap.SameBut.refl _ _)) qn
  . refine thn (T.item (dN X (x::N) scope cl s3 (upd H2 s2.heap.objs.size (.lst [])) fp) rfl rfl rfl hc i [] s5 _ H5 _ I5 (stat fr5) st5 go) fun r s6 ⟨u,hr,h6⟩=>?_
    subst hr;refine thn h6 fun _ s7 ⟨y,H7,I7,r7,y7,st7,fr7⟩=>?_
    have I7':=I7.pinned (stat fr7) (T.obj _ _ st7);refine wpAny_assign_Name (eR (i:=0) I7' S.nd rfl (.inl (lookup_relabel_local S.own)) r7 (fun s8 I8=>?_) (.inr (lookup_relabel_local S.own)));have I8':Inv (dN X (x::N) scope cl s3 (upd H2 s2.heap.objs.size (.lst [])) fp) ([]++iN fp s7.heap) (some y::outs ix σ) H7 s8:=I8;have again:∀{v9:Option V}{H9:Hp}{s9:Shared},Inv (dN X (x::N) scope cl s3 (upd H2 s2.heap.objs.size (.lst [])) fp) ([]++iN fp s7.heap) (v9::outs ix σ) H9 s9->(∃m',m'<n/\W (i+1) m' H9) ->
     ∃m,m<n/\∃i v0 H',Inv (dN X (x::N) scope cl s3 (upd H2 s2.heap.objs.size (.lst [])) fp) [] (v0::outs ix σ) H' s9/\tn i s9.heap/\(∀b∈fp,H' b=none)/\W i m H':=fun{v9 H9 s9} I9 ⟨m',hm,w9⟩=>by
     refine⟨m',hm,i+1,v9,H9,I9.unpinned,T.keep _ _ _ st7 fun b hb o e=>(I9.pin (b,o) (qN0 _ (qN0 _ (eG hb e)))).1,fun b hb=>?_,w9⟩;obtain⟨o,e,d⟩:=T.obj _ _ st7 b hb;exact(I9.pin (b,o) (qN0 _ (qN0 _ (eG hb e)))).2.1
    refine thn (hb s3 (upd H2 s2.heap.objs.size (.lst [])) fp _ s8 _ H7 _ _ I8' (step y H7 y7)) fun ok s9 q9=>?_
    cases ok with
    | false=>
      rw[zD0 (by decide)]at q9 ⊢;obtain⟨H9,I9,q9⟩:=q9;exact again I9 q9
    | true=>
      rw[zF0 rfl]at q9 ⊢;refine thn q9 fun u s10 ⟨z,H10,I10,r10,ys,hy,hz,q10⟩=>?_
      refine thn (gY _ s10 _ H10 (.ref s2.heap.objs.size) [z] (.ref s2.heap.objs.size) [u] (fun _ H'=>∃m',m'<n/\W (i+1) m' H') I10 rfl (.cons r10 .nil) ⟨_,ys,z,rfl,rfl,hy,hz,q10⟩) fun _ s11 ⟨_,H11,I11,_,q11⟩=>?_
      exact again I11 q11
 exact codeAny_compStart_list loop (T.self _ 0 _ _ _ st4 loop)
theorem cz(hc:X.calm=true)(S:CompScope X x N ix scope cl)(hix:ix.length=N.length)(hi:PI X (.Name x px) iter wi)(hb:∀s3 H3 fp,PB (dN X (x::N) scope cl s3 H3 fp) ifs elt tb)
 (hs:∀x,foldedSetIterable iter X.env x=pure x:=by intro _;rfl):PE X (.ListComp elt [⟨.Name x px,iter,ifs,0⟩] scope pos) (tR wi ix tb):=by
 intro pins s σ H Q I h;rw[eval_ListComp];refine wpAny_comprehension_free (use:=none) rfl hs S.clos S.kind S.names (thn (hi pins s σ H _ I h) fun xv s1 h1=>thn h1 fun itv s2 h2=>?_);obtain⟨it,fp,tn,J,H2,rfl,I2,T,st2,f2,R⟩:=h2;refine sS hc S hix hb (RR:=fun acc C=>compPost (model X.prog X.w) X.A X.xe none (EP X pins σ Q) acc C) I2 T st2 f2 R ?_;intro D C H' s' m hn ap I' q;exact⟨m,hn,fun h'' hb''=>⟨.ref D,H',ap.turn I' hb'',rfl,q⟩⟩
theorem kh{i:Nat}{y:Str}{py spos:Pos}(hN:X.N.Nodup)(hi0:X.N[i]?=some y)(hx:Loc X.env.scope y)(hc:X.calm=true)(S:CompScope X x N ix scope cl)(hix:ix.length=N.length)(hi:PI X (.Name x px) iter wi)(hb:∀s3 H3 fp,PB (dN X (x::N) scope cl s3 H3 fp) ifs elt tb)
 (hsw:swapsWith (.ListComp elt [⟨.Name x px,iter,ifs,0⟩] scope pos) (some (.Name y py)) spos.line X.env=pure true:=by rfl')
 (hs:∀x,foldedSetIterable iter X.env x=pure x:=by intro _;rfl) (hf:X.fn y=true∨X.env.scope.names.lookup y=some .local:=by first | exact .inl rfl | exact .inr rfl | assumption) :
 PS X (.Assign [.Name y py] (.ListComp elt [⟨.Name x px,iter,ifs,0⟩] scope pos) spos) (fun D σ H=>tR wi ix tb σ H fun v H'=>D.nx (σ.set i (some v)) H'):=by
 intro pins s σ H Dn I h;rw[exec_Assign_Name_used _ _ _ _ hsw];refine zA0 (wpAny_standAt (zA0 ?_));show wpAny _ X.A (do let _ ←comprehension (.ListComp elt [⟨.Name x px,iter,ifs,0⟩] scope pos) scope X.env _ (newList []) false (eval iter X.env) (some (assign (.Name y py) X.env))) _ _ s;refine zA0 (wpAny_mono (wpAny_comprehension_free (use:=some (assign (.Name y py) X.env)) (Q:=fun _ s'=>SP X pins Dn .next s') rfl hs S.clos S.kind S.names
  (thn (hi pins s σ H _ I h) fun xv s1 h1=>thn h1 fun itv s2 h2=>?_)) (fun _ s' hq=>zH0 (zH0 hq)) fun _ _ e=>e)
 obtain ⟨it,fp,tn,J,H2,rfl,I2,T,st2,f2,R⟩:=h2;refine sS hc S hix hb (RR:=fun acc C=>compPost (model X.prog X.w) X.A X.xe (some (assign (.Name y py) X.env)) (fun _ s'=>SP X pins Dn .next s') acc C) (Q:=fun v H'=>Dn.nx (σ.set i (some v)) H') I2 T st2 f2 R ?_;intro D C H' s' m hn ap I' q;show wpAny _ X.A (assign (.Name y py) X.env (.ref D)) _ _ _;refine wpAny_assign_Name (oY I' hN hi0 hx (v:=.ref D) rfl (fun s'' I'' hsb=>?_) hf);obtain⟨a,hsb,ha⟩:=hsb;have ne:C≠a:=by
  rcases ha with z | z
  . rw[z];exact ap.lo
  . exact Ne.symm (ap.ce y a z)
 exact⟨m,hn.sameBut hsb ne,fun h'' hb''=>⟨_,H',ap.turn I'' hb'',q⟩⟩
end
section
variable {X:Cx} {pins:List (Addr×Obj)} {σ:St} {H:Hp} {s:Shared} {h':Heap}
theorem Inv.turnedNew{t':Nat}{ch:List Addr}{T:Addr}{o:HO}(I:Inv X pins σ H s)(k:∀b u,b∉ch->s.heap.get? b=some u->h'.get? b=some u)(hf:∀b∈ch,hZ X pins H b)(hT:s.heap.objs.size<=T)
 (new:ObjOk X.prog X.w (upd H T o) h' T o):Inv X pins σ (upd H T o) { s with heap:=h',toks:=t' }:=by
 have nit:∀b u,H b=some u->b∉ch:=fun b u e z=>by rw[(hf b z).1]at e;cases e
 have hn:H T=none:=I.hok.fresh hT;have lt:∀b u,s.heap.get? b=some u->b≠T:=fun b u e=>zS0 (qH0 (zM0 e) hT)
 refine I.step (g':=s.gens) (d':=s.drawn) (ch:=ch) (fun b hb=>?_) (fun b u _ _ hc e _=>k b u hc e) (fun b u _ _ hc e _=>⟨u.slots,k b u hc e⟩) (fun b u _ e n=>by rw[aq (lt b u e)];exact n) (fun b u hc e=>⟨u,k b u hc e⟩)
  (fun b xs e=>by rw[aq (ai e hn)];exact e) (fun b ob u e=>by rw[aq (ai e hn)];exact e) (fun b ps e=>⟨#[],by rw[aq (ai e hn),e];simp⟩) (fun m hm=>?_) (fun b u e=>?_) I.bare
 . obtain⟨_,h2,_,h4,h5,h6⟩:=hf b hb;exact⟨h4,h2,h5,h6⟩
 . obtain⟨ob,es,ep,ho,r⟩:=hm;exact⟨ob,es,ep,k _ ob (fun z=>(hf _ z).2.1 rfl) ho,r⟩
 . by_cases hb:b=T
   . subst hb;rw[ah]at e;cases e;exact new
   . rw [aq hb]at e;refine(I.hok b u e).stay (fun c v hc q=>k c v ?_ q) (fun c q=>by rw[aq (ai q hn)];exact q) fun c xs q=>by rw[aq (ai q hn)];exact q
     rcases hc with z | z
     . rw[z];exact nit b u e
     . exact nit c _ z
theorem Inv.turnedL{t':Nat}{ch:List Addr}(I:Inv X pins σ H s)(k:∀b u,b∉ch->s.heap.get? b=some u->h'.get? b=some u)(hf:∀b∈ch,hZ X pins H b):Inv X pins σ H { s with heap:=h',toks:=t' }:=by
 have nit:∀b u,H b=some u->b∉ch:=fun b u e z=>by rw[(hf b z).1]at e;cases e
 refine I.step (g':=s.gens) (d':=s.drawn) (ch:=ch) (fun b hb=>?_) (fun b u _ _ hc e _=>k b u hc e) (fun b u _ _ hc e _=>⟨u.slots,k b u hc e⟩) (fun _ _ _ _ n=>n) (fun b u hc e=>⟨u,k b u hc e⟩)
  (fun _ _ e=>e) (fun _ _ _ e=>e) (fun b ps e=>⟨#[],by rw[e];simp⟩) (fun m hm=>?_) (fun b u e=>?_) I.bare
 . obtain⟨_,h2,_,h4,h5,h6⟩:=hf b hb;exact⟨h4,h2,h5,h6⟩
 . obtain⟨ob,es,ep,ho,r⟩:=hm;exact⟨ob,es,ep,k _ ob (fun z=>(hf _ z).2.1 rfl) ho,r⟩
 . refine (I.hok b u e).stay (fun c v hc q=>k c v ?_ q) (fun _ q=>q) fun _ _ q=>q
   rcases hc with z | z
   . rw[z];exact nit b u e
   . exact nit c _ z
end
mutual
inductive Rep(K:W.Frag)(H:Hp):V->PyData->Prop
 | non:Rep K H .non .none
 | bl (b:Bool):Rep K H (.bl b) (.bool b)
 | int (i:Int):Rep K H (.int i) (.int i)
 | str (x:Str):Rep K H (.str x) (.str x)
 | tup {a:Addr} {xs:List V} {ds:List PyData}:SqT K H a xs->RepAll K H xs ds->Rep K H (.ref a) (.tuple ds)
 | lst {a:Addr} {xs:List V} {ds:List PyData}:SqL K H a xs->RepAll K H xs ds->Rep K H (.ref a) (.list ds)
inductive RepAll(K:W.Frag)(H:Hp):List V->List PyData->Prop
 | nil:RepAll K H [] []
 | cons {x:V} {d:PyData} {xs:List V} {ds:List PyData}:Rep K H x d->RepAll K H xs ds->RepAll K H (x::xs) (d::ds)
end
section
variable {X:Cx} {pins:List (Addr×Obj)} {σ:St} {H:Hp} {s:Shared}
mutual
theorem Rep.reads(I:Inv X pins σ H s):∀{x:V}{d:PyData}{v:Value},Rep X.K H x d->RelV x v->∃as,Reads s.heap v d as
 | _,_,v,.non,r=>by cases(show v=Value.none from r);exact⟨_,Reads.none⟩
 | _,_,v,.bl b,r=>by cases(show v=Value.bool b from r);exact⟨_,Reads.bool b⟩
 | _,_,v,.int i,r=>by obtain⟨t,e⟩:=(show ∃t,v=Value.int i t from r);cases e;exact⟨_,Reads.int i t⟩
 | _,_,v,.str x,r=>by obtain⟨t,e⟩:=(show ∃t,v=Value.str x t from r);cases e;exact⟨_,Reads.str x t⟩
 | _,_,v,.tup (a:=a) h q,r=>by
   cases(show v=Value.ref a from r);obtain⟨its,rv,⟨o,ho,hc,n,hd⟩,_⟩:=I.tuple h;obtain⟨as,z⟩:=RepAll.reads I q rv;exact⟨_,reads_tuple_at ho hc hd (by simpa using z)⟩
 | _,_,v,.lst (a:=a) h q,r=>by
   cases(show v=Value.ref a from r);obtain⟨its,rv,⟨o,n,ho,hc,_,hd⟩,_⟩:=I.list h;obtain⟨as,z⟩:=RepAll.reads I q rv;exact⟨_,reads_list_at ho hc hd (by simpa using z)⟩
theorem RepAll.reads(I:Inv X pins σ H s):∀{xs:List V}{ds:List PyData}{vs:List Value},RepAll X.K H xs ds->Vals xs vs->∃as,ReadsAll s.heap vs ds as
 | _,_,_,.nil,.nil=>⟨_,ReadsAll.nil⟩
 | _,_,_,.cons h q,.cons r rs=>by
   obtain⟨as,z⟩:=Rep.reads I h r;obtain⟨bs,y⟩:=RepAll.reads I q rs;exact⟨_,ReadsAll.cons z y⟩
end
end
theorem ng{K:W.Frag}{H:Hp}:∀ns:List Int,RepAll K H (ns.map V.int) (ns.map PyData.int)
 | []=>.nil
 | n::r=>.cons (.int n) (ng r)
section
variable {X:Cx}
def rEqD(K:W.Frag):R2:=fun x y H Q=>∃d e,Rep K H x d/\Rep K H y e/\SeqAt.shaped d=true/\SeqAt.shaped e=true/\Q (.bl (PyData.eqv d e)) H
def rNeD(K:W.Frag):R2:=fun x y H Q=>∃d e,Rep K H x d/\Rep K H y e/\SeqAt.shaped d=true/\SeqAt.shaped e=true/\Q (.bl (!PyData.eqv d e)) H
theorem jH(hu:X.A.units+64<cLine):OpR X (compareOp .Eq) (rEqD X.K):=by
 intro pins s σ H x y v u Q I rx ry h;obtain⟨d,e,hd,he,sd,se,q⟩:=h;obtain⟨as,r1⟩:=Rep.reads I hd rx;obtain⟨bs,r2⟩:=Rep.reads I he ry;exact eq_dataH r1 r2 sd se hu ⟨.bl _,H,I,rfl,q⟩
theorem uA(hu:X.A.units+64<cLine):OpR X (compareOp .NotEq) (rNeD X.K):=by
 intro pins s σ H x y v u Q I rx ry h;obtain⟨d,e,hd,he,sd,se,q⟩:=h;obtain⟨as,r1⟩:=Rep.reads I hd rx;obtain⟨bs,r2⟩:=Rep.reads I he ry;exact ne_dataH r1 r2 sd se hu ⟨.bl _,H,I,rfl,q⟩
def qw(K:W.Frag):R2:=fun x y H Q=>∃a b ys,x=.ref a/\y=.ref b/\SqT K H a []/\SqT K H b ys/\Q (.ref b) H
theorem kq:OpR X (binaryOp .Add) (qw X.K):=by
 intro pins s σ H x y v u Q I rx ry h;obtain⟨a,b,ys,rfl,rfl,ha,hb,q⟩:=h;cases rx;cases ry;obtain⟨its,r1,p1,_⟩:=I.tuple ha;obtain⟨its2,r2,p2,_⟩:=I.tuple hb;obtain⟨⟨cls,dd,data,sl⟩,ho,hc,n,hd⟩:=id p1;obtain⟨⟨cls2,dd2,data2,sl2⟩,ho2,hc2,n2,hd2⟩:=id p2;simp only at hc hd hc2 hd2;subst hc hd hc2 hd2;have e:its=[]:=r1.nil_iff.mpr rfl;exact concat_meets ⟨_,ho,rfl⟩ ⟨_,ho2,rfl⟩ noFill_tuple_add seq_tuple_add PySem.F.slot_tuple_add PySem.F.entry_tuple_add (PySem.F.args_tuple_add_2 _ _)
  (tuple_addW0 a b its.toArray its2.toArray n n2 dd dd2 sl sl2 (by simp [e])) ⟨ho,ho2,⟨.ref b,H,I,rfl,q⟩⟩
end
def Nx(n i:Nat)(Pv:Nat->Hp->Prop)(H:Hp):Prop:=∃m',m'<n-i/\(m'=n-(i+1)/\i+1<=n/\Pv (i+1) H)
theorem Nx.of{n i:Nat}{Pv:Nat->Hp->Prop}{H:Hp}(h:i<n)(p:Pv (i+1) H):Nx n i Pv H:=⟨n-(i+1),by omega,rfl,h,p⟩
theorem cG{K:W.Frag}{a D:Addr}{xs:List V}{ix:List Nat}{tb:TBl}{σ:St}{H:Hp}{Q:VK}(Pv:Nat->Hp->Prop)(h0:Pv 0 (upd H D (.lst [])))(hl:∀i H,i<=xs.length->Pv i H->SqT K H a xs)
 (hs:∀i x H,xs[i]?=some x->Pv i H->tb (some x::outs ix σ) H (Nx xs.length i Pv) fun z H'=>∃ys,H' D=some (.lst ys)/\ys.length<sizeLine/\Nx xs.length i Pv (upd H' D (.lst (ys++[z])))) (hd:∀H,Pv xs.length H->Q (.ref D) H) :
 oG (Itt K a) D ix tb σ H Q:=by
 refine⟨fun i m H=>m=xs.length-i/\i<=xs.length/\Pv i H,⟨xs.length,by simp,zN0 _,h0⟩,?_⟩;rintro i m H ⟨rfl,hi,p⟩;have q:=hl i H hi p
 by_cases hlt:i<xs.length
 . refine .inr ⟨⟨xs,xs[i],q,by simp [hlt]⟩,fun x H' y=>?_⟩;obtain⟨e,y⟩:=y;subst e;exact hs i x _ (y xs q) p
 . have e:i=xs.length:=by omega
   subst e;exact .inl ⟨⟨xs,q,zI0 _⟩,hd H p⟩
theorem pP{K:W.Frag}{a D:Addr}{xs:List V}{ix:List Nat}{tb:TBl}{σ:St}{H:Hp}{Q:VK}(Pv:Nat->Hp->Prop)(h0:Pv 0 (upd H D (.lst [])))(hl:∀i H,i<=xs.length->Pv i H->SqL K H a xs)
 (hs:∀i x H,xs[i]?=some x->Pv i H->tb (some x::outs ix σ) H (Nx xs.length i Pv) fun z H'=>∃ys,H' D=some (.lst ys)/\ys.length<sizeLine/\Nx xs.length i Pv (upd H' D (.lst (ys++[z])))) (hd:∀H,Pv xs.length H->Q (.ref D) H) :
 oG (Itl K a) D ix tb σ H Q:=by
 refine⟨fun i m H=>m=xs.length-i/\i<=xs.length/\Pv i H,⟨xs.length,by simp,zN0 _,h0⟩,?_⟩;rintro i m H ⟨rfl,hi,p⟩;have q:=hl i H hi p
 by_cases hlt:i<xs.length
 . refine .inr ⟨⟨xs,xs[i],q,by simp [hlt]⟩,fun x H' y=>?_⟩;obtain⟨e,y⟩:=y;subst e;exact hs i x _ (y xs q) p
 . have e:i=xs.length:=by omega
   subst e;exact .inl ⟨⟨xs,q,zI0 _⟩,hd H p⟩
theorem cS{lo:Int}{n:Nat}{D:Addr}{ix:List Nat}{tb:TBl}{σ:St}{H:Hp}{Q:VK}(Pv:Nat->Hp->Prop)(h0:Pv 0 (upd H D (.lst [])))
 (hs:∀i H,i<n->Pv i H->tb (some (.int (lo+i))::outs ix σ) H (Nx n i Pv) fun z H'=>∃ys,H' D=some (.lst ys)/\ys.length<sizeLine/\Nx n i Pv (upd H' D (.lst (ys++[z])))) (hd:∀H,Pv n H->Q (.ref D) H) :
 oG (Itr lo n) D ix tb σ H Q:=by
 refine⟨fun i m H=>m=n-i/\i<=n/\Pv i H,⟨n,by simp,zN0 _,h0⟩,?_⟩;rintro i m H ⟨rfl,hi,p⟩
 by_cases hlt:i<n
 . refine .inr ⟨hlt,fun x H' y=>?_⟩;obtain⟨e,y⟩:=y;subst e y;exact hs i _ hlt p
 . have e:i=n:=by omega
   subst e;exact .inl ⟨zI0 _,hd H p⟩
theorem CompScope.closed{X:Cx}{x:Str}{scope:Scope}(c1:closureFor scope X.env=pure [])(c2:∀y∈scope.names,y.2≠.cell)(c3:scope.kind=.function)(c4:∀y∈scope.names,y.2=.local->scope.names.lookup y.1=some .local)
 (c5:scope.names.lookup x=some .local) (c6:((relabel scope X.env).names.all fun p=>!(p.2==.cell||p.2==.free)||((([]:List (Str×Addr))).lookup p.1).isSome)=true):CompScope X x [] [] scope [] where
 clos:=c1
 nocell:=c2
 kind:=c3
 names:=c4
 own:=c5
 nd:=by simp
 sub:=fun p hp=>absurd hp (by simp)
 has:=c6
 outs:=fun j y h=>by simp at h
section
variable {X:Cx}
theorem sH(K:W.Frag)(hK:X.K=K:=by rfl):IxR X (By K):=by subst hK;exact ix_list
end
section
variable {X:Cx}
def rSlS:V->Option Int->Option Int->Hp->VK->Prop:=fun x lo hi H Q=>∃z,x=.str z/\z.length<=sizeLine/\Q (.str (Txt.slice z lo hi)) H
theorem zu:SlR X rSlS:=by
 intro pins s σ H x v vl vu lo hi sl Q I rx hs pl pu h;obtain⟨z,rfl,hz,q⟩:=h;obtain⟨t,rfl⟩:=rx;refine⟨"str",_,F.slot_str_getitem.lookup,typeIs_str _ _ _,?_⟩;have fin:∀t' k,EP X pins σ Q (.str (Txt.slice z lo hi) t') { s with toks:=k }:=fun t' k=>⟨.str _,H,I.tok k,⟨_,rfl⟩,q⟩
 obtain⟨o,ho,hc,hd⟩:=hs;cases pl with
 | none=>
   cases pu with
   | none=>exact wpAny_getItem_str_slice (l:=none) (u:=none) (st:=none) ⟨o,ho,hc,hd⟩ rfl (post_val_or_str ⟨zX0 (Txt.slice_le z _ _) hz,fin⟩)
   | int j u=>exact wpAny_getItem_str_slice (l:=none) (u:=some (j,u)) (st:=none) ⟨o,ho,hc,hd⟩ rfl (post_val_or_str ⟨zX0 (Txt.slice_le z _ _) hz,fin⟩)
 | int i u'=>
   cases pu with
   | none=>exact wpAny_getItem_str_slice (l:=some (i,u')) (u:=none) (st:=none) ⟨o,ho,hc,hd⟩ rfl (post_val_or_str ⟨zX0 (Txt.slice_le z _ _) hz,fin⟩)
   | int j u=>exact wpAny_getItem_str_slice (l:=some (i,u')) (u:=some (j,u)) (st:=none) ⟨o,ho,hc,hd⟩ rfl (post_val_or_str ⟨zX0 (Txt.slice_le z _ _) hz,fin⟩)
theorem mK:∀{zs:List Str}{us:List Value},Vals (zs.map V.str) us->StrsAre us zs
 | [],_,.nil=>.nil
 | _::_,_,.cons ⟨t,e⟩ r=>by subst e;exact .cons _ t (mK r)
def rJoin(K:W.Frag):V->List V->Hp->VK->Prop:=fun x vs H Q=>∃z a ys,x=.str z/\vs=[.ref a]/\SqL K H a (ys.map V.str)/\z.length<=16/\(ys.map (·.length)).sum+ys.length<=1048576/\Q (.str (Txt.join z ys)) H
theorem BW:MtR X "str.join" (rJoin X.K):=by
 intro pins s σ H x vs v us Q I rx rv h;obtain⟨z,a,ys,rfl,rfl,hq,hz,hw,q⟩:=h;obtain⟨t,rfl⟩:=rx;obtain⟨w',rfl,ra⟩:=rv.one;cases ra;obtain⟨its,r',p,_⟩:=I.list hq;exact join_listW p.isList (by simpa using mK r') hz hw fun t' k=>⟨.str _,H,I.tok k,⟨_,rfl⟩,q⟩
def rAll(K:W.Frag):List V->Hp->VK->Prop:=fun xs H Q=>∃(a:Addr)(bs:List Bool),xs=[.ref a]/\SqL K H a (bs.map V.bl)/\Q (.bl (bs.all id)) H
theorem pS:∀{bs:List Bool}{us:List Value}{i:Nat}{v:Value},Vals (bs.map V.bl) us->us[i]?=some v->∃b,bs[i]?=some b/\v=.bool b
 | [],_,_,_,.nil,h=>by simp at h
 | b::_,_,0,_,.cons r _,h=>by
   simp at h
   subst h;exact⟨b,rfl,r⟩
 | _::_,_,i+1,_,.cons _ t,h=>by
   obtain⟨b,h1,h2⟩:=pS (i:=i) t (by simpa using h);exact⟨b,by simpa using h1,h2⟩
theorem AU (hc:X.calm=true):fh X (.builtin "all") (rAll X.K):=by
 intro pins s σ H xs us Q I r h;obtain⟨a,bs,rfl,hq,q⟩:=h;obtain⟨u,rfl,ru⟩:=iu r;cases ru;obtain⟨its,r',p,hz⟩:=I.list hq;have hl:=r'.length;rw[zE0]at hl;have hlt:a<s.heap.objs.size:=by obtain⟨o,n,e,_⟩:=p;exact zM0 e
 refine call_all_walk (wpAny_pyIter_list p.isList ?_);refine⟨s.heap.objs.size,_,_,_,_,_,fun i=>bs[i]?.getD true,rfl,Walks.list (A:=X.A.in1) (I.ok.hd hc) s.heap.objs.size a (zS0 hlt) its.toArray,⟨⟨_,zW0 _ rfl,rfl,rfl⟩,p.isList.push _⟩,?_,?_⟩
 . intro i v s' Q' E' hP hQ;obtain⟨b,hb,rfl⟩:=pS r' (i:=i) (v:=v) (by simpa using hP);have hQ':Q' b s':=by simpa [hb]using hQ
   exact wpAny_truthy_bool hQ'
 . intro h' tk hk;have e:(List.range its.toArray.size).all (fun i=>bs[i]?.getD true)=bs.all id:=by
    rw[zP0,←hl];rw[Bool.eq_iff_iff,List.all_eq_true,List.all_eq_true]
    constructor
    . intro h b hb;obtain⟨i,hi,e⟩:=List.getElem_of_mem hb
      have:=h i (List.mem_range.mpr hi)
      rw[zU0 hi]at this
      simpa [e]using this
    . intro h i hi;have hi':=List.mem_range.mp hi;rw[zU0 hi'];exact h _ (qR0 hi')
   rw[e];refine⟨.bl _,H,?_,rfl,q⟩;have I1:Inv X pins σ H { s with heap:=s.heap.push { cls:=.type "list_iterator",data:=.fields #[.ref a,.int 0 0] } }:=I.kept (t':=s.toks) fun b o e=>zL0 _ e
   refine I1.turnedL (t':=tk) (ch:=[s.heap.objs.size]) (fun b o hb e=>hk b o (by simpa using hb) e) fun b hb=>?_
   rw[zQ0 hb];exact I.fpOk (zI0 _) (I.hok.fresh (zI0 _))
end
inductive Consts:List Expr->List Str->Prop
 | nil:Consts [] []
 | cons {x:Str} {j:Nat} {pos:Pos} {es:List Expr} {zs:List Str}:Consts es zs->Consts (.Constant (.str x) j pos::es) (x::zs)
theorem jr{X:Cx}:∀{es:List Expr}{zs:List Str},Consts es zs->PA X es (fun _ H Q=>Q (zs.map V.str) H)
 | _,_,.nil=>ac
 | _,_,.cons h=>fun pos pins s σ H Q I q=>aa aG (jr h) (by rfl) pos pins s σ H Q I q
theorem CompScope.one{X:Cx}{x y:Str}{scope:Scope}{k:Nat}{c:Addr}(c1:closureFor scope X.env=pure [(y,c)])(c2:∀y∈scope.names,y.2≠.cell)(c3:scope.kind=.function)(c4:∀y∈scope.names,y.2=.local->scope.names.lookup y.1=some .local)
 (c5:scope.names.lookup x=some .local) (nd:[x,y].Nodup) (hc:X.env.cells.lookup y=some c) (c6:((relabel scope X.env).names.all fun p=>!(p.2==.cell||p.2==.free)||(([(y,c)]:List (Str×Addr)).lookup p.1).isSome)=true)
 (hr:(relabel scope X.env).names.lookup y=some .cell) (hk:X.N[k]?=some y) (hs:X.env.scope.names.lookup y=some .cell):CompScope X x [y] [k] scope [(y,c)] where
 clos:=c1
 nocell:=c2
 kind:=c3
 names:=c4
 own:=c5
 nd:=nd
 sub:=fun p hp=>by
  rw[zQ0 hp];exact hc
 has:=c6
 outs:=fun j z h=>by
  cases j with
  | zero=>
    have e:y=z:=zO0 h;subst e;exact⟨hr,k,c,rfl,hk,by simp [List.lookup],hs⟩
  | succ j=>simp at h
theorem CompScope.two{X:Cx}{x y z:Str}{scope:Scope}{k l:Nat}{c d:Addr}{cl:List (Str×Addr)}(c1:closureFor scope X.env=pure cl)(c2:∀y∈scope.names,y.2≠.cell)(c3:scope.kind=.function)(c4:∀y∈scope.names,y.2=.local->scope.names.lookup y.1=some .local)
 (c5:scope.names.lookup x=some .local) (nd:[x,y,z].Nodup) (hcl:cl=[(z,d),(y,c)]∨cl=[(y,c),(z,d)]) (hc:X.env.cells.lookup y=some c) (hd:X.env.cells.lookup z=some d) (c6:((relabel scope X.env).names.all fun p=>!(p.2==.cell||p.2==.free)||(cl.lookup p.1).isSome)=true)
 (hr:(relabel scope X.env).names.lookup y=some .cell) (hk:X.N[k]?=some y) (hs:X.env.scope.names.lookup y=some .cell)
 (hr2:(relabel scope X.env).names.lookup z=some .cell) (hk2:X.N[l]?=some z) (hs2:X.env.scope.names.lookup z=some .cell):CompScope X x [y,z] [k,l] scope cl where
 clos:=c1
 nocell:=c2
 kind:=c3
 names:=c4
 own:=c5
 nd:=nd
 sub:=fun p hp=>by
  rcases hcl with rfl | rfl
  all_goals
   rcases zY0 hp with e | e
   . rw[e];assumption
   . rw[zQ0 e];assumption
 has:=c6
 outs:=fun j w h=>by
  have nyz:y≠z:=fun e=>by simp [e]at nd
  match j,h with
  | 0,h=>
    have e:y=w:=zO0 h;subst e;refine⟨hr,k,c,rfl,hk,?_,hs⟩;rcases hcl with rfl | rfl
    . have:(y==z)=false:=by simpa using nyz
      simp [List.lookup,this]
    . simp [List.lookup]
  | 1,h=>
    have e:z=w:=zO0 h;subst e;refine⟨hr2,l,d,rfl,hk2,?_,hs2⟩;rcases hcl with rfl | rfl
    . simp [List.lookup]
    . have:(z==y)=false:=by simpa using Ne.symm nyz
      simp [List.lookup,this]
  | j+2,h=>simp at h
end L2
namespace Mine
open PySem L2
def vC (x:Str):Prop:=x.length<=20/\(∀c∈x.cps.toList,97<=c/\c<=122)/\x≠"aa"
theorem ju{x:Str}{l u:Option Int}{c:Nat}(h:c∈(Txt.slice x l u).cps.toList):c∈x.cps.toList:=by
 have e:Txt.slice x l u=StrLaws.sliceText x l u:=rfl;rw[e]at h;unfold StrLaws.sliceText at h
 split at h
 . exact h
 . obtain ⟨i,_,hi⟩:=List.mem_filterMap.mp (show c∈(List.filterMap _ _) by simpa using h)
   have:=Array.mem_of_getElem? hi
   simpa using this
theorem mem_append{x y:Str}{c:Nat}(h:c∈(x++y).cps.toList):c∈x.cps.toList∨c∈y.cps.toList:=by
 have e:(x++y).cps.toList=x.cps.toList++y.cps.toList:=by simp [Str.cps_append]
 rw[e]at h;exact qD0 h
theorem yh {zs:List Str} {c:Nat} (h:c∈(Txt.join "" zs).cps.toList):∃z∈zs,c∈z.cps.toList:=by
 have e:Txt.join "" zs=Str.join "" zs:=by
  cases zs with
  | nil=>rfl
  | cons a r=>exact StrLaws.glued_cons "" r a
 rw[e]at h;rcases(PyProof.Rows.mem_join "" c zs).mp h with h | ⟨_,h⟩
 . exact h
 . have e0:(("":Str)).cps.toList=[]:=by decide
   rw[e0]at h;cases h
inductive Tr where
 | is (x:Str) | yes | no | not (a:Tr) | bin (w:Str) (a b:Tr)
def Tr.size:Tr->Nat
 | .is _=>1 | .yes=>1 | .no=>1 | .not a=>a.size+1 | .bin _ a b=>a.size+b.size+1
def Tr.depth:Tr->Nat
 | .is _=>1 | .yes=>1 | .no=>1 | .not a=>a.depth+1 | .bin _ a b=>max a.depth b.depth+1
def Tr.names:Tr->List Str
 | .is x=>[x] | .yes=>[] | .no=>[] | .not a=>a.names | .bin _ a b=>a.names++b.names
def joinW:List Str:=["and","or","odd","same"]
def Tr.ok(ns:List Str):Tr->Prop
 | .is x=>x∈ns | .yes=>True | .no=>True | .not a=>a.ok ns | .bin w a b=>w∈joinW/\a.ok ns/\b.ok ns
inductive TreeAt(H:Hp):V->Tr->Prop
 | is {a:Addr} {x:Str}:H a=some (.tup [.str "is",.str x])->TreeAt H (.ref a) (.is x)
 | yes {a:Addr}:H a=some (.tup [.str "yes"])->TreeAt H (.ref a) .yes
 | no {a:Addr}:H a=some (.tup [.str "no"])->TreeAt H (.ref a) .no
 | not {a:Addr} {v:V} {t:Tr}:H a=some (.tup [.str "not",v])->TreeAt H v t->TreeAt H (.ref a) (.not t)
 | bin {a:Addr} {w:Str} {v u:V} {t r:Tr}:H a=some (.tup [.str w,v,u])->TreeAt H v t->TreeAt H u r->TreeAt H (.ref a) (.bin w t r)
abbrev lI(H H':Hp):Prop:=∀a xs,H a=some (.tup xs)->H' a=some (.tup xs)
theorem TreeAt.mono{H H':Hp}(k:lI H H'){v:V}{t:Tr}(h:TreeAt H v t):TreeAt H' v t:=by
 induction h with
 | is e=>exact .is (k _ _ e)
 | yes e=>exact .yes (k _ _ e)
 | no e=>exact .no (k _ _ e)
 | not e _ ih=>exact .not (k _ _ e) ih
 | bin e _ _ i1 i2=>exact .bin (k _ _ e) i1 i2
theorem aB{H H':Hp}(s:Same H H'):lI H H':=fun a _ h=>s a _ h
theorem gi{H H':Hp}{f:Addr}(F:FeedAt H f)(s:SameBut f H H'):lI H H':=fun a xs h=>s a _ (fun z=>by
 obtain⟨o,t,e,_⟩:=F;rw[z,e]at h;cases h) h
def NamesAt(H:Hp)(a:Addr)(ns:List Str):Prop:=H a=some (.lst (ns.map V.str))∨H a=some (.tup (ns.map V.str))
theorem NamesAt.ne{H:Hp}{f a:Addr}{ns:List Str}(F:FeedAt H f)(h:NamesAt H a ns):a≠f:=fun z=>by
 obtain⟨o,t,e,_⟩:=F;subst z;rcases h with h | h
 . rw [e]at h;have h':=HO.lst.inj (zO0 h);cases ns with
   | nil=>cases h'
   | cons x r=>simp at h'
 . rw[e]at h;cases h
theorem NamesAt.feed{H H':Hp}{f a:Addr}{ns:List Str}(F:FeedAt H f)(s:SameBut f H H')(h:NamesAt H a ns):NamesAt H' a ns:=by
 have ne:=h.ne F;rcases h with h | h
 . exact .inl (s _ _ ne h)
 . exact .inr (s _ _ ne h)
theorem NamesAt.same{H H':Hp}{a:Addr}{ns:List Str}(s:Same H H')(h:NamesAt H a ns):NamesAt H' a ns:=by
 rcases h with h | h
 . exact .inl (s _ _ h)
 . exact .inr (s _ _ h)
theorem NamesAt.seq{K:W.Frag}{H:Hp}{a:Addr}{ns:List Str}(h:NamesAt H a ns):SqL K H a (ns.map V.str)∨SqT K H a (ns.map V.str):=by
 rcases h with h | h
 . exact .inl (zG0 h)
 . exact .inr (zC0 h)
theorem NamesAt.ix{K:W.Frag}{H:Hp}{a:Addr}{ns:List Str}{i:Int}{x:V}{Q:VK}(h:NamesAt H a ns)(hx:atI (ns.map V.str) i=some x)(q:Q x H):By K (.ref a) (.int i) H Q∨Dl K (.ref a) (.int i) H Q:=by
 rcases h with h | h
 . exact .inl ⟨a,_,i,x,rfl,rfl,zG0 h,hx,q⟩
 . exact .inr ⟨a,_,i,x,rfl,rfl,zC0 h,hx,q⟩
def kG(n:Nat):Sp:=fun vs H Q _=>∃(f a:Addr)(room deep:Int)(ns:List Str),vs=[.ref f,.ref a,.int room,.int deep]/\FeedAt H f/\NamesAt H a ns/\ns.length<=6/\1<=room/\room<=100/\1<=deep/\deep+1<=(n:Int)+1/\
 ∀(v:V)(t:Tr)(H':Hp),FeedAt H' f->SameBut f H H'->TreeAt H' v t->t.ok ns->(t.size:Int)<=room->(t.depth:Int)<=deep->Q v H'
theorem pX{α:Type}{l:List α}{i:Int}(h0:0<=i)(h:i<(l.length:Int)):∃v,atI l i=some v/\v∈l:=by
 have hk:i.toNat<l.length:=by omega
 have q:atI l ((i.toNat:Nat):Int)=some l[i.toNat]:=aO (zU0 hk);have ek:((i.toNat:Nat):Int)=i:=by omega
 rw[ek]at q;exact⟨_,q,qR0 hk⟩
end Mine
namespace L2
open PySem PySem.Spec PyProof.Rows
section
variable {X:Cx}
def qv(lo:Int)(n:Nat):List Int:=(List.range n).map fun i:Nat=>lo+(i:Int)
theorem zG(lo:Int)(n:Nat):(qv lo n).length=n:=by unfold qv;rw[zE0,qP0]
theorem xH{lo:Int}{n:Nat}{acc:List Value}(h:ItemsOf (fun i v=>∃t,v=Value.int (lo+(i:Int)*1) t) acc.toArray n):Vals ((qv lo n).map V.int) acc:=by
 obtain⟨h1,h2⟩:=h;have l1:acc.length=n:=by simpa using h1
 have key:∀(k:Nat)(l:List Value),(∀i v,l[i]?=some v->∃t,v=Value.int (lo+((k+i:Nat):Int)) t)->Vals (((List.range' k l.length).map fun i:Nat=>lo+(i:Int)).map V.int) l:=by
  intro k l
  induction l generalizing k with
  | nil=>intro _;exact .nil
  | cons a r ih=>
    intro h;obtain⟨t,e⟩:=h 0 a rfl;rw[zV0,List.range'_succ,qF0,qF0];refine .cons ⟨t,by simpa using e⟩ (ih (k+1) fun i v hv=>?_);obtain⟨t,e⟩:=h (i+1) v (by simpa using hv);exact⟨t,by rw[e];congr 2;omega⟩
 have:=key 0 acc fun i v hv=>by
  obtain⟨t,e⟩:=h2 i v (by simpa using hv);exact⟨t,by simpa using e⟩
 unfold qv;rw[←l1,List.range_eq_range'];exact this
def za(ta:TA):TE:=fun σ H Q=>ta σ H fun vs H1=>∃i j:Int,vs=[.int i,.int j]/\(-(2 ^ 62)<=i/\i<2 ^ 62/\-(2 ^ 62)<=j/\j<2 ^ 62)/\j-i<=1000/\∀p,H1 p=none->Q (.ref p) (upd H1 p (.lst ((qv i (j-i).toNat).map V.int)))
theorem uy {a b:Expr} {ta:TA} {p1 p2 pos1 pos2:Pos} (hc:X.calm=true) (hg1:Gl X "list") (hm1:X.mg "list"=none) (hg2:Gl X "range") (hm2:X.mg "range"=none) (ha:PA X [a,b] ta)
 (hs1:starEach [(.Call (.Name "range" p2) [a,b] [] pos2:Expr)] X.env=[(false,eval (.Call (.Name "range" p2) [a,b] [] pos2) X.env)]:=by rfl) (hs:starEach [a,b] X.env=[(false,eval a X.env),(false,eval b X.env)]:=by rfl) (hs2:starEach [b] X.env=[(false,eval b X.env)]:=by rfl) :
 PE X (.Call (.Name "list" p1) [.Call (.Name "range" p2) [a,b] [] pos2] [] pos1) (za ta):=by
 intro pins s σ H Q I h;refine wpAny_Call_Name_kw (iq I hg1 hm1 vw ?_);refine PyProof.Rows.callWith_type1 ?_ hs1 rfl;rw[hs1];show wpAny _ _ (spliced ((false,eval (.Call (.Name "range" p2) [a,b] [] pos2) X.env)::backTo pos1 (starEach [] X.env))) _ _ s;have step:wpAny (model X.prog X.w) X.A (eval (.Call (.Name "range" p2) [a,b] [] pos2) X.env) (fun v s1=>∃(r:Addr) (i j:Int) (t u k:Tok) (H1:Hp),v=.ref r/\Inv X pins σ H1 s1/\IsRange s1.heap r i j 1 t u k/\(-(2 ^ 62)<=i/\i<2 ^ 62/\-(2 ^ 62)<=j/\j<2 ^ 62)/\j-i<=1000/\
  ∀p,H1 p=none->Q (.ref p) (upd H1 p (.lst ((qv i (j-i).toNat).map V.int)))) X.xe s:=by
  refine Call_ (iq I hg2 hm2 boot_range (PyProof.Rows.callWith_type1 (thn (ha pos2 pins s σ H _ I h) fun us s1 ⟨vs,H1,I1,r1,q1⟩=>?_) (by rw[hs,hs2]) (by rw[hs2];rfl)));obtain⟨i,j,e,q1,q2,q⟩:=q1;subst e;cases r1 with
  | cons r rr=>
    cases rr with
    | cons r' rr=>
      cases rr;obtain⟨t,rfl⟩:=r;obtain⟨t',rfl⟩:=r';refine call_range_2 ⟨_,i,j,_,_,_,H1,rfl,I1.kept fun b o e=>zL0 _ e,IsRange.new ..,q1,q2,q⟩
 refine Calls.spliced_cons (thn step fun v s1 hv=>?_);obtain⟨r,i,j,t,u,k,H1,rfl,I1,hr,⟨a1,a2,a3,a4⟩,hle,q⟩:=hv;refine Calls.spliced_nil ?_;have e2:Builtin.Range.rangeSize i j 1=(((j-i).toNat:Nat):Int):=by rw[rangeSize_one];split <;> omega
 refine call_list_range (I1.ok.hd hc) hr (small_one a1 a2 a3 a4) e2 (by omega) fun h' tk acc' c' hk hS hacc=>?_
 obtain⟨acc,rfl⟩:∃acc:List Value,acc'=acc.toArray:=⟨acc'.toList,by simp⟩
 have rr:=xH hacc;have I2:Inv X pins σ (upd H1 s1.heap.objs.size (.lst ((qv i (j-i).toNat).map V.int))) { s1 with heap:=h',toks:=tk }:=by
  refine I1.turnedNew (ch:=[]) (fun b ob _ eb=>hk b ob eb) (fun b hb=>absurd hb (by simp)) (zI0 _) ⟨?_,acc,c',rr,hS⟩;rw[zE0,zG];exact cL (by omega)
 exact⟨.ref s1.heap.objs.size,_,I2,rfl,q _ (I1.hok.fresh (zI0 _))⟩
def rSum(K:W.Frag):List V->Hp->VK->Prop:=fun xs H Q=>∃(a:Addr)(ns:List Int),xs=[.ref a]/\SqL K H a (ns.map V.int)/\(∀n∈ns,0<=n)/\ns.sum<2 ^ 63/\Q (.int ns.sum) H
theorem nZ:∀{bs:List Int}{us:List Value}{i:Nat}{v:Value},Vals (bs.map V.int) us->us[i]?=some v->∃b t,bs[i]?=some b/\v=.int b t
 | [],_,_,_,.nil,h=>by simp at h
 | b::_,_,0,_,.cons r _,h=>by
   simp at h
   subst h;obtain⟨t,e⟩:=r;exact⟨b,t,rfl,e⟩
 | _::_,_,i+1,_,.cons _ t,h=>by
   obtain⟨b,t,h1,h2⟩:=nZ (i:=i) t (by simpa using h);exact⟨b,t,by simpa using h1,h2⟩
theorem li{ns:List Int}(h:∀n∈ns,0<=n)(j:Nat):0<=(ns.take j).sum/\(ns.take j).sum<=ns.sum:=by
 induction ns generalizing j with
 | nil=>simp
 | cons a r ih=>
   cases j with
   | zero=>
     have:=ih (fun n hn=>h n (qK0 _ hn)) r.length
     rw[qG0]at this;have a0:=h a qL0;simp only[List.take_zero,List.sum_nil,List.sum_cons];omega
   | succ j=>
     have:=ih (fun n hn=>h n (qK0 _ hn)) j
     have a0:=h a qL0;simp only[List.take_succ_cons,List.sum_cons];omega
theorem lr(ns:List Int)(j:Nat):preSum (fun i=>ns[i]?.getD 0) j=(ns.take j).sum:=by
 induction j with
 | zero=>simp;rfl
 | succ j ih=>
   show preSum (fun i=>ns[i]?.getD 0) j+(fun i=>ns[i]?.getD 0) j=_;rw[ih,qI0,List.sum_append];cases e:ns[j]? with
   | none=>simp [e]
   | some x=>simp [e]
theorem kB (hc:X.calm=true):fh X (.builtin "sum") (rSum X.K):=by
 intro pins s σ H xs us Q I r h;obtain⟨a,ns,rfl,hq,n0,nb,q⟩:=h;obtain⟨u,rfl,ru⟩:=iu r;cases ru;obtain⟨its,r',p,hz⟩:=I.list hq;have hl:=r'.length;rw[zE0]at hl;have hlt:a<s.heap.objs.size:=by obtain⟨o,n,e,_⟩:=p;exact zM0 e
 refine call_sum_walk (wpAny_pyIter_list p.isList ?_);refine⟨s.heap.objs.size,_,_,_,_,_,fun i=>ns[i]?.getD 0,rfl,Walks.list (A:=X.A.in1) (I.ok.hd hc) s.heap.objs.size a (zS0 hlt) its.toArray,⟨⟨_,zW0 _ rfl,rfl,rfl⟩,p.isList.push _⟩,?_,?_,?_,?_⟩
 . intro b hb;have hpz:∀o:Obj,(s.heap.push o).objs.size=s.heap.objs.size+1:=fun o=>by simp [Heap.push]
   show b<(s.heap.push _).objs.size;rw[hpz];rcases zY0 hb with e | e
   . rw[e];exact Nat.lt_succ_self _
   . rw[zQ0 e];exact Nat.lt_succ_of_lt hlt
 . intro i v hP;obtain⟨b,t,hb,rfl⟩:=nZ r' (i:=i) (v:=v) (by simpa using hP);exact⟨t,by simp [hb]⟩
 . intro j hj;have hj':j<ns.length:=by rw[hl];simpa using hj
   have s1:=li n0 (j+1);rw[lr];refine⟨?_,by unfold InLong;omega⟩;have s2:=li n0 j;have e:(ns.take (j+1)).sum=(ns.take j).sum+ns[j]:=by rw[qI0,List.sum_append,zU0 hj'];simp
   have n1:=n0 _ (qR0 hj');show InLong (ns[j]?.getD 0);rw[zU0 hj'];show InLong ns[j];unfold InLong;omega
 . intro h' tk t' hk;rw[lr,zP0,←hl,qG0];refine⟨.int _,H,?_,⟨_,rfl⟩,q⟩;have I1:Inv X pins σ H { s with heap:=s.heap.push { cls:=.type "list_iterator",data:=.fields #[.ref a,.int 0 0] } }:=I.kept (t':=s.toks) fun b o e=>zL0 _ e
   refine I1.turnedL (t':=tk) (ch:=[s.heap.objs.size]) (fun b o hb e=>hk b o (by simpa using hb) e) fun b hb=>?_
   rw[zQ0 hb];exact I.fpOk (zI0 _) (I.hok.fresh (zI0 _))
end
theorem wj:Slot "reversed" "__iter__" "reversed.__iter__":=Slot.of (owner:="reversed") (n:="__iter__") (by rw[typeLookup_type,builtinLookup_eq_fast];kernel_rfl) (by decide) (by decide) (by decide) (by first | exact .inl (by decide) | exact .inr (by decide)) (by rw[isSubtype_type];kernel_rfl) (by decide)
theorem rv_next:Slot "reversed" "__next__" "reversed.__next__":=Slot.of (owner:="reversed") (n:="__next__") (by rw[typeLookup_type,builtinLookup_eq_fast];kernel_rfl) (by decide) (by decide) (by decide) (by first | exact .inl (by decide) | exact .inr (by decide)) (by rw[isSubtype_type];kernel_rfl) (by decide)
theorem yU:typeLookup (.type "tuple") "__reversed__"=pure none:=by rw[typeLookup_type,builtinLookup_eq_fast];kernel_rfl
theorem xD:entryFor table "reversed.__iter__"=some Builtin.«dict_keyiterator.__iter__»:=entryFor_alias (by kernel_rfl) rfl (show _="dict_keyiterator.__iter__" by decide) (by kernel_rfl)
theorem pq:entryFor table "reversed.__next__"=some Builtin.«reversed.__next__»:=entryFor_of_tree (by kernel_rfl)
def RevT (h:Heap) (it t:Addr) (i:Int):Prop:=h.get? it=some { cls:=.type "reversed",data:=.fields #[.ref t,rawInt i] }
section
variable {prog:Program} {w:World} {A:Around} {E:Value->Shared->Prop} {s:Shared} {R:Result->Shared->Prop} {it t:Addr}
theorem RevT.typeIs {i:Int} (h:RevT s.heap it t i):s.TypeIs (.ref it) "reversed":=⟨_,h,rfl⟩
theorem pI{i:Int}{Q:Value->Shared->Prop}(h:RevT s.heap it t i)(q:Q (.ref it) s):wpAny (model prog w) A (pyIter (.ref it)) Q E s:=
 wpAny_pyIter_slot h.typeIs wj (wpAny_call_entry wj h.typeIs xD (zH0 ⟨_,rfl,"reversed",_,h.typeIs,rv_next.lookup,q⟩) (by rfl))
theorem nQ{i:Nat}{items:Array Value}{x:Value}{Q:Option Value->Shared->Prop}(h:RevT s.heap it t (i:Int))(ht:IsTup s.heap t items)(hx:items[i]?=some x)(hi:(i:Int)<2 ^ 63)
 (q:∀h' tk,RevT h' it t ((i:Int)-1)->Heap.SameBut it s.heap h'->Q (some x) { s with heap:=h',toks:=tk }):wpAny (model prog w) A (pyNext (.ref it)) Q E s:=by
 have hT:=h.typeIs;have hs:i<items.size:=(Array.getElem?_eq_some_iff.mp hx).1;unfold pyNext;refine zA0 (wpAny_attempt (wpAny_callSpecial?_slot hT rv_next (wpAny_call_entry rv_next hT pq ?_ (by rfl))));unfold Builtin.«reversed.__next__»;refine zA0 (wpAny_of_eq (show slotArgs "__next__" 0 ⟨[.ref it],[]⟩=pure (.ref it,[])from rfl) ?_);refine zA0 (wpAny_field h rfl rfl ?_);refine zA0 (wpAny_field h rfl rfl ?_);refine wpAny_ite_split (fun hab=>absurd hab (by omega)) (fun _=>?_);refine zA0 (wpAny_specialOf (show s.TypeIs (.ref t) "tuple" from ht.typeIs) PyProof.Rows.slot_tuple_getitem.lookup ?_);refine wpAny_ite_split (fun hab=>absurd hab (by simp)) (fun _=>?_);refine zA0 (wpAny_mkInt ?_);have e1:seqIndex? (i:Int) items.size=some i:=(qS (by unfold ixN;rw[zF0 (by omega),zF0 (by omega)];simp)).1;refine zA0 (wpAny_attempt (PyProof.Rows.getItem_tuple (items:=items) (x:=x) ht (by omega) hi e1 hx ?_));refine zA0 (wpAny_field h rfl rfl ?_);refine zA0 (wpAny_setField_rec h (by simp) fun h' e hb=>?_);refine zH0 ⟨_,rfl,zH0 (q h' _ ?_ hb)⟩;exact e
theorem oS{Q:Option Value->Shared->Prop}(hh:A.handled=none)(h:RevT s.heap it t (-1))
 (q:∀h' tk,Heap.ExtBut it s.heap h'->Q none { s with heap:=h',toks:=tk }):wpAny (model prog w) A (pyNext (.ref it)) Q E s:=by
 have hT:=h.typeIs;unfold pyNext;refine zA0 (wpAny_attempt (wpAny_callSpecial?_slot hT rv_next (wpAny_call_entry rv_next hT pq ?_ (by rfl))));unfold Builtin.«reversed.__next__»;refine zA0 (wpAny_of_eq (show slotArgs "__next__" 0 ⟨[.ref it],[]⟩=pure (.ref it,[])from rfl) ?_);refine zA0 (wpAny_field h rfl rfl ?_);refine zA0 (wpAny_field h rfl rfl ?_);refine wpAny_ite_split (fun _=>?_) (fun hab=>absurd (by decide) hab);refine zA0 (wpAny_rule ?_);refine zA0 ?_;show wpAny _ _ (setField (.ref it) 1 (rawInt (-1)) >>= fun _=>setField (.ref it) 0 Value.none) _ _ _;refine zA0 (wpAny_setField_rec h (by simp) fun h1 e1 b1=>?_);refine wpAny_setField_rec e1 (by simp) fun h2 e2 b2=>?_
 refine zA0 ?_;unfold Builtin.SmallTypes.stopIteration newExc newTuple;refine zA0 (zA0 (wpAny_newObj_type ?_ (by show 0<=sizeLine;decide)));refine zA0 (wpAny_of_eq (show firstArgMember (.type "StopIteration") []=pure .none by rfl') ?_);refine wpAny_newObj_type ?_ (sizeOk_excFields ..);refine wpAny_raiseNew_none hh ?_;refine zA0 (wpAny_isInstance (T:="StopIteration") ⟨_,zW0 _ rfl,rfl⟩ isSubtype_stop ?_);refine wpAny_ite_split (fun _=>?_) (fun hab=>absurd rfl hab);refine zH0 (q _ _ ?_);exact(b1.extBut.trans b2.extBut).trans fun b o hb e=>zL0 _ (zL0 _ e)
theorem Bu:Slot "reversed" "__init__" "object.__init__":=Slot.of (owner:="object") (n:="__init__") (by rw[typeLookup_type,builtinLookup_eq_fast];kernel_rfl) (by decide) (by decide) (by decide) (by first | exact .inl (by decide) | exact .inr (by decide)) (by rw[isSubtype_type];kernel_rfl) (by decide)
theorem xE:TypeCalled "reversed" "reversed.__new__" "object.__init__":=⟨by decide,F.create_reversed,⟨_,_,F.mro_reversed⟩,F.made_reversed,F.plain_reversed_new,F.sub_reversed_self,Bu⟩
theorem xc:isSubtype (.type "tuple") (.type "dict")=pure false:=by rw[isSubtype_type];kernel_rfl
theorem kC{items:Array Value}{Q:Value->Shared->Prop}(ht:IsTup s.heap t items)(hz:items.size<=sizeLine)
 (q:∀tk,Q (.ref s.heap.objs.size) { s with heap:=s.heap.push { cls:=.type "reversed",data:=.fields #[.ref t,rawInt ((items.size:Int)-1)] },toks:=tk }):wpAny (model prog w) A (call (.type "reversed") [.ref t]) Q E s:=by
 have h63:=ip;refine callType_newIn xE (by decide) (F.typeCall_reversed_1 _) (F.newCall_reversed_1 _) (fun _=>by rfl) F.entry_reversed_new
  (S:=fun A R s=>wpAny (model prog w) A.in1 (Builtin.«reversed.__new__» ⟨[.type "reversed",.ref t],[]⟩) (fun fin s'=>match fin with | .done f=>R (.ok f) s' | .again c'=>c'.quiet=true/\codeAny (model prog w) A c' R s') (fun e s'=>R (.error e) s') s) (fun A R s h=>h) ?_
 unfold Builtin.«reversed.__new__»;refine zA0 (wpAny_of_eq (newClass_reversed _) ?_);refine zA0 (wpAny_of_eq (a:=()) rfl ?_);refine zA0 (wpAny_of_eq (a:=()) rfl ?_);refine zA0 (wpAny_specialOf ht.typeIs yU ?_);refine zA0 ?_;refine zA0 (wpAny_isInstance ht.typeIs xc ?_);refine wpAny_ite_split (fun hab=>absurd hab (by decide)) (fun _=>?_);refine zA0 (wpAny_specialOf ht.typeIs PyProof.Rows.slot_tuple_getitem.lookup ?_);refine wpAny_ite_split (fun _=>?_) (fun hab=>absurd (by decide) hab);refine zH0 ?_;refine wpAny_ite_split (fun hab=>absurd hab (by decide)) (fun _=>?_);refine zA0 (len_tuple ht (by omega) ?_);refine zA0 (zH0 ?_);refine zA0 (wpAny_newObj_type (data:=.fields #[.ref t,rawInt ((items.size:Int)-1)]) ?_ (by show 2<=sizeLine+2;decide));refine zH0 ?_;exact⟨⟨_,zW0 _ rfl,rfl⟩,q _⟩
end
end L2
namespace Mine
open PySem L2
def Tr.wf:Tr->Prop
 | .is x=>vC x | .yes=>True | .no=>True | .not a=>a.wf | .bin w a b=>w∈joinW/\a.wf/\b.wf
def Tr.parts:Tr->List Tr
 | .is _=>[] | .yes=>[] | .no=>[] | .not a=>[a] | .bin _ a b=>[a,b]
theorem Tr.ok_wf{ns:List Str}(hn:∀x∈ns,vC x):∀t:Tr,t.ok ns->t.wf
 | .is _,h=>hn _ h
 | .yes,_=>trivial
 | .no,_=>trivial
 | .not a,h=>Tr.ok_wf hn a h
 | .bin _ a b,⟨h,h1,h2⟩=>⟨h,Tr.ok_wf hn a h1,Tr.ok_wf hn b h2⟩
theorem Tr.depth_pos:∀t:Tr,1<=t.depth
 | .is _=>zI0 _ | .yes=>zI0 _ | .no=>zI0 _ | .not a=>Nat.le_add_left .. | .bin _ a b=>Nat.le_add_left ..
def fS(ts:List Tr):Nat:=(ts.map Tr.size).sum
def gh(ts:List Tr):List Str:=(ts.map Tr.names).flatten
theorem Tr.size_parts(t:Tr):t.size=fS t.parts+1:=by
 cases t <;> simp [Tr.size,Tr.parts,fS]
theorem Tr.names_parts(t:Tr)(h:∀x,t≠.is x):t.names=gh t.parts:=by
 cases t with
 | is x=>exact absurd rfl (h x)
 | _=>simp [Tr.names,Tr.parts,gh]
theorem Tr.parts_mem{t u:Tr}(h:u∈t.parts)(w:t.wf):u.wf/\u.depth+1<=t.depth/\u.size+1<=t.size:=by
 cases t with
 | is x=>simp [Tr.parts]at h
 | yes=>simp [Tr.parts]at h
 | no=>simp [Tr.parts]at h
 | not a=>
   rw[zQ0 h];exact⟨w,zI0 _,zI0 _⟩
 | bin o a b=>
   obtain⟨_,w1,w2⟩:=w;rcases zY0 h with e | e
   . rw [e];refine⟨w1,?_,?_⟩
     . show a.depth+1<=max a.depth b.depth+1;omega
     . show a.size+1<=a.size+b.size+1;omega
   . rw [zQ0 e];refine⟨w2,?_,?_⟩
     . show b.depth+1<=max a.depth b.depth+1;omega
     . show b.size+1<=a.size+b.size+1;omega
inductive TreesAt(H:Hp):List V->List Tr->Prop
 | nil:TreesAt H [] []
 | cons {v:V} {t:Tr} {vs:List V} {ts:List Tr}:TreeAt H v t->TreesAt H vs ts->TreesAt H (v::vs) (t::ts)
theorem TreesAt.mono{H H':Hp}(k:lI H H'){vs:List V}{ts:List Tr}(h:TreesAt H vs ts):TreesAt H' vs ts:=by
 induction h with
 | nil=>exact .nil
 | cons a _ ih=>exact .cons (a.mono k) ih
theorem TreesAt.append{H:Hp}{vs us:List V}{ts rs:List Tr}(h:TreesAt H vs ts)(g:TreesAt H us rs):TreesAt H (vs++us) (ts++rs):=by
 induction h with
 | nil=>exact g
 | cons a _ ih=>exact .cons a ih
theorem TreesAt.length{H:Hp}{vs:List V}{ts:List Tr}(h:TreesAt H vs ts):vs.length=ts.length:=by
 induction h with
 | nil=>rfl
 | cons _ _ ih=>rw[zV0,zV0,ih]
theorem TreesAt.get{H:Hp}{vs:List V}{ts:List Tr}(h:TreesAt H vs ts):∀{i:Nat}{v:V},vs[i]?=some v->∃t,ts[i]?=some t/\TreeAt H v t:=by
 induction h with
 | nil=>intro i v e;simp at e
 | cons a _ ih=>
   intro i v e;cases i with
   | zero=>cases(zO0 e);exact⟨_,rfl,a⟩
   | succ i=>exact ih (i:=i) (by simpa using e)
theorem va {w:Str} (h:w∈joinW):w≠"is":=(by decide:∀w∈joinW,w≠("is":Str)) w h
theorem TreeAt.view {H:Hp} {v:V} {t:Tr} (h:TreeAt H v t) (w:t.wf):(∃(a:Addr) (x:Str),v=.ref a/\t=.is x/\vC x/\H a=some (.tup [.str "is",.str x]))∨
 ∃(a:Addr) (o:Str) (xs:List V),v=.ref a/\o≠"is"/\xs.length<=2/\H a=some (.tup (.str o::xs))/\TreesAt H xs t.parts/\(∀x,t≠.is x):=by
 cases h with
 | is e=>exact .inl ⟨_,_,rfl,rfl,w,e⟩
 | yes e=>exact .inr ⟨_,_,[],rfl,by decide,by simp,e,.nil,fun x z=>by cases z⟩
 | no e=>exact .inr ⟨_,_,[],rfl,by decide,by simp,e,.nil,fun x z=>by cases z⟩
 | not e g=>exact .inr ⟨_,_,[_],rfl,by decide,by simp,e,.cons g .nil,fun x z=>by cases z⟩
 | bin e g g2=>exact .inr ⟨_,_,[_,_],rfl,va w.1,by simp,e,.cons g (.cons g2 .nil),fun x z=>by cases z⟩
theorem Eb(o:V):∀xs:List V,xs.length<=2->eZ (o::xs) (some 1) none=xs/\¬ (HT.sIx (o::xs).length 0 (some 1)=0/\HT.sIx (o::xs).length (o::xs).length none=(o::xs).length)
 | [],_=>⟨rfl,fun h=>absurd h.1 (show ¬ HT.sIx 1 0 (some 1)=0 by decide)⟩
 | [_],_=>⟨rfl,fun h=>absurd h.1 (show ¬ HT.sIx 2 0 (some 1)=0 by decide)⟩
 | [_,_],_=>⟨rfl,fun h=>absurd h.1 (show ¬ HT.sIx 3 0 (some 1)=0 by decide)⟩
 | _::_::_::_,h=>absurd h (by simp)
theorem Tr.names_len:∀t:Tr,t.names.length<=t.size
 | .is _=>zI0 _
 | .yes=>zN0 _
 | .no=>zN0 _
 | .not a=>Nat.le_succ_of_le (Tr.names_len a)
 | .bin _ a b=>by
   have:=Tr.names_len a
   have:=Tr.names_len b
   show(a.names++b.names).length<=a.size+b.size+1;rw[zR0];omega
end Mine
namespace L2
open PySem PySem.Spec PyProof.Rows
section
variable {prog:Program} {w:World} {A:Around} {E:Value->Shared->Prop} {s:Shared}
def DM(xs:Array Value)(x:Value):Nat->Option PySem.Fin×Unit->Sem (ForInStep (Option PySem.Fin×Unit)):=fun i _=>match xs[i]? with
 | some y=>do
   let b ←eqBool y x
   if b=true then do
    let r ←retInt (i:Int)
    pure (ForInStep.done (some r,()))
    else pure (ForInStep.yield (none,()))
 | _=>pure (ForInStep.yield (none,()))
theorem sI{xs:Array Value}{x:Value}{e:Value->Bool}(he:∀y∈xs,SeqAt.EqAt A s y x (e y)){j:Nat}(hj:j<xs.size)(ej:e xs[j]=true)(bf:∀(m:Nat) (hm:m<xs.size),m<j->e xs[m]=false){Q:Option PySem.Fin×Unit->Shared->Prop}
 (q:Q (some (.done (.ret (.int (j:Int) s.toks))),()) { s with toks:=s.toks+1 }):∀(n k:Nat),k<=j->j<k+n->k+n<=xs.size->wpAny (model prog w) A (forIn (List.range' k n 1) ((none:Option PySem.Fin),()) (DM xs x)) Q E s
 | 0,k,h1,h2,_=>absurd h2 (by omega)
 | n+1,k,h1,h2,h3=>by
   have hk:k<xs.size:=by omega
   rw [List.range'_succ,List.forIn_cons];refine zA0 ?_;have e1:DM xs x k ((none:Option PySem.Fin),())=(do
    let b ←eqBool xs[k] x
    if b=true then do
     let r ←retInt (k:Int)
     pure (ForInStep.done (some r,()))
     else pure (ForInStep.yield (none,()))):=by
    unfold DM;rw[Array.getElem?_eq_getElem hk]
   rw[e1];refine zA0 (he _ (Array.getElem_mem hk) prog w _ _ ?_)
   by_cases c:k=j
   . subst c;rw[ej];refine wpAny_ite_split (fun _=>?_) (fun hab=>absurd rfl hab);refine zA0 ?_;refine zA0 (wpAny_mkInt ?_);refine zH0 ?_;refine zH0 ?_;exact zH0 q
   . rw[bf k hk (by omega)];refine wpAny_ite_split (fun hab=>absurd hab (by decide)) (fun _=>?_);refine zH0 ?_;exact sI he hj ej bf q n (k+1) (by omega) (by omega) (by omega)
theorem nW(l:Addr)(items:Array Value)(n:Nat)(dd:Option Addr)(sl:Array (Option Value))(x:Value)(e:Value->Bool)(j:Nat)(hj:j<items.size)(ej:e items[j]=true)(bf:∀(m:Nat) (hm:m<items.size),m<j->e items[m]=false) :
 Meets (Builtin.«tuple.index» { pos:=[.ref l,x] }) fun A R s=>s.heap.get? l=some { cls:=.type "tuple",dict:=dd,data:=.seq items n,slots:=sl }/\(∀y∈items,SeqAt.EqAt A.in1 s y x (e y))/\R (.ok (.ret (.int (j:Int) s.toks))) { s with toks:=s.toks+1 }:=by
 intro prog w A R s ⟨hl,he,q⟩;unfold Builtin.«tuple.index»;refine zA0 (wpAny_of_eq (a:=(Value.ref l,[x])) rfl ?_);refine zA0 (wpAny_tupleItemsOf hl rfl ?_);refine zA0 (zH0 ?_);refine zA0 (zH0 ?_);refine zA0 ?_;rw[Std.Legacy.Range.forIn_eq_forIn_range'];have e1:Std.Legacy.Range.size [0:min items.size items.size]=items.size:=by simp [Std.Legacy.Range.size]
 rw[e1];refine sI he hj ej bf ?_ items.size 0 (zN0 _) (by omega) (by omega);exact zH0 q
end
section
variable {X:Cx}
def fe(z:Str):List Str->Option Nat
 | []=>none
 | a::r=>if a=z then some 0 else(fe z r).map (·+1)
theorem ny{z:Str}:∀{ns:List Str}{j:Nat},fe z ns=some j->ns[j]?=some z/\∀m,m<j->∀y,ns[m]?=some y->y≠z
 | [],_,h=>by simp [fe]at h
 | a::r,j,h=>by
   unfold fe at h
   by_cases c:a=z
   . rw[zF0 c]at h;cases h;exact⟨by simp [c],fun m hm=>absurd hm (by omega)⟩
   . rw [zD0 c]at h;obtain⟨i,hi,rfl⟩:=qS0 h;obtain⟨h1,h2⟩:=ny hi;refine⟨by simpa using h1,fun m hm y hy=>?_⟩;cases m with
     | zero=>cases(zO0 hy);exact c
     | succ m=>exact h2 m (by omega) y (by simpa using hy)
theorem mJ:∀{bs:List Str}{us:List Value}{i:Nat}{v:Value},Vals (bs.map V.str) us->us[i]?=some v->∃b t,bs[i]?=some b/\v=.str b t
 | [],_,_,_,.nil,h=>by simp at h
 | b::_,_,0,_,.cons r _,h=>by
   simp at h
   subst h;obtain⟨t,e⟩:=r;exact⟨b,t,rfl,e⟩
 | _::_,_,i+1,_,.cons _ t,h=>by
   obtain⟨b,t,h1,h2⟩:=mJ (i:=i) t (by simpa using h);exact⟨b,t,by simpa using h1,h2⟩
theorem eK(ns:List Str):(ns.map V.str).all gk=true:=by
 induction ns with
 | nil=>rfl
 | cons a r ih=>rw[qF0,List.all_cons,ih];rfl
theorem lB{ns:List Str}{its:List Value}{z:Str}{j:Nat}(r:Vals (ns.map V.str) its)(h:fe z ns=some j) :
 ∃hj:j<its.toArray.size,eqU (.str z) its.toArray[j]=true/\∀(m:Nat)(hm:m<its.toArray.size),m<j->eqU (.str z) its.toArray[m]=false:=by
 obtain⟨h1,h2⟩:=ny h;have hl:=r.length;rw[zE0]at hl;have jl:j<ns.length:=(zT0 h1).1;have hj:j<its.toArray.size:=by rw[zP0,←hl];exact jl
 refine⟨hj,?_,fun m hm mj=>?_⟩
 . obtain ⟨b,t,e1,e2⟩:=mJ r (i:=j) (v:=its.toArray[j]) (by simp);rw[e2];rw[h1]at e1;cases e1;show(z==z)=true
   simp
 . obtain ⟨b,t,e1,e2⟩:=mJ r (i:=m) (v:=its.toArray[m]) (by simp);rw[e2];show(b==z)=false
   have:=h2 m mj b e1
   simpa using this
def Bz(K:W.Frag):V->List V->Hp->VK->Prop:=fun x vs H Q=>∃(a:Addr)(ns:List Str)(z:Str)(j:Nat),x=.ref a/\vs=[.str z]/\SqT K H a (ns.map V.str)/\fe z ns=some j/\Q (.int (j:Int)) H
theorem yd:MtR X "tuple.index" (Bz X.K):=by
 intro pins s σ H x vs v us Q I rx rv h;obtain⟨a,ns,z,j,rfl,rfl,hq,hp,q⟩:=h;cases rx;obtain⟨u,rfl,ru⟩:=rv.one;obtain⟨its,r,⟨⟨cls,dd,data,sl⟩,ho,hc,n,hd⟩,hz⟩:=I.tuple hq;simp only at hc hd;subst hc hd;obtain⟨hj,e1,e2⟩:=lB r hp;refine call_meets F.slot_tuple_index ⟨_,ho,rfl⟩ F.entry_tuple_index (F.args_tuple_index_2 _ _) (nW a its.toArray n dd sl u (eqU (.str z)) j hj e1 e2) ⟨ho,fun y hy=>?_,?_⟩
 . exact dL ru rfl r (eK ns) y (by simpa using hy)
 . exact⟨.int (j:Int),H,I.tok _,⟨_,rfl⟩,q⟩
def BA(K:W.Frag):V->List V->Hp->VK->Prop:=fun x vs H Q=>∃(a:Addr)(ns:List Str)(z:Str)(j:Nat),x=.ref a/\vs=[.str z]/\SqL K H a (ns.map V.str)/\fe z ns=some j/\Q (.int (j:Int)) H
theorem ye:MtR X "list.index" (BA X.K):=by
 intro pins s σ H x vs v us Q I rx rv h;obtain⟨a,ns,z,j,rfl,rfl,hq,hp,q⟩:=h;cases rx;obtain⟨u,rfl,ru⟩:=rv.one;obtain⟨its,r,⟨⟨cls,dd,data,sl⟩,n,ho,hc,hdd,hd⟩,hz⟩:=I.list hq;simp only at hc hd;subst hc hd;obtain⟨hj,e1,e2⟩:=lB r hp;have h63:=ip;have hl:=r.length;refine call_meets F.slot_list_index ⟨_,ho,rfl⟩ F.entry_list_index (F.args_list_index_2 _ _) (SeqAt.list_indexAt a its.toArray n dd sl u (eqU (.str z)) j hj (by rw[zP0]at hj;omega) e1 e2) ⟨ho,fun y hy=>?_,?_⟩
 . exact dL ru rfl r (eK ns) y (by simpa using hy)
 . exact⟨.int (j:Int),H,I.tok _,⟨_,rfl⟩,q⟩
end
section
variable {κ:Type} [DecidableEq κ]
def kF(kvs:List (κ×V))(k:κ):Option V:=(kvs.find? fun kv=>decide (kv.1=k)).map (·.2)
def jx(kvs:List (κ×V))(k:κ)(v:V):List (κ×V):=
 if(kvs.any fun kv=>decide (kv.1=k))=true then kvs.map (fun kv=>if kv.1=k then(kv.1,v)else kv)else kvs++[(k,v)]
theorem mz{p:κ×V}{r:List (κ×V)}{k:κ}(e:p.1=k):kF (p::r) k=some p.2:=by simp [kF,List.find?_cons,e]
theorem mD{p:κ×V}{r:List (κ×V)}{k:κ}(e:¬ p.1=k):kF (p::r) k=kF r k:=by simp [kF,List.find?_cons,e]
theorem rz(k:κ):∀kvs:List (κ×V),(kvs.any fun kv=>decide (kv.1=k))=(kF kvs k).isSome
 | []=>rfl
 | p::r=>by
   rw[List.any_cons]
   by_cases e:p.1=k
   . simp only[mz e,decide_eq_true e,Bool.true_or,Option.isSome_some]
   . rw[mD e,decide_eq_false e,Bool.false_or];exact rz k r
theorem iQ(kvs:List (κ×V))(k:κ)(v:V):(jx kvs k v).length<=kvs.length+1:=by
 unfold jx
 split
 . rw[zE0];omega
 . rw[zR0,zV0,List.length_nil];omega
theorem RelO.isSome_eq{o:Option V}{u:Option Value}(r:RelO o u):o.isSome=u.isSome:=by
 cases o with
 | none=>cases u with
   | none=>rfl
   | some _=>exact(show False from r).elim
 | some _=>cases u with
   | none=>exact(show False from r).elim
   | some _=>rfl
theorem KV.val{kvs:List (κ×V)}{vs:List (κ×Value)}(r:KV kvs vs)(k:κ):RelO (kF kvs k) (valueAt vs k):=by
 unfold KV at r
 induction r with
 | nil=>exact True.intro
 | @cons p q ps qs h t ih=>
   obtain⟨h1,h2⟩:=h
   by_cases e:p.1=k
   . have e':q.1=k:=h1.symm.trans e;have b:valueAt (q::qs) k=some q.2:=by simp [valueAt,List.find?_cons,e']
     rw[mz e,b];exact h2
   . have e':¬ q.1=k:=fun z=>e (h1.trans z)
     have b:valueAt (q::qs) k=valueAt qs k:=by simp [valueAt,List.find?_cons,e']
     rw[mD e,b];exact ih
theorem KV.any{kvs:List (κ×V)}{vs:List (κ×Value)}(r:KV kvs vs)(k:κ):(kvs.any fun kv=>decide (kv.1=k))=vs.any fun kv=>decide (kv.1=k):=by
 unfold KV at r
 induction r with
 | nil=>rfl
 | cons h t ih=>rw[List.any_cons,List.any_cons,ih,h.1]
theorem KV.repl{kvs:List (κ×V)}{vs:List (κ×Value)}(r:KV kvs vs)(k:κ){y:V}{u:Value}(ry:RelV y u) :
 KV (kvs.map fun kv=>if kv.1=k then(kv.1,y)else kv) (vs.map fun kv=>if kv.1=k then(kv.1,u)else kv):=by
 unfold KV at r ⊢
 induction r with
 | nil=>exact .nil
 | @cons p q ps qs h t ih=>
   rw[qF0,qF0];refine .cons ?_ ih;obtain⟨h1,h2⟩:=h
   by_cases e:p.1=k
   . rw[zF0 e,zF0 (h1.symm.trans e)];exact⟨h1,ry⟩
   . rw[zD0 e,zD0 (fun z=>e (h1.trans z))];exact⟨h1,h2⟩
theorem KV.put{kvs:List (κ×V)}{vs:List (κ×Value)}(r:KV kvs vs)(k:κ){y:V}{u:Value}(ry:RelV y u):KV (jx kvs k y) (stored vs k u):=by
 unfold jx stored;rw[r.any k]
 by_cases e:(vs.any fun kv=>decide (kv.1=k))=true
 . rw[zF0 e,zF0 e];exact r.repl k ry
 . rw[zD0 e,zD0 e];exact Paired.snoc r ⟨rfl,ry⟩
theorem KV.length{kvs:List (κ×V)}{vs:List (κ×Value)}(r:KV kvs vs):kvs.length=vs.length:=Paired.length r
end
theorem wB{P:Program}{w:World}{k:Key}{u:Value}(r:RelV (kV k) u):(cJ P w).is k u=true:=by
 cases k with
 | inl i=>obtain⟨t,e⟩:=(show ∃t,u=Value.int i t from r);subst e;exact sy P w i t
 | inr x=>obtain⟨t,e⟩:=(show ∃t,u=Value.str x t from r);subst e;exact sx P w x t
theorem pJ{P:Program}{w:World}:∀{ks:List Key}{us:List Value},Vals (ks.map kV) us->ItemsAre (cJ P w) ks us
 | [],_,r=>by rw[List.map_nil]at r;cases r;exact .nil
 | k::ks,_,r=>by
   rw[qF0]at r;cases r with
   | cons h t=>exact .cons (wB h) (pJ t)
abbrev KT(H:Hp):List (List Key×V)->List (List Key×Addr×Value)->Prop:=Paired fun p q=>p.1=q.1/\H q.2.1=some (.tup (p.1.map kV))/\RelV p.2 q.2.2
theorem KT.val{H:Hp}{kvs:List (List Key×V)}{xs:List (List Key×Addr×Value)}(r:KT H kvs xs)(k:List Key):RelO (kF kvs k) ((atKey xs k).map (·.2)):=by
 induction r with
 | nil=>exact True.intro
 | @cons p q ps qs h t ih=>
   obtain⟨h1,_,h2⟩:=h
   by_cases e:p.1=k
   . have e':q.1=k:=h1.symm.trans e;have b:atKey (q::qs) k=some q.2:=by simp [atKey,List.find?_cons,e']
     rw[mz e,b];exact h2
   . have e':¬ q.1=k:=fun z=>e (h1.trans z)
     have b:atKey (q::qs) k=atKey qs k:=by simp [atKey,List.find?_cons,e']
     rw[mD e,b];exact ih
theorem KT.repl{H:Hp}{kvs:List (List Key×V)}{xs:List (List Key×Addr×Value)}(r:KT H kvs xs)(k:List Key){y:V}{u:Value}(ry:RelV y u) :
 KT H (kvs.map fun kv=>if kv.1=k then(kv.1,y)else kv) (xs.map (putAt k u)):=by
 induction r with
 | nil=>exact .nil
 | @cons p q ps qs h t ih=>
   rw[qF0,qF0];refine .cons ?_ ih;obtain⟨h1,h2,h3⟩:=h;unfold putAt
   by_cases e:p.1=k
   . rw[zF0 e,zF0 (h1.symm.trans e)];exact⟨h1,h2,ry⟩
   . rw[zD0 e,zD0 (fun z=>e (h1.trans z))];exact⟨h1,h2,h3⟩
theorem KT.put{H:Hp}{kvs:List (List Key×V)}{xs:List (List Key×Addr×Value)}(r:KT H kvs xs)(k:List Key){b:Addr}{y:V}{u:Value}(hb:H b=some (.tup (k.map kV)))(ry:RelV y u) :
 KT H (jx kvs k y) (storedH xs k b u):=by
 have e:(kvs.any fun kv=>decide (kv.1=k))=(atKey xs k).isSome:=by
  rw[rz,(r.val k).isSome_eq,Option.isSome_map]
 unfold jx storedH;rw[e]
 by_cases q:(atKey xs k).isSome=true
 . rw[zF0 q,zF0 q];exact r.repl k ry
 . rw[zD0 q,zD0 q];exact Paired.snoc r ⟨rfl,hb,ry⟩
theorem KT.keeps{H H':Hp}{kvs:List (List Key×V)}{xs:List (List Key×Addr×Value)}(r:KT H kvs xs)(ht:∀b ys,H b=some (.tup ys)->H' b=some (.tup ys)):KT H' kvs xs:=
 Paired.mapP r fun _ _ z=>⟨z.1,ht _ _ z.2.1,z.2.2⟩
section
variable {P:Program} {w:World} {H:Hp} {h:Heap} {a:Addr}
theorem Cy{u:HO}(ok:HOk P w H h)(e:Rd H a u):ObjOk P w H h a u:=e.ok ok
theorem AN{kvs:List (Key×V)}(ok:HOk P w H h)(e:Rd H a (.dK kvs)):kvs.length<=sizeLine/\(a==sysModules)=false/\∃vs,KV kvs vs/\h.DictOf (cJ P w) a vs:=
 show ObjOk P w H h a (.dK kvs)from Cy ok e
theorem CM{kvs:List (Key×V)}(ok:HOk P w H h)(e:H a=some (.dK kvs)):kvs.length<=sizeLine/\(a==sysModules)=false/\∃vs,KV kvs vs/\h.DictOf (cJ P w) a vs:=AN ok (.inl e)
theorem uZ{ks:List Key}(ok:HOk P w H h)(e:H a=some (.tup (ks.map kV))):(tupleKind (cJ P w)).is h ks a:=by
 obtain⟨_,its,r,⟨o,h1,h2,n,h3⟩,_⟩:=(show ObjOk P w H h a (.tup (ks.map kV))from ok a _ e)
 exact⟨o,its.toArray,n,h1,h2,h3,by simpa using pJ r⟩
theorem AI{kvs:List (List Key×V)}(ok:HOk P w H h)(e:Rd H a (.dT kvs)):kvs.length<=sizeLine/\(a==sysModules)=false/\
 ∃xs,KT H kvs xs/\h.DictOfH (tupleKind (cJ P w)) a xs:=by
 obtain⟨z,y,xs,r,o,es,ep,h1,h2,h3,h4,h5⟩:=(show ObjOk P w H h a (.dT kvs)from Cy ok e)
 refine ⟨z,y,xs,r,o,es,ep,h1,h2,h3,h4,fun x hx=>?_,h5⟩;have all:∀{l:List (List Key×V)}{m:List (List Key×Addr×Value)},KT H l m->∀x∈m,(tupleKind (cJ P w)).is h x.1 x.2.1:=by
  intro l m q
  induction q with
  | nil=>intro x hx;exact nomatch hx
  | @cons p q ps qs hq t ih=>
    intro x hx;rcases zY0 hx with e | hx
    . subst e;exact uZ ok (by rw[←hq.1];exact hq.2.1)
    . exact ih x hx
 exact all r x hx
theorem dt_of{kvs:List (List Key×V)}(ok:HOk P w H h)(e:H a=some (.dT kvs)):kvs.length<=sizeLine/\(a==sysModules)=false/\
 ∃xs,KT H kvs xs/\h.DictOfH (tupleKind (cJ P w)) a xs:=AI ok (.inl e)
end
def DGet(H:Hp)(a:Addr)(y:V)(r:Option V):Prop:=
 (∃kvs k,Rd H a (.dK kvs)/\y=kV k/\r=kF kvs k)∨∃kvs k b,Rd H a (.dT kvs)/\y=.ref b/\H b=some (.tup (k.map kV))/\r=kF kvs k
def DPut(H:Hp)(a:Addr)(y v:V)(H':Hp):Prop:=
 (∃kvs k,H a=some (.dK kvs)/\y=kV k/\kvs.length<sizeLine/\H'=upd H a (.dK (jx kvs k v)))∨
 ∃kvs k b,H a=some (.dT kvs)/\y=.ref b/\H b=some (.tup (k.map kV))/\kvs.length<sizeLine/\H'=upd H a (.dT (jx kvs k v))
theorem DGet.k{H:Hp}{a:Addr}{kvs:List (Key×V)}{k:Key}(e:H a=some (.dK kvs)):DGet H a (kV k) (kF kvs k):=.inl ⟨kvs,k,.inl e,rfl,rfl⟩
theorem DPut.k{H:Hp}{a:Addr}{kvs:List (Key×V)}{k:Key}{v:V}(e:H a=some (.dK kvs))(hl:kvs.length<sizeLine):DPut H a (kV k) v (upd H a (.dK (jx kvs k v))):=.inl ⟨kvs,k,e,rfl,hl,rfl⟩
section
variable {X:Cx} {pins:List (Addr×Obj)} {σ:St} {H:Hp} {s:Shared} {a:Addr} {y v:V} {u r:Value} {o:Option V} {A:Around} {E:Value->Shared->Prop}
theorem Inv.big(I:Inv X pins σ H s):sysModules<s.heap.objs.size:=by
 have h:mainGlobals<s.heap.objs.size:=(I.mod.glob.keeps I.bk).lt;exact Nat.lt_trans (by decide) h
theorem yH{Q:Value->Shared->Prop}(hu:A.units+1<cLine)(I:Inv X pins σ H s)(g:DGet H a y (some v))(ry:RelV y u)(h:∀w' s',Inv X pins σ H s'->RelV v w'->Q w' s') :
 wpAny (model X.prog X.w) A (getItem (.ref a) u) Q E s:=by
 rcases g with⟨kvs,k,e,ey,l⟩ | ⟨kvs,k,b,e,ey,eb,l⟩
 . subst ey;obtain⟨z,hd,vs,rel,dd⟩:=AN I.hok e;obtain⟨w',hw,rw'⟩:=RelO.some_of (v:=v) (o:=valueAt vs k) (by rw[l];exact rel.val k);exact wpAny_getItem_of (wB ry) dd.mapOf hw (h w' _ (I.tok _) rw')
 . subst ey;cases(show u=Value.ref b from ry);obtain⟨z,hd,xs,rel,dd⟩:=AI I.hok e;obtain⟨w',hw,rw'⟩:=RelO.some_of (v:=v) (o:=(atKey xs k).map (·.2)) (by rw[l];exact rel.val k);obtain⟨p,hp,hp2⟩:=qS0 hw;refine wpAny_getItem_heap (tupleKind_room_in1 hu) (uZ I.hok eb) dd hp ?_;rw[hp2];exact h w' _ (I.tok _) rw'
theorem rc{h':Heap}{t':Nat}{ob:HO}(I:Inv X pins σ H s)(mu:Mut (H a))(hs:Heap.SameBut a s.heap h')(he:∃q,h'.get? a=some q)(new:ObjOk X.prog X.w (upd H a ob) h' a ob) :
 Inv X pins σ (upd H a ob) { s with heap:=h',toks:=t' }:=
 I.write (x:=a) (e:=a) mu (.inl rfl) (fun b q hb z=>(hs.2 b hb).trans z) he new
theorem AO{P:Program}{w:World}{H':Hp}{h':Heap}{kvs:List (Key×V)}{vs:List (Key×Value)}(z:kvs.length<=sizeLine)(hd:(a==sysModules)=false)(rel:KV kvs vs)(dd:h'.DictOf (cJ P w) a vs) :
 ObjOk P w H' h' a (.dK kvs):=⟨z,hd,vs,rel,dd⟩
theorem yG{H':Hp}{Q:Unit->Shared->Prop}(hu:A.units+1<cLine)(I:Inv X pins σ H s)(g:DPut H a y v H')(ry:RelV y u)(rv:RelV v r)(h:∀s',Inv X pins σ H' s'->Q () s') :
 wpAny (model X.prog X.w) A (setItem (.ref a) u r) Q E s:=by
 rcases g with⟨kvs,k,e,ey,l,eH⟩ | ⟨kvs,k,b,e,ey,eb,l,eH⟩
 . subst ey eH;obtain⟨z,hd,vs,rel,dd⟩:=CM I.hok e;have hz:vs.length<=sizeLine:=by rw[←rel.length];exact z
   have hl:(jx kvs k v).length<=sizeLine:=by have:=iQ kvs k v;omega
   refine wpAny_setItem_pairs (hsz:=hz) (wB ry) dd fun h' dd' hs=>h _ ?_
   have he:∃q,h'.get? a=some q:=let⟨q,_,_,hq,_⟩:=dd';⟨q,hq⟩
   exact rc I (by rw[e];exact True.intro) hs he (AO hl hd (rel.put k rv) dd')
 . subst ey eH;cases(show u=Value.ref b from ry);obtain⟨z,hd,xs,rel,dd⟩:=dt_of I.hok e;have hz:xs.length<=sizeLine:=by rw[←Paired.length rel];exact z
   have hl:(jx kvs k v).length<=sizeLine:=by have:=iQ kvs k v;omega
   refine wpAny_setItem_heap (hsz:=hz) (tupleKind_room_in1 hu) (uZ I.hok eb) dd fun h' dd' hs=>h _ ?_
   obtain⟨q,es,ep,hq,h2,h3,h4,_,h5⟩:=dd';refine rc I (by rw[e];exact True.intro) hs ⟨q,hq⟩ ⟨hl,hd,_,(rel.put k eb rv).keeps fun c ys ec=>?_,q,es,ep,hq,h2,h3,h4,h5⟩;rw[aq (dh ec e (fun z=>nomatch z))];exact ec
end
def NoSl(i:Expr):Prop:=∀ov iv,subscripted i false ov iv=operate [ov,iv] (getItem ov iv)
theorem Bk{prog:Program}{w:World}{A:Around}{E:Value->Shared->Prop}{s:Shared}{env:Env}{value slice:Expr}{pos:Pos}{T id:String}{Q:Value->Shared->Prop}
 (hl:typeLookup (.type T) "__getitem__"=pure (some (.builtin id))) (hs:NoSl slice)
 (h:wpAny (model prog w) A (eval value env) (fun o s₁=>wpAny (model prog w) A (eval slice env) (fun i s₂=>s₂.TypeIs o T/\wpAny (model prog w) A (getItem o i) Q E s₂) E s₁) E s) :
 wpAny (model prog w) A (eval (.Subscript value slice pos) env) Q E s:=by
 refine Subscript_ (wpAny_mono h (fun o s₁ h₁=>wpAny_mono h₁ (fun i s₂ h₂=>?_) fun _ _ x=>x) fun _ _ x=>x);obtain⟨hT,h₂⟩:=h₂;unfold subscriptTail;refine zA0 ?_;rw[getitemInPython_of_ne hT.not_modules];refine zA0 (wpAny_specialOf hT hl ?_);have fin:wpAny (model prog w) A (subscripted slice false o i) (fun r s₃=>wpAny (model prog w) A (letTemporaryGo value o r >>= fun _=>pure r) Q E s₃) E s₂:=by
  rw[hs o i];exact wpAny_operating (wpAny_mono h₂ (fun r s₃ h₃=>zA0 (wpAny_letTemporaryGo (zH0 h₃))) fun _ _ x=>x)
 first
  | exact zH0 (zA0 fin)
  | exact zA0 (zH0 (zA0 fin))
  | exact zA0 fin
theorem sQ {X:Cx} {pins:List (Addr×Obj)} {σ:St} {H:Hp} {s:Shared} {a:Addr} {y:V} {o:Option V} (I:Inv X pins σ H s) (g:DGet H a y o):s.TypeIs (.ref a) "dict":=by
 rcases g with⟨kvs,k,e,_,_⟩ | ⟨kvs,k,b,e,_,_,_⟩
 . obtain⟨_,_,vs,_,dd⟩:=AN I.hok e;exact dd.typeIs
 . obtain⟨_,_,xs,_,dd⟩:=AI I.hok e;exact dd.typeIs
def tDGet(td ty:TE):TE:=fun σ H Q=>td σ H fun x H1=>ty σ H1 fun y H2=>∃a v,x=.ref a/\DGet H2 a y (some v)/\Q v H2
def sDPut(td ty tv:TE):TS:=fun D σ H=>tv σ H fun v H1=>td σ H1 fun x H2=>ty σ H2 fun y H3=>∃a H4,x=.ref a/\DPut H3 a y v H4/\D.nx σ H4
section
variable {X:Cx} {o i e value:Expr} {pos pos' tpos:Pos} {td ty tv:TE}
theorem ww(hu:X.A.units+1<cLine)(ho:PE X o td)(hi:PE X i ty)(hs:NoSl i):PE X (.Subscript o i pos) (tDGet td ty):=by
 intro pins s σ H Q I h;refine Bk PySem.F.slot_dict_getitem.lookup hs (thn (ho pins s σ H _ I h) fun u s1 ⟨x,H1,I1,rx,q1⟩=>thn (hi pins s1 σ H1 _ I1 q1) fun iv s2 ⟨y,H2,I2,ry,a,v,ex,g,q2⟩=>?_);subst ex;obtain rfl:u=Value.ref a:=rx;exact⟨sQ I2 g,yH hu I2 g ry fun w' s3 I3 rw'=>⟨v,H2,I3,rw',q2⟩⟩
theorem BC(hu:X.A.units+1<cLine)(ho:PE X o td)(hi:PE X i ty)(hv:PE X value tv)(hs:swapsWith value (some (.Subscript o i pos')) pos.line X.env=pure false) :
 PS X (.Assign [.Subscript o i pos'] value pos) (sDPut td ty tv):=by
 intro pins s σ H D I h;refine wpAny_Assign_Subscript (thn (hv pins s σ H _ I h) fun r s1 ⟨v,H1,I1,rv,q1⟩=>thn (ho pins s1 σ H1 _ I1 q1) fun u s2 ⟨x,H2,I2,rx,q2⟩=>thn (hi pins s2 σ H2 _ I2 q2) fun iv s3 ⟨y,H3,I3,ry,a,H4,ex,g,q3⟩=>?_) hs;subst ex;obtain rfl:u=Value.ref a:=rx;exact yG hu I3 g ry rv fun s4 I4=>⟨σ,H4,I4,q3⟩
end
theorem AQ {P:Program} {w:World} {H:Hp} (h:Heap) (hb:sysModules<h.objs.size):ObjOk P w H (h.push { cls:=.type "dict",data:=.dict #[] }) h.objs.size (.dK []):=
 ⟨zN0 _,beq_eq_false_iff_ne.mpr (Ne.symm (zS0 hb)),[],.nil,Heap.DictOf.new h⟩
def tQ:List (TE×TE)->St->Hp->(List (V×V)->Hp->Prop)->Prop
 | [],_,H,Q=>Q [] H
 | (tk,tv)::r,σ,H,Q=>tk σ H fun x H1=>tv σ H1 fun y H2=>tQ r σ H2 fun ps H3=>Q ((x,y)::ps) H3
abbrev VV:List (V×V)->List (Value×Value)->Prop:=Paired fun p q=>RelV p.1 q.1/\RelV p.2 q.2
def PPs(X:Cx)(pos:Pos)(keys:List (Option Expr))(values:List Expr)(trs:List (TE×TE)):Prop:=
 ∀(pins:List (Addr×Obj))(s:Shared)(σ:St)(H:Hp)(Q:List (V×V)->Hp->Prop),Inv X pins σ H s->tQ trs σ H Q ->
  wpAny (model X.prog X.w) X.A (evalPairs (pairTrees keys values X.env pos)) (fun vs s'=>∃ps H',Inv X pins σ H' s'/\VV ps vs/\Q ps H') X.xe s
theorem BF{X:Cx}{pos:Pos}:PPs X pos [] [] []:=fun pins s σ H Q I h=>pairTrees_nil_walk ⟨[],H,I,.nil,h⟩
theorem nu{X:Cx}{pos:Pos}{k v:Expr}{ks:List (Option Expr)}{vs:List Expr}{tk tv:TE}{trs:List (TE×TE)}(hk:PE X k tk)(hv:PE X v tv)(hr:PPs X pos ks vs trs) :
 PPs X pos (some k::ks) (v::vs) ((tk,tv)::trs):=fun pins s σ H Q I h=>
 pairTrees_cons_walk (thn (hk pins s σ H _ I h) fun u s1 ⟨x,H1,I1,rx,q1⟩=>thn (hv pins s1 σ H1 _ I1 q1) fun w2 s2 ⟨y,H2,I2,ry,q2⟩=>
  thn (hr pins s2 σ H2 _ I2 q2) fun ws s3 ⟨ps,H3,I3,rel,q3⟩=>⟨(x,y)::ps,H3,I3,.cons ⟨rx,ry⟩ rel,q3⟩)
def kR(kvs more:List (Key×V)):List (Key×V):=more.foldl (fun acc kv=>jx acc kv.1 kv.2) kvs
theorem KV.merge:∀{more:List (Key×V)}{rs:List (Key×Value)}{kvs:List (Key×V)}{vs:List (Key×Value)},KV more rs->KV kvs vs->KV (kR kvs more) (merged vs rs):=by
 intro more rs kvs vs r;unfold KV at r
 induction r generalizing kvs vs with
 | nil=>intro q;exact q
 | @cons p q ps qs h t ih=>
   intro r0;have e:KV (jx kvs p.1 p.2) (stored vs q.1 q.2):=by
    have:=r0.put p.1 h.2
    rw[←h.1];exact this
   exact ih e
theorem jB:∀(more kvs:List (Key×V)),(kR kvs more).length<=kvs.length+more.length
 | [],kvs=>by show kvs.length<=kvs.length+0;omega
 | p::r,kvs=>by
   have h1:=jB r (jx kvs p.1 p.2);have h2:=iQ kvs p.1 p.2;show(kR (jx kvs p.1 p.2) r).length<=_;rw[zV0];omega
theorem oy{P:Program}{w:World}:∀{kvs:List (Key×V)}{ws:List (Value×Value)},VV (kvs.map fun kv=>(kV kv.1,kv.2)) ws->∃rs,Carries (cJ P w) ws rs/\KV kvs rs
 | [],_,r=>by rw[List.map_nil]at r;cases r;exact⟨[],True.intro,.nil⟩
 | p::kvs,_,r=>by
   rw[qF0]at r;cases r with
   | @cons a b as bs h t=>
     obtain⟨rs,c,q⟩:=oy (P:=P) (w:=w) t;obtain⟨b1,b2⟩:=b;exact⟨(p.1,b2)::rs,⟨wB h.1,rfl,c⟩,.cons ⟨rfl,h.2⟩ q⟩
def tDisp(trs:List (TE×TE)):TE:=fun σ H Q=>∀p,H p=none->tQ trs σ (upd H p (.dK [])) fun ps H2=>H2 p=some (.dK [])/\∃kvs:List (Key×V),ps=kvs.map (fun kv=>(kV kv.1,kv.2))/\kvs.length<=15/\Q (.ref p) (upd H2 p (.dK (kR [] kvs)))
theorem BJ{X:Cx}{pos:Pos}{keys:List (Option Expr)}{values:List Expr}{trs:List (TE×TE)}(h:PPs X pos keys values trs)(hall:keys.all (·.isSome)=true)(hl:keys.length=values.length)(h0:keys≠[])
 (h15:keys.length<=15):PE X (.Dict keys values pos) (tDisp trs):=by
 intro pins s σ H Q I q;have hn:=I.hok.fresh (zI0 s.heap.objs.size);have I1:=I.laid (a:=s.heap.objs.size) (o:=.dK []) (h':=s.heap.push { cls:=.type "dict",data:=.dict #[] }) (t':=s.toks) (fun _ _ q=>zL0 _ q) (zI0 _) (AQ s.heap I.big);refine wpAny_Dict_walk (knd:=cJ X.prog X.w) hall hl h0 h15 (thn (h pins _ σ _ _ I1 (q _ hn)) fun ws s2 ⟨ps,H2,I2,rel,e,kvs,ep,lk,q2⟩=>?_);subst ep;obtain⟨rs,c,rk⟩:=oy (P:=X.prog) (w:=X.w) rel;obtain⟨z,hd,vs0,r0,dd⟩:=CM I2.hok e;cases r0;refine⟨rs,c,dd,fun h' dd' hs=>⟨.ref s.heap.objs.size,_,?_,rfl,q2⟩⟩;have hz:(kR [] kvs).length<=sizeLine:=by
  have h1:=jB kvs [];rw[List.length_nil]at h1;rw[sizeLine_eq];omega
 have he:∃q,h'.get? s.heap.objs.size=some q:=let⟨q,_,_,hq,_⟩:=dd';⟨q,hq⟩
 exact rc I2 (by rw[e];exact True.intro) hs he (AO hz hd (rk.merge .nil) dd')
section
variable {X:Cx}
theorem Inv.tupD{pins:List (Addr×Obj)}{σ:St}{H:Hp}{s:Shared}{a:Addr}{xs:List V}(I:Inv X pins σ H s)(h:H a=some (.tup xs)):∃ob,s.heap.get? a=some ob/\ob.dict=none:=by
 obtain⟨_,_,_,_,o,e,d⟩:=(show ObjOk X.prog X.w H s.heap a (.tup xs)from I.hok a _ h)
 exact⟨o,e,d⟩
def CY(K:W.Frag)(to:TE)(t:TA):TE:=fun σ H Q=>to σ H fun x H1=>∃(a:Addr)(ns:List Str),x=.ref a/\(H1 a=some (.lst (ns.map V.str))∨H1 a=some (.tup (ns.map V.str)))/\t σ H1 fun vs H2=>(H2 a=H1 a)/\∃(z:Str)(j:Nat),vs=[.str z]/\fe z ns=some j/\Q (.int (j:Int)) H2
variable {o e:Expr} {es:List Expr} {to:TE} {t:TA} {apos cpos:Pos}
theorem rV (pl:PlainAttrs "list") (pt:PlainAttrs "tuple") (ho:PE X o to) (ha:PA X (e::es) t)
 (hbase:attributeBase o "index" X.env (eval o X.env)=eval o X.env:=by rfl)
 (hfew:((backTo cpos (starEach (e::es) X.env)).all (fun x=>!x.1)&&(backToKw cpos (keywordEach [] X.env)).all (fun x=>x.1.isSome)
  &&decide ((e::es).length+([]:List Keyword).length+(if([]:List Keyword).isEmpty then 0 else 1)<30))=true:=by rfl)
 (hline:(apos.endLine==cpos.line)=true:=by rfl) (hs:starEach (e::es) X.env=(false,eval e X.env)::starEach es X.env:=by rfl) (hplain:(backTo cpos (starEach es X.env)).any (·.1)=false:=by rfl) :
 PE X (.Call (.Attribute o "index" apos) (e::es) [] cpos) (CY X.K to t):=by
 intro pins s σ H Q I h;refine wpAny_Call_method_late hbase hfew hline rfl (thn (ho pins s σ H _ I h) fun v s1 ⟨x,H1,I1,r1,a,ns,ex,hh,q1⟩=>?_);subst ex;cases r1;have hA:=ha cpos pins s1 σ H1 _ I1 q1;rw[hs]at hA ⊢;rcases hh with hh | hh
 . obtain ⟨its,_,p,_⟩:=I1.list (zG0 hh);obtain⟨ob,n,e1,c,d,_⟩:=id p;refine⟨"list","list.index",pl,F.slot_list_index,F.type_list_index,p.isList.typeIs,fun b eb=>?_,?_⟩
   . cases eb;exact⟨ob,e1,d⟩
   . refine Calls.callWith_builtin (by show(false||(backTo cpos (starEach es X.env)).any (·.1))=false;rw[hplain] <;> rfl) (Calls.evalArgs_plain ?_);exact thn hA fun us s2 ⟨vs,H2,I2,r2,ek,z,j,ez,hp,q2⟩=>ye pins s2 σ H2 (.ref a) vs (.ref a) us Q I2 rfl r2 ⟨a,ns,z,j,rfl,ez,zG0 (ek.trans hh),hp,q2⟩
 . obtain ⟨its,_,p,_⟩:=I1.tuple (zC0 hh);refine⟨"tuple","tuple.index",pt,F.slot_tuple_index,F.type_tuple_index,p.typeIs,fun b eb=>?_,?_⟩
   . cases eb;exact I1.tupD hh
   . refine Calls.callWith_builtin (by show(false||(backTo cpos (starEach es X.env)).any (·.1))=false;rw[hplain] <;> rfl) (Calls.evalArgs_plain ?_);exact thn hA fun us s2 ⟨vs,H2,I2,r2,ek,z,j,ez,hp,q2⟩=>yd pins s2 σ H2 (.ref a) vs (.ref a) us Q I2 rfl r2 ⟨a,ns,z,j,rfl,ez,zC0 (ek.trans hh),hp,q2⟩
end
theorem CompScope.three{X:Cx}{x y z u:Str}{scope:Scope}{k l m:Nat}{c d e:Addr}{cl:List (Str×Addr)}(c1:closureFor scope X.env=pure cl)(c2:∀y∈scope.names,y.2≠.cell)(c3:scope.kind=.function)(c4:∀y∈scope.names,y.2=.local->scope.names.lookup y.1=some .local)
 (c5:scope.names.lookup x=some .local) (nd:[x,y,z,u].Nodup) (hcl:cl=[(y,c),(z,d),(u,e)]) (hc:X.env.cells.lookup y=some c) (hd:X.env.cells.lookup z=some d) (he:X.env.cells.lookup u=some e) (c6:((relabel scope X.env).names.all fun p=>!(p.2==.cell||p.2==.free)||(cl.lookup p.1).isSome)=true)
 (hr:(relabel scope X.env).names.lookup y=some .cell) (hk:X.N[k]?=some y) (hs:X.env.scope.names.lookup y=some .cell)
 (hr2:(relabel scope X.env).names.lookup z=some .cell) (hk2:X.N[l]?=some z) (hs2:X.env.scope.names.lookup z=some .cell)
 (hr3:(relabel scope X.env).names.lookup u=some .cell) (hk3:X.N[m]?=some u) (hs3:X.env.scope.names.lookup u=some .cell):CompScope X x [y,z,u] [k,l,m] scope cl where
 clos:=c1
 nocell:=c2
 kind:=c3
 names:=c4
 own:=c5
 nd:=nd
 sub:=fun p hp=>by
  subst hcl;rcases zY0 hp with h | h
  . rw[h];assumption
  . rcases zY0 h with h | h
    . rw[h];assumption
    . rw[zQ0 h];assumption
 has:=c6
 outs:=fun j w h=>by
  have nyz:y≠z:=fun e=>by simp [e]at nd
  have nyu:y≠u:=fun e=>by simp [e]at nd
  have nzu:z≠u:=fun e=>by simp [e]at nd
  subst hcl
  match j,h with
  | 0,h=>
    have e:y=w:=zO0 h;subst e;exact⟨hr,k,c,rfl,hk,by simp [List.lookup],hs⟩
  | 1,h=>
    have e:z=w:=zO0 h;subst e
    have:(z==y)=false:=by simpa using Ne.symm nyz
    exact⟨hr2,l,d,rfl,hk2,by simp [List.lookup,this],hs2⟩
  | 2,h=>
    have ew:u=w:=zO0 h;subst ew;have h1:(u==y)=false:=by simpa using Ne.symm nyu
    have h2:(u==z)=false:=by simpa using Ne.symm nzu
    exact⟨hr3,m,e,rfl,hk3,by simp [List.lookup,h1,h2],hs3⟩
  | j+3,h=>simp at h
section
variable {X:Cx}
theorem pO{x:V}:∀{xs:List V}{us:List Value},Vals xs us->xs.all gk=true->us.countP (eqU x)=xs.countP fun y=>eqV y x
 | _,_,.nil,_=>rfl
 | y::xs,u::us,.cons r t,f=>by
   rw[List.all_cons,Bool.and_eq_true]at f;rw[List.countP_cons,List.countP_cons,ot r f.1,pO t f.2]
def wl(K:W.Frag):V->List V->Hp->VK->Prop:=fun x vs H Q=>∃(a:Addr)(xs:List V)(z:V),x=.ref a/\vs=[z]/\SqL K H a xs/\xs.all gk=true/\gk z=true/\Q (.int ((xs.countP fun y=>eqV y z:Nat):Int)) H
theorem su:MtR X "list.count" (wl X.K):=by
 intro pins s σ H x vs v us Q I rx rv h;obtain⟨a,xs,z,rfl,rfl,hq,fs,fz,q⟩:=h;cases rx;obtain⟨u,rfl,ru⟩:=rv.one;obtain⟨its,r,⟨⟨cls,dd,data,sl⟩,n,ho,hc,hdd,hd⟩,hz⟩:=I.list hq;simp only at hc hd;subst hc hd;refine call_meets F.slot_list_count ⟨_,ho,rfl⟩ F.entry_list_count (F.args_list_count_2 _ _) (SeqAt.list_countAt a its.toArray n dd sl u (eqU z)) ⟨ho,fun y hy=>?_,?_⟩
 . exact dL ru fz r fs y (by simpa using hy)
 . rw[show its.toArray.toList=its from rfl,pO r fs];exact⟨.int ((xs.countP fun y=>eqV y z:Nat):Int),H,I.tok _,⟨_,rfl⟩,q⟩
end
theorem rN{α:Type}(l:List α):∀m,m<=l.length->((List.range m).filterMap fun k=>l[l.length-1-k]?)=l.reverse.take m
 | 0,_=>by simp
 | m+1,h=>by
   rw[List.range_succ,List.filterMap_append,rN l m (by omega),qI0,List.getElem?_reverse (by omega)];cases e:l[l.length-1-m]? with
   | none=>simp [e]
   | some y=>simp [e]
theorem mZ(its:List Value):((List.range its.length).filterMap fun(k:Nat)=>its.toArray[(((its.length:Nat):Int)-1+(k:Int)*(-1)).toNat]?)=its.reverse:=by
 have e:=rN its its.length (zI0 _);rw[←List.length_reverse,qG0]at e;rw[List.length_reverse]at e;rw[←e];refine congrArg (fun f=>List.filterMap f (List.range its.length)) (funext fun k=>?_);have e1:(((its.length:Nat):Int)-1+(k:Int)*(-1)).toNat=its.length-1-k:=by omega
 rw[e1]
 simp
theorem xI(its:List Value):slicePick its.toArray none none (some (-1))=its.reverse.toArray:=by
 have e1:sliceBounds none none (some (-1)) its.toArray.size=(((its.length:Nat):Int)-1,-1,-1):=by simp [sliceBounds]
 have e2:sliceRange (((its.length:Nat):Int)-1) (-1) (-1)=(List.range its.length).map fun(k:Nat)=>(((its.length:Nat):Int)-1+(k:Int)*(-1)).toNat:=by
  unfold sliceRange;have e3:(if(-1:Int)>0 then(if(((its.length:Nat):Int)-1) < -1 then(-1-(((its.length:Nat):Int)-1)+-1-1) / -1 else 0)else(if(((its.length:Nat):Int)-1) > -1 then((((its.length:Nat):Int)-1) - -1 - -1-1) / (- -1)else 0))=((its.length:Nat):Int):=by
   rw[zD0 (by decide)]
   split
   . have:((((its.length:Nat):Int)-1) - -1 - -1-1)=((its.length:Nat):Int):=by omega
     rw[this,show(- (-1:Int))=1 from rfl,Int.ediv_one]
   . omega
  simp only[e3];rw[qV0];refine congrArg (fun f=>List.map f (List.range its.length)) (funext fun k=>?_);omega
 unfold slicePick;rw[e1];show((sliceRange (((its.length:Nat):Int)-1) (-1) (-1)).filterMap (its.toArray[·]?)).toArray=_;rw[e2,List.filterMap_map];exact congrArg List.toArray (mZ its)
section
variable {prog:Program} {w:World} {A:Around} {E:Value->Shared->Prop} {s:Shared}
theorem Bf{t sl:Addr}{its:List Value}{tk:Tok}{Q:Value->Shared->Prop}(ht:IsTup s.heap t its.toArray)(hs:s.heap.IsSliceOf sl .none .none (.int (-1) tk))
 (h:Q (.ref s.heap.objs.size) { s with heap:=s.heap.push { cls:=.type "tuple",data:=.seq its.reverse.toArray } }) (hz:its.length<=sizeLine):wpAny (model prog w) A (getItem (.ref t) (.ref sl)) Q E s:=by
 have fits:sizeOk (.seq its.reverse.toArray):=by
  show its.reverse.toArray.size<=sizeLine;rw[zP0,List.length_reverse];exact hz
 obtain⟨os,hos,hcs,hds⟩:=id hs;have hTs:s.TypeIs (.ref sl) "slice":=⟨os,hos,hcs⟩
 unfold getItem
 try with_reducible refine wpAny_holding ?_
 first | refine zA0 (zH0 ?_) | skip
 refine zA0 (wpAny_sequenceKey ht.typeIs (by decide) ?_);refine zA0 (wpAny_callSpecial?_slot (name:=Str.ofString "__getitem__") ht.typeIs PyProof.Rows.slot_tuple_getitem
  (wpAny_call_entry PyProof.Rows.slot_tuple_getitem ht.typeIs entry_tuple_getitem ?_ (args_tuple_getitem _ _)))
 show wpAny _ _ (Builtin.Tuple.tupleItemsOf (.ref t) >>= _) _ _ s;refine zA0 (tupleItemsOf_ ht ?_);refine zA0 (wpAny_typeOf hTs ?_);rw[zF0 (by decide)];have ap:∀{Q':Int×Int×Nat->Shared->Prop},Q' (((its.length:Nat):Int)-1,-1,its.length) s->wpAny (model prog w) A.in1 (Builtin.Slice.sliceApplied (.ref sl) (pure ((its.toArray.size:Nat):Int))) Q' E s:=by
  intro Q' q;unfold Builtin.Slice.sliceApplied Builtin.Slice.sliceFields;refine zA0 (zA0 (wpAny_field hos hds (x:=.none) rfl (zA0 (wpAny_field hos hds (x:=.none) rfl (zA0 (wpAny_field hos hds (x:=.int (-1) tk) rfl (zH0 ?_)))))));refine zA0 (slicePart_int ?_);show wpAny _ _ (if((-1:Int)==0)=true then _ else _) _ _ s;rw[zD0 (by decide)];refine zA0 (slicePart_none (zA0 (slicePart_none (zA0 (zH0 ?_)))));have e1:Builtin.Slice.sliceAdjust none none (-1) ((its.toArray.size:Nat):Int)=(((its.length:Nat):Int)-1,-1):=by simp [Builtin.Slice.sliceAdjust]
  have e2:Builtin.Slice.slicePlaces (((its.length:Nat):Int)-1) (-1) (-1)=its.length:=by
   unfold Builtin.Slice.slicePlaces;rw[zD0 (by decide)]
   split
   . have:(((its.length:Nat):Int)-1 - -1-1) / (- -1)+1=((its.length:Nat):Int):=by
      rw[show(- (-1:Int))=1 from rfl,Int.ediv_one];omega
     rw[this];omega
   . omega
  show wpAny _ _ (match Builtin.Slice.sliceAdjust none none (-1) ((its.toArray.size:Nat):Int)with | (lo,hi)=>pure (lo,(-1:Int),Builtin.Slice.slicePlaces lo hi (-1))) _ _ s;rw[e1];show wpAny _ _ (pure (((its.length:Nat):Int)-1,(-1:Int),Builtin.Slice.slicePlaces (((its.length:Nat):Int)-1) (-1) (-1))) _ _ s;rw[e2];exact zH0 q
 refine zA0 (ap ?_);have no:¬ (((((its.length:Nat):Int)-1==0)&&((-1:Int)==1)&&(its.length==its.toArray.size))=true):=by simp
 show wpAny _ _ (if((((its.length:Nat):Int)-1==0)&&((-1:Int)==1)&&(its.length==its.toArray.size))=true then _ else _) _ _ s;rw[zD0 no,mZ]
 first
  | exact zA0 (m:=Builtin.Tuple.tupleExact _) (wpAny_newObj_type (zH0 ⟨_,rfl,zH0 h⟩) fits)
  | exact zA0 (m:=Builtin.Tuple.tupleExact _) (wpAny_newObj_type (zA0 (zH0 (zH0 ⟨_,rfl,zH0 h⟩))) fits)
  | exact zA0 (zA0 (m:=Builtin.Tuple.tupleExact _) (wpAny_newObj_type (zH0 (zH0 ⟨_,rfl,zH0 h⟩)) fits))
  | exact zA0 (zA0 (m:=Builtin.Tuple.tupleExact _) (wpAny_newObj_type (zH0 ⟨_,rfl,zH0 h⟩) fits))
end
section
variable {X:Cx} {e k:Expr} {te tk:TE} {pos p2:Pos}
def tRev(K:W.Frag)(te tk:TE):TE:=fun σ H Q=>te σ H fun x H1=>tk σ H1 fun y H2=>y=.int (-1)/\∃a xs,x=.ref a/\
 ((SqL K H2 a xs/\∀p,H2 p=none->Q (.ref p) (upd H2 p (.lst xs.reverse)))∨(SqT K H2 a xs/\∀p,H2 p=none->Q (.ref p) (upd H2 p (.tup xs.reverse))))
theorem Dw(he:PE X e te)(hk:PE X k tk):PE X (.Subscript e (.Slice none none (some k) p2) pos) (tRev X.K te tk):=by
 intro pins s σ H Q I h;refine Subscript_ (thn (he pins s σ H _ I h) fun v s1 ⟨x,H1,I1,r1,q1⟩=>?_);refine wpAny_Slice ?_;rw[evalPart_none];refine zH0 (zH0 ?_);rw[evalPart_some];refine thn (hk pins s1 σ H1 _ I1 q1) fun u s2 ⟨y,H2,I2,r2,ey,a,xs,ex,q2⟩=>?_
 subst ey ex;cases r1;obtain⟨t,rfl⟩:=r2;have I3:Inv X pins σ H2 { s2 with heap:=s2.heap.push { cls:=.type "slice",data:=.fields #[.none,.none,.int (-1) t] } }:=I2.kept (t':=s2.toks) fun b ob q=>zL0 _ q
 show wpAny (model X.prog X.w) X.A (subscriptTail e (.Slice none none (some k) p2) (.ref a) (.ref s2.heap.objs.size)) (EP X pins σ Q) X.xe { s2 with heap:=s2.heap.push { cls:=.type "slice",data:=.fields #[.none,.none,.int (-1) t] } };rcases q2 with⟨hq,q⟩ | ⟨hq,q⟩
 . obtain⟨its,r,ht,hz⟩:=I3.list hq;have hl:=r.length;refine tail_any (ops:=[.ref a,.ref s2.heap.objs.size]) ht.isList.typeIs slot_list_getitem.lookup ?_ (by rfl');refine wpAny_getItem_list_slice (st:=some (-1)) ht.isList (Heap.IsSliceOf.new ..) .none .none (.int (-1) t) (by simp) ?_ (by rw[zP0];omega);rw[xI];refine⟨.ref _,_,I3.laid (t':=s2.toks) (o:=.lst xs.reverse) (fun b ob q=>zL0 _ q) (zI0 _) ?_,rfl,q _ (I3.hok.fresh (zI0 _))⟩;exact⟨by rw[List.length_reverse];exact hz,_,0,r.reverse,zW0 _ rfl⟩
 . obtain⟨its,r,ht,hz⟩:=I3.tuple hq;have hl:=r.length;refine tail_any (ops:=[.ref a,.ref s2.heap.objs.size]) ht.typeIs PyProof.Rows.slot_tuple_getitem.lookup ?_ (by rfl');refine Bf ht (Heap.IsSliceOf.new ..) ?_ (by omega);refine⟨.ref _,_,I3.laid (t':=s2.toks) (o:=.tup xs.reverse) (fun b ob q=>zL0 _ q) (zI0 _) ?_,rfl,q _ (I3.hok.fresh (zI0 _))⟩;exact⟨by rw[List.length_reverse];exact hz,_,r.reverse,IsTup.new _ _,_,zW0 _ rfl,rfl⟩
end
def cV(g:Nat->Int):Nat->Int
 | 0=>g 0
 | k+1=>if cV g k<g (k+1)then g (k+1)else cV g k
theorem tu(g:Nat->Int):∀n k,k<=n->g k<=cV g n
 | 0,k,h=>by
   have e:k=0:=by omega
   subst e;exact Int.le_refl _
 | n+1,k,h=>by
   unfold cV
   by_cases c:k=n+1
   . subst c
     split <;> omega
   . have:=tu g n k (by omega)
     split <;> omega
def yi(ns:List Int)(d:Int):Int:=match ns with | []=>d | _::_=>cV (fun i=>ns[i]?.getD 0) (ns.length-1)
theorem BX{ns:List Int}{d x:Int}(h:x∈ns):x<=yi ns d:=by
 obtain⟨i,hi,e⟩:=List.getElem_of_mem h;cases ns with
 | nil=>cases h
 | cons a r=>
   have:=tu (fun i=>(a::r)[i]?.getD 0) ((a::r).length-1) i (by omega)
   simp only[zU0 hi,Option.getD_some,e]at this;exact this
section
variable {prog:Program} {w:World} {A:Around} {R:Result->Shared->Prop} {I S:Addr} {fp wr:List Addr} {n:Nat} {P:Nat->Value->Prop} {St:Nat->Heap->Prop} {g:Nat->Int} {kw:List (Str×Value)}
theorem mo:(toString "max"++toString ".loop":String)="max.loop":=by decide
theorem Ai(W:Walks prog w A.in1 I fp wr n P St)(gv:∀i v,P i v->∃t,v=Value.int (g i) t)(nS:S∉fp):∀(k j:Nat)(s:Shared)(t:Tok)(c:Nat),j+1+k=n->St (j+1) s.heap ->
 s.heap.get? S=some { cls:=.type "list",dict:=none,data:=.seq #[.int (cV g j) t,.int (cV g j) t] c,slots:=#[] } ->
 (∀t' h' tk,(∀b o,b∉wr->b≠S->s.heap.get? b=some o->h'.get? b=some o)->R (.ok (.ret (.int (cV g (n-1)) t'))) { s with heap:=h',toks:=tk }) ->
 codeAny (model prog w) A (.builtin "max.loop" ⟨[.ref I,.none,.ref S],kw⟩) R s:=by
 have nw:S∉wr:=fun z=>nS (W.sub _ z)
 intro k
 induction k with
 | zero=>
   intro j s t c ek st eS q;refine codeAny_builtin F.entry_max_loop ?_;rw[Around.under_plainId F.plain_max_loop _];show wpAny _ A.in1 (seqItems? (.ref S) >>= _) _ _ s;refine zA0 (wpAny_seqItems eS rfl ?_);show wpAny _ A.in1 (tryCatch (pyNext (.ref I)) _ >>= _) _ _ s;refine zA0 (wpAny_tryCatch (W.done s _ _ (by rw[←ek];exact st) fun h' tk kp=>?_));show wpAny _ A.in1 (updateSeq S (fun _=>#[]) >>= _) _ _ _;refine zA0 ?_;refine wpAny_updateSeq (kp S _ nw eS) rfl (zA0 (wpAny_letGo (zH0 ?_)));have e:n-1=j:=by omega
   rw[e]at q;exact q t _ tk fun b o h1 h2 eb=>(Heap.get?_update_other _ _ (Ne.symm h2)).trans (kp b o h1 eb)
 | succ k ih=>
   intro j s t c ek st eS q;refine codeAny_builtin F.entry_max_loop ?_;rw[Around.under_plainId F.plain_max_loop _];show wpAny _ A.in1 (seqItems? (.ref S) >>= _) _ _ s;refine zA0 (wpAny_seqItems eS rfl ?_);show wpAny _ A.in1 (tryCatch (pyNext (.ref I)) _ >>= _) _ _ s;refine zA0 (wpAny_tryCatch (W.item (j+1) s _ _ (by omega) st fun v h' tk pv st' kp=>?_));obtain⟨tv,rfl⟩:=gv _ _ pv;have eS':=kp S _ nw eS;show wpAny _ A.in1 (tryCatch (holding [Value.int (g (j+1)) tv,Value.int (g (j+1)) tv] (richCompare .Gt (Value.int (g (j+1)) tv) (Value.int (cV g j) t) >>= _)) _ >>= _) _ _ _;refine zA0 (wpAny_tryCatch (wpAny_holding (zA0 (CmpOf.ints_gt (prog:=prog) (w:=w) (A:=A.in1) (P:=fun i v=>∃t,v=Value.int (if i=0 then cV g j else g (j+1)) t) (fun i=>if i=0 then cV g j else g (j+1)) (fun i v h=>h) 1 0 _ _ _ _ _ ⟨tv,rfl⟩ ⟨t,rfl⟩ ?_))));refine zA0 (wpAny_holding (wpAny_truthy_bool ?_));refine zA0 (wpAny_letGo (zH0 ?_))
   by_cases c1:cV g j<g (j+1)
   . have e1:cV g (j+1)=g (j+1):=by unfold cV;rw[zF0 c1]
     refine wpAny_ite_split (fun _=>?_) (fun hab=>absurd (decide_eq_true c1) hab);refine zA0 ?_;refine wpAny_updateSeq eS' rfl (zA0 (wpAny_letGo ?_));rw[mo];refine zH0 ⟨plainId_quiet F.plain_max_loop _,ih (j+1) _ tv _ (by omega) (W.frame _ _ _ st' fun b hb o eb=>?_) (by rw[e1];exact Heap.get?_update_self _ eS' rfl) fun t' h2 tk2 kp2=>?_⟩
     . exact(Heap.get?_update_other _ _ (fun z:S=b=>nS (by rw[z];exact hb))).trans eb
     . exact q t' h2 tk2 fun b o h1 h3 eb=>kp2 b o h1 h3 ((Heap.get?_update_other _ _ (Ne.symm h3)).trans (kp b o h1 eb))
   . have e1:cV g (j+1)=cV g j:=by unfold cV;rw[zD0 c1];cases j <;> rfl
     refine wpAny_ite_split (fun hab=>absurd (of_decide_eq_true hab) c1) (fun _=>?_);refine zA0 (wpAny_letGo ?_);rw[mo];refine zH0 ⟨plainId_quiet F.plain_max_loop _,ih (j+1) _ t c (by omega) st' (by rw[e1];exact eS') fun t' h2 tk2 kp2=>?_⟩;exact q t' h2 tk2 fun b o h1 h3 eb=>kp2 b o h1 h3 (kp b o h1 eb)
theorem Aj (W:Walks prog w A.in1 I fp wr n P St) (gv:∀i v,P i v->∃t,v=Value.int (g i) t) (nS:S∉fp) (hn:0<n) {s:Shared} {c:Nat} (st:St 0 s.heap) (eS:s.heap.get? S=some { cls:=.type "list",dict:=none,data:=.seq #[] c,slots:=#[] })
 (q:∀t' h' tk,(∀b o,b∉wr->b≠S->s.heap.get? b=some o->h'.get? b=some o)->R (.ok (.ret (.int (cV g (n-1)) t'))) { s with heap:=h',toks:=tk }) :
 codeAny (model prog w) A (.builtin "max.loop" ⟨[.ref I,.none,.ref S],kw⟩) R s:=by
 have nw:S∉wr:=fun z=>nS (W.sub _ z)
 refine codeAny_builtin F.entry_max_loop ?_;rw[Around.under_plainId F.plain_max_loop _];show wpAny _ A.in1 (seqItems? (.ref S) >>= _) _ _ s;refine zA0 (wpAny_seqItems eS rfl ?_);show wpAny _ A.in1 (tryCatch (pyNext (.ref I)) _ >>= _) _ _ s;refine zA0 (wpAny_tryCatch (W.item 0 s _ _ hn st fun v h' tk pv st' kp=>?_));obtain⟨tv,rfl⟩:=gv _ _ pv;have eS':=kp S _ nw eS;show wpAny _ A.in1 (updateSeq S (fun _=>#[Value.int (g 0) tv,Value.int (g 0) tv]) >>= _) _ _ _;refine zA0 ?_;refine wpAny_updateSeq eS' rfl ?_;rw[mo];refine zH0 ⟨plainId_quiet F.plain_max_loop _,Ai W gv nS (n-1) 0 _ tv _ (by omega) (W.frame _ _ _ st' fun b hb o eb=>?_) (Heap.get?_update_self _ eS' rfl) fun t' h2 tk2 kp2=>?_⟩
 . exact(Heap.get?_update_other _ _ (fun z:S=b=>nS (by rw[z];exact hb))).trans eb
 . exact q t' h2 tk2 fun b o h1 h3 eb=>kp2 b o h1 h3 ((Heap.get?_update_other _ _ (Ne.symm h3)).trans (kp b o h1 eb))
end
section
variable {X:Cx} {e k:Expr} {te tk:TE} {pos p1 kp:Pos}
def Cz(K:W.Frag):List V->Hp->VK->Prop:=fun xs H Q=>∃a ns,xs=[.ref a]/\SqL K H a (ns.map V.int)/\ns≠[]/\Q (.int (yi ns 0)) H
theorem kX (hc:X.calm=true):fh X (.builtin "max") (Cz X.K):=by
 intro pins s2 σ H2 xs us Q I2 r h;obtain⟨a,ns,rfl,hq,hn,q⟩:=h;obtain⟨u,rfl,ru⟩:=iu r;cases ru;obtain⟨its,r',p,hz⟩:=I2.list hq;have hl:=r'.length;rw[zE0]at hl;have hlt:a<s2.heap.objs.size:=by obtain⟨o,n,e,_⟩:=p;exact zM0 e
 refine call_function_tree F.kind_max F.plain_max F.entry_max (F.args_max1 _) ?_;show wpAny _ X.A.in1 (Builtin.Builtins.bindParams "max" ["key","default"] 0 ⟨[],[]⟩ >>= fun _=>_) _ _ s2;refine zA0 (wpAny_of_eq (a:=[none,none]) rfl ?_);refine zA0 (zH0 ?_);refine zA0 (wpAny_pyIter_list p.isList ?_);refine zA0 (wpAny_newObj_type ?_);rw[mo];have hne:a≠s2.heap.objs.size:=zS0 hlt;have W:=Walks.list (prog:=X.prog) (w:=X.w) (A:=X.A.in1) (I2.ok.hd hc) s2.heap.objs.size a hne its.toArray;have I3:Inv X pins σ H2 { s2 with heap:=s2.heap.push { cls:=.type "list_iterator",data:=.fields #[.ref a,.int 0 0] } }:=I2.kept (t':=s2.toks) fun b o eb=>zL0 _ eb
 have I4:Inv X pins σ H2 { s2 with heap:=(s2.heap.push { cls:=.type "list_iterator",data:=.fields #[.ref a,.int 0 0] }).push { cls:=.type "list",data:=.seq #[] } }:=I3.kept (t':=s2.toks) fun b o eb=>zL0 _ eb
 have hz1:∀o:Obj,(s2.heap.push o).objs.size=s2.heap.objs.size+1:=fun o=>by simp [Heap.push]
 have nS:(s2.heap.push { cls:=.type "list_iterator",data:=.fields #[.ref a,.int 0 0] }).objs.size∉[s2.heap.objs.size,a]:=by
  intro hm;rcases zY0 hm with z | z
  . rw[hz1]at z;exact absurd z (Nat.succ_ne_self _)
  . have z:=zQ0 z;rw[hz1]at z;exact absurd z (Nat.ne_of_gt (Nat.lt_succ_of_lt hlt))
 have gv:∀i v,its.toArray[i]?=some v->∃t,v=Value.int (ns[i]?.getD 0) t:=fun i v hv=>by
  obtain⟨b,t,hb,rfl⟩:=nZ r' (i:=i) (v:=v) (by first | exact hv | simpa using hv | (rw[List.getElem?_toArray]at hv;exact hv));exact⟨t,by rw[hb];rfl⟩
 have n0:0<ns.length:=List.length_pos_iff.mpr hn;refine zH0 ⟨plainId_quiet F.plain_max_loop _,Aj (g:=fun i=>ns[i]?.getD 0) W gv nS (by rw[zP0,←hl];exact n0) ⟨⟨_,zL0 _ (zW0 _ rfl),rfl,rfl⟩,(p.isList.push _).push _⟩ (zW0 _ rfl) fun t' h' tk kp=>?_⟩;rw[zP0,←hl];have em:cV (fun i=>ns[i]?.getD 0) (ns.length-1)=yi ns 0:=by
  cases ns with
  | nil=>exact absurd rfl hn
  | cons _ _=>rfl
 rw[em];refine⟨.int _,H2,?_,⟨_,rfl⟩,q⟩;have J:=Inv.turnedL (h':=h') (t':=tk) (ch:=[s2.heap.objs.size,s2.heap.objs.size+1]) I4 (fun b o hb eb=>kp b o (fun z=>hb (by rw[zQ0 z];exact qL0)) (fun z=>hb (by rw[z,hz1];exact qK0 _ qL0)) eb);refine J fun b hb=>?_
 rcases zY0 hb with h | h
 . rw[h];exact I2.fpOk (zI0 _) (I2.hok.fresh (zI0 _))
 . rw[zQ0 h];exact I2.fpOk (qO0 _) (I2.hok.fresh (qO0 _))
end
section
variable {prog:Program} {w:World} {A:Around} {E:Value->Shared->Prop} {s:Shared}
theorem Bg{it t:Addr}{i:Nat}{items:Array Value}{x:Value}{Q:Value->Shared->Prop}(hit:s.heap.IsTupleIter it t i)(ht:s.heap.IsTuple t items)(hx:items[i]?=some x)
 (q:∀h',h'.IsTupleIter it t (i+1)->Heap.SameBut it s.heap h'->Q x { s with heap:=h' }):wpAny (model prog w) A (Builtin.SmallTypes.nextOf (.ref it)) Q E s:=by
 obtain⟨o,ho,hc,hd⟩:=id hit;obtain⟨ol,hol,_,nl,hdl⟩:=ht;unfold Builtin.SmallTypes.nextOf;refine zA0 (wpAny_callSpecial?_slot (name:=Str.ofString "__next__") hit.typeIs F.slot_tuple_iterator_next (wpAny_call_entry F.slot_tuple_iterator_next hit.typeIs F.entry_tuple_iterator_next ?_ (F.args_tuple_iterator_next_1 _)));show wpAny _ _ (field (.ref it) 0 >>= _) _ _ s;refine zA0 (wpAny_field ho hd (x:=.ref t) rfl ?_);show wpAny _ _ (if(Value.ref t==Value.none)=true then _ else _) _ _ s;rw[zD0 (show ¬ ((Value.ref t==Value.none)=true)from qA0)];show wpAny _ _ (field (.ref it) 1 >>= _) _ _ s;refine zA0 (wpAny_field ho hd (x:=.int i 0) rfl ?_);show wpAny _ _ (seqItems? (.ref t) >>= _) _ _ s;refine zA0 (wpAny_seqItems hol hdl ?_);simp only[qV0,hx];refine zA0 (wpAny_setField ho hd (by simp) (zH0 ⟨x,rfl,zH0 (q _ ?_ (Heap.SameBut.update ..))⟩));exact⟨_,Heap.get?_update_self _ ho (Obj.isFreed_of_fields (Obj.data_mapFields hd _)),(Obj.cls_mapFields ..).trans hc,by rw[Obj.data_mapFields hd];simp [rawInt]⟩
theorem yX{it t:Addr}{i:Nat}{items:Array Value}{Q:Value->Shared->Prop}(hh:A.handled=none)(hit:s.heap.IsTupleIter it t i)(ht:s.heap.IsTuple t items)(hx:items[i]?=none)
 (q:∀h' e,Heap.ExtBut it s.heap h'->(∃o,h'.get? e=some o/\o.cls=.type "StopIteration")->E (.ref e) { s with heap:=h' }):wpAny (model prog w) A (Builtin.SmallTypes.nextOf (.ref it)) Q E s:=by
 obtain⟨o,ho,hc,hd⟩:=id hit;obtain⟨ol,hol,_,nl,hdl⟩:=ht;unfold Builtin.SmallTypes.nextOf;refine zA0 (wpAny_callSpecial?_slot (name:=Str.ofString "__next__") hit.typeIs F.slot_tuple_iterator_next (wpAny_call_entry F.slot_tuple_iterator_next hit.typeIs F.entry_tuple_iterator_next ?_ (F.args_tuple_iterator_next_1 _)));show wpAny _ _ (field (.ref it) 0 >>= _) _ _ s;refine zA0 (wpAny_field ho hd (x:=.ref t) rfl ?_);show wpAny _ _ (if(Value.ref t==Value.none)=true then _ else _) _ _ s;rw[zD0 (show ¬ ((Value.ref t==Value.none)=true)from qA0)];show wpAny _ _ (field (.ref it) 1 >>= _) _ _ s;refine zA0 (wpAny_field ho hd (x:=.int i 0) rfl ?_);show wpAny _ _ (seqItems? (.ref t) >>= _) _ _ s;refine zA0 (wpAny_seqItems hol hdl ?_);simp only[qV0,hx]
 first
  | refine zA0 (wpAny_rule (zA0 (wpAny_setField ho hd (by simp) (zA0 (wpAny_letGo ?_)))))
  | refine zA0 (wpAny_rule (zA0 (wpAny_setField ho hd (by simp) ?_)))
 show wpAny _ _ (newExc (.type "StopIteration") [] >>= _) _ _ _;refine zA0 ?_;simp only[newExc,newTuple];refine zA0 (wpAny_newObj_type ?_ (by size_fits));refine zA0 (m:=firstArgMember _ _) (wpAny_of_eq (a:=Value.none) (by first | rfl | (simp only[firstArgMember];rfl)) ?_);refine wpAny_newObj_type ?_ (by size_fits);simp only[raiseNew];refine zA0 (wpAny_handled ?_)
 first | rw[show A.in1.handled=none from hh] | rw[hh]
 refine zA0 (zH0 (wpAny_throw ?_));exact q _ _ (((Heap.SameBut.update ..).extBut.push _).push _) ⟨_,zW0 _ rfl,rfl⟩
theorem yC{e it t:Addr}{j:Nat}{i:Int}{old:Value}{items:Array Value}{Q:Option Value->Shared->Prop}(hh:A.handled=none)(he:IsEnum s.heap e it i old)(hit:s.heap.IsTupleIter it t j)(ht:s.heap.IsTuple t items)(hx:items[j]?=none)
 (q:∀h',Heap.ExtBut it s.heap h'->Q none { s with heap:=h' }):wpAny (model prog w) A (pyNext (.ref e)) Q E s:=by
 have hT:s.TypeIs (.ref e) "enumerate":=⟨_,he,rfl⟩
 unfold pyNext;refine zA0 (wpAny_attempt (wpAny_callSpecial?_slot (name:=Str.ofString "__next__") hT F.slot_enumerate_next (wpAny_call_entry F.slot_enumerate_next hT F.entry_enumerate_next ?_ (F.args_enumerate_next_1 _))));show wpAny _ _ (field (.ref e) 2 >>= _) _ _ _;refine zA0 (wpAny_field he rfl (x:=.ref it) rfl ?_);refine zA0 (yX hh hit ht hx fun h' x he' hx'=>?_);obtain⟨o,ho,hc⟩:=hx';refine zA0 (wpAny_isInstance (T:="StopIteration") (b:=true) ⟨o,ho,hc⟩ isSubtype_stop ?_);exact zH0 (q h' he')
end
theorem yF{prog:Program}{w:World}{A:Around}(hh:A.handled=none)(it l:Addr)(hne:l≠it)(items:Array Value):Draws prog w A it [it,l] items.size (fun i v=>items[i]?=some v) (fun i h=>h.IsTupleIter it l i/\h.IsTuple l items) where
 live:=fun _ _ st=>let⟨o,ho,_⟩:=st.1;⟨o,ho⟩
 frame:=fun _ _ _ st k=>⟨st.1.at fun o e=>k it (by simp) o e,st.2.at fun o e=>k l (by simp) o e⟩
 item:=fun i s Q E hi st q=>by
  refine Bg st.1 st.2 (x:=items[i]) (by simp [hi]) fun h' a b=>?_
  exact q _ h' s.toks (by simp [hi]) ⟨a,st.2.extBut b.extBut hne⟩ b
 done:=fun s Q E st q=>yX hh st.1 st.2 (by simp) q
open AutoSeq1 (wpAny_loadPart') in
set_option maxHeartbeats 1000000 in
theorem sA(l:Addr)(items:Array Value)(n:Nat)(dct:Option Addr)(sl:Array (Option Value)) :
 Meets (Builtin.«enumerate.__new__» ⟨[.type "enumerate",.ref l],[]⟩) (fun _ R s=>s.heap.get? l=some { cls:=.type "tuple",dict:=dct,data:=.seq items n,slots:=sl }/\
  R (.ok (.ret (.ref (s.heap.push { cls:=.type "tuple_iterator",data:=.fields #[.ref l,.int 0 0] }).objs.size)))
   { s with heap:=(s.heap.push { cls:=.type "tuple_iterator",data:=.fields #[.ref l,.int 0 0] }).push { cls:=.type "enumerate",data:=.fields #[.none,.bool false,.ref s.heap.objs.size,rawInt 0,.none,.none] } }):=
 .of_wp fun prog w A R s h=>by
  obtain⟨hp,g,d,tk,os⟩:=s;obtain⟨hl,h⟩:=h;have hsub:=sub_enumerate;have hL:Heap.IsTuple (Shared.heap ⟨hp,g,d,tk,os⟩) l items:=⟨_,hl,rfl,n,rfl⟩
  wp_walk using wpAny_loadPart' hl
  refine wpAny_stack_any fun st=>zH0 ?_
  split
  . rename_i c _ _ _ _ _;cases(c==Value.type "enumerate")
    . wp_walk using wpAny_loadPart' hl,wpAny_pyIter_tuple hL
      exact⟨_,rfl,h⟩
    . wp_walk using wpAny_loadPart' hl,wpAny_pyIter_tuple hL
      exact⟨_,rfl,h⟩
  . wp_walk using wpAny_loadPart' hl,wpAny_pyIter_tuple hL
    exact⟨_,rfl,h⟩
section
variable {prog:Program} {w:World} {A:Around} {E:Value->Shared->Prop} {s:Shared}
theorem vt{l:Addr}{items:Array Value}{Q:Value->Shared->Prop}(hL:s.heap.IsTuple l items)
 (q:∀h',IsEnum h' (s.heap.objs.size+1) s.heap.objs.size 0 .none->h'.IsTupleIter s.heap.objs.size l 0->(∀b o,s.heap.get? b=some o->h'.get? b=some o)->Q (.ref (s.heap.objs.size+1)) { s with heap:=h' }) :
 wpAny (model prog w) A (call (.type "enumerate") [.ref l]) Q E s:=by
 obtain⟨⟨c,dct,dt,sl⟩,hl,hc,n,hd⟩:=hL
 replace hc:c=.type "tuple":=hc
 replace hd:dt=.seq items n:=hd
 subst hc hd;refine callType_new F.called_enumerate (by decide) (F.typeCall_enumerate_1 _) (F.newCall_enumerate_1 _) (fun obj=>F.args_object_init_2 obj _) F.entry_enumerate_new (sA l items n dct sl) ⟨hl,?_⟩;have hz:(s.heap.push { cls:=.type "tuple_iterator",data:=.fields #[.ref l,.int 0 0] }).objs.size=s.heap.objs.size+1:=Heap.size_push ..;show _/\_;rw[hz];have he:IsEnum ((s.heap.push { cls:=.type "tuple_iterator",data:=.fields #[.ref l,.int 0 0] }).push { cls:=.type "enumerate",data:=.fields #[.none,.bool false,.ref s.heap.objs.size,rawInt 0,.none,.none] }) (s.heap.objs.size+1) s.heap.objs.size 0 .none:=by
  have:=zW0 (s.heap.push { cls:=.type "tuple_iterator",data:=.fields #[.ref l,.int 0 0] }) (o:={ cls:=.type "enumerate",data:=.fields #[.none,.bool false,.ref s.heap.objs.size,rawInt 0,.none,.none] }) rfl
  rw[hz]at this;exact this
 exact⟨⟨_,he,rfl⟩,q _ he ⟨_,zL0 _ (zW0 _ rfl),rfl,rfl⟩ fun b o x=>zL0 _ (zL0 _ x)⟩
end
def Ba(K:W.Frag)(a:Addr):It:=
 ⟨fun i H=>∃xs x,SqT K H a xs/\xs[i]?=some x,fun i H y H'=>∃t,y=.ref t/\H t=none/\∀xs x,SqT K H a xs->xs[i]?=some x->H'=upd H t (.tup [.int i,x]),fun i H=>∃xs,SqT K H a xs/\xs.length<=i⟩
theorem tO{P:Program}{w:World}{K:W.Frag}{elts:List Expr}{k:Nat}{pos:Pos}(a e it:Addr)(hei:e≠it)(hai:a≠it)(hae:a≠e) :
 Turn P w K (.Tuple elts k pos) (Ba K a) [e,it] e (fun i h=>(∃old,IsEnum h e it i old)/\h.IsTupleIter it a i) where
 mem:=by simp
 obj:=fun i h st b hb=>by
  obtain⟨⟨old,he⟩,o,e2,c,d⟩:=st;rcases zY0 hb with z | z
  . subst z;exact⟨_,he,fun v z=>nomatch z⟩
  . have z':=zQ0 z;subst z';exact⟨o,e2,fun v z=>by rw[d]at z;cases z⟩
 keep:=fun i h h' st k=>by
  obtain⟨⟨old,he⟩,hit⟩:=st;exact⟨⟨old,k e (by simp) _ he⟩,hit.at fun o x=>k it (by simp) o x⟩
 item:=by
  intro X hP hw hK hc i pins s σ H E I hf st hg;subst hP hw hK;obtain⟨xs,x,hq,hx⟩:=hg;obtain⟨its,rv,p,hz⟩:=I.tuple hq;obtain⟨u,hu,ru⟩:=rv.get hx;obtain⟨⟨old,he⟩,hit⟩:=st;have hi:i<its.toArray.size:=by
   rw[zP0];exact(zT0 hu).1
  refine wpAny_pyNext_enum_itemD (yF (prog:=X.prog) (w:=X.w) (A:=X.A.in1) (I.ok.hd hc) it a hai its.toArray) he ⟨hit,p⟩ hi hei (by simp [hei,Ne.symm hae]) fun y h1 tk hy ho hst1 hT hsz hk=>?_
  have ey:y=u:=by
   have h1:its.toArray[i]?=some u:=by simpa using hu
   rw[h1]at hy;exact(zO0 hy).symm
  subst ey;refine⟨_,rfl,wpAny_letOwnedTupleGo_enum ho fun h2 he2 hs2=>?_⟩;have elt:e<s.heap.objs.size:=zM0 he;have hT2:h2.get? s.heap.objs.size=some { cls:=.type "tuple",data:=.seq #[.int i tk,y] }:=(hs2.2 _ (Ne.symm (zS0 elt))).trans hT;have I2:Inv X pins σ (upd H s.heap.objs.size (.tup [.int i,x])) { s with heap:=h2,toks:=tk+1 }:=by
   refine I.turnedNew (ch:=[e,it]) (fun b ob hb eb=>?_) hf (zI0 _) ⟨by show 2<=sizeLine;decide,[.int i tk,y],.cons ⟨_,rfl⟩ (.cons ru .nil),⟨_,hT2,rfl,_,rfl⟩,_,hT2,rfl⟩;have b1:b≠e:=fun z=>hb (by simp [z])
   have b2:b≠it:=fun z=>hb (by simp [z])
   exact(hs2.2 b b1).trans (hk b ob b1 b2 eb)
  refine⟨.ref s.heap.objs.size,_,I2,rfl,⟨_,rfl,I.hok.fresh (zI0 _),fun ys z hy hyi=>?_⟩,⟨⟨y,by simpa using he2⟩,hst1.1.at fun o z=>(hs2.2 it (Ne.symm hei)).trans z⟩,fun b hb=>?_⟩
  . have e1:=I.tuple_inj hy hq;subst e1;rw[hx]at hyi;cases hyi;rfl
  . have z:=hf b hb;have hlt:b<s.heap.objs.size:=by
     rcases zY0 hb with y | y
     . rw[y];exact elt
     . rw[zQ0 y];obtain⟨o,e2,_⟩:=hit;exact zM0 e2
    rw[aq (zS0 hlt)];exact z.1
 done:=by
  intro X hP hw hK hc i pins s σ H E I hf st hg;subst hP hw hK;obtain⟨xs,hq,hx⟩:=hg;obtain⟨its,rv,p,hz⟩:=I.tuple hq;obtain⟨⟨old,he⟩,hit⟩:=st;have hl:=rv.length;exact yC (I.ok.hd hc) he hit p (Array.getElem?_eq_none (by simp;omega)) fun h' eb=>⟨rfl,I.turnedL (t':=s.toks) (ch:=[e,it]) (fun b o hb eo=>eb b o (fun z=>hb (by simp [z])) eo) hf⟩
 self:=fun _ _ _ _ _ st h=>by
  obtain⟨⟨old,he⟩,_⟩:=st;exact wpAny_pyIter_enum he h
section
variable {X:Cx} {elts:List Expr} {k:Nat} {tpos:Pos}
def DO(K:W.Frag)(tl:TE):TI:=fun σ H R=>tl σ H fun x H1=>∃a,x=.ref a/\(∃xs,SqT K H1 a xs)/\R (Ba K a) H1
theorem zM {l:Expr} {tl:TE} {p pos:Pos} (hg:Gl X "enumerate") (hm:X.mg "enumerate"=none) (hl:PE X l tl) (hs:starEach [l] X.env=[(false,eval l X.env)]:=by rfl) :
 PI X (.Tuple elts k tpos) (.Call (.Name "enumerate" p) [l] [] pos) (DO X.K tl):=by
 intro pins s σ H R I h;refine Call_ (iq I hg hm boot_enumerate (PyProof.Rows.callWith_type1 ?_ hs rfl));rw[hs];show wpAny _ _ (spliced ((false,eval l X.env)::backTo pos (starEach [] X.env))) _ _ s;refine Calls.spliced_cons (thn (hl pins s σ H _ I h) fun u s1 ⟨x,H1,I1,r1,a,ex,⟨xs,hq⟩,q⟩=>?_);subst ex;cases r1;obtain⟨its,rv,p,hz⟩:=I1.tuple hq;have alt:=p.lt;refine Calls.spliced_nil ?_;refine vt p fun h' he hit hk=>?_
 refine wpAny_pyIter_enum he ?_;have I2:Inv X pins σ H1 { s1 with heap:=h' }:=I1.kept (t':=s1.toks) hk;refine⟨s1.heap.objs.size+1,[s1.heap.objs.size+1,s1.heap.objs.size],_,_,H1,rfl,I2,tO a _ _ (Nat.ne_of_gt (Nat.lt_succ_self _)) (zS0 alt) (zS0 (Nat.lt_succ_of_lt alt)),⟨⟨_,he⟩,hit⟩,fun b hb=>?_,q⟩;rcases zY0 hb with z | z
 . rw[z];exact I1.fpOk (qO0 _) (I1.hok.fresh (qO0 _))
 . rw[zQ0 z];exact I1.fpOk (zI0 _) (I1.hok.fresh (zI0 _))
end
theorem yw{K:W.Frag}{a:Addr}{xs:List V}{g:TG}{tb:TS}{D:Ends}{σ:St}{H:Hp}(Pv:Nat->St->Hp->Prop)(h0:Pv 0 σ H)(hl:∀i σ H,i<=xs.length->Pv i σ H->SqT K H a xs)
 (hs:∀i x σ H t,xs[i]?=some x->Pv i σ H->H t=none->g (.ref t) σ (upd H t (.tup [.int i,x])) fun σ2 H2=>tb { D with nx:=Pv (i+1),ct:=Pv (i+1),bk:=D.nx } σ2 H2) (hd:∀ σ H,Pv xs.length σ H->D.nx σ H) :
 ∃ W:Nat->Nat->St->Hp->Prop,(∃m,W 0 m σ H)/\∀i m σ H,W i m σ H ->
  ((Ba K a).stop i H/\D.nx σ H)∨((Ba K a).go i H/\∃N:St->Hp->Prop,(∀ σ' H',N σ' H'->∃m',m'<m/\W (i+1) m' σ' H')/\∀x H',(Ba K a).yld i H x H'->g x σ H' fun σ2 H2=>tb { D with nx:=N,ct:=N,bk:=D.nx } σ2 H2):=by
 refine⟨fun i m σ H=>m=xs.length-i/\i<=xs.length/\Pv i σ H,⟨xs.length,by simp,zN0 _,h0⟩,?_⟩;rintro i m σ H ⟨rfl,hi,p⟩;have q:=hl i σ H hi p
 by_cases hlt:i<xs.length
 . refine .inr ⟨⟨xs,xs[i],q,by simp [hlt]⟩,Pv (i+1),fun σ' H' p'=>⟨xs.length-(i+1),by omega,rfl,hlt,p'⟩,fun x H' y=>?_⟩;obtain⟨t,rfl,ht,e⟩:=y;have e':=e xs xs[i] q (by simp [hlt]);subst e';exact hs i xs[i] σ H t (by simp [hlt]) p ht
 . have e:i=xs.length:=by omega
   subst e;exact .inl ⟨⟨xs,q,zI0 _⟩,hd σ H p⟩
def ItV(K:W.Frag)(a:Addr)(xs:List V):It:=⟨fun i H=>SqL K H a xs/\i<xs.length,fun i H y H'=>H'=H/\xs.reverse[i]?=some y,fun i _=>xs.length<=i⟩
theorem wW{P:Program}{w:World}{K:W.Frag}{tg:Expr}(a it:Addr)(xs:List V):Turn P w K tg (ItV K a xs) [it] it (fun i h=>i<=xs.length/\h.IsRevIter it a ((xs.length:Int)-1-(i:Int))) where
 mem:=by simp
 obj:=fun i h st b hb=>by
  have e:b=it:=by simpa using hb
  subst e;obtain⟨_,o,e,c,d⟩:=st;exact⟨o,e,fun v z=>by rw[d]at z;cases z⟩
 keep:=fun i h h' st k=>⟨st.1,st.2.at fun o e=>k it (by simp) o e⟩
 item:=by
  intro X hP hw hK hc i pins s σ H E I hf st hg;subst hP hw hK;obtain⟨hq,hi⟩:=hg;obtain⟨its,rv,p,hz⟩:=I.list hq;have hj:xs.length-1-i<xs.length:=by omega
  have hx:xs[xs.length-1-i]?=some xs[xs.length-1-i]:=zU0 hj;obtain⟨u,hu,ru⟩:=rv.get hx;obtain⟨f0,f1,f2,f3,f4,f5⟩:=hf it (by simp);obtain⟨_,hit⟩:=st;have e1:((xs.length:Int)-1-(i:Int))=((xs.length-1-i:Nat):Int):=by omega
  rw[e1]at hit;refine wpAny_pyNext_rev_item hit p.isList (x:=u) (by simpa using hu) fun h' st' sb=>?_
  have I1:Inv X pins σ H { s with heap:=h' }:=I.turned (t':=s.toks) (fun b o hb e=>(sb.2 b hb).trans e) f0 f1 f3 f4 f5;have e2:((xs.length-1-i:Nat):Int)-1=(xs.length:Int)-1-((i+1:Nat):Int):=by omega
  rw[e2]at st';obtain⟨o,e,c,d⟩:=id st';refine⟨u,rfl,sJ (s:={ s with heap:=h' }) e c d (by decide) ⟨xs[xs.length-1-i],H,I1,ru,⟨rfl,?_⟩,⟨by omega,st'⟩,fun b hb=>(hf b hb).1⟩⟩;rw[List.getElem?_reverse hi,hx]
 done:=by
  intro X hP hw hK hc i pins s σ H E I hf st hg;subst hP hw hK;have hg:xs.length<=i:=hg;obtain⟨f0,f1,f2,f3,f4,f5⟩:=hf it (by simp);obtain⟨hi,hit⟩:=st;have e1:(xs.length:Int)-1-(i:Int)=-1:=by omega
  rw[e1]at hit;exact wpAny_pyNext_rev_end (I.ok.hd hc) hit fun h' eb=>⟨rfl,I.turned (t':=s.toks) (fun b o hb e=>eb b o hb e) f0 f1 f3 f4 f5⟩
 self:=fun _ _ _ _ _ st h=>wpAny_pyIter_revIter st.2 h
theorem Ax{K:W.Frag}{a:Addr}{xs:List V}{g:TG}{tb:TS}{D:Ends}{σ:St}{H:Hp}(Pv:Nat->St->Hp->Prop)(h0:Pv 0 σ H)(hl:∀i σ H,i<=xs.length->Pv i σ H->SqL K H a xs)
 (hs:∀i x σ H,i<xs.length->xs.reverse[i]?=some x->Pv i σ H->g x σ H fun σ2 H2=>tb { D with nx:=Pv (i+1),ct:=Pv (i+1),bk:=D.nx } σ2 H2) (hd:∀ σ H,Pv xs.length σ H->D.nx σ H) :
 ∃ W:Nat->Nat->St->Hp->Prop,(∃m,W 0 m σ H)/\∀i m σ H,W i m σ H ->
  ((ItV K a xs).stop i H/\D.nx σ H)∨((ItV K a xs).go i H/\∃N:St->Hp->Prop,(∀ σ' H',N σ' H'->∃m',m'<m/\W (i+1) m' σ' H')/\∀x H',(ItV K a xs).yld i H x H'->g x σ H' fun σ2 H2=>tb { D with nx:=N,ct:=N,bk:=D.nx } σ2 H2):=by
 refine⟨fun i m σ H=>m=xs.length-i/\i<=xs.length/\Pv i σ H,⟨xs.length,by simp,zN0 _,h0⟩,?_⟩;rintro i m σ H ⟨rfl,hi,p⟩;have q:=hl i σ H hi p
 by_cases hlt:i<xs.length
 . refine .inr ⟨⟨q,hlt⟩,Pv (i+1),fun σ' H' p'=>⟨xs.length-(i+1),by omega,rfl,hlt,p'⟩,fun x H' y=>?_⟩;obtain⟨e,ex⟩:=y;subst e;exact hs i x σ _ hlt ex p
 . have e:i=xs.length:=by omega
   subst e;exact .inl ⟨zI0 _,hd σ H p⟩
theorem kQ {X:Cx} (K:W.Frag) (h:X.K=K:=by rfl):MtR X "list.count" (wl K):=by subst h;exact su
section
variable {X:Cx} {o e:Expr} {es:List Expr} {to ta:TE} {t:TA} {T id:String} {name f:Str} {r:V->List V->Hp->VK->Prop} {apos cpos pos:Pos}
theorem qE (K:W.Frag) (pa:PlainAttrs T) (slot:Slot T name id) (hty:typeOf (.builtin id)=pure (.type "method_descriptor")) (hm:MtR X id r) (ho:PE X o to) (ha:PA X (e::es) t) (hK:X.K=K:=by rfl)
 (hbase:attributeBase o name X.env (eval o X.env)=eval o X.env:=by rfl)
 (hfew:((backTo cpos (starEach (e::es) X.env)).all (fun x=>!x.1)&&(backToKw cpos (keywordEach [] X.env)).all (fun x=>x.1.isSome)&&decide ((e::es).length+([]:List Keyword).length+(if([]:List Keyword).isEmpty then 0 else 1)<30))=true:=by rfl)
 (hline:(apos.endLine==cpos.line)=true:=by rfl) (hs:starEach (e::es) X.env=(false,eval e X.env)::starEach es X.env:=by rfl) (hplain:(backTo cpos (starEach es X.env)).any (·.1)=false:=by rfl) :
 PE X (.Call (.Attribute o name apos) (e::es) [] cpos) (tBM K T r to t):=by subst hK;exact nJ pa slot hty hm ho ha hbase hfew hline hs hplain
theorem km(K:W.Frag)(he:PE X e ta)(hK:X.K=K:=by rfl)(hb:attributeBase e f X.env (eval e X.env)=eval e X.env:=by rfl):PE X (.Attribute e f pos) (tFld K ta f):=by subst hK;exact aU he hb
end
@[reducible] def cU (X:Cx) (x:Str) (N:List Str) (scope:Scope) (cl:List (Str×Addr)) (s:Shared) (H:Hp) (fp:List Addr):Cx where
 prog:=X.prog
 w:=X.w
 K:=X.K
 mg:=X.mg
 base:=X.base
 A:=X.A
 N:=x::N
 s₀:=s
 H₀:=H
 env:=compEnvC scope ((x,s.heap.objs.size+1)::cl) s.heap.objs.size X.env
 outer:=X.stack
 stack:=X.stack
 ex:=fp
 fn:=fun y=>y==x
 calm:=X.calm
 pn:=[]
 xe:=fun _ _=>False
structure CompScopeO(X:Cx)(x:Str)(N:List Str)(ix:List Nat)(scope:Scope)(cl:List (Str×Addr)):Prop where
 clos:closureFor scope X.env=pure cl
 lay:∀(n:Addr) (h:Heap),cellsFrom n scope.names cl=(x,n)::cl/\pushCells h scope.names=h.push { cls:=.type "cell",data:=.cell none }
 kind:scope.kind=.function
 names:∀y∈scope.names,y.2=.local->scope.names.lookup y.1=some .local
 own:(relabel scope X.env).names.lookup x=some .cell
 nd:(x::N).Nodup
 sub:∀p∈cl,X.env.cells.lookup p.1=some p.2
 has:((relabel scope X.env).names.all fun p=>!(p.2==.cell||p.2==.free)||(p.1==x||(cl.lookup p.1).isSome))=true
 outs:∀(j:Nat)(y:Str),N[j]?=some y->(relabel scope X.env).names.lookup y=some .cell/\∃k c,ix[j]?=some k/\X.N[k]?=some y/\cl.lookup y=some c/\X.env.scope.names.lookup y=some .cell
section
variable {X:Cx} {pins:List (Addr×Obj)} {σ:St} {x:Str} {N:List Str} {ix:List Nat} {scope:Scope} {cl:List (Str×Addr)} {fp:List Addr} {H3:Hp} {s3:Shared}
theorem CompScopeO.cells(S:CompScopeO X x N ix scope cl){y:Str}{c:Addr}(h:cl.lookup y=some c):X.env.cells.lookup y=some c:=S.sub _ (PySem.mem_of_lookup h)
theorem dy{x y:Str}{n c:Addr}{cl:List (Str×Addr)}(h:((x,n)::cl).lookup y=some c):(y=x/\c=n)∨(y≠x/\cl.lookup y=some c):=by
 by_cases e:y=x
 . subst e
   simp [List.lookup]at h
   exact .inl ⟨rfl,h.symm⟩
 . have e':(y==x)=false:=by simpa using e
   simp only[List.lookup,e']at h;exact .inr ⟨e,h⟩
theorem iV{x y:Str}{n:Addr}{cl:List (Str×Addr)}(e:y≠x):((x,n)::cl).lookup y=cl.lookup y:=by
 have e':(y==x)=false:=by simpa using e
 simp only[List.lookup,e']
theorem kz(S:CompScopeO X x N ix scope cl)(I3:Inv X pins σ H3 s3)(hf:∀b∈fp,hZ X pins H3 b)(hlt:∀b∈fp,b<s3.heap.objs.size):(cU X x N scope cl s3 H3 fp).Ok where
 mod:=I3.ok.mod
 kind:=S.kind
 glob:=I3.ok.glob
 blt:=I3.ok.blt
 above:=zI0 _
 inj:=fun y z c h1 h2=>by
  have lt:∀y c,cl.lookup y=some c->c<s3.heap.objs.size:=fun y c e=>by
   obtain⟨v,q⟩:=I3.cell y c (S.cells e);exact q.lt
  rcases dy h1 with⟨e1,c1⟩ | ⟨e1,l1⟩ <;> rcases dy h2 with⟨e2,c2⟩ | ⟨e2,l2⟩
  . rw[e1,e2]
  . exact absurd (lt z c l2) (by rw[c1];exact Nat.not_lt.mpr (qO0 _))
  . exact absurd (lt y c l1) (by rw[c2];exact Nat.not_lt.mpr (qO0 _))
  . exact I3.ok.inj y z c (S.cells l1) (S.cells l2)
 has:=fun y hy=>by
  by_cases e:y=x
  . subst e;exact⟨s3.heap.objs.size+1,by show((y,s3.heap.objs.size+1)::cl).lookup y=_;simp [List.lookup]⟩
  have q:=List.all_eq_true.mp S.has;have hy:(relabel scope X.env).names.lookup y=some .cell∨(relabel scope X.env).names.lookup y=some .free:=hy;have z:∀k:NameKind,(k==.cell||k==.free)=true->(relabel scope X.env).names.lookup y=some k->∃c,((x,s3.heap.objs.size+1)::cl).lookup y=some c:=fun k hk e2=>by
   have r:=q _ (PySem.mem_of_lookup e2);have ey:(y==x)=false:=by simpa using e
   rw[hk]at r;rw[iV e];have r':(cl.lookup y).isSome=true:=by simpa [ey]using r
   exact Option.isSome_iff_exists.mp r'
  rcases hy with e | e
  . exact z _ (by rfl) e
  . exact z _ (by rfl) e
 cab:=fun y c h e=>by
  have ey:y=x:=by simpa using(show(y==x)=true from h)
  rcases dy e with⟨_,c1⟩ | ⟨n,_⟩
  . rw[c1];exact qO0 _
  . exact absurd ey n
 hd:=I3.ok.hd
 frames:=I3.ok.frames
 stk:=.inl rfl
 exf:=fun b hb=>⟨zS0 (hlt b hb),fun y c e=>by
  rcases dy e with⟨_,c1⟩ | ⟨_,l⟩
  . rw[c1];exact Nat.ne_of_gt (Nat.lt_succ_of_lt (hlt b hb))
  . exact(hf b hb).2.2.2.2.1 y c (S.cells l)⟩
 bs:=fun b o e=>I3.bs b o e
 bsz:=zX0 I3.ok.bsz I3.sz
 noex:=fun b o e hb=>by
  rcases(hf b hb).2.2.2.1 with z | z
  . exact I3.ok.noex b o e z
  . exact absurd (qH0 (zM0 e) (zX0 I3.ok.bsz z)) (qQ0 _)
 exfs:=fun b hb z=>by
  rcases zY0 (I3.stkSub b z)with e | e
  . exact(hf b hb).2.1 e
  . exact(hf b hb).2.2.1 e
 funs:=I3.stack
 frf:=I3.stkFree
theorem sU(S:CompScopeO X x N ix scope cl)(I3:Inv X pins σ H3 s3)(hf:∀b∈fp,hZ X pins H3 b)(hlt:∀b∈fp,b<s3.heap.objs.size)(hix:ix.length=N.length){h1:Heap}{t':Nat}{m:Str->Option Value}
 (hn:h1.Ns s3.heap.objs.size m) (hc:h1.IsCell (s3.heap.objs.size+1) none) (hk:∀b o,s3.heap.get? b=some o->h1.get? b=some o):Inv (cU X x N scope cl s3 H3 fp) [] (none::outs ix σ) H3 { s3 with heap:=h1,toks:=t' } where
 ok:=kz S I3 hf hlt
 os:=rfl
 bare:=I3.bare
 base:=Un.kept hk
 loc:=by
  refine⟨m,hn,fun i y v h1' h2 h3=>?_⟩;cases i with
  | zero=>
    have h2':(some (none:Option V))=some (some v):=h2;cases h2'
  | succ j=>
    have h1'':N[j]?=some y:=h1';have h2':(outs ix σ)[j]?=some (some v):=h2;have nyx:y≠x:=fun z=>(List.nodup_cons.mp S.nd).1 (z▸zZ0 h1'')
    obtain ⟨hr,k,c,e1,e2,e3,e4⟩:=S.outs j y h1'';unfold outs at h2';rw[qE0,e1]at h2';have h2'':(σ[k]?).join=some v:=zO0 h2';have e5:σ[k]?=some (some v):=by
     cases q:σ[k]? with
     | none=>rw[q]at h2'';cases h2''
     | some o=>rw[q]at h2'';exact congrArg some h2''
    obtain⟨m0,_,hl⟩:=I3.loc;obtain⟨u,r,l⟩:=hl k y v e2 e5 (.inr (.inl e4));refine⟨u,r,.inr ⟨.inl hr,c,(iV nyx).trans e3,?_⟩⟩;rcases l with⟨kk,_⟩ | ⟨_,c',ec,z⟩
    . have kk':X.env.scope.names.lookup y=some .local:=kk;rw[e4]at kk';cases kk'
    . rw[S.cells e3]at ec;cases ec;obtain⟨o,ho,hd⟩:=z;exact⟨o,hk _ _ ho,hd⟩
 cell:=fun y c e=>by
  rcases dy e with⟨_,c1⟩ | ⟨_,l⟩
  . rw[c1];exact⟨none,hc⟩
  . obtain⟨v,o,ho,hd⟩:=I3.cell y c (S.cells l);exact⟨v,o,hk _ _ ho,hd⟩
 free:=I3.hok.fresh (zI0 _)
 freeC:=fun y c e=>by
  rcases dy e with⟨_,c1⟩ | ⟨_,l⟩
  . rw[c1];exact I3.hok.fresh (qO0 _)
  . exact I3.freeC y c (S.cells l)
 pin:=fun p hp=>absurd (show p∈([]:List (Addr×Obj))from hp) (by simp)
 hok:=I3.hok.kept hk
 len:=by
  show(none::outs ix σ).length=(x::N).length;rw[zV0,zV0];unfold outs;rw[zE0,hix]
theorem vj(I3:Inv X pins σ H3 s3)(hf:∀b∈fp,hZ X pins H3 b){σ':St}{H':Hp}{s':Shared}{h'':Heap}(J:Inv (cU X x N scope cl s3 H3 fp) [] σ' H' s')(hb:Heap.SameBut s3.heap.objs.size s'.heap h'') :
 Inv X pins σ H' { s' with heap:=h'' }:=by
 have ne:∀b o,s3.heap.get? b=some o->b≠s3.heap.objs.size:=fun b o e=>zS0 (zM0 e)
 have B:Un (frs X.stack) fp H3 H' s3.heap s'.heap:=J.base;refine I3.call' (s':={ s' with heap:=h'' }) (ch:=fp) J.os ⟨fun b o e n h1 h2=>(hb.2 b (ne b o e)).trans (B.keep b o e n h1 h2),fun b o e n h1 h2=>?_,B.free,fun b o e h2=>?_,B.tups,B.frzs,B.tbls⟩ (fun b ob e=>?_) J.bare (fun b z=>?_)
 . obtain⟨sl,q⟩:=B.slot b o e n h1 h2;exact⟨sl,(hb.2 b (ne b o e)).trans q⟩
 . obtain⟨o',q⟩:=B.there b o e h2;exact⟨o',(hb.2 b (ne b o e)).trans q⟩
 . have fr:H' s3.heap.objs.size=none:=J.free;refine(J.hok b ob e).stay (fun c w' hc q=>(hb.2 c ?_).trans q) (fun _ q=>q) fun _ _ q=>q
   rintro rfl;rcases hc with rfl | hc
   . rw[fr]at e;cases e
   . rw[fr]at hc;cases hc
 . obtain⟨_,h2,_,h4,h5,h6⟩:=hf b z;exact⟨h4,h2,h5,h6⟩
end
section
variable {M:Model} {A:Around} {E:Value->Shared->Prop} {s:Shared}
theorem Ad {scope:Scope} {globals:Addr} {cl:List (Str×Addr)} {x qual:Str} {env:Env} {Q:Env->Shared->Prop} (lay:∀(n:Addr) (h:Heap),cellsFrom n scope.names cl=(x,n)::cl/\pushCells h scope.names=h.push { cls:=.type "cell",data:=.cell none })
 (q:∀h',h'.Ns s.heap.objs.size (fun _=>none)->h'.IsCell (s.heap.objs.size+1) none->(∀b o,s.heap.get? b=some o->h'.get? b=some o) ->
  Q { scope:=scope,locals:=s.heap.objs.size,globals:=globals,cells:=(x,s.heap.objs.size+1)::cl,qual:=qual,func:=none,code:=env.code,frame:=env.frame,builtins:=env.builtins } { s with heap:=h' }) :
 wpAny M A (newFunctionEnv scope globals cl [] qual none .none (some env)) Q E s:=by
 simp only[newFunctionEnv,Option.isSome_some,if_true];refine zA0 (wpAny_alloc ?_);refine zA0 (wpAny_layCells _ (fun name kind cells=>by cases hkc:kind==NameKind.cell <;> simp [hkc]) _ _ _ _ ?_);have hz:(s.heap.push { cls:=.type "dict",data:=.dict #[] }).objs.size=s.heap.objs.size+1:=Heap.size_push ..;rw[show({ s with heap:=s.heap.push { cls:=.type "dict",data:=.dict #[] } }:Shared).heap.objs.size=s.heap.objs.size+1 from hz,(lay _ s.heap).1];show wpAny M A (do let _ ←(forIn [] PUnit.unit fun _ _=>_:Sem PUnit);pure _) Q E _;rw[List.forIn_nil];refine zA0 (zH0 (zH0 ?_));rw[(lay 0 _).2];refine q _ ((Heap.Ns.new s.heap (.type "dict")).keeps fun b o e=>zL0 _ e) ?_ fun b o e=>zL0 _ (zL0 _ e)
 rw[←hz];exact⟨_,zW0 _ rfl,rfl⟩
end
section
variable {X:Cx} {x:Str} {N:List Str} {ix:List Nat} {scope:Scope} {cl:List (Str×Addr)} {elt iter:Expr} {ifs:List Expr} {px pos:Pos} {wi:TI} {tb:TBl}
theorem yJ(hc:X.calm=true)(S:CompScopeO X x N ix scope cl)(hix:ix.length=N.length)(hb:∀s3 H3 fp,PB (cU X x N scope cl s3 H3 fp) ifs elt tb)
 {pins:List (Addr×Obj)} {s2:Shared} {σ:St} {H2:Hp} {Q:VK} {it:Addr} {fp:List Addr} {tn:Nat->Heap->Prop} {J:It} {RR:Value->Addr->Result->Shared->Prop} {E:Value->Shared->Prop}
 (I2:Inv X pins σ H2 s2) (T:Turn X.prog X.w X.K (.Name x px) J fp it tn) (st2:tn 0 s2.heap) (f2:∀b∈fp,hZ X pins H2 b)
 (h:∀D,H2 D=none->∃W:Nat->Nat->Hp->Prop,(∃m,W 0 m (upd H2 D (.lst [])))/\∀i m H3,W i m H3 ->
  (J.stop i H3/\Q (.ref D) H3)∨(J.go i H3/\∀y H4,J.yld i H3 y H4->tb (some y::outs ix σ) H4 (fun H5=>∃m',m'<m/\W (i+1) m' H5)
   fun z H5=>∃ys,H5 D=some (.lst ys)/\ys.length<sizeLine/\∃m',m'<m/\W (i+1) m' (upd H5 D (.lst (ys++[z])))))
 (hRR:∀(D C:Addr)(H':Hp)(s':Shared)(m:Str->Option Value),s'.heap.Ns C m->Apart X pins H' C->Inv X pins σ H' s'->Q (.ref D) H'->RR (.ref D) C (.ok .next) s') :
 wpAny (model X.prog X.w) X.A (newList []) (fun acc s3=>wpAny (model X.prog X.w) X.A (newFunctionEnv scope X.env.globals cl [] X.env.qual none .none (some X.env)) (fun cenv s4=>
  codeAny (model X.prog X.w) X.A (.compStart (.ListComp elt [⟨.Name x px,iter,ifs,0⟩] scope pos) 0 (.ref it) acc { cenv with scope:=relabel scope X.env }) (RR acc cenv.locals) s4) E s3) E s2:=by
 refine wpAny_newObj_type (Ad S.lay fun h1 hns1 hcl1 up1=>?_)
 dsimp only at hns1 hcl1 up1 ⊢
 have I3:Inv X pins σ (upd H2 s2.heap.objs.size (.lst [])) { s2 with heap:=s2.heap.push { cls:=.type "list",dict:=none,data:=.seq ([]:List Value).toArray } }:=I2.lnew (its:=[]) (ys:=[]) (t':=s2.toks) .nil (zN0 _);have hD:H2 s2.heap.objs.size=none:=I2.fresh;obtain⟨W,⟨m0,w0⟩,turn⟩:=h s2.heap.objs.size hD;have hltF:∀b∈fp,b<s2.heap.objs.size:=fun b hb=>by
  obtain⟨o,e,_⟩:=T.obj 0 _ st2 b hb;exact zM0 e
 generalize hs3:({ s2 with heap:=s2.heap.push { cls:=.type "list",dict:=none,data:=.seq ([]:List Value).toArray } }:Shared)=s3 at I3;have eh:s2.heap.push { cls:=.type "list",dict:=none,data:=.seq ([]:List Value).toArray }=s3.heap:=by rw[←hs3]
 have et:s2.toks=s3.toks:=by rw[←hs3]
 rw[eh]at hns1 hcl1 up1 ⊢;have sz3:s3.heap.objs.size=s2.heap.objs.size+1:=by rw[←eh,Heap.size_push]
 have hlt3:∀b∈fp,b<s3.heap.objs.size:=fun b hb=>qH0 (hltF b hb) (by rw[sz3];exact qO0 _)
 have f3:∀b∈fp,hZ X pins (upd H2 s2.heap.objs.size (.lst [])) b:=fun b hb=>by
  obtain⟨q1,q2⟩:=f2 b hb;exact⟨by rw[aq (zS0 (hltF b hb))];exact q1,q2⟩
 have up:∀b o,s3.heap.get? b=some o->h1.get? b=some o:=up1
 have old:∀b o,s2.heap.get? b=some o->h1.get? b=some o:=fun b o e=>up b o (by rw[←eh];exact zL0 _ e)
 have es:({ s2 with heap:=h1 }:Shared)={ s3 with heap:=h1,toks:=s3.toks }:=by rw[←hs3]
 rw [es];have I4:Inv (cU X x N scope cl s3 (upd H2 s2.heap.objs.size (.lst [])) fp) [] (none::outs ix σ) (upd H2 s2.heap.objs.size (.lst [])) { s3 with heap:=h1,toks:=s3.toks }:=
  sU S I3 f3 hlt3 hix hns1 hcl1 up
 have st4:tn 0 h1:=T.keep 0 _ _ st2 fun b _ o e=>old b o e
 have loop:codeAny (model X.prog X.w) X.A (.compLoop (.ListComp elt [⟨.Name x px,iter,ifs,0⟩] scope pos) 0 (.ref it) (.ref s2.heap.objs.size) (compEnvC scope ((x,s3.heap.objs.size+1)::cl) s3.heap.objs.size X.env)) (RR (.ref s2.heap.objs.size) s3.heap.objs.size)
  { s3 with heap:=h1,toks:=s3.toks }:=by
  refine lF (fun n s'=>∃i v0 H',Inv (cU X x N scope cl s3 (upd H2 s2.heap.objs.size (.lst [])) fp) [] (v0::outs ix σ) H' s'/\tn i s'.heap/\(∀b∈fp,H' b=none)/\W i n H') ?_ m0 ⟨0,none,_,I4,st4,fun b hb=>(f3 b hb).1,w0⟩;rintro n s5 ⟨i,v0,H5,I5,st5,fr5,w5⟩;have stat:∀{H':Hp},(∀b∈fp,H' b=none)->∀b∈fp,hZ (cU X x N scope cl s3 (upd H2 s2.heap.objs.size (.lst [])) fp) [] H' b:=fun hn b hb=>
   ⟨hn b hb,((kz S I3 f3 hlt3).exf b hb).1,(kz S I3 f3 hlt3).exfs b hb,.inl hb,((kz S I3 f3 hlt3).exf b hb).2,fun p hp=>absurd (show p∈([]:List (Addr×Obj))from hp) (by simp)⟩
  rcases turn i n H5 w5 with⟨stop,qn⟩ | ⟨go,step⟩
  . refine thn (T.done (cU X x N scope cl s3 (upd H2 s2.heap.objs.size (.lst [])) fp) rfl rfl rfl hc i [] s5 _ H5 _ I5 (stat fr5) st5 stop) fun r s6 ⟨hr,I6⟩=>?_
    subst hr;obtain⟨m6,hn6,_⟩:=I6.loc;exact hRR _ _ H5 s6 m6 hn6 ⟨I6.free,Ne.symm (zS0 I3.lt),I3.sz,fun y c e z=>by
     obtain⟨v,q⟩:=I3.cell y c e;exact absurd q.lt (by rw[z];exact qQ0 _),fun p hp z=>absurd (zM0 (I3.pin p hp).1) (by rw[z];exact qQ0 _)⟩ (vj I3 f3 I6 (Heap.SameBut.refl _ _)) qn
  . refine thn (T.item (cU X x N scope cl s3 (upd H2 s2.heap.objs.size (.lst [])) fp) rfl rfl rfl hc i [] s5 _ H5 _ I5 (stat fr5) st5 go) fun r s6 ⟨u,hr,h6⟩=>?_
    subst hr;refine thn h6 fun _ s7 ⟨y,H7,I7,r7,y7,st7,fr7⟩=>?_
    have I7':=I7.pinned (stat fr7) (T.obj _ _ st7);refine wpAny_assign_Name (eR (i:=0) I7' S.nd rfl (.inr S.own) r7 (fun s8 I8=>?_) (.inl (by show(x==x)=true;simp)));have I8':Inv (cU X x N scope cl s3 (upd H2 s2.heap.objs.size (.lst [])) fp) ([]++iN fp s7.heap) (some y::outs ix σ) H7 s8:=I8;have again:∀{v9:Option V}{H9:Hp}{s9:Shared},Inv (cU X x N scope cl s3 (upd H2 s2.heap.objs.size (.lst [])) fp) ([]++iN fp s7.heap) (v9::outs ix σ) H9 s9->(∃m',m'<n/\W (i+1) m' H9) ->
     ∃m,m<n/\∃i v0 H',Inv (cU X x N scope cl s3 (upd H2 s2.heap.objs.size (.lst [])) fp) [] (v0::outs ix σ) H' s9/\tn i s9.heap/\(∀b∈fp,H' b=none)/\W i m H':=fun{v9 H9 s9} I9 ⟨m',hm,w9⟩=>by
     refine⟨m',hm,i+1,v9,H9,I9.unpinned,T.keep _ _ _ st7 fun b hb o e=>(I9.pin (b,o) (qN0 _ (qN0 _ (eG hb e)))).1,fun b hb=>?_,w9⟩;obtain⟨o,e,d⟩:=T.obj _ _ st7 b hb;exact(I9.pin (b,o) (qN0 _ (qN0 _ (eG hb e)))).2.1
    refine thn (hb s3 (upd H2 s2.heap.objs.size (.lst [])) fp _ s8 _ H7 _ _ I8' (step y H7 y7)) fun ok s9 q9=>?_
    cases ok with
    | false=>
      rw[zD0 (by decide)]at q9 ⊢;obtain⟨H9,I9,q9⟩:=q9;exact again I9 q9
    | true=>
      rw[zF0 rfl]at q9 ⊢;refine thn q9 fun u s10 ⟨z,H10,I10,r10,ys,hy,hz,q10⟩=>?_
      refine thn (gY _ s10 _ H10 (.ref s2.heap.objs.size) [z] (.ref s2.heap.objs.size) [u] (fun _ H'=>∃m',m'<n/\W (i+1) m' H') I10 rfl (.cons r10 .nil) ⟨_,ys,z,rfl,rfl,hy,hz,q10⟩) fun _ s11 ⟨_,H11,I11,_,q11⟩=>?_
      exact again I11 q11
 exact codeAny_compStart_list loop (T.self _ 0 _ _ _ st4 loop)
theorem zR(hc:X.calm=true)(S:CompScopeO X x N ix scope cl)(hix:ix.length=N.length)(hi:PI X (.Name x px) iter wi)(hb:∀s3 H3 fp,PB (cU X x N scope cl s3 H3 fp) ifs elt tb)
 (hs:∀x,foldedSetIterable iter X.env x=pure x:=by intro _;rfl):PE X (.ListComp elt [⟨.Name x px,iter,ifs,0⟩] scope pos) (tR wi ix tb):=by
 intro pins s σ H Q I h;rw[eval_ListComp];refine wpAny_comprehension_free (use:=none) rfl hs S.clos S.kind S.names (thn (hi pins s σ H _ I h) fun xv s1 h1=>thn h1 fun itv s2 h2=>?_);obtain⟨it,fp,tn,J,H2,rfl,I2,T,st2,f2,R⟩:=h2;refine yJ hc S hix hb (RR:=fun acc C=>compPost (model X.prog X.w) X.A X.xe none (EP X pins σ Q) acc C) I2 T st2 f2 R ?_;intro D C H' s' m hn ap I' q;exact⟨m,hn,fun h'' hb''=>⟨.ref D,H',ap.turn I' hb'',rfl,q⟩⟩
theorem CompScopeO.one {y:Str} {k:Nat} {c:Addr} (c1:closureFor scope X.env=pure [(y,c)]) (c2:∀(n:Addr) (h:Heap),cellsFrom n scope.names [(y,c)]=(x,n)::[(y,c)]/\pushCells h scope.names=h.push { cls:=.type "cell",data:=.cell none }) (c3:scope.kind=.function) (c4:∀y∈scope.names,y.2=.local->scope.names.lookup y.1=some .local)
 (c5:(relabel scope X.env).names.lookup x=some .cell) (nd:[x,y].Nodup) (hc:X.env.cells.lookup y=some c) (c6:((relabel scope X.env).names.all fun p=>!(p.2==.cell||p.2==.free)||(p.1==x||(([(y,c)]:List (Str×Addr)).lookup p.1).isSome))=true)
 (hr:(relabel scope X.env).names.lookup y=some .cell) (hk:X.N[k]?=some y) (hs:X.env.scope.names.lookup y=some .cell):CompScopeO X x [y] [k] scope [(y,c)] where
 clos:=c1
 lay:=c2
 kind:=c3
 names:=c4
 own:=c5
 nd:=nd
 sub:=fun p hp=>by
  rw[zQ0 hp];exact hc
 has:=c6
 outs:=fun j z h=>by
  cases j with
  | zero=>
    have e:y=z:=zO0 h;subst e;exact⟨hr,k,c,rfl,hk,by simp [List.lookup],hs⟩
  | succ j=>simp at h
theorem iW (K:W.Frag) (hK:X.K=K:=by rfl):fh X (.type "tuple") (fun xs H Q=>∃p ys,xs=[.ref p]/\((SqL K H p ys/\∀l,H l=none->Q (.ref l) (upd H l (.tup ys)))∨(SqT K H p ys/\Q (.ref p) H))):=by subst hK;exact bN
end
theorem CompScope.four{X:Cx}{x y z u v:Str}{scope:Scope}{k l m n:Nat}{c d e g:Addr}{cl:List (Str×Addr)}(c1:closureFor scope X.env=pure cl)(c2:∀y∈scope.names,y.2≠.cell)(c3:scope.kind=.function)(c4:∀y∈scope.names,y.2=.local->scope.names.lookup y.1=some .local)
 (c5:scope.names.lookup x=some .local) (nd:[x,y,z,u,v].Nodup) (hcl:cl=[(y,c),(z,d),(u,e),(v,g)]) (hc:X.env.cells.lookup y=some c) (hd:X.env.cells.lookup z=some d) (he:X.env.cells.lookup u=some e) (hg:X.env.cells.lookup v=some g) (c6:((relabel scope X.env).names.all fun p=>!(p.2==.cell||p.2==.free)||(cl.lookup p.1).isSome)=true)
 (hr:(relabel scope X.env).names.lookup y=some .cell) (hk:X.N[k]?=some y) (hs:X.env.scope.names.lookup y=some .cell)
 (hr2:(relabel scope X.env).names.lookup z=some .cell) (hk2:X.N[l]?=some z) (hs2:X.env.scope.names.lookup z=some .cell)
 (hr3:(relabel scope X.env).names.lookup u=some .cell) (hk3:X.N[m]?=some u) (hs3:X.env.scope.names.lookup u=some .cell)
 (hr4:(relabel scope X.env).names.lookup v=some .cell) (hk4:X.N[n]?=some v) (hs4:X.env.scope.names.lookup v=some .cell):CompScope X x [y,z,u,v] [k,l,m,n] scope cl where
 clos:=c1
 nocell:=c2
 kind:=c3
 names:=c4
 own:=c5
 nd:=nd
 sub:=fun p hp=>by
  subst hcl;rcases zY0 hp with h | h
  . rw[h];assumption
  . rcases zY0 h with h | h
    . rw[h];assumption
    . rcases zY0 h with h | h
      . rw[h];assumption
      . rw[zQ0 h];assumption
 has:=c6
 outs:=fun j w h=>by
  have nyz:y≠z:=fun e=>by simp [e]at nd
  have nyu:y≠u:=fun e=>by simp [e]at nd
  have nyv:y≠v:=fun e=>by simp [e]at nd
  have nzu:z≠u:=fun e=>by simp [e]at nd
  have nzv:z≠v:=fun e=>by simp [e]at nd
  have nuv:u≠v:=fun e=>by simp [e]at nd
  subst hcl
  match j,h with
  | 0,h=>
    have e:y=w:=zO0 h;subst e;exact⟨hr,k,c,rfl,hk,by simp [List.lookup],hs⟩
  | 1,h=>
    have e:z=w:=zO0 h;subst e
    have:(z==y)=false:=by simpa using Ne.symm nyz
    exact⟨hr2,l,d,rfl,hk2,by simp [List.lookup,this],hs2⟩
  | 2,h=>
    have ew:u=w:=zO0 h;subst ew;have h1:(u==y)=false:=by simpa using Ne.symm nyu
    have h2:(u==z)=false:=by simpa using Ne.symm nzu
    exact⟨hr3,m,e,rfl,hk3,by simp [List.lookup,h1,h2],hs3⟩
  | 3,h=>
    have ew:v=w:=zO0 h;subst ew;have h1:(v==y)=false:=by simpa using Ne.symm nyv
    have h2:(v==z)=false:=by simpa using Ne.symm nzv
    have h3:(v==u)=false:=by simpa using Ne.symm nuv
    exact⟨hr4,n,g,rfl,hk4,by simp [List.lookup,h1,h2,h3],hs4⟩
  | j+4,h=>simp at h
def SqB(K:W.Frag)(b:Bool)(H:Hp)(a:Addr)(xs:List V):Prop:=if b=true then SqL K H a xs else SqT K H a xs
end L2
namespace L2
open PySem PyProof.Rows HT
section
variable {X:Cx}
theorem BG(K:W.Frag){tg l:Expr}{tl:TE}(hl:PE X l tl)(hK:X.K=K:=by rfl):PI X tg l (iTup K tl):=by subst hK;exact dk hl
end
end L2
namespace L2
open PySem PySem.Spec PyProof.Rows
section
variable {X:Cx}
abbrev TJ:=St->Hp->Str->VK->Prop
def PJ(X:Cx)(es:List Expr)(t:TJ):Prop:=
 ∀(pins:List (Addr×Obj))(s:Shared)(σ:St)(H:Hp)(out:Str)(Q:VK),Inv X pins σ H s->t σ H out Q->wpAny (model X.prog X.w) X.A (joinParts out (evalEach es X.env)) (EP X pins σ Q) X.xe s
theorem uv:PJ X [] (fun _ H out Q=>out.length<=sizeLine/\Q (.str out) H):=by
 intro pins s σ H out Q I h;exact joinParts_nil ⟨.str out,H,I.tok _,⟨_,rfl⟩,h.2⟩ h.1
theorem jo{e:Expr}{es:List Expr}{te:TE}{t:TJ}(he:PE X e te)(ht:PJ X es t):PJ X (e::es) (fun σ H out Q=>te σ H fun v H1=>∃y,v=.str y/\(out++y).length<=sizeLine/\t σ H1 (out++y) Q):=by
 intro pins s σ H out Q I h;show wpAny _ _ (joinParts out (eval e X.env::evalEach es X.env)) _ _ s;refine joinParts_cons (thn (he pins s σ H _ I h) fun v s1 ⟨x,H1,I1,r1,y,ex,hz,q⟩=>?_);subst ex;obtain⟨t',rfl⟩:=r1;exact⟨hz,ht pins s1 σ H1 _ Q I1 q⟩
theorem qB{e1 e2:Expr}{es:List Expr}{t:TJ}{pos:Pos}(h:PJ X (e1::e2::es) t):PE X (.JoinedStr (e1::e2::es) pos) (fun σ H Q=>t σ H Str.empty Q):=
 fun pins s σ H Q I k=>JoinedStr_many (h pins s σ H Str.empty Q I k)
end
end L2
namespace L2
open PySem
section
variable {M:Model} {A:Around} {E:Value->Shared->Prop} {h:Heap} {g:Array GenState} {d:Drawn} {t:Nat} {os:OsState}
variable {nm q:Str} {C N:Addr} {bs bm:List Value} {hdct:Bool} {sn:List Str} {sub:List Value} {ab:Bool} {col:Option Bool} {dd:Option Addr} {k0 k1 k2 k3 k5:Option Value} {Bn newId inN:String} {bmN:List Value}
theorem vo(Fn:ExcBaseFacts Bn newId inN bmN)(hcont:(Value.ref C::bm).contains (.type Bn)=true){rest:List Value}{Q:Unit->Shared->Prop}(hC:h.get? C=some (excClassObj nm q C N bs bm hdct sn sub ab col dd k0 k1 k2 k3 k5 newId))
 (hq:Q () ⟨h,g,d,t,os⟩):wpAny M A (checkBuiltinCall newId ⟨.ref C::rest,[]⟩) Q E ⟨h,g,d,t,os⟩:=by
 have hstar:=Fn.noStar;simp only[checkBuiltinCall,Fn.newKind,Fn.newSplit,Fn.newRow]
 repeat (first | refine wpAny_loadPart_at hC ?_ | (refine wpAny_isSubtype_exc hC ?_;rw[hcont]) | refine wpAny_staticBase_exc hC ?_ | refine wpAny_madeBy_exc hC ?_ | simp only[bne_self_eq_false,Bool.false_eq_true,if_false] | wp_step)
 exact hq
end
section
variable {prog:Program} {w:World} {A:Around} {R:Result->Shared->Prop} {h:Heap} {g:Array GenState} {d:Drawn} {t:Nat} {os:OsState}
variable {nm q:Str} {C N:Addr} {bs bm:List Value} {hdct:Bool} {sn:List Str} {sub:List Value} {ab:Bool} {col:Option Bool} {dd:Option Addr} {k0 k1 k2 k3 k5:Option Value} {Bn newId inN:String} {bmN:List Value}
theorem AB (Fn:ExcBaseFacts Bn newId inN bmN) (hcB:(Value.ref C::bm).contains (.type Bn)=true) (hcA:(Value.ref C::bm).contains (.type "AttributeError")=false) (hcN:(Value.ref C::bm).contains (.type "NameError")=false) {rest:List Value} (hC:h.get? C=some (excClassObj nm q C N bs bm hdct sn sub ab col dd k0 k1 k2 k3 k5 newId))
 (hq:R (.ok (.ret (.ref (h.objs.size+1)))) ⟨(h.push { cls:=.type "tuple",data:=.seq rest.toArray }).push
  { cls:=.ref C,data:=.fields #[.ref h.objs.size,.none,.none,.none,.bool false,.none] },g,d,t,os⟩) (hrest:rest.length<=sizeLine:=by size_fits) :
 codeAny (model prog w) A (.builtin newId ⟨.ref C::rest,[]⟩) R ⟨h,g,d,t,os⟩:=by
 have hends:=Fn.ends;refine codeAny_builtinAt Fn.entry ?_;unfold Builtin.«BaseException.__new__»;refine wpAt_bind ?_;show wpAt _ _ _ (stack >>= _) _ _ _;refine wpAt_bind (wpAt_stack fun p below=>wpAt_of_wpAny ?_)
 wp_walk
 refine wpAt_of_wpAny ?_;rw[Fn.owner]
 repeat (first | with_reducible refine wpAny_madeHere_exc Fn.canon hC ?_ | with_reducible refine wpAny_loadPart_at hC ?_ | (with_reducible refine wpAny_isSubtype_exc hC ?_;first | rw[hcB] | rw[hcA] | rw[hcN]) | wp_step)
 show R _ _;rw[Heap.size_push];exact hq
end
section
variable {prog:Program} {w:World} {A:Around} {E:Value->Shared->Prop} {h:Heap} {g:Array GenState} {d:Drawn} {t:Nat} {os:OsState}
variable {nm q:Str} {C N:Addr} {bs bm:List Value} {hdct:Bool} {sn:List Str} {sub:List Value} {ab:Bool} {col:Option Bool} {dd:Option Addr} {k0 k1 k2 k3 k5:Option Value} {Bn newId inN:String} {bmN:List Value}
abbrev dM(C:Addr)(dx:Option Addr)(vs:Array Value):Obj:={ cls:=.ref C,dict:=dx,data:=.fields vs }
abbrev iT(C a:Addr):Obj:=dM C none #[.ref a,.none,.none,.none,.bool false,.none]
theorem lK (Fn:ExcBaseFacts Bn newId inN bmN) (hcB:(Value.ref C::bm).contains (.type Bn)=true) (hcA:(Value.ref C::bm).contains (.type "AttributeError")=false) (hcN:(Value.ref C::bm).contains (.type "NameError")=false) {rest:List Value} {fI:Addr} {oI:Obj} {Q:Fin->Shared->Prop}
 (hC:h.get? C=some (excClassObj nm q C N bs bm hdct sn sub ab col dd k0 k1 k2 k3 k5 newId)) (hi:PySem.W.Looks (model prog w) h (typeLookup (.ref C) "__init__") (some (.ref fI)))
 (hfI:h.get? fI=some oI) (hfc:oI.cls=.type "function")
 (hq:wpAny (model prog w) A (call (.ref fI) (.ref (h.objs.size+1)::rest)) (fun r s'=>r=.none/\Q (.done (.ret (.ref (h.objs.size+1)))) s') E ⟨(h.push { cls:=.type "tuple",data:=.seq rest.toArray }).push (iT C h.objs.size),g,d,t,os⟩) (hrest:rest.length<=sizeLine:=by size_fits) :
 wpAny (model prog w) A (Builtin.«type.__call__» ⟨.ref C::rest,[]⟩) Q E ⟨h,g,d,t,os⟩:=by
 repeat (first | with_reducible refine wpAny_loadPart_at hC ?_ | with_reducible refine wpAny_madeBy_exc hC ?_ | wp_step)
 refine codeAny_call_builtin_code (Code.quiet_builtin _ Fn.quiet) (vo Fn hcB hC ?_);refine AB Fn hcB hcA hcN hC ?_ hrest;show wpAny _ _ _ _ _ _;have hC₁:=zL0 (iT C h.objs.size) (zL0 { cls:=.type "tuple",data:=.seq rest.toArray } hC);have hfI₁:=zL0 (iT C h.objs.size) (zL0 { cls:=.type "tuple",data:=.seq rest.toArray } hfI);have hget:((h.push { cls:=.type "tuple",data:=.seq rest.toArray }).push (iT C h.objs.size)).get? (h.objs.size+1)=some (iT C h.objs.size):=by heap_get
 have hcC:(Value.ref C::bm).contains (.ref C)=true:=by simp
 unfold isInstance
 repeat (first | with_reducible refine wpAny_loadPart_at hget ?_ | (with_reducible refine wpAny_isSubtype_exc hC₁ ?_;rw[hcC]) | wp_step)
 show wpAny _ _ (typeLookup (.ref C) _) _ _ _;refine hi _ _ _ _ (fun b o e=>zL0 _ (zL0 _ e)) ?_;refine wpAny_holding (zA0 ?_);unfold bindSpecial;refine zA0 (wpAny_typeOf (T:="function") ⟨_,hfI₁,hfc⟩ ?_);rw[zF0 (by decide)];refine zH0 (zA0 (wpAny_mono hq (fun r s' hr=>?_) fun _ _ x=>x));obtain⟨rfl,hQ⟩:=hr
 wp_walk
 exact hQ
theorem oA (Fn:ExcBaseFacts Bn newId inN bmN) (hcB:(Value.ref C::bm).contains (.type Bn)=true) (hcA:(Value.ref C::bm).contains (.type "AttributeError")=false) (hcN:(Value.ref C::bm).contains (.type "NameError")=false) {rest:List Value} {fI:Addr} {oI:Obj} {Q:Value->Shared->Prop}
 (hC:h.get? C=some (excClassObj nm q C N bs bm hdct sn sub ab col dd k0 k1 k2 k3 k5 newId)) (hi:PySem.W.Looks (model prog w) h (typeLookup (.ref C) "__init__") (some (.ref fI)))
 (hfI:h.get? fI=some oI) (hfc:oI.cls=.type "function")
 (hq:wpAny (model prog w) (A.under (.builtin "type.__call__" ⟨.ref C::rest,[]⟩)) (call (.ref fI) (.ref (h.objs.size+1)::rest)) (fun r s'=>r=.none/\Q (.ref (h.objs.size+1)) s') E ⟨(h.push { cls:=.type "tuple",data:=.seq rest.toArray }).push (iT C h.objs.size),g,d,t,os⟩) (hrest:rest.length<=sizeLine:=by size_fits) :
 wpAny (model prog w) A (call (.ref C) rest) Q E ⟨h,g,d,t,os⟩:=by
 have f1:=tc_lookup;have f2:=tc_bind (.ref C);have hT:(⟨h,g,d,t,os⟩:Shared).TypeIs (.ref C) "type":=⟨_,hC,rfl⟩
 refine wpAny_call (codeAny_of_tree ?_);show wpAny _ _ (callAny (.ref C) _) _ _ _
 repeat (any_goals (first | assumption | with_reducible refine wpAny_loadPart_at hC ?_ | wp_step))
 refine⟨rfl,?_⟩;refine codeAny_call_builtin_at (Code.quiet_builtin _ (by decide)) entry_typeCall (wpAny_check_type_call_sub hC (lK (hrest:=hrest) Fn hcB hcA hcN hC hi hfI hfc ?_));exact hq
end
end L2
namespace L2
open PySem PySem.Spec PyProof.Rows
def ObP(e:Addr)(p:Obj->Prop):HO:=.ext fun h=>∃o,h.get? e=some o/\p o
theorem ObP.ok{P:Program}{w:World}{H:Hp}{h:Heap}{e:Addr}{p:Obj->Prop}{o:Obj}(ho:h.get? e=some o)(hp:p o):ObjOk P w H h e (ObP e p):=
 ⟨⟨o,ho,hp⟩,⟨o,ho⟩,fun _ _ ⟨o,ho,hp⟩ k=>⟨o,k o ho,hp⟩⟩
theorem ObP.get{P:Program}{w:World}{H:Hp}{h:Heap}{e:Addr}{p:Obj->Prop}(x:HOk P w H h)(he:H e=some (ObP e p)):∃o,h.get? e=some o/\p o:=(x e _ he).1
abbrev vs6(a:Addr):Array Value:=#[.ref a,.none,.none,.none,.bool false,.none]
def lc(C e:Addr):HO:=ObP e fun o=>∃a,o=dM C none (vs6 a)
def oF(C e dx:Addr):HO:=ObP e fun o=>∃a,o=dM C (some dx) (vs6 a)
def oE(C e dx:Addr):HO:=ObP e fun o=>∃vs,o=dM C (some dx) vs/\vs.size=6/\vs[2]?=some Value.none
structure MkX(K:W.Frag)(C f:Addr):Prop where
 obj:∃(nm q:Str) (N:Addr) (bs bm:List Value) (hdct:Bool) (sn:List Str) (sub:List Value) (ab:Bool) (col:Option Bool) (dd:Option Addr) (k0 k1 k2 k3 k5:Option Value),K.lookup C=some (excClassObj nm q C N bs bm hdct sn sub ab col dd k0 k1 k2 k3 k5 "ValueError.__new__")/\
  (Value.ref C::bm).contains (.type "ValueError")=true/\(Value.ref C::bm).contains (.type "AttributeError")=false/\(Value.ref C::bm).contains (.type "NameError")=false
 init:W.findIn K (.ref C) "__init__"=some (some (.ref f))
 fn:∃o,K.lookup f=some o/\o.cls=.type "function"
 kp:W.keepIn K (.ref C)=true
section
variable {X:Cx} {CX:CXT} {k:Nat} {f C:Addr} {fd:FuncData} {ps:List Str} {sp:Sp} {dvs:List V} {ds:List Value} {E:XK} {x m:Str} {p pos apos:Pos} {e o:Expr} {es:List Expr} {ta:TE} {t:TA}
theorem xF{pins:List (Addr×Obj)}{σ:St}{H:Hp}{s:Shared}{Q:VK}{us:List Value}{vs:List V}(M:MkX X.K C f)(Fo:FnOk X.prog X.w X.K X.mg X.base CX k f fd ps sp)(hr:Room (k+1) X.A)(hb:Binds X.K fd ps ds)(hd:Vals dvs ds)
 (hx:gu CX X E) (I:Inv X pins σ H s) (r:Vals vs us) (hz:vs.length<=sizeLine)
 (h:∀e,H e=none->sp (.ref e::(vs++dvs)) (upd H e (lc C e)) (fun v H2=>v=.non/\Q (.ref e) H2) E) :
 wpAny (model X.prog X.w) X.A (call (.ref C) us) (EP X pins σ Q) X.xe s:=by
 have hf:H (s.heap.objs.size+1)=none:=I.hok.fresh (qO0 _);have hq:=h (s.heap.objs.size+1) hf;obtain⟨nm,q,N,bs,bm,hdct,sn,sub,ab,col,dd,k0,k1,k2,k3,k5,lk,c1,c2,c3⟩:=M.obj;obtain⟨oI,lf,hfc⟩:=M.fn;obtain⟨hh,g,d,tk,os⟩:=s;have I1:Inv X pins σ H { heap:=hh.push { cls:=.type "tuple",data:=.seq us.toArray },gens:=g,drawn:=d,toks:=tk,os:=os }:=I.kept (t':=tk) fun b o e=>zL0 _ e
 have sz1:(hh.push { cls:=.type "tuple",data:=.seq us.toArray }).objs.size=hh.objs.size+1:=Heap.size_push ..;have I2:Inv X pins σ (upd H (hh.objs.size+1) (lc C (hh.objs.size+1))) { heap:=(hh.push { cls:=.type "tuple",data:=.seq us.toArray }).push (iT C hh.objs.size),gens:=g,drawn:=d,toks:=tk,os:=os }:=
  I1.laid (t':=tk) (fun b o e=>zL0 _ e) (Nat.le_of_eq sz1) (ObP.ok (o:=iT C hh.objs.size) (by rw[←sz1];exact zW0 _ rfl) ⟨_,rfl⟩)
 have r2:Vals (V.ref (hh.objs.size+1)::(vs++dvs)) (Value.ref (hh.objs.size+1)::(us++ds)):=.cons rfl (r.append hd);have hl:(Value.ref (hh.objs.size+1)::us++ds).length=ps.length:=by
  have e:=r2.length;rw[Fo.len _ _ _ _ hq]at e;exact e.symm
 refine oA PySem.F.excBase_ValueError c1 c2 c3 (I.kIn _ _ lk) (W.looks_findIn I.kIn M.init) (I.kIn _ _ lf) hfc ?_ (by rw[←r.length];exact hz);refine wpAny_call (codeAny_mono (Fo.run _ X.stack _ _ ⟨Value.ref (hh.objs.size+1)::us,[]⟩ (Value.ref (hh.objs.size+1)::(us++ds)) _ _ E (hr.make C us []) (I2.env0.make C us []) (hb _ (Value.ref (hh.objs.size+1)::us) I2.kIn hl) r2 hq) fun r s' hq'=>?_);cases r with
 | error e=>exact hx pins σ _ _ e s' I2 hq'
 | ok fl=>
   cases fl with
   | ret u=>
     obtain⟨v,H',I3,rv,ev,q3⟩:=I2.after hq';subst ev;exact⟨rv,⟨V.ref (hh.objs.size+1),H',I3,rfl,q3⟩⟩
   | next=>exact False.elim hq'
   | brk=>exact False.elim hq'
   | cont=>exact False.elim hq'
def CW(C:Addr)(sp:Sp)(dvs:List V)(E:XK)(t:TA):TE:=fun σ H Q=>t σ H fun vs H1=>vs.length<=sizeLine/\∀e,H1 e=none ->
 sp (.ref e::(vs++dvs)) (upd H1 e (lc C e)) (fun v H2=>v=.non/\Q (.ref e) H2) E
theorem gX(M:MkX X.K C f)(F:FnOk X.prog X.w X.K X.mg X.base CX k f fd ps sp)(hr:Room (k+1) X.A)(hg:Gl X x)(hm:X.mg x=some (.ref C))(hb:Binds X.K fd ps ds)(hd:Vals dvs ds)(hx:gu CX X E)
 (hdb:(x==("__debug__":Str))=false:=by decide):PE X (.Call (.Name x p) [] [] pos) (CW C sp dvs E xg):=by
 intro pins s σ H Q I h;refine wpAny_Call_Name_kw (ku I hg hm ?_ hdb);exact W.callWith_K0 I.kIn M.kp (xF (us:=[]) M F hr hb hd hx I .nil h.1 h.2)
end
structure ClsFn(K:W.Frag)(C f:Addr)(name:Str):Prop where
 ga:W.specialIn K (.ref C) "__getattribute__"=some (some (.builtin "type.__getattribute__"))
 rd:W.readsIn K C (.type "type")=true
 fc:(match W.findCls K (.ref C) (.type "type") name with | some (.val v)=>some v | _=>none)=some (.ref f)
 kp:W.keepIn K (.ref f)=true
theorem ClsFn.find {K:W.Frag} {C f:Addr} {name:Str} (c:ClsFn K C f name):W.findCls K (.ref C) (.type "type") name=some (.val (.ref f)):=by
 have h:=c.fc
 split at h
 . rename_i v e;cases h;exact e
 . cases h
section
variable {X:Cx} {CX:CXT} {k:Nat} {f C:Addr} {fd:FuncData} {ps:List Str} {sp:Sp} {dvs:List V} {ds:List Value} {E:XK} {x m:Str} {p pos apos:Pos} {e o:Expr} {es:List Expr} {ta:TE} {t:TA}
theorem jG {pl:Sem Bool} (hg:Gl X x) (hm:X.mg x=some (.ref C)) (c:ClsFn X.K C f m) (Fo:FnOk X.prog X.w X.K X.mg X.base CX k f fd ps sp) (hr:Room k X.A) (hb:Binds X.K fd ps ds) (hd:Vals dvs ds) (hx:gu CX X E) (ha:PA X (e::es) t) (hdb:(x==("__debug__":Str))=false:=by decide)
 (hst:starEach (e::es) X.env=(false,eval e X.env)::starEach es X.env:=by rfl) (hpl:(backTo pos (starEach es X.env)).any (·.1)=false:=by rfl)
 (ht:eval (.Call (.Attribute (.Name x p) m apos) (e::es) [] pos) X.env=(do
  let ov ←eval (.Name x p) X.env
  standAt apos.atName
  let(f,first) ←holding [ov] (getMethod ov m pl)
  callWith pos f first (backTo pos (starEach (e::es) X.env)) (backToKw pos (keywordEach [] X.env))):=by rfl) :
 PE X (.Call (.Attribute (.Name x p) m apos) (e::es) [] pos) (vJ sp dvs E t):=by
 intro pins s σ H Q I h;refine PySem.W.methodCall_KW (pl:=pl) ?_ ht;refine thn (da (v:=.ref C) hg hm rfl hdb pins s σ H (fun v H'=>v=.ref C/\H'=H) I ⟨rfl,rfl⟩) fun u s1 ⟨v,H1,I1,r1,ev,eH⟩=>?_
 subst ev eH;cases r1;refine W.method_cls I1.kIn c.ga (W.cls_value I1.kIn c.rd c.find rfl ?_);have I2:=I1.tok (s1.toks+1);refine W.callWith_K (first:=[]) (h₀:=X.base) I2.ok.mod.kin c.kp (thn (ha pos pins _ σ H1 _ I2 h) fun us s2 ⟨vs,H2,I3,r,q⟩=>⟨I3.kIn,?_⟩) hst hpl;exact qu Fo hr hb hd hx I3 r q
end
section
variable {prog:Program} {w:World} {A:Around} {E:Value->Shared->Prop} {h:Heap} {g:Array GenState} {d:Drawn} {t:Nat} {os:OsState}
variable {nm q:Str} {C N:Addr} {bs bm:List Value} {hdct:Bool} {sn:List Str} {sub:List Value} {ab:Bool} {col:Option Bool} {dd:Option Addr} {k0 k1 k2 k3 k5:Option Value} {B newId nid initId inN:String} {bmN bmB:List Value}
theorem sX(Fb:ExcBaseFacts B nid initId bmB)(hcB:(Value.ref C::bm).contains (.type B)=true){M:Model}{e:Addr}{oe:Obj}{rest:List Value}{Q:Unit->Shared->Prop}
 (hC:h.get? C=some (excClassObj nm q C N bs bm hdct sn sub ab col dd k0 k1 k2 k3 k5 newId)) (he:h.get? e=some oe) (hcls:oe.cls=.ref C) (hq:Q () ⟨h,g,d,t,os⟩) :
 wpAny M A (checkBuiltinCall initId ⟨.ref e::rest,[]⟩) Q E ⟨h,g,d,t,os⟩:=by
 have hshort:=Fb.noStar;simp only[checkBuiltinCall,Fb.initKind,Fb.initSplit,Fb.initRow]
 repeat (first | (with_reducible refine wpAny_loadPart_at he ?_;rw[hcls]) | with_reducible refine wpAny_loadPart_at hC ?_ | (with_reducible refine wpAny_isSubtype_exc hC ?_;rw[hcB]) | wp_step)
 refine wpAny_onRaise ?_;rw[show ∀(a b:String) (n:Nat),Bind.check ⟨.positional,"*",B,.self,[⟨"args",.varPos,false⟩]⟩ a b n (List.map (fun x=>x.fst) ({ pos:=Value.ref e::rest }:Args).kw)=pure ()from
  fun a b n=>check_star_args _ _ _ _ _ _]
 exact zH0 hq
theorem yA(Fb:ExcBaseFacts B nid initId bmB)(hcB:(Value.ref C::bm).contains (.type B)=true){e a:Addr}{dx:Option Addr}{rest:List Value}{Q:Value->Shared->Prop}
 (hC:h.get? C=some (excClassObj nm q C N bs bm hdct sn sub ab col dd k0 k1 k2 k3 k5 newId)) (he:h.get? e=some (dM C dx (vs6 a))) (hrest:rest.length<=sizeLine)
 (hq:Q .none ⟨(h.push { cls:=.type "tuple",data:=.seq rest.toArray }).update e (Obj.mapFields (·.setIfInBounds 0 (.ref h.objs.size))),g,d,t,os⟩) :
 wpAny (model prog w) A (call (.builtin initId) (.ref e::rest)) Q E ⟨h,g,d,t,os⟩:=by
 refine wpAny_call (codeAny_call_builtin Fb.init.plain Fb.initEntry (sX Fb hcB hC he rfl ?_))
 wp_walk
 exact hq
end
theorem yR {K:W.Frag}:W.findCls K (.type "ValueError") (.type "type") "__init__"=some (.val (.builtin "ValueError.__init__")):=by
 rfl'
theorem yO:typeOf (.type "ValueError")=pure (.type "type"):=by
 kernel_rfl
theorem yT{H:Hp}{e:Addr}{o:HO}(h:H e=some o):upd H e o=H:=by
 funext b
 unfold upd
 split
 . rename_i z;rw[z,h]
 . rfl
section
variable {prog:Program} {w:World} {A:Around} {E:Value->Shared->Prop} {s:Shared} {K:W.Frag} {name:Str}
theorem qP {T:String} {v:Value} {pl:Sem Bool} {Q:Value×List Value->Shared->Prop} (X:K.In s.heap) (ht:typeOf (.type T)=pure (.type "type")) (hs:Manifest.isStub T=false)
 (e:W.findCls K (.type T) (.type "type") name=some (.val v)) (hh:W.handedIn v=true) (h:Q (v,[]) { s with toks:=s.toks+1 }):wpAny (model prog w) A (getMethod (.type T) name pl) Q E s:=by
 have hstub:opaqueClassAbove (.type T)=pure none:=by unfold opaqueClassAbove;dsimp only;rw[hs];rfl
 have L0:PySem.W.Looks (model prog w) s.heap (typeOf (.type T)) (.type "type"):=PySem.W.Looks.of_pure ht;have hg:W.findIn K (.type "type") "__getattribute__"=some (some (.builtin "type.__getattribute__")):=W.type_tga;unfold getMethod specialOf;refine zA0 (zA0 (L0.here ((W.looks_findIn X hg).here ?_)))
 dsimp only
 rw [zF0 W.canon_tga];refine zA0 (wpAny_mono (Q:=fun v=>Q (v,[])) (E:=E) ?_ (fun _ _ z=>zH0 z) fun _ _ z=>z);have LO:PySem.W.Looks (model prog w) s.heap (opaqueClassAbove (.type T)) none:=PySem.W.Looks.of_pure hstub;refine W.cls_open X LO L0 hg (W.looks_hook X (r:=none) (by rfl)) (by show W.subIn K _ _=_;rfl) e
  (zH0 (by show wpAny _ _ (PySem.handedOut v) _ _ _;rw[W.handedOut_of hh];exact zH0 h))
end
section
variable {X:Cx} {p pos apos:Pos} {e1 e2:Expr} {t:TA}
theorem tj:bootBuiltins ("ValueError":Str)=some (.type "ValueError"):=by decide
theorem ux {pl:Sem Bool} (hg:Gl X "ValueError") (hm:X.mg "ValueError"=none) (ha:PA X [e1,e2] t)
 (hst:starEach [e1,e2] X.env=(false,eval e1 X.env)::starEach [e2] X.env:=by rfl) (hpl:(backTo pos (starEach [e2] X.env)).any (·.1)=false:=by rfl)
 (ht:eval (.Call (.Attribute (.Name "ValueError" p) "__init__" apos) [e1,e2] [] pos) X.env=(do
  let ov ←eval (.Name "ValueError" p) X.env
  standAt apos.atName
  let(f,first) ←holding [ov] (getMethod ov "__init__" pl)
  callWith pos f first (backTo pos (starEach [e1,e2] X.env)) (backToKw pos (keywordEach [] X.env))):=by rfl) :
 PE X (.Call (.Attribute (.Name "ValueError" p) "__init__" apos) [e1,e2] [] pos) (fun σ H Q=>t σ H fun vs H1=>∃e C f x,vs=[.ref e,x]/\H1 e=some (lc C e)/\MkX X.K C f/\Q .non H1):=by
 intro pins s σ H Q I h;refine PySem.W.methodCall_KW (pl:=pl) ?_ ht;have hP:PE X (.Name "ValueError" p) (tC (V.ty "ValueError")):=mi hg hm tj rfl;refine thn (hP pins s σ H (fun v H'=>v=.ty "ValueError"/\H'=H) I ⟨rfl,rfl⟩) fun u s1 ⟨v,H1,I1,r1,ev,eH⟩=>?_
 subst ev eH;cases r1;refine qP I1.kIn yO (by decide) yR rfl ?_;have I2:=I1.tok (s1.toks+1);have hA:=ha pos pins _ σ H1 _ I2 h;rw[hst]at hA ⊢;refine Calls.callWith_builtin (by show(false||(backTo pos (starEach [e2] X.env)).any (·.1))=false;rw[hpl] <;> rfl) (Calls.evalArgs_plain ?_);refine thn hA fun us s2 ⟨vs,H2,I3,r2,e,C,f,x,ev,he,M,q⟩=>?_
 subst ev;cases r2 with
 | cons r rr=>
   cases rr with
   | @cons _ u2 _ _ r' rr=>
     cases rr;cases r;obtain⟨nm,qn,N,bs,bm,hdct,sn,sub,ab,col,dd,k0,k1,k2,k3,k5,lk,c1,c2,c3⟩:=M.obj;obtain⟨o,ho,a,rfl⟩:=ObP.get I3.hok he;obtain⟨hh,g,d,tk,os⟩:=s2;show wpAny _ _ (call (.builtin "ValueError.__init__") (.ref e::[u2])) _ _ _;refine yA PySem.F.excBase_ValueError c1 (I3.kIn _ _ lk) ho (by show 1<=sizeLine;decide) ?_;have I4:Inv X pins σ H2 { heap:=hh.push { cls:=.type "tuple",data:=.seq [u2].toArray },gens:=g,drawn:=d,toks:=tk,os:=os }:=I3.kept (t':=tk) fun b o e=>zL0 _ e
     have ho4:=zL0 { cls:=.type "tuple",data:=.seq [u2].toArray } ho;have hu:=Heap.get?_update_self (Obj.mapFields (·.setIfInBounds 0 (Value.ref hh.objs.size))) ho4 rfl;have I5:Inv X pins σ (upd H2 e (lc C e)) { heap:=(hh.push { cls:=.type "tuple",data:=.seq [u2].toArray }).update e (Obj.mapFields (·.setIfInBounds 0 (Value.ref hh.objs.size))),gens:=g,drawn:=d,toks:=tk,os:=os }:=
      I4.write (x:=e) (e:=e) (t':=tk) (by rw[he];exact trivial) (.inl rfl) (fun b u hb hu=>(Heap.get?_update_other _ _ (Ne.symm hb)).trans hu) ⟨_,hu⟩ (ObP.ok hu ⟨hh.objs.size,rfl⟩)
     rw[yT he]at I5;exact⟨.non,H2,I5,rfl,q⟩
end
end L2
namespace L2
open PySem Builtin Builtin.ObjectAttr
section
variable {prog:Program} {w:World} {A:Around} {E:Value->Shared->Prop} {h:Heap} {g:Array GenState} {d:Drawn} {t:Nat} {os:OsState}
variable {nm q:Str} {C N x:Addr} {bs bm:List Value} {sn:List Str} {sub:List Value} {ab:Bool} {col:Option Bool} {dd:Option Addr} {k0 k1 k2 k3 k5:Option Value} {newId:String} {name:Str} {v:Value} {vs:Array Value}
theorem yL{M:Model}{B sa owner:String}{bmB:List Value}{o:Obj}{nameV:Value}{Q:Unit->Shared->Prop}(SF:StoreFacts B bmB sa owner)(hcB:(Value.ref C::bm).contains (.type owner)=true)
 (hC:h.get? C=some (excClassObj nm q C N bs bm true sn sub ab col dd k0 k1 k2 k3 k5 newId)) (hx:h.get? x=some o) (hc:o.cls=.ref C) (hq:Q () ⟨h,g,d,t,os⟩) :
 wpAny M A (checkBuiltinCall sa ⟨[.ref x,nameV,v],[]⟩) Q E ⟨h,g,d,t,os⟩:=by
 have ha:=SF.args (.ref x) nameV v;simp only[checkBuiltinCall,SF.kind,SF.split];refine zA0 ?_
 . unfold isInstance
   repeat (first | (with_reducible refine wpAny_loadPart_at hx ?_;rw[hc]) | (with_reducible refine wpAny_isSubtype_exc hC ?_;rw[hcB]) | wp_step)
   cases hsig:Manifest.signature? sa with
   | none=>exact zH0 hq
   | some sig=>
     simp only[argsOk,hsig]at ha;have h2:Bind.checkArgs sa sig ⟨[.ref x,nameV,v],[]⟩=pure ():=ha;show wpAny M A (Bind.checkArgs sa sig ⟨[.ref x,nameV,v],[]⟩) Q E _;rw[h2];exact zH0 hq
theorem qc {tk:Tok} {Q:Fin->Shared->Prop} (hpass:refuseLoop (.ref x) "__setattr__" (.ref C::bm)=pure ())
 (hC:h.get? C=some (excClassObj nm q C N bs bm true sn sub ab col dd k0 k1 k2 k3 k5 newId)) (hL:PySem.W.Looks (model prog w) h (typeLookup (.ref C) name) none) {o:Obj} (hx:h.get? x=some o) (hc:o.cls=.ref C) (hdn:o.dict=none) (hnc:∀c,o.data≠.cls c)
 (hq:∀h' tk',h'.get? x=some { cls:=o.cls,dict:=some h.objs.size,data:=o.data,slots:=o.slots }->h'.Ns1 h.objs.size (fun y=>if y=name then some v else none)->(∀b o,b≠x->h.get? b=some o->h'.get? b=some o)->Q (.done (.ret .none)) ⟨h',g,d,tk',os⟩) :
 wpAny (model prog w) A (Builtin.«object.__setattr__» ⟨[.ref x,.str name tk,v],[]⟩) Q E ⟨h,g,d,t,os⟩:=by
 have hL':∀{A':Around}{E':Value->Shared->Prop}{Q':Option Value->Shared->Prop}{t':Nat},Q' none ⟨h,g,d,t',os⟩->wpAny (model prog w) A' (typeLookup (.ref C) name) Q' E' ⟨h,g,d,t',os⟩:=fun q'=>hL _ _ _ _ (fun _ _ e=>e) q'
 unfold Builtin.«object.__setattr__»
 repeat (first | rw[refuse_eq] | (rw[hpass]) | (with_reducible refine wpAny_loadPart_at hx ?_;rw[hc]) | with_reducible refine wpAny_mroOf_exc hC ?_ | (with_reducible refine hL' ?_) | wp_step)
 rw[hdn,zD0 (by simp [typeHasDict])]
 split
 . rename_i hcd;cases hcd
 split
 . rename_i c hcd;exact absurd hcd (hnc c)
 . have hx₁:(h.push { cls:=.type "dict",data:=.dict #[] }).get? x=some o:=zL0 _ hx;have hxs:x≠h.objs.size:=zS0 (zM0 hx);refine zA0 (wpAny_alloc' ?_);refine zA0 (wpAny_update' hx₁ ?_);refine zH0 ?_;have hgd:((h.push { cls:=.type "dict",data:=.dict #[] }).update x fun o=>{ cls:=o.cls,dict:=some h.objs.size,data:=o.data,slots:=o.slots }).get? h.objs.size
    = some { cls:=.type "dict",data:=.dict #[] }:=
    (Heap.get?_update_ne _ _ _ _ hxs.symm).trans (Heap.get?_push_at rfl rfl)
   have hnd:((h.push { cls:=.type "dict",data:=.dict #[] }).update x fun o=>{ cls:=o.cls,dict:=some h.objs.size,data:=o.data,slots:=o.slots }).Ns h.objs.size (fun _=>none):=
    ⟨_,#[],_,hgd,rfl,fun e he=>absurd he (by simp),fun _=>rfl⟩
   show wpAny _ _ (storeInDict h.objs.size (.str name tk) name v) _ _ _;unfold storeInDict newKeyGuard;refine zA0 (zH0 (zA0 (wpAny_nsSet1 (Heap.Ns1.of_empty hnd) fun h' hn' hs=>?_)));obtain⟨oD,esD,epD,hoD,hdD,hcD⟩:=hn'.count (Within.cons name v Within.nil);refine zA0 (wpAny_lookBehind hoD (by rw[hdD];exact pastItsLine_dict (zX0 hcD (by rw[zV0,List.length_nil,sizeLine_eq];omega))) ?_)
   wp_walk
   refine hq h' _ ?_ hn' fun b ob hbx hb=>?_
   . refine(hs.2 x hxs).trans (Heap.get?_update_self _ hx₁ ?_);have hfr:=(Heap.get?_some_iff.mp hx).2;obtain⟨oc,od,odt,osl⟩:=o;cases odt <;> first | rfl | exact hfr
   . exact(hs.2 b (zS0 (zM0 hb))).trans ((Heap.get?_update_ne _ _ _ _ hbx).trans (zL0 _ hb))
theorem rC {B sa owner:String} {bmB:List Value} {Q:Unit->Shared->Prop} (SF:StoreFacts B bmB sa owner) (hcO:(Value.ref C::bm).contains (.type owner)=true) (hpass:refuseLoop (.ref x) "__setattr__" (.ref C::bm)=pure ())
 (hC:h.get? C=some (excClassObj nm q C N bs bm true sn sub ab col dd k0 k1 k2 k3 k5 newId)) (hS:PySem.W.Looks (model prog w) h (typeLookup (.ref C) "__setattr__") (some (.builtin sa)))
 (hL:PySem.W.Looks (model prog w) h (typeLookup (.ref C) name) none) {o:Obj} (hx:h.get? x=some o) (hc:o.cls=.ref C) (hdn:o.dict=none) (hnc:∀c,o.data≠.cls c)
 (hq:∀h' tk',h'.get? x=some { cls:=o.cls,dict:=some h.objs.size,data:=o.data,slots:=o.slots }->h'.Ns1 h.objs.size (fun y=>if y=name then some v else none)->(∀b o,b≠x->h.get? b=some o->h'.get? b=some o)->Q () ⟨h',g,d,tk',os⟩) :
 wpAny (model prog w) A (setAttr (.ref x) name v) Q E ⟨h,g,d,t,os⟩:=by
 have f3:=SF.slot.bind (.ref x);have hS':∀{A':Around} {E':Value->Shared->Prop} {Q':Option Value->Shared->Prop} {t':Nat},Q' (some (.builtin sa)) ⟨h,g,d,t',os⟩->wpAny (model prog w) A' (typeLookup (.ref C) "__setattr__") Q' E' ⟨h,g,d,t',os⟩:=fun q'=>hS _ _ _ _ (fun _ _ e=>e) q'
 unfold setAttr callSpecial? specialOf
 repeat (any_goals (first | assumption | (with_reducible refine wpAny_loadPart_at hx ?_;rw[hc]) | (with_reducible refine hS' ?_) | wp_step))
 refine codeAny_call_builtin SF.slot.plain SF.entry (yL SF hcO hC hx hc (qc hpass hC hL hx hc hdn hnc fun h' tk' i1 i2 i3=>?_))
 repeat (any_goals (first | assumption | wp_step))
 exact hq h' tk' i1 i2 i3
end
section
variable {prog:Program} {w:World} {A:Around} {E:Value->Shared->Prop} {h:Heap} {g:Array GenState} {d:Drawn} {t:Nat} {os:OsState} {a dx:Addr} {o:Obj} {v:Value}
 {nm q:Str} {C N:Addr} {bs bm:List Value} {sn:List Str} {sub:List Value} {ab:Bool} {col:Option Bool} {dd:Option Addr} {k0 k1 k2 k3 k5:Option Value} {newId:String} {mA:Str->Option Value} {name:Str}
theorem pQ {M:Model} {nameV:Value} {Q:Unit->Shared->Prop} (hC:h.get? C=some (excClassObj nm q C N bs bm true sn sub ab col dd k0 k1 k2 k3 k5 newId)) (hcB:(Value.ref C::bm).contains (.type "BaseException")=true)
 (hx:h.get? a=some o) (hc:o.cls=.ref C) (hq:Q () ⟨h,g,d,t,os⟩):wpAny M A (checkBuiltinCall "BaseException.__getattribute__" ⟨[.ref a,nameV],[]⟩) Q E ⟨h,g,d,t,os⟩:=by
 have hk:builtinKind "BaseException.__getattribute__"=some .slot:=by decide
 have hsplit:splitId "BaseException.__getattribute__"=some ("BaseException","__getattribute__"):=by decide
 have ha:=F.args_bexc_ga (.ref a) nameV;simp only[checkBuiltinCall,hk,hsplit];refine zA0 ?_
 . unfold isInstance
   repeat (first | (with_reducible refine wpAny_loadPart_at hx ?_;rw[hc]) | (with_reducible refine wpAny_isSubtype_exc hC ?_;rw[hcB]) | wp_step)
   exact hq
theorem sB{tk:Tok}{Q:Fin->Shared->Prop}(hC:h.get? C=some (excClassObj nm q C N bs bm true sn sub ab col dd k0 k1 k2 k3 k5 newId))(hL:PySem.W.Looks (model prog w) h (typeLookup (.ref C) name) none)
 (hx:h.get? a=some o) (hc:o.cls=.ref C) (hdx:o.dict=some dx) (hnc:∀c,o.data≠.cls c) (hns:h.Ns dx mA) (hv:mA name=some v) (hq:Q (.done (.ret v)) ⟨h,g,d,t,os⟩) :
 wpAny (model prog w) A (Builtin.«object.__getattribute__» ⟨[.ref a,.str name tk],[]⟩) Q E ⟨h,g,d,t,os⟩:=by
 have hL':∀{A':Around}{E':Value->Shared->Prop}{Q':Option Value->Shared->Prop}{t':Nat},Q' none ⟨h,g,d,t',os⟩->wpAny (model prog w) A' (typeLookup (.ref C) name) Q' E' ⟨h,g,d,t',os⟩:=fun q'=>hL _ _ _ _ (fun _ _ e=>e) q'
 unfold Builtin.«object.__getattribute__»
 repeat (first | (with_reducible refine wpAny_loadPart_at hx ?_;rw[hc]) | (with_reducible refine hL' ?_) | wp_step)
 split
 . rename_i c hcd;exact absurd hcd (hnc c)
 . repeat (first | (with_reducible refine wpAny_loadPart_at hx ?_;rw[hc]) | wp_step)
   rw[hdx]
   repeat (first | (with_reducible refine wpAny_nsGet hns ?_;rw[hv]) | wp_step)
   exact hq
end
section
variable {prog:Program} {w:World} {A:Around} {E:Value->Shared->Prop} {h:Heap} {g:Array GenState} {d:Drawn} {t:Nat} {os:OsState} {a dx:Addr} {o:Obj} {v:Value}
 {nm q:Str} {C N:Addr} {bs bm:List Value} {sn:List Str} {sub:List Value} {ab:Bool} {col:Option Bool} {dd:Option Addr} {k0 k1 k2 k3 k5:Option Value} {newId:String} {mA:Str->Option Value} {name:Str}
theorem Al {tk:Tok} {fill expr:Bool} {Q:Value->Shared->Prop} (hC:h.get? C=some (excClassObj nm q C N bs bm true sn sub ab col dd k0 k1 k2 k3 k5 newId)) (hcB:(Value.ref C::bm).contains (.type "BaseException")=true)
 (hG:PySem.W.Looks (model prog w) h (typeLookup (.ref C) "__getattribute__") (some (.builtin "BaseException.__getattribute__"))) (hA:PySem.W.Looks (model prog w) h (typeLookup (.ref C) "__getattr__") none) (hL:PySem.W.Looks (model prog w) h (typeLookup (.ref C) name) none)
 (hx:h.get? a=some o) (hc:o.cls=.ref C) (hdx:o.dict=some dx) (hnc:∀c,o.data≠.cls c) (hns:h.Ns dx mA) (hv:mA name=some v) (hh:W.handedIn v=true) (hq:Q v ⟨h,g,d,t,os⟩) :
 wpAny (model prog w) A (getAttrBy (.ref a) (.str name tk) fill expr) Q E ⟨h,g,d,t,os⟩:=by
 have FB:=F.attrBase_ValueError;have f3:=FB.ga.bind (.ref a);have hx0:(expr&&onTheHeap (Value.builtin "BaseException.__getattribute__"))=false:=by cases expr <;> rfl
 have hx2:(Value.builtin "BaseException.__getattribute__"==Value.builtin "object.__getattribute__")=false:=by decide
 have hx1:(onTheHeap (Value.ref C)&&Value.builtin "BaseException.__getattribute__"==Value.builtin "object.__getattribute__")=false:=by rw[hx2];rfl
 have hG':∀{A':Around} {E':Value->Shared->Prop} {Q':Option Value->Shared->Prop} {t':Nat},Q' (some (.builtin "BaseException.__getattribute__")) ⟨h,g,d,t',os⟩->wpAny (model prog w) A' (typeLookup (.ref C) "__getattribute__") Q' E' ⟨h,g,d,t',os⟩:=fun q'=>hG _ _ _ _ (fun _ _ e=>e) q'
 have hA':∀{A':Around} {E':Value->Shared->Prop} {Q':Option Value->Shared->Prop} {t':Nat},Q' none ⟨h,g,d,t',os⟩->wpAny (model prog w) A' (typeLookup (.ref C) "__getattr__") Q' E' ⟨h,g,d,t',os⟩:=fun q'=>hA _ _ _ _ (fun _ _ e=>e) q'
 repeat (any_goals (first | assumption | (with_reducible refine wpAny_loadPart_at hx ?_;rw[hc]) | with_reducible refine hG' ?_ | with_reducible refine hA' ?_ | wp_step))
 refine codeAny_call_builtin FB.ga.plain F.entry_bexc_ga (pQ hC hcB hx hc (sB hC hL hx hc hdx hnc hns hv ?_));show wpAny _ _ (handedOut v) _ _ _;rw[W.handedOut_of hh];exact zH0 hq
end
section
variable {prog:Program} {w:World} {A:Around} {E:Value->Shared->Prop} {h:Heap} {g:Array GenState} {d:Drawn} {t:Nat} {os:OsState} {a:Addr} {o:Obj}
 {nm q:Str} {C N:Addr} {bs bm:List Value} {sn:List Str} {sub:List Value} {ab:Bool} {col:Option Bool} {dd:Option Addr} {k0 k1 k2 k3 k5:Option Value} {newId:String}
theorem vk {R:Result->Shared->Prop} (hC:h.get? C=some (excClassObj nm q C N bs bm true sn sub ab col dd k0 k1 k2 k3 k5 newId)) (hcO:(Value.ref C::bm).contains (.type "object")=true)
 (hx:h.get? a=some o) (hc:o.cls=.ref C) (hq:R (.ok (.ret (.ref C))) ⟨h,g,d,t,os⟩) :
 codeAny (model prog w) A (.call (.builtin "getset_descriptor.__get__") ⟨[.builtin "object.__class__",.ref a,.ref C],[]⟩) R ⟨h,g,d,t,os⟩:=by
 have hT5:(⟨h,g,d,t,os⟩:Shared).TypeIs (.builtin "object.__class__") "getset_descriptor":=F.typeOf_object_class;have hcB:(Value.ref C::bm).contains (.type (".".intercalate ("object.__class__".cutAt '.').dropLast))=true:=by rw[F.owner_object_class];exact hcO
 refine codeAny_call_builtin F.slot_gs_get.plain F.entry_gs_get (F.slot_gs_get.check _ _ _ _ _ _ _ _ hT5 (F.args_gs_get _ _ _) ?_)
 repeat (any_goals (first | assumption | (with_reducible refine wpAny_loadPart_at hx ?_;rw[hc]) | (with_reducible refine wpAny_isSubtype_exc hC ?_;rw[hcB]) | wp_step))
 refine⟨Code.quiet_builtin _ (by decide),codeAny_builtin F.entry_object_class ?_⟩
 repeat (any_goals (first | assumption | (with_reducible refine wpAny_loadPart_at hx ?_;rw[hc]) | wp_step))
theorem re {tk:Tok} {Q:Fin->Shared->Prop} (hC:h.get? C=some (excClassObj nm q C N bs bm true sn sub ab col dd k0 k1 k2 k3 k5 newId)) (hcO:(Value.ref C::bm).contains (.type "object")=true)
 (hK:PySem.W.Looks (model prog w) h (typeLookup (.ref C) "__class__") (some (.builtin "object.__class__"))) (hx:h.get? a=some o) (hc:o.cls=.ref C) (hq:Q (.done (.ret (.ref C))) ⟨h,g,d,t,os⟩) :
 wpAny (model prog w) A (Builtin.«object.__getattribute__» ⟨[.ref a,.str "__class__" tk],[]⟩) Q E ⟨h,g,d,t,os⟩:=by
 have hT5:(⟨h,g,d,t,os⟩:Shared).TypeIs (.builtin "object.__class__") "getset_descriptor":=F.typeOf_object_class;have f5:=F.typeOf_object_class;have f6:=F.slot_gs_get.lookup;have f7:=F.slot_gs_set.lookup;have hK':∀{A':Around} {E':Value->Shared->Prop} {Q':Option Value->Shared->Prop} {t':Nat},Q' (some (.builtin "object.__class__")) ⟨h,g,d,t',os⟩->wpAny (model prog w) A' (typeLookup (.ref C) "__class__") Q' E' ⟨h,g,d,t',os⟩:=fun q'=>hK _ _ _ _ (fun _ _ e=>e) q'
 repeat (any_goals (first | assumption | (with_reducible refine wpAny_loadPart_at hx ?_;rw[hc]) | with_reducible refine hK' ?_ | wp_step))
 refine vk hC hcO hx hc ?_
 repeat (any_goals (first | assumption | wp_step))
theorem yK {tk:Tok} {Q:Value->Shared->Prop} (hC:h.get? C=some (excClassObj nm q C N bs bm true sn sub ab col dd k0 k1 k2 k3 k5 newId)) (hcB:(Value.ref C::bm).contains (.type "BaseException")=true) (hcO:(Value.ref C::bm).contains (.type "object")=true)
 (hG:PySem.W.Looks (model prog w) h (typeLookup (.ref C) "__getattribute__") (some (.builtin "BaseException.__getattribute__"))) (hA:PySem.W.Looks (model prog w) h (typeLookup (.ref C) "__getattr__") none)
 (hK:PySem.W.Looks (model prog w) h (typeLookup (.ref C) "__class__") (some (.builtin "object.__class__"))) (hx:h.get? a=some o) (hc:o.cls=.ref C) (hq:Q (.ref C) ⟨h,g,d,t,os⟩) :
 wpAny (model prog w) A (getAttrBy (.ref a) (.str "__class__" tk) false) Q E ⟨h,g,d,t,os⟩:=by
 have FB:=F.attrBase_ValueError;have f3:=FB.ga.bind (.ref a);have hx2:(Value.builtin "BaseException.__getattribute__"==Value.builtin "object.__getattribute__")=false:=by decide
 have hx1:(onTheHeap (Value.ref C)&&Value.builtin "BaseException.__getattribute__"==Value.builtin "object.__getattribute__")=false:=by rw[hx2];rfl
 have hG':∀{A':Around} {E':Value->Shared->Prop} {Q':Option Value->Shared->Prop} {t':Nat},Q' (some (.builtin "BaseException.__getattribute__")) ⟨h,g,d,t',os⟩->wpAny (model prog w) A' (typeLookup (.ref C) "__getattribute__") Q' E' ⟨h,g,d,t',os⟩:=fun q'=>hG _ _ _ _ (fun _ _ e=>e) q'
 have hA':∀{A':Around} {E':Value->Shared->Prop} {Q':Option Value->Shared->Prop} {t':Nat},Q' none ⟨h,g,d,t',os⟩->wpAny (model prog w) A' (typeLookup (.ref C) "__getattr__") Q' E' ⟨h,g,d,t',os⟩:=fun q'=>hA _ _ _ _ (fun _ _ e=>e) q'
 repeat (any_goals (first | assumption | (with_reducible refine wpAny_loadPart_at hx ?_;rw[hc]) | with_reducible refine hG' ?_ | with_reducible refine hA' ?_ | wp_step))
 refine codeAny_call_builtin FB.ga.plain F.entry_bexc_ga (pQ hC hcB hx hc (re hC hcO hK hx hc ?_))
 repeat (any_goals (first | assumption | wp_step))
theorem sV {Q:Option Value->Shared->Prop} (hC:h.get? C=some (excClassObj nm q C N bs bm true sn sub ab col dd k0 k1 k2 k3 k5 newId)) (hcB:(Value.ref C::bm).contains (.type "BaseException")=true) (hcO:(Value.ref C::bm).contains (.type "object")=true)
 (hG:PySem.W.Looks (model prog w) h (typeLookup (.ref C) "__getattribute__") (some (.builtin "BaseException.__getattribute__"))) (hA:PySem.W.Looks (model prog w) h (typeLookup (.ref C) "__getattr__") none)
 (hK:PySem.W.Looks (model prog w) h (typeLookup (.ref C) "__class__") (some (.builtin "object.__class__"))) (hx:h.get? a=some o) (hc:o.cls=.ref C) (hq:Q (some (.ref C)) ⟨h,g,d,t+1,os⟩) :
 wpAny (model prog w) A (getAttr? (.ref a) "__class__") Q E ⟨h,g,d,t,os⟩:=by
 unfold getAttr? getAttrBy?
 repeat (any_goals (first | assumption | with_reducible apply yK hC hcB hcO hG hA hK hx hc | wp_step))
end
end L2
namespace L2
open PySem PySem.Spec PyProof.Rows
abbrev bmV:List Value:=[.type "ValueError",.type "Exception",.type "BaseException",.type "object"]
structure ClsX(K:W.Frag)(C CA:Addr):Prop where
 obj:∃(nm q:Str) (N:Addr) (bs:List Value) (sn:List Str) (sub:List Value) (ab:Bool) (col:Option Bool) (dd:Option Addr) (k0 k1 k2 k3 k5:Option Value),K.lookup C=some (excClassObj nm q C N bs (.ref CA::bmV) true sn sub ab col dd k0 k1 k2 k3 k5 "ValueError.__new__")
 set:W.findIn K (.ref C) "__setattr__"=some (some (.builtin "object.__setattr__"))
 ga:W.findIn K (.ref C) "__getattribute__"=some (some (.builtin "BaseException.__getattribute__"))
 gt:W.findIn K (.ref C) "__getattr__"=some none
 cl:W.findIn K (.ref C) "__class__"=some (some (.builtin "object.__class__"))
section
variable {C CA:Addr}
theorem Ee:(Value.ref C::.ref CA::bmV).contains (.type "ValueError")=true:=by simp [bmV]
theorem rj:(Value.ref C::.ref CA::bmV).contains (.type "BaseException")=true:=by simp [bmV]
theorem AV:(Value.ref C::.ref CA::bmV).contains (.type "object")=true:=by simp [bmV]
theorem Cm:(Value.ref C::.ref CA::bmV).contains (.type "AttributeError")=false:=by
 rw[List.contains_cons,List.contains_cons];rfl
theorem Cl:(Value.ref C::.ref CA::bmV).contains (.type "NameError")=false:=by
 rw[List.contains_cons,List.contains_cons];rfl
theorem Dx (self:Value):refuseLoop self "__setattr__" (.ref C::.ref CA::bmV)=pure ():=by
 rw[refuseLoop_ref,refuseLoop_ref];exact PySem.F.store_ValueError.passes self
theorem ClsX.mk' {K:W.Frag} {f:Addr} (c:ClsX K C CA) (init:W.findIn K (.ref C) "__init__"=some (some (.ref f))) (fn:∃o,K.lookup f=some o/\o.cls=.type "function") (kp:W.keepIn K (.ref C)=true):MkX K C f:=by
 obtain⟨nm,q,N,bs,sn,sub,ab,col,dd,k0,k1,k2,k3,k5,lk⟩:=c.obj;exact⟨⟨nm,q,N,bs,_,_,sn,sub,ab,col,dd,k0,k1,k2,k3,k5,lk,Ee,Cm,Cl⟩,init,fn,kp⟩
end
def XAt(H:Hp)(e C dx:Addr):Prop:=H e=some (oF C e dx)∨H e=some (oE C e dx)
theorem XAt.get{P:Program}{w:World}{H:Hp}{h:Heap}{e C dx:Addr}(x:HOk P w H h)(he:XAt H e C dx):∃vs,h.get? e=some (dM C (some dx) vs):=by
 rcases he with he | he
 . obtain⟨o,ho,a,rfl⟩:=ObP.get x he;exact⟨_,ho⟩
 . obtain⟨o,ho,vs,rfl,_⟩:=ObP.get x he;exact⟨_,ho⟩
section
variable {X:Cx} {pins:List (Addr×Obj)} {σ:St} {H:Hp} {s:Shared} {h':Heap} {e dx:Addr} {φ:Heap->Prop} {o1 o2:HO}
theorem Inv.ext2{t':Nat}(I:Inv X pins σ H s)(he:H e=some (.ext φ))(hp:s.heap.objs.size<=dx)(k:∀b u,b≠e->s.heap.get? b=some u->h'.get? b=some u)(heo:∃u,h'.get? e=some u)
 (n1:ObjOk X.prog X.w (upd (upd H dx o1) e o2) h' dx o1) (n2:ObjOk X.prog X.w (upd (upd H dx o1) e o2) h' e o2):Inv X pins σ (upd (upd H dx o1) e o2) { s with heap:=h',toks:=t' }:=by
 have hdn:H dx=none:=I.hok.fresh hp;have ne:∀b u,H b=some u->(∀ ψ,u≠.ext ψ)->b≠e/\b≠dx:=fun b u hb hu=>⟨fun z=>by rw[z,he]at hb;cases hb;exact hu _ rfl,ai hb hdn⟩
 have old:∀b,b≠e->b≠dx->upd (upd H dx o1) e o2 b=H b:=fun b h1 h2=>by rw[aq h1,aq h2]
 have fr:∀b u,s.heap.get? b=some u->b≠dx:=fun b u q=>zS0 (qH0 (zM0 q) hp)
 have nn:∀b,H b=none->b≠e:=fun b n z=>by rw[z,he]at n;cases n
 refine I.un ⟨fun b u q n _ _=>k b u (nn b n) q,fun b u q n _ _=>⟨u.slots,k b u (nn b n) q⟩,fun b u q n _=>?_,fun b u q _=>?_,fun b xs q=>?_,fun b u xs q=>?_,fun b ps q=>⟨#[],?_⟩⟩ fun b u q=>?_
 . rw[old b (nn b n) (fr b u q)];exact n
 . by_cases hb:b=e
   . rw[hb];exact heo
   . exact⟨u,k b u hb q⟩
 . obtain⟨h1,h2⟩:=ne b _ q (fun ψ z=>by cases z);rw[old b h1 h2];exact q
 . obtain⟨h1,h2⟩:=ne b _ q (fun ψ z=>by cases z);rw[old b h1 h2];exact q
 . obtain ⟨h1,h2⟩:=ne b _ q (fun ψ z=>by cases z);rw[old b h1 h2,q]
   simp
 . by_cases hb:b=e
   . subst hb;rw[ah]at q;cases q;exact n2
   . by_cases hb2:b=dx
     . subst hb2;rw[aq hb,ah]at q;cases q;exact n1
     . rw [old b hb hb2]at q;refine(I.hok b u q).stay (fun c v hc r=>k c v ?_ r) (fun c r=>?_) fun c xs r=>?_
       . rcases hc with rfl | hc
         . exact hb
         . exact(ne c _ hc (fun ψ z=>by cases z)).1
       . obtain⟨h1,h2⟩:=ne c _ r (fun ψ z=>by cases z);rw[old c h1 h2];exact r
       . obtain⟨h1,h2⟩:=ne c _ r (fun ψ z=>by cases z);rw[old c h1 h2];exact r
end
section
variable {X:Cx} {o e value:Expr} {f:Str} {pos pos' tpos:Pos} {ta tv:TE}
theorem qz(ha:PE X o ta)(hv:PE X value tv)(hs:swapsWith value (some (.Attribute o f pos')) pos.line X.env=pure false) :
 PS X (.Assign [.Attribute o f pos'] value pos) (fun D σ H=>tv σ H fun y H1=>ta σ H1 fun x H2=>∃e C CA,x=.ref e/\H2 e=some (lc C e)/\ClsX X.K C CA/\NoAttr X.K C f/\∀dx,H2 dx=none->dx≠e->D.nx σ (upd (upd H2 dx (.xd [(f,y)])) e (oF C e dx))):=by
 intro pins s σ H D I h;refine plainObj_wpAny_Assign_Attribute (thn (hv pins s σ H _ I h) fun u s1 ⟨y,H1,I1,ry,q⟩=>thn (ha pins s1 σ H1 _ I1 q) fun ov s2 ⟨x,H2,I2,rx,e,C,CA,ex,he,c,n,q2⟩=>?_) hs;subst ex;obtain rfl:ov=Value.ref e:=rx;obtain⟨nm,qn,N,bs,sn,sub,ab,col,dd,k0,k1,k2,k3,k5,lk⟩:=c.obj;obtain⟨ob,ho,a,rfl⟩:=ObP.get I2.hok he;obtain⟨hh,g,d,tk,os⟩:=s2;refine rC PySem.F.store_ValueError AV (Dx _) (I2.kIn _ _ lk) (W.looks_findIn I2.kIn c.set) (W.looks_findIn I2.kIn n) ho rfl rfl (fun _ z=>by cases z) fun h' tk' i1 i2 i3=>?_
 have hd:H2 hh.objs.size=none:=I2.hok.fresh (zI0 _);have hde:hh.objs.size≠e:=fun z=>by rw[z,he]at hd;cases hd
 refine⟨σ,_,I2.ext2 (t':=tk') (dx:=hh.objs.size) (e:=e) (o1:=.xd [(f,y)]) (o2:=oF C e hh.objs.size) he (zI0 _) (fun b u hb q=>i3 b u hb q) ⟨_,i1⟩ ⟨_,i2,fun z=>?_⟩ (ObP.ok i1 ⟨a,rfl⟩),q2 _ hd hde⟩
 by_cases hz:z=f
 . subst hz;rw[zF0 rfl,show([(z,y)]:List (Str×V)).lookup z=some y by simp [List.lookup]];exact ry
 . rw [zD0 hz]
   have:([(f,y)]:List (Str×V)).lookup z=none:=by
    have hb:(z==f)=false:=beq_eq_false_iff_ne.mpr hz;simp only[List.lookup,hb]
   rw[this];trivial
theorem BI(he:PE X e ta)(hb:attributeBase e f X.env (eval e X.env)=eval e X.env):PE X (.Attribute e f pos) (fun σ H Q=>ta σ H fun x H1=>∃a C CA dx fs v,x=.ref a/\XAt H1 a C dx/\H1 dx=some (.xd fs)/\fs.lookup f=some v/\ClsX X.K C CA/\NoAttr X.K C f/\Q v H1):=by
 intro pins s σ H Q I h;refine wS hb (thn (he pins s σ H _ I h) fun u s1 ⟨x,H1,I1,rx,a,C,CA,dx,fs,v,ex,ea,ed,l,c,n,q⟩=>?_);subst ex;obtain rfl:u=Value.ref a:=rx;obtain⟨nm,qn,N,bs,sn,sub,ab,col,dd,k0,k1,k2,k3,k5,lk⟩:=c.obj;obtain⟨vs,ho⟩:=XAt.get I1.hok ea;obtain⟨mA,hn,r⟩:=I1.hok dx _ ed;obtain⟨u,hu,ru⟩:=RelO.some_of (v:=v) (o:=mA f) (by rw[←l];exact r f);obtain⟨hh,g,d,tk,os⟩:=s1;unfold getAttr;refine zA0 (wpAny_mkText ?_);exact Al (I1.kIn _ _ lk) rj (W.looks_findIn I1.kIn c.ga) (W.looks_findIn I1.kIn c.gt) (W.looks_findIn I1.kIn n) ho rfl rfl (fun _ z=>by cases z) hn.ns hu (pK ru) ⟨v,H1,I1.tok _,ru,q⟩
end
theorem Ap{K:W.Frag}{e C CA dx:Addr}(c:ClsX K C CA):PySem.W.KitX K (.ref e) (.ref C) (fun h=>∃vs,h.get? e=some (dM C (some dx) vs)) where
 ty:=fun M h _ ⟨vs,hx⟩=>(PySem.W.Looks.ld hx).andThen .now
 it:=fun M h X _=>by
  obtain⟨nm,q,N,bs,sn,sub,ab,col,dd,k0,k1,k2,k3,k5,lk⟩:=c.obj;intro A' Q' E' s' k q;unfold isType loadHead;exact zA0 (wpAny_loadPart (k _ _ (X _ _ lk)) (zH0 q))
 ne:=fun h tp dd' its n sl X htp=>by
  obtain⟨nm,q,N,bs,sn,sub,ab,col,dd,k0,k1,k2,k3,k5,lk⟩:=c.obj;refine Bool.eq_false_iff.mpr fun z=>?_
  have e:C=tp:=Value.ref.inj (beq_iff_eq.mp z);subst e;have z:=congrArg Obj.data (zO0 ((X _ _ lk).symm.trans htp));exact Data.noConfusion z
 ca:=fun{prog w A E Q s} X ⟨vs,hx⟩ k=>by
  obtain⟨nm,q,N,bs,sn,sub,ab,col,dd,k0,k1,k2,k3,k5,lk⟩:=c.obj;obtain⟨hh,g,d,tk,os⟩:=s;exact sV (X _ _ lk) rj AV (W.looks_findIn X c.ga) (W.looks_findIn X c.gt) (W.looks_findIn X c.cl) hx rfl k
section
variable {X:Cx}
def CB(K:W.Frag):List V->Hp->VK->Prop:=fun xs H Q=>∃e C CA dx c b,xs=[.ref e,c]/\XAt H e C dx/\ClsX K C CA/\
 ((∃D,c=.ref D/\W.kitOne K (.ref C) (.ref D)=some b)∨(∃T,c=.ty T/\W.kitOne K (.ref C) (.type T)=some b)∨∃(tp:Addr)(Ds:List Addr),c=.ref tp/\H tp=some (.tup (Ds.map V.ref))/\W.kitAny K (.ref C) (Ds.map Value.ref)=some b)/\Q (.bl b) H
theorem tJ{cs:List Addr}{us:List Value}(h:Vals (cs.map V.ref) us):us=cs.map Value.ref:=by
 induction cs generalizing us with
 | nil=>cases h;rfl
 | cons a r ih=>
   cases h with
   | cons r1 r2=>
     cases r1;rw[ih r2];rfl
theorem yM:fh X (.builtin "isinstance") (CB X.K):=by
 intro pins s σ H xs us Q I r h;obtain⟨e,C,CA,dx,c,b,rfl,ea,cl,hk,q⟩:=h;cases r with
 | cons r rr=>
   cases rr with
   | cons r' rr=>
     cases rr;cases r;have ho:=XAt.get I.hok ea;have fin:∀tk,EP X pins σ Q (.bool b) { s with toks:=tk }:=fun tk=>⟨.bl b,H,I.tok _,rfl,q⟩
     rcases hk with⟨D,rfl,hk⟩ | ⟨T,rfl,hk⟩ | ⟨tp,Ds,rfl,ht,hk⟩
     . cases r';exact W.kia_one (Ap cl) I.kIn ho hk (fun z=>nomatch z) fin
     . cases r';exact W.kia_one (Ap cl) I.kIn ho hk (fun z=>nomatch z) fin
     . cases r';obtain⟨_,its,rv,⟨⟨cls,dd,data,sl⟩,h1,h2,n,h3⟩,_⟩:=I.hok tp _ ht;simp only at h2 h3;subst h2 h3
       have:=tJ rv
       subst this;exact W.kia_tup (Ap cl) I.kIn ho h1 hk (fun z=>nomatch z) fin
end
section
variable {X:Cx}
def FmV (v:V) (y:Str):Prop:=(∃i:Int,v=.int i/\i.natAbs.log2<1920/\y=toString i)∨v=.str y∨(v=.non/\y="None")
theorem qC{e:Expr}{te:TE}{pos:Pos}(he:PE X e te):PE X (.FormattedValue e (-1) none pos) (fun σ H Q=>te σ H fun v H1=>∃y,FmV v y/\y.length<=sizeLine/\Q (.str y) H1):=by
 intro pins s σ H Q I h;refine FormattedValue_plain (thn (he pins s σ H _ I h) fun v s1 ⟨x,H1,I1,r1,y,ex,hz,q⟩=>?_);rcases ex with⟨i,rfl,hl,rfl⟩ | rfl | ⟨rfl,rfl⟩
 . obtain⟨t',rfl⟩:=r1;exact formatField_int_small hl ⟨.str (toString i),H1,I1.tok _,⟨_,rfl⟩,q⟩
 . obtain⟨t',rfl⟩:=r1;exact formatField_str (fun t'' tk=>⟨.str y,H1,I1.tok _,⟨_,rfl⟩,q⟩) hz
 . obtain rfl:v=Value.none:=r1;exact PySem.wpAny_formatField_none ⟨.str "None",H1,I1.tok _,⟨_,rfl⟩,q⟩
end
structure FunD(K:W.Frag)(x qual:Str)(st:Stmt)(f:Addr)(fd:FuncData)(dV:Value):Prop where
 ex:∃(oc:Value)(od:Option Addr)(kV doc pm:Value)(an:Option Addr)(cdv ct:Value)(osl:Array (Option Value)),
  fd=W.fnOf x qual (cP st) (bP st) (ak st) dV kV doc pm an cdv ct/\K.lookup f=some ⟨oc,od,.func fd,osl⟩/\W.codeIn K cdv qual=true
 kp:W.keepIn K (.ref f)=true
section
variable {P:Program} {w:World} {K:W.Frag} {mg:Str->Option Value} {base:Heap} {dV:Value}
theorem FunD.ok{x qual:Str}{st:Stmt}{f:Addr}{fd:FuncData}{N ps:List Str}{k:Nat}{sp:Sp}(F:FunD K x qual st f fd dV)(S:FnScope N ps (ak st))(len:∀vs H Q E,sp vs H Q E->vs.length=ps.length)
 (hbody:∀(cdv:Value)(A:Around)(outer:List Env)(s:Shared)(H:Hp)(vs:List V)(Q:VK)(E:XK),Room k (A.deeper (envOfC qual (ak st) s.heap.objs.size f cdv))->sp vs H Q E ->
  ∃t,PSs (jy CX0 P w K mg base N qual (ak st) f cdv A outer s H E).nox (bP st) t/\t { nx:=fun _ H'=>Q .non H',rt:=Q } (start N vs) H):FnOk P w K mg base CX0 (k+1) f fd ps sp:=by
 obtain⟨oc,od,kV,doc,pm,an,cdv,ct,osl,rfl,lk,hcd⟩:=F.ex;refine Az lk hcd S len fun A outer s H vs Q E hr hsp=>?_
 obtain⟨t,h,q⟩:=hbody cdv A outer s H vs Q E hr hsp;exact⟨t,h.nox,q⟩
theorem mw{x qual:Str}{st:Stmt}{f:Addr}{oc:Value}{od an:Option Addr}{osl:Array (Option Value)}{kV doc pm cdv ct:Value}(l:K.lookup f=some ⟨oc,od,.func (W.fnOf x qual (cP st) (bP st) (ak st) dV kV doc pm an cdv ct),osl⟩)
 (c:W.codeIn K cdv qual=true) (k:W.keepIn K (.ref f)=true):FunD K x qual st f (W.fnOf x qual (cP st) (bP st) (ak st) dV kV doc pm an cdv ct) dV:=⟨⟨oc,od,kV,doc,pm,an,cdv,ct,osl,rfl,l,c⟩,k⟩
theorem Fun.toD{x qual:Str}{st:Stmt}{f:Addr}{fd:FuncData}(F:Fun K x qual st f fd):FunD K x qual st f fd .none:=⟨F.ex,F.kp⟩
end
section
variable {K:W.Frag} {C D CA:Addr}
theorem ClsX.isCls (d:ClsX K D CA):((W.clsIn K D).isSome&&W.typeIn K (.ref D)==some (.type "type"))=true:=by
 obtain⟨nm,q,N,bs,sn,sub,ab,col,dd,k0,k1,k2,k3,k5,lk⟩:=d.obj;unfold W.clsIn W.typeIn;rw[lk]
 simp
 exact⟨_,lk,rfl⟩
theorem ClsX.sub(c:ClsX K C CA)(b:Value):W.subIn K (.ref C) b=some ((Value.ref C::.ref CA::bmV).contains b):=by
 obtain⟨nm,q,N,bs,sn,sub,ab,col,dd,k0,k1,k2,k3,k5,lk⟩:=c.obj;show W.mroIn K C b=_;unfold W.mroIn W.clsIn;rw[lk];rfl
theorem eI(c:ClsX K C CA)(d:ClsX K D CA)(hA:D≠CA):W.kitOne K (.ref C) (.ref D)=some (D==C):=by
 unfold W.kitOne
 by_cases e:D=C
 . subst e;rw[zF0 (by simp)]
   simp
 . rw [zD0 (by simpa using fun z=>e z.symm)];show(if _ then W.subIn K (.ref C) (.ref D)else none)=_;rw[zF0 d.isCls,c.sub]
   simp [bmV,e,hA]
theorem Cd (c:ClsX K C CA):W.kitOne K (.ref C) (.type "ValueError")=some true:=by
 unfold W.kitOne;rw[zD0 (by simp)];show(if W.kitMeta "ValueError"=true then W.subIn K (.ref C) (.type "ValueError")else none)=_;rw[zF0 (by decide),c.sub]
 simp [bmV]
end
def Ex(H:Hp)(e C:Addr)(f:Str)(v:V):Prop:=∃dx,H e=some (oF C e dx)/\H dx=some (.xd [(f,v)])
def Fly(h:Heap)(e C dx:Addr):Prop:=∃vs,h.get? e=some (dM C (some dx) vs)/\vs.size=6/\vs[2]?=some Value.none/\(vs[1]?=some .none∨∃T oT ts,vs[1]?=some (.ref T)/\T≠e/\h.get? T=some oT/\oT.data=.fields ts/\ts[3]?=some .none)
structure Lft(fs:List Addr)(e:Addr)(h h':Heap):Prop where
 keep:∀b o,h.get? b=some o->b∉fs->b≠e->h'.get? b=some o
 slot:∀b o,h.get? b=some o->b≠e->∃sl,h'.get? b=some { o with slots:=sl }
section
variable {M:Model} {A:Around} {E:Value->Shared->Prop} {s:Shared}
theorem pF{base:Heap}{env:Env}{outer:List Env}{L e C dx:Addr}{vs:Array Value}{head:Value}{hadNext:Bool}{Q:Unit->Shared->Prop}
 (hfr:A.frames=some (env::outer)) (hl:s.heap.FunFrames base (env::outer)) (hf:env.frame=some L)
 (he:s.heap.get? e=some (dM C (some dx) vs)) (hsz:vs.size=6) (hs2:vs[2]?=some Value.none)
 (h:∀h',Lft ((env::outer).filterMap (·.frame)) e s.heap h'->Fly h' e C dx->Q () { s with heap:=h' }) :
 wpAny M A (do let a ←frameOf env;let pl ←entryPlaceOf L hadNext;let b ←EntryCells.newEntry head a .none (rawInt L) .none pl;setField (.ref e) 1 b) (fun _ s'=>wpAny M A (setFlight (.ref e) none) Q E s') E s:=by
 have hd:(dM C (some dx) vs).data=.fields vs:=rfl;have hs1:1<vs.size:=by omega
 have hene:e∉(env::outer).filterMap (·.frame):=fun hm=>by
  obtain⟨_,o,ho,hnf⟩:=hl.mem hm;rw[he]at ho;injection ho with ho;subst ho;exact hnf vs hd
 refine zA0 (wpAny_frameOf_fun hfr hl hf fun h₁ hs₁=>?_);refine zA0 (wpAny_entryPlaceOf fun pl hpl=>?_);unfold EntryCells.newEntry newFields;refine zA0 (wpAny_newObj_type ?_ (hpl.sizeOk5 _ _ _ _ _));have he₁:h₁.get? e=some (dM C (some dx) vs):=(hs₁.2.1 e hene).trans he;have he₂:=zL0 (h:=h₁) { cls:=.type "traceback",dict:=none,data:=.fields ([head,.ref L,.none,rawInt L,.none]++(if pl.isEmpty then List.replicate 6 Value.none else pl)).toArray } he₁;refine wpAny_setField he₂ hd hs1 ?_;have hTe:h₁.objs.size≠e:=Nat.ne_of_gt (zM0 he₁);have hd₃:=Obj.data_mapFields hd (·.setIfInBounds 1 (Value.ref h₁.objs.size));have he₃:=Heap.get?_update_self (Obj.mapFields (·.setIfInBounds 1 (Value.ref h₁.objs.size))) he₂ (Obj.isFreed_of_fields hd₃);have hT₃:=(Heap.get?_update_other (h₁.push { cls:=.type "traceback",dict:=none,data:=.fields ([head,.ref L,.none,rawInt L,.none]++(if pl.isEmpty then List.replicate 6 Value.none else pl)).toArray })
  (Obj.mapFields (·.setIfInBounds 1 (Value.ref h₁.objs.size))) (Ne.symm hTe)).trans (zW0 h₁ rfl)
 unfold setFlight;refine zA0 (wpAny_field he₃ hd₃ (x:=.ref h₁.objs.size) (by simp [hs1]) ?_);rw[zF0 (show(Value.ref h₁.objs.size != Value.none)=true from by simp)];refine wpAny_setField hT₃ rfl (by simp only[zP0,zR0,zV0,List.length_nil] <;> omega) ?_;have keep:∀b o,b≠e->h₁.get? b=some o ->
  (((h₁.push { cls:=.type "traceback",dict:=none,data:=.fields ([head,.ref L,.none,rawInt L,.none]++(if pl.isEmpty then List.replicate 6 Value.none else pl)).toArray }).update e (Obj.mapFields (·.setIfInBounds 1 (Value.ref h₁.objs.size)))).update h₁.objs.size
    (Obj.mapFields (·.setIfInBounds 3 ((none:Option Addr).elim Value.none fun f=>rawInt f)))).get? b=some o:=fun b o hbe hb=>by
  have hbT:h₁.objs.size≠b:=Nat.ne_of_gt (zM0 hb);rw[Heap.get?_update_other _ _ hbT,Heap.get?_update_other _ _ (Ne.symm hbe)];exact zL0 _ hb
 refine h _ ⟨fun b o hb hn hbe=>keep b o hbe ((hs₁.2.1 b hn).trans hb),fun b o hb hbe=>?_⟩ ⟨vs.setIfInBounds 1 (.ref h₁.objs.size),?_,?_,?_,.inr ⟨h₁.objs.size,_,_,?_,hTe,Heap.get?_update_self _ hT₃ (Obj.isFreed_of_fields (Obj.data_mapFields rfl _)),Obj.data_mapFields rfl _,?_⟩⟩
 . obtain⟨sl,hs⟩:=hs₁.2.2 b o hb;exact⟨sl,keep b _ hbe hs⟩
 . rw[Heap.get?_update_other _ _ hTe];exact he₃
 . simp [hsz]
 . rw[Array.getElem?_setIfInBounds_ne (by decide)];exact hs2
 . simp [hs1]
 . first | (simp;done) | (rcases hpl with rfl | ⟨_,_,_,_,_,_,_,rfl⟩ <;> simp)
theorem rH{ts:Array Value}{i:Nat}{v:Value}(h:ts[i]?=some v):ts.setIfInBounds i v=ts:=by
 obtain⟨hi,e⟩:=Array.getElem?_eq_some_iff.mp h;refine Array.ext (by simp) fun j h1 h2=>?_
 rw[Array.getElem_setIfInBounds]
 . by_cases hj:i=j
   . subst hj;rw[zF0 rfl,←e]
   . rw[zD0 hj]
theorem sk{base:Heap}{env:Env}{outer:List Env}{L e C dx:Addr}{Q:Unit->Shared->Prop}
 (hfr:A.frames=some (env::outer)) (hl:s.heap.FunFrames base (env::outer)) (hf:env.frame=some L) (he:Fly s.heap e C dx)
 (h:∀h',Lft ((env::outer).filterMap (·.frame)) e s.heap h'->Fly h' e C dx->Q () { s with heap:=h' }) :
 wpAny M A (noteFrame (.ref e) env) (fun _ s'=>wpAny M A (setFlight (.ref e) none) Q E s') E s:=by
 obtain⟨vs,he,hz,hz2,hv⟩:=he;have hd:(dM C (some dx) vs).data=.fields vs:=rfl;unfold noteFrame;simp only[hf];rcases hv with h1 | ⟨T,oT,ts,h1,hTe,hT,hdT,h3⟩
 . refine zA0 (wpAny_field he hd h1 ?_);rw[zD0 (by decide)];exact pF hfr hl hf he hz hz2 h
 . refine zA0 (wpAny_field he hd h1 ?_);rw[zF0 (show(Value.ref T != Value.none)=true from by simp)];refine zA0 (wpAny_field hT hdT h3 ?_);rw[zD0 (show ¬ ((Value.none==rawInt L)=true)from by simp [rawInt])];refine zA0 (wpAny_setField hT hdT (Array.getElem?_eq_some_iff.mp h3).1 ?_);have id:∀b o,s.heap.get? b=some o->(s.heap.update T (Obj.mapFields (·.setIfInBounds 3 Value.none))).get? b=some o:=fun b o hb=>by
    by_cases hbT:b=T
    . subst hbT;rw[hT]at hb;cases hb;have hm:Obj.mapFields (·.setIfInBounds 3 Value.none) oT=oT:=by
       obtain⟨c,d,dt,sl⟩:=oT;cases hdT;show({ cls:=c,dict:=d,data:=.fields (ts.setIfInBounds 3 Value.none),slots:=sl }:Obj)=_;rw[rH h3]
      have:=Heap.get?_update_self (Obj.mapFields (·.setIfInBounds 3 Value.none)) hT (by rw[hm];exact(Heap.get?_some_iff.mp hT).2)
      rw[this,hm]
    . rw[Heap.get?_update_other _ _ (Ne.symm hbT)];exact hb
   refine pF (s:={ s with heap:=_ }) hfr (hl.of_keeps fun b o hb _=>⟨o,id b o hb,rfl⟩) hf (id _ _ he) hz hz2 fun h' x1 x2=>h h' ⟨fun b o hb hn hbe=>x1.keep b o (id b o hb) hn hbe,fun b o hb hbe=>x1.slot b o (id b o hb) hbe⟩ x2
theorem yl{base:Heap}{env:Env}{outer:List Env}{L e C dx:Addr}{Q:Unit->Shared->Prop}
 (hfr:A.frames=some (env::outer)) (hl:s.heap.FunFrames base (env::outer)) (hf:env.frame=some L) (he:Fly s.heap e C dx)
 (h:∀h',Lft ((env::outer).filterMap (·.frame)) e s.heap h'->Fly h' e C dx->Q () { s with heap:=h' }):wpAny M A (leaving env (.ref e)) Q E s:=by
 unfold leaving;exact zA0 (sk hfr hl hf he h)
theorem ve{e C dx:Addr}{Q:Unit->Shared->Prop}(he:Fly s.heap e C dx)(h:∀h',(∀b o,s.heap.get? b=some o->h'.get? b=some o)->Q () { s with heap:=h' }):wpAny M A (setFlight (.ref e) none) Q E s:=by
 obtain⟨vs,he,hz,hz2,hv⟩:=he;have hd:(dM C (some dx) vs).data=.fields vs:=rfl;unfold setFlight;rcases hv with h1 | ⟨T,oT,ts,h1,hTe,hT,hdT,h3⟩
 . refine zA0 (wpAny_field he hd h1 ?_);rw[zD0 (by decide)];exact zH0 (h s.heap fun _ _ q=>q)
 . refine zA0 (wpAny_field he hd h1 ?_);rw[zF0 (show(Value.ref T != Value.none)=true from by simp)];refine wpAny_setField hT hdT (Array.getElem?_eq_some_iff.mp h3).1 (h _ fun b o hb=>?_);show(s.heap.update T (Obj.mapFields (·.setIfInBounds 3 Value.none))).get? b=some o
   by_cases hbT:b=T
   . subst hbT;rw[hT]at hb;cases hb;have hm:Obj.mapFields (·.setIfInBounds 3 Value.none) oT=oT:=by
      obtain⟨c,d,dt,sl⟩:=oT;cases hdT;show({ cls:=c,dict:=d,data:=.fields (ts.setIfInBounds 3 Value.none),slots:=sl }:Obj)=_;rw[rH h3]
     have:=Heap.get?_update_self (Obj.mapFields (·.setIfInBounds 3 Value.none)) hT (by rw[hm];exact(Heap.get?_some_iff.mp hT).2)
     rw[this,hm]
   . rw[Heap.get?_update_other _ _ (Ne.symm hbT)];exact hb
end
section
variable {P:Program} {w:World} {H:Hp} {h h':Heap} {fs:List Addr} {e C dx:Addr} {φ:Heap->Prop}
theorem Fly.ofD(x:HOk P w H h)(he:H e=some (oF C e dx)):Fly h e C dx:=by
 obtain⟨o,ho,a,rfl⟩:=ObP.get x he;exact⟨_,ho,rfl,rfl,.inl rfl⟩
theorem Am(l:Lft fs e h h')(he:H e=some (.ext φ))(fl:Fly h' e C dx):Un fs [] H (upd H e (oE C e dx)) h h':=by
 have nn:∀b,H b=none->b≠e:=fun b n z=>by rw[z,he]at n;cases n
 have ne:∀b u,H b=some u->(∀ ψ,u≠.ext ψ)->b≠e:=fun b u hb hu z=>by rw[z,he]at hb;cases hb;exact hu _ rfl
 refine⟨fun b o q n hb _=>l.keep b o q hb (nn b n),fun b o q n _ _=>l.slot b o q (nn b n),fun b o _ n _=>by rw[aq (nn b n)];exact n,fun b o q _=>?_,fun b xs q=>?_,fun b o u q=>?_,fun b ps q=>⟨#[],?_⟩⟩
 . by_cases hb:b=e
   . obtain⟨vs,h1,_⟩:=fl;exact⟨_,by rw[hb];exact h1⟩
   . obtain⟨sl,h1⟩:=l.slot b o q hb;exact⟨_,h1⟩
 . rw[aq (ne b _ q fun ψ z=>by cases z)];exact q
 . rw[aq (ne b _ q fun ψ z=>by cases z)];exact q
 . rw [aq (ne b _ q fun ψ z=>by cases z),q]
   simp
theorem wz(x:HOk P w H h)(l:Lft fs e h h')(hfs:∀b∈fs,H b=none)(he:H e=some (.ext φ))(fl:Fly h' e C dx):HOk P w (upd H e (oE C e dx)) h':=by
 have ne:∀b u,H b=some u->(∀ ψ,u≠.ext ψ)->b≠e:=fun b u hb hu z=>by rw[z,he]at hb;cases hb;exact hu _ rfl
 have nf:∀b u,H b=some u->b∉fs:=fun b u hb z=>by rw[hfs b z]at hb;cases hb
 intro b u q
 by_cases hb:b=e
 . subst hb;rw[ah]at q;cases q;obtain⟨vs,h1,h2,h3,_⟩:=fl;exact ObP.ok h1 ⟨vs,rfl,h2,h3⟩
 . rw [aq hb]at q;refine(x b u q).stay (fun c v hc r=>?_) (fun c r=>?_) fun c xs r=>?_
   . rcases hc with rfl | hc
     . exact l.keep _ _ r (nf _ _ q) hb
     . exact l.keep _ _ r (nf _ _ hc) (ne _ _ hc fun ψ z=>by cases z)
   . rw[aq (ne _ _ r fun ψ z=>by cases z)];exact r
   . rw[aq (ne _ _ r fun ψ z=>by cases z)];exact r
end
def CXr(P:Program)(w:World):CXT:=fun outer H s E e s'=>∃e0 C dx H',e=.ref e0/\s'.os=s.os/\AllBare s'.gens/\Un (frs outer) [] H H' s.heap s'.heap/\HOk P w H' s'.heap/\H' e0=some (oE C e0 dx)/\Fly s'.heap e0 C dx/\E (.ref e0) (some dx) H'
section
variable {P:Program} {w:World} {K:W.Frag} {mg:Str->Option Value} {base:Heap} {N:List Str} {qual:Str} {scope:Scope} {f:Addr} {cd:Value} {A:Around} {outer:List Env} {s s1:Shared} {H H1:Hp} {E:XK} {pins:List (Addr×Obj)} {σ:St} {e C dx:Addr} {φ:Heap->Prop}
theorem CQ(I:Inv (jy (CXr P w) P w K mg base N qual scope f cd A outer s H E) pins σ H1 s1)(he:H1 e=some (.ext φ))(fl:Fly s1.heap e C dx)(q:E (.ref e) (some dx) (upd H1 e (oE C e dx))) :
 (jy (CXr P w) P w K mg base N qual scope f cd A outer s H E).xe (.ref e) s1:=by
 show wpAny _ _ (leaving _ (.ref e)) _ _ s1;refine yl (base:=base) I.ok.frames I.stack rfl fl fun h' l fl'=>?_
 have u1:=Am (H:=H1) l he fl';have k1:=wz I.hok l I.stkFree he fl';have b0:Un (frs outer) [] H H1 s.heap s1.heap:=I.base;have above:s.heap.objs.size<=(jy (CXr P w) P w K mg base N qual scope f cd A outer s H E).env.locals:=I.ok.above;have sub:∀b o,s.heap.get? b=some o->b∉frs outer->b∉frs (jy (CXr P w) P w K mg base N qual scope f cd A outer s H E).stack:=fun b o q hb z=>by
  rcases zY0 (I.stkSub b z)with z | z
  . have:=zM0 q
    rw[z]at this;exact absurd above (Nat.not_le.mpr this)
  . exact hb z
 have u2:=(b0.mono (fs':=frs (jy (CXr P w) P w K mg base N qual scope f cd A outer s H E).stack) (ex':=[]) (fun b hb=>by
  show b∈List.filterMap _ (_::outer);rw[List.filterMap_cons];exact qK0 _ hb) fun _ z=>z).trans u1
 refine⟨e,C,dx,_,rfl,I.os,I.bare,⟨fun b o q n hb hx=>u2.keep b o q n (sub b o q hb) hx,fun b o q n _ hx=>u2.any q n hx,u2.free,u2.there,u2.tups,u2.frzs,u2.tbls⟩,k1,ah,fl',q⟩
end
theorem rP{M:Model}{A:Around}{E:Value->Shared->Prop}{s:Shared}{env:Env}{K:W.Frag}{x:Sem Value}{Q:Flow->Shared->Prop}(hh:A.handled=none)
 (h:wpAny M A x (fun v s₁=>∃e dx a C CA,v=.ref e/\ClsX K C CA/\K.In s₁.heap/\s₁.heap.get? e=some (dM C (some dx) (vs6 a))/\E (.ref e) s₁) E s):wpAny M A (raiseStmt env (some x) none) Q E s:=by
 unfold raiseStmt;refine zA0 (wpAny_mono h (fun v s₁ h₁=>?_) fun _ _ x=>x);obtain⟨e,dx,a,C,CA,rfl,c,KX,he,hE⟩:=h₁;obtain⟨nm,q,N,bs,sn,sub,ab,col,dd,k0,k1,k2,k3,k5,lk⟩:=c.obj;have hcB:=rj (C:=C) (CA:=CA);have hC:=KX _ _ lk;obtain⟨hp,g,d,tk,os⟩:=s₁
 repeat (first | with_reducible refine wpAny_loadPart_at he ?_ | with_reducible refine wpAny_loadPart_at hC ?_ | (with_reducible refine wpAny_isSubtype_exc hC ?_;rw[hcB]) | wp_step)
 exact wpAny_raiseNew_none hh hE
section
variable {P:Program} {w:World} {K:W.Frag} {mg:Str->Option Value} {base:Heap} {N:List Str} {qual:Str} {scope:Scope} {f:Addr} {cd:Value} {A:Around} {outer:List Env} {s:Shared} {H:Hp} {E:XK}
theorem iM{x:Expr}{te:TE}{pos:Pos}(he:PE (jy (CXr P w) P w K mg base N qual scope f cd A outer s H E) x te) :
 PS (jy (CXr P w) P w K mg base N qual scope f cd A outer s H E) (.Raise (some x) none pos) (fun _ σ H1=>te σ H1 fun v H2=>∃e C CA dx,v=.ref e/\H2 e=some (oF C e dx)/\ClsX K C CA/\E (.ref e) (some dx) (upd H2 e (oE C e dx))):=by
 intro pins s1 σ H1 D I h;rw[arm_exec_Raise];refine zA0 (wpAny_standAt (rP (K:=K) (I.ok.hd rfl) ?_));refine zA0 (thn (he pins s1 σ H1 _ I h) fun u s2 ⟨v,H2,I2,r,e,C,CA,dx,ev,e2,c,q⟩=>zA0 (wpAny_standAt (zH0 ?_)));subst ev;obtain rfl:u=Value.ref e:=r;obtain⟨o,ho,a,rfl⟩:=ObP.get I2.hok e2;exact⟨e,dx,a,C,CA,rfl,c,I2.kIn,ho,CQ I2 e2 (Fly.ofD I2.hok e2) q⟩
end
section
variable {P:Program} {w:World} {K:W.Frag} {mg:Str->Option Value} {base:Heap} {dV:Value}
theorem FunD.okX{x qual:Str}{st:Stmt}{f:Addr}{fd:FuncData}{N ps:List Str}{k:Nat}{sp:Sp}(F:FunD K x qual st f fd dV)(S:FnScope N ps (ak st))(len:∀vs H Q E,sp vs H Q E->vs.length=ps.length)
 (hbody:∀(cdv:Value)(A:Around)(outer:List Env)(s:Shared)(H:Hp)(vs:List V)(Q:VK)(E:XK),Room k (A.deeper (envOfC qual (ak st) s.heap.objs.size f cdv))->sp vs H Q E ->
  ∃t,PSs (jy (CXr P w) P w K mg base N qual (ak st) f cdv A outer s H E) (bP st) t/\t { nx:=fun _ H'=>Q .non H',rt:=Q } (start N vs) H):FnOk P w K mg base (CXr P w) (k+1) f fd ps sp:=by
 obtain⟨oc,od,kV,doc,pm,an,cdv,ct,osl,rfl,lk,hcd⟩:=F.ex;exact Az lk hcd S len fun A outer s H vs Q E hr hsp=>hbody cdv A outer s H vs Q E hr hsp
theorem Fun.okX{x qual:Str}{st:Stmt}{f:Addr}{fd:FuncData}{N ps:List Str}{k:Nat}{sp:Sp}(F:Fun K x qual st f fd)(S:FnScope N ps (ak st))(len:∀vs H Q E,sp vs H Q E->vs.length=ps.length)
 (hbody:∀(cdv:Value)(A:Around)(outer:List Env)(s:Shared)(H:Hp)(vs:List V)(Q:VK)(E:XK),Room k (A.deeper (envOfC qual (ak st) s.heap.objs.size f cdv))->sp vs H Q E ->
  ∃t,PSs (jy (CXr P w) P w K mg base N qual (ak st) f cdv A outer s H E) (bP st) t/\t { nx:=fun _ H'=>Q .non H',rt:=Q } (start N vs) H):FnOk P w K mg base (CXr P w) (k+1) f fd ps sp:=F.toD.okX S len hbody
theorem wy{X:Cx}:gu (CXr X.prog X.w) X E0:=by
 rintro pins σ H1 s1 _ s2 I ⟨e0,C,dx,H',rfl,os,bare,un,hok,he,fl,q⟩;exact q.elim
end
section
variable {M:Model} {A:Around} {E:Value->Shared->Prop}
theorem oU{K:W.Frag}{C CA:Addr}{s:Shared}{e:Addr}{oe:Obj}{Q:Bool->Shared->Prop}(c:ClsX K C CA)(X:K.In s.heap)(he:s.heap.get? e=some oe)(hcls:oe.cls=.ref C)
 (hA:∃(nm q:Str) (N:Addr) (bs:List Value) (sn:List Str) (sub:List Value) (ab:Bool) (col:Option Bool) (dd:Option Addr) (k0 k1 k2 k3 k5:Option Value),K.lookup CA=some (excClassObj nm q CA N bs bmV true sn sub ab col dd k0 k1 k2 k3 k5 "ValueError.__new__"))
 (hq:Q true s):wpAny M A (excMatches (.ref e) (.ref CA)) Q E s:=by
 obtain⟨nm,q,N,bs,sn,sub,ab,col,dd,k0,k1,k2,k3,k5,lk⟩:=c.obj;obtain⟨nm',q',N',bs',sn',sub',ab',col',dd',k0',k1',k2',k3',k5',lk'⟩:=hA;have hC:=X _ _ lk;have hA:=X _ _ lk';obtain⟨h,g,d,t,os⟩:=s;have hcB:(Value.ref CA::bmV).contains (.type "BaseException")=true:=by simp [bmV]
 have hcC:(Value.ref C::.ref CA::bmV).contains (.ref CA)=true:=by simp
 have f:=tc_notTuple;unfold excMatches
 repeat (first | (with_reducible refine wpAny_loadPart_at he ?_;rw[hcls]) | with_reducible refine wpAny_loadPart_at hA ?_ | (with_reducible refine wpAny_isSubtype_exc hA ?_;rw[hcB]) | (with_reducible refine wpAny_isSubtype_exc hC ?_;rw[hcC]) | wp_step)
 exact hq
end
section
variable {prog:Program} {w:World} {A:Around} {s:Shared} {env:Env} {R:Result->Shared->Prop}
theorem oh{e:Value}{n:Str}{b₀:Stmt}{body:List Stmt}{pos:Pos}
 (h:wpAny (model prog w) A (setFlight e none) (fun _ s1=>wpAny (model prog w) A (bindName env n e) (fun _ s2=>wpAny (model prog w) A (execs (b₀::body) env) (fun f s3=>R (.ok f) s3) (fun _ _=>False) s2) (fun _ _=>False) s1) (fun _ _=>False) s) :
 codeAny (model prog w) A (.handlers e [.ExceptHandler none (some n) (b₀::body) pos] env) R s:=by
 refine codeAny_of_tree ?_;show wpAny _ A (do return Fin.done (←(handleWith e env [.ExceptHandler none (some n) (b₀::body) pos]).onRaise (fun x=>do noteFrame x env;theTreesLotGoes x))) _ _ s;refine zA0 (wpAny_noted ?_);unfold handleWith;exact zA0 (wpAny_standAt (zA0 (wpAny_mono h (fun _ s₁ h₁=>zA0 (wpAny_mono h₁ (fun _ s2 h2=>zA0 (wpAny_attempt (wpAny_mono h2 (fun f s3 h3=>zH0 (zH0 h3)) fun _ _ z=>z.elim))) fun _ _ z=>z.elim)) fun _ _ z=>z.elim)))
end
abbrev Cx.marked(X:Cx)(e:Addr):Cx:={ X with A:=X.A.mark (some (.ref e)),calm:=false,xe:=fun _ _=>False }
section
variable {X:Cx} {pins:List (Addr×Obj)} {σ:St} {H:Hp} {s:Shared} {e:Addr}
theorem Inv.marked(I:Inv X pins σ H s):Inv (X.marked e) pins σ H s:=
 ⟨⟨I.ok.mod,I.ok.kind,I.ok.glob,I.ok.blt,I.ok.above,I.ok.inj,I.ok.has,I.ok.cab,(fun z=>by cases z),I.ok.frames,I.ok.stk,I.ok.exf,I.ok.bs,I.ok.bsz,I.ok.noex,I.ok.exfs,I.ok.funs,I.ok.frf⟩,I.os,I.bare,I.base,I.loc,I.cell,I.free,I.freeC,I.pin,I.hok,I.len⟩
theorem Inv.unmarked(ok:X.Ok)(I:Inv (X.marked e) pins σ H s):Inv X pins σ H s:=⟨ok,I.os,I.bare,I.base,I.loc,I.cell,I.free,I.freeC,I.pin,I.hok,I.len⟩
theorem SP.unmarked{D:Ends}{f:Flow}{s':Shared}(ok:X.Ok)(h:SP (X.marked e) pins D f s'):SP X pins D f s':=by
 cases f with
 | next=>obtain⟨σ',H',I,q⟩:=h;exact⟨σ',H',I.unmarked ok,q⟩
 | brk=>obtain⟨σ',H',I,q⟩:=h;exact⟨σ',H',I.unmarked ok,q⟩
 | cont=>obtain⟨σ',H',I,q⟩:=h;exact⟨σ',H',I.unmarked ok,q⟩
 | ret u=>obtain⟨v,σ',H',I,r,q⟩:=h;exact⟨v,σ',H',I.unmarked ok,r,q⟩
theorem DW{M:Model}{A:Around}{E:Value->Shared->Prop}{i:Nat}{x:Str}{v:V}{pos:Pos}{Q:Unit->Shared->Prop}(I:Inv X pins σ H s)(hN:X.N.Nodup)(hi:X.N[i]?=some x)(hk:X.env.kindOf x=some .local)(hv:σ[i]?=some (some v))
 (h:∀s',Inv X pins (σ.set i none) H s'->Q () s'):wpAny M A (unbindBehindTheSuite X.env x pos) Q E s:=by
 obtain⟨m,hn,hl⟩:=id I.loc;have hcls:(X.env.scope.kind==.class||(X.env.scope.kind==.module&&X.env.locals != X.env.globals))=false:=by rw[I.ok.kind];rfl
 have hiσ:i<σ.length:=by rw[I.len];exact(zT0 hi).1
 have cne:=I.cne;obtain⟨u0,_,lk⟩:=hl i x v hi hv (.inl hk);have hm:(m x).isSome=true:=by
  rcases lk with⟨_,q⟩ | ⟨q,_⟩
  . rw[q];rfl
  . rcases q with q | q <;> (rw[hk]at q;cases q)
 unfold unbindBehindTheSuite unbindName deleteName;refine wpAny_onRaise (zA0 (wpAny_point (zA0 ?_)));simp only[hk,hcls,Bool.false_eq_true,if_false];refine zA0 (wpAny_nsDel_keeps hn fun h' v' hn' hs=>?_);rw[hm];refine zH0 (wpAny_point ?_);obtain⟨oL,_,_,hoL,_⟩:=id hn;refine h _ ⟨I.ok,I.os,I.bare,⟨fun b o e n hb hx=>?_,fun b o e n hb hx=>?_,I.base.free,fun b o e hx=>?_,I.base.tups,I.base.frzs,I.base.tbls⟩,⟨_,hn',fun j y v' e1 e2 e3=>?_⟩,fun y c e=>?_,I.free,I.freeC,fun p hp=>?_,fun b ob e=>?_,by simpa using I.len⟩
 . exact(hs.2 b (zS0 (qH0 (zM0 e) I.ok.above))).trans (I.base.keep b o e n hb hx)
 . obtain⟨sl,e1⟩:=I.base.slot b o e n hb hx;exact⟨sl,(hs.2 b (zS0 (qH0 (zM0 e) I.ok.above))).trans e1⟩
 . obtain⟨o',e1⟩:=I.base.there b o e hx;exact⟨o',(hs.2 b (zS0 (qH0 (zM0 e) I.ok.above))).trans e1⟩
 . by_cases hj:j=i
   . subst hj;rw[List.getElem?_set_self hiσ]at e2;cases e2
   . rw [List.getElem?_set_ne (Ne.symm hj)]at e2;obtain⟨u',r',q⟩:=hl j y v' e1 e2 e3;refine⟨u',r',?_⟩;rcases q with⟨k,e⟩ | ⟨k,c,e,z⟩
     . refine .inl ⟨k,?_⟩
       have:y≠x:=fun e=>hj (nO hN e1 (e▸hi))
       simp [this,e]
     . exact .inr ⟨k,c,e,z.sameBut hs (cne y c e)⟩
 . obtain⟨w',z⟩:=I.cell y c e;exact⟨w',z.sameBut hs (cne y c e)⟩
 . obtain⟨e,n,ne,nf,d⟩:=I.pin p hp;exact⟨(hs.2 p.1 ne).trans e,n,ne,nf,d⟩
 . refine (I.hok b ob e).stay (fun c w' hc q=>(hs.2 c ?_).trans q) (fun _ q=>q) fun _ _ q=>q
   rintro rfl;rcases hc with rfl | hc
   . rw[I.free]at e;cases e
   . rw[I.free]at hc;cases hc
end
def PSw(X:Cx)(EE:Ends->St->XK)(st:List Stmt)(t:TS):Prop:=
 ∀(W:Value->Shared->Prop)(pins:List (Addr×Obj))(s:Shared)(σ:St)(H:Hp)(D:Ends),(∀H1 s1 ev s2,Inv X pins σ H1 s1->CXr X.prog X.w X.stack H1 s1 (EE D σ) ev s2->W ev s2)->Inv X pins σ H s->t D σ H ->
  wpAny (model X.prog X.w) X.A (execs st X.env) (SP X pins D) W s
section
variable {X:Cx} {EE:Ends->St->XK} {n k:Nat} {x:Str} {ps:List Str} {sp:Sp} {e:Expr} {es:List Expr} {ta:TA} {p pos:Pos}
def Ends.un(D:Ends)(i:Nat):Ends:={ nx:=fun σ H=>D.nx (σ.set i none) H,rt:=D.rt,bk:=fun σ H=>D.bk (σ.set i none) H,ct:=fun σ H=>D.ct (σ.set i none) H }
def qT (K:W.Frag) (CA:Addr):Prop:=∃(nm q:Str) (N:Addr) (bs:List Value) (sn:List Str) (sub:List Value) (ab:Bool) (col:Option Bool) (dd:Option Addr) (k0 k1 k2 k3 k5:Option Value),K.lookup CA=some (excClassObj nm q CA N bs bmV true sn sub ab col dd k0 k1 k2 k3 k5 "ValueError.__new__")
theorem Do{c m:Str}{CA:Addr}{i:Nat}{st body:List Stmt}{b₀:Stmt}{pc ph:Pos}{t tb:TS}(hN:X.N.Nodup)(hi:X.N[i]?=some m)(hk:X.env.kindOf m=some .local)(hg:Gl X c)(hm:X.mg c=some (.ref CA))(hA:qT X.K CA)
 (hb:PSw X (fun D σ ev dxo H'=>∃e C dx,ev=.ref e/\dxo=some dx/\H' e=some (oE C e dx)/\ClsX X.K C CA/\tb (D.un i) (σ.set i (some (.ref e))) H') st t) (hh:∀e,PSs (X.marked e) (b₀::body) tb)
 (hst:X.stack=X.env::X.outer:=by rfl) (hfr:X.env.frame=some X.env.locals:=by rfl) (hdb:(c==("__debug__":Str))=false:=by decide) :
 PS X (.Try st [.ExceptHandler (some (.Name c pc)) (some m) (b₀::body) ph] [] [] pos) t:=by
 intro pins s σ H D I h;refine wpAny_Try_except (wpAny_mono (hb _ pins s σ H D ?_ I h) (fun f s1 q=>?_) fun _ _ z=>z)
 . rintro H1 s1 _ s2 I1 ⟨e,C0,dx0,H2,rfl,os,bare,un,hok,he0,fl,e',C,dx,ee,ed,he,cls,q⟩;cases ee;cases ed;have I2:=I1.call' (ch:=[]) os un hok bare (fun b z=>absurd z (by simp));refine sk (base:=X.base) (env:=X.env) (outer:=X.outer) (by rw[←hst];exact I2.ok.frames) (by rw[←hst];exact I2.stack) hfr fl fun h' l fl'=>?_
   have u:=Am (H:=H2) l he0 fl';have kk:=wz I2.hok l (by
    have z:=I2.stkFree;rw[hst]at z;exact z) he0 fl'
   rw[yT he0]at u kk;have I3:Inv X pins σ H2 { s2 with heap:=h' }:=I2.call' (ch:=[]) rfl (by rw[hst];exact u) kk I2.bare (fun b z=>absurd z (by simp));refine wpAny_handleBy_cons (codeAny_handlers_test (ku (X:=X.marked e) (I3.marked (e:=e)) hg hm ?_ hdb)) (by intro z;cases z);obtain⟨o,ho,vs,rfl,_⟩:=ObP.get I3.hok he;refine oU cls I3.kIn ho rfl hA ?_;refine oh ?_;refine ve fl' fun h'' kp=>?_
   have I4:Inv X pins σ H2 { s2 with heap:=h'' }:=I3.kept (t':=s2.toks) kp;refine wpAny_bindName (eR (X:=X.marked e) (v:=.ref e) (I4.marked (e:=e)) hN hi (.inl hk) rfl (fun s5 I5=>?_) (.inr hk));refine wpAny_mono (hh e pins s5 _ H2 (D.un i) I5 q) (fun f s6 q6=>?_) fun _ _ z=>z
   have q7:=SP.unmarked I.ok q6;have fin:∀{σ' H'}{G:Shared->Prop},Inv X pins σ' H' s6->(∀s8,Inv X pins (σ'.set i none) H' s8->G s8)->wpAny (model X.prog X.w) X.A (do bindName X.env m .none;unbindBehindTheSuite X.env m ph) (fun _ s3=>G s3) X.xe s6:=fun{σ' H' G} I6 g=>by
    refine zA0 (wpAny_bindName (eR (v:=.non) I6 hN hi (.inl hk) rfl (fun s7 I7=>?_) (.inr hk)));have hl:i<σ'.length:=by rw[I6.len];exact(zT0 hi).1
    refine DW (v:=.non) I7 hN hi hk (List.getElem?_set_self hl) fun s8 I8=>?_
    rw[List.set_set]at I8;exact g s8 I8
   cases f with
   | next=>obtain⟨σ',H',I',q⟩:=q7;exact fin I' fun s8 I8=>⟨_,H',I8,q⟩
   | brk=>obtain⟨σ',H',I',q⟩:=q7;exact fin I' fun s8 I8=>⟨_,H',I8,q⟩
   | cont=>obtain⟨σ',H',I',q⟩:=q7;exact fin I' fun s8 I8=>⟨_,H',I8,q⟩
   | ret v=>obtain⟨z,σ',H',I',r,q⟩:=q7;exact fin I' fun s8 I8=>⟨z,_,H',I8,r,q⟩
 . cases f with
   | next=>exact wpAny_execs_nil q
   | brk=>exact q
   | cont=>exact q
   | ret v=>exact q
end
section
variable {X:Cx} {e:Expr} {f:Str} {pos:Pos} {ta:TE}
theorem gn (K:W.Frag) (hK:X.K=K:=by rfl):fh X (.builtin "isinstance") (CB K):=by subst hK;exact yM
theorem zQ(K:W.Frag)(he:PE X e ta)(hb:attributeBase e f X.env (eval e X.env)=eval e X.env)(hK:X.K=K:=by rfl) :
 PE X (.Attribute e f pos) (fun σ H Q=>ta σ H fun x H1=>∃a C CA dx fs v,x=.ref a/\XAt H1 a C dx/\H1 dx=some (.xd fs)/\fs.lookup f=some v/\ClsX K C CA/\NoAttr K C f/\Q v H1):=by subst hK;exact BI he hb
end
def Ek(K:W.Frag)(a:Addr)(xs:List V):It:=⟨fun i H=>SqT K H a xs/\i<xs.length,fun i H y H'=>H'=H/\xs.reverse[i]?=some y,fun i _=>xs.length<=i⟩
theorem RevT.keep{h h':Heap}{it t:Addr}{i:Int}(x:RevT h it t i)(k:∀o,h.get? it=some o->h'.get? it=some o):RevT h' it t i:=k _ x
theorem wX{P:Program}{w:World}{K:W.Frag}{tg:Expr}(a it:Addr)(xs:List V):Turn P w K tg (Ek K a xs) [it] it (fun i h=>i<=xs.length/\RevT h it a ((xs.length:Int)-1-(i:Int))) where
 mem:=by simp
 obj:=fun i h st b hb=>by
  have e:b=it:=by simpa using hb
  subst e;exact⟨_,st.2,fun v z=>by cases z⟩
 keep:=fun i h h' st k=>⟨st.1,st.2.keep fun o e=>k it (by simp) o e⟩
 item:=by
  intro X hP hw hK hc i pins s σ H E I hf st hg;subst hP hw hK;obtain⟨hq,hi⟩:=hg;obtain⟨its,rv,p,hz⟩:=I.tuple hq;have hj:xs.length-1-i<xs.length:=by omega
  have hx:xs[xs.length-1-i]?=some xs[xs.length-1-i]:=zU0 hj;obtain⟨u,hu,ru⟩:=rv.get hx;obtain⟨f0,f1,f2,f3,f4,f5⟩:=hf it (by simp);obtain⟨_,hit⟩:=st;have e1:((xs.length:Int)-1-(i:Int))=((xs.length-1-i:Nat):Int):=by omega
  rw[e1]at hit;have h63:=ip;refine nQ hit p (x:=u) (by simpa using hu) (by omega) fun h' tk st' sb=>?_
  have I1:Inv X pins σ H { s with heap:=h',toks:=tk }:=I.turned (t':=tk) (fun b o hb e=>(sb.2 b hb).trans e) f0 f1 f3 f4 f5;have e2:((xs.length-1-i:Nat):Int)-1=(xs.length:Int)-1-((i+1:Nat):Int):=by omega
  rw[e2]at st';refine⟨u,rfl,sJ (s:={ s with heap:=h',toks:=tk }) st' rfl rfl (by decide) ⟨xs[xs.length-1-i],H,I1,ru,⟨rfl,?_⟩,⟨by omega,st'⟩,fun b hb=>(hf b hb).1⟩⟩;rw[List.getElem?_reverse hi,hx]
 done:=by
  intro X hP hw hK hc i pins s σ H E I hf st hg;subst hP hw hK;have hg:xs.length<=i:=hg;obtain⟨f0,f1,f2,f3,f4,f5⟩:=hf it (by simp);obtain⟨hi,hit⟩:=st;have e1:(xs.length:Int)-1-(i:Int)=-1:=by omega
  rw[e1]at hit;exact oS (I.ok.hd hc) hit fun h' tk eb=>⟨rfl,I.turned (t':=tk) (fun b o hb e=>eb b o hb e) f0 f1 f3 f4 f5⟩
 self:=fun _ _ _ _ _ st h=>pI st.2 h
def Cn(K:W.Frag)(c:Bool)(a:Addr)(xs:List V):It:=if c=true then ItV K a xs else Ek K a xs
section
variable {X:Cx} {tg:Expr}
def iRevB(K:W.Frag)(tl:TE):TI:=fun σ H R=>tl σ H fun x H1=>∃c a xs,x=.ref a/\SqB K c H1 a xs/\R (Cn K c a xs) H1
theorem BH {l:Expr} {tl:TE} {p pos:Pos} (hg:Gl X "reversed") (hm:X.mg "reversed"=none) (hl:PE X l tl) (hs:starEach [l] X.env=[(false,eval l X.env)]:=by rfl) :
 PI X tg (.Call (.Name "reversed" p) [l] [] pos) (iRevB X.K tl):=by
 intro pins s σ H R I h;refine wpAny_Call_Name_kw (iq I hg hm oB ?_);refine PyProof.Rows.callWith_type1 ?_ hs rfl;rw[hs];show wpAny _ _ (spliced ((false,eval l X.env)::backTo pos (starEach [] X.env))) _ _ s;refine Calls.spliced_cons (thn (hl pins s σ H _ I h) fun u s1 ⟨x,H1,I1,r1,c,a,xs,ex,hq,q⟩=>?_);subst ex;cases r1;refine Calls.spliced_nil ?_;cases c with
 | true=>
   have hq:SqL X.K H1 a xs:=hq;have q:R (ItV X.K a xs) H1:=q;obtain⟨its,rv,p,hz⟩:=I1.list hq;have hlen:=rv.length;refine call_reversed_list p.isList ?_;have hr:(s1.heap.push (revObj a ((its.toArray.size:Int)-1))).IsRevIter s1.heap.objs.size a ((xs.length:Int)-1-((0:Nat):Int)):=by
    have e:(xs.length:Int)-1-((0:Nat):Int)=(its.toArray.size:Int)-1:=by rw[zP0];omega
    rw[e];exact⟨_,zW0 _ rfl,rfl,rfl⟩
   refine wpAny_pyIter_revIter hr ?_;refine⟨s1.heap.objs.size,[s1.heap.objs.size],_,_,H1,rfl,I1.kept (t':=s1.toks) fun b o e=>zL0 _ e,wW a _ xs,⟨zN0 _,hr⟩,fun b hb=>?_,q⟩;have e:b=s1.heap.objs.size:=by simpa using hb
   subst e;exact I1.fpOk (zI0 _) (I1.hok.fresh (zI0 _))
 | false=>
   have hq:SqT X.K H1 a xs:=hq;have q:R (Ek X.K a xs) H1:=q;obtain⟨its,rv,p,hz⟩:=I1.tuple hq;have hlen:=rv.length;refine kC p (by rw[zP0,←rv.length];exact hz) fun tk=>?_
   have hr:RevT (s1.heap.push { cls:=.type "reversed",data:=.fields #[.ref a,rawInt ((its.toArray.size:Int)-1)] }) s1.heap.objs.size a ((xs.length:Int)-1-((0:Nat):Int)):=by
    have e:(xs.length:Int)-1-((0:Nat):Int)=(its.toArray.size:Int)-1:=by rw[zP0];omega
    rw[e];exact zW0 _ rfl
   refine pI hr ?_;refine⟨s1.heap.objs.size,[s1.heap.objs.size],_,_,H1,rfl,I1.kept (t':=tk) fun b o e=>zL0 _ e,wX a _ xs,⟨zN0 _,hr⟩,fun b hb=>?_,q⟩;have e:b=s1.heap.objs.size:=by simpa using hb
   subst e;exact I1.fpOk (zI0 _) (I1.hok.fresh (zI0 _))
end
theorem Ay{K:W.Frag}{c:Bool}{a:Addr}{xs:List V}{g:TG}{tb:TS}{D:Ends}{σ:St}{H:Hp}(Pv:Nat->St->Hp->Prop)(h0:Pv 0 σ H)(hl:∀i σ H,i<=xs.length->Pv i σ H->SqB K c H a xs)
 (hs:∀i x σ H,i<xs.length->xs.reverse[i]?=some x->Pv i σ H->g x σ H fun σ2 H2=>tb { D with nx:=Pv (i+1),ct:=Pv (i+1),bk:=D.nx } σ2 H2) (hd:∀ σ H,Pv xs.length σ H->D.nx σ H) :
 ∃ W:Nat->Nat->St->Hp->Prop,(∃m,W 0 m σ H)/\∀i m σ H,W i m σ H ->
  ((Cn K c a xs).stop i H/\D.nx σ H)∨((Cn K c a xs).go i H/\∃N:St->Hp->Prop,(∀ σ' H',N σ' H'->∃m',m'<m/\W (i+1) m' σ' H')/\∀x H',(Cn K c a xs).yld i H x H'->g x σ H' fun σ2 H2=>tb { D with nx:=N,ct:=N,bk:=D.nx } σ2 H2):=by
 cases c with
 | true=>exact Ax Pv h0 hl hs hd
 | false=>
   refine⟨fun i m σ H=>m=xs.length-i/\i<=xs.length/\Pv i σ H,⟨xs.length,by simp,zN0 _,h0⟩,?_⟩;rintro i m σ H ⟨rfl,hi,p⟩;have q:=hl i σ H hi p
   by_cases hlt:i<xs.length
   . refine .inr ⟨⟨q,hlt⟩,Pv (i+1),fun σ' H' p'=>⟨xs.length-(i+1),by omega,rfl,hlt,p'⟩,fun x H' y=>?_⟩;obtain⟨e,ex⟩:=y;subst e;exact hs i x σ _ hlt ex p
   . have e:i=xs.length:=by omega
     subst e;exact .inl ⟨zI0 _,hd σ H p⟩
section
variable {X:Cx} {EE:Ends->St->XK} {k:Nat} {m:Str} {ps:List Str} {sp:Sp} {e o:Expr} {es:List Expr} {ta:TE} {t:TA} {f C:Addr} {fd:FuncData} {apos pos:Pos}
theorem methW{pl:Sem Bool}{W:Value->Shared->Prop}{E:XK}{pins:List (Addr×Obj)}{s:Shared}{σ:St}{H:Hp}{Q:VK}(he:PE (X.wish W) o ta)(c:Cls X.K C)(hm:Meth X.K C m f)(F:FnOk X.prog X.w X.K X.mg X.base (CXr X.prog X.w) k f fd ps sp)(hr:Room k X.A)(hb:Binds X.K fd ps [])(ha:PA (X.wish W) (e::es) t)
 (hW:∀H1 s1 ev s2,Inv X pins σ H1 s1->CXr X.prog X.w X.stack H1 s1 E ev s2->W ev s2) (I:Inv X pins σ H s) (h:vH C m sp [] E ta t σ H Q)
 (hst:starEach (e::es) X.env=(false,eval e X.env)::starEach es X.env:=by rfl) (hpl:(backTo pos (starEach es X.env)).any (·.1)=false:=by rfl)
 (ht:eval (.Call (.Attribute o m apos) (e::es) [] pos) X.env=(do
  let ov ←eval o X.env
  standAt apos.atName
  let(f,first) ←holding [ov] (getMethod ov m pl)
  callWith pos f first (backTo pos (starEach (e::es) X.env)) (backToKw pos (keywordEach [] X.env))):=by rfl) :
 wpAny (model X.prog X.w) X.A (eval (.Call (.Attribute o m apos) (e::es) [] pos) X.env) (EP X pins σ Q) W s:=by
 refine PySem.W.methodCall_KW (pl:=pl) (thn (he pins s σ H _ (I.wish W) h) fun u s1 ⟨x,H1,I1,rx,a,dx,fs,ex,ea,l,q⟩=>?_) ht;subst ex;obtain rfl:u=Value.ref a:=rx;refine jI (X:=X.wish W) I1 ea c hm l ?_;refine PySem.W.callWith_K (first:=[.ref a]) (h₀:=X.base) I.ok.mod.kin hm.kp (thn (ha pos pins s1 σ H1 _ I1 q) fun us s2 ⟨vs,H2,I2,r,q2⟩=>⟨I2.kIn,?_⟩) hst hpl;have I2':=I2.unwish;have r2:Vals (.ref a::(vs++[])) (.ref a::(us++[])):=.cons rfl (r.append .nil);have hl:((.ref a::us)++[]:List Value).length=ps.length:=by
  have:=F.len _ _ _ _ q2
  rw[←this,List.append_nil,List.append_nil]
  simp [r.length]
 refine wpAny_call (codeAny_mono (F.run X.A X.stack s2 H2 ⟨.ref a::us,[]⟩ ((.ref a::us)++[]) (.ref a::(vs++[])) Q E hr I2'.env0 (hb s2 (.ref a::us) I2'.kIn hl) r2 q2) fun r s' hq=>?_);cases r with
 | error ev=>exact hW H2 s2 ev s' I2' hq
 | ok fl=>
   cases fl with
   | ret u=>exact I2'.after hq
   | next=>exact False.elim hq
   | brk=>exact False.elim hq
   | cont=>exact False.elim hq
theorem rR{pl:Sem Bool}{p1:Pos}(he:∀W,PE (X.wish W) o ta)(c:Cls X.K C)(hm:Meth X.K C m f)(F:FnOk X.prog X.w X.K X.mg X.base (CXr X.prog X.w) k f fd ps sp)(hr:Room k X.A)(hb:Binds X.K fd ps [])(ha:∀W,PA (X.wish W) (e::es) t)
 (hs:swapsWith (.Call (.Attribute o m apos) (e::es) [] pos) none p1.line X.env=pure false:=by rfl)
 (hst:starEach (e::es) X.env=(false,eval e X.env)::starEach es X.env:=by rfl) (hpl:(backTo pos (starEach es X.env)).any (·.1)=false:=by rfl)
 (ht:eval (.Call (.Attribute o m apos) (e::es) [] pos) X.env=(do
  let ov ←eval o X.env
  standAt apos.atName
  let(f,first) ←holding [ov] (getMethod ov m pl)
  callWith pos f first (backTo pos (starEach (e::es) X.env)) (backToKw pos (keywordEach [] X.env))):=by rfl) :
 PSw X EE [.Expr (.Call (.Attribute o m apos) (e::es) [] pos) p1] (fun D σ H=>vH C m sp [] (EE D σ) ta t σ H fun _ H1=>D.nx σ H1):=by
 intro W pins s σ H D hW I h;refine wpAny_execs_cons (wpAny_Expr_any (thn (methW (pl:=pl) (he W) c hm F hr hb (ha W) hW I h hst hpl ht) fun v s1 ⟨z,H1,I1,r1,q1⟩=>wpAny_execs_nil ⟨σ,H1,I1,q1⟩) I.quiet hs)
theorem Dm{c:Expr}{a b:List Stmt}{tc:TT}{t u:TS}(hc:∀W,PT (X.wish W) c tc)(ha:PSw X EE a t)(hb:PSw X EE b u):PSw X EE [.If c a b pos] (CZ tc t u):=by
 intro W pins s σ H D hW I h;have fin:∀f s2,SP X pins D f s2->(match f with | .next=>wpAny (model X.prog X.w) X.A (execs [] X.env) (SP X pins D) W s2 | f=>SP X pins D f s2):=fun f s2 q=>by
  cases f with
  | next=>exact wpAny_execs_nil q
  | brk=>exact q
  | cont=>exact q
  | ret v=>exact q
 refine wpAny_execs_cons (wpAny_If (thn (hc W pins s σ H _ (I.wish W) h) fun d s1 ⟨H1,I1,q1⟩=>?_));cases d with
 | true=>exact wpAny_mono (ha W pins s1 σ H1 D hW I1.unwish q1) fin fun _ _ z=>z
 | false=>exact wpAny_mono (hb W pins s1 σ H1 D hW I1.unwish q1) fin fun _ _ z=>z
end
def ItB(K:W.Frag)(c:Bool)(a:Addr):It:=if c=true then Itl K a else Itt K a
section
variable {X:Cx} {tg:Expr}
def iAny(K:W.Frag)(tl:TE):TI:=fun σ H R=>tl σ H fun x H1=>∃c a,x=.ref a/\(∃xs,SqB K c H1 a xs)/\R (ItB K c a) H1
theorem zN{l:Expr}{tl:TE}(hl:PE X l tl):PI X tg l (iAny X.K tl):=by
 intro pins s σ H R I h;refine thn (hl pins s σ H _ I h) fun v s1 ⟨x,H1,I1,r1,q1⟩=>?_
 obtain⟨c,a,e,⟨xs,hq⟩,q⟩:=q1;subst e;cases r1;cases c with
 | true=>
   have hq:SqL X.K H1 a xs:=hq;have q:R (Itl X.K a) H1:=q;obtain⟨its,rv,p,hz⟩:=I1.list hq;refine wpAny_pyIter_list p.isList ?_;refine⟨s1.heap.objs.size,[s1.heap.objs.size],_,_,H1,rfl,I1.kept (t':=s1.toks) fun b o e=>zL0 _ e,oW a _,⟨_,zW0 _ rfl,rfl,rfl⟩,fun b hb=>?_,q⟩;have e:b=s1.heap.objs.size:=by simpa using hb
   subst e;exact I1.fpOk (zI0 _) (I1.hok.fresh (zI0 _))
 | false=>
   have hq:SqT X.K H1 a xs:=hq;have q:R (Itt X.K a) H1:=q;obtain⟨its,rv,p,hz⟩:=I1.tuple hq;refine wpAny_pyIter_tuple (show s1.heap.IsTuple a its.toArray from p) ?_;refine⟨s1.heap.objs.size,[s1.heap.objs.size],_,_,H1,rfl,I1.kept (t':=s1.toks) fun b o e=>zL0 _ e,mE a _,⟨_,zW0 _ rfl,rfl,rfl⟩,fun b hb=>?_,q⟩;have e:b=s1.heap.objs.size:=by simpa using hb
   subst e;exact I1.fpOk (zI0 _) (I1.hok.fresh (zI0 _))
end
theorem ox{K:W.Frag}{c:Bool}{a D:Addr}{xs:List V}{ix:List Nat}{tb:TBl}{σ:St}{H:Hp}{Q:VK}(Pv:Nat->Hp->Prop)(h0:Pv 0 (upd H D (.lst [])))(hl:∀i H,i<=xs.length->Pv i H->SqB K c H a xs)
 (hs:∀i x H,xs[i]?=some x->Pv i H->tb (some x::outs ix σ) H (Nx xs.length i Pv) fun z H'=>∃ys,H' D=some (.lst ys)/\ys.length<sizeLine/\Nx xs.length i Pv (upd H' D (.lst (ys++[z])))) (hd:∀H,Pv xs.length H->Q (.ref D) H) :
 oG (ItB K c a) D ix tb σ H Q:=by
 cases c with
 | true=>exact pP (K:=K) (xs:=xs) Pv h0 hl hs hd
 | false=>exact cG (K:=K) (xs:=xs) Pv h0 hl hs hd
theorem CompScope.five{X:Cx}{x y z u v t:Str}{scope:Scope}{k l m n o:Nat}{c d e g f:Addr}{cl:List (Str×Addr)}(c1:closureFor scope X.env=pure cl)(c2:∀y∈scope.names,y.2≠.cell)(c3:scope.kind=.function)(c4:∀y∈scope.names,y.2=.local->scope.names.lookup y.1=some .local)
 (c5:scope.names.lookup x=some .local) (nd:[x,y,z,u,v,t].Nodup) (hcl:cl=[(y,c),(z,d),(u,e),(v,g),(t,f)]) (hc:X.env.cells.lookup y=some c) (hd:X.env.cells.lookup z=some d) (he:X.env.cells.lookup u=some e) (hg:X.env.cells.lookup v=some g) (hf:X.env.cells.lookup t=some f) (c6:((relabel scope X.env).names.all fun p=>!(p.2==.cell||p.2==.free)||(cl.lookup p.1).isSome)=true)
 (hr:(relabel scope X.env).names.lookup y=some .cell) (hk:X.N[k]?=some y) (hs:X.env.scope.names.lookup y=some .cell)
 (hr2:(relabel scope X.env).names.lookup z=some .cell) (hk2:X.N[l]?=some z) (hs2:X.env.scope.names.lookup z=some .cell)
 (hr3:(relabel scope X.env).names.lookup u=some .cell) (hk3:X.N[m]?=some u) (hs3:X.env.scope.names.lookup u=some .cell)
 (hr4:(relabel scope X.env).names.lookup v=some .cell) (hk4:X.N[n]?=some v) (hs4:X.env.scope.names.lookup v=some .cell)
 (hr5:(relabel scope X.env).names.lookup t=some .cell) (hk5:X.N[o]?=some t) (hs5:X.env.scope.names.lookup t=some .cell):CompScope X x [y,z,u,v,t] [k,l,m,n,o] scope cl where
 clos:=c1
 nocell:=c2
 kind:=c3
 names:=c4
 own:=c5
 nd:=nd
 sub:=fun p hp=>by
  subst hcl;rcases zY0 hp with h | h
  . rw[h];assumption
  . rcases zY0 h with h | h
    . rw[h];assumption
    . rcases zY0 h with h | h
      . rw[h];assumption
      . rcases zY0 h with h | h
        . rw[h];assumption
        . rw[zQ0 h];assumption
 has:=c6
 outs:=fun j w h=>by
  have nyz:y≠z:=fun e=>by simp [e]at nd
  have nyu:y≠u:=fun e=>by simp [e]at nd
  have nyv:y≠v:=fun e=>by simp [e]at nd
  have nyt:y≠t:=fun e=>by simp [e]at nd
  have nzu:z≠u:=fun e=>by simp [e]at nd
  have nzv:z≠v:=fun e=>by simp [e]at nd
  have nzt:z≠t:=fun e=>by simp [e]at nd
  have nuv:u≠v:=fun e=>by simp [e]at nd
  have nut:u≠t:=fun e=>by simp [e]at nd
  have nvt:v≠t:=fun e=>by simp [e]at nd
  subst hcl
  match j,h with
  | 0,h=>
    have e:y=w:=zO0 h;subst e;exact⟨hr,k,c,rfl,hk,by simp [List.lookup],hs⟩
  | 1,h=>
    have e:z=w:=zO0 h;subst e
    have:(z==y)=false:=by simpa using Ne.symm nyz
    exact⟨hr2,l,d,rfl,hk2,by simp [List.lookup,this],hs2⟩
  | 2,h=>
    have ew:u=w:=zO0 h;subst ew;have h1:(u==y)=false:=by simpa using Ne.symm nyu
    have h2:(u==z)=false:=by simpa using Ne.symm nzu
    exact⟨hr3,m,e,rfl,hk3,by simp [List.lookup,h1,h2],hs3⟩
  | 3,h=>
    have ew:v=w:=zO0 h;subst ew;have h1:(v==y)=false:=by simpa using Ne.symm nyv
    have h2:(v==z)=false:=by simpa using Ne.symm nzv
    have h3:(v==u)=false:=by simpa using Ne.symm nuv
    exact⟨hr4,n,g,rfl,hk4,by simp [List.lookup,h1,h2,h3],hs4⟩
  | 4,h=>
    have ew:t=w:=zO0 h;subst ew;have h1:(t==y)=false:=by simpa using Ne.symm nyt
    have h2:(t==z)=false:=by simpa using Ne.symm nzt
    have h3:(t==u)=false:=by simpa using Ne.symm nut
    have h4:(t==v)=false:=by simpa using Ne.symm nvt
    exact⟨hr5,o,f,rfl,hk5,by simp [List.lookup,h1,h2,h3,h4],hs5⟩
  | j+5,h=>simp at h
section
variable {X:Cx}
def rRepr(K:W.Frag):List V->Hp->VK->Prop:=fun xs H Q=>∃a d,xs=[.ref a]/\Rep K H (.ref a) d/\d.showable=true/\d.hasDict=false/\d.shown.length<=sizeLine/\d.depth<=62/\Q (.str d.shown) H
theorem vp (hg:X.A.guards=some []) (hu:X.A.units+64<cLine):fh X (.builtin "repr") (rRepr X.K):=by
 intro pins s σ H xs us Q I r h;obtain⟨a,d,rfl,rd,hs,hd,hz,hp,q⟩:=h;obtain⟨u,rfl,rx⟩:=iu r;obtain⟨as,z⟩:=Rep.reads I rd rx;cases rx;refine repr_of_reads' z hs (fun h=>by rw[hd]at h;cases h) hg (by omega) (fun _ _ e=>e) (fun h' u tk hk=>⟨.str d.shown,H,I.kept hk,⟨u,rfl⟩,q⟩) hz
end
section
variable {X:Cx} {pos:Pos}
def gLst(K:W.Frag)(n:Nat)(t:TGs):TG:=fun v σ H Q=>∃a xs,v=.ref a/\SqL K H a xs/\xs.length=n/\t xs σ H Q
theorem Du{es:List Expr}{k:Nat}{t:TGs}{n:Nat}(hc:X.calm=true)(h:PGs X es t)
 (hn:(assignEach es X.env).length=n:=by rfl) (hst:(assignEach es X.env).findIdx? (·.1)=none:=by rfl):PG X (.Tuple es k pos) (gLst X.K n t):=by
 intro pins s σ H v u Q I r hw;obtain⟨a,xs,e1,hq,hl,hw⟩:=hw;subst e1;cases r;obtain⟨its,rv,ht,hz⟩:=I.list hq;rw[assign_Tuple];refine zA0 (wpAny_standAt ?_);unfold unpack;rw[show(assignEach es X.env).length=its.toArray.size by simp [hn,←hl,rv.length],hst];refine zA0 (wpAny_holding (W.kun_itemsOf (I.ok.hd hc) ht.isList fun h' hx=>?_));have I1:Inv X pins σ H { s with heap:=h' }:=I.kept (t':=s.toks) fun b o e=>hx b o (zS0 (zM0 e)) e
 exact h pins _ σ H xs _ Q I1 (by simpa using rv) hw
end
section
variable {X:Cx}
def CP (K:W.Frag) (H:Hp) (v:V) (x:Str):Prop:=(∃n:Int,v=.int n/\n.natAbs.log2<1920/\x=toString n)∨(∃b:Bool,v=.bl b/\x=(if b then "True" else "False":Str))∨(v=.non/\x="None")∨(∃y:Str,v=.str y/\(reprText y).length<=sizeLine/\x=reprText y)∨
 ∃a d,v=.ref a/\Rep K H (.ref a) d/\d.showable=true/\d.hasDict=false/\d.shown.length<=sizeLine/\d.depth<=62/\x=d.shown
def Dk(K:W.Frag):List V->Hp->VK->Prop:=fun xs H Q=>∃v x,xs=[v]/\CP K H v x/\Q (.str x) H
theorem oz (hg:X.A.guards=some []) (hu:X.A.units+64<cLine):fh X (.builtin "repr") (Dk X.K):=by
 intro pins s σ H xs us Q I r h;obtain⟨v,x,rfl,hs,q⟩:=h;rcases hs with⟨n,rfl,hn,rfl⟩ | ⟨b,rfl,rfl⟩ | ⟨rfl,rfl⟩ | ⟨y,rfl,hy,rfl⟩ | ⟨a,d,rfl,rd,h1,h2,h3,h4,rfl⟩
 . obtain⟨u,rfl,t,rfl⟩:=iu r;exact PySem.P.repr_of_int hn ⟨.str (toString n),H,I.tok _,⟨_,rfl⟩,q⟩
 . obtain⟨u,rfl,rx⟩:=iu r;cases rx;cases b <;> exact PySem.P.repr_of_bool ⟨.str _,H,I.tok _,⟨_,rfl⟩,q⟩
 . obtain⟨u,rfl,rx⟩:=iu r;cases rx;exact PySem.P.repr_of_none ⟨.str "None",H,I.tok _,⟨_,rfl⟩,q⟩
 . obtain⟨u,rfl,t,rfl⟩:=iu r;exact PySem.P.repr_of_str ⟨.str (reprText y),H,I.tok _,⟨_,rfl⟩,q⟩ hy
 . exact vp hg hu pins s σ H _ us Q I r ⟨a,d,rfl,rd,h1,h2,h3,h4,q⟩
theorem pZ:∀{xs:List V}{us:List Value}{i:Nat}{u:Value},Vals xs us->us[i]?=some u->∃x,xs[i]?=some x/\RelV x u
 | [],_,_,_,.nil,h=>by simp at h
 | x::_,_,0,_,.cons r _,h=>by
   simp at h
   subst h;exact⟨x,rfl,r⟩
 | _::_,_,i+1,_,.cons _ t,h=>by
   obtain⟨x,h1,h2⟩:=pZ (i:=i) t (by simpa using h);exact⟨x,by simpa using h1,h2⟩
def wk(K:W.Frag):V->List V->Hp->VK->Prop:=fun x vs H Q=>∃(a:Addr)(xs:List V)(z:V)(j:Nat),x=.ref a/\vs=[z]/\SqL K H a xs/\xs.all gk=true/\gk z=true/\(∃y,xs[j]?=some y/\eqV y z=true)/\(∀m,m<j->∀y,xs[m]?=some y->eqV y z=false)/\Q (.int (j:Int)) H
theorem yf:MtR X "list.index" (wk X.K):=by
 intro pins s σ H x vs v us Q I rx rv h;obtain⟨a,xs,z,j,rfl,rfl,hq,fs,fz,⟨y,hy,ey⟩,hm,q⟩:=h;cases rx;obtain⟨u,rfl,ru⟩:=rv.one;obtain⟨its,r,⟨⟨cls,dd,data,sl⟩,n,ho,hc,hdd,hd⟩,hz⟩:=I.list hq;simp only at hc hd;subst hc hd;have h63:=ip;have hl:=r.length;have jl:j<xs.length:=(zT0 hy).1;have hj:j<its.toArray.size:=by rw[zP0];omega
 have fl:∀y∈xs,gk y=true:=fun y hy=>List.all_eq_true.mp fs y hy
 have e1:eqU z its.toArray[j]=true:=by
  obtain⟨y',hy',ry⟩:=pZ r (i:=j) (u:=its.toArray[j]) (by simp);rw[hy]at hy';cases hy';rw[ot ry (fl y (zZ0 hy))];exact ey
 have e2:∀(m:Nat)(hm:m<its.toArray.size),m<j->eqU z its.toArray[m]=false:=fun m hm' mj=>by
  obtain⟨y',hy',ry⟩:=pZ r (i:=m) (u:=its.toArray[m]) (by simp);rw[ot ry (fl y' (zZ0 hy'))];exact hm m mj y' hy'
 refine call_meets F.slot_list_index ⟨_,ho,rfl⟩ F.entry_list_index (F.args_list_index_2 _ _) (SeqAt.list_indexAt a its.toArray n dd sl u (eqU z) j hj (by omega) e1 e2) ⟨ho,fun y hy=>?_,?_⟩
 . exact dL ru fz r fs y (by simpa using hy)
 . exact⟨.int (j:Int),H,I.tok _,⟨_,rfl⟩,q⟩
theorem uQ (K:W.Frag) (h:X.K=K:=by rfl):MtR X "list.index" (wk K):=by subst h;exact yf
end
end L2
namespace Mine
def Pr(n:Int):Prop:=2<=n/\∀k:Int,2<=k->k<=1000->k*k<=n->n % k≠0
def kY(n:Int)(j:Int):Prop:=∀k:Int,2<=k->k<j->k*k<=n/\n % k≠0
theorem oZ{a b:Int}(h0:0<=a)(h:a<=b):a*a<=b*b:=Int.mul_le_mul h h h0 (Int.le_trans h0 h)
theorem Dr{n k:Int}(h2:2<=n)(h0:2<=k)(u:kY n k)(h:n<k*k):Pr n:=by
 refine⟨h2,fun j j2 _ js=>?_⟩
 by_cases c:j<k
 . exact(u j j2 c).2
 . have:=oZ (a:=k) (b:=j) (by omega) (by omega)
   omega
theorem Dt{n:Int}(h2:2<=n)(u:kY n 1001):Pr n:=⟨h2,fun j j2 j3 _=>(u j j2 (by omega)).2⟩
theorem Dp{n k:Int}(h0:2<=k)(h1:k<=1000)(hs:k*k<=n)(h:n % k=0):¬ Pr n:=fun p=>p.2 k h0 h1 hs h
theorem tL(n:Int):kY n 2:=fun k a b=>by omega
theorem wV{n k:Int}(u:kY n k)(hs:k*k<=n)(h:n % k≠0):kY n (k+1):=fun j a b=>by
 by_cases c:j<k
 . exact u j a c
 . have e:j=k:=by omega
   subst e;exact⟨hs,h⟩
def prB(n:Int):Bool:=decide (2<=n)&&(List.range 999).all fun i=>decide (n<((i:Int)+2)*((i:Int)+2))||decide (n % ((i:Int)+2)≠0)
theorem BD{n:Int}(h:prB n=true):Pr n:=by
 unfold prB at h;rw[Bool.and_eq_true]at h;refine⟨of_decide_eq_true h.1,fun k k2 k3 ks=>?_⟩;have q:=List.all_eq_true.mp h.2 (k.toNat-2) (List.mem_range.mpr (by omega));have e:(((k.toNat-2:Nat):Int)+2)=k:=by omega
 rw[e,Bool.or_eq_true]at q;rcases q with q | q
 . have:=of_decide_eq_true q;omega
 . exact of_decide_eq_true q
theorem xJ:Pr 999983:=BD (by decide)
theorem Dq{p d:Int}(h:Pr p)(hp:p<1002001)(d0:1<d)(d1:d<p)(hd:d ∣ p):False:=by
 obtain ⟨e,he⟩:=hd;have e0:1<e:=by
  by_cases c:e<=1
  . have:d*e<=d*1:=Int.mul_le_mul_of_nonneg_left c (by omega)
    omega
  . omega
 by_cases c:d<=e
 . have s:d*d<=p:=by
    have:=Int.mul_le_mul_of_nonneg_left c (show(0:Int)<=d by omega)
    omega
   have t:d<=1000:=by
    by_cases c2:1001<=d
    . have:=oZ (a:=1001) (b:=d) (by omega) c2
      omega
    . omega
   refine h.2 d (by omega) t s ?_;rw[he];exact Int.mul_emod_right d e
 . have c':e<=d:=by omega
   have s:e*e<=p:=by
    have:=Int.mul_le_mul_of_nonneg_right c' (show(0:Int)<=e by omega)
    omega
   have t:e<=1000:=by
    by_cases c2:1001<=e
    . have:=oZ (a:=1001) (b:=e) (by omega) c2
      omega
    . omega
   refine h.2 e (by omega) t s ?_;rw[he,Int.mul_comm];exact Int.mul_emod_right e d
def Cop(x y:Int):Prop:=∀d:Int,0<d->d ∣ x->d ∣ y->d=1
theorem Ec{p a:Int}(h:Pr p)(hp:p<1002001)(a0:0<a)(a1:a<p):Cop p a:=fun d d0 h1 h2=>by
 have:=Int.le_of_dvd a0 h2
 by_cases c:1<d
 . exact(Dq h hp c (by omega) h1).elim
 . omega
structure Eu(a p former ff rest f:Int):Prop where
 r0:0<rest
 rp:rest<p
 fr:rest<former
 f0:0<=f
 f1:f<p
 g0:0<=ff
 g1:ff<p
 cop:Cop former rest
 d1:p ∣ former-a*ff
 d2:p ∣ rest-a*f
theorem sP{a p:Int}(h:Pr p)(hp:p<1002001)(a0:0<a)(a1:a<p):Eu a p p 0 (a % p) 1:=by
 have e:a % p=a:=qU0 (by omega) a1;rw[e];exact⟨a0,a1,a1,by omega,by omega,by omega,by omega,Ec h hp a0 a1,by rw[Int.mul_zero,Int.sub_zero];exact Int.dvd_refl p,by rw[Int.mul_one,Int.sub_self];exact Int.dvd_zero p⟩
theorem wH{a p former ff rest f:Int}(E:Eu a p former ff rest f)(h1:rest≠1):Eu a p rest f (former-former / rest*rest) ((ff-former / rest*f) % p)/\(former-former / rest*rest).toNat<rest.toNat:=by
 have r0:=E.r0;have rp:=E.rp;have em:former-former / rest*rest=former % rest:=by
  have:=Int.emod_add_mul_ediv former rest
  rw[Int.mul_comm]at this;omega
 have l0:0<=former % rest:=qB0 _ (by omega);have l1:former % rest<rest:=qC0 _ r0;have cop':Cop rest (former % rest):=fun d d0 x y=>by
  refine E.cop d d0 ?_ x
  have:=Int.emod_add_mul_ediv former rest
  rw[←this];exact Int.dvd_add y (Int.dvd_trans x (Int.dvd_mul_right _ _))
 have lz:former % rest≠0:=fun z=>by
  have:=cop' rest r0 (Int.dvd_refl _) (by rw[z];exact Int.dvd_zero _)
  exact h1 this
 rw [em];refine⟨⟨by omega,by omega,l1,qB0 _ (by omega),qC0 _ (by omega),E.f0,E.f1,cop',E.d2,?_⟩,by omega⟩;have q:p ∣ (former-a*ff)-former / rest*(rest-a*f):=Int.dvd_sub E.d1 (Int.dvd_trans E.d2 (Int.dvd_mul_left _ _));have q2:p ∣ (ff-former / rest*f)-(ff-former / rest*f) % p:=Int.dvd_self_sub_emod;have q3:p ∣ a*((ff-former / rest*f)-(ff-former / rest*f) % p):=Int.dvd_trans q2 (Int.dvd_mul_left _ _);have q4:=Int.dvd_add q q3;have e2:former-a*ff-former / rest*(rest-a*f)+a*(ff-former / rest*f-(ff-former / rest*f) % p)=former % rest-a*((ff-former / rest*f) % p):=by
  rw[←em];generalize former / rest=t;generalize (ff-t*f) % p=u;rw[Int.mul_sub,Int.mul_sub,Int.mul_sub,Int.mul_left_comm t a f];omega
 rw[e2]at q4;exact q4
theorem AD{a p former ff rest f:Int}(E:Eu a p former ff rest f)(h1:rest=1)(hp:1<p):0<f/\f<p/\f*a % p=1:=by
 subst h1;have d2:=E.d2;have f0:=E.f0;have hm:f*a % p=1:=by
  obtain ⟨c,hc⟩:=d2;have e:f*a=1+p*(-c):=by
   rw[Int.mul_comm f a,Int.mul_neg];omega
  rw[e,Int.add_mul_emod_self_left];exact qU0 (by omega) hp
 refine⟨?_,E.f1,hm⟩
 by_cases c:f=0
 . subst c;simp at hm
 . omega
end Mine
namespace Mine
def tE(n d:Int):Prop:=∀k:Int,3<=k->k % 2=1->k<d->n % k≠0
theorem yc(n:Int):tE n 3:=fun k a _ c=>by omega
theorem Ac{n d:Int}(u:tE n d)(hd:d % 2=1)(h:n % d≠0):tE n (d+2):=fun k a b c=>by
 by_cases e:k<d
 . exact u k a b e
 . have:k=d:=by omega
   subst this;exact h
theorem yx{n d:Int}(h3:3<=n)(h2:n % 2≠0)(h0:3<=d)(u:tE n d)(hd:n<d*d):Pr n:=by
 refine⟨by omega,fun k k2 k3 ks z=>?_⟩;obtain⟨q,hq⟩:=Int.dvd_of_emod_eq_zero z
 by_cases e:k % 2=1
 . by_cases c:k<d
   . exact u k (by omega) e c z
   . have:=oZ (a:=d) (b:=k) (by omega) (by omega)
     omega
 . obtain ⟨j,hj⟩:∃j,k=2*j:=⟨k / 2,by omega⟩
   rw[hj,Int.mul_assoc]at hq;omega
theorem yz{n:Int}(h2:n % 2=0)(h3:2<n):¬ Pr n:=fun p=>p.2 2 (by omega) (by omega) (by omega) h2
theorem yy{n d:Int}(h9:n<=999999)(h0:3<=d)(hs:d*d<=n)(h:n % d=0):¬ Pr n:=fun p=>by
 have t:d<=1000:=by
  by_cases c2:1001<=d
  . have:=oZ (a:=1001) (b:=d) (by omega) c2
    omega
  . omega
 exact p.2 d (by omega) t hs h
theorem ub{n d:Int}(h9:n<=999999)(h0:3<=d)(hs:d*d<=n):d<=999:=by
 by_cases c2:1000<=d
 . have:=oZ (a:=1000) (b:=d) (by omega) c2
   omega
 . omega
theorem Bx{n d:Int}(h0:3<=d)(hs:d*d<=n):d<=n:=by
 have:=Int.mul_le_mul_of_nonneg_left (show(1:Int)<=d by omega) (show(0:Int)<=d by omega)
 omega
end Mine
namespace Mine
def bE:Nat->List (List Int)
 | 0=>[[]]
 | n+1=>(bE n).flatMap fun s=>[s++[0],s++[1]]
theorem kU{α β:Type}(f g:α->β):∀l:List α,(l.flatMap fun s=>[f s,g s]).length=2*l.length
 | []=>rfl
 | x::r=>by
   have ih:=kU f g r;simp only[List.flatMap_cons,zR0,zV0,List.length_nil];omega
theorem pj:∀n:Nat,(bE n).length=2 ^ n
 | 0=>rfl
 | n+1=>by rw[bE,kU,pj n,Nat.pow_succ];omega
theorem gJ:∀(n:Nat)(s:List Int),s∈bE n->s.length=n
 | 0,s,h=>by
   have:s=[]:=by simpa [bE]using h
   subst this;rfl
 | n+1,s,h=>by
   rw[bE,List.mem_flatMap]at h;obtain⟨t,ht,hs⟩:=h
   have:=gJ n t ht
   simp at hs
   rcases hs with rfl | rfl <;> simp [this]
end Mine
namespace Mine
def Pm(p:Int):Prop:=1<p/\∀a:Int,¬ p ∣ a->∃f:Int,p ∣ f*a-1
theorem AC{a p:Int}(hp:1<p):∀(n:Nat){former ff rest f:Int},rest.toNat<=n->Eu a p former ff rest f->∃g:Int,g*a % p=1
 | 0,former,ff,rest,f,hn,E=>by
   have:=E.r0
   omega
 | n+1,former,ff,rest,f,hn,E=>by
   by_cases c:rest=1
   . exact⟨f,(AD E c hp).2.2⟩
   . obtain⟨E2,lt⟩:=wH E c;exact AC hp n (by omega) E2
theorem lu{p:Int}(h:Pr p)(hp:p<1002001):Pm p:=by
 have p1:1<p:=by have:=h.1;omega
 refine ⟨p1,fun a ha=>?_⟩;have a0:0<a % p:=by
  have:=qB0 a (show p≠0 by omega)
  by_cases c:a % p=0
  . exact absurd (Int.dvd_of_emod_eq_zero c) ha
  . omega
 have a1:a % p<p:=qC0 _ (by omega);obtain⟨g,hg⟩:=AC p1 _ (zI0 _) (sP h hp a0 a1);refine⟨g,?_⟩;have e1:g*a % p=1:=by rw[←hg,Int.mul_emod g (a % p),Int.emod_emod,←Int.mul_emod]
 have:=Int.emod_add_mul_ediv (g*a) p
 exact⟨g*a / p,by omega⟩
theorem Pm.mul{p a b:Int}(h:Pm p)(hd:p ∣ a*b)(ha:¬ p ∣ a):p ∣ b:=by
 obtain⟨f,k,hk⟩:=h.2 a ha;obtain⟨m,hm⟩:=hd;exact⟨f*m-k*b,by grind⟩
theorem Pm.not_mul{p a b:Int}(h:Pm p)(ha:¬ p ∣ a)(hb:¬ p ∣ b):¬ p ∣ a*b:=fun z=>hb (h.mul z ha)
def ch:Nat->Nat->Nat
 | _,0=>1
 | 0,_+1=>0
 | n+1,k+1=>ch n k+ch n (k+1)
theorem kA(n:Nat):ch n 0=1:=by cases n <;> rfl
theorem kW:∀(n k:Nat),n<k->ch n k=0
 | 0,k+1,_=>rfl
 | n+1,k+1,h=>by
   show ch n k+ch n (k+1)=0;rw[kW n k (by omega),kW n (k+1) (by omega)]
theorem Ck(n:Nat):ch n n=1:=by
 induction n with
 | zero=>rfl
 | succ n ih=>
   show ch n n+ch n (n+1)=1;rw[ih,kW n (n+1) (by omega)]
theorem rh:∀(n k:Nat),(k+1)*ch (n+1) (k+1)=(n+1)*ch n k
 | 0,0=>rfl
 | 0,k+1=>by
   show(k+2)*(ch 0 (k+1)+ch 0 (k+2))=1*ch 0 (k+1);rw[kW 0 (k+1) (by omega),kW 0 (k+2) (by omega)]
   simp
 | n+1,0=>by
   have h:=rh n 0;rw[kA n]at h;show(0+1)*(ch (n+1) 0+ch (n+1) (0+1))=(n+1+1)*ch (n+1) 0;rw[kA (n+1)];omega
 | n+1,k+1=>by
   have h1:=rh n k;have h2:=rh n (k+1);show(k+2)*(ch (n+1) (k+1)+ch (n+1) (k+2))=(n+2)*ch (n+1) (k+1);have e:ch (n+1) (k+1)=ch n k+ch n (k+1):=rfl
   grind
def sm(f:Nat->Int):Nat->Int
 | 0=>0
 | n+1=>sm f n+f n
theorem jL{f g:Nat->Int}:∀n,(∀k,k<n->f k=g k)->sm f n=sm g n
 | 0,_=>rfl
 | n+1,h=>by
   show sm f n+f n=sm g n+g n;rw[jL n (fun k hk=>h k (by omega)),h n (by omega)]
theorem zt(f g:Nat->Int):∀n,sm (fun k=>f k+g k) n=sm f n+sm g n
 | 0=>rfl
 | n+1=>by
   show sm (fun k=>f k+g k) n+(f n+g n)=(sm f n+f n)+(sm g n+g n)
   rw[zt f g n];omega
theorem zq(c:Int)(f:Nat->Int):∀n,sm (fun k=>c*f k) n=c*sm f n
 | 0=>by simp [sm]
 | n+1=>by
   show sm (fun k=>c*f k) n+c*f n=c*(sm f n+f n)
   rw[zq c f n]
   grind
theorem jK(f:Nat->Int):∀n,sm f (n+1)=f 0+sm (fun k=>f (k+1)) n
 | 0=>by simp [sm]
 | n+1=>by
   show sm f (n+1)+f (n+1)=f 0+(sm (fun k=>f (k+1)) n+f (n+1))
   rw[jK f n];omega
theorem zr{p:Int}{f:Nat->Int}:∀n,(∀k,k<n->p ∣ f k)->p ∣ sm f n
 | 0,_=>⟨0,by simp [sm]⟩
 | n+1,h=>Int.dvd_add (zr n fun k hk=>h k (by omega)) (h n (by omega))
theorem CN(a:Int):∀n:Nat,(a+1) ^ n=sm (fun k=>(ch n k:Int)*a ^ k) (n+1)
 | 0=>by simp [sm,ch]
 | n+1=>by
   have ih:=CN a n;rw[Int.pow_succ,ih,jK (fun k=>((ch (n+1) k:Nat):Int)*a ^ k) (n+1)];have e1:sm (fun k=>((ch (n+1) (k+1):Nat):Int)*a ^ (k+1)) (n+1)=a*sm (fun k=>(ch n k:Int)*a ^ k) (n+1)+sm (fun k=>(ch n (k+1):Int)*a ^ (k+1)) (n+1):=by
    rw[←zq,←zt];refine jL _ fun k _=>?_
    have:ch (n+1) (k+1)=ch n k+ch n (k+1):=rfl
    rw[this,Int.natCast_add,Int.pow_succ]
    grind
   have e2:sm (fun k=>(ch n k:Int)*a ^ k) (n+1)=1+sm (fun k=>(ch n (k+1):Int)*a ^ (k+1)) (n+1):=by
    rw[jK]
    have:sm (fun k=>(ch n (k+1):Int)*a ^ (k+1)) (n+1)=sm (fun k=>(ch n (k+1):Int)*a ^ (k+1)) n:=by
     show _+(ch n (n+1):Int)*a ^ (n+1)=_;rw[kW n (n+1) (by omega)]
     simp
    rw[this,kA]
    simp
   rw[e1,kA]
   grind
theorem Ed{p:Int}(h:Pm p){n k:Nat}(hn:(n:Int)+1=p)(hk:k<n):p ∣ ((ch (n+1) (k+1):Nat):Int):=by
 have e:((k:Int)+1)*((ch (n+1) (k+1):Nat):Int)=p*((ch n k:Nat):Int):=by
  have:=rh n k
  rw[←hn];exact_mod_cast this
 refine h.mul (a:=(k:Int)+1) ⟨_,e⟩ fun hd=>?_
 have:=Int.le_of_dvd (by omega) hd
 omega
theorem oo{p:Int}(h:Pm p):∀a:Nat,p ∣ (a:Int) ^ p.toNat-a
 | 0=>by
   have:p.toNat≠0:=by have:=h.1;omega
   simp [Int.zero_pow this]
 | a+1=>by
   have ih:=oo h a;obtain⟨n,hn⟩:∃n:Nat,p.toNat=n+1:=⟨p.toNat-1,by have:=h.1;omega⟩
   have hp:(n:Int)+1=p:=by have:=h.1;omega
   rw [hn]at ih ⊢;have b:=CN (a:Int) (n+1);have e:sm (fun k=>(ch (n+1) k:Int)*(a:Int) ^ k) (n+1+1)=sm (fun k=>(ch (n+1) (k+1):Int)*(a:Int) ^ (k+1)) n+(a:Int) ^ (n+1)+1:=by
    rw[jK];show _+(sm _ n+(ch (n+1) (n+1):Int)*(a:Int) ^ (n+1))=_;rw[Ck,kA]
    simp
    omega
   have d:p ∣ sm (fun k=>(ch (n+1) (k+1):Int)*(a:Int) ^ (k+1)) n:=zr n fun k hk=>Int.dvd_mul_of_dvd_left (Ed h hp hk)
   obtain⟨u,hu⟩:=ih;obtain⟨v,hv⟩:=d;refine⟨u+v,?_⟩;rw[Int.natCast_add];show((a:Int)+1) ^ (n+1)-((a:Int)+1)=_;rw[b,e]
   grind
theorem DS{p a:Int}(h:Pm p)(ha:¬ p ∣ a)(a0:0<=a):p ∣ a*a ^ (p-2).toNat-1:=by
 obtain⟨n,hn⟩:∃n:Nat,p.toNat=n+2:=⟨p.toNat-2,by have:=h.1;omega⟩
 have e:(p-2).toNat=n:=by omega
 have f:=oo h a.toNat;rw[Int.toNat_of_nonneg a0,hn]at f;rw[e];have g:a ^ (n+2)-a=a*(a*a ^ n-1):=by
  rw[Int.pow_succ,Int.pow_succ]
  grind
 rw[g]at f;exact h.mul f ha
def IsPoly:Nat->(Int->Int)->Prop
 | 0,f=>∀x,f x=0
 | n+1,f=>∃(a:Int)(g:Int->Int),IsPoly n g/\∀x,f x=a+x*g x
theorem IsPoly.congr:∀{n:Nat}{f g:Int->Int},IsPoly n f->(∀x,g x=f x)->IsPoly n g
 | 0,_,_,h,e=>fun x=>(e x).trans (h x)
 | _+1,_,_,⟨a,k,hk,h⟩,e=>⟨a,k,hk,fun x=>(e x).trans (h x)⟩
theorem IsPoly.zero:∀n:Nat,IsPoly n fun _=>0
 | 0=>fun _=>rfl
 | n+1=>⟨0,fun _=>0,IsPoly.zero n,fun x=>by simp⟩
theorem IsPoly.up:∀{n:Nat}{f:Int->Int},IsPoly n f->IsPoly (n+1) f
 | 0,f,h=>⟨0,fun _=>0,fun _=>rfl,fun x=>by rw[h x];simp⟩
 | n+1,f,⟨a,g,hg,h⟩=>⟨a,g,hg.up,h⟩
theorem IsPoly.upTo{n:Nat}{f:Int->Int}(h:IsPoly n f):∀m,n<=m->IsPoly m f:=fun m hm=>by
 obtain⟨k,rfl⟩:∃k,m=n+k:=⟨m-n,by omega⟩
 clear hm
 induction k with
 | zero=>exact h
 | succ k ih=>exact ih.up
theorem IsPoly.add:∀{n:Nat}{f g:Int->Int},IsPoly n f->IsPoly n g->IsPoly n fun x=>f x+g x
 | 0,f,g,h,k=>fun x=>by show f x+g x=0;rw[h x,k x];rfl
 | n+1,f,g,⟨a,u,hu,h⟩,⟨b,v,hv,k⟩=>⟨a+b,fun x=>u x+v x,hu.add hv,fun x=>by show f x+g x=a+b+x*(u x+v x);rw[h x,k x];grind⟩
theorem IsPoly.mul(c:Int):∀{n:Nat}{f:Int->Int},IsPoly n f->IsPoly n fun x=>c*f x
 | 0,f,h=>fun x=>by show c*f x=0;rw[h x];simp
 | n+1,f,⟨a,u,hu,h⟩=>⟨c*a,fun x=>c*u x,hu.mul c,fun x=>by show c*f x=c*a+x*(c*u x);rw[h x];grind⟩
theorem IsPoly.lin{n:Nat}{f:Int->Int}(h:IsPoly n f)(r:Int):IsPoly (n+1) fun x=>(x-r)*f x:=by
 have h1:IsPoly (n+1) fun x=>x*f x:=⟨0,f,h,fun x=>by simp⟩
 exact(h1.add (h.up.mul (-r))).congr fun x=>by grind
theorem IsPoly.div:∀{n:Nat}{f:Int->Int},IsPoly (n+1) f->∀r:Int,∃q,IsPoly n q/\∀x,f x-f r=(x-r)*q x
 | 0,f,⟨a,g,hg,h⟩,r=>⟨fun _=>0,fun _=>rfl,fun x=>by rw[h x,h r,hg x,hg r];simp⟩
 | n+1,f,⟨a,g,hg,h⟩,r=>by
   obtain⟨q,hq,e⟩:=IsPoly.div hg r;refine⟨fun x=>g x+r*q x,hg.add (hq.up.mul r),fun x=>?_⟩
   have:=e x
   rw[h x,h r]
   grind
theorem IsPoly.roots{p:Int}(hp:Pm p):∀{n:Nat}{f:Int->Int}(rs:List Int),IsPoly n f->rs.length=n->rs.Pairwise (fun a b=>¬ p ∣ b-a)->(∀r∈rs,p ∣ f r)->∀x,p ∣ f x
 | 0,f,_,h,_,_,_,x=>⟨0,by rw[h x];simp⟩
 | n+1,f,[],_,hl,_,_,_=>by simp at hl
 | n+1,f,r::rs,h,hl,hd,hr,x=>by
   obtain ⟨q,hq,e⟩:=h.div r;have hd':=List.pairwise_cons.mp hd;have z:=IsPoly.roots hp rs hq (by simpa using hl) hd'.2 (fun s hs=>by
    have h1:p ∣ (s-r)*q s:=by
     rw[←e s];exact Int.dvd_sub (hr s (qK0 _ hs)) (hr r qL0)
    exact hp.mul h1 (hd'.1 s hs)) x
   have:f x=f r+(x-r)*q x:=by have:=e x;omega
   rw[this];exact Int.dvd_add (hr r qL0) (Int.dvd_mul_of_dvd_right z)
end Mine
namespace Mine
def pr(g:Nat->Int):Nat->Int
 | 0=>1
 | n+1=>pr g n*g n
theorem np{f g:Nat->Int}:∀n,(∀k,k<n->f k=g k)->pr f n=pr g n
 | 0,_=>rfl
 | n+1,h=>by
   show pr f n*f n=pr g n*g n;rw[np n (fun k hk=>h k (by omega)),h n (by omega)]
theorem nk(g:Nat->Int):∀n,pr g (n+1)=g 0*pr (fun k=>g (k+1)) n
 | 0=>by simp [pr]
 | n+1=>by
   show pr g (n+1)*g (n+1)=g 0*(pr (fun k=>g (k+1)) n*g (n+1))
   rw[nk g n,Int.mul_assoc]
def px(x:Int)(i:Nat):Nat->Int
 | 0=>1
 | n+1=>if n=i then px x i n else px x i n*(x-n)
theorem wp(i:Nat):∀n,IsPoly (if i<n then n else n+1) fun x=>px x i n
 | 0=>⟨1,fun _=>0,fun _=>rfl,fun x=>by simp [px]⟩
 | n+1=>by
   have ih:=wp i n
   by_cases c:n=i
   . subst c;rw[zD0 (qQ0 n)]at ih;rw[zF0 (Nat.lt_succ_self n)];exact ih.congr fun x=>by simp [px]
   . have e:∀x,px x i (n+1)=(x-n)*px x i n:=fun x=>by
      show(if n=i then px x i n else px x i n*(x-n))=_;rw[zD0 c,Int.mul_comm]
     by_cases c2:i<n
     . rw[zF0 c2]at ih;rw[zF0 (by omega)];exact(ih.lin n).congr e
     . rw[zD0 c2]at ih;rw[zD0 (by omega)];exact(ih.lin n).congr e
theorem qx{k i:Nat}(h:k≠i):∀n,k<n->px (k:Int) i n=0
 | n+1,hk=>by
   show(if n=i then px (k:Int) i n else px (k:Int) i n*((k:Int)-n))=0
   by_cases c:n=i
   . rw[zF0 c];exact qx h n (by omega)
   . rw [zD0 c]
     by_cases c2:k=n
     . subst c2
       simp
     . rw [qx h n (by omega)]
       simp
def lag(v u:Nat->Int)(n:Nat)(x:Int):Int:=sm (fun i=>v i*px x i n*u i) n
theorem Bq{n m:Nat}{f:Nat->Int->Int}:(∀i,i<m->IsPoly n (f i))->IsPoly n fun x=>sm (fun i=>f i x) m:=by
 induction m with
 | zero=>exact fun _=>IsPoly.zero n
 | succ m ih=>exact fun h=>(ih fun i hi=>h i (by omega)).add (h m (by omega))
theorem sF(v u:Nat->Int)(n:Nat):IsPoly n (lag v u n):=Bq fun i hi=>by
 have h:=wp i n;rw[zF0 hi]at h;exact(h.mul (v i*u i)).congr fun x=>by grind
theorem zp{f:Nat->Int}{k:Nat}:∀n,k<n->(∀i,i<n->i≠k->f i=0)->sm f n=f k
 | n+1,hk,h=>by
   show sm f n+f n=f k
   by_cases c:k=n
   . subst c;have z:sm f k=0:=by
      have:sm f k=sm (fun _=>0) k:=jL k fun i hi=>h i (by omega) (by omega)
      rw[this];clear this h hk
      induction k with
      | zero=>rfl
      | succ k ih=>show sm (fun _=>0) k+0=0;rw[ih];rfl
     rw[z]
     simp
   . rw [zp n (by omega) (fun i hi=>h i (by omega)),h n (by omega) (by omega)]
     simp
def Wgt(p:Int)(n:Nat)(u:Nat->Int):Prop:=∀i,i<n->p ∣ px (i:Int) i n*u i-1
theorem uY{p:Int}{v u:Nat->Int}{n k:Nat}(hu:Wgt p n u)(hk:k<n):p ∣ lag v u n k-v k:=by
 unfold lag;rw[zp n hk fun i hi hne=>by rw[qx (Ne.symm hne) n hk];simp];obtain⟨m,hm⟩:=hu k hk;exact⟨v k*m,by grind⟩
theorem far{p:Int}{n:Nat}(hn:(n:Int)<=p):((List.range n).map fun k:Nat=>(k:Int)).Pairwise fun a b=>¬ p ∣ b-a:=by
 rw[List.pairwise_map];refine List.Pairwise.imp_of_mem (fun{a b} ha hb h=>?_) List.pairwise_lt_range;intro d
 have:=Int.le_of_dvd (by omega) d
 have hb':=List.mem_range.mp hb;omega
theorem alike{p:Int}(hp:Pm p){n:Nat}(hn:(n:Int)<=p){f g:Int->Int}(hf:IsPoly n f)(hg:IsPoly n g)(h:∀k:Nat,k<n->p ∣ f k-g k)(x:Int):p ∣ f x-g x:=by
 have hd:IsPoly n fun x=>f x-g x:=(hf.add (hg.mul (-1))).congr fun x=>by grind
 refine hd.roots hp ((List.range n).map fun k:Nat=>(k:Int)) (by simp) (far hn) (fun r hr=>?_) x;obtain⟨k,hk,rfl⟩:=List.mem_map.mp hr;exact h k (List.mem_range.mp hk)
theorem sE{p:Int}(hp:Pm p){n:Nat}(hn:(n:Int)<=p){v u:Nat->Int}{P:Int->Int}(hu:Wgt p n u)(hP:IsPoly n P)(h:∀k:Nat,k<n->p ∣ v k-P k)(x:Int):p ∣ lag v u n x-P x:=
 alike hp hn (sF v u n) hP (fun k hk=>by
  have h1:=uY (v:=v) hu hk;have h2:=h k hk
  have:lag v u n k-P k=(lag v u n k-v k)+(v k-P k):=by omega
  rw[this];exact Int.dvd_add h1 h2) x
theorem Ao{p:Int}(hp:Pm p){n:Nat}(hn:(n:Int)<=p){v u u':Nat->Int}(hu:Wgt p n u)(hu':Wgt p n u')(x:Int):p ∣ lag v u n x-lag v u' n x:=
 sE hp hn hu (sF v u' n) (fun k hk=>by
  obtain⟨m,hm⟩:=uY (v:=v) hu' hk;exact⟨-m,by grind⟩) x
theorem ni(x:Int)(i:Nat):∀m,px x i (i+1+m)=pr (fun j=>x-j) i*pr (fun j=>x-(i+1+j:Nat)) m
 | 0=>by
   have h:∀k,k<=i->px x i k=pr (fun j=>x-j) k:=fun k=>by
    induction k with
    | zero=>exact fun _=>rfl
    | succ k ih=>
      intro hk;show(if k=i then px x i k else px x i k*(x-k))=pr (fun j=>x-j) k*(x-k)
      rw[zD0 (by omega),ih (by omega)]
   show(if i=i then px x i i else _)=_*1;rw[zF0 rfl,h i (zI0 _),Int.mul_one]
 | m+1=>by
   show(if i+1+m=i then _ else px x i (i+1+m)*(x-(i+1+m:Nat)))=pr (fun j=>x-j) i*(pr (fun j=>x-(i+1+j:Nat)) m*(x-(i+1+m:Nat)))
   rw[zD0 (by omega),ni x i m,Int.mul_assoc]
theorem wq(x:Int)(i:Nat):∀m,pr (fun j=>x-(i+m:Nat)+j) m=pr (fun j=>x-(i+1+j:Nat)) m
 | 0=>rfl
 | m+1=>by
   rw[nk];show _=pr (fun j=>x-(i+1+j:Nat)) m*(x-(i+1+m:Nat))
   have e:pr (fun k=>x-(i+(m+1):Nat)+(k+1:Nat)) m=pr (fun j=>x-(i+m:Nat)+j) m:=np m fun k _=>by omega
   rw[e,wq x i m,Int.mul_comm]
   congr 1
   omega
def fac:Nat->Int
 | 0=>1
 | n+1=>fac n*((n:Int)+1)
theorem sO:∀n:Nat,pr (fun j=>(n:Int)-j) n=fac n
 | 0=>rfl
 | n+1=>by
   rw[nk];have e:pr (fun k=>((n+1:Nat):Int)-(k+1:Nat)) n=pr (fun j=>(n:Int)-j) n:=np n fun k _=>by omega
   rw[e,sO n];show((n+1:Nat)-(0:Nat):Int)*fac n=fac n*((n:Int)+1)
   rw[Int.mul_comm]
   congr 1
theorem wG(i:Nat):∀m:Nat,pr (fun j=>(i:Int)-(i+1+j:Nat)) m=(-1) ^ m*fac m
 | 0=>rfl
 | m+1=>by
   show pr _ m*((i:Int)-(i+1+m:Nat))=(-1) ^ (m+1)*(fac m*((m:Int)+1))
   rw[wG i m,Int.pow_succ]
   have:((i:Int)-(i+1+m:Nat))=-((m:Int)+1):=by omega
   rw[this]
   grind
theorem zH(i m:Nat):px (i:Int) i (i+1+m)=fac i*((-1) ^ m*fac m):=by rw[ni,sO,wG]
theorem sN:∀(k d:Nat),fac d*pr (fun j=>((d+k:Nat):Int)-j) k=fac (d+k)
 | 0,d=>by simp [pr]
 | k+1,d=>by
   have ih:=sN k (d+1);rw[show d+1+k=d+(k+1) by omega]at ih;rw[←ih];show fac d*(pr (fun j=>((d+(k+1):Nat):Int)-j) k*(((d+(k+1):Nat):Int)-k))=fac d*((d:Int)+1)*pr (fun j=>((d+(k+1):Nat):Int)-j) k
   have:(((d+(k+1):Nat):Int)-k)=(d:Int)+1:=by omega
   rw[this]
   grind
theorem qZ{p:Int}(hp:Pm p):∀n:Nat,(n:Int)<p->¬ p ∣ fac n
 | 0,_=>fun d=>by
   have:=Int.le_of_dvd (by decide) (show p ∣ 1 from d)
   have:=hp.1
   omega
 | n+1,h=>hp.not_mul (qZ hp n (by omega)) fun d=>by
   have:=Int.le_of_dvd (by omega) d
   omega
theorem vN(m:Nat):((-1:Int) ^ m)*(-1) ^ m=1:=by
 induction m with
 | zero=>rfl
 | succ m ih=>rw[Int.pow_succ];grind
theorem Dy{p:Int}(hp:Pm p){n i:Nat}(hn:(n:Int)<=p)(hi:i<n):¬ p ∣ px (i:Int) i n:=by
 obtain⟨m,rfl⟩:∃m,n=i+1+m:=⟨n-(i+1),by omega⟩
 rw[zH];refine hp.not_mul (qZ hp i (by omega)) (hp.not_mul (fun d=>?_) (qZ hp m (by omega)));obtain⟨k,hk⟩:=d;have s:=vN m
 have:p ∣ 1:=⟨k*(-1) ^ m,by grind⟩
 have:=Int.le_of_dvd (by decide) this
 have:=hp.1
 omega
theorem Bc{p:Int}{last:Nat}{sh:Nat->Int}(h:∀k,k<=last->p ∣ sh k*fac k-1):Wgt p (last+1) fun i=>(-1) ^ (last-i)*(sh i*sh (last-i)):=fun i hi=>by
 obtain⟨m,rfl⟩:∃m,last=i+m:=⟨last-i,by omega⟩
 show p ∣ px (i:Int) i (i+m+1)*((-1) ^ (i+m-i)*(sh i*sh (i+m-i)))-1;rw[show i+m+1=i+1+m by omega,zH,show i+m-i=m by omega];obtain⟨a,ha⟩:=h i (by omega);obtain⟨b,hb⟩:=h m (by omega);have s:=vN m;refine⟨a*(sh m*fac m)+b,?_⟩;have e:fac i*((-1) ^ m*fac m)*((-1) ^ m*(sh i*sh m))=((-1) ^ m*(-1) ^ m)*((sh i*fac i)*(sh m*fac m)):=by grind
 rw[e,s]
 grind
end Mine
namespace Mine
theorem IsPoly.prod:∀{m n:Nat}{f g:Int->Int},IsPoly (m+1) f->IsPoly (n+1) g->IsPoly (m+n+1) fun x=>f x*g x
 | 0,n,f,g,⟨a,u,hu,e⟩,hg=>by
   rw[Nat.zero_add];exact(hg.mul a).congr fun x=>by rw[e x,hu x];simp
 | m+1,n,f,g,⟨a,u,hu,e⟩,hg=>by
   have ih:=IsPoly.prod hu hg;have h1:IsPoly (m+n+1+1) fun x=>x*(u x*g x):=⟨0,_,ih,fun x=>by simp⟩
   have h2:IsPoly (m+n+1+1) fun x=>a*g x:=(hg.mul a).upTo _ (by omega)
   rw[show m+1+n+1=m+n+1+1 by omega];exact(h2.add h1).congr fun x=>by rw[e x];grind
theorem IsPoly.const(c:Int)(n:Nat):IsPoly (n+1) fun _=>c:=⟨c,fun _=>0,IsPoly.zero n,fun x=>by simp⟩
theorem IsPoly.self:IsPoly 2 fun x=>x:=⟨0,fun _=>1,IsPoly.const 1 0,fun x=>by simp⟩
theorem ou(p x:Int):p ∣ x % p-x:=⟨-(x / p),by
 have:=Int.emod_add_mul_ediv x p
 rw[Int.mul_neg];omega⟩
end Mine
namespace Mine
open PySem L2
theorem gw{us:List Value}(h:us.length=1):∃a,us=[a]:=by
 cases us with
 | nil=>cases h
 | cons a r=>
   cases r with
   | nil=>exact⟨a,rfl⟩
   | cons _ _=>cases h
theorem yk{us:List Value}{n:Nat}(h:us.length=n+1):∃a r,us=a::r/\r.length=n:=by
 cases us with
 | nil=>cases h
 | cons a r=>exact⟨a,r,rfl,Nat.succ.inj h⟩
theorem fw{us:List Value}(h:us.length=2):∃a b,us=[a,b]:=by
 obtain⟨a,r,rfl,h1⟩:=yk h;obtain⟨b,rfl⟩:=gw h1;exact⟨a,b,rfl⟩
theorem nX{us:List Value}(h:us.length=3):∃a b c,us=[a,b,c]:=by
 obtain⟨a,r,rfl,h1⟩:=yk h;obtain⟨b,c,rfl⟩:=fw h1;exact⟨a,b,c,rfl⟩
theorem qQ{us:List Value}(h:us.length=4):∃a b c d,us=[a,b,c,d]:=by
 obtain⟨a,r,rfl,h1⟩:=yk h;obtain⟨b,c,d,rfl⟩:=nX h1;exact⟨a,b,c,d,rfl⟩
theorem sD{us:List Value}(h:us.length=5):∃a b c d e,us=[a,b,c,d,e]:=by
 obtain⟨a,r,rfl,h1⟩:=yk h;obtain⟨b,c,d,e,rfl⟩:=qQ h1;exact⟨a,b,c,d,e,rfl⟩
theorem len6{us:List Value}(h:us.length=6):∃a b c d e f,us=[a,b,c,d,e,f]:=by
 obtain⟨a,r,rfl,h1⟩:=yk h;obtain⟨b,c,d,e,f,rfl⟩:=sD h1;exact⟨a,b,c,d,e,f,rfl⟩
theorem len7{us:List Value}(h:us.length=7):∃a b c d e f g,us=[a,b,c,d,e,f,g]:=by
 obtain⟨a,r,rfl,h1⟩:=yk h;obtain⟨b,c,d,e,f,g,rfl⟩:=len6 h1;exact⟨a,b,c,d,e,f,g,rfl⟩
def top(i:Nat):Stmt:=PySem.Challenge.pw_asktally_k40_turns_and_refusals.main.body.getD i (.Pass ⟨0,0,0,0⟩)
abbrev wg:Stmt:=top 0
abbrev im:Stmt:=top 14
abbrev fu:Stmt:=top 15
abbrev gC:Stmt:=top 16
abbrev ie:Stmt:=top 18
abbrev gF:Stmt:=top 19
abbrev dB:Stmt:=top 20
abbrev ig:Stmt:=top 21
abbrev cx:Stmt:=top 22
abbrev dC:Stmt:=top 24
abbrev gS:Stmt:=top 25
abbrev fX:Stmt:=top 26
abbrev gG:Stmt:=top 29
abbrev fV:Stmt:=top 31
abbrev dF:Stmt:=top 32
abbrev gE:Stmt:=top 36
abbrev cZ:Stmt:=top 37
abbrev fj:Stmt:=top 38
abbrev fk:Stmt:=top 39
abbrev gx:Stmt:=top 40
abbrev jU:Stmt:=top 42
abbrev jQ:Stmt:=top 43
abbrev bw:Stmt:=top 44
abbrev iJ:Stmt:=top 45
abbrev dE:Stmt:=top 46
abbrev jS:Stmt:=top 47
abbrev ft:Stmt:=top 48
abbrev jh:Stmt:=top 49
abbrev jT:Stmt:=top 50
abbrev gB:Stmt:=top 51
abbrev iK:Stmt:=top 52
abbrev gU:Stmt:=top 53
abbrev lX:Stmt:=top 54
abbrev gz:Stmt:=top 55
abbrev jd:Stmt:=top 56
abbrev fo:Stmt:=top 57
abbrev lW:Stmt:=top 58
abbrev jP:Stmt:=top 59
abbrev jW:Stmt:=top 60
abbrev jR:Stmt:=top 61
abbrev lV:Stmt:=top 62
abbrev je:Stmt:=top 63
abbrev lY:Stmt:=top 64
abbrev ik:Stmt:=top 65
abbrev gy:Stmt:=top 66
abbrev jg:Stmt:=top 67
abbrev jf:Stmt:=top 68
abbrev fq:Stmt:=top 69
abbrev jV:Stmt:=top 70
abbrev mY:Stmt:=top 71
section
variable {P:Program} {w:World} {K:W.Frag} {mg:Str->Option Value} {base:Heap}
abbrev cF:Stmt:=top 28
abbrev uk:Stmt:=top 35
structure Bl(mg:Str->Option Value):Prop where
 len:mg "len"=none
 range:mg "range"=none
 isinstance:mg "isinstance"=none
 int:mg "int"=none
 bool:mg "bool"=none
 list:mg "list"=none
 tuple:mg "tuple"=none
 max:mg "max"=none
 min:mg "min"=none
 reversed:mg "reversed"=none
 enumerate:mg "enumerate"=none
 sum:mg "sum"=none
 all:mg "all"=none
 zip:mg "zip"=none
theorem wF(z:Int):0<=z % 2147483646+1/\z % 2147483646+1<=2147483646:=by omega
theorem eV:FnScope ["_law_script","_law_k","_law_cell","_law_own"] ["_law_script","_law_k"] (ak jU):=⟨rfl,rfl,rfl,by decide,rfl,by decide,by decide⟩
theorem xR {f:Addr} {fd:FuncData} (F:Fun K "_law_feed" "_law_feed" jU f fd) (hlen:mg "len"=none):FnOk P w K mg base CX0 1 f fd ["_law_script","_law_k"] (zj K):=by
 refine F.ok eV (fun vs H Q E h=>?_) (fun cdv A outer s H vs Q E hr h=>?_)
 . obtain⟨a,ns,k,rfl,_⟩:=h;rfl
 obtain ⟨a,ns,k,rfl,hS,h63,k0,k1,q⟩:=h;refine⟨_,(ad (au (i:=2) eV.nd rfl (Or.inl rfl) (aj aN (aj bn ae (pv 1)) ae))
  (ad (aX (av ko (pv 1) (aD az rfl hlen PySem.boot_len (aa (pv 0) ac)) (ay _)) (ag (au (i:=2) eV.nd rfl (Or.inl rfl) (aJ ix_list (pv 0) (pv 1) (fun _ _=>rfl)))) (ag (aX (av pB (aD az rfl hlen PySem.boot_len (aa (pv 0) ac)) ae (ay _)) (ag (au (i:=2) eV.nd rfl (Or.inl rfl) (aj aN (aj bn (aj aW (aJ ix_list (pv 0) (aj aW (pv 1) (aD az rfl hlen PySem.boot_len (aa (pv 0) ac))) (fun _ _=>rfl)) ae) ae) (aj bn ae (pv 1))))) aI)))
  (ad (au (i:=3) eV.nd rfl (Or.inl rfl) ae)
  (ad (aX (av CD (pv 2) (aj zT ae ae) (ay _)) (ag (au (i:=3) eV.nd rfl (Or.inl rfl) (pv 2))) aI)
  (ag (ax (bo (aa (pv 3) (aa (aj aN (aj aW (aj aN (aj bn (aj aW (pv 2) ae) ae) (aj bn ae (pv 1))) ae) ae) ac))))))))),?_⟩
 have hl:(ns.map V.int).length=ns.length:=zE0 _;have hp:(10:Int) ^ (18:Int).toNat=1000000000000000000:=by decide
 refine⟨_,rfl,_,_,rfl,rfl,.inl ⟨by decide,by decide⟩,_,_,rfl,rfl,?_⟩;refine⟨_,rfl,_,rfl,a,_,rfl,.inl hS,_,_,rfl,rfl,_,rfl,?_⟩;refine lP (fun c=>?b1) (fun c=>?b2)
 case' b1=>
  have c':k<(((ns.map V.int).length:Nat):Int):=of_decide_eq_true c;rw[hl]at c';obtain⟨v,hv⟩:=AX (ns:=ns) k0 c';refine⟨_,rfl,_,rfl,a,_,_,_,rfl,rfl,hS,hv,?_⟩
 case' b2=>
  refine⟨_,rfl,a,_,rfl,.inl hS,_,_,rfl,rfl,_,rfl,?_⟩;refine lP (fun c2=>?b3) (fun c2=>?b4)
  case' b3=>
   have c':(0:Int)<(((ns.map V.int).length:Nat):Int):=of_decide_eq_true c2;have m0:=qB0 k (b:=(((ns.map V.int).length:Nat):Int)) (by omega);have m1:=qC0 k c';obtain⟨v,hv⟩:=AX (ns:=ns) m0 (by rw[hl]at m1 ⊢;exact m1);have n0:=qB0 v (b:=2147483629) (by decide);have n1:=qC0 v (b:=2147483629) (by decide);refine⟨_,rfl,_,rfl,_,rfl,a,_,rfl,.inl hS,_,_,rfl,rfl,c',a,_,_,_,rfl,rfl,hS,hv,_,_,rfl,rfl,(by show(0:Int)<_;decide),_,_,rfl,rfl,.inr ⟨by decide,by decide⟩,_,rfl,_,_,rfl,rfl,.inl ⟨by decide,by decide⟩,_,_,rfl,rfl,?_⟩
 all_goals
  refine⟨_,rfl,_,_,rfl,rfl,⟨by decide,by decide,by decide⟩,_,_,rfl,rfl,_,rfl,?_⟩;refine lP (fun c3=>?_) (fun c3=>?_)
  . have c4:=of_decide_eq_true c3;rw[hp]at c4;refine⟨_,rfl,_,rfl,_,rfl,_,_,rfl,rfl,(by show(0:Int)<_;decide),_,_,rfl,rfl,.inr ⟨by decide,by decide⟩,_,rfl,_,_,rfl,rfl,.inl ⟨by decide,by decide⟩,_,_,rfl,rfl,_,_,rfl,rfl,(by show(0:Int)<_;decide),_,_,rfl,rfl,(by show 2<=sizeLine;decide),fun p hp=>?_⟩;refine q p _ hp (zB0 hp _) ⟨_,_,ah,Int.le_trans (by decide) c4,(wF _).1,(wF _).2⟩
  . refine⟨_,rfl,_,rfl,_,_,rfl,rfl,(by show(0:Int)<_;decide),_,_,rfl,rfl,.inr ⟨by decide,by decide⟩,_,rfl,_,_,rfl,rfl,.inl ⟨by decide,by decide⟩,_,_,rfl,rfl,_,_,rfl,rfl,(by show(0:Int)<_;decide),_,_,rfl,rfl,(by show 2<=sizeLine;decide),fun p hp=>?_⟩;refine q p _ hp (zB0 hp _) ⟨_,_,ah,Int.le_refl 0,(wF _).1,(wF _).2⟩
theorem lm:FnScope ["_law_feed_here","_law_many","_law_digit","_law_one"] ["_law_feed_here","_law_many"] (ak jQ):=⟨rfl,rfl,rfl,by decide,rfl,by decide,by decide⟩
theorem xN {f:Addr} {fd:FuncData} (F:Fun K "_law_take" "_law_take" jQ f fd):FnOk P w K mg base CX0 1 f fd ["_law_feed_here","_law_many"] dX:=by
 refine F.ok lm (fun vs H Q E h=>?_) (fun cdv A outer s H vs Q E hr h=>?_)
 . obtain⟨f,m,rfl,_⟩:=h;rfl
 obtain ⟨f,m,rfl,⟨own,st,hf,o0,s0,s1⟩,m0,m1,q⟩:=h;refine⟨_,(ad (aX (av pB (aJ ix_list (pv 0) ae (fun _ _=>rfl)) ae (ay _)) (ad (au (i:=2) lm.nd rfl (Or.inl rfl) (aj aW (aJ ix_list (pv 0) ae (fun _ _=>rfl)) (pv 1)))
  (ad (gN (aj zV (aJ ix_list (pv 0) ae (fun _ _=>rfl)) (pv 1)) (kO (pv 0) ae gQ))
  (ag (ax (pv 2))))) aI)
  (ad (au (i:=3) lm.nd rfl (Or.inl rfl) (aj aW (aj bn (aJ ix_list (pv 0) ae (fun _ _=>rfl)) ae) ae))
  (ad (gN (aj aN (aj aW (aj aN (aj bn (pv 3) ae) ae) ae) ae) (kO (pv 0) ae gQ))
  (ag (ax (aj aW (aj qG (aj aN (aj bn (pv 3) ae) (aJ ix_list (pv 0) ae (fun _ _=>rfl))) ae) (pv 1))))))),?_⟩
 refine⟨_,rfl,f,_,0,_,rfl,rfl,zG0 hf,rfl,_,_,rfl,rfl,_,rfl,?_⟩;refine lP (fun c=>?_) (fun c=>?_)
 . refine⟨_,rfl,f,_,0,_,rfl,rfl,zG0 hf,rfl,_,rfl,_,_,rfl,rfl,m0,?_⟩;refine⟨_,rfl,f,_,0,_,rfl,rfl,zG0 hf,rfl,_,rfl,_,_,rfl,rfl,⟨m0,m1⟩,_,rfl,f,_,0,0,rfl,rfl,hf,rfl,?_⟩;refine⟨_,rfl,?_⟩;exact q _ _ (qB0 _ (by omega)) (qC0 _ m0) ⟨_,_,ah,Int.ediv_nonneg o0 (by omega),s0,s1⟩ (SameBut.upd _)
 . have a0:=qB0 (st*69621) (b:=2147483647) (by decide);have a1:=qC0 (st*69621) (b:=2147483647) (by decide);refine⟨_,rfl,f,_,1,_,rfl,rfl,zG0 hf,rfl,_,_,rfl,rfl,.inr ⟨by decide,by decide⟩,_,_,rfl,rfl,(by show(0:Int)<_;decide),?_⟩;refine⟨_,rfl,_,_,rfl,rfl,.inr ⟨by decide,by decide⟩,_,_,rfl,rfl,_,_,rfl,rfl,(by show(0:Int)<_;decide),_,_,rfl,rfl,_,rfl,f,_,1,1,rfl,rfl,hf,rfl,?_⟩;have b0:=qB0 (st*69621 % 2147483647*48271+30103) (b:=2147483646) (by decide);have b1:=qC0 (st*69621 % 2147483647*48271+30103) (b:=2147483646) (by decide);refine⟨_,rfl,_,_,rfl,rfl,.inr ⟨by decide,by decide⟩,_,rfl,f,_,1,_,rfl,rfl,zG0 ah,rfl,_,_,rfl,rfl,_,_,rfl,rfl,⟨by decide,by decide⟩,_,rfl,_,_,rfl,rfl,m0,?_⟩;exact q _ _ (qB0 _ (by omega)) (qC0 _ m0) ⟨_,_,ah,o0,by omega,by omega⟩ (SameBut.upd _)
theorem fJ:FnScope ["_law_feed_here","_law_names_here","_law_room","_law_deep","_law_form","_law_more","_law_one","_law_word"] ["_law_feed_here","_law_names_here","_law_room","_law_deep"] (ak iJ):=⟨rfl,rfl,rfl,by decide,rfl,by decide,by decide⟩
theorem lf{a X Y B:Prop}[Decidable a](x:X)(h:¬ a->X->B):if decide a=true then(if true=true then X else Y)else B:=by
 by_cases c:a
 . rw[decide_eq_true c];exact fE (fE x)
 . rw[decide_eq_false c];exact eJ (h c x)
theorem wZ {n:Nat} {f:Addr} {fd:FuncData} (F:Fun K "_law_tree" "_law_tree" iJ f fd) (hlen:mg "len"=none) (aE:Cal P w K mg base 1 "_law_take" ["_law_feed_here","_law_many"] dX)
 (eM:Cal P w K mg base (n+2) "_law_tree" ["_law_feed_here","_law_names_here","_law_room","_law_deep"] (kG n)):FnOk P w K mg base CX0 (n+3) f fd ["_law_feed_here","_law_names_here","_law_room","_law_deep"] (kG (n+1)):=by
 refine F.ok fJ (fun vs H Q E h=>?_) (fun cdv A outer s H vs Q E hr h=>?_)
 . obtain⟨f,a,room,deep,ns,rfl,_⟩:=h;rfl
 obtain ⟨f,a,room,deep,ns,rfl,hF,hN,nl,r1,r100,d1,dn,q⟩:=h;refine⟨_,(ad (au (i:=4) fJ.nd rfl (Or.inl rfl) (al aE hr (Nat.succ_le_succ (zN0 _)) rfl (aa (pv 0) (aa ae ac))))
  (ad (aX (PW.pt (lq (av ko (pv 2) ae (ay _)) (lq (av ko (pv 3) ae (ay _)) (jF (av bA (pv 4) ae (ay _)))))) (ad (aX (PW.pt (lq (av bA (aj aW (pv 4) ae) ae (ay _)) (jF (av bA (aD az rfl hlen PySem.boot_len (aa (pv 1) ac)) ae (ay _))))) (ag (ax (aJ ix_list (bo (aa (aY (aa aG ac)) (aa (aY (aa aG ac)) ac))) (al aE hr (Nat.succ_le_succ (zN0 _)) rfl (aa (pv 0) (aa ae ac))) (fun _ _=>rfl)))) aI)
   (ag (ax (aY (aa aG (aa (aJ (ix_list.or aZ) (pv 1) (al aE hr (Nat.succ_le_succ (zN0 _)) rfl (aa (pv 0) (aa (aD az rfl hlen PySem.boot_len (aa (pv 1) ac)) ac))) (fun _ _=>rfl)) ac)))))) aI)
  (ad (aX (PW.pt (lq (av ko (pv 2) ae (ay _)) (jF (av bA (pv 4) ae (ay _))))) (ag (ax (aY (aa aG (aa (al eM hr (zI0 _) rfl (aa (pv 0) (aa (pv 1) (aa (aj bd (pv 2) ae) (aa (aj bd (pv 3) ae) ac))))) ac))))) aI)
  (ad (au (i:=5) fJ.nd rfl (Or.inl rfl) (aj aN ae (al aE hr (Nat.succ_le_succ (zN0 _)) rfl (aa (pv 0) (aa (aj bd (pv 2) ae) ac)))))
  (ad (au (i:=6) fJ.nd rfl (Or.inl rfl) (al eM hr (zI0 _) rfl (aa (pv 0) (aa (pv 1) (aa (pv 5) (aa (aj bd (pv 3) ae) ac))))))
  (ad (au (i:=7) fJ.nd rfl (Or.inl rfl) (aJ ix_list (bo (aa aG (aa aG (aa aG (aa aG ac))))) (aj aW (pv 4) ae) (fun _ _=>rfl)))
  (ag (ax (aY (aa (pv 7) (aa (pv 6) (aa (al eM hr (zI0 _) rfl (aa (pv 0) (aa (pv 1) (aa (aj bd (aj bd (pv 2) ae) (pv 5)) (aa (aj bd (pv 3) ae) ac))))) ac)))))))))))),?_⟩
 refine⟨_,rfl,f,10,rfl,hF,by decide,by decide,fun fm H1 f0 f10 F1 S1=>?_⟩;have N1:=hN.feed hF S1;refine⟨_,rfl,_,_,rfl,rfl,_,rfl,?_⟩;refine lf ?leaf fun c1 hX=>?_
 case leaf=>
  refine⟨_,rfl,_,_,rfl,rfl,(by show(0:Int)<_;decide),rfl,_,rfl,?_⟩;refine lf ?yn fun c6 hY=>?_
  case yn=>
   refine⟨(by show 1<=sizeLine;decide),fun p1 h1=>?_⟩;refine⟨(by show 1<=sizeLine;decide),fun p2 h2=>?_⟩;refine⟨(by show 2<=sizeLine;decide),fun l hl=>?_⟩;have ga:=zB0 h1 (.tup [.str "yes"]);have gb:=zB0 h2 (.tup [.str "no"]);have gc:=zB0 hl (.lst [.ref p1,.ref p2]);have G:=ga.trans (gb.trans gc);have nlf:=(F1.same (ga.trans gb)).ne hl;refine⟨_,rfl,f,2,rfl,F1.same G,by decide,by decide,fun d H2 d0 d2 F2 S2=>?_⟩;have y2:H2 p1=some (.tup [.str "yes"]):=gi (F1.same G) S2 _ _ (gc _ _ (gb _ _ ah));have n2:H2 p2=some (.tup [.str "no"]):=gi (F1.same G) S2 _ _ (gc _ _ ah);have l2:=S2 l _ nlf ah
   have:d=0∨d=1:=by omega
   rcases this with rfl | rfl
   . exact⟨l,_,0,_,rfl,rfl,zG0 l2,rfl,q (.ref p1) .yes H2 F2 (S1.trans ((zJ0 G).trans S2)) (.yes y2) trivial (show(1:Int)<=room from r1) (show(1:Int)<=deep from d1)⟩
   . exact⟨l,_,1,_,rfl,rfl,zG0 l2,rfl,q (.ref p2) .no H2 F2 (S1.trans ((zJ0 G).trans S2)) (.no n2) trivial (show(1:Int)<=room from r1) (show(1:Int)<=deep from d1)⟩
  refine⟨_,rfl,a,_,rfl,N1.seq,rfl,_,rfl,?_⟩
  by_cases c7:V.int ((ns.map V.str).length:Int)=V.int 0
  . exact cg c7 hY
  refine ba c7 ?_;have nz:0<ns.length:=by
   have z:¬ ((ns.map V.str).length:Int)=0:=fun z=>c7 (congrArg V.int z)
   rw[zE0]at z;omega
  refine⟨_,rfl,_,rfl,_,rfl,a,_,rfl,N1.seq,f,_,rfl,F1,(show(0:Int)<((ns.map V.str).length:Int) by rw[zE0];omega),by rw[zE0];omega,fun d H2 d0 d9 F2 S2=>?_⟩;obtain⟨v,hv,vm⟩:=pX (l:=ns.map V.str) (i:=d) d0 d9;obtain⟨x,hx,rfl⟩:=List.mem_map.mp vm;refine(N1.feed F1 S2).ix hv ?_;refine⟨(by show 2<=sizeLine;decide),fun p hp=>?_⟩;have G:=zB0 hp (.tup [.str "is",.str x]);exact q (.ref p) (.is x) _ (F2.same G) (S1.trans (S2.trans (zJ0 G))) (.is ah) hx (show(1:Int)<=room from r1) (show(1:Int)<=deep from d1)
 refine⟨_,rfl,_,_,rfl,rfl,_,rfl,?_⟩
 by_cases c2:deep<2
 . exact cg c2 (fE hX)
 refine ba c2 ?_;refine⟨_,rfl,rfl,_,rfl,?_⟩
 by_cases c3:V.int fm=V.int 9
 . exact cg c3 hX
 refine ba c3 ?_;refine⟨_,rfl,_,_,rfl,rfl,_,rfl,?_⟩;have d2:2<=deep:=by omega
 have dd:1<=deep-1:=by omega
 have ddn:deep-1+1<=(n:Int)+1:=by omega
 refine lf ?nt fun c4 hN=>?_
 case nt=>
  refine⟨_,rfl,_,rfl,_,rfl,_,_,rfl,rfl,_,rfl,_,_,rfl,rfl,f,a,_,_,ns,rfl,F1,N1,nl,(show 1<=room-1 by omega),by omega,dd,ddn,fun v1 t1 H3 F3 S3 T1 o1 z1 p1=>?_⟩;refine⟨(by show 2<=sizeLine;decide),fun p hp=>?_⟩;have G5:=zB0 hp (.tup [.str "not",v1]);refine q (.ref p) (.not t1) _ (F3.same G5) (S1.trans (S3.trans (zJ0 G5))) (.not ah (T1.mono (aB G5))) o1 ?_ ?_
  . show((t1.size+1:Nat):Int)<=room;omega
  . show((t1.depth+1:Nat):Int)<=deep;omega
 refine⟨_,rfl,rfl,_,rfl,?_⟩
 by_cases c5:V.int fm=V.int 8
 . exact cg c5 hN
 refine ba c5 ?_;refine⟨_,rfl,_,rfl,_,_,rfl,rfl,f,_,rfl,F1,(show(0:Int)<room-2 by omega),(show room-2<2 ^ 63 by omega),fun e H2 e0 e1 F2 S2=>?_⟩;refine⟨_,_,rfl,rfl,?_⟩;have N2:=N1.feed F1 S2;refine⟨_,rfl,_,rfl,_,rfl,_,rfl,_,_,rfl,rfl,f,a,_,_,ns,rfl,F2,N2,nl,by omega,by omega,dd,ddn,fun v1 t1 H3 F3 S3 T1 o1 z1 p1=>?_⟩;have N3:=N2.feed F2 S3;refine⟨(by show 4<=sizeLine;decide),fun l hl=>?_⟩;obtain⟨wd,hw,wm⟩:=pX (l:=joinW.map V.str) (i:=fm % 4) (by omega) (by
  have:(joinW.map V.str).length=4:=by rfl
  omega)
 obtain⟨x,hx,rfl⟩:=List.mem_map.mp wm;refine⟨_,rfl,_,_,rfl,rfl,(by show(0:Int)<_;decide),l,_,_,_,rfl,rfl,zG0 ah,hw,?_⟩;have G:=zB0 hl (.lst [.str "and",.str "or",.str "odd",.str "same"]);refine⟨_,rfl,_,rfl,_,rfl,_,rfl,_,rfl,_,_,rfl,rfl,_,rfl,_,_,rfl,rfl,_,rfl,_,_,rfl,rfl,f,a,_,_,ns,rfl,F3.same G,N3.same G,nl,(show 1<=room-1-(1+e) by omega),by omega,dd,ddn,fun v2 t2 H4 F4 S4 T2 o2 z2 p2=>?_⟩;refine⟨(by show 3<=sizeLine;decide),fun p hp=>?_⟩;have G5:=zB0 hp (.tup [.str x,v1,v2]);have T1':TreeAt H4 v1 t1:=(T1.mono (aB G)).mono (gi (F3.same G) S4);refine q (.ref p) (.bin x t1 t2) _ (F4.same G5) (S1.trans (S2.trans (S3.trans ((zJ0 G).trans (S4.trans (zJ0 G5)))))) (.bin ah (T1'.mono (aB G5)) (T2.mono (aB G5))) ⟨hx,o1,o2⟩ ?_ ?_
 . show((t1.size+t2.size+1:Nat):Int)<=room;omega
 . show((max t1.depth t2.depth+1:Nat):Int)<=deep;omega
theorem wY {f:Addr} {fd:FuncData}:FnOk P w K mg base CX0 2 f fd ["_law_feed_here","_law_names_here","_law_room","_law_deep"] (kG 0):=by
 have no:∀vs H Q E,¬ kG 0 vs H Q E:=fun vs H Q E h=>by
  obtain⟨f,a,room,deep,ns,_,_,_,_,_,_,h1,h2,_⟩:=h;omega
 exact⟨fun vs H Q E h=>absurd h (no vs H Q E),fun A outer s H args us vs Q E _ _ _ _ h=>absurd h (no vs H Q E)⟩
theorem pC {f:Addr} {fd:FuncData} (F:Fun K "_law_tree" "_law_tree" iJ f fd) (hlen:mg "len"=none) (m:mg "_law_tree"=some (.ref f)) (aE:Cal P w K mg base 1 "_law_take" ["_law_feed_here","_law_many"] dX) :
 ∀n:Nat,FnOk P w K mg base CX0 (n+2) f fd ["_law_feed_here","_law_names_here","_law_room","_law_deep"] (kG n)
 | 0=>wY
 | n+1=>wZ F hlen aE (Cal.of F (pC F hlen m aE n) m (fun _ _ _ _ _ _ us hl=>by obtain⟨u0,u1,u2,u3,rfl⟩:=qQ hl;rfl))
def DL:Stmt->List Stmt
 | .If _ b _ _=>b
 | _=>[]
def DK:Stmt->Expr
 | .If c _ _ _=>c
 | _=>.Constant .none 0 ⟨0,0,0,0⟩
def yS:Stmt->Expr
 | .Assign _ v _=>v
 | .Return (some v) _=>v
 | _=>.Constant .none 0 ⟨0,0,0,0⟩
def vg:Expr->List Expr
 | .List es _=>es
 | .BinOp _ _ (.List es _) _=>es
 | .Subscript (.List es _) _ _=>es
 | _=>[]
abbrev stm(s:Stmt)(i:Nat):Stmt:=(bP s).getD i (.Pass ⟨0,0,0,0⟩)
abbrev Bo(s:Stmt)(i j:Nat):Stmt:=(DL (stm s i)).getD j (.Pass ⟨0,0,0,0⟩)
def wordsA:List Str:=["is","set","say","if","go","end","num","box","op","field","holds","claims"]
def wordsB:List Str:=["nota","nob","yesx","andy","ors","oddly"]
def wordsC:List Str:=["samey","rounds","dues","coins","truex","asks"]
@[irreducible] def uP:List Expr:=vg (yS (Bo bw 6 0))
@[irreducible] def uO:List Expr:=vg (yS (Bo bw 6 1))
@[irreducible] def uN:List Expr:=vg (yS (Bo bw 6 2))
theorem Ah:Consts uP wordsA:=by
 unfold uP;exact .cons (.cons (.cons (.cons (.cons (.cons (.cons (.cons (.cons (.cons (.cons (.cons .nil)))))))))))
theorem Ag:Consts uO wordsB:=by
 unfold uO;exact .cons (.cons (.cons (.cons (.cons (.cons .nil)))))
theorem Af:Consts uN wordsC:=by
 unfold uN;exact .cons (.cons (.cons (.cons (.cons (.cons .nil)))))
theorem uM:∃p1 p2 p3 p4 p5 p6 p7 p8 p9 q1 q2 q3 q4 q5,bP bw=[stm bw 0,stm bw 1,stm bw 2,stm bw 3,stm bw 4,stm bw 5,
 .If (DK (stm bw 6)) [.Assign [.Name "_law_words" p1] (.List uP p2) p3,.Assign [.Name "_law_words" p4] (.BinOp (.Name "_law_words" p5) .Add (.List uO p6) p7) p8,.Assign [.Name "_law_words" p9] (.BinOp (.Name "_law_words" q1) .Add (.List uN q2) q3) q4,Bo bw 6 3] [] q5,stm bw 7]:=
 ⟨_,_,_,_,_,_,_,_,_,_,_,_,_,_,by rfl'⟩
def LTR:Str:="bcdfghjklmnpqrstvwxz"
theorem DE:∀c∈LTR.cps.toList,c≠97:=by decide
theorem uV:∀c∈LTR.cps.toList,97<=c/\c<=122:=by decide
theorem yN:∀x∈(wordsA++wordsB)++wordsC,x.length<=20/\(∀c∈x.cps.toList,97<=c/\c<=122)/\x≠"aa":=by decide
def rF:Sp:=fun vs H Q _=>∃(f:Addr)(m:Int),vs=[.ref f,.int m]/\FeedAt H f/\0<=m/\m<=6/\∀(l:Addr)(ns:List Str)(H':Hp),H l=none->l≠f->H' l=some (.lst (ns.map V.str))->ns.length=m.toNat->(∀x∈ns,vC x)->ns.Nodup->FeedAt H' f->SameBut f H H'->Q (.ref l) H'
theorem wU:∀x∈(wordsA++wordsB)++wordsC,∃c∈x.cps.toList,c∉LTR.cps.toList:=by decide
theorem Ca:∀a b:Fin 20,LTR.cps.toList[a.val]?=LTR.cps.toList[b.val]?->a=b:=by decide
theorem Ae{ns:List Str}{t:Nat}{u:Int}(u0:0<=u)(u20:u<20)(hl:ns.length<=6)(h:∀(k:Nat) x,ns[k]?=some x->x.cps.toList[t]?=LTR.cps.toList[((u+7*(k:Int)) % 20).toNat]?):ns.Nodup:=by
 refine List.pairwise_iff_getElem.mpr fun i j hi hj ij e=>?_
 have h1:=h i _ (zU0 hi);have h2:=h j _ (zU0 hj);rw[e]at h1;have h3:=h1.symm.trans h2;have h4:=Ca ⟨((u+7*(i:Int)) % 20).toNat,by omega⟩ ⟨((u+7*(j:Int)) % 20).toNat,by omega⟩ h3;have h5:=congrArg Fin.val h4;simp only at h5;omega
theorem DD{ns:List Str}{x:Str}{j:Nat}(h:ns.Nodup)(hx:x∉ns):(ns.set j x).Nodup:=by
 refine List.pairwise_iff_getElem.mpr fun a b ha hb ab=>?_
 rw[List.length_set]at ha hb;rw[List.getElem_set,List.getElem_set]
 split
 . split
   . omega
   . intro e;exact hx (e▸qR0 hb)
 . split
   . intro e;exact hx (e▸qR0 ha)
   . exact List.pairwise_iff_getElem.mp h a b ha hb ab
theorem Eg{α:Type}{l:List α}{i:Int}{v:α}(h0:0<=i)(h:atI l i=some v):l[i.toNat]?=some v:=by
 have ek:((i.toNat:Nat):Int)=i:=by omega
 by_cases c:i.toNat<l.length
 . have q:atI l ((i.toNat:Nat):Int)=some l[i.toNat]:=aO (zU0 c);rw[ek,h]at q;rw[zU0 c];exact q.symm
 . exfalso
   unfold atI ixN at h;rw[zF0 h0,zD0 (by omega)]at h;cases h
theorem zb{zs:List Str}(h:∀z∈zs,z.length=1/\∀c∈z.cps.toList,c∈LTR.cps.toList):(zs.map (·.length)).sum=zs.length:=by
 induction zs with
 | nil=>rfl
 | cons a r ih=>
   rw[qF0,List.sum_cons,ih fun z hz=>h z (qK0 _ hz),(h a qL0).1,zV0];omega
theorem bu:FnScope ["_law_feed_here","_law_many","_law_letters","_law_common","_law_at","_law_first","_law_found","_law_k","_law_tail","_law_sign","_law_words"] ["_law_feed_here","_law_many"] (ak bw):=⟨rfl,rfl,rfl,by decide,rfl,by decide,by decide⟩
theorem ky{H:Hp}{f p:Addr}{o:HO}(F:FeedAt H f)(h:p≠f):FeedAt (upd H p o) f:=by
 obtain⟨x,t,e,r⟩:=F;exact⟨x,t,by rw[aq (Ne.symm h)];exact e,r⟩
theorem uE {f:Addr} {fd:FuncData} (F:Fun K "_law_names" "_law_names" bw f fd) (hrange:mg "range"=none) (aE:Cal P w K mg base 1 "_law_take" ["_law_feed_here","_law_many"] dX):FnOk P w K mg base CX0 2 f fd ["_law_feed_here","_law_many"] rF:=by
 refine F.ok bu (fun vs H Q E h=>?_) (fun cdv A outer s H vs Q E hr h=>?_)
 . obtain⟨f,m,rfl,_⟩:=h;rfl
 obtain ⟨f,m,rfl,hF,m0,m6,q⟩:=h;obtain⟨p1,p2,p3,p4,p5,p6,p7,p8,p9,q1,q2,q3,q4,q5,ebody⟩:=uM;rw[ebody];refine⟨_,(ad (au (i:=2) bu.nd rfl (Or.inr rfl) aG)
  (ad (au (i:=3) bu.nd rfl (Or.inl rfl) (nJ PySem.F.plainAttrs_str PySem.F.slot_str_join PySem.F.type_str_join BW aG (aa (cz (N:=["_law_letters","_law_feed_here"]) (ix:=[2,0]) rfl
   (CompScope.two (by rfl') (by decide) rfl (by decide) rfl (by decide) (by first | exact Or.inl rfl | exact Or.inr rfl) (by rfl') (by rfl') (by rfl') (by rfl') rfl rfl (by rfl') rfl rfl) rfl
   (bY rfl hrange (aa ae ac))
   (fun _ _ _=>bZ (aJ Aq (pv 1) (al aE hr (by decide) rfl (aa (pv 2) (aa ae ac))) (fun _ _=>rfl)))) ac)))
  (ad (au (i:=4) bu.nd rfl (Or.inl rfl) (al aE hr (by decide) rfl (aa (pv 0) (aa ae ac))))
  (ad (au (i:=5) bu.nd rfl (Or.inl rfl) (al aE hr (by decide) rfl (aa (pv 0) (aa ae ac))))
  (ad (au (i:=6) bu.nd rfl (Or.inl rfl) (bo ac))
  (ad (cD PassesOwn.never rfl (bY rfl hrange (aa (pv 1) ac)) (aQ (i:=7) bu.nd rfl (Or.inl rfl)) (ad (au (i:=8) bu.nd rfl (Or.inl rfl) (aj aW (al aE hr (by decide) rfl (aa (pv 0) (aa (aj bd ae (pv 4)) ac))) ae))
   (ad (au (i:=9) bu.nd rfl (Or.inl rfl) (aJ Aq (pv 2) (aj aW (aj aN (pv 5) (aj bn ae (pv 7))) ae) (fun _ _=>rfl)))
   (ag (bV (nJ PySem.F.plainAttrs_list PySem.F.slot_list_append PySem.F.type_list_append gY (pv 6) (aa (aj nL (aj nL (dH zu (pv 3) gH (eQ (pv 4))) (pv 9)) (dH zu (pv 3) (eQ (pv 4)) (eQ (aj aN (pv 4) (pv 8))))) ac)))))))
  (ad (aX (PW.pt (kM (av pB (pv 1) ae (ay _)) (ke (av bA (al aE hr (by decide) rfl (aa (pv 0) (aa ae ac))) ae (ay _))))) (ad (au (i:=10) bu.nd rfl (Or.inl rfl) (bo (jr Ah)))
   (ad (au (i:=10) bu.nd rfl (Or.inl rfl) (aj dI (pv 10) (bo (jr Ag))))
   (ad (au (i:=10) bu.nd rfl (Or.inl rfl) (aj dI (pv 10) (bo (jr Af))))
   (ag (gN (aJ ix_list (pv 10) (al aE hr (by decide) rfl (aa (pv 0) (aa ae ac))) (fun _ _=>rfl)) (kO (pv 6) (al aE hr (by decide) rfl (aa (pv 0) (aa (pv 1) ac))) gQ)))))) aI)
  (ag (ax (pv 6)))))))))),?_⟩
 refine⟨rfl,5,rfl,by decide,by decide,fun D hD=>?_⟩;have Df:=hF.ne hD;have L20:LTR.cps.toList.length=20:=by decide
 refine cS (fun i H'=>∃zs:List Str,H' D=some (.lst (zs.map V.str))/\zs.length=i/\(∀z∈zs,z.length=1/\∀c∈z.cps.toList,c∈LTR.cps.toList)/\FeedAt H' f/\SameBut f H H') ⟨[],by rw[ah];rfl,rfl,by simp,hF.same (zB0 hD _),zJ0 (zB0 hD _)⟩ ?_ ?_
 . rintro i H3 hi ⟨zs,hl,zl,z1,F3,S3⟩;have i5:i<5:=hi;refine⟨_,rfl,_,rfl,f,20,rfl,F3,by decide,by decide,fun d H4 d0 d26 F4 S4=>?_⟩;obtain⟨c,hc,hm⟩:=pX (l:=LTR.cps.toList) (i:=d) d0 (by rw[L20];exact d26);have hD4:H4 D=some (.lst (zs.map V.str)):=S4 D _ Df hl;refine⟨_,d,c,rfl,rfl,cL (by decide),hc,_,hD4,?_,Nx.of hi ⟨zs++[⟨#[c]⟩],?_,?_,?_,ky F4 Df,?_⟩⟩
   . rw[zE0,zl];exact aK (Nat.le_of_lt (Nat.lt_trans i5 (by decide)))
   . rw[ah,zK0];rfl
   . rw[zR0,qT0,zl]
   . intro z hz;rcases qD0 hz with h | h
     . exact z1 z h
     . rw [zQ0 h];refine⟨rfl,fun c' hc'=>?_⟩
       have:c'=c:=by simpa using hc'
       subst this;exact hm
   . intro b o hb e;rw[aq (ai e hD)];exact S4 b o hb (S3 b o hb e)
 rintro H3 ⟨zs,hl,zl,z1,F3,S3⟩;have sl:=zb z1;have zl5:zs.length=5:=zl;refine⟨_,D,zs,rfl,rfl,zG0 hl,(by decide),by omega,?_⟩;have jl:(Txt.join "" zs).length=5:=by
  have:=size_glued "" zs
  have e0:(("":Str)).length=0:=by decide
  rw[e0,Nat.mul_zero]at this;show(Builtin.Str.glued "" zs).length=5;omega
 have jc:∀c∈(Txt.join "" zs).cps.toList,c∈LTR.cps.toList:=fun c hc=>by
  obtain⟨z,hz,h⟩:=yh hc;exact(z1 z hz).2 c h
 generalize Txt.join "" zs=cm at jl jc;refine⟨_,rfl,f,6,rfl,F3,by decide,by decide,fun t H4 t0 t6 F4 S4=>?_⟩;refine⟨_,rfl,f,20,rfl,F4,by decide,by decide,fun u H5 u0 u20 F5 S5=>?_⟩;refine⟨(by show 0<=sizeLine;decide),fun L hL=>?_⟩;have S05:SameBut f H H5:=S3.trans (S4.trans S5);have Lf:=F5.ne hL;have L0:H L=none:=by
  cases e:H L with
  | none=>rfl
  | some o=>rw[S05 L o Lf e]at hL;cases hL
 refine ⟨_,rfl,m,rfl,by omega,by omega,fO (fun i σ H'=>∃(x7 x8 x9:Option V)(ns:List Str),σ=[some (.ref f),some (.int m),some (.str LTR),some (.str cm),some (.int t),some (.int u),some (.ref L),x7,x8,x9,none]/\H' L=some (.lst (ns.map V.str))/\ns.length=i/\(∀x∈ns,vC x)/\(∀x∈ns,∀c∈x.cps.toList,c∈LTR.cps.toList)/\(∀(k:Nat) x,ns[k]?=some x->x.cps.toList[t.toNat]?=LTR.cps.toList[((u+7*(k:Int)) % 20).toNat]?)/\FeedAt H' f/\SameBut f H H')
  ⟨_,_,_,[],rfl,by rw[ah];rfl,rfl,by simp,by simp,by simp,F5.same (zB0 hL _),S05.trans (zJ0 (zB0 hL _))⟩ ?_ ?_⟩
 . rintro i σ H6 hi ⟨x7,x8,x9,ns,rfl,hns,nl,nok,nlt,nat,F6,S6⟩;refine⟨_,rfl,_,rfl,_,_,rfl,rfl,f,_,rfl,F6,(Int.sub_pos_of_lt t6),(Int.lt_of_le_of_lt (Int.sub_le_self 6 t0) (by decide)),fun d H7 d0 d1 F7 S7=>?_⟩;refine⟨_,_,rfl,rfl,(by show(0:Int)<_;decide),?_⟩;obtain⟨c,hc,hm⟩:=pX (l:=LTR.cps.toList) (i:=(u+7*(0+(i:Int))) % 20) (qB0 _ (by decide)) (by rw[L20];exact qC0 _ (by decide));refine⟨_,rfl,_,rfl,_,rfl,_,_,rfl,rfl,?_,_,_,rfl,rfl,_,_,rfl,rfl,(by show(0:Int)<_;decide),_,_,c,rfl,rfl,cL (by decide),hc,?_⟩
   . exact .inl ⟨by decide,by decide⟩
   have hL7:=S7 L _ Lf hns;have z1:(Txt.slice cm none (some t)).length<=cm.length:=Txt.slice_le cm none (some t);have z2:(Txt.slice cm (some t) (some (t+d % 3))).length<=cm.length:=Txt.slice_le cm _ _;have z3:((⟨#[c]⟩:Str)).length=1:=rfl;refine⟨_,rfl,.inl ⟨rfl,_,zG0 hL7⟩,?_⟩;refine⟨_,rfl,_,rfl,_,rfl,_,rfl,cL (by rw[jl];decide),_,rfl,_,_,rfl,rfl,cL (by rw[z3];omega),?_⟩;refine⟨_,rfl,_,rfl,_,rfl,_,rfl,_,rfl,_,_,rfl,rfl,_,rfl,_,rfl,cL (by rw[jl];decide),_,_,rfl,rfl,cL (by rw[Str.length_append,z3];omega),?_⟩;refine⟨L,_,_,rfl,rfl,hL7,?_,?_⟩
   . rw[zE0];exact aK (by omega)
   refine⟨_,_,_,ns++[(Txt.slice cm none (some t)++⟨#[c]⟩)++Txt.slice cm (some t) (some (t+d % 3))],rfl,?_,?_,?_,?_,?_,ky F7 Lf,?_⟩
   . rw[ah,zK0];rfl
   . rw[zR0,qT0,nl]
   . intro x hx;rcases qD0 hx with h | h
     . exact nok x h
     . rw [zQ0 h];refine⟨?_,fun c' hc'=>?_,fun ea=>?_⟩
       . rw[Str.length_append,Str.length_append,z3];omega
       rotate_left
       . have cm1:c∈(((Txt.slice cm none (some t)++⟨#[c]⟩)++Txt.slice cm (some t) (some (t+d % 3)):Str)).cps.toList:=by
          rw[Str.cps_append,Str.cps_append]
          simp
         rw[ea]at cm1;exact DE c hm ((by decide:∀c∈(("aa":Str)).cps.toList,c=97) c cm1)
       . rcases mem_append hc' with h | h
         . rcases mem_append h with h | h
           . exact uV _ (jc _ (ju h))
           . have:c'=c:=by simpa using h
             subst this;exact uV _ hm
         . exact uV _ (jc _ (ju h))
   . intro x hx c' hc';rcases qD0 hx with h | h
     . exact nlt x h c' hc'
     . rw [zQ0 h]at hc';rcases mem_append hc' with h | h
       . rcases mem_append h with h | h
         . exact jc _ (ju h)
         . have:c'=c:=by simpa using h
           subst this;exact hm
       . exact jc _ (ju h)
   . intro k x hx
     by_cases ck:k<ns.length
     . rw[List.getElem?_append_left ck]at hx;exact nat k x hx
     . have kl:k<(ns++[(Txt.slice cm none (some t)++⟨#[c]⟩)++Txt.slice cm (some t) (some (t+d % 3))]).length:=(zT0 hx).1;rw[zR0,qT0]at kl;have ek:k=i:=by omega
       subst ek;rw[List.getElem?_append_right (by omega),nl,Nat.sub_self]at hx;have ex:(Txt.slice cm none (some t)++⟨#[c]⟩)++Txt.slice cm (some t) (some (t+d % 3))=x:=zO0 hx;rw[←ex];have cl:cm.cps.toList.length=5:=jl;have es:Txt.slice cm none (some t)=⟨((cm.cps.toList.drop 0).take (t-0).toNat).toArray⟩:=StrLaws.sliceText_to ⟨t0,by omega⟩;have el:(Txt.slice cm none (some t)).cps.toList.length=t.toNat:=by
        rw[es];simp only[List.drop_zero,Int.sub_zero,qJ0];omega
       have ea:((Txt.slice cm none (some t)++⟨#[c]⟩)++Txt.slice cm (some t) (some (t+d % 3))).cps.toList=(Txt.slice cm none (some t)).cps.toList++([c]++(Txt.slice cm (some t) (some (t+d % 3))).cps.toList):=by
        rw[Str.cps_append,Str.cps_append]
        simp
       rw[ea,List.getElem?_append_right (by omega),el,Nat.sub_self];have hc2:LTR.cps.toList[((u+7*(0+(k:Int))) % 20).toNat]?=some c:=Eg (qB0 _ (by decide)) hc;rw[Int.zero_add]at hc2;rw[hc2];rfl
   . intro b o hb e;rw[aq (ai e L0)];exact S7 b o hb (S6 b o hb e)
 . rintro σ H6 ⟨x7,x8,x9,ns,rfl,hns,nl,nok,nlt,nat,F6,S6⟩;have nnd:ns.Nodup:=Ae u0 u20 (by omega) nat;refine⟨_,rfl,_,_,rfl,rfl,_,rfl,?_⟩;have fin:∀H':Hp,∀ns:List Str,H' L=some (.lst (ns.map V.str))->ns.length=m.toNat->(∀x∈ns,vC x)->ns.Nodup->FeedAt H' f->SameBut f H H'->Q (.ref L) H':=fun H' ns a b c nd d e=>q L ns H' L0 Lf a b c nd d e
   by_cases c1:(0:Int)<m
   . refine cg c1 ?_;refine⟨_,rfl,f,3,rfl,F6,by decide,by decide,fun d H7 d0 d1 F7 S7=>?_⟩;refine⟨rfl,_,rfl,?_⟩;have hL7:=S7 L _ Lf hns;refine lP (fun _=>?_) (fun _=>?_)
     . refine ⟨(by show 12<=sizeLine;decide),fun l1 h1=>?_⟩;refine⟨_,rfl,(by show 6<=sizeLine;decide),fun l2 h2=>?_⟩;refine⟨l1,l2,wordsA.map V.str,wordsB.map V.str,rfl,rfl,zB0 h2 _ _ _ ah,ah,(by show 18<=sizeLine;decide),fun l3 h3=>?_⟩;refine⟨_,rfl,(by show 6<=sizeLine;decide),fun l4 h4=>?_⟩;refine⟨l3,l4,wordsA.map V.str++wordsB.map V.str,wordsC.map V.str,rfl,rfl,zB0 h4 _ _ _ ah,ah,(by show 24<=sizeLine;decide),fun l5 h5=>?_⟩;have G:=(zB0 h1 (.lst (wordsA.map V.str))).trans ((zB0 h2 (.lst (wordsB.map V.str))).trans ((zB0 h3 (.lst (wordsA.map V.str++wordsB.map V.str))).trans ((zB0 h4 (.lst (wordsC.map V.str))).trans (zB0 h5 (.lst ((wordsA.map V.str++wordsB.map V.str)++wordsC.map V.str))))));have F8:=F7.same G;have n5:=(F7.same ((zB0 h1 (.lst (wordsA.map V.str))).trans ((zB0 h2 (.lst (wordsB.map V.str))).trans ((zB0 h3 (.lst (wordsA.map V.str++wordsB.map V.str))).trans (zB0 h4 (.lst (wordsC.map V.str))))))).ne h5;refine⟨_,rfl,_,rfl,f,24,rfl,F8,by decide,by decide,fun e H9 e0 e1 F9 S9=>?_⟩;obtain⟨v,hv,vm⟩:=pX (l:=(wordsA.map V.str++wordsB.map V.str)++wordsC.map V.str) (i:=e) e0 (by
        have:((wordsA.map V.str++wordsB.map V.str)++wordsC.map V.str).length=24:=by rfl
        omega)
       rw[←zK0,←zK0]at vm;obtain⟨x,hx,rfl⟩:=List.mem_map.mp vm;refine⟨l5,_,e,_,rfl,rfl,zG0 (S9 l5 _ n5 ah),hv,?_⟩;refine⟨_,rfl,_,rfl,_,rfl,f,m,rfl,F9,c1,by omega,fun j H10 j0 j1 F10 S10=>?_⟩;have hL10:=S10 L _ Lf (S9 L _ Lf (G L _ hL7));refine⟨L,_,j,j.toNat,rfl,rfl,hL10,?_,?_⟩
       . have jl:j<((ns.map V.str).length:Int):=by rw[zE0];omega
         unfold ixN;rw[zF0 j0,zF0 jl]
       refine⟨_,rfl,?_⟩;refine fin _ (ns.set j.toNat x) (by rw[ah,List.map_set]) (by rw[List.length_set];exact nl) ?_ ?_ (ky F10 Lf) ?_
       . intro y hy;rcases List.mem_or_eq_of_mem_set hy with h | h
         . exact nok y h
         . rw[h];exact yN x hx
       . refine DD nnd fun hm=>?_
         obtain⟨c,c1,c2⟩:=wU x hx;exact c2 (nlt x hm c c1)
       . intro b o hb e';rw[aq (ai e' L0)];exact S10 b o hb (S9 b o hb (G b o (S7 b o hb (S6 b o hb e'))))
     . refine⟨_,rfl,?_⟩;exact fin H7 ns hL7 nl nok nnd F7 (S6.trans S7)
   . refine ba c1 ?_;refine eJ ?_;refine⟨_,rfl,?_⟩;exact fin H6 ns hns nl nok nnd F6 S6
theorem gW{x:Str}:∀{ns:List Str},x∈ns->∃j,fe x ns=some j/\j<ns.length
 | [],h=>by cases h
 | a::r,h=>by
   unfold fe
   by_cases c:a=x
   . exact⟨0,by rw[zF0 c],by simp⟩
   . rw [zD0 c];rcases zY0 h with e | e
     . exact absurd e.symm c
     . obtain⟨j,h1,h2⟩:=gW e;exact⟨j+1,by rw[h1];rfl,by simpa using h2⟩
theorem lR{a b:Str}(h:V.str a=V.str b):a=b:=by injection h
def cX (p:Int) (o:Str) (x y:Int):Int:=if o="and" then x*y % p else if o="or" then(x+y-x*y) % p else if o="odd" then(x+y-2*(x*y)) % p else(1-(x+y-2*(x*y))) % p
def Tr.worth(ns:List Str)(pt:List Int)(p:Int):Tr->Int
 | .is x=>match fe x ns with | some j=>pt.getD j 0 | none=>0
 | .yes=>1
 | .no=>0
 | .not a=>(1-a.worth ns pt p) % p
 | .bin o a b=>cX p o (a.worth ns pt p) (b.worth ns pt p)
def cw(pt:List Int)(p:Int):Prop:=∀x∈pt,0<=x/\x<p
theorem yr{p:Int}(hp:0<p)(o:Str)(x y:Int):0<=cX p o x y/\cX p o x y<p:=by
 have key:∀z:Int,0<=z % p/\z % p<p:=fun z=>⟨qB0 _ (by omega),qC0 _ hp⟩
 unfold cX
 repeat' split
 all_goals exact key _
theorem om{l:List Int}{j:Nat}(h:j<l.length):l.getD j 0=l[j]:=by
 rw[qM0,zU0 h];rfl
theorem kE{ns:List Str}{pt:List Int}{p:Int}(hp:1<p)(h:cw pt p)(hl:pt.length=ns.length):∀t:Tr,t.ok ns->0<=t.worth ns pt p/\t.worth ns pt p<p
 | .is x,ok=>by
   obtain⟨j,hj,jl⟩:=gW ok;show 0<=(match fe x ns with | some j=>pt.getD j 0 | none=>0)/\(match fe x ns with | some j=>pt.getD j 0 | none=>0)<p;rw[hj];show 0<=pt.getD j 0/\pt.getD j 0<p;rw[om (by omega)];exact h _ (qR0 _)
 | .yes,_=>⟨by show(0:Int)<=1;decide,hp⟩
 | .no,_=>⟨Int.le_refl 0,by show(0:Int)<p;omega⟩
 | .not a,_=>⟨qB0 _ (by omega),qC0 _ (by omega)⟩
 | .bin o a b,_=>yr (by omega) _ _ _
def Dg:Sp:=fun vs H Q _=>∃(o:Str)(x y p:Int),vs=[.str o,.int x,.int y,.int p]/\0<=x/\x<p/\p<2 ^ 40/\Q (.int (cX p o x y)) H
theorem eY:FnScope ["word","first","second","p","both","odd"] ["word","first","second","p"] (ak dF):=⟨rfl,rfl,rfl,by decide,rfl,by decide,by decide⟩
theorem lO {f:Addr} {fd:FuncData} (F:Fun K "joined_worth" "joined_worth" dF f fd):FnOk P w K mg base CX0 1 f fd ["word","first","second","p"] Dg:=by
 refine F.ok eY (fun vs H Q E h=>?_) (fun cdv A outer s H vs Q E hr h=>?_)
 . obtain⟨o,x,y,p,rfl,_⟩:=h;rfl
 obtain ⟨o,x,y,p,rfl,x0,xp,pb,k⟩:=h;refine⟨_,(ad (au (i:=4) eY.nd rfl (Or.inl rfl) (aj bn (pv 1) (pv 2)))
  (ad (aX (av bA (pv 0) aG (ay _)) (ag (ax (aj aW (pv 4) (pv 3)))) aI)
  (ad (aX (av bA (pv 0) aG (ay _)) (ag (ax (aj aW (aj bd (aj aN (pv 1) (pv 2)) (pv 4)) (pv 3)))) aI)
  (ad (au (i:=5) eY.nd rfl (Or.inl rfl) (aj bd (aj aN (pv 1) (pv 2)) (aj bn ae (pv 4))))
  (ad (aX (av bA (pv 0) aG (ay _)) (ag (ax (aj aW (pv 5) (pv 3)))) aI)
  (ag (ax (aj aW (aj bd ae (pv 5)) (pv 3))))))))),?_⟩
 refine⟨_,rfl,_,rfl,_,_,rfl,rfl,.inl ⟨by omega,by omega⟩,?_⟩;refine⟨_,rfl,rfl,_,rfl,?_⟩
 by_cases c1:V.str o=V.str "and"
 . refine cg c1 ?_;have e:cX p o x y=x*y % p:=by unfold cX;rw[zF0 (lR c1)]
   rw[e]at k;exact⟨_,rfl,_,rfl,_,_,rfl,rfl,(show(0:Int)<p by omega),k⟩
 refine ba c1 ?_;have n1:¬ o="and":=fun z=>c1 (by rw[z])
 refine⟨_,rfl,rfl,_,rfl,?_⟩
 by_cases c2:V.str o=V.str "or"
 . refine cg c2 ?_;have e:cX p o x y=(x+y-x*y) % p:=by unfold cX;rw[zD0 n1,zF0 (lR c2)]
   rw[e]at k;exact⟨_,rfl,_,rfl,_,_,rfl,rfl,_,rfl,_,_,rfl,rfl,_,rfl,_,_,rfl,rfl,(show(0:Int)<p by omega),k⟩
 refine ba c2 ?_;have n2:¬ o="or":=fun z=>c2 (by rw[z])
 refine⟨_,rfl,_,rfl,_,_,rfl,rfl,_,rfl,_,_,rfl,rfl,.inl ⟨by decide,by decide⟩,_,_,rfl,rfl,?_⟩;refine⟨_,rfl,rfl,_,rfl,?_⟩
 by_cases c3:V.str o=V.str "odd"
 . refine cg c3 ?_;have e:cX p o x y=(x+y-2*(x*y)) % p:=by unfold cX;rw[zD0 n1,zD0 n2,zF0 (lR c3)]
   rw[e]at k;exact⟨_,rfl,_,rfl,_,_,rfl,rfl,(show(0:Int)<p by omega),k⟩
 refine ba c3 ?_;have n3:¬ o="odd":=fun z=>c3 (by rw[z])
 have e:cX p o x y=(1-(x+y-2*(x*y))) % p:=by unfold cX;rw[zD0 n1,zD0 n2,zD0 n3]
 rw[e]at k;exact⟨_,rfl,_,_,rfl,rfl,_,rfl,_,_,rfl,rfl,(show(0:Int)<p by omega),k⟩
def iZ(n:Nat):Sp:=fun vs H Q _=>∃(v:V)(t:Tr)(a b:Addr)(ns:List Str)(pt:List Int)(p:Int),vs=[v,.ref a,.ref b,.int p]/\TreeAt H v t/\t.ok ns/\t.depth<=n/\NamesAt H a ns/\H b=some (.tup (pt.map V.int))/\pt.length=ns.length/\1<p/\p<2 ^ 40/\cw pt p/\Q (.int (t.worth ns pt p)) H
theorem i4:FnScope ["tree","switches","point","p","word","first"] ["tree","switches","point","p"] (ak fV):=⟨rfl,rfl,rfl,by decide,rfl,by decide,by decide⟩
theorem tG {n:Nat} {f:Addr} {fd:FuncData} (F:Fun K "worth_of" "worth_of" fV f fd) (b7:Cal P w K mg base 1 "joined_worth" ["word","first","second","p"] Dg) (dU:Cal P w K mg base (n+2) "worth_of" ["tree","switches","point","p"] (iZ n)):FnOk P w K mg base CX0 (n+3) f fd ["tree","switches","point","p"] (iZ (n+1)):=by
 refine F.ok i4 (fun vs H Q E h=>?_) (fun cdv A outer s H vs Q E hr h=>?_)
 . obtain⟨v,t,a,b,ns,pt,p,rfl,_⟩:=h;rfl
 obtain⟨v,t,a,b,ns,pt,p,rfl,T,ok,dn,hN,hb,sl,p1,p40,po,k⟩:=h;have p0:(0:Int)<p:=by omega
 refine ⟨_,(ad (au (i:=4) i4.nd rfl (Or.inl rfl) (aJ aZ (pv 0) ae (fun _ _=>rfl)))
  (ad (aX (av bA (pv 4) aG (ay _)) (ag (ax (aj aW (aJ aZ (pv 2) (rV PySem.F.plainAttrs_list PySem.F.plainAttrs_tuple (pv 1) (aa (aJ aZ (pv 0) ae (fun _ _=>rfl)) ac)) (fun _ _=>rfl)) (pv 3)))) aI)
  (ad (aX (av bA (pv 4) aG (ay _)) (ag (ax ae)) aI)
  (ad (aX (av bA (pv 4) aG (ay _)) (ag (ax ae)) aI)
  (ad (au (i:=5) i4.nd rfl (Or.inl rfl) (al dU hr (zI0 _) rfl (aa (aJ aZ (pv 0) ae (fun _ _=>rfl)) (aa (pv 1) (aa (pv 2) (aa (pv 3) ac))))))
  (ad (aX (av bA (pv 4) aG (ay _)) (ag (ax (aj aW (aj bd ae (pv 5)) (pv 3)))) aI)
  (ag (ax (al b7 hr (by omega) rfl (aa (pv 4) (aa (pv 5) (aa (al dU hr (zI0 _) rfl (aa (aJ aZ (pv 0) ae (fun _ _=>rfl)) (aa (pv 1) (aa (pv 2) (aa (pv 3) ac))))) (aa (pv 3) ac))))))))))))),?_⟩
 cases T with
 | @is q x e=>
   refine⟨_,rfl,q,_,0,_,rfl,rfl,zC0 e,rfl,?_⟩;refine⟨_,rfl,rfl,_,rfl,?_⟩;refine cg rfl ?_;obtain⟨j,hj,jl⟩:=gW ok;have jl':j<pt.length:=by omega
   refine⟨_,rfl,_,rfl,a,ns,rfl,hN,_,rfl,q,_,1,_,rfl,rfl,zC0 e,rfl,rfl,x,j,rfl,hj,b,_,(j:Int),.int pt[j],rfl,rfl,zC0 hb,?_,_,rfl,_,_,rfl,rfl,p0,?_⟩
   . refine aO ?_;rw[qE0,zU0 jl'];rfl
   . have e1:(Tr.is x).worth ns pt p=pt[j] % p:=by
      show(match fe x ns with | some j=>pt.getD j 0 | none=>0)=_;rw[hj];show pt.getD j 0=_;rw[om jl']
      have:=po _ (qR0 jl')
      rw[qU0 this.1 this.2]
     rw[e1]at k;exact k
 | @yes q e=>
   refine⟨_,rfl,q,_,0,_,rfl,rfl,zC0 e,rfl,?_⟩;refine⟨_,rfl,rfl,_,rfl,?_⟩;refine ba (by decide) ?_;refine⟨_,rfl,rfl,_,rfl,?_⟩;exact cg rfl k
 | @no q e=>
   refine⟨_,rfl,q,_,0,_,rfl,rfl,zC0 e,rfl,?_⟩;refine⟨_,rfl,rfl,_,rfl,?_⟩;refine ba (by decide) ?_;refine⟨_,rfl,rfl,_,rfl,?_⟩;refine ba (by decide) ?_;refine⟨_,rfl,rfl,_,rfl,?_⟩;exact cg rfl k
 | @not q u r e T1=>
   have dp:r.depth+1<=n+1:=dn;refine⟨_,rfl,q,_,0,_,rfl,rfl,zC0 e,rfl,?_⟩;refine⟨_,rfl,rfl,_,rfl,?_⟩;refine ba (by decide) ?_;refine⟨_,rfl,rfl,_,rfl,?_⟩;refine ba (by decide) ?_;refine⟨_,rfl,rfl,_,rfl,?_⟩;refine ba (by decide) ?_;refine⟨_,rfl,q,_,1,_,rfl,rfl,zC0 e,rfl,_,rfl,_,rfl,_,rfl,u,r,a,b,ns,pt,p,rfl,T1,ok,by omega,hN,hb,sl,p1,p40,po,?_⟩;refine⟨_,rfl,rfl,_,rfl,?_⟩;refine cg rfl ?_;exact⟨_,rfl,_,_,rfl,rfl,_,rfl,_,_,rfl,rfl,p0,k⟩
 | @bin q o u u2 r r2 e T1 T2=>
   obtain⟨ho,ok1,ok2⟩:=ok;have dp:max r.depth r2.depth+1<=n+1:=dn;have ne:∀z:Str,z∉joinW->¬ V.str o=V.str z:=fun z hz h=>hz (lR h▸ho)
   refine⟨_,rfl,q,_,0,_,rfl,rfl,zC0 e,rfl,?_⟩;refine⟨_,rfl,rfl,_,rfl,?_⟩;refine ba (ne _ (by decide)) ?_;refine⟨_,rfl,rfl,_,rfl,?_⟩;refine ba (ne _ (by decide)) ?_;refine⟨_,rfl,rfl,_,rfl,?_⟩;refine ba (ne _ (by decide)) ?_;refine⟨_,rfl,q,_,1,_,rfl,rfl,zC0 e,rfl,_,rfl,_,rfl,_,rfl,u,r,a,b,ns,pt,p,rfl,T1,ok1,by omega,hN,hb,sl,p1,p40,po,?_⟩;refine⟨_,rfl,rfl,_,rfl,?_⟩;refine ba (ne _ (by decide)) ?_;have wr:=kE p1 po sl r ok1;refine⟨_,rfl,_,rfl,_,rfl,q,_,2,_,rfl,rfl,zC0 e,rfl,_,rfl,_,rfl,_,rfl,u2,r2,a,b,ns,pt,p,rfl,T2,ok2,by omega,hN,hb,sl,p1,p40,po,?_⟩;exact⟨_,rfl,o,_,_,p,rfl,wr.1,wr.2,p40,k⟩
theorem tF {f:Addr} {fd:FuncData}:FnOk P w K mg base CX0 2 f fd ["tree","switches","point","p"] (iZ 0):=by
 have no:∀vs H Q E,¬ iZ 0 vs H Q E:=fun vs H Q E h=>by
  obtain⟨v,t,_,_,_,_,_,_,_,_,h1,_⟩:=h
  have:=t.depth_pos
  omega
 exact⟨fun vs H Q E h=>absurd h (no vs H Q E),fun A outer s H args us vs Q E _ _ _ _ h=>absurd h (no vs H Q E)⟩
theorem lw {f:Addr} {fd:FuncData} (F:Fun K "worth_of" "worth_of" fV f fd) (m:mg "worth_of"=some (.ref f)) (b7:Cal P w K mg base 1 "joined_worth" ["word","first","second","p"] Dg) :
 ∀n:Nat,FnOk P w K mg base CX0 (n+2) f fd ["tree","switches","point","p"] (iZ n)
 | 0=>tF
 | n+1=>tG F b7 (Cal.of F (lw F m b7 n) m (fun _ _ _ _ _ _ us hl=>by obtain⟨u0,u1,u2,u3,rfl⟩:=qQ hl;rfl))
theorem yq{H:Hp}{b:Addr}{ys zs:List V}(h:H b=some (.lst ys)):∀a xs,H a=some (.tup xs)->(upd H b (.lst zs)) a=some (.tup xs):=fun a xs e=>by
 rw[aq]
 . exact e
 . intro z;rw[z,h]at e;cases e
theorem at0(x:V)(xs:List V):atI (x::xs) 0=some x:=aO (j:=0) rfl
theorem ly{ts:List Tr}{i:Nat}{u:Tr}(h:ts[i]?=some u):gh (ts.take (i+1))=gh (ts.take i)++u.names:=by
 unfold gh;rw[qI0,h,zK0,List.flatten_append]
 simp
theorem nR(ts:List Tr):(gh ts).length<=fS ts:=by
 induction ts with
 | nil=>simp [gh,fS]
 | cons a r ih=>
   have:=a.names_len
   simp only[gh,fS,qF0,List.flatten_cons,zR0,List.sum_cons]at ih ⊢;omega
theorem mS(ts:List Tr)(i:Nat):fS (ts.take i)<=fS ts:=by
 induction ts generalizing i with
 | nil=>simp
 | cons a r ih=>
   cases i with
   | zero=>simp [fS]
   | succ i=>
     have:=ih i
     simp only[fS,List.take_succ_cons,qF0,List.sum_cons]at this ⊢;omega
def tW(n:Nat):Sp:=fun vs H Q _=>∃(v:V)(t:Tr),vs=[v]/\TreeAt H v t/\t.wf/\t.depth<=n/\t.size<=400/\∀(l:Addr)(H':Hp),H l=none->Same H H'->H' l=some (.lst (t.names.map V.str))->Q (.ref l) H'
theorem eg:FnScope ["_law_tree_here","_law_found","_law_part"] ["_law_tree_here"] (ak dE):=⟨rfl,rfl,rfl,by decide,rfl,by decide,by decide⟩
theorem BV {n:Nat} {f:Addr} {fd:FuncData} (F:Fun K "_law_names_of" "_law_names_of" dE f fd) (bv:Cal P w K mg base (n+2) "_law_names_of" ["_law_tree_here"] (tW n)):FnOk P w K mg base CX0 (n+3) f fd ["_law_tree_here"] (tW (n+1)):=by
 refine F.ok eg (fun vs H Q E h=>?_) (fun cdv A outer s H vs Q E hr h=>?_)
 . obtain⟨v,t,rfl,_⟩:=h;rfl
 obtain ⟨v,t,rfl,T,wf,dn,sz,q⟩:=h;refine⟨_,(ad (aX (av bA (aJ aZ (pv 0) ae (fun _ _=>rfl)) aG (ay _)) (ag (ax (bo (aa (aJ aZ (pv 0) ae (fun _ _=>rfl)) ac)))) aI)
  (ad (au (i:=1) eg.nd rfl (Or.inl rfl) (bo ac))
  (ad (cD PassesOwn.never rfl (dk (dH qi (pv 0) (eQ ae) gH)) (aQ (i:=2) eg.nd rfl (Or.inl rfl)) (ag (au (i:=1) eg.nd rfl (Or.inl rfl) (aj dI (pv 1) (al bv hr (zI0 _) rfl (aa (pv 2) ac))))))
  (ag (ax (pv 1)))))),?_⟩
 rcases T.view wf with⟨a,x,rfl,rfl,_,e⟩ | ⟨a,o,xs,rfl,no,xl0,e,TS0,nis⟩
 . refine⟨_,rfl,a,_,0,_,rfl,rfl,zC0 e,rfl,rfl,_,rfl,?_⟩;refine cg rfl ?_;refine⟨_,rfl,a,_,1,_,rfl,rfl,zC0 e,rfl,(by show 1<=sizeLine;decide),fun p hp=>?_⟩;exact q p _ hp (zB0 hp _) ah
 . refine ⟨_,rfl,a,_,0,.str o,rfl,rfl,zC0 e,at0 ..,rfl,_,rfl,?_⟩;refine ba (fun z=>no (by injection z)) ?_;refine⟨(by show 0<=sizeLine;decide),fun L hL=>?_⟩;have G0:=zB0 hL (.lst []);obtain⟨c1,c2⟩:=Eb (.str o) xs xl0;refine⟨_,rfl,1,rfl,a,_,rfl,zC0 (G0 _ _ e),c2,fun p hp=>?_⟩;rw[c1];have G1:=zB0 hp (.tup xs);have hp1:upd (upd H L (.lst [])) p (.tup xs) p=some (.tup xs):=ah;have hL1:upd (upd H L (.lst [])) p (.tup xs) L=some (.lst []):=G1 _ _ ah;have S1:Same H (upd (upd H L (.lst [])) p (.tup xs)):=G0.trans G1;generalize upd (upd H L (.lst [])) p (.tup xs)=H1 at hp1 hL1 S1;have TS:=TS0.mono (aB S1);have xl:=TS.length;have sp:=t.size_parts;refine⟨p,rfl,⟨_,zC0 hp1⟩,qY (K:=K) (xs:=xs) (fun i σ H'=>∃(M:Addr)(x2:Option V),σ=[some (.ref a),some (.ref M),x2]/\H M=none/\H' M=some (.lst ((gh (t.parts.take i)).map V.str))/\Same H1 H') ⟨L,_,rfl,hL,hL1,Same.refl _⟩ (fun i σ H' _ hst=>by obtain⟨_,_,_,_,_,h⟩:=hst;exact zC0 (h _ _ hp1)) ?_ ?_⟩
   . rintro i x σ H2 hx ⟨M,x2,rfl,M0,hM,S2⟩;obtain⟨u,hu,Tu⟩:=TS.get hx;have um:=zZ0 hu;obtain⟨uw,ud,us⟩:=Tr.parts_mem um wf;refine⟨_,rfl,_,rfl,x,u,rfl,Tu.mono (aB S2),uw,by omega,by omega,fun l H3 l0 S3 hl3=>?_⟩;have nl:=u.names_len;have nl2:=nR (t.parts.take i);have nl3:=mS t.parts i;refine⟨M,l,_,_,rfl,rfl,S3 _ _ hM,hl3,?_,fun r hr0=>?_⟩
     . rw[zE0,zE0];exact cL (by omega)
     . have S4:=(S2.trans S3).trans (zB0 hr0 (.lst ((gh (t.parts.take i)).map V.str++u.names.map V.str)));refine⟨r,_,rfl,(S1.trans (S2.trans S3)).free hr0,?_,S4⟩;rw[ah,ly hu,zK0]
   . rintro σ H2 ⟨M,x2,rfl,M0,hM,S2⟩;rw[xl,qG0,←t.names_parts nis]at hM;exact⟨_,rfl,q M H2 M0 (S1.trans S2) hM⟩
theorem BU {f:Addr} {fd:FuncData}:FnOk P w K mg base CX0 2 f fd ["_law_tree_here"] (tW 0):=by
 have no:∀vs H Q E,¬ tW 0 vs H Q E:=fun vs H Q E h=>by
  obtain⟨v,t,_,_,_,h1,_⟩:=h
  have:=t.depth_pos
  omega
 exact⟨fun vs H Q E h=>absurd h (no vs H Q E),fun A outer s H args us vs Q E _ _ _ _ h=>absurd h (no vs H Q E)⟩
theorem jA {f:Addr} {fd:FuncData} (F:Fun K "_law_names_of" "_law_names_of" dE f fd) (m:mg "_law_names_of"=some (.ref f)) :
 ∀n:Nat,FnOk P w K mg base CX0 (n+2) f fd ["_law_tree_here"] (tW n)
 | 0=>BU
 | n+1=>BV F (Cal.of F (jA F m n) m (fun _ _ _ _ _ _ us hl=>by obtain⟨u0,rfl⟩:=gw hl;rfl))
theorem jJ(ns:List Str)(z:Str):((ns.map V.str).countP fun y=>eqV y (.str z))=ns.count z:=by
 rw[List.countP_map];rfl
def zf:Sp:=fun vs H Q _=>∃(a b:Addr)(ns:List Str)(tv:List V)(ts:List Tr),vs=[.ref a,.ref b]/\H a=some (.lst (ns.map V.str))/\H b=some (.lst tv)/\TreesAt H tv ts/\ts.length<=10/\(∀t∈ts,t.wf/\t.depth<=10/\t.size<=400)/\
 ∀(m:Int)(H':Hp),Same H H'->2<=m->m<=400->(ts.length:Int)<=m+1->(∀t∈ts,∀x∈ns,(t.names.count x:Int)<=m)->Q (.int m) H'
theorem eW:FnScope ["_law_names_here","_law_trees","_law_need_here","_law_tree_here","_law_found","_law_name"] ["_law_names_here","_law_trees"] (ak jS):=⟨rfl,rfl,rfl,by decide,rfl,by decide,by decide⟩
theorem xP {f:Addr} {fd:FuncData} (F:Fun K "_law_need" "_law_need" jS f fd) (hlen:mg "len"=none) (hmax:mg "max"=none) (bv:Cal P w K mg base 12 "_law_names_of" ["_law_tree_here"] (tW 10)):FnOk P w K mg base CX0 13 f fd ["_law_names_here","_law_trees"] zf:=by
 refine F.ok eW (fun vs H Q E h=>?_) (fun cdv A outer s H vs Q E hr h=>?_)
 . obtain⟨a,b,ns,tv,ts,rfl,_⟩:=h;rfl
 obtain ⟨a,b,ns,tv,ts,rfl,ha,hb,TS,tl,tok,q⟩:=h;refine⟨_,(ad (au (i:=2) eW.nd rfl (Or.inl rfl) (aD (pR rfl) rfl hmax PyProof.Rows.boot_max (aa ae (aa (aj bd (aD az rfl hlen PySem.boot_len (aa (pv 1) ac)) ae) ac))))
  (ad (cD PassesOwn.never rfl (dG (pv 1)) (aQ (i:=3) eW.nd rfl (Or.inl rfl)) (ad (au (i:=4) eW.nd rfl (Or.inl rfl) (al bv hr (by decide) rfl (aa (pv 3) ac)))
   (ag (cD PassesOwn.never rfl (dG (pv 0)) (aQ (i:=5) eW.nd rfl (Or.inl rfl)) (ag (au (i:=2) eW.nd rfl (Or.inl rfl) (aD (pR rfl) rfl hmax PyProof.Rows.boot_max (aa (pv 2) (aa (nJ PySem.F.plainAttrs_list PySem.F.slot_list_count PySem.F.type_list_count su (pv 4) (aa (pv 5) ac)) ac)))))))))
  (ag (ax (pv 2))))),?_⟩
 have vl:=TS.length;refine⟨_,rfl,b,_,rfl,.inl (zG0 hb),_,_,rfl,rfl,_,_,rfl,?_⟩;obtain⟨m,em,m2,m4,mt⟩:∃m:Int,(if((tv.length:Int)-1)>2 then((tv.length:Int)-1)else 2)=m/\2<=m/\m<=400/\(ts.length:Int)<=m+1:=⟨_,rfl,by split <;> omega,by split <;> omega,by split <;> omega⟩
 rw [em];refine⟨_,rfl,b,rfl,⟨_,zG0 hb⟩,cY (K:=K) (xs:=tv) (fun i σ H'=>∃(m:Int)(x3 x4 x5:Option V),σ=[some (.ref a),some (.ref b),some (.int m),x3,x4,x5]/\2<=m/\m<=400/\(ts.length:Int)<=m+1/\(∀t∈ts.take i,∀x∈ns,(t.names.count x:Int)<=m)/\Same H H')
  ⟨m,_,_,_,rfl,m2,m4,mt,by simp,Same.refl _⟩ (fun i σ H' _ hst=>by obtain⟨_,_,_,_,_,_,_,_,_,h⟩:=hst;exact zG0 (h _ _ hb)) ?_ ?_⟩
 . rintro i v σ H1 hv ⟨m,x3,x4,x5,rfl,m2,m4,mt,mc,S1⟩;obtain⟨t,ht,T⟩:=TS.get hv;have tm:=zZ0 ht;obtain⟨tw,td,tz⟩:=tok t tm;refine⟨_,rfl,v,t,rfl,T.mono (aB S1),tw,by omega,tz,fun l H2 l0 S2 hl=>?_⟩;have S12:=S1.trans S2;have tn:=t.names_len;refine⟨_,rfl,a,rfl,⟨_,zG0 (S12 _ _ ha)⟩,cY (K:=K) (xs:=ns.map V.str) (fun j σ H'=>∃(m':Int)(x5:Option V),σ=[some (.ref a),some (.ref b),some (.int m'),some v,some (.ref l),x5]/\m<=m'/\m'<=400/\(∀x∈ns.take j,(t.names.count x:Int)<=m')/\H'=H2)
    ⟨m,_,rfl,Int.le_refl _,m4,by simp,rfl⟩ (fun j σ H' _ hst=>by obtain⟨_,_,_,_,_,_,h⟩:=hst;subst h;exact zG0 (S12 _ _ ha)) ?_ ?_⟩
   . rintro j y σ H3 hy ⟨m',y5,rfl,mm,m4',mc',rfl⟩;rw[qE0]at hy;obtain⟨x,hx,rfl⟩:=qS0 hy;refine⟨_,rfl,_,rfl,.inl ⟨rfl,_,zG0 hl⟩,_,rfl,l,_,_,rfl,rfl,zG0 hl,eK _,rfl,_,_,rfl,?_⟩;rw[jJ];have cl:=List.count_le_length (a:=x) (l:=t.names);refine⟨_,_,rfl,by split <;> omega,by split <;> omega,fun z hz=>?_,rfl⟩;rw[qI0,hx]at hz;rcases qD0 hz with h | h
     . have:=mc' z h
       split <;> omega
     . have e:z=x:=by simpa using h
       subst e
       split <;> omega
   . rintro σ H3 ⟨m',y5,rfl,mm,m4',mc',rfl⟩;rw[zE0,qG0]at mc';refine⟨m',_,_,_,rfl,by omega,m4',by omega,fun u hu x hx=>?_,S12⟩;rw[qI0,ht]at hu;rcases qD0 hu with h | h
     . have:=mc u h x hx
       omega
     . have e:u=t:=by simpa using h
       subst e;exact mc' x hx
 . rintro σ H1 ⟨m,x3,x4,x5,rfl,m2,m4,mt,mc,S1⟩;rw[vl,qG0]at mc;exact⟨_,rfl,q m H1 S1 m2 m4 mt mc⟩
def mN:Sp:=fun vs H Q _=>∃n:Int,vs=[.int n]/\∀b:Bool,(b=true↔Pr n)->Q (.bl b) H
theorem kZ:FnScope ["_law_number","_law_k"] ["_law_number"] (ak ft):=⟨rfl,rfl,rfl,by decide,rfl,by decide,by decide⟩
theorem oP {f:Addr} {fd:FuncData} (F:Fun K "_law_is_prime" "_law_is_prime" ft f fd) (hrange:mg "range"=none):FnOk P w K mg base CX0 1 f fd ["_law_number"] mN:=by
 refine F.ok kZ (fun vs H Q E h=>?_) (fun cdv A outer s H vs Q E hr h=>?_)
 . obtain⟨n,rfl,_⟩:=h;rfl
 obtain ⟨n,rfl,q⟩:=h;refine⟨_,(ad (aX (av ko (pv 0) ae (ay _)) (ag (ax fg)) aI)
  (ad (cD PassesOwn.never rfl (xL rfl hrange (aa ae (aa ae ac))) (aQ (i:=1) kZ.nd rfl (Or.inl rfl)) (ad (aX (av pB (aj bn (pv 1) (pv 1)) (pv 0) (ay _)) (ag (ax fg)) aI)
   (ag (aX (av bA (aj aW (pv 0) (pv 1)) ae (ay _)) (ag (ax fg)) aI))))
  (ag (ax fg)))),?_⟩
 refine⟨_,rfl,_,_,rfl,rfl,_,rfl,?_⟩;refine lP (fun c=>?_) (fun c=>?_)
 . have c':=of_decide_eq_true c;exact q false ⟨fun z=>(nomatch z),fun z=>by have:=z.1;omega⟩
 have c':¬ n<2:=of_decide_eq_false (Bool.eq_false_iff.mpr c);refine⟨2,1001,rfl,⟨by decide,by decide,by decide,by decide⟩,fO (fun i σ H'=>∃x,σ=[some (.int n),x]/\H'=H/\kY n (2+(i:Int))) ⟨_,rfl,rfl,by simpa using tL n⟩ ?_ ?_⟩
 . rintro i σ H' hi ⟨x,rfl,rfl,u⟩;have hi':i<999:=hi;refine⟨_,rfl,_,rfl,_,_,rfl,rfl,.inl ⟨by omega,by omega⟩,_,rfl,_,_,rfl,rfl,_,rfl,?_⟩;refine lP (fun c1=>?_) (fun c1=>?_)
   . have c2:=of_decide_eq_true c1;exact q true ⟨fun _=>Dr (by omega) (by omega) u c2,fun _=>rfl⟩
   . have c2:=of_decide_eq_false (Bool.eq_false_iff.mpr c1);refine⟨_,rfl,_,rfl,_,_,rfl,rfl,(show(0:Int)<2+(i:Int) by omega),rfl,_,rfl,?_⟩;refine lP (fun c3=>?_) (fun c3=>?_)
     . have c4:=V.int.inj (of_decide_eq_true c3);exact q false ⟨fun z=>(nomatch z),fun z=>(Dp (by omega) (by omega) (by omega) c4 z).elim⟩
     . have c4:=of_decide_eq_false (Bool.eq_false_iff.mpr c3);refine⟨_,rfl,rfl,?_⟩;have e:(2:Int)+((i+1:Nat):Int)=2+(i:Int)+1:=by omega
       rw[e];exact wV u (by omega) (fun z=>c4 (congrArg V.int z))
 . rintro σ H' ⟨x,rfl,rfl,u⟩;exact q true ⟨fun _=>Dt (by omega) u,fun _=>rfl⟩
def rG:Sp:=fun vs H Q _=>∃(f:Addr)(m:Int),vs=[.ref f,.int m]/\FeedAt H f/\2<=m/\m<=400/\∀(p:Int)(H':Hp),Pr p->m<p->p<=999983->FeedAt H' f->SameBut f H H'->Q (.int p) H'
theorem ur{f:Addr}{m fm:Int}{D:Ends}{H:Hp}(hD:∀p:Int,Pr p->m<p->p<=999983->D.nx [some (.ref f),some (.int m),some (.int fm),some (.int p)] H)(n:Int)(h1:m<n)(h2:n<=999983) :
 yZ (tNot (tB (vJ mN [] E0 (vI (Bh 3) xg)))) (Bj (tOp (rI0 fun i j=>V.int (i+j)) (Bh 3) (tC (V.int 1))) (sK 3)) D [some (.ref f),some (.int m),some (.int fm),some (.int n)] H:=by
 refine⟨fun mm σ H'=>∃n:Int,σ=[some (.ref f),some (.int m),some (.int fm),some (.int n)]/\H'=H/\m<n/\n<=999983/\mm=(999983-n).toNat,⟨_,_,rfl,rfl,h1,h2,rfl⟩,?_⟩;rintro mm σ H' ⟨n,rfl,rfl,n0,n1,rfl⟩;refine⟨_,rfl,n,rfl,fun b hb=>⟨b,rfl,?_⟩⟩;cases b with
 | true=>exact eJ (hD n (hb.mp rfl) n0 n1)
 | false=>
   refine fE ?_;refine⟨_,fun _ _ h=>h,?_⟩;have ne:n≠999983:=fun z=>by
    subst z;exact nomatch hb.mpr xJ
   refine⟨_,rfl,_,_,rfl,rfl,?_⟩;exact⟨_,by omega,n+1,rfl,rfl,by omega,by omega,rfl⟩
theorem dW:FnScope ["_law_feed_here","_law_need_here","_law_form","_law_number"] ["_law_feed_here","_law_need_here"] (ak jh):=⟨rfl,rfl,rfl,by decide,rfl,by decide,by decide⟩
theorem uG {f:Addr} {fd:FuncData} (F:Fun K "_law_field" "_law_field" jh f fd) (aE:Cal P w K mg base 1 "_law_take" ["_law_feed_here","_law_many"] dX) (ic:Cal P w K mg base 1 "_law_is_prime" ["_law_number"] mN):FnOk P w K mg base CX0 2 f fd ["_law_feed_here","_law_need_here"] rG:=by
 refine F.ok dW (fun vs H Q E h=>?_) (fun cdv A outer s H vs Q E hr h=>?_)
 . obtain⟨f,m,rfl,_⟩:=h;rfl
 obtain ⟨f,m,rfl,hF,m2,m4,q⟩:=h;refine⟨_,(ad (au (i:=2) dW.nd rfl (Or.inl rfl) (al aE hr (by decide) rfl (aa (pv 0) (aa ae ac))))
  (ad (au (i:=3) dW.nd rfl (Or.inl rfl) (aj aN (pv 1) ae))
  (ad (aX (av bA (pv 2) ae (ay _)) (ag (au (i:=3) dW.nd rfl (Or.inl rfl) (aj aN (aj aN (pv 1) ae) (al aE hr (by decide) rfl (aa (pv 0) (aa ae ac)))))) aI)
  (ad (aX (av bA (pv 2) ae (ay _)) (ag (au (i:=3) dW.nd rfl (Or.inl rfl) (aj aN (aj aN (pv 1) ae) (al aE hr (by decide) rfl (aa (pv 0) (aa (aj bd ae (pv 1)) ac)))))) aI)
  (ad (kg PassesOwn.never (kN (fZ (al ic hr (by decide) rfl (aa (pv 3) ac)))) (ag (au (i:=3) dW.nd rfl (Or.inl rfl) (aj aN (pv 3) ae))))
  (ag (ax (pv 3)))))))),?_⟩
 refine⟨_,rfl,f,4,rfl,hF,by decide,by decide,fun fm H1 _ _ F1 S1=>?_⟩;refine⟨_,rfl,_,_,rfl,rfl,?_⟩;refine⟨_,rfl,rfl,_,rfl,?_⟩;refine lP (fun c1=>?b1) (fun c1=>?b2)
 case' b1=>
  refine⟨_,rfl,_,_,rfl,rfl,_,rfl,f,60,rfl,F1,by decide,by decide,fun d H2 d0 d1 F2 S2=>?_⟩;refine⟨_,_,rfl,rfl,?_⟩;have G2:=S1.trans S2;have n1:m<m+1+d:=by omega
  have n2:m+1+d<=999983:=by omega
 case' b2=>
  have F2:=F1;have G2:=S1;have n1:m<m+1:=by omega
  have n2:m+1<=999983:=by omega
 all_goals
  refine⟨_,rfl,rfl,_,rfl,?_⟩;refine lP (fun c2=>?_) (fun c2=>?_);refine⟨_,rfl,_,_,rfl,rfl,_,rfl,_,rfl,_,_,rfl,rfl,f,_,rfl,F2,(show(0:Int)<999983-m by omega),(show(999983:Int)-m<2 ^ 63 by omega),fun d H3 d0 d1 F3 S3=>?_⟩;refine⟨_,_,rfl,rfl,?_⟩;have G3:=G2.trans S3;clear n1 n2;have n1:m<m+1+d:=by omega
  have n2:m+1+d<=999983:=by
   have:d<999983-m:=d1
   omega
  rotate_left
  have F3:=F2;have G3:=G2
  rotate_left
  all_goals
   refine ur (fun p pp mp p9=>?_) _ n1 n2;exact⟨_,rfl,q p _ pp mp p9 F3 G3⟩
def zi:Sp:=fun vs H Q _=>∃(f:Addr)(most room:Int),vs=[.ref f,.int most,.int room]/\FeedAt H f/\0<=most/\most<=6/\1<=room/\room<=30/\
 ∀(g a b:Addr)(ns:List Str)(tv:List V)(ts:List Tr)(p:Int)(H':Hp),H' g=some (.tup [.ref a,.ref b,.int p])->H' a=some (.tup (ns.map V.str))->(ns.length:Int)<=most->(∀x∈ns,vC x)->ns.Nodup->H' b=some (.tup tv)->TreesAt H' tv ts->1<=ts.length->ts.length<=4 ->
  (∀t∈ts,t.ok ns/\t.depth<=9/\(t.size:Int)<=room)->Pr p->2<p->p<=999983->(ts.length:Int)<=p->(∀t∈ts,∀x∈ns,(t.names.count x:Int)<p)->FeedAt H' f->SameBut f H H'->Q (.ref g) H'
theorem mB{m:Int}(h0:0<=m)(h6:m<=6):(0:Int)<m+1/\m+1<2 ^ 63:=by omega
theorem zB{z:Int}(h0:1<=z)(h6:z<=4):-(2 ^ 62)<=z/\z<2 ^ 62:=by omega
theorem rB{r:Int}(h0:1<=r)(h6:r<=30):0<r/\r<2 ^ 63:=by omega
theorem eB{e r:Int}(h0:0<=e)(h1:e<r)(h6:r<=30):(1:Int)<=1+e/\(1:Int)+e<=100:=by omega
theorem iX:FnScope ["_law_feed_here","_law_most","_law_room","_law_names_here","_law_many","_law_trees"] ["_law_feed_here","_law_most","_law_room"] (ak jT):=⟨rfl,rfl,rfl,by decide,rfl,by decide,by decide⟩
theorem xQ {f:Addr} {fd:FuncData} (F:Fun K "_law_game" "_law_game" jT f fd) (hrange:mg "range"=none) (htuple:mg "tuple"=none) (aE:Cal P w K mg base 1 "_law_take" ["_law_feed_here","_law_many"] dX) (lp:Cal P w K mg base 2 "_law_names" ["_law_feed_here","_law_many"] rF)
 (eM:Cal P w K mg base 12 "_law_tree" ["_law_feed_here","_law_names_here","_law_room","_law_deep"] (kG 10)) (u6:Cal P w K mg base 13 "_law_need" ["_law_names_here","_law_trees"] zf) (lH:Cal P w K mg base 2 "_law_field" ["_law_feed_here","_law_need_here"] rG):FnOk P w K mg base CX0 14 f fd ["_law_feed_here","_law_most","_law_room"] zi:=by
 refine F.ok iX (fun vs H Q E h=>?_) (fun cdv A outer s H vs Q E hr h=>?_)
 . obtain⟨f,most,room,rfl,_⟩:=h;rfl
 obtain ⟨f,most,room,rfl,hF,m0,m6,r1,r30,q⟩:=h;refine⟨_,(ad (au (i:=3) iX.nd rfl (Or.inr rfl) (al lp hr (by decide) rfl (aa (pv 0) (aa (al aE hr (by decide) rfl (aa (pv 0) (aa (aj aN (pv 1) ae) ac))) ac))))
  (ad (au (i:=4) iX.nd rfl (Or.inl rfl) (aJ ix_list (bo (aa ae (aa ae (aa ae (aa ae (aa ae (aa ae ac))))))) (al aE hr (by decide) rfl (aa (pv 0) (aa ae ac))) (fun _ _=>rfl)))
  (ad (kh (i:=5) (N:=["_law_room","_law_names_here","_law_feed_here"]) (ix:=[2,3,0]) iX.nd rfl (Or.inl rfl) rfl
   (CompScope.three (by rfl') (by decide) rfl (by decide) rfl (by decide) rfl (by rfl') (by rfl') (by rfl') (by rfl') (by rfl') rfl rfl (by rfl') rfl rfl (by rfl') rfl rfl) rfl
   (bY rfl hrange (aa (pv 4) ac))
   (fun _ _ _=>bZ (al eM hr (by decide) rfl (aa (pv 3) (aa (pv 2) (aa (aj aN ae (al aE hr (by decide) rfl (aa (pv 3) (aa (pv 1) ac)))) (aa ae ac)))))))
  (ag (ax (aY (aa (bO bN rfl htuple bX (aa (pv 3) ac)) (aa (bO bN rfl htuple bX (aa (pv 5) ac)) (aa (al lH hr (by decide) rfl (aa (pv 0) (aa (al u6 hr (by decide) rfl (aa (pv 3) (aa (pv 5) ac))) ac))) ac))))))))),?_⟩
 refine ⟨_,rfl,_,rfl,_,rfl,_,_,rfl,rfl,f,_,rfl,hF,(mB m0 m6).1,(mB m0 m6).2,fun mk H1 k0 k7 F1 S1=>?_⟩;refine⟨f,mk,rfl,F1,k0,by omega,fun nl ns H2 nl0 nlf hnl nsl nok nnd F2 S2=>?_⟩;have S02:=S1.trans S2;refine⟨(by show 6<=sizeLine;decide),fun l hl=>?_⟩;have lf:=F2.ne hl;have G2:=zB0 hl (.lst [.int 1,.int 1,.int 1,.int 2,.int 3,.int 4]);refine⟨_,rfl,f,6,rfl,F2.same G2,by decide,by decide,fun j H3 j0 j6 F3 S3=>?_⟩;have hl3:=S3 l _ lf ah;obtain⟨x,hx,xm⟩:=pX (l:=[V.int 1,V.int 1,V.int 1,V.int 2,V.int 3,V.int 4]) (i:=j) j0 (by show j<6;omega);obtain⟨z,rfl,z0,z4⟩:∃z:Int,x=.int z/\1<=z/\z<=4:=by
  simp only[List.mem_cons,List.not_mem_nil,or_false]at xm;rcases xm with h | h | h | h | h | h <;> exact⟨_,h,by decide,by decide⟩
 refine⟨l,_,_,_,rfl,rfl,zG0 hl3,hx,?_⟩;have S23:SameBut f H2 H3:=(zJ0 G2).trans S3;have hnl3:=S23 nl _ nlf hnl;have S03:=S02.trans S23;have nl6:ns.length<=6:=by omega
 refine⟨_,rfl,z,rfl,(zB z0 z4).1,(zB z0 z4).2,fun D hD=>?_⟩;have Df:=F3.ne hD;have nD:nl≠D:=ai hnl3 hD;have GD:=zB0 hD (.lst []);refine cS (fun i H'=>∃(tv:List V)(ts:List Tr),H' D=some (.lst tv)/\TreesAt H' tv ts/\ts.length=i/\(∀t∈ts,t.ok ns/\t.depth<=9/\(t.size:Int)<=room)/\FeedAt H' f/\SameBut f H3 H') ⟨[],[],ah,.nil,rfl,(fun t ht=>by cases ht),F3.same GD,zJ0 GD⟩ ?_ ?_
 . rintro i H4 hi ⟨tv,ts,hD4,TS,tl,tok,F4,S4⟩;have hi':i<z.toNat:=hi;have hnl4:=S4 nl _ nlf hnl3;refine⟨_,rfl,_,rfl,_,rfl,_,rfl,f,room,rfl,F4,(rB r1 r30).1,(rB r1 r30).2,fun e H5 e0 e1 F5 S5=>?_⟩;have hnl5:=S5 nl _ nlf hnl4;refine⟨_,_,rfl,rfl,f,nl,_,_,ns,rfl,F5,.inl hnl5,nl6,(eB e0 e1 r30).1,(eB e0 e1 r30).2,by decide,by decide,fun v t H6 F6 S6 T6 ok6 sz6 dp6=>?_⟩;have S46:=S5.trans S6;have hD6:=S46 D _ Df hD4;have k46:=gi F4 S46;have vl:=TS.length;refine⟨_,hD6,aK (by omega),Nx.of hi ⟨tv++[v],ts++[t],ah,?_,?_,?_,ky F6 Df,?_⟩⟩
   . have k:=yq (H:=H6) (b:=D) (ys:=tv) (zs:=tv++[v]) hD6;exact((TS.mono k46).mono k).append (.cons (T6.mono k) .nil)
   . rw[zR0,qT0,tl]
   . intro u hu;rcases qD0 hu with h | h
     . exact tok u h
     . rw[zQ0 h];have d9:(t.depth:Int)<=9:=dp6;have s9:(t.size:Int)<=1+e:=sz6;exact⟨ok6,by omega,by omega⟩
   . intro b o hb eb;rw[aq (ai eb hD)];exact S46 b o hb (S4 b o hb eb)
 . rintro H4 ⟨tv,ts,hD4,TS,tl,tok,F4,S4⟩;have hnl4:=S4 nl _ nlf hnl3;have tl':ts.length=z.toNat:=tl;have tl1:1<=ts.length:=by omega
   have tl4:ts.length<=4:=by omega
   refine⟨_,rfl,nl,_,rfl,.inl ⟨zG0 hnl4,fun a ha=>?_⟩⟩;have Ga:=zB0 ha (.tup (ns.map V.str));refine⟨_,rfl,D,_,rfl,.inl ⟨zG0 (Ga _ _ hD4),fun b hb=>?_⟩⟩;have Gb:=zB0 hb (.tup tv);have Gab:=Ga.trans Gb;have wfs:∀t∈ts,t.wf:=fun t ht=>Tr.ok_wf nok t (tok t ht).1
   refine⟨_,rfl,_,rfl,_,rfl,nl,D,ns,tv,ts,rfl,Gab _ _ hnl4,Gab _ _ hD4,TS.mono (aB Gab),zX0 tl4 (by decide),fun t ht=>⟨wfs t ht,zX0 (tok t ht).2.1 (by decide),by have:=(tok t ht).2.2;omega⟩,fun m H5 S5 m2 m4 mt mc=>?_⟩;have F5:=(F4.same Gab).same S5;refine⟨f,m,rfl,F5,m2,m4,fun p H6 pp mp p9 F6 S6=>?_⟩;refine⟨(by show 3<=sizeLine;decide),fun g hg=>?_⟩;have Gg:=zB0 hg (.tup [.ref a,.ref b,.int p]);have k6:lI (upd (upd H4 a (.tup (ns.map V.str))) b (.tup tv)) (upd H6 g (.tup [.ref a,.ref b,.int p])):=fun c ys h=>Gg _ _ (gi F5 S6 _ _ (S5 _ _ h))
   refine q g a b ns tv ts p _ ah (k6 _ _ (Gb _ _ ah)) (by omega) nok nnd (k6 _ _ ah) ((TS.mono (aB Gab)).mono k6) tl1 tl4 tok pp (by omega) p9 (by omega) (fun t ht x hx=>by have:=mc t ht x hx;omega) (F6.same Gg) ?_;exact S03.trans (S4.trans ((zJ0 (Gab.trans S5)).trans (S6.trans (zJ0 Gg))))
def iD:Sp:=fun vs H Q _=>∃(v:V)(t:Tr),vs=[v]/\TreeAt H v t/\t.wf/\∀(p:Addr)(xs:List V)(H':Hp),Same H H'->H' p=some (.tup xs)->TreesAt H' xs t.parts->Q (.ref p) H'
theorem lL:FnScope ["tree"] ["tree"] (ak dC):=⟨rfl,rfl,rfl,by decide,rfl,by decide,by decide⟩
theorem lN {f:Addr} {fd:FuncData} (F:Fun K "trees_within" "trees_within" dC f fd):FnOk P w K mg base CX0 1 f fd ["tree"] iD:=by
 refine F.ok lL (fun vs H Q E h=>?_) (fun cdv A outer s H vs Q E hr h=>?_)
 . obtain⟨v,t,rfl,_⟩:=h;rfl
 obtain ⟨v,t,rfl,T,wf,q⟩:=h;refine⟨_,(ad (aX (av bA (aJ aZ (pv 0) ae (fun _ _=>rfl)) aG (ay _)) (ag (ax (aY ac))) aI)
  (ag (ax (dH qi (pv 0) (eQ ae) gH)))),?_⟩
 rcases T.view wf with⟨a,x,rfl,rfl,_,e⟩ | ⟨a,o,xs,rfl,no,xl,e,TS,_⟩
 . refine⟨_,rfl,a,_,0,_,rfl,rfl,zC0 e,rfl,rfl,_,rfl,?_⟩;refine cg rfl ?_;refine⟨(by show 0<=sizeLine;decide),fun p hp=>?_⟩;exact q p [] _ (zB0 hp _) ah .nil
 . refine⟨_,rfl,a,_,0,.str o,rfl,rfl,zC0 e,at0 ..,rfl,_,rfl,?_⟩;refine ba (fun z=>no (by injection z)) ?_;obtain⟨c1,c2⟩:=Eb (.str o) xs xl;refine⟨_,rfl,1,rfl,a,_,rfl,zC0 e,c2,fun p hp=>?_⟩;rw[c1];exact q p xs _ (zB0 hp _) ah (TS.mono (aB (zB0 hp _)))
def dY(n:Nat):Sp:=fun vs H Q _=>∃(v:V)(t:Tr),vs=[v]/\TreeAt H v t/\t.wf/\t.depth<=n/\t.size<=400/\∀(l:Addr)(H':Hp),H l=none->Same H H'->H' l=some (.lst (t.names.map V.str))->Q (.ref l) H'
theorem i7:FnScope ["tree","names","part"] ["tree"] (ak fX):=⟨rfl,rfl,rfl,by decide,rfl,by decide,by decide⟩
theorem uL {n:Nat} {f:Addr} {fd:FuncData} (F:Fun K "names_in" "names_in" fX f fd) (aM:Cal P w K mg base 1 "trees_within" ["tree"] iD) (b8:Cal P w K mg base (n+2) "names_in" ["tree"] (dY n)):FnOk P w K mg base CX0 (n+3) f fd ["tree"] (dY (n+1)):=by
 refine F.ok i7 (fun vs H Q E h=>?_) (fun cdv A outer s H vs Q E hr h=>?_)
 . obtain⟨v,t,rfl,_⟩:=h;rfl
 obtain ⟨v,t,rfl,T,wf,dn,sz,q⟩:=h;refine⟨_,(ad (aX (av bA (aJ aZ (pv 0) ae (fun _ _=>rfl)) aG (ay _)) (ag (ax (bo (aa (aJ aZ (pv 0) ae (fun _ _=>rfl)) ac)))) aI)
  (ad (au (i:=1) i7.nd rfl (Or.inl rfl) (bo ac))
  (ad (cD PassesOwn.never rfl (dk (al aM hr (by omega) rfl (aa (pv 0) ac))) (aQ (i:=2) i7.nd rfl (Or.inl rfl)) (ag (bV (nJ PySem.F.plainAttrs_list PySem.F.slot_list_extend PySem.F.type_list_extend yg (pv 1) (aa (al b8 hr (zI0 _) rfl (aa (pv 2) ac)) ac)))))
  (ag (ax (pv 1)))))),?_⟩
 have wf':=wf;rcases T.view wf with⟨a,x,rfl,rfl,_,e⟩ | ⟨a,o,xs0,rfl,no,xl0,e,_,nis⟩
 . refine⟨_,rfl,a,_,0,_,rfl,rfl,zC0 e,rfl,rfl,_,rfl,?_⟩;refine cg rfl ?_;refine⟨_,rfl,a,_,1,_,rfl,rfl,zC0 e,rfl,(by show 1<=sizeLine;decide),fun p hp=>?_⟩;exact q p _ hp (zB0 hp _) ah
 . refine ⟨_,rfl,a,_,0,.str o,rfl,rfl,zC0 e,at0 ..,rfl,_,rfl,?_⟩;refine ba (fun z=>no (by injection z)) ?_;refine⟨(by show 0<=sizeLine;decide),fun L hL=>?_⟩;have G0:=zB0 hL (.lst []);refine⟨_,rfl,_,t,rfl,T.mono (aB G0),wf,fun p xs H1 S1 hp TS=>?_⟩;have hL1:H1 L=some (.lst []):=S1 _ _ ah;have pL:p≠L:=fun z=>by rw[z,hL1]at hp;cases hp
   have xl:=TS.length;have sp:=t.size_parts;refine⟨p,rfl,⟨_,zC0 hp⟩,qY (K:=K) (xs:=xs) (fun i σ H'=>∃x2,σ=[some (.ref a),some (.ref L),x2]/\H' L=some (.lst ((gh (t.parts.take i)).map V.str))/\SameBut L H1 H') ⟨_,rfl,hL1,SameBut.refl _ _⟩ (fun i σ H' _ hst=>by obtain⟨_,_,_,h⟩:=hst;exact zC0 (h _ _ pL hp)) ?_ ?_⟩
   . rintro i x σ H2 hx ⟨x2,rfl,hl,S2⟩;obtain⟨u,hu,Tu⟩:=TS.get hx;have um:=zZ0 hu;obtain⟨uw,ud,us⟩:=Tr.parts_mem um wf;have Tu2:TreeAt H2 x u:=Tu.mono fun b ys h=>S2 b _ (fun z=>by rw[z,hL1]at h;cases h) h
     refine⟨_,rfl,.inl ⟨rfl,_,zG0 hl⟩,_,rfl,x,u,rfl,Tu2,uw,by omega,by omega,fun l H3 l0 S3 hl3=>?_⟩;have nl:=u.names_len;have nl2:=nR (t.parts.take i);have nl3:=mS t.parts i;refine⟨L,l,_,_,rfl,rfl,S3 _ _ hl,hl3,?_,?_⟩
     . rw[zE0,zE0];exact cL (by omega)
     refine⟨_,rfl,?_,fun b o hb h=>?_⟩
     . rw[ah,ly hu,zK0]
     . rw[aq hb];exact S3 _ _ (S2 _ _ hb h)
   . rintro σ H2 ⟨x2,rfl,hl,S2⟩;rw[xl,qG0,←t.names_parts nis]at hl;refine⟨_,rfl,?_⟩;refine q L H2 hL (fun b o h=>?_) hl;exact S2 b o (ai h hL) (S1 _ _ (G0 _ _ h))
theorem uK {f:Addr} {fd:FuncData}:FnOk P w K mg base CX0 2 f fd ["tree"] (dY 0):=by
 have no:∀vs H Q E,¬ dY 0 vs H Q E:=fun vs H Q E h=>by
  obtain⟨v,t,_,_,_,h1,_⟩:=h
  have:=t.depth_pos
  omega
 exact⟨fun vs H Q E h=>absurd h (no vs H Q E),fun A outer s H args us vs Q E _ _ _ _ h=>absurd h (no vs H Q E)⟩
theorem lx {f:Addr} {fd:FuncData} (F:Fun K "names_in" "names_in" fX f fd) (m:mg "names_in"=some (.ref f)) (aM:Cal P w K mg base 1 "trees_within" ["tree"] iD) :
 ∀n:Nat,FnOk P w K mg base CX0 (n+2) f fd ["tree"] (dY n)
 | 0=>uK
 | n+1=>uL F aM (Cal.of F (lx F m aM n) m (fun _ _ _ _ _ _ us hl=>by obtain⟨u0,rfl⟩:=gw hl;rfl))
def vZ:Sp:=fun vs H Q _=>∃n:Int,vs=[.int n]/\n<=999999/\∀b:Bool,(b=true↔2<n/\Pr n)->Q (.bl b) H
theorem i8:FnScope ["number","divisor"] ["number"] (ak im):=⟨rfl,rfl,rfl,by decide,rfl,by decide,by decide⟩
theorem rZ {f:Addr} {fd:FuncData} (F:Fun K "is_field" "is_field" im f fd):FnOk P w K mg base CX0 1 f fd ["number"] vZ:=by
 refine F.ok i8 (fun vs H Q E h=>?_) (fun cdv A outer s H vs Q E hr h=>?_)
 . obtain⟨n,rfl,_⟩:=h;rfl
 obtain ⟨n,rfl,n9,q⟩:=h;refine⟨_,(ad (aX (PW.pt (lq (av ko (pv 0) ae (ay _)) (jF (av bA (aj aW (pv 0) ae) ae (ay _))))) (ag (ax fg)) aI)
  (ad (au (i:=1) i8.nd rfl (Or.inl rfl) ae)
  (ad (kg PassesOwn.never (av zU (aj bn (pv 1) (pv 1)) (pv 0) (ay _)) (ad (aX (av bA (aj aW (pv 0) (pv 1)) ae (ay _)) (ag (ax fg)) aI)
   (ag (au (i:=1) i8.nd rfl (Or.inl rfl) (aj aN (pv 1) ae)))))
  (ag (ax fg))))),?_⟩
 refine⟨_,rfl,_,_,rfl,rfl,_,rfl,?_⟩
 by_cases c:n<3
 . refine cg c ?_;refine fE ?_;exact q false ⟨fun z=>(nomatch z),fun z=>by omega⟩
 refine ba c ?_;refine⟨_,rfl,_,_,rfl,rfl,(by show(0:Int)<_;decide),rfl,_,rfl,?_⟩
 by_cases c2:n % 2=0
 . refine cg (congrArg V.int c2) ?_;exact q false ⟨fun z=>(nomatch z),fun z=>absurd z.2 (yz c2 (by omega))⟩
 refine ba (fun z=>c2 (V.int.inj z)) ?_;refine⟨fun m σ H'=>∃d:Int,σ=[some (.int n),some (.int d)]/\H'=H/\3<=d/\d<=1001/\d % 2=1/\tE n d/\m=(n+3-d).toNat,⟨_,3,rfl,rfl,by omega,by omega,by omega,yc n,rfl⟩,?_⟩;rintro m σ H' ⟨d,rfl,rfl,d3,d9,d2,u,rfl⟩;refine⟨_,rfl,_,rfl,_,_,rfl,rfl,.inl ⟨by omega,by omega⟩,_,rfl,_,_,rfl,rfl,_,rfl,?_⟩
 by_cases c3:d*d<=n
 . refine cg c3 ?_;have r1:=ub n9 d3 c3;have r2:=Bx d3 c3;refine⟨_,fun _ _ h=>h,?_⟩;refine⟨_,rfl,_,rfl,_,_,rfl,rfl,(show 0<d by omega),rfl,_,rfl,?_⟩
   by_cases c4:n % d=0
   . refine cg (congrArg V.int c4) ?_;exact q false ⟨fun z=>(nomatch z),fun z=>absurd z.2 (yy n9 d3 c3 c4)⟩
   refine ba (fun z=>c4 (V.int.inj z)) ?_;refine⟨_,rfl,_,_,rfl,rfl,?_⟩;exact⟨_,by omega,d+2,rfl,rfl,by omega,by omega,by omega,Ac u d2 c4,rfl⟩
 . refine ba c3 ?_;exact q true ⟨fun _=>⟨by omega,yx (by omega) c2 d3 u (by omega)⟩,fun _=>rfl⟩
abbrev lZ:Stmt:=cu uk 0
abbrev qq:Stmt:=cu uk 1
abbrev jX:Stmt:=cu uk 2
def gf (a b:Addr) (p:Int) (d:Addr):List (Str×V):=bS "degrees" (.ref d) (bS "field" (.int p) (bS "trees" (.ref b) (bS "switches" (.ref a) [])))
theorem wD (a b:Addr) (p:Int) (d:Addr):(gf a b p d).lookup ("switches":Str)=some (.ref a):=by
 unfold gf;rw[aS,zD0 (by decide),aS,zD0 (by decide),aS,zD0 (by decide),aS,zF0 rfl]
theorem pM (a b:Addr) (p:Int) (d:Addr):(gf a b p d).lookup ("trees":Str)=some (.ref b):=by
 unfold gf;rw[aS,zD0 (by decide),aS,zD0 (by decide),aS,zF0 rfl]
theorem jD (a b:Addr) (p:Int) (d:Addr):(gf a b p d).lookup ("field":Str)=some (.int p):=by
 unfold gf;rw[aS,zD0 (by decide),aS,zF0 rfl]
theorem CH (a b:Addr) (p:Int) (d:Addr):(gf a b p d).lookup ("degrees":Str)=some (.ref d):=by
 unfold gf;rw[aS,zF0 rfl]
theorem wE (a b:Addr) (p:Int) (d:Addr) {m:Str} (h1:¬ m="degrees") (h2:¬ m="field") (h3:¬ m="trees") (h4:¬ m="switches"):(gf a b p d).lookup m=none:=by
 unfold gf;rw[aS,zD0 h1,aS,zD0 h2,aS,zD0 h3,aS,zD0 h4]
 all_goals rfl
structure GTxt(K:W.Frag)(mg:Str->Option Value)(C:Addr):Prop where
 cl:Cls K C
 nS:NoAttr K C "switches"
 nT:NoAttr K C "trees"
 nF:NoAttr K C "field"
 nD:NoAttr K C "degrees"
 mgC:mg "Game"=some (.ref C)
theorem tx(g:Nat->Int):∀n,∃k,k<=n/\cV g n=g k
 | 0=>⟨0,zI0 _,rfl⟩
 | n+1=>by
   obtain⟨k,hk,e⟩:=tx g n;unfold cV
   split
   . exact⟨n+1,zI0 _,rfl⟩
   . exact⟨k,by omega,e⟩
theorem iO{ns:List Int}(h:ns≠[]):yi ns 0∈ns:=by
 cases ns with
 | nil=>exact absurd rfl h
 | cons a r=>
   obtain ⟨k,hk,e⟩:=tx (fun i=>(a::r)[i]?.getD 0) ((a::r).length-1);have e1:yi (a::r) 0=cV (fun i=>(a::r)[i]?.getD 0) ((a::r).length-1):=rfl;have hl:k<(a::r).length:=by
    rw[zV0]at hk ⊢;omega
   rw[e1,e];show(a::r)[k]?.getD 0∈a::r;rw[zU0 hl];exact qR0 hl
def bj(ts:List Tr)(x:Str):Int:=yi (ts.map fun t=>(t.names.count x:Int)) 0
theorem sR{ts:List Tr}{x:Str}{p:Int}(h0:ts≠[])(h:∀t∈ts,(t.names.count x:Int)<p):bj ts x<p:=by
 have:=iO (ns:=ts.map fun t=>(t.names.count x:Int)) (by simpa using h0)
 obtain⟨t,ht,e⟩:=List.mem_map.mp this;unfold bj;rw[←e];exact h t ht
def Cw:Sp:=fun vs H Q _=>∃(x:Str)(b:Addr)(tv:List V)(ts:List Tr),vs=[.str x,.ref b]/\H b=some (.tup tv)/\TreesAt H tv ts/\ts≠[]/\ts.length<=10/\(∀t∈ts,t.wf/\t.depth<=10/\t.size<=400)/\∀H',Same H H'->Q (.int (bj ts x)) H'
theorem qm:FnScope ["name","trees"] ["name","trees"] (ak gE):=⟨rfl,rfl,rfl,by decide,rfl,by decide,by decide⟩
theorem qL {f:Addr} {fd:FuncData} (F:Fun K "degree_of" "degree_of" gE f fd) (hmax:mg "max"=none) (b8:Cal P w K mg base 12 "names_in" ["tree"] (dY 10)):FnOk P w K mg base CX0 13 f fd ["name","trees"] Cw:=by
 refine F.ok qm (fun vs H Q E h=>?_) (fun cdv A outer s H vs Q E hr h=>?_)
 . obtain⟨x,b,tv,ts,rfl,_⟩:=h;rfl
 obtain ⟨x,b,tv,ts,rfl,hb,TS,t0,tl,tok,q⟩:=h;refine⟨_,(ag (ax (aD (kX rfl) rfl hmax PyProof.Rows.boot_max (aa (cz (N:=["name"]) (ix:=[0]) rfl
  (CompScope.one (by rfl') (by decide) rfl (by decide) rfl (by decide) (by rfl') (by rfl') (by rfl') rfl rfl) rfl
  (dk (pv 1)) (fun _ _ _=>bZ (qE K PySem.F.plainAttrs_list PySem.F.slot_list_count PySem.F.type_list_count (kQ K) (al b8 hr (by decide) rfl (aa (pv 0) ac)) (aa (pv 1) ac)))) ac)))),?_⟩
 have vl:=TS.length;refine⟨_,rfl,b,rfl,⟨_,zC0 hb⟩,fun D hD=>?_⟩;refine cG (K:=K) (xs:=tv) (fun i H'=>H' D=some (.lst (((ts.take i).map fun t=>(t.names.count x:Int)).map V.int))/\Same H H') ⟨by rw[ah];rfl,zB0 hD _⟩ (fun i H' _ h=>zC0 (h.2 _ _ hb)) ?_ ?_
 . rintro i z H2 hz ⟨hl,S2⟩;obtain⟨t,ht,T⟩:=TS.get hz;obtain⟨tw,td,tz⟩:=tok t (zZ0 ht);have hi:i<tv.length:=(zT0 hz).1;refine⟨_,rfl,z,t,rfl,T.mono (aB S2),tw,by omega,tz,fun l H3 l0 S3 hl3=>?_⟩;refine⟨.inl ⟨rfl,_,zG0 hl3⟩,_,rfl,l,_,_,rfl,rfl,zG0 hl3,eK _,rfl,?_⟩;rw[jJ];refine⟨_,S3 _ _ hl,?_,Nx.of hi ⟨?_,fun b' o' e'=>?_⟩⟩
   . rw[zE0,zE0,qJ0];exact aK (by omega)
   . rw[ah,qI0,ht,zK0,zK0];rfl
   . rw[aq (ai e' hD)];exact S3 _ _ (S2 _ _ e')
 . rintro H2 ⟨hl,S2⟩;rw[vl,qG0]at hl;exact⟨D,_,rfl,zG0 hl,by simpa using t0,q H2 S2⟩
def vT:Sp:=fun vs H Q _=>∃(a:Addr)(ns:List Str),vs=[.ref a]/\H a=some (.tup (ns.map V.str))/\ns.Nodup/\ns.length<=10/\∀H',Same H H'->Q .non H'
theorem wC(x:Str)(ns:List Str):inV (.str x) (ns.map V.str)=decide (x∈ns):=by
 unfold inV
 induction ns with
 | nil=>rfl
 | cons a r ih=>
   rw [qF0,List.any_cons,ih];have e:eqV (.str a) (.str x)=decide (x=a):=by
    show(a==x)=_
    by_cases c:x=a
    . subst c;simp
    . rw[decide_eq_false c];simpa using fun h=>c h.symm
   rw[e]
   by_cases c1:x=a <;> by_cases c2:x∈r <;> simp [c1,c2]
theorem eO:FnScope ["switches","place","name"] ["switches"] (ak cZ):=⟨rfl,rfl,rfl,by decide,rfl,by decide,by decide⟩
theorem kP {f:Addr} {fd:FuncData} (F:Fun K "look_switches" "look_switches" cZ f fd) (henum:mg "enumerate"=none):FnOk P w K mg base CX0 1 f fd ["switches"] vT:=by
 refine F.ok eO (fun vs H Q E h=>?_) (fun cdv A outer s H vs Q E hr h=>?_)
 . obtain⟨a,ns,rfl,_⟩:=h;rfl
 obtain ⟨a,ns,rfl,ha,nd,nl,q⟩:=h;refine⟨_,(ag (cD PassesOwn.never rfl (zM rfl henum (pv 0)) (nI rfl (bx (aQ (i:=1) eO.nd rfl (Or.inl rfl)) (bx (aQ (i:=2) eO.nd rfl (Or.inl rfl)) jp)))
  (ag (aX (av jt (pv 2) (dH qi (pv 0) gH (eQ (pv 1))) (by rfl')) jn aI)))),?_⟩
 refine⟨_,rfl,a,rfl,⟨_,zC0 ha⟩,yw (K:=K) (xs:=ns.map V.str) (fun i σ H'=>∃x1 x2:Option V,σ=[some (.ref a),x1,x2]/\Same H H') ⟨_,_,rfl,Same.refl _⟩ (fun i σ H' _ hst=>by obtain⟨_,_,_,h⟩:=hst;exact zC0 (h _ _ ha)) ?_ ?_⟩
 . rintro i z σ H1 t hz ⟨x1,x2,rfl,S1⟩ ht;have hi:i<(ns.map V.str).length:=(zT0 hz).1;rw[qE0]at hz;obtain⟨x,hx,rfl⟩:=qS0 hz;have G:=zB0 ht (.tup [.int (i:Int),.str x]);have S2:=S1.trans G;have hi':i<ns.length:=by rw[zE0]at hi;exact hi
   refine⟨t,_,rfl,zC0 ah,rfl,_,_,rfl,_,_,rfl,rfl,?_⟩;refine⟨_,rfl,_,rfl,_,rfl,(i:Int),rfl,a,_,rfl,zC0 (S2 _ _ ha),?_,fun c hc=>?_⟩
   . rintro⟨_,h⟩;rw[HT.sIx_nat]at h;omega
   . refine ⟨c,_,rfl,.inr (zC0 ah),rfl,?_,_,rfl,?_⟩
     . have ec:eZ (ns.map V.str) none (some (i:Int))=(ns.take i).map V.str:=by
        unfold eZ;rw[HT.sIx_none,HT.sIx_nat,List.drop_zero,Nat.sub_zero,List.map_take]
        congr 1
        omega
       rw[ec];exact eK _
     . have ec:eZ (ns.map V.str) none (some (i:Int))=(ns.take i).map V.str:=by
        unfold eZ;rw[HT.sIx_none,HT.sIx_nat,List.drop_zero,Nat.sub_zero,List.map_take]
        congr 1
        omega
       show if inV (.str x) (eZ (ns.map V.str) none (some (i:Int)))=true then _ else _
       rw[ec,wC,decide_eq_false ?_]
       . refine eJ ?_;exact⟨_,_,rfl,S2.trans (zB0 hc _)⟩
       . intro hm;obtain⟨j,hj,e⟩:=List.getElem_of_mem hm;rw[qJ0]at hj;rw[List.getElem_take]at e;have ex:ns[i]=x:=by
          rw[zU0 hi']at hx;exact zO0 hx
         exact List.pairwise_iff_getElem.mp nd j i (by omega) hi' (by omega) (e.trans ex.symm)
 . rintro σ H1 ⟨x1,x2,rfl,S1⟩;exact q H1 S1
theorem kr{ns:List Str}:∀t:Tr,t.ok ns->∀x∈t.names,x∈ns
 | .is y,h,x,hx=>by rw[zQ0 hx];exact h
 | .yes,_,x,hx=>by cases hx
 | .no,_,x,hx=>by cases hx
 | .not a,h,x,hx=>kr a h x hx
 | .bin _ a b,⟨_,h1,h2⟩,x,hx=>by
   rcases qD0 hx with h | h
   . exact kr a h1 x h
   . exact kr b h2 x h
def vU:Sp:=fun vs H Q _=>∃(a b:Addr)(ns:List Str)(tv:List V)(ts:List Tr),vs=[.ref b,.ref a]/\H a=some (.tup (ns.map V.str))/\H b=some (.tup tv)/\TreesAt H tv ts/\(∀t∈ts,t.ok ns/\t.wf/\t.depth<=10/\t.size<=400)/\∀H',Same H H'->Q .non H'
theorem gK:FnScope ["trees","switches","tree","name"] ["trees","switches"] (ak fj):=⟨rfl,rfl,rfl,by decide,rfl,by decide,by decide⟩
theorem oK {f:Addr} {fd:FuncData} (F:Fun K "look_names" "look_names" fj f fd) (b8:Cal P w K mg base 12 "names_in" ["tree"] (dY 10)):FnOk P w K mg base CX0 13 f fd ["trees","switches"] vU:=by
 refine F.ok gK (fun vs H Q E h=>?_) (fun cdv A outer s H vs Q E hr h=>?_)
 . obtain⟨a,b,ns,tv,ts,rfl,_⟩:=h;rfl
 obtain ⟨a,b,ns,tv,ts,rfl,ha,hb,TS,tok,q⟩:=h;refine⟨_,(ag (cD PassesOwn.never rfl (dk (pv 0)) (aQ (i:=2) gK.nd rfl (Or.inl rfl))
  (ag (cD PassesOwn.never rfl (dG (al b8 hr (by decide) rfl (aa (pv 2) ac))) (aQ (i:=3) gK.nd rfl (Or.inl rfl))
   (ag (aX (av qF (pv 3) (pv 1) (by rfl')) jn aI)))))),?_⟩
 refine⟨_,rfl,b,rfl,⟨_,zC0 hb⟩,qY (K:=K) (xs:=tv) (fun i σ H'=>∃x2 x3:Option V,σ=[some (.ref b),some (.ref a),x2,x3]/\Same H H') ⟨_,_,rfl,Same.refl _⟩ (fun i σ H' _ hst=>by obtain⟨_,_,_,h⟩:=hst;exact zC0 (h _ _ hb)) ?_ ?_⟩
 . rintro i z σ H1 hz ⟨x2,x3,rfl,S1⟩;obtain⟨t,ht,T⟩:=TS.get hz;obtain⟨tk,tw,td,tz⟩:=tok t (zZ0 ht);refine⟨_,rfl,z,t,rfl,T.mono (aB S1),tw,by omega,tz,fun l H2 l0 S2 hl=>?_⟩;have S12:=S1.trans S2;refine⟨l,rfl,⟨_,zG0 hl⟩,cY (K:=K) (xs:=t.names.map V.str) (fun j σ H'=>∃x3:Option V,σ=[some (.ref b),some (.ref a),some z,x3]/\H'=H2) ⟨_,rfl,rfl⟩ (fun j σ H' _ hst=>by obtain⟨_,_,h⟩:=hst;subst h;exact zG0 hl) ?_ ?_⟩
   . rintro j y σ H3 hy ⟨y3,rfl,rfl⟩;rw[qE0]at hy;obtain⟨x,hx,rfl⟩:=qS0 hy;refine⟨_,rfl,_,rfl,a,_,rfl,.inr (zC0 (S12 _ _ ha)),rfl,eK _,_,rfl,?_⟩;show if(!inV (.str x) (ns.map V.str))=true then _ else _
     rw[wC,decide_eq_true (kr t tk x (zZ0 hx))];refine eJ ?_;exact⟨_,rfl,rfl⟩
   . rintro σ H3 ⟨y3,rfl,rfl⟩;exact⟨_,_,rfl,S12⟩
 . rintro σ H1 ⟨x2,x3,rfl,S1⟩;exact q H1 S1
def vV:Sp:=fun vs H Q _=>∃p:Int,vs=[.int p]/\Pr p/\2<p/\p<=999983/\Q .non H
theorem oJ:FnScope ["field"] ["field"] (ak fk):=⟨rfl,rfl,rfl,by decide,rfl,by decide,by decide⟩
theorem oM {f:Addr} {fd:FuncData} (F:Fun K "look_field" "look_field" fk f fd) (hend:∃t,mg "FIELDS_END"=some (.int 1000000 t)) (j8:Cal P w K mg base 1 "is_field" ["number"] vZ):FnOk P w K mg base CX0 2 f fd ["field"] vV:=by
 refine F.ok oJ (fun vs H Q E h=>?_) (fun cdv A outer s H vs Q E hr h=>?_)
 . obtain⟨p,rfl,_⟩:=h;rfl
 obtain⟨p,rfl,pp,p2,p9,q⟩:=h;obtain⟨te,ge⟩:=hend;refine⟨_,(ag (aX (PW.pt (lq (av CD (pv 0) (da (v:=.int 1000000) rfl ge ⟨_,rfl⟩) (ay _)) (jF (kN (fZ (al j8 hr (by decide) rfl (aa (pv 0) ac))))))) jn aI)),?_⟩;refine⟨_,rfl,_,_,rfl,rfl,_,rfl,?_⟩;refine ba (by omega) ?_;refine⟨_,rfl,p,rfl,by omega,fun b hb=>⟨b,rfl,?_⟩⟩;rw[hb.mpr ⟨p2,pp⟩];exact eJ q
def vS:Sp:=fun vs H Q _=>∃(p:Int)(d:Addr)(ns:List Int),vs=[.int p,.ref d]/\H d=some (.lst (ns.map V.int))/\ns≠[]/\(∀n∈ns,n<p)/\Q .non H
theorem lU:FnScope ["field","degrees","greatest"] ["field","degrees"] (ak gx):=⟨rfl,rfl,rfl,by decide,rfl,by decide,by decide⟩
theorem qH {f:Addr} {fd:FuncData} (F:Fun K "look_size" "look_size" gx f fd) (hmax:mg "max"=none):FnOk P w K mg base CX0 1 f fd ["field","degrees"] vS:=by
 refine F.ok lU (fun vs H Q E h=>?_) (fun cdv A outer s H vs Q E hr h=>?_)
 . obtain⟨p,d,ns,rfl,_⟩:=h;rfl
 obtain ⟨p,d,ns,rfl,hd,n0,nl,q⟩:=h;refine⟨_,(ad (au (i:=2) lU.nd rfl (Or.inl rfl) (aD (kX rfl) rfl hmax PyProof.Rows.boot_max (aa (pv 1) ac)))
  (ag (aX (av zU (pv 0) (pv 2) (ay _)) jn aI))),?_⟩
 refine⟨_,rfl,d,ns,rfl,zG0 hd,n0,?_⟩;refine⟨_,rfl,_,rfl,_,_,rfl,rfl,_,rfl,?_⟩
 have:=nl _ (iO n0)
 exact ba (by omega) q
theorem fY(f:Str)(v:V):∀fs:List (Str×V),(bS f v fs).length<=fs.length+1
 | []=>zI0 _
 | (g,u)::r=>by
   have:=fY f v r
   unfold bS
   split
   . simp
   . simp only[zV0];omega
def gf3 (a b:Addr) (p:Int):List (Str×V):=bS "field" (.int p) (bS "trees" (.ref b) (bS "switches" (.ref a) []))
theorem DR (a b:Addr) (p:Int):(gf3 a b p).lookup ("switches":Str)=some (.ref a):=by
 unfold gf3;rw[aS,zD0 (by decide),aS,zD0 (by decide),aS,zF0 rfl]
theorem DQ (a b:Addr) (p:Int):(gf3 a b p).lookup ("trees":Str)=some (.ref b):=by
 unfold gf3;rw[aS,zD0 (by decide),aS,zF0 rfl]
def GameAt(C:Addr)(H:Hp)(g a b d:Addr)(p:Int):Prop:=∃dx,H g=some (.ins C dx (gf a b p d))
theorem GameAt.same{C:Addr}{H H':Hp}{g a b d:Addr}{p:Int}(h:GameAt C H g a b d p)(s:Same H H'):GameAt C H' g a b d p:=by
 obtain⟨dx,e⟩:=h;exact⟨dx,s _ _ e⟩
def vY(C:Addr):Sp:=fun vs H Q _=>∃(g dx a b:Addr)(ns:List Str)(tv:List V)(ts:List Tr)(p:Int),vs=[.ref g,.ref a,.ref b,.int p]/\H g=some (.ins C dx [])/\H a=some (.tup (ns.map V.str))/\ns.Nodup/\ns.length<=10/\H b=some (.tup tv)/\TreesAt H tv ts/\1<=ts.length/\ts.length<=10/\
 (∀t∈ts,t.ok ns/\t.wf/\t.depth<=10/\t.size<=400)/\Pr p/\2<p/\p<=999983/\(ts.length:Int)<=p/\(∀t∈ts,∀x∈ns,(t.names.count x:Int)<p)/\
 ∀(d:Addr)(H':Hp),H d=none->GameAt C H' g a b d p->H' d=some (.lst ((ns.map (bj ts)).map V.int))->SameBut g H H'->Q .non H'
theorem zx:FnScope ["self","switches","trees","field"] ["self","switches","trees","field"] (ak lZ):=⟨rfl,rfl,rfl,by decide,rfl,by decide,by decide⟩
theorem Aa {f C:Addr} {fd:FuncData} (F:Fun K "__init__" "Game.__init__" lZ f fd) (T:GTxt K mg C) (htuple:mg "tuple"=none) (hlen:mg "len"=none) (i9:Cal P w K mg base 13 "degree_of" ["name","trees"] Cw) (e6:Cal P w K mg base 1 "look_switches" ["switches"] vT)
 (iB:Cal P w K mg base 13 "look_names" ["trees","switches"] vU) (iE:Cal P w K mg base 2 "look_field" ["field"] vV) (jb:Cal P w K mg base 1 "look_size" ["field","degrees"] vS):FnOk P w K mg base CX0 14 f fd ["self","switches","trees","field"] (vY C):=by
 refine F.ok zx (fun vs H Q E h=>?_) (fun cdv A outer s H vs Q E hr h=>?_)
 . obtain⟨g,dx,a,b,ns,tv,ts,p,rfl,_⟩:=h;rfl
 obtain ⟨g,dx,a,b,ns,tv,ts,p,rfl,hg,ha,nd,nl,hb,TS,t1,t10,tok,pp,p2,p9,tp,tc,q⟩:=h;refine⟨_,(ad (bJ (pv 0) (bO bN rfl htuple bX (aa (pv 1) ac)) rfl)
  (ad (bJ (pv 0) (bO bN rfl htuple bX (aa (pv 2) ac)) rfl)
  (ad (bJ (pv 0) (pv 3) rfl)
  (ad (bJ (pv 0) (cz (N:=["self"]) (ix:=[0]) rfl
   (CompScope.one (by rfl') (by decide) rfl (by decide) rfl (by decide) (by rfl') (by rfl') (by rfl') rfl rfl) rfl
   (dk (aU (pv 0) rfl)) (fun _ _ _=>bZ (al i9 hr (by decide) rfl (aa (pv 0) (aa (km K (pv 1)) ac))))) rfl)
  (ad (bV (al e6 hr (by decide) rfl (aa (aU (pv 0) rfl) ac)))
  (ad (bV (al iB hr (by decide) rfl (aa (aU (pv 0) rfl) (aa (aU (pv 0) rfl) ac))))
  (ad (bV (al iE hr (by decide) rfl (aa (pv 3) ac)))
  (ag (bV (al jb hr (by decide) rfl (aa (pv 3) (aa (aj dI (aU (pv 0) rfl) (bo (aa (aj bd (aD az rfl hlen PySem.boot_len (aa (aU (pv 0) rfl) ac)) ae) ac))) ac)))))))))))),?_⟩
 have nag:a≠g:=dh ha hg (by intro z;cases z);have nbg:b≠g:=dh hb hg (by intro z;cases z);have vl:=TS.length;refine⟨_,rfl,a,_,rfl,.inr ⟨zC0 ha,_,rfl,g,C,dx,[],rfl,hg,T.cl,T.nS,(by show 0<1000;decide),?_⟩⟩;refine⟨_,rfl,b,_,rfl,.inr ⟨zC0 (by rw[aq nbg];exact hb),_,rfl,g,C,dx,_,rfl,ah,T.cl,T.nT,(Nat.lt_of_le_of_lt (fY _ _ _) (by show 1<1000;decide)),?_⟩⟩;refine⟨_,rfl,_,rfl,g,C,dx,_,rfl,ah,T.cl,T.nF,(Nat.lt_of_le_of_lt (fY _ _ _) (Nat.lt_of_le_of_lt (Nat.succ_le_succ (fY _ _ _)) (by show 2<1000;decide))),?_⟩;have S3:SameBut g H (upd (upd (upd H g (.ins C dx (bS "switches" (.ref a) []))) g (.ins C dx (bS "trees" (.ref b) (bS "switches" (.ref a) [])))) g (.ins C dx (bS "field" (.int p) (bS "trees" (.ref b) (bS "switches" (.ref a) []))))):=
  (SameBut.upd _).trans ((SameBut.upd _).trans (SameBut.upd _))
 have hg3:upd (upd (upd H g (.ins C dx (bS "switches" (.ref a) []))) g (.ins C dx (bS "trees" (.ref b) (bS "switches" (.ref a) [])))) g (.ins C dx (bS "field" (.int p) (bS "trees" (.ref b) (bS "switches" (.ref a) [])))) g=some (.ins C dx (gf3 a b p)):=ah;generalize upd (upd (upd H g (.ins C dx (bS "switches" (.ref a) []))) g (.ins C dx (bS "trees" (.ref b) (bS "switches" (.ref a) [])))) g (.ins C dx (bS "field" (.int p) (bS "trees" (.ref b) (bS "switches" (.ref a) []))))=H3 at S3 hg3;have kT:lI H H3:=fun c xs h=>S3 c _ (dh h hg (by intro z;cases z)) h
 have ha3:=kT _ _ ha;have hb3:=kT _ _ hb;have TS3:=TS.mono kT;refine⟨_,rfl,g,C,dx,_,_,rfl,hg3,T.cl,T.nS,DR ..,a,rfl,⟨_,zC0 ha3⟩,fun D hD=>?_⟩;have D0:H D=none:=by
  cases e:H D with
  | none=>rfl
  | some o=>
    by_cases c:D=g
    . rw[c,hg3]at hD;cases hD
    . rw[S3 D o c e]at hD;cases hD
 refine cG (K:=K) (xs:=ns.map V.str) (fun i H'=>H' D=some (.lst (((ns.take i).map (bj ts)).map V.int))/\Same H3 H') ⟨by rw[ah];rfl,zB0 hD _⟩ (fun i H' _ h=>zC0 (h.2 _ _ ha3)) ?_ ?_
 . rintro i z H4 hz ⟨hl,S4⟩;have hi:i<(ns.map V.str).length:=(zT0 hz).1;rw[qE0]at hz;obtain⟨x,hx,rfl⟩:=qS0 hz;refine⟨_,rfl,_,rfl,g,C,dx,_,_,rfl,S4 _ _ hg3,T.cl,T.nT,DQ ..,x,b,tv,ts,rfl,S4 _ _ hb3,TS3.mono (aB S4),?_,t10,fun t ht=>(tok t ht).2,fun H5 S5=>?_⟩
   . intro e;rw[e]at t1;exact absurd t1 (by decide)
   refine⟨_,S5 _ _ hl,?_,Nx.of hi ⟨?_,fun b' o' e'=>?_⟩⟩
   . rw[zE0,zE0,qJ0];exact aK (by omega)
   . rw[ah,qI0,hx,zK0,zK0];rfl
   . rw[aq (ai e' hD)];exact S5 _ _ (S4 _ _ e')
 rintro H4 ⟨hl,S4⟩;rw[zE0,qG0]at hl;refine⟨_,rfl,g,C,dx,_,rfl,S4 _ _ hg3,T.cl,T.nD,?_,?_⟩
 . exact Nat.lt_of_le_of_lt (zX0 (fY _ _ _) (Nat.succ_le_succ (zX0 (fY _ _ _) (Nat.succ_le_succ (fY _ _ _))))) (by show 3<1000;decide)
 have nDg:D≠g:=fun z=>by rw[z,hg3]at hD;cases hD
 have hg5:upd H4 g (.ins C dx (gf a b p D)) g=some (.ins C dx (gf a b p D)):=ah;have S5:SameBut g H (upd H4 g (.ins C dx (gf a b p D))):=S3.trans ((zJ0 S4).trans (SameBut.upd _));have hD5:upd H4 g (.ins C dx (gf a b p D)) D=some (.lst ((ns.map (bj ts)).map V.int)):=by rw[aq nDg];exact hl
 show _;generalize he5:upd H4 g (.ins C dx (gf a b p D))=H5 at hg5 S5 hD5;have kT5:lI H H5:=fun c xs h=>S5 c _ (dh h hg (by intro z;cases z)) h
 rw[show upd H4 g (.ins C dx (bS "degrees" (.ref D) (gf3 a b p)))=H5 from he5];refine⟨_,rfl,g,C,dx,_,_,rfl,hg5,T.cl,T.nS,wD ..,a,ns,rfl,kT5 _ _ ha,nd,nl,fun H6 S6=>?_⟩;have kT6:lI H H6:=fun c xs h=>S6 _ _ (kT5 c xs h)
 refine⟨_,rfl,g,C,dx,_,_,rfl,S6 _ _ hg5,T.cl,T.nT,pM ..,_,rfl,g,C,dx,_,_,rfl,S6 _ _ hg5,T.cl,T.nS,wD ..,a,b,ns,tv,ts,rfl,kT6 _ _ ha,kT6 _ _ hb,TS.mono kT6,tok,fun H7 S7=>?_⟩;have S57:=S6.trans S7;refine⟨_,rfl,p,rfl,pp,p2,p9,?_⟩;refine⟨_,rfl,_,rfl,g,C,dx,_,_,rfl,S57 _ _ hg5,T.cl,T.nD,CH ..,_,rfl,g,C,dx,_,_,rfl,S57 _ _ hg5,T.cl,T.nT,pM ..,b,_,rfl,.inr (zC0 (S57 _ _ (kT5 _ _ hb))),_,_,rfl,rfl,(by show 1<=sizeLine;decide),fun l hl2=>?_⟩;have Gl:=zB0 hl2 (.lst [.int ((tv.length:Int)-1)]);refine⟨D,l,_,_,rfl,rfl,Gl _ _ (S57 _ _ hD5),ah,?_,fun r hr0=>?_⟩
 . rw[zE0,zE0];exact cL (by simp;omega)
 have Gr:=zB0 hr0 (.lst ((ns.map (bj ts)).map V.int++[.int ((tv.length:Int)-1)]));refine⟨p,r,ns.map (bj ts)++[(tv.length:Int)-1],rfl,?_,by simp,fun n hn=>?_,?_⟩
 . rw[ah,zK0];rfl
 . rcases qD0 hn with h | h
   . obtain ⟨x,hx,rfl⟩:=List.mem_map.mp h;refine sR ?_ fun t ht=>tc t ht x hx
     intro e;rw[e]at t1;exact absurd t1 (by decide)
   . rw[zQ0 h];omega
 . have S59:=S57.trans (Gl.trans Gr);exact q D _ D0 ⟨dx,S59 _ _ hg5⟩ (S59 _ _ hD5) (S5.trans (zJ0 S59))
def Cu:Sp:=fun vs H Q _=>∃a p:Int,vs=[.int a,.int p]/\Pr p/\p<=999983/\0<a/\a<p/\∀g:Int,0<g->g<p->g*a % p=1->Q (.int g) H
theorem aV:FnScope ["a","p","former","former_factor","rest","factor","times","lesser","lesser_factor"] ["a","p"] (ak fu):=⟨rfl,rfl,rfl,by decide,rfl,by decide,by decide⟩
theorem oR {f:Addr} {fd:FuncData} (F:Fun K "inverse_of" "inverse_of" fu f fd):FnOk P w K mg base CX0 1 f fd ["a","p"] Cu:=by
 refine F.ok aV (fun vs H Q E h=>?_) (fun cdv A outer s H vs Q E hr h=>?_)
 . obtain⟨a,p,rfl,_⟩:=h;rfl
 obtain ⟨a,p,rfl,pr,p1,a0,a1,q⟩:=h;have p2:2<=p:=pr.1;refine⟨_,(ad (au (i:=2) aV.nd rfl (Or.inl rfl) (pv 1))
  (ad (au (i:=3) aV.nd rfl (Or.inl rfl) ae)
  (ad (au (i:=4) aV.nd rfl (Or.inl rfl) (aj aW (pv 0) (pv 1)))
  (ad (au (i:=5) aV.nd rfl (Or.inl rfl) ae)
  (ad (kg PassesOwn.never (av nK (pv 4) ae (ay _)) (ad (au (i:=6) aV.nd rfl (Or.inl rfl) (aj qG (pv 2) (pv 4)))
   (ad (au (i:=7) aV.nd rfl (Or.inl rfl) (aj bd (pv 2) (aj bn (pv 6) (pv 4))))
   (ad (au (i:=8) aV.nd rfl (Or.inl rfl) (aj aW (aj bd (pv 3) (aj bn (pv 6) (pv 5))) (pv 1)))
   (ad (au (i:=2) aV.nd rfl (Or.inl rfl) (pv 4))
   (ad (au (i:=3) aV.nd rfl (Or.inl rfl) (pv 5))
   (ad (au (i:=4) aV.nd rfl (Or.inl rfl) (pv 7))
   (ag (au (i:=5) aV.nd rfl (Or.inl rfl) (pv 8))))))))))
  (ag (ax (pv 5)))))))),?_⟩
 refine ⟨_,rfl,?_⟩;refine⟨_,rfl,_,rfl,_,_,rfl,rfl,(show 0<p by omega),?_⟩;refine⟨fun m σ H'=>∃(former ff rest g:Int)(x6 x7 x8:Option V),σ=[some (.int a),some (.int p),some (.int former),some (.int ff),some (.int rest),some (.int g),x6,x7,x8]/\H'=H/\Eu a p former ff rest g/\m=rest.toNat,
  ⟨_,_,_,_,_,_,_,_,rfl,rfl,sP pr (by omega) a0 a1,rfl⟩,?_⟩
 rintro m σ H' ⟨former,ff,rest,g,x6,x7,x8,rfl,rfl,eu,rfl⟩;refine⟨_,rfl,rfl,_,rfl,?_⟩
 by_cases c:rest=1
 . refine eU (congrArg V.int c) ?_;obtain⟨g0,g1,g2⟩:=AD eu c (by omega);exact⟨_,rfl,q g g0 g1 g2⟩
 . refine iteN (fun z=>c (V.int.inj z)) ?_;refine⟨_,fun _ _ h=>h,?_⟩;have r0:=eu.r0;have rp:=eu.rp;have f0:=eu.f0;have f1:=eu.f1;obtain⟨nx,lt⟩:=wH eu c;refine⟨_,rfl,_,rfl,_,_,rfl,rfl,⟨r0,by omega⟩,?_⟩;refine⟨_,rfl,_,rfl,_,rfl,_,_,rfl,rfl,.inr ⟨by omega,by omega⟩,_,_,rfl,rfl,?_⟩;refine⟨_,rfl,_,rfl,_,rfl,_,_,rfl,rfl,.inr ⟨by omega,by omega⟩,_,_,rfl,rfl,_,rfl,_,_,rfl,rfl,(show 0<p by omega),?_⟩;refine⟨_,rfl,_,rfl,_,rfl,_,rfl,?_⟩;exact⟨_,lt,_,_,_,_,_,_,_,rfl,rfl,nx,rfl⟩
theorem md{p x y:Int}(h:p ∣ x-y):x % p=y % p:=by
 obtain⟨k,hk⟩:=h
 have:x=y+p*k:=by omega
 rw[this,Int.add_mul_emod_self_left]
theorem dm(p x:Int):p ∣ x % p-x:=⟨-(x / p),by
 have:=Int.emod_add_mul_ediv x p
 rw[Int.mul_neg];omega⟩
def pmd(p:Int)(g:Nat->Int):Nat->Int
 | 0=>1
 | k+1=>pmd p g k*g k % p
theorem kj(p:Int)(g:Nat->Int):∀k,p ∣ pmd p g k-pr g k
 | 0=>⟨0,by simp [pmd,pr]⟩
 | k+1=>by
   obtain⟨a,ha⟩:=kj p g k;obtain⟨b,hb⟩:=dm p (pmd p g k*g k);exact⟨b+a*g k,by show pmd p g k*g k % p-pr g k*g k=_;grind⟩
theorem ki{p:Int}(hp:1<p)(g:Nat->Int):∀k,0<=pmd p g k/\pmd p g k<p
 | 0=>⟨by show(0:Int)<=1;decide,hp⟩
 | k+1=>⟨qB0 _ (by omega),qC0 _ (by omega)⟩
def prL(p:Int)(g:Nat->Int)(n:Nat):List V:=((List.range n).map (pmd p g)).map V.int
theorem nq(p:Int)(g:Nat->Int)(n:Nat):prL p g (n+1)=prL p g n++[.int (pmd p g n)]:=by
 unfold prL;rw[List.range_succ,zK0,zK0];rfl
theorem BE(p:Int)(g:Nat->Int)(n:Nat):(prL p g n).length=n:=by
 unfold prL;rw[zE0,zE0,qP0]
theorem uR{f:Nat->Int}{n k:Nat}(h:k<n):atI (((List.range n).map f).map V.int) (k:Int)=some (.int (f k)):=by
 refine aO ?_;rw[qE0,qE0,List.getElem?_range h];rfl
theorem ut{p:Int}{g:Nat->Int}{n k:Nat}(h:k<n):atI (prL p g n) (k:Int)=some (.int (pmd p g k)):=uR h
def tU:Sp:=fun vs H Q _=>∃(a:Addr)(g:Nat->Int)(n:Nat)(p:Int),vs=[.ref a,.int p]/\H a=some (.lst (((List.range n).map g).map V.int))/\n<=500/\1<p/\p<2 ^ 40/\∀(l:Addr)(H':Hp),H l=none->Same H H'->H' l=some (.lst (prL p g (n+1)))->Q (.ref l) H'
theorem jz:FnScope ["numbers","p","told","number"] ["numbers","p"] (ak ig):=⟨rfl,rfl,rfl,by decide,rfl,by decide,by decide⟩
theorem rX {f:Addr} {fd:FuncData} (F:Fun K "products" "products" ig f fd):FnOk P w K mg base CX0 1 f fd ["numbers","p"] tU:=by
 refine F.ok jz (fun vs H Q E h=>?_) (fun cdv A outer s H vs Q E hr h=>?_)
 . obtain⟨a,g,n,p,rfl,_⟩:=h;rfl
 obtain ⟨a,g,n,p,rfl,ha,n5,p1,p40,q⟩:=h;refine⟨_,(ad (au (i:=2) jz.nd rfl (Or.inl rfl) (bo (aa ae ac)))
  (ad (cD PassesOwn.never rfl (dG (pv 0)) (aQ (i:=3) jz.nd rfl (Or.inl rfl)) (ag (bV (nJ PySem.F.plainAttrs_list PySem.F.slot_list_append PySem.F.type_list_append gY (pv 2) (aa (aj aW (aj bn (aJ ix_list (pv 2) (wu qa ae) (fun _ _=>rfl)) (pv 3)) (pv 1)) ac)))))
  (ag (ax (pv 2))))),?_⟩
 refine ⟨(by show 1<=sizeLine;decide),fun L hL=>?_⟩;have aL:a≠L:=ai ha hL;refine⟨_,rfl,a,rfl,⟨_,zG0 ((zB0 hL _) _ _ ha)⟩,cY (K:=K) (xs:=((List.range n).map g).map V.int) (fun i σ H'=>∃x3:Option V,σ=[some (.ref a),some (.int p),some (.ref L),x3]/\H' L=some (.lst (prL p g (i+1)))/\SameBut L H H')
  ⟨_,rfl,by rw[ah];rfl,SameBut.upd _⟩ (fun i σ H' _ hst=>by obtain⟨_,_,_,h⟩:=hst;exact zG0 (h _ _ aL ha)) ?_ ?_⟩
 . rintro i z σ H1 hz ⟨x3,rfl,hL1,S1⟩;have hi:=(zT0 hz).1;rw[zE0,zE0,qP0]at hi;rw[qE0,qE0,List.getElem?_range hi]at hz;obtain rfl:V.int (g i)=z:=zO0 hz;have rg:=ki p1 g i;refine⟨_,rfl,.inl ⟨rfl,_,zG0 hL1⟩,?_⟩;refine⟨_,rfl,_,rfl,L,_,_,.int (pmd p g i),rfl,rfl,zG0 hL1,?_,_,rfl,_,_,rfl,rfl,.inl ⟨by omega,by omega⟩,_,rfl,_,_,rfl,rfl,(by omega),L,_,_,rfl,rfl,hL1,?_,?_⟩
   . rw[nq];exact tD _ _
   . rw[BE];exact aK (by omega)
   . refine ⟨_,rfl,?_,fun c o hc e=>?_⟩
     . rw[ah,nq p g (i+1)];rfl
     . rw[aq hc];exact S1 c o hc e
 . rintro σ H1 ⟨x3,rfl,hL1,S1⟩;rw[zE0,zE0,qP0]at hL1;exact⟨_,rfl,q L H1 hL (fun b o e=>S1 b o (ai e hL) e) hL1⟩
theorem zK:∀n:Nat,pr (fun k=>1+(k:Int)) n=fac n
 | 0=>rfl
 | n+1=>by
   show pr (fun k=>1+(k:Int)) n*(1+(n:Int))=fac n*((n:Int)+1)
   rw[zK n,Int.add_comm]
theorem zv{p g a t s:Int}{k m:Nat}(hg:g*a % p=1)(p1:1<p)(ha:p ∣ a-fac (k+m))(ht:p ∣ t-pr (fun j=>((k+m:Nat):Int)-j) m)(hs:p ∣ s-g*t):p ∣ s*fac k-1:=by
 have f:=sN m k;obtain⟨x,hx⟩:=ha;obtain⟨y,hy⟩:=ht;obtain⟨z,hz⟩:=hs;obtain⟨e,he⟩:=dm p (g*a);rw[hg]at he;exact⟨z*fac k+g*y*fac k-g*x-e,by grind⟩
def zk:Sp:=fun vs H Q _=>∃(L:Nat)(p:Int),vs=[.int (L:Int),.int p]/\L<=500/\(L:Int)<p/\Pr p/\p<=999983/\∀(l:Addr)(H':Hp)(sh:Nat->Int),H l=none->Same H H'->(∀k,k<=L->p ∣ sh k*fac k-1)->(∀k,0<=sh k/\sh k<p)->H' l=some (.lst (((List.range (L+1)).map sh).map V.int))->Q (.ref l) H'
theorem bQ:FnScope ["last","p","numbers","whole","told"] ["last","p"] (ak cx):=⟨rfl,rfl,rfl,by decide,rfl,by decide,by decide⟩
theorem iz {f:Addr} {fd:FuncData} (F:Fun K "inverse_factorials" "inverse_factorials" cx f fd) (B:Bl mg) (b9:Cal P w K mg base 1 "products" ["numbers","p"] tU) (iF:Cal P w K mg base 1 "inverse_of" ["a","p"] Cu):FnOk P w K mg base CX0 2 f fd ["last","p"] zk:=by
 refine F.ok bQ (fun vs H Q E h=>?_) (fun cdv A outer s H vs Q E hr h=>?_)
 . obtain⟨L,p,rfl,_⟩:=h;rfl
 obtain ⟨L,p,rfl,L5,Lp,pp,p9,q⟩:=h;refine⟨_,(ad (au (i:=2) bQ.nd rfl (Or.inl rfl) (uy rfl rfl B.list rfl B.range (aa ae (aa (aj aN (pv 0) ae) ac))))
  (ad (au (i:=3) bQ.nd rfl (Or.inr rfl) (al iF hr (by decide) rfl (aa (aJ ix_list (al b9 hr (by decide) rfl (aa (pv 2) (aa (pv 1) ac))) (wu qa ae) (fun _ _=>rfl)) (aa (pv 1) ac))))
  (ad (au (i:=4) bQ.nd rfl (Or.inr rfl) (al b9 hr (by decide) rfl (aa (cz (N:=["last"]) (ix:=[0]) rfl
   (CompScope.one (by rfl') (by decide) rfl (by decide) rfl (by decide) (by rfl') (by rfl') (by rfl') rfl rfl) rfl
   (bY rfl B.range (aa (pv 0) ac)) (fun _ _ _=>bZ (aj bd (pv 1) (pv 0)))) (aa (pv 1) ac))))
  (ag (ax (cz (N:=["whole","told","p","last"]) (ix:=[3,4,1,0]) rfl
   (CompScope.four (by rfl') (by decide) rfl (by decide) rfl (by decide) rfl (by rfl') (by rfl') (by rfl') (by rfl') (by rfl') (by rfl') rfl rfl (by rfl') rfl rfl (by rfl') rfl rfl (by rfl') rfl rfl) rfl
   (bY rfl B.range (aa (aj aN (pv 0) ae) ac)) (fun _ _ _=>bZ (aj aW (aj bn (pv 1) (aJ (sH K) (pv 2) (aj bd (pv 4) (pv 0)) (fun _ _=>rfl))) (pv 3))))))))),?_⟩
 have p2:=pp.1;have hP:=lu pp (by omega);refine⟨_,rfl,_,_,rfl,rfl,1,_,rfl,⟨by decide,by decide,by omega,by omega⟩,by omega,fun a ha=>?_⟩;have e1:qv 1 ((L:Int)+1-1).toNat=(List.range L).map fun k:Nat=>1+(k:Int):=by
  unfold qv;rw[show((L:Int)+1-1).toNat=L by omega]
 rw [e1];have Ga:=zB0 ha (.lst (((List.range L).map fun k:Nat=>1+(k:Int)).map V.int));refine⟨_,rfl,_,rfl,a,_,L,p,rfl,ah,L5,by omega,by omega,fun l H2 l0 S2 hl2=>?_⟩;have rg:=ki (show 1<p by omega) (fun k:Nat=>1+(k:Int)) L;have dv:=kj p (fun k:Nat=>1+(k:Int)) L;rw[zK]at dv;have ne0:pmd p (fun k:Nat=>1+(k:Int)) L≠0:=fun z=>by
  rw[z]at dv;obtain⟨m,hm⟩:=dv;exact qZ hP L Lp ⟨-m,by rw[Int.mul_neg];omega⟩
 refine⟨_,rfl,l,_,_,.int (pmd p (fun k:Nat=>1+(k:Int)) L),rfl,rfl,zG0 hl2,by rw[nq];exact tD _ _,_,rfl,_,p,rfl,pp,p9,by omega,rg.2,fun g g0 g1 hg=>?_⟩;have SH2:=Ga.trans S2;refine⟨_,rfl,_,rfl,by omega,by omega,fun D hD=>?_⟩;refine cS (fun i H'=>H' D=some (.lst (((List.range i).map fun j:Nat=>(L:Int)-j).map V.int))/\Same H2 H') ⟨by rw[ah];rfl,zB0 hD _⟩ ?_ ?_
 . rintro i H3 hi ⟨hD3,S3⟩;refine⟨_,rfl,_,rfl,_,_,rfl,rfl,_,hD3,?_,Nx.of hi ⟨?_,fun b o e=>?_⟩⟩
   . rw[zE0,zE0,qP0];exact aK (by omega)
   . rw[ah,List.range_succ,zK0,zK0,Int.zero_add];rfl
   . rw[aq (ai e hD)];exact S3 _ _ e
 rintro H3 ⟨hD3,S3⟩;rw[show((L:Int)).toNat=L from qV0 L]at hD3;refine⟨_,rfl,D,_,L,p,rfl,hD3,L5,by omega,by omega,fun t H4 t0 S4 ht4=>?_⟩;refine⟨_,rfl,_,_,rfl,rfl,_,rfl,by omega,by omega,fun D2 hD2=>?_⟩;refine cS (fun i H'=>H' D2=some (.lst (((List.range i).map fun k:Nat=>g*pmd p (fun j:Nat=>(L:Int)-j) (L-k) % p).map V.int))/\Same H4 H') ⟨by rw[ah];rfl,zB0 hD2 _⟩ ?_ ?_
 . rintro i H5 hi ⟨hD5,S5⟩;have hi':i<L+1:=by omega
   have rg2:=ki (show 1<p by omega) (fun j:Nat=>(L:Int)-j) (L-i);have e2:(L:Int)-(0+(i:Int))=((L-i:Nat):Int):=by omega
   refine⟨_,rfl,_,rfl,_,rfl,_,rfl,_,_,rfl,rfl,t,_,_,.int (pmd p (fun j:Nat=>(L:Int)-j) (L-i)),rfl,rfl,zG0 (S5 _ _ ht4),by rw[e2];exact ut (by omega),_,_,rfl,rfl,.inl ⟨by omega,by omega⟩,_,rfl,_,_,rfl,rfl,(by omega),_,hD5,?_,Nx.of hi ⟨?_,fun b o e=>?_⟩⟩
   . rw[zE0,zE0,qP0];exact aK (by omega)
   . rw[ah,List.range_succ,zK0,zK0];rfl
   . rw[aq (ai e hD2)];exact S5 _ _ e
 rintro H5 ⟨hD5,S5⟩;rw[show((L:Int)+1).toNat=L+1 by omega]at hD5;have S05:=SH2.trans (S3.trans (S4.trans S5));refine q D2 H5 (fun k=>g*pmd p (fun j:Nat=>(L:Int)-j) (L-k) % p) ((SH2.trans (S3.trans S4)).free hD2) S05 (fun k hk=>?_) (fun k=>⟨qB0 _ (by omega),qC0 _ (by omega)⟩) hD5;obtain⟨m,rfl⟩:∃m,L=k+m:=⟨L-k,by omega⟩
 rw[show k+m-k=m by omega];exact zv hg (by omega) dv (kj p _ m) (dm p _)
def wt(p:Int)(n i:Nat):Int:=(px (i:Int) i n % p) ^ (p-2).toNat
theorem tH{p:Int}(hp:Pm p){n:Nat}(hn:(n:Int)<=p):Wgt p n (wt p n):=fun i hi=>by
 have h1:=Dy hp hn hi;obtain⟨k,hk⟩:=dm p (px (i:Int) i n);have h2:¬ p ∣ px (i:Int) i n % p:=fun⟨m,hm⟩=>h1 ⟨m-k,by grind⟩
 obtain⟨m,hm⟩:=DS hp h2 (qB0 _ (by have:=hp.1;omega));exact⟨m-k*(px (i:Int) i n % p) ^ (p-2).toNat,by unfold wt;grind⟩
def val(p:Int)(xs:List Int)(r:Int):Int:=lag (fun i=>xs.getD i 0) (wt p xs.length) xs.length r % p
theorem yQ{p t r:Int}{xs:List Int}{u:Nat->Int}(hp:Pm p)(hn:(xs.length:Int)<=p)(hu:Wgt p xs.length u)(t0:0<=t)(t1:t<p)(h:p ∣ t-lag (fun i=>xs.getD i 0) u xs.length r):t=val p xs r:=by
 have e:p ∣ t-lag (fun i=>xs.getD i 0) (wt p xs.length) xs.length r:=by
  have:=Ao hp hn (v:=fun i=>xs.getD i 0) hu (tH hp hn) r
  have z:=Int.dvd_add h this;have e2:t-lag (fun i=>xs.getD i 0) u xs.length r+(lag (fun i=>xs.getD i 0) u xs.length r-lag (fun i=>xs.getD i 0) (wt p xs.length) xs.length r)=t-lag (fun i=>xs.getD i 0) (wt p xs.length) xs.length r:=by omega
  rw[e2]at z;exact z
 have:=md e
 rw[qU0 t0 t1]at this;exact this
theorem Be{p:Int}(hp:1<p)(xs:List Int)(r:Int):0<=val p xs r/\val p xs r<p:=⟨qB0 _ (by omega),qC0 _ (by omega)⟩
theorem tK{p:Int}{xs:List Int}{k:Nat}(hp:Pm p)(hn:(xs.length:Int)<=p)(hk:k<xs.length):val p xs k=xs.getD k 0 % p:=md (uY (tH hp hn) hk)
theorem sgn(m:Nat):(-1:Int) ^ m=if m % 2=1 then -1 else 1:=by
 induction m with
 | zero=>rfl
 | succ m ih=>
   rw[Int.pow_succ,ih]
   by_cases c:m % 2=1
   . rw[zF0 c,zD0 (by omega)];rfl
   . rw[zD0 c,zF0 (by omega)];rfl
theorem Bd{p r v t s a b c d e:Int}{i m:Nat}{x y:Int}(ht:p ∣ t-s)(ha:p ∣ a-pr (fun j=>r-j) i)(hb:p ∣ b-pr (fun j=>r-(i+m:Nat)+j) m)(hc:p ∣ c-v*a*b)(hd:p ∣ d-x*y)(he:p ∣ e-(t+(if m % 2=1 then -(c*d)else c*d))) :
 p ∣ e-(s+v*px r i (i+m+1)*((-1) ^ m*(x*y))):=by
 rw[show i+m+1=i+1+m by omega,ni,sgn];rw[wq]at hb;generalize pr (fun j=>r-j) i=A at *
 generalize pr (fun j=>r-(i+1+j:Nat)) m=B at *
 obtain⟨t',ht⟩:=ht;obtain⟨a',ha⟩:=ha;obtain⟨b',hb⟩:=hb;obtain⟨c',hc⟩:=hc;obtain⟨d',hd⟩:=hd;obtain⟨e',he⟩:=he;have e1:c*d-v*(A*B)*(x*y)=p*(c'*d+v*(a'*b+A*b')*d+v*A*B*d'):=by grind
 by_cases z:m % 2=1
 . rw [zF0 z]at *
   exact⟨e'+t'-(c'*d+v*(a'*b+A*b')*d+v*A*B*d'),by grind⟩
 . rw [zD0 z]at *
   exact⟨e'+t'+(c'*d+v*(a'*b+A*b')*d+v*A*B*d'),by grind⟩
def IntsAt(H:Hp)(a:Addr)(xs:List Int):Prop:=H a=some (.lst (xs.map V.int))∨H a=some (.tup (xs.map V.int))
theorem IntsAt.same{H H':Hp}{a:Addr}{xs:List Int}(h:IntsAt H a xs)(s:Same H H'):IntsAt H' a xs:=h.elim (fun e=>.inl (s _ _ e)) (fun e=>.inr (s _ _ e))
theorem IntsAt.seq{K:W.Frag}{H:Hp}{a:Addr}{xs:List Int}(h:IntsAt H a xs):SqL K H a (xs.map V.int)∨SqT K H a (xs.map V.int):=h.elim (fun e=>.inl (zG0 e)) (fun e=>.inr (zC0 e))
theorem IntsAt.ix{K:W.Frag}{H:Hp}{a:Addr}{xs:List Int}{k:Nat}{Q:VK}(h:IntsAt H a xs)(hk:k<xs.length)(q:Q (.int (xs.getD k 0)) H):By K (.ref a) (.int (k:Int)) H Q∨Dl K (.ref a) (.int (k:Int)) H Q:=by
 have e:atI (xs.map V.int) (k:Int)=some (.int (xs.getD k 0)):=aO (by rw[qE0,zU0 hk,qM0,zU0 hk];rfl);rcases h with h | h
 . exact .inl ⟨a,_,_,_,rfl,rfl,zG0 h,e,q⟩
 . exact .inr ⟨a,_,_,_,rfl,rfl,zC0 h,e,q⟩
def iy(xs:List Int)(p:Int):Prop:=1<=xs.length/\xs.length<=500/\(xs.length:Int)<=p/\∀k,0<=xs.getD k 0/\xs.getD k 0<2 ^ 40
def rD:Sp:=fun vs H Q _=>∃(a:Addr)(xs:List Int)(r p:Int),vs=[.ref a,.int r,.int p]/\IntsAt H a xs/\iy xs p/\Pr p/\p<=999983/\0<=r/\r<p/\∀H',Same H H'->Q (.int (val p xs r)) H'
theorem aP:FnScope ["values","r","p","last","ahead","behind","shares","total","place","share","part"] ["values","r","p"] (ak dB):=⟨rfl,rfl,rfl,by decide,rfl,by decide,by decide⟩
theorem lM {f:Addr} {fd:FuncData} (F:Fun K "value_behind" "value_behind" dB f fd) (B:Bl mg) (b9:Cal P w K mg base 1 "products" ["numbers","p"] tU) (cB:Cal P w K mg base 2 "inverse_factorials" ["last","p"] zk):FnOk P w K mg base CX0 3 f fd ["values","r","p"] rD:=by
 refine F.ok aP (fun vs H Q E h=>?_) (fun cdv A outer s H vs Q E hr h=>?_)
 . obtain⟨a,xs,r,p,rfl,_⟩:=h;rfl
 obtain ⟨a,xs,r,p,rfl,ha,⟨x1,x5,xp,xb⟩,pp,p9,r0,r1,q⟩:=h;refine⟨_,(ad (au (i:=3) aP.nd rfl (Or.inr rfl) (aj bd (aD az rfl B.len PySem.boot_len (aa (pv 0) ac)) ae))
  (ad (au (i:=4) aP.nd rfl (Or.inl rfl) (al b9 hr (by decide) rfl (aa (cz (N:=["r"]) (ix:=[1]) rfl
   (CompScope.one (by rfl') (by decide) rfl (by decide) rfl (by decide) (by rfl') (by rfl') (by rfl') rfl rfl) rfl
   (bY rfl B.range (aa (pv 3) ac)) (fun _ _ _=>bZ (aj bd (pv 1) (pv 0)))) (aa (pv 2) ac))))
  (ad (au (i:=5) aP.nd rfl (Or.inl rfl) (al b9 hr (by decide) rfl (aa (cz (N:=["r","last"]) (ix:=[1,3]) rfl
   (CompScope.two (by rfl') (by decide) rfl (by decide) rfl (by decide) (by first | exact Or.inl rfl | exact Or.inr rfl) (by rfl') (by rfl') (by rfl') (by rfl') rfl rfl (by rfl') rfl rfl) rfl
   (bY rfl B.range (aa (pv 3) ac)) (fun _ _ _=>bZ (aj aN (aj bd (pv 1) (pv 2)) (pv 0)))) (aa (pv 2) ac))))
  (ad (au (i:=6) aP.nd rfl (Or.inl rfl) (al cB hr (by decide) rfl (aa (pv 3) (aa (pv 2) ac))))
  (ad (au (i:=7) aP.nd rfl (Or.inl rfl) ae)
  (ad (cD PassesOwn.never rfl (bY rfl B.range (aa (aj aN (pv 3) ae) ac)) (aQ (i:=8) aP.nd rfl (Or.inl rfl)) (ad (au (i:=9) aP.nd rfl (Or.inl rfl) (aj aW (aj bn (aJ ix_list (pv 6) (pv 8) (fun _ _=>rfl)) (aJ ix_list (pv 6) (aj bd (pv 3) (pv 8)) (fun _ _=>rfl))) (pv 2)))
   (ad (au (i:=10) aP.nd rfl (Or.inl rfl) (aj bn (aj aW (aj bn (aj bn (aJ (ix_list.or aZ) (pv 0) (pv 8) (fun _ _=>rfl)) (aJ ix_list (pv 4) (pv 8) (fun _ _=>rfl))) (aJ ix_list (pv 5) (aj bd (pv 3) (pv 8)) (fun _ _=>rfl))) (pv 2)) (pv 9)))
   (ad (aX (av bA (aj aW (aj bd (pv 3) (pv 8)) ae) ae (ay _)) (ag (au (i:=10) aP.nd rfl (Or.inl rfl) (wu qa (pv 10)))) aI)
   (ag (au (i:=7) aP.nd rfl (Or.inl rfl) (aj aW (aj aN (pv 7) (pv 10)) (pv 2))))))))
  (ag (ax (pv 7))))))))),?_⟩
 have p2:=pp.1;have p1:1<p:=by omega
 have p0:0<p:=by omega
 have hP:=lu pp (by omega);obtain⟨L,hL⟩:∃L,xs.length=L+1:=⟨xs.length-1,by omega⟩
 have eL:(((xs.map V.int).length:Nat):Int)-1=(L:Int):=by rw[zE0];omega
 refine⟨_,rfl,a,_,rfl,ha.seq,_,_,rfl,rfl,?_⟩
 dsimp only
 rw[eL];refine⟨_,rfl,(L:Int),rfl,by omega,by omega,fun D hD=>?_⟩;refine cS (fun i H'=>H' D=some (.lst (((List.range i).map fun j:Nat=>r-j).map V.int))/\Same H H') ⟨by rw[ah];rfl,zB0 hD _⟩ ?_ ?_
 . rintro i H3 hi ⟨hD3,S3⟩;refine⟨_,rfl,_,rfl,_,_,rfl,rfl,_,hD3,?_,Nx.of hi ⟨?_,fun b o e=>?_⟩⟩
   . rw[zE0,zE0,qP0];exact aK (by omega)
   . rw[ah,List.range_succ,zK0,zK0,Int.zero_add];rfl
   . rw[aq (ai e hD)];exact S3 _ _ e
 rintro H1 ⟨hD1,S1⟩;rw[show((L:Int)).toNat=L from qV0 L]at hD1;refine⟨_,rfl,D,_,L,p,rfl,hD1,by omega,p1,by omega,fun la H2 la0 S2 hla=>?_⟩;refine⟨_,rfl,(L:Int),rfl,by omega,by omega,fun D2 hD2=>?_⟩;refine cS (fun i H'=>H' D2=some (.lst (((List.range i).map fun j:Nat=>r-(L:Int)+j).map V.int))/\Same H2 H') ⟨by rw[ah];rfl,zB0 hD2 _⟩ ?_ ?_
 . rintro i H3 hi ⟨hD3,S3⟩;refine⟨_,rfl,_,rfl,_,_,rfl,rfl,_,rfl,_,_,rfl,rfl,_,hD3,?_,Nx.of hi ⟨?_,fun b o e=>?_⟩⟩
   . rw[zE0,zE0,qP0];exact aK (by omega)
   . rw[ah,List.range_succ,zK0,zK0,Int.zero_add];rfl
   . rw[aq (ai e hD2)];exact S3 _ _ e
 rintro H3 ⟨hD3,S3⟩;rw[show((L:Int)).toNat=L from qV0 L]at hD3;refine⟨_,rfl,D2,_,L,p,rfl,hD3,by omega,p1,by omega,fun lb H4 lb0 S4 hlb=>?_⟩;refine⟨_,rfl,_,rfl,L,p,rfl,by omega,by omega,pp,p9,fun ls H5 sh ls0 S5 hsh hsr hls=>?_⟩;have S25:=S3.trans (S4.trans S5);have S05:=S1.trans (S2.trans S25);have hla5:=S25 _ _ hla;have hlb5:=S5 _ _ hlb;have ha5:=ha.same S05;have hW:=Bc hsh;refine⟨_,rfl,_,_,rfl,rfl,_,rfl,by omega,by omega,fO (fun i σ H'=>∃(t:Int)(x8 x9 x10:Option V),σ=[some (.ref a),some (.int r),some (.int p),some (.int L),some (.ref la),some (.ref lb),some (.ref ls),some (.int t),x8,x9,x10]/\0<=t/\t<p/\p ∣ t-sm (fun i=>xs.getD i 0*px r i (L+1)*((-1) ^ (L-i)*(sh i*sh (L-i)))) i/\H'=H5)
  ⟨0,_,_,_,rfl,by decide,p0,⟨0,by simp [sm]⟩,rfl⟩ ?_ ?_⟩
 . rintro i σ H6 hi ⟨t,x8,x9,x10,rfl,t0,t1,td,rfl⟩;have hi':i<L+1:=by omega
   obtain⟨m,hm⟩:∃m,L=i+m:=⟨L-i,by omega⟩
   have e0:(0:Int)+(i:Int)=(i:Int):=Int.zero_add _;have e1:(L:Int)-(0+(i:Int))=(m:Int):=by omega
   have r1':=hsr i;have r2':=hsr m;have ar:=ki p1 (fun j:Nat=>r-j) i;have br:=ki p1 (fun j:Nat=>r-(L:Int)+j) m;have xi:=xb i;have m1:∀z:Int,0<=z % p:=fun z=>qB0 _ (by omega)
   have m2:∀z:Int,z % p<p:=fun z=>qC0 _ p0
   refine ⟨_,rfl,_,rfl,ls,_,_,.int (sh i),rfl,rfl,zG0 hls,by rw[e0];exact uR hi',_,rfl,_,rfl,_,rfl,_,_,rfl,rfl,ls,_,_,.int (sh m),rfl,rfl,zG0 hls,by rw[e1];exact uR (by omega),_,_,rfl,rfl,.inl ⟨by omega,by omega⟩,_,rfl,_,_,rfl,rfl,p0,?_⟩;refine⟨_,rfl,_,rfl,?_⟩;rw[e0];refine ha5.ix (by omega) ?_;refine⟨_,rfl,_,rfl,la,_,_,.int (pmd p (fun j:Nat=>r-j) i),rfl,rfl,zG0 hla5,ut hi',_,_,rfl,rfl,.inl ⟨by omega,by omega⟩,?_⟩;refine⟨_,rfl,_,rfl,_,rfl,_,_,rfl,rfl,lb,_,_,.int (pmd p (fun j:Nat=>r-(L:Int)+j) m),rfl,rfl,zG0 hlb5,by rw[←e0,e1];exact ut (by omega),_,_,rfl,rfl,.inr ⟨by omega,by omega⟩,_,rfl,_,_,rfl,rfl,p0,?_⟩;have s1:=m1 (sh i*sh m);have s2:=m2 (sh i*sh m);refine⟨_,rfl,_,_,rfl,rfl,.inr ⟨by omega,by omega⟩,?_⟩;refine⟨_,rfl,_,rfl,_,_,rfl,rfl,_,_,rfl,rfl,(by show(0:Int)<_;decide),rfl,_,rfl,?_⟩;have fin:∀z:Int,z=(if m % 2=1 then -(xs.getD i 0*pmd p (fun j:Nat=>r-j) i*pmd p (fun j:Nat=>r-(L:Int)+j) m % p*(sh i*sh m % p))else xs.getD i 0*pmd p (fun j:Nat=>r-j) i*pmd p (fun j:Nat=>r-(L:Int)+j) m % p*(sh i*sh m % p)) ->
    p ∣ (t+z) % p-sm (fun i=>xs.getD i 0*px r i (L+1)*((-1) ^ (L-i)*(sh i*sh (L-i)))) (i+1):=fun z hz=>by
    show p ∣ _-(sm _ i+xs.getD i 0*px r i (L+1)*((-1) ^ (L-i)*(sh i*sh (L-i))))
    have em:L-i=m:=by omega
    have hb:p ∣ pmd p (fun j:Nat=>r-(L:Int)+j) m-pr (fun j=>r-(i+m:Nat)+j) m:=by
     rw[←hm];exact kj p _ m
    subst hz;rw[em];have el:L+1=i+m+1:=by omega
    rw[el]at td ⊢;exact Bd td (kj p _ i) hb (dm p _) (dm p _) (dm p _)
   by_cases c:m % 2=1
   . refine cg (congrArg V.int (by omega)) ?_;refine⟨_,rfl,_,rfl,?_⟩;refine⟨_,rfl,_,rfl,_,_,rfl,rfl,_,rfl,_,_,rfl,rfl,p0,?_⟩;exact⟨_,_,_,_,rfl,m1 _,m2 _,fin _ (by rw[zF0 c]),rfl⟩
   . refine ba (fun z=>c (by have:=V.int.inj z;omega)) ?_;refine⟨_,rfl,_,rfl,_,_,rfl,rfl,_,rfl,_,_,rfl,rfl,p0,?_⟩;exact⟨_,_,_,_,rfl,m1 _,m2 _,fin _ (by rw[zD0 c]),rfl⟩
 . rintro σ H6 ⟨t,x8,x9,x10,rfl,t0,t1,td,rfl⟩;rw[show((L:Int)+1).toNat=L+1 by omega]at td;rw[←hL]at hW;have e:=yQ (r:=r) hP xp hW t0 t1 (by
    unfold lag;rw[hL];exact td)
   rw[e];exact⟨_,rfl,q H6 S05⟩
theorem o9:FnScope ["values","r","p","place"] ["values","r","p"] (ak ie):=⟨rfl,rfl,rfl,by decide,rfl,by decide,by decide⟩
theorem rW {f:Addr} {fd:FuncData} (F:Fun K "value_at" "value_at" ie f fd) (B:Bl mg) (fi:Cal P w K mg base 3 "value_behind" ["values","r","p"] rD):FnOk P w K mg base CX0 4 f fd ["values","r","p"] rD:=by
 refine F.ok o9 (fun vs H Q E h=>?_) (fun cdv A outer s H vs Q E hr h=>?_)
 . obtain⟨a,xs,r,p,rfl,_⟩:=h;rfl
 obtain ⟨a,xs,r,p,rfl,ha,ok,pp,p9,r0,r1,q⟩:=h;refine⟨_,(ad (au (i:=3) o9.nd rfl (Or.inl rfl) (aj aW (pv 1) (pv 2)))
  (ad (aX (av ko (pv 3) (aD az rfl B.len PySem.boot_len (aa (pv 0) ac)) (ay _)) (ag (ax (aj aW (aJ (ix_list.or aZ) (pv 0) (pv 3) (fun _ _=>rfl)) (pv 2)))) aI)
  (ag (ax (al fi hr (by decide) rfl (aa (pv 0) (aa (pv 3) (aa (pv 2) ac)))))))),?_⟩
 have p0:0<p:=by omega
 have hP:=lu pp (by omega);have er:r % p=r:=qU0 r0 r1;refine⟨_,rfl,_,rfl,_,_,rfl,rfl,p0,?_⟩
 dsimp only
 rw[er];refine⟨_,rfl,_,rfl,a,_,rfl,ha.seq,_,_,rfl,rfl,_,rfl,?_⟩;refine lP (fun c=>?_) (fun c=>?_)
 . have c':=of_decide_eq_true c;rw[zE0]at c';obtain⟨k,rfl⟩:∃k:Nat,r=(k:Int):=⟨r.toNat,by omega⟩
   refine⟨_,rfl,_,rfl,?_⟩;refine ha.ix (by omega) ?_;refine⟨_,rfl,_,_,rfl,rfl,p0,?_⟩;show Q (.int (xs.getD k 0 % p)) H;rw[←tK hP ok.2.2.1 (by omega)];exact q H (Same.refl _)
 . exact⟨_,rfl,_,rfl,_,rfl,a,xs,r,p,rfl,ha,ok,pp,p9,r0,r1,q⟩
def zm:Sp:=fun vs H Q _=>∃(a:Addr)(xs:List Int)(p:Int),vs=[.ref a,.int p]/\IntsAt H a xs/\iy xs p/\Pr p/\p<=999983/\∀H',Same H H'->Q (.int ((val p xs 0+val p xs 1) % p)) H'
theorem qo:FnScope ["values","p"] ["values","p"] (ak gF):=⟨rfl,rfl,rfl,by decide,rfl,by decide,by decide⟩
theorem qM {f:Addr} {fd:FuncData} (F:Fun K "both_ends" "both_ends" gF f fd) (cK:Cal P w K mg base 4 "value_at" ["values","r","p"] rD):FnOk P w K mg base CX0 5 f fd ["values","p"] zm:=by
 refine F.ok qo (fun vs H Q E h=>?_) (fun cdv A outer s H vs Q E hr h=>?_)
 . obtain⟨a,xs,p,rfl,_⟩:=h;rfl
 obtain⟨a,xs,p,rfl,ha,ok,pp,p9,q⟩:=h;refine⟨_,(ag (ax (aj aW (aj aN (al cK hr (by decide) rfl (aa (pv 0) (aa ae (aa (pv 1) ac)))) (al cK hr (by decide) rfl (aa (pv 0) (aa ae (aa (pv 1) ac))))) (pv 1)))),?_⟩;have p2:=pp.1;refine⟨_,rfl,_,rfl,a,xs,0,p,rfl,ha,ok,pp,p9,by decide,by omega,fun H1 S1=>?_⟩;refine⟨_,rfl,_,rfl,a,xs,1,p,rfl,ha.same S1,ok,pp,p9,by decide,by omega,fun H2 S2=>?_⟩;exact⟨_,_,rfl,rfl,_,rfl,_,_,rfl,rfl,(by omega),q H2 (S1.trans S2)⟩
theorem IntsAt.sqB{K:W.Frag}{H:Hp}{a:Addr}{xs:List Int}(h:IntsAt H a xs):∃c,SqB K c H a (xs.map V.int):=h.elim (fun e=>⟨true,zG0 e⟩) (fun e=>⟨false,zC0 e⟩)
def hor(s p:Int):List Int->Int
 | []=>0
 | a::r=>(hor s p r*s+a) % p
theorem mv{s p:Int}(hp:0<p):∀ns,0<=hor s p ns/\hor s p ns<p
 | []=>⟨Int.le_refl 0,hp⟩
 | a::r=>⟨qB0 _ (by omega),qC0 _ hp⟩
def zg(C:Addr):Sp:=fun vs H Q _=>∃(g a b d l:Addr)(ns:List Int)(s p:Int),vs=[.ref g,.ref l,.int s]/\GameAt C H g a b d p/\0<p/\p<2 ^ 40/\IntsAt H l ns/\Q (.int (hor s p ns)) H
theorem o8:FnScope ["self","numbers","s","total","number"] ["self","numbers","s"] (ak qq):=⟨rfl,rfl,rfl,by decide,rfl,by decide,by decide⟩
theorem BP {f C:Addr} {fd:FuncData} (F:Fun K "mix" "Game.mix" qq f fd) (T:GTxt K mg C) (hrev:mg "reversed"=none):FnOk P w K mg base CX0 1 f fd ["self","numbers","s"] (zg C):=by
 refine F.ok o8 (fun vs H Q E h=>?_) (fun cdv A outer s H vs Q E hr h=>?_)
 . obtain⟨g,a,b,d,l,ns,s,p,rfl,_⟩:=h;rfl
 obtain ⟨g,a,b,d,l,ns,s,p,rfl,⟨dx,hg⟩,p0,p40,hl,q⟩:=h;refine⟨_,(ad (au (i:=3) o8.nd rfl (Or.inl rfl) ae)
  (ad (cD PassesOwn.never rfl (BH rfl hrev (pv 1)) (aQ (i:=4) o8.nd rfl (Or.inl rfl)) (ag (au (i:=3) o8.nd rfl (Or.inl rfl) (aj aW (aj aN (aj bn (pv 3) (pv 2)) (pv 4)) (aU (pv 0) rfl)))))
  (ag (ax (pv 3))))),?_⟩
 obtain ⟨c,hl⟩:=hl.sqB (K:=K);refine⟨_,rfl,c,l,_,rfl,hl,Ay (K:=K) (c:=c) (xs:=ns.map V.int) (fun i σ H'=>∃(x4:Option V)(t:Int),σ=[some (.ref g),some (.ref l),some (.int s),some (.int t),x4]/\t=hor s p (ns.drop (ns.length-i))/\H'=H)
  ⟨_,0,rfl,by rw[Nat.sub_zero,List.drop_length];rfl,rfl⟩ (fun i σ H' _ hst=>by obtain⟨_,_,_,_,h⟩:=hst;subst h;exact hl) ?_ ?_⟩
 . rintro i z σ H1 hi hz ⟨x4,t,rfl,rfl,rfl⟩;rw[zE0]at hi;rw[←List.map_reverse,qE0]at hz;obtain⟨x,hx,rfl⟩:=qS0 hz;rw[List.getElem?_reverse hi]at hx;have hr2:=mv (s:=s) p0 (ns.drop (ns.length-i));refine⟨_,rfl,_,rfl,_,_,rfl,rfl,.inl ⟨by omega,by omega⟩,_,rfl,_,_,rfl,rfl,_,rfl,g,C,dx,_,_,rfl,hg,T.cl,T.nF,jD ..,_,_,rfl,rfl,p0,?_⟩;refine⟨_,_,rfl,?_,rfl⟩;have hj:ns.length-1-i<ns.length:=by omega
   have ed:ns.drop (ns.length-(i+1))=x::ns.drop (ns.length-i):=by
    have e1:ns.length-(i+1)=ns.length-1-i:=by omega
    have e2:ns.length-i=ns.length-1-i+1:=by omega
    rw[e1,e2,List.drop_eq_getElem_cons hj]
    congr 1
    rw[zU0 hj]at hx;exact zO0 hx
   rw[ed];rfl
 . rintro σ H1 ⟨x4,t,rfl,rfl,rfl⟩;rw[zE0,Nat.sub_self,List.drop_zero];exact⟨_,rfl,q⟩
def Ct(C:Addr):Sp:=fun vs H Q _=>∃(g a b d r:Addr)(ns:List Str)(tv:List V)(ts:List Tr)(pt:List Int)(s p:Int),vs=[.ref g,.ref r,.int s]/\GameAt C H g a b d p/\1<p/\p<2 ^ 40/\H a=some (.tup (ns.map V.str))/\H b=some (.tup tv)/\TreesAt H tv ts/\ts.length<=10/\(∀t∈ts,t.ok ns/\t.depth<=10)/\
 H r=some (.tup (pt.map V.int))/\pt.length=ns.length/\cw pt p/\∀H',Same H H'->Q (.int (hor s p (ts.map fun t=>t.worth ns pt p))) H'
theorem xy:FnScope ["self","point","s"] ["self","point","s"] (ak jX):=⟨rfl,rfl,rfl,by decide,rfl,by decide,by decide⟩
theorem xU {f fm C:Addr} {fd fdm:FuncData} (F:Fun K "worth_at" "Game.worth_at" jX f fd) (T:GTxt K mg C) (mM:Meth K C "mix" fm) (GM:FnOk P w K mg base CX0 1 fm fdm ["self","numbers","s"] (zg C)) (bM:Binds K fdm ["self","numbers","s"] []) (dU:Cal P w K mg base 12 "worth_of" ["tree","switches","point","p"] (iZ 10)):FnOk P w K mg base CX0 13 f fd ["self","point","s"] (Ct C):=by
 refine F.ok xy (fun vs H Q E h=>?_) (fun cdv A outer s H vs Q E hr h=>?_)
 . obtain⟨g,a,b,d,r,ns,tv,ts,pt,s,p,rfl,_⟩:=h;rfl
 obtain ⟨g,a,b,d,r,ns,tv,ts,pt,s,p,rfl,⟨dx,hg⟩,p1,p40,ha,hb,TS,t10,tok,hr0,pl,po,q⟩:=h;have hr1:Room 1 _:=hr.mono (by decide);refine⟨_,(ag (ax (fv (pv 0) T.cl mM GM hr1 bM .nil cH (aa (cz (N:=["self","point"]) (ix:=[0,1]) rfl
  (CompScope.two (by rfl') (by decide) rfl (by decide) rfl (by decide) (by first | exact Or.inl rfl | exact Or.inr rfl) (by rfl') (by rfl') (by rfl') (by rfl') rfl rfl (by rfl') rfl rfl) rfl
  (dk (aU (pv 0) rfl)) (fun _ _ _=>bZ (al dU hr (by decide) rfl (aa (pv 0) (aa (km K (pv 1)) (aa (pv 2) (aa (km K (pv 1)) ac))))))) (aa (pv 2) ac))))),?_⟩
 have vl:=TS.length;refine⟨_,rfl,g,dx,_,rfl,hg,wE _ _ _ _ (by decide) (by decide) (by decide) (by decide),?_⟩;refine⟨_,rfl,g,C,dx,_,_,rfl,hg,T.cl,T.nT,pM ..,b,rfl,⟨_,zC0 hb⟩,fun D hD=>?_⟩;refine cG (K:=K) (xs:=tv) (fun i H'=>H' D=some (.lst (((ts.take i).map fun t=>t.worth ns pt p).map V.int))/\Same H H') ⟨by rw[ah];rfl,zB0 hD _⟩ (fun i H' _ h=>zC0 (h.2 _ _ hb)) ?_ ?_
 . rintro i z H2 hz ⟨hl,S2⟩;obtain⟨t,ht,Tt⟩:=TS.get hz;obtain⟨tk,td⟩:=tok t (zZ0 ht);have hi:i<tv.length:=(zT0 hz).1;refine⟨_,rfl,_,rfl,g,C,dx,_,_,rfl,S2 _ _ hg,T.cl,T.nS,wD ..,_,rfl,_,rfl,g,C,dx,_,_,rfl,S2 _ _ hg,T.cl,T.nF,jD ..,z,t,a,r,ns,pt,p,rfl,Tt.mono (aB S2),tk,td,.inr (S2 _ _ ha),S2 _ _ hr0,pl,p1,p40,po,?_⟩;refine⟨_,hl,?_,Nx.of hi ⟨?_,fun b' o' e'=>?_⟩⟩
   . rw[zE0,zE0,qJ0];exact aK (by omega)
   . rw[ah,qI0,ht,zK0,zK0];rfl
   . rw[aq (ai e' hD)];exact S2 _ _ e'
 . rintro H2 ⟨hl,S2⟩;rw[vl,qG0]at hl;exact⟨_,rfl,g,a,b,d,D,_,s,p,rfl,⟨dx,S2 _ _ hg⟩,by omega,p40,.inl hl,q H2 S2⟩
def eX(n:Nat):Sp:=fun vs H Q _=>∃(v:V)(t:Tr),vs=[v]/\TreeAt H v t/\t.wf/\t.depth<=n/\t.size<=400/\∀H',Same H H'->Q (.int t.size) H'
theorem mV(ts:List Tr):(ts.map fun u=>(u.size:Int)).sum=(fS ts:Int):=by
 induction ts with
 | nil=>rfl
 | cons a r ih=>
   simp only[fS,qF0,List.sum_cons]at ih ⊢;rw[ih];omega
theorem ue:FnScope ["tree"] ["tree"] (ak gS):=⟨rfl,rfl,rfl,by decide,rfl,by decide,by decide⟩
theorem xk {n:Nat} {f:Addr} {fd:FuncData} (F:Fun K "size_of" "size_of" gS f fd) (B:Bl mg) (aM:Cal P w K mg base 1 "trees_within" ["tree"] iD) (gr:Cal P w K mg base (n+2) "size_of" ["tree"] (eX n)):FnOk P w K mg base CX0 (n+3) f fd ["tree"] (eX (n+1)):=by
 refine F.ok ue (fun vs H Q E h=>?_) (fun cdv A outer s H vs Q E hr h=>?_)
 . obtain⟨v,t,rfl,_⟩:=h;rfl
 obtain ⟨v,t,rfl,T,wf,dn,sz,q⟩:=h;refine⟨_,(ag (ax (aj aN ae (aD (kB rfl) rfl B.sum PyProof.Rows.boot_sum (aa (cz (N:=[]) (ix:=[]) (cl:=[]) rfl (CompScope.closed (by rfl') (by decide) rfl (by decide) rfl (by rfl')) rfl
  (dk (al aM hr (by omega) rfl (aa (pv 0) ac))) (fun _ _ _=>bZ (al gr hr (zI0 _) rfl (aa (pv 0) ac)))) ac))))),?_⟩
 refine⟨_,rfl,v,t,rfl,T,wf,fun p xs H1 S1 hp TS=>?_⟩;refine⟨p,rfl,⟨_,zC0 hp⟩,fun D hD=>?_⟩;have pD:p≠D:=ai hp hD;have xl:=TS.length;have sp:=t.size_parts;refine cG (K:=K) (xs:=xs) (fun i H'=>H' D=some (.lst (((t.parts.take i).map fun u=>(u.size:Int)).map V.int))/\Same H1 H') ⟨by rw[ah];rfl,zB0 hD _⟩ (fun i H' _ h=>zC0 (h.2 _ _ hp)) ?_ ?_
 . rintro i x H2 hx ⟨hl,S2⟩;obtain⟨u,hu,Tu⟩:=TS.get hx;have um:=zZ0 hu;obtain⟨uw,ud,us⟩:=Tr.parts_mem um wf;have hi:i<xs.length:=(zT0 hx).1;refine⟨_,rfl,x,u,rfl,Tu.mono (aB S2),uw,by omega,by omega,fun H3 S3=>?_⟩;refine⟨_,S3 _ _ hl,?_,Nx.of hi ⟨?_,fun b o e=>?_⟩⟩
   . have:t.parts.length<=2:=by cases t <;> simp [Tr.parts]
     rw[zE0,zE0,qJ0];exact aK (by omega)
   . rw[ah,qI0,hu,zK0,zK0];rfl
   . rw[aq (ai e hD)];exact S3 _ _ (S2 _ _ e)
 . rintro H2 ⟨hl,S2⟩;rw[xl,qG0]at hl;have sc:=mV t.parts;refine⟨D,_,rfl,zG0 hl,?_,?_,?_⟩
   . intro n hn;obtain⟨u,_,rfl⟩:=List.mem_map.mp hn;omega
   . rw[sc];omega
   . rw [sc];refine⟨_,_,rfl,rfl,?_⟩;have e:(1:Int)+(fS t.parts:Int)=(t.size:Int):=by omega
     show Q (.int (1+(fS t.parts:Int))) H2;rw[e];exact q H2 (S1.trans S2)
theorem xj {f:Addr} {fd:FuncData}:FnOk P w K mg base CX0 2 f fd ["tree"] (eX 0):=by
 have no:∀vs H Q E,¬ eX 0 vs H Q E:=fun vs H Q E h=>by
  obtain⟨v,t,_,_,_,h1,_⟩:=h
  have:=t.depth_pos
  omega
 exact⟨fun vs H Q E h=>absurd h (no vs H Q E),fun A outer s H args us vs Q E _ _ _ _ h=>absurd h (no vs H Q E)⟩
theorem nM {f:Addr} {fd:FuncData} (F:Fun K "size_of" "size_of" gS f fd) (B:Bl mg) (m:mg "size_of"=some (.ref f)) (aM:Cal P w K mg base 1 "trees_within" ["tree"] iD) :
 ∀n:Nat,FnOk P w K mg base CX0 (n+2) f fd ["tree"] (eX n)
 | 0=>xj
 | n+1=>xk F B aM (Cal.of F (nM F B m aM n) m (fun _ _ _ _ _ _ us hl=>by obtain⟨u0,rfl⟩:=gw hl;rfl))
abbrev me:Stmt:=cu cF 0
abbrev jY:Stmt:=cu cF 1
abbrev qt:Stmt:=cu cF 2
abbrev ji:Stmt:=cu cF 3
abbrev mh:Stmt:=cu cF 4
abbrev ma:Stmt:=cu cF 5
abbrev jj:Stmt:=cu cF 6
abbrev ka:Stmt:=cu cF 7
abbrev qr:Stmt:=cu cF 8
abbrev we:Stmt:=cu cF 9
abbrev jZ:Stmt:=cu cF 10
def dl (g aA aC:Addr) (s:Int) (aH aT:Addr) (ed pl:Int):List (Str×V):=[("game",.ref g),("awaited",.ref aA),("claims",.ref aC),("s",.int s),("heard",.ref aH),("tossed",.ref aT),("held",.int ed),("places",.int pl)]
section
variable {g aA aC aH aT:Addr} {s ed pl:Int}
theorem gO:(dl g aA aC s aH aT ed pl).lookup ("game":Str)=some (.ref g):=by rfl'
theorem ow:(dl g aA aC s aH aT ed pl).lookup ("awaited":Str)=some (.ref aA):=by rfl'
theorem dl_c:(dl g aA aC s aH aT ed pl).lookup ("claims":Str)=some (.ref aC):=by rfl'
theorem dl_s:(dl g aA aC s aH aT ed pl).lookup ("s":Str)=some (.int s):=by rfl'
theorem dl_h:(dl g aA aC s aH aT ed pl).lookup ("heard":Str)=some (.ref aH):=by rfl'
theorem AJ:(dl g aA aC s aH aT ed pl).lookup ("tossed":Str)=some (.ref aT):=by rfl'
theorem AM:(dl g aA aC s aH aT ed pl).lookup ("held":Str)=some (.int ed):=by rfl'
theorem wJ:(dl g aA aC s aH aT ed pl).lookup ("places":Str)=some (.int pl):=by rfl'
theorem CL:(dl g aA aC s aH aT ed pl).lookup ("waits":Str)=none:=by rfl'
theorem CK:(dl g aA aC s aH aT ed pl).lookup ("due":Str)=none:=by rfl'
theorem CJ:(dl g aA aC s aH aT ed pl).lookup ("looked":Str)=none:=by rfl'
theorem wK:(dl g aA aC s aH aT ed pl).lookup ("hear":Str)=none:=by rfl'
theorem AL:(dl g aA aC s aH aT ed pl).lookup ("toss":Str)=none:=by rfl'
theorem dl_n6:(dl g aA aC s aH aT ed pl).lookup ("hear_claims":Str)=none:=by rfl'
theorem CI:(dl g aA aC s aH aT ed pl).lookup ("begin_rounds":Str)=none:=by rfl'
theorem dl_n8:(dl g aA aC s aH aT ed pl).lookup ("hear_row":Str)=none:=by rfl'
theorem AK:(dl g aA aC s aH aT ed pl).lookup ("go_on":Str)=none:=by rfl'
theorem DV:(dl g aA aC s aH aT ed pl).lookup ("look_at_trees":Str)=none:=by rfl'
theorem pA {v:Addr}:bS "awaited" (.ref v) (dl g aA aC s aH aT ed pl)=dl g v aC s aH aT ed pl:=by rfl'
theorem put_c {v:Addr}:bS "claims" (.ref v) (dl g aA aC s aH aT ed pl)=dl g aA v s aH aT ed pl:=by rfl'
theorem put_s {v:Int}:bS "s" (.int v) (dl g aA aC s aH aT ed pl)=dl g aA aC v aH aT ed pl:=by rfl'
theorem put_h {v:Addr}:bS "heard" (.ref v) (dl g aA aC s aH aT ed pl)=dl g aA aC s v aT ed pl:=by rfl'
theorem CC {v:Addr}:bS "tossed" (.ref v) (dl g aA aC s aH aT ed pl)=dl g aA aC s aH v ed pl:=by rfl'
theorem zI {v:Int}:bS "held" (.int v) (dl g aA aC s aH aT ed pl)=dl g aA aC s aH aT v pl:=by rfl'
theorem uq {v:Int}:bS "places" (.int v) (dl g aA aC s aH aT ed pl)=dl g aA aC s aH aT ed v:=by rfl'
theorem cW:(dl g aA aC s aH aT ed pl).length<1000:=by show 8<1000;decide
end
structure DTxt(K:W.Frag)(mg:Str->Option Value)(C:Addr):Prop where
 cl:Cls K C
 nG:NoAttr K C "game"
 nA:NoAttr K C "awaited"
 nC:NoAttr K C "claims"
 nS:NoAttr K C "s"
 nH:NoAttr K C "heard"
 nT:NoAttr K C "tossed"
 nE:NoAttr K C "held"
 nP:NoAttr K C "places"
 mgC:mg "Doubter"=some (.ref C)
structure Db where
 aw:Str×Option Int
 cl:List Int
 s:Int
 he:List Int
 to:List Int
 ed:Int
 pl:Int
def awV(a:Str×Option Int):List V:=match a.2 with
 | none=>[.str a.1]
 | some n=>[.str a.1,.int n]
structure DbR(C:Addr)(H:Hp)(D g:Addr)(z:Db)(dx aA aC aH aT:Addr):Prop where
 hD:H D=some (.ins C dx (dl g aA aC z.s aH aT z.ed z.pl))
 hA:H aA=some (.tup (awV z.aw))
 hC:H aC=some (.tup (z.cl.map V.int))
 hH:H aH=some (.tup (z.he.map V.int))
 hT:H aT=some (.tup (z.to.map V.int))
theorem DbR.same{C:Addr}{H H':Hp}{D g:Addr}{z:Db}{dx aA aC aH aT:Addr}(h:DbR C H D g z dx aA aC aH aT)(s:Same H H'):DbR C H' D g z dx aA aC aH aT:=⟨s _ _ h.hD,s _ _ h.hA,s _ _ h.hC,s _ _ h.hH,s _ _ h.hT⟩
theorem DbR.set{C:Addr}{H:Hp}{D g:Addr}{z:Db}{dx aA aC aH aT C' dx':Addr}{fs:List (Str×V)}(hD:H D=some (.ins C' dx' fs))(hA:H aA=some (.tup (awV z.aw)))(hC:H aC=some (.tup (z.cl.map V.int)))(hH:H aH=some (.tup (z.he.map V.int)))(hT:H aT=some (.tup (z.to.map V.int))) :
 DbR C (upd H D (.ins C dx (dl g aA aC z.s aH aT z.ed z.pl))) D g z dx aA aC aH aT:=by
 refine⟨ah,?_,?_,?_,?_⟩
 . rw[aq (dh hA hD (by intro z;cases z))];exact hA
 . rw[aq (dh hC hD (by intro z;cases z))];exact hC
 . rw[aq (dh hH hD (by intro z;cases z))];exact hH
 . rw[aq (dh hT hD (by intro z;cases z))];exact hT
def DbAt(C:Addr)(H:Hp)(D g:Addr)(z:Db):Prop:=∃dx aA aC aH aT,DbR C H D g z dx aA aC aH aT
theorem DbAt.same{C:Addr}{H H':Hp}{D g:Addr}{z:Db}(h:DbAt C H D g z)(s:Same H H'):DbAt C H' D g z:=by
 obtain⟨_,_,_,_,_,r⟩:=h;exact⟨_,_,_,_,_,r.same s⟩
def Gm(CG:Addr)(H:Hp)(g:Addr)(ns:List Str)(ts:List Tr)(p:Int):Prop:=∃(a b d:Addr)(tv:List V),GameAt CG H g a b d p/\H a=some (.tup (ns.map V.str))/\H b=some (.tup tv)/\TreesAt H tv ts/\H d=some (.lst ((ns.map (bj ts)).map V.int))
theorem Gm.same{CG:Addr}{H H':Hp}{g:Addr}{ns:List Str}{ts:List Tr}{p:Int}(h:Gm CG H g ns ts p)(s:Same H H'):Gm CG H' g ns ts p:=by
 obtain⟨a,b,d,tv,h1,h2,h3,h4,h5⟩:=h;exact⟨a,b,d,tv,h1.same s,s _ _ h2,s _ _ h3,h4.mono (aB s),s _ _ h5⟩
theorem Cg (a b:Addr) (p:Int) (d:Addr):(gf a b p d).lookup ("game":Str)=none:=wE _ _ _ _ (by decide) (by decide) (by decide) (by decide)
theorem Gm.ne {CG C:Addr} {H:Hp} {g D:Addr} {ns:List Str} {ts:List Tr} {p:Int} {dx:Addr} {fs:List (Str×V)} {v:V} (h:Gm CG H g ns ts p) (hD:H D=some (.ins C dx fs)) (hg:fs.lookup ("game":Str)=some v):g≠D:=fun z=>by
 obtain⟨a,b,d,tv,⟨dx',e⟩,_⟩:=h;rw[z,hD]at e;cases e;rw[Cg]at hg;cases hg
theorem Gm.but{CG C:Addr}{H H':Hp}{g D:Addr}{ns:List Str}{ts:List Tr}{p:Int}{dx:Addr}{fs:List (Str×V)}(h:Gm CG H g ns ts p)(hD:H D=some (.ins C dx fs))(hg:g≠D)(s:SameBut D H H'):Gm CG H' g ns ts p:=by
 obtain⟨a,b,d,tv,⟨dx',e⟩,h2,h3,h4,h5⟩:=h;exact⟨a,b,d,tv,⟨dx',s _ _ hg e⟩,s _ _ (dh h2 hD (by intro z;cases z)) h2,s _ _ (dh h3 hD (by intro z;cases z)) h3,h4.mono (fun c xs hc=>s _ _ (dh hc hD (by intro z;cases z)) hc),s _ _ (dh h5 hD (by intro z;cases z)) h5⟩
structure GmK(ns:List Str)(ts:List Tr)(p:Int):Prop where
 pr:Pr p
 p2:2<p
 p9:p<=999983
 n10:ns.length<=10
 t1:1<=ts.length
 t10:ts.length<=10
 tok:∀t∈ts,t.ok ns/\t.wf/\t.depth<=10/\t.size<=400
 tp:(ts.length:Int)<=p
 tc:∀t∈ts,∀x∈ns,(t.names.count x:Int)<p
theorem GmK.deg{ns:List Str}{ts:List Tr}{p:Int}(k:GmK ns ts p):∀x∈ns,0<=bj ts x/\bj ts x<p:=fun x hx=>by
 have t0:ts≠[]:=fun z=>by have:=k.t1;rw[z]at this;cases this
 refine⟨?_,sR t0 fun t ht=>k.tc t ht x hx⟩
 have:=iO (ns:=ts.map fun t=>(t.names.count x:Int)) (by simpa using t0)
 obtain⟨t,_,e⟩:=List.mem_map.mp this;unfold bj;rw[←e];omega
def szs(ts:List Tr):Int:=(ts.map fun t=>(t.size:Int)).sum
def iP(ns:List Str)(ts:List Tr)(p:Int)(z:Db):Db:=
 { z with pl:=z.pl+szs ts,aw:=if z.ed=hor z.s p (ts.map fun t=>t.worth ns z.to p)then("believed",none)else("caught",some ((z.to.length:Int)+1)) }
def ir(ns:List Str)(ts:List Tr)(p:Int)(z:Db):Db:=
 if z.to.length<ns.length then { z with aw:=("hear",some (bj ts (ns.getD z.to.length "")+1)) }else iP ns ts p z
def vz(ns:List Str)(ts:List Tr)(p s:Int)(z:Db):Db:=ir ns ts p { z with s:=s,ed:=hor s p z.cl }
def jC(ns:List Str)(ts:List Tr)(p:Int)(xs:List Int)(z:Db):Db:=
 if ts.length=1 then vz ns ts p 0 { z with cl:=xs }else { z with cl:=xs,aw:=("coin",none) }
def og(p:Int)(xs:List Int)(z:Db):Db:=
 { z with he:=xs,aw:=if(val p xs 0+val p xs 1) % p=z.ed then("coin",none)else("caught",some ((z.to.length:Int)+1)) }
def gj(ns:List Str)(ts:List Tr)(p:Int)(xs:List Int)(z:Db):Db:=
 if z.cl=[]then jC ns ts p xs { z with pl:=z.pl+(xs.length:Int) }else og p xs { z with pl:=z.pl+(xs.length:Int) }
def fQ(ns:List Str)(ts:List Tr)(p r:Int)(z:Db):Db:=
 if z.he=[]then vz ns ts p r { z with pl:=z.pl+1 }else ir ns ts p { z with pl:=z.pl+1,ed:=val p z.he r,to:=z.to++[r] }
def Db.new (ts:List Tr):Db:=⟨("hear",some (ts.length:Int)),[],0,[],[],0,0⟩
theorem ql:FnScope ["value","p"] ["value","p"] (ak gC):=⟨rfl,rfl,rfl,by decide,rfl,by decide,by decide⟩
def wb(C:Addr):Sp:=fun vs H Q _=>∃(g:Addr)(ns:List Str)(ts:List Tr)(p:Int),vs=[.ref g]/\Gm C H g ns ts p/\GmK ns ts p/\∀H',Same H H'->Q (.int (szs ts)) H'
theorem qp:FnScope ["game"] ["game"] (ak gG):=⟨rfl,rfl,rfl,by decide,rfl,by decide,by decide⟩
theorem vK{ts:List Tr}(h:∀t∈ts,t.size<=400)(hl:ts.length<=10):0<=szs ts/\szs ts<=4000:=by
 have:∀l:List Tr,(∀t∈l,t.size<=400)->0<=szs l/\szs l<=400*(l.length:Int):=fun l=>by
  induction l with
  | nil=>intro _;exact⟨Int.le_refl _,Int.le_refl _⟩
  | cons t r ih=>
    intro hh;have h1:=ih fun u hu=>hh u (qK0 _ hu)
    have h2:=hh t (qL0 ..);have e:szs (t::r)=(t.size:Int)+szs r:=by unfold szs;rw[qF0,List.sum_cons]
    rw[e,zV0];omega
 have:=this ts h
 omega
theorem qN {f C:Addr} {fd:FuncData} (F:Fun K "all_sizes" "all_sizes" gG f fd) (B:Bl mg) (T:GTxt K mg C) (gr:Cal P w K mg base 12 "size_of" ["tree"] (eX 10)):FnOk P w K mg base CX0 13 f fd ["game"] (wb C):=by
 refine F.ok qp (fun vs H Q E h=>?_) (fun cdv A outer s H vs Q E hr h=>?_)
 . obtain⟨g,ns,ts,p,rfl,_⟩:=h;rfl
 obtain ⟨g,ns,ts,p,rfl,⟨a,b,d,tv,⟨dx,hg⟩,ha,hb,TS,hd⟩,k,q⟩:=h;refine⟨_,(ag (ax (aD (kB rfl) rfl B.sum PyProof.Rows.boot_sum (aa (cz (N:=[]) (ix:=[]) (cl:=[]) rfl (CompScope.closed (by rfl') (by decide) rfl (by decide) rfl (by rfl')) rfl
  (dk (aU (pv 0) rfl)) (fun _ _ _=>bZ (al gr hr (by decide) rfl (aa (pv 0) ac)))) ac)))),?_⟩
 have vl:=TS.length;refine⟨_,rfl,g,C,dx,_,_,rfl,hg,T.cl,T.nT,pM ..,b,rfl,⟨_,zC0 hb⟩,fun D hD=>?_⟩;refine cG (K:=K) (xs:=tv) (fun i H'=>H' D=some (.lst (((ts.take i).map fun t=>(t.size:Int)).map V.int))/\Same H H') ⟨by rw[ah];rfl,zB0 hD _⟩ (fun i H' _ h=>zC0 (h.2 _ _ hb)) ?_ ?_
 . rintro i x H2 hx ⟨hl,S2⟩;obtain⟨u,hu,Tu⟩:=TS.get hx;obtain⟨_,uw,ud,us⟩:=k.tok u (zZ0 hu);have hi:i<tv.length:=(zT0 hx).1
   have:=k.t10
   refine⟨_,rfl,x,u,rfl,Tu.mono (aB S2),uw,ud,us,fun H3 S3=>?_⟩;refine⟨_,S3 _ _ hl,?_,Nx.of hi ⟨?_,fun b o e=>?_⟩⟩
   . rw[zE0,zE0,qJ0];exact aK (by omega)
   . rw[ah,qI0,hu,zK0,zK0];rfl
   . rw[aq (ai e hD)];exact S3 _ _ (S2 _ _ e)
 . rintro H2 ⟨hl,S2⟩;rw[vl,qG0]at hl;have sr:=vK (fun t ht=>(k.tok t ht).2.2.2) k.t10;refine⟨D,_,rfl,zG0 hl,?_,?_,?_⟩
   . intro n hn;obtain⟨u,hu,rfl⟩:=List.mem_map.mp hn
     have:=(k.tok u hu).2.2.2
     omega
   . have e:((ts.map fun t=>(t.size:Int)).sum)=szs ts:=rfl;rw[e];omega
   . exact q H2 S2
section
variable {C CG:Addr}
def vP(C CG:Addr):Sp:=fun vs H Q _=>∃(D g:Addr)(z:Db)(ns:List Str)(ts:List Tr)(p:Int),vs=[.ref D]/\DbAt C H D g z/\Gm CG H g ns ts p/\GmK ns ts p/\z.to.length=ns.length/\cw z.to p/\∀H',SameBut D H H'->DbAt C H' D g (iP ns ts p z)->Q .non H'
theorem xA:FnScope ["self"] ["self"] (ak jZ):=⟨rfl,rfl,rfl,by decide,rfl,by decide,by decide⟩
theorem xW {f fW:Addr} {fd fdW:FuncData} (F:Fun K "look_at_trees" "Doubter.look_at_trees" jZ f fd) (B:Bl mg) (T:DTxt K mg C) (TG:GTxt K mg CG) (mW:Meth K CG "worth_at" fW) (GW:FnOk P w K mg base CX0 13 fW fdW ["self","point","s"] (Ct CG)) (bW:Binds K fdW ["self","point","s"] [])
 (jM:Cal P w K mg base 13 "all_sizes" ["game"] (wb CG)):FnOk P w K mg base CX0 14 f fd ["self"] (vP C CG):=by
 refine F.ok xA (fun vs H Q E h=>?_) (fun cdv A outer s H vs Q E hr h=>?_)
 . obtain⟨D,g,z,ns,ts,p,rfl,_⟩:=h;rfl
 obtain ⟨D,g,z,ns,ts,p,rfl,⟨dx,aA,aC,aH,aT,R⟩,G,k,tl,po,q⟩:=h;have hr13:Room 13 _:=hr;refine⟨_,(ad (bJ (pv 0) (aj aN (aU (pv 0) rfl) (al jM hr (by decide) rfl (aa (aU (pv 0) rfl) ac))) rfl)
  (ag (aX (av bA (aU (pv 0) rfl) (fv (aU (pv 0) rfl) TG.cl mW GW hr13 bW .nil cH (aa (aU (pv 0) rfl) (aa (aU (pv 0) rfl) ac))) (ay _))
   (ag (bJ (pv 0) (aY (aa aG ac)) rfl))
   (ag (bJ (pv 0) (aY (aa aG (aa (aj aN (aD az rfl B.len PySem.boot_len (aa (aU (pv 0) rfl) ac)) ae) ac))) rfl))))),?_⟩
 have gD:=G.ne R.hD gO;refine⟨_,rfl,D,C,dx,_,_,rfl,R.hD,T.cl,T.nP,wJ,_,rfl,D,C,dx,_,_,rfl,R.hD,T.cl,T.nG,gO,g,ns,ts,p,rfl,G,k,fun H1 S1=>?_⟩;have R1:=R.same S1;refine⟨_,_,rfl,rfl,_,rfl,D,C,dx,_,rfl,R1.hD,T.cl,T.nP,cW,?_⟩;rw[uq];have S2:SameBut D H1 (upd H1 D (.ins C dx (dl g aA aC z.s aH aT z.ed (z.pl+szs ts)))):=SameBut.upd _;have R2:DbR C (upd H1 D (.ins C dx (dl g aA aC z.s aH aT z.ed (z.pl+szs ts)))) D g { z with pl:=z.pl+szs ts } dx aA aC aH aT:=DbR.set (z:={ z with pl:=z.pl+szs ts }) R1.hD R1.hA R1.hC R1.hH R1.hT;have G2:=(G.same S1).but R1.hD gD S2;generalize upd H1 D (.ins C dx (dl g aA aC z.s aH aT z.ed (z.pl+szs ts)))=H2 at S2 R2 G2;have G2':=G2;obtain⟨a,b,d,tv,GA,ha,hb,TS,hd⟩:=G2';obtain⟨dg,hg⟩:=GA;have p2:=k.p2;have p9:=k.p9;refine⟨_,rfl,D,C,dx,_,_,rfl,R2.hD,T.cl,T.nE,AM,_,rfl,D,C,dx,_,_,rfl,R2.hD,T.cl,T.nG,gO,g,dg,_,rfl,hg,wE _ _ _ _ (by decide) (by decide) (by decide) (by decide),_,rfl,D,C,dx,_,_,rfl,R2.hD,T.cl,T.nT,AJ,_,rfl,D,C,dx,_,_,rfl,R2.hD,T.cl,T.nS,dl_s,?_⟩;refine⟨g,a,b,d,aT,ns,tv,ts,z.to,z.s,p,rfl,⟨dg,hg⟩,by omega,by omega,ha,hb,TS,k.t10,fun t ht=>⟨(k.tok t ht).1,(k.tok t ht).2.2.1⟩,R2.hT,tl,po,fun H3 S3=>?_⟩;have R3:=R2.same S3;have S03:SameBut D H H3:=(zJ0 S1).trans (S2.trans (zJ0 S3));refine⟨rfl,_,rfl,?_⟩
 by_cases c:z.ed=hor z.s p (ts.map fun t=>t.worth ns z.to p)
 . refine cg (congrArg V.int c) ?_;refine⟨(by show 1<=sizeLine;decide),fun t ht=>?_⟩;have I:=zB0 ht (.tup [.str "believed"]);have R4:=R3.same I;refine⟨_,rfl,D,C,dx,_,rfl,R4.hD,T.cl,T.nA,cW,?_⟩;rw[pA];have e:iP ns ts p z={ z with pl:=z.pl+szs ts,aw:=("believed",none) }:=by
    unfold iP;rw[zF0 c]
   refine q _ (S03.trans ((zJ0 I).trans (SameBut.upd _))) ?_;rw[e];exact⟨dx,t,aC,aH,aT,DbR.set (z:={ z with pl:=z.pl+szs ts,aw:=("believed",none) }) R4.hD ah R4.hC R4.hH R4.hT⟩
 . refine ba (fun e=>c (V.int.inj e)) ?_;refine⟨_,rfl,D,C,dx,_,_,rfl,R3.hD,T.cl,T.nT,AJ,aT,_,rfl,.inr (zC0 R3.hT),_,_,rfl,rfl,(by show 2<=sizeLine;decide),fun t ht=>?_⟩;have I:=zB0 ht (.tup [.str "caught",.int (((z.to.map V.int).length:Int)+1)]);have R4:=R3.same I;refine⟨_,rfl,D,C,dx,_,rfl,R4.hD,T.cl,T.nA,cW,?_⟩;rw[pA];have e:iP ns ts p z={ z with pl:=z.pl+szs ts,aw:=("caught",some ((z.to.length:Int)+1)) }:=by
    unfold iP;rw[zD0 c]
   refine q _ (S03.trans ((zJ0 I).trans (SameBut.upd _))) ?_;rw[e];refine⟨dx,t,aC,aH,aT,DbR.set (z:={ z with pl:=z.pl+szs ts,aw:=("caught",some ((z.to.length:Int)+1)) }) R4.hD ?_ R4.hC R4.hH R4.hT⟩;rw[ah,zE0];rfl
theorem qU{xs:List Int}{j:Nat}(h:j<xs.length):atI (xs.map V.int) (j:Int)=some (.int (xs.getD j 0)):=aO (by rw[qE0,zU0 h,qM0,zU0 h];rfl)
theorem wL {ns:List Str} {ts:List Tr} {j:Nat} (h:j<ns.length):(ns.map (bj ts)).getD j 0=bj ts (ns.getD j ""):=by
 rw[qM0,qE0,qM0,zU0 h];rfl
def Dh(C CG:Addr):Sp:=fun vs H Q _=>∃(D g:Addr)(z:Db)(ns:List Str)(ts:List Tr)(p:Int),vs=[.ref D]/\DbAt C H D g z/\Gm CG H g ns ts p/\GmK ns ts p/\z.to.length<=ns.length/\cw z.to p/\∀H',SameBut D H H'->DbAt C H' D g (ir ns ts p z)->Q .non H'
theorem EH:FnScope ["self","done"] ["self"] (ak we):=⟨rfl,rfl,rfl,by decide,rfl,by decide,by decide⟩
theorem DC {f fT:Addr} {fd fdT:FuncData} (F:Fun K "go_on" "Doubter.go_on" we f fd) (B:Bl mg) (T:DTxt K mg C) (TG:GTxt K mg CG) (mT:Meth K C "look_at_trees" fT) (GT:FnOk P w K mg base CX0 14 fT fdT ["self"] (vP C CG)) (bT:Binds K fdT ["self"] []):FnOk P w K mg base CX0 15 f fd ["self"] (Dh C CG):=by
 refine F.ok EH (fun vs H Q E h=>?_) (fun cdv A outer s H vs Q E hr h=>?_)
 . obtain⟨D,g,z,ns,ts,p,rfl,_⟩:=h;rfl
 obtain ⟨D,g,z,ns,ts,p,rfl,⟨dx,aA,aC,aH,aT,R⟩,G,k,tl,po,q⟩:=h;refine⟨_,(ad (au (i:=1) EH.nd rfl (Or.inl rfl) (aD az rfl B.len PySem.boot_len (aa (aU (pv 0) rfl) ac)))
  (ag (aX (av ko (pv 1) (aD az rfl B.len PySem.boot_len (aa (aU (aU (pv 0) rfl) rfl) ac)) (ay _))
   (ag (bJ (pv 0) (aY (aa aG (aa (aj aN (aJ ix_list (aU (aU (pv 0) rfl) rfl) (pv 1) (fun _ _=>rfl)) ae) ac))) rfl))
   (ag (bV (eT (pv 0) T.cl mT GT hr bT .nil cH)))))),?_⟩
 have G':=G;obtain⟨a,b,d,tv,⟨dg,hg⟩,ha,hb,TS,hd⟩:=G';refine⟨_,rfl,D,C,dx,_,_,rfl,R.hD,T.cl,T.nT,AJ,aT,_,rfl,.inr (zC0 R.hT),?_⟩;refine⟨_,rfl,_,rfl,D,C,dx,_,_,rfl,R.hD,T.cl,T.nG,gO,g,CG,dg,_,_,rfl,hg,TG.cl,TG.nS,wD ..,a,_,rfl,.inr (zC0 ha),_,_,rfl,rfl,_,rfl,?_⟩
 by_cases c:z.to.length<ns.length
 . refine cg (by rw[zE0,zE0];omega) ?_;have ej:((z.to.map V.int).length:Int)=(z.to.length:Int):=by rw[zE0]
   have hx:ns.getD z.to.length ""∈ns:=by
    rw[qM0,zU0 c];exact qR0 c
   have dr:=k.deg _ hx;refine⟨_,rfl,D,C,dx,_,_,rfl,R.hD,T.cl,T.nG,gO,g,CG,dg,_,_,rfl,hg,TG.cl,TG.nD,CH ..,_,rfl,d,_,_,_,rfl,rfl,zG0 hd,by rw[ej];exact qU (by rw[zE0];exact c),_,_,rfl,rfl,(by show 2<=sizeLine;decide),fun t ht=>?_⟩;rw[wL c]at *
   have I:=zB0 ht (.tup [.str "hear",.int (bj ts (ns.getD z.to.length "")+1)]);have R4:=R.same I;refine⟨_,rfl,D,C,dx,_,rfl,R4.hD,T.cl,T.nA,cW,?_⟩;rw[pA];have e:ir ns ts p z={ z with aw:=("hear",some (bj ts (ns.getD z.to.length "")+1)) }:=by
    unfold ir;rw[zF0 c]
   refine q _ ((zJ0 I).trans (SameBut.upd _)) ?_;rw[e];exact⟨dx,t,aC,aH,aT,DbR.set (z:={ z with aw:=("hear",some (bj ts (ns.getD z.to.length "")+1)) }) R4.hD ah R4.hC R4.hH R4.hT⟩
 . refine ba (by rw[zE0,zE0];omega) ?_;have e:ir ns ts p z=iP ns ts p z:=by
    unfold ir;rw[zD0 c]
   rw[e]at q;refine⟨_,rfl,D,dx,_,rfl,R.hD,DV,?_⟩;exact⟨D,g,z,ns,ts,p,rfl,⟨dx,aA,aC,aH,aT,R⟩,G,k,by omega,po,q⟩
def zn(C CG:Addr):Sp:=fun vs H Q _=>∃(D g:Addr)(z:Db)(s:Int)(ns:List Str)(ts:List Tr)(p:Int),vs=[.ref D,.int s]/\DbAt C H D g z/\Gm CG H g ns ts p/\GmK ns ts p/\z.to.length<=ns.length/\cw z.to p/\∀H',SameBut D H H'->DbAt C H' D g (vz ns ts p s z)->Q .non H'
theorem xB:FnScope ["self","s"] ["self","s"] (ak ka):=⟨rfl,rfl,rfl,by decide,rfl,by decide,by decide⟩
theorem xZ {f fG fM:Addr} {fd fdG fdM:FuncData} (F:Fun K "begin_rounds" "Doubter.begin_rounds" ka f fd) (T:DTxt K mg C) (TG:GTxt K mg CG) (mM:Meth K CG "mix" fM) (GM:FnOk P w K mg base CX0 1 fM fdM ["self","numbers","s"] (zg CG)) (bM:Binds K fdM ["self","numbers","s"] [])
 (mG:Meth K C "go_on" fG) (GG:FnOk P w K mg base CX0 15 fG fdG ["self"] (Dh C CG)) (bG:Binds K fdG ["self"] []):FnOk P w K mg base CX0 16 f fd ["self","s"] (zn C CG):=by
 refine F.ok xB (fun vs H Q E h=>?_) (fun cdv A outer s H vs Q E hr h=>?_)
 . obtain⟨D,g,z,s,ns,ts,p,rfl,_⟩:=h;rfl
 obtain ⟨D,g,z,s,ns,ts,p,rfl,⟨dx,aA,aC,aH,aT,R⟩,G,k,tl,po,q⟩:=h;have hr1:Room 1 _:=hr.mono (by decide);refine⟨_,(ad (bJ (pv 0) (pv 1) rfl)
  (ad (bJ (pv 0) (fv (aU (pv 0) rfl) TG.cl mM GM hr1 bM .nil cH (aa (aU (pv 0) rfl) (aa (pv 1) ac))) rfl)
  (ag (bV (eT (pv 0) T.cl mG GG hr bG .nil cH))))),?_⟩
 have gD:=G.ne R.hD gO;have p2:=k.p2;have p9:=k.p9;refine⟨_,rfl,_,rfl,D,C,dx,_,rfl,R.hD,T.cl,T.nS,cW,?_⟩;rw[put_s];have S1:SameBut D H (upd H D (.ins C dx (dl g aA aC s aH aT z.ed z.pl))):=SameBut.upd _;have R1:DbR C (upd H D (.ins C dx (dl g aA aC s aH aT z.ed z.pl))) D g { z with s:=s } dx aA aC aH aT:=DbR.set (z:={ z with s:=s }) R.hD R.hA R.hC R.hH R.hT;have G1:=G.but R.hD gD S1;generalize upd H D (.ins C dx (dl g aA aC s aH aT z.ed z.pl))=H1 at S1 R1 G1;have G1':=G1;obtain⟨a,b,d,tv,⟨dg,hg⟩,ha,hb,TS,hd⟩:=G1';refine⟨_,rfl,D,C,dx,_,_,rfl,R1.hD,T.cl,T.nG,gO,g,dg,_,rfl,hg,wE _ _ _ _ (by decide) (by decide) (by decide) (by decide),_,rfl,D,C,dx,_,_,rfl,R1.hD,T.cl,T.nC,dl_c,_,rfl,?_⟩;refine⟨g,a,b,d,aC,z.cl,s,p,rfl,⟨dg,hg⟩,by omega,by omega,.inr R1.hC,?_⟩;refine⟨_,rfl,D,C,dx,_,rfl,R1.hD,T.cl,T.nE,cW,?_⟩;rw[zI];have S2:SameBut D H1 (upd H1 D (.ins C dx (dl g aA aC s aH aT (hor s p z.cl) z.pl))):=SameBut.upd _;have R2:DbR C (upd H1 D (.ins C dx (dl g aA aC s aH aT (hor s p z.cl) z.pl))) D g { z with s:=s,ed:=hor s p z.cl } dx aA aC aH aT:=DbR.set (z:={ z with s:=s,ed:=hor s p z.cl }) R1.hD R1.hA R1.hC R1.hH R1.hT;have G2:=G1.but R1.hD gD S2;generalize upd H1 D (.ins C dx (dl g aA aC s aH aT (hor s p z.cl) z.pl))=H2 at S2 R2 G2;refine⟨_,rfl,D,dx,_,rfl,R2.hD,AK,?_⟩;exact⟨D,g,_,ns,ts,p,rfl,⟨dx,aA,aC,aH,aT,R2⟩,G2,k,tl,po,fun H3 S3 D3=>q H3 (S1.trans (S2.trans S3)) D3⟩
def mP(C CG:Addr):Sp:=fun vs H Q _=>∃(D g l:Addr)(z:Db)(xs:List Int)(ns:List Str)(ts:List Tr)(p:Int),vs=[.ref D,.ref l]/\DbAt C H D g z/\Gm CG H g ns ts p/\GmK ns ts p/\H l=some (.tup (xs.map V.int))/\z.to.length<=ns.length/\cw z.to p/\∀H',SameBut D H H'->DbAt C H' D g (jC ns ts p xs z)->Q .non H'
theorem ui:FnScope ["self","values"] ["self","values"] (ak jj):=⟨rfl,rfl,rfl,by decide,rfl,by decide,by decide⟩
theorem uI {f fB:Addr} {fd fdB:FuncData} (F:Fun K "hear_claims" "Doubter.hear_claims" jj f fd) (B:Bl mg) (T:DTxt K mg C) (TG:GTxt K mg CG) (mB:Meth K C "begin_rounds" fB) (GB:FnOk P w K mg base CX0 16 fB fdB ["self","s"] (zn C CG)) (bB:Binds K fdB ["self","s"] []):FnOk P w K mg base CX0 17 f fd ["self","values"] (mP C CG):=by
 refine F.ok ui (fun vs H Q E h=>?_) (fun cdv A outer s H vs Q E hr h=>?_)
 . obtain⟨D,g,l,z,xs,ns,ts,p,rfl,_⟩:=h;rfl
 obtain ⟨D,g,l,z,xs,ns,ts,p,rfl,⟨dx,aA,aC,aH,aT,R⟩,G,k,hl,tl,po,q⟩:=h;refine⟨_,(ad (bJ (pv 0) (pv 1) rfl)
  (ag (aX (av bA (aD az rfl B.len PySem.boot_len (aa (aU (aU (pv 0) rfl) rfl) ac)) ae (ay _))
   (ag (bV (fv (pv 0) T.cl mB GB hr bB .nil cH (aa ae ac))))
   (ag (bJ (pv 0) (aY (aa aG ac)) rfl))))),?_⟩
 have gD:=G.ne R.hD gO;refine⟨_,rfl,_,rfl,D,C,dx,_,rfl,R.hD,T.cl,T.nC,cW,?_⟩;rw[put_c];have S1:SameBut D H (upd H D (.ins C dx (dl g aA l z.s aH aT z.ed z.pl))):=SameBut.upd _;have R1:DbR C (upd H D (.ins C dx (dl g aA l z.s aH aT z.ed z.pl))) D g { z with cl:=xs } dx aA l aH aT:=DbR.set (z:={ z with cl:=xs }) R.hD R.hA hl R.hH R.hT;have G1:=G.but R.hD gD S1;generalize upd H D (.ins C dx (dl g aA l z.s aH aT z.ed z.pl))=H1 at S1 R1 G1;have G1':=G1;obtain⟨a,b,d,tv,⟨dg,hg⟩,ha,hb,TS,hd⟩:=G1';have vl:=TS.length;refine⟨_,rfl,D,C,dx,_,_,rfl,R1.hD,T.cl,T.nG,gO,g,CG,dg,_,_,rfl,hg,TG.cl,TG.nT,pM ..,b,_,rfl,.inr (zC0 hb),rfl,_,rfl,?_⟩
 by_cases c:ts.length=1
 . refine cg (congrArg V.int (by omega)) ?_;have e:jC ns ts p xs z=vz ns ts p 0 { z with cl:=xs }:=by
    unfold jC;rw[zF0 c]
   rw[e]at q;refine⟨_,rfl,D,dx,_,rfl,R1.hD,CI,?_⟩;exact⟨D,g,_,0,ns,ts,p,rfl,⟨dx,aA,l,aH,aT,R1⟩,G1,k,tl,po,fun H3 S3 D3=>q H3 (S1.trans S3) D3⟩
 . refine ba (fun e=>c (by have:=V.int.inj e;omega)) ?_;have e:jC ns ts p xs z={ z with cl:=xs,aw:=("coin",none) }:=by
    unfold jC;rw[zD0 c]
   refine⟨(by show 1<=sizeLine;decide),fun t ht=>?_⟩;have I:=zB0 ht (.tup [.str "coin"]);have R4:=R1.same I;refine⟨_,rfl,D,C,dx,_,rfl,R4.hD,T.cl,T.nA,cW,?_⟩;rw[pA];refine q _ (S1.trans ((zJ0 I).trans (SameBut.upd _))) ?_;rw[e];exact⟨dx,t,l,aH,aT,DbR.set (z:={ z with cl:=xs,aw:=("coin",none) }) R4.hD ah R4.hC R4.hH R4.hT⟩
def ua(C CG:Addr):Sp:=fun vs H Q _=>∃(D g l:Addr)(z:Db)(xs:List Int)(ns:List Str)(ts:List Tr)(p:Int),vs=[.ref D,.ref l]/\DbAt C H D g z/\Gm CG H g ns ts p/\GmK ns ts p/\H l=some (.tup (xs.map V.int))/\iy xs p/\∀H',SameBut D H H'->DbAt C H' D g (og p xs z)->Q .non H'
theorem Bs:FnScope ["self","values"] ["self","values"] (ak qr):=⟨rfl,rfl,rfl,by decide,rfl,by decide,by decide⟩
theorem BQ {f:Addr} {fd:FuncData} (F:Fun K "hear_row" "Doubter.hear_row" qr f fd) (B:Bl mg) (T:DTxt K mg C) (TG:GTxt K mg CG) (jN:Cal P w K mg base 5 "both_ends" ["values","p"] zm):FnOk P w K mg base CX0 6 f fd ["self","values"] (ua C CG):=by
 refine F.ok Bs (fun vs H Q E h=>?_) (fun cdv A outer s H vs Q E hr h=>?_)
 . obtain⟨D,g,l,z,xs,ns,ts,p,rfl,_⟩:=h;rfl
 obtain ⟨D,g,l,z,xs,ns,ts,p,rfl,⟨dx,aA,aC,aH,aT,R⟩,G,k,hl,ro,q⟩:=h;refine⟨_,(ad (bJ (pv 0) (pv 1) rfl)
  (ag (aX (av bA (al jN hr (by decide) rfl (aa (pv 1) (aa (aU (aU (pv 0) rfl) rfl) ac))) (aU (pv 0) rfl) (ay _))
   (ag (bJ (pv 0) (aY (aa aG ac)) rfl))
   (ag (bJ (pv 0) (aY (aa aG (aa (aj aN (aD az rfl B.len PySem.boot_len (aa (aU (pv 0) rfl) ac)) ae) ac))) rfl))))),?_⟩
 have gD:=G.ne R.hD gO;refine⟨_,rfl,_,rfl,D,C,dx,_,rfl,R.hD,T.cl,T.nH,cW,?_⟩;rw[put_h];have S1:SameBut D H (upd H D (.ins C dx (dl g aA aC z.s l aT z.ed z.pl))):=SameBut.upd _;have R1:DbR C (upd H D (.ins C dx (dl g aA aC z.s l aT z.ed z.pl))) D g { z with he:=xs } dx aA aC l aT:=DbR.set (z:={ z with he:=xs }) R.hD R.hA R.hC hl R.hT;have G1:=G.but R.hD gD S1;generalize upd H D (.ins C dx (dl g aA aC z.s l aT z.ed z.pl))=H1 at S1 R1 G1;have G1':=G1;obtain⟨a,b,d,tv,⟨dg,hg⟩,ha,hb,TS,hd⟩:=G1';refine⟨_,rfl,_,rfl,D,C,dx,_,_,rfl,R1.hD,T.cl,T.nG,gO,g,CG,dg,_,_,rfl,hg,TG.cl,TG.nF,jD ..,l,xs,p,rfl,.inr R1.hH,ro,k.pr,k.p9,fun H2 S2=>?_⟩;have R2:=R1.same S2;refine⟨_,rfl,D,C,dx,_,_,rfl,R2.hD,T.cl,T.nE,AM,rfl,_,rfl,?_⟩;have S02:SameBut D H H2:=S1.trans (zJ0 S2)
 by_cases c:(val p xs 0+val p xs 1) % p=z.ed
 . refine cg (congrArg V.int c) ?_;have e:og p xs z={ z with he:=xs,aw:=("coin",none) }:=by
    unfold og;rw[zF0 c]
   refine⟨(by show 1<=sizeLine;decide),fun t ht=>?_⟩;have I:=zB0 ht (.tup [.str "coin"]);have R4:=R2.same I;refine⟨_,rfl,D,C,dx,_,rfl,R4.hD,T.cl,T.nA,cW,?_⟩;rw[pA];refine q _ (S02.trans ((zJ0 I).trans (SameBut.upd _))) ?_;rw[e];exact⟨dx,t,aC,l,aT,DbR.set (z:={ z with he:=xs,aw:=("coin",none) }) R4.hD ah R4.hC R4.hH R4.hT⟩
 . refine ba (fun e=>c (V.int.inj e)) ?_;have e:og p xs z={ z with he:=xs,aw:=("caught",some ((z.to.length:Int)+1)) }:=by
    unfold og;rw[zD0 c]
   refine⟨_,rfl,D,C,dx,_,_,rfl,R2.hD,T.cl,T.nT,AJ,aT,_,rfl,.inr (zC0 R2.hT),_,_,rfl,rfl,(by show 2<=sizeLine;decide),fun t ht=>?_⟩;have I:=zB0 ht (.tup [.str "caught",.int (((z.to.map V.int).length:Int)+1)]);have R4:=R2.same I;refine⟨_,rfl,D,C,dx,_,rfl,R4.hD,T.cl,T.nA,cW,?_⟩;rw[pA];refine q _ (S02.trans ((zJ0 I).trans (SameBut.upd _))) ?_;rw[e];refine⟨dx,t,aC,l,aT,DbR.set (z:={ z with he:=xs,aw:=("caught",some ((z.to.length:Int)+1)) }) R4.hD ?_ R4.hC R4.hH R4.hT⟩;rw[ah,zE0];rfl
end
section
variable {C CG:Addr}
theorem jm{K:W.Frag}{H:Hp}{a:Addr}{xs:List Int}(h:H a=some (.tup (xs.map V.int))):Rep K H (.ref a) (.tuple (xs.map PyData.int)):=.tup (zC0 h) (ng xs)
theorem wI(xs:List Int):PyData.eqv (.tuple (xs.map PyData.int)) (.tuple [])=decide (xs=[]):=by
 cases xs with
 | nil=>rfl
 | cons a r=>rfl
theorem ja(ns:List Int):SeqAt.shaped (.tuple (ns.map PyData.int))=true:=by
 simp [SeqAt.shaped,PyData.canLay0,PyData.depth,W.ke_canLayAll0,W.ke_depthAll]
theorem zC:FnScope ["self","values"] ["self","values"] (ak mh):=⟨rfl,rfl,rfl,by decide,rfl,by decide,by decide⟩
def De (C CG:Addr):Sp:=fun vs H Q _=>∃(D g:Addr) (z:Db) (r:Int) (ns:List Str) (ts:List Tr) (p:Int),vs=[.ref D,.int r]/\DbAt C H D g z/\Gm CG H g ns ts p/\GmK ns ts p/\z.aw.1="coin"/\0<=r/\r<p/\z.to.length<=ns.length/\(z.he≠[]->iy z.he p/\z.to.length<ns.length)/\cw z.to p/\∀H',SameBut D H H'->DbAt C H' D g (fQ ns ts p r z)->Q .non H'
theorem zy:FnScope ["self","r"] ["self","r"] (ak ma):=⟨rfl,rfl,rfl,by decide,rfl,by decide,by decide⟩
theorem iw(a:Str×Option Int):(awV a)[0]?=some (.str a.1):=by
 unfold awV
 split <;> rfl
def rCatA(K:W.Frag):R2:=fun x y H Q=>∃a b xs ys,x=.ref a/\y=.ref b/\SqT K H a xs/\SqT K H b ys/\ys≠[]/\xs.length+ys.length<=sizeLine/\(xs=[]->Q (.ref b) H)/\(xs≠[]->∀p,H p=none->Q (.ref p) (upd H p (.tup (xs++ys))))
theorem BM{X:Cx}:OpR X (binaryOp .Add) (rCatA X.K):=by
 intro pins s σ H x y v u Q I rx ry h;obtain⟨a,b,xs,ys,ex,ey,ha,hb,hy,hz,q1,q2⟩:=h
 by_cases c:xs=[]
 . subst c;exact kq pins s σ H x y v u Q I rx ry ⟨a,b,ys,ex,ey,ha,hb,q1 rfl⟩
 . exact op_catT pins s σ H x y v u Q I rx ry ⟨a,b,xs,ys,ex,ey,ha,hb,c,hz,fun z=>absurd z hy,fun _=>q2 c⟩
def wa(C CG:Addr):Sp:=fun vs H Q _=>∃(D g dx:Addr)(ns:List Str)(ts:List Tr)(p:Int),vs=[.ref D,.ref g]/\H D=some (.ins C dx [])/\Gm CG H g ns ts p/\g≠D/\∀H',SameBut D H H'->DbAt C H' D g (Db.new ts)->Q .non H'
theorem zA:FnScope ["self","game"] ["self","game"] (ak me):=⟨rfl,rfl,rfl,by decide,rfl,by decide,by decide⟩
def tV(C:Addr)(t:Db->V->Hp->Prop):Sp:=fun vs H Q _=>∃(D g:Addr)(z:Db),vs=[.ref D]/\DbAt C H D g z/\∀v,t z v H->Q v H
theorem Bt:FnScope ["self"] ["self"] (ak qt):=⟨rfl,rfl,rfl,by decide,rfl,by decide,by decide⟩
theorem BR {f:Addr} {fd:FuncData} (F:Fun K "due" "Doubter.due" qt f fd) (T:DTxt K mg C):FnOk P w K mg base CX0 1 f fd ["self"] (tV C fun z v _=>v=.int z.ed):=by
 refine F.ok Bt (fun vs H Q E h=>?_) (fun cdv A outer s H vs Q E hr h=>?_)
 . obtain⟨D,g,z,rfl,_⟩:=h;rfl
 obtain⟨D,g,z,rfl,⟨dx,aA,aC,aH,aT,R⟩,q⟩:=h;refine⟨_,(ag (ax (aU (pv 0) rfl))),?_⟩;exact⟨_,rfl,D,C,dx,_,_,rfl,R.hD,T.cl,T.nE,AM,q _ rfl⟩
theorem xz:FnScope ["self"] ["self"] (ak jY):=⟨rfl,rfl,rfl,by decide,rfl,by decide,by decide⟩
theorem xV {f:Addr} {fd:FuncData} (F:Fun K "waits" "Doubter.waits" jY f fd) (T:DTxt K mg C):FnOk P w K mg base CX0 1 f fd ["self"] (tV C fun z v H=>∃a,v=.ref a/\H a=some (.tup (awV z.aw))):=by
 refine F.ok xz (fun vs H Q E h=>?_) (fun cdv A outer s H vs Q E hr h=>?_)
 . obtain⟨D,g,z,rfl,_⟩:=h;rfl
 obtain⟨D,g,z,rfl,⟨dx,aA,aC,aH,aT,R⟩,q⟩:=h;refine⟨_,(ag (ax (aU (pv 0) rfl))),?_⟩;exact⟨_,rfl,D,C,dx,_,_,rfl,R.hD,T.cl,T.nA,ow,q _ ⟨aA,rfl,R.hA⟩⟩
end
section
variable {C CG:Addr}
theorem bi{H:Hp}{f b:Addr}{o:HO}(F:FeedAt H f)(h:H b=some o)(n:∀ys,o≠.lst ys):b≠f:=fun z=>by
 obtain⟨u,t,e,_⟩:=F;rw[z,e]at h;exact n _ (zO0 h).symm
def awD(a:Str×Option Int):PyData:=match a.2 with
 | none=>.tuple [.str a.1]
 | some n=>.tuple [.str a.1,.int n]
theorem uo{K:W.Frag}{H:Hp}{c:Addr}{a:Str×Option Int}(h:H c=some (.tup (awV a))):Rep K H (.ref c) (awD a):=by
 obtain⟨x,n⟩:=a;cases n with
 | none=>exact .tup (zC0 h) (.cons (.str x) .nil)
 | some n=>exact .tup (zC0 h) (.cons (.str x) (.cons (.int n) .nil))
def AwW (x:Str):Prop:=x="hear"∨x="coin"∨x="caught"∨x="believed"
theorem AwW.ok{x:Str}(h:AwW x):PyData.strOk x=true:=by
 rcases h with rfl | rfl | rfl | rfl <;> decide
theorem pe{a:Str×Option Int}(h:AwW a.1):SeqAt.shaped (awD a)=true:=by
 obtain⟨x,n⟩:=a
 have:=h.ok
 cases n <;> simp [awD,SeqAt.shaped,PyData.canLay0,PyData.depth,PyData.canLayAll0,PyData.depthAll] <;> exact this
theorem Bm(x y:Str):(x==y)=decide (x=y):=by
 by_cases c:x=y
 . subst c;simp
 . rw[decide_eq_false c];simpa using c
theorem DT(a b:Str×Option Int):PyData.eqv (awD a) (awD b)=decide (a=b):=by
 obtain⟨x,n⟩:=a;obtain⟨y,m⟩:=b;cases n <;> cases m <;> simp [awD,PyData.eqv,PyData.eqvAll,Bm]
 rename_i u v
 by_cases c:u=v
 . subst c;simp
 . simp [c]
def kH:Sp:=fun vs H Q _=>∃(f:Addr)(p:Int),vs=[.ref f,.int p]/\FeedAt H f/\2<=p/\p<2 ^ 40/\∀(r:Int)(H':Hp),0<=r->r<p->FeedAt H' f->SameBut f H H'->Q (.int r) H'
theorem xx:FnScope ["_law_feed_here","_law_p"] ["_law_feed_here","_law_p"] (ak jW):=⟨rfl,rfl,rfl,by decide,rfl,by decide,by decide⟩
theorem yY{a b c:Int}{i:Int}(h0:0<=i)(h:i<3):∃v:Int,atI [V.int a,.int b,.int c] i=some (.int v)/\(v=a∨v=b∨v=c):=by
 have:i=0∨i=1∨i=2:=by omega
 rcases this with rfl | rfl | rfl
 . exact⟨a,rfl,.inl rfl⟩
 . exact⟨b,rfl,.inr (.inl rfl)⟩
 . exact⟨c,rfl,.inr (.inr rfl)⟩
theorem xT {f:Addr} {fd:FuncData} (F:Fun K "_law_coin" "_law_coin" jW f fd) (aE:Cal P w K mg base 1 "_law_take" ["_law_feed_here","_law_many"] dX):FnOk P w K mg base CX0 2 f fd ["_law_feed_here","_law_p"] kH:=by
 refine F.ok xx (fun vs H Q E h=>?_) (fun cdv A outer s H vs Q E hr h=>?_)
 . obtain⟨f,p,rfl,_⟩:=h;rfl
 obtain⟨f,p,rfl,FA,p2,p40,q⟩:=h;refine⟨_,(ag (ax (aJ ix_list (bo (aa (al aE hr (by decide) rfl (aa (pv 0) (aa (pv 1) ac))) (aa (al aE hr (by decide) rfl (aa (pv 0) (aa ae ac))) (aa (aj bd (pv 1) ae) ac)))) (al aE hr (by decide) rfl (aa (pv 0) (aa ae ac))) (fun _ _=>rfl)))),?_⟩;refine⟨_,rfl,_,rfl,f,p,rfl,FA,by omega,by omega,fun d1 H1 d10 d11 F1 S1=>?_⟩;refine⟨_,rfl,f,2,rfl,F1,by decide,by decide,fun d2 H2 d20 d21 F2 S2=>?_⟩;refine⟨_,rfl,_,_,rfl,rfl,(by show 3<=sizeLine;decide),fun l hl=>?_⟩;have I:=zB0 hl (.lst [.int d1,.int d2,.int (p-1)]);refine⟨_,rfl,f,3,rfl,F2.same I,by decide,by decide,fun d3 H3 d30 d31 F3 S3=>?_⟩;obtain⟨v,hv,vv⟩:=yY (a:=d1) (b:=d2) (c:=p-1) d30 d31;refine⟨l,_,_,_,rfl,rfl,zG0 (S3 _ _ (F2.ne hl) ah),hv,?_⟩;exact q v H3 (by omega) (by omega) F3 (S1.trans (S2.trans ((zJ0 I).trans S3)))
def qe:Sp:=fun vs H Q _=>∃(l:Addr)(ns:List Int)(s p:Int),vs=[.ref l,.int s,.int p]/\H l=some (.lst (ns.map V.int))/\0<p/\p<2 ^ 40/\∀H',Same H H'->Q (.int (hor s p ns)) H'
theorem j9:FnScope ["_law_numbers","_law_s","_law_p","_law_total","_law_number"] ["_law_numbers","_law_s","_law_p"] (ak lX):=⟨rfl,rfl,rfl,by decide,rfl,by decide,by decide⟩
theorem zY {f:Addr} {fd:FuncData} (F:Fun K "_law_mix" "_law_mix" lX f fd):FnOk P w K mg base CX0 1 f fd ["_law_numbers","_law_s","_law_p"] qe:=by
 refine F.ok j9 (fun vs H Q E h=>?_) (fun cdv A outer s H vs Q E hr h=>?_)
 . obtain⟨l,ns,s,p,rfl,_⟩:=h;rfl
 obtain ⟨l,ns,s,p,rfl,hl,p0,p40,q⟩:=h;refine⟨_,(ad (au (i:=3) j9.nd rfl (Or.inl rfl) ae)
  (ad (cD PassesOwn.never rfl (dG (Dw (pv 0) (wu qa ae))) (aQ (i:=4) j9.nd rfl (Or.inl rfl)) (ag (au (i:=3) j9.nd rfl (Or.inl rfl) (aj aW (aj aN (aj bn (pv 3) (pv 1)) (pv 4)) (pv 2)))))
  (ag (ax (pv 3))))),?_⟩
 refine ⟨_,rfl,1,rfl,rfl,l,_,rfl,.inl ⟨zG0 hl,fun b hb=>?_⟩⟩;have I:=zB0 hb (.lst (ns.map V.int).reverse);have hb1:upd H b (.lst (ns.map V.int).reverse) b=some (.lst (ns.map V.int).reverse):=ah;generalize upd H b (.lst (ns.map V.int).reverse)=H1 at I hb1;refine⟨b,rfl,⟨_,zG0 hb1⟩,cY (K:=K) (xs:=(ns.map V.int).reverse) (fun i σ H'=>∃(x4:Option V)(t:Int),σ=[some (.ref l),some (.int s),some (.int p),some (.int t),x4]/\t=hor s p (ns.drop (ns.length-i))/\H'=H1)
  ⟨_,0,rfl,by rw[Nat.sub_zero,List.drop_length];rfl,rfl⟩ (fun i σ H' _ hst=>by obtain⟨_,_,_,_,h⟩:=hst;subst h;exact zG0 hb1) ?_ ?_⟩
 . rintro i z σ H2 hz ⟨x4,t,rfl,rfl,rfl⟩;have hi:=(zT0 hz).1;rw[List.length_reverse,zE0]at hi;rw[←List.map_reverse,qE0]at hz;obtain⟨x,hx,rfl⟩:=qS0 hz;rw[List.getElem?_reverse hi]at hx;have hr2:=mv (s:=s) p0 (ns.drop (ns.length-i));refine⟨_,rfl,_,rfl,_,_,rfl,rfl,.inl ⟨by omega,by omega⟩,_,rfl,_,_,rfl,rfl,_,rfl,_,_,rfl,rfl,p0,?_⟩;refine⟨_,_,rfl,?_,rfl⟩;have hj:ns.length-1-i<ns.length:=by omega
   have ed:ns.drop (ns.length-(i+1))=x::ns.drop (ns.length-i):=by
    have e1:ns.length-(i+1)=ns.length-1-i:=by omega
    have e2:ns.length-i=ns.length-1-i+1:=by omega
    rw[e1,e2,List.drop_eq_getElem_cons hj]
    congr 1
    rw[zU0 hj]at hx;exact zO0 hx
   rw[ed];rfl
 . rintro σ H2 ⟨x4,t,rfl,rfl,rfl⟩;rw[List.length_reverse,zE0,Nat.sub_self,List.drop_zero];exact⟨_,rfl,q _ I⟩
theorem lC:∀ns ms:List Int,PyData.eqvAll (ns.map PyData.int) (ms.map PyData.int)=decide (ns=ms)
 | [],[]=>rfl
 | [],_::_=>rfl
 | _::_,[]=>rfl
 | a::r,b::t=>by
   simp only[qF0,PyData.eqvAll,PyData.eqv,lC r t]
   by_cases h1:a=b <;> by_cases h2:r=t <;> simp [h1,h2]
theorem oq(ns ms:List Int):PyData.eqv (.list (ns.map PyData.int)) (.list (ms.map PyData.int))=decide (ns=ms):=by simp [PyData.eqv,lC]
theorem cM(ns:List Int):SeqAt.shaped (.list (ns.map PyData.int))=true:=by
 simp [SeqAt.shaped,PyData.canLay0,PyData.depth,W.ke_canLayAll0,W.ke_depthAll]
end
section
variable {C CG:Addr}
theorem vE (o:Str):inV (.str o) [.str "yes",.str "no"]=(decide (o="yes")||decide (o="no")):=by
 show (("yes"==o)||(("no"==o)||false))=_;rw[Bool.or_false];have e:∀z:Str,(z==o)=decide (o=z):=fun z=>by
  by_cases c:o=z
  . subst c;simp
  . rw[decide_eq_false c];simpa using fun h=>c h.symm
 rw[e,e]
def lJ (o:Str) (x y:Int):Int:=if o="and" then x*y else if o="or" then x+y-x*y else if o="odd" then x+y-2*x*y else 1-(x+y-2*x*y)
def dP (x y:Int):List (Key×V):=[(Sum.inr "and",V.int (x*y)),(Sum.inr "or",V.int (x+y-x*y)),(Sum.inr "odd",V.int (x+y-2*x*y))]
def dQ (x y:Int):List (Key×V):=dP x y++([(Sum.inr "same",V.int (1-(x+y-2*x*y)))]:List (Key×V))
theorem AT(x y:Int):kR [] (dP x y)=dP x y:=by rfl'
theorem DZ (x y:Int) (v:V):jx (dP x y) (Sum.inr "same") v=dP x y++([(Sum.inr "same",v)]:List (Key×V)):=by rfl'
theorem Ea (x y:Int):kF (dP x y) (Sum.inr "odd")=some (V.int (x+y-2*x*y)):=by rfl'
theorem DY(x y:Int):∀o∈joinW,kF (dQ x y) (Sum.inr o)=some (V.int (lJ o x y)):=by
 intro o ho;simp only[joinW,List.mem_cons,List.not_mem_nil,or_false]at ho;rcases ho with rfl | rfl | rfl | rfl
 . have e:lJ "and" x y=x*y:=by unfold lJ;rw[zF0 rfl]
   rw[e];rfl'
 . have e:lJ "or" x y=x+y-x*y:=by unfold lJ;rw[zD0 (by decide),zF0 rfl]
   rw[e];rfl'
 . have e:lJ "odd" x y=x+y-2*x*y:=by unfold lJ;rw[zD0 (by decide),zD0 (by decide),zF0 rfl]
   rw[e];rfl'
 . have e:lJ "same" x y=1-(x+y-2*x*y):=by unfold lJ;rw[zD0 (by decide),zD0 (by decide),zD0 (by decide)]
   rw[e];rfl'
theorem vb(o:Str)(p x y:Int):cX p o x y=lJ o x y % p:=by
 unfold cX lJ;rw[Int.mul_assoc]
 repeat' split
 all_goals rfl
theorem mq{o x:Str}(h:o∈joinW)(hx:x∉joinW):¬ V.str o=V.str x:=fun z=>hx (by rw[←V.str.inj z];exact h)
def tX(n:Nat):Sp:=fun vs H Q _=>∃(v:V)(t:Tr)(a b:Addr)(ns:List Str)(pt:List Int)(p:Int),vs=[v,.ref a,.ref b,.int p]/\TreeAt H v t/\t.ok ns/\t.depth<=n/\NamesAt H a ns/\H b=some (.tup (pt.map V.int))/\pt.length=ns.length/\1<p/\p<2 ^ 40/\cw pt p/\∀H',Same H H'->Q (.int (t.worth ns pt p)) H'
theorem gP:FnScope ["_law_tree_here","_law_names_here","_law_point","_law_p","_law_one","_law_other","_law_both"] ["_law_tree_here","_law_names_here","_law_point","_law_p"] (ak gU):=⟨rfl,rfl,rfl,by decide,rfl,by decide,by decide⟩
theorem BZ {n:Nat} {f:Addr} {fd:FuncData} (F:Fun K "_law_worth" "_law_worth" gU f fd) (hint:mg "int"=none) (cp:Cal P w K mg base (n+2) "_law_worth" ["_law_tree_here","_law_names_here","_law_point","_law_p"] (tX n)):FnOk P w K mg base CX0 (n+3) f fd ["_law_tree_here","_law_names_here","_law_point","_law_p"] (tX (n+1)):=by
 refine F.ok gP (fun vs H Q E h=>?_) (fun cdv A outer s H vs Q E hr h=>?_)
 . obtain⟨v,t,a,b,ns,pt,p,rfl,_⟩:=h;rfl
 obtain⟨v,t,a,b,ns,pt,p,rfl,T,ok,dn,hN,hb,sl,p1,p40,po,k⟩:=h;have hu:=hu_of hr;have p0:(0:Int)<p:=by omega
 refine ⟨_,(ad (aX (av bA (aJ aZ (pv 0) ae (fun _ _=>rfl)) aG (ay _)) (ag (ax (aJ aZ (pv 2) (rV PySem.F.plainAttrs_list PySem.F.plainAttrs_tuple (pv 1) (aa (aJ aZ (pv 0) ae (fun _ _=>rfl)) ac)) (fun _ _=>rfl)))) aI)
  (ad (aX (av jt (aJ aZ (pv 0) ae (fun _ _=>rfl)) (aY (aa aG (aa aG ac))) (by rfl')) (ag (ax (bO jv rfl hint hU (aa (jq bA (aJ aZ (pv 0) ae (fun _ _=>rfl)) aG (ay _)) ac)))) aI)
  (ad (au (i:=4) gP.nd rfl (Or.inl rfl) (al cp hr (zI0 _) rfl (aa (aJ aZ (pv 0) ae (fun _ _=>rfl)) (aa (pv 1) (aa (pv 2) (aa (pv 3) ac))))))
  (ad (aX (av bA (aJ aZ (pv 0) ae (fun _ _=>rfl)) aG (ay _)) (ag (ax (aj aW (aj bd ae (pv 4)) (pv 3)))) aI)
  (ad (au (i:=5) gP.nd rfl (Or.inl rfl) (al cp hr (zI0 _) rfl (aa (aJ aZ (pv 0) ae (fun _ _=>rfl)) (aa (pv 1) (aa (pv 2) (aa (pv 3) ac))))))
  (ad (au (i:=6) gP.nd rfl (Or.inl rfl) (BJ (nu aG (aj bn (pv 4) (pv 5)) (nu aG (aj bd (aj aN (pv 4) (pv 5)) (aj bn (pv 4) (pv 5))) (nu aG (aj bd (aj aN (pv 4) (pv 5)) (aj bn (aj bn ae (pv 4)) (pv 5))) BF))) rfl rfl (by simp) (by decide)))
  (ad (BC hu (pv 6) aG (aj bd ae (ww hu (pv 6) aG (fun _ _=>rfl))) rfl)
  (ag (ax (aj aW (ww hu (pv 6) (aJ aZ (pv 0) ae (fun _ _=>rfl)) (fun _ _=>rfl)) (pv 3))))))))))),?_⟩
 have yn:∀(o:Str)(q:Addr)(xs:List V)(σ:St)(H1:Hp),True:=fun _ _ _ _ _=>trivial
 cases T with
 | @is q x e=>
   refine⟨_,rfl,q,_,0,_,rfl,rfl,zC0 e,rfl,rfl,_,rfl,?_⟩;refine cg rfl ?_;obtain⟨j,hj,jl⟩:=gW (show x∈ns from ok);have jl':j<pt.length:=by omega
   refine⟨_,rfl,_,rfl,a,ns,rfl,hN,_,rfl,q,_,1,_,rfl,rfl,zC0 e,rfl,rfl,x,j,rfl,hj,b,_,(j:Int),.int pt[j],rfl,rfl,zC0 hb,?_,?_⟩
   . refine aO ?_;rw[qE0,zU0 jl'];rfl
   . have e1:(Tr.is x).worth ns pt p=pt[j]:=by
      show(match fe x ns with | some j=>pt.getD j 0 | none=>0)=_;rw[hj];show pt.getD j 0=_;exact om jl'
     have k':=k _ (Same.refl _);rw[e1]at k';exact k'
 | @yes q e=>
   refine⟨_,rfl,q,_,0,_,rfl,rfl,zC0 e,rfl,rfl,_,rfl,?_⟩;refine ba (by decide) ?_;refine⟨_,rfl,q,_,0,_,rfl,rfl,zC0 e,rfl,(by show 2<=sizeLine;decide),fun c hc=>?_⟩;have G:=zB0 hc (.tup [.str "yes",.str "no"]);refine⟨c,_,rfl,.inr (zC0 ah),rfl,rfl,_,rfl,?_⟩;have e0:inV (.str "yes") [.str "yes",.str "no"]=true:=by rw[vE];decide
   show if inV (.str "yes") [.str "yes",.str "no"]=true then _ else _
   rw[e0];refine fE ?_;refine⟨_,rfl,q,_,0,_,rfl,rfl,zC0 (G _ _ e),rfl,rfl,.inr ⟨_,rfl,?_⟩⟩;have e1:decide (V.str "yes"=V.str "yes")=true:=decide_eq_true rfl;rw[e1];exact k _ G
 | @no q e=>
   refine⟨_,rfl,q,_,0,_,rfl,rfl,zC0 e,rfl,rfl,_,rfl,?_⟩;refine ba (by decide) ?_;refine⟨_,rfl,q,_,0,_,rfl,rfl,zC0 e,rfl,(by show 2<=sizeLine;decide),fun c hc=>?_⟩;have G:=zB0 hc (.tup [.str "yes",.str "no"]);refine⟨c,_,rfl,.inr (zC0 ah),rfl,rfl,_,rfl,?_⟩;have e0:inV (.str "no") [.str "yes",.str "no"]=true:=by rw[vE];decide
   show if inV (.str "no") [.str "yes",.str "no"]=true then _ else _
   rw[e0];refine fE ?_;refine⟨_,rfl,q,_,0,_,rfl,rfl,zC0 (G _ _ e),rfl,rfl,.inr ⟨_,rfl,?_⟩⟩;have e1:decide (V.str "no"=V.str "yes")=false:=by decide
   rw[e1];exact k _ G
 | @not q u r e g=>
   refine⟨_,rfl,q,_,0,_,rfl,rfl,zC0 e,rfl,rfl,_,rfl,?_⟩;refine ba (by decide) ?_;refine⟨_,rfl,q,_,0,_,rfl,rfl,zC0 e,rfl,(by show 2<=sizeLine;decide),fun c hc=>?_⟩;have G:=zB0 hc (.tup [.str "yes",.str "no"]);refine⟨c,_,rfl,.inr (zC0 ah),rfl,rfl,_,rfl,?_⟩;have e0:inV (.str "not") [.str "yes",.str "no"]=false:=by rw[vE];decide
   show if inV (.str "not") [.str "yes",.str "no"]=true then _ else _
   rw [e0];refine eJ ?_;have dn':r.depth<=n:=by
    have:r.depth+1<=n+1:=dn
    omega
   refine⟨_,rfl,q,_,1,_,rfl,rfl,zC0 (G _ _ e),rfl,_,rfl,_,rfl,_,rfl,u,r,a,b,ns,pt,p,rfl,g.mono (aB G),ok,dn',hN.same G,G _ _ hb,sl,p1,p40,po,fun H2 S2=>?_⟩;have S02:=G.trans S2;refine⟨_,rfl,q,_,0,_,rfl,rfl,zC0 (S02 _ _ e),rfl,rfl,_,rfl,?_⟩;refine cg rfl ?_;refine⟨_,rfl,_,_,rfl,rfl,_,rfl,_,_,rfl,rfl,p0,?_⟩;exact k _ S02
 | @bin q o u u2 r r2 e g g2=>
   obtain ⟨ho,ok1,ok2⟩:=ok;refine⟨_,rfl,q,_,0,.str o,rfl,rfl,zC0 e,at0 ..,rfl,_,rfl,?_⟩;refine ba (mq ho (by decide)) ?_;refine⟨_,rfl,q,_,0,.str o,rfl,rfl,zC0 e,at0 ..,(by show 2<=sizeLine;decide),fun c hc=>?_⟩;have G:=zB0 hc (.tup [.str "yes",.str "no"]);refine⟨c,_,rfl,.inr (zC0 ah),rfl,rfl,_,rfl,?_⟩;have e0:inV (.str o) [.str "yes",.str "no"]=false:=by
    rw[vE,decide_eq_false,decide_eq_false]
    . rfl
    . exact fun z=>mq ho (by decide) (congrArg V.str z)
    . exact fun z=>mq ho (by decide) (congrArg V.str z)
   show if inV (.str o) [.str "yes",.str "no"]=true then _ else _
   rw [e0];refine eJ ?_;have dn':r.depth<=n/\r2.depth<=n:=by
    have:max r.depth r2.depth+1<=n+1:=dn
    omega
   refine⟨_,rfl,q,_,1,_,rfl,rfl,zC0 (G _ _ e),rfl,_,rfl,_,rfl,_,rfl,u,r,a,b,ns,pt,p,rfl,g.mono (aB G),ok1,dn'.1,hN.same G,G _ _ hb,sl,p1,p40,po,fun H2 S2=>?_⟩;have S02:=G.trans S2;have w1:=kE p1 po sl r ok1;have w2:=kE p1 po sl r2 ok2;have ew:(Tr.bin o r r2).worth ns pt p=lJ o (r.worth ns pt p) (r2.worth ns pt p) % p:=vb o p _ _;rw[ew]at k;refine⟨_,rfl,q,_,0,.str o,rfl,rfl,zC0 (S02 _ _ e),at0 ..,rfl,_,rfl,?_⟩;refine ba (mq ho (by decide)) ?_;refine⟨_,rfl,q,_,2,_,rfl,rfl,zC0 (S02 _ _ e),rfl,_,rfl,_,rfl,_,rfl,u2,r2,a,b,ns,pt,p,rfl,g2.mono (aB S02),ok2,dn'.2,hN.same S02,S02 _ _ hb,sl,p1,p40,po,fun H3 S3=>?_⟩;have S03:=S02.trans S3;generalize r.worth ns pt p=x at w1 k;generalize r2.worth ns pt p=y at w2 k;refine fun d hd=>?_
   refine ⟨_,rfl,_,rfl,_,_,rfl,rfl,.inl ⟨by omega,by omega⟩,_,rfl,_,rfl,_,_,rfl,rfl,_,rfl,_,rfl,_,_,rfl,rfl,.inl ⟨by omega,by omega⟩,_,_,rfl,rfl,_,rfl,_,rfl,_,_,rfl,rfl,_,rfl,_,_,rfl,rfl,.inl ⟨by decide,by decide⟩,_,rfl,_,_,rfl,rfl,.inr ⟨by omega,by omega⟩,_,_,rfl,rfl,?_⟩;refine⟨ah,dP x y,rfl,by show 3<=15;decide,?_⟩;rw[AT];have Sd:Same H3 (upd (upd H3 d (.dK [])) d (.dK (dP x y))):=fun b' o' e'=>by
    have nb:=ai e' hd;rw[aq nb,aq nb];exact e'
   have hd2:upd (upd H3 d (.dK [])) d (.dK (dP x y)) d=some (.dK (dP x y)):=ah;generalize upd (upd H3 d (.dK [])) d (.dK (dP x y))=H4 at Sd hd2;refine⟨_,rfl,d,_,rfl,(by rw[←Ea x y];exact DGet.k (k:=Sum.inr _) hd2),_,_,rfl,rfl,_,rfl,d,_,rfl,DPut.k (k:=Sum.inr "same") hd2 (aK (by show 3<=1000;decide)),?_⟩;rw[DZ];have Se:Same H3 (upd H4 d (.dK (dQ x y))):=fun b' o' e'=>by
    rw[aq (ai e' hd)];exact Sd _ _ e'
   have he2:upd H4 d (.dK (dQ x y)) d=some (.dK (dQ x y)):=ah;show _;refine⟨_,rfl,_,rfl,q,_,0,.str o,rfl,rfl,zC0 (Se _ _ (S03 _ _ e)),at0 ..,d,_,rfl,(by rw[←DY x y o ho];exact DGet.k (k:=Sum.inr _) he2),_,rfl,_,_,rfl,rfl,p0,?_⟩;exact k _ (S03.trans Se)
theorem BY {f:Addr} {fd:FuncData}:FnOk P w K mg base CX0 2 f fd ["_law_tree_here","_law_names_here","_law_point","_law_p"] (tX 0):=by
 have no:∀vs H Q E,¬ tX 0 vs H Q E:=fun vs H Q E h=>by
  obtain⟨v,t,_,_,_,_,_,_,_,_,h1,_⟩:=h
  have:=t.depth_pos
  omega
 exact⟨fun vs H Q E h=>absurd h (no vs H Q E),fun A outer s H args us vs Q E _ _ _ _ h=>absurd h (no vs H Q E)⟩
theorem nN {f:Addr} {fd:FuncData} (F:Fun K "_law_worth" "_law_worth" gU f fd) (hint:mg "int"=none) (m:mg "_law_worth"=some (.ref f)) :
 ∀n:Nat,FnOk P w K mg base CX0 (n+2) f fd ["_law_tree_here","_law_names_here","_law_point","_law_p"] (tX n)
 | 0=>BY
 | n+1=>BZ F hint (Cal.of F (nN F hint m n) m (fun _ _ _ _ _ _ us hl=>by obtain⟨u0,u1,u2,u3,rfl⟩:=qQ hl;rfl))
theorem vq {X:Cx} (K:W.Frag) (hc:X.calm=true) (h:X.K=K:=by rfl):fh X (.builtin "max") (Cz K):=by subst h;exact kX hc
def tZ:Sp:=fun vs H Q _=>∃(a b:Addr)(ns:List Str)(tv:List V)(ts:List Tr),vs=[.ref a,.ref b]/\H a=some (.tup (ns.map V.str))/\H b=some (.tup tv)/\TreesAt H tv ts/\ts≠[]/\ts.length<=10/\ns.length<=10/\(∀t∈ts,t.wf/\t.depth<=10/\t.size<=400)/\∀(l:Addr)(H':Hp),H l=none->Same H H'->H' l=some (.lst ((ns.map (bj ts)).map V.int))->Q (.ref l) H'
theorem qk:FnScope ["_law_names_here","_law_trees"] ["_law_names_here","_law_trees"] (ak gB):=⟨rfl,rfl,rfl,by decide,rfl,by decide,by decide⟩
theorem qK {f:Addr} {fd:FuncData} (F:Fun K "_law_degrees" "_law_degrees" gB f fd) (B:Bl mg) (bv:Cal P w K mg base 12 "_law_names_of" ["_law_tree_here"] (tW 10)):FnOk P w K mg base CX0 13 f fd ["_law_names_here","_law_trees"] tZ:=by
 refine F.ok qk (fun vs H Q E h=>?_) (fun cdv A outer s H vs Q E hr h=>?_)
 . obtain⟨a,b,ns,tv,ts,rfl,_⟩:=h;rfl
 obtain ⟨a,b,ns,tv,ts,rfl,ha,hb,TS,t0,t10,n10,tok,q⟩:=h;refine⟨_,(ag (ax (zR (N:=["_law_trees"]) (ix:=[1]) rfl
  (CompScopeO.one (by rfl') (fun _ _=>⟨by rfl',by rfl'⟩) rfl (by decide) (by rfl') (by decide) (by rfl') (by rfl') (by rfl') rfl rfl) rfl
  (dk (pv 0))
  (fun _ _ _=>bZ (aD (vq K rfl) rfl B.max PyProof.Rows.boot_max (aa (cz (N:=["_law_name"]) (ix:=[0]) rfl
   (CompScope.one (by rfl') (by decide) rfl (by decide) rfl (by decide) (by rfl') (by rfl') (by rfl') (by rfl') (by rfl')) rfl
   (BG K (pv 1))
   (fun _ _ _=>bZ (qE K PySem.F.plainAttrs_list PySem.F.slot_list_count PySem.F.type_list_count (kQ K) (al bv hr (by decide) rfl (aa (pv 0) ac)) (aa (pv 1) ac)))) ac)))))),?_⟩
 have vl:=TS.length;refine⟨_,rfl,a,rfl,⟨_,zC0 ha⟩,fun D hD=>?_⟩;refine cG (K:=K) (xs:=ns.map V.str) (fun i H'=>H' D=some (.lst (((ns.take i).map (bj ts)).map V.int))/\Same H H') ⟨by rw[ah];rfl,zB0 hD _⟩ (fun i H' _ h=>zC0 (h.2 _ _ ha)) ?_ ?_
 . rintro i z H2 hz ⟨hl,S2⟩;have hi:i<(ns.map V.str).length:=(zT0 hz).1;rw[qE0]at hz;obtain⟨x,hx,rfl⟩:=qS0 hz;refine⟨_,rfl,b,rfl,⟨_,zC0 (S2 _ _ hb)⟩,fun D2 hD2=>?_⟩;refine cG (K:=K) (xs:=tv) (fun j H'=>H' D2=some (.lst (((ts.take j).map fun t=>(t.names.count x:Int)).map V.int))/\Same H2 H') ⟨by rw[ah];rfl,zB0 hD2 _⟩ (fun j H' _ h=>zC0 (h.2 _ _ (S2 _ _ hb))) ?_ ?_
   . rintro j u H3 hu ⟨hl3,S3⟩;obtain⟨t,ht,Tt⟩:=TS.get hu;obtain⟨tw,td,tz⟩:=tok t (zZ0 ht);have hj:j<tv.length:=(zT0 hu).1;refine⟨_,rfl,u,t,rfl,Tt.mono (aB (S2.trans S3)),tw,by omega,tz,fun l H4 l0 S4 hl4=>?_⟩;refine⟨.inl ⟨rfl,_,zG0 hl4⟩,_,rfl,l,_,_,rfl,rfl,zG0 hl4,eK _,rfl,?_⟩;rw[jJ];refine⟨_,S4 _ _ hl3,?_,Nx.of hj ⟨?_,fun b' o' e'=>?_⟩⟩
     . rw[zE0,zE0,qJ0];exact aK (by omega)
     . rw[ah,qI0,ht,zK0,zK0];rfl
     . rw[aq (ai e' hD2)];exact S4 _ _ (S3 _ _ e')
   . rintro H3 ⟨hl3,S3⟩;rw[vl,qG0]at hl3;refine⟨D2,_,rfl,zG0 hl3,by simpa using t0,?_⟩;refine⟨_,S3 _ _ hl,?_,Nx.of hi ⟨?_,fun b' o' e'=>?_⟩⟩
     . rw[zE0,zE0,qJ0];exact aK (by omega)
     . rw[ah,qI0,hx,zK0,zK0];rfl
     . rw[aq (ai e' hD)];exact S3 _ _ (S2 _ _ e')
 . rintro H2 ⟨hl,S2⟩;rw[zE0,qG0]at hl;exact q D H2 hD S2 hl
def d1 (g:Addr):List (Str×V):=[("game",.ref g)]
def d2 (g t1:Addr):List (Str×V):=[("game",.ref g),("awaited",.ref t1)]
def d3 (g t1 t2:Addr):List (Str×V):=[("game",.ref g),("awaited",.ref t1),("claims",.ref t2)]
def d4 (g t1 t2:Addr):List (Str×V):=[("game",.ref g),("awaited",.ref t1),("claims",.ref t2),("s",.int 0)]
def d5 (g t1 t2 t3:Addr):List (Str×V):=[("game",.ref g),("awaited",.ref t1),("claims",.ref t2),("s",.int 0),("heard",.ref t3)]
def d6 (g t1 t2 t3 t4:Addr):List (Str×V):=[("game",.ref g),("awaited",.ref t1),("claims",.ref t2),("s",.int 0),("heard",.ref t3),("tossed",.ref t4)]
def d7 (g t1 t2 t3 t4:Addr):List (Str×V):=[("game",.ref g),("awaited",.ref t1),("claims",.ref t2),("s",.int 0),("heard",.ref t3),("tossed",.ref t4),("held",.int 0)]
theorem pd1 (g:Addr):bS "game" (.ref g) []=d1 g:=by rfl'
theorem pd2 (g t1:Addr):bS "awaited" (.ref t1) (d1 g)=d2 g t1:=by rfl'
theorem pd3 (g t1 t2:Addr):bS "claims" (.ref t2) (d2 g t1)=d3 g t1 t2:=by rfl'
theorem pd4 (g t1 t2:Addr):bS "s" (.int 0) (d3 g t1 t2)=d4 g t1 t2:=by rfl'
theorem pd5 (g t1 t2 t3:Addr):bS "heard" (.ref t3) (d4 g t1 t2)=d5 g t1 t2 t3:=by rfl'
theorem pd6 (g t1 t2 t3 t4:Addr):bS "tossed" (.ref t4) (d5 g t1 t2 t3)=d6 g t1 t2 t3 t4:=by rfl'
theorem pd7 (g t1 t2 t3 t4:Addr):bS "held" (.int 0) (d6 g t1 t2 t3 t4)=d7 g t1 t2 t3 t4:=by rfl'
theorem pd8 (g t1 t2 t3 t4:Addr):bS "places" (.int 0) (d7 g t1 t2 t3 t4)=dl g t1 t2 0 t3 t4 0 0:=by rfl'
theorem Ab {f:Addr} {fd:FuncData} (F:Fun K "__init__" "Doubter.__init__" me f fd) (B:Bl mg) (T:DTxt K mg C) (TG:GTxt K mg CG):FnOk P w K mg base CX0 1 f fd ["self","game"] (wa C CG):=by
 refine F.ok zA (fun vs H Q E h=>?_) (fun cdv A outer s H vs Q E hr h=>?_)
 . obtain⟨D,g,dx,ns,ts,p,rfl,_⟩:=h;rfl
 obtain ⟨D,g,dx,ns,ts,p,rfl,hD,G,gD,q⟩:=h;refine⟨_,(ad (bJ (pv 0) (pv 1) rfl)
  (ad (bJ (pv 0) (aY (aa aG (aa (aD az rfl B.len PySem.boot_len (aa (aU (pv 1) rfl) ac)) ac))) rfl)
  (ad (bJ (pv 0) (aY ac) rfl)
  (ad (bJ (pv 0) ae rfl)
  (ad (bJ (pv 0) (aY ac) rfl)
  (ad (bJ (pv 0) (aY ac) rfl)
  (ad (bJ (pv 0) ae rfl)
  (ag (bJ (pv 0) ae rfl))))))))),?_⟩
 obtain ⟨a,b,d,tv,⟨dg,hg⟩,ha,hb,TS,hd⟩:=G;have vl:=TS.length;refine⟨_,rfl,_,rfl,D,C,dx,_,rfl,hD,T.cl,T.nG,(by show 0<1000;decide),?_⟩;rw[pd1];have S1:SameBut D H (upd H D (.ins C dx (d1 g))):=SameBut.upd _;have h1:upd H D (.ins C dx (d1 g)) D=some (.ins C dx (d1 g)):=ah;generalize upd H D (.ins C dx (d1 g))=H1 at S1 h1;have nb:=dh hb hD (by intro z;cases z);refine⟨_,rfl,g,CG,dg,_,_,rfl,S1 _ _ gD hg,TG.cl,TG.nT,pM ..,b,_,rfl,.inr (zC0 (S1 _ _ nb hb)),(by show 2<=sizeLine;decide),fun t1 ht1=>?_⟩;have I1:=zB0 ht1 (.tup [.str "hear",.int (tv.length:Int)]);have g1:upd H1 t1 (.tup [.str "hear",.int (tv.length:Int)]) t1=some (.tup [.str "hear",.int (tv.length:Int)]):=ah;generalize upd H1 t1 (.tup [.str "hear",.int (tv.length:Int)])=H2 at I1 g1;refine⟨_,rfl,D,C,dx,_,rfl,I1 _ _ h1,T.cl,T.nA,(by show 1<1000;decide),?_⟩;rw[pd2];have n1:t1≠D:=(ai h1 ht1).symm;have S2:SameBut D H2 (upd H2 D (.ins C dx (d2 g t1))):=SameBut.upd _;have h2:upd H2 D (.ins C dx (d2 g t1)) D=some (.ins C dx (d2 g t1)):=ah;have k1:=S2 _ _ n1 g1;generalize upd H2 D (.ins C dx (d2 g t1))=H3 at S2 h2 k1;refine⟨(by show 0<=sizeLine;decide),fun t2 ht2=>?_⟩;have I2:=zB0 ht2 (.tup []);have g2:upd H3 t2 (.tup []) t2=some (.tup []):=ah;generalize upd H3 t2 (.tup [])=H4 at I2 g2;refine⟨_,rfl,D,C,dx,_,rfl,I2 _ _ h2,T.cl,T.nC,(by show 2<1000;decide),?_⟩;rw[pd3];have n2:t2≠D:=(ai h2 ht2).symm;have S3:SameBut D H4 (upd H4 D (.ins C dx (d3 g t1 t2))):=SameBut.upd _;have h3:upd H4 D (.ins C dx (d3 g t1 t2)) D=some (.ins C dx (d3 g t1 t2)):=ah;generalize upd H4 D (.ins C dx (d3 g t1 t2))=H5 at S3 h3;refine⟨_,rfl,D,C,dx,_,rfl,h3,T.cl,T.nS,(by show 3<1000;decide),?_⟩;rw[pd4];have S4:SameBut D H5 (upd H5 D (.ins C dx (d4 g t1 t2))):=SameBut.upd _;have h4:upd H5 D (.ins C dx (d4 g t1 t2)) D=some (.ins C dx (d4 g t1 t2)):=ah;generalize upd H5 D (.ins C dx (d4 g t1 t2))=H6 at S4 h4;refine⟨(by show 0<=sizeLine;decide),fun t3 ht3=>?_⟩;have I3:=zB0 ht3 (.tup []);have g3:upd H6 t3 (.tup []) t3=some (.tup []):=ah;generalize upd H6 t3 (.tup [])=H7 at I3 g3;refine⟨_,rfl,D,C,dx,_,rfl,I3 _ _ h4,T.cl,T.nH,(by show 4<1000;decide),?_⟩;rw[pd5];have n3:t3≠D:=(ai h4 ht3).symm;have S5:SameBut D H7 (upd H7 D (.ins C dx (d5 g t1 t2 t3))):=SameBut.upd _;have h5:upd H7 D (.ins C dx (d5 g t1 t2 t3)) D=some (.ins C dx (d5 g t1 t2 t3)):=ah;generalize upd H7 D (.ins C dx (d5 g t1 t2 t3))=H8 at S5 h5;refine⟨(by show 0<=sizeLine;decide),fun t4 ht4=>?_⟩;have I4:=zB0 ht4 (.tup []);have g4:upd H8 t4 (.tup []) t4=some (.tup []):=ah;generalize upd H8 t4 (.tup [])=H9 at I4 g4;refine⟨_,rfl,D,C,dx,_,rfl,I4 _ _ h5,T.cl,T.nT,(by show 5<1000;decide),?_⟩;rw[pd6];have n4:t4≠D:=(ai h5 ht4).symm;refine⟨_,rfl,D,C,dx,_,rfl,ah,T.cl,T.nE,(by show 6<1000;decide),?_⟩;rw[pd7];refine⟨_,rfl,D,C,dx,_,rfl,ah,T.cl,T.nP,(by show 7<1000;decide),?_⟩;rw[pd8];have W:∀{x:Addr} {H':Hp} {o1 o2 o3:HO} {u:HO},x≠D->H' x=some u->upd (upd (upd H' D o1) D o2) D o3 x=some u:=fun {x H' o1 o2 o3 u} n e=>by
  rw[aq n,aq n,aq n];exact e
 have k2:=S3 _ _ n2 g2;have k3:=S5 _ _ n3 g3;refine q _ (S1.trans ((zJ0 I1).trans (S2.trans ((zJ0 I2).trans (S3.trans (S4.trans ((zJ0 I3).trans (S5.trans ((zJ0 I4).trans ((SameBut.upd _).trans ((SameBut.upd _).trans (SameBut.upd _)))))))))))) ⟨dx,t1,t2,t3,t4,ah,?_,?_,?_,W n4 g4⟩
 . rw[vl]at k1;exact W n1 (I4 _ _ (S5 _ _ n1 (I3 _ _ (S4 _ _ n1 (S3 _ _ n1 (I2 _ _ k1))))))
 . exact W n2 (I4 _ _ (S5 _ _ n2 (I3 _ _ (S4 _ _ n2 k2))))
 . exact W n3 (I4 _ _ k3)
end
section
variable {C CG:Addr}
theorem vG{p:Int}(hp:1<p)(x r:Int):val p [x] r=x % p:=by
 have e1:(1:Int) % p=1:=qU0 (by omega) hp
 simp [val,lag,sm,px,wt,e1,Int.one_pow]
theorem iteN'{c A B:Prop}[Decidable c](hc:¬ c)(h:A):if(!decide c)=true then A else B:=by
 rw[decide_eq_false hc];exact fE h
structure Eq2(a p r0 f0 r1 f1:Int):Prop where
 r00:0<r0
 r10:0<=r1
 lt:r1<r0
 le:r0<=p
 d0:p ∣ f0*a-r0
 d1:p ∣ f1*a-r1
 bz:∃x y:Int,x*r0+y*r1=1
theorem yB{a p:Int}(hp:Pm p)(ha:¬ p ∣ a):Eq2 a p p 0 (a % p) 1:=by
 have p1:=hp.1;refine⟨by omega,qB0 _ (by omega),qC0 _ (by omega),Int.le_refl _,⟨-1,by omega⟩,?_,?_⟩
 . refine ⟨a / p,?_⟩
   have:=Int.emod_add_mul_ediv a p
   rw[Int.one_mul];omega
 . obtain ⟨f,k,hk⟩:=hp.2 a ha;refine⟨f*(a / p)-k,f,?_⟩
   have:=Int.emod_add_mul_ediv a p
   grind
theorem AE{a p r0 f0 r1 f1:Int}(h:Eq2 a p r0 f0 r1 f1)(c:0<r1):Eq2 a p r1 f1 (r0-r0 / r1*r1) (f0-r0 / r1*f1)/\(r0-r0 / r1*r1).toNat<r1.toNat/\0<=r0 / r1/\r0 / r1<=p:=by
 have e:=Int.emod_add_mul_ediv r0 r1;have m0:=qB0 r0 (b:=r1) (by omega);have m1:=qC0 r0 c;have em:r0-r0 / r1*r1=r0 % r1:=by rw[Int.mul_comm];omega
 have q0:0<=r0 / r1:=Int.ediv_nonneg (by have:=h.r00;omega) (by omega);have q1:r0 / r1<=r0:=Int.ediv_le_self _ (by have:=h.r00;omega);refine⟨⟨c,by omega,by omega,by have:=h.lt;have:=h.le;omega,h.d1,?_,?_⟩,by omega,q0,by have:=h.le;omega⟩
 . obtain⟨k,hk⟩:=h.d0;obtain⟨l,hl⟩:=h.d1;exact⟨k-r0 / r1*l,by grind⟩
 . obtain⟨x,y,hx⟩:=h.bz;exact⟨y+r0 / r1*x,x,by grind⟩
theorem Cj{a p r0 f0 f1:Int}(h:Eq2 a p r0 f0 0 f1)(p1:1<p):f0 % p*a % p=1:=by
 obtain ⟨x,y,hx⟩:=h.bz;have r1:r0=1:=by
  have h0:=h.r00;have hd:r0 ∣ 1:=⟨x,by grind⟩
  exact Int.le_antisymm (Int.le_of_dvd (by decide) hd) (by omega)
 have hd:=h.d0;rw[r1]at hd;rw[Int.mul_emod,Int.emod_emod,←Int.mul_emod]
 have:=Int.emod_emod_of_dvd (f0*a) (Int.dvd_refl p)
 obtain⟨k,hk⟩:=hd;have e:f0*a=1+p*k:=by omega
 rw[e,Int.add_mul_emod_self_left];exact qU0 (by omega) p1
def tY:Sp:=fun vs H Q _=>∃a p:Int,vs=[.int a,.int p]/\Pm p/\p<2 ^ 30/\¬ p ∣ a/\∀(g:Int)(H':Hp),Same H H'->0<=g->g<p->g*a % p=1->Q (.int g) H'
theorem e8:FnScope ["_law_a","_law_p","_law_one","_law_other","_law_many"] ["_law_a","_law_p"] (ak gz):=⟨rfl,rfl,rfl,by decide,rfl,by decide,by decide⟩
theorem qJ {f:Addr} {fd:FuncData} (F:Fun K "_law_inverse" "_law_inverse" gz f fd):FnOk P w K mg base CX0 1 f fd ["_law_a","_law_p"] tY:=by
 refine F.ok e8 (fun vs H Q E h=>?_) (fun cdv A outer s H vs Q E hr h=>?_)
 . obtain⟨a,p,rfl,_⟩:=h;rfl
 obtain ⟨a,p,rfl,pm,p40,na,q⟩:=h;have p1:=pm.1;refine⟨_,(ad (zJ (i:=2) (j:=3) rfl e8.nd rfl rfl (by decide) rfl rfl (aa (aY (aa (pv 1) (aa ae ac))) (aa (aY (aa (aj aW (pv 0) (pv 1)) (aa ae ac))) ac)) (by rfl'))
  (ad (kg PassesOwn.never (av pB (aJ aZ (pv 3) ae (fun _ _=>rfl)) ae (ay _))
   (ad (au (i:=4) e8.nd rfl (Or.inl rfl) (aj qG (aJ aZ (pv 2) ae (fun _ _=>rfl)) (aJ aZ (pv 3) ae (fun _ _=>rfl))))
   (ag (zJ (i:=2) (j:=3) rfl e8.nd rfl rfl (by decide) rfl rfl (aa (pv 3) (aa (aY (aa (aj bd (aJ aZ (pv 2) ae (fun _ _=>rfl)) (aj bn (pv 4) (aJ aZ (pv 3) ae (fun _ _=>rfl)))) (aa (aj bd (aJ aZ (pv 2) ae (fun _ _=>rfl)) (aj bn (pv 4) (aJ aZ (pv 3) ae (fun _ _=>rfl)))) ac))) ac)) (by rfl')))))
  (ag (ax (aj aW (aJ aZ (pv 2) ae (fun _ _=>rfl)) (pv 1)))))),?_⟩
 refine ⟨_,rfl,(by show 2<=sizeLine;decide),fun t1 ht1=>?_⟩;have I1:=zB0 ht1 (.tup [.int p,.int 0]);have g1:upd H t1 (.tup [.int p,.int 0]) t1=some (.tup [.int p,.int 0]):=ah;generalize upd H t1 (.tup [.int p,.int 0])=H1 at I1 g1;refine⟨_,rfl,_,rfl,_,_,rfl,rfl,(show 0<p by omega),(by show 2<=sizeLine;decide),fun t2 ht2=>?_⟩;have I2:=zB0 ht2 (.tup [.int (a % p),.int 1]);have g2:upd H1 t2 (.tup [.int (a % p),.int 1]) t2=some (.tup [.int (a % p),.int 1]):=ah;generalize upd H1 t2 (.tup [.int (a % p),.int 1])=H2 at I2 g2;refine⟨_,_,rfl,?_⟩;have I03:=I1.trans I2;refine⟨fun m σ H'=>∃(b c:Addr)(r0 f0 r1 f1:Int)(x4:Option V),σ=[some (.int a),some (.int p),some (.ref b),some (.ref c),x4]/\H' b=some (.tup [.int r0,.int f0])/\H' c=some (.tup [.int r1,.int f1])/\Eq2 a p r0 f0 r1 f1/\Same H H'/\m=r1.toNat,
  ⟨_,t1,t2,_,_,_,_,_,rfl,I2 _ _ g1,g2,yB pm na,I03,rfl⟩,?_⟩
 rintro m σ H' ⟨b,c,r0,f0,r1,f1,x4,rfl,hb,hc,eu,S,rfl⟩;refine⟨_,rfl,c,_,0,_,rfl,rfl,zC0 hc,rfl,_,_,rfl,rfl,_,rfl,?_⟩
 by_cases z:0<r1
 . refine cg z ?_;obtain⟨nx,lt,q0,q1⟩:=AE eu z;refine⟨_,fun _ _ h=>h,?_⟩;refine⟨_,rfl,b,_,0,_,rfl,rfl,zC0 hb,rfl,_,rfl,c,_,0,_,rfl,rfl,zC0 hc,rfl,_,_,rfl,rfl,⟨z,by have:=eu.lt;have:=eu.le;omega⟩,?_⟩;refine⟨_,rfl,_,rfl,b,_,0,_,rfl,rfl,zC0 hb,rfl,_,rfl,_,rfl,c,_,0,_,rfl,rfl,zC0 hc,rfl,_,_,rfl,rfl,.inl ⟨by omega,by omega⟩,_,_,rfl,rfl,_,rfl,b,_,1,_,rfl,rfl,zC0 hb,rfl,_,rfl,_,rfl,c,_,1,_,rfl,rfl,zC0 hc,rfl,_,_,rfl,rfl,.inl ⟨by omega,by omega⟩,_,_,rfl,rfl,(by show 2<=sizeLine;decide),fun t4 ht4=>?_⟩;have J1:=zB0 ht4 (.tup [.int (r0-r0 / r1*r1),.int (f0-r0 / r1*f1)]);have k1:upd H' t4 (.tup [.int (r0-r0 / r1*r1),.int (f0-r0 / r1*f1)]) t4=some (.tup [.int (r0-r0 / r1*r1),.int (f0-r0 / r1*f1)]):=ah;generalize upd H' t4 (.tup [.int (r0-r0 / r1*r1),.int (f0-r0 / r1*f1)])=H4 at J1 k1;refine⟨_,_,rfl,?_⟩;exact⟨_,lt,c,t4,_,_,_,_,_,rfl,J1 _ _ hc,k1,nx,S.trans J1,rfl⟩
 . refine ba z ?_;have r10:=eu.r10;obtain rfl:r1=0:=by omega
   refine⟨_,rfl,b,_,1,_,rfl,rfl,zC0 hb,rfl,_,rfl,_,_,rfl,rfl,(show 0<p by omega),?_⟩;exact q _ _ S (qB0 _ (by omega)) (qC0 _ (by omega)) (Cj eu p1)
def ends(p:Int)(xs:List Int):Int:=(val p xs 0+val p xs 1) % p
def zc:Sp:=fun vs H Q _=>∃(f:Addr)(many due p:Int)(fits:Bool),vs=[.ref f,.int many,.int due,.int p,.bl fits]/\FeedAt H f/\1<=many/\many<=500/\many<=p/\Pm p/\2<p/\p<2 ^ 30/\0<=due/\due<p/\
 ∀(l:Addr)(xs:List Int)(H':Hp),H l=none->l≠f->H' l=some (.lst (xs.map V.int))->FeedAt H' f->SameBut f H H'->(xs.length:Int)=many->cw xs p->(ends p xs=due↔fits=true)->Q (.ref l) H'
theorem mn:FnScope ["_law_feed_here","_law_many","_law_due","_law_p","_law_fits","_law_values","_law_off"] ["_law_feed_here","_law_many","_law_due","_law_p","_law_fits"] (ak jR):=⟨rfl,rfl,rfl,by decide,rfl,by decide,by decide⟩
theorem BS{p due off:Int}(h0:0<=due)(h1:due<p)(o0:0<=off)(o1:off<p):(due+off) % p=due↔off=0:=by
 constructor
 . intro h
   by_cases c:due+off<p
   . rw[qU0 (by omega) c]at h;omega
   . have e:(due+off) % p=due+off-p:=by
      rw[←Int.sub_emod_right];exact qU0 (by omega) (by omega)
     omega
 . intro h;rw[h,Int.add_zero];exact qU0 h0 h1
theorem AF{p:Int}(hp:Pm p){x y:Int}{r:List Int}(hn:((x::y::r).length:Int)<=p):ends p (x::y::r)=(x+y) % p:=by
 unfold ends;have e0:=tK (k:=0) hp hn (by simp);have e1:=tK (k:=1) hp hn (by simp);have e0':val p (x::y::r) 0=x % p:=e0;have e1':val p (x::y::r) 1=y % p:=e1;rw[e0',e1',←Int.add_emod]
theorem AH{p:Int}(p1:1<p)(x:Int):ends p [x]=(x+x) % p:=by
 unfold ends;rw[vG p1,vG p1,←Int.add_emod]
theorem xO {f:Addr} {fd:FuncData} (F:Fun K "_law_said" "_law_said" jR f fd) (B:Bl mg) (aE:Cal P w K mg base 1 "_law_take" ["_law_feed_here","_law_many"] dX) (bq:Cal P w K mg base 2 "_law_coin" ["_law_feed_here","_law_p"] kH) (dw:Cal P w K mg base 1 "_law_inverse" ["_law_a","_law_p"] tY):FnOk P w K mg base CX0 3 f fd ["_law_feed_here","_law_many","_law_due","_law_p","_law_fits"] zc:=by
 refine F.ok mn (fun vs H Q E h=>?_) (fun cdv A outer s H vs Q E hr h=>?_)
 . obtain⟨f,many,due,p,fits,rfl,_⟩:=h;rfl
 obtain ⟨f,many,due,p,fits,rfl,FA,m1,m500,mp,pm,p2,p40,due0,due1,q⟩:=h;refine⟨_,(ad (kh (i:=5) (N:=["_law_feed_here","_law_p"]) (ix:=[0,3]) mn.nd rfl (Or.inl rfl) rfl
  (CompScope.two (by rfl') (by decide) rfl (by decide) rfl (by decide) (by first | exact Or.inl rfl | exact Or.inr rfl) (by rfl') (by rfl') (by rfl') (by rfl') rfl rfl (by rfl') rfl rfl) rfl
  (bY rfl B.range (aa (pv 1) ac)) (fun _ _ _=>bZ (al bq hr (by decide) rfl (aa (pv 1) (aa (pv 2) ac)))))
  (ad (au (i:=6) mn.nd rfl (Or.inl rfl) (aj bn (bO jv rfl B.int hU (aa (zP (pv 4)) ac)) (aj aN ae (al aE hr (by decide) rfl (aa (pv 0) (aa (aj bd (pv 3) ae) ac))))))
  (ad (aX (av bA (pv 1) ae (ay _))
   (ag (gN (aj aW (aj bn (aj aN (pv 2) (pv 6)) (al dw hr (by decide) rfl (aa ae (aa (pv 3) ac)))) (pv 3)) (kO (pv 5) ae gQ)))
   (ag (gN (aj aW (aj bd (aj aN (pv 2) (pv 6)) (aJ ix_list (pv 5) ae (fun _ _=>rfl))) (pv 3)) (kO (pv 5) ae gQ))))
  (ag (ax (pv 5)))))),?_⟩
 refine⟨_,rfl,many,rfl,by omega,by omega,fun D hD=>?_⟩;have Df:D≠f:=FA.ne hD;refine cS (fun i H'=>∃xs:List Int,H' D=some (.lst (xs.map V.int))/\xs.length=i/\cw xs p/\FeedAt H' f/\SameBut f H H') ⟨[],by rw[ah];rfl,rfl,(fun x hx=>by cases hx),FA.same (zB0 hD _),zJ0 (zB0 hD _)⟩ ?_ ?_
 . rintro i H1 hi ⟨xs,hl,xl,xo,F1,S1⟩;refine⟨_,rfl,_,rfl,f,p,rfl,F1,by omega,by omega,fun r H2 r0 r1 F2 S2=>?_⟩;have hl2:=S2 _ _ Df hl;refine⟨_,hl2,?_,Nx.of hi ⟨xs++[r],?_,?_,?_,?_,fun b o n e=>?_⟩⟩
   . rw[zE0];exact aK (by omega)
   . rw[ah,zK0];rfl
   . rw[zR0,qT0,xl]
   . intro x hx;rcases qD0 hx with h | h
     . exact xo x h
     . rw[zQ0 h];exact⟨r0,r1⟩
   . obtain⟨u,t,e,z⟩:=F2;exact⟨u,t,by rw[aq (Ne.symm Df)];exact e,z⟩
   . by_cases c:b=D
     . rw[c]at e;rw[hD]at e;cases e
     . rw[aq c];exact S2 _ _ n (S1 _ _ n e)
 rintro H1 ⟨xs,hl,xl,xo,F1,S1⟩;obtain⟨x0,xr,rfl⟩:∃x0 xr,xs=x0::xr:=by
  cases xs with
  | nil=>
    rw[List.length_nil]at xl;omega
  | cons a r=>exact⟨a,r,rfl⟩
 have x0r:=xo x0 (qL0 ..);refine⟨_,rfl,_,rfl,.inr ⟨_,rfl,?_⟩⟩;refine⟨_,rfl,_,rfl,_,_,rfl,rfl,f,_,rfl,F1,by omega,by omega,fun d H2 d0 d1 F2 S2=>?_⟩;refine⟨_,_,rfl,rfl,_,_,rfl,rfl,.inl ⟨by split <;> omega,by split <;> omega⟩,?_⟩;have hl2:=S2 _ _ Df hl;obtain⟨off,eo⟩:∃off:Int,off=(if(!fits)=true then(1:Int)else 0)*(1+d):=⟨_,rfl⟩
 have o0:0<=off/\off<p/\(off=0↔fits=true):=by
  cases fits with
  | true=>
    have e0:off=0:=by rw[eo];simp
    exact⟨by omega,by omega,by simp [e0]⟩
  | false=>
    have e0:off=1+d:=by rw[eo];simp
    refine⟨by omega,by omega,?_⟩
    constructor
    . intro h;omega
    . intro h;cases h
 obtain ⟨o0,o1,o2⟩:=o0;have oi:=BS due0 due1 o0 o1;show sK 6 (V.int ((if(!fits)=true then(1:Int)else 0)*(1+d))) _ H2 _;rw[←eo];have S02:SameBut f H H2:=S1.trans S2;have DN:SameBut f H (upd H2 D (.lst [])):=fun b o n e=>by
  rw[aq (ai e hD)];exact S02 _ _ n e
 have fin:∀ys:List Int,FeedAt (upd H2 D (.lst (ys.map V.int))) f/\SameBut f H (upd H2 D (.lst (ys.map V.int))):=fun ys=>by
  refine⟨?_,fun b o n e=>?_⟩
  . obtain⟨u,t,e,z⟩:=F2;exact⟨u,t,by rw[aq (Ne.symm Df)];exact e,z⟩
  . rw[aq (ai e hD)];exact S02 _ _ n e
 refine⟨_,rfl,rfl,_,rfl,?_⟩
 by_cases c:many=1
 . refine cg (congrArg V.int c) ?_;have xr0:xr=[]:=by
    rw[zV0]at xl;exact List.eq_nil_of_length_eq_zero (by omega)
   subst xr0;have n2:¬ p ∣ 2:=fun z=>by
    have:=Int.le_of_dvd (by decide) z
    omega
   refine⟨_,rfl,_,rfl,_,_,rfl,rfl,_,rfl,2,p,rfl,pm,p40,n2,fun g H3 S3 g0 g1 g2=>?_⟩;refine⟨_,_,rfl,rfl,.inr ⟨by omega,by omega⟩,_,rfl,_,_,rfl,rfl,(show 0<p by omega),?_⟩;refine⟨_,rfl,D,_,0,0,rfl,rfl,S3 _ _ hl2,rfl,?_⟩;have y0:0<=(due+off)*g % p/\(due+off)*g % p<p:=⟨qB0 _ (by omega),qC0 _ (by omega)⟩
   refine⟨_,rfl,?_⟩;refine q D [(due+off)*g % p] _ hD Df ah ?_ ?_ (by rw[c];rfl) (fun x hx=>by rw[zQ0 hx];exact y0) ?_
   . obtain⟨u,t,e,z⟩:=F2;exact⟨u,t,by rw[aq (Ne.symm Df)];exact S3 _ _ e,z⟩
   . intro b o n e;rw[aq (ai e hD)];exact S3 _ _ (S02 _ _ n e)
   . rw [AH (by omega),←o2,←oi]
     have:((due+off)*g % p+(due+off)*g % p) % p=(due+off) % p:=by
      rw[←Int.add_emod,←Int.two_mul,←Int.mul_assoc,Int.mul_comm 2,Int.mul_assoc,Int.mul_comm 2 g,Int.mul_emod,g2,Int.mul_one,Int.emod_emod]
     rw[this]
 . refine ba (fun e=>c (V.int.inj e)) ?_;obtain⟨x1,xq,rfl⟩:∃x1 xq,xr=x1::xq:=by
    cases xr with
    | nil=>
      rw[zV0,List.length_nil]at xl;omega
    | cons a r=>exact⟨a,r,rfl⟩
   refine⟨_,rfl,_,rfl,_,_,rfl,rfl,_,rfl,D,_,0,_,rfl,rfl,zG0 hl2,at0 _ _,_,_,rfl,rfl,_,rfl,_,_,rfl,rfl,(show 0<p by omega),?_⟩;refine⟨_,rfl,D,_,1,1,rfl,rfl,hl2,?_,?_⟩
   . unfold ixN;rw[zF0 (by decide),zF0 (by rw[zE0,zV0,zV0];omega)];rfl
   have y0:0<=(due+off-x0) % p/\(due+off-x0) % p<p:=⟨qB0 _ (by omega),qC0 _ (by omega)⟩
   refine ⟨_,rfl,?_⟩;have ml:((x0::(due+off-x0) % p::xq).length:Int)=many:=by
    have:(x0::x1::xq).length=many.toNat:=xl
    rw[zV0,zV0]at this ⊢;omega
   obtain⟨f1,f2⟩:=fin (x0::(due+off-x0) % p::xq);refine q D (x0::(due+off-x0) % p::xq) _ hD Df ah f1 f2 ml (fun x hx=>?_) ?_
   . rcases zY0 hx with h | h
     . rw[h];exact x0r
     . rcases zY0 h with h | h
       . rw[h];exact y0
       . exact xo x (qK0 _ (qK0 _ h))
   . rw [AF pm (by rw[ml];exact mp),←o2,←oi]
     have:(x0+(due+off-x0) % p) % p=(due+off) % p:=by
      rw[Int.add_emod,Int.emod_emod,←Int.add_emod]
      congr 1
      omega
     rw[this]
end
abbrev eE:Stmt:=cu (top 2) 0
abbrev gV:Stmt:=cu (top 9) 0
abbrev fK:Stmt:=cu (top 10) 0
abbrev eC:Stmt:=cu (top 11) 0
def FmOk(v:V):Prop:=(∃i:Int,v=.int i/\0<=i/\i<1000000000000)∨(∃y:Str,v=.str y/\y.length<=20)∨v=.non
theorem pG{n:Int}(h0:0<=n)(h1:n<1000000000000):n.natAbs.log2<1920:=by
 have h2:n.natAbs<2 ^ 40:=by omega
 by_cases c:n.natAbs=0
 . rw[c];decide
 . have:=(Nat.log2_lt c).mpr h2
   omega
theorem FmOk.fm{v:V}(h:FmOk v):∃y,FmV v y/\y.length<=60:=by
 rcases h with⟨i,rfl,h0,h1⟩ | ⟨y,rfl,hy⟩ | rfl
 . exact⟨_,.inl ⟨i,rfl,pG h0 h1,rfl⟩,zX0 (PyProof.Rows.toString_length_le h0 (k:=12) (by decide) (by show i<10 ^ 12;omega)) (by decide)⟩
 . exact⟨y,.inr (.inl rfl),by omega⟩
 . exact⟨_,.inr (.inr ⟨rfl,rfl⟩),by decide⟩
theorem fl1{a:Str}(ha:a.length<=60):(Str.empty++a).length<=sizeLine:=by
 rw[Str.length_append]
 have:Str.empty.length=0:=rfl
 exact cL (by omega)
theorem fl2{a b:Str}(ha:a.length<=60)(hb:b.length<=60):((Str.empty++a)++b).length<=sizeLine:=by
 rw[Str.length_append,Str.length_append]
 have:Str.empty.length=0:=rfl
 exact cL (by omega)
def spAI(K:W.Frag):Sp:=fun vs H Q _=>∃(e C f:Addr)(x:V),vs=[.ref e,x]/\H e=some (lc C e)/\MkX K C f/\Q .non H
theorem rL:FnScope ["self","words"] ["self","words"] (ak eE):=⟨rfl,rfl,rfl,by decide,rfl,by decide,by decide⟩
theorem sj {f:Addr} {fd:FuncData} {dV:Value} (F:FunD K "__init__" "AskError.__init__" eE f fd dV) (hV:mg "ValueError"=none):FnOk P w K mg base CX0 1 f fd ["self","words"] (spAI K):=by
 refine F.ok rL (fun vs H Q E h=>?_) (fun cdv A outer s H vs Q E hr h=>?_)
 . obtain⟨e,C,f,x,rfl,_⟩:=h;rfl
 obtain⟨e,C,f,x,rfl,he,M,q⟩:=h;refine⟨_,ag (bV (ux rfl hV (aa (pv 0) (aa (pv 1) ac)))),?_⟩;exact⟨_,rfl,_,rfl,e,C,f,x,rfl,he,M,q⟩
def xh(C:Addr)(a:Str):Sp:=fun vs H Q _=>∃(e:Addr)(v:V),vs=[.ref e,v]/\H e=some (lc C e)/\FmOk v/\∀dx,H dx=none->dx≠e->Q .non (upd (upd H dx (.xd [(a,v)])) e (oF C e dx))
structure AskC(P:Program)(w:World)(K:W.Frag)(mg:Str->Option Value)(base:Heap)(CA fA:Addr)(fdA:FuncData):Prop where
 g:mg "AskError"=some (.ref CA)
 c:ClsFn K CA fA "__init__"
 ok:FnOk P w K mg base CX0 1 fA fdA ["self","words"] (spAI K)
 b:Binds K fdA ["self","words"] []
section
variable {CA fA:Addr} {fdA:FuncData}
theorem xC:FnScope ["self","row"] ["self","row"] (ak gV):=⟨rfl,rfl,rfl,by decide,rfl,by decide,by decide⟩
theorem ya {f C:Addr} {fd:FuncData} {dV:Value} (F:FunD K "__init__" "NoTurn.__init__" gV f fd dV) (T:AskC P w K mg base CA fA fdA) (M:MkX K C f) (c:ClsX K C CA) (na:NoAttr K C "row"):FnOk P w K mg base CX0 2 f fd ["self","row"] (xh C "row"):=by
 refine F.ok xC (fun vs H Q E h=>?_) (fun cdv A outer s H vs Q E hr h=>?_)
 . obtain⟨e,v,rfl,_⟩:=h;rfl
 obtain⟨e,v,rfl,he,hv,q⟩:=h;refine⟨_,ad (bV (jG rfl T.g T.c T.ok hr T.b .nil cH (aa (pv 0) (aa (qB (jo aG (jo (qC (pv 1)) uv))) ac)))) (ag (qz (pv 0) (pv 1) rfl)),?_⟩;obtain⟨y,fy,hy⟩:=hv.fm;refine⟨_,rfl,_,rfl,fl1 (by decide),_,rfl,y,fy,zX0 hy (by decide),y,rfl,fl2 (by decide) hy,fl2 (by decide) hy,?_⟩;refine⟨e,C,f,_,rfl,he,M,?_⟩;exact⟨_,rfl,_,rfl,e,C,CA,rfl,he,c,na,q⟩
theorem uj:FnScope ["self","row"] ["self","row"] (ak fK):=⟨rfl,rfl,rfl,by decide,rfl,by decide,by decide⟩
theorem uJ {f C:Addr} {fd:FuncData} {dV:Value} (F:FunD K "__init__" "NoCount.__init__" fK f fd dV) (T:AskC P w K mg base CA fA fdA) (M:MkX K C f) (c:ClsX K C CA) (na:NoAttr K C "row"):FnOk P w K mg base CX0 2 f fd ["self","row"] (xh C "row"):=by
 refine F.ok uj (fun vs H Q E h=>?_) (fun cdv A outer s H vs Q E hr h=>?_)
 . obtain⟨e,v,rfl,_⟩:=h;rfl
 obtain⟨e,v,rfl,he,hv,q⟩:=h;refine⟨_,ad (bV (jG rfl T.g T.c T.ok hr T.b .nil cH (aa (pv 0) (aa (qB (jo aG (jo (qC (pv 1)) uv))) ac)))) (ag (qz (pv 0) (pv 1) rfl)),?_⟩;obtain⟨y,fy,hy⟩:=hv.fm;refine⟨_,rfl,_,rfl,fl1 (by decide),_,rfl,y,fy,zX0 hy (by decide),y,rfl,fl2 (by decide) hy,fl2 (by decide) hy,?_⟩;refine⟨e,C,f,_,rfl,he,M,?_⟩;exact⟨_,rfl,_,rfl,e,C,CA,rfl,he,c,na,q⟩
theorem rK:FnScope ["self","row"] ["self","row"] (ak eC):=⟨rfl,rfl,rfl,by decide,rfl,by decide,by decide⟩
theorem si {f C:Addr} {fd:FuncData} {dV:Value} (F:FunD K "__init__" "NoNumber.__init__" eC f fd dV) (T:AskC P w K mg base CA fA fdA) (M:MkX K C f) (c:ClsX K C CA) (na:NoAttr K C "row"):FnOk P w K mg base CX0 2 f fd ["self","row"] (xh C "row"):=by
 refine F.ok rK (fun vs H Q E h=>?_) (fun cdv A outer s H vs Q E hr h=>?_)
 . obtain⟨e,v,rfl,_⟩:=h;rfl
 obtain⟨e,v,rfl,he,hv,q⟩:=h;refine⟨_,ad (bV (jG rfl T.g T.c T.ok hr T.b .nil cH (aa (pv 0) (aa (qB (jo aG (jo (qC (pv 1)) uv))) ac)))) (ag (qz (pv 0) (pv 1) rfl)),?_⟩;obtain⟨y,fy,hy⟩:=hv.fm;refine⟨_,rfl,_,rfl,fl1 (by decide),_,rfl,y,fy,zX0 hy (by decide),y,rfl,fl2 (by decide) hy,fl2 (by decide) hy,?_⟩;refine⟨e,C,f,_,rfl,he,M,?_⟩;exact⟨_,rfl,_,rfl,e,C,CA,rfl,he,c,na,q⟩
end
theorem Ci{H:Hp}{e dx C:Addr}{a:Str}{v:V}(h0:H e=none)(h1:upd H e (lc C e) dx=none)(h2:dx≠e):Same H (upd (upd (upd H e (lc C e)) dx (.xd [(a,v)])) e (oF C e dx))/\Ex (upd (upd (upd H e (lc C e)) dx (.xd [(a,v)])) e (oF C e dx)) e C a v:=by
 rw[aq h2]at h1;refine⟨fun b o hb=>?_,dx,ah,?_⟩
 . rw[aq (ai hb h0),aq (ai hb h1),aq (ai hb h0)];exact hb
 . rw[aq h2,ah]
theorem sv{H:Hp}{C e:Addr}{a:Str}{v:V}{Q:VK}{E:XK}(hv:FmOk v)(he:H e=none)(h:∀H2,Same H H2->Ex H2 e C a v->Q .non H2):xh C a [.ref e,v] (upd H e (lc C e)) Q E:=by
 refine⟨e,v,rfl,ah,hv,fun dx h1 h2=>?_⟩;obtain⟨s,x⟩:=Ci (a:=a) (v:=v) he h1 h2;exact h _ s x
structure NoX(P:Program)(w:World)(K:W.Frag)(mg:Str->Option Value)(base:Heap)(nm:Str)(C CA f:Addr)(fd:FuncData):Prop where
 made:MkX K C f
 ok:FnOk P w K mg base CX0 2 f fd ["self","row"] (xh C "row")
 b:Binds K fd ["self","row"] [.none]
 cl:ClsX K C CA
 g:mg nm=some (.ref C)
def gs (C:Addr) (H:Hp) (E:XK):Prop:=∀(e dx:Addr) (H':Hp),Same H H'->H' e=some (oE C e dx)->H' dx=some (.xd [("row",.non)])->E (.ref e) (some dx) H'
theorem iL {C CA:Addr} {K:W.Frag} {H:Hp} {E:XK} {e:Addr} {G:Hp} (c:ClsX K C CA) (r:gs C H E) (ze:H e=none) (s4:Same H G) (x4:Ex G e C "row" .non) :
 ∃e' C' CA dx,V.ref e=.ref e'/\G e'=some (oF C' e' dx)/\ClsX K C' CA/\E (.ref e') (some dx) (upd G e' (oE C' e' dx)):=by
 obtain ⟨dx,e1,e2⟩:=x4;have hde:dx≠e:=fun z=>by
  rw[z,e1]at e2;cases e2
 refine⟨e,C,CA,dx,rfl,e1,c,r e dx _ (fun b o hb=>?_) ah (by rw[aq hde];exact e2)⟩;rw[aq (ai hb ze)];exact s4 _ _ hb
theorem rq:Vals [V.non] [Value.none]:=.cons rfl .nil
theorem vy {K:W.Frag} {fd:FuncData} {x:Str} {d:Value} (h:∀(s:Shared) (u:Value),K.In s.heap->BindsTo s fd ⟨[u],[]⟩ [("self",u),(x,d)]):Binds K fd ["self",x] [d]:=fun s us KX hl=>by
 have e:us.length=1:=by simpa using hl
 match us,e with
 | [u],_=>exact h s u KX
theorem clsfc {K:W.Frag} {C g:Addr} {m:Str} (h:W.findCls K (.ref C) (.type "type") m=some (.val (.ref g))):(match W.findCls K (.ref C) (.type "type") m with | some (.val v)=>some v | _=>none)=some (.ref g):=by
 rw[h]
theorem Ar{c A B:Prop}[Decidable c](hc:¬ c)(h:A):if(!decide c)=true then A else B:=by
 rw[decide_eq_false hc];exact fE h
section
theorem CF{K:W.Frag}{n m:String}{b:Bool}(h:(if((Value.type n==Value.type m)=true)then some true else if W.kitMeta m=true then((fastBuiltinMro n).map (·.contains (.type m)))else none)=some b):W.kitOne K (.type n) (.type m)=some b:=h
theorem kitB {K:W.Frag}:W.kitOne K (.type "bool") (.type "int")=some true:=CF (by decide)
theorem Ce {K:W.Frag} {n:String} (h:n="NoneType"∨n="str"∨n="list"∨n="tuple"):W.kitOne K (.type n) (.type "int")=some false:=by
 rcases h with rfl | rfl | rfl | rfl <;> exact CF (by decide)
inductive NoInt(H:Hp):V->Prop where
 | bl (b:Bool):NoInt H (.bl b)
 | non:NoInt H .non
 | str (x:Str):NoInt H (.str x)
 | lst {a:Addr} {xs:List V} (e:H a=some (.lst xs)):NoInt H (.ref a)
 | tup {a:Addr} {xs:List V} (e:H a=some (.tup xs)):NoInt H (.ref a)
def mO:Sp:=fun vs H Q _=>(∃n p:Int,vs=[.int n,.int p]/\Q (.bl (decide (0<=n)&&decide (n<p))) H)∨∃(v:V)(p:Int),vs=[v,.int p]/\NoInt H v/\Q (.bl false) H
theorem oQ {f:Addr} {fd:FuncData} (F:Fun K "is_number" "is_number" gC f fd) (B:Bl mg):FnOk P w K mg base CX0 1 f fd ["value","p"] mO:=by
 refine F.ok ql (fun vs H Q E h=>?_) (fun cdv A outer s H vs Q E hr h=>?_)
 . rcases h with⟨n,p,rfl,_⟩ | ⟨v,p,rfl,_⟩ <;> rfl
 refine⟨_,(ag (ax (uz (aD lG rfl B.isinstance PyProof.Rows.boot_isinstance (aa (pv 0) (aa (mi (v:=V.ty "int") rfl B.int hU rfl) ac))) (uz (zP (aD lG rfl B.isinstance PyProof.Rows.boot_isinstance (aa (pv 0) (aa (mi (v:=V.ty "bool") rfl B.bool vx rfl) ac)))) (zO (zS zU ko ae (pv 0) (pv 1))))))),?_⟩;rcases h with⟨n,p,rfl,q⟩ | ⟨v,p,rfl,nv,q⟩
 . refine ⟨_,rfl,_,_,"int",true,rfl,TyOf.int _,sG _ _,true,rfl,fE ?_⟩;refine⟨_,rfl,_,_,"bool",false,rfl,TyOf.int _,qR _,false,rfl,true,rfl,fE ?_⟩;refine⟨_,rfl,_,_,rfl,rfl,_,rfl,?_⟩
   by_cases c:0<=n
   . rw[decide_eq_true c]at q;refine cg c ⟨_,rfl,_,_,rfl,rfl,?_⟩;exact q
   . rw[decide_eq_false c]at q;refine ba c ?_;exact q
 . cases nv with
   | bl b=>
     refine⟨_,rfl,_,_,"int",true,rfl,TyOf.bl _,kitB,true,rfl,fE ?_⟩;refine⟨_,rfl,_,_,"bool",true,rfl,TyOf.bl _,sG _ _,true,rfl,false,rfl,eJ ?_⟩;exact q
   | non=>exact⟨_,rfl,_,_,"int",false,rfl,TyOf.non,Ce (.inl rfl),false,rfl,eJ q⟩
   | str x=>exact⟨_,rfl,_,_,"int",false,rfl,TyOf.str _,Ce (.inr (.inl rfl)),false,rfl,eJ q⟩
   | lst e=>exact⟨_,rfl,_,_,"int",false,rfl,TyOf.lst e,Ce (.inr (.inr (.inl rfl))),false,rfl,eJ q⟩
   | tup e=>exact⟨_,rfl,_,_,"int",false,rfl,TyOf.tup e,Ce (.inr (.inr (.inr rfl))),false,rfl,eJ q⟩
end
def SeqB(cb:Bool)(H:Hp)(b:Addr)(tv:List V):Prop:=if cb=true then H b=some (.lst tv)else H b=some (.tup tv)
theorem SeqB.same{cb:Bool}{H H':Hp}{b:Addr}{tv:List V}(h:SeqB cb H b tv)(s:Same H H'):SeqB cb H' b tv:=by
 cases cb with
 | true=>exact s b (.lst tv) h
 | false=>exact s b (.tup tv) h
theorem SeqB.sq{K:W.Frag}{cb:Bool}{H:Hp}{b:Addr}{tv:List V}(h:SeqB cb H b tv):SqB K cb H b tv:=by
 cases cb with
 | true=>exact zG0 h
 | false=>exact zC0 h
section
variable {C CG:Addr}
theorem SeqB.or{K:W.Frag}{cb:Bool}{H:Hp}{b:Addr}{tv:List V}(h:SeqB cb H b tv):SqL K H b tv∨SqT K H b tv:=by
 cases cb with
 | true=>exact .inl (zG0 h)
 | false=>exact .inr (zC0 h)
theorem SeqB.but{cb:Bool}{H H':Hp}{b D C' dx:Addr}{fs:List (Str×V)}{tv:List V}(h:SeqB cb H b tv)(hD:H D=some (.ins C' dx fs))(s:SameBut D H H'):SeqB cb H' b tv:=by
 cases cb with
 | true=>
   have e:H b=some (.lst tv):=h;exact s _ _ (dh e hD (by intro z;cases z)) e
 | false=>
   have e:H b=some (.tup tv):=h;exact s _ _ (dh e hD (by intro z;cases z)) e
def kx(p:Int):V->Bool
 | .int n=>decide (0<=n)&&decide (n<p)
 | _=>false
def NumOr(H:Hp)(v:V):Prop:=(∃n:Int,v=.int n)∨NoInt H v
def Bp (C CG:Addr):Sp:=fun vs H Q _=>∃(cb:Bool) (D g l:Addr) (z:Db) (xs:List Int) (ns:List Str) (ts:List Tr) (p:Int),vs=[.ref D,.ref l]/\DbAt C H D g z/\Gm CG H g ns ts p/\GmK ns ts p/\SeqB cb H l (xs.map V.int)/\z.aw=(("hear":Str),some (xs.length:Int))/\cw xs p/\xs.length<=500/\(z.cl≠[]->iy xs p)/\z.to.length<=ns.length/\cw z.to p/\∀H',SameBut D H H'->DbAt C H' D g (gj ns ts p xs z)->Q .non H'
def qg (C CG cT cC cN:Addr):Sp:=fun vs H Q E=>Bp C CG vs H Q E∨(∃(D g:Addr) (v:V) (z:Db),vs=[.ref D,v]/\DbAt C H D g z/\z.aw.1≠"hear"/\gs cT H E)∨(∃(cb:Bool) (D g l:Addr) (z:Db) (xs:List V) (n:Int),vs=[.ref D,.ref l]/\DbAt C H D g z/\z.aw=(("hear":Str),some n)/\SeqB cb H l xs/\(xs.length:Int)≠n/\gs cC H E)∨
 ∃(cb:Bool) (D g l:Addr) (z:Db) (xs:List V) (ns:List Str) (ts:List Tr) (p:Int),vs=[.ref D,.ref l]/\DbAt C H D g z/\Gm CG H g ns ts p/\z.aw=(("hear":Str),some (xs.length:Int))/\xs.length<=500/\SeqB cb H l xs/\(∀v∈xs,NumOr H v)/\xs.all (kx p)=false/\gs cN H E
theorem xY {f fC fR cT CA fN cC fNC cN fNN:Addr} {fd fdC fdR fdN fdNC fdNN:FuncData} (F:Fun K "hear" "Doubter.hear" mh f fd) (B:Bl mg) (T:DTxt K mg C) (TG:GTxt K mg CG) (N:NoX P w K mg base "NoTurn" cT CA fN fdN) (NC:NoX P w K mg base "NoCount" cC CA fNC fdNC) (NN:NoX P w K mg base "NoNumber" cN CA fNN fdNN) (dO:Cal P w K mg base 1 "is_number" ["value","p"] mO)
 (mC:Meth K C "hear_claims" fC) (GC:FnOk P w K mg base CX0 17 fC fdC ["self","values"] (mP C CG)) (bC:Binds K fdC ["self","values"] [])
 (mR:Meth K C "hear_row" fR) (GR:FnOk P w K mg base CX0 6 fR fdR ["self","values"] (ua C CG)) (bR:Binds K fdR ["self","values"] []):FnOk P w K mg base (CXr P w) 18 f fd ["self","values"] (qg C CG cT cC cN):=by
 refine F.okX zC (fun vs H Q E h=>?_) (fun cdv A outer s H vs Q E hr h=>?_)
 . rcases h with⟨cb,D,g,l,z,xs,ns,ts,p,rfl,_⟩ | ⟨D,g,v,z,rfl,_⟩ | ⟨cb,D,g,l,z,xs,n,rfl,_⟩ | ⟨cb,D,g,l,z,xs,ns,ts,p,rfl,_⟩ <;> rfl
 have hr3:Room (2+1) _:=hr.mono (by decide);have hr6:Room 6 _:=hr.mono (by decide);refine⟨_,(ad (aX (av nK (aJ aZ (aU (pv 0) rfl) ae (fun _ _=>rfl)) aG (ay _)) (ag (iM (gX N.made N.ok hr3 rfl N.g N.b rq cH))) aI)
  (ad (aX (av nK (aD az rfl B.len PySem.boot_len (aa (pv 1) ac)) (aJ aZ (aU (pv 0) rfl) ae (fun _ _=>rfl)) (ay _)) (ag (iM (gX NC.made NC.ok hr3 rfl NC.g NC.b rq cH))) aI)
  (ad (aX (kN (fZ (aD (AU rfl) rfl B.all PyProof.Rows.boot_all (aa (cz (N:=["self"]) (ix:=[0]) rfl
   (CompScope.one (by rfl') (by decide) rfl (by decide) rfl (by decide) (by rfl') (by rfl') (by rfl') rfl rfl) rfl
   (zN (pv 1)) (fun _ _ _=>bZ (al dO hr (by decide) rfl (aa (pv 0) (aa (km K (km K (pv 1))) ac))))) ac)))) (ag (iM (gX NN.made NN.ok hr3 rfl NN.g NN.b rq cH))) aI)
  (ad (bJ (pv 0) (aj aN (aU (pv 0) rfl) (aD az rfl B.len PySem.boot_len (aa (pv 1) ac))) rfl)
  (ag (aX (av (jH hr.units) (aU (pv 0) rfl) (aY ac) (ay _))
   (ag (bV (fv (pv 0) T.cl mC GC hr bC .nil cH (aa (bO bN rfl B.tuple bX (aa (pv 1) ac)) ac))))
   (ag (bV (fv (pv 0) T.cl mR GR hr6 bR .nil cH (aa (bO bN rfl B.tuple bX (aa (pv 1) ac)) ac)))))))))),?_⟩
 rcases h with⟨cb,D,g,l,z,xs,ns,ts,p,rfl,⟨dx,aA,aC,aH,aT,R⟩,G,k,hl,ea,xo,xl,ro,tl,po,q⟩ | ⟨D,g,v,z,rfl,⟨dx,aA,aC,aH,aT,R⟩,hne,rr⟩ | ⟨cb,D,g,l,z,xs,n,rfl,⟨dx,aA,aC,aH,aT,R⟩,ea,hl,hne,rr⟩ | ⟨cb,D,g,l,z,xs,ns,ts,p,rfl,⟨dx,aA,aC,aH,aT,R⟩,G,ea,x5,hl,xv,xa,rr⟩
 rotate_left
 . refine⟨_,rfl,D,C,dx,_,_,rfl,R.hD,T.cl,T.nA,ow,aA,_,_,_,rfl,rfl,zC0 R.hA,aO (j:=0) (iw _),rfl,_,rfl,?_⟩;refine Ar (fun e=>hne (V.str.inj e)) ?_;exact⟨zN0 _,fun e ze=>sv (.inr (.inr rfl)) ze fun G4 s4 x4=>⟨rfl,iL N.cl rr ze s4 x4⟩⟩
 . have hA:=R.hA;rw[ea]at hA;have hA:H aA=some (.tup [.str "hear",.int n]):=hA;refine⟨_,rfl,D,C,dx,_,_,rfl,R.hD,T.cl,T.nA,ow,aA,_,_,_,rfl,rfl,zC0 hA,aO (j:=0) rfl,rfl,_,rfl,?_⟩;refine eU rfl ?_;refine⟨_,rfl,l,_,rfl,hl.or,_,rfl,D,C,dx,_,_,rfl,R.hD,T.cl,T.nA,ow,aA,_,_,_,rfl,rfl,zC0 hA,aO (j:=1) rfl,rfl,_,rfl,?_⟩;refine Ar (fun e=>hne (V.int.inj e)) ?_;exact⟨zN0 _,fun e ze=>sv (.inr (.inr rfl)) ze fun G4 s4 x4=>⟨rfl,iL NC.cl rr ze s4 x4⟩⟩
 . have hA:=R.hA;rw[ea]at hA;have hA:H aA=some (.tup [.str "hear",.int (xs.length:Int)]):=hA;refine⟨_,rfl,D,C,dx,_,_,rfl,R.hD,T.cl,T.nA,ow,aA,_,_,_,rfl,rfl,zC0 hA,aO (j:=0) rfl,rfl,_,rfl,?_⟩;refine eU rfl ?_;refine⟨_,rfl,l,_,rfl,hl.or,_,rfl,D,C,dx,_,_,rfl,R.hD,T.cl,T.nA,ow,aA,_,_,_,rfl,rfl,zC0 hA,aO (j:=1) rfl,rfl,_,rfl,?_⟩;refine eU rfl ?_;obtain⟨a,b,d,tv,⟨dg,hg⟩,ha,hb,TS,hd⟩:=G;refine⟨_,rfl,cb,l,rfl,⟨_,hl.sq⟩,fun W hW=>?_⟩;refine ox (K:=K) (c:=cb) (xs:=xs) (fun i H'=>H' W=some (.lst (((xs.take i).map (kx p)).map V.bl))/\Same H H') ⟨by rw[ah];rfl,zB0 hW _⟩ (fun i H' _ h=>(hl.same h.2).sq) ?_ ?_
   . rintro i v H2 hv ⟨hW2,S2⟩;have hi:=(zT0 hv).1;have go:Nx xs.length i (fun i H'=>H' W=some (.lst (((xs.take i).map (kx p)).map V.bl))/\Same H H') (upd H2 W (.lst (((xs.take i).map (kx p)).map V.bl++[.bl (kx p v)]))):=Nx.of hi ⟨by
      rw[ah,qI0,hv,zK0,zK0];rfl,fun b o e=>by
      rw[aq (ai e hW)];exact S2 _ _ e⟩
     have sz:(((xs.take i).map (kx p)).map V.bl).length<sizeLine:=by
      rw[zE0,zE0,qJ0];exact aK (by omega)
     rcases xv v (zZ0 hv)with⟨n,rfl⟩ | nv
     . refine⟨_,rfl,_,rfl,D,C,dx,_,_,rfl,S2 _ _ R.hD,T.cl,T.nG,gO,g,CG,dg,_,_,rfl,S2 _ _ hg,TG.cl,TG.nF,jD ..,.inl ⟨n,p,rfl,?_⟩⟩;exact⟨_,hW2,sz,go⟩
     . have ev:kx p v=false:=by cases nv <;> rfl
       rw [ev]at go;have nv2:NoInt H2 v:=by
        cases nv with
        | bl b=>exact .bl b
        | non=>exact .non
        | str x=>exact .str x
        | lst e=>exact .lst (S2 _ _ e)
        | tup e=>exact .tup (S2 _ _ e)
       refine⟨_,rfl,_,rfl,D,C,dx,_,_,rfl,S2 _ _ R.hD,T.cl,T.nG,gO,g,CG,dg,_,_,rfl,S2 _ _ hg,TG.cl,TG.nF,jD ..,.inr ⟨v,p,rfl,nv2,?_⟩⟩;exact⟨_,hW2,sz,go⟩
   rintro H1 ⟨hW1,S1⟩;rw[qG0]at hW1;refine⟨W,_,rfl,zG0 hW1,?_⟩;have ea2:(xs.map (kx p)).all id=false:=by
    rw[List.all_map];exact xa
   rw[ea2];refine⟨_,rfl,?_⟩;refine fE ?_;have rr1:gs cN H1 E:=fun e dx H' s'=>rr e dx H' (S1.trans s')
   exact⟨zN0 _,fun e ze=>sv (.inr (.inr rfl)) ze fun G4 s4 x4=>⟨rfl,iL NN.cl rr1 ze s4 x4⟩⟩
 have gD:=G.ne R.hD gO;have hA:=R.hA;rw[ea]at hA;have hA:H aA=some (.tup [.str "hear",.int (xs.length:Int)]):=hA;refine⟨_,rfl,D,C,dx,_,_,rfl,R.hD,T.cl,T.nA,ow,aA,_,_,_,rfl,rfl,zC0 hA,aO (j:=0) rfl,rfl,_,rfl,?_⟩;refine eU rfl ?_;refine⟨_,rfl,l,_,rfl,hl.or,_,rfl,D,C,dx,_,_,rfl,R.hD,T.cl,T.nA,ow,aA,_,_,_,rfl,rfl,zC0 hA,aO (j:=1) rfl,rfl,_,rfl,?_⟩;refine eU (by rw[zE0]) ?_;have G':=G;obtain⟨a,b,d,tv,⟨dg,hg⟩,ha,hb,TS,hd⟩:=G';refine⟨_,rfl,cb,l,rfl,⟨_,hl.sq⟩,fun W hW=>?_⟩;refine ox (K:=K) (c:=cb) (xs:=xs.map V.int) (fun i H'=>H' W=some (.lst ((List.replicate i true).map V.bl))/\Same H H') ⟨by rw[ah];rfl,zB0 hW _⟩ (fun i H' _ h=>(hl.same h.2).sq) ?_ ?_
 . rintro i v H2 hv ⟨hW2,S2⟩;have hi:=(zT0 hv).1;rw[qE0]at hv;obtain⟨n,hn,rfl⟩:=qS0 hv;have nr:=xo n (zZ0 hn);refine⟨_,rfl,_,rfl,D,C,dx,_,_,rfl,S2 _ _ R.hD,T.cl,T.nG,gO,g,CG,dg,_,_,rfl,S2 _ _ hg,TG.cl,TG.nF,jD ..,.inl ⟨n,p,rfl,?_⟩⟩;rw[decide_eq_true nr.1,decide_eq_true nr.2];refine⟨_,hW2,?_,Nx.of hi ⟨?_,fun b o e=>?_⟩⟩
   . rw[zE0,List.length_replicate];rw[zE0]at hi;exact aK (by omega)
   . rw[ah,List.replicate_succ',zK0];rfl
   . rw[aq (ai e hW)];exact S2 _ _ e
 rintro H1 ⟨hW1,S1⟩;refine⟨W,_,rfl,zG0 hW1,?_⟩;have ea:(List.replicate (xs.map V.int).length true).all id=true:=by simp
 rw[ea];refine⟨_,rfl,?_⟩;refine eJ ?_;have R1:=R.same S1;have G1:=G.same S1;refine⟨_,rfl,D,C,dx,_,_,rfl,R1.hD,T.cl,T.nP,wJ,_,rfl,l,_,rfl,(hl.same S1).or,_,_,rfl,rfl,_,rfl,D,C,dx,_,rfl,R1.hD,T.cl,T.nP,cW,?_⟩;rw[uq,zE0];have S2:SameBut D H1 (upd H1 D (.ins C dx (dl g aA aC z.s aH aT z.ed (z.pl+(xs.length:Int))))):=SameBut.upd _;have R2:DbR C (upd H1 D (.ins C dx (dl g aA aC z.s aH aT z.ed (z.pl+(xs.length:Int))))) D g { z with pl:=z.pl+(xs.length:Int) } dx aA aC aH aT:=DbR.set (z:={ z with pl:=z.pl+(xs.length:Int) }) R1.hD R1.hA R1.hC R1.hH R1.hT;have G2:=G1.but R1.hD gD S2;have hl2:=(hl.same S1).but R1.hD S2;generalize upd H1 D (.ins C dx (dl g aA aC z.s aH aT z.ed (z.pl+(xs.length:Int))))=H2 at S2 R2 G2 hl2;refine⟨_,rfl,D,C,dx,_,_,rfl,R2.hD,T.cl,T.nC,dl_c,(by show 0<=sizeLine;decide),fun u hu=>?_⟩;have I:=zB0 hu (.tup []);have R3:=R2.same I;have hu3:upd H2 u (.tup []) u=some (.tup []):=ah;have hl3:=hl2.same I;have G3:=G2.same I;generalize upd H2 u (.tup [])=H3 at I R3 hu3 hl3 G3;have S03:SameBut D H H3:=(zJ0 S1).trans (S2.trans (zJ0 I));refine⟨_,_,jm R3.hC,jm (xs:=[]) hu3,ja _,ja [],_,rfl,?_⟩;rw[show PyData.eqv (.tuple (z.cl.map PyData.int)) (.tuple (([]:List Int).map PyData.int))=decide (z.cl=[])from wI z.cl]
 by_cases c:z.cl=[]
 . refine cg c ?_;have e:gj ns ts p xs z=jC ns ts p xs { z with pl:=z.pl+(xs.length:Int) }:=by
    unfold gj;rw[zF0 c]
   rw[e]at q;refine⟨_,rfl,D,dx,_,rfl,R3.hD,dl_n6,?_⟩;have fin:∀(t:Addr)(H4:Hp),Same H3 H4->H4 t=some (.tup (xs.map V.int))->mP C CG [.ref D,.ref t] H4 (fun _ H5=>Q .non H5) E0:=fun t H4 J ht=>⟨D,g,t,_,xs,ns,ts,p,rfl,⟨dx,aA,aC,aH,aT,R3.same J⟩,G3.same J,k,ht,tl,po,fun H5 S5 D5=>q H5 (S03.trans ((zJ0 J).trans S5)) D5⟩
   cases cb with
   | true=>exact⟨_,rfl,l,_,rfl,.inl ⟨zG0 hl3,fun t ht=>fin t _ (zB0 ht _) ah⟩⟩
   | false=>exact⟨_,rfl,l,_,rfl,.inr ⟨zC0 hl3,fin l _ (Same.refl _) hl3⟩⟩
 . refine ba c ?_;have e:gj ns ts p xs z=og p xs { z with pl:=z.pl+(xs.length:Int) }:=by
    unfold gj;rw[zD0 c]
   rw[e]at q;refine⟨_,rfl,D,dx,_,rfl,R3.hD,dl_n8,?_⟩;have fin:∀(t:Addr)(H4:Hp),Same H3 H4->H4 t=some (.tup (xs.map V.int))->ua C CG [.ref D,.ref t] H4 (fun _ H5=>Q .non H5) E0:=fun t H4 J ht=>⟨D,g,t,_,xs,ns,ts,p,rfl,⟨dx,aA,aC,aH,aT,R3.same J⟩,G3.same J,k,ht,ro c,fun H5 S5 D5=>q H5 (S03.trans ((zJ0 J).trans S5)) D5⟩
   cases cb with
   | true=>exact⟨_,rfl,l,_,rfl,.inl ⟨zG0 hl3,fun t ht=>fin t _ (zB0 ht _) ah⟩⟩
   | false=>exact⟨_,rfl,l,_,rfl,.inr ⟨zC0 hl3,fin l _ (Same.refl _) hl3⟩⟩
end
section
variable {C CG:Addr}
def qd (C CG cT cN:Addr):Sp:=fun vs H Q E=>De C CG vs H Q E∨(∃(D g:Addr) (z:Db) (v:V),vs=[.ref D,v]/\DbAt C H D g z/\z.aw.1≠"coin"/\gs cT H E)∨∃(D g:Addr) (z:Db) (v:V) (ns:List Str) (ts:List Tr) (p:Int),vs=[.ref D,v]/\DbAt C H D g z/\Gm CG H g ns ts p/\z.aw.1="coin"/\NumOr H v/\kx p v=false/\gs cN H E
theorem xX {f fB fG cT CA fN cN fNN:Addr} {fd fdB fdG fdN fdNN:FuncData} (F:Fun K "toss" "Doubter.toss" ma f fd) (B:Bl mg) (T:DTxt K mg C) (TG:GTxt K mg CG) (N:NoX P w K mg base "NoTurn" cT CA fN fdN) (NN:NoX P w K mg base "NoNumber" cN CA fNN fdNN) (dO:Cal P w K mg base 1 "is_number" ["value","p"] mO) (cK:Cal P w K mg base 4 "value_at" ["values","r","p"] rD)
 (mB:Meth K C "begin_rounds" fB) (GB:FnOk P w K mg base CX0 16 fB fdB ["self","s"] (zn C CG)) (bB:Binds K fdB ["self","s"] [])
 (mG:Meth K C "go_on" fG) (GG:FnOk P w K mg base CX0 15 fG fdG ["self"] (Dh C CG)) (bG:Binds K fdG ["self"] []):FnOk P w K mg base (CXr P w) 17 f fd ["self","r"] (qd C CG cT cN):=by
 refine F.okX zy (fun vs H Q E h=>?_) (fun cdv A outer s H vs Q E hr h=>?_)
 . rcases h with⟨D,g,z,r,ns,ts,p,rfl,_⟩ | ⟨D,g,z,v,rfl,_⟩ | ⟨D,g,z,v,ns,ts,p,rfl,_⟩ <;> rfl
 have hr3:Room (2+1) _:=hr.mono (by decide);have hr15:Room 15 _:=hr.mono (by decide);refine⟨_,(ad (aX (av nK (aJ aZ (aU (pv 0) rfl) ae (fun _ _=>rfl)) aG (ay _)) (ag (iM (gX N.made N.ok hr3 rfl N.g N.b rq cH))) aI)
  (ad (aX (kN (fZ (al dO hr (by decide) rfl (aa (pv 1) (aa (aU (aU (pv 0) rfl) rfl) ac))))) (ag (iM (gX NN.made NN.ok hr3 rfl NN.g NN.b rq cH))) aI)
  (ad (bJ (pv 0) (aj aN (aU (pv 0) rfl) ae) rfl)
  (ag (aX (av (jH hr.units) (aU (pv 0) rfl) (aY ac) (ay _))
   (ag (bV (fv (pv 0) T.cl mB GB hr bB .nil cH (aa (pv 1) ac))))
   (ad (bJ (pv 0) (al cK hr (by decide) rfl (aa (aU (pv 0) rfl) (aa (pv 1) (aa (aU (aU (pv 0) rfl) rfl) ac)))) rfl)
   (ad (bJ (pv 0) (aj BM (aU (pv 0) rfl) (aY (aa (pv 1) ac))) rfl)
   (ag (bV (eT (pv 0) T.cl mG GG hr15 bG .nil cH)))))))))),?_⟩
 rcases h with⟨D,g,z,r,ns,ts,p,rfl,⟨dx,aA,aC,aH,aT,R⟩,G,k,ea,r0,r1,tl,ro,po,q⟩ | ⟨D,g,z,v,rfl,⟨dx,aA,aC,aH,aT,R⟩,hne,rr⟩ | ⟨D,g,z,v,ns,ts,p,rfl,⟨dx,aA,aC,aH,aT,R⟩,G,ea,nv,hne,rr⟩
 rotate_left
 . refine⟨_,rfl,D,C,dx,_,_,rfl,R.hD,T.cl,T.nA,ow,aA,_,_,_,rfl,rfl,zC0 R.hA,aO (j:=0) (iw _),rfl,_,rfl,?_⟩;refine Ar (fun e=>hne (V.str.inj e)) ?_;exact⟨zN0 _,fun e ze=>sv (.inr (.inr rfl)) ze fun G4 s4 x4=>⟨rfl,iL N.cl rr ze s4 x4⟩⟩
 . obtain ⟨a,b,d,tv,⟨dg,hg⟩,ha,hb,TS,hd⟩:=G;refine⟨_,rfl,D,C,dx,_,_,rfl,R.hD,T.cl,T.nA,ow,aA,_,_,_,rfl,rfl,zC0 R.hA,aO (j:=0) (iw _),rfl,_,rfl,?_⟩;refine eU (congrArg V.str ea) ?_;have fin:∀e,H e=none->xh cN "row" [.ref e,.non] (upd H e (lc cN e)) (fun x H'=>x=.non/\∃e' C' CA dx,V.ref e=.ref e'/\H' e'=some (oF C' e' dx)/\ClsX K C' CA/\E (.ref e') (some dx) (upd H' e' (oE C' e' dx))) E0:=fun e ze=>sv (.inr (.inr rfl)) ze fun G4 s4 x4=>⟨rfl,iL NN.cl rr ze s4 x4⟩
   rcases nv with⟨r,rfl⟩ | nv
   . refine⟨_,rfl,_,rfl,D,C,dx,_,_,rfl,R.hD,T.cl,T.nG,gO,g,CG,dg,_,_,rfl,hg,TG.cl,TG.nF,jD ..,.inl ⟨r,p,rfl,?_⟩⟩;have e:(decide (0<=r)&&decide (r<p))=false:=hne;rw[e];refine⟨_,rfl,?_⟩;refine fE ?_;exact⟨zN0 _,fin⟩
   . refine⟨_,rfl,_,rfl,D,C,dx,_,_,rfl,R.hD,T.cl,T.nG,gO,g,CG,dg,_,_,rfl,hg,TG.cl,TG.nF,jD ..,.inr ⟨v,p,rfl,nv,?_⟩⟩;refine⟨_,rfl,?_⟩;refine fE ?_;exact⟨zN0 _,fin⟩
 have gD:=G.ne R.hD gO;have G':=G;obtain⟨a,b,d,tv,⟨dg,hg⟩,ha,hb,TS,hd⟩:=G';refine⟨_,rfl,D,C,dx,_,_,rfl,R.hD,T.cl,T.nA,ow,aA,_,_,_,rfl,rfl,zC0 R.hA,aO (j:=0) (iw _),rfl,_,rfl,?_⟩;refine eU (congrArg V.str ea) ?_;refine⟨_,rfl,_,rfl,D,C,dx,_,_,rfl,R.hD,T.cl,T.nG,gO,g,CG,dg,_,_,rfl,hg,TG.cl,TG.nF,jD ..,.inl ⟨r,p,rfl,?_⟩⟩;rw[decide_eq_true r0,decide_eq_true r1];refine⟨_,rfl,?_⟩;refine eJ ?_;refine⟨_,rfl,D,C,dx,_,_,rfl,R.hD,T.cl,T.nP,wJ,_,_,rfl,rfl,_,rfl,D,C,dx,_,rfl,R.hD,T.cl,T.nP,cW,?_⟩;rw[uq];have S2:SameBut D H (upd H D (.ins C dx (dl g aA aC z.s aH aT z.ed (z.pl+1)))):=SameBut.upd _;have R2:DbR C (upd H D (.ins C dx (dl g aA aC z.s aH aT z.ed (z.pl+1)))) D g { z with pl:=z.pl+1 } dx aA aC aH aT:=DbR.set (z:={ z with pl:=z.pl+1 }) R.hD R.hA R.hC R.hH R.hT;have G2:=G.but R.hD gD S2;generalize upd H D (.ins C dx (dl g aA aC z.s aH aT z.ed (z.pl+1)))=H2 at S2 R2 G2;refine⟨_,rfl,D,C,dx,_,_,rfl,R2.hD,T.cl,T.nH,dl_h,(by show 0<=sizeLine;decide),fun u hu=>?_⟩;have I:=zB0 hu (.tup []);have R3:=R2.same I;have hu3:upd H2 u (.tup []) u=some (.tup []):=ah;have G3:=G2.same I;generalize upd H2 u (.tup [])=H3 at I R3 hu3 G3;have S03:SameBut D H H3:=S2.trans (zJ0 I);refine⟨_,_,jm R3.hH,jm (xs:=[]) hu3,ja _,ja [],_,rfl,?_⟩;rw[show PyData.eqv (.tuple (z.he.map PyData.int)) (.tuple (([]:List Int).map PyData.int))=decide (z.he=[])from wI z.he]
 by_cases c:z.he=[]
 . refine cg c ?_;have e:fQ ns ts p r z=vz ns ts p r { z with pl:=z.pl+1 }:=by
    unfold fQ;rw[zF0 c]
   rw[e]at q;refine⟨_,rfl,D,dx,_,rfl,R3.hD,CI,_,rfl,?_⟩;exact⟨D,g,_,r,ns,ts,p,rfl,⟨dx,aA,aC,aH,aT,R3⟩,G3,k,tl,po,fun H5 S5 D5=>q H5 (S03.trans S5) D5⟩
 . refine ba c ?_;obtain⟨rok,tl'⟩:=ro c;have e:fQ ns ts p r z=ir ns ts p { z with pl:=z.pl+1,ed:=val p z.he r,to:=z.to++[r] }:=by
    unfold fQ;rw[zD0 c]
   rw [e]at q;have G3':=G3;obtain⟨a3,b3,d3,tv3,⟨dg3,hg3⟩,_⟩:=G3';refine⟨_,rfl,D,C,dx,_,_,rfl,R3.hD,T.cl,T.nH,dl_h,_,rfl,_,rfl,D,C,dx,_,_,rfl,R3.hD,T.cl,T.nG,gO,g,CG,dg3,_,_,rfl,hg3,TG.cl,TG.nF,jD ..,aH,z.he,r,p,rfl,.inr R3.hH,rok,k.pr,k.p9,r0,r1,fun H4 S4=>?_⟩;have R4:=R3.same S4;have G4:=G3.same S4;refine⟨_,rfl,D,C,dx,_,rfl,R4.hD,T.cl,T.nE,cW,?_⟩;rw[zI];have S5:SameBut D H4 (upd H4 D (.ins C dx (dl g aA aC z.s aH aT (val p z.he r) (z.pl+1)))):=SameBut.upd _;have R5:DbR C (upd H4 D (.ins C dx (dl g aA aC z.s aH aT (val p z.he r) (z.pl+1)))) D g { z with pl:=z.pl+1,ed:=val p z.he r } dx aA aC aH aT:=DbR.set (z:={ z with pl:=z.pl+1,ed:=val p z.he r }) R4.hD R4.hA R4.hC R4.hH R4.hT;have G5:=G4.but R4.hD gD S5;generalize upd H4 D (.ins C dx (dl g aA aC z.s aH aT (val p z.he r) (z.pl+1)))=H5 at S5 R5 G5;have S05:SameBut D H H5:=S03.trans ((zJ0 S4).trans S5);refine⟨_,rfl,D,C,dx,_,_,rfl,R5.hD,T.cl,T.nT,AJ,_,rfl,(by show 1<=sizeLine;decide),fun t ht=>?_⟩;have J:=zB0 ht (.tup [.int r]);have R6:=R5.same J;have G6:=G5.same J;have ht6:upd H5 t (.tup [.int r]) t=some (.tup [.int r]):=ah;generalize upd H5 t (.tup [.int r])=H6 at J R6 G6 ht6;have n10:=k.n10;have fin:∀(x:Addr)(H7:Hp),Same H6 H7->H7 x=some (.tup ((z.to++[r]).map V.int))->(ps_fin:True)->∀QQ:Hp->Prop,(∀H8,SameBut D H7 H8->DbR C H8 D g { z with pl:=z.pl+1,ed:=val p z.he r,to:=z.to++[r] } dx aA aC aH x->Gm CG H8 g ns ts p->QQ H8)->QQ (upd H7 D (.ins C dx (dl g aA aC z.s aH x (val p z.he r) (z.pl+1)))):=by
    intro x H7 s7 hx _ QQ hq;have R7:=R6.same s7;exact hq _ (SameBut.upd _) (DbR.set (z:={ z with pl:=z.pl+1,ed:=val p z.he r,to:=z.to++[r] }) R7.hD R7.hA R7.hC R7.hH hx) ((G6.same s7).but R7.hD gD (SameBut.upd _))
   have po2:cw (z.to++[r]) p:=fun x hx=>by
    rcases qD0 hx with h | h
    . exact po x h
    . rw[zQ0 h];exact⟨r0,r1⟩
   have tl2:(z.to++[r]).length<=ns.length:=by
    rw[zR0,qT0];omega
   have S06:SameBut D H H6:=S05.trans (zJ0 J);refine⟨aT,t,_,_,rfl,rfl,zC0 R6.hT,zC0 ht6,(fun z=>by cases z),cL (by rw[zE0];show z.to.length+1<=1000;omega),fun z0=>?_,fun z0 p7 hp7=>?_⟩
   . have e0:z.to=[]:=by simpa using z0
     refine⟨_,rfl,D,C,dx,_,rfl,R6.hD,T.cl,T.nT,cW,?_⟩;rw[CC];refine fin t H6 (Same.refl _) (by rw[e0];exact ht6) trivial _ fun H8 S8 R8 G8=>?_
     refine⟨_,rfl,D,dx,_,rfl,R8.hD,AK,?_⟩;exact⟨D,g,_,ns,ts,p,rfl,⟨dx,aA,aC,aH,t,R8⟩,G8,k,tl2,po2,fun H9 S9 D9=>q H9 (S06.trans (S8.trans S9)) D9⟩
   . have L:=zB0 hp7 (.tup (z.to.map V.int++[.int r]));have R7:=R6.same L;refine⟨_,rfl,D,C,dx,_,rfl,R7.hD,T.cl,T.nT,cW,?_⟩;rw[CC];refine fin p7 _ L (by rw[ah,zK0];rfl) trivial _ fun H8 S8 R8 G8=>?_
     refine⟨_,rfl,D,dx,_,rfl,R8.hD,AK,?_⟩;exact⟨D,g,_,ns,ts,p,rfl,⟨dx,aA,aC,aH,p7,R8⟩,G8,k,tl2,po2,fun H9 S9 D9=>q H9 (S06.trans ((zJ0 L).trans (S8.trans S9))) D9⟩
end
section
variable {C CG:Addr}
theorem uH {f:Addr} {fd:FuncData} (F:Fun K "looked" "Doubter.looked" ji f fd) (T:DTxt K mg C) (sc:FnScope ["self"] ["self"] (ak ji):=by exact⟨rfl,rfl,rfl,by decide,rfl,by decide,by decide⟩):FnOk P w K mg base CX0 1 f fd ["self"] (tV C fun z v _=>v=.int z.pl):=by
 refine F.ok sc (fun vs H Q E h=>?_) (fun cdv A outer s H vs Q E hr h=>?_)
 . obtain⟨D,g,z,rfl,_⟩:=h;rfl
 obtain⟨D,g,z,rfl,⟨dx,aA,aC,aH,aT,R⟩,q⟩:=h;refine⟨_,(ag (ax (aU (pv 0) rfl))),?_⟩;exact⟨_,rfl,D,C,dx,_,_,rfl,R.hD,T.cl,T.nP,wJ,q _ rfl⟩
def GmA(CG:Addr)(H:Hp)(g a b d:Addr)(ns:List Str)(tv:List V)(ts:List Tr)(p:Int):Prop:=GameAt CG H g a b d p/\H a=some (.tup (ns.map V.str))/\H b=some (.tup tv)/\TreesAt H tv ts/\H d=some (.lst ((ns.map (bj ts)).map V.int))
theorem GmA.gm{H:Hp}{g a b d:Addr}{ns:List Str}{tv:List V}{ts:List Tr}{p:Int}(h:GmA CG H g a b d ns tv ts p):Gm CG H g ns ts p:=⟨a,b,d,tv,h⟩
theorem GmA.same{H H':Hp}{g a b d:Addr}{ns:List Str}{tv:List V}{ts:List Tr}{p:Int}(h:GmA CG H g a b d ns tv ts p)(s:Same H H'):GmA CG H' g a b d ns tv ts p:=by
 obtain⟨h1,h2,h3,h4,h5⟩:=h;exact⟨h1.same s,s _ _ h2,s _ _ h3,h4.mono (aB s),s _ _ h5⟩
theorem GmA.but{H H':Hp}{g a b d D dx C':Addr}{ns:List Str}{tv:List V}{ts:List Tr}{p:Int}{fs:List (Str×V)}(h:GmA CG H g a b d ns tv ts p)(hD:H D=some (.ins C' dx fs))(hg:g≠D)(s:SameBut D H H'):GmA CG H' g a b d ns tv ts p:=by
 obtain⟨⟨dx',e⟩,h2,h3,h4,h5⟩:=h;exact⟨⟨dx',s _ _ hg e⟩,s _ _ (dh h2 hD (by intro z;cases z)) h2,s _ _ (dh h3 hD (by intro z;cases z)) h3,h4.mono (fun c xs hc=>s _ _ (dh hc hD (by intro z;cases z)) hc),s _ _ (dh h5 hD (by intro z;cases z)) h5⟩
theorem GmA.feed{H H':Hp}{g a b d f:Addr}{ns:List Str}{tv:List V}{ts:List Tr}{p:Int}(h:GmA CG H g a b d ns tv ts p)(F:FeedAt H f)(df:d≠f)(s:SameBut f H H'):GmA CG H' g a b d ns tv ts p:=by
 obtain⟨⟨dx',e⟩,h2,h3,h4,h5⟩:=h;exact⟨⟨dx',s _ _ (bi F e (fun _ z=>by cases z)) e⟩,s _ _ (bi F h2 (fun _ z=>by cases z)) h2,s _ _ (bi F h3 (fun _ z=>by cases z)) h3,h4.mono (fun c xs hc=>s _ _ (bi F hc (fun _ z=>by cases z)) hc),s _ _ df h5⟩
theorem DbAt.feed{H H':Hp}{D g f:Addr}{z:Db}(h:DbAt C H D g z)(F:FeedAt H f)(s:SameBut f H H'):DbAt C H' D g z:=by
 obtain⟨dx,aA,aC,aH,aT,R⟩:=h;exact⟨dx,aA,aC,aH,aT,s _ _ (bi F R.hD (fun _ z=>by cases z)) R.hD,s _ _ (bi F R.hA (fun _ z=>by cases z)) R.hA,s _ _ (bi F R.hC (fun _ z=>by cases z)) R.hC,s _ _ (bi F R.hH (fun _ z=>by cases z)) R.hH,s _ _ (bi F R.hT (fun _ z=>by cases z)) R.hT⟩
theorem AA{H H':Hp}{f D dx C':Addr}{fs:List (Str×V)}(F:FeedAt H f)(hD:H D=some (.ins C' dx fs))(s:SameBut D H H'):FeedAt H' f:=by
 have n:D≠f:=bi F hD (fun _ z=>by cases z);obtain⟨u,t,e,r⟩:=F;exact⟨u,t,s _ _ (Ne.symm n) e,r⟩
structure Wd(C CG:Addr)(H:Hp)(f D g a b d l:Addr)(z:Db)(ns:List Str)(tv:List V)(ts:List Tr)(p:Int):Prop where
 F:FeedAt H f
 Dd:DbAt C H D g z
 G:GmA CG H g a b d ns tv ts p
 L:H l=some (.lst ((ns.map (bj ts)).map V.int))
 df:d≠f
 lf:l≠f
variable {H H':Hp} {f D g a b d l:Addr} {z z':Db} {ns:List Str} {tv:List V} {ts:List Tr} {p:Int}
theorem Wd.same(h:Wd C CG H f D g a b d l z ns tv ts p)(s:Same H H'):Wd C CG H' f D g a b d l z ns tv ts p:=⟨h.F.same s,h.Dd.same s,h.G.same s,s _ _ h.L,h.df,h.lf⟩
theorem Wd.feed(h:Wd C CG H f D g a b d l z ns tv ts p)(s:SameBut f H H')(F':FeedAt H' f):Wd C CG H' f D g a b d l z ns tv ts p:=⟨F',h.Dd.feed h.F s,h.G.feed h.F h.df s,s _ _ h.lf h.L,h.df,h.lf⟩
theorem Wd.step(h:Wd C CG H f D g a b d l z ns tv ts p)(s:SameBut D H H')(D':DbAt C H' D g z'):Wd C CG H' f D g a b d l z' ns tv ts p:=by
 obtain⟨dx,aA,aC,aH,aT,R⟩:=id h.Dd;have gD:=h.G.gm.ne R.hD gO;exact⟨AA h.F R.hD s,D',h.G.but R.hD gD s,s _ _ (dh h.L R.hD (by intro z;cases z)) h.L,h.df,h.lf⟩
theorem Wd.ins (h:Wd C CG H f D g a b d l z ns tv ts p):∃dx fs,H D=some (.ins C dx fs)/\fs.lookup ("waits":Str)=none/\fs.lookup ("due":Str)=none/\fs.lookup ("looked":Str)=none/\fs.lookup ("hear":Str)=none/\fs.lookup ("toss":Str)=none:=by
 obtain⟨dx,aA,aC,aH,aT,R⟩:=id h.Dd;exact⟨dx,_,R.hD,CL,CK,CJ,wK,AL⟩
structure AtR(ns:List Str)(ts:List Tr)(p:Int)(k:Nat)(L:Int)(z:Db):Prop where
 cl:z.cl≠[]
 to:z.to.length=k
 po:cw z.to p
 e0:0<=z.ed
 e1:z.ed<p
 hd:k<ns.length->z.aw=(("hear":Str),some (bj ts (ns.getD k "")+1))/\z.pl=L
 en:ns.length<=k->z.pl=L+szs ts/\z.aw=(if z.ed=hor z.s p (ts.map fun t=>t.worth ns z.to p)then(("believed":Str),none)else(("caught":Str),some ((z.to.length:Int)+1)))
theorem qX{k:Nat}(cl:z.cl≠[])(to:z.to.length=k)(po:cw z.to p)(e0:0<=z.ed)(e1:z.ed<p):AtR ns ts p k z.pl (ir ns ts p z):=by
 unfold ir
 by_cases c:k<ns.length
 . rw[zF0 (by omega)];exact⟨cl,to,po,e0,e1,fun _=>⟨by rw[to],rfl⟩,fun z=>by omega⟩
 . rw[zD0 (by omega)];exact⟨cl,to,po,e0,e1,fun z=>absurd z c,fun _=>⟨rfl,rfl⟩⟩
theorem vn{xs:List Int}{z:Db}(k:GmK ns ts p)(h1:ts.length=1)(hx:xs≠[])(c0:z.cl=[])(t0:z.to=[]):AtR ns ts p 0 (z.pl+(xs.length:Int)) (gj ns ts p xs z):=by
 have p2:=k.p2;unfold gj;rw[zF0 c0];unfold jC;rw[zF0 h1];unfold vz;have hr:=mv (s:=0) (p:=p) (by omega) xs;exact qX (z:={ z with pl:=z.pl+(xs.length:Int),cl:=xs,s:=0,ed:=hor 0 p xs }) hx (by rw[t0];rfl) (by rw[t0];exact fun x hx=>by cases hx) hr.1 hr.2
theorem sW {xs:List Int} {z:Db} (h1:¬ ts.length=1) (c0:z.cl=[]):gj ns ts p xs z={ z with pl:=z.pl+(xs.length:Int),cl:=xs,aw:=("coin",none) }:=by
 unfold gj;rw[zF0 c0];unfold jC;rw[zD0 h1]
theorem yW{z:Db}{r:Int}(k:GmK ns ts p)(c0:z.cl≠[])(h0:z.he=[])(t0:z.to=[]):AtR ns ts p 0 (z.pl+1) (fQ ns ts p r z):=by
 have p2:=k.p2;unfold fQ;rw[zF0 h0];unfold vz;have hr:=mv (s:=r) (p:=p) (by omega) z.cl;exact qX (z:={ z with pl:=z.pl+1,s:=r,ed:=hor r p z.cl }) c0 (by rw[t0];rfl) (by rw[t0];exact fun x hx=>by cases hx) hr.1 hr.2
theorem Au {xs:List Int} {z:Db} (c0:z.cl≠[]):gj ns ts p xs z={ z with pl:=z.pl+(xs.length:Int),he:=xs,aw:=if(val p xs 0+val p xs 1) % p=z.ed then("coin",none)else("caught",some ((z.to.length:Int)+1)) }:=by
 unfold gj;rw[zD0 c0];rfl
theorem yV{z:Db}{r:Int}{k:Nat}(G:GmK ns ts p)(c0:z.cl≠[])(h0:z.he≠[])(to:z.to.length=k)(po:cw z.to p)(r0:0<=r)(r1:r<p):AtR ns ts p (k+1) (z.pl+1) (fQ ns ts p r z):=by
 have p2:=G.p2;unfold fQ;rw[zD0 h0];have hr:=Be (p:=p) (by omega) z.he r;refine qX (z:={ z with pl:=z.pl+1,ed:=val p z.he r,to:=z.to++[r] }) c0 (by show(z.to++[r]).length=k+1;rw[zR0,to];rfl) (fun x hx=>?_) hr.1 hr.2;rcases qD0 hx with h | h
 . exact po x h
 . rw[zQ0 h];exact⟨r0,r1⟩
theorem Dj{xs:List Int}(k:GmK ns ts p){x:Str}(hx:x∈ns)(hl:(xs.length:Int)=bj ts x+1)(h5:xs.length<=500)(po:cw xs p):iy xs p:=by
 have dr:=k.deg x hx;have p9:=k.p9;refine⟨by omega,h5,by omega,fun j=>?_⟩;rw[qM0];cases e:xs[j]? with
 | none=>exact⟨Int.le_refl _,by show(0:Int)<2 ^ 40;decide⟩
 | some v=>
   have:=po v (zZ0 e)
   exact⟨this.1,by show v<2 ^ 40;omega⟩
theorem rb(k:GmK ns ts p)(x:Str):0<=bj ts x/\bj ts x<=400:=by
 have t0:ts≠[]:=fun z=>by have:=k.t1;rw[z]at this;cases this
 have:=iO (ns:=ts.map fun t=>(t.names.count x:Int)) (by simpa using t0)
 obtain⟨t,ht,e⟩:=List.mem_map.mp this;unfold bj;rw[←e];have h1:=List.count_le_length (a:=x) (l:=t.names);have h2:=t.names_len;have h3:=(k.tok t ht).2.2.2;omega
end
def CO(H:Hp)(v:V)(s:List Int):Prop:=∃a,v=.ref a/\H a=some (.tup (s.map V.int))
abbrev TupsAt(H:Hp):List V->List (List Int)->Prop:=PySem.Paired (CO H)
def AZ(H:Hp)(r:Addr)(ss:List (List Int)):Prop:=∃rs,H r=some (.lst rs)/\TupsAt H rs ss
theorem TupsAt.mono{H H':Hp}(k:∀a xs,H a=some (.tup xs)->H' a=some (.tup xs)):∀{rs:List V}{ss:List (List Int)},TupsAt H rs ss->TupsAt H' rs ss
 | _,_,.nil=>.nil
 | _,_,.cons ⟨a,e,h⟩ t=>.cons ⟨a,e,k _ _ h⟩ (TupsAt.mono k t)
theorem TupsAt.get{H:Hp}:∀{rs:List V}{ss:List (List Int)}{i:Nat}{v:V},TupsAt H rs ss->rs[i]?=some v->∃s,ss[i]?=some s/\CO H v s
 | _,_,_,_,.nil,h=>by simp at h
 | _,_,0,_,.cons h _,e=>by
   simp at e
   subst e;exact⟨_,rfl,h⟩
 | _,_,i+1,v,.cons _ t,e=>by
   obtain⟨s,h1,h2⟩:=TupsAt.get (i:=i) t (by simpa using e);exact⟨s,by simpa using h1,h2⟩
theorem sZ{K:W.Frag}{H1:Hp}{a p:Addr}{s:List Int}{z:Int}{Q:VK}(ha:H1 a=some (.tup (s.map V.int)))(hp:H1 p=some (.tup [.int z]))(hl:s.length<=100)
 (q:∀t H2,Same H1 H2->H2 t=some (.tup ((s++[z]).map V.int))->Q (.ref t) H2):wn K (.ref a) (.ref p) H1 Q∨qw K (.ref a) (.ref p) H1 Q:=by
 cases s with
 | nil=>exact .inr ⟨a,p,_,rfl,rfl,zC0 ha,zC0 hp,q p H1 (Same.refl _) hp⟩
 | cons x r=>
   refine .inl ⟨a,p,_,_,rfl,rfl,zC0 ha,zC0 hp,by simp,cL (by simp at hl ⊢;omega),(fun z=>nomatch z),(fun _ t ht=>q t _ (zB0 ht _) ?_)⟩;rw[ah,zK0];rfl
def vQ:Sp:=fun vs H Q _=>∃n:Int,vs=[.int n]/\0<=n/\n<=6/\∀(r:Addr)(H':Hp),H r=none->Same H H'->AZ H' r (bE n.toNat)->Q (.ref r) H'
def dA(s:Int):List Int->Int
 | []=>0
 | a::r=>a+s*dA s r
theorem iS(s p:Int):∀ns,hor s p ns=dA s ns % p
 | []=>(Int.zero_emod p).symm
 | a::r=>by
   show(hor s p r*s+a) % p=(a+s*dA s r) % p;rw[iS s p r,Int.add_emod,Int.mul_emod,Int.emod_emod,←Int.mul_emod,←Int.add_emod,Int.mul_comm,Int.add_comm]
theorem mX:∀(n:Nat)(s:List Int),s∈bE n->∀x∈s,x=0∨x=1
 | 0,s,h,x,hx=>by
   have:s=[]:=by simpa [bE]using h
   subst this;cases hx
 | n+1,s,h,x,hx=>by
   rw[bE,List.mem_flatMap]at h;obtain⟨t,ht,hs⟩:=h
   simp at hs
   rcases hs with rfl | rfl
   . rcases qD0 hx with h | h
     . exact mX n t ht x h
     . exact .inl (zQ0 h)
   . rcases qD0 hx with h | h
     . exact mX n t ht x h
     . exact .inr (zQ0 h)
theorem wR{K:W.Frag}{H1:Hp}{a b:Addr}{xs ys:List Int}{Q:VK}(ha:H1 a=some (.tup (xs.map V.int)))(hb:H1 b=some (.tup (ys.map V.int)))(hl:xs.length+ys.length<=100)
 (q:∀t H2,Same H1 H2->H2 t=some (.tup ((xs++ys).map V.int))->Q (.ref t) H2):wn K (.ref a) (.ref b) H1 Q∨qw K (.ref a) (.ref b) H1 Q:=by
 cases xs with
 | nil=>exact .inr ⟨a,b,_,rfl,rfl,zC0 ha,zC0 hb,q b H1 (Same.refl _) hb⟩
 | cons x r=>
   refine .inl ⟨a,b,_,_,rfl,rfl,zC0 ha,zC0 hb,by simp,cL (by simp at hl ⊢;omega),(fun z=>?_),(fun _ t ht=>q t _ (zB0 ht _) ?_)⟩
   . cases ys with
     | nil=>
       refine q a H1 (Same.refl _) ?_;rw[List.append_nil];exact ha
     | cons y r2=>exact nomatch z
   . rw[ah,zK0]
def cy(ns:List Str)(ts:List Tr)(s p:Int)(pt:List Int):Int:=((bE (ns.length-pt.length)).map fun st=>dA s (ts.map fun t=>t.worth ns (pt++st) p)).sum % p
theorem vM{α:Type}(p:Int)(f:α->Int):∀l:List α,(l.map fun x=>f x % p).sum % p=(l.map f).sum % p
 | []=>rfl
 | a::r=>by
   rw[qF0,qF0,List.sum_cons,List.sum_cons,Int.add_emod,Int.emod_emod,vM p f r,←Int.add_emod]
theorem rQ{a b:List Int}{p:Int}(h:cw a p)(h2:cw b p):cw (a++b) p:=fun x hx=>by
 rcases qD0 hx with e | e
 . exact h x e
 . exact h2 x e
theorem pt01{a b:List Int}{p:Int}(h:cw a p)(p1:1<p)(h2:∀x∈b,x=0∨x=1):cw (a++b) p:=rQ h fun x hx=>by rcases h2 x hx with e | e <;> omega
theorem DF{n k:Nat}(h:k<=n)(h6:n<=6):0<=(n:Int)-k/\(n:Int)-k<=6/\((n:Int)-k).toNat=n-k:=by omega
theorem nd_at{ns:List Str}(nd:ns.Nodup){i j:Nat}{z:Str}(hi:ns[i]?=some z)(hj:ns[j]?=some z):i=j:=by
 obtain⟨h1,e1⟩:=zT0 hi;obtain⟨h2,e2⟩:=zT0 hj;rcases Nat.lt_trichotomy i j with h | h | h
 . exact absurd (e1.trans e2.symm) (List.pairwise_iff_getElem.mp nd i j h1 h2 h)
 . exact h
 . exact absurd (e2.trans e1.symm) (List.pairwise_iff_getElem.mp nd j i h2 h1 h)
theorem zw{pt:List Int}{j i:Nat}{x:Int}(hj:j<pt.length):(pt.set j x).getD i 0=if i=j then x else pt.getD i 0:=by
 rw[qM0,qM0,List.getElem?_set]
 by_cases c:j=i
 . subst c
   simp [hj]
 . rw[zD0 c,zD0 (Ne.symm c)]
theorem ia{ns:List Str}{pt:List Int}{p:Int}{j:Nat}{y:Str}(hy:ns[j]?=some y)(hl:pt.length=ns.length)(nd:ns.Nodup):∀t:Tr,t.ok ns->∃f:Int->Int,IsPoly (t.names.count y+1) f/\∀x:Int,p ∣ t.worth ns (pt.set j x) p-f x
 | .is z,ok=>by
   have jl:j<ns.length:=(zT0 hy).1;obtain⟨i,hi,il⟩:=gW ok;have hz:=(ny hi).1;have e:∀x,(Tr.is z).worth ns (pt.set j x) p=if i=j then x else pt.getD i 0:=fun x=>by
    show(match fe z ns with | some j'=>(pt.set j x).getD j' 0 | none=>0)=_;rw[hi];exact zw (by omega)
   by_cases c:i=j
   . subst c;have ez:z=y:=zO0 (hz.symm.trans hy);subst ez;refine⟨fun x=>x,?_,fun x=>⟨0,by rw[e x,zF0 rfl];simp⟩⟩
     have:(Tr.is z).names.count z=1:=by simp [Tr.names]
     rw[this];exact IsPoly.self
   . have ez:z≠y:=fun h=>c (by
      subst h;exact nd_at nd hz hy)
     refine⟨fun _=>pt.getD i 0,?_,fun x=>⟨0,by rw[e x,zD0 c];simp⟩⟩;exact IsPoly.const _ _
 | .yes,_=>⟨fun _=>1,IsPoly.const _ _,fun x=>⟨0,by show(1:Int)-1=_;simp⟩⟩
 | .no,_=>⟨fun _=>0,IsPoly.const _ _,fun x=>⟨0,by show(0:Int)-0=_;simp⟩⟩
 | .not a,ok=>by
   obtain⟨f,hf,h⟩:=ia (p:=p) hy hl nd a ok;refine⟨fun x=>1+(-1)*f x,(IsPoly.const 1 _).add (hf.mul (-1)),fun x=>?_⟩;obtain⟨k,hk⟩:=h x;obtain⟨m,hm⟩:=ou p (1-a.worth ns (pt.set j x) p);show p ∣ (1-a.worth ns (pt.set j x) p) % p-_;exact⟨m-k,by grind⟩
 | .bin o a b,⟨_,ok1,ok2⟩=>by
   obtain ⟨f,hf,h⟩:=ia (p:=p) hy hl nd a ok1;obtain⟨g,hg,h'⟩:=ia (p:=p) hy hl nd b ok2;have ec:(Tr.bin o a b).names.count y+1=a.names.count y+b.names.count y+1:=by
    show(a.names++b.names).count y+1=_;rw[List.count_append]
   rw [ec];have hF:IsPoly (a.names.count y+b.names.count y+1) f:=hf.upTo _ (by omega);have hG:IsPoly (a.names.count y+b.names.count y+1) g:=hg.upTo _ (by omega);have hP:=hf.prod hg;have fin:∀(c0 c1 c2:Int),(∀u v:Int,cX p o u v=(c0+c1*(u+v)+c2*(u*v)) % p)->∃F:Int->Int,IsPoly (a.names.count y+b.names.count y+1) F/\∀x:Int,p ∣ (Tr.bin o a b).worth ns (pt.set j x) p-F x:=fun c0 c1 c2 hJ=>by
    refine⟨fun x=>c0+c1*(f x+g x)+c2*(f x*g x),((IsPoly.const c0 _).add ((hF.add hG).mul c1)).add (hP.mul c2),fun x=>?_⟩;obtain⟨k,hk⟩:=h x;obtain⟨l,hl⟩:=h' x;show p ∣ cX p o (a.worth ns (pt.set j x) p) (b.worth ns (pt.set j x) p)-_;rw[hJ];generalize a.worth ns (pt.set j x) p=u at *
    generalize b.worth ns (pt.set j x) p=v at *
    obtain⟨m,hm⟩:=ou p (c0+c1*(u+v)+c2*(u*v));exact⟨m+c1*(k+l)+c2*(k*v+f x*l),by grind⟩
   by_cases c1:o="and"
   . exact fin 0 0 1 fun u v=>by unfold cX;rw[zF0 c1];congr 1;grind
   by_cases c2:o="or"
   . exact fin 0 1 (-1) fun u v=>by unfold cX;rw[zD0 c1,zF0 c2];congr 1;grind
   by_cases c3:o="odd"
   . exact fin 0 1 (-2) fun u v=>by unfold cX;rw[zD0 c1,zD0 c2,zF0 c3];congr 1;grind
   . exact fin 1 (-1) 2 fun u v=>by unfold cX;rw[zD0 c1,zD0 c2,zD0 c3];congr 1;grind
theorem sw{ns:List Str}{pt:List Int}{p s:Int}{j D:Nat}{y:Str}(hy:ns[j]?=some y)(hl:pt.length=ns.length)(nd:ns.Nodup):∀ts:List Tr,(∀t∈ts,t.ok ns/\t.names.count y<=D)->∃f:Int->Int,IsPoly (D+1) f/\∀x:Int,p ∣ dA s (ts.map fun t=>t.worth ns (pt.set j x) p)-f x
 | [],_=>⟨fun _=>0,IsPoly.const _ _,fun x=>⟨0,by simp [dA]⟩⟩
 | t::ts,h=>by
   obtain⟨f,hf,h1⟩:=ia (p:=p) hy hl nd t (h t qL0).1;obtain⟨g,hg,h2⟩:=sw (p:=p) (s:=s) hy hl nd ts fun u hu=>h u (qK0 _ hu)
   have hd:=(h t qL0).2;refine⟨fun x=>f x+s*g x,(hf.upTo _ (by omega)).add (hg.mul s),fun x=>?_⟩;obtain⟨k,hk⟩:=h1 x;obtain⟨l,hl⟩:=h2 x;show p ∣ t.worth ns (pt.set j x) p+s*dA s (ts.map fun t=>t.worth ns (pt.set j x) p)-_;exact⟨k+s*l,by grind⟩
theorem yP{p:Int}(hp:Pm p){xs:List Int}{f:Int->Int}(hn:(xs.length:Int)<=p)(hf:IsPoly xs.length f)(h:∀k,k<xs.length->p ∣ xs.getD k 0-f k)(r:Int):val p xs r=f r % p:=
 md (sE hp hn (tH hp hn) hf h r)
theorem DX{ts:List Tr}{x:Str}:∀t∈ts,t.names.count x<=(bj ts x).toNat:=fun t ht=>by
 have:=BX (d:=0) (List.mem_map.mpr ⟨t,ht,rfl⟩:((t.names.count x:Nat):Int)∈ts.map fun t=>(t.names.count x:Int))
 unfold bj;omega
theorem AR{ts:List Tr}{x:Str}(h0:ts≠[]):0<=bj ts x:=by
 have:=iO (ns:=ts.map fun t=>(t.names.count x:Int)) (by simpa using h0)
 obtain⟨t,ht,e⟩:=List.mem_map.mp this;unfold bj;rw[←e];exact Int.natCast_nonneg _
def jw(ns:List Str)(ts:List Tr)(s p:Int)(cs:List Int)(n:Nat):List Int:=(List.range n).map fun k:Nat=>cy ns ts s p (cs++[(k:Int)])
theorem wc:∀(cs st:List Int)(x z:Int),(cs++[z]++st).set cs.length x=cs++[x]++st
 | [],_,_,_=>rfl
 | a::cs,st,x,z=>congrArg (a::·) (wc cs st x z)
theorem rA{ns:List Str}{cs:List Int}{p s:Int}{D:Nat}{y:Str}{ts:List Tr}(hy:ns[cs.length]?=some y)(nd:ns.Nodup)(h:∀t∈ts,t.ok ns/\t.names.count y<=D):∀l:List (List Int),(∀st∈l,cs.length+1+st.length=ns.length) ->
 ∃f:Int->Int,IsPoly (D+1) f/\∀x:Int,p ∣ (l.map fun st=>dA s (ts.map fun t=>t.worth ns (cs++[x]++st) p)).sum-f x
 | [],_=>⟨fun _=>0,IsPoly.const _ _,fun x=>⟨0,by simp⟩⟩
 | st::l,hs=>by
   obtain⟨f,hf,h1⟩:=sw (p:=p) (s:=s) (pt:=cs++[0]++st) hy (by rw[zR0,zR0,qT0];exact hs st qL0) nd ts h;obtain⟨g,hg,h2⟩:=rA (p:=p) (s:=s) hy nd h l fun u hu=>hs u (qK0 _ hu)
   refine⟨fun x=>f x+g x,hf.add hg,fun x=>?_⟩;obtain⟨k,hk⟩:=h1 x;rw[wc]at hk;obtain⟨m,hm⟩:=h2 x;refine⟨k+m,?_⟩;simp only[qF0,List.sum_cons];rw[Int.mul_add];omega
theorem pf:∀(n:Nat)(s:List Int),s∈bE n->s.length=n
 | 0,s,h=>by rw[zQ0 h];rfl
 | n+1,s,h=>by
   obtain⟨t,ht,h⟩:=List.mem_flatMap.mp h
   have:=pf n t ht
   rcases zY0 h with h | h
   . rw[h,zR0,this];rfl
   . rw[zQ0 h,zR0,this];rfl
theorem vF{ns:List Str}{ts:List Tr}{s p:Int}{cs:List Int}{y:Str}(hp:Pm p)(hy:ns[cs.length]?=some y)(nd:ns.Nodup)(ok:∀t∈ts,t.ok ns)(tne:ts≠[])(dp:bj ts y<p)(r:Int) :
 val p (jw ns ts s p cs (bj ts y+1).toNat) r=cy ns ts s p (cs++[r]):=by
 have cl:cs.length<ns.length:=(zT0 hy).1;have d0:=AR (x:=y) tne;obtain⟨f,hf,h⟩:=rA (p:=p) (s:=s) hy nd (fun t ht=>⟨ok t ht,DX t ht⟩) (bE (ns.length-(cs.length+1))) fun st hst=>by
  have:=pf _ _ hst
  omega
 have ll:(jw ns ts s p cs (bj ts y+1).toNat).length=(bj ts y).toNat+1:=by
  unfold jw;rw[zE0,qP0];omega
 have eq:∀x:Int,cy ns ts s p (cs++[x])=((bE (ns.length-(cs.length+1))).map fun st=>dA s (ts.map fun t=>t.worth ns (cs++[x]++st) p)).sum % p:=fun x=>by
  unfold cy;rw[zR0,qT0]
 rw [yP hp (f:=f) (by rw[ll];omega) (by rw[ll];exact hf) (fun k hk=>by
  have e:(jw ns ts s p cs (bj ts y+1).toNat).getD k 0=cy ns ts s p (cs++[(k:Int)]):=by
   unfold jw at hk ⊢;rw[zE0,qP0]at hk;rw[qM0,qE0,List.getElem?_range hk];rfl
  rw[e,eq];obtain⟨a,ha⟩:=h k;obtain⟨b,hb⟩:=ou p ((bE (ns.length-(cs.length+1))).map fun st=>dA s (ts.map fun t=>t.worth ns (cs++[(k:Int)]++st) p)).sum;exact⟨a+b,by grind⟩) r,eq]
 obtain⟨a,ha⟩:=h r;exact md ⟨-a,by grind⟩
theorem vL{α:Type}(F:List α->Int)(G:List α->Int):∀l:List (List α),(l.map fun s=>F s+G s).sum=(l.map F).sum+(l.map G).sum
 | []=>rfl
 | a::l=>by
   simp only[qF0,List.sum_cons,vL F G l];omega
theorem mI(F:List Int->Int):∀l:List (List Int),((l.flatMap fun s=>[s++[0],s++[1]]).map F).sum=(l.map fun s=>F (s++[0])+F (s++[1])).sum
 | []=>rfl
 | a::l=>by
   rw[List.flatMap_cons,zK0,List.sum_append,mI F l]
   simp
theorem lj:∀(n:Nat)(F:List Int->Int),((bE (n+1)).map F).sum=((bE n).map fun s=>F (0::s)+F (1::s)).sum
 | 0,F=>by simp [bE]
 | n+1,F=>by
   have e1:((bE (n+1+1)).map F).sum=((bE (n+1)).map fun s=>F (s++[0])+F (s++[1])).sum:=mI F _;rw[e1,lj n fun s=>F (s++[0])+F (s++[1])];have e2:((bE (n+1)).map fun s=>F (0::s)+F (1::s)).sum=((bE n).map fun s=>(F (0::(s++[0]))+F (1::(s++[0])))+(F (0::(s++[1]))+F (1::(s++[1])))).sum:=mI (fun s=>F (0::s)+F (1::s)) _;rw[e2]
   congr 1
   refine List.map_congr_left fun s _=>?_
   show F (0::s++[0])+F (0::s++[1])+(F (1::s++[0])+F (1::s++[1]))=_;simp only[List.cons_append];omega
theorem xG{ns:List Str}{ts:List Tr}{s p:Int}{cs:List Int}(cl:cs.length<ns.length):(cy ns ts s p (cs++[0])+cy ns ts s p (cs++[1])) % p=cy ns ts s p cs:=by
 have eq:∀x:Int,cy ns ts s p (cs++[x])=((bE (ns.length-(cs.length+1))).map fun st=>dA s (ts.map fun t=>t.worth ns (cs++[x]++st) p)).sum % p:=fun x=>by
  unfold cy;rw[zR0,qT0]
 have e0:cy ns ts s p cs=((bE (ns.length-(cs.length+1)+1)).map fun st=>dA s (ts.map fun t=>t.worth ns (cs++st) p)).sum % p:=by
  unfold cy;rw[show ns.length-cs.length=ns.length-(cs.length+1)+1 by omega]
 rw [e0,lj,eq,eq];have e1:((bE (ns.length-(cs.length+1))).map fun st=>dA s (ts.map fun t=>t.worth ns (cs++0::st) p)+dA s (ts.map fun t=>t.worth ns (cs++1::st) p)).sum
  = ((bE (ns.length-(cs.length+1))).map fun st=>dA s (ts.map fun t=>t.worth ns (cs++[0]++st) p)).sum+((bE (ns.length-(cs.length+1))).map fun st=>dA s (ts.map fun t=>t.worth ns (cs++[1]++st) p)).sum:=by
  rw[←vL]
  congr 1
  refine List.map_congr_left fun st _=>?_
  simp only[List.append_assoc,List.singleton_append]
 rw[e1,←Int.add_emod]
theorem nB(s:Int){α:Type}(F:Tr->α->Int)(l:List α):∀ts:List Tr,dA s (ts.map fun t=>(l.map (F t)).sum)=(l.map fun a=>dA s (ts.map fun t=>F t a)).sum
 | []=>by
   simp only[List.map_nil,dA]
   induction l with
   | nil=>rfl
   | cons a l ih=>simpa using ih
 | t::ts=>by
   show(l.map (F t)).sum+s*dA s (ts.map fun t=>(l.map (F t)).sum)=_;rw[nB s F l ts];clear nB
   induction l with
   | nil=>simp
   | cons a l ih=>
     simp only[qF0,List.sum_cons,dA]at ih ⊢
     grind
theorem Bv{ns:List Str}{ts:List Tr}{s p:Int}{cs:List Int}(cl:cs.length=ns.length):cy ns ts s p cs=hor s p (ts.map fun t=>t.worth ns cs p):=by
 rw[iS];unfold cy;rw[cl,Nat.sub_self]
 simp [bE]
theorem wx{X:Cx}(K:W.Frag)(hK:X.K=K:=by rfl):OpR X (binaryOp .Add) (fun x y H Q=>wn K x y H Q∨qw K x y H Q):=by subst hK;exact op_catT.or kq
section
variable {C CG:Addr}
structure Lg(p:Int)(v r:Int)(j k:Nat)(part w:Int):Prop where
 d:p ∣ part-v*px r j k*w
 u:p ∣ px (j:Int) j k*w-1
theorem Cc{p v r:Int}{j:Nat}{part w:Int}(h:Lg p v r j j part w):Lg p v r j (j+1) part w:=by
 have e:∀x:Int,px x j (j+1)=px x j j:=fun x=>by
  show(if j=j then px x j j else _)=_;rw[zF0 rfl]
 exact⟨by rw[e];exact h.d,by rw[e];exact h.u⟩
theorem Cb{p v r:Int}{j k:Nat}{part w g q:Int}(h:Lg p v r j k part w)(c:k≠j)(hg:p ∣ g*((j:Int)-k)-1)(hq:p ∣ q-part*(r-k)*g):Lg p v r j (k+1) q (w*g):=by
 have e:∀x:Int,px x j (k+1)=px x j k*(x-k):=fun x=>by
  show(if k=j then px x j k else px x j k*(x-k))=_;rw[zD0 c]
 obtain⟨a,ha⟩:=h.d;obtain⟨b,hb⟩:=h.u;obtain⟨d,hd⟩:=hg;obtain⟨f,hf⟩:=hq;refine⟨?_,?_⟩
 . rw[e];exact⟨f+a*(r-k)*g,by grind⟩
 . rw[e];exact⟨b*(g*((j:Int)-k))+d,by grind⟩
theorem BO{p g a:Int}(p1:1<p)(h:g*a % p=1):p ∣ g*a-1:=by
 have:=Int.emod_add_mul_ediv (g*a) p
 exact⟨g*a / p,by omega⟩
theorem qO(p x:Int):p ∣ x % p-x:=by
 have:=Int.emod_add_mul_ediv x p
 exact⟨-(x / p),by grind⟩
def zh:Sp:=fun vs H Q _=>∃(l:Addr)(xs:List Int)(r p:Int),vs=[.ref l,.int r,.int p]/\H l=some (.lst (xs.map V.int))/\xs.length<=500/\(xs.length:Int)<=p/\cw xs p/\Pm p/\p<2 ^ 30/\0<=r/\r<p/\∀H',Same H H'->Q (.int (val p xs r)) H'
theorem cR:FnScope ["_law_values","_law_r","_law_p","_law_total","_law_j","_law_part","_law_k"] ["_law_values","_law_r","_law_p"] (ak jd):=⟨rfl,rfl,rfl,by decide,rfl,by decide,by decide⟩
theorem uB {f:Addr} {fd:FuncData} (F:Fun K "_law_value" "_law_value" jd f fd) (B:Bl mg) (dw:Cal P w K mg base 1 "_law_inverse" ["_law_a","_law_p"] tY):FnOk P w K mg base CX0 2 f fd ["_law_values","_law_r","_law_p"] zh:=by
 refine F.ok cR (fun vs H Q E h=>?_) (fun cdv A outer s H vs Q E hr h=>?_)
 . obtain⟨l,xs,r,p,rfl,_⟩:=h;rfl
 obtain ⟨l,xs,r,p,rfl,hl,x5,xp,xo,pm,p30,r0,r1,q⟩:=h;have p1:=pm.1;refine⟨_,(ad (au (i:=3) cR.nd rfl (Or.inl rfl) ae)
  (ad (cD PassesOwn.never rfl (bY rfl B.range (aa (aD az rfl B.len PySem.boot_len (aa (pv 0) ac)) ac)) (aQ (i:=4) cR.nd rfl (Or.inl rfl)) (ad (au (i:=5) cR.nd rfl (Or.inl rfl) (aJ ix_list (pv 0) (pv 4) (fun _ _=>rfl)))
   (ad (cD PassesOwn.never rfl (bY rfl B.range (aa (aD az rfl B.len PySem.boot_len (aa (pv 0) ac)) ac)) (aQ (i:=6) cR.nd rfl (Or.inl rfl)) (ag (aX (av nK (pv 6) (pv 4) (ay _)) (ag (au (i:=5) cR.nd rfl (Or.inl rfl) (aj aW (aj bn (aj aW (aj bn (pv 5) (aj bd (pv 1) (pv 6))) (pv 2)) (al dw hr (by decide) rfl (aa (aj bd (pv 4) (pv 6)) (aa (pv 2) ac)))) (pv 2)))) aI)))
   (ag (au (i:=3) cR.nd rfl (Or.inl rfl) (aj aN (pv 3) (pv 5)))))))
  (ag (ax (aj aW (pv 3) (pv 2)))))),?_⟩
 have ll:(((xs.map V.int).length:Nat):Int)=(xs.length:Int):=by rw[zE0]
 have x0:∀j,0<=xs.getD j 0/\xs.getD j 0<p:=fun j=>by
  rw[qM0];cases e:xs[j]? with
  | none=>exact⟨Int.le_refl _,by show(0:Int)<p;omega⟩
  | some v=>exact xo v (zZ0 e)
 refine ⟨_,rfl,l,_,rfl,.inl (zG0 hl),_,rfl,by omega,by omega,fO (fun i σ H'=>∃(t:Int)(u:Nat->Int)(x4 x5 x6:Option V),σ=[some (.ref l),some (.int r),some (.int p),some (.int t),x4,x5,x6]/\(∀j,j<i->p ∣ px (j:Int) j xs.length*u j-1)/\p ∣ t-sm (fun j=>xs.getD j 0*px r j xs.length*u j) i/\Same H H')
  ⟨0,fun _=>0,_,_,_,rfl,(fun j hj=>by omega),⟨0,by simp [sm]⟩,Same.refl _⟩ ?_ ?_⟩
 . rintro i σ H1 hi ⟨t,u,y4,y5,y6,rfl,hu,ht,S1⟩;have hi':i<xs.length:=by
    rw[ll]at hi;omega
   have ei:(0:Int)+(i:Int)=(i:Int):=by omega
   refine ⟨_,rfl,_,rfl,l,_,_,_,rfl,rfl,zG0 (S1 _ _ hl),by rw[ei];exact qU hi',?_⟩;refine⟨_,rfl,l,_,rfl,.inl (zG0 (S1 _ _ hl)),_,rfl,by omega,by omega,fO (fun k σ H'=>∃(part w:Int)(y6:Option V),σ=[some (.ref l),some (.int r),some (.int p),some (.int t),some (.int (0+(i:Int))),some (.int part),y6]/\0<=part/\part<p/\Lg p (xs.getD i 0) r i k part w/\Same H H')
    ⟨_,1,_,rfl,(x0 i).1,(x0 i).2,⟨⟨0,by simp [px]⟩,⟨0,by simp [px]⟩⟩,S1⟩ ?_ ?_⟩
   . rintro k σ H2 hk ⟨part,w,y6,rfl,pa0,pa1,lg,S2⟩;have hk':k<xs.length:=by
      rw[ll]at hk;omega
     have ek:(0:Int)+(k:Int)=(k:Int):=by omega
     refine⟨_,rfl,_,rfl,rfl,_,rfl,?_⟩
     by_cases c:k=i
     . refine eU (by rw[c]) ?_;subst c;exact⟨part,w,_,rfl,pa0,pa1,Cc lg,S2⟩
     . refine iteN' (fun e=>c (by have:=V.int.inj e;omega)) ?_;have nd:¬ p ∣ (0:Int)+(i:Int)-(0+(k:Int)):=fun z=>by
        by_cases c2:k<i
        . have:=Int.le_of_dvd (by omega) z
          omega
        . have:=Int.le_of_dvd (by omega) (Int.dvd_neg.mpr z)
          omega
       refine⟨_,rfl,_,rfl,_,rfl,_,_,rfl,rfl,_,_,rfl,rfl,.inl ⟨by omega,by omega⟩,_,rfl,_,_,rfl,rfl,(show 0<p by omega),_,rfl,_,rfl,_,_,rfl,rfl,_,rfl,_,p,rfl,pm,p30,nd,fun g H3 S3 g0 g1 g2=>?_⟩;refine⟨_,_,rfl,rfl,.inr ⟨by omega,by omega⟩,_,rfl,_,_,rfl,rfl,(show 0<p by omega),?_⟩;have hg:=BO p1 g2;rw[ei,ek]at hg;refine⟨_,w*g,_,rfl,qB0 _ (by omega),qC0 _ (by omega),Cb lg c hg ?_,S2.trans S3⟩;obtain⟨a,ha⟩:=qO p (part*(r-(0+(k:Int))));obtain⟨b,hb⟩:=qO p (part*(r-(0+(k:Int))) % p*g);refine⟨b+a*g,?_⟩;rw[ek]at ha hb ⊢
       grind
   . rintro σ H2 ⟨part,w,y6,rfl,pa0,pa1,lg,S2⟩;rw[ll,qV0]at lg;refine⟨_,rfl,_,rfl,_,_,rfl,rfl,?_⟩;refine⟨t+part,fun j=>if j=i then w else u j,_,_,_,rfl,fun j hj=>?_,?_,S2⟩
     . show p ∣ px (j:Int) j xs.length*(if j=i then w else u j)-1
       by_cases c:j=i
       . rw[zF0 c,c];exact lg.u
       . rw[zD0 c];exact hu j (by omega)
     . show p ∣ t+part-(sm (fun j=>xs.getD j 0*px r j xs.length*(if j=i then w else u j)) i+xs.getD i 0*px r i xs.length*(if i=i then w else u i))
       rw[zF0 rfl,jL i (g:=fun j=>xs.getD j 0*px r j xs.length*u j) (fun j hj=>by rw[zD0 (by omega)])];obtain⟨a,ha⟩:=ht;obtain⟨b,hb⟩:=lg.d;exact⟨a+b,by grind⟩
 . rintro σ H1 ⟨t,u,y4,y5,y6,rfl,hu,ht,S1⟩;rw[ll,qV0]at hu ht;refine⟨_,rfl,_,rfl,_,_,rfl,rfl,(show 0<p by omega),?_⟩;have e:t % p=val p xs r:=yQ pm xp hu (qB0 _ (by omega)) (qC0 _ (by omega)) (by
    obtain⟨a,ha⟩:=ht;obtain⟨b,hb⟩:=qO p t;refine⟨a+b,?_⟩;unfold lag
    grind)
   show Q (.int (t % p)) H1;rw[e];exact q _ S1
end
section
variable {C CG:Addr}
theorem rS(s p:Int):∀l:List Int,dA s (l.map fun x=>x % p) % p=dA s l % p
 | []=>rfl
 | a::r=>by
   have ih:=rS s p r;have e1:dA s ((a::r).map fun x=>x % p)=a % p+s*dA s (r.map fun x=>x % p):=rfl;have e2:dA s (a::r)=a+s*dA s r:=rfl;rw[e1,e2,Int.add_emod,Int.emod_emod,Int.mul_emod,ih,←Int.mul_emod,←Int.add_emod]
theorem nU{ns:List Str}{ts:List Tr}{s p:Int}:hor s p (ts.map fun t=>cy ns [t] 0 p [])=cy ns ts s p []:=by
 have e:(ts.map fun t=>cy ns [t] 0 p [])=(ts.map fun t=>((bE ns.length).map fun st=>t.worth ns st p).sum).map fun x=>x % p:=by
  rw[List.map_map];refine List.map_congr_left fun t _=>?_
  show((bE (ns.length-0)).map fun st=>dA 0 [t.worth ns ([]++st) p]).sum % p=_
  have:(fun st:List Int=>dA 0 [t.worth ns ([]++st) p])=fun st=>t.worth ns st p:=by
   funext st
   show t.worth ns st p+0*dA 0 []=_;rw[Int.zero_mul,Int.add_zero]
  rw[this];rfl
 rw[iS,e,rS,nB];rfl
theorem b5:FnScope ["_law_n","_law_found","_law_k","_law_longer","_law_setting"] ["_law_n"] (ak fo):=⟨rfl,rfl,rfl,by decide,rfl,by decide,by decide⟩
theorem oN {f:Addr} {fd:FuncData} (F:Fun K "_law_settings" "_law_settings" fo f fd) (hrange:mg "range"=none):FnOk P w K mg base CX0 1 f fd ["_law_n"] vQ:=by
 refine F.ok b5 (fun vs H Q E h=>?_) (fun cdv A outer s H vs Q E hr h=>?_)
 . obtain⟨n,rfl,_⟩:=h;rfl
 obtain ⟨n,rfl,n0,n6,q⟩:=h;refine⟨_,(ad (au (i:=1) b5.nd rfl (Or.inl rfl) (bo (aa (aY ac) ac)))
  (ad (cD PassesOwn.never rfl (bY rfl hrange (aa (pv 0) ac)) (aQ (i:=2) b5.nd rfl (Or.inl rfl)) (ad (au (i:=3) b5.nd rfl (Or.inl rfl) (bo ac))
   (ad (cD PassesOwn.never rfl (dG (pv 1)) (aQ (i:=4) b5.nd rfl (Or.inl rfl)) (ag (au (i:=3) b5.nd rfl (Or.inl rfl) (aj dI (pv 3) (bo (aa (aj (op_catT.or kq) (pv 4) (aY (aa ae ac))) (aa (aj (op_catT.or kq) (pv 4) (aY (aa ae ac))) ac)))))))
   (ag (au (i:=1) b5.nd rfl (Or.inl rfl) (pv 3))))))
  (ag (ax (pv 1))))),?_⟩
 refine⟨(by show 0<=sizeLine;decide),fun p hp=>?_⟩;have Ip:=zB0 hp (.tup []);have gp:upd H p (.tup []) p=some (.tup []):=ah;generalize upd H p (.tup [])=H1 at Ip gp;refine⟨(by show 1<=sizeLine;decide),fun a ha=>?_⟩;have Ia:=zB0 ha (.lst [.ref p]);have ga:upd H1 a (.lst [.ref p]) a=some (.lst [.ref p]):=ah;generalize upd H1 a (.lst [.ref p])=H2 at Ia ga;have S02:=Ip.trans Ia;refine⟨_,rfl,n,rfl,by omega,by omega,fO (fun i σ H'=>∃(r:Addr)(x2 x3 x4:Option V),σ=[some (.int n),some (.ref r),x2,x3,x4]/\H r=none/\Same H H'/\AZ H' r (bE i)) ⟨a,_,_,_,rfl,Ip.free ha,S02,[.ref p],ga,.cons ⟨p,rfl,Ia _ _ gp⟩ .nil⟩ ?_ ?_⟩
 . rintro i σ H3 hi ⟨r,x2,x3,x4,rfl,r0,S3,rs,hrs,T⟩;have i6:i<6:=by omega
   have rl:=T.length;have sl:=pj i;have s32:2 ^ i<=32:=by
    have:i=0∨i=1∨i=2∨i=3∨i=4∨i=5:=by omega
    rcases this with h | h | h | h | h | h <;> subst h <;> decide
   refine⟨(by show 0<=sizeLine;decide),fun b hb=>?_⟩;have Ib:=zB0 hb (.lst []);have gb:upd H3 b (.lst []) b=some (.lst []):=ah;have b0:H b=none:=S3.free hb;generalize upd H3 b (.lst [])=H4 at Ib gb;refine⟨_,rfl,r,rfl,⟨_,zG0 (Ib _ _ hrs)⟩,cY (K:=K) (xs:=rs) (fun j σ H'=>∃(c:Addr)(x4:Option V)(bs:List V),σ=[some (.int n),some (.ref r),some (.int (0+(i:Int))),some (.ref c),x4]/\H c=none/\Same H4 H'/\H' c=some (.lst bs)/\TupsAt H' bs (((bE i).take j).flatMap fun s=>[s++[0],s++[1]])) ⟨b,_,_,rfl,b0,Same.refl _,gb,.nil⟩ (fun j σ H' _ hst=>by obtain⟨_,_,_,_,_,h,_⟩:=hst;exact zG0 (h _ _ (Ib _ _ hrs))) ?_ ?_⟩
   . rintro j v σ H5 hv ⟨c,y4,bs,rfl,c0,S5,hc,TB⟩;have T5:TupsAt H5 rs (bE i):=T.mono (aB (Ib.trans S5));obtain⟨s,hs,t,rfl,ht⟩:=T5.get hv;have hsl:=gJ i s (zZ0 hs);have hbl:=TB.length;rw[kU,qJ0]at hbl;refine⟨_,rfl,_,rfl,(by show 1<=sizeLine;decide),fun p1 hp1=>?_⟩;have S6:=zB0 hp1 (.tup [.int 0]);refine sZ (s:=s) (z:=0) (S6 _ _ ht) ah (by omega) fun t1 H7 S7 e7=>?_
     have S57:=S6.trans S7;refine⟨_,rfl,(by show 1<=sizeLine;decide),fun p2 hp2=>?_⟩;have S8:=zB0 hp2 (.tup [.int 1]);refine sZ (s:=s) (z:=1) (S8 _ _ (S57 _ _ ht)) ah (by omega) fun t2 H9 S9 e9=>?_
     have S59:=S57.trans (S8.trans S9);refine⟨(by show 2<=sizeLine;decide),fun q2 hq2=>?_⟩;have Iq:=zB0 hq2 (.lst [.ref t1,.ref t2]);have gq:upd H9 q2 (.lst [.ref t1,.ref t2]) q2=some (.lst [.ref t1,.ref t2]):=ah;generalize upd H9 q2 (.lst [.ref t1,.ref t2])=H10 at Iq gq;refine⟨c,q2,_,_,rfl,rfl,Iq _ _ (S59 _ _ hc),gq,cL (by show bs.length+2<=1000;omega),fun c2 hc2=>?_⟩;have Ic:=zB0 hc2 (.lst (bs++[.ref t1,.ref t2]));have S5E:=S59.trans (Iq.trans Ic);have S7E:=(S8.trans S9).trans (Iq.trans Ic);have c20:H c2=none:=(S3.trans (Ib.trans (S5.trans (S59.trans Iq)))).free hc2;refine⟨c2,_,bs++[.ref t1,.ref t2],rfl,c20,S5.trans S5E,ah,?_⟩;have hbase:TupsAt (upd H10 c2 (.lst (bs++[.ref t1,.ref t2]))) bs (((bE i).take j).flatMap fun s=>[s++[0],s++[1]]):=TB.mono (aB S5E);rw[qI0,hs,List.flatMap_append];have e:((some s).toList.flatMap fun s:List Int=>[s++[0],s++[1]])=[s++[0]]++[s++[1]]:=by simp
     rw[e,←List.append_assoc];have hs2:=(hbase.snoc ⟨t1,rfl,S7E _ _ e7⟩).snoc ⟨t2,rfl,(Iq.trans Ic) _ _ e9⟩;rw[show bs++[V.ref t1]++[V.ref t2]=bs++[V.ref t1,V.ref t2] by simp]at hs2;exact hs2
   . rintro σ H5 ⟨c,y4,bs,rfl,c0,S5,hc,TB⟩;rw[rl,qG0]at TB;exact⟨_,rfl,c,_,_,_,rfl,c0,S3.trans (Ib.trans S5),bs,hc,TB⟩
 . rintro σ H3 ⟨r,x2,x3,x4,rfl,r0,S3,R⟩;exact⟨_,rfl,q r H3 r0 S3 R⟩
def tS:Sp:=fun vs H Q _=>∃(cb:Bool)(a b c:Addr)(ns:List Str)(tv:List V)(ts:List Tr)(pt:List Int)(s p:Int),vs=[.ref a,.ref b,.int s,.ref c,.int p]/\H a=some (.tup (ns.map V.str))/\ns.length<=6/\SeqB cb H b tv/\TreesAt H tv ts/\ts.length<=10/\(∀t∈ts,t.ok ns/\t.depth<=10)/\
 H c=some (.tup (pt.map V.int))/\pt.length<=ns.length/\cw pt p/\1<p/\p<2 ^ 40/\∀H',Same H H'->Q (.int (cy ns ts s p pt)) H'
theorem iG:FnScope ["_law_names_here","_law_trees","_law_s","_law_point","_law_p","_law_total","_law_setting","_law_worths"] ["_law_names_here","_law_trees","_law_s","_law_point","_law_p"] (ak lW):=⟨rfl,rfl,rfl,by decide,rfl,by decide,by decide⟩
theorem zX {f:Addr} {fd:FuncData} (F:Fun K "_law_sum" "_law_sum" lW f fd) (B:Bl mg) (iH:Cal P w K mg base 1 "_law_settings" ["_law_n"] vQ) (cp:Cal P w K mg base 12 "_law_worth" ["_law_tree_here","_law_names_here","_law_point","_law_p"] (tX 10)) (d8:Cal P w K mg base 1 "_law_mix" ["_law_numbers","_law_s","_law_p"] qe):FnOk P w K mg base CX0 13 f fd ["_law_names_here","_law_trees","_law_s","_law_point","_law_p"] tS:=by
 refine F.ok iG (fun vs H Q E h=>?_) (fun cdv A outer s H vs Q E hr h=>?_)
 . obtain⟨cb,a,b,c,ns,tv,ts,pt,s,p,rfl,_⟩:=h;rfl
 obtain ⟨cb,a,b,c,ns,tv,ts,pt,s,p,rfl,ha,nl,hb,TS,t10,tok,hc,pl,po,p1,p40,q⟩:=h;refine⟨_,(ad (au (i:=5) iG.nd rfl (Or.inl rfl) ae)
  (ad (cD PassesOwn.never rfl (dG (al iH hr (by decide) rfl (aa (aj bd (aD az rfl B.len PySem.boot_len (aa (pv 0) ac)) (aD az rfl B.len PySem.boot_len (aa (pv 3) ac))) ac))) (aQ (i:=6) iG.nd rfl (Or.inr rfl))
   (ad (kh (i:=7) (N:=["_law_setting","_law_point","_law_p","_law_names_here"]) (ix:=[6,3,4,0]) iG.nd rfl (Or.inl rfl) rfl
    (CompScope.four (by rfl') (by decide) rfl (by decide) rfl (by decide) rfl (by rfl') (by rfl') (by rfl') (by rfl') (by rfl') (by rfl') rfl rfl (by rfl') rfl rfl (by rfl') rfl rfl (by rfl') rfl rfl) rfl
    (zN (pv 1)) (fun _ _ _=>bZ (al cp hr (by decide) rfl (aa (pv 0) (aa (pv 4) (aa (aj (wx K) (pv 2) (pv 1)) (aa (pv 3) ac)))))))
   (ag (au (i:=5) iG.nd rfl (Or.inl rfl) (aj aN (pv 5) (al d8 hr (by decide) rfl (aa (pv 7) (aa (pv 2) (aa (pv 4) ac)))))))))
  (ag (ax (aj aW (pv 5) (pv 4)))))),?_⟩
 refine⟨_,rfl,a,_,rfl,.inr (zC0 ha),_,rfl,c,_,rfl,.inr (zC0 hc),_,_,rfl,rfl,?_⟩;refine⟨_,rfl,by rw[zE0,zE0];exact(DF pl nl).1,by rw[zE0,zE0];exact(DF pl nl).2.1,fun r H2 r0 S2 R2=>?_⟩;have en:((((ns.map V.str).length:Nat):Int)-(((pt.map V.int).length:Nat):Int)).toNat=ns.length-pt.length:=by rw[zE0,zE0];exact(DF pl nl).2.2
 rw [en]at R2;obtain⟨rs,hrs,TB⟩:=R2;have rl:=TB.length;have vl:=TS.length;have p0:0<p:=Int.lt_trans Int.zero_lt_one p1;refine⟨r,rfl,⟨_,zG0 hrs⟩,cY (K:=K) (xs:=rs) (fun j σ H'=>∃(x6 x7:Option V),σ=[some (.ref a),some (.ref b),some (.int s),some (.ref c),some (.int p),some (.int (((bE (ns.length-pt.length)).take j).map fun st=>hor s p (ts.map fun t=>t.worth ns (pt++st) p)).sum),x6,x7]/\Same H2 H')
  ⟨_,_,rfl,Same.refl _⟩ (fun j σ H' _ hst=>by obtain⟨_,_,_,h⟩:=hst;exact zG0 (h _ _ hrs)) ?_ ?_⟩
 . rintro j z σ H3 hz ⟨x6,x7,rfl,S3⟩;have TB3:=TB.mono (aB S3);obtain⟨st,hst,d,rfl,hd⟩:=TB3.get hz;have stm:=zZ0 hst;have stl:=gJ _ _ stm;have s01:=mX _ _ stm;have S03:=S2.trans S3;have po2:cw (pt++st) p:=pt01 po p1 s01;have pl2:(pt++st).length=ns.length:=by rw[zR0];omega
   refine⟨_,rfl,cb,b,rfl,⟨_,(hb.same S03).sq⟩,fun D hD=>?_⟩;refine ox (K:=K) (c:=cb) (xs:=tv) (fun i H'=>H' D=some (.lst (((ts.take i).map fun t=>t.worth ns (pt++st) p).map V.int))/\Same H3 H') ⟨by rw[ah];rfl,zB0 hD _⟩ (fun i H' _ h=>((hb.same S03).same h.2).sq) ?_ ?_
   . rintro i v H4 hv ⟨hl,S4⟩;obtain⟨t,ht,Tt⟩:=TS.get hv;obtain⟨tk,td⟩:=tok t (zZ0 ht);have hi:i<tv.length:=(zT0 hv).1;have S04:=S03.trans S4;refine⟨_,rfl,_,rfl,_,rfl,_,rfl,?_⟩;refine wR (S04 _ _ hc) (S4 _ _ hd) (by omega) fun y H5 S5 hy=>?_
     have S05:=S04.trans S5;refine⟨_,rfl,v,t,a,y,ns,pt++st,p,rfl,Tt.mono (aB S05),tk,td,.inr (S05 _ _ ha),hy,pl2,p1,p40,po2,fun H6 S6=>?_⟩;refine⟨_,S6 _ _ (S5 _ _ hl),?_,Nx.of hi ⟨?_,fun b' o' e'=>?_⟩⟩
     . rw[zE0,zE0,qJ0];exact aK (by omega)
     . rw[ah,qI0,ht,zK0,zK0];rfl
     . rw[aq (ai e' hD)];exact S6 _ _ (S5 _ _ (S4 _ _ e'))
   . rintro H4 ⟨hl,S4⟩;rw[vl,qG0]at hl;refine⟨_,rfl,_,rfl,_,rfl,_,rfl,D,_,s,p,rfl,hl,p0,p40,fun H5 S5=>?_⟩;refine⟨_,_,rfl,rfl,?_⟩;refine⟨some (.ref d),some (.ref D),?_,S3.trans (S4.trans S5)⟩;have e:((bE (ns.length-pt.length)).take (j+1))=(bE (ns.length-pt.length)).take j++[st]:=by
      rw[qI0,hst];rfl
     rw[e,zK0,List.sum_append,List.map_singleton];show _=[_,_,_,_,_,some (V.int (_+List.sum [_])),_,_]
     rw[show List.sum [hor s p (ts.map fun t=>t.worth ns (pt++st) p)]=hor s p (ts.map fun t=>t.worth ns (pt++st) p) by simp];rfl
 . rintro σ H3 ⟨x6,x7,rfl,S3⟩;rw[rl,qG0];refine⟨_,rfl,_,rfl,_,_,rfl,rfl,p0,?_⟩;have e:(((bE (ns.length-pt.length)).map fun st=>hor s p (ts.map fun t=>t.worth ns (pt++st) p)).sum) % p=cy ns ts s p pt:=by
    unfold cy;have this:(fun st:List Int=>hor s p (ts.map fun t=>t.worth ns (pt++st) p))=fun st=>dA s (ts.map fun t=>t.worth ns (pt++st) p) % p:=by
     funext st
     exact iS s p _
    rw[this];exact vM p _ _
   show Q (.int ((((bE (ns.length-pt.length)).map fun st=>hor s p (ts.map fun t=>t.worth ns (pt++st) p)).sum) % p)) H3;rw[e];exact q H3 (S2.trans S3)
def vO:Sp:=fun vs H Q _=>∃(a b c:Addr)(ns:List Str)(tv:List V)(ts:List Tr)(cs:List Int)(s p:Int),vs=[.ref a,.ref b,.int s,.ref c,.int p]/\H a=some (.tup (ns.map V.str))/\ns.length<=6/\H b=some (.tup tv)/\TreesAt H tv ts/\GmK ns ts p/\H c=some (.lst (cs.map V.int))/\cs.length<ns.length/\cw cs p/\
 ∀(l:Addr) (H':Hp),H l=none->Same H H'->H' l=some (.lst ((jw ns ts s p cs (bj ts (ns.getD cs.length "")+1).toNat).map V.int))->Q (.ref l) H'
theorem A4:FnScope ["_law_names_here","_law_trees","_law_s","_law_coins","_law_p","_law_many"] ["_law_names_here","_law_trees","_law_s","_law_coins","_law_p"] (ak jP):=⟨rfl,rfl,rfl,by decide,rfl,by decide,by decide⟩
theorem xM {f:Addr} {fd:FuncData} (F:Fun K "_law_true" "_law_true" jP f fd) (B:Bl mg) (dR:Cal P w K mg base 13 "_law_degrees" ["_law_names_here","_law_trees"] tZ) (ib:Cal P w K mg base 13 "_law_sum" ["_law_names_here","_law_trees","_law_s","_law_point","_law_p"] tS):FnOk P w K mg base CX0 14 f fd ["_law_names_here","_law_trees","_law_s","_law_coins","_law_p"] vO:=by
 refine F.ok A4 (fun vs H Q E h=>?_) (fun cdv A outer s H vs Q E hr h=>?_)
 . obtain⟨a,b,c,ns,tv,ts,cs,s,p,rfl,_⟩:=h;rfl
 obtain ⟨a,b,c,ns,tv,ts,cs,s,p,rfl,ha,nl,hb,TS,k,hc,cl,po,q⟩:=h;refine⟨_,(ad (au (i:=5) A4.nd rfl (Or.inl rfl) (aj aN (aJ ix_list (al dR hr (by decide) rfl (aa (pv 0) (aa (pv 1) ac))) (aD az rfl B.len PySem.boot_len (aa (pv 3) ac)) (fun _ _=>rfl)) ae))
  (ag (ax (cz (N:=["_law_trees","_law_s","_law_p","_law_names_here","_law_coins"]) (ix:=[1,2,4,0,3]) rfl
   (CompScope.five (by rfl') (by decide) rfl (by decide) rfl (by decide) rfl (by rfl') (by rfl') (by rfl') (by rfl') (by rfl') (by rfl') (by rfl') rfl rfl (by rfl') rfl rfl (by rfl') rfl rfl (by rfl') rfl rfl (by rfl') rfl rfl) rfl
   (bY rfl B.range (aa (pv 5) ac)) (fun _ _ _=>bZ (al ib hr (by decide) rfl (aa (pv 4) (aa (pv 1) (aa (pv 2) (aa (aj (wx K) (bO (iW K) rfl B.tuple bX (aa (pv 5) ac)) (aY (aa (pv 0) ac))) (aa (pv 3) ac))))))))))),?_⟩
 have p2:=k.p2;have p9:=k.p9;have t1:=k.t1;have hx:ns.getD cs.length ""∈ns:=by
  rw[qM0,zU0 cl];exact qR0 cl
 have dr:=k.deg _ hx;have d4:=rb k (ns.getD cs.length "");refine⟨_,rfl,_,rfl,a,b,ns,tv,ts,rfl,ha,hb,TS,(fun z=>by rw[z]at t1;cases t1),k.t10,by omega,fun t ht=>(k.tok t ht).2,fun l H1 l0 S1 hl1=>?_⟩;refine⟨_,rfl,c,_,rfl,.inl (zG0 (S1 _ _ hc)),l,_,_,_,rfl,rfl,zG0 hl1,by rw[zE0,qU (by rw[zE0];exact cl),wL cl],_,_,rfl,rfl,?_⟩;refine⟨_,rfl,_,rfl,by omega,by omega,fun D hD=>?_⟩;have D0:H D=none:=S1.free hD;refine cS (fun i H'=>H' D=some (.lst ((jw ns ts s p cs i).map V.int))/\Same H1 H') ⟨by rw[ah];rfl,zB0 hD _⟩ ?_ ?_
 . rintro i H2 hi ⟨hl,S2⟩;have S02:=S1.trans S2;have id:(i:Int)<=bj ts (ns.getD cs.length ""):=by omega
   refine⟨_,rfl,_,rfl,_,rfl,_,rfl,c,_,rfl,.inl ⟨zG0 (S02 _ _ hc),fun t1 ht1=>?_⟩⟩;have I1:=zB0 ht1 (.tup (cs.map V.int));have g1:upd H2 t1 (.tup (cs.map V.int)) t1=some (.tup (cs.map V.int)):=ah;generalize upd H2 t1 (.tup (cs.map V.int))=H3 at I1 g1;refine⟨_,rfl,(by show 1<=sizeLine;decide),fun t2 ht2=>?_⟩;have I2:=zB0 ht2 (.tup [.int (0+(i:Int))]);refine wR (xs:=cs) (ys:=[0+(i:Int)]) (I2 _ _ g1) ah (by simp;omega) fun y H4 S4 hy=>?_
   have S24:=I1.trans (I2.trans S4);have S04:=S02.trans S24;refine⟨_,rfl,false,a,b,y,ns,tv,ts,cs++[0+(i:Int)],s,p,rfl,S04 _ _ ha,nl,S04 _ _ hb,TS.mono (aB S04),k.t10,fun t ht=>⟨(k.tok t ht).1,(k.tok t ht).2.2.1⟩,hy,by rw[zR0,qT0];omega,rQ po (fun x hx=>by rw[zQ0 hx];omega),by omega,by omega,fun H5 S5=>?_⟩;refine⟨_,S5 _ _ (S24 _ _ hl),?_,Nx.of hi ⟨?_,fun b' o' e'=>?_⟩⟩
   . rw[zE0];unfold jw;rw[zE0,qP0];exact aK (by omega)
   . rw[ah];unfold jw;rw[List.range_succ,zK0,zK0,show(0:Int)+(i:Int)=(i:Int) by omega];rfl
   . rw[aq (ai e' hD)];exact S5 _ _ (S24 _ _ (S2 _ _ e'))
 . rintro H2 ⟨hl,S2⟩;exact q D H2 D0 (S1.trans S2) hl
end
section
variable {C CG:Addr}
theorem pw{ns:List Str}{ts:List Tr}{s p:Int}(hp:0<p)(cs:List Int):0<=cy ns ts s p cs/\cy ns ts s p cs<p:=⟨qB0 _ (by omega),qC0 _ hp⟩
theorem Bw{ns:List Str}{ts:List Tr}{s p:Int}(hp:0<p)(cs:List Int)(n:Nat):cw (jw ns ts s p cs n) p:=fun x hx=>by
 unfold jw at hx;obtain⟨k,_,rfl⟩:=List.mem_map.mp hx;exact pw hp _
theorem zF{ns:List Str}{ts:List Tr}{s p:Int}(cs:List Int)(n:Nat):(jw ns ts s p cs n).length=n:=by
 unfold jw;rw[zE0,qP0]
end
section
variable {C CG:Addr}
theorem As (o:Str):inV (.str o) [.str "is",.str "yes",.str "no"]=(decide (o="is")||(decide (o="yes")||decide (o="no"))):=by
 show (("is"==o)||(("yes"==o)||(("no"==o)||false)))=_;rw[Bool.or_false];have e:∀z:Str,(z==o)=decide (o=z):=fun z=>by
  by_cases c:o=z
  . subst c;simp
  . rw[decide_eq_false c];simpa using fun h=>c h.symm
 rw[e,e,e]
theorem xw:FnScope ["_law_tree_here"] ["_law_tree_here"] (ak iK):=⟨rfl,rfl,rfl,by decide,rfl,by decide,by decide⟩
theorem uX {n:Nat} {f:Addr} {fd:FuncData} (F:Fun K "_law_size" "_law_size" iK f fd) (B:Bl mg) (iI:Cal P w K mg base (n+2) "_law_size" ["_law_tree_here"] (eX n)):FnOk P w K mg base CX0 (n+3) f fd ["_law_tree_here"] (eX (n+1)):=by
 refine F.ok xw (fun vs H Q E h=>?_) (fun cdv A outer s H vs Q E hr h=>?_)
 . obtain⟨v,t,rfl,_⟩:=h;rfl
 obtain ⟨v,t,rfl,T,wf,dn,sz,q⟩:=h;refine⟨_,(ad (aX (av jt (aJ aZ (pv 0) ae (fun _ _=>rfl)) (aY (aa aG (aa aG (aa aG ac)))) (by rfl')) (ag (ax ae)) aI)
  (ag (ax (aj aN ae (aD (kB rfl) rfl B.sum PyProof.Rows.boot_sum (aa (cz (N:=[]) (ix:=[]) (cl:=[]) rfl (CompScope.closed (by rfl') (by decide) rfl (by decide) rfl (by rfl')) rfl
  (dk (dH qi (pv 0) (eQ ae) gH)) (fun _ _ _=>bZ (al iI hr (zI0 _) rfl (aa (pv 0) ac)))) ac)))))),?_⟩
 have leaf:∀(a:Addr) (o:Str) (xs:List V),H a=some (.tup (.str o::xs))->(o="is"∨o="yes"∨o="no")->t.size=1->v=.ref a->True:=fun _ _ _ _ _ _ _=>trivial
 rcases T.view wf with⟨a,x,rfl,rfl,_,e⟩ | ⟨a,o,xs,rfl,no,xl0,e,TS0,_⟩
 . refine ⟨_,rfl,a,_,0,_,rfl,rfl,zC0 e,rfl,(by show 3<=sizeLine;decide),fun c hc=>?_⟩;have G:=zB0 hc (.tup [.str "is",.str "yes",.str "no"]);refine⟨c,_,rfl,.inr (zC0 ah),rfl,rfl,_,rfl,?_⟩;have e0:inV (.str "is") [.str "is",.str "yes",.str "no"]=true:=by rw[As];decide
   show if inV (.str "is") [.str "is",.str "yes",.str "no"]=true then _ else _
   rw[e0];refine fE ?_;exact q _ G
 . refine ⟨_,rfl,a,_,0,.str o,rfl,rfl,zC0 e,at0 ..,(by show 3<=sizeLine;decide),fun c hc=>?_⟩;have G:=zB0 hc (.tup [.str "is",.str "yes",.str "no"]);refine⟨c,_,rfl,.inr (zC0 ah),rfl,rfl,_,rfl,?_⟩;show if inV (.str o) [.str "is",.str "yes",.str "no"]=true then _ else _
   have sp:=t.size_parts
   by_cases w:o="yes"∨o="no"
   . have e0:inV (.str o) [.str "is",.str "yes",.str "no"]=true:=by
      rw[As];rcases w with rfl | rfl <;> decide
     rw [e0];refine fE ?_;have t1:t.size=1:=by
      cases T with
      | is e2=>rw[e]at e2;cases e2;exact absurd rfl no
      | yes _=>rfl
      | no _=>rfl
      | not e2 _=>rw[e]at e2;cases e2;exact absurd w (by decide)
      | bin e2 _ _=>
        rw[e]at e2;cases e2;obtain⟨ho,_,_⟩:=wf;rcases w with rfl | rfl <;> exact absurd ho (by decide)
     have:=q _ G
     rw[t1]at this;exact this
   . have e0:inV (.str o) [.str "is",.str "yes",.str "no"]=false:=by
      rw[As,decide_eq_false no,decide_eq_false (fun z=>w (.inl z)),decide_eq_false (fun z=>w (.inr z))];rfl
     rw[e0];refine eJ ?_;obtain⟨c1,c2⟩:=Eb (.str o) xs xl0;refine⟨_,rfl,1,rfl,a,_,rfl,zC0 (G _ _ e),c2,fun c' hc'=>?_⟩;rw[c1];have G1:=zB0 hc' (.tup xs);have S1:Same H (upd (upd H c (.tup [.str "is",.str "yes",.str "no"])) c' (.tup xs)):=G.trans G1;have hp:upd (upd H c (.tup [.str "is",.str "yes",.str "no"])) c' (.tup xs) c'=some (.tup xs):=ah;generalize upd (upd H c (.tup [.str "is",.str "yes",.str "no"])) c' (.tup xs)=H1 at S1 hp;have TS:=TS0.mono (aB S1);have xl:=TS.length;refine⟨c',rfl,⟨_,zC0 hp⟩,fun D hD=>?_⟩;refine cG (K:=K) (xs:=xs) (fun i H'=>H' D=some (.lst (((t.parts.take i).map fun u=>(u.size:Int)).map V.int))/\Same H1 H') ⟨by rw[ah];rfl,zB0 hD _⟩ (fun i H' _ h=>zC0 (h.2 _ _ hp)) ?_ ?_
     . rintro i x H2 hx ⟨hl,S2⟩;obtain⟨u,hu,Tu⟩:=TS.get hx;have um:=zZ0 hu;obtain⟨uw,ud,us⟩:=Tr.parts_mem um wf;have hi:i<xs.length:=(zT0 hx).1;refine⟨_,rfl,x,u,rfl,Tu.mono (aB S2),uw,by omega,by omega,fun H3 S3=>?_⟩;refine⟨_,S3 _ _ hl,?_,Nx.of hi ⟨?_,fun b o e=>?_⟩⟩
       . have:t.parts.length<=2:=by cases t <;> simp [Tr.parts]
         rw[zE0,zE0,qJ0];exact aK (by omega)
       . rw[ah,qI0,hu,zK0,zK0];rfl
       . rw[aq (ai e hD)];exact S3 _ _ (S2 _ _ e)
     . rintro H2 ⟨hl,S2⟩;rw[xl,qG0]at hl;have sc:=mV t.parts;refine⟨D,_,rfl,zG0 hl,?_,?_,?_⟩
       . intro n hn;obtain⟨u,_,rfl⟩:=List.mem_map.mp hn;omega
       . rw[sc];omega
       . rw [sc];refine⟨_,_,rfl,rfl,?_⟩;have e:(1:Int)+(fS t.parts:Int)=(t.size:Int):=by omega
         show Q (.int (1+(fS t.parts:Int))) H2;rw[e];exact q H2 (S1.trans S2)
theorem uW {f:Addr} {fd:FuncData}:FnOk P w K mg base CX0 2 f fd ["_law_tree_here"] (eX 0):=by
 have no:∀vs H Q E,¬ eX 0 vs H Q E:=fun vs H Q E h=>by
  obtain⟨v,t,_,_,_,h1,_⟩:=h
  have:=t.depth_pos
  omega
 exact⟨fun vs H Q E h=>absurd h (no vs H Q E),fun A outer s H args us vs Q E _ _ _ _ h=>absurd h (no vs H Q E)⟩
theorem pE {f:Addr} {fd:FuncData} (F:Fun K "_law_size" "_law_size" iK f fd) (B:Bl mg) (m:mg "_law_size"=some (.ref f)) :
 ∀n:Nat,FnOk P w K mg base CX0 (n+2) f fd ["_law_tree_here"] (eX n)
 | 0=>uW
 | n+1=>uX F B (Cal.of F (pE F B m n) m (fun _ _ _ _ _ _ us hl=>by obtain⟨u0,rfl⟩:=gw hl;rfl))
end
section
variable {C CG:Addr}
def lS(C:Addr):Sp:=fun vs H Q _=>∃(D g:Addr)(z:Db),vs=[.ref D]/\DbAt C H D g z/\∀(t u:Addr)(H':Hp),Same H H'->H' t=some (.tup [.ref u,.int z.ed,.int z.pl])->H' u=some (.tup (awV z.aw))->Q (.ref t) H'
theorem ug:FnScope ["_law_doubter"] ["_law_doubter"] (ak je):=⟨rfl,rfl,rfl,by decide,rfl,by decide,by decide⟩
theorem uC {f fU fW fL:Addr} {fd fdU fdW fdL:FuncData} (F:Fun K "_law_state" "_law_state" je f fd) (T:DTxt K mg C)
 (mU:Meth K C "due" fU) (GU:FnOk P w K mg base CX0 1 fU fdU ["self"] (tV C fun z v _=>v=.int z.ed)) (bU:Binds K fdU ["self"] [])
 (mW:Meth K C "waits" fW) (GW:FnOk P w K mg base CX0 1 fW fdW ["self"] (tV C fun z v H=>∃a,v=.ref a/\H a=some (.tup (awV z.aw)))) (bW:Binds K fdW ["self"] [])
 (mL:Meth K C "looked" fL) (GL:FnOk P w K mg base CX0 1 fL fdL ["self"] (tV C fun z v _=>v=.int z.pl)) (bL:Binds K fdL ["self"] []):FnOk P w K mg base CX0 2 f fd ["_law_doubter"] (lS C):=by
 refine F.ok ug (fun vs H Q E h=>?_) (fun cdv A outer s H vs Q E hr h=>?_)
 . obtain⟨D,g,z,rfl,_⟩:=h;rfl
 obtain⟨D,g,z,rfl,hd,q⟩:=h;refine⟨_,(ag (ax (aY (aa (eT (pv 0) T.cl mW GW hr bW .nil cH) (aa (eT (pv 0) T.cl mU GU hr bU .nil cH) (aa (eT (pv 0) T.cl mL GL hr bL .nil cH) ac)))))),?_⟩;obtain⟨dx,aA,aC,aH,aT,R⟩:=id hd;refine⟨_,rfl,D,dx,_,rfl,R.hD,CL,D,g,z,rfl,hd,fun v hv=>?_⟩;obtain⟨u,rfl,hu⟩:=hv;refine⟨_,rfl,D,dx,_,rfl,R.hD,CK,D,g,z,rfl,hd,fun v hv=>?_⟩;subst hv;refine⟨_,rfl,D,dx,_,rfl,R.hD,CJ,D,g,z,rfl,hd,fun v hv=>?_⟩;subst hv;refine⟨(by show 3<=sizeLine;decide),fun t ht=>?_⟩;have J:=zB0 ht (.tup [.ref u,.int z.ed,.int z.pl]);exact q t u _ J ah (J _ _ hu)
end
section
def mf(f:Addr)(H:Hp):Hp:=fun a=>if a=f then none else H a
theorem mf_sub{f:Addr}{H:Hp}:Same (mf f H) H:=fun a o e=>by
 unfold mf at e
 split at e
 . cases e
 . exact e
theorem io{f:Addr}{H H':Hp}(s:SameBut f H H'):Same (mf f H) (mf f H'):=fun a o e=>by
 unfold mf at e ⊢
 split at e
 . cases e
 . rename_i n;rw[zD0 n];exact s _ _ n e
theorem aR{f:Addr}{H H':Hp}(s:Same H H'):Same (mf f H) (mf f H'):=io (zJ0 s)
theorem gZ{f a:Addr}{H:Hp}{o:HO}(e:H a=some o)(n:a≠f):mf f H a=some o:=by
 unfold mf;rw[zD0 n];exact e
def AmAt (H:Hp) (v:V):Prop:=(∃n:Int,v=.int n/\-10<n/\n<1000000000000)∨(∃b:Bool,v=.bl b)∨v=.non∨v=.str "1"∨(∃a,v=.ref a/\H a=some (.tup []))∨∃a,v=.ref a/\H a=some (.lst [.int 0])
theorem AmAt.same{H H':Hp}{v:V}(h:AmAt H v)(s:Same H H'):AmAt H' v:=by
 rcases h with h | h | h | h | ⟨a,e,h⟩ | ⟨a,e,h⟩
 . exact .inl h
 . exact .inr (.inl h)
 . exact .inr (.inr (.inl h))
 . exact .inr (.inr (.inr (.inl h)))
 . exact .inr (.inr (.inr (.inr (.inl ⟨a,e,s _ _ h⟩))))
 . exact .inr (.inr (.inr (.inr (.inr ⟨a,e,s _ _ h⟩))))
theorem AmAt.num{H:Hp}{v:V}(h:AmAt H v):NumOr H v:=by
 rcases h with⟨n,h,_⟩ | ⟨b,rfl⟩ | rfl | rfl | ⟨a,rfl,h⟩ | ⟨a,rfl,h⟩
 . exact .inl ⟨n,h⟩
 . exact .inr (.bl b)
 . exact .inr .non
 . exact .inr (.str _)
 . exact .inr (.tup h)
 . exact .inr (.lst h)
theorem NoInt.same{H H':Hp}{v:V}(h:NoInt H v)(s:Same H H'):NoInt H' v:=by
 cases h with
 | bl b=>exact .bl b
 | non=>exact .non
 | str x=>exact .str x
 | lst e=>exact .lst (s _ _ e)
 | tup e=>exact .tup (s _ _ e)
theorem NumOr.same{H H':Hp}{v:V}(h:NumOr H v)(s:Same H H'):NumOr H' v:=by
 rcases h with h | h
 . exact .inl h
 . exact .inr (h.same s)
structure Fine(d:PyData):Prop where
 sh:d.showable=true
 hd:d.hasDict=false
 ln:d.shown.length<=40
 dp:d.depth<=1
theorem sM{n:Int}(h0:-10<n)(h1:n<1000000000000):Fine (.int n):=by
 by_cases c:0<=n
 . refine⟨decide_eq_true (pG c h1),rfl,?_,zN0 _⟩;exact zX0 (PyProof.Rows.toString_length_le c (k:=12) (by decide) (by show n<10 ^ 12;omega)) (by decide)
 . have:n=-1∨n=-2∨n=-3∨n=-4∨n=-5∨n=-6∨n=-7∨n=-8∨n=-9:=by omega
   rcases this with rfl | rfl | rfl | rfl | rfl | rfl | rfl | rfl | rfl <;> exact⟨by decide,rfl,by decide,zN0 _⟩
theorem AmAt.data{H:Hp}{v:V}(h:AmAt H v):∃d,(∀H',Same H H'->Rep K H' v d)/\Fine d:=by
 rcases h with⟨n,rfl,h0,h1⟩ | ⟨b,rfl⟩ | rfl | rfl | ⟨a,rfl,h⟩ | ⟨a,rfl,h⟩
 . exact⟨_,fun _ _=>.int n,sM h0 h1⟩
 . exact⟨_,fun _ _=>.bl b,by cases b <;> exact⟨by decide,by decide,by decide,by decide⟩⟩
 . exact⟨_,fun _ _=>.non,by decide,by decide,by decide,by decide⟩
 . exact⟨_,fun _ _=>.str _,by decide,by decide,by decide,by decide⟩
 . exact⟨_,fun _ s=>.tup (zC0 (s _ _ h)) .nil,by decide,by decide,by decide,by decide⟩
 . exact⟨_,fun _ s=>.lst (zG0 (s _ _ h)) (.cons (.int 0) .nil),by decide,by decide,by decide,by decide⟩
theorem AY{H:Hp}:∀xs:List V,(∀v∈xs,AmAt H v)->∃ds,(∀H',Same H H'->RepAll K H' xs ds)/\PyData.showableAll ds=true/\PyData.hasDictAll ds=false/\piled (PyData.shownAll ds)<=42*xs.length/\PyData.depthAll ds<=1
 | [],_=>⟨[],fun _ _=>.nil,rfl,rfl,zI0 _,zN0 _⟩
 | v::xs,h=>by
   obtain⟨d,r,f⟩:=(h v qL0).data (K:=K);obtain⟨ds,rs,h1,h2,h3,h4⟩:=AY xs fun v hv=>h v (qK0 _ hv)
   refine⟨d::ds,fun H' s=>.cons (r H' s) (rs H' s),?_,?_,?_,?_⟩
   . show(d.showable&&PyData.showableAll ds)=true;rw[f.sh,h1];rfl
   . show(d.hasDict||PyData.hasDictAll ds)=false;rw[f.hd,h2];rfl
   . show piled (d.shown::PyData.shownAll ds)<=_;rw[piled_cons,zV0]
     have:=f.ln
     omega
   . show max d.depth (PyData.depthAll ds)<=1;exact Nat.max_le.mpr ⟨f.dp,h4⟩
theorem sC:∀ts:List Str,(listText ts).length<=piled ts+2
 | []=>by decide
 | t::r=>by
   show(textFrom 1 _ r++_).length<=_;rw[Str.length_append,textFrom_length_pos r 1 _ (by decide),piled_cons,Str.length_append,Str.length_append];have e1:(("[":Str)).length=1:=by decide
   have e2:(((if(0:Nat)>0 then ", " else "":String):Str)).length=0:=by decide
   have e3:(("]":Str)).length=1:=by decide
   rw[e1,e2,e3];omega
theorem qb(ts:List Str):(tupleText ts).length<=piled ts+5:=by
 unfold tupleText;rw[Str.length_append,Str.length_append];have e1:(("(":Str)).length=1:=by decide
 have e2:(((if ts.length==1 then ",)" else ")":String):Str)).length<=2:=by
  split <;> decide
 have e3:(Str.join ", " ts).length<=piled ts:=by
  by_cases c:ts=[]
  . subst c;decide
  . have:=join_length_add ts c
    omega
 rw[e1];omega
def Th(K:W.Frag)(H:Hp)(v:V):Prop:=∃x,∀H',Same H H'->CP K H' v x
theorem Th.same{H H':Hp}{v:V}(h:Th K H v)(s:Same H H'):Th K H' v:=by
 obtain⟨x,hx⟩:=h;exact⟨x,fun H2 s2=>hx H2 (s.trans s2)⟩
theorem Fine.show{H:Hp}{a:Addr}{d:PyData}(f:Fine d)(r:∀H',Same H H'->Rep K H' (.ref a) d):Th K H (.ref a):=⟨d.shown,fun H' s=>.inr (.inr (.inr (.inr ⟨a,d,rfl,r H' s,f.sh,f.hd,zX0 f.ln (by decide),zX0 f.dp (by decide),rfl⟩)))⟩
theorem oX{H:Hp}{v:V}(h:AmAt H v):Th K H v:=by
 have h':=h;rcases h with⟨n,rfl,h0,h1⟩ | ⟨b,rfl⟩ | rfl | rfl | ⟨a,rfl,h⟩ | ⟨a,rfl,h⟩
 . exact⟨_,fun _ _=>.inl ⟨n,rfl,of_decide_eq_true (sM h0 h1).sh,rfl⟩⟩
 . exact⟨_,fun _ _=>.inr (.inl ⟨b,rfl,rfl⟩)⟩
 . exact⟨_,fun _ _=>.inr (.inr (.inl ⟨rfl,rfl⟩))⟩
 . exact⟨_,fun _ _=>.inr (.inr (.inr (.inl ⟨_,rfl,by decide,rfl⟩)))⟩
 . obtain⟨d,r,f⟩:=h'.data (K:=K);exact f.show r
 . obtain⟨d,r,f⟩:=h'.data (K:=K);exact f.show r
theorem lh{H:Hp}{cb:Bool}{a:Addr}{xs:List V}(h:SeqB cb H a xs)(hl:xs.length<=1100)(ha:∀v∈xs,AmAt H v):Th K H (.ref a):=by
 obtain⟨ds,rs,h1,h2,h3,h4⟩:=AY (K:=K) xs ha;have sz:sizeLine=16777216:=by decide
 cases cb with
 | true=>
   refine⟨PyData.shown (.list ds),fun H' s=>.inr (.inr (.inr (.inr ⟨a,.list ds,rfl,.lst (zG0 (s _ _ h)) (rs H' s),h1,h2,?_,?_,rfl⟩)))⟩
   . have:=sC (PyData.shownAll ds)
     show(listText (PyData.shownAll ds)).length<=_;omega
   . show PyData.depthAll ds+1<=62;omega
 | false=>
   refine⟨PyData.shown (.tuple ds),fun H' s=>.inr (.inr (.inr (.inr ⟨a,.tuple ds,rfl,.tup (zC0 (s _ _ h)) (rs H' s),h1,h2,?_,?_,rfl⟩)))⟩
   . have:=qb (PyData.shownAll ds)
     show(tupleText (PyData.shownAll ds)).length<=_;omega
   . show PyData.depthAll ds+1<=62;omega
theorem rn{H:Hp}{p n:Int}(h0:0<=n)(h1:n<p)(p9:p<=999983):AmAt H (.int n):=.inl ⟨n,rfl,by omega,by omega⟩
inductive Rf(H:Hp)(z:Db)(p:Int):Str->V->Int->Prop where
 | hT {v:V} (h:z.aw.1≠"hear"):Rf H z p "hear" v 0
 | hC {cb:Bool} {l:Addr} {xs:List V} {n:Int} (h:z.aw=(("hear":Str),some n)) (hl:SeqB cb H l xs) (hn:(xs.length:Int)≠n):Rf H z p "hear" (.ref l) 1
 | hN {cb:Bool} {l:Addr} {xs:List V} (h:z.aw=(("hear":Str),some (xs.length:Int))) (h5:xs.length<=500) (hl:SeqB cb H l xs) (ha:∀v∈xs,NumOr H v) (hn:xs.all (kx p)=false):Rf H z p "hear" (.ref l) 2
 | cT {v:V} (h:z.aw.1≠"coin"):Rf H z p "coin" v 0
 | cN {v:V} (h:z.aw.1="coin") (ha:NumOr H v) (hn:kx p v=false):Rf H z p "coin" v 2
theorem Rf.same{H H':Hp}{z:Db}{p n:Int}{k:Str}{v:V}(h:Rf H z p k v n)(s:Same H H'):Rf H' z p k v n:=by
 cases h with
 | hT h=>exact .hT h
 | hC h hl hn=>exact .hC h (hl.same s) hn
 | hN h h5 hl ha hn=>exact .hN h h5 (hl.same s) (fun v hv=>(ha v hv).same s) hn
 | cT h=>exact .cT h
 | cN h ha hn=>exact .cN h (ha.same s) hn
end
theorem qy{X:Cx}{ss:List Stmt}{t t':TS}(h:PSs X ss t)(hw:∀D σ H,t' D σ H->t D σ H):PSs X ss t':=fun pins s σ H D I k=>h pins s σ H D I (hw _ _ _ k)
section
structure PSW(X:Cx)(st:List Stmt)(t:TS):Prop where
 out:PSs X st t
end
section
structure PEW(X:Cx)(e:Expr)(t:TE):Prop where
 out:PE X e t
structure PAW(X:Cx)(es:List Expr)(t:TA):Prop where
 out:PA X es t
structure PTW(X:Cx)(s:Stmt)(t:TS):Prop where
 out:PS X s t
section
variable {X:Cx} {e:Expr} {es:List Expr} {te:TE} {t:TA} {pos:Pos}
theorem bg:PAW X [] xg:=⟨ac⟩
theorem ao(ha:PEW X e te)(hr:PAW X es t)(hs:starEach (e::es) X.env=(false,eval e X.env)::starEach es X.env:=by rfl):PAW X (e::es) (vI te t):=⟨aa ha.out hr.out hs⟩
theorem db{x1}(h:PAW X es t):PEW X (.Tuple es x1 pos) (tTup t):=⟨aY h.out⟩
theorem de{x j}:PEW X (.Constant (.str x) j pos) (tC (.str x)):=⟨aG⟩
theorem cE{i j}:PEW X (.Constant (.int i) j pos) (tC (.int i)):=⟨ae⟩
theorem my(h:PEW X e te):PTW X (.Return (some e) pos) (tRet te):=⟨ax h.out⟩
theorem cI{i:Nat}{x:Str}{pos':Pos}(hN:X.N.Nodup)(hi:X.N[i]?=some x)(hx:Loc X.env.scope x)(he:PEW X e te)(hs:swapsWith e (some (.Name x pos')) pos.line X.env=pure false:=by rfl)(hf:X.fn x=true∨X.env.scope.names.lookup x=some .local:=by first | exact .inl rfl | exact .inr rfl | assumption) :
 PTW X (.Assign [.Name x pos'] e pos) (Bj te (sK i)):=⟨au hN hi hx he.out hs hf⟩
theorem gI:PSW X [] Cq:=⟨aI⟩
theorem bb{s:Stmt}{ss:List Stmt}{a b:TS}(h:PTW X s a)(k:PSW X ss b):PSW X (s::ss) (tSeq a b):=⟨ad h.out k.out⟩
theorem cQ{s:Stmt}{a:TS}(h:PTW X s a):PSW X [s] a:=⟨ag h.out⟩
theorem fP{ss:List Stmt}{t t':TS}(h:PSW X ss t)(hw:∀D σ H,t' D σ H->t D σ H):PSW X ss t':=⟨qy h.out hw⟩
theorem iC{c:Expr}{a b:List Stmt}{tc:TT}{t u:TS}(hc:PT X c tc)(ha:PSW X a t)(hb:PSW X b u):PTW X (.If c a b pos) (CZ tc t u):=⟨aX hc ha.out hb.out⟩
end
end
section
theorem cv{X:Cx}{es:List Expr}{t:TA}{pos:Pos}(h:PAW X es t):PEW X (.List es pos) (tLst t):=⟨bo h.out⟩
end
section
variable {X:Cx} {a b e:Expr} {es:List Expr} {ta tb:TE} {t:TA} {p pos:Pos}
theorem we_ix{r:R2}(hr:IxR X r)(ha:PEW X a ta)(hb:PEW X b tb)(hs:wT b):PEW X (.Subscript a b pos) (tOp r ta tb):=⟨aJ hr ha.out hb.out hs⟩
theorem CS{j}:PEW X (.Constant .none j pos) (tC .non):=⟨qA⟩
end
section
variable {X:Cx} {e o:Expr} {es:List Expr} {te to:TE} {t:TA} {pos apos cpos:Pos}
theorem pY(h:PEW X e te)(hs:swapsWith e none pos.line X.env=pure false:=by rfl):PTW X (.Expr e pos) (Cr te):=⟨bV h.out hs⟩
theorem tI(ho:PEW X o to)(he:PEW X e te)
 (hbase:attributeBase o "append" X.env (eval o X.env)=eval o X.env:=by rfl)
 (hfew:((backTo cpos (starEach [e] X.env)).all (fun x=>!x.1)&&(backToKw cpos (keywordEach [] X.env)).all (fun x=>x.1.isSome)
  &&decide (([e]:List Expr).length+([]:List Keyword).length+(if([]:List Keyword).isEmpty then 0 else 1)<30))=true:=by rfl)
 (hline:(apos.endLine==cpos.line)=true:=by rfl) (hs:starEach [e] X.env=(false,eval e X.env)::starEach [] X.env:=by rfl) :
 PEW X (.Call (.Attribute o "append" apos) [e] [] cpos) (tBM X.K "list" wo to (vI te xg)):=⟨nJ PySem.F.plainAttrs_list PySem.F.slot_list_append PySem.F.type_list_append gY ho.out (aa he.out ac hs) hbase hfew hline hs rfl⟩
end
theorem eP{K:W.Frag}{H:Hp}{a:Addr}{xs:List Int}(h:H a=some (.lst (xs.map V.int))):Rep K H (.ref a) (.list (xs.map PyData.int)):=.lst (zG0 h) (ng xs)
def bfD(z:Db):PyData:=.tuple [awD z.aw,.int z.ed,.int z.pl]
theorem kL{K:W.Frag}{H:Hp}{c t:Addr}{z:Db}(h:H c=some (.tup (awV z.aw)))(ht:H t=some (.tup [.ref c,.int z.ed,.int z.pl])):Rep K H (.ref t) (bfD z):=.tup (zC0 ht) (.cons (uo h) (.cons (.int _) (.cons (.int _) .nil)))
theorem dZ{z:Db}(h:AwW z.aw.1):SeqAt.shaped (bfD z)=true:=by
 obtain⟨⟨x,n⟩,a2,a3,a4,a5,a6,a7⟩:=z
 have:=h.ok
 cases n <;> simp [bfD,awD,SeqAt.shaped,PyData.canLay0,PyData.depth,PyData.canLayAll0,PyData.depthAll] <;> exact this
theorem vf{z:Db}(h:AwW z.aw.1):PyData.eqv (bfD z) (bfD z)=true:=PySem.SeqAt.eqv_refl _ (SeqAt.canLay_of_shaped (dZ h))
section
variable {C CG c6 c7 c8:Addr}
def Sb2(f D:Addr)(H H':Hp):Prop:=∀b o,b≠f->b≠D->H b=some o->H' b=some o
theorem Sb2.f{f D:Addr}{H H':Hp}(s:SameBut f H H'):Sb2 f D H H':=fun b o n _ e=>s b o n e
theorem Sb2.d{f D:Addr}{H H':Hp}(s:SameBut D H H'):Sb2 f D H H':=fun b o _ n e=>s b o n e
theorem Sb2.trans{f D:Addr}{H H' H2:Hp}(s:Sb2 f D H H')(t:Sb2 f D H' H2):Sb2 f D H H2:=fun b o n m e=>t b o n m (s b o n m e)
def hfd(f D:Addr)(H:Hp):Hp:=fun a=>if a=f∨a=D then none else H a
theorem bK{f D:Addr}{H:Hp}:Same (hfd f D H) H:=fun a o e=>by
 unfold hfd at e
 split at e
 . cases e
 . exact e
theorem cO{f D:Addr}{H H':Hp}(s:Sb2 f D H H'):Same (hfd f D H) (hfd f D H'):=fun a o e=>by
 unfold hfd at e ⊢
 split at e
 . cases e
 . rename_i n;rw[zD0 n];exact s _ _ (fun z=>n (.inl z)) (fun z=>n (.inr z)) e
theorem oa{f D:Addr}{H H':Hp}(s:SameBut f H H'):Same (hfd f D H) (hfd f D H'):=cO (Sb2.f s)
theorem bh{f D:Addr}{H H':Hp}(s:Same H H'):Same (hfd f D H) (hfd f D H'):=oa (zJ0 s)
theorem ci{f D a:Addr}{H:Hp}{o:HO}(e:H a=some o)(n:a≠f)(m:a≠D):hfd f D H a=some o:=by
 unfold hfd;rw[zD0 (fun z=>z.elim n m)];exact e
theorem vc{f D a:Addr}{H:Hp}{o:HO}(e:hfd f D H a=some o):a≠f:=fun z=>by
 unfold hfd at e;rw[zF0 (.inl z)]at e;cases e
def vX(C CG:Addr):Sp:=fun vs H Q _=>∃(f D g a b d st l:Addr)(z:Db)(ns:List Str)(tv:List V)(ts:List Tr)(p r:Int)(xs:List Int),vs=[.ref D,.ref f,.ref st,.ref l,.int r]/\Wd C CG H f D g a b d d z ns tv ts p/\GmK ns ts p/\hfd f D H st=some (.tup (awV z.aw))/\hfd f D H l=some (.lst (xs.map V.int))/\z.to.length<=ns.length/\cw z.to p/\
 ((z.aw=(("hear":Str),some (xs.length:Int))/\cw xs p/\xs.length<=500/\(z.cl≠[]->iy xs p)/\∀H',Wd C CG H' f D g a b d d (gj ns ts p xs z) ns tv ts p->Sb2 f D H H'->Q .non H')∨
  (z.aw=(("coin":Str),none)/\0<=r/\r<p/\(z.he≠[]->iy z.he p/\z.to.length<ns.length)/\∀H',Wd C CG H' f D g a b d d (fQ ns ts p r z) ns tv ts p->Sb2 f D H H'->Q .non H'))
theorem uh:FnScope ["_law_doubter","_law_feed_here","_law_step","_law_values","_law_r"] ["_law_doubter","_law_feed_here","_law_step","_law_values","_law_r"] (ak jg):=⟨rfl,rfl,rfl,by decide,rfl,by decide,by decide⟩
theorem uF {f fH fT:Addr} {fd fdH fdT:FuncData} (F:Fun K "_law_given" "_law_given" jg f fd) (B:Bl mg) (T:DTxt K mg C)
 (mH:Meth K C "hear" fH) (GH:FnOk P w K mg base (CXr P w) 18 fH fdH ["self","values"] (qg C CG c6 c7 c8)) (bH:Binds K fdH ["self","values"] [])
 (mT:Meth K C "toss" fT) (GT:FnOk P w K mg base (CXr P w) 17 fT fdT ["self","r"] (qd C CG c6 c8)) (bT:Binds K fdT ["self","r"] [])
 (aE:Cal P w K mg base 1 "_law_take" ["_law_feed_here","_law_many"] dX):FnOk P w K mg base CX0 19 f fd ["_law_doubter","_law_feed_here","_law_step","_law_values","_law_r"] (vX C CG):=by
 refine F.ok uh (fun vs H Q E h=>?_) (fun cdv A outer s H vs Q E hr h=>?_)
 . obtain⟨f,D,g,a,b,d,st,l,z,ns,tv,ts,p,r,xs,rfl,_⟩:=h;rfl
 obtain ⟨f,D,g,a,b,d,st,l,z,ns,tv,ts,p,r,xs,rfl,W,k,hst,hl,tl,po,fate⟩:=h;have hr17:Room 17 _:=hr.mono (by decide);have hr18:Room 18 _:=hr.mono (by decide);refine⟨_,(ad (aX (av bA (aJ aZ (pv 2) ae (fun _ _=>rfl)) aG (ay _)) (ag (ax (fv (pv 0) T.cl mH GH hr18 bH .nil wy (aa (aJ ix_list (bo (aa (pv 3) (aa (bO bN rfl B.tuple bX (aa (pv 3) ac)) ac))) (al aE hr (by decide) rfl (aa (pv 1) (aa ae ac))) (fun _ _=>rfl)) ac)))) aI)
  (ag (ax (fv (pv 0) T.cl mT GT hr17 bT .nil wy (aa (pv 4) ac))))),?_⟩
 have hst':=bK _ _ hst;have hl':=bK _ _ hl;have lf:=vc hl;obtain⟨dx,fs,hD,n1,n2,n3,n4,n5⟩:=W.ins;refine⟨_,rfl,st,_,_,_,rfl,rfl,zC0 hst',aO (j:=0) (iw _),rfl,_,rfl,?_⟩;rcases fate with⟨ea,xo,x5,ro,q⟩ | ⟨ea,r0,r1,ro,q⟩
 . refine cg (congrArg V.str (by rw[ea])) ?_;refine⟨_,rfl,D,dx,fs,rfl,hD,n4,?_⟩;refine⟨_,rfl,_,rfl,l,_,rfl,.inl ⟨zG0 hl',fun t ht=>?_⟩⟩;have J1:=zB0 ht (.tup (xs.map V.int));have g1:upd H t (.tup (xs.map V.int)) t=some (.tup (xs.map V.int)):=ah;have W1:=W.same J1;have hl1:=J1 _ _ hl';have tf:t≠f:=W.F.ne ht;generalize upd H t (.tup (xs.map V.int))=H1 at J1 g1 W1 hl1;refine⟨(by show 2<=sizeLine;decide),fun L hL=>?_⟩;have J2:=zB0 hL (.lst [.ref l,.ref t]);have g2:upd H1 L (.lst [.ref l,.ref t]) L=some (.lst [.ref l,.ref t]):=ah;have W2:=W1.same J2;have Lf:L≠f:=W1.F.ne hL;have hl2:=J2 _ _ hl1;have ht2:=J2 _ _ g1;generalize upd H1 L (.lst [.ref l,.ref t])=H2 at J2 g2 W2 hl2 ht2;refine⟨_,rfl,f,2,rfl,W2.F,by decide,by decide,fun i H3 i0 i1 F3 S3=>?_⟩;have W3:=W2.feed S3 F3;have hl3:=S3 _ _ lf hl2;have ht3:=S3 _ _ tf ht2;have S03:Sb2 f D H H3:=Sb2.f ((zJ0 (J1.trans J2)).trans S3);have ii:i=((0:Nat):Int)∨i=((1:Nat):Int):=by omega
   obtain ⟨cb,u,hv,hu⟩:∃(cb:Bool)(u:Addr),atI [V.ref l,V.ref t] i=some (.ref u)/\SeqB cb H3 u (xs.map V.int):=by
    rcases ii with rfl | rfl
    . exact⟨true,l,rfl,hl3⟩
    . exact⟨false,t,rfl,ht3⟩
   refine⟨L,_,_,_,rfl,rfl,zG0 (S3 _ _ Lf g2),hv,?_⟩;exact .inl ⟨cb,D,g,u,z,xs,ns,ts,p,rfl,W3.Dd,W3.G.gm,k,hu,ea,xo,x5,ro,tl,po,fun H4 S4 D4=>q H4 (W3.step S4 D4) (S03.trans (Sb2.d S4))⟩
 . refine ba (fun e=>by have:=V.str.inj e;rw[ea]at this;exact absurd this (by decide)) ?_;refine⟨_,rfl,D,dx,fs,rfl,hD,n5,_,rfl,?_⟩;exact .inl ⟨D,g,z,r,ns,ts,p,rfl,W.Dd,W.G.gm,k,by rw[ea],r0,r1,tl,ro,po,fun H4 S4 D4=>q H4 (W.step S4 D4) (Sb2.d S4)⟩
end
section
variable {C CG c6 c7 c8:Addr}
structure Hd where
 due:Int
 cl:List Int
 ro:List Int
 s:Int
 co:List Int
 lk:Int
def HdAt(H:Hp)(a:Addr)(h:Hd):Prop:=∃c r k,H a=some (.lst [.int h.due,.ref c,.ref r,.int h.s,.ref k,.int h.lk])/\H c=some (.lst (h.cl.map V.int))/\H r=some (.lst (h.ro.map V.int))/\H k=some (.lst (h.co.map V.int))
theorem HdAt.same{H H':Hp}{a:Addr}{h:Hd}(x:HdAt H a h)(s:Same H H'):HdAt H' a h:=by
 obtain⟨c,r,k,h1,h2,h3,h4⟩:=x;exact⟨c,r,k,s _ _ h1,s _ _ h2,s _ _ h3,s _ _ h4⟩
def dJ(w:Str)(xs:List Int)(r p:Int)(h:Hd):Hd:=
 if w="hear" then(if h.cl=[]then⟨xs.getD 0 0*(if xs.length=1 then 1 else 0),xs,[],0,[],xs.length⟩else { h with ro:=xs,lk:=h.lk+xs.length })
 else if h.ro=[]then { h with due:=hor r p h.cl,s:=r,lk:=h.lk+1 }else { h with due:=val p h.ro r,co:=h.co++[r],lk:=h.lk+1 }
def vR:Sp:=fun vs H Q _=>∃(f D hA st l:Addr) (of od:HO) (h:Hd) (aw:Str×Option Int) (xs:List Int) (r p:Int),vs=[.ref hA,.ref st,.ref l,.int r,.int p]/\H f=some of/\H D=some od/\HdAt (hfd f D H) hA h/\hfd f D H st=some (.tup (awV aw))/\hfd f D H l=some (.lst (xs.map V.int))/\(aw.1="hear" -> xs≠[])/\h.co.length<=100/\
 Pm p/\2<p/\p<=999983/\(h.ro≠[]->h.ro.length<=500/\(h.ro.length:Int)<=p/\cw h.ro p)/\0<=r/\r<p/\∀(a':Addr)(H':Hp),Same H H'->HdAt (hfd f D H') a' (dJ aw.1 xs r p h)->Q (.ref a') H'
theorem di:FnScope ["_law_held","_law_step","_law_values","_law_r","_law_p","_law_due","_law_claims","_law_row","_law_s","_law_coins","_law_looked"] ["_law_held","_law_step","_law_values","_law_r","_law_p"] (ak jf):=⟨rfl,rfl,rfl,by decide,rfl,by decide,by decide⟩
theorem uD {f:Addr} {fd:FuncData} (F:Fun K "_law_noted" "_law_noted" jf f fd) (B:Bl mg) (d8:Cal P w K mg base 1 "_law_mix" ["_law_numbers","_law_s","_law_p"] qe) (m3:Cal P w K mg base 2 "_law_value" ["_law_values","_law_r","_law_p"] zh):FnOk P w K mg base CX0 3 f fd ["_law_held","_law_step","_law_values","_law_r","_law_p"] vR:=by
 refine F.ok di (fun vs H Q E h=>?_) (fun cdv A outer s H vs Q E hr h=>?_)
 . obtain⟨f,D,hA,st,l,of,od,h,aw,xs,r,p,rfl,_⟩:=h;rfl
 obtain ⟨f,D,hA,st,l,of,od,h,aw,xs,r,p,rfl,hf,hD,⟨c,rr,kk,h1,h2,h3,h4⟩,hst,hl,x0,cl,pm,p2,p9,ro,r0,r1,q⟩:=h;refine⟨_,PSW.out (bb ⟨gN (pv 0) (Du rfl (bx (aQ (i:=5) di.nd rfl (Or.inl rfl)) (bx (aQ (i:=6) di.nd rfl (Or.inl rfl)) (bx (aQ (i:=7) di.nd rfl (Or.inl rfl)) (bx (aQ (i:=8) di.nd rfl (Or.inl rfl)) (bx (aQ (i:=9) di.nd rfl (Or.inl rfl)) (bx (aQ (i:=10) di.nd rfl (Or.inl rfl)) jp)))))))⟩
  (bb (iC (PW.pt (kM (av bA (aJ aZ (pv 1) ae (fun _ _=>rfl)) aG (ay _)) (ke (av (jH hr.units) (pv 6) (bo ac) (ay _)))))
   (cQ (my (cv (ao ⟨aj bn (aJ ix_list (pv 2) ae (fun _ _=>rfl)) (bO jv rfl B.int hU (aa (jq bA (aD az rfl B.len PySem.boot_len (aa (pv 2) ac)) ae (ay _)) ac))⟩ (ao ⟨pv 2⟩ (ao (cv bg) (ao cE (ao (cv bg) (ao ⟨aD az rfl B.len PySem.boot_len (aa (pv 2) ac)⟩ bg))))))))) gI)
  (bb (iC (av bA (aJ aZ (pv 1) ae (fun _ _=>rfl)) aG (ay _))
   (cQ (my (cv (ao ⟨pv 5⟩ (ao ⟨pv 6⟩ (ao ⟨pv 2⟩ (ao ⟨pv 8⟩ (ao ⟨pv 9⟩ (ao ⟨aj aN (pv 10) (aD az rfl B.len PySem.boot_len (aa (pv 2) ac))⟩ bg))))))))) gI)
  (bb (iC (av (jH hr.units) (pv 7) (bo ac) (ay _))
   (cQ (my (cv (ao ⟨al d8 hr (by decide) rfl (aa (pv 6) (aa (pv 3) (aa (pv 4) ac)))⟩ (ao ⟨pv 6⟩ (ao ⟨pv 7⟩ (ao ⟨pv 3⟩ (ao ⟨pv 9⟩ (ao ⟨aj aN (pv 10) ae⟩ bg))))))))) gI)
  (cQ (my (cv (ao ⟨al m3 hr (by decide) rfl (aa (pv 7) (aa (pv 3) (aa (pv 4) ac)))⟩ (ao ⟨pv 6⟩ (ao ⟨pv 7⟩ (ao ⟨pv 8⟩ (ao ⟨aj dI (pv 9) (bo (aa (pv 3) ac))⟩ (ao ⟨aj aN (pv 10) ae⟩ bg))))))))))))),?_⟩
 have g1:=bK _ _ h1;have g2:=bK _ _ h2;have g3:=bK _ _ h3;have g4:=bK _ _ h4;have gst:=bK _ _ hst;have gl:=bK _ _ hl;have nw:∀{G:Hp}{x:Addr},Same H G->G x=none->x≠f/\x≠D:=fun{G x} sg hx=>⟨Ne.symm (ai (sg _ _ hf) hx),Ne.symm (ai (sg _ _ hD) hx)⟩
 refine⟨_,rfl,hA,_,rfl,zG0 g1,rfl,_,_,rfl,_,_,rfl,_,_,rfl,_,_,rfl,_,_,rfl,_,_,rfl,rfl,?_⟩;refine⟨_,rfl,st,_,_,_,rfl,rfl,zC0 gst,aO (j:=0) (iw _),rfl,_,rfl,?_⟩
 by_cases ch:aw.1="hear"
 . have xn:=x0 ch;refine cg (congrArg V.str ch) ?_;refine⟨_,rfl,zN0 _,fun e1 he1=>?_⟩;have J1:=zB0 he1 (.lst []);have ge:upd H e1 (.lst []) e1=some (.lst []):=ah;generalize upd H e1 (.lst [])=H1 at J1 ge;refine⟨_,_,eP (J1 _ _ g2),eP (xs:=[]) ge,cM _,cM [],_,rfl,?_⟩;rw[show PyData.eqv (.list (h.cl.map PyData.int)) (.list (([]:List Int).map PyData.int))=decide (h.cl=[])from oq h.cl []]
   by_cases cc:h.cl=[]
   . refine cg cc ?_;obtain⟨x,ys,rfl⟩:∃x ys,xs=x::ys:=by
      cases xs with
      | nil=>exact absurd rfl xn
      | cons x ys=>exact⟨x,ys,rfl⟩
     refine⟨_,rfl,l,_,0,_,rfl,rfl,zG0 (J1 _ _ gl),at0 _ _,_,rfl,l,_,rfl,.inl (zG0 (J1 _ _ gl)),rfl,.inr ⟨_,rfl,_,_,rfl,rfl,.inr (by split <;> constructor <;> decide),?_⟩⟩;have gl1:=J1 _ _ gl;refine⟨_,rfl,zN0 _,fun e2 he2=>?_⟩;have J2:=zB0 he2 (.lst []);have ge2:upd H1 e2 (.lst []) e2=some (.lst []):=ah;have gl2:=J2 _ _ gl1;have n2:=nw J1 he2;generalize upd H1 e2 (.lst [])=H2 at J2 ge2 gl2;refine⟨zN0 _,fun e3 he3=>?_⟩;have J3:=zB0 he3 (.lst []);have ge3:upd H2 e3 (.lst []) e3=some (.lst []):=ah;have gl3:=J3 _ _ gl2;have n3:=nw (J1.trans J2) he3;have ge23:=J3 _ _ ge2;generalize upd H2 e3 (.lst [])=H3 at J3 ge3 gl3 ge23;refine⟨_,rfl,l,_,rfl,.inl (zG0 gl3),?_⟩;refine⟨(by show 6<=sizeLine;decide),fun a' ha'=>?_⟩;have n4:=nw (J1.trans (J2.trans J3)) ha';have S4:∀o,Same H (upd H3 a' o):=fun o=>(J1.trans (J2.trans J3)).trans (zB0 ha' o)
     refine q a' _ (S4 _) ?_;have eN:dJ aw.1 (x::ys) r p h=⟨x*(if(x::ys).length=1 then 1 else 0),x::ys,[],0,[],(x::ys).length⟩:=by
      unfold dJ;rw[zF0 ch,zF0 cc];rfl
     have eb:(if decide (V.int (((x::ys).length:Nat):Int)=V.int 1)=true then(1:Int)else 0)=if(x::ys).length=1 then 1 else 0:=by
      by_cases c1:(x::ys).length=1
      . rw[zF0 c1,c1];rfl
      . rw[zD0 c1,decide_eq_false (fun z=>c1 (by have:=V.int.inj z;omega))];rfl
     rw[eN];refine⟨l,e2,e3,ci (by rw[ah,zE0,eb]) n4.1 n4.2,bh (S4 _) _ _ hl,ci (zB0 ha' _ _ _ ge23) n2.1 n2.2,ci (zB0 ha' _ _ _ ge3) n3.1 n3.2⟩
   . refine ba cc ?_;refine⟨_,rfl,st,_,_,_,rfl,rfl,zC0 (J1 _ _ gst),aO (j:=0) (iw _),rfl,_,rfl,?_⟩;refine cg (congrArg V.str ch) ?_;refine⟨_,rfl,_,rfl,_,rfl,_,rfl,_,rfl,_,rfl,_,rfl,l,_,rfl,.inl (zG0 (J1 _ _ gl)),_,_,rfl,rfl,?_⟩;refine⟨(by show 6<=sizeLine;decide),fun a' ha'=>?_⟩;have n4:=nw J1 ha';have S4:∀o,Same H (upd H1 a' o):=fun o=>J1.trans (zB0 ha' o)
     refine q a' _ (S4 _) ?_;have eN:dJ aw.1 xs r p h={ h with ro:=xs,lk:=h.lk+xs.length }:=by
      unfold dJ;rw[zF0 ch,zD0 cc]
     rw[eN];refine⟨c,l,kk,ci (by rw[ah,zE0]) n4.1 n4.2,bh (S4 _) _ _ h2,bh (S4 _) _ _ hl,bh (S4 _) _ _ h4⟩
 . have nh:¬ V.str aw.1=V.str "hear":=fun e=>ch (V.str.inj e)
   refine ba nh ?_;refine⟨_,rfl,st,_,_,_,rfl,rfl,zC0 gst,aO (j:=0) (iw _),rfl,_,rfl,?_⟩;refine ba nh ?_;refine⟨_,rfl,zN0 _,fun e1 he1=>?_⟩;have J1:=zB0 he1 (.lst []);have ge:upd H e1 (.lst []) e1=some (.lst []):=ah;generalize upd H e1 (.lst [])=H1 at J1 ge;refine⟨_,_,eP (J1 _ _ g3),eP (xs:=[]) ge,cM _,cM [],_,rfl,?_⟩;rw[show PyData.eqv (.list (h.ro.map PyData.int)) (.list (([]:List Int).map PyData.int))=decide (h.ro=[])from oq h.ro []]
   by_cases cr:h.ro=[]
   . refine cg cr ?_;refine⟨_,rfl,_,rfl,_,rfl,c,_,r,p,rfl,J1 _ _ g2,by omega,by omega,fun H2 S2=>?_⟩;refine⟨_,rfl,_,rfl,_,rfl,_,rfl,_,rfl,_,_,rfl,rfl,?_⟩;refine⟨(by show 6<=sizeLine;decide),fun a' ha'=>?_⟩;have n4:=nw (J1.trans S2) ha';have S4:∀o,Same H (upd H2 a' o):=fun o=>(J1.trans S2).trans (zB0 ha' o)
     refine q a' _ (S4 _) ?_;have eN:dJ aw.1 xs r p h={ h with due:=hor r p h.cl,s:=r,lk:=h.lk+1 }:=by
      unfold dJ;rw[zD0 ch,zF0 cr]
     rw[eN];refine⟨c,rr,kk,ci ah n4.1 n4.2,bh (S4 _) _ _ h2,bh (S4 _) _ _ h3,bh (S4 _) _ _ h4⟩
   . refine ba cr ?_;obtain⟨o1,o2,o3⟩:=ro cr;refine⟨_,rfl,_,rfl,_,rfl,rr,_,r,p,rfl,J1 _ _ g3,o1,o2,o3,pm,by omega,r0,r1,fun H2 S2=>?_⟩;have S02:=J1.trans S2;refine⟨_,rfl,_,rfl,_,rfl,_,rfl,_,rfl,(by show 1<=sizeLine;decide),fun t3 ht3=>?_⟩;have J3:=zB0 ht3 (.lst [.int r]);have g3':upd H2 t3 (.lst [.int r]) t3=some (.lst [.int r]):=ah;have S03:=S02.trans J3;generalize upd H2 t3 (.lst [.int r])=H3 at J3 g3' S03;refine⟨kk,t3,_,_,rfl,rfl,S03 _ _ g4,g3',cL (by rw[zE0];show h.co.length+1<=1000;omega),fun k4 hk4=>?_⟩;have n5:=nw S03 hk4;have J4:=zB0 hk4 (.lst (h.co.map V.int++[.int r]));have g4':upd H3 k4 (.lst (h.co.map V.int++[.int r])) k4=some (.lst (h.co.map V.int++[.int r])):=ah;have S04:=S03.trans J4;generalize upd H3 k4 (.lst (h.co.map V.int++[.int r]))=H4 at J4 g4' S04;refine⟨_,rfl,_,_,rfl,rfl,?_⟩;refine⟨(by show 6<=sizeLine;decide),fun a' ha'=>?_⟩;have n4:=nw S04 ha';have S5:∀o,Same H (upd H4 a' o):=fun o=>S04.trans (zB0 ha' o)
     refine q a' _ (S5 _) ?_;have eN:dJ aw.1 xs r p h={ h with due:=val p h.ro r,co:=h.co++[r],lk:=h.lk+1 }:=by
      unfold dJ;rw[zD0 ch,zD0 cr]
     rw[eN];refine⟨c,rr,k4,ci ah n4.1 n4.2,bh (S5 _) _ _ h2,bh (S5 _) _ _ h3,ci (zB0 ha' _ _ _ (by rw[zK0];exact g4')) n5.1 n5.2⟩
end
section
variable {C CG CA c0 c1 c2 c3 c4 c5 c6 c7 c8 c9:Addr}
theorem lk1(f:Str)(v:V):([(f,v)]:List (Str×V)).lookup f=some v:=by simp [List.lookup]
structure Exs(K:W.Frag)(mg:Str->Option Value)(CA c0 c1 c2 c3 c4 c5 c6 c7 c8 c9:Addr):Prop where
 g0:mg "NoText"=some (.ref c0)
 x0:ClsX K c0 CA
 n0:c0≠CA
 g1:mg "Twice"=some (.ref c1)
 x1:ClsX K c1 CA
 n1:c1≠CA
 g2:mg "NoName"=some (.ref c2)
 x2:ClsX K c2 CA
 n2:c2≠CA
 g3:mg "NoField"=some (.ref c3)
 x3:ClsX K c3 CA
 n3:c3≠CA
 g4:mg "SmallField"=some (.ref c4)
 x4:ClsX K c4 CA
 n4:c4≠CA
 g5:mg "NoRow"=some (.ref c5)
 x5:ClsX K c5 CA
 n5:c5≠CA
 g6:mg "NoTurn"=some (.ref c6)
 x6:ClsX K c6 CA
 n6:c6≠CA
 g7:mg "NoCount"=some (.ref c7)
 x7:ClsX K c7 CA
 n7:c7≠CA
 g8:mg "NoNumber"=some (.ref c8)
 x8:ClsX K c8 CA
 n8:c8≠CA
 g9:mg "TooMany"=some (.ref c9)
 x9:ClsX K c9 CA
 n9:c9≠CA
 gA:mg "AskError"=some (.ref CA)
 iA:qT K CA
 nd:[c0,c1,c2,c3,c4,c5,c6,c7,c8,c9].Nodup
theorem nY{K:W.Frag}{C:Addr}:W.kitOne K (.ref C) (.ref C)=some true:=by
 unfold W.kitOne;rw[zF0 (by simp)]
theorem ym{K:W.Frag}{t:Value}{Ds:List Addr}(h:∀D∈Ds,W.kitOne K t (.ref D)=some false):W.kitAny K t (Ds.map Value.ref)=some false:=by
 induction Ds with
 | nil=>rfl
 | cons D r ih=>
   show(match W.kitOne K t (.ref D)with | some true=>some true | some false=>W.kitAny K t (r.map Value.ref) | none=>none)=_;rw[h D qL0];exact ih fun D' hD=>h D' (qK0 _ hD)
structure IsN(K:W.Frag)(CA c6 c7 c8:Addr)(Ds:List Addr)(c:Addr)(n:Nat):Prop where
 cl:ClsX K c CA
 na:NoAttr K c "row"
 k6:W.kitOne K (.ref c) (.ref c6)=some (decide (n=0))
 k7:W.kitOne K (.ref c) (.ref c7)=some (decide (n=1))
 k8:W.kitOne K (.ref c) (.ref c8)=some (decide (n=2))
 kn:W.kitAny K (.ref c) (Ds.map Value.ref)=some false
 n3:n<3
theorem Exs.other{CA c0 c1 c2 c3 c4 c5 c6 c7 c8 c9 c:Addr}(T:Exs K mg CA c0 c1 c2 c3 c4 c5 c6 c7 c8 c9)(x:ClsX K c CA)(hc:c≠c0/\c≠c1/\c≠c2/\c≠c3/\c≠c4/\c≠c5/\c≠c9):W.kitAny K (.ref c) ([c3,c2,c5,c0,c4,c9,c1].map Value.ref)=some false:=ym fun D hD=>by
 obtain⟨h0,h1,h2,h3,h4,h5,h9⟩:=hc;simp only[List.mem_cons,List.not_mem_nil,or_false]at hD;rcases hD with rfl | rfl | rfl | rfl | rfl | rfl | rfl
 . rw[eI x T.x3 T.n3,beq_eq_false_iff_ne.mpr (Ne.symm h3)]
 . rw[eI x T.x2 T.n2,beq_eq_false_iff_ne.mpr (Ne.symm h2)]
 . rw[eI x T.x5 T.n5,beq_eq_false_iff_ne.mpr (Ne.symm h5)]
 . rw[eI x T.x0 T.n0,beq_eq_false_iff_ne.mpr (Ne.symm h0)]
 . rw[eI x T.x4 T.n4,beq_eq_false_iff_ne.mpr (Ne.symm h4)]
 . rw[eI x T.x9 T.n9,beq_eq_false_iff_ne.mpr (Ne.symm h9)]
 . rw[eI x T.x1 T.n1,beq_eq_false_iff_ne.mpr (Ne.symm h1)]
theorem Exs.is6 {CA c0 c1 c2 c3 c4 c5 c6 c7 c8 c9:Addr} (T:Exs K mg CA c0 c1 c2 c3 c4 c5 c6 c7 c8 c9) (na:NoAttr K c6 "row"):IsN K CA c6 c7 c8 [c3,c2,c5,c0,c4,c9,c1] c6 0:=by
 have nds:=T.nd;simp only[List.nodup_cons,List.mem_cons,List.not_mem_nil,or_false,not_or]at nds;exact⟨T.x6,na,nY,by rw[eI T.x6 T.x7 T.n7,beq_eq_false_iff_ne.mpr (by grind)];rfl,by rw[eI T.x6 T.x8 T.n8,beq_eq_false_iff_ne.mpr (by grind)];rfl,T.other T.x6 (by grind),by decide⟩
theorem Exs.is7 {CA c0 c1 c2 c3 c4 c5 c6 c7 c8 c9:Addr} (T:Exs K mg CA c0 c1 c2 c3 c4 c5 c6 c7 c8 c9) (na:NoAttr K c7 "row"):IsN K CA c6 c7 c8 [c3,c2,c5,c0,c4,c9,c1] c7 1:=by
 have nds:=T.nd;simp only[List.nodup_cons,List.mem_cons,List.not_mem_nil,or_false,not_or]at nds;exact⟨T.x7,na,by rw[eI T.x7 T.x6 T.n6,beq_eq_false_iff_ne.mpr (by grind)];rfl,nY,by rw[eI T.x7 T.x8 T.n8,beq_eq_false_iff_ne.mpr (by grind)];rfl,T.other T.x7 (by grind),by decide⟩
theorem Exs.is8 {CA c0 c1 c2 c3 c4 c5 c6 c7 c8 c9:Addr} (T:Exs K mg CA c0 c1 c2 c3 c4 c5 c6 c7 c8 c9) (na:NoAttr K c8 "row"):IsN K CA c6 c7 c8 [c3,c2,c5,c0,c4,c9,c1] c8 2:=by
 have nds:=T.nd;simp only[List.nodup_cons,List.mem_cons,List.not_mem_nil,or_false,not_or]at nds;exact⟨T.x8,na,by rw[eI T.x8 T.x6 T.n6,beq_eq_false_iff_ne.mpr (by grind)];rfl,by rw[eI T.x8 T.x7 T.n7,beq_eq_false_iff_ne.mpr (by grind)];rfl,nY,T.other T.x8 (by grind),by decide⟩
def Cs(K:W.Frag)(C CG:Addr):Sp:=fun vs H Q _=>∃(D g:Addr)(z:Db)(k:Str)(v:V)(n:Int)(ns:List Str)(ts:List Tr)(p:Int),vs=[.ref D,.str k,v]/\DbAt C H D g z/\Gm CG H g ns ts p/\Th K H v/\Rf H z p k v n/\∀H',Same H H'->Q (.int n) H'
def tWhy (K:W.Frag) (CA c6 c7 c8:Addr) (Ds:List Addr):TS:=fun Dn σ H=>∃(x0 x1 x2 x4 x5:Option V) (e dx c:Addr) (n:Nat),σ=[x0,x1,x2,some .non,x4,x5,some (.ref e)]/\H e=some (oE c e dx)/\H dx=some (.xd [("row",.non)])/\IsN K CA c6 c7 c8 Ds c n/\∀(m:Addr) (H':Hp),Same H H'->Dn.nx [x0,x1,x2,some (.int (n:Int)),x4,some (.ref m),some (.ref e)] H'
theorem dq:FnScope ["_law_doubter","_law_kind","_law_thing","_law_told","_law_kept","_law_mine","e"] ["_law_doubter","_law_kind","_law_thing"] (ak lV):=⟨rfl,rfl,rfl,by decide,rfl,by decide,by decide⟩
theorem zW {f fH fT:Addr} {fd fdH fdT:FuncData} (F:Fun K "_law_why" "_law_why" lV f fd) (B:Bl mg) (hR:mg "repr"=none) (hV:mg "ValueError"=none) (TD:DTxt K mg C) (T:Exs K mg CA c0 c1 c2 c3 c4 c5 c6 c7 c8 c9) (a6:NoAttr K c6 "row") (a7:NoAttr K c7 "row") (a8:NoAttr K c8 "row")
 (mH:Meth K C "hear" fH) (GH:FnOk P w K mg base (CXr P w) 18 fH fdH ["self","values"] (qg C CG c6 c7 c8)) (bH:Binds K fdH ["self","values"] [])
 (mT:Meth K C "toss" fT) (GT:FnOk P w K mg base (CXr P w) 17 fT fdT ["self","r"] (qd C CG c6 c8)) (bT:Binds K fdT ["self","r"] []):FnOk P w K mg base CX0 19 f fd ["_law_doubter","_law_kind","_law_thing"] (Cs K C CG):=by
 refine F.ok dq (fun vs H Q E h=>?_) (fun cdv A outer s H vs Q E hr h=>?_)
 . obtain⟨D,g,z,k,v,n,ns,ts,p,rfl,_⟩:=h;rfl
 obtain ⟨D,g,z,k,v,n,ns,ts,p,rfl,hD,hG,⟨x,hx⟩,rf,q⟩:=h;have hr17:Room 17 _:=hr.mono (by decide);have hr18:Room 18 _:=hr.mono (by decide);refine⟨_,(ad (au (i:=3) dq.nd rfl (Or.inl rfl) qA)
  (ad (au (i:=4) dq.nd rfl (Or.inl rfl) (aD (oz hr.gd hr.units) rfl hR PyProof.Rows.boot_repr (aa (pv 2) ac)))
  (ad (Do (i:=6) (CA:=CA) dq.nd rfl rfl rfl T.gA T.iA
   (Dm (fun _=>av bA (pv 1) aG (ay _))
    (rR (fun _=>pv 0) TD.cl mH GH hr18 bH (fun _=>aa (pv 2) ac))
    (rR (fun _=>pv 0) TD.cl mT GT hr17 bT (fun _=>aa (pv 2) ac)))
   (fun e=>qy (t':=tWhy K CA c6 c7 c8 [c3,c2,c5,c0,c4,c9,c1]) (ad (au (i:=5) dq.nd rfl (Or.inl rfl) (bo (aa (aD (gn K) rfl B.isinstance PyProof.Rows.boot_isinstance (aa (pv 6) (aa (da (v:=.ref c6) rfl T.g6 rfl) ac))) (aa (aD (gn K) rfl B.isinstance PyProof.Rows.boot_isinstance (aa (pv 6) (aa (da (v:=.ref c7) rfl T.g7 rfl) ac))) (aa (aD (gn K) rfl B.isinstance PyProof.Rows.boot_isinstance (aa (pv 6) (aa (da (v:=.ref c8) rfl T.g8 rfl) ac))) ac)))))
    (ad (au (i:=3) dq.nd rfl (Or.inl rfl) ae)
    (ad (aX (PW.pt (kM (av bA (qE K PySem.F.plainAttrs_list PySem.F.slot_list_count PySem.F.type_list_count (kQ K) (pv 5) (aa fg ac)) ae (ay _)) (kM (fZ (aD (gn K) rfl B.isinstance PyProof.Rows.boot_isinstance (aa (pv 6) (aa (mi (v:=V.ty "ValueError") rfl hV tj rfl) ac)))) (ke (av DA (zQ K (pv 6) rfl) qA (ay _))))))
     (ag (au (i:=3) dq.nd rfl (Or.inl rfl) (qE K PySem.F.plainAttrs_list PySem.F.slot_list_index PySem.F.type_list_index (uQ K) (pv 5) (aa fg ac)))) aI)
    (ag (aX (fZ (aD (gn K) rfl B.isinstance PyProof.Rows.boot_isinstance (aa (pv 6) (aa (aY (aa (da (v:=.ref c3) rfl T.g3 rfl) (aa (da (v:=.ref c2) rfl T.g2 rfl) (aa (da (v:=.ref c5) rfl T.g5 rfl) (aa (da (v:=.ref c0) rfl T.g0 rfl) (aa (da (v:=.ref c4) rfl T.g4 rfl) (aa (da (v:=.ref c9) rfl T.g9 rfl) (aa (da (v:=.ref c1) rfl T.g1 rfl) ac)))))))) ac)))) (ag (au (i:=3) dq.nd rfl (Or.inl rfl) ae)) aI))))) ?hh))
  (ad (aX (av nK (aD (oz hr.gd hr.units) rfl hR PyProof.Rows.boot_repr (aa (pv 2) ac)) (pv 4) (ay _)) (ag (au (i:=3) dq.nd rfl (Or.inl rfl) ae)) aI)
  (ag (ax (pv 3))))))),?_⟩
 case hh=>
  rintro Dn σ G ⟨x0,x1,x2,x4,x5,e,dx,c,n,rfl,he,hd,N,q⟩;refine⟨_,rfl,e,c,CA,dx,_,_,rfl,.inr he,N.cl,.inl ⟨_,rfl,N.k6⟩,?_⟩;refine⟨_,rfl,e,c,CA,dx,_,_,rfl,.inr he,N.cl,.inl ⟨_,rfl,N.k7⟩,?_⟩;refine⟨_,rfl,e,c,CA,dx,_,_,rfl,.inr he,N.cl,.inl ⟨_,rfl,N.k8⟩,?_⟩;refine⟨(by show 3<=sizeLine;decide),fun m hm=>?_⟩;have J:=zB0 hm (.lst [.bl (decide (n=0)),.bl (decide (n=1)),.bl (decide (n=2))]);have gm:upd G m (.lst [.bl (decide (n=0)),.bl (decide (n=1)),.bl (decide (n=2))]) m=some (.lst [.bl (decide (n=0)),.bl (decide (n=1)),.bl (decide (n=2))]):=ah;generalize upd G m (.lst [.bl (decide (n=0)),.bl (decide (n=1)),.bl (decide (n=2))])=G1 at J gm;have cnt:([V.bl (decide (n=0)),.bl (decide (n=1)),.bl (decide (n=2))].countP fun y=>eqV y (.bl true))=1:=by
   have:=N.n3
   have:n=0∨n=1∨n=2:=by omega
   rcases this with rfl | rfl | rfl <;> rfl
  refine⟨_,rfl,.inl ⟨rfl,_,zG0 gm⟩,m,_,_,rfl,rfl,zG0 gm,rfl,rfl,rfl,_,rfl,?_⟩;refine cg (by rw[cnt];rfl) ?_;refine⟨_,rfl,e,c,CA,dx,_,_,rfl,.inr (J _ _ he),N.cl,.inr (.inl ⟨_,rfl,Cd N.cl⟩),_,rfl,?_⟩;refine fE ?_;refine⟨_,rfl,e,c,CA,dx,_,_,rfl,.inr (J _ _ he),J _ _ hd,lk1 _ _,N.cl,N.na,rfl,_,rfl,?_⟩;refine cg rfl ?_;refine⟨_,rfl,.inl ⟨rfl,_,zG0 gm⟩,m,_,_,n,rfl,rfl,zG0 gm,rfl,rfl,?_,?_,?_⟩
  . have:=N.n3
    have:n=0∨n=1∨n=2:=by omega
    rcases this with rfl | rfl | rfl <;> exact⟨_,rfl,rfl⟩
  . have:=N.n3
    have:n=0∨n=1∨n=2:=by omega
    intro j hj y hy;rcases this with rfl | rfl | rfl
    . omega
    . have:j=0:=by omega
      subst this;cases hy;rfl
    . have:j=0∨j=1:=by omega
      rcases this with rfl | rfl <;> cases hy <;> rfl
  refine⟨_,rfl,(by show 7<=sizeLine;decide),fun tp htp=>?_⟩;have J2:=zB0 htp (.tup [.ref c3,.ref c2,.ref c5,.ref c0,.ref c4,.ref c9,.ref c1]);refine⟨e,c,CA,dx,_,_,rfl,.inr (J2 _ _ (J _ _ he)),N.cl,.inr (.inr ⟨tp,[c3,c2,c5,c0,c4,c9,c1],rfl,ah,N.kn⟩),_,rfl,?_⟩;refine eJ ?_;exact q m _ (J.trans J2)
 refine⟨_,rfl,v,x,rfl,hx _ (Same.refl _),?_⟩;obtain⟨dxD,aA,aC,aH,aT,R⟩:=id hD;have N6:=T.is6 a6;have N7:=T.is7 a7;have N8:=T.is8 a8;refine⟨_,rfl,rfl,_,rfl,?_⟩;cases rf with
 | hT h=>
   refine cg rfl ?_;refine⟨_,rfl,D,dxD,_,rfl,R.hD,wK,_,rfl,?_⟩;refine .inr (.inl ⟨D,g,v,z,rfl,hD,h,fun e dx H2 S2 he hd=>⟨e,_,dx,rfl,rfl,he,N6.cl,?_⟩⟩);refine⟨_,_,_,_,_,e,dx,_,0,rfl,he,hd,N6,fun m H3 S3=>?_⟩;have S03:=S2.trans S3;refine⟨_,rfl,v,x,rfl,hx _ S03,_,rfl,rfl,_,rfl,?_⟩;refine eU rfl ?_;exact⟨_,rfl,q _ S03⟩
 | hC h hl hn=>
   refine cg rfl ?_;refine⟨_,rfl,D,dxD,_,rfl,R.hD,wK,_,rfl,?_⟩;refine .inr (.inr (.inl ⟨_,D,g,_,z,_,_,rfl,hD,h,hl,hn,fun e dx H2 S2 he hd=>⟨e,_,dx,rfl,rfl,he,N7.cl,?_⟩⟩));refine⟨_,_,_,_,_,e,dx,_,1,rfl,he,hd,N7,fun m H3 S3=>?_⟩;have S03:=S2.trans S3;refine⟨_,rfl,_,x,rfl,hx _ S03,_,rfl,rfl,_,rfl,?_⟩;refine eU rfl ?_;exact⟨_,rfl,q _ S03⟩
 | hN h h5 hl ha hn=>
   refine cg rfl ?_;refine⟨_,rfl,D,dxD,_,rfl,R.hD,wK,_,rfl,?_⟩;refine .inr (.inr (.inr ⟨_,D,g,_,z,_,ns,ts,p,rfl,hD,hG,h,h5,hl,ha,hn,fun e dx H2 S2 he hd=>⟨e,_,dx,rfl,rfl,he,N8.cl,?_⟩⟩));refine⟨_,_,_,_,_,e,dx,_,2,rfl,he,hd,N8,fun m H3 S3=>?_⟩;have S03:=S2.trans S3;refine⟨_,rfl,_,x,rfl,hx _ S03,_,rfl,rfl,_,rfl,?_⟩;refine eU rfl ?_;exact⟨_,rfl,q _ S03⟩
 | cT h=>
   refine ba (by decide) ?_;refine⟨_,rfl,D,dxD,_,rfl,R.hD,AL,_,rfl,?_⟩;refine .inr (.inl ⟨D,g,z,v,rfl,hD,h,fun e dx H2 S2 he hd=>⟨e,_,dx,rfl,rfl,he,N6.cl,?_⟩⟩);refine⟨_,_,_,_,_,e,dx,_,0,rfl,he,hd,N6,fun m H3 S3=>?_⟩;have S03:=S2.trans S3;refine⟨_,rfl,v,x,rfl,hx _ S03,_,rfl,rfl,_,rfl,?_⟩;refine eU rfl ?_;exact⟨_,rfl,q _ S03⟩
 | cN h ha hn=>
   refine ba (by decide) ?_;refine⟨_,rfl,D,dxD,_,rfl,R.hD,AL,_,rfl,?_⟩;refine .inr (.inr ⟨D,g,z,v,ns,ts,p,rfl,hD,hG,h,ha,hn,fun e dx H2 S2 he hd=>⟨e,_,dx,rfl,rfl,he,N8.cl,?_⟩⟩);refine⟨_,_,_,_,_,e,dx,_,2,rfl,he,hd,N8,fun m H3 S3=>?_⟩;have S03:=S2.trans S3;refine⟨_,rfl,v,x,rfl,hx _ S03,_,rfl,rfl,_,rfl,?_⟩;refine eU rfl ?_;exact⟨_,rfl,q _ S03⟩
end
section
theorem sL{f a:Addr}{H H':Hp}(s:SameBut f H H')(n:a≠f)(h:H' a=none):H a=none:=by
 cases e:H a with
 | none=>rfl
 | some o=>
   rw[s _ _ n e]at h;cases h
def zo:Sp:=fun vs H Q _=>∃(f:Addr)(p:Int),vs=[.ref f,.int p]/\FeedAt H f/\2<p/\p<=999983/\∀(v:V)(H':Hp),FeedAt H' f->SameBut f H H'->AmAt (mf f H') v->kx p v=false->(∀a,v=.ref a->H a=none)->Q v H'
theorem B6:FnScope ["_law_feed_here","_law_p","_law_some"] ["_law_feed_here","_law_p"] (ak lY):=⟨rfl,rfl,rfl,by decide,rfl,by decide,by decide⟩
theorem zZ {f:Addr} {fd:FuncData} (F:Fun K "_law_bad" "_law_bad" lY f fd) (aE:Cal P w K mg base 1 "_law_take" ["_law_feed_here","_law_many"] dX):FnOk P w K mg base CX0 2 f fd ["_law_feed_here","_law_p"] zo:=by
 refine F.ok B6 (fun vs H Q E h=>?_) (fun cdv A outer s H vs Q E hr h=>?_)
 . obtain⟨f,p,rfl,_⟩:=h;rfl
 obtain ⟨f,p,rfl,F0,p2,p9,q⟩:=h;refine⟨_,PSW.out (bb (cI (i:=2) B6.nd rfl (Or.inl rfl) (cv (ao ⟨aj bd (aj bd ae ae) (al aE hr (by decide) rfl (aa (pv 0) (aa ae ac)))⟩ (ao ⟨pv 1⟩ (ao ⟨aj aN (pv 1) (al aE hr (by decide) rfl (aa (pv 0) (aa (aj zT ae ae) ac)))⟩ (ao ⟨jq bA (al aE hr (by decide) rfl (aa (pv 0) (aa ae ac))) ae (ay _)⟩ (ao CS (ao de (ao (db bg) (ao (cv (ao cE bg)) bg))))))))))
  (cQ (my (we_ix ix_list ⟨pv 2⟩ ⟨al aE hr (by decide) rfl (aa (pv 0) (aa ae ac))⟩ (fun _ _=>rfl))))),?_⟩
 refine⟨_,_,rfl,rfl,_,rfl,f,9,rfl,F0,by decide,by decide,fun t1 H1 t10 t11 F1 S1=>?_⟩;refine⟨_,_,rfl,rfl,_,rfl,_,rfl,_,rfl,_,_,rfl,rfl,⟨by decide,by decide,by decide⟩,f,_,rfl,F1,by decide,by decide,fun t2 H2 t20 t21 F2 S2=>?_⟩;refine⟨_,_,rfl,rfl,_,rfl,f,2,rfl,F2,by decide,by decide,fun t3 H3 t30 t31 F3 S3=>⟨rfl,?_⟩⟩;refine⟨(by show 0<=sizeLine;decide),fun a ha=>?_⟩;have J1:=zB0 ha (.tup []);have g1:upd H3 a (.tup []) a=some (.tup []):=ah;have af:a≠f:=F3.ne ha;have F4:=F3.same J1;generalize upd H3 a (.tup [])=H4 at J1 g1 F4;refine⟨(by show 1<=sizeLine;decide),fun b hb=>?_⟩;have J2:=zB0 hb (.lst [.int 0]);have g2:upd H4 b (.lst [.int 0]) b=some (.lst [.int 0]):=ah;have bf:b≠f:=F4.ne hb;have F5:=F4.same J2;have g15:=J2 _ _ g1;generalize upd H4 b (.lst [.int 0])=H5 at J2 g2 F5 g15;refine⟨(by show 8<=sizeLine;decide),fun L hL=>?_⟩;have J3:=zB0 hL (.lst [.int (0-1-t1),.int p,.int (p+t2),.bl (decide (V.int t3=V.int 1)),.non,.str "1",.ref a,.ref b]);have g3:upd H5 L (.lst [.int (0-1-t1),.int p,.int (p+t2),.bl (decide (V.int t3=V.int 1)),.non,.str "1",.ref a,.ref b]) L=some (.lst [.int (0-1-t1),.int p,.int (p+t2),.bl (decide (V.int t3=V.int 1)),.non,.str "1",.ref a,.ref b]):=ah;have Lf:L≠f:=F5.ne hL;have F6:=F5.same J3;have g16:=J3 _ _ g15;have g26:=J3 _ _ g2;generalize upd H5 L (.lst [.int (0-1-t1),.int p,.int (p+t2),.bl (decide (V.int t3=V.int 1)),.non,.str "1",.ref a,.ref b])=H6 at J3 g3 F6 g16 g26;refine⟨_,rfl,_,rfl,f,8,rfl,F6,by decide,by decide,fun t4 H7 t40 t41 F7 S7=>?_⟩;have S07:SameBut f H H7:=S1.trans (S2.trans (S3.trans ((zJ0 (J1.trans (J2.trans J3))).trans S7)));have n2:t2<1000000000:=t21;have k:t4=((0:Nat):Int)∨t4=((1:Nat):Int)∨t4=((2:Nat):Int)∨t4=((3:Nat):Int)∨t4=((4:Nat):Int)∨t4=((5:Nat):Int)∨t4=((6:Nat):Int)∨t4=((7:Nat):Int):=by omega
 have S03:SameBut f H H3:=S1.trans (S2.trans S3);have a0:H a=none:=sL S03 af ha;have b0:H b=none:=sL (S03.trans (zJ0 J1)) bf hb;obtain⟨v,hv,am,no,fr⟩:∃v,atI [V.int (0-1-t1),.int p,.int (p+t2),.bl (decide (V.int t3=V.int 1)),.non,.str "1",.ref a,.ref b] t4=some v/\AmAt (mf f H7) v/\kx p v=false/\∀a,v=.ref a->H a=none:=by
  rcases k with rfl | rfl | rfl | rfl | rfl | rfl | rfl | rfl
  . exact⟨_,rfl,.inl ⟨0-1-t1,rfl,by omega,by omega⟩,by show(decide (0<=0-1-t1)&&decide (0-1-t1<p))=false;rw[decide_eq_false (by omega)];rfl,fun _ z=>by cases z⟩
  . exact⟨_,rfl,.inl ⟨p,rfl,by omega,by omega⟩,by show(decide (0<=p)&&decide (p<p))=false;rw[decide_eq_false (show ¬ p<p by omega),Bool.and_false],fun _ z=>by cases z⟩
  . exact⟨_,rfl,.inl ⟨p+t2,rfl,by omega,by omega⟩,by show(decide (0<=p+t2)&&decide (p+t2<p))=false;rw[decide_eq_false (show ¬ p+t2<p by omega),Bool.and_false],fun _ z=>by cases z⟩
  . exact⟨_,rfl,.inr (.inl ⟨_,rfl⟩),rfl,fun _ z=>by cases z⟩
  . exact⟨_,rfl,.inr (.inr (.inl rfl)),rfl,fun _ z=>by cases z⟩
  . exact⟨_,rfl,.inr (.inr (.inr (.inl rfl))),rfl,fun _ z=>by cases z⟩
  . exact⟨_,rfl,.inr (.inr (.inr (.inr (.inl ⟨a,rfl,gZ (S7 _ _ af g16) af⟩)))),rfl,fun _ z=>by cases z;exact a0⟩
  . exact⟨_,rfl,.inr (.inr (.inr (.inr (.inr ⟨b,rfl,gZ (S7 _ _ bf g26) bf⟩)))),rfl,fun _ z=>by cases z;exact b0⟩
 exact⟨L,_,_,_,rfl,rfl,zG0 (S7 _ _ Lf g3),hv,q v H7 F7 S07 am no fr⟩
def rE:Sp:=fun vs H Q _=>∃(f l:Addr)(p:Int)(ys:List V),vs=[.ref f,.ref l,.int p]/\FeedAt H f/\l≠f/\H l=some (.lst ys)/\ys≠[]/\ys.length<=500/\2<p/\p<=999983/\∀(r:Addr)(xs:List V)(H':Hp),H r=none->FeedAt H' f->SameBut f H H'->H' r=some (.lst xs)->xs.length=ys.length->(∀v∈xs,AmAt (mf f H') v)->xs.all (kx p)=false->Q (.ref r) H'
theorem pk:FnScope ["_law_feed_here","_law_values","_law_p","_law_found"] ["_law_feed_here","_law_values","_law_p"] (ak ik):=⟨rfl,rfl,rfl,by decide,rfl,by decide,by decide⟩
theorem rY {f:Addr} {fd:FuncData} (F:Fun K "_law_spoilt" "_law_spoilt" ik f fd) (B:Bl mg) (aE:Cal P w K mg base 1 "_law_take" ["_law_feed_here","_law_many"] dX) (bq:Cal P w K mg base 2 "_law_coin" ["_law_feed_here","_law_p"] kH) (dS:Cal P w K mg base 2 "_law_bad" ["_law_feed_here","_law_p"] zo):FnOk P w K mg base CX0 3 f fd ["_law_feed_here","_law_values","_law_p"] rE:=by
 refine F.ok pk (fun vs H Q E h=>?_) (fun cdv A outer s H vs Q E hr h=>?_)
 . obtain⟨f,l,p,ys,rfl,_⟩:=h;rfl
 obtain ⟨f,l,p,ys,rfl,F0,lf,hl,y0,y5,p2,p9,q⟩:=h;refine⟨_,(ad (kh (i:=3) (N:=["_law_p","_law_feed_here"]) (ix:=[2,0]) pk.nd rfl (Or.inl rfl) rfl
  (CompScope.two (by rfl') (by decide) rfl (by decide) rfl (by decide) (by first | exact Or.inl rfl | exact Or.inr rfl) (by rfl') (by rfl') (by rfl') (by rfl') rfl rfl (by rfl') rfl rfl) rfl
  (dG (pv 1)) (fun _ _ _=>bZ (al bq hr (by decide) rfl (aa (pv 2) (aa (pv 1) ac)))))
  (ad (gN (al dS hr (by decide) rfl (aa (pv 0) (aa (pv 2) ac))) (kO (pv 3) (al aE hr (by decide) rfl (aa (pv 0) (aa (aD az rfl B.len PySem.boot_len (aa (pv 3) ac)) ac))) gQ))
  (ag (ax (pv 3))))),?_⟩
 refine⟨_,rfl,l,rfl,⟨_,zG0 hl⟩,fun r hr0=>?_⟩;have rf:r≠f:=F0.ne hr0;refine pP (K:=K) (xs:=ys) (fun i H'=>∃xs:List Int,H' r=some (.lst (xs.map V.int))/\xs.length=i/\cw xs p/\FeedAt H' f/\SameBut f H H') ⟨[],by rw[ah];rfl,rfl,(fun x hx=>by cases hx),F0.same (zB0 hr0 _),zJ0 (zB0 hr0 _)⟩ (fun i H' _ hst=>by obtain⟨_,_,_,_,_,h⟩:=hst;exact zG0 (h _ _ lf hl)) ?_ ?_
 . rintro i v H1 hv ⟨xs,h1,h2,h3,F1,S1⟩;have hi:=(zT0 hv).1;refine⟨_,rfl,_,rfl,f,p,rfl,F1,by omega,by omega,fun c H2 c0 c1 F2 S2=>?_⟩;have h12:=S2 _ _ rf h1;refine⟨_,h12,?_,Nx.of hi ⟨xs++[c],?_,?_,?_,?_,?_⟩⟩
   . rw[zE0,h2];exact aK (by omega)
   . rw[ah,zK0];rfl
   . rw[zR0,h2];rfl
   . intro x hx;rcases qD0 hx with h | h
     . exact h3 x h
     . rw[zQ0 h];exact⟨c0,c1⟩
   . obtain⟨u,t,e,k⟩:=F2;exact⟨u,t,by rw[aq (Ne.symm rf)];exact e,k⟩
   . intro b o n e;have nb:b≠r:=ai e hr0;rw[aq nb];exact S2 _ _ n (S1 _ _ n e)
 rintro H1 ⟨xs,h1,h2,h3,F1,S1⟩;refine⟨_,rfl,_,rfl,f,p,rfl,F1,p2,p9,fun v H2 F2 S2 am no fr=>?_⟩;have h12:=S2 _ _ rf h1;have y1:0<ys.length:=List.length_pos_iff.mpr y0;refine⟨_,rfl,_,rfl,_,rfl,r,_,rfl,.inl (zG0 h12),f,_,rfl,F2,by rw[zE0];omega,by rw[zE0];omega,fun t H3 t0 t1 F3 S3=>?_⟩;rw[zE0]at t1;have h13:=S3 _ _ rf h12;obtain⟨j,rfl⟩:∃j:Nat,t=(j:Int):=⟨t.toNat,by omega⟩
 have hj:j<xs.length:=by omega
 refine⟨r,_,_,j,rfl,rfl,h13,?_,?_⟩
 . unfold ixN;rw[zF0 (by omega),zF0 (by rw[zE0];omega)];rfl
 have S03:SameBut f H H3:=S1.trans (S2.trans S3);have up:SameBut r H3 (upd H3 r (.lst ((xs.map V.int).set j v))):=SameBut.upd _;have Sa:SameBut f H (upd H3 r (.lst ((xs.map V.int).set j v))):=fun b o n e=>by
  rw[aq (ai e hr0)];exact S03 _ _ n e
 have F4:FeedAt (upd H3 r (.lst ((xs.map V.int).set j v))) f:=by
  obtain⟨u,t,e,k⟩:=F3;exact⟨u,t,by rw[aq (Ne.symm rf)];exact e,k⟩
 have am3:AmAt (mf f (upd H3 r (.lst ((xs.map V.int).set j v)))) v:=by
  rcases am with h | h | h | h | ⟨a,e,h⟩ | ⟨a,e,h⟩
  . exact .inl h
  . exact .inr (.inl h)
  . exact .inr (.inr (.inl h))
  . exact .inr (.inr (.inr (.inl h)))
  all_goals
   have h':=io S3 _ _ h;have ha:=mf_sub _ _ h';have haf:a≠f:=fun z=>by
    unfold mf at h;rw[zF0 z]at h;cases h
   have har:a≠r:=fun z=>by
    have:=fr a e
    rw[z,h1]at this;cases this
   first
    | exact .inr (.inr (.inr (.inr (.inl ⟨a,e,gZ (by rw[aq har];exact ha) haf⟩))))
    | exact .inr (.inr (.inr (.inr (.inr ⟨a,e,gZ (by rw[aq har];exact ha) haf⟩))))
 refine⟨_,rfl,q r _ _ hr0 F4 Sa ah (by rw[List.length_set,zE0,h2]) (fun x hx=>?_) ?_⟩
 . rcases List.mem_or_eq_of_mem_set hx with h | h
   . obtain⟨n,hn,rfl⟩:=List.mem_map.mp h;exact rn (h3 n hn).1 (h3 n hn).2 p9
   . rw[h];exact am3
 . rw[List.all_eq_false];exact⟨v,List.mem_set (by rw[zE0];exact hj) v,by rw[no];exact qA0⟩
end
section
def Ej (ns:List Str) (ts:List Tr) (p:Int) (h:Hd) (tru:Bool) (xs:List Int):Prop:=cw xs p/\(h.cl=[]->xs.length=ts.length/\(tru=true->xs=ts.map fun t=>cy ns [t] 0 p []))/\(h.cl≠[]->(xs.length:Int)=bj ts (ns.getD h.co.length "")+1/\(tru=true->xs=jw ns ts h.s p h.co (bj ts (ns.getD h.co.length "")+1).toNat)/\(tru=false->ends p xs=h.due))
def zd:Sp:=fun vs H Q _=>∃(f dr hA a b:Addr)(ns:List Str)(tv:List V)(ts:List Tr)(p many:Int)(h:Hd)(tru:Bool),vs=[.ref f,.ref dr,.ref hA,.int many,.bl tru]/\FeedAt H f/\H dr=some (.tup [.ref a,.ref b,.int p])/\H a=some (.tup (ns.map V.str))/\ns.length<=6/\H b=some (.tup tv)/\TreesAt H tv ts/\GmK ns ts p/\HdAt H hA h/\
 (h.cl≠[]->h.co.length<ns.length/\cw h.co p/\0<=h.due/\h.due<p/\many=bj ts (ns.getD h.co.length "")+1)/\∀(l:Addr) (xs:List Int) (H':Hp),H l=none->FeedAt H' f->SameBut f H H'->H' l=some (.lst (xs.map V.int))->Ej ns ts p h tru xs->Q (.ref l) H'
theorem eA:FnScope ["_law_feed_here","_law_drawn","_law_held","_law_many","_law_is_true","_law_names_here","_law_trees","_law_p"] ["_law_feed_here","_law_drawn","_law_held","_law_many","_law_is_true"] (ak fq):=⟨rfl,rfl,rfl,by decide,rfl,by decide,by decide⟩
theorem oO {f:Addr} {fd:FuncData} (F:Fun K "_law_next_row" "_law_next_row" fq f fd) (B:Bl mg) (ib:Cal P w K mg base 13 "_law_sum" ["_law_names_here","_law_trees","_law_s","_law_point","_law_p"] tS) (bq:Cal P w K mg base 2 "_law_coin" ["_law_feed_here","_law_p"] kH) (u8:Cal P w K mg base 14 "_law_true" ["_law_names_here","_law_trees","_law_s","_law_coins","_law_p"] vO) (u9:Cal P w K mg base 3 "_law_said" ["_law_feed_here","_law_many","_law_due","_law_p","_law_fits"] zc):FnOk P w K mg base CX0 15 f fd ["_law_feed_here","_law_drawn","_law_held","_law_many","_law_is_true"] zd:=by
 refine F.ok eA (fun vs H Q E h=>?_) (fun cdv A outer s H vs Q E hr h=>?_)
 . obtain⟨f,dr,hA,a,b,ns,tv,ts,p,many,h,tru,rfl,_⟩:=h;rfl
 obtain ⟨f,dr,hA,a,b,ns,tv,ts,p,many,h,tru,rfl,F0,hdr,ha,nl,hb,TS,k,⟨c,rr,kk,h1,h2,h3,h4⟩,hc,q⟩:=h;refine⟨_,(ad (gN (pv 1) (nI rfl (bx (aQ (i:=5) eA.nd rfl (Or.inr rfl)) (bx (aQ (i:=6) eA.nd rfl (Or.inl rfl)) (bx (aQ (i:=7) eA.nd rfl (Or.inr rfl)) jp)))))
  (ad (aX (PW.pt (kM (av (jH hr.units) (aJ ix_list (pv 2) ae (fun _ _=>rfl)) (bo ac) (ay _)) (ke (fZ (pv 4)))))
   (ag (ax (cz (N:=["_law_names_here","_law_p"]) (ix:=[5,7]) rfl
    (CompScope.two (by rfl') (by decide) rfl (by decide) rfl (by decide) (by first | exact Or.inl rfl | exact Or.inr rfl) (by rfl') (by rfl') (by rfl') (by rfl') rfl rfl (by rfl') rfl rfl) rfl
    (dk (pv 6)) (fun _ _ _=>bZ (al ib hr (by decide) rfl (aa (pv 1) (aa (bo (aa (pv 0) ac)) (aa ae (aa (aY ac) (aa (pv 2) ac)))))))))) aI)
  (ad (aX (av (jH hr.units) (aJ ix_list (pv 2) ae (fun _ _=>rfl)) (bo ac) (ay _))
   (ag (ax (cz (N:=["_law_feed_here","_law_p"]) (ix:=[0,7]) rfl
    (CompScope.two (by rfl') (by decide) rfl (by decide) rfl (by decide) (by first | exact Or.inl rfl | exact Or.inr rfl) (by rfl') (by rfl') (by rfl') (by rfl') rfl rfl (by rfl') rfl rfl) rfl
    (dk (pv 6)) (fun _ _ _=>bZ (al bq hr (by decide) rfl (aa (pv 1) (aa (pv 2) ac))))))) aI)
  (ad (aX (fZ (pv 4)) (ag (ax (al u8 hr (by decide) rfl (aa (pv 5) (aa (pv 6) (aa (aJ ix_list (pv 2) ae (fun _ _=>rfl)) (aa (aJ ix_list (pv 2) ae (fun _ _=>rfl)) (aa (pv 7) ac)))))))) aI)
  (ag (ax (al u9 hr (by decide) rfl (aa (pv 0) (aa (pv 3) (aa (aJ ix_list (pv 2) ae (fun _ _=>rfl)) (aa (pv 7) (aa fg ac)))))))))))),?_⟩
 have p2:=k.p2;have p9:=k.p9;have p0:0<p:=by omega
 have vl:=TS.length;refine⟨_,rfl,dr,_,rfl,zC0 hdr,rfl,_,_,rfl,_,_,rfl,_,_,rfl,rfl,?_⟩;refine⟨_,rfl,hA,_,1,_,rfl,rfl,zG0 h1,aO (j:=1) rfl,zN0 _,fun e1 he1=>?_⟩;have J1:=zB0 he1 (.lst []);have ge:upd H e1 (.lst []) e1=some (.lst []):=ah;generalize upd H e1 (.lst [])=H1 at J1 ge;refine⟨_,_,eP (J1 _ _ h2),eP (xs:=[]) ge,cM _,cM [],_,rfl,?_⟩;rw[show PyData.eqv (.list (h.cl.map PyData.int)) (.list (([]:List Int).map PyData.int))=decide (h.cl=[])from oq h.cl []]
 by_cases cc:h.cl=[]
 . refine cg cc ?_;refine⟨_,rfl,tru,rfl,?_⟩;cases tru with
   | true =>
     refine fE ?_;refine⟨_,rfl,b,rfl,⟨_,zC0 (J1 _ _ hb)⟩,fun D2 hD2=>?_⟩;refine cG (K:=K) (xs:=tv) (fun i H'=>H' D2=some (.lst (((ts.take i).map fun t=>cy ns [t] 0 p []).map V.int))/\Same H1 H') ⟨by rw[ah];rfl,zB0 hD2 _⟩ (fun i H' _ h=>zC0 (h.2 _ _ (J1 _ _ hb))) ?_ ?_
     . rintro i y H13 hy ⟨hl,S13⟩;obtain⟨t,ht,Tt⟩:=TS.get hy;obtain⟨tk,tw,td,tz⟩:=k.tok t (zZ0 ht);have hi:i<tv.length:=(zT0 hy).1;refine⟨_,rfl,_,rfl,(by show 1<=sizeLine;decide),fun l1 hl1=>?_⟩;have J2:=zB0 hl1 (.lst [y]);have g1:upd H13 l1 (.lst [y]) l1=some (.lst [y]):=ah;generalize upd H13 l1 (.lst [y])=H14 at J2 g1;refine⟨(by show 0<=sizeLine;decide),fun l2 hl2=>?_⟩;have J3:=zB0 hl2 (.tup []);have g2:upd H14 l2 (.tup []) l2=some (.tup []):=ah;generalize upd H14 l2 (.tup [])=H15 at J3 g2;have S15:=J1.trans (S13.trans (J2.trans J3));refine⟨_,rfl,true,a,l1,l2,ns,[y],[t],[],0,p,rfl,S15 _ _ ha,nl,J3 _ _ g1,.cons (Tt.mono (aB S15)) .nil,(by show 1<=10;decide),fun t' ht'=>by rw[zQ0 ht'];exact⟨tk,td⟩,g2,zN0 _,(fun x hx=>by cases hx),by omega,by omega,fun H16 S16=>?_⟩;refine⟨_,S16 _ _ (J3 _ _ (J2 _ _ hl)),?_,Nx.of hi ⟨?_,fun b' o' e'=>?_⟩⟩
       . rw [zE0,zE0,qJ0]
         have:=k.t10
         exact aK (by omega)
       . rw[ah,qI0,ht,zK0,zK0];rfl
       . rw[aq (ai e' hD2)];exact S16 _ _ (J3 _ _ (J2 _ _ (S13 _ _ e')))
     . rintro H13 ⟨hl13,S13⟩;rw[vl,qG0]at hl13;have S03:=J1.trans S13;refine q D2 _ H13 (J1.free hD2) (F0.same S03) (zJ0 S03) hl13 ⟨fun x hx=>?_,fun _=>⟨zE0 ..,fun _=>rfl⟩,fun z=>absurd cc z⟩;obtain⟨t,_,rfl⟩:=List.mem_map.mp hx;exact pw p0 _
   | false=>
     refine eJ ?_;refine⟨_,rfl,hA,_,1,_,rfl,rfl,zG0 (J1 _ _ h1),aO (j:=1) rfl,zN0 _,fun e2 he2=>?_⟩;have J2:=zB0 he2 (.lst []);have ge2:upd H1 e2 (.lst []) e2=some (.lst []):=ah;generalize upd H1 e2 (.lst [])=H2 at J2 ge2;have S02:=J1.trans J2;refine⟨_,_,eP (S02 _ _ h2),eP (xs:=[]) ge2,cM _,cM [],_,rfl,?_⟩;rw[show PyData.eqv (.list (h.cl.map PyData.int)) (.list (([]:List Int).map PyData.int))=decide (h.cl=[])from oq h.cl []];refine cg cc ?_;have F2:=F0.same S02;have hb2:=S02 _ _ hb;refine⟨_,rfl,b,rfl,⟨_,zC0 hb2⟩,fun D2 hD2=>?_⟩;have D2f:D2≠f:=F2.ne hD2;refine cG (K:=K) (xs:=tv) (fun i H'=>∃xs:List Int,H' D2=some (.lst (xs.map V.int))/\xs.length=i/\cw xs p/\FeedAt H' f/\SameBut f H2 H') ⟨[],by rw[ah];rfl,rfl,(fun x hx=>by cases hx),F2.same (zB0 hD2 _),zJ0 (zB0 hD2 _)⟩ (fun i H' _ hst=>by obtain⟨_,_,_,_,_,h⟩:=hst;exact zC0 (h _ _ (bi F2 hb2 (fun _ z=>by cases z)) hb2)) ?_ ?_
     . rintro i v H3 hv ⟨xs,e1,e2,e3,F3,S3⟩;have hi:=(zT0 hv).1;refine⟨_,rfl,_,rfl,f,p,rfl,F3,by omega,by omega,fun c H4 c0 c1 F4 S4=>?_⟩;have e14:=S4 _ _ D2f e1
       have:=k.t10
       refine⟨_,e14,?_,Nx.of hi ⟨xs++[c],?_,?_,?_,?_,?_⟩⟩
       . rw[zE0,e2];exact aK (by omega)
       . rw[ah,zK0];rfl
       . rw[zR0,e2];rfl
       . intro x hx;rcases qD0 hx with h | h
         . exact e3 x h
         . rw[zQ0 h];exact⟨c0,c1⟩
       . obtain⟨u,t,e,k⟩:=F4;exact⟨u,t,by rw[aq (Ne.symm D2f)];exact e,k⟩
       . intro b o n e;rw[aq (ai e hD2)];exact S4 _ _ n (S3 _ _ n e)
     . rintro H3 ⟨xs,e1,e2,e3,F3,S3⟩;exact q D2 xs H3 (S02.free hD2) F3 ((zJ0 S02).trans S3) e1 ⟨e3,fun _=>⟨by rw[e2,vl],fun z=>by cases z⟩,fun z=>absurd cc z⟩
 . refine ba cc ?_;obtain⟨cl,po,du0,du1,em⟩:=hc cc;refine⟨_,rfl,hA,_,1,_,rfl,rfl,zG0 (J1 _ _ h1),aO (j:=1) rfl,zN0 _,fun e2 he2=>?_⟩;have J2:=zB0 he2 (.lst []);have ge2:upd H1 e2 (.lst []) e2=some (.lst []):=ah;generalize upd H1 e2 (.lst [])=H2 at J2 ge2;have S02:=J1.trans J2;refine⟨_,_,eP (S02 _ _ h2),eP (xs:=[]) ge2,cM _,cM [],_,rfl,?_⟩;rw[show PyData.eqv (.list (h.cl.map PyData.int)) (.list (([]:List Int).map PyData.int))=decide (h.cl=[])from oq h.cl []];refine ba cc ?_;have F2:=F0.same S02;have hx:ns.getD h.co.length ""∈ns:=by
    rw[qM0,zU0 cl];exact qR0 cl
   have dr1:=k.deg _ hx;have d4:=rb k (ns.getD h.co.length "");refine⟨_,rfl,tru,rfl,?_⟩;cases tru with
   | true=>
     refine fE ?_;refine⟨_,rfl,_,rfl,_,rfl,hA,_,3,_,rfl,rfl,zG0 (S02 _ _ h1),aO (j:=3) rfl,_,rfl,hA,_,4,_,rfl,rfl,zG0 (S02 _ _ h1),aO (j:=4) rfl,_,rfl,?_⟩;refine⟨a,b,kk,ns,tv,ts,h.co,h.s,p,rfl,S02 _ _ ha,nl,S02 _ _ hb,TS.mono (aB S02),k,S02 _ _ h4,cl,po,fun l H3 l0 S3 hl=>?_⟩;have S03:=S02.trans S3;exact q l _ H3 (S02.free l0) (F0.same S03) (zJ0 S03) hl ⟨Bw p0 _ _,fun z=>absurd z cc,fun _=>⟨by rw[zF];omega,fun _=>rfl,fun z=>by cases z⟩⟩
   | false=>
     refine eJ ?_;refine⟨_,rfl,_,rfl,_,rfl,hA,_,0,_,rfl,rfl,zG0 (S02 _ _ h1),aO (j:=0) rfl,_,rfl,?_⟩;refine⟨f,many,h.due,p,true,rfl,F2,by omega,by omega,by omega,lu k.pr (by omega),p2,by omega,du0,du1,fun l xs H3 l0 lf hl F3 S3 xl xo ef=>?_⟩;exact q l xs H3 (S02.free l0) F3 ((zJ0 S02).trans S3) hl ⟨xo,fun z=>absurd z cc,fun _=>⟨by rw[xl,em],(fun z=>by cases z),fun _=>ef.mpr rfl⟩⟩
end
section
variable {C CG:Addr}
def Cv(C CG:Addr):Sp:=fun vs H Q _=>∃(f D g a b d dr hA:Addr)(z:Db)(ns:List Str)(tv:List V)(ts:List Tr)(p:Int)(h:Hd),vs=[.ref D,.ref dr,.ref hA]/\Wd C CG H f D g a b d d z ns tv ts p/\GmK ns ts p/\H dr=some (.tup [.ref a,.ref b,.int p])/\HdAt H hA h/\h.co=z.to/\h.s=z.s/\h.due=z.ed/\z.pl=h.lk+szs ts/\z.to.length=ns.length/\cw z.to p/\
 z.aw=(if z.ed=hor z.s p (ts.map fun t=>t.worth ns z.to p)then(("believed":Str),none)else(("caught":Str),some ((ns.length:Int)+1)))/\∀H',Same H H'->Q (.bl true) H'
def tFin(C CG:Addr):TS:=fun Dn σ H=>∃(x1 x3 x5 x6 x8:Option V)(f D g a b d hA e:Addr)(z:Db)(ns:List Str)(tv:List V)(ts:List Tr)(p:Int)(h:Hd),σ=[some (.ref D),x1,some (.ref hA),x3,some (.ref b),x5,x6,some (.ref e),x8]/\Wd C CG H f D g a b d d z ns tv ts p/\GmK ns ts p/\HdAt H hA h/\h.due=z.ed/\z.pl=h.lk+szs ts/\AwW z.aw.1/\H e=some (.tup (awV z.aw))/\∀H',Same H H'->Dn.rt (.bl true) H'
theorem cq:FnScope ["_law_doubter","_law_drawn","_law_held","_law_names_here","_law_trees","_law_p","_law_worths","_law_end","_law_looked"] ["_law_doubter","_law_drawn","_law_held"] (ak jV):=⟨rfl,rfl,rfl,by decide,rfl,by decide,by decide⟩
theorem xS {f:Addr} {fd:FuncData} (F:Fun K "_law_ends" "_law_ends" jV f fd) (B:Bl mg) (cp:Cal P w K mg base 12 "_law_worth" ["_law_tree_here","_law_names_here","_law_point","_law_p"] (tX 10)) (d8:Cal P w K mg base 1 "_law_mix" ["_law_numbers","_law_s","_law_p"] qe) (iI:Cal P w K mg base 12 "_law_size" ["_law_tree_here"] (eX 10)) (b6:Cal P w K mg base 2 "_law_state" ["_law_doubter"] (lS C)):FnOk P w K mg base CX0 13 f fd ["_law_doubter","_law_drawn","_law_held"] (Cv C CG):=by
 refine F.ok cq (fun vs H Q E h=>?_) (fun cdv A outer s H vs Q E hr h=>?_)
 . obtain⟨f,D,g,a,b,d,dr,hA,z,ns,tv,ts,p,h,rfl,_⟩:=h;rfl
 obtain ⟨f,D,g,a,b,d,dr,hA,z,ns,tv,ts,p,h,rfl,W,k,hdr,HA,eco,es,edu,epl,tl,po,eaw,q⟩:=h;refine⟨_,(ad (gN (pv 1) (nI rfl (bx (aQ (i:=3) cq.nd rfl (Or.inr rfl)) (bx (aQ (i:=4) cq.nd rfl (Or.inl rfl)) (bx (aQ (i:=5) cq.nd rfl (Or.inr rfl)) jp)))))
  (ad (kh (i:=6) (N:=["_law_p","_law_names_here","_law_held"]) (ix:=[5,3,2]) cq.nd rfl (Or.inl rfl) rfl
   (CompScope.three (by rfl') (by decide) rfl (by decide) rfl (by decide) rfl (by rfl') (by rfl') (by rfl') (by rfl') (by rfl') rfl rfl (by rfl') rfl rfl (by rfl') rfl rfl) rfl
   (dk (pv 4)) (fun _ _ _=>bZ (al cp hr (by decide) rfl (aa (pv 0) (aa (pv 2) (aa (bO (iW K) rfl B.tuple bX (aa (aJ (sH K) (pv 3) ae (fun _ _=>rfl)) ac)) (aa (pv 1) ac)))))))
  (ad (au (i:=7) cq.nd rfl (Or.inl rfl) (aY (aa aG (aa (aj aN (aD az rfl B.len PySem.boot_len (aa (pv 3) ac)) ae) ac))))
  (ad (aX (av bA (al d8 hr (by decide) rfl (aa (pv 6) (aa (aJ ix_list (pv 2) ae (fun _ _=>rfl)) (aa (pv 5) ac)))) (aJ ix_list (pv 2) ae (fun _ _=>rfl)) (ay _)) (ag (au (i:=7) cq.nd rfl (Or.inl rfl) (aY (aa aG ac)))) aI)
  (qy (t':=tFin C CG) (ad (au (i:=8) cq.nd rfl (Or.inl rfl) (aj aN (aJ ix_list (pv 2) ae (fun _ _=>rfl)) (aD (kB rfl) rfl B.sum PyProof.Rows.boot_sum (aa (cz (N:=[]) (ix:=[]) (cl:=[]) rfl (CompScope.closed (by rfl') (by decide) rfl (by decide) rfl (by rfl')) rfl
   (dk (pv 4)) (fun _ _ _=>bZ (al iI hr (by decide) rfl (aa (pv 0) ac)))) ac))))
  (ag (ax (jq (jH hr.units) (al b6 hr (by decide) rfl (aa (pv 0) ac)) (aY (aa (pv 7) (aa (aJ ix_list (pv 2) ae (fun _ _=>rfl)) (aa (pv 8) ac)))) (ay _))))) ?ff))))),?_⟩
 case ff=>
  rintro Dn σ H ⟨x1,x3,x5,x6,x8,f,D,g,a,b,d,hA,e,z,ns,tv,ts,p,h,rfl,W,k,⟨c,rr,kk,h1,h2,h3,h4⟩,edu,epl,aww,he,q⟩;have TS:=W.G.2.2.2.1;have hb:=W.G.2.2.1;have vl:=TS.length;refine⟨_,rfl,hA,_,5,_,rfl,rfl,zG0 h1,aO (j:=5) rfl,_,rfl,b,rfl,⟨_,zC0 hb⟩,fun D1 hD1=>?_⟩;refine cG (K:=K) (xs:=tv) (fun i H'=>H' D1=some (.lst (((ts.take i).map fun t=>(t.size:Int)).map V.int))/\Same H H') ⟨by rw[ah];rfl,zB0 hD1 _⟩ (fun i H' _ h=>zC0 (h.2 _ _ hb)) ?_ ?_
  . rintro i x H8 hx ⟨hl,S8⟩;obtain⟨u,hu,Tu⟩:=TS.get hx;obtain⟨_,uw,ud,us⟩:=k.tok u (zZ0 hu);have hi:i<tv.length:=(zT0 hx).1
    have:=k.t10
    refine⟨_,rfl,x,u,rfl,Tu.mono (aB S8),uw,ud,us,fun H9 S9=>?_⟩;refine⟨_,S9 _ _ hl,?_,Nx.of hi ⟨?_,fun b o e=>?_⟩⟩
    . rw[zE0,zE0,qJ0];exact aK (by omega)
    . rw[ah,qI0,hu,zK0,zK0];rfl
    . rw[aq (ai e hD1)];exact S9 _ _ (S8 _ _ e)
  rintro H8 ⟨hl8,S8⟩;rw[vl,qG0]at hl8;have sr:=vK (fun t ht=>(k.tok t ht).2.2.2) k.t10;refine⟨D1,_,rfl,zG0 hl8,?_,(by show szs ts<2 ^ 63;omega),?_⟩
  . intro n hn;obtain⟨u,hu,rfl⟩:=List.mem_map.mp hn;omega
  refine ⟨_,_,rfl,rfl,?_⟩;have W8:=W.same S8;refine⟨_,rfl,D,g,z,rfl,W8.Dd,fun t u H9 S9 ht hu=>?_⟩;have S09:=S8.trans S9;refine⟨_,rfl,_,rfl,hA,_,0,_,rfl,rfl,zG0 (S09 _ _ h1),aO (j:=0) rfl,_,rfl,(by show 3<=sizeLine;decide),fun t2 ht2=>?_⟩;have J:=zB0 ht2 (.tup [.ref e,.int h.due,.int (h.lk+szs ts)]);have g2:upd H9 t2 (.tup [.ref e,.int h.due,.int (h.lk+szs ts)]) t2=some (.tup [.ref e,.int z.ed,.int z.pl]):=by
   rw[ah,edu,epl]
  refine⟨_,_,kL (J _ _ hu) (J _ _ ht),kL (J _ _ (S09 _ _ he)) g2,dZ aww,dZ aww,?_⟩;rw[vf aww];exact q _ (S09.trans J)
 have HA':=HA;obtain⟨c,rr,kk,h1,h2,h3,h4⟩:=HA';have p2:=k.p2;have p9:=k.p9;have ha:=W.G.2.1;have hb:=W.G.2.2.1;have TS:=W.G.2.2.2.1;have vl:=TS.length;rw[eco]at h4;refine⟨_,rfl,dr,_,rfl,zC0 hdr,rfl,_,_,rfl,_,_,rfl,_,_,rfl,rfl,?_⟩;refine⟨_,rfl,b,rfl,⟨_,zC0 hb⟩,fun D2 hD2=>?_⟩;refine cG (K:=K) (xs:=tv) (fun i H'=>H' D2=some (.lst (((ts.take i).map fun t=>t.worth ns z.to p).map V.int))/\Same H H') ⟨by rw[ah];rfl,zB0 hD2 _⟩ (fun i H' _ h=>zC0 (h.2 _ _ hb)) ?_ ?_
 . rintro i v H4 hv ⟨hl,S4⟩;obtain⟨t,ht,Tt⟩:=TS.get hv;obtain⟨tk,tw,td,tz⟩:=k.tok t (zZ0 ht);have hi:i<tv.length:=(zT0 hv).1
   have:=k.t10
   refine⟨_,rfl,_,rfl,_,rfl,hA,_,4,_,rfl,rfl,zG0 (S4 _ _ h1),aO (j:=4) rfl,kk,_,rfl,.inl ⟨zG0 (S4 _ _ h4),fun t1 ht1=>?_⟩⟩;have J1:=zB0 ht1 (.tup (z.to.map V.int));have g1:upd H4 t1 (.tup (z.to.map V.int)) t1=some (.tup (z.to.map V.int)):=ah;generalize upd H4 t1 (.tup (z.to.map V.int))=H5 at J1 g1;have S05:=S4.trans J1;refine⟨_,rfl,v,t,a,t1,ns,z.to,p,rfl,Tt.mono (aB S05),tk,td,.inr (S05 _ _ ha),g1,tl,by omega,by omega,po,fun H6 S6=>?_⟩;refine⟨_,S6 _ _ (J1 _ _ hl),?_,Nx.of hi ⟨?_,fun b' o' e'=>?_⟩⟩
   . rw[zE0,zE0,qJ0];exact aK (by omega)
   . rw[ah,qI0,ht,zK0,zK0];rfl
   . rw[aq (ai e' hD2)];exact S6 _ _ (J1 _ _ (S4 _ _ e'))
 rintro H4 ⟨hl,S4⟩;rw[vl,qG0]at hl;refine⟨_,rfl,a,_,rfl,.inr (zC0 (S4 _ _ ha)),_,_,rfl,rfl,(by show 2<=sizeLine;decide),fun t1 ht1=>?_⟩;rw[zE0];have J1:=zB0 ht1 (.tup [.str "caught",.int ((ns.length:Int)+1)]);have g1:upd H4 t1 (.tup [.str "caught",.int ((ns.length:Int)+1)]) t1=some (.tup [.str "caught",.int ((ns.length:Int)+1)]):=ah;generalize upd H4 t1 (.tup [.str "caught",.int ((ns.length:Int)+1)])=H5 at J1 g1;have S05:=S4.trans J1;refine⟨_,rfl,_,rfl,hA,_,3,_,rfl,rfl,zG0 (S05 _ _ h1),aO (j:=3) rfl,_,rfl,D2,_,h.s,p,rfl,J1 _ _ hl,by omega,by omega,fun H6 S6=>?_⟩;have S06:=S05.trans S6;refine⟨_,rfl,hA,_,0,_,rfl,rfl,zG0 (S06 _ _ h1),aO (j:=0) rfl,rfl,_,rfl,?_⟩;rw[es,edu]
 by_cases e:z.ed=hor z.s p (ts.map fun t=>t.worth ns z.to p)
 . rw[zF0 e]at eaw;refine cg (congrArg V.int e.symm) ?_;refine⟨(by show 1<=sizeLine;decide),fun t2 ht2=>?_⟩;have J2:=zB0 ht2 (.tup [.str "believed"]);have g2:upd H6 t2 (.tup [.str "believed"]) t2=some (.tup [.str "believed"]):=ah;generalize upd H6 t2 (.tup [.str "believed"])=H7 at J2 g2;have S07:=S06.trans J2;exact⟨_,_,_,_,_,f,D,g,a,b,d,hA,t2,z,ns,tv,ts,p,h,rfl,W.same S07,k,HA.same S07,edu,epl,by rw[eaw];exact .inr (.inr (.inr rfl)),by rw[eaw];exact g2,fun H' s'=>q _ (S07.trans s')⟩
 . rw[zD0 e]at eaw;refine ba (fun z=>e (V.int.inj z).symm) ?_;exact⟨_,_,_,_,_,f,D,g,a,b,d,hA,t1,z,ns,tv,ts,p,h,rfl,W.same S06,k,HA.same S06,edu,epl,by rw[eaw];exact .inr (.inr (.inl rfl)),by rw[eaw];exact S6 _ _ g1,fun H' s'=>q _ (S06.trans s')⟩
end
section
variable {C CG:Addr}
theorem cutTo{xs:List V}{k:Nat}:eZ xs none (some (k:Int))=xs.take k:=by
 unfold eZ;rw[HT.sIx_none,HT.sIx_nat,List.drop_zero,Nat.sub_zero]
 by_cases c:k<=xs.length
 . rw[Nat.min_eq_left c]
 . rw[Nat.min_eq_right (by omega),qG0,List.take_of_length_le (by omega)]
theorem wP{xs:List V}{k:Nat}:eZ xs (some (k:Int)) none=xs.drop k:=by
 unfold eZ;rw[HT.sIx_none,HT.sIx_nat]
 by_cases c:k<=xs.length
 . rw[Nat.min_eq_left c];exact List.take_of_length_le (by rw[List.length_drop];exact zI0 _)
 . rw[Nat.min_eq_right (by omega),List.drop_length,List.drop_of_length_le (by omega),List.take_nil]
def TryAt(K:W.Frag)(H:Hp)(z:Db)(p:Int)(t:V):Prop:=∃(a:Addr)(kd:Str)(v:V)(n:Int),t=.ref a/\H a=some (.tup [.str kd,v,.int n])/\Th K H v/\Rf H z p kd v n
theorem TryAt.same{H H':Hp}{z:Db}{p:Int}{t:V}(h:TryAt K H z p t)(s:Same H H'):TryAt K H' z p t:=by
 obtain⟨a,kd,v,n,e,ha,th,rf⟩:=h;exact⟨a,kd,v,n,e,s _ _ ha,th.same s,rf.same s⟩
theorem dz{H:Hp}{f t:Addr}{z:Db}{p n:Int}{kd:Str}{v:V}(ht:H t=none)(tf:t≠f)(th:Th K (mf f H) v)(rf:Rf (mf f H) z p kd v n):TryAt K (mf f (upd H t (.tup [.str kd,v,.int n]))) z p (.ref t):=by
 have s:=aR (f:=f) (zB0 ht (.tup [.str kd,v,.int n]));exact⟨t,kd,v,n,rfl,gZ ah tf,th.same s,rf.same s⟩
theorem qV{H:Hp}{p:Int}{xs:List Int}(po:cw xs p)(p9:p<=999983):∀v∈xs.map V.int,AmAt H v:=fun v hv=>by
 obtain⟨n,hn,rfl⟩:=List.mem_map.mp hv;exact rn (po n hn).1 (po n hn).2 p9
theorem DP{f D:Addr}{H:Hp}:Same (hfd f D H) (mf f H):=fun a o e=>gZ (bK _ _ e) (vc e)
theorem vA{f T:Addr}{H:Hp}{v:V}{tvs:List V}(h:AmAt (mf f H) v)(hT:H T=some (.lst tvs))(ne:tvs≠[.int 0]):AmAt (hfd f T H) v:=by
 rcases h with h | h | h | h | ⟨a,e,h⟩ | ⟨a,e,h⟩
 . exact .inl h
 . exact .inr (.inl h)
 . exact .inr (.inr (.inl h))
 . exact .inr (.inr (.inr (.inl h)))
 . have h1:=mf_sub _ _ h;have af:a≠f:=fun z=>by
    unfold mf at h;rw[zF0 z]at h;cases h
   exact .inr (.inr (.inr (.inr (.inl ⟨a,e,ci h1 af (dh h1 hT (by intro z;cases z))⟩))))
 . have h1:=mf_sub _ _ h;have af:a≠f:=fun z=>by
    unfold mf at h;rw[zF0 z]at h;cases h
   exact .inr (.inr (.inr (.inr (.inr ⟨a,e,ci h1 af (dh h1 hT (by intro z;injection z with z;exact ne z.symm))⟩))))
theorem tP{f T:Addr}{H:Hp}{z:Db}{p:Int}{tvs:List V}(tt:∀t∈tvs,TryAt K (hfd f T H) z p t):tvs≠[.int 0]:=fun e=>by
 obtain⟨a,_,_,_,z,_⟩:=tt (.int 0) (by rw[e];exact qL0);cases z
theorem mF{H:Hp}{f T t:Addr}{z:Db}{p n:Int}{kd:Str}{v:V}(ht:H t=none)(tf:t≠f)(tT:t≠T)(th:Th K (hfd f T H) v)(rf:Rf (hfd f T H) z p kd v n):TryAt K (hfd f T (upd H t (.tup [.str kd,v,.int n]))) z p (.ref t):=by
 have s:=bh (f:=f) (D:=T) (zB0 ht (.tup [.str kd,v,.int n]));exact⟨t,kd,v,n,rfl,ci ah tf tT,th.same s,rf.same s⟩
theorem jO{H:Hp}{f T:Addr}{o:HO}:Sb2 f T H (upd H T o):=fun b o' _ m e=>by
 rw[aq m];exact e
theorem nj{H:Hp}{f T:Addr}{z:Db}{p:Int}{tvs:List V}{t:V}(tt:∀t∈tvs,TryAt K (hfd f T H) z p t)(y:TryAt K (hfd f T H) z p t)(o:HO):∀u∈tvs++[t],TryAt K (hfd f T (upd H T o)) z p u:=fun u hu=>by
 have s:Same (hfd f T H) (hfd f T (upd H T o)):=cO jO;rcases qD0 hu with h | h
 . exact(tt u h).same s
 . rw[zQ0 h];exact y.same s
theorem Wd.sb2{H H':Hp}{f D g a b d T:Addr}{z:Db}{ns:List Str}{tv:List V}{ts:List Tr}{p:Int}{ys:List V}(h:Wd C CG H f D g a b d d z ns tv ts p)(hT:H T=some (.lst ys))(Td:T≠d)(s:Sb2 f T H H')(F':FeedAt H' f):Wd C CG H' f D g a b d d z ns tv ts p:=by
 have kf:∀{b:Addr}{o:HO},H b=some o->(∀ws,o≠.lst ws)->H' b=some o:=fun{b o} e n=>s _ _ (bi h.F e (fun _ z=>n _ z)) (dh e hT (fun z=>n _ z)) e
 obtain ⟨F,⟨dx,aA,aC,aH,aT,R⟩,⟨⟨dx',e'⟩,h2,h3,h4,h5⟩,h6,h7,h8⟩:=h;exact⟨F',⟨dx,aA,aC,aH,aT,kf R.hD (fun _ z=>by cases z),kf R.hA (fun _ z=>by cases z),kf R.hC (fun _ z=>by cases z),kf R.hH (fun _ z=>by cases z),kf R.hT (fun _ z=>by cases z)⟩,
  ⟨⟨dx',kf e' (fun _ z=>by cases z)⟩,kf h2 (fun _ z=>by cases z),kf h3 (fun _ z=>by cases z),h4.mono (fun c xs hx=>kf hx (fun _ z=>by cases z)),s _ _ h7 (Ne.symm Td) h5⟩,s _ _ h7 (Ne.symm Td) h6,h7,h8⟩
def Dc (K:W.Frag) (N:Nat):TS:=fun Dn σ H=>∃(x0 x2 x5 x7 x8 x9 x10:Option V) (f l T:Addr) (z:Db) (p:Int) (xs:List Int) (tvs:List V),σ=[x0,some (.ref f),x2,some (.ref l),some (.int p),x5,some (.ref T),x7,x8,x9,x10]/\FeedAt H f/\T≠f/\l≠f/\l≠T/\H T=some (.lst tvs)/\H l=some (.lst (xs.map V.int))/\z.aw=(("hear":Str),some (xs.length:Int))/\1<=xs.length/\xs.length<=500/\cw xs p/\2<p/\p<=999983/\tvs.length<=N/\(∀t∈tvs,TryAt K (hfd f T H) z p t)/\
 ∀(H':Hp)(tvs':List V),FeedAt H' f->Sb2 f T H H'->H' T=some (.lst tvs')->tvs'≠[]->tvs'.length<=8->(∀t∈tvs',TryAt K (mf f H') z p t)->Dn.nx [x0,some (.ref f),x2,some (.ref l),some (.int p),x5,some (.ref T),x7,x8,x9,x10] H'
def pd (C CG:Addr):Sp:=fun vs H Q _=>∃(f D g a b d st l:Addr) (z:Db) (ns:List Str) (tv:List V) (ts:List Tr) (p:Int) (xs:List Int),vs=[.ref D,.ref f,.ref st,.ref l,.int p]/\Wd C CG H f D g a b d d z ns tv ts p/\GmK ns ts p/\H st=some (.tup (awV z.aw))/\H l=some (.lst (xs.map V.int))/\l≠f/\AwW z.aw.1/\(z.aw.1="hear" -> z.aw=(("hear":Str),some (xs.length:Int))/\1<=xs.length/\xs.length<=500/\cw xs p)/\∀H',FeedAt H' f->SameBut f H H'->Q (.bl true) H'
def CU(K:W.Frag)(C CG:Addr)(N:Nat):TS:=fun Dn σ H=>∃(x7 x8 x9 x10:Option V)(f D g a b d st l bt u T:Addr)(z:Db)(ns:List Str)(tv:List V)(ts:List Tr)(p:Int)(tvs:List V),σ=[some (.ref D),some (.ref f),some (.ref st),some (.ref l),some (.int p),some (.ref bt),some (.ref T),x7,x8,x9,x10]/\Wd C CG H f D g a b d d z ns tv ts p/\GmK ns ts p/\H st=some (.tup (awV z.aw))/\AwW z.aw.1/\H bt=some (.tup [.ref u,.int z.ed,.int z.pl])/\H u=some (.tup (awV z.aw))/\H T=some (.lst tvs)/\T≠f/\tvs≠[]/\tvs.length<=N/\(∀t∈tvs,TryAt K (mf f H) z p t)/\∀H',FeedAt H' f->SameBut f H H'->Dn.rt (.bl true) H'
theorem be:FnScope ["_law_doubter","_law_feed_here","_law_step","_law_values","_law_p","_law_before","_law_tries","_law_at","_law_kind","_law_thing","_law_due"] ["_law_doubter","_law_feed_here","_law_step","_law_values","_law_p"] (ak gy):=⟨rfl,rfl,rfl,by decide,rfl,by decide,by decide⟩
theorem qI {f:Addr} {fd:FuncData} (F:Fun K "_law_refused" "_law_refused" gy f fd) (B:Bl mg) (aE:Cal P w K mg base 1 "_law_take" ["_law_feed_here","_law_many"] dX) (bq:Cal P w K mg base 2 "_law_coin" ["_law_feed_here","_law_p"] kH) (dS:Cal P w K mg base 2 "_law_bad" ["_law_feed_here","_law_p"] zo) (gR:Cal P w K mg base 3 "_law_spoilt" ["_law_feed_here","_law_values","_law_p"] rE) (b6:Cal P w K mg base 2 "_law_state" ["_law_doubter"] (lS C)) (A0:Cal P w K mg base 19 "_law_why" ["_law_doubter","_law_kind","_law_thing"] (Cs K C CG)):FnOk P w K mg base CX0 20 f fd ["_law_doubter","_law_feed_here","_law_step","_law_values","_law_p"] (pd C CG):=by
 refine F.ok be (fun vs H Q E h=>?_) (fun cdv A outer s H vs Q E hr h=>?_)
 . obtain⟨f,D,g,a,b,d,st,l,z,ns,tv,ts,p,xs,rfl,_⟩:=h;rfl
 obtain ⟨f,D,g,a,b,d,st,l,z,ns,tv,ts,p,xs,rfl,W,k,hst,hl,lf,aww,hh,q⟩:=h;refine⟨_,PSW.out (bb (cI (i:=5) be.nd rfl (Or.inl rfl) ⟨al b6 hr (by decide) rfl (aa (pv 0) ac)⟩)
  (bb (cI (i:=6) be.nd rfl (Or.inl rfl) (cv bg))
  (bb (iC (av bA (aJ aZ (pv 2) ae (fun _ _=>rfl)) aG (ay _))
   (bb (cI (i:=6) be.nd rfl (Or.inl rfl) (cv (ao (db (ao de (ao ⟨al bq hr (by decide) rfl (aa (pv 1) (aa (pv 4) ac))⟩ (ao cE bg)))) (ao (db (ao de (ao ⟨al dS hr (by decide) rfl (aa (pv 1) (aa (pv 4) ac))⟩ (ao cE bg)))) bg))))
   (bb (cI (i:=6) be.nd rfl (Or.inl rfl) ⟨aj dI (pv 6) (PEW.out (cv (ao (db (ao de (ao ⟨dH qj (pv 3) (eQ ae) gH⟩ (ao cE bg)))) (ao (db (ao de (ao ⟨aj dI (pv 3) (pv 3)⟩ (ao cE bg)))) bg))))⟩)
   (fP (t':=Dc K 4) (bb (pY (tI ⟨pv 6⟩ (db (ao de (ao ⟨aj dI (pv 3) (bo (aa (al dS hr (by decide) rfl (aa (pv 1) (aa (pv 4) ac))) ac))⟩ (ao cE bg))))))
   (fP (t':=Dc K 5) (bb (pY (tI ⟨pv 6⟩ (db (ao de (ao ⟨al gR hr (by decide) rfl (aa (pv 1) (aa (pv 3) (aa (pv 4) ac)))⟩ (ao cE bg))))))
   (fP (t':=Dc K 6) (cQ (pY (tI ⟨pv 6⟩ (db (ao de (ao ⟨bO bN rfl B.tuple bX (aa (al gR hr (by decide) rfl (aa (pv 1) (aa (pv 3) (aa (pv 4) ac)))) ac)⟩ (ao cE bg))))))) ?c6)) ?c5)) ?c4)))
   (cQ (cI (i:=6) be.nd rfl (Or.inl rfl) (cv (ao (db (ao de (ao (cv (ao cE bg)) (ao cE bg)))) (ao (db (ao de (ao (cv bg) (ao cE bg)))) (ao (db (ao de (ao (cv (ao ⟨al dS hr (by decide) rfl (aa (pv 1) (aa (pv 4) ac))⟩ bg)) (ao cE bg)))) bg)))))))
  (fP (t':=CU K C CG 8) (bb (iC (av bA (aJ aZ (pv 2) ae (fun _ _=>rfl)) aG (ay _))
   (cQ (cI (i:=6) be.nd rfl (Or.inl rfl) ⟨aj dI (pv 6) (PEW.out (cv (ao (db (ao de (ao ⟨al dS hr (by decide) rfl (aa (pv 1) (aa (pv 4) ac))⟩ (ao cE bg)))) (ao (db (ao de (ao ⟨al dS hr (by decide) rfl (aa (pv 1) (aa (pv 4) ac))⟩ (ao cE bg)))) bg))))⟩)) gI)
  (fP (t':=CU K C CG 10) (bb (iC (av jt (aJ aZ (pv 2) ae (fun _ _=>rfl)) (aY (aa aG (aa aG ac))) (by rfl'))
   (cQ (cI (i:=6) be.nd rfl (Or.inl rfl) ⟨aj dI (pv 6) (PEW.out (cv (ao (db (ao de (ao ⟨al bq hr (by decide) rfl (aa (pv 1) (aa (pv 4) ac))⟩ (ao cE bg)))) (ao (db (ao de (ao ⟨pv 4⟩ (ao cE bg)))) bg))))⟩)) gI)
  (fP (t':=CU K C CG 12) (bb (cI (i:=7) be.nd rfl (Or.inl rfl) ⟨al aE hr (by decide) rfl (aa (pv 1) (aa (aD az rfl B.len PySem.boot_len (aa (pv 6) ac)) ac))⟩)
  (bb ⟨cD PassesOwn.never rfl (dG (aj dI (dH qj (pv 6) (eQ (pv 7)) gH) (dH qj (pv 6) gH (eQ (pv 7))))) (nI rfl (bx (aQ (i:=8) be.nd rfl (Or.inl rfl)) (bx (aQ (i:=9) be.nd rfl (Or.inl rfl)) (bx (aQ (i:=10) be.nd rfl (Or.inl rfl)) jp)))) (ag (aX (PW.pt (lq (av nK (al A0 hr (by decide) rfl (aa (pv 0) (aa (pv 8) (aa (pv 9) ac)))) (pv 10) (ay _)) (jF (av (uA hr.units) (al b6 hr (by decide) rfl (aa (pv 0) ac)) (pv 5) (ay _))))) (ag (ax fg)) aI))⟩
  (cQ ⟨ax fg⟩))) ?c3)) ?c2)) ?c1)))),?_⟩
 case c6=>
  rintro Dn σ H ⟨x0,x2,x5,x7,x8,x9,x10,f,l,T,z,p,xs,tvs,rfl,F0,Tf,lf,lT,hT,hl,ea,x1,x5',po,p2,p9,tN,tt,q⟩;refine⟨_,rfl,.inl ⟨rfl,_,zG0 hT⟩,_,rfl,_,rfl,_,rfl,f,l,p,_,rfl,F0,lf,hl,(fun e=>by rw[List.map_eq_nil_iff.mp e]at x1;exact absurd x1 (by decide)),by rw[zE0];exact x5',p2,p9,fun r zs H1 r0 F1 S1 hr zl am no=>?_⟩;rw[zE0]at zl;have hT1:=S1 _ _ Tf hT;have rT:r≠T:=Ne.symm (ai hT r0);refine⟨r,_,rfl,.inl ⟨zG0 hr,fun tq htq=>?_⟩⟩;have Jq:=zB0 htq (.tup zs);have gq:upd H1 tq (.tup zs) tq=some (.tup zs):=ah;have tqf:tq≠f:=F1.ne htq;have tqT:tq≠T:=Ne.symm (ai hT1 htq);have FQ:=F1.same Jq;have hTQ:=Jq _ _ hT1;generalize upd H1 tq (.tup zs)=HQ at Jq gq FQ hTQ;have tt1:∀t∈tvs,TryAt K (hfd f T HQ) z p t:=fun t ht=>(tt t ht).same ((oa S1).trans (bh Jq))
  have amT:∀v∈zs,AmAt (hfd f T HQ) v:=fun v hv=>(vA (am v hv) hT1 (tP tt)).same (bh Jq)
  refine⟨(by show 3<=sizeLine;decide),fun t5 ht5=>?_⟩;have y:=mF (K:=K) (z:=z) (p:=p) (n:=2) (kd:="hear") (v:=.ref tq) (T:=T) ht5 (FQ.ne ht5) (Ne.symm (ai hTQ ht5)) (lh (cb:=false) (ci gq tqf tqT) (by omega) amT) (.hN (cb:=false) (by rw[ea,zl]) (by omega) (ci gq tqf tqT) (fun v hv=>(amT v hv).num) no);have J5:=zB0 ht5 (.tup [.str "hear",.ref tq,.int 2]);have tt2:∀t∈tvs,TryAt K (hfd f T (upd HQ t5 (.tup [.str "hear",.ref tq,.int 2]))) z p t:=fun t ht=>(tt1 t ht).same (bh J5)
  have F5:=FQ.same J5;have hT5:=J5 _ _ hTQ;generalize upd HQ t5 (.tup [.str "hear",.ref tq,.int 2])=H5 at J5 y tt2 F5 hT5;refine⟨T,_,_,rfl,rfl,hT5,aK (by omega),?_⟩;have SA:Sb2 f T H H5:=(Sb2.f S1).trans (Sb2.f (zJ0 (Jq.trans J5)));refine q _ _ ?_ (SA.trans jO) ah (by simp) (by rw[zR0];show tvs.length+1<=8;omega) fun t ht=>(nj tt2 y _ t ht).same DP
  obtain⟨u,t,e,k⟩:=F5;exact⟨u,t,by rw[aq (Ne.symm Tf)];exact e,k⟩
 case c5=>
  rintro Dn σ H ⟨x0,x2,x5,x7,x8,x9,x10,f,l,T,z,p,xs,tvs,rfl,F0,Tf,lf,lT,hT,hl,ea,x1,x5',po,p2,p9,tN,tt,q⟩;refine⟨_,rfl,.inl ⟨rfl,_,zG0 hT⟩,_,rfl,_,rfl,_,rfl,f,l,p,_,rfl,F0,lf,hl,(fun e=>by rw[List.map_eq_nil_iff.mp e]at x1;exact absurd x1 (by decide)),by rw[zE0];exact x5',p2,p9,fun r zs H1 r0 F1 S1 hr zl am no=>?_⟩;rw[zE0]at zl;have hT1:=S1 _ _ Tf hT;have rT:r≠T:=Ne.symm (ai hT r0);have rf:r≠f:=F0.ne r0;have tt1:∀t∈tvs,TryAt K (hfd f T H1) z p t:=fun t ht=>(tt t ht).same (oa S1)
  have amT:∀v∈zs,AmAt (hfd f T H1) v:=fun v hv=>vA (am v hv) hT1 (tP tt)
  refine⟨(by show 3<=sizeLine;decide),fun t5 ht5=>?_⟩;have y:=mF (K:=K) (z:=z) (p:=p) (n:=2) (kd:="hear") (v:=.ref r) (T:=T) ht5 (F1.ne ht5) (Ne.symm (ai hT1 ht5)) (lh (cb:=true) (ci hr rf rT) (by omega) amT) (.hN (cb:=true) (by rw[ea,zl]) (by omega) (ci hr rf rT) (fun v hv=>(amT v hv).num) no);have J5:=zB0 ht5 (.tup [.str "hear",.ref r,.int 2]);have tt2:∀t∈tvs,TryAt K (hfd f T (upd H1 t5 (.tup [.str "hear",.ref r,.int 2]))) z p t:=fun t ht=>(tt1 t ht).same (bh J5)
  have F5:=F1.same J5;have hT5:=J5 _ _ hT1;have hl5:=J5 _ _ (S1 _ _ lf hl);generalize upd H1 t5 (.tup [.str "hear",.ref r,.int 2])=H5 at J5 y tt2 F5 hT5 hl5;refine⟨T,_,_,rfl,rfl,hT5,aK (by omega),?_⟩;have SA:Sb2 f T H H5:=(Sb2.f S1).trans (Sb2.f (zJ0 J5));refine⟨_,_,_,_,_,_,_,f,l,T,z,p,xs,_,rfl,?_,Tf,lf,lT,ah,by rw[aq lT];exact hl5,ea,x1,x5',po,p2,p9,by rw[zR0];show tvs.length+1<=6;omega,nj tt2 y _,fun H' tvs' F' s'=>q H' tvs' F' ((SA.trans jO).trans s')⟩;obtain⟨u,t,e,k⟩:=F5;exact⟨u,t,by rw[aq (Ne.symm Tf)];exact e,k⟩
 case c4=>
  rintro Dn σ H ⟨x0,x2,x5,x7,x8,x9,x10,f,l,T,z,p,xs,tvs,rfl,F0,Tf,lf,lT,hT,hl,ea,x1,x5',po,p2,p9,tN,tt,q⟩;refine⟨_,rfl,.inl ⟨rfl,_,zG0 hT⟩,_,rfl,_,rfl,_,rfl,f,p,rfl,F0,p2,p9,fun v H1 F1 S1 am no _=>?_⟩;have hT1:=S1 _ _ Tf hT;have hl1:=S1 _ _ lf hl;have amv:=vA am hT1 (tP tt);refine⟨(by show 1<=sizeLine;decide),fun lb hlb=>?_⟩;have Jb:=zB0 hlb (.lst [v]);have gb:upd H1 lb (.lst [v]) lb=some (.lst [v]):=ah;have hTb:=Jb _ _ hT1;have hlb1:=Jb _ _ hl1;have Fb:=F1.same Jb;generalize upd H1 lb (.lst [v])=Hb at Jb gb hTb hlb1 Fb;refine⟨l,lb,_,_,rfl,rfl,hlb1,gb,cL (by rw[zE0];show xs.length+1<=1000;omega),fun s3 hs3=>?_⟩;have J3:=zB0 hs3 (.lst (xs.map V.int++[v]));have g3:upd Hb s3 (.lst (xs.map V.int++[v])) s3=some (.lst (xs.map V.int++[v])):=ah;have sf:s3≠f:=Fb.ne hs3;have sT:s3≠T:=Ne.symm (ai hTb hs3);have hT3:=J3 _ _ hTb;have hl3:=J3 _ _ hlb1;have F3:=Fb.same J3;generalize upd Hb s3 (.lst (xs.map V.int++[v]))=H3 at J3 g3 hT3 hl3 F3;have S13:=Jb.trans J3;have tt1:∀t∈tvs,TryAt K (hfd f T H3) z p t:=fun t ht=>(tt t ht).same ((oa S1).trans (bh S13))
  have amT:∀w∈xs.map V.int++[v],AmAt (hfd f T H3) w:=fun w hw=>by
   rcases qD0 hw with h | h
   . exact qV po p9 w h
   . rw[zQ0 h];exact amv.same (bh S13)
  have ll:(xs.map V.int++[v]).length=xs.length+1:=by rw[zR0,zE0];rfl
  refine⟨(by show 3<=sizeLine;decide),fun t5 ht5=>?_⟩;have y:=mF (K:=K) (z:=z) (p:=p) (n:=1) (kd:="hear") (v:=.ref s3) (T:=T) ht5 (F3.ne ht5) (Ne.symm (ai hT3 ht5)) (lh (cb:=true) (ci g3 sf sT) (by omega) amT) (.hC (cb:=true) ea (ci g3 sf sT) (by rw[ll];omega));have J5:=zB0 ht5 (.tup [.str "hear",.ref s3,.int 1]);have tt2:∀t∈tvs,TryAt K (hfd f T (upd H3 t5 (.tup [.str "hear",.ref s3,.int 1]))) z p t:=fun t ht=>(tt1 t ht).same (bh J5)
  have F5:=F3.same J5;have hT5:=J5 _ _ hT3;have hl5:=J5 _ _ hl3;generalize upd H3 t5 (.tup [.str "hear",.ref s3,.int 1])=H5 at J5 y tt2 F5 hT5 hl5;refine⟨T,_,_,rfl,rfl,hT5,aK (by omega),?_⟩;have SA:Sb2 f T H H5:=(Sb2.f S1).trans (Sb2.f (zJ0 (S13.trans J5)));refine⟨_,_,_,_,_,_,_,f,l,T,z,p,xs,_,rfl,?_,Tf,lf,lT,ah,by rw[aq lT];exact hl5,ea,x1,x5',po,p2,p9,by rw[zR0];show tvs.length+1<=5;omega,nj tt2 y _,fun H' tvs' F' s'=>q H' tvs' F' ((SA.trans jO).trans s')⟩;obtain⟨u,t,e,k⟩:=F5;exact⟨u,t,by rw[aq (Ne.symm Tf)];exact e,k⟩
 case c3=>
  rintro Dn σ H ⟨x7,x8,x9,x10,f,D,g,a,b,d,st,l,bt,u,T,z,ns,tv,ts,p,tvs,rfl,W,k,hst,aww,hbt,hu,hT,Tf,t0,tN,tt,q⟩;have tpos:0<tvs.length:=List.length_pos_iff.mpr t0;have btf:bt≠f:=bi W.F hbt (fun _ z=>by cases z);have uf:u≠f:=bi W.F hu (fun _ z=>by cases z);refine⟨_,rfl,_,rfl,T,_,rfl,.inl (zG0 hT),f,_,rfl,W.F,by omega,by omega,fun i H1 i0 i1 F1 S1=>?_⟩;have W1:=W.feed S1 F1;have hT1:=S1 _ _ Tf hT;have hbt1:=S1 _ _ btf hbt;have hu1:=S1 _ _ uf hu;have tt1:∀t∈tvs,TryAt K (mf f H1) z p t:=fun t ht=>(tt t ht).same (io S1)
  obtain⟨j,rfl⟩:∃j:Nat,i=(j:Int):=⟨i.toNat,by omega⟩
  refine⟨_,rfl,_,rfl,_,rfl,T,_,rfl,zG0 hT1,fun L1 hL1=>?_⟩;have J1:=zB0 hL1 (.lst (eZ tvs (some (j:Int)) none));have g1:upd H1 L1 (.lst (eZ tvs (some (j:Int)) none)) L1=some (.lst (eZ tvs (some (j:Int)) none)):=ah;generalize upd H1 L1 (.lst (eZ tvs (some (j:Int)) none))=H2 at J1 g1;refine⟨_,rfl,_,rfl,_,rfl,T,_,rfl,zG0 (J1 _ _ hT1),fun L2 hL2=>?_⟩;have J2:=zB0 hL2 (.lst (eZ tvs none (some (j:Int))));have g2:upd H2 L2 (.lst (eZ tvs none (some (j:Int)))) L2=some (.lst (eZ tvs none (some (j:Int)))):=ah;have g12:=J2 _ _ g1;generalize upd H2 L2 (.lst (eZ tvs none (some (j:Int))))=H3 at J2 g2 g12;rw[wP]at g12;rw[cutTo]at g2;refine⟨L1,L2,_,_,rfl,rfl,g12,g2,cL (by rw[List.length_drop,qJ0];omega),fun L3 hL3=>?_⟩;have J3:=zB0 hL3 (.lst (tvs.drop j++tvs.take j));have g3:upd H3 L3 (.lst (tvs.drop j++tvs.take j)) L3=some (.lst (tvs.drop j++tvs.take j)):=ah;generalize upd H3 L3 (.lst (tvs.drop j++tvs.take j))=H4 at J3 g3;have S14:=J1.trans (J2.trans J3);have W4:=W1.same S14;refine⟨L3,rfl,⟨_,zG0 g3⟩,cY (K:=K) (xs:=tvs.drop j++tvs.take j) (fun i σ H'=>∃(y8 y9 y10:Option V),σ=[some (.ref D),some (.ref f),some (.ref st),some (.ref l),some (.int p),some (.ref bt),some (.ref T),some (.int (j:Int)),y8,y9,y10]/\Same H4 H') ⟨_,_,_,rfl,Same.refl _⟩ (fun i σ H' _ hst=>by obtain⟨_,_,_,_,h⟩:=hst;exact zG0 (h _ _ g3)) ?_ ?_⟩
  . rintro i t σ H5 ht ⟨y8,y9,y10,rfl,S5⟩;have tm:t∈tvs:=by
     rcases qD0 (zZ0 ht)with h | h
     . exact List.mem_of_mem_drop h
     . exact List.mem_of_mem_take h
    have S15:=S14.trans S5;obtain⟨ta,kd,v,n,rfl,ha,th,rf⟩:=(tt1 t tm).same (mf_sub.trans S15);have W5:=W4.same S5;refine⟨ta,_,rfl,zC0 ha,rfl,_,_,rfl,_,_,rfl,_,_,rfl,rfl,?_⟩;refine⟨_,rfl,_,rfl,_,rfl,D,g,z,kd,v,n,ns,ts,p,rfl,W5.Dd,W5.G.gm,th,rf,fun H6 S6=>?_⟩;refine⟨_,rfl,rfl,_,rfl,?_⟩;refine eU rfl ?_;have W6:=W5.same S6;refine⟨_,rfl,D,g,z,rfl,W6.Dd,fun t7 u7 H7 S7 ht7 hu7=>?_⟩;have S17:=S15.trans (S6.trans S7);refine⟨_,rfl,_,_,kL hu7 ht7,kL (S17 _ _ hu1) (S17 _ _ hbt1),dZ aww,dZ aww,_,rfl,?_⟩;rw[vf aww];refine eJ ?_;exact⟨_,_,_,rfl,S5.trans (S6.trans S7)⟩
  . rintro σ H5 ⟨y8,y9,y10,rfl,S5⟩;have S15:=S14.trans S5;exact q H5 (F1.same S15) (S1.trans (zJ0 S15))
 case c2=>
  rintro Dn σ H ⟨x7,x8,x9,x10,f,D,g,a,b,d,st,l,bt,u,T,z,ns,tv,ts,p,tvs,rfl,W,k,hst,aww,hbt,hu,hT,Tf,t0,tN,tt,q⟩;have p2:=k.p2;have p9:=k.p9;refine⟨_,rfl,st,_,_,_,rfl,rfl,zC0 hst,aO (j:=0) (iw _),(by show 2<=sizeLine;decide),fun c hc=>?_⟩;have J0:=zB0 hc (.tup [.str "believed",.str "caught"]);have g0:upd H c (.tup [.str "believed",.str "caught"]) c=some (.tup [.str "believed",.str "caught"]):=ah;generalize upd H c (.tup [.str "believed",.str "caught"])=H0 at J0 g0;have W:=W.same J0;have hst:=J0 _ _ hst;have hbt:=J0 _ _ hbt;have hu:=J0 _ _ hu;have hT:=J0 _ _ hT;have tt:∀t∈tvs,TryAt K (mf f H0) z p t:=fun t ht=>(tt t ht).same (aR J0)
  have q:∀H',FeedAt H' f->SameBut f H0 H'->Dn.rt (.bl true) H':=fun H' F' s=>q H' F' ((zJ0 J0).trans s)
  refine⟨c,_,rfl,.inr (zC0 g0),rfl,rfl,_,rfl,?_⟩;refine lP (fun hc=>?_) (fun hc=>?_)
  . have nc:z.aw.1≠"coin":=fun e=>by
     rw[e]at hc;exact absurd hc (by decide)
    have btf:bt≠f:=bi W.F hbt (fun _ z=>by cases z);have uf:u≠f:=bi W.F hu (fun _ z=>by cases z);have sf:st≠f:=bi W.F hst (fun _ z=>by cases z);refine⟨_,rfl,_,rfl,_,rfl,f,p,rfl,W.F,by omega,by omega,fun r H1 r0 r1 F1 S1=>?_⟩;have W1:=W.feed S1 F1;refine⟨(by show 3<=sizeLine;decide),fun t1 ht1=>?_⟩;have y1:TryAt K (mf f (upd H1 t1 (.tup [.str "coin",.int r,.int 0]))) z p (.ref t1):=dz ht1 (F1.ne ht1) (oX (rn r0 r1 p9)) (.cT nc);have J1:=zB0 ht1 (.tup [.str "coin",.int r,.int 0]);generalize upd H1 t1 (.tup [.str "coin",.int r,.int 0])=H2 at J1 y1;refine⟨_,rfl,(by show 3<=sizeLine;decide),fun t2 ht2=>?_⟩;have F2:=F1.same J1;have y2:TryAt K (mf f (upd H2 t2 (.tup [.str "coin",.int p,.int 0]))) z p (.ref t2):=dz ht2 (F2.ne ht2) (oX (.inl ⟨p,rfl,by omega,by omega⟩)) (.cT nc);have J2:=zB0 ht2 (.tup [.str "coin",.int p,.int 0]);have F3:=F2.same J2;have y1:=y1.same (aR J2);generalize upd H2 t2 (.tup [.str "coin",.int p,.int 0])=H3 at J2 y1 y2 F3;refine⟨(by show 2<=sizeLine;decide),fun L hL=>?_⟩;have J3:=zB0 hL (.lst [.ref t1,.ref t2]);have g3:upd H3 L (.lst [.ref t1,.ref t2]) L=some (.lst [.ref t1,.ref t2]):=ah;have y1:=y1.same (aR J3);have y2:=y2.same (aR J3);have F4:=F3.same J3;generalize upd H3 L (.lst [.ref t1,.ref t2])=H4 at J3 g3 y1 y2 F4;have S14:=J1.trans (J2.trans J3);have SA:SameBut f H0 H4:=S1.trans (zJ0 S14);refine⟨T,L,_,_,rfl,rfl,SA _ _ Tf hT,g3,cL (by show tvs.length+2<=1000;omega),fun T2 hT2=>?_⟩;have J5:=zB0 hT2 (.lst (tvs++[.ref t1,.ref t2]));have SB:=SA.trans (zJ0 J5);refine⟨_,_,_,_,f,D,g,a,b,d,st,l,bt,u,T2,z,ns,tv,ts,p,tvs++[.ref t1,.ref t2],rfl,(W1.same (S14.trans J5)),k,SB _ _ sf hst,aww,SB _ _ btf hbt,SB _ _ uf hu,ah,F4.ne hT2,by simp,by rw[zR0];show tvs.length+2<=12;omega,fun t ht=>?_,fun H' F' s=>q H' F' (SB.trans s)⟩;rcases qD0 ht with h | h
    . exact(tt t h).same (io SB)
    . simp only [List.mem_cons,List.not_mem_nil,or_false]at h;rcases h with rfl | rfl
      . exact y1.same (aR J5)
      . exact y2.same (aR J5)
  . exact⟨_,_,_,_,f,D,g,a,b,d,st,l,bt,u,T,z,ns,tv,ts,p,tvs,rfl,W,k,hst,aww,hbt,hu,hT,Tf,t0,by omega,tt,q⟩
 case c1=>
  rintro Dn σ H ⟨x7,x8,x9,x10,f,D,g,a,b,d,st,l,bt,u,T,z,ns,tv,ts,p,tvs,rfl,W,k,hst,aww,hbt,hu,hT,Tf,t0,tN,tt,q⟩;have p2:=k.p2;have p9:=k.p9;refine⟨_,rfl,st,_,_,_,rfl,rfl,zC0 hst,aO (j:=0) (iw _),rfl,_,rfl,?_⟩
  by_cases ec:z.aw.1="coin"
  . refine cg (congrArg V.str ec) ?_;have btf:bt≠f:=bi W.F hbt (fun _ z=>by cases z);have uf:u≠f:=bi W.F hu (fun _ z=>by cases z);have sf:st≠f:=bi W.F hst (fun _ z=>by cases z);refine⟨_,rfl,_,rfl,_,rfl,f,p,rfl,W.F,p2,p9,fun v1 H1 F1 S1 am1 no1 _=>?_⟩;refine⟨(by show 3<=sizeLine;decide),fun t1 ht1=>?_⟩;have y1:TryAt K (mf f (upd H1 t1 (.tup [.str "coin",v1,.int 2]))) z p (.ref t1):=dz ht1 (F1.ne ht1) (oX am1) (.cN ec am1.num no1);have J1:=zB0 ht1 (.tup [.str "coin",v1,.int 2]);have F1:=F1.same J1;generalize upd H1 t1 (.tup [.str "coin",v1,.int 2])=H2 at J1 y1 F1;refine⟨_,rfl,_,rfl,f,p,rfl,F1,p2,p9,fun v2 H3 F3 S3 am2 no2 _=>?_⟩;refine⟨(by show 3<=sizeLine;decide),fun t2 ht2=>?_⟩;have y2:TryAt K (mf f (upd H3 t2 (.tup [.str "coin",v2,.int 2]))) z p (.ref t2):=dz ht2 (F3.ne ht2) (oX am2) (.cN ec am2.num no2);have J3:=zB0 ht2 (.tup [.str "coin",v2,.int 2]);have F4:=F3.same J3;have y1:=y1.same ((io S3).trans (aR J3));generalize upd H3 t2 (.tup [.str "coin",v2,.int 2])=H4 at J3 y1 y2 F4;refine⟨(by show 2<=sizeLine;decide),fun L hL=>?_⟩;have J4:=zB0 hL (.lst [.ref t1,.ref t2]);have g3:upd H4 L (.lst [.ref t1,.ref t2]) L=some (.lst [.ref t1,.ref t2]):=ah;have y1:=y1.same (aR J4);have y2:=y2.same (aR J4);have F5:=F4.same J4;generalize upd H4 L (.lst [.ref t1,.ref t2])=H5 at J4 g3 y1 y2 F5;have SA:SameBut f H H5:=S1.trans ((zJ0 J1).trans (S3.trans (zJ0 (J3.trans J4))));refine⟨T,L,_,_,rfl,rfl,SA _ _ Tf hT,g3,cL (by show tvs.length+2<=1000;omega),fun T2 hT2=>?_⟩;have J5:=zB0 hT2 (.lst (tvs++[.ref t1,.ref t2]));have SB:=SA.trans (zJ0 J5);refine⟨_,_,_,_,f,D,g,a,b,d,st,l,bt,u,T2,z,ns,tv,ts,p,tvs++[.ref t1,.ref t2],rfl,W.feed SB (F5.same J5),k,SB _ _ sf hst,aww,SB _ _ btf hbt,SB _ _ uf hu,ah,F5.ne hT2,by simp,by rw[zR0];show tvs.length+2<=10;omega,fun t ht=>?_,fun H' F' s=>q H' F' (SB.trans s)⟩;rcases qD0 ht with h | h
    . exact(tt t h).same (io SB)
    . simp only [List.mem_cons,List.not_mem_nil,or_false]at h;rcases h with rfl | rfl
      . exact y1.same (aR J5)
      . exact y2.same (aR J5)
  . refine ba (fun e=>ec (V.str.inj e)) ?_;exact⟨_,_,_,_,f,D,g,a,b,d,st,l,bt,u,T,z,ns,tv,ts,p,tvs,rfl,W,k,hst,aww,hbt,hu,hT,Tf,t0,by omega,tt,q⟩
 have p2:=k.p2;have p9:=k.p9;refine⟨_,rfl,D,g,z,rfl,W.Dd,fun bt u H1 S1 hbt hu=>?_⟩;have W1:=W.same S1;refine⟨zN0 _,fun T0 hT0=>?_⟩;have J0:=zB0 hT0 (.lst []);have W2:=W1.same J0;have hbt:=J0 _ _ hbt;have hu:=J0 _ _ hu;generalize upd H1 T0 (.lst [])=H2 at J0 W2 hbt hu;have S02:=S1.trans J0;have hst2:=S02 _ _ hst;have hl2:=S02 _ _ hl;have q2:∀H',FeedAt H' f->SameBut f H2 H'->Q (.bl true) H':=fun H' F' s=>q H' F' ((zJ0 S02).trans s)
 have btf:bt≠f:=bi W2.F hbt (fun _ z=>by cases z);have uf:u≠f:=bi W2.F hu (fun _ z=>by cases z);have sf:st≠f:=bi W2.F hst2 (fun _ z=>by cases z);refine⟨_,rfl,st,_,_,_,rfl,rfl,zC0 hst2,aO (j:=0) (iw _),rfl,_,rfl,?_⟩
 by_cases eh:z.aw.1="hear"
 . refine cg (congrArg V.str eh) ?_;obtain⟨ea,x1,x5,po⟩:=hh eh;have nc:z.aw.1≠"coin":=by
    rw[eh];decide
   refine⟨_,rfl,_,rfl,f,p,rfl,W2.F,by omega,by omega,fun r H3 r0 r1 F3 S3=>?_⟩;refine⟨(by show 3<=sizeLine;decide),fun t1 ht1=>?_⟩;have y1:TryAt K (mf f (upd H3 t1 (.tup [.str "coin",.int r,.int 0]))) z p (.ref t1):=dz ht1 (F3.ne ht1) (oX (rn r0 r1 p9)) (.cT nc);have J1:=zB0 ht1 (.tup [.str "coin",.int r,.int 0]);have F4:=F3.same J1;generalize upd H3 t1 (.tup [.str "coin",.int r,.int 0])=H4 at J1 y1 F4;refine⟨_,rfl,_,rfl,f,p,rfl,F4,p2,p9,fun v2 H5 F5 S5 am2 no2 _=>?_⟩;refine⟨(by show 3<=sizeLine;decide),fun t2 ht2=>?_⟩;have y2:TryAt K (mf f (upd H5 t2 (.tup [.str "coin",v2,.int 0]))) z p (.ref t2):=dz ht2 (F5.ne ht2) (oX am2) (.cT nc);have J5:=zB0 ht2 (.tup [.str "coin",v2,.int 0]);have F6:=F5.same J5;have y1:=y1.same ((io S5).trans (aR J5));generalize upd H5 t2 (.tup [.str "coin",v2,.int 0])=H6 at J5 y1 y2 F6;refine⟨(by show 2<=sizeLine;decide),fun L0 hL0=>?_⟩;have J6:=zB0 hL0 (.lst [.ref t1,.ref t2]);have gL:upd H6 L0 (.lst [.ref t1,.ref t2]) L0=some (.lst [.ref t1,.ref t2]):=ah;have y1:=y1.same (aR J6);have y2:=y2.same (aR J6);have F7:=F6.same J6;generalize upd H6 L0 (.lst [.ref t1,.ref t2])=H7 at J6 gL y1 y2 F7;have SA:SameBut f H2 H7:=S3.trans ((zJ0 J1).trans (S5.trans (zJ0 (J5.trans J6))));have hl7:=SA _ _ lf hl2;refine⟨_,rfl,_,rfl,1,rfl,l,_,rfl,zG0 hl7,fun s1 hs1=>?_⟩;rw[show eZ (xs.map V.int) (some 1) none=(xs.map V.int).drop 1 from wP (k:=1)];have K1:=zB0 hs1 (.lst ((xs.map V.int).drop 1));have k1:upd H7 s1 (.lst ((xs.map V.int).drop 1)) s1=some (.lst ((xs.map V.int).drop 1)):=ah;have sf1:s1≠f:=F7.ne hs1;have F8:=F7.same K1;have y1:=y1.same (aR K1);have y2:=y2.same (aR K1);have gL:=K1 _ _ gL;have hl8:=K1 _ _ hl7;generalize upd H7 s1 (.lst ((xs.map V.int).drop 1))=H8 at K1 k1 F8 y1 y2 gL hl8;have ldrop:((xs.map V.int).drop 1).length=xs.length-1:=by rw[List.length_drop,zE0]
   refine⟨(by show 3<=sizeLine;decide),fun t3 ht3=>?_⟩;have y3:TryAt K (mf f (upd H8 t3 (.tup [.str "hear",.ref s1,.int 1]))) z p (.ref t3):=dz ht3 (F8.ne ht3) (lh (cb:=true) (gZ k1 sf1) (by omega) fun v hv=>qV po p9 v (List.mem_of_mem_drop hv)) (.hC (cb:=true) ea (gZ k1 sf1) (by rw[ldrop];omega));have K2:=zB0 ht3 (.tup [.str "hear",.ref s1,.int 1]);have F9:=F8.same K2;have y1:=y1.same (aR K2);have y2:=y2.same (aR K2);have gL:=K2 _ _ gL;have hl9:=K2 _ _ hl8;generalize upd H8 t3 (.tup [.str "hear",.ref s1,.int 1])=H9 at K2 F9 y1 y2 y3 gL hl9;refine⟨_,rfl,_,rfl,l,l,_,_,rfl,rfl,hl9,hl9,cL (by rw[zE0];omega),fun s2 hs2=>?_⟩;have K3:=zB0 hs2 (.lst (xs.map V.int++xs.map V.int));have k3:upd H9 s2 (.lst (xs.map V.int++xs.map V.int)) s2=some (.lst (xs.map V.int++xs.map V.int)):=ah;have sf2:s2≠f:=F9.ne hs2;have F10:=F9.same K3;have y1:=y1.same (aR K3);have y2:=y2.same (aR K3);have y3:=y3.same (aR K3);have gL:=K3 _ _ gL;have hl10:=K3 _ _ hl9;generalize upd H9 s2 (.lst (xs.map V.int++xs.map V.int))=H10 at K3 k3 F10 y1 y2 y3 gL hl10;have ltw:(xs.map V.int++xs.map V.int).length=xs.length+xs.length:=by rw[zR0,zE0]
   refine ⟨(by show 3<=sizeLine;decide),fun t4 ht4=>?_⟩;have y4:TryAt K (mf f (upd H10 t4 (.tup [.str "hear",.ref s2,.int 1]))) z p (.ref t4):=dz ht4 (F10.ne ht4) (lh (cb:=true) (gZ k3 sf2) (by omega) fun v hv=>by
    rcases qD0 hv with h | h <;> exact qV po p9 v h) (.hC (cb:=true) ea (gZ k3 sf2) (by rw[ltw];omega))
   have K4:=zB0 ht4 (.tup [.str "hear",.ref s2,.int 1]);have F11:=F10.same K4;have y1:=y1.same (aR K4);have y2:=y2.same (aR K4);have y3:=y3.same (aR K4);have gL:=K4 _ _ gL;have hl11:=K4 _ _ hl10;generalize upd H10 t4 (.tup [.str "hear",.ref s2,.int 1])=H11 at K4 F11 y1 y2 y3 y4 gL hl11;refine⟨(by show 2<=sizeLine;decide),fun L1 hL1=>?_⟩;have K5:=zB0 hL1 (.lst [.ref t3,.ref t4]);have gL1:upd H11 L1 (.lst [.ref t3,.ref t4]) L1=some (.lst [.ref t3,.ref t4]):=ah;have F12:=F11.same K5;have y1:=y1.same (aR K5);have y2:=y2.same (aR K5);have y3:=y3.same (aR K5);have y4:=y4.same (aR K5);have gL:=K5 _ _ gL;have hl12:=K5 _ _ hl11;generalize upd H11 L1 (.lst [.ref t3,.ref t4])=H12 at K5 gL1 F12 y1 y2 y3 y4 gL hl12;refine⟨L0,L1,_,_,rfl,rfl,gL,gL1,(by show 4<=sizeLine;decide),fun T hT=>?_⟩;have tt12:∀t∈([.ref t1,.ref t2]++[.ref t3,.ref t4]:List V),TryAt K (mf f H12) z p t:=fun t ht=>by
    simp only[List.cons_append,List.nil_append,List.mem_cons,List.not_mem_nil,or_false]at ht;rcases ht with rfl | rfl | rfl | rfl
    . exact y1
    . exact y2
    . exact y3
    . exact y4
   have KT:=zB0 hT (.lst ([.ref t1,.ref t2]++[.ref t3,.ref t4]));have gT:upd H12 T (.lst ([.ref t1,.ref t2]++[.ref t3,.ref t4])) T=some (.lst ([.ref t1,.ref t2]++[.ref t3,.ref t4])):=ah;have Tf:T≠f:=F12.ne hT;have lT:l≠T:=ai hl12 hT;have into:Same (mf f H12) (hfd f T (upd H12 T (.lst ([.ref t1,.ref t2]++[.ref t3,.ref t4])))):=fun b o e=>by
    have e1:=mf_sub _ _ e;have bf:b≠f:=fun z=>by
     unfold mf at e;rw[zF0 z]at e;cases e
    exact ci (KT _ _ e1) bf (ai e1 hT)
   have tt13:∀t∈([.ref t1,.ref t2]++[.ref t3,.ref t4]:List V),TryAt K (hfd f T (upd H12 T (.lst ([.ref t1,.ref t2]++[.ref t3,.ref t4])))) z p t:=fun t ht=>(tt12 t ht).same into
   have F13:=F12.same KT;have SB:SameBut f H2 (upd H12 T (.lst ([.ref t1,.ref t2]++[.ref t3,.ref t4]))):=SA.trans (zJ0 (K1.trans (K2.trans (K3.trans (K4.trans (K5.trans KT))))));have S12:SameBut f H2 H12:=SA.trans (zJ0 (K1.trans (K2.trans (K3.trans (K4.trans K5)))));have Td:T≠d:=fun e=>by
    have:=(W2.feed S12 F12).L
    rw[←e,hT]at this;cases this
   have hl13:=KT _ _ hl12;generalize upd H12 T (.lst ([.ref t1,.ref t2]++[.ref t3,.ref t4]))=H13 at KT gT tt13 F13 SB hl13;refine⟨_,_,_,_,_,_,_,f,l,T,z,p,xs,_,rfl,F13,Tf,lf,lT,gT,hl13,ea,x1,x5,po,p2,p9,(by show 4<=4;decide),tt13,fun H' tvs' F' s' hT' t0 tN tt'=>?_⟩;have W13:=W2.feed SB F13;have kt:∀{c:Addr}{ws:List V},H2 c=some (.tup ws)->H' c=some (.tup ws):=fun{c ws} e=>by
    have cf:c≠f:=bi W2.F e (fun _ z=>by cases z);have e1:=SB _ _ cf e;exact s' _ _ cf (dh e1 gT (by intro z;cases z)) e1
   exact⟨_,_,_,_,f,D,g,a,b,d,st,l,bt,u,T,z,ns,tv,ts,p,tvs',rfl,W13.sb2 gT Td s' F',k,kt hst2,aww,kt hbt,kt hu,hT',Tf,t0,tN,tt',fun H6 F6' s6=>q2 H6 F6' (fun c o n e=>s6 _ _ n (s' _ _ n (ai (S12 _ _ n e) hT) (SB _ _ n e)))⟩
 . refine ba (fun e=>eh (V.str.inj e)) ?_;refine⟨(by show 1<=sizeLine;decide),fun l1 hl1=>?_⟩;have J1:=zB0 hl1 (.lst [.int 0]);have g1:upd H2 l1 (.lst [.int 0]) l1=some (.lst [.int 0]):=ah;have f1:l1≠f:=W2.F.ne hl1;have F3:=W2.F.same J1;generalize upd H2 l1 (.lst [.int 0])=H3 at J1 g1 F3;refine⟨(by show 3<=sizeLine;decide),fun t1 ht1=>?_⟩;have y1:TryAt K (mf f (upd H3 t1 (.tup [.str "hear",.ref l1,.int 0]))) z p (.ref t1):=dz ht1 (F3.ne ht1) (lh (cb:=true) (gZ g1 f1) (by decide) fun v hv=>by
    rw[zQ0 hv];exact .inl ⟨0,rfl,by decide,by decide⟩) (.hT eh)
   have J2:=zB0 ht1 (.tup [.str "hear",.ref l1,.int 0]);have F4:=F3.same J2;generalize upd H3 t1 (.tup [.str "hear",.ref l1,.int 0])=H4 at J2 y1 F4;refine⟨zN0 _,fun l2 hl2'=>?_⟩;have J3:=zB0 hl2' (.lst []);have g3:upd H4 l2 (.lst []) l2=some (.lst []):=ah;have f2:l2≠f:=F4.ne hl2';have F5:=F4.same J3;have y1:=y1.same (aR J3);generalize upd H4 l2 (.lst [])=H5 at J3 g3 F5 y1;refine⟨(by show 3<=sizeLine;decide),fun t2 ht2=>?_⟩;have y2:TryAt K (mf f (upd H5 t2 (.tup [.str "hear",.ref l2,.int 0]))) z p (.ref t2):=dz ht2 (F5.ne ht2) (lh (cb:=true) (gZ g3 f2) (by decide) fun v hv=>by cases hv) (.hT eh);have J4:=zB0 ht2 (.tup [.str "hear",.ref l2,.int 0]);have F6:=F5.same J4;have y1:=y1.same (aR J4);generalize upd H5 t2 (.tup [.str "hear",.ref l2,.int 0])=H6 at J4 y1 y2 F6;refine⟨_,rfl,_,rfl,f,p,rfl,F6,p2,p9,fun v3 H7 F7 S7 am3 no3 _=>?_⟩;refine⟨(by show 1<=sizeLine;decide),fun l3 hl3=>?_⟩;have J7:=zB0 hl3 (.lst [v3]);have g7:upd H7 l3 (.lst [v3]) l3=some (.lst [v3]):=ah;have f3:l3≠f:=F7.ne hl3;have F8:=F7.same J7;have am3:=am3.same (aR J7);have y1:=y1.same ((io S7).trans (aR J7));have y2:=y2.same ((io S7).trans (aR J7));generalize upd H7 l3 (.lst [v3])=H8 at J7 g7 F8 am3 y1 y2;refine⟨(by show 3<=sizeLine;decide),fun t3 ht3=>?_⟩;have y3:TryAt K (mf f (upd H8 t3 (.tup [.str "hear",.ref l3,.int 0]))) z p (.ref t3):=dz ht3 (F8.ne ht3) (lh (cb:=true) (gZ g7 f3) (by show 1<=1100;decide) fun v hv=>by
    rw[zQ0 hv];exact am3) (.hT eh)
   have J8:=zB0 ht3 (.tup [.str "hear",.ref l3,.int 0]);have F9:=F8.same J8;have y1:=y1.same (aR J8);have y2:=y2.same (aR J8);generalize upd H8 t3 (.tup [.str "hear",.ref l3,.int 0])=H9 at J8 y1 y2 y3 F9;refine⟨(by show 3<=sizeLine;decide),fun T hT=>?_⟩;have J9:=zB0 hT (.lst [.ref t1,.ref t2,.ref t3]);have SB:SameBut f H2 (upd H9 T (.lst [.ref t1,.ref t2,.ref t3])):=(zJ0 (J1.trans (J2.trans (J3.trans J4)))).trans (S7.trans (zJ0 (J7.trans (J8.trans J9))));refine⟨_,_,_,_,f,D,g,a,b,d,st,l,bt,u,T,z,ns,tv,ts,p,[.ref t1,.ref t2,.ref t3],rfl,W2.feed SB (F9.same J9),k,SB _ _ sf hst2,aww,SB _ _ btf hbt,SB _ _ uf hu,ah,F9.ne hT,by simp,(by show 3<=8;decide),fun t ht=>?_,fun H' F' s=>q2 H' F' (SB.trans s)⟩;simp only[List.mem_cons,List.not_mem_nil,or_false]at ht;rcases ht with rfl | rfl | rfl
   . exact y1.same (aR J9)
   . exact y2.same (aR J9)
   . exact y3.same (aR J9)
end
section
theorem oj(ns:List Str)(ts:List Tr)(p:Int)(z:Db):(ir ns ts p z).cl=z.cl/\(ir ns ts p z).s=z.s/\(ir ns ts p z).he=z.he/\(ir ns ts p z).to=z.to/\(ir ns ts p z).ed=z.ed:=by
 unfold ir iP
 split <;> exact⟨rfl,rfl,rfl,rfl,rfl⟩
abbrev Aw:=Str×Option Int
abbrev awC:Aw:=("coin",none)
abbrev awH (n:Int):Aw:=("hear",some n)
def gM(ns:List Str)(ts:List Tr)(k:Nat):List Aw:=(ns.drop k).flatMap fun x=>[awH (bj ts x+1),awC]
theorem pz {ns:List Str} {ts:List Tr} {k:Nat} (h:k<ns.length):gM ns ts k=awH (bj ts (ns.getD k "")+1)::awC::gM ns ts (k+1):=by
 unfold gM;rw[List.drop_eq_getElem_cons h,List.flatMap_cons,qM0,zU0 h];rfl
theorem ul{ns:List Str}{ts:List Tr}{k:Nat}(h:ns.length<=k):gM ns ts k=[]:=by
 unfold gM;rw[List.drop_eq_nil_of_le h];rfl
def jE(ns:List Str)(ts:List Tr):List Aw:=awH (ts.length:Int)::((if 1<ts.length then [awC]else [])++gM ns ts 0)
structure HZ(z:Db)(h:Hd):Prop where
 du:h.due=z.ed
 cl:h.cl=z.cl
 ro:h.ro=z.he
 s:h.s=z.s
 co:h.co=z.to
def RO(p:Int)(xs:List Int):Prop:=xs≠[]->xs.length<=500/\(xs.length:Int)<=p/\cw xs p
inductive Ph(ns:List Str)(ts:List Tr)(p:Int)(tru:Bool):List Aw->Db->Hd->Prop where
 | start:Ph ns ts p tru (jE ns ts) (Db.new ts) ⟨0,[],[],0,[],0⟩
 | mix {xs:List Int} (h1:¬ ts.length=1) (xl:xs.length=ts.length) (tr:tru=true->xs=ts.map fun t=>cy ns [t] 0 p []):Ph ns ts p tru (awC::gM ns ts 0) { Db.new ts with pl:=(Db.new ts).pl+(xs.length:Int),cl:=xs,aw:=("coin",none) } ⟨0,xs,[],0,[],xs.length⟩
 | row {k:Nat} {z:Db} {h:Hd} (kl:k<=ns.length) (R:AtR ns ts p k h.lk z) (hz:HZ z h) (ro:RO p z.he) (tr:tru=true->z.ed=cy ns ts z.s p z.to):Ph ns ts p tru (gM ns ts k) z h
 | coin {k:Nat} {z:Db} {h:Hd} (kl:k<ns.length) (aw:z.aw=(("coin":Str),none)) (cl:z.cl≠[]) (h0:z.he≠[]) (ok:iy z.he p) (to:z.to.length=k) (po:cw z.to p) (hz:HZ z h) (ro:RO p z.he) (lk:z.pl=h.lk) (tr:tru=true->z.he=jw ns ts z.s p z.to (bj ts (ns.getD k "")+1).toNat):Ph ns ts p tru (awC::gM ns ts (k+1)) z h
structure PhOk(ns:List Str)(ts:List Tr)(p:Int)(tru:Bool)(aw:Aw)(rest:List Aw)(z:Db)(h:Hd):Prop where
 ea:z.aw=aw
 pl:z.pl=h.lk
 hz:HZ z h
 ro:RO p z.he
 tl:z.to.length<=ns.length
 po:cw z.to p
 hc:(∃n,aw=awH n/\(h.cl≠[]->h.co.length<ns.length/\cw h.co p/\0<=h.due/\h.due<p/\n=bj ts (ns.getD h.co.length "")+1)/\∀xs,Ej ns ts p h tru xs->(xs.length:Int)=n/\1<=xs.length/\xs.length<=500/\(z.cl≠[]->iy xs p)/\∀r,Ph ns ts p tru rest (gj ns ts p xs z) (dJ "hear" xs r p h))∨
  (aw=awC/\(z.he≠[]->iy z.he p/\z.to.length<ns.length)/\∀r xs,0<=r->r<p->Ph ns ts p tru rest (fQ ns ts p r z) (dJ "coin" xs r p h))
theorem Cf{x p:Int}(h0:0<=x)(h1:x<p):hor 0 p [x]=x:=by
 rw[iS];show(x+0*dA 0 []) % p=x;rw[Int.zero_mul,Int.add_zero];exact qU0 h0 h1
theorem AG {ns:List Str} {ts:List Tr} {s p:Int} {cs:List Int} (k:GmK ns ts p) (nd:ns.Nodup) (cl:cs.length<ns.length):ends p (jw ns ts s p cs (bj ts (ns.getD cs.length "")+1).toNat)=cy ns ts s p cs:=by
 have hy:ns[cs.length]?=some (ns.getD cs.length ""):=by
  rw[qM0,zU0 cl];rfl
 have t1:=k.t1;have tne:ts≠[]:=fun z=>by rw[z]at t1;cases t1
 have p2:=k.p2;have p9:=k.p9;have vr:=vF (s:=s) (cs:=cs) (lu k.pr (by omega)) hy nd (fun t ht=>(k.tok t ht).1) tne (k.deg _ (zZ0 hy)).2;unfold ends;rw[vr,vr];exact xG cl
theorem Ph.go{ns:List Str}{ts:List Tr}{p:Int}{tru:Bool}(k:GmK ns ts p)(nd:ns.Nodup){L:List Aw}{aw:Aw}{rest:List Aw}{z:Db}{h:Hd}(x:Ph ns ts p tru L z h)(e:L=aw::rest):PhOk ns ts p tru aw rest z h:=by
 have p2:=k.p2;have p9:=k.p9;have t1:=k.t1;have t10:=k.t10;cases x with
 | start=>
   unfold jE at e;injection e with e1 e2;subst e1;subst e2;refine⟨rfl,rfl,⟨rfl,rfl,rfl,rfl,rfl⟩,fun z=>absurd rfl z,zN0 _,(fun x hx=>by cases hx),.inl ⟨_,rfl,fun z=>absurd rfl z,fun xs nx=>?_⟩⟩;obtain⟨xo,nx1,_⟩:=nx;obtain⟨xl,tr⟩:=nx1 rfl;refine⟨by rw[xl],by omega,by omega,fun z=>absurd rfl z,fun r=>?_⟩;have xn:xs≠[]:=fun e=>by
    rw[e,List.length_nil]at xl;omega
   have eN:dJ "hear" xs r p ⟨0,[],[],0,[],0⟩=⟨xs.getD 0 0*(if xs.length=1 then 1 else 0),xs,[],0,[],xs.length⟩:=by
    unfold dJ;rw[zF0 rfl,zF0 rfl]
   rw[eN]
   by_cases c:ts.length=1
   . rw [zD0 (by omega),List.nil_append];have R:=vn (z:=Db.new ts) k c xn rfl rfl;have eD:gj ns ts p xs (Db.new ts)=ir ns ts p { Db.new ts with pl:=(Db.new ts).pl+(xs.length:Int),cl:=xs,s:=0,ed:=hor 0 p xs }:=by
      unfold gj;rw[zF0 (show(Db.new ts).cl=[]from rfl)];unfold jC;rw[zF0 c];rfl
     rw[eD]at R ⊢;obtain⟨g1,g2,g3,g4,g5⟩:=oj ns ts p { Db.new ts with pl:=(Db.new ts).pl+(xs.length:Int),cl:=xs,s:=0,ed:=hor 0 p xs };have pl0:(Db.new ts).pl+(xs.length:Int)=(xs.length:Int):=Int.zero_add _;rw[pl0]at R;have x1:xs.length=1:=by omega
     obtain⟨y,rfl⟩:∃y,xs=[y]:=List.length_eq_one_iff.mp x1
     have y0:=xo y qL0;refine .row (zN0 _) R ⟨?_,g1.symm,g3.symm,g2.symm,g4.symm⟩ (fun z=>absurd g3 z) fun t=>?_
     . rw[g5];show y*1=hor 0 p [y];rw[Cf y0.1 y0.2,Int.mul_one]
     . rw[g5,g2,g4,tr t];exact nU
   . rw[zF0 (by omega)];have eD:=sW (ns:=ns) (p:=p) (xs:=xs) (z:=Db.new ts) c rfl;rw[eD,zD0 (by omega),Int.mul_zero];exact .mix c xl tr
 | mix h1 xl tr=>
   injection e with e1 e2;subst e1;subst e2;rename_i xs;have xn:xs≠[]:=fun e=>by
    rw[e,List.length_nil]at xl;omega
   refine ⟨rfl,Int.zero_add _,⟨rfl,rfl,rfl,rfl,rfl⟩,fun z=>absurd rfl z,zN0 _,(fun x hx=>by cases hx),.inr ⟨rfl,fun z=>absurd rfl z,fun r ys r0 r1=>?_⟩⟩;have R:=yW (ns:=ns) (ts:=ts) (p:=p) (z:={ Db.new ts with pl:=(Db.new ts).pl+(xs.length:Int),cl:=xs,aw:=("coin",none) }) (r:=r) k xn rfl rfl;have eD:fQ ns ts p r { Db.new ts with pl:=(Db.new ts).pl+(xs.length:Int),cl:=xs,aw:=("coin",none) }=ir ns ts p { Db.new ts with pl:=(Db.new ts).pl+(xs.length:Int)+1,cl:=xs,aw:=("coin",none),s:=r,ed:=hor r p xs }:=by
    unfold fQ;rw[zF0 (show(Db.new ts).he=[]from rfl)];rfl
   rw [eD]at R ⊢;obtain⟨g1,g2,g3,g4,g5⟩:=oj ns ts p { Db.new ts with pl:=(Db.new ts).pl+(xs.length:Int)+1,cl:=xs,aw:=("coin",none),s:=r,ed:=hor r p xs };have eN:dJ "coin" ys r p ⟨0,xs,[],0,[],xs.length⟩=⟨hor r p xs,xs,[],r,[],xs.length+1⟩:=by
    unfold dJ;rw[zD0 (by decide),zF0 rfl]
   rw [eN];have pl0:(Db.new ts).pl+(xs.length:Int)+1=(xs.length:Int)+1:=by
    show 0+(xs.length:Int)+1=_;omega
   refine .row (zN0 _) ?_ ⟨g5.symm,g1.symm,g3.symm,g2.symm,g4.symm⟩ (fun z=>absurd g3 z) fun t=>?_
   . rw[←pl0];exact R
   . rw[g5,g2,g4];show hor r p xs=_;rw[tr t];exact nU
 | row kl R hz ro tr=>
   rename_i j
   by_cases c:j<ns.length
   . rw [pz c]at e;injection e with e1 e2;subst e1;subst e2;obtain⟨ea,ep⟩:=R.hd c;have hx:ns.getD j ""∈ns:=by
      rw[qM0,zU0 c];exact qR0 c
     have d4:=rb k (ns.getD j "");have dj:=k.deg _ hx;have cn:h.cl≠[]:=by
      rw[hz.cl];exact R.cl
     have cj:h.co.length=j:=by rw[hz.co,R.to]
     refine ⟨ea,ep,hz,ro,by rw[R.to];omega,R.po,.inl ⟨_,rfl,fun _=>⟨by omega,by rw[hz.co];exact R.po,by rw[hz.du];exact R.e0,by rw[hz.du];exact R.e1,by rw[cj]⟩,fun xs nx=>?_⟩⟩;obtain⟨xo,_,nx2⟩:=nx;obtain⟨xl,xt,xf⟩:=nx2 cn;rw[cj]at xl xt;have rok:iy xs p:=Dj k hx xl (by omega) xo;have ee:ends p xs=z.ed:=by
      cases tru with
      | true=>
        rw[xt rfl,tr rfl,hz.s,hz.co]
        have:=AG (s:=z.s) (cs:=z.to) k nd (by rw[R.to];exact c)
        rw[R.to]at this;exact this
      | false=>rw[xf rfl,hz.du]
     refine ⟨xl,by omega,by omega,fun _=>rok,fun r=>?_⟩;have eD:=Au (ns:=ns) (ts:=ts) (p:=p) (xs:=xs) R.cl;rw[zF0 (show(val p xs 0+val p xs 1) % p=z.ed from ee)]at eD;rw[eD];have eN:dJ "hear" xs r p h={ h with ro:=xs,lk:=h.lk+xs.length }:=by
      unfold dJ;rw[zF0 rfl,zD0 cn]
     rw [eN];have xn:xs≠[]:=fun e=>by
      rw[e,List.length_nil]at xl;omega
     have xr:RO p xs:=fun _=>⟨by omega,by omega,xo⟩
     refine .coin c rfl R.cl xn rok R.to R.po ⟨hz.du,hz.cl,rfl,hz.s,hz.co⟩ xr (by rw[ep]) fun t=>?_
     show xs=_;rw[xt t,hz.s,hz.co]
   . rw[ul (by omega)]at e;cases e
 | coin kl aw0 cl h0 ok to po hz ro lk tr=>
   injection e with e1 e2;subst e1;subst e2;rename_i j;have hn:h.ro≠[]:=by
    rw[hz.ro];exact h0
   refine ⟨aw0,lk,hz,ro,by omega,po,.inr ⟨rfl,fun _=>⟨ok,by omega⟩,fun r xs r0 r1=>?_⟩⟩;have R:=yV (ns:=ns) (ts:=ts) (p:=p) (z:=z) (r:=r) k cl h0 to po r0 r1;have eD:fQ ns ts p r z=ir ns ts p { z with pl:=z.pl+1,ed:=val p z.he r,to:=z.to++[r] }:=by
    unfold fQ;rw[zD0 h0]
   rw [eD]at R ⊢;obtain⟨g1,g2,g3,g4,g5⟩:=oj ns ts p { z with pl:=z.pl+1,ed:=val p z.he r,to:=z.to++[r] };have eN:dJ "coin" xs r p h={ h with due:=val p h.ro r,co:=h.co++[r],lk:=h.lk+1 }:=by
    unfold dJ;rw[zD0 (by decide),zD0 hn]
   rw[eN];refine .row (by omega) ?_ ⟨?_,by rw[g1];exact hz.cl,by rw[g3];exact hz.ro,by rw[g2];exact hz.s,?_⟩ (by rw[g3];exact ro) fun t=>?_
   . show AtR ns ts p (j+1) (h.lk+1) _;rw[←lk];exact R
   . rw[g5];show val p h.ro r=val p z.he r;rw[hz.ro]
   . rw [g4];show h.co++[r]=z.to++[r]
     rw[hz.co]
   . rw [g5,g2,g4];show val p z.he r=cy ns ts z.s p (z.to++[r]);have hy:ns[z.to.length]?=some (ns.getD z.to.length ""):=by
      rw[qM0,zU0 (by omega)];rfl
     have tne:ts≠[]:=fun z=>by rw[z]at t1;cases t1
     have:=vF (s:=z.s) (cs:=z.to) (lu k.pr (by omega)) hy nd (fun t ht=>(k.tok t ht).1) tne (k.deg _ (zZ0 hy)).2 r
     rw[to]at this;rw[tr t];exact this
theorem Ph.fin{ns:List Str}{ts:List Tr}{p:Int}{tru:Bool}{z:Db}{h:Hd}(x:Ph ns ts p tru [] z h):HZ z h/\AtR ns ts p ns.length h.lk z/\(tru=true->z.ed=cy ns ts z.s p z.to):=by
 generalize e:([]:List Aw)=L at x;cases x with
 | start=>cases e
 | mix=>cases e
 | row kl R hz ro tr=>
   rename_i j
   by_cases c:j<ns.length
   . rw[pz c]at e;cases e
   . have:j=ns.length:=by omega
     subst this;exact⟨hz,R,tr⟩
 | coin=>cases e
end
section
variable {C CG:Addr}
inductive AwsAt(H:Hp):List V->List Aw->Prop where
 | nil:AwsAt H [] []
 | cons {a:Addr} {aw:Aw} {vs:List V} {L:List Aw} (h:H a=some (.tup (awV aw))) (t:AwsAt H vs L):AwsAt H (.ref a::vs) (aw::L)
theorem AwsAt.same{H H':Hp}(s:Same H H'):∀{vs:List V}{L:List Aw},AwsAt H vs L->AwsAt H' vs L
 | _,_,.nil=>.nil
 | _,_,.cons h t=>.cons (s _ _ h) (t.same s)
theorem AwsAt.append{H:Hp}:∀{vs us:List V}{L M:List Aw},AwsAt H vs L->AwsAt H us M->AwsAt H (vs++us) (L++M)
 | _,_,_,_,.nil,h=>h
 | _,_,_,_,.cons h t,h'=>.cons h (t.append h')
theorem AwsAt.length{H:Hp}:∀{vs:List V}{L:List Aw},AwsAt H vs L->vs.length=L.length
 | _,_,.nil=>rfl
 | _,_,.cons _ t=>by rw[zV0,zV0,t.length]
theorem AwsAt.get{H:Hp}:∀{vs:List V}{L:List Aw}{i:Nat}{v:V},AwsAt H vs L->vs[i]?=some v->∃aw a,L[i]?=some aw/\v=.ref a/\H a=some (.tup (awV aw))
 | _,_,_,_,.nil,h=>by simp at h
 | _,_,0,_,.cons (a:=a) (aw:=aw) h _,e=>by
   simp at e
   exact⟨aw,a,rfl,e.symm,h⟩
 | _,_,i+1,_,.cons _ t,e=>by
   obtain⟨aw,a,h1,h2,h3⟩:=t.get (i:=i) (by simpa using e);exact⟨aw,a,by simpa using h1,h2,h3⟩
def jk(ns:List Str)(ts:List Tr)(i:Nat):List Aw:=(ns.take i).flatMap fun x=>[awH (bj ts x+1),awC]
def iU(ns:List Str)(ts:List Tr)(i:Nat):List Aw:=awH (ts.length:Int)::((if 1<ts.length then [awC]else [])++jk ns ts i)
theorem yE(ns:List Str)(ts:List Tr):iU ns ts ns.length=jE ns ts:=by
 unfold iU jE jk gM;rw[qG0];rfl
theorem vh{ns:List Str}{ts:List Tr}{i:Nat}{x:Str}(h:ns[i]?=some x):iU ns ts (i+1)=iU ns ts i++[awH (bj ts x+1),awC]:=by
 unfold iU jk;rw[qI0,h,List.flatMap_append,List.cons_append,List.append_assoc];rfl
theorem rM(ns:List Str)(ts:List Tr)(i:Nat):(jk ns ts i).length<=2*ns.length:=by
 unfold jk
 have:∀l:List Str,(l.flatMap fun x=>[awH (bj ts x+1),awC]).length=2*l.length:=fun l=>by
  induction l with
  | nil=>rfl
  | cons a r ih=>rw[List.flatMap_cons,zR0,ih,zV0];show 2+2*r.length=2*(r.length+1);omega
 rw[this,qJ0];omega
theorem yD(ns:List Str)(ts:List Tr)(i:Nat):(iU ns ts i).length<=2*ns.length+2:=by
 have:=rM ns ts i
 unfold iU;rw[zV0,zR0]
 have:(if 1<ts.length then [awC]else []).length<=1:=by split <;> decide
 omega
def tD40(C CG:Addr):TS:=fun Dn σ H=>∃(x0 x8 x9 x10 x11 x12 x13:Option V)(f D g a b d gt:Addr)(ns:List Str)(tv:List V)(ts:List Tr)(p:Int)(tru:Bool),σ=[x0,some (.ref gt),some (.ref a),some (.ref b),some (.int p),some (.ref D),some (.ref f),some (.bl tru),x8,x9,x10,x11,x12,x13]/\Wd C CG H f D g a b d d (Db.new ts) ns tv ts p/\GmK ns ts p/\ns.length<=6/\ns.Nodup/\H gt=some (.tup [.ref a,.ref b,.int p])/\∀H',Dn.rt (.bl true) H'
def tE40(C CG:Addr):TS:=fun Dn σ H=>∃(x0 x9 x10 x11 x12 x13:Option V)(f D g a b d gt q:Addr)(ns:List Str)(tv:List V)(ts:List Tr)(p:Int)(tru:Bool)(dvs:List V),σ=[x0,some (.ref gt),some (.ref a),some (.ref b),some (.int p),some (.ref D),some (.ref f),some (.bl tru),some (.ref q),x9,x10,x11,x12,x13]/\Wd C CG H f D g a b d d (Db.new ts) ns tv ts p/\GmK ns ts p/\ns.length<=6/\ns.Nodup/\H gt=some (.tup [.ref a,.ref b,.int p])/\H q=some (.lst dvs)/\q≠f/\AwsAt H dvs (jE ns ts)/\∀H',Dn.rt (.bl true) H'
def tG40 (C CG:Addr):TS:=fun Dn σ H=>∃(x0 x1 x2 x3 x7 x8 x9 x13:Option V) (f D g a b d sa lv hA:Addr) (z:Db) (ns:List Str) (tv:List V) (ts:List Tr) (p:Int) (tru:Bool) (aw:Aw) (rest:List Aw) (h:Hd) (xs:List Int),σ=[x0,x1,x2,x3,some (.int p),some (.ref D),some (.ref f),x7,x8,x9,some (.ref hA),some (.ref sa),some (.ref lv),x13]/\Wd C CG H f D g a b d d z ns tv ts p/\GmK ns ts p/\ns.length<=6/\PhOk ns ts p tru aw rest z h/\hfd f D H sa=some (.tup (awV aw))/\HdAt (hfd f D H) hA h/\hfd f D H lv=some (.lst (xs.map V.int))/\(aw.1="hear" -> Ej ns ts p h tru xs)/\
 ∀(hA':Addr)(z':Db)(h':Hd)(r:Int)(H':Hp),Wd C CG H' f D g a b d d z' ns tv ts p->HdAt (hfd f D H') hA' h'->Ph ns ts p tru rest z' h'->Sb2 f D H H'->Dn.nx [x0,x1,x2,x3,some (.int p),some (.ref D),some (.ref f),x7,x8,x9,some (.ref hA'),some (.ref sa),some (.ref lv),some (.int r)] H'
def tF40(C CG:Addr):TS:=fun Dn σ H=>∃(x0 x2 x3 x8 x9 x11 x12 x13:Option V)(f D g a b d gt hA:Addr)(z:Db)(ns:List Str)(tv:List V)(ts:List Tr)(p:Int)(tru:Bool)(h:Hd),σ=[x0,some (.ref gt),x2,x3,some (.int p),some (.ref D),some (.ref f),some (.bl tru),x8,x9,some (.ref hA),x11,x12,x13]/\Wd C CG H f D g a b d d z ns tv ts p/\GmK ns ts p/\H gt=some (.tup [.ref a,.ref b,.int p])/\HdAt (hfd f D H) hA h/\Ph ns ts p tru [] z h/\∀H',Dn.rt (.bl true) H'
theorem bF:FnScope ["_law_script","_law_drawn","_law_names_here","_law_trees","_law_p","_law_doubter","_law_feed_here","_law_is_true","_law_dues","_law_degree","_law_held","_law_step","_law_values","_law_r"] ["_law_script"] (ak mY):=⟨rfl,rfl,rfl,by decide,rfl,by decide,by decide⟩
theorem DB {f fI fD fW:Addr} {fd fdI fdD fdW:FuncData} (F:Fun K "law" "law" mY f fd) (B:Bl mg) (T:DTxt K mg C) (TG:GTxt K mg CG)
 (M:Mk K CG fI) (GI:FnOk P w K mg base CX0 14 fI fdI ["self","switches","trees","field"] (vY CG)) (bI:Binds K fdI ["self","switches","trees","field"] [])
 (MD:Mk K C fD) (GD:FnOk P w K mg base CX0 1 fD fdD ["self","game"] (wa C CG)) (bD:Binds K fdD ["self","game"] [])
 (mW:Meth K C "waits" fW) (GW:FnOk P w K mg base CX0 1 fW fdW ["self"] (tV C fun z v H=>∃a,v=.ref a/\H a=some (.tup (awV z.aw)))) (bW:Binds K fdW ["self"] [])
 (kc:Cal P w K mg base 1 "_law_feed" ["_law_script","_law_k"] (zj K)) (aE:Cal P w K mg base 1 "_law_take" ["_law_feed_here","_law_many"] dX) (vD:Cal P w K mg base 14 "_law_game" ["_law_feed_here","_law_most","_law_room"] zi)
 (dR:Cal P w K mg base 13 "_law_degrees" ["_law_names_here","_law_trees"] tZ) (bq:Cal P w K mg base 2 "_law_coin" ["_law_feed_here","_law_p"] kH) (b6:Cal P w K mg base 2 "_law_state" ["_law_doubter"] (lS C))
 (iR:Cal P w K mg base 15 "_law_next_row" ["_law_feed_here","_law_drawn","_law_held","_law_many","_law_is_true"] zd) (fF:Cal P w K mg base 20 "_law_refused" ["_law_doubter","_law_feed_here","_law_step","_law_values","_law_p"] (pd C CG)) (m5:Cal P w K mg base 19 "_law_given" ["_law_doubter","_law_feed_here","_law_step","_law_values","_law_r"] (vX C CG)) (m7:Cal P w K mg base 3 "_law_noted" ["_law_held","_law_step","_law_values","_law_r","_law_p"] vR) (kJ:Cal P w K mg base 13 "_law_ends" ["_law_doubter","_law_drawn","_law_held"] (Cv C CG)):FnOk P w K mg base CX0 21 f fd ["_law_script"] (vW K):=by
 refine F.ok bF (fun vs H Q E h=>?_) (fun cdv A outer s H vs Q E hr h=>?_)
 . obtain⟨a,ns,rfl,_⟩:=h;rfl
 obtain ⟨a0,ns0,rfl,hS,h63,q⟩:=h;have hr1:Room 1 _:=hr.mono (by decide);have hr15:Room (14+1) _:=hr.mono (by decide);have hr2:Room (1+1) _:=hr.mono (by decide);refine⟨_,PSW.out (bb (cI (i:=1) bF.nd rfl (Or.inl rfl) ⟨al vD hr (by decide) rfl (aa (al kc hr (by decide) rfl (aa (pv 0) (aa ae ac))) (aa ae (aa ae ac)))⟩)
  (bb ⟨gN (pv 1) (nI rfl (bx (aQ (i:=2) bF.nd rfl (Or.inl rfl)) (bx (aQ (i:=3) bF.nd rfl (Or.inl rfl)) (bx (aQ (i:=4) bF.nd rfl (Or.inl rfl)) jp))))⟩
  (bb (cI (i:=5) bF.nd rfl (Or.inl rfl) ⟨wv MD GD hr2 rfl T.mgC bD .nil cH (aa (wv M GI hr15 rfl TG.mgC bI .nil cH (aa (pv 2) (aa (pv 3) (aa (pv 4) ac)))) ac)⟩)
  (bb (cI (i:=6) bF.nd rfl (Or.inl rfl) ⟨al kc hr (by decide) rfl (aa (pv 0) (aa ae ac))⟩)
  (bb (cI (i:=7) bF.nd rfl (Or.inl rfl) ⟨jq bA (al aE hr (by decide) rfl (aa (pv 6) (aa ae ac))) ae (ay _)⟩)
  (fP (t':=tD40 C CG) (bb (cI (i:=8) bF.nd rfl (Or.inl rfl) ⟨aj dI (bo (aa (aY (aa aG (aa (aD az rfl B.len PySem.boot_len (aa (pv 3) ac)) ac))) ac)) (aj Dz (bo (aa (aY (aa aG ac)) ac)) (bO jv rfl B.int hU (aa (jq pB (aD az rfl B.len PySem.boot_len (aa (pv 3) ac)) ae (ay _)) ac)))⟩)
  (bb ⟨cD PassesOwn.never rfl (dG (al dR hr (by decide) rfl (aa (pv 2) (aa (pv 3) ac)))) (aQ (i:=9) bF.nd rfl (Or.inl rfl)) (ag (au (i:=8) bF.nd rfl (Or.inl rfl) (aj dI (pv 8) (bo (aa (aY (aa aG (aa (aj aN (pv 9) ae) ac))) (aa (aY (aa aG ac)) ac))))))⟩
  (fP (t':=tE40 C CG) (bb (cI (i:=10) bF.nd rfl (Or.inl rfl) (cv (ao cE (ao (cv bg) (ao (cv bg) (ao cE (ao (cv bg) (ao cE bg))))))))
  (bb ⟨cD PassesOwn.never rfl (dG (pv 8)) (aQ (i:=11) bF.nd rfl (Or.inl rfl)) (PSW.out (bb (iC (av (uA hr.units) (al b6 hr (by decide) rfl (aa (pv 5) ac)) (aY (aa (pv 11) (aa (aJ ix_list (pv 10) ae (fun _ _=>rfl)) (aa (aJ ix_list (pv 10) ae (fun _ _=>rfl)) ac)))) (ay _)) (cQ ⟨ax fg⟩) gI)
  (bb (cI (i:=12) bF.nd rfl (Or.inl rfl) (cv bg))
  (bb (iC (av bA (aJ aZ (pv 11) ae (fun _ _=>rfl)) aG (ay _)) (cQ (cI (i:=12) bF.nd rfl (Or.inl rfl) ⟨al iR hr (by decide) rfl (aa (pv 6) (aa (pv 1) (aa (pv 10) (aa (aJ aZ (pv 11) ae (fun _ _=>rfl)) (aa (pv 7) ac)))))⟩)) gI)
  (fP (t':=tG40 C CG) (bb (iC (kN (fZ (al fF hr (by decide) rfl (aa (pv 5) (aa (pv 6) (aa (pv 11) (aa (pv 12) (aa (pv 4) ac)))))))) (cQ ⟨ax fg⟩) gI)
  (bb (cI (i:=13) bF.nd rfl (Or.inl rfl) ⟨al bq hr (by decide) rfl (aa (pv 6) (aa (pv 4) ac))⟩)
  (bb (iC (av BL (al m5 hr (by decide) rfl (aa (pv 5) (aa (pv 6) (aa (pv 11) (aa (pv 12) (aa (pv 13) ac)))))) qA (ay _)) (cQ ⟨ax fg⟩) gI)
  (cQ (cI (i:=10) bF.nd rfl (Or.inl rfl) ⟨al m7 hr (by decide) rfl (aa (pv 10) (aa (pv 11) (aa (pv 12) (aa (pv 13) (aa (pv 4) ac)))))⟩))))) ?gg)))))⟩
  (fP (t':=tF40 C CG) (bb (iC (PW.pt (lq (kN (fZ (al kJ hr (by decide) rfl (aa (pv 5) (aa (pv 1) (aa (pv 10) ac)))))) (jF (PW.pt (kM (fZ (pv 7)) (ke (av (uA hr.units) (eT (pv 5) T.cl mW GW hr1 bW .nil cH) (aY (aa aG ac)) (ay _)))))))) (cQ ⟨ax fg⟩) gI)
  (fP (t':=tF40 C CG) (cQ ⟨ax (uz (al fF hr (by decide) rfl (aa (pv 5) (aa (pv 6) (aa (eT (pv 5) T.cl mW GW hr1 bW .nil cH) (aa (bo (aa ae ac)) (aa (pv 4) ac)))))) (zO (al kJ hr (by decide) rfl (aa (pv 5) (aa (pv 1) (aa (pv 10) ac))))))⟩) ?zz)) ?ff))) ?ee))) ?dd)))))),?_⟩
 case gg=>
  rintro Dn σ H ⟨x0,x1,x2,x3,x7,x8,x9,x13,f,D,g,a,b,d,sa,lv,hA,z,ns,tv,ts,p,tru,aw,rest,h,xs,rfl,W,k,nl,P,hsa,HA,hlv,nx,q⟩;have p2:=k.p2;have p9:=k.p9;have aww:AwW z.aw.1:=by
   rw[P.ea];rcases P.hc with⟨n,e,_⟩ | ⟨e,_⟩
   . rw[e];exact .inl rfl
   . rw[e];exact .inr (.inl rfl)
  have hh:z.aw.1="hear" -> z.aw=(("hear":Str),some (xs.length:Int))/\1<=xs.length/\xs.length<=500/\cw xs p:=fun e=>by
   rcases P.hc with⟨n,en,_,nxt⟩ | ⟨en,_⟩
   . have nx':=nx (by rw[en]);obtain⟨xl,y1,y5,_⟩:=nxt xs nx';exact⟨by rw[P.ea,en,xl],y1,y5,nx'.1⟩
   . rw[P.ea,en]at e;exact absurd e (by decide)
  refine ⟨_,rfl,_,rfl,_,rfl,_,rfl,_,rfl,f,D,g,a,b,d,sa,lv,z,ns,tv,ts,p,xs,rfl,W,k,by rw[P.ea];exact bK _ _ hsa,bK _ _ hlv,vc hlv,aww,hh,fun H1 F1 S1=>?_⟩;refine⟨_,rfl,?_⟩;refine eJ ?_;have W1:=W.feed S1 F1;refine⟨_,rfl,_,rfl,f,p,rfl,F1,by omega,by omega,fun r H2 r0 r1 F2 S2=>?_⟩;have W2:=W1.feed S2 F2;have S02:Sb2 f D H H2:=Sb2.f (S1.trans S2);have co:h.co.length<=100:=by
   rw[P.hz.co]
   have:=P.tl
   omega
  have hro:h.ro≠[]->h.ro.length<=500/\(h.ro.length:Int)<=p/\cw h.ro p:=by
   rw[P.hz.ro];exact P.ro
  refine⟨_,rfl,_,rfl,_,rfl,_,rfl,_,rfl,f,D,g,a,b,d,sa,lv,z,ns,tv,ts,p,r,xs,rfl,W2,k,by rw[P.ea];exact cO S02 _ _ hsa,cO S02 _ _ hlv,P.tl,P.po,?_⟩;rcases P.hc with⟨n,en,_,nxt⟩ | ⟨en,he,nxt⟩
  . have nx':=nx (by rw[en]);obtain⟨xl,y1,y5,rok,nph⟩:=nxt xs nx';refine .inl ⟨by rw[P.ea,en,xl],nx'.1,y5,rok,fun H3 W3 s3=>⟨rfl,_,rfl,?_⟩⟩;refine eU rfl ?_;have S03:=S02.trans s3;obtain⟨u,t,eF,_⟩:=id W3.F;obtain⟨dx,fs,hD,_⟩:=W3.ins;refine⟨_,rfl,_,rfl,_,rfl,_,rfl,_,rfl,f,D,hA,sa,lv,_,_,h,aw,xs,r,p,rfl,eF,hD,HA.same (cO S03),cO S03 _ _ hsa,cO S03 _ _ hlv,(fun _ e=>by rw[e]at y1;exact absurd y1 (by decide)),co,lu k.pr (by omega),p2,p9,hro,r0,r1,fun a' H4 S4 HA4=>?_⟩;rw[en]at HA4;exact q a' _ _ r H4 (W3.same S4) HA4 (nph r) (S03.trans (Sb2.f (zJ0 S4)))
  . refine .inr ⟨by rw[P.ea,en],r0,r1,he,fun H3 W3 s3=>⟨rfl,_,rfl,?_⟩⟩;refine eU rfl ?_;have S03:=S02.trans s3;obtain⟨u,t,eF,_⟩:=id W3.F;obtain⟨dx,fs,hD,_⟩:=W3.ins;refine⟨_,rfl,_,rfl,_,rfl,_,rfl,_,rfl,f,D,hA,sa,lv,_,_,h,aw,xs,r,p,rfl,eF,hD,HA.same (cO S03),cO S03 _ _ hsa,cO S03 _ _ hlv,(fun e=>by rw[en]at e;exact absurd e (by decide)),co,lu k.pr (by omega),p2,p9,hro,r0,r1,fun a' H4 S4 HA4=>?_⟩;rw[en]at HA4;exact q a' _ _ r H4 (W3.same S4) HA4 (nxt r xs r0 r1) (S03.trans (Sb2.f (zJ0 S4)))
 case zz=>
  rintro Dn σ H ⟨x0,x2,x3,x8,x9,x11,x12,x13,f,D,g,a,b,d,gt,hA,z,ns,tv,ts,p,tru,h,rfl,W,k,hgt,HA,ph,q⟩;obtain⟨hz,R,tr⟩:=ph.fin;obtain⟨ep,ea⟩:=R.en (zI0 _);rw[R.to]at ea;obtain⟨dx,fs,hD,n1,n2,n3,n4,n5⟩:=W.ins;have bc:z.aw.1="believed"∨z.aw.1="caught":=by
   rw[ea]
   split
   . exact .inl rfl
   . exact .inr rfl
  have aww:AwW z.aw.1:=by
   rcases bc with e | e
   . exact .inr (.inr (.inr e))
   . exact .inr (.inr (.inl e))
  have hgf:gt≠f:=bi W.F hgt (fun _ z=>by cases z);refine⟨_,rfl,_,rfl,_,rfl,D,dx,fs,rfl,hD,n1,D,g,z,rfl,W.Dd,fun v hv=>?_⟩;obtain⟨u,rfl,hu⟩:=hv;refine⟨(by show 1<=sizeLine;decide),fun l hl=>?_⟩;have J:=zB0 hl (.lst [.int 0]);have gl:upd H l (.lst [.int 0]) l=some (.lst [.int 0]):=ah;have lf:l≠f:=W.F.ne hl;have W1:=W.same J;have hu1:=J _ _ hu;generalize upd H l (.lst [.int 0])=H1 at J gl W1 hu1;refine⟨_,rfl,f,D,g,a,b,d,u,l,z,ns,tv,ts,p,[0],rfl,W1,k,hu1,gl,lf,aww,(fun e=>by rcases bc with e' | e' <;> (rw[e']at e;exact absurd e (by decide))),fun H2 F2 S2=>?_⟩;refine⟨true,rfl,fE ?_⟩;have W2:=W1.feed S2 F2;have S02:SameBut f H H2:=(zJ0 J).trans S2;exact⟨_,rfl,_,rfl,_,rfl,f,D,g,a,b,d,gt,hA,z,ns,tv,ts,p,h,rfl,W2,k,S02 _ _ hgf hgt,(HA.same (oa S02)).same bK,hz.co,hz.s,hz.du,ep,R.to,R.po,ea,fun H3 S3=>q _⟩
 case ff=>
  rintro Dn σ H ⟨x0,x2,x3,x8,x9,x11,x12,x13,f,D,g,a,b,d,gt,hA,z,ns,tv,ts,p,tru,h,rfl,W,k,hgt,HA,ph,q⟩;obtain⟨hz,R,tr⟩:=ph.fin;obtain⟨ep,ea⟩:=R.en (zI0 _);rw[R.to]at ea;refine⟨_,rfl,_,rfl,_,rfl,f,D,g,a,b,d,gt,hA,z,ns,tv,ts,p,h,rfl,W,k,hgt,HA.same bK,hz.co,hz.s,hz.du,ep,R.to,R.po,ea,fun H1 S1=>?_⟩;refine⟨_,rfl,?_⟩;refine eJ ?_;have W1:=W.same S1;refine⟨_,rfl,tru,rfl,?_⟩;cases tru with
  | false=>
    refine eJ ?_;exact⟨_,_,_,_,_,_,_,_,f,D,g,a,b,d,gt,hA,z,ns,tv,ts,p,false,h,rfl,W1,k,S1 _ _ hgt,HA.same (bh S1),ph,q⟩
  | true=>
    refine fE ?_;have eb:z.aw=(("believed":Str),none):=by
     rw[ea,zF0];rw[tr rfl];exact Bv R.to
    obtain ⟨dx,fs,hD,n1,n2,n3,n4,n5⟩:=W1.ins;refine⟨_,rfl,D,dx,fs,rfl,hD,n1,D,g,z,rfl,W1.Dd,fun v hv=>?_⟩;obtain⟨u,rfl,hu⟩:=hv;refine⟨(by show 1<=sizeLine;decide),fun t ht=>?_⟩;have J:=zB0 ht (.tup [.str "believed"]);have gt':upd H1 t (.tup [.str "believed"]) t=some (.tup (awV z.aw)):=by
     rw[ah,eb];rfl
    have W2:=W1.same J;have hu2:=J _ _ hu;have S2:=S1.trans J;generalize upd H1 t (.tup [.str "believed"])=H2 at J gt' W2 hu2 S2;have aww:AwW z.aw.1:=by
     rw[eb];exact .inr (.inr (.inr rfl))
    refine⟨_,_,uo hu2,uo gt',pe aww,pe aww,_,rfl,?_⟩;rw[DT,decide_eq_true rfl];refine eJ ?_;exact⟨_,_,_,_,_,_,_,_,f,D,g,a,b,d,gt,hA,z,ns,tv,ts,p,true,h,rfl,W2,k,S2 _ _ hgt,HA.same (bh S2),ph,q⟩
 case ee=>
  rintro Dn σ H ⟨x0,x9,x10,x11,x12,x13,f,D,g,a,b,d,gt,q,ns,tv,ts,p,tru,dvs,rfl,W,k,nl,nd,hgt,hq,qf,AW,fin⟩;obtain⟨dxD,fsD,hD,_⟩:=W.ins;have qD:q≠D:=dh hq hD (by intro z;cases z);have AWh:AwsAt (hfd f D H) dvs (jE ns ts):=by
   have kp:∀(c:Addr)(ws:List V),H c=some (.tup ws)->hfd f D H c=some (.tup ws):=fun c ws e=>ci e (bi W.F e (fun _ z=>by cases z)) (dh e hD (by intro z;cases z))
   clear fin hq
   revert AW
   generalize jE ns ts=L;intro AW
   induction AW with
   | nil=>exact .nil
   | cons h t ih=>exact .cons (kp _ _ h) ih
  have hgh:hfd f D H gt=some (.tup [.ref a,.ref b,.int p]):=ci hgt (bi W.F hgt (fun _ z=>by cases z)) (dh hgt hD (by intro z;cases z));have hqh:hfd f D H q=some (.lst dvs):=ci hq qf qD;refine⟨zN0 _,fun e1 he1=>?_⟩;have J1:=zB0 he1 (.lst []);have g1:upd H e1 (.lst []) e1=some (.lst []):=ah;have W1:=W.same J1;generalize upd H e1 (.lst [])=H1 at J1 g1 W1;refine⟨zN0 _,fun e2 he2=>?_⟩;have J2:=zB0 he2 (.lst []);have g2:upd H1 e2 (.lst []) e2=some (.lst []):=ah;have g12:=J2 _ _ g1;have W2:=W1.same J2;generalize upd H1 e2 (.lst [])=H2 at J2 g2 W2 g12;refine⟨zN0 _,fun e3 he3=>?_⟩;have J3:=zB0 he3 (.lst []);have g3:upd H2 e3 (.lst []) e3=some (.lst []):=ah;have g13:=J3 _ _ g12;have g23:=J3 _ _ g2;have W3:=W2.same J3;generalize upd H2 e3 (.lst [])=H3 at J3 g3 W3 g13 g23;refine⟨(by show 6<=sizeLine;decide),fun hA hhA=>?_⟩;have J4:=zB0 hhA (.lst [.int 0,.ref e1,.ref e2,.int 0,.ref e3,.int 0]);have g4:upd H3 hA (.lst [.int 0,.ref e1,.ref e2,.int 0,.ref e3,.int 0]) hA=some (.lst [.int 0,.ref e1,.ref e2,.int 0,.ref e3,.int 0]):=ah;have W4:=W3.same J4;have k1:=J4 _ _ g13;have k2:=J4 _ _ g23;have k3:=J4 _ _ g3;generalize upd H3 hA (.lst [.int 0,.ref e1,.ref e2,.int 0,.ref e3,.int 0])=H4 at J4 g4 W4 k1 k2 k3;have S04:=J1.trans (J2.trans (J3.trans J4));obtain⟨dx4,fs4,hD4,_⟩:=W4.ins;have hfdl:∀{c:Addr}{ws:List V}{G:Hp},Same G H4->FeedAt G f->G c=none->H4 c=some (.lst ws)->hfd f D H4 c=some (.lst ws):=fun{c ws G} s F e e'=>ci e' (F.ne e) (dh e' hD4 (by intro z;cases z))
  have HA4:HdAt (hfd f D H4) hA ⟨0,[],[],0,[],0⟩:=⟨e1,e2,e3,hfdl J4 W3.F hhA g4,hfdl S04 W.F he1 k1,hfdl (J2.trans (J3.trans J4)) W1.F he2 k2,hfdl (J3.trans J4) W2.F he3 k3⟩
  have AW4:=AWh.same (bh S04);have hq4:=bh S04 _ _ hqh;have hg4:=bh S04 _ _ hgh;refine⟨_,rfl,q,rfl,⟨_,zG0 (bK _ _ hq4)⟩,cY (K:=K) (xs:=dvs) (fun i σ H'=>∃(y11 y12 y13:Option V)(hA':Addr)(z:Db)(h:Hd),σ=[x0,some (.ref gt),some (.ref a),some (.ref b),some (.int p),some (.ref D),some (.ref f),some (.bl tru),some (.ref q),x9,some (.ref hA'),y11,y12,y13]/\Wd C CG H' f D g a b d d z ns tv ts p/\HdAt (hfd f D H') hA' h/\Ph ns ts p tru ((jE ns ts).drop i) z h/\Sb2 f D H4 H')
   ⟨_,_,_,hA,Db.new ts,_,rfl,W4,HA4,.start,fun _ _ _ _ e=>e⟩ (fun i σ H' _ hst=>by obtain⟨_,_,_,_,_,_,_,_,_,_,s⟩:=hst;exact zG0 (bK _ _ (cO s _ _ hq4))) ?_ ?_⟩
  . rintro i v σ H6 hv ⟨y11,y12,y13,hA',z,h,rfl,W6,HA6,ph,s6⟩;obtain⟨aw,sa,haw,rfl,hsa⟩:=AW4.get hv;have dr:(jE ns ts).drop i=aw::(jE ns ts).drop (i+1):=by
     obtain⟨hlt,e⟩:=zT0 haw;rw[List.drop_eq_getElem_cons hlt,e]
    have P:=Ph.go k nd ph dr;have hsa6:=cO s6 _ _ hsa;have aww:AwW z.aw.1:=by
     rw[P.ea];rcases P.hc with⟨n,e,_⟩ | ⟨e,_⟩
     . rw[e];exact .inl rfl
     . rw[e];exact .inr (.inl rfl)
    refine ⟨_,rfl,D,g,z,rfl,W6.Dd,fun t u H7 S7 ht hu=>?_⟩;obtain⟨c,rr,kk,h1,h2,h3,h4⟩:=id HA6;have h17:=S7 _ _ (bK _ _ h1);refine⟨_,rfl,_,rfl,hA',_,0,_,rfl,rfl,zG0 h17,aO (j:=0) rfl,_,rfl,hA',_,5,_,rfl,rfl,zG0 h17,aO (j:=5) rfl,(by show 3<=sizeLine;decide),fun t2 ht2=>?_⟩;have J8:=zB0 ht2 (.tup [.ref sa,.int h.due,.int h.lk]);have g8:upd H7 t2 (.tup [.ref sa,.int h.due,.int h.lk]) t2=some (.tup [.ref sa,.int z.ed,.int z.pl]):=by
     rw[ah,P.hz.du,P.pl]
    have hu8:=J8 _ _ hu;have ht8:=J8 _ _ ht;have S68:=S7.trans J8;generalize upd H7 t2 (.tup [.ref sa,.int h.due,.int h.lk])=H8 at J8 g8 hu8 ht8 S68;refine⟨_,_,kL hu8 ht8,kL (c:=sa) (by rw[P.ea];exact S68 _ _ (bK _ _ hsa6)) g8,dZ aww,dZ aww,_,rfl,?_⟩;rw[vf aww];refine eJ ?_;refine⟨zN0 _,fun l0 hl0=>?_⟩;have J9:=zB0 hl0 (.lst []);have g9:upd H8 l0 (.lst []) l0=some (.lst (([]:List Int).map V.int)):=ah;have W8:=W6.same S68;have W9:=W8.same J9;have l0f:l0≠f:=W8.F.ne hl0;have S69:=S68.trans J9;generalize upd H8 l0 (.lst [])=H9 at J9 g9 W9 S69;have hsa9:=bh S69 _ _ hsa6;have hsa9':=bK _ _ hsa9;have HA9:=HA6.same (bh S69);have s9:Sb2 f D H4 H9:=s6.trans (Sb2.f (zJ0 S69));have hg9:=cO s9 _ _ hg4;refine⟨_,rfl,sa,_,_,_,rfl,rfl,zC0 hsa9',aO (j:=0) (iw _),rfl,_,rfl,?_⟩;rcases id P.hc with⟨n,en,hcl,nxt⟩ | ⟨en,he,nxt⟩
    . refine cg (congrArg V.str (by rw[en])) ?_;have hsn:H9 sa=some (.tup [.str "hear",.int n]):=by
       rw[hsa9',en];rfl
      refine⟨_,rfl,_,rfl,_,rfl,_,rfl,sa,_,1,_,rfl,rfl,zC0 hsn,aO (j:=1) rfl,_,rfl,f,gt,hA',a,b,ns,tv,ts,p,n,h,tru,rfl,W9.F,bK _ _ hg9,W9.G.2.1,nl,W9.G.2.2.1,W9.G.2.2.2.1,k,HA9.same bK,hcl,fun l xs H10 l10 F10 S10 hl nx=>?_⟩;obtain⟨dx9,fs9,hD9,_⟩:=W9.ins;have lD:l≠D:=Ne.symm (ai hD9 l10);exact⟨_,_,_,_,_,_,_,_,f,D,g,a,b,d,sa,l,hA',z,ns,tv,ts,p,tru,aw,_,h,xs,rfl,W9.feed S10 F10,k,nl,P,oa S10 _ _ hsa9,HA9.same (oa S10),ci hl (W9.F.ne l10) lD,fun _=>nx,fun hA2 z2 h2 r H11 W11 HA11 ph11 s11=>⟨_,_,_,hA2,z2,h2,rfl,W11,HA11,ph11,s9.trans ((Sb2.f S10).trans s11)⟩⟩
    . have nh:¬ V.str aw.1=V.str "hear":=fun e=>by
       have:=V.str.inj e
       rw[en]at this;exact absurd this (by decide)
      refine ba nh ?_;obtain⟨dx9,fs9,hD9,_⟩:=W9.ins;exact⟨_,_,_,_,_,_,_,_,f,D,g,a,b,d,sa,l0,hA',z,ns,tv,ts,p,tru,aw,_,h,[],rfl,W9,k,nl,P,hsa9,HA9,ci g9 l0f (dh g9 hD9 (by intro z;cases z)),fun e=>absurd (congrArg V.str e) nh,fun hA2 z2 h2 r H11 W11 HA11 ph11 s11=>⟨_,_,_,hA2,z2,h2,rfl,W11,HA11,ph11,s9.trans s11⟩⟩
  . rintro σ H6 ⟨y11,y12,y13,hA',z,h,rfl,W6,HA6,ph,s6⟩;rw[AW.length,List.drop_length]at ph;exact⟨_,_,_,_,_,_,_,_,f,D,g,a,b,d,gt,hA',z,ns,tv,ts,p,tru,h,rfl,W6,k,bK _ _ (cO s6 _ _ hg4),HA6,ph,fin⟩
 case dd=>
  rintro Dn σ H ⟨x0,x8,x9,x10,x11,x12,x13,f,D,g,a,b,d,gt,ns,tv,ts,p,tru,rfl,W,k,nl,nd,hgt,fin⟩;have hb:=W.G.2.2.1;have ha:=W.G.2.1;have TS:=W.G.2.2.2.1;have vl:=TS.length;have tl1:=k.t1;have t10:=k.t10;refine⟨_,rfl,b,_,rfl,.inr (zC0 hb),(by show 2<=sizeLine;decide),fun t1 ht1=>?_⟩;rw[vl];have J1:=zB0 ht1 (.tup [.str "hear",.int (ts.length:Int)]);have g1:upd H t1 (.tup [.str "hear",.int (ts.length:Int)]) t1=some (.tup (awV (awH (ts.length:Int)))):=ah;generalize upd H t1 (.tup [.str "hear",.int (ts.length:Int)])=H1 at J1 g1;refine⟨(by show 1<=sizeLine;decide),fun L1 hL1=>?_⟩;have J2:=zB0 hL1 (.lst [.ref t1]);have g2:upd H1 L1 (.lst [.ref t1]) L1=some (.lst [.ref t1]):=ah;have g12:=J2 _ _ g1;generalize upd H1 L1 (.lst [.ref t1])=H2 at J2 g2 g12;refine⟨(by show 1<=sizeLine;decide),fun t2 ht2=>?_⟩;have J3:=zB0 ht2 (.tup [.str "coin"]);have g3:upd H2 t2 (.tup [.str "coin"]) t2=some (.tup (awV awC)):=ah;have g13:=J3 _ _ g12;have g23:=J3 _ _ g2;generalize upd H2 t2 (.tup [.str "coin"])=H3 at J3 g3 g13 g23;refine⟨(by show 1<=sizeLine;decide),fun L2 hL2=>?_⟩;have J4:=zB0 hL2 (.lst [.ref t2]);have g4:upd H3 L2 (.lst [.ref t2]) L2=some (.lst [.ref t2]):=ah;have g14:=J4 _ _ g13;have g24:=J4 _ _ g23;have g34:=J4 _ _ g3;generalize upd H3 L2 (.lst [.ref t2])=H4 at J4 g4 g14 g24 g34;have S04:=J1.trans (J2.trans (J3.trans J4));obtain⟨m,m1,em,eL⟩:∃m:Nat,m<=1/\(if decide ((1:Int)<(tv.length:Int))=true then(1:Int)else 0)=(m:Int)/\∀G:Hp,G t2=some (.tup (awV awC))->AwsAt G (List.replicate m [V.ref t2]).flatten (if 1<ts.length then [awC]else []):=by
   by_cases c:1<ts.length
   . refine ⟨1,zI0 _,?_,fun G e=>?_⟩
     . rw[decide_eq_true (show(1:Int)<(tv.length:Int) by omega)];rfl
     . rw[zF0 c];exact .cons e .nil
   . refine ⟨0,zN0 _,?_,fun G e=>?_⟩
     . rw[decide_eq_false (show ¬ (1:Int)<(tv.length:Int) by omega)];rfl
     . rw[zD0 c];exact .nil
  refine⟨_,rfl,b,_,rfl,.inr (zC0 (S04 _ _ hb)),_,_,rfl,rfl,.inr ⟨_,rfl,?_⟩⟩;have ln:∀n:Nat,(List.replicate n [V.ref t2]).flatten.length=n:=fun n=>by rw[wA];show n*1=n;omega
  refine ⟨L2,(m:Int),_,rfl,congrArg V.int em,g4,by omega,by omega,cL (by show 1*((m:Int)).toNat<=1000;omega),fun L3 hL3=>?_⟩;have J5:=zB0 hL3 (.lst (List.replicate ((m:Int)).toNat [V.ref t2]).flatten);have g5:upd H4 L3 (.lst (List.replicate ((m:Int)).toNat [V.ref t2]).flatten) L3=some (.lst (List.replicate m [V.ref t2]).flatten):=ah;have g15:=J5 _ _ g14;have g25:=J5 _ _ g24;have g35:=J5 _ _ g34;generalize upd H4 L3 (.lst (List.replicate ((m:Int)).toNat [V.ref t2]).flatten)=H5 at J5 g5 g15 g25 g35;refine⟨L1,L3,_,_,rfl,rfl,g25,g5,cL (by rw[ln];show 1+m<=1000;omega),fun q0 hq0=>?_⟩;have J6:=zB0 hq0 (.lst ([.ref t1]++(List.replicate m [V.ref t2]).flatten));have g6:upd H5 q0 (.lst ([.ref t1]++(List.replicate m [V.ref t2]).flatten)) q0=some (.lst ([.ref t1]++(List.replicate m [V.ref t2]).flatten)):=ah;have g16:=J6 _ _ g15;have g36:=J6 _ _ g35;have S06:=S04.trans (J5.trans J6);have q0f:q0≠f:=(W.F.same (S04.trans J5)).ne hq0;generalize upd H5 q0 (.lst ([.ref t1]++(List.replicate m [V.ref t2]).flatten))=H6 at J6 g6 g16 g36 S06;have A6:AwsAt H6 ([.ref t1]++(List.replicate m [V.ref t2]).flatten) (iU ns ts 0):=by
   have e0:iU ns ts 0=[awH (ts.length:Int)]++(if 1<ts.length then [awC]else []):=by
    unfold iU jk;rw[List.take_zero];show _::(_++[])=_;rw[List.append_nil];rfl
   rw[e0];exact AwsAt.append (.cons g16 .nil) (eL H6 g36)
  refine ⟨_,rfl,_,rfl,a,b,ns,tv,ts,rfl,S06 _ _ ha,S06 _ _ hb,TS.mono (aB S06),(fun z=>by rw[z]at tl1;cases tl1),t10,by omega,fun t ht=>(k.tok t ht).2,fun l H7 l0 S7 hl7=>?_⟩;have S07:=S06.trans S7;refine⟨l,rfl,⟨_,zG0 hl7⟩,cY (K:=K) (xs:=(ns.map (bj ts)).map V.int) (fun i σ H'=>∃(y9:Option V)(q':Addr)(dvs:List V),σ=[x0,some (.ref gt),some (.ref a),some (.ref b),some (.int p),some (.ref D),some (.ref f),some (.bl tru),some (.ref q'),y9,x10,x11,x12,x13]/\H' q'=some (.lst dvs)/\q'≠f/\AwsAt H' dvs (iU ns ts i)/\Same H7 H')
   ⟨_,q0,_,rfl,S7 _ _ g6,q0f,A6.same S7,Same.refl _⟩ (fun i σ H' _ hst=>by obtain⟨_,_,_,_,_,_,_,s⟩:=hst;exact zG0 (s _ _ hl7)) ?_ ?_⟩
  . rintro i v σ H8 hv ⟨y9,q',dvs,rfl,hq',qf',A8,S8⟩;rw[qE0,qE0]at hv;obtain⟨dg,hdg,rfl⟩:=qS0 hv;obtain⟨x,hx,rfl⟩:=qS0 hdg;have dl:=A8.length;have dn:=yD ns ts i;refine⟨_,rfl,_,rfl,_,_,rfl,rfl,(by show 2<=sizeLine;decide),fun t3 ht3=>?_⟩;have K1:=zB0 ht3 (.tup [.str "hear",.int (bj ts x+1)]);have k1:upd H8 t3 (.tup [.str "hear",.int (bj ts x+1)]) t3=some (.tup (awV (awH (bj ts x+1)))):=ah;generalize upd H8 t3 (.tup [.str "hear",.int (bj ts x+1)])=H9 at K1 k1;refine⟨(by show 1<=sizeLine;decide),fun t4 ht4=>?_⟩;have K2:=zB0 ht4 (.tup [.str "coin"]);have k2:upd H9 t4 (.tup [.str "coin"]) t4=some (.tup (awV awC)):=ah;have k12:=K2 _ _ k1;generalize upd H9 t4 (.tup [.str "coin"])=H10 at K2 k2 k12;refine⟨(by show 2<=sizeLine;decide),fun L4 hL4=>?_⟩;have K3:=zB0 hL4 (.lst [.ref t3,.ref t4]);have k3:upd H10 L4 (.lst [.ref t3,.ref t4]) L4=some (.lst [.ref t3,.ref t4]):=ah;have k13:=K3 _ _ k12;have k23:=K3 _ _ k2;generalize upd H10 L4 (.lst [.ref t3,.ref t4])=H11 at K3 k3 k13 k23;have S811:=K1.trans (K2.trans K3);refine⟨q',L4,_,_,rfl,rfl,S811 _ _ hq',k3,cL (by show dvs.length+2<=1000;omega),fun q2 hq2=>?_⟩;have K4:=zB0 hq2 (.lst (dvs++[.ref t3,.ref t4]));have S812:=S811.trans K4;refine⟨_,q2,dvs++[.ref t3,.ref t4],rfl,ah,(W.F.same (S07.trans (S8.trans S811))).ne hq2,?_,S8.trans S812⟩;rw[vh hx];exact(A8.same S812).append (.cons (K4 _ _ k13) (.cons (K4 _ _ k23) .nil))
  . rintro σ H8 ⟨y9,q',dvs,rfl,hq',qf',A8,S8⟩;rw[zE0,zE0,yE]at A8;have S08:=S07.trans S8;exact⟨_,_,_,_,_,_,f,D,g,a,b,d,gt,q',ns,tv,ts,p,tru,dvs,rfl,W.same S08,k,nl,nd,S08 _ _ hgt,hq',qf',A8,fin⟩
 refine⟨_,rfl,a0,ns0,1,rfl,hS,h63,by decide,by decide,fun f1 H1 f10 S1 F1=>?_⟩;refine⟨f1,4,8,rfl,F1,by decide,by decide,by decide,by decide,fun gt sa sb ns tv ts p H2 hgt hsa snl snok snd hsb TS tl1 tl4 tok pp p3 p9 tp tc F2 S2=>?_⟩;have S02:Same H H2:=S1.but f10 S2;refine⟨_,rfl,gt,_,rfl,zC0 hgt,rfl,_,_,rfl,_,_,rfl,_,_,rfl,rfl,?_⟩;have k:GmK ns ts p:=⟨pp,p3,p9,by omega,tl1,by omega,fun t ht=>⟨(tok t ht).1,Tr.ok_wf snok t (tok t ht).1,by have:=(tok t ht).2.1;omega,by have:=(tok t ht).2.2;omega⟩,tp,tc⟩
 refine ⟨_,rfl,_,rfl,_,rfl,fun g dx nx ndx nex=>?_⟩;have s5:Same H2 (upd (upd H2 dx (.own g)) g (.ins CG dx [])):=fun b o e=>by
  rw[aq (ai e nx),aq (ai e ndx)];exact e
 refine⟨g,dx,sa,sb,ns,tv,ts,p,rfl,ah,s5 _ _ hsa,snd,by omega,s5 _ _ hsb,TS.mono (aB s5),tl1,by omega,k.tok,pp,p3,p9,tp,tc,fun d H6 d0 GA hd S6=>⟨rfl,?_⟩⟩;have S56:Same H2 H6:=fun b o e=>S6 b o (ai e nx) (s5 b o e)
 have G6:GmA CG H6 g sa sb d ns tv ts p:=⟨GA,S56 _ _ hsa,S56 _ _ hsb,TS.mono (aB S56),hd⟩
 refine fun D dD nD ndD neD=>?_
 have s10:Same H6 (upd (upd H6 dD (.own D)) D (.ins C dD [])):=fun b o e=>by
  rw[aq (ai e nD),aq (ai e ndD)];exact e
 have hD10:upd (upd H6 dD (.own D)) D (.ins C dD []) D=some (.ins C dD []):=ah;generalize upd (upd H6 dD (.own D)) D (.ins C dD [])=H10 at s10 hD10;have gD:g≠D:=by
  obtain⟨⟨dg,hg⟩,_⟩:=G6;exact ai hg nD
 refine⟨D,g,dD,ns,ts,p,rfl,hD10,(G6.same s10).gm,gD,fun H11 S11 D11=>⟨rfl,?_⟩⟩;have S911:Same H6 H11:=fun b o e=>S11 b o (ai e nD) (s10 b o e)
 have S211:=S56.trans S911;have S011:=S02.trans S211;have G11:=G6.same S911;refine⟨_,rfl,a0,ns0,2,rfl,S011.seq hS,h63,by decide,by decide,fun f H12 f0 S12 F12=>?_⟩;have df:d≠f:=ai G11.2.2.2.2 f0;have W12:Wd C CG H12 f D g sa sb d d (Db.new ts) ns tv ts p:=⟨F12,D11.same S12,G11.same S12,S12 _ _ G11.2.2.2.2,df,df⟩
 refine⟨_,rfl,f,2,rfl,F12,by decide,by decide,fun o H13 o0 o1 F13 S13=>⟨rfl,?_⟩⟩;have W13:=W12.feed S13 F13;have hgt12:=S12 _ _ (S211 _ _ hgt);exact⟨_,_,_,_,_,_,_,f,D,g,sa,sb,d,gt,ns,tv,ts,p,_,rfl,W13,k,by omega,snd,S13 _ _ (bi F12 hgt12 (fun _ z=>by cases z)) hgt12,q⟩
end
end
abbrev HA(K:W.Frag)(x:Str)(f:Addr):Prop:=W.nsIn K mainGlobals x=some (some (.ref f))
abbrev HL(K:W.Frag)(f:Addr)(x y:Str)(s:Stmt)(oc:Value)(od:Option Addr)(kV dc pm:Value)(an:Option Addr)(cd ct:Value)(sl:Array (Option Value)):Prop:=K.lookup f=some ⟨oc,od,.func (W.fnOf x y (cP s) (bP s) (ak s) .none kV dc pm an cd ct),sl⟩
abbrev HC(K:W.Frag)(c:Value)(x:Str):Prop:=W.codeIn K c x=true
abbrev HK(K:W.Frag)(f:Addr):Prop:=W.keepIn K (.ref f)=true
abbrev HF(K:W.Frag)(C:Addr)(x:Str)(v:Option Value):Prop:=W.findIn K (.ref C) x=some v
theorem all_mk {l:PySem.W.OpenLaw} {w:World} {K:W.Frag} {h:Heap} {mg:Str->Option Value} {fa f0 f1 f2 f3 f4 f5 f6 f7 f8 f9 f10 f11 f12 f13 f14 f15 f16 f17 f18 f19 f20 f21 f22 f23 f24 f25 f26 f27 f28 f29 f30 f31 f32 f33 f34 f35 f36 f37 f38 f39 f40 f41 f42 f43 f44 f45 f46 f47 f48 f49:Addr} (X:K.In h) (G:h.Ns mainGlobals mg) (hfa:mg "law"=some (.ref fa))
 {od0 an0 od1 an1 od2 an2 od3 an3 od4 an4 od5 an5 od6 an6 od7 an7 od8 an8 od9 an9 od10 an10 od11 an11 od12 an12 od13 an13 od14 an14 od15 an15 od16 an16 od17 an17 od18 an18 od19 an19 od20 an20 od21 an21 od22 an22 od23 an23 od24 an24 od25 an25 od26 an26 od27 an27 od28 an28 od29 an29 od30 an30 od31 an31 od32 an32 od33 an33 od34 an34 od35 an35 od36 an36 od37 an37 od38 an38 od39 an39 od40 an40 od41 an41 od42 an42 od43 an43 od44 an44 od45 an45 od46 an46 od47 an47 od48 an48 od49 an49:Option Addr} {sl0 sl1 sl2 sl3 sl4 sl5 sl6 sl7 sl8 sl9 sl10 sl11 sl12 sl13 sl14 sl15 sl16 sl17 sl18 sl19 sl20 sl21 sl22 sl23 sl24 sl25 sl26 sl27 sl28 sl29 sl30 sl31 sl32 sl33 sl34 sl35 sl36 sl37 sl38 sl39 sl40 sl41 sl42 sl43 sl44 sl45 sl46 sl47 sl48 sl49:Array (Option Value)} {oc0 kV0 dc0 pm0 cd0 ct0 oc1 kV1 dc1 pm1 cd1 ct1 oc2 kV2 dc2 pm2 cd2 ct2 oc3 kV3 dc3 pm3 cd3 ct3 oc4 kV4 dc4 pm4 cd4 ct4 oc5 kV5 dc5 pm5 cd5 ct5 oc6 kV6 dc6 pm6 cd6 ct6 oc7 kV7 dc7 pm7 cd7 ct7 oc8 kV8 dc8 pm8 cd8 ct8 oc9 kV9 dc9 pm9 cd9 ct9 oc10 kV10 dc10 pm10 cd10 ct10 oc11 kV11 dc11 pm11 cd11 ct11 oc12 kV12 dc12 pm12 cd12 ct12 oc13 kV13 dc13 pm13 cd13 ct13 oc14 kV14 dc14 pm14 cd14 ct14 oc15 kV15 dc15 pm15 cd15 ct15 oc16 kV16 dc16 pm16 cd16 ct16 oc17 kV17 dc17 pm17 cd17 ct17 oc18 kV18 dc18 pm18 cd18 ct18 oc19 kV19 dc19 pm19 cd19 ct19 oc20 kV20 dc20 pm20 cd20 ct20 oc21 kV21 dc21 pm21 cd21 ct21 oc22 kV22 dc22 pm22 cd22 ct22 oc23 kV23 dc23 pm23 cd23 ct23 oc24 kV24 dc24 pm24 cd24 ct24 oc25 kV25 dc25 pm25 cd25 ct25 oc26 kV26 dc26 pm26 cd26 ct26 oc27 kV27 dc27 pm27 cd27 ct27 oc28 kV28 dc28 pm28 cd28 ct28 oc29 kV29 dc29 pm29 cd29 ct29 oc30 kV30 dc30 pm30 cd30 ct30 oc31 kV31 dc31 pm31 cd31 ct31 oc32 kV32 dc32 pm32 cd32 ct32 oc33 kV33 dc33 pm33 cd33 ct33 oc34 kV34 dc34 pm34 cd34 ct34 oc35 kV35 dc35 pm35 cd35 ct35 oc36 kV36 dc36 pm36 cd36 ct36 oc37 kV37 dc37 pm37 cd37 ct37 oc38 kV38 dc38 pm38 cd38 ct38 oc39 kV39 dc39 pm39 cd39 ct39 oc40 kV40 dc40 pm40 cd40 ct40 oc41 kV41 dc41 pm41 cd41 ct41 oc42 kV42 dc42 pm42 cd42 ct42 oc43 kV43 dc43 pm43 cd43 ct43 oc44 kV44 dc44 pm44 cd44 ct44 oc45 kV45 dc45 pm45 cd45 ct45 oc46 kV46 dc46 pm46 cd46 ct46 oc47 kV47 dc47 pm47 cd47 ct47 oc48 kV48 dc48 pm48 cd48 ct48 oc49 kV49 dc49 pm49 cd49 ct49:Value}
 (a0:HA K "_wall" f0) (l0:HL K f0 "_wall" "_wall" wg oc0 od0 kV0 dc0 pm0 an0 cd0 ct0 sl0) (c0:HC K cd0 "_wall") (k0:HK K f0)
 (a1:HA K "is_field" f1) (l1:HL K f1 "is_field" "is_field" im oc1 od1 kV1 dc1 pm1 an1 cd1 ct1 sl1) (c1:HC K cd1 "is_field") (k1:HK K f1)
 (a2:HA K "inverse_of" f2) (l2:HL K f2 "inverse_of" "inverse_of" fu oc2 od2 kV2 dc2 pm2 an2 cd2 ct2 sl2) (c2:HC K cd2 "inverse_of") (k2:HK K f2)
 (a3:HA K "is_number" f3) (l3:HL K f3 "is_number" "is_number" gC oc3 od3 kV3 dc3 pm3 an3 cd3 ct3 sl3) (c3:HC K cd3 "is_number") (k3:HK K f3)
 (a4:HA K "value_at" f4) (l4:HL K f4 "value_at" "value_at" ie oc4 od4 kV4 dc4 pm4 an4 cd4 ct4 sl4) (c4:HC K cd4 "value_at") (k4:HK K f4)
 (a5:HA K "both_ends" f5) (l5:HL K f5 "both_ends" "both_ends" gF oc5 od5 kV5 dc5 pm5 an5 cd5 ct5 sl5) (c5:HC K cd5 "both_ends") (k5:HK K f5)
 (a6:HA K "value_behind" f6) (l6:HL K f6 "value_behind" "value_behind" dB oc6 od6 kV6 dc6 pm6 an6 cd6 ct6 sl6) (c6:HC K cd6 "value_behind") (k6:HK K f6)
 (a7:HA K "products" f7) (l7:HL K f7 "products" "products" ig oc7 od7 kV7 dc7 pm7 an7 cd7 ct7 sl7) (c7:HC K cd7 "products") (k7:HK K f7)
 (a8:HA K "inverse_factorials" f8) (l8:HL K f8 "inverse_factorials" "inverse_factorials" cx oc8 od8 kV8 dc8 pm8 an8 cd8 ct8 sl8) (c8:HC K cd8 "inverse_factorials") (k8:HK K f8)
 (a9:HA K "trees_within" f9) (l9:HL K f9 "trees_within" "trees_within" dC oc9 od9 kV9 dc9 pm9 an9 cd9 ct9 sl9) (c9:HC K cd9 "trees_within") (k9:HK K f9)
 (a10:HA K "size_of" f10) (l10:HL K f10 "size_of" "size_of" gS oc10 od10 kV10 dc10 pm10 an10 cd10 ct10 sl10) (c10:HC K cd10 "size_of") (k10:HK K f10)
 (a11:HA K "names_in" f11) (l11:HL K f11 "names_in" "names_in" fX oc11 od11 kV11 dc11 pm11 an11 cd11 ct11 sl11) (c11:HC K cd11 "names_in") (k11:HK K f11)
 (a12:HA K "all_sizes" f12) (l12:HL K f12 "all_sizes" "all_sizes" gG oc12 od12 kV12 dc12 pm12 an12 cd12 ct12 sl12) (c12:HC K cd12 "all_sizes") (k12:HK K f12)
 (a13:HA K "worth_of" f13) (l13:HL K f13 "worth_of" "worth_of" fV oc13 od13 kV13 dc13 pm13 an13 cd13 ct13 sl13) (c13:HC K cd13 "worth_of") (k13:HK K f13)
 (a14:HA K "joined_worth" f14) (l14:HL K f14 "joined_worth" "joined_worth" dF oc14 od14 kV14 dc14 pm14 an14 cd14 ct14 sl14) (c14:HC K cd14 "joined_worth") (k14:HK K f14)
 (a15:HA K "degree_of" f15) (l15:HL K f15 "degree_of" "degree_of" gE oc15 od15 kV15 dc15 pm15 an15 cd15 ct15 sl15) (c15:HC K cd15 "degree_of") (k15:HK K f15)
 (a16:HA K "look_switches" f16) (l16:HL K f16 "look_switches" "look_switches" cZ oc16 od16 kV16 dc16 pm16 an16 cd16 ct16 sl16) (c16:HC K cd16 "look_switches") (k16:HK K f16)
 (a17:HA K "look_names" f17) (l17:HL K f17 "look_names" "look_names" fj oc17 od17 kV17 dc17 pm17 an17 cd17 ct17 sl17) (c17:HC K cd17 "look_names") (k17:HK K f17)
 (a18:HA K "look_field" f18) (l18:HL K f18 "look_field" "look_field" fk oc18 od18 kV18 dc18 pm18 an18 cd18 ct18 sl18) (c18:HC K cd18 "look_field") (k18:HK K f18)
 (a19:HA K "look_size" f19) (l19:HL K f19 "look_size" "look_size" gx oc19 od19 kV19 dc19 pm19 an19 cd19 ct19 sl19) (c19:HC K cd19 "look_size") (k19:HK K f19)
 (a20:HA K "_law_feed" f20) (l20:HL K f20 "_law_feed" "_law_feed" jU oc20 od20 kV20 dc20 pm20 an20 cd20 ct20 sl20) (c20:HC K cd20 "_law_feed") (k20:HK K f20)
 (a21:HA K "_law_take" f21) (l21:HL K f21 "_law_take" "_law_take" jQ oc21 od21 kV21 dc21 pm21 an21 cd21 ct21 sl21) (c21:HC K cd21 "_law_take") (k21:HK K f21)
 (a22:HA K "_law_names" f22) (l22:HL K f22 "_law_names" "_law_names" bw oc22 od22 kV22 dc22 pm22 an22 cd22 ct22 sl22) (c22:HC K cd22 "_law_names") (k22:HK K f22)
 (a23:HA K "_law_tree" f23) (l23:HL K f23 "_law_tree" "_law_tree" iJ oc23 od23 kV23 dc23 pm23 an23 cd23 ct23 sl23) (c23:HC K cd23 "_law_tree") (k23:HK K f23)
 (a24:HA K "_law_names_of" f24) (l24:HL K f24 "_law_names_of" "_law_names_of" dE oc24 od24 kV24 dc24 pm24 an24 cd24 ct24 sl24) (c24:HC K cd24 "_law_names_of") (k24:HK K f24)
 (a25:HA K "_law_need" f25) (l25:HL K f25 "_law_need" "_law_need" jS oc25 od25 kV25 dc25 pm25 an25 cd25 ct25 sl25) (c25:HC K cd25 "_law_need") (k25:HK K f25)
 (a26:HA K "_law_is_prime" f26) (l26:HL K f26 "_law_is_prime" "_law_is_prime" ft oc26 od26 kV26 dc26 pm26 an26 cd26 ct26 sl26) (c26:HC K cd26 "_law_is_prime") (k26:HK K f26)
 (a27:HA K "_law_field" f27) (l27:HL K f27 "_law_field" "_law_field" jh oc27 od27 kV27 dc27 pm27 an27 cd27 ct27 sl27) (c27:HC K cd27 "_law_field") (k27:HK K f27)
 (a28:HA K "_law_game" f28) (l28:HL K f28 "_law_game" "_law_game" jT oc28 od28 kV28 dc28 pm28 an28 cd28 ct28 sl28) (c28:HC K cd28 "_law_game") (k28:HK K f28)
 (a29:HA K "_law_degrees" f29) (l29:HL K f29 "_law_degrees" "_law_degrees" gB oc29 od29 kV29 dc29 pm29 an29 cd29 ct29 sl29) (c29:HC K cd29 "_law_degrees") (k29:HK K f29)
 (a30:HA K "_law_size" f30) (l30:HL K f30 "_law_size" "_law_size" iK oc30 od30 kV30 dc30 pm30 an30 cd30 ct30 sl30) (c30:HC K cd30 "_law_size") (k30:HK K f30)
 (a31:HA K "_law_worth" f31) (l31:HL K f31 "_law_worth" "_law_worth" gU oc31 od31 kV31 dc31 pm31 an31 cd31 ct31 sl31) (c31:HC K cd31 "_law_worth") (k31:HK K f31)
 (a32:HA K "_law_mix" f32) (l32:HL K f32 "_law_mix" "_law_mix" lX oc32 od32 kV32 dc32 pm32 an32 cd32 ct32 sl32) (c32:HC K cd32 "_law_mix") (k32:HK K f32)
 (a33:HA K "_law_inverse" f33) (l33:HL K f33 "_law_inverse" "_law_inverse" gz oc33 od33 kV33 dc33 pm33 an33 cd33 ct33 sl33) (c33:HC K cd33 "_law_inverse") (k33:HK K f33)
 (a34:HA K "_law_value" f34) (l34:HL K f34 "_law_value" "_law_value" jd oc34 od34 kV34 dc34 pm34 an34 cd34 ct34 sl34) (c34:HC K cd34 "_law_value") (k34:HK K f34)
 (a35:HA K "_law_settings" f35) (l35:HL K f35 "_law_settings" "_law_settings" fo oc35 od35 kV35 dc35 pm35 an35 cd35 ct35 sl35) (c35:HC K cd35 "_law_settings") (k35:HK K f35)
 (a36:HA K "_law_sum" f36) (l36:HL K f36 "_law_sum" "_law_sum" lW oc36 od36 kV36 dc36 pm36 an36 cd36 ct36 sl36) (c36:HC K cd36 "_law_sum") (k36:HK K f36)
 (a37:HA K "_law_true" f37) (l37:HL K f37 "_law_true" "_law_true" jP oc37 od37 kV37 dc37 pm37 an37 cd37 ct37 sl37) (c37:HC K cd37 "_law_true") (k37:HK K f37)
 (a38:HA K "_law_coin" f38) (l38:HL K f38 "_law_coin" "_law_coin" jW oc38 od38 kV38 dc38 pm38 an38 cd38 ct38 sl38) (c38:HC K cd38 "_law_coin") (k38:HK K f38)
 (a39:HA K "_law_said" f39) (l39:HL K f39 "_law_said" "_law_said" jR oc39 od39 kV39 dc39 pm39 an39 cd39 ct39 sl39) (c39:HC K cd39 "_law_said") (k39:HK K f39)
 (a40:HA K "_law_why" f40) (l40:HL K f40 "_law_why" "_law_why" lV oc40 od40 kV40 dc40 pm40 an40 cd40 ct40 sl40) (c40:HC K cd40 "_law_why") (k40:HK K f40)
 (a41:HA K "_law_state" f41) (l41:HL K f41 "_law_state" "_law_state" je oc41 od41 kV41 dc41 pm41 an41 cd41 ct41 sl41) (c41:HC K cd41 "_law_state") (k41:HK K f41)
 (a42:HA K "_law_bad" f42) (l42:HL K f42 "_law_bad" "_law_bad" lY oc42 od42 kV42 dc42 pm42 an42 cd42 ct42 sl42) (c42:HC K cd42 "_law_bad") (k42:HK K f42)
 (a43:HA K "_law_spoilt" f43) (l43:HL K f43 "_law_spoilt" "_law_spoilt" ik oc43 od43 kV43 dc43 pm43 an43 cd43 ct43 sl43) (c43:HC K cd43 "_law_spoilt") (k43:HK K f43)
 (a44:HA K "_law_refused" f44) (l44:HL K f44 "_law_refused" "_law_refused" gy oc44 od44 kV44 dc44 pm44 an44 cd44 ct44 sl44) (c44:HC K cd44 "_law_refused") (k44:HK K f44)
 (a45:HA K "_law_given" f45) (l45:HL K f45 "_law_given" "_law_given" jg oc45 od45 kV45 dc45 pm45 an45 cd45 ct45 sl45) (c45:HC K cd45 "_law_given") (k45:HK K f45)
 (a46:HA K "_law_noted" f46) (l46:HL K f46 "_law_noted" "_law_noted" jf oc46 od46 kV46 dc46 pm46 an46 cd46 ct46 sl46) (c46:HC K cd46 "_law_noted") (k46:HK K f46)
 (a47:HA K "_law_next_row" f47) (l47:HL K f47 "_law_next_row" "_law_next_row" fq oc47 od47 kV47 dc47 pm47 an47 cd47 ct47 sl47) (c47:HC K cd47 "_law_next_row") (k47:HK K f47)
 (a48:HA K "_law_ends" f48) (l48:HL K f48 "_law_ends" "_law_ends" jV oc48 od48 kV48 dc48 pm48 an48 cd48 ct48 sl48) (c48:HC K cd48 "_law_ends") (k48:HK K f48)
 (a49:HA K "law" f49) (l49:HL K f49 "law" "law" mY oc49 od49 kV49 dc49 pm49 an49 cd49 ct49 sl49) (c49:HC K cd49 "law") (k49:HK K f49)
 {CG gmgI gmgM gmgW:Addr} {gmodI gmanI gmodM gmanM gmodW gmanW:Option Addr} {gmslI gmslM gmslW:Array (Option Value)} {gmocI gmkVI gmdcI gmpmI gmcdI gmctI gmocM gmkVM gmdcM gmpmM gmcdM gmctM gmocW gmkVW gmdcW gmpmW gmcdW gmctW:Value}
 {C dbgI dbgW dbgU dbgH dbgT dbgC dbgB dbgR dbgG dbgE dbgL:Addr} {dbodI dbanI dbodW dbanW dbodU dbanU dbodH dbanH dbodT dbanT dbodC dbanC dbodB dbanB dbodR dbanR dbodG dbanG dbodE dbanE dbodL dbanL:Option Addr} {dbslI dbslW dbslU dbslH dbslT dbslC dbslB dbslR dbslG dbslE dbslL:Array (Option Value)} {dbocI dbkVI dbdcI dbpmI dbcdI dbctI dbocW dbkVW dbdcW dbpmW dbcdW dbctW dbocU dbkVU dbdcU dbpmU dbcdU dbctU dbocH dbkVH dbdcH dbpmH dbcdH dbctH dbocT dbkVT dbdcT dbpmT dbcdT dbctT dbocC dbkVC dbdcC dbpmC dbcdC dbctC dbocB dbkVB dbdcB dbpmB dbcdB dbctB dbocR dbkVR dbdcR dbpmR dbcdR dbctR dbocG dbkVG dbdcG dbpmG dbcdG dbctG dbocE dbkVE dbdcE dbpmE dbcdE dbctE dbocL dbkVL dbdcL dbpmL dbcdL dbctL:Value}
 {te:Tok}
 {CA gA TA NA cc6 g6 N6 T6:Addr} {odA anA tdA ddA od_6 an_6 dd6 td6:Option Addr} {slA tslA sl_6 tsl6:Array (Option Value)} {ocA kVA dcA pmA cdA ctA kV_6 dc_6 pm_6 cd_6 ct_6:Value} {tkA:Tok} {tnA tn6:Nat} {nm6 qn6 nmA qnA:Str} {bs6 sub6 bsA subA:List Value} {sn6 snA:List Str} {ab6 abA:Bool} {col6 colA:Option Bool} {q06 q16 q26 q36 q56 q0A q1A q2A q3A q5A:Option Value}
 {cc7 g7 N7 T7:Addr} {od_7 an_7 dd7 td7:Option Addr} {sl_7 tsl7:Array (Option Value)} {kV_7 dc_7 pm_7 cd_7 ct_7:Value} {tn7:Nat} {nm7 qn7:Str} {bs7 sub7:List Value} {sn7:List Str} {ab7:Bool} {col7:Option Bool} {q07 q17 q27 q37 q57:Option Value}
 {cc8 g8 N8 T8:Addr} {od_8 an_8 dd8 td8:Option Addr} {sl_8 tsl8:Array (Option Value)} {kV_8 dc_8 pm_8 cd_8 ct_8:Value} {tn8:Nat} {nm8 qn8:Str} {bs8 sub8:List Value} {sn8:List Str} {ab8:Bool} {col8:Option Bool} {q08 q18 q28 q38 q58:Option Value}
 {cc0 N0:Addr} {dd0:Option Addr} {nm0 qn0:Str} {bs0 sub0:List Value} {sn0:List Str} {ab0:Bool} {col0:Option Bool} {q00 q10 q20 q30 q50:Option Value}
 {cc1 N1:Addr} {dd1:Option Addr} {nm1 qn1:Str} {bs1 sub1:List Value} {sn1:List Str} {ab1:Bool} {col1:Option Bool} {q01 q11 q21 q31 q51:Option Value}
 {cc2 N2:Addr} {dd2:Option Addr} {nm2 qn2:Str} {bs2 sub2:List Value} {sn2:List Str} {ab2:Bool} {col2:Option Bool} {q02 q12 q22 q32 q52:Option Value}
 {cc3 N3:Addr} {dd3:Option Addr} {nm3 qn3:Str} {bs3 sub3:List Value} {sn3:List Str} {ab3:Bool} {col3:Option Bool} {q03 q13 q23 q33 q53:Option Value}
 {cc4 N4:Addr} {dd4:Option Addr} {nm4 qn4:Str} {bs4 sub4:List Value} {sn4:List Str} {ab4:Bool} {col4:Option Bool} {q04 q14 q24 q34 q54:Option Value}
 {cc5 N5:Addr} {dd5:Option Addr} {nm5 qn5:Str} {bs5 sub5:List Value} {sn5:List Str} {ab5:Bool} {col5:Option Bool} {q05 q15 q25 q35 q55:Option Value}
 {cc9 N9:Addr} {dd9:Option Addr} {nm9 qn9:Str} {bs9 sub9:List Value} {sn9:List Str} {ab9:Bool} {col9:Option Bool} {q09 q19 q29 q39 q59:Option Value}
 (gmgg:HA K "Game" CG)
 (gmaI:HF K CG "__init__" (some (.ref gmgI)))
 (gmiI:W.isFn K (.ref gmgI)=true)
 (gmlI:HL K gmgI "__init__" "Game.__init__" lZ gmocI gmodI gmkVI gmdcI gmpmI gmanI gmcdI gmctI gmslI)
 (gmcI:HC K gmcdI "Game.__init__")
 (gmkI:HK K gmgI)
 (gmaM:HF K CG "mix" (some (.ref gmgM)))
 (gmiM:W.isFn K (.ref gmgM)=true)
 (gmlM:HL K gmgM "mix" "Game.mix" qq gmocM gmodM gmkVM gmdcM gmpmM gmanM gmcdM gmctM gmslM)
 (gmcM:HC K gmcdM "Game.mix")
 (gmkM:HK K gmgM)
 (gmaW:HF K CG "worth_at" (some (.ref gmgW)))
 (gmiW:W.isFn K (.ref gmgW)=true)
 (gmlW:HL K gmgW "worth_at" "Game.worth_at" jX gmocW gmodW gmkVW gmdcW gmpmW gmanW gmcdW gmctW gmslW)
 (gmcW:HC K gmcdW "Game.worth_at")
 (gmkW:HK K gmgW)
 (gmpg:W.plainGet K CG Str.empty=true)
 (gmhdi:W.hasDictIn K CG=true)
 (gmpov:W.plainOver K CG=true)
 (gmsat:HF K CG "__setattr__" (some (.builtin "object.__setattr__")))
 (gmmki:W.makesIn K CG=true)
 (gmkcl:HK K CG)
 (gmn_switches:HF K CG "switches" none)
 (gmn_trees:HF K CG "trees" none)
 (gmn_field:HF K CG "field" none)
 (gmn_degrees:HF K CG "degrees" none)
 (dbgg:HA K "Doubter" C)
 (dbaI:HF K C "__init__" (some (.ref dbgI)))
 (dbiI:W.isFn K (.ref dbgI)=true)
 (dblI:HL K dbgI "__init__" "Doubter.__init__" me dbocI dbodI dbkVI dbdcI dbpmI dbanI dbcdI dbctI dbslI)
 (dbcI:HC K dbcdI "Doubter.__init__")
 (dbkI:HK K dbgI)
 (dbaW:HF K C "waits" (some (.ref dbgW)))
 (dbiW:W.isFn K (.ref dbgW)=true)
 (dblW:HL K dbgW "waits" "Doubter.waits" jY dbocW dbodW dbkVW dbdcW dbpmW dbanW dbcdW dbctW dbslW)
 (dbcW:HC K dbcdW "Doubter.waits")
 (dbkW:HK K dbgW)
 (dbaU:HF K C "due" (some (.ref dbgU)))
 (dbiU:W.isFn K (.ref dbgU)=true)
 (dblU:HL K dbgU "due" "Doubter.due" qt dbocU dbodU dbkVU dbdcU dbpmU dbanU dbcdU dbctU dbslU)
 (dbcU:HC K dbcdU "Doubter.due")
 (dbkU:HK K dbgU)
 (dbaH:HF K C "hear" (some (.ref dbgH)))
 (dbiH:W.isFn K (.ref dbgH)=true)
 (dblH:HL K dbgH "hear" "Doubter.hear" mh dbocH dbodH dbkVH dbdcH dbpmH dbanH dbcdH dbctH dbslH)
 (dbcH:HC K dbcdH "Doubter.hear")
 (dbkH:HK K dbgH)
 (dbaT:HF K C "toss" (some (.ref dbgT)))
 (dbiT:W.isFn K (.ref dbgT)=true)
 (dblT:HL K dbgT "toss" "Doubter.toss" ma dbocT dbodT dbkVT dbdcT dbpmT dbanT dbcdT dbctT dbslT)
 (dbcT:HC K dbcdT "Doubter.toss")
 (dbkT:HK K dbgT)
 (dbaC:HF K C "hear_claims" (some (.ref dbgC)))
 (dbiC:W.isFn K (.ref dbgC)=true)
 (dblC:HL K dbgC "hear_claims" "Doubter.hear_claims" jj dbocC dbodC dbkVC dbdcC dbpmC dbanC dbcdC dbctC dbslC)
 (dbcC:HC K dbcdC "Doubter.hear_claims")
 (dbkC:HK K dbgC)
 (dbaB:HF K C "begin_rounds" (some (.ref dbgB)))
 (dbiB:W.isFn K (.ref dbgB)=true)
 (dblB:HL K dbgB "begin_rounds" "Doubter.begin_rounds" ka dbocB dbodB dbkVB dbdcB dbpmB dbanB dbcdB dbctB dbslB)
 (dbcB:HC K dbcdB "Doubter.begin_rounds")
 (dbkB:HK K dbgB)
 (dbaR:HF K C "hear_row" (some (.ref dbgR)))
 (dbiR:W.isFn K (.ref dbgR)=true)
 (dblR:HL K dbgR "hear_row" "Doubter.hear_row" qr dbocR dbodR dbkVR dbdcR dbpmR dbanR dbcdR dbctR dbslR)
 (dbcR:HC K dbcdR "Doubter.hear_row")
 (dbkR:HK K dbgR)
 (dbaG:HF K C "go_on" (some (.ref dbgG)))
 (dbiG:W.isFn K (.ref dbgG)=true)
 (dblG:HL K dbgG "go_on" "Doubter.go_on" we dbocG dbodG dbkVG dbdcG dbpmG dbanG dbcdG dbctG dbslG)
 (dbcG:HC K dbcdG "Doubter.go_on")
 (dbkG:HK K dbgG)
 (dbaE:HF K C "look_at_trees" (some (.ref dbgE)))
 (dbiE:W.isFn K (.ref dbgE)=true)
 (dblE:HL K dbgE "look_at_trees" "Doubter.look_at_trees" jZ dbocE dbodE dbkVE dbdcE dbpmE dbanE dbcdE dbctE dbslE)
 (dbcE:HC K dbcdE "Doubter.look_at_trees")
 (dbkE:HK K dbgE)
 (dbaL:HF K C "looked" (some (.ref dbgL)))
 (dbiL:W.isFn K (.ref dbgL)=true)
 (dblL:HL K dbgL "looked" "Doubter.looked" ji dbocL dbodL dbkVL dbdcL dbpmL dbanL dbcdL dbctL dbslL)
 (dbcL:HC K dbcdL "Doubter.looked")
 (dbkL:HK K dbgL)
 (dbpg:W.plainGet K C Str.empty=true)
 (dbhdi:W.hasDictIn K C=true)
 (dbpov:W.plainOver K C=true)
 (dbsat:HF K C "__setattr__" (some (.builtin "object.__setattr__")))
 (dbmki:W.makesIn K C=true)
 (dbkcl:HK K C)
 (dbn_game:HF K C "game" none)
 (dbn_awaited:HF K C "awaited" none)
 (dbn_claims:HF K C "claims" none)
 (dbn_s:HF K C "s" none)
 (dbn_heard:HF K C "heard" none)
 (dbn_tossed:HF K C "tossed" none)
 (dbn_held:HF K C "held" none)
 (dbn_places:HF K C "places" none)
 (ge:W.nsIn K mainGlobals "FIELDS_END"=some (some (.int 1000000 te)))
 (gAs:HA K "AskError" CA)
 (iAs0:K.lookup CA=some (excClassObj nmA qnA CA NA bsA bmV true snA subA abA colA ddA q0A q1A q2A q3A q5A "ValueError.__new__"))
 (xga:W.specialIn K (.ref CA) "__getattribute__"=some (some (.builtin "type.__getattribute__")))
 (xrd:W.readsIn K CA (.type "type")=true)
 (xfc0:W.findCls K (.ref CA) (.type "type") "__init__"=some (.val (.ref gA)))
 (xlk:K.lookup gA=some ⟨ocA,odA,.func (W.fnOf "__init__" "AskError.__init__" (cP eE) (bP eE) (ak eE) (.ref TA) kVA dcA pmA anA cdA ctA),slA⟩)
 (xtp:K.lookup TA=some ⟨.type "tuple",tdA,.seq #[.str "" tkA] tnA,tslA⟩)
 (xcd:HC K cdA "AskError.__init__")
 (xkp:HK K gA)
 (yg6:HA K "NoTurn" cc6)
 (yo6:K.lookup cc6=some (excClassObj nm6 qn6 cc6 N6 bs6 (.ref CA::bmV) true sn6 sub6 ab6 col6 dd6 q06 q16 q26 q36 q56 "ValueError.__new__"))
 (ys6:HF K cc6 "__setattr__" (some (.builtin "object.__setattr__")))
 (ya6:HF K cc6 "__getattribute__" (some (.builtin "BaseException.__getattribute__")))
 (yt6:HF K cc6 "__getattr__" none)
 (yc6:HF K cc6 "__class__" (some (.builtin "object.__class__")))
 (yi6:HF K cc6 "__init__" (some (.ref g6)))
 (yl6:K.lookup g6=some ⟨.type "function",od_6,.func (W.fnOf "__init__" "NoTurn.__init__" (cP gV) (bP gV) (ak gV) (.ref T6) kV_6 dc_6 pm_6 an_6 cd_6 ct_6),sl_6⟩)
 (yd6:K.lookup T6=some ⟨.type "tuple",td6,.seq #[.none] tn6,tsl6⟩)
 (yk6:HC K cd_6 "NoTurn.__init__")
 (yp6:HK K g6)
 (yq6:HK K cc6)
 (yn6:HF K cc6 "row" none)
 (yg7:HA K "NoCount" cc7)
 (yo7:K.lookup cc7=some (excClassObj nm7 qn7 cc7 N7 bs7 (.ref CA::bmV) true sn7 sub7 ab7 col7 dd7 q07 q17 q27 q37 q57 "ValueError.__new__"))
 (ys7:HF K cc7 "__setattr__" (some (.builtin "object.__setattr__")))
 (ya7:HF K cc7 "__getattribute__" (some (.builtin "BaseException.__getattribute__")))
 (yt7:HF K cc7 "__getattr__" none)
 (yc7:HF K cc7 "__class__" (some (.builtin "object.__class__")))
 (yi7:HF K cc7 "__init__" (some (.ref g7)))
 (yl7:K.lookup g7=some ⟨.type "function",od_7,.func (W.fnOf "__init__" "NoCount.__init__" (cP fK) (bP fK) (ak fK) (.ref T7) kV_7 dc_7 pm_7 an_7 cd_7 ct_7),sl_7⟩)
 (yd7:K.lookup T7=some ⟨.type "tuple",td7,.seq #[.none] tn7,tsl7⟩)
 (yk7:HC K cd_7 "NoCount.__init__")
 (yp7:HK K g7)
 (yq7:HK K cc7)
 (yn7:HF K cc7 "row" none)
 (yg8:HA K "NoNumber" cc8)
 (yo8:K.lookup cc8=some (excClassObj nm8 qn8 cc8 N8 bs8 (.ref CA::bmV) true sn8 sub8 ab8 col8 dd8 q08 q18 q28 q38 q58 "ValueError.__new__"))
 (ys8:HF K cc8 "__setattr__" (some (.builtin "object.__setattr__")))
 (ya8:HF K cc8 "__getattribute__" (some (.builtin "BaseException.__getattribute__")))
 (yt8:HF K cc8 "__getattr__" none)
 (yc8:HF K cc8 "__class__" (some (.builtin "object.__class__")))
 (yi8:HF K cc8 "__init__" (some (.ref g8)))
 (yl8:K.lookup g8=some ⟨.type "function",od_8,.func (W.fnOf "__init__" "NoNumber.__init__" (cP eC) (bP eC) (ak eC) (.ref T8) kV_8 dc_8 pm_8 an_8 cd_8 ct_8),sl_8⟩)
 (yd8:K.lookup T8=some ⟨.type "tuple",td8,.seq #[.none] tn8,tsl8⟩)
 (yk8:HC K cd_8 "NoNumber.__init__")
 (yp8:HK K g8)
 (yq8:HK K cc8)
 (yn8:HF K cc8 "row" none)
 (yg0:HA K "NoText" cc0)
 (yo0:K.lookup cc0=some (excClassObj nm0 qn0 cc0 N0 bs0 (.ref CA::bmV) true sn0 sub0 ab0 col0 dd0 q00 q10 q20 q30 q50 "ValueError.__new__"))
 (ys0:HF K cc0 "__setattr__" (some (.builtin "object.__setattr__")))
 (ya0:HF K cc0 "__getattribute__" (some (.builtin "BaseException.__getattribute__")))
 (yt0:HF K cc0 "__getattr__" none)
 (yc0:HF K cc0 "__class__" (some (.builtin "object.__class__")))
 (yg1:HA K "Twice" cc1)
 (yo1:K.lookup cc1=some (excClassObj nm1 qn1 cc1 N1 bs1 (.ref CA::bmV) true sn1 sub1 ab1 col1 dd1 q01 q11 q21 q31 q51 "ValueError.__new__"))
 (ys1:HF K cc1 "__setattr__" (some (.builtin "object.__setattr__")))
 (ya1:HF K cc1 "__getattribute__" (some (.builtin "BaseException.__getattribute__")))
 (yt1:HF K cc1 "__getattr__" none)
 (yc1:HF K cc1 "__class__" (some (.builtin "object.__class__")))
 (yg2:HA K "NoName" cc2)
 (yo2:K.lookup cc2=some (excClassObj nm2 qn2 cc2 N2 bs2 (.ref CA::bmV) true sn2 sub2 ab2 col2 dd2 q02 q12 q22 q32 q52 "ValueError.__new__"))
 (ys2:HF K cc2 "__setattr__" (some (.builtin "object.__setattr__")))
 (ya2:HF K cc2 "__getattribute__" (some (.builtin "BaseException.__getattribute__")))
 (yt2:HF K cc2 "__getattr__" none)
 (yc2:HF K cc2 "__class__" (some (.builtin "object.__class__")))
 (yg3:HA K "NoField" cc3)
 (yo3:K.lookup cc3=some (excClassObj nm3 qn3 cc3 N3 bs3 (.ref CA::bmV) true sn3 sub3 ab3 col3 dd3 q03 q13 q23 q33 q53 "ValueError.__new__"))
 (ys3:HF K cc3 "__setattr__" (some (.builtin "object.__setattr__")))
 (ya3:HF K cc3 "__getattribute__" (some (.builtin "BaseException.__getattribute__")))
 (yt3:HF K cc3 "__getattr__" none)
 (yc3:HF K cc3 "__class__" (some (.builtin "object.__class__")))
 (yg4:HA K "SmallField" cc4)
 (yo4:K.lookup cc4=some (excClassObj nm4 qn4 cc4 N4 bs4 (.ref CA::bmV) true sn4 sub4 ab4 col4 dd4 q04 q14 q24 q34 q54 "ValueError.__new__"))
 (ys4:HF K cc4 "__setattr__" (some (.builtin "object.__setattr__")))
 (ya4:HF K cc4 "__getattribute__" (some (.builtin "BaseException.__getattribute__")))
 (yt4:HF K cc4 "__getattr__" none)
 (yc4:HF K cc4 "__class__" (some (.builtin "object.__class__")))
 (yg5:HA K "NoRow" cc5)
 (yo5:K.lookup cc5=some (excClassObj nm5 qn5 cc5 N5 bs5 (.ref CA::bmV) true sn5 sub5 ab5 col5 dd5 q05 q15 q25 q35 q55 "ValueError.__new__"))
 (ys5:HF K cc5 "__setattr__" (some (.builtin "object.__setattr__")))
 (ya5:HF K cc5 "__getattribute__" (some (.builtin "BaseException.__getattribute__")))
 (yt5:HF K cc5 "__getattr__" none)
 (yc5:HF K cc5 "__class__" (some (.builtin "object.__class__")))
 (yg9:HA K "TooMany" cc9)
 (yo9:K.lookup cc9=some (excClassObj nm9 qn9 cc9 N9 bs9 (.ref CA::bmV) true sn9 sub9 ab9 col9 dd9 q09 q19 q29 q39 q59 "ValueError.__new__"))
 (ys9:HF K cc9 "__setattr__" (some (.builtin "object.__setattr__")))
 (ya9:HF K cc9 "__getattribute__" (some (.builtin "BaseException.__getattribute__")))
 (yt9:HF K cc9 "__getattr__" none)
 (yc9:HF K cc9 "__class__" (some (.builtin "object.__class__")))
 (ye0:cc0≠CA)
 (ye1:cc1≠CA)
 (ye2:cc2≠CA)
 (ye3:cc3≠CA)
 (ye4:cc4≠CA)
 (ye5:cc5≠CA)
 (ye6:cc6≠CA)
 (ye7:cc7≠CA)
 (ye8:cc8≠CA)
 (ye9:cc9≠CA)
 (ynd:[cc0,cc1,cc2,cc3,cc4,cc5,cc6,cc7,cc8,cc9].Nodup)
 (hR0:W.nsIn K mainGlobals "repr"=some none)
 (hV0:W.nsIn K mainGlobals "ValueError"=some none)
 (z0:W.nsIn K mainGlobals "len"=some none) (z1:W.nsIn K mainGlobals "range"=some none) (z2:W.nsIn K mainGlobals "isinstance"=some none) (z3:W.nsIn K mainGlobals "int"=some none) (z4:W.nsIn K mainGlobals "bool"=some none) (z5:W.nsIn K mainGlobals "list"=some none) (z6:W.nsIn K mainGlobals "tuple"=some none) (z7:W.nsIn K mainGlobals "max"=some none) (z8:W.nsIn K mainGlobals "min"=some none) (z9:W.nsIn K mainGlobals "reversed"=some none) (z10:W.nsIn K mainGlobals "enumerate"=some none) (z11:W.nsIn K mainGlobals "sum"=some none) (z12:W.nsIn K mainGlobals "all"=some none) (z13:W.nsIn K mainGlobals "zip"=some none) :
 ∃fd:FuncData,(∀(s:Shared) (v:Value),BindsTo s fd ⟨[v],[]⟩ [("_law_script",v)])/\∀base:Heap,K.In base->base.Ns mainGlobals mg->FnOk l.prog w K mg base CX0 21 fa fd ["_law_script"] (vW K):=by
 have e:=hfa.symm.trans (W.mg_of X G a49);cases e;have Ge:=aF (st:=wg) l0 c0 k0;have Gf:=W.mg_of X G a0;have v4:=aF (st:=im) l1 c1 k1;have EC:=W.mg_of X G a1;have m8:=aF (st:=fu) l2 c2 k2;have B7:=W.mg_of X G a2;have q8:=aF (st:=gC) l3 c3 k3;have En:=W.mg_of X G a3;have v5:=aF (st:=ie) l4 c4 k4;have ED:=W.mg_of X G a4;have rJ:=aF (st:=gF) l5 c5 k5;have Eo:=W.mg_of X G a5;have j4:=aF (st:=dB) l6 c6 k6;have A1:=W.mg_of X G a6;have v6:=aF (st:=ig) l7 c7 k7;have EF:=W.mg_of X G a7;have fb:=aF (st:=cx) l8 c8 k8;have kK:=W.mg_of X G a8;have j5:=aF (st:=dC) l9 c9 k9;have A2:=W.mg_of X G a9;have A5:=aF (st:=gS) l10 c10 k10;have A7:=W.mg_of X G a10;have v7:=aF (st:=fX) l11 c11 k11;have v8:=W.mg_of X G a11;have r6:=aF (st:=gG) l12 c12 k12;have Ep:=W.mg_of X G a12;have w4:=aF (st:=fV) l13 c13 k13;have w6:=W.mg_of X G a13;have j7:=aF (st:=dF) l14 c14 k14;have A3:=W.mg_of X G a14;have r8:=aF (st:=gE) l15 c15 k15;have Er:=W.mg_of X G a15;have iY:=aF (st:=cZ) l16 c16 k16;have w8:=W.mg_of X G a16;have m9:=aF (st:=fj) l17 c17 k17;have B8:=W.mg_of X G a17;have nV:=aF (st:=fk) l18 c18 k18;have B9:=W.mg_of X G a18;have r9:=aF (st:=gx) l19 c19 k19;have Es:=W.mg_of X G a19;have Co:=aF (st:=jU) l20 c20 k20;have EO:=W.mg_of X G a20;have C1:=aF (st:=jQ) l21 c21 k21;have EQ:=W.mg_of X G a21;have A9:=aF (st:=bw) l22 c22 k22;have EI:=W.mg_of X G a22;have C2:=aF (st:=iJ) l23 c23 k23;have C3:=W.mg_of X G a23;have oC:=aF (st:=dE) l24 c24 k24;have o4:=W.mg_of X G a24;have C4:=aF (st:=jS) l25 c25 k25;have ER:=W.mg_of X G a25;have o5:=aF (st:=ft) l26 c26 k26;have C5:=W.mg_of X G a26;have Bb:=aF (st:=jh) l27 c27 k27;have EJ:=W.mg_of X G a27;have C6:=aF (st:=jT) l28 c28 k28;have ES:=W.mg_of X G a28;have t8:=aF (st:=gB) l29 c29 k29;have Et:=W.mg_of X G a29;have C7:=aF (st:=iK) l30 c30 k30;have C8:=W.mg_of X G a30;have B0:=aF (st:=gU) l31 c31 k31;have B1:=W.mg_of X G a31;have Ey:=aF (st:=lX) l32 c32 k32;have Fy:=W.mg_of X G a32;have t9:=aF (st:=gz) l33 c33 k33;have Ev:=W.mg_of X G a33;have B2:=aF (st:=jd) l34 c34 k34;have EK:=W.mg_of X G a34;have o6:=aF (st:=fo) l35 c35 k35;have C9:=W.mg_of X G a35;have Ez:=aF (st:=lW) l36 c36 k36;have Fz:=W.mg_of X G a36;have D6:=aF (st:=jP) l37 c37 k37;have ET:=W.mg_of X G a37;have D7:=aF (st:=jW) l38 c38 k38;have EU:=W.mg_of X G a38;have D8:=aF (st:=jR) l39 c39 k39;have EV:=W.mg_of X G a39;have EA:=aF (st:=lV) l40 c40 k40;have FC:=W.mg_of X G a40;have B3:=aF (st:=je) l41 c41 k41;have EL:=W.mg_of X G a41;have EB:=aF (st:=lY) l42 c42 k42;have FD:=W.mg_of X G a42;have zD:=aF (st:=ik) l43 c43 k43;have EG:=W.mg_of X G a43;have u5:=aF (st:=gy) l44 c44 k44;have Ew:=W.mg_of X G a44;have B4:=aF (st:=jg) l45 c45 k45;have EM:=W.mg_of X G a45;have B5:=aF (st:=jf) l46 c46 k46;have EN:=W.mg_of X G a46;have o7:=aF (st:=fq) l47 c47 k47;have El:=W.mg_of X G a47;have Em:=aF (st:=jV) l48 c48 k48;have EW:=W.mg_of X G a48;have FE:=aF (st:=mY) l49 c49 k49;have B:Bl mg:=⟨W.mg_none_of X G z0,W.mg_none_of X G z1,W.mg_none_of X G z2,W.mg_none_of X G z3,W.mg_none_of X G z4,W.mg_none_of X G z5,W.mg_none_of X G z6,W.mg_none_of X G z7,W.mg_none_of X G z8,W.mg_none_of X G z9,W.mg_none_of X G z10,W.mg_none_of X G z11,W.mg_none_of X G z12,W.mg_none_of X G z13⟩
 refine⟨W.fnOf "law" "law" (cP mY) (bP mY) (ak mY) .none kV49 dc49 pm49 an49 cd49 ct49,fun s v=>.of_eq rfl,fun base _ _=>?_⟩;have xfc:=clsfc xfc0;have hV:=W.mg_none_of X G hV0;have Gh:=mw (st:=eE) xlk xcd xkp;have K_A:AskC l.prog w K mg base CA gA _:=⟨W.mg_of X G gAs,⟨xga,xrd,xfc,xkp⟩,sj (P:=l.prog) (w:=w) (base:=base) Gh hV,fun s us KX hl=>match us,hl with | [_,_],_=>W.binds_K KX rfl xtp rfl rfl rfl⟩
 have L_6:ClsX K cc6 CA:=⟨⟨_,_,_,_,_,_,_,_,_,_,_,_,_,_,yo6⟩,ys6,ya6,yt6,yc6⟩
 have J_6:MkX K cc6 g6:=L_6.mk' yi6 ⟨_,yl6,rfl⟩ yq6;have Gi:=mw (st:=gV) yl6 yk6 yp6;have N:NoX l.prog w K mg base "NoTurn" cc6 CA g6 _:=⟨J_6,ya (P:=l.prog) (w:=w) (base:=base) Gi K_A J_6 L_6 yn6,vy fun s u KX=>W.binds_K KX rfl yd6 rfl rfl rfl,L_6,W.mg_of X G yg6⟩
 have L_7:ClsX K cc7 CA:=⟨⟨_,_,_,_,_,_,_,_,_,_,_,_,_,_,yo7⟩,ys7,ya7,yt7,yc7⟩
 have J_7:MkX K cc7 g7:=L_7.mk' yi7 ⟨_,yl7,rfl⟩ yq7;have Gj:=mw (st:=fK) yl7 yk7 yp7;have NC:NoX l.prog w K mg base "NoCount" cc7 CA g7 _:=⟨J_7,uJ (P:=l.prog) (w:=w) (base:=base) Gj K_A J_7 L_7 yn7,vy fun s u KX=>W.binds_K KX rfl yd7 rfl rfl rfl,L_7,W.mg_of X G yg7⟩
 have L_8:ClsX K cc8 CA:=⟨⟨_,_,_,_,_,_,_,_,_,_,_,_,_,_,yo8⟩,ys8,ya8,yt8,yc8⟩
 have J_8:MkX K cc8 g8:=L_8.mk' yi8 ⟨_,yl8,rfl⟩ yq8;have Gk:=mw (st:=eC) yl8 yk8 yp8;have NN:NoX l.prog w K mg base "NoNumber" cc8 CA g8 _:=⟨J_8,si (P:=l.prog) (w:=w) (base:=base) Gk K_A J_8 L_8 yn8,vy fun s u KX=>W.binds_K KX rfl yd8 rfl rfl rfl,L_8,W.mg_of X G yg8⟩
 have hA:qT K CA:=⟨_,_,_,_,_,_,_,_,_,_,_,_,_,_,iAs0⟩
 have gAq:=W.mg_of X G gAs;have hR:=W.mg_none_of X G hR0;have L_0:ClsX K cc0 CA:=⟨⟨_,_,_,_,_,_,_,_,_,_,_,_,_,_,yo0⟩,ys0,ya0,yt0,yc0⟩
 have L_1:ClsX K cc1 CA:=⟨⟨_,_,_,_,_,_,_,_,_,_,_,_,_,_,yo1⟩,ys1,ya1,yt1,yc1⟩
 have L_2:ClsX K cc2 CA:=⟨⟨_,_,_,_,_,_,_,_,_,_,_,_,_,_,yo2⟩,ys2,ya2,yt2,yc2⟩
 have L_3:ClsX K cc3 CA:=⟨⟨_,_,_,_,_,_,_,_,_,_,_,_,_,_,yo3⟩,ys3,ya3,yt3,yc3⟩
 have L_4:ClsX K cc4 CA:=⟨⟨_,_,_,_,_,_,_,_,_,_,_,_,_,_,yo4⟩,ys4,ya4,yt4,yc4⟩
 have L_5:ClsX K cc5 CA:=⟨⟨_,_,_,_,_,_,_,_,_,_,_,_,_,_,yo5⟩,ys5,ya5,yt5,yc5⟩
 have L_9:ClsX K cc9 CA:=⟨⟨_,_,_,_,_,_,_,_,_,_,_,_,_,_,yo9⟩,ys9,ya9,yt9,yc9⟩
 have TX:Exs K mg CA cc0 cc1 cc2 cc3 cc4 cc5 cc6 cc7 cc8 cc9:=⟨W.mg_of X G yg0,L_0,ye0,W.mg_of X G yg1,L_1,ye1,W.mg_of X G yg2,L_2,ye2,W.mg_of X G yg3,L_3,ye3,W.mg_of X G yg4,L_4,ye4,W.mg_of X G yg5,L_5,ye5,W.mg_of X G yg6,L_6,ye6,W.mg_of X G yg7,L_7,ye7,W.mg_of X G yg8,L_8,ye8,W.mg_of X G yg9,L_9,ye9,gAq,hA,ynd⟩
 have TG:GTxt K mg CG:=⟨⟨gmpg,gmhdi,gmpov,gmsat⟩,gmn_switches,gmn_trees,gmn_field,gmn_degrees,W.mg_of X G gmgg⟩
 have T:DTxt K mg C:=⟨⟨dbpg,dbhdi,dbpov,dbsat⟩,dbn_game,dbn_awaited,dbn_claims,dbn_s,dbn_heard,dbn_tossed,dbn_held,dbn_places,W.mg_of X G dbgg⟩
 have EX:=aF (st:=lZ) gmlI gmcI gmkI;have FF:=EX.binds (ps:=["self","switches","trees","field"]) fun _ _ _ _ _ _ us hl=>by obtain⟨u0,u1,u2,u3,rfl⟩:=qQ hl;rfl
 have EY:=aF (st:=qq) gmlM gmcM gmkM;have EZ:=EY.binds (ps:=["self","numbers","s"]) fun _ _ _ _ _ _ us hl=>by obtain⟨u0,u1,u2,rfl⟩:=nX hl;rfl
 have E1:Meth K CG "mix" gmgM:=⟨gmaM,gmiM,gmkM⟩
 have E3:=aF (st:=jX) gmlW gmcW gmkW;have FG:=E3.binds (ps:=["self","point","s"]) fun _ _ _ _ _ _ us hl=>by obtain⟨u0,u1,u2,rfl⟩:=nX hl;rfl
 have FH:Meth K CG "worth_at" gmgW:=⟨gmaW,gmiW,gmkW⟩
 have E4:=aF (st:=me) dblI dbcI dbkI;have FI:=E4.binds (ps:=["self","game"]) fun _ _ _ _ _ _ us hl=>by obtain⟨u0,u1,rfl⟩:=fw hl;rfl
 have E5:=aF (st:=jY) dblW dbcW dbkW;have E6:=E5.binds (ps:=["self"]) fun _ _ _ _ _ _ us hl=>by obtain⟨u0,rfl⟩:=gw hl;rfl
 have E7:Meth K C "waits" dbgW:=⟨dbaW,dbiW,dbkW⟩
 have E8:=aF (st:=qt) dblU dbcU dbkU;have FJ:=E8.binds (ps:=["self"]) fun _ _ _ _ _ _ us hl=>by obtain⟨u0,rfl⟩:=gw hl;rfl
 have FK:Meth K C "due" dbgU:=⟨dbaU,dbiU,dbkU⟩
 have E9:=aF (st:=mh) dblH dbcH dbkH;have Fa:=E9.binds (ps:=["self","values"]) fun _ _ _ _ _ _ us hl=>by obtain⟨u0,u1,rfl⟩:=fw hl;rfl
 have Fc:Meth K C "hear" dbgH:=⟨dbaH,dbiH,dbkH⟩
 have Fd:=aF (st:=ma) dblT dbcT dbkT;have Fe:=Fd.binds (ps:=["self","r"]) fun _ _ _ _ _ _ us hl=>by obtain⟨u0,u1,rfl⟩:=fw hl;rfl
 have Ff:Meth K C "toss" dbgT:=⟨dbaT,dbiT,dbkT⟩
 have Fg:=aF (st:=jj) dblC dbcC dbkC;have FL:=Fg.binds (ps:=["self","values"]) fun _ _ _ _ _ _ us hl=>by obtain⟨u0,u1,rfl⟩:=fw hl;rfl
 have FM:Meth K C "hear_claims" dbgC:=⟨dbaC,dbiC,dbkC⟩
 have Fh:=aF (st:=ka) dblB dbcB dbkB;have Fi:=Fh.binds (ps:=["self","s"]) fun _ _ _ _ _ _ us hl=>by obtain⟨u0,u1,rfl⟩:=fw hl;rfl
 have Fj:Meth K C "begin_rounds" dbgB:=⟨dbaB,dbiB,dbkB⟩
 have Fk:=aF (st:=qr) dblR dbcR dbkR;have FN:=Fk.binds (ps:=["self","values"]) fun _ _ _ _ _ _ us hl=>by obtain⟨u0,u1,rfl⟩:=fw hl;rfl
 have FO:Meth K C "hear_row" dbgR:=⟨dbaR,dbiR,dbkR⟩
 have Fl:=aF (st:=we) dblG dbcG dbkG;have Fm:=Fl.binds (ps:=["self"]) fun _ _ _ _ _ _ us hl=>by obtain⟨u0,rfl⟩:=gw hl;rfl
 have Fp:Meth K C "go_on" dbgG:=⟨dbaG,dbiG,dbkG⟩
 have Fq:=aF (st:=jZ) dblE dbcE dbkE;have FP:=Fq.binds (ps:=["self"]) fun _ _ _ _ _ _ us hl=>by obtain⟨u0,rfl⟩:=gw hl;rfl
 have FR:Meth K C "look_at_trees" dbgE:=⟨dbaE,dbiE,dbkE⟩
 have Fr:=aF (st:=ji) dblL dbcL dbkL;have FS:=Fr.binds (ps:=["self"]) fun _ _ _ _ _ _ us hl=>by obtain⟨u0,rfl⟩:=gw hl;rfl
 have FT:Meth K C "looked" dbgL:=⟨dbaL,dbiL,dbkL⟩
 have kc:=Cal.of (P:=l.prog) (w:=w) (base:=base) Co (xR Co B.len) EO (fun _ _ _ _ _ _ us hl=>by obtain⟨u0,u1,rfl⟩:=fw hl;rfl);have aE:=Cal.of (P:=l.prog) (w:=w) (base:=base) C1 (xN C1 ) EQ (fun _ _ _ _ _ _ us hl=>by obtain⟨u0,u1,rfl⟩:=fw hl;rfl);have j8:=Cal.of (P:=l.prog) (w:=w) (base:=base) v4 (rZ v4 ) EC (fun _ _ _ _ _ _ us hl=>by obtain⟨u0,rfl⟩:=gw hl;rfl);have iF:=Cal.of (P:=l.prog) (w:=w) (base:=base) m8 (oR m8 ) B7 (fun _ _ _ _ _ _ us hl=>by obtain⟨u0,u1,rfl⟩:=fw hl;rfl);have dO:=Cal.of (P:=l.prog) (w:=w) (base:=base) q8 (oQ q8 B) En (fun _ _ _ _ _ _ us hl=>by obtain⟨u0,u1,rfl⟩:=fw hl;rfl);have b9:=Cal.of (P:=l.prog) (w:=w) (base:=base) v6 (rX v6 ) EF (fun _ _ _ _ _ _ us hl=>by obtain⟨u0,u1,rfl⟩:=fw hl;rfl);have cB:=Cal.of (P:=l.prog) (w:=w) (base:=base) fb (iz fb B b9 iF) kK (fun _ _ _ _ _ _ us hl=>by obtain⟨u0,u1,rfl⟩:=fw hl;rfl);have fi:=Cal.of (P:=l.prog) (w:=w) (base:=base) j4 (lM j4 B b9 cB) A1 (fun _ _ _ _ _ _ us hl=>by obtain⟨u0,u1,u2,rfl⟩:=nX hl;rfl);have cK:=Cal.of (P:=l.prog) (w:=w) (base:=base) v5 (rW v5 B fi) ED (fun _ _ _ _ _ _ us hl=>by obtain⟨u0,u1,u2,rfl⟩:=nX hl;rfl);have jN:=Cal.of (P:=l.prog) (w:=w) (base:=base) rJ (qM rJ cK) Eo (fun _ _ _ _ _ _ us hl=>by obtain⟨u0,u1,rfl⟩:=fw hl;rfl);have aM:=Cal.of (P:=l.prog) (w:=w) (base:=base) j5 (lN j5 ) A2 (fun _ _ _ _ _ _ us hl=>by obtain⟨u0,rfl⟩:=gw hl;rfl);have gr:=Cal.of (P:=l.prog) (w:=w) (base:=base) A5 (nM A5 B A7 aM 10) A7 (fun _ _ _ _ _ _ us hl=>by obtain⟨u0,rfl⟩:=gw hl;rfl);have b8:=Cal.of (P:=l.prog) (w:=w) (base:=base) v7 (lx v7 v8 aM 10) v8 (fun _ _ _ _ _ _ us hl=>by obtain⟨u0,rfl⟩:=gw hl;rfl);have b7:=Cal.of (P:=l.prog) (w:=w) (base:=base) j7 (lO j7 ) A3 (fun _ _ _ _ _ _ us hl=>by obtain⟨u0,u1,u2,u3,rfl⟩:=qQ hl;rfl);have dU:=Cal.of (P:=l.prog) (w:=w) (base:=base) w4 (lw w4 w6 b7 10) w6 (fun _ _ _ _ _ _ us hl=>by obtain⟨u0,u1,u2,u3,rfl⟩:=qQ hl;rfl);have i9:=Cal.of (P:=l.prog) (w:=w) (base:=base) r8 (qL r8 B.max b8) Er (fun _ _ _ _ _ _ us hl=>by obtain⟨u0,u1,rfl⟩:=fw hl;rfl);have e6:=Cal.of (P:=l.prog) (w:=w) (base:=base) iY (kP iY B.enumerate) w8 (fun _ _ _ _ _ _ us hl=>by obtain⟨u0,rfl⟩:=gw hl;rfl);have iB:=Cal.of (P:=l.prog) (w:=w) (base:=base) m9 (oK m9 b8) B8 (fun _ _ _ _ _ _ us hl=>by obtain⟨u0,u1,rfl⟩:=fw hl;rfl);have iE:=Cal.of (P:=l.prog) (w:=w) (base:=base) nV (oM nV ⟨te,W.mg_of X G ge⟩ j8) B9 (fun _ _ _ _ _ _ us hl=>by obtain⟨u0,rfl⟩:=gw hl;rfl);have jb:=Cal.of (P:=l.prog) (w:=w) (base:=base) r9 (qH r9 B.max) Es (fun _ _ _ _ _ _ us hl=>by obtain⟨u0,u1,rfl⟩:=fw hl;rfl);have lp:=Cal.of (P:=l.prog) (w:=w) (base:=base) A9 (uE A9 B.range aE) EI (fun _ _ _ _ _ _ us hl=>by obtain⟨u0,u1,rfl⟩:=fw hl;rfl);have eM:=Cal.of (P:=l.prog) (w:=w) (base:=base) C2 (pC C2 B.len C3 aE 10) C3 (fun _ _ _ _ _ _ us hl=>by obtain⟨u0,u1,u2,u3,rfl⟩:=qQ hl;rfl);have bv:=Cal.of (P:=l.prog) (w:=w) (base:=base) oC (jA oC o4 10) o4 (fun _ _ _ _ _ _ us hl=>by obtain⟨u0,rfl⟩:=gw hl;rfl);have u6:=Cal.of (P:=l.prog) (w:=w) (base:=base) C4 (xP C4 B.len B.max bv) ER (fun _ _ _ _ _ _ us hl=>by obtain⟨u0,u1,rfl⟩:=fw hl;rfl);have ic:=Cal.of (P:=l.prog) (w:=w) (base:=base) o5 (oP o5 B.range) C5 (fun _ _ _ _ _ _ us hl=>by obtain⟨u0,rfl⟩:=gw hl;rfl);have lH:=Cal.of (P:=l.prog) (w:=w) (base:=base) Bb (uG Bb aE ic) EJ (fun _ _ _ _ _ _ us hl=>by obtain⟨u0,u1,rfl⟩:=fw hl;rfl);have vD:=Cal.of (P:=l.prog) (w:=w) (base:=base) C6 (xQ C6 B.range B.tuple aE lp eM u6 lH) ES (fun _ _ _ _ _ _ us hl=>by obtain⟨u0,u1,u2,rfl⟩:=nX hl;rfl);have jM:=Cal.of (P:=l.prog) (w:=w) (base:=base) r6 (qN r6 B TG gr) Ep (fun _ _ _ _ _ _ us hl=>by obtain⟨u0,rfl⟩:=gw hl;rfl);have FU:=Aa (P:=l.prog) (w:=w) (base:=base) EX TG B.tuple B.len i9 e6 iB iE jb;have Fs:=BP (P:=l.prog) (w:=w) (base:=base) EY TG B.reversed;have FV:=xU (P:=l.prog) (w:=w) (base:=base) E3 TG E1 Fs EZ dU;have FW:=xW (P:=l.prog) (w:=w) (base:=base) Fq B T TG FH FV FG jM;have Ft:=DC (P:=l.prog) (w:=w) (base:=base) Fl B T TG FR FW FP;have Fu:=xZ (P:=l.prog) (w:=w) (base:=base) Fh T TG E1 Fs EZ Fp Ft Fm;have FX:=uI (P:=l.prog) (w:=w) (base:=base) Fg B T TG Fj Fu Fi;have FY:=BQ (P:=l.prog) (w:=w) (base:=base) Fk B T TG jN;have Fv:=xY (P:=l.prog) (w:=w) (base:=base) E9 B T TG N NC NN dO FM FX FL FO FY FN;have Fw:=xX (P:=l.prog) (w:=w) (base:=base) Fd B T TG N NN dO cK Fj Fu Fi Fp Ft Fm;have FZ:=Ab (P:=l.prog) (w:=w) (base:=base) E4 B T TG;have Fx:=xV (P:=l.prog) (w:=w) (base:=base) E5 T;have Gc:=BR (P:=l.prog) (w:=w) (base:=base) E8 T;have dR:=Cal.of (P:=l.prog) (w:=w) (base:=base) t8 (qK t8 B bv) Et (fun _ _ _ _ _ _ us hl=>by obtain⟨u0,u1,rfl⟩:=fw hl;rfl);have bq:=Cal.of (P:=l.prog) (w:=w) (base:=base) D7 (xT D7 aE) EU (fun _ _ _ _ _ _ us hl=>by obtain⟨u0,u1,rfl⟩:=fw hl;rfl);have Gd:=uH (P:=l.prog) (w:=w) (base:=base) Fr T;have cp:=Cal.of (P:=l.prog) (w:=w) (base:=base) B0 (nN B0 B.int B1 10) B1 (fun _ _ _ _ _ _ us hl=>by obtain⟨u0,u1,u2,u3,rfl⟩:=qQ hl;rfl);have d8:=Cal.of (P:=l.prog) (w:=w) (base:=base) Ey (zY Ey ) Fy (fun _ _ _ _ _ _ us hl=>by obtain⟨u0,u1,u2,rfl⟩:=nX hl;rfl);have dw:=Cal.of (P:=l.prog) (w:=w) (base:=base) t9 (qJ t9 ) Ev (fun _ _ _ _ _ _ us hl=>by obtain⟨u0,u1,rfl⟩:=fw hl;rfl);have m3:=Cal.of (P:=l.prog) (w:=w) (base:=base) B2 (uB B2 B dw) EK (fun _ _ _ _ _ _ us hl=>by obtain⟨u0,u1,u2,rfl⟩:=nX hl;rfl);have iH:=Cal.of (P:=l.prog) (w:=w) (base:=base) o6 (oN o6 B.range) C9 (fun _ _ _ _ _ _ us hl=>by obtain⟨u0,rfl⟩:=gw hl;rfl);have ib:=Cal.of (P:=l.prog) (w:=w) (base:=base) Ez (zX Ez B iH cp d8) Fz (fun _ _ _ _ _ _ us hl=>by obtain⟨u0,u1,u2,u3,u4,rfl⟩:=sD hl;rfl);have u8:=Cal.of (P:=l.prog) (w:=w) (base:=base) D6 (xM D6 B dR ib) ET (fun _ _ _ _ _ _ us hl=>by obtain⟨u0,u1,u2,u3,u4,rfl⟩:=sD hl;rfl);have iI:=Cal.of (P:=l.prog) (w:=w) (base:=base) C7 (pE C7 B C8 10) C8 (fun _ _ _ _ _ _ us hl=>by obtain⟨u0,rfl⟩:=gw hl;rfl);have u9:=Cal.of (P:=l.prog) (w:=w) (base:=base) D8 (xO D8 B aE bq dw) EV (fun _ _ _ _ _ _ us hl=>by obtain⟨u0,u1,u2,u3,u4,rfl⟩:=sD hl;rfl);have A0:=Cal.of (P:=l.prog) (w:=w) (base:=base) EA (zW EA B hR hV T TX yn6 yn7 yn8 Fc Fv Fa Ff Fw Fe) FC (fun _ _ _ _ _ _ us hl=>by obtain⟨u0,u1,u2,rfl⟩:=nX hl;rfl);have b6:=Cal.of (P:=l.prog) (w:=w) (base:=base) B3 (uC B3 T FK Gc FJ E7 Fx E6 FT Gd FS) EL (fun _ _ _ _ _ _ us hl=>by obtain⟨u0,rfl⟩:=gw hl;rfl);have dS:=Cal.of (P:=l.prog) (w:=w) (base:=base) EB (zZ EB aE) FD (fun _ _ _ _ _ _ us hl=>by obtain⟨u0,u1,rfl⟩:=fw hl;rfl);have gR:=Cal.of (P:=l.prog) (w:=w) (base:=base) zD (rY zD B aE bq dS) EG (fun _ _ _ _ _ _ us hl=>by obtain⟨u0,u1,u2,rfl⟩:=nX hl;rfl);have fF:=Cal.of (P:=l.prog) (w:=w) (base:=base) u5 (qI u5 B aE bq dS gR b6 A0) Ew (fun _ _ _ _ _ _ us hl=>by obtain⟨u0,u1,u2,u3,u4,rfl⟩:=sD hl;rfl);have m5:=Cal.of (P:=l.prog) (w:=w) (base:=base) B4 (uF B4 B T Fc Fv Fa Ff Fw Fe aE) EM (fun _ _ _ _ _ _ us hl=>by obtain⟨u0,u1,u2,u3,u4,rfl⟩:=sD hl;rfl);have m7:=Cal.of (P:=l.prog) (w:=w) (base:=base) B5 (uD B5 B d8 m3) EN (fun _ _ _ _ _ _ us hl=>by obtain⟨u0,u1,u2,u3,u4,rfl⟩:=sD hl;rfl);have iR:=Cal.of (P:=l.prog) (w:=w) (base:=base) o7 (oO o7 B ib bq u8 u9) El (fun _ _ _ _ _ _ us hl=>by obtain⟨u0,u1,u2,u3,u4,rfl⟩:=sD hl;rfl);have kJ:=Cal.of (P:=l.prog) (w:=w) (base:=base) Em (xS Em (CG:=CG) B cp d8 iI b6) EW (fun _ _ _ _ _ _ us hl=>by obtain⟨u0,u1,u2,rfl⟩:=nX hl;rfl);exact DB FE B T TG ⟨gmmki,gmaI,gmiI,gmkcl⟩ FU FF ⟨dbmki,dbaI,dbiI,dbkcl⟩ FZ FI E7 Fx E6 kc aE vD dR bq b6 iR fF m5 m7 kJ
theorem walk{l:PySem.W.OpenLaw}{q:Program}{loose:List Str}{XP:(Str->Option Value)->Heap->Prop}{YP:World->Heap->Prop}{d:DefRec}{K:Params->PySem.W.Frag}(hn:l.most=some 63)(hdf:d.params.defaults=[])
 (hY:∀(w:World)(h:Heap),YP w h->(K w.params).In h)
 (F:∀(w:World)(mg:Str->Option Value)(fa:Addr)(h:Heap),(K w.params).In h->h.Ns mainGlobals mg->mg d.name=some (.ref fa) ->
  ∃fd:FuncData,(∀(s:Shared) (u:Value),BindsTo s fd ⟨[u],[]⟩ [("_law_script",u)])/\∀base:Heap,(K w.params).In base->base.Ns mainGlobals mg->FnOk l.prog w (K w.params) mg base CX0 21 fa fd ["_law_script"] (vW (K w.params))) :
 PySem.W.WalkO q loose XP YP l.row.toRowW d [] (fun f vs=>PySem.call f vs):=
 L2.walk_of (n:=63) (k:=21) (x:="_law_script") (CX:=fun _=>CX0) (sp:=fun w=>vW (K w.params)) hn (by decide) hdf ⟨rfl,rfl,by decide,by decide⟩ hY F (fun _ _ a ns hl _ hS=>⟨a,ns,rfl,hS,hl,fun _=>rfl⟩) fun _ _ _ _ _ z=>z
end Mine
namespace PySem.W.Fast
def tw7823960366566743289:=()
def tw11913625087686329359:=()
def tw7046271931121074300:=()
def tw2906328481203143910:=()
def tw17134186827197213386:=()
def tw15801343619382540095:=()
def tw11523899725054922715:=()
def tw1874442251167508129:=()
def tw8033839170879550439:=()
def tw11620816504690714368:=()
def tw4871565669396598451:=()
def tw1716238535723887206:=()
def tw14267733711372102204:=()
def tw2831595273910433381:=()
def tw4279193661392599611:=()
def tw3347113624840443296:=()
def tw2512055176091974396:=()
def tw17106449828752352694:=()
def tw17039902443812101203:=()
def tw11768883697510654101:=()
def tw12356314825397392070:=()
def tw8562013644394194461:=()
def tw8132319711055272167:=()
def tw9585683629741792471:=()
def tw13976850167142795502:=()
def tw16921090213698582751:=()
def tw14578546295625021738:=()
def tw15462470349386465763:=()
def tw8746785471238353608:=()
def tw979551837148369430:=()
def tw10876142751350734556:=()
def tw13388028964612777073:=()
def tw4584382585873389898:=()
def tw14002461983333293321:=()
def tw16787889203348885412:=()
def tw12404513668850599487:=()
def tw11783937729992292659:=()
def tw13185313869430447234:=()
def tw9400126509175523586:=()
def tw5378987920600139179:=()
def tw11143957843380357191:=()
def tw17553754095945190797:=()
def tw16187045647308577392:=()
def tw5559570013771724329:=()
def tw8961598211376798613:=()
def tw11301586173985843875:=()
def tw15211204557245559504:=()
def tw11643675446149883739:=()
def tw10145898029066831103:=()
def tw5109739343649421663:=()
def tw3639478403650883462:=()
def tw2401780773002510724:=()
def tw3407127362036810645:=()
def tw17350920528177778490:=()
def tw10434574890064873233:=()
def tw6065143149258598703:=()
def tw6220294338651108562:=()
def tw6605565716861797514:=()
def tw2684421155734904533:=()
def tw13536969252848550:=()
def tw11764960656847563389:=()
def tw6297317289084817286:=()
def tw10477505388446984274:=()
def tw14032739871575577721:=()
def tw6582782712732511946:=()
def tw17877848832159455371:=()
def tw10342270395432614398:=()
def tw13594981579916271042:=()
def tw10195608072946534004:=()
def tw9649015985140388602:=()
def tw15668132048284222498:=()
def tw1807322239972347564:=()
def tw17365405852155762061:=()
def tw12874709501463966496:=()
def tw14383702898945307253:=()
def tw9683195849702723473:=()
def tw4708494612580970094:=()
def tw4999841358529682176:=()
def tw15524882898961953473:=()
def tw1441911591681437162:=()
def tw5254539616538090584:=()
def tw4267227720556062758:=()
def tw11464261760611735729:=()
def tw921095665435095286:=()
def tw17200781183899374255:=()
def tw5857853944359358484:=()
def tw14738846774412435287:=()
def tw6971709582984664239:=()
def tw8439088498510156972:=()
def tw13397091054400322459:=()
def tw12050483591675236036:=()
def tw3424556541071973871:=()
def tw8236226907119588716:=()
def tw13888437258913182386:=()
def tw15498787760875887983:=()
def tw10973353032976615804:=()
def tw1901695979762243949:=()
def tw6187073295789694879:=()
def tw17785977135009397385:=()
def tw6038574087270206092:=()
def tw10220392477759314596:=()
def tw16017613177249725102:=()
def tw6069272116772133525:=()
def tw9256148995133430509:=()
def tw12954432309648730683:=()
def tw1922380667541381709:=()
def tw5507471780898694611:=()
def tw11318604107982428004:=()
def tw5148561602023695327:=()
def tw18416964505570508814:=()
def tw16656592589969786735:=()
def tw1196835152464873103:=()
def tw16057128438911692521:=()
def tw17343050746701339510:=()
def tw8054771312071772559:=()
def tw14036033338754512004:=()
def tw14865776998955641501:=()
def tw278236794990259637:=()
def tw14620039917150509906:=()
def tw8597122600719352608:=()
def tw11814332726781972257:=()
def tw12498861270547456707:=()
def tw18049694008987350499:=()
def tw9744068073640981796:=()
def tw14220628386276109527:=()
def tw8085879224158368273:=()
def tw12782948422950172564:=()
def tw15579369490283704547:=()
def tw6440836218636415654:=()
def tw5923424091702402819:=()
def tw356649895410046846:=()
def tw9028617692919480626:=()
def tw3816056579704570724:=()
def tw1602871136744620939:=()
def tw3148826559260871827:=()
def tw1515700518060881642:=()
def tw12963085738545619983:=()
def tw3982407728581292412:=()
def tw8932902783221651241:=()
def tw13371711366433410057:=()
def tw15220073819384764893:=()
def tw5167581983930223529:=()
def tw3903267328575854105:=()
def tw1143847043888753102:=()
def tw5941719880682654171:=()
def tw3961297097962194836:=()
def tw13281235155740778453:=()
def tw107085996116451035:=()
def tw17520286968759856531:=()
def tw17271406196635967572:=()
def tw13196135499287689576:=()
def tw3424199348526113822:=()
def tw1243239534935082068:=()
def tw9010136331604892656:=()
def tw15089204848270394353:=()
def tw14554671949978890472:=()
def tw14264367223934374684:=()
def tw13815346198803225301:=()
def tw7329314728113783617:=()
def tw5568953105517890827:=()
def tw6963869123586479469:=()
def tw16304450849273016267:=()
def tw14954014771014980178:=()
def tw9592026818111150074:=()
def tw3219299736725135232:=()
def tw4176530984061381015:=()
def tw7707034731362411002:=()
def tw5464569720049661132:=()
def tw861809888062673353:=()
def tw12155890777187481648:=()
def tw16883395063233756:=()
def tw6241916955019773281:=()
def tw4627562170110098783:=()
def tw3168715710752747362:=()
def tw17454369464779069964:=()
def tw916344565396027149:=()
def tw456169404860778866:=()
def tw14372130883245418997:=()
def tw4048906707597016552:=()
def tw15680130804194000192:=()
def tw1955886887478101845:=()
def tw858900247244842773:=()
def tw15257252057097811489:=()
def tw9219331748848519886:=()
def tw13283477845445354277:=()
def tw17626180099158531715:=()
def tw16136836579940712515:=()
def tw1591363019069512794:=()
def tw4938692357974193119:=()
def tw5354497270379644174:=()
def tw16156899680748957917:=()
def tw2331072197378777209:=()
def tw9427031005595093080:=()
def tw11403314422377500556:=()
def tw18404928331841698895:=()
def tw15910761275898505522:=()
def tw16483753085303974877:=()
def tw4651511022563716444:=()
def tw5838563434929995926:=()
def tw9134031822564665739:=()
def tw16309083262487959316:=()
def tw5168828054196248508:=()
def tw5150732558239760190:=()
def tw5227591865040703975:=()
def tw6988029790044167483:=()
def tw3045830324804764760:=()
def tw11843531944985794032:=()
def tw7956792405757705788:=()
def tw12091231116981715634:=()
def tw5522038214107589857:=()
def tw17702096662308822391:=()
def tw11839241905938737636:=()
def tw13961951263006634548:=()
def tw13224801237534738863:=()
def tw12230349125597948506:=()
def tw6740693964600086897:=()
def tw2805219661332218970:=()
def tw13129655936727878309:=()
def tw13124517900445947455:=()
def tw12544499507490207341:=()
def tw3667953068751995456:=()
def tw4881846427646493143:=()
def tw1485442802091345924:=()
def tw12878667899778227540:=()
def tw3493998730492810681:=()
def tw15559394528695838802:=()
def tw7951714678382174914:=()
def tw6624963346287552857:=()
def tw3268416057914158683:=()
def tw18428680829026901983:=()
def tw18201761387459996888:=()
def tw17876074763433548050:=()
def tw17235318066239066149:=()
def tw12344892715743156473:=()
def tw9742916156662792361:=()
def tw18123045488676762880:=()
def tw2166087893142488449:=()
def tw5805633887663629224:=()
def tw5366770811551035382:=()
def tw1075254095979759213:=()
def tw11425065096490965011:=()
def tw9641957503246479246:=()
def tw6136095497600430317:=()
def tw4952850906623758786:=()
def tw16279854433043559737:=()
def tw8941252617134339480:=()
def tw4428505004832765305:=()
def tw10999160080255428392:=()
def tw16572750061988846215:=()
def tw880151652410201509:=()
def tw6362755864362322311:=()
def tw1016455620223737882:=()
def tw907975468979988220:=()
def tw8346521415440423822:=()
def tw276562981372790582:=()
def tw9075852383171337450:=()
def tw6846496809608964439:=()
def tw58198559298405427:=()
def tw5280363885025663802:=()
def tw4274520616039793766:=()
def tw16098830256095110169:=()
def tw15102893317184194883:=()
def tw11095150045900536759:=()
def tw14806261242077541067:=()
def tw10996263411338013332:=()
def tw4708470169547638700:=()
def tw8839286634917055661:=()
def tw16330703326871117205:=()
def tw6465591191554592174:=()
def tw17000440517080639906:=()
def tw14861998443312361184:=()
def tw1006470171608650237:=()
def tw2146588250177721746:=()
def tw1279558560344958943:=()
def tw5624319671769504890:=()
def tw14596831285867856621:=()
def tw13988522012201391928:=()
def tw368090408638700410:=()
def tw9384565185524205361:=()
def tw18242160765362944363:=()
def tw12261560050514152317:=()
def tw1877061805536832185:=()
def tw974036851004791458:=()
def tw13845338532162911210:=()
def tw280621604971371285:=()
def tw1298886718510006231:=()
def tw6524551393528086720:=()
def tw1538381862820049516:=()
def tw8755131921319407001:=()
def tw8557109419789770448:=()
def tw10542979645524626424:=()
def tw5495219181988747825:=()
def tw12949640737267532893:=()
def tw16313050759723858952:=()
def tw110961871026400210:=()
def tw17116499126373765448:=()
def tw5032611999040821457:=()
def tw2077973886222803155:=()
def tw1130068566162363100:=()
def tw16745867570500631570:=()
def tw8267287980763896607:=()
def tw10345003485663748623:=()
def tw14465791553099316461:=()
def tw6231687484532614799:=()
def tw4616627951598398323:=()
def tw1134426985938967800:=()
def tw8022109472043579095:=()
def tw188579452859389370:=()
def tw18269094203541524689:=()
def tw9779544464165892922:=()
def tw705590028337934426:=()
def tw5860455836675229153:=()
def tw5443973835591079422:=()
def tw14682762582911888326:=()
def tw10051206591723539702:=()
def tw16404407307729050963:=()
def tw7797839260286121617:=()
def tw7172433012548949779:=()
def tw6236652934380109288:=()
def tw10013679293438932592:=()
def tw8676987816874559728:=()
def tw371020341537218616:=()
def tw17202576763008011491:=()
def tw7931672699111879548:=()
def tw2837188699151354904:=()
def tw2815643721284012058:=()
def tw14389271419687684905:=()
def tw4166832551692766054:=()
def tw13102819109309196110:=()
def tw4100059855095441627:=()
def tw10166632388596154663:=()
def tw5640728217423492200:=()
def tw3021034229344753287:=()
def tw13122109597602661461:=()
def tw10294744143023331297:=()
def tw2827111499922873864:=()
def tw3569819180990900226:=()
def tw2249131970430663698:=()
def tw13756371255119821011:=()
def tw5256165091924106194:=()
def tw17294441064087293784:=()
def tw5012292136392599182:=()
def tw11025274420483525028:=()
def tw11217172997261992432:=()
def tw8742558334141665582:=()
def tw82862059445541698:=()
def tw7961738637769672764:=()
def tw780823211958121074:=()
def tw5519522892430645030:=()
def tw17478100286286223967:=()
def tw13212460272831255461:=()
def tw14898864505794857022:=()
def tw14333162231887182854:=()
def tw17441180010263367445:=()
def tw5947955126198676051:=()
def tw5819542218744068040:=()
def tw5644566738841050585:=()
def tw41216216946557257:=()
def tw12019390740674410837:=()
def tw948257286440167860:=()
def tw8079047750072245498:=()
def tw18163354787225258952:=()
def tw4513931978654183996:=()
def tw3764375178475472354:=()
def tw6189189890098932516:=()
def tw10082498628417863154:=()
def tw9258193116567684712:=()
def tw7977943861558249059:=()
def tw7210083305072027367:=()
def tw16924918062125634544:=()
def tw14945810515297111768:=()
def tw14618995812536198000:=()
def tw8344060850028016040:=()
def tw16113228202247750928:=()
def tw12673939242012937711:=()
def tw15485786105058491005:=()
def tw6672165507147149277:=()
def tw3660489045905052407:=()
def tw13525205887629870697:=()
def tw11505618800553397284:=()
def tw2745184659217156636:=()
def tw8802046430985078439:=()
def tw7496919423370422681:=()
def tw6579678151585172458:=()
def tw15160931647326373813:=()
def tw15632617298543917631:=()
def tw10328177710412321060:=()
def tw11988305798227416321:=()
def tw9255004123898978679:=()
def tw3149605573259590262:=()
def tw8317696097749070100:=()
def tw7768520185133483260:=()
def tw5039580599414222271:=()
def tw4750897827946435448:=()
def tw4521433967567876705:=()
def tw3718557099377666671:=()
def tw2402215024493388008:=()
def tw18109275846471779873:=()
def tw14014907652455787003:=()
def tw10139068479628609997:=()
end PySem.W.Fast
open PySem PySem.W PyProof.Rows
set_option maxRecDepth 100000 in
set_option maxHeartbeats 0 in
theorem PySem.Challenge.cw_asktally_k40_turns_and_refusals_holds : PySem.Challenge.rw_asktally_k40_turns_and_refusals.Holds := by
 w_on; o_law; k_head; (case hw=>w_witness2)
 k_fill
 refine Mine.walk (l:=PySem.Challenge.rw_asktally_k40_turns_and_refusals) rfl rfl (fun w h Y=>PySem.W.kIn_of Y) ?F
 case F =>
  intro w mg fa h KX G hmg
  refine' Mine.all_mk KX G hmg ?a0 ?l0 ?c0 ?k0 ?a1 ?l1 ?c1 ?k1 ?a2 ?l2 ?c2 ?k2 ?a3 ?l3 ?c3 ?k3 ?a4 ?l4 ?c4 ?k4 ?a5 ?l5 ?c5 ?k5 ?a6 ?l6 ?c6 ?k6 ?a7 ?l7 ?c7 ?k7 ?a8 ?l8 ?c8 ?k8 ?a9 ?l9 ?c9 ?k9 ?a10 ?l10 ?c10 ?k10 ?a11 ?l11 ?c11 ?k11 ?a12 ?l12 ?c12 ?k12 ?a13 ?l13 ?c13 ?k13 ?a14 ?l14 ?c14 ?k14 ?a15 ?l15 ?c15 ?k15 ?a16 ?l16 ?c16 ?k16 ?a17 ?l17 ?c17 ?k17 ?a18 ?l18 ?c18 ?k18 ?a19 ?l19 ?c19 ?k19 ?a20 ?l20 ?c20 ?k20 ?a21 ?l21 ?c21 ?k21 ?a22 ?l22 ?c22 ?k22 ?a23 ?l23 ?c23 ?k23 ?a24 ?l24 ?c24 ?k24 ?a25 ?l25 ?c25 ?k25 ?a26 ?l26 ?c26 ?k26 ?a27 ?l27 ?c27 ?k27 ?a28 ?l28 ?c28 ?k28 ?a29 ?l29 ?c29 ?k29 ?a30 ?l30 ?c30 ?k30 ?a31 ?l31 ?c31 ?k31 ?a32 ?l32 ?c32 ?k32 ?a33 ?l33 ?c33 ?k33 ?a34 ?l34 ?c34 ?k34 ?a35 ?l35 ?c35 ?k35 ?a36 ?l36 ?c36 ?k36 ?a37 ?l37 ?c37 ?k37 ?a38 ?l38 ?c38 ?k38 ?a39 ?l39 ?c39 ?k39 ?a40 ?l40 ?c40 ?k40 ?a41 ?l41 ?c41 ?k41 ?a42 ?l42 ?c42 ?k42 ?a43 ?l43 ?c43 ?k43 ?a44 ?l44 ?c44 ?k44 ?a45 ?l45 ?c45 ?k45 ?a46 ?l46 ?c46 ?k46 ?a47 ?l47 ?c47 ?k47 ?a48 ?l48 ?c48 ?k48 ?a49 ?l49 ?c49 ?k49 ?gmgg ?gmaI ?gmiI ?gmlI ?gmcI ?gmkI ?gmaM ?gmiM ?gmlM ?gmcM ?gmkM ?gmaW ?gmiW ?gmlW ?gmcW ?gmkW ?gmpg ?gmhdi ?gmpov ?gmsat ?gmmki ?gmkcl ?gmn_switches ?gmn_trees ?gmn_field ?gmn_degrees ?dbgg ?dbaI ?dbiI ?dblI ?dbcI ?dbkI ?dbaW ?dbiW ?dblW ?dbcW ?dbkW ?dbaU ?dbiU ?dblU ?dbcU ?dbkU ?dbaH ?dbiH ?dblH ?dbcH ?dbkH ?dbaT ?dbiT ?dblT ?dbcT ?dbkT ?dbaC ?dbiC ?dblC ?dbcC ?dbkC ?dbaB ?dbiB ?dblB ?dbcB ?dbkB ?dbaR ?dbiR ?dblR ?dbcR ?dbkR ?dbaG ?dbiG ?dblG ?dbcG ?dbkG ?dbaE ?dbiE ?dblE ?dbcE ?dbkE ?dbaL ?dbiL ?dblL ?dbcL ?dbkL ?dbpg ?dbhdi ?dbpov ?dbsat ?dbmki ?dbkcl ?dbn_game ?dbn_awaited ?dbn_claims ?dbn_s ?dbn_heard ?dbn_tossed ?dbn_held ?dbn_places ?ge ?gAs ?iAs0 ?xga ?xrd ?xfc0 ?xlk ?xtp ?xcd ?xkp ?yg6 ?yo6 ?ys6 ?ya6 ?yt6 ?yc6 ?yi6 ?yl6 ?yd6 ?yk6 ?yp6 ?yq6 ?yn6 ?yg7 ?yo7 ?ys7 ?ya7 ?yt7 ?yc7 ?yi7 ?yl7 ?yd7 ?yk7 ?yp7 ?yq7 ?yn7 ?yg8 ?yo8 ?ys8 ?ya8 ?yt8 ?yc8 ?yi8 ?yl8 ?yd8 ?yk8 ?yp8 ?yq8 ?yn8 ?yg0 ?yo0 ?ys0 ?ya0 ?yt0 ?yc0 ?yg1 ?yo1 ?ys1 ?ya1 ?yt1 ?yc1 ?yg2 ?yo2 ?ys2 ?ya2 ?yt2 ?yc2 ?yg3 ?yo3 ?ys3 ?ya3 ?yt3 ?yc3 ?yg4 ?yo4 ?ys4 ?ya4 ?yt4 ?yc4 ?yg5 ?yo5 ?ys5 ?ya5 ?yt5 ?yc5 ?yg9 ?yo9 ?ys9 ?ya9 ?yt9 ?yc9 ?ye0 ?ye1 ?ye2 ?ye3 ?ye4 ?ye5 ?ye6 ?ye7 ?ye8 ?ye9 ?ynd ?hR0 ?hV0 ?z0 ?z1 ?z2 ?z3 ?z4 ?z5 ?z6 ?z7 ?z8 ?z9 ?z10 ?z11 ?z12 ?z13
  case a0|l0|c0|k0|a1|l1|c1|k1|a2|l2|c2|k2|a3|l3|c3|k3|a4|l4|c4|k4|a5|l5|c5|k5|a6|l6|c6|k6|a7|l7|c7|k7|a8|l8|c8|k8|a9|l9|c9|k9|a10|l10|c10|k10|a11|l11|c11|k11|a12|l12|c12|k12|a13|l13|c13|k13|a14|l14|c14|k14|a15|l15|c15|k15|a16|l16|c16|k16|a17|l17|c17|k17|a18|l18|c18|k18|a19|l19|c19|k19|a20|l20|c20|k20|a21|l21|c21|k21|a22|l22|c22|k22|a23|l23|c23|k23|a24|l24|c24|k24|a25|l25|c25|k25|a26|l26|c26|k26|a27|l27|c27|k27|a28|l28|c28|k28|a29|l29|c29|k29|a30|l30|c30|k30|a31|l31|c31|k31|a32|l32|c32|k32|a33|l33|c33|k33|a34|l34|c34|k34|a35|l35|c35|k35|a36|l36|c36|k36|a37|l37|c37|k37|a38|l38|c38|k38|a39|l39|c39|k39|a40|l40|c40|k40|a41|l41|c41|k41|a42|l42|c42|k42|a43|l43|c43|k43|a44|l44|c44|k44|a45|l45|c45|k45|a46|l46|c46|k46|a47|l47|c47|k47|a48|l48|c48|k48|a49|l49|c49|k49|gmgg|gmaI|gmiI|gmlI|gmcI|gmkI|gmaM|gmiM|gmlM|gmcM|gmkM|gmaW|gmiW|gmlW|gmcW|gmkW|gmpg|gmhdi|gmpov|gmsat|gmmki|gmkcl|gmn_switches|gmn_trees|gmn_field|gmn_degrees|dbgg|dbaI|dbiI|dblI|dbcI|dbkI|dbaW|dbiW|dblW|dbcW|dbkW|dbaU|dbiU|dblU|dbcU|dbkU|dbaH|dbiH|dblH|dbcH|dbkH|dbaT|dbiT|dblT|dbcT|dbkT|dbaC|dbiC|dblC|dbcC|dbkC|dbaB|dbiB|dblB|dbcB|dbkB|dbaR|dbiR|dblR|dbcR|dbkR|dbaG|dbiG|dblG|dbcG|dbkG|dbaE|dbiE|dblE|dbcE|dbkE|dbaL|dbiL|dblL|dbcL|dbkL|dbpg|dbhdi|dbpov|dbsat|dbmki|dbkcl|dbn_game|dbn_awaited|dbn_claims|dbn_s|dbn_heard|dbn_tossed|dbn_held|dbn_places|ge|gAs|iAs0|xga|xrd|xfc0|xlk|xtp|xcd|xkp|yg6|yo6|ys6|ya6|yt6|yc6|yi6|yl6|yd6|yk6|yp6|yq6|yn6|yg7|yo7|ys7|ya7|yt7|yc7|yi7|yl7|yd7|yk7|yp7|yq7|yn7|yg8|yo8|ys8|ya8|yt8|yc8|yi8|yl8|yd8|yk8|yp8|yq8|yn8|yg0|yo0|ys0|ya0|yt0|yc0|yg1|yo1|ys1|ya1|yt1|yc1|yg2|yo2|ys2|ya2|yt2|yc2|yg3|yo3|ys3|ya3|yt3|yc3|yg4|yo4|ys4|ya4|yt4|yc4|yg5|yo5|ys5|ya5|yt5|yc5|yg9|yo9|ys9|ya9|yt9|yc9|ye0|ye1|ye2|ye3|ye4|ye5|ye6|ye7|ye8|ye9|ynd|hR0|hV0|z0|z1|z2|z3|z4|z5|z6|z7|z8|z9|z10|z11|z12|z13=>first | k_is | (delta Mine.HA; k_is) | (delta Mine.HL; k_is) | (delta Mine.HC; k_is) | (delta Mine.HK; k_is) | (delta Mine.HF; k_is) | decide
