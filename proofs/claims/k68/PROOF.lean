import PyProof.Rows.All
import Wide.All
import OpenK.AllK
import Wide.FinOn
import Lean
import PyProof.EqAt
import PyProof.EqKinds
import PyProof.TupleCall
import PySem.Challenge.RW_asktally_k68_the_honest_one_is_never_cau
set_option Elab.async false
set_option linter.all false
set_option maxRecDepth 100000
set_option bootstrap.genMatcherCode false
set_option compiler.extract_closed false
local macro_rules | `(tactic|omega)=>`(tactic|first | lia | omega +splitDisjunctions)
local macro_rules | `(command|def $n:declId $s:optDeclSig $b:declVal)=>`(command|noncomputable def $n:declId $s:optDeclSig $b:declVal)
local macro_rules | `(tactic|decide)=>`(tactic|decide +kernel)
local macro_rules | `(tactic|rfl')=>`(tactic|with_unfolding_all rfl)
local macro_rules | `(tactic|ac_rfl)=>`(tactic|(intro _ _ _ _ _ _ us hl;rcases us with _|⟨a,_|⟨b,_|⟨c,_|⟨d,_|⟨e,_|⟨f,_|⟨g,_|⟨h,us⟩⟩⟩⟩⟩⟩⟩⟩<;>first|rfl|(simp at hl)))
noncomputable section
section
open PySem PySem.Spec PyProof.Rows
abbrev zA0:=@wpAny_bind
theorem zB0.{u}{c:Prop}{h:Decidable c}(hc:¬c){α:Sort u}{t e:α}:ite c t e=e:=if_neg hc
theorem zE0.{u}{c:Prop}{h:Decidable c}(hc:c){α:Sort u}{t e:α}:ite c t e=t:=if_pos hc
abbrev zF0:=@List.length_map
abbrev zH0:=@Nat.le_refl
abbrev zI0:=@wpAny_pure
abbrev zJ0:=@List.length_append
abbrev zL0:=@List.map_append
theorem zM0.{u}{α:Type u}{a b:α}(h:a∈[b]):a=b:=List.mem_singleton.mp h
abbrev zN0:=@Heap.lt_size
abbrev zO0:=@Nat.le_trans
abbrev zP0:=@Heap.get?_push_of_some
abbrev zQ0:=@List.length_cons
abbrev zR0:=@List.getElem?_eq_getElem
abbrev zS0:=@List.size_toArray
abbrev zT0:=@Nat.ne_of_lt
abbrev zU0:=@List.mem_cons_self
abbrev zV0:=@Option.some.inj
abbrev zW0:=@Nat.zero_le
theorem zX0.{u}{α:Type u}{l:List α}{i:Nat}{a:α}(h:l[i]?=some a):∃h:i<l.length,l[i]=a:=List.getElem?_eq_some_iff.mp h
theorem zY0.{u}{α:Type u}{a b:α}{l:List α}(h:a∈b::l):a=b∨a∈l:=List.mem_cons.mp h
abbrev zZ0:=@List.map_cons
abbrev qA0:=@Heap.get?_push_size
abbrev qB0:=@Int.emod_nonneg
abbrev qC0:=@Bool.false_ne_true
theorem qD0.{u}{α:Type u}{a:α}{s t:List α}(h:a∈s++t):a∈s∨a∈t:=List.mem_append.mp h
abbrev qE0:=@List.getElem?_map
abbrev qF0:=@Int.emod_lt_of_pos
abbrev qG0:=@Nat.lt_of_lt_of_le
abbrev qH0:=@List.mem_cons_of_mem
abbrev qI0:=@List.mem_of_getElem?
abbrev qJ0:=@List.take_length
abbrev qK0:=@List.take_add_one
abbrev qL0:=@Nat.le_succ
abbrev qM0:=@List.length_take
abbrev qN0:=@List.length_singleton
abbrev qO0:=@Nat.ne_of_gt
abbrev qP0:=@List.length_range
abbrev qQ0:=@Int.toNat_natCast
abbrev qR0:=@List.getElem_mem
abbrev qS0:=@Int.emod_eq_of_lt
abbrev qT0:=@List.getD_eq_getElem?_getD
abbrev qU0:=@List.mem_append_right
abbrev qV0:=@Nat.lt_irrefl
theorem qW0{α β:Type}{f:α->β}{x:Option α}{b:β}(h:x.map f=some b):∃a,x=some a/\f a=b:=Option.map_eq_some_iff.mp h
abbrev qX0:=@Int.mul_le_mul_of_nonneg_left
end
namespace L2
open PySem PySem.Spec PyProof.Rows
abbrev Key:=Sum Int Str
def qb:Key->Value->Bool
 | .inl k,v=>Value.isInt k v
 | .inr x,v=>Value.isStrOf x v
def keyH(w:World):Key->Int
 | .inl k=>hashInt k
 | .inr x=>hashStr w x
theorem ci:∀{k:Key}{v:Value},qb k v=true->(∃i t,k=Sum.inl i/\v=Value.int i t)∨(∃x t,k=Sum.inr x/\v=Value.str x t)
 | .inl i,v,h=>by
   obtain⟨t,e⟩:=Value.isInt_shape (k:=i) (v:=v) h;exact .inl ⟨i,t,rfl,e⟩
 | .inr x,v,h=>by
   obtain⟨t,e⟩:=Value.isStrOf_shape (x:=x) (v:=v) h;exact .inr ⟨x,t,rfl,e⟩
theorem ye(i:Int)(t:Tok):qb (.inl i) (.int i t)=true:=by simp [qb,Value.isInt]
theorem yd(x:Str)(t:Tok):qb (.inr x) (.str x t)=true:=by simp [qb,Value.isStrOf]
theorem DX(a b:Int):decide ((Sum.inl a:Key)=Sum.inl b)=(a==b):=by
 by_cases e:a=b
 . subst e;simp
 . have h:¬ (Sum.inl a:Key)=Sum.inl b:=fun q=>e (Sum.inl.inj q)
   rw[decide_eq_false h];exact(beq_eq_false_iff_ne.mpr e).symm
theorem DU(a b:Str):decide ((Sum.inr a:Key)=Sum.inr b)=decide (a=b):=by
 by_cases e:a=b
 . subst e;simp
 . have h:¬ (Sum.inr a:Key)=Sum.inr b:=fun q=>e (Sum.inr.inj q)
   rw[decide_eq_false h,decide_eq_false e]
theorem DW(a:Int)(b:Str):decide ((Sum.inl a:Key)=Sum.inr b)=false:=decide_eq_false (fun q=>nomatch q)
theorem DV(a:Str)(b:Int):decide ((Sum.inr a:Key)=Sum.inl b)=false:=decide_eq_false (fun q=>nomatch q)
def aY(prog:Program)(w:World):PySem.KeyKind prog w Key where
 is:=qb
 hash:=keyH w
 inj:=fun v a b ha hb=>by
  rcases ci ha with⟨i,t,rfl,rfl⟩ | ⟨x,t,rfl,rfl⟩
  . rcases ci hb with⟨j,u,rfl,e⟩ | ⟨y,u,rfl,e⟩
    . injection e with e1 _;rw[e1]
    . exact nomatch e
  . rcases ci hb with⟨j,u,rfl,e⟩ | ⟨y,u,rfl,e⟩
    . exact nomatch e
    . injection e with e1 _;rw[e1]
 byValue:=fun k v h=>by
  rcases ci h with⟨i,t,rfl,rfl⟩ | ⟨x,t,rfl,rfl⟩ <;> rfl
 pyHash:=fun hv h=>by
  rcases ci hv with⟨i,t,rfl,rfl⟩ | ⟨x,t,rfl,rfl⟩
  . exact wpAny_pyHash_int h
  . exact wpAny_pyHash_str h
 eqBool:=fun hu hv h=>by
  rcases ci hu with⟨i,t,rfl,rfl⟩ | ⟨x,t,rfl,rfl⟩
  . rcases ci hv with⟨j,u,rfl,rfl⟩ | ⟨y,u,rfl,rfl⟩
    . rw[DX]at h;exact wpAny_eqBool_int h
    . rw[DW]at h;exact SeqAt.EqAt.int_str i t y u _ _ _ _ h
  . rcases ci hv with⟨j,u,rfl,rfl⟩ | ⟨y,u,rfl,rfl⟩
    . rw[DV]at h;exact SeqAt.EqAt.str_int x t j u _ _ _ _ h
    . rw[DU]at h;exact wpAny_eqBool_str h
 «strs»:=fun k x t v h=>by
  rcases ci h with⟨i,u,rfl,e⟩ | ⟨y,u,rfl,e⟩
  . exact nomatch e
  . injection e with e1 _;subst e1;cases v <;> rfl
theorem tj(prog:Program)(w:World)(i:Int)(t:Tok):(aY prog w).is (.inl i) (.int i t)=true:=ye i t
theorem tf(prog:Program)(w:World)(x:Str)(t:Tok):(aY prog w).is (.inr x) (.str x t)=true:=yd x t
inductive V where
 | non | bl (b:Bool) | int (i:Int) | str (x:Str) | byt (b:Array UInt8) | flt (b:UInt64) | ref (a:Addr) | ty (n:String)
 deriving DecidableEq
def RelV:V->Value->Prop
 | .non,u=>u=Value.none
 | .bl b,u=>u=Value.bool b
 | .int i,u=>∃t,u=Value.int i t
 | .str x,u=>∃t,u=Value.str x t
 | .byt b,u=>∃t,u=Value.bytes b t
 | .flt b,u=>∃t,u=Value.float b t
 | .ref a,u=>u=Value.ref a
 | .ty n,u=>u=Value.type n
abbrev Vals:List V->List Value->Prop:=Paired RelV
theorem Vals.length{xs:List V}{us:List Value}(r:Vals xs us):xs.length=us.length:=Paired.length r
theorem Vals.get:∀{xs:List V}{us:List Value}{i:Nat}{x:V},Vals xs us->xs[i]?=some x->∃u,us[i]?=some u/\RelV x u
 | _,_,_,_,.nil,e=>by simp at e
 | _,_,0,_,.cons r _,e=>by simp at e;subst e;exact⟨_,rfl,r⟩
 | _,_,i+1,x,.cons _ t,e=>by
   obtain⟨u,h1,h2⟩:=Vals.get (i:=i) (x:=x) t (by simpa using e);exact⟨u,by simpa using h1,h2⟩
theorem Vals.set{x:V}{u:Value}(r:RelV x u):∀{xs:List V}{us:List Value}(i:Nat),Vals xs us->Vals (xs.set i x) (us.set i u)
 | _,_,_,.nil=>.nil
 | _,_,0,.cons _ t=>.cons r t
 | _,_,i+1,.cons q t=>.cons q (Vals.set r i t)
theorem Vals.append:∀{xs ys:List V}{us ws:List Value},Vals xs us->Vals ys ws->Vals (xs++ys) (us++ws)
 | _,_,_,_,.nil,s=>s
 | _,_,_,_,.cons r t,s=>.cons r (Vals.append t s)
theorem Vals.take:∀{xs:List V}{us:List Value}(n:Nat),Vals xs us->Vals (xs.take n) (us.take n)
 | _,_,0,_=>.nil
 | _,_,_+1,.nil=>.nil
 | _,_,n+1,.cons r t=>.cons r (Vals.take n t)
theorem Vals.drop:∀{xs:List V}{us:List Value}(n:Nat),Vals xs us->Vals (xs.drop n) (us.drop n)
 | _,_,0,r=>r
 | _,_,_+1,.nil=>.nil
 | _,_,n+1,.cons _ t=>Vals.drop n t
def RelO:Option V->Option Value->Prop
 | some v,some u=>RelV v u
 | none,none=>True
 | _,_=>False
def KV{κ:Type}:List (κ×V)->List (κ×Value)->Prop:=Paired fun(p:κ×V)(q:κ×Value)=>p.1=q.1/\RelV p.2 q.2
def kV:Key->V
 | .inl i=>.int i
 | .inr x=>.str x
inductive HO where
 | lst (xs:List V)
 | tup (xs:List V)
 | dK (kvs:List (Key×V)) | dT (kvs:List (List Key×V))
 | set (S:Int->Bool) (n:Nat)
 | ins (C dx:Addr) (fs:List (Str×V))
 | own (x:Addr)
 | xd (fs:List (Str×V))
 | met (f x:Addr)
 | rng (lo hi:Int)
 | frz (o:Obj) (u:HO)
 | tbl (ps:Array Value)
 | ext (φ:Heap->Prop)
abbrev Hp:=Addr->Option HO
def upd(H:Hp)(a:Addr)(o:HO):Hp:=fun b=>if b=a then some o else H b
theorem aE{H:Hp}{a:Addr}{o:HO}:upd H a o a=some o:=by unfold upd;rw[zE0 rfl]
theorem av{H:Hp}{a b:Addr}{o:HO}(h:b≠a):upd H a o b=H b:=by unfold upd;rw[zB0 h]
theorem aX{H:Hp}{a b:Addr}{o u:HO}(h:H a=some o)(h':H b=some u)(d:o≠u):a≠b:=by
 intro e;subst e;rw[h]at h';exact d (zV0 h')
theorem aJ{H:Hp}{a b:Addr}{o:HO}(h:H a=some o)(h':H b=none):a≠b:=by
 intro e;subst e;rw[h]at h';cases h'
section
variable (P:Program) (w:World)
def ObjOk(H:Hp)(h:Heap)(a:Addr):HO->Prop
 | .lst xs=>xs.length<=sizeLine/\∃(its:List Value) (n:Nat),Vals xs its/\h.get? a=some { cls:=.type "list",data:=.seq its.toArray n }
 | .tup xs=>xs.length<=sizeLine/\∃its:List Value,Vals xs its/\IsTup h a its.toArray/\∃o,h.get? a=some o/\o.dict=none
 | .dK kvs=>kvs.length<=sizeLine/\(a==sysModules)=false/\∃vs,KV kvs vs/\h.DictOf (aY P w) a vs
 | .dT kvs=>kvs.length<=sizeLine/\(a==sysModules)=false/\∃xs:List (List Key×Addr×Value),
  Paired (fun(p:List Key×V)(q:List Key×Addr×Value)=>p.1=q.1/\H q.2.1=some (.tup (p.1.map kV))/\RelV p.2 q.2.2) kvs xs/\
  ∃o es ep,h.get? a=some o/\o.ExactDict/\o.data=.dict es ep/\es.toList=xs.map (entryOfKey (tupleKind (aY P w)))/\(xs.map (·.1)).Nodup
 | .set S n=>h.SetOf (intKind P w) a S n
 | .ins C dx fs=>H dx=some (.own a)/\fs.length<=1000/\dx≠a/\h.get? a=some (PySem.W.instObj C dx)/\
  ∃mA,h.Ns1 dx mA/\(∀f,RelO (fs.lookup f) (mA f))/\PySem.Within mA (fs.map (·.1))
 | .own _=>∃o,h.get? a=some o
 | .xd fs=>∃mA,h.Ns1 a mA/\∀f,RelO (fs.lookup f) (mA f)
 | .rng lo hi=>∃t u v,h.get? a=some { cls:=.type "range",data:=.fields #[.int lo t,.int hi u,.int 1 v] }
 | .frz o u=>h.get? a=some o/\ObjOk H h a u
 | .tbl ps=>h.get? a=some { cls:=.none,data:=.fields ps }
 | .met f x=>h.get? a=some (PySem.W.methodObj (.ref f) (.ref x))
 | .ext φ=>φ h/\(∃o,h.get? a=some o)/\∀h1 h2:Heap,φ h1->(∀o,h1.get? a=some o->h2.get? a=some o)->φ h2
def HOk(H:Hp)(h:Heap):Prop:=∀a o,H a=some o->ObjOk P w H h a o
end
section
variable {P:Program} {w:World} {H H':Hp} {h h':Heap} {a:Addr} {o:HO}
theorem ObjOk.lt(x:ObjOk P w H h a o):a<h.objs.size:=by
 cases o with
 | lst xs=>obtain⟨_,_,_,_,e⟩:=x;exact zN0 e
 | tup xs=>obtain⟨_,_,_,p,_⟩:=x;exact p.lt
 | dK kvs=>obtain⟨_,_,_,_,o,_,_,e,_⟩:=x;exact zN0 e
 | dT kvs=>obtain⟨_,_,_,_,o,_,_,e,_⟩:=x;exact zN0 e
 | set S n=>obtain⟨o,_,_,_,e,_⟩:=x;exact zN0 e
 | ins C dx fs=>obtain⟨_,_,_,e,_⟩:=x;exact zN0 e
 | own y=>obtain⟨_,e⟩:=x;exact zN0 e
 | xd fs=>obtain⟨_,⟨_,_,_,e,_⟩,_⟩:=x;exact zN0 e
 | rng lo hi=>obtain⟨_,_,_,e⟩:=x;exact zN0 e
 | frz ob u=>obtain⟨e,_⟩:=x;exact zN0 e
 | tbl ps=>exact zN0 (show h.get? a=some _ from x)
 | met f y=>exact zN0 (show h.get? a=some _ from x)
 | ext φ=>obtain⟨_,⟨_,e⟩,_⟩:=x;exact zN0 e
theorem Paired.mapP{α β:Type}{F G:α->β->Prop}:∀{l₁:List α}{l₂:List β},Paired F l₁ l₂->(∀a b,F a b->G a b)->Paired G l₁ l₂
 | _,_,.nil,_=>.nil
 | _,_,.cons r t,f=>.cons (f _ _ r) (Paired.mapP t f)
theorem ObjOk.stay(x:ObjOk P w H h a o)(k:∀b u,(b=a∨H b=some (.own a))->h.get? b=some u->h'.get? b=some u)
 (ho:∀b,H b=some (.own a)->H' b=some (.own a)) (ht:∀b xs,H b=some (.tup xs)->H' b=some (.tup xs)):ObjOk P w H' h' a o:=by
 induction o with
 | lst xs=>obtain⟨z,its,n,r,e⟩:=x;exact⟨z,its,n,r,k _ _ (.inl rfl) e⟩
 | tup xs=>obtain⟨z,its,r,⟨ob,e,c⟩,od,e2,d⟩:=x;exact⟨z,its,r,⟨ob,k _ _ (.inl rfl) e,c⟩,od,k _ _ (.inl rfl) e2,d⟩
 | dK kvs=>obtain⟨z,y,vs,r,ob,es,ep,e,c⟩:=x;exact⟨z,y,vs,r,ob,es,ep,k _ _ (.inl rfl) e,c⟩
 | dT kvs=>
   obtain⟨z,y,xs,r,ob,es,ep,e,c⟩:=x;exact⟨z,y,xs,Paired.mapP r fun p q z=>⟨z.1,ht _ _ z.2.1,z.2.2⟩,ob,es,ep,k _ _ (.inl rfl) e,c⟩
 | set S n=>obtain⟨ob,es,ep,t,e,c⟩:=x;exact⟨ob,es,ep,t,k _ _ (.inl rfl) e,c⟩
 | ins C dx fs=>
   obtain⟨d,z,ne,e,mA,⟨od,es,ep,e2,c⟩,r⟩:=x;exact⟨ho _ d,z,ne,k _ _ (.inl rfl) e,mA,⟨od,es,ep,k _ _ (.inr d) e2,c⟩,r⟩
 | own y=>obtain⟨ob,e⟩:=x;exact⟨ob,k _ _ (.inl rfl) e⟩
 | xd fs=>obtain⟨mA,⟨od,es,ep,e,c⟩,r⟩:=x;exact⟨mA,⟨od,es,ep,k _ _ (.inl rfl) e,c⟩,r⟩
 | rng lo hi=>obtain⟨t,u,v,e⟩:=x;exact⟨t,u,v,k _ _ (.inl rfl) e⟩
 | frz ob u ih=>obtain⟨e,q⟩:=x;exact⟨k _ _ (.inl rfl) e,ih q⟩
 | tbl ps=>
   have e:h.get? a=some { cls:=.none,data:=.fields ps }:=x;show h'.get? a=some { cls:=.none,data:=.fields ps };exact k a _ (.inl rfl) e
 | met f y=>
   have e:h.get? a=some (PySem.W.methodObj (.ref f) (.ref y)):=x;show h'.get? a=some (PySem.W.methodObj (.ref f) (.ref y));exact k a _ (.inl rfl) e
 | ext φ=>obtain⟨p,⟨o,e⟩,st⟩:=x;exact⟨st _ _ p fun o q=>k _ _ (.inl rfl) q,⟨o,k _ _ (.inl rfl) e⟩,st⟩
theorem HOk.lt(x:HOk P w H h)(e:H a=some o):a<h.objs.size:=(x a o e).lt
theorem HOk.fresh(x:HOk P w H h)(e:h.objs.size<=a):H a=none:=by
 cases q:H a with
 | none=>rfl
 | some u=>exact absurd (qG0 (x.lt q) e) (qV0 _)
theorem HOk.kept(x:HOk P w H h)(k:∀b u,h.get? b=some u->h'.get? b=some u):HOk P w H h':=fun a o e=>
 (x a o e).stay (fun b u _ q=>k b u q) (fun _ q=>q) fun _ _ q=>q
theorem HOk.laid(x:HOk P w H h)(k:∀b u,h.get? b=some u->h'.get? b=some u)(hp:h.objs.size<=a)(new:ObjOk P w (upd H a o) h' a o):HOk P w (upd H a o) h':=fun b u e=>by
 have hn:=x.fresh hp
 by_cases hb:b=a
 . subst hb;rw[aE]at e;cases e;exact new
 . rw[av hb]at e;exact(x b u e).stay (fun c v _ q=>k c v q) (fun c q=>by rw[av (aJ q hn)];exact q) fun c xs q=>by rw[av (aJ q hn)];exact q
end
def Rd(H:Hp)(a:Addr)(u:HO):Prop:=H a=some u∨∃o,H a=some (.frz o u)
theorem Rd.ok{P:Program}{w:World}{H:Hp}{h:Heap}{a:Addr}{u:HO}(r:Rd H a u)(x:HOk P w H h):ObjOk P w H h a u:=by
 rcases r with r | ⟨o,r⟩
 . exact x a u r
 . obtain⟨_,q⟩:=x a _ r;exact q
def Mut:Option HO->Prop
 | some (.lst _)=>True
 | some (.dK _)=>True
 | some (.dT _)=>True
 | some (.set _ _)=>True
 | some (.ins _ _ _)=>True
 | some (.ext _)=>True
 | _=>False
section
variable {P:Program} {w:World} {H:Hp} {h h':Heap} {x e:Addr} {o':HO}
theorem HOk.write(ok:HOk P w H h)(mu:Mut (H x))(he:e=x∨H e=some (.own x))(k:∀b u,b≠e->h.get? b=some u->h'.get? b=some u)(heo:∃u,h'.get? e=some u)
 (new:ObjOk P w (upd H x o') h' x o'):HOk P w (upd H x o') h':=fun b u q=>by
 have nown:∀c y,H c=some (.own y)->c≠x:=fun c y r z=>by subst z;rw[r]at mu;exact mu
 have ntup:∀c xs,H c=some (.tup xs)->c≠x:=fun c xs r z=>by subst z;rw[r]at mu;exact mu
 by_cases hb:b=x
 . subst hb;rw[aE]at q;cases q;exact new
 . rw [av hb]at q
   by_cases hbe:b=e
   . have q':H b=some (.own x):=by
      rcases he with z | z
      . exact absurd (hbe.trans z) hb
      . rw[hbe];exact z
     rw[q]at q';cases q';obtain⟨v,hv⟩:=heo;exact⟨v,by rw[hbe];exact hv⟩
   . refine (ok b u q).stay (fun c v hc r=>k c v ?_ r) (fun c r=>by rw[av (nown c b r)];exact r) fun c xs r=>by rw[av (ntup c xs r)];exact r
     rcases hc with rfl | hc
     . exact hbe
     . rintro rfl;rcases he with z | z
       . exact nown c b hc z
       . rw[hc]at z;cases z;exact hb rfl
end
structure Un(fs ex:List Addr)(H H':Hp)(h h':Heap):Prop where
 keep:∀b o,h.get? b=some o->H b=none->b∉fs->b∉ex->h'.get? b=some o
 slot:∀b o,h.get? b=some o->H b=none->b∈fs->b∉ex->∃sl,h'.get? b=some { o with slots:=sl }
 free:∀b o,h.get? b=some o->H b=none->b∉ex->H' b=none
 there:∀b o,h.get? b=some o->b∉ex->∃o',h'.get? b=some o'
 tups:∀b xs,H b=some (.tup xs)->H' b=some (.tup xs)
 frzs:∀b o u,H b=some (.frz o u)->H' b=some (.frz o u)
 tbls:∀b ps,H b=some (.tbl ps)->∃more,H' b=some (.tbl (ps++more))
section
variable {fs fs' ex ex':List Addr} {H H1 H2:Hp} {h h1 h2 h':Heap} {a x e:Addr} {o:HO}
theorem Un.any(u:Un fs ex H H1 h h1){b:Addr}{ob:Obj}(q:h.get? b=some ob)(n:H b=none)(hx:b∉ex):∃sl,h1.get? b=some { ob with slots:=sl }:=by
 by_cases hb:b∈fs
 . exact u.slot b ob q n hb hx
 . exact⟨ob.slots,u.keep b ob q n hb hx⟩
theorem Un.kept(k:∀b u,h.get? b=some u->h'.get? b=some u):Un fs ex H H h h':=
 ⟨fun b ob q _ _ _=>k b ob q,fun b ob q _ _ _=>⟨ob.slots,k b ob q⟩,fun _ _ _ n _=>n,fun b ob q _=>⟨ob,k b ob q⟩,fun _ _ q=>q,fun _ _ _ q=>q,fun _ ps q=>⟨#[],by rw[q];simp⟩⟩
theorem Un.refl:Un fs ex H H h h:=Un.kept fun _ _ q=>q
theorem Un.laid(k:∀b u,h.get? b=some u->h'.get? b=some u)(hp:h.objs.size<=a)(hn:H a=none):Un fs ex H (upd H a o) h h' where
 keep:=fun b u q _ _ _=>k b u q
 slot:=fun b u q _ _ _=>⟨u.slots,k b u q⟩
 free:=fun b u q n _=>by rw[av (zT0 (qG0 (zN0 q) hp))];exact n
 there:=fun b u q _=>⟨u,k b u q⟩
 tups:=fun b xs q=>by rw[av (aJ q hn)];exact q
 frzs:=fun b u xs q=>by rw[av (aJ q hn)];exact q
 tbls:=fun b ps q=>⟨#[],by rw[av (aJ q hn),q];simp⟩
theorem Un.write(mu:Mut (H x))(he:e=x∨H e=some (.own x))(k:∀b u,b≠e->h.get? b=some u->h'.get? b=some u)(heo:∃u,h'.get? e=some u):Un fs ex H (upd H x o) h h':=by
 have hx:∀b,H b=none->b≠x:=fun b n z=>by subst z;rw[n]at mu;exact mu
 have hb:∀b,H b=none->b≠e:=fun b n z=>by
  subst z;rcases he with r | r
  . exact hx b n r
  . rw[n]at r;cases r
 have hm:∀b u,H b=some u->¬ Mut (some u)->b≠x:=fun b u q nm z=>by subst z;rw[q]at mu;exact nm mu
 refine ⟨fun b u q n _ _=>k b u (hb b n) q,fun b u q n _ _=>⟨u.slots,k b u (hb b n) q⟩,fun b u q n _=>by rw[av (hx b n)];exact n,fun b u q _=>?_,
  fun b xs q=>by rw[av (hm b _ q fun z=>z)];exact q,fun b u xs q=>by rw[av (hm b _ q fun z=>z)];exact q,fun b ps q=>⟨#[],by rw[av (hm b _ q fun z=>z),q];simp⟩⟩
 by_cases hbe:b=e
 . subst hbe;exact heo
 . exact⟨u,k b u hbe q⟩
end
def trk(h:Heap)(H:Hp):List Addr:=(List.range h.objs.size).filter fun a=>(H a).isSome
def rJ(h:Heap)(H:Hp):Heap:=PySem.W.hideAll h (trk h H)
theorem yo(h:Heap)(H:Hp):(rJ h H).objs.size=h.objs.size:=PySem.W.hideAll_size _ _
theorem AM{h:Heap}{H:Hp}{b:Addr}{o:Obj}(e:h.get? b=some o)(n:H b=none):(rJ h H).get? b=some o:=
 PySem.W.hideAll_get _ e fun hm=>by
  have q:(H b).isSome=true:=(List.mem_filter.mp hm).2;rw[n]at q;simp at q
theorem BY{h:Heap}{H:Hp}{b:Addr}{o:Obj}(e:(rJ h H).get? b=some o):h.get? b=some o/\H b=none:=by
 have e':h.get? b=some o:=PySem.W.of_hideAll (trk h H) e;refine⟨e',?_⟩;cases q:H b with
 | none=>rfl
 | some x=>
   have hm:b∈trk h H:=List.mem_filter.mpr ⟨List.mem_range.mpr (zN0 e'),by simp [q]⟩;have z:(rJ h H).get? b=none:=PySem.W.hideAll_none (trk h H) hm;rw[z]at e;cases e
structure Mod(K:W.Frag)(mg:Str->Option Value)(base:Heap):Prop where
 kin:K.In base
 glob:base.Ns mainGlobals mg
 blt:∃mb,base.Ns builtinsNs mb/\∀x:Str,x≠"__name__" -> mb x=bootBuiltins x
 nolimit:base.NoLimit
structure Cx where
 prog:Program
 w:World
 K:W.Frag
 mg:Str->Option Value
 base:Heap
 A:Around
 N:List Str
 s₀:Shared
 H₀:Hp
 env:Env
 outer:List Env
 stack:List Env
 ex:List Addr
 fn:Str->Bool
 calm:Bool
 pn:List (Addr×Obj)
 xe:Value->Shared->Prop
def frs(l:List Env):List Addr:=l.filterMap (·.frame)
abbrev Cx.fs(X:Cx):List Addr:=frs X.outer
def Vis(sc:Scope)(x:Str):Prop:=sc.names.lookup x=some .local∨sc.names.lookup x=some .cell∨sc.names.lookup x=some .free
def Loc(sc:Scope)(x:Str):Prop:=sc.names.lookup x=some .local∨sc.names.lookup x=some .cell
def Look(env:Env)(h:Heap)(m:Str->Option Value)(x:Str)(u:Value):Prop:=
 (env.kindOf x=some .local/\m x=some u)∨((env.kindOf x=some .cell∨env.kindOf x=some .free)/\∃c,env.cells.lookup x=some c/\h.IsCell c (some u))
structure Cx.Ok(X:Cx):Prop where
 mod:Mod X.K X.mg X.base
 kind:X.env.scope.kind=.function
 glob:X.env.globals=mainGlobals
 blt:X.env.builtins=builtinsNs
 above:X.s₀.heap.objs.size<=X.env.locals
 inj:∀x y c,X.env.cells.lookup x=some c->X.env.cells.lookup y=some c->x=y
 has:∀x,(X.env.kindOf x=some .cell∨X.env.kindOf x=some .free)->∃c,X.env.cells.lookup x=some c
 cab:∀x c,X.fn x=true->X.env.cells.lookup x=some c->X.s₀.heap.objs.size<=c
 hd:X.calm=true->X.A.handled=none
 frames:X.A.frames=some X.stack
 stk:X.stack=X.outer∨(X.stack=X.env::X.outer/\X.env.frame=some X.env.locals)
 exf:∀b∈X.ex,b≠X.env.locals/\∀x c,X.env.cells.lookup x=some c->c≠b
 bs:∀b o,X.base.get? b=some o->X.s₀.heap.get? b=some o/\X.H₀ b=none
 bsz:X.base.objs.size<=X.s₀.heap.objs.size
 noex:∀b o,X.base.get? b=some o->b∉X.ex
 exfs:∀b∈X.ex,b∉X.fs
 funs:X.s₀.heap.FunFrames X.base X.outer
 frf:∀b∈X.fs,X.H₀ b=none
structure Inv(X:Cx)(pins:List (Addr×Obj))(σ:List (Option V))(H:Hp)(s:Shared):Prop where
 ok:X.Ok
 os:s.os=X.s₀.os
 bare:AllBare s.gens
 base:Un X.fs X.ex X.H₀ H X.s₀.heap s.heap
 loc:∃m,s.heap.Ns X.env.locals m/\∀(i:Nat)(x:Str)(v:V),X.N[i]?=some x->σ[i]?=some (some v)->Vis X.env.scope x->∃u,RelV v u/\Look X.env s.heap m x u
 cell:∀x c,X.env.cells.lookup x=some c->∃v,s.heap.IsCell c v
 free:H X.env.locals=none
 freeC:∀x c,X.env.cells.lookup x=some c->H c=none
 pin:∀p∈X.pn++pins,s.heap.get? p.1=some p.2/\H p.1=none/\p.1≠X.env.locals/\p.1∉X.fs/\∀v,p.2.data≠.cell v
 hok:HOk X.prog X.w H s.heap
 len:σ.length=X.N.length
section
variable {X:Cx} {pins:List (Addr×Obj)} {σ:List (Option V)} {H H':Hp} {s:Shared} {h':Heap}
theorem Cx.Ok.nofr(ok:X.Ok){b:Addr}{o:Obj}(e:X.base.get? b=some o):b∉X.fs:=fun hb=>by
 have:=(ok.funs.mem hb).1
 rw[e]at this;cases this
theorem Inv.bs(I:Inv X pins σ H s):∀b o,X.base.get? b=some o->s.heap.get? b=some o/\H b=none:=fun b o e=>
 ⟨I.base.keep b o (I.ok.bs b o e).1 (I.ok.bs b o e).2 (I.ok.nofr e) (I.ok.noex b o e),I.base.free b o (I.ok.bs b o e).1 (I.ok.bs b o e).2 (I.ok.noex b o e)⟩
theorem Inv.bk(I:Inv X pins σ H s):∀b o,X.base.get? b=some o->s.heap.get? b=some o:=fun b o e=>(I.bs b o e).1
theorem Inv.mod(I:Inv X pins σ H s):Mod X.K X.mg X.base:=I.ok.mod
theorem Inv.kIn(I:Inv X pins σ H s):X.K.In s.heap:=I.ok.mod.kin.keeps I.bk
theorem Inv.lt(I:Inv X pins σ H s):X.env.locals<s.heap.objs.size:=let⟨_,hn,_⟩:=I.loc;hn.lt
theorem Inv.sz(I:Inv X pins σ H s):X.s₀.heap.objs.size<=s.heap.objs.size:=zO0 I.ok.above (Nat.le_of_lt I.lt)
theorem Inv.nofs(I:Inv X pins σ H s){a:Addr}(h:s.heap.objs.size<=a):a∉X.fs:=fun hb=>by
 obtain⟨_,o,ho,_⟩:=I.ok.funs.mem hb;exact absurd (qG0 (zN0 ho) (zO0 I.sz h)) (qV0 _)
theorem Inv.cne(I:Inv X pins σ H s):∀x c,X.env.cells.lookup x=some c->c≠X.env.locals:=fun x c e z=>by
 obtain⟨v,o,ho,hd⟩:=I.cell x c e;obtain⟨m,⟨o',es,ep,ho',hd',_⟩,_⟩:=I.loc;rw[z,ho']at ho;cases ho;rw[hd']at hd;cases hd
theorem Inv.funs(I:Inv X pins σ H s):s.heap.FunFrames X.base X.outer:=by
 have all:∀(l:List Env),(∀b∈frs l,b∈X.fs)->X.s₀.heap.FunFrames X.base l->s.heap.FunFrames X.base l:=by
  intro l
  induction l with
  | nil=>intro _ _;trivial
  | cons env r ih=>
    intro hs hl;obtain⟨hk,⟨L,o,hf,hn,ho,hd⟩,hr⟩:=hl;have hL:L∈X.fs:=hs L (by unfold frs;rw[List.filterMap_cons,hf];exact zU0);obtain⟨sl,e⟩:=I.base.slot L o ho (I.ok.frf L hL) hL fun z=>I.ok.exfs L z hL
    exact⟨hk,⟨L,_,hf,hn,e,hd⟩,ih (fun b hb=>hs b (by unfold frs;rw[List.filterMap_cons,hf];exact qH0 _ hb)) hr⟩
 exact all X.outer (fun _ hb=>hb) I.ok.funs
theorem Inv.stack(I:Inv X pins σ H s):s.heap.FunFrames X.base X.stack:=by
 rcases I.ok.stk with e | ⟨e,hf⟩
 . rw[e];exact I.funs
 . rw[e];obtain⟨m,hn,_⟩:=I.loc;refine .cons (by rw[I.ok.kind];decide) hf hn ?_ I.funs;exact Heap.get?_none_of_le (zO0 I.ok.bsz I.ok.above)
theorem Inv.stkSub(I:Inv X pins σ H s):∀b∈frs X.stack,b∈X.env.locals::X.fs:=fun b hb=>by
 rcases I.ok.stk with e | ⟨e,hf⟩
 . rw[e]at hb;exact qH0 _ hb
 . rw[e]at hb;unfold frs at hb;rw[List.filterMap_cons,hf]at hb;exact hb
theorem Inv.stkFree(I:Inv X pins σ H s):∀b∈frs X.stack,H b=none:=fun b hb=>by
 rcases zY0 (I.stkSub b hb)with e | hb
 . rw[e];exact I.free
 . obtain⟨_,o,ho,_⟩:=I.ok.funs.mem hb;exact I.base.free b o ho (I.ok.frf b hb) fun z=>I.ok.exfs b z hb
theorem Inv.step{g':Array GenState}{t':Nat}{d':Drawn}{ch:List Addr}(I:Inv X pins σ H s)
 (hch:∀b∈ch,(b∈X.ex∨X.s₀.heap.objs.size<=b)/\b≠X.env.locals/\(∀x c,X.env.cells.lookup x=some c->c≠b)/\∀p∈X.pn++pins,p.1≠b)
 (keep:∀b o,b≠X.env.locals->b∉X.fs->b∉ch->s.heap.get? b=some o->H b=none->h'.get? b=some o)
 (slot:∀b o,b≠X.env.locals->b∈X.fs->b∉ch->s.heap.get? b=some o->H b=none->∃sl,h'.get? b=some { o with slots:=sl }) (free:∀b o,b∉ch->s.heap.get? b=some o->H b=none->H' b=none)
 (there:∀b o,b∉ch->s.heap.get? b=some o->∃o',h'.get? b=some o')
 (tups:∀b xs,H b=some (.tup xs)->H' b=some (.tup xs)) (frzs:∀b o u,H b=some (.frz o u)->H' b=some (.frz o u)) (tbls:∀b ps,H b=some (.tbl ps)->∃more,H' b=some (.tbl (ps++more)))
 (ns:∀m,s.heap.Ns X.env.locals m->h'.Ns X.env.locals m) (hok:HOk X.prog X.w H' h') (hg:AllBare g') :
 Inv X pins σ H' { s with heap:=h',gens:=g',drawn:=d',toks:=t' }:=by
 have neL:∀b o,X.s₀.heap.get? b=some o->b≠X.env.locals:=fun b o e=>zT0 (qG0 (zN0 e) I.ok.above)
 have neC:∀b o,X.s₀.heap.get? b=some o->b∉X.ex->b∉ch:=fun b o e hx hb=>by
  rcases(hch b hb).1 with z | z
  . exact hx z
  . exact absurd (qG0 (zN0 e) z) (qV0 _)
 have cellK:∀x c,X.env.cells.lookup x=some c->∀v,s.heap.IsCell c v->h'.IsCell c v:=fun x c e v ⟨o,ho,hd⟩=>by
  have nch:c∉ch:=fun z=>(hch c z).2.2.1 x c e rfl
  by_cases hc:c∈X.fs
  . obtain⟨sl,q⟩:=slot c o (I.cne x c e) hc nch ho (I.freeC x c e);exact⟨_,q,hd⟩
  . exact⟨o,keep c o (I.cne x c e) hc nch ho (I.freeC x c e),hd⟩
 refine⟨I.ok,I.os,hg,⟨fun b o e n hb hx=>?_,fun b o e n hb hx=>?_,fun b o e n hx=>?_,fun b o e hx=>?_,fun b xs e=>tups b xs (I.base.tups b xs e),fun b o xs e=>frzs b o xs (I.base.frzs b o xs e),fun b ps e=>?_⟩,?_,fun x c e=>?_,?_,fun x c e=>?_,fun p hp=>?_,hok,I.len⟩
 . exact keep b o (neL b o e) hb (neC b o e hx) (I.base.keep b o e n hb hx) (I.base.free b o e n hx)
 . obtain⟨sl,e1⟩:=I.base.slot b o e n hb hx;obtain⟨sl',e2⟩:=slot b _ (neL b o e) hb (neC b o e hx) e1 (I.base.free b o e n hx);exact⟨sl',e2⟩
 . obtain⟨o',e1⟩:=I.base.there b o e hx;exact free b o' (neC b o e hx) e1 (I.base.free b o e n hx)
 . obtain⟨o',e1⟩:=I.base.there b o e hx;exact there b o' (neC b o e hx) e1
 . obtain⟨m1,e1⟩:=I.base.tbls b ps e;obtain⟨m2,e2⟩:=tbls b _ e1;exact⟨m1++m2,by rw[e2,Array.append_assoc]⟩
 . obtain ⟨m,hn,hl⟩:=I.loc;refine⟨m,ns m hn,fun i x v e1 e2 e3=>?_⟩;obtain⟨u,r,l⟩:=hl i x v e1 e2 e3;refine⟨u,r,?_⟩;rcases l with l | ⟨k,c,e,z⟩
   . exact .inl l
   . exact .inr ⟨k,c,e,cellK x c e _ z⟩
 . obtain⟨v,z⟩:=I.cell x c e;exact⟨v,cellK x c e v z⟩
 . obtain⟨m,⟨o,_,_,ho,_⟩,_⟩:=I.loc;exact free _ o (fun z=>(hch _ z).2.1 rfl) ho I.free
 . obtain⟨v,o,ho,hd⟩:=I.cell x c e;exact free c o (fun z=>(hch c z).2.2.1 x c e rfl) ho (I.freeC x c e)
 . obtain ⟨e,n,ne,nf,d⟩:=I.pin p hp;have nch:p.1∉ch:=fun z=>(hch p.1 z).2.2.2 p hp rfl
   exact⟨keep p.1 p.2 ne nf nch e n,free p.1 p.2 nch e n,ne,nf,d⟩
theorem Inv.un{t':Nat}(I:Inv X pins σ H s)(u:Un X.fs [] H H' s.heap h')(hok:HOk X.prog X.w H' h'):Inv X pins σ H' { s with heap:=h',toks:=t' }:=by
 obtain ⟨m,⟨o,es,ep,ho,r⟩,_⟩:=id I.loc;obtain⟨sl,hL⟩:=u.any ho I.free (by simp);exact I.step (g':=s.gens) (d':=s.drawn) (ch:=[]) (fun _ z=>nomatch z) (fun b o _ hb _ e n=>u.keep b o e n hb (by simp)) (fun b o _ hb _ e n=>u.slot b o e n hb (by simp)) (fun b o _ e n=>u.free b o e n (by simp)) (fun b o _ e=>u.there b o e (by simp)) u.tups u.frzs u.tbls (fun m' hm=>by
  obtain⟨o',es',ep',ho',r'⟩:=hm;rw[ho]at ho';cases ho';exact⟨_,es',ep',hL,r'⟩) hok I.bare
theorem Inv.call{g':Array GenState}{t':Nat}{d':Drawn}{ch:List Addr}(I:Inv X pins σ H s)(u:Un (frs X.stack) ch H H' s.heap h')(hok:HOk X.prog X.w H' h')(hg:AllBare g')
 (hch:∀b∈ch,(b∈X.ex∨X.s₀.heap.objs.size<=b)/\b≠X.env.locals/\(∀x c,X.env.cells.lookup x=some c->c≠b)/\∀p∈X.pn++pins,p.1≠b) :
 Inv X pins σ H' { s with heap:=h',gens:=g',drawn:=d',toks:=t' }:=by
 obtain⟨m,⟨o,es,ep,ho,r⟩,_⟩:=id I.loc;obtain⟨sl,hL⟩:=u.any ho I.free fun z=>(hch _ z).2.1 rfl
 exact I.step (ch:=ch) hch (fun b o hL hb hc e n=>u.keep b o e n (fun z=>(zY0 (I.stkSub b z)).elim hL hb) hc) (fun b o _ _ hc e n=>u.any e n hc) (fun b o hc e n=>u.free b o e n hc) (fun b o hc e=>u.there b o e hc) u.tups u.frzs u.tbls (fun m' hm=>by
  obtain⟨o',es',ep',ho',r'⟩:=hm;rw[ho]at ho';cases ho';exact⟨_,es',ep',hL,r'⟩) hok hg
theorem Inv.turned{t':Nat}{it:Addr}(I:Inv X pins σ H s)(k:∀b o,b≠it->s.heap.get? b=some o->h'.get? b=some o)(hn:H it=none)(hL:it≠X.env.locals)
 (h1:it∈X.ex∨X.s₀.heap.objs.size<=it) (h2:∀x c,X.env.cells.lookup x=some c->c≠it) (h3:∀p∈X.pn++pins,p.1≠it):Inv X pins σ H { s with heap:=h',toks:=t' }:=by
 have nit:∀b u,H b=some u->b≠it:=fun b u e z=>by rw[z,hn]at e;cases e
 refine I.step (g':=s.gens) (d':=s.drawn) (ch:=[it]) (fun b hb=>?_) (fun b o _ _ hc e _=>k b o (fun z=>hc (by simp [z])) e) (fun b o _ _ hc e _=>⟨o.slots,k b o (fun z=>hc (by simp [z])) e⟩) (fun _ _ _ _ n=>n)
  (fun b o hc e=>⟨o,k b o (fun z=>hc (by simp [z])) e⟩) (fun _ _ e=>e) (fun _ _ _ e=>e) (fun b ps e=>⟨#[],by rw[e];simp⟩) (fun m hm=>?_) (fun b u e=>?_) I.bare
 . have e:b=it:=by simpa using hb
   subst e;exact⟨h1,hL,h2,h3⟩
 . obtain⟨o,es,ep,ho,r⟩:=hm;exact⟨o,es,ep,k _ o (Ne.symm hL) ho,r⟩
 . refine (I.hok b u e).stay (fun c v hc q=>k c v ?_ q) (fun _ q=>q) fun _ _ q=>q
   rcases hc with z | z
   . rw[z];exact nit b u e
   . exact nit c _ z
theorem Inv.tok(I:Inv X pins σ H s)(t:Nat):Inv X pins σ H { s with toks:=t }:=I.un (h':=s.heap) (t':=t) Un.refl I.hok
theorem Inv.kept{t':Nat}(I:Inv X pins σ H s)(k:∀b u,s.heap.get? b=some u->h'.get? b=some u):Inv X pins σ H { s with heap:=h',toks:=t' }:=I.un (Un.kept k) (I.hok.kept k)
theorem Inv.laid{a:Addr}{o:HO}{t':Nat}(I:Inv X pins σ H s)(k:∀b u,s.heap.get? b=some u->h'.get? b=some u)(hp:s.heap.objs.size<=a)(new:ObjOk X.prog X.w (upd H a o) h' a o) :
 Inv X pins σ (upd H a o) { s with heap:=h',toks:=t' }:=I.un (Un.laid k hp (I.hok.fresh hp)) (I.hok.laid k hp new)
theorem Inv.write{x e:Addr}{o:HO}{t':Nat}(I:Inv X pins σ H s)(mu:Mut (H x))(he:e=x∨H e=some (.own x))(k:∀b u,b≠e->s.heap.get? b=some u->h'.get? b=some u)(heo:∃u,h'.get? e=some u)
 (new:ObjOk X.prog X.w (upd H x o) h' x o):Inv X pins σ (upd H x o) { s with heap:=h',toks:=t' }:=I.un (Un.write mu he k heo) (I.hok.write mu he k heo new)
theorem Inv.pins_of{pins':List (Addr×Obj)}(I:Inv X pins σ H s)(h:∀p∈pins',s.heap.get? p.1=some p.2/\H p.1=none/\p.1≠X.env.locals/\p.1∉X.fs/\∀v,p.2.data≠.cell v):Inv X pins' σ H s:=
 ⟨I.ok,I.os,I.bare,I.base,I.loc,I.cell,I.free,I.freeC,fun p hp=>(qD0 hp).elim (fun z=>I.pin p (List.mem_append_left _ z)) (h p),I.hok,I.len⟩
theorem sV{N:List Str}(hN:N.Nodup){i j:Nat}{x:Str}(a:N[i]?=some x)(b:N[j]?=some x):i=j:=by
 obtain⟨h1,e1⟩:=zX0 a;obtain⟨h2,e2⟩:=zX0 b;exact(List.getElem_inj hN).mp (e1.trans e2.symm)
theorem pT{M:Model}{A:Around}{E:Value->Shared->Prop}{i:Nat}{x:Str}{v:V}{u:Value}{Q:Unit->Shared->Prop}(I:Inv X pins σ H s)(hN:X.N.Nodup)(hi:X.N[i]?=some x)(hx:Loc X.env.scope x)(r:RelV v u)
 (h:∀s',Inv X pins (σ.set i (some v)) H s'->(∃a,Heap.SameBut a s.heap s'.heap/\(a=X.env.locals∨X.env.cells.lookup x=some a))->Q () s') (hf:X.fn x=true∨X.env.scope.names.lookup x=some .local:=by first | exact .inl rfl | exact .inr rfl | assumption):wpAny M A (storeName X.env x u) Q E s:=by
 obtain⟨m,hn,hl⟩:=id I.loc;have hcls:(X.env.scope.kind==.class||(X.env.scope.kind==.module&&X.env.locals != X.env.globals))=false:=by rw[I.ok.kind];rfl
 have hiσ:i<σ.length:=by rw[I.len];exact(zX0 hi).1
 have cne:=I.cne;have tracked:∀{a:Addr}{h':Heap},(∃o,s.heap.get? a=some o/\H a=none)->Heap.SameBut a s.heap h'->HOk X.prog X.w H h':=fun{a h'} ha hs b ob e=>by
  obtain⟨_,_,hfree⟩:=ha;refine(I.hok b ob e).stay (fun c w' hc q=>(hs.2 c ?_).trans q) (fun _ q=>q) fun _ _ q=>q
  rintro rfl;rcases hc with rfl | hc
  . rw[hfree]at e;cases e
  . rw[hfree]at hc;cases hc
 rcases hx with hk | hk
 . refine wpAny_storeName_local hk hn (fun h' hn' hs=>?_) hcls;obtain⟨oL,_,_,hoL,_⟩:=id hn;refine h _ ⟨I.ok,I.os,I.bare,⟨fun b o e n hb hx=>?_,fun b o e n hb hx=>?_,I.base.free,fun b o e hx=>?_,I.base.tups,I.base.frzs,I.base.tbls⟩,⟨_,hn',fun j y v' e1 e2 e3=>?_⟩,fun y c e=>?_,I.free,I.freeC,fun p hp=>?_,tracked ⟨oL,hoL,I.free⟩ hs,by simpa using I.len⟩ ⟨_,hs,.inl rfl⟩
   . exact(hs.2 b (zT0 (qG0 (zN0 e) I.ok.above))).trans (I.base.keep b o e n hb hx)
   . obtain⟨sl,e1⟩:=I.base.slot b o e n hb hx;exact⟨sl,(hs.2 b (zT0 (qG0 (zN0 e) I.ok.above))).trans e1⟩
   . obtain⟨o',e1⟩:=I.base.there b o e hx;exact⟨o',(hs.2 b (zT0 (qG0 (zN0 e) I.ok.above))).trans e1⟩
   . by_cases hj:j=i
     . subst hj;rw[hi]at e1;cases e1;rw[List.getElem?_set_self hiσ]at e2;cases e2;exact⟨u,r,.inl ⟨hk,by simp⟩⟩
     . rw [List.getElem?_set_ne (Ne.symm hj)]at e2;obtain⟨u',r',q⟩:=hl j y v' e1 e2 e3;refine⟨u',r',?_⟩;rcases q with⟨k,e⟩ | ⟨k,c,e,z⟩
       . refine .inl ⟨k,?_⟩
         have:y≠x:=fun e=>hj (sV hN e1 (e▸hi))
         simp [this,e]
       . exact .inr ⟨k,c,e,z.sameBut hs (cne y c e)⟩
   . obtain⟨w',z⟩:=I.cell y c e;exact⟨w',z.sameBut hs (cne y c e)⟩
   . obtain⟨e,n,ne,nf,d⟩:=I.pin p hp;exact⟨(hs.2 p.1 ne).trans e,n,ne,nf,d⟩
 . have hfn:X.fn x=true:=by
    rcases hf with z | z
    . exact z
    . rw[z]at hk;cases hk
   obtain⟨c,hc⟩:=I.ok.has x (.inl hk);obtain⟨w',z⟩:=I.cell x c hc;refine wpAny_storeName_cell I.ok.kind hk hc z (fun h' hc' hs=>?_);obtain⟨oc,hoc,hocd⟩:=id z;refine h { s with heap:=h' } ⟨I.ok,I.os,I.bare,⟨fun b o e n hb hx=>?_,fun b o e n hb hx=>?_,I.base.free,fun b o e hx=>?_,I.base.tups,I.base.frzs,I.base.tbls⟩,⟨m,hn.sameBut hs (Ne.symm (cne x c hc)),fun j y v' e1 e2 e3=>?_⟩,fun y c' e=>?_,I.free,I.freeC,fun p hp=>?_,tracked ⟨oc,hoc,I.freeC x c hc⟩ hs,by simpa using I.len⟩ ⟨c,hs,.inr hc⟩
   . exact(hs.2 b (zT0 (qG0 (zN0 e) (I.ok.cab x c hfn hc)))).trans (I.base.keep b o e n hb hx)
   . obtain⟨sl,e1⟩:=I.base.slot b o e n hb hx;exact⟨sl,(hs.2 b (zT0 (qG0 (zN0 e) (I.ok.cab x c hfn hc)))).trans e1⟩
   . obtain⟨o',e1⟩:=I.base.there b o e hx;exact⟨o',(hs.2 b (zT0 (qG0 (zN0 e) (I.ok.cab x c hfn hc)))).trans e1⟩
   . by_cases hj:j=i
     . subst hj;rw[hi]at e1;cases e1;rw[List.getElem?_set_self hiσ]at e2;cases e2;exact⟨u,r,.inr ⟨.inl hk,c,hc,hc'⟩⟩
     . rw [List.getElem?_set_ne (Ne.symm hj)]at e2;obtain⟨u',r',q⟩:=hl j y v' e1 e2 e3;refine⟨u',r',?_⟩;rcases q with q | ⟨k,c',e,z'⟩
       . exact .inl q
       . refine .inr ⟨k,c',e,z'.sameBut hs ?_⟩;rintro rfl;exact hj (sV hN e1 (I.ok.inj _ _ _ e hc▸hi))
   . by_cases hcc:c'=c
     . subst hcc;exact⟨_,hc'⟩
     . obtain⟨w2,z2⟩:=I.cell y c' e;exact⟨w2,z2.sameBut hs hcc⟩
   . obtain⟨e,n,ne,nf,d⟩:=I.pin p hp;refine⟨(hs.2 p.1 ?_).trans e,n,ne,nf,d⟩;intro q;rw[q,hoc]at e;have q':oc=p.2:=zV0 e;exact d w' (by rw[←q'];exact hocd)
theorem mY{M:Model}{A:Around}{E:Value->Shared->Prop}{i:Nat}{x:Str}{v:V}{u:Value}{Q:Unit->Shared->Prop}(I:Inv X pins σ H s)(hN:X.N.Nodup)(hi:X.N[i]?=some x)(hx:Loc X.env.scope x)(r:RelV v u)
 (h:∀s',Inv X pins (σ.set i (some v)) H s'->Q () s') (hf:X.fn x=true∨X.env.scope.names.lookup x=some .local:=by first | exact .inl rfl | exact .inr rfl | assumption):wpAny M A (storeName X.env x u) Q E s:=
 pT I hN hi hx r (fun s' I' _=>h s' I') hf
theorem Inv.call'{s':Shared}{ch:List Addr}(I:Inv X pins σ H s)(ho:s'.os=s.os)(u:Un (frs X.stack) ch H H' s.heap s'.heap)(hok:HOk X.prog X.w H' s'.heap)(hg:AllBare s'.gens)
 (hch:∀b∈ch,(b∈X.ex∨X.s₀.heap.objs.size<=b)/\b≠X.env.locals/\(∀x c,X.env.cells.lookup x=some c->c≠b)/\∀p∈X.pn++pins,p.1≠b):Inv X pins σ H' s':=by
 obtain⟨h',g',d',t',o'⟩:=s';have e:o'=s.os:=ho;subst e;exact I.call (g':=g') (t':=t') (d':=d') u hok hg hch
end
abbrev XK:=Value->Option Addr->Hp->Prop
abbrev St:=List (Option V)
abbrev VK:=V->Hp->Prop
abbrev TE:=St->Hp->VK->Prop
abbrev TT:=St->Hp->(Bool->Hp->Prop)->Prop
abbrev TA:=St->Hp->(List V->Hp->Prop)->Prop
structure Ends where
 nx:St->Hp->Prop
 rt:VK
 bk:St->Hp->Prop:=fun _ _=>False
 ct:St->Hp->Prop:=fun _ _=>False
abbrev TS:=Ends->St->Hp->Prop
def EP(X:Cx)(pins:List (Addr×Obj))(σ:St)(Q:VK)(u:Value)(s':Shared):Prop:=∃v H',Inv X pins σ H' s'/\RelV v u/\Q v H'
def TP(X:Cx)(pins:List (Addr×Obj))(σ:St)(Q:Bool->Hp->Prop)(b:Bool)(s':Shared):Prop:=∃H',Inv X pins σ H' s'/\Q b H'
def AP(X:Cx)(pins:List (Addr×Obj))(σ:St)(Q:List V->Hp->Prop)(us:List Value)(s':Shared):Prop:=∃vs H',Inv X pins σ H' s'/\Vals vs us/\Q vs H'
def SP(X:Cx)(pins:List (Addr×Obj))(D:Ends)(f:Flow)(s':Shared):Prop:=
 match f with
 | .next=>∃ σ' H',Inv X pins σ' H' s'/\D.nx σ' H'
 | .brk=>∃ σ' H',Inv X pins σ' H' s'/\D.bk σ' H'
 | .cont=>∃ σ' H',Inv X pins σ' H' s'/\D.ct σ' H'
 | .ret u=>∃v σ' H',Inv X pins σ' H' s'/\RelV v u/\D.rt v H'
def PE(X:Cx)(e:Expr)(t:TE):Prop:=
 ∀(pins:List (Addr×Obj))(s:Shared)(σ:St)(H:Hp)(Q:VK),Inv X pins σ H s->t σ H Q->wpAny (model X.prog X.w) X.A (eval e X.env) (EP X pins σ Q) X.xe s
def PT(X:Cx)(e:Expr)(t:TT):Prop:=
 ∀(pins:List (Addr×Obj))(s:Shared)(σ:St)(H:Hp)(Q:Bool->Hp->Prop),Inv X pins σ H s->t σ H Q->wpAny (model X.prog X.w) X.A (isTrue e X.env (eval e X.env)) (TP X pins σ Q) X.xe s
def PW(X:Cx)(e:Expr)(t:TT):Prop:=
 ∀(whole:Sem Value)(pins:List (Addr×Obj))(s:Shared)(σ:St)(H:Hp)(Q:Bool->Hp->Prop),Inv X pins σ H s->t σ H Q->wpAny (model X.prog X.w) X.A (isTrue e X.env whole) (TP X pins σ Q) X.xe s
theorem PW.pt{X:Cx}{e:Expr}{t:TT}(h:PW X e t):PT X e t:=h _
def PA(X:Cx)(es:List Expr)(t:TA):Prop:=
 ∀(pos:Pos)(pins:List (Addr×Obj))(s:Shared)(σ:St)(H:Hp)(Q:List V->Hp->Prop),Inv X pins σ H s->t σ H Q->wpAny (model X.prog X.w) X.A (spliced (backTo pos (starEach es X.env))) (AP X pins σ Q) X.xe s
def PS(X:Cx)(st:Stmt)(t:TS):Prop:=
 ∀(pins:List (Addr×Obj))(s:Shared)(σ:St)(H:Hp)(D:Ends),Inv X pins σ H s->t D σ H->wpAny (model X.prog X.w) X.A (exec st X.env) (SP X pins D) X.xe s
def PSs(X:Cx)(st:List Stmt)(t:TS):Prop:=
 ∀(pins:List (Addr×Obj))(s:Shared)(σ:St)(H:Hp)(D:Ends),Inv X pins σ H s->t D σ H->wpAny (model X.prog X.w) X.A (execs st X.env) (SP X pins D) X.xe s
theorem thn{α:Type}{t:Sem α}{Q Q':α->Shared->Prop}{M:Model}{A:Around}{E:Value->Shared->Prop}{s:Shared}(h:wpAny M A t Q E s)(hQ:∀a s,Q a s->Q' a s):wpAny M A t Q' E s:=wpAny_mono h hQ fun _ _ x=>x
section
variable {X:Cx}
inductive tVar(i:Nat)(σ:St)(H:Hp)(Q:VK):Prop where
 | mk:∀v,(σ[i]?=some (some v))->(Q v H)->tVar i σ H Q
def tC(v:V):TE:=fun _ H Q=>Q v H
theorem DD {i:Nat} {x:Str} {pos:Pos} (hN:X.N[i]?=some x) (hv:Vis X.env.scope x) (hd:(x==("__debug__":Str))=false:=by decide) (hcd:(x==("__classdict__":Str))=false:=by decide):PE X (.Name x pos) (tVar i):=by
 intro pins s σ H Q I h;obtain⟨v,e,h⟩:=h;obtain⟨m,hn,hl⟩:=I.loc;obtain⟨u,r,l⟩:=hl i x v hN e hv;have fin:EP X pins σ Q u s:=⟨v,H,I,r,h⟩
 rcases l with⟨hk,hm⟩ | ⟨hk,c,hc,hcell⟩
 . exact wpAny_Name (wpAny_loadName_local I.ok.kind hk hn hm fin) hd
 . rcases hk with hk | hk
   . exact wpAny_Name (wpAny_loadName_cell I.ok.kind hk hc hcell fin) hd
   . exact wpAny_Name (wpAny_loadName_free I.ok.kind hk hc hcell fin hcd) hd
theorem ac{i j pos}:PE X (.Constant (.int i) j pos) (tC (.int i)):=fun _ _ _ H _ I h=>wpAny_Constant_int ⟨.int i,H,I.tok _,⟨_,rfl⟩,h⟩
theorem dZ{b j pos}:PE X (.Constant (.bool b) j pos) (tC (.bl b)):=fun _ _ _ H _ I h=>Constant_bool ⟨.bl b,H,I,rfl,h⟩
theorem zP{j pos}:PE X (.Constant .none j pos) (tC .non):=fun _ _ _ H _ I h=>Constant_none ⟨.non,H,I,rfl,h⟩
theorem ax{x j pos}:PE X (.Constant (.str x) j pos) (tC (.str x)):=fun _ _ _ H _ I h=>Calls.Constant_str ⟨.str x,H,I.tok _,⟨_,rfl⟩,h⟩
def Gl(X:Cx)(x:Str):Prop:=X.env.kindOf x=some .globalImplicit
theorem my{E:Value->Shared->Prop}{pins:List (Addr×Obj)}{s:Shared}{σ:St}{H:Hp}{x:Str}{u:Value}{pos:Pos}{Q:Value->Shared->Prop}(I:Inv X pins σ H s)(hg:Gl X x)(hm:X.mg x=some u)(h:Q u s)
 (hd:(x==("__debug__":Str))=false:=by decide):wpAny (model X.prog X.w) X.A (eval (.Name x pos) X.env) Q E s:=
 Calls.Name_function_global I.ok.kind hg (Calls.loadGlobal_global (by rw[I.ok.glob];exact I.mod.glob.keeps I.bk) hm h) hd
theorem eT{E:Value->Shared->Prop}{pins:List (Addr×Obj)}{s:Shared}{σ:St}{H:Hp}{x:Str}{u:Value}{pos:Pos}{Q:Value->Shared->Prop}(I:Inv X pins σ H s)(hg:Gl X x)(hm:X.mg x=none)(hv:bootBuiltins x=some u)(h:Q u s)
 (hn:x≠"__name__":=by decide) (hd:(x==("__debug__":Str))=false:=by decide):wpAny (model X.prog X.w) X.A (eval (.Name x pos) X.env) Q E s:=by
 obtain⟨mb,h1,h2⟩:=I.mod.blt;exact Calls.Name_function_global I.ok.kind hg (Calls.loadGlobal_builtin (by rw[I.ok.glob];exact I.mod.glob.keeps I.bk) hm (by rw[I.ok.blt];exact h1.keeps I.bk) ((h2 x hn).trans hv) h) hd
theorem cq {x:Str} {v:V} {u:Value} {pos:Pos} (hg:Gl X x) (hm:X.mg x=some u) (r:RelV v u) (hd:(x==("__debug__":Str))=false:=by decide):PE X (.Name x pos) (tC v):=
 fun _ _ _ H _ I h=>my I hg hm ⟨v,H,I,r,h⟩ hd
theorem ji {x:Str} {v:V} {u:Value} {pos:Pos} (hg:Gl X x) (hm:X.mg x=none) (hv:bootBuiltins x=some u) (r:RelV v u) (hn:x≠"__name__":=by decide) (hd:(x==("__debug__":Str))=false:=by decide):PE X (.Name x pos) (tC v):=
 fun _ _ _ H _ I h=>eT I hg hm hv ⟨v,H,I,r,h⟩ hn hd
variable {a b:Expr} {ta tb:TE} {pos:Pos}
inductive ZtB(Q:(Bool->Hp->Prop))(x:V)(H1:Hp):Prop where
 | mk:∀c,(x=.bl c)->(Q c H1)->ZtB Q x H1
def tB(t:TE):TT:=fun σ H Q=>t σ H fun x H1=>ZtB Q x H1
theorem cv{e:Expr}{t:TE}(h:PE X e t)(he:∀whole,isTrue e X.env whole=(do let v ←whole;standAt e.pos;holding [v] (truthy v)):=by intro _;rfl):PT X e (tB t):=by
 intro pins s σ H Q I hw;refine isTrue_plain (thn (h pins s σ H _ I hw) fun v s1 ⟨x,H1,I1,r1,q1⟩=>?_) (he _);obtain⟨d,rfl,q⟩:=q1;cases r1;exact wpAny_truthy_bool ⟨H1,I1,q⟩
variable {tA tB':TT} {rest:List Expr}
def tAnd(t u:TT):TT:=fun σ H Q=>t σ H fun c H1=>if c=true then u σ H1 Q else Q false H1
def tOr(t u:TT):TT:=fun σ H Q=>t σ H fun c H1=>if c=true then Q true H1 else u σ H1 Q
def tNot(t:TT):TT:=fun σ H Q=>t σ H fun c H1=>Q (!c) H1
theorem mq(ha:PT X a tA):PW X (.BoolOp .And [a] pos) tA:=by
 intro wh pins s σ H Q I h;refine isTrue_and (thn (ha pins s σ H Q I h) fun c s1 e=>?_);cases c with
 | true=>exact isTrue_and_nil e
 | false=>exact e
theorem de(ha:PT X a tA):PW X (.BoolOp .Or [a] pos) tA:=by
 intro wh pins s σ H Q I h;refine isTrue_or (thn (ha pins s σ H Q I h) fun c s1 e=>?_);cases c with
 | false=>exact isTrue_or_nil e
 | true=>exact e
theorem oa(ha:PT X a tA)(hb:PW X (.BoolOp .And (b::rest) pos) tB'):PW X (.BoolOp .And (a::b::rest) pos) (tAnd tA tB'):=by
 intro wh pins s σ H Q I h;refine isTrue_and (thn (ha pins s σ H _ I h) fun c s1 ⟨H1,I1,q1⟩=>?_);cases c with
 | true=>exact hb wh pins s1 σ H1 Q I1 q1
 | false=>exact⟨H1,I1,q1⟩
theorem cV(ha:PT X a tA)(hb:PW X (.BoolOp .Or (b::rest) pos) tB'):PW X (.BoolOp .Or (a::b::rest) pos) (tOr tA tB'):=by
 intro wh pins s σ H Q I h;refine isTrue_or (thn (ha pins s σ H _ I h) fun c s1 ⟨H1,I1,q1⟩=>?_);cases c with
 | true=>exact⟨H1,I1,q1⟩
 | false=>exact hb wh pins s1 σ H1 Q I1 q1
theorem dq(ha:PT X a tA):PT X (.UnaryOp .Not a pos) (tNot tA):=by
 intro pins s σ H Q I h;exact isTrue_not (ha pins s σ H (fun c H1=>Q (!c) H1) I h)
inductive ZtAndV(tb:TE)(σ:St)(Q:VK)(x:V)(H1:Hp):Prop where
 | mk:∀c,(x=.bl c)->(if c=true then tb σ H1 Q else Q (.bl false) H1)->ZtAndV tb σ Q x H1
def tAndV(ta tb:TE):TE:=fun σ H Q=>ta σ H fun x H1=>ZtAndV tb σ Q x H1
inductive ZtOrV(tb:TE)(σ:St)(Q:VK)(x:V)(H1:Hp):Prop where
 | mk:∀c,(x=.bl c)->(if c=true then Q (.bl true) H1 else tb σ H1 Q)->ZtOrV tb σ Q x H1
def tOrV(ta tb:TE):TE:=fun σ H Q=>ta σ H fun x H1=>ZtOrV tb σ Q x H1
inductive ZtNotV(Q:VK)(x:V)(H1:Hp):Prop where
 | mk:∀c,(x=.bl c)->(Q (.bl (!c)) H1)->ZtNotV Q x H1
def tNotV(ta:TE):TE:=fun σ H Q=>ta σ H fun x H1=>ZtNotV Q x H1
theorem ow{op}{t:TE}(h:PE X a t):PE X (.BoolOp op [a] pos) t:=fun pins s σ H Q I hw=>BoolOp_one (h pins s σ H Q I hw)
theorem ox(ha:PE X a ta)(hb:PE X (.BoolOp .And (b::rest) pos) tb):PE X (.BoolOp .And (a::b::rest) pos) (tAndV ta tb):=by
 intro pins s σ H Q I h;refine BoolOp_and (thn (ha pins s σ H _ I h) fun v s1 ⟨x,H1,I1,r1,q1⟩=>?_);obtain⟨c,rfl,q1⟩:=q1;cases r1;refine wpAny_truthy_bool ?_;cases c with
 | true=>exact hb pins s1 σ H1 Q I1 q1
 | false=>exact⟨.bl false,H1,I1,rfl,q1⟩
theorem pe_or(ha:PE X a ta)(hb:PE X (.BoolOp .Or (b::rest) pos) tb):PE X (.BoolOp .Or (a::b::rest) pos) (tOrV ta tb):=by
 intro pins s σ H Q I h;refine BoolOp_or (thn (ha pins s σ H _ I h) fun v s1 ⟨x,H1,I1,r1,q1⟩=>?_);obtain⟨c,rfl,q1⟩:=q1;cases r1;refine wpAny_truthy_bool ?_;cases c with
 | false=>exact hb pins s1 σ H1 Q I1 q1
 | true=>exact⟨.bl true,H1,I1,rfl,q1⟩
theorem qW(ha:PE X a ta):PE X (.UnaryOp .Not a pos) (tNotV ta):=by
 intro pins s σ H Q I h;refine UnaryOp_ (thn (ha pins s σ H _ I h) fun v s1 ⟨x,H1,I1,r1,q1⟩=>?_);obtain⟨c,rfl,q1⟩:=q1;cases r1;exact not_of (wpAny_truthy_bool ⟨.bl (!c),H1,I1,rfl,q1⟩)
def tIf(t:TT)(ta tb:TE):TE:=fun σ H Q=>t σ H fun c H1=>if c=true then ta σ H1 Q else tb σ H1 Q
theorem ko{c:Expr}(hc:PT X c tA)(ha:PE X a ta)(hb:PE X b tb):PE X (.IfExp c a b pos) (tIf tA ta tb):=by
 intro pins s σ H Q I h;refine wpAny_IfExp (thn (hc pins s σ H _ I h) fun d s1 ⟨H1,I1,q1⟩=>?_);cases d with
 | true=>exact ha pins s1 σ H1 Q I1 q1
 | false=>exact hb pins s1 σ H1 Q I1 q1
end
def SqL(K:W.Frag)(H:Hp)(a:Addr)(xs:List V):Prop:=
 Rd H a (.lst xs)∨
  ∃(o:Obj) (its:Array Value) (n:Nat),K.lookup a=some o/\o.cls=.type "list"/\o.dict=none/\o.data=.seq its n/\its.size<=sizeLine/\Vals xs its.toList
def SqT(K:W.Frag)(H:Hp)(a:Addr)(xs:List V):Prop:=
 Rd H a (.tup xs)∨
  ∃(o:Obj) (its:Array Value) (n:Nat),K.lookup a=some o/\o.cls=.type "tuple"/\o.data=.seq its n/\its.size<=sizeLine/\Vals xs its.toList
def absV:Value->Option V
 | .none=>some .non
 | .bool b=>some (.bl b)
 | .int i _=>some (.int i)
 | .str x _=>some (.str x)
 | .bytes b _=>some (.byt b)
 | .float b _=>some (.flt b)
 | .ref a=>some (.ref a)
 | .type n=>some (.ty n)
 | _=>none
theorem RelV.abs{x:V}{u:Value}(r:RelV x u):absV u=some x:=by
 cases x with
 | non=>cases r;rfl
 | bl _=>cases r;rfl
 | int _=>obtain⟨t,rfl⟩:=r;rfl
 | str _=>obtain⟨t,rfl⟩:=r;rfl
 | byt _=>obtain⟨t,rfl⟩:=r;rfl
 | flt _=>obtain⟨t,rfl⟩:=r;rfl
 | ref _=>cases r;rfl
 | ty _=>cases r;rfl
theorem RelV.inj{x y:V}{u:Value}(r:RelV x u)(q:RelV y u):x=y:=zV0 (r.abs.symm.trans q.abs)
theorem Vals.inj:∀{xs ys:List V}{us:List Value},Vals xs us->Vals ys us->xs=ys
 | _,_,_,.nil,.nil=>rfl
 | _,_,_,.cons r t,.cons r' t'=>by rw[r.inj r',Vals.inj t t']
section
variable {X:Cx} {pins:List (Addr×Obj)} {σ:St} {H:Hp} {s:Shared} {a:Addr} {xs ys:List V}
theorem zG0{K:W.Frag}(h:H a=some (.lst xs)):SqL K H a xs:=.inl (.inl h)
abbrev SqL.of:=@zG0
theorem zD0{K:W.Frag}(h:H a=some (.tup xs)):SqT K H a xs:=.inl (.inl h)
abbrev SqT.of:=@zD0
theorem Inv.list(I:Inv X pins σ H s)(h:SqL X.K H a xs):∃its:List Value,Vals xs its/\PlainL s.heap a its.toArray/\xs.length<=sizeLine:=by
 rcases h with h | ⟨o,its,n,hk,hc,hd,hs,hz,r⟩
 . obtain⟨z,its,n,r,e⟩:=h.ok I.hok;exact⟨its,r,⟨_,n,e,rfl,rfl,rfl⟩,z⟩
 . refine⟨its.toList,r,⟨o,n,I.kIn a o hk,hc,hd,by simpa using hs⟩,?_⟩;have e:=r.length;simp only[Array.length_toList]at e;omega
theorem Inv.tuple(I:Inv X pins σ H s)(h:SqT X.K H a xs):∃its:List Value,Vals xs its/\IsTup s.heap a its.toArray/\xs.length<=sizeLine:=by
 rcases h with h | ⟨o,its,n,hk,hc,hs,hz,r⟩
 . obtain⟨z,its,r,p,_⟩:=h.ok I.hok;exact⟨its,r,p,z⟩
 . refine⟨its.toList,r,⟨o,I.kIn a o hk,hc,n,by simpa using hs⟩,?_⟩;have e:=r.length;simp only[Array.length_toList]at e;omega
theorem Inv.list_inj(I:Inv X pins σ H s)(h:SqL X.K H a xs)(h':SqL X.K H a ys):xs=ys:=by
 obtain⟨its,r,⟨o,n,e,_,_,d⟩,_⟩:=I.list h;obtain⟨its',r',⟨o',n',e',_,_,d'⟩,_⟩:=I.list h';rw[e]at e';cases e';rw[d]at d';injection d' with d1 _
 have:its=its':=by simpa using congrArg Array.toList d1
 subst this;exact r.inj r'
theorem Inv.tuple_inj(I:Inv X pins σ H s)(h:SqT X.K H a xs)(h':SqT X.K H a ys):xs=ys:=by
 obtain⟨its,r,⟨o,e,_,n,d⟩,_⟩:=I.tuple h;obtain⟨its',r',⟨o',e',_,n',d'⟩,_⟩:=I.tuple h';rw[e]at e';cases e';rw[d]at d';injection d' with d1 _
 have:its=its':=by simpa using congrArg Array.toList d1
 subst this;exact r.inj r'
end
abbrev Cx.wish(X:Cx)(E:Value->Shared->Prop):Cx:={ X with xe:=E }
abbrev Cx.nox(X:Cx):Cx:=X.wish fun _ _=>False
theorem Cx.Ok.wish{X:Cx}(ok:X.Ok)(E:Value->Shared->Prop):(X.wish E).Ok:=
 ⟨ok.mod,ok.kind,ok.glob,ok.blt,ok.above,ok.inj,ok.has,ok.cab,ok.hd,ok.frames,ok.stk,ok.exf,ok.bs,ok.bsz,ok.noex,ok.exfs,ok.funs,ok.frf⟩
theorem Cx.Ok.unwish{X:Cx}{E:Value->Shared->Prop}(ok:(X.wish E).Ok):X.Ok:=
 ⟨ok.mod,ok.kind,ok.glob,ok.blt,ok.above,ok.inj,ok.has,ok.cab,ok.hd,ok.frames,ok.stk,ok.exf,ok.bs,ok.bsz,ok.noex,ok.exfs,ok.funs,ok.frf⟩
section
variable {X:Cx} {pins:List (Addr×Obj)} {σ:St} {H:Hp} {s:Shared} {E:Value->Shared->Prop}
theorem Inv.wish(I:Inv X pins σ H s)(E:Value->Shared->Prop):Inv (X.wish E) pins σ H s:=⟨I.ok.wish E,I.os,I.bare,I.base,I.loc,I.cell,I.free,I.freeC,I.pin,I.hok,I.len⟩
theorem Inv.unwish(I:Inv (X.wish E) pins σ H s):Inv X pins σ H s:=⟨I.ok.unwish,I.os,I.bare,I.base,I.loc,I.cell,I.free,I.freeC,I.pin,I.hok,I.len⟩
theorem SP.unwish{D:Ends}{f:Flow}{s':Shared}(h:SP (X.wish E) pins D f s'):SP X pins D f s':=by
 cases f with
 | next=>obtain⟨σ',H',I,q⟩:=h;exact⟨σ',H',I.unwish,q⟩
 | brk=>obtain⟨σ',H',I,q⟩:=h;exact⟨σ',H',I.unwish,q⟩
 | cont=>obtain⟨σ',H',I,q⟩:=h;exact⟨σ',H',I.unwish,q⟩
 | ret u=>obtain⟨v,σ',H',I,r,q⟩:=h;exact⟨v,σ',H',I.unwish,r,q⟩
theorem PSs.nox{st:List Stmt}{t:TS}(h:PSs X.nox st t):PSs X st t:=fun pins s σ H D I hw=>
 wpAny_mono (h pins s σ H D (I.wish _) hw) (fun _ _ q=>q.unwish) fun _ _ z=>False.elim z
end
section
variable {X:Cx} {st:Stmt} {rest:List Stmt} {t u:TS} {e:Expr} {te:TE} {pos:Pos}
def CF:TS:=fun D σ H=>D.nx σ H
def xm(t u:TS):TS:=fun D σ H=>t { D with nx:=u D } σ H
theorem aq:PSs X [] CF:=fun _ _ σ H _ I h=>wpAny_execs_nil ⟨σ,H,I,h⟩
theorem aa(h1:PS X st t)(h2:PSs X rest u):PSs X (st::rest) (xm t u):=by
 intro pins s σ H D I h;refine wpAny_execs_cons (thn (h1 pins s σ H { D with nx:=u D } I h) fun f s1 q=>?_);cases f with
 | next=>
   obtain⟨σ',H',I',q⟩:=q;exact h2 pins s1 σ' H' D I' q
 | ret v=>exact q
 | brk=>exact q
 | cont=>exact q
theorem ad(h1:PS X st t):PSs X [st] t:=by
 intro pins s σ H D I h;refine wpAny_execs_cons (thn (h1 pins s σ H D I h) fun f s1 q=>?_);cases f with
 | next=>exact wpAny_execs_nil q
 | ret v=>exact q
 | brk=>exact q
 | cont=>exact q
theorem Inv.quiet{pins:List (Addr×Obj)}{σ:St}{H:Hp}{s:Shared}(I:Inv X pins σ H s):interactive X.env=false:=by simp [interactive,I.ok.kind]
def tDrop(te:TE):TS:=fun D σ H=>te σ H fun _ H1=>D.nx σ H1
theorem bc(he:PE X e te)(hs:swapsWith e none pos.line X.env=pure false:=by rfl):PS X (.Expr e pos) (tDrop te):=by
 intro pins s σ H D I h;exact wpAny_Expr_any (thn (he pins s σ H _ I h) fun v s1 ⟨x,H1,I1,r1,q1⟩=>⟨σ,H1,I1,q1⟩) I.quiet hs
def tRet(te:TE):TS:=fun D σ H=>te σ H D.rt
theorem am(he:PE X e te):PS X (.Return (some e) pos) (tRet te):=by
 intro pins s σ H D I h;exact wpAny_Return_some (thn (he pins s σ H _ I h) fun v s1 ⟨x,H1,I1,r1,q1⟩=>⟨x,σ,H1,I1,r1,q1⟩)
def Do(c:TT)(t u:TS):TS:=fun D σ H=>c σ H fun b H1=>if b=true then t D σ H1 else u D σ H1
theorem aB{c:Expr}{a b:List Stmt}{tc:TT}(hc:PT X c tc)(ha:PSs X a t)(hb:PSs X b u):PS X (.If c a b pos) (Do tc t u):=by
 intro pins s σ H D I h;refine wpAny_If (thn (hc pins s σ H _ I h) fun d s1 ⟨H1,I1,q1⟩=>?_);cases d with
 | true=>exact ha pins s1 σ H1 D I1 q1
 | false=>exact hb pins s1 σ H1 D I1 q1
def Dl:TS:=fun _ _ _=>False
theorem bX{sts:List Stmt}:PSs X sts Dl:=fun _ _ _ _ _ _ h=>h.elim
end
abbrev TG:=V->St->Hp->(St->Hp->Prop)->Prop
abbrev TGs:=List V->St->Hp->(St->Hp->Prop)->Prop
def PG(X:Cx)(target:Expr)(t:TG):Prop:=
 ∀(pins:List (Addr×Obj))(s:Shared)(σ:St)(H:Hp)(v:V)(u:Value)(Q:St->Hp->Prop),Inv X pins σ H s->RelV v u->t v σ H Q ->
  wpAny (model X.prog X.w) X.A (assign target X.env u) (fun _ s'=>∃ σ' H',Inv X pins σ' H' s'/\Q σ' H') X.xe s
def PGs(X:Cx)(ts:List Expr)(t:TGs):Prop:=
 ∀(pins:List (Addr×Obj))(s:Shared)(σ:St)(H:Hp)(vs:List V)(us:List Value)(Q:St->Hp->Prop),Inv X pins σ H s->Vals vs us->t vs σ H Q ->
  wpAny (model X.prog X.w) X.A (assignInOrder ((assignEach ts X.env).map (·.2)) us) (fun _ s'=>∃ σ' H',Inv X pins σ' H' s'/\Q σ' H') X.xe s
abbrev EA:=V->V->V->Hp->(Hp->Prop)->Prop
def PSet(X:Cx)(t:EA):Prop:=
 ∀(pins:List (Addr×Obj))(s:Shared)(σ:St)(H:Hp)(o i v:V)(ov iv u:Value)(Q:Hp->Prop),Inv X pins σ H s->RelV o ov->RelV i iv->RelV v u->t o i v H Q ->
  wpAny (model X.prog X.w) X.A (setItem ov iv u) (fun _ s'=>∃H',Inv X pins σ H' s'/\Q H') X.xe s
section
variable {X:Cx} {pos:Pos}
def tK(i:Nat):TG:=fun v σ H Q=>Q (σ.set i (some v)) H
theorem bi{i:Nat}{x:Str}(hN:X.N.Nodup)(hi:X.N[i]?=some x)(hx:Loc X.env.scope x)(hf:X.fn x=true∨X.env.scope.names.lookup x=some .local:=by first | exact .inl rfl | exact .inr rfl | assumption):PG X (.Name x pos) (tK i):=by
 intro pins s σ H v u Q I r h;exact wpAny_assign_Name (mY I hN hi hx r (fun s' I'=>⟨_,H,I',h⟩) hf)
inductive gNil(vs:List V)(σ:St)(H:Hp)(Q:(St->Hp->Prop)):Prop where
 | mk:(vs=[])->(Q σ H)->gNil vs σ H Q
inductive gCons(t:TG)(u:TGs)(vs:List V)(σ:St)(H:Hp)(Q:(St->Hp->Prop)):Prop where
 | mk:∀v r,(vs=v::r)->(t v σ H fun σ' H'=>u r σ' H' Q)->gCons t u vs σ H Q
theorem qV:PGs X [] gNil:=by
 intro pins s σ H vs us Q I r h;obtain⟨e,h⟩:=h;subst e;cases r;exact assignInOrder_nil ⟨σ,H,I,h⟩
theorem fJ{e:Expr}{es:List Expr}{t:TG}{u:TGs}(h1:PG X e t)(h2:PGs X es u)
 (hs:(assignEach (e::es) X.env).map (·.2)=assign e X.env::(assignEach es X.env).map (·.2):=by rfl):PGs X (e::es) (gCons t u):=by
 intro pins s σ H vs us Q I r h;obtain⟨v,vr,e1,h⟩:=h;subst e1;cases r with
 | cons r rr=>
   rw[hs];refine assignInOrder_cons (thn (h1 pins s σ H _ _ _ I r h) fun _ s1 ⟨σ1,H1,I1,q1⟩=>?_);exact h2 pins s1 σ1 H1 _ _ Q I1 rr q1
inductive gTup(K:W.Frag)(n:Nat)(t:TGs)(v:V)(σ:St)(H:Hp)(Q:(St->Hp->Prop)):Prop where
 | mk:∀a xs,(v=.ref a)->(SqT K H a xs)->(xs.length=n)->(t xs σ H Q)->gTup K n t v σ H Q
theorem va{es:List Expr}{k:Nat}{t:TGs}{n:Nat}(hc:X.calm=true)(h:PGs X es t)
 (hn:(assignEach es X.env).length=n:=by rfl) (hst:(assignEach es X.env).findIdx? (·.1)=none:=by rfl):PG X (.Tuple es k pos) (gTup X.K n t):=by
 intro pins s σ H v u Q I r hw;obtain⟨a,xs,e1,hq,hl,hw⟩:=hw;subst e1;cases r;obtain⟨its,rv,ht,hz⟩:=I.tuple hq;refine assign_Tuple_tuple (I.ok.hd hc) ht (by simp [hn,←hl,rv.length]) hst fun h' hx=>?_
 have I1:Inv X pins σ H { s with heap:=h' }:=I.kept (t':=s.toks) fun b o e=>hx b o (zT0 (zN0 e)) e
 exact h pins _ σ H xs _ Q I1 (by simpa using rv) hw
def gSub(to ti:TE)(t:EA):TG:=fun v σ H Q=>to σ H fun o H1=>ti σ H1 fun i H2=>t o i v H2 fun H3=>Q σ H3
theorem vb{o i:Expr}{to ti:TE}{t:EA}(ho:PE X o to)(hi:PE X i ti)(hs:PSet X t)
 (ha:∀v,assign (.Subscript o i pos) X.env v=(do
  let ov ←holding [v] (eval o X.env)
  let iv ←holding [v,ov] (eval i X.env)
  standAt pos
  holding [v,ov,iv] (setItem ov iv v)
  release [v,ov,iv] []):=by intro _;rfl):PG X (.Subscript o i pos) (gSub to ti t):=by
 intro pins s σ H v u Q I r h;rw[ha];refine zA0 (wpAny_holding (thn (ho pins s σ H _ I h) fun ov s1 ⟨x,H1,I1,r1,q1⟩=>?_));refine zA0 (wpAny_holding (thn (hi pins s1 σ H1 _ I1 q1) fun iv s2 ⟨y,H2,I2,r2,q2⟩=>?_));refine zA0 (wpAny_standAt (zA0 (wpAny_holding (thn (hs pins s2 σ H2 x y v ov iv u _ I2 r1 r2 r q2) fun _ s3 ⟨H3,I3,q3⟩=>?_))));exact wpAny_release ⟨σ,H3,I3,q3⟩
def yU(te:TE)(g:TG):TS:=fun D σ H=>te σ H fun x H1=>g x σ H1 D.nx
theorem qT{tg e:Expr}{te:TE}{g:TG}(he:PE X e te)(hg:PG X tg g)(hs:swapsWithSole [tg] e pos.line X.env=pure false:=by rfl)(hw:swappedStores [tg] e X.env=pure none:=by rfl)
 (h1:(assignEach [tg] X.env).map (·.2)=[assign tg X.env]:=by rfl):PS X (.Assign [tg] e pos) (yU te g):=by
 intro pins s σ H D I h;refine wpAny_Assign_stores (thn (he pins s σ H _ I h) fun v s1 ⟨x,H1,I1,r1,q1⟩=>?_) hs hw;rw[h1];exact thn (hg pins s1 σ H1 x v _ I1 r1 q1) fun _ s2 q=>q
theorem aj{i:Nat}{x:Str}{e:Expr}{te:TE}{pos':Pos}(hN:X.N.Nodup)(hi:X.N[i]?=some x)(hx:Loc X.env.scope x)(he:PE X e te)(hs:swapsWith e (some (.Name x pos')) pos.line X.env=pure false:=by rfl)(hf:X.fn x=true∨X.env.scope.names.lookup x=some .local:=by first | exact .inl rfl | exact .inr rfl | assumption) :
 PS X (.Assign [.Name x pos'] e pos) (yU te (tK i)):=by
 intro pins s σ H D I h;refine wpAny_Assign_Name (thn (he pins s σ H _ I h) fun v s1 ⟨y,H1,I1,r1,q1⟩=>?_) hs;exact mY I1 hN hi hx r1 (fun s2 I2=>⟨_,H1,I2,q1⟩) hf
end
section
variable {X:Cx} {pos:Pos}
def yQ(c:TT)(tb:TS):TS:=fun D σ H=>∃W:Nat->St->Hp->Prop,(∃m,W m σ H)/\∀m σ H,W m σ H ->
 c σ H fun b H1=>if b=true then ∃N:St->Hp->Prop,(∀ σ' H',N σ' H'->∃m',m'<m/\W m' σ' H')/\tb { D with nx:=N,ct:=N,bk:=D.nx } σ H1 else D.nx σ H1
theorem gA{c:Expr}{body:List Stmt}{tc:TT}{tb:TS}(hp:PassesOwn (model X.prog X.w) X.A X.env X.xe)(hc:PT X c tc)(hb:PSs X body tb):PS X (.While c body [] pos) (yQ tc tb):=by
 intro pins s σ H D I h;obtain⟨W,⟨m0,w0⟩,turn⟩:=h;refine wpAny_While (codeAny_whileLoop (fun n s'=>∃ σ' H',Inv X pins σ' H' s'/\W n σ' H') ?_ m0 ⟨σ,H,I,w0⟩);rintro n s1 ⟨σ1,H1,I1,w1⟩;refine wpAny_passesOwn hp (thn (hc pins s1 σ1 H1 _ I1 (turn n σ1 H1 w1)) fun b s2 ⟨H2,I2,q2⟩=>?_);cases b with
 | true=>
   obtain⟨N,hN,q2⟩:=q2;rw[zE0 rfl];refine wpAny_passesOwn hp (thn (hb pins s2 σ1 H2 _ I2 q2) fun f s3 q3=>?_);cases f with
   | next=>
     obtain⟨σ3,H3,I3,n3⟩:=q3;obtain⟨m',hm,w3⟩:=hN σ3 H3 n3;exact⟨m',hm,σ3,H3,I3,w3⟩
   | cont=>
     obtain⟨σ3,H3,I3,n3⟩:=q3;obtain⟨m',hm,w3⟩:=hN σ3 H3 n3;exact⟨m',hm,σ3,H3,I3,w3⟩
   | brk=>exact q3
   | ret v=>exact q3
 | false=>
   rw[zB0 qC0];exact wpAny_execs_nil ⟨σ1,H2,I2,q2⟩
end
structure It where
 go:Nat->Hp->Prop
 yld:Nat->Hp->V->Hp->Prop
 stop:Nat->Hp->Prop
def kK(X:Cx)(pins:List (Addr×Obj))(H:Hp)(b:Addr):Prop:=
 H b=none/\b≠X.env.locals/\b∉X.fs/\(b∈X.ex∨X.s₀.heap.objs.size<=b)/\(∀x c,X.env.cells.lookup x=some c->c≠b)/\∀p∈X.pn++pins,p.1≠b
theorem Inv.fpOk{X:Cx}{pins:List (Addr×Obj)}{σ:St}{H H':Hp}{s:Shared}{b:Addr}(I:Inv X pins σ H s)(hb:s.heap.objs.size<=b)(hn:H' b=none):kK X pins H' b:=by
 refine⟨hn,qO0 (qG0 I.lt hb),I.nofs hb,.inr (zO0 I.sz hb),fun x c e z=>?_,fun p hp z=>?_⟩
 . obtain⟨v,q⟩:=I.cell x c e;exact absurd (qG0 q.lt (by rw[z];exact hb)) (qV0 _)
 . exact absurd (qG0 (zN0 (I.pin p hp).1) (by rw[z];exact hb)) (qV0 _)
structure Turn(P:Program)(w:World)(K:W.Frag)(tg:Expr)(J:It)(fp:List Addr)(it:Addr)(tn:Nat->Heap->Prop):Prop where
 mem:it∈fp
 obj:∀i h,tn i h->∀b∈fp,∃o,h.get? b=some o/\∀v,o.data≠.cell v
 keep:∀i h h',tn i h->(∀b∈fp,∀o,h.get? b=some o->h'.get? b=some o)->tn i h'
 item:∀(X:Cx),X.prog=P->X.w=w->X.K=K->X.calm=true->∀(i:Nat)(pins:List (Addr×Obj))(s:Shared)(σ:St)(H:Hp)(E:Value->Shared->Prop),Inv X pins σ H s->(∀b∈fp,kK X pins H b)->tn i s.heap->J.go i H ->
  wpAny (model P w) X.A (pyNext (.ref it)) (fun r s1=>∃u,r=some u/\
   wpAny (model P w) X.A (letOwnedTupleGo tg (.ref it) u) (fun _ s2=>∃x H',Inv X pins σ H' s2/\RelV x u/\J.yld i H x H'/\tn (i+1) s2.heap/\∀b∈fp,H' b=none) E s1) E s
 done:∀(X:Cx),X.prog=P->X.w=w->X.K=K->X.calm=true->∀(i:Nat)(pins:List (Addr×Obj))(s:Shared)(σ:St)(H:Hp)(E:Value->Shared->Prop),Inv X pins σ H s->(∀b∈fp,kK X pins H b)->tn i s.heap->J.stop i H ->
  wpAny (model P w) X.A (pyNext (.ref it)) (fun r s1=>r=none/\Inv X pins σ H s1) E s
 self:∀(A:Around)(i:Nat)(s:Shared)(Q:Value->Shared->Prop)(E:Value->Shared->Prop),tn i s.heap->Q (.ref it) s->wpAny (model P w) A (pyIter (.ref it)) Q E s
abbrev TI:=St->Hp->(It->Hp->Prop)->Prop
def PIE(X:Cx)(pins:List (Addr×Obj))(σ:St)(tg:Expr)(R:It->Hp->Prop)(itv:Value)(s2:Shared):Prop:=
 ∃(it:Addr)(fp:List Addr)(tn:Nat->Heap->Prop)(J:It)(H':Hp),itv=.ref it/\Inv X pins σ H' s2/\Turn X.prog X.w X.K tg J fp it tn/\tn 0 s2.heap/\(∀b∈fp,kK X pins H' b)/\R J H'
def PI(X:Cx)(tg iter:Expr)(wi:TI):Prop:=
 ∀(pins:List (Addr×Obj))(s:Shared)(σ:St)(H:Hp)(R:It->Hp->Prop),Inv X pins σ H s->wi σ H R ->
  wpAny (model X.prog X.w) X.A (eval iter X.env) (fun v s1=>wpAny (model X.prog X.w) X.A (pyIter v) (PIE X pins σ tg R) X.xe s1) X.xe s
theorem tI{M:Model}{A:Around}{E:Value->Shared->Prop}{s:Shared}{tg:Expr}{it:Addr}{u:Value}{o:Obj}{n:String}{vs:Array Value}{Q:Unit->Shared->Prop}(ho:s.heap.get? it=some o)(hc:o.cls=.type n)(hd:o.data=.fields vs)
 (hn:["enumerate","zip","dict_itemiterator","dict_reverseitemiterator","odict_iterator","itertools.zip_longest","itertools.pairwise"].contains n=false) (hQ:Q () s):wpAny M A (letOwnedTupleGo tg (.ref it) u) Q E s:=by
 unfold letOwnedTupleGo;cases tg <;> first
  | exact zI0 hQ
  | (cases u <;> first
   | exact zI0 hQ
   | (refine zA0 (wpAny_load ho ?_)
      rw[hc,hd];show wpAny M A (if(["enumerate","zip","dict_itemiterator","dict_reverseitemiterator","odict_iterator","itertools.zip_longest","itertools.pairwise"].contains n&&vs[0]?==some (rawInt _))=true then _ else _) Q E s;rw[zB0 (by intro h;rw[hn,Bool.false_and]at h;cases h)];exact zI0 hQ))
def Itl(K:W.Frag)(a:Addr):It:=
 ⟨fun i H=>∃xs x,SqL K H a xs/\xs[i]?=some x,fun i H x H'=>H'=H/\∀xs,SqL K H a xs->xs[i]?=some x,fun i H=>∃xs,SqL K H a xs/\xs.length<=i⟩
def Itt(K:W.Frag)(a:Addr):It:=
 ⟨fun i H=>∃xs x,SqT K H a xs/\xs[i]?=some x,fun i H x H'=>H'=H/\∀xs,SqT K H a xs->xs[i]?=some x,fun i H=>∃xs,SqT K H a xs/\xs.length<=i⟩
def Itr(lo:Int)(n:Nat):It:=⟨fun i _=>i<n,fun i H x H'=>H'=H/\x=.int (lo+i),fun i _=>n<=i⟩
theorem xa{P:Program}{w:World}{K:W.Frag}{tg:Expr}(a it:Addr):Turn P w K tg (Itl K a) [it] it (fun i h=>h.IsListIter it a i) where
 mem:=by simp
 obj:=fun i h st b hb=>by
  have e:b=it:=by simpa using hb
  subst e;obtain⟨o,e,c,d⟩:=st;exact⟨o,e,fun v z=>by rw[d]at z;cases z⟩
 keep:=fun i h h' st k=>st.at fun o e=>k it (by simp) o e
 item:=by
  intro X hP hw hK hc i pins s σ H E I hf st hg;subst hP hw hK;obtain⟨xs,x,hq,hx⟩:=hg;obtain⟨its,rv,p,hz⟩:=I.list hq;obtain⟨u,hu,ru⟩:=rv.get hx;obtain⟨f0,f1,f2,f3,f4,f5⟩:=hf it (by simp);refine wpAny_pyNext_list_item st p.isList (x:=u) (by simpa using hu) fun h' st' sb=>?_
  have I1:Inv X pins σ H { s with heap:=h' }:=I.turned (t':=s.toks) (fun b o hb e=>(sb.2 b hb).trans e) f0 f1 f3 f4 f5;obtain⟨o,e,c,d⟩:=id st';exact⟨u,rfl,tI (s:={ s with heap:=h' }) e c d (by decide) ⟨x,H,I1,ru,⟨rfl,fun ys hy=>by rw[I.list_inj hy hq];exact hx⟩,st',fun b hb=>(hf b hb).1⟩⟩
 done:=by
  intro X hP hw hK hc i pins s σ H E I hf st hg;subst hP hw hK;obtain⟨xs,hq,hx⟩:=hg;obtain⟨its,rv,p,hz⟩:=I.list hq;obtain⟨f0,f1,f2,f3,f4,f5⟩:=hf it (by simp);have hl:=rv.length;exact wpAny_pyNext_list_end (I.ok.hd hc) st p.isList (by simp;omega) fun h' eb=>⟨rfl,I.turned (t':=s.toks) (fun b o hb e=>eb b o hb e) f0 f1 f3 f4 f5⟩
 self:=fun _ _ _ _ _ st h=>wpAny_pyIter_listiter st h
theorem uv{P:Program}{w:World}{K:W.Frag}{tg:Expr}(a it:Addr):Turn P w K tg (Itt K a) [it] it (fun i h=>h.IsTupleIter it a i) where
 mem:=by simp
 obj:=fun i h st b hb=>by
  have e:b=it:=by simpa using hb
  subst e;obtain⟨o,e,c,d⟩:=st;exact⟨o,e,fun v z=>by rw[d]at z;cases z⟩
 keep:=fun i h h' st k=>st.at fun o e=>k it (by simp) o e
 item:=by
  intro X hP hw hK hc i pins s σ H E I hf st hg;subst hP hw hK;obtain⟨xs,x,hq,hx⟩:=hg;obtain⟨its,rv,p,hz⟩:=I.tuple hq;obtain⟨u,hu,ru⟩:=rv.get hx;obtain⟨f0,f1,f2,f3,f4,f5⟩:=hf it (by simp);refine wpAny_pyNext_tuple_item st (show s.heap.IsTuple a its.toArray from p) (x:=u) (by simpa using hu) fun h' st' sb=>?_
  have I1:Inv X pins σ H { s with heap:=h' }:=I.turned (t':=s.toks) (fun b o hb e=>(sb.2 b hb).trans e) f0 f1 f3 f4 f5;obtain⟨o,e,c,d⟩:=id st';exact⟨u,rfl,tI (s:={ s with heap:=h' }) e c d (by decide) ⟨x,H,I1,ru,⟨rfl,fun ys hy=>by rw[I.tuple_inj hy hq];exact hx⟩,st',fun b hb=>(hf b hb).1⟩⟩
 done:=by
  intro X hP hw hK hc i pins s σ H E I hf st hg;subst hP hw hK;obtain⟨xs,hq,hx⟩:=hg;obtain⟨its,rv,p,hz⟩:=I.tuple hq;obtain⟨f0,f1,f2,f3,f4,f5⟩:=hf it (by simp);have hl:=rv.length;exact wpAny_pyNext_tuple_end (I.ok.hd hc) st (show s.heap.IsTuple a its.toArray from p) (by simp;omega) fun h' eb=>⟨rfl,I.turned (t':=s.toks) (fun b o hb e=>eb b o hb e) f0 f1 f3 f4 f5⟩
 self:=fun _ _ _ _ _ st h=>wpAny_pyIter_tupleiter st h
theorem ux{P:Program}{w:World}{K:W.Frag}{tg:Expr}(it:Addr)(lo:Int)(n:Nat):Turn P w K tg (Itr lo n) [it] it (fun i h=>IsRangeIter h it (lo+(i:Nat)*1) ((n:Int)-(i:Nat)) 1) where
 mem:=by simp
 obj:=fun i h st b hb=>by
  have e:b=it:=by simpa using hb
  subst e;exact⟨_,st,fun v z=>by
   have z':Data.fields _=Data.cell v:=z;cases z'⟩
 keep:=fun i h h' st k=>k it (by simp) _ st
 item:=by
  intro X hP hw hK hc i pins s σ H E I hf st hg;subst hP hw hK;obtain⟨f0,f1,f2,f3,f4,f5⟩:=hf it (by simp);have W:=Walks.range (prog:=X.prog) (w:=X.w) (I.ok.hd hc) it lo 1 n;refine W.item i s _ _ hg st fun v h' tk hv st' kk=>?_
  obtain⟨t,rfl⟩:=hv;have I1:Inv X pins σ H { s with heap:=h',toks:=tk }:=I.turned (fun b o hb e=>kk b o (by simpa using hb) e) f0 f1 f3 f4 f5;refine⟨_,rfl,tI (s:={ s with heap:=h',toks:=tk }) (n:="range_iterator") st' rfl rfl (by decide) ⟨.int (lo+i),H,I1,⟨t,?_⟩,⟨rfl,rfl⟩,st',fun b hb=>(hf b hb).1⟩⟩;rw[Int.mul_one]
 done:=by
  intro X hP hw hK hc i pins s σ H E I hf st hg;subst hP hw hK;obtain⟨f0,f1,f2,f3,f4,f5⟩:=hf it (by simp);exact wpAny_pyNext_range_end (I.ok.hd hc) st (by have:n<=i:=hg;omega) fun h' eb=>⟨rfl,I.turned (t':=s.toks) (fun b o hb e=>eb b o hb e) f0 f1 f3 f4 f5⟩
 self:=fun _ _ _ _ _ st h=>wpAny_pyIter_rangeiter st h
section
variable {X:Cx} {tg:Expr}
inductive ZiList(K:W.Frag)(R:(It->Hp->Prop))(x:V)(H1:Hp):Prop where
 | mk:∀a,(x=.ref a)->((∃xs,SqL K H1 a xs))->(R (Itl K a) H1)->ZiList K R x H1
def iList(K:W.Frag)(tl:TE):TI:=fun σ H R=>tl σ H fun x H1=>ZiList K R x H1
inductive ZiTup(K:W.Frag)(R:(It->Hp->Prop))(x:V)(H1:Hp):Prop where
 | mk:∀a,(x=.ref a)->((∃xs,SqT K H1 a xs))->(R (Itt K a) H1)->ZiTup K R x H1
def iTup(K:W.Frag)(tl:TE):TI:=fun σ H R=>tl σ H fun x H1=>ZiTup K R x H1
theorem dG{l:Expr}{tl:TE}(hl:PE X l tl):PI X tg l (iList X.K tl):=by
 intro pins s σ H R I h;refine thn (hl pins s σ H _ I h) fun v s1 ⟨x,H1,I1,r1,q1⟩=>?_
 obtain⟨a,e,⟨xs,hq⟩,q⟩:=q1;subst e;cases r1;obtain⟨its,rv,p,hz⟩:=I1.list hq;refine wpAny_pyIter_list p.isList ?_;refine⟨s1.heap.objs.size,[s1.heap.objs.size],_,_,H1,rfl,I1.kept (t':=s1.toks) fun b o e=>zP0 _ e,xa a _,⟨_,qA0 _ rfl,rfl,rfl⟩,fun b hb=>?_,q⟩;have e:b=s1.heap.objs.size:=by simpa using hb
 subst e;exact I1.fpOk (zH0 _) (I1.hok.fresh (zH0 _))
theorem iT{l:Expr}{tl:TE}(hl:PE X l tl):PI X tg l (iTup X.K tl):=by
 intro pins s σ H R I h;refine thn (hl pins s σ H _ I h) fun v s1 ⟨x,H1,I1,r1,q1⟩=>?_
 obtain⟨a,e,⟨xs,hq⟩,q⟩:=q1;subst e;cases r1;obtain⟨its,rv,p,hz⟩:=I1.tuple hq;refine wpAny_pyIter_tuple (show s1.heap.IsTuple a its.toArray from p) ?_;refine⟨s1.heap.objs.size,[s1.heap.objs.size],_,_,H1,rfl,I1.kept (t':=s1.toks) fun b o e=>zP0 _ e,uv a _,⟨_,qA0 _ rfl,rfl,rfl⟩,fun b hb=>?_,q⟩;have e:b=s1.heap.objs.size:=by simpa using hb
 subst e;exact I1.fpOk (zH0 _) (I1.hok.fresh (zH0 _))
theorem sH{pins:List (Addr×Obj)}{σ:St}{H:Hp}{s:Shared}{R:It->Hp->Prop}{E:Value->Shared->Prop}{lo hi:Int}{t u v:Tok}{tk:Nat}(I:Inv X pins σ H s)(h1:-(2 ^ 62)<=lo)(h2:lo<2 ^ 62)(h3:-(2 ^ 62)<=hi)(h4:hi<2 ^ 62)
 (q:R (Itr lo (hi-lo).toNat) H):wpAny (model X.prog X.w) X.A (pyIter (.ref s.heap.objs.size)) (PIE X pins σ tg R) E { s with heap:=s.heap.push { cls:=.type "range",data:=.fields #[.int lo t,.int hi u,.int 1 v] },toks:=tk }:=by
 refine wpAny_pyIter_range (IsRange.new ..) (small_one h1 h2 h3 h4) ?_;have I1:Inv X pins σ H { s with heap:=s.heap.push { cls:=.type "range",data:=.fields #[.int lo t,.int hi u,.int 1 v] },toks:=tk }:=I.kept fun b o e=>zP0 _ e
 refine ⟨(s.heap.push { cls:=.type "range",data:=.fields #[.int lo t,.int hi u,.int 1 v] }).objs.size,[(s.heap.push { cls:=.type "range",data:=.fields #[.int lo t,.int hi u,.int 1 v] }).objs.size],_,_,H,rfl,
  I1.kept (t':=tk) fun b o e=>zP0 _ e,ux _ lo (hi-lo).toNat,?_,fun b hb=>?_,q⟩
 . have e1:lo+((0:Nat):Int)*1=lo:=by simp
   have e2:(((hi-lo).toNat:Nat):Int)-((0:Nat):Int)=Builtin.Range.rangeSize lo hi 1:=by rw[rangeSize_one];split <;> omega
   show IsRangeIter _ _ (lo+((0:Nat):Int)*1) ((((hi-lo).toNat:Nat):Int)-((0:Nat):Int)) 1;rw[e1,e2];exact qA0 _ rfl
 . have e:b=(s.heap.push { cls:=.type "range",data:=.fields #[.int lo t,.int hi u,.int 1 v] }).objs.size:=by simpa using hb
   subst e;exact I1.fpOk (zH0 _) (I1.hok.fresh (zH0 _))
inductive ZiRng1(R:(It->Hp->Prop))(vs:(List V))(H1:Hp):Prop where
 | mk:∀j:Int,(vs=[.int j])->(-(2 ^ 62)<=j)->(j<2 ^ 62)->(R (Itr 0 j.toNat) H1)->ZiRng1 R vs H1
def iRng1(ta:TA):TI:=fun σ H R=>ta σ H fun vs H1=>ZiRng1 R vs H1
inductive ZiRng2(R:(It->Hp->Prop))(vs:(List V))(H1:Hp):Prop where
 | mk:∀i j:Int,(vs=[.int i,.int j])->((-(2 ^ 62)<=i/\i<2 ^ 62/\-(2 ^ 62)<=j/\j<2 ^ 62))->(R (Itr i (j-i).toNat) H1)->ZiRng2 R vs H1
def iRng2(ta:TA):TI:=fun σ H R=>ta σ H fun vs H1=>ZiRng2 R vs H1
theorem cx {a:Expr} {ta:TA} {p pos:Pos} (hg:Gl X "range") (hm:X.mg "range"=none) (ha:PA X [a] ta) (hs:starEach [a] X.env=[(false,eval a X.env)]:=by rfl):PI X tg (.Call (.Name "range" p) [a] [] pos) (iRng1 ta):=by
 intro pins s σ H R I h;refine Call_ (eT I hg hm boot_range (PyProof.Rows.callWith_type1 (thn (ha pos pins s σ H _ I h) fun us s1 ⟨vs,H1,I1,r1,q1⟩=>?_) hs rfl));obtain⟨j,e,q1,q2,q⟩:=q1;subst e;cases r1 with
 | cons r rr=>
   cases rr;obtain⟨t,rfl⟩:=r;exact call_range_1 (sH I1 (by omega) (by omega) q1 q2 (by simpa using q))
theorem xI {a b:Expr} {ta:TA} {p pos:Pos} (hg:Gl X "range") (hm:X.mg "range"=none) (ha:PA X [a,b] ta) (hs:starEach [a,b] X.env=[(false,eval a X.env),(false,eval b X.env)]:=by rfl) (hs2:starEach [b] X.env=[(false,eval b X.env)]:=by rfl) :
 PI X tg (.Call (.Name "range" p) [a,b] [] pos) (iRng2 ta):=by
 intro pins s σ H R I h;refine Call_ (eT I hg hm boot_range (PyProof.Rows.callWith_type1 (thn (ha pos pins s σ H _ I h) fun us s1 ⟨vs,H1,I1,r1,q1⟩=>?_) (by rw[hs,hs2]) (by rw[hs2];rfl)));obtain⟨i,j,e,⟨q1,q2,q3,q4⟩,q⟩:=q1;subst e;cases r1 with
 | cons r rr=>
   cases rr with
   | cons r' rr=>
     cases rr;obtain⟨t,rfl⟩:=r;obtain⟨t',rfl⟩:=r';exact call_range_2 (sH I1 q1 q2 q3 q4 q)
def tFor(wi:TI)(g:TG)(tb:TS):TS:=fun D σ H=>wi σ H fun J H1=>∃W:Nat->Nat->St->Hp->Prop,(∃m,W 0 m σ H1)/\∀i m σ H,W i m σ H ->
 (J.stop i H/\D.nx σ H)∨(J.go i H/\∃N:St->Hp->Prop,(∀ σ' H',N σ' H'->∃m',m'<m/\W (i+1) m' σ' H')/\∀x H',J.yld i H x H'->g x σ H' fun σ2 H2=>tb { D with nx:=N,ct:=N,bk:=D.nx } σ2 H2)
def lq(fp:List Addr)(h:Heap):List (Addr×Obj):=fp.filterMap fun b=>(h.get? b).map fun o=>(b,o)
theorem ie{fp:List Addr}{h:Heap}{b:Addr}{o:Obj}(hb:b∈fp)(e:h.get? b=some o):(b,o)∈lq fp h:=List.mem_filterMap.mpr ⟨b,hb,by rw[e];rfl⟩
theorem xT{fp:List Addr}{h:Heap}{p:Addr×Obj}(hp:p∈lq fp h):p.1∈fp/\h.get? p.1=some p.2:=by
 obtain⟨b,hb,e⟩:=List.mem_filterMap.mp hp;cases q:h.get? b with
 | none=>rw[q]at e;cases e
 | some o=>
   rw[q]at e;have e':(b,o)=p:=zV0 e;subst e';exact⟨hb,q⟩
theorem Inv.pinned{pins:List (Addr×Obj)}{σ:St}{H:Hp}{s:Shared}{fp:List Addr}(I:Inv X pins σ H s)(hf:∀b∈fp,kK X pins H b)(ho:∀b∈fp,∃o,s.heap.get? b=some o/\∀v,o.data≠.cell v):Inv X (pins++lq fp s.heap) σ H s:=
 I.pins_of fun p hp=>(qD0 hp).elim (fun z=>I.pin p (qU0 _ z)) fun z=>by
  obtain⟨hb,e⟩:=xT z;obtain⟨f0,f1,f2,_⟩:=hf p.1 hb;obtain⟨o,e',d⟩:=ho p.1 hb;rw[e]at e';cases e';exact⟨e,f0,f1,f2,d⟩
theorem Inv.unpinned{pins pl:List (Addr×Obj)}{σ:St}{H:Hp}{s:Shared}(I:Inv X (pins++pl) σ H s):Inv X pins σ H s:=I.pins_of fun p hp=>I.pin p (qU0 _ (List.mem_append_left _ hp))
theorem cE{iter:Expr}{body:List Stmt}{wi:TI}{g:TG}{tb:TS}{pos:Pos}(hp:PassesOwn (model X.prog X.w) X.A X.env X.xe)(hc:X.calm=true)(hi:PI X tg iter wi)(hg:PG X tg g)(hb:PSs X body tb)
 (hs:∀x,foldedSetIterable iter X.env x=pure x:=by intro _;rfl):PS X (.For tg iter body [] pos) (tFor wi g tb):=by
 intro pins s σ H D I h;refine wpAny_For (thn (hi pins s σ H _ I h) fun v s1 h1=>thn h1 fun itv s2 h2=>?_) hs;obtain⟨it,fp,tn,J,H2,e,I2,T,st2,f2,W,⟨m0,w0⟩,turn⟩:=h2;subst e;have stat:∀{H':Hp},(∀b∈fp,H' b=none)->∀b∈fp,kK X pins H' b:=fun hn b hb=>⟨hn b hb,(f2 b hb).2⟩
 refine codeAny_forLoop_any (fun n s'=>∃i σ' H',Inv X pins σ' H' s'/\tn i s'.heap/\(∀b∈fp,H' b=none)/\W i n σ' H') ?_ m0 ⟨0,σ,H2,I2,st2,fun b hb=>(f2 b hb).1,w0⟩;rintro n s3 ⟨i,σ3,H3,I3,st3,fr3,w3⟩;rcases turn i n σ3 H3 w3 with⟨stop,qn⟩ | ⟨go,N,hN,step⟩
 . refine wpAny_passesOwn hp (thn (T.done X rfl rfl rfl hc i pins s3 σ3 H3 X.xe I3 (stat fr3) st3 stop) fun r s4 ⟨hr,I4⟩=>?_);subst hr;exact wpAny_execs_nil ⟨σ3,H3,I4,qn⟩
 . refine wpAny_passesOwn hp (thn (T.item X rfl rfl rfl hc i pins s3 σ3 H3 X.xe I3 (stat fr3) st3 go) fun r s4 ⟨u,hr,h4⟩=>?_);subst hr;refine wpAny_passesOwn hp (thn h4 fun _ s5 ⟨x,H5,I5,r5,y5,st5,fr5⟩=>?_);have I5':=I5.pinned (stat fr5) (T.obj _ _ st5);refine wpAny_passesOwn hp (thn (hg _ s5 σ3 H5 x u _ I5' r5 (step x H5 y5)) fun _ s6 ⟨σ6,H6,I6,q6⟩=>?_);refine wpAny_passesOwn hp (thn (hb _ s6 σ6 H6 _ I6 q6) fun f s7 q7=>?_);have again:∀{σ7:St}{H7:Hp},Inv X (pins++lq fp s5.heap) σ7 H7 s7->N σ7 H7->∃m,m<n/\∃i σ' H',Inv X pins σ' H' s7/\tn i s7.heap/\(∀b∈fp,H' b=none)/\W i m σ' H':=fun{σ7 H7} I7 n7=>by
    obtain⟨m',hm,w7⟩:=hN σ7 H7 n7;refine⟨m',hm,i+1,σ7,H7,I7.unpinned,T.keep _ _ _ st5 fun b hb o e=>(I7.pin (b,o) (qU0 _ (qU0 _ (ie hb e)))).1,fun b hb=>?_,w7⟩;obtain⟨o,e,d⟩:=T.obj _ _ st5 b hb;exact(I7.pin (b,o) (qU0 _ (qU0 _ (ie hb e)))).2.1
   cases f with
   | next=>obtain⟨σ7,H7,I7,n7⟩:=q7;exact again I7 n7
   | cont=>obtain⟨σ7,H7,I7,n7⟩:=q7;exact again I7 n7
   | brk=>obtain⟨σ7,H7,I7,q7⟩:=q7;exact⟨σ7,H7,I7.unpinned,q7⟩
   | ret v=>obtain⟨x7,σ7,H7,I7,r7,q7⟩:=q7;exact⟨x7,σ7,H7,I7.unpinned,r7,q7⟩
end
theorem iW{K:W.Frag}{a:Addr}{xs:List V}{g:TG}{tb:TS}{D:Ends}{σ:St}{H:Hp}(Pv:Nat->St->Hp->Prop)(h0:Pv 0 σ H)(hl:∀i σ H,i<=xs.length->Pv i σ H->SqL K H a xs)
 (hs:∀i x σ H,xs[i]?=some x->Pv i σ H->g x σ H fun σ2 H2=>tb { D with nx:=Pv (i+1),ct:=Pv (i+1),bk:=D.nx } σ2 H2) (hd:∀ σ H,Pv xs.length σ H->D.nx σ H) :
 ∃ W:Nat->Nat->St->Hp->Prop,(∃m,W 0 m σ H)/\∀i m σ H,W i m σ H ->
  ((Itl K a).stop i H/\D.nx σ H)∨((Itl K a).go i H/\∃N:St->Hp->Prop,(∀ σ' H',N σ' H'->∃m',m'<m/\W (i+1) m' σ' H')/\∀x H',(Itl K a).yld i H x H'->g x σ H' fun σ2 H2=>tb { D with nx:=N,ct:=N,bk:=D.nx } σ2 H2):=by
 refine⟨fun i m σ H=>m=xs.length-i/\i<=xs.length/\Pv i σ H,⟨xs.length,by simp,zW0 _,h0⟩,?_⟩;rintro i m σ H ⟨rfl,hi,p⟩;have q:=hl i σ H hi p
 by_cases hlt:i<xs.length
 . refine .inr ⟨⟨xs,xs[i],q,by simp [hlt]⟩,Pv (i+1),fun σ' H' p'=>⟨xs.length-(i+1),by omega,rfl,hlt,p'⟩,fun x H' y=>?_⟩;obtain⟨e,y⟩:=y;subst e;exact hs i x σ _ (y xs q) p
 . have e:i=xs.length:=by omega
   subst e;exact .inl ⟨⟨xs,q,zH0 _⟩,hd σ H p⟩
theorem rK{K:W.Frag}{a:Addr}{xs:List V}{g:TG}{tb:TS}{D:Ends}{σ:St}{H:Hp}(Pv:Nat->St->Hp->Prop)(h0:Pv 0 σ H)(hl:∀i σ H,i<=xs.length->Pv i σ H->SqT K H a xs)
 (hs:∀i x σ H,xs[i]?=some x->Pv i σ H->g x σ H fun σ2 H2=>tb { D with nx:=Pv (i+1),ct:=Pv (i+1),bk:=D.nx } σ2 H2) (hd:∀ σ H,Pv xs.length σ H->D.nx σ H) :
 ∃ W:Nat->Nat->St->Hp->Prop,(∃m,W 0 m σ H)/\∀i m σ H,W i m σ H ->
  ((Itt K a).stop i H/\D.nx σ H)∨((Itt K a).go i H/\∃N:St->Hp->Prop,(∀ σ' H',N σ' H'->∃m',m'<m/\W (i+1) m' σ' H')/\∀x H',(Itt K a).yld i H x H'->g x σ H' fun σ2 H2=>tb { D with nx:=N,ct:=N,bk:=D.nx } σ2 H2):=by
 refine⟨fun i m σ H=>m=xs.length-i/\i<=xs.length/\Pv i σ H,⟨xs.length,by simp,zW0 _,h0⟩,?_⟩;rintro i m σ H ⟨rfl,hi,p⟩;have q:=hl i σ H hi p
 by_cases hlt:i<xs.length
 . refine .inr ⟨⟨xs,xs[i],q,by simp [hlt]⟩,Pv (i+1),fun σ' H' p'=>⟨xs.length-(i+1),by omega,rfl,hlt,p'⟩,fun x H' y=>?_⟩;obtain⟨e,y⟩:=y;subst e;exact hs i x σ _ (y xs q) p
 . have e:i=xs.length:=by omega
   subst e;exact .inl ⟨⟨xs,q,zH0 _⟩,hd σ H p⟩
theorem eC{lo:Int}{n:Nat}{g:TG}{tb:TS}{D:Ends}{σ:St}{H:Hp}(Pv:Nat->St->Hp->Prop)(h0:Pv 0 σ H)
 (hs:∀i σ H,i<n->Pv i σ H->g (.int (lo+i)) σ H fun σ2 H2=>tb { D with nx:=Pv (i+1),ct:=Pv (i+1),bk:=D.nx } σ2 H2) (hd:∀ σ H,Pv n σ H->D.nx σ H) :
 ∃ W:Nat->Nat->St->Hp->Prop,(∃m,W 0 m σ H)/\∀i m σ H,W i m σ H ->
  ((Itr lo n).stop i H/\D.nx σ H)∨((Itr lo n).go i H/\∃N:St->Hp->Prop,(∀ σ' H',N σ' H'->∃m',m'<m/\W (i+1) m' σ' H')/\∀x H',(Itr lo n).yld i H x H'->g x σ H' fun σ2 H2=>tb { D with nx:=N,ct:=N,bk:=D.nx } σ2 H2):=by
 refine⟨fun i m σ H=>m=n-i/\i<=n/\Pv i σ H,⟨n,by simp,zW0 _,h0⟩,?_⟩;rintro i m σ H ⟨rfl,hi,p⟩
 by_cases hlt:i<n
 . refine .inr ⟨hlt,Pv (i+1),fun σ' H' p'=>⟨n-(i+1),by omega,rfl,hlt,p'⟩,fun x H' y=>?_⟩;obtain⟨e,y⟩:=y;subst e y;exact hs i σ _ hlt p
 . have e:i=n:=by omega
   subst e;exact .inl ⟨zH0 _,hd σ H p⟩
abbrev R2:=V->V->Hp->VK->Prop
def OpR(X:Cx)(f:Value->Value->Sem Value)(r:R2):Prop:=
 ∀(pins:List (Addr×Obj))(s:Shared)(σ:St)(H:Hp)(x y:V)(v u:Value)(Q:VK),Inv X pins σ H s->RelV x v->RelV y u->r x y H Q ->
  wpAny (model X.prog X.w) X.A (f v u) (EP X pins σ Q) X.xe s
def UnR(X:Cx)(f:Value->Sem Value)(r:V->Hp->VK->Prop):Prop:=
 ∀(pins:List (Addr×Obj))(s:Shared)(σ:St)(H:Hp)(x:V)(v:Value)(Q:VK),Inv X pins σ H s->RelV x v->r x H Q ->
  wpAny (model X.prog X.w) X.A (f v) (EP X pins σ Q) X.xe s
def gI(X:Cx)(f:Value)(r:List V->Hp->VK->Prop):Prop:=
 ∀(pins:List (Addr×Obj))(s:Shared)(σ:St)(H:Hp)(xs:List V)(us:List Value)(Q:VK),Inv X pins σ H s->Vals xs us->r xs H Q ->
  wpAny (model X.prog X.w) X.A (call f us) (EP X pins σ Q) X.xe s
def tOp(r:R2)(ta tb:TE):TE:=fun σ H Q=>ta σ H fun x H1=>tb σ H1 fun y H2=>r x y H2 Q
def tUn(r:V->Hp->VK->Prop)(ta:TE):TE:=fun σ H Q=>ta σ H fun x H1=>r x H1 Q
inductive rI(C:Int->Int->Prop)(g:Int->Int->V)(x:V)(y:V)(H:Hp)(Q:VK):Prop where
 | mk:∀i j,(x=.int i)->(y=.int j)->(C i j)->(Q (g i j) H)->rI C g x y H Q
inductive rI0(g:Int->Int->V)(x:V)(y:V)(H:Hp)(Q:VK):Prop where
 | mk:∀i j,(x=.int i)->(y=.int j)->(Q (g i j) H)->rI0 g x y H Q
inductive rU(g:Int->V)(x:V)(H:Hp)(Q:VK):Prop where
 | mk:∀i,(x=.int i)->(Q (g i) H)->rU g x H Q
section
variable {X:Cx} {a b c:Expr} {ta tb tc:TE} {pos:Pos}
theorem Ex(ha:PE X a ta)(hb:PE X b tb){pins:List (Addr×Obj)}{s:Shared}{σ:St}{H:Hp}{R:V->V->Hp->Prop}(I:Inv X pins σ H s)
 (h:ta σ H fun x H1=>tb σ H1 fun y H2=>R x y H2) {Q:Value->Shared->Prop} {f:Value->Value->Sem Value}
 (hf:∀v u s2 x y H2,Inv X pins σ H2 s2->RelV x v->RelV y u->R x y H2->wpAny (model X.prog X.w) X.A (f v u) Q X.xe s2) :
 wpAny (model X.prog X.w) X.A (eval a X.env) (fun v s₁=>wpAny (model X.prog X.w) X.A (eval b X.env) (fun u s₂=>wpAny (model X.prog X.w) X.A (f v u) Q X.xe s₂) X.xe s₁) X.xe s:=by
 refine thn (ha pins s σ H _ I h) fun v s1 ⟨x,H1,I1,r1,q1⟩=>?_
 refine thn (hb pins s1 σ H1 _ I1 q1) fun u s2 ⟨y,H2,I2,r2,q2⟩=>?_
 exact hf v u s2 x y H2 I2 r1 r2 q2
theorem ag{op:Operator}{r:R2}(ho:OpR X (binaryOp op) r)(ha:PE X a ta)(hb:PE X b tb):PE X (.BinOp a op b pos) (tOp r ta tb):=by
 intro pins s σ H Q I h;exact wpAny_BinOp (Ex ha hb I h fun v u s2 x y H2 I2 rx ry q=>ho pins s2 σ H2 x y v u Q I2 rx ry q)
theorem zO{op:UnaryOp}{r:V->Hp->VK->Prop}(ho:UnR X (unaryOp op) r)(ha:PE X a ta):PE X (.UnaryOp op a pos) (tUn r ta):=by
 intro pins s σ H Q I h;exact UnaryOp_ (thn (ha pins s σ H _ I h) fun v s1 ⟨x,H1,I1,r1,q1⟩=>ho pins s1 σ H1 x v Q I1 r1 q1)
theorem opI{f:Value->Value->Sem Value}{C:Int->Int->Prop}{g:Int->Int->Int}
 (rule:∀(i j:Int)(t u:Tok)(s:Shared)(Q:Value->Shared->Prop)(E:Value->Shared->Prop),C i j->Q (.int (g i j) s.toks) { s with toks:=s.toks+1 }->wpAny (model X.prog X.w) X.A (f (.int i t) (.int j u)) Q E s) :
 OpR X f (rI C fun i j=>.int (g i j)):=by
 intro pins s σ H x y v u Q I rx ry h;obtain⟨i,j,rfl,rfl,hc,q⟩:=h;obtain⟨t,rfl⟩:=rx;obtain⟨t',rfl⟩:=ry;exact rule i j t t' s _ _ hc ⟨.int (g i j),H,I.tok _,⟨_,rfl⟩,q⟩
theorem opI0{f:Value->Value->Sem Value}{g:Int->Int->Int}
 (rule:∀(i j:Int)(t u:Tok)(s:Shared)(Q:Value->Shared->Prop)(E:Value->Shared->Prop),Q (.int (g i j) s.toks) { s with toks:=s.toks+1 }->wpAny (model X.prog X.w) X.A (f (.int i t) (.int j u)) Q E s) :
 OpR X f (rI0 fun i j=>.int (g i j)):=by
 intro pins s σ H x y v u Q I rx ry h;obtain⟨i,j,rfl,rfl,q⟩:=h;obtain⟨t,rfl⟩:=rx;obtain⟨t',rfl⟩:=ry;exact rule i j t t' s _ _ ⟨.int (g i j),H,I.tok _,⟨_,rfl⟩,q⟩
theorem BS{f:Value->Value->Sem Value}{g:Int->Int->Bool}
 (rule:∀(i j:Int)(t u:Tok)(s:Shared)(Q:Value->Shared->Prop)(E:Value->Shared->Prop),Q (.bool (g i j)) s->wpAny (model X.prog X.w) X.A (f (.int i t) (.int j u)) Q E s) :
 OpR X f (rI0 fun i j=>.bl (g i j)):=by
 intro pins s σ H x y v u Q I rx ry h;obtain⟨i,j,rfl,rfl,q⟩:=h;obtain⟨t,rfl⟩:=rx;obtain⟨t',rfl⟩:=ry;exact rule i j t t' s _ _ ⟨.bl (g i j),H,I,rfl,q⟩
def CDiv(i j:Int):Prop:=0<j/\j<1073741824
def CPow(i j:Int):Prop:=0<=j/\j<=1000000/\i.natAbs<2 ^ 64
def CMul(i j:Int):Prop:=(-(2 ^ 64)<i/\i<2 ^ 64)∨(-(2 ^ 64)<j/\j<2 ^ 64)
theorem CMul.ok{i j:Int}(h:CMul i j):IntMulOk i j:=by
 rcases h with⟨h1,h2⟩ | ⟨h1,h2⟩
 . exact .of_left (intBits_le_64 h1 h2)
 . exact .of_right (intBits_le_64 h1 h2)
theorem aO:OpR X (binaryOp .Add) (rI0 fun i j=>.int (i+j)):=opI0 fun _ _ _ _ _ _ _ q=>add_int q
theorem aQ:OpR X (binaryOp .Sub) (rI0 fun i j=>.int (i-j)):=opI0 fun _ _ _ _ _ _ _ q=>sub_int q
theorem bg:OpR X (binaryOp .Mult) (rI CMul fun i j=>.int (i*j)):=opI fun _ _ _ _ _ _ _ hc q=>mul_int q hc.ok
theorem wI:OpR X (binaryOp .FloorDiv) (rI CDiv fun i j=>.int (i / j)):=opI fun i j _ _ _ _ _ hc q=>by
 have h1:(0:Int)<j:=hc.1;have h2:j<1073741824:=hc.2;exact floordiv_int (by omega) (by rw[Int.fdiv_eq_ediv_of_nonneg i (by omega)];exact q) (.inl (PyProof.noPylong_small (by omega)))
theorem aN:OpR X (binaryOp .Mod) (rI (fun _ j=>0<j) fun i j=>.int (i % j)):=opI fun i j _ _ _ _ _ hc q=>by
 have h1:(0:Int)<j:=hc;exact mod_int' (by omega) (by rw[Int.fmod_eq_emod_of_nonneg i (by omega)];exact q)
theorem zT:OpR X (binaryOp .Pow) (rI CPow fun i j=>.int (i ^ j.toNat)):=opI fun _ _ _ _ _ _ _ hc q=>pow_int_small hc.1 hc.2.1 hc.2.2 q
theorem unI{f:Value->Sem Value}{g:Int->Int}
 (rule:∀(i:Int)(t:Tok)(s:Shared)(Q:Value->Shared->Prop)(E:Value->Shared->Prop),Q (.int (g i) s.toks) { s with toks:=s.toks+1 }->wpAny (model X.prog X.w) X.A (f (.int i t)) Q E s) :
 UnR X f (rU fun i=>.int (g i)):=by
 intro pins s σ H x v Q I rx h;obtain⟨i,rfl,q⟩:=h;obtain⟨t,rfl⟩:=rx;exact rule i t s _ _ ⟨.int (g i),H,I.tok _,⟨_,rfl⟩,q⟩
theorem uu:UnR X (unaryOp .USub) (rU fun i=>.int (-i)):=unI fun _ _ _ _ _ q=>neg_int q
end
def scal:V->V->Bool
 | .non,.non=>true | .non,.int _=>true | .int _,.non=>true | .non,.bl _=>true | .bl _,.non=>true | .non,.str _=>true | .str _,.non=>true
 | .int _,.int _=>true | .bl _,.bl _=>true | .str _,.str _=>true | .byt _,.byt _=>true
 | .int _,.str _=>true | .str _,.int _=>true | .bl _,.str _=>true | .str _,.bl _=>true
 | _,_=>false
inductive rEq(x:V)(y:V)(H:Hp)(Q:VK):Prop where
 | mk:(scal x y=true)->(Q (.bl (decide (x=y))) H)->rEq x y H Q
inductive rNe(x:V)(y:V)(H:Hp)(Q:VK):Prop where
 | mk:(scal x y=true)->(Q (.bl (!decide (x=y))) H)->rNe x y H Q
theorem wS{i j:Int}:decide (V.int i=V.int j)=(i==j):=by
 rw[Bool.eq_iff_iff]
 simp
theorem AZ{i j:Bool}:decide (V.bl i=V.bl j)=(i==j):=by
 rw[Bool.eq_iff_iff]
 simp
theorem wR{i j:Str}:decide (V.str i=V.str j)=(i==j):=by
 rw[Bool.eq_iff_iff]
 simp
theorem wT{i j:Array UInt8}:decide (V.byt i=V.byt j)=(i.toList==j.toList):=by
 rw[Bool.eq_iff_iff];cases i;cases j
 simp
section
variable {X:Cx} {a b c:Expr} {ta tb tc:TE} {pos:Pos}
theorem bd{pins:List (Addr×Obj)}{σ:St}{H:Hp}{s:Shared}{Q:VK}{k k':Bool}(I:Inv X pins σ H s)(q:Q (.bl k) H)(e:k=k'):EP X pins σ Q (.bool k') s:=by
 subst e;exact⟨.bl k,H,I,rfl,q⟩
theorem aH:OpR X (compareOp .Eq) rEq:=by
 intro pins s σ H x y v u Q I rx ry h;obtain⟨hs,q⟩:=h;cases x with
 | non=>
   cases rx;cases y with
   | non=>cases ry;exact PySem.EqNone.eq_none_none (bd I q (by simp))
   | bl j=>cases ry;exact PySem.EqNone.eq_none_bool (bd I q (by simp))
   | int j=>obtain⟨t',rfl⟩:=ry;exact PySem.EqNone.eq_none_int (bd I q (by simp))
   | str j=>obtain⟨t',rfl⟩:=ry;exact PySem.EqNone.eq_none_str (bd I q (by simp))
   | _=>exact absurd (show false=true from hs) qC0
 | bl i=>
   cases rx;cases y with
   | non=>cases ry;exact PySem.EqNone.eq_bool_none (bd I q (by simp))
   | bl j=>cases ry;exact eq_bool (bd I q AZ)
   | str j=>obtain⟨t',rfl⟩:=ry;exact PySem.EqMixed.eq_bool_str (bd I q (by simp))
   | _=>exact absurd (show false=true from hs) qC0
 | int i=>
   obtain⟨t,rfl⟩:=rx;cases y with
   | non=>cases ry;exact PySem.EqNone.eq_int_none (bd I q (by simp))
   | int j=>obtain⟨t',rfl⟩:=ry;exact eq_int (bd I q wS)
   | str j=>obtain⟨t',rfl⟩:=ry;exact PySem.EqMixed.eq_int_str (bd I q (by simp))
   | _=>exact absurd (show false=true from hs) qC0
 | str i=>
   obtain⟨t,rfl⟩:=rx;cases y with
   | non=>cases ry;exact PySem.EqNone.eq_str_none (bd I q (by simp))
   | bl j=>cases ry;exact PySem.EqMixed.eq_str_bool (bd I q (by simp))
   | int j=>obtain⟨t',rfl⟩:=ry;exact PySem.EqMixed.eq_str_int (bd I q (by simp))
   | str j=>obtain⟨t',rfl⟩:=ry;exact eq_str (bd I q wR)
   | _=>exact absurd (show false=true from hs) qC0
 | byt i=>
   obtain⟨t,rfl⟩:=rx;cases y with
   | byt j=>obtain⟨t',rfl⟩:=ry;exact PySem.W.eq_bytes (bd I q wT)
   | _=>exact absurd (show false=true from hs) qC0
 | _=>cases y <;> exact absurd (show false=true from hs) qC0
theorem jw:OpR X (compareOp .NotEq) rNe:=by
 intro pins s σ H x y v u Q I rx ry h;obtain⟨hs,q⟩:=h;cases x with
 | non=>
   cases rx;cases y with
   | non=>cases ry;exact PySem.EqNone.ne_none_none (bd I q (by simp))
   | bl j=>cases ry;exact PySem.EqNone.ne_none_bool (bd I q (by simp))
   | int j=>obtain⟨t',rfl⟩:=ry;exact PySem.EqNone.ne_none_int (bd I q (by simp))
   | str j=>obtain⟨t',rfl⟩:=ry;exact PySem.EqNone.ne_none_str (bd I q (by simp))
   | _=>exact absurd (show false=true from hs) qC0
 | bl i=>
   cases rx;cases y with
   | non=>cases ry;exact PySem.EqNone.ne_bool_none (bd I q (by simp))
   | bl j=>cases ry;exact ne_bool (bd I q (congrArg not AZ))
   | str j=>obtain⟨t',rfl⟩:=ry;exact PySem.EqMixed.ne_bool_str (bd I q (by simp))
   | _=>exact absurd (show false=true from hs) qC0
 | int i=>
   obtain⟨t,rfl⟩:=rx;cases y with
   | non=>cases ry;exact PySem.EqNone.ne_int_none (bd I q (by simp))
   | int j=>obtain⟨t',rfl⟩:=ry;exact ne_int (bd I q (congrArg not wS))
   | str j=>obtain⟨t',rfl⟩:=ry;exact PySem.EqMixed.ne_int_str (bd I q (by simp))
   | _=>exact absurd (show false=true from hs) qC0
 | str i=>
   obtain⟨t,rfl⟩:=rx;cases y with
   | non=>cases ry;exact PySem.EqNone.ne_str_none (bd I q (by simp))
   | bl j=>cases ry;exact PySem.EqMixed.ne_str_bool (bd I q (by simp))
   | int j=>obtain⟨t',rfl⟩:=ry;exact PySem.EqMixed.ne_str_int (bd I q (by simp))
   | str j=>obtain⟨t',rfl⟩:=ry;exact ne_str (bd I q (congrArg not wR))
   | _=>exact absurd (show false=true from hs) qC0
 | byt i=>
   obtain⟨t,rfl⟩:=rx;cases y with
   | byt j=>obtain⟨t',rfl⟩:=ry;exact PySem.W.ne_bytes (bd I q (congrArg not wT))
   | _=>exact absurd (show false=true from hs) qC0
 | _=>cases y <;> exact absurd (show false=true from hs) qC0
theorem cJ:OpR X (compareOp .Lt) (rI0 fun i j=>.bl (decide (i<j))):=BS fun _ _ _ _ _ _ _ q=>lt_int q
theorem wH:OpR X (compareOp .LtE) (rI0 fun i j=>.bl (decide (i<=j))):=BS fun _ _ _ _ _ _ _ q=>le_int q
theorem gB:OpR X (compareOp .Gt) (rI0 fun i j=>.bl (decide (j<i))):=BS fun _ _ _ _ _ _ _ q=>gt_int q
theorem CQ:OpR X (compareOp .GtE) (rI0 fun i j=>.bl (decide (j<=i))):=BS fun _ _ _ _ _ _ _ q=>ge_int q
theorem pX:OpR X (compareOp .In) (fun x y H Q=>∃i j,x=.str i/\y=.str j/\Q (.bl (!(Builtin.Str.occurrences j i 0 j.length 1).isEmpty)) H):=by
 intro pins s σ H x y v u Q I rx ry h;obtain⟨i,j,rfl,rfl,q⟩:=h;obtain⟨t,rfl⟩:=rx;obtain⟨t',rfl⟩:=ry;exact in_str (bd I q rfl)
theorem DH:OpR X (compareOp .Is) (fun x y H Q=>y=.non/\Q (.bl (decide (x=.non))) H):=by
 intro pins s σ H x y v u Q I rx ry h;obtain⟨rfl,q⟩:=h;cases ry;refine is_none_gen (bd I q ?_);cases x <;> first
  | (cases rx;rfl)
  | (obtain⟨t,rfl⟩:=rx;rfl)
theorem OpR.or{f:Value->Value->Sem Value}{r r':R2}(h:OpR X f r)(h':OpR X f r'):OpR X f (fun x y H Q=>r x y H Q∨r' x y H Q):=by
 intro pins s σ H x y v u Q I rx ry q;rcases q with q | q
 . exact h pins s σ H x y v u Q I rx ry q
 . exact h' pins s σ H x y v u Q I rx ry q
theorem ao(b:Expr){op:CmpOp}(h:op≠.In:=by decide)(h2:op≠.NotIn:=by decide):behindInMarks op b=false:=by
 have e1:(op==CmpOp.In)=false:=by cases op <;> first | rfl | exact absurd rfl h
 have e2:(op==CmpOp.NotIn)=false:=by cases op <;> first | rfl | exact absurd rfl h2
 cases b <;> simp [behindInMarks,e1,e2]
theorem cG{op:CmpOp}{r:R2}(ho:OpR X (compareOp op) r)(ha:PE X a ta)(hb:PE X b tb)(hm:behindInMarks op b=false):PE X (.Compare a [op] [b] pos) (tOp r ta tb):=by
 intro pins s σ H Q I h;exact wpAny_Compare1 (Ex ha hb I h fun v u s2 x y H2 I2 rx ry q=>ho pins s2 σ H2 x y v u Q I2 rx ry q) hm
inductive ZtTest(Q:(Bool->Hp->Prop))(x:V)(H':Hp):Prop where
 | mk:∀k,(x=.bl k)->(Q k H')->ZtTest Q x H'
def CD(t:TE):TT:=fun σ H Q=>t σ H fun x H'=>ZtTest Q x H'
theorem af{op:CmpOp}{r:R2}(ho:OpR X (compareOp op) r)(ha:PE X a ta)(hb:PE X b tb)(hm:behindInMarks op b=false):PT X (.Compare a [op] [b] pos) (CD (tOp r ta tb)):=by
 intro pins s σ H Q I h;refine wpAny_isTrue_Compare1 (thn (ha pins s σ H _ I h) fun v s1 ⟨x,H1,I1,r1,q1⟩=>thn (hb pins s1 σ H1 _ I1 q1) fun u s2 ⟨y,H2,I2,r2,q2⟩=>
  thn (ho pins s2 σ H2 x y v u _ I2 r1 r2 q2) fun c s3 ⟨z,H3,I3,r3,k,e,q3⟩=>?_) hm
 subst e;cases r3;exact wpAny_truthy_bool ⟨H3,I3,q3⟩
inductive ZtChain(r':R2)(tc:TE)(σ:St)(Q:VK)(y:V)(z:V)(H3:Hp):Prop where
 | mk:∀k,(z=.bl k)->((if k=true then tc σ H3 fun w' H4=>r' y w' H4 Q else Q (.bl false) H3))->ZtChain r' tc σ Q y z H3
def Dr(r r':R2)(ta tb tc:TE):TE:=fun σ H Q=>ta σ H fun x H1=>tb σ H1 fun y H2=>r x y H2 fun z H3=>ZtChain r' tc σ Q y z H3
theorem zJ{op op':CmpOp}{r r':R2}(ho:OpR X (compareOp op) r)(ho':OpR X (compareOp op') r')(ha:PE X a ta)(hb:PE X b tb)(hc:PE X c tc)
 (hm:lastMarks [op,op'] [b,c]=false:=by rfl'):PT X (.Compare a [op,op'] [b,c] pos) (CD (Dr r r' ta tb tc)):=by
 intro pins s σ H Q I h;refine isTrue_chain (thn (ha pins s σ H _ I h) fun v s1 ⟨x,H1,I1,r1,q1⟩=>test_link (thn (hb pins s1 σ H1 _ I1 q1) fun u s2 ⟨y,H2,I2,r2,q2⟩=>
  thn (ho pins s2 σ H2 x y v u _ I2 r1 r2 q2) fun d s3 ⟨z,H3,I3,r3,k,e,q3⟩=>?_)) hm
 subst e;cases r3;refine wpAny_truthy_bool ?_;cases k with
 | false=>
   obtain⟨k',e',q'⟩:=q3;cases e';exact ite_ff ⟨H3,I3,q'⟩
 | true=>
   refine ite_tt (test_last (thn (hc pins s3 σ H3 _ I3 q3) fun w' s4 ⟨z',H4,I4,r4,q4⟩=>thn (ho' pins s4 σ H4 y z' u w' _ I4 r2 r4 q4) fun d' s5 ⟨z2,H5,I5,r5,k2,e2,q5⟩=>?_));subst e2;cases r5;exact wpAny_truthy_bool ⟨H5,I5,q5⟩
theorem ig:(sizeLine:Nat)<2 ^ 63:=by rw[sizeLine_eq];decide
theorem oA:OpR X (binaryOp .Add) (fun x y H Q=>∃i j,x=.str i/\y=.str j/\i.length+j.length<=sizeLine/\Q (.str (i++j)) H):=by
 intro pins s σ H x y v u Q I rx ry h;obtain⟨i,j,rfl,rfl,hz,q⟩:=h;obtain⟨t,rfl⟩:=rx;obtain⟨t',rfl⟩:=ry;exact add_str (fun t' tk=>⟨.str (i++j),H,I.tok _,⟨_,rfl⟩,q⟩) hz
theorem ju{x:V}{us:List Value}(r:Vals [x] us):∃u,us=[u]/\RelV x u:=by
 cases r with
 | cons r1 r2=>cases r2;exact⟨_,rfl,r1⟩
theorem CC{x y:V}{us:List Value}(r:Vals [x,y] us):∃u w',us=[u,w']/\RelV x u/\RelV y w':=by
 cases r with
 | cons r1 r2=>
   cases r2 with
   | cons r3 r4=>cases r4;exact⟨_,_,rfl,r1,r3⟩
theorem qm (hc:X.calm=true):gI X (.builtin "max") (fun xs H Q=>∃i j,xs=[.int i,.int j]/\Q (.int (if j>i then j else i)) H):=by
 intro pins s σ H xs us Q I r h;obtain⟨i,j,rfl,q⟩:=h;obtain⟨u,w',rfl,⟨t,rfl⟩,⟨t',rfl⟩⟩:=CC r;refine max_two_ints (I.ok.hd hc) fun h' tk k=>⟨_,H,I.kept k,?_,q⟩
 by_cases hj:j>i
 . rw[zE0 hj,zE0 hj];exact⟨_,rfl⟩
 . rw[zB0 hj,zB0 hj];exact⟨_,rfl⟩
theorem yE:gI X (.type "int") (fun xs H Q=>(∃i,xs=[.int i]/\Q (.int i) H)∨∃k,xs=[.bl k]/\Q (.int (if k then 1 else 0)) H):=by
 intro pins s σ H xs us Q I r h;rcases h with⟨i,rfl,q⟩ | ⟨k,rfl,q⟩
 . obtain⟨u,rfl,t,rfl⟩:=ju r;exact call_int_int ⟨.int i,H,I,⟨_,rfl⟩,q⟩
 . obtain⟨u,rfl,r1⟩:=ju r;cases r1;exact call_int_bool ⟨.int (if k then 1 else 0),H,I.tok _,⟨_,rfl⟩,q⟩
end
structure ObjM(h:Heap)(x dx C:Addr)(mA:Str->Option Value):Prop where
 obj:h.get? x=some (PySem.W.instObj C dx)
 ns:h.Ns1 dx mA
 ne:dx≠x
theorem yb{h:Heap}{dx:Addr}{mA:Str->Option Value}(n:h.Ns1 dx mA):∃od,h.get? dx=some od/\∀name,PySem.W.lookIn name od=some (mA name):=by
 obtain⟨o,es,ep,ho,hd,hk,_,hm⟩:=n;refine⟨o,ho,fun name=>?_⟩;have e:=hm name;unfold nsFind findBy at e;rw[←Array.find?_toList]at e;unfold PySem.W.lookIn;rw[hd]
 dsimp only
 split
 . rename_i y q;rw[q]at e;exact congrArg some e
 . rename_i q;rw[q]at e;have a:es.toList.any (·.refKey)=false:=by
    rw[List.any_eq_false];intro y hy;obtain⟨z,t,hkey⟩:=hk y (Array.mem_toList_iff.mp hy)
    simp [DictEntry.refKey,hkey]
   have a':¬ es.toList.any (·.refKey)=true:=by rw[a];exact qC0
   rw[zB0 a'];exact congrArg some e
theorem ObjM.look{h:Heap}{x dx C:Addr}{mA:Str->Option Value}(I:ObjM h x dx C mA):∃od,PySem.W.InstAt h x (PySem.W.instObj C dx) C (some od)/\∀name,PySem.W.lookIn name od=some (mA name):=
 let⟨od,ho,hl⟩:=yb I.ns
 ⟨od,⟨I.obj,rfl,rfl,ho⟩,hl⟩
section
variable {prog:Program} {w:World} {A:Around} {E:Value->Shared->Prop} {s:Shared} {K:W.Frag} {x dx C f:Addr} {mA:Str->Option Value} {name:Str} {v:Value}
theorem Cr{expr:Bool}{Q:Value->Shared->Prop}(X:K.In s.heap)(I:ObjM s.heap x dx C mA)(hg:PySem.W.plainGet K C name=true)(hh:PySem.W.hasDictIn K C=true)
 (ha:PySem.W.findIn K (.ref C) name=some none) (hv:mA name=some v) (hv':PySem.W.handedIn v=true) (h:Q v { s with toks:=s.toks+1 }) :
 wpAny (model prog w) A (getAttr (.ref x) name expr) Q E s:=by
 obtain⟨od,J,hl⟩:=I.look;exact PySem.W.get_value X J (PySem.W.plainGet_of hg).1 (PySem.W.findObj_own hh ha rfl (by rw[hl,hv])) hv' h
theorem AR{pl:Sem Bool}{Q:Value×List Value->Shared->Prop}(X:K.In s.heap)(I:ObjM s.heap x dx C mA)(hg:PySem.W.plainGet K C name=true)
 (hf:PySem.W.findIn K (.ref C) name=some (some (.ref f))) (ht:PySem.W.isFn K (.ref f)=true) (hv:mA name=none) (h:Q (.ref f,[.ref x]) s) :
 wpAny (model prog w) A (getMethod (.ref x) name pl) Q E s:=by
 obtain⟨od,J,hl⟩:=I.look;exact PySem.W.method_fn X J (PySem.W.plainGet_of hg).1 (PySem.W.plainGet_of hg).2 hf (beq_iff_eq.mp ht) (by show(PySem.W.lookIn name od).map (·.isSome)=some false;rw[hl,hv];rfl) h
theorem BD{ns:List Str}{Q:Unit->Shared->Prop}(X:K.In s.heap)(I:ObjM s.heap x dx C mA)
 (hs:PySem.W.findIn K (.ref C) "__setattr__"=some (some (.builtin "object.__setattr__"))) (hp:PySem.W.plainOver K C=true) (ht:PySem.W.takerIn K C name=some none) (hh:PySem.W.hasDictIn K C=true)
 (hw:PySem.Within mA ns) (hsz:ns.length<=sizeLine)
 (h:∀h',ObjM h' x dx C (fun y=>if y=name then some v else mA y)->Heap.SameBut dx s.heap h'->Q () { s with heap:=h',toks:=s.toks+2 }) :
 wpAny (model prog w) A (setAttr (.ref x) name v) Q E s:=by
 obtain⟨od,J,hl⟩:=I.look;refine PySem.W.set_plain X J hs (PySem.W.osa_open (s:={ s with toks:=s.toks+1 }) (r:=none) X J hp ht fun b=>?_);obtain⟨cd,hc,hd'⟩:=PySem.W.any_some hh;have hx:s.heap.get? x=some ⟨.ref C,some dx,.plain,#[]⟩:=I.obj;refine zA0 (zI0 (zA0 (zA0 (wpAny_loadPart hx (zA0 (PySem.W.Looks.here (s:={ s with toks:=s.toks+1 }) (PySem.W.looks_clsIn X hc) ?_))))));rw[hd'];refine zI0 (a:=some dx) (zA0 (zI0 (zA0 ?_)));refine wpAny_nsSet1 (s:={ s with toks:=s.toks+1 }) I.ns fun h' hn2 hs2=>?_
 obtain⟨oD,esD,epD,hoD,hdD,hcD⟩:=hn2.count (PySem.Within.cons name v hw);refine zA0 (wpAny_lookBehind hoD (by rw[hdD];exact pastItsLine_dict (zO0 hcD (by rw[zQ0];omega))) ?_);exact zI0 (h _ ⟨(hs2.2 _ (Ne.symm I.ne)).trans I.obj,hn2,I.ne⟩ hs2)
theorem Au{R:Result->Shared->Prop}{vs:List Value}{kw:List (Str×Value)}(X:K.In s.heap)(hm:PySem.W.makesIn K C=true)
 (hi:PySem.W.findIn K (.ref C) "__init__"=some (some (.ref f))) (hf:PySem.W.typeIn K (.ref f)=some (.type "function"))
 (h:codeAny (model prog w) (A.under (.builtin "type.__call__" ⟨.ref C::vs,kw⟩)) (.call (.ref f) ⟨.ref (s.heap.objs.size+1)::vs,kw⟩) (PySem.W.InitBack (s.heap.objs.size+1) R)
  { s with heap:=(s.heap.push PySem.W.emptyDict).push (PySem.W.instObj C s.heap.objs.size) }) :
 codeAny (model prog w) A (.call (.ref C) ⟨vs,kw⟩) R s:=by
 obtain⟨hh,g,d,t,os⟩:=s;exact PySem.W.make_core (PySem.W.makes_of X hm) (PySem.W.looks_findIn X hi) (fun self=>PySem.W.bind_fn X self hf) (.inl rfl) h
end
def bK(f:Str)(v:V):List (Str×V)->List (Str×V)
 | []=>[(f,v)]
 | (g,x)::r=>if g=f then(g,v)::r else(g,x)::bK f v r
theorem ah(f g:Str)(v:V):∀fs:List (Str×V),(bK f v fs).lookup g=if g=f then some v else fs.lookup g
 | []=>by
   show List.lookup g [(f,v)]=_
   by_cases h:g=f
   . have hb:(g==f)=true:=beq_iff_eq.mpr h;simp only[List.lookup,hb,zE0 h]
   . have hb:(g==f)=false:=beq_eq_false_iff_ne.mpr h;simp only[List.lookup,hb,zB0 h]
 | (k,x)::r=>by
   have ih:=ah f g v r;rw[show bK f v ((k,x)::r)=(if k=f then(k,v)::r else(k,x)::bK f v r)from rfl]
   by_cases hk:k=f
   . rw [zE0 hk]
     by_cases h:g=k
     . have hb:(g==k)=true:=beq_iff_eq.mpr h;simp only[List.lookup,hb,zE0 (h.trans hk)]
     . have hb:(g==k)=false:=beq_eq_false_iff_ne.mpr h;simp only[List.lookup,hb,zB0 (fun e:g=f=>h (e.trans hk.symm))]
   . rw [zB0 hk]
     by_cases h:g=k
     . have hb:(g==k)=true:=beq_iff_eq.mpr h;simp only[List.lookup,hb,zB0 (fun e:g=f=>hk (h.symm.trans e))]
     . have hb:(g==k)=false:=beq_eq_false_iff_ne.mpr h;simp only[List.lookup,hb];exact ih
theorem lw(f:Str)(v:V):∀fs:List (Str×V),f∈(bK f v fs).map (·.1)/\∀g,g∈fs.map (·.1)->g∈(bK f v fs).map (·.1)
 | []=>⟨by simp [bK],fun g h=>by simp at h⟩
 | (k,x)::r=>by
   obtain⟨i1,i2⟩:=lw f v r;rw[show bK f v ((k,x)::r)=(if k=f then(k,v)::r else(k,x)::bK f v r)from rfl]
   by_cases hk:k=f
   . rw[zE0 hk];subst hk;exact⟨by simp,fun g h=>by simpa using h⟩
   . rw [zB0 hk];refine⟨?_,fun g h=>?_⟩
     . rw[zZ0];exact qH0 _ i1
     . rw [zZ0]at h ⊢;rcases zY0 h with e | e
       . exact List.mem_cons.mpr (.inl e)
       . exact qH0 _ (i2 g e)
theorem lR(f:Str)(v:V):∀fs:List (Str×V),(bK f v fs).length<=fs.length+1
 | []=>by simp [bK]
 | (k,x)::r=>by
   have ih:=lR f v r;rw[show bK f v ((k,x)::r)=(if k=f then(k,v)::r else(k,x)::bK f v r)from rfl]
   by_cases hk:k=f
   . rw[zE0 hk,zQ0,zQ0];omega
   . rw[zB0 hk,zQ0,zQ0];omega
theorem RelO.some_of{v:V}{o:Option Value}(r:RelO (some v) o):∃u,o=some u/\RelV v u:=by
 cases o with
 | none=>exact(show False from r).elim
 | some u=>exact⟨u,rfl,r⟩
theorem RelO.none_of{o:Option Value}(r:RelO none o):o=none:=by
 cases o with
 | none=>rfl
 | some u=>exact(show False from r).elim
theorem yq{v:V}{u:Value}(r:RelV v u):PySem.W.handedIn u=true:=by
 cases v with
 | non=>cases(show u=Value.none from r);rfl
 | bl b=>cases(show u=Value.bool b from r);rfl
 | int i=>obtain⟨t,e⟩:=(show ∃t,u=Value.int i t from r);cases e;rfl
 | str x=>obtain⟨t,e⟩:=(show ∃t,u=Value.str x t from r);cases e;rfl
 | byt b=>obtain⟨t,e⟩:=(show ∃t,u=Value.bytes b t from r);cases e;rfl
 | flt b=>obtain⟨t,e⟩:=(show ∃t,u=Value.float b t from r);cases e;rfl
 | ref a=>cases(show u=Value.ref a from r);rfl
 | ty n=>cases(show u=Value.type n from r);rfl
section
variable {P:Program} {w:World} {H H':Hp} {h h':Heap} {a C dx:Addr} {fs fs':List (Str×V)}
theorem mz(hok:HOk P w H h)(e:H a=some (.ins C dx fs)):∃mA,ObjM h a dx C mA/\(∀f,RelO (fs.lookup f) (mA f))/\PySem.Within mA (fs.map (·.1))/\fs.length<=1000/\H dx=some (.own a):=by
 obtain⟨d,z,ne,ob,mA,n,r,q⟩:=(show ObjOk P w H h a (.ins C dx fs)from hok a _ e)
 exact⟨mA,⟨ob,n,ne⟩,r,q,z,d⟩
end
structure Cls(K:W.Frag)(C:Addr):Prop where
 pg:PySem.W.plainGet K C Str.empty=true
 hd:PySem.W.hasDictIn K C=true
 po:PySem.W.plainOver K C=true
 sa:PySem.W.findIn K (.ref C) "__setattr__"=some (some (.builtin "object.__setattr__"))
theorem Cls.get{K:W.Frag}{C:Addr}(c:Cls K C)(f:Str):PySem.W.plainGet K C f=true:=c.pg
def NoAttr(K:W.Frag)(C:Addr)(f:Str):Prop:=PySem.W.findIn K (.ref C) f=some none
theorem NoAttr.taker{K:W.Frag}{C:Addr}{f:Str}(n:NoAttr K C f):PySem.W.takerIn K C f=some none:=by
 unfold PySem.W.takerIn;rw[show PySem.W.findIn K (.ref C) f=some none from n];rfl
structure Meth(K:W.Frag)(C:Addr)(m:Str)(f:Addr):Prop where
 at_:PySem.W.findIn K (.ref C) m=some (some (.ref f))
 fn:PySem.W.isFn K (.ref f)=true
 kp:PySem.W.keepIn K (.ref f)=true
section
variable {X:Cx} {pins:List (Addr×Obj)} {σ:St} {H:Hp} {s:Shared} {a C dx:Addr} {fs:List (Str×V)} {f:Str} {v:V} {A:Around} {E:Value->Shared->Prop}
theorem vP{b:Bool}{Q:Value->Shared->Prop}(I:Inv X pins σ H s)(e:H a=some (.ins C dx fs))(c:Cls X.K C)(n:NoAttr X.K C f)(l:fs.lookup f=some v)
 (h:∀u s',Inv X pins σ H s'->RelV v u->Q u s'):wpAny (model X.prog X.w) A (getAttr (.ref a) f b) Q E s:=by
 obtain⟨mA,O,r,_,_,_⟩:=mz I.hok e;obtain⟨u,hu,ru⟩:=RelO.some_of (v:=v) (o:=mA f) (by rw[←l];exact r f);exact Cr I.kIn O (c.get f) c.hd n hu (yq ru) (h u _ (I.tok _) ru)
theorem oR{m:Str}{g:Addr}{pl:Sem Bool}{Q:Value×List Value->Shared->Prop}(I:Inv X pins σ H s)(e:H a=some (.ins C dx fs))(c:Cls X.K C)(k:Meth X.K C m g)(l:fs.lookup m=none)
 (h:Q (.ref g,[.ref a]) s):wpAny (model X.prog X.w) A (getMethod (.ref a) m pl) Q E s:=by
 obtain⟨mA,O,r,_,_,_⟩:=mz I.hok e;have hn:mA m=none:=RelO.none_of (by rw[←l];exact r m);exact AR I.kIn O (c.get m) k.at_ k.fn hn h
theorem uJ{y:V}{u:Value}{Q:Unit->Shared->Prop}(I:Inv X pins σ H s)(e:H a=some (.ins C dx fs))(c:Cls X.K C)(n:NoAttr X.K C f)(hl:fs.length<1000)(ry:RelV y u)
 (h:∀s',Inv X pins σ (upd H a (.ins C dx (bK f y fs))) s'->Q () s'):wpAny (model X.prog X.w) A (setAttr (.ref a) f u) Q E s:=by
 obtain⟨mA,O,r,wi,_,ho⟩:=mz I.hok e;have hz:(fs.map (·.1)).length<=sizeLine:=by rw[zF0,sizeLine_eq];omega
 refine BD I.kIn O c.sa c.po n.taker c.hd wi hz fun h' O' sb=>h _ ?_
 have hd:∃o,h'.get? dx=some o:=let⟨o,_,_,e',_⟩:=O'.ns;⟨o,e'⟩
 refine I.write (x:=a) (e:=dx) (by rw[e];exact True.intro) (.inr ho) (fun b q hb z=>(sb.2 b hb).trans z) hd ?_;refine⟨by rw[av O.ne];exact ho,?_,O.ne,O'.obj,_,O'.ns,fun g=>?_,fun g hg=>?_⟩
 . have:=lR f y fs;omega
 . show RelO ((bK f y fs).lookup g) (if g=f then some u else mA g);rw[ah]
   by_cases q:g=f
   . rw[zE0 q,zE0 q];exact ry
   . rw[zB0 q,zB0 q];exact r g
 . by_cases q:g=f
   . rw[q];exact(lw f y fs).1
   . refine(lw f y fs).2 g (wi g fun z=>hg ?_);show(if g=f then some u else mA g)=none;rw[zB0 q];exact z
theorem Inv.made(I:Inv X pins σ H s):Inv X pins σ (upd (upd H s.heap.objs.size (.own (s.heap.objs.size+1))) (s.heap.objs.size+1) (.ins C s.heap.objs.size []))
 { s with heap:=(s.heap.push PySem.W.emptyDict).push (PySem.W.instObj C s.heap.objs.size) }:=by
 have e1:(s.heap.push PySem.W.emptyDict).get? s.heap.objs.size=some PySem.W.emptyDict:=qA0 s.heap rfl;have e2:((s.heap.push PySem.W.emptyDict).push (PySem.W.instObj C s.heap.objs.size)).get? (s.heap.objs.size+1)=some (PySem.W.instObj C s.heap.objs.size):=by
  have:=qA0 (s.heap.push PySem.W.emptyDict) (o:=PySem.W.instObj C s.heap.objs.size) rfl
  rwa [Heap.size_push]at this
 have e3:(s.heap.push PySem.W.emptyDict).Ns s.heap.objs.size (fun _=>none):=⟨PySem.W.emptyDict,#[],_,e1,rfl,(fun e he=>absurd he (by simp)),fun _=>rfl⟩
 have I1:=I.laid (a:=s.heap.objs.size) (o:=.own (s.heap.objs.size+1)) (h':=s.heap.push PySem.W.emptyDict) (t':=s.toks) (fun b u q=>zP0 _ q) (zH0 _) ⟨_,e1⟩;refine I1.laid (a:=s.heap.objs.size+1) (o:=.ins C s.heap.objs.size []) (t':=s.toks) (fun b u q=>zP0 _ q) (Nat.le_of_eq (Heap.size_push _ _)) ?_;have ne:s.heap.objs.size≠s.heap.objs.size+1:=zT0 (Nat.lt_succ_self _);refine⟨by rw[av ne,aE],zW0 _,ne,e2,fun _=>none,(Heap.Ns1.of_empty e3).at fun o q=>zP0 _ q,fun _=>True.intro,fun y hy=>absurd rfl hy⟩
theorem Cv{prog:Program}{w:World}{env:Env}{e:Expr}{f:Str}{pos:Pos}{s:Shared}{Q:Value->Shared->Prop}(hb:attributeBase e f env (eval e env)=eval e env)
 (h:wpAny (model prog w) A (eval e env) (fun o s₁=>wpAny (model prog w) A (getAttr o f true) Q E s₁) E s):wpAny (model prog w) A (eval (.Attribute e f pos) env) Q E s:=
 Attribute_any_ h (by rw[arm_eval_Attribute,hb])
end
inductive ZtFld(K:W.Frag)(f:Str)(Q:VK)(x:V)(H1:Hp):Prop where
 | mk:∀a C dx fs v,(x=.ref a)->(H1 a=some (.ins C dx fs))->(Cls K C)->(NoAttr K C f)->(fs.lookup f=some v)->(Q v H1)->ZtFld K f Q x H1
def tFld(K:W.Frag)(ta:TE)(f:Str):TE:=fun σ H Q=>ta σ H fun x H1=>ZtFld K f Q x H1
inductive ZsFld(K:W.Frag)(f:Str)(D:Ends)(σ:St)(y:V)(x:V)(H2:Hp):Prop where
 | mk:∀a C dx fs,(x=.ref a)->(H2 a=some (.ins C dx fs))->(Cls K C)->(NoAttr K C f)->(fs.length<1000)->(D.nx σ (upd H2 a (.ins C dx (bK f y fs))))->ZsFld K f D σ y x H2
def sFld(K:W.Frag)(ta tv:TE)(f:Str):TS:=fun D σ H=>tv σ H fun y H1=>ta σ H1 fun x H2=>ZsFld K f D σ y x H2
section
variable {X:Cx} {o e value:Expr} {f:Str} {pos pos' tpos:Pos} {ta tv:TE}
theorem ay(he:PE X e ta)(hb:attributeBase e f X.env (eval e X.env)=eval e X.env):PE X (.Attribute e f pos) (tFld X.K ta f):=by
 intro pins s σ H Q I h;refine Cv hb (thn (he pins s σ H _ I h) fun u s1 ⟨x,H1,I1,rx,a,C,dx,fs,v,ex,ea,c,n,l,q⟩=>?_);subst ex;obtain rfl:u=Value.ref a:=rx;exact vP I1 ea c n l fun u' s2 I2 ru=>⟨v,H1,I2,ru,q⟩
theorem aZ(ha:PE X o ta)(hv:PE X value tv)(hs:swapsWith value (some (.Attribute o f pos')) pos.line X.env=pure false):PS X (.Assign [.Attribute o f pos'] value pos) (sFld X.K ta tv f):=by
 intro pins s σ H D I h;refine plainObj_wpAny_Assign_Attribute (thn (hv pins s σ H _ I h) fun u s1 ⟨y,H1,I1,ry,q⟩=>thn (ha pins s1 σ H1 _ I1 q) fun ov s2 ⟨x,H2,I2,rx,a,C,dx,fs,ex,ea,c,n,l,q2⟩=>?_) hs;subst ex;obtain rfl:ov=Value.ref a:=rx;exact uJ I2 ea c n l ry fun s3 I3=>⟨σ,_,I3,q2⟩
end
section
variable {X:Cx} {pins:List (Addr×Obj)} {σ:St} {H:Hp} {s:Shared} {A:Around} {E:Value->Shared->Prop} {Q:Value->Shared->Prop} {c:Value} {b:Bool}
inductive TyOf(K:W.Frag)(H:Hp):V->Value->Prop where
 | non:TyOf K H .non (.type "NoneType")
 | bl (x:Bool):TyOf K H (.bl x) (.type "bool")
 | int (i:Int):TyOf K H (.int i) (.type "int")
 | str (x:Str):TyOf K H (.str x) (.type "str")
 | flt (x:UInt64):TyOf K H (.flt x) (.type "float")
 | lst {a:Addr} {xs:List V} (e:H a=some (.lst xs)):TyOf K H (.ref a) (.type "list")
 | frz {a:Addr} {o:Obj} {xs:List V} (e:H a=some (.frz o (.lst xs))):TyOf K H (.ref a) (.type "list")
 | tup {a:Addr} {xs:List V} (e:H a=some (.tup xs)):TyOf K H (.ref a) (.type "tuple")
 | dK {a:Addr} {kvs:List (Key×V)} (e:H a=some (.dK kvs)):TyOf K H (.ref a) (.type "dict")
 | dT {a:Addr} {kvs:List (List Key×V)} (e:H a=some (.dT kvs)):TyOf K H (.ref a) (.type "dict")
 | ins {a C dx:Addr} {fs:List (Str×V)} (e:H a=some (.ins C dx fs)) (cl:Cls K C) (ha:PySem.W.findIn K (.ref C) "__class__"=some (some (.builtin "object.__class__")))
  (hn:PySem.W.specialIn K (.builtin "object.__class__") "__get__"=some (some (.builtin "getset_descriptor.__get__"))) (htk:PySem.W.takesIn K (.builtin "object.__class__")=some true)
  (hm:PySem.W.mroIn K C (.type "object")=some true):TyOf K H (.ref a) (.ref C)
theorem yi{x:V}{u t:Value}(I:Inv X pins σ H s)(rx:RelV x u)(ty:TyOf X.K H x t)(e:PySem.W.kitOne X.K t c=some b)(h:∀tk,Q (.bool b) { s with toks:=tk }) :
 wpAny (model X.prog X.w) A (call (.builtin "isinstance") [u,c]) Q E s:=by
 cases ty with
 | non=>cases(show u=Value.none from rx);exact PySem.W.kia_one PySem.W.kitx_none I.kIn True.intro e (fun z=>nomatch z) h
 | bl y=>cases(show u=Value.bool y from rx);exact PySem.W.kia_one PySem.W.kitx_bool I.kIn True.intro e (fun z=>nomatch z) h
 | int i=>obtain⟨t,q⟩:=(show ∃t,u=Value.int i t from rx);cases q;exact PySem.W.kia_one PySem.W.kitx_int I.kIn True.intro e (fun z=>nomatch z) h
 | str y=>obtain⟨t,q⟩:=(show ∃t,u=Value.str y t from rx);cases q;exact PySem.W.kia_one PySem.W.kitx_str I.kIn True.intro e (fun z=>nomatch z) h
 | flt y=>obtain⟨t,q⟩:=(show ∃t,u=Value.float y t from rx);cases q;exact PySem.W.kia_one PySem.W.kitx_float I.kIn True.intro e (fun z=>nomatch z) h
 | @lst a xs ea=>
   cases(show u=Value.ref a from rx);obtain⟨_,_,n,_,h1⟩:=(show ObjOk X.prog X.w H s.heap a (.lst xs)from I.hok a _ ea)
   exact PySem.W.kia_one PySem.W.kitx_list I.kIn ⟨_,h1,rfl⟩ e (fun z=>nomatch z) h
 | @frz a ob xs ea=>
   cases(show u=Value.ref a from rx);obtain⟨_,_,_,n,_,h1⟩:=(show ObjOk X.prog X.w H s.heap a (.frz ob (.lst xs))from I.hok a _ ea)
   exact PySem.W.kia_one PySem.W.kitx_list I.kIn ⟨_,h1,rfl⟩ e (fun z=>nomatch z) h
 | @tup a xs ea=>
   cases(show u=Value.ref a from rx);obtain⟨_,_,_,p,_⟩:=(show ObjOk X.prog X.w H s.heap a (.tup xs)from I.hok a _ ea)
   obtain⟨o,h1,h2,_⟩:=p;exact PySem.W.kia_one PySem.W.kitx_tuple I.kIn ⟨o,h1,h2⟩ e (fun z=>nomatch z) h
 | @dK a kvs ea=>
   cases(show u=Value.ref a from rx);obtain⟨_,_,vs,_,p⟩:=(show ObjOk X.prog X.w H s.heap a (.dK kvs)from I.hok a _ ea)
   obtain⟨o,es,ep,h1,h2,_⟩:=p;exact PySem.W.kia_one PySem.W.kitx_dict I.kIn ⟨o,h1,h2.1⟩ e (fun z=>nomatch z) h
 | @dT a kvs ea=>
   cases(show u=Value.ref a from rx);obtain⟨_,_,xs,_,o,es,ep,h1,h2,_⟩:=(show ObjOk X.prog X.w H s.heap a (.dT kvs)from I.hok a _ ea)
   exact PySem.W.kia_one PySem.W.kitx_dict I.kIn ⟨o,h1,h2.1⟩ e (fun z=>nomatch z) h
 | @ins a C dx fs ea cl ha hn htk hm=>
   cases(show u=Value.ref a from rx);obtain⟨mA,O,_⟩:=mz I.hok ea;obtain⟨od,J,_⟩:=O.look;exact PySem.W.kia_one (PySem.W.kitx_own (cl.get _) cl.hd ha hn htk hm) I.kIn J e (fun z=>nomatch z) h
end
structure Room(k:Nat)(A:Around):Prop where
 hd:A.handled=none
 gd:A.guards=some []
 dp:A.depth+3*k+5<recursionLimit
 un:A.units+16*k+200<cLine
theorem Room.mono{j k:Nat}{A:Around}(r:Room k A)(h:j<=k):Room j A:=⟨r.hd,r.gd,by have:=r.dp;omega,by have:=r.un;omega⟩
theorem Room.deeper{k:Nat}{A:Around}(r:Room (k+1) A)(env:Env):Room k (A.deeper env):=
 ⟨r.hd,r.gd,by have:=r.dp;show A.depth+1+3*k+5<_;omega,by have:=r.un;show A.units+3+16*k+200<_;omega⟩
theorem vH {A:Around} {C:Addr} {us:List Value} {kw:List (Str×Value)}:(A.under (.builtin "type.__call__" ⟨.ref C::us,kw⟩)).depth=A.depth+1:=by
 first | rfl | simp [Around.under,Code.weight,Code.isCreation,Code.isGuard,Code.isCaller,Code.frames,Code.isFrame,guardIds]
theorem vG {A:Around} {C:Addr} {us:List Value} {kw:List (Str×Value)}:(A.under (.builtin "type.__call__" ⟨.ref C::us,kw⟩)).units=A.units+1:=by
 first | rfl | simp [Around.under,Code.cUnits,Code.frames,Code.isFrame]
theorem Room.make {k:Nat} {A:Around} (r:Room (k+1) A) (C:Addr) (us:List Value) (kw:List (Str×Value)):Room k (A.under (.builtin "type.__call__" ⟨.ref C::us,kw⟩)):=
 ⟨r.hd,by simp [Around.under,Code.guards,Code.isGuard,guardIds,pushGuards,r.gd],by have:=r.dp;rw[vH];omega,by have:=r.un;rw[vG];omega⟩
theorem Room.depth{k:Nat}{A:Around}(r:Room k A):A.depth<recursionLimit:=by have:=r.dp;omega
theorem Room.units{k:Nat}{A:Around}(r:Room k A):A.units+64<cLine:=by have:=r.un;omega
def sn:TA:=fun _ H Q=>Q [] H
def jP(ta:TE)(tr:TA):TA:=fun σ H Q=>ta σ H fun x H1=>tr σ H1 fun xs H2=>Q (x::xs) H2
section
variable {X:Cx} {e:Expr} {es:List Expr} {te:TE} {t:TA} {pos:Pos}
theorem aI:PA X [] sn:=fun _ _ _ _ H Q I h=>Calls.spliced_nil ⟨[],H,I,.nil,h⟩
theorem ae(ha:PE X e te)(hr:PA X es t)(hs:starEach (e::es) X.env=(false,eval e X.env)::starEach es X.env:=by rfl):PA X (e::es) (jP te t):=by
 intro pos pins s σ H Q I h;rw[hs];show wpAny _ _ (spliced ((false,eval e X.env)::backTo pos (starEach es X.env))) _ _ s;refine Calls.spliced_cons (thn (ha pins s σ H _ I h) fun u s1 ⟨x,H1,I1,r1,q1⟩=>?_);exact thn (hr pos pins s1 σ H1 _ I1 q1) fun us s2 ⟨xs,H2,I2,r2,q2⟩=>⟨x::xs,H2,I2,.cons r1 r2,q2⟩
inductive ZtTup(Q:VK)(xs:(List V))(H1:Hp):Prop where
 | mk:(xs.length<=sizeLine)->(∀p,H1 p=none->Q (.ref p) (upd H1 p (.tup xs)))->ZtTup Q xs H1
def Dk(t:TA):TE:=fun σ H Q=>t σ H fun xs H1=>ZtTup Q xs H1
inductive ZtLst(Q:VK)(xs:(List V))(H1:Hp):Prop where
 | mk:(xs.length<=sizeLine)->(∀p,H1 p=none->Q (.ref p) (upd H1 p (.lst xs)))->ZtLst Q xs H1
def tLst(t:TA):TE:=fun σ H Q=>t σ H fun xs H1=>ZtLst Q xs H1
theorem aF{x1}(h:PA X es t):PE X (.Tuple es x1 pos) (Dk t):=by
 intro pins s σ H Q I hq;refine wpAny_Tuple_spliced (thn (h pos pins s σ H _ I hq) fun us s1 ⟨xs,H1,I1,r,z,q⟩=>⟨by rw[←r.length];exact z,?_⟩);have hf:H1 s1.heap.objs.size=none:=I1.hok.fresh (zH0 _);refine⟨.ref s1.heap.objs.size,upd H1 s1.heap.objs.size (.tup xs),I1.laid (t':=s1.toks) (fun b u e=>zP0 _ e) (zH0 _) ?_,rfl,q _ hf⟩;exact⟨z,us,r,⟨_,qA0 _ rfl,rfl,_,rfl⟩,_,qA0 _ rfl,rfl⟩
theorem cf(h:PA X es t):PE X (.List es pos) (tLst t):=by
 intro pins s σ H Q I hq;refine wpAny_List_spliced (thn (h pos pins s σ H _ I hq) fun us s1 ⟨xs,H1,I1,r,z,q⟩=>⟨by rw[←r.length];exact z,?_⟩);have hf:H1 s1.heap.objs.size=none:=I1.hok.fresh (zH0 _);refine⟨.ref s1.heap.objs.size,upd H1 s1.heap.objs.size (.lst xs),I1.laid (t':=s1.toks) (fun b u e=>zP0 _ e) (zH0 _) ?_,rfl,q _ hf⟩;exact⟨z,us,0,r,qA0 _ rfl⟩
end
abbrev Sp:=List V->Hp->VK->XK->Prop
abbrev CXT:=List Env->Hp->Shared->XK->Value->Shared->Prop
structure Env0(P:Program)(w:World)(K:W.Frag)(mg:Str->Option Value)(base:Heap)(A:Around)(outer:List Env)(s:Shared)(H:Hp):Prop where
 frames:A.frames=some outer
 mod:Mod K mg base
 bs:∀b o,base.get? b=some o->s.heap.get? b=some o/\H b=none
 bsz:base.objs.size<=s.heap.objs.size
 funs:s.heap.FunFrames base outer
 frf:∀b∈frs outer,H b=none
 hok:HOk P w H s.heap
 bare:AllBare s.gens
def CE(outer:List Env)(P:Program)(w:World)(H:Hp)(s:Shared)(Q:VK)(u:Value)(s':Shared):Prop:=
 ∃v H',s'.os=s.os/\AllBare s'.gens/\Un (frs outer) [] H H' s.heap s'.heap/\HOk P w H' s'.heap/\RelV v u/\Q v H'
def CR(CX:CXT)(outer:List Env)(P:Program)(w:World)(H:Hp)(s:Shared)(Q:VK)(E:XK)(r:Result)(s':Shared):Prop:=
 match r with
 | .ok (.ret u)=>CE outer P w H s Q u s'
 | .ok _=>False
 | .error e=>CX outer H s E e s'
structure FnOk(P:Program)(w:World)(K:W.Frag)(mg:Str->Option Value)(base:Heap)(CX:CXT)(k:Nat)(f:Addr)(fd:FuncData)(ps:List Str)(sp:Sp):Prop where
 len:∀vs H Q E,sp vs H Q E->vs.length=ps.length
 run:∀(A:Around)(outer:List Env)(s:Shared)(H:Hp)(args:Args)(us:List Value)(vs:List V)(Q:VK)(E:XK),Room k A->Env0 P w K mg base A outer s H->BindsTo s fd args (ps.zip us)->Vals vs us->sp vs H Q E ->
  codeAny (model P w) A (.call (.ref f) args) (CR CX outer P w H s Q E) s
theorem Env0.make{P:Program}{w:World}{K:W.Frag}{mg:Str->Option Value}{base:Heap}{A:Around}{outer:List Env}{s:Shared}{H:Hp}(e:Env0 P w K mg base A outer s H)(C:Addr)(us:List Value)(kw:List (Str×Value)) :
 Env0 P w K mg base (A.under (.builtin "type.__call__" ⟨.ref C::us,kw⟩)) outer s H:=⟨by first | exact e.frames | (simpa [Around.under,Code.envs,Code.isFrame,pushEnvs]using e.frames),e.mod,e.bs,e.bsz,e.funs,e.frf,e.hok,e.bare⟩
section
variable {X:Cx} {pins:List (Addr×Obj)} {σ:St} {H:Hp} {s s':Shared}
theorem Inv.env0(I:Inv X pins σ H s):Env0 X.prog X.w X.K X.mg X.base X.A X.stack s H:=
 ⟨I.ok.frames,I.ok.mod,I.bs,zO0 I.ok.bsz I.sz,I.stack,I.stkFree,I.hok,I.bare⟩
theorem Inv.after{Q:VK}{u:Value}(I:Inv X pins σ H s)(h:CE X.stack X.prog X.w H s Q u s'):EP X pins σ Q u s':=by
 obtain⟨v,H',os,bare,un,hok,r,q⟩:=h;obtain⟨hh,g,d,t,os'⟩:=s';obtain rfl:os'=s.os:=os;exact⟨v,H',I.call (h':=hh) (g':=g) (d':=d) (t':=t) (ch:=[]) un hok bare (fun b z=>absurd z (by simp)),r,q⟩
end
def sq(sp:Sp)(dvs:List V)(E:XK)(t:TA):TE:=fun σ H Q=>t σ H fun vs H1=>sp (vs++dvs) H1 Q E
inductive ZtMeth(C:Addr)(m:Str)(sp:Sp)(dvs:List V)(E:XK)(t:TA)(σ:St)(Q:VK)(x:V)(H1:Hp):Prop where
 | mk:∀a dx fs,(x=.ref a)->(H1 a=some (.ins C dx fs))->(fs.lookup m=none)->(t σ H1 fun vs H2=>sp (x::(vs++dvs)) H2 Q E)->ZtMeth C m sp dvs E t σ Q x H1
def CI(C:Addr)(m:Str)(sp:Sp)(dvs:List V)(E:XK)(ta:TE)(t:TA):TE:=fun σ H Q=>ta σ H fun x H1=>ZtMeth C m sp dvs E t σ Q x H1
def tMake(C:Addr)(sp:Sp)(dvs:List V)(E:XK)(t:TA):TE:=fun σ H Q=>t σ H fun vs H1=>∀x dx,H1 x=none->H1 dx=none->dx≠x ->
 sp (.ref x::(vs++dvs)) (upd (upd H1 dx (.own x)) x (.ins C dx [])) (fun v H2=>v=.non/\Q (.ref x) H2) E
def Binds(K:W.Frag)(fd:FuncData)(ps:List Str)(ds:List Value):Prop:=
 ∀(s:Shared)(us:List Value),K.In s.heap->(us++ds).length=ps.length->BindsTo s fd ⟨us,[]⟩ (ps.zip (us++ds))
theorem Binds.all{K:W.Frag}{fd:FuncData}{ps:List Str}(h:∀us:List Value,us.length=ps.length->bindArgs fd ⟨us,[]⟩=pure (ps.zip us)):Binds K fd ps []:=fun s us _ hl=>by
 rw[List.append_nil]at hl ⊢;exact .of_eq (h us hl)
def iZ(CX:CXT)(X:Cx)(E:XK):Prop:=∀(pins:List (Addr×Obj))(σ:St)(H:Hp)(s:Shared)(e:Value)(s':Shared),Inv X pins σ H s->CX X.stack H s E e s'->X.xe e s'
section
variable {X:Cx} {CX:CXT} {k:Nat} {f C:Addr} {fd:FuncData} {ps:List Str} {sp:Sp} {dvs:List V} {ds:List Value} {E:XK} {x m:Str} {p pos apos:Pos} {e o:Expr} {es:List Expr} {ta:TE} {t:TA}
theorem qQ{pins:List (Addr×Obj)}{σ:St}{H:Hp}{s:Shared}{Q:VK}{us:List Value}{vs:List V}(F:FnOk X.prog X.w X.K X.mg X.base CX k f fd ps sp)(hr:Room k X.A)(hb:Binds X.K fd ps ds)(hd:Vals dvs ds)(hx:iZ CX X E)
 (I:Inv X pins σ H s) (r:Vals vs us) (h:sp (vs++dvs) H Q E):wpAny (model X.prog X.w) X.A (call (.ref f) us) (EP X pins σ Q) X.xe s:=by
 have r2:Vals (vs++dvs) (us++ds):=r.append hd;have hl:(us++ds).length=ps.length:=by rw[←r2.length];exact F.len _ _ _ _ h
 refine wpAny_call (codeAny_mono (F.run X.A X.stack s H ⟨us,[]⟩ (us++ds) (vs++dvs) Q E hr I.env0 (hb s us I.kIn hl) r2 h) fun r s' hq=>?_);cases r with
 | error e=>exact hx pins σ H s e s' I hq
 | ok fl=>
   cases fl with
   | ret u=>exact I.after hq
   | next=>exact False.elim hq
   | brk=>exact False.elim hq
   | cont=>exact False.elim hq
theorem BQ(F:FnOk X.prog X.w X.K X.mg X.base CX k f fd ps sp)(hr:Room k X.A)(hg:Gl X x)(hm:X.mg x=some (.ref f))(hk:PySem.W.keepIn X.K (.ref f)=true)(hb:Binds X.K fd ps ds)(hd:Vals dvs ds)(hx:iZ CX X E)
 (ha:PA X (e::es) t) (hdb:(x==("__debug__":Str))=false:=by decide) (he:starEach (e::es) X.env=(false,eval e X.env)::starEach es X.env:=by rfl) (hpl:(backTo pos (starEach es X.env)).any (·.1)=false:=by rfl) :
 PE X (.Call (.Name x p) (e::es) [] pos) (sq sp dvs E t):=by
 intro pins s σ H Q I h;refine wpAny_Call_Name_kw (my I hg hm ?_ hdb);refine PySem.W.callWith_K (h₀:=X.base) I.ok.mod.kin hk (thn (ha pos pins s σ H _ I h) fun us s1 ⟨vs,H1,I1,r,q⟩=>⟨I1.kIn,?_⟩) he hpl;exact qQ F hr hb hd hx I1 r q
theorem zS(F:FnOk X.prog X.w X.K X.mg X.base CX k f fd ps sp)(hr:Room k X.A)(hg:Gl X x)(hm:X.mg x=some (.ref f))(hk:PySem.W.keepIn X.K (.ref f)=true)(hb:Binds X.K fd ps ds)(hd:Vals dvs ds)(hx:iZ CX X E)
 (hdb:(x==("__debug__":Str))=false:=by decide):PE X (.Call (.Name x p) [] [] pos) (sq sp dvs E sn):=by
 intro pins s σ H Q I h;refine wpAny_Call_Name_kw (my I hg hm ?_ hdb);exact PySem.W.callWith_K0 I.kIn hk (qQ (us:=[]) F hr hb hd hx I .nil h)
theorem bu{pl:Sem Bool}(he:PE X o ta)(c:Cls X.K C)(hm:Meth X.K C m f)(F:FnOk X.prog X.w X.K X.mg X.base CX k f fd ps sp)(hr:Room k X.A)(hb:Binds X.K fd ps ds)(hd:Vals dvs ds)(hx:iZ CX X E)(ha:PA X (e::es) t)
 (hst:starEach (e::es) X.env=(false,eval e X.env)::starEach es X.env:=by rfl) (hpl:(backTo pos (starEach es X.env)).any (·.1)=false:=by rfl)
 (ht:eval (.Call (.Attribute o m apos) (e::es) [] pos) X.env=(do
  let ov ←eval o X.env
  standAt apos.atName
  let(f,first) ←holding [ov] (getMethod ov m pl)
  callWith pos f first (backTo pos (starEach (e::es) X.env)) (backToKw pos (keywordEach [] X.env))):=by rfl) :
 PE X (.Call (.Attribute o m apos) (e::es) [] pos) (CI C m sp dvs E ta t):=by
 intro pins s σ H Q I h;refine PySem.W.methodCall_KW (pl:=pl) (thn (he pins s σ H _ I h) fun u s1 ⟨x,H1,I1,rx,a,dx,fs,ex,ea,l,q⟩=>?_) ht;subst ex;obtain rfl:u=Value.ref a:=rx;refine oR I1 ea c hm l ?_;refine PySem.W.callWith_K (first:=[.ref a]) (h₀:=X.base) I.ok.mod.kin hm.kp (thn (ha pos pins s1 σ H1 _ I1 q) fun us s2 ⟨vs,H2,I2,r,q2⟩=>⟨I2.kIn,?_⟩) hst hpl;exact qQ (us:=.ref a::us) (vs:=.ref a::vs) F hr hb hd hx I2 (.cons rfl r) q2
theorem fL{pl:Sem Bool}(he:PE X o ta)(c:Cls X.K C)(hm:Meth X.K C m f)(F:FnOk X.prog X.w X.K X.mg X.base CX k f fd ps sp)(hr:Room k X.A)(hb:Binds X.K fd ps ds)(hd:Vals dvs ds)(hx:iZ CX X E)
 (ht:eval (.Call (.Attribute o m apos) [] [] pos) X.env=(do
  let ov ←eval o X.env
  standAt apos.atName
  let(f,first) ←holding [ov] (getMethod ov m pl)
  callWith pos f first (backTo pos (starEach [] X.env)) (backToKw pos (keywordEach [] X.env))):=by rfl) :
 PE X (.Call (.Attribute o m apos) [] [] pos) (CI C m sp dvs E ta sn):=by
 intro pins s σ H Q I h;refine PySem.W.methodCall_KW (pl:=pl) (thn (he pins s σ H _ I h) fun u s1 ⟨x,H1,I1,rx,a,dx,fs,ex,ea,l,q⟩=>?_) ht;subst ex;obtain rfl:u=Value.ref a:=rx;refine oR I1 ea c hm l ?_;exact PySem.W.callWith_K0 (first:=[.ref a]) I1.kIn hm.kp (qQ (us:=[.ref a]) (vs:=[.ref a]) F hr hb hd hx I1 (.cons rfl .nil) q)
structure Mk(K:W.Frag)(C f:Addr):Prop where
 makes:PySem.W.makesIn K C=true
 init:PySem.W.findIn K (.ref C) "__init__"=some (some (.ref f))
 fn:PySem.W.isFn K (.ref f)=true
 kp:PySem.W.keepIn K (.ref C)=true
theorem zC{pins:List (Addr×Obj)}{σ:St}{H:Hp}{s:Shared}{Q:VK}{us:List Value}{vs:List V}(M:Mk X.K C f)(F:FnOk X.prog X.w X.K X.mg X.base CX k f fd ps sp)(hr:Room (k+1) X.A)(hb:Binds X.K fd ps ds)(hd:Vals dvs ds)
 (hx:iZ CX X E) (I:Inv X pins σ H s) (r:Vals vs us)
 (h:∀x dx,H x=none->H dx=none->dx≠x->sp (.ref x::(vs++dvs)) (upd (upd H dx (.own x)) x (.ins C dx [])) (fun v H2=>v=.non/\Q (.ref x) H2) E) :
 wpAny (model X.prog X.w) X.A (call (.ref C) us) (EP X pins σ Q) X.xe s:=by
 have hq:=h (s.heap.objs.size+1) s.heap.objs.size (I.hok.fresh (qL0 _)) (I.hok.fresh (zH0 _)) (zT0 (Nat.lt_succ_self _));have I2:=Inv.made (C:=C) I;have r2:Vals (V.ref (s.heap.objs.size+1)::(vs++dvs)) (Value.ref (s.heap.objs.size+1)::(us++ds)):=.cons rfl (r.append hd);have hl:(Value.ref (s.heap.objs.size+1)::us++ds).length=ps.length:=by
  have e:=r2.length;rw[F.len _ _ _ _ hq]at e;exact e.symm
 refine wpAny_call (Au (f:=f) I.kIn M.makes M.init (beq_iff_eq.mp M.fn) (codeAny_mono (F.run _ X.stack _ _ ⟨Value.ref (s.heap.objs.size+1)::us,[]⟩ (Value.ref (s.heap.objs.size+1)::(us++ds)) _ _ E (hr.make C us [])
  (I2.env0.make C us []) (hb _ (Value.ref (s.heap.objs.size+1)::us) I2.kIn hl) r2 hq) fun r s' hq'=>?_))
 cases r with
 | error e=>exact hx pins σ _ _ e s' I2 hq'
 | ok fl=>
   cases fl with
   | ret u=>
     obtain⟨v,H',I3,rv,ev,q3⟩:=I2.after hq';subst ev;exact⟨rv,⟨V.ref (s.heap.objs.size+1),H',I3,rfl,q3⟩⟩
   | next=>exact False.elim hq'
   | brk=>exact False.elim hq'
   | cont=>exact False.elim hq'
theorem ib(M:Mk X.K C f)(F:FnOk X.prog X.w X.K X.mg X.base CX k f fd ps sp)(hr:Room (k+1) X.A)(hg:Gl X x)(hm:X.mg x=some (.ref C))(hb:Binds X.K fd ps ds)(hd:Vals dvs ds)(hx:iZ CX X E)
 (ha:PA X (e::es) t) (hdb:(x==("__debug__":Str))=false:=by decide) (he:starEach (e::es) X.env=(false,eval e X.env)::starEach es X.env:=by rfl) (hpl:(backTo pos (starEach es X.env)).any (·.1)=false:=by rfl) :
 PE X (.Call (.Name x p) (e::es) [] pos) (tMake C sp dvs E t):=by
 intro pins s σ H Q I h;refine wpAny_Call_Name_kw (my I hg hm ?_ hdb);refine PySem.W.callWith_K (h₀:=X.base) I.ok.mod.kin M.kp (thn (ha pos pins s σ H _ I h) fun us s1 ⟨vs,H1,I1,r,q⟩=>⟨I1.kIn,?_⟩) he hpl;exact zC M F hr hb hd hx I1 r q
end
structure FnScope(N P:List Str)(sc:Scope):Prop where
 kind:sc.kind=.function
 co:sc.isCoroutine=false
 gen:sc.isGenerator=false
 nd:N.Nodup
 pre:N.take P.length=P
 par:∀x∈P,sc.names.lookup x=some .local∨sc.names.lookup x=some .cell
 nofree:∀y∈sc.names,y.2≠.free
theorem qr{kindOf:Str->Option NameKind}{x:Str}:∀{binds:List (Str×Value)}{m:Str->Option Value},(∀v,(x,v)∉binds)->bindL kindOf binds m x=m x
 | [],_,_=>rfl
 | (n,v)::r,m,h=>by
   unfold bindL;rw[qr fun w hw=>h w (qH0 _ hw)]
   split
   . have:x≠n:=by rintro rfl;exact h v zU0
     simp [this]
   . rfl
theorem qu{kindOf:Str->Option NameKind}{x:Str}:∀{binds:List (Str×Value)}{m:Str->Option Value},(∀v,(x,v)∉binds)->bindC kindOf binds m x=m x
 | [],_,_=>rfl
 | (n,v)::r,m,h=>by
   unfold bindC;rw[qu fun w hw=>h w (qH0 _ hw)]
   split
   . rfl
   . have:x≠n:=by rintro rfl;exact h v zU0
     simp [this]
theorem qt{kindOf:Str->Option NameKind}{x:Str}{v:Value}:∀{P:List Str}{vs:List Value}{i:Nat}{m:Str->Option Value},P.Nodup->P[i]?=some x->vs[i]?=some v->kindOf x=some .local ->
 bindL kindOf (P.zip vs) m x=some v
 | [],_,_,_,_,h,_,_=>by simp at h
 | _::_,[],_,_,_,_,h,_=>by simp at h
 | p::P,w::vs,0,m,nd,h1,h2,hk=>by
   simp at h1 h2;subst h1;subst h2
   show bindL kindOf ((p,w)::P.zip vs) m p=_;unfold bindL;rw[qr fun v hv=>(List.nodup_cons.mp nd).1 (List.of_mem_zip hv).1,zE0 hk]
   simp
 | p::P,w::vs,i+1,m,nd,h1,h2,hk=>by
   show bindL kindOf ((p,w)::P.zip vs) m x=_;unfold bindL;exact qt (i:=i) (List.nodup_cons.mp nd).2 (by simpa using h1) (by simpa using h2) hk
theorem qv{kindOf:Str->Option NameKind}{x:Str}{v:Value}:∀{P:List Str}{vs:List Value}{i:Nat}{m:Str->Option Value},P.Nodup->P[i]?=some x->vs[i]?=some v->kindOf x≠some .local ->
 bindC kindOf (P.zip vs) m x=some v
 | [],_,_,_,_,h,_,_=>by simp at h
 | _::_,[],_,_,_,_,h,_=>by simp at h
 | p::P,w::vs,0,m,nd,h1,h2,hk=>by
   simp at h1 h2;subst h1;subst h2
   show bindC kindOf ((p,w)::P.zip vs) m p=_;unfold bindC;rw[qu fun v hv=>(List.nodup_cons.mp nd).1 (List.of_mem_zip hv).1,zB0 hk]
   simp
 | p::P,w::vs,i+1,m,nd,h1,h2,hk=>by
   show bindC kindOf ((p,w)::P.zip vs) m x=_;unfold bindC;exact qv (i:=i) (List.nodup_cons.mp nd).2 (by simpa using h1) (by simpa using h2) hk
def lF(N:List Str)(vs:List V):St:=vs.map some++List.replicate (N.length-vs.length) none
def yB(CX:CXT)(P:Program)(w:World)(K:W.Frag)(mg:Str->Option Value)(base:Heap)(N:List Str)(qual:Str)(scope:Scope)(f:Addr)(cd:Value)(A:Around)(outer:List Env)(s:Shared)(H:Hp)(E:XK):Cx where
 prog:=P
 w:=w
 K:=K
 mg:=mg
 base:=base
 A:=A.deeper (envOfC qual scope s.heap.objs.size f cd)
 N:=N
 s₀:=s
 H₀:=H
 env:=envOfC qual scope s.heap.objs.size f cd
 outer:=outer
 stack:=envOfC qual scope s.heap.objs.size f cd::outer
 ex:=[]
 calm:=true
 fn:=fun _=>true
 pn:=[]
 xe:=fun e s'=>wpAny (model P w) (A.deeper (envOfC qual scope s.heap.objs.size f cd)) (leaving (envOfC qual scope s.heap.objs.size f cd) e) (fun _ s''=>CX outer H s E e s'') (fun e' s''=>CX outer H s E e' s'') s'
theorem tX{sc:Scope}{n:Nat}{x:Str}(h:sc.names.lookup x=some .cell):∃c,(cellsFrom n sc.names []).lookup x=some c:=by
 have q:=PySem.W.cellsFrom_some sc.names n [] (.inl h);exact Option.isSome_iff_exists.mp q
theorem yk{CX:CXT}{P:Program}{w:World}{K:W.Frag}{mg:Str->Option Value}{base:Heap}{N ps:List Str}{qual:Str}{scope:Scope}{f:Addr}{cd:Value}{A:Around}{outer:List Env}{s s1:Shared}{H:Hp}{E:XK}{us:List Value}{vs:List V}
 (S:FnScope N ps scope) (hd:A.handled=none) (e0:Env0 P w K mg base A outer s H) (hl:vs.length=ps.length) (r:Vals vs us)
 (x:InCallC s s.heap.objs.size (bindL (envOfC qual scope s.heap.objs.size f cd).kindOf (ps.zip us) fun _=>none) (cellsFrom (s.heap.objs.size+1) scope.names []) (bindC (envOfC qual scope s.heap.objs.size f cd).kindOf (ps.zip us) fun _=>none) s1) :
 Inv (yB CX P w K mg base N qual scope f cd A outer s H E) [] (lF N vs) H s1:=by
 have hpl:ps.length<=N.length:=by have:=congrArg List.length S.pre;rw[qM0]at this;omega
 obtain⟨h1,tk,rfl,hk⟩:=x.done;have noA:∀b:Addr,b∉(yB CX P w K mg base N qual scope f cd A outer s H E).ex:=fun b z=>absurd (show b∈([]:List Addr)from z) (by simp)
 refine ⟨⟨e0.mod,S.kind,rfl,rfl,zH0 _,fun y z c h1 h2=>?_,fun y hy=>?_,fun y c _ h=>?_,fun _=>hd,Around.frames_deeper e0.frames,.inr ⟨rfl,rfl⟩,fun b z=>absurd z (noA b),e0.bs,e0.bsz,fun b _ _=>noA b,fun b z=>absurd z (noA b),e0.funs,e0.frf⟩,
  rfl,e0.bare,Un.kept hk,⟨_,x.toInCall.ns,fun i y v h1 h2 h3=>?_⟩,fun y c h=>⟨_,x.cell y c h⟩,e0.hok.fresh (zH0 _),fun y c h=>?_,fun p hp=>absurd (show p∈([]:List (Addr×Obj))from hp) (by simp),e0.hok.kept hk,?_⟩
 . exact name_of_addr x.apart (PySem.mem_of_lookup h1) (PySem.mem_of_lookup h2)
 . have hy:scope.names.lookup y=some .cell∨scope.names.lookup y=some .free:=hy;rcases hy with hy | hy
   . exact tX hy
   . exact absurd rfl (S.nofree _ (PySem.mem_of_lookup hy))
 . exact Nat.le_of_lt (x.above y c (PySem.mem_of_lookup h))
 . have hi:i<vs.length:=by
    unfold lF at h2
    by_cases hi:i<vs.length
    . exact hi
    . rw [List.getElem?_append_right (by simpa using hi)]at h2;rw[List.getElem?_replicate]at h2
      split at h2 <;> cases h2
   have ha:vs[i]?=some v:=by
    unfold lF at h2;rw[List.getElem?_append_left (by simpa using hi),qE0]at h2;cases e:vs[i]? with
    | none=>rw[e]at h2;cases h2
    | some a=>rw[e]at h2;cases h2;rfl
   obtain ⟨u,hu,rv⟩:=r.get ha;have hp:ps[i]?=some y:=by
    rw[←S.pre,List.getElem?_take_of_lt (by omega)];exact h1
   have ndP:ps.Nodup:=by rw[←S.pre];exact S.nd.sublist (List.take_sublist _ _)
   refine⟨u,rv,?_⟩;rcases S.par y (qI0 hp)with k | k
   . exact .inl ⟨k,qt ndP hp hu k⟩
   . obtain⟨c,e⟩:=tX (n:=s.heap.objs.size+1) k;refine .inr ⟨.inl k,c,e,?_⟩;have q:=x.cell y c e;rw[qv ndP hp hu (by show scope.names.lookup y≠_;rw[k];decide)]at q;exact q
 . exact e0.hok.fresh (Nat.le_of_lt (x.above y c (PySem.mem_of_lookup h)))
 . unfold lF;show _=N.length;rw[zJ0,zF0,List.length_replicate];omega
theorem fn_of{CX:CXT}{P:Program}{w:World}{K:W.Frag}{mg:Str->Option Value}{base:Heap}{k:Nat}{f:Addr}{name qual:Str}{params:Arguments}{body:List Stmt}{scope:Scope}{dV kV doc pm cdv ct oc:Value}{an od:Option Addr}
 {osl:Array (Option Value)} {N ps:List Str} {sp:Sp} (lk:K.lookup f=some ⟨oc,od,.func (PySem.W.fnOf name qual params body scope dV kV doc pm an cdv ct),osl⟩) (hcd:PySem.W.codeIn K cdv qual=true) (S:FnScope N ps scope)
 (len:∀vs H Q E,sp vs H Q E->vs.length=ps.length)
 (hbody:∀(A:Around)(outer:List Env)(s:Shared)(H:Hp)(vs:List V)(Q:VK)(E:XK),Room k (A.deeper (envOfC qual scope s.heap.objs.size f cdv))->sp vs H Q E ->
  ∃t,PSs (yB CX P w K mg base N qual scope f cdv A outer s H E) body t/\t { nx:=fun _ H'=>Q .non H',rt:=Q } (lF N vs) H) :
 FnOk P w K mg base CX (k+1) f (PySem.W.fnOf name qual params body scope dV kV doc pm an cdv ct) ps sp:=by
 refine⟨len,fun A outer s H args us vs Q E hr e0 hb r hsp=>?_⟩;have hl:=len _ _ _ _ hsp;have KX:K.In s.heap:=e0.mod.kin.keeps fun b o e=>(e0.bs b o e).1
 have lim:s.heap.NoLimit:=e0.mod.nolimit.keeps fun b o e=>(e0.bs b o e).1
 have hkind:∀y∈ps.zip us,scope.names.lookup y.1=some .local∨(scope.names.lookup y.1=some .cell/\((cellsFrom (s.heap.objs.size+1) scope.names []).lookup y.1).isSome=true):=fun⟨n,v⟩ hy=>by
  rcases S.par n (List.of_mem_zip hy).1 with q | q
  . exact .inl q
  . exact .inr ⟨q,PySem.W.cellsFrom_some _ _ _ (.inl q)⟩
 refine codeAny_call_function hr.depth (KX _ _ lk) rfl S.co S.gen rfl (PySem.W.codeRec_of KX hcd) (hb _ _ _ _ ?_);refine wpAny_newFunctionEnv_cells S.kind hkind fun env he s1 x=>?_
 subst he;refine⟨lim.keeps x.toInCall.keep,codeAny_func ?_⟩;obtain⟨t,ht,hq⟩:=hbody A outer s H vs Q E (hr.deeper _) hsp;have I:Inv (yB CX P w K mg base N qual scope f cdv A outer s H E) [] (lF N vs) H s1:=yk S hr.hd e0 hl r x;refine wpAny_mono (ht [] s1 (lF N vs) H _ I hq) (fun fl s' hs=>?_) fun e s' hs=>hs
 have fin:∀{σ':St}{H':Hp}{v:V}{u:Value},Inv (yB CX P w K mg base N qual scope f cdv A outer s H E) [] σ' H' s'->RelV v u->Q v H'->CE outer P w H s Q u s':=
  fun{σ' H' v u} J rv q=>⟨v,H',J.os,J.bare,J.base,J.hok,rv,q⟩
 cases fl with
 | ret u=>
   obtain⟨v,σ',H',J,rv,q⟩:=hs;exact fin J rv q
 | next=>
   obtain⟨σ',H',J,q⟩:=hs;exact fin (v:=V.non) (u:=Value.none) J rfl q
 | brk=>
   obtain⟨_,_,_,q⟩:=hs;exact False.elim q
 | cont=>
   obtain⟨_,_,_,q⟩:=hs;exact False.elim q
section
variable {X:Cx} {x:Str} {p pos:Pos} {e:Expr} {es:List Expr} {t:TA} {id T:String} {r:List V->Hp->VK->Prop}
def tCB(r:List V->Hp->VK->Prop)(t:TA):TE:=fun σ H Q=>t σ H fun vs H1=>r vs H1 Q
theorem aA (hc:gI X (.builtin id) r) (hg:Gl X x) (hm:X.mg x=none) (hv:bootBuiltins x=some (.builtin id)) (ha:PA X (e::es) t) (hn:x≠"__name__":=by decide) (hdb:(x==("__debug__":Str))=false:=by decide)
 (he:starEach (e::es) X.env=(false,eval e X.env)::starEach es X.env:=by rfl) (hpl:(backTo pos (starEach es X.env)).any (·.1)=false:=by rfl):PE X (.Call (.Name x p) (e::es) [] pos) (tCB r t):=by
 intro pins s σ H Q I h;refine wpAny_Call_Name_kw (eT I hg hm hv ?_ hn hdb);exact PyProof.Rows.callWith_builtin1 (thn (ha pos pins s σ H _ I h) fun us s1 ⟨vs,H1,I1,r1,q1⟩=>hc pins s1 σ H1 vs us Q I1 r1 q1) he hpl
theorem cg (hc:gI X (.type T) r) (hg:Gl X x) (hm:X.mg x=none) (hv:bootBuiltins x=some (.type T)) (ha:PA X (e::es) t) (hn:x≠"__name__":=by decide) (hdb:(x==("__debug__":Str))=false:=by decide)
 (he:starEach (e::es) X.env=(false,eval e X.env)::starEach es X.env:=by rfl) (hpl:(backTo pos (starEach es X.env)).any (·.1)=false:=by rfl):PE X (.Call (.Name x p) (e::es) [] pos) (tCB r t):=by
 intro pins s σ H Q I h;refine wpAny_Call_Name_kw (eT I hg hm hv ?_ hn hdb);exact PyProof.Rows.callWith_type1 (thn (ha pos pins s σ H _ I h) fun us s1 ⟨vs,H1,I1,r1,q1⟩=>hc pins s1 σ H1 vs us Q I1 r1 q1) he hpl
end
end L2
namespace HT
open PySem PyProof.Rows
section
variable {prog:Program} {w:World} {A:Around} {E:Value->Shared->Prop} {s:Shared}
theorem cat_tup{t b:Addr}{vs ws:List Value}{Q:Value->Shared->Prop}(ht:IsTup s.heap t vs.toArray)(hb:IsTup s.heap b ws.toArray)(hv:vs≠[])
 (h1:ws=[]->Q (.ref t) s) (h2:ws≠[]->Q (.ref s.heap.objs.size) { s with heap:=s.heap.push { cls:=.type "tuple",data:=.seq (vs++ws).toArray } })
 (hsz:vs.length+ws.length<=sizeLine):wpAny (model prog w) A (binaryOp .Add (.ref t) (.ref b)) Q E s:=by
 obtain⟨⟨cls,dd,data,sl⟩,ho,hc,n,hd⟩:=id ht;obtain⟨⟨cls2,dd2,data2,sl2⟩,ho2,hc2,n2,hd2⟩:=id hb;simp only at hc hd hc2 hd2;subst hc hd hc2 hd2;have e:vs.toArray++ws.toArray=(vs++ws).toArray:=by simp
 by_cases hw:ws=[]
 . exact concat_meets ⟨_,ho,rfl⟩ ⟨_,ho2,rfl⟩ noFill_tuple_add seq_tuple_add PySem.F.slot_tuple_add PySem.F.entry_tuple_add (PySem.F.args_tuple_add_2 _ _)
    (tuple_addW1 t b vs.toArray ws.toArray n n2 dd dd2 sl sl2 (by simpa using hv) (by simp [hw])) ⟨ho,ho2,h1 hw⟩
 . refine concat_meets ⟨_,ho,rfl⟩ ⟨_,ho2,rfl⟩ noFill_tuple_add seq_tuple_add PySem.F.slot_tuple_add PySem.F.entry_tuple_add (PySem.F.args_tuple_add_2 _ _)
    (tuple_addW2 t b vs.toArray ws.toArray n n2 dd dd2 sl sl2 (by simpa using hv) (by simpa using hw) (by rw[zS0,zS0];exact hsz)) ⟨ho,ho2,?_⟩
   rw[e];exact h2 hw
def sIx(n d:Nat):Option Int->Nat
 | none=>d
 | some v=>if v<0 then(v+(n:Int)).toNat else min v.toNat n
theorem sIx_none(n d:Nat):sIx n d none=d:=rfl
theorem sIx_nat(n d k:Nat):sIx n d (some (k:Int))=min k n:=by
 show(if(k:Int)<0 then((k:Int)+(n:Int)).toNat else min (k:Int).toNat n)=min k n;rw[zB0 (by omega),qQ0]
theorem Dw(n d:Nat)(hd:d<=n)(o:Option Int):sIx n d o<=n:=by
 cases o with
 | none=>exact hd
 | some v=>
   show(if v<0 then(v+(n:Int)).toNat else min v.toNat n)<=n
   by_cases hv:v<0
   . rw[zE0 hv];omega
   . rw[zB0 hv];exact Nat.min_le_right _ _
theorem wV(v:Int)(n d:Nat):(if v<0 then max (v+(n:Int)) 0 else min v (n:Int))=((sIx n d (some v):Nat):Int):=by
 show(if v<0 then max (v+(n:Int)) 0 else min v (n:Int))=(((if v<0 then(v+(n:Int)).toNat else min v.toNat n):Nat):Int)
 by_cases hv:v<0
 . simp only[zE0 hv];omega
 . simp only[zB0 hv];omega
theorem vY(lo hi:Option Int)(n:Nat):Builtin.Slice.sliceAdjust lo hi 1 (n:Int)=(((sIx n 0 lo:Nat):Int),((sIx n n hi:Nat):Int)):=by
 have h1:¬ ((1:Int)<0):=by omega
 unfold Builtin.Slice.sliceAdjust;simp only[h1,if_false];refine Prod.ext ?_ ?_
 . cases lo with
   | none=>rfl
   | some v=>exact wV v n 0
 . cases hi with
   | none=>rfl
   | some v=>exact wV v n n
theorem uZ(i j:Nat):Builtin.Slice.slicePlaces (i:Int) (j:Int) 1=j-i:=by
 unfold Builtin.Slice.slicePlaces;have h1:(1:Int)>0:=by omega
 simp only[h1,if_true,Int.ediv_one]
 split <;> omega
theorem nh{v:Value}{o:Option Int}{Q:Option Int->Shared->Prop}(p:IsPart v o)(h:Q o s):wpAny (model prog w) A (Builtin.Slice.slicePartIndex v) Q E s:=by
 cases p with
 | none=>exact slicePart_none h
 | int i t=>exact slicePart_int h
theorem kO{sl:Addr}{vl vu:Value}{lo hi:Option Int}{n:Nat}{Q:Int×Int×Nat->Shared->Prop}(hs:s.heap.IsSliceOf sl vl vu .none)(pl:IsPart vl lo)(pu:IsPart vu hi)
 (h:Q (((sIx n 0 lo:Nat):Int),1,sIx n n hi-sIx n 0 lo) s):wpAny (model prog w) A (Builtin.Slice.sliceApplied (.ref sl) (pure (n:Int))) Q E s:=by
 obtain⟨os,hos,hcs,hds⟩:=id hs;unfold Builtin.Slice.sliceApplied Builtin.Slice.sliceFields;refine zA0 (zA0 (wpAny_field hos hds (x:=vl) rfl (zA0 (wpAny_field hos hds (x:=vu) rfl (zA0 (wpAny_field hos hds (x:=.none) rfl (zI0 ?_)))))));refine zA0 (slicePart_none ?_);show wpAny _ _ (if((1:Int)==0)=true then _ else _) _ _ s;rw[zB0 (by decide)];refine zA0 (nh pl (zA0 (nh pu (zA0 (zI0 ?_)))));show wpAny _ _ (match Builtin.Slice.sliceAdjust lo hi 1 (n:Int)with | (lo,hi)=>pure (lo,(1:Int),Builtin.Slice.slicePlaces lo hi 1)) _ _ s;rw[vY lo hi n];show wpAny _ _ (pure (((sIx n 0 lo:Nat):Int),(1:Int),Builtin.Slice.slicePlaces ((sIx n 0 lo:Nat):Int) ((sIx n n hi:Nat):Int) 1)) _ _ s;rw[uZ];exact zI0 h
theorem zL(xs:Array Value)(i k:Nat):((List.range k).filterMap fun(m:Nat)=>xs[((i:Int)+(m:Int)*1).toNat]?).toArray=((xs.toList.drop i).take k).toArray:=by
 have e:(fun(m:Nat)=>xs[((i:Int)+(m:Int)*1).toNat]?)=fun m=>xs[i+m]?:=by
  funext m
  have:((i:Int)+(m:Int)*1).toNat=i+m:=by omega
  rw[this]
 rw[e]
 have:=pick_run xs i k
 rw[List.filterMap_map]at this;have e2:((fun x=>xs[x]?) ∘ fun x=>i+x)=fun m=>xs[i+m]?:=rfl
 rw[e2]at this;rw[this]
theorem getItem_tuple_cut{t sl:Addr}{items:Array Value}{vl vu:Value}{lo hi:Option Int}{Q:Value->Shared->Prop}(ht:IsTup s.heap t items)(hs:s.heap.IsSliceOf sl vl vu .none)(pl:IsPart vl lo)(pu:IsPart vu hi)
 (hw:¬ (sIx items.size 0 lo=0/\sIx items.size items.size hi=items.size))
 (h:Q (.ref s.heap.objs.size) { s with heap:=s.heap.push { cls:=.type "tuple",data:=.seq ((items.toList.drop (sIx items.size 0 lo)).take (sIx items.size items.size hi-sIx items.size 0 lo)).toArray } })
 (hsz:items.size<=sizeLine):wpAny (model prog w) A (getItem (.ref t) (.ref sl)) Q E s:=by
 have htake:sizeOk (.seq ((items.toList.drop (sIx items.size 0 lo)).take (sIx items.size items.size hi-sIx items.size 0 lo)).toArray):=by
  show((items.toList.drop (sIx items.size 0 lo)).take (sIx items.size items.size hi-sIx items.size 0 lo)).toArray.size<=sizeLine;rw[zS0,qM0,List.length_drop,Array.length_toList];omega
 have hj:sIx items.size items.size hi<=items.size:=Dw _ _ (zH0 _) hi;obtain⟨os,hos,hcs,hds⟩:=id hs;have hTs:s.TypeIs (.ref sl) "slice":=⟨os,hos,hcs⟩
 unfold getItem
 try with_reducible refine wpAny_holding ?_
 first | refine zA0 (zI0 ?_) | skip
 refine zA0 (wpAny_sequenceKey ht.typeIs (by decide) ?_);refine zA0 (wpAny_callSpecial?_slot (name:=Str.ofString "__getitem__") ht.typeIs PyProof.Rows.slot_tuple_getitem
  (wpAny_call_entry PyProof.Rows.slot_tuple_getitem ht.typeIs entry_tuple_getitem ?_ (args_tuple_getitem _ _)))
 show wpAny _ _ (Builtin.Tuple.tupleItemsOf (.ref t) >>= _) _ _ s;refine zA0 (tupleItemsOf_ ht ?_);refine zA0 (wpAny_typeOf hTs ?_);rw[zE0 (by decide)];refine zA0 (kO hs pl pu ?_);have hno:¬ ((((sIx items.size 0 lo:Nat):Int)==0&&(1:Int)==1&&(sIx items.size items.size hi-sIx items.size 0 lo)==items.size)=true):=by
  intro q;rw[Bool.and_eq_true,Bool.and_eq_true]at q;have q1:((sIx items.size 0 lo:Nat):Int)=0:=eq_of_beq q.1.1;have q2:sIx items.size items.size hi-sIx items.size 0 lo=items.size:=eq_of_beq q.2;exact hw ⟨by omega,by omega⟩
 show wpAny _ _ (if(((sIx items.size 0 lo:Nat):Int)==0&&(1:Int)==1&&(sIx items.size items.size hi-sIx items.size 0 lo)==items.size)=true then _ else _) _ _ s;rw[zB0 hno,zL]
 first
  | exact zA0 (m:=Builtin.Tuple.tupleExact _) (wpAny_newObj_type (zI0 ⟨_,rfl,zI0 h⟩) htake)
  | exact zA0 (m:=Builtin.Tuple.tupleExact _) (wpAny_newObj_type (zA0 (zI0 (zI0 ⟨_,rfl,zI0 h⟩))) htake)
  | exact zA0 (zA0 (m:=Builtin.Tuple.tupleExact _) (wpAny_newObj_type (zI0 (zI0 ⟨_,rfl,zI0 h⟩)) htake))
  | exact zA0 (zA0 (m:=Builtin.Tuple.tupleExact _) (wpAny_newObj_type (zI0 ⟨_,rfl,zI0 h⟩) htake))
end
end HT
namespace L2
open PySem PySem.Spec PyProof.Rows
abbrev TO:=St->Hp->(Option Int->Hp->Prop)->Prop
def PO(X:Cx)(e:Option Expr)(t:TO):Prop:=
 ∀(pins:List (Addr×Obj))(s:Shared)(σ:St)(H:Hp)(Q:Option Int->Hp->Prop),Inv X pins σ H s->t σ H Q ->
  wpAny (model X.prog X.w) X.A (evalPart e X.env) (fun u s'=>∃o H',Inv X pins σ H' s'/\IsPart u o/\Q o H') X.xe s
def Bv:TO:=fun _ H Q=>Q none H
inductive ZtPart(Q:(Option Int->Hp->Prop))(x:V)(H1:Hp):Prop where
 | mk:∀i,(x=.int i)->(Q (some i) H1)->ZtPart Q x H1
def tPart(t:TE):TO:=fun σ H Q=>t σ H fun x H1=>ZtPart Q x H1
section
variable {X:Cx} {e:Expr} {te:TE} {lo hi:Option Expr} {tl th:TO} {pos p2:Pos}
theorem mr:PO X none Bv:=by
 intro pins s σ H Q I h;rw[evalPart_none];exact zI0 ⟨none,H,I,.none,h⟩
theorem eE(h:PE X e te):PO X (some e) (tPart te):=by
 intro pins s σ H Q I hw;rw[evalPart_some];refine thn (h pins s σ H _ I hw) fun u s1 ⟨x,H1,I1,r1,q1⟩=>?_
 obtain⟨i,rfl,q⟩:=q1;obtain⟨t,rfl⟩:=r1;exact⟨some i,H1,I1,.int i t,q⟩
def SlR(X:Cx)(r:V->Option Int->Option Int->Hp->VK->Prop):Prop:=
 ∀(pins:List (Addr×Obj))(s:Shared)(σ:St)(H:Hp)(x:V)(v vl vu:Value)(lo hi:Option Int)(sl:Addr)(Q:VK),Inv X pins σ H s->RelV x v->s.heap.IsSliceOf sl vl vu .none->IsPart vl lo->IsPart vu hi->r x lo hi H Q ->
  ∃T id,typeLookup (.type T) "__getitem__"=pure (some (.builtin id))/\s.TypeIs v T/\wpAny (model X.prog X.w) X.A (getItem v (.ref sl)) (EP X pins σ Q) X.xe s
def tSl(r:V->Option Int->Option Int->Hp->VK->Prop)(te:TE)(tl th:TO):TE:=fun σ H Q=>te σ H fun x H1=>tl σ H1 fun l H2=>th σ H2 fun u H3=>r x l u H3 Q
theorem fK{r:V->Option Int->Option Int->Hp->VK->Prop}(hr:SlR X r)(he:PE X e te)(hl:PO X lo tl)(hu:PO X hi th):PE X (.Subscript e (.Slice lo hi none p2) pos) (tSl r te tl th):=by
 intro pins s σ H Q I h;refine Subscript_ (thn (he pins s σ H _ I h) fun v s1 ⟨x,H1,I1,r1,q1⟩=>?_);refine wpAny_Slice (thn (hl pins s1 σ H1 _ I1 q1) fun vl s2 ⟨l,H2,I2,pl,q2⟩=>thn (hu pins s2 σ H2 _ I2 q2) fun vu s3 ⟨u,H3,I3,pu,q3⟩=>?_);rw[evalPart_none];refine zI0 ?_;have I4:Inv X pins σ H3 { s3 with heap:=s3.heap.push { cls:=.type "slice",data:=.fields #[vl,vu,.none] } }:=I3.kept (t':=s3.toks) fun b ob q=>zP0 _ q
 obtain⟨T,id,hT,ht,hg⟩:=hr pins { s3 with heap:=s3.heap.push { cls:=.type "slice",data:=.fields #[vl,vu,.none] } } σ H3 x v vl vu l u s3.heap.objs.size Q I4 r1 (Heap.IsSliceOf.new ..) pl pu q3;show wpAny (model X.prog X.w) X.A (subscriptTail e (.Slice lo hi none p2) v (.ref s3.heap.objs.size)) (EP X pins σ Q) X.xe { s3 with heap:=s3.heap.push { cls:=.type "slice",data:=.fields #[vl,vu,.none] } };exact tail_any (ops:=[.ref s3.heap.objs.size,v]) ht hT hg (by rfl')
def ly(xs:List V)(lo hi:Option Int):List V:=(xs.drop (HT.sIx xs.length 0 lo)).take (HT.sIx xs.length xs.length hi-HT.sIx xs.length 0 lo)
theorem tU(xs:List V)(lo hi:Option Int):(ly xs lo hi).length<=xs.length:=by
 unfold ly;rw[qM0,List.length_drop];omega
inductive rSlT(K:W.Frag)(x:V)(lo:Option Int)(hi:Option Int)(H:Hp)(Q:VK):Prop where
 | mk:∀a xs,(x=.ref a)->(SqT K H a xs)->(¬ (HT.sIx xs.length 0 lo=0/\HT.sIx xs.length xs.length hi=xs.length))->(∀p,H p=none->Q (.ref p) (upd H p (.tup (ly xs lo hi))))->rSlT K x lo hi H Q
theorem qx:SlR X (rSlT X.K):=by
 intro pins s σ H x v vl vu lo hi sl Q I rx hs pl pu h;obtain⟨a,xs,rfl,hx,hw,q⟩:=h;cases rx;obtain⟨its,r,ht,hz⟩:=I.tuple hx;have hlen:its.toArray.size=xs.length:=by rw[zS0];exact r.length.symm
 refine⟨"tuple",_,PyProof.Rows.slot_tuple_getitem.lookup,ht.typeIs,?_⟩;refine HT.getItem_tuple_cut ht hs pl pu (by rw[hlen];exact hw) ?_ (by rw[hlen];exact hz);rw[hlen];refine⟨.ref s.heap.objs.size,_,I.laid (t':=s.toks) (o:=.tup (ly xs lo hi)) (fun b ob q=>zP0 _ q) (zH0 _) ?_,rfl,q _ (I.hok.fresh (zH0 _))⟩;exact⟨zO0 (tU xs lo hi) hz,_,(r.drop (HT.sIx xs.length 0 lo)).take (HT.sIx xs.length xs.length hi-HT.sIx xs.length 0 lo),IsTup.new _ _,_,qA0 _ rfl,rfl⟩
inductive rCatT(K:W.Frag)(x:V)(y:V)(H:Hp)(Q:VK):Prop where
 | mk:∀a b xs ys,(x=.ref a)->(y=.ref b)->(SqT K H a xs)->(SqT K H b ys)->(xs≠[])->(xs.length+ys.length<=sizeLine)->((ys=[]->Q (.ref a) H))->((ys≠[]->∀p,H p=none->Q (.ref p) (upd H p (.tup (xs++ys)))))->rCatT K x y H Q
theorem Vals.nil_iff{xs:List V}{us:List Value}(r:Vals xs us):us=[]↔xs=[]:=by
 cases r with
 | nil=>simp
 | cons _ _=>simp
theorem op_catT:OpR X (binaryOp .Add) (rCatT X.K):=by
 intro pins s σ H x y v u Q I rx ry h;obtain⟨a,b,xs,ys,rfl,rfl,ha,hb,hx,hz,q1,q2⟩:=h;cases rx;cases ry;obtain⟨its,r1,p1,_⟩:=I.tuple ha;obtain⟨its2,r2,p2,_⟩:=I.tuple hb;refine HT.cat_tup p1 p2 (fun z=>hx (r1.nil_iff.mp z)) (fun z=>⟨.ref a,H,I,rfl,q1 (r2.nil_iff.mp z)⟩) (fun z=>?_) (by rw[←r1.length,←r2.length];exact hz);refine⟨.ref s.heap.objs.size,_,I.laid (t':=s.toks) (o:=.tup (xs++ys)) (fun b ob q=>zP0 _ q) (zH0 _) ?_,rfl,q2 (fun w=>z (r2.nil_iff.mpr w)) _ (I.hok.fresh (zH0 _))⟩;exact⟨by rw[zJ0];exact hz,_,r1.append r2,IsTup.new _ _,_,qA0 _ rfl,rfl⟩
end
def ixN(n:Nat)(i:Int):Option Nat:=if 0<=i then(if i<n then some i.toNat else none)else if -(n:Int)<=i then some (i+n).toNat else none
def atI{α:Type}(xs:List α)(i:Int):Option α:=(ixN xs.length i).bind fun j=>xs[j]?
theorem rH{n:Nat}{i:Int}{j:Nat}(h:ixN n i=some j):seqIndex? i n=some j/\j<n/\-(n:Int)<=i/\i<n:=by
 unfold ixN at h
 by_cases h0:0<=i
 . rw [zE0 h0]at h
   by_cases h1:i<n
   . rw[zE0 h1]at h;have e:i.toNat=j:=zV0 h;exact⟨by rw[seqIndex_of h0 h1,e],by omega,by omega,h1⟩
   . rw[zB0 h1]at h;cases h
 . rw [zB0 h0]at h
   by_cases h1:-(n:Int)<=i
   . rw[zE0 h1]at h;have e:(i+n).toNat=j:=zV0 h;exact⟨by rw[seqIndex_neg (by omega) h1,e],by omega,h1,by omega⟩
   . rw[zB0 h1]at h;cases h
theorem rT{α:Type}{xs:List α}{i:Int}{v:α}(h:atI xs i=some v):∃j,seqIndex? i xs.length=some j/\xs[j]?=some v/\j<xs.length/\-(xs.length:Int)<=i/\i<xs.length:=by
 unfold atI at h;cases e:ixN xs.length i with
 | none=>rw[e]at h;cases h
 | some j=>
   rw[e]at h;obtain⟨h1,h2,h3,h4⟩:=rH e;exact⟨j,h1,h,h2,h3,h4⟩
theorem cH{α:Type}{xs:List α}{j:Nat}{v:α}(h:xs[j]?=some v):atI xs (j:Int)=some v:=by
 have hj:j<xs.length:=(zX0 h).1;have e:ixN xs.length (j:Int)=some j:=by
  unfold ixN;rw[zE0 (by omega),zE0 (by omega)];simp
 unfold atI;rw[e];exact h
theorem ue{α:Type}(xs:List α)(v:α):atI (xs++[v]) (-1)=some v:=by
 have hl:(xs++[v]).length=xs.length+1:=by simp
 have e:ixN (xs++[v]).length (-1)=some xs.length:=by
  unfold ixN;rw[hl,zB0 (by decide),zE0 (by omega)]
  congr 1
  omega
 unfold atI;rw[e];show(xs++[v])[xs.length]?=some v
 simp
def Cy(b:Expr):Prop:=∀o i,subscripted b false o i=operate [o,i] (getItem o i)
def IxR(X:Cx)(r:R2):Prop:=
 ∀(value slice:Expr)(pins:List (Addr×Obj))(s:Shared)(σ:St)(H:Hp)(x y:V)(v u:Value)(Q:VK),Inv X pins σ H s->RelV x v->RelV y u->r x y H Q ->
  subscripted slice false v u=operate [v,u] (getItem v u)->wpAny (model X.prog X.w) X.A (subscriptTail value slice v u) (EP X pins σ Q) X.xe s
def MtR(X:Cx)(id:String)(r:V->List V->Hp->VK->Prop):Prop:=
 ∀(pins:List (Addr×Obj))(s:Shared)(σ:St)(H:Hp)(x:V)(xs:List V)(v:Value)(us:List Value)(Q:VK),Inv X pins σ H s->RelV x v->Vals xs us->r x xs H Q ->
  wpAny (model X.prog X.w) X.A (call (.builtin id) (v::us)) (EP X pins σ Q) X.xe s
section
variable {X:Cx} {a b:Expr} {ta tb:TE} {pos:Pos}
theorem IxR.or{r r':R2}(h:IxR X r)(h':IxR X r'):IxR X (fun x y H Q=>r x y H Q∨r' x y H Q):=by
 intro value slice pins s σ H x y v u Q I rx ry q hs;rcases q with q | q
 . exact h value slice pins s σ H x y v u Q I rx ry q hs
 . exact h' value slice pins s σ H x y v u Q I rx ry q hs
theorem aD{r:R2}(hr:IxR X r)(ha:PE X a ta)(hb:PE X b tb)(hs:Cy b):PE X (.Subscript a b pos) (tOp r ta tb):=by
 intro pins s σ H Q I h;exact Subscript_ (Ex ha hb I h fun v u s2 x y H2 I2 rx ry q=>hr a b pins s2 σ H2 x y v u Q I2 rx ry q (hs _ _))
inductive rIxL(K:W.Frag)(x:V)(y:V)(H:Hp)(Q:VK):Prop where
 | mk:∀p xs i v,(x=.ref p)->(y=.int i)->(SqL K H p xs)->(atI xs i=some v)->(Q v H)->rIxL K x y H Q
inductive rIxT(K:W.Frag)(x:V)(y:V)(H:Hp)(Q:VK):Prop where
 | mk:∀p xs i v,(x=.ref p)->(y=.int i)->(SqT K H p xs)->(atI xs i=some v)->(Q v H)->rIxT K x y H Q
inductive rIxS(x:V)(y:V)(H:Hp)(Q:VK):Prop where
 | mk:∀z i c,(x=.str z)->(y=.int i)->(z.length<=sizeLine)->(atI z.cps.toList i=some c)->(Q (.str ⟨#[c]⟩) H)->rIxS x y H Q
theorem ix_list:IxR X (rIxL X.K):=by
 intro value slice pins s σ H x y v u Q I rx ry h hs;obtain⟨p,xs,i,z,rfl,rfl,hq,he,q⟩:=h;cases rx;obtain⟨t,rfl⟩:=ry;obtain⟨its,r,pl,hz⟩:=I.list hq;obtain⟨j,h1,h2,h3,h4,h5⟩:=rT he;obtain⟨w,ew,rw'⟩:=r.get h2;have hl:=r.length;have hn:=ig;have fin:EP X pins σ Q w s:=⟨z,H,I,rw',q⟩
 by_cases h0:0<=i
 . have hj:i.toNat=j:=by
    rw[seqIndex_of h0 h5]at h1;exact zV0 h1
   exact item_listR pl.isList h0 (by omega) (by rw[hj];simpa using ew) fin hs
 . have hj:(i+(its.toArray.size:Int)).toNat=j:=by
    rw[seqIndex_neg (by omega) h4]at h1;rw[zS0,←hl];exact zV0 h1
   exact subscriptTail_builtinR (x:=w) pl.isList.typeIs slot_list_getitem.lookup
    (wpAny_getItem_list_neg (Q:=fun r s'=>r=w/\EP X pins σ Q r s') pl.isList (by omega) (by rw[zS0] <;> omega) (by omega) (by rw[hj];simpa using ew) ⟨rfl,fin⟩) hs
theorem aG:IxR X (rIxT X.K):=by
 intro value slice pins s σ H x y v u Q I rx ry h hs;obtain⟨p,xs,i,z,rfl,rfl,hq,he,q⟩:=h;cases rx;obtain⟨t,rfl⟩:=ry;obtain⟨its,r,pl,hz⟩:=I.tuple hq;obtain⟨j,h1,h2,h3,h4,h5⟩:=rT he;obtain⟨w,ew,rw'⟩:=r.get h2;have hl:=r.length;have hn:=ig;have fin:EP X pins σ Q w s:=⟨z,H,I,rw',q⟩
 exact subscriptTail_builtinR (x:=w) pl.typeIs slot_tuple_getitem.lookup
  (getItem_tuple (j:=j) (Q:=fun r s'=>r=w/\EP X pins σ Q r s') pl (by omega) (by omega) (by rw[zS0,←hl];exact h1) (by simpa using ew) ⟨rfl,fin⟩) hs
theorem rG:IxR X rIxS:=by
 intro value slice pins s σ H x y v u Q I rx ry h hs;obtain⟨z,i,c,rfl,rfl,hz,he,q⟩:=h;obtain⟨t,rfl⟩:=rx;obtain⟨t',rfl⟩:=ry;obtain⟨j,h1,h2,h3,h4,h5⟩:=rT he;have hl:z.cps.toList.length=z.length:=by simp [Str.length]
 rw [hl]at h1 h4 h5;have hn:=ig;exact tail_any (typeIs_str s z t) slot_str_getitem.lookup (getItem_str (c:=c) (by
  have e1:decide (i < -(2 ^ 63:Int))=false:=decide_eq_false (by omega);have e2:decide (i≥2 ^ 63)=false:=decide_eq_false (by omega);rw[e1,e2,Bool.or_false]) (by rw[h1];simpa using h2) ⟨.str ⟨#[c]⟩,H,I.tok _,⟨_,rfl⟩,q⟩) hs
theorem vF (its:List Value) (n j:Nat) (u:Value):Obj.mapSeq (·.setIfInBounds j u) { cls:=.type "list",data:=.seq its.toArray n }={ cls:=.type "list",data:=.seq (its.set j u).toArray n }:=by
 simp [Obj.mapSeq]
theorem Inv.lst{pins:List (Addr×Obj)}{σ:St}{H:Hp}{s:Shared}{p:Addr}{xs:List V}(I:Inv X pins σ H s)(h:H p=some (.lst xs)) :
 ∃(its:List Value) (n:Nat),Vals xs its/\s.heap.get? p=some { cls:=.type "list",data:=.seq its.toArray n }/\xs.length<=sizeLine:=by
 obtain⟨z,its,n,r,e⟩:=I.hok p _ h;exact⟨its,n,r,e,z⟩
theorem Inv.lstUpd{pins:List (Addr×Obj)}{σ:St}{H:Hp}{s:Shared}{p:Addr}{xs ys:List V}{its its':List Value}{n n':Nat}{f:Obj->Obj}(I:Inv X pins σ H s)(h:H p=some (.lst xs))
 (ho:s.heap.get? p=some { cls:=.type "list",data:=.seq its.toArray n }) (hf:f { cls:=.type "list",data:=.seq its.toArray n }={ cls:=.type "list",data:=.seq its'.toArray n' }) (r:Vals ys its') (hz:ys.length<=sizeLine) (t:Nat) :
 Inv X pins σ (upd H p (.lst ys)) { s with heap:=s.heap.update p f,toks:=t }:=by
 have e:(s.heap.update p f).get? p=some { cls:=.type "list",data:=.seq its'.toArray n' }:=by
  rw[Heap.get?_update_self f ho (by rw[hf] <;> rfl),hf]
 refine I.write (x:=p) (e:=p) (by rw[h];trivial) (.inl rfl) (fun b u hb q=>(Heap.get?_update_other _ _ (Ne.symm hb)).trans q) ⟨_,e⟩ ?_;exact⟨hz,its',n',r,e⟩
inductive rSetL(o:V)(i:V)(v:V)(H:Hp)(Q:(Hp->Prop)):Prop where
 | mk:∀p xs k j,(o=.ref p)->(i=.int k)->(H p=some (.lst xs))->(ixN xs.length k=some j)->(Q (upd H p (.lst (xs.set j v))))->rSetL o i v H Q
theorem nn:PSet X rSetL:=by
 intro pins s σ H o i v ov iv u Q I ro ri rv h;obtain⟨p,xs,k,j,rfl,rfl,hp,hj,q⟩:=h;cases ro;obtain⟨t,rfl⟩:=ri;obtain⟨its,n,r,ho,hz⟩:=I.lst hp;obtain⟨h1,h2,h3,h4⟩:=rH hj;have hl:=r.length;have hn:=ig;have I':Inv X pins σ (upd H p (.lst (xs.set j v))) { s with heap:=s.heap.update p (Obj.mapSeq (·.setIfInBounds j u)) }:=
  I.lstUpd hp ho (vF its n j u) (r.set rv j) (by rw[List.length_set];exact hz) s.toks
 by_cases h0:0<=k
 . have hk:k.toNat=j:=by
    rw[seqIndex_of h0 h4]at h1;exact zV0 h1
   exact PySem.W.ki_setAt ho h0 (by omega) (by rw[zS0,←hl];exact h4) (by rw[hk];exact⟨_,I',q⟩)
 . have hk:(k+(its.toArray.size:Int)).toNat=j:=by
    rw[seqIndex_neg (by omega) h3]at h1;rw[zS0,←hl];exact zV0 h1
   exact PySem.W.ki_setBack ho (by omega) (by rw[zS0,←hl];exact h3) (by omega) (by rw[hk];exact⟨_,I',q⟩)
def iy:V->Bool
 | .non=>true
 | .bl _=>true
 | .int _=>true
 | .str _=>true
 | _=>false
def eqV:V->V->Bool
 | .non,.non=>true
 | .bl a,.bl b=>a==b
 | .bl a,.int b=>(if a then 1 else 0)==b
 | .int a,.bl b=>a==(if b then 1 else 0)
 | .int a,.int b=>a==b
 | .str a,.str b=>a==b
 | _,_=>false
theorem Em{A:Around}{s:Shared}{y x:V}{u v:Value}(ry:RelV y u)(rx:RelV x v)(fy:iy y=true)(fx:iy x=true):SeqAt.EqAt A s u v (eqV y x):=by
 cases y with
 | non=>
   cases ry;cases x with
   | non=>cases rx;exact SeqAt.EqAt.same _
   | bl b=>cases rx;exact SeqAt.EqAt.none_bool b
   | int b=>obtain⟨t,rfl⟩:=rx;exact SeqAt.EqAt.none_int b t
   | str b=>obtain⟨t,rfl⟩:=rx;exact SeqAt.EqAt.none_str b t
   | _=>exact absurd (show false=true from fx) qC0
 | bl a=>
   cases ry;cases x with
   | non=>cases rx;exact SeqAt.EqAt.bool_none a
   | bl b=>cases rx;exact SeqAt.EqAt.bool_bool a b
   | int b=>obtain⟨t,rfl⟩:=rx;exact SeqAt.EqAt.bool_int a b t
   | str b=>obtain⟨t,rfl⟩:=rx;exact SeqAt.EqAt.bool_str a b t
   | _=>exact absurd (show false=true from fx) qC0
 | int a=>
   obtain⟨t',rfl⟩:=ry;cases x with
   | non=>cases rx;exact SeqAt.EqAt.int_none a t'
   | bl b=>cases rx;exact SeqAt.EqAt.int_bool a t' b
   | int b=>obtain⟨t,rfl⟩:=rx;exact SeqAt.EqAt.int_int a t' b t
   | str b=>obtain⟨t,rfl⟩:=rx;exact SeqAt.EqAt.int_str a t' b t
   | _=>exact absurd (show false=true from fx) qC0
 | str a=>
   obtain⟨t',rfl⟩:=ry;cases x with
   | non=>cases rx;exact SeqAt.EqAt.str_none a t'
   | bl b=>cases rx;exact SeqAt.EqAt.str_bool a t' b
   | int b=>obtain⟨t,rfl⟩:=rx;exact SeqAt.EqAt.str_int a t' b t
   | str b=>obtain⟨t,rfl⟩:=rx;exact SeqAt.EqAt.str_str a t' b t
   | _=>exact absurd (show false=true from fx) qC0
 | _=>exact absurd (show false=true from fy) qC0
def eqU(x:V)(u:Value):Bool:=match u with
 | .none=>eqV .non x
 | .bool b=>eqV (.bl b) x
 | .int i _=>eqV (.int i) x
 | .str z _=>eqV (.str z) x
 | _=>false
theorem vQ{x y:V}{u:Value}(r:RelV y u)(f:iy y=true):eqU x u=eqV y x:=by
 cases y with
 | non=>cases r;rfl
 | bl b=>cases r;rfl
 | int i=>obtain⟨t,rfl⟩:=r;rfl
 | str z=>obtain⟨t,rfl⟩:=r;rfl
 | _=>exact absurd (show false=true from f) qC0
theorem kI{x:V}:∀{xs:List V}{us:List Value},Vals xs us->xs.all iy=true->us.any (eqU x)=xs.any fun y=>eqV y x
 | _,_,.nil,_=>rfl
 | y::xs,u::us,.cons r t,f=>by
   rw[List.all_cons,Bool.and_eq_true]at f;rw[List.any_cons,List.any_cons,vQ r f.1,kI t f.2]
theorem eK{A:Around}{s:Shared}{x:V}{v:Value}(rx:RelV x v)(fx:iy x=true):∀{xs:List V}{us:List Value},Vals xs us->xs.all iy=true->∀u∈us,SeqAt.EqAt A s u v (eqU x u)
 | _,_,.nil,_=>fun u hu=>by cases hu
 | y::xs,u::us,.cons r t,f=>fun u' hu=>by
   rw[List.all_cons,Bool.and_eq_true]at f;rcases zY0 hu with rfl | hu
   . rw[vQ r f.1];exact Em r rx f.1 fx
   . exact eK rx fx t f.2 u' hu
def inV(x:V)(xs:List V):Bool:=xs.any fun y=>eqV y x
inductive rIn(K:W.Frag)(neg:Bool)(x:V)(y:V)(H:Hp)(Q:VK):Prop where
 | mk:∀p xs,(y=.ref p)->((SqL K H p xs∨SqT K H p xs))->(iy x=true)->(xs.all iy=true)->(Q (.bl (if neg then !inV x xs else inV x xs)) H)->rIn K neg x y H Q
theorem fc:OpR X (compareOp .In) (rIn X.K false):=by
 intro pins s σ H x y v u Q I rx ry h;obtain⟨p,xs,rfl,hq,fx,fs,q⟩:=h;cases ry;rcases hq with hq | hq
 . obtain⟨its,r,pl,hz⟩:=I.list hq;refine SeqAt.in_listAt (eqU x) pl.isList (fun w hw=>eK rx fx r fs w (by simpa using hw)) ⟨.bl _,H,I,rfl,?_⟩;rw[show its.toArray.any (eqU x)=its.any (eqU x) by simp,kI r fs];exact q
 . obtain⟨its,r,pl,hz⟩:=I.tuple hq;refine SeqAt.in_tupleAt (eqU x) pl (fun w hw=>eK rx fx r fs w (by simpa using hw)) ⟨.bl _,H,I,rfl,?_⟩;rw[show its.toArray.any (eqU x)=its.any (eqU x) by simp,kI r fs];exact q
theorem kq:OpR X (compareOp .NotIn) (rIn X.K true):=by
 intro pins s σ H x y v u Q I rx ry h;obtain⟨p,xs,rfl,hq,fx,fs,q⟩:=h;cases ry;rcases hq with hq | hq
 . obtain⟨its,r,pl,hz⟩:=I.list hq;refine SeqAt.notIn_listAt (eqU x) pl.isList (fun w hw=>eK rx fx r fs w (by simpa using hw)) ⟨.bl _,H,I,rfl,?_⟩;rw[show its.toArray.any (eqU x)=its.any (eqU x) by simp,kI r fs];exact q
 . obtain⟨its,r,pl,hz⟩:=I.tuple hq;refine SeqAt.notIn_tupleAt (eqU x) pl (fun w hw=>eK rx fx r fs w (by simpa using hw)) ⟨.bl _,H,I,rfl,?_⟩;rw[show its.toArray.any (eqU x)=its.any (eqU x) by simp,kI r fs];exact q
theorem qY:OpR X (compareOp .NotIn) (fun x y H Q=>∃i j,x=.str i/\y=.str j/\Q (.bl (!(!(Builtin.Str.occurrences j i 0 j.length 1).isEmpty))) H):=by
 intro pins s σ H x y v u Q I rx ry h;obtain⟨i,j,rfl,rfl,q⟩:=h;obtain⟨t,rfl⟩:=rx;obtain⟨t',rfl⟩:=ry;exact notIn_str ⟨.bl _,H,I,rfl,q⟩
inductive rLen(K:W.Frag)(xs:List V)(H:Hp)(Q:VK):Prop where
 | mk:∀p ys,(xs=[.ref p])->((SqL K H p ys∨SqT K H p ys))->(Q (.int ys.length) H)->rLen K xs H Q
theorem aC:gI X (.builtin "len") (rLen X.K):=by
 intro pins s σ H xs us Q I r h;obtain⟨p,ys,rfl,hq,q⟩:=h;obtain⟨u,rfl,rx⟩:=ju r;cases rx;have hn:=ig;rcases hq with hq | hq
 . obtain⟨its,r',pl,hz⟩:=I.list hq;have hlen:=r'.length;exact Calls.call_len_list pl.isList (by simp only[zS0] <;> omega) ⟨.int ys.length,H,I.tok _,⟨s.toks+1,by rw[zS0,hlen]⟩,q⟩
 . obtain⟨its,r',pl,hz⟩:=I.tuple hq;have hlen:=r'.length;exact len_tuple pl (by simp only[zS0] <;> omega) ⟨.int ys.length,H,I.tok _,⟨s.toks+1,by rw[zS0,hlen]⟩,q⟩
theorem cj:gI X (.builtin "len") (fun xs H Q=>∃z,xs=[.str z]/\z.length<=sizeLine/\Q (.int z.length) H):=by
 intro pins s σ H xs us Q I r h;obtain⟨z,rfl,hz,q⟩:=h;obtain⟨u,rfl,t,rfl⟩:=ju r;have hn:=ig;exact len_str (by omega) ⟨.int z.length,H,I.tok _,⟨_,rfl⟩,q⟩
inductive rListOf(K:W.Frag)(xs:List V)(H:Hp)(Q:VK):Prop where
 | mk:∀p ys,(xs=[.ref p])->((SqL K H p ys∨SqT K H p ys))->(∀l,H l=none->Q (.ref l) (upd H l (.lst ys)))->rListOf K xs H Q
theorem rS:gI X (.type "list") (rListOf X.K):=by
 intro pins s σ H xs us Q I r h;obtain⟨p,ys,rfl,hq,q⟩:=h;obtain⟨u,rfl,rx⟩:=ju r;cases rx;have fin:∀(its:List Value),Vals ys its->ys.length<=sizeLine->∀(h':Heap)(c':Nat),(∀b o',s.heap.get? b=some o'->h'.get? b=some o') ->
  h'.get? s.heap.objs.size=some { cls:=.type "list",dict:=none,data:=.seq its.toArray c',slots:=#[] }->EP X pins σ Q (.ref s.heap.objs.size) { s with heap:=h' }:=fun its r' hz h' c' kp e=>
  ⟨.ref s.heap.objs.size,_,I.laid (t':=s.toks) kp (zH0 _) (show ObjOk X.prog X.w _ h' _ (.lst ys)from⟨hz,its,c',r',e⟩),rfl,q _ (I.hok.fresh (zH0 _))⟩
 rcases hq with hq | hq
 . obtain⟨its,r',pl,hz⟩:=I.list hq;have hlen:=r'.length;obtain⟨o,ho,hc,n,hd⟩:=pl.isList;exact call_list_seq p (.inl rfl) ho hc hd (fun h' c' kp e=>fin its r' hz h' c' kp e) (by simp only[zS0] <;> omega)
 . obtain⟨its,r',pl,hz⟩:=I.tuple hq;have hlen:=r'.length;obtain⟨o,ho,hc,n,hd⟩:=pl;exact call_list_seq p (.inr rfl) ho hc hd (fun h' c' kp e=>fin its r' hz h' c' kp e) (by simp only[zS0] <;> omega)
inductive rTupOf(K:W.Frag)(xs:List V)(H:Hp)(Q:VK):Prop where
 | mk:∀p ys,(xs=[.ref p])->(((SqL K H p ys/\∀l,H l=none->Q (.ref l) (upd H l (.tup ys)))∨(SqT K H p ys/\Q (.ref p) H)))->rTupOf K xs H Q
theorem bU:gI X (.type "tuple") (rTupOf X.K):=by
 intro pins s σ H xs us Q I r h;obtain⟨p,ys,rfl,h⟩:=h;obtain⟨u,rfl,rx⟩:=ju r;cases rx;rcases h with⟨hq,q⟩ | ⟨hq,q⟩
 . obtain ⟨its,r',pl,hz⟩:=I.list hq;have hlen:=r'.length;refine call_tuple_list pl.isList (fun h' kp=>?_) (by simp only[zS0] <;> omega);have I1:Inv X pins σ H { s with heap:=h' }:=I.kept (t':=s.toks) kp;have I2:Inv X pins σ (upd H h'.objs.size (.tup ys)) { s with heap:=h'.push { cls:=.type "tuple",data:=.seq its.toArray } }:=
    I1.laid (t':=s.toks) (fun b o e=>zP0 _ e) (zH0 _) (show ObjOk X.prog X.w _ _ _ (.tup ys)from⟨hz,its,r',IsTup.new _ _,_,qA0 _ rfl,rfl⟩)
   exact⟨.ref h'.objs.size,_,I2,rfl,q _ (I1.hok.fresh (zH0 _))⟩
 . obtain⟨its,r',pl,hz⟩:=I.tuple hq;exact call_tuple_same pl ⟨.ref p,H,I,rfl,q⟩
def tyV(K:W.Frag)(T:String)(x:V)(H:Hp):Prop:=match x with
 | .str _=>T="str"
 | .int _=>T="int"
 | .ref p=>(T="list"/\∃xs,SqL K H p xs)∨(T="tuple"/\∃o,K.lookup p=some o/\o.cls=.type "tuple"/\o.dict=none)∨
  (T="dict"/\((∃kvs,H p=some (.dK kvs))∨∃kvs,H p=some (.dT kvs)))∨(T="set"/\∃S n,H p=some (.set S n))
 | _=>False
theorem Dj{pins:List (Addr×Obj)}{σ:St}{H:Hp}{s:Shared}{T:String}{x:V}{v:Value}(I:Inv X pins σ H s)(r:RelV x v)(ty:tyV X.K T x H) :
 s.TypeIs v T/\∀a,v=.ref a->∃ob,s.heap.get? a=some ob/\ob.dict=none:=by
 cases x with
 | str z=>
   obtain⟨t,rfl⟩:=r;cases(show T="str" from ty);exact⟨typeIs_str s z t,fun _ e=>nomatch e⟩
 | int i=>
   obtain⟨t,rfl⟩:=r;cases(show T="int" from ty);exact⟨typeIs_int s i t,fun _ e=>nomatch e⟩
 | ref p=>
   cases r;rcases ty with⟨rfl,xs,hq⟩ | ⟨rfl,o,hk,hc,hd⟩ | ⟨rfl,hk⟩ | ⟨rfl,S,n,hk⟩
   . obtain⟨its,_,pl,_⟩:=I.list hq;refine⟨pl.isList.typeIs,fun a e=>?_⟩;cases e;obtain⟨o,n,e,c,hd,_⟩:=pl;exact⟨o,e,hd⟩
   . refine⟨⟨o,I.kIn p o hk,hc⟩,fun a e=>?_⟩;cases e;exact⟨o,I.kIn _ o hk,hd⟩
   . have z:∃o,s.heap.get? p=some o/\o.ExactDict:=by
      rcases hk with⟨kvs,hk⟩ | ⟨kvs,hk⟩
      . obtain⟨_,_,_,_,o,_,_,e,ex,_⟩:=I.hok p _ hk;exact⟨o,e,ex⟩
      . obtain⟨_,_,_,_,o,_,_,e,ex,_⟩:=I.hok p _ hk;exact⟨o,e,ex⟩
     obtain⟨o,e,ex⟩:=z;refine⟨⟨o,e,ex.1⟩,fun a e2=>?_⟩;cases e2;exact⟨o,e,ex.2.1⟩
   . obtain⟨o,_,_,_,e,ex,_⟩:=I.hok p _ hk;refine⟨⟨o,e,ex.1⟩,fun a e2=>?_⟩;cases e2;exact⟨o,e,ex.2.1⟩
 | _=>exact False.elim ty
inductive ZtBM(K:W.Frag)(T:String)(r:V->List V->Hp->VK->Prop)(t:TA)(σ:St)(Q:VK)(x:V)(H1:Hp):Prop where
 | mk:(tyV K T x H1)->(t σ H1 fun xs H2=>r x xs H2 Q)->ZtBM K T r t σ Q x H1
def tBM(K:W.Frag)(T:String)(r:V->List V->Hp->VK->Prop)(to:TE)(t:TA):TE:=fun σ H Q=>to σ H fun x H1=>ZtBM K T r t σ Q x H1
variable {o e:Expr} {es:List Expr} {to:TE} {t:TA} {name:Str} {apos cpos:Pos} {T id:String} {r:V->List V->Hp->VK->Prop}
theorem dH (pa:PlainAttrs T) (slot:Slot T name id) (hty:typeOf (.builtin id)=pure (.type "method_descriptor")) (hm:MtR X id r) (ho:PE X o to) (ha:PA X (e::es) t)
 (hbase:attributeBase o name X.env (eval o X.env)=eval o X.env:=by rfl)
 (hfew:((backTo cpos (starEach (e::es) X.env)).all (fun x=>!x.1)&&(backToKw cpos (keywordEach [] X.env)).all (fun x=>x.1.isSome)
  &&decide ((e::es).length+([]:List Keyword).length+(if([]:List Keyword).isEmpty then 0 else 1)<30))=true:=by rfl)
 (hline:(apos.endLine==cpos.line)=true:=by rfl) (hs:starEach (e::es) X.env=(false,eval e X.env)::starEach es X.env:=by rfl) (hplain:(backTo cpos (starEach es X.env)).any (·.1)=false:=by rfl) :
 PE X (.Call (.Attribute o name apos) (e::es) [] cpos) (tBM X.K T r to t):=by
 intro pins s σ H Q I h;refine wpAny_Call_method_late hbase hfew hline rfl (thn (ho pins s σ H _ I h) fun v s1 ⟨x,H1,I1,r1,ty,q1⟩=>?_);obtain⟨h1,h2⟩:=Dj I1 r1 ty;refine⟨T,id,pa,slot,hty,h1,h2,?_⟩;have hA:=ha cpos pins s1 σ H1 _ I1 q1;rw[hs]at hA ⊢;refine Calls.callWith_builtin (by show(false||(backTo cpos (starEach es X.env)).any (·.1))=false;rw[hplain] <;> rfl) (Calls.evalArgs_plain ?_);exact thn hA fun us s2 ⟨vs,H2,I2,r2,q2⟩=>hm pins s2 σ H2 x vs v us Q I2 r1 r2 q2
/- xs.append(e),list.index on a module's tuple .. are MtR facts of 06m -/
end
def MtM(X:Cx)(id:String)(r:V->List V->Hp->VK->Prop):Prop:=
 ∀(pins:List (Addr×Obj))(s:Shared)(σ:St)(H:Hp)(x:V)(xs:List V)(v:Value)(us:List Value)(Q:VK),Inv X pins σ H s->RelV x v->Vals xs us->r x xs H Q ->
  wpAny (model X.prog X.w) X.A (call (.builtin id) (v::us)) (EP X pins σ Q) X.xe s
theorem Vals.one:∀{x:V}{us:List Value},Vals [x] us->∃u,us=[u]/\RelV x u
 | _,_,.cons r .nil=>⟨_,rfl,r⟩
theorem Vals.rep{xs:List V}{us:List Value}(h:Vals xs us):∀k:Nat,Vals (List.replicate k xs).flatten (List.replicate k us).flatten
 | 0=>.nil
 | k+1=>by
   rw[List.replicate_succ,List.replicate_succ,List.flatten_cons,List.flatten_cons];exact Vals.append h (Vals.rep h k)
theorem qj(its:List Value):∀(k:Nat)(acc:List Value),
 List.foldl (fun x1 x2=>x1++x2) acc.toArray (List.replicate k its.toArray)=(acc++(List.replicate k its).flatten).toArray
 | 0,acc=>by simp
 | k+1,acc=>by
   have e:acc.toArray++its.toArray=(acc++its).toArray:=by simp
   have e2:(acc++its)++(List.replicate k its).flatten=acc++(List.replicate (k+1) its).flatten:=by
    rw[List.replicate_succ,List.flatten_cons,List.append_assoc]
   rw[←e2,←qj its k (acc++its),←e,List.replicate_succ,List.foldl_cons]
section
variable {X:Cx} {pins:List (Addr×Obj)} {σ:St} {H:Hp} {s:Shared} {l b:Addr} {xs ys zs:List V}
theorem Inv.lset{its its':List Value}{n:Nat}{f:Array Value->Array Value}{t':Nat}(I:Inv X pins σ H s)(hH:H l=some (.lst xs))
 (e:s.heap.get? l=some { cls:=.type "list",data:=.seq its.toArray n }) (hf:f its.toArray=its'.toArray) (hv:Vals ys its') (hz:ys.length<=sizeLine) :
 Inv X pins σ (upd H l (.lst ys)) { s with heap:=s.heap.update l (Obj.mapSeq f),toks:=t' }:=by
 have q:=PySem.IsL.update e f;rw[hf]at q;refine I.write (x:=l) (e:=l) (by rw[hH];exact trivial) (.inl rfl) (fun b' u hb hu=>(Heap.get?_update_other s.heap (Obj.mapSeq f) (Ne.symm hb)).trans hu) ⟨_,q⟩ ?_;exact⟨hz,its',_,hv,q⟩
theorem Inv.lnew{its:List Value}{t':Nat}(I:Inv X pins σ H s)(hv:Vals ys its)(hz:ys.length<=sizeLine) :
 Inv X pins σ (upd H s.heap.objs.size (.lst ys)) { s with heap:=s.heap.push { cls:=.type "list",data:=.seq its.toArray },toks:=t' }:=
 I.laid (fun _ _ q=>zP0 _ q) (zH0 _) ⟨hz,its,0,hv,qA0 _ rfl⟩
theorem Inv.fresh(I:Inv X pins σ H s):H s.heap.objs.size=none:=I.hok.fresh (zH0 _)
theorem Inv.lstM (I:Inv X pins σ H s) (hH:H l=some (.lst xs)):xs.length<=sizeLine/\∃(its:List Value) (n:Nat),Vals xs its/\xs.length=its.length/\s.heap.get? l=some { cls:=.type "list",data:=.seq its.toArray n }:=by
 obtain⟨z,its,n,r,e⟩:=I.hok l _ hH;exact⟨z,its,n,r,r.length,e⟩
theorem sU{n:Nat}(h:n<=sizeLine):Builtin.List.listTooLong n=false:=by
 unfold Builtin.List.listTooLong;exact decide_eq_false (by omega)
end
section
variable {X:Cx}
inductive rAppend(x:V)(vs:List V)(H:Hp)(Q:VK):Prop where
 | mk:∀l xs y,(x=.ref l)->(vs=[y])->(H l=some (.lst xs))->(xs.length<sizeLine)->(Q .non (upd H l (.lst (xs++[y]))))->rAppend x vs H Q
theorem bY:MtM X "list.append" rAppend:=by
 intro pins s σ H x vs v us Q I rx rv h;obtain⟨l,xs,y,rfl,rfl,hH,hz,q⟩:=h;cases rx;obtain⟨u,rfl,ru⟩:=rv.one;obtain⟨z,its,n,r,hl,e⟩:=I.lstM hH;refine call_meets F.slot_list_append ⟨_,e,rfl⟩ F.entry_list_append (F.args_list_append_2 _ _) (PySem.list_append l its.toArray n u (by rw[zS0];omega)) ⟨e,?_⟩;refine⟨.non,_,I.lset (its':=its++[u]) hH e (by simp) (r.append (.cons ru .nil)) ?_,rfl,q⟩;rw[zJ0,qN0];omega
inductive rExtend(x:V)(vs:List V)(H:Hp)(Q:VK):Prop where
 | mk:∀l b xs zs,(x=.ref l)->(vs=[.ref b])->(H l=some (.lst xs))->(H b=some (.lst zs))->(xs.length+zs.length<=sizeLine)->(Q .non (upd H l (.lst (xs++zs))))->rExtend x vs H Q
theorem xX:MtM X "list.extend" rExtend:=by
 intro pins s σ H x vs v us Q I rx rv h;obtain⟨l,b,xs,zs,rfl,rfl,hH,hB,hz,q⟩:=h;cases rx;obtain⟨u,rfl,ru⟩:=rv.one;cases ru;obtain⟨z,its,n,r,hl,e⟩:=I.lstM hH;obtain⟨z2,its2,n2,r2,hl2,e2⟩:=I.lstM hB;have hsz:its.toArray.size+its2.toArray.size<=sizeLine:=by rw[zS0,zS0];omega
 have hlong:¬ (!its.toArray.isEmpty&&Builtin.List.listTooLong (its.toArray.size+its2.toArray.size))=true:=by
  rw[sU hsz,Bool.and_false];exact qC0
 refine call_meets F.slot_list_extend ⟨_,e,rfl⟩ F.entry_list_extend (F.args_list_extend_2 _ _)
  (AutoSeq1.list_extend_list_list_0 l its.toArray n b its2.toArray n2 hlong (by rw[zS0];omega) (by omega)) ⟨e,e2,?_⟩
 refine⟨.non,_,I.lset (its':=its++its2) hH e (by simp) (r.append r2) ?_,rfl,q⟩;rw[zJ0];omega
inductive rCat(x:V)(y:V)(H:Hp)(Q:VK):Prop where
 | mk:∀l b xs zs,(x=.ref l)->(y=.ref b)->(H l=some (.lst xs))->(H b=some (.lst zs))->(xs.length+zs.length<=sizeLine)->(∀p,H p=none->Q (.ref p) (upd H p (.lst (xs++zs))))->rCat x y H Q
theorem lr:OpR X (binaryOp .Add) rCat:=by
 intro pins s σ H x y v u Q I rx ry h;obtain⟨l,b,xs,zs,rfl,rfl,hH,hB,hz,q⟩:=h;cases rx;cases ry;obtain⟨z,its,n,r,hl,e⟩:=I.lstM hH;obtain⟨z2,its2,n2,r2,hl2,e2⟩:=I.lstM hB;refine PySem.P.add_list e e2 ?_ (by rw[zS0,zS0];omega);have ea:its.toArray++its2.toArray=(its++its2).toArray:=by simp
 rw[ea];exact⟨.ref _,_,I.lnew (t':=s.toks) (r.append r2) (by rw[zJ0];omega),rfl,q _ I.fresh⟩
inductive rRep(x:V)(y:V)(H:Hp)(Q:VK):Prop where
 | mk:∀l k xs,(x=.ref l)->(y=.int k)->(H l=some (.lst xs))->(-(2 ^ 63)<=k)->(k<2 ^ 63)->(xs.length*k.toNat<=sizeLine)->(∀p,H p=none->Q (.ref p) (upd H p (.lst (List.replicate k.toNat xs).flatten)))->rRep x y H Q
theorem Cj{α:Type}(xs:List α)(k:Nat):(List.replicate k xs).flatten.length=k*xs.length:=by
 induction k with
 | zero=>simp
 | succ k ih=>rw[List.replicate_succ,List.flatten_cons,zJ0,ih,Nat.succ_mul,Nat.add_comm]
theorem DG:OpR X (binaryOp .Mult) rRep:=by
 intro pins s σ H x y v u Q I rx ry h;obtain⟨l,k,xs,rfl,rfl,hH,h1,h2,hz,q⟩:=h;cases rx;obtain⟨t,rfl⟩:=ry;obtain⟨z,its,n,r,hl,e⟩:=I.lstM hH;have hlen:its.toArray.size*k.toNat<=sizeLine:=by rw[zS0,←hl];exact hz
 have hcap:¬ its.toArray.size*k.toNat>(2 ^ 63-1) / 8:=by
  have:(sizeLine:Nat)<=(2 ^ 63-1) / 8:=by decide
  omega
 have hfit:¬ (!Builtin.List.listFitsIndex k)=true:=by
  rw[fitsIndex_both h1 h2];exact qC0
 have hlong:¬ Builtin.List.listTooLong (its.toArray.size*k.toNat)=true:=by
  rw[sU hlen];exact qC0
 have hnew:List.foldl (fun x1 x2=>x1++x2) #[] (List.replicate (if its.toArray.isEmpty=true then 0 else k.toNat) its.toArray)=(List.replicate k.toNat its).flatten.toArray:=by
  have f0:∀m:Nat,List.foldl (fun x1 x2=>x1++x2) #[] (List.replicate m its.toArray)=(List.replicate m its).flatten.toArray:=fun m=>by
   have:=qj its m []
   rw[List.nil_append]at this;exact this
  rw[f0];cases its with
  | nil=>simp
  | cons a r'=>rw[zB0 (by simp)]
 refine wpAny_binaryOp_repeat_ref (T:="list") (U:="int") (by decide) ⟨_,e,rfl⟩ (fun s'=>typeIs_int s' k t) noFill_list_mul F.fills_int_mul F.slot_int_rmul repeat_list F.slot_int_index.lookup
  (call_meets F.slot_int_rmul (typeIs_int s k t) F.entry_int_rmul (F.args_int_rmul_2 _ _) (int___rmul___int_list k t l its.toArray n)
   ⟨e,rfl,⟨_,e,rfl⟩,call_meets F.slot_list_mul ⟨_,e,rfl⟩ F.entry_list_mul (F.args_list_mul_2 _ _) (AutoListH.list___mul___list_int_3 l its.toArray n k t hfit hcap hlong) ⟨e,?_⟩⟩)
 rw[hnew];exact⟨.ref _,_,I.lnew (t':=s.toks) (r.rep k.toNat) (by rw[Cj,Nat.mul_comm];exact hz),rfl,q _ I.fresh⟩
end
end L2
namespace Att
open PySem PySem.W PySem.Calls PyProof.Rows
theorem mi{P:Params}{h:Heap}:∀(ns:List Int)(vs:List Value),WellAll P h vs (ns.map WData.int)->IntsAre vs ns:=by
 intro ns
 induction ns with
 | nil=>
   intro vs w;rw[List.map_nil]at w;cases w;exact .nil
 | cons n ns ih=>
   intro vs w;rw[zZ0]at w;cases w with
   | cons a b=>
     cases a;exact .cons _ _ (ih _ b)
theorem xo{l:OpenLaw}{n:Nat}(hn:l.most=some n){P:Params}{h:Heap}{args:List WData}{vals:List Value}
 (hpre:l.row.toRowW.claim.pre args=true) (hwl:WellAll P h vals args) :
 ∃a vs ns,vals=[Value.ref a]/\args=[WData.list (ns.map WData.int)]/\h.get? a=some { cls:=.type "list",data:=.seq vs.toArray }/\IntsAre vs ns/\ns.length<=n:=by
 have hsh:WShape.hasAll [] args [.list .int]=true:=(pre_splitW hpre).1;have hc:l.pre.holds [] { args:=args }=true:=(pre_splitW hpre).2;obtain⟨d,r,rfl,h1,h2⟩:=hasAllW_cons hsh;obtain rfl:=hasAllW_nil h2;obtain⟨xs,rfl,h3⟩:=hasW_list h1;obtain⟨ns,rfl⟩:=items_int h3;have hlen:ns.length<=n:=by
  unfold OpenLaw.pre at hc;have h4:(WTm.not (.lt (.lit (.int (n:Int))) (.len (.arg 0)))).holds [] { args:=[.list (ns.map .int)] }=true:=by
   have h4:=(holds_andW hc).1;rw[hn]at h4;exact h4
  have h5:=condW_of h4 (w_not (w_lt w_lit (w_len_list (w_arg rfl))));rw[zF0]at h5;refine Nat.le_of_not_lt fun q=>?_
  have q':(n:Int)<((ns.length:Nat):Int):=by omega
  first
   | (rw[decide_eq_true q']at h5;exact absurd h5 (by decide))
   | (simp at h5;omega)
 cases hwl with
 | cons w1 w2=>
   cases w2;cases w1 with
   | list ho hall=>exact⟨_,_,ns,rfl,rfl,ho,mi ns _ hall,hlen⟩
theorem xG(l:OpenLaw)(args:List WData):l.row.toRowW.claim.post args (.bool true) args=true:=
 postW_of (r:=l.row.toRowW) (X:=(true==true))
  (show WShape.has [] (.bool true) .bool=true by first | rfl | decide | simp [WShape.has,WShape.arms,WShape.armsAll])
  (show(WTm.eq .res (.lit (.bool true))).value [] { args:=args,res:=some (.bool true),after:=args }=some (.bool (true==true))from w_eq_bool (w_res rfl) w_lit) rfl
theorem attach_call{l:OpenLaw}{n:Nat}{q:Program}{loose:List Str}{XP:(Str->Option Value)->Heap->Prop}{YP:World->Heap->Prop}{d:DefRec}
 (hn:l.most=some n) (hdf:d.params.defaults=[])
 (call:∀(w:World)(s₀ s₁:Shared)(mg mb:Str->Option Value)(fa:Addr)(o:Obj)(pm cd doc:Value)(a:Addr)(vs:List Value)(ns:List Int),
  Ground q loose [] XP w s₀ mg mb s₁.heap->YP w s₁.heap ->
  s₁.heap.get? fa=some o->o.data=.func (docDef d.name d.params d.body d.scope pm cd doc)->s₁.heap.CodeRec cd d.name->mg d.name=some (.ref fa) ->
  s₁.heap.get? a=some { cls:=.type "list",data:=.seq vs.toArray }->IntsAre vs ns->ns.length<=n->s₁.gens=#[] ->
  codeAny (model l.prog w) callerA (.call (.ref fa) ⟨[.ref a],[]⟩) (fun r s'=>r=.ok (.ret (.bool true))/\OldK s₁.heap s'.heap/\s'.os=s₁.os/\AllBare s'.gens) s₁) :
 WalkO q loose XP YP l.row.toRowW d [] (fun f vs=>PySem.call f vs):=by
 intro w s₀ s₁ mg mb G Y fa o pm cd doc dV kV ho hd hcd hD hmg hg args vals as hpre hlay hrd hwl hlo;obtain rfl:dV=.none:=Dflts.none hD hdf;obtain rfl:kV=.none:=Dflts.noKw hD;obtain⟨a,vs,ns,rfl,rfl,hobj,hints,hlen⟩:=xo hn hpre hwl;refine enter_call (codeAny_mono (call w s₀ s₁ mg mb fa o pm cd doc a vs ns G Y ho (fd_plain hd) hcd hmg hobj hints hlen hg) fun r s' hq=>?_);obtain⟨rfl,h2,h3,h4⟩:=hq;exact⟨.inl ⟨.bool true,.bool true,[],rfl,fun _=>rfl,.bool true,xG l _,fun _=>⟨List.Pairwise.nil,fun _ hm=>(nomatch hm)⟩⟩,h2,h3,h4⟩
end Att
namespace L2
open PySem PySem.Spec PyProof.Rows
theorem pQ:∀{vs:List Value}{ns:List Int},IntsAre vs ns->Vals (ns.map V.int) vs
 | _,_,.nil=>.nil
 | _,_,.cons n t h=>.cons ⟨t,rfl⟩ (pQ h)
def EB(H:Hp):Prop:=∀b,H b=none∨∃o xs,H b=some (.frz o (.lst xs))
theorem Az{P:Program}{w:World}{K:W.Frag}{mg mb:Str->Option Value}{CX:CXT}{k:Nat}{fa a:Addr}{fd:FuncData}{x:Str}{sp:Sp}{s₁:Shared}{vs:List Value}{ns:List Int}
 (KX:K.In s₁.heap) (hns:s₁.heap.Ns mainGlobals mg) (hb:s₁.heap.Ns builtinsNs mb) (hbb:∀x:Str,x≠"__name__" -> mb x=bootBuiltins x) (hlim:s₁.heap.NoLimit) (hg:s₁.gens=#[])
 (ha:s₁.heap.get? a=some { cls:=.type "list",data:=.seq vs.toArray }) (hi:IntsAre vs ns) (hl:ns.length<=sizeLine) (hr:Room k callerA)
 (F:∀base:Heap,K.In base->base.Ns mainGlobals mg->FnOk P w K mg base CX k fa fd [x] sp) (hbind:∀(s:Shared)(u:Value),BindsTo s fd ⟨[u],[]⟩ [(x,u)])
 (hsp:∀H:Hp,EB H->SqL K H a (ns.map V.int)->sp [.ref a] H (fun v _=>v=.bl true) fun _ _ _=>False)
 (hCX:∀H e s',CX [] H s₁ (fun _ _ _=>False) e s'->False) :
 codeAny (model P w) callerA (.call (.ref fa) ⟨[.ref a],[]⟩) (fun r s'=>r=.ok (.ret (.bool true))/\OldK s₁.heap s'.heap/\s'.os=s₁.os/\AllBare s'.gens) s₁:=by
 have rv:=pQ hi;have lenV:=hi.length;have core:∀H:Hp,EB H->SqL K H a (ns.map V.int)->HOk P w H s₁.heap->(∀b,H b≠none->b=a)->(H a≠none->K.lookup a=none) ->
  codeAny (model P w) callerA (.call (.ref fa) ⟨[.ref a],[]⟩) (fun r s'=>r=.ok (.ret (.bool true))/\OldK s₁.heap s'.heap/\s'.os=s₁.os/\AllBare s'.gens) s₁:=by
  intro H hO hS hok hA hK;have base_of:∀{b:Addr}{o:Obj},s₁.heap.get? b=some o->H b=none->(rJ s₁.heap H).get? b=some o:=fun e n=>AM e n
  have noA:∀{b:Addr}{o:Obj}{es:Array DictEntry}{ep:Nat},s₁.heap.get? b=some o->o.data=.dict es ep->H b=none:=fun{b o es ep} e d=>by
   cases q:H b with
   | none=>rfl
   | some u=>
     have e':b=a:=hA b (by rw[q];simp);subst e';rw[ha]at e;cases e;have d':Data.seq vs.toArray _=Data.dict es ep:=d;cases d'
  have nsK:∀{b:Addr}{m:Str->Option Value},s₁.heap.Ns b m->(rJ s₁.heap H).Ns b m:=fun{b m} ⟨o,es,ep,e,d,r⟩=>⟨o,es,ep,base_of e (noA e d),d,r⟩
  have hKb:K.In (rJ s₁.heap H):=fun b o e=>base_of (KX b o e) (by
   cases q:H b with
   | none=>rfl
   | some u=>
     have e':b=a:=hA b (by rw[q];simp);subst e';rw[hK (by rw[q];simp)]at e;cases e)
  have hM:Mod K mg (rJ s₁.heap H):=⟨hKb,nsK hns,⟨mb,nsK hb,hbb⟩,let⟨mc,h1,h2⟩:=hlim;⟨mc,nsK h1,h2⟩⟩
  have e0:Env0 P w K mg (rJ s₁.heap H) callerA [] s₁ H:=⟨rfl,hM,fun b o e=>BY e,Nat.le_of_eq (yo _ _),trivial,fun b hb=>absurd (show b∈([]:List Addr)from hb) (by simp),hok,.of_eq hg⟩
  refine codeAny_mono ((F _ hKb (nsK hns)).run callerA [] s₁ H ⟨[.ref a],[]⟩ [.ref a] [.ref a] _ _ hr e0 (hbind s₁ (.ref a)) (.cons rfl .nil) (hsp H hO hS)) fun r s' h=>?_
  cases r with
  | error e=>exact(hCX H e s' h).elim
  | ok fl=>
    cases fl with
    | next=>exact False.elim h
    | brk=>exact False.elim h
    | cont=>exact False.elim h
    | ret u=>
      obtain⟨v,H',os,bare,un,hok',r',q⟩:=h;have q':v=.bl true:=q;subst q';obtain rfl:u=Value.bool true:=r';refine⟨rfl,OldK.of_keep fun b o e=>?_,os,bare⟩;cases q:H b with
      | none=>exact un.keep b o e q (by intro z;exact absurd (show b∈([]:List Addr)from z) (by simp)) (by simp)
      | some u=>
        rcases hO b with z | ⟨ob,xs,z⟩
        . rw[q]at z;cases z
        . have z2:=un.frzs b ob _ z;obtain⟨e1,_⟩:=hok b _ z;obtain⟨e2,_⟩:=hok' b _ z2;rw[e]at e1;cases e1;exact e2
 cases hk:K.lookup a with
 | some o=>
   have e:=KX a o hk;rw[ha]at e;cases e;refine core (fun _=>none) (fun _=>.inl rfl) (.inr ⟨_,vs.toArray,_,hk,rfl,rfl,rfl,by rw[zS0,lenV];exact hl,by simpa using rv⟩) (fun b u z=>by have z':(none:Option HO)=some u:=z;cases z') (fun b z=>absurd rfl z) fun z=>absurd rfl z
 | none=>
   refine core (fun b=>if b=a then some (.frz { cls:=.type "list",data:=.seq vs.toArray } (.lst (ns.map V.int)))else none) (fun b=>?_) (.inl (.inr ⟨{ cls:=.type "list",data:=.seq vs.toArray },zE0 rfl⟩)) (fun b u z=>?_) (fun b z=>?_) fun _=>hk
   . by_cases hb:b=a
     . exact .inr ⟨_,_,zE0 hb⟩
     . exact .inl (zB0 hb)
   . by_cases hb:b=a
     . have z':=(zE0 hb).symm.trans z;cases z';subst hb;exact⟨ha,by rw[zF0];exact hl,vs,_,rv,ha⟩
     . have z':=(zB0 hb).symm.trans z;cases z'
   . by_cases hb:b=a
     . exact hb
     . exact absurd (zB0 hb) z
theorem walk_of{l:PySem.W.OpenLaw}{n k:Nat}{q:Program}{loose:List Str}{XP:(Str->Option Value)->Heap->Prop}{YP:World->Heap->Prop}{d:DefRec}{K:Params->PySem.W.Frag}{CX:World->CXT}{sp:World->Sp}{x:Str}
 (hn:l.most=some n) (hn2:n<=sizeLine) (hdf:d.params.defaults=[]) (hr:Room k callerA)
 (hY:∀(w:World)(h:Heap),YP w h->(K w.params).In h)
 (F:∀(w:World)(mg:Str->Option Value)(fa:Addr)(h:Heap),(K w.params).In h->h.Ns mainGlobals mg->mg d.name=some (.ref fa) ->
  ∃ fd:FuncData,(∀(s:Shared)(u:Value),BindsTo s fd ⟨[u],[]⟩ [(x,u)])/\
   ∀base:Heap,(K w.params).In base->base.Ns mainGlobals mg->FnOk l.prog w (K w.params) mg base (CX w) k fa fd [x] (sp w))
 (hsp:∀(w:World)(H:Hp)(a:Addr)(ns:List Int),ns.length<=n->EB H->SqL (K w.params) H a (ns.map V.int)->sp w [.ref a] H (fun v _=>v=.bl true) fun _ _ _=>False)
 (hCX:∀(w:World)(H:Hp)(s:Shared)(e:Value)(s':Shared),CX w [] H s (fun _ _ _=>False) e s'->False) :
 PySem.W.WalkO q loose XP YP l.row.toRowW d [] (fun f vs=>PySem.call f vs):=by
 refine Att.attach_call hn hdf fun w s₀ s₁ mg mb fa o pm cd doc a vs ns G Y ho hd hcd hmg hobj hints hlen hg=>?_
 have KX:=hY w _ Y;obtain⟨fd,hb,hF⟩:=F w mg fa _ KX G.T.g hmg;exact Az KX G.T.g G.T.b G.T.builtins G.T.nolimit hg hobj hints (zO0 hlen hn2) hr hF hb (fun H hO hS=>hsp w H a ns hlen hO hS) fun H e s'=>hCX w H s₁ e s'
end L2
/- THE LAST THEOREM (shape;LID,My.* are yours):
 My.Adr: a structure of the addresses that your layer names (classes,functions);My.Txt K t: a structure (Prop) of the equations over K;
 My.txt_mk:{K} {implicit addresses ..} (e1:nsIn K mainGlobals "law"=some (some (.ref f))) (e2:K.lookup f=some ⟨oc,od,.func (fnOf "law" "law" params body scope dV kV doc pm an cdv ct),sl⟩) (e3:codeIn K cdv "law"=true) ..:∃t,My.Txt K t
set_option maxRecDepth 100000 in
set_option maxHeartbeats 0 in
theorem PySem.Challenge.cw_LID_holds : PySem.Challenge.rw_LID.Holds:=by
 w_on;o_law;k_head;(case hw=>w_witness2)
 k_fill
 refine L2.walk_of (l:=PySem.Challenge.rw_LID) (n:=63) (k:=40) (x:="script") (CX:=fun w=>..) (sp:=fun _=>My.sp_law) rfl (by decide) rfl ⟨rfl,by decide,by decide⟩ (fun w h Y=>PySem.W.kIn_of Y) ?F ?S ?C
 case F=>
  intro w mg fa h KX G hmg;have T:∃t,My.Txt (L2.KOf KX) t:=by
   dsimp only [L2.KOf]                          -- K must stand as «<heap const> w.params» for k_is
   refine' My.txt_mk ?e1 ?e2 ?e3 ..
   (case e1=>PySem.W.k_is)                    -- in the order: a name -> its address -> its object -> its parts
   (case e2=>PySem.W.k_is)
   ..
  obtain⟨t,T⟩:=T;have e0:=hmg.symm.trans (PySem.W.mg_of KX G T.law);cases e0                                       -- fa is the law's own address;exact⟨_,fun s u=>.of_eq rfl,fun base kb nb=>My.law_fn T kb nb⟩     -- if «.of_eq rfl» comes too early: refine' ⟨_,?b,fun base kb nb=>My.law_fn T kb nb⟩;exact fun s u=>.of_eq rfl
 case S=>exact fun w H a ns hl hO hS=>..
 case C=>exact ..
(the tactic k_is has no namespace: write k_is) -/
namespace L2
open PySem PySem.Spec PyProof.Rows
def bJ(s:Stmt)(j:Nat):Stmt:=match s with
 | .ClassDef _ _ _ body _ _ _ _ _ _ _=>body.getD j (.Pass ⟨0,0,0,0⟩)
 | _=>.Pass ⟨0,0,0,0⟩
def io(s:Stmt):Arguments:=match s with
 | .FunctionDef _ a _ _ _ _ _ _ _ _=>a
 | _=>{ posonlyargs:=[],args:=[],vararg:=none,kwonlyargs:=[],kw_defaults:=[],kwarg:=none,defaults:=[] }
def eF(s:Stmt):List Stmt:=match s with
 | .FunctionDef _ _ b _ _ _ _ _ _ _=>b
 | _=>[]
def ak(s:Stmt):Scope:=match s with
 | .FunctionDef _ _ _ _ _ _ sc _ _ _=>sc
 | _=>{ kind:=.function,names:=[],isGenerator:=false,isCoroutine:=false }
abbrev CX0:CXT:=fun _ _ _ _ _ _=>False
abbrev E0:XK:=fun _ _ _=>False
theorem bq{X:Cx}:iZ CX0 X E0:=fun _ _ _ _ _ _ _ h=>h.elim
structure Fun(K:W.Frag)(x qual:Str)(st:Stmt)(f:Addr)(fd:FuncData):Prop where
 ex:∃(oc:Value)(od:Option Addr)(kV doc pm:Value)(an:Option Addr)(cdv ct:Value)(osl:Array (Option Value)),
  fd=PySem.W.fnOf x qual (io st) (eF st) (ak st) .none kV doc pm an cdv ct/\K.lookup f=some ⟨oc,od,.func fd,osl⟩/\PySem.W.codeIn K cdv qual=true
 kp:PySem.W.keepIn K (.ref f)=true
section
variable {P:Program} {w:World} {K:W.Frag} {mg:Str->Option Value} {base:Heap}
theorem Fun.ok{x qual:Str}{st:Stmt}{f:Addr}{fd:FuncData}{N ps:List Str}{k:Nat}{sp:Sp}(F:Fun K x qual st f fd)(S:FnScope N ps (ak st))(len:∀vs H Q E,sp vs H Q E->vs.length=ps.length)
 (hbody:∀(cdv:Value)(A:Around)(outer:List Env)(s:Shared)(H:Hp)(vs:List V)(Q:VK)(E:XK),Room k (A.deeper (envOfC qual (ak st) s.heap.objs.size f cdv))->sp vs H Q E ->
  ∃t,PSs (yB CX0 P w K mg base N qual (ak st) f cdv A outer s H E).nox (eF st) t/\t { nx:=fun _ H'=>Q .non H',rt:=Q } (lF N vs) H):FnOk P w K mg base CX0 (k+1) f fd ps sp:=by
 obtain⟨oc,od,kV,doc,pm,an,cdv,ct,osl,rfl,lk,hcd⟩:=F.ex;refine fn_of lk hcd S len fun A outer s H vs Q E hr hsp=>?_
 obtain⟨t,h,q⟩:=hbody cdv A outer s H vs Q E hr hsp;exact⟨t,h.nox,q⟩
theorem Fun.binds{x qual:Str}{st:Stmt}{f:Addr}{fd:FuncData}{ps:List Str}(F:Fun K x qual st f fd)
 (h:∀(kV doc pm:Value)(an:Option Addr)(cdv ct:Value)(us:List Value),us.length=ps.length->bindArgs (PySem.W.fnOf x qual (io st) (eF st) (ak st) .none kV doc pm an cdv ct) ⟨us,[]⟩=pure (ps.zip us)):Binds K fd ps []:=by
 obtain⟨oc,od,kV,doc,pm,an,cdv,ct,osl,rfl,lk,hcd⟩:=F.ex;exact .all (h kV doc pm an cdv ct)
theorem Eh{x qual:Str}{st:Stmt}{f:Addr}{oc:Value}{od an:Option Addr}{osl:Array (Option Value)}{kV doc pm cdv ct:Value}(l:K.lookup f=some ⟨oc,od,.func (PySem.W.fnOf x qual (io st) (eF st) (ak st) .none kV doc pm an cdv ct),osl⟩)
 (c:PySem.W.codeIn K cdv qual=true) (k:PySem.W.keepIn K (.ref f)=true):Fun K x qual st f (PySem.W.fnOf x qual (io st) (eF st) (ak st) .none kV doc pm an cdv ct):=⟨⟨oc,od,kV,doc,pm,an,cdv,ct,osl,rfl,l,c⟩,k⟩
end
theorem AL{A:Around}{k:Nat}(hr:Room k A):A.units+1<cLine:=Nat.lt_of_le_of_lt (Nat.add_le_add_left (by decide:1<=64) _) hr.units
theorem aM{n:Nat}(h:n<=1000):n<sizeLine:=Nat.lt_of_le_of_lt h (by decide)
section
variable {X:Cx}
theorem pv (i:Nat) {x:Str} {pos:Pos} (hN:X.N[i]?=some x:=by rfl) (hv:Vis X.env.scope x:=by first | exact Or.inl rfl | exact Or.inr (Or.inl rfl) | exact Or.inr (Or.inr rfl)) (hd:(x==("__debug__":Str))=false:=by decide)
 (hcd:(x==("__classdict__":Str))=false:=by decide):PE X (.Name x pos) (tVar i):=DD hN hv hd hcd
end
theorem cb{A B:Prop}(h:B):if false=true then A else B:=by
 rw[zB0 qC0];exact h
theorem dh{A B:Prop}(h:A):if true=true then A else B:=by
 rw[zE0 rfl];exact h
theorem kD{c A B:Prop}[Decidable c](h1:c->A)(h2:¬ c->B):if c then A else B:=by
 by_cases h:c
 . rw[zE0 h];exact h1 h
 . rw[zB0 h];exact h2 h
theorem CV{c A B:Prop}[Decidable c](hc:c)(h:B):if(!decide c)=true then A else B:=by
 rw[decide_eq_true hc];exact cb h
def Same(H H':Hp):Prop:=∀b o,H b=some o->H' b=some o
theorem Same.refl(H:Hp):Same H H:=fun _ _ h=>h
theorem Same.trans{H H1 H2:Hp}(a:Same H H1)(b:Same H1 H2):Same H H2:=fun c o h=>b c o (a c o h)
theorem Same.free{H H':Hp}(e:Same H H'){l:Addr}(h:H' l=Option.none):H l=Option.none:=by
 cases q:H l with
 | none=>rfl
 | some o=>
   rw[e l o q]at h;cases h
theorem Same.seq{K:W.Frag}{H H':Hp}{a:Addr}{xs:List V}(e:Same H H')(h:SqL K H a xs):SqL K H' a xs:=by
 rcases h with(h | ⟨o,h⟩) | h
 . exact .inl (.inl (e _ _ h))
 . exact .inl (.inr ⟨o,e _ _ h⟩)
 . exact .inr h
end L2
set_option maxHeartbeats 4000000
namespace L2
open PySem PySem.Spec PyProof.Rows
section
variable {X:Cx}
inductive rIsi(K:W.Frag)(xs:List V)(H:Hp)(Q:VK):Prop where
 | mk:∀x t n b,(xs=[x,.ty n])->(TyOf K H x t)->(PySem.W.kitOne K t (.type n)=some b)->(Q (.bl b) H)->rIsi K xs H Q
theorem dA:gI X (.builtin "isinstance") (rIsi X.K):=by
 intro pins s σ H xs us Q I r h;obtain⟨x,t,n,b,rfl,ty,e,q⟩:=h;obtain⟨u,w',rfl,r1,r2⟩:=CC r;cases r2;exact yi I r1 ty e (fun tk=>⟨.bl b,H,I.tok tk,rfl,q⟩)
theorem iV(K:W.Frag)(n:String):PySem.W.kitOne K (.type n) (.type n)=some true:=by
 unfold PySem.W.kitOne;rw[zE0 (by simp)]
theorem rE (K:W.Frag):PySem.W.kitOne K (.type "int") (.type "bool")=some false:=by
 show(if((Value.type "int"==Value.type "bool")=true)then some true else if PySem.W.kitMeta "bool"=true then((fastBuiltinMro "int").map (·.contains (.type "bool")))else none)=some false;decide
def CDivL(_ j:Int):Prop:=0<j/\j<2 ^ 63
theorem zV:OpR X (binaryOp .FloorDiv) (rI CDivL fun i j=>.int (i / j)):=opI fun i j _ _ _ _ _ hc q=>by
 have e:Int.fdiv i j=i / j:=Int.fdiv_eq_ediv_of_nonneg i (Int.le_of_lt hc.1);rw[←e]at q;refine floordiv_int (by have:=hc.1;omega) q (.inl (PyProof.noPylong_of_log2 ?_));have h1:=hc.1;have h2:=hc.2;have h3:j.natAbs<2 ^ 63:=by omega
 have h4:=(Nat.log2_lt (n:=j.natAbs) (k:=63) (by omega)).mpr h3;omega
end
theorem jr:bootBuiltins "int"=some (.type "int"):=by decide
theorem jN:bootBuiltins "bool"=some (.type "bool"):=by decide
theorem pf:bootBuiltins "list"=some (.type "list"):=by decide
theorem bV:bootBuiltins "tuple"=some (.type "tuple"):=by decide
theorem pe:bootBuiltins "reversed"=some (.type "reversed"):=by decide
structure Cal(P:Program)(w:World)(K:W.Frag)(mg:Str->Option Value)(base:Heap)(n:Nat)(x:Str)(ps:List Str)(sp:Sp):Prop where
 ex:∃(f:Addr)(fd:FuncData),FnOk P w K mg base CX0 n f fd ps sp/\Binds K fd ps []/\PySem.W.keepIn K (.ref f)=true/\mg x=some (.ref f)
theorem ai{X:Cx}{n k:Nat}{x:Str}{ps:List Str}{sp:Sp}{e:Expr}{es:List Expr}{t:TA}{p pos:Pos}(C:Cal X.prog X.w X.K X.mg X.base n x ps sp)(hr:Room k X.A)(hk:n<=k)(hg:Gl X x)
 (ha:PA X (e::es) t) (hdb:(x==("__debug__":Str))=false:=by decide) (he:starEach (e::es) X.env=(false,eval e X.env)::starEach es X.env:=by rfl) (hpl:(backTo pos (starEach es X.env)).any (·.1)=false:=by rfl) :
 PE X (.Call (.Name x p) (e::es) [] pos) (sq sp [] E0 t):=by
 obtain⟨f,fd,F,b,kp,m⟩:=C.ex;exact BQ F (hr.mono hk) hg m kp b .nil bq ha hdb he hpl
theorem Cal.of{P:Program}{w:World}{K:W.Frag}{mg:Str->Option Value}{base:Heap}{n:Nat}{x qual:Str}{ps:List Str}{sp:Sp}{st:Stmt}{f:Addr}{fd:FuncData}(F:Fun K x qual st f fd)(O:FnOk P w K mg base CX0 n f fd ps sp)(m:mg x=some (.ref f))
 (h:∀(kV doc pm:Value)(an:Option Addr)(cdv ct:Value)(us:List Value),us.length=ps.length->bindArgs (PySem.W.fnOf x qual (io st) (eF st) (ak st) .none kV doc pm an cdv ct) ⟨us,[]⟩=pure (ps.zip us)):Cal P w K mg base n x ps sp:=
 ⟨f,fd,O,F.binds h,F.kp,m⟩
theorem DY{c A B:Prop}[Decidable c](hc:¬ c)(h:A):if(!decide c)=true then A else B:=by
 rw[decide_eq_false hc];exact dh h
theorem aS{c A B:Prop}[Decidable c](hc:c)(h:A):if decide c=true then A else B:=by
 rw[decide_eq_true hc];exact dh h
theorem au{c A B:Prop}[Decidable c](hc:¬ c)(h:B):if decide c=true then A else B:=by
 rw[decide_eq_false hc];exact cb h
def SameBut(f:Addr)(H H':Hp):Prop:=∀b o,b≠f->H b=some o->H' b=some o
theorem SameBut.trans{f:Addr}{H H1 H2:Hp}(a:SameBut f H H1)(b:SameBut f H1 H2):SameBut f H H2:=fun c o h e=>b c o h (a c o h e)
theorem SameBut.refl(f:Addr)(H:Hp):SameBut f H H:=fun _ _ _ h=>h
theorem zK0{f:Addr}{H H':Hp}(h:Same H H'):SameBut f H H':=fun b o _ e=>h b o e
abbrev SameBut.of:=@zK0
theorem SameBut.upd{f:Addr}{H:Hp}(o:HO):SameBut f H (upd H f o):=fun b u h e=>by rw[av h];exact e
theorem zC0{H:Hp}{p:Addr}(h:H p=none)(o:HO):Same H (upd H p o):=fun b u q=>by rw[av (aJ q h)];exact q
abbrev Same.new:=@zC0
theorem Same.but{f:Addr}{H0 H H':Hp}(a:Same H0 H)(n:H0 f=none)(b:SameBut f H H'):Same H0 H':=fun c o e=>b c o (aJ e n) (a c o e)
def FeedAt(H:Hp)(f:Addr):Prop:=∃own st:Int,H f=some (.lst [.int own,.int st])/\0<=own/\0<=st/\st<=2147483646
theorem FeedAt.ne{H:Hp}{f b:Addr}(F:FeedAt H f)(h:H b=none):b≠f:=by
 obtain⟨o,s,e,_⟩:=F;intro z;subst z;rw[h]at e;cases e
theorem FeedAt.same{H H':Hp}{f:Addr}(F:FeedAt H f)(s:Same H H'):FeedAt H' f:=by
 obtain⟨o,t,e,h⟩:=F;exact⟨o,t,s _ _ e,h⟩
inductive spTake(vs:List V)(H:Hp)(Q:VK)(u_3:XK):Prop where
 | mk:∀(f:Addr)(m:Int),(vs=[.ref f,.int m])->(FeedAt H f)->(0<m)->(m<2 ^ 63)->(∀(d:Int)(H':Hp),0<=d->d<m->FeedAt H' f->SameBut f H H'->Q (.int d) H')->spTake vs H Q u_3
inductive spFeed(K:W.Frag)(vs:List V)(H:Hp)(Q:VK)(u_3:XK):Prop where
 | mk:∀(a:Addr)(ns:List Int)(k:Int),(vs=[.ref a,.int k])->(SqL K H a (ns.map V.int))->(ns.length<=63)->(0<=k)->(k<1000000)->(∀(p:Addr)(H':Hp),H p=none->Same H H'->FeedAt H' p->Q (.ref p) H')->spFeed K vs H Q u_3
inductive spLaw(K:W.Frag)(vs:List V)(H:Hp)(Q:VK)(u_3:XK):Prop where
 | mk:∀(a:Addr)(ns:List Int),(vs=[.ref a])->(SqL K H a (ns.map V.int))->(ns.length<=63)->(∀H',Q (.bl true) H')->spLaw K vs H Q u_3
theorem bv{n:Nat}(h:n<=1000):n<=sizeLine:=Nat.le_of_lt (aM h)
theorem Bf{ns:List Int}{k:Int}(h0:0<=k)(h:k<(ns.length:Int)):∃v:Int,atI (ns.map V.int) k=some (.int v):=by
 have hk:k.toNat<ns.length:=by omega
 have q:atI (ns.map V.int) ((k.toNat:Nat):Int)=some (.int ns[k.toNat]):=cH (by rw[qE0,zR0 hk] <;> rfl);have ek:((k.toNat:Nat):Int)=k:=by omega
 rw[ek]at q;exact⟨_,q⟩
@[reducible] def dI (X:Cx) (N:List Str) (scope:Scope) (cl:List (Str×Addr)) (s:Shared) (H:Hp) (fp:List Addr):Cx where
 prog:=X.prog
 w:=X.w
 K:=X.K
 mg:=X.mg
 base:=X.base
 A:=X.A
 N:=N
 s₀:=s
 H₀:=H
 env:=compEnvC scope cl s.heap.objs.size X.env
 outer:=X.stack
 stack:=X.stack
 ex:=fp
 fn:=fun _=>false
 calm:=X.calm
 pn:=[]
 xe:=fun _ _=>False
structure CompScope(X:Cx)(x:Str)(N:List Str)(ix:List Nat)(scope:Scope)(cl:List (Str×Addr)):Prop where
 clos:closureFor scope X.env=pure cl
 nocell:∀y∈scope.names,y.2≠.cell
 kind:scope.kind=.function
 names:∀y∈scope.names,y.2=.local->scope.names.lookup y.1=some .local
 own:scope.names.lookup x=some .local
 nd:(x::N).Nodup
 sub:∀p∈cl,X.env.cells.lookup p.1=some p.2
 has:((relabel scope X.env).names.all fun p=>!(p.2==.cell||p.2==.free)||(cl.lookup p.1).isSome)=true
 outs:∀(j:Nat)(y:Str),N[j]?=some y->(relabel scope X.env).names.lookup y=some .cell/\∃k c,ix[j]?=some k/\X.N[k]?=some y/\cl.lookup y=some c/\X.env.scope.names.lookup y=some .cell
def outs(ix:List Nat)(σ:St):St:=ix.map fun k=>(σ[k]?).join
section
variable {X:Cx} {pins:List (Addr×Obj)} {σ:St} {x:Str} {N:List Str} {ix:List Nat} {scope:Scope} {cl:List (Str×Addr)} {fp:List Addr} {H3:Hp} {s3:Shared}
theorem CompScope.cells(S:CompScope X x N ix scope cl){y:Str}{c:Addr}(h:cl.lookup y=some c):X.env.cells.lookup y=some c:=S.sub _ (PySem.mem_of_lookup h)
theorem mJ(S:CompScope X x N ix scope cl)(I3:Inv X pins σ H3 s3)(hf:∀b∈fp,kK X pins H3 b)(hlt:∀b∈fp,b<s3.heap.objs.size):(dI X (x::N) scope cl s3 H3 fp).Ok where
 mod:=I3.ok.mod
 kind:=S.kind
 glob:=I3.ok.glob
 blt:=I3.ok.blt
 above:=zH0 _
 inj:=fun y z c h1 h2=>I3.ok.inj y z c (S.cells h1) (S.cells h2)
 has:=fun y hy=>by
  have q:=List.all_eq_true.mp S.has;have hy:(relabel scope X.env).names.lookup y=some .cell∨(relabel scope X.env).names.lookup y=some .free:=hy;have z:∀k:NameKind,(k==.cell||k==.free)=true->(relabel scope X.env).names.lookup y=some k->∃c,cl.lookup y=some c:=fun k hk e=>by
   have r:=q _ (PySem.mem_of_lookup e);rw[hk]at r;exact Option.isSome_iff_exists.mp (by simpa using r)
  rcases hy with e | e
  . exact z _ (by rfl) e
  . exact z _ (by rfl) e
 cab:=fun _ _ h _=>nomatch h
 hd:=I3.ok.hd
 frames:=I3.ok.frames
 stk:=.inl rfl
 exf:=fun b hb=>⟨zT0 (hlt b hb),fun y c e=>(hf b hb).2.2.2.2.1 y c (S.cells e)⟩
 bs:=fun b o e=>I3.bs b o e
 bsz:=zO0 I3.ok.bsz I3.sz
 noex:=fun b o e hb=>by
  rcases(hf b hb).2.2.2.1 with z | z
  . exact I3.ok.noex b o e z
  . exact absurd (qG0 (zN0 e) (zO0 I3.ok.bsz z)) (qV0 _)
 exfs:=fun b hb z=>by
  rcases zY0 (I3.stkSub b z)with e | e
  . exact(hf b hb).2.1 e
  . exact(hf b hb).2.2.1 e
 funs:=I3.stack
 frf:=I3.stkFree
theorem vU(S:CompScope X x N ix scope cl)(I3:Inv X pins σ H3 s3)(hf:∀b∈fp,kK X pins H3 b)(hlt:∀b∈fp,b<s3.heap.objs.size)(hix:ix.length=N.length){h1:Heap}{t':Nat}{m:Str->Option Value}
 (hn:h1.Ns s3.heap.objs.size m) (hk:∀b o,s3.heap.get? b=some o->h1.get? b=some o):Inv (dI X (x::N) scope cl s3 H3 fp) [] (none::outs ix σ) H3 { s3 with heap:=h1,toks:=t' } where
 ok:=mJ S I3 hf hlt
 os:=rfl
 bare:=I3.bare
 base:=Un.kept hk
 loc:=by
  refine⟨m,hn,fun i y v h1' h2 h3=>?_⟩;cases i with
  | zero=>
    have h2':(some (none:Option V))=some (some v):=h2;cases h2'
  | succ j=>
    have h1'':N[j]?=some y:=h1';have h2':(outs ix σ)[j]?=some (some v):=h2;obtain⟨hr,k,c,e1,e2,e3,e4⟩:=S.outs j y h1'';unfold outs at h2';rw[qE0,e1]at h2';have h2'':(σ[k]?).join=some v:=zV0 h2';have e5:σ[k]?=some (some v):=by
     cases q:σ[k]? with
     | none=>rw[q]at h2'';cases h2''
     | some o=>rw[q]at h2'';exact congrArg some h2''
    obtain⟨m0,_,hl⟩:=I3.loc;obtain⟨u,r,l⟩:=hl k y v e2 e5 (.inr (.inl e4));refine⟨u,r,.inr ⟨.inl hr,c,e3,?_⟩⟩;rcases l with⟨kk,_⟩ | ⟨_,c',ec,z⟩
    . have kk':X.env.scope.names.lookup y=some .local:=kk;rw[e4]at kk';cases kk'
    . rw[S.cells e3]at ec;cases ec;obtain⟨o,ho,hd⟩:=z;exact⟨o,hk _ _ ho,hd⟩
 cell:=fun y c e=>by
  obtain⟨v,o,ho,hd⟩:=I3.cell y c (S.cells e);exact⟨v,o,hk _ _ ho,hd⟩
 free:=I3.hok.fresh (zH0 _)
 freeC:=fun y c e=>I3.freeC y c (S.cells e)
 pin:=fun p hp=>absurd (show p∈([]:List (Addr×Obj))from hp) (by simp)
 hok:=I3.hok.kept hk
 len:=by
  show(none::outs ix σ).length=(x::N).length;rw[zQ0,zQ0];unfold outs;rw[zF0,hix]
theorem yC(I3:Inv X pins σ H3 s3)(hf:∀b∈fp,kK X pins H3 b){σ':St}{H':Hp}{s':Shared}{h'':Heap}{N':List Str}(J:Inv (dI X N' scope cl s3 H3 fp) [] σ' H' s')(hb:Heap.SameBut s3.heap.objs.size s'.heap h'') :
 Inv X pins σ H' { s' with heap:=h'' }:=by
 have ne:∀b o,s3.heap.get? b=some o->b≠s3.heap.objs.size:=fun b o e=>zT0 (zN0 e)
 have B:Un (frs X.stack) fp H3 H' s3.heap s'.heap:=J.base;refine I3.call' (s':={ s' with heap:=h'' }) (ch:=fp) J.os ⟨fun b o e n h1 h2=>(hb.2 b (ne b o e)).trans (B.keep b o e n h1 h2),fun b o e n h1 h2=>?_,B.free,fun b o e h2=>?_,B.tups,B.frzs,B.tbls⟩ (fun b ob e=>?_) J.bare (fun b z=>?_)
 . obtain⟨sl,q⟩:=B.slot b o e n h1 h2;exact⟨sl,(hb.2 b (ne b o e)).trans q⟩
 . obtain⟨o',q⟩:=B.there b o e h2;exact⟨o',(hb.2 b (ne b o e)).trans q⟩
 . have fr:H' s3.heap.objs.size=none:=J.free;refine(J.hok b ob e).stay (fun c w' hc q=>(hb.2 c ?_).trans q) (fun _ q=>q) fun _ _ q=>q
   rintro rfl;rcases hc with rfl | hc
   . rw[fr]at e;cases e
   . rw[fr]at hc;cases hc
 . obtain⟨_,h2,_,h4,h5,h6⟩:=hf b z;exact⟨h4,h2,h5,h6⟩
end
abbrev TBl:=St->Hp->(Hp->Prop)->VK->Prop
def PB(X:Cx)(ifs:List Expr)(elt:Expr)(tb:TBl):Prop:=
 ∀(pins:List (Addr×Obj))(s:Shared)(σ:St)(H:Hp)(skip:Hp->Prop)(keep:VK),Inv X pins σ H s->tb σ H skip keep ->
  wpAny (model X.prog X.w) X.A (forIn ifs true fun c r=>if r=true then do let ok ←isTrue c X.env (eval c X.env);pure (ForInStep.yield ok)else pure (ForInStep.yield r))
   (fun ok s3=>if ok=true then wpAny (model X.prog X.w) X.A (eval elt X.env) (EP X pins σ keep) X.xe s3 else ∃H',Inv X pins σ H' s3/\skip H') X.xe s
def tB0(te:TE):TBl:=fun σ H _ keep=>te σ H keep
def tB1(tc:TT)(te:TE):TBl:=fun σ H skip keep=>tc σ H fun b H1=>if b=true then te σ H1 keep else skip H1
theorem df{X:Cx}{elt:Expr}{te:TE}(he:PE X elt te):PB X [] elt (tB0 te):=by
 intro pins s σ H skip keep I h;refine wpAny_tests_nil ?_;rw[zE0 rfl];exact he pins s σ H keep I h
theorem CP{X:Cx}{c elt:Expr}{tc:TT}{te:TE}(hc:PT X c tc)(he:PE X elt te):PB X [c] elt (tB1 tc te):=by
 intro pins s σ H skip keep I h;refine wpAny_tests_one (thn (hc pins s σ H _ I h) fun b s1 ⟨H1,I1,q1⟩=>?_);cases b with
 | true=>
   rw[zE0 rfl]at q1 ⊢;exact he pins s1 σ H1 keep I1 q1
 | false=>
   rw[zB0 (by decide)]at q1 ⊢;exact⟨H1,I1,q1⟩
def lD(J:It)(D:Addr)(ix:List Nat)(tb:TBl)(σ:St)(H:Hp)(Q:VK):Prop:=∃W:Nat->Nat->Hp->Prop,(∃m,W 0 m (upd H D (.lst [])))/\∀i m H2,W i m H2 ->
 (J.stop i H2/\Q (.ref D) H2)∨(J.go i H2/\∀y H3,J.yld i H2 y H3->tb (some y::outs ix σ) H3 (fun H4=>∃m',m'<m/\W (i+1) m' H4)
  fun z H4=>∃ys,H4 D=some (.lst ys)/\ys.length<sizeLine/\∃m',m'<m/\W (i+1) m' (upd H4 D (.lst (ys++[z]))))
def yT(wi:TI)(ix:List Nat)(tb:TBl):TE:=fun σ H Q=>wi σ H fun J H1=>∀D,H1 D=none->lD J D ix tb σ H1 Q
section
variable {prog:Program} {w:World} {A:Around} {E:Value->Shared->Prop} {R:Result->Shared->Prop} {s:Shared}
theorem tW{elt target iter:Expr}{ifs:List Expr}{scope:Scope}{pos:Pos}{it acc:Value}{env:Env}(I:Nat->Shared->Prop)
 (turn:∀n s,I n s->wpAny (model prog w) A (pyNext it) (fun r s1=>match r with
  | none=>R (.ok .next) s1
  | some v=>wpAny (model prog w) A (letOwnedTupleGo target it v) (fun _ s1'=>wpAny (model prog w) A (assign target env v) (fun _ s2=>
   wpAny (model prog w) A (forIn ifs true fun c r=>if r=true then do let ok ←isTrue c env (eval c env);pure (ForInStep.yield ok)else pure (ForInStep.yield r)) (fun ok s3=>
    if ok=true then wpAny (model prog w) A (eval elt env) (fun x s4=>
     wpAny (model prog w) A (call (.builtin "list.append") [acc,x]) (fun _ s5=>∃m,m<n/\I m s5) (fun _ _=>False) s4) (fun _ _=>False) s3
    else ∃m,m<n/\I m s3) (fun _ _=>False) s2) (fun _ _=>False) s1') (fun _ _=>False) s1) (fun _ _=>False) s)
 (n:Nat) (h:I n s) :
 codeAny (model prog w) A (.compLoop (.ListComp elt [⟨target,iter,ifs,0⟩] scope pos) 0 it acc env) R s:=by
 have up:∀{α:Type}{t:Sem α}{Q Q':α->Shared->Prop}{E':Value->Shared->Prop}{s:Shared},wpAny (model prog w) A t Q (fun _ _=>False) s->(∀a s,Q a s->Q' a s)->wpAny (model prog w) A t Q' E' s:=
  fun h q=>wpAny_mono h q fun _ _ f=>f.elim
 refine codeAny_loop rfl I (fun n s hI=>?_) n h;show wpAny _ A ((compTurn (.ListComp elt [⟨target,iter,ifs,0⟩] scope pos) 0 it acc env).onRaise (fun x=>do noteFrame x env;theTreesLotGoes x)) _ _ s;refine wpAny_noted ?_;rw[compTurn_list];refine zA0 (wpAny_standAt (zA0 (up (turn n s hI) fun r s1 h1=>?_)));cases r with
 | none=>exact zI0 h1
 | some v=>
   refine zA0 (up h1 fun _ s1' h1'=>?_);refine zA0 (up h1' fun _ s2 h2=>zA0 (up h2 fun ok s3 h3=>?_));cases ok with
   | false=>exact zI0 ⟨rfl,h3⟩
   | true=>
     exact zA0 (zA0 (up h3 fun x s4 h4=>zA0 (up h4 fun _ s5 h5=>zI0 (zI0 ⟨rfl,h5⟩))))
end
structure Apart(X:Cx)(pins:List (Addr×Obj))(H:Hp)(C:Addr):Prop where
 fr:H C=none
 lo:C≠X.env.locals
 sz:X.s₀.heap.objs.size<=C
 ce:∀y c,X.env.cells.lookup y=some c->c≠C
 pi:∀p∈X.pn++pins,p.1≠C
theorem Apart.turn{X:Cx}{pins:List (Addr×Obj)}{σ:St}{H:Hp}{C:Addr}{s:Shared}{h':Heap}(a:Apart X pins H C)(I:Inv X pins σ H s)(hs:Heap.SameBut C s.heap h'):Inv X pins σ H { s with heap:=h' }:=
 I.turned (t':=s.toks) (fun b o ne e=>(hs.2 b ne).trans e) a.fr a.lo (.inr a.sz) a.ce a.pi
section
variable {X:Cx} {x:Str} {N:List Str} {ix:List Nat} {scope:Scope} {cl:List (Str×Addr)} {elt iter:Expr} {ifs:List Expr} {px pos:Pos} {wi:TI} {tb:TBl}
theorem tV(hc:X.calm=true)(S:CompScope X x N ix scope cl)(hix:ix.length=N.length)(hb:∀s3 H3 fp,PB (dI X (x::N) scope cl s3 H3 fp) ifs elt tb)
 {pins:List (Addr×Obj)} {s2:Shared} {σ:St} {H2:Hp} {Q:VK} {it:Addr} {fp:List Addr} {tn:Nat->Heap->Prop} {J:It} {RR:Value->Addr->Result->Shared->Prop} {E:Value->Shared->Prop}
 (I2:Inv X pins σ H2 s2) (T:Turn X.prog X.w X.K (.Name x px) J fp it tn) (st2:tn 0 s2.heap) (f2:∀b∈fp,kK X pins H2 b)
 (h:∀D,H2 D=none->∃W:Nat->Nat->Hp->Prop,(∃m,W 0 m (upd H2 D (.lst [])))/\∀i m H3,W i m H3 ->
  (J.stop i H3/\Q (.ref D) H3)∨(J.go i H3/\∀y H4,J.yld i H3 y H4->tb (some y::outs ix σ) H4 (fun H5=>∃m',m'<m/\W (i+1) m' H5)
   fun z H5=>∃ys,H5 D=some (.lst ys)/\ys.length<sizeLine/\∃m',m'<m/\W (i+1) m' (upd H5 D (.lst (ys++[z])))))
 (hRR:∀(D C:Addr)(H':Hp)(s':Shared)(m:Str->Option Value),s'.heap.Ns C m->Apart X pins H' C->Inv X pins σ H' s'->Q (.ref D) H'->RR (.ref D) C (.ok .next) s') :
 wpAny (model X.prog X.w) X.A (newList []) (fun acc s3=>wpAny (model X.prog X.w) X.A (newFunctionEnv scope X.env.globals cl [] X.env.qual none .none (some X.env)) (fun cenv s4=>
  codeAny (model X.prog X.w) X.A (.compStart (.ListComp elt [⟨.Name x px,iter,ifs,0⟩] scope pos) 0 (.ref it) acc { cenv with scope:=relabel scope X.env }) (RR acc cenv.locals) s4) E s3) E s2:=by
 refine wpAny_newObj_type (wpAny_newFunctionEnv S.nocell (by intro y hy;simp at hy) (fun h1 hns1 hsb1=>?_) S.kind)
 dsimp only at hns1 hsb1 ⊢
 have I3:Inv X pins σ (upd H2 s2.heap.objs.size (.lst [])) { s2 with heap:=s2.heap.push { cls:=.type "list",dict:=none,data:=.seq ([]:List Value).toArray } }:=I2.lnew (its:=[]) (ys:=[]) (t':=s2.toks) .nil (zW0 _);have hD:H2 s2.heap.objs.size=none:=I2.fresh;obtain⟨W,⟨m0,w0⟩,turn⟩:=h s2.heap.objs.size hD;have hltF:∀b∈fp,b<s2.heap.objs.size:=fun b hb=>by
  obtain⟨o,e,_⟩:=T.obj 0 _ st2 b hb;exact zN0 e
 generalize hs3:({ s2 with heap:=s2.heap.push { cls:=.type "list",dict:=none,data:=.seq ([]:List Value).toArray } }:Shared)=s3 at I3;have eh:s2.heap.push { cls:=.type "list",dict:=none,data:=.seq ([]:List Value).toArray }=s3.heap:=by rw[←hs3]
 have et:s2.toks=s3.toks:=by rw[←hs3]
 rw[eh]at hns1 hsb1 ⊢;have sz3:s3.heap.objs.size=s2.heap.objs.size+1:=by rw[←eh,Heap.size_push]
 have hlt3:∀b∈fp,b<s3.heap.objs.size:=fun b hb=>qG0 (hltF b hb) (by rw[sz3];exact qL0 _)
 have f3:∀b∈fp,kK X pins (upd H2 s2.heap.objs.size (.lst [])) b:=fun b hb=>by
  obtain⟨q1,q2⟩:=f2 b hb;exact⟨by rw[av (zT0 (hltF b hb))];exact q1,q2⟩
 have up:∀b o,s3.heap.get? b=some o->h1.get? b=some o:=fun b o e=>hsb1.extBut b o (zT0 (zN0 e)) (zP0 _ e)
 have old:∀b o,s2.heap.get? b=some o->h1.get? b=some o:=fun b o e=>up b o (by rw[←eh];exact zP0 _ e)
 have es:({ s2 with heap:=h1,toks:=s2.toks+([]:List (Str×Value)).length }:Shared)={ s3 with heap:=h1,toks:=s2.toks+([]:List (Str×Value)).length }:=by rw[←hs3]
 rw [es];have I4:Inv (dI X (x::N) scope cl s3 (upd H2 s2.heap.objs.size (.lst [])) fp) [] (none::outs ix σ) (upd H2 s2.heap.objs.size (.lst [])) { s3 with heap:=h1,toks:=s2.toks+([]:List (Str×Value)).length }:=
  vU S I3 f3 hlt3 hix hns1 up
 have st4:tn 0 h1:=T.keep 0 _ _ st2 fun b _ o e=>old b o e
 have loop:codeAny (model X.prog X.w) X.A (.compLoop (.ListComp elt [⟨.Name x px,iter,ifs,0⟩] scope pos) 0 (.ref it) (.ref s2.heap.objs.size) (compEnvC scope cl s3.heap.objs.size X.env)) (RR (.ref s2.heap.objs.size) s3.heap.objs.size)
  { s3 with heap:=h1,toks:=s2.toks+([]:List (Str×Value)).length }:=by
  refine tW (fun n s'=>∃i v0 H',Inv (dI X (x::N) scope cl s3 (upd H2 s2.heap.objs.size (.lst [])) fp) [] (v0::outs ix σ) H' s'/\tn i s'.heap/\(∀b∈fp,H' b=none)/\W i n H') ?_ m0 ⟨0,none,_,I4,st4,fun b hb=>(f3 b hb).1,w0⟩;rintro n s5 ⟨i,v0,H5,I5,st5,fr5,w5⟩;have stat:∀{H':Hp},(∀b∈fp,H' b=none)->∀b∈fp,kK (dI X (x::N) scope cl s3 (upd H2 s2.heap.objs.size (.lst [])) fp) [] H' b:=fun hn b hb=>
   ⟨hn b hb,((mJ S I3 f3 hlt3).exf b hb).1,(mJ S I3 f3 hlt3).exfs b hb,.inl hb,((mJ S I3 f3 hlt3).exf b hb).2,fun p hp=>absurd (show p∈([]:List (Addr×Obj))from hp) (by simp)⟩
  rcases turn i n H5 w5 with⟨stop,qn⟩ | ⟨go,step⟩
  . refine thn (T.done (dI X (x::N) scope cl s3 (upd H2 s2.heap.objs.size (.lst [])) fp) rfl rfl rfl hc i [] s5 _ H5 _ I5 (stat fr5) st5 stop) fun r s6 ⟨hr,I6⟩=>?_
    subst hr;obtain⟨m6,hn6,_⟩:=I6.loc;exact hRR _ _ H5 s6 m6 hn6 ⟨I6.free,Ne.symm (zT0 I3.lt),I3.sz,fun y c e z=>by
     obtain⟨v,q⟩:=I3.cell y c e;exact absurd q.lt (by rw[z];exact qV0 _),fun p hp z=>absurd (zN0 (I3.pin p hp).1) (by rw[z];exact qV0 _)⟩ (yC I3 f3 I6 (Heap.SameBut.refl _ _)) qn
  . refine thn (T.item (dI X (x::N) scope cl s3 (upd H2 s2.heap.objs.size (.lst [])) fp) rfl rfl rfl hc i [] s5 _ H5 _ I5 (stat fr5) st5 go) fun r s6 ⟨u,hr,h6⟩=>?_
    subst hr;refine thn h6 fun _ s7 ⟨y,H7,I7,r7,y7,st7,fr7⟩=>?_
    have I7':=I7.pinned (stat fr7) (T.obj _ _ st7);refine wpAny_assign_Name (mY (i:=0) I7' S.nd rfl (.inl (lookup_relabel_local S.own)) r7 (fun s8 I8=>?_) (.inr (lookup_relabel_local S.own)));have I8':Inv (dI X (x::N) scope cl s3 (upd H2 s2.heap.objs.size (.lst [])) fp) ([]++lq fp s7.heap) (some y::outs ix σ) H7 s8:=I8;have again:∀{v9:Option V}{H9:Hp}{s9:Shared},Inv (dI X (x::N) scope cl s3 (upd H2 s2.heap.objs.size (.lst [])) fp) ([]++lq fp s7.heap) (v9::outs ix σ) H9 s9->(∃m',m'<n/\W (i+1) m' H9) ->
     ∃m,m<n/\∃i v0 H',Inv (dI X (x::N) scope cl s3 (upd H2 s2.heap.objs.size (.lst [])) fp) [] (v0::outs ix σ) H' s9/\tn i s9.heap/\(∀b∈fp,H' b=none)/\W i m H':=fun{v9 H9 s9} I9 ⟨m',hm,w9⟩=>by
     refine⟨m',hm,i+1,v9,H9,I9.unpinned,T.keep _ _ _ st7 fun b hb o e=>(I9.pin (b,o) (qU0 _ (qU0 _ (ie hb e)))).1,fun b hb=>?_,w9⟩;obtain⟨o,e,d⟩:=T.obj _ _ st7 b hb;exact(I9.pin (b,o) (qU0 _ (qU0 _ (ie hb e)))).2.1
    refine thn (hb s3 (upd H2 s2.heap.objs.size (.lst [])) fp _ s8 _ H7 _ _ I8' (step y H7 y7)) fun ok s9 q9=>?_
    cases ok with
    | false=>
      rw[zB0 (by decide)]at q9 ⊢;obtain⟨H9,I9,q9⟩:=q9;exact again I9 q9
    | true=>
      rw[zE0 rfl]at q9 ⊢;refine thn q9 fun u s10 ⟨z,H10,I10,r10,ys,hy,hz,q10⟩=>?_
      refine thn (bY _ s10 _ H10 (.ref s2.heap.objs.size) [z] (.ref s2.heap.objs.size) [u] (fun _ H'=>∃m',m'<n/\W (i+1) m' H') I10 rfl (.cons r10 .nil) ⟨_,ys,z,rfl,rfl,hy,hz,q10⟩) fun _ s11 ⟨_,H11,I11,_,q11⟩=>?_
      exact again I11 q11
 exact codeAny_compStart_list loop (T.self _ 0 _ _ _ st4 loop)
theorem cr(hc:X.calm=true)(S:CompScope X x N ix scope cl)(hix:ix.length=N.length)(hi:PI X (.Name x px) iter wi)(hb:∀s3 H3 fp,PB (dI X (x::N) scope cl s3 H3 fp) ifs elt tb)
 (hs:∀x,foldedSetIterable iter X.env x=pure x:=by intro _;rfl):PE X (.ListComp elt [⟨.Name x px,iter,ifs,0⟩] scope pos) (yT wi ix tb):=by
 intro pins s σ H Q I h;rw[eval_ListComp];refine wpAny_comprehension_free (use:=none) rfl hs S.clos S.kind S.names (thn (hi pins s σ H _ I h) fun xv s1 h1=>thn h1 fun itv s2 h2=>?_);obtain⟨it,fp,tn,J,H2,rfl,I2,T,st2,f2,R⟩:=h2;refine tV hc S hix hb (RR:=fun acc C=>compPost (model X.prog X.w) X.A X.xe none (EP X pins σ Q) acc C) I2 T st2 f2 R ?_;intro D C H' s' m hn ap I' q;exact⟨m,hn,fun h'' hb''=>⟨.ref D,H',ap.turn I' hb'',rfl,q⟩⟩
theorem wC{i:Nat}{y:Str}{py spos:Pos}(hN:X.N.Nodup)(hi0:X.N[i]?=some y)(hx:Loc X.env.scope y)(hc:X.calm=true)(S:CompScope X x N ix scope cl)(hix:ix.length=N.length)(hi:PI X (.Name x px) iter wi)(hb:∀s3 H3 fp,PB (dI X (x::N) scope cl s3 H3 fp) ifs elt tb)
 (hsw:swapsWith (.ListComp elt [⟨.Name x px,iter,ifs,0⟩] scope pos) (some (.Name y py)) spos.line X.env=pure true:=by rfl')
 (hs:∀x,foldedSetIterable iter X.env x=pure x:=by intro _;rfl) (hf:X.fn y=true∨X.env.scope.names.lookup y=some .local:=by first | exact .inl rfl | exact .inr rfl | assumption) :
 PS X (.Assign [.Name y py] (.ListComp elt [⟨.Name x px,iter,ifs,0⟩] scope pos) spos) (fun D σ H=>yT wi ix tb σ H fun v H'=>D.nx (σ.set i (some v)) H'):=by
 intro pins s σ H Dn I h;rw[exec_Assign_Name_used _ _ _ _ hsw];refine zA0 (wpAny_standAt (zA0 ?_));show wpAny _ X.A (do let _ ←comprehension (.ListComp elt [⟨.Name x px,iter,ifs,0⟩] scope pos) scope X.env _ (newList []) false (eval iter X.env) (some (assign (.Name y py) X.env))) _ _ s;refine zA0 (wpAny_mono (wpAny_comprehension_free (use:=some (assign (.Name y py) X.env)) (Q:=fun _ s'=>SP X pins Dn .next s') rfl hs S.clos S.kind S.names
  (thn (hi pins s σ H _ I h) fun xv s1 h1=>thn h1 fun itv s2 h2=>?_)) (fun _ s' hq=>zI0 (zI0 hq)) fun _ _ e=>e)
 obtain ⟨it,fp,tn,J,H2,rfl,I2,T,st2,f2,R⟩:=h2;refine tV hc S hix hb (RR:=fun acc C=>compPost (model X.prog X.w) X.A X.xe (some (assign (.Name y py) X.env)) (fun _ s'=>SP X pins Dn .next s') acc C) (Q:=fun v H'=>Dn.nx (σ.set i (some v)) H') I2 T st2 f2 R ?_;intro D C H' s' m hn ap I' q;show wpAny _ X.A (assign (.Name y py) X.env (.ref D)) _ _ _;refine wpAny_assign_Name (pT I' hN hi0 hx (v:=.ref D) rfl (fun s'' I'' hsb=>?_) hf);obtain⟨a,hsb,ha⟩:=hsb;have ne:C≠a:=by
  rcases ha with z | z
  . rw[z];exact ap.lo
  . exact Ne.symm (ap.ce y a z)
 exact⟨m,hn.sameBut hsb ne,fun h'' hb''=>⟨_,H',ap.turn I'' hb'',q⟩⟩
end
section
variable {X:Cx} {pins:List (Addr×Obj)} {σ:St} {H:Hp} {s:Shared} {h':Heap}
theorem Inv.turnedNew{t':Nat}{ch:List Addr}{T:Addr}{o:HO}(I:Inv X pins σ H s)(k:∀b u,b∉ch->s.heap.get? b=some u->h'.get? b=some u)(hf:∀b∈ch,kK X pins H b)(hT:s.heap.objs.size<=T)
 (new:ObjOk X.prog X.w (upd H T o) h' T o):Inv X pins σ (upd H T o) { s with heap:=h',toks:=t' }:=by
 have nit:∀b u,H b=some u->b∉ch:=fun b u e z=>by rw[(hf b z).1]at e;cases e
 have hn:H T=none:=I.hok.fresh hT;have lt:∀b u,s.heap.get? b=some u->b≠T:=fun b u e=>zT0 (qG0 (zN0 e) hT)
 refine I.step (g':=s.gens) (d':=s.drawn) (ch:=ch) (fun b hb=>?_) (fun b u _ _ hc e _=>k b u hc e) (fun b u _ _ hc e _=>⟨u.slots,k b u hc e⟩) (fun b u _ e n=>by rw[av (lt b u e)];exact n) (fun b u hc e=>⟨u,k b u hc e⟩)
  (fun b xs e=>by rw[av (aJ e hn)];exact e) (fun b ob u e=>by rw[av (aJ e hn)];exact e) (fun b ps e=>⟨#[],by rw[av (aJ e hn),e];simp⟩) (fun m hm=>?_) (fun b u e=>?_) I.bare
 . obtain⟨_,h2,_,h4,h5,h6⟩:=hf b hb;exact⟨h4,h2,h5,h6⟩
 . obtain⟨ob,es,ep,ho,r⟩:=hm;exact⟨ob,es,ep,k _ ob (fun z=>(hf _ z).2.1 rfl) ho,r⟩
 . by_cases hb:b=T
   . subst hb;rw[aE]at e;cases e;exact new
   . rw [av hb]at e;refine(I.hok b u e).stay (fun c v hc q=>k c v ?_ q) (fun c q=>by rw[av (aJ q hn)];exact q) fun c xs q=>by rw[av (aJ q hn)];exact q
     rcases hc with z | z
     . rw[z];exact nit b u e
     . exact nit c _ z
theorem Inv.turnedL{t':Nat}{ch:List Addr}(I:Inv X pins σ H s)(k:∀b u,b∉ch->s.heap.get? b=some u->h'.get? b=some u)(hf:∀b∈ch,kK X pins H b):Inv X pins σ H { s with heap:=h',toks:=t' }:=by
 have nit:∀b u,H b=some u->b∉ch:=fun b u e z=>by rw[(hf b z).1]at e;cases e
 refine I.step (g':=s.gens) (d':=s.drawn) (ch:=ch) (fun b hb=>?_) (fun b u _ _ hc e _=>k b u hc e) (fun b u _ _ hc e _=>⟨u.slots,k b u hc e⟩) (fun _ _ _ _ n=>n) (fun b u hc e=>⟨u,k b u hc e⟩)
  (fun _ _ e=>e) (fun _ _ _ e=>e) (fun b ps e=>⟨#[],by rw[e];simp⟩) (fun m hm=>?_) (fun b u e=>?_) I.bare
 . obtain⟨_,h2,_,h4,h5,h6⟩:=hf b hb;exact⟨h4,h2,h5,h6⟩
 . obtain⟨ob,es,ep,ho,r⟩:=hm;exact⟨ob,es,ep,k _ ob (fun z=>(hf _ z).2.1 rfl) ho,r⟩
 . refine (I.hok b u e).stay (fun c v hc q=>k c v ?_ q) (fun _ q=>q) fun _ _ q=>q
   rcases hc with z | z
   . rw[z];exact nit b u e
   . exact nit c _ z
end
def Ite(K:W.Frag)(a:Addr):It:=
 ⟨fun i H=>∃xs x,SqL K H a xs/\xs[i]?=some x,fun i H y H'=>∃t,y=.ref t/\H t=none/\∀xs x,SqL K H a xs->xs[i]?=some x->H'=upd H t (.tup [.int i,x]),fun i H=>∃xs,SqL K H a xs/\xs.length<=i⟩
theorem xc{P:Program}{w:World}{K:W.Frag}{elts:List Expr}{k:Nat}{pos:Pos}(a e it:Addr)(hei:e≠it) :
 Turn P w K (.Tuple elts k pos) (Ite K a) [e,it] e (fun i h=>(∃old,IsEnum h e it i old)/\h.IsListIter it a i) where
 mem:=by simp
 obj:=fun i h st b hb=>by
  obtain⟨⟨old,he⟩,o,e2,c,d⟩:=st;rcases zY0 hb with z | z
  . subst z;exact⟨_,he,fun v z=>nomatch z⟩
  . have z':=zM0 z;subst z';exact⟨o,e2,fun v z=>by rw[d]at z;cases z⟩
 keep:=fun i h h' st k=>by
  obtain⟨⟨old,he⟩,hit⟩:=st;exact⟨⟨old,k e (by simp) _ he⟩,hit.at fun o x=>k it (by simp) o x⟩
 item:=by
  intro X hP hw hK hc i pins s σ H E I hf st hg;subst hP hw hK;obtain⟨xs,x,hq,hx⟩:=hg;obtain⟨its,rv,p,hz⟩:=I.list hq;obtain⟨u,hu,ru⟩:=rv.get hx;obtain⟨⟨old,he⟩,hit⟩:=st;refine wpAny_pyNext_enum_item he hit p.isList (x:=u) (by simpa using hu) hei fun h1 ho hit1 hT hsz hk=>?_
  refine ⟨_,rfl,wpAny_letOwnedTupleGo_enum ho fun h2 he2 hs2=>?_⟩;have elt:e<s.heap.objs.size:=zN0 he;have hT2:h2.get? s.heap.objs.size=some { cls:=.type "tuple",data:=.seq #[.int i s.toks,u] }:=(hs2.2 _ (Ne.symm (zT0 elt))).trans hT;have I2:Inv X pins σ (upd H s.heap.objs.size (.tup [.int i,x])) { s with heap:=h2,toks:=s.toks+1 }:=by
   refine I.turnedNew (ch:=[e,it]) (fun b ob hb eb=>?_) hf (zH0 _) ⟨by show 2<=sizeLine;decide,[.int i s.toks,u],.cons ⟨_,rfl⟩ (.cons ru .nil),⟨_,hT2,rfl,_,rfl⟩,_,hT2,rfl⟩;have b1:b≠e:=fun z=>hb (by simp [z])
   have b2:b≠it:=fun z=>hb (by simp [z])
   exact(hs2.2 b b1).trans (hk b ob b1 b2 eb)
  refine⟨.ref s.heap.objs.size,_,I2,rfl,⟨_,rfl,I.hok.fresh (zH0 _),fun ys y hy hyi=>?_⟩,⟨⟨u,by simpa using he2⟩,hit1.at fun o z=>(hs2.2 it (Ne.symm hei)).trans z⟩,fun b hb=>?_⟩
  . have e1:=I.list_inj hy hq;subst e1;rw[hx]at hyi;cases hyi;rfl
  . have z:=hf b hb;have hlt:b<s.heap.objs.size:=by
     rcases zY0 hb with y | y
     . rw[y];exact elt
     . rw[zM0 y];obtain⟨o,e2,_⟩:=hit;exact zN0 e2
    rw[av (zT0 hlt)];exact z.1
 done:=by
  intro X hP hw hK hc i pins s σ H E I hf st hg;subst hP hw hK;obtain⟨xs,hq,hx⟩:=hg;obtain⟨its,rv,p,hz⟩:=I.list hq;obtain⟨⟨old,he⟩,hit⟩:=st;have hl:=rv.length;exact wpAny_pyNext_enum_end (I.ok.hd hc) he hit p.isList (Array.getElem?_eq_none (by simp;omega)) fun h' eb=>⟨rfl,I.turnedL (t':=s.toks) (ch:=[e,it]) (fun b o hb eo=>eb b o (fun z=>hb (by simp [z])) eo) hf⟩
 self:=fun _ _ _ _ _ st h=>by
  obtain⟨⟨old,he⟩,_⟩:=st;exact wpAny_pyIter_enum he h
section
variable {X:Cx} {elts:List Expr} {k:Nat} {tpos:Pos}
inductive ZiEnum(K:W.Frag)(R:(It->Hp->Prop))(x:V)(H1:Hp):Prop where
 | mk:∀a,(x=.ref a)->((∃xs,SqL K H1 a xs))->(R (Ite K a) H1)->ZiEnum K R x H1
def iEnum(K:W.Frag)(tl:TE):TI:=fun σ H R=>tl σ H fun x H1=>ZiEnum K R x H1
theorem BO {l:Expr} {tl:TE} {p pos:Pos} (hg:Gl X "enumerate") (hm:X.mg "enumerate"=none) (hl:PE X l tl) (hs:starEach [l] X.env=[(false,eval l X.env)]:=by rfl) :
 PI X (.Tuple elts k tpos) (.Call (.Name "enumerate" p) [l] [] pos) (iEnum X.K tl):=by
 intro pins s σ H R I h;refine Call_ (eT I hg hm boot_enumerate (PyProof.Rows.callWith_type1 ?_ hs rfl));rw[hs];show wpAny _ _ (spliced ((false,eval l X.env)::backTo pos (starEach [] X.env))) _ _ s;refine Calls.spliced_cons (thn (hl pins s σ H _ I h) fun u s1 ⟨x,H1,I1,r1,a,ex,⟨xs,hq⟩,q⟩=>?_);subst ex;cases r1;obtain⟨its,rv,p,hz⟩:=I1.list hq;refine Calls.spliced_nil ?_;refine call_enumerate_list p.isList fun h' he hit hsz hk=>?_
 refine wpAny_pyIter_enum he ?_;have I2:Inv X pins σ H1 { s1 with heap:=h' }:=I1.kept (t':=s1.toks) hk;refine⟨s1.heap.objs.size+1,[s1.heap.objs.size+1,s1.heap.objs.size],_,_,H1,rfl,I2,xc a _ _ (qO0 (Nat.lt_succ_self _)),⟨⟨_,he⟩,hit⟩,fun b hb=>?_,q⟩;rcases zY0 hb with z | z
 . rw[z];exact I1.fpOk (qL0 _) (I1.hok.fresh (qL0 _))
 . rw[zM0 z];exact I1.fpOk (zH0 _) (I1.hok.fresh (zH0 _))
end
theorem AT{K:W.Frag}{a:Addr}{xs:List V}{g:TG}{tb:TS}{D:Ends}{σ:St}{H:Hp}(Pv:Nat->St->Hp->Prop)(h0:Pv 0 σ H)(hl:∀i σ H,i<=xs.length->Pv i σ H->SqL K H a xs)
 (hs:∀i x σ H t,xs[i]?=some x->Pv i σ H->H t=none->g (.ref t) σ (upd H t (.tup [.int i,x])) fun σ2 H2=>tb { D with nx:=Pv (i+1),ct:=Pv (i+1),bk:=D.nx } σ2 H2) (hd:∀ σ H,Pv xs.length σ H->D.nx σ H) :
 ∃ W:Nat->Nat->St->Hp->Prop,(∃m,W 0 m σ H)/\∀i m σ H,W i m σ H ->
  ((Ite K a).stop i H/\D.nx σ H)∨((Ite K a).go i H/\∃N:St->Hp->Prop,(∀ σ' H',N σ' H'->∃m',m'<m/\W (i+1) m' σ' H')/\∀x H',(Ite K a).yld i H x H'->g x σ H' fun σ2 H2=>tb { D with nx:=N,ct:=N,bk:=D.nx } σ2 H2):=by
 refine⟨fun i m σ H=>m=xs.length-i/\i<=xs.length/\Pv i σ H,⟨xs.length,by simp,zW0 _,h0⟩,?_⟩;rintro i m σ H ⟨rfl,hi,p⟩;have q:=hl i σ H hi p
 by_cases hlt:i<xs.length
 . refine .inr ⟨⟨xs,xs[i],q,by simp [hlt]⟩,Pv (i+1),fun σ' H' p'=>⟨xs.length-(i+1),by omega,rfl,hlt,p'⟩,fun x H' y=>?_⟩;obtain⟨t,rfl,ht,e⟩:=y;have e':=e xs xs[i] q (by simp [hlt]);subst e';exact hs i xs[i] σ H t (by simp [hlt]) p ht
 . have e:i=xs.length:=by omega
   subst e;exact .inl ⟨⟨xs,q,zH0 _⟩,hd σ H p⟩
mutual
inductive Rep(K:W.Frag)(H:Hp):V->PyData->Prop
 | non:Rep K H .non .none
 | bl (b:Bool):Rep K H (.bl b) (.bool b)
 | int (i:Int):Rep K H (.int i) (.int i)
 | str (x:Str):Rep K H (.str x) (.str x)
 | tup {a:Addr} {xs:List V} {ds:List PyData}:SqT K H a xs->RepAll K H xs ds->Rep K H (.ref a) (.tuple ds)
 | lst {a:Addr} {xs:List V} {ds:List PyData}:SqL K H a xs->RepAll K H xs ds->Rep K H (.ref a) (.list ds)
inductive RepAll(K:W.Frag)(H:Hp):List V->List PyData->Prop
 | nil:RepAll K H [] []
 | cons {x:V} {d:PyData} {xs:List V} {ds:List PyData}:Rep K H x d->RepAll K H xs ds->RepAll K H (x::xs) (d::ds)
end
section
variable {X:Cx} {pins:List (Addr×Obj)} {σ:St} {H:Hp} {s:Shared}
mutual
theorem Rep.reads(I:Inv X pins σ H s):∀{x:V}{d:PyData}{v:Value},Rep X.K H x d->RelV x v->∃as,Reads s.heap v d as
 | _,_,v,.non,r=>by cases(show v=Value.none from r);exact⟨_,Reads.none⟩
 | _,_,v,.bl b,r=>by cases(show v=Value.bool b from r);exact⟨_,Reads.bool b⟩
 | _,_,v,.int i,r=>by obtain⟨t,e⟩:=(show ∃t,v=Value.int i t from r);cases e;exact⟨_,Reads.int i t⟩
 | _,_,v,.str x,r=>by obtain⟨t,e⟩:=(show ∃t,v=Value.str x t from r);cases e;exact⟨_,Reads.str x t⟩
 | _,_,v,.tup (a:=a) h q,r=>by
   cases(show v=Value.ref a from r);obtain⟨its,rv,⟨o,ho,hc,n,hd⟩,_⟩:=I.tuple h;obtain⟨as,z⟩:=RepAll.reads I q rv;exact⟨_,reads_tuple_at ho hc hd (by simpa using z)⟩
 | _,_,v,.lst (a:=a) h q,r=>by
   cases(show v=Value.ref a from r);obtain⟨its,rv,⟨o,n,ho,hc,_,hd⟩,_⟩:=I.list h;obtain⟨as,z⟩:=RepAll.reads I q rv;exact⟨_,reads_list_at ho hc hd (by simpa using z)⟩
theorem RepAll.reads(I:Inv X pins σ H s):∀{xs:List V}{ds:List PyData}{vs:List Value},RepAll X.K H xs ds->Vals xs vs->∃as,ReadsAll s.heap vs ds as
 | _,_,_,.nil,.nil=>⟨_,ReadsAll.nil⟩
 | _,_,_,.cons h q,.cons r rs=>by
   obtain⟨as,z⟩:=Rep.reads I h r;obtain⟨bs,y⟩:=RepAll.reads I q rs;exact⟨_,ReadsAll.cons z y⟩
end
end
theorem gy{K:W.Frag}{H:Hp}:∀ns:List Int,RepAll K H (ns.map V.int) (ns.map PyData.int)
 | []=>.nil
 | n::r=>.cons (.int n) (gy r)
section
variable {X:Cx}
inductive rEqD(K:W.Frag)(x:V)(y:V)(H:Hp)(Q:VK):Prop where
 | mk:∀d e,(Rep K H x d)->(Rep K H y e)->(SeqAt.shaped d=true)->(SeqAt.shaped e=true)->(Q (.bl (PyData.eqv d e)) H)->rEqD K x y H Q
inductive rNeD(K:W.Frag)(x:V)(y:V)(H:Hp)(Q:VK):Prop where
 | mk:∀d e,(Rep K H x d)->(Rep K H y e)->(SeqAt.shaped d=true)->(SeqAt.shaped e=true)->(Q (.bl (!PyData.eqv d e)) H)->rNeD K x y H Q
theorem oy(hu:X.A.units+64<cLine):OpR X (compareOp .Eq) (rEqD X.K):=by
 intro pins s σ H x y v u Q I rx ry h;obtain⟨d,e,hd,he,sd,se,q⟩:=h;obtain⟨as,r1⟩:=Rep.reads I hd rx;obtain⟨bs,r2⟩:=Rep.reads I he ry;exact eq_dataH r1 r2 sd se hu ⟨.bl _,H,I,rfl,q⟩
theorem zU(hu:X.A.units+64<cLine):OpR X (compareOp .NotEq) (rNeD X.K):=by
 intro pins s σ H x y v u Q I rx ry h;obtain⟨d,e,hd,he,sd,se,q⟩:=h;obtain⟨as,r1⟩:=Rep.reads I hd rx;obtain⟨bs,r2⟩:=Rep.reads I he ry;exact ne_dataH r1 r2 sd se hu ⟨.bl _,H,I,rfl,q⟩
inductive rCatT0(K:W.Frag)(x:V)(y:V)(H:Hp)(Q:VK):Prop where
 | mk:∀a b ys,(x=.ref a)->(y=.ref b)->(SqT K H a [])->(SqT K H b ys)->(Q (.ref b) H)->rCatT0 K x y H Q
theorem oz:OpR X (binaryOp .Add) (rCatT0 X.K):=by
 intro pins s σ H x y v u Q I rx ry h;obtain⟨a,b,ys,rfl,rfl,ha,hb,q⟩:=h;cases rx;cases ry;obtain⟨its,r1,p1,_⟩:=I.tuple ha;obtain⟨its2,r2,p2,_⟩:=I.tuple hb;obtain⟨⟨cls,dd,data,sl⟩,ho,hc,n,hd⟩:=id p1;obtain⟨⟨cls2,dd2,data2,sl2⟩,ho2,hc2,n2,hd2⟩:=id p2;simp only at hc hd hc2 hd2;subst hc hd hc2 hd2;have e:its=[]:=r1.nil_iff.mpr rfl;exact concat_meets ⟨_,ho,rfl⟩ ⟨_,ho2,rfl⟩ noFill_tuple_add seq_tuple_add PySem.F.slot_tuple_add PySem.F.entry_tuple_add (PySem.F.args_tuple_add_2 _ _)
  (tuple_addW0 a b its.toArray its2.toArray n n2 dd dd2 sl sl2 (by simp [e])) ⟨ho,ho2,⟨.ref b,H,I,rfl,q⟩⟩
end
def Nx(n i:Nat)(Pv:Nat->Hp->Prop)(H:Hp):Prop:=∃m',m'<n-i/\(m'=n-(i+1)/\i+1<=n/\Pv (i+1) H)
theorem Nx.of{n i:Nat}{Pv:Nat->Hp->Prop}{H:Hp}(h:i<n)(p:Pv (i+1) H):Nx n i Pv H:=⟨n-(i+1),by omega,rfl,h,p⟩
theorem iX{K:W.Frag}{a D:Addr}{xs:List V}{ix:List Nat}{tb:TBl}{σ:St}{H:Hp}{Q:VK}(Pv:Nat->Hp->Prop)(h0:Pv 0 (upd H D (.lst [])))(hl:∀i H,i<=xs.length->Pv i H->SqT K H a xs)
 (hs:∀i x H,xs[i]?=some x->Pv i H->tb (some x::outs ix σ) H (Nx xs.length i Pv) fun z H'=>∃ys,H' D=some (.lst ys)/\ys.length<sizeLine/\Nx xs.length i Pv (upd H' D (.lst (ys++[z])))) (hd:∀H,Pv xs.length H->Q (.ref D) H) :
 lD (Itt K a) D ix tb σ H Q:=by
 refine⟨fun i m H=>m=xs.length-i/\i<=xs.length/\Pv i H,⟨xs.length,by simp,zW0 _,h0⟩,?_⟩;rintro i m H ⟨rfl,hi,p⟩;have q:=hl i H hi p
 by_cases hlt:i<xs.length
 . refine .inr ⟨⟨xs,xs[i],q,by simp [hlt]⟩,fun x H' y=>?_⟩;obtain⟨e,y⟩:=y;subst e;exact hs i x _ (y xs q) p
 . have e:i=xs.length:=by omega
   subst e;exact .inl ⟨⟨xs,q,zH0 _⟩,hd H p⟩
theorem gG{K:W.Frag}{a D:Addr}{xs:List V}{ix:List Nat}{tb:TBl}{σ:St}{H:Hp}{Q:VK}(Pv:Nat->Hp->Prop)(h0:Pv 0 (upd H D (.lst [])))(hl:∀i H,i<=xs.length->Pv i H->SqL K H a xs)
 (hs:∀i x H,xs[i]?=some x->Pv i H->tb (some x::outs ix σ) H (Nx xs.length i Pv) fun z H'=>∃ys,H' D=some (.lst ys)/\ys.length<sizeLine/\Nx xs.length i Pv (upd H' D (.lst (ys++[z])))) (hd:∀H,Pv xs.length H->Q (.ref D) H) :
 lD (Itl K a) D ix tb σ H Q:=by
 refine⟨fun i m H=>m=xs.length-i/\i<=xs.length/\Pv i H,⟨xs.length,by simp,zW0 _,h0⟩,?_⟩;rintro i m H ⟨rfl,hi,p⟩;have q:=hl i H hi p
 by_cases hlt:i<xs.length
 . refine .inr ⟨⟨xs,xs[i],q,by simp [hlt]⟩,fun x H' y=>?_⟩;obtain⟨e,y⟩:=y;subst e;exact hs i x _ (y xs q) p
 . have e:i=xs.length:=by omega
   subst e;exact .inl ⟨⟨xs,q,zH0 _⟩,hd H p⟩
theorem fO{lo:Int}{n:Nat}{D:Addr}{ix:List Nat}{tb:TBl}{σ:St}{H:Hp}{Q:VK}(Pv:Nat->Hp->Prop)(h0:Pv 0 (upd H D (.lst [])))
 (hs:∀i H,i<n->Pv i H->tb (some (.int (lo+i))::outs ix σ) H (Nx n i Pv) fun z H'=>∃ys,H' D=some (.lst ys)/\ys.length<sizeLine/\Nx n i Pv (upd H' D (.lst (ys++[z])))) (hd:∀H,Pv n H->Q (.ref D) H) :
 lD (Itr lo n) D ix tb σ H Q:=by
 refine⟨fun i m H=>m=n-i/\i<=n/\Pv i H,⟨n,by simp,zW0 _,h0⟩,?_⟩;rintro i m H ⟨rfl,hi,p⟩
 by_cases hlt:i<n
 . refine .inr ⟨hlt,fun x H' y=>?_⟩;obtain⟨e,y⟩:=y;subst e y;exact hs i _ hlt p
 . have e:i=n:=by omega
   subst e;exact .inl ⟨zH0 _,hd H p⟩
theorem CompScope.closed{X:Cx}{x:Str}{scope:Scope}(c1:closureFor scope X.env=pure [])(c2:∀y∈scope.names,y.2≠.cell)(c3:scope.kind=.function)(c4:∀y∈scope.names,y.2=.local->scope.names.lookup y.1=some .local)
 (c5:scope.names.lookup x=some .local) (c6:((relabel scope X.env).names.all fun p=>!(p.2==.cell||p.2==.free)||((([]:List (Str×Addr))).lookup p.1).isSome)=true):CompScope X x [] [] scope [] where
 clos:=c1
 nocell:=c2
 kind:=c3
 names:=c4
 own:=c5
 nd:=by simp
 sub:=fun p hp=>absurd hp (by simp)
 has:=c6
 outs:=fun j y h=>by simp at h
section
variable {X:Cx}
theorem AE(K:W.Frag)(hK:X.K=K:=by rfl):IxR X (rIxL K):=by subst hK;exact ix_list
end
def Its(z:Str):It:=⟨fun i _=>i<z.cps.size,fun i H x H'=>H'=H/\∃c,z.cps[i]?=some c/\x=.str ⟨#[c]⟩,fun i _=>z.cps.size<=i⟩
theorem mO{prog:Program}{w:World}{A:Around}(hh:A.handled=none)(I:Addr)(x:Str)(t:Tok):Walks prog w A I [I] [I] x.cps.size (SignAt x) (fun i h=>h.IsStrIter I (strIterType x) x t i):=by
 unfold strIterType
 split
 . exact Walks.strAscii hh I x t
 . exact Walks.strWide hh I x t
theorem yN{P:Program}{w:World}{K:W.Frag}{y:Str}{py:Pos}(z:Str)(t:Tok)(it:Addr):Turn P w K (.Name y py) (Its z) [it] it (fun i h=>i<=z.cps.size/\h.IsStrIter it (strIterType z) z t i) where
 mem:=by simp
 obj:=fun i h st b hb=>by
  have e:b=it:=by simpa using hb
  subst e;obtain⟨_,o,e,c,d⟩:=st;exact⟨o,e,fun v z=>by rw[d]at z;cases z⟩
 keep:=fun i h h' st k=>by
  obtain⟨hi,o,e,r⟩:=st;exact⟨hi,o,k it (by simp) o e,r⟩
 item:=by
  intro X hP hw hK hc i pins s σ H E I hf st hg;subst hP hw hK;obtain⟨f0,f1,f2,f3,f4,f5⟩:=hf it (by simp);refine(mO (I.ok.hd hc) it z t).item i s _ E hg st.2 fun v h' tk hP hst hk=>?_
  obtain⟨c,u,hcx,rfl⟩:=hP;have I1:Inv X pins σ H { s with heap:=h',toks:=tk }:=I.turned (fun b o hb e=>hk b o (by simpa using hb) e) f0 f1 f3 f4 f5;exact⟨_,rfl,wpAny_of_eq (a:=()) rfl ⟨.str ⟨#[c]⟩,H,I1,⟨_,rfl⟩,⟨rfl,c,hcx,rfl⟩,⟨hg,hst⟩,fun b hb=>(hf b hb).1⟩⟩
 done:=by
  intro X hP hw hK hc i pins s σ H E I hf st hg;subst hP hw hK;obtain⟨f0,f1,f2,f3,f4,f5⟩:=hf it (by simp);have e:i=z.cps.size:=Nat.le_antisymm st.1 hg;subst e;refine(mO (I.ok.hd hc) it z t).done s _ E st.2 fun h' tk hk=>?_
  exact⟨rfl,I.turned (fun b o hb e=>hk b o (by simpa using hb) e) f0 f1 f3 f4 f5⟩
 self:=fun A i s Q E st h=>by
  obtain⟨_,st⟩:=st;unfold strIterType at st
  split at st
  . exact wpAny_pyIter_striter_ascii st h
  . exact wpAny_pyIter_striter_wide st h
section
variable {X:Cx} {y:Str} {py:Pos}
inductive ZiStr(R:(It->Hp->Prop))(x:V)(H1:Hp):Prop where
 | mk:∀z,(x=.str z)->(R (Its z) H1)->ZiStr R x H1
def iStr(tl:TE):TI:=fun σ H R=>tl σ H fun x H1=>ZiStr R x H1
theorem zM{l:Expr}{tl:TE}(hl:PE X l tl):PI X (.Name y py) l (iStr tl):=by
 intro pins s σ H R I h;refine thn (hl pins s σ H _ I h) fun v s1 ⟨x,H1,I1,r1,q1⟩=>?_
 obtain⟨z,e,q⟩:=q1;subst e;obtain⟨t,rfl⟩:=r1;refine wpAny_pyIter_strU ?_;refine⟨s1.heap.objs.size,[s1.heap.objs.size],_,_,H1,rfl,I1.kept (t':=s1.toks) fun b o e=>zP0 _ e,yN z t _,⟨zW0 _,_,qA0 _ rfl,rfl,rfl⟩,fun b hb=>?_,q⟩;have e:b=s1.heap.objs.size:=by simpa using hb
 subst e;exact I1.fpOk (zH0 _) (I1.hok.fresh (zH0 _))
end
theorem oY{z:Str}{D:Addr}{ix:List Nat}{tb:TBl}{σ:St}{H:Hp}{Q:VK}(Pv:Nat->Hp->Prop)(h0:Pv 0 (upd H D (.lst [])))
 (hs:∀i c H,z.cps[i]?=some c->Pv i H->tb (some (.str ⟨#[c]⟩)::outs ix σ) H (Nx z.cps.size i Pv) fun u H'=>∃ys,H' D=some (.lst ys)/\ys.length<sizeLine/\Nx z.cps.size i Pv (upd H' D (.lst (ys++[u])))) (hd:∀H,Pv z.cps.size H->Q (.ref D) H) :
 lD (Its z) D ix tb σ H Q:=by
 refine⟨fun i m H=>m=z.cps.size-i/\i<=z.cps.size/\Pv i H,⟨z.cps.size,by simp,zW0 _,h0⟩,?_⟩;rintro i m H ⟨rfl,hi,p⟩
 by_cases hlt:i<z.cps.size
 . refine .inr ⟨hlt,fun x H' y=>?_⟩;obtain⟨e,c,hc,rfl⟩:=y;subst e;exact hs i c _ hc p
 . have e:i=z.cps.size:=by omega
   subst e;exact .inl ⟨zH0 _,hd H p⟩
section
variable {X:Cx}
inductive rSlS(x:V)(lo:Option Int)(hi:Option Int)(H:Hp)(Q:VK):Prop where
 | mk:∀z,(x=.str z)->(z.length<=sizeLine)->(Q (.str (Txt.slice z lo hi)) H)->rSlS x lo hi H Q
theorem uI:SlR X rSlS:=by
 intro pins s σ H x v vl vu lo hi sl Q I rx hs pl pu h;obtain⟨z,rfl,hz,q⟩:=h;obtain⟨t,rfl⟩:=rx;refine⟨"str",_,F.slot_str_getitem.lookup,typeIs_str _ _ _,?_⟩;have fin:∀t' k,EP X pins σ Q (.str (Txt.slice z lo hi) t') { s with toks:=k }:=fun t' k=>⟨.str _,H,I.tok k,⟨_,rfl⟩,q⟩
 obtain⟨o,ho,hc,hd⟩:=hs;cases pl with
 | none=>
   cases pu with
   | none=>exact wpAny_getItem_str_slice (l:=none) (u:=none) (st:=none) ⟨o,ho,hc,hd⟩ rfl (post_val_or_str ⟨zO0 (Txt.slice_le z _ _) hz,fin⟩)
   | int j u=>exact wpAny_getItem_str_slice (l:=none) (u:=some (j,u)) (st:=none) ⟨o,ho,hc,hd⟩ rfl (post_val_or_str ⟨zO0 (Txt.slice_le z _ _) hz,fin⟩)
 | int i u'=>
   cases pu with
   | none=>exact wpAny_getItem_str_slice (l:=some (i,u')) (u:=none) (st:=none) ⟨o,ho,hc,hd⟩ rfl (post_val_or_str ⟨zO0 (Txt.slice_le z _ _) hz,fin⟩)
   | int j u=>exact wpAny_getItem_str_slice (l:=some (i,u')) (u:=some (j,u)) (st:=none) ⟨o,ho,hc,hd⟩ rfl (post_val_or_str ⟨zO0 (Txt.slice_le z _ _) hz,fin⟩)
inductive rStarts(x:V)(vs:List V)(H:Hp)(Q:VK):Prop where
 | mk:∀z u,(x=.str z)->(vs=[.str u])->(Q (.bl (Txt.startswith z u)) H)->rStarts x vs H Q
theorem pN:MtR X "str.startswith" rStarts:=by
 intro pins s σ H x vs v us Q I rx rv h;obtain⟨z,u,rfl,rfl,q⟩:=h;obtain⟨t,rfl⟩:=rx;obtain⟨w',rfl,t',rfl⟩:=rv.one;exact SC.startswith ⟨.bl _,H,I,rfl,q⟩
theorem mX:∀{zs:List Str}{us:List Value},Vals (zs.map V.str) us->StrsAre us zs
 | [],_,.nil=>.nil
 | _::_,_,.cons ⟨t,e⟩ r=>by subst e;exact .cons _ t (mX r)
inductive rJoin(K:W.Frag)(x:V)(vs:List V)(H:Hp)(Q:VK):Prop where
 | mk:∀z a ys,(x=.str z)->(vs=[.ref a])->(SqL K H a (ys.map V.str))->(z.length<=16)->((ys.map (·.length)).sum+ys.length<=1048576)->(Q (.str (Txt.join z ys)) H)->rJoin K x vs H Q
theorem Ce:MtR X "str.join" (rJoin X.K):=by
 intro pins s σ H x vs v us Q I rx rv h;obtain⟨z,a,ys,rfl,rfl,hq,hz,hw,q⟩:=h;obtain⟨t,rfl⟩:=rx;obtain⟨w',rfl,ra⟩:=rv.one;cases ra;obtain⟨its,r',p,_⟩:=I.list hq;exact join_listW p.isList (by simpa using mX r') hz hw fun t' k=>⟨.str _,H,I.tok k,⟨_,rfl⟩,q⟩
inductive rAll(K:W.Frag)(xs:List V)(H:Hp)(Q:VK):Prop where
 | mk:∀(a:Addr)(bs:List Bool),(xs=[.ref a])->(SqL K H a (bs.map V.bl))->(Q (.bl (bs.all id)) H)->rAll K xs H Q
theorem qp:∀{bs:List Bool}{us:List Value}{i:Nat}{v:Value},Vals (bs.map V.bl) us->us[i]?=some v->∃b,bs[i]?=some b/\v=.bool b
 | [],_,_,_,.nil,h=>by simp at h
 | b::_,_,0,_,.cons r _,h=>by
   simp at h
   subst h;exact⟨b,rfl,r⟩
 | _::_,_,i+1,_,.cons _ t,h=>by
   obtain⟨b,h1,h2⟩:=qp (i:=i) t (by simpa using h);exact⟨b,by simpa using h1,h2⟩
theorem ua (hc:X.calm=true):gI X (.builtin "all") (rAll X.K):=by
 intro pins s σ H xs us Q I r h;obtain⟨a,bs,rfl,hq,q⟩:=h;obtain⟨u,rfl,ru⟩:=ju r;cases ru;obtain⟨its,r',p,hz⟩:=I.list hq;have hl:=r'.length;rw[zF0]at hl;have hlt:a<s.heap.objs.size:=by obtain⟨o,n,e,_⟩:=p;exact zN0 e
 refine call_all_walk (wpAny_pyIter_list p.isList ?_);refine⟨s.heap.objs.size,_,_,_,_,_,fun i=>bs[i]?.getD true,rfl,Walks.list (A:=X.A.in1) (I.ok.hd hc) s.heap.objs.size a (zT0 hlt) its.toArray,⟨⟨_,qA0 _ rfl,rfl,rfl⟩,p.isList.push _⟩,?_,?_⟩
 . intro i v s' Q' E' hP hQ;obtain⟨b,hb,rfl⟩:=qp r' (i:=i) (v:=v) (by simpa using hP);have hQ':Q' b s':=by simpa [hb]using hQ
   exact wpAny_truthy_bool hQ'
 . intro h' tk hk;have e:(List.range its.toArray.size).all (fun i=>bs[i]?.getD true)=bs.all id:=by
    rw[zS0,←hl];rw[Bool.eq_iff_iff,List.all_eq_true,List.all_eq_true]
    constructor
    . intro h b hb;obtain⟨i,hi,e⟩:=List.getElem_of_mem hb
      have:=h i (List.mem_range.mpr hi)
      rw[zR0 hi]at this
      simpa [e]using this
    . intro h i hi;have hi':=List.mem_range.mp hi;rw[zR0 hi'];exact h _ (qR0 hi')
   rw[e];refine⟨.bl _,H,?_,rfl,q⟩;have I1:Inv X pins σ H { s with heap:=s.heap.push { cls:=.type "list_iterator",data:=.fields #[.ref a,.int 0 0] } }:=I.kept (t':=s.toks) fun b o e=>zP0 _ e
   refine I1.turnedL (t':=tk) (ch:=[s.heap.objs.size]) (fun b o hb e=>hk b o (by simpa using hb) e) fun b hb=>?_
   rw[zM0 hb];exact I.fpOk (zH0 _) (I.hok.fresh (zH0 _))
end
theorem jh {X:Cx} {n k:Nat} {x:Str} {sp:Sp} {p pos:Pos} (C:Cal X.prog X.w X.K X.mg X.base n x [] sp) (hr:Room k X.A) (hk:n<=k) (hg:Gl X x) (hdb:(x==("__debug__":Str))=false:=by decide) :
 PE X (.Call (.Name x p) [] [] pos) (sq sp [] E0 sn):=by
 obtain⟨f,fd,F,b,kp,m⟩:=C.ex;exact zS F (hr.mono hk) hg m kp b .nil bq hdb
inductive Consts:List Expr->List Str->Prop
 | nil:Consts [] []
 | cons {x:Str} {j:Nat} {pos:Pos} {es:List Expr} {zs:List Str}:Consts es zs->Consts (.Constant (.str x) j pos::es) (x::zs)
theorem jj{X:Cx}:∀{es:List Expr}{zs:List Str},Consts es zs->PA X es (fun _ H Q=>Q (zs.map V.str) H)
 | _,_,.nil=>aI
 | _,_,.cons h=>fun pos pins s σ H Q I q=>ae ax (jj h) (by rfl) pos pins s σ H Q I q
theorem CompScope.one{X:Cx}{x y:Str}{scope:Scope}{k:Nat}{c:Addr}(c1:closureFor scope X.env=pure [(y,c)])(c2:∀y∈scope.names,y.2≠.cell)(c3:scope.kind=.function)(c4:∀y∈scope.names,y.2=.local->scope.names.lookup y.1=some .local)
 (c5:scope.names.lookup x=some .local) (nd:[x,y].Nodup) (hc:X.env.cells.lookup y=some c) (c6:((relabel scope X.env).names.all fun p=>!(p.2==.cell||p.2==.free)||(([(y,c)]:List (Str×Addr)).lookup p.1).isSome)=true)
 (hr:(relabel scope X.env).names.lookup y=some .cell) (hk:X.N[k]?=some y) (hs:X.env.scope.names.lookup y=some .cell):CompScope X x [y] [k] scope [(y,c)] where
 clos:=c1
 nocell:=c2
 kind:=c3
 names:=c4
 own:=c5
 nd:=nd
 sub:=fun p hp=>by
  rw[zM0 hp];exact hc
 has:=c6
 outs:=fun j z h=>by
  cases j with
  | zero=>
    have e:y=z:=zV0 h;subst e;exact⟨hr,k,c,rfl,hk,by simp [List.lookup],hs⟩
  | succ j=>simp at h
theorem CompScope.two{X:Cx}{x y z:Str}{scope:Scope}{k l:Nat}{c d:Addr}{cl:List (Str×Addr)}(c1:closureFor scope X.env=pure cl)(c2:∀y∈scope.names,y.2≠.cell)(c3:scope.kind=.function)(c4:∀y∈scope.names,y.2=.local->scope.names.lookup y.1=some .local)
 (c5:scope.names.lookup x=some .local) (nd:[x,y,z].Nodup) (hcl:cl=[(z,d),(y,c)]∨cl=[(y,c),(z,d)]) (hc:X.env.cells.lookup y=some c) (hd:X.env.cells.lookup z=some d) (c6:((relabel scope X.env).names.all fun p=>!(p.2==.cell||p.2==.free)||(cl.lookup p.1).isSome)=true)
 (hr:(relabel scope X.env).names.lookup y=some .cell) (hk:X.N[k]?=some y) (hs:X.env.scope.names.lookup y=some .cell)
 (hr2:(relabel scope X.env).names.lookup z=some .cell) (hk2:X.N[l]?=some z) (hs2:X.env.scope.names.lookup z=some .cell):CompScope X x [y,z] [k,l] scope cl where
 clos:=c1
 nocell:=c2
 kind:=c3
 names:=c4
 own:=c5
 nd:=nd
 sub:=fun p hp=>by
  rcases hcl with rfl | rfl
  all_goals
   rcases zY0 hp with e | e
   . rw[e];assumption
   . rw[zM0 e];assumption
 has:=c6
 outs:=fun j w h=>by
  have nyz:y≠z:=fun e=>by simp [e]at nd
  match j,h with
  | 0,h=>
    have e:y=w:=zV0 h;subst e;refine⟨hr,k,c,rfl,hk,?_,hs⟩;rcases hcl with rfl | rfl
    . have:(y==z)=false:=by simpa using nyz
      simp [List.lookup,this]
    . simp [List.lookup]
  | 1,h=>
    have e:z=w:=zV0 h;subst e;refine⟨hr2,l,d,rfl,hk2,?_,hs2⟩;rcases hcl with rfl | rfl
    . simp [List.lookup]
    . have:(z==y)=false:=by simpa using Ne.symm nyz
      simp [List.lookup,this]
  | j+2,h=>simp at h
end L2
namespace Mine
open PySem L2
def vZ (x:Str):Prop:=x.length<=20/\(∀c∈x.cps.toList,97<=c/\c<=122)/\x≠"aa"
theorem jo{x:Str}{l u:Option Int}{c:Nat}(h:c∈(Txt.slice x l u).cps.toList):c∈x.cps.toList:=by
 have e:Txt.slice x l u=StrLaws.sliceText x l u:=rfl;rw[e]at h;unfold StrLaws.sliceText at h
 split at h
 . exact h
 . obtain ⟨i,_,hi⟩:=List.mem_filterMap.mp (show c∈(List.filterMap _ _) by simpa using h)
   have:=Array.mem_of_getElem? hi
   simpa using this
theorem mem_append{x y:Str}{c:Nat}(h:c∈(x++y).cps.toList):c∈x.cps.toList∨c∈y.cps.toList:=by
 have e:(x++y).cps.toList=x.cps.toList++y.cps.toList:=by simp [Str.cps_append]
 rw[e]at h;exact qD0 h
theorem xZ {zs:List Str} {c:Nat} (h:c∈(Txt.join "" zs).cps.toList):∃z∈zs,c∈z.cps.toList:=by
 have e:Txt.join "" zs=Str.join "" zs:=by
  cases zs with
  | nil=>rfl
  | cons a r=>exact StrLaws.glued_cons "" r a
 rw[e]at h;rcases(PyProof.Rows.mem_join "" c zs).mp h with h | ⟨_,h⟩
 . exact h
 . have e0:(("":Str)).cps.toList=[]:=by decide
   rw[e0]at h;cases h
inductive Tr where
 | is (x:Str) | yes | no | not (a:Tr) | bin (w:Str) (a b:Tr)
def Tr.size:Tr->Nat
 | .is _=>1 | .yes=>1 | .no=>1 | .not a=>a.size+1 | .bin _ a b=>a.size+b.size+1
def Tr.depth:Tr->Nat
 | .is _=>1 | .yes=>1 | .no=>1 | .not a=>a.depth+1 | .bin _ a b=>max a.depth b.depth+1
def Tr.names:Tr->List Str
 | .is x=>[x] | .yes=>[] | .no=>[] | .not a=>a.names | .bin _ a b=>a.names++b.names
def joinW:List Str:=["and","or","odd","same"]
def Tr.ok(ns:List Str):Tr->Prop
 | .is x=>x∈ns | .yes=>True | .no=>True | .not a=>a.ok ns | .bin w a b=>w∈joinW/\a.ok ns/\b.ok ns
inductive TreeAt(H:Hp):V->Tr->Prop
 | is {a:Addr} {x:Str}:H a=some (.tup [.str "is",.str x])->TreeAt H (.ref a) (.is x)
 | yes {a:Addr}:H a=some (.tup [.str "yes"])->TreeAt H (.ref a) .yes
 | no {a:Addr}:H a=some (.tup [.str "no"])->TreeAt H (.ref a) .no
 | not {a:Addr} {v:V} {t:Tr}:H a=some (.tup [.str "not",v])->TreeAt H v t->TreeAt H (.ref a) (.not t)
 | bin {a:Addr} {w:Str} {v u:V} {t r:Tr}:H a=some (.tup [.str w,v,u])->TreeAt H v t->TreeAt H u r->TreeAt H (.ref a) (.bin w t r)
abbrev bL(H H':Hp):Prop:=∀a xs,H a=some (.tup xs)->H' a=some (.tup xs)
theorem TreeAt.mono{H H':Hp}(k:bL H H'){v:V}{t:Tr}(h:TreeAt H v t):TreeAt H' v t:=by
 induction h with
 | is e=>exact .is (k _ _ e)
 | yes e=>exact .yes (k _ _ e)
 | no e=>exact .no (k _ _ e)
 | not e _ ih=>exact .not (k _ _ e) ih
 | bin e _ _ i1 i2=>exact .bin (k _ _ e) i1 i2
theorem aV{H H':Hp}(s:Same H H'):bL H H':=fun a _ h=>s a _ h
theorem aU{H H':Hp}{f:Addr}(F:FeedAt H f)(s:SameBut f H H'):bL H H':=fun a xs h=>s a _ (fun z=>by
 obtain⟨o,t,e,_⟩:=F;rw[z,e]at h;cases h) h
def NamesAt(H:Hp)(a:Addr)(ns:List Str):Prop:=H a=some (.lst (ns.map V.str))∨H a=some (.tup (ns.map V.str))
theorem NamesAt.ne{H:Hp}{f a:Addr}{ns:List Str}(F:FeedAt H f)(h:NamesAt H a ns):a≠f:=fun z=>by
 obtain⟨o,t,e,_⟩:=F;subst z;rcases h with h | h
 . rw [e]at h;have h':=HO.lst.inj (zV0 h);cases ns with
   | nil=>cases h'
   | cons x r=>simp at h'
 . rw[e]at h;cases h
theorem NamesAt.feed{H H':Hp}{f a:Addr}{ns:List Str}(F:FeedAt H f)(s:SameBut f H H')(h:NamesAt H a ns):NamesAt H' a ns:=by
 have ne:=h.ne F;rcases h with h | h
 . exact .inl (s _ _ ne h)
 . exact .inr (s _ _ ne h)
theorem NamesAt.same{H H':Hp}{a:Addr}{ns:List Str}(s:Same H H')(h:NamesAt H a ns):NamesAt H' a ns:=by
 rcases h with h | h
 . exact .inl (s _ _ h)
 . exact .inr (s _ _ h)
theorem NamesAt.seq{K:W.Frag}{H:Hp}{a:Addr}{ns:List Str}(h:NamesAt H a ns):SqL K H a (ns.map V.str)∨SqT K H a (ns.map V.str):=by
 rcases h with h | h
 . exact .inl (zG0 h)
 . exact .inr (zD0 h)
theorem NamesAt.ix{K:W.Frag}{H:Hp}{a:Addr}{ns:List Str}{i:Int}{x:V}{Q:VK}(h:NamesAt H a ns)(hx:atI (ns.map V.str) i=some x)(q:Q x H):rIxL K (.ref a) (.int i) H Q∨rIxT K (.ref a) (.int i) H Q:=by
 rcases h with h | h
 . exact .inl ⟨a,_,i,x,rfl,rfl,zG0 h,hx,q⟩
 . exact .inr ⟨a,_,i,x,rfl,rfl,zD0 h,hx,q⟩
inductive spTree(n:Nat)(vs:List V)(H:Hp)(Q:VK)(u_3:XK):Prop where
 | mk:∀(f a:Addr)(room deep:Int)(ns:List Str),(vs=[.ref f,.ref a,.int room,.int deep])->(FeedAt H f)->(NamesAt H a ns)->(ns.length<=6)->(1<=room)->(room<=100)->(1<=deep)->(deep+1<=(n:Int)+1)->(∀(v:V)(t:Tr)(H':Hp),FeedAt H' f->SameBut f H H'->TreeAt H' v t->t.ok ns->(t.size:Int)<=room->(t.depth:Int)<=deep->Q v H')->spTree n vs H Q u_3
theorem lV{α:Type}{l:List α}{i:Int}(h0:0<=i)(h:i<(l.length:Int)):∃v,atI l i=some v/\v∈l:=by
 have hk:i.toNat<l.length:=by omega
 have q:atI l ((i.toNat:Nat):Int)=some l[i.toNat]:=cH (zR0 hk);have ek:((i.toNat:Nat):Int)=i:=by omega
 rw[ek]at q;exact⟨_,q,qR0 hk⟩
end Mine
namespace L2
open PySem PySem.Spec PyProof.Rows
section
variable {X:Cx}
def qR(lo:Int)(n:Nat):List Int:=(List.range n).map fun i:Nat=>lo+(i:Int)
theorem zF(lo:Int)(n:Nat):(qR lo n).length=n:=by unfold qR;rw[zF0,qP0]
theorem xD{lo:Int}{n:Nat}{acc:List Value}(h:ItemsOf (fun i v=>∃t,v=Value.int (lo+(i:Int)*1) t) acc.toArray n):Vals ((qR lo n).map V.int) acc:=by
 obtain⟨h1,h2⟩:=h;have l1:acc.length=n:=by simpa using h1
 have key:∀(k:Nat)(l:List Value),(∀i v,l[i]?=some v->∃t,v=Value.int (lo+((k+i:Nat):Int)) t)->Vals (((List.range' k l.length).map fun i:Nat=>lo+(i:Int)).map V.int) l:=by
  intro k l
  induction l generalizing k with
  | nil=>intro _;exact .nil
  | cons a r ih=>
    intro h;obtain⟨t,e⟩:=h 0 a rfl;rw[zQ0,List.range'_succ,zZ0,zZ0];refine .cons ⟨t,by simpa using e⟩ (ih (k+1) fun i v hv=>?_);obtain⟨t,e⟩:=h (i+1) v (by simpa using hv);exact⟨t,by rw[e];congr 2;omega⟩
 have:=key 0 acc fun i v hv=>by
  obtain⟨t,e⟩:=h2 i v (by simpa using hv);exact⟨t,by simpa using e⟩
 unfold qR;rw[←l1,List.range_eq_range'];exact this
inductive ZtListRng(Q:VK)(vs:(List V))(H1:Hp):Prop where
 | mk:∀i j:Int,(vs=[.int i,.int j])->((-(2 ^ 62)<=i/\i<2 ^ 62/\-(2 ^ 62)<=j/\j<2 ^ 62))->(j-i<=1000)->(∀p,H1 p=none->Q (.ref p) (upd H1 p (.lst ((qR i (j-i).toNat).map V.int))))->ZtListRng Q vs H1
def yR(ta:TA):TE:=fun σ H Q=>ta σ H fun vs H1=>ZtListRng Q vs H1
theorem vc {a b:Expr} {ta:TA} {p1 p2 pos1 pos2:Pos} (hc:X.calm=true) (hg1:Gl X "list") (hm1:X.mg "list"=none) (hg2:Gl X "range") (hm2:X.mg "range"=none) (ha:PA X [a,b] ta)
 (hs1:starEach [(.Call (.Name "range" p2) [a,b] [] pos2:Expr)] X.env=[(false,eval (.Call (.Name "range" p2) [a,b] [] pos2) X.env)]:=by rfl) (hs:starEach [a,b] X.env=[(false,eval a X.env),(false,eval b X.env)]:=by rfl) (hs2:starEach [b] X.env=[(false,eval b X.env)]:=by rfl) :
 PE X (.Call (.Name "list" p1) [.Call (.Name "range" p2) [a,b] [] pos2] [] pos1) (yR ta):=by
 intro pins s σ H Q I h;refine wpAny_Call_Name_kw (eT I hg1 hm1 pf ?_);refine PyProof.Rows.callWith_type1 ?_ hs1 rfl;rw[hs1];show wpAny _ _ (spliced ((false,eval (.Call (.Name "range" p2) [a,b] [] pos2) X.env)::backTo pos1 (starEach [] X.env))) _ _ s;have step:wpAny (model X.prog X.w) X.A (eval (.Call (.Name "range" p2) [a,b] [] pos2) X.env) (fun v s1=>∃(r:Addr) (i j:Int) (t u k:Tok) (H1:Hp),v=.ref r/\Inv X pins σ H1 s1/\IsRange s1.heap r i j 1 t u k/\(-(2 ^ 62)<=i/\i<2 ^ 62/\-(2 ^ 62)<=j/\j<2 ^ 62)/\j-i<=1000/\
  ∀p,H1 p=none->Q (.ref p) (upd H1 p (.lst ((qR i (j-i).toNat).map V.int)))) X.xe s:=by
  refine Call_ (eT I hg2 hm2 boot_range (PyProof.Rows.callWith_type1 (thn (ha pos2 pins s σ H _ I h) fun us s1 ⟨vs,H1,I1,r1,q1⟩=>?_) (by rw[hs,hs2]) (by rw[hs2];rfl)));obtain⟨i,j,e,q1,q2,q⟩:=q1;subst e;cases r1 with
  | cons r rr=>
    cases rr with
    | cons r' rr=>
      cases rr;obtain⟨t,rfl⟩:=r;obtain⟨t',rfl⟩:=r';refine call_range_2 ⟨_,i,j,_,_,_,H1,rfl,I1.kept fun b o e=>zP0 _ e,IsRange.new ..,q1,q2,q⟩
 refine Calls.spliced_cons (thn step fun v s1 hv=>?_);obtain⟨r,i,j,t,u,k,H1,rfl,I1,hr,⟨a1,a2,a3,a4⟩,hle,q⟩:=hv;refine Calls.spliced_nil ?_;have e2:Builtin.Range.rangeSize i j 1=(((j-i).toNat:Nat):Int):=by rw[rangeSize_one];split <;> omega
 refine call_list_range (I1.ok.hd hc) hr (small_one a1 a2 a3 a4) e2 (by omega) fun h' tk acc' c' hk hS hacc=>?_
 obtain⟨acc,rfl⟩:∃acc:List Value,acc'=acc.toArray:=⟨acc'.toList,by simp⟩
 have rr:=xD hacc;have I2:Inv X pins σ (upd H1 s1.heap.objs.size (.lst ((qR i (j-i).toNat).map V.int))) { s1 with heap:=h',toks:=tk }:=by
  refine I1.turnedNew (ch:=[]) (fun b ob _ eb=>hk b ob eb) (fun b hb=>absurd hb (by simp)) (zH0 _) ⟨?_,acc,c',rr,hS⟩;rw[zF0,zF];exact bv (by omega)
 exact⟨.ref s1.heap.objs.size,_,I2,rfl,q _ (I1.hok.fresh (zH0 _))⟩
inductive rSum(K:W.Frag)(xs:List V)(H:Hp)(Q:VK):Prop where
 | mk:∀(a:Addr)(ns:List Int),(xs=[.ref a])->(SqL K H a (ns.map V.int))->((∀n∈ns,0<=n))->(ns.sum<2 ^ 63)->(Q (.int ns.sum) H)->rSum K xs H Q
theorem oN:∀{bs:List Int}{us:List Value}{i:Nat}{v:Value},Vals (bs.map V.int) us->us[i]?=some v->∃b t,bs[i]?=some b/\v=.int b t
 | [],_,_,_,.nil,h=>by simp at h
 | b::_,_,0,_,.cons r _,h=>by
   simp at h
   subst h;obtain⟨t,e⟩:=r;exact⟨b,t,rfl,e⟩
 | _::_,_,i+1,_,.cons _ t,h=>by
   obtain⟨b,t,h1,h2⟩:=oN (i:=i) t (by simpa using h);exact⟨b,t,by simpa using h1,h2⟩
theorem lE{ns:List Int}(h:∀n∈ns,0<=n)(j:Nat):0<=(ns.take j).sum/\(ns.take j).sum<=ns.sum:=by
 induction ns generalizing j with
 | nil=>simp
 | cons a r ih=>
   cases j with
   | zero=>
     have:=ih (fun n hn=>h n (qH0 _ hn)) r.length
     rw[qJ0]at this;have a0:=h a zU0;simp only[List.take_zero,List.sum_nil,List.sum_cons];omega
   | succ j=>
     have:=ih (fun n hn=>h n (qH0 _ hn)) j
     have a0:=h a zU0;simp only[List.take_succ_cons,List.sum_cons];omega
theorem lJ(ns:List Int)(j:Nat):preSum (fun i=>ns[i]?.getD 0) j=(ns.take j).sum:=by
 induction j with
 | zero=>simp;rfl
 | succ j ih=>
   show preSum (fun i=>ns[i]?.getD 0) j+(fun i=>ns[i]?.getD 0) j=_;rw[ih,qK0,List.sum_append];cases e:ns[j]? with
   | none=>simp [e]
   | some x=>simp [e]
theorem tZ (hc:X.calm=true):gI X (.builtin "sum") (rSum X.K):=by
 intro pins s σ H xs us Q I r h;obtain⟨a,ns,rfl,hq,n0,nb,q⟩:=h;obtain⟨u,rfl,ru⟩:=ju r;cases ru;obtain⟨its,r',p,hz⟩:=I.list hq;have hl:=r'.length;rw[zF0]at hl;have hlt:a<s.heap.objs.size:=by obtain⟨o,n,e,_⟩:=p;exact zN0 e
 refine call_sum_walk (wpAny_pyIter_list p.isList ?_);refine⟨s.heap.objs.size,_,_,_,_,_,fun i=>ns[i]?.getD 0,rfl,Walks.list (A:=X.A.in1) (I.ok.hd hc) s.heap.objs.size a (zT0 hlt) its.toArray,⟨⟨_,qA0 _ rfl,rfl,rfl⟩,p.isList.push _⟩,?_,?_,?_,?_⟩
 . intro b hb;have hpz:∀o:Obj,(s.heap.push o).objs.size=s.heap.objs.size+1:=fun o=>by simp [Heap.push]
   show b<(s.heap.push _).objs.size;rw[hpz];rcases zY0 hb with e | e
   . rw[e];exact Nat.lt_succ_self _
   . rw[zM0 e];exact Nat.lt_succ_of_lt hlt
 . intro i v hP;obtain⟨b,t,hb,rfl⟩:=oN r' (i:=i) (v:=v) (by simpa using hP);exact⟨t,by simp [hb]⟩
 . intro j hj;have hj':j<ns.length:=by rw[hl];simpa using hj
   have s1:=lE n0 (j+1);rw[lJ];refine⟨?_,by unfold InLong;omega⟩;have s2:=lE n0 j;have e:(ns.take (j+1)).sum=(ns.take j).sum+ns[j]:=by rw[qK0,List.sum_append,zR0 hj'];simp
   have n1:=n0 _ (qR0 hj');show InLong (ns[j]?.getD 0);rw[zR0 hj'];show InLong ns[j];unfold InLong;omega
 . intro h' tk t' hk;rw[lJ,zS0,←hl,qJ0];refine⟨.int _,H,?_,⟨_,rfl⟩,q⟩;have I1:Inv X pins σ H { s with heap:=s.heap.push { cls:=.type "list_iterator",data:=.fields #[.ref a,.int 0 0] } }:=I.kept (t':=s.toks) fun b o e=>zP0 _ e
   refine I1.turnedL (t':=tk) (ch:=[s.heap.objs.size]) (fun b o hb e=>hk b o (by simpa using hb) e) fun b hb=>?_
   rw[zM0 hb];exact I.fpOk (zH0 _) (I.hok.fresh (zH0 _))
end
theorem ww:Slot "reversed" "__iter__" "reversed.__iter__":=Slot.of (owner:="reversed") (n:="__iter__") (by rw[typeLookup_type,builtinLookup_eq_fast];kernel_rfl) (by decide) (by decide) (by decide) (by first | exact .inl (by decide) | exact .inr (by decide)) (by rw[isSubtype_type];kernel_rfl) (by decide)
theorem rv_next:Slot "reversed" "__next__" "reversed.__next__":=Slot.of (owner:="reversed") (n:="__next__") (by rw[typeLookup_type,builtinLookup_eq_fast];kernel_rfl) (by decide) (by decide) (by decide) (by first | exact .inl (by decide) | exact .inr (by decide)) (by rw[isSubtype_type];kernel_rfl) (by decide)
theorem yP:typeLookup (.type "tuple") "__reversed__"=pure none:=by rw[typeLookup_type,builtinLookup_eq_fast];kernel_rfl
theorem xy:entryFor table "reversed.__iter__"=some Builtin.«dict_keyiterator.__iter__»:=entryFor_alias (by kernel_rfl) rfl (show _="dict_keyiterator.__iter__" by decide) (by kernel_rfl)
theorem pW:entryFor table "reversed.__next__"=some Builtin.«reversed.__next__»:=entryFor_of_tree (by kernel_rfl)
def RevT (h:Heap) (it t:Addr) (i:Int):Prop:=h.get? it=some { cls:=.type "reversed",data:=.fields #[.ref t,rawInt i] }
section
variable {prog:Program} {w:World} {A:Around} {E:Value->Shared->Prop} {s:Shared} {R:Result->Shared->Prop} {it t:Addr}
theorem RevT.typeIs {i:Int} (h:RevT s.heap it t i):s.TypeIs (.ref it) "reversed":=⟨_,h,rfl⟩
theorem qf{i:Int}{Q:Value->Shared->Prop}(h:RevT s.heap it t i)(q:Q (.ref it) s):wpAny (model prog w) A (pyIter (.ref it)) Q E s:=
 wpAny_pyIter_slot h.typeIs ww (wpAny_call_entry ww h.typeIs xy (zI0 ⟨_,rfl,"reversed",_,h.typeIs,rv_next.lookup,q⟩) (by rfl))
theorem oF{i:Nat}{items:Array Value}{x:Value}{Q:Option Value->Shared->Prop}(h:RevT s.heap it t (i:Int))(ht:IsTup s.heap t items)(hx:items[i]?=some x)(hi:(i:Int)<2 ^ 63)
 (q:∀h' tk,RevT h' it t ((i:Int)-1)->Heap.SameBut it s.heap h'->Q (some x) { s with heap:=h',toks:=tk }):wpAny (model prog w) A (pyNext (.ref it)) Q E s:=by
 have hT:=h.typeIs;have hs:i<items.size:=(Array.getElem?_eq_some_iff.mp hx).1;unfold pyNext;refine zA0 (wpAny_attempt (wpAny_callSpecial?_slot hT rv_next (wpAny_call_entry rv_next hT pW ?_ (by rfl))));unfold Builtin.«reversed.__next__»;refine zA0 (wpAny_of_eq (show slotArgs "__next__" 0 ⟨[.ref it],[]⟩=pure (.ref it,[])from rfl) ?_);refine zA0 (wpAny_field h rfl rfl ?_);refine zA0 (wpAny_field h rfl rfl ?_);refine wpAny_ite_split (fun hab=>absurd hab (by omega)) (fun _=>?_);refine zA0 (wpAny_specialOf (show s.TypeIs (.ref t) "tuple" from ht.typeIs) PyProof.Rows.slot_tuple_getitem.lookup ?_);refine wpAny_ite_split (fun hab=>absurd hab (by simp)) (fun _=>?_);refine zA0 (wpAny_mkInt ?_);have e1:seqIndex? (i:Int) items.size=some i:=(rH (by unfold ixN;rw[zE0 (by omega),zE0 (by omega)];simp)).1;refine zA0 (wpAny_attempt (PyProof.Rows.getItem_tuple (items:=items) (x:=x) ht (by omega) hi e1 hx ?_));refine zA0 (wpAny_field h rfl rfl ?_);refine zA0 (wpAny_setField_rec h (by simp) fun h' e hb=>?_);refine zI0 ⟨_,rfl,zI0 (q h' _ ?_ hb)⟩;exact e
theorem pM{Q:Option Value->Shared->Prop}(hh:A.handled=none)(h:RevT s.heap it t (-1))
 (q:∀h' tk,Heap.ExtBut it s.heap h'->Q none { s with heap:=h',toks:=tk }):wpAny (model prog w) A (pyNext (.ref it)) Q E s:=by
 have hT:=h.typeIs;unfold pyNext;refine zA0 (wpAny_attempt (wpAny_callSpecial?_slot hT rv_next (wpAny_call_entry rv_next hT pW ?_ (by rfl))));unfold Builtin.«reversed.__next__»;refine zA0 (wpAny_of_eq (show slotArgs "__next__" 0 ⟨[.ref it],[]⟩=pure (.ref it,[])from rfl) ?_);refine zA0 (wpAny_field h rfl rfl ?_);refine zA0 (wpAny_field h rfl rfl ?_);refine wpAny_ite_split (fun _=>?_) (fun hab=>absurd (by decide) hab);refine zA0 (wpAny_rule ?_);refine zA0 ?_;show wpAny _ _ (setField (.ref it) 1 (rawInt (-1)) >>= fun _=>setField (.ref it) 0 Value.none) _ _ _;refine zA0 (wpAny_setField_rec h (by simp) fun h1 e1 b1=>?_);refine wpAny_setField_rec e1 (by simp) fun h2 e2 b2=>?_
 refine zA0 ?_;unfold Builtin.SmallTypes.stopIteration newExc newTuple;refine zA0 (zA0 (wpAny_newObj_type ?_ (by show 0<=sizeLine;decide)));refine zA0 (wpAny_of_eq (show firstArgMember (.type "StopIteration") []=pure .none by rfl') ?_);refine wpAny_newObj_type ?_ (sizeOk_excFields ..);refine wpAny_raiseNew_none hh ?_;refine zA0 (wpAny_isInstance (T:="StopIteration") ⟨_,qA0 _ rfl,rfl⟩ isSubtype_stop ?_);refine wpAny_ite_split (fun _=>?_) (fun hab=>absurd rfl hab);refine zI0 (q _ _ ?_);exact(b1.extBut.trans b2.extBut).trans fun b o hb e=>zP0 _ (zP0 _ e)
theorem BF:Slot "reversed" "__init__" "object.__init__":=Slot.of (owner:="object") (n:="__init__") (by rw[typeLookup_type,builtinLookup_eq_fast];kernel_rfl) (by decide) (by decide) (by decide) (by first | exact .inl (by decide) | exact .inr (by decide)) (by rw[isSubtype_type];kernel_rfl) (by decide)
theorem xz:TypeCalled "reversed" "reversed.__new__" "object.__init__":=⟨by decide,F.create_reversed,⟨_,_,F.mro_reversed⟩,F.made_reversed,F.plain_reversed_new,F.sub_reversed_self,BF⟩
theorem xj:isSubtype (.type "tuple") (.type "dict")=pure false:=by rw[isSubtype_type];kernel_rfl
theorem kH{items:Array Value}{Q:Value->Shared->Prop}(ht:IsTup s.heap t items)(hz:items.size<=sizeLine)
 (q:∀tk,Q (.ref s.heap.objs.size) { s with heap:=s.heap.push { cls:=.type "reversed",data:=.fields #[.ref t,rawInt ((items.size:Int)-1)] },toks:=tk }):wpAny (model prog w) A (call (.type "reversed") [.ref t]) Q E s:=by
 have h63:=ig;refine callType_newIn xz (by decide) (F.typeCall_reversed_1 _) (F.newCall_reversed_1 _) (fun _=>by rfl) F.entry_reversed_new
  (S:=fun A R s=>wpAny (model prog w) A.in1 (Builtin.«reversed.__new__» ⟨[.type "reversed",.ref t],[]⟩) (fun fin s'=>match fin with | .done f=>R (.ok f) s' | .again c'=>c'.quiet=true/\codeAny (model prog w) A c' R s') (fun e s'=>R (.error e) s') s) (fun A R s h=>h) ?_
 unfold Builtin.«reversed.__new__»;refine zA0 (wpAny_of_eq (newClass_reversed _) ?_);refine zA0 (wpAny_of_eq (a:=()) rfl ?_);refine zA0 (wpAny_of_eq (a:=()) rfl ?_);refine zA0 (wpAny_specialOf ht.typeIs yP ?_);refine zA0 ?_;refine zA0 (wpAny_isInstance ht.typeIs xj ?_);refine wpAny_ite_split (fun hab=>absurd hab (by decide)) (fun _=>?_);refine zA0 (wpAny_specialOf ht.typeIs PyProof.Rows.slot_tuple_getitem.lookup ?_);refine wpAny_ite_split (fun _=>?_) (fun hab=>absurd (by decide) hab);refine zI0 ?_;refine wpAny_ite_split (fun hab=>absurd hab (by decide)) (fun _=>?_);refine zA0 (len_tuple ht (by omega) ?_);refine zA0 (zI0 ?_);refine zA0 (wpAny_newObj_type (data:=.fields #[.ref t,rawInt ((items.size:Int)-1)]) ?_ (by show 2<=sizeLine+2;decide));refine zI0 ?_;exact⟨⟨_,qA0 _ rfl,rfl⟩,q _⟩
end
end L2
namespace Mine
open PySem L2
def Tr.wf:Tr->Prop
 | .is x=>vZ x | .yes=>True | .no=>True | .not a=>a.wf | .bin w a b=>w∈joinW/\a.wf/\b.wf
def Tr.parts:Tr->List Tr
 | .is _=>[] | .yes=>[] | .no=>[] | .not a=>[a] | .bin _ a b=>[a,b]
theorem Tr.ok_wf{ns:List Str}(hn:∀x∈ns,vZ x):∀t:Tr,t.ok ns->t.wf
 | .is _,h=>hn _ h
 | .yes,_=>trivial
 | .no,_=>trivial
 | .not a,h=>Tr.ok_wf hn a h
 | .bin _ a b,⟨h,h1,h2⟩=>⟨h,Tr.ok_wf hn a h1,Tr.ok_wf hn b h2⟩
theorem Tr.depth_pos:∀t:Tr,1<=t.depth
 | .is _=>zH0 _ | .yes=>zH0 _ | .no=>zH0 _ | .not a=>Nat.le_add_left .. | .bin _ a b=>Nat.le_add_left ..
def jS(ts:List Tr):Nat:=(ts.map Tr.size).sum
def fN(ts:List Tr):List Str:=(ts.map Tr.names).flatten
theorem Tr.size_parts(t:Tr):t.size=jS t.parts+1:=by
 cases t <;> simp [Tr.size,Tr.parts,jS]
theorem Tr.names_parts(t:Tr)(h:∀x,t≠.is x):t.names=fN t.parts:=by
 cases t with
 | is x=>exact absurd rfl (h x)
 | _=>simp [Tr.names,Tr.parts,fN]
theorem Tr.parts_mem{t u:Tr}(h:u∈t.parts)(w:t.wf):u.wf/\u.depth+1<=t.depth/\u.size+1<=t.size:=by
 cases t with
 | is x=>simp [Tr.parts]at h
 | yes=>simp [Tr.parts]at h
 | no=>simp [Tr.parts]at h
 | not a=>
   rw[zM0 h];exact⟨w,zH0 _,zH0 _⟩
 | bin o a b=>
   obtain⟨_,w1,w2⟩:=w;rcases zY0 h with e | e
   . rw [e];refine⟨w1,?_,?_⟩
     . show a.depth+1<=max a.depth b.depth+1;omega
     . show a.size+1<=a.size+b.size+1;omega
   . rw [zM0 e];refine⟨w2,?_,?_⟩
     . show b.depth+1<=max a.depth b.depth+1;omega
     . show b.size+1<=a.size+b.size+1;omega
inductive TreesAt(H:Hp):List V->List Tr->Prop
 | nil:TreesAt H [] []
 | cons {v:V} {t:Tr} {vs:List V} {ts:List Tr}:TreeAt H v t->TreesAt H vs ts->TreesAt H (v::vs) (t::ts)
theorem TreesAt.mono{H H':Hp}(k:bL H H'){vs:List V}{ts:List Tr}(h:TreesAt H vs ts):TreesAt H' vs ts:=by
 induction h with
 | nil=>exact .nil
 | cons a _ ih=>exact .cons (a.mono k) ih
theorem TreesAt.length{H:Hp}{vs:List V}{ts:List Tr}(h:TreesAt H vs ts):vs.length=ts.length:=by
 induction h with
 | nil=>rfl
 | cons _ _ ih=>rw[zQ0,zQ0,ih]
theorem TreesAt.get{H:Hp}{vs:List V}{ts:List Tr}(h:TreesAt H vs ts):∀{i:Nat}{v:V},vs[i]?=some v->∃t,ts[i]?=some t/\TreeAt H v t:=by
 induction h with
 | nil=>intro i v e;simp at e
 | cons a _ ih=>
   intro i v e;cases i with
   | zero=>cases(zV0 e);exact⟨_,rfl,a⟩
   | succ i=>exact ih (i:=i) (by simpa using e)
theorem vL {w:Str} (h:w∈joinW):w≠"is":=(by decide:∀w∈joinW,w≠("is":Str)) w h
theorem TreeAt.view {H:Hp} {v:V} {t:Tr} (h:TreeAt H v t) (w:t.wf):(∃(a:Addr) (x:Str),v=.ref a/\t=.is x/\vZ x/\H a=some (.tup [.str "is",.str x]))∨
 ∃(a:Addr) (o:Str) (xs:List V),v=.ref a/\o≠"is"/\xs.length<=2/\H a=some (.tup (.str o::xs))/\TreesAt H xs t.parts/\(∀x,t≠.is x):=by
 cases h with
 | is e=>exact .inl ⟨_,_,rfl,rfl,w,e⟩
 | yes e=>exact .inr ⟨_,_,[],rfl,by decide,by simp,e,.nil,fun x z=>by cases z⟩
 | no e=>exact .inr ⟨_,_,[],rfl,by decide,by simp,e,.nil,fun x z=>by cases z⟩
 | not e g=>exact .inr ⟨_,_,[_],rfl,by decide,by simp,e,.cons g .nil,fun x z=>by cases z⟩
 | bin e g g2=>exact .inr ⟨_,_,[_,_],rfl,vL w.1,by simp,e,.cons g (.cons g2 .nil),fun x z=>by cases z⟩
theorem cut1(o:V):∀xs:List V,xs.length<=2->ly (o::xs) (some 1) none=xs/\¬ (HT.sIx (o::xs).length 0 (some 1)=0/\HT.sIx (o::xs).length (o::xs).length none=(o::xs).length)
 | [],_=>⟨rfl,fun h=>absurd h.1 (show ¬ HT.sIx 1 0 (some 1)=0 by decide)⟩
 | [_],_=>⟨rfl,fun h=>absurd h.1 (show ¬ HT.sIx 2 0 (some 1)=0 by decide)⟩
 | [_,_],_=>⟨rfl,fun h=>absurd h.1 (show ¬ HT.sIx 3 0 (some 1)=0 by decide)⟩
 | _::_::_::_,h=>absurd h (by simp)
theorem Tr.names_len:∀t:Tr,t.names.length<=t.size
 | .is _=>zH0 _
 | .yes=>zW0 _
 | .no=>zW0 _
 | .not a=>Nat.le_succ_of_le (Tr.names_len a)
 | .bin _ a b=>by
   have:=Tr.names_len a
   have:=Tr.names_len b
   show(a.names++b.names).length<=a.size+b.size+1;rw[zJ0];omega
end Mine
namespace L2
open PySem PySem.Spec PyProof.Rows
section
variable {prog:Program} {w:World} {A:Around} {E:Value->Shared->Prop} {s:Shared}
def Ed(xs:Array Value)(x:Value):Nat->Option PySem.Fin×Unit->Sem (ForInStep (Option PySem.Fin×Unit)):=fun i _=>match xs[i]? with
 | some y=>do
   let b ←eqBool y x
   if b=true then do
    let r ←retInt (i:Int)
    pure (ForInStep.done (some r,()))
    else pure (ForInStep.yield (none,()))
 | _=>pure (ForInStep.yield (none,()))
theorem tH{xs:Array Value}{x:Value}{e:Value->Bool}(he:∀y∈xs,SeqAt.EqAt A s y x (e y)){j:Nat}(hj:j<xs.size)(ej:e xs[j]=true)(bf:∀(m:Nat) (hm:m<xs.size),m<j->e xs[m]=false){Q:Option PySem.Fin×Unit->Shared->Prop}
 (q:Q (some (.done (.ret (.int (j:Int) s.toks))),()) { s with toks:=s.toks+1 }):∀(n k:Nat),k<=j->j<k+n->k+n<=xs.size->wpAny (model prog w) A (forIn (List.range' k n 1) ((none:Option PySem.Fin),()) (Ed xs x)) Q E s
 | 0,k,h1,h2,_=>absurd h2 (by omega)
 | n+1,k,h1,h2,h3=>by
   have hk:k<xs.size:=by omega
   rw [List.range'_succ,List.forIn_cons];refine zA0 ?_;have e1:Ed xs x k ((none:Option PySem.Fin),())=(do
    let b ←eqBool xs[k] x
    if b=true then do
     let r ←retInt (k:Int)
     pure (ForInStep.done (some r,()))
     else pure (ForInStep.yield (none,()))):=by
    unfold Ed;rw[Array.getElem?_eq_getElem hk]
   rw[e1];refine zA0 (he _ (Array.getElem_mem hk) prog w _ _ ?_)
   by_cases c:k=j
   . subst c;rw[ej];refine wpAny_ite_split (fun _=>?_) (fun hab=>absurd rfl hab);refine zA0 ?_;refine zA0 (wpAny_mkInt ?_);refine zI0 ?_;refine zI0 ?_;exact zI0 q
   . rw[bf k hk (by omega)];refine wpAny_ite_split (fun hab=>absurd hab (by decide)) (fun _=>?_);refine zI0 ?_;exact tH he hj ej bf q n (k+1) (by omega) (by omega) (by omega)
theorem oH(l:Addr)(items:Array Value)(n:Nat)(dd:Option Addr)(sl:Array (Option Value))(x:Value)(e:Value->Bool)(j:Nat)(hj:j<items.size)(ej:e items[j]=true)(bf:∀(m:Nat) (hm:m<items.size),m<j->e items[m]=false) :
 Meets (Builtin.«tuple.index» { pos:=[.ref l,x] }) fun A R s=>s.heap.get? l=some { cls:=.type "tuple",dict:=dd,data:=.seq items n,slots:=sl }/\(∀y∈items,SeqAt.EqAt A.in1 s y x (e y))/\R (.ok (.ret (.int (j:Int) s.toks))) { s with toks:=s.toks+1 }:=by
 intro prog w A R s ⟨hl,he,q⟩;unfold Builtin.«tuple.index»;refine zA0 (wpAny_of_eq (a:=(Value.ref l,[x])) rfl ?_);refine zA0 (wpAny_tupleItemsOf hl rfl ?_);refine zA0 (zI0 ?_);refine zA0 (zI0 ?_);refine zA0 ?_;rw[Std.Legacy.Range.forIn_eq_forIn_range'];have e1:Std.Legacy.Range.size [0:min items.size items.size]=items.size:=by simp [Std.Legacy.Range.size]
 rw[e1];refine tH he hj ej bf ?_ items.size 0 (zW0 _) (by omega) (by omega);exact zI0 q
end
section
variable {X:Cx}
def cI(z:Str):List Str->Option Nat
 | []=>none
 | a::r=>if a=z then some 0 else(cI z r).map (·+1)
theorem om{z:Str}:∀{ns:List Str}{j:Nat},cI z ns=some j->ns[j]?=some z/\∀m,m<j->∀y,ns[m]?=some y->y≠z
 | [],_,h=>by simp [cI]at h
 | a::r,j,h=>by
   unfold cI at h
   by_cases c:a=z
   . rw[zE0 c]at h;cases h;exact⟨by simp [c],fun m hm=>absurd hm (by omega)⟩
   . rw [zB0 c]at h;obtain⟨i,hi,rfl⟩:=qW0 h;obtain⟨h1,h2⟩:=om hi;refine⟨by simpa using h1,fun m hm y hy=>?_⟩;cases m with
     | zero=>cases(zV0 hy);exact c
     | succ m=>exact h2 m (by omega) y (by simpa using hy)
theorem mV:∀{bs:List Str}{us:List Value}{i:Nat}{v:Value},Vals (bs.map V.str) us->us[i]?=some v->∃b t,bs[i]?=some b/\v=.str b t
 | [],_,_,_,.nil,h=>by simp at h
 | b::_,_,0,_,.cons r _,h=>by
   simp at h
   subst h;obtain⟨t,e⟩:=r;exact⟨b,t,rfl,e⟩
 | _::_,_,i+1,_,.cons _ t,h=>by
   obtain⟨b,t,h1,h2⟩:=mV (i:=i) t (by simpa using h);exact⟨b,t,by simpa using h1,h2⟩
theorem fe(ns:List Str):(ns.map V.str).all iy=true:=by
 induction ns with
 | nil=>rfl
 | cons a r ih=>rw[zZ0,List.all_cons,ih];rfl
theorem lT{ns:List Str}{its:List Value}{z:Str}{j:Nat}(r:Vals (ns.map V.str) its)(h:cI z ns=some j) :
 ∃hj:j<its.toArray.size,eqU (.str z) its.toArray[j]=true/\∀(m:Nat)(hm:m<its.toArray.size),m<j->eqU (.str z) its.toArray[m]=false:=by
 obtain⟨h1,h2⟩:=om h;have hl:=r.length;rw[zF0]at hl;have jl:j<ns.length:=(zX0 h1).1;have hj:j<its.toArray.size:=by rw[zS0,←hl];exact jl
 refine⟨hj,?_,fun m hm mj=>?_⟩
 . obtain ⟨b,t,e1,e2⟩:=mV r (i:=j) (v:=its.toArray[j]) (by simp);rw[e2];rw[h1]at e1;cases e1;show(z==z)=true
   simp
 . obtain ⟨b,t,e1,e2⟩:=mV r (i:=m) (v:=its.toArray[m]) (by simp);rw[e2];show(b==z)=false
   have:=h2 m mj b e1
   simpa using this
inductive rIndexT(K:W.Frag)(x:V)(vs:List V)(H:Hp)(Q:VK):Prop where
 | mk:∀(a:Addr)(ns:List Str)(z:Str)(j:Nat),(x=.ref a)->(vs=[.str z])->(SqT K H a (ns.map V.str))->(cI z ns=some j)->(Q (.int (j:Int)) H)->rIndexT K x vs H Q
theorem xV:MtR X "tuple.index" (rIndexT X.K):=by
 intro pins s σ H x vs v us Q I rx rv h;obtain⟨a,ns,z,j,rfl,rfl,hq,hp,q⟩:=h;cases rx;obtain⟨u,rfl,ru⟩:=rv.one;obtain⟨its,r,⟨⟨cls,dd,data,sl⟩,ho,hc,n,hd⟩,hz⟩:=I.tuple hq;simp only at hc hd;subst hc hd;obtain⟨hj,e1,e2⟩:=lT r hp;refine call_meets F.slot_tuple_index ⟨_,ho,rfl⟩ F.entry_tuple_index (F.args_tuple_index_2 _ _) (oH a its.toArray n dd sl u (eqU (.str z)) j hj e1 e2) ⟨ho,fun y hy=>?_,?_⟩
 . exact eK ru rfl r (fe ns) y (by simpa using hy)
 . exact⟨.int (j:Int),H,I.tok _,⟨_,rfl⟩,q⟩
inductive rIndexL(K:W.Frag)(x:V)(vs:List V)(H:Hp)(Q:VK):Prop where
 | mk:∀(a:Addr)(ns:List Str)(z:Str)(j:Nat),(x=.ref a)->(vs=[.str z])->(SqL K H a (ns.map V.str))->(cI z ns=some j)->(Q (.int (j:Int)) H)->rIndexL K x vs H Q
theorem xW:MtR X "list.index" (rIndexL X.K):=by
 intro pins s σ H x vs v us Q I rx rv h;obtain⟨a,ns,z,j,rfl,rfl,hq,hp,q⟩:=h;cases rx;obtain⟨u,rfl,ru⟩:=rv.one;obtain⟨its,r,⟨⟨cls,dd,data,sl⟩,n,ho,hc,hdd,hd⟩,hz⟩:=I.list hq;simp only at hc hd;subst hc hd;obtain⟨hj,e1,e2⟩:=lT r hp;have h63:=ig;have hl:=r.length;refine call_meets F.slot_list_index ⟨_,ho,rfl⟩ F.entry_list_index (F.args_list_index_2 _ _) (SeqAt.list_indexAt a its.toArray n dd sl u (eqU (.str z)) j hj (by rw[zS0]at hj;omega) e1 e2) ⟨ho,fun y hy=>?_,?_⟩
 . exact eK ru rfl r (fe ns) y (by simpa using hy)
 . exact⟨.int (j:Int),H,I.tok _,⟨_,rfl⟩,q⟩
end
section
variable {κ:Type} [DecidableEq κ]
def dl(kvs:List (κ×V))(k:κ):Option V:=(kvs.find? fun kv=>decide (kv.1=k)).map (·.2)
def gz(kvs:List (κ×V))(k:κ)(v:V):List (κ×V):=
 if(kvs.any fun kv=>decide (kv.1=k))=true then kvs.map (fun kv=>if kv.1=k then(kv.1,v)else kv)else kvs++[(k,v)]
theorem cP{p:κ×V}{r:List (κ×V)}{k:κ}(e:p.1=k):dl (p::r) k=some p.2:=by simp [dl,List.find?_cons,e]
theorem cQ{p:κ×V}{r:List (κ×V)}{k:κ}(e:¬ p.1=k):dl (p::r) k=dl r k:=by simp [dl,List.find?_cons,e]
theorem jO(k:κ):∀kvs:List (κ×V),(kvs.any fun kv=>decide (kv.1=k))=(dl kvs k).isSome
 | []=>rfl
 | p::r=>by
   rw[List.any_cons]
   by_cases e:p.1=k
   . simp only[cP e,decide_eq_true e,Bool.true_or,Option.isSome_some]
   . rw[cQ e,decide_eq_false e,Bool.false_or];exact jO k r
theorem sj(k j:κ)(y:V):∀kvs:List (κ×V),dl (kvs.map fun kv=>if kv.1=k then(kv.1,y)else kv) j=(dl kvs j).map fun x=>if j=k then y else x
 | []=>rfl
 | p::r=>by
   have ih:=sj k j y r;rw[zZ0]
   by_cases h:p.1=k
   . rw [zE0 h]
     by_cases e:p.1=j
     . rw[cP (p:=(p.1,y)) e,cP e,Option.map_some,zE0 (e.symm.trans h)]
     . rw[cQ (p:=(p.1,y)) e,cQ e,ih]
   . rw [zB0 h]
     by_cases e:p.1=j
     . rw[cP (p:=p) e,cP e,Option.map_some,zB0 (fun z=>h (e.trans z))]
     . rw[cQ (p:=p) e,cQ e,ih]
theorem pR(k j:κ)(y:V):∀kvs:List (κ×V),dl kvs k=none->dl (kvs++[(k,y)]) j=if j=k then some y else dl kvs j
 | [],_=>by
   by_cases e:k=j
   . rw[zE0 e.symm];exact cP (p:=(k,y)) e
   . rw[zB0 (fun z=>e z.symm)];exact cQ (p:=(k,y)) e
 | p::r,hn=>by
   rw[List.cons_append];have hk:¬ p.1=k:=fun z=>by rw[cP z]at hn;cases hn
   rw[cQ hk]at hn;have ih:=pR k j y r hn
   by_cases e:p.1=j
   . rw[cP e,cP e,zB0 (fun z=>hk (e.trans z))]
   . rw[cQ e,cQ e,ih]
theorem mQ(kvs:List (κ×V))(k j:κ)(y:V):dl (gz kvs k y) j=if j=k then some y else dl kvs j:=by
 unfold gz
 by_cases a:(kvs.any fun kv=>decide (kv.1=k))=true
 . rw [zE0 a,sj];rw[jO]at a
   by_cases e:j=k
   . obtain⟨x,hx⟩:=Option.isSome_iff_exists.mp a;rw[zE0 e,e,hx,Option.map_some,zE0 rfl]
   . rw [zB0 e];cases dl kvs j with
     | none=>rfl
     | some x=>rw[Option.map_some,zB0 e]
 . rw [zB0 a];refine pR k j y kvs ?_;rw[jO]at a;cases q:dl kvs k with
   | none=>rfl
   | some x=>rw[q]at a;exact(a rfl).elim
theorem fY(kvs:List (κ×V))(k:κ)(v:V):(gz kvs k v).length<=kvs.length+1:=by
 unfold gz
 split
 . rw[zF0];omega
 . rw[zJ0,zQ0,List.length_nil];omega
theorem RelO.isSome_eq{o:Option V}{u:Option Value}(r:RelO o u):o.isSome=u.isSome:=by
 cases o with
 | none=>cases u with
   | none=>rfl
   | some _=>exact(show False from r).elim
 | some _=>cases u with
   | none=>exact(show False from r).elim
   | some _=>rfl
theorem RelO.getD{o:Option V}{u:Option Value}{d:V}{d':Value}(r:RelO o u)(rd:RelV d d'):RelV (o.getD d) (u.getD d'):=by
 cases o with
 | none=>cases u with
   | none=>exact rd
   | some _=>exact(show False from r).elim
 | some _=>cases u with
   | none=>exact(show False from r).elim
   | some _=>exact r
theorem KV.val{kvs:List (κ×V)}{vs:List (κ×Value)}(r:KV kvs vs)(k:κ):RelO (dl kvs k) (valueAt vs k):=by
 unfold KV at r
 induction r with
 | nil=>exact True.intro
 | @cons p q ps qs h t ih=>
   obtain⟨h1,h2⟩:=h
   by_cases e:p.1=k
   . have e':q.1=k:=h1.symm.trans e;have b:valueAt (q::qs) k=some q.2:=by simp [valueAt,List.find?_cons,e']
     rw[cP e,b];exact h2
   . have e':¬ q.1=k:=fun z=>e (h1.trans z)
     have b:valueAt (q::qs) k=valueAt qs k:=by simp [valueAt,List.find?_cons,e']
     rw[cQ e,b];exact ih
theorem KV.any{kvs:List (κ×V)}{vs:List (κ×Value)}(r:KV kvs vs)(k:κ):(kvs.any fun kv=>decide (kv.1=k))=vs.any fun kv=>decide (kv.1=k):=by
 unfold KV at r
 induction r with
 | nil=>rfl
 | cons h t ih=>rw[List.any_cons,List.any_cons,ih,h.1]
theorem KV.repl{kvs:List (κ×V)}{vs:List (κ×Value)}(r:KV kvs vs)(k:κ){y:V}{u:Value}(ry:RelV y u) :
 KV (kvs.map fun kv=>if kv.1=k then(kv.1,y)else kv) (vs.map fun kv=>if kv.1=k then(kv.1,u)else kv):=by
 unfold KV at r ⊢
 induction r with
 | nil=>exact .nil
 | @cons p q ps qs h t ih=>
   rw[zZ0,zZ0];refine .cons ?_ ih;obtain⟨h1,h2⟩:=h
   by_cases e:p.1=k
   . rw[zE0 e,zE0 (h1.symm.trans e)];exact⟨h1,ry⟩
   . rw[zB0 e,zB0 (fun z=>e (h1.trans z))];exact⟨h1,h2⟩
theorem KV.put{kvs:List (κ×V)}{vs:List (κ×Value)}(r:KV kvs vs)(k:κ){y:V}{u:Value}(ry:RelV y u):KV (gz kvs k y) (stored vs k u):=by
 unfold gz stored;rw[r.any k]
 by_cases e:(vs.any fun kv=>decide (kv.1=k))=true
 . rw[zE0 e,zE0 e];exact r.repl k ry
 . rw[zB0 e,zB0 e];exact Paired.snoc r ⟨rfl,ry⟩
theorem KV.length{kvs:List (κ×V)}{vs:List (κ×Value)}(r:KV kvs vs):kvs.length=vs.length:=Paired.length r
end
theorem qe{P:Program}{w:World}{k:Key}{u:Value}(r:RelV (kV k) u):(aY P w).is k u=true:=by
 cases k with
 | inl i=>obtain⟨t,e⟩:=(show ∃t,u=Value.int i t from r);subst e;exact tj P w i t
 | inr x=>obtain⟨t,e⟩:=(show ∃t,u=Value.str x t from r);subst e;exact tf P w x t
theorem qg{P:Program}{w:World}:∀{ks:List Key}{us:List Value},Vals (ks.map kV) us->ItemsAre (aY P w) ks us
 | [],_,r=>by rw[List.map_nil]at r;cases r;exact .nil
 | k::ks,_,r=>by
   rw[zZ0]at r;cases r with
   | cons h t=>exact .cons (qe h) (qg t)
abbrev KT(H:Hp):List (List Key×V)->List (List Key×Addr×Value)->Prop:=Paired fun p q=>p.1=q.1/\H q.2.1=some (.tup (p.1.map kV))/\RelV p.2 q.2.2
theorem KT.val{H:Hp}{kvs:List (List Key×V)}{xs:List (List Key×Addr×Value)}(r:KT H kvs xs)(k:List Key):RelO (dl kvs k) ((atKey xs k).map (·.2)):=by
 induction r with
 | nil=>exact True.intro
 | @cons p q ps qs h t ih=>
   obtain⟨h1,_,h2⟩:=h
   by_cases e:p.1=k
   . have e':q.1=k:=h1.symm.trans e;have b:atKey (q::qs) k=some q.2:=by simp [atKey,List.find?_cons,e']
     rw[cP e,b];exact h2
   . have e':¬ q.1=k:=fun z=>e (h1.trans z)
     have b:atKey (q::qs) k=atKey qs k:=by simp [atKey,List.find?_cons,e']
     rw[cQ e,b];exact ih
theorem KT.repl{H:Hp}{kvs:List (List Key×V)}{xs:List (List Key×Addr×Value)}(r:KT H kvs xs)(k:List Key){y:V}{u:Value}(ry:RelV y u) :
 KT H (kvs.map fun kv=>if kv.1=k then(kv.1,y)else kv) (xs.map (putAt k u)):=by
 induction r with
 | nil=>exact .nil
 | @cons p q ps qs h t ih=>
   rw[zZ0,zZ0];refine .cons ?_ ih;obtain⟨h1,h2,h3⟩:=h;unfold putAt
   by_cases e:p.1=k
   . rw[zE0 e,zE0 (h1.symm.trans e)];exact⟨h1,h2,ry⟩
   . rw[zB0 e,zB0 (fun z=>e (h1.trans z))];exact⟨h1,h2,h3⟩
theorem KT.put{H:Hp}{kvs:List (List Key×V)}{xs:List (List Key×Addr×Value)}(r:KT H kvs xs)(k:List Key){b:Addr}{y:V}{u:Value}(hb:H b=some (.tup (k.map kV)))(ry:RelV y u) :
 KT H (gz kvs k y) (storedH xs k b u):=by
 have e:(kvs.any fun kv=>decide (kv.1=k))=(atKey xs k).isSome:=by
  rw[jO,(r.val k).isSome_eq,Option.isSome_map]
 unfold gz storedH;rw[e]
 by_cases q:(atKey xs k).isSome=true
 . rw[zE0 q,zE0 q];exact r.repl k ry
 . rw[zB0 q,zB0 q];exact Paired.snoc r ⟨rfl,hb,ry⟩
theorem KT.keeps{H H':Hp}{kvs:List (List Key×V)}{xs:List (List Key×Addr×Value)}(r:KT H kvs xs)(ht:∀b ys,H b=some (.tup ys)->H' b=some (.tup ys)):KT H' kvs xs:=
 Paired.mapP r fun _ _ z=>⟨z.1,ht _ _ z.2.1,z.2.2⟩
section
variable {P:Program} {w:World} {H:Hp} {h:Heap} {a:Addr}
theorem CO{u:HO}(ok:HOk P w H h)(e:Rd H a u):ObjOk P w H h a u:=e.ok ok
theorem tQ{kvs:List (Key×V)}(ok:HOk P w H h)(e:Rd H a (.dK kvs)):kvs.length<=sizeLine/\(a==sysModules)=false/\∃vs,KV kvs vs/\h.DictOf (aY P w) a vs:=
 show ObjOk P w H h a (.dK kvs)from CO ok e
theorem CY{kvs:List (Key×V)}(ok:HOk P w H h)(e:H a=some (.dK kvs)):kvs.length<=sizeLine/\(a==sysModules)=false/\∃vs,KV kvs vs/\h.DictOf (aY P w) a vs:=tQ ok (.inl e)
theorem rF{ks:List Key}(ok:HOk P w H h)(e:H a=some (.tup (ks.map kV))):(tupleKind (aY P w)).is h ks a:=by
 obtain⟨_,its,r,⟨o,h1,h2,n,h3⟩,_⟩:=(show ObjOk P w H h a (.tup (ks.map kV))from ok a _ e)
 exact⟨o,its.toArray,n,h1,h2,h3,by simpa using qg r⟩
theorem tP{kvs:List (List Key×V)}(ok:HOk P w H h)(e:Rd H a (.dT kvs)):kvs.length<=sizeLine/\(a==sysModules)=false/\
 ∃xs,KT H kvs xs/\h.DictOfH (tupleKind (aY P w)) a xs:=by
 obtain⟨z,y,xs,r,o,es,ep,h1,h2,h3,h4,h5⟩:=(show ObjOk P w H h a (.dT kvs)from CO ok e)
 refine ⟨z,y,xs,r,o,es,ep,h1,h2,h3,h4,fun x hx=>?_,h5⟩;have all:∀{l:List (List Key×V)}{m:List (List Key×Addr×Value)},KT H l m->∀x∈m,(tupleKind (aY P w)).is h x.1 x.2.1:=by
  intro l m q
  induction q with
  | nil=>intro x hx;exact nomatch hx
  | @cons p q ps qs hq t ih=>
    intro x hx;rcases zY0 hx with e | hx
    . subst e;exact rF ok (by rw[←hq.1];exact hq.2.1)
    . exact ih x hx
 exact all r x hx
theorem dt_of{kvs:List (List Key×V)}(ok:HOk P w H h)(e:H a=some (.dT kvs)):kvs.length<=sizeLine/\(a==sysModules)=false/\
 ∃xs,KT H kvs xs/\h.DictOfH (tupleKind (aY P w)) a xs:=tP ok (.inl e)
end
def DGet(H:Hp)(a:Addr)(y:V)(r:Option V):Prop:=
 (∃kvs k,Rd H a (.dK kvs)/\y=kV k/\r=dl kvs k)∨∃kvs k b,Rd H a (.dT kvs)/\y=.ref b/\H b=some (.tup (k.map kV))/\r=dl kvs k
def DPut(H:Hp)(a:Addr)(y v:V)(H':Hp):Prop:=
 (∃kvs k,H a=some (.dK kvs)/\y=kV k/\kvs.length<sizeLine/\H'=upd H a (.dK (gz kvs k v)))∨
 ∃kvs k b,H a=some (.dT kvs)/\y=.ref b/\H b=some (.tup (k.map kV))/\kvs.length<sizeLine/\H'=upd H a (.dT (gz kvs k v))
theorem DGet.k{H:Hp}{a:Addr}{kvs:List (Key×V)}{k:Key}(e:H a=some (.dK kvs)):DGet H a (kV k) (dl kvs k):=.inl ⟨kvs,k,.inl e,rfl,rfl⟩
theorem DPut.k{H:Hp}{a:Addr}{kvs:List (Key×V)}{k:Key}{v:V}(e:H a=some (.dK kvs))(hl:kvs.length<sizeLine):DPut H a (kV k) v (upd H a (.dK (gz kvs k v))):=.inl ⟨kvs,k,e,rfl,hl,rfl⟩
section
variable {X:Cx} {pins:List (Addr×Obj)} {σ:St} {H:Hp} {s:Shared} {a:Addr} {y v:V} {u r:Value} {o:Option V} {A:Around} {E:Value->Shared->Prop}
theorem Inv.big(I:Inv X pins σ H s):sysModules<s.heap.objs.size:=by
 have h:mainGlobals<s.heap.objs.size:=(I.mod.glob.keeps I.bk).lt;exact Nat.lt_trans (by decide) h
theorem yA{Q:Value->Shared->Prop}(hu:A.units+1<cLine)(I:Inv X pins σ H s)(g:DGet H a y (some v))(ry:RelV y u)(h:∀w' s',Inv X pins σ H s'->RelV v w'->Q w' s') :
 wpAny (model X.prog X.w) A (getItem (.ref a) u) Q E s:=by
 rcases g with⟨kvs,k,e,ey,l⟩ | ⟨kvs,k,b,e,ey,eb,l⟩
 . subst ey;obtain⟨z,hd,vs,rel,dd⟩:=tQ I.hok e;obtain⟨w',hw,rw'⟩:=RelO.some_of (v:=v) (o:=valueAt vs k) (by rw[l];exact rel.val k);exact wpAny_getItem_of (qe ry) dd.mapOf hw (h w' _ (I.tok _) rw')
 . subst ey;cases(show u=Value.ref b from ry);obtain⟨z,hd,xs,rel,dd⟩:=tP I.hok e;obtain⟨w',hw,rw'⟩:=RelO.some_of (v:=v) (o:=(atKey xs k).map (·.2)) (by rw[l];exact rel.val k);obtain⟨p,hp,hp2⟩:=qW0 hw;refine wpAny_getItem_heap (tupleKind_room_in1 hu) (rF I.hok eb) dd hp ?_;rw[hp2];exact h w' _ (I.tok _) rw'
theorem rN{h':Heap}{t':Nat}{ob:HO}(I:Inv X pins σ H s)(mu:Mut (H a))(hs:Heap.SameBut a s.heap h')(he:∃q,h'.get? a=some q)(new:ObjOk X.prog X.w (upd H a ob) h' a ob) :
 Inv X pins σ (upd H a ob) { s with heap:=h',toks:=t' }:=
 I.write (x:=a) (e:=a) mu (.inl rfl) (fun b q hb z=>(hs.2 b hb).trans z) he new
theorem vS{P:Program}{w:World}{H':Hp}{h':Heap}{kvs:List (Key×V)}{vs:List (Key×Value)}(z:kvs.length<=sizeLine)(hd:(a==sysModules)=false)(rel:KV kvs vs)(dd:h'.DictOf (aY P w) a vs) :
 ObjOk P w H' h' a (.dK kvs):=⟨z,hd,vs,rel,dd⟩
theorem yz{H':Hp}{Q:Unit->Shared->Prop}(hu:A.units+1<cLine)(I:Inv X pins σ H s)(g:DPut H a y v H')(ry:RelV y u)(rv:RelV v r)(h:∀s',Inv X pins σ H' s'->Q () s') :
 wpAny (model X.prog X.w) A (setItem (.ref a) u r) Q E s:=by
 rcases g with⟨kvs,k,e,ey,l,eH⟩ | ⟨kvs,k,b,e,ey,eb,l,eH⟩
 . subst ey eH;obtain⟨z,hd,vs,rel,dd⟩:=CY I.hok e;have hz:vs.length<=sizeLine:=by rw[←rel.length];exact z
   have hl:(gz kvs k v).length<=sizeLine:=by have:=fY kvs k v;omega
   refine wpAny_setItem_pairs (hsz:=hz) (qe ry) dd fun h' dd' hs=>h _ ?_
   have he:∃q,h'.get? a=some q:=let⟨q,_,_,hq,_⟩:=dd';⟨q,hq⟩
   exact rN I (by rw[e];exact True.intro) hs he (vS hl hd (rel.put k rv) dd')
 . subst ey eH;cases(show u=Value.ref b from ry);obtain⟨z,hd,xs,rel,dd⟩:=dt_of I.hok e;have hz:xs.length<=sizeLine:=by rw[←Paired.length rel];exact z
   have hl:(gz kvs k v).length<=sizeLine:=by have:=fY kvs k v;omega
   refine wpAny_setItem_heap (hsz:=hz) (tupleKind_room_in1 hu) (rF I.hok eb) dd fun h' dd' hs=>h _ ?_
   obtain⟨q,es,ep,hq,h2,h3,h4,_,h5⟩:=dd';refine rN I (by rw[e];exact True.intro) hs ⟨q,hq⟩ ⟨hl,hd,_,(rel.put k eb rv).keeps fun c ys ec=>?_,q,es,ep,hq,h2,h3,h4,h5⟩;rw[av (aX ec e (fun z=>nomatch z))];exact ec
end
def NoSl(i:Expr):Prop:=∀ov iv,subscripted i false ov iv=operate [ov,iv] (getItem ov iv)
theorem Bw{prog:Program}{w:World}{A:Around}{E:Value->Shared->Prop}{s:Shared}{env:Env}{value slice:Expr}{pos:Pos}{T id:String}{Q:Value->Shared->Prop}
 (hl:typeLookup (.type T) "__getitem__"=pure (some (.builtin id))) (hs:NoSl slice)
 (h:wpAny (model prog w) A (eval value env) (fun o s₁=>wpAny (model prog w) A (eval slice env) (fun i s₂=>s₂.TypeIs o T/\wpAny (model prog w) A (getItem o i) Q E s₂) E s₁) E s) :
 wpAny (model prog w) A (eval (.Subscript value slice pos) env) Q E s:=by
 refine Subscript_ (wpAny_mono h (fun o s₁ h₁=>wpAny_mono h₁ (fun i s₂ h₂=>?_) fun _ _ x=>x) fun _ _ x=>x);obtain⟨hT,h₂⟩:=h₂;unfold subscriptTail;refine zA0 ?_;rw[getitemInPython_of_ne hT.not_modules];refine zA0 (wpAny_specialOf hT hl ?_);have fin:wpAny (model prog w) A (subscripted slice false o i) (fun r s₃=>wpAny (model prog w) A (letTemporaryGo value o r >>= fun _=>pure r) Q E s₃) E s₂:=by
  rw[hs o i];exact wpAny_operating (wpAny_mono h₂ (fun r s₃ h₃=>zA0 (wpAny_letTemporaryGo (zI0 h₃))) fun _ _ x=>x)
 first
  | exact zI0 (zA0 fin)
  | exact zA0 (zI0 (zA0 fin))
  | exact zA0 fin
theorem tS {X:Cx} {pins:List (Addr×Obj)} {σ:St} {H:Hp} {s:Shared} {a:Addr} {y:V} {o:Option V} (I:Inv X pins σ H s) (g:DGet H a y o):s.TypeIs (.ref a) "dict":=by
 rcases g with⟨kvs,k,e,_,_⟩ | ⟨kvs,k,b,e,_,_,_⟩
 . obtain⟨_,_,vs,_,dd⟩:=tQ I.hok e;exact dd.typeIs
 . obtain⟨_,_,xs,_,dd⟩:=tP I.hok e;exact dd.typeIs
inductive ZtDGet(Q:VK)(x:V)(y:V)(H2:Hp):Prop where
 | mk:∀a v,(x=.ref a)->(DGet H2 a y (some v))->(Q v H2)->ZtDGet Q x y H2
def tDGet(td ty:TE):TE:=fun σ H Q=>td σ H fun x H1=>ty σ H1 fun y H2=>ZtDGet Q x y H2
inductive ZsDPut(D:Ends)(σ:St)(v:V)(x:V)(y:V)(H3:Hp):Prop where
 | mk:∀a H4,(x=.ref a)->(DPut H3 a y v H4)->(D.nx σ H4)->ZsDPut D σ v x y H3
def sDPut(td ty tv:TE):TS:=fun D σ H=>tv σ H fun v H1=>td σ H1 fun x H2=>ty σ H2 fun y H3=>ZsDPut D σ v x y H3
section
variable {X:Cx} {o i e value:Expr} {pos pos' tpos:Pos} {td ty tv:TE}
theorem wG(hu:X.A.units+1<cLine)(ho:PE X o td)(hi:PE X i ty)(hs:NoSl i):PE X (.Subscript o i pos) (tDGet td ty):=by
 intro pins s σ H Q I h;refine Bw PySem.F.slot_dict_getitem.lookup hs (thn (ho pins s σ H _ I h) fun u s1 ⟨x,H1,I1,rx,q1⟩=>thn (hi pins s1 σ H1 _ I1 q1) fun iv s2 ⟨y,H2,I2,ry,a,v,ex,g,q2⟩=>?_);subst ex;obtain rfl:u=Value.ref a:=rx;exact⟨tS I2 g,yA hu I2 g ry fun w' s3 I3 rw'=>⟨v,H2,I3,rw',q2⟩⟩
theorem BK(hu:X.A.units+1<cLine)(ho:PE X o td)(hi:PE X i ty)(hv:PE X value tv)(hs:swapsWith value (some (.Subscript o i pos')) pos.line X.env=pure false) :
 PS X (.Assign [.Subscript o i pos'] value pos) (sDPut td ty tv):=by
 intro pins s σ H D I h;refine wpAny_Assign_Subscript (thn (hv pins s σ H _ I h) fun r s1 ⟨v,H1,I1,rv,q1⟩=>thn (ho pins s1 σ H1 _ I1 q1) fun u s2 ⟨x,H2,I2,rx,q2⟩=>thn (hi pins s2 σ H2 _ I2 q2) fun iv s3 ⟨y,H3,I3,ry,a,H4,ex,g,q3⟩=>?_) hs;subst ex;obtain rfl:u=Value.ref a:=rx;exact yz hu I3 g ry rv fun s4 I4=>⟨σ,H4,I4,q3⟩
end
theorem tR {P:Program} {w:World} {H:Hp} (h:Heap) (hb:sysModules<h.objs.size):ObjOk P w H (h.push { cls:=.type "dict",data:=.dict #[] }) h.objs.size (.dK []):=
 ⟨zW0 _,beq_eq_false_iff_ne.mpr (Ne.symm (zT0 hb)),[],.nil,Heap.DictOf.new h⟩
def Dp:TE:=fun _ H Q=>∀p,H p=none->Q (.ref p) (upd H p (.dK []))
section
variable {X:Cx} {pos:Pos}
theorem zQ:PE X (.Dict [] [] pos) Dp:=fun pins s σ H Q I h=>
 wpAny_Dict_empty ⟨.ref s.heap.objs.size,_,I.laid (a:=s.heap.objs.size) (o:=.dK []) (t':=s.toks) (fun _ _ q=>zP0 _ q) (zH0 _) (tR s.heap I.big),rfl,h _ (I.hok.fresh (zH0 _))⟩
end
def uB:List (TE×TE)->St->Hp->(List (V×V)->Hp->Prop)->Prop
 | [],_,H,Q=>Q [] H
 | (tk,tv)::r,σ,H,Q=>tk σ H fun x H1=>tv σ H1 fun y H2=>uB r σ H2 fun ps H3=>Q ((x,y)::ps) H3
abbrev VV:List (V×V)->List (Value×Value)->Prop:=Paired fun p q=>RelV p.1 q.1/\RelV p.2 q.2
def PPs(X:Cx)(pos:Pos)(keys:List (Option Expr))(values:List Expr)(trs:List (TE×TE)):Prop:=
 ∀(pins:List (Addr×Obj))(s:Shared)(σ:St)(H:Hp)(Q:List (V×V)->Hp->Prop),Inv X pins σ H s->uB trs σ H Q ->
  wpAny (model X.prog X.w) X.A (evalPairs (pairTrees keys values X.env pos)) (fun vs s'=>∃ps H',Inv X pins σ H' s'/\VV ps vs/\Q ps H') X.xe s
theorem BN{X:Cx}{pos:Pos}:PPs X pos [] [] []:=fun pins s σ H Q I h=>pairTrees_nil_walk ⟨[],H,I,.nil,h⟩
theorem kh{X:Cx}{pos:Pos}{k v:Expr}{ks:List (Option Expr)}{vs:List Expr}{tk tv:TE}{trs:List (TE×TE)}(hk:PE X k tk)(hv:PE X v tv)(hr:PPs X pos ks vs trs) :
 PPs X pos (some k::ks) (v::vs) ((tk,tv)::trs):=fun pins s σ H Q I h=>
 pairTrees_cons_walk (thn (hk pins s σ H _ I h) fun u s1 ⟨x,H1,I1,rx,q1⟩=>thn (hv pins s1 σ H1 _ I1 q1) fun w2 s2 ⟨y,H2,I2,ry,q2⟩=>
  thn (hr pins s2 σ H2 _ I2 q2) fun ws s3 ⟨ps,H3,I3,rel,q3⟩=>⟨(x,y)::ps,H3,I3,.cons ⟨rx,ry⟩ rel,q3⟩)
def dU(kvs more:List (Key×V)):List (Key×V):=more.foldl (fun acc kv=>gz acc kv.1 kv.2) kvs
theorem KV.merge:∀{more:List (Key×V)}{rs:List (Key×Value)}{kvs:List (Key×V)}{vs:List (Key×Value)},KV more rs->KV kvs vs->KV (dU kvs more) (merged vs rs):=by
 intro more rs kvs vs r;unfold KV at r
 induction r generalizing kvs vs with
 | nil=>intro q;exact q
 | @cons p q ps qs h t ih=>
   intro r0;have e:KV (gz kvs p.1 p.2) (stored vs q.1 q.2):=by
    have:=r0.put p.1 h.2
    rw[←h.1];exact this
   exact ih e
theorem gn:∀(more kvs:List (Key×V)),(dU kvs more).length<=kvs.length+more.length
 | [],kvs=>by show kvs.length<=kvs.length+0;omega
 | p::r,kvs=>by
   have h1:=gn r (gz kvs p.1 p.2);have h2:=fY kvs p.1 p.2;show(dU (gz kvs p.1 p.2) r).length<=_;rw[zQ0];omega
theorem oZ{P:Program}{w:World}:∀{kvs:List (Key×V)}{ws:List (Value×Value)},VV (kvs.map fun kv=>(kV kv.1,kv.2)) ws->∃rs,Carries (aY P w) ws rs/\KV kvs rs
 | [],_,r=>by rw[List.map_nil]at r;cases r;exact⟨[],True.intro,.nil⟩
 | p::kvs,_,r=>by
   rw[zZ0]at r;cases r with
   | @cons a b as bs h t=>
     obtain⟨rs,c,q⟩:=oZ (P:=P) (w:=w) t;obtain⟨b1,b2⟩:=b;exact⟨(p.1,b2)::rs,⟨qe h.1,rfl,c⟩,.cons ⟨rfl,h.2⟩ q⟩
def tDisp(trs:List (TE×TE)):TE:=fun σ H Q=>∀p,H p=none->uB trs σ (upd H p (.dK [])) fun ps H2=>H2 p=some (.dK [])/\∃kvs:List (Key×V),ps=kvs.map (fun kv=>(kV kv.1,kv.2))/\kvs.length<=15/\Q (.ref p) (upd H2 p (.dK (dU [] kvs)))
theorem BP{X:Cx}{pos:Pos}{keys:List (Option Expr)}{values:List Expr}{trs:List (TE×TE)}(h:PPs X pos keys values trs)(hall:keys.all (·.isSome)=true)(hl:keys.length=values.length)(h0:keys≠[])
 (h15:keys.length<=15):PE X (.Dict keys values pos) (tDisp trs):=by
 intro pins s σ H Q I q;have hn:=I.hok.fresh (zH0 s.heap.objs.size);have I1:=I.laid (a:=s.heap.objs.size) (o:=.dK []) (h':=s.heap.push { cls:=.type "dict",data:=.dict #[] }) (t':=s.toks) (fun _ _ q=>zP0 _ q) (zH0 _) (tR s.heap I.big);refine wpAny_Dict_walk (knd:=aY X.prog X.w) hall hl h0 h15 (thn (h pins _ σ _ _ I1 (q _ hn)) fun ws s2 ⟨ps,H2,I2,rel,e,kvs,ep,lk,q2⟩=>?_);subst ep;obtain⟨rs,c,rk⟩:=oZ (P:=X.prog) (w:=X.w) rel;obtain⟨z,hd,vs0,r0,dd⟩:=CY I2.hok e;cases r0;refine⟨rs,c,dd,fun h' dd' hs=>⟨.ref s.heap.objs.size,_,?_,rfl,q2⟩⟩;have hz:(dU [] kvs).length<=sizeLine:=by
  have h1:=gn kvs [];rw[List.length_nil]at h1;rw[sizeLine_eq];omega
 have he:∃q,h'.get? s.heap.objs.size=some q:=let⟨q,_,_,hq,_⟩:=dd';⟨q,hq⟩
 exact rN I2 (by rw[e];exact True.intro) hs he (vS hz hd (rk.merge .nil) dd')
structure M2(X:Cx)(o:Expr)(m:Str)(apos:Pos)(e f:Expr)(cpos:Pos):Prop where
 base:attributeBase o m X.env (eval o X.env)=eval o X.env
 few:((backTo cpos (starEach [e,f] X.env)).all (fun x=>!x.1)&&(backToKw cpos (keywordEach [] X.env)).all (fun x=>x.1.isSome)
  &&decide (([e,f]:List Expr).length+([]:List Keyword).length+(if([]:List Keyword).isEmpty then 0 else 1)<30))=true
 line:(apos.endLine==cpos.line)=true
 trees:backTo cpos (starEach [e,f] X.env)=[(false,eval e X.env),(false,eval f X.env)]
def IsD(H:Hp)(a:Addr):Prop:=(∃kvs,Rd H a (.dK kvs))∨∃kvs,Rd H a (.dT kvs)
theorem DZ{X:Cx}{pins:List (Addr×Obj)}{σ:St}{H:Hp}{s:Shared}{a:Addr}(I:Inv X pins σ H s)(d:IsD H a) :
 s.TypeIs (.ref a) "dict"/\(∀b,Value.ref a=.ref b->∃ob,s.heap.get? b=some ob/\ob.dict=none)/\(a==sysModules)=false:=by
 rcases d with⟨kvs,e⟩ | ⟨kvs,e⟩
 . obtain⟨_,hd,vs,_,dd⟩:=tQ I.hok e;refine⟨dd.typeIs,fun b q=>?_,hd⟩;cases q;obtain⟨ob,_,_,h1,h2,_⟩:=dd;exact⟨ob,h1,h2.2.1⟩
 . obtain⟨_,hd,xs,_,dd⟩:=tP I.hok e;refine⟨dd.typeIs,fun b q=>?_,hd⟩;cases q;obtain⟨ob,_,_,h1,h2,_⟩:=dd;exact⟨ob,h1,h2.2.1⟩
section
variable {X:Cx} {pins:List (Addr×Obj)} {σ:St} {H:Hp} {s:Shared} {a:Addr} {y d:V} {u r:Value} {o:Option V} {A:Around} {E:Value->Shared->Prop}
theorem Eo{Q:Value->Shared->Prop}(hu:A.units+1<cLine)(I:Inv X pins σ H s)(g:DGet H a y o)(ry:RelV y u)(rd:RelV d r)(h:∀w' s',Inv X pins σ H s'->RelV (o.getD d) w'->Q w' s') :
 wpAny (model X.prog X.w) A (call (.builtin "dict.get") [.ref a,u,r]) Q E s:=by
 rcases g with⟨kvs,k,e,ey,l⟩ | ⟨kvs,k,b,e,ey,eb,l⟩
 . subst ey;obtain⟨z,hd,vs,rel,dd⟩:=tQ I.hok e;refine call_meetsIn PySem.F.slot_dict_get dd.typeIs PySem.F.entry_dict_get (PySem.F.args_dict_get_3 _ _ _) (meets_dict_get_default (aY X.prog X.w) a (qe ry) hd r) ⟨_,dd.mapOf,h _ _ (I.tok _) ?_⟩;rw[l];exact(rel.val k).getD rd
 . subst ey;cases(show u=Value.ref b from ry);obtain⟨z,hd,xs,rel,dd⟩:=tP I.hok e;refine call_meetsIn PySem.F.slot_dict_get dd.typeIs PySem.F.entry_dict_get (PySem.F.args_dict_get_3 _ _ _) (meetsH_dict_get_default (tupleKind (aY X.prog X.w)) a b hd r) ⟨tupleKind_room_in1 hu,k,xs,rF I.hok eb,dd,h _ _ (I.tok _) ?_⟩;rw[l];exact(rel.val k).getD rd
end
inductive ZtDGet2(ty:TE)(tx:TE)(σ:St)(Q:VK)(x:V)(H1:Hp):Prop where
 | mk:∀a,(x=.ref a)->(IsD H1 a)->(ty σ H1 fun y H2=>tx σ H2 fun z H3=>∃o,DGet H3 a y o/\Q (o.getD z) H3)->ZtDGet2 ty tx σ Q x H1
def Dq(td ty tx:TE):TE:=fun σ H Q=>td σ H fun x H1=>ZtDGet2 ty tx σ Q x H1
section
variable {X:Cx} {o e f:Expr} {apos cpos:Pos} {td ty tx:TE}
theorem zR (hu:X.A.units+1<cLine) (ho:PE X o td) (he:PE X e ty) (hf:PE X f tx) (m:M2 X o "get" apos e f cpos):PE X (.Call (.Attribute o "get" apos) [e,f] [] cpos) (Dq td ty tx):=by
 intro pins s σ H Q I h;refine wpAny_Call_method m.base m.few m.line PySem.F.plainAttrs_dict PySem.F.slot_dict_get PySem.F.type_dict_get (thn (ho pins s σ H _ I h) fun u s1 ⟨x,H1,I1,rx,a,ex,d,q1⟩=>?_);subst ex;obtain rfl:u=Value.ref a:=rx;obtain⟨t1,t2,_⟩:=DZ I1 d;refine⟨t1,t2,?_⟩;rw[m.trees];refine Calls.callWith_builtin rfl (Calls.evalArgs_plain (Calls.spliced_cons (thn (he pins s1 σ H1 _ I1 q1) fun iv s2 ⟨y,H2,I2,ry,q2⟩=>
  Calls.spliced_cons (thn (hf pins s2 σ H2 _ I2 q2) fun fv s3 ⟨z,H3,I3,rz,ov,g,q3⟩=>Calls.spliced_nil ?_))))
 exact Eo hu I3 g ry rz fun w' s4 I4 rw'=>⟨_,H3,I4,rw',q3⟩
end
section
variable {X:Cx}
theorem Inv.tupD{pins:List (Addr×Obj)}{σ:St}{H:Hp}{s:Shared}{a:Addr}{xs:List V}(I:Inv X pins σ H s)(h:H a=some (.tup xs)):∃ob,s.heap.get? a=some ob/\ob.dict=none:=by
 obtain⟨_,_,_,_,o,e,d⟩:=(show ObjOk X.prog X.w H s.heap a (.tup xs)from I.hok a _ h)
 exact⟨o,e,d⟩
inductive ZtIndex(t:TA)(σ:St)(Q:VK)(x:V)(H1:Hp):Prop where
 | mk:∀(a:Addr)(ns:List Str),(x=.ref a)->((H1 a=some (.lst (ns.map V.str))∨H1 a=some (.tup (ns.map V.str))))->(t σ H1 fun vs H2=>(H2 a=H1 a)/\∃(z:Str)(j:Nat),vs=[.str z]/\cI z ns=some j/\Q (.int (j:Int)) H2)->ZtIndex t σ Q x H1
def Dm(K:W.Frag)(to:TE)(t:TA):TE:=fun σ H Q=>to σ H fun x H1=>ZtIndex t σ Q x H1
variable {o e:Expr} {es:List Expr} {to:TE} {t:TA} {apos cpos:Pos}
theorem sK (pl:PlainAttrs "list") (pt:PlainAttrs "tuple") (ho:PE X o to) (ha:PA X (e::es) t)
 (hbase:attributeBase o "index" X.env (eval o X.env)=eval o X.env:=by rfl)
 (hfew:((backTo cpos (starEach (e::es) X.env)).all (fun x=>!x.1)&&(backToKw cpos (keywordEach [] X.env)).all (fun x=>x.1.isSome)
  &&decide ((e::es).length+([]:List Keyword).length+(if([]:List Keyword).isEmpty then 0 else 1)<30))=true:=by rfl)
 (hline:(apos.endLine==cpos.line)=true:=by rfl) (hs:starEach (e::es) X.env=(false,eval e X.env)::starEach es X.env:=by rfl) (hplain:(backTo cpos (starEach es X.env)).any (·.1)=false:=by rfl) :
 PE X (.Call (.Attribute o "index" apos) (e::es) [] cpos) (Dm X.K to t):=by
 intro pins s σ H Q I h;refine wpAny_Call_method_late hbase hfew hline rfl (thn (ho pins s σ H _ I h) fun v s1 ⟨x,H1,I1,r1,a,ns,ex,hh,q1⟩=>?_);subst ex;cases r1;have hA:=ha cpos pins s1 σ H1 _ I1 q1;rw[hs]at hA ⊢;rcases hh with hh | hh
 . obtain ⟨its,_,p,_⟩:=I1.list (zG0 hh);obtain⟨ob,n,e1,c,d,_⟩:=id p;refine⟨"list","list.index",pl,F.slot_list_index,F.type_list_index,p.isList.typeIs,fun b eb=>?_,?_⟩
   . cases eb;exact⟨ob,e1,d⟩
   . refine Calls.callWith_builtin (by show(false||(backTo cpos (starEach es X.env)).any (·.1))=false;rw[hplain] <;> rfl) (Calls.evalArgs_plain ?_);exact thn hA fun us s2 ⟨vs,H2,I2,r2,ek,z,j,ez,hp,q2⟩=>xW pins s2 σ H2 (.ref a) vs (.ref a) us Q I2 rfl r2 ⟨a,ns,z,j,rfl,ez,zG0 (ek.trans hh),hp,q2⟩
 . obtain ⟨its,_,p,_⟩:=I1.tuple (zD0 hh);refine⟨"tuple","tuple.index",pt,F.slot_tuple_index,F.type_tuple_index,p.typeIs,fun b eb=>?_,?_⟩
   . cases eb;exact I1.tupD hh
   . refine Calls.callWith_builtin (by show(false||(backTo cpos (starEach es X.env)).any (·.1))=false;rw[hplain] <;> rfl) (Calls.evalArgs_plain ?_);exact thn hA fun us s2 ⟨vs,H2,I2,r2,ek,z,j,ez,hp,q2⟩=>xV pins s2 σ H2 (.ref a) vs (.ref a) us Q I2 rfl r2 ⟨a,ns,z,j,rfl,ez,zD0 (ek.trans hh),hp,q2⟩
end
section
variable {X:Cx}
theorem qk{x:V}:∀{xs:List V}{us:List Value},Vals xs us->xs.all iy=true->us.countP (eqU x)=xs.countP fun y=>eqV y x
 | _,_,.nil,_=>rfl
 | y::xs,u::us,.cons r t,f=>by
   rw[List.all_cons,Bool.and_eq_true]at f;rw[List.countP_cons,List.countP_cons,vQ r f.1,qk t f.2]
inductive rCountL(K:W.Frag)(x:V)(vs:List V)(H:Hp)(Q:VK):Prop where
 | mk:∀(a:Addr)(xs:List V)(z:V),(x=.ref a)->(vs=[z])->(SqL K H a xs)->(xs.all iy=true)->(iy z=true)->(Q (.int ((xs.countP fun y=>eqV y z:Nat):Int)) H)->rCountL K x vs H Q
theorem sY:MtR X "list.count" (rCountL X.K):=by
 intro pins s σ H x vs v us Q I rx rv h;obtain⟨a,xs,z,rfl,rfl,hq,fs,fz,q⟩:=h;cases rx;obtain⟨u,rfl,ru⟩:=rv.one;obtain⟨its,r,⟨⟨cls,dd,data,sl⟩,n,ho,hc,hdd,hd⟩,hz⟩:=I.list hq;simp only at hc hd;subst hc hd;refine call_meets F.slot_list_count ⟨_,ho,rfl⟩ F.entry_list_count (F.args_list_count_2 _ _) (SeqAt.list_countAt a its.toArray n dd sl u (eqU z)) ⟨ho,fun y hy=>?_,?_⟩
 . exact eK ru fz r fs y (by simpa using hy)
 . rw[show its.toArray.toList=its from rfl,qk r fs];exact⟨.int ((xs.countP fun y=>eqV y z:Nat):Int),H,I.tok _,⟨_,rfl⟩,q⟩
end
def db(g:Nat->Int):Nat->Int
 | 0=>g 0
 | k+1=>if db g k<g (k+1)then g (k+1)else db g k
theorem ub(g:Nat->Int):∀n k,k<=n->g k<=db g n
 | 0,k,h=>by
   have e:k=0:=by omega
   subst e;exact Int.le_refl _
 | n+1,k,h=>by
   unfold db
   by_cases c:k=n+1
   . subst c
     split <;> omega
   . have:=ub g n k (by omega)
     split <;> omega
def ya(ns:List Int)(d:Int):Int:=match ns with | []=>d | _::_=>db (fun i=>ns[i]?.getD 0) (ns.length-1)
theorem Cg{ns:List Int}{d x:Int}(h:x∈ns):x<=ya ns d:=by
 obtain⟨i,hi,e⟩:=List.getElem_of_mem h;cases ns with
 | nil=>cases h
 | cons a r=>
   have:=ub (fun i=>(a::r)[i]?.getD 0) ((a::r).length-1) i (by omega)
   simp only[zR0 hi,Option.getD_some,e]at this;exact this
section
variable {prog:Program} {w:World} {A:Around} {R:Result->Shared->Prop} {I S:Addr} {fp wr:List Addr} {n:Nat} {P:Nat->Value->Prop} {St:Nat->Heap->Prop} {g:Nat->Int} {kw:List (Str×Value)}
theorem mx:(toString "max"++toString ".loop":String)="max.loop":=by decide
theorem Ap(W:Walks prog w A.in1 I fp wr n P St)(gv:∀i v,P i v->∃t,v=Value.int (g i) t)(nS:S∉fp):∀(k j:Nat)(s:Shared)(t:Tok)(c:Nat),j+1+k=n->St (j+1) s.heap ->
 s.heap.get? S=some { cls:=.type "list",dict:=none,data:=.seq #[.int (db g j) t,.int (db g j) t] c,slots:=#[] } ->
 (∀t' h' tk,(∀b o,b∉wr->b≠S->s.heap.get? b=some o->h'.get? b=some o)->R (.ok (.ret (.int (db g (n-1)) t'))) { s with heap:=h',toks:=tk }) ->
 codeAny (model prog w) A (.builtin "max.loop" ⟨[.ref I,.none,.ref S],kw⟩) R s:=by
 have nw:S∉wr:=fun z=>nS (W.sub _ z)
 intro k
 induction k with
 | zero=>
   intro j s t c ek st eS q;refine codeAny_builtin F.entry_max_loop ?_;rw[Around.under_plainId F.plain_max_loop _];show wpAny _ A.in1 (seqItems? (.ref S) >>= _) _ _ s;refine zA0 (wpAny_seqItems eS rfl ?_);show wpAny _ A.in1 (tryCatch (pyNext (.ref I)) _ >>= _) _ _ s;refine zA0 (wpAny_tryCatch (W.done s _ _ (by rw[←ek];exact st) fun h' tk kp=>?_));show wpAny _ A.in1 (updateSeq S (fun _=>#[]) >>= _) _ _ _;refine zA0 ?_;refine wpAny_updateSeq (kp S _ nw eS) rfl (zA0 (wpAny_letGo (zI0 ?_)));have e:n-1=j:=by omega
   rw[e]at q;exact q t _ tk fun b o h1 h2 eb=>(Heap.get?_update_other _ _ (Ne.symm h2)).trans (kp b o h1 eb)
 | succ k ih=>
   intro j s t c ek st eS q;refine codeAny_builtin F.entry_max_loop ?_;rw[Around.under_plainId F.plain_max_loop _];show wpAny _ A.in1 (seqItems? (.ref S) >>= _) _ _ s;refine zA0 (wpAny_seqItems eS rfl ?_);show wpAny _ A.in1 (tryCatch (pyNext (.ref I)) _ >>= _) _ _ s;refine zA0 (wpAny_tryCatch (W.item (j+1) s _ _ (by omega) st fun v h' tk pv st' kp=>?_));obtain⟨tv,rfl⟩:=gv _ _ pv;have eS':=kp S _ nw eS;show wpAny _ A.in1 (tryCatch (holding [Value.int (g (j+1)) tv,Value.int (g (j+1)) tv] (richCompare .Gt (Value.int (g (j+1)) tv) (Value.int (db g j) t) >>= _)) _ >>= _) _ _ _;refine zA0 (wpAny_tryCatch (wpAny_holding (zA0 (CmpOf.ints_gt (prog:=prog) (w:=w) (A:=A.in1) (P:=fun i v=>∃t,v=Value.int (if i=0 then db g j else g (j+1)) t) (fun i=>if i=0 then db g j else g (j+1)) (fun i v h=>h) 1 0 _ _ _ _ _ ⟨tv,rfl⟩ ⟨t,rfl⟩ ?_))));refine zA0 (wpAny_holding (wpAny_truthy_bool ?_));refine zA0 (wpAny_letGo (zI0 ?_))
   by_cases c1:db g j<g (j+1)
   . have e1:db g (j+1)=g (j+1):=by unfold db;rw[zE0 c1]
     refine wpAny_ite_split (fun _=>?_) (fun hab=>absurd (decide_eq_true c1) hab);refine zA0 ?_;refine wpAny_updateSeq eS' rfl (zA0 (wpAny_letGo ?_));rw[mx];refine zI0 ⟨plainId_quiet F.plain_max_loop _,ih (j+1) _ tv _ (by omega) (W.frame _ _ _ st' fun b hb o eb=>?_) (by rw[e1];exact Heap.get?_update_self _ eS' rfl) fun t' h2 tk2 kp2=>?_⟩
     . exact(Heap.get?_update_other _ _ (fun z:S=b=>nS (by rw[z];exact hb))).trans eb
     . exact q t' h2 tk2 fun b o h1 h3 eb=>kp2 b o h1 h3 ((Heap.get?_update_other _ _ (Ne.symm h3)).trans (kp b o h1 eb))
   . have e1:db g (j+1)=db g j:=by unfold db;rw[zB0 c1];cases j <;> rfl
     refine wpAny_ite_split (fun hab=>absurd (of_decide_eq_true hab) c1) (fun _=>?_);refine zA0 (wpAny_letGo ?_);rw[mx];refine zI0 ⟨plainId_quiet F.plain_max_loop _,ih (j+1) _ t c (by omega) st' (by rw[e1];exact eS') fun t' h2 tk2 kp2=>?_⟩;exact q t' h2 tk2 fun b o h1 h3 eb=>kp2 b o h1 h3 (kp b o h1 eb)
theorem Aq (W:Walks prog w A.in1 I fp wr n P St) (gv:∀i v,P i v->∃t,v=Value.int (g i) t) (nS:S∉fp) (hn:0<n) {s:Shared} {c:Nat} (st:St 0 s.heap) (eS:s.heap.get? S=some { cls:=.type "list",dict:=none,data:=.seq #[] c,slots:=#[] })
 (q:∀t' h' tk,(∀b o,b∉wr->b≠S->s.heap.get? b=some o->h'.get? b=some o)->R (.ok (.ret (.int (db g (n-1)) t'))) { s with heap:=h',toks:=tk }) :
 codeAny (model prog w) A (.builtin "max.loop" ⟨[.ref I,.none,.ref S],kw⟩) R s:=by
 have nw:S∉wr:=fun z=>nS (W.sub _ z)
 refine codeAny_builtin F.entry_max_loop ?_;rw[Around.under_plainId F.plain_max_loop _];show wpAny _ A.in1 (seqItems? (.ref S) >>= _) _ _ s;refine zA0 (wpAny_seqItems eS rfl ?_);show wpAny _ A.in1 (tryCatch (pyNext (.ref I)) _ >>= _) _ _ s;refine zA0 (wpAny_tryCatch (W.item 0 s _ _ hn st fun v h' tk pv st' kp=>?_));obtain⟨tv,rfl⟩:=gv _ _ pv;have eS':=kp S _ nw eS;show wpAny _ A.in1 (updateSeq S (fun _=>#[Value.int (g 0) tv,Value.int (g 0) tv]) >>= _) _ _ _;refine zA0 ?_;refine wpAny_updateSeq eS' rfl ?_;rw[mx];refine zI0 ⟨plainId_quiet F.plain_max_loop _,Ap W gv nS (n-1) 0 _ tv _ (by omega) (W.frame _ _ _ st' fun b hb o eb=>?_) (Heap.get?_update_self _ eS' rfl) fun t' h2 tk2 kp2=>?_⟩
 . exact(Heap.get?_update_other _ _ (fun z:S=b=>nS (by rw[z];exact hb))).trans eb
 . exact q t' h2 tk2 fun b o h1 h3 eb=>kp2 b o h1 h3 ((Heap.get?_update_other _ _ (Ne.symm h3)).trans (kp b o h1 eb))
end
section
variable {X:Cx} {e k:Expr} {te tk:TE} {pos p1 kp:Pos}
inductive rMax1(K:W.Frag)(xs:List V)(H:Hp)(Q:VK):Prop where
 | mk:∀a ns,(xs=[.ref a])->(SqL K H a (ns.map V.int))->(ns≠[])->(Q (.int (ya ns 0)) H)->rMax1 K xs H Q
theorem qo (hc:X.calm=true):gI X (.builtin "max") (rMax1 X.K):=by
 intro pins s2 σ H2 xs us Q I2 r h;obtain⟨a,ns,rfl,hq,hn,q⟩:=h;obtain⟨u,rfl,ru⟩:=ju r;cases ru;obtain⟨its,r',p,hz⟩:=I2.list hq;have hl:=r'.length;rw[zF0]at hl;have hlt:a<s2.heap.objs.size:=by obtain⟨o,n,e,_⟩:=p;exact zN0 e
 refine call_function_tree F.kind_max F.plain_max F.entry_max (F.args_max1 _) ?_;show wpAny _ X.A.in1 (Builtin.Builtins.bindParams "max" ["key","default"] 0 ⟨[],[]⟩ >>= fun _=>_) _ _ s2;refine zA0 (wpAny_of_eq (a:=[none,none]) rfl ?_);refine zA0 (zI0 ?_);refine zA0 (wpAny_pyIter_list p.isList ?_);refine zA0 (wpAny_newObj_type ?_);rw[mx];have hne:a≠s2.heap.objs.size:=zT0 hlt;have W:=Walks.list (prog:=X.prog) (w:=X.w) (A:=X.A.in1) (I2.ok.hd hc) s2.heap.objs.size a hne its.toArray;have I3:Inv X pins σ H2 { s2 with heap:=s2.heap.push { cls:=.type "list_iterator",data:=.fields #[.ref a,.int 0 0] } }:=I2.kept (t':=s2.toks) fun b o eb=>zP0 _ eb
 have I4:Inv X pins σ H2 { s2 with heap:=(s2.heap.push { cls:=.type "list_iterator",data:=.fields #[.ref a,.int 0 0] }).push { cls:=.type "list",data:=.seq #[] } }:=I3.kept (t':=s2.toks) fun b o eb=>zP0 _ eb
 have hz1:∀o:Obj,(s2.heap.push o).objs.size=s2.heap.objs.size+1:=fun o=>by simp [Heap.push]
 have nS:(s2.heap.push { cls:=.type "list_iterator",data:=.fields #[.ref a,.int 0 0] }).objs.size∉[s2.heap.objs.size,a]:=by
  intro hm;rcases zY0 hm with z | z
  . rw[hz1]at z;exact absurd z (Nat.succ_ne_self _)
  . have z:=zM0 z;rw[hz1]at z;exact absurd z (qO0 (Nat.lt_succ_of_lt hlt))
 have gv:∀i v,its.toArray[i]?=some v->∃t,v=Value.int (ns[i]?.getD 0) t:=fun i v hv=>by
  obtain⟨b,t,hb,rfl⟩:=oN r' (i:=i) (v:=v) (by first | exact hv | simpa using hv | (rw[List.getElem?_toArray]at hv;exact hv));exact⟨t,by rw[hb];rfl⟩
 have n0:0<ns.length:=List.length_pos_iff.mpr hn;refine zI0 ⟨plainId_quiet F.plain_max_loop _,Aq (g:=fun i=>ns[i]?.getD 0) W gv nS (by rw[zS0,←hl];exact n0) ⟨⟨_,zP0 _ (qA0 _ rfl),rfl,rfl⟩,(p.isList.push _).push _⟩ (qA0 _ rfl) fun t' h' tk kp=>?_⟩;rw[zS0,←hl];have em:db (fun i=>ns[i]?.getD 0) (ns.length-1)=ya ns 0:=by
  cases ns with
  | nil=>exact absurd rfl hn
  | cons _ _=>rfl
 rw[em];refine⟨.int _,H2,?_,⟨_,rfl⟩,q⟩;have J:=Inv.turnedL (h':=h') (t':=tk) (ch:=[s2.heap.objs.size,s2.heap.objs.size+1]) I4 (fun b o hb eb=>kp b o (fun z=>hb (by rw[zM0 z];exact zU0)) (fun z=>hb (by rw[z,hz1];exact qH0 _ zU0)) eb);refine J fun b hb=>?_
 rcases zY0 hb with h | h
 . rw[h];exact I2.fpOk (zH0 _) (I2.hok.fresh (zH0 _))
 . rw[zM0 h];exact I2.fpOk (qL0 _) (I2.hok.fresh (qL0 _))
end
section
variable {prog:Program} {w:World} {A:Around} {E:Value->Shared->Prop} {s:Shared}
theorem wa{it t:Addr}{i:Nat}{items:Array Value}{x:Value}{Q:Value->Shared->Prop}(hit:s.heap.IsTupleIter it t i)(ht:s.heap.IsTuple t items)(hx:items[i]?=some x)
 (q:∀h',h'.IsTupleIter it t (i+1)->Heap.SameBut it s.heap h'->Q x { s with heap:=h' }):wpAny (model prog w) A (Builtin.SmallTypes.nextOf (.ref it)) Q E s:=by
 obtain⟨o,ho,hc,hd⟩:=id hit;obtain⟨ol,hol,_,nl,hdl⟩:=ht;unfold Builtin.SmallTypes.nextOf;refine zA0 (wpAny_callSpecial?_slot (name:=Str.ofString "__next__") hit.typeIs F.slot_tuple_iterator_next (wpAny_call_entry F.slot_tuple_iterator_next hit.typeIs F.entry_tuple_iterator_next ?_ (F.args_tuple_iterator_next_1 _)));show wpAny _ _ (field (.ref it) 0 >>= _) _ _ s;refine zA0 (wpAny_field ho hd (x:=.ref t) rfl ?_);show wpAny _ _ (if(Value.ref t==Value.none)=true then _ else _) _ _ s;rw[zB0 (show ¬ ((Value.ref t==Value.none)=true)from qC0)];show wpAny _ _ (field (.ref it) 1 >>= _) _ _ s;refine zA0 (wpAny_field ho hd (x:=.int i 0) rfl ?_);show wpAny _ _ (seqItems? (.ref t) >>= _) _ _ s;refine zA0 (wpAny_seqItems hol hdl ?_);simp only[qQ0,hx];refine zA0 (wpAny_setField ho hd (by simp) (zI0 ⟨x,rfl,zI0 (q _ ?_ (Heap.SameBut.update ..))⟩));exact⟨_,Heap.get?_update_self _ ho (Obj.isFreed_of_fields (Obj.data_mapFields hd _)),(Obj.cls_mapFields ..).trans hc,by rw[Obj.data_mapFields hd];simp [rawInt]⟩
theorem uA{it t:Addr}{i:Nat}{items:Array Value}{Q:Value->Shared->Prop}(hh:A.handled=none)(hit:s.heap.IsTupleIter it t i)(ht:s.heap.IsTuple t items)(hx:items[i]?=none)
 (q:∀h' e,Heap.ExtBut it s.heap h'->(∃o,h'.get? e=some o/\o.cls=.type "StopIteration")->E (.ref e) { s with heap:=h' }):wpAny (model prog w) A (Builtin.SmallTypes.nextOf (.ref it)) Q E s:=by
 obtain⟨o,ho,hc,hd⟩:=id hit;obtain⟨ol,hol,_,nl,hdl⟩:=ht;unfold Builtin.SmallTypes.nextOf;refine zA0 (wpAny_callSpecial?_slot (name:=Str.ofString "__next__") hit.typeIs F.slot_tuple_iterator_next (wpAny_call_entry F.slot_tuple_iterator_next hit.typeIs F.entry_tuple_iterator_next ?_ (F.args_tuple_iterator_next_1 _)));show wpAny _ _ (field (.ref it) 0 >>= _) _ _ s;refine zA0 (wpAny_field ho hd (x:=.ref t) rfl ?_);show wpAny _ _ (if(Value.ref t==Value.none)=true then _ else _) _ _ s;rw[zB0 (show ¬ ((Value.ref t==Value.none)=true)from qC0)];show wpAny _ _ (field (.ref it) 1 >>= _) _ _ s;refine zA0 (wpAny_field ho hd (x:=.int i 0) rfl ?_);show wpAny _ _ (seqItems? (.ref t) >>= _) _ _ s;refine zA0 (wpAny_seqItems hol hdl ?_);simp only[qQ0,hx]
 first
  | refine zA0 (wpAny_rule (zA0 (wpAny_setField ho hd (by simp) (zA0 (wpAny_letGo ?_)))))
  | refine zA0 (wpAny_rule (zA0 (wpAny_setField ho hd (by simp) ?_)))
 show wpAny _ _ (newExc (.type "StopIteration") [] >>= _) _ _ _;refine zA0 ?_;simp only[newExc,newTuple];refine zA0 (wpAny_newObj_type ?_ (by size_fits));refine zA0 (m:=firstArgMember _ _) (wpAny_of_eq (a:=Value.none) (by first | rfl | (simp only[firstArgMember];rfl)) ?_);refine wpAny_newObj_type ?_ (by size_fits);simp only[raiseNew];refine zA0 (wpAny_handled ?_)
 first | rw[show A.in1.handled=none from hh] | rw[hh]
 refine zA0 (zI0 (wpAny_throw ?_));exact q _ _ (((Heap.SameBut.update ..).extBut.push _).push _) ⟨_,qA0 _ rfl,rfl⟩
theorem yx{e it t:Addr}{j:Nat}{i:Int}{old:Value}{items:Array Value}{Q:Option Value->Shared->Prop}(hh:A.handled=none)(he:IsEnum s.heap e it i old)(hit:s.heap.IsTupleIter it t j)(ht:s.heap.IsTuple t items)(hx:items[j]?=none)
 (q:∀h',Heap.ExtBut it s.heap h'->Q none { s with heap:=h' }):wpAny (model prog w) A (pyNext (.ref e)) Q E s:=by
 have hT:s.TypeIs (.ref e) "enumerate":=⟨_,he,rfl⟩
 unfold pyNext;refine zA0 (wpAny_attempt (wpAny_callSpecial?_slot (name:=Str.ofString "__next__") hT F.slot_enumerate_next (wpAny_call_entry F.slot_enumerate_next hT F.entry_enumerate_next ?_ (F.args_enumerate_next_1 _))));show wpAny _ _ (field (.ref e) 2 >>= _) _ _ _;refine zA0 (wpAny_field he rfl (x:=.ref it) rfl ?_);refine zA0 (uA hh hit ht hx fun h' x he' hx'=>?_);obtain⟨o,ho,hc⟩:=hx';refine zA0 (wpAny_isInstance (T:="StopIteration") (b:=true) ⟨o,ho,hc⟩ isSubtype_stop ?_);exact zI0 (q h' he')
end
theorem yy{prog:Program}{w:World}{A:Around}(hh:A.handled=none)(it l:Addr)(hne:l≠it)(items:Array Value):Draws prog w A it [it,l] items.size (fun i v=>items[i]?=some v) (fun i h=>h.IsTupleIter it l i/\h.IsTuple l items) where
 live:=fun _ _ st=>let⟨o,ho,_⟩:=st.1;⟨o,ho⟩
 frame:=fun _ _ _ st k=>⟨st.1.at fun o e=>k it (by simp) o e,st.2.at fun o e=>k l (by simp) o e⟩
 item:=fun i s Q E hi st q=>by
  refine wa st.1 st.2 (x:=items[i]) (by simp [hi]) fun h' a b=>?_
  exact q _ h' s.toks (by simp [hi]) ⟨a,st.2.extBut b.extBut hne⟩ b
 done:=fun s Q E st q=>uA hh st.1 st.2 (by simp) q
open AutoSeq1 (wpAny_loadPart') in
set_option maxHeartbeats 1000000 in
theorem tu(l:Addr)(items:Array Value)(n:Nat)(dct:Option Addr)(sl:Array (Option Value)) :
 Meets (Builtin.«enumerate.__new__» ⟨[.type "enumerate",.ref l],[]⟩) (fun _ R s=>s.heap.get? l=some { cls:=.type "tuple",dict:=dct,data:=.seq items n,slots:=sl }/\
  R (.ok (.ret (.ref (s.heap.push { cls:=.type "tuple_iterator",data:=.fields #[.ref l,.int 0 0] }).objs.size)))
   { s with heap:=(s.heap.push { cls:=.type "tuple_iterator",data:=.fields #[.ref l,.int 0 0] }).push { cls:=.type "enumerate",data:=.fields #[.none,.bool false,.ref s.heap.objs.size,rawInt 0,.none,.none] } }):=
 .of_wp fun prog w A R s h=>by
  obtain⟨hp,g,d,tk,os⟩:=s;obtain⟨hl,h⟩:=h;have hsub:=sub_enumerate;have hL:Heap.IsTuple (Shared.heap ⟨hp,g,d,tk,os⟩) l items:=⟨_,hl,rfl,n,rfl⟩
  wp_walk using wpAny_loadPart' hl
  refine wpAny_stack_any fun st=>zI0 ?_
  split
  . rename_i c _ _ _ _ _;cases(c==Value.type "enumerate")
    . wp_walk using wpAny_loadPart' hl,wpAny_pyIter_tuple hL
      exact⟨_,rfl,h⟩
    . wp_walk using wpAny_loadPart' hl,wpAny_pyIter_tuple hL
      exact⟨_,rfl,h⟩
  . wp_walk using wpAny_loadPart' hl,wpAny_pyIter_tuple hL
    exact⟨_,rfl,h⟩
section
variable {prog:Program} {w:World} {A:Around} {E:Value->Shared->Prop} {s:Shared}
theorem vV{l:Addr}{items:Array Value}{Q:Value->Shared->Prop}(hL:s.heap.IsTuple l items)
 (q:∀h',IsEnum h' (s.heap.objs.size+1) s.heap.objs.size 0 .none->h'.IsTupleIter s.heap.objs.size l 0->(∀b o,s.heap.get? b=some o->h'.get? b=some o)->Q (.ref (s.heap.objs.size+1)) { s with heap:=h' }) :
 wpAny (model prog w) A (call (.type "enumerate") [.ref l]) Q E s:=by
 obtain⟨⟨c,dct,dt,sl⟩,hl,hc,n,hd⟩:=hL
 replace hc:c=.type "tuple":=hc
 replace hd:dt=.seq items n:=hd
 subst hc hd;refine callType_new F.called_enumerate (by decide) (F.typeCall_enumerate_1 _) (F.newCall_enumerate_1 _) (fun obj=>F.args_object_init_2 obj _) F.entry_enumerate_new (tu l items n dct sl) ⟨hl,?_⟩;have hz:(s.heap.push { cls:=.type "tuple_iterator",data:=.fields #[.ref l,.int 0 0] }).objs.size=s.heap.objs.size+1:=Heap.size_push ..;show _/\_;rw[hz];have he:IsEnum ((s.heap.push { cls:=.type "tuple_iterator",data:=.fields #[.ref l,.int 0 0] }).push { cls:=.type "enumerate",data:=.fields #[.none,.bool false,.ref s.heap.objs.size,rawInt 0,.none,.none] }) (s.heap.objs.size+1) s.heap.objs.size 0 .none:=by
  have:=qA0 (s.heap.push { cls:=.type "tuple_iterator",data:=.fields #[.ref l,.int 0 0] }) (o:={ cls:=.type "enumerate",data:=.fields #[.none,.bool false,.ref s.heap.objs.size,rawInt 0,.none,.none] }) rfl
  rw[hz]at this;exact this
 exact⟨⟨_,he,rfl⟩,q _ he ⟨_,zP0 _ (qA0 _ rfl),rfl,rfl⟩ fun b o x=>zP0 _ (zP0 _ x)⟩
end
def Bk(K:W.Frag)(a:Addr):It:=
 ⟨fun i H=>∃xs x,SqT K H a xs/\xs[i]?=some x,fun i H y H'=>∃t,y=.ref t/\H t=none/\∀xs x,SqT K H a xs->xs[i]?=some x->H'=upd H t (.tup [.int i,x]),fun i H=>∃xs,SqT K H a xs/\xs.length<=i⟩
theorem uy{P:Program}{w:World}{K:W.Frag}{elts:List Expr}{k:Nat}{pos:Pos}(a e it:Addr)(hei:e≠it)(hai:a≠it)(hae:a≠e) :
 Turn P w K (.Tuple elts k pos) (Bk K a) [e,it] e (fun i h=>(∃old,IsEnum h e it i old)/\h.IsTupleIter it a i) where
 mem:=by simp
 obj:=fun i h st b hb=>by
  obtain⟨⟨old,he⟩,o,e2,c,d⟩:=st;rcases zY0 hb with z | z
  . subst z;exact⟨_,he,fun v z=>nomatch z⟩
  . have z':=zM0 z;subst z';exact⟨o,e2,fun v z=>by rw[d]at z;cases z⟩
 keep:=fun i h h' st k=>by
  obtain⟨⟨old,he⟩,hit⟩:=st;exact⟨⟨old,k e (by simp) _ he⟩,hit.at fun o x=>k it (by simp) o x⟩
 item:=by
  intro X hP hw hK hc i pins s σ H E I hf st hg;subst hP hw hK;obtain⟨xs,x,hq,hx⟩:=hg;obtain⟨its,rv,p,hz⟩:=I.tuple hq;obtain⟨u,hu,ru⟩:=rv.get hx;obtain⟨⟨old,he⟩,hit⟩:=st;have hi:i<its.toArray.size:=by
   rw[zS0];exact(zX0 hu).1
  refine wpAny_pyNext_enum_itemD (yy (prog:=X.prog) (w:=X.w) (A:=X.A.in1) (I.ok.hd hc) it a hai its.toArray) he ⟨hit,p⟩ hi hei (by simp [hei,Ne.symm hae]) fun y h1 tk hy ho hst1 hT hsz hk=>?_
  have ey:y=u:=by
   have h1:its.toArray[i]?=some u:=by simpa using hu
   rw[h1]at hy;exact(zV0 hy).symm
  subst ey;refine⟨_,rfl,wpAny_letOwnedTupleGo_enum ho fun h2 he2 hs2=>?_⟩;have elt:e<s.heap.objs.size:=zN0 he;have hT2:h2.get? s.heap.objs.size=some { cls:=.type "tuple",data:=.seq #[.int i tk,y] }:=(hs2.2 _ (Ne.symm (zT0 elt))).trans hT;have I2:Inv X pins σ (upd H s.heap.objs.size (.tup [.int i,x])) { s with heap:=h2,toks:=tk+1 }:=by
   refine I.turnedNew (ch:=[e,it]) (fun b ob hb eb=>?_) hf (zH0 _) ⟨by show 2<=sizeLine;decide,[.int i tk,y],.cons ⟨_,rfl⟩ (.cons ru .nil),⟨_,hT2,rfl,_,rfl⟩,_,hT2,rfl⟩;have b1:b≠e:=fun z=>hb (by simp [z])
   have b2:b≠it:=fun z=>hb (by simp [z])
   exact(hs2.2 b b1).trans (hk b ob b1 b2 eb)
  refine⟨.ref s.heap.objs.size,_,I2,rfl,⟨_,rfl,I.hok.fresh (zH0 _),fun ys z hy hyi=>?_⟩,⟨⟨y,by simpa using he2⟩,hst1.1.at fun o z=>(hs2.2 it (Ne.symm hei)).trans z⟩,fun b hb=>?_⟩
  . have e1:=I.tuple_inj hy hq;subst e1;rw[hx]at hyi;cases hyi;rfl
  . have z:=hf b hb;have hlt:b<s.heap.objs.size:=by
     rcases zY0 hb with y | y
     . rw[y];exact elt
     . rw[zM0 y];obtain⟨o,e2,_⟩:=hit;exact zN0 e2
    rw[av (zT0 hlt)];exact z.1
 done:=by
  intro X hP hw hK hc i pins s σ H E I hf st hg;subst hP hw hK;obtain⟨xs,hq,hx⟩:=hg;obtain⟨its,rv,p,hz⟩:=I.tuple hq;obtain⟨⟨old,he⟩,hit⟩:=st;have hl:=rv.length;exact yx (I.ok.hd hc) he hit p (Array.getElem?_eq_none (by simp;omega)) fun h' eb=>⟨rfl,I.turnedL (t':=s.toks) (ch:=[e,it]) (fun b o hb eo=>eb b o (fun z=>hb (by simp [z])) eo) hf⟩
 self:=fun _ _ _ _ _ st h=>by
  obtain⟨⟨old,he⟩,_⟩:=st;exact wpAny_pyIter_enum he h
section
variable {X:Cx} {elts:List Expr} {k:Nat} {tpos:Pos}
inductive ZiEnumT(K:W.Frag)(R:(It->Hp->Prop))(x:V)(H1:Hp):Prop where
 | mk:∀a,(x=.ref a)->((∃xs,SqT K H1 a xs))->(R (Bk K a) H1)->ZiEnumT K R x H1
def Ee(K:W.Frag)(tl:TE):TI:=fun σ H R=>tl σ H fun x H1=>ZiEnumT K R x H1
theorem zN {l:Expr} {tl:TE} {p pos:Pos} (hg:Gl X "enumerate") (hm:X.mg "enumerate"=none) (hl:PE X l tl) (hs:starEach [l] X.env=[(false,eval l X.env)]:=by rfl) :
 PI X (.Tuple elts k tpos) (.Call (.Name "enumerate" p) [l] [] pos) (Ee X.K tl):=by
 intro pins s σ H R I h;refine Call_ (eT I hg hm boot_enumerate (PyProof.Rows.callWith_type1 ?_ hs rfl));rw[hs];show wpAny _ _ (spliced ((false,eval l X.env)::backTo pos (starEach [] X.env))) _ _ s;refine Calls.spliced_cons (thn (hl pins s σ H _ I h) fun u s1 ⟨x,H1,I1,r1,a,ex,⟨xs,hq⟩,q⟩=>?_);subst ex;cases r1;obtain⟨its,rv,p,hz⟩:=I1.tuple hq;have alt:=p.lt;refine Calls.spliced_nil ?_;refine vV p fun h' he hit hk=>?_
 refine wpAny_pyIter_enum he ?_;have I2:Inv X pins σ H1 { s1 with heap:=h' }:=I1.kept (t':=s1.toks) hk;refine⟨s1.heap.objs.size+1,[s1.heap.objs.size+1,s1.heap.objs.size],_,_,H1,rfl,I2,uy a _ _ (qO0 (Nat.lt_succ_self _)) (zT0 alt) (zT0 (Nat.lt_succ_of_lt alt)),⟨⟨_,he⟩,hit⟩,fun b hb=>?_,q⟩;rcases zY0 hb with z | z
 . rw[z];exact I1.fpOk (qL0 _) (I1.hok.fresh (qL0 _))
 . rw[zM0 z];exact I1.fpOk (zH0 _) (I1.hok.fresh (zH0 _))
end
theorem yr{K:W.Frag}{a:Addr}{xs:List V}{g:TG}{tb:TS}{D:Ends}{σ:St}{H:Hp}(Pv:Nat->St->Hp->Prop)(h0:Pv 0 σ H)(hl:∀i σ H,i<=xs.length->Pv i σ H->SqT K H a xs)
 (hs:∀i x σ H t,xs[i]?=some x->Pv i σ H->H t=none->g (.ref t) σ (upd H t (.tup [.int i,x])) fun σ2 H2=>tb { D with nx:=Pv (i+1),ct:=Pv (i+1),bk:=D.nx } σ2 H2) (hd:∀ σ H,Pv xs.length σ H->D.nx σ H) :
 ∃ W:Nat->Nat->St->Hp->Prop,(∃m,W 0 m σ H)/\∀i m σ H,W i m σ H ->
  ((Bk K a).stop i H/\D.nx σ H)∨((Bk K a).go i H/\∃N:St->Hp->Prop,(∀ σ' H',N σ' H'->∃m',m'<m/\W (i+1) m' σ' H')/\∀x H',(Bk K a).yld i H x H'->g x σ H' fun σ2 H2=>tb { D with nx:=N,ct:=N,bk:=D.nx } σ2 H2):=by
 refine⟨fun i m σ H=>m=xs.length-i/\i<=xs.length/\Pv i σ H,⟨xs.length,by simp,zW0 _,h0⟩,?_⟩;rintro i m σ H ⟨rfl,hi,p⟩;have q:=hl i σ H hi p
 by_cases hlt:i<xs.length
 . refine .inr ⟨⟨xs,xs[i],q,by simp [hlt]⟩,Pv (i+1),fun σ' H' p'=>⟨xs.length-(i+1),by omega,rfl,hlt,p'⟩,fun x H' y=>?_⟩;obtain⟨t,rfl,ht,e⟩:=y;have e':=e xs xs[i] q (by simp [hlt]);subst e';exact hs i xs[i] σ H t (by simp [hlt]) p ht
 . have e:i=xs.length:=by omega
   subst e;exact .inl ⟨⟨xs,q,zH0 _⟩,hd σ H p⟩
def ItV(K:W.Frag)(a:Addr)(xs:List V):It:=⟨fun i H=>SqL K H a xs/\i<xs.length,fun i H y H'=>H'=H/\xs.reverse[i]?=some y,fun i _=>xs.length<=i⟩
theorem wY{P:Program}{w:World}{K:W.Frag}{tg:Expr}(a it:Addr)(xs:List V):Turn P w K tg (ItV K a xs) [it] it (fun i h=>i<=xs.length/\h.IsRevIter it a ((xs.length:Int)-1-(i:Int))) where
 mem:=by simp
 obj:=fun i h st b hb=>by
  have e:b=it:=by simpa using hb
  subst e;obtain⟨_,o,e,c,d⟩:=st;exact⟨o,e,fun v z=>by rw[d]at z;cases z⟩
 keep:=fun i h h' st k=>⟨st.1,st.2.at fun o e=>k it (by simp) o e⟩
 item:=by
  intro X hP hw hK hc i pins s σ H E I hf st hg;subst hP hw hK;obtain⟨hq,hi⟩:=hg;obtain⟨its,rv,p,hz⟩:=I.list hq;have hj:xs.length-1-i<xs.length:=by omega
  have hx:xs[xs.length-1-i]?=some xs[xs.length-1-i]:=zR0 hj;obtain⟨u,hu,ru⟩:=rv.get hx;obtain⟨f0,f1,f2,f3,f4,f5⟩:=hf it (by simp);obtain⟨_,hit⟩:=st;have e1:((xs.length:Int)-1-(i:Int))=((xs.length-1-i:Nat):Int):=by omega
  rw[e1]at hit;refine wpAny_pyNext_rev_item hit p.isList (x:=u) (by simpa using hu) fun h' st' sb=>?_
  have I1:Inv X pins σ H { s with heap:=h' }:=I.turned (t':=s.toks) (fun b o hb e=>(sb.2 b hb).trans e) f0 f1 f3 f4 f5;have e2:((xs.length-1-i:Nat):Int)-1=(xs.length:Int)-1-((i+1:Nat):Int):=by omega
  rw[e2]at st';obtain⟨o,e,c,d⟩:=id st';refine⟨u,rfl,tI (s:={ s with heap:=h' }) e c d (by decide) ⟨xs[xs.length-1-i],H,I1,ru,⟨rfl,?_⟩,⟨by omega,st'⟩,fun b hb=>(hf b hb).1⟩⟩;rw[List.getElem?_reverse hi,hx]
 done:=by
  intro X hP hw hK hc i pins s σ H E I hf st hg;subst hP hw hK;have hg:xs.length<=i:=hg;obtain⟨f0,f1,f2,f3,f4,f5⟩:=hf it (by simp);obtain⟨hi,hit⟩:=st;have e1:(xs.length:Int)-1-(i:Int)=-1:=by omega
  rw[e1]at hit;exact wpAny_pyNext_rev_end (I.ok.hd hc) hit fun h' eb=>⟨rfl,I.turned (t':=s.toks) (fun b o hb e=>eb b o hb e) f0 f1 f3 f4 f5⟩
 self:=fun _ _ _ _ _ st h=>wpAny_pyIter_revIter st.2 h
theorem AS{K:W.Frag}{a:Addr}{xs:List V}{g:TG}{tb:TS}{D:Ends}{σ:St}{H:Hp}(Pv:Nat->St->Hp->Prop)(h0:Pv 0 σ H)(hl:∀i σ H,i<=xs.length->Pv i σ H->SqL K H a xs)
 (hs:∀i x σ H,i<xs.length->xs.reverse[i]?=some x->Pv i σ H->g x σ H fun σ2 H2=>tb { D with nx:=Pv (i+1),ct:=Pv (i+1),bk:=D.nx } σ2 H2) (hd:∀ σ H,Pv xs.length σ H->D.nx σ H) :
 ∃ W:Nat->Nat->St->Hp->Prop,(∃m,W 0 m σ H)/\∀i m σ H,W i m σ H ->
  ((ItV K a xs).stop i H/\D.nx σ H)∨((ItV K a xs).go i H/\∃N:St->Hp->Prop,(∀ σ' H',N σ' H'->∃m',m'<m/\W (i+1) m' σ' H')/\∀x H',(ItV K a xs).yld i H x H'->g x σ H' fun σ2 H2=>tb { D with nx:=N,ct:=N,bk:=D.nx } σ2 H2):=by
 refine⟨fun i m σ H=>m=xs.length-i/\i<=xs.length/\Pv i σ H,⟨xs.length,by simp,zW0 _,h0⟩,?_⟩;rintro i m σ H ⟨rfl,hi,p⟩;have q:=hl i σ H hi p
 by_cases hlt:i<xs.length
 . refine .inr ⟨⟨q,hlt⟩,Pv (i+1),fun σ' H' p'=>⟨xs.length-(i+1),by omega,rfl,hlt,p'⟩,fun x H' y=>?_⟩;obtain⟨e,ex⟩:=y;subst e;exact hs i x σ _ hlt ex p
 . have e:i=xs.length:=by omega
   subst e;exact .inl ⟨zH0 _,hd σ H p⟩
theorem xY {X:Cx} (K:W.Frag) (h:X.K=K:=by rfl):MtR X "list.count" (rCountL K):=by subst h;exact sY
section
variable {X:Cx} {o e:Expr} {es:List Expr} {to ta:TE} {t:TA} {T id:String} {name f:Str} {r:V->List V->Hp->VK->Prop} {apos cpos pos:Pos}
theorem DE (K:W.Frag) (pa:PlainAttrs T) (slot:Slot T name id) (hty:typeOf (.builtin id)=pure (.type "method_descriptor")) (hm:MtR X id r) (ho:PE X o to) (ha:PA X (e::es) t) (hK:X.K=K:=by rfl)
 (hbase:attributeBase o name X.env (eval o X.env)=eval o X.env:=by rfl)
 (hfew:((backTo cpos (starEach (e::es) X.env)).all (fun x=>!x.1)&&(backToKw cpos (keywordEach [] X.env)).all (fun x=>x.1.isSome)&&decide ((e::es).length+([]:List Keyword).length+(if([]:List Keyword).isEmpty then 0 else 1)<30))=true:=by rfl)
 (hline:(apos.endLine==cpos.line)=true:=by rfl) (hs:starEach (e::es) X.env=(false,eval e X.env)::starEach es X.env:=by rfl) (hplain:(backTo cpos (starEach es X.env)).any (·.1)=false:=by rfl) :
 PE X (.Call (.Attribute o name apos) (e::es) [] cpos) (tBM K T r to t):=by subst hK;exact dH pa slot hty hm ho ha hbase hfew hline hs hplain
theorem mv(K:W.Frag)(he:PE X e ta)(hK:X.K=K:=by rfl)(hb:attributeBase e f X.env (eval e X.env)=eval e X.env:=by rfl):PE X (.Attribute e f pos) (tFld K ta f):=by subst hK;exact ay he hb
end
@[reducible] def cxCompO (X:Cx) (x:Str) (N:List Str) (scope:Scope) (cl:List (Str×Addr)) (s:Shared) (H:Hp) (fp:List Addr):Cx where
 prog:=X.prog
 w:=X.w
 K:=X.K
 mg:=X.mg
 base:=X.base
 A:=X.A
 N:=x::N
 s₀:=s
 H₀:=H
 env:=compEnvC scope ((x,s.heap.objs.size+1)::cl) s.heap.objs.size X.env
 outer:=X.stack
 stack:=X.stack
 ex:=fp
 fn:=fun y=>y==x
 calm:=X.calm
 pn:=[]
 xe:=fun _ _=>False
theorem CompScope.four{X:Cx}{x y z u v:Str}{scope:Scope}{k l m n:Nat}{c d e g:Addr}{cl:List (Str×Addr)}(c1:closureFor scope X.env=pure cl)(c2:∀y∈scope.names,y.2≠.cell)(c3:scope.kind=.function)(c4:∀y∈scope.names,y.2=.local->scope.names.lookup y.1=some .local)
 (c5:scope.names.lookup x=some .local) (nd:[x,y,z,u,v].Nodup) (hcl:cl=[(y,c),(z,d),(u,e),(v,g)]) (hc:X.env.cells.lookup y=some c) (hd:X.env.cells.lookup z=some d) (he:X.env.cells.lookup u=some e) (hg:X.env.cells.lookup v=some g) (c6:((relabel scope X.env).names.all fun p=>!(p.2==.cell||p.2==.free)||(cl.lookup p.1).isSome)=true)
 (hr:(relabel scope X.env).names.lookup y=some .cell) (hk:X.N[k]?=some y) (hs:X.env.scope.names.lookup y=some .cell)
 (hr2:(relabel scope X.env).names.lookup z=some .cell) (hk2:X.N[l]?=some z) (hs2:X.env.scope.names.lookup z=some .cell)
 (hr3:(relabel scope X.env).names.lookup u=some .cell) (hk3:X.N[m]?=some u) (hs3:X.env.scope.names.lookup u=some .cell)
 (hr4:(relabel scope X.env).names.lookup v=some .cell) (hk4:X.N[n]?=some v) (hs4:X.env.scope.names.lookup v=some .cell):CompScope X x [y,z,u,v] [k,l,m,n] scope cl where
 clos:=c1
 nocell:=c2
 kind:=c3
 names:=c4
 own:=c5
 nd:=nd
 sub:=fun p hp=>by
  subst hcl;rcases zY0 hp with h | h
  . rw[h];assumption
  . rcases zY0 h with h | h
    . rw[h];assumption
    . rcases zY0 h with h | h
      . rw[h];assumption
      . rw[zM0 h];assumption
 has:=c6
 outs:=fun j w h=>by
  have nyz:y≠z:=fun e=>by simp [e]at nd
  have nyu:y≠u:=fun e=>by simp [e]at nd
  have nyv:y≠v:=fun e=>by simp [e]at nd
  have nzu:z≠u:=fun e=>by simp [e]at nd
  have nzv:z≠v:=fun e=>by simp [e]at nd
  have nuv:u≠v:=fun e=>by simp [e]at nd
  subst hcl
  match j,h with
  | 0,h=>
    have e:y=w:=zV0 h;subst e;exact⟨hr,k,c,rfl,hk,by simp [List.lookup],hs⟩
  | 1,h=>
    have e:z=w:=zV0 h;subst e
    have:(z==y)=false:=by simpa using Ne.symm nyz
    exact⟨hr2,l,d,rfl,hk2,by simp [List.lookup,this],hs2⟩
  | 2,h=>
    have ew:u=w:=zV0 h;subst ew;have h1:(u==y)=false:=by simpa using Ne.symm nyu
    have h2:(u==z)=false:=by simpa using Ne.symm nzu
    exact⟨hr3,m,e,rfl,hk3,by simp [List.lookup,h1,h2],hs3⟩
  | 3,h=>
    have ew:v=w:=zV0 h;subst ew;have h1:(v==y)=false:=by simpa using Ne.symm nyv
    have h2:(v==z)=false:=by simpa using Ne.symm nzv
    have h3:(v==u)=false:=by simpa using Ne.symm nuv
    exact⟨hr4,n,g,rfl,hk4,by simp [List.lookup,h1,h2,h3],hs4⟩
  | j+4,h=>simp at h
end L2
namespace L2
open PySem PySem.Spec PyProof.Rows PySem.Builtin PySem.Builtin.Str
section
variable {prog:Program} {w:World} {A:Around} {E:Value->Shared->Prop} {s:Shared} {Q:Value->Shared->Prop} {x:PySem.Str} {t:Tok}
theorem uF{y:PySem.Str}{u:Tok}(hy:(y.length==0)=false)
 (h:∀l k,l.map (·.1)=Txt.split x y->Q (.ref s.heap.objs.size) { s with heap:=s.heap.push { cls:=.type "list",data:=.seq (strValues l).toArray },toks:=k })
 (hsz:x.length+2<=sizeLine):wpAny (model prog w) A (call (.builtin "str.split") [.str x t,.str y u]) Q E s:=by
 have hn:(partsBetween x (occurrences x y 0 x.length (x.length+1)) y.length).length<=sizeLine:=by
  have e1:=StrLaws.occ_length_le x y 0 x.length (x.length+1);rw[length_partsBetween];omega
 cases h1:(decide (x.length<y.length)||decide (strKind x<strKind y))
 . cases hf:(occurrences x y 0 x.length (x.length+1)).isEmpty
   . refine call_meets F.slot_str_split (typeIs_str _ _ _) F.entry_str_split (F.args_str_split_2 _ _) (meets_str_split_sep x y t u h1 hy hf (by omega) hn) ?_;show wants Q E _ { s with toks:=_,heap:=s.heap.push { cls:=.type "list",data:=.seq (strsFrom s.toks (partsBetween x (occurrences x y 0 x.length (x.length+1)) y.length)).toArray } };rw[strsFrom_eq];exact h (numbered s.toks _) _ ((numbered_texts _ _).trans ((zB0 (ne_true_of_eq_false h1)).trans (zB0 (ne_true_of_eq_false hf))).symm)
   . exact call_meets F.slot_str_split (typeIs_str _ _ _) F.entry_str_split (F.args_str_split_2 _ _) (meets_str_split_not_found x y t u h1 hy hf)
      (h [(x,t)] s.toks ((zB0 (ne_true_of_eq_false h1)).trans (zE0 hf)).symm)
 . exact call_meets F.slot_str_split (typeIs_str _ _ _) F.entry_str_split (F.args_str_split_2 _ _) (meets_str_split_cannot_occur x y t u h1)
    (h [(x,t)] s.toks (zE0 h1).symm)
end
theorem wk:∀l:List (PySem.Str×Tok),Vals ((l.map (·.1)).map V.str) (strValues l)
 | []=>.nil
 | (x,t)::r=>.cons ⟨t,rfl⟩ (wk r)
section
variable {X:Cx}
inductive rSplit(x:V)(vs:List V)(H:Hp)(Q:VK):Prop where
 | mk:∀z u,(x=.str z)->(vs=[.str u])->(0<u.length)->(z.length<=100000)->((Txt.split z u).length<=100000)->(∀p,H p=none->Q (.ref p) (upd H p (.lst ((Txt.split z u).map V.str))))->rSplit x vs H Q
theorem Ar:MtR X "str.split" rSplit:=by
 intro pins s σ H x vs v us Q I rx rv h;obtain⟨z,u,rfl,rfl,hu,hz,hl,q⟩:=h;obtain⟨t,rfl⟩:=rx;obtain⟨w',rfl,t',rfl⟩:=rv.one;have sl:sizeLine=16777216:=sizeLine_eq;refine uF (by rw[beq_eq_false_iff_ne];omega) (fun l k e=>?_) (by omega);have r:=wk l;rw[e]at r;exact⟨.ref _,_,I.lnew (t':=k) r (by rw[zF0];omega),rfl,q _ I.fresh⟩
theorem jA:gI X (.type "int") (fun xs H Q=>∃x n,xs=[.str x]/\PySem.intText? x=some n/\x.length<=640/\Q (.int n) H):=by
 intro pins s σ H xs us Q I r h;obtain⟨x,n,rfl,e,hl,q⟩:=h;obtain⟨u,rfl,t,rfl⟩:=ju r;exact PySem.W.KIN.call_text e hl ⟨.int n,H,I.tok _,⟨_,rfl⟩,q⟩
end
end L2
namespace L2
open PySem PySem.Spec PyProof.Rows
def SqIt(h:Heap)(i l:Addr)(k:Nat)(xs:Array Value):Prop:=(h.IsListIter i l k/\h.IsList l xs)∨(h.IsTupleIter i l k/\h.IsTuple l xs)
theorem SqIt.at{h h':Heap}{i l:Addr}{k:Nat}{xs:Array Value}(q:SqIt h i l k xs)(e1:∀o,h.get? i=some o->h'.get? i=some o)(e2:∀o,h.get? l=some o->h'.get? l=some o):SqIt h' i l k xs:=by
 rcases q with⟨a,b⟩ | ⟨a,b⟩
 . exact .inl ⟨a.at e1,b.at e2⟩
 . exact .inr ⟨a.at e1,b.at e2⟩
theorem SqIt.ext{h h':Heap}{i l c:Addr}{k:Nat}{xs:Array Value}(q:SqIt h i l k xs)(e:Heap.ExtBut c h h')(n1:i≠c)(n2:l≠c):SqIt h' i l k xs:=q.at (fun o z=>e _ o n1 z) (fun o z=>e _ o n2 z)
theorem SqIt.obj{h:Heap}{i l:Addr}{k:Nat}{xs:Array Value}(q:SqIt h i l k xs):∃o,h.get? i=some o/\∀v,o.data≠.cell v:=by
 rcases q with⟨⟨o,e,_,d⟩,_⟩ | ⟨⟨o,e,_,d⟩,_⟩
 . exact⟨o,e,fun v z=>by rw[d]at z;cases z⟩
 . exact⟨o,e,fun v z=>by rw[d]at z;cases z⟩
section
variable {prog:Program} {w:World} {A:Around} {E:Value->Shared->Prop} {s:Shared}
theorem jQ{i l:Addr}{k:Nat}{xs:Array Value}{x:Value}{Q:Value->Shared->Prop}(q:SqIt s.heap i l k xs)(n:l≠i)(hx:xs[k]?=some x)
 (hQ:∀h',SqIt h' i l (k+1) xs->Heap.SameBut i s.heap h'->Q x { s with heap:=h' }):wpAny (model prog w) A (Builtin.SmallTypes.nextOf (.ref i)) Q E s:=by
 rcases q with⟨a,b⟩ | ⟨a,b⟩
 . exact wpAny_nextOf_list_item a b hx fun h' a' e=>hQ h' (.inl ⟨a',b.extBut e.extBut n⟩) e
 . exact wa a b hx fun h' a' e=>hQ h' (.inr ⟨a',b.extBut e.extBut n⟩) e
theorem uD{i l:Addr}{k:Nat}{xs:Array Value}{Q:Value->Shared->Prop}(hh:A.handled=none)(q:SqIt s.heap i l k xs)(hx:xs[k]?=none)
 (hE:∀h' e,Heap.ExtBut i s.heap h'->(∃o,h'.get? e=some o/\o.cls=.type "StopIteration")->E (.ref e) { s with heap:=h' }):wpAny (model prog w) A (Builtin.SmallTypes.nextOf (.ref i)) Q E s:=by
 rcases q with⟨a,b⟩ | ⟨a,b⟩
 . exact wpAny_nextOf_list_end hh a b hx hE
 . exact uA hh a b hx hE
theorem Bn{z TI TO i1 i2 l1 l2:Addr}{k1 k2:Nat}{xs ys:Array Value}{x y a b:Value}{Q:Option Value->Shared->Prop}(D:ZipApart z TI TO i1 i2 l1 l2)
 (hz:IsZip s.heap z TI TO .none) (hTI:IsPair s.heap TI (.ref i1) (.ref i2)) (hTO:IsPair s.heap TO a b) (h1:SqIt s.heap i1 l1 k1 xs) (h2:SqIt s.heap i2 l2 k2 ys) (hx:xs[k1]?=some x) (hy:ys[k2]?=some y)
 (hQ:∀h',IsZip h' z TI TO (rawInt s.heap.objs.size)->IsPair h' TO x y->SqIt h' i1 l1 (k1+1) xs->SqIt h' i2 l2 (k2+1) ys->IsPair h' s.heap.objs.size x y ->
  (∀c o,c≠z->c≠TO->c≠i1->c≠i2->s.heap.get? c=some o->h'.get? c=some o)->Q (some (.ref s.heap.objs.size)) { s with heap:=h' }) :
 wpAny (model prog w) A (pyNext (.ref z)) Q E s:=by
 have hT:s.TypeIs (.ref z) "zip":=⟨_,hz,rfl⟩
 unfold pyNext;refine zA0 (wpAny_attempt (wpAny_callSpecial?_slot (name:=Str.ofString "__next__") hT F.slot_zip_next (wpAny_call_entry F.slot_zip_next hT F.entry_zip_next ?_ (F.args_zip_next_1 _))));show wpAny _ _ (field (.ref z) 2 >>= _) _ _ _;refine zA0 (wpAny_field hz rfl (x:=.bool false) rfl ?_);show wpAny _ _ (field (.ref z) 3 >>= _) _ _ _;refine zA0 (wpAny_field hz rfl (x:=.ref TI) rfl (zA0 (wpAny_seqItems hTI rfl ?_)));show wpAny _ _ (Builtin.SmallTypes.ownedTupleIsFree (.ref z) >>= _) _ _ _;refine zA0 ?_;unfold Builtin.SmallTypes.ownedTupleIsFree;refine zA0 (wpAny_field hz rfl (x:=.none) rfl (zI0 ?_));simp only[if_true];refine zA0 (wpAny_rule (zA0 (wpAny_field hz rfl (x:=.ref TO) rfl (zA0 (wpAny_setField_rec hz (by simp) fun ha za sa=>zA0 ?_)))))
 replace za:IsZip ha z TI TO .ellipsis:=za
 simp only[List.zipIdx_cons,List.zipIdx_nil,List.forIn_cons,List.forIn_nil];refine zA0 (zA0 (wpAny_onRaise ?_));show wpAny _ _ (Builtin.SmallTypes.nextOf (.ref i1) >>= _) _ _ _;refine zA0 (jQ (h1.ext sa.extBut D.i1z D.l1z) D.l1i1 hx fun hb q1 sb=>zI0 ?_);have TOb:IsPair hb TO a b:=sb.extBut _ _ D.TOi1 (sa.extBut _ _ D.TOz hTO);refine zA0 (wpAny_seqItems TOb rfl (zA0 (wpAny_updateSeq_pair TOb fun hc TOc sc=>?_)))
 replace TOc:IsPair hc TO x b:=TOc
 refine zA0 (wpAny_letGo (zI0 (zA0 (zA0 (wpAny_onRaise ?_)))));show wpAny _ _ (Builtin.SmallTypes.nextOf (.ref i2) >>= _) _ _ _;refine zA0 (jQ (((h2.ext sa.extBut D.i2z D.l2z).ext sb.extBut D.i12.symm D.l2i1).ext sc.extBut D.TOi2.symm D.l2TO) D.l2i2 hy fun hd q2 sd=>zI0 ?_);have TOd:IsPair hd TO x b:=sd.extBut _ _ D.TOi2 TOc;refine zA0 (wpAny_seqItems TOd rfl (zA0 (wpAny_updateSeq_pair TOd fun he TOe se=>?_)))
 replace TOe:IsPair he TO x y:=TOe
 refine zA0 (wpAny_letGo (zI0 (zI0 (zA0 (wpAny_seqItems TOe rfl (zA0 (wpAny_newTuple ?_)))))));have sz:he.objs.size=s.heap.objs.size:=by rw[se.1,sd.1,sc.1,sb.1,sa.1]
 have ze:IsZip he z TI TO .ellipsis:=se.extBut _ _ D.TOz.symm (sd.extBut _ _ D.i2z.symm (sc.extBut _ _ D.TOz.symm (sb.extBut _ _ D.i1z.symm za)));have ke:∀c o,c≠z->c≠TO->c≠i1->c≠i2->s.heap.get? c=some o->he.get? c=some o:=fun c o c1 c2 c3 c4 e=>se.extBut _ _ c2 (sd.extBut _ _ c4 (sc.extBut _ _ c2 (sb.extBut _ _ c3 (sa.extBut _ _ c1 e))))
 have q1e:=((q1.ext sc.extBut D.TOi1.symm D.l1TO).ext sd.extBut D.i12 D.l1i2).ext se.extBut D.TOi1.symm D.l1TO;have q2e:=q2.ext se.extBut D.TOi2.symm D.l2TO;have zlt:z<he.objs.size:=zN0 ze;show wpAny _ _ (Builtin.SmallTypes.ownedTupleHandOut (.ref z) (.ref he.objs.size) >>= _) _ _ _;refine zA0 ?_;unfold Builtin.SmallTypes.ownedTupleHandOut;have zf:IsZip (he.push { cls:=.type "tuple",data:=.seq #[x,y] }) z TI TO .ellipsis:=zP0 _ ze;refine zA0 (wpAny_setField_rec zf (by simp) fun hg zg sg=>?_)
 replace zg:IsZip hg z TI TO (rawInt he.objs.size):=zg
 refine wpAny_setField_rec zg (by simp) fun hi zi si=>?_
 replace zi:IsZip hi z TI TO (rawInt he.objs.size):=zi
 have up:∀c o,c≠z->he.get? c=some o->hi.get? c=some o:=fun c o c1 e=>si.extBut _ _ c1 (sg.extBut _ _ c1 (zP0 _ e))
 have Ti:IsPair hi he.objs.size x y:=si.extBut _ _ (qO0 zlt) (sg.extBut _ _ (qO0 zlt) (qA0 _ rfl));rw[sz]at zi Ti;refine zI0 ⟨_,rfl,zI0 ?_⟩;show Q (some (.ref he.objs.size)) _;rw[sz];exact hQ hi zi (up _ _ D.TOz TOe) (q1e.at (fun o e=>up _ o D.i1z e) (fun o e=>up _ o D.l1z e)) (q2e.at (fun o e=>up _ o D.i2z e) (fun o e=>up _ o D.l2z e)) Ti fun c o c1 c2 c3 c4 e=>up c o c1 (ke c o c1 c2 c3 c4 e)
theorem Db{z TI TO i1 i2 l1 l2:Addr}{k1 k2:Nat}{xs ys:Array Value}{a b:Value}{Q:Option Value->Shared->Prop}(hh:A.handled=none)(D:ZipApart z TI TO i1 i2 l1 l2)
 (hz:IsZip s.heap z TI TO .none) (hTI:IsPair s.heap TI (.ref i1) (.ref i2)) (hTO:IsPair s.heap TO a b) (h1:SqIt s.heap i1 l1 k1 xs) (h2:SqIt s.heap i2 l2 k2 ys) (hend:xs[k1]?=none∨ys[k2]?=none)
 (hQ:∀h',(∀c o,c≠z->c≠TO->c≠i1->c≠i2->s.heap.get? c=some o->h'.get? c=some o)->Q none { s with heap:=h' }):wpAny (model prog w) A (pyNext (.ref z)) Q E s:=by
 have hT:s.TypeIs (.ref z) "zip":=⟨_,hz,rfl⟩
 unfold pyNext;have hh1:A.in1.handled=none:=hh
 suffices hs:wpAny (model prog w) A.in1 (Builtin.«zip.__next__» ⟨[.ref z],[]⟩) (fun fin s'=>∃v,fin=.done (.ret v)/\False)
  (fun v s'=>∃h' e,v=.ref e/\s'={ s with heap:=h' }/\(∀c o,c≠z->c≠TO->c≠i1->c≠i2->s.heap.get? c=some o->h'.get? c=some o)/\∃o,h'.get? e=some o/\o.cls=.type "StopIteration") s by
  refine zA0 (wpAny_attempt (wpAny_callSpecial?_slot (name:=Str.ofString "__next__") hT F.slot_zip_next (wpAny_call_entry F.slot_zip_next hT F.entry_zip_next (wpAny_mono hs (fun _ _ h=>by obtain⟨_,_,f⟩:=h;exact f.elim) ?_) (F.args_zip_next_1 _))));rintro _ _ ⟨h',e,rfl,rfl,hk,o,ho,hc⟩;exact zA0 (wpAny_isInstance (T:="StopIteration") (b:=true) ⟨o,ho,hc⟩ isSubtype_stop (zI0 (hQ _ hk)))
 show wpAny _ _ (field (.ref z) 2 >>= _) _ _ _;refine zA0 (wpAny_field hz rfl (x:=.bool false) rfl ?_);show wpAny _ _ (field (.ref z) 3 >>= _) _ _ _;refine zA0 (wpAny_field hz rfl (x:=.ref TI) rfl (zA0 (wpAny_seqItems hTI rfl ?_)));show wpAny _ _ (Builtin.SmallTypes.ownedTupleIsFree (.ref z) >>= _) _ _ _;refine zA0 ?_;unfold Builtin.SmallTypes.ownedTupleIsFree;refine zA0 (wpAny_field hz rfl (x:=.none) rfl (zI0 ?_));simp only[if_true];refine zA0 (wpAny_rule (zA0 (wpAny_field hz rfl (x:=.ref TO) rfl (zA0 (wpAny_setField_rec hz (by simp) fun ha za sa=>zA0 ?_)))))
 replace za:IsZip ha z TI TO .ellipsis:=za
 simp only[List.zipIdx_cons,List.zipIdx_nil,List.forIn_cons,List.forIn_nil];refine zA0 (zA0 (wpAny_onRaise ?_));show wpAny _ _ (Builtin.SmallTypes.nextOf (.ref i1) >>= _) _ _ _;cases hx:xs[k1]? with
 | none=>
   refine zA0 (uD hh1 (h1.ext sa.extBut D.i1z D.l1z) hx fun hb e sb ⟨oe,hoe,hce⟩=>?_);have zb:IsZip hb z TI TO .ellipsis:=sb _ _ D.i1z.symm za;have ez:e≠z:=fun x=>by subst x;rw[zb]at hoe;cases hoe;simp at hce
   exact wpAny_setField_rec zb (by simp) fun hc _ sc=>⟨hc,e,rfl,rfl,fun c o c1 _ c3 _ x=>sc.extBut _ _ c1 (sb _ _ c3 (sa.extBut _ _ c1 x)),oe,sc.extBut _ _ ez hoe,hce⟩
 | some x=>
   have hy:ys[k2]?=none:=by
    rcases hend with h | h
    . rw[hx]at h;cases h
    . exact h
   refine zA0 (jQ (h1.ext sa.extBut D.i1z D.l1z) D.l1i1 hx fun hb q1 sb=>zI0 ?_);have TOb:IsPair hb TO a b:=sb.extBut _ _ D.TOi1 (sa.extBut _ _ D.TOz hTO);refine zA0 (wpAny_seqItems TOb rfl (zA0 (wpAny_updateSeq_pair TOb fun hc TOc sc=>?_)));refine zA0 (wpAny_letGo (zI0 (zA0 (zA0 (wpAny_onRaise ?_)))));show wpAny _ _ (Builtin.SmallTypes.nextOf (.ref i2) >>= _) _ _ _;refine zA0 (uD hh1 (((h2.ext sa.extBut D.i2z D.l2z).ext sb.extBut D.i12.symm D.l2i1).ext sc.extBut D.TOi2.symm D.l2TO) hy fun hd e sd ⟨oe,hoe,hce⟩=>?_);have zd:IsZip hd z TI TO .ellipsis:=sd _ _ D.i2z.symm (sc.extBut _ _ D.TOz.symm (sb.extBut _ _ D.i1z.symm za));have ez:e≠z:=fun x=>by subst x;rw[zd]at hoe;cases hoe;simp at hce
   exact wpAny_setField_rec zd (by simp) fun he _ se=>⟨he,e,rfl,rfl,fun c o c1 c2 c3 c4 x=>se.extBut _ _ c1 (sd _ _ c4 (sc.extBut _ _ c2 (sb.extBut _ _ c3 (sa.extBut _ _ c1 x)))),oe,se.extBut _ _ ez hoe,hce⟩
end
def itO (b:Bool) (l:Addr):Obj:={ cls:=.type (if b=true then "list_iterator" else "tuple_iterator"),data:=.fields #[.ref l,.int 0 0] }
def SqO(b:Bool)(h:Heap)(l:Addr)(xs:Array Value):Prop:=if b=true then h.IsList l xs else h.IsTuple l xs
abbrev zqH (h:Heap) (b1 b2:Bool) (l1 l2:Addr):Heap:=((((h.push (itO b1 l1)).push (itO b2 l2)).push { cls:=.type "tuple",data:=.seq #[.ref h.objs.size,.ref (h.push (itO b1 l1)).objs.size] }).push { cls:=.type "tuple",data:=.seq #[.none,.none] }).push
 { cls:=.type "zip",data:=.fields #[.none,.bool false,.bool false,.ref ((h.push (itO b1 l1)).push (itO b2 l2)).objs.size,.ref (((h.push (itO b1 l1)).push (itO b2 l2)).push { cls:=.type "tuple",data:=.seq #[.ref h.objs.size,.ref (h.push (itO b1 l1)).objs.size] }).objs.size] }
abbrev zqA (h:Heap) (b1 b2:Bool) (l1 l2:Addr):Addr:=((((h.push (itO b1 l1)).push (itO b2 l2)).push { cls:=.type "tuple",data:=.seq #[.ref h.objs.size,.ref (h.push (itO b1 l1)).objs.size] }).push { cls:=.type "tuple",data:=.seq #[.none,.none] }).objs.size
theorem yZ{b:Bool}{h:Heap}{l:Addr}{xs:Array Value}(q:SqO b h l xs)(o:Obj):SqO b (h.push o) l xs:=by
 cases b
 . exact Heap.IsTuple.at q fun o' e=>zP0 _ e
 . exact Heap.IsList.push q _
theorem sy{prog:Program}{w:World}{A:Around}{E:Value->Shared->Prop}{s:Shared}{b:Bool}{l:Addr}{xs:Array Value}{Q:Value->Shared->Prop}(q:SqO b s.heap l xs)(hQ:Q (.ref s.heap.objs.size) { s with heap:=s.heap.push (itO b l) }) :
 wpAny (model prog w) A (pyIter (.ref l)) Q E s:=by
 cases b
 . exact wpAny_pyIter_tuple (t:=l) (items:=xs) q hQ
 . exact wpAny_pyIter_list (l:=l) (items:=xs) q hQ
set_option maxHeartbeats 1000000 in
theorem At(b1 b2:Bool)(l1 l2:Addr)(xs ys:Array Value) :
 Meets (Builtin.«zip.__new__» ⟨[.type "zip",.ref l1,.ref l2],[]⟩) (fun _ R s=>SqO b1 s.heap l1 xs/\SqO b2 s.heap l2 ys/\
  R (.ok (.ret (.ref (zqA s.heap b1 b2 l1 l2)))) { s with heap:=zqH s.heap b1 b2 l1 l2 }):=
 .of_wp fun prog w A R s h=>by
  obtain⟨hp,g,d,tk,os⟩:=s;obtain⟨hl1,hl2,h⟩:=h;have hsub:=sub_zip;have hL1:SqO b1 (Shared.heap ⟨hp,g,d,tk,os⟩) l1 xs:=hl1;have hL2:SqO b2 (Shared.heap ⟨hp.push (itO b1 l1),g,d,tk,os⟩) l2 ys:=yZ hl2 _
  wp_walk using sy hL1,sy hL2
  exact⟨_,rfl,h⟩
section
variable {prog:Program} {w:World} {A:Around} {E:Value->Shared->Prop} {s:Shared}
theorem AG{b:Bool}{h h':Heap}{n l:Addr}{xs:Array Value}(e:h'.get? n=some (itO b l))(q:SqO b h l xs)(k:∀o,h.get? l=some o->h'.get? l=some o):SqIt h' n l 0 xs:=by
 cases b
 . exact .inr ⟨⟨_,e,rfl,rfl⟩,Heap.IsTuple.at q k⟩
 . exact .inl ⟨⟨_,e,rfl,rfl⟩,Heap.IsList.at q k⟩
theorem Cu{b1 b2:Bool}{l1 l2:Addr}{xs ys:Array Value}{Q:Value->Shared->Prop}(hl1:SqO b1 s.heap l1 xs)(hl2:SqO b2 s.heap l2 ys)
 (h:∀h',IsZip h' (s.heap.objs.size+4) (s.heap.objs.size+2) (s.heap.objs.size+3) .none->IsPair h' (s.heap.objs.size+2) (.ref s.heap.objs.size) (.ref (s.heap.objs.size+1)) ->
  IsPair h' (s.heap.objs.size+3) .none .none->SqIt h' s.heap.objs.size l1 0 xs->SqIt h' (s.heap.objs.size+1) l2 0 ys ->
  (∀c o,s.heap.get? c=some o->h'.get? c=some o)->Q (.ref (s.heap.objs.size+4)) { s with heap:=h' }) :
 wpAny (model prog w) A (call (.type "zip") [.ref l1,.ref l2]) Q E s:=by
 refine callType_new F.called_zip (by decide) (F.typeCall_zip_2 _ _) (F.newCall_zip_2 _ _) (fun obj=>F.args_object_init_3 obj _ _) F.entry_zip_new (At b1 b2 l1 l2 xs ys) ⟨hl1,hl2,?_⟩;have z1:∀(h:Heap)(o:Obj),(h.push o).objs.size=h.objs.size+1:=fun h o=>Heap.size_push ..
 have up:∀(h:Heap)(o:Obj)(c:Addr)(u:Obj),h.get? c=some u->(h.push o).get? c=some u:=fun h o c u e=>zP0 _ e
 have top:∀(h:Heap)(o:Obj)(n:Nat),o.isFreed=false->h.objs.size=n->(h.push o).get? n=some o:=fun h o n f e=>by rw[←e];exact qA0 _ f
 have f1:∀b l,(itO b l).isFreed=false:=fun _ _=>rfl
 show _/\_;have g1:(zqH s.heap b1 b2 l1 l2).get? s.heap.objs.size=some (itO b1 l1):=up _ _ _ _ (up _ _ _ _ (up _ _ _ _ (up _ _ _ _ (top _ _ _ (f1 _ _) rfl))));have g2:(zqH s.heap b1 b2 l1 l2).get? (s.heap.objs.size+1)=some (itO b2 l2):=up _ _ _ _ (up _ _ _ _ (up _ _ _ _ (top _ _ _ (f1 _ _) (z1 _ _))));have g3:IsPair (zqH s.heap b1 b2 l1 l2) (s.heap.objs.size+2) (.ref s.heap.objs.size) (.ref (s.heap.objs.size+1)):=by
  have:=up _ { cls:=.type "zip",data:=.fields #[.none,.bool false,.bool false,.ref ((s.heap.push (itO b1 l1)).push (itO b2 l2)).objs.size,.ref (((s.heap.push (itO b1 l1)).push (itO b2 l2)).push { cls:=.type "tuple",data:=.seq #[.ref s.heap.objs.size,.ref (s.heap.push (itO b1 l1)).objs.size] }).objs.size] } _ _ (up _ { cls:=.type "tuple",data:=.seq #[.none,.none] } _ _ (top ((s.heap.push (itO b1 l1)).push (itO b2 l2)) { cls:=.type "tuple",data:=.seq #[.ref s.heap.objs.size,.ref (s.heap.push (itO b1 l1)).objs.size] } (s.heap.objs.size+2) rfl (by rw[z1,z1])))
  exact this.trans (by rw[z1])
 have g4:IsPair (zqH s.heap b1 b2 l1 l2) (s.heap.objs.size+3) .none .none:=up _ _ _ _ (top _ _ _ rfl (by rw[z1,z1,z1]));have g5:IsZip (zqH s.heap b1 b2 l1 l2) (s.heap.objs.size+4) (s.heap.objs.size+2) (s.heap.objs.size+3) .none:=by
  have:=top ((((s.heap.push (itO b1 l1)).push (itO b2 l2)).push { cls:=.type "tuple",data:=.seq #[.ref s.heap.objs.size,.ref (s.heap.push (itO b1 l1)).objs.size] }).push { cls:=.type "tuple",data:=.seq #[.none,.none] })
   { cls:=.type "zip",data:=.fields #[.none,.bool false,.bool false,.ref ((s.heap.push (itO b1 l1)).push (itO b2 l2)).objs.size,.ref (((s.heap.push (itO b1 l1)).push (itO b2 l2)).push { cls:=.type "tuple",data:=.seq #[.ref s.heap.objs.size,.ref (s.heap.push (itO b1 l1)).objs.size] }).objs.size] } (s.heap.objs.size+4) rfl (by rw[z1,z1,z1,z1])
  exact this.trans (by simp only[z1])
 have ea:zqA s.heap b1 b2 l1 l2=s.heap.objs.size+4:=by simp only[zqA,z1]
 have keep:∀c o,s.heap.get? c=some o->(zqH s.heap b1 b2 l1 l2).get? c=some o:=fun c o e=>up _ _ _ _ (up _ _ _ _ (up _ _ _ _ (up _ _ _ _ (up _ _ _ _ e))))
 rw[ea];exact⟨⟨_,g5,rfl⟩,h _ g5 g3 g4 (AG g1 hl1 (keep _)) (AG g2 hl2 (keep _)) keep⟩
end
def SqB(K:W.Frag)(b:Bool)(H:Hp)(a:Addr)(xs:List V):Prop:=if b=true then SqL K H a xs else SqT K H a xs
theorem SqB.at{X:Cx}{pins:List (Addr×Obj)}{σ:St}{H:Hp}{s:Shared}{b:Bool}{a:Addr}{xs:List V}(I:Inv X pins σ H s)(q:SqB X.K b H a xs):∃its,Vals xs its/\SqO b s.heap a its.toArray/\a<s.heap.objs.size:=by
 cases b
 . obtain⟨its,rv,p,_⟩:=I.tuple q;exact⟨its,rv,p,p.lt⟩
 . obtain⟨its,rv,p,_⟩:=I.list q;exact⟨its,rv,p.isList,p.lt⟩
theorem zipAp{n l1 l2:Nat}(h1:l1<n)(h2:l2<n):ZipApart (n+4) (n+2) (n+3) n (n+1) l1 l2:=by
 constructor <;> exact fun y=>by
  have y':(_:Nat)=_:=y;omega
section
variable {X:Cx} {elts:List Expr} {k:Nat} {tpos:Pos}
theorem yF:bootBuiltins ("zip":Str)=some (.type "zip"):=by decide
end
section
variable {X:Cx}
def eI(z u:Str)(i:Int):Bool:=decide (PySem.fromIndex z.length i+u.length<=z.length)&&Builtin.Str.subAt z u (PySem.fromIndex z.length i)
inductive rStartsAt(x:V)(vs:List V)(H:Hp)(Q:VK):Prop where
 | mk:∀z u i,(x=.str z)->(vs=[.str u,.int i])->(Q (.bl (eI z u i)) H)->rStartsAt x vs H Q
theorem sX:MtR X "str.startswith" rStartsAt:=by
 intro pins s σ H x vs v us Q I rx rv h;obtain⟨z,u,i,rfl,rfl,q⟩:=h;obtain⟨t,rfl⟩:=rx;cases rv with
 | cons r1 rv1=>
   cases rv1 with
   | cons r2 rv2=>
     cases rv2;obtain⟨t1,rfl⟩:=r1;obtain⟨t2,rfl⟩:=r2;exact call_gives F.slot_str_startswith (typeIs_str _ _ _) F.entry_str_startswith (F.args_str_startswith_3 _ _ _) (gives_str_startswith_from z u i t t1 t2) ⟨.bl _,H,I,rfl,q⟩
end
abbrev jb(h:Heap)(z TI TO:Addr)(f0:Value)(b:Bool):Prop:=
 h.get? z=some { cls:=.type "zip",dict:=none,data:=.fields #[f0,.bool b,.bool false,.ref TI,.ref TO],slots:=#[] }
section
variable {prog:Program} {w:World} {A:Around} {E:Value->Shared->Prop} {s:Shared}
theorem rZ{a:Addr}{Q:Option Obj->Shared->Prop}(h:Q (s.heap.get? a) s):wpAny (model prog w) A (loadIfAlive a) Q E s:=fun Γ p _=>by
 unfold loadIfAlive;rw[Sem.wp_loadIfAlive];exact h
theorem mK{z TI TO t:Addr}{b:Bool}{ob:Obj}{Q:Bool->Shared->Prop}(hz:jb s.heap z TI TO (rawInt t) b)(ht:s.heap.get? t=some ob)
 (hQ:∀h',jb h' z TI TO (rawInt t) true->Heap.SameBut z s.heap h'->Q false { s with heap:=h' }):wpAny (model prog w) A (Builtin.SmallTypes.ownedTupleIsFree (.ref z)) Q E s:=by
 unfold Builtin.SmallTypes.ownedTupleIsFree;refine zA0 (wpAny_field hz rfl (x:=rawInt t) rfl ?_);show wpAny _ _ (loadIfAlive (Int.toNat (t:Int)) >>= _) _ _ _;rw[qQ0];refine zA0 (rZ ?_);rw[ht];simp only[Option.isNone_some,Bool.false_eq_true,if_false];refine zA0 (wpAny_field hz rfl (x:=.bool b) rfl ?_);cases b with
 | true=>
   rw[zB0 (by decide)];exact zI0 (hQ s.heap hz (Heap.SameBut.refl _ _))
 | false=>
   rw[zE0 (by decide)];refine zA0 (wpAny_setField_rec hz (by simp) fun ha za sa=>zI0 ?_);exact hQ ha za sa
theorem Bo{z TI TO i1 i2 l1 l2 t:Addr}{k1 k2:Nat}{xs ys:Array Value}{x y:Value}{b:Bool}{ob:Obj}{Q:Option Value->Shared->Prop}(D:ZipApart z TI TO i1 i2 l1 l2)
 (hz:jb s.heap z TI TO (rawInt t) b) (ht:s.heap.get? t=some ob) (hTI:IsPair s.heap TI (.ref i1) (.ref i2)) (h1:SqIt s.heap i1 l1 k1 xs) (h2:SqIt s.heap i2 l2 k2 ys) (hx:xs[k1]?=some x) (hy:ys[k2]?=some y)
 (hQ:∀h',jb h' z TI TO (rawInt t) true->SqIt h' i1 l1 (k1+1) xs->SqIt h' i2 l2 (k2+1) ys->IsPair h' s.heap.objs.size x y ->
  (∀c o,c≠z->c≠i1->c≠i2->s.heap.get? c=some o->h'.get? c=some o)->Q (some (.ref s.heap.objs.size)) { s with heap:=h' }) :
 wpAny (model prog w) A (pyNext (.ref z)) Q E s:=by
 have hT:s.TypeIs (.ref z) "zip":=⟨_,hz,rfl⟩
 unfold pyNext;refine zA0 (wpAny_attempt (wpAny_callSpecial?_slot (name:=Str.ofString "__next__") hT F.slot_zip_next (wpAny_call_entry F.slot_zip_next hT F.entry_zip_next ?_ (F.args_zip_next_1 _))));show wpAny _ _ (field (.ref z) 2 >>= _) _ _ _;refine zA0 (wpAny_field hz rfl (x:=.bool false) rfl ?_);show wpAny _ _ (field (.ref z) 3 >>= _) _ _ _;refine zA0 (wpAny_field hz rfl (x:=.ref TI) rfl (zA0 (wpAny_seqItems hTI rfl ?_)));show wpAny _ _ (Builtin.SmallTypes.ownedTupleIsFree (.ref z) >>= _) _ _ _;refine zA0 (mK hz ht fun ha za sa=>?_);simp only[Bool.false_eq_true,if_false];refine zA0 ?_;rw[←Array.forIn_toList];simp only[List.forIn_cons,List.forIn_nil];refine zA0 (zA0 (wpAny_holding ?_));show wpAny _ _ (Builtin.SmallTypes.nextOf (.ref i1) >>= _) _ _ _;refine zA0 (jQ (h1.ext sa.extBut D.i1z D.l1z) D.l1i1 hx fun hb q1 sb=>zI0 ?_);refine zI0 (zA0 (zA0 (wpAny_holding ?_)));show wpAny _ _ (Builtin.SmallTypes.nextOf (.ref i2) >>= _) _ _ _;refine zA0 (jQ ((h2.ext sa.extBut D.i2z D.l2z).ext sb.extBut D.i12.symm D.l2i1) D.l2i2 hy fun hd q2 sd=>zI0 ?_);refine zI0 (zI0 (zA0 (wpAny_newTuple (hsz:=by show 2<=sizeLine;decide) ?_)));have sz:hd.objs.size=s.heap.objs.size:=by rw[sd.1,sb.1,sa.1]
 have zd:jb hd z TI TO (rawInt t) true:=sd.extBut _ _ D.i2z.symm (sb.extBut _ _ D.i1z.symm za);have q1d:=q1.ext sd.extBut D.i12 D.l1i2;have up:∀c o,hd.get? c=some o->(hd.push { cls:=.type "tuple",data:=.seq #[x,y] }).get? c=some o:=fun c o e=>zP0 _ e
 refine zI0 ⟨_,rfl,zI0 ?_⟩;show Q (some (.ref hd.objs.size)) _;rw[sz];refine hQ _ (up _ _ zd) (q1d.at (fun o e=>up _ o e) (fun o e=>up _ o e)) (q2.at (fun o e=>up _ o e) (fun o e=>up _ o e)) ?_ fun c o c1 c2 c3 e=>up _ _ (sd.extBut _ _ c3 (sb.extBut _ _ c2 (sa.extBut _ _ c1 e)))
 rw[←sz];exact qA0 _ rfl
theorem Dc{z TI TO i1 i2 l1 l2 t:Addr}{k1:Nat}{xs:Array Value}{b:Bool}{ob:Obj}{Q:Option Value->Shared->Prop}(hh:A.handled=none)(D:ZipApart z TI TO i1 i2 l1 l2)
 (hz:jb s.heap z TI TO (rawInt t) b) (ht:s.heap.get? t=some ob) (hTI:IsPair s.heap TI (.ref i1) (.ref i2)) (h1:SqIt s.heap i1 l1 k1 xs) (hx:xs[k1]?=none)
 (hQ:∀h',(∀c o,c≠z->c≠i1->c≠i2->s.heap.get? c=some o->h'.get? c=some o)->Q none { s with heap:=h' }):wpAny (model prog w) A (pyNext (.ref z)) Q E s:=by
 have hT:s.TypeIs (.ref z) "zip":=⟨_,hz,rfl⟩
 unfold pyNext;have hh1:A.in1.handled=none:=hh
 suffices hs:wpAny (model prog w) A.in1 (Builtin.«zip.__next__» ⟨[.ref z],[]⟩) (fun fin s'=>∃v,fin=.done (.ret v)/\False)
  (fun v s'=>∃h' e,v=.ref e/\s'={ s with heap:=h' }/\(∀c o,c≠z->c≠i1->c≠i2->s.heap.get? c=some o->h'.get? c=some o)/\∃o,h'.get? e=some o/\o.cls=.type "StopIteration") s by
  refine zA0 (wpAny_attempt (wpAny_callSpecial?_slot (name:=Str.ofString "__next__") hT F.slot_zip_next (wpAny_call_entry F.slot_zip_next hT F.entry_zip_next (wpAny_mono hs (fun _ _ h=>by obtain⟨_,_,f⟩:=h;exact f.elim) ?_) (F.args_zip_next_1 _))));rintro _ _ ⟨h',e,rfl,rfl,hk,o,ho,hc⟩;exact zA0 (wpAny_isInstance (T:="StopIteration") (b:=true) ⟨o,ho,hc⟩ isSubtype_stop (zI0 (hQ _ hk)))
 show wpAny _ _ (field (.ref z) 2 >>= _) _ _ _;refine zA0 (wpAny_field hz rfl (x:=.bool false) rfl ?_);show wpAny _ _ (field (.ref z) 3 >>= _) _ _ _;refine zA0 (wpAny_field hz rfl (x:=.ref TI) rfl (zA0 (wpAny_seqItems hTI rfl ?_)));show wpAny _ _ (Builtin.SmallTypes.ownedTupleIsFree (.ref z) >>= _) _ _ _;refine zA0 (mK hz ht fun ha za sa=>?_);simp only[Bool.false_eq_true,if_false];refine zA0 ?_;rw[←Array.forIn_toList];simp only[List.forIn_cons,List.forIn_nil];refine zA0 (zA0 (wpAny_holding ?_));show wpAny _ _ (Builtin.SmallTypes.nextOf (.ref i1) >>= _) _ _ _;refine zA0 (uD hh1 (h1.ext sa.extBut D.i1z D.l1z) hx fun hb e sb hoe=>?_);exact⟨hb,e,rfl,rfl,fun c o c1 c3 _ x=>sb _ _ c3 (sa.extBut _ _ c1 x),hoe⟩
end
def EC(K:W.Frag)(a:Addr)(xs:List V):It:=⟨fun i H=>SqT K H a xs/\i<xs.length,fun i H y H'=>H'=H/\xs.reverse[i]?=some y,fun i _=>xs.length<=i⟩
theorem RevT.keep{h h':Heap}{it t:Addr}{i:Int}(x:RevT h it t i)(k:∀o,h.get? it=some o->h'.get? it=some o):RevT h' it t i:=k _ x
theorem wZ{P:Program}{w:World}{K:W.Frag}{tg:Expr}(a it:Addr)(xs:List V):Turn P w K tg (EC K a xs) [it] it (fun i h=>i<=xs.length/\RevT h it a ((xs.length:Int)-1-(i:Int))) where
 mem:=by simp
 obj:=fun i h st b hb=>by
  have e:b=it:=by simpa using hb
  subst e;exact⟨_,st.2,fun v z=>by cases z⟩
 keep:=fun i h h' st k=>⟨st.1,st.2.keep fun o e=>k it (by simp) o e⟩
 item:=by
  intro X hP hw hK hc i pins s σ H E I hf st hg;subst hP hw hK;obtain⟨hq,hi⟩:=hg;obtain⟨its,rv,p,hz⟩:=I.tuple hq;have hj:xs.length-1-i<xs.length:=by omega
  have hx:xs[xs.length-1-i]?=some xs[xs.length-1-i]:=zR0 hj;obtain⟨u,hu,ru⟩:=rv.get hx;obtain⟨f0,f1,f2,f3,f4,f5⟩:=hf it (by simp);obtain⟨_,hit⟩:=st;have e1:((xs.length:Int)-1-(i:Int))=((xs.length-1-i:Nat):Int):=by omega
  rw[e1]at hit;have h63:=ig;refine oF hit p (x:=u) (by simpa using hu) (by omega) fun h' tk st' sb=>?_
  have I1:Inv X pins σ H { s with heap:=h',toks:=tk }:=I.turned (t':=tk) (fun b o hb e=>(sb.2 b hb).trans e) f0 f1 f3 f4 f5;have e2:((xs.length-1-i:Nat):Int)-1=(xs.length:Int)-1-((i+1:Nat):Int):=by omega
  rw[e2]at st';refine⟨u,rfl,tI (s:={ s with heap:=h',toks:=tk }) st' rfl rfl (by decide) ⟨xs[xs.length-1-i],H,I1,ru,⟨rfl,?_⟩,⟨by omega,st'⟩,fun b hb=>(hf b hb).1⟩⟩;rw[List.getElem?_reverse hi,hx]
 done:=by
  intro X hP hw hK hc i pins s σ H E I hf st hg;subst hP hw hK;have hg:xs.length<=i:=hg;obtain⟨f0,f1,f2,f3,f4,f5⟩:=hf it (by simp);obtain⟨hi,hit⟩:=st;have e1:(xs.length:Int)-1-(i:Int)=-1:=by omega
  rw[e1]at hit;exact pM (I.ok.hd hc) hit fun h' tk eb=>⟨rfl,I.turned (t':=tk) (fun b o hb e=>eb b o hb e) f0 f1 f3 f4 f5⟩
 self:=fun _ _ _ _ _ st h=>qf st.2 h
def CB(K:W.Frag)(c:Bool)(a:Addr)(xs:List V):It:=if c=true then ItV K a xs else EC K a xs
section
variable {X:Cx} {tg:Expr}
inductive ZiRevB(K:W.Frag)(R:(It->Hp->Prop))(x:V)(H1:Hp):Prop where
 | mk:∀c a xs,(x=.ref a)->(SqB K c H1 a xs)->(R (CB K c a xs) H1)->ZiRevB K R x H1
def iRevB(K:W.Frag)(tl:TE):TI:=fun σ H R=>tl σ H fun x H1=>ZiRevB K R x H1
theorem wF {l:Expr} {tl:TE} {p pos:Pos} (hg:Gl X "reversed") (hm:X.mg "reversed"=none) (hl:PE X l tl) (hs:starEach [l] X.env=[(false,eval l X.env)]:=by rfl) :
 PI X tg (.Call (.Name "reversed" p) [l] [] pos) (iRevB X.K tl):=by
 intro pins s σ H R I h;refine wpAny_Call_Name_kw (eT I hg hm pe ?_);refine PyProof.Rows.callWith_type1 ?_ hs rfl;rw[hs];show wpAny _ _ (spliced ((false,eval l X.env)::backTo pos (starEach [] X.env))) _ _ s;refine Calls.spliced_cons (thn (hl pins s σ H _ I h) fun u s1 ⟨x,H1,I1,r1,c,a,xs,ex,hq,q⟩=>?_);subst ex;cases r1;refine Calls.spliced_nil ?_;cases c with
 | true=>
   have hq:SqL X.K H1 a xs:=hq;have q:R (ItV X.K a xs) H1:=q;obtain⟨its,rv,p,hz⟩:=I1.list hq;have hlen:=rv.length;refine call_reversed_list p.isList ?_;have hr:(s1.heap.push (revObj a ((its.toArray.size:Int)-1))).IsRevIter s1.heap.objs.size a ((xs.length:Int)-1-((0:Nat):Int)):=by
    have e:(xs.length:Int)-1-((0:Nat):Int)=(its.toArray.size:Int)-1:=by rw[zS0];omega
    rw[e];exact⟨_,qA0 _ rfl,rfl,rfl⟩
   refine wpAny_pyIter_revIter hr ?_;refine⟨s1.heap.objs.size,[s1.heap.objs.size],_,_,H1,rfl,I1.kept (t':=s1.toks) fun b o e=>zP0 _ e,wY a _ xs,⟨zW0 _,hr⟩,fun b hb=>?_,q⟩;have e:b=s1.heap.objs.size:=by simpa using hb
   subst e;exact I1.fpOk (zH0 _) (I1.hok.fresh (zH0 _))
 | false=>
   have hq:SqT X.K H1 a xs:=hq;have q:R (EC X.K a xs) H1:=q;obtain⟨its,rv,p,hz⟩:=I1.tuple hq;have hlen:=rv.length;refine kH p (by rw[zS0,←rv.length];exact hz) fun tk=>?_
   have hr:RevT (s1.heap.push { cls:=.type "reversed",data:=.fields #[.ref a,rawInt ((its.toArray.size:Int)-1)] }) s1.heap.objs.size a ((xs.length:Int)-1-((0:Nat):Int)):=by
    have e:(xs.length:Int)-1-((0:Nat):Int)=(its.toArray.size:Int)-1:=by rw[zS0];omega
    rw[e];exact qA0 _ rfl
   refine qf hr ?_;refine⟨s1.heap.objs.size,[s1.heap.objs.size],_,_,H1,rfl,I1.kept (t':=tk) fun b o e=>zP0 _ e,wZ a _ xs,⟨zW0 _,hr⟩,fun b hb=>?_,q⟩;have e:b=s1.heap.objs.size:=by simpa using hb
   subst e;exact I1.fpOk (zH0 _) (I1.hok.fresh (zH0 _))
end
theorem tL{K:W.Frag}{c:Bool}{a:Addr}{xs:List V}{g:TG}{tb:TS}{D:Ends}{σ:St}{H:Hp}(Pv:Nat->St->Hp->Prop)(h0:Pv 0 σ H)(hl:∀i σ H,i<=xs.length->Pv i σ H->SqB K c H a xs)
 (hs:∀i x σ H,i<xs.length->xs.reverse[i]?=some x->Pv i σ H->g x σ H fun σ2 H2=>tb { D with nx:=Pv (i+1),ct:=Pv (i+1),bk:=D.nx } σ2 H2) (hd:∀ σ H,Pv xs.length σ H->D.nx σ H) :
 ∃ W:Nat->Nat->St->Hp->Prop,(∃m,W 0 m σ H)/\∀i m σ H,W i m σ H ->
  ((CB K c a xs).stop i H/\D.nx σ H)∨((CB K c a xs).go i H/\∃N:St->Hp->Prop,(∀ σ' H',N σ' H'->∃m',m'<m/\W (i+1) m' σ' H')/\∀x H',(CB K c a xs).yld i H x H'->g x σ H' fun σ2 H2=>tb { D with nx:=N,ct:=N,bk:=D.nx } σ2 H2):=by
 cases c with
 | true=>exact AS Pv h0 hl hs hd
 | false=>
   refine⟨fun i m σ H=>m=xs.length-i/\i<=xs.length/\Pv i σ H,⟨xs.length,by simp,zW0 _,h0⟩,?_⟩;rintro i m σ H ⟨rfl,hi,p⟩;have q:=hl i σ H hi p
   by_cases hlt:i<xs.length
   . refine .inr ⟨⟨q,hlt⟩,Pv (i+1),fun σ' H' p'=>⟨xs.length-(i+1),by omega,rfl,hlt,p'⟩,fun x H' y=>?_⟩;obtain⟨e,ex⟩:=y;subst e;exact hs i x σ _ hlt ex p
   . have e:i=xs.length:=by omega
     subst e;exact .inl ⟨zH0 _,hd σ H p⟩
theorem rX:typeLookup (.type "zip") "keys"=pure none:=by rw[typeLookup_type,builtinLookup_eq_fast];kernel_rfl
theorem kM:typeLookup (.type "zip") "__getattr__"=pure none:=by rw[typeLookup_type,builtinLookup_eq_fast];kernel_rfl
theorem im:entryFor table "zip.__getattribute__"=some Builtin.«object.__getattribute__»:=entryFor_alias (id':="object.__getattribute__") (by kernel_rfl) (by decide) (by decide) (by kernel_rfl)
theorem oI (a:Addr) (fs:Array Value) (name:Str) (u:Tok) (hmiss:typeLookup (.type "zip") name=pure none) (hname:(["__module__","__name__","__qualname__","__doc__","__annotations__"]:List Str).contains name=false) (hsz:name.length+100<=sizeLine:=by size_fits) :
 Meets (Builtin.«object.__getattribute__» ⟨[.ref a,.str name u],[]⟩) (fun A R s=>s.heap.get? a=some { cls:=.type "zip",dict:=none,data:=.fields fs,slots:=#[] }/\raisesAttr (.ref a) name A R s):=
 Meets.of_wp fun prog w A R s hs=>by
  obtain⟨hp,g,d,tk,os⟩:=s;obtain⟨hx,hs⟩:=hs;have hT:(⟨hp,g,d,tk,os⟩:Shared).TypeIs (.ref a) "zip":=⟨_,hx,rfl⟩
  unfold Builtin.«object.__getattribute__»
  repeat (any_goals (first | assumption | wp_step))
  simp only[hname,Bool.false_eq_true,if_false]
  repeat (any_goals (first | assumption | wp_step))
  exact wpAny_raiseAttrError hs.1 hs.2 (attrMsg_fits (by decide) hsz)
section
variable {prog:Program} {w:World} {A:Around} {E:Value->Shared->Prop} {s:Shared}
theorem Cd {a:Addr} {fs:Array Value} {Q:Option Value->Shared->Prop} (hx:s.heap.get? a=some { cls:=.type "zip",dict:=none,data:=.fields fs,slots:=#[] }) (hA:A.handled=none)
 (h:∀h' tk,(∀b o,s.heap.get? b=some o->h'.get? b=some o)->Q none { s with heap:=h',toks:=tk }):wpAny (model prog w) A (getAttr? (.ref a) "keys") Q E s:=by
 obtain⟨hp,g,d,tk,os⟩:=s;have hT:∀tk',(⟨hp,g,d,tk',os⟩:Shared).TypeIs (.ref a) "zip":=fun _=>⟨_,hx,rfl⟩
 have f1:=sub_AttributeError;have f3:=F.slot_zip_getattribute.lookup;have f4:=F.slot_zip_getattribute.bind (.ref a);have f5:=kM;unfold getAttr? getAttrBy? getAttrBy
 repeat (any_goals (first | assumption | exact hT _ | ((with_reducible show wpAny _ _ (call (Value.builtin "zip.__getattribute__") _ _) _ _ _);refine call_meets F.slot_zip_getattribute (hT _) im (F.args_zip_getattribute_2 _ _) (oI a fs "keys" _ rX (by decide) (by decide)) ⟨hx,hA,fun h' tk' e hx'=>?_⟩) | wp_step))
 obtain⟨t',u',he⟩:=hx'.there;show wpAny _ _ (getattributeRaised _ _ _ _ _ _ _) _ _ _;unfold getattributeRaised
 repeat (any_goals (first | assumption | wp_step))
 exact h _ _ hx'.keeps
theorem gD:entryFor table "dict.update.loop"=some Builtin.«dict.update.loop»:=entryFor_of_tree (by kernel_rfl)
theorem cX:plainId "dict.update.loop"=true:=by decide
theorem uC{vs:List (Key×Value)}{k:Key}{v:Value}:(stored vs k v).length<=vs.length+1:=by
 unfold stored
 split
 . rw[zF0];exact qL0 _
 . rw[zJ0,qN0];exact zH0 _
def ZS(d z TI TO i1 i2:Addr)(i:Nat)(h:Heap):Prop:=((i=0/\IsZip h z TI TO .none)∨∃(t:Addr)(f:Bool)(ob:Obj),jb h z TI TO (rawInt t) f/\h.get? t=some ob/\t∉[d,z,TO,i1,i2])/\IsPair h TI (.ref i1) (.ref i2)/\∃p q,IsPair h TO p q
theorem Cs{d z TI TO i1 i2 l1 l2:Addr}{xs ys:Array Value}{rs:List (Key×Value)}{R:Result->Shared->Prop}(hh:A.handled=none)(D:ZipApart z TI TO i1 i2 l1 l2)(dn:d∉[z,TI,TO,i1,i2,l1,l2])(hl:xs.size=rs.length)
 (hk:∀(j:Nat)(kv:Key×Value),rs[j]?=some kv->∃ky,xs[j]?=some ky/\ys[j]?=some kv.2/\(aY prog w).is kv.1 ky=true) :
 ∀(k i:Nat)(s:Shared)(kvs:List (Key×Value)),rs.length-i=k->i<=rs.length->ZS d z TI TO i1 i2 i s.heap->SqIt s.heap i1 l1 i xs->SqIt s.heap i2 l2 i ys->s.heap.DictOf (aY prog w) d kvs->kvs.length+k<=sizeLine ->
  (∀h' tk,h'.DictOf (aY prog w) d (merged kvs (rs.drop i))->(∀b o,b∉[d,z,TO,i1,i2]->s.heap.get? b=some o->h'.get? b=some o)->R (.ok (.ret .none)) { s with heap:=h',toks:=tk }) ->
  codeAny (model prog w) A (.builtin "dict.update.loop" ⟨[.ref d,.ref z,.int i 0,.none],[]⟩) R s:=by
 have dz:d≠z:=fun e=>dn (by simp [e])
 have dTI:d≠TI:=fun e=>dn (by simp [e])
 have dTO:d≠TO:=fun e=>dn (by simp [e])
 have d1:d≠i1:=fun e=>dn (by simp [e])
 have d2:d≠i2:=fun e=>dn (by simp [e])
 have dl1:d≠l1:=fun e=>dn (by simp [e])
 have dl2:d≠l2:=fun e=>dn (by simp [e])
 intro k
 induction k with
 | zero=>
   intro i s kvs hk0 hi zs q1 q2 hd hz hR;have hin:i=rs.length:=by omega
   refine codeAny_builtin gD ?_;rw[Around.under_plainId cX _];show wpAny _ A.in1 (pyNext (.ref z) >>= _) _ _ s;have hx:xs[i]?=none:=Array.getElem?_eq_none (by omega);have fin:∀h',(∀c o,c≠z->c≠TO->c≠i1->c≠i2->s.heap.get? c=some o->h'.get? c=some o)->R (.ok (.ret .none)) { s with heap:=h' }:=fun h' kp=>by
    refine hR h' s.toks ?_ fun b o nb e=>kp b o (fun y=>nb (by simp [y])) (fun y=>nb (by simp [y])) (fun y=>nb (by simp [y])) (fun y=>nb (by simp [y])) e
    rw[hin,List.drop_length];obtain⟨o,es,ep,e,r⟩:=hd;exact⟨o,es,ep,kp _ _ dz dTO d1 d2 e,r⟩
   obtain⟨hz',hTI,⟨p,q,hTO⟩⟩:=zs;rcases hz' with⟨_,hz'⟩ | ⟨t,f,ob,hz',ht,_⟩
   . refine zA0 (Db (A:=A.in1) hh D hz' hTI hTO q1 q2 (.inl hx) fun h' kp=>?_);show wpAny _ A.in1 (Builtin.Dict.addKeywords d [] >>= _) _ _ _;exact zA0 (zI0 (zI0 (fin h' kp)))
   . refine zA0 (Dc (A:=A.in1) hh D hz' ht hTI q1 hx fun h' kp=>?_);show wpAny _ A.in1 (Builtin.Dict.addKeywords d [] >>= _) _ _ _;exact zA0 (zI0 (zI0 (fin h' fun c o n1 n2 n3 n4 e=>kp c o n1 n3 n4 e)))
 | succ k ih=>
   intro i s kvs hk0 hi zs q1 q2 hd hz hR;have hlt:i<rs.length:=by omega
   obtain ⟨ky,hx,hy,hkey⟩:=hk i rs[i] (zR0 hlt);refine codeAny_builtin gD ?_;rw[Around.under_plainId cX _];show wpAny _ A.in1 (pyNext (.ref z) >>= _) _ _ s;have dlt:d<s.heap.objs.size:=by
    obtain⟨_,_,_,e,_⟩:=hd;exact zN0 e
   have sfr:s.heap.get? s.heap.objs.size=none:=by
    cases e:s.heap.get? s.heap.objs.size with
    | none=>rfl
    | some o=>exact absurd (zN0 e) (qV0 _)
   have step:∀ha,(∃(t:Addr)(f:Bool)(ob:Obj),jb ha z TI TO (rawInt t) f/\ha.get? t=some ob/\t∉[d,z,TO,i1,i2])->IsPair ha TI (.ref i1) (.ref i2)->(∃p q,IsPair ha TO p q)->SqIt ha i1 l1 (i+1) xs->SqIt ha i2 l2 (i+1) ys->IsPair ha s.heap.objs.size ky rs[i].2 ->
    (∀c o,c≠z->c≠TO->c≠i1->c≠i2->s.heap.get? c=some o->ha.get? c=some o) ->
    wpAny (model prog w) A.in1 (holding [Value.ref s.heap.objs.size] (do
     let pair ←(Builtin.Dict.pairItems (.ref s.heap.objs.size)).tryCatch fun e=>do
      if !(←isInstance e (.type "TypeError"))then throw e
      rule "dict.update.element-no-sequence"
      raiseError "TypeError" s!"cannot convert dictionary update sequence element #{(i : Int)} to a sequence"
     match pair with
     | [k,v]=>holding [k,v] (dictSet d k v)
     | l=>
       rule "dict.update.element-length"
       raiseError "ValueError" s!"dictionary update sequence element #{(i : Int)} has length {l.length}; 2 is required") >>= fun _=>again (.builtin "dict.update.loop" ⟨[.ref d,.ref z,rawInt ((i:Int)+1),.none],[]⟩))
     (fun fin s'=>match fin with | .done f=>R (.ok f) s' | .again c'=>c'.quiet=true/\codeAny (model prog w) A c' R s') (fun e s'=>R (.error e) s') { s with heap:=ha }:=fun ha za hTIa hTOa g1 g2 pr kp=>by
    refine zA0 (wpAny_holding ?_);refine zA0 ?_;have hT:Shared.TypeIs { s with heap:=ha } (.ref s.heap.objs.size) "tuple":=⟨_,pr,rfl⟩
    refine wpAny_tryCatch ?_;unfold Builtin.Dict.pairItems;refine zA0 (wpAny_typeOf hT ?_);rw[zE0 (by decide)];refine zA0 (wpAny_seqItems pr rfl (zI0 ?_));show wpAny _ A.in1 (holding [ky,rs[i].2] (dictSet d ky rs[i].2)) _ _ _;have hda:ha.DictOf (aY prog w) d kvs:=by
     obtain⟨o,es,ep,e,r⟩:=hd;exact⟨o,es,ep,kp _ _ dz dTO d1 d2 e,r⟩
    refine wpAny_holding (wpAny_dictSet_pairs (knd:=aY prog w) (hsz:=by omega) hkey hda fun hb hdb sb=>?_);refine zI0 ⟨plainId_quiet cX _,?_⟩;have ii:((i:Int)+1)=((i+1:Nat):Int):=by omega
    show codeAny _ A (.builtin "dict.update.loop" ⟨[.ref d,.ref z,.int ((i:Int)+1) 0,.none],[]⟩) R _;rw[ii];obtain⟨t,f,ob,hzt,ht,tn⟩:=za;obtain⟨p,q,hTO⟩:=hTOa;refine ih (i+1) _ (stored kvs rs[i].1 rs[i].2) (by omega) (by omega) ⟨.inr ⟨t,f,ob,sb.extBut _ _ (Ne.symm dz) hzt,sb.extBut _ _ (fun y=>tn (by simp [y])) ht,tn⟩,sb.extBut _ _ (Ne.symm dTI) hTIa,p,q,sb.extBut _ _ (Ne.symm dTO) hTO⟩ (g1.ext sb.extBut (Ne.symm d1) (Ne.symm dl1)) (g2.ext sb.extBut (Ne.symm d2) (Ne.symm dl2)) hdb (by have:=uC (vs:=kvs) (k:=rs[i].1) (v:=rs[i].2);omega) fun h' tk hd' kp'=>?_
    refine hR h' tk ?_ fun b o nb e=>kp' b o nb (sb.extBut _ _ (fun y=>nb (by simp [y])) (kp b o (fun y=>nb (by simp [y])) (fun y=>nb (by simp [y])) (fun y=>nb (by simp [y])) (fun y=>nb (by simp [y])) e))
    rw[List.drop_eq_getElem_cons hlt];exact hd'
   have lts:∀{c:Addr}{o:Obj},s.heap.get? c=some o->s.heap.objs.size≠c:=fun{c o} e y=>by rw[←y,sfr]at e;cases e
   obtain ⟨hz',hTI,⟨p,q,hTO⟩⟩:=zs;have ns:∀{zo:Obj},s.heap.get? z=some zo->s.heap.objs.size∉[d,z,TO,i1,i2]:=fun{zo} ez hm=>by
    simp only[List.mem_cons,List.not_mem_nil,or_false]at hm;obtain⟨o1,e1,_⟩:=q1.obj;obtain⟨o2,e2,_⟩:=q2.obj;rcases hm with h | h | h | h | h
    . exact absurd h (qO0 dlt)
    . exact lts ez h
    . exact lts hTO h
    . exact lts e1 h
    . exact lts e2 h
   rcases hz' with⟨_,hz'⟩ | ⟨t,f,ob,hz',ht,tn⟩
   . refine zA0 (Bn D hz' hTI hTO q1 q2 hx hy fun h' z1 TO1 g1 g2 T1 k1=>?_);exact step h' ⟨_,_,_,z1,T1,ns hz'⟩ (k1 _ _ D.TIz D.TITO D.TIi1 D.TIi2 hTI) ⟨_,_,TO1⟩ g1 g2 T1 k1
   . refine zA0 (Bo D hz' ht hTI q1 q2 hx hy fun h' z1 g1 g2 T1 k1=>?_);exact step h' ⟨t,_,ob,z1,k1 _ _ (fun y=>tn (by simp [y])) (fun y=>tn (by simp [y])) (fun y=>tn (by simp [y])) ht,tn⟩ (k1 _ _ D.TIz D.TIi1 D.TIi2 hTI) ⟨p,q,k1 _ _ D.TOz D.TOi1 D.TOi2 hTO⟩ g1 g2 T1 fun c o n1 n2 n3 n4 e=>k1 c o n1 n3 n4 e
theorem pO{z TI TO i1 i2 l1 l2:Addr}{xs ys:Array Value}{rs:List (Key×Value)}{p q:Value}{Q:Value->Shared->Prop}(hh:A.handled=none)(D:ZipApart z TI TO i1 i2 l1 l2)(hz:IsZip s.heap z TI TO .none)(hTI:IsPair s.heap TI (.ref i1) (.ref i2))(hTO:IsPair s.heap TO p q)
 (q1:SqIt s.heap i1 l1 0 xs) (q2:SqIt s.heap i2 l2 0 ys) (ll1:l1<s.heap.objs.size) (ll2:l2<s.heap.objs.size) (hl:xs.size=rs.length) (hk:∀(j:Nat)(kv:Key×Value),rs[j]?=some kv->∃ky,xs[j]?=some ky/\ys[j]?=some kv.2/\(aY prog w).is kv.1 ky=true) (hn:rs.length<=sizeLine)
 (h:∀h' tk,h'.DictOf (aY prog w) s.heap.objs.size (merged [] rs)->(∀b o,b∉[z,TO,i1,i2]->s.heap.get? b=some o->h'.get? b=some o)->Q (.ref s.heap.objs.size) { s with heap:=h',toks:=tk }) :
 wpAny (model prog w) A (call (.type "dict") [.ref z]) Q E s:=by
 refine callType_codes (Q₁:=fun obj s₁=>obj=.ref s.heap.objs.size/\s₁={ s with heap:=s.heap.push { cls:=.type "dict",data:=.dict #[] } }) F.kt_called_dict (F.kt_typeCall_dict_1 _) F.entry_dict_init (kt_code_dict_new _ ⟨rfl,rfl⟩) ?_;rintro obj s₁ ⟨rfl,rfl⟩;have hnew:(s.heap.push { cls:=.type "dict",data:=.dict #[] }).DictOf (aY prog w) s.heap.objs.size []:=Heap.DictOf.new s.heap;have up:∀b o,s.heap.get? b=some o->(s.heap.push { cls:=.type "dict",data:=.dict #[] }).get? b=some o:=fun b o e=>zP0 _ e
 have lt:∀{b o},s.heap.get? b=some o->b<s.heap.objs.size:=fun e=>zN0 e
 refine ⟨hnew.typeIs,F.args_dict_init_2 _ _,?_⟩;unfold Builtin.«dict.__init__»;refine zA0 ?_;unfold Builtin.Dict.selfAndRest;refine zA0 (wpAny_notOrdered_dict hnew.typeIs ?_);show wpAny _ _ (pure (s.heap.objs.size,[Value.ref z])) _ _ _;refine zI0 ?_;show wpAny _ _ (Builtin.Dict.updateFrom "dict.__init__" s.heap.objs.size (.ref z) [] .none) _ _ _;unfold Builtin.Dict.updateFrom;have hz1:=up _ _ hz;refine zA0 (wpAny_typeOf (T:="zip") ⟨_,hz1,rfl⟩ ?_);rw[zE0 (by decide)];refine zA0 (Cd hz1 hh fun h2 tk kp=>?_);simp only[Option.isNone_none,if_true];have hd2:h2.DictOf (aY prog w) s.heap.objs.size []:=by
  obtain⟨o,es,ep,e,r⟩:=hnew;exact⟨o,es,ep,kp _ _ e,r⟩
 have k2:∀b o,s.heap.get? b=some o->h2.get? b=some o:=fun b o e=>kp _ _ (up _ _ e)
 refine zA0 (wpAny_rule ?_);refine zA0 (wpAny_pyIter_zip (k2 _ _ hz) (zI0 ?_));refine⟨plainId_quiet cX _,?_⟩;show codeAny _ A.in1 (.builtin "dict.update.loop" ⟨[.ref s.heap.objs.size,.ref z,.int ((0:Nat):Int) 0,.none],[]⟩) _ _;obtain⟨o1,e1,_⟩:=q1.obj;obtain⟨o2,e2,_⟩:=q2.obj;refine Cs (A:=A.in1) (xs:=xs) (ys:=ys) (rs:=rs) hh D (fun hm=>?_) hl hk (rs.length-0) 0 _ [] rfl (zW0 _) ⟨.inl ⟨rfl,k2 _ _ hz⟩,k2 _ _ hTI,_,_,k2 _ _ hTO⟩ (q1.at (fun o e=>k2 _ _ e) (fun o e=>k2 _ _ e)) (q2.at (fun o e=>k2 _ _ e) (fun o e=>k2 _ _ e)) hd2 (by rw[List.length_nil];omega) fun h' tk' hd' kp'=>?_
 . simp only [List.mem_cons,List.not_mem_nil,or_false]at hm;rcases hm with y | y | y | y | y | y | y
   . exact qO0 (lt hz) y
   . exact qO0 (lt hTI) y
   . exact qO0 (lt hTO) y
   . exact qO0 (lt e1) y
   . exact qO0 (lt e2) y
   . exact qO0 ll1 y
   . exact qO0 ll2 y
 . refine ⟨rfl,h h' tk' hd' fun b o nb e=>kp' b o (fun hm=>?_) (k2 _ _ e)⟩;rcases zY0 hm with y | y
   . exact zT0 (lt e) y
   . exact nb y
end
section
variable {X:Cx}
theorem AB{P:Program}{w:World}{xs ys:List V}{its1 its2:List Value}(rv1:Vals xs its1)(rv2:Vals ys its2):∀(kvs:List (Key×V))(n:Nat),(∀(j:Nat)(kv:Key×V),kvs[j]?=some kv->xs[n+j]?=some (kV kv.1)/\ys[n+j]?=some kv.2) ->
 ∃rs:List (Key×Value),KV kvs rs/\∀(j:Nat)(kv:Key×Value),rs[j]?=some kv->∃ky,its1[n+j]?=some ky/\its2[n+j]?=some kv.2/\(aY P w).is kv.1 ky=true
 | [],_,_=>⟨[],.nil,fun j kv hj=>by simp at hj⟩
 | kv::kvs,n,h=>by
   obtain ⟨e1,e2⟩:=h 0 kv rfl;obtain⟨ky,hky,rk⟩:=rv1.get e1;obtain⟨u,hu,ru⟩:=rv2.get e2;obtain⟨rs,h1,h2⟩:=AB rv1 rv2 kvs (n+1) (fun j kv' hj=>by
    have:=h (j+1) kv' hj
    rwa [show n+(j+1)=n+1+j by omega]at this)
   refine⟨(kv.1,u)::rs,.cons ⟨rfl,ru⟩ h1,fun j kv' hj=>?_⟩;cases j with
   | zero=>
     have e:(kv.1,u)=kv':=zV0 hj;subst e;exact⟨ky,hky,hu,qe rk⟩
   | succ j=>
     have:=h2 j kv' hj
     rwa [show n+1+j=n+(j+1) by omega]at this
inductive ZtDictZip(K:W.Frag)(Q:VK)(vs:(List V))(H1:Hp):Prop where
 | mk:∀(a b:Addr)(c d:Bool)(xs ys:List V)(kvs:List (Key×V)),(vs=[.ref a,.ref b])->(SqB K c H1 a xs)->(SqB K d H1 b ys)->(xs.length=kvs.length)->(kvs.length<=sizeLine)->((∀(j:Nat)(kv:Key×V),kvs[j]?=some kv->xs[j]?=some (kV kv.1)/\ys[j]?=some kv.2))->(∀p,H1 p=none->Q (.ref p) (upd H1 p (.dK (dU [] kvs))))->ZtDictZip K Q vs H1
def yS(K:W.Frag)(t:TA):TE:=fun σ H Q=>t σ H fun vs H1=>ZtDictZip K Q vs H1
theorem vW:bootBuiltins ("dict":Str)=some (.type "dict"):=by decide
theorem vd {e1 e2:Expr} {t:TA} {p1 p2 pos1 pos2:Pos} (hc:X.calm=true) (hg1:Gl X "dict") (hm1:X.mg "dict"=none) (hg2:Gl X "zip") (hm2:X.mg "zip"=none) (ha:PA X [e1,e2] t)
 (hs1:starEach [(.Call (.Name "zip" p2) [e1,e2] [] pos2:Expr)] X.env=[(false,eval (.Call (.Name "zip" p2) [e1,e2] [] pos2) X.env)]:=by rfl) (hs:starEach [e1,e2] X.env=[(false,eval e1 X.env),(false,eval e2 X.env)]:=by rfl) (hs2:starEach [e2] X.env=[(false,eval e2 X.env)]:=by rfl) :
 PE X (.Call (.Name "dict" p1) [.Call (.Name "zip" p2) [e1,e2] [] pos2] [] pos1) (yS X.K t):=by
 intro pins s σ H Q I h;refine wpAny_Call_Name_kw (eT I hg1 hm1 vW ?_);refine PyProof.Rows.callWith_type1 ?_ hs1 rfl;rw[hs1];show wpAny _ _ (spliced ((false,eval (.Call (.Name "zip" p2) [e1,e2] [] pos2) X.env)::backTo pos1 (starEach [] X.env))) _ _ s;have step:wpAny (model X.prog X.w) X.A (eval (.Call (.Name "zip" p2) [e1,e2] [] pos2) X.env) (fun v s2=>∃(a b:Addr) (c d:Bool) (xs ys:List V) (kvs:List (Key×V)) (H1:Hp) (s1:Shared) (h':Heap) (its1 its2:List Value),s2={ s1 with heap:=h' }/\v=.ref (s1.heap.objs.size+4)/\Inv X pins σ H1 s1/\Vals xs its1/\Vals ys its2/\a<s1.heap.objs.size/\b<s1.heap.objs.size/\
  IsZip h' (s1.heap.objs.size+4) (s1.heap.objs.size+2) (s1.heap.objs.size+3) .none/\IsPair h' (s1.heap.objs.size+2) (.ref s1.heap.objs.size) (.ref (s1.heap.objs.size+1))/\IsPair h' (s1.heap.objs.size+3) .none .none/\SqIt h' s1.heap.objs.size a 0 its1.toArray/\SqIt h' (s1.heap.objs.size+1) b 0 its2.toArray/\(∀c o,s1.heap.get? c=some o->h'.get? c=some o)/\
  xs.length=kvs.length/\kvs.length<=sizeLine/\(∀(j:Nat)(kv:Key×V),kvs[j]?=some kv->xs[j]?=some (kV kv.1)/\ys[j]?=some kv.2)/\∀p,H1 p=none->Q (.ref p) (upd H1 p (.dK (dU [] kvs)))) X.xe s:=by
  refine Call_ (eT I hg2 hm2 yF (PyProof.Rows.callWith_type1 (thn (ha pos2 pins s σ H _ I h) fun us s1 ⟨vs,H1,I1,r1,q1⟩=>?_) (by rw[hs,hs2]) (by rw[hs2];rfl)));obtain⟨a,b,c,d,xs,ys,kvs,ev,hq1,hq2,hxl,hn,hkv,q⟩:=q1;subst ev;cases r1 with
  | cons r rr=>
    cases rr with
    | cons r' rr=>
      cases rr;cases r;cases r';obtain⟨its1,rv1,o1,l1⟩:=SqB.at I1 hq1;obtain⟨its2,rv2,o2,l2⟩:=SqB.at I1 hq2;exact Cu o1 o2 fun h' z1 p1 p2 k1 k2 keep=>⟨a,b,c,d,xs,ys,kvs,H1,s1,h',its1,its2,rfl,rfl,I1,rv1,rv2,l1,l2,z1,p1,p2,k1,k2,keep,hxl,hn,hkv,q⟩
 refine Calls.spliced_cons (thn step fun v s2 hv=>?_);obtain⟨a,b,c,d,xs,ys,kvs,H1,s1,h',its1,its2,rfl,rfl,I1,rv1,rv2,l1,l2,z1,p1,p2,k1,k2,keep,hxl,hn,hkv,q⟩:=hv;refine Calls.spliced_nil ?_;obtain⟨rs,hrs,hk⟩:=AB (P:=X.prog) (w:=X.w) rv1 rv2 kvs 0 (fun j kv hj=>by rw[Nat.zero_add];exact hkv j kv hj);have rl:kvs.length=rs.length:=hrs.length;have il:=rv1.length;have sz:s1.heap.objs.size+4<h'.objs.size:=zN0 z1;refine pO (rs:=rs) (I1.ok.hd hc) (zipAp l1 l2) z1 p1 p2 k1 k2 (Nat.lt_trans l1 (by show s1.heap.objs.size<h'.objs.size;omega)) (Nat.lt_trans l2 (by show s1.heap.objs.size<h'.objs.size;omega)) (by simp;omega) (fun j kv hj=>?_) (by omega) fun h2 tk dd kp=>?_
 . obtain⟨ky,e1,e2,e3⟩:=hk j kv hj;rw[Nat.zero_add]at e1 e2;exact⟨ky,by simpa using e1,by simpa using e2,e3⟩
 . have m:=KV.merge (kvs:=[]) (vs:=[]) hrs .nil;have ml:=gn kvs [];have kp2:∀b o,s1.heap.get? b=some o->h2.get? b=some o:=fun b o e=>kp b o (fun hm=>by
    have lb:=zN0 e;simp only[List.mem_cons,List.not_mem_nil,or_false]at hm;rcases hm with y | y | y | y
    . exact zT0 (qG0 lb (Nat.le_add_right _ 4)) y
    . exact zT0 (qG0 lb (Nat.le_add_right _ 3)) y
    . exact zT0 lb y
    . exact zT0 (qG0 lb (Nat.le_add_right _ 1)) y) (keep _ _ e)
   exact⟨.ref h'.objs.size,_,I1.laid (a:=h'.objs.size) (o:=.dK (dU [] kvs)) (t':=tk) kp2 (by omega) (vS (by rw[List.length_nil]at ml;omega) (beq_eq_false_iff_ne.mpr (Ne.symm (zT0 (qG0 I1.big (by omega))))) m dd),rfl,q _ (I1.hok.fresh (by omega))⟩
end
end L2
namespace Mine
def Pr(n:Int):Prop:=2<=n/\∀k:Int,2<=k->k<=1000->k*k<=n->n % k≠0
def lB(n:Int)(j:Int):Prop:=∀k:Int,2<=k->k<j->k*k<=n/\n % k≠0
theorem pU{a b:Int}(h0:0<=a)(h:a<=b):a*a<=b*b:=Int.mul_le_mul h h h0 (Int.le_trans h0 h)
theorem DB{n k:Int}(h2:2<=n)(h0:2<=k)(u:lB n k)(h:n<k*k):Pr n:=by
 refine⟨h2,fun j j2 _ js=>?_⟩
 by_cases c:j<k
 . exact(u j j2 c).2
 . have:=pU (a:=k) (b:=j) (by omega) (by omega)
   omega
theorem DC{n:Int}(h2:2<=n)(u:lB n 1001):Pr n:=⟨h2,fun j j2 j3 _=>(u j j2 (by omega)).2⟩
theorem Dz{n k:Int}(h0:2<=k)(h1:k<=1000)(hs:k*k<=n)(h:n % k=0):¬ Pr n:=fun p=>p.2 k h0 h1 hs h
theorem ut(n:Int):lB n 2:=fun k a b=>by omega
theorem wX{n k:Int}(u:lB n k)(hs:k*k<=n)(h:n % k≠0):lB n (k+1):=fun j a b=>by
 by_cases c:j<k
 . exact u j a c
 . have e:j=k:=by omega
   subst e;exact⟨hs,h⟩
def prB(n:Int):Bool:=decide (2<=n)&&(List.range 999).all fun i=>decide (n<((i:Int)+2)*((i:Int)+2))||decide (n % ((i:Int)+2)≠0)
theorem BL{n:Int}(h:prB n=true):Pr n:=by
 unfold prB at h;rw[Bool.and_eq_true]at h;refine⟨of_decide_eq_true h.1,fun k k2 k3 ks=>?_⟩;have q:=List.all_eq_true.mp h.2 (k.toNat-2) (List.mem_range.mpr (by omega));have e:(((k.toNat-2:Nat):Int)+2)=k:=by omega
 rw[e,Bool.or_eq_true]at q;rcases q with q | q
 . have:=of_decide_eq_true q;omega
 . exact of_decide_eq_true q
theorem xF:Pr 999983:=BL (by decide)
theorem DA{p d:Int}(h:Pr p)(hp:p<1002001)(d0:1<d)(d1:d<p)(hd:d ∣ p):False:=by
 obtain ⟨e,he⟩:=hd;have e0:1<e:=by
  by_cases c:e<=1
  . have:d*e<=d*1:=qX0 c (by omega)
    omega
  . omega
 by_cases c:d<=e
 . have s:d*d<=p:=by
    have:=qX0 c (show(0:Int)<=d by omega)
    omega
   have t:d<=1000:=by
    by_cases c2:1001<=d
    . have:=pU (a:=1001) (b:=d) (by omega) c2
      omega
    . omega
   refine h.2 d (by omega) t s ?_;rw[he];exact Int.mul_emod_right d e
 . have c':e<=d:=by omega
   have s:e*e<=p:=by
    have:=Int.mul_le_mul_of_nonneg_right c' (show(0:Int)<=e by omega)
    omega
   have t:e<=1000:=by
    by_cases c2:1001<=e
    . have:=pU (a:=1001) (b:=e) (by omega) c2
      omega
    . omega
   refine h.2 e (by omega) t s ?_;rw[he,Int.mul_comm];exact Int.mul_emod_right e d
def Cop(x y:Int):Prop:=∀d:Int,0<d->d ∣ x->d ∣ y->d=1
theorem Er{p a:Int}(h:Pr p)(hp:p<1002001)(a0:0<a)(a1:a<p):Cop p a:=fun d d0 h1 h2=>by
 have:=Int.le_of_dvd a0 h2
 by_cases c:1<d
 . exact(DA h hp c (by omega) h1).elim
 . omega
structure Eu(a p former ff rest f:Int):Prop where
 r0:0<rest
 rp:rest<p
 fr:rest<former
 f0:0<=f
 f1:f<p
 g0:0<=ff
 g1:ff<p
 cop:Cop former rest
 d1:p ∣ former-a*ff
 d2:p ∣ rest-a*f
theorem tO{a p:Int}(h:Pr p)(hp:p<1002001)(a0:0<a)(a1:a<p):Eu a p p 0 (a % p) 1:=by
 have e:a % p=a:=qS0 (by omega) a1;rw[e];exact⟨a0,a1,a1,by omega,by omega,by omega,by omega,Er h hp a0 a1,by rw[Int.mul_zero,Int.sub_zero];exact Int.dvd_refl p,by rw[Int.mul_one,Int.sub_self];exact Int.dvd_zero p⟩
theorem wQ{a p former ff rest f:Int}(E:Eu a p former ff rest f)(h1:rest≠1):Eu a p rest f (former-former / rest*rest) ((ff-former / rest*f) % p)/\(former-former / rest*rest).toNat<rest.toNat:=by
 have r0:=E.r0;have rp:=E.rp;have em:former-former / rest*rest=former % rest:=by
  have:=Int.emod_add_mul_ediv former rest
  rw[Int.mul_comm]at this;omega
 have l0:0<=former % rest:=qB0 _ (by omega);have l1:former % rest<rest:=qF0 _ r0;have cop':Cop rest (former % rest):=fun d d0 x y=>by
  refine E.cop d d0 ?_ x
  have:=Int.emod_add_mul_ediv former rest
  rw[←this];exact Int.dvd_add y (Int.dvd_trans x (Int.dvd_mul_right _ _))
 have lz:former % rest≠0:=fun z=>by
  have:=cop' rest r0 (Int.dvd_refl _) (by rw[z];exact Int.dvd_zero _)
  exact h1 this
 rw [em];refine⟨⟨by omega,by omega,l1,qB0 _ (by omega),qF0 _ (by omega),E.f0,E.f1,cop',E.d2,?_⟩,by omega⟩;have q:p ∣ (former-a*ff)-former / rest*(rest-a*f):=Int.dvd_sub E.d1 (Int.dvd_trans E.d2 (Int.dvd_mul_left _ _));have q2:p ∣ (ff-former / rest*f)-(ff-former / rest*f) % p:=Int.dvd_self_sub_emod;have q3:p ∣ a*((ff-former / rest*f)-(ff-former / rest*f) % p):=Int.dvd_trans q2 (Int.dvd_mul_left _ _);have q4:=Int.dvd_add q q3;have e2:former-a*ff-former / rest*(rest-a*f)+a*(ff-former / rest*f-(ff-former / rest*f) % p)=former % rest-a*((ff-former / rest*f) % p):=by
  rw[←em];generalize former / rest=t;generalize (ff-t*f) % p=u;rw[Int.mul_sub,Int.mul_sub,Int.mul_sub,Int.mul_left_comm t a f];omega
 rw[e2]at q4;exact q4
theorem AW{a p former ff rest f:Int}(E:Eu a p former ff rest f)(h1:rest=1)(hp:1<p):0<f/\f<p/\f*a % p=1:=by
 subst h1;have d2:=E.d2;have f0:=E.f0;have hm:f*a % p=1:=by
  obtain ⟨c,hc⟩:=d2;have e:f*a=1+p*(-c):=by
   rw[Int.mul_comm f a,Int.mul_neg];omega
  rw[e,Int.add_mul_emod_self_left];exact qS0 (by omega) hp
 refine⟨?_,E.f1,hm⟩
 by_cases c:f=0
 . subst c;simp at hm
 . omega
end Mine
namespace Mine
def uf(n d:Int):Prop:=∀k:Int,3<=k->k % 2=1->k<d->n % k≠0
theorem xU(n:Int):uf n 3:=fun k a _ c=>by omega
theorem Ah{n d:Int}(u:uf n d)(hd:d % 2=1)(h:n % d≠0):uf n (d+2):=fun k a b c=>by
 by_cases e:k<d
 . exact u k a b e
 . have:k=d:=by omega
   subst this;exact h
theorem yu{n d:Int}(h3:3<=n)(h2:n % 2≠0)(h0:3<=d)(u:uf n d)(hd:n<d*d):Pr n:=by
 refine⟨by omega,fun k k2 k3 ks z=>?_⟩;obtain⟨q,hq⟩:=Int.dvd_of_emod_eq_zero z
 by_cases e:k % 2=1
 . by_cases c:k<d
   . exact u k (by omega) e c z
   . have:=pU (a:=d) (b:=k) (by omega) (by omega)
     omega
 . obtain ⟨j,hj⟩:∃j,k=2*j:=⟨k / 2,by omega⟩
   rw[hj,Int.mul_assoc]at hq;omega
theorem yw{n:Int}(h2:n % 2=0)(h3:2<n):¬ Pr n:=fun p=>p.2 2 (by omega) (by omega) (by omega) h2
theorem yv{n d:Int}(h9:n<=999999)(h0:3<=d)(hs:d*d<=n)(h:n % d=0):¬ Pr n:=fun p=>by
 have t:d<=1000:=by
  by_cases c2:1001<=d
  . have:=pU (a:=1001) (b:=d) (by omega) c2
    omega
  . omega
 exact p.2 d (by omega) t hs h
theorem uH{n d:Int}(h9:n<=999999)(h0:3<=d)(hs:d*d<=n):d<=999:=by
 by_cases c2:1000<=d
 . have:=pU (a:=1000) (b:=d) (by omega) c2
   omega
 . omega
theorem BJ{n d:Int}(h0:3<=d)(hs:d*d<=n):d<=n:=by
 have:=qX0 (show(1:Int)<=d by omega) (show(0:Int)<=d by omega)
 omega
end Mine
namespace Mine
def bQ:Nat->List (List Int)
 | 0=>[[]]
 | n+1=>(bQ n).flatMap fun s=>[s++[0],s++[1]]
theorem lx{α β:Type}(f g:α->β):∀l:List α,(l.flatMap fun s=>[f s,g s]).length=2*l.length
 | []=>rfl
 | x::r=>by
   have ih:=lx f g r;simp only[List.flatMap_cons,zJ0,zQ0,List.length_nil];omega
theorem jf:∀n:Nat,(bQ n).length=2 ^ n
 | 0=>rfl
 | n+1=>by rw[bQ,lx,jf n,Nat.pow_succ];omega
theorem dj:∀(n:Nat)(s:List Int),s∈bQ n->s.length=n
 | 0,s,h=>by
   have:s=[]:=by simpa [bQ]using h
   subst this;rfl
 | n+1,s,h=>by
   rw[bQ,List.mem_flatMap]at h;obtain⟨t,ht,hs⟩:=h
   have:=dj n t ht
   simp at hs
   rcases hs with rfl | rfl <;> simp [this]
theorem ln{n:Nat}(h:n<=6):2 ^ n<=64:=Nat.pow_le_pow_right (by decide) h
end Mine
namespace Mine
def Pm(p:Int):Prop:=1<p/\∀a:Int,¬ p ∣ a->∃f:Int,p ∣ f*a-1
theorem AV{a p:Int}(hp:1<p):∀(n:Nat){former ff rest f:Int},rest.toNat<=n->Eu a p former ff rest f->∃g:Int,g*a % p=1
 | 0,former,ff,rest,f,hn,E=>by
   have:=E.r0
   omega
 | n+1,former,ff,rest,f,hn,E=>by
   by_cases c:rest=1
   . exact⟨f,(AW E c hp).2.2⟩
   . obtain⟨E2,lt⟩:=wQ E c;exact AV hp n (by omega) E2
theorem wE{p:Int}(h:Pr p)(hp:p<1002001):Pm p:=by
 have p1:1<p:=by have:=h.1;omega
 refine ⟨p1,fun a ha=>?_⟩;have a0:0<a % p:=by
  have:=qB0 a (show p≠0 by omega)
  by_cases c:a % p=0
  . exact absurd (Int.dvd_of_emod_eq_zero c) ha
  . omega
 have a1:a % p<p:=qF0 _ (by omega);obtain⟨g,hg⟩:=AV p1 _ (zH0 _) (tO h hp a0 a1);refine⟨g,?_⟩;have e1:g*a % p=1:=by rw[←hg,Int.mul_emod g (a % p),Int.emod_emod,←Int.mul_emod]
 have:=Int.emod_add_mul_ediv (g*a) p
 exact⟨g*a / p,by omega⟩
theorem Pm.mul{p a b:Int}(h:Pm p)(hd:p ∣ a*b)(ha:¬ p ∣ a):p ∣ b:=by
 obtain⟨f,k,hk⟩:=h.2 a ha;obtain⟨m,hm⟩:=hd;exact⟨f*m-k*b,by grind⟩
theorem Pm.not_mul{p a b:Int}(h:Pm p)(ha:¬ p ∣ a)(hb:¬ p ∣ b):¬ p ∣ a*b:=fun z=>hb (h.mul z ha)
def ch:Nat->Nat->Nat
 | _,0=>1
 | 0,_+1=>0
 | n+1,k+1=>ch n k+ch n (k+1)
theorem kG(n:Nat):ch n 0=1:=by cases n <;> rfl
theorem lA:∀(n k:Nat),n<k->ch n k=0
 | 0,k+1,_=>rfl
 | n+1,k+1,h=>by
   show ch n k+ch n (k+1)=0;rw[lA n k (by omega),lA n (k+1) (by omega)]
theorem Ct(n:Nat):ch n n=1:=by
 induction n with
 | zero=>rfl
 | succ n ih=>
   show ch n n+ch n (n+1)=1;rw[ih,lA n (n+1) (by omega)]
theorem rP:∀(n k:Nat),(k+1)*ch (n+1) (k+1)=(n+1)*ch n k
 | 0,0=>rfl
 | 0,k+1=>by
   show(k+2)*(ch 0 (k+1)+ch 0 (k+2))=1*ch 0 (k+1);rw[lA 0 (k+1) (by omega),lA 0 (k+2) (by omega)]
   simp
 | n+1,0=>by
   have h:=rP n 0;rw[kG n]at h;show(0+1)*(ch (n+1) 0+ch (n+1) (0+1))=(n+1+1)*ch (n+1) 0;rw[kG (n+1)];omega
 | n+1,k+1=>by
   have h1:=rP n k;have h2:=rP n (k+1);show(k+2)*(ch (n+1) (k+1)+ch (n+1) (k+2))=(n+2)*ch (n+1) (k+1);have e:ch (n+1) (k+1)=ch n k+ch n (k+1):=rfl
   grind
def sm(f:Nat->Int):Nat->Int
 | 0=>0
 | n+1=>sm f n+f n
theorem na{f g:Nat->Int}:∀n,(∀k,k<n->f k=g k)->sm f n=sm g n
 | 0,_=>rfl
 | n+1,h=>by
   show sm f n+f n=sm g n+g n;rw[na n (fun k hk=>h k (by omega)),h n (by omega)]
theorem zk(f g:Nat->Int):∀n,sm (fun k=>f k+g k) n=sm f n+sm g n
 | 0=>rfl
 | n+1=>by
   show sm (fun k=>f k+g k) n+(f n+g n)=(sm f n+f n)+(sm g n+g n)
   rw[zk f g n];omega
theorem zh(c:Int)(f:Nat->Int):∀n,sm (fun k=>c*f k) n=c*sm f n
 | 0=>by simp [sm]
 | n+1=>by
   show sm (fun k=>c*f k) n+c*f n=c*(sm f n+f n)
   rw[zh c f n]
   grind
theorem jR(f:Nat->Int):∀n,sm f (n+1)=f 0+sm (fun k=>f (k+1)) n
 | 0=>by simp [sm]
 | n+1=>by
   show sm f (n+1)+f (n+1)=f 0+(sm (fun k=>f (k+1)) n+f (n+1))
   rw[jR f n];omega
theorem zj{p:Int}{f:Nat->Int}:∀n,(∀k,k<n->p ∣ f k)->p ∣ sm f n
 | 0,_=>⟨0,by simp [sm]⟩
 | n+1,h=>Int.dvd_add (zj n fun k hk=>h k (by omega)) (h n (by omega))
theorem CZ(a:Int):∀n:Nat,(a+1) ^ n=sm (fun k=>(ch n k:Int)*a ^ k) (n+1)
 | 0=>by simp [sm,ch]
 | n+1=>by
   have ih:=CZ a n;rw[Int.pow_succ,ih,jR (fun k=>((ch (n+1) k:Nat):Int)*a ^ k) (n+1)];have e1:sm (fun k=>((ch (n+1) (k+1):Nat):Int)*a ^ (k+1)) (n+1)=a*sm (fun k=>(ch n k:Int)*a ^ k) (n+1)+sm (fun k=>(ch n (k+1):Int)*a ^ (k+1)) (n+1):=by
    rw[←zh,←zk];refine na _ fun k _=>?_
    have:ch (n+1) (k+1)=ch n k+ch n (k+1):=rfl
    rw[this,Int.natCast_add,Int.pow_succ]
    grind
   have e2:sm (fun k=>(ch n k:Int)*a ^ k) (n+1)=1+sm (fun k=>(ch n (k+1):Int)*a ^ (k+1)) (n+1):=by
    rw[jR]
    have:sm (fun k=>(ch n (k+1):Int)*a ^ (k+1)) (n+1)=sm (fun k=>(ch n (k+1):Int)*a ^ (k+1)) n:=by
     show _+(ch n (n+1):Int)*a ^ (n+1)=_;rw[lA n (n+1) (by omega)]
     simp
    rw[this,kG]
    simp
   rw[e1,kG]
   grind
theorem Et{p:Int}(h:Pm p){n k:Nat}(hn:(n:Int)+1=p)(hk:k<n):p ∣ ((ch (n+1) (k+1):Nat):Int):=by
 have e:((k:Int)+1)*((ch (n+1) (k+1):Nat):Int)=p*((ch n k:Nat):Int):=by
  have:=rP n k
  rw[←hn];exact_mod_cast this
 refine h.mul (a:=(k:Int)+1) ⟨_,e⟩ fun hd=>?_
 have:=Int.le_of_dvd (by omega) hd
 omega
theorem oT{p:Int}(h:Pm p):∀a:Nat,p ∣ (a:Int) ^ p.toNat-a
 | 0=>by
   have:p.toNat≠0:=by have:=h.1;omega
   simp [Int.zero_pow this]
 | a+1=>by
   have ih:=oT h a;obtain⟨n,hn⟩:∃n:Nat,p.toNat=n+1:=⟨p.toNat-1,by have:=h.1;omega⟩
   have hp:(n:Int)+1=p:=by have:=h.1;omega
   rw [hn]at ih ⊢;have b:=CZ (a:Int) (n+1);have e:sm (fun k=>(ch (n+1) k:Int)*(a:Int) ^ k) (n+1+1)=sm (fun k=>(ch (n+1) (k+1):Int)*(a:Int) ^ (k+1)) n+(a:Int) ^ (n+1)+1:=by
    rw[jR];show _+(sm _ n+(ch (n+1) (n+1):Int)*(a:Int) ^ (n+1))=_;rw[Ct,kG]
    simp
    omega
   have d:p ∣ sm (fun k=>(ch (n+1) (k+1):Int)*(a:Int) ^ (k+1)) n:=zj n fun k hk=>Int.dvd_mul_of_dvd_left (Et h hp hk)
   obtain⟨u,hu⟩:=ih;obtain⟨v,hv⟩:=d;refine⟨u+v,?_⟩;rw[Int.natCast_add];show((a:Int)+1) ^ (n+1)-((a:Int)+1)=_;rw[b,e]
   grind
theorem Ek{p a:Int}(h:Pm p)(ha:¬ p ∣ a)(a0:0<=a):p ∣ a*a ^ (p-2).toNat-1:=by
 obtain⟨n,hn⟩:∃n:Nat,p.toNat=n+2:=⟨p.toNat-2,by have:=h.1;omega⟩
 have e:(p-2).toNat=n:=by omega
 have f:=oT h a.toNat;rw[Int.toNat_of_nonneg a0,hn]at f;rw[e];have g:a ^ (n+2)-a=a*(a*a ^ n-1):=by
  rw[Int.pow_succ,Int.pow_succ]
  grind
 rw[g]at f;exact h.mul f ha
def IsPoly:Nat->(Int->Int)->Prop
 | 0,f=>∀x,f x=0
 | n+1,f=>∃(a:Int)(g:Int->Int),IsPoly n g/\∀x,f x=a+x*g x
theorem IsPoly.congr:∀{n:Nat}{f g:Int->Int},IsPoly n f->(∀x,g x=f x)->IsPoly n g
 | 0,_,_,h,e=>fun x=>(e x).trans (h x)
 | _+1,_,_,⟨a,k,hk,h⟩,e=>⟨a,k,hk,fun x=>(e x).trans (h x)⟩
theorem IsPoly.zero:∀n:Nat,IsPoly n fun _=>0
 | 0=>fun _=>rfl
 | n+1=>⟨0,fun _=>0,IsPoly.zero n,fun x=>by simp⟩
theorem IsPoly.up:∀{n:Nat}{f:Int->Int},IsPoly n f->IsPoly (n+1) f
 | 0,f,h=>⟨0,fun _=>0,fun _=>rfl,fun x=>by rw[h x];simp⟩
 | n+1,f,⟨a,g,hg,h⟩=>⟨a,g,hg.up,h⟩
theorem IsPoly.upTo{n:Nat}{f:Int->Int}(h:IsPoly n f):∀m,n<=m->IsPoly m f:=fun m hm=>by
 obtain⟨k,rfl⟩:∃k,m=n+k:=⟨m-n,by omega⟩
 clear hm
 induction k with
 | zero=>exact h
 | succ k ih=>exact ih.up
theorem IsPoly.add:∀{n:Nat}{f g:Int->Int},IsPoly n f->IsPoly n g->IsPoly n fun x=>f x+g x
 | 0,f,g,h,k=>fun x=>by show f x+g x=0;rw[h x,k x];rfl
 | n+1,f,g,⟨a,u,hu,h⟩,⟨b,v,hv,k⟩=>⟨a+b,fun x=>u x+v x,hu.add hv,fun x=>by show f x+g x=a+b+x*(u x+v x);rw[h x,k x];grind⟩
theorem IsPoly.mul(c:Int):∀{n:Nat}{f:Int->Int},IsPoly n f->IsPoly n fun x=>c*f x
 | 0,f,h=>fun x=>by show c*f x=0;rw[h x];simp
 | n+1,f,⟨a,u,hu,h⟩=>⟨c*a,fun x=>c*u x,hu.mul c,fun x=>by show c*f x=c*a+x*(c*u x);rw[h x];grind⟩
theorem IsPoly.lin{n:Nat}{f:Int->Int}(h:IsPoly n f)(r:Int):IsPoly (n+1) fun x=>(x-r)*f x:=by
 have h1:IsPoly (n+1) fun x=>x*f x:=⟨0,f,h,fun x=>by simp⟩
 exact(h1.add (h.up.mul (-r))).congr fun x=>by grind
theorem IsPoly.div:∀{n:Nat}{f:Int->Int},IsPoly (n+1) f->∀r:Int,∃q,IsPoly n q/\∀x,f x-f r=(x-r)*q x
 | 0,f,⟨a,g,hg,h⟩,r=>⟨fun _=>0,fun _=>rfl,fun x=>by rw[h x,h r,hg x,hg r];simp⟩
 | n+1,f,⟨a,g,hg,h⟩,r=>by
   obtain⟨q,hq,e⟩:=IsPoly.div hg r;refine⟨fun x=>g x+r*q x,hg.add (hq.up.mul r),fun x=>?_⟩
   have:=e x
   rw[h x,h r]
   grind
theorem IsPoly.roots{p:Int}(hp:Pm p):∀{n:Nat}{f:Int->Int}(rs:List Int),IsPoly n f->rs.length=n->rs.Pairwise (fun a b=>¬ p ∣ b-a)->(∀r∈rs,p ∣ f r)->∀x,p ∣ f x
 | 0,f,_,h,_,_,_,x=>⟨0,by rw[h x];simp⟩
 | n+1,f,[],_,hl,_,_,_=>by simp at hl
 | n+1,f,r::rs,h,hl,hd,hr,x=>by
   obtain ⟨q,hq,e⟩:=h.div r;have hd':=List.pairwise_cons.mp hd;have z:=IsPoly.roots hp rs hq (by simpa using hl) hd'.2 (fun s hs=>by
    have h1:p ∣ (s-r)*q s:=by
     rw[←e s];exact Int.dvd_sub (hr s (qH0 _ hs)) (hr r zU0)
    exact hp.mul h1 (hd'.1 s hs)) x
   have:f x=f r+(x-r)*q x:=by have:=e x;omega
   rw[this];exact Int.dvd_add (hr r zU0) (Int.dvd_mul_of_dvd_right z)
end Mine
namespace Mine
def pr(g:Nat->Int):Nat->Int
 | 0=>1
 | n+1=>pr g n*g n
theorem oi{f g:Nat->Int}:∀n,(∀k,k<n->f k=g k)->pr f n=pr g n
 | 0,_=>rfl
 | n+1,h=>by
   show pr f n*f n=pr g n*g n;rw[oi n (fun k hk=>h k (by omega)),h n (by omega)]
theorem oh(g:Nat->Int):∀n,pr g (n+1)=g 0*pr (fun k=>g (k+1)) n
 | 0=>by simp [pr]
 | n+1=>by
   show pr g (n+1)*g (n+1)=g 0*(pr (fun k=>g (k+1)) n*g (n+1))
   rw[oh g n,Int.mul_assoc]
def px(x:Int)(i:Nat):Nat->Int
 | 0=>1
 | n+1=>if n=i then px x i n else px x i n*(x-n)
theorem wB(i:Nat):∀n,IsPoly (if i<n then n else n+1) fun x=>px x i n
 | 0=>⟨1,fun _=>0,fun _=>rfl,fun x=>by simp [px]⟩
 | n+1=>by
   have ih:=wB i n
   by_cases c:n=i
   . subst c;rw[zB0 (qV0 n)]at ih;rw[zE0 (Nat.lt_succ_self n)];exact ih.congr fun x=>by simp [px]
   . have e:∀x,px x i (n+1)=(x-n)*px x i n:=fun x=>by
      show(if n=i then px x i n else px x i n*(x-n))=_;rw[zB0 c,Int.mul_comm]
     by_cases c2:i<n
     . rw[zE0 c2]at ih;rw[zE0 (by omega)];exact(ih.lin n).congr e
     . rw[zB0 c2]at ih;rw[zB0 (by omega)];exact(ih.lin n).congr e
theorem qS{k i:Nat}(h:k≠i):∀n,k<n->px (k:Int) i n=0
 | n+1,hk=>by
   show(if n=i then px (k:Int) i n else px (k:Int) i n*((k:Int)-n))=0
   by_cases c:n=i
   . rw[zE0 c];exact qS h n (by omega)
   . rw [zB0 c]
     by_cases c2:k=n
     . subst c2
       simp
     . rw [qS h n (by omega)]
       simp
def lag(v u:Nat->Int)(n:Nat)(x:Int):Int:=sm (fun i=>v i*px x i n*u i) n
theorem BA{n m:Nat}{f:Nat->Int->Int}:(∀i,i<m->IsPoly n (f i))->IsPoly n fun x=>sm (fun i=>f i x) m:=by
 induction m with
 | zero=>exact fun _=>IsPoly.zero n
 | succ m ih=>exact fun h=>(ih fun i hi=>h i (by omega)).add (h m (by omega))
theorem tG(v u:Nat->Int)(n:Nat):IsPoly n (lag v u n):=BA fun i hi=>by
 have h:=wB i n;rw[zE0 hi]at h;exact(h.mul (v i*u i)).congr fun x=>by grind
theorem zc{f:Nat->Int}{k:Nat}:∀n,k<n->(∀i,i<n->i≠k->f i=0)->sm f n=f k
 | n+1,hk,h=>by
   show sm f n+f n=f k
   by_cases c:k=n
   . subst c;have z:sm f k=0:=by
      have:sm f k=sm (fun _=>0) k:=na k fun i hi=>h i (by omega) (by omega)
      rw[this];clear this h hk
      induction k with
      | zero=>rfl
      | succ k ih=>show sm (fun _=>0) k+0=0;rw[ih];rfl
     rw[z]
     simp
   . rw [zc n (by omega) (fun i hi=>h i (by omega)),h n (by omega) (by omega)]
     simp
def Wgt(p:Int)(n:Nat)(u:Nat->Int):Prop:=∀i,i<n->p ∣ px (i:Int) i n*u i-1
theorem vK{p:Int}{v u:Nat->Int}{n k:Nat}(hu:Wgt p n u)(hk:k<n):p ∣ lag v u n k-v k:=by
 unfold lag;rw[zc n hk fun i hi hne=>by rw[qS (Ne.symm hne) n hk];simp];obtain⟨m,hm⟩:=hu k hk;exact⟨v k*m,by grind⟩
theorem far{p:Int}{n:Nat}(hn:(n:Int)<=p):((List.range n).map fun k:Nat=>(k:Int)).Pairwise fun a b=>¬ p ∣ b-a:=by
 rw[List.pairwise_map];refine List.Pairwise.imp_of_mem (fun{a b} ha hb h=>?_) List.pairwise_lt_range;intro d
 have:=Int.le_of_dvd (by omega) d
 have hb':=List.mem_range.mp hb;omega
theorem alike{p:Int}(hp:Pm p){n:Nat}(hn:(n:Int)<=p){f g:Int->Int}(hf:IsPoly n f)(hg:IsPoly n g)(h:∀k:Nat,k<n->p ∣ f k-g k)(x:Int):p ∣ f x-g x:=by
 have hd:IsPoly n fun x=>f x-g x:=(hf.add (hg.mul (-1))).congr fun x=>by grind
 refine hd.roots hp ((List.range n).map fun k:Nat=>(k:Int)) (by simp) (far hn) (fun r hr=>?_) x;obtain⟨k,hk,rfl⟩:=List.mem_map.mp hr;exact h k (List.mem_range.mp hk)
theorem tF{p:Int}(hp:Pm p){n:Nat}(hn:(n:Int)<=p){v u:Nat->Int}{P:Int->Int}(hu:Wgt p n u)(hP:IsPoly n P)(h:∀k:Nat,k<n->p ∣ v k-P k)(x:Int):p ∣ lag v u n x-P x:=
 alike hp hn (tG v u n) hP (fun k hk=>by
  have h1:=vK (v:=v) hu hk;have h2:=h k hk
  have:lag v u n k-P k=(lag v u n k-v k)+(v k-P k):=by omega
  rw[this];exact Int.dvd_add h1 h2) x
theorem AA{p:Int}(hp:Pm p){n:Nat}(hn:(n:Int)<=p){v u u':Nat->Int}(hu:Wgt p n u)(hu':Wgt p n u')(x:Int):p ∣ lag v u n x-lag v u' n x:=
 tF hp hn hu (tG v u' n) (fun k hk=>by
  obtain⟨m,hm⟩:=vK (v:=v) hu' hk;exact⟨-m,by grind⟩) x
theorem nZ(x:Int)(i:Nat):∀m,px x i (i+1+m)=pr (fun j=>x-j) i*pr (fun j=>x-(i+1+j:Nat)) m
 | 0=>by
   have h:∀k,k<=i->px x i k=pr (fun j=>x-j) k:=fun k=>by
    induction k with
    | zero=>exact fun _=>rfl
    | succ k ih=>
      intro hk;show(if k=i then px x i k else px x i k*(x-k))=pr (fun j=>x-j) k*(x-k)
      rw[zB0 (by omega),ih (by omega)]
   show(if i=i then px x i i else _)=_*1;rw[zE0 rfl,h i (zH0 _),Int.mul_one]
 | m+1=>by
   show(if i+1+m=i then _ else px x i (i+1+m)*(x-(i+1+m:Nat)))=pr (fun j=>x-j) i*(pr (fun j=>x-(i+1+j:Nat)) m*(x-(i+1+m:Nat)))
   rw[zB0 (by omega),nZ x i m,Int.mul_assoc]
theorem wD(x:Int)(i:Nat):∀m,pr (fun j=>x-(i+m:Nat)+j) m=pr (fun j=>x-(i+1+j:Nat)) m
 | 0=>rfl
 | m+1=>by
   rw[oh];show _=pr (fun j=>x-(i+1+j:Nat)) m*(x-(i+1+m:Nat))
   have e:pr (fun k=>x-(i+(m+1):Nat)+(k+1:Nat)) m=pr (fun j=>x-(i+m:Nat)+j) m:=oi m fun k _=>by omega
   rw[e,wD x i m,Int.mul_comm]
   congr 1
   omega
def fac:Nat->Int
 | 0=>1
 | n+1=>fac n*((n:Int)+1)
theorem tN:∀n:Nat,pr (fun j=>(n:Int)-j) n=fac n
 | 0=>rfl
 | n+1=>by
   rw[oh];have e:pr (fun k=>((n+1:Nat):Int)-(k+1:Nat)) n=pr (fun j=>(n:Int)-j) n:=oi n fun k _=>by omega
   rw[e,tN n];show((n+1:Nat)-(0:Nat):Int)*fac n=fac n*((n:Int)+1)
   rw[Int.mul_comm]
   congr 1
theorem wP(i:Nat):∀m:Nat,pr (fun j=>(i:Int)-(i+1+j:Nat)) m=(-1) ^ m*fac m
 | 0=>rfl
 | m+1=>by
   show pr _ m*((i:Int)-(i+1+m:Nat))=(-1) ^ (m+1)*(fac m*((m:Int)+1))
   rw[wP i m,Int.pow_succ]
   have:((i:Int)-(i+1+m:Nat))=-((m:Int)+1):=by omega
   rw[this]
   grind
theorem zI(i m:Nat):px (i:Int) i (i+1+m)=fac i*((-1) ^ m*fac m):=by rw[nZ,tN,wP]
theorem tM:∀(k d:Nat),fac d*pr (fun j=>((d+k:Nat):Int)-j) k=fac (d+k)
 | 0,d=>by simp [pr]
 | k+1,d=>by
   have ih:=tM k (d+1);rw[show d+1+k=d+(k+1) by omega]at ih;rw[←ih];show fac d*(pr (fun j=>((d+(k+1):Nat):Int)-j) k*(((d+(k+1):Nat):Int)-k))=fac d*((d:Int)+1)*pr (fun j=>((d+(k+1):Nat):Int)-j) k
   have:(((d+(k+1):Nat):Int)-k)=(d:Int)+1:=by omega
   rw[this]
   grind
theorem rM{p:Int}(hp:Pm p):∀n:Nat,(n:Int)<p->¬ p ∣ fac n
 | 0,_=>fun d=>by
   have:=Int.le_of_dvd (by decide) (show p ∣ 1 from d)
   have:=hp.1
   omega
 | n+1,h=>hp.not_mul (rM hp n (by omega)) fun d=>by
   have:=Int.le_of_dvd (by omega) d
   omega
theorem wp(m:Nat):((-1:Int) ^ m)*(-1) ^ m=1:=by
 induction m with
 | zero=>rfl
 | succ m ih=>rw[Int.pow_succ];grind
theorem DF{p:Int}(hp:Pm p){n i:Nat}(hn:(n:Int)<=p)(hi:i<n):¬ p ∣ px (i:Int) i n:=by
 obtain⟨m,rfl⟩:∃m,n=i+1+m:=⟨n-(i+1),by omega⟩
 rw[zI];refine hp.not_mul (rM hp i (by omega)) (hp.not_mul (fun d=>?_) (rM hp m (by omega)));obtain⟨k,hk⟩:=d;have s:=wp m
 have:p ∣ 1:=⟨k*(-1) ^ m,by grind⟩
 have:=Int.le_of_dvd (by decide) this
 have:=hp.1
 omega
theorem Bp{p:Int}{last:Nat}{sh:Nat->Int}(h:∀k,k<=last->p ∣ sh k*fac k-1):Wgt p (last+1) fun i=>(-1) ^ (last-i)*(sh i*sh (last-i)):=fun i hi=>by
 obtain⟨m,rfl⟩:∃m,last=i+m:=⟨last-i,by omega⟩
 show p ∣ px (i:Int) i (i+m+1)*((-1) ^ (i+m-i)*(sh i*sh (i+m-i)))-1;rw[show i+m+1=i+1+m by omega,zI,show i+m-i=m by omega];obtain⟨a,ha⟩:=h i (by omega);obtain⟨b,hb⟩:=h m (by omega);have s:=wp m;refine⟨a*(sh m*fac m)+b,?_⟩;have e:fac i*((-1) ^ m*fac m)*((-1) ^ m*(sh i*sh m))=((-1) ^ m*(-1) ^ m)*((sh i*fac i)*(sh m*fac m)):=by grind
 rw[e,s]
 grind
end Mine
namespace Mine
theorem IsPoly.prod:∀{m n:Nat}{f g:Int->Int},IsPoly (m+1) f->IsPoly (n+1) g->IsPoly (m+n+1) fun x=>f x*g x
 | 0,n,f,g,⟨a,u,hu,e⟩,hg=>by
   rw[Nat.zero_add];exact(hg.mul a).congr fun x=>by rw[e x,hu x];simp
 | m+1,n,f,g,⟨a,u,hu,e⟩,hg=>by
   have ih:=IsPoly.prod hu hg;have h1:IsPoly (m+n+1+1) fun x=>x*(u x*g x):=⟨0,_,ih,fun x=>by simp⟩
   have h2:IsPoly (m+n+1+1) fun x=>a*g x:=(hg.mul a).upTo _ (by omega)
   rw[show m+1+n+1=m+n+1+1 by omega];exact(h2.add h1).congr fun x=>by rw[e x];grind
theorem IsPoly.const(c:Int)(n:Nat):IsPoly (n+1) fun _=>c:=⟨c,fun _=>0,IsPoly.zero n,fun x=>by simp⟩
theorem IsPoly.self:IsPoly 2 fun x=>x:=⟨0,fun _=>1,IsPoly.const 1 0,fun x=>by simp⟩
theorem oV(p x:Int):p ∣ x % p-x:=⟨-(x / p),by
 have:=Int.emod_add_mul_ediv x p
 rw[Int.mul_neg];omega⟩
end Mine
namespace Mine
open PySem L2
theorem DT{us:List Value}(h:us.length=1):∃a,us=[a]:=by
 cases us with
 | nil=>cases h
 | cons a r=>
   cases r with
   | nil=>exact⟨a,rfl⟩
   | cons _ _=>cases h
theorem yc{us:List Value}{n:Nat}(h:us.length=n+1):∃a r,us=a::r/\r.length=n:=by
 cases us with
 | nil=>cases h
 | cons a r=>exact⟨a,r,rfl,Nat.succ.inj h⟩
theorem DS{us:List Value}(h:us.length=2):∃a b,us=[a,b]:=by
 obtain⟨a,r,rfl,h1⟩:=yc h;obtain⟨b,rfl⟩:=DT h1;exact⟨a,b,rfl⟩
theorem Cl{us:List Value}(h:us.length=3):∃a b c,us=[a,b,c]:=by
 obtain⟨a,r,rfl,h1⟩:=yc h;obtain⟨b,c,rfl⟩:=DS h1;exact⟨a,b,c,rfl⟩
theorem Ck{us:List Value}(h:us.length=4):∃a b c d,us=[a,b,c,d]:=by
 obtain⟨a,r,rfl,h1⟩:=yc h;obtain⟨b,c,d,rfl⟩:=Cl h1;exact⟨a,b,c,d,rfl⟩
theorem len5{us:List Value}(h:us.length=5):∃a b c d e,us=[a,b,c,d,e]:=by
 obtain⟨a,r,rfl,h1⟩:=yc h;obtain⟨b,c,d,e,rfl⟩:=Ck h1;exact⟨a,b,c,d,e,rfl⟩
theorem len6{us:List Value}(h:us.length=6):∃a b c d e f,us=[a,b,c,d,e,f]:=by
 obtain⟨a,r,rfl,h1⟩:=yc h;obtain⟨b,c,d,e,f,rfl⟩:=len5 h1;exact⟨a,b,c,d,e,f,rfl⟩
theorem len7{us:List Value}(h:us.length=7):∃a b c d e f g,us=[a,b,c,d,e,f,g]:=by
 obtain⟨a,r,rfl,h1⟩:=yc h;obtain⟨b,c,d,e,f,g,rfl⟩:=len6 h1;exact⟨a,b,c,d,e,f,g,rfl⟩
def top(i:Nat):Stmt:=PySem.Challenge.pw_asktally_k68_the_honest_one_is_never_cau.main.body.getD i (.Pass ⟨0,0,0,0⟩)
abbrev jJ:Stmt:=top 2
abbrev hV:Stmt:=top 3
abbrev jD:Stmt:=top 5
abbrev fi:Stmt:=top 6
abbrev jF:Stmt:=top 7
abbrev cU:Stmt:=top 8
abbrev fw:Stmt:=top 10
abbrev hZ:Stmt:=top 11
abbrev nO:Stmt:=top 12
abbrev jK:Stmt:=top 13
abbrev fk:Stmt:=top 14
abbrev gU:Stmt:=top 15
abbrev iQ:Stmt:=top 17
abbrev jE:Stmt:=top 18
abbrev gR:Stmt:=top 22
abbrev jG:Stmt:=top 23
abbrev lj:Stmt:=top 24
abbrev kW:Stmt:=top 30
abbrev gi:Stmt:=top 31
abbrev gQ:Stmt:=top 40
abbrev fq:Stmt:=top 41
abbrev iP:Stmt:=top 45
abbrev eR:Stmt:=top 46
abbrev gV:Stmt:=top 47
abbrev gX:Stmt:=top 48
abbrev iO:Stmt:=top 49
abbrev li:Stmt:=top 59
abbrev hC:Stmt:=top 60
abbrev gl:Stmt:=top 68
abbrev ia:Stmt:=top 69
abbrev iN:Stmt:=top 70
abbrev fo:Stmt:=top 71
abbrev fX:Stmt:=top 72
abbrev cN:Stmt:=top 73
abbrev nQ:Stmt:=top 77
abbrev uS:Stmt:=top 78
abbrev iR:Stmt:=top 79
abbrev nK:Stmt:=top 81
abbrev nE:Stmt:=top 82
abbrev bm:Stmt:=top 83
abbrev jY:Stmt:=top 84
abbrev eW:Stmt:=top 85
abbrev nI:Stmt:=top 86
abbrev gZ:Stmt:=top 87
abbrev lg:Stmt:=top 88
abbrev gY:Stmt:=top 89
abbrev jZ:Stmt:=top 90
abbrev jH:Stmt:=top 91
abbrev nJ:Stmt:=top 92
abbrev jg:Stmt:=top 93
abbrev ld:Stmt:=top 94
abbrev qK:Stmt:=top 95
abbrev lh:Stmt:=top 96
abbrev kZ:Stmt:=top 97
abbrev lc:Stmt:=top 98
abbrev jI:Stmt:=top 99
abbrev jX:Stmt:=top 100
section
variable {P:Program} {w:World} {K:W.Frag} {mg:Str->Option Value} {base:Heap}
abbrev iS:Stmt:=top 20
abbrev kY:Stmt:=top 27
abbrev uP:Stmt:=top 29
abbrev uU:Stmt:=top 44
structure Bl(mg:Str->Option Value):Prop where
 len:mg "len"=none
 range:mg "range"=none
 isinstance:mg "isinstance"=none
 int:mg "int"=none
 bool:mg "bool"=none
 list:mg "list"=none
 tuple:mg "tuple"=none
 max:mg "max"=none
 reversed:mg "reversed"=none
 enumerate:mg "enumerate"=none
 sum:mg "sum"=none
 all:mg "all"=none
 zip:mg "zip"=none
 dict:mg "dict"=none
theorem wO(z:Int):0<=z % 2147483646+1/\z % 2147483646+1<=2147483646:=by omega
theorem ee:FnScope ["_law_script","_law_k","_law_cell","_law_own"] ["_law_script","_law_k"] (ak nK):=⟨rfl,rfl,rfl,by decide,rfl,by decide,by decide⟩
theorem xO {f:Addr} {fd:FuncData} (F:Fun K "_law_feed" "_law_feed" nK f fd) (hlen:mg "len"=none):FnOk P w K mg base CX0 1 f fd ["_law_script","_law_k"] (spFeed K):=by
 refine F.ok ee (fun vs H Q E h=>?_) (fun cdv A outer s H vs Q E hr h=>?_)
 . obtain⟨a,ns,k,rfl,_⟩:=h;rfl
 obtain ⟨a,ns,k,rfl,hS,h63,k0,k1,q⟩:=h;refine⟨_,(aa (aj (i:=2) ee.nd rfl (Or.inl rfl) (ag aO (ag bg ac (pv 1)) ac))
  (aa (aB (af cJ (pv 1) (aA aC rfl hlen PySem.boot_len (ae (pv 0) aI)) (ao _)) (ad (aj (i:=2) ee.nd rfl (Or.inl rfl) (aD ix_list (pv 0) (pv 1) (fun _ _=>rfl)))) (ad (aB (af gB (aA aC rfl hlen PySem.boot_len (ae (pv 0) aI)) ac (ao _)) (ad (aj (i:=2) ee.nd rfl (Or.inl rfl) (ag aO (ag bg (ag aN (aD ix_list (pv 0) (ag aN (pv 1) (aA aC rfl hlen PySem.boot_len (ae (pv 0) aI))) (fun _ _=>rfl)) ac) ac) (ag bg ac (pv 1))))) aq)))
  (aa (aj (i:=3) ee.nd rfl (Or.inl rfl) ac)
  (aa (aB (af CQ (pv 2) (ag zT ac ac) (ao _)) (ad (aj (i:=3) ee.nd rfl (Or.inl rfl) (pv 2))) aq)
  (ad (am (cf (ae (pv 3) (ae (ag aO (ag aN (ag aO (ag bg (ag aN (pv 2) ac) ac) (ag bg ac (pv 1))) ac) ac) aI))))))))),?_⟩
 have hl:(ns.map V.int).length=ns.length:=zF0 _;have hp:(10:Int) ^ (18:Int).toNat=1000000000000000000:=by decide
 refine⟨_,rfl,_,_,rfl,rfl,.inl ⟨by decide,by decide⟩,_,_,rfl,rfl,?_⟩;refine⟨_,rfl,_,rfl,a,_,rfl,.inl hS,_,_,rfl,rfl,_,rfl,?_⟩;refine kD (fun c=>?b1) (fun c=>?b2)
 case' b1=>
  have c':k<(((ns.map V.int).length:Nat):Int):=of_decide_eq_true c;rw[hl]at c';obtain⟨v,hv⟩:=Bf (ns:=ns) k0 c';refine⟨_,rfl,_,rfl,a,_,_,_,rfl,rfl,hS,hv,?_⟩
 case' b2=>
  refine⟨_,rfl,a,_,rfl,.inl hS,_,_,rfl,rfl,_,rfl,?_⟩;refine kD (fun c2=>?b3) (fun c2=>?b4)
  case' b3=>
   have c':(0:Int)<(((ns.map V.int).length:Nat):Int):=of_decide_eq_true c2;have m0:=qB0 k (b:=(((ns.map V.int).length:Nat):Int)) (by omega);have m1:=qF0 k c';obtain⟨v,hv⟩:=Bf (ns:=ns) m0 (by rw[hl]at m1 ⊢;exact m1);have n0:=qB0 v (b:=2147483629) (by decide);have n1:=qF0 v (b:=2147483629) (by decide);refine⟨_,rfl,_,rfl,_,rfl,a,_,rfl,.inl hS,_,_,rfl,rfl,c',a,_,_,_,rfl,rfl,hS,hv,_,_,rfl,rfl,(by show(0:Int)<_;decide),_,_,rfl,rfl,.inr ⟨by decide,by decide⟩,_,rfl,_,_,rfl,rfl,.inl ⟨by decide,by decide⟩,_,_,rfl,rfl,?_⟩
 all_goals
  refine⟨_,rfl,_,_,rfl,rfl,⟨by decide,by decide,by decide⟩,_,_,rfl,rfl,_,rfl,?_⟩;refine kD (fun c3=>?_) (fun c3=>?_)
  . have c4:=of_decide_eq_true c3;rw[hp]at c4;refine⟨_,rfl,_,rfl,_,rfl,_,_,rfl,rfl,(by show(0:Int)<_;decide),_,_,rfl,rfl,.inr ⟨by decide,by decide⟩,_,rfl,_,_,rfl,rfl,.inl ⟨by decide,by decide⟩,_,_,rfl,rfl,_,_,rfl,rfl,(by show(0:Int)<_;decide),_,_,rfl,rfl,(by show 2<=sizeLine;decide),fun p hp=>?_⟩;refine q p _ hp (zC0 hp _) ⟨_,_,aE,Int.le_trans (by decide) c4,(wO _).1,(wO _).2⟩
  . refine⟨_,rfl,_,rfl,_,_,rfl,rfl,(by show(0:Int)<_;decide),_,_,rfl,rfl,.inr ⟨by decide,by decide⟩,_,rfl,_,_,rfl,rfl,.inl ⟨by decide,by decide⟩,_,_,rfl,rfl,_,_,rfl,rfl,(by show(0:Int)<_;decide),_,_,rfl,rfl,(by show 2<=sizeLine;decide),fun p hp=>?_⟩;refine q p _ hp (zC0 hp _) ⟨_,_,aE,Int.le_refl 0,(wO _).1,(wO _).2⟩
theorem kc:FnScope ["_law_feed_here","_law_many","_law_digit","_law_one"] ["_law_feed_here","_law_many"] (ak nE):=⟨rfl,rfl,rfl,by decide,rfl,by decide,by decide⟩
theorem xL {f:Addr} {fd:FuncData} (F:Fun K "_law_take" "_law_take" nE f fd):FnOk P w K mg base CX0 1 f fd ["_law_feed_here","_law_many"] spTake:=by
 refine F.ok kc (fun vs H Q E h=>?_) (fun cdv A outer s H vs Q E hr h=>?_)
 . obtain⟨f,m,rfl,_⟩:=h;rfl
 obtain ⟨f,m,rfl,⟨own,st,hf,o0,s0,s1⟩,m0,m1,q⟩:=h;refine⟨_,(aa (aB (af gB (aD ix_list (pv 0) ac (fun _ _=>rfl)) ac (ao _)) (aa (aj (i:=2) kc.nd rfl (Or.inl rfl) (ag aN (aD ix_list (pv 0) ac (fun _ _=>rfl)) (pv 1)))
  (aa (qT (ag zV (aD ix_list (pv 0) ac (fun _ _=>rfl)) (pv 1)) (vb (pv 0) ac nn))
  (ad (am (pv 2))))) aq)
  (aa (aj (i:=3) kc.nd rfl (Or.inl rfl) (ag aN (ag bg (aD ix_list (pv 0) ac (fun _ _=>rfl)) ac) ac))
  (aa (qT (ag aO (ag aN (ag aO (ag bg (pv 3) ac) ac) ac) ac) (vb (pv 0) ac nn))
  (ad (am (ag aN (ag wI (ag aO (ag bg (pv 3) ac) (aD ix_list (pv 0) ac (fun _ _=>rfl))) ac) (pv 1))))))),?_⟩
 refine⟨_,rfl,f,_,0,_,rfl,rfl,zG0 hf,rfl,_,_,rfl,rfl,_,rfl,?_⟩;refine kD (fun c=>?_) (fun c=>?_)
 . refine⟨_,rfl,f,_,0,_,rfl,rfl,zG0 hf,rfl,_,rfl,_,_,rfl,rfl,m0,?_⟩;refine⟨_,rfl,f,_,0,_,rfl,rfl,zG0 hf,rfl,_,rfl,_,_,rfl,rfl,⟨m0,m1⟩,_,rfl,f,_,0,0,rfl,rfl,hf,rfl,?_⟩;refine⟨_,rfl,?_⟩;exact q _ _ (qB0 _ (by omega)) (qF0 _ m0) ⟨_,_,aE,Int.ediv_nonneg o0 (by omega),s0,s1⟩ (SameBut.upd _)
 . have a0:=qB0 (st*69621) (b:=2147483647) (by decide);have a1:=qF0 (st*69621) (b:=2147483647) (by decide);refine⟨_,rfl,f,_,1,_,rfl,rfl,zG0 hf,rfl,_,_,rfl,rfl,.inr ⟨by decide,by decide⟩,_,_,rfl,rfl,(by show(0:Int)<_;decide),?_⟩;refine⟨_,rfl,_,_,rfl,rfl,.inr ⟨by decide,by decide⟩,_,_,rfl,rfl,_,_,rfl,rfl,(by show(0:Int)<_;decide),_,_,rfl,rfl,_,rfl,f,_,1,1,rfl,rfl,hf,rfl,?_⟩;have b0:=qB0 (st*69621 % 2147483647*48271+30103) (b:=2147483646) (by decide);have b1:=qF0 (st*69621 % 2147483647*48271+30103) (b:=2147483646) (by decide);refine⟨_,rfl,_,_,rfl,rfl,.inr ⟨by decide,by decide⟩,_,rfl,f,_,1,_,rfl,rfl,zG0 aE,rfl,_,_,rfl,rfl,_,_,rfl,rfl,⟨by decide,by decide⟩,_,rfl,_,_,rfl,rfl,m0,?_⟩;exact q _ _ (qB0 _ (by omega)) (qF0 _ m0) ⟨_,_,aE,o0,by omega,by omega⟩ (SameBut.upd _)
theorem fh:FnScope ["_law_feed_here","_law_names_here","_law_room","_law_deep","_law_form","_law_more","_law_one","_law_word"] ["_law_feed_here","_law_names_here","_law_room","_law_deep"] (ak jY):=⟨rfl,rfl,rfl,by decide,rfl,by decide,by decide⟩
theorem lf{a X Y B:Prop}[Decidable a](x:X)(h:¬ a->X->B):if decide a=true then(if true=true then X else Y)else B:=by
 by_cases c:a
 . rw[decide_eq_true c];exact dh (dh x)
 . rw[decide_eq_false c];exact cb (h c x)
theorem xh {n:Nat} {f:Addr} {fd:FuncData} (F:Fun K "_law_tree" "_law_tree" jY f fd) (hlen:mg "len"=none) (aP:Cal P w K mg base 1 "_law_take" ["_law_feed_here","_law_many"] spTake)
 (dY:Cal P w K mg base (n+2) "_law_tree" ["_law_feed_here","_law_names_here","_law_room","_law_deep"] (spTree n)):FnOk P w K mg base CX0 (n+3) f fd ["_law_feed_here","_law_names_here","_law_room","_law_deep"] (spTree (n+1)):=by
 refine F.ok fh (fun vs H Q E h=>?_) (fun cdv A outer s H vs Q E hr h=>?_)
 . obtain⟨f,a,room,deep,ns,rfl,_⟩:=h;rfl
 obtain ⟨f,a,room,deep,ns,rfl,hF,hN,nl,r1,r100,d1,dn,q⟩:=h;refine⟨_,(aa (aj (i:=4) fh.nd rfl (Or.inl rfl) (ai aP hr (Nat.succ_le_succ (zW0 _)) rfl (ae (pv 0) (ae ac aI))))
  (aa (aB (PW.pt (cV (af cJ (pv 2) ac (ao _)) (cV (af cJ (pv 3) ac (ao _)) (de (af aH (pv 4) ac (ao _)))))) (aa (aB (PW.pt (cV (af aH (ag aN (pv 4) ac) ac (ao _)) (de (af aH (aA aC rfl hlen PySem.boot_len (ae (pv 1) aI)) ac (ao _))))) (ad (am (aD ix_list (cf (ae (aF (ae ax aI)) (ae (aF (ae ax aI)) aI))) (ai aP hr (Nat.succ_le_succ (zW0 _)) rfl (ae (pv 0) (ae ac aI))) (fun _ _=>rfl)))) aq)
   (ad (am (aF (ae ax (ae (aD (ix_list.or aG) (pv 1) (ai aP hr (Nat.succ_le_succ (zW0 _)) rfl (ae (pv 0) (ae (aA aC rfl hlen PySem.boot_len (ae (pv 1) aI)) aI))) (fun _ _=>rfl)) aI)))))) aq)
  (aa (aB (PW.pt (cV (af cJ (pv 2) ac (ao _)) (de (af aH (pv 4) ac (ao _))))) (ad (am (aF (ae ax (ae (ai dY hr (zH0 _) rfl (ae (pv 0) (ae (pv 1) (ae (ag aQ (pv 2) ac) (ae (ag aQ (pv 3) ac) aI))))) aI))))) aq)
  (aa (aj (i:=5) fh.nd rfl (Or.inl rfl) (ag aO ac (ai aP hr (Nat.succ_le_succ (zW0 _)) rfl (ae (pv 0) (ae (ag aQ (pv 2) ac) aI)))))
  (aa (aj (i:=6) fh.nd rfl (Or.inl rfl) (ai dY hr (zH0 _) rfl (ae (pv 0) (ae (pv 1) (ae (pv 5) (ae (ag aQ (pv 3) ac) aI))))))
  (aa (aj (i:=7) fh.nd rfl (Or.inl rfl) (aD ix_list (cf (ae ax (ae ax (ae ax (ae ax aI))))) (ag aN (pv 4) ac) (fun _ _=>rfl)))
  (ad (am (aF (ae (pv 7) (ae (pv 6) (ae (ai dY hr (zH0 _) rfl (ae (pv 0) (ae (pv 1) (ae (ag aQ (ag aQ (pv 2) ac) (pv 5)) (ae (ag aQ (pv 3) ac) aI))))) aI)))))))))))),?_⟩
 refine⟨_,rfl,f,10,rfl,hF,by decide,by decide,fun fm H1 f0 f10 F1 S1=>?_⟩;have N1:=hN.feed hF S1;refine⟨_,rfl,_,_,rfl,rfl,_,rfl,?_⟩;refine lf ?leaf fun c1 hX=>?_
 case leaf=>
  refine⟨_,rfl,_,_,rfl,rfl,(by show(0:Int)<_;decide),rfl,_,rfl,?_⟩;refine lf ?yn fun c6 hY=>?_
  case yn=>
   refine⟨(by show 1<=sizeLine;decide),fun p1 h1=>?_⟩;refine⟨(by show 1<=sizeLine;decide),fun p2 h2=>?_⟩;refine⟨(by show 2<=sizeLine;decide),fun l hl=>?_⟩;have ga:=zC0 h1 (.tup [.str "yes"]);have gb:=zC0 h2 (.tup [.str "no"]);have gc:=zC0 hl (.lst [.ref p1,.ref p2]);have G:=ga.trans (gb.trans gc);have nlf:=(F1.same (ga.trans gb)).ne hl;refine⟨_,rfl,f,2,rfl,F1.same G,by decide,by decide,fun d H2 d0 d2 F2 S2=>?_⟩;have y2:H2 p1=some (.tup [.str "yes"]):=aU (F1.same G) S2 _ _ (gc _ _ (gb _ _ aE));have n2:H2 p2=some (.tup [.str "no"]):=aU (F1.same G) S2 _ _ (gc _ _ aE);have l2:=S2 l _ nlf aE
   have:d=0∨d=1:=by omega
   rcases this with rfl | rfl
   . exact⟨l,_,0,_,rfl,rfl,zG0 l2,rfl,q (.ref p1) .yes H2 F2 (S1.trans ((zK0 G).trans S2)) (.yes y2) trivial (show(1:Int)<=room from r1) (show(1:Int)<=deep from d1)⟩
   . exact⟨l,_,1,_,rfl,rfl,zG0 l2,rfl,q (.ref p2) .no H2 F2 (S1.trans ((zK0 G).trans S2)) (.no n2) trivial (show(1:Int)<=room from r1) (show(1:Int)<=deep from d1)⟩
  refine⟨_,rfl,a,_,rfl,N1.seq,rfl,_,rfl,?_⟩
  by_cases c7:V.int ((ns.map V.str).length:Int)=V.int 0
  . exact aS c7 hY
  refine au c7 ?_;have nz:0<ns.length:=by
   have z:¬ ((ns.map V.str).length:Int)=0:=fun z=>c7 (congrArg V.int z)
   rw[zF0]at z;omega
  refine⟨_,rfl,_,rfl,_,rfl,a,_,rfl,N1.seq,f,_,rfl,F1,(show(0:Int)<((ns.map V.str).length:Int) by rw[zF0];omega),by rw[zF0];omega,fun d H2 d0 d9 F2 S2=>?_⟩;obtain⟨v,hv,vm⟩:=lV (l:=ns.map V.str) (i:=d) d0 d9;obtain⟨x,hx,rfl⟩:=List.mem_map.mp vm;refine(N1.feed F1 S2).ix hv ?_;refine⟨(by show 2<=sizeLine;decide),fun p hp=>?_⟩;have G:=zC0 hp (.tup [.str "is",.str x]);exact q (.ref p) (.is x) _ (F2.same G) (S1.trans (S2.trans (zK0 G))) (.is aE) hx (show(1:Int)<=room from r1) (show(1:Int)<=deep from d1)
 refine⟨_,rfl,_,_,rfl,rfl,_,rfl,?_⟩
 by_cases c2:deep<2
 . exact aS c2 (dh hX)
 refine au c2 ?_;refine⟨_,rfl,rfl,_,rfl,?_⟩
 by_cases c3:V.int fm=V.int 9
 . exact aS c3 hX
 refine au c3 ?_;refine⟨_,rfl,_,_,rfl,rfl,_,rfl,?_⟩;have d2:2<=deep:=by omega
 have dd:1<=deep-1:=by omega
 have ddn:deep-1+1<=(n:Int)+1:=by omega
 refine lf ?nt fun c4 hN=>?_
 case nt=>
  refine⟨_,rfl,_,rfl,_,rfl,_,_,rfl,rfl,_,rfl,_,_,rfl,rfl,f,a,_,_,ns,rfl,F1,N1,nl,(show 1<=room-1 by omega),by omega,dd,ddn,fun v1 t1 H3 F3 S3 T1 o1 z1 p1=>?_⟩;refine⟨(by show 2<=sizeLine;decide),fun p hp=>?_⟩;have G5:=zC0 hp (.tup [.str "not",v1]);refine q (.ref p) (.not t1) _ (F3.same G5) (S1.trans (S3.trans (zK0 G5))) (.not aE (T1.mono (aV G5))) o1 ?_ ?_
  . show((t1.size+1:Nat):Int)<=room;omega
  . show((t1.depth+1:Nat):Int)<=deep;omega
 refine⟨_,rfl,rfl,_,rfl,?_⟩
 by_cases c5:V.int fm=V.int 8
 . exact aS c5 hN
 refine au c5 ?_;refine⟨_,rfl,_,rfl,_,_,rfl,rfl,f,_,rfl,F1,(show(0:Int)<room-2 by omega),(show room-2<2 ^ 63 by omega),fun e H2 e0 e1 F2 S2=>?_⟩;refine⟨_,_,rfl,rfl,?_⟩;have N2:=N1.feed F1 S2;refine⟨_,rfl,_,rfl,_,rfl,_,rfl,_,_,rfl,rfl,f,a,_,_,ns,rfl,F2,N2,nl,by omega,by omega,dd,ddn,fun v1 t1 H3 F3 S3 T1 o1 z1 p1=>?_⟩;have N3:=N2.feed F2 S3;refine⟨(by show 4<=sizeLine;decide),fun l hl=>?_⟩;obtain⟨wd,hw,wm⟩:=lV (l:=joinW.map V.str) (i:=fm % 4) (by omega) (by
  have:(joinW.map V.str).length=4:=by rfl
  omega)
 obtain⟨x,hx,rfl⟩:=List.mem_map.mp wm;refine⟨_,rfl,_,_,rfl,rfl,(by show(0:Int)<_;decide),l,_,_,_,rfl,rfl,zG0 aE,hw,?_⟩;have G:=zC0 hl (.lst [.str "and",.str "or",.str "odd",.str "same"]);refine⟨_,rfl,_,rfl,_,rfl,_,rfl,_,rfl,_,_,rfl,rfl,_,rfl,_,_,rfl,rfl,_,rfl,_,_,rfl,rfl,f,a,_,_,ns,rfl,F3.same G,N3.same G,nl,(show 1<=room-1-(1+e) by omega),by omega,dd,ddn,fun v2 t2 H4 F4 S4 T2 o2 z2 p2=>?_⟩;refine⟨(by show 3<=sizeLine;decide),fun p hp=>?_⟩;have G5:=zC0 hp (.tup [.str x,v1,v2]);have T1':TreeAt H4 v1 t1:=(T1.mono (aV G)).mono (aU (F3.same G) S4);refine q (.ref p) (.bin x t1 t2) _ (F4.same G5) (S1.trans (S2.trans (S3.trans ((zK0 G).trans (S4.trans (zK0 G5)))))) (.bin aE (T1'.mono (aV G5)) (T2.mono (aV G5))) ⟨hx,o1,o2⟩ ?_ ?_
 . show((t1.size+t2.size+1:Nat):Int)<=room;omega
 . show((max t1.depth t2.depth+1:Nat):Int)<=deep;omega
theorem xg {f:Addr} {fd:FuncData}:FnOk P w K mg base CX0 2 f fd ["_law_feed_here","_law_names_here","_law_room","_law_deep"] (spTree 0):=by
 have no:∀vs H Q E,¬ spTree 0 vs H Q E:=fun vs H Q E h=>by
  obtain⟨f,a,room,deep,ns,_,_,_,_,_,_,h1,h2,_⟩:=h;omega
 exact⟨fun vs H Q E h=>absurd h (no vs H Q E),fun A outer s H args us vs Q E _ _ _ _ h=>absurd h (no vs H Q E)⟩
theorem pY {f:Addr} {fd:FuncData} (F:Fun K "_law_tree" "_law_tree" jY f fd) (hlen:mg "len"=none) (m:mg "_law_tree"=some (.ref f)) (aP:Cal P w K mg base 1 "_law_take" ["_law_feed_here","_law_many"] spTake) :
 ∀n:Nat,FnOk P w K mg base CX0 (n+2) f fd ["_law_feed_here","_law_names_here","_law_room","_law_deep"] (spTree n)
 | 0=>xg
 | n+1=>xh F hlen aP (Cal.of F (pY F hlen m aP n) m (fun _ _ _ _ _ _ us hl=>by obtain⟨u0,u1,u2,u3,rfl⟩:=Ck hl;rfl))
def Ec:Stmt->List Stmt
 | .If _ b _ _=>b
 | _=>[]
def Eb:Stmt->Expr
 | .If c _ _ _=>c
 | _=>.Constant .none 0 ⟨0,0,0,0⟩
def yM:Stmt->Expr
 | .Assign _ v _=>v
 | .Return (some v) _=>v
 | _=>.Constant .none 0 ⟨0,0,0,0⟩
def vR:Expr->List Expr
 | .List es _=>es
 | .BinOp _ _ (.List es _) _=>es
 | .Subscript (.List es _) _ _=>es
 | _=>[]
abbrev stm(s:Stmt)(i:Nat):Stmt:=(eF s).getD i (.Pass ⟨0,0,0,0⟩)
abbrev By(s:Stmt)(i j:Nat):Stmt:=(Ec (stm s i)).getD j (.Pass ⟨0,0,0,0⟩)
def wordsA:List Str:=["is","set","say","if","go","end","num","box","op","field","holds","claims"]
def wordsB:List Str:=["nota","nob","yesx","andy","ors","oddly"]
def wordsC:List Str:=["samey","rounds","dues","coins","truex","asks"]
@[irreducible] def vC:List Expr:=vR (yM (By bm 6 0))
@[irreducible] def vB:List Expr:=vR (yM (By bm 6 1))
@[irreducible] def vA:List Expr:=vR (yM (By bm 6 2))
theorem Ao:Consts vC wordsA:=by
 unfold vC;exact .cons (.cons (.cons (.cons (.cons (.cons (.cons (.cons (.cons (.cons (.cons (.cons .nil)))))))))))
theorem An:Consts vB wordsB:=by
 unfold vB;exact .cons (.cons (.cons (.cons (.cons (.cons .nil)))))
theorem Am:Consts vA wordsC:=by
 unfold vA;exact .cons (.cons (.cons (.cons (.cons (.cons .nil)))))
theorem vz:∃p1 p2 p3 p4 p5 p6 p7 p8 p9 q1 q2 q3 q4 q5,eF bm=[stm bm 0,stm bm 1,stm bm 2,stm bm 3,stm bm 4,stm bm 5,
 .If (Eb (stm bm 6)) [.Assign [.Name "_law_words" p1] (.List vC p2) p3,.Assign [.Name "_law_words" p4] (.BinOp (.Name "_law_words" p5) .Add (.List vB p6) p7) p8,.Assign [.Name "_law_words" p9] (.BinOp (.Name "_law_words" q1) .Add (.List vA q2) q3) q4,By bm 6 3] [] q5,stm bm 7]:=
 ⟨_,_,_,_,_,_,_,_,_,_,_,_,_,_,by rfl'⟩
def LTR:Str:="bcdfghjklmnpqrstvwxz"
theorem DQ:∀c∈LTR.cps.toList,c≠97:=by decide
theorem vI:∀c∈LTR.cps.toList,97<=c/\c<=122:=by decide
theorem yG:∀x∈(wordsA++wordsB)++wordsC,x.length<=20/\(∀c∈x.cps.toList,97<=c/\c<=122)/\x≠"aa":=by decide
inductive spNamesN(vs:List V)(H:Hp)(Q:VK)(u_3:XK):Prop where
 | mk:∀(f:Addr)(m:Int),(vs=[.ref f,.int m])->(FeedAt H f)->(0<=m)->(m<=6)->(∀(l:Addr)(ns:List Str)(H':Hp),H l=none->l≠f->H' l=some (.lst (ns.map V.str))->ns.length=m.toNat->(∀x∈ns,vZ x)->ns.Nodup->FeedAt H' f->SameBut f H H'->Q (.ref l) H')->spNamesN vs H Q u_3
theorem wW:∀x∈(wordsA++wordsB)++wordsC,∃c∈x.cps.toList,c∉LTR.cps.toList:=by decide
theorem Ch:∀a b:Fin 20,LTR.cps.toList[a.val]?=LTR.cps.toList[b.val]?->a=b:=by decide
theorem Aj{ns:List Str}{t:Nat}{u:Int}(u0:0<=u)(u20:u<20)(hl:ns.length<=6)(h:∀(k:Nat) x,ns[k]?=some x->x.cps.toList[t]?=LTR.cps.toList[((u+7*(k:Int)) % 20).toNat]?):ns.Nodup:=by
 refine List.pairwise_iff_getElem.mpr fun i j hi hj ij e=>?_
 have h1:=h i _ (zR0 hi);have h2:=h j _ (zR0 hj);rw[e]at h1;have h3:=h1.symm.trans h2;have h4:=Ch ⟨((u+7*(i:Int)) % 20).toNat,by omega⟩ ⟨((u+7*(j:Int)) % 20).toNat,by omega⟩ h3;have h5:=congrArg Fin.val h4;simp only at h5;omega
theorem DL{ns:List Str}{x:Str}{j:Nat}(h:ns.Nodup)(hx:x∉ns):(ns.set j x).Nodup:=by
 refine List.pairwise_iff_getElem.mpr fun a b ha hb ab=>?_
 rw[List.length_set]at ha hb;rw[List.getElem_set,List.getElem_set]
 split
 . split
   . omega
   . intro e;exact hx (e▸qR0 hb)
 . split
   . intro e;exact hx (e▸qR0 ha)
   . exact List.pairwise_iff_getElem.mp h a b ha hb ab
theorem Ey{α:Type}{l:List α}{i:Int}{v:α}(h0:0<=i)(h:atI l i=some v):l[i.toNat]?=some v:=by
 have ek:((i.toNat:Nat):Int)=i:=by omega
 by_cases c:i.toNat<l.length
 . have q:atI l ((i.toNat:Nat):Int)=some l[i.toNat]:=cH (zR0 c);rw[ek,h]at q;rw[zR0 c];exact q.symm
 . exfalso
   unfold atI ixN at h;rw[zE0 h0,zB0 (by omega)]at h;cases h
theorem yV{zs:List Str}(h:∀z∈zs,z.length=1/\∀c∈z.cps.toList,c∈LTR.cps.toList):(zs.map (·.length)).sum=zs.length:=by
 induction zs with
 | nil=>rfl
 | cons a r ih=>
   rw[zZ0,List.sum_cons,ih fun z hz=>h z (qH0 _ hz),(h a zU0).1,zQ0];omega
theorem a8:FnScope ["_law_feed_here","_law_many","_law_letters","_law_common","_law_at","_law_first","_law_found","_law_k","_law_tail","_law_sign","_law_words"] ["_law_feed_here","_law_many"] (ak bm):=⟨rfl,rfl,rfl,by decide,rfl,by decide,by decide⟩
theorem oU{H:Hp}{f p:Addr}{o:HO}(F:FeedAt H f)(h:p≠f):FeedAt (upd H p o) f:=by
 obtain⟨x,t,e,r⟩:=F;exact⟨x,t,by rw[av (Ne.symm h)];exact e,r⟩
theorem vk {f:Addr} {fd:FuncData} (F:Fun K "_law_names" "_law_names" bm f fd) (hrange:mg "range"=none) (aP:Cal P w K mg base 1 "_law_take" ["_law_feed_here","_law_many"] spTake):FnOk P w K mg base CX0 2 f fd ["_law_feed_here","_law_many"] spNamesN:=by
 refine F.ok a8 (fun vs H Q E h=>?_) (fun cdv A outer s H vs Q E hr h=>?_)
 . obtain⟨f,m,rfl,_⟩:=h;rfl
 obtain ⟨f,m,rfl,hF,m0,m6,q⟩:=h;obtain⟨p1,p2,p3,p4,p5,p6,p7,p8,p9,q1,q2,q3,q4,q5,ebody⟩:=vz;rw[ebody];refine⟨_,(aa (aj (i:=2) a8.nd rfl (Or.inr rfl) ax)
  (aa (aj (i:=3) a8.nd rfl (Or.inl rfl) (dH PySem.F.plainAttrs_str PySem.F.slot_str_join PySem.F.type_str_join Ce ax (ae (cr (N:=["_law_letters","_law_feed_here"]) (ix:=[2,0]) rfl
   (CompScope.two (by rfl') (by decide) rfl (by decide) rfl (by decide) (by first | exact Or.inl rfl | exact Or.inr rfl) (by rfl') (by rfl') (by rfl') (by rfl') rfl rfl (by rfl') rfl rfl) rfl
   (cx rfl hrange (ae ac aI))
   (fun _ _ _=>df (aD rG (pv 1) (ai aP hr (by decide) rfl (ae (pv 2) (ae ac aI))) (fun _ _=>rfl)))) aI)))
  (aa (aj (i:=4) a8.nd rfl (Or.inl rfl) (ai aP hr (by decide) rfl (ae (pv 0) (ae ac aI))))
  (aa (aj (i:=5) a8.nd rfl (Or.inl rfl) (ai aP hr (by decide) rfl (ae (pv 0) (ae ac aI))))
  (aa (aj (i:=6) a8.nd rfl (Or.inl rfl) (cf aI))
  (aa (cE PassesOwn.never rfl (cx rfl hrange (ae (pv 1) aI)) (bi (i:=7) a8.nd rfl (Or.inl rfl)) (aa (aj (i:=8) a8.nd rfl (Or.inl rfl) (ag aN (ai aP hr (by decide) rfl (ae (pv 0) (ae (ag aQ ac (pv 4)) aI))) ac))
   (aa (aj (i:=9) a8.nd rfl (Or.inl rfl) (aD rG (pv 2) (ag aN (ag aO (pv 5) (ag bg ac (pv 7))) ac) (fun _ _=>rfl)))
   (ad (bc (dH PySem.F.plainAttrs_list PySem.F.slot_list_append PySem.F.type_list_append bY (pv 6) (ae (ag oA (ag oA (fK uI (pv 3) mr (eE (pv 4))) (pv 9)) (fK uI (pv 3) (eE (pv 4)) (eE (ag aO (pv 4) (pv 8))))) aI)))))))
  (aa (aB (PW.pt (oa (af gB (pv 1) ac (ao _)) (mq (af aH (ai aP hr (by decide) rfl (ae (pv 0) (ae ac aI))) ac (ao _))))) (aa (aj (i:=10) a8.nd rfl (Or.inl rfl) (cf (jj Ao)))
   (aa (aj (i:=10) a8.nd rfl (Or.inl rfl) (ag lr (pv 10) (cf (jj An))))
   (aa (aj (i:=10) a8.nd rfl (Or.inl rfl) (ag lr (pv 10) (cf (jj Am))))
   (ad (qT (aD ix_list (pv 10) (ai aP hr (by decide) rfl (ae (pv 0) (ae ac aI))) (fun _ _=>rfl)) (vb (pv 6) (ai aP hr (by decide) rfl (ae (pv 0) (ae (pv 1) aI))) nn)))))) aq)
  (ad (am (pv 6)))))))))),?_⟩
 refine⟨rfl,5,rfl,by decide,by decide,fun D hD=>?_⟩;have Df:=hF.ne hD;have L20:LTR.cps.toList.length=20:=by decide
 refine fO (fun i H'=>∃zs:List Str,H' D=some (.lst (zs.map V.str))/\zs.length=i/\(∀z∈zs,z.length=1/\∀c∈z.cps.toList,c∈LTR.cps.toList)/\FeedAt H' f/\SameBut f H H') ⟨[],by rw[aE];rfl,rfl,by simp,hF.same (zC0 hD _),zK0 (zC0 hD _)⟩ ?_ ?_
 . rintro i H3 hi ⟨zs,hl,zl,z1,F3,S3⟩;have i5:i<5:=hi;refine⟨_,rfl,_,rfl,f,20,rfl,F3,by decide,by decide,fun d H4 d0 d26 F4 S4=>?_⟩;obtain⟨c,hc,hm⟩:=lV (l:=LTR.cps.toList) (i:=d) d0 (by rw[L20];exact d26);have hD4:H4 D=some (.lst (zs.map V.str)):=S4 D _ Df hl;refine⟨_,d,c,rfl,rfl,bv (by decide),hc,_,hD4,?_,Nx.of hi ⟨zs++[⟨#[c]⟩],?_,?_,?_,oU F4 Df,?_⟩⟩
   . rw[zF0,zl];exact aM (Nat.le_of_lt (Nat.lt_trans i5 (by decide)))
   . rw[aE,zL0];rfl
   . rw[zJ0,qN0,zl]
   . intro z hz;rcases qD0 hz with h | h
     . exact z1 z h
     . rw [zM0 h];refine⟨rfl,fun c' hc'=>?_⟩
       have:c'=c:=by simpa using hc'
       subst this;exact hm
   . intro b o hb e;rw[av (aJ e hD)];exact S4 b o hb (S3 b o hb e)
 rintro H3 ⟨zs,hl,zl,z1,F3,S3⟩;have sl:=yV z1;have zl5:zs.length=5:=zl;refine⟨_,D,zs,rfl,rfl,zG0 hl,(by decide),by omega,?_⟩;have jl:(Txt.join "" zs).length=5:=by
  have:=size_glued "" zs
  have e0:(("":Str)).length=0:=by decide
  rw[e0,Nat.mul_zero]at this;show(Builtin.Str.glued "" zs).length=5;omega
 have jc:∀c∈(Txt.join "" zs).cps.toList,c∈LTR.cps.toList:=fun c hc=>by
  obtain⟨z,hz,h⟩:=xZ hc;exact(z1 z hz).2 c h
 generalize Txt.join "" zs=cm at jl jc;refine⟨_,rfl,f,6,rfl,F3,by decide,by decide,fun t H4 t0 t6 F4 S4=>?_⟩;refine⟨_,rfl,f,20,rfl,F4,by decide,by decide,fun u H5 u0 u20 F5 S5=>?_⟩;refine⟨(by show 0<=sizeLine;decide),fun L hL=>?_⟩;have S05:SameBut f H H5:=S3.trans (S4.trans S5);have Lf:=F5.ne hL;have L0:H L=none:=by
  cases e:H L with
  | none=>rfl
  | some o=>rw[S05 L o Lf e]at hL;cases hL
 refine ⟨_,rfl,m,rfl,by omega,by omega,eC (fun i σ H'=>∃(x7 x8 x9:Option V)(ns:List Str),σ=[some (.ref f),some (.int m),some (.str LTR),some (.str cm),some (.int t),some (.int u),some (.ref L),x7,x8,x9,none]/\H' L=some (.lst (ns.map V.str))/\ns.length=i/\(∀x∈ns,vZ x)/\(∀x∈ns,∀c∈x.cps.toList,c∈LTR.cps.toList)/\(∀(k:Nat) x,ns[k]?=some x->x.cps.toList[t.toNat]?=LTR.cps.toList[((u+7*(k:Int)) % 20).toNat]?)/\FeedAt H' f/\SameBut f H H')
  ⟨_,_,_,[],rfl,by rw[aE];rfl,rfl,by simp,by simp,by simp,F5.same (zC0 hL _),S05.trans (zK0 (zC0 hL _))⟩ ?_ ?_⟩
 . rintro i σ H6 hi ⟨x7,x8,x9,ns,rfl,hns,nl,nok,nlt,nat,F6,S6⟩;refine⟨_,rfl,_,rfl,_,_,rfl,rfl,f,_,rfl,F6,(Int.sub_pos_of_lt t6),(Int.lt_of_le_of_lt (Int.sub_le_self 6 t0) (by decide)),fun d H7 d0 d1 F7 S7=>?_⟩;refine⟨_,_,rfl,rfl,(by show(0:Int)<_;decide),?_⟩;obtain⟨c,hc,hm⟩:=lV (l:=LTR.cps.toList) (i:=(u+7*(0+(i:Int))) % 20) (qB0 _ (by decide)) (by rw[L20];exact qF0 _ (by decide));refine⟨_,rfl,_,rfl,_,rfl,_,_,rfl,rfl,?_,_,_,rfl,rfl,_,_,rfl,rfl,(by show(0:Int)<_;decide),_,_,c,rfl,rfl,bv (by decide),hc,?_⟩
   . exact .inl ⟨by decide,by decide⟩
   have hL7:=S7 L _ Lf hns;have z1:(Txt.slice cm none (some t)).length<=cm.length:=Txt.slice_le cm none (some t);have z2:(Txt.slice cm (some t) (some (t+d % 3))).length<=cm.length:=Txt.slice_le cm _ _;have z3:((⟨#[c]⟩:Str)).length=1:=rfl;refine⟨_,rfl,.inl ⟨rfl,_,zG0 hL7⟩,?_⟩;refine⟨_,rfl,_,rfl,_,rfl,_,rfl,bv (by rw[jl];decide),_,rfl,_,_,rfl,rfl,bv (by rw[z3];omega),?_⟩;refine⟨_,rfl,_,rfl,_,rfl,_,rfl,_,rfl,_,_,rfl,rfl,_,rfl,_,rfl,bv (by rw[jl];decide),_,_,rfl,rfl,bv (by rw[Str.length_append,z3];omega),?_⟩;refine⟨L,_,_,rfl,rfl,hL7,?_,?_⟩
   . rw[zF0];exact aM (by omega)
   refine⟨_,_,_,ns++[(Txt.slice cm none (some t)++⟨#[c]⟩)++Txt.slice cm (some t) (some (t+d % 3))],rfl,?_,?_,?_,?_,?_,oU F7 Lf,?_⟩
   . rw[aE,zL0];rfl
   . rw[zJ0,qN0,nl]
   . intro x hx;rcases qD0 hx with h | h
     . exact nok x h
     . rw [zM0 h];refine⟨?_,fun c' hc'=>?_,fun ea=>?_⟩
       . rw[Str.length_append,Str.length_append,z3];omega
       rotate_left
       . have cm1:c∈(((Txt.slice cm none (some t)++⟨#[c]⟩)++Txt.slice cm (some t) (some (t+d % 3)):Str)).cps.toList:=by
          rw[Str.cps_append,Str.cps_append]
          simp
         rw[ea]at cm1;exact DQ c hm ((by decide:∀c∈(("aa":Str)).cps.toList,c=97) c cm1)
       . rcases mem_append hc' with h | h
         . rcases mem_append h with h | h
           . exact vI _ (jc _ (jo h))
           . have:c'=c:=by simpa using h
             subst this;exact vI _ hm
         . exact vI _ (jc _ (jo h))
   . intro x hx c' hc';rcases qD0 hx with h | h
     . exact nlt x h c' hc'
     . rw [zM0 h]at hc';rcases mem_append hc' with h | h
       . rcases mem_append h with h | h
         . exact jc _ (jo h)
         . have:c'=c:=by simpa using h
           subst this;exact hm
       . exact jc _ (jo h)
   . intro k x hx
     by_cases ck:k<ns.length
     . rw[List.getElem?_append_left ck]at hx;exact nat k x hx
     . have kl:k<(ns++[(Txt.slice cm none (some t)++⟨#[c]⟩)++Txt.slice cm (some t) (some (t+d % 3))]).length:=(zX0 hx).1;rw[zJ0,qN0]at kl;have ek:k=i:=by omega
       subst ek;rw[List.getElem?_append_right (by omega),nl,Nat.sub_self]at hx;have ex:(Txt.slice cm none (some t)++⟨#[c]⟩)++Txt.slice cm (some t) (some (t+d % 3))=x:=zV0 hx;rw[←ex];have cl:cm.cps.toList.length=5:=jl;have es:Txt.slice cm none (some t)=⟨((cm.cps.toList.drop 0).take (t-0).toNat).toArray⟩:=StrLaws.sliceText_to ⟨t0,by omega⟩;have el:(Txt.slice cm none (some t)).cps.toList.length=t.toNat:=by
        rw[es];simp only[List.drop_zero,Int.sub_zero,qM0];omega
       have ea:((Txt.slice cm none (some t)++⟨#[c]⟩)++Txt.slice cm (some t) (some (t+d % 3))).cps.toList=(Txt.slice cm none (some t)).cps.toList++([c]++(Txt.slice cm (some t) (some (t+d % 3))).cps.toList):=by
        rw[Str.cps_append,Str.cps_append]
        simp
       rw[ea,List.getElem?_append_right (by omega),el,Nat.sub_self];have hc2:LTR.cps.toList[((u+7*(0+(k:Int))) % 20).toNat]?=some c:=Ey (qB0 _ (by decide)) hc;rw[Int.zero_add]at hc2;rw[hc2];rfl
   . intro b o hb e;rw[av (aJ e L0)];exact S7 b o hb (S6 b o hb e)
 . rintro σ H6 ⟨x7,x8,x9,ns,rfl,hns,nl,nok,nlt,nat,F6,S6⟩;have nnd:ns.Nodup:=Aj u0 u20 (by omega) nat;refine⟨_,rfl,_,_,rfl,rfl,_,rfl,?_⟩;have fin:∀H':Hp,∀ns:List Str,H' L=some (.lst (ns.map V.str))->ns.length=m.toNat->(∀x∈ns,vZ x)->ns.Nodup->FeedAt H' f->SameBut f H H'->Q (.ref L) H':=fun H' ns a b c nd d e=>q L ns H' L0 Lf a b c nd d e
   by_cases c1:(0:Int)<m
   . refine aS c1 ?_;refine⟨_,rfl,f,3,rfl,F6,by decide,by decide,fun d H7 d0 d1 F7 S7=>?_⟩;refine⟨rfl,_,rfl,?_⟩;have hL7:=S7 L _ Lf hns;refine kD (fun _=>?_) (fun _=>?_)
     . refine ⟨(by show 12<=sizeLine;decide),fun l1 h1=>?_⟩;refine⟨_,rfl,(by show 6<=sizeLine;decide),fun l2 h2=>?_⟩;refine⟨l1,l2,wordsA.map V.str,wordsB.map V.str,rfl,rfl,zC0 h2 _ _ _ aE,aE,(by show 18<=sizeLine;decide),fun l3 h3=>?_⟩;refine⟨_,rfl,(by show 6<=sizeLine;decide),fun l4 h4=>?_⟩;refine⟨l3,l4,wordsA.map V.str++wordsB.map V.str,wordsC.map V.str,rfl,rfl,zC0 h4 _ _ _ aE,aE,(by show 24<=sizeLine;decide),fun l5 h5=>?_⟩;have G:=(zC0 h1 (.lst (wordsA.map V.str))).trans ((zC0 h2 (.lst (wordsB.map V.str))).trans ((zC0 h3 (.lst (wordsA.map V.str++wordsB.map V.str))).trans ((zC0 h4 (.lst (wordsC.map V.str))).trans (zC0 h5 (.lst ((wordsA.map V.str++wordsB.map V.str)++wordsC.map V.str))))));have F8:=F7.same G;have n5:=(F7.same ((zC0 h1 (.lst (wordsA.map V.str))).trans ((zC0 h2 (.lst (wordsB.map V.str))).trans ((zC0 h3 (.lst (wordsA.map V.str++wordsB.map V.str))).trans (zC0 h4 (.lst (wordsC.map V.str))))))).ne h5;refine⟨_,rfl,_,rfl,f,24,rfl,F8,by decide,by decide,fun e H9 e0 e1 F9 S9=>?_⟩;obtain⟨v,hv,vm⟩:=lV (l:=(wordsA.map V.str++wordsB.map V.str)++wordsC.map V.str) (i:=e) e0 (by
        have:((wordsA.map V.str++wordsB.map V.str)++wordsC.map V.str).length=24:=by rfl
        omega)
       rw[←zL0,←zL0]at vm;obtain⟨x,hx,rfl⟩:=List.mem_map.mp vm;refine⟨l5,_,e,_,rfl,rfl,zG0 (S9 l5 _ n5 aE),hv,?_⟩;refine⟨_,rfl,_,rfl,_,rfl,f,m,rfl,F9,c1,by omega,fun j H10 j0 j1 F10 S10=>?_⟩;have hL10:=S10 L _ Lf (S9 L _ Lf (G L _ hL7));refine⟨L,_,j,j.toNat,rfl,rfl,hL10,?_,?_⟩
       . have jl:j<((ns.map V.str).length:Int):=by rw[zF0];omega
         unfold ixN;rw[zE0 j0,zE0 jl]
       refine⟨_,rfl,?_⟩;refine fin _ (ns.set j.toNat x) (by rw[aE,List.map_set]) (by rw[List.length_set];exact nl) ?_ ?_ (oU F10 Lf) ?_
       . intro y hy;rcases List.mem_or_eq_of_mem_set hy with h | h
         . exact nok y h
         . rw[h];exact yG x hx
       . refine DL nnd fun hm=>?_
         obtain⟨c,c1,c2⟩:=wW x hx;exact c2 (nlt x hm c c1)
       . intro b o hb e';rw[av (aJ e' L0)];exact S10 b o hb (S9 b o hb (G b o (S7 b o hb (S6 b o hb e'))))
     . refine⟨_,rfl,?_⟩;exact fin H7 ns hL7 nl nok nnd F7 (S6.trans S7)
   . refine au c1 ?_;refine cb ?_;refine⟨_,rfl,?_⟩;exact fin H6 ns hns nl nok nnd F6 S6
theorem ei{x:Str}:∀{ns:List Str},x∈ns->∃j,cI x ns=some j/\j<ns.length
 | [],h=>by cases h
 | a::r,h=>by
   unfold cI
   by_cases c:a=x
   . exact⟨0,by rw[zE0 c],by simp⟩
   . rw [zB0 c];rcases zY0 h with e | e
     . exact absurd e.symm c
     . obtain⟨j,h1,h2⟩:=ei e;exact⟨j+1,by rw[h1];rfl,by simpa using h2⟩
theorem fU{a b:Str}(h:V.str a=V.str b):a=b:=by injection h
def cW (p:Int) (o:Str) (x y:Int):Int:=if o="and" then x*y % p else if o="or" then(x+y-x*y) % p else if o="odd" then(x+y-2*(x*y)) % p else(1-(x+y-2*(x*y))) % p
def Tr.worth(ns:List Str)(pt:List Int)(p:Int):Tr->Int
 | .is x=>match cI x ns with | some j=>pt.getD j 0 | none=>0
 | .yes=>1
 | .no=>0
 | .not a=>(1-a.worth ns pt p) % p
 | .bin o a b=>cW p o (a.worth ns pt p) (b.worth ns pt p)
def eM(pt:List Int)(p:Int):Prop:=∀x∈pt,0<=x/\x<p
theorem yh{p:Int}(hp:0<p)(o:Str)(x y:Int):0<=cW p o x y/\cW p o x y<p:=by
 have key:∀z:Int,0<=z % p/\z % p<p:=fun z=>⟨qB0 _ (by omega),qF0 _ hp⟩
 unfold cW
 repeat' split
 all_goals exact key _
theorem oS{l:List Int}{j:Nat}(h:j<l.length):l.getD j 0=l[j]:=by
 rw[qT0,zR0 h];rfl
theorem worth_rng{ns:List Str}{pt:List Int}{p:Int}(hp:1<p)(h:eM pt p)(hl:pt.length=ns.length):∀t:Tr,t.ok ns->0<=t.worth ns pt p/\t.worth ns pt p<p
 | .is x,ok=>by
   obtain⟨j,hj,jl⟩:=ei ok;show 0<=(match cI x ns with | some j=>pt.getD j 0 | none=>0)/\(match cI x ns with | some j=>pt.getD j 0 | none=>0)<p;rw[hj];show 0<=pt.getD j 0/\pt.getD j 0<p;rw[oS (by omega)];exact h _ (qR0 _)
 | .yes,_=>⟨by show(0:Int)<=1;decide,hp⟩
 | .no,_=>⟨Int.le_refl 0,by show(0:Int)<p;omega⟩
 | .not a,_=>⟨qB0 _ (by omega),qF0 _ (by omega)⟩
 | .bin o a b,_=>yh (by omega) _ _ _
inductive spJW(vs:List V)(H:Hp)(Q:VK)(u_3:XK):Prop where
 | mk:∀(o:Str)(x y p:Int),(vs=[.str o,.int x,.int y,.int p])->(0<=x)->(x<p)->(p<2 ^ 40)->(Q (.int (cW p o x y)) H)->spJW vs H Q u_3
theorem eO:FnScope ["word","first","second","p","both","odd"] ["word","first","second","p"] (ak fq):=⟨rfl,rfl,rfl,by decide,rfl,by decide,by decide⟩
theorem mf {f:Addr} {fd:FuncData} (F:Fun K "joined_worth" "joined_worth" fq f fd):FnOk P w K mg base CX0 1 f fd ["word","first","second","p"] spJW:=by
 refine F.ok eO (fun vs H Q E h=>?_) (fun cdv A outer s H vs Q E hr h=>?_)
 . obtain⟨o,x,y,p,rfl,_⟩:=h;rfl
 obtain ⟨o,x,y,p,rfl,x0,xp,pb,k⟩:=h;refine⟨_,(aa (aj (i:=4) eO.nd rfl (Or.inl rfl) (ag bg (pv 1) (pv 2)))
  (aa (aB (af aH (pv 0) ax (ao _)) (ad (am (ag aN (pv 4) (pv 3)))) aq)
  (aa (aB (af aH (pv 0) ax (ao _)) (ad (am (ag aN (ag aQ (ag aO (pv 1) (pv 2)) (pv 4)) (pv 3)))) aq)
  (aa (aj (i:=5) eO.nd rfl (Or.inl rfl) (ag aQ (ag aO (pv 1) (pv 2)) (ag bg ac (pv 4))))
  (aa (aB (af aH (pv 0) ax (ao _)) (ad (am (ag aN (pv 5) (pv 3)))) aq)
  (ad (am (ag aN (ag aQ ac (pv 5)) (pv 3))))))))),?_⟩
 refine⟨_,rfl,_,rfl,_,_,rfl,rfl,.inl ⟨by omega,by omega⟩,?_⟩;refine⟨_,rfl,rfl,_,rfl,?_⟩
 by_cases c1:V.str o=V.str "and"
 . refine aS c1 ?_;have e:cW p o x y=x*y % p:=by unfold cW;rw[zE0 (fU c1)]
   rw[e]at k;exact⟨_,rfl,_,rfl,_,_,rfl,rfl,(show(0:Int)<p by omega),k⟩
 refine au c1 ?_;have n1:¬ o="and":=fun z=>c1 (by rw[z])
 refine⟨_,rfl,rfl,_,rfl,?_⟩
 by_cases c2:V.str o=V.str "or"
 . refine aS c2 ?_;have e:cW p o x y=(x+y-x*y) % p:=by unfold cW;rw[zB0 n1,zE0 (fU c2)]
   rw[e]at k;exact⟨_,rfl,_,rfl,_,_,rfl,rfl,_,rfl,_,_,rfl,rfl,_,rfl,_,_,rfl,rfl,(show(0:Int)<p by omega),k⟩
 refine au c2 ?_;have n2:¬ o="or":=fun z=>c2 (by rw[z])
 refine⟨_,rfl,_,rfl,_,_,rfl,rfl,_,rfl,_,_,rfl,rfl,.inl ⟨by decide,by decide⟩,_,_,rfl,rfl,?_⟩;refine⟨_,rfl,rfl,_,rfl,?_⟩
 by_cases c3:V.str o=V.str "odd"
 . refine aS c3 ?_;have e:cW p o x y=(x+y-2*(x*y)) % p:=by unfold cW;rw[zB0 n1,zB0 n2,zE0 (fU c3)]
   rw[e]at k;exact⟨_,rfl,_,rfl,_,_,rfl,rfl,(show(0:Int)<p by omega),k⟩
 refine au c3 ?_;have n3:¬ o="odd":=fun z=>c3 (by rw[z])
 have e:cW p o x y=(1-(x+y-2*(x*y))) % p:=by unfold cW;rw[zB0 n1,zB0 n2,zB0 n3]
 rw[e]at k;exact⟨_,rfl,_,_,rfl,rfl,_,rfl,_,_,rfl,rfl,(show(0:Int)<p by omega),k⟩
inductive spWorth(n:Nat)(vs:List V)(H:Hp)(Q:VK)(u_3:XK):Prop where
 | mk:∀(v:V)(t:Tr)(a b:Addr)(ns:List Str)(pt:List Int)(p:Int),(vs=[v,.ref a,.ref b,.int p])->(TreeAt H v t)->(t.ok ns)->(t.depth<=n)->(NamesAt H a ns)->(H b=some (.tup (pt.map V.int)))->(pt.length=ns.length)->(1<p)->(p<2 ^ 40)->(eM pt p)->(Q (.int (t.worth ns pt p)) H)->spWorth n vs H Q u_3
theorem gO:FnScope ["tree","switches","point","p","word","first"] ["tree","switches","point","p"] (ak gQ):=⟨rfl,rfl,rfl,by decide,rfl,by decide,by decide⟩
theorem uo {n:Nat} {f:Addr} {fd:FuncData} (F:Fun K "worth_of" "worth_of" gQ f fd) (b9:Cal P w K mg base 1 "joined_worth" ["word","first","second","p"] spJW) (dM:Cal P w K mg base (n+2) "worth_of" ["tree","switches","point","p"] (spWorth n)):FnOk P w K mg base CX0 (n+3) f fd ["tree","switches","point","p"] (spWorth (n+1)):=by
 refine F.ok gO (fun vs H Q E h=>?_) (fun cdv A outer s H vs Q E hr h=>?_)
 . obtain⟨v,t,a,b,ns,pt,p,rfl,_⟩:=h;rfl
 obtain⟨v,t,a,b,ns,pt,p,rfl,T,ok,dn,hN,hb,sl,p1,p40,po,k⟩:=h;have p0:(0:Int)<p:=by omega
 refine ⟨_,(aa (aj (i:=4) gO.nd rfl (Or.inl rfl) (aD aG (pv 0) ac (fun _ _=>rfl)))
  (aa (aB (af aH (pv 4) ax (ao _)) (ad (am (ag aN (aD aG (pv 2) (sK PySem.F.plainAttrs_list PySem.F.plainAttrs_tuple (pv 1) (ae (aD aG (pv 0) ac (fun _ _=>rfl)) aI)) (fun _ _=>rfl)) (pv 3)))) aq)
  (aa (aB (af aH (pv 4) ax (ao _)) (ad (am ac)) aq)
  (aa (aB (af aH (pv 4) ax (ao _)) (ad (am ac)) aq)
  (aa (aj (i:=5) gO.nd rfl (Or.inl rfl) (ai dM hr (zH0 _) rfl (ae (aD aG (pv 0) ac (fun _ _=>rfl)) (ae (pv 1) (ae (pv 2) (ae (pv 3) aI))))))
  (aa (aB (af aH (pv 4) ax (ao _)) (ad (am (ag aN (ag aQ ac (pv 5)) (pv 3)))) aq)
  (ad (am (ai b9 hr (by omega) rfl (ae (pv 4) (ae (pv 5) (ae (ai dM hr (zH0 _) rfl (ae (aD aG (pv 0) ac (fun _ _=>rfl)) (ae (pv 1) (ae (pv 2) (ae (pv 3) aI))))) (ae (pv 3) aI))))))))))))),?_⟩
 cases T with
 | @is q x e=>
   refine⟨_,rfl,q,_,0,_,rfl,rfl,zD0 e,rfl,?_⟩;refine⟨_,rfl,rfl,_,rfl,?_⟩;refine aS rfl ?_;obtain⟨j,hj,jl⟩:=ei ok;have jl':j<pt.length:=by omega
   refine⟨_,rfl,_,rfl,a,ns,rfl,hN,_,rfl,q,_,1,_,rfl,rfl,zD0 e,rfl,rfl,x,j,rfl,hj,b,_,(j:Int),.int pt[j],rfl,rfl,zD0 hb,?_,_,rfl,_,_,rfl,rfl,p0,?_⟩
   . refine cH ?_;rw[qE0,zR0 jl'];rfl
   . have e1:(Tr.is x).worth ns pt p=pt[j] % p:=by
      show(match cI x ns with | some j=>pt.getD j 0 | none=>0)=_;rw[hj];show pt.getD j 0=_;rw[oS jl']
      have:=po _ (qR0 jl')
      rw[qS0 this.1 this.2]
     rw[e1]at k;exact k
 | @yes q e=>
   refine⟨_,rfl,q,_,0,_,rfl,rfl,zD0 e,rfl,?_⟩;refine⟨_,rfl,rfl,_,rfl,?_⟩;refine au (by decide) ?_;refine⟨_,rfl,rfl,_,rfl,?_⟩;exact aS rfl k
 | @no q e=>
   refine⟨_,rfl,q,_,0,_,rfl,rfl,zD0 e,rfl,?_⟩;refine⟨_,rfl,rfl,_,rfl,?_⟩;refine au (by decide) ?_;refine⟨_,rfl,rfl,_,rfl,?_⟩;refine au (by decide) ?_;refine⟨_,rfl,rfl,_,rfl,?_⟩;exact aS rfl k
 | @not q u r e T1=>
   have dp:r.depth+1<=n+1:=dn;refine⟨_,rfl,q,_,0,_,rfl,rfl,zD0 e,rfl,?_⟩;refine⟨_,rfl,rfl,_,rfl,?_⟩;refine au (by decide) ?_;refine⟨_,rfl,rfl,_,rfl,?_⟩;refine au (by decide) ?_;refine⟨_,rfl,rfl,_,rfl,?_⟩;refine au (by decide) ?_;refine⟨_,rfl,q,_,1,_,rfl,rfl,zD0 e,rfl,_,rfl,_,rfl,_,rfl,u,r,a,b,ns,pt,p,rfl,T1,ok,by omega,hN,hb,sl,p1,p40,po,?_⟩;refine⟨_,rfl,rfl,_,rfl,?_⟩;refine aS rfl ?_;exact⟨_,rfl,_,_,rfl,rfl,_,rfl,_,_,rfl,rfl,p0,k⟩
 | @bin q o u u2 r r2 e T1 T2=>
   obtain⟨ho,ok1,ok2⟩:=ok;have dp:max r.depth r2.depth+1<=n+1:=dn;have ne:∀z:Str,z∉joinW->¬ V.str o=V.str z:=fun z hz h=>hz (fU h▸ho)
   refine⟨_,rfl,q,_,0,_,rfl,rfl,zD0 e,rfl,?_⟩;refine⟨_,rfl,rfl,_,rfl,?_⟩;refine au (ne _ (by decide)) ?_;refine⟨_,rfl,rfl,_,rfl,?_⟩;refine au (ne _ (by decide)) ?_;refine⟨_,rfl,rfl,_,rfl,?_⟩;refine au (ne _ (by decide)) ?_;refine⟨_,rfl,q,_,1,_,rfl,rfl,zD0 e,rfl,_,rfl,_,rfl,_,rfl,u,r,a,b,ns,pt,p,rfl,T1,ok1,by omega,hN,hb,sl,p1,p40,po,?_⟩;refine⟨_,rfl,rfl,_,rfl,?_⟩;refine au (ne _ (by decide)) ?_;have wr:=worth_rng p1 po sl r ok1;refine⟨_,rfl,_,rfl,_,rfl,q,_,2,_,rfl,rfl,zD0 e,rfl,_,rfl,_,rfl,_,rfl,u2,r2,a,b,ns,pt,p,rfl,T2,ok2,by omega,hN,hb,sl,p1,p40,po,?_⟩;exact⟨_,rfl,o,_,_,p,rfl,wr.1,wr.2,p40,k⟩
theorem uj {f:Addr} {fd:FuncData}:FnOk P w K mg base CX0 2 f fd ["tree","switches","point","p"] (spWorth 0):=by
 have no:∀vs H Q E,¬ spWorth 0 vs H Q E:=fun vs H Q E h=>by
  obtain⟨v,t,_,_,_,_,_,_,_,_,h1,_⟩:=h
  have:=t.depth_pos
  omega
 exact⟨fun vs H Q E h=>absurd h (no vs H Q E),fun A outer s H args us vs Q E _ _ _ _ h=>absurd h (no vs H Q E)⟩
theorem lK {f:Addr} {fd:FuncData} (F:Fun K "worth_of" "worth_of" gQ f fd) (m:mg "worth_of"=some (.ref f)) (b9:Cal P w K mg base 1 "joined_worth" ["word","first","second","p"] spJW) :
 ∀n:Nat,FnOk P w K mg base CX0 (n+2) f fd ["tree","switches","point","p"] (spWorth n)
 | 0=>uj
 | n+1=>uo F b9 (Cal.of F (lK F m b9 n) m (fun _ _ _ _ _ _ us hl=>by obtain⟨u0,u1,u2,u3,rfl⟩:=Ck hl;rfl))
theorem gC{H:Hp}{b:Addr}{ys zs:List V}(h:H b=some (.lst ys)):∀a xs,H a=some (.tup xs)->(upd H b (.lst zs)) a=some (.tup xs):=fun a xs e=>by
 rw[av]
 . exact e
 . intro z;rw[z,h]at e;cases e
theorem at0(x:V)(xs:List V):atI (x::xs) 0=some x:=cH (j:=0) rfl
theorem lQ{ts:List Tr}{i:Nat}{u:Tr}(h:ts[i]?=some u):fN (ts.take (i+1))=fN (ts.take i)++u.names:=by
 unfold fN;rw[qK0,h,zL0,List.flatten_append]
 simp
theorem oG(ts:List Tr):(fN ts).length<=jS ts:=by
 induction ts with
 | nil=>simp [fN,jS]
 | cons a r ih=>
   have:=a.names_len
   simp only[fN,jS,zZ0,List.flatten_cons,zJ0,List.sum_cons]at ih ⊢;omega
theorem nj(ts:List Tr)(i:Nat):jS (ts.take i)<=jS ts:=by
 induction ts generalizing i with
 | nil=>simp
 | cons a r ih=>
   cases i with
   | zero=>simp [jS]
   | succ i=>
     have:=ih i
     simp only[jS,List.take_succ_cons,zZ0,List.sum_cons]at this ⊢;omega
inductive spNO(n:Nat)(vs:List V)(H:Hp)(Q:VK)(u_3:XK):Prop where
 | mk:∀(v:V)(t:Tr),(vs=[v])->(TreeAt H v t)->(t.wf)->(t.depth<=n)->(t.size<=400)->(∀(l:Addr)(H':Hp),H l=none->Same H H'->H' l=some (.lst (t.names.map V.str))->Q (.ref l) H')->spNO n vs H Q u_3
theorem dX:FnScope ["_law_tree_here","_law_found","_law_part"] ["_law_tree_here"] (ak eW):=⟨rfl,rfl,rfl,by decide,rfl,by decide,by decide⟩
theorem Cc {n:Nat} {f:Addr} {fd:FuncData} (F:Fun K "_law_names_of" "_law_names_of" eW f fd) (dJ:Cal P w K mg base (n+2) "_law_names_of" ["_law_tree_here"] (spNO n)):FnOk P w K mg base CX0 (n+3) f fd ["_law_tree_here"] (spNO (n+1)):=by
 refine F.ok dX (fun vs H Q E h=>?_) (fun cdv A outer s H vs Q E hr h=>?_)
 . obtain⟨v,t,rfl,_⟩:=h;rfl
 obtain ⟨v,t,rfl,T,wf,dn,sz,q⟩:=h;refine⟨_,(aa (aB (af aH (aD aG (pv 0) ac (fun _ _=>rfl)) ax (ao _)) (ad (am (cf (ae (aD aG (pv 0) ac (fun _ _=>rfl)) aI)))) aq)
  (aa (aj (i:=1) dX.nd rfl (Or.inl rfl) (cf aI))
  (aa (cE PassesOwn.never rfl (iT (fK qx (pv 0) (eE ac) mr)) (bi (i:=2) dX.nd rfl (Or.inl rfl)) (ad (aj (i:=1) dX.nd rfl (Or.inl rfl) (ag lr (pv 1) (ai dJ hr (zH0 _) rfl (ae (pv 2) aI))))))
  (ad (am (pv 1)))))),?_⟩
 rcases T.view wf with⟨a,x,rfl,rfl,_,e⟩ | ⟨a,o,xs,rfl,no,xl0,e,TS0,nis⟩
 . refine⟨_,rfl,a,_,0,_,rfl,rfl,zD0 e,rfl,rfl,_,rfl,?_⟩;refine aS rfl ?_;refine⟨_,rfl,a,_,1,_,rfl,rfl,zD0 e,rfl,(by show 1<=sizeLine;decide),fun p hp=>?_⟩;exact q p _ hp (zC0 hp _) aE
 . refine ⟨_,rfl,a,_,0,.str o,rfl,rfl,zD0 e,at0 ..,rfl,_,rfl,?_⟩;refine au (fun z=>no (by injection z)) ?_;refine⟨(by show 0<=sizeLine;decide),fun L hL=>?_⟩;have G0:=zC0 hL (.lst []);obtain⟨c1,c2⟩:=cut1 (.str o) xs xl0;refine⟨_,rfl,1,rfl,a,_,rfl,zD0 (G0 _ _ e),c2,fun p hp=>?_⟩;rw[c1];have G1:=zC0 hp (.tup xs);have hp1:upd (upd H L (.lst [])) p (.tup xs) p=some (.tup xs):=aE;have hL1:upd (upd H L (.lst [])) p (.tup xs) L=some (.lst []):=G1 _ _ aE;have S1:Same H (upd (upd H L (.lst [])) p (.tup xs)):=G0.trans G1;generalize upd (upd H L (.lst [])) p (.tup xs)=H1 at hp1 hL1 S1;have TS:=TS0.mono (aV S1);have xl:=TS.length;have sp:=t.size_parts;refine⟨p,rfl,⟨_,zD0 hp1⟩,rK (K:=K) (xs:=xs) (fun i σ H'=>∃(M:Addr)(x2:Option V),σ=[some (.ref a),some (.ref M),x2]/\H M=none/\H' M=some (.lst ((fN (t.parts.take i)).map V.str))/\Same H1 H') ⟨L,_,rfl,hL,hL1,Same.refl _⟩ (fun i σ H' _ hst=>by obtain⟨_,_,_,_,_,h⟩:=hst;exact zD0 (h _ _ hp1)) ?_ ?_⟩
   . rintro i x σ H2 hx ⟨M,x2,rfl,M0,hM,S2⟩;obtain⟨u,hu,Tu⟩:=TS.get hx;have um:=qI0 hu;obtain⟨uw,ud,us⟩:=Tr.parts_mem um wf;refine⟨_,rfl,_,rfl,x,u,rfl,Tu.mono (aV S2),uw,by omega,by omega,fun l H3 l0 S3 hl3=>?_⟩;have nl:=u.names_len;have nl2:=oG (t.parts.take i);have nl3:=nj t.parts i;refine⟨M,l,_,_,rfl,rfl,S3 _ _ hM,hl3,?_,fun r hr0=>?_⟩
     . rw[zF0,zF0];exact bv (by omega)
     . have S4:=(S2.trans S3).trans (zC0 hr0 (.lst ((fN (t.parts.take i)).map V.str++u.names.map V.str)));refine⟨r,_,rfl,(S1.trans (S2.trans S3)).free hr0,?_,S4⟩;rw[aE,lQ hu,zL0]
   . rintro σ H2 ⟨M,x2,rfl,M0,hM,S2⟩;rw[xl,qJ0,←t.names_parts nis]at hM;exact⟨_,rfl,q M H2 M0 (S1.trans S2) hM⟩
theorem Cb {f:Addr} {fd:FuncData}:FnOk P w K mg base CX0 2 f fd ["_law_tree_here"] (spNO 0):=by
 have no:∀vs H Q E,¬ spNO 0 vs H Q E:=fun vs H Q E h=>by
  obtain⟨v,t,_,_,_,h1,_⟩:=h
  have:=t.depth_pos
  omega
 exact⟨fun vs H Q E h=>absurd h (no vs H Q E),fun A outer s H args us vs Q E _ _ _ _ h=>absurd h (no vs H Q E)⟩
theorem jx {f:Addr} {fd:FuncData} (F:Fun K "_law_names_of" "_law_names_of" eW f fd) (m:mg "_law_names_of"=some (.ref f)) :
 ∀n:Nat,FnOk P w K mg base CX0 (n+2) f fd ["_law_tree_here"] (spNO n)
 | 0=>Cb
 | n+1=>Cc F (Cal.of F (jx F m n) m (fun _ _ _ _ _ _ us hl=>by obtain⟨u0,rfl⟩:=DT hl;rfl))
theorem oX(ns:List Str)(z:Str):((ns.map V.str).countP fun y=>eqV y (.str z))=ns.count z:=by
 rw[List.countP_map];rfl
inductive spNeed(vs:List V)(H:Hp)(Q:VK)(u_3:XK):Prop where
 | mk:∀(a b:Addr)(ns:List Str)(tv:List V)(ts:List Tr),(vs=[.ref a,.ref b])->(H a=some (.lst (ns.map V.str)))->(H b=some (.lst tv))->(TreesAt H tv ts)->(ts.length<=10)->((∀t∈ts,t.wf/\t.depth<=10/\t.size<=400))->(∀(m:Int)(H':Hp),Same H H'->2<=m->m<=400->(ts.length:Int)<=m+1->(∀t∈ts,∀x∈ns,(t.names.count x:Int)<=m)->Q (.int m) H')->spNeed vs H Q u_3
theorem ef:FnScope ["_law_names_here","_law_trees","_law_need_here","_law_tree_here","_law_found","_law_name"] ["_law_names_here","_law_trees"] (ak nI):=⟨rfl,rfl,rfl,by decide,rfl,by decide,by decide⟩
theorem xM {f:Addr} {fd:FuncData} (F:Fun K "_law_need" "_law_need" nI f fd) (hlen:mg "len"=none) (hmax:mg "max"=none) (dJ:Cal P w K mg base 12 "_law_names_of" ["_law_tree_here"] (spNO 10)):FnOk P w K mg base CX0 13 f fd ["_law_names_here","_law_trees"] spNeed:=by
 refine F.ok ef (fun vs H Q E h=>?_) (fun cdv A outer s H vs Q E hr h=>?_)
 . obtain⟨a,b,ns,tv,ts,rfl,_⟩:=h;rfl
 obtain ⟨a,b,ns,tv,ts,rfl,ha,hb,TS,tl,tok,q⟩:=h;refine⟨_,(aa (aj (i:=2) ef.nd rfl (Or.inl rfl) (aA (qm rfl) rfl hmax PyProof.Rows.boot_max (ae ac (ae (ag aQ (aA aC rfl hlen PySem.boot_len (ae (pv 1) aI)) ac) aI))))
  (aa (cE PassesOwn.never rfl (dG (pv 1)) (bi (i:=3) ef.nd rfl (Or.inl rfl)) (aa (aj (i:=4) ef.nd rfl (Or.inl rfl) (ai dJ hr (by decide) rfl (ae (pv 3) aI)))
   (ad (cE PassesOwn.never rfl (dG (pv 0)) (bi (i:=5) ef.nd rfl (Or.inl rfl)) (ad (aj (i:=2) ef.nd rfl (Or.inl rfl) (aA (qm rfl) rfl hmax PyProof.Rows.boot_max (ae (pv 2) (ae (dH PySem.F.plainAttrs_list PySem.F.slot_list_count PySem.F.type_list_count sY (pv 4) (ae (pv 5) aI)) aI)))))))))
  (ad (am (pv 2))))),?_⟩
 have vl:=TS.length;refine⟨_,rfl,b,_,rfl,.inl (zG0 hb),_,_,rfl,rfl,_,_,rfl,?_⟩;obtain⟨m,em,m2,m4,mt⟩:∃m:Int,(if((tv.length:Int)-1)>2 then((tv.length:Int)-1)else 2)=m/\2<=m/\m<=400/\(ts.length:Int)<=m+1:=⟨_,rfl,by split <;> omega,by split <;> omega,by split <;> omega⟩
 rw [em];refine⟨_,rfl,b,rfl,⟨_,zG0 hb⟩,iW (K:=K) (xs:=tv) (fun i σ H'=>∃(m:Int)(x3 x4 x5:Option V),σ=[some (.ref a),some (.ref b),some (.int m),x3,x4,x5]/\2<=m/\m<=400/\(ts.length:Int)<=m+1/\(∀t∈ts.take i,∀x∈ns,(t.names.count x:Int)<=m)/\Same H H')
  ⟨m,_,_,_,rfl,m2,m4,mt,by simp,Same.refl _⟩ (fun i σ H' _ hst=>by obtain⟨_,_,_,_,_,_,_,_,_,h⟩:=hst;exact zG0 (h _ _ hb)) ?_ ?_⟩
 . rintro i v σ H1 hv ⟨m,x3,x4,x5,rfl,m2,m4,mt,mc,S1⟩;obtain⟨t,ht,T⟩:=TS.get hv;have tm:=qI0 ht;obtain⟨tw,td,tz⟩:=tok t tm;refine⟨_,rfl,v,t,rfl,T.mono (aV S1),tw,by omega,tz,fun l H2 l0 S2 hl=>?_⟩;have S12:=S1.trans S2;have tn:=t.names_len;refine⟨_,rfl,a,rfl,⟨_,zG0 (S12 _ _ ha)⟩,iW (K:=K) (xs:=ns.map V.str) (fun j σ H'=>∃(m':Int)(x5:Option V),σ=[some (.ref a),some (.ref b),some (.int m'),some v,some (.ref l),x5]/\m<=m'/\m'<=400/\(∀x∈ns.take j,(t.names.count x:Int)<=m')/\H'=H2)
    ⟨m,_,rfl,Int.le_refl _,m4,by simp,rfl⟩ (fun j σ H' _ hst=>by obtain⟨_,_,_,_,_,_,h⟩:=hst;subst h;exact zG0 (S12 _ _ ha)) ?_ ?_⟩
   . rintro j y σ H3 hy ⟨m',y5,rfl,mm,m4',mc',rfl⟩;rw[qE0]at hy;obtain⟨x,hx,rfl⟩:=qW0 hy;refine⟨_,rfl,_,rfl,.inl ⟨rfl,_,zG0 hl⟩,_,rfl,l,_,_,rfl,rfl,zG0 hl,fe _,rfl,_,_,rfl,?_⟩;rw[oX];have cl:=List.count_le_length (a:=x) (l:=t.names);refine⟨_,_,rfl,by split <;> omega,by split <;> omega,fun z hz=>?_,rfl⟩;rw[qK0,hx]at hz;rcases qD0 hz with h | h
     . have:=mc' z h
       split <;> omega
     . have e:z=x:=by simpa using h
       subst e
       split <;> omega
   . rintro σ H3 ⟨m',y5,rfl,mm,m4',mc',rfl⟩;rw[zF0,qJ0]at mc';refine⟨m',_,_,_,rfl,by omega,m4',by omega,fun u hu x hx=>?_,S12⟩;rw[qK0,ht]at hu;rcases qD0 hu with h | h
     . have:=mc u h x hx
       omega
     . have e:u=t:=by simpa using h
       subst e;exact mc' x hx
 . rintro σ H1 ⟨m,x3,x4,x5,rfl,m2,m4,mt,mc,S1⟩;rw[vl,qJ0]at mc;exact⟨_,rfl,q m H1 S1 m2 m4 mt mc⟩
inductive spPrimeB(vs:List V)(H:Hp)(Q:VK)(u_3:XK):Prop where
 | mk:∀n:Int,(vs=[.int n])->(∀b:Bool,(b=true↔Pr n)->Q (.bl b) H)->spPrimeB vs H Q u_3
theorem jW:FnScope ["_law_number","_law_k"] ["_law_number"] (ak gZ):=⟨rfl,rfl,rfl,by decide,rfl,by decide,by decide⟩
theorem pH {f:Addr} {fd:FuncData} (F:Fun K "_law_is_prime" "_law_is_prime" gZ f fd) (hrange:mg "range"=none):FnOk P w K mg base CX0 1 f fd ["_law_number"] spPrimeB:=by
 refine F.ok jW (fun vs H Q E h=>?_) (fun cdv A outer s H vs Q E hr h=>?_)
 . obtain⟨n,rfl,_⟩:=h;rfl
 obtain ⟨n,rfl,q⟩:=h;refine⟨_,(aa (aB (af cJ (pv 0) ac (ao _)) (ad (am dZ)) aq)
  (aa (cE PassesOwn.never rfl (xI rfl hrange (ae ac (ae ac aI))) (bi (i:=1) jW.nd rfl (Or.inl rfl)) (aa (aB (af gB (ag bg (pv 1) (pv 1)) (pv 0) (ao _)) (ad (am dZ)) aq)
   (ad (aB (af aH (ag aN (pv 0) (pv 1)) ac (ao _)) (ad (am dZ)) aq))))
  (ad (am dZ)))),?_⟩
 refine⟨_,rfl,_,_,rfl,rfl,_,rfl,?_⟩;refine kD (fun c=>?_) (fun c=>?_)
 . have c':=of_decide_eq_true c;exact q false ⟨fun z=>(nomatch z),fun z=>by have:=z.1;omega⟩
 have c':¬ n<2:=of_decide_eq_false (Bool.eq_false_iff.mpr c);refine⟨2,1001,rfl,⟨by decide,by decide,by decide,by decide⟩,eC (fun i σ H'=>∃x,σ=[some (.int n),x]/\H'=H/\lB n (2+(i:Int))) ⟨_,rfl,rfl,by simpa using ut n⟩ ?_ ?_⟩
 . rintro i σ H' hi ⟨x,rfl,rfl,u⟩;have hi':i<999:=hi;refine⟨_,rfl,_,rfl,_,_,rfl,rfl,.inl ⟨by omega,by omega⟩,_,rfl,_,_,rfl,rfl,_,rfl,?_⟩;refine kD (fun c1=>?_) (fun c1=>?_)
   . have c2:=of_decide_eq_true c1;exact q true ⟨fun _=>DB (by omega) (by omega) u c2,fun _=>rfl⟩
   . have c2:=of_decide_eq_false (Bool.eq_false_iff.mpr c1);refine⟨_,rfl,_,rfl,_,_,rfl,rfl,(show(0:Int)<2+(i:Int) by omega),rfl,_,rfl,?_⟩;refine kD (fun c3=>?_) (fun c3=>?_)
     . have c4:=V.int.inj (of_decide_eq_true c3);exact q false ⟨fun z=>(nomatch z),fun z=>(Dz (by omega) (by omega) (by omega) c4 z).elim⟩
     . have c4:=of_decide_eq_false (Bool.eq_false_iff.mpr c3);refine⟨_,rfl,rfl,?_⟩;have e:(2:Int)+((i+1:Nat):Int)=2+(i:Int)+1:=by omega
       rw[e];exact wX u (by omega) (fun z=>c4 (congrArg V.int z))
 . rintro σ H' ⟨x,rfl,rfl,u⟩;exact q true ⟨fun _=>DC (by omega) u,fun _=>rfl⟩
inductive spFieldL(vs:List V)(H:Hp)(Q:VK)(u_3:XK):Prop where
 | mk:∀(f:Addr)(m:Int),(vs=[.ref f,.int m])->(FeedAt H f)->(2<=m)->(m<=400)->(∀(p:Int)(H':Hp),Pr p->m<p->p<=999983->FeedAt H' f->SameBut f H H'->Q (.int p) H')->spFieldL vs H Q u_3
theorem uV{f:Addr}{m fm:Int}{D:Ends}{H:Hp}(hD:∀p:Int,Pr p->m<p->p<=999983->D.nx [some (.ref f),some (.int m),some (.int fm),some (.int p)] H)(n:Int)(h1:m<n)(h2:n<=999983) :
 yQ (tNot (tB (sq spPrimeB [] E0 (jP (tVar 3) sn)))) (yU (tOp (rI0 fun i j=>V.int (i+j)) (tVar 3) (tC (V.int 1))) (tK 3)) D [some (.ref f),some (.int m),some (.int fm),some (.int n)] H:=by
 refine⟨fun mm σ H'=>∃n:Int,σ=[some (.ref f),some (.int m),some (.int fm),some (.int n)]/\H'=H/\m<n/\n<=999983/\mm=(999983-n).toNat,⟨_,_,rfl,rfl,h1,h2,rfl⟩,?_⟩;rintro mm σ H' ⟨n,rfl,rfl,n0,n1,rfl⟩;refine⟨_,rfl,n,rfl,fun b hb=>⟨b,rfl,?_⟩⟩;cases b with
 | true=>exact cb (hD n (hb.mp rfl) n0 n1)
 | false=>
   refine dh ?_;refine⟨_,fun _ _ h=>h,?_⟩;have ne:n≠999983:=fun z=>by
    subst z;exact nomatch hb.mpr xF
   refine⟨_,rfl,_,_,rfl,rfl,?_⟩;exact⟨_,by omega,n+1,rfl,rfl,by omega,by omega,rfl⟩
theorem dN:FnScope ["_law_feed_here","_law_need_here","_law_form","_law_number"] ["_law_feed_here","_law_need_here"] (ak lg):=⟨rfl,rfl,rfl,by decide,rfl,by decide,by decide⟩
theorem vo {f:Addr} {fd:FuncData} (F:Fun K "_law_field" "_law_field" lg f fd) (aP:Cal P w K mg base 1 "_law_take" ["_law_feed_here","_law_many"] spTake) (f8:Cal P w K mg base 1 "_law_is_prime" ["_law_number"] spPrimeB):FnOk P w K mg base CX0 2 f fd ["_law_feed_here","_law_need_here"] spFieldL:=by
 refine F.ok dN (fun vs H Q E h=>?_) (fun cdv A outer s H vs Q E hr h=>?_)
 . obtain⟨f,m,rfl,_⟩:=h;rfl
 obtain ⟨f,m,rfl,hF,m2,m4,q⟩:=h;refine⟨_,(aa (aj (i:=2) dN.nd rfl (Or.inl rfl) (ai aP hr (by decide) rfl (ae (pv 0) (ae ac aI))))
  (aa (aj (i:=3) dN.nd rfl (Or.inl rfl) (ag aO (pv 1) ac))
  (aa (aB (af aH (pv 2) ac (ao _)) (ad (aj (i:=3) dN.nd rfl (Or.inl rfl) (ag aO (ag aO (pv 1) ac) (ai aP hr (by decide) rfl (ae (pv 0) (ae ac aI)))))) aq)
  (aa (aB (af aH (pv 2) ac (ao _)) (ad (aj (i:=3) dN.nd rfl (Or.inl rfl) (ag aO (ag aO (pv 1) ac) (ai aP hr (by decide) rfl (ae (pv 0) (ae (ag aQ ac (pv 1)) aI)))))) aq)
  (aa (gA PassesOwn.never (dq (cv (ai f8 hr (by decide) rfl (ae (pv 3) aI)))) (ad (aj (i:=3) dN.nd rfl (Or.inl rfl) (ag aO (pv 3) ac))))
  (ad (am (pv 3)))))))),?_⟩
 refine⟨_,rfl,f,4,rfl,hF,by decide,by decide,fun fm H1 _ _ F1 S1=>?_⟩;refine⟨_,rfl,_,_,rfl,rfl,?_⟩;refine⟨_,rfl,rfl,_,rfl,?_⟩;refine kD (fun c1=>?b1) (fun c1=>?b2)
 case' b1=>
  refine⟨_,rfl,_,_,rfl,rfl,_,rfl,f,60,rfl,F1,by decide,by decide,fun d H2 d0 d1 F2 S2=>?_⟩;refine⟨_,_,rfl,rfl,?_⟩;have G2:=S1.trans S2;have n1:m<m+1+d:=by omega
  have n2:m+1+d<=999983:=by omega
 case' b2=>
  have F2:=F1;have G2:=S1;have n1:m<m+1:=by omega
  have n2:m+1<=999983:=by omega
 all_goals
  refine⟨_,rfl,rfl,_,rfl,?_⟩;refine kD (fun c2=>?_) (fun c2=>?_);refine⟨_,rfl,_,_,rfl,rfl,_,rfl,_,rfl,_,_,rfl,rfl,f,_,rfl,F2,(show(0:Int)<999983-m by omega),(show(999983:Int)-m<2 ^ 63 by omega),fun d H3 d0 d1 F3 S3=>?_⟩;refine⟨_,_,rfl,rfl,?_⟩;have G3:=G2.trans S3;clear n1 n2;have n1:m<m+1+d:=by omega
  have n2:m+1+d<=999983:=by
   have:d<999983-m:=d1
   omega
  rotate_left
  have F3:=F2;have G3:=G2
  rotate_left
  all_goals
   refine uV (fun p pp mp p9=>?_) _ n1 n2;exact⟨_,rfl,q p _ pp mp p9 F3 G3⟩
theorem mB{m:Int}(h0:0<=m)(h6:m<=6):(0:Int)<m+1/\m+1<2 ^ 63:=by omega
theorem rB{r:Int}(h0:1<=r)(h6:r<=30):0<r/\r<2 ^ 63:=by omega
theorem eB{e r:Int}(h0:0<=e)(h1:e<r)(h6:r<=30):(1:Int)<=1+e/\(1:Int)+e<=100:=by omega
inductive spOne(vs:List V)(H:Hp)(Q:VK)(u_3:XK):Prop where
 | mk:∀(f:Addr)(most room:Int),(vs=[.ref f,.int most,.int room])->(FeedAt H f)->(0<=most)->(most<=6)->(1<=room)->(room<=30)->(∀(g a b:Addr)(ns:List Str)(v:V)(t:Tr)(p:Int)(H':Hp),H' g=some (.tup [.ref a,.ref b,.int p])->H' a=some (.tup (ns.map V.str))->(ns.length:Int)<=most->(∀x∈ns,vZ x)->ns.Nodup->H' b=some (.tup [v])->TreesAt H' [v] [t] ->
   (t.ok ns/\t.depth<=9/\(t.size:Int)<=room)->Pr p->2<p->p<=999983->(∀x∈ns,(t.names.count x:Int)<p)->FeedAt H' f->SameBut f H H'->Q (.ref g) H')->spOne vs H Q u_3
theorem fV:FnScope ["_law_feed_here","_law_most","_law_room","_law_names_here","_law_tree_here"] ["_law_feed_here","_law_most","_law_room"] (ak gY):=⟨rfl,rfl,rfl,by decide,rfl,by decide,by decide⟩
theorem pG {f:Addr} {fd:FuncData} (F:Fun K "_law_one_tree" "_law_one_tree" gY f fd) (htuple:mg "tuple"=none) (aP:Cal P w K mg base 1 "_law_take" ["_law_feed_here","_law_many"] spTake) (eg:Cal P w K mg base 2 "_law_names" ["_law_feed_here","_law_many"] spNamesN)
 (dY:Cal P w K mg base 12 "_law_tree" ["_law_feed_here","_law_names_here","_law_room","_law_deep"] (spTree 10)) (r8:Cal P w K mg base 13 "_law_need" ["_law_names_here","_law_trees"] spNeed) (kR:Cal P w K mg base 2 "_law_field" ["_law_feed_here","_law_need_here"] spFieldL):FnOk P w K mg base CX0 14 f fd ["_law_feed_here","_law_most","_law_room"] spOne:=by
 refine F.ok fV (fun vs H Q E h=>?_) (fun cdv A outer s H vs Q E hr h=>?_)
 . obtain⟨f,most,room,rfl,_⟩:=h;rfl
 obtain ⟨f,most,room,rfl,hF,m0,m6,r1,r30,q⟩:=h;refine⟨_,(aa (aj (i:=3) fV.nd rfl (Or.inl rfl) (ai eg hr (by decide) rfl (ae (pv 0) (ae (ai aP hr (by decide) rfl (ae (pv 0) (ae (ag aO (pv 1) ac) aI))) aI))))
  (aa (aj (i:=4) fV.nd rfl (Or.inl rfl) (ai dY hr (by decide) rfl (ae (pv 0) (ae (pv 3) (ae (ag aO ac (ai aP hr (by decide) rfl (ae (pv 0) (ae (pv 2) aI)))) (ae ac aI))))))
  (ad (am (aF (ae (cg bU rfl htuple bV (ae (pv 3) aI)) (ae (aF (ae (pv 4) aI)) (ae (ai kR hr (by decide) rfl (ae (pv 0) (ae (ai r8 hr (by decide) rfl (ae (pv 3) (ae (cf (ae (pv 4) aI)) aI))) aI))) aI)))))))),?_⟩
 refine⟨_,rfl,_,rfl,_,rfl,_,_,rfl,rfl,f,_,rfl,hF,(mB m0 m6).1,(mB m0 m6).2,fun mk H1 k0 k7 F1 S1=>?_⟩;refine⟨f,mk,rfl,F1,k0,by omega,fun nl ns H2 nl0 nlf hnl nsl nok nnd F2 S2=>?_⟩;have S02:=S1.trans S2;have nl6:ns.length<=6:=by omega
 refine ⟨_,rfl,_,rfl,_,rfl,_,rfl,f,room,rfl,F2,(rB r1 r30).1,(rB r1 r30).2,fun e H3 e0 e1 F3 S3=>?_⟩;have hnl3:=S3 nl _ nlf hnl;refine⟨_,_,rfl,rfl,f,nl,_,_,ns,rfl,F3,.inl hnl3,nl6,(eB e0 e1 r30).1,(eB e0 e1 r30).2,by decide,by decide,fun v t H4 F4 S4 T4 ok4 sz4 dp4=>?_⟩;have hnl4:=S4 nl _ nlf hnl3;have tok:t.ok ns/\t.depth<=9/\(t.size:Int)<=room:=by
  have d9:(t.depth:Int)<=9:=dp4;have s9:(t.size:Int)<=1+e:=sz4;exact⟨ok4,by omega,by omega⟩
 refine⟨_,rfl,nl,_,rfl,.inl ⟨zG0 hnl4,fun a ha=>?_⟩⟩;have Ga:=zC0 ha (.tup (ns.map V.str));refine⟨_,rfl,(by show 1<=sizeLine;decide),fun b hb=>?_⟩;have Gb:=zC0 hb (.tup [v]);have Gab:=Ga.trans Gb;have wf:=Tr.ok_wf nok t tok.1;refine⟨_,rfl,_,rfl,_,rfl,(by show 1<=sizeLine;decide),fun L hL=>?_⟩;have GL:=zC0 hL (.lst [v]);have GabL:=Gab.trans GL;have TS:TreesAt H4 [v] [t]:=.cons T4 .nil;refine⟨nl,L,ns,[v],[t],rfl,GabL _ _ hnl4,aE,TS.mono (aV GabL),(by show 1<=_;decide),fun t' ht=>?_,fun m H5 S5 m2 m4 mt mc=>?_⟩
 . rw[zM0 ht];exact⟨wf,zO0 tok.2.1 (by decide),by have:=tok.2.2;omega⟩
 have F5:=(F4.same GabL).same S5;refine⟨f,m,rfl,F5,m2,m4,fun p H6 pp mp p9 F6 S6=>?_⟩;refine⟨(by show 3<=sizeLine;decide),fun g hg=>?_⟩;have Gg:=zC0 hg (.tup [.ref a,.ref b,.int p]);have k6:bL (upd (upd H4 a (.tup (ns.map V.str))) b (.tup [v])) (upd H6 g (.tup [.ref a,.ref b,.int p])):=fun c ys h=>Gg _ _ (aU F5 S6 _ _ (S5 _ _ (GL _ _ h)))
 refine q g a b ns v t p _ aE (k6 _ _ (Gb _ _ aE)) (by omega) nok nnd (k6 _ _ aE) ((TS.mono (aV Gab)).mono k6) tok pp (by omega) p9 (fun x hx=>by have:=mc t zU0 x hx;omega) (F6.same Gg) ?_;exact S02.trans (S3.trans (S4.trans ((zK0 (GabL.trans S5)).trans (S6.trans (zK0 Gg)))))
inductive spWithin(vs:List V)(H:Hp)(Q:VK)(u_3:XK):Prop where
 | mk:∀(v:V)(t:Tr),(vs=[v])->(TreeAt H v t)->(t.wf)->(∀(p:Addr)(xs:List V)(H':Hp),Same H H'->H' p=some (.tup xs)->TreesAt H' xs t.parts->Q (.ref p) H')->spWithin vs H Q u_3
theorem lX:FnScope ["tree"] ["tree"] (ak fk):=⟨rfl,rfl,rfl,by decide,rfl,by decide,by decide⟩
theorem ma {f:Addr} {fd:FuncData} (F:Fun K "trees_within" "trees_within" fk f fd):FnOk P w K mg base CX0 1 f fd ["tree"] spWithin:=by
 refine F.ok lX (fun vs H Q E h=>?_) (fun cdv A outer s H vs Q E hr h=>?_)
 . obtain⟨v,t,rfl,_⟩:=h;rfl
 obtain ⟨v,t,rfl,T,wf,q⟩:=h;refine⟨_,(aa (aB (af aH (aD aG (pv 0) ac (fun _ _=>rfl)) ax (ao _)) (ad (am (aF aI))) aq)
  (ad (am (fK qx (pv 0) (eE ac) mr)))),?_⟩
 rcases T.view wf with⟨a,x,rfl,rfl,_,e⟩ | ⟨a,o,xs,rfl,no,xl,e,TS,_⟩
 . refine⟨_,rfl,a,_,0,_,rfl,rfl,zD0 e,rfl,rfl,_,rfl,?_⟩;refine aS rfl ?_;refine⟨(by show 0<=sizeLine;decide),fun p hp=>?_⟩;exact q p [] _ (zC0 hp _) aE .nil
 . refine⟨_,rfl,a,_,0,.str o,rfl,rfl,zD0 e,at0 ..,rfl,_,rfl,?_⟩;refine au (fun z=>no (by injection z)) ?_;obtain⟨c1,c2⟩:=cut1 (.str o) xs xl;refine⟨_,rfl,1,rfl,a,_,rfl,zD0 e,c2,fun p hp=>?_⟩;rw[c1];exact q p xs _ (zC0 hp _) aE (TS.mono (aV (zC0 hp _)))
inductive spNamesIn(n:Nat)(vs:List V)(H:Hp)(Q:VK)(u_3:XK):Prop where
 | mk:∀(v:V)(t:Tr),(vs=[v])->(TreeAt H v t)->(t.wf)->(t.depth<=n)->(t.size<=400)->(∀(l:Addr)(H':Hp),H l=none->Same H H'->H' l=some (.lst (t.names.map V.str))->Q (.ref l) H')->spNamesIn n vs H Q u_3
theorem gP:FnScope ["tree","names","part"] ["tree"] (ak gU):=⟨rfl,rfl,rfl,by decide,rfl,by decide,by decide⟩
theorem vy {n:Nat} {f:Addr} {fd:FuncData} (F:Fun K "names_in" "names_in" gU f fd) (ca:Cal P w K mg base 1 "trees_within" ["tree"] spWithin) (cu:Cal P w K mg base (n+2) "names_in" ["tree"] (spNamesIn n)):FnOk P w K mg base CX0 (n+3) f fd ["tree"] (spNamesIn (n+1)):=by
 refine F.ok gP (fun vs H Q E h=>?_) (fun cdv A outer s H vs Q E hr h=>?_)
 . obtain⟨v,t,rfl,_⟩:=h;rfl
 obtain ⟨v,t,rfl,T,wf,dn,sz,q⟩:=h;refine⟨_,(aa (aB (af aH (aD aG (pv 0) ac (fun _ _=>rfl)) ax (ao _)) (ad (am (cf (ae (aD aG (pv 0) ac (fun _ _=>rfl)) aI)))) aq)
  (aa (aj (i:=1) gP.nd rfl (Or.inl rfl) (cf aI))
  (aa (cE PassesOwn.never rfl (iT (ai ca hr (by omega) rfl (ae (pv 0) aI))) (bi (i:=2) gP.nd rfl (Or.inl rfl)) (ad (bc (dH PySem.F.plainAttrs_list PySem.F.slot_list_extend PySem.F.type_list_extend xX (pv 1) (ae (ai cu hr (zH0 _) rfl (ae (pv 2) aI)) aI)))))
  (ad (am (pv 1)))))),?_⟩
 have wf':=wf;rcases T.view wf with⟨a,x,rfl,rfl,_,e⟩ | ⟨a,o,xs0,rfl,no,xl0,e,_,nis⟩
 . refine⟨_,rfl,a,_,0,_,rfl,rfl,zD0 e,rfl,rfl,_,rfl,?_⟩;refine aS rfl ?_;refine⟨_,rfl,a,_,1,_,rfl,rfl,zD0 e,rfl,(by show 1<=sizeLine;decide),fun p hp=>?_⟩;exact q p _ hp (zC0 hp _) aE
 . refine ⟨_,rfl,a,_,0,.str o,rfl,rfl,zD0 e,at0 ..,rfl,_,rfl,?_⟩;refine au (fun z=>no (by injection z)) ?_;refine⟨(by show 0<=sizeLine;decide),fun L hL=>?_⟩;have G0:=zC0 hL (.lst []);refine⟨_,rfl,_,t,rfl,T.mono (aV G0),wf,fun p xs H1 S1 hp TS=>?_⟩;have hL1:H1 L=some (.lst []):=S1 _ _ aE;have pL:p≠L:=fun z=>by rw[z,hL1]at hp;cases hp
   have xl:=TS.length;have sp:=t.size_parts;refine⟨p,rfl,⟨_,zD0 hp⟩,rK (K:=K) (xs:=xs) (fun i σ H'=>∃x2,σ=[some (.ref a),some (.ref L),x2]/\H' L=some (.lst ((fN (t.parts.take i)).map V.str))/\SameBut L H1 H') ⟨_,rfl,hL1,SameBut.refl _ _⟩ (fun i σ H' _ hst=>by obtain⟨_,_,_,h⟩:=hst;exact zD0 (h _ _ pL hp)) ?_ ?_⟩
   . rintro i x σ H2 hx ⟨x2,rfl,hl,S2⟩;obtain⟨u,hu,Tu⟩:=TS.get hx;have um:=qI0 hu;obtain⟨uw,ud,us⟩:=Tr.parts_mem um wf;have Tu2:TreeAt H2 x u:=Tu.mono fun b ys h=>S2 b _ (fun z=>by rw[z,hL1]at h;cases h) h
     refine⟨_,rfl,.inl ⟨rfl,_,zG0 hl⟩,_,rfl,x,u,rfl,Tu2,uw,by omega,by omega,fun l H3 l0 S3 hl3=>?_⟩;have nl:=u.names_len;have nl2:=oG (t.parts.take i);have nl3:=nj t.parts i;refine⟨L,l,_,_,rfl,rfl,S3 _ _ hl,hl3,?_,?_⟩
     . rw[zF0,zF0];exact bv (by omega)
     refine⟨_,rfl,?_,fun b o hb h=>?_⟩
     . rw[aE,lQ hu,zL0]
     . rw[av hb];exact S3 _ _ (S2 _ _ hb h)
   . rintro σ H2 ⟨x2,rfl,hl,S2⟩;rw[xl,qJ0,←t.names_parts nis]at hl;refine⟨_,rfl,?_⟩;refine q L H2 hL (fun b o h=>?_) hl;exact S2 b o (aJ h hL) (S1 _ _ (G0 _ _ h))
theorem vx {f:Addr} {fd:FuncData}:FnOk P w K mg base CX0 2 f fd ["tree"] (spNamesIn 0):=by
 have no:∀vs H Q E,¬ spNamesIn 0 vs H Q E:=fun vs H Q E h=>by
  obtain⟨v,t,_,_,_,h1,_⟩:=h
  have:=t.depth_pos
  omega
 exact⟨fun vs H Q E h=>absurd h (no vs H Q E),fun A outer s H args us vs Q E _ _ _ _ h=>absurd h (no vs H Q E)⟩
theorem lO {f:Addr} {fd:FuncData} (F:Fun K "names_in" "names_in" gU f fd) (m:mg "names_in"=some (.ref f)) (ca:Cal P w K mg base 1 "trees_within" ["tree"] spWithin) :
 ∀n:Nat,FnOk P w K mg base CX0 (n+2) f fd ["tree"] (spNamesIn n)
 | 0=>vx
 | n+1=>vy F ca (Cal.of F (lO F m ca n) m (fun _ _ _ _ _ _ us hl=>by obtain⟨u0,rfl⟩:=DT hl;rfl))
inductive spField(vs:List V)(H:Hp)(Q:VK)(u_3:XK):Prop where
 | mk:∀n:Int,(vs=[.int n])->(n<=999999)->(∀b:Bool,(b=true↔2<n/\Pr n)->Q (.bl b) H)->spField vs H Q u_3
theorem g9:FnScope ["number","divisor"] ["number"] (ak jJ):=⟨rfl,rfl,rfl,by decide,rfl,by decide,by decide⟩
theorem sR {f:Addr} {fd:FuncData} (F:Fun K "is_field" "is_field" jJ f fd):FnOk P w K mg base CX0 1 f fd ["number"] spField:=by
 refine F.ok g9 (fun vs H Q E h=>?_) (fun cdv A outer s H vs Q E hr h=>?_)
 . obtain⟨n,rfl,_⟩:=h;rfl
 obtain ⟨n,rfl,n9,q⟩:=h;refine⟨_,(aa (aB (PW.pt (cV (af cJ (pv 0) ac (ao _)) (de (af aH (ag aN (pv 0) ac) ac (ao _))))) (ad (am dZ)) aq)
  (aa (aj (i:=1) g9.nd rfl (Or.inl rfl) ac)
  (aa (gA PassesOwn.never (af wH (ag bg (pv 1) (pv 1)) (pv 0) (ao _)) (aa (aB (af aH (ag aN (pv 0) (pv 1)) ac (ao _)) (ad (am dZ)) aq)
   (ad (aj (i:=1) g9.nd rfl (Or.inl rfl) (ag aO (pv 1) ac)))))
  (ad (am dZ))))),?_⟩
 refine⟨_,rfl,_,_,rfl,rfl,_,rfl,?_⟩
 by_cases c:n<3
 . refine aS c ?_;refine dh ?_;exact q false ⟨fun z=>(nomatch z),fun z=>by omega⟩
 refine au c ?_;refine⟨_,rfl,_,_,rfl,rfl,(by show(0:Int)<_;decide),rfl,_,rfl,?_⟩
 by_cases c2:n % 2=0
 . refine aS (congrArg V.int c2) ?_;exact q false ⟨fun z=>(nomatch z),fun z=>absurd z.2 (yw c2 (by omega))⟩
 refine au (fun z=>c2 (V.int.inj z)) ?_;refine⟨fun m σ H'=>∃d:Int,σ=[some (.int n),some (.int d)]/\H'=H/\3<=d/\d<=1001/\d % 2=1/\uf n d/\m=(n+3-d).toNat,⟨_,3,rfl,rfl,by omega,by omega,by omega,xU n,rfl⟩,?_⟩;rintro m σ H' ⟨d,rfl,rfl,d3,d9,d2,u,rfl⟩;refine⟨_,rfl,_,rfl,_,_,rfl,rfl,.inl ⟨by omega,by omega⟩,_,rfl,_,_,rfl,rfl,_,rfl,?_⟩
 by_cases c3:d*d<=n
 . refine aS c3 ?_;have r1:=uH n9 d3 c3;have r2:=BJ d3 c3;refine⟨_,fun _ _ h=>h,?_⟩;refine⟨_,rfl,_,rfl,_,_,rfl,rfl,(show 0<d by omega),rfl,_,rfl,?_⟩
   by_cases c4:n % d=0
   . refine aS (congrArg V.int c4) ?_;exact q false ⟨fun z=>(nomatch z),fun z=>absurd z.2 (yv n9 d3 c3 c4)⟩
   refine au (fun z=>c4 (V.int.inj z)) ?_;refine⟨_,rfl,_,_,rfl,rfl,?_⟩;exact⟨_,by omega,d+2,rfl,rfl,by omega,by omega,by omega,Ah u d2 c4,rfl⟩
 . refine au c3 ?_;exact q true ⟨fun _=>⟨by omega,yu (by omega) c2 d3 u (by omega)⟩,fun _=>rfl⟩
abbrev qL:Stmt:=bJ uU 0
abbrev uT:Stmt:=bJ uU 1
abbrev nU:Stmt:=bJ uU 2
def gf (a b:Addr) (p:Int) (d:Addr):List (Str×V):=bK "degrees" (.ref d) (bK "field" (.int p) (bK "trees" (.ref b) (bK "switches" (.ref a) [])))
theorem oQ (a b:Addr) (p:Int) (d:Addr):(gf a b p d).lookup ("switches":Str)=some (.ref a):=by
 unfold gf;rw[ah,zB0 (by decide),ah,zB0 (by decide),ah,zB0 (by decide),ah,zE0 rfl]
theorem qi (a b:Addr) (p:Int) (d:Addr):(gf a b p d).lookup ("trees":Str)=some (.ref b):=by
 unfold gf;rw[ah,zB0 (by decide),ah,zB0 (by decide),ah,zE0 rfl]
theorem jy (a b:Addr) (p:Int) (d:Addr):(gf a b p d).lookup ("field":Str)=some (.int p):=by
 unfold gf;rw[ah,zB0 (by decide),ah,zE0 rfl]
theorem CW (a b:Addr) (p:Int) (d:Addr):(gf a b p d).lookup ("degrees":Str)=some (.ref d):=by
 unfold gf;rw[ah,zE0 rfl]
theorem AQ (a b:Addr) (p:Int) (d:Addr) {m:Str} (h1:¬ m="degrees") (h2:¬ m="field") (h3:¬ m="trees") (h4:¬ m="switches"):(gf a b p d).lookup m=none:=by
 unfold gf;rw[ah,zB0 h1,ah,zB0 h2,ah,zB0 h3,ah,zB0 h4]
 all_goals rfl
structure GTxt(K:W.Frag)(mg:Str->Option Value)(C:Addr):Prop where
 cl:Cls K C
 nS:NoAttr K C "switches"
 nT:NoAttr K C "trees"
 nF:NoAttr K C "field"
 nD:NoAttr K C "degrees"
 mgC:mg "Game"=some (.ref C)
theorem uc(g:Nat->Int):∀n,∃k,k<=n/\db g n=g k
 | 0=>⟨0,zH0 _,rfl⟩
 | n+1=>by
   obtain⟨k,hk,e⟩:=uc g n;unfold db
   split
   . exact⟨n+1,zH0 _,rfl⟩
   . exact⟨k,by omega,e⟩
theorem kz{ns:List Int}(h:ns≠[]):ya ns 0∈ns:=by
 cases ns with
 | nil=>exact absurd rfl h
 | cons a r=>
   obtain ⟨k,hk,e⟩:=uc (fun i=>(a::r)[i]?.getD 0) ((a::r).length-1);have e1:ya (a::r) 0=db (fun i=>(a::r)[i]?.getD 0) ((a::r).length-1):=rfl;have hl:k<(a::r).length:=by
    rw[zQ0]at hk ⊢;omega
   rw[e1,e];show(a::r)[k]?.getD 0∈a::r;rw[zR0 hl];exact qR0 hl
def bw(ts:List Tr)(x:Str):Int:=ya (ts.map fun t=>(t.names.count x:Int)) 0
theorem oW{ts:List Tr}{x:Str}{p:Int}(h0:ts≠[])(h:∀t∈ts,(t.names.count x:Int)<p):bw ts x<p:=by
 have:=kz (ns:=ts.map fun t=>(t.names.count x:Int)) (by simpa using h0)
 obtain⟨t,ht,e⟩:=List.mem_map.mp this;unfold bw;rw[←e];exact h t ht
inductive spDeg(vs:List V)(H:Hp)(Q:VK)(u_3:XK):Prop where
 | mk:∀(x:Str)(b:Addr)(tv:List V)(ts:List Tr),(vs=[.str x,.ref b])->(H b=some (.tup tv))->(TreesAt H tv ts)->(ts≠[])->(ts.length<=10)->((∀t∈ts,t.wf/\t.depth<=10/\t.size<=400))->(∀H',Same H H'->Q (.int (bw ts x)) H')->spDeg vs H Q u_3
theorem qB:FnScope ["name","trees"] ["name","trees"] (ak iP):=⟨rfl,rfl,rfl,by decide,rfl,by decide,by decide⟩
theorem rc {f:Addr} {fd:FuncData} (F:Fun K "degree_of" "degree_of" iP f fd) (hmax:mg "max"=none) (cu:Cal P w K mg base 12 "names_in" ["tree"] (spNamesIn 10)):FnOk P w K mg base CX0 13 f fd ["name","trees"] spDeg:=by
 refine F.ok qB (fun vs H Q E h=>?_) (fun cdv A outer s H vs Q E hr h=>?_)
 . obtain⟨x,b,tv,ts,rfl,_⟩:=h;rfl
 obtain ⟨x,b,tv,ts,rfl,hb,TS,t0,tl,tok,q⟩:=h;refine⟨_,(ad (am (aA (qo rfl) rfl hmax PyProof.Rows.boot_max (ae (cr (N:=["name"]) (ix:=[0]) rfl
  (CompScope.one (by rfl') (by decide) rfl (by decide) rfl (by decide) (by rfl') (by rfl') (by rfl') rfl rfl) rfl
  (iT (pv 1)) (fun _ _ _=>df (DE K PySem.F.plainAttrs_list PySem.F.slot_list_count PySem.F.type_list_count (xY K) (ai cu hr (by decide) rfl (ae (pv 0) aI)) (ae (pv 1) aI)))) aI)))),?_⟩
 have vl:=TS.length;refine⟨_,rfl,b,rfl,⟨_,zD0 hb⟩,fun D hD=>?_⟩;refine iX (K:=K) (xs:=tv) (fun i H'=>H' D=some (.lst (((ts.take i).map fun t=>(t.names.count x:Int)).map V.int))/\Same H H') ⟨by rw[aE];rfl,zC0 hD _⟩ (fun i H' _ h=>zD0 (h.2 _ _ hb)) ?_ ?_
 . rintro i z H2 hz ⟨hl,S2⟩;obtain⟨t,ht,T⟩:=TS.get hz;obtain⟨tw,td,tz⟩:=tok t (qI0 ht);have hi:i<tv.length:=(zX0 hz).1;refine⟨_,rfl,z,t,rfl,T.mono (aV S2),tw,by omega,tz,fun l H3 l0 S3 hl3=>?_⟩;refine⟨.inl ⟨rfl,_,zG0 hl3⟩,_,rfl,l,_,_,rfl,rfl,zG0 hl3,fe _,rfl,?_⟩;rw[oX];refine⟨_,S3 _ _ hl,?_,Nx.of hi ⟨?_,fun b' o' e'=>?_⟩⟩
   . rw[zF0,zF0,qM0];exact aM (by omega)
   . rw[aE,qK0,ht,zL0,zL0];rfl
   . rw[av (aJ e' hD)];exact S3 _ _ (S2 _ _ e')
 . rintro H2 ⟨hl,S2⟩;rw[vl,qJ0]at hl;exact⟨D,_,rfl,zG0 hl,by simpa using t0,q H2 S2⟩
inductive spLookS(vs:List V)(H:Hp)(Q:VK)(u_3:XK):Prop where
 | mk:∀(a:Addr)(ns:List Str),(vs=[.ref a])->(H a=some (.tup (ns.map V.str)))->(ns.Nodup)->(ns.length<=10)->(∀H',Same H H'->Q .non H')->spLookS vs H Q u_3
theorem ik(x:Str)(ns:List Str):inV (.str x) (ns.map V.str)=decide (x∈ns):=by
 unfold inV
 induction ns with
 | nil=>rfl
 | cons a r ih=>
   rw [zZ0,List.any_cons,ih];have e:eqV (.str a) (.str x)=decide (x=a):=by
    show(a==x)=_
    by_cases c:x=a
    . subst c;simp
    . rw[decide_eq_false c];simpa using fun h=>c h.symm
   rw[e]
   by_cases c1:x=a <;> by_cases c2:x∈r <;> simp [c1,c2]
theorem d7:FnScope ["switches","place","name"] ["switches"] (ak eR):=⟨rfl,rfl,rfl,by decide,rfl,by decide,by decide⟩
theorem lu {f:Addr} {fd:FuncData} (F:Fun K "look_switches" "look_switches" eR f fd) (henum:mg "enumerate"=none):FnOk P w K mg base CX0 1 f fd ["switches"] spLookS:=by
 refine F.ok d7 (fun vs H Q E h=>?_) (fun cdv A outer s H vs Q E hr h=>?_)
 . obtain⟨a,ns,rfl,_⟩:=h;rfl
 obtain ⟨a,ns,rfl,ha,nd,nl,q⟩:=h;refine⟨_,(ad (cE PassesOwn.never rfl (zN rfl henum (pv 0)) (va rfl (fJ (bi (i:=1) d7.nd rfl (Or.inl rfl)) (fJ (bi (i:=2) d7.nd rfl (Or.inl rfl)) qV)))
  (ad (aB (af fc (pv 2) (fK qx (pv 0) mr (eE (pv 1))) (by rfl')) bX aq)))),?_⟩
 refine⟨_,rfl,a,rfl,⟨_,zD0 ha⟩,yr (K:=K) (xs:=ns.map V.str) (fun i σ H'=>∃x1 x2:Option V,σ=[some (.ref a),x1,x2]/\Same H H') ⟨_,_,rfl,Same.refl _⟩ (fun i σ H' _ hst=>by obtain⟨_,_,_,h⟩:=hst;exact zD0 (h _ _ ha)) ?_ ?_⟩
 . rintro i z σ H1 t hz ⟨x1,x2,rfl,S1⟩ ht;have hi:i<(ns.map V.str).length:=(zX0 hz).1;rw[qE0]at hz;obtain⟨x,hx,rfl⟩:=qW0 hz;have G:=zC0 ht (.tup [.int (i:Int),.str x]);have S2:=S1.trans G;have hi':i<ns.length:=by rw[zF0]at hi;exact hi
   refine⟨t,_,rfl,zD0 aE,rfl,_,_,rfl,_,_,rfl,rfl,?_⟩;refine⟨_,rfl,_,rfl,_,rfl,(i:Int),rfl,a,_,rfl,zD0 (S2 _ _ ha),?_,fun c hc=>?_⟩
   . rintro⟨_,h⟩;rw[HT.sIx_nat]at h;omega
   . refine ⟨c,_,rfl,.inr (zD0 aE),rfl,?_,_,rfl,?_⟩
     . have ec:ly (ns.map V.str) none (some (i:Int))=(ns.take i).map V.str:=by
        unfold ly;rw[HT.sIx_none,HT.sIx_nat,List.drop_zero,Nat.sub_zero,List.map_take]
        congr 1
        omega
       rw[ec];exact fe _
     . have ec:ly (ns.map V.str) none (some (i:Int))=(ns.take i).map V.str:=by
        unfold ly;rw[HT.sIx_none,HT.sIx_nat,List.drop_zero,Nat.sub_zero,List.map_take]
        congr 1
        omega
       show if inV (.str x) (ly (ns.map V.str) none (some (i:Int)))=true then _ else _
       rw[ec,ik,decide_eq_false ?_]
       . refine cb ?_;exact⟨_,_,rfl,S2.trans (zC0 hc _)⟩
       . intro hm;obtain⟨j,hj,e⟩:=List.getElem_of_mem hm;rw[qM0]at hj;rw[List.getElem_take]at e;have ex:ns[i]=x:=by
          rw[zR0 hi']at hx;exact zV0 hx
         exact List.pairwise_iff_getElem.mp nd j i (by omega) hi' (by omega) (e.trans ex.symm)
 . rintro σ H1 ⟨x1,x2,rfl,S1⟩;exact q H1 S1
theorem kx{ns:List Str}:∀t:Tr,t.ok ns->∀x∈t.names,x∈ns
 | .is y,h,x,hx=>by rw[zM0 hx];exact h
 | .yes,_,x,hx=>by cases hx
 | .no,_,x,hx=>by cases hx
 | .not a,h,x,hx=>kx a h x hx
 | .bin _ a b,⟨_,h1,h2⟩,x,hx=>by
   rcases qD0 hx with h | h
   . exact kx a h1 x h
   . exact kx b h2 x h
inductive spLookN(vs:List V)(H:Hp)(Q:VK)(u_3:XK):Prop where
 | mk:∀(a b:Addr)(ns:List Str)(tv:List V)(ts:List Tr),(vs=[.ref b,.ref a])->(H a=some (.tup (ns.map V.str)))->(H b=some (.tup tv))->(TreesAt H tv ts)->((∀t∈ts,t.ok ns/\t.wf/\t.depth<=10/\t.size<=400))->(∀H',Same H H'->Q .non H')->spLookN vs H Q u_3
theorem fZ:FnScope ["trees","switches","tree","name"] ["trees","switches"] (ak gV):=⟨rfl,rfl,rfl,by decide,rfl,by decide,by decide⟩
theorem pE {f:Addr} {fd:FuncData} (F:Fun K "look_names" "look_names" gV f fd) (cu:Cal P w K mg base 12 "names_in" ["tree"] (spNamesIn 10)):FnOk P w K mg base CX0 13 f fd ["trees","switches"] spLookN:=by
 refine F.ok fZ (fun vs H Q E h=>?_) (fun cdv A outer s H vs Q E hr h=>?_)
 . obtain⟨a,b,ns,tv,ts,rfl,_⟩:=h;rfl
 obtain ⟨a,b,ns,tv,ts,rfl,ha,hb,TS,tok,q⟩:=h;refine⟨_,(ad (cE PassesOwn.never rfl (iT (pv 0)) (bi (i:=2) fZ.nd rfl (Or.inl rfl))
  (ad (cE PassesOwn.never rfl (dG (ai cu hr (by decide) rfl (ae (pv 2) aI))) (bi (i:=3) fZ.nd rfl (Or.inl rfl))
   (ad (aB (af kq (pv 3) (pv 1) (by rfl')) bX aq)))))),?_⟩
 refine⟨_,rfl,b,rfl,⟨_,zD0 hb⟩,rK (K:=K) (xs:=tv) (fun i σ H'=>∃x2 x3:Option V,σ=[some (.ref b),some (.ref a),x2,x3]/\Same H H') ⟨_,_,rfl,Same.refl _⟩ (fun i σ H' _ hst=>by obtain⟨_,_,_,h⟩:=hst;exact zD0 (h _ _ hb)) ?_ ?_⟩
 . rintro i z σ H1 hz ⟨x2,x3,rfl,S1⟩;obtain⟨t,ht,T⟩:=TS.get hz;obtain⟨tk,tw,td,tz⟩:=tok t (qI0 ht);refine⟨_,rfl,z,t,rfl,T.mono (aV S1),tw,by omega,tz,fun l H2 l0 S2 hl=>?_⟩;have S12:=S1.trans S2;refine⟨l,rfl,⟨_,zG0 hl⟩,iW (K:=K) (xs:=t.names.map V.str) (fun j σ H'=>∃x3:Option V,σ=[some (.ref b),some (.ref a),some z,x3]/\H'=H2) ⟨_,rfl,rfl⟩ (fun j σ H' _ hst=>by obtain⟨_,_,h⟩:=hst;subst h;exact zG0 hl) ?_ ?_⟩
   . rintro j y σ H3 hy ⟨y3,rfl,rfl⟩;rw[qE0]at hy;obtain⟨x,hx,rfl⟩:=qW0 hy;refine⟨_,rfl,_,rfl,a,_,rfl,.inr (zD0 (S12 _ _ ha)),rfl,fe _,_,rfl,?_⟩;show if(!inV (.str x) (ns.map V.str))=true then _ else _
     rw[ik,decide_eq_true (kx t tk x (qI0 hx))];refine cb ?_;exact⟨_,rfl,rfl⟩
   . rintro σ H3 ⟨y3,rfl,rfl⟩;exact⟨_,_,rfl,S12⟩
 . rintro σ H1 ⟨x2,x3,rfl,S1⟩;exact q H1 S1
inductive spLookF(vs:List V)(H:Hp)(Q:VK)(u_3:XK):Prop where
 | mk:∀p:Int,(vs=[.int p])->(Pr p)->(2<p)->(p<=999983)->(Q .non H)->spLookF vs H Q u_3
theorem pB:FnScope ["field"] ["field"] (ak gX):=⟨rfl,rfl,rfl,by decide,rfl,by decide,by decide⟩
theorem pF {f:Addr} {fd:FuncData} (F:Fun K "look_field" "look_field" gX f fd) (hend:∃t,mg "FIELDS_END"=some (.int 1000000 t)) (i8:Cal P w K mg base 1 "is_field" ["number"] spField):FnOk P w K mg base CX0 2 f fd ["field"] spLookF:=by
 refine F.ok pB (fun vs H Q E h=>?_) (fun cdv A outer s H vs Q E hr h=>?_)
 . obtain⟨p,rfl,_⟩:=h;rfl
 obtain⟨p,rfl,pp,p2,p9,q⟩:=h;obtain⟨te,ge⟩:=hend;refine⟨_,(ad (aB (PW.pt (cV (af CQ (pv 0) (cq (v:=.int 1000000) rfl ge ⟨_,rfl⟩) (ao _)) (de (dq (cv (ai i8 hr (by decide) rfl (ae (pv 0) aI))))))) bX aq)),?_⟩;refine⟨_,rfl,_,_,rfl,rfl,_,rfl,?_⟩;refine au (by omega) ?_;refine⟨_,rfl,p,rfl,by omega,fun b hb=>⟨b,rfl,?_⟩⟩;rw[hb.mpr ⟨p2,pp⟩];exact cb q
inductive spLookZ(vs:List V)(H:Hp)(Q:VK)(u_3:XK):Prop where
 | mk:∀(p:Int)(d:Addr)(ns:List Int),(vs=[.int p,.ref d])->(H d=some (.lst (ns.map V.int)))->(ns≠[])->((∀n∈ns,n<p))->(Q .non H)->spLookZ vs H Q u_3
theorem k9:FnScope ["field","degrees","greatest"] ["field","degrees"] (ak iO):=⟨rfl,rfl,rfl,by decide,rfl,by decide,by decide⟩
theorem rb {f:Addr} {fd:FuncData} (F:Fun K "look_size" "look_size" iO f fd) (hmax:mg "max"=none):FnOk P w K mg base CX0 1 f fd ["field","degrees"] spLookZ:=by
 refine F.ok k9 (fun vs H Q E h=>?_) (fun cdv A outer s H vs Q E hr h=>?_)
 . obtain⟨p,d,ns,rfl,_⟩:=h;rfl
 obtain ⟨p,d,ns,rfl,hd,n0,nl,q⟩:=h;refine⟨_,(aa (aj (i:=2) k9.nd rfl (Or.inl rfl) (aA (qo rfl) rfl hmax PyProof.Rows.boot_max (ae (pv 1) aI)))
  (ad (aB (af wH (pv 0) (pv 2) (ao _)) bX aq))),?_⟩
 refine⟨_,rfl,d,ns,rfl,zG0 hd,n0,?_⟩;refine⟨_,rfl,_,rfl,_,_,rfl,rfl,_,rfl,?_⟩
 have:=nl _ (kz n0)
 exact au (by omega) q
theorem fD(f:Str)(v:V):∀fs:List (Str×V),(bK f v fs).length<=fs.length+1
 | []=>zH0 _
 | (g,u)::r=>by
   have:=fD f v r
   unfold bK
   split
   . simp
   . simp only[zQ0];omega
def gf3 (a b:Addr) (p:Int):List (Str×V):=bK "field" (.int p) (bK "trees" (.ref b) (bK "switches" (.ref a) []))
theorem Eg (a b:Addr) (p:Int):(gf3 a b p).lookup ("switches":Str)=some (.ref a):=by
 unfold gf3;rw[ah,zB0 (by decide),ah,zB0 (by decide),ah,zE0 rfl]
theorem Ef (a b:Addr) (p:Int):(gf3 a b p).lookup ("trees":Str)=some (.ref b):=by
 unfold gf3;rw[ah,zB0 (by decide),ah,zE0 rfl]
def GameAt(C:Addr)(H:Hp)(g a b d:Addr)(p:Int):Prop:=∃dx,H g=some (.ins C dx (gf a b p d))
theorem GameAt.same{C:Addr}{H H':Hp}{g a b d:Addr}{p:Int}(h:GameAt C H g a b d p)(s:Same H H'):GameAt C H' g a b d p:=by
 obtain⟨dx,e⟩:=h;exact⟨dx,s _ _ e⟩
inductive spGInit(C:Addr)(vs:List V)(H:Hp)(Q:VK)(u_3:XK):Prop where
 | mk:∀(g dx a b:Addr)(ns:List Str)(tv:List V)(ts:List Tr)(p:Int),(vs=[.ref g,.ref a,.ref b,.int p])->(H g=some (.ins C dx []))->(H a=some (.tup (ns.map V.str)))->(ns.Nodup)->(ns.length<=10)->(H b=some (.tup tv))->(TreesAt H tv ts)->(1<=ts.length)->(ts.length<=10)->((∀t∈ts,t.ok ns/\t.wf/\t.depth<=10/\t.size<=400))->(Pr p)->(2<p)->(p<=999983)->((ts.length:Int)<=p)->((∀t∈ts,∀x∈ns,(t.names.count x:Int)<p))->(∀(d:Addr)(H':Hp),H d=none->GameAt C H' g a b d p->H' d=some (.lst ((ns.map (bw ts)).map V.int))->SameBut g H H'->Q .non H')->spGInit C vs H Q u_3
theorem zx:FnScope ["self","switches","trees","field"] ["self","switches","trees","field"] (ak qL):=⟨rfl,rfl,rfl,by decide,rfl,by decide,by decide⟩
theorem Ad {f C:Addr} {fd:FuncData} (F:Fun K "__init__" "Game.__init__" qL f fd) (T:GTxt K mg C) (htuple:mg "tuple"=none) (hlen:mg "len"=none) (iq:Cal P w K mg base 13 "degree_of" ["name","trees"] spDeg) (eP:Cal P w K mg base 1 "look_switches" ["switches"] spLookS)
 (f9:Cal P w K mg base 13 "look_names" ["trees","switches"] spLookN) (gg:Cal P w K mg base 2 "look_field" ["field"] spLookF) (iu:Cal P w K mg base 1 "look_size" ["field","degrees"] spLookZ):FnOk P w K mg base CX0 14 f fd ["self","switches","trees","field"] (spGInit C):=by
 refine F.ok zx (fun vs H Q E h=>?_) (fun cdv A outer s H vs Q E hr h=>?_)
 . obtain⟨g,dx,a,b,ns,tv,ts,p,rfl,_⟩:=h;rfl
 obtain ⟨g,dx,a,b,ns,tv,ts,p,rfl,hg,ha,nd,nl,hb,TS,t1,t10,tok,pp,p2,p9,tp,tc,q⟩:=h;refine⟨_,(aa (aZ (pv 0) (cg bU rfl htuple bV (ae (pv 1) aI)) rfl)
  (aa (aZ (pv 0) (cg bU rfl htuple bV (ae (pv 2) aI)) rfl)
  (aa (aZ (pv 0) (pv 3) rfl)
  (aa (aZ (pv 0) (cr (N:=["self"]) (ix:=[0]) rfl
   (CompScope.one (by rfl') (by decide) rfl (by decide) rfl (by decide) (by rfl') (by rfl') (by rfl') rfl rfl) rfl
   (iT (ay (pv 0) rfl)) (fun _ _ _=>df (ai iq hr (by decide) rfl (ae (pv 0) (ae (mv K (pv 1)) aI))))) rfl)
  (aa (bc (ai eP hr (by decide) rfl (ae (ay (pv 0) rfl) aI)))
  (aa (bc (ai f9 hr (by decide) rfl (ae (ay (pv 0) rfl) (ae (ay (pv 0) rfl) aI))))
  (aa (bc (ai gg hr (by decide) rfl (ae (pv 3) aI)))
  (ad (bc (ai iu hr (by decide) rfl (ae (pv 3) (ae (ag lr (ay (pv 0) rfl) (cf (ae (ag aQ (aA aC rfl hlen PySem.boot_len (ae (ay (pv 0) rfl) aI)) ac) aI))) aI)))))))))))),?_⟩
 have nag:a≠g:=aX ha hg (by intro z;cases z);have nbg:b≠g:=aX hb hg (by intro z;cases z);have vl:=TS.length;refine⟨_,rfl,a,_,rfl,.inr ⟨zD0 ha,_,rfl,g,C,dx,[],rfl,hg,T.cl,T.nS,(by show 0<1000;decide),?_⟩⟩;refine⟨_,rfl,b,_,rfl,.inr ⟨zD0 (by rw[av nbg];exact hb),_,rfl,g,C,dx,_,rfl,aE,T.cl,T.nT,(Nat.lt_of_le_of_lt (fD _ _ _) (by show 1<1000;decide)),?_⟩⟩;refine⟨_,rfl,_,rfl,g,C,dx,_,rfl,aE,T.cl,T.nF,(Nat.lt_of_le_of_lt (fD _ _ _) (Nat.lt_of_le_of_lt (Nat.succ_le_succ (fD _ _ _)) (by show 2<1000;decide))),?_⟩;have S3:SameBut g H (upd (upd (upd H g (.ins C dx (bK "switches" (.ref a) []))) g (.ins C dx (bK "trees" (.ref b) (bK "switches" (.ref a) [])))) g (.ins C dx (bK "field" (.int p) (bK "trees" (.ref b) (bK "switches" (.ref a) []))))):=
  (SameBut.upd _).trans ((SameBut.upd _).trans (SameBut.upd _))
 have hg3:upd (upd (upd H g (.ins C dx (bK "switches" (.ref a) []))) g (.ins C dx (bK "trees" (.ref b) (bK "switches" (.ref a) [])))) g (.ins C dx (bK "field" (.int p) (bK "trees" (.ref b) (bK "switches" (.ref a) [])))) g=some (.ins C dx (gf3 a b p)):=aE;generalize upd (upd (upd H g (.ins C dx (bK "switches" (.ref a) []))) g (.ins C dx (bK "trees" (.ref b) (bK "switches" (.ref a) [])))) g (.ins C dx (bK "field" (.int p) (bK "trees" (.ref b) (bK "switches" (.ref a) []))))=H3 at S3 hg3;have kT:bL H H3:=fun c xs h=>S3 c _ (aX h hg (by intro z;cases z)) h
 have ha3:=kT _ _ ha;have hb3:=kT _ _ hb;have TS3:=TS.mono kT;refine⟨_,rfl,g,C,dx,_,_,rfl,hg3,T.cl,T.nS,Eg ..,a,rfl,⟨_,zD0 ha3⟩,fun D hD=>?_⟩;have D0:H D=none:=by
  cases e:H D with
  | none=>rfl
  | some o=>
    by_cases c:D=g
    . rw[c,hg3]at hD;cases hD
    . rw[S3 D o c e]at hD;cases hD
 refine iX (K:=K) (xs:=ns.map V.str) (fun i H'=>H' D=some (.lst (((ns.take i).map (bw ts)).map V.int))/\Same H3 H') ⟨by rw[aE];rfl,zC0 hD _⟩ (fun i H' _ h=>zD0 (h.2 _ _ ha3)) ?_ ?_
 . rintro i z H4 hz ⟨hl,S4⟩;have hi:i<(ns.map V.str).length:=(zX0 hz).1;rw[qE0]at hz;obtain⟨x,hx,rfl⟩:=qW0 hz;refine⟨_,rfl,_,rfl,g,C,dx,_,_,rfl,S4 _ _ hg3,T.cl,T.nT,Ef ..,x,b,tv,ts,rfl,S4 _ _ hb3,TS3.mono (aV S4),?_,t10,fun t ht=>(tok t ht).2,fun H5 S5=>?_⟩
   . intro e;rw[e]at t1;exact absurd t1 (by decide)
   refine⟨_,S5 _ _ hl,?_,Nx.of hi ⟨?_,fun b' o' e'=>?_⟩⟩
   . rw[zF0,zF0,qM0];exact aM (by omega)
   . rw[aE,qK0,hx,zL0,zL0];rfl
   . rw[av (aJ e' hD)];exact S5 _ _ (S4 _ _ e')
 rintro H4 ⟨hl,S4⟩;rw[zF0,qJ0]at hl;refine⟨_,rfl,g,C,dx,_,rfl,S4 _ _ hg3,T.cl,T.nD,?_,?_⟩
 . exact Nat.lt_of_le_of_lt (zO0 (fD _ _ _) (Nat.succ_le_succ (zO0 (fD _ _ _) (Nat.succ_le_succ (fD _ _ _))))) (by show 3<1000;decide)
 have nDg:D≠g:=fun z=>by rw[z,hg3]at hD;cases hD
 have hg5:upd H4 g (.ins C dx (gf a b p D)) g=some (.ins C dx (gf a b p D)):=aE;have S5:SameBut g H (upd H4 g (.ins C dx (gf a b p D))):=S3.trans ((zK0 S4).trans (SameBut.upd _));have hD5:upd H4 g (.ins C dx (gf a b p D)) D=some (.lst ((ns.map (bw ts)).map V.int)):=by rw[av nDg];exact hl
 show _;generalize he5:upd H4 g (.ins C dx (gf a b p D))=H5 at hg5 S5 hD5;have kT5:bL H H5:=fun c xs h=>S5 c _ (aX h hg (by intro z;cases z)) h
 rw[show upd H4 g (.ins C dx (bK "degrees" (.ref D) (gf3 a b p)))=H5 from he5];refine⟨_,rfl,g,C,dx,_,_,rfl,hg5,T.cl,T.nS,oQ ..,a,ns,rfl,kT5 _ _ ha,nd,nl,fun H6 S6=>?_⟩;have kT6:bL H H6:=fun c xs h=>S6 _ _ (kT5 c xs h)
 refine⟨_,rfl,g,C,dx,_,_,rfl,S6 _ _ hg5,T.cl,T.nT,qi ..,_,rfl,g,C,dx,_,_,rfl,S6 _ _ hg5,T.cl,T.nS,oQ ..,a,b,ns,tv,ts,rfl,kT6 _ _ ha,kT6 _ _ hb,TS.mono kT6,tok,fun H7 S7=>?_⟩;have S57:=S6.trans S7;refine⟨_,rfl,p,rfl,pp,p2,p9,?_⟩;refine⟨_,rfl,_,rfl,g,C,dx,_,_,rfl,S57 _ _ hg5,T.cl,T.nD,CW ..,_,rfl,g,C,dx,_,_,rfl,S57 _ _ hg5,T.cl,T.nT,qi ..,b,_,rfl,.inr (zD0 (S57 _ _ (kT5 _ _ hb))),_,_,rfl,rfl,(by show 1<=sizeLine;decide),fun l hl2=>?_⟩;have Gl:=zC0 hl2 (.lst [.int ((tv.length:Int)-1)]);refine⟨D,l,_,_,rfl,rfl,Gl _ _ (S57 _ _ hD5),aE,?_,fun r hr0=>?_⟩
 . rw[zF0,zF0];exact bv (by simp;omega)
 have Gr:=zC0 hr0 (.lst ((ns.map (bw ts)).map V.int++[.int ((tv.length:Int)-1)]));refine⟨p,r,ns.map (bw ts)++[(tv.length:Int)-1],rfl,?_,by simp,fun n hn=>?_,?_⟩
 . rw[aE,zL0];rfl
 . rcases qD0 hn with h | h
   . obtain ⟨x,hx,rfl⟩:=List.mem_map.mp h;refine oW ?_ fun t ht=>tc t ht x hx
     intro e;rw[e]at t1;exact absurd t1 (by decide)
   . rw[zM0 h];omega
 . have S59:=S57.trans (Gl.trans Gr);exact q D _ D0 ⟨dx,S59 _ _ hg5⟩ (S59 _ _ hD5) (S5.trans (zK0 S59))
inductive spInv(vs:List V)(H:Hp)(Q:VK)(u_3:XK):Prop where
 | mk:∀a p:Int,(vs=[.int a,.int p])->(Pr p)->(p<=999983)->(0<a)->(a<p)->(∀g:Int,0<g->g<p->g*a % p=1->Q (.int g) H)->spInv vs H Q u_3
theorem a7:FnScope ["a","p","former","former_factor","rest","factor","times","lesser","lesser_factor"] ["a","p"] (ak hV):=⟨rfl,rfl,rfl,by decide,rfl,by decide,by decide⟩
theorem pJ {f:Addr} {fd:FuncData} (F:Fun K "inverse_of" "inverse_of" hV f fd):FnOk P w K mg base CX0 1 f fd ["a","p"] spInv:=by
 refine F.ok a7 (fun vs H Q E h=>?_) (fun cdv A outer s H vs Q E hr h=>?_)
 . obtain⟨a,p,rfl,_⟩:=h;rfl
 obtain ⟨a,p,rfl,pr,p1,a0,a1,q⟩:=h;have p2:2<=p:=pr.1;refine⟨_,(aa (aj (i:=2) a7.nd rfl (Or.inl rfl) (pv 1))
  (aa (aj (i:=3) a7.nd rfl (Or.inl rfl) ac)
  (aa (aj (i:=4) a7.nd rfl (Or.inl rfl) (ag aN (pv 0) (pv 1)))
  (aa (aj (i:=5) a7.nd rfl (Or.inl rfl) ac)
  (aa (gA PassesOwn.never (af jw (pv 4) ac (ao _)) (aa (aj (i:=6) a7.nd rfl (Or.inl rfl) (ag wI (pv 2) (pv 4)))
   (aa (aj (i:=7) a7.nd rfl (Or.inl rfl) (ag aQ (pv 2) (ag bg (pv 6) (pv 4))))
   (aa (aj (i:=8) a7.nd rfl (Or.inl rfl) (ag aN (ag aQ (pv 3) (ag bg (pv 6) (pv 5))) (pv 1)))
   (aa (aj (i:=2) a7.nd rfl (Or.inl rfl) (pv 4))
   (aa (aj (i:=3) a7.nd rfl (Or.inl rfl) (pv 5))
   (aa (aj (i:=4) a7.nd rfl (Or.inl rfl) (pv 7))
   (ad (aj (i:=5) a7.nd rfl (Or.inl rfl) (pv 8))))))))))
  (ad (am (pv 5)))))))),?_⟩
 refine ⟨_,rfl,?_⟩;refine⟨_,rfl,_,rfl,_,_,rfl,rfl,(show 0<p by omega),?_⟩;refine⟨fun m σ H'=>∃(former ff rest g:Int)(x6 x7 x8:Option V),σ=[some (.int a),some (.int p),some (.int former),some (.int ff),some (.int rest),some (.int g),x6,x7,x8]/\H'=H/\Eu a p former ff rest g/\m=rest.toNat,
  ⟨_,_,_,_,_,_,_,_,rfl,rfl,tO pr (by omega) a0 a1,rfl⟩,?_⟩
 rintro m σ H' ⟨former,ff,rest,g,x6,x7,x8,rfl,rfl,eu,rfl⟩;refine⟨_,rfl,rfl,_,rfl,?_⟩
 by_cases c:rest=1
 . refine CV (congrArg V.int c) ?_;obtain⟨g0,g1,g2⟩:=AW eu c (by omega);exact⟨_,rfl,q g g0 g1 g2⟩
 . refine DY (fun z=>c (V.int.inj z)) ?_;refine⟨_,fun _ _ h=>h,?_⟩;have r0:=eu.r0;have rp:=eu.rp;have f0:=eu.f0;have f1:=eu.f1;obtain⟨nx,lt⟩:=wQ eu c;refine⟨_,rfl,_,rfl,_,_,rfl,rfl,⟨r0,by omega⟩,?_⟩;refine⟨_,rfl,_,rfl,_,rfl,_,_,rfl,rfl,.inr ⟨by omega,by omega⟩,_,_,rfl,rfl,?_⟩;refine⟨_,rfl,_,rfl,_,rfl,_,_,rfl,rfl,.inr ⟨by omega,by omega⟩,_,_,rfl,rfl,_,rfl,_,_,rfl,rfl,(show 0<p by omega),?_⟩;refine⟨_,rfl,_,rfl,_,rfl,_,rfl,?_⟩;exact⟨_,lt,_,_,_,_,_,_,_,rfl,rfl,nx,rfl⟩
theorem md{p x y:Int}(h:p ∣ x-y):x % p=y % p:=by
 obtain⟨k,hk⟩:=h
 have:x=y+p*k:=by omega
 rw[this,Int.add_mul_emod_self_left]
theorem dm(p x:Int):p ∣ x % p-x:=⟨-(x / p),by
 have:=Int.emod_add_mul_ediv x p
 rw[Int.mul_neg];omega⟩
def pmd(p:Int)(g:Nat->Int):Nat->Int
 | 0=>1
 | k+1=>pmd p g k*g k % p
theorem kj(p:Int)(g:Nat->Int):∀k,p ∣ pmd p g k-pr g k
 | 0=>⟨0,by simp [pmd,pr]⟩
 | k+1=>by
   obtain⟨a,ha⟩:=kj p g k;obtain⟨b,hb⟩:=dm p (pmd p g k*g k);exact⟨b+a*g k,by show pmd p g k*g k % p-pr g k*g k=_;grind⟩
theorem ki{p:Int}(hp:1<p)(g:Nat->Int):∀k,0<=pmd p g k/\pmd p g k<p
 | 0=>⟨by show(0:Int)<=1;decide,hp⟩
 | k+1=>⟨qB0 _ (by omega),qF0 _ (by omega)⟩
def prL(p:Int)(g:Nat->Int)(n:Nat):List V:=((List.range n).map (pmd p g)).map V.int
theorem oj(p:Int)(g:Nat->Int)(n:Nat):prL p g (n+1)=prL p g n++[.int (pmd p g n)]:=by
 unfold prL;rw[List.range_succ,zL0,zL0];rfl
theorem BM(p:Int)(g:Nat->Int)(n:Nat):(prL p g n).length=n:=by
 unfold prL;rw[zF0,zF0,qP0]
theorem vE{f:Nat->Int}{n k:Nat}(h:k<n):atI (((List.range n).map f).map V.int) (k:Int)=some (.int (f k)):=by
 refine cH ?_;rw[qE0,qE0,List.getElem?_range h];rfl
theorem uW{p:Int}{g:Nat->Int}{n k:Nat}(h:k<n):atI (prL p g n) (k:Int)=some (.int (pmd p g k)):=vE h
inductive spProd(vs:List V)(H:Hp)(Q:VK)(u_3:XK):Prop where
 | mk:∀(a:Addr)(g:Nat->Int)(n:Nat)(p:Int),(vs=[.ref a,.int p])->(H a=some (.lst (((List.range n).map g).map V.int)))->(n<=500)->(1<p)->(p<2 ^ 40)->(∀(l:Addr)(H':Hp),H l=none->Same H H'->H' l=some (.lst (prL p g (n+1)))->Q (.ref l) H')->spProd vs H Q u_3
theorem iA:FnScope ["numbers","p","told","number"] ["numbers","p"] (ak jF):=⟨rfl,rfl,rfl,by decide,rfl,by decide,by decide⟩
theorem sN {f:Addr} {fd:FuncData} (F:Fun K "products" "products" jF f fd):FnOk P w K mg base CX0 1 f fd ["numbers","p"] spProd:=by
 refine F.ok iA (fun vs H Q E h=>?_) (fun cdv A outer s H vs Q E hr h=>?_)
 . obtain⟨a,g,n,p,rfl,_⟩:=h;rfl
 obtain ⟨a,g,n,p,rfl,ha,n5,p1,p40,q⟩:=h;refine⟨_,(aa (aj (i:=2) iA.nd rfl (Or.inl rfl) (cf (ae ac aI)))
  (aa (cE PassesOwn.never rfl (dG (pv 0)) (bi (i:=3) iA.nd rfl (Or.inl rfl)) (ad (bc (dH PySem.F.plainAttrs_list PySem.F.slot_list_append PySem.F.type_list_append bY (pv 2) (ae (ag aN (ag bg (aD ix_list (pv 2) (zO uu ac) (fun _ _=>rfl)) (pv 3)) (pv 1)) aI)))))
  (ad (am (pv 2))))),?_⟩
 refine ⟨(by show 1<=sizeLine;decide),fun L hL=>?_⟩;have aL:a≠L:=aJ ha hL;refine⟨_,rfl,a,rfl,⟨_,zG0 ((zC0 hL _) _ _ ha)⟩,iW (K:=K) (xs:=((List.range n).map g).map V.int) (fun i σ H'=>∃x3:Option V,σ=[some (.ref a),some (.int p),some (.ref L),x3]/\H' L=some (.lst (prL p g (i+1)))/\SameBut L H H')
  ⟨_,rfl,by rw[aE];rfl,SameBut.upd _⟩ (fun i σ H' _ hst=>by obtain⟨_,_,_,h⟩:=hst;exact zG0 (h _ _ aL ha)) ?_ ?_⟩
 . rintro i z σ H1 hz ⟨x3,rfl,hL1,S1⟩;have hi:=(zX0 hz).1;rw[zF0,zF0,qP0]at hi;rw[qE0,qE0,List.getElem?_range hi]at hz;obtain rfl:V.int (g i)=z:=zV0 hz;have rg:=ki p1 g i;refine⟨_,rfl,.inl ⟨rfl,_,zG0 hL1⟩,?_⟩;refine⟨_,rfl,_,rfl,L,_,_,.int (pmd p g i),rfl,rfl,zG0 hL1,?_,_,rfl,_,_,rfl,rfl,.inl ⟨by omega,by omega⟩,_,rfl,_,_,rfl,rfl,(by omega),L,_,_,rfl,rfl,hL1,?_,?_⟩
   . rw[oj];exact ue _ _
   . rw[BM];exact aM (by omega)
   . refine ⟨_,rfl,?_,fun c o hc e=>?_⟩
     . rw[aE,oj p g (i+1)];rfl
     . rw[av hc];exact S1 c o hc e
 . rintro σ H1 ⟨x3,rfl,hL1,S1⟩;rw[zF0,zF0,qP0]at hL1;exact⟨_,rfl,q L H1 hL (fun b o e=>S1 b o (aJ e hL) e) hL1⟩
theorem zK:∀n:Nat,pr (fun k=>1+(k:Int)) n=fac n
 | 0=>rfl
 | n+1=>by
   show pr (fun k=>1+(k:Int)) n*(1+(n:Int))=fac n*((n:Int)+1)
   rw[zK n,Int.add_comm]
theorem zp{p g a t s:Int}{k m:Nat}(hg:g*a % p=1)(p1:1<p)(ha:p ∣ a-fac (k+m))(ht:p ∣ t-pr (fun j=>((k+m:Nat):Int)-j) m)(hs:p ∣ s-g*t):p ∣ s*fac k-1:=by
 have f:=tM m k;obtain⟨x,hx⟩:=ha;obtain⟨y,hy⟩:=ht;obtain⟨z,hz⟩:=hs;obtain⟨e,he⟩:=dm p (g*a);rw[hg]at he;exact⟨z*fac k+g*y*fac k-g*x-e,by grind⟩
inductive spFacs(vs:List V)(H:Hp)(Q:VK)(u_3:XK):Prop where
 | mk:∀(L:Nat)(p:Int),(vs=[.int (L:Int),.int p])->(L<=500)->((L:Int)<p)->(Pr p)->(p<=999983)->(∀(l:Addr)(H':Hp)(sh:Nat->Int),H l=none->Same H H'->(∀k,k<=L->p ∣ sh k*fac k-1)->(∀k,0<=sh k/\sh k<p)->H' l=some (.lst (((List.range (L+1)).map sh).map V.int))->Q (.ref l) H')->spFacs vs H Q u_3
theorem bZ:FnScope ["last","p","numbers","whole","told"] ["last","p"] (ak cU):=⟨rfl,rfl,rfl,by decide,rfl,by decide,by decide⟩
theorem iD {f:Addr} {fd:FuncData} (F:Fun K "inverse_factorials" "inverse_factorials" cU f fd) (B:Bl mg) (cw:Cal P w K mg base 1 "products" ["numbers","p"] spProd) (c8:Cal P w K mg base 1 "inverse_of" ["a","p"] spInv):FnOk P w K mg base CX0 2 f fd ["last","p"] spFacs:=by
 refine F.ok bZ (fun vs H Q E h=>?_) (fun cdv A outer s H vs Q E hr h=>?_)
 . obtain⟨L,p,rfl,_⟩:=h;rfl
 obtain ⟨L,p,rfl,L5,Lp,pp,p9,q⟩:=h;refine⟨_,(aa (aj (i:=2) bZ.nd rfl (Or.inl rfl) (vc rfl rfl B.list rfl B.range (ae ac (ae (ag aO (pv 0) ac) aI))))
  (aa (aj (i:=3) bZ.nd rfl (Or.inr rfl) (ai c8 hr (by decide) rfl (ae (aD ix_list (ai cw hr (by decide) rfl (ae (pv 2) (ae (pv 1) aI))) (zO uu ac) (fun _ _=>rfl)) (ae (pv 1) aI))))
  (aa (aj (i:=4) bZ.nd rfl (Or.inr rfl) (ai cw hr (by decide) rfl (ae (cr (N:=["last"]) (ix:=[0]) rfl
   (CompScope.one (by rfl') (by decide) rfl (by decide) rfl (by decide) (by rfl') (by rfl') (by rfl') rfl rfl) rfl
   (cx rfl B.range (ae (pv 0) aI)) (fun _ _ _=>df (ag aQ (pv 1) (pv 0)))) (ae (pv 1) aI))))
  (ad (am (cr (N:=["whole","told","p","last"]) (ix:=[3,4,1,0]) rfl
   (CompScope.four (by rfl') (by decide) rfl (by decide) rfl (by decide) rfl (by rfl') (by rfl') (by rfl') (by rfl') (by rfl') (by rfl') rfl rfl (by rfl') rfl rfl (by rfl') rfl rfl (by rfl') rfl rfl) rfl
   (cx rfl B.range (ae (ag aO (pv 0) ac) aI)) (fun _ _ _=>df (ag aN (ag bg (pv 1) (aD (AE K) (pv 2) (ag aQ (pv 4) (pv 0)) (fun _ _=>rfl))) (pv 3))))))))),?_⟩
 have p2:=pp.1;have hP:=wE pp (by omega);refine⟨_,rfl,_,_,rfl,rfl,1,_,rfl,⟨by decide,by decide,by omega,by omega⟩,by omega,fun a ha=>?_⟩;have e1:qR 1 ((L:Int)+1-1).toNat=(List.range L).map fun k:Nat=>1+(k:Int):=by
  unfold qR;rw[show((L:Int)+1-1).toNat=L by omega]
 rw [e1];have Ga:=zC0 ha (.lst (((List.range L).map fun k:Nat=>1+(k:Int)).map V.int));refine⟨_,rfl,_,rfl,a,_,L,p,rfl,aE,L5,by omega,by omega,fun l H2 l0 S2 hl2=>?_⟩;have rg:=ki (show 1<p by omega) (fun k:Nat=>1+(k:Int)) L;have dv:=kj p (fun k:Nat=>1+(k:Int)) L;rw[zK]at dv;have ne0:pmd p (fun k:Nat=>1+(k:Int)) L≠0:=fun z=>by
  rw[z]at dv;obtain⟨m,hm⟩:=dv;exact rM hP L Lp ⟨-m,by rw[Int.mul_neg];omega⟩
 refine⟨_,rfl,l,_,_,.int (pmd p (fun k:Nat=>1+(k:Int)) L),rfl,rfl,zG0 hl2,by rw[oj];exact ue _ _,_,rfl,_,p,rfl,pp,p9,by omega,rg.2,fun g g0 g1 hg=>?_⟩;have SH2:=Ga.trans S2;refine⟨_,rfl,_,rfl,by omega,by omega,fun D hD=>?_⟩;refine fO (fun i H'=>H' D=some (.lst (((List.range i).map fun j:Nat=>(L:Int)-j).map V.int))/\Same H2 H') ⟨by rw[aE];rfl,zC0 hD _⟩ ?_ ?_
 . rintro i H3 hi ⟨hD3,S3⟩;refine⟨_,rfl,_,rfl,_,_,rfl,rfl,_,hD3,?_,Nx.of hi ⟨?_,fun b o e=>?_⟩⟩
   . rw[zF0,zF0,qP0];exact aM (by omega)
   . rw[aE,List.range_succ,zL0,zL0,Int.zero_add];rfl
   . rw[av (aJ e hD)];exact S3 _ _ e
 rintro H3 ⟨hD3,S3⟩;rw[show((L:Int)).toNat=L from qQ0 L]at hD3;refine⟨_,rfl,D,_,L,p,rfl,hD3,L5,by omega,by omega,fun t H4 t0 S4 ht4=>?_⟩;refine⟨_,rfl,_,_,rfl,rfl,_,rfl,by omega,by omega,fun D2 hD2=>?_⟩;refine fO (fun i H'=>H' D2=some (.lst (((List.range i).map fun k:Nat=>g*pmd p (fun j:Nat=>(L:Int)-j) (L-k) % p).map V.int))/\Same H4 H') ⟨by rw[aE];rfl,zC0 hD2 _⟩ ?_ ?_
 . rintro i H5 hi ⟨hD5,S5⟩;have hi':i<L+1:=by omega
   have rg2:=ki (show 1<p by omega) (fun j:Nat=>(L:Int)-j) (L-i);have e2:(L:Int)-(0+(i:Int))=((L-i:Nat):Int):=by omega
   refine⟨_,rfl,_,rfl,_,rfl,_,rfl,_,_,rfl,rfl,t,_,_,.int (pmd p (fun j:Nat=>(L:Int)-j) (L-i)),rfl,rfl,zG0 (S5 _ _ ht4),by rw[e2];exact uW (by omega),_,_,rfl,rfl,.inl ⟨by omega,by omega⟩,_,rfl,_,_,rfl,rfl,(by omega),_,hD5,?_,Nx.of hi ⟨?_,fun b o e=>?_⟩⟩
   . rw[zF0,zF0,qP0];exact aM (by omega)
   . rw[aE,List.range_succ,zL0,zL0];rfl
   . rw[av (aJ e hD2)];exact S5 _ _ e
 rintro H5 ⟨hD5,S5⟩;rw[show((L:Int)+1).toNat=L+1 by omega]at hD5;have S05:=SH2.trans (S3.trans (S4.trans S5));refine q D2 H5 (fun k=>g*pmd p (fun j:Nat=>(L:Int)-j) (L-k) % p) ((SH2.trans (S3.trans S4)).free hD2) S05 (fun k hk=>?_) (fun k=>⟨qB0 _ (by omega),qF0 _ (by omega)⟩) hD5;obtain⟨m,rfl⟩:∃m,L=k+m:=⟨L-k,by omega⟩
 rw[show k+m-k=m by omega];exact zp hg (by omega) dv (kj p _ m) (dm p _)
def wt(p:Int)(n i:Nat):Int:=(px (i:Int) i n % p) ^ (p-2).toNat
theorem uq{p:Int}(hp:Pm p){n:Nat}(hn:(n:Int)<=p):Wgt p n (wt p n):=fun i hi=>by
 have h1:=DF hp hn hi;obtain⟨k,hk⟩:=dm p (px (i:Int) i n);have h2:¬ p ∣ px (i:Int) i n % p:=fun⟨m,hm⟩=>h1 ⟨m-k,by grind⟩
 obtain⟨m,hm⟩:=Ek hp h2 (qB0 _ (by have:=hp.1;omega));exact⟨m-k*(px (i:Int) i n % p) ^ (p-2).toNat,by unfold wt;grind⟩
def val(p:Int)(xs:List Int)(r:Int):Int:=lag (fun i=>xs.getD i 0) (wt p xs.length) xs.length r % p
theorem Dh{p t r:Int}{xs:List Int}{u:Nat->Int}(hp:Pm p)(hn:(xs.length:Int)<=p)(hu:Wgt p xs.length u)(t0:0<=t)(t1:t<p)(h:p ∣ t-lag (fun i=>xs.getD i 0) u xs.length r):t=val p xs r:=by
 have e:p ∣ t-lag (fun i=>xs.getD i 0) (wt p xs.length) xs.length r:=by
  have:=AA hp hn (v:=fun i=>xs.getD i 0) hu (uq hp hn) r
  have z:=Int.dvd_add h this;have e2:t-lag (fun i=>xs.getD i 0) u xs.length r+(lag (fun i=>xs.getD i 0) u xs.length r-lag (fun i=>xs.getD i 0) (wt p xs.length) xs.length r)=t-lag (fun i=>xs.getD i 0) (wt p xs.length) xs.length r:=by omega
  rw[e2]at z;exact z
 have:=md e
 rw[qS0 t0 t1]at this;exact this
theorem Di{p:Int}{xs:List Int}{k:Nat}(hp:Pm p)(hn:(xs.length:Int)<=p)(hk:k<xs.length):val p xs k=xs.getD k 0 % p:=md (vK (uq hp hn) hk)
theorem sgn(m:Nat):(-1:Int) ^ m=if m % 2=1 then -1 else 1:=by
 induction m with
 | zero=>rfl
 | succ m ih=>
   rw[Int.pow_succ,ih]
   by_cases c:m % 2=1
   . rw[zE0 c,zB0 (by omega)];rfl
   . rw[zB0 c,zE0 (by omega)];rfl
theorem Bq{p r v t s a b c d e:Int}{i m:Nat}{x y:Int}(ht:p ∣ t-s)(ha:p ∣ a-pr (fun j=>r-j) i)(hb:p ∣ b-pr (fun j=>r-(i+m:Nat)+j) m)(hc:p ∣ c-v*a*b)(hd:p ∣ d-x*y)(he:p ∣ e-(t+(if m % 2=1 then -(c*d)else c*d))) :
 p ∣ e-(s+v*px r i (i+m+1)*((-1) ^ m*(x*y))):=by
 rw[show i+m+1=i+1+m by omega,nZ,sgn];rw[wD]at hb;generalize pr (fun j=>r-j) i=A at *
 generalize pr (fun j=>r-(i+1+j:Nat)) m=B at *
 obtain⟨t',ht⟩:=ht;obtain⟨a',ha⟩:=ha;obtain⟨b',hb⟩:=hb;obtain⟨c',hc⟩:=hc;obtain⟨d',hd⟩:=hd;obtain⟨e',he⟩:=he;have e1:c*d-v*(A*B)*(x*y)=p*(c'*d+v*(a'*b+A*b')*d+v*A*B*d'):=by grind
 by_cases z:m % 2=1
 . rw [zE0 z]at *
   exact⟨e'+t'-(c'*d+v*(a'*b+A*b')*d+v*A*B*d'),by grind⟩
 . rw [zB0 z]at *
   exact⟨e'+t'+(c'*d+v*(a'*b+A*b')*d+v*A*B*d'),by grind⟩
def IntsAt(H:Hp)(a:Addr)(xs:List Int):Prop:=H a=some (.lst (xs.map V.int))∨H a=some (.tup (xs.map V.int))
theorem IntsAt.same{H H':Hp}{a:Addr}{xs:List Int}(h:IntsAt H a xs)(s:Same H H'):IntsAt H' a xs:=h.elim (fun e=>.inl (s _ _ e)) (fun e=>.inr (s _ _ e))
theorem IntsAt.seq{K:W.Frag}{H:Hp}{a:Addr}{xs:List Int}(h:IntsAt H a xs):SqL K H a (xs.map V.int)∨SqT K H a (xs.map V.int):=h.elim (fun e=>.inl (zG0 e)) (fun e=>.inr (zD0 e))
theorem IntsAt.ix{K:W.Frag}{H:Hp}{a:Addr}{xs:List Int}{k:Nat}{Q:VK}(h:IntsAt H a xs)(hk:k<xs.length)(q:Q (.int (xs.getD k 0)) H):rIxL K (.ref a) (.int (k:Int)) H Q∨rIxT K (.ref a) (.int (k:Int)) H Q:=by
 have e:atI (xs.map V.int) (k:Int)=some (.int (xs.getD k 0)):=cH (by rw[qE0,zR0 hk,qT0,zR0 hk];rfl);rcases h with h | h
 . exact .inl ⟨a,_,_,_,rfl,rfl,zG0 h,e,q⟩
 . exact .inr ⟨a,_,_,_,rfl,rfl,zD0 h,e,q⟩
def Bi(xs:List Int)(p:Int):Prop:=1<=xs.length/\xs.length<=500/\(xs.length:Int)<=p/\∀k,0<=xs.getD k 0/\xs.getD k 0<2 ^ 40
inductive spVal(vs:List V)(H:Hp)(Q:VK)(u_3:XK):Prop where
 | mk:∀(a:Addr)(xs:List Int)(r p:Int),(vs=[.ref a,.int r,.int p])->(IntsAt H a xs)->(Bi xs p)->(Pr p)->(p<=999983)->(0<=r)->(r<p)->(∀H',Same H H'->Q (.int (val p xs r)) H')->spVal vs H Q u_3
theorem aW:FnScope ["values","r","p","last","ahead","behind","shares","total","place","share","part"] ["values","r","p"] (ak fi):=⟨rfl,rfl,rfl,by decide,rfl,by decide,by decide⟩
theorem lZ {f:Addr} {fd:FuncData} (F:Fun K "value_behind" "value_behind" fi f fd) (B:Bl mg) (cw:Cal P w K mg base 1 "products" ["numbers","p"] spProd) (c9:Cal P w K mg base 2 "inverse_factorials" ["last","p"] spFacs):FnOk P w K mg base CX0 3 f fd ["values","r","p"] spVal:=by
 refine F.ok aW (fun vs H Q E h=>?_) (fun cdv A outer s H vs Q E hr h=>?_)
 . obtain⟨a,xs,r,p,rfl,_⟩:=h;rfl
 obtain ⟨a,xs,r,p,rfl,ha,⟨x1,x5,xp,xb⟩,pp,p9,r0,r1,q⟩:=h;refine⟨_,(aa (aj (i:=3) aW.nd rfl (Or.inr rfl) (ag aQ (aA aC rfl B.len PySem.boot_len (ae (pv 0) aI)) ac))
  (aa (aj (i:=4) aW.nd rfl (Or.inl rfl) (ai cw hr (by decide) rfl (ae (cr (N:=["r"]) (ix:=[1]) rfl
   (CompScope.one (by rfl') (by decide) rfl (by decide) rfl (by decide) (by rfl') (by rfl') (by rfl') rfl rfl) rfl
   (cx rfl B.range (ae (pv 3) aI)) (fun _ _ _=>df (ag aQ (pv 1) (pv 0)))) (ae (pv 2) aI))))
  (aa (aj (i:=5) aW.nd rfl (Or.inl rfl) (ai cw hr (by decide) rfl (ae (cr (N:=["r","last"]) (ix:=[1,3]) rfl
   (CompScope.two (by rfl') (by decide) rfl (by decide) rfl (by decide) (by first | exact Or.inl rfl | exact Or.inr rfl) (by rfl') (by rfl') (by rfl') (by rfl') rfl rfl (by rfl') rfl rfl) rfl
   (cx rfl B.range (ae (pv 3) aI)) (fun _ _ _=>df (ag aO (ag aQ (pv 1) (pv 2)) (pv 0)))) (ae (pv 2) aI))))
  (aa (aj (i:=6) aW.nd rfl (Or.inl rfl) (ai c9 hr (by decide) rfl (ae (pv 3) (ae (pv 2) aI))))
  (aa (aj (i:=7) aW.nd rfl (Or.inl rfl) ac)
  (aa (cE PassesOwn.never rfl (cx rfl B.range (ae (ag aO (pv 3) ac) aI)) (bi (i:=8) aW.nd rfl (Or.inl rfl)) (aa (aj (i:=9) aW.nd rfl (Or.inl rfl) (ag aN (ag bg (aD ix_list (pv 6) (pv 8) (fun _ _=>rfl)) (aD ix_list (pv 6) (ag aQ (pv 3) (pv 8)) (fun _ _=>rfl))) (pv 2)))
   (aa (aj (i:=10) aW.nd rfl (Or.inl rfl) (ag bg (ag aN (ag bg (ag bg (aD (ix_list.or aG) (pv 0) (pv 8) (fun _ _=>rfl)) (aD ix_list (pv 4) (pv 8) (fun _ _=>rfl))) (aD ix_list (pv 5) (ag aQ (pv 3) (pv 8)) (fun _ _=>rfl))) (pv 2)) (pv 9)))
   (aa (aB (af aH (ag aN (ag aQ (pv 3) (pv 8)) ac) ac (ao _)) (ad (aj (i:=10) aW.nd rfl (Or.inl rfl) (zO uu (pv 10)))) aq)
   (ad (aj (i:=7) aW.nd rfl (Or.inl rfl) (ag aN (ag aO (pv 7) (pv 10)) (pv 2))))))))
  (ad (am (pv 7))))))))),?_⟩
 have p2:=pp.1;have p1:1<p:=by omega
 have p0:0<p:=by omega
 have hP:=wE pp (by omega);obtain⟨L,hL⟩:∃L,xs.length=L+1:=⟨xs.length-1,by omega⟩
 have eL:(((xs.map V.int).length:Nat):Int)-1=(L:Int):=by rw[zF0];omega
 refine⟨_,rfl,a,_,rfl,ha.seq,_,_,rfl,rfl,?_⟩
 dsimp only
 rw[eL];refine⟨_,rfl,(L:Int),rfl,by omega,by omega,fun D hD=>?_⟩;refine fO (fun i H'=>H' D=some (.lst (((List.range i).map fun j:Nat=>r-j).map V.int))/\Same H H') ⟨by rw[aE];rfl,zC0 hD _⟩ ?_ ?_
 . rintro i H3 hi ⟨hD3,S3⟩;refine⟨_,rfl,_,rfl,_,_,rfl,rfl,_,hD3,?_,Nx.of hi ⟨?_,fun b o e=>?_⟩⟩
   . rw[zF0,zF0,qP0];exact aM (by omega)
   . rw[aE,List.range_succ,zL0,zL0,Int.zero_add];rfl
   . rw[av (aJ e hD)];exact S3 _ _ e
 rintro H1 ⟨hD1,S1⟩;rw[show((L:Int)).toNat=L from qQ0 L]at hD1;refine⟨_,rfl,D,_,L,p,rfl,hD1,by omega,p1,by omega,fun la H2 la0 S2 hla=>?_⟩;refine⟨_,rfl,(L:Int),rfl,by omega,by omega,fun D2 hD2=>?_⟩;refine fO (fun i H'=>H' D2=some (.lst (((List.range i).map fun j:Nat=>r-(L:Int)+j).map V.int))/\Same H2 H') ⟨by rw[aE];rfl,zC0 hD2 _⟩ ?_ ?_
 . rintro i H3 hi ⟨hD3,S3⟩;refine⟨_,rfl,_,rfl,_,_,rfl,rfl,_,rfl,_,_,rfl,rfl,_,hD3,?_,Nx.of hi ⟨?_,fun b o e=>?_⟩⟩
   . rw[zF0,zF0,qP0];exact aM (by omega)
   . rw[aE,List.range_succ,zL0,zL0,Int.zero_add];rfl
   . rw[av (aJ e hD2)];exact S3 _ _ e
 rintro H3 ⟨hD3,S3⟩;rw[show((L:Int)).toNat=L from qQ0 L]at hD3;refine⟨_,rfl,D2,_,L,p,rfl,hD3,by omega,p1,by omega,fun lb H4 lb0 S4 hlb=>?_⟩;refine⟨_,rfl,_,rfl,L,p,rfl,by omega,by omega,pp,p9,fun ls H5 sh ls0 S5 hsh hsr hls=>?_⟩;have S25:=S3.trans (S4.trans S5);have S05:=S1.trans (S2.trans S25);have hla5:=S25 _ _ hla;have hlb5:=S5 _ _ hlb;have ha5:=ha.same S05;have hW:=Bp hsh;refine⟨_,rfl,_,_,rfl,rfl,_,rfl,by omega,by omega,eC (fun i σ H'=>∃(t:Int)(x8 x9 x10:Option V),σ=[some (.ref a),some (.int r),some (.int p),some (.int L),some (.ref la),some (.ref lb),some (.ref ls),some (.int t),x8,x9,x10]/\0<=t/\t<p/\p ∣ t-sm (fun i=>xs.getD i 0*px r i (L+1)*((-1) ^ (L-i)*(sh i*sh (L-i)))) i/\H'=H5)
  ⟨0,_,_,_,rfl,by decide,p0,⟨0,by simp [sm]⟩,rfl⟩ ?_ ?_⟩
 . rintro i σ H6 hi ⟨t,x8,x9,x10,rfl,t0,t1,td,rfl⟩;have hi':i<L+1:=by omega
   obtain⟨m,hm⟩:∃m,L=i+m:=⟨L-i,by omega⟩
   have e0:(0:Int)+(i:Int)=(i:Int):=Int.zero_add _;have e1:(L:Int)-(0+(i:Int))=(m:Int):=by omega
   have r1':=hsr i;have r2':=hsr m;have ar:=ki p1 (fun j:Nat=>r-j) i;have br:=ki p1 (fun j:Nat=>r-(L:Int)+j) m;have xi:=xb i;have m1:∀z:Int,0<=z % p:=fun z=>qB0 _ (by omega)
   have m2:∀z:Int,z % p<p:=fun z=>qF0 _ p0
   refine ⟨_,rfl,_,rfl,ls,_,_,.int (sh i),rfl,rfl,zG0 hls,by rw[e0];exact vE hi',_,rfl,_,rfl,_,rfl,_,_,rfl,rfl,ls,_,_,.int (sh m),rfl,rfl,zG0 hls,by rw[e1];exact vE (by omega),_,_,rfl,rfl,.inl ⟨by omega,by omega⟩,_,rfl,_,_,rfl,rfl,p0,?_⟩;refine⟨_,rfl,_,rfl,?_⟩;rw[e0];refine ha5.ix (by omega) ?_;refine⟨_,rfl,_,rfl,la,_,_,.int (pmd p (fun j:Nat=>r-j) i),rfl,rfl,zG0 hla5,uW hi',_,_,rfl,rfl,.inl ⟨by omega,by omega⟩,?_⟩;refine⟨_,rfl,_,rfl,_,rfl,_,_,rfl,rfl,lb,_,_,.int (pmd p (fun j:Nat=>r-(L:Int)+j) m),rfl,rfl,zG0 hlb5,by rw[←e0,e1];exact uW (by omega),_,_,rfl,rfl,.inr ⟨by omega,by omega⟩,_,rfl,_,_,rfl,rfl,p0,?_⟩;have s1:=m1 (sh i*sh m);have s2:=m2 (sh i*sh m);refine⟨_,rfl,_,_,rfl,rfl,.inr ⟨by omega,by omega⟩,?_⟩;refine⟨_,rfl,_,rfl,_,_,rfl,rfl,_,_,rfl,rfl,(by show(0:Int)<_;decide),rfl,_,rfl,?_⟩;have fin:∀z:Int,z=(if m % 2=1 then -(xs.getD i 0*pmd p (fun j:Nat=>r-j) i*pmd p (fun j:Nat=>r-(L:Int)+j) m % p*(sh i*sh m % p))else xs.getD i 0*pmd p (fun j:Nat=>r-j) i*pmd p (fun j:Nat=>r-(L:Int)+j) m % p*(sh i*sh m % p)) ->
    p ∣ (t+z) % p-sm (fun i=>xs.getD i 0*px r i (L+1)*((-1) ^ (L-i)*(sh i*sh (L-i)))) (i+1):=fun z hz=>by
    show p ∣ _-(sm _ i+xs.getD i 0*px r i (L+1)*((-1) ^ (L-i)*(sh i*sh (L-i))))
    have em:L-i=m:=by omega
    have hb:p ∣ pmd p (fun j:Nat=>r-(L:Int)+j) m-pr (fun j=>r-(i+m:Nat)+j) m:=by
     rw[←hm];exact kj p _ m
    subst hz;rw[em];have el:L+1=i+m+1:=by omega
    rw[el]at td ⊢;exact Bq td (kj p _ i) hb (dm p _) (dm p _) (dm p _)
   by_cases c:m % 2=1
   . refine aS (congrArg V.int (by omega)) ?_;refine⟨_,rfl,_,rfl,?_⟩;refine⟨_,rfl,_,rfl,_,_,rfl,rfl,_,rfl,_,_,rfl,rfl,p0,?_⟩;exact⟨_,_,_,_,rfl,m1 _,m2 _,fin _ (by rw[zE0 c]),rfl⟩
   . refine au (fun z=>c (by have:=V.int.inj z;omega)) ?_;refine⟨_,rfl,_,rfl,_,_,rfl,rfl,_,rfl,_,_,rfl,rfl,p0,?_⟩;exact⟨_,_,_,_,rfl,m1 _,m2 _,fin _ (by rw[zB0 c]),rfl⟩
 . rintro σ H6 ⟨t,x8,x9,x10,rfl,t0,t1,td,rfl⟩;rw[show((L:Int)+1).toNat=L+1 by omega]at td;rw[←hL]at hW;have e:=Dh (r:=r) hP xp hW t0 t1 (by
    unfold lag;rw[hL];exact td)
   rw[e];exact⟨_,rfl,q H6 S05⟩
theorem o9:FnScope ["values","r","p","place"] ["values","r","p"] (ak jD):=⟨rfl,rfl,rfl,by decide,rfl,by decide,by decide⟩
theorem sL {f:Addr} {fd:FuncData} (F:Fun K "value_at" "value_at" jD f fd) (B:Bl mg) (eX:Cal P w K mg base 3 "value_behind" ["values","r","p"] spVal):FnOk P w K mg base CX0 4 f fd ["values","r","p"] spVal:=by
 refine F.ok o9 (fun vs H Q E h=>?_) (fun cdv A outer s H vs Q E hr h=>?_)
 . obtain⟨a,xs,r,p,rfl,_⟩:=h;rfl
 obtain ⟨a,xs,r,p,rfl,ha,ok,pp,p9,r0,r1,q⟩:=h;refine⟨_,(aa (aj (i:=3) o9.nd rfl (Or.inl rfl) (ag aN (pv 1) (pv 2)))
  (aa (aB (af cJ (pv 3) (aA aC rfl B.len PySem.boot_len (ae (pv 0) aI)) (ao _)) (ad (am (ag aN (aD (ix_list.or aG) (pv 0) (pv 3) (fun _ _=>rfl)) (pv 2)))) aq)
  (ad (am (ai eX hr (by decide) rfl (ae (pv 0) (ae (pv 3) (ae (pv 2) aI)))))))),?_⟩
 have p0:0<p:=by omega
 have hP:=wE pp (by omega);have er:r % p=r:=qS0 r0 r1;refine⟨_,rfl,_,rfl,_,_,rfl,rfl,p0,?_⟩
 dsimp only
 rw[er];refine⟨_,rfl,_,rfl,a,_,rfl,ha.seq,_,_,rfl,rfl,_,rfl,?_⟩;refine kD (fun c=>?_) (fun c=>?_)
 . have c':=of_decide_eq_true c;rw[zF0]at c';obtain⟨k,rfl⟩:∃k:Nat,r=(k:Int):=⟨r.toNat,by omega⟩
   refine⟨_,rfl,_,rfl,?_⟩;refine ha.ix (by omega) ?_;refine⟨_,rfl,_,_,rfl,rfl,p0,?_⟩;show Q (.int (xs.getD k 0 % p)) H;rw[←Di hP ok.2.2.1 (by omega)];exact q H (Same.refl _)
 . exact⟨_,rfl,_,rfl,_,rfl,a,xs,r,p,rfl,ha,ok,pp,p9,r0,r1,q⟩
theorem IntsAt.sqB{K:W.Frag}{H:Hp}{a:Addr}{xs:List Int}(h:IntsAt H a xs):∃c,SqB K c H a (xs.map V.int):=h.elim (fun e=>⟨true,zG0 e⟩) (fun e=>⟨false,zD0 e⟩)
def hor(s p:Int):List Int->Int
 | []=>0
 | a::r=>(hor s p r*s+a) % p
theorem mD{s p:Int}(hp:0<p):∀ns,0<=hor s p ns/\hor s p ns<p
 | []=>⟨Int.le_refl 0,hp⟩
 | a::r=>⟨qB0 _ (by omega),qF0 _ hp⟩
inductive spMix(C:Addr)(vs:List V)(H:Hp)(Q:VK)(u_3:XK):Prop where
 | mk:∀(g a b d l:Addr)(ns:List Int)(s p:Int),(vs=[.ref g,.ref l,.int s])->(GameAt C H g a b d p)->(0<p)->(p<2 ^ 40)->(IntsAt H l ns)->(Q (.int (hor s p ns)) H)->spMix C vs H Q u_3
theorem o5:FnScope ["self","numbers","s","total","number"] ["self","numbers","s"] (ak uT):=⟨rfl,rfl,rfl,by decide,rfl,by decide,by decide⟩
theorem BW {f C:Addr} {fd:FuncData} (F:Fun K "mix" "Game.mix" uT f fd) (T:GTxt K mg C) (hrev:mg "reversed"=none):FnOk P w K mg base CX0 1 f fd ["self","numbers","s"] (spMix C):=by
 refine F.ok o5 (fun vs H Q E h=>?_) (fun cdv A outer s H vs Q E hr h=>?_)
 . obtain⟨g,a,b,d,l,ns,s,p,rfl,_⟩:=h;rfl
 obtain ⟨g,a,b,d,l,ns,s,p,rfl,⟨dx,hg⟩,p0,p40,hl,q⟩:=h;refine⟨_,(aa (aj (i:=3) o5.nd rfl (Or.inl rfl) ac)
  (aa (cE PassesOwn.never rfl (wF rfl hrev (pv 1)) (bi (i:=4) o5.nd rfl (Or.inl rfl)) (ad (aj (i:=3) o5.nd rfl (Or.inl rfl) (ag aN (ag aO (ag bg (pv 3) (pv 2)) (pv 4)) (ay (pv 0) rfl)))))
  (ad (am (pv 3))))),?_⟩
 obtain ⟨c,hl⟩:=hl.sqB (K:=K);refine⟨_,rfl,c,l,_,rfl,hl,tL (K:=K) (c:=c) (xs:=ns.map V.int) (fun i σ H'=>∃(x4:Option V)(t:Int),σ=[some (.ref g),some (.ref l),some (.int s),some (.int t),x4]/\t=hor s p (ns.drop (ns.length-i))/\H'=H)
  ⟨_,0,rfl,by rw[Nat.sub_zero,List.drop_length];rfl,rfl⟩ (fun i σ H' _ hst=>by obtain⟨_,_,_,_,h⟩:=hst;subst h;exact hl) ?_ ?_⟩
 . rintro i z σ H1 hi hz ⟨x4,t,rfl,rfl,rfl⟩;rw[zF0]at hi;rw[←List.map_reverse,qE0]at hz;obtain⟨x,hx,rfl⟩:=qW0 hz;rw[List.getElem?_reverse hi]at hx;have hr2:=mD (s:=s) p0 (ns.drop (ns.length-i));refine⟨_,rfl,_,rfl,_,_,rfl,rfl,.inl ⟨by omega,by omega⟩,_,rfl,_,_,rfl,rfl,_,rfl,g,C,dx,_,_,rfl,hg,T.cl,T.nF,jy ..,_,_,rfl,rfl,p0,?_⟩;refine⟨_,_,rfl,?_,rfl⟩;have hj:ns.length-1-i<ns.length:=by omega
   have ed:ns.drop (ns.length-(i+1))=x::ns.drop (ns.length-i):=by
    have e1:ns.length-(i+1)=ns.length-1-i:=by omega
    have e2:ns.length-i=ns.length-1-i+1:=by omega
    rw[e1,e2,List.drop_eq_getElem_cons hj]
    congr 1
    rw[zR0 hj]at hx;exact zV0 hx
   rw[ed];rfl
 . rintro σ H1 ⟨x4,t,rfl,rfl,rfl⟩;rw[zF0,Nat.sub_self,List.drop_zero];exact⟨_,rfl,q⟩
inductive spWAt(C:Addr)(vs:List V)(H:Hp)(Q:VK)(u_3:XK):Prop where
 | mk:∀(g a b d r:Addr)(ns:List Str)(tv:List V)(ts:List Tr)(pt:List Int)(s p:Int),(vs=[.ref g,.ref r,.int s])->(GameAt C H g a b d p)->(1<p)->(p<2 ^ 40)->(H a=some (.tup (ns.map V.str)))->(H b=some (.tup tv))->(TreesAt H tv ts)->(ts.length<=10)->((∀t∈ts,t.ok ns/\t.depth<=10))->(H r=some (.tup (pt.map V.int)))->(pt.length=ns.length)->(eM pt p)->(∀H',Same H H'->Q (.int (hor s p (ts.map fun t=>t.worth ns pt p))) H')->spWAt C vs H Q u_3
theorem xw:FnScope ["self","point","s"] ["self","point","s"] (ak nU):=⟨rfl,rfl,rfl,by decide,rfl,by decide,by decide⟩
theorem xR {f fm C:Addr} {fd fdm:FuncData} (F:Fun K "worth_at" "Game.worth_at" nU f fd) (T:GTxt K mg C) (mM:Meth K C "mix" fm) (GM:FnOk P w K mg base CX0 1 fm fdm ["self","numbers","s"] (spMix C)) (bM:Binds K fdm ["self","numbers","s"] []) (dM:Cal P w K mg base 12 "worth_of" ["tree","switches","point","p"] (spWorth 10)):FnOk P w K mg base CX0 13 f fd ["self","point","s"] (spWAt C):=by
 refine F.ok xw (fun vs H Q E h=>?_) (fun cdv A outer s H vs Q E hr h=>?_)
 . obtain⟨g,a,b,d,r,ns,tv,ts,pt,s,p,rfl,_⟩:=h;rfl
 obtain ⟨g,a,b,d,r,ns,tv,ts,pt,s,p,rfl,⟨dx,hg⟩,p1,p40,ha,hb,TS,t10,tok,hr0,pl,po,q⟩:=h;have hr1:Room 1 _:=hr.mono (by decide);refine⟨_,(ad (am (bu (pv 0) T.cl mM GM hr1 bM .nil bq (ae (cr (N:=["self","point"]) (ix:=[0,1]) rfl
  (CompScope.two (by rfl') (by decide) rfl (by decide) rfl (by decide) (by first | exact Or.inl rfl | exact Or.inr rfl) (by rfl') (by rfl') (by rfl') (by rfl') rfl rfl (by rfl') rfl rfl) rfl
  (iT (ay (pv 0) rfl)) (fun _ _ _=>df (ai dM hr (by decide) rfl (ae (pv 0) (ae (mv K (pv 1)) (ae (pv 2) (ae (mv K (pv 1)) aI))))))) (ae (pv 2) aI))))),?_⟩
 have vl:=TS.length;refine⟨_,rfl,g,dx,_,rfl,hg,AQ _ _ _ _ (by decide) (by decide) (by decide) (by decide),?_⟩;refine⟨_,rfl,g,C,dx,_,_,rfl,hg,T.cl,T.nT,qi ..,b,rfl,⟨_,zD0 hb⟩,fun D hD=>?_⟩;refine iX (K:=K) (xs:=tv) (fun i H'=>H' D=some (.lst (((ts.take i).map fun t=>t.worth ns pt p).map V.int))/\Same H H') ⟨by rw[aE];rfl,zC0 hD _⟩ (fun i H' _ h=>zD0 (h.2 _ _ hb)) ?_ ?_
 . rintro i z H2 hz ⟨hl,S2⟩;obtain⟨t,ht,Tt⟩:=TS.get hz;obtain⟨tk,td⟩:=tok t (qI0 ht);have hi:i<tv.length:=(zX0 hz).1;refine⟨_,rfl,_,rfl,g,C,dx,_,_,rfl,S2 _ _ hg,T.cl,T.nS,oQ ..,_,rfl,_,rfl,g,C,dx,_,_,rfl,S2 _ _ hg,T.cl,T.nF,jy ..,z,t,a,r,ns,pt,p,rfl,Tt.mono (aV S2),tk,td,.inr (S2 _ _ ha),S2 _ _ hr0,pl,p1,p40,po,?_⟩;refine⟨_,hl,?_,Nx.of hi ⟨?_,fun b' o' e'=>?_⟩⟩
   . rw[zF0,zF0,qM0];exact aM (by omega)
   . rw[aE,qK0,ht,zL0,zL0];rfl
   . rw[av (aJ e' hD)];exact S2 _ _ e'
 . rintro H2 ⟨hl,S2⟩;rw[vl,qJ0]at hl;exact⟨_,rfl,g,a,b,d,D,_,s,p,rfl,⟨dx,S2 _ _ hg⟩,by omega,p40,.inl hl,q H2 S2⟩
def Gm(CG:Addr)(H:Hp)(g:Addr)(ns:List Str)(ts:List Tr)(p:Int):Prop:=∃(a b d:Addr)(tv:List V),GameAt CG H g a b d p/\H a=some (.tup (ns.map V.str))/\H b=some (.tup tv)/\TreesAt H tv ts/\H d=some (.lst ((ns.map (bw ts)).map V.int))
theorem Gm.same{CG:Addr}{H H':Hp}{g:Addr}{ns:List Str}{ts:List Tr}{p:Int}(h:Gm CG H g ns ts p)(s:Same H H'):Gm CG H' g ns ts p:=by
 obtain⟨a,b,d,tv,h1,h2,h3,h4,h5⟩:=h;exact⟨a,b,d,tv,h1.same s,s _ _ h2,s _ _ h3,h4.mono (aV s),s _ _ h5⟩
theorem Cq (a b:Addr) (p:Int) (d:Addr):(gf a b p d).lookup ("game":Str)=none:=AQ _ _ _ _ (by decide) (by decide) (by decide) (by decide)
structure GmK(ns:List Str)(ts:List Tr)(p:Int):Prop where
 pr:Pr p
 p2:2<p
 p9:p<=999983
 n10:ns.length<=10
 t1:1<=ts.length
 t10:ts.length<=10
 tok:∀t∈ts,t.ok ns/\t.wf/\t.depth<=10/\t.size<=400
 tp:(ts.length:Int)<=p
 tc:∀t∈ts,∀x∈ns,(t.names.count x:Int)<p
theorem GmK.deg{ns:List Str}{ts:List Tr}{p:Int}(k:GmK ns ts p):∀x∈ns,0<=bw ts x/\bw ts x<p:=fun x hx=>by
 have t0:ts≠[]:=fun z=>by have:=k.t1;rw[z]at this;cases this
 refine⟨?_,oW t0 fun t ht=>k.tc t ht x hx⟩
 have:=kz (ns:=ts.map fun t=>(t.names.count x:Int)) (by simpa using t0)
 obtain⟨t,_,e⟩:=List.mem_map.mp this;unfold bw;rw[←e];omega
theorem wM{xs:List Int}{j:Nat}(h:j<xs.length):atI (xs.map V.int) (j:Int)=some (.int (xs.getD j 0)):=cH (by rw[qE0,zR0 h,qT0,zR0 h];rfl)
theorem lU:∀ns ms:List Int,PyData.eqvAll (ns.map PyData.int) (ms.map PyData.int)=decide (ns=ms)
 | [],[]=>rfl
 | [],_::_=>rfl
 | _::_,[]=>rfl
 | a::r,b::t=>by
   simp only[zZ0,PyData.eqvAll,PyData.eqv,lU r t]
   by_cases h1:a=b <;> by_cases h2:r=t <;> simp [h1,h2]
theorem El(ns ms:List Int):PyData.eqv (.list (ns.map PyData.int)) (.list (ms.map PyData.int))=decide (ns=ms):=by simp [PyData.eqv,lU]
theorem pV(ns:List Int):SeqAt.shaped (.list (ns.map PyData.int))=true:=by
 simp [SeqAt.shaped,PyData.canLay0,PyData.depth,W.ke_canLayAll0,W.ke_depthAll]
def iw (o:Str) (p q:Bool):Bool:=if o="and" then p&&q else if o="or" then p||q else if o="odd" then p != q else p==q
def Tr.holds(ns:List Str)(st:List Int):Tr->Bool
 | .is x=>match cI x ns with | some j=>decide (st.getD j 0=1) | none=>false
 | .yes=>true
 | .no=>false
 | .not a=>!a.holds ns st
 | .bin o a b=>iw o (a.holds ns st) (b.holds ns st)
inductive spJoined(vs:List V)(H:Hp)(Q:VK)(u_3:XK):Prop where
 | mk:∀(o:Str)(p q:Bool),(vs=[.str o,.bl p,.bl q])->(Q (.bl (iw o p q)) H)->spJoined vs H Q u_3
theorem xt:FnScope ["word","first","second"] ["word","first","second"] (ak nO):=⟨rfl,rfl,rfl,by decide,rfl,by decide,by decide⟩
theorem xP {f:Addr} {fd:FuncData} (F:Fun K "joined" "joined" nO f fd):FnOk P w K mg base CX0 1 f fd ["word","first","second"] spJoined:=by
 refine F.ok xt (fun vs H Q E h=>?_) (fun cdv A outer s H vs Q E hr h=>?_)
 . obtain⟨o,p,q,rfl,_⟩:=h;rfl
 obtain ⟨o,p,q,rfl,k⟩:=h;refine⟨_,(aa (aB (af aH (pv 0) ax (ao _)) (ad (am (ox (pv 1) (ow (pv 2))))) aq)
  (aa (aB (af aH (pv 0) ax (ao _)) (ad (am (pe_or (pv 1) (ow (pv 2))))) aq)
  (aa (aB (af aH (pv 0) ax (ao _)) (ad (am (cG jw (pv 1) (pv 2) (ao _)))) aq)
  (ad (am (cG aH (pv 1) (pv 2) (ao _))))))),?_⟩
 refine⟨_,rfl,rfl,_,rfl,?_⟩
 by_cases c1:V.str o=V.str "and"
 . refine aS c1 ?_;have e:iw o p q=(p&&q):=by unfold iw;rw[zE0 (fU c1)]
   rw[e]at k;refine⟨_,rfl,p,rfl,?_⟩;cases p with
   | true=>exact dh ⟨_,rfl,by simpa using k⟩
   | false=>exact cb (by simpa using k)
 refine au c1 ?_;have n1:¬ o="and":=fun z=>c1 (by rw[z])
 refine⟨_,rfl,rfl,_,rfl,?_⟩
 by_cases c2:V.str o=V.str "or"
 . refine aS c2 ?_;have e:iw o p q=(p||q):=by unfold iw;rw[zB0 n1,zE0 (fU c2)]
   rw[e]at k;refine⟨_,rfl,p,rfl,?_⟩;cases p with
   | true=>exact dh (by simpa using k)
   | false=>exact cb ⟨_,rfl,by simpa using k⟩
 refine au c2 ?_;have n2:¬ o="or":=fun z=>c2 (by rw[z])
 refine⟨_,rfl,rfl,_,rfl,?_⟩
 by_cases c3:V.str o=V.str "odd"
 . refine aS c3 ?_;have e:iw o p q=(p != q):=by unfold iw;rw[zB0 n1,zB0 n2,zE0 (fU c3)]
   rw[e]at k;refine⟨_,rfl,_,rfl,rfl,?_⟩;have e2:(!decide (V.bl p=V.bl q))=(p != q):=by cases p <;> cases q <;> decide
   show Q (.bl (!decide (V.bl p=V.bl q))) H;rw[e2];exact k
 refine au c3 ?_;have n3:¬ o="odd":=fun z=>c3 (by rw[z])
 have e:iw o p q=(p==q):=by unfold iw;rw[zB0 n1,zB0 n2,zB0 n3]
 rw[e]at k;refine⟨_,rfl,_,rfl,rfl,?_⟩;have e2:decide (V.bl p=V.bl q)=(p==q):=by cases p <;> cases q <;> decide
 show Q (.bl (decide (V.bl p=V.bl q))) H;rw[e2];exact k
inductive spHolds(n:Nat)(vs:List V)(H:Hp)(Q:VK)(u_3:XK):Prop where
 | mk:∀(v:V)(t:Tr)(a b:Addr)(ns:List Str)(st:List Int),(vs=[v,.ref a,.ref b])->(TreeAt H v t)->(t.ok ns)->(t.depth<=n)->(NamesAt H a ns)->(H b=some (.tup (st.map V.int)))->(st.length=ns.length)->(Q (.bl (t.holds ns st)) H)->spHolds n vs H Q u_3
theorem iE:FnScope ["tree","switches","setting","word","first"] ["tree","switches","setting"] (ak hZ):=⟨rfl,rfl,rfl,by decide,rfl,by decide,by decide⟩
theorem vO {n:Nat} {f:Addr} {fd:FuncData} (F:Fun K "holds_at" "holds_at" hZ f fd) (eY:Cal P w K mg base 1 "joined" ["word","first","second"] spJoined) (b6:Cal P w K mg base (n+2) "holds_at" ["tree","switches","setting"] (spHolds n)):FnOk P w K mg base CX0 (n+3) f fd ["tree","switches","setting"] (spHolds (n+1)):=by
 refine F.ok iE (fun vs H Q E h=>?_) (fun cdv A outer s H vs Q E hr h=>?_)
 . obtain⟨v,t,a,b,ns,st,rfl,_⟩:=h;rfl
 obtain ⟨v,t,a,b,ns,st,rfl,T,ok,dn,hN,hb,sl,k⟩:=h;refine⟨_,(aa (aj (i:=3) iE.nd rfl (Or.inl rfl) (aD aG (pv 0) ac (fun _ _=>rfl)))
  (aa (aB (af aH (pv 3) ax (ao _)) (ad (am (cG aH (aD aG (pv 2) (sK PySem.F.plainAttrs_list PySem.F.plainAttrs_tuple (pv 1) (ae (aD aG (pv 0) ac (fun _ _=>rfl)) aI)) (fun _ _=>rfl)) ac (ao _)))) aq)
  (aa (aB (PW.pt (cV (af aH (pv 3) ax (ao _)) (de (af aH (pv 3) ax (ao _))))) (ad (am (cG aH (pv 3) ax (ao _)))) aq)
  (aa (aj (i:=4) iE.nd rfl (Or.inl rfl) (ai b6 hr (zH0 _) rfl (ae (aD aG (pv 0) ac (fun _ _=>rfl)) (ae (pv 1) (ae (pv 2) aI)))))
  (aa (aB (af aH (pv 3) ax (ao _)) (ad (am (qW (pv 4)))) aq)
  (ad (am (ai eY hr (by omega) rfl (ae (pv 3) (ae (pv 4) (ae (ai b6 hr (zH0 _) rfl (ae (aD aG (pv 0) ac (fun _ _=>rfl)) (ae (pv 1) (ae (pv 2) aI)))) aI))))))))))),?_⟩
 cases T with
 | @is p x e=>
   refine⟨_,rfl,p,_,0,_,rfl,rfl,zD0 e,rfl,?_⟩;refine⟨_,rfl,rfl,_,rfl,?_⟩;refine aS rfl ?_;obtain⟨j,hj,jl⟩:=ei ok;have jl':j<st.length:=by omega
   refine⟨_,rfl,_,rfl,a,ns,rfl,hN,_,rfl,p,_,1,_,rfl,rfl,zD0 e,rfl,rfl,x,j,rfl,hj,b,_,(j:Int),.int st[j],rfl,rfl,zD0 hb,?_,rfl,?_⟩
   . refine cH ?_;rw[qE0,zR0 jl'];rfl
   . have e1:(Tr.is x).holds ns st=decide (V.int st[j]=V.int 1):=by
      show(match cI x ns with | some j=>decide (st.getD j 0=1) | none=>false)=_;rw[hj];show decide (st.getD j 0=1)=_;rw[qT0,zR0 jl']
      simp
     rw[e1]at k;exact k
 | @yes p e=>
   refine⟨_,rfl,p,_,0,_,rfl,rfl,zD0 e,rfl,?_⟩;refine⟨_,rfl,rfl,_,rfl,?_⟩;refine au (by decide) ?_;refine⟨_,rfl,rfl,_,rfl,?_⟩;refine aS rfl (dh ?_);exact⟨_,rfl,rfl,k⟩
 | @no p e=>
   refine⟨_,rfl,p,_,0,_,rfl,rfl,zD0 e,rfl,?_⟩;refine⟨_,rfl,rfl,_,rfl,?_⟩;refine au (by decide) ?_;refine⟨_,rfl,rfl,_,rfl,?_⟩;refine au (by decide) ?_;refine⟨_,rfl,rfl,_,rfl,?_⟩;refine aS rfl ?_;refine⟨_,rfl,rfl,?_⟩;have e1:decide (V.str "no"=V.str "yes")=false:=by decide
   show Q (.bl (decide (V.str "no"=V.str "yes"))) H;rw[e1];exact k
 | @not p u r e T1=>
   have dp:r.depth+1<=n+1:=dn;refine⟨_,rfl,p,_,0,_,rfl,rfl,zD0 e,rfl,?_⟩;refine⟨_,rfl,rfl,_,rfl,?_⟩;refine au (by decide) ?_;refine⟨_,rfl,rfl,_,rfl,?_⟩;refine au (by decide) ?_;refine⟨_,rfl,rfl,_,rfl,?_⟩;refine au (by decide) ?_;refine⟨_,rfl,p,_,1,_,rfl,rfl,zD0 e,rfl,_,rfl,_,rfl,u,r,a,b,ns,st,rfl,T1,ok,by omega,hN,hb,sl,?_⟩;refine⟨_,rfl,rfl,_,rfl,?_⟩;refine aS rfl ?_;exact⟨_,rfl,_,rfl,k⟩
 | @bin p o u u2 r r2 e T1 T2=>
   obtain⟨ho,ok1,ok2⟩:=ok;have dp:max r.depth r2.depth+1<=n+1:=dn;have ne:∀z:Str,z∉joinW->¬ V.str o=V.str z:=fun z hz h=>hz (fU h▸ho)
   refine⟨_,rfl,p,_,0,_,rfl,rfl,zD0 e,rfl,?_⟩;refine⟨_,rfl,rfl,_,rfl,?_⟩;refine au (ne _ (by decide)) ?_;refine⟨_,rfl,rfl,_,rfl,?_⟩;refine au (ne _ (by decide)) ?_;refine⟨_,rfl,rfl,_,rfl,?_⟩;refine au (ne _ (by decide)) ?_;refine⟨_,rfl,p,_,1,_,rfl,rfl,zD0 e,rfl,_,rfl,_,rfl,u,r,a,b,ns,st,rfl,T1,ok1,by omega,hN,hb,sl,?_⟩;refine⟨_,rfl,rfl,_,rfl,?_⟩;refine au (ne _ (by decide)) ?_;refine⟨_,rfl,_,rfl,_,rfl,p,_,2,_,rfl,rfl,zD0 e,rfl,_,rfl,_,rfl,u2,r2,a,b,ns,st,rfl,T2,ok2,by omega,hN,hb,sl,?_⟩;exact⟨o,_,_,rfl,k⟩
theorem vN {f:Addr} {fd:FuncData}:FnOk P w K mg base CX0 2 f fd ["tree","switches","setting"] (spHolds 0):=by
 have no:∀vs H Q E,¬ spHolds 0 vs H Q E:=fun vs H Q E h=>by
  obtain⟨v,t,_,_,_,_,_,_,_,h1,_⟩:=h
  have:=t.depth_pos
  omega
 exact⟨fun vs H Q E h=>absurd h (no vs H Q E),fun A outer s H args us vs Q E _ _ _ _ h=>absurd h (no vs H Q E)⟩
theorem lP {f:Addr} {fd:FuncData} (F:Fun K "holds_at" "holds_at" hZ f fd) (m:mg "holds_at"=some (.ref f)) (eY:Cal P w K mg base 1 "joined" ["word","first","second"] spJoined) :
 ∀n:Nat,FnOk P w K mg base CX0 (n+2) f fd ["tree","switches","setting"] (spHolds n)
 | 0=>vN
 | n+1=>vO F eY (Cal.of F (lP F m eY n) m (fun _ _ _ _ _ _ us hl=>by obtain⟨u0,u1,u2,rfl⟩:=Cl hl;rfl))
def Da(H:Hp)(v:V)(s:List Int):Prop:=∃a,v=.ref a/\H a=some (.tup (s.map V.int))
abbrev TupsAt(H:Hp):List V->List (List Int)->Prop:=PySem.Paired (Da H)
def rW(H:Hp)(r:Addr)(ss:List (List Int)):Prop:=∃rs,H r=some (.lst rs)/\TupsAt H rs ss
theorem TupsAt.mono{H H':Hp}(k:∀a xs,H a=some (.tup xs)->H' a=some (.tup xs)):∀{rs:List V}{ss:List (List Int)},TupsAt H rs ss->TupsAt H' rs ss
 | _,_,.nil=>.nil
 | _,_,.cons ⟨a,e,h⟩ t=>.cons ⟨a,e,k _ _ h⟩ (TupsAt.mono k t)
theorem TupsAt.get{H:Hp}:∀{rs:List V}{ss:List (List Int)}{i:Nat}{v:V},TupsAt H rs ss->rs[i]?=some v->∃s,ss[i]?=some s/\Da H v s
 | _,_,_,_,.nil,h=>by simp at h
 | _,_,0,_,.cons h _,e=>by
   simp at e
   subst e;exact⟨_,rfl,h⟩
 | _,_,i+1,v,.cons _ t,e=>by
   obtain⟨s,h1,h2⟩:=TupsAt.get (i:=i) t (by simpa using e);exact⟨s,by simpa using h1,h2⟩
theorem yf{H H':Hp}{b:Addr}{ys:List V}(s:SameBut b H H')(h:H b=some (.lst ys)∨H b=none):∀a xs,H a=some (.tup xs)->H' a=some (.tup xs):=fun a xs e=>s a _ (fun z=>by
 rw[z]at e;rcases h with h | h
 . rw[h]at e;cases e
 . rw[h]at e;cases e) e
theorem tY{K:W.Frag}{H1:Hp}{a p:Addr}{s:List Int}{z:Int}{Q:VK}(ha:H1 a=some (.tup (s.map V.int)))(hp:H1 p=some (.tup [.int z]))(hl:s.length<=100)
 (q:∀t H2,Same H1 H2->H2 t=some (.tup ((s++[z]).map V.int))->Q (.ref t) H2):rCatT K (.ref a) (.ref p) H1 Q∨rCatT0 K (.ref a) (.ref p) H1 Q:=by
 cases s with
 | nil=>exact .inr ⟨a,p,_,rfl,rfl,zD0 ha,zD0 hp,q p H1 (Same.refl _) hp⟩
 | cons x r=>
   refine .inl ⟨a,p,_,_,rfl,rfl,zD0 ha,zD0 hp,by simp,bv (by simp at hl ⊢;omega),(fun z=>nomatch z),(fun _ t ht=>q t _ (zC0 ht _) ?_)⟩;rw[aE,zL0];rfl
inductive spSetts(vs:List V)(H:Hp)(Q:VK)(u_3:XK):Prop where
 | mk:∀n:Int,(vs=[.int n])->(0<=n)->(n<=6)->(∀(r:Addr)(H':Hp),H r=none->Same H H'->rW H' r (bQ n.toNat)->Q (.ref r) H')->spSetts vs H Q u_3
theorem b5:FnScope ["n","told","switch","longer","setting"] ["n"] (ak fw):=⟨rfl,rfl,rfl,by decide,rfl,by decide,by decide⟩
theorem mh {f:Addr} {fd:FuncData} (F:Fun K "all_settings" "all_settings" fw f fd) (hrange:mg "range"=none):FnOk P w K mg base CX0 1 f fd ["n"] spSetts:=by
 refine F.ok b5 (fun vs H Q E h=>?_) (fun cdv A outer s H vs Q E hr h=>?_)
 . obtain⟨n,rfl,_⟩:=h;rfl
 obtain ⟨n,rfl,n0,n6,q⟩:=h;refine⟨_,(aa (aj (i:=1) b5.nd rfl (Or.inl rfl) (cf (ae (aF aI) aI)))
  (aa (cE PassesOwn.never rfl (cx rfl hrange (ae (pv 0) aI)) (bi (i:=2) b5.nd rfl (Or.inl rfl)) (aa (aj (i:=3) b5.nd rfl (Or.inl rfl) (cf aI))
   (aa (cE PassesOwn.never rfl (dG (pv 1)) (bi (i:=4) b5.nd rfl (Or.inl rfl)) (aa (bc (dH PySem.F.plainAttrs_list PySem.F.slot_list_append PySem.F.type_list_append bY (pv 3) (ae (ag (op_catT.or oz) (pv 4) (aF (ae ac aI))) aI)))
    (ad (bc (dH PySem.F.plainAttrs_list PySem.F.slot_list_append PySem.F.type_list_append bY (pv 3) (ae (ag (op_catT.or oz) (pv 4) (aF (ae ac aI))) aI))))))
   (ad (aj (i:=1) b5.nd rfl (Or.inl rfl) (pv 3))))))
  (ad (am (pv 1))))),?_⟩
 refine ⟨(by show 0<=sizeLine;decide),fun p hp=>?_⟩;refine⟨(by show 1<=sizeLine;decide),fun a ha=>?_⟩;have np:p≠a:=fun z=>by
  subst z;rw[aE]at ha;cases ha
 have ha0:H a=none:=(zC0 hp _).free ha;refine⟨_,rfl,n,rfl,by omega,by omega,eC (fun i σ H'=>∃(a:Addr)(x2 x3 x4:Option V),σ=[some (.int n),some (.ref a),x2,x3,x4]/\H a=none/\Same H H'/\rW H' a (bQ i))
  ⟨a,_,_,_,rfl,ha0,(zC0 hp _).trans (zC0 ha _),[.ref p],aE,.cons ⟨p,rfl,by rw[av np,aE];rfl⟩ .nil⟩ ?_ ?_⟩
 . rintro i σ H' hi ⟨a,x2,x3,x4,rfl,a0,s0,rs,hrs,T⟩;have i6:i<6:=by omega
   have sl:=jf i;have s64:=ln (n:=i) (by omega);refine⟨(by show 0<=sizeLine;decide),fun b hb=>?_⟩;have ab:a≠b:=aJ hrs hb;refine⟨_,rfl,a,rfl,⟨_,zG0 (by rw[av ab];exact hrs)⟩,iW (K:=K) (xs:=rs) (fun j σ H2=>∃(x4:Option V)(bs:List V),σ=[some (.int n),some (.ref a),some (.int (0+(i:Int))),some (.ref b),x4]/\SameBut b H' H2/\H2 b=some (.lst bs)/\TupsAt H2 bs (((bQ i).take j).flatMap fun s=>[s++[0],s++[1]]))
    ⟨_,[],rfl,SameBut.upd _,aE,.nil⟩ (fun j σ H2 _ hst=>by obtain⟨_,_,_,sb,_⟩:=hst;exact zG0 (sb a _ ab hrs)) ?_ ?_⟩
   . rintro j y σ H2 hj ⟨x4,bs,rfl,sb,hbs,TB⟩;have T2:TupsAt H2 rs (bQ i):=T.mono (yf (ys:=[]) sb (.inr hb));obtain⟨s,hs,t,rfl,ht⟩:=T2.get hj;have hsm:s∈bQ i:=qI0 hs;have hsl:=dj i s hsm;have hbl:=TB.length;rw[lx,qM0]at hbl;refine⟨_,rfl,.inl ⟨rfl,_,zG0 hbs⟩,?_⟩;refine⟨_,rfl,(by show 1<=sizeLine;decide),fun p1 hp1=>?_⟩;have S1:Same H2 (upd H2 p1 (.tup [.int 0])):=zC0 hp1 _;refine tY (s:=s) (z:=0) (S1 _ _ ht) aE (by omega) fun t1 H3 S3 e3=>?_
     have S13:Same H2 H3:=S1.trans S3;refine⟨b,bs,_,rfl,rfl,S13 _ _ hbs,aM (by omega),?_⟩;have K4:=gC (H:=H3) (b:=b) (ys:=bs) (zs:=bs++[.ref t1]) (S13 _ _ hbs);have e4:=K4 _ _ e3;have t4:=K4 _ _ (S13 _ _ ht);refine⟨_,rfl,.inl ⟨rfl,_,zG0 aE⟩,?_⟩;refine⟨_,rfl,(by show 1<=sizeLine;decide),fun p2 hp2=>?_⟩;have S4:Same (upd H3 b (.lst (bs++[.ref t1]))) (upd (upd H3 b (.lst (bs++[.ref t1]))) p2 (.tup [.int 1])):=zC0 hp2 _;refine tY (s:=s) (z:=1) (S4 _ _ t4) aE (by omega) fun t2 H5 S5 e5=>?_
     have S45:=S4.trans S5;have hb5:H5 b=some (.lst (bs++[.ref t1])):=S45 _ _ aE;refine⟨b,bs++[.ref t1],_,rfl,rfl,hb5,aM (by rw[zJ0,qN0];omega),?_⟩;have K6:=gC (H:=H5) (b:=b) (ys:=bs++[.ref t1]) (zs:=bs++[.ref t1]++[.ref t2]) hb5;refine⟨_,bs++[.ref t1]++[.ref t2],rfl,?_,aE,?_⟩
     . have q1:SameBut b H' H3:=sb.trans (zK0 S13);have q2:SameBut b H' H5:=(q1.trans (SameBut.upd _)).trans (zK0 S45);exact q2.trans (SameBut.upd _)
     . have hbase:TupsAt (upd H5 b (.lst (bs++[.ref t1]++[.ref t2]))) bs (((bQ i).take j).flatMap fun s=>[s++[0],s++[1]]):=
        TB.mono fun a xs e=>K6 _ _ (S45 _ _ (K4 _ _ (S13 _ _ e)))
       rw[qK0,hs,List.flatMap_append];have e:((some s).toList.flatMap fun s:List Int=>[s++[0],s++[1]])=[s++[0]]++[s++[1]]:=by simp
       rw[e,←List.append_assoc];exact(hbase.snoc ⟨t1,rfl,K6 _ _ (S45 _ _ e4)⟩).snoc ⟨t2,rfl,K6 _ _ e5⟩
   . rintro σ H2 ⟨x4,bs,rfl,sb,hbs,TB⟩;have rl:=T.length;rw[rl,qJ0]at TB;exact⟨_,rfl,b,_,_,_,rfl,s0.free hb,s0.but (s0.free hb) sb,bs,hbs,TB⟩
 . rintro σ H' ⟨a,x2,x3,x4,rfl,a0,s0,S⟩;exact⟨_,rfl,q a H' a0 s0 S⟩
def cnt(t:Tr)(ns:List Str):Nat:=((bQ ns.length).filter fun st=>t.holds ns st).length
inductive spCount(vs:List V)(H:Hp)(Q:VK)(u_3:XK):Prop where
 | mk:∀(v:V)(t:Tr)(a:Addr)(ns:List Str),(vs=[v,.ref a])->(TreeAt H v t)->(t.ok ns)->(t.depth<=12)->(NamesAt H a ns)->(ns.length<=6)->(∀H',Same H H'->Q (.int (cnt t ns:Int)) H')->spCount vs H Q u_3
theorem ph:FnScope ["tree","switches","holding"] ["tree","switches"] (ak jK):=⟨rfl,rfl,rfl,by decide,rfl,by decide,by decide⟩
theorem sS {f:Addr} {fd:FuncData} (F:Fun K "count_of" "count_of" jK f fd) (hlen:mg "len"=none) (cc:Cal P w K mg base 1 "all_settings" ["n"] spSetts) (b6:Cal P w K mg base 14 "holds_at" ["tree","switches","setting"] (spHolds 12)):FnOk P w K mg base CX0 15 f fd ["tree","switches"] spCount:=by
 refine F.ok ph (fun vs H Q E h=>?_) (fun cdv A outer s H vs Q E hr h=>?_)
 . obtain⟨v,t,a,ns,rfl,_⟩:=h;rfl
 obtain ⟨v,t,a,ns,rfl,T,ok,dp,hN,nl,q⟩:=h;refine⟨_,(aa (wC (i:=2) (N:=["tree","switches"]) (ix:=[0,1]) ph.nd rfl (Or.inl rfl) rfl
  (CompScope.two (by rfl') (by decide) rfl (by decide) rfl (by decide) (by first | exact Or.inl rfl | exact Or.inr rfl) (by rfl') (by rfl') (by rfl') (by rfl') rfl rfl (by rfl') rfl rfl) rfl
  (dG (ai cc hr (by decide) rfl (ae (aA aC rfl hlen PySem.boot_len (ae (pv 1) aI)) aI)))
  (fun _ _ _=>CP (cv (ai b6 hr (by decide) rfl (ae (pv 1) (ae (pv 2) (ae (pv 0) aI))))) (pv 0)))
  (ad (am (aA aC rfl hlen PySem.boot_len (ae (pv 2) aI))))),?_⟩
 have en:((ns.map V.str).length:Int)=(ns.length:Int):=by rw[zF0]
 refine⟨_,rfl,a,_,rfl,hN.seq,_,rfl,by omega,by omega,fun r H1 r0 S1 R1=>?_⟩;rw[en]at R1;have e2:((ns.length:Int)).toNat=ns.length:=by omega
 rw[e2]at R1;obtain⟨rs,hrs,TS⟩:=R1;have rl:=TS.length;have sl:=jf ns.length;have s64:=ln nl;refine⟨r,rfl,⟨_,zG0 hrs⟩,fun D hD=>?_⟩;refine gG (K:=K) (xs:=rs) (fun i H'=>∃ys,H' D=some (.lst ys)/\ys.length=(((bQ ns.length).take i).filter fun st=>t.holds ns st).length/\Same H1 H') ⟨[],aE,rfl,zC0 hD _⟩ (fun i H' _ hst=>by obtain⟨_,_,_,h⟩:=hst;exact zG0 (h _ _ hrs)) ?_ ?_
 . rintro i x H2 hx ⟨ys,hl,yl,S2⟩;have hi:i<rs.length:=(zX0 hx).1;have TS2:=TS.mono (aV S2);obtain⟨st,hst,b,rfl,hb⟩:=TS2.get hx;have stl:=dj _ _ (qI0 hst);have S02:=S1.trans S2;have tk:((bQ ns.length).take (i+1)).filter (fun st=>t.holds ns st)=((bQ ns.length).take i).filter (fun st=>t.holds ns st)++[st].filter (fun st=>t.holds ns st):=by
    rw[qK0,hst,List.filter_append];rfl
   refine⟨_,rfl,_,rfl,_,rfl,v,t,a,b,ns,st,rfl,T.mono (aV S02),ok,dp,hN.same S02,hb,stl,_,rfl,?_⟩;cases c:t.holds ns st with
   | true=>
     refine dh ?_;refine⟨_,rfl,ys,hl,?_,Nx.of hi ⟨_,aE,?_,fun b' o e=>?_⟩⟩
     . have:=List.length_filter_le (fun st=>t.holds ns st) ((bQ ns.length).take i)
       rw[qM0]at this;exact aM (by omega)
     . rw [tk,zJ0,zJ0,yl]
       simp [c]
     . rw[av (aJ e hD)];exact S2 _ _ e
   | false=>
     refine cb ?_;refine Nx.of hi ⟨ys,hl,?_,S2⟩;rw[tk,zJ0,yl]
     simp [c]
 . rintro H2 ⟨ys,hl,yl,S2⟩;have e3:rs.length=(bQ ns.length).length:=rl;rw[e3,qJ0]at yl;refine⟨_,rfl,D,_,rfl,.inl (zG0 hl),?_⟩;rw[yl];exact q H2 (S1.trans S2)
inductive spCounts(C:Addr)(vs:List V)(H:Hp)(Q:VK)(u_3:XK):Prop where
 | mk:∀(g a b d:Addr)(ns:List Str)(tv:List V)(ts:List Tr)(p:Int),(vs=[.ref g])->(GameAt C H g a b d p)->(H a=some (.tup (ns.map V.str)))->(ns.length<=6)->(H b=some (.tup tv))->(TreesAt H tv ts)->(ts.length<=10)->((∀t∈ts,t.ok ns/\t.depth<=12))->(∀(l:Addr)(H':Hp),H l=none->Same H H'->H' l=some (.lst ((ts.map fun t=>(cnt t ns:Int)).map V.int))->Q (.ref l) H')->spCounts C vs H Q u_3
theorem qC:FnScope ["game"] ["game"] (ak iQ):=⟨rfl,rfl,rfl,by decide,rfl,by decide,by decide⟩
theorem re {f C:Addr} {fd:FuncData} (F:Fun K "counts_of" "counts_of" iQ f fd) (T:GTxt K mg C) (i9:Cal P w K mg base 15 "count_of" ["tree","switches"] spCount):FnOk P w K mg base CX0 16 f fd ["game"] (spCounts C):=by
 refine F.ok qC (fun vs H Q E h=>?_) (fun cdv A outer s H vs Q E hr h=>?_)
 . obtain⟨g,a,b,d,ns,tv,ts,p,rfl,_⟩:=h;rfl
 obtain ⟨g,a,b,d,ns,tv,ts,p,rfl,⟨dx,hg⟩,ha,nl,hb,TS,t10,tok,q⟩:=h;refine⟨_,(ad (am (cr (N:=["game"]) (ix:=[0]) rfl
  (CompScope.one (by rfl') (by decide) rfl (by decide) rfl (by decide) (by rfl') (by rfl') (by rfl') rfl rfl) rfl
  (iT (ay (pv 0) rfl)) (fun _ _ _=>df (ai i9 hr (by decide) rfl (ae (pv 0) (ae (mv K (pv 1)) aI))))))),?_⟩
 have vl:=TS.length;refine⟨_,rfl,g,C,dx,_,_,rfl,hg,T.cl,T.nT,qi ..,b,rfl,⟨_,zD0 hb⟩,fun D hD=>?_⟩;refine iX (K:=K) (xs:=tv) (fun i H'=>H' D=some (.lst (((ts.take i).map fun t=>(cnt t ns:Int)).map V.int))/\Same H H') ⟨by rw[aE];rfl,zC0 hD _⟩ (fun i H' _ h=>zD0 (h.2 _ _ hb)) ?_ ?_
 . rintro i z H2 hz ⟨hl,S2⟩;obtain⟨t,ht,Tt⟩:=TS.get hz;obtain⟨tk,td⟩:=tok t (qI0 ht);have hi:i<tv.length:=(zX0 hz).1;refine⟨_,rfl,_,rfl,g,C,dx,_,_,rfl,S2 _ _ hg,T.cl,T.nS,oQ ..,z,t,a,ns,rfl,Tt.mono (aV S2),tk,td,.inr (S2 _ _ ha),nl,fun H3 S3=>?_⟩;refine⟨_,S3 _ _ hl,?_,Nx.of hi ⟨?_,fun b' o' e'=>?_⟩⟩
   . rw[zF0,zF0,qM0];exact aM (by omega)
   . rw[aE,qK0,ht,zL0,zL0];rfl
   . rw[av (aJ e' hD)];exact S3 _ _ (S2 _ _ e')
 . rintro H2 ⟨hl,S2⟩;rw[vl,qJ0]at hl;exact q D H2 hD S2 hl
theorem iteNE{c A B:Prop}[Decidable c](hc:c)(h:B):if(!decide c)=true then A else B:=by
 rw[decide_eq_true hc];exact cb h
def fH(s:Int):List Int->Int
 | []=>0
 | a::r=>a+s*fH s r
theorem kE(s p:Int):∀ns,hor s p ns=fH s ns % p
 | []=>(Int.zero_emod p).symm
 | a::r=>by
   show(hor s p r*s+a) % p=(a+s*fH s r) % p;rw[kE s p r,Int.add_emod,Int.mul_emod,Int.emod_emod,←Int.mul_emod,←Int.add_emod,Int.mul_comm,Int.add_comm]
theorem iH:∀(n:Nat)(s:List Int),s∈bQ n->∀x∈s,x=0∨x=1
 | 0,s,h,x,hx=>by
   have:s=[]:=by simpa [bQ]using h
   subst this;cases hx
 | n+1,s,h,x,hx=>by
   rw[bQ,List.mem_flatMap]at h;obtain⟨t,ht,hs⟩:=h
   simp at hs
   rcases hs with rfl | rfl
   . rcases qD0 hx with h | h
     . exact iH n t ht x h
     . exact .inl (zM0 h)
   . rcases qD0 hx with h | h
     . exact iH n t ht x h
     . exact .inr (zM0 h)
theorem rR{K:W.Frag}{H1:Hp}{a b:Addr}{xs ys:List Int}{Q:VK}(ha:H1 a=some (.tup (xs.map V.int)))(hb:H1 b=some (.tup (ys.map V.int)))(hl:xs.length+ys.length<=100)
 (q:∀t H2,Same H1 H2->H2 t=some (.tup ((xs++ys).map V.int))->Q (.ref t) H2):rCatT K (.ref a) (.ref b) H1 Q∨rCatT0 K (.ref a) (.ref b) H1 Q:=by
 cases xs with
 | nil=>exact .inr ⟨a,b,_,rfl,rfl,zD0 ha,zD0 hb,q b H1 (Same.refl _) hb⟩
 | cons x r=>
   refine .inl ⟨a,b,_,_,rfl,rfl,zD0 ha,zD0 hb,by simp,bv (by simp at hl ⊢;omega),(fun z=>?_),(fun _ t ht=>q t _ (zC0 ht _) ?_)⟩
   . cases ys with
     | nil=>
       refine q a H1 (Same.refl _) ?_;rw[List.append_nil];exact ha
     | cons y r2=>exact nomatch z
   . rw[aE,zL0]
def bn(ns:List Str)(ts:List Tr)(s p:Int)(pt:List Int):Int:=((bQ (ns.length-pt.length)).map fun st=>fH s (ts.map fun t=>t.worth ns (pt++st) p)).sum % p
theorem wg{α:Type}(p:Int)(f:α->Int):∀l:List α,(l.map fun x=>f x % p).sum % p=(l.map f).sum % p
 | []=>rfl
 | a::r=>by
   rw[zZ0,zZ0,List.sum_cons,List.sum_cons,Int.add_emod,Int.emod_emod,wg p f r,←Int.add_emod]
theorem wc{α:Type}{p:Int}(hp:0<p)(f:α->Int)(h:∀x,0<=f x/\f x<p):∀l:List α,0<=(l.map f).sum/\(l.map f).sum<=p*l.length
 | []=>⟨Int.le_refl 0,by simp⟩
 | a::r=>by
   have h1:=h a;have h2:=wc hp f h r;rw[zZ0,List.sum_cons,zQ0];refine⟨by omega,?_⟩
   have:p*((r.length+1:Nat):Int)=p*(r.length:Int)+p:=by
    rw[Int.natCast_add,Int.mul_add]
    simp
   omega
theorem sI{a b:List Int}{p:Int}(h:eM a p)(h2:eM b p):eM (a++b) p:=fun x hx=>by
 rcases qD0 hx with e | e
 . exact h x e
 . exact h2 x e
theorem pt01{a b:List Int}{p:Int}(h:eM a p)(p1:1<p)(h2:∀x∈b,x=0∨x=1):eM (a++b) p:=sI h fun x hx=>by rcases h2 x hx with e | e <;> omega
theorem kt{X:Cx}(K:W.Frag)(hK:X.K=K:=by rfl):OpR X (binaryOp .Add) (fun x y H Q=>rCatT K x y H Q∨rCatT0 K x y H Q):=by subst hK;exact op_catT.or oz
theorem tT{ts:List Tr}{x:Str}(h0:ts≠[]):0<=bw ts x:=by
 have:=kz (ns:=ts.map fun t=>(t.names.count x:Int)) (by simpa using h0)
 obtain⟨t,ht,e⟩:=List.mem_map.mp this;unfold bw;rw[←e];exact Int.natCast_nonneg _
def iC(ns:List Str)(ts:List Tr)(s p:Int)(cs:List Int)(n:Nat):List Int:=(List.range n).map fun k:Nat=>bn ns ts s p (cs++[(k:Int)])
theorem Dt{ns:List Str}{ts:List Tr}{s p d:Int}{cs:List Int}{i:Nat}(hi:i<(d+1).toNat)(h:d<=500):((iC ns ts s p cs i).map V.int).length<sizeLine:=by
 unfold iC;rw[zF0,zF0,qP0];exact aM (by omega)
theorem ptI{a:List Int}{p d:Int}{i:Nat}(h:eM a p)(hi:i<(d+1).toNat)(hd:d<p):eM (a++[(i:Int)]) p:=sI h fun x hx=>by
 rw[zM0 hx];omega
theorem cat1{n k:Nat}(h:n<k)(h6:k<=6):n+([(0:Int)]:List Int).length<=100/\n+1<=k:=by
 rw[qN0];omega
theorem s64{n k:Nat}(h6:n<=6):(bQ (n-(k+1))).length<=64:=by
 have s64:=jf (n-(k+1));have p64:=ln (n:=n-(k+1)) (by omega);omega
theorem Ds{α:Type}{f:α->Int}{l:List α}{j:Nat}(h:l.length<=64):(((l.take j).map f).map V.int).length<sizeLine:=by
 rw[zF0,zF0,qM0];exact aM (by omega)
theorem sum63{p x:Int}{n:Nat}(p0:0<p)(p40:p<2 ^ 40)(h:n<=64)(hx:x<=p*(n:Int)):x<2 ^ 63:=by
 have:p*(n:Int)<=p*64:=qX0 (by omega) (by omega)
 omega
inductive spTrue(C:Addr)(vs:List V)(H:Hp)(Q:VK)(u_3:XK):Prop where
 | mk:∀(g a b d c:Addr)(ns:List Str)(tv:List V)(ts:List Tr)(cs:List Int)(x:Str)(s p:Int),(vs=[.ref g,.int s,.ref c])->(GameAt C H g a b d p)->(H a=some (.tup (ns.map V.str)))->(ns.length<=6)->(H b=some (.tup tv))->(TreesAt H tv ts)->(ts≠[])->(ts.length<=10)->((∀t∈ts,t.ok ns/\t.depth<=10))->(H d=some (.lst ((ns.map (bw ts)).map V.int)))->(H c=some (.tup (cs.map V.int)))->(ns[cs.length]?=some x)->(bw ts x<p)->(bw ts x<=500)->(eM cs p)->(1<p)->(p<2 ^ 40)->(∀(l:Addr)(H':Hp),H l=none->Same H H'->H' l=some (.lst ((iC ns ts s p cs (bw ts x+1).toNat).map V.int))->Q (.ref l) H')->spTrue C vs H Q u_3
theorem cS:FnScope ["game","s","coins","ahead","switch","behind","row","x","worths"] ["game","s","coins"] (ak jE):=⟨rfl,rfl,rfl,by decide,rfl,by decide,by decide⟩
theorem sM {f fW C:Addr} {fd fdW:FuncData} (F:Fun K "true_row" "true_row" jE f fd) (B:Bl mg) (T:GTxt K mg C) (mW:Meth K C "worth_at" fW) (GW:FnOk P w K mg base CX0 13 fW fdW ["self","point","s"] (spWAt C)) (bW:Binds K fdW ["self","point","s"] []) (cc:Cal P w K mg base 1 "all_settings" ["n"] spSetts):FnOk P w K mg base CX0 14 f fd ["game","s","coins"] (spTrue C):=by
 refine F.ok cS (fun vs H Q E h=>?_) (fun cdv A outer s H vs Q E hr h=>?_)
 . obtain⟨g,a,b,d,c,ns,tv,ts,cs,x,s,p,rfl,_⟩:=h;rfl
 obtain ⟨g,a,b,d,c,ns,tv,ts,cs,x,s,p,rfl,⟨dx,hg⟩,ha,nl,hb,TS,tne,t10,tok,hd,hc,hx,dp,d500,po,p1,p40,q⟩:=h;refine⟨_,(aa (aj (i:=3) cS.nd rfl (Or.inr rfl) (cg bU rfl B.tuple bV (ae (pv 2) aI)))
  (aa (aj (i:=4) cS.nd rfl (Or.inl rfl) (aA aC rfl B.len PySem.boot_len (ae (pv 3) aI)))
  (aa (aj (i:=5) cS.nd rfl (Or.inl rfl) (ai cc hr (by decide) rfl (ae (ag aQ (ag aQ (aA aC rfl B.len PySem.boot_len (ae (ay (pv 0) rfl) aI)) (pv 4)) ac) aI)))
  (aa (aj (i:=6) cS.nd rfl (Or.inl rfl) (cf aI))
  (aa (cE PassesOwn.never rfl (cx rfl B.range (ae (ag aO (aD ix_list (ay (pv 0) rfl) (pv 4) (fun _ _=>rfl)) ac) aI)) (bi (i:=7) cS.nd rfl (Or.inr rfl)) (aa (wC (i:=8) (N:=["x","s","game","ahead"]) (ix:=[7,1,0,3]) cS.nd rfl (Or.inl rfl) rfl
   (CompScope.four (by rfl') (by decide) rfl (by decide) rfl (by decide) rfl (by rfl') (by rfl') (by rfl') (by rfl') (by rfl') (by rfl') rfl rfl (by rfl') rfl rfl (by rfl') rfl rfl (by rfl') rfl rfl) rfl
   (dG (pv 5)) (fun _ _ _=>df (bu (pv 3) T.cl mW GW hr bW .nil bq (ae (ag (kt K) (ag (kt K) (pv 4) (aF (ae (pv 1) aI))) (pv 0)) (ae (pv 2) aI)))))
   (ad (bc (dH PySem.F.plainAttrs_list PySem.F.slot_list_append PySem.F.type_list_append bY (pv 6) (ae (ag aN (aA (tZ rfl) rfl B.sum PyProof.Rows.boot_sum (ae (pv 8) aI)) (ay (pv 0) rfl)) aI))))))
  (ad (am (pv 6)))))))),?_⟩
 have kl:cs.length<ns.length:=(zX0 hx).1;have d0:=tT (x:=x) tne;have p0:0<p:=Int.lt_trans Int.zero_lt_one p1;refine⟨_,rfl,c,_,rfl,.inr ⟨zD0 hc,?_⟩⟩;have G1:Same H H:=fun _ _ e=>e
 have hah1:=hc;refine⟨_,rfl,c,_,rfl,.inr (zD0 hah1),?_⟩;refine⟨_,rfl,g,C,dx,_,_,rfl,G1 _ _ hg,T.cl,T.nS,oQ ..,a,_,rfl,.inr (zD0 (G1 _ _ ha)),_,rfl,_,_,rfl,rfl,_,_,rfl,rfl,_,rfl,by rw[zF0,zF0];omega,by rw[zF0,zF0];omega,fun r H2 r0 S2 R2=>?_⟩;have en:((((ns.map V.str).length:Nat):Int)-(((cs.map V.int).length:Nat):Int)-1).toNat=ns.length-(cs.length+1):=by rw[zF0,zF0];omega
 rw[en]at R2;obtain⟨rs,hrs,TB⟩:=R2;have rl:=TB.length;refine⟨(by show 0<=sizeLine;decide),fun L hL=>?_⟩;have S02:=G1.trans S2;have GL:=zC0 hL (.lst []);have S03:=S02.trans GL;have L0:H L=none:=S02.free hL;have e1:(((cs.map V.int).length:Nat):Int)=(cs.length:Int):=by rw[zF0]
 refine⟨_,rfl,g,C,dx,_,_,rfl,S03 _ _ hg,T.cl,T.nD,CW ..,_,rfl,d,_,_,.int (bw ts x),rfl,rfl,zG0 (S03 _ _ hd),?_,_,_,rfl,rfl,_,rfl,by omega,by omega,eC (fun i σ H'=>∃x7 x8:Option V,σ=[some (.ref g),some (.int s),some (.ref c),some (.ref c),some (.int (((cs.map V.int).length:Nat):Int)),some (.ref r),some (.ref L),x7,x8]/\H' L=some (.lst ((iC ns ts s p cs i).map V.int))/\SameBut L H2 H') ⟨_,_,rfl,by rw[aE];rfl,SameBut.upd _⟩ ?_ ?_⟩
 . rw[e1];refine cH ?_;rw[qE0,qE0,hx];rfl
 . rintro i σ H4 hi ⟨x7,x8,rfl,hL4,S4⟩;have gL:g≠L:=aJ (S02 _ _ hg) hL;have rL:r≠L:=aJ hrs hL;have kT:bL H2 H4:=fun c xs h=>S4 c _ (aJ h hL) h
   have hg4:=S4 g _ gL (S02 _ _ hg);have hrs4:=S4 r _ rL hrs;have ha4:=kT _ _ (S02 _ _ ha);have hb4:=kT _ _ (S02 _ _ hb);have hah4:=kT _ _ (S2 _ _ hah1);have TS4:=(TS.mono (aV S02)).mono kT;have TB4:=TB.mono kT;refine⟨_,rfl,r,rfl,⟨_,zG0 hrs4⟩,fun D hD=>?_⟩;refine gG (K:=K) (xs:=rs) (fun j H'=>H' D=some (.lst ((((bQ (ns.length-(cs.length+1))).take j).map fun st=>hor s p (ts.map fun t=>t.worth ns (cs++[(i:Int)]++st) p)).map V.int))/\Same H4 H') ⟨by rw[aE];rfl,zC0 hD _⟩ (fun j H' _ h=>zG0 (h.2 _ _ hrs4)) ?_ ?_
   . rintro j z H5 hz ⟨hD5,S5⟩;obtain⟨st,hst,y,rfl,hy⟩:=(TB4.mono (aV S5)).get hz;have stm:=qI0 hst;have stl:=dj _ _ stm;have s01:=iH _ _ stm;have hj:j<rs.length:=(zX0 hz).1;have po2:eM (cs++[(i:Int)]++st) p:=pt01 (ptI po hi dp) p1 s01;have pl2:(cs++[(i:Int)]++st).length=ns.length:=by rw[zJ0,zJ0,qN0];omega
     refine⟨_,rfl,g,dx,_,rfl,S5 _ _ hg4,AQ _ _ _ _ (by decide) (by decide) (by decide) (by decide),?_⟩;refine⟨_,rfl,_,rfl,(by show 1<=sizeLine;decide),fun u hu=>?_⟩;have Gu:=zC0 hu (.tup [.int (0+(i:Int))]);have hu6:upd H5 u (.tup [.int (0+(i:Int))]) u=some (.tup ([(i:Int)].map V.int)):=by rw[aE,Int.zero_add];rfl
     generalize upd H5 u (.tup [.int (0+(i:Int))])=H6 at Gu hu6;refine rR (Gu _ _ (S5 _ _ hah4)) hu6 (cat1 kl nl).1 fun t1 H7 S7 h7=>?_
     refine⟨_,rfl,?_⟩;have S57:=Gu.trans S7;refine rR h7 (S57 _ _ hy) (by rw[zJ0,qN0];omega) fun t2 H8 S8 h8=>?_
     have S48:=S5.trans (S57.trans S8);refine⟨_,rfl,g,a,b,d,t2,ns,tv,ts,_,s,p,rfl,⟨dx,S48 _ _ hg4⟩,p1,p40,S48 _ _ ha4,S48 _ _ hb4,TS4.mono (aV S48),t10,tok,h8,pl2,po2,fun H9 S9=>?_⟩;refine⟨_,S9 _ _ ((S57.trans S8) _ _ hD5),?_,Nx.of hj ⟨?_,fun b' o' e'=>?_⟩⟩
     . exact Ds (s64 nl)
     . rw[aE,qK0,hst,zL0,zL0];rfl
     . rw[av (aJ e' hD)];exact S9 _ _ (S48 _ _ e')
   rintro H5 ⟨hD5,S5⟩;rw[rl,qJ0]at hD5;have hor_r:=fun st:List Int=>mD (s:=s) (p:=p) p0 (ts.map fun t=>t.worth ns (cs++[(i:Int)]++st) p)
   have sr:=wc (p:=p) p0 (fun st:List Int=>hor s p (ts.map fun t=>t.worth ns (cs++[(i:Int)]++st) p)) hor_r (bQ (ns.length-(cs.length+1)));have hL5:=S5 _ _ hL4;refine⟨_,rfl,.inl ⟨rfl,_,zG0 hL5⟩,_,rfl,D,_,rfl,zG0 hD5,?_,?_,?_⟩
   . intro n hn;obtain⟨st,_,rfl⟩:=List.mem_map.mp hn;exact(hor_r st).1
   . exact sum63 p0 p40 (s64 nl) sr.2
   refine⟨_,rfl,g,C,dx,_,_,rfl,S5 _ _ hg4,T.cl,T.nF,jy ..,_,_,rfl,rfl,p0,L,_,_,rfl,rfl,hL5,?_,?_⟩
   . exact Dt hi d500
   . refine ⟨_,_,rfl,?_,fun c o hc e=>?_⟩
     . rw [aE];unfold iC;rw[List.range_succ,zL0,zL0];have e2:((bQ (ns.length-(cs.length+1))).map fun st=>hor s p (ts.map fun t=>t.worth ns (cs++[(i:Int)]++st) p)).sum % p=bn ns ts s p (cs++[(i:Int)]):=by
        unfold bn;rw[zJ0,qN0,show(fun st:List Int=>hor s p (ts.map fun t=>t.worth ns (cs++[(i:Int)]++st) p))=fun st=>fH s (ts.map fun t=>t.worth ns (cs++[(i:Int)]++st) p) % p from funext fun st=>kE _ _ _];exact wg p (fun st:List Int=>fH s (ts.map fun t=>t.worth ns (cs++[(i:Int)]++st) p)) _
       show some (HO.lst (_++[V.int (((bQ (ns.length-(cs.length+1))).map fun st=>hor s p (ts.map fun t=>t.worth ns (cs++[(i:Int)]++st) p)).sum % p)]))=_;rw[e2];rfl
     . rw[av hc];exact S5 _ _ (S4 c o hc e)
 . rintro σ H4 ⟨x7,x8,rfl,hL4,S4⟩;exact⟨_,rfl,q L H4 L0 (S02.but L0 S4) hL4⟩
theorem neS{a b:Str}(h:¬ a=b):¬ V.str a=V.str b:=fun z=>h (V.str.inj z)
open Classical in
noncomputable def Ea(p a:Int):Int:=if h:∃g:Int,0<g/\g<p/\g*a % p=1 then h.choose else 0
theorem AJ{p a g k:Int}(g0:0<g)(g1:g<p)(hg:g*a % p=1)(k0:0<k)(k1:k<p)(hk:k*a % p=1):g=k:=by
 have e1:g*(k*a) % p=g:=by
  rw[Int.mul_emod,hk,Int.mul_one,Int.emod_emod,qS0 (by omega) g1]
 have e2:k*(g*a) % p=k:=by
  rw[Int.mul_emod,hg,Int.mul_one,Int.emod_emod,qS0 (by omega) k1]
 have e3:g*(k*a) % p=k*(g*a) % p:=by rw[Int.mul_left_comm]
 exact e1.symm.trans (e3.trans e2)
theorem Cn{p a g:Int}(g0:0<g)(g1:g<p)(hg:g*a % p=1):Ea p a=g:=by
 have h:∃g:Int,0<g/\g<p/\g*a % p=1:=⟨g,g0,g1,hg⟩
 unfold Ea;rw[dif_pos h];obtain⟨k0,k1,hk⟩:=h.choose_spec;exact AJ k0 k1 hk g0 g1 hg
noncomputable def vT(p x y:Int):Int:=if y=0 then 0 else x*Ea p y % p
noncomputable def opV(p:Int)(s:Str)(x y:Int):Int:=
 if s="+" then(x+y) % p else if s="-" then(x-y) % p else if s="*" then x*y % p else if s="/" then vT p x y else if s="=" then(if x=y then 1 else 0)else if x<y then 1 else 0
theorem AY{p x y:Int}(hp:0<p):0<=vT p x y/\vT p x y<p:=by
 unfold vT
 split
 . omega
 . exact⟨qB0 _ (by omega),qF0 _ hp⟩
theorem BR{p x y:Int}{s:Str}(hp:1<p):0<=opV p s x y/\opV p s x y<p:=by
 have m:∀z:Int,0<=z % p/\z % p<p:=fun z=>⟨qB0 _ (by omega),qF0 _ (by omega)⟩
 unfold opV
 split
 . exact m _
 . split
   . exact m _
   . split
     . exact m _
     . split
       . exact AY (by omega)
       . split <;> split <;> omega
inductive spDiv(vs:List V)(H:Hp)(Q:VK)(u_3:XK):Prop where
 | mk:∀(x y p:Int),(vs=[.int x,.int y,.int p])->(Pr p)->(p<=999983)->(0<=x)->(x<p)->(0<=y)->(y<p)->(Q (.int (vT p x y)) H)->spDiv vs H Q u_3
theorem uN:FnScope ["first","second","p"] ["first","second","p"] (ak lj):=⟨rfl,rfl,rfl,by decide,rfl,by decide,by decide⟩
theorem vt {f:Addr} {fd:FuncData} (F:Fun K "divided" "divided" lj f fd) (c8:Cal P w K mg base 1 "inverse_of" ["a","p"] spInv):FnOk P w K mg base CX0 2 f fd ["first","second","p"] spDiv:=by
 refine F.ok uN (fun vs H Q E h=>?_) (fun cdv A outer s H vs Q E hr h=>?_)
 . obtain⟨x,y,p,rfl,_⟩:=h;rfl
 obtain ⟨x,y,p,rfl,pp,p9,x0,x1,y0,y1,q⟩:=h;refine⟨_,(aa (aB (af aH (pv 1) ac (ao _)) (ad (am ac)) aq)
  (ad (am (ag aN (ag bg (pv 0) (ai c8 hr (by decide) rfl (ae (pv 1) (ae (pv 2) aI)))) (pv 2))))),?_⟩
 unfold vT at q;refine⟨_,rfl,rfl,_,rfl,?_⟩
 by_cases c:y=0
 . rw[zE0 c]at q;exact aS (congrArg V.int c) q
 . rw[zB0 c]at q;refine au (fun z=>c (V.int.inj z)) ?_;refine⟨_,rfl,_,rfl,_,rfl,y,p,rfl,pp,p9,by omega,y1,fun g g0 g1 hg=>?_⟩;rw[Cn g0 g1 hg]at q;exact⟨_,_,rfl,rfl,.inl ⟨by omega,by omega⟩,_,rfl,_,_,rfl,rfl,(by show 0<p;omega),q⟩
def signW:List Str:=["+","-","*","/","=","<"]
inductive spOp(vs:List V)(H:Hp)(Q:VK)(u_3:XK):Prop where
 | mk:∀(s:Str)(x y p:Int),(vs=[.str s,.int x,.int y,.int p])->(s∈signW)->(Pr p)->(p<=999983)->(0<=x)->(x<p)->(0<=y)->(y<p)->(Q (.int (opV p s x y)) H)->spOp vs H Q u_3
theorem sD:FnScope ["sign","first","second","p"] ["sign","first","second","p"] (ak jG):=⟨rfl,rfl,rfl,by decide,rfl,by decide,by decide⟩
theorem opV_1 {p x y:Int}:opV p "+" x y=(x+y) % p:=zE0 rfl
theorem opV_2 {p x y:Int}:opV p "-" x y=(x-y) % p:=by unfold opV;rw[zB0 (by decide),zE0 rfl]
theorem opV_3 {p x y:Int}:opV p "*" x y=x*y % p:=by unfold opV;rw[zB0 (by decide),zB0 (by decide),zE0 rfl]
theorem opV_4 {p x y:Int}:opV p "/" x y=vT p x y:=by unfold opV;rw[zB0 (by decide),zB0 (by decide),zB0 (by decide),zE0 rfl]
theorem opV_5 {p x y:Int}:opV p "=" x y=if x=y then 1 else 0:=by unfold opV;rw[zB0 (by decide),zB0 (by decide),zB0 (by decide),zB0 (by decide),zE0 rfl]
theorem opV_6 {p x y:Int}:opV p "<" x y=if x<y then 1 else 0:=by unfold opV;rw[zB0 (by decide),zB0 (by decide),zB0 (by decide),zB0 (by decide),zB0 (by decide)]
theorem sO {f:Addr} {fd:FuncData} (F:Fun K "op_value" "op_value" jG f fd) (lH:Cal P w K mg base 2 "divided" ["first","second","p"] spDiv):FnOk P w K mg base CX0 3 f fd ["sign","first","second","p"] spOp:=by
 refine F.ok sD (fun vs H Q E h=>?_) (fun cdv A outer s H vs Q E hr h=>?_)
 . obtain⟨s,x,y,p,rfl,_⟩:=h;rfl
 obtain⟨s,x,y,p,rfl,hs,pp,p9,x0,x1,y0,y1,q⟩:=h;have p0:0<p:=by omega
 refine ⟨_,(aa (aB (af aH (pv 0) ax (ao _)) (ad (am (ag aN (ag aO (pv 1) (pv 2)) (pv 3)))) aq)
  (aa (aB (af aH (pv 0) ax (ao _)) (ad (am (ag aN (ag aQ (pv 1) (pv 2)) (pv 3)))) aq)
  (aa (aB (af aH (pv 0) ax (ao _)) (ad (am (ag aN (ag bg (pv 1) (pv 2)) (pv 3)))) aq)
  (aa (aB (af aH (pv 0) ax (ao _)) (ad (am (ai lH hr (by decide) rfl (ae (pv 1) (ae (pv 2) (ae (pv 3) aI)))))) aq)
  (aa (aB (af aH (pv 0) ax (ao _)) (ad (am (ko (af aH (pv 1) (pv 2) (ao _)) ac ac))) aq)
  (ad (am (ko (af cJ (pv 1) (pv 2) (ao _)) ac ac)))))))),?_⟩
 have hs':s="+"∨s="-"∨s="*"∨s="/"∨s="="∨s="<":=by simpa [signW]using hs
 rcases hs' with rfl | rfl | rfl | rfl | rfl | rfl
 . rw[opV_1]at q;refine⟨_,rfl,rfl,_,rfl,aS rfl ?_⟩;exact⟨_,rfl,_,rfl,_,_,rfl,rfl,_,rfl,_,_,rfl,rfl,p0,q⟩
 . rw[opV_2]at q;refine⟨_,rfl,rfl,_,rfl,au (neS (by decide)) ?_⟩;refine⟨_,rfl,rfl,_,rfl,aS rfl ?_⟩;exact⟨_,rfl,_,rfl,_,_,rfl,rfl,_,rfl,_,_,rfl,rfl,p0,q⟩
 . rw[opV_3]at q;refine⟨_,rfl,rfl,_,rfl,au (neS (by decide)) ?_⟩;refine⟨_,rfl,rfl,_,rfl,au (neS (by decide)) ?_⟩;refine⟨_,rfl,rfl,_,rfl,aS rfl ?_⟩;exact⟨_,rfl,_,rfl,_,_,rfl,rfl,.inl ⟨by omega,by omega⟩,_,rfl,_,_,rfl,rfl,p0,q⟩
 . rw[opV_4]at q;refine⟨_,rfl,rfl,_,rfl,au (neS (by decide)) ?_⟩;refine⟨_,rfl,rfl,_,rfl,au (neS (by decide)) ?_⟩;refine⟨_,rfl,rfl,_,rfl,au (neS (by decide)) ?_⟩;refine⟨_,rfl,rfl,_,rfl,aS rfl ?_⟩;exact⟨_,rfl,_,rfl,_,rfl,x,y,p,rfl,pp,p9,x0,x1,y0,y1,q⟩
 . rw [opV_5]at q;refine⟨_,rfl,rfl,_,rfl,au (neS (by decide)) ?_⟩;refine⟨_,rfl,rfl,_,rfl,au (neS (by decide)) ?_⟩;refine⟨_,rfl,rfl,_,rfl,au (neS (by decide)) ?_⟩;refine⟨_,rfl,rfl,_,rfl,au (neS (by decide)) ?_⟩;refine⟨_,rfl,rfl,_,rfl,aS rfl ?_⟩;refine⟨_,rfl,_,rfl,rfl,_,rfl,?_⟩
   by_cases c:x=y
   . rw[zE0 c]at q;exact aS (congrArg V.int c) q
   . rw[zB0 c]at q;exact au (fun z=>c (V.int.inj z)) q
 . rw [opV_6]at q;refine⟨_,rfl,rfl,_,rfl,au (neS (by decide)) ?_⟩;refine⟨_,rfl,rfl,_,rfl,au (neS (by decide)) ?_⟩;refine⟨_,rfl,rfl,_,rfl,au (neS (by decide)) ?_⟩;refine⟨_,rfl,rfl,_,rfl,au (neS (by decide)) ?_⟩;refine⟨_,rfl,rfl,_,rfl,au (neS (by decide)) ?_⟩;refine⟨_,rfl,_,rfl,_,_,rfl,rfl,_,rfl,?_⟩
   by_cases c:x<y
   . rw[zE0 c]at q;exact aS c q
   . rw[zB0 c]at q;exact au c q
theorem kg{X:Cx}{ss:List Stmt}{t t':TS}(h:PSs X ss t)(hw:∀D σ H,t' D σ H->t D σ H):PSs X ss t':=fun pins s σ H D I k=>h pins s σ H D I (hw _ _ _ k)
inductive Tm where
 | num (n:Int) | box (x:Str) | plain (w:Str) | ask (w:Str) (a:Tm) | op (s:Str) (a b:Tm)
def Tm.size:Tm->Nat
 | .num _=>1 | .box _=>1 | .plain _=>1 | .ask _ a=>a.size+1 | .op _ a b=>a.size+b.size+1
def Tm.depth:Tm->Nat
 | .num _=>1 | .box _=>1 | .plain _=>1 | .ask _ a=>a.depth+1 | .op _ a b=>max a.depth b.depth+1
theorem Tm.depth_pos:∀t:Tm,1<=t.depth
 | .num _=>zH0 _ | .box _=>zH0 _ | .plain _=>zH0 _ | .ask _ a=>Nat.le_add_left .. | .op _ a b=>Nat.le_add_left ..
theorem Tm.size_pos:∀t:Tm,1<=t.size
 | .num _=>zH0 _ | .box _=>zH0 _ | .plain _=>zH0 _ | .ask _ a=>Nat.le_add_left .. | .op _ a b=>Nat.le_add_left ..
def plainW:List Str:=["round","due","asked"]
def askW:List Str:=["coin","true"]
inductive TmAt(H:Hp):V->Tm->Prop
 | num {a:Addr} {n:Int}:H a=some (.tup [.str "num",.int n])->TmAt H (.ref a) (.num n)
 | box {a:Addr} {x:Str}:H a=some (.tup [.str "box",.str x])->TmAt H (.ref a) (.box x)
 | plain {a:Addr} {w:Str}:H a=some (.tup [.str w])->TmAt H (.ref a) (.plain w)
 | ask {a:Addr} {w:Str} {v:V} {t:Tm}:H a=some (.tup [.str w,v])->TmAt H v t->TmAt H (.ref a) (.ask w t)
 | op {a:Addr} {s:Str} {v u:V} {t r:Tm}:H a=some (.tup [.str "op",.str s,v,u])->TmAt H v t->TmAt H u r->TmAt H (.ref a) (.op s t r)
theorem TmAt.mono{H H':Hp}(k:bL H H'){v:V}{t:Tm}(h:TmAt H v t):TmAt H' v t:=by
 induction h with
 | num e=>exact .num (k _ _ e)
 | box e=>exact .box (k _ _ e)
 | plain e=>exact .plain (k _ _ e)
 | ask e _ ih=>exact .ask (k _ _ e) ih
 | op e _ _ i1 i2=>exact .op (k _ _ e) i1 i2
inductive Hr where
 | fin | go (n:Int) | iff (t:Tm) (n:Int) | set (x:Str) (t:Tm) | say (t:Tm)
inductive HrAt(H:Hp):V->Hr->Prop
 | fin {a:Addr}:H a=some (.tup [.str "end"])->HrAt H (.ref a) .fin
 | go {a:Addr} {n:Int}:H a=some (.tup [.str "go",.int n])->HrAt H (.ref a) (.go n)
 | iff {a:Addr} {v:V} {t:Tm} {n:Int}:H a=some (.tup [.str "if",v,.int n])->TmAt H v t->HrAt H (.ref a) (.iff t n)
 | set {a:Addr} {x:Str} {v:V} {t:Tm}:H a=some (.tup [.str "set",.str x,v])->TmAt H v t->HrAt H (.ref a) (.set x t)
 | say {a:Addr} {v:V} {t:Tm}:H a=some (.tup [.str "say",v])->TmAt H v t->HrAt H (.ref a) (.say t)
theorem HrAt.mono{H H':Hp}(k:bL H H'){v:V}{r:Hr}(h:HrAt H v r):HrAt H' v r:=by
 cases h with
 | fin e=>exact .fin (k _ _ e)
 | go e=>exact .go (k _ _ e)
 | iff e t=>exact .iff (k _ _ e) (t.mono k)
 | set e t=>exact .set (k _ _ e) (t.mono k)
 | say e t=>exact .say (k _ _ e) (t.mono k)
section
variable {CM CA CG:Addr}
abbrev qN:Stmt:=bJ iS 0
abbrev nV:Stmt:=bJ iS 1
abbrev qO:Stmt:=bJ iS 2
abbrev lm:Stmt:=bJ iS 3
abbrev qM:Stmt:=bJ iS 4
abbrev qJ:Stmt:=bJ kY 0
abbrev uQ:Stmt:=bJ kY 1
abbrev uR:Stmt:=bJ kY 2
def al (g:Addr) (nr mn hd s:Int) (aT:Addr) (tr:V):List (Str×V):=[("game",.ref g),("number",.int nr),("many",.int mn),("held",.int hd),("s",.int s),("tossed",.ref aT),("truths",tr)]
theorem rV {g:Addr} {nr mn hd s:Int} {aT:Addr} {tr:V}:(al g nr mn hd s aT tr).lookup ("game":Str)=some (.ref g):=by rfl'
structure ATxt(K:W.Frag)(mg:Str->Option Value)(C:Addr):Prop where
 cl:Cls K C
 nG:NoAttr K C "game"
 nN:NoAttr K C "number"
 nM:NoAttr K C "many"
 nH:NoAttr K C "held"
 nS:NoAttr K C "s"
 nT:NoAttr K C "tossed"
 nR:NoAttr K C "truths"
 mgC:mg "Asking"=some (.ref C)
def ml (g h:Addr) (r:Int) (b:Addr):List (Str×V):=[("game",.ref g),("helper",.ref h),("next_round",.int r),("boxes",.ref b)]
section
variable {g h b:Addr} {r:Int}
theorem ml_g:(ml g h r b).lookup ("game":Str)=some (.ref g):=by rfl'
theorem DP:(ml g h r b).lookup ("helper":Str)=some (.ref h):=by rfl'
theorem ml_r:(ml g h r b).lookup ("next_round":Str)=some (.int r):=by rfl'
theorem Cf:(ml g h r b).lookup ("boxes":Str)=some (.ref b):=by rfl'
theorem ml_n1:(ml g h r b).lookup ("do_row":Str)=none:=by rfl'
theorem As:(ml g h r b).lookup ("say":Str)=none:=by rfl'
theorem DO:(ml g h r b).length<1000:=by show 4<1000;decide
theorem DN {v:Int}:bK "next_round" (.int v) (ml g h r b)=ml g h v b:=by rfl'
end
structure MTxt(K:W.Frag)(mg:Str->Option Value)(C:Addr):Prop where
 cl:Cls K C
 nG:NoAttr K C "game"
 nH:NoAttr K C "helper"
 nR:NoAttr K C "next_round"
 nB:NoAttr K C "boxes"
 mgC:mg "Machine"=some (.ref C)
def BxAt(H:Hp)(b:Addr)(bx:Str->Int)(m:Nat):Prop:=∃kvs:List (Key×V),H b=some (.dK kvs)/\kvs.length<=m/\∀x:Str,(dl kvs (.inr x)).getD (.int 0)=.int (bx x)
def iz(bx:Str->Int)(x:Str)(n:Int):Str->Int:=fun y=>if y=x then n else bx y
theorem BxAt.keep{H H':Hp}{b:Addr}{bx:Str->Int}{m:Nat}(h:BxAt H b bx m)(k:∀o,H b=some o->H' b=some o):BxAt H' b bx m:=by
 obtain⟨kvs,e,r⟩:=h;exact⟨kvs,k _ e,r⟩
theorem Ew{kvs:List (Key×V)}{bx:Str->Int}(x:Str)(n:Int)(h:∀x:Str,(dl kvs (.inr x)).getD (.int 0)=.int (bx x)):∀y:Str,(dl (gz kvs (.inr x) (.int n)) (.inr y)).getD (.int 0)=.int (iz bx x n y):=fun y=>by
 rw[mQ];unfold iz
 by_cases c:y=x
 . rw[zE0 (by rw[c]),zE0 c];rfl
 . rw[zB0 (fun z=>c (Sum.inr.inj z)),zB0 c];exact h y
section
variable {g aT:Addr} {nr mn hd s:Int} {tr:V}
theorem Ez:(al g nr mn hd s aT tr).lookup ("number":Str)=some (.int nr):=by rfl'
theorem al_m:(al g nr mn hd s aT tr).lookup ("many":Str)=some (.int mn):=by rfl'
theorem al_h:(al g nr mn hd s aT tr).lookup ("held":Str)=some (.int hd):=by rfl'
theorem al_s:(al g nr mn hd s aT tr).lookup ("s":Str)=some (.int s):=by rfl'
theorem al_t:(al g nr mn hd s aT tr).lookup ("tossed":Str)=some (.ref aT):=by rfl'
theorem Cw:(al g nr mn hd s aT tr).lookup ("truths":Str)=some tr:=by rfl'
theorem al_n1:(al g nr mn hd s aT tr).lookup ("plain_value":Str)=none:=by rfl'
theorem al_n2:(al g nr mn hd s aT tr).lookup ("coin_at":Str)=none:=by rfl'
theorem al_n3:(al g nr mn hd s aT tr).lookup ("true_numbers":Str)=none:=by rfl'
theorem al_n4:(al g nr mn hd s aT tr).lookup ("true_at":Str)=none:=by rfl'
theorem Bg {v:V}:bK "truths" v (al g nr mn hd s aT tr)=al g nr mn hd s aT v:=by rfl'
theorem Bh:(al g nr mn hd s aT tr).length<1000:=by show 7<1000;decide
end
structure Ak where
 ns:List Str
 ts:List Tr
 p:Int
 nr:Int
 mn:Int
 hd:Int
 s:Int
 to:List Int
def Ak.tru (z:Ak):List Int:=if z.nr=0 then z.ts.map (fun t=>(cnt t z.ns:Int))else iC z.ns z.ts z.s z.p z.to (bw z.ts (z.ns.getD z.to.length "")+1).toNat
structure AkOk(z:Ak):Prop where
 gk:GmK z.ns z.ts z.p
 n6:z.ns.length<=6
 nr0:0<=z.nr
 nrt:0<z.nr->z.to.length<z.ns.length
 po:eM z.to z.p
 s0:0<=z.s
 s1:z.s<z.p
 h0:0<=z.hd
 h1:z.hd<z.p
 tl:z.to.length<=100
def AkAt(CA CG:Addr)(H:Hp)(k g v:Addr)(z:Ak):Prop:=∃(dk aT a b d:Addr)(tv:List V)(tr:V),H k=some (.ins CA dk (al g z.nr z.mn z.hd z.s aT tr))/\GameAt CG H g a b d z.p/\H a=some (.tup (z.ns.map V.str))/\H b=some (.tup tv)/\TreesAt H tv z.ts/\H d=some (.lst ((z.ns.map (bw z.ts)).map V.int))/\d≠v/\H aT=some (.tup (z.to.map V.int))/\(tr=.non∨∃l,tr=.ref l/\l≠v/\H l=some (.lst (z.tru.map V.int)))
theorem AkAt.same{H H':Hp}{k g v:Addr}{z:Ak}(h:AkAt CA CG H k g v z)(s:Same H H'):AkAt CA CG H' k g v z:=by
 obtain⟨dk,aT,a,b,d,tv,tr,h1,h2,h3,h4,h5,h6,h7,h8,h9⟩:=h;exact⟨dk,aT,a,b,d,tv,tr,s _ _ h1,h2.same s,s _ _ h3,s _ _ h4,h5.mono (aV s),s _ _ h6,h7,s _ _ h8,h9.imp_right fun⟨l,e,n,r⟩=>⟨l,e,n,s _ _ r⟩⟩
theorem AkAt.but2{H H':Hp}{k g v b:Addr}{z:Ak}{kvs:List (Key×V)}{ys:List V}(h:AkAt CA CG H k g v z)(hb:H b=some (.dK kvs))(hv:H v=some (.lst ys))(s:∀a o,a≠b->a≠v->H a=some o->H' a=some o):AkAt CA CG H' k g v z:=by
 obtain⟨dk,aT,a,b',d,tv,tr,h1,⟨dg,h2⟩,h3,h4,h5,h6,h7,h8,h9⟩:=h;have T:bL H H':=fun c xs e=>s _ _ (aX e hb (by intro z;cases z)) (aX e hv (by intro z;cases z)) e
 exact⟨dk,aT,a,b',d,tv,tr,s _ _ (aX h1 hb (by intro z;cases z)) (aX h1 hv (by intro z;cases z)) h1,⟨dg,s _ _ (aX h2 hb (by intro z;cases z)) (aX h2 hv (by intro z;cases z)) h2⟩,T _ _ h3,T _ _ h4,h5.mono T,s _ _ (aX h6 hb (by intro z;cases z)) h7 h6,h7,T _ _ h8,h9.imp_right fun⟨l,e,n,r⟩=>⟨l,e,n,s _ _ (aX r hb (by intro z;cases z)) n r⟩⟩
def jz(z:Ak):List Int:=if 1<z.ts.length then z.s::z.to else z.to
def iY(z:Ak)(i:Int):Int:=if 1<=i/\i<=((jz z).length:Int)then(jz z).getD (i-1).toNat 0 else 0
def dB(z:Ak)(i:Int):Int:=if 0<z.nr then val z.p z.tru i else if i<(z.tru.length:Int)then z.tru.getD i.toNat 0 % z.p else 0
def lp (z:Ak) (w:Str):Int:=if w="round" then z.nr % z.p else if w="asked" then z.mn % z.p else z.hd
theorem AkOk.p0{z:Ak}(k:AkOk z):2<z.p:=k.gk.p2
theorem tJ{p:Int}{xs:List Int}(h:eM xs p)(p0:0<p)(i:Nat):0<=xs.getD i 0/\xs.getD i 0<p:=by
 rw[qT0];cases e:xs[i]? with
 | none=>exact⟨Int.le_refl 0,p0⟩
 | some x=>exact h x (qI0 e)
theorem Bc{z:Ak}(k:AkOk z):eM (jz z) z.p:=by
 unfold jz
 split
 . intro x hx;rcases zY0 hx with rfl | hx
   . exact⟨k.s0,k.s1⟩
   . exact k.po x hx
 . exact k.po
theorem yD{z:Ak}(k:AkOk z)(i:Int):0<=iY z i/\iY z i<z.p:=by
 have:=k.p0
 unfold iY
 split
 . exact tJ (Bc k) (by omega) _
 . omega
theorem xf{z:Ak}(k:AkOk z)(i:Int):0<=dB z i/\dB z i<z.p:=by
 have:=k.p0
 unfold dB
 split
 . exact⟨qB0 _ (by omega),qF0 _ (by omega)⟩
 . split
   . exact⟨qB0 _ (by omega),qF0 _ (by omega)⟩
   . omega
theorem uY{z:Ak}(k:AkOk z)(w:Str):0<=lp z w/\lp z w<z.p:=by
 have:=k.p0
 unfold lp
 split
 . exact⟨qB0 _ (by omega),qF0 _ (by omega)⟩
 . split
   . exact⟨qB0 _ (by omega),qF0 _ (by omega)⟩
   . exact⟨k.h0,k.h1⟩
inductive spPlain(CA CG:Addr)(vs:List V)(H:Hp)(Q:VK)(u_3:XK):Prop where
 | mk:∀(k g v:Addr)(z:Ak)(w:Str),(vs=[.ref k,.str w])->(AkAt CA CG H k g v z)->(0<z.p)->(Q (.int (lp z w)) H)->spPlain CA CG vs H Q u_3
theorem xx:FnScope ["self","word"] ["self","word"] (ak nV):=⟨rfl,rfl,rfl,by decide,rfl,by decide,by decide⟩
theorem xS {f:Addr} {fd:FuncData} (F:Fun K "plain_value" "Asking.plain_value" nV f fd) (TA:ATxt K mg CA) (TG:GTxt K mg CG):FnOk P w K mg base CX0 1 f fd ["self","word"] (spPlain CA CG):=by
 refine F.ok xx (fun vs H Q E h=>?_) (fun cdv A outer s H vs Q E hr h=>?_)
 . obtain⟨k,g,v,z,w,rfl,_⟩:=h;rfl
 obtain ⟨k,g,v,z,w,rfl,⟨dk,aT,a,b,d,tv,tr,hk,⟨dg,hg⟩,_⟩,p0,q⟩:=h;refine⟨_,(aa (aB (af aH (pv 1) ax (ao _)) (ad (am (ag aN (ay (pv 0) rfl) (ay (ay (pv 0) rfl) rfl)))) aq)
  (aa (aB (af aH (pv 1) ax (ao _)) (ad (am (ag aN (ay (pv 0) rfl) (ay (ay (pv 0) rfl) rfl)))) aq)
  (ad (am (ay (pv 0) rfl))))),?_⟩
 unfold lp at q;refine⟨_,rfl,rfl,_,rfl,?_⟩
 by_cases c:w="round"
 . rw[zE0 c]at q;refine aS (congrArg V.str c) ?_;exact⟨_,rfl,k,CA,dk,_,_,rfl,hk,TA.cl,TA.nN,Ez,_,rfl,k,CA,dk,_,_,rfl,hk,TA.cl,TA.nG,rV,g,CG,dg,_,_,rfl,hg,TG.cl,TG.nF,jy ..,_,_,rfl,rfl,p0,q⟩
 . rw [zB0 c]at q;refine au (neS c) ?_;refine⟨_,rfl,rfl,_,rfl,?_⟩
   by_cases c:w="asked"
   . rw[zE0 c]at q;refine aS (congrArg V.str c) ?_;exact⟨_,rfl,k,CA,dk,_,_,rfl,hk,TA.cl,TA.nM,al_m,_,rfl,k,CA,dk,_,_,rfl,hk,TA.cl,TA.nG,rV,g,CG,dg,_,_,rfl,hg,TG.cl,TG.nF,jy ..,_,_,rfl,rfl,p0,q⟩
   . rw[zB0 c]at q;refine au (neS c) ?_;exact⟨_,rfl,k,CA,dk,_,_,rfl,hk,TA.cl,TA.nH,al_h,q⟩
inductive spCoinAt(CA CG:Addr)(vs:List V)(H:Hp)(Q:VK)(u_3:XK):Prop where
 | mk:∀(k g v:Addr)(z:Ak)(i:Int),(vs=[.ref k,.int i])->(AkAt CA CG H k g v z)->(z.to.length<=100)->(∀H',Same H H'->Q (.int (iY z i)) H')->spCoinAt CA CG vs H Q u_3
theorem r9:FnScope ["self","place","tossed"] ["self","place"] (ak qO):=⟨rfl,rfl,rfl,by decide,rfl,by decide,by decide⟩
inductive tCoinE(z:Ak)(Dn:Ends)(σ:St)(H:Hp):Prop where
 | mk:∀(x0:Option V)(a:Addr)(i:Int),(σ=[x0,some (.int i),some (.ref a)])->(H a=some (.tup ((jz z).map V.int)))->(Dn.rt (.int (iY z i)) H)->tCoinE z Dn σ H
theorem Ag {f:Addr} {fd:FuncData} (F:Fun K "coin_at" "Asking.coin_at" qO f fd) (B:Bl mg) (TA:ATxt K mg CA) (TG:GTxt K mg CG):FnOk P w K mg base CX0 1 f fd ["self","place"] (spCoinAt CA CG):=by
 refine F.ok r9 (fun vs H Q E h=>?_) (fun cdv A outer s H vs Q E hr h=>?_)
 . obtain⟨k,g,v,z,i,rfl,_⟩:=h;rfl
 obtain ⟨k,g,v,z,i,rfl,⟨dk,aT,a,b,d,tv,tr,hk,⟨dg,hg⟩,ha,hb,TS,_,_,hT,_⟩,tl,q⟩:=h;have vl:=TS.length;refine⟨_,(aa (aj (i:=2) r9.nd rfl (Or.inl rfl) (ay (pv 0) rfl))
  (aa (aB (af gB (aA aC rfl B.len PySem.boot_len (ae (ay (ay (pv 0) rfl) rfl) aI)) ac (ao _)) (ad (aj (i:=2) r9.nd rfl (Or.inl rfl) (ag op_catT (aF (ae (ay (pv 0) rfl) aI)) (pv 2)))) aq)
  (kg (t':=tCoinE z) (aa (aB (zJ wH wH ac (pv 1) (aA aC rfl B.len PySem.boot_len (ae (pv 2) aI))) (ad (am (aD aG (pv 2) (ag aQ (pv 1) ac) (fun _ _=>rfl)))) aq)
  (ad (am ac))) (by
   rintro Dn σ H ⟨x0,a,i,rfl,ha,q⟩;unfold iY at q;refine⟨_,rfl,_,_,rfl,rfl,_,rfl,?_⟩;have el:(((jz z).map V.int).length:Int)=((jz z).length:Int):=by rw[zF0]
   by_cases c1:1<=i
   . refine aS c1 ?_;refine⟨_,rfl,a,_,rfl,.inr (zD0 ha),_,_,rfl,rfl,_,rfl,?_⟩
     by_cases c2:i<=((jz z).length:Int)
     . rw [zE0 ⟨c1,c2⟩]at q;refine aS (by rw[el];exact c2) ?_;obtain⟨j,ej⟩:∃j:Nat,i-1=(j:Int):=⟨(i-1).toNat,by omega⟩
       rw[ej,qQ0]at q;refine⟨_,rfl,_,rfl,_,_,rfl,rfl,a,_,_,_,rfl,rfl,zD0 ha,?_,q⟩;rw[ej];exact wM (by omega)
     . rw[zB0 (fun z=>c2 z.2)]at q;exact au (by rw[el];exact c2) q
   . rw[zB0 (fun z=>c1 z.1)]at q;exact au c1 ⟨_,rfl,cb q⟩)))),?_⟩
 refine⟨_,rfl,k,CA,dk,_,_,rfl,hk,TA.cl,TA.nT,al_t,?_⟩;refine⟨_,rfl,k,CA,dk,_,_,rfl,hk,TA.cl,TA.nG,rV,g,CG,dg,_,_,rfl,hg,TG.cl,TG.nT,qi ..,b,_,rfl,.inr (zD0 hb),_,_,rfl,rfl,_,rfl,?_⟩
 by_cases c:1<z.ts.length
 . refine aS (by rw[vl];omega) ?_;have ec:jz z=z.s::z.to:=zE0 c;refine⟨_,rfl,k,CA,dk,_,_,rfl,hk,TA.cl,TA.nS,al_s,(by show 1<=sizeLine;decide),fun t ht=>?_⟩;have I:=zC0 ht (.tup [.int z.s]);have g1:upd H t (.tup [.int z.s]) t=some (.tup [.int z.s]):=aE;generalize upd H t (.tup [.int z.s])=H1 at I g1;refine⟨_,rfl,t,aT,_,_,rfl,rfl,zD0 g1,zD0 (I _ _ hT),(fun z=>nomatch z),bv (by show 1+(z.to.map V.int).length<=1000;rw[zF0];omega),fun e=>?_,fun _ y hy=>?_⟩
   . refine⟨_,t,i,rfl,?_,q _ I⟩;rw[ec,g1,zZ0,e]
   . refine⟨_,y,i,rfl,?_,q _ (I.trans (zC0 hy _))⟩;rw[aE,ec];rfl
 . refine au (by rw[vl];omega) ?_;have ec:jz z=z.to:=zB0 c;exact⟨_,aT,i,rfl,by rw[ec];exact hT,q _ fun _ _ e=>e⟩
end
section
variable {CM CA CG:Addr}
theorem zE(ns:List Str)(ts:List Tr)(s p:Int)(cs:List Int)(n:Nat):(iC ns ts s p cs n).length=n:=by
 unfold iC;rw[zF0,qP0]
theorem zD{ns:List Str}{ts:List Tr}{s p:Int}{cs:List Int}{n:Nat}(hp:0<p):eM (iC ns ts s p cs n) p:=fun x hx=>by
 unfold iC at hx;obtain⟨k,_,rfl⟩:=List.mem_map.mp hx;exact⟨qB0 _ (by omega),qF0 _ hp⟩
theorem AkOk.deg {z:Ak} (k:AkOk z) (h:0<z.nr):∃x,z.ns[z.to.length]?=some x/\z.ns.getD z.to.length ""=x/\0<=bw z.ts x/\bw z.ts x<z.p/\bw z.ts x<=400:=by
 have hl:=k.nrt h;refine⟨z.ns[z.to.length],zR0 hl,by rw[qT0,zR0 hl];rfl,?_⟩;have hm:=qR0 hl;obtain⟨d0,d1⟩:=k.gk.deg _ hm;refine⟨d0,d1,?_⟩;have t0:z.ts≠[]:=fun e=>by have:=k.gk.t1;rw[e]at this;cases this
 have:=oW (p:=401) (x:=z.ns[z.to.length]) t0 fun t ht=>by
  have h1:=(k.gk.tok t ht).2.2.2;have h2:=t.names_len;have h3:=List.count_le_length (a:=z.ns[z.to.length]) (l:=t.names);omega
 omega
theorem AkOk.row{z:Ak}(k:AkOk z)(h:0<z.nr):Bi z.tru z.p:=by
 obtain ⟨x,hx,ex,d0,d1,d4⟩:=k.deg h;have p2:=k.p0;have p9:=k.gk.p9;have e:z.tru=iC z.ns z.ts z.s z.p z.to (bw z.ts x+1).toNat:=by
  unfold Ak.tru;rw[zB0 (by omega),ex]
 rw[e];unfold Bi;rw[zE];refine⟨by omega,by omega,by omega,fun j=>?_⟩
 have:=tJ (zD (ns:=z.ns) (ts:=z.ts) (s:=z.s) (cs:=z.to) (n:=(bw z.ts x+1).toNat) (show 0<z.p by omega)) (by omega) j
 omega
inductive spTruths(CA CG:Addr)(vs:List V)(H:Hp)(Q:VK)(u_3:XK):Prop where
 | mk:∀(k g v:Addr)(z:Ak)(ys:List V),(vs=[.ref k])->(AkAt CA CG H k g v z)->(AkOk z)->(H v=some (.lst ys))->(∀(l:Addr)(H':Hp),H' l=some (.lst (z.tru.map V.int))->AkAt CA CG H' k g v z->SameBut k H H'->Q (.ref l) H')->spTruths CA CG vs H Q u_3
theorem uO:FnScope ["self"] ["self"] (ak lm):=⟨rfl,rfl,rfl,by decide,rfl,by decide,by decide⟩
theorem vv {f:Addr} {fd:FuncData} (F:Fun K "true_numbers" "Asking.true_numbers" lm f fd) (TA:ATxt K mg CA) (iI:Cal P w K mg base 16 "counts_of" ["game"] (spCounts CG)) (je:Cal P w K mg base 14 "true_row" ["game","s","coins"] (spTrue CG)):FnOk P w K mg base CX0 17 f fd ["self"] (spTruths CA CG):=by
 refine F.ok uO (fun vs H Q E h=>?_) (fun cdv A outer s H vs Q E hr h=>?_)
 . obtain⟨k,g,v,z,ys,rfl,_⟩:=h;rfl
 obtain ⟨k,g,v,z,ys,rfl,AK,ok,hv,q⟩:=h;refine⟨_,(aa (aB (af DH (ay (pv 0) rfl) zP (ao _)) (ad (aB (af aH (ay (pv 0) rfl) ac (ao _)) (ad (aZ (pv 0) (ai iI hr (by decide) rfl (ae (ay (pv 0) rfl) aI)) rfl)) (ad (aZ (pv 0) (ai je hr (by decide) rfl (ae (ay (pv 0) rfl) (ae (ay (pv 0) rfl) (ae (ay (pv 0) rfl) aI)))) rfl)))) aq)
  (ad (am (ay (pv 0) rfl)))),?_⟩
 have AK':=AK;obtain⟨dk,aT,a,b,d,tv,tr,hk,GA,ha,hb,TS,hd,dv,hT,ht⟩:=AK';have t0:z.ts≠[]:=fun e=>by have:=ok.gk.t1;rw[e]at this;cases this
 have t10:=ok.gk.t10;have p2:=ok.p0;have p9:=ok.gk.p9;refine⟨_,rfl,k,CA,dk,_,_,rfl,hk,TA.cl,TA.nR,Cw,?_⟩;rcases ht with rfl | ⟨l,rfl,lv,hl⟩
 . -- not yet asked
   have put:∀(l:Addr)(H1:Hp),H l=none->Same H H1->H1 l=some (.lst (z.tru.map V.int))->AkAt CA CG (upd H1 k (.ins CA dk (al g z.nr z.mn z.hd z.s aT (.ref l)))) k g v z/\(upd H1 k (.ins CA dk (al g z.nr z.mn z.hd z.s aT (.ref l)))) l=some (.lst (z.tru.map V.int))/\SameBut k H (upd H1 k (.ins CA dk (al g z.nr z.mn z.hd z.s aT (.ref l)))):=by
    intro l H1 l0 S1 hl;have lk:l≠k:=(aJ hk l0).symm;have U:∀{c:Addr}{o:HO},c≠k->H1 c=some o->(upd H1 k (.ins CA dk (al g z.nr z.mn z.hd z.s aT (.ref l)))) c=some o:=fun n e=>by rw[av n];exact e
    have gk:g≠k:=fun e=>by
     obtain⟨dg,hg⟩:=GA;rw[e,hk]at hg;cases hg
    have kT:bL H (upd H1 k (.ins CA dk (al g z.nr z.mn z.hd z.s aT (.ref l)))):=fun c xs e=>U (aX e hk (by intro z;cases z)) (S1 _ _ e)
    obtain⟨dg,hg⟩:=GA;exact⟨⟨dk,aT,a,b,d,tv,.ref l,aE,⟨dg,U gk (S1 _ _ hg)⟩,kT _ _ ha,kT _ _ hb,TS.mono kT,U (aX hd hk (by intro z;cases z)) (S1 _ _ hd),dv,kT _ _ hT,.inr ⟨l,rfl,(aJ hv l0).symm,U lk hl⟩⟩,U lk hl,(zK0 S1).trans (SameBut.upd _)⟩
   refine⟨rfl,_,rfl,dh ?_⟩;refine⟨_,rfl,k,CA,dk,_,_,rfl,hk,TA.cl,TA.nN,Ez,rfl,_,rfl,?_⟩
   by_cases c:z.nr=0
   . refine aS (congrArg V.int c) ?_;refine⟨_,rfl,k,CA,dk,_,_,rfl,hk,TA.cl,TA.nG,rV,g,a,b,d,z.ns,tv,z.ts,z.p,rfl,GA,ha,ok.n6,hb,TS,t10,fun t ht=>⟨(ok.gk.tok t ht).1,by have:=(ok.gk.tok t ht).2.2.1;omega⟩,fun l H1 l0 S1 hl=>?_⟩;have et:z.tru=z.ts.map (fun t=>(cnt t z.ns:Int)):=zE0 c;rw[←et]at hl;obtain⟨A1,L1,B1⟩:=put l H1 l0 S1 hl;refine⟨_,rfl,k,CA,dk,_,rfl,S1 _ _ hk,TA.cl,TA.nR,Bh,?_⟩;rw[Bg];exact⟨_,rfl,k,CA,dk,_,_,rfl,aE,TA.cl,TA.nR,Cw,q l _ L1 A1 B1⟩
   . refine au (fun e=>c (V.int.inj e)) ?_;have n0:=ok.nr0;obtain⟨x,hx,ex,d0,d1,d4⟩:=ok.deg (by omega);refine⟨_,rfl,k,CA,dk,_,_,rfl,hk,TA.cl,TA.nG,rV,_,rfl,k,CA,dk,_,_,rfl,hk,TA.cl,TA.nS,al_s,_,rfl,k,CA,dk,_,_,rfl,hk,TA.cl,TA.nT,al_t,g,a,b,d,aT,z.ns,tv,z.ts,z.to,x,z.s,z.p,rfl,GA,ha,ok.n6,hb,TS,t0,t10,fun t ht=>⟨(ok.gk.tok t ht).1,(ok.gk.tok t ht).2.2.1⟩,hd,hT,hx,d1,by omega,ok.po,by omega,by omega,fun l H1 l0 S1 hl=>?_⟩;have et:z.tru=iC z.ns z.ts z.s z.p z.to (bw z.ts x+1).toNat:=by
      unfold Ak.tru;rw[zB0 c,ex]
     rw[←et]at hl;obtain⟨A1,L1,B1⟩:=put l H1 l0 S1 hl;refine⟨_,rfl,k,CA,dk,_,rfl,S1 _ _ hk,TA.cl,TA.nR,Bh,?_⟩;rw[Bg];exact⟨_,rfl,k,CA,dk,_,_,rfl,aE,TA.cl,TA.nR,Cw,q l _ L1 A1 B1⟩
 . refine⟨rfl,_,rfl,cb ?_⟩;exact⟨_,rfl,k,CA,dk,_,_,rfl,hk,TA.cl,TA.nR,Cw,q l H hl AK (SameBut.refl _ _)⟩
inductive spTrueAt(CA CG:Addr)(vs:List V)(H:Hp)(Q:VK)(u_3:XK):Prop where
 | mk:∀(k g v:Addr)(z:Ak)(ys:List V)(i:Int),(vs=[.ref k,.int i])->(AkAt CA CG H k g v z)->(AkOk z)->(H v=some (.lst ys))->(0<=i)->(i<z.p)->(∀H',AkAt CA CG H' k g v z->SameBut k H H'->Q (.int (dB z i)) H')->spTrueAt CA CG vs H Q u_3
theorem C5:FnScope ["self","place","truths"] ["self","place"] (ak qM):=⟨rfl,rfl,rfl,by decide,rfl,by decide,by decide⟩
theorem Ae {f fT:Addr} {fd fdT:FuncData} (F:Fun K "true_at" "Asking.true_at" qM f fd) (B:Bl mg) (TA:ATxt K mg CA) (TG:GTxt K mg CG) (mT:Meth K CA "true_numbers" fT) (GT:FnOk P w K mg base CX0 17 fT fdT ["self"] (spTruths CA CG)) (bT:Binds K fdT ["self"] []) (jv:Cal P w K mg base 4 "value_at" ["values","r","p"] spVal):FnOk P w K mg base CX0 18 f fd ["self","place"] (spTrueAt CA CG):=by
 refine F.ok C5 (fun vs H Q E h=>?_) (fun cdv A outer s H vs Q E hr h=>?_)
 . obtain⟨k,g,v,z,ys,i,rfl,_⟩:=h;rfl
 obtain ⟨k,g,v,z,ys,i,rfl,AK,ok,hv,i0,i1,q⟩:=h;refine⟨_,(aa (aj (i:=2) C5.nd rfl (Or.inl rfl) (fL (pv 0) TA.cl mT GT hr bT .nil bq))
  (aa (aB (af gB (ay (pv 0) rfl) ac (ao _)) (ad (am (ai jv hr (by decide) rfl (ae (pv 2) (ae (pv 1) (ae (ay (ay (pv 0) rfl) rfl) aI)))))) aq)
  (aa (aB (af cJ (pv 1) (aA aC rfl B.len PySem.boot_len (ae (pv 2) aI)) (ao _)) (ad (am (ag aN (aD ix_list (pv 2) (pv 1) (fun _ _=>rfl)) (ay (ay (pv 0) rfl) rfl)))) aq)
  (ad (am ac))))),?_⟩
 have p2:=ok.p0;have p9:=ok.gk.p9;obtain⟨dk,aT,_,_,_,_,tr,hk,_⟩:=id AK;refine⟨_,rfl,k,dk,_,rfl,hk,al_n3,k,g,v,z,ys,rfl,AK,ok,hv,fun l H1 hl A1 S1=>?_⟩;have A1':=A1;obtain⟨dk1,aT1,a1,b1,d1,tv1,tr1,hk1,⟨dg1,hg1⟩,_⟩:=A1';unfold dB at q;refine⟨_,rfl,k,CA,dk1,_,_,rfl,hk1,TA.cl,TA.nN,Ez,_,_,rfl,rfl,_,rfl,?_⟩
 by_cases c:0<z.nr
 . rw[zE0 c]at q;refine aS c ?_;exact⟨_,rfl,_,rfl,_,rfl,k,CA,dk1,_,_,rfl,hk1,TA.cl,TA.nG,rV,g,CG,dg1,_,_,rfl,hg1,TG.cl,TG.nF,jy ..,l,z.tru,i,z.p,rfl,.inl hl,ok.row c,ok.gk.pr,p9,i0,i1,fun H2 S2=>q H2 (A1.same S2) (S1.trans (zK0 S2))⟩
 . rw [zB0 c]at q;refine au c ?_;refine⟨_,rfl,_,rfl,l,_,rfl,.inl (zG0 hl),_,_,rfl,rfl,_,rfl,?_⟩;have el:((z.tru.map V.int).length:Int)=(z.tru.length:Int):=by rw[zF0]
   by_cases c2:i<(z.tru.length:Int)
   . rw[zE0 c2]at q;refine aS (by rw[el];exact c2) ?_;obtain⟨j,rfl⟩:=Int.eq_ofNat_of_zero_le i0;rw[qQ0]at q;exact⟨_,rfl,_,rfl,l,_,_,_,rfl,rfl,zG0 hl,wM (by omega),_,rfl,k,CA,dk1,_,_,rfl,hk1,TA.cl,TA.nG,rV,g,CG,dg1,_,_,rfl,hg1,TG.cl,TG.nF,jy ..,_,_,rfl,rfl,(by show 0<z.p;omega),q H1 A1 S1⟩
   . rw[zB0 c2]at q;refine au (by rw[el];exact c2) ?_;exact q H1 A1 S1
noncomputable def Tm.worth(z:Ak)(bx:Str->Int):Tm->Int
 | .num n=>n % z.p | .box x=>bx x | .plain w=>lp z w
 | .ask w a=>if w="coin" then iY z (a.worth z bx)else dB z (a.worth z bx)
 | .op s a b=>opV z.p s (a.worth z bx) (b.worth z bx)
def Tm.good:Tm->Prop
 | .num _=>True | .box _=>True | .plain w=>w∈plainW | .ask w a=>w∈askW/\a.good | .op s a b=>s∈signW/\a.good/\b.good
def gJ(p:Int)(bx:Str->Int):Prop:=∀x,0<=bx x/\bx x<p
theorem Tm.worth_rng{z:Ak}{bx:Str->Int}(k:AkOk z)(hb:gJ z.p bx):∀t:Tm,0<=t.worth z bx/\t.worth z bx<z.p
 | .num n=>by have:=k.p0;exact⟨qB0 _ (by omega),qF0 _ (by omega)⟩
 | .box x=>hb x
 | .plain w=>uY k w
 | .ask w a=>by
   show 0<=(if w="coin" then iY z (a.worth z bx)else dB z (a.worth z bx))/\(if w="coin" then iY z (a.worth z bx)else dB z (a.worth z bx))<z.p
   split
   . exact yD k _
   . exact xf k _
 | .op s a b=>by have:=k.p0;exact BR (by omega)
inductive spTm(CA CG:Addr)(n:Nat)(vs:List V)(H:Hp)(Q:VK)(u_3:XK):Prop where
 | mk:∀(v:V)(t:Tm)(b k g sd:Addr)(z:Ak)(ys:List V)(bx:Str->Int)(m:Nat),(vs=[v,.ref b,.ref k])->(TmAt H v t)->(t.good)->(t.depth<=n)->(BxAt H b bx m)->(gJ z.p bx)->(AkAt CA CG H k g sd z)->(AkOk z)->(H sd=some (.lst ys))->(∀H',AkAt CA CG H' k g sd z->SameBut k H H'->Q (.int (t.worth z bx)) H')->spTm CA CG n vs H Q u_3
theorem fg:FnScope ["term","boxes","asking","word","first","second"] ["term","boxes","asking"] (ak gR):=⟨rfl,rfl,rfl,by decide,rfl,by decide,by decide⟩
structure AskF(P:Program)(w:World)(K:W.Frag)(mg:Str->Option Value)(base:Heap)(CA CG fP fC fR:Addr)(fdP fdC fdR:FuncData):Prop where
 mP:Meth K CA "plain_value" fP
 GP:FnOk P w K mg base CX0 1 fP fdP ["self","word"] (spPlain CA CG)
 bP:Binds K fdP ["self","word"] []
 mC:Meth K CA "coin_at" fC
 GC:FnOk P w K mg base CX0 1 fC fdC ["self","place"] (spCoinAt CA CG)
 bC:Binds K fdC ["self","place"] []
 mR:Meth K CA "true_at" fR
 GR:FnOk P w K mg base CX0 18 fR fdR ["self","place"] (spTrueAt CA CG)
 bR:Binds K fdR ["self","place"] []
theorem yK {n:Nat} {f fP fC fR:Addr} {fd fdP fdC fdR:FuncData} (F:Fun K "value_of" "value_of" gR f fd) (TA:ATxt K mg CA) (TG:GTxt K mg CG) (M:AskF P w K mg base CA CG fP fC fR fdP fdC fdR) (dO:Cal P w K mg base 3 "op_value" ["sign","first","second","p"] spOp) (bh:Cal P w K mg base (n+18) "value_of" ["term","boxes","asking"] (spTm CA CG n)):FnOk P w K mg base CX0 (n+19) f fd ["term","boxes","asking"] (spTm CA CG (n+1)):=by
 refine F.ok fg (fun vs H Q E h=>?_) (fun cdv A outer s H vs Q E hr h=>?_)
 . obtain⟨v,t,b,k,g,sd,z,ys,bx,m,rfl,_⟩:=h;rfl
 obtain ⟨v,t,b,k,g,sd,z,ys,bx,m,rfl,T,tg,td,BX,bo,AK,ok,hs,q⟩:=h;have hu:=AL hr;have hr1:Room 1 _:=hr.mono (by omega);have hr18:Room 18 _:=hr.mono (by omega);refine⟨_,(aa (aj (i:=3) fg.nd rfl (Or.inl rfl) (aD aG (pv 0) ac (fun _ _=>rfl)))
  (aa (aB (af aH (pv 3) ax (ao _)) (ad (am (ag aN (aD aG (pv 0) ac (fun _ _=>rfl)) (ay (ay (pv 2) rfl) rfl)))) aq)
  (aa (aB (af aH (pv 3) ax (ao _)) (ad (am (zR hu (pv 1) (aD aG (pv 0) ac (fun _ _=>rfl)) ac ⟨rfl,rfl,rfl,rfl⟩))) aq)
  (aa (aB (af aH (pv 3) ax (ao _)) (ad (am (bu (pv 2) TA.cl M.mC M.GC hr1 M.bC .nil bq (ae (ai bh hr (zH0 _) rfl (ae (aD aG (pv 0) ac (fun _ _=>rfl)) (ae (pv 1) (ae (pv 2) aI)))) aI)))) aq)
  (aa (aB (af aH (pv 3) ax (ao _)) (ad (am (bu (pv 2) TA.cl M.mR M.GR hr18 M.bR .nil bq (ae (ai bh hr (zH0 _) rfl (ae (aD aG (pv 0) ac (fun _ _=>rfl)) (ae (pv 1) (ae (pv 2) aI)))) aI)))) aq)
  (aa (aB (af aH (pv 3) ax (ao _)) (aa (aj (i:=4) fg.nd rfl (Or.inl rfl) (ai bh hr (zH0 _) rfl (ae (aD aG (pv 0) ac (fun _ _=>rfl)) (ae (pv 1) (ae (pv 2) aI)))))
   (aa (aj (i:=5) fg.nd rfl (Or.inl rfl) (ai bh hr (zH0 _) rfl (ae (aD aG (pv 0) ac (fun _ _=>rfl)) (ae (pv 1) (ae (pv 2) aI)))))
   (ad (am (ai dO hr (by omega) rfl (ae (aD aG (pv 0) ac (fun _ _=>rfl)) (ae (pv 4) (ae (pv 5) (ae (ay (ay (pv 2) rfl) rfl) aI))))))))) aq)
  (ad (am (bu (pv 2) TA.cl M.mP M.GP hr1 M.bP .nil bq (ae (pv 3) aI)))))))))),?_⟩
 have AK':=AK;obtain⟨dk,aT,ga,gb,gd,tv,tr,hk,⟨dg,hg⟩,_⟩:=AK';have p2:=ok.p0;have p0:0<z.p:=by omega
 have kT:∀{H':Hp},SameBut k H H'->bL H H':=fun s c xs e=>s _ _ (aX e hk (by intro z;cases z)) e
 have kB:∀{H':Hp},SameBut k H H'->BxAt H' b bx m:=fun s=>BX.keep fun o e=>s _ _ (by
  obtain⟨kvs,e',_⟩:=BX;exact aX e' hk (by intro z;cases z)) e
 have kS:∀{H':Hp},SameBut k H H'->H' sd=some (.lst ys):=fun s=>s _ _ (aX hs hk (by intro z;cases z)) hs
 cases T with
 | @num a n e=>
   refine⟨_,rfl,a,_,0,_,rfl,rfl,zD0 e,rfl,?_⟩;refine⟨_,rfl,rfl,_,rfl,aS rfl ?_⟩;exact⟨_,rfl,a,_,1,_,rfl,rfl,zD0 e,rfl,_,rfl,k,CA,dk,_,_,rfl,hk,TA.cl,TA.nG,rV,g,CG,dg,_,_,rfl,hg,TG.cl,TG.nF,jy ..,_,_,rfl,rfl,p0,q H AK (SameBut.refl _ _)⟩
 | @box a x e=>
   refine⟨_,rfl,a,_,0,_,rfl,rfl,zD0 e,rfl,?_⟩;refine⟨_,rfl,rfl,_,rfl,au (neS (by decide)) ?_⟩;refine⟨_,rfl,rfl,_,rfl,aS rfl ?_⟩;obtain⟨kvs,hb,_,hx⟩:=BX;refine⟨_,rfl,b,rfl,.inl ⟨kvs,.inl hb⟩,_,rfl,a,_,1,_,rfl,rfl,zD0 e,rfl,_,DGet.k (k:=.inr x) hb,?_⟩;rw[hx];exact q H AK (SameBut.refl _ _)
 | @plain a wd e=>
   have no:∀x:Str,x∉plainW->¬ V.str wd=V.str x:=fun x hx e=>hx (by rw[←V.str.inj e];exact tg)
   refine⟨_,rfl,a,_,0,_,rfl,rfl,zD0 e,rfl,?_⟩;refine⟨_,rfl,rfl,_,rfl,au (no _ (by decide)) ?_⟩;refine⟨_,rfl,rfl,_,rfl,au (no _ (by decide)) ?_⟩;refine⟨_,rfl,rfl,_,rfl,au (no _ (by decide)) ?_⟩;refine⟨_,rfl,rfl,_,rfl,au (no _ (by decide)) ?_⟩;refine⟨_,rfl,rfl,_,rfl,au (no _ (by decide)) ?_⟩;exact⟨_,rfl,k,dk,_,rfl,hk,al_n1,_,rfl,k,g,sd,z,wd,rfl,AK,p0,q H AK (SameBut.refl _ _)⟩
 | @ask a wd v1 t1 e T1=>
   obtain⟨wq,tq⟩:=tg;have hw:wd="coin"∨wd="true":=by simpa [askW]using wq
   have d1:t1.depth<=n:=by have:t1.depth+1<=n+1:=td;omega
   have wr:=Tm.worth_rng ok bo t1;refine⟨_,rfl,a,_,0,_,rfl,rfl,zD0 e,rfl,?_⟩;rcases hw with rfl | rfl
   . refine⟨_,rfl,rfl,_,rfl,au (neS (by decide)) ?_⟩;refine⟨_,rfl,rfl,_,rfl,au (neS (by decide)) ?_⟩;refine⟨_,rfl,rfl,_,rfl,aS rfl ?_⟩;refine⟨_,rfl,k,dk,_,rfl,hk,al_n2,_,rfl,a,_,1,_,rfl,rfl,zD0 e,rfl,_,rfl,_,rfl,v1,t1,b,k,g,sd,z,ys,bx,m,rfl,T1,tq,d1,BX,bo,AK,ok,hs,fun H1 A1 S1=>?_⟩;refine⟨k,g,sd,z,_,rfl,A1,ok.tl,fun H2 S2=>?_⟩;have qq:=q H2 (A1.same S2) (S1.trans (zK0 S2));have e1:(Tm.ask "coin" t1).worth z bx=iY z (t1.worth z bx):=zE0 rfl;rw[e1]at qq;exact qq
   . refine⟨_,rfl,rfl,_,rfl,au (neS (by decide)) ?_⟩;refine⟨_,rfl,rfl,_,rfl,au (neS (by decide)) ?_⟩;refine⟨_,rfl,rfl,_,rfl,au (neS (by decide)) ?_⟩;refine⟨_,rfl,rfl,_,rfl,aS rfl ?_⟩;refine⟨_,rfl,k,dk,_,rfl,hk,al_n4,_,rfl,a,_,1,_,rfl,rfl,zD0 e,rfl,_,rfl,_,rfl,v1,t1,b,k,g,sd,z,ys,bx,m,rfl,T1,tq,d1,BX,bo,AK,ok,hs,fun H1 A1 S1=>?_⟩;refine⟨k,g,sd,z,ys,_,rfl,A1,ok,kS S1,wr.1,wr.2,fun H2 A2 S2=>?_⟩;have qq:=q H2 A2 (S1.trans S2);have e1:(Tm.ask "true" t1).worth z bx=dB z (t1.worth z bx):=zB0 (by decide);rw[e1]at qq;exact qq
 | @op a o v1 v2 t1 t2 e T1 T2=>
   obtain⟨oq,q1,q2⟩:=tg;have d1:t1.depth<=n:=by have:max t1.depth t2.depth+1<=n+1:=td;omega
   have d2:t2.depth<=n:=by have:max t1.depth t2.depth+1<=n+1:=td;omega
   have w1:=Tm.worth_rng ok bo t1;have w2:=Tm.worth_rng ok bo t2;refine⟨_,rfl,a,_,0,_,rfl,rfl,zD0 e,rfl,?_⟩;refine⟨_,rfl,rfl,_,rfl,au (neS (by decide)) ?_⟩;refine⟨_,rfl,rfl,_,rfl,au (neS (by decide)) ?_⟩;refine⟨_,rfl,rfl,_,rfl,au (neS (by decide)) ?_⟩;refine⟨_,rfl,rfl,_,rfl,au (neS (by decide)) ?_⟩;refine⟨_,rfl,rfl,_,rfl,aS rfl ?_⟩;refine⟨_,rfl,a,_,2,_,rfl,rfl,zD0 e,rfl,_,rfl,_,rfl,v1,t1,b,k,g,sd,z,ys,bx,m,rfl,T1,q1,d1,BX,bo,AK,ok,hs,fun H1 A1 S1=>?_⟩;have e1:=kT S1 _ _ e;refine⟨_,rfl,a,_,3,_,rfl,rfl,zD0 e1,rfl,_,rfl,_,rfl,v2,t2,b,k,g,sd,z,ys,bx,m,rfl,T2.mono (kT S1),q2,d2,kB S1,bo,A1,ok,kS S1,fun H2 A2 S2=>?_⟩;have e2:=kT (S1.trans S2) _ _ e;obtain⟨dk2,aT2,_,_,_,_,tr2,hk2,⟨dg2,hg2⟩,_⟩:=id A2;exact⟨_,rfl,a,_,1,_,rfl,rfl,zD0 e2,rfl,_,rfl,_,rfl,_,rfl,k,CA,dk2,_,_,rfl,hk2,TA.cl,TA.nG,rV,g,CG,dg2,_,_,rfl,hg2,TG.cl,TG.nF,jy ..,o,_,_,z.p,rfl,oq,ok.gk.pr,ok.gk.p9,w1.1,w1.2,w2.1,w2.2,q H2 A2 (S1.trans S2)⟩
theorem yJ {f:Addr} {fd:FuncData}:FnOk P w K mg base CX0 18 f fd ["term","boxes","asking"] (spTm CA CG 0):=by
 have no:∀vs H Q E,¬ spTm CA CG 0 vs H Q E:=fun vs H Q E h=>by
  obtain⟨v,t,_,_,_,_,_,_,_,_,_,_,_,h1,_⟩:=h
  have:=t.depth_pos
  omega
 exact⟨fun vs H Q E h=>absurd h (no vs H Q E),fun A outer s H args us vs Q E _ _ _ _ h=>absurd h (no vs H Q E)⟩
theorem lN {f fP fC fR:Addr} {fd fdP fdC fdR:FuncData} (F:Fun K "value_of" "value_of" gR f fd) (m:mg "value_of"=some (.ref f)) (TA:ATxt K mg CA) (TG:GTxt K mg CG) (M:AskF P w K mg base CA CG fP fC fR fdP fdC fdR) (dO:Cal P w K mg base 3 "op_value" ["sign","first","second","p"] spOp) :
 ∀n:Nat,FnOk P w K mg base CX0 (n+18) f fd ["term","boxes","asking"] (spTm CA CG n)
 | 0=>yJ
 | n+1=>yK F TA TG M dO (Cal.of F (lN F m TA TG M dO n) m (fun _ _ _ _ _ _ us hl=>by obtain⟨u0,u1,u2,rfl⟩:=Cl hl;rfl))
end
section
variable {CM CA CG:Addr}
structure MS where
 pl:Int
 bx:Str->Int
 sd:List Int
noncomputable def CJ(z:Ak)(len:Int)(s:MS):Hr->MS
 | .fin=>⟨len,s.bx,s.sd⟩
 | .go n=>⟨n,s.bx,s.sd⟩
 | .iff t n=>⟨if t.worth z s.bx=0 then s.pl+1 else n,s.bx,s.sd⟩
 | .set x t=>⟨s.pl+1,iz s.bx x (t.worth z s.bx),s.sd⟩
 | .say t=>⟨s.pl+1,s.bx,s.sd++[t.worth z s.bx]⟩
noncomputable def dC(z:Ak)(rows:List Hr)(s:MS):MS:=match rows[s.pl.toNat]? with
 | some r=>CJ z rows.length s r
 | none=>s
noncomputable def jL(z:Ak)(rows:List Hr):Nat->MS->MS
 | 0,s=>s
 | n+1,s=>if s.pl<(rows.length:Int)/\(s.sd.length:Int)<z.mn then jL z rows n (dC z rows s)else s
def qX(mn:Int)(sd:List Int):List Int:=sd++List.replicate (mn-(sd.length:Int)).toNat 0
def Hr.good:Hr->Prop
 | .fin=>True | .go n=>0<=n | .iff t n=>t.good/\t.depth<=8/\0<=n | .set _ t=>t.good/\t.depth<=8 | .say t=>t.good/\t.depth<=8
theorem yY{z:Ak}{rows:List Hr}(hq:∀r∈rows,r.good){s:MS}(h:0<=s.pl):0<=(dC z rows s).pl:=by
 unfold dC;cases e:rows[s.pl.toNat]? with
 | none=>exact h
 | some r=>
   have q:=hq r (qI0 e);cases r with
   | fin=>exact Int.natCast_nonneg _
   | go n=>exact q
   | iff t n=>
     show 0<=if t.worth z s.bx=0 then s.pl+1 else n
     by_cases c:t.worth z s.bx=0
     . rw[zE0 c];omega
     . rw[zB0 c];exact q.2.2
   | set x t=>show 0<=s.pl+1;omega
   | say t=>show 0<=s.pl+1;omega
theorem sw{z:Ak}{rows:List Hr}{s:MS}:(dC z rows s).sd.length<=s.sd.length+1:=by
 unfold dC;cases e:rows[s.pl.toNat]? with
 | none=>exact qL0 _
 | some r=>
   cases r with
   | fin=>exact qL0 _
   | go n=>exact qL0 _
   | iff t n=>exact qL0 _
   | set x t=>exact qL0 _
   | say t=>show(s.sd++[_]).length<=_;rw[zJ0];exact zH0 _
theorem Bd{p n:Int}{bx:Str->Int}{x:Str}(h:gJ p bx)(h0:0<=n)(h1:n<p):gJ p (iz bx x n):=fun y=>by
 unfold iz
 split
 . exact⟨h0,h1⟩
 . exact h y
theorem mZ{z:Ak}{rows:List Hr}{s:MS}(k:AkOk z)(h:gJ z.p s.bx)(hs:eM s.sd z.p):gJ z.p (dC z rows s).bx/\eM (dC z rows s).sd z.p:=by
 unfold dC;cases e:rows[s.pl.toNat]? with
 | none=>exact⟨h,hs⟩
 | some r=>
   cases r with
   | fin=>exact⟨h,hs⟩
   | go n=>exact⟨h,hs⟩
   | iff t n=>exact⟨h,hs⟩
   | set x t=>
     have w:=Tm.worth_rng k h t;exact⟨Bd h w.1 w.2,hs⟩
   | say t=>
     have w:=Tm.worth_rng k h t;refine⟨h,fun y hy=>?_⟩;rcases qD0 hy with hy | hy
     . exact hs y hy
     . rw[zM0 hy];exact w
theorem wz{z:Ak}{rows:List Hr}(k:AkOk z):∀(n:Nat)(s:MS),gJ z.p s.bx->eM s.sd z.p->(s.sd.length:Int)<=z.mn->gJ z.p (jL z rows n s).bx/\eM (jL z rows n s).sd z.p/\((jL z rows n s).sd.length:Int)<=z.mn
 | 0,s,h,hs,hl=>⟨h,hs,hl⟩
 | n+1,s,h,hs,hl=>by
   show gJ z.p (if _ then _ else _:MS).bx/\eM (if _ then _ else _:MS).sd z.p/\((if _ then _ else _:MS).sd.length:Int)<=z.mn
   by_cases c:s.pl<(rows.length:Int)/\(s.sd.length:Int)<z.mn
   . rw [zE0 c];obtain⟨h1,h2⟩:=mZ (rows:=rows) k h hs
     have:=sw (z:=z) (rows:=rows) (s:=s)
     exact wz k n _ h1 h2 (by omega)
   . rw[zB0 c];exact⟨h,hs,hl⟩
def RowsAt(H:Hp)(rv:List V)(rows:List Hr):Prop:=rv.length=rows.length/\∀(i:Nat)(v:V)(r:Hr),rv[i]?=some v->rows[i]?=some r->HrAt H v r
theorem RowsAt.mono{H H':Hp}{rv:List V}{rows:List Hr}(h:RowsAt H rv rows)(k:bL H H'):RowsAt H' rv rows:=⟨h.1,fun i v r h1 h2=>(h.2 i v r h1 h2).mono k⟩
def But2(b c:Addr)(H H':Hp):Prop:=∀a o,a≠b->a≠c->H a=some o->H' a=some o
theorem BxAt.le{H:Hp}{b:Addr}{bx:Str->Int}{m n:Nat}(h:BxAt H b bx m)(k:m<=n):BxAt H b bx n:=by
 obtain⟨kvs,e,l,r⟩:=h;exact⟨kvs,e,zO0 l k,r⟩
def But3(b c d:Addr)(H H':Hp):Prop:=∀a o,a≠b->a≠c->a≠d->H a=some o->H' a=some o
theorem But3.trans{b c d:Addr}{H H1 H2:Hp}(x:But3 b c d H H1)(y:But3 b c d H1 H2):But3 b c d H H2:=fun a o h1 h2 h3 e=>y a o h1 h2 h3 (x a o h1 h2 h3 e)
inductive spRowM(CM CA CG:Addr)(vs:List V)(H:Hp)(Q:VK)(u_3:XK):Prop where
 | mk:∀(M g h b dm k sd:Addr)(rv:List V)(r pl:Int)(z:Ak)(rows:List Hr)(bx:Str->Int)(m:Nat)(said:List Int),(vs=[.ref M,.int pl,.ref sd,.ref k])->(H M=some (.ins CM dm (ml g h r b)))->(M≠k)->(H h=some (.tup rv))->(RowsAt H rv rows)->((∀r∈rows,r.good))->(0<=pl)->(pl<(rows.length:Int))->(BxAt H b bx m)->(gJ z.p bx)->(m<=10000)->(H sd=some (.lst (said.map V.int)))->(said.length<=900)->(AkAt CA CG H k g sd z)->(AkOk z)->(∀H',H' sd=some (.lst ((dC z rows ⟨pl,bx,said⟩).sd.map V.int))->BxAt H' b (dC z rows ⟨pl,bx,said⟩).bx (m+1)->AkAt CA CG H' k g sd z->But3 b sd k H H'->Q (.int (dC z rows ⟨pl,bx,said⟩).pl) H')->spRowM CM CA CG vs H Q u_3
theorem w8:FnScope ["self","place","said","asking","row","word"] ["self","place","said","asking"] (ak uR):=⟨rfl,rfl,rfl,by decide,rfl,by decide,by decide⟩
theorem BU {f:Addr} {fd:FuncData} (F:Fun K "do_row" "Machine.do_row" uR f fd) (B:Bl mg) (TM:MTxt K mg CM) (bh:Cal P w K mg base 26 "value_of" ["term","boxes","asking"] (spTm CA CG 8)):FnOk P w K mg base CX0 27 f fd ["self","place","said","asking"] (spRowM CM CA CG):=by
 refine F.ok w8 (fun vs H Q E h=>?_) (fun cdv A outer s H vs Q E hr h=>?_)
 . obtain⟨M,g,h,b,dm,k,sd,rv,r,pl,z,rows,bx,m,said,rfl,_⟩:=h;rfl
 obtain ⟨M,g,h,b,dm,k,sd,rv,rn,pl,z,rows,bx,m,said,rfl,hM,nMk,hh,RW,rq,pl0,pl1,BX,bo,m1,hsd,sl,AK,ok,q⟩:=h;have hu:=AL hr;refine⟨_,(aa (aj (i:=4) w8.nd rfl (Or.inl rfl) (aD aG (ay (pv 0) rfl) (pv 1) (fun _ _=>rfl)))
  (aa (aj (i:=5) w8.nd rfl (Or.inl rfl) (aD aG (pv 4) ac (fun _ _=>rfl)))
  (aa (aB (af aH (pv 5) ax (ao _)) (ad (am (aA aC rfl B.len PySem.boot_len (ae (ay (pv 0) rfl) aI)))) aq)
  (aa (aB (af aH (pv 5) ax (ao _)) (ad (am (aD aG (pv 4) ac (fun _ _=>rfl)))) aq)
  (aa (aB (af aH (pv 5) ax (ao _)) (ad (BK hu (ay (pv 0) rfl) (aD aG (pv 4) ac (fun _ _=>rfl)) (ai bh hr (by decide) rfl (ae (aD aG (pv 4) ac (fun _ _=>rfl)) (ae (ay (pv 0) rfl) (ae (pv 3) aI)))) rfl)) (ad (aB (af aH (pv 5) ax (ao _)) (ad (bc (dH PySem.F.plainAttrs_list PySem.F.slot_list_append PySem.F.type_list_append bY (pv 2) (ae (ai bh hr (by decide) rfl (ae (aD aG (pv 4) ac (fun _ _=>rfl)) (ae (ay (pv 0) rfl) (ae (pv 3) aI)))) aI)))) (ad (aB (af jw (ai bh hr (by decide) rfl (ae (aD aG (pv 4) ac (fun _ _=>rfl)) (ae (ay (pv 0) rfl) (ae (pv 3) aI)))) ac (ao _)) (ad (am (aD aG (pv 4) ac (fun _ _=>rfl)))) aq)))))
  (ad (am (ag aO (pv 1) ac)))))))),?_⟩
 obtain⟨i,rfl⟩:=Int.eq_ofNat_of_zero_le pl0;have hi:i<rows.length:=by omega
 have hi':i<rv.length:=by rw[RW.1];exact hi
 have er:rows[i]?=some rows[i]:=zR0 hi;have ev:rv[i]?=some rv[i]:=zR0 hi';have RA:=RW.2 i _ _ ev er;have rqi:=rq _ (qR0 hi);have hst:dC z rows ⟨(i:Int),bx,said⟩=CJ z rows.length ⟨(i:Int),bx,said⟩ rows[i]:=by
  unfold dC;rw[show((⟨(i:Int),bx,said⟩:MS).pl.toNat)=i from qQ0 i,er]
 rw[hst]at q;generalize rows[i]=row at RA rqi q er hst;have at_:atI rv (i:Int)=some rv[i]:=cH ev;generalize rv[i]=v at RA at_ ev;refine⟨_,rfl,M,CM,dm,_,_,rfl,hM,TM.cl,TM.nH,DP,_,rfl,h,_,_,v,rfl,rfl,zD0 hh,at_,?_⟩;have K0:But3 b sd k H H:=fun _ _ _ _ _ e=>e
 have nBS:sd≠b:=by
  obtain⟨kvs,e,_⟩:=BX;exact aX hsd e (by intro z;cases z)
 obtain⟨kvs,hb,kl,hx⟩:=id BX;obtain⟨dk,_,_,_,_,_,_,hk,_⟩:=id AK;have kT:∀{H':Hp},SameBut k H H'->bL H H':=fun s c xs e=>s _ _ (aX e hk (by intro z;cases z)) e
 have nbk:b≠k:=aX hb hk (by intro z;cases z);have nsk:sd≠k:=aX hsd hk (by intro z;cases z);cases RA with
 | @fin a e=>
   refine⟨_,rfl,a,_,0,_,rfl,rfl,zD0 e,rfl,?_⟩;refine⟨_,rfl,rfl,_,rfl,aS rfl ?_⟩;refine⟨_,rfl,M,CM,dm,_,_,rfl,hM,TM.cl,TM.nH,DP,h,_,rfl,.inr (zD0 hh),?_⟩;rw[RW.1];exact q H hsd (BX.le (qL0 _)) AK K0
 | @go a n e=>
   refine⟨_,rfl,a,_,0,_,rfl,rfl,zD0 e,rfl,?_⟩;refine⟨_,rfl,rfl,_,rfl,au (neS (by decide)) ?_⟩;refine⟨_,rfl,rfl,_,rfl,aS rfl ?_⟩;exact⟨_,rfl,a,_,1,_,rfl,rfl,zD0 e,rfl,q H hsd (BX.le (qL0 _)) AK K0⟩
 | @iff a u t n e T=>
   refine⟨_,rfl,a,_,0,_,rfl,rfl,zD0 e,rfl,?_⟩;refine⟨_,rfl,rfl,_,rfl,au (neS (by decide)) ?_⟩;refine⟨_,rfl,rfl,_,rfl,au (neS (by decide)) ?_⟩;refine⟨_,rfl,rfl,_,rfl,au (neS (by decide)) ?_⟩;refine⟨_,rfl,rfl,_,rfl,au (neS (by decide)) ?_⟩;refine⟨_,rfl,a,_,1,_,rfl,rfl,zD0 e,rfl,_,rfl,M,CM,dm,_,_,rfl,hM,TM.cl,TM.nB,Cf,_,rfl,u,t,b,k,g,sd,z,_,bx,m,rfl,T,rqi.1,rqi.2.1,BX,bo,AK,ok,hsd,fun H1 A1 S1=>?_⟩;refine⟨rfl,_,rfl,?_⟩;have q':∀H',H' sd=some (.lst (said.map V.int))->BxAt H' b bx (m+1)->AkAt CA CG H' k g sd z->But3 b sd k H H'->Q (.int (if t.worth z bx=0 then(i:Int)+1 else n)) H':=q
   have q1:=q' H1 (S1 _ _ nsk hsd) ((BX.keep fun o e=>S1 _ _ nbk e).le (qL0 _)) A1 (fun c o _ _ h3 e=>S1 _ _ h3 e)
   by_cases c:t.worth z bx=0
   . rw[zE0 c]at q1;refine CV (congrArg V.int c) ?_;exact⟨_,rfl,_,_,rfl,rfl,q1⟩
   . rw[zB0 c]at q1;refine DY (fun z=>c (V.int.inj z)) ?_;exact⟨_,rfl,a,_,2,_,rfl,rfl,zD0 (kT S1 _ _ e),rfl,q1⟩
 | @set a x u t e T=>
   refine⟨_,rfl,a,_,0,_,rfl,rfl,zD0 e,rfl,?_⟩;refine⟨_,rfl,rfl,_,rfl,au (neS (by decide)) ?_⟩;refine⟨_,rfl,rfl,_,rfl,au (neS (by decide)) ?_⟩;refine⟨_,rfl,rfl,_,rfl,aS rfl ?_⟩;refine⟨_,rfl,a,_,2,_,rfl,rfl,zD0 e,rfl,_,rfl,M,CM,dm,_,_,rfl,hM,TM.cl,TM.nB,Cf,_,rfl,u,t,b,k,g,sd,z,_,bx,m,rfl,T,rqi.1,rqi.2,BX,bo,AK,ok,hsd,fun H1 A1 S1=>?_⟩;have hb1:=S1 _ _ nbk hb;have hs1:=S1 _ _ nsk hsd;refine⟨_,rfl,M,CM,dm,_,_,rfl,S1 _ _ nMk hM,TM.cl,TM.nB,Cf,_,rfl,a,_,1,_,rfl,rfl,zD0 (kT S1 _ _ e),rfl,b,_,rfl,DPut.k (k:=.inr x) hb1 ?_,?_⟩
   . exact Nat.lt_of_le_of_lt kl (Nat.lt_of_le_of_lt m1 (by decide))
   refine⟨_,rfl,_,_,rfl,rfl,?_⟩;refine q _ ?_ ⟨_,aE,zO0 (fY _ _ _) (Nat.succ_le_succ kl),Ew x _ hx⟩ (A1.but2 hb1 hs1 fun c o h1 _ e=>by rw[av h1];exact e) (fun c o h1 _ h3 e=>by rw[av h1];exact S1 _ _ h3 e);rw[av nBS];exact hs1
 | @say a u t e T=>
   refine⟨_,rfl,a,_,0,_,rfl,rfl,zD0 e,rfl,?_⟩;refine⟨_,rfl,rfl,_,rfl,au (neS (by decide)) ?_⟩;refine⟨_,rfl,rfl,_,rfl,au (neS (by decide)) ?_⟩;refine⟨_,rfl,rfl,_,rfl,au (neS (by decide)) ?_⟩;refine⟨_,rfl,rfl,_,rfl,aS rfl ?_⟩;refine⟨_,rfl,.inl ⟨rfl,_,zG0 hsd⟩,?_⟩;refine⟨_,rfl,a,_,1,_,rfl,rfl,zD0 e,rfl,_,rfl,M,CM,dm,_,_,rfl,hM,TM.cl,TM.nB,Cf,_,rfl,u,t,b,k,g,sd,z,_,bx,m,rfl,T,rqi.1,rqi.2,BX,bo,AK,ok,hsd,fun H1 A1 S1=>?_⟩;have hb1:=S1 _ _ nbk hb;have hs1:=S1 _ _ nsk hsd;refine⟨sd,_,_,rfl,rfl,hs1,?_,?_⟩
   . rw[zF0];exact aM (by omega)
   refine⟨_,rfl,_,_,rfl,rfl,?_⟩;refine q _ ?_ ((BX.keep fun o e=>by rw[av nBS.symm];exact S1 _ _ nbk e).le (qL0 _)) (A1.but2 hb1 hs1 fun c o _ h2 e=>by rw[av h2];exact e) (fun c o _ h2 h3 e=>by rw[av h2];exact S1 _ _ h3 e);rw[aE];show _=some (HO.lst ((said++[t.worth z bx]).map V.int));rw[zL0];rfl
end
section
variable {CM CA CG:Addr}
def m1 (g:Addr):List (Str×V):=[("game",.ref g)]
def m2 (g h:Addr):List (Str×V):=[("game",.ref g),("helper",.ref h)]
def m3 (g h:Addr):List (Str×V):=[("game",.ref g),("helper",.ref h),("next_round",.int 0)]
theorem pm1 {g:Addr}:bK "game" (.ref g) []=m1 g:=by rfl'
theorem pm2 {g h:Addr}:bK "helper" (.ref h) (m1 g)=m2 g h:=by rfl'
theorem pm3 {g h:Addr}:bK "next_round" (.int 0) (m2 g h)=m3 g h:=by rfl'
theorem pm4 {g h b:Addr}:bK "boxes" (.ref b) (m3 g h)=ml g h 0 b:=by rfl'
inductive spMInit(CM:Addr)(vs:List V)(H:Hp)(Q:VK)(u_3:XK):Prop where
 | mk:∀(M g h dm:Addr),(vs=[.ref M,.ref g,.ref h])->(H M=some (.ins CM dm []))->(∀(b:Addr)(H':Hp),H b=none->H' M=some (.ins CM dm (ml g h 0 b))->H' b=some (.dK [])->SameBut M H H'->Q .non H')->spMInit CM vs H Q u_3
theorem zw:FnScope ["self","game","helper"] ["self","game","helper"] (ak qJ):=⟨rfl,rfl,rfl,by decide,rfl,by decide,by decide⟩
theorem Ab {f:Addr} {fd:FuncData} (F:Fun K "__init__" "Machine.__init__" qJ f fd) (T:MTxt K mg CM):FnOk P w K mg base CX0 1 f fd ["self","game","helper"] (spMInit CM):=by
 refine F.ok zw (fun vs H Q E h=>?_) (fun cdv A outer s H vs Q E hr h=>?_)
 . obtain⟨M,g,h,dm,rfl,_⟩:=h;rfl
 obtain ⟨M,g,h,dm,rfl,hM,q⟩:=h;refine⟨_,(aa (aZ (pv 0) (pv 1) rfl)
  (aa (aZ (pv 0) (pv 2) rfl)
  (aa (aZ (pv 0) ac rfl)
  (ad (aZ (pv 0) zQ rfl))))),?_⟩
 refine⟨_,rfl,_,rfl,M,CM,dm,_,rfl,hM,T.cl,T.nG,(by show 0<1000;decide),?_⟩;rw[pm1];refine⟨_,rfl,_,rfl,M,CM,dm,_,rfl,aE,T.cl,T.nH,(by show 1<1000;decide),?_⟩;rw[pm2];refine⟨_,rfl,M,CM,dm,_,rfl,aE,T.cl,T.nR,(by show 2<1000;decide),?_⟩;rw[pm3];have S3:SameBut M H (upd (upd (upd H M (.ins CM dm (m1 g))) M (.ins CM dm (m2 g h))) M (.ins CM dm (m3 g h))):=(SameBut.upd _).trans ((SameBut.upd _).trans (SameBut.upd _));have g3:upd (upd (upd H M (.ins CM dm (m1 g))) M (.ins CM dm (m2 g h))) M (.ins CM dm (m3 g h)) M=some (.ins CM dm (m3 g h)):=aE;generalize upd (upd (upd H M (.ins CM dm (m1 g))) M (.ins CM dm (m2 g h))) M (.ins CM dm (m3 g h))=H3 at S3 g3;intro b hb;have bM:b≠M:=(aJ g3 hb).symm;refine⟨_,rfl,M,CM,dm,_,rfl,by rw[av bM.symm];exact g3,T.cl,T.nB,(by show 3<1000;decide),?_⟩;rw[pm4];refine q b _ ?_ aE (by rw[av bM];exact aE) (S3.trans ((zK0 (zC0 hb _)).trans (SameBut.upd _)));cases e:H b with
 | none=>rfl
 | some o=>rw[S3 b o bM e]at hb;cases hb
def a1 (g:Addr):List (Str×V):=[("game",.ref g)]
def a2 (g:Addr) (nr:Int):List (Str×V):=[("game",.ref g),("number",.int nr)]
def a3 (g:Addr) (nr mn:Int):List (Str×V):=[("game",.ref g),("number",.int nr),("many",.int mn)]
def a4 (g:Addr) (nr mn hd:Int):List (Str×V):=[("game",.ref g),("number",.int nr),("many",.int mn),("held",.int hd)]
def a5 (g:Addr) (nr mn hd s:Int):List (Str×V):=[("game",.ref g),("number",.int nr),("many",.int mn),("held",.int hd),("s",.int s)]
def a6 (g:Addr) (nr mn hd s:Int) (aT:Addr):List (Str×V):=[("game",.ref g),("number",.int nr),("many",.int mn),("held",.int hd),("s",.int s),("tossed",.ref aT)]
section
variable {g aT:Addr} {nr mn hd s:Int}
theorem pa1:bK "game" (.ref g) []=a1 g:=by rfl'
theorem pa2:bK "number" (.int nr) (a1 g)=a2 g nr:=by rfl'
theorem pa3:bK "many" (.int mn) (a2 g nr)=a3 g nr mn:=by rfl'
theorem pa4:bK "held" (.int hd) (a3 g nr mn)=a4 g nr mn hd:=by rfl'
theorem pa5:bK "s" (.int s) (a4 g nr mn hd)=a5 g nr mn hd s:=by rfl'
theorem pa6:bK "tossed" (.ref aT) (a5 g nr mn hd s)=a6 g nr mn hd s aT:=by rfl'
theorem pa7:bK "truths" .non (a6 g nr mn hd s aT)=al g nr mn hd s aT .non:=by rfl'
end
inductive spAInit(CA:Addr)(vs:List V)(H:Hp)(Q:VK)(u_3:XK):Prop where
 | mk:∀(k dk g c:Addr)(nr mn hd s:Int)(xs:List V),(vs=[.ref k,.ref g,.int nr,.int mn,.int hd,.int s,.ref c])->(H k=some (.ins CA dk []))->((H c=some (.lst xs)∨H c=some (.tup xs)))->(∀(aT:Addr)(H':Hp),H' k=some (.ins CA dk (al g nr mn hd s aT .non))->H' aT=some (.tup xs)->SameBut k H H'->Q .non H')->spAInit CA vs H Q u_3
theorem zy:FnScope ["self","game","number","many","due","s","coins"] ["self","game","number","many","due","s","coins"] (ak qN):=⟨rfl,rfl,rfl,by decide,rfl,by decide,by decide⟩
theorem Af {f:Addr} {fd:FuncData} (F:Fun K "__init__" "Asking.__init__" qN f fd) (B:Bl mg) (T:ATxt K mg CA):FnOk P w K mg base CX0 1 f fd ["self","game","number","many","due","s","coins"] (spAInit CA):=by
 refine F.ok zy (fun vs H Q E h=>?_) (fun cdv A outer s H vs Q E hr h=>?_)
 . obtain⟨k,dk,g,c,nr,mn,hd,s,xs,rfl,_⟩:=h;rfl
 obtain ⟨k,dk,g,c,nr,mn,hd,s,xs,rfl,hk,hc,q⟩:=h;refine⟨_,(aa (aZ (pv 0) (pv 1) rfl)
  (aa (aZ (pv 0) (pv 2) rfl)
  (aa (aZ (pv 0) (pv 3) rfl)
  (aa (aZ (pv 0) (pv 4) rfl)
  (aa (aZ (pv 0) (pv 5) rfl)
  (aa (aZ (pv 0) (cg bU rfl B.tuple bV (ae (pv 6) aI)) rfl)
  (ad (aZ (pv 0) zP rfl)))))))),?_⟩
 refine⟨_,rfl,_,rfl,k,CA,dk,_,rfl,hk,T.cl,T.nG,(by show 0<1000;decide),?_⟩;rw[pa1];refine⟨_,rfl,_,rfl,k,CA,dk,_,rfl,aE,T.cl,T.nN,(by show 1<1000;decide),?_⟩;rw[pa2];refine⟨_,rfl,_,rfl,k,CA,dk,_,rfl,aE,T.cl,T.nM,(by show 2<1000;decide),?_⟩;rw[pa3];refine⟨_,rfl,_,rfl,k,CA,dk,_,rfl,aE,T.cl,T.nH,(by show 3<1000;decide),?_⟩;rw[pa4];refine⟨_,rfl,_,rfl,k,CA,dk,_,rfl,aE,T.cl,T.nS,(by show 4<1000;decide),?_⟩;rw[pa5];have S5:SameBut k H (upd (upd (upd (upd (upd H k (.ins CA dk (a1 g))) k (.ins CA dk (a2 g nr))) k (.ins CA dk (a3 g nr mn))) k (.ins CA dk (a4 g nr mn hd))) k (.ins CA dk (a5 g nr mn hd s))):=(SameBut.upd _).trans ((SameBut.upd _).trans ((SameBut.upd _).trans ((SameBut.upd _).trans (SameBut.upd _))));have g5:upd (upd (upd (upd (upd H k (.ins CA dk (a1 g))) k (.ins CA dk (a2 g nr))) k (.ins CA dk (a3 g nr mn))) k (.ins CA dk (a4 g nr mn hd))) k (.ins CA dk (a5 g nr mn hd s)) k=some (.ins CA dk (a5 g nr mn hd s)):=aE;generalize upd (upd (upd (upd (upd H k (.ins CA dk (a1 g))) k (.ins CA dk (a2 g nr))) k (.ins CA dk (a3 g nr mn))) k (.ins CA dk (a4 g nr mn hd))) k (.ins CA dk (a5 g nr mn hd s))=H5 at S5 g5;rcases hc with hc | hc
 . have hc5:=S5 _ _ (aX hc hk (by intro z;cases z)) hc;refine⟨_,rfl,c,_,rfl,.inl ⟨zG0 hc5,fun aT ha=>?_⟩⟩;have aK:aT≠k:=(aJ g5 ha).symm;refine⟨_,rfl,k,CA,dk,_,rfl,by rw[av aK.symm];exact g5,T.cl,T.nT,(by show 5<1000;decide),?_⟩;rw[pa6];refine⟨_,rfl,k,CA,dk,_,rfl,aE,T.cl,T.nR,(by show 6<1000;decide),?_⟩;rw[pa7];exact q aT _ aE (by rw[av aK,av aK];exact aE) (S5.trans ((zK0 (zC0 ha _)).trans ((SameBut.upd _).trans (SameBut.upd _))))
 . have nc:=aX hc hk (by intro z;cases z);have hc5:=S5 _ _ nc hc;refine⟨_,rfl,c,_,rfl,.inr ⟨zD0 hc5,?_⟩⟩;refine⟨_,rfl,k,CA,dk,_,rfl,g5,T.cl,T.nT,(by show 5<1000;decide),?_⟩;rw[pa6];refine⟨_,rfl,k,CA,dk,_,rfl,aE,T.cl,T.nR,(by show 6<1000;decide),?_⟩;rw[pa7];exact q c _ aE (by rw[av nc,av nc];exact hc5) (S5.trans ((SameBut.upd _).trans (SameBut.upd _)))
inductive spSay(CM CG:Addr)(vs:List V)(H:Hp)(Q:VK)(u_3:XK):Prop where
 | mk:∀(M g h b dm c:Addr)(rv:List V)(z:Ak)(rows:List Hr)(bx:Str->Int)(m:Nat),(vs=[.ref M,.int z.mn,.int z.hd,.int z.s,.ref c])->(H M=some (.ins CM dm (ml g h z.nr b)))->(H h=some (.tup rv))->(RowsAt H rv rows)->((∀r∈rows,r.good))->(BxAt H b bx m)->(gJ z.p bx)->(m<=5000)->(Gm CG H g z.ns z.ts z.p)->(AkOk z)->((H c=some (.lst (z.to.map V.int))∨H c=some (.tup (z.to.map V.int))))->(0<=z.mn)->(z.mn<=500)->(∀(l:Addr)(H':Hp),H l=none->H' l=some (.lst ((qX z.mn (jL z rows 200 ⟨0,bx,[]⟩).sd).map V.int))->BxAt H' b (jL z rows 200 ⟨0,bx,[]⟩).bx (m+200)->H' M=some (.ins CM dm (ml g h (z.nr+1) b))->But2 M b H H'->Q (.ref l) H')->spSay CM CG vs H Q u_3
theorem eZ:FnScope ["self","many","due","s","coins","asking","said","place","done"] ["self","many","due","s","coins"] (ak uQ):=⟨rfl,rfl,rfl,by decide,rfl,by decide,by decide⟩
theorem zG(k:Nat)(x:V):(List.replicate k [x]).flatten=List.replicate k x:=by
 induction k with
 | zero=>rfl
 | succ k ih=>rw[List.replicate_succ,List.flatten_cons,ih,List.replicate_succ];rfl
inductive tSayE(Dn:Ends)(σ:St)(H:Hp):Prop where
 | mk:∀(x0 x2 x3 x4 x5 x7 x8:Option V)(sd:Addr)(mn:Int)(xs:List Int),(σ=[x0,some (.int mn),x2,x3,x4,x5,some (.ref sd),x7,x8])->(H sd=some (.lst (xs.map V.int)))->(xs.length<=200)->(0<=mn)->(mn<=500)->(∀(l:Addr)(H':Hp),H l=none->Same H H'->H' l=some (.lst ((qX mn xs).map V.int))->Dn.rt (.ref l) H')->tSayE Dn σ H
theorem BT {f fA fR:Addr} {fd fdA fdR:FuncData} (F:Fun K "say" "Machine.say" uQ f fd) (B:Bl mg) (TM:MTxt K mg CM) (TA:ATxt K mg CA) (hmost:∃t,mg "MOST_ROWS_DONE"=some (.int 200 t))
 (MA:Mk K CA fA) (GA:FnOk P w K mg base CX0 1 fA fdA ["self","game","number","many","due","s","coins"] (spAInit CA)) (bA:Binds K fdA ["self","game","number","many","due","s","coins"] [])
 (mR:Meth K CM "do_row" fR) (GR:FnOk P w K mg base CX0 27 fR fdR ["self","place","said","asking"] (spRowM CM CA CG)) (bR:Binds K fdR ["self","place","said","asking"] []):FnOk P w K mg base CX0 28 f fd ["self","many","due","s","coins"] (spSay CM CG):=by
 refine F.ok eZ (fun vs H Q E h=>?_) (fun cdv A outer s H vs Q E hr h=>?_)
 . obtain⟨M,g,h,b,dm,c,rv,z,rows,bx,m,rfl,_⟩:=h;rfl
 obtain ⟨M,g,h,b,dm,c,rv,z,rows,bx,m,rfl,hM,hh,RW,rq,BX,bo,mm,GG,ok,hc,mn0,mn1,q⟩:=h;obtain⟨a',b',d',tv,G,hga,hgb,TS,hgd⟩:=GG;obtain⟨te,ge⟩:=hmost;have hr2:Room (1+1) _:=hr.mono (by decide);have hr7:Room 27 _:=hr.mono (by decide);refine⟨_,(aa (aj (i:=5) eZ.nd rfl (Or.inl rfl) (ib MA GA hr2 rfl TA.mgC bA .nil bq (ae (ay (pv 0) rfl) (ae (ay (pv 0) rfl) (ae (pv 1) (ae (pv 2) (ae (pv 3) (ae (pv 4) aI))))))))
  (aa (aZ (pv 0) (ag aO (ay (pv 0) rfl) ac) rfl)
  (aa (aj (i:=6) eZ.nd rfl (Or.inl rfl) (cf aI))
  (aa (aj (i:=7) eZ.nd rfl (Or.inl rfl) ac)
  (aa (aj (i:=8) eZ.nd rfl (Or.inl rfl) ac)
  (aa (gA PassesOwn.never (PW.pt (oa (af cJ (pv 7) (aA aC rfl B.len PySem.boot_len (ae (ay (pv 0) rfl) aI)) (ao _)) (oa (af cJ (aA aC rfl B.len PySem.boot_len (ae (pv 6) aI)) (pv 1) (ao _)) (mq (af cJ (pv 8) (cq (v:=.int 200) rfl ge ⟨_,rfl⟩) (ao _)))))) (aa (aj (i:=7) eZ.nd rfl (Or.inl rfl) (bu (pv 0) TM.cl mR GR hr7 bR .nil bq (ae (pv 7) (ae (pv 6) (ae (pv 5) aI)))))
   (ad (aj (i:=8) eZ.nd rfl (Or.inl rfl) (ag aO (pv 8) ac)))))
  (kg (t':=tSayE) (ad (am (ag lr (pv 6) (ag DG (cf (ae ac aI)) (ag aQ (pv 1) (aA aC rfl B.len PySem.boot_len (ae (pv 6) aI))))))) (by
   rintro Dn σ H ⟨x0,x2,x3,x4,x5,x7,x8,sd,mn,xs,rfl,hsd,xl,mn0,mn1,q⟩;refine⟨_,rfl,(by show 1<=sizeLine;decide),fun z hz=>?_⟩;have I1:=zC0 hz (.lst [.int 0]);have g1:upd H z (.lst [.int 0]) z=some (.lst [.int 0]):=aE;generalize upd H z (.lst [.int 0])=H1 at I1 g1;refine⟨_,rfl,_,rfl,sd,_,rfl,.inl (zG0 (I1 _ _ hsd)),_,_,rfl,rfl,?_⟩;have el:((xs.map V.int).length:Int)=(xs.length:Int):=by rw[zF0]
   refine⟨z,_,_,rfl,rfl,g1,by omega,by omega,bv (by show 1*(mn-((xs.map V.int).length:Int)).toNat<=1000;omega),fun y hy=>?_⟩;rw[zG];have I2:=zC0 hy (.lst (List.replicate (mn-((xs.map V.int).length:Int)).toNat (.int 0)));have g2:upd H1 y (.lst (List.replicate (mn-((xs.map V.int).length:Int)).toNat (.int 0))) y=some (.lst (List.replicate (mn-((xs.map V.int).length:Int)).toNat (.int 0))):=aE;generalize upd H1 y (.lst (List.replicate (mn-((xs.map V.int).length:Int)).toNat (.int 0)))=H2 at I2 g2;refine⟨sd,y,_,_,rfl,rfl,I2 _ _ (I1 _ _ hsd),g2,?_,fun l hl=>?_⟩
   . rw[List.length_replicate,zF0];exact bv (by omega)
   refine q l _ ?_ (I1.trans (I2.trans (zC0 hl _))) ?_
   . cases e:H l with
     | none=>rfl
     | some o=>rw[I2 _ _ (I1 _ _ e)]at hl;cases hl
   . rw[aE,el];unfold qX;rw[zL0,List.map_replicate])))))))),?_⟩
 refine ⟨_,rfl,M,CM,dm,_,_,rfl,hM,TM.cl,TM.nG,ml_g,_,rfl,M,CM,dm,_,_,rfl,hM,TM.cl,TM.nR,ml_r,_,rfl,_,rfl,_,rfl,_,rfl,fun k dk hk hdk nk=>?_⟩;have S1:Same H (upd (upd H dk (.own k)) k (.ins CA dk [])):=fun a o e=>by
  rw[av (aJ e hk),av (aJ e hdk)];exact e
 have g1:upd (upd H dk (.own k)) k (.ins CA dk []) k=some (.ins CA dk []):=aE;generalize upd (upd H dk (.own k)) k (.ins CA dk [])=H1 at S1 g1;refine⟨k,dk,g,c,z.nr,z.mn,z.hd,z.s,z.to.map V.int,rfl,g1,hc.imp (S1 _ _) (S1 _ _),fun aT H2 hk2 hT2 S2=>⟨rfl,?_⟩⟩;have S02:Same H H2:=Same.but S1 hk S2;clear S1 S2 g1;have hM2:=S02 _ _ hM;refine⟨_,rfl,M,CM,dm,_,_,rfl,hM2,TM.cl,TM.nR,ml_r,_,_,rfl,rfl,_,rfl,M,CM,dm,_,rfl,hM2,TM.cl,TM.nR,DO,?_⟩;rw[DN];have nMk:M≠k:=aJ hM hk;have S3:SameBut M H2 (upd H2 M (.ins CM dm (ml g h (z.nr+1) b))):=SameBut.upd _;have hM3:upd H2 M (.ins CM dm (ml g h (z.nr+1) b)) M=some (.ins CM dm (ml g h (z.nr+1) b)):=aE;generalize upd H2 M (.ins CM dm (ml g h (z.nr+1) b))=H3 at S3 hM3;refine⟨(by show 0<=sizeLine;decide),fun sd hsd=>?_⟩;have I4:=zC0 hsd (.lst []);have g4:upd H3 sd (.lst []) sd=some (.lst []):=aE;generalize upd H3 sd (.lst [])=H4 at I4 g4;have gM:g≠M:=fun e=>by
  obtain⟨dg,hg⟩:=G;rw[e,hM]at hg;cases hg
 have nbM:b≠M:=by
  obtain⟨kvs,e,_⟩:=BX;exact aX e hM (by intro z;cases z)
 have S04:SameBut M H H4:=(zK0 S02).trans (S3.trans (zK0 I4));have hM4:=I4 _ _ hM3;have kT:bL H H4:=fun c xs h=>S04 c _ (aX h hM (by intro z;cases z)) h
 have hh4:=kT _ _ hh;have RW4:=RW.mono kT;have BX4:BxAt H4 b bx m:=BX.keep fun o e=>S04 b o nbM e
 have G4:GameAt CG H4 g a' b' d' z.p:=by
  obtain⟨dg,hg⟩:=G;exact⟨dg,S04 _ _ gM hg⟩
 have hT4:H4 aT=some (.tup (z.to.map V.int)):=I4 _ _ (S3 _ _ (aX hT2 hM2 (by intro z;cases z)) hT2);have hgd4:=S04 _ _ (aX hgd hM (by intro z;cases z)) hgd;have nds:d'≠sd:=aJ (S3 _ _ (aX hgd hM (by intro z;cases z)) (S02 _ _ hgd)) hsd;have hk4:=I4 _ _ (S3 _ _ nMk.symm hk2);have b4:∃kvs,H4 b=some (.dK kvs):=by
  obtain⟨kvs,e,_⟩:=BX4;exact⟨kvs,e⟩
 obtain⟨kv4,hb4⟩:=b4;have nbs:b≠sd:=aX hb4 g4 (by intro z;cases z);have nhb:h≠b:=aX hh4 hb4 (by intro z;cases z);have nhs:h≠sd:=aX hh4 g4 (by intro z;cases z);have nMs:M≠sd:=aX hM4 g4 (by intro z;cases z);have nkb:k≠b:=aX hk4 hb4 (by intro z;cases z);have nks:k≠sd:=aX hk4 g4 (by intro z;cases z);have AK4:AkAt CA CG H4 k g sd z:=⟨dk,aT,a',b',d',tv,.non,hk4,G4,kT _ _ hga,kT _ _ hgb,TS.mono kT,hgd4,nds,hT4,.inl rfl⟩
 have sd0:H sd=none:=by
  cases e:H sd with
  | none=>rfl
  | some o=>rw[S3 _ _ nMs.symm (S02 _ _ e)]at hsd;cases hsd
 refine ⟨fun mm σ H'=>∃(st:MS)(d:Nat),σ=[some (.ref M),some (.int z.mn),some (.int z.hd),some (.int z.s),some (.ref c),some (.ref k),some (.ref sd),some (.int st.pl),some (.int (d:Int))]/\d<=200/\mm=200-d/\0<=st.pl/\st.sd.length<=d/\jL z rows (200-d) st=jL z rows 200 ⟨0,bx,[]⟩/\H' sd=some (.lst (st.sd.map V.int))/\BxAt H' b st.bx (m+d)/\gJ z.p st.bx/\eM st.sd z.p/\AkAt CA CG H' k g sd z/\But3 b sd k H4 H',
  ⟨_,⟨0,bx,[]⟩,0,rfl,zW0 _,rfl,Int.le_refl 0,zH0 _,rfl,g4,BX4,bo,(fun x hx=>by cases hx),AK4,fun _ _ _ _ _ e=>e⟩,?_⟩
 rintro mm σ H' ⟨st,d,rfl,d2,rfl,st0,sl,hrun,hsd',BX',bo',so',AK',S'⟩;have hM':=S' _ _ nbM.symm nMs nMk hM4;have hh':=S' _ _ nhb nhs (aX hh4 hk4 (by intro z;cases z)) hh4;have kT':bL H4 H':=fun c xs h=>S' c _ (aX h hb4 (by intro z;cases z)) (aX h g4 (by intro z;cases z)) (aX h hk4 (by intro z;cases z)) h
 have RW':=RW4.mono kT';have fin:jL z rows (200-d) st=st->∀(l:Addr)(H5:Hp),H' l=none->Same H' H5->H5 l=some (.lst ((qX z.mn st.sd).map V.int))->Q (.ref l) H5:=fun er l H5 l0 S5 hl=>by
  rw[er]at hrun;rw[←hrun]at q;refine q l H5 ?_ hl ((BX'.keep fun o e=>S5 b o e).le (by omega)) (S5 _ _ hM') (fun a o h1 h2 e=>?_)
  . cases e:H l with
    | none=>rfl
    | some o=>
      have lM:l≠M:=fun z=>by rw[z,hM']at l0;cases l0
      have lb:l≠b:=fun z=>by
       obtain⟨kvs,e',_⟩:=BX';rw[z,e']at l0;cases l0
      have ls:l≠sd:=fun z=>by rw[z,hsd']at l0;cases l0
      rw[S' _ _ lb ls (aJ e hk) (S04 _ _ lM e)]at l0;cases l0
  . exact S5 _ _ (S' _ _ h2 (aJ e sd0) (aJ e hk) (S04 _ _ h1 e))
 refine⟨_,rfl,_,rfl,M,CM,dm,_,_,rfl,hM',TM.cl,TM.nH,DP,h,_,rfl,.inr (zD0 hh'),_,_,rfl,rfl,_,rfl,?_⟩;rw[RW.1]
 by_cases c1:st.pl<(rows.length:Int)
 . refine aS c1 ?_;refine⟨_,rfl,sd,_,rfl,.inl (zG0 hsd'),_,rfl,_,_,rfl,rfl,_,rfl,?_⟩;rw[zF0]
   by_cases c2:(st.sd.length:Int)<z.mn
   . refine aS c2 ?_;refine⟨_,rfl,_,_,rfl,rfl,_,rfl,?_⟩
     by_cases c3:d<200
     . refine aS (by omega) ?_;refine⟨_,fun _ _ h=>h,?_⟩;refine⟨_,rfl,M,dm,_,rfl,hM',ml_n1,_,rfl,_,rfl,_,rfl,M,g,h,b,dm,k,sd,rv,_,st.pl,z,rows,st.bx,m+d,st.sd,rfl,hM',nMk,hh',RW',rq,st0,c1,BX',bo',by omega,hsd',by omega,AK',ok,fun H6 hs6 BX6 A6 S6=>?_⟩;refine⟨_,rfl,_,_,rfl,rfl,?_⟩;refine⟨_,(show 200-(d+1)<200-d by omega),dC z rows st,d+1,rfl,c3,rfl,yY rq st0,zO0 sw (Nat.succ_le_succ sl),?_,hs6,BX6,(mZ ok bo' so').1,(mZ ok bo' so').2,A6,S'.trans S6⟩;rw[←hrun,show 200-d=(200-(d+1))+1 by omega];exact(zE0 ⟨c1,c2⟩).symm
     . refine au (by omega) ?_;have ed:200-d=0:=by omega
       exact⟨_,_,_,_,_,_,_,sd,z.mn,st.sd,rfl,hsd',by omega,mn0,mn1,fin (by rw[ed];rfl)⟩
   . refine au c2 (cb ?_);refine⟨_,_,_,_,_,_,_,sd,z.mn,st.sd,rfl,hsd',by omega,mn0,mn1,fin ?_⟩;cases 200-d with
     | zero=>rfl
     | succ n=>exact zB0 (fun z=>c2 z.2)
 . refine au c1 (cb ?_);refine⟨_,_,_,_,_,_,_,sd,z.mn,st.sd,rfl,hsd',by omega,mn0,mn1,fin ?_⟩;cases 200-d with
   | zero=>rfl
   | succ n=>exact zB0 (fun z=>c1 z.1)
end
section
variable {CM CA CG:Addr}
def HlpAt(H:Hp)(h:Addr)(rows:List Hr):Prop:=(∃rv,H h=some (.tup rv)/\RowsAt H rv rows)/\∀r∈rows,r.good
theorem HlpAt.mono{H H':Hp}{h:Addr}{rows:List Hr}(x:HlpAt H h rows)(k:bL H H'):HlpAt H' h rows:=by
 obtain⟨⟨rv,e,R⟩,g⟩:=x;exact⟨⟨rv,k _ _ e,R.mono k⟩,g⟩
def StayO:HO->Prop
 | .dK _=>False
 | .ins _ _ fs=>fs.lookup ("game":Str)=none
 | _=>True
def Kp(H H':Hp):Prop:=∀a o,StayO o->H a=some o->H' a=some o
theorem Kp.of{H H':Hp}(s:Same H H'):Kp H H':=fun a o _ e=>s a o e
theorem Kp.T{H H':Hp}(x:Kp H H'):bL H H':=fun a xs e=>x a _ trivial e
theorem Gm.kp{H H':Hp}{g:Addr}{ns:List Str}{ts:List Tr}{p:Int}(h:Gm CG H g ns ts p)(x:Kp H H'):Gm CG H' g ns ts p:=by
 obtain⟨a,b,d,tv,⟨dx,h1⟩,h2,h3,h4,h5⟩:=h;exact⟨a,b,d,tv,⟨dx,x _ _ (Cq ..) h1⟩,x.T _ _ h2,x.T _ _ h3,h4.mono x.T,x _ _ trivial h5⟩
end
abbrev qH:Stmt:=bJ uP 0
abbrev qI:Stmt:=bJ uP 1
abbrev zz:Stmt:=bJ uP 2
section
variable {CM CA CG CS:Addr}
structure STxt(K:W.Frag)(mg:Str->Option Value)(C:Addr):Prop where
 cl:Cls K C
 nF:NoAttr K C "field"
 nM:NoAttr K C "machine"
 nH:NoAttr K C "held"
 nS:NoAttr K C "said"
 mgC:mg "Side"=some (.ref C)
def s1 (p:Int):List (Str×V):=[("field",.int p)]
def s2 (p:Int) (M:Addr):List (Str×V):=[("field",.int p),("machine",.ref M)]
def s3 (p:Int) (M:Addr) (v:Int):List (Str×V):=[("field",.int p),("machine",.ref M),("held",.int v)]
def sl (p:Int) (M:Addr) (v:Int) (l:Addr):List (Str×V):=[("field",.int p),("machine",.ref M),("held",.int v),("said",.ref l)]
section
variable {p v v':Int} {M l l':Addr}
theorem ps1:bK "field" (.int p) []=s1 p:=by rfl'
theorem ps2:bK "machine" (.ref M) (s1 p)=s2 p M:=by rfl'
theorem ps3:bK "held" (.int v) (s2 p M)=s3 p M v:=by rfl'
theorem ps4:bK "said" (.ref l) (s3 p M v)=sl p M v l:=by rfl'
theorem psh:bK "held" (.int v') (sl p M v l)=sl p M v' l:=by rfl'
theorem pss':bK "said" (.ref l') (sl p M v l)=sl p M v l':=by rfl'
theorem s2_m:(s2 p M).lookup ("machine":Str)=some (.ref M):=by rfl'
theorem sl_f:(sl p M v l).lookup ("field":Str)=some (.int p):=by rfl'
theorem sl_m:(sl p M v l).lookup ("machine":Str)=some (.ref M):=by rfl'
theorem qy:(sl p M v l).lookup ("held":Str)=some (.int v):=by rfl'
theorem zm:(sl p M v l).lookup ("said":Str)=some (.ref l):=by rfl'
theorem CL:(sl p M v l).lookup ("adds_up":Str)=none:=by rfl'
theorem CK:(sl p M v l).lookup ("go_way":Str)=none:=by rfl'
end
noncomputable def cT(z:Ak)(rows:List Hr)(bx:Str->Int):List Int:=qX z.mn (jL z rows 200 ⟨0,bx,[]⟩).sd
noncomputable def bxA(z:Ak)(rows:List Hr)(bx:Str->Int):Str->Int:=(jL z rows 200 ⟨0,bx,[]⟩).bx
theorem eV{z:Ak}{rows:List Hr}{bx:Str->Int}(k:AkOk z)(bo:gJ z.p bx)(h0:0<=z.mn):eM (cT z rows bx) z.p/\((cT z rows bx).length:Int)=z.mn/\gJ z.p (bxA z rows bx):=by
 have h:=wz (rows:=rows) k 200 ⟨0,bx,[]⟩ bo (fun x hx=>by cases hx) (by show(0:Int)<=z.mn;exact h0);refine⟨fun x hx=>?_,?_,h.1⟩
 . unfold cT qX at hx;rcases qD0 hx with hx | hx
   . exact h.2.1 x hx
   . rw [(List.mem_replicate.mp hx).2]
     have:=k.gk.p2
     exact⟨Int.le_refl 0,by omega⟩
 . unfold cT qX;rw[zJ0,List.length_replicate]
   have:=h.2.2
   omega
theorem SameBut.free{S a:Addr}{H H':Hp}(s:SameBut S H H')(h:H' a=none)(n:a≠S):H a=none:=by
 cases e:H a with
 | none=>rfl
 | some o=>rw[s _ _ n e]at h;cases h
theorem qc{S C d:Addr}{H H':Hp}{fs:List (Str×V)}(hS:H S=some (.ins C d fs))(s:SameBut S H H'):bL H H':=fun a xs e=>s _ _ (aX e hS (by intro z;cases z)) e
theorem Gm.sb{S C d:Addr}{H H':Hp}{fs:List (Str×V)}{g:Addr}{ns:List Str}{ts:List Tr}{p:Int}(x:Gm CG H g ns ts p)(n:g≠S)(hS:H S=some (.ins C d fs))(s:SameBut S H H'):Gm CG H' g ns ts p:=by
 obtain⟨a,b,d,tv,⟨dx,h1⟩,h2,h3,h4,h5⟩:=x;have kT:=qc hS s;exact⟨a,b,d,tv,⟨dx,s _ _ n h1⟩,kT _ _ h2,kT _ _ h3,h4.mono kT,s _ _ (aX h5 hS (by intro z;cases z)) h5⟩
inductive spSInit(CS CM CG:Addr)(vs:List V)(H:Hp)(Q:VK)(u_3:XK):Prop where
 | mk:∀(S ds g h:Addr)(ns:List Str)(ts:List Tr)(p:Int)(rows:List Hr),(vs=[.ref S,.ref g,.ref h])->(H S=some (.ins CS ds []))->(Gm CG H g ns ts p)->(GmK ns ts p)->(ns.length<=6)->(HlpAt H h rows)->(∀(M dm b l:Addr)(v:Int)(H':Hp),H M=none->H b=none->H l=none->H' S=some (.ins CS ds (sl p M v l))->H' M=some (.ins CM dm (ml g h 1 b))->BxAt H' b (bxA ⟨ns,ts,p,0,1,0,0,[]⟩ rows (fun _=>0)) 200->cT ⟨ns,ts,p,0,1,0,0,[]⟩ rows (fun _=>0)=[v]->H' l=some (.lst [])->SameBut S H H'->Q .non H')->spSInit CS CM CG vs H Q u_3
theorem zu:FnScope ["self","game","helper"] ["self","game","helper"] (ak qH):=⟨rfl,rfl,rfl,by decide,rfl,by decide,by decide⟩
theorem zZ {f fM fS:Addr} {fd fdM fdS:FuncData} (F:Fun K "__init__" "Side.__init__" qH f fd) (T:STxt K mg CS) (TM:MTxt K mg CM) (TG:GTxt K mg CG) (MM:Mk K CM fM) (GM:FnOk P w K mg base CX0 1 fM fdM ["self","game","helper"] (spMInit CM)) (bM:Binds K fdM ["self","game","helper"] []) (mS:Meth K CM "say" fS) (GS:FnOk P w K mg base CX0 28 fS fdS ["self","many","due","s","coins"] (spSay CM CG)) (bS:Binds K fdS ["self","many","due","s","coins"] []):FnOk P w K mg base CX0 29 f fd ["self","game","helper"] (spSInit CS CM CG):=by
 refine F.ok zu (fun vs H Q E h=>?_) (fun cdv A outer s H vs Q E hr h=>?_)
 . obtain⟨S,ds,g,h,ns,ts,p,rows,rfl,_⟩:=h;rfl
 obtain ⟨S,ds,g,h,ns,ts,p,rows,rfl,hS,GG,k,n6,HL,q⟩:=h;have hr2:Room (1+1) _:=hr.mono (by decide);have hr28:Room 28 _:=hr.mono (by decide);refine⟨_,(aa (aZ (pv 0) (ay (pv 1) rfl) rfl)
  (aa (aZ (pv 0) (ib MM GM hr2 rfl TM.mgC bM .nil bq (ae (pv 1) (ae (pv 2) aI))) rfl)
  (aa (aZ (pv 0) (aD ix_list (bu (ay (pv 0) rfl) TM.cl mS GS hr28 bS .nil bq (ae ac (ae ac (ae ac (ae (cf aI) aI))))) ac (fun _ _=>rfl)) rfl)
  (ad (aZ (pv 0) (cf aI) rfl))))),?_⟩
 have p2:=k.p2;obtain⟨a',b',d',tv,⟨dx,h1⟩,_⟩:=id GG;have gS:g≠S:=fun z=>by
  rw[z,hS]at h1
  have:=congrArg (fun o=>match o with | some (HO.ins _ _ fs)=>fs.length | _=>0) h1
  cases this
 refine ⟨_,rfl,g,CG,dx,_,_,rfl,h1,TG.cl,TG.nF,jy ..,_,rfl,S,CS,ds,_,rfl,hS,T.cl,T.nF,(by show 0<1000;decide),?_⟩;rw[ps1];have B1:SameBut S H (upd H S (.ins CS ds (s1 p))):=SameBut.upd _;have e1:upd H S (.ins CS ds (s1 p)) S=some (.ins CS ds (s1 p)):=aE;show xm _ _ _ _ (upd H S (.ins CS ds (s1 p)));generalize upd H S (.ins CS ds (s1 p))=H1 at B1 e1;refine⟨_,rfl,_,rfl,fun M dm hM0 hdm0 nM=>?_⟩;have K2:Same H1 (upd (upd H1 dm (.own M)) M (.ins CM dm [])):=fun a o e=>by
  rw[av (aJ e hM0),av (aJ e hdm0)];exact e
 have g2:upd (upd H1 dm (.own M)) M (.ins CM dm []) M=some (.ins CM dm []):=aE;generalize upd (upd H1 dm (.own M)) M (.ins CM dm [])=H2 at K2 g2;refine⟨M,g,h,dm,rfl,g2,fun b H3 hb0 hM3 hb3 S3=>⟨rfl,?_⟩⟩;have T13:Same H1 H3:=Same.but K2 hM0 S3;have MS:M≠S:=(aJ e1 hM0).symm;have bS':b≠S:=(aJ (K2 _ _ e1) hb0).symm;refine⟨_,rfl,S,CS,ds,_,rfl,T13 _ _ e1,T.cl,T.nM,(by show 1<1000;decide),?_⟩;rw[ps2];have B4:SameBut S H (upd H3 S (.ins CS ds (s2 p M))):=fun a o n e=>by
  rw[av n];exact T13 _ _ (B1 _ _ n e)
 have e4:upd H3 S (.ins CS ds (s2 p M)) S=some (.ins CS ds (s2 p M)):=aE;have hM4:upd H3 S (.ins CS ds (s2 p M)) M=some (.ins CM dm (ml g h 0 b)):=by rw[av MS];exact hM3
 have hb4:upd H3 S (.ins CS ds (s2 p M)) b=some (.dK []):=by rw[av bS'];exact hb3
 show xm _ _ _ _ (upd H3 S (.ins CS ds (s2 p M)));generalize upd H3 S (.ins CS ds (s2 p M))=H4 at B4 e4 hM4 hb4;refine⟨_,rfl,S,CS,ds,_,_,rfl,e4,T.cl,T.nM,s2_m,M,dm,_,rfl,hM4,As,(by show 0<=sizeLine;decide),fun c hc=>?_⟩;have I5:=zC0 hc (.lst []);have g5:upd H4 c (.lst []) c=some (.lst (([]:List Int).map V.int)):=aE;generalize upd H4 c (.lst [])=H5 at I5 g5;obtain⟨⟨rv,hh,RW⟩,rg⟩:=(HL.mono (qc hS B4)).mono (aV I5);obtain⟨z,ez⟩:∃z:Ak,z=⟨ns,ts,p,0,1,0,0,[]⟩:=⟨_,rfl⟩
 have zok:AkOk z:=by
  subst ez;exact⟨k,n6,Int.le_refl 0,(fun h=>absurd h (by show ¬ (0:Int)<0;decide)),(fun x hx=>by cases hx),Int.le_refl 0,(by show(0:Int)<p;omega),Int.le_refl 0,(by show(0:Int)<p;omega),by show 0<=100;decide⟩
 have bo:gJ z.p (fun _=>0):=by
  subst ez;exact fun x=>⟨Int.le_refl 0,by show(0:Int)<p;omega⟩
 have so:=eV (rows:=rows) zok bo (by rw[ez];show(0:Int)<=1;decide);rw[←ez]at q;refine⟨M,g,h,b,dm,c,rv,z,rows,fun _=>0,0,(by rw[ez];rfl),(by rw[ez];exact I5 _ _ hM4),hh,RW,rg,⟨[],I5 _ _ hb4,zH0 _,fun x=>rfl⟩,bo,by decide,(by rw[ez];exact(GG.sb gS hS B4).kp (Kp.of I5)),zok,.inl (by rw[ez];exact g5),(by rw[ez];show(0:Int)<=1;decide),(by rw[ez];show(1:Int)<=500;decide),fun l1 H6 l10 hl1 BX6 hM6 S6=>?_⟩;have hl1':H6 l1=some (.lst ((cT z rows (fun _=>0)).map V.int)):=hl1;have BX6':BxAt H6 b (bxA z rows (fun _=>0)) 200:=BX6.le (by omega);have sl1:(cT z rows (fun _=>0)).length=1:=by
  have h1:=so.2.1;rw[show z.mn=1 by rw[ez]]at h1;omega
 obtain ⟨v,ev⟩:∃v,cT z rows (fun _=>0)=[v]:=by
  match cT z rows (fun _=>0),sl1 with
  | [v],_=>exact⟨v,rfl⟩
 rw[ev]at hl1';have hM6':H6 M=some (.ins CM dm (ml g h 1 b)):=by rw[ez]at hM6;exact hM6
 have e6:=S6 _ _ MS.symm bS'.symm (I5 _ _ e4);refine⟨l1,_,0,.int v,rfl,rfl,zG0 hl1',rfl,_,rfl,S,CS,ds,_,rfl,e6,T.cl,T.nH,(by show 2<1000;decide),?_⟩;rw[ps3];have B7:SameBut S H6 (upd H6 S (.ins CS ds (s3 p M v))):=SameBut.upd _;have e7:upd H6 S (.ins CS ds (s3 p M v)) S=some (.ins CS ds (s3 p M v)):=aE;generalize upd H6 S (.ins CS ds (s3 p M v))=H7 at B7 e7;refine⟨(by show 0<=sizeLine;decide),fun l hl=>?_⟩;have I8:=zC0 hl (.lst []);have g8:upd H7 l (.lst []) l=some (.lst []):=aE;have lS:l≠S:=(aJ e7 hl).symm;have H0:∀{x:Addr},x≠S->H7 x=none->H x=none:=fun n e=>by
  cases eh:H _ with
  | none=>rfl
  | some o=>
    have e3:=T13 _ _ (B1 _ _ n eh);rw[B7 _ _ n (S6 _ _ (fun z=>by rw[z]at eh;rw[B1 _ _ MS eh]at hM0;cases hM0) (fun z=>by rw[z]at eh;rw[K2 _ _ (B1 _ _ bS' eh)]at hb0;cases hb0) (I5 _ _ (B4 _ _ n eh)))]at e;cases e
 generalize upd H7 l (.lst [])=H8 at I8 g8;refine⟨_,rfl,S,CS,ds,_,rfl,I8 _ _ e7,T.cl,T.nS,(by show 3<1000;decide),?_⟩;rw[ps4];have lM:l≠M:=fun z=>by rw[z,B7 _ _ MS hM6']at hl;cases hl
 have M0:H M=none:=SameBut.free B1 hM0 MS;have b0:H b=none:=SameBut.free B1 (K2.free hb0) bS';refine q M dm b l v _ M0 b0 (H0 lS hl) aE (by rw[av MS];exact I8 _ _ (B7 _ _ MS hM6')) ?_ ev (by rw[av lS];exact g8) (fun a o n e=>?_)
 . exact BX6'.keep fun o e=>by rw[av bS'];exact I8 _ _ (B7 _ _ bS' e)
 . rw[av n];exact I8 _ _ (B7 _ _ n (S6 _ _ (fun z=>by rw[z,M0]at e;cases e) (fun z=>by rw[z,b0]at e;cases e) (I5 _ _ (B4 _ _ n e))))
end
section
variable {CM CA CG CS:Addr}
def But3s(S M b:Addr)(H H':Hp):Prop:=∀a o,a≠S->a≠M->a≠b->H a=some o->H' a=some o
inductive spAdds(CS CM CG:Addr)(vs:List V)(H:Hp)(Q:VK)(u_3:XK):Prop where
 | mk:∀(S ds g h M dm b l w:Addr)(ns:List Str)(ts:List Tr)(p n v:Int)(rows:List Hr)(bx:Str->Int)(m:Nat)(ws:List Int),(vs=[.ref S,.ref w])->(H S=some (.ins CS ds (sl p M v l)))->(H M=some (.ins CM dm (ml g h n b)))->(HlpAt H h rows)->(BxAt H b bx m)->(m<=4000)->(gJ p bx)->(Gm CG H g ns ts p)->(H w=some (.tup (ws.map V.int)))->(S≠M)->(AkOk ⟨ns,ts,p,n,2,v,0,ws⟩)->(∀(x0 x1:Int)(l':Addr)(H':Hp),cT ⟨ns,ts,p,n,2,v,0,ws⟩ rows bx=[x0,x1]->H l'=none->H' S=some (.ins CS ds (sl p M v l'))->H' l'=some (.lst [.int x0,.int x1])->H' M=some (.ins CM dm (ml g h (n+1) b))->BxAt H' b (bxA ⟨ns,ts,p,n,2,v,0,ws⟩ rows bx) (m+200)->But3s S M b H H'->Q (.bl (decide ((x0+x1) % p=v))) H')->spAdds CS CM CG vs H Q u_3
theorem zv:FnScope ["self","ways"] ["self","ways"] (ak qI):=⟨rfl,rfl,rfl,by decide,rfl,by decide,by decide⟩
theorem Aa {f fS:Addr} {fd fdS:FuncData} (F:Fun K "adds_up" "Side.adds_up" qI f fd) (B:Bl mg) (T:STxt K mg CS) (TM:MTxt K mg CM) (mS:Meth K CM "say" fS) (GS:FnOk P w K mg base CX0 28 fS fdS ["self","many","due","s","coins"] (spSay CM CG)) (bS:Binds K fdS ["self","many","due","s","coins"] []):FnOk P w K mg base CX0 29 f fd ["self","ways"] (spAdds CS CM CG):=by
 refine F.ok zv (fun vs H Q E h=>?_) (fun cdv A outer s H vs Q E hr h=>?_)
 . obtain⟨S,ds,g,h,M,dm,b,l,w,ns,ts,p,n,v,rows,bx,m,ws,rfl,_⟩:=h;rfl
 obtain ⟨S,ds,g,h,M,dm,b,l,w,ns,ts,p,n,v,rows,bx,m,ws,rfl,hS,hM,HL,BX,m4,bo,GG,hw,SM,zok,q⟩:=h;have hr28:Room 28 _:=hr.mono (by decide);refine⟨_,(aa (aZ (pv 0) (bu (ay (pv 0) rfl) TM.cl mS GS hr28 bS .nil bq (ae ac (ae (ay (pv 0) rfl) (ae ac (ae (cg rS rfl B.list pf (ae (pv 1) aI)) aI))))) rfl)
  (ad (am (cG aH (ag aN (ag aO (aD ix_list (ay (pv 0) rfl) ac (fun _ _=>rfl)) (aD ix_list (ay (pv 0) rfl) ac (fun _ _=>rfl))) (ay (pv 0) rfl)) (ay (pv 0) rfl) (ao _))))),?_⟩
 have p2:=zok.gk.p2;have so:=eV (rows:=rows) zok bo (by show(0:Int)<=2;decide);generalize ez:(⟨ns,ts,p,n,2,v,0,ws⟩:Ak)=z at q zok so;have p2:2<p:=by
  have:=zok.gk.p2
  rw[←ez]at this;exact this
 refine⟨_,rfl,S,CS,ds,_,_,rfl,hS,T.cl,T.nM,sl_m,M,dm,_,rfl,hM,As,_,rfl,S,CS,ds,_,_,rfl,hS,T.cl,T.nH,qy,_,rfl,w,_,rfl,.inr (zD0 hw),fun c hc=>?_⟩;have I1:=zC0 hc (.lst (ws.map V.int));have g1:upd H c (.lst (ws.map V.int)) c=some (.lst (ws.map V.int)):=aE;generalize upd H c (.lst (ws.map V.int))=H1 at I1 g1;obtain⟨⟨rv,hh,RW⟩,rg⟩:=HL.mono (aV I1);have BX1:=BX.keep fun o e=>I1 _ _ e
 refine ⟨M,g,h,b,dm,c,rv,z,rows,bx,m,(by rw[←ez];rfl),(by rw[←ez];exact I1 _ _ hM),hh,RW,rg,BX1,(by rw[←ez];exact bo),by omega,(by rw[←ez];exact GG.kp (Kp.of I1)),zok,.inl (by rw[←ez];exact g1),(by rw[←ez];show(0:Int)<=2;decide),(by rw[←ez];show(2:Int)<=500;decide),fun l1 H2 l10 hl1 BX2 hM2 S2=>?_⟩;have hl1':H2 l1=some (.lst ((cT z rows bx).map V.int)):=hl1;have BX2':BxAt H2 b (bxA z rows bx) (m+200):=BX2;have sl2:(cT z rows bx).length=2:=by
  have h1:=so.2.1;rw[←ez]at h1 ⊢;have h2:((cT ⟨ns,ts,p,n,2,v,0,ws⟩ rows bx).length:Int)=2:=h1;omega
 obtain ⟨x0,x1,ev⟩:∃x0 x1,cT z rows bx=[x0,x1]:=by
  match cT z rows bx,sl2 with
  | [x0,x1],_=>exact⟨x0,x1,rfl⟩
 rw[ev]at hl1';have hM2':H2 M=some (.ins CM dm (ml g h (n+1) b)):=by rw[←ez]at hM2;exact hM2
 obtain⟨kvs,eb,_⟩:=id BX;have Sb:S≠b:=aX hS eb (by intro z;cases z);have e2:=S2 _ _ SM Sb (I1 _ _ hS);refine⟨_,rfl,S,CS,ds,_,rfl,e2,T.cl,T.nS,(by show 4<1000;decide),?_⟩;rw[pss'];have e3:upd H2 S (.ins CS ds (sl p M v l1)) S=some (.ins CS ds (sl p M v l1)):=aE;have B3:SameBut S H2 (upd H2 S (.ins CS ds (sl p M v l1))):=SameBut.upd _;have l1S:l1≠S:=fun z=>by rw[z,I1 _ _ hS]at l10;cases l10
 generalize upd H2 S (.ins CS ds (sl p M v l1))=H3 at e3 B3;have hl3:=B3 _ _ l1S hl1';refine⟨_,rfl,S,CS,ds,_,_,rfl,e3,T.cl,T.nS,zm,l1,_,0,.int x0,rfl,rfl,zG0 hl3,rfl,_,rfl,S,CS,ds,_,_,rfl,e3,T.cl,T.nS,zm,l1,_,1,.int x1,rfl,rfl,zG0 hl3,rfl,_,_,rfl,rfl,?_⟩;refine⟨_,rfl,S,CS,ds,_,_,rfl,e3,T.cl,T.nF,sl_f,_,_,rfl,rfl,(by show 0<p;omega),?_⟩;refine⟨_,rfl,S,CS,ds,_,_,rfl,e3,T.cl,T.nH,qy,rfl,?_⟩;have fin:=q x0 x1 l1 H3 ev (I1.free l10) e3 hl3 (B3 _ _ SM.symm hM2') (BX2'.keep fun o e=>B3 _ _ Sb.symm e) (fun a o n1 n2 n3 e=>B3 _ _ n1 (S2 _ _ n2 n3 (I1 _ _ e)));have ed:decide (V.int ((x0+x1) % p)=V.int v)=decide ((x0+x1) % p=v):=by
  by_cases c:(x0+x1) % p=v
  . rw[decide_eq_true c,decide_eq_true (congrArg V.int c)]
  . rw[decide_eq_false c,decide_eq_false (fun z=>c (V.int.inj z))]
 show Q (.bl (decide (V.int ((x0+x1) % p)=V.int v))) H3;rw[ed];exact fin
inductive spGo(CS:Addr)(vs:List V)(H:Hp)(Q:VK)(u_3:XK):Prop where
 | mk:∀(S ds M l:Addr)(p v x0 x1 wy:Int),(vs=[.ref S,.int wy])->(H S=some (.ins CS ds (sl p M v l)))->(H l=some (.lst [.int x0,.int x1]))->((wy=0∨wy=1))->(∀H',H' S=some (.ins CS ds (sl p M (if wy=0 then x0 else x1) l))->SameBut S H H'->Q .non H')->spGo CS vs H Q u_3
theorem Dv:FnScope ["self","way"] ["self","way"] (ak zz):=⟨rfl,rfl,rfl,by decide,rfl,by decide,by decide⟩
theorem DJ {f:Addr} {fd:FuncData} (F:Fun K "go_way" "Side.go_way" zz f fd) (T:STxt K mg CS):FnOk P w K mg base CX0 1 f fd ["self","way"] (spGo CS):=by
 refine F.ok Dv (fun vs H Q E h=>?_) (fun cdv A outer s H vs Q E hr h=>?_)
 . obtain⟨S,ds,M,l,p,v,x0,x1,wy,rfl,_⟩:=h;rfl
 obtain ⟨S,ds,M,l,p,v,x0,x1,wy,rfl,hS,hl,hw,q⟩:=h;refine⟨_,(ad (aZ (pv 0) (aD ix_list (ay (pv 0) rfl) (pv 1) (fun _ _=>rfl)) rfl)),?_⟩;have at_:atI [V.int x0,.int x1] wy=some (.int (if wy=0 then x0 else x1)):=by
  rcases hw with rfl | rfl <;> rfl
 refine⟨_,rfl,S,CS,ds,_,_,rfl,hS,T.cl,T.nS,zm,_,rfl,l,_,wy,_,rfl,rfl,zG0 hl,at_,_,rfl,S,CS,ds,_,rfl,hS,T.cl,T.nH,(by show 4<1000;decide),?_⟩;rw[psh];exact q _ aE (SameBut.upd _)
inductive spWay(CS:Addr)(vs:List V)(H:Hp)(Q:VK)(u_3:XK):Prop where
 | mk:∀(S ds M l S' ds' M' l':Addr)(p v x0 x1 p' v' y0 y1:Int),(vs=[.ref S,.ref S'])->(H S=some (.ins CS ds (sl p M v l)))->(H l=some (.lst [.int x0,.int x1]))->(H S'=some (.ins CS ds' (sl p' M' v' l')))->(H l'=some (.lst [.int y0,.int y1]))->(Q (.int (if x0=y0 then 1 else 0)) H)->spWay CS vs H Q u_3
theorem nq:FnScope ["first","second"] ["first","second"] (ak gi):=⟨rfl,rfl,rfl,by decide,rfl,by decide,by decide⟩
theorem oB {f:Addr} {fd:FuncData} (F:Fun K "way_between" "way_between" gi f fd) (T:STxt K mg CS):FnOk P w K mg base CX0 1 f fd ["first","second"] (spWay CS):=by
 refine F.ok nq (fun vs H Q E h=>?_) (fun cdv A outer s H vs Q E hr h=>?_)
 . obtain⟨S,ds,M,l,S',ds',M',l',p,v,x0,x1,p',v',y0,y1,rfl,_⟩:=h;rfl
 obtain⟨S,ds,M,l,S',ds',M',l',p,v,x0,x1,p',v',y0,y1,rfl,hS,hl,hS',hl',q⟩:=h;refine⟨_,(ad (am (ko (af jw (aD ix_list (ay (pv 0) rfl) ac (fun _ _=>rfl)) (aD ix_list (ay (pv 1) rfl) ac (fun _ _=>rfl)) (ao _)) ac ac))),?_⟩;refine⟨_,rfl,S,CS,ds,_,_,rfl,hS,T.cl,T.nS,zm,l,_,0,.int x0,rfl,rfl,zG0 hl,rfl,_,rfl,S',CS,ds',_,_,rfl,hS',T.cl,T.nS,zm,l',_,0,.int y0,rfl,rfl,zG0 hl',rfl,rfl,_,rfl,?_⟩
 by_cases c:x0=y0
 . refine iteNE (congrArg V.int c) ?_;rw[zE0 c]at q;exact q
 . refine DY (fun z=>c (V.int.inj z)) ?_;rw[zB0 c]at q;exact q
end
section
variable {CM CA CG CS:Addr}
inductive Oc where
 | agr (v:Int)
 | cau (a b:Bool) (ws:List Int)
def OcAt(H:Hp)(a:Addr):Oc->Prop
 | .agr v=>H a=some (.tup [.str "agreed",.int v])
 | .cau x y ws=>∃t,H a=some (.tup [.str "caught",.bl x,.bl y,.ref t])/\H t=some (.tup (ws.map V.int))
structure Gv where
 ns:List Str
 ts:List Tr
 p:Int
abbrev Gv.z(G:Gv)(n mn hd:Int)(ws:List Int):Ak:=⟨G.ns,G.ts,G.p,n,mn,hd,0,ws⟩
def g0(xs:List Int):Int:=xs.getD 0 0
def g1(xs:List Int):Int:=xs.getD 1 0
def iB(xA xB:List Int):Int:=if g0 xA=g0 xB then 1 else 0
def qU(w:Int)(xs:List Int):Int:=if w=0 then g0 xs else g1 xs
def fits(p hd:Int)(xs:List Int):Bool:=decide ((g0 xs+g1 xs) % p=hd)
noncomputable def kf(G:Gv)(rA rB:List Hr)(tru:List Int->Int):Nat->List Int->(Str->Int)->Int->(Str->Int)->Int->Oc
 | 0,ws,_,hA,_,hB=>.cau (!decide (hA=tru ws)) (!decide (hB=tru ws)) ws
 | k+1,ws,bA,hA,bB,hB=>
   let sA:=cT (G.z ((ws.length:Int)+1) 2 hA ws) rA bA
   let sB:=cT (G.z ((ws.length:Int)+1) 2 hB ws) rB bB
   if fits G.p hA sA=true/\fits G.p hB sB=true then
    kf G rA rB tru k (ws++[iB sA sB]) (bxA (G.z ((ws.length:Int)+1) 2 hA ws) rA bA) (qU (iB sA sB) sA) (bxA (G.z ((ws.length:Int)+1) 2 hB ws) rB bB) (qU (iB sA sB) sB)
   else .cau (!fits G.p hA sA) (!fits G.p hB sB) ws
noncomputable def hd0(G:Gv)(r:List Hr):Int:=g0 (cT (G.z 0 1 0 []) r (fun _=>0))
noncomputable def lY(G:Gv)(rA rB:List Hr)(tru:List Int->Int):Oc:=
 if hd0 G rA=hd0 G rB then .agr (hd0 G rA)else kf G rA rB tru G.ns.length [] (bxA (G.z 0 1 0 []) rA (fun _=>0)) (hd0 G rA) (bxA (G.z 0 1 0 []) rB (fun _=>0)) (hd0 G rB)
theorem yI(xA xB:List Int):iB xA xB=0∨iB xA xB=1:=by
 unfold iB
 split
 . exact .inr rfl
 . exact .inl rfl
theorem Dd{G:Gv}{hd:Int}{ws:List Int}(k:GmK G.ns G.ts G.p)(n6:G.ns.length<=6)(wl:ws.length<G.ns.length)(wo:∀w∈ws,w=0∨w=1)(h0:0<=hd)(h1:hd<G.p):AkOk (G.z ((ws.length:Int)+1) 2 hd ws):=by
 have p2:=k.p2;refine⟨k,n6,by show 0<=(ws.length:Int)+1;omega,fun _=>wl,fun x hx=>?_,Int.le_refl 0,by show(0:Int)<G.p;omega,h0,h1,by show ws.length<=100;omega⟩;rcases wo x hx with rfl | rfl
 . exact⟨Int.le_refl 0,by show(0:Int)<G.p;omega⟩
 . exact⟨by decide,by show(1:Int)<G.p;omega⟩
end
section
variable {CM CA CG CS:Addr}
structure Sd(CS CM:Addr)(H:Hp)(S ds M dm b l g h:Addr)(p n v:Int)(bx:Str->Int)(m:Nat):Prop where
 hS:H S=some (.ins CS ds (sl p M v l))
 hM:H M=some (.ins CM dm (ml g h n b))
 hb:BxAt H b bx m
 SM:S≠M
theorem Sd.same{H H':Hp}{S ds M dm b l g h:Addr}{p n v:Int}{bx:Str->Int}{m:Nat}(x:Sd CS CM H S ds M dm b l g h p n v bx m)(s:Same H H'):Sd CS CM H' S ds M dm b l g h p n v bx m:=⟨s _ _ x.hS,s _ _ x.hM,x.hb.keep fun o e=>s _ _ e,x.SM⟩
noncomputable def eG(ns:List Str)(t:Tr)(ws:List Int):Int:=if t.holds ns ws=true then 1 else 0
theorem xE{G:Gv}{rA rB:List Hr}{tru:List Int->Int}{k:Nat}{ws:List Int}{bA bB:Str->Int}{hA hB x0 x1 y0 y1:Int}(ea:cT (G.z ((ws.length:Int)+1) 2 hA ws) rA bA=[x0,x1])(eb:cT (G.z ((ws.length:Int)+1) 2 hB ws) rB bB=[y0,y1]) :
 kf G rA rB tru (k+1) ws bA hA bB hB=if(x0+x1) % G.p=hA/\(y0+y1) % G.p=hB then kf G rA rB tru k (ws++[if x0=y0 then 1 else 0]) (bxA (G.z ((ws.length:Int)+1) 2 hA ws) rA bA) (if(if x0=y0 then(1:Int)else 0)=0 then x0 else x1) (bxA (G.z ((ws.length:Int)+1) 2 hB ws) rB bB) (if(if x0=y0 then(1:Int)else 0)=0 then y0 else y1)else .cau (!decide ((x0+x1) % G.p=hA)) (!decide ((y0+y1) % G.p=hB)) ws:=by
 show(if fits G.p hA (cT (G.z ((ws.length:Int)+1) 2 hA ws) rA bA)=true/\fits G.p hB (cT (G.z ((ws.length:Int)+1) 2 hB ws) rB bB)=true then kf G rA rB tru k (ws++[iB (cT (G.z ((ws.length:Int)+1) 2 hA ws) rA bA) (cT (G.z ((ws.length:Int)+1) 2 hB ws) rB bB)]) (bxA (G.z ((ws.length:Int)+1) 2 hA ws) rA bA) (qU (iB (cT (G.z ((ws.length:Int)+1) 2 hA ws) rA bA) (cT (G.z ((ws.length:Int)+1) 2 hB ws) rB bB)) (cT (G.z ((ws.length:Int)+1) 2 hA ws) rA bA)) (bxA (G.z ((ws.length:Int)+1) 2 hB ws) rB bB) (qU (iB (cT (G.z ((ws.length:Int)+1) 2 hA ws) rA bA) (cT (G.z ((ws.length:Int)+1) 2 hB ws) rB bB)) (cT (G.z ((ws.length:Int)+1) 2 hB ws) rB bB))else .cau (!fits G.p hA (cT (G.z ((ws.length:Int)+1) 2 hA ws) rA bA)) (!fits G.p hB (cT (G.z ((ws.length:Int)+1) 2 hB ws) rB bB)) ws)=_;rw[ea,eb];have f1:(fits G.p hA [x0,x1]=true)=((x0+x1) % G.p=hA):=propext ⟨fun h=>of_decide_eq_true h,fun h=>decide_eq_true h⟩;have f2:(fits G.p hB [y0,y1]=true)=((y0+y1) % G.p=hB):=propext ⟨fun h=>of_decide_eq_true h,fun h=>decide_eq_true h⟩
 by_cases c:(x0+x1) % G.p=hA/\(y0+y1) % G.p=hB
 . rw[zE0 c,zE0 (by rw[f1,f2];exact c)];rfl
 . rw[zB0 c,zB0 (by rw[f1,f2];exact c)];rfl
inductive spSettled(CG:Addr)(vs:List V)(H:Hp)(Q:VK)(u_3:XK):Prop where
 | mk:∀(g hA hB:Addr)(ns:List Str)(t:Tr)(p:Int)(rA rB:List Hr),(vs=[.ref g,.ref hA,.ref hB])->(Gm CG H g ns [t] p)->(GmK ns [t] p)->(ns.length<=6)->(HlpAt H hA rA)->(HlpAt H hB rB)->(∀(a:Addr)(H':Hp),OcAt H' a (lY ⟨ns,[t],p⟩ rA rB (eG ns t))->Same H H'->Q (.ref a) H')->spSettled CG vs H Q u_3
theorem b7:FnScope ["game","one","other","first","second","ways","first_fits","second_fits","way","truth"] ["game","one","other"] (ak kW):=⟨rfl,rfl,rfl,by decide,rfl,by decide,by decide⟩
theorem vg {f fI fA fG:Addr} {fd fdI fdA fdG:FuncData} (F:Fun K "settled" "settled" kW f fd) (B:Bl mg) (T:STxt K mg CS) (TG:GTxt K mg CG) (MS:Mk K CS fI) (GI:FnOk P w K mg base CX0 29 fI fdI ["self","game","helper"] (spSInit CS CM CG)) (bI:Binds K fdI ["self","game","helper"] []) (mA:Meth K CS "adds_up" fA) (GA:FnOk P w K mg base CX0 29 fA fdA ["self","ways"] (spAdds CS CM CG)) (bA:Binds K fdA ["self","ways"] []) (mG:Meth K CS "go_way" fG) (GG:FnOk P w K mg base CX0 1 fG fdG ["self","way"] (spGo CS)) (bG:Binds K fdG ["self","way"] [])
 (f6:Cal P w K mg base 1 "way_between" ["first","second"] (spWay CS)) (b6:Cal P w K mg base 14 "holds_at" ["tree","switches","setting"] (spHolds 12)):FnOk P w K mg base CX0 31 f fd ["game","one","other"] (spSettled CG):=by
 refine F.ok b7 (fun vs H Q E h=>?_) (fun cdv A outer s H vs Q E hr h=>?_)
 . obtain⟨g,hA,hB,ns,t,p,rA,rB,rfl,_⟩:=h;rfl
 obtain ⟨g,hA,hB,ns,t,p,rA,rB,rfl,GM,k,n6,LA,LB,q⟩:=h;have hr30:Room (29+1) _:=hr;have hr29:Room 29 _:=hr.mono (by decide);have hr1:Room 1 _:=hr.mono (by decide);refine⟨_,(aa (aj (i:=3) b7.nd rfl (Or.inl rfl) (ib MS GI hr30 rfl T.mgC bI .nil bq (ae (pv 0) (ae (pv 1) aI))))
  (aa (aj (i:=4) b7.nd rfl (Or.inl rfl) (ib MS GI hr30 rfl T.mgC bI .nil bq (ae (pv 0) (ae (pv 2) aI))))
  (aa (aB (af aH (ay (pv 3) rfl) (ay (pv 4) rfl) (ao _)) (ad (am (aF (ae ax (ae (ay (pv 3) rfl) aI))))) aq)
  (aa (aj (i:=5) b7.nd rfl (Or.inl rfl) (aF aI))
  (aa (gA PassesOwn.never (af cJ (aA aC rfl B.len PySem.boot_len (ae (pv 5) aI)) (aA aC rfl B.len PySem.boot_len (ae (ay (pv 0) rfl) aI)) (ao _)) (aa (aj (i:=6) b7.nd rfl (Or.inl rfl) (bu (pv 3) T.cl mA GA hr29 bA .nil bq (ae (pv 5) aI)))
   (aa (aj (i:=7) b7.nd rfl (Or.inl rfl) (bu (pv 4) T.cl mA GA hr29 bA .nil bq (ae (pv 5) aI)))
   (aa (aB (PW.pt (cV (dq (cv (pv 6))) (de (dq (cv (pv 7)))))) (ad (am (aF (ae ax (ae (qW (pv 6)) (ae (qW (pv 7)) (ae (pv 5) aI))))))) aq)
   (aa (aj (i:=8) b7.nd rfl (Or.inl rfl) (ai f6 hr (by decide) rfl (ae (pv 3) (ae (pv 4) aI))))
   (aa (bc (bu (pv 3) T.cl mG GG hr1 bG .nil bq (ae (pv 8) aI)))
   (aa (bc (bu (pv 4) T.cl mG GG hr1 bG .nil bq (ae (pv 8) aI)))
   (ad (aj (i:=5) b7.nd rfl (Or.inl rfl) (ag (kt K) (pv 5) (aF (ae (pv 8) aI))))))))))))
  (aa (aj (i:=9) b7.nd rfl (Or.inl rfl) (ko (cv (ai b6 hr (by decide) rfl (ae (aD aG (ay (pv 0) rfl) ac (fun _ _=>rfl)) (ae (ay (pv 0) rfl) (ae (pv 5) aI))))) ac ac))
  (ad (am (aF (ae ax (ae (cG jw (ay (pv 3) rfl) (pv 9) (ao _)) (ae (cG jw (ay (pv 4) rfl) (pv 9) (ao _)) (ae (pv 5) aI))))))))))))),?_⟩
 have p2:=k.p2;have z0:AkOk (⟨ns,[t],p,0,1,0,0,[]⟩:Ak):=⟨k,n6,Int.le_refl 0,(fun h=>absurd h (by show ¬ (0:Int)<0;decide)),(fun x hx=>by cases hx),Int.le_refl 0,(by show(0:Int)<p;omega),Int.le_refl 0,(by show(0:Int)<p;omega),by show 0<=100;decide⟩
 have bz:gJ p (fun _=>0):=fun x=>⟨Int.le_refl 0,by show(0:Int)<p;omega⟩
 refine ⟨_,rfl,_,rfl,fun S1 d1 hS10 hd10 nS1=>?_⟩;have K1:Same H (upd (upd H d1 (.own S1)) S1 (.ins CS d1 [])):=fun a o e=>by
  rw[av (aJ e hS10),av (aJ e hd10)];exact e
 have g1:upd (upd H d1 (.own S1)) S1 (.ins CS d1 []) S1=some (.ins CS d1 []):=aE;generalize upd (upd H d1 (.own S1)) S1 (.ins CS d1 [])=H1 at K1 g1;refine⟨S1,d1,g,hA,ns,[t],p,rA,rfl,g1,GM.kp (Kp.of K1),k,n6,LA.mono (aV K1),fun M1 m1 b1 l1 v1 H2 M10 b10 l10 hS1 hM1 BX1 ev1 hl1 B2=>⟨rfl,?_⟩⟩;have T2:Same H H2:=Same.but K1 hS10 B2;have sd1:Sd CS CM H2 S1 d1 M1 m1 b1 l1 g hA p 1 v1 _ 200:=⟨hS1,hM1,BX1,aJ g1 M10⟩
 refine ⟨_,rfl,_,rfl,fun S2 d2 hS20 hd20 nS2=>?_⟩;have K3:Same H2 (upd (upd H2 d2 (.own S2)) S2 (.ins CS d2 [])):=fun a o e=>by
  rw[av (aJ e hS20),av (aJ e hd20)];exact e
 have g3:upd (upd H2 d2 (.own S2)) S2 (.ins CS d2 []) S2=some (.ins CS d2 []):=aE;generalize upd (upd H2 d2 (.own S2)) S2 (.ins CS d2 [])=H3 at K3 g3;refine⟨S2,d2,g,hB,ns,[t],p,rB,rfl,g3,GM.kp (Kp.of (T2.trans K3)),k,n6,LB.mono (aV (T2.trans K3)),fun M2 m2 b2 l2 v2 H4 M20 b20 l20 hS2 hM2 BX2 ev2 hl2 B4=>⟨rfl,?_⟩⟩;have T24:Same H2 H4:=Same.but K3 hS20 B4;have T4:=T2.trans T24;have sd2:Sd CS CM H4 S2 d2 M2 m2 b2 l2 g hB p 1 v2 _ 200:=⟨hS2,hM2,BX2,aJ g3 M20⟩
 have sd1:=sd1.same T24;have eA:hd0 ⟨ns,[t],p⟩ rA=v1:=by
  show g0 (cT ⟨ns,[t],p,0,1,0,0,[]⟩ rA (fun _=>0))=v1;rw[ev1];rfl
 have eB:hd0 ⟨ns,[t],p⟩ rB=v2:=by
  show g0 (cT ⟨ns,[t],p,0,1,0,0,[]⟩ rB (fun _=>0))=v2;rw[ev2];rfl
 refine⟨_,rfl,S1,CS,d1,_,_,rfl,sd1.hS,T.cl,T.nH,qy,_,rfl,S2,CS,d2,_,_,rfl,sd2.hS,T.cl,T.nH,qy,rfl,_,rfl,?_⟩
 by_cases c:v1=v2
 . refine aS (congrArg V.int c) ?_;refine⟨_,rfl,S1,CS,d1,_,_,rfl,sd1.hS,T.cl,T.nH,qy,(by show 2<=sizeLine;decide),fun a ha=>?_⟩;refine q a _ ?_ (T4.trans (zC0 ha _));unfold lY;rw[zE0 (by rw[eA,eB];exact c),eA];exact aE
 refine au (fun z=>c (V.int.inj z)) ?_;have v1r:=(eV (rows:=rA) z0 bz (by show(0:Int)<=1;decide)).1 v1 (by rw[ev1];exact List.mem_singleton.mpr rfl);have v2r:=(eV (rows:=rB) z0 bz (by show(0:Int)<=1;decide)).1 v2 (by rw[ev2];exact List.mem_singleton.mpr rfl);refine⟨(by show 0<=sizeLine;decide),fun w0 hw0=>?_⟩;have I5:=zC0 hw0 (.tup []);have hw5:upd H4 w0 (.tup []) w0=some (.tup (([]:List Int).map V.int)):=aE;have T5:=T4.trans I5;have sd1:=sd1.same I5;have sd2:=sd2.same I5;show xm _ _ _ _ (upd H4 w0 (.tup []));generalize upd H4 w0 (.tup [])=H5 at I5 hw5 T5 sd1 sd2;have S1n:H S1=none:=hS10;have M1n:H M1=none:=K1.free M10;have b1n:H b1=none:=K1.free b10;have S2n:H S2=none:=T2.free hS20;have M2n:H M2=none:=(T2.trans K3).free M20;have b2n:H b2=none:=(T2.trans K3).free b20;have nSS:S1≠S2:=aJ hS1 hS20;have nM1S2:M1≠S2:=aJ hM1 hS20;have nMM:M1≠M2:=aJ (K3 _ _ hM1) M20;have nS1M2:S1≠M2:=aJ (K3 _ _ hS1) M20;obtain⟨kb1,eb1,_⟩:=id BX1;have nbb:b1≠b2:=aJ (K3 _ _ eb1) b20;have e0:kf ⟨ns,[t],p⟩ rA rB (eG ns t) ns.length [] (bxA ⟨ns,[t],p,0,1,0,0,[]⟩ rA (fun _=>0)) v1 (bxA ⟨ns,[t],p,0,1,0,0,[]⟩ rB (fun _=>0)) v2=lY ⟨ns,[t],p⟩ rA rB (eG ns t):=by
  unfold lY;rw[zB0 (by rw[eA,eB];exact c),eA,eB]
 have bo1:=(eV (rows:=rA) z0 bz (by show(0:Int)<=1;decide)).2.2;have bo2:=(eV (rows:=rB) z0 bz (by show(0:Int)<=1;decide)).2.2;refine⟨fun mm σ H'=>∃(ws:List Int)(w l1 l2:Addr)(u1 u2:Int)(bx1 bx2:Str->Int)(z6 z7 z8:Option V),σ=[some (.ref g),some (.ref hA),some (.ref hB),some (.ref S1),some (.ref S2),some (.ref w),z6,z7,z8,none]/\mm=ns.length-ws.length/\ws.length<=ns.length/\(∀x∈ws,x=0∨x=1)/\H' w=some (.tup (ws.map V.int))/\Sd CS CM H' S1 d1 M1 m1 b1 l1 g hA p ((ws.length:Int)+1) u1 bx1 (200*(ws.length+1))/\Sd CS CM H' S2 d2 M2 m2 b2 l2 g hB p ((ws.length:Int)+1) u2 bx2 (200*(ws.length+1))/\gJ p bx1/\gJ p bx2/\(0<=u1/\u1<p)/\(0<=u2/\u2<p)/\kf ⟨ns,[t],p⟩ rA rB (eG ns t) (ns.length-ws.length) ws bx1 u1 bx2 u2=lY ⟨ns,[t],p⟩ rA rB (eG ns t)/\Same H H',
  ⟨_,[],w0,l1,l2,v1,v2,_,_,_,_,_,rfl,rfl,zW0 _,(fun x hx=>by cases hx),hw5,sd1,sd2,bo1,bo2,v1r,v2r,e0,T5⟩,?_⟩
 rintro mm σ H' ⟨ws,w,l1,l2,u1,u2,bx1,bx2,z6,z7,z8,rfl,rfl,wl,wo,hw,sd1,sd2,bo1,bo2,u1r,u2r,er,T'⟩;have GM':=GM.kp (Kp.of T');obtain⟨ga,gb,gd,gtv,⟨dx,hg⟩,hga,hgb,TS,hgd⟩:=id GM';refine⟨_,rfl,w,_,rfl,.inr (zD0 hw),_,rfl,g,CG,dx,_,_,rfl,hg,TG.cl,TG.nS,oQ ..,ga,_,rfl,.inr (zD0 hga),_,_,rfl,rfl,_,rfl,?_⟩
 by_cases c1:ws.length<ns.length
 . refine aS (by rw[zF0,zF0];omega) ?_;refine⟨_,fun _ _ h=>h,?_⟩;have zA:=Dd (G:=⟨ns,[t],p⟩) (hd:=u1) k n6 c1 wo u1r.1 u1r.2;have zB:=Dd (G:=⟨ns,[t],p⟩) (hd:=u2) k n6 c1 wo u2r.1 u2r.2;obtain⟨k1,ek1,_⟩:=id sd1.hb;obtain⟨k2,ek2,_⟩:=id sd2.hb;refine⟨_,rfl,S1,d1,_,rfl,sd1.hS,CL,_,rfl,S1,d1,g,hA,M1,m1,b1,l1,w,ns,[t],p,(ws.length:Int)+1,u1,rA,bx1,200*(ws.length+1),ws,rfl,sd1.hS,sd1.hM,LA.mono (aV T'),sd1.hb,by omega,bo1,GM',hw,sd1.SM,zA,fun x0 x1 l1' H6 ex hl0 hS6 hl6 hM6 BX6 B6=>?_⟩;have T6:Same H H6:=fun a o e=>B6 _ _ (fun z=>by rw[z,S1n]at e;cases e) (fun z=>by rw[z,M1n]at e;cases e) (fun z=>by rw[z,b1n]at e;cases e) (T' _ _ e)
   have hw6:=B6 _ _ (aX hw sd1.hS (by intro z;cases z)) (aX hw sd1.hM (by intro z;cases z)) (aX hw ek1 (by intro z;cases z)) hw;have sd2':Sd CS CM H6 S2 d2 M2 m2 b2 l2 g hB p ((ws.length:Int)+1) u2 bx2 (200*(ws.length+1)):=⟨B6 _ _ nSS.symm nM1S2.symm (aX sd2.hS ek1 (by intro z;cases z)) sd2.hS,B6 _ _ nS1M2.symm nMM.symm (aX sd2.hM ek1 (by intro z;cases z)) sd2.hM,sd2.hb.keep (fun o e=>B6 _ _ (aX ek2 sd1.hS (by intro z;cases z)) (aX ek2 sd1.hM (by intro z;cases z)) nbb.symm e),sd2.SM⟩
   refine⟨_,rfl,S2,d2,_,rfl,sd2'.hS,CL,_,rfl,S2,d2,g,hB,M2,m2,b2,l2,w,ns,[t],p,(ws.length:Int)+1,u2,rB,bx2,200*(ws.length+1),ws,rfl,sd2'.hS,sd2'.hM,LB.mono (aV T6),sd2'.hb,by omega,bo2,GM.kp (Kp.of T6),hw6,sd2'.SM,zB,fun y0 y1 l2' H7 ey hl0' hS7 hl7 hM7 BX7 B7=>?_⟩;have T7:Same H H7:=fun a o e=>B7 _ _ (fun z=>by rw[z,S2n]at e;cases e) (fun z=>by rw[z,M2n]at e;cases e) (fun z=>by rw[z,b2n]at e;cases e) (T6 _ _ e)
   obtain ⟨k3,ek3,_⟩:=id sd2'.hb;obtain⟨k4,ek4,_⟩:=id BX6;have hw7:=B7 _ _ (aX hw6 sd2'.hS (by intro z;cases z)) (aX hw6 sd2'.hM (by intro z;cases z)) (aX hw6 ek3 (by intro z;cases z)) hw6;have hS17:=B7 _ _ nSS nS1M2 (aX hS6 ek3 (by intro z;cases z)) hS6;have hM17:=B7 _ _ nM1S2 nMM (aX hM6 ek3 (by intro z;cases z)) hM6;have hl17:=B7 _ _ (aX hl6 sd2'.hS (by intro z;cases z)) (aX hl6 sd2'.hM (by intro z;cases z)) (aX hl6 ek3 (by intro z;cases z)) hl6;have BX17:=BX6.keep (fun o e=>B7 _ _ (aX ek4 sd2'.hS (by intro z;cases z)) (aX ek4 sd2'.hM (by intro z;cases z)) nbb e);have st:=xE (tru:=eG ns t) (k:=ns.length-(ws.length+1)) (G:=⟨ns,[t],p⟩) ex ey;rw[show ns.length-ws.length=ns.length-(ws.length+1)+1 by omega,st]at er;have cau:∀(H8:Hp) (a:Addr),H7 a=none->H8=upd H7 a (.tup [.str "caught",.bl (!decide ((x0+x1) % p=u1)),.bl (!decide ((y0+y1) % p=u2)),.ref w])->¬ ((x0+x1) % p=u1/\(y0+y1) % p=u2)->Q (.ref a) H8:=fun H8 a ha e8 nc=>by
    rw[zB0 nc]at er;rw[←er]at q;subst e8;exact q a _ ⟨w,aE,zC0 ha _ _ _ hw7⟩ (T7.trans (zC0 ha _))
   refine⟨_,rfl,_,rfl,?_⟩
   by_cases fa:(x0+x1) % p=u1
   . rw [decide_eq_true fa];refine cb ?_;refine⟨_,rfl,_,rfl,?_⟩
     by_cases fb:(y0+y1) % p=u2
     . rw [decide_eq_true fb];refine cb ?_;rw[zE0 ⟨fa,fb⟩]at er;refine⟨_,rfl,_,rfl,S1,d1,M1,l1',S2,d2,M2,l2',p,u1,x0,x1,p,u2,y0,y1,rfl,hS17,hl17,hS7,hl7,?_⟩;obtain⟨wy,ewy,w01⟩:∃wy:Int,(if x0=y0 then(1:Int)else 0)=wy/\(wy=0∨wy=1):=⟨_,rfl,by split <;> simp⟩
       rw[ewy]at er ⊢;refine⟨_,rfl,S1,d1,_,rfl,hS17,CK,_,rfl,S1,d1,M1,l1',p,u1,x0,x1,wy,rfl,hS17,hl17,w01,fun H8 hS8 B8=>?_⟩;have hS28:=B8 _ _ nSS.symm hS7;have hl28:=B8 _ _ (aX hl7 hS17 (by intro z;cases z)) hl7;refine⟨_,rfl,S2,d2,_,rfl,hS28,CK,_,rfl,S2,d2,M2,l2',p,u2,y0,y1,wy,rfl,hS28,hl28,w01,fun H9 hS9 B9=>?_⟩;have X9:∀{a:Addr}{o:HO},a≠S1->a≠S2->H7 a=some o->H9 a=some o:=fun n1 n2 e=>B9 _ _ n2 (B8 _ _ n1 e)
       have T9:Same H H9:=fun a o e=>X9 (fun z=>by rw[z,S1n]at e;cases e) (fun z=>by rw[z,S2n]at e;cases e) (T7 _ _ e)
       have hw9:=X9 (aX hw7 hS17 (by intro z;cases z)) (aX hw7 hS7 (by intro z;cases z)) hw7;obtain⟨k7,ek7,_⟩:=id BX7;obtain⟨k8,ek8,_⟩:=id BX17;have sdA:Sd CS CM H9 S1 d1 M1 m1 b1 l1' g hA p (((ws++[wy]).length:Int)+1) (if wy=0 then x0 else x1) (bxA ((⟨ns,[t],p⟩:Gv).z ((ws.length:Int)+1) 2 u1 ws) rA bx1) (200*((ws++[wy]).length+1)):=by
        rw[zJ0];refine⟨B9 _ _ nSS hS8,?_,(BX17.keep fun o e=>X9 (aX ek8 hS17 (by intro z;cases z)) (aX ek8 hS7 (by intro z;cases z)) e).le (by show _<=200*(ws.length+1+1);omega),sd1.SM⟩;exact X9 sd1.SM.symm nM1S2 hM17
       have sdB:Sd CS CM H9 S2 d2 M2 m2 b2 l2' g hB p (((ws++[wy]).length:Int)+1) (if wy=0 then y0 else y1) (bxA ((⟨ns,[t],p⟩:Gv).z ((ws.length:Int)+1) 2 u2 ws) rB bx2) (200*((ws++[wy]).length+1)):=by
        rw[zJ0];refine⟨hS9,?_,(BX7.keep fun o e=>X9 (aX ek7 hS17 (by intro z;cases z)) (aX ek7 hS7 (by intro z;cases z)) e).le (by show _<=200*(ws.length+1+1);omega),sd2.SM⟩;exact X9 nS1M2.symm sd2.SM.symm hM7
       have so1:=eV (rows:=rA) zA bo1 (by show(0:Int)<=2;decide);have so2:=eV (rows:=rB) zB bo2 (by show(0:Int)<=2;decide);have r1:0<=(if wy=0 then x0 else x1)/\(if wy=0 then x0 else x1)<p:=so1.1 _ (by rw[ex];split <;> simp);have r2:0<=(if wy=0 then y0 else y1)/\(if wy=0 then y0 else y1)<p:=so2.1 _ (by rw[ey];split <;> simp);have wo':∀x∈ws++[wy],x=0∨x=1:=fun x hx=>by
        rcases qD0 hx with h | h
        . exact wo x h
        . rw[zM0 h];exact w01
       have wl':(ws++[wy]).length=ws.length+1:=by rw[zJ0];rfl
       refine⟨_,rfl,_,rfl,(by show 1<=sizeLine;decide),fun tw htw=>?_⟩;have IW:=zC0 htw (.tup [.int wy])
       by_cases hws:ws=[]
       . refine .inr ⟨w,tw,[.int wy],rfl,rfl,zD0 (by rw[IW _ _ hw9,hws];rfl),zD0 aE,?_⟩;exact⟨ns.length-(ws.length+1),(by show _<ns.length-ws.length;omega),ws++[wy],tw,l1',l2',_,_,_,_,_,_,_,rfl,by rw[wl'],by rw[wl'];exact c1,wo',by rw[aE,hws];rfl,sdA.same IW,sdB.same IW,so1.2.2,so2.2.2,r1,r2,by rw[wl'];exact er,T9.trans IW⟩
       . refine .inl ⟨w,tw,ws.map V.int,[.int wy],rfl,rfl,zD0 (IW _ _ hw9),zD0 aE,(fun z=>hws (List.map_eq_nil_iff.mp z)),bv (by rw[zF0];show ws.length+1<=1000;omega),(fun z=>by cases z),fun _ wn hwn=>?_⟩;have IN:=IW.trans (zC0 hwn (.tup (ws.map V.int++[.int wy])));exact⟨ns.length-(ws.length+1),(by show _<ns.length-ws.length;omega),ws++[wy],wn,l1',l2',_,_,_,_,_,_,_,rfl,by rw[wl'],by rw[wl'];exact c1,wo',by rw[aE,zL0];rfl,sdA.same IN,sdB.same IN,so1.2.2,so2.2.2,r1,r2,by rw[wl'];exact er,T9.trans IN⟩
     . rw[decide_eq_false fb];refine dh ?_;refine⟨_,rfl,_,rfl,_,rfl,_,rfl,_,rfl,(by show 4<=sizeLine;decide),fun a ha=>?_⟩;exact cau _ a ha (by rw[decide_eq_true fa,decide_eq_false fb]) (fun h=>fb h.2)
   . rw[decide_eq_false fa];refine dh ?_;refine⟨_,rfl,_,rfl,_,rfl,_,rfl,_,rfl,(by show 4<=sizeLine;decide),fun a ha=>?_⟩;exact cau _ a ha (by rw[decide_eq_false fa]) (fun h=>fa h.1)
 . refine au (by rw[zF0,zF0];omega) ?_;have we:ws.length=ns.length:=by omega
   have tv1:∃v,gtv=[v]/\TreeAt H' v t:=by
    cases TS with
    | cons a r=>cases r;exact⟨_,rfl,a⟩
   obtain ⟨tv,rfl,TT⟩:=tv1;have tk:=k.tok t zU0;rw[show ns.length-ws.length=0 by omega]at er;have er':Oc.cau (!decide (u1=eG ns t ws)) (!decide (u2=eG ns t ws)) ws=lY ⟨ns,[t],p⟩ rA rB (eG ns t):=er;refine⟨_,rfl,g,CG,dx,_,_,rfl,hg,TG.cl,TG.nT,qi ..,gb,_,0,tv,rfl,rfl,zD0 hgb,rfl,_,rfl,g,CG,dx,_,_,rfl,hg,TG.cl,TG.nS,oQ ..,_,rfl,tv,t,ga,w,ns,ws,rfl,TT,tk.1,zO0 tk.2.2.1 (by decide),.inr hga,hw,we,_,rfl,?_⟩;have fin:∀(tr:Int),eG ns t ws=tr->∀(a:Addr),H' a=none->Q (.ref a) (upd H' a (.tup [.str "caught",.bl (!decide (V.int u1=V.int tr)),.bl (!decide (V.int u2=V.int tr)),.ref w])):=fun tr etr a ha=>by
    rw [←er',etr]at q;have dd:∀u:Int,decide (V.int u=V.int tr)=decide (u=tr):=fun u=>by
     by_cases c:u=tr
     . rw[decide_eq_true c,decide_eq_true (congrArg V.int c)]
     . rw[decide_eq_false c,decide_eq_false (fun z=>c (V.int.inj z))]
    rw[dd u1,dd u2];exact q a _ ⟨w,aE,zC0 ha _ _ _ hw⟩ (T'.trans (zC0 ha _))
   cases hh:t.holds ns ws with
   | true=>
     refine dh ?_;refine⟨_,rfl,S1,CS,d1,_,_,rfl,sd1.hS,T.cl,T.nH,qy,_,rfl,rfl,_,rfl,S2,CS,d2,_,_,rfl,sd2.hS,T.cl,T.nH,qy,_,rfl,rfl,_,rfl,(by show 4<=sizeLine;decide),fun a ha=>?_⟩;exact fin 1 (by unfold eG;rw[hh];rfl) a ha
   | false=>
     refine cb ?_;refine⟨_,rfl,S1,CS,d1,_,_,rfl,sd1.hS,T.cl,T.nH,qy,_,rfl,rfl,_,rfl,S2,CS,d2,_,_,rfl,sd2.hS,T.cl,T.nH,qy,_,rfl,rfl,_,rfl,(by show 4<=sizeLine;decide),fun a ha=>?_⟩;exact fin 0 (by unfold eG;rw[hh];rfl) a ha
end
theorem at0S(x:V)(xs:List V):atI (x::xs) 0=some x:=cH (j:=0) rfl
theorem qw (o:Str):inV (.str o) [.str "yes",.str "no"]=(decide (o="yes")||decide (o="no")):=by
 show (("yes"==o)||(("no"==o)||false))=_;rw[Bool.or_false];have e:∀z:Str,(z==o)=decide (o=z):=fun z=>by
  by_cases c:o=z
  . subst c;simp
  . rw[decide_eq_false c];simpa using fun h=>c h.symm
 rw[e,e]
def lW (o:Str) (x y:Int):Int:=if o="and" then x*y else if o="or" then x+y-x*y else if o="odd" then x+y-2*x*y else 1-x-y+2*x*y
def dS (x y:Int):List (Key×V):=[(Sum.inr "and",V.int (x*y)),(Sum.inr "or",V.int (x+y-x*y)),(Sum.inr "odd",V.int (x+y-2*x*y)),(Sum.inr "same",V.int (1-x-y+2*x*y))]
theorem Ba(x y:Int):dU [] (dS x y)=dS x y:=by rfl'
theorem Ep(x y:Int):∀o∈joinW,dl (dS x y) (Sum.inr o)=some (V.int (lW o x y)):=by
 intro o ho;simp only[joinW,List.mem_cons,List.not_mem_nil,or_false]at ho;rcases ho with rfl | rfl | rfl | rfl
 . have e:lW "and" x y=x*y:=by unfold lW;rw[zE0 rfl]
   rw[e];rfl'
 . have e:lW "or" x y=x+y-x*y:=by unfold lW;rw[zB0 (by decide),zE0 rfl]
   rw[e];rfl'
 . have e:lW "odd" x y=x+y-2*x*y:=by unfold lW;rw[zB0 (by decide),zB0 (by decide),zE0 rfl]
   rw[e];rfl'
 . have e:lW "same" x y=1-x-y+2*x*y:=by unfold lW;rw[zB0 (by decide),zB0 (by decide),zB0 (by decide)]
   rw[e];rfl'
theorem vM(o:Str)(p x y:Int):cW p o x y=lW o x y % p:=by
 unfold cW lW;rw[Int.mul_assoc]
 repeat' split
 . rfl
 . rfl
 . rfl
 . congr 1
   omega
theorem kC{o x:Str}(h:o∈joinW)(hx:x∉joinW):¬ V.str o=V.str x:=fun z=>hx (by rw[←V.str.inj z];exact h)
def NdAt(H:Hp)(d:Addr)(ns:List Str)(pt:List Int):Prop:=∃kvs:List (Key×V),H d=some (.dK kvs)/\∀(x:Str)(j:Nat),cI x ns=some j->dl kvs (Sum.inr x)=some (.int (pt.getD j 0))
theorem NdAt.same{H H':Hp}{d:Addr}{ns:List Str}{pt:List Int}(h:NdAt H d ns pt)(S:Same H H'):NdAt H' d ns pt:=by
 obtain⟨kvs,e,r⟩:=h;exact⟨kvs,S _ _ e,r⟩
inductive spLWd(n:Nat)(vs:List V)(H:Hp)(Q:VK)(u_3:XK):Prop where
 | mk:∀(v:V)(t:Tr)(d:Addr)(ns:List Str)(pt:List Int)(p:Int),(vs=[v,.ref d,.int p])->(TreeAt H v t)->(t.ok ns)->(t.depth<=n)->(NdAt H d ns pt)->(pt.length=ns.length)->(1<p)->(p<2 ^ 40)->(eM pt p)->(∀H',Same H H'->Q (.int (t.worth ns pt p)) H')->spLWd n vs H Q u_3
theorem eQ:FnScope ["_law_tree_here","_law_point","_law_p","_law_word","_law_a","_law_b","_law_some"] ["_law_tree_here","_law_point","_law_p"] (ak jg):=⟨rfl,rfl,rfl,by decide,rfl,by decide,by decide⟩
theorem Aw {n:Nat} {f:Addr} {fd:FuncData} (F:Fun K "_law_worth" "_law_worth" jg f fd) (B:Bl mg) (eD:Cal P w K mg base (n+2) "_law_worth" ["_law_tree_here","_law_point","_law_p"] (spLWd n)):FnOk P w K mg base CX0 (n+3) f fd ["_law_tree_here","_law_point","_law_p"] (spLWd (n+1)):=by
 refine F.ok eQ (fun vs H Q E h=>?_) (fun cdv A outer s H vs Q E hr h=>?_)
 . obtain⟨v,t,d,ns,pt,p,rfl,_⟩:=h;rfl
 obtain⟨v,t,d,ns,pt,p,rfl,T,ok,dn,hO,sl,p1,p40,po,k⟩:=h;have hu:=AL hr;have p0:(0:Int)<p:=by omega
 refine ⟨_,(aa (aj (i:=3) eQ.nd rfl (Or.inl rfl) (aD aG (pv 0) ac (fun _ _=>rfl)))
  (aa (aB (af aH (pv 3) ax (ao _)) (ad (am (wG hu (pv 1) (aD aG (pv 0) ac (fun _ _=>rfl)) (fun _ _=>rfl)))) aq)
  (aa (aB (af fc (pv 3) (cf (ae ax (ae ax aI))) (by rfl')) (ad (am (cg yE rfl B.int jr (ae (cG aH (pv 3) ax (ao _)) aI)))) aq)
  (aa (aj (i:=4) eQ.nd rfl (Or.inl rfl) (ai eD hr (zH0 _) rfl (ae (aD aG (pv 0) ac (fun _ _=>rfl)) (ae (pv 1) (ae (pv 2) aI)))))
  (aa (aB (af aH (pv 3) ax (ao _)) (ad (am (ag aN (ag aQ ac (pv 4)) (pv 2)))) aq)
  (aa (aj (i:=5) eQ.nd rfl (Or.inl rfl) (ai eD hr (zH0 _) rfl (ae (aD aG (pv 0) ac (fun _ _=>rfl)) (ae (pv 1) (ae (pv 2) aI)))))
  (aa (aj (i:=6) eQ.nd rfl (Or.inl rfl) (BP (kh ax (ag bg (pv 4) (pv 5)) (kh ax (ag aQ (ag aO (pv 4) (pv 5)) (ag bg (pv 4) (pv 5))) (kh ax (ag aQ (ag aO (pv 4) (pv 5)) (ag bg (ag bg ac (pv 4)) (pv 5))) (kh ax (ag aO (ag aQ (ag aQ ac (pv 4)) (pv 5)) (ag bg (ag bg ac (pv 4)) (pv 5))) BN)))) rfl rfl (by simp) (by decide)))
  (ad (am (ag aN (wG hu (pv 6) (pv 3) (fun _ _=>rfl)) (pv 2))))))))))),?_⟩
 cases T with
 | @is q x e=>
   refine⟨_,rfl,q,_,0,_,rfl,rfl,zD0 e,rfl,_,rfl,rfl,_,rfl,?_⟩;refine aS rfl ?_;obtain⟨j,hj,jl⟩:=ei (show x∈ns from ok);obtain⟨kvs,hd,hv⟩:=hO;refine⟨_,rfl,_,rfl,q,_,1,_,rfl,rfl,zD0 e,rfl,d,.int (pt.getD j 0),rfl,?_,?_⟩
   . rw[←hv x j hj];exact DGet.k (k:=Sum.inr x) hd
   . have e1:(Tr.is x).worth ns pt p=pt.getD j 0:=by
      show(match cI x ns with | some j=>pt.getD j 0 | none=>0)=_;rw[hj]
     have k':=k _ (Same.refl _);rw[e1]at k';exact k'
 | @yes q e=>
   refine⟨_,rfl,q,_,0,_,rfl,rfl,zD0 e,rfl,_,rfl,rfl,_,rfl,?_⟩;refine au (by decide) ?_;refine⟨_,rfl,(by show 2<=sizeLine;decide),fun c hc=>?_⟩;have G:=zC0 hc (.lst [.str "yes",.str "no"]);refine⟨c,_,rfl,.inl (zG0 aE),rfl,rfl,_,rfl,?_⟩;have e0:inV (.str "yes") [.str "yes",.str "no"]=true:=by rw[qw];decide
   show if inV (.str "yes") [.str "yes",.str "no"]=true then _ else _
   rw[e0];refine dh ?_;refine⟨_,rfl,rfl,.inr ⟨_,rfl,?_⟩⟩;have e1:decide (V.str "yes"=V.str "yes")=true:=decide_eq_true rfl;rw[e1];exact k _ G
 | @no q e=>
   refine⟨_,rfl,q,_,0,_,rfl,rfl,zD0 e,rfl,_,rfl,rfl,_,rfl,?_⟩;refine au (by decide) ?_;refine⟨_,rfl,(by show 2<=sizeLine;decide),fun c hc=>?_⟩;have G:=zC0 hc (.lst [.str "yes",.str "no"]);refine⟨c,_,rfl,.inl (zG0 aE),rfl,rfl,_,rfl,?_⟩;have e0:inV (.str "no") [.str "yes",.str "no"]=true:=by rw[qw];decide
   show if inV (.str "no") [.str "yes",.str "no"]=true then _ else _
   rw[e0];refine dh ?_;refine⟨_,rfl,rfl,.inr ⟨_,rfl,?_⟩⟩;have e1:decide (V.str "no"=V.str "yes")=false:=by decide
   rw[e1];exact k _ G
 | @not q u r e g=>
   refine⟨_,rfl,q,_,0,_,rfl,rfl,zD0 e,rfl,_,rfl,rfl,_,rfl,?_⟩;refine au (by decide) ?_;refine⟨_,rfl,(by show 2<=sizeLine;decide),fun c hc=>?_⟩;have G:=zC0 hc (.lst [.str "yes",.str "no"]);refine⟨c,_,rfl,.inl (zG0 aE),rfl,rfl,_,rfl,?_⟩;have e0:inV (.str "not") [.str "yes",.str "no"]=false:=by rw[qw];decide
   show if inV (.str "not") [.str "yes",.str "no"]=true then _ else _
   rw [e0];refine cb ?_;have dn':r.depth<=n:=by
    have:r.depth+1<=n+1:=dn
    omega
   refine⟨_,rfl,q,_,1,_,rfl,rfl,zD0 (G _ _ e),rfl,_,rfl,_,rfl,u,r,d,ns,pt,p,rfl,g.mono (aV G),ok,dn',hO.same G,sl,p1,p40,po,fun H2 S2=>?_⟩;refine⟨_,rfl,rfl,_,rfl,?_⟩;refine aS rfl ?_;refine⟨_,rfl,_,_,rfl,rfl,_,rfl,_,_,rfl,rfl,p0,?_⟩;exact k _ (G.trans S2)
 | @bin q o u u2 r r2 e g g2=>
   obtain ⟨ho,ok1,ok2⟩:=ok;refine⟨_,rfl,q,_,0,.str o,rfl,rfl,zD0 e,at0S ..,_,rfl,rfl,_,rfl,?_⟩;refine au (kC ho (by decide)) ?_;refine⟨_,rfl,(by show 2<=sizeLine;decide),fun c hc=>?_⟩;have G:=zC0 hc (.lst [.str "yes",.str "no"]);refine⟨c,_,rfl,.inl (zG0 aE),rfl,rfl,_,rfl,?_⟩;have e0:inV (.str o) [.str "yes",.str "no"]=false:=by
    rw[qw,decide_eq_false,decide_eq_false]
    . rfl
    . exact fun z=>kC ho (by decide) (congrArg V.str z)
    . exact fun z=>kC ho (by decide) (congrArg V.str z)
   show if inV (.str o) [.str "yes",.str "no"]=true then _ else _
   rw [e0];refine cb ?_;have dn':r.depth<=n/\r2.depth<=n:=by
    have:max r.depth r2.depth+1<=n+1:=dn
    omega
   refine⟨_,rfl,q,_,1,_,rfl,rfl,zD0 (G _ _ e),rfl,_,rfl,_,rfl,u,r,d,ns,pt,p,rfl,g.mono (aV G),ok1,dn'.1,hO.same G,sl,p1,p40,po,fun H2 S2=>?_⟩;have S02:=G.trans S2;have w1:=worth_rng p1 po sl r ok1;have w2:=worth_rng p1 po sl r2 ok2;have ew:(Tr.bin o r r2).worth ns pt p=lW o (r.worth ns pt p) (r2.worth ns pt p) % p:=vM o p _ _;rw[ew]at k;refine⟨_,rfl,rfl,_,rfl,?_⟩;refine au (kC ho (by decide)) ?_;refine⟨_,rfl,q,_,2,_,rfl,rfl,zD0 (S02 _ _ e),rfl,_,rfl,_,rfl,u2,r2,d,ns,pt,p,rfl,g2.mono (aV S02),ok2,dn'.2,hO.same S02,sl,p1,p40,po,fun H3 S3=>?_⟩;have S03:=S02.trans S3;generalize r.worth ns pt p=x at w1 k;generalize r2.worth ns pt p=y at w2 k;refine fun m hm=>?_
   refine ⟨_,rfl,_,rfl,_,_,rfl,rfl,.inl ⟨by omega,by omega⟩,_,rfl,_,rfl,_,_,rfl,rfl,_,rfl,_,rfl,_,_,rfl,rfl,.inl ⟨by omega,by omega⟩,_,_,rfl,rfl,_,rfl,_,rfl,_,_,rfl,rfl,_,rfl,_,_,rfl,rfl,.inl ⟨by decide,by decide⟩,_,rfl,_,_,rfl,rfl,.inr ⟨by omega,by omega⟩,_,_,rfl,rfl,?_⟩;refine⟨_,rfl,_,_,rfl,rfl,_,rfl,_,_,rfl,rfl,_,rfl,_,_,rfl,rfl,.inl ⟨by decide,by decide⟩,_,rfl,_,_,rfl,rfl,.inr ⟨by omega,by omega⟩,_,_,rfl,rfl,?_⟩;refine⟨aE,dS x y,rfl,by show 4<=15;decide,?_⟩;rw[Ba];have Sd:Same H3 (upd (upd H3 m (.dK [])) m (.dK (dS x y))):=fun b' o' e'=>by
    have nb:=aJ e' hm;rw[av nb,av nb];exact e'
   have hd2:upd (upd H3 m (.dK [])) m (.dK (dS x y)) m=some (.dK (dS x y)):=aE;generalize upd (upd H3 m (.dK [])) m (.dK (dS x y))=H4 at Sd hd2;refine⟨_,rfl,_,rfl,m,_,rfl,(by rw[←Ep x y o ho];exact DGet.k (k:=Sum.inr _) hd2),_,rfl,_,_,rfl,rfl,p0,?_⟩;exact k _ (S03.trans Sd)
theorem Av {f:Addr} {fd:FuncData}:FnOk P w K mg base CX0 2 f fd ["_law_tree_here","_law_point","_law_p"] (spLWd 0):=by
 have no:∀vs H Q E,¬ spLWd 0 vs H Q E:=fun vs H Q E h=>by
  obtain⟨v,t,_,_,_,_,_,_,_,h1,_⟩:=h
  have:=t.depth_pos
  omega
 exact⟨fun vs H Q E h=>absurd h (no vs H Q E),fun A outer s H args us vs Q E _ _ _ _ h=>absurd h (no vs H Q E)⟩
theorem oE {f:Addr} {fd:FuncData} (F:Fun K "_law_worth" "_law_worth" jg f fd) (B:Bl mg) (m:mg "_law_worth"=some (.ref f)) :
 ∀n:Nat,FnOk P w K mg base CX0 (n+2) f fd ["_law_tree_here","_law_point","_law_p"] (spLWd n)
 | 0=>Av
 | n+1=>Aw F B (Cal.of F (oE F B m n) m (fun _ _ _ _ _ _ us hl=>by obtain⟨u0,u1,u2,rfl⟩:=Cl hl;rfl))
theorem yg{p x y:Int}(hp:1<p){o:Str}(bx cy:Bool)(hx:x=if bx then 1 else 0)(hy:y=if cy then 1 else 0):cW p o x y=if iw o bx cy then 1 else 0:=by
 have m0:(0:Int) % p=0:=Int.zero_emod p;have m1:(1:Int) % p=1:=qS0 (by decide) hp;subst hx hy;unfold cW iw;cases bx <;> cases cy <;> (repeat' split) <;> simp_all
theorem du{ns:List Str}{st:List Int}{p:Int}(hp:1<p)(h:∀x∈st,x=0∨x=1)(hl:st.length=ns.length):∀t:Tr,t.ok ns->t.worth ns st p=if t.holds ns st then 1 else 0
 | .is x,ok=>by
   obtain⟨j,hj,jl⟩:=ei ok;show(match cI x ns with | some j=>st.getD j 0 | none=>0)=if(match cI x ns with | some j=>decide (st.getD j 0=1) | none=>false)=true then 1 else 0
   rw[hj];show st.getD j 0=if decide (st.getD j 0=1)=true then 1 else 0
   rw[oS (by omega)];rcases h _ (qR0 (show j<st.length by omega))with e | e <;> rw[e] <;> rfl
 | .yes,_=>rfl
 | .no,_=>rfl
 | .not a,ok=>by
   have m0:(0:Int) % p=0:=Int.zero_emod p;have m1:(1:Int) % p=1:=qS0 (by decide) hp;show(1-a.worth ns st p) % p=if(!a.holds ns st)=true then 1 else 0
   rw[du hp h hl a ok];cases a.holds ns st
   . exact m1
   . exact m0
 | .bin o a b,⟨_,k1,k2⟩=>yg hp _ _ (du hp h hl a k1) (du hp h hl b k2)
structure GmT(H:Hp)(gh a b:Addr)(ns:List Str)(tv:List V)(ts:List Tr)(p:Int):Prop where
 hg:H gh=some (.tup [.ref a,.ref b,.int p])
 ha:H a=some (.tup (ns.map V.str))
 hb:H b=some (.tup tv)
 tr:TreesAt H tv ts
theorem GmT.mono{H H':Hp}{gh a b:Addr}{ns:List Str}{tv:List V}{ts:List Tr}{p:Int}(h:GmT H gh a b ns tv ts p)(k:bL H H'):GmT H' gh a b ns tv ts p:=⟨k _ _ h.hg,k _ _ h.ha,k _ _ h.hb,h.tr.mono k⟩
theorem sJ{x:Str}:∀{ns:List Str}{j:Nat},cI x ns=some j->ns[j]?=some x
 | [],j,h=>by simp [cI]at h
 | a::r,j,h=>by
   unfold cI at h
   by_cases c:a=x
   . rw[zE0 c]at h;cases h;rw[c];rfl
   . rw[zB0 c]at h;obtain⟨i,hi,rfl⟩:=qW0 h;show r[i]?=some x;exact sJ hi
theorem iF{k:Key}:∀(more acc:List (Key×V)),k∉more.map (·.1)->dl (dU acc more) k=dl acc k
 | [],acc,_=>rfl
 | kv::r,acc,h=>by
   have h1:k≠kv.1:=fun e=>h (by rw[e];exact zU0)
   have h2:k∉r.map (·.1):=fun e=>h (qH0 _ e)
   show dl (dU (gz acc kv.1 kv.2) r) k=_;rw[iF r _ h2,mQ,zB0 h1]
theorem iG{k:Key}{v:V}:∀(more acc:List (Key×V)),(more.map (·.1)).Nodup->(k,v)∈more->dl (dU acc more) k=some v
 | [],_,_,h=>by cases h
 | kv::r,acc,nd,h=>by
   have nd':kv.1∉r.map (·.1)/\(r.map (·.1)).Nodup:=List.nodup_cons.mp nd;show dl (dU (gz acc kv.1 kv.2) r) k=_;rcases zY0 h with e | e
   . subst e;rw[iF r _ nd'.1,mQ,zE0 rfl]
   . exact iG r _ nd'.2 e
def ndL(ns:List Str)(pt:List Int):List (Key×V):=List.zipWith (fun(x:Str)(n:Int)=>((Sum.inr x:Key),V.int n)) ns pt
theorem Al{ns:List Str}{pt:List Int}{j:Nat}{x:Str}{n:Int}(h1:ns[j]?=some x)(h2:pt[j]?=some n):(ndL ns pt)[j]?=some (Sum.inr x,V.int n):=by
 unfold ndL;rw[List.getElem?_zipWith,h1,h2]
theorem rC{ns:List Str}{pt:List Int}(h:pt.length=ns.length):(ndL ns pt).length=ns.length:=by
 unfold ndL;rw[List.length_zipWith,h,Nat.min_self]
theorem sW:∀{ns:List Str}{pt:List Int},pt.length=ns.length->(ndL ns pt).map (·.1)=ns.map fun x=>(Sum.inr x:Key)
 | [],[],_=>rfl
 | a::ns,b::pt,h=>by
   have:=sW (ns:=ns) (pt:=pt) (by simpa using h)
   show(Sum.inr a:Key)::(ndL ns pt).map (·.1)=_;rw[this];rfl
 | [],_::_,h=>by simp at h
 | _::_,[],h=>by simp at h
theorem DM{ns:List Str}{pt:List Int}(nd:ns.Nodup)(hl:pt.length=ns.length)(x:Str)(j:Nat)(h:cI x ns=some j):dl (dU [] (ndL ns pt)) (Sum.inr x)=some (.int (pt.getD j 0)):=by
 have h1:=sJ h;have jl:j<pt.length:=by
  have:=(zX0 h1).1
  omega
 have h2:pt[j]?=some pt[j]:=zR0 jl;have nk:((ndL ns pt).map (·.1)).Nodup:=by
  rw[sW hl];exact List.Pairwise.map _ (fun a b (hab:a≠b) e=>hab (Sum.inr.inj e)) nd
 rw[iG _ _ nk (qI0 (Al h1 h2)),qT0,h2];rfl
inductive spMixd(vs:List V)(H:Hp)(Q:VK)(u_3:XK):Prop where
 | mk:∀(gh a b r:Addr)(ns:List Str)(tv:List V)(ts:List Tr)(pt:List Int)(s p:Int),(vs=[.ref gh,.int s,.ref r])->(GmT H gh a b ns tv ts p)->(ns.Nodup)->(ns.length<=10)->((∀t∈ts,t.ok ns/\t.depth<=10))->(IntsAt H r pt)->(pt.length=ns.length)->(eM pt p)->(1<p)->(p<2 ^ 40)->(∀H',Same H H'->Q (.int (hor s p (ts.map fun t=>t.worth ns pt p))) H')->spMixd vs H Q u_3
theorem cz:FnScope ["_law_game","_law_s","_law_point","_law_switches","_law_trees","_law_p","_law_named","_law_total","_law_tree_here"] ["_law_game","_law_s","_law_point"] (ak ld):=⟨rfl,rfl,rfl,by decide,rfl,by decide,by decide⟩
theorem vn {f:Addr} {fd:FuncData} (F:Fun K "_law_mixed" "_law_mixed" ld f fd) (B:Bl mg) (eD:Cal P w K mg base 12 "_law_worth" ["_law_tree_here","_law_point","_law_p"] (spLWd 10)):FnOk P w K mg base CX0 13 f fd ["_law_game","_law_s","_law_point"] spMixd:=by
 refine F.ok cz (fun vs H Q E h=>?_) (fun cdv A outer s H vs Q E hr h=>?_)
 . obtain⟨gh,a,b,r,ns,tv,ts,pt,s,p,rfl,_⟩:=h;rfl
 obtain ⟨gh,a,b,r,ns,tv,ts,pt,s,p,rfl,G,nd,n10,tok,hr0,pl,po,p1,p40,q⟩:=h;refine⟨_,(aa (qT (pv 0) (va rfl (fJ (bi (i:=3) cz.nd rfl (Or.inl rfl)) (fJ (bi (i:=4) cz.nd rfl (Or.inl rfl)) (fJ (bi (i:=5) cz.nd rfl (Or.inl rfl)) qV)))))
  (aa (aj (i:=6) cz.nd rfl (Or.inl rfl) (vd rfl rfl B.dict rfl B.zip (ae (pv 3) (ae (pv 2) aI))))
  (aa (aj (i:=7) cz.nd rfl (Or.inl rfl) ac)
  (aa (cE PassesOwn.never rfl (wF rfl B.reversed (pv 4)) (bi (i:=8) cz.nd rfl (Or.inl rfl)) (ad (aj (i:=7) cz.nd rfl (Or.inl rfl) (ag aN (ag aO (ag bg (pv 7) (pv 1)) (ai eD hr (by decide) rfl (ae (pv 8) (ae (pv 6) (ae (pv 5) aI))))) (pv 5)))))
  (ad (am (pv 7))))))),?_⟩
 have p0:0<p:=by omega
 have vl:=G.tr.length;obtain⟨c,hr1⟩:=hr0.sqB (K:=K);refine⟨_,rfl,gh,_,rfl,zD0 G.hg,rfl,_,_,rfl,_,_,rfl,_,_,rfl,rfl,?_⟩;refine⟨_,rfl,_,rfl,a,r,false,c,_,_,ndL ns pt,rfl,zD0 G.ha,hr1,by rw[zF0,rC pl],bv (by rw[rC pl];omega),fun j kv hj=>?_,fun d hd=>?_⟩
 . have jl:j<ns.length:=by
    have:=(zX0 hj).1
    rw[rC pl]at this;exact this
   have h1:ns[j]?=some ns[j]:=zR0 jl;have h2:pt[j]?=some (pt[j]'(by omega)):=zR0 _;rw[Al h1 h2]at hj;cases hj;exact⟨by rw[qE0,h1];rfl,by rw[qE0,h2];rfl⟩
 have Id:=zC0 hd (.dK (dU [] (ndL ns pt)));have Nd:NdAt (upd H d (.dK (dU [] (ndL ns pt)))) d ns pt:=⟨_,aE,DM nd pl⟩
 generalize upd H d (.dK (dU [] (ndL ns pt)))=H1 at Id Nd;have hb1:=Id _ _ G.hb;refine⟨_,rfl,false,b,_,rfl,zD0 hb1,tL (K:=K) (c:=false) (xs:=tv) (fun i σ H'=>∃(x8:Option V)(t:Int),σ=[some (.ref gh),some (.int s),some (.ref r),some (.ref a),some (.ref b),some (.int p),some (.ref d),some (.int t),x8]/\t=hor s p ((ts.map fun t=>t.worth ns pt p).drop (ts.length-i))/\Same H1 H')
  ⟨_,0,rfl,by rw[Nat.sub_zero,←zF0 (as:=ts) (f:=fun t=>t.worth ns pt p),List.drop_length];rfl,Same.refl _⟩ (fun i σ H' _ hst=>by obtain⟨_,_,_,_,h⟩:=hst;exact zD0 (h _ _ hb1)) ?_ ?_⟩
 . rintro i z σ H2 hi hz ⟨x8,t,rfl,rfl,S2⟩;rw[List.getElem?_reverse hi]at hz;obtain⟨u,hu,Tu⟩:=(G.tr.mono (aV (Id.trans S2))).get hz;obtain⟨uk,ud⟩:=tok u (qI0 hu);have hr2:=mD (s:=s) p0 ((ts.map fun t=>t.worth ns pt p).drop (ts.length-i));refine⟨_,rfl,_,rfl,_,_,rfl,rfl,.inl ⟨by omega,by omega⟩,_,rfl,_,rfl,_,rfl,z,u,d,ns,pt,p,rfl,Tu,uk,ud,Nd.same S2,pl,p1,p40,po,fun H3 S3=>?_⟩;refine⟨_,_,rfl,rfl,_,rfl,_,_,rfl,rfl,p0,?_⟩;refine⟨_,_,rfl,?_,S2.trans S3⟩;have hj:ts.length-1-i<(ts.map fun t=>t.worth ns pt p).length:=by rw[zF0];omega
   have ed:(ts.map fun t=>t.worth ns pt p).drop (ts.length-(i+1))=u.worth ns pt p::(ts.map fun t=>t.worth ns pt p).drop (ts.length-i):=by
    have e1:ts.length-(i+1)=ts.length-1-i:=by omega
    have e2:ts.length-i=ts.length-1-i+1:=by omega
    rw[e1,e2,List.drop_eq_getElem_cons hj]
    congr 1
    rw[List.getElem_map];rw[vl]at hu;rw[(zX0 hu).2]
   rw[ed];rfl
 . rintro σ H2 ⟨x8,t,rfl,rfl,S2⟩;rw[vl,Nat.sub_self,List.drop_zero];exact⟨_,rfl,q _ (Id.trans S2)⟩
def ip:Nat->List (List Int)
 | 0=>[[]]
 | n+1=>(ip n).map (·++[0])++(ip n).map (·++[1])
theorem pq:∀n,(ip n).length=2 ^ n
 | 0=>rfl
 | n+1=>by
   show((ip n).map (·++[0])++(ip n).map (·++[1])).length=_;rw[zJ0,zF0,zF0,pq n,Nat.pow_succ];omega
theorem kJ:∀(n:Nat)(s:List Int),s∈ip n->s.length=n/\∀x∈s,x=0∨x=1
 | 0,s,h=>by
   rw[zM0 h];exact⟨rfl,fun x hx=>by cases hx⟩
 | n+1,s,h=>by
   have cl:∀(z:Int),(z=0∨z=1)->s∈(ip n).map (·++[z])->s.length=n+1/\∀x∈s,x=0∨x=1:=fun z hz hm=>by
    obtain⟨t,ht,rfl⟩:=List.mem_map.mp hm;obtain⟨l,o⟩:=kJ n t ht;refine⟨by rw[zJ0,l];rfl,fun x hx=>?_⟩;rcases qD0 hx with hx | hx
    . exact o x hx
    . rw[zM0 hx];exact hz
   rcases qD0 h with h | h
   . exact cl 0 (.inl rfl) h
   . exact cl 1 (.inr rfl) h
theorem su{α:Type}(F G:α->Int):∀l:List α,(l.map fun s=>F s+G s).sum=(l.map F).sum+(l.map G).sum
 | []=>rfl
 | a::l=>by
   simp only[zZ0,List.sum_cons,su F G l];omega
theorem pS(F:List Int->Int):∀l:List (List Int),((l.flatMap fun s=>[s++[0],s++[1]]).map F).sum=(l.map fun s=>F (s++[0])+F (s++[1])).sum
 | []=>rfl
 | a::l=>by
   rw[List.flatMap_cons,zL0,List.sum_append,pS F l]
   simp
theorem pk:∀(n:Nat)(F:List Int->Int),((ip n).map F).sum=((bQ n).map F).sum
 | 0,F=>by simp [ip,bQ]
 | n+1,F=>by
   have e1:((bQ (n+1)).map F).sum=((bQ n).map fun s=>F (s++[0])+F (s++[1])).sum:=pS F _;rw[e1,su (fun s=>F (s++[0])) (fun s=>F (s++[1]))];show(((ip n).map (·++[0])++(ip n).map (·++[1])).map F).sum=_;rw[zL0,List.sum_append,List.map_map,List.map_map];rw[←pk n (fun s=>F (s++[0])),←pk n (fun s=>F (s++[1]))];rfl
theorem pow6{i:Nat}(h:i<=6):2 ^ i<=64:=by
 have:i=0∨i=1∨i=2∨i=3∨i=4∨i=5∨i=6:=by omega
 rcases this with h | h | h | h | h | h | h <;> subst h <;> decide
inductive spAllS(vs:List V)(H:Hp)(Q:VK)(u_3:XK):Prop where
 | mk:∀n:Int,(vs=[.int n])->(0<=n)->(n<=6)->(∀(r:Addr)(H':Hp),H r=none->Same H H'->rW H' r (ip n.toNat)->Q (.ref r) H')->spAllS vs H Q u_3
theorem jT:FnScope ["_law_many","_law_rows","_law_k"] ["_law_many"] (ak qK):=⟨rfl,rfl,rfl,by decide,rfl,by decide,by decide⟩
theorem TupsAt.app{H:Hp}:∀{rs us:List V}{ss tt:List (List Int)},TupsAt H rs ss->TupsAt H us tt->TupsAt H (rs++us) (ss++tt)
 | _,_,_,_,.nil,h=>h
 | _,_,_,_,.cons a r,h=>.cons a (TupsAt.app r h)
theorem Ac {f:Addr} {fd:FuncData} (F:Fun K "_law_all" "_law_all" qK f fd) (B:Bl mg):FnOk P w K mg base CX0 1 f fd ["_law_many"] spAllS:=by
 refine F.ok jT (fun vs H Q E h=>?_) (fun cdv A outer s H vs Q E hr h=>?_)
 . obtain⟨n,rfl,_⟩:=h;rfl
 obtain ⟨n,rfl,n0,n6,q⟩:=h;refine⟨_,(aa (aj (i:=1) jT.nd rfl (Or.inl rfl) (cf (ae (aF aI) aI)))
  (aa (cE PassesOwn.never rfl (cx rfl B.range (ae (pv 0) aI)) (bi (i:=2) jT.nd rfl (Or.inl rfl)) (ad (aj (i:=1) jT.nd rfl (Or.inl rfl) (ag lr
   (cr (N:=[]) (ix:=[]) (cl:=[]) rfl (CompScope.closed (by rfl') (by decide) rfl (by decide) rfl (by rfl')) rfl (dG (pv 1)) (fun _ _ _=>df (ag (kt K) (pv 0) (aF (ae ac aI)))))
   (cr (N:=[]) (ix:=[]) (cl:=[]) rfl (CompScope.closed (by rfl') (by decide) rfl (by decide) rfl (by rfl')) rfl (dG (pv 1)) (fun _ _ _=>df (ag (kt K) (pv 0) (aF (ae ac aI)))))))))
  (ad (am (pv 1))))),?_⟩
 refine⟨(by show 0<=sizeLine;decide),fun p hp=>?_⟩;have Ip:=zC0 hp (.tup []);have gp:upd H p (.tup []) p=some (.tup []):=aE;generalize upd H p (.tup [])=H1 at Ip gp;refine⟨(by show 1<=sizeLine;decide),fun a ha=>?_⟩;have Ia:=zC0 ha (.lst [.ref p]);have ga:upd H1 a (.lst [.ref p]) a=some (.lst [.ref p]):=aE;generalize upd H1 a (.lst [.ref p])=H2 at Ia ga;have S02:=Ip.trans Ia;refine⟨_,rfl,n,rfl,by omega,by omega,eC (fun i σ H'=>∃(r:Addr)(x2:Option V),σ=[some (.int n),some (.ref r),x2]/\H r=none/\Same H H'/\rW H' r (ip i)) ⟨a,_,rfl,Ip.free ha,S02,[.ref p],ga,.cons ⟨p,rfl,Ia _ _ gp⟩ .nil⟩ ?_ ?_⟩
 . rintro i σ H3 hi ⟨r,x2,rfl,r0,S3,rs,hrs,T⟩;have i6:i<6:=by omega
   have rl:=T.length;have sl:=pq i;have s64:=pow6 (i:=i) (by omega);have half:∀(z:Int)(H4:Hp)(Q':VK),Same H3 H4->(∀D us H5,H4 D=none->Same H4 H5->H5 D=some (.lst us)->TupsAt H5 us ((ip i).map (·++[z]))->Q' (.ref D) H5)->∀D,H4 D=none->lD (Itl K r) D [] (tB0 (tOp (fun x y H Q=>rCatT K x y H Q∨rCatT0 K x y H Q) (tVar 0) (Dk (jP (tC (.int z)) sn)))) [some (.int n),some (.ref r),some (.int (0+(i:Int)))] H4 Q':=by
    intro z H4 Q' S4 q' D hD;refine gG (K:=K) (xs:=rs) (fun j H'=>∃us,H' D=some (.lst us)/\us.length=j/\Same H4 H'/\TupsAt H' us (((ip i).take j).map (·++[z]))) ⟨[],by rw[aE],rfl,zC0 hD _,.nil⟩ (fun j H' _ hst=>by obtain⟨_,_,_,h,_⟩:=hst;exact zG0 (h _ _ (S4 _ _ hrs))) ?_ ?_
    . rintro j v H5 hv ⟨us,hD5,ul,S5,TU⟩;have hj:=(zX0 hv).1;obtain⟨st,hst,t,rfl,ht⟩:=(T.mono (aV (S4.trans S5))).get hv;have stl:=(kJ i st (qI0 hst)).1;refine⟨_,rfl,(by show 1<=sizeLine;decide),fun u hu=>?_⟩;have I6:=zC0 hu (.tup [.int z]);have g6:upd H5 u (.tup [.int z]) u=some (.tup ([z].map V.int)):=aE;generalize upd H5 u (.tup [.int z])=H6 at I6 g6;refine rR (I6 _ _ ht) g6 (by show st.length+1<=100;omega) fun t1 H7 S7 h7=>?_
      have S57:=I6.trans S7;have hD7:=S57 _ _ hD5;have kT:bL H7 (upd H7 D (.lst (us++[.ref t1]))):=gC hD7;refine⟨_,hD7,aM (by omega),Nx.of hj ⟨us++[.ref t1],aE,by rw[zJ0,ul];rfl,fun b' o' e'=>?_,?_⟩⟩
      . rw[av (aJ e' hD)];exact S57 _ _ (S5 _ _ e')
      . rw[qK0,hst,zL0];exact((TU.mono (aV S57)).mono kT).app (.cons ⟨t1,rfl,kT _ _ h7⟩ .nil)
    . rintro H5 ⟨us,hD5,ul,S5,TU⟩;rw[rl,qJ0]at TU;exact q' D us H5 hD S5 hD5 TU
   refine⟨_,rfl,r,rfl,⟨_,zG0 hrs⟩,fun D hD=>half 0 H3 _ (Same.refl _) (fun D1 us H4 D10 S4 hD1 TU=>?_) D hD⟩;refine⟨_,rfl,r,rfl,⟨_,zG0 (S4 _ _ hrs)⟩,fun D' hD'=>half 1 H4 _ S4 (fun D2 vs H5 D20 S5 hD2 TV=>?_) D' hD'⟩;have hD15:=S5 _ _ hD1;have l1:=TU.length;have l2:=TV.length;rw[zF0,sl]at l1 l2;refine⟨D1,D2,_,_,rfl,rfl,hD15,hD2,bv (by omega),fun l hl=>?_⟩;have Il:=zC0 hl (.lst (us++vs));exact⟨l,_,rfl,(S3.trans (S4.trans S5)).free hl,S3.trans (S4.trans (S5.trans Il)),_,aE,(TU.mono (aV (S5.trans Il))).app (TV.mono (aV Il))⟩
 . rintro σ H3 ⟨r,x2,rfl,r0,S3,R⟩;exact⟨_,rfl,q r H3 r0 S3 R⟩
theorem mH(p w:Int)(h0:0<=w)(h1:w<p):hor 0 p [w]=w:=by
 show(0*0+w) % p=w;rw[Int.mul_zero,Int.zero_add];exact qS0 h0 h1
theorem rO{ns:List Str}{t:Tr}{p:Int}(hp:1<p)(ok:t.ok ns):∀l:List (List Int),(∀st∈l,st.length=ns.length/\∀x∈st,x=0∨x=1)->(l.map fun st=>hor 0 p [t.worth ns st p]).sum=((l.filter fun st=>t.holds ns st).length:Int)
 | [],_=>rfl
 | st::l,h=>by
   obtain⟨h1,h2⟩:=h st zU0;have w:=du hp h2 h1 t ok;rw[zZ0,List.sum_cons,rO hp ok l (fun u hu=>h u (qH0 _ hu)),w];cases c:t.holds ns st with
   | true=>
     rw[zE0 rfl,mH p 1 (by decide) hp,List.filter_cons,zE0 c,zQ0];omega
   | false=>
     rw[zB0 (by decide),mH p 0 (by decide) (by omega),List.filter_cons,zB0 (by rw[c];decide)];omega
inductive spCntS(vs:List V)(H:Hp)(Q:VK)(u_3:XK):Prop where
 | mk:∀(gh a b:Addr)(ns:List Str)(tv:List V)(ts:List Tr)(p:Int)(k:Nat)(t:Tr),(vs=[.ref gh,.int (k:Int)])->(GmT H gh a b ns tv ts p)->(ns.Nodup)->(ns.length<=6)->(ts[k]?=some t)->(t.ok ns)->(t.depth<=10)->(∀H',Same H H'->Q (.int (cnt t ns:Int)) H')->spCntS vs H Q u_3
theorem sF:FnScope ["_law_game","_law_k","_law_one"] ["_law_game","_law_k"] (ak lh):=⟨rfl,rfl,rfl,by decide,rfl,by decide,by decide⟩
theorem vp {f:Addr} {fd:FuncData} (F:Fun K "_law_count" "_law_count" lh f fd) (B:Bl mg) (y4:Cal P w K mg base 1 "_law_all" ["_law_many"] spAllS) (lI:Cal P w K mg base 13 "_law_mixed" ["_law_game","_law_s","_law_point"] spMixd):FnOk P w K mg base CX0 14 f fd ["_law_game","_law_k"] spCntS:=by
 refine F.ok sF (fun vs H Q E h=>?_) (fun cdv A outer s H vs Q E hr h=>?_)
 . obtain⟨gh,a,b,ns,tv,ts,p,k,t,rfl,_⟩:=h;rfl
 obtain ⟨gh,a,b,ns,tv,ts,p,k,t,rfl,G,nd,n6,ht,tk,td,q⟩:=h;refine⟨_,(aa (aj (i:=2) sF.nd rfl (Or.inr rfl) (aF (ae (aD aG (pv 0) ac (fun _ _=>rfl)) (ae (aF (ae (aD aG (aD aG (pv 0) ac (fun _ _=>rfl)) (pv 1) (fun _ _=>rfl)) aI)) (ae ac aI)))))
  (ad (am (aA (tZ rfl) rfl B.sum PyProof.Rows.boot_sum (ae (cr (N:=["_law_one"]) (ix:=[2]) rfl
   (CompScope.one (by rfl') (by decide) rfl (by decide) rfl (by decide) (by rfl') (by rfl') (by rfl') rfl rfl) rfl
   (dG (ai y4 hr (by decide) rfl (ae (aA aC rfl B.len PySem.boot_len (ae (aD aG (pv 0) ac (fun _ _=>rfl)) aI)) aI))) (fun _ _ _=>df (ai lI hr (by decide) rfl (ae (pv 1) (ae ac (ae (pv 0) aI)))))) aI))))),?_⟩
 have vl:=G.tr.length;have hk:k<ts.length:=(zX0 ht).1;have hv:tv[k]?=some (tv[k]'(by omega)):=zR0 _;generalize tv[k]'(by omega)=v at hv;obtain⟨u,hu,Tu⟩:=G.tr.get hv;rw[ht]at hu;cases hu;refine⟨_,rfl,gh,_,0,_,rfl,rfl,zD0 G.hg,rfl,_,rfl,gh,_,1,_,rfl,rfl,zD0 G.hg,rfl,_,rfl,b,_,_,v,rfl,rfl,zD0 G.hb,cH hv,(by show 1<=sizeLine;decide),fun b2 hb2=>⟨(by show 3<=sizeLine;decide),fun o ho=>?_⟩⟩;have I1:=zC0 hb2 (.tup [v]);have I2:=zC0 ho (.tup [.ref a,.ref b2,.int 999983]);have J2:=I1.trans I2;have G2:GmT (upd (upd H b2 (.tup [v])) o (.tup [.ref a,.ref b2,.int 999983])) o a b2 ns [v] [t] 999983:=⟨aE,J2 _ _ G.ha,I2 _ _ aE,.cons (Tu.mono (aV J2)) .nil⟩
 generalize upd (upd H b2 (.tup [v])) o (.tup [.ref a,.ref b2,.int 999983])=H2 at J2 G2;refine⟨_,rfl,gh,_,0,_,rfl,rfl,zD0 (J2 _ _ G.hg),rfl,a,_,rfl,.inr (zD0 (J2 _ _ G.ha)),_,rfl,by rw[zF0];omega,by rw[zF0];omega,fun l H3 l0 S3 R3=>?_⟩;rw[zF0,qQ0]at R3;obtain⟨rs,hrs,T⟩:=R3;have rl:=T.length;have al:=pq ns.length;have s64:=pow6 (i:=ns.length) n6;refine⟨l,rfl,⟨_,zG0 hrs⟩,fun D hD=>?_⟩;refine gG (K:=K) (xs:=rs) (fun j H'=>H' D=some (.lst ((((ip ns.length).take j).map fun st=>hor 0 999983 [t.worth ns st 999983]).map V.int))/\Same H3 H') ⟨by rw[aE];rfl,zC0 hD _⟩ (fun j H' _ h=>zG0 (h.2 _ _ hrs)) ?_ ?_
 . rintro j x H4 hx ⟨hD4,S4⟩;have hj:=(zX0 hx).1;obtain⟨st,hst,r,rfl,hr0⟩:=(T.mono (aV S4)).get hx;obtain⟨stl,s01⟩:=kJ _ st (qI0 hst);have po:eM st 999983:=fun x hx=>by rcases s01 x hx with e | e <;> rw[e] <;> decide
   refine⟨_,rfl,_,rfl,o,a,b2,r,ns,[v],[t],st,0,999983,rfl,G2.mono (aV (S3.trans S4)),nd,by omega,(fun u hu=>by rw[zM0 hu];exact⟨tk,td⟩),.inr hr0,stl,po,by decide,by decide,fun H5 S5=>?_⟩;refine⟨_,S5 _ _ hD4,?_,Nx.of hj ⟨?_,fun b' o' e'=>?_⟩⟩
   . rw[zF0,zF0,qM0];exact aM (by omega)
   . rw[aE,qK0,hst,zL0,zL0];rfl
   . rw[av (aJ e' hD)];exact S5 _ _ (S4 _ _ e')
 . rintro H4 ⟨hD4,S4⟩;rw[rl,qJ0]at hD4;have cs:=rO (p:=999983) (by decide) tk (ip ns.length) (kJ ns.length);have e1:(((ip ns.length).filter fun st=>t.holds ns st).length:Int)=(cnt t ns:Int):=by
    rw[←cs,pk];exact rO (by decide) tk (bQ ns.length) (fun st hst=>⟨dj _ _ hst,iH _ _ hst⟩)
   have fl:=List.length_filter_le (fun st=>t.holds ns st) (ip ns.length);refine⟨D,_,rfl,zG0 hD4,fun n hn=>?_,by rw[cs];omega,?_⟩
   . obtain⟨st,_,rfl⟩:=List.mem_map.mp hn;exact(mD (by decide) _).1
   . rw[cs,e1];exact q _ (J2.trans (S3.trans S4))
theorem nd_at{ns:List Str}(nd:ns.Nodup){i j:Nat}{z:Str}(hi:ns[i]?=some z)(hj:ns[j]?=some z):i=j:=by
 obtain⟨h1,e1⟩:=zX0 hi;obtain⟨h2,e2⟩:=zX0 hj;rcases Nat.lt_trichotomy i j with h | h | h
 . exact absurd (e1.trans e2.symm) (List.pairwise_iff_getElem.mp nd i j h1 h2 h)
 . exact h
 . exact absurd (e2.trans e1.symm) (List.pairwise_iff_getElem.mp nd j i h2 h1 h)
theorem zq{pt:List Int}{j i:Nat}{x:Int}(hj:j<pt.length):(pt.set j x).getD i 0=if i=j then x else pt.getD i 0:=by
 rw[qT0,qT0,List.getElem?_set]
 by_cases c:j=i
 . subst c
   simp [hj]
 . rw[zB0 c,zB0 (Ne.symm c)]
theorem gN{ns:List Str}{pt:List Int}{p:Int}{j:Nat}{y:Str}(hy:ns[j]?=some y)(hl:pt.length=ns.length)(nd:ns.Nodup):∀t:Tr,t.ok ns->∃f:Int->Int,IsPoly (t.names.count y+1) f/\∀x:Int,p ∣ t.worth ns (pt.set j x) p-f x
 | .is z,ok=>by
   have jl:j<ns.length:=(zX0 hy).1;obtain⟨i,hi,il⟩:=ei ok;have hz:=(om hi).1;have e:∀x,(Tr.is z).worth ns (pt.set j x) p=if i=j then x else pt.getD i 0:=fun x=>by
    show(match cI z ns with | some j'=>(pt.set j x).getD j' 0 | none=>0)=_;rw[hi];exact zq (by omega)
   by_cases c:i=j
   . subst c;have ez:z=y:=zV0 (hz.symm.trans hy);subst ez;refine⟨fun x=>x,?_,fun x=>⟨0,by rw[e x,zE0 rfl];simp⟩⟩
     have:(Tr.is z).names.count z=1:=by simp [Tr.names]
     rw[this];exact IsPoly.self
   . have ez:z≠y:=fun h=>c (by
      subst h;exact nd_at nd hz hy)
     refine⟨fun _=>pt.getD i 0,?_,fun x=>⟨0,by rw[e x,zB0 c];simp⟩⟩;exact IsPoly.const _ _
 | .yes,_=>⟨fun _=>1,IsPoly.const _ _,fun x=>⟨0,by show(1:Int)-1=_;simp⟩⟩
 | .no,_=>⟨fun _=>0,IsPoly.const _ _,fun x=>⟨0,by show(0:Int)-0=_;simp⟩⟩
 | .not a,ok=>by
   obtain⟨f,hf,h⟩:=gN (p:=p) hy hl nd a ok;refine⟨fun x=>1+(-1)*f x,(IsPoly.const 1 _).add (hf.mul (-1)),fun x=>?_⟩;obtain⟨k,hk⟩:=h x;obtain⟨m,hm⟩:=oV p (1-a.worth ns (pt.set j x) p);show p ∣ (1-a.worth ns (pt.set j x) p) % p-_;exact⟨m-k,by grind⟩
 | .bin o a b,⟨_,ok1,ok2⟩=>by
   obtain ⟨f,hf,h⟩:=gN (p:=p) hy hl nd a ok1;obtain⟨g,hg,h'⟩:=gN (p:=p) hy hl nd b ok2;have ec:(Tr.bin o a b).names.count y+1=a.names.count y+b.names.count y+1:=by
    show(a.names++b.names).count y+1=_;rw[List.count_append]
   rw [ec];have hF:IsPoly (a.names.count y+b.names.count y+1) f:=hf.upTo _ (by omega);have hG:IsPoly (a.names.count y+b.names.count y+1) g:=hg.upTo _ (by omega);have hP:=hf.prod hg;have fin:∀(c0 c1 c2:Int),(∀u v:Int,cW p o u v=(c0+c1*(u+v)+c2*(u*v)) % p)->∃F:Int->Int,IsPoly (a.names.count y+b.names.count y+1) F/\∀x:Int,p ∣ (Tr.bin o a b).worth ns (pt.set j x) p-F x:=fun c0 c1 c2 hJ=>by
    refine⟨fun x=>c0+c1*(f x+g x)+c2*(f x*g x),((IsPoly.const c0 _).add ((hF.add hG).mul c1)).add (hP.mul c2),fun x=>?_⟩;obtain⟨k,hk⟩:=h x;obtain⟨l,hl⟩:=h' x;show p ∣ cW p o (a.worth ns (pt.set j x) p) (b.worth ns (pt.set j x) p)-_;rw[hJ];generalize a.worth ns (pt.set j x) p=u at *
    generalize b.worth ns (pt.set j x) p=v at *
    obtain⟨m,hm⟩:=oV p (c0+c1*(u+v)+c2*(u*v));exact⟨m+c1*(k+l)+c2*(k*v+f x*l),by grind⟩
   by_cases c1:o="and"
   . exact fin 0 0 1 fun u v=>by unfold cW;rw[zE0 c1];congr 1;grind
   by_cases c2:o="or"
   . exact fin 0 1 (-1) fun u v=>by unfold cW;rw[zB0 c1,zE0 c2];congr 1;grind
   by_cases c3:o="odd"
   . exact fin 0 1 (-2) fun u v=>by unfold cW;rw[zB0 c1,zB0 c2,zE0 c3];congr 1;grind
   . exact fin 1 (-1) 2 fun u v=>by unfold cW;rw[zB0 c1,zB0 c2,zB0 c3];congr 1;grind
theorem sZ{ns:List Str}{pt:List Int}{p s:Int}{j D:Nat}{y:Str}(hy:ns[j]?=some y)(hl:pt.length=ns.length)(nd:ns.Nodup):∀ts:List Tr,(∀t∈ts,t.ok ns/\t.names.count y<=D)->∃f:Int->Int,IsPoly (D+1) f/\∀x:Int,p ∣ fH s (ts.map fun t=>t.worth ns (pt.set j x) p)-f x
 | [],_=>⟨fun _=>0,IsPoly.const _ _,fun x=>⟨0,by simp [fH]⟩⟩
 | t::ts,h=>by
   obtain⟨f,hf,h1⟩:=gN (p:=p) hy hl nd t (h t zU0).1;obtain⟨g,hg,h2⟩:=sZ (p:=p) (s:=s) hy hl nd ts fun u hu=>h u (qH0 _ hu)
   have hd:=(h t zU0).2;refine⟨fun x=>f x+s*g x,(hf.upTo _ (by omega)).add (hg.mul s),fun x=>?_⟩;obtain⟨k,hk⟩:=h1 x;obtain⟨l,hl⟩:=h2 x;show p ∣ t.worth ns (pt.set j x) p+s*fH s (ts.map fun t=>t.worth ns (pt.set j x) p)-_;exact⟨k+s*l,by grind⟩
theorem yL{p:Int}(hp:Pm p){xs:List Int}{f:Int->Int}(hn:(xs.length:Int)<=p)(hf:IsPoly xs.length f)(h:∀k,k<xs.length->p ∣ xs.getD k 0-f k)(r:Int):val p xs r=f r % p:=
 md (tF hp hn (uq hp hn) hf h r)
theorem En{ts:List Tr}{x:Str}:∀t∈ts,t.names.count x<=(bw ts x).toNat:=fun t ht=>by
 have:=Cg (d:=0) (List.mem_map.mpr ⟨t,ht,rfl⟩:((t.names.count x:Nat):Int)∈ts.map fun t=>(t.names.count x:Int))
 unfold bw;omega
theorem wu:∀(cs st:List Int)(x z:Int),(cs++[z]++st).set cs.length x=cs++[x]++st
 | [],_,_,_=>rfl
 | a::cs,st,x,z=>congrArg (a::·) (wu cs st x z)
theorem sv{ns:List Str}{cs:List Int}{p s:Int}{D:Nat}{y:Str}{ts:List Tr}(hy:ns[cs.length]?=some y)(nd:ns.Nodup)(h:∀t∈ts,t.ok ns/\t.names.count y<=D):∀l:List (List Int),(∀st∈l,cs.length+1+st.length=ns.length) ->
 ∃f:Int->Int,IsPoly (D+1) f/\∀x:Int,p ∣ (l.map fun st=>fH s (ts.map fun t=>t.worth ns (cs++[x]++st) p)).sum-f x
 | [],_=>⟨fun _=>0,IsPoly.const _ _,fun x=>⟨0,by simp⟩⟩
 | st::l,hs=>by
   obtain⟨f,hf,h1⟩:=sZ (p:=p) (s:=s) (pt:=cs++[0]++st) hy (by rw[zJ0,zJ0,qN0];exact hs st zU0) nd ts h;obtain⟨g,hg,h2⟩:=sv (p:=p) (s:=s) hy nd h l fun u hu=>hs u (qH0 _ hu)
   refine⟨fun x=>f x+g x,hf.add hg,fun x=>?_⟩;obtain⟨k,hk⟩:=h1 x;rw[wu]at hk;obtain⟨m,hm⟩:=h2 x;refine⟨k+m,?_⟩;simp only[zZ0,List.sum_cons];rw[Int.mul_add];omega
theorem kQ:∀(n:Nat)(s:List Int),s∈bQ n->s.length=n
 | 0,s,h=>by rw[zM0 h];rfl
 | n+1,s,h=>by
   obtain⟨t,ht,h⟩:=List.mem_flatMap.mp h
   have:=kQ n t ht
   rcases zY0 h with h | h
   . rw[h,zJ0,this];rfl
   . rw[zM0 h,zJ0,this];rfl
theorem Br{ns:List Str}{ts:List Tr}{s p:Int}{cs:List Int}{y:Str}(hp:Pm p)(hy:ns[cs.length]?=some y)(nd:ns.Nodup)(ok:∀t∈ts,t.ok ns)(tne:ts≠[])(dp:bw ts y<p)(r:Int) :
 val p (iC ns ts s p cs (bw ts y+1).toNat) r=bn ns ts s p (cs++[r]):=by
 have cl:cs.length<ns.length:=(zX0 hy).1;have d0:=tT (x:=y) tne;obtain⟨f,hf,h⟩:=sv (p:=p) (s:=s) hy nd (fun t ht=>⟨ok t ht,En t ht⟩) (bQ (ns.length-(cs.length+1))) fun st hst=>by
  have:=kQ _ _ hst
  omega
 have ll:(iC ns ts s p cs (bw ts y+1).toNat).length=(bw ts y).toNat+1:=by
  unfold iC;rw[zF0,qP0];omega
 have eq:∀x:Int,bn ns ts s p (cs++[x])=((bQ (ns.length-(cs.length+1))).map fun st=>fH s (ts.map fun t=>t.worth ns (cs++[x]++st) p)).sum % p:=fun x=>by
  unfold bn;rw[zJ0,qN0]
 rw [yL hp (f:=f) (by rw[ll];omega) (by rw[ll];exact hf) (fun k hk=>by
  have e:(iC ns ts s p cs (bw ts y+1).toNat).getD k 0=bn ns ts s p (cs++[(k:Int)]):=by
   unfold iC at hk ⊢;rw[zF0,qP0]at hk;rw[qT0,qE0,List.getElem?_range hk];rfl
  rw[e,eq];obtain⟨a,ha⟩:=h k;obtain⟨b,hb⟩:=oV p ((bQ (ns.length-(cs.length+1))).map fun st=>fH s (ts.map fun t=>t.worth ns (cs++[(k:Int)]++st) p)).sum;exact⟨a+b,by grind⟩) r,eq]
 obtain⟨a,ha⟩:=h r;exact md ⟨-a,by grind⟩
theorem wb{α:Type}(F:List α->Int)(G:List α->Int):∀l:List (List α),(l.map fun s=>F s+G s).sum=(l.map F).sum+(l.map G).sum
 | []=>rfl
 | a::l=>by
   simp only[zZ0,List.sum_cons,wb F G l];omega
theorem mU(F:List Int->Int):∀l:List (List Int),((l.flatMap fun s=>[s++[0],s++[1]]).map F).sum=(l.map fun s=>F (s++[0])+F (s++[1])).sum
 | []=>rfl
 | a::l=>by
   rw[List.flatMap_cons,zL0,List.sum_append,mU F l]
   simp
theorem lG:∀(n:Nat)(F:List Int->Int),((bQ (n+1)).map F).sum=((bQ n).map fun s=>F (0::s)+F (1::s)).sum
 | 0,F=>by simp [bQ]
 | n+1,F=>by
   have e1:((bQ (n+1+1)).map F).sum=((bQ (n+1)).map fun s=>F (s++[0])+F (s++[1])).sum:=mU F _;rw[e1,lG n fun s=>F (s++[0])+F (s++[1])];have e2:((bQ (n+1)).map fun s=>F (0::s)+F (1::s)).sum=((bQ n).map fun s=>(F (0::(s++[0]))+F (1::(s++[0])))+(F (0::(s++[1]))+F (1::(s++[1])))).sum:=mU (fun s=>F (0::s)+F (1::s)) _;rw[e2]
   congr 1
   refine List.map_congr_left fun s _=>?_
   show F (0::s++[0])+F (0::s++[1])+(F (1::s++[0])+F (1::s++[1]))=_;simp only[List.cons_append];omega
theorem xC{ns:List Str}{ts:List Tr}{s p:Int}{cs:List Int}(cl:cs.length<ns.length):(bn ns ts s p (cs++[0])+bn ns ts s p (cs++[1])) % p=bn ns ts s p cs:=by
 have eq:∀x:Int,bn ns ts s p (cs++[x])=((bQ (ns.length-(cs.length+1))).map fun st=>fH s (ts.map fun t=>t.worth ns (cs++[x]++st) p)).sum % p:=fun x=>by
  unfold bn;rw[zJ0,qN0]
 have e0:bn ns ts s p cs=((bQ (ns.length-(cs.length+1)+1)).map fun st=>fH s (ts.map fun t=>t.worth ns (cs++st) p)).sum % p:=by
  unfold bn;rw[show ns.length-cs.length=ns.length-(cs.length+1)+1 by omega]
 rw [e0,lG,eq,eq];have e1:((bQ (ns.length-(cs.length+1))).map fun st=>fH s (ts.map fun t=>t.worth ns (cs++0::st) p)+fH s (ts.map fun t=>t.worth ns (cs++1::st) p)).sum
  = ((bQ (ns.length-(cs.length+1))).map fun st=>fH s (ts.map fun t=>t.worth ns (cs++[0]++st) p)).sum+((bQ (ns.length-(cs.length+1))).map fun st=>fH s (ts.map fun t=>t.worth ns (cs++[1]++st) p)).sum:=by
  rw[←wb]
  congr 1
  refine List.map_congr_left fun st _=>?_
  simp only[List.append_assoc,List.singleton_append]
 rw[e1,←Int.add_emod]
theorem BI{ns:List Str}{ts:List Tr}{s p:Int}{cs:List Int}(cl:cs.length=ns.length):bn ns ts s p cs=hor s p (ts.map fun t=>t.worth ns cs p):=by
 rw[kE];unfold bn;rw[cl,Nat.sub_self]
 simp [bQ]
theorem sk{z:Ak}(k:AkOk z)(nd:z.ns.Nodup)(i:Int)(h:0<z.nr):dB z i=bn z.ns z.ts z.s z.p (z.to++[i]):=by
 obtain ⟨x,hx,ex,d0,d1,d4⟩:=k.deg h;unfold dB;rw[zE0 h];have e:z.tru=iC z.ns z.ts z.s z.p z.to (bw z.ts x+1).toNat:=by
  unfold Ak.tru;rw[zB0 (by omega),ex]
 have t0:z.ts≠[]:=fun e=>by have:=k.gk.t1;rw[e]at this;cases this
 rw[e];exact Br (wE k.gk.pr (by have:=k.gk.p9;omega)) hx nd (fun t ht=>(k.gk.tok t ht).1) t0 d1 i
theorem yO{z:Ak}(h:z.nr=0)(i:Nat){t:Tr}(ht:z.ts[i]?=some t):dB z (i:Int)=(cnt t z.ns:Int) % z.p:=by
 have hl:=(zX0 ht).1;unfold dB;have e:z.tru=z.ts.map (fun t=>(cnt t z.ns:Int)):=by
  unfold Ak.tru;rw[zE0 h]
 rw[zB0 (by omega),e,zF0,zE0 (by omega),qQ0,qT0,qE0,ht];rfl
theorem oo(s:Int){α:Type}(F:Tr->α->Int)(l:List α):∀ts:List Tr,fH s (ts.map fun t=>(l.map (F t)).sum)=(l.map fun a=>fH s (ts.map fun t=>F t a)).sum
 | []=>by
   simp only[List.map_nil,fH]
   induction l with
   | nil=>rfl
   | cons a l ih=>simpa using ih
 | t::ts=>by
   show(l.map (F t)).sum+s*fH s (ts.map fun t=>(l.map (F t)).sum)=_;rw[oo s F l ts];clear oo
   induction l with
   | nil=>simp
   | cons a l ih=>
     simp only[zZ0,List.sum_cons,fH]at ih ⊢
     grind
theorem Es{ns:List Str}{p:Int}(hp:1<p){t:Tr}(ok:t.ok ns):(cnt t ns:Int)=((bQ ns.length).map fun st=>t.worth ns st p).sum:=by
 unfold cnt;have h:∀st∈bQ ns.length,t.worth ns st p=if t.holds ns st then 1 else 0:=fun st hst=>du hp (iH _ _ hst) (kQ _ _ hst) t ok
 generalize bQ ns.length=l at h
 induction l with
 | nil=>rfl
 | cons a l ih=>
   have ih:=ih fun st hst=>h st (qH0 _ hst)
   rw[zZ0,List.sum_cons,←ih,h a zU0,List.filter_cons];cases t.holds ns a
   . simp
   . simp only[if_true,zQ0];omega
theorem vD{ns:List Str}{ts:List Tr}{s p:Int}(hp:1<p)(ok:∀t∈ts,t.ok ns):hor s p (ts.map fun t=>(cnt t ns:Int))=bn ns ts s p []:=by
 rw[kE];unfold bn;have e:(ts.map fun t=>(cnt t ns:Int))=ts.map fun t=>((bQ ns.length).map fun st=>t.worth ns st p).sum:=List.map_congr_left fun t ht=>Es hp (ok t ht)
 rw[e,oo s (fun t st=>t.worth ns st p)];rfl
section
variable {ns:List Str} {ts:List Tr} {p:Int}
def cZ(z:Ak)(n:Nat):List Int:=(List.range n).map fun k:Nat=>dB z ((k:Int) % z.p)
theorem gr(z:Ak)(n:Nat):(cZ z n).length=n:=by unfold cZ;rw[zF0,qP0]
theorem uz(z:Ak)(n:Nat):cZ z (n+1)=cZ z n++[dB z ((n:Int) % z.p)]:=by
 unfold cZ;rw[List.range_succ,zL0];rfl
theorem ve(z:Ak){n:Nat}(h:z.mn=(n:Int)):qX z.mn (cZ z n)=cZ z n:=by
 unfold qX;rw[gr,h,Int.sub_self];exact List.append_nil _
theorem ne_tc:¬ (("true":Str)="coin"):=by decide
def hB (x:Str):List Hr:=[.set x (.num 0),.say (.ask "true" (.box x)),.set x (.op "+" (.box x) (.num 1)),.go 1]
theorem qP{z:Ak}{rows:List Hr}{n:Nat}{s:MS}(h1:s.pl<(rows.length:Int))(h2:(s.sd.length:Int)<z.mn):jL z rows (n+1) s=jL z rows n (dC z rows s):=zE0 ⟨h1,h2⟩
theorem wx{z:Ak}{rows:List Hr}{s:MS}(h:¬ (s.pl<(rows.length:Int)/\(s.sd.length:Int)<z.mn)):∀n,jL z rows n s=s
 | 0=>rfl
 | n+1=>zB0 h
theorem runB{z:Ak}{x:Str}(p0:0<z.p):∀(m j fuel:Nat)(bx:Str->Int),z.mn=((j+m:Nat):Int)->3*m<=fuel->bx x=(j:Int) % z.p->(jL z (hB x) fuel ⟨1,bx,cZ z j⟩).sd=cZ z (j+m)
 | 0,j,fuel,bx,hm,hf,hb=>by
   rw[wx (fun c=>absurd c.2 (by show ¬ ((cZ z j).length:Int)<z.mn;rw[gr,hm];omega))];rfl
 | m+1,j,fuel,bx,hm,hf,hb=>by
   obtain⟨fu,rfl⟩:∃fu,fuel=fu+3:=⟨fuel-3,by omega⟩
   have e1:dC z (hB x) ⟨1,bx,cZ z j⟩=⟨2,bx,cZ z (j+1)⟩:=by
    show(⟨1+1,bx,cZ z j++[if("true":Str)="coin" then iY z (bx x)else dB z (bx x)]⟩:MS)=_;rw[zB0 ne_tc,hb,uz];rfl
   rw[qP (by show(1:Int)<4;decide) (by show((cZ z j).length:Int)<z.mn;rw[gr,hm];omega),e1];cases m with
   | zero=>
     rw[wx (fun c=>absurd c.2 (by show ¬ ((cZ z (j+1)).length:Int)<z.mn;rw[gr,hm];omega))]
   | succ m=>
     have hl:((cZ z (j+1)).length:Int)<z.mn:=by rw[gr,hm];omega
     have e2:dC z (hB x) ⟨2,bx,cZ z (j+1)⟩=⟨3,iz bx x (opV z.p "+" (bx x) (1 % z.p)),cZ z (j+1)⟩:=rfl;have e3:dC z (hB x) ⟨3,iz bx x (opV z.p "+" (bx x) (1 % z.p)),cZ z (j+1)⟩=⟨1,iz bx x (opV z.p "+" (bx x) (1 % z.p)),cZ z (j+1)⟩:=rfl;rw[qP (by show(2:Int)<4;decide) hl,e2,qP (by show(3:Int)<4;decide) hl,e3];have hb2:iz bx x (opV z.p "+" (bx x) (1 % z.p)) x=((j+1:Nat):Int) % z.p:=by
      unfold iz;rw[zE0 rfl];show(bx x+1 % z.p) % z.p=_;rw[hb,Int.emod_add_emod,Int.add_emod_emod];rfl
     have:=runB p0 (m+1) (j+1) fu _ (by rw[hm];omega) (by omega) hb2
     rw[this]
     congr 1
     omega
end
def dr:List Hr:=hB "i"
theorem wv{z:Ak}{bx:Str->Int}{n:Nat}(p0:0<z.p)(hm:z.mn=(n:Int))(n1:1<=n)(n66:n<=66):cT z dr bx=cZ z n:=by
 have e1:dC z dr ⟨0,bx,[]⟩=⟨1,iz bx "i" (0 % z.p),cZ z 0⟩:=rfl;unfold cT;rw[qP (by show(0:Int)<4;decide) (by rw[hm];show(0:Int)<(n:Int);omega),e1,show dr=hB "i" from rfl,runB p0 n 0 199 _ (by rw[hm,Nat.zero_add]) (by omega) (by unfold iz;rw[zE0 rfl];rfl),Nat.zero_add];exact ve z hm
section
variable {ns:List Str} {t:Tr} {p:Int} {rB:List Hr}
theorem oO(k:GmK ns [t] p):hd0 ⟨ns,[t],p⟩ dr=(cnt t ns:Int) % p:=by
 have p2:=k.p2;unfold hd0;rw[wv (n:=1) (by show 0<p;omega) rfl (by decide) (by decide)];show dB ((⟨ns,[t],p⟩:Gv).z 0 1 0 []) (((0:Nat):Int) % p)=_;rw[show(((0:Nat):Int) % p)=((0:Nat):Int)from Int.zero_emod p];exact yO rfl 0 rfl
theorem wU(k:GmK ns [t] p):(cnt t ns:Int) % p=bn ns [t] 0 p []:=by
 have p2:=k.p2;rw[←vD (s:=0) (p:=p) (by omega) (fun u hu=>(k.tok u hu).1)];show _=hor 0 p [(cnt t ns:Int)];show _=(0*0+(cnt t ns:Int)) % p;rw[Int.zero_mul,Int.zero_add]
theorem Co(k:GmK ns [t] p)(n6:ns.length<=6)(nd:ns.Nodup){ws:List Int}{hd:Int}{bx:Str->Int}(wl:ws.length<ns.length)(wo:∀w∈ws,w=0∨w=1)(h0:0<=hd)(h1:hd<p):cT ((⟨ns,[t],p⟩:Gv).z ((ws.length:Int)+1) 2 hd ws) dr bx=[bn ns [t] 0 p (ws++[0]),bn ns [t] 0 p (ws++[1])]:=by
 have p2:=k.p2;have ok:AkOk ((⟨ns,[t],p⟩:Gv).z ((ws.length:Int)+1) 2 hd ws):=Dd (G:=⟨ns,[t],p⟩) k n6 wl wo h0 h1;rw[wv (n:=2) (by show 0<p;omega) rfl (by decide) (by decide)];show [dB _ (((0:Nat):Int) % p),dB _ (((1:Nat):Int) % p)]=_;rw[show(((0:Nat):Int) % p)=0 from Int.zero_emod p,show(((1:Nat):Int) % p)=1 from qS0 (by decide) (by omega),sk ok nd 0 (by show 0<(ws.length:Int)+1;omega),sk ok nd 1 (by show 0<(ws.length:Int)+1;omega)]
theorem BG(k:GmK ns [t] p){ws:List Int}(wl:ws.length=ns.length)(wo:∀w∈ws,w=0∨w=1):bn ns [t] 0 p ws=eG ns t ws:=by
 have p2:=k.p2;rw[BI wl];show hor 0 p [t.worth ns ws p]=_;rw[du (by omega) wo wl t (k.tok t zU0).1];unfold eG
 split
 . exact mH p 1 (by decide) (by omega)
 . exact mH p 0 (by decide) (by omega)
theorem BH(p0:0<p)(ws:List Int):0<=bn ns [t] 0 p ws/\bn ns [t] 0 p ws<p:=⟨qB0 _ (by omega),qF0 _ p0⟩
structure CauOk(ns:List Str)(o:Oc)(x y:Bool)(ws:List Int):Prop where
 eq:o=.cau x y ws
 wl:ws.length<=ns.length
 wo:∀w∈ws,w=0∨w=1
theorem wA(k:GmK ns [t] p)(n6:ns.length<=6)(nd:ns.Nodup):∀(n:Nat)(ws:List Int)(bA:Str->Int)(bB:Str->Int)(hB:Int),ws.length+n=ns.length->(∀w∈ws,w=0∨w=1)->hB≠bn ns [t] 0 p ws->∃ws',CauOk ns (kf ⟨ns,[t],p⟩ dr rB (eG ns t) n ws bA (bn ns [t] 0 p ws) bB hB) false true ws'
 | 0,ws,bA,bB,hB,wl,wo,ne=>by
   have e:=BG k (ws:=ws) (by omega) wo;refine⟨ws,?_,by omega,wo⟩;show Oc.cau (!decide (bn ns [t] 0 p ws=eG ns t ws)) (!decide (hB=eG ns t ws)) ws=_;rw[decide_eq_true e,decide_eq_false (by rw[←e];exact ne)];rfl
 | n+1,ws,bA,bB,hB,wl,wo,ne=>by
   have p2:=k.p2;obtain⟨r0,r1⟩:=BH (ns:=ns) (t:=t) (p:=p) (by omega) ws;have two:=Co k n6 nd (bx:=bA) (by omega) wo r0 r1;have fA:fits p (bn ns [t] 0 p ws) (cT ((⟨ns,[t],p⟩:Gv).z ((ws.length:Int)+1) 2 (bn ns [t] 0 p ws) ws) dr bA)=true:=by
    rw[two];exact decide_eq_true (xC (by omega))
   generalize esB:cT ((⟨ns,[t],p⟩:Gv).z ((ws.length:Int)+1) 2 hB ws) rB bB=sB;generalize esA:cT ((⟨ns,[t],p⟩:Gv).z ((ws.length:Int)+1) 2 (bn ns [t] 0 p ws) ws) dr bA=sA at two fA
   by_cases fB:fits p hB sB=true
   . have e:kf ⟨ns,[t],p⟩ dr rB (eG ns t) (n+1) ws bA (bn ns [t] 0 p ws) bB hB=kf ⟨ns,[t],p⟩ dr rB (eG ns t) n (ws++[iB sA sB]) (bxA ((⟨ns,[t],p⟩:Gv).z ((ws.length:Int)+1) 2 (bn ns [t] 0 p ws) ws) dr bA) (qU (iB sA sB) sA) (bxA ((⟨ns,[t],p⟩:Gv).z ((ws.length:Int)+1) 2 hB ws) rB bB) (qU (iB sA sB) sB):=by
      rw[←esA,←esB];exact zE0 ⟨by rw[esA];exact fA,by rw[esB];exact fB⟩
     have ep:qU (iB sA sB) sA=bn ns [t] 0 p (ws++[iB sA sB]):=by
      rw[two];unfold qU;rcases yI [bn ns [t] 0 p (ws++[0]),bn ns [t] 0 p (ws++[1])] sB with z | z
      . rw[z,zE0 rfl];rfl
      . rw[z,zB0 (by decide)];rfl
     rw[e,ep];refine wA k n6 nd n _ _ _ _ (by rw[zJ0,qN0];omega) (fun w hw=>?_) ?_
     . rcases qD0 hw with h | h
       . exact wo w h
       . rw[zM0 h];exact yI _ _
     . rw [←ep];have hA:=of_decide_eq_true fA;have hB':=of_decide_eq_true fB;intro z;unfold qU iB at z
       by_cases c:g0 sA=g0 sB
       . rw[zE0 c,zB0 (by decide),zB0 (by decide)]at z;rw[←hA,←hB',c,z]at ne;exact ne rfl
       . rw[zB0 c,zE0 rfl,zE0 rfl]at z;exact c z.symm
   . refine ⟨ws,?_,by omega,wo⟩;have e:kf ⟨ns,[t],p⟩ dr rB (eG ns t) (n+1) ws bA (bn ns [t] 0 p ws) bB hB=.cau (!fits p (bn ns [t] 0 p ws) sA) (!fits p hB sB) ws:=by
      rw[←esA,←esB];exact zB0 fun z=>fB (by rw[←esB];exact z.2)
     rw[e,fA,Bool.eq_false_iff.mpr fB];rfl
def Oc.swap:Oc->Oc
 | .agr v=>.agr v
 | .cau x y ws=>.cau y x ws
theorem yH(xA xB:List Int):iB xB xA=iB xA xB:=by
 unfold iB
 by_cases c:g0 xA=g0 xB
 . rw[zE0 c,zE0 c.symm]
 . rw[zB0 c,zB0 (Ne.symm c)]
theorem sG{G:Gv}{rA rB:List Hr}{tru:List Int->Int}:∀(n:Nat)(ws:List Int)(bA:Str->Int)(hA:Int)(bB:Str->Int)(hB:Int),kf G rB rA tru n ws bB hB bA hA=(kf G rA rB tru n ws bA hA bB hB).swap
 | 0,_,_,_,_,_=>rfl
 | n+1,ws,bA,hA,bB,hB=>by
   show(if _ then _ else _)=Oc.swap (if _ then _ else _);generalize cT (G.z ((ws.length:Int)+1) 2 hA ws) rA bA=sA;generalize cT (G.z ((ws.length:Int)+1) 2 hB ws) rB bB=sB
   by_cases c:fits G.p hA sA=true/\fits G.p hB sB=true
   . rw[zE0 c,zE0 ⟨c.2,c.1⟩,yH sA sB];exact sG n _ _ _ _ _
   . rw[zB0 c,zB0 fun z=>c ⟨z.2,z.1⟩];rfl
theorem nY{rA rB:List Hr}{tru:List Int->Int}{G:Gv}(h:hd0 G rA=hd0 G rB):lY G rA rB tru=.agr (hd0 G rA):=zE0 h
theorem zH(k:GmK ns [t] p)(n6:ns.length<=6)(nd:ns.Nodup)(h:¬ hd0 ⟨ns,[t],p⟩ rB=(cnt t ns:Int) % p):∃ws,CauOk ns (lY ⟨ns,[t],p⟩ dr rB (eG ns t)) false true ws/\CauOk ns (lY ⟨ns,[t],p⟩ rB dr (eG ns t)) true false ws:=by
 have eh:=oO k;obtain⟨ws,c⟩:=wA (rB:=rB) k n6 nd ns.length [] (bxA ((⟨ns,[t],p⟩:Gv).z 0 1 0 []) dr (fun _=>0)) (bxA ((⟨ns,[t],p⟩:Gv).z 0 1 0 []) rB (fun _=>0)) (hd0 ⟨ns,[t],p⟩ rB) (Nat.zero_add _) (fun w hw=>by cases hw) (by rw[←wU k];exact h);rw[←wU k,←eh]at c;refine⟨ws,⟨(zB0 fun z=>h (z.symm.trans eh)).trans c.eq,c.wl,c.wo⟩,?_,c.wl,c.wo⟩;have e:lY ⟨ns,[t],p⟩ rB dr (eG ns t)=kf ⟨ns,[t],p⟩ rB dr (eG ns t) ns.length [] (bxA ((⟨ns,[t],p⟩:Gv).z 0 1 0 []) rB (fun _=>0)) (hd0 ⟨ns,[t],p⟩ rB) (bxA ((⟨ns,[t],p⟩:Gv).z 0 1 0 []) dr (fun _=>0)) (hd0 ⟨ns,[t],p⟩ dr):=zB0 fun z=>h (z.trans eh)
 rw[e,sG,c.eq];rfl
end
def kept:List Str:=["yes","no","not","and","or","odd","same","round","due","asked","true","coin"]
def NmK(x:Str):Prop:=(∀c∈x.cps.toList,97<=c/\c<=122)/\1<=x.length/\x.length<=6/\x∉kept
def Tm.ok:Tm->Prop
 | .num n=>0<=n/\n<1000000000000 | .box x=>NmK x | .plain w=>w∈plainW | .ask w a=>w∈askW/\a.ok | .op s a b=>s∈signW/\a.ok/\b.ok
def Tm.fit(m:Nat)(t:Tm):Prop:=t.ok/\t.size<=m/\t.depth<=8
def Hr.ok(m:Nat):Hr->Prop
 | .fin=>True | .go n=>0<=n/\n<1000000000000 | .iff t n=>t.fit m/\0<=n/\n<1000000000000 | .set x t=>NmK x/\t.fit m | .say t=>t.fit m
def LET:Str:="abcdefghijklmnopqrstuvwxyz"
def ENDS:Str:=" ()"
def isIn(L:Str)(c:Nat):Bool:=!(Builtin.Str.occurrences L ⟨#[c]⟩ 0 L.length 1).isEmpty
def ir(z:Str):Bool:=decide (1<=z.length)&&decide (z.length<=6)&&!inV (.str z) (kept.map V.str)&&z.cps.toList.all (isIn LET)
def FIG:Str:="0123456789"
def jt (z:Str):Bool:=decide (1<=z.length)&&decide (z.length<=12)&&!(decide (1<z.length)&&Txt.startswith z "0")&&z.cps.toList.all (isIn FIG)
theorem sx {z:Str} {c:Nat} (h:z.cps.toList[0]?=some c):Txt.startswith z "0"=decide (V.str ⟨#[c]⟩=V.str "0"):=by
 have q:=StrLaws.subAt_one z 48 0;have e0:("0":Str)=⟨#[48]⟩:=by decide
 unfold Txt.startswith;rw[e0]
 by_cases hc:c=48
 . subst hc
   have:=q.mpr h
   rw[show decide (V.str (⟨#[48]⟩:Str)=V.str ⟨#[48]⟩)=true from decide_eq_true rfl];simp only[Bool.and_eq_true,decide_eq_true_eq];exact this
 . have hne:¬ (V.str (⟨#[c]⟩:Str)=V.str ⟨#[48]⟩):=fun e=>hc (by
    have:=V.str.inj e
    injection this with this
    simpa using this)
   rw[show decide (V.str (⟨#[c]⟩:Str)=V.str ⟨#[48]⟩)=false from decide_eq_false hne];rw[Bool.eq_false_iff];intro e;simp only[Bool.and_eq_true,decide_eq_true_eq]at e
   have:=q.mp e
   rw[h]at this;exact hc (zV0 this)
inductive spTxt(fB:Str->Bool)(vs:List V)(H:Hp)(Q:VK)(u_3:XK):Prop where
 | mk:∀z:Str,(vs=[.str z])->(z.length<=1000)->(∀H',Same H H'->Q (.bl (fB z)) H')->spTxt fB vs H Q u_3
structure Tx(K:W.Frag)(mg:Str->Option Value):Prop where
 letters:∃t,mg "LETTERS"=some (.str LET t)
 longest:∃t,mg "LONGEST_NAME"=some (.int 6 t)
 keptW:∃a,mg "KEPT_WORDS"=some (.ref a)/\∀H,SqT K H a (kept.map V.str)
 ends:∃t,mg "WORD_ENDS"=some (.str ENDS t)
 within:∃t,mg "MOST_WITHIN"=some (.int 8 t)
 parts:∃t,mg "MOST_PARTS"=some (.int 20 t)
 figures:∃t,mg "FIGURES"=some (.str FIG t)
 most:∃t,mg "MOST_FIGURES"=some (.int 12 t)
 rows:∃t,mg "MOST_ROWS"=some (.int 60 t)
 signs:∃a,mg "SIGNS"=some (.ref a)/\∀H,SqT K H a (signW.map V.str)
 asking:∃a,mg "ASKING_WORDS"=some (.ref a)/\∀H,SqT K H a (askW.map V.str)
 plain:∃a,mg "PLAIN_WORDS"=some (.ref a)/\∀H,SqT K H a (plainW.map V.str)
theorem oM(z:Str):z.cps.size=z.length:=rfl
theorem uM:FnScope ["text"] ["text"] (ak li):=⟨rfl,rfl,rfl,by decide,rfl,by decide,by decide⟩
theorem vq {f:Addr} {fd:FuncData} (F:Fun K "is_name" "is_name" li f fd) (B:Bl mg) (T:Tx K mg):FnOk P w K mg base CX0 1 f fd ["text"] (spTxt ir):=by
 refine F.ok uM (fun vs H Q E h=>?_) (fun cdv A outer s H vs Q E hr h=>?_)
 . obtain⟨z,rfl,_⟩:=h;rfl
 obtain ⟨z,rfl,hz,q⟩:=h;obtain⟨t1,g1⟩:=T.letters;obtain⟨t3,g3⟩:=T.longest;obtain⟨ka,g5,hk⟩:=T.keptW;refine⟨_,(aa (aB (PW.pt (cV (af cJ (aA cj rfl B.len PySem.boot_len (ae (pv 0) aI)) ac (ao _)) (cV (af gB (aA cj rfl B.len PySem.boot_len (ae (pv 0) aI)) (cq (v:=.int 6) rfl g3 ⟨_,rfl⟩) (ao _)) (de (af fc (pv 0) (cq (v:=.ref ka) rfl g5 rfl) (by rfl')))))) (ad (am dZ)) aq)
  (ad (am (aA (ua rfl) rfl B.all PyProof.Rows.boot_all (ae (cr (N:=[]) (ix:=[]) (cl:=[]) rfl (CompScope.closed (by rfl') (by decide) rfl (by decide) rfl (by rfl')) rfl (zM (pv 0))
   (fun _ _ _=>df (cG pX (pv 0) (cq (v:=.str LET) rfl g1 ⟨_,rfl⟩) (by rfl')))) aI))))),?_⟩
 have fls:ir z=false->Q (.bl false) H:=fun e=>by
  have:=q H (Same.refl H)
  rw[e]at this;exact this
 refine⟨_,rfl,z,rfl,bv hz,_,_,rfl,rfl,_,rfl,?_⟩
 by_cases c1:(z.length:Int)<1
 . refine aS c1 (dh ?_);exact fls (by unfold ir;rw[decide_eq_false (show ¬ 1<=z.length by omega)];rfl)
 refine au c1 ?_;refine⟨_,rfl,z,rfl,bv hz,_,_,rfl,rfl,_,rfl,?_⟩
 by_cases c2:(6:Int)<(z.length:Int)
 . refine aS c2 (dh ?_);exact fls (by unfold ir;rw[decide_eq_false (show ¬ z.length<=6 by omega)];simp)
 refine au c2 ?_;refine⟨_,rfl,ka,_,rfl,.inr (hk _),rfl,(by decide),_,rfl,?_⟩;cases c3:inV (.str z) (kept.map V.str)with
 | true=>
   refine dh ?_;exact fls (by unfold ir;rw[c3];simp)
 | false=>
   refine cb ?_;refine⟨_,rfl,z,rfl,fun D hD=>?_⟩;refine oY (z:=z) (fun i H'=>H' D=some (.lst (((z.cps.toList.take i).map (isIn LET)).map V.bl))/\Same H H') ⟨by rw[aE];rfl,zC0 hD _⟩ ?_ ?_
   . rintro i c H' hc ⟨hl,s0⟩;have hi:i<z.cps.size:=(Array.getElem?_eq_some_iff.mp hc).1;rw[oM]at hi;refine⟨_,rfl,_,_,rfl,rfl,_,hl,?_,Nx.of hi ⟨?_,?_⟩⟩
     . rw[zF0,zF0,qM0];exact aM (by omega)
     . rw [aE];have ec:z.cps.toList[i]?=some c:=by simpa using hc
       rw[qK0,ec,zL0,zL0];rfl
     . intro b o e;rw[av (aJ e hD)];exact s0 b o e
   . rintro H' ⟨hl,s0⟩;rw[show z.cps.toList.take z.cps.size=z.cps.toList by rw[←Array.length_toList];exact qJ0]at hl;refine⟨D,_,rfl,zG0 hl,?_⟩;have e:ir z=(z.cps.toList.map (isIn LET)).all id:=by
      unfold ir;rw[c3,decide_eq_true (show 1<=z.length by omega),decide_eq_true (show z.length<=6 by omega),List.all_map];rfl
     rw[←e];exact q H' s0
theorem pC:FnScope ["text"] ["text"] (ak hC):=⟨rfl,rfl,rfl,by decide,rfl,by decide,by decide⟩
theorem pI {f:Addr} {fd:FuncData} (F:Fun K "is_figures" "is_figures" hC f fd) (B:Bl mg) (T:Tx K mg):FnOk P w K mg base CX0 1 f fd ["text"] (spTxt jt):=by
 refine F.ok pC (fun vs H Q E h=>?_) (fun cdv A outer s H vs Q E hr h=>?_)
 . obtain⟨z,rfl,_⟩:=h;rfl
 obtain ⟨z,rfl,hz,q⟩:=h;obtain⟨t1,g1⟩:=T.figures;obtain⟨t3,g3⟩:=T.most;refine⟨_,(aa (aB (PW.pt (cV (af cJ (aA cj rfl B.len PySem.boot_len (ae (pv 0) aI)) ac (ao _)) (de (af gB (aA cj rfl B.len PySem.boot_len (ae (pv 0) aI)) (cq (v:=.int 12) rfl g3 ⟨_,rfl⟩) (ao _))))) (ad (am dZ)) aq)
  (aa (aB (PW.pt (oa (af gB (aA cj rfl B.len PySem.boot_len (ae (pv 0) aI)) ac (ao _)) (mq (cv (dH PySem.F.plainAttrs_str PySem.F.slot_str_startswith PySem.F.type_str_startswith pN (pv 0) (ae ax aI)))))) (ad (am dZ)) aq)
  (ad (am (aA (ua rfl) rfl B.all PyProof.Rows.boot_all (ae (cr (N:=[]) (ix:=[]) (cl:=[]) rfl (CompScope.closed (by rfl') (by decide) rfl (by decide) rfl (by rfl')) rfl (zM (pv 0))
   (fun _ _ _=>df (cG pX (pv 0) (cq (v:=.str FIG) rfl g1 ⟨_,rfl⟩) (by rfl')))) aI)))))),?_⟩
 have fls:jt z=false->Q (.bl false) H:=fun e=>by
  have:=q H (Same.refl H)
  rw[e]at this;exact this
 refine⟨_,rfl,z,rfl,bv hz,_,_,rfl,rfl,_,rfl,?_⟩
 by_cases c1:(z.length:Int)<1
 . refine aS c1 (dh ?_);exact fls (by unfold jt;rw[decide_eq_false (show ¬ 1<=z.length by omega)];rfl)
 refine au c1 ?_;refine⟨_,rfl,z,rfl,bv hz,_,_,rfl,rfl,_,rfl,?_⟩
 by_cases c2:(12:Int)<(z.length:Int)
 . refine aS c2 ?_;exact fls (by unfold jt;rw[decide_eq_false (show ¬ z.length<=12 by omega)];simp)
 refine au c2 ?_;refine⟨_,rfl,z,rfl,bv hz,_,_,rfl,rfl,_,rfl,?_⟩
 by_cases c4:(1:Int)<(z.length:Int)
 . refine aS c4 ?_;refine⟨_,rfl,rfl,z,_,rfl,rfl,_,rfl,?_⟩;cases c5:Txt.startswith z "0" with
   | true=>
     refine dh ?_;exact fls (by unfold jt;rw[c5,decide_eq_true (show 1<z.length by omega)];simp)
   | false=>
     refine cb ?_;have c3:(decide (1<z.length)&&Txt.startswith z "0")=false:=by rw[c5];simp
     refine⟨_,rfl,z,rfl,fun D hD=>?_⟩;refine oY (z:=z) (fun i H'=>H' D=some (.lst (((z.cps.toList.take i).map (isIn FIG)).map V.bl))/\Same H H') ⟨by rw[aE];rfl,zC0 hD _⟩ ?_ ?_
     . rintro i c H' hc ⟨hl,s0⟩;have hi:i<z.cps.size:=(Array.getElem?_eq_some_iff.mp hc).1;rw[oM]at hi;refine⟨_,rfl,_,_,rfl,rfl,_,hl,?_,Nx.of hi ⟨?_,?_⟩⟩
       . rw[zF0,zF0,qM0];exact aM (by omega)
       . rw [aE];have ec:z.cps.toList[i]?=some c:=by simpa using hc
         rw[qK0,ec,zL0,zL0];rfl
       . intro b o e;rw[av (aJ e hD)];exact s0 b o e
     . rintro H' ⟨hl,s0⟩;rw[show z.cps.toList.take z.cps.size=z.cps.toList by rw[←Array.length_toList];exact qJ0]at hl;refine⟨D,_,rfl,zG0 hl,?_⟩;have e:jt z=(z.cps.toList.map (isIn FIG)).all id:=by
        unfold jt;rw[c3,decide_eq_true (show 1<=z.length by omega),decide_eq_true (show z.length<=12 by omega),List.all_map];rfl
       rw[←e];exact q H' s0
 . refine au c4 ?_;refine cb ?_;have c3:(decide (1<z.length)&&Txt.startswith z "0")=false:=by rw[decide_eq_false (show ¬ 1<z.length by omega)];rfl
   refine⟨_,rfl,z,rfl,fun D hD=>?_⟩;refine oY (z:=z) (fun i H'=>H' D=some (.lst (((z.cps.toList.take i).map (isIn FIG)).map V.bl))/\Same H H') ⟨by rw[aE];rfl,zC0 hD _⟩ ?_ ?_
   . rintro i c H' hc ⟨hl,s0⟩;have hi:i<z.cps.size:=(Array.getElem?_eq_some_iff.mp hc).1;rw[oM]at hi;refine⟨_,rfl,_,_,rfl,rfl,_,hl,?_,Nx.of hi ⟨?_,?_⟩⟩
     . rw[zF0,zF0,qM0];exact aM (by omega)
     . rw [aE];have ec:z.cps.toList[i]?=some c:=by simpa using hc
       rw[qK0,ec,zL0,zL0];rfl
     . intro b o e;rw[av (aJ e hD)];exact s0 b o e
   . rintro H' ⟨hl,s0⟩;rw[show z.cps.toList.take z.cps.size=z.cps.toList by rw[←Array.length_toList];exact qJ0]at hl;refine⟨D,_,rfl,zG0 hl,?_⟩;have e:jt z=(z.cps.toList.map (isIn FIG)).all id:=by
      unfold jt;rw[c3,decide_eq_true (show 1<=z.length by omega),decide_eq_true (show z.length<=12 by omega),List.all_map];rfl
     rw[←e];exact q H' s0
theorem DR:∀c:Fin 26,isIn LET (97+c.val)=true:=by decide
theorem Ci:∀c:Fin 26,isIn ENDS (97+c.val)=false:=by decide
theorem ends_in:isIn ENDS 32=true/\isIn ENDS 40=true/\isIn ENDS 41=true:=by decide
theorem AH{c:Nat}(h:97<=c/\c<=122):isIn LET c=true:=by
 have:=DR ⟨c-97,by omega⟩
 rwa [show 97+(⟨c-97,by omega⟩:Fin 26).val=c by show 97+(c-97)=c;omega]at this
theorem yj{c:Nat}(h:97<=c/\c<=122):isIn ENDS c=false:=by
 have:=Ci ⟨c-97,by omega⟩
 rwa [show 97+(⟨c-97,by omega⟩:Fin 26).val=c by show 97+(c-97)=c;omega]at this
theorem wL{x:Str}(h:NmK x):ir x=true:=by
 obtain⟨hl,h1,h6,hk⟩:=h;unfold ir;rw[ik,decide_eq_true h1,decide_eq_true h6,decide_eq_false hk];simp only[Bool.and_self,Bool.not_false,Bool.true_and];rw[List.all_eq_true];exact fun c hc=>AH (hl c hc)
def stl(l:List Nat):Str:=⟨l.toArray⟩
theorem Bx{a b:Str}(h:a.cps.toList=b.cps.toList):a=b:=by
 cases a with
 | mk x=>
   cases b with
   | mk y=>
     have:x=y:=Array.toList_inj.mp h
     rw[this]
theorem jC(x:Str):stl x.cps.toList=x:=rfl
theorem Bz(l:List Nat):(stl l).length=l.length:=by
 show l.toArray.size=_
 simp
theorem gH(a b:Str):(a++b).cps.toList=a.cps.toList++b.cps.toList:=by simp [Str.cps_append]
theorem rD:(("(":Str)).cps.toList=[40]:=by decide
theorem Ax:((")":Str)).cps.toList=[41]:=by decide
theorem jM:((" ":Str)).cps.toList=[32]:=by decide
theorem yX{a b:Str}(h:V.str a=V.str b):a=b:=V.str.inj h
theorem neStr{a b:Str}(h:a≠b):¬ V.str a=V.str b:=fun z=>h (yX z)
def jn(c:Nat):List (List Nat)->List Nat
 | []=>[]
 | [a]=>a
 | a::b::r=>a++c::jn c (b::r)
theorem Bb{c:Nat}:∀{a b x y:List Nat},c∉a->c∉b->a++c::x=b++c::y->a=b/\x=y
 | [],[],_,_,_,_,h=>⟨rfl,(List.cons.inj h).2⟩
 | [],d::b,x,y,_,hb,h=>by
   have:=(List.cons.inj h).1
   exact absurd (by rw[this];exact zU0) hb
 | d::a,[],x,y,ha,_,h=>by
   have:=(List.cons.inj h).1
   exact absurd (by rw[←this];exact zU0) ha
 | d::a,e::b,x,y,ha,hb,h=>by
   have h':=List.cons.inj h;have r:=Bb (fun z=>ha (qH0 _ z)) (fun z=>hb (qH0 _ z)) h'.2;exact⟨by rw[h'.1,r.1],r.2⟩
theorem AD{c:Nat}:∀{l m:List (List Nat)},l≠[]->m≠[]->(∀a∈l,c∉a)->(∀a∈m,c∉a)->jn c l=jn c m->l=m
 | [],_,h,_,_,_,_=>absurd rfl h
 | _::_,[],_,h,_,_,_=>absurd rfl h
 | [a],[b],_,_,_,_,h=>congrArg (fun z=>[z]) h
 | [a],b::d::r,_,_,hl,_,h=>by
   have:c∈a:=by
    rw[show a=b++c::jn c (d::r)from h]
    simp
   exact absurd this (hl a zU0)
 | a::d::r,[b],_,_,_,hm,h=>by
   have:c∈b:=by
    rw[show b=a++c::jn c (d::r)from h.symm]
    simp
   exact absurd this (hm b zU0)
 | a::d::r,b::e::s,_,_,hl,hm,h=>by
   have q:=Bb (hl a zU0) (hm b zU0) (show a++c::jn c (d::r)=b++c::jn c (e::s)from h)
   have:=AD (by simp) (by simp) (fun z hz=>hl z (qH0 _ hz)) (fun z hz=>hm z (qH0 _ hz)) q.2
   rw[q.1,this]
def cd(x:Str):List Nat:=x.cps.toList
theorem Ev{x y:Str}(h:cd x=cd y):x=y:=by
 have:x.cps=y.cps:=Array.toList_inj.mp h
 cases x;cases y;exact congrArg Str.mk this
theorem ql(x y:Str):cd (x++y)=cd x++cd y:=by
 unfold cd;rw[Str.cps_append]
 simp
theorem rQ(c:Nat):∀ps:List Str,cd (Str.join ⟨#[c]⟩ ps)=jn c (ps.map cd)
 | []=>rfl
 | [a]=>rfl
 | a::b::r=>by
   show cd (a++⟨#[c]⟩++Str.join ⟨#[c]⟩ (b::r))=cd a++c::jn c ((b::r).map cd);rw[ql,ql,rQ c (b::r)]
   simp [cd]
theorem Cm(sep:Str):∀ps:List Str,Txt.join sep ps=Str.join sep ps
 | []=>rfl
 | a::r=>StrLaws.glued_cons sep r a
theorem uE(x y:Str):Txt.split x y≠[]:=by
 unfold Txt.split
 split
 . exact List.cons_ne_nil _ _
 . split
   . exact List.cons_ne_nil _ _
   . intro h
     have:=length_partsBetween x (Builtin.Str.occurrences x y 0 x.length (x.length+1)) y.length
     rw[h]at this
     simp at this
theorem oJ:∀{l m:List Str},l.map cd=m.map cd->l=m
 | [],[],_=>rfl
 | [],_::_,h=>by simp at h
 | _::_,[],h=>by simp at h
 | a::l,b::m,h=>by
   have h':=List.cons.inj h;rw[Ev h'.1,oJ h'.2]
theorem uG{c:Nat}{ps:List Str}(h0:ps≠[])(hf:∀p∈ps,c∉cd p):Txt.split (Str.join ⟨#[c]⟩ ps) ⟨#[c]⟩=ps:=by
 apply oJ;refine AD (c:=c) (fun h=>uE _ _ (List.map_eq_nil_iff.mp h)) (fun h=>h0 (List.map_eq_nil_iff.mp h)) ?_ ?_ ?_
 . intro a ha;obtain⟨p,hp,rfl⟩:=List.mem_map.mp ha;exact StrLaws.split_free _ c p hp
 . intro a ha;obtain⟨p,hp,rfl⟩:=List.mem_map.mp ha;exact hf p hp
 . rw[←rQ,←rQ,StrLaws.join_split]
def bj(n:Int):Str:=toString n
theorem rm(m:Nat):cd (bj (m:Int))=(Nat.toDigits 10 m).map Char.toNat:=PySem.W.KIN.signs_num m
theorem jm{n:Int}(h0:0<=n):∀c∈cd (bj n),48<=c/\c<=57:=by
 obtain⟨m,rfl⟩:=Int.eq_ofNat_of_zero_le h0;intro c hc;rw[rm]at hc;obtain⟨ch,hch,e⟩:=List.mem_map.mp hc;rw[←e];exact PyProof.Rows.digit_range (Nat.isDigit_of_mem_toDigits (by decide) (by decide) hch)
theorem Ai{n:Int}(h0:0<=n):cd (bj n)≠[]:=by
 obtain⟨m,rfl⟩:=Int.eq_ofNat_of_zero_le h0;rw[rm];intro e;have h:=PySem.toDigits_len_ge 10 m;rw[List.map_eq_nil_iff.mp e]at h;exact absurd h (by decide)
theorem ic{n:Int}(h0:0<=n)(h1:n<1000000000000):(bj n).length<=12:=PyProof.Rows.toString_length_le h0 (by decide) (by show n<10 ^ 12;omega)
theorem sT{n:Int}(h0:0<=n):1<=(bj n).length:=by
 have h:=Ai h0;have e:(cd (bj n)).length=(bj n).length:=rfl;cases c:cd (bj n)with
 | nil=>exact absurd c h
 | cons a r=>rw[←e,c];simp
theorem wJ{n:Int}(h0:0<=n)(h1:n<1000000000000):PySem.intText? (bj n)=some n:=by
 have e:=intText_digits (x:=bj n) (jm h0) (Ai h0) (zO0 (ic h0 h1) (by decide));obtain⟨m,rfl⟩:=Int.eq_ofNat_of_zero_le h0;have e2:=rm m;unfold cd at e2;rw[e2,PySem.W.KIN.val_back]at e;exact e
theorem Cp(m:Nat)(h:0<m):∃d r,Nat.toDigits 10 m=d::r/\d.toNat≠48:=by
 induction m using Nat.strongRecOn with
 | _ m ih=>
   by_cases c:m<10
   . refine ⟨Nat.digitChar m,[],Nat.toDigits_of_lt_base c,?_⟩
     have:∀d:Nat,d<10->0<d->(Nat.digitChar d).toNat≠48:=by decide
     exact this m c h
   . have hm:m % 10<10:=Nat.mod_lt m (by decide);have t:Nat.toDigits 10 (m / 10)++Nat.toDigits 10 (m % 10)=Nat.toDigits 10 (10*(m / 10)+m % 10):=Nat.toDigits_append_toDigits (by decide) (by omega) hm;rw[Nat.div_add_mod]at t;obtain⟨d,r,e,hd⟩:=ih (m / 10) (by omega) (by omega);exact⟨d,r++Nat.toDigits 10 (m % 10),by rw[←t,e];rfl,hd⟩
theorem Ej:∀c:Nat,c<58->48<=c->isIn FIG c=true:=by decide
theorem wK{n:Int}(h0:0<=n)(h1:n<1000000000000):jt (bj n)=true:=by
 unfold jt;rw[decide_eq_true (sT h0),decide_eq_true (ic h0 h1)];have a:(cd (bj n)).all (isIn FIG)=true:=List.all_eq_true.mpr fun c hc=>by
  have:=jm h0 c hc
  exact Ej c (by omega) this.1
 have a':(bj n).cps.toList.all (isIn FIG)=true:=a;rw[a'];have b:(decide (1<(bj n).length)&&Txt.startswith (bj n) "0")=false:=by
  by_cases c:1<(bj n).length
  . obtain ⟨m,rfl⟩:=Int.eq_ofNat_of_zero_le h0;have hm:0<m:=by
     apply Nat.pos_of_ne_zero;intro z;subst z
     revert c
     decide
    obtain ⟨d,r,e,hd⟩:=Cp m hm;have e0:(bj (m:Int)).cps.toList[0]?=some d.toNat:=by
     have:=rm m
     unfold cd at this;rw[this,e];rfl
    have z:decide (V.str (⟨#[d.toNat]⟩:Str)=V.str "0")=false:=decide_eq_false fun z=>by
     have:=V.str.inj z
     have e1:("0":Str)=⟨#[48]⟩:=by decide
     rw[e1]at this;injection this with this
     have:=congrArg Array.toList this
     simp at this
     exact hd this
    rw[sx e0,z,Bool.and_false]
  . rw[decide_eq_false c];rfl
 rw[b];rfl
def NL:Str:=⟨#[10]⟩
theorem nl_eq:("\n":Str)=NL:=by decide
theorem yW{l:List Str}{b:Nat}(h:∀p∈l,p.length<=b):(l.map (·.length)).sum<=l.length*b:=by
 induction l with
 | nil=>simp
 | cons a r ih=>
   have h1:=h a zU0;have h2:=ih fun p hp=>h p (qH0 _ hp)
   simp only[zZ0,List.sum_cons,zQ0];rw[Nat.succ_mul];omega
def Tm.txt:Tm->List Nat
 | .num n=>cd (bj n)
 | .box x=>cd x
 | .plain w=>cd w
 | .ask w a=>[40]++(cd w++([32]++(a.txt++[41])))
 | .op s a b=>[40]++(cd s++([32]++(a.txt++([32]++(b.txt++[41])))))
def Tm.str(t:Tm):Str:=stl t.txt
theorem km:∀w∈plainW,w.length<=5/\1<=w.length/\(∀c∈w.cps.toList,97<=c/\c<=122)/\w≠"num"/\w≠"box"/\w≠"op":=by decide
theorem vX:∀w∈askW,w.length<=4/\1<=w.length/\(∀c∈w.cps.toList,97<=c/\c<=122)/\w≠"num"/\w≠"box"/\w≠"op"/\w∉plainW:=by decide
theorem qz:∀w∈signW,w.length=1/\(∀c∈w.cps.toList,42<=c/\c<=61)/\w∉askW:=by decide
theorem cK(x:Str):(cd x).length=x.length:=by unfold cd;rw[Array.length_toList];rfl
theorem Tm.txt_len:∀t:Tm,t.ok->t.txt.length<=14*t.size
 | .num n,h=>by
   have:=ic h.1 h.2
   show(cd (bj n)).length<=14;rw[cK];omega
 | .box x,h=>by
   show(cd x).length<=14;rw[cK]
   have:=h.2.2.1
   omega
 | .plain w,h=>by
   show(cd w).length<=14;rw[cK]
   have:=(km w h).1
   omega
 | .ask w a,⟨h,h1⟩=>by
   have:=Tm.txt_len a h1
   have e4:=(vX w h).1;show([40]++(cd w++([32]++(a.txt++[41])))).length<=14*(a.size+1)
   simp only[zJ0,zQ0,List.length_nil,cK];omega
 | .op o a b,⟨h,h1,h2⟩=>by
   have e1:=Tm.txt_len a h1;have e2:=Tm.txt_len b h2;have e4:=(qz o h).1;show([40]++(cd o++([32]++(a.txt++([32]++(b.txt++[41])))))).length<=14*(a.size+b.size+1)
   simp only[zJ0,zQ0,List.length_nil,cK];omega
theorem Tm.str_len{t:Tm}(h:t.ok):t.str.length<=14*t.size:=by
 unfold Tm.str;rw[Bz];exact t.txt_len h
def Hr.ws:Hr->List Str
 | .fin=>["end"] | .go n=>["go",bj n] | .iff t n=>["if",t.str,bj n] | .set x t=>["set",x,t.str] | .say t=>["say",t.str]
def Hr.str (r:Hr):Str:=Txt.join (" ":Str) r.ws
theorem Dg{r:Hr}(h:r.ok 20):r.ws.length<=3/\∀z∈r.ws,z.length<=280:=by
 have fixed:∀z∈(["end","go","if","set","say"]:List Str),z.length<=280:=by decide
 have ft:∀{t:Tm},t.fit 20->t.str.length<=280:=fun{t} h=>by
  have:=Tm.str_len h.1
  have:=h.2.1
  omega
 cases r with
 | fin=>exact⟨by decide,fun z hz=>fixed z (by rw[zM0 hz];decide)⟩
 | go n=>
   refine⟨by show 2<=3;decide,fun z hz=>?_⟩;rcases zY0 (show z∈[("go":Str),bj n]from hz)with rfl | hz
   . exact fixed _ (by decide)
   . rw [zM0 hz]
     have:=ic h.1 h.2
     omega
 | iff t n=>
   refine⟨by show 3<=3;decide,fun z hz=>?_⟩;rcases zY0 (show z∈[("if":Str),t.str,bj n]from hz)with rfl | hz
   . exact fixed _ (by decide)
   rcases zY0 hz with rfl | hz
   . exact ft h.1
   . rw [zM0 hz]
     have:=ic h.2.1 h.2.2
     omega
 | set x t=>
   refine⟨by show 3<=3;decide,fun z hz=>?_⟩;rcases zY0 (show z∈[("set":Str),x,t.str]from hz)with rfl | hz
   . exact fixed _ (by decide)
   rcases zY0 hz with rfl | hz
   . have:=h.1.2.2.1
     omega
   . rw[zM0 hz];exact ft h.2
 | say t=>
   refine⟨by show 2<=3;decide,fun z hz=>?_⟩;rcases zY0 (show z∈[("say":Str),t.str]from hz)with rfl | hz
   . exact fixed _ (by decide)
   . rw[zM0 hz];exact ft h
theorem tE(sep:Str)(zs:List Str)(h:sep.length=1):(Txt.join sep zs).length<=(zs.map (·.length)).sum+zs.length:=by
 have:=size_glued sep zs
 rw[h]at this;show(Builtin.Str.glued sep zs).length<=_;omega
theorem De{r:Hr}(h:r.ok 20):(r.ws.map (·.length)).sum+r.ws.length<=900:=by
 obtain⟨h1,h2⟩:=Dg h
 have:=yW h2
 have:r.ws.length*280<=840:=by omega
 omega
theorem Hr.str_len{r:Hr}(h:r.ok 20):r.str.length<=900:=zO0 (tE _ _ (by decide)) (De h)
theorem AC{H:Hp}{b:Addr}{ys zs:List V}(h:H b=some (.lst ys)):bL H (upd H b (.lst zs)):=fun a xs e=>by
 rw[av (fun z=>by rw[z,h]at e;cases e)];exact e
theorem RowsAt.nil{H:Hp}:RowsAt H [] []:=⟨rfl,fun i v r h=>by simp at h⟩
theorem RowsAt.snoc{H:Hp}{tv:List V}{rs:List Hr}{v:V}{r:Hr}(h:RowsAt H tv rs)(a:HrAt H v r):RowsAt H (tv++[v]) (rs++[r]):=by
 refine⟨by rw[zJ0,zJ0,h.1];rfl,fun i u s hu hs=>?_⟩;have hl:=h.1
 by_cases c:i<tv.length
 . rw[List.getElem?_append_left c]at hu;rw[List.getElem?_append_left (by omega)]at hs;exact h.2 i u s hu hs
 . rw [List.getElem?_append_right (by omega)]at hu;rw[List.getElem?_append_right (by omega)]at hs;have e1:i-tv.length=0:=by
    have:=(zX0 hu).1
    rw[qN0]at this;omega
   have e2:i-rs.length=0:=by omega
   rw[e1]at hu;rw[e2]at hs;cases hu;cases hs;exact a
def pA(rs:List Hr):Prop:=rs.length<=60/\∀r∈rs,r.ok 20
def kF (rs:List Hr):Str:=Txt.join ("\n":Str) (rs.map Hr.str)
theorem AN{rs:List Hr}(g:pA rs):((rs.map Hr.str).map (·.length)).sum+(rs.map Hr.str).length<=60000:=by
 have:=yW (l:=rs.map Hr.str) (b:=900) fun p hp=>by
  obtain⟨r,hr,rfl⟩:=List.mem_map.mp hp;exact Hr.str_len (g.2 r hr)
 rw[zF0]at this ⊢;have h1:=g.1
 have:rs.length*900<=60*900:=Nat.mul_le_mul_right _ h1
 omega
theorem AO{rs:List Hr}(g:pA rs):(kF rs).length<=60000:=zO0 (tE _ _ (by decide)) (AN g)
abbrev kX:Stmt:=top 52
abbrev nC:Stmt:=bJ kX 0
abbrev nA:Stmt:=bJ kX 1
abbrev qG:Stmt:=bJ kX 2
abbrev qF:Stmt:=bJ kX 3
abbrev qE:Stmt:=bJ kX 4
abbrev kU:Stmt:=bJ kX 5
structure ScTxt(K:W.Frag)(mg:Str->Option Value)(C:Addr):Prop where
 cl:Cls K C
 nX:NoAttr K C "text"
 nR:NoAttr K C "row"
 nW:NoAttr K C "most_within"
 nP:NoAttr K C "most_parts"
 nL:NoAttr K C "place"
 nN:NoAttr K C "parts"
 mgC:mg "Scan"=some (.ref C)
theorem og(f:Str)(v:V):∀(fs:List (Str×V))(u:V),fs.lookup f=some u->(bK f v fs).length=fs.length
 | [],u,h=>by cases h
 | (g,x)::r,u,h=>by
   unfold bK
   by_cases e:g=f
   . rw[zE0 e];rfl
   . rw [zB0 e];have e':(f==g)=false:=by simpa using fun z=>e z.symm
     simp only[List.lookup,e']at h;rw[zQ0,zQ0,og f v r u h]
theorem bp(f:Str)(v:V):∀fs:List (Str×V),(bK f v fs).length<=fs.length+1
 | []=>zH0 _
 | (g,u)::r=>by
   have:=bp f v r
   unfold bK
   split
   . simp
   . simp only[zQ0];omega
structure SF(T:Str)(p n:Nat)(fs:List (Str×V)):Prop where
 text:fs.lookup ("text":Str)=some (.str T)
 mw:fs.lookup ("most_within":Str)=some (.int 8)
 mp:fs.lookup ("most_parts":Str)=some (.int 20)
 place:fs.lookup ("place":Str)=some (.int (p:Int))
 parts:fs.lookup ("parts":Str)=some (.int (n:Int))
 no1:fs.lookup ("enter":Str)=none
 no2:fs.lookup ("sees":Str)=none
 no3:fs.lookup ("take":Str)=none
 no4:fs.lookup ("word":Str)=none
 no5:fs.lookup ("finish":Str)=none
 len:fs.length<=6
theorem SF.toPlace {T:Str} {p n:Nat} {fs:List (Str×V)} (h:SF T p n fs) (p':Nat):SF T p' n (bK "place" (.int (p':Int)) fs):=by
 refine⟨?_,?_,?_,?_,?_,?_,?_,?_,?_,?_,?_⟩
 . rw[ah,zB0 (by decide)];exact h.text
 . rw[ah,zB0 (by decide)];exact h.mw
 . rw[ah,zB0 (by decide)];exact h.mp
 . rw[ah,zE0 rfl]
 . rw[ah,zB0 (by decide)];exact h.parts
 . rw[ah,zB0 (by decide)];exact h.no1
 . rw[ah,zB0 (by decide)];exact h.no2
 . rw[ah,zB0 (by decide)];exact h.no3
 . rw[ah,zB0 (by decide)];exact h.no4
 . rw[ah,zB0 (by decide)];exact h.no5
 . rw[og _ _ _ _ h.place];exact h.len
theorem SF.toParts {T:Str} {p n:Nat} {fs:List (Str×V)} (h:SF T p n fs) (n':Nat):SF T p n' (bK "parts" (.int (n':Int)) fs):=by
 refine⟨?_,?_,?_,?_,?_,?_,?_,?_,?_,?_,?_⟩
 . rw[ah,zB0 (by decide)];exact h.text
 . rw[ah,zB0 (by decide)];exact h.mw
 . rw[ah,zB0 (by decide)];exact h.mp
 . rw[ah,zB0 (by decide)];exact h.place
 . rw[ah,zE0 rfl]
 . rw[ah,zB0 (by decide)];exact h.no1
 . rw[ah,zB0 (by decide)];exact h.no2
 . rw[ah,zB0 (by decide)];exact h.no3
 . rw[ah,zB0 (by decide)];exact h.no4
 . rw[ah,zB0 (by decide)];exact h.no5
 . rw[og _ _ _ _ h.parts];exact h.len
def sfs (T:Str) (k:Int):List (Str×V):=bK "parts" (.int 0) (bK "place" (.int 0) (bK "most_parts" (.int 20) (bK "most_within" (.int 8) (bK "row" (.int k) (bK "text" (.str T) [])))))
theorem Du(T:Str)(k:Int):SF T 0 0 (sfs T k):=by
 have no:∀m:Str,m≠"parts" -> m≠"place" -> m≠"most_parts" -> m≠"most_within" -> m≠"row" -> m≠"text" -> (sfs T k).lookup m=none:=fun m h1 h2 h3 h4 h5 h6=>by
  unfold sfs;rw[ah,zB0 h1,ah,zB0 h2,ah,zB0 h3,ah,zB0 h4,ah,zB0 h5,ah,zB0 h6];rfl
 refine⟨?_,?_,?_,?_,?_,no _ (by decide) (by decide) (by decide) (by decide) (by decide) (by decide),no _ (by decide) (by decide) (by decide) (by decide) (by decide) (by decide),no _ (by decide) (by decide) (by decide) (by decide) (by decide) (by decide),no _ (by decide) (by decide) (by decide) (by decide) (by decide) (by decide),no _ (by decide) (by decide) (by decide) (by decide) (by decide) (by decide),?_⟩
 . unfold sfs;rw[ah,zB0 (by decide),ah,zB0 (by decide),ah,zB0 (by decide),ah,zB0 (by decide),ah,zB0 (by decide),ah,zE0 rfl]
 . unfold sfs;rw[ah,zB0 (by decide),ah,zB0 (by decide),ah,zB0 (by decide),ah,zE0 rfl]
 . unfold sfs;rw[ah,zB0 (by decide),ah,zB0 (by decide),ah,zE0 rfl]
 . unfold sfs;rw[ah,zB0 (by decide),ah,zE0 rfl];rfl
 . unfold sfs;rw[ah,zE0 rfl];rfl
 . unfold sfs;refine zO0 (bp _ _ _) (Nat.succ_le_succ (zO0 (bp _ _ _) (Nat.succ_le_succ (zO0 (bp _ _ _) (Nat.succ_le_succ (zO0 (bp _ _ _) (Nat.succ_le_succ (zO0 (bp _ _ _) (Nat.succ_le_succ (bp _ _ _))))))))))
def ScanAt(C:Addr)(H:Hp)(sc:Addr)(T:Str)(p n:Nat):Prop:=∃dx fs,H sc=some (.ins C dx fs)/\SF T p n fs
inductive spScInit(C:Addr)(vs:List V)(H:Hp)(Q:VK)(u_3:XK):Prop where
 | mk:∀(g dx:Addr)(T:Str)(k:Int),(vs=[.ref g,.str T,.int k,.int 8,.int 20])->(H g=some (.ins C dx []))->(∀H',ScanAt C H' g T 0 0->SameBut g H H'->Q .non H')->spScInit C vs H Q u_3
theorem xr:FnScope ["self","text","row","most_within","most_parts"] ["self","text","row","most_within","most_parts"] (ak nC):=⟨rfl,rfl,rfl,by decide,rfl,by decide,by decide⟩
theorem xK {f C:Addr} {fd:FuncData} (F:Fun K "__init__" "Scan.__init__" nC f fd) (T:ScTxt K mg C):FnOk P w K mg base CX0 1 f fd ["self","text","row","most_within","most_parts"] (spScInit C):=by
 refine F.ok xr (fun vs H Q E h=>?_) (fun cdv A outer s H vs Q E hr h=>?_)
 . obtain⟨g,dx,Tx,kr,rfl,_⟩:=h;rfl
 obtain⟨g,dx,Tx,kr,rfl,hg,q⟩:=h;refine⟨_,(aa (aZ (pv 0) (pv 1) rfl) (aa (aZ (pv 0) (pv 2) rfl) (aa (aZ (pv 0) (pv 3) rfl) (aa (aZ (pv 0) (pv 4) rfl) (aa (aZ (pv 0) ac rfl) (ad (aZ (pv 0) ac rfl))))))),?_⟩;refine⟨_,rfl,_,rfl,g,C,dx,[],rfl,hg,T.cl,T.nX,(by show 0<1000;decide),?_⟩;refine⟨_,rfl,_,rfl,g,C,dx,_,rfl,aE,T.cl,T.nR,(Nat.lt_of_le_of_lt (bp _ _ _) (by show 1<1000;decide)),?_⟩;refine⟨_,rfl,_,rfl,g,C,dx,_,rfl,aE,T.cl,T.nW,(Nat.lt_of_le_of_lt (bp _ _ _) (Nat.lt_of_le_of_lt (Nat.succ_le_succ (bp _ _ _)) (by show 2<1000;decide))),?_⟩;refine⟨_,rfl,_,rfl,g,C,dx,_,rfl,aE,T.cl,T.nP,(Nat.lt_of_le_of_lt (bp _ _ _) (Nat.lt_of_le_of_lt (Nat.succ_le_succ (zO0 (bp _ _ _) (Nat.succ_le_succ (bp _ _ _)))) (by show 3<1000;decide))),?_⟩;refine⟨_,rfl,g,C,dx,_,rfl,aE,T.cl,T.nL,(Nat.lt_of_le_of_lt (bp _ _ _) (Nat.lt_of_le_of_lt (Nat.succ_le_succ (zO0 (bp _ _ _) (Nat.succ_le_succ (zO0 (bp _ _ _) (Nat.succ_le_succ (bp _ _ _)))))) (by show 4<1000;decide))),?_⟩;refine⟨_,rfl,g,C,dx,_,rfl,aE,T.cl,T.nN,(Nat.lt_of_le_of_lt (bp _ _ _) (Nat.lt_of_le_of_lt (Nat.succ_le_succ (zO0 (bp _ _ _) (Nat.succ_le_succ (zO0 (bp _ _ _) (Nat.succ_le_succ (zO0 (bp _ _ _) (Nat.succ_le_succ (bp _ _ _)))))))) (by show 5<1000;decide))),?_⟩;exact q _ ⟨dx,sfs Tx kr,aE,Du Tx kr⟩ ((SameBut.upd _).trans ((SameBut.upd _).trans ((SameBut.upd _).trans ((SameBut.upd _).trans ((SameBut.upd _).trans (SameBut.upd _))))))
theorem SF.size{T:Str}{p n:Nat}{fs:List (Str×V)}(h:SF T p n fs):fs.length<1000:=Nat.lt_of_le_of_lt h.len (by decide)
inductive spEnter(C:Addr)(vs:List V)(H:Hp)(Q:VK)(u_3:XK):Prop where
 | mk:∀(sc:Addr)(T:Str)(p n:Nat)(wi:Int),(vs=[.ref sc,.int wi])->(ScanAt C H sc T p n)->(wi<=8)->(n+1<=20)->(∀H',ScanAt C H' sc T p (n+1)->SameBut sc H H'->Q .non H')->spEnter C vs H Q u_3
theorem xq:FnScope ["self","within"] ["self","within"] (ak nA):=⟨rfl,rfl,rfl,by decide,rfl,by decide,by decide⟩
theorem xJ {f C:Addr} {fd:FuncData} (F:Fun K "enter" "Scan.enter" nA f fd) (T:ScTxt K mg C):FnOk P w K mg base CX0 1 f fd ["self","within"] (spEnter C):=by
 refine F.ok xq (fun vs H Q E h=>?_) (fun cdv A outer s H vs Q E hr h=>?_)
 . obtain⟨sc,Tx,p,n,wi,rfl,_⟩:=h;rfl
 obtain ⟨sc,Tx,p,n,wi,rfl,⟨dx,fs,hs,sf⟩,w10,n30,q⟩:=h;refine⟨_,(aa (aZ (pv 0) (ag aO (ay (pv 0) rfl) ac) rfl)
  (ad (aB (PW.pt (cV (af gB (pv 1) (ay (pv 0) rfl) (ao _)) (de (af gB (ay (pv 0) rfl) (ay (pv 0) rfl) (ao _))))) bX aq))),?_⟩
 have sf':=sf.toParts (n+1);refine⟨_,rfl,sc,C,dx,fs,_,rfl,hs,T.cl,T.nN,sf.parts,_,_,rfl,rfl,_,rfl,sc,C,dx,fs,rfl,hs,T.cl,T.nN,sf.size,?_⟩;have hs':upd H sc (.ins C dx (bK "parts" (.int ((n:Int)+1)) fs)) sc=some (.ins C dx (bK "parts" (.int ((n+1:Nat):Int)) fs)):=aE;refine⟨_,rfl,_,rfl,sc,C,dx,_,_,rfl,hs',T.cl,T.nW,sf'.mw,_,_,rfl,rfl,_,rfl,?_⟩;refine au (by omega) ?_;refine⟨_,rfl,sc,C,dx,_,_,rfl,hs',T.cl,T.nN,sf'.parts,_,rfl,sc,C,dx,_,_,rfl,hs',T.cl,T.nP,sf'.mp,_,_,rfl,rfl,_,rfl,?_⟩;refine au (by omega) ?_;exact q _ ⟨dx,_,hs',sf'⟩ (SameBut.upd _)
inductive spSees(C:Addr)(vs:List V)(H:Hp)(Q:VK)(u_3:XK):Prop where
 | mk:∀(sc:Addr)(T u:Str)(p n:Nat),(vs=[.ref sc,.str u])->(ScanAt C H sc T p n)->(Q (.bl (eI T u p)) H)->spSees C vs H Q u_3
theorem zt:FnScope ["self","signs"] ["self","signs"] (ak qG):=⟨rfl,rfl,rfl,by decide,rfl,by decide,by decide⟩
theorem zY {f C:Addr} {fd:FuncData} (F:Fun K "sees" "Scan.sees" qG f fd) (T:ScTxt K mg C):FnOk P w K mg base CX0 1 f fd ["self","signs"] (spSees C):=by
 refine F.ok zt (fun vs H Q E h=>?_) (fun cdv A outer s H vs Q E hr h=>?_)
 . obtain⟨sc,Tx,u,p,n,rfl,_⟩:=h;rfl
 obtain⟨sc,Tx,u,p,n,rfl,⟨dx,fs,hs,sf⟩,q⟩:=h;refine⟨_,(ad (am (dH PySem.F.plainAttrs_str PySem.F.slot_str_startswith PySem.F.type_str_startswith sX (ay (pv 0) rfl) (ae (pv 1) (ae (ay (pv 0) rfl) aI))))),?_⟩;exact⟨_,rfl,sc,C,dx,fs,_,rfl,hs,T.cl,T.nX,sf.text,rfl,_,rfl,_,rfl,sc,C,dx,fs,_,rfl,hs,T.cl,T.nL,sf.place,Tx,u,_,rfl,rfl,q⟩
inductive spTake'(C:Addr)(vs:List V)(H:Hp)(Q:VK)(u_3:XK):Prop where
 | mk:∀(sc:Addr)(T u:Str)(p n:Nat),(vs=[.ref sc,.str u])->(ScanAt C H sc T p n)->(eI T u p=true)->(u.length<=10)->(∀H',ScanAt C H' sc T (p+u.length) n->SameBut sc H H'->Q .non H')->spTake' C vs H Q u_3
theorem zr:FnScope ["self","signs"] ["self","signs"] (ak qF):=⟨rfl,rfl,rfl,by decide,rfl,by decide,by decide⟩
theorem zX {f C fS:Addr} {fd fdS:FuncData} (F:Fun K "take" "Scan.take" qF f fd) (B:Bl mg) (T:ScTxt K mg C) (mS:Meth K C "sees" fS) (GS:FnOk P w K mg base CX0 1 fS fdS ["self","signs"] (spSees C)) (bS:Binds K fdS ["self","signs"] []):FnOk P w K mg base CX0 2 f fd ["self","signs"] (spTake' C):=by
 refine F.ok zr (fun vs H Q E h=>?_) (fun cdv A outer s H vs Q E hr h=>?_)
 . obtain⟨sc,Tx,u,p,n,rfl,_⟩:=h;rfl
 obtain ⟨sc,Tx,u,p,n,rfl,S,hu,u10,q⟩:=h;have hr1:Room 1 _:=hr.mono (by decide);refine⟨_,(aa (aB (dq (cv (bu (pv 0) T.cl mS GS hr1 bS .nil bq (ae (pv 1) aI)))) bX aq)
  (ad (aZ (pv 0) (ag aO (ay (pv 0) rfl) (aA cj rfl B.len PySem.boot_len (ae (pv 1) aI))) rfl))),?_⟩
 obtain⟨dx,fs,hs,sf⟩:=id S;refine⟨_,rfl,sc,dx,fs,rfl,hs,sf.no2,_,rfl,sc,Tx,u,p,n,rfl,S,_,rfl,?_⟩;rw[hu];refine cb ?_;refine⟨_,rfl,sc,C,dx,fs,_,rfl,hs,T.cl,T.nL,sf.place,_,rfl,u,rfl,bv (by omega),_,_,rfl,rfl,_,rfl,sc,C,dx,fs,rfl,hs,T.cl,T.nL,sf.size,?_⟩;have hs':upd H sc (.ins C dx (bK "place" (.int ((p:Int)+(u.length:Int))) fs)) sc=some (.ins C dx (bK "place" (.int ((p+u.length:Nat):Int)) fs)):=by rw[aE,Int.natCast_add]
 exact q _ ⟨dx,_,hs',sf.toPlace _⟩ (SameBut.upd _)
def ug(r:List Nat):Prop:=r=[]∨∃c r',r=c::r'/\(c=32∨c=40∨c=41)
inductive spWord(C:Addr)(vs:List V)(H:Hp)(Q:VK)(u_3:XK):Prop where
 | mk:∀(sc:Addr)(T:Str)(p n:Nat)(x r:List Nat),(vs=[.ref sc])->(ScanAt C H sc T p n)->(T.length<=1000)->(p<=T.length)->(T.cps.toList.drop p=x++r)->((∀c∈x,isIn ENDS c=false))->(ug r)->(∀H',ScanAt C H' sc T (p+x.length) n->SameBut sc H H'->Q (.str (stl x)) H')->spWord C vs H Q u_3
theorem C6:FnScope ["self","start"] ["self"] (ak qE):=⟨rfl,rfl,rfl,by decide,rfl,by decide,by decide⟩
theorem zW {f C:Addr} {fd:FuncData} (F:Fun K "word" "Scan.word" qE f fd) (B:Bl mg) (X:Tx K mg) (T:ScTxt K mg C):FnOk P w K mg base CX0 1 f fd ["self"] (spWord C):=by
 refine F.ok C6 (fun vs H Q E h=>?_) (fun cdv A outer s H vs Q E hr h=>?_)
 . obtain⟨sc,Tx,p,n,x,r,rfl,_⟩:=h;rfl
 obtain ⟨sc,Tx,p,n,x,r,rfl,⟨dx,fs,hs,sf⟩,tl,pl,hd,xl,er,q⟩:=h;obtain⟨te,ge⟩:=X.ends;refine⟨_,(aa (aj (i:=1) C6.nd rfl (Or.inl rfl) (ay (pv 0) rfl))
  (aa (gA PassesOwn.never (PW.pt (oa (af cJ (ay (pv 0) rfl) (aA cj rfl B.len PySem.boot_len (ae (ay (pv 0) rfl) aI)) (ao _)) (mq (af qY (aD rG (ay (pv 0) rfl) (ay (pv 0) rfl) (fun _ _=>rfl)) (cq (v:=.str ENDS) rfl ge ⟨_,rfl⟩) (by rfl'))))) (ad (aZ (pv 0) (ag aO (ay (pv 0) rfl) ac) rfl)))
  (ad (am (fK uI (ay (pv 0) rfl) (eE (pv 1)) (eE (ay (pv 0) rfl))))))),?_⟩
 have L:Tx.cps.toList.length=Tx.length:=by rw[Array.length_toList];rfl
 have hlen:Tx.length=p+(x.length+r.length):=by
  have:=congrArg List.length hd
  rw[List.length_drop,zJ0,L]at this;omega
 refine ⟨_,rfl,sc,C,dx,fs,_,rfl,hs,T.cl,T.nL,sf.place,?_⟩;refine⟨fun m σ H'=>∃j:Nat,j<=x.length/\σ=[some (.ref sc),some (.int (p:Int))]/\ScanAt C H' sc Tx (p+j) n/\SameBut sc H H'/\m=x.length-j,⟨_,0,zW0 _,rfl,⟨dx,fs,hs,sf⟩,SameBut.refl _ _,rfl⟩,?_⟩;rintro m σ H1 ⟨j,hj,rfl,⟨dx1,fs1,hs1,sf1⟩,S1,rfl⟩;refine⟨_,rfl,sc,C,dx1,fs1,_,rfl,hs1,T.cl,T.nL,sf1.place,_,rfl,sc,C,dx1,fs1,_,rfl,hs1,T.cl,T.nX,sf1.text,Tx,rfl,bv tl,_,_,rfl,rfl,_,rfl,?_⟩;have sl:j=x.length->Txt.slice Tx (some (p:Int)) (some ((p+j:Nat):Int))=stl x:=fun ej=>by
  have es:Txt.slice Tx (some (p:Int)) (some ((p+j:Nat):Int))=_:=StrLaws.sliceText_plain (i:=(p:Int)) (j:=((p+j:Nat):Int)) ⟨by omega,by omega,by rw[L];omega⟩;rw[es];refine Bx ?_;show(Tx.cps.toList.drop (p:Int).toNat).take (((p+j:Nat):Int)-(p:Int)).toNat=x;rw[show(p:Int).toNat=p by omega,show(((p+j:Nat):Int)-(p:Int)).toNat=x.length by omega,hd,List.take_left'];rfl
 by_cases c1:(((p+j:Nat):Int))<(Tx.length:Int)
 . refine aS c1 ?_;have hk:p+j<Tx.cps.toList.length:=by rw[L];omega
   have ha:atI Tx.cps.toList ((p+j:Nat):Int)=some Tx.cps.toList[p+j]:=cH (zR0 hk);have hx:Tx.cps.toList[p+j]?=(x++r)[j]?:=by rw[←hd,List.getElem?_drop]
   refine⟨_,rfl,sc,C,dx1,fs1,_,rfl,hs1,T.cl,T.nX,sf1.text,_,rfl,sc,C,dx1,fs1,_,rfl,hs1,T.cl,T.nL,sf1.place,Tx,_,_,rfl,rfl,bv tl,ha,_,_,rfl,rfl,_,rfl,?_⟩
   by_cases c2:j<x.length
   . have ec:Tx.cps.toList[p+j]=x[j]:=by
      rw[zR0 hk,List.getElem?_append_left c2,zR0 c2]at hx;exact zV0 hx
     have en:(!isIn ENDS Tx.cps.toList[p+j])=true:=by rw[ec,xl _ (qR0 c2)];rfl
     have en':(!(!(Builtin.Str.occurrences ENDS ⟨#[Tx.cps.toList[p+j]]⟩ 0 ENDS.length 1).isEmpty))=true:=en;rw[en'];refine⟨_,fun _ _ h=>h,?_⟩;refine⟨_,rfl,sc,C,dx1,fs1,_,rfl,hs1,T.cl,T.nL,sf1.place,_,_,rfl,rfl,_,rfl,sc,C,dx1,fs1,rfl,hs1,T.cl,T.nL,sf1.size,?_⟩;have hs':upd H1 sc (.ins C dx1 (bK "place" (.int (((p+j:Nat):Int)+1)) fs1)) sc=some (.ins C dx1 (bK "place" (.int ((p+(j+1):Nat):Int)) fs1)):=by
      rw[aE,show((p+j:Nat):Int)+1=((p+(j+1):Nat):Int) by omega]
     exact⟨_,by omega,j+1,by omega,rfl,⟨dx1,_,hs',sf1.toPlace _⟩,S1.trans (SameBut.upd _),rfl⟩
   . have ej:j=x.length:=by omega
     have en:(!isIn ENDS Tx.cps.toList[p+j])=false:=by
      rcases er with rfl | ⟨c,r',rfl,hc⟩
      . rw[List.length_nil]at hlen;omega
      . rw [zR0 hk,List.getElem?_append_right (by omega),show j-x.length=0 by omega]at hx;have ec:Tx.cps.toList[p+j]=c:=zV0 hx;rw[ec];rcases hc with rfl | rfl | rfl
        . rw[ends_in.1];rfl
        . rw[ends_in.2.1];rfl
        . rw[ends_in.2.2];rfl
     have en':(!(!(Builtin.Str.occurrences ENDS ⟨#[Tx.cps.toList[p+j]]⟩ 0 ENDS.length 1).isEmpty))=false:=en;rw[en'];refine⟨_,rfl,sc,C,dx1,fs1,_,rfl,hs1,T.cl,T.nX,sf1.text,_,rfl,_,rfl,_,rfl,sc,C,dx1,fs1,_,rfl,hs1,T.cl,T.nL,sf1.place,_,rfl,Tx,rfl,bv tl,?_⟩;rw[sl ej];rw[ej]at sf1;exact q H1 ⟨dx1,fs1,hs1,sf1⟩ S1
 . refine au c1 ?_;have ej:j=x.length:=by omega
   refine⟨_,rfl,sc,C,dx1,fs1,_,rfl,hs1,T.cl,T.nX,sf1.text,_,rfl,_,rfl,_,rfl,sc,C,dx1,fs1,_,rfl,hs1,T.cl,T.nL,sf1.place,_,rfl,Tx,rfl,bv tl,?_⟩;rw[sl ej];rw[ej]at sf1;exact q H1 ⟨dx1,fs1,hs1,sf1⟩ S1
inductive spFinish(C:Addr)(vs:List V)(H:Hp)(Q:VK)(u_3:XK):Prop where
 | mk:∀(sc:Addr)(T:Str)(n:Nat),(vs=[.ref sc])->(ScanAt C H sc T T.length n)->(T.length<=1000)->(Q .non H)->spFinish C vs H Q u_3
theorem uK:FnScope ["self"] ["self"] (ak kU):=⟨rfl,rfl,rfl,by decide,rfl,by decide,by decide⟩
theorem vf {f C:Addr} {fd:FuncData} (F:Fun K "finish" "Scan.finish" kU f fd) (B:Bl mg) (T:ScTxt K mg C):FnOk P w K mg base CX0 1 f fd ["self"] (spFinish C):=by
 refine F.ok uK (fun vs H Q E h=>?_) (fun cdv A outer s H vs Q E hr h=>?_)
 . obtain⟨sc,Tx,n,rfl,_⟩:=h;rfl
 obtain⟨sc,Tx,n,rfl,⟨dx,fs,hs,sf⟩,tl,q⟩:=h;refine⟨_,(ad (aB (af jw (ay (pv 0) rfl) (aA cj rfl B.len PySem.boot_len (ae (ay (pv 0) rfl) aI)) (ao _)) bX aq)),?_⟩;refine⟨_,rfl,sc,C,dx,fs,_,rfl,hs,T.cl,T.nL,sf.place,_,rfl,sc,C,dx,fs,_,rfl,hs,T.cl,T.nX,sf.text,Tx,rfl,bv tl,rfl,_,rfl,?_⟩;show if(!decide (V.int (Tx.length:Int)=V.int (Tx.length:Int)))=true then _ else _
 rw[decide_eq_true rfl];exact cb q
theorem AU(n p:Nat):PySem.fromIndex n (p:Int)=p:=by
 unfold PySem.fromIndex;rw[zB0 (by omega)];omega
theorem wj(T u:Str)(p:Nat):Builtin.Str.subAt T u p=decide ((T.cps.toList.drop p).take u.length=u.cps.toList):=by
 unfold Builtin.Str.subAt;have e:(T.cps.extract p (p+u.length)).toList=(T.cps.toList.drop p).take u.length:=by
  rw[Array.toList_extract,List.extract_eq_drop_take]
  congr 1
  omega
 by_cases c:(T.cps.toList.drop p).take u.length=u.cps.toList
 . rw [decide_eq_true c]
   have:T.cps.extract p (p+u.length)=u.cps:=Array.toList_inj.mp (e.trans c)
   rw[this]
   simp
 . rw [decide_eq_false c]
   have:¬ T.cps.extract p (p+u.length)=u.cps:=fun z=>c (by rw[←e,z])
   simpa using this
theorem kA(T:Str):T.cps.toList.length=T.length:=by rw[Array.length_toList];rfl
theorem jp{T:Str}{p:Nat}{u v:List Nat}(h:T.cps.toList.drop p=u++v)(hp:p<=T.length):p+u.length+v.length=T.length:=by
 have:=congrArg List.length h
 rw[List.length_drop,zJ0,kA]at this;omega
theorem bt{T:Str}{p:Nat}{u v:List Nat}(h:T.cps.toList.drop p=u++v):T.cps.toList.drop (p+u.length)=v:=by
 rw[←List.drop_drop,h,List.drop_left]
theorem cR{T u:Str}{p:Nat}{r:List Nat}(h:T.cps.toList.drop p=u.cps.toList++r)(hp:p<=T.length):eI T u (p:Int)=true:=by
 unfold eI;have hl:=jp h hp;rw[kA]at hl;rw[AU,wj,decide_eq_true (by omega),h,←kA u,List.take_left,decide_eq_true rfl];rfl
theorem xn {T:Str} {p:Nat} {c:Nat} {r:List Nat} (h:T.cps.toList.drop p=c::r) (hc:c≠40):eI T ("(":Str) (p:Int)=false:=by
 unfold eI;have l1:(("(":Str)).length=1:=by decide
 rw[AU,wj,h,rD,l1]
 have:¬ (c::r).take 1=[40]:=fun z=>hc (by simpa using z)
 rw[decide_eq_false this,Bool.and_false]
theorem cp{C:Addr}{H H':Hp}{sc:Addr}{T:Str}{p n:Nat}(S:ScanAt C H sc T p n)(s:SameBut sc H H'):bL H H':=fun a xs h=>s a _ (fun z=>by
 obtain⟨dx,fs,e,_⟩:=S;rw[z,e]at h;cases h) h
theorem ScanAt.same{C:Addr}{H H':Hp}{sc:Addr}{T:Str}{p n:Nat}(S:ScanAt C H sc T p n)(s:Same H H'):ScanAt C H' sc T p n:=by
 obtain⟨dx,fs,e,sf⟩:=S;exact⟨dx,fs,s _ _ e,sf⟩
structure Mths(P:Program)(w:World)(K:W.Frag)(mg:Str->Option Value)(base:Heap)(C fE fS fT fW fF:Addr)(dE dS dT dW dF:FuncData):Prop where
 mE:Meth K C "enter" fE
 gE:FnOk P w K mg base CX0 1 fE dE ["self","within"] (spEnter C)
 bE:Binds K dE ["self","within"] []
 mS:Meth K C "sees" fS
 gS:FnOk P w K mg base CX0 1 fS dS ["self","signs"] (spSees C)
 bS:Binds K dS ["self","signs"] []
 mT:Meth K C "take" fT
 gT:FnOk P w K mg base CX0 2 fT dT ["self","signs"] (spTake' C)
 bT:Binds K dT ["self","signs"] []
 mW:Meth K C "word" fW
 gW:FnOk P w K mg base CX0 1 fW dW ["self"] (spWord C)
 bW:Binds K dW ["self"] []
 mF:Meth K C "finish" fF
 gF:FnOk P w K mg base CX0 1 fF dF ["self"] (spFinish C)
 bF:Binds K dF ["self"] []
theorem AX:∀c:Nat,c<62->42<=c->isIn ENDS c=false:=by decide
theorem Ei:∀c:Fin 26,isIn FIG (97+c.val)=false:=by decide
theorem AI{c:Nat}(h:97<=c/\c<=122):isIn FIG c=false:=by
 have:=Ei ⟨c-97,by omega⟩
 rwa [show 97+(⟨c-97,by omega⟩:Fin 26).val=c by show 97+(c-97)=c;omega]at this
theorem yt{x:Str}(h:NmK x):jt x=false:=by
 unfold jt;obtain⟨hl,h1,_,_⟩:=h
 have:x.cps.toList.all (isIn FIG)=false:=by
  cases e:x.cps.toList with
  | nil=>
    have:=cK x
    unfold cd at this;rw[e]at this
    simp at this
    omega
  | cons c r=>
    have:=AI (hl c (by rw[e];exact zU0))
    rw[List.all_cons,this];rfl
 rw[this,Bool.and_false]
def lC(l:List Nat):Prop:=∀c∈l,isIn ENDS c=false
theorem cF{l:List Nat}(h:∀c∈l,97<=c/\c<=122):lC l:=fun c hc=>yj (h c hc)
theorem ou{l:List Nat}(h:∀c∈l,42<=c/\c<=61):lC l:=fun c hc=>AX c (by have:=h c hc;omega) (h c hc).1
theorem ot{n:Int}(h:0<=n):lC (cd (bj n)):=ou fun c hc=>by have:=jm h c hc;omega
theorem xH{l:List Nat}(h:lC l)(h1:1<=l.length)(r:List Nat):∃c r',l++r=c::r'/\c≠40:=by
 cases l with
 | nil=>cases h1
 | cons c l'=>
   refine⟨c,l'++r,rfl,fun e=>?_⟩
   have:=h c zU0
   rw[e,ends_in.2.1]at this;cases this
inductive spNextT(C:Addr)(n:Nat)(vs:List V)(H:Hp)(Q:VK)(u_3:XK):Prop where
 | mk:∀(sc:Addr)(wi:Int)(T:Str)(p k:Nat)(t:Tm)(r:List Nat),(vs=[.ref sc,.int wi])->(ScanAt C H sc T p k)->(T.length<=1000)->(p<=T.length)->(T.cps.toList.drop p=[32]++(t.txt++r))->(ug r)->(t.ok)->(t.depth<=n)->(wi+(t.depth:Int)<=9)->(k+t.size<=20)->(∀(v:V)(H':Hp),TmAt H' v t->ScanAt C H' sc T (p+1+t.txt.length) (k+t.size)->SameBut sc H H'->Q v H')->spNextT C n vs H Q u_3
inductive spTB(C:Addr)(n:Nat)(vs:List V)(H:Hp)(Q:VK)(u_3:XK):Prop where
 | mk:∀(sc:Addr)(wi:Int)(T:Str)(p k:Nat)(t:Tm)(r:List Nat),(vs=[.ref sc,.int wi])->(ScanAt C H sc T p (k+1))->(T.length<=1000)->(p<=T.length)->(T.cps.toList.drop p=t.txt++r)->(t.ok)->(((∃w a,t=.ask w a)∨∃s a b,t=.op s a b))->(t.depth<=n+1)->(wi+(t.depth:Int)<=9)->(k+t.size<=20)->(∀(v:V)(H':Hp),TmAt H' v t->ScanAt C H' sc T (p+t.txt.length) (k+t.size)->SameBut sc H H'->Q v H')->spTB C n vs H Q u_3
theorem bD:FnScope ["scan","within","word","first","term"] ["scan","within"] (ak cN):=⟨rfl,rfl,rfl,by decide,rfl,by decide,by decide⟩
theorem Bu {n:Nat} {f C fE fS fT fW fF:Addr} {fd dE dS dT dW dF:FuncData} (F:Fun K "term_in_bracket" "term_in_bracket" cN f fd) (X:Tx K mg) (T:ScTxt K mg C) (M:Mths P w K mg base C fE fS fT fW fF dE dS dT dW dF) (b8:Cal P w K mg base (2*n+3) "next_term" ["scan","within"] (spNextT C n)):FnOk P w K mg base CX0 (2*n+4) f fd ["scan","within"] (spTB C n):=by
 refine F.ok bD (fun vs H Q E h=>?_) (fun cdv A outer s H vs Q E hr h=>?_)
 . obtain⟨sc,wi,Tx,p,k,t,r,rfl,_⟩:=h;rfl
 obtain ⟨sc,wi,Tx,p,k,t,r,rfl,S0,tl,pl,hd,ok,kind,dn,wd,k20,q⟩:=h;obtain⟨ja,gj,hj⟩:=X.asking;obtain⟨sa,gs,hs⟩:=X.signs;have hr1:Room 1 _:=hr.mono (by omega);have hr2:Room 2 _:=hr.mono (by omega);refine⟨_,(aa (bc (bu (pv 0) T.cl M.mT M.gT hr2 M.bT .nil bq (ae ax aI)))
  (aa (aj (i:=2) bD.nd rfl (Or.inl rfl) (fL (pv 0) T.cl M.mW M.gW hr1 M.bW .nil bq))
  (aa (aj (i:=3) bD.nd rfl (Or.inl rfl) (ai b8 hr (by omega) rfl (ae (pv 0) (ae (ag aO (pv 1) ac) aI))))
  (aa (aB (af fc (pv 2) (cq (v:=.ref ja) rfl gj rfl) (by rfl')) (ad (aj (i:=4) bD.nd rfl (Or.inl rfl) (aF (ae (pv 2) (ae (pv 3) aI))))) (ad (aB (af fc (pv 2) (cq (v:=.ref sa) rfl gs rfl) (by rfl')) (ad (aj (i:=4) bD.nd rfl (Or.inl rfl) (aF (ae ax (ae (pv 2) (ae (pv 3) (ae (ai b8 hr (by omega) rfl (ae (pv 0) (ae (ag aO (pv 1) ac) aI))) aI))))))) bX)))
  (aa (bc (bu (pv 0) T.cl M.mT M.gT hr2 M.bT .nil bq (ae ax aI)))
  (ad (am (pv 4)))))))),?_⟩
 have l1:(("(":Str)).length=1:=by decide
 have l3:((")":Str)).length=1:=by decide
 obtain⟨dx0,fs0,hs0,sf0⟩:=id S0;rcases kind with⟨wd',a,rfl⟩ | ⟨o,a,b,rfl⟩
 . obtain ⟨okw,oka⟩:=ok;obtain⟨_,w1,wl,_⟩:=vX wd' okw;have da:a.depth<=n:=Nat.le_of_succ_le_succ dn;have ed:(((Tm.ask wd' a).depth:Nat):Int)=(a.depth:Int)+1:=by show((a.depth+1:Nat):Int)=_;omega
   have es:(Tm.ask wd' a).size=a.size+1:=rfl;have wlen:(cd wd').length=wd'.length:=cK _;have hd0:Tx.cps.toList.drop p=[40]++(cd wd'++([32]++(a.txt++([41]++r)))):=by
    rw[hd];show([40]++(cd wd'++([32]++(a.txt++[41]))))++r=_
    simp
   have tlen:(Tm.ask wd' a).txt.length=1+(wd'.length+(1+(a.txt.length+1))):=by
    show([40]++(cd wd'++([32]++(a.txt++[41])))).length=_;simp only[zJ0,zQ0,List.length_nil,wlen]
   have hl0:=jp hd0 pl;simp only[zJ0,zQ0,List.length_nil,wlen]at hl0;have hd1:=bt hd0;have hd2:=bt hd1;have hd3:=bt hd2;have hd4:=bt hd3;simp only[zQ0,List.length_nil,wlen]at hd1 hd2 hd3 hd4;refine⟨_,rfl,sc,dx0,fs0,rfl,hs0,sf0.no3,sc,Tx,_,p,_,rfl,S0,cR (r:=cd wd'++([32]++(a.txt++([41]++r)))) (by rw[rD];exact hd0) pl,by rw[l1];decide,fun H1 S1 B1=>?_⟩;rw[l1]at S1;obtain⟨dx1,fs1,hs1,sf1⟩:=id S1;refine⟨_,rfl,sc,dx1,fs1,rfl,hs1,sf1.no4,sc,Tx,_,_,cd wd',_,rfl,S1,tl,by omega,hd1,cF wl,.inr ⟨32,_,rfl,.inl rfl⟩,fun H2 S2 B2=>?_⟩;rw[wlen]at S2;refine⟨_,rfl,_,rfl,_,_,rfl,rfl,sc,wi+1,Tx,_,_,a,_,rfl,S2,tl,by omega,hd2,.inr ⟨41,r,rfl,.inr (.inr rfl)⟩,oka,da,by omega,by omega,fun v1 H3 T3 S3 B3=>?_⟩;refine⟨_,rfl,ja,_,rfl,.inr (hj _),rfl,(by decide),_,rfl,?_⟩;have einj:inV (.str (stl (cd wd'))) (askW.map V.str)=true:=by rw[show stl (cd wd')=wd' from jC _,ik,decide_eq_true okw]
   rw[einj];refine dh ?_;refine⟨_,rfl,_,rfl,(by show 2<=sizeLine;decide),fun c hc=>?_⟩;have G:=zC0 hc (.tup [.str (stl (cd wd')),v1]);have S4:=S3.same G;have ec:upd H3 c (.tup [.str (stl (cd wd')),v1]) c=some (.tup [.str wd',v1]):=aE;have T4:=T3.mono (aV G);generalize upd H3 c (.tup [.str (stl (cd wd')),v1])=H4 at G S4 ec T4;obtain⟨dx4,fs4,hs4,sf4⟩:=id S4;refine⟨_,rfl,sc,dx4,fs4,rfl,hs4,sf4.no3,sc,Tx,_,_,_,rfl,S4,cR (r:=r) (by rw[Ax,show p+1+wd'.length+1+a.txt.length=p+(0+1)+wd'.length+(0+1)+a.txt.length by omega];exact hd4) (by omega),by rw[l3];decide,fun H5 S5 B5=>?_⟩;rw[l3]at S5;have k5:=cp S4 B5;refine⟨_,rfl,?_⟩;rw[show p+1+wd'.length+1+a.txt.length+1=p+(Tm.ask wd' a).txt.length by rw[tlen];omega,show k+1+a.size=k+(Tm.ask wd' a).size by rw[es];omega]at S5;exact q _ _ (.ask (k5 _ _ ec) (T4.mono k5)) S5 (B1.trans (B2.trans (B3.trans ((zK0 G).trans B5))))
 . obtain ⟨oko,oka,okb⟩:=ok;obtain⟨o1,ol,no⟩:=qz o oko;have dd:a.depth<=n/\b.depth<=n/\wi+(a.depth:Int)<=8/\wi+(b.depth:Int)<=8:=by
    have e1:(Tm.op o a b).depth=max a.depth b.depth+1:=rfl;rw[e1]at dn wd;omega
   have es:(Tm.op o a b).size=a.size+b.size+1:=rfl;have wlen:(cd o).length=o.length:=cK _;have hd0:Tx.cps.toList.drop p=[40]++(cd o++([32]++(a.txt++([32]++(b.txt++([41]++r)))))):=by
    rw[hd];show([40]++(cd o++([32]++(a.txt++([32]++(b.txt++[41]))))))++r=_
    simp
   have tlen:(Tm.op o a b).txt.length=1+(o.length+(1+(a.txt.length+(1+(b.txt.length+1))))):=by
    show([40]++(cd o++([32]++(a.txt++([32]++(b.txt++[41])))))).length=_;simp only[zJ0,zQ0,List.length_nil,wlen]
   have hl0:=jp hd0 pl;simp only[zJ0,zQ0,List.length_nil,wlen]at hl0;have hd1:=bt hd0;have hd2:=bt hd1;have hd3:=bt hd2;have hd4:=bt hd3;have hd5:=bt hd4;have hd6:=bt hd5;simp only[zQ0,List.length_nil,wlen]at hd1 hd2 hd3 hd4 hd5 hd6;refine⟨_,rfl,sc,dx0,fs0,rfl,hs0,sf0.no3,sc,Tx,_,p,_,rfl,S0,cR (r:=cd o++([32]++(a.txt++([32]++(b.txt++([41]++r)))))) (by rw[rD];exact hd0) pl,by rw[l1];decide,fun H1 S1 B1=>?_⟩;rw[l1]at S1;obtain⟨dx1,fs1,hs1,sf1⟩:=id S1;refine⟨_,rfl,sc,dx1,fs1,rfl,hs1,sf1.no4,sc,Tx,_,_,cd o,_,rfl,S1,tl,by omega,hd1,ou ol,.inr ⟨32,_,rfl,.inl rfl⟩,fun H2 S2 B2=>?_⟩;rw[wlen]at S2;refine⟨_,rfl,_,rfl,_,_,rfl,rfl,sc,wi+1,Tx,_,_,a,_,rfl,S2,tl,by omega,hd2,.inr ⟨32,_,rfl,.inl rfl⟩,oka,dd.1,by omega,by omega,fun v1 H3 T3 S3 B3=>?_⟩;refine⟨_,rfl,ja,_,rfl,.inr (hj _),rfl,(by decide),_,rfl,?_⟩;have einj:inV (.str (stl (cd o))) (askW.map V.str)=false:=by rw[show stl (cd o)=o from jC _,ik,decide_eq_false no]
   rw[einj];refine cb ?_;refine⟨_,rfl,sa,_,rfl,.inr (hs _),rfl,(by decide),_,rfl,?_⟩;have eins:inV (.str (stl (cd o))) (signW.map V.str)=true:=by rw[show stl (cd o)=o from jC _,ik,decide_eq_true oko]
   rw [eins];refine dh ?_;have hd4':Tx.cps.toList.drop (p+1+o.length+1+a.txt.length)=[32]++(b.txt++([41]++r)):=by
    rw[show p+1+o.length+1+a.txt.length=p+(0+1)+o.length+(0+1)+a.txt.length by omega];exact hd4
   refine⟨_,rfl,_,rfl,_,rfl,_,rfl,_,_,rfl,rfl,sc,wi+1,Tx,_,_,b,_,rfl,S3,tl,by omega,hd4',.inr ⟨41,r,rfl,.inr (.inr rfl)⟩,okb,dd.2.1,by omega,by omega,fun v2 H4 T4 S4 B4=>?_⟩;have T3':=T3.mono (cp S3 B4);refine⟨(by show 4<=sizeLine;decide),fun c hc=>?_⟩;have G:=zC0 hc (.tup [.str "op",.str (stl (cd o)),v1,v2]);have S5:=S4.same G;have ec:upd H4 c (.tup [.str "op",.str (stl (cd o)),v1,v2]) c=some (.tup [.str "op",.str o,v1,v2]):=aE;have T5:=T4.mono (aV G);have T5':=T3'.mono (aV G);generalize upd H4 c (.tup [.str "op",.str (stl (cd o)),v1,v2])=H5 at G S5 ec T5 T5';obtain⟨dx5,fs5,hs5,sf5⟩:=id S5;refine⟨_,rfl,sc,dx5,fs5,rfl,hs5,sf5.no3,sc,Tx,_,_,_,rfl,S5,cR (r:=r) (by rw[Ax,show p+1+o.length+1+a.txt.length+1+b.txt.length=p+(0+1)+o.length+(0+1)+a.txt.length+(0+1)+b.txt.length by omega];exact hd6) (by omega),by rw[l3];decide,fun H6 S6 B6=>?_⟩;rw[l3]at S6;have k6:=cp S5 B6;refine⟨_,rfl,?_⟩;rw[show p+1+o.length+1+a.txt.length+1+b.txt.length+1=p+(Tm.op o a b).txt.length by rw[tlen];omega,show k+1+a.size+b.size=k+(Tm.op o a b).size by rw[es];omega]at S6;exact q _ _ (.op (k6 _ _ ec) (T5'.mono k6) (T5.mono k6)) S6 (B1.trans (B2.trans (B3.trans (B4.trans ((zK0 G).trans B6)))))
theorem l6:FnScope ["scan","within","word"] ["scan","within"] (ak fX):=⟨rfl,rfl,rfl,by decide,rfl,by decide,by decide⟩
theorem rj{n:Int}(h:0<=n):bj n∉plainW:=fun hm=>by
 obtain⟨_,w1,wl,_⟩:=km _ hm;cases e:cd (bj n)with
 | nil=>
   have:=cK (bj n)
   rw[e]at this
   simp at this
   omega
 | cons c r=>
   have h1:=jm h c (by rw[e];exact zU0);have h2:=wl c (by show c∈cd (bj n);rw[e];exact zU0);omega
theorem uX:∀w∈plainW,w∈kept:=by decide
theorem Ca {n:Nat} {f C fE fS fT fW fF:Addr} {fd dE dS dT dW dF:FuncData} (F:Fun K "next_term" "next_term" fX f fd) (B:Bl mg) (X:Tx K mg) (T:ScTxt K mg C) (M:Mths P w K mg base C fE fS fT fW fF dE dS dT dW dF) (cM:Cal P w K mg base 1 "is_name" ["text"] (spTxt ir)) (a9:Cal P w K mg base 1 "is_figures" ["text"] (spTxt jt)) (o6:Cal P w K mg base (2*n+4) "term_in_bracket" ["scan","within"] (spTB C n)):FnOk P w K mg base CX0 (2*(n+1)+3) f fd ["scan","within"] (spNextT C (n+1)):=by
 refine F.ok l6 (fun vs H Q E h=>?_) (fun cdv A outer s H vs Q E hr h=>?_)
 . obtain⟨sc,wi,Tx,p,k,t,r,rfl,_⟩:=h;rfl
 obtain ⟨sc,wi,Tx,p,k,t,r,rfl,S0,tl,pl,hd,er,ok,dn,wd,k20,q⟩:=h;obtain⟨ja,gj,hj⟩:=X.plain;have hr1:Room 1 _:=hr.mono (by omega);have hr2:Room 2 _:=hr.mono (by omega);refine⟨_,(aa (bc (bu (pv 0) T.cl M.mT M.gT hr2 M.bT .nil bq (ae ax aI)))
  (aa (bc (bu (pv 0) T.cl M.mE M.gE hr1 M.bE .nil bq (ae (pv 1) aI)))
  (aa (aB (cv (bu (pv 0) T.cl M.mS M.gS hr1 M.bS .nil bq (ae ax aI))) (ad (am (ai o6 hr (by omega) rfl (ae (pv 0) (ae (pv 1) aI))))) aq)
  (aa (aj (i:=2) l6.nd rfl (Or.inl rfl) (fL (pv 0) T.cl M.mW M.gW hr1 M.bW .nil bq))
  (aa (aB (af fc (pv 2) (cq (v:=.ref ja) rfl gj rfl) (by rfl')) (ad (am (aF (ae (pv 2) aI)))) aq)
  (aa (aB (cv (ai a9 hr (by omega) rfl (ae (pv 2) aI))) (ad (am (aF (ae ax (ae (cg jA rfl B.int jr (ae (pv 2) aI)) aI))))) aq)
  (aa (aB (dq (cv (ai cM hr (by omega) rfl (ae (pv 2) aI)))) bX aq)
  (ad (am (aF (ae ax (ae (pv 2) aI)))))))))))),?_⟩
 have l2:((" ":Str)).length=1:=by decide
 have dp:=t.depth_pos;have sp:=t.size_pos;have hl0:=jp hd pl;have hd1:=bt hd;simp only[zJ0,zQ0,List.length_nil]at hl0 hd1;obtain⟨dx0,fs0,hs0,sf0⟩:=id S0;refine⟨_,rfl,sc,dx0,fs0,rfl,hs0,sf0.no3,sc,Tx,_,p,_,rfl,S0,cR (r:=t.txt++r) (by rw[jM];exact hd) pl,by rw[l2];decide,fun H1 S1 B1=>?_⟩;rw[l2]at S1;obtain⟨dx1,fs1,hs1,sf1⟩:=id S1;refine⟨_,rfl,sc,dx1,fs1,rfl,hs1,sf1.no1,_,rfl,sc,Tx,_,k,wi,rfl,S1,by omega,by omega,fun H2 S2 B2=>?_⟩;obtain⟨dx2,fs2,hs2,sf2⟩:=id S2;refine⟨_,rfl,sc,dx2,fs2,rfl,hs2,sf2.no2,sc,Tx,_,_,_,rfl,S2,_,rfl,?_⟩;have shape:(((∃w a,t=.ask w a)∨∃s a b,t=.op s a b)/\∃z,t.txt=40::z)∨∃x:Str,t.txt=cd x/\lC (cd x)/\1<=x.length/\t.size=1/\((t=.plain x/\x∈plainW)∨(∃m,t=.num m/\x=bj m/\0<=m/\m<1000000000000)∨(t=.box x/\NmK x)):=by
  cases t with
  | ask w a=>exact .inl ⟨.inl ⟨w,a,rfl⟩,_,rfl⟩
  | op s a b=>exact .inl ⟨.inr ⟨s,a,b,rfl⟩,_,rfl⟩
  | plain x=>
    have okx:x∈plainW:=ok;obtain⟨_,w1,wl,_⟩:=km x okx;exact .inr ⟨x,rfl,cF wl,w1,rfl,.inl ⟨rfl,okx⟩⟩
  | num m=>exact .inr ⟨bj m,rfl,ot ok.1,sT ok.1,rfl,.inr (.inl ⟨m,rfl,rfl,ok.1,ok.2⟩)⟩
  | box x=>
    have okx:NmK x:=ok;exact .inr ⟨x,rfl,cF okx.1,okx.2.1,rfl,.inr (.inr ⟨rfl,okx⟩)⟩
 rcases shape with⟨kind,z,ez⟩ | ⟨x,et,pc,x1,s1,kd⟩
 . have hs:eI Tx ("(":Str) ((p+1:Nat):Int)=true:=cR (r:=z++r) (by rw[rD];show _=40::(z++r);rw[hd1,ez];rfl) (by omega);rw[hs];refine dh ?_;refine⟨_,rfl,_,rfl,sc,wi,Tx,p+1,k,t,r,rfl,S2,tl,by omega,hd1,ok,kind,dn,wd,k20,fun v H3 T3 S3 B3=>?_⟩;exact q v H3 T3 S3 (B1.trans (B2.trans B3))
 obtain⟨c,r',hc,c40⟩:=xH pc (by rw[cK];exact x1) r;have hd':Tx.cps.toList.drop (p+1)=cd x++r:=by rw[hd1,et]
 rw[xn (hd'.trans hc) c40];refine cb ?_;refine⟨_,rfl,sc,dx2,fs2,rfl,hs2,sf2.no4,sc,Tx,_,_,cd x,r,rfl,S2,tl,by omega,hd',pc,er,fun H3 S3 B3'=>?_⟩;rw[show stl (cd x)=x from jC _];rw[←et,←s1]at S3;have B3:SameBut sc H H3:=B1.trans (B2.trans B3');refine⟨_,rfl,ja,_,rfl,.inr (hj _),rfl,(by decide),_,rfl,?_⟩;show if inV (.str x) (plainW.map V.str)=true then _ else _
 rw[ik];rcases kd with⟨rfl,okx⟩ | ⟨m,rfl,rfl,m0,m1⟩ | ⟨rfl,okx⟩
 . refine aS okx ?_;refine⟨_,rfl,(by show 1<=sizeLine;decide),fun c hc=>?_⟩;have G:=zC0 hc (.tup [.str x]);exact q _ _ (.plain aE) (S3.same G) (B3.trans (zK0 G))
 . refine au (rj m0) ?_;have nl:=ic m0 m1;refine⟨_,rfl,bj m,rfl,by omega,fun H4 S4=>⟨_,rfl,?_⟩⟩;rw[wK m0 m1];refine dh ?_;refine⟨_,rfl,bj m,m,rfl,wJ m0 m1,by omega,(by show 2<=sizeLine;decide),fun c hc=>?_⟩;have G:=zC0 hc (.tup [.str "num",.int m]);exact q _ _ (.num aE) ((S3.same S4).same G) (B3.trans (zK0 (S4.trans G)))
 . obtain⟨xl,_,x6,xk⟩:=id okx;refine au (fun h=>xk (uX x h)) ?_;refine⟨_,rfl,x,rfl,by omega,fun H4 S4=>⟨_,rfl,?_⟩⟩;rw[yt okx];refine cb ?_;refine⟨_,rfl,x,rfl,by omega,fun H5 S5=>⟨_,rfl,?_⟩⟩;rw[wL okx];refine cb ?_;refine⟨_,rfl,(by show 2<=sizeLine;decide),fun c hc=>?_⟩;have G:=zC0 hc (.tup [.str "box",.str x]);exact q _ _ (.box aE) (((S3.same S4).same S5).same G) (B3.trans (zK0 (S4.trans (S5.trans G))))
theorem BZ {f C:Addr} {fd:FuncData}:FnOk P w K mg base CX0 3 f fd ["scan","within"] (spNextT C 0):=by
 have no:∀vs H Q E,¬ spNextT C 0 vs H Q E:=fun vs H Q E h=>by
  obtain⟨_,_,_,_,_,t,_,_,_,_,_,_,_,_,h1,_⟩:=h
  have:=t.depth_pos
  omega
 exact⟨fun vs H Q E h=>absurd h (no vs H Q E),fun A outer s H args us vs Q E _ _ _ _ h=>absurd h (no vs H Q E)⟩
theorem ku {f fj C fE fS fT fW fF:Addr} {fd fdj dE dS dT dW dF:FuncData} (F:Fun K "next_term" "next_term" fX f fd) (m:mg "next_term"=some (.ref f)) (Fj:Fun K "term_in_bracket" "term_in_bracket" cN fj fdj) (mj:mg "term_in_bracket"=some (.ref fj)) (B:Bl mg) (X:Tx K mg) (T:ScTxt K mg C) (M:Mths P w K mg base C fE fS fT fW fF dE dS dT dW dF) (cM:Cal P w K mg base 1 "is_name" ["text"] (spTxt ir)) (a9:Cal P w K mg base 1 "is_figures" ["text"] (spTxt jt)) :
 ∀n:Nat,FnOk P w K mg base CX0 (2*n+3) f fd ["scan","within"] (spNextT C n)
 | 0=>BZ
 | n+1=>
   have c1:=Cal.of F (ku F m Fj mj B X T M cM a9 n) m (fun _ _ _ _ _ _ us hl=>by obtain⟨u0,u1,rfl⟩:=DS hl;rfl)
   Ca F B X T M cM a9 (Cal.of Fj (Bu Fj X T M c1) mj (fun _ _ _ _ _ _ us hl=>by obtain⟨u0,u1,rfl⟩:=DS hl;rfl))
inductive spNextN(C:Addr)(vs:List V)(H:Hp)(Q:VK)(u_3:XK):Prop where
 | mk:∀(sc:Addr)(T:Str)(p k:Nat)(x:Str)(r:List Nat),(vs=[.ref sc])->(ScanAt C H sc T p k)->(T.length<=1000)->(p<=T.length)->(T.cps.toList.drop p=[32]++(cd x++r))->(ug r)->(NmK x)->(∀H',ScanAt C H' sc T (p+1+x.length) k->SameBut sc H H'->Q (.str x) H')->spNextN C vs H Q u_3
theorem l7:FnScope ["scan","word"] ["scan"] (ak iN):=⟨rfl,rfl,rfl,by decide,rfl,by decide,by decide⟩
theorem qZ {f C fE fS fT fW fF:Addr} {fd dE dS dT dW dF:FuncData} (F:Fun K "next_name" "next_name" iN f fd) (T:ScTxt K mg C) (M:Mths P w K mg base C fE fS fT fW fF dE dS dT dW dF) (cM:Cal P w K mg base 1 "is_name" ["text"] (spTxt ir)):FnOk P w K mg base CX0 3 f fd ["scan"] (spNextN C):=by
 refine F.ok l7 (fun vs H Q E h=>?_) (fun cdv A outer s H vs Q E hr h=>?_)
 . obtain⟨sc,Tx,p,k,x,r,rfl,_⟩:=h;rfl
 obtain ⟨sc,Tx,p,k,x,r,rfl,S0,tl,pl,hd,er,ok,q⟩:=h;have hr1:Room 1 _:=hr.mono (by omega);have hr2:Room 2 _:=hr.mono (by omega);refine⟨_,(aa (bc (bu (pv 0) T.cl M.mT M.gT hr2 M.bT .nil bq (ae ax aI)))
  (aa (aj (i:=1) l7.nd rfl (Or.inl rfl) (fL (pv 0) T.cl M.mW M.gW hr1 M.bW .nil bq))
  (aa (aB (dq (cv (ai cM hr (by omega) rfl (ae (pv 1) aI)))) bX aq)
  (ad (am (pv 1)))))),?_⟩
 have l2:((" ":Str)).length=1:=by decide
 have hl0:=jp hd pl;have hd1:=bt hd;simp only[zJ0,zQ0,List.length_nil]at hl0 hd1;obtain⟨dx0,fs0,hs0,sf0⟩:=id S0;refine⟨_,rfl,sc,dx0,fs0,rfl,hs0,sf0.no3,sc,Tx,_,p,_,rfl,S0,cR (r:=cd x++r) (by rw[jM];exact hd) pl,by rw[l2];decide,fun H1 S1 B1=>?_⟩;rw[l2]at S1;obtain⟨dx1,fs1,hs1,sf1⟩:=id S1;refine⟨_,rfl,sc,dx1,fs1,rfl,hs1,sf1.no4,sc,Tx,_,_,cd x,r,rfl,S1,tl,by omega,hd1,cF ok.1,er,fun H2 S2 B2=>?_⟩;rw[show stl (cd x)=x from jC _];rw[cK]at S2;have x6:=ok.2.2.1;refine⟨_,rfl,x,rfl,by omega,fun H3 S3=>⟨_,rfl,?_⟩⟩;rw[wL ok];refine cb ?_;exact⟨_,rfl,q H3 (S2.same S3) (B1.trans (B2.trans (zK0 S3)))⟩
inductive spNextF(C:Addr)(vs:List V)(H:Hp)(Q:VK)(u_3:XK):Prop where
 | mk:∀(sc:Addr)(T:Str)(p k:Nat)(m:Int)(r:List Nat),(vs=[.ref sc])->(ScanAt C H sc T p k)->(T.length<=1000)->(p<=T.length)->(T.cps.toList.drop p=[32]++(cd (bj m)++r))->(ug r)->(0<=m)->(m<1000000000000)->(∀H',ScanAt C H' sc T (p+1+(bj m).length) k->SameBut sc H H'->Q (.int m) H')->spNextF C vs H Q u_3
theorem gu:FnScope ["scan","word"] ["scan"] (ak fo):=⟨rfl,rfl,rfl,by decide,rfl,by decide,by decide⟩
theorem me {f C fE fS fT fW fF:Addr} {fd dE dS dT dW dF:FuncData} (F:Fun K "next_figures" "next_figures" fo f fd) (B:Bl mg) (T:ScTxt K mg C) (M:Mths P w K mg base C fE fS fT fW fF dE dS dT dW dF) (a9:Cal P w K mg base 1 "is_figures" ["text"] (spTxt jt)):FnOk P w K mg base CX0 3 f fd ["scan"] (spNextF C):=by
 refine F.ok gu (fun vs H Q E h=>?_) (fun cdv A outer s H vs Q E hr h=>?_)
 . obtain⟨sc,Tx,p,k,m,r,rfl,_⟩:=h;rfl
 obtain ⟨sc,Tx,p,k,m,r,rfl,S0,tl,pl,hd,er,m0,m1,q⟩:=h;have hr1:Room 1 _:=hr.mono (by omega);have hr2:Room 2 _:=hr.mono (by omega);refine⟨_,(aa (bc (bu (pv 0) T.cl M.mT M.gT hr2 M.bT .nil bq (ae ax aI)))
  (aa (aj (i:=1) gu.nd rfl (Or.inl rfl) (fL (pv 0) T.cl M.mW M.gW hr1 M.bW .nil bq))
  (aa (aB (dq (cv (ai a9 hr (by omega) rfl (ae (pv 1) aI)))) bX aq)
  (ad (am (cg jA rfl B.int jr (ae (pv 1) aI))))))),?_⟩
 have l2:((" ":Str)).length=1:=by decide
 have hl0:=jp hd pl;have hd1:=bt hd;simp only[zJ0,zQ0,List.length_nil]at hl0 hd1;have nl:=ic m0 m1;obtain⟨dx0,fs0,hs0,sf0⟩:=id S0;refine⟨_,rfl,sc,dx0,fs0,rfl,hs0,sf0.no3,sc,Tx,_,p,_,rfl,S0,cR (r:=cd (bj m)++r) (by rw[jM];exact hd) pl,by rw[l2];decide,fun H1 S1 B1=>?_⟩;rw[l2]at S1;obtain⟨dx1,fs1,hs1,sf1⟩:=id S1;refine⟨_,rfl,sc,dx1,fs1,rfl,hs1,sf1.no4,sc,Tx,_,_,cd (bj m),r,rfl,S1,tl,by omega,hd1,ot m0,er,fun H2 S2 B2=>?_⟩;rw[show stl (cd (bj m))=bj m from jC _];rw[cK]at S2;refine⟨_,rfl,bj m,rfl,by omega,fun H3 S3=>⟨_,rfl,?_⟩⟩;rw[wK m0 m1];refine cb ?_;exact⟨_,rfl,bj m,m,rfl,wJ m0 m1,by omega,q H3 (S2.same S3) (B1.trans (B2.trans (zK0 S3)))⟩
theorem iteNT{c A B:Prop}[Decidable c](hc:c)(h:B):if(!decide c)=true then A else B:=by
 rw[decide_eq_true hc];exact cb h
def Hr.wd:Hr->Str
 | .fin=>"end" | .go _=>"go" | .iff _ _=>"if" | .set _ _=>"set" | .say _=>"say"
def Hr.rest:Hr->List Nat
 | .fin=>[] | .go n=>[32]++cd (bj n) | .iff t n=>[32]++(t.txt++([32]++cd (bj n))) | .set x t=>[32]++(cd x++([32]++t.txt)) | .say t=>[32]++t.txt
theorem Hr.codes(r:Hr):r.str.cps.toList=cd r.wd++r.rest:=by
 cases r with
 | fin=>decide
 | go n=>
   rw[show(Hr.go n).str=(("go":Str)++(" ":Str))++bj n from rfl,gH,gH,jM];show(cd "go"++[32])++cd (bj n)=cd "go"++([32]++cd (bj n))
   simp
 | iff t n=>
   rw[show(Hr.iff t n).str=(((("if":Str)++(" ":Str))++t.str)++(" ":Str))++bj n from rfl];simp only[gH,jM];show(((cd "if"++[32])++t.txt)++[32])++cd (bj n)=cd "if"++([32]++(t.txt++([32]++cd (bj n))))
   simp
 | set x t=>
   rw[show(Hr.set x t).str=(((("set":Str)++(" ":Str))++x)++(" ":Str))++t.str from rfl];simp only[gH,jM];show(((cd "set"++[32])++cd x)++[32])++t.txt=cd "set"++([32]++(cd x++([32]++t.txt)))
   simp
 | say t=>
   rw[show(Hr.say t).str=(("say":Str)++(" ":Str))++t.str from rfl,gH,gH,jM];show(cd "say"++[32])++t.txt=cd "say"++([32]++t.txt)
   simp
theorem jq:∀x∈(["end","go","if","set","say"]:List Str),∀c∈x.cps.toList,97<=c/\c<=122:=by decide
theorem Hr.wd_ok(r:Hr):lC (cd r.wd):=by
 cases r with
 | fin=>exact cF (jq "end" (by decide))
 | go n=>exact cF (jq "go" (by decide))
 | iff t n=>exact cF (jq "if" (by decide))
 | set x t=>exact cF (jq "set" (by decide))
 | say t=>exact cF (jq "say" (by decide))
theorem Hr.rest_ok(r:Hr):ug r.rest:=by
 cases r with
 | fin=>exact .inl rfl
 | go n=>exact .inr ⟨32,_,rfl,.inl rfl⟩
 | iff t n=>exact .inr ⟨32,_,rfl,.inl rfl⟩
 | set x t=>exact .inr ⟨32,_,rfl,.inl rfl⟩
 | say t=>exact .inr ⟨32,_,rfl,.inl rfl⟩
inductive spHRw(vs:List V)(H:Hp)(Q:VK)(u_3:XK):Prop where
 | mk:∀(r:Hr)(k:Int),(vs=[.str r.str,.int k])->(r.ok 20)->(∀(v:V)(H':Hp),HrAt H' v r->Same H H'->Q v H')->spHRw vs H Q u_3
theorem ba:FnScope ["text","number","scan","word","row"] ["text","number"] (ak ia):=⟨rfl,rfl,rfl,by decide,rfl,by decide,by decide⟩
theorem pK {f C fI fE fS fT fW fF:Addr} {fd fdI dE dS dT dW dF:FuncData} (F:Fun K "helper_row" "helper_row" ia f fd) (X:Tx K mg) (T:ScTxt K mg C) (M:Mths P w K mg base C fE fS fT fW fF dE dS dT dW dF) (MK:Mk K C fI) (GI:FnOk P w K mg base CX0 1 fI fdI ["self","text","row","most_within","most_parts"] (spScInit C)) (bI:Binds K fdI ["self","text","row","most_within","most_parts"] [])
 (iJ:Cal P w K mg base 3 "next_name" ["scan"] (spNextN C)) (dP:Cal P w K mg base 3 "next_figures" ["scan"] (spNextF C)) (b8:Cal P w K mg base 19 "next_term" ["scan","within"] (spNextT C 8)):FnOk P w K mg base CX0 20 f fd ["text","number"] spHRw:=by
 refine F.ok ba (fun vs H Q E h=>?_) (fun cdv A outer s H vs Q E hr h=>?_)
 . obtain⟨r,k,rfl,_⟩:=h;rfl
 obtain ⟨r,k,rfl,ok,q⟩:=h;obtain⟨tw,gw⟩:=X.within;obtain⟨tp,gp⟩:=X.parts;have hr1:Room 1 _:=hr.mono (by decide);have hr2:Room 2 _:=hr.mono (by decide);refine⟨_,(aa (aj (i:=2) ba.nd rfl (Or.inl rfl) (ib MK GI hr2 rfl T.mgC bI .nil bq (ae (pv 0) (ae (pv 1) (ae (cq (v:=.int 8) rfl gw ⟨_,rfl⟩) (ae (cq (v:=.int 20) rfl gp ⟨_,rfl⟩) aI))))))
  (aa (aj (i:=3) ba.nd rfl (Or.inl rfl) (fL (pv 2) T.cl M.mW M.gW hr1 M.bW .nil bq))
  (aa (aj (i:=4) ba.nd rfl (Or.inl rfl) (aF (ae (pv 3) aI)))
  (aa (aB (af aH (pv 3) ax (ao _)) (ad (aj (i:=4) ba.nd rfl (Or.inl rfl) (ag op_catT (pv 4) (aF (ae (ai iJ hr (by decide) rfl (ae (pv 2) aI)) (ae (ai b8 hr (by decide) rfl (ae (pv 2) (ae ac aI))) aI)))))) (ad (aB (af aH (pv 3) ax (ao _)) (ad (aj (i:=4) ba.nd rfl (Or.inl rfl) (ag op_catT (pv 4) (aF (ae (ai b8 hr (by decide) rfl (ae (pv 2) (ae ac aI))) aI))))) (ad (aB (af aH (pv 3) ax (ao _)) (ad (aj (i:=4) ba.nd rfl (Or.inl rfl) (ag op_catT (pv 4) (aF (ae (ai b8 hr (by decide) rfl (ae (pv 2) (ae ac aI))) (ae (ai dP hr (by decide) rfl (ae (pv 2) aI)) aI)))))) (ad (aB (af aH (pv 3) ax (ao _)) (ad (aj (i:=4) ba.nd rfl (Or.inl rfl) (ag op_catT (pv 4) (aF (ae (ai dP hr (by decide) rfl (ae (pv 2) aI)) aI))))) (ad (aB (af jw (pv 3) ax (ao _)) bX aq)))))))))
  (aa (bc (fL (pv 2) T.cl M.mF M.gF hr1 M.bF .nil bq))
  (ad (am (pv 4)))))))),?_⟩
 refine ⟨_,rfl,_,rfl,fun g dx nx ndx nex=>?_⟩;have s3:Same H (upd (upd H dx (.own g)) g (.ins C dx [])):=fun b o e=>by
  rw[av (aJ e nx),av (aJ e ndx)];exact e
 refine⟨g,dx,r.str,k,rfl,aE,fun H1 S1 B1=>⟨rfl,?_⟩⟩;have N1:Same H H1:=fun b o e=>B1 b o (aJ e nx) (s3 b o e)
 have tl:r.str.length<=1000:=zO0 (Hr.str_len ok) (by decide);have hc:=r.codes;have hlen:r.str.length=r.wd.length+r.rest.length:=by
  have:=congrArg List.length hc
  rw[kA,zJ0,cK]at this;exact this
 have hd0:r.str.cps.toList.drop 0=cd r.wd++r.rest:=by rw[List.drop_zero];exact hc
 obtain⟨dx1,fs1,hs1,sf1⟩:=id S1;refine⟨_,rfl,g,dx1,fs1,rfl,hs1,sf1.no4,g,r.str,0,0,cd r.wd,r.rest,rfl,S1,tl,zW0 _,hd0,r.wd_ok,r.rest_ok,fun H2 S2 B2=>?_⟩;rw[show stl (cd r.wd)=r.wd from jC _];have hd1:=bt hd0;rw[cK]at S2 hd1;have N2:Same H H2:=fun b o e=>B2 b o (aJ e nx) (N1 b o e)
 refine⟨_,rfl,(by show 1<=sizeLine;decide),fun a ha=>?_⟩;have Ga:=zC0 ha (.tup [.str r.wd]);have ea:upd H2 a (.tup [.str r.wd]) a=some (.tup [.str r.wd]):=aE;have S3:=S2.same Ga;generalize upd H2 a (.tup [.str r.wd])=H3 at Ga ea S3;have N3:=N2.trans Ga;have isF:∀{x y:Str},x≠y->¬ V.str x=V.str y:=fun h=>neStr h
 cases r with
 | fin=>
   refine⟨_,rfl,rfl,_,rfl,?_⟩;refine au (isF (x:="end") (by decide)) ?_;refine⟨_,rfl,rfl,_,rfl,?_⟩;refine au (isF (x:="end") (by decide)) ?_;refine⟨_,rfl,rfl,_,rfl,?_⟩;refine au (isF (x:="end") (by decide)) ?_;refine⟨_,rfl,rfl,_,rfl,?_⟩;refine au (isF (x:="end") (by decide)) ?_;refine⟨_,rfl,rfl,_,rfl,?_⟩;refine iteNT rfl ?_;obtain⟨dx3,fs3,hs3,sf3⟩:=id S3;have el:0+(Hr.fin).wd.length=(Hr.fin).str.length:=by rw[hlen];show 0+_=_+0;omega
   rw[el]at S3;refine⟨_,rfl,g,dx3,fs3,rfl,hs3,sf3.no5,g,_,_,rfl,S3,tl,?_⟩;exact⟨_,rfl,q _ H3 (.fin ea) N3⟩
 | go n=>
   refine ⟨_,rfl,rfl,_,rfl,?_⟩;refine au (isF (x:="go") (by decide)) ?_;refine⟨_,rfl,rfl,_,rfl,?_⟩;refine au (isF (x:="go") (by decide)) ?_;refine⟨_,rfl,rfl,_,rfl,?_⟩;refine au (isF (x:="go") (by decide)) ?_;refine⟨_,rfl,rfl,_,rfl,?_⟩;refine aS rfl ?_;have hrl:(Hr.go n).rest.length=1+(bj n).length:=by
    show([32]++cd (bj n)).length=_;rw[zJ0,cK];rfl
   refine⟨_,rfl,_,rfl,g,_,_,_,n,[],rfl,S3,tl,by omega,by rw[hd1];show [32]++cd (bj n)=[32]++(cd (bj n)++[]);rw[List.append_nil],.inl rfl,ok.1,ok.2,fun H4 S4 B4=>?_⟩;have ea4:=cp S3 B4 _ _ ea;refine⟨(by show 1<=sizeLine;decide),fun b hb=>?_⟩;have Gb:=zC0 hb (.tup [.int n]);refine⟨a,b,_,_,rfl,rfl,zD0 (Gb _ _ ea4),zD0 aE,by simp,(by show 2<=sizeLine;decide),fun z=>(by cases z),fun _ p hp=>?_⟩;have Gp:=zC0 hp (.tup ([V.str (Hr.go n).wd]++[V.int n]));have S5:=(S4.same Gb).same Gp;have ep:upd (upd H4 b (.tup [.int n])) p (.tup ([V.str (Hr.go n).wd]++[V.int n])) p=some (.tup [.str "go",.int n]):=aE;have N5:=Gb.trans Gp;generalize upd (upd H4 b (.tup [.int n])) p (.tup ([V.str (Hr.go n).wd]++[V.int n]))=H5 at S5 ep N5;rw[show 0+(Hr.go n).wd.length+1+(bj n).length=(Hr.go n).str.length by omega]at S5;obtain⟨dx5,fs5,hs5,sf5⟩:=id S5;refine⟨_,rfl,g,dx5,fs5,rfl,hs5,sf5.no5,g,_,_,rfl,S5,tl,?_⟩;exact⟨_,rfl,q _ H5 (.go ep) fun c o e=>N5 _ _ (B4 c o (aJ e nx) (N3 c o e))⟩
 | say t=>
   refine ⟨_,rfl,rfl,_,rfl,?_⟩;refine au (isF (x:="say") (by decide)) ?_;refine⟨_,rfl,rfl,_,rfl,?_⟩;refine aS rfl ?_;have hrl:(Hr.say t).rest.length=1+t.txt.length:=by
    show([32]++t.txt).length=_;rw[zJ0];rfl
   have ok':t.fit 20:=ok;refine⟨_,rfl,_,rfl,g,1,_,_,_,t,[],rfl,S3,tl,by omega,by rw[hd1];show [32]++t.txt=[32]++(t.txt++[]);rw[List.append_nil],.inl rfl,ok'.1,ok'.2.2,by have:=ok'.2.2;omega,by have:=ok'.2.1;omega,fun v H4 T4 S4 B4=>?_⟩;have ea4:=cp S3 B4 _ _ ea;refine⟨(by show 1<=sizeLine;decide),fun b hb=>?_⟩;have Gb:=zC0 hb (.tup [v]);refine⟨a,b,_,_,rfl,rfl,zD0 (Gb _ _ ea4),zD0 aE,by simp,(by show 2<=sizeLine;decide),fun z=>(by cases z),fun _ p hp=>?_⟩;have Gp:=zC0 hp (.tup ([V.str (Hr.say t).wd]++[v]));have S5:=(S4.same Gb).same Gp;have ep:upd (upd H4 b (.tup [v])) p (.tup ([V.str (Hr.say t).wd]++[v])) p=some (.tup [.str "say",v]):=aE;have N5:=Gb.trans Gp;generalize upd (upd H4 b (.tup [v])) p (.tup ([V.str (Hr.say t).wd]++[v]))=H5 at S5 ep N5;rw[show 0+(Hr.say t).wd.length+1+t.txt.length=(Hr.say t).str.length by omega]at S5;obtain⟨dx5,fs5,hs5,sf5⟩:=id S5;refine⟨_,rfl,g,dx5,fs5,rfl,hs5,sf5.no5,g,_,_,rfl,S5,tl,?_⟩;exact⟨_,rfl,q _ H5 (.say ep (T4.mono (aV N5))) fun c o e=>N5 _ _ (B4 c o (aJ e nx) (N3 c o e))⟩
 | iff t n=>
   refine ⟨_,rfl,rfl,_,rfl,?_⟩;refine au (isF (x:="if") (by decide)) ?_;refine⟨_,rfl,rfl,_,rfl,?_⟩;refine au (isF (x:="if") (by decide)) ?_;refine⟨_,rfl,rfl,_,rfl,?_⟩;refine aS rfl ?_;have hrl:(Hr.iff t n).rest.length=1+(t.txt.length+(1+(bj n).length)):=by
    show([32]++(t.txt++([32]++cd (bj n)))).length=_;simp only[zJ0,zQ0,List.length_nil,cK]
   obtain⟨ok',n0,n1⟩:=ok;have hd2:(Hr.iff t n).str.cps.toList.drop (0+(Hr.iff t n).wd.length)=[32]++(t.txt++([32]++(cd (bj n)++[]))):=by rw[hd1,List.append_nil];rfl
   have hd3:=bt (bt hd2);simp only[zQ0,List.length_nil]at hd3;refine⟨_,rfl,_,rfl,g,1,_,_,_,t,_,rfl,S3,tl,by omega,hd2,.inr ⟨32,_,rfl,.inl rfl⟩,ok'.1,ok'.2.2,by have:=ok'.2.2;omega,by have:=ok'.2.1;omega,fun v H4 T4 S4 B4=>?_⟩;have ea4:=cp S3 B4 _ _ ea;refine⟨_,rfl,g,_,_,_,n,[],rfl,S4,tl,by omega,hd3,.inl rfl,n0,n1,fun H5 S5 B5=>?_⟩;have ea5:=cp S4 B5 _ _ ea4;have T5:=T4.mono (cp S4 B5);refine⟨(by show 2<=sizeLine;decide),fun b hb=>?_⟩;have Gb:=zC0 hb (.tup [v,.int n]);refine⟨a,b,_,_,rfl,rfl,zD0 (Gb _ _ ea5),zD0 aE,by simp,(by show 3<=sizeLine;decide),fun z=>(by cases z),fun _ p hp=>?_⟩;have Gp:=zC0 hp (.tup ([V.str (Hr.iff t n).wd]++[v,V.int n]));have S6:=(S5.same Gb).same Gp;have ep:upd (upd H5 b (.tup [v,.int n])) p (.tup ([V.str (Hr.iff t n).wd]++[v,V.int n])) p=some (.tup [.str "if",v,.int n]):=aE;have N6:=Gb.trans Gp;generalize upd (upd H5 b (.tup [v,.int n])) p (.tup ([V.str (Hr.iff t n).wd]++[v,V.int n]))=H6 at S6 ep N6;rw[show 0+(Hr.iff t n).wd.length+1+t.txt.length+1+(bj n).length=(Hr.iff t n).str.length by omega]at S6;obtain⟨dx6,fs6,hs6,sf6⟩:=id S6;refine⟨_,rfl,g,dx6,fs6,rfl,hs6,sf6.no5,g,_,_,rfl,S6,tl,?_⟩;exact⟨_,rfl,q _ H6 (.iff ep (T5.mono (aV N6))) fun c o e=>N6 _ _ (B5 c o (aJ e nx) (B4 c o (aJ e nx) (N3 c o e)))⟩
 | set x t=>
   refine ⟨_,rfl,rfl,_,rfl,?_⟩;refine aS rfl ?_;have hrl:(Hr.set x t).rest.length=1+(x.length+(1+t.txt.length)):=by
    show([32]++(cd x++([32]++t.txt))).length=_;simp only[zJ0,zQ0,List.length_nil,cK]
   obtain⟨okx,ok'⟩:=ok;have hd2:(Hr.set x t).str.cps.toList.drop (0+(Hr.set x t).wd.length)=[32]++(cd x++([32]++(t.txt++[]))):=by rw[hd1,List.append_nil];rfl
   have hd3:=bt (bt hd2);simp only[zQ0,List.length_nil,cK]at hd3;refine⟨_,rfl,_,rfl,g,_,_,_,x,_,rfl,S3,tl,by omega,hd2,.inr ⟨32,_,rfl,.inl rfl⟩,okx,fun H4 S4 B4=>?_⟩;have ea4:=cp S3 B4 _ _ ea;refine⟨_,rfl,g,1,_,_,_,t,[],rfl,S4,tl,by omega,hd3,.inl rfl,ok'.1,ok'.2.2,by have:=ok'.2.2;omega,by have:=ok'.2.1;omega,fun v H5 T5 S5 B5=>?_⟩;have ea5:=cp S4 B5 _ _ ea4;refine⟨(by show 2<=sizeLine;decide),fun b hb=>?_⟩;have Gb:=zC0 hb (.tup [.str x,v]);refine⟨a,b,_,_,rfl,rfl,zD0 (Gb _ _ ea5),zD0 aE,by simp,(by show 3<=sizeLine;decide),fun z=>(by cases z),fun _ p hp=>?_⟩;have Gp:=zC0 hp (.tup ([V.str (Hr.set x t).wd]++[.str x,v]));have S6:=(S5.same Gb).same Gp;have ep:upd (upd H5 b (.tup [.str x,v])) p (.tup ([V.str (Hr.set x t).wd]++[.str x,v])) p=some (.tup [.str "set",.str x,v]):=aE;have N6:=Gb.trans Gp;generalize upd (upd H5 b (.tup [.str x,v])) p (.tup ([V.str (Hr.set x t).wd]++[.str x,v]))=H6 at S6 ep N6;rw[show 0+(Hr.set x t).wd.length+1+x.length+1+t.txt.length=(Hr.set x t).str.length by omega]at S6;obtain⟨dx6,fs6,hs6,sf6⟩:=id S6;refine⟨_,rfl,g,dx6,fs6,rfl,hs6,sf6.no5,g,_,_,rfl,S6,tl,?_⟩;exact⟨_,rfl,q _ H6 (.set ep (T5.mono (aV N6))) fun c o e=>N6 _ _ (B5 c o (aJ e nx) (B4 c o (aJ e nx) (N3 c o e)))⟩
theorem Tm.txt_hi:∀t:Tm,t.ok->∀c∈t.txt,32<=c
 | .num n,h,c,hc=>by have:=jm h.1 c hc;omega
 | .box x,h,c,hc=>by have:=h.1 c hc;omega
 | .plain w,h,c,hc=>by have:=(km w h).2.2.1 c hc;omega
 | .ask w a,⟨h,h1⟩,c,hc=>by
   have hc':c∈[40]++(cd w++([32]++(a.txt++[41]))):=hc;simp only[List.mem_append,List.mem_singleton]at hc';rcases hc' with e | e | e | e | e
   . omega
   . have:=(vX w h).2.2.1 c e;omega
   . omega
   . exact Tm.txt_hi a h1 c e
   . omega
 | .op o a b,⟨h,h1,h2⟩,c,hc=>by
   have hc':c∈[40]++(cd o++([32]++(a.txt++([32]++(b.txt++[41]))))):=hc;simp only[List.mem_append,List.mem_singleton]at hc';rcases hc' with e | e | e | e | e | e | e
   . omega
   . have:=(qz o h).2.1 c e;omega
   . omega
   . exact Tm.txt_hi a h1 c e
   . omega
   . exact Tm.txt_hi b h2 c e
   . omega
theorem Dx{r:Hr}(ok:r.ok 20):∀c∈cd r.str,32<=c:=by
 intro c hc;have hc1:c∈cd r.wd++r.rest:=by rw[←r.codes];exact hc
 have nm:∀{n:Int},0<=n->c∈cd (bj n)->32<=c:=fun h0 h=>by have:=jm h0 c h;omega
 rcases qD0 hc1 with h | h
 . have:=r.wd_ok
   have h5:∀x∈(["end","go","if","set","say"]:List Str),c∈cd x->32<=c:=fun x hx hc=>by have:=jq x hx c hc;omega
   cases r with
   | fin=>exact h5 "end" (by decide) h
   | go n=>exact h5 "go" (by decide) h
   | iff t n=>exact h5 "if" (by decide) h
   | set x t=>exact h5 "set" (by decide) h
   | say t=>exact h5 "say" (by decide) h
 . cases r with
   | fin=>cases h
   | go n=>
     have h':c∈[32]++cd (bj n):=h;simp only[List.mem_append,List.mem_singleton]at h';rcases h' with e | e
     . omega
     . exact nm ok.1 e
   | iff t n=>
     have h':c∈[32]++(t.txt++([32]++cd (bj n))):=h;simp only[List.mem_append,List.mem_singleton]at h';rcases h' with e | e | e | e
     . omega
     . exact Tm.txt_hi t ok.1.1 c e
     . omega
     . exact nm ok.2.1 e
   | set x t=>
     have h':c∈[32]++(cd x++([32]++t.txt)):=h;simp only[List.mem_append,List.mem_singleton]at h';rcases h' with e | e | e | e
     . omega
     . have:=ok.1.1 c e;omega
     . omega
     . exact Tm.txt_hi t ok.2.1 c e
   | say t=>
     have h':c∈[32]++t.txt:=h;simp only[List.mem_append,List.mem_singleton]at h';rcases h' with e | e
     . omega
     . exact Tm.txt_hi t (show t.fit 20 from ok).1 c e
theorem oP {rs:List Hr} (g:pA rs) (h0:rs≠[]):Txt.split (kF rs) ("\n":Str)=rs.map Hr.str:=by
 unfold kF;rw[nl_eq,Cm];refine uG (c:=10) (fun z=>h0 (List.map_eq_nil_iff.mp z)) fun p hp hc=>?_
 obtain⟨r,hr,rfl⟩:=List.mem_map.mp hp
 have:=Dx (g.2 r hr) 10 hc
 omega
theorem yp {rs:List Hr} (g:pA rs) (h0:rs≠[]):kF rs≠"":=fun e=>by
 have h1:=oP g h0;rw[e,show Txt.split ("":Str) ("\n":Str)=[("":Str)]from by decide]at h1;cases rs with
 | nil=>exact h0 rfl
 | cons r l=>
   have h2:=(List.cons.inj h1).1;have h3:=r.codes;rw[←h2]at h3;have h4:cd r.wd=[]:=(List.append_eq_nil_iff.mp h3.symm).1;have h5:∀x∈(["end","go","if","set","say"]:List Str),cd x≠[]:=by decide
   cases r with
   | fin=>exact h5 "end" (by decide) h4
   | go n=>exact h5 "go" (by decide) h4
   | iff t n=>exact h5 "if" (by decide) h4
   | set x t=>exact h5 "set" (by decide) h4
   | say t=>exact h5 "say" (by decide) h4
inductive spReadH(vs:List V)(H:Hp)(Q:VK)(u_3:XK):Prop where
 | mk:∀rs:List Hr,(vs=[.str (kF rs)])->(pA rs)->(∀(a:Addr)(tv:List V)(H':Hp),H' a=some (.tup tv)->RowsAt H' tv rs->Same H H'->Q (.ref a) H')->spReadH vs H Q u_3
theorem dQ:FnScope ["text","helper","number","row"] ["text"] (ak gl):=⟨rfl,rfl,rfl,by decide,rfl,by decide,by decide⟩
theorem oC {f:Addr} {fd:FuncData} (F:Fun K "read_helper" "read_helper" gl f fd) (B:Bl mg) (X:Tx K mg) (gq:Cal P w K mg base 20 "helper_row" ["text","number"] spHRw):FnOk P w K mg base CX0 21 f fd ["text"] spReadH:=by
 refine F.ok dQ (fun vs H Q E h=>?_) (fun cdv A outer s H vs Q E hr h=>?_)
 . obtain⟨rs,rfl,_⟩:=h;rfl
 obtain ⟨rs,rfl,g,q⟩:=h;obtain⟨tm,gm⟩:=X.rows;refine⟨_,(aa (aB (af aH (pv 0) ax (ao _)) (ad (am (aF aI))) aq)
  (aa (aj (i:=1) dQ.nd rfl (Or.inl rfl) (cf aI))
  (aa (cE PassesOwn.never rfl (BO rfl B.enumerate (dH PySem.F.plainAttrs_str PySem.F.slot_str_split PySem.F.type_str_split Ar (pv 0) (ae ax aI))) (va rfl (fJ (bi (i:=2) dQ.nd rfl (Or.inl rfl)) (fJ (bi (i:=3) dQ.nd rfl (Or.inl rfl)) qV))) (aa (aB (af aH (pv 2) (cq (v:=.int 60) rfl gm ⟨_,rfl⟩) (ao _)) bX aq)
   (ad (bc (dH PySem.F.plainAttrs_list PySem.F.slot_list_append PySem.F.type_list_append bY (pv 1) (ae (ai gq hr (by decide) rfl (ae (pv 3) (ae (pv 2) aI))) aI))))))
  (ad (am (cg bU rfl B.tuple bV (ae (pv 1) aI))))))),?_⟩
 have tl:=AO g;have r60:=g.1;refine⟨_,rfl,rfl,_,rfl,?_⟩
 by_cases c0:rs=[]
 . subst c0;refine aS (by show V.str (kF [])=V.str "";decide) ?_;refine⟨zW0 _,fun t ht=>?_⟩;exact q t [] _ aE RowsAt.nil (zC0 ht _)
 refine au (fun z=>yp g c0 (yX z)) ?_;refine⟨zW0 _,fun L hL=>?_⟩;have GL:=zC0 hL (.lst []);have gL:upd H L (.lst []) L=some (.lst []):=aE;generalize upd H L (.lst [])=H1 at GL gL;have ts:=oP g c0;refine⟨_,rfl,rfl,_,_,rfl,rfl,(by decide),by omega,by rw[ts,zF0];omega,fun a ha=>?_⟩;rw[ts];have Ga:=zC0 ha (.lst ((rs.map Hr.str).map V.str));have ga:upd H1 a (.lst ((rs.map Hr.str).map V.str)) a=some (.lst ((rs.map Hr.str).map V.str)):=aE;have aL:a≠L:=fun z=>by rw[z,gL]at ha;cases ha
 generalize upd H1 a (.lst ((rs.map Hr.str).map V.str))=H2 at Ga ga;have gL2:=Ga _ _ gL;refine⟨a,rfl,⟨_,zG0 ga⟩,AT (K:=K) (xs:=(rs.map Hr.str).map V.str) (fun i σ H'=>∃(x2 x3:Option V)(tv:List V),σ=[some (.str (kF rs)),some (.ref L),x2,x3]/\H' L=some (.lst tv)/\RowsAt H' tv (rs.take i)/\SameBut L H2 H')
  ⟨_,_,[],rfl,gL2,RowsAt.nil,SameBut.refl _ _⟩ (fun i σ H' _ hst=>by obtain⟨_,_,_,_,_,_,h⟩:=hst;exact zG0 (h _ _ aL ga)) ?_ ?_⟩
 . rintro i z σ H3 t hz ⟨x2,x3,tv,rfl,hL3,R3,S3⟩ ht;have hi:=(zX0 hz).1;rw[zF0,zF0]at hi;rw[qE0,qE0,Option.map_map]at hz;obtain⟨r,hr',rfl⟩:=qW0 hz;have Gt:=zC0 ht (.tup [.int (i:Int),.str r.str]);have hL4:=Gt _ _ hL3;have vl:=R3.1;rw[qM0]at vl;refine⟨t,_,rfl,zD0 aE,rfl,_,_,rfl,_,_,rfl,rfl,?_⟩;refine⟨_,rfl,rfl,_,rfl,?_⟩;refine au (fun z=>by have:=V.int.inj z;omega) ?_;refine⟨_,rfl,.inl ⟨rfl,_,zG0 hL4⟩,_,rfl,_,rfl,r,_,rfl,g.2 r (qI0 hr'),fun v H4 ra S4=>?_⟩;have S34:Same H3 H4:=Gt.trans S4;have hL5:=S34 _ _ hL3;have kp:bL H4 (upd H4 L (.lst (tv++[v]))):=AC hL5;refine⟨L,_,_,rfl,rfl,hL5,aM (by omega),?_⟩;refine⟨_,_,tv++[v],rfl,aE,?_,?_⟩
   . rw[qK0,hr'];exact((R3.mono (aV S34)).mono kp).snoc (ra.mono kp)
   . exact S3.trans ((zK0 S34).trans (SameBut.upd _))
 . rintro σ H3 ⟨x2,x3,tv,rfl,hL3,R3,S3⟩;rw[zF0,zF0,qJ0]at R3;refine⟨_,rfl,L,_,rfl,.inl ⟨zG0 hL3,fun t ht=>?_⟩⟩;have S03:Same H H3:=fun b o e=>S3 b o (aJ e hL) (Ga _ _ (GL _ _ e))
   exact q t tv _ aE (R3.mono (aV (zC0 ht _))) (S03.trans (zC0 ht _))
structure PSW(X:Cx)(st:List Stmt)(t:TS):Prop where
 out:PSs X st t
structure PEW(X:Cx)(e:Expr)(t:TE):Prop where
 out:PE X e t
structure PAW(X:Cx)(es:List Expr)(t:TA):Prop where
 out:PA X es t
structure PTW(X:Cx)(s:Stmt)(t:TS):Prop where
 out:PS X s t
theorem bO:PAW X [] sn:=⟨aI⟩
theorem az(ha:PEW X e te)(hr:PAW X es t)(hs:starEach (e::es) X.env=(false,eval e X.env)::starEach es X.env:=by rfl):PAW X (e::es) (jP te t):=⟨ae ha.out hr.out hs⟩
theorem bN{x1}(h:PAW X es t):PEW X (.Tuple es x1 pos) (Dk t):=⟨aF h.out⟩
theorem be{x j}:PEW X (.Constant (.str x) j pos) (tC (.str x)):=⟨ax⟩
theorem ur{i j}:PEW X (.Constant (.int i) j pos) (tC (.int i)):=⟨ac⟩
theorem mL(h:PEW X e te):PTW X (.Return (some e) pos) (tRet te):=⟨am h.out⟩
theorem cO{i:Nat}{x:Str}{pos':Pos}(hN:X.N.Nodup)(hi:X.N[i]?=some x)(hx:Loc X.env.scope x)(he:PEW X e te)(hs:swapsWith e (some (.Name x pos')) pos.line X.env=pure false:=by rfl)(hf:X.fn x=true∨X.env.scope.names.lookup x=some .local:=by first | exact .inl rfl | exact .inr rfl | assumption) :
 PTW X (.Assign [.Name x pos'] e pos) (yU te (tK i)):=⟨aj hN hi hx he.out hs hf⟩
theorem mN:PSW X [] CF:=⟨aq⟩
theorem bH{s:Stmt}{ss:List Stmt}{a b:TS}(h:PTW X s a)(k:PSW X ss b):PSW X (s::ss) (xm a b):=⟨aa h.out k.out⟩
theorem jB{s:Stmt}{a:TS}(h:PTW X s a):PSW X [s] a:=⟨ad h.out⟩
theorem kN{ss:List Stmt}{t t':TS}(h:PSW X ss t)(hw:∀D σ H,t' D σ H->t D σ H):PSW X ss t':=⟨kg h.out hw⟩
theorem rY{c:Expr}{a b:List Stmt}{tc:TT}{t u:TS}(hc:PT X c tc)(ha:PSW X a t)(hb:PSW X b u):PTW X (.If c a b pos) (Do tc t u):=⟨aB hc ha.out hb.out⟩
inductive spTerm(n:Nat)(vs:List V)(H:Hp)(Q:VK)(u_3:XK):Prop where
 | mk:∀(f b:Addr)(bs:List Str)(room deep:Int),(vs=[.ref f,.ref b,.int room,.int deep])->(FeedAt H f)->(H b=some (.lst (bs.map V.str)))->(b≠f)->(1<=bs.length)->(bs.length<=100)->(1<=room)->(room<=100)->(1<=deep)->(deep<=(n:Int))->(∀(v:V)(t:Tm)(H':Hp),TmAt H' v t->t.good->(t.depth:Int)<=deep->FeedAt H' f->SameBut f H H'->Q v H')->spTerm n vs H Q u_3
theorem fQ:FnScope ["_law_feed_here","_law_boxes","_law_room","_law_deep","_law_form","_law_plain","_law_more","_law_one"] ["_law_feed_here","_law_boxes","_law_room","_law_deep"] (ak jZ):=⟨rfl,rfl,rfl,by decide,rfl,by decide,by decide⟩
theorem BC:∀c∈(("+-*/=<":Str)).cps.toList,(⟨#[c]⟩:Str)∈signW:=by decide
theorem zn:(("+-*/=<":Str)).cps.toList.length=6:=by decide
theorem at1(x y:V)(xs:List V):atI (x::y::xs) 1=some y:=cH (j:=1) rfl
inductive tLeaf(Dn:Ends)(σ:St)(H:Hp):Prop where
 | mk:∀(x2 x3 x5 x6 x7:Option V)(f b:Addr)(bs:List Str)(fm:Int),(σ=[some (.ref f),some (.ref b),x2,x3,some (.int fm),x5,x6,x7])->(FeedAt H f)->(H b=some (.lst (bs.map V.str)))->(b≠f)->(1<=bs.length)->(bs.length<=100)->(∀(v:V)(t:Tm)(H':Hp),TmAt H' v t->t.good->t.depth=1->FeedAt H' f->SameBut f H H'->Dn.rt v H')->tLeaf Dn σ H
inductive tAskT(n:Nat)(Dn:Ends)(σ:St)(H:Hp):Prop where
 | mk:∀(x4 x5 x6 x7:Option V)(f b:Addr)(bs:List Str)(room deep:Int),(σ=[some (.ref f),some (.ref b),some (.int room),some (.int deep),x4,x5,x6,x7])->(FeedAt H f)->(H b=some (.lst (bs.map V.str)))->(b≠f)->(1<=bs.length)->(bs.length<=100)->(2<=room)->(room<=100)->(2<=deep)->(deep<=(n:Int)+1)->(∀(v:V)(t:Tm)(H':Hp),TmAt H' v t->t.good->(t.depth:Int)<=deep->FeedAt H' f->SameBut f H H'->Dn.rt v H')->tAskT n Dn σ H
theorem Dy{X:Cx}{c:Expr}{a b:List Stmt}{tc:TT}{t u:TS}{pos:Pos}(hc:PT X c tc)(ha:PSW X a t)(hb:PSs X b u):PS X (.If c a b pos) (Do tc t u):=aB hc ha.out hb
theorem Ay{X:Cx}{i:Nat}{x:Str}{pos' pos p:Pos}{e1 e2 e3 e4 e5:Expr}{t1 t2 t3 t4 t5:TE}{rest:List Stmt}{u t':TS}(hN:X.N.Nodup)(hi:X.N[i]?=some x)(hx:Loc X.env.scope x)(h1:PE X e1 t1)(h2:PE X e2 t2)(h3:PE X e3 t3)(h4:PE X e4 t4)(h5:PE X e5 t5)(hr:PSs X rest u)
 (hw:∀D σ H,t' D σ H->xm (yU (tLst (jP t1 (jP t2 (jP t3 (jP t4 (jP t5 sn)))))) (tK i)) u D σ H)
 (s1:starEach [e1,e2,e3,e4,e5] X.env=(false,eval e1 X.env)::starEach [e2,e3,e4,e5] X.env:=by rfl) (s2:starEach [e2,e3,e4,e5] X.env=(false,eval e2 X.env)::starEach [e3,e4,e5] X.env:=by rfl) (s3:starEach [e3,e4,e5] X.env=(false,eval e3 X.env)::starEach [e4,e5] X.env:=by rfl) (s4:starEach [e4,e5] X.env=(false,eval e4 X.env)::starEach [e5] X.env:=by rfl) (s5:starEach [e5] X.env=(false,eval e5 X.env)::starEach [] X.env:=by rfl)
 (hf:X.fn x=true∨X.env.scope.names.lookup x=some .local:=by first | exact .inl rfl | exact .inr rfl):PSW X (.Assign [.Name x pos'] (.List [e1,e2,e3,e4,e5] p) pos::rest) t':=
 ⟨kg (aa (aj hN hi hx (cf (ae h1 (ae h2 (ae h3 (ae h4 (ae h5 aI s5) s4) s3) s2) s1)) rfl hf) hr) hw⟩
theorem Bt {n:Nat} {fA:Addr} {fd:FuncData} (F:Fun K "_law_term" "_law_term" jZ fA fd) (B:Bl mg) (aP:Cal P w K mg base 1 "_law_take" ["_law_feed_here","_law_many"] spTake) (di:Cal P w K mg base (n+2) "_law_term" ["_law_feed_here","_law_boxes","_law_room","_law_deep"] (spTerm n)):FnOk P w K mg base CX0 (n+3) fA fd ["_law_feed_here","_law_boxes","_law_room","_law_deep"] (spTerm (n+1)):=by
 refine F.ok fQ (fun vs H Q E h=>?_) (fun cdv A outer s H vs Q E hr h=>?_)
 . obtain⟨f,b,bs,room,deep,rfl,_⟩:=h;rfl
 obtain⟨f,b,bs,room,deep,rfl,F0,hb,nb,b1,b2,r1,r2,d1,d2,q⟩:=h;have hp12:(10:Int) ^ (12:Int).toNat=1000000000000:=by decide
 refine ⟨_,(aa (aj (i:=4) fQ.nd rfl (Or.inl rfl) (ai aP hr (by omega) rfl (ae (pv 0) (ae ac aI))))
  (aa (Dy (PW.pt (cV (af cJ (pv 2) ac (ao _)) (cV (af cJ (pv 3) ac (ao _)) (de (af cJ (pv 4) ac (ao _)))))) (Ay (t':=tLeaf) (i:=5) fQ.nd rfl (Or.inl rfl) (aF (ae ax aI)) (aF (ae ax aI)) (aF (ae ax aI)) (aF (ae ax (ae (ai aP hr (by omega) rfl (ae (pv 0) (ae ac aI))) aI))) (aF (ae ax (ae (ai aP hr (by omega) rfl (ae (pv 0) (ae (ag zT ac ac) aI))) aI)))
   (aa (aB (af aH (pv 4) ac (ao _)) (ad (am (aF (ae ax (ae (aD ix_list (pv 1) (ai aP hr (by omega) rfl (ae (pv 0) (ae (aA (x:="len") aC rfl B.len PySem.boot_len (ae (pv 1) aI)) aI))) (fun _ _=>rfl)) aI))))) aq)
   (ad (am (aD ix_list (pv 5) (ai aP hr (by omega) rfl (ae (pv 0) (ae ac aI))) (fun _ _=>rfl))))) (by
    rintro Dn σ H ⟨x2,x3,x5,x6,x7,f,b,bs,fm,rfl,F0,hb,nb,b1,b2,q⟩;refine⟨(by show 1<=sizeLine;decide),fun p1 hp1=>⟨(by show 1<=sizeLine;decide),fun p2 hp2=>⟨(by show 1<=sizeLine;decide),fun p3 hp3=>?_⟩⟩⟩;have g1:=zC0 hp1 (.tup [.str "round"]);have g2:=zC0 hp2 (.tup [.str "due"]);have g3:=zC0 hp3 (.tup [.str "asked"]);have e1:upd (upd (upd H p1 (.tup [.str "round"])) p2 (.tup [.str "due"])) p3 (.tup [.str "asked"]) p1=some (.tup [.str "round"]):=g3 _ _ (g2 _ _ aE);have e2:upd (upd (upd H p1 (.tup [.str "round"])) p2 (.tup [.str "due"])) p3 (.tup [.str "asked"]) p2=some (.tup [.str "due"]):=g3 _ _ aE;have e3:upd (upd (upd H p1 (.tup [.str "round"])) p2 (.tup [.str "due"])) p3 (.tup [.str "asked"]) p3=some (.tup [.str "asked"]):=aE;have S3:=g1.trans (g2.trans g3);generalize upd (upd (upd H p1 (.tup [.str "round"])) p2 (.tup [.str "due"])) p3 (.tup [.str "asked"])=H3 at e1 e2 e3 S3;refine⟨_,rfl,f,5,rfl,F0.same S3,by decide,by decide,fun w1 H4 _ _ F4 B4=>⟨(by show 2<=sizeLine;decide),fun p4 hp4=>?_⟩⟩;have k4:=aU (F0.same S3) B4;have g4:=zC0 hp4 (.tup [.str "num",.int w1]);have e4:upd H4 p4 (.tup [.str "num",.int w1]) p4=some (.tup [.str "num",.int w1]):=aE;generalize upd H4 p4 (.tup [.str "num",.int w1])=H5 at g4 e4;refine⟨_,rfl,_,_,rfl,rfl,⟨by decide,by decide,by decide⟩,f,_,rfl,F4.same g4,(by show(0:Int)<10 ^ (12:Int).toNat;rw[hp12];decide),(by show(10:Int) ^ (12:Int).toNat<2 ^ 63;rw[hp12];decide),fun w2 H6 _ _ F6 B6=>⟨(by show 2<=sizeLine;decide),fun p5 hp5=>⟨(by show 5<=sizeLine;decide),fun L hL=>?_⟩⟩⟩;have k6:=aU (F4.same g4) B6;have g5:=zC0 hp5 (.tup [.str "num",.int w2]);have g6:=zC0 hL (.lst [.ref p1,.ref p2,.ref p3,.ref p4,.ref p5]);have e5:upd (upd H6 p5 (.tup [.str "num",.int w2])) L (.lst [.ref p1,.ref p2,.ref p3,.ref p4,.ref p5]) p5=some (.tup [.str "num",.int w2]):=g6 _ _ aE;have eL:upd (upd H6 p5 (.tup [.str "num",.int w2])) L (.lst [.ref p1,.ref p2,.ref p3,.ref p4,.ref p5]) L=some (.lst [.ref p1,.ref p2,.ref p3,.ref p4,.ref p5]):=aE;have F7:=F6.same (g5.trans g6);have S7:SameBut f H (upd (upd H6 p5 (.tup [.str "num",.int w2])) L (.lst [.ref p1,.ref p2,.ref p3,.ref p4,.ref p5])):=(zK0 S3).trans (B4.trans ((zK0 g4).trans (B6.trans (zK0 (g5.trans g6)))));have Lf:L≠f:=(F6.same g5).ne hL;have J:bL H5 (upd (upd H6 p5 (.tup [.str "num",.int w2])) L (.lst [.ref p1,.ref p2,.ref p3,.ref p4,.ref p5])):=fun a xs e=>(g5.trans g6) _ _ (k6 _ _ e)
    have J3:bL H3 (upd (upd H6 p5 (.tup [.str "num",.int w2])) L (.lst [.ref p1,.ref p2,.ref p3,.ref p4,.ref p5])):=fun a xs e=>J _ _ (g4 _ _ (k4 _ _ e))
    have e1':=J3 _ _ e1;have e2':=J3 _ _ e2;have e3':=J3 _ _ e3;have e4':=J _ _ e4;generalize upd (upd H6 p5 (.tup [.str "num",.int w2])) L (.lst [.ref p1,.ref p2,.ref p3,.ref p4,.ref p5])=H7 at e1' e2' e3' e4' e5 eL F7 S7;have hb7:=S7 _ _ nb hb;clear J J3 e1 e2 e3 e4 k4 k6;refine⟨_,rfl,rfl,_,rfl,?_⟩
    by_cases c:fm=3
    . refine aS (congrArg V.int c) ?_;have bl:(bs.map V.str).length=bs.length:=zF0 _;refine⟨_,rfl,_,rfl,_,rfl,b,_,rfl,.inl (zG0 hb7),f,_,rfl,F7,by omega,by omega,fun d H8 d0 d1 F8 B8=>?_⟩;obtain⟨v,hv,vm⟩:=lV (l:=bs.map V.str) (i:=d) d0 d1;obtain⟨x,hx,rfl⟩:=List.mem_map.mp vm;refine⟨b,_,_,_,rfl,rfl,zG0 (B8 _ _ nb hb7),hv,(by show 2<=sizeLine;decide),fun p8 hp8=>?_⟩;have g8:=zC0 hp8 (.tup [.str "box",.str x]);exact q _ (.box x) _ (.box aE) trivial rfl (F8.same g8) (S7.trans (B8.trans (zK0 g8)))
    . refine au (fun z=>c (V.int.inj z)) ?_;refine⟨_,rfl,_,rfl,f,5,rfl,F7,by decide,by decide,fun d H8 d0 d1 F8 B8=>?_⟩;have k8:=aU F7 B8;have hL8:=B8 _ _ Lf eL;have S8:=S7.trans B8
      have:d=0∨d=1∨d=2∨d=3∨d=4:=by omega
      rcases this with rfl | rfl | rfl | rfl | rfl
      . exact⟨L,_,0,.ref p1,rfl,rfl,zG0 hL8,rfl,q _ (.plain "round") _ (.plain (k8 _ _ e1')) (show("round":Str)∈plainW by decide) rfl F8 S8⟩
      . exact⟨L,_,1,.ref p2,rfl,rfl,zG0 hL8,rfl,q _ (.plain "due") _ (.plain (k8 _ _ e2')) (show("due":Str)∈plainW by decide) rfl F8 S8⟩
      . exact⟨L,_,2,.ref p3,rfl,rfl,zG0 hL8,rfl,q _ (.plain "asked") _ (.plain (k8 _ _ e3')) (show("asked":Str)∈plainW by decide) rfl F8 S8⟩
      . exact⟨L,_,3,.ref p4,rfl,rfl,zG0 hL8,rfl,q _ (.num w1) _ (.num (k8 _ _ e4')) trivial rfl F8 S8⟩
      . exact⟨L,_,4,.ref p5,rfl,rfl,zG0 hL8,rfl,q _ (.num w2) _ (.num (k8 _ _ e5)) trivial rfl F8 S8⟩)) aq)
  (aa (aB (PW.pt (cV (af cJ (pv 4) ac (ao _)) (de (af cJ (pv 2) ac (ao _))))) (kg (t':=tAskT n) (ad (am (aF (ae (aD ix_list (cf (ae ax (ae ax aI))) (ai aP hr (by omega) rfl (ae (pv 0) (ae ac aI))) (fun _ _=>rfl)) (ae (ai di hr (zH0 _) rfl (ae (pv 0) (ae (pv 1) (ae (ag aQ (pv 2) ac) (ae (ag aQ (pv 3) ac) aI))))) aI))))) (by
   rintro Dn σ H ⟨x4,x5,x6,x7,f,b,bs,room,deep,rfl,F0,hb,nb,b1,b2,r1,r2,d1,d2,q⟩;refine⟨(by show 2<=sizeLine;decide),fun L hL=>?_⟩;have gL:=zC0 hL (.lst [.str "coin",.str "true"]);have eL:upd H L (.lst [.str "coin",.str "true"]) L=some (.lst [.str "coin",.str "true"]):=aE;have Lf:L≠f:=F0.ne hL;generalize upd H L (.lst [.str "coin",.str "true"])=H1 at gL eL;refine⟨_,rfl,f,2,rfl,F0.same gL,by decide,by decide,fun d H2 d0 d1' F2 B2=>?_⟩;have aw:∃aw:Str,aw∈askW/\atI [V.str "coin",.str "true"] d=some (.str aw):=by
    have:d=0∨d=1:=by omega
    rcases this with rfl | rfl
    . exact⟨"coin",by decide,at0 ..⟩
    . exact⟨"true",by decide,at1 ..⟩
   obtain⟨aw,awm,haw⟩:=aw;refine⟨L,_,_,_,rfl,rfl,zG0 (B2 _ _ Lf eL),haw,?_⟩;have hb2:=B2 _ _ nb (gL _ _ hb);refine⟨_,rfl,_,rfl,_,rfl,_,_,rfl,rfl,_,rfl,_,_,rfl,rfl,f,b,bs,room-1,deep-1,rfl,F2,hb2,nb,b1,b2,by omega,by omega,by omega,by omega,fun v t H3 T3 ok3 dp3 F3 B3=>?_⟩;refine⟨(by show 2<=sizeLine;decide),fun p hp=>?_⟩;have gp:=zC0 hp (.tup [.str aw,v]);have ed:((Tm.ask aw t).depth:Int)=(t.depth:Int)+1:=by show((t.depth+1:Nat):Int)=_;omega
   exact q _ (.ask aw t) _ (.ask aE (T3.mono (aV gp))) ⟨awm,ok3⟩ (by omega) (F3.same gp) ((zK0 gL).trans (B2.trans (B3.trans (zK0 gp)))))) aq)
  (aa (aj (i:=6) fQ.nd rfl (Or.inl rfl) (ag aO ac (ai aP hr (by omega) rfl (ae (pv 0) (ae (ag aQ (pv 2) ac) aI)))))
  (aa (aj (i:=7) fQ.nd rfl (Or.inl rfl) (ai di hr (zH0 _) rfl (ae (pv 0) (ae (pv 1) (ae (pv 6) (ae (ag aQ (pv 3) ac) aI))))))
  (ad (am (aF (ae ax (ae (aD rG ax (ai aP hr (by omega) rfl (ae (pv 0) (ae ac aI))) (fun _ _=>rfl)) (ae (pv 7) (ae (ai di hr (zH0 _) rfl (ae (pv 0) (ae (pv 1) (ae (ag aQ (ag aQ (pv 2) ac) (pv 6)) (ae (ag aQ (pv 3) ac) aI))))) aI)))))))))))),?_⟩
 refine⟨_,rfl,f,9,rfl,F0,by decide,by decide,fun fm H1 m0 m9 F1 B1=>?_⟩;have hb1:=B1 _ _ nb hb;have leaf:∀(v:V)(t:Tm)(H':Hp),TmAt H' v t->t.good->t.depth=1->FeedAt H' f->SameBut f H1 H'->Q v H':=fun v t H' T g d FF BB=>q v t H' T g (by omega) FF (B1.trans BB)
 refine⟨_,rfl,_,_,rfl,rfl,_,rfl,?_⟩
 by_cases c1:room<2
 . exact aS c1 (dh ⟨_,_,_,_,_,f,b,bs,fm,rfl,F1,hb1,nb,b1,b2,leaf⟩)
 refine au c1 ⟨_,rfl,_,_,rfl,rfl,_,rfl,?_⟩
 by_cases c2:deep<2
 . exact aS c2 (dh ⟨_,_,_,_,_,f,b,bs,fm,rfl,F1,hb1,nb,b1,b2,leaf⟩)
 refine au c2 ⟨_,rfl,_,_,rfl,rfl,_,rfl,?_⟩
 by_cases c3:fm<4
 . exact aS c3 ⟨_,_,_,_,_,f,b,bs,fm,rfl,F1,hb1,nb,b1,b2,leaf⟩
 refine au c3 ?_;have ask:∀(v:V)(t:Tm)(H':Hp),TmAt H' v t->t.good->(t.depth:Int)<=deep->FeedAt H' f->SameBut f H1 H'->Q v H':=fun v t H' T g d FF BB=>q v t H' T g d FF (B1.trans BB)
 refine⟨_,rfl,_,_,rfl,rfl,_,rfl,?_⟩
 by_cases c4:fm<6
 . exact aS c4 (dh ⟨_,_,_,_,f,b,bs,room,deep,rfl,F1,hb1,nb,b1,b2,by omega,r2,by omega,by omega,ask⟩)
 refine au c4 ⟨_,rfl,_,_,rfl,rfl,_,rfl,?_⟩
 by_cases c5:room<3
 . exact aS c5 ⟨_,_,_,_,f,b,bs,room,deep,rfl,F1,hb1,nb,b1,b2,by omega,r2,by omega,by omega,ask⟩
 refine au c5 ?_;refine⟨_,rfl,_,rfl,_,_,rfl,rfl,f,room-2,rfl,F1,by omega,by omega,fun d3 H2 a0 a1 F2 B2=>?_⟩;refine⟨_,_,rfl,rfl,?_⟩;have hb2:=B2 _ _ nb hb1;refine⟨_,rfl,_,rfl,_,rfl,_,rfl,_,_,rfl,rfl,f,b,bs,1+d3,deep-1,rfl,F2,hb2,nb,b1,b2,by omega,by omega,by omega,by omega,fun v1 t1 H3 T1 ok1 dp1 F3 B3=>?_⟩;have hb3:=B3 _ _ nb hb2;refine⟨_,rfl,f,6,rfl,F3,by decide,by decide,fun d4 H4 g0 g1 F4 B4=>?_⟩;obtain⟨c,hc,hm⟩:=lV (l:=(("+-*/=<":Str)).cps.toList) (i:=d4) g0 (by rw[zn];exact g1);have hb4:=B4 _ _ nb hb3;refine⟨_,_,_,rfl,rfl,bv (by decide),hc,_,rfl,?_⟩;refine⟨_,rfl,_,rfl,_,rfl,_,_,rfl,rfl,_,rfl,_,_,rfl,rfl,_,rfl,_,_,rfl,rfl,f,b,bs,room-1-(1+d3),deep-1,rfl,F4,hb4,nb,b1,b2,by omega,by omega,by omega,by omega,fun v2 t2 H5 T2 ok2 dp2 F5 B5=>?_⟩;have k35:bL H3 H5:=fun a ys e=>aU F4 B5 _ _ (aU F3 B4 _ _ e)
 refine ⟨(by show 4<=sizeLine;decide),fun p hp=>?_⟩;have gp:=zC0 hp (.tup [.str "op",.str ⟨#[c]⟩,v1,v2]);have ed:((Tm.op ⟨#[c]⟩ t1 t2).depth:Int)<=deep:=by
  show((max t1.depth t2.depth+1:Nat):Int)<=deep;omega
 exact q _ (.op ⟨#[c]⟩ t1 t2) _ (.op aE (T1.mono fun a xs e=>gp _ _ (k35 _ _ e)) (T2.mono (aV gp))) ⟨BC c hm,ok1,ok2⟩ ed (F5.same gp) (B1.trans (B2.trans (B3.trans (B4.trans (B5.trans (zK0 gp))))))
theorem Bs {f:Addr} {fd:FuncData}:FnOk P w K mg base CX0 2 f fd ["_law_feed_here","_law_boxes","_law_room","_law_deep"] (spTerm 0):=by
 have no:∀vs H Q E,¬ spTerm 0 vs H Q E:=fun vs H Q E h=>by
  obtain⟨_,_,_,_,_,_,_,_,_,_,_,_,_,h1,h2,_⟩:=h;omega
 exact⟨fun vs H Q E h=>absurd h (no vs H Q E),fun A outer s H args us vs Q E _ _ _ _ h=>absurd h (no vs H Q E)⟩
theorem pZ {f:Addr} {fd:FuncData} (F:Fun K "_law_term" "_law_term" jZ f fd) (B:Bl mg) (m:mg "_law_term"=some (.ref f)) (aP:Cal P w K mg base 1 "_law_take" ["_law_feed_here","_law_many"] spTake) :
 ∀n:Nat,FnOk P w K mg base CX0 (n+2) f fd ["_law_feed_here","_law_boxes","_law_room","_law_deep"] (spTerm n)
 | 0=>Bs
 | n+1=>Bt F B aP (Cal.of F (pZ F B m aP n) m (fun _ _ _ _ _ _ us hl=>by obtain⟨u0,u1,u2,u3,rfl⟩:=Ck hl;rfl))
theorem RowsAt.app{H:Hp}{a b:List V}{r s:List Hr}(h:RowsAt H a r)(k:RowsAt H b s):RowsAt H (a++b) (r++s):=by
 refine⟨by rw[zJ0,zJ0,h.1,k.1],fun i v x e1 e2=>?_⟩
 by_cases c:i<a.length
 . rw[List.getElem?_append_left c]at e1;rw[List.getElem?_append_left (by rw[←h.1];exact c)]at e2;exact h.2 i v x e1 e2
 . rw[List.getElem?_append_right (by omega)]at e1;rw[List.getElem?_append_right (by rw[←h.1];omega),←h.1]at e2;exact k.2 _ v x e1 e2
theorem RowsAt.one{H:Hp}{v:V}{r:Hr}(h:HrAt H v r):RowsAt H [v] [r]:=⟨rfl,fun i u x e1 e2=>by
 cases i with
 | zero=>cases e1;cases e2;exact h
 | succ i=>cases e1⟩
inductive spHelp(vs:List V)(H:Hp)(Q:VK)(u_3:XK):Prop where
 | mk:∀(f b:Addr)(bs:List Str)(most:Int),(vs=[.ref f,.ref b,.int most])->(FeedAt H f)->(H b=some (.lst (bs.map V.str)))->(b≠f)->(1<=bs.length)->(bs.length<=100)->(0<=most)->(most<=60)->(∀(h:Addr)(rv:List V)(rows:List Hr)(H':Hp),H' h=some (.tup rv)->RowsAt H' rv rows->(∀r∈rows,r.good)->FeedAt H' f->SameBut f H H'->Q (.ref h) H')->spHelp vs H Q u_3
theorem dR:FnScope ["_law_feed_here","_law_boxes","_law_most","_law_rows","_law_many","_law_k","_law_form"] ["_law_feed_here","_law_boxes","_law_most"] (ak jH):=⟨rfl,rfl,rfl,by decide,rfl,by decide,by decide⟩
theorem sP {f:Addr} {fd:FuncData} (F:Fun K "_law_helper" "_law_helper" jH f fd) (B:Bl mg) (aP:Cal P w K mg base 1 "_law_take" ["_law_feed_here","_law_many"] spTake) (di:Cal P w K mg base 10 "_law_term" ["_law_feed_here","_law_boxes","_law_room","_law_deep"] (spTerm 8)):FnOk P w K mg base CX0 11 f fd ["_law_feed_here","_law_boxes","_law_most"] spHelp:=by
 refine F.ok dR (fun vs H Q E h=>?_) (fun cdv A outer s H vs Q E hr h=>?_)
 . obtain⟨f,b,bs,most,rfl,_⟩:=h;rfl
 obtain ⟨f,b,bs,most,rfl,F0,hb,nb,b1,b2,m0,m1,q⟩:=h;refine⟨_,(aa (aj (i:=3) dR.nd rfl (Or.inl rfl) (cf aI))
  (aa (aj (i:=4) dR.nd rfl (Or.inl rfl) (ai aP hr (by decide) rfl (ae (pv 0) (ae (ag aO (pv 2) ac) aI))))
  (aa (cE PassesOwn.never rfl (cx rfl B.range (ae (pv 4) aI)) (bi (i:=5) dR.nd rfl (Or.inl rfl)) (aa (aj (i:=6) dR.nd rfl (Or.inl rfl) (ai aP hr (by decide) rfl (ae (pv 0) (ae ac aI))))
   (ad (aB (af cJ (pv 6) ac (ao _)) (ad (bc (dH PySem.F.plainAttrs_list PySem.F.slot_list_append PySem.F.type_list_append bY (pv 3) (ae (aF (ae ax (ae (ai di hr (by decide) rfl (ae (pv 0) (ae (pv 1) (ae ac (ae ac aI))))) aI))) aI)))) (ad (aB (af cJ (pv 6) ac (ao _)) (ad (bc (dH PySem.F.plainAttrs_list PySem.F.slot_list_append PySem.F.type_list_append bY (pv 3) (ae (aF (ae ax (ae (aD ix_list (pv 1) (ai aP hr (by decide) rfl (ae (pv 0) (ae (aA aC rfl B.len PySem.boot_len (ae (pv 1) aI)) aI))) (fun _ _=>rfl)) (ae (ai di hr (by decide) rfl (ae (pv 0) (ae (pv 1) (ae ac (ae ac aI))))) aI)))) aI)))) (ad (aB (af aH (pv 6) ac (ao _)) (ad (bc (dH PySem.F.plainAttrs_list PySem.F.slot_list_append PySem.F.type_list_append bY (pv 3) (ae (aF (ae ax (ae (ai di hr (by decide) rfl (ae (pv 0) (ae (pv 1) (ae ac (ae ac aI))))) (ae (ai aP hr (by decide) rfl (ae (pv 0) (ae (pv 4) aI))) aI)))) aI)))) (ad (aB (af aH (pv 6) ac (ao _)) (ad (bc (dH PySem.F.plainAttrs_list PySem.F.slot_list_append PySem.F.type_list_append bY (pv 3) (ae (aF (ae ax (ae (ai aP hr (by decide) rfl (ae (pv 0) (ae (pv 4) aI))) aI))) aI)))) (ad (bc (dH PySem.F.plainAttrs_list PySem.F.slot_list_append PySem.F.type_list_append bY (pv 3) (ae (aF (ae ax aI)) aI))))))))))))))
  (ad (am (cg bU rfl B.tuple bV (ae (pv 3) aI))))))),?_⟩
 refine ⟨(by show 0<=sizeLine;decide),fun L hL=>?_⟩;have I0:=zC0 hL (.lst []);have Lf:L≠f:=F0.ne hL;have g0:upd H L (.lst []) L=some (.lst []):=aE;generalize upd H L (.lst [])=H1 at I0 g0;refine⟨_,rfl,_,rfl,_,_,rfl,rfl,f,most+1,rfl,F0.same I0,by omega,by omega,fun mn H2 n0 n1 F2 B2=>?_⟩;have S2:SameBut f H H2:=(zK0 I0).trans B2;refine⟨_,rfl,_,rfl,by omega,by omega,eC (fun i σ H'=>∃(x5 x6:Option V)(vs:List V)(rows:List Hr),σ=[some (.ref f),some (.ref b),some (.int most),some (.ref L),some (.int mn),x5,x6]/\FeedAt H' f/\SameBut f H H'/\H' L=some (.lst vs)/\RowsAt H' vs rows/\(∀r∈rows,r.good)/\vs.length=i)
  ⟨_,_,[],[],rfl,F2,S2,B2 _ _ Lf g0,⟨rfl,fun i v r e=>by cases e⟩,(fun r hr=>by cases hr),rfl⟩ ?_ ?_⟩
 . rintro i σ H3 hi ⟨x5,x6,vs,rows,rfl,F3,S3,hL3,RW,rg,vl⟩;have hb3:=S3 _ _ nb hb;refine⟨_,rfl,f,8,rfl,F3,by decide,by decide,fun fm H4 f0 f1 F4 B4=>?_⟩;have hb4:=B4 _ _ nb hb3;have hL4:=B4 _ _ Lf hL3;have S4:=S3.trans B4;have RW4:=RW.mono (aU F3 B4);have fin:∀(r:Hr)(v:V)(H5:Hp),HrAt H5 v r->r.good->FeedAt H5 f->SameBut f H4 H5->H5 L=some (.lst vs)/\vs.length<sizeLine/\∃(x5' x6':Option V)(vs':List V)(rows':List Hr),[some (V.ref f),some (.ref b),some (.int most),some (.ref L),some (.int mn),some (.int (0+(i:Int))),some (.int fm)]=[some (V.ref f),some (.ref b),some (.int most),some (.ref L),some (.int mn),x5',x6']/\FeedAt (upd H5 L (.lst (vs++[v]))) f/\SameBut f H (upd H5 L (.lst (vs++[v])))/\(upd H5 L (.lst (vs++[v]))) L=some (.lst vs')/\RowsAt (upd H5 L (.lst (vs++[v]))) vs' rows'/\(∀r∈rows',r.good)/\vs'.length=i+1:=by
    intro r v H5 R5 g5 F5 B5;have hL5:=B5 _ _ Lf hL4;have k6:bL H5 (upd H5 L (.lst (vs++[v]))):=gC hL5;refine⟨hL5,aM (by omega),_,_,vs++[v],rows++[r],rfl,?_,?_,aE,((RW4.mono (aU F4 B5)).mono k6).app (RowsAt.one (R5.mono k6)),fun r' hr'=>?_,by rw[zJ0,vl];rfl⟩
    . obtain⟨x,t,e,rr⟩:=F5;exact⟨x,t,by rw[av Lf.symm];exact e,rr⟩
    . intro c o hc e;rw[av (aJ e hL)];exact B5 _ _ hc (S4 _ _ hc e)
    . rcases qD0 hr' with h | h
      . exact rg r' h
      . rw[zM0 h];exact g5
   refine⟨_,rfl,_,_,rfl,rfl,_,rfl,?_⟩
   by_cases c1:fm<3
   . refine aS c1 ?_;refine⟨_,rfl,.inl ⟨rfl,_,zG0 hL4⟩,_,rfl,_,rfl,f,b,bs,6,5,rfl,F4,hb4,nb,b1,b2,by decide,by decide,by decide,by decide,fun v t H5 T5 g5 d5 F5 B5=>⟨(by show 2<=sizeLine;decide),fun p hp=>?_⟩⟩;have Ip:=zC0 hp (.tup [.str "say",v]);obtain⟨hLx,sz,iv⟩:=fin (.say t) (.ref p) _ (.say aE (T5.mono (aV Ip))) ⟨g5,by omega⟩ (F5.same Ip) (B5.trans (zK0 Ip));exact⟨L,_,_,rfl,rfl,hLx,sz,iv⟩
   refine au c1 ⟨_,rfl,_,_,rfl,rfl,_,rfl,?_⟩
   by_cases c2:fm<5
   . refine aS c2 ?_;have bl:(bs.map V.str).length=bs.length:=zF0 _;refine⟨_,rfl,.inl ⟨rfl,_,zG0 hL4⟩,_,rfl,_,rfl,_,rfl,b,_,rfl,.inl (zG0 hb4),f,_,rfl,F4,by omega,by omega,fun d H5 d0 d1 F5 B5=>?_⟩;obtain⟨v,hv,vm⟩:=lV (l:=bs.map V.str) (i:=d) d0 d1;obtain⟨x,hx,rfl⟩:=List.mem_map.mp vm;have hb5:=B5 _ _ nb hb4;refine⟨b,_,_,_,rfl,rfl,zG0 hb5,hv,_,rfl,_,rfl,f,b,bs,6,5,rfl,F5,hb5,nb,b1,b2,by decide,by decide,by decide,by decide,fun v t H6 T6 g6 d6 F6 B6=>⟨(by show 3<=sizeLine;decide),fun p hp=>?_⟩⟩;have Ip:=zC0 hp (.tup [.str "set",.str x,v]);obtain⟨hLx,sz,iv⟩:=fin (.set x t) (.ref p) _ (.set aE (T6.mono (aV Ip))) ⟨g6,by omega⟩ (F6.same Ip) (B5.trans (B6.trans (zK0 Ip)));exact⟨L,_,_,rfl,rfl,hLx,sz,iv⟩
   refine au c2 ⟨_,rfl,rfl,_,rfl,?_⟩
   by_cases c3:fm=5
   . refine aS (congrArg V.int c3) ?_;refine⟨_,rfl,.inl ⟨rfl,_,zG0 hL4⟩,_,rfl,_,rfl,f,b,bs,5,4,rfl,F4,hb4,nb,b1,b2,by decide,by decide,by decide,by decide,fun v t H5 T5 g5 d5 F5 B5=>?_⟩;refine⟨_,rfl,_,rfl,f,mn,rfl,F5,by omega,by omega,fun d H6 d0 d1 F6 B6=>⟨(by show 3<=sizeLine;decide),fun p hp=>?_⟩⟩;have Ip:=zC0 hp (.tup [.str "if",v,.int d]);obtain⟨hLx,sz,iv⟩:=fin (.iff t d) (.ref p) _ (.iff aE (T5.mono fun a xs e=>Ip _ _ (aU F5 B6 _ _ e))) ⟨g5,by omega,d0⟩ (F6.same Ip) (B5.trans (B6.trans (zK0 Ip)));exact⟨L,_,_,rfl,rfl,hLx,sz,iv⟩
   refine au (fun z=>c3 (V.int.inj z)) ⟨_,rfl,rfl,_,rfl,?_⟩
   by_cases c4:fm=6
   . refine aS (congrArg V.int c4) ?_;refine⟨_,rfl,.inl ⟨rfl,_,zG0 hL4⟩,_,rfl,_,rfl,f,mn,rfl,F4,by omega,by omega,fun d H6 d0 d1 F6 B6=>⟨(by show 2<=sizeLine;decide),fun p hp=>?_⟩⟩;have Ip:=zC0 hp (.tup [.str "go",.int d]);obtain⟨hLx,sz,iv⟩:=fin (.go d) (.ref p) _ (.go aE) d0 (F6.same Ip) (B6.trans (zK0 Ip));exact⟨L,_,_,rfl,rfl,hLx,sz,iv⟩
   refine au (fun z=>c4 (V.int.inj z)) ?_;refine⟨_,rfl,.inl ⟨rfl,_,zG0 hL4⟩,(by show 1<=sizeLine;decide),fun p hp=>?_⟩;have Ip:=zC0 hp (.tup [.str "end"]);obtain⟨hLx,sz,iv⟩:=fin .fin (.ref p) _ (.fin aE) trivial (F4.same Ip) (zK0 Ip);exact⟨L,_,_,rfl,rfl,hLx,sz,iv⟩
 . rintro σ H3 ⟨x5,x6,vs,rows,rfl,F3,S3,hL3,RW,rg,vl⟩;refine⟨_,rfl,L,_,rfl,.inl ⟨zG0 hL3,fun h hh=>?_⟩⟩;have Ih:=zC0 hh (.tup vs);exact q h vs rows _ aE (RW.mono (aV Ih)) rg (F3.same Ih) (S3.trans (zK0 Ih))
inductive spLiar(vs:List V)(H:Hp)(Q:VK)(u_3:XK):Prop where
 | mk:∀(f:Addr)(x:Str),(vs=[.ref f,.str x])->(FeedAt H f)->(∀(h:Addr)(rv:List V)(rows:List Hr)(H':Hp),H' h=some (.tup rv)->RowsAt H' rv rows->(∀r∈rows,r.good)->FeedAt H' f->SameBut f H H'->Q (.ref h) H')->spLiar vs H Q u_3
theorem dL:FnScope ["_law_feed_here","_law_box","_law_j","_law_wrong","_law_more","_law_told"] ["_law_feed_here","_law_box"] (ak nJ):=⟨rfl,rfl,rfl,by decide,rfl,by decide,by decide⟩
inductive tLi1(Dn:Ends)(σ:St)(H:Hp):Prop where
 | mk:∀(x4 x5:Option V)(f:Addr)(x:Str)(vj vw:V)(tw:Tm),(σ=[some (.ref f),some (.str x),some vj,some vw,x4,x5])->(FeedAt H f)->(TmAt H vj (.box x))->(TmAt H vw tw)->(tw.good)->(tw.depth<=3)->(∀(h:Addr)(rv:List V)(rows:List Hr)(H':Hp),H' h=some (.tup rv)->RowsAt H' rv rows->(∀r∈rows,r.good)->FeedAt H' f->SameBut f H H'->Dn.rt (.ref h) H')->tLi1 Dn σ H
inductive tLi2(Dn:Ends)(σ:St)(H:Hp):Prop where
 | mk:∀(x3 x5:Option V)(f:Addr)(x:Str)(vj vm:V)(tm:Tm),(σ=[some (.ref f),some (.str x),some vj,x3,some vm,x5])->(FeedAt H f)->(TmAt H vj (.box x))->(TmAt H vm tm)->(tm.good)->(tm.depth<=4)->(∀(h:Addr)(rv:List V)(rows:List Hr)(H':Hp),H' h=some (.tup rv)->RowsAt H' rv rows->(∀r∈rows,r.good)->FeedAt H' f->SameBut f H H'->Dn.rt (.ref h) H')->tLi2 Dn σ H
theorem DI{s:Str}{a b:Tm}{m:Nat}(h1:a.depth<=m)(h2:b.depth<=m):(Tm.op s a b).depth<=m+1:=by
 show max a.depth b.depth+1<=m+1;omega
theorem xN {f:Addr} {fd:FuncData} (F:Fun K "_law_liar" "_law_liar" nJ f fd) (aP:Cal P w K mg base 1 "_law_take" ["_law_feed_here","_law_many"] spTake):FnOk P w K mg base CX0 2 f fd ["_law_feed_here","_law_box"] spLiar:=by
 refine F.ok dL (fun vs H Q E h=>?_) (fun cdv A outer s H vs Q E hr h=>?_)
 . obtain⟨f,x,rfl,_⟩:=h;rfl
 obtain ⟨f,x,rfl,F0,q⟩:=h;refine⟨_,PSW.out (bH (cO (i:=2) dL.nd rfl (Or.inl rfl) (bN (az be (az ⟨pv 1⟩ bO))))
  (bH (cO (i:=3) dL.nd rfl (Or.inl rfl) (bN (az be (az be (az ⟨pv 2⟩ (az (bN (az be (az ⟨(ai aP hr (by decide) rfl (ae (pv 0) (ae ac aI)))⟩ bO))) bO))))))
  (bH (rY (af gB (ai aP hr (by decide) rfl (ae (pv 0) (ae ac aI))) ac (ao _)) (jB (cO (i:=3) dL.nd rfl (Or.inl rfl) (bN (az be (az be (az ⟨pv 3⟩ (az (bN (az be (az be (az (bN (az be bO)) (az (bN (az be (az ⟨(ai aP hr (by decide) rfl (ae (pv 0) (ae ac aI)))⟩ bO))) bO))))) bO))))))) mN)
  (kN (t':=tLi1) (bH (cO (i:=4) dL.nd rfl (Or.inl rfl) (bN (az be (az be (az ⟨pv 3⟩ (az (bN (az be (az ⟨(ag aO ac (ai aP hr (by decide) rfl (ae (pv 0) (ae ac aI))))⟩ bO))) bO))))))
  (bH (rY (af aH (ai aP hr (by decide) rfl (ae (pv 0) (ae ac aI))) ac (ao _)) (jB (cO (i:=4) dL.nd rfl (Or.inl rfl) (bN (az be (az be (az ⟨pv 3⟩ (az (bN (az be (az be (az (bN (az be (az (bN (az be (az ⟨(ag aO ac (ai aP hr (by decide) rfl (ae (pv 0) (ae ac aI))))⟩ bO))) bO))) (az (bN (az be (az ⟨(ai aP hr (by decide) rfl (ae (pv 0) (ae ac aI)))⟩ bO))) bO))))) bO))))))) mN)
  (kN (t':=tLi2) (bH (cO (i:=5) dL.nd rfl (Or.inl rfl) (bN (az be (az be (az (bN (az be (az ⟨pv 2⟩ bO))) (az ⟨pv 4⟩ bO))))))
  (jB (mL (bN (az (bN (az be (az ⟨pv 1⟩ (az (bN (az be (az ur bO))) bO)))) (az (bN (az be (az ⟨pv 5⟩ bO))) (az (bN (az be (az ⟨pv 1⟩ (az (bN (az be (az be (az ⟨pv 2⟩ (az (bN (az be (az ur bO))) bO))))) bO)))) (az (bN (az be (az ur bO))) bO)))))))) (by
   rintro Dn σ H ⟨x3,x5,f,x,vj,vm,tm,rfl,F0,Tj,Tm,gm,dm,q⟩;have s2:2<=sizeLine:=by decide
   have s3:3<=sizeLine:=by decide
   have s4:4<=sizeLine:=by decide
   refine⟨_,rfl,s2,fun p1 h1=>⟨_,rfl,s4,fun p2 h2=>?_⟩⟩;have I1:=zC0 h1 (.tup [.str "true",vj]);have I2:=zC0 h2 (.tup [.str "op",.str "+",.ref p1,vm]);have T2:TmAt (upd (upd H p1 (.tup [.str "true",vj])) p2 (.tup [.str "op",.str "+",.ref p1,vm])) (.ref p2) (.op "+" (.ask "true" (.box x)) tm):=.op aE (.ask (I2 _ _ aE) (Tj.mono (aV (I1.trans I2)))) (Tm.mono (aV (I1.trans I2)));have J2:=I1.trans I2;generalize upd (upd H p1 (.tup [.str "true",vj])) p2 (.tup [.str "op",.str "+",.ref p1,vm])=H2 at T2 J2;refine⟨_,rfl,s2,fun p5 h5=>⟨s3,fun p6 h6=>?_⟩⟩;have I5:=zC0 h5 (.tup [.str "num",.int 0]);have I6:=zC0 h6 (.tup [.str "set",.str x,.ref p5]);have R6:HrAt (upd (upd H2 p5 (.tup [.str "num",.int 0])) p6 (.tup [.str "set",.str x,.ref p5])) (.ref p6) (.set x (.num 0)):=.set aE (.num (I6 _ _ aE));have J6:=I5.trans I6;generalize upd (upd H2 p5 (.tup [.str "num",.int 0])) p6 (.tup [.str "set",.str x,.ref p5])=H6 at R6 J6;refine⟨_,rfl,s2,fun p7 h7=>?_⟩;have I7:=zC0 h7 (.tup [.str "say",.ref p2]);have R7:HrAt (upd H6 p7 (.tup [.str "say",.ref p2])) (.ref p7) (.say (.op "+" (.ask "true" (.box x)) tm)):=.say aE (T2.mono (aV (J6.trans I7)));generalize upd H6 p7 (.tup [.str "say",.ref p2])=H7 at R7 I7;refine⟨_,rfl,_,rfl,s2,fun p3 h3=>⟨s4,fun p4 h4=>?_⟩⟩;have I3:=zC0 h3 (.tup [.str "num",.int 1]);have I4:=zC0 h4 (.tup [.str "op",.str "+",vj,.ref p3]);have J4:=I3.trans I4;have T4:TmAt (upd (upd H7 p3 (.tup [.str "num",.int 1])) p4 (.tup [.str "op",.str "+",vj,.ref p3])) (.ref p4) (.op "+" (.box x) (.num 1)):=.op aE (Tj.mono (aV (J2.trans (J6.trans (I7.trans J4))))) (.num (I4 _ _ aE));generalize upd (upd H7 p3 (.tup [.str "num",.int 1])) p4 (.tup [.str "op",.str "+",vj,.ref p3])=H8 at T4 J4;refine⟨s3,fun p8 h8=>⟨s2,fun p9 h9=>⟨s4,fun p h10=>?_⟩⟩⟩;have I8:=zC0 h8 (.tup [.str "set",.str x,.ref p4]);have I9:=zC0 h9 (.tup [.str "go",.int 1]);have I10:=zC0 h10 (.tup [.ref p6,.ref p7,.ref p8,.ref p9]);have J10:=I8.trans (I9.trans I10);have R8:HrAt (upd (upd (upd H8 p8 (.tup [.str "set",.str x,.ref p4])) p9 (.tup [.str "go",.int 1])) p (.tup [.ref p6,.ref p7,.ref p8,.ref p9])) (.ref p8) (.set x (.op "+" (.box x) (.num 1))):=.set ((I9.trans I10) _ _ aE) (T4.mono (aV J10));have R9:HrAt (upd (upd (upd H8 p8 (.tup [.str "set",.str x,.ref p4])) p9 (.tup [.str "go",.int 1])) p (.tup [.ref p6,.ref p7,.ref p8,.ref p9])) (.ref p9) (.go 1):=.go (I10 _ _ aE);have JJ:=J2.trans (J6.trans (I7.trans (J4.trans J10)));have pl:("+":Str)∈signW:=by decide
   refine q p _ _ _ aE ((((RowsAt.one (R6.mono (aV (I7.trans (J4.trans J10))))).app (RowsAt.one (R7.mono (aV (J4.trans J10))))).app (RowsAt.one R8)).app (RowsAt.one R9)) (fun r hr=>?_) (F0.same JJ) (zK0 JJ);rcases qD0 hr with hr | hr
   . rcases qD0 hr with hr | hr
     . rcases qD0 hr with hr | hr
       . rw[zM0 hr];exact⟨trivial,(by show 1<=8;decide)⟩
       . rw[zM0 hr];exact⟨⟨pl,⟨by decide,trivial⟩,gm⟩,zO0 (DI (m:=4) (by show 2<=4;decide) dm) (by decide)⟩
     . rw[zM0 hr];exact⟨⟨pl,trivial,trivial⟩,(by show 2<=8;decide)⟩
   . rw[zM0 hr];exact(by show(0:Int)<=1;decide))))) (by
   rintro Dn σ H ⟨x4,x5,f,x,vj,vw,tw,rfl,F0,Tj,Tw,gw,dw,q⟩;have s2:2<=sizeLine:=by decide
   have s4:4<=sizeLine:=by decide
   have st:("*":Str)∈signW:=by decide
   have pl:("+":Str)∈signW:=by decide
   refine⟨_,rfl,_,rfl,f,4,rfl,F0,by decide,by decide,fun d1 H1 _ _ F1 B1=>⟨_,_,rfl,rfl,s2,fun p1 h1=>⟨s4,fun p2 h2=>?_⟩⟩⟩;have k1:=aU F0 B1;have I1:=zC0 h1 (.tup [.str "num",.int (1+d1)]);have I2:=zC0 h2 (.tup [.str "op",.str "*",vw,.ref p1]);have J2:=I1.trans I2;have T2:TmAt (upd (upd H1 p1 (.tup [.str "num",.int (1+d1)])) p2 (.tup [.str "op",.str "*",vw,.ref p1])) (.ref p2) (.op "*" tw (.num (1+d1))):=.op aE (Tw.mono fun a xs e=>J2 _ _ (k1 _ _ e)) (.num (I2 _ _ aE));generalize upd (upd H1 p1 (.tup [.str "num",.int (1+d1)])) p2 (.tup [.str "op",.str "*",vw,.ref p1])=H2 at T2 J2;have F2:=F1.same J2;refine⟨_,rfl,f,3,rfl,F2,by decide,by decide,fun d2 H3 _ _ F3 B3=>⟨rfl,_,rfl,?_⟩⟩;have k3:=aU F2 B3;have S3:SameBut f H H3:=B1.trans ((zK0 J2).trans B3);have kk:bL H H3:=fun a xs e=>k3 _ _ (J2 _ _ (k1 _ _ e))
   by_cases c:d2=0
   . refine aS (congrArg V.int c) ?_;refine⟨_,rfl,_,rfl,f,3,rfl,F3,by decide,by decide,fun d3 H4 _ _ F4 B4=>⟨_,_,rfl,rfl,s2,fun p3 h3=>⟨s2,fun p4 h4=>?_⟩⟩⟩;have k4:=aU F3 B4;have I3:=zC0 h3 (.tup [.str "num",.int (1+d3)]);have I4:=zC0 h4 (.tup [.str "coin",.ref p3]);have J4:=I3.trans I4;have T4:TmAt (upd (upd H4 p3 (.tup [.str "num",.int (1+d3)])) p4 (.tup [.str "coin",.ref p3])) (.ref p4) (.ask "coin" (.num (1+d3))):=.ask aE (.num (I4 _ _ aE));generalize upd (upd H4 p3 (.tup [.str "num",.int (1+d3)])) p4 (.tup [.str "coin",.ref p3])=H5 at T4 J4;have F5:=F4.same J4;refine⟨_,rfl,f,3,rfl,F5,by decide,by decide,fun d5 H6 _ _ F6 B6=>⟨s2,fun p5 h5=>⟨s4,fun p6 h6=>?_⟩⟩⟩;have k6:=aU F5 B6;have I5:=zC0 h5 (.tup [.str "num",.int d5]);have I6:=zC0 h6 (.tup [.str "op",.str "+",.ref p4,.ref p5]);have J6:=I5.trans I6;have T6:TmAt (upd (upd H6 p5 (.tup [.str "num",.int d5])) p6 (.tup [.str "op",.str "+",.ref p4,.ref p5])) (.ref p6) (.op "+" (.ask "coin" (.num (1+d3))) (.num d5)):=.op aE (T4.mono fun a xs e=>J6 _ _ (k6 _ _ e)) (.num (I6 _ _ aE));generalize upd (upd H6 p5 (.tup [.str "num",.int d5])) p6 (.tup [.str "op",.str "+",.ref p4,.ref p5])=H7 at T6 J6;have F7:=F6.same J6;have kw:bL H H7:=fun a xs e=>J6 _ _ (k6 _ _ (J4 _ _ (k4 _ _ (kk _ _ e))))
     refine⟨s4,fun p7 h7=>?_⟩;have I7:=zC0 h7 (.tup [.str "op",.str "*",vw,.ref p6]);refine⟨_,_,f,x,vj,.ref p7,.op "*" tw (.op "+" (.ask "coin" (.num (1+d3))) (.num d5)),rfl,F7.same I7,Tj.mono (fun a xs e=>I7 _ _ (kw _ _ e)),.op aE (Tw.mono fun a xs e=>I7 _ _ (kw _ _ e)) (T6.mono (aV I7)),⟨st,gw,pl,⟨by decide,trivial⟩,trivial⟩,DI (m:=3) dw (by show 3<=3;decide),fun h rv rows H' h1 h2 h3 h4 h5=>q h rv rows H' h1 h2 h3 h4 (S3.trans (B4.trans ((zK0 J4).trans (B6.trans ((zK0 (J6.trans I7)).trans h5)))))⟩
   . refine au (fun z=>c (V.int.inj z)) ?_;exact⟨_,_,f,x,vj,.ref p2,.op "*" tw (.num (1+d1)),rfl,F3,Tj.mono kk,T2.mono k3,⟨st,gw,trivial⟩,DI (m:=3) dw (by show 1<=3;decide),fun h rv rows H' h1 h2 h3 h4 h5=>q h rv rows H' h1 h2 h3 h4 (S3.trans h5)⟩))))),?_⟩
 have s1:1<=sizeLine:=by decide
 have s2:2<=sizeLine:=by decide
 have s4:4<=sizeLine:=by decide
 have st:("*":Str)∈signW:=by decide
 have eqs:("=":Str)∈signW:=by decide
 refine⟨_,rfl,s2,fun pj hj=>?_⟩;have Ij:=zC0 hj (.tup [.str "box",.str x]);have Tj:TmAt (upd H pj (.tup [.str "box",.str x])) (.ref pj) (.box x):=.box aE;generalize upd H pj (.tup [.str "box",.str x])=H1 at Ij Tj;refine⟨_,rfl,_,rfl,f,4,rfl,F0.same Ij,by decide,by decide,fun d1 H2 _ _ F2 B2=>⟨s2,fun p1 h1=>⟨s4,fun p2 h2=>?_⟩⟩⟩;have k2:=aU (F0.same Ij) B2;have I1:=zC0 h1 (.tup [.str "num",.int d1]);have I2:=zC0 h2 (.tup [.str "op",.str "=",.ref pj,.ref p1]);have J2:=I1.trans I2;have T2:TmAt (upd (upd H2 p1 (.tup [.str "num",.int d1])) p2 (.tup [.str "op",.str "=",.ref pj,.ref p1])) (.ref p2) (.op "=" (.box x) (.num d1)):=.op aE (Tj.mono fun a xs e=>J2 _ _ (k2 _ _ e)) (.num (I2 _ _ aE));have Tj2:=Tj.mono fun a xs e=>J2 _ _ (k2 _ _ e)
 have S3:SameBut f H (upd (upd H2 p1 (.tup [.str "num",.int d1])) p2 (.tup [.str "op",.str "=",.ref pj,.ref p1])):=(zK0 Ij).trans (B2.trans (zK0 J2));have F3:=F2.same J2;generalize upd (upd H2 p1 (.tup [.str "num",.int d1])) p2 (.tup [.str "op",.str "=",.ref pj,.ref p1])=H3 at T2 Tj2 S3 F3;refine⟨_,rfl,f,3,rfl,F3,by decide,by decide,fun d2 H4 _ _ F4 B4=>⟨_,_,rfl,rfl,_,rfl,?_⟩⟩;have k4:=aU F3 B4;have S4:=S3.trans B4
 by_cases c:d2>0
 . refine aS c ?_;refine⟨_,rfl,s1,fun p3 h3=>?_⟩;have I3:=zC0 h3 (.tup [.str "round"]);have e3:upd H4 p3 (.tup [.str "round"]) p3=some (.tup [.str "round"]):=aE;generalize upd H4 p3 (.tup [.str "round"])=H5 at I3 e3;refine⟨_,rfl,f,6,rfl,F4.same I3,by decide,by decide,fun d5 H6 _ _ F6 B6=>⟨s2,fun p5 h5=>⟨s4,fun p6 h6=>?_⟩⟩⟩;have k6:=aU (F4.same I3) B6;have I5:=zC0 h5 (.tup [.str "num",.int d5]);have I6:=zC0 h6 (.tup [.str "op",.str "=",.ref p3,.ref p5]);have J6:=I5.trans I6;have T6:TmAt (upd (upd H6 p5 (.tup [.str "num",.int d5])) p6 (.tup [.str "op",.str "=",.ref p3,.ref p5])) (.ref p6) (.op "=" (.plain "round") (.num d5)):=.op aE (.plain (J6 _ _ (k6 _ _ e3))) (.num (I6 _ _ aE));generalize upd (upd H6 p5 (.tup [.str "num",.int d5])) p6 (.tup [.str "op",.str "=",.ref p3,.ref p5])=H7 at T6 J6;have kw:bL H3 H7:=fun a xs e=>J6 _ _ (k6 _ _ (I3 _ _ (k4 _ _ e)))
   refine⟨s4,fun p7 h7=>?_⟩;have I7:=zC0 h7 (.tup [.str "op",.str "*",.ref p2,.ref p6]);exact⟨_,_,f,x,.ref pj,.ref p7,.op "*" (.op "=" (.box x) (.num d1)) (.op "=" (.plain "round") (.num d5)),rfl,F6.same (J6.trans I7),Tj2.mono (fun a xs e=>I7 _ _ (kw _ _ e)),.op aE (T2.mono fun a xs e=>I7 _ _ (kw _ _ e)) (T6.mono (aV I7)),⟨st,⟨eqs,trivial,trivial⟩,eqs,(show("round":Str)∈plainW by decide),trivial⟩,(by show 3<=3;decide),fun h rv rows H' h1 h2 h3 h4 h5=>q h rv rows H' h1 h2 h3 h4 (S4.trans ((zK0 I3).trans (B6.trans ((zK0 (J6.trans I7)).trans h5))))⟩
 . refine au c ?_;exact⟨_,_,f,x,.ref pj,.ref p2,.op "=" (.box x) (.num d1),rfl,F4,Tj2.mono k4,T2.mono k4,⟨eqs,trivial,trivial⟩,(by show 2<=3;decide),fun h rv rows H' h1 h2 h3 h4 h5=>q h rv rows H' h1 h2 h3 h4 (S4.trans h5)⟩
section
theorem hons_good:pA dr:=by
 refine⟨by decide,fun r hr=>?_⟩;unfold dr hB at hr;simp only[List.mem_cons,List.not_mem_nil,or_false]at hr;have ni:NmK "i":=by unfold NmK;decide
 rcases hr with rfl | rfl | rfl | rfl
 . exact⟨ni,⟨by decide,by decide⟩,by decide,by decide⟩
 . exact⟨⟨by decide,ni⟩,by decide,by decide⟩
 . exact⟨ni,⟨by decide,ni,by decide,by decide⟩,by decide,by decide⟩
 . exact⟨by decide,by decide⟩
theorem ym:kF dr="set i 0\nsay (true i)\nset i (+ i 1)\ngo 1":=by decide
theorem jk:∀t:Tm,t.ok->t.good
 | .num _,_=>trivial
 | .box _,_=>trivial
 | .plain _,h=>h
 | .ask _ a,h=>⟨h.1,jk a h.2⟩
 | .op _ a b,h=>⟨h.1,jk a h.2.1,jk b h.2.2⟩
theorem wN{r:Hr}(h:r.ok 20):r.good:=by
 cases r with
 | fin=>trivial
 | go n=>exact h.1
 | iff t n=>exact⟨jk t h.1.1,h.1.2.2,h.2.1⟩
 | set x t=>exact⟨jk t h.2.1,h.2.2.2⟩
 | say t=>exact⟨jk t h.1,h.2.2⟩
inductive spHonest(vs:List V)(H:Hp)(Q:VK)(u_3:XK):Prop where
 | mk:(vs=[])->(∀(a:Addr)(H':Hp),HlpAt H' a dr->Same H H'->Q (.ref a) H')->spHonest vs H Q u_3
theorem xu:FnScope [] [] (ak nQ):=⟨rfl,rfl,rfl,by decide,rfl,by decide,by decide⟩
theorem xQ {f:Addr} {fd:FuncData} (F:Fun K "honest" "honest" nQ f fd) (X:∃t,mg "HONEST_ROWS"=some (.str ("set i 0\nsay (true i)\nset i (+ i 1)\ngo 1":Str) t)) (cn:Cal P w K mg base 21 "read_helper" ["text"] spReadH):FnOk P w K mg base CX0 22 f fd [] spHonest:=by
 refine F.ok xu (fun vs H Q E h=>?_) (fun cdv A outer s H vs Q E hr h=>?_)
 . obtain⟨rfl,_⟩:=h;rfl
 obtain⟨rfl,q⟩:=h;obtain⟨t,gx⟩:=X;refine⟨_,(ad (am (ai cn hr (by decide) rfl (ae (cq (v:=.str ("set i 0\nsay (true i)\nset i (+ i 1)\ngo 1":Str)) rfl gx ⟨_,rfl⟩) aI)))),?_⟩;exact⟨dr,by rw[ym];rfl,hons_good,fun a tv H' ha R S=>q a H' ⟨⟨tv,ha,R⟩,fun r hr=>wN (hons_good.2 r hr)⟩ S⟩
inductive spIdle(vs:List V)(H:Hp)(Q:VK)(u_3:XK):Prop where
 | mk:(vs=[])->(∀(a:Addr)(H':Hp),HlpAt H' a []->Same H H'->Q (.ref a) H')->spIdle vs H Q u_3
theorem BE:FnScope [] [] (ak uS):=⟨rfl,rfl,rfl,by decide,rfl,by decide,by decide⟩
theorem BV {f:Addr} {fd:FuncData} (F:Fun K "idle" "idle" uS f fd):FnOk P w K mg base CX0 1 f fd [] spIdle:=by
 refine F.ok BE (fun vs H Q E h=>?_) (fun cdv A outer s H vs Q E hr h=>?_)
 . obtain⟨rfl,_⟩:=h;rfl
 obtain⟨rfl,q⟩:=h;exact⟨_,(ad (am (aF aI))),(by show 0<=sizeLine;decide),fun a ha=>q a _ ⟨⟨[],aE,RowsAt.nil⟩,fun r hr=>by cases hr⟩ (zC0 ha _)⟩
def tD:List Hr:=[.iff (.op "=" (.box "lied") (.num 0)) 9,.iff (.op "=" (.plain "asked") (.num 1)) 8,.say (.ask "true" (.num 0)),.say (.op "-" (.plain "due") (.ask "true" (.num 0))),.set "i" (.num 2),.say (.ask "true" (.box "i")),.set "i" (.op "+" (.box "i") (.num 1)),.go 5,.say (.op "/" (.plain "due") (.num 2)),.set "lied" (.num 1)]
abbrev Cz:Str:="if (= lied 0) 9\nif (= asked 1) 8\nsay (true 0)\nsay (- due (true 0))\nset i 2\nsay (true i)\nset i (+ i 1)\ngo 5\nsay (/ due 2)\nset lied 1"
theorem vJ:kF tD=Cz:=by decide
theorem liars_good:pA tD:=by
 refine⟨by decide,fun r hr=>?_⟩;unfold tD at hr;simp only[List.mem_cons,List.not_mem_nil,or_false]at hr;have ni:NmK "i":=by unfold NmK;decide
 have nl:NmK "lied":=by unfold NmK;decide
 rcases hr with rfl | rfl | rfl | rfl | rfl | rfl | rfl | rfl | rfl | rfl
 . exact⟨⟨⟨by decide,nl,by decide,by decide⟩,by decide,by decide⟩,by decide,by decide⟩
 . exact⟨⟨⟨by decide,(by decide:("asked":Str)∈plainW),by decide,by decide⟩,by decide,by decide⟩,by decide,by decide⟩
 . exact⟨⟨by decide,by decide,by decide⟩,by decide,by decide⟩
 . exact⟨⟨by decide,(by decide:("due":Str)∈plainW),by decide,by decide,by decide⟩,by decide,by decide⟩
 . exact⟨ni,⟨by decide,by decide⟩,by decide,by decide⟩
 . exact⟨⟨by decide,ni⟩,by decide,by decide⟩
 . exact⟨ni,⟨by decide,ni,by decide,by decide⟩,by decide,by decide⟩
 . exact⟨by decide,by decide⟩
 . exact⟨⟨by decide,(by decide:("due":Str)∈plainW),by decide,by decide⟩,by decide,by decide⟩
 . exact⟨nl,⟨by decide,by decide⟩,by decide,by decide⟩
inductive spBest(vs:List V)(H:Hp)(Q:VK)(u_3:XK):Prop where
 | mk:∀(l:Addr)(c:Int),(vs=[.ref l])->(H l=some (.lst [.int c]))->(∀(a:Addr)(rows:List Hr)(H':Hp),HlpAt H' a rows->Same H H'->Q (.ref a) H')->spBest vs H Q u_3
theorem qD:FnScope ["claims"] ["claims"] (ak iR):=⟨rfl,rfl,rfl,by decide,rfl,by decide,by decide⟩
theorem rf {f:Addr} {fd:FuncData} (F:Fun K "best_liar" "best_liar" iR f fd) (B:Bl mg) (X:∃t,mg "LIAR_ROWS"=some (.str Cz t)) (cn:Cal P w K mg base 21 "read_helper" ["text"] spReadH):FnOk P w K mg base CX0 22 f fd ["claims"] spBest:=by
 refine F.ok qD (fun vs H Q E h=>?_) (fun cdv A outer s H vs Q E hr h=>?_)
 . obtain⟨l,c,rfl,_⟩:=h;rfl
 obtain ⟨l,c,rfl,hl,q⟩:=h;obtain⟨t,gx⟩:=X;refine⟨_,(ad (am (ag op_catT (ai cn hr (by decide) rfl (ae (cq (v:=.str Cz) rfl gx ⟨_,rfl⟩) aI)) (cg bU rfl B.tuple bV (ae (cr (N:=[]) (ix:=[]) (cl:=[]) rfl
  (CompScope.closed (by rfl') (by decide) rfl (by decide) rfl (by rfl')) rfl
  (dG (pv 0)) (fun _ _ _=>df (aF (ae ax (ae (aF (ae ax (ae (pv 0) aI))) aI))))) aI))))),?_⟩
 refine⟨tD,by rw[vJ];rfl,liars_good,fun a tv H1 ha R1 S1=>?_⟩;have hl1:=S1 _ _ hl;refine⟨_,rfl,l,rfl,⟨_,zG0 hl1⟩,fun D hD=>?_⟩;refine gG (K:=K) (xs:=[.int c]) (fun i H'=>∃(us:List V)(qs:List Hr),H' D=some (.lst us)/\RowsAt H' us qs/\(∀r∈qs,r.good)/\us.length=i/\Same H1 H') ⟨[],[],aE,RowsAt.nil,(fun r hr=>by cases hr),rfl,zC0 hD _⟩ (fun i H' _ hst=>by obtain⟨_,_,_,_,_,_,h⟩:=hst;exact zG0 (h _ _ hl1)) ?_ ?_
 . rintro i z H2 hz ⟨us,qs,hD2,R2,g2,ul,S2⟩;have hi:i<1:=(zX0 hz).1
   have:i=0:=by omega
   subst this;cases hz;refine⟨_,rfl,(by show 2<=sizeLine;decide),fun b hb=>⟨(by show 2<=sizeLine;decide),fun d hd=>?_⟩⟩;have I3:=zC0 hb (.tup [.str "num",.int c]);have e3:upd H2 b (.tup [.str "num",.int c]) b=_:=aE;generalize upd H2 b (.tup [.str "num",.int c])=H3 at hd I3 e3;have I4:=zC0 hd (.tup [.str "say",.ref b]);have e4:upd H3 d (.tup [.str "say",.ref b]) d=_:=aE;generalize upd H3 d (.tup [.str "say",.ref b])=H4 at I4 e4;have J4:=I3.trans I4;have hD4:=J4 _ _ hD2;have k5:=gC (H:=H4) (b:=D) (ys:=us) (zs:=us++[.ref d]) hD4;refine⟨_,hD4,aM (by omega),Nx.of hi ⟨us++[.ref d],qs++[.say (.num c)],aE,((R2.mono (aV J4)).mono k5).snoc (.say (k5 _ _ e4) (.num (k5 _ _ (I4 _ _ e3)))),fun r hr=>?_,by rw[zJ0,ul];rfl,fun b' o' e'=>?_⟩⟩
   . rcases qD0 hr with h | h
     . exact g2 r h
     . rw[zM0 h];exact⟨trivial,by show 1<=8;decide⟩
   . rw[av (aJ e' hD)];exact J4 _ _ (S2 _ _ e')
 . rintro H2 ⟨us,qs,hD2,R2,g2,ul,S2⟩;refine⟨D,_,rfl,.inl ⟨zG0 hD2,fun b hb=>?_⟩⟩;have I3:=zC0 hb (.tup us);have e3:upd H2 b (.tup us) b=_:=aE;generalize upd H2 b (.tup us)=H3 at I3 e3;have J3:=S2.trans I3;have tl:=R1.1;have u1:us.length=1:=ul;have un:us≠[]:=fun z=>by rw[z]at u1;cases u1
   have tn:tv≠[]:=fun z=>by rw[z]at tl;cases tl
   have t10:tv.length=10:=tl;refine⟨a,b,_,_,rfl,rfl,zD0 (J3 _ _ ha),zD0 e3,tn,bv (by omega),fun z=>absurd z un,fun _ c' hc'=>?_⟩;have I4:=zC0 hc' (.tup (tv++us));refine q c' (tD++qs) _ ⟨⟨_,aE,((R1.mono (aV J3)).app (R2.mono (aV I3))).mono (aV I4)⟩,fun r hr=>?_⟩ (S1.trans (J3.trans I4));rcases qD0 hr with h | h
   . exact wN (liars_good.2 r h)
   . exact g2 r h
inductive spOther(vs:List V)(H:Hp)(Q:VK)(u_3:XK):Prop where
 | mk:∀(f b:Addr)(bs:List Str)(p:Int),(vs=[.ref f,.ref b,.int p])->(FeedAt H f)->(H b=some (.lst (bs.map V.str)))->(b≠f)->(bs.length=3)->(2<p)->(p<=999983)->(∀(h:Addr)(rows:List Hr)(H':Hp),HlpAt H' h rows->SameBut f H H'->Q (.ref h) H')->spOther vs H Q u_3
theorem t7:FnScope ["_law_feed_here","_law_names_here","_law_p","_law_form"] ["_law_feed_here","_law_names_here","_law_p"] (ak lc):=⟨rfl,rfl,rfl,by decide,rfl,by decide,by decide⟩
theorem vi {f:Addr} {fd:FuncData} (F:Fun K "_law_other" "_law_other" lc f fd) (aP:Cal P w K mg base 1 "_law_take" ["_law_feed_here","_law_many"] spTake) (jU:Cal P w K mg base 11 "_law_helper" ["_law_feed_here","_law_boxes","_law_most"] spHelp) (sC:Cal P w K mg base 2 "_law_liar" ["_law_feed_here","_law_box"] spLiar)
 (iK:Cal P w K mg base 22 "best_liar" ["claims"] spBest) (C7:Cal P w K mg base 1 "idle" [] spIdle):FnOk P w K mg base CX0 23 f fd ["_law_feed_here","_law_names_here","_law_p"] spOther:=by
 refine F.ok t7 (fun vs H Q E h=>?_) (fun cdv A outer s H vs Q E hr h=>?_)
 . obtain⟨f,b,bs,p,rfl,_⟩:=h;rfl
 obtain ⟨f,b,bs,p,rfl,hF,hb,bf,bl,p2,p9,q⟩:=h;refine⟨_,(aa (aj (i:=3) t7.nd rfl (Or.inl rfl) (ai aP hr (by decide) rfl (ae (pv 0) (ae ac aI))))
  (aa (aB (af cJ (pv 3) ac (ao _)) (ad (am (ai jU hr (by decide) rfl (ae (pv 0) (ae (pv 1) (ae ac aI)))))) aq)
  (aa (aB (af cJ (pv 3) ac (ao _)) (ad (am (ai sC hr (by decide) rfl (ae (pv 0) (ae (aD ix_list (pv 1) ac (fun _ _=>rfl)) aI))))) aq)
  (ad (am (aD ix_list (cf (ae (ai iK hr (by decide) rfl (ae (cf (ae (ai aP hr (by decide) rfl (ae (pv 0) (ae (aD ix_list (cf (ae ac (ae (pv 2) aI))) (ai aP hr (by decide) rfl (ae (pv 0) (ae ac aI))) (fun _ _=>rfl)) aI))) aI)) aI)) (ae (jh C7 hr (by decide) rfl) aI))) (ag aQ (pv 3) ac) (fun _ _=>rfl))))))),?_⟩
 have s1:1<=sizeLine:=by decide
 have s2:2<=sizeLine:=by decide
 refine⟨_,rfl,f,6,rfl,hF,by decide,by decide,fun d H1 d0 d6 F1 B1=>?_⟩;have d6':d<6:=d6;have hb1:=B1 _ _ bf hb;refine⟨_,rfl,_,_,rfl,rfl,_,rfl,?_⟩;refine kD (fun c=>?_) (fun c=>?_)
 . exact⟨_,rfl,_,rfl,f,b,bs,10,rfl,F1,hb1,bf,by omega,by omega,by decide,by decide,fun h rv rows H2 hh RW gd F2 B2=>q h rows H2 ⟨⟨rv,hh,RW⟩,gd⟩ (B1.trans B2)⟩
 have c2:¬ d<2:=of_decide_eq_false (Bool.eq_false_iff.mpr c);refine⟨_,rfl,_,_,rfl,rfl,_,rfl,?_⟩;refine kD (fun c=>?_) (fun c=>?_)
 . cases bs with
   | nil=>cases bl
   | cons x bs=>exact⟨_,rfl,_,rfl,b,_,0,.str x,rfl,rfl,zG0 hb1,at0 ..,f,x,rfl,F1,fun h rv rows H2 hh RW gd F2 B2=>q h rows H2 ⟨⟨rv,hh,RW⟩,gd⟩ (B1.trans B2)⟩
 have c4:¬ d<4:=of_decide_eq_false (Bool.eq_false_iff.mpr c);refine⟨_,rfl,_,rfl,s2,fun l1 hl1=>?_⟩;have I2:=zC0 hl1 (.lst [.int 6,.int p]);have e2:upd H1 l1 (.lst [.int 6,.int p]) l1=_:=aE;generalize upd H1 l1 (.lst [.int 6,.int p])=H2 at I2 e2;have l1f:=F1.ne hl1;refine⟨_,rfl,f,2,rfl,F1.same I2,by decide,by decide,fun e H3 e0 e2' F3 B3=>?_⟩;have e2'':e<2:=e2';have e3:=B3 _ _ l1f e2;obtain⟨m,em,m0,m9⟩:∃m:Int,atI [V.int 6,V.int p] e=some (.int m)/\0<m/\m<2 ^ 63:=by
  rcases(show e=0∨e=1 by omega)with rfl | rfl
  . exact⟨6,rfl,by decide,by decide⟩
  . exact⟨p,rfl,by omega,by omega⟩
 refine⟨l1,_,_,_,rfl,rfl,zG0 e3,em,f,m,rfl,F3,m0,m9,fun c H4 _ _ F4 B4=>?_⟩;refine⟨s1,fun l2 hl2=>?_⟩;have I5:=zC0 hl2 (.lst [.int c]);have e5:upd H4 l2 (.lst [.int c]) l2=_:=aE;generalize upd H4 l2 (.lst [.int c])=H5 at I5 e5;refine⟨l2,c,rfl,e5,fun a rows H6 Ha S6=>?_⟩;refine⟨rfl,fun a2 H7 Ha2 S7=>?_⟩;refine⟨s2,fun l3 hl3=>?_⟩;have I8:=zC0 hl3 (.lst [.ref a,.ref a2]);have e8:upd H7 l3 (.lst [.ref a,.ref a2]) l3=_:=aE;generalize upd H7 l3 (.lst [.ref a,.ref a2])=H8 at I8 e8;have B8:SameBut f H H8:=B1.trans ((zK0 I2).trans (B3.trans (B4.trans (zK0 (I5.trans (S6.trans (S7.trans I8)))))));rcases(show d=4∨d=5 by omega)with rfl | rfl
 . exact⟨_,rfl,_,_,rfl,rfl,l3,_,_,.ref a,rfl,rfl,zG0 e8,rfl,q a rows H8 (Ha.mono (aV (S7.trans I8))) B8⟩
 . exact⟨_,rfl,_,_,rfl,rfl,l3,_,_,.ref a2,rfl,rfl,zG0 e8,rfl,q a2 [] H8 (Ha2.mono (aV I8)) B8⟩
end
def ocD:Oc->PyData
 | .agr v=>.tuple [.str "agreed",.int v]
 | .cau x y ws=>.tuple [.str "caught",.bool x,.bool y,.tuple (ws.map PyData.int)]
theorem iU{H:Hp}{a:Addr}:∀{o:Oc},OcAt H a o->Rep K H (.ref a) (ocD o)
 | .agr _,h=>.tup (zD0 h) (.cons (.str _) (.cons (.int _) .nil))
 | .cau _ _ ws,⟨_,h,h2⟩=>.tup (zD0 h) (.cons (.str _) (.cons (.bl _) (.cons (.bl _) (.cons (.tup (zD0 h2) (gy ws)) .nil))))
theorem CU:PyData.strOk ("agreed":Str)=true:=by decide
theorem CT:PyData.strOk ("caught":Str)=true:=by decide
theorem cY:∀o:Oc,SeqAt.shaped (ocD o)=true
 | .agr v=>by simp [CU,CT,ocD,SeqAt.shaped,PyData.canLay0,PyData.depth,PyData.canLayAll0,PyData.depthAll]
 | .cau x y ws=>by simp [CU,CT,ocD,SeqAt.shaped,PyData.canLay0,PyData.depth,PyData.canLayAll0,PyData.depthAll,W.ke_canLayAll0,W.ke_depthAll]
theorem rh(o:Oc):PyData.eqv (ocD o) (ocD o)=true:=SeqAt.eqv_refl _ (by
 have:=cY o
 unfold SeqAt.shaped at this;rw[Bool.and_eq_true]at this;exact this.1)
theorem pD{X:Cx}(K:W.Frag)(hK:X.K=K:=by rfl):OpR X (compareOp .NotIn) (rIn K true):=by subst hK;exact kq
section
variable {CM CA CG CS:Addr}
inductive spWh1(vs:List V)(H:Hp)(Q:VK)(u_3:XK):Prop where
 | mk:∀x:Int,(vs=[.int x])->(Q (.bl true) H)->spWh1 vs H Q u_3
theorem uL:FnScope ["_law_found"] ["_law_found"] (ak kZ):=⟨rfl,rfl,rfl,by decide,rfl,by decide,by decide⟩
theorem vh {f:Addr} {fd:FuncData} (F:Fun K "_law_whole" "_law_whole" kZ f fd) (B:Bl mg):FnOk P w K mg base CX0 1 f fd ["_law_found"] spWh1:=by
 refine F.ok uL (fun vs H Q E h=>?_) (fun cdv A outer s H vs Q E hr h=>?_)
 . obtain⟨x,rfl,_⟩:=h;rfl
 obtain⟨x,rfl,q⟩:=h;refine⟨_,(ad (am (ox (aA dA rfl B.isinstance PyProof.Rows.boot_isinstance (ae (pv 0) (ae (ji (v:=V.ty "int") rfl B.int jr rfl) aI))) (ow (qW (aA dA rfl B.isinstance PyProof.Rows.boot_isinstance (ae (pv 0) (ae (ji (v:=V.ty "bool") rfl B.bool jN rfl) aI)))))))),?_⟩;refine⟨_,rfl,_,_,"int",true,rfl,TyOf.int _,iV _ _,true,rfl,dh ?_⟩;exact⟨_,rfl,_,_,"bool",false,rfl,TyOf.int _,rE _,false,rfl,q⟩
inductive spCau(vs:List V)(H:Hp)(Q:VK)(u_3:XK):Prop where
 | mk:∀(a fl:Addr)(x y:Bool)(ws:List Int)(m:Int),(vs=[.ref a,.ref fl,.int m])->(OcAt H a (.cau x y ws))->(H fl=some (.tup [.bl x,.bl y]))->((ws.length:Int)<=m)->(∀w∈ws,w=0∨w=1)->(∀H',Same H H'->Q (.bl true) H')->spCau vs H Q u_3
theorem Be(x y:Bool):SeqAt.shaped (.tuple [.bool x,.bool y])=true/\PyData.eqv (.tuple [.bool x,.bool y]) (.tuple [.bool x,.bool y])=true:=by cases x <;> cases y <;> decide
theorem in01{w:Int}(h:w=0∨w=1):inV (.int w) [.int 0,.int 1]=true:=by
 rcases h with rfl | rfl <;> decide
theorem sE:FnScope ["_law_found","_law_flags","_law_most"] ["_law_found","_law_flags","_law_most"] (ak jI):=⟨rfl,rfl,rfl,by decide,rfl,by decide,by decide⟩
theorem sQ {f:Addr} {fd:FuncData} (F:Fun K "_law_caught" "_law_caught" jI f fd) (B:Bl mg) (eJ:Cal P w K mg base 1 "_law_whole" ["_law_found"] spWh1):FnOk P w K mg base CX0 2 f fd ["_law_found","_law_flags","_law_most"] spCau:=by
 refine F.ok sE (fun vs H Q E h=>?_) (fun cdv A outer s H vs Q E hr h=>?_)
 . obtain⟨a,fl,x,y,ws,m,rfl,_⟩:=h;rfl
 obtain ⟨a,fl,x,y,ws,m,rfl,O,hfl,wm,wo,q⟩:=h;refine⟨_,(aa (aB (PW.pt (cV (dq (cv (aA dA rfl B.isinstance PyProof.Rows.boot_isinstance (ae (pv 0) (ae (ji (v:=V.ty "tuple") rfl B.tuple bV rfl) aI))))) (cV (af jw (aA aC rfl B.len PySem.boot_len (ae (pv 0) aI)) ac (ao _)) (cV (af jw (aD aG (pv 0) ac (fun _ _=>rfl)) ax (ao _)) (de (dq (cv (aA dA rfl B.isinstance PyProof.Rows.boot_isinstance (ae (aD aG (pv 0) ac (fun _ _=>rfl)) (ae (ji (v:=V.ty "tuple") rfl B.tuple bV rfl) aI)))))))))) (ad (am dZ)) aq)
  (aa (aB (PW.pt (cV (af (zU hr.units) (fK qx (pv 0) (eE ac) (eE ac)) (pv 1) (ao _)) (cV (dq (cv (aA dA rfl B.isinstance PyProof.Rows.boot_isinstance (ae (aD aG (pv 0) ac (fun _ _=>rfl)) (ae (ji (v:=V.ty "bool") rfl B.bool jN rfl) aI))))) (cV (dq (cv (aA dA rfl B.isinstance PyProof.Rows.boot_isinstance (ae (aD aG (pv 0) ac (fun _ _=>rfl)) (ae (ji (v:=V.ty "bool") rfl B.bool jN rfl) aI))))) (de (af gB (aA aC rfl B.len PySem.boot_len (ae (aD aG (pv 0) ac (fun _ _=>rfl)) aI)) (pv 2) (ao _))))))) (ad (am dZ)) aq)
  (ad (am (cG (oy hr.units) (cr (N:=[]) (ix:=[]) (cl:=[]) rfl
   (CompScope.closed (by rfl') (by decide) rfl (by decide) rfl (by rfl')) rfl (iT (aD aG (pv 0) ac (fun _ _=>rfl))) (fun _ _ _=>CP (PW.pt (cV (dq (cv (ai eJ hr (by decide) rfl (ae (pv 0) aI)))) (de (af (pD K) (pv 0) (aF (ae ac (ae ac aI))) (by rfl'))))) (pv 0))) (cf aI) (ao _)))))),?_⟩
 obtain⟨t,ha,ht⟩:=O;refine⟨_,rfl,_,_,"tuple",true,rfl,TyOf.tup ha,iV _ _,_,rfl,cb ?_⟩;refine⟨_,rfl,a,_,rfl,.inr (zD0 ha),rfl,_,rfl,cb ?_⟩;refine⟨_,rfl,a,_,0,.str "caught",rfl,rfl,zD0 ha,rfl,rfl,_,rfl,?_⟩;rw[decide_eq_true rfl];refine cb ?_;refine⟨_,rfl,a,_,3,.ref t,rfl,rfl,zD0 ha,rfl,_,_,"tuple",true,rfl,TyOf.tup ht,iV _ _,_,rfl,cb ?_⟩;refine⟨_,rfl,1,rfl,3,rfl,a,_,rfl,zD0 ha,(by show ¬ (HT.sIx 4 0 (some 1)=0/\HT.sIx 4 4 (some 3)=4);decide),fun sl hsl=>?_⟩;have I:=zC0 hsl (.tup [.bl x,.bl y]);have e:upd H sl (.tup (ly [.str "caught",.bl x,.bl y,.ref t] (some 1) (some 3))) sl=some (.tup [.bl x,.bl y]):=aE;have I:Same H (upd H sl (.tup (ly [.str "caught",.bl x,.bl y,.ref t] (some 1) (some 3)))):=zC0 hsl _;generalize upd H sl (.tup (ly [.str "caught",.bl x,.bl y,.ref t] (some 1) (some 3)))=H1 at I e;have ha1:=I _ _ ha;have ht1:=I _ _ ht;refine⟨_,rfl,.tuple [.bool x,.bool y],.tuple [.bool x,.bool y],.tup (zD0 e) (.cons (.bl _) (.cons (.bl _) .nil)),.tup (zD0 (I _ _ hfl)) (.cons (.bl _) (.cons (.bl _) .nil)),(Be x y).1,(Be x y).1,_,rfl,?_⟩;rw[(Be x y).2];refine cb ?_;refine⟨_,rfl,a,_,1,.bl x,rfl,rfl,zD0 ha1,rfl,_,_,"bool",true,rfl,TyOf.bl _,iV _ _,_,rfl,cb ?_⟩;refine⟨_,rfl,a,_,2,.bl y,rfl,rfl,zD0 ha1,rfl,_,_,"bool",true,rfl,TyOf.bl _,iV _ _,_,rfl,cb ?_⟩;refine⟨_,rfl,a,_,3,.ref t,rfl,rfl,zD0 ha1,rfl,t,_,rfl,.inr (zD0 ht1),_,rfl,_,_,rfl,rfl,_,rfl,?_⟩;refine au (by rw[zF0];show ¬ ((ws.length:Nat):Int)>m;omega) ?_;refine⟨_,rfl,a,_,3,.ref t,rfl,rfl,zD0 ha1,rfl,t,rfl,⟨_,zD0 ht1⟩,fun D hD=>?_⟩;refine iX (K:=K) (xs:=ws.map V.int) (fun i H'=>H' D=some (.lst [])/\Same H1 H') ⟨aE,zC0 hD _⟩ (fun i H' _ h=>zD0 (h.2 _ _ ht1)) ?_ ?_
 . rintro i z H2 hz ⟨hD2,S2⟩;have hi:=(zX0 hz).1;rw[qE0]at hz;obtain⟨n,hn,rfl⟩:=qW0 hz;refine⟨_,rfl,n,rfl,_,rfl,cb ?_⟩;refine⟨_,rfl,(by show 2<=sizeLine;decide),fun u hu=>?_⟩;have I3:=zC0 hu (.tup [.int 0,.int 1]);refine⟨u,_,rfl,.inr (zD0 aE),rfl,rfl,_,rfl,?_⟩;show if(!inV (.int n) [.int 0,.int 1])=true then _ else _
   rw[in01 (wo n (qI0 hn))];exact cb (Nx.of hi ⟨I3 _ _ hD2,S2.trans I3⟩)
 . rintro H2 ⟨hD2,S2⟩;refine⟨(by show 0<=sizeLine;decide),fun e he=>?_⟩;have I2:=zC0 he (.lst []);refine⟨_,_,.lst (zG0 (I2 _ _ hD2)) (gy []),.lst (zG0 aE) (gy []),pV [],pV [],?_⟩;rw[El,decide_eq_true rfl];exact q _ (I.trans (S2.trans I2))
end
section
variable {CM CA CG CS:Addr}
theorem OcAt.same{H H':Hp}{a:Addr}(s:Same H H'):∀{o:Oc},OcAt H a o->OcAt H' a o
 | .agr _,h=>s _ _ h
 | .cau _ _ _,⟨t,h,h2⟩=>⟨t,s _ _ h,s _ _ h2⟩
theorem kP(ns:List Int):SeqAt.shaped (.tuple (ns.map PyData.int))=true:=by
 simp [SeqAt.shaped,PyData.canLay0,PyData.depth,W.ke_canLayAll0,W.ke_depthAll]
structure L8At(CG:Addr)(H:Hp)(gh a b g h:Addr)(v:V)(ns:List Str)(t:Tr)(p:Int)(rows:List Hr):Prop where
 G:GmT H gh a b ns [v] [t] p
 M:Gm CG H g ns [t] p
 k:GmK ns [t] p
 n6:ns.length<=6
 nd:ns.Nodup
 hl:HlpAt H h rows
theorem L8At.same{H H':Hp}{gh a b g h:Addr}{v:V}{ns:List Str}{t:Tr}{p:Int}{rows:List Hr}(x:L8At CG H gh a b g h v ns t p rows)(s:Same H H'):L8At CG H' gh a b g h v ns t p rows:=⟨x.G.mono (aV s),x.M.same s,x.k,x.n6,x.nd,x.hl.mono (aV s)⟩
inductive tA8(CG:Addr)(K:W.Frag)(Dn:Ends)(σ:St)(H:Hp):Prop where
 | mk:∀(a0 gh a b N:Addr)(v:V)(ns0:List Int)(ns xs:List Str)(t:Tr)(p:Int)(z1 z2:Option V),(σ=[some (.ref a0),z1,z2,some (.ref gh),some (.ref N),none,none,none,none,none,none,none])->(SqL K H a0 (ns0.map V.int))->(ns0.length<=63)->(GmT H gh a b ns [v] [t] p)->(GmK ns [t] p)->(ns.length<=6)->(ns.Nodup)->(H N=some (.lst (xs.map V.str)))->(xs.length=3)->(∀H',Dn.rt (.bl true) H')->tA8 CG K Dn σ H
inductive tB8(CG:Addr)(Dn:Ends)(σ:St)(H:Hp):Prop where
 | mk:∀(gh a b g h:Addr)(v:V)(ns:List Str)(t:Tr)(p:Int)(rows:List Hr)(z0 z1 z2 z4:Option V),(σ=[z0,z1,z2,some (.ref gh),z4,some (.int p),some (.ref g),some (.ref h),some (.int ((cnt t ns:Int) % p)),none,none,none])->(L8At CG H gh a b g h v ns t p rows)->(∀H',Dn.rt (.bl true) H')->tB8 CG Dn σ H
inductive tC8(CG:Addr)(Dn:Ends)(σ:St)(H:Hp):Prop where
 | mk:∀(gh a b g h:Addr)(v:V)(ns:List Str)(t:Tr)(p:Int)(rows:List Hr)(z0 z1 z2 z4:Option V),(σ=[z0,z1,z2,some (.ref gh),z4,some (.int p),some (.ref g),some (.ref h),some (.int ((cnt t ns:Int) % p)),some (.int (hd0 ⟨ns,[t],p⟩ rows)),none,none])->(L8At CG H gh a b g h v ns t p rows)->(∀H',Dn.rt (.bl true) H')->tC8 CG Dn σ H
inductive tD8(CG:Addr)(Dn:Ends)(σ:St)(H:Hp):Prop where
 | mk:∀(gh a b g h a1 a2:Addr)(v:V)(ns:List Str)(t:Tr)(p:Int)(rows:List Hr)(z0 z1 z2 z4:Option V),(σ=[z0,z1,z2,some (.ref gh),z4,some (.int p),some (.ref g),some (.ref h),some (.int ((cnt t ns:Int) % p)),some (.int (hd0 ⟨ns,[t],p⟩ rows)),some (.ref a1),some (.ref a2)])->(L8At CG H gh a b g h v ns t p rows)->(OcAt H a1 (lY ⟨ns,[t],p⟩ dr rows (eG ns t)))->(OcAt H a2 (lY ⟨ns,[t],p⟩ rows dr (eG ns t)))->(∀H',Dn.rt (.bl true) H')->tD8 CG Dn σ H
theorem dD:FnScope ["_law_script","_law_feed_here","_law_size","_law_game","_law_names_here","_law_p","_law_made","_law_other_here","_law_due","_law_claim","_law_one","_law_two"] ["_law_script"] (ak jX):=⟨rfl,rfl,rfl,by decide,rfl,by decide,by decide⟩
theorem DK {f fI fM fS:Addr} {fd fdI fdM fdS:FuncData} (F:Fun K "law" "law" jX f fd) (B:Bl mg) (TG:GTxt K mg CG) (MG:Mk K CG fI) (GI:FnOk P w K mg base CX0 14 fI fdI ["self","switches","trees","field"] (spGInit CG)) (bI:Binds K fdI ["self","switches","trees","field"] [])
 (TM:MTxt K mg CM) (MM:Mk K CM fM) (GM:FnOk P w K mg base CX0 1 fM fdM ["self","game","helper"] (spMInit CM)) (bM:Binds K fdM ["self","game","helper"] []) (mS:Meth K CM "say" fS) (GS:FnOk P w K mg base CX0 28 fS fdS ["self","many","due","s","coins"] (spSay CM CG)) (bS:Binds K fdS ["self","many","due","s","coins"] [])
 (e9:Cal P w K mg base 1 "_law_feed" ["_law_script","_law_k"] (spFeed K)) (aP:Cal P w K mg base 1 "_law_take" ["_law_feed_here","_law_many"] spTake) (eg:Cal P w K mg base 2 "_law_names" ["_law_feed_here","_law_many"] spNamesN) (gt:Cal P w K mg base 14 "_law_one_tree" ["_law_feed_here","_law_most","_law_room"] spOne)
 (l8:Cal P w K mg base 23 "_law_other" ["_law_feed_here","_law_names_here","_law_p"] spOther) (l9:Cal P w K mg base 14 "_law_count" ["_law_game","_law_k"] spCntS) (d8:Cal P w K mg base 22 "honest" [] spHonest) (eJ:Cal P w K mg base 1 "_law_whole" ["_law_found"] spWh1) (f7:Cal P w K mg base 2 "_law_caught" ["_law_found","_law_flags","_law_most"] spCau)
 (eN:Cal P w K mg base 31 "settled" ["game","one","other"] (spSettled CG)):FnOk P w K mg base CX0 32 f fd ["_law_script"] (spLaw K):=by
 refine F.ok dD (fun vs H Q E h=>?_) (fun cdv A outer s H vs Q E hr h=>?_)
 . obtain⟨a,ns,rfl,_⟩:=h;rfl
 obtain⟨a0,ns0,rfl,hS,h63,q⟩:=h;have hr15:Room (14+1) _:=hr.mono (by decide);have hr2:Room (1+1) _:=hr.mono (by decide);have hr28:Room 28 _:=hr.mono (by decide);have s0:0<=sizeLine:=by decide
 have s2:2<=sizeLine:=by decide
 have s4:4<=sizeLine:=by decide
 refine ⟨_,PSW.out (bH (cO (i:=1) dD.nd rfl (Or.inl rfl) ⟨ai e9 hr (by decide) rfl (ae (pv 0) (ae ac aI))⟩)
  (bH (cO (i:=2) dD.nd rfl (Or.inl rfl) ⟨aD ix_list (cf (ae (aF (ae ac (ae ac aI))) (ae (aF (ae ac (ae ac aI))) (ae (aF (ae ac (ae ac aI))) (ae (aF (ae ac (ae ac aI))) aI))))) (ai aP hr (by decide) rfl (ae (pv 1) (ae ac aI))) (fun _ _=>rfl)⟩)
  (bH (cO (i:=3) dD.nd rfl (Or.inl rfl) ⟨ai gt hr (by decide) rfl (ae (ai e9 hr (by decide) rfl (ae (pv 0) (ae ac aI))) (ae (aD aG (pv 2) ac (fun _ _=>rfl)) (ae (aD aG (pv 2) ac (fun _ _=>rfl)) aI)))⟩)
  (bH (cO (i:=4) dD.nd rfl (Or.inl rfl) ⟨ai eg hr (by decide) rfl (ae (ai e9 hr (by decide) rfl (ae (pv 0) (ae ac aI))) (ae ac aI))⟩)
  (kN (t':=tA8 CG K) (bH (cO (i:=5) dD.nd rfl (Or.inl rfl) ⟨aD aG (pv 3) ac (fun _ _=>rfl)⟩)
  (bH (cO (i:=6) dD.nd rfl (Or.inl rfl) ⟨ib MG GI hr15 rfl TG.mgC bI .nil bq (ae (aD aG (pv 3) ac (fun _ _=>rfl)) (ae (aD aG (pv 3) ac (fun _ _=>rfl)) (ae (pv 5) aI)))⟩)
  (bH (cO (i:=7) dD.nd rfl (Or.inl rfl) ⟨ai l8 hr (by decide) rfl (ae (ai e9 hr (by decide) rfl (ae (pv 0) (ae ac aI))) (ae (pv 4) (ae (pv 5) aI)))⟩)
  (bH (cO (i:=8) dD.nd rfl (Or.inl rfl) ⟨ag aN (ai l9 hr (by decide) rfl (ae (pv 3) (ae ac aI))) (pv 5)⟩)
  (kN (t':=tB8 CG) (bH (cO (i:=9) dD.nd rfl (Or.inl rfl) ⟨aD ix_list (bu (ib MM GM hr2 rfl TM.mgC bM .nil bq (ae (pv 6) (ae (pv 7) aI))) TM.cl mS GS hr28 bS .nil bq (ae ac (ae ac (ae ac (ae (cf aI) aI))))) ac (fun _ _=>rfl)⟩)
  (kN (t':=tC8 CG) (bH (cO (i:=10) dD.nd rfl (Or.inl rfl) ⟨ai eN hr (by decide) rfl (ae (pv 6) (ae (jh d8 hr (by decide) rfl) (ae (pv 7) aI)))⟩)
  (bH (cO (i:=11) dD.nd rfl (Or.inl rfl) ⟨ai eN hr (by decide) rfl (ae (pv 6) (ae (pv 7) (ae (jh d8 hr (by decide) rfl) aI)))⟩)
  (bH (rY (af (zU hr.units) (ai eN hr (by decide) rfl (ae (pv 6) (ae (jh d8 hr (by decide) rfl) (ae (jh d8 hr (by decide) rfl) aI)))) (aF (ae ax (ae (pv 8) aI))) (ao _)) (jB (mL ⟨dZ⟩)) mN)
  (kN (t':=tD8 CG) (bH (rY (af aH (pv 9) (pv 8) (ao _)) (jB (mL ⟨ox (cG (oy hr.units) (pv 10) (aF (ae ax (ae (pv 8) aI))) (ao _)) (ox (cG (oy hr.units) (pv 11) (aF (ae ax (ae (pv 8) aI))) (ao _)) (ow (ai eJ hr (by decide) rfl (ae (aD aG (pv 10) ac (fun _ _=>rfl)) aI))))⟩)) mN)
  (bH (rY (PW.pt (cV (dq (cv (ai f7 hr (by decide) rfl (ae (pv 10) (ae (aF (ae dZ (ae dZ aI))) (ae (aA aC rfl B.len PySem.boot_len (ae (aD aG (pv 3) ac (fun _ _=>rfl)) aI)) aI)))))) (de (dq (cv (ai f7 hr (by decide) rfl (ae (pv 11) (ae (aF (ae dZ (ae dZ aI))) (ae (aA aC rfl B.len PySem.boot_len (ae (aD aG (pv 3) ac (fun _ _=>rfl)) aI)) aI))))))))) (jB (mL ⟨dZ⟩)) mN)
  (jB (mL ⟨ox (cG (oy hr.units) (aD aG (pv 10) ac (fun _ _=>rfl)) (aD aG (pv 11) ac (fun _ _=>rfl)) (ao _)) (ow (cG (oy hr.units) (ai eN hr (by decide) rfl (ae (pv 6) (ae (jh d8 hr (by decide) rfl) (ae (pv 7) aI)))) (pv 10) (ao _)))⟩)))) ?cD)))) ?cC)) ?cB))))) ?cA))))),?_⟩
 case cD=>
  rintro Dn σ H ⟨gh,a,b,g,h,a1,a2,v,ns,t,p,rows,z0,z1,z2,z4,rfl,Y,O1,O2,q⟩;refine⟨_,rfl,_,rfl,rfl,_,rfl,?_⟩;have hh:=oO Y.k;refine kD (fun c=>?_) (fun c=>?_)
  . have c1:hd0 ⟨ns,[t],p⟩ rows=(cnt t ns:Int) % p:=V.int.inj (of_decide_eq_true c);rw[nY (by rw[hh,c1]),hh]at O1;rw[nY (by rw[hh,c1]),c1]at O2;refine⟨_,rfl,_,rfl,s2,fun T hT=>?_⟩;have I1:=zC0 hT (.tup [.str "agreed",.int ((cnt t ns:Int) % p)]);have e1:OcAt (upd H T (.tup [.str "agreed",.int ((cnt t ns:Int) % p)])) T (.agr ((cnt t ns:Int) % p)):=aE;generalize upd H T (.tup [.str "agreed",.int ((cnt t ns:Int) % p)])=H1 at I1 e1;refine⟨_,_,iU (O1.same I1),iU e1,cY _,cY _,_,rfl,?_⟩;rw[rh];refine dh ?_;refine⟨_,rfl,_,rfl,s2,fun U hU=>?_⟩;have I2:=zC0 hU (.tup [.str "agreed",.int ((cnt t ns:Int) % p)]);have e2:OcAt (upd H1 U (.tup [.str "agreed",.int ((cnt t ns:Int) % p)])) U (.agr ((cnt t ns:Int) % p)):=aE;generalize upd H1 U (.tup [.str "agreed",.int ((cnt t ns:Int) % p)])=H2 at I2 e2;refine⟨_,_,iU (O2.same (I1.trans I2)),iU e2,cY _,cY _,_,rfl,?_⟩;rw[rh];refine dh ?_;have O1':H2 a1=some (.tup [.str "agreed",.int ((cnt t ns:Int) % p)]):=O1.same (I1.trans I2);exact⟨_,rfl,a1,_,1,.int _,rfl,rfl,zD0 O1',rfl,_,rfl,q _⟩
  . have c1:¬ hd0 ⟨ns,[t],p⟩ rows=(cnt t ns:Int) % p:=fun z=>of_decide_eq_false (Bool.eq_false_iff.mpr c) (by rw[z])
    obtain ⟨ws,X1,X2⟩:=zH Y.k Y.n6 Y.nd c1;have O1c:=O1;rw[X1.eq]at O1;rw[X2.eq]at O2;have wl:(ws.length:Int)<=((ns.map V.str).length:Int):=by
     have:=X1.wl
     rw[zF0];omega
    refine⟨_,rfl,s2,fun T hT=>?_⟩;have I1:=zC0 hT (.tup [.bl false,.bl true]);have e1:upd H T (.tup [.bl false,.bl true]) T=some (.tup [.bl false,.bl true]):=aE;generalize upd H T (.tup [.bl false,.bl true])=H1 at I1 e1;have Y1:=Y.same I1;refine⟨_,rfl,gh,_,0,.ref a,rfl,rfl,zD0 Y1.G.hg,rfl,a,_,rfl,.inr (zD0 Y1.G.ha),a1,T,false,true,ws,_,rfl,O1.same I1,e1,wl,X1.wo,fun H2 S2=>⟨_,rfl,cb ?_⟩⟩;refine⟨_,rfl,s2,fun U hU=>?_⟩;have I3:=zC0 hU (.tup [.bl true,.bl false]);have e3:upd H2 U (.tup [.bl true,.bl false]) U=some (.tup [.bl true,.bl false]):=aE;generalize upd H2 U (.tup [.bl true,.bl false])=H3 at I3 e3;have T3:=I1.trans (S2.trans I3);have Y3:=Y.same T3;refine⟨_,rfl,gh,_,0,.ref a,rfl,rfl,zD0 Y3.G.hg,rfl,a,_,rfl,.inr (zD0 Y3.G.ha),a2,U,true,false,ws,_,rfl,O2.same T3,e3,wl,X2.wo,fun H4 S4=>⟨_,rfl,cb ?_⟩⟩;have T4:=T3.trans S4;obtain⟨u1,h1,g1⟩:=O1.same T4;obtain⟨u2,h2,g2⟩:=O2.same T4;refine⟨_,rfl,a1,_,3,.ref u1,rfl,rfl,zD0 h1,rfl,_,rfl,a2,_,3,.ref u2,rfl,rfl,zD0 h2,rfl,_,_,.tup (zD0 g1) (gy ws),.tup (zD0 g2) (gy ws),kP ws,kP ws,_,rfl,?_⟩;rw[SeqAt.eqv_refl _ (by have:=kP ws;unfold SeqAt.shaped at this;rw[Bool.and_eq_true]at this;exact this.1)];refine dh ?_;have Y4:=Y.same T4;refine⟨_,rfl,rfl,fun ho H5 L5 S5=>⟨_,rfl,g,ho,h,ns,t,p,dr,rows,rfl,Y4.M.same S5,Y.k,Y.n6,L5,Y4.hl.mono (aV S5),fun a3 H6 O3 S6=>?_⟩⟩;refine⟨_,rfl,_,_,iU O3,iU (O1c.same (T4.trans (S5.trans S6))),cY _,cY _,?_⟩;rw[rh];exact q _
 case cC=>
  rintro Dn σ H ⟨gh,a,b,g,h,v,ns,t,p,rows,z0,z1,z2,z4,rfl,Y,q⟩;refine⟨_,rfl,rfl,fun o1 H1 L1 S1=>⟨_,rfl,g,o1,h,ns,t,p,dr,rows,rfl,Y.M.same S1,Y.k,Y.n6,L1,Y.hl.mono (aV S1),fun a1 H2 O1 S2=>?_⟩⟩;have T2:=S1.trans S2;have Y2:=Y.same T2;refine⟨_,rfl,_,rfl,rfl,fun o2 H3 L3 S3=>⟨g,h,o2,ns,t,p,rows,dr,rfl,Y2.M.same S3,Y.k,Y.n6,Y2.hl.mono (aV S3),L3,fun a2 H4 O2 S4=>?_⟩⟩;have T4:=T2.trans (S3.trans S4);have Y4:=Y.same T4;have O14:=O1.same (S3.trans S4);refine⟨_,rfl,rfl,fun o3 H5 L5 S5=>⟨rfl,fun o4 H6 L6 S6=>⟨g,o3,o4,ns,t,p,dr,dr,rfl,Y4.M.same (S5.trans S6),Y.k,Y.n6,L5.mono (aV S6),L6,fun a3 H7 O3 S7=>?_⟩⟩⟩;rw[nY rfl,oO Y.k]at O3;refine⟨_,rfl,s2,fun T hT=>?_⟩;have I1:=zC0 hT (.tup [.str "agreed",.int ((cnt t ns:Int) % p)]);have e1:OcAt (upd H7 T (.tup [.str "agreed",.int ((cnt t ns:Int) % p)])) T (.agr ((cnt t ns:Int) % p)):=aE;generalize upd H7 T (.tup [.str "agreed",.int ((cnt t ns:Int) % p)])=H8 at I1 e1;have T8:=S5.trans (S6.trans (S7.trans I1));refine⟨_,_,iU (O3.same I1),iU e1,cY _,cY _,_,rfl,?_⟩;rw[rh];exact cb ⟨gh,a,b,g,h,a1,a2,v,ns,t,p,rows,_,_,_,_,rfl,Y4.same T8,O14.same T8,O2.same T8,q⟩
 case cB=>
  rintro Dn σ H ⟨gh,a,b,g,h,v,ns,t,p,rows,z0,z1,z2,z4,rfl,Y,q⟩;have p2:=Y.k.p2;refine⟨_,rfl,_,rfl,fun M dm hM0 hdm0 nM=>?_⟩;have K2:Same H (upd (upd H dm (.own M)) M (.ins CM dm [])):=fun a o e=>by
   rw[av (aJ e hM0),av (aJ e hdm0)];exact e
  have g2:upd (upd H dm (.own M)) M (.ins CM dm []) M=some (.ins CM dm []):=aE;generalize upd (upd H dm (.own M)) M (.ins CM dm [])=H2 at K2 g2;refine⟨M,g,h,dm,rfl,g2,fun bb H3 hb0 hM3 hb3 S3=>⟨rfl,?_⟩⟩;have T3:Same H H3:=Same.but K2 hM0 S3;refine⟨M,dm,_,rfl,hM3,As,s0,fun c hc=>?_⟩;have I5:=zC0 hc (.lst []);have g5:upd H3 c (.lst []) c=some (.lst (([]:List Int).map V.int)):=aE;generalize upd H3 c (.lst [])=H5 at I5 g5;have T5:=T3.trans I5;have Y5:=Y.same T5;obtain⟨⟨rv,hh,RW⟩,rg⟩:=id Y5.hl;obtain⟨z,ez⟩:∃z:Ak,z=⟨ns,[t],p,0,1,0,0,[]⟩:=⟨_,rfl⟩
  have zok:AkOk z:=by
   subst ez;exact⟨Y.k,Y.n6,Int.le_refl 0,(fun h=>absurd h (by show ¬ (0:Int)<0;decide)),(fun x hx=>by cases hx),Int.le_refl 0,(by show(0:Int)<p;omega),Int.le_refl 0,(by show(0:Int)<p;omega),by show 0<=100;decide⟩
  have bo:gJ z.p (fun _=>0):=by
   subst ez;exact fun x=>⟨Int.le_refl 0,by show(0:Int)<p;omega⟩
  have so:=eV (rows:=rows) zok bo (by rw[ez];show(0:Int)<=1;decide);refine⟨M,g,h,bb,dm,c,rv,z,rows,fun _=>0,0,(by rw[ez];rfl),(by rw[ez];exact I5 _ _ hM3),hh,RW,rg,⟨[],I5 _ _ hb3,zH0 _,fun x=>rfl⟩,bo,by decide,(by rw[ez];exact Y5.M),zok,.inl (by rw[ez];exact g5),(by rw[ez];show(0:Int)<=1;decide),(by rw[ez];show(1:Int)<=500;decide),fun l1 H6 l10 hl1 BX6 hM6 S6=>?_⟩;have hl1':H6 l1=some (.lst ((cT z rows (fun _=>0)).map V.int)):=hl1;have sl1:(cT z rows (fun _=>0)).length=1:=by
   have h1:=so.2.1;rw[show z.mn=1 by rw[ez]]at h1;omega
  have hd:hd0 ⟨ns,[t],p⟩ rows=g0 (cT z rows (fun _=>0)):=by rw[ez];rfl
  obtain ⟨v1,ev⟩:∃v,cT z rows (fun _=>0)=[v]:=by
   match cT z rows (fun _=>0),sl1 with
   | [v],_=>exact⟨v,rfl⟩
  rw[ev]at hl1' hd;have hd1:hd0 ⟨ns,[t],p⟩ rows=v1:=hd;refine⟨l1,_,0,.int v1,rfl,rfl,zG0 hl1',rfl,?_⟩;rw[←hd1];have M0:H M=none:=hM0;have b0:H bb=none:=K2.free hb0;exact⟨gh,a,b,g,h,v,ns,t,p,rows,_,_,_,_,rfl,Y.same (fun x o e=>S6 _ _ (aJ e M0) (aJ e b0) (T5 _ _ e)),q⟩
 case cA=>
  rintro Dn σ H ⟨a0,gh,a,b,N,v,ns0,ns,xs,t,p,z1,z2,rfl,hS,h63,G,k,n6,nd,hN,xl,q⟩;have p2:=k.p2;have p9:=k.p9;refine⟨_,rfl,gh,_,2,_,rfl,rfl,zD0 G.hg,rfl,?_⟩;refine⟨_,rfl,gh,_,0,_,rfl,rfl,zD0 G.hg,rfl,_,rfl,gh,_,1,_,rfl,rfl,zD0 G.hg,rfl,_,rfl,fun g dg hg0 hdg0 ng=>?_⟩;have K2:Same H (upd (upd H dg (.own g)) g (.ins CG dg [])):=fun a o e=>by
   rw[av (aJ e hg0),av (aJ e hdg0)];exact e
  refine⟨g,dg,a,b,ns,[v],[t],p,rfl,aE,K2 _ _ G.ha,nd,by omega,K2 _ _ G.hb,G.tr.mono (aV K2),k.t1,k.t10,k.tok,k.pr,p2,p9,k.tp,k.tc,fun gd H2 gd0 GA hgd S2=>⟨rfl,?_⟩⟩;have T2:Same H H2:=Same.but K2 hg0 S2;have GM2:Gm CG H2 g ns [t] p:=⟨a,b,gd,[v],GA,T2 _ _ G.ha,T2 _ _ G.hb,G.tr.mono (aV T2),hgd⟩
  clear K2 S2 GA;refine⟨_,rfl,a0,ns0,3,rfl,T2.seq hS,h63,by decide,by decide,fun f3 H3 f30 S3 F3=>?_⟩;have hN3:=S3 _ _ (T2 _ _ hN);refine⟨_,rfl,_,rfl,f3,N,xs,p,rfl,F3,hN3,aJ (T2 _ _ hN) f30,xl,p2,p9,fun h rows H4 L4 B4=>?_⟩;have T24:Same H2 H4:=Same.but S3 f30 B4;have G4:=G.mono (aV (T2.trans T24));refine⟨_,rfl,gh,a,b,ns,[v],[t],p,0,t,rfl,G4,nd,n6,rfl,(k.tok t zU0).1,(k.tok t zU0).2.2.1,fun H5 S5=>⟨_,rfl,_,_,rfl,rfl,(by show(0:Int)<p;omega),?_⟩⟩;exact⟨gh,a,b,g,h,v,ns,t,p,rows,_,_,_,_,rfl,⟨G4.mono (aV S5),GM2.same (T24.trans S5),k,n6,nd,L4.mono (aV S5)⟩,q⟩
 refine⟨_,rfl,a0,ns0,4,rfl,hS,h63,by decide,by decide,fun f4 H1 f40 S1 F1=>?_⟩;refine⟨s2,fun t1 h1=>⟨s2,fun t2 h2=>⟨s2,fun t3 h3=>⟨s2,fun t4 h4=>⟨s4,fun L hL=>?_⟩⟩⟩⟩⟩;have I1:=zC0 h1 (.tup [.int 4,.int 12]);have e1:upd H1 t1 (.tup [.int 4,.int 12]) t1=some (.tup [.int 4,.int 12]):=aE;generalize upd H1 t1 (.tup [.int 4,.int 12])=J1 at I1 e1 h2 h3 h4 hL;have I2:=zC0 h2 (.tup [.int 4,.int 12]);have e2:upd J1 t2 (.tup [.int 4,.int 12]) t2=some (.tup [.int 4,.int 12]):=aE;generalize upd J1 t2 (.tup [.int 4,.int 12])=J2 at I2 e2 h3 h4 hL;have I3:=zC0 h3 (.tup [.int 4,.int 12]);have e3:upd J2 t3 (.tup [.int 4,.int 12]) t3=some (.tup [.int 4,.int 12]):=aE;generalize upd J2 t3 (.tup [.int 4,.int 12])=J3 at I3 e3 h4 hL;have I4:=zC0 h4 (.tup [.int 6,.int 8]);have e4:upd J3 t4 (.tup [.int 6,.int 8]) t4=some (.tup [.int 6,.int 8]):=aE;generalize upd J3 t4 (.tup [.int 6,.int 8])=J4 at I4 e4 hL;have I5:=zC0 hL (.lst [.ref t1,.ref t2,.ref t3,.ref t4]);have e5:upd J4 L (.lst [.ref t1,.ref t2,.ref t3,.ref t4]) L=some (.lst [.ref t1,.ref t2,.ref t3,.ref t4]):=aE;generalize upd J4 L (.lst [.ref t1,.ref t2,.ref t3,.ref t4])=H2 at I5 e5;have T15:=I1.trans (I2.trans (I3.trans (I4.trans I5)));have F2:=F1.same T15;refine⟨_,rfl,f4,4,rfl,F2,by decide,by decide,fun d H3 d0 d4 F3 B3=>?_⟩;have d4':d<4:=d4;have N3:∀x o,H1 x=some o∨H1 x=none->H2 x=some o->x≠f4->H3 x=some o:=fun x o _ e n=>B3 _ _ n e
 have S13:Same H H3:=Same.but S1 f40 ((zK0 T15).trans B3);obtain⟨tt,m,r,et,ht,m0,m6,r1,r30⟩:∃(tt:Addr)(m r:Int),atI [V.ref t1,.ref t2,.ref t3,.ref t4] d=some (.ref tt)/\H3 tt=some (.tup [.int m,.int r])/\0<=m/\m<=6/\1<=r/\r<=30:=by
  have f1:=F1;rcases(show d=0∨d=1∨d=2∨d=3 by omega)with rfl | rfl | rfl | rfl
  . exact⟨t1,4,12,rfl,B3 _ _ (F1.ne h1) (I5 _ _ (I4 _ _ (I3 _ _ (I2 _ _ e1)))),by decide,by decide,by decide,by decide⟩
  . exact⟨t2,4,12,rfl,B3 _ _ ((F1.same I1).ne h2) (I5 _ _ (I4 _ _ (I3 _ _ e2))),by decide,by decide,by decide,by decide⟩
  . exact⟨t3,4,12,rfl,B3 _ _ ((F1.same (I1.trans I2)).ne h3) (I5 _ _ (I4 _ _ e3)),by decide,by decide,by decide,by decide⟩
  . exact⟨t4,6,8,rfl,B3 _ _ ((F1.same (I1.trans (I2.trans I3))).ne h4) (I5 _ _ e4),by decide,by decide,by decide,by decide⟩
 have Lf:L≠f4:=(F1.same (I1.trans (I2.trans (I3.trans I4)))).ne hL;refine⟨L,_,_,.ref tt,rfl,rfl,zG0 (B3 _ _ Lf e5),et,?_⟩;refine⟨_,rfl,a0,ns0,1,rfl,S13.seq hS,h63,by decide,by decide,fun f1 H4 f10 S4 F4=>?_⟩;have ht4:=S4 _ _ ht;refine⟨_,rfl,tt,_,0,.int m,rfl,rfl,zD0 ht4,rfl,_,rfl,tt,_,1,.int r,rfl,rfl,zD0 ht4,rfl,f1,m,r,rfl,F4,m0,m6,r1,r30,fun gh a b ns v t p H5 hdr ha nl snok nd hb TS tok pp p3 p9 tc F5 S5=>?_⟩;have T5:Same H H5:=S13.trans (Same.but S4 f10 S5);have k:GmK ns [t] p:=⟨pp,p3,p9,by omega,by show 1<=1;decide,by show 1<=10;decide,fun t' ht=>by
  rw[zM0 ht];exact⟨tok.1,Tr.ok_wf snok t tok.1,by have:=tok.2.1;omega,by have:=tok.2.2;omega⟩,by show(1:Int)<=p;omega,fun t' ht=>by
  rw[zM0 ht];exact tc⟩
 have G5:GmT H5 gh a b ns [v] [t] p:=⟨hdr,ha,hb,TS⟩
 refine⟨_,rfl,a0,ns0,2,rfl,T5.seq hS,h63,by decide,by decide,fun f2 H6 f20 S6 F6=>?_⟩;refine⟨f2,3,rfl,F6,by decide,by decide,fun N xs H7 N0 nf2 hN xlen xok xnd F7 S7=>?_⟩;have T57:Same H5 H7:=Same.but S6 f20 S7;have T7:=T5.trans T57;exact⟨a0,gh,a,b,N,v,ns0,ns,xs,t,p,_,_,rfl,T7.seq hS,h63,G5.mono (aV T57),k,by omega,nd,hN,xlen,q⟩
end
theorem kept_vals {a b c d e f g h i j k l:Tok}:Vals (kept.map V.str) [.str "yes" a,.str "no" b,.str "not" c,.str "and" d,.str "or" e,.str "odd" f,.str "same" g,.str "round" h,.str "due" i,.str "asked" j,.str "true" k,.str "coin" l]:=
 .cons ⟨_,rfl⟩ (.cons ⟨_,rfl⟩ (.cons ⟨_,rfl⟩ (.cons ⟨_,rfl⟩ (.cons ⟨_,rfl⟩ (.cons ⟨_,rfl⟩ (.cons ⟨_,rfl⟩ (.cons ⟨_,rfl⟩ (.cons ⟨_,rfl⟩ (.cons ⟨_,rfl⟩ (.cons ⟨_,rfl⟩ (.cons ⟨_,rfl⟩ .nil)))))))))))
theorem sign_vals {a b c d e f:Tok}:Vals (signW.map V.str) [.str "+" a,.str "-" b,.str "*" c,.str "/" d,.str "=" e,.str "<" f]:=
 .cons ⟨_,rfl⟩ (.cons ⟨_,rfl⟩ (.cons ⟨_,rfl⟩ (.cons ⟨_,rfl⟩ (.cons ⟨_,rfl⟩ (.cons ⟨_,rfl⟩ .nil)))))
theorem ask_vals {a b:Tok}:Vals (askW.map V.str) [.str "coin" a,.str "true" b]:=.cons ⟨_,rfl⟩ (.cons ⟨_,rfl⟩ .nil)
theorem plain_vals {a b c:Tok}:Vals (plainW.map V.str) [.str "round" a,.str "due" b,.str "asked" c]:=.cons ⟨_,rfl⟩ (.cons ⟨_,rfl⟩ (.cons ⟨_,rfl⟩ .nil))
end
abbrev FH(K:W.Frag)(x:Str)(s:Stmt):Prop:=∃f,W.nsIn K mainGlobals x=some (some (.ref f))/\∃fd,Fun K x x s f fd
abbrev MH(K:W.Frag)(C:Addr)(x y:Str)(s:Stmt):Prop:=∃g,W.findIn K (.ref C) x=some (some (.ref g))/\W.isFn K (.ref g)=true/\∃fd,Fun K x y s g fd
abbrev CH (K:W.Frag) (x:Str) (C:Addr):Prop:=W.nsIn K mainGlobals x=some (some (.ref C))/\W.plainGet K C Str.empty=true/\W.hasDictIn K C=true/\W.plainOver K C=true/\W.findIn K (.ref C) "__setattr__"=some (some (.builtin "object.__setattr__"))/\W.makesIn K C=true/\W.keepIn K (.ref C)=true
abbrev HF(K:W.Frag)(C:Addr)(x:Str):Prop:=W.findIn K (.ref C) x=some none
abbrev HZ(K:W.Frag)(x:Str):Prop:=W.nsIn K mainGlobals x=some none
theorem aR{K:W.Frag}{h:Heap}{mg:Str->Option Value}{x:Str}{s:Stmt}(X:K.In h)(G:h.Ns mainGlobals mg)(z:FH K x s):∃f fd,Fun K x x s f fd/\mg x=some (.ref f):=by
 obtain⟨f,a,fd,F⟩:=z;exact⟨f,fd,F,W.mg_of X G a⟩
theorem dy{K:W.Frag}{C:Addr}{x y:Str}{s:Stmt}(z:MH K C x y s):∃f fd,Fun K x y s f fd/\Meth K C x f:=by
 obtain⟨f,a,i,fd,F⟩:=z;exact⟨f,fd,F,a,i,F.kp⟩
theorem all_mk {l:PySem.W.OpenLaw} {w:World} {K:W.Frag} {h:Heap} {mg:Str->Option Value} {fa fl CG CA CM CS CN:Addr} (X:K.In h) (G:h.Ns mainGlobals mg) (hfa:mg "law"=some (.ref fa))
 {od an:Option Addr} {sl:Array (Option Value)} {oc kV dc pm cd ct:Value}
 {t1 t3 t4 t5 t6 u1 u2 u3 uh ul:Tok} {ka ja qa pa:Addr} {kd jd qd pd:Option Addr} {kits jits qits pits:Array Value} {kn jn qn pn:Nat} {ksl jsl qsl psl:Array (Option Value)}
 {te tm:Tok}
 (aL:W.nsIn K mainGlobals "law"=some (some (.ref fl))) (lL:K.lookup fl=some ⟨oc,od,.func (W.fnOf "law" "law" (io jX) (eF jX) (ak jX) .none kV dc pm an cd ct),sl⟩) (cL:W.codeIn K cd "law"=true) (kL:W.keepIn K (.ref fl)=true)
 (h0:FH K "is_field" jJ)
 (h1:FH K "inverse_of" hV)
 (h2:FH K "value_at" jD)
 (h3:FH K "value_behind" fi)
 (h4:FH K "products" jF)
 (h5:FH K "inverse_factorials" cU)
 (h6:FH K "all_settings" fw)
 (h7:FH K "holds_at" hZ)
 (h8:FH K "joined" nO)
 (h9:FH K "count_of" jK)
 (h10:FH K "trees_within" fk)
 (h11:FH K "names_in" gU)
 (h12:FH K "counts_of" iQ)
 (h13:FH K "true_row" jE)
 (h14:FH K "value_of" gR)
 (h15:FH K "op_value" jG)
 (h16:FH K "divided" lj)
 (h17:FH K "settled" kW)
 (h18:FH K "way_between" gi)
 (h19:FH K "worth_of" gQ)
 (h20:FH K "joined_worth" fq)
 (h21:FH K "degree_of" iP)
 (h22:FH K "look_switches" eR)
 (h23:FH K "look_names" gV)
 (h24:FH K "look_field" gX)
 (h25:FH K "look_size" iO)
 (h26:FH K "is_name" li)
 (h27:FH K "is_figures" hC)
 (h28:FH K "read_helper" gl)
 (h29:FH K "helper_row" ia)
 (h30:FH K "next_name" iN)
 (h31:FH K "next_figures" fo)
 (h32:FH K "next_term" fX)
 (h33:FH K "term_in_bracket" cN)
 (h34:FH K "honest" nQ)
 (h35:FH K "idle" uS)
 (h36:FH K "best_liar" iR)
 (h37:FH K "_law_feed" nK)
 (h38:FH K "_law_take" nE)
 (h39:FH K "_law_names" bm)
 (h40:FH K "_law_tree" jY)
 (h41:FH K "_law_names_of" eW)
 (h42:FH K "_law_need" nI)
 (h43:FH K "_law_is_prime" gZ)
 (h44:FH K "_law_field" lg)
 (h45:FH K "_law_one_tree" gY)
 (h46:FH K "_law_term" jZ)
 (h47:FH K "_law_helper" jH)
 (h48:FH K "_law_liar" nJ)
 (h49:FH K "_law_worth" jg)
 (h50:FH K "_law_mixed" ld)
 (h51:FH K "_law_all" qK)
 (h52:FH K "_law_count" lh)
 (h53:FH K "_law_whole" kZ)
 (h54:FH K "_law_other" lc)
 (h55:FH K "_law_caught" jI)
 (gmc:CH K "Game" CG)
 (asc:CH K "Asking" CA)
 (mcc:CH K "Machine" CM)
 (sdc:CH K "Side" CS)
 (scc:CH K "Scan" CN)
 (FT:MH K CG "__init__" "Game.__init__" qL)
 (gmmM:MH K CG "mix" "Game.mix" uT)
 (gmmW:MH K CG "worth_at" "Game.worth_at" nU)
 (asmI:MH K CA "__init__" "Asking.__init__" qN)
 (asmP:MH K CA "plain_value" "Asking.plain_value" nV)
 (asmC:MH K CA "coin_at" "Asking.coin_at" qO)
 (asmN:MH K CA "true_numbers" "Asking.true_numbers" lm)
 (asmR:MH K CA "true_at" "Asking.true_at" qM)
 (mcmI:MH K CM "__init__" "Machine.__init__" qJ)
 (mcmS:MH K CM "say" "Machine.say" uQ)
 (mcmR:MH K CM "do_row" "Machine.do_row" uR)
 (sdmI:MH K CS "__init__" "Side.__init__" qH)
 (sdmA:MH K CS "adds_up" "Side.adds_up" qI)
 (sdmG:MH K CS "go_way" "Side.go_way" zz)
 (scmI:MH K CN "__init__" "Scan.__init__" nC)
 (scmE:MH K CN "enter" "Scan.enter" nA)
 (scmS:MH K CN "sees" "Scan.sees" qG)
 (scmT:MH K CN "take" "Scan.take" qF)
 (scmW:MH K CN "word" "Scan.word" qE)
 (scmF:MH K CN "finish" "Scan.finish" kU)
 (mo:HF K CG "switches")
 (gmn_trees:HF K CG "trees")
 (gmn_field:HF K CG "field")
 (gmn_degrees:HF K CG "degrees")
 (asn_game:HF K CA "game")
 (asn_number:HF K CA "number")
 (asn_many:HF K CA "many")
 (asn_held:HF K CA "held")
 (asn_s:HF K CA "s")
 (asn_tossed:HF K CA "tossed")
 (asn_truths:HF K CA "truths")
 (mcn_game:HF K CM "game")
 (mcn_helper:HF K CM "helper")
 (mcn_next_round:HF K CM "next_round")
 (mcn_boxes:HF K CM "boxes")
 (sdn_field:HF K CS "field")
 (sdn_machine:HF K CS "machine")
 (sdn_held:HF K CS "held")
 (sdn_said:HF K CS "said")
 (scn_text:HF K CN "text")
 (scn_row:HF K CN "row")
 (scn_most_within:HF K CN "most_within")
 (scn_most_parts:HF K CN "most_parts")
 (scn_place:HF K CN "place")
 (scn_parts:HF K CN "parts")
 (g1:W.nsIn K mainGlobals "LETTERS"=some (some (.str LET t1)))
 (g3:W.nsIn K mainGlobals "LONGEST_NAME"=some (some (.int 6 t3)))
 (g5:W.nsIn K mainGlobals "KEPT_WORDS"=some (some (.ref ka)))
 (g6:K.lookup ka=some ⟨.type "tuple",kd,.seq kits kn,ksl⟩)
 (g7:kits.size<=100)
 (g8:Vals (kept.map V.str) kits.toList)
 (e1:W.nsIn K mainGlobals "WORD_ENDS"=some (some (.str ENDS t4)))
 (e2:W.nsIn K mainGlobals "MOST_WITHIN"=some (some (.int 8 t5)))
 (e3:W.nsIn K mainGlobals "MOST_PARTS"=some (some (.int 20 t6)))
 (w1:W.nsIn K mainGlobals "FIGURES"=some (some (.str FIG u1)))
 (w2:W.nsIn K mainGlobals "MOST_FIGURES"=some (some (.int 12 u2)))
 (w3:W.nsIn K mainGlobals "MOST_ROWS"=some (some (.int 60 u3)))
 (j5:W.nsIn K mainGlobals "SIGNS"=some (some (.ref ja)))
 (j6:K.lookup ja=some ⟨.type "tuple",jd,.seq jits jn,jsl⟩)
 (j7:jits.size<=100)
 (j8:Vals (signW.map V.str) jits.toList)
 (q5:W.nsIn K mainGlobals "ASKING_WORDS"=some (some (.ref qa)))
 (q6:K.lookup qa=some ⟨.type "tuple",qd,.seq qits qn,qsl⟩)
 (q7:qits.size<=100)
 (q8:Vals (askW.map V.str) qits.toList)
 (p5:W.nsIn K mainGlobals "PLAIN_WORDS"=some (some (.ref pa)))
 (p6:K.lookup pa=some ⟨.type "tuple",pd,.seq pits pn,psl⟩)
 (p7:pits.size<=100)
 (p8:Vals (plainW.map V.str) pits.toList)
 (wh:W.nsIn K mainGlobals "HONEST_ROWS"=some (some (.str ("set i 0\nsay (true i)\nset i (+ i 1)\ngo 1":Str) uh)))
 (wl:W.nsIn K mainGlobals "LIAR_ROWS"=some (some (.str Cz ul)))
 (ge:W.nsIn K mainGlobals "FIELDS_END"=some (some (.int 1000000 te)))
 (xmo:W.nsIn K mainGlobals "MOST_ROWS_DONE"=some (some (.int 200 tm)))
 (z0:HZ K "len") (z1:HZ K "range") (z2:HZ K "isinstance") (z3:HZ K "int") (z4:HZ K "bool") (z5:HZ K "list") (z6:HZ K "tuple") (z7:HZ K "max") (z8:HZ K "reversed") (z9:HZ K "enumerate") (z10:HZ K "sum") (z11:HZ K "all") (z12:HZ K "zip") (z13:HZ K "dict") :
 ∃fd:FuncData,(∀(s:Shared) (v:Value),BindsTo s fd ⟨[v],[]⟩ [("_law_script",v)])/\∀base:Heap,K.In base->base.Ns mainGlobals mg->FnOk l.prog w K mg base CX0 32 fa fd ["_law_script"] (spLaw K):=by
 have e:=hfa.symm.trans (W.mg_of X G aL);cases e;have FV:=Eh (st:=jX) lL cL kL;obtain⟨_,_,t8,ES⟩:=aR X G h0;obtain⟨_,_,mI,C8⟩:=aR X G h1;obtain⟨_,_,t9,ET⟩:=aR X G h2;obtain⟨_,_,iL,y6⟩:=aR X G h3;obtain⟨_,_,ui,EU⟩:=aR X G h4;obtain⟨_,_,eU,jV⟩:=aR X G h5;obtain⟨_,_,iM,y8⟩:=aR X G h6;obtain⟨_,_,u4,u5⟩:=aR X G h7;obtain⟨_,_,C9,Ff⟩:=aR X G h8;obtain⟨_,_,u6,EV⟩:=aR X G h9;obtain⟨_,_,i3,y9⟩:=aR X G h10;obtain⟨_,_,u7,u8⟩:=aR X G h11;obtain⟨_,_,pw,EL⟩:=aR X G h12;obtain⟨_,_,u9,EW⟩:=aR X G h13;obtain⟨_,_,v3,v4⟩:=aR X G h14;obtain⟨_,_,v5,EX⟩:=aR X G h15;obtain⟨_,_,A4,E5⟩:=aR X G h16;obtain⟨_,_,A5,E6⟩:=aR X G h17;obtain⟨_,_,j4,C3⟩:=aR X G h18;obtain⟨_,_,v6,v7⟩:=aR X G h19;obtain⟨_,_,i4,A0⟩:=aR X G h20;obtain⟨_,_,pz,EM⟩:=aR X G h21;obtain⟨_,_,gK,v8⟩:=aR X G h22;obtain⟨_,_,m5,D3⟩:=aR X G h23;obtain⟨_,_,m7,D4⟩:=aR X G h24;obtain⟨_,_,pP,EN⟩:=aR X G h25;obtain⟨_,_,A7,E7⟩:=aR X G h26;obtain⟨_,_,m8,D5⟩:=aR X G h27;obtain⟨_,_,j9,C4⟩:=aR X G h28;obtain⟨_,_,nu,D6⟩:=aR X G h29;obtain⟨_,_,qh,EO⟩:=aR X G h30;obtain⟨_,_,i7,A3⟩:=aR X G h31;obtain⟨_,_,qA,q0⟩:=aR X G h32;obtain⟨_,_,o7,o8⟩:=aR X G h33;obtain⟨_,_,D7,Fg⟩:=aR X G h34;obtain⟨_,_,E8,FU⟩:=aR X G h35;obtain⟨_,_,r6,EQ⟩:=aR X G h36;obtain⟨_,_,D8,Fh⟩:=aR X G h37;obtain⟨_,_,D9,Fi⟩:=aR X G h38;obtain⟨_,_,A8,E9⟩:=aR X G h39;obtain⟨_,_,ED,EE⟩:=aR X G h40;obtain⟨_,_,nv,ny⟩:=aR X G h41;obtain⟨_,_,EF,Fk⟩:=aR X G h42;obtain⟨_,_,n8,EG⟩:=aR X G h43;obtain⟨_,_,A9,Fa⟩:=aR X G h44;obtain⟨_,_,oK,EH⟩:=aR X G h45;obtain⟨_,_,EI,EJ⟩:=aR X G h46;obtain⟨_,_,w4,EY⟩:=aR X G h47;obtain⟨_,_,EK,Fl⟩:=aR X G h48;obtain⟨_,_,Bj,Bm⟩:=aR X G h49;obtain⟨_,_,B0,Fb⟩:=aR X G h50;obtain⟨_,_,ER,FS⟩:=aR X G h51;obtain⟨_,_,C0,Fc⟩:=aR X G h52;obtain⟨_,_,C1,Fd⟩:=aR X G h53;obtain⟨_,_,C2,Fe⟩:=aR X G h54;obtain⟨_,_,w6,EZ⟩:=aR X G h55;obtain⟨gmgg,gmpg,gmhdi,gmpov,gmsat,gmmki,gmkcl⟩:=gmc;obtain⟨asgg,aspg,ashdi,aspov,assat,asmki,askcl⟩:=asc;obtain⟨mcgg,mcpg,mchdi,mcpov,mcsat,mcmki,mckcl⟩:=mcc;obtain⟨sdgg,sdpg,sdhdi,sdpov,sdsat,sdmki,sdkcl⟩:=sdc;obtain⟨scgg,scpg,schdi,scpov,scsat,scmki,sckcl⟩:=scc;obtain⟨_,_,Fm,Fn⟩:=dy FT;obtain⟨_,_,Fo,FW⟩:=dy gmmM;obtain⟨_,_,Fp,FX⟩:=dy gmmW;obtain⟨_,_,Fq,Fr⟩:=dy asmI;obtain⟨_,_,Fs,FY⟩:=dy asmP;obtain⟨_,_,Ft,FZ⟩:=dy asmC;obtain⟨_,_,Fu,Gc⟩:=dy asmN;obtain⟨_,_,Fv,Gd⟩:=dy asmR;obtain⟨_,_,Fw,Fx⟩:=dy mcmI;obtain⟨_,_,Fy,E1⟩:=dy mcmS;obtain⟨_,_,Fz,Ge⟩:=dy mcmR;obtain⟨_,_,FA,FB⟩:=dy sdmI;obtain⟨_,_,FC,Gf⟩:=dy sdmA;obtain⟨_,_,FD,Gh⟩:=dy sdmG;obtain⟨_,_,FE,FG⟩:=dy scmI;obtain⟨_,_,FI,Gi⟩:=dy scmE;obtain⟨_,_,FJ,FK⟩:=dy scmS;obtain⟨_,_,FL,Gj⟩:=dy scmT;obtain⟨_,_,FM,Gk⟩:=dy scmW;obtain⟨_,_,FN,Gn⟩:=dy scmF;have B:Bl mg:=⟨W.mg_none_of X G z0,W.mg_none_of X G z1,W.mg_none_of X G z2,W.mg_none_of X G z3,W.mg_none_of X G z4,W.mg_none_of X G z5,W.mg_none_of X G z6,W.mg_none_of X G z7,W.mg_none_of X G z8,W.mg_none_of X G z9,W.mg_none_of X G z10,W.mg_none_of X G z11,W.mg_none_of X G z12,W.mg_none_of X G z13⟩
 refine⟨W.fnOf "law" "law" (io jX) (eF jX) (ak jX) .none kV dc pm an cd ct,fun s v=>.of_eq rfl,fun base _ _=>?_⟩;have cal:=@Cal.of l.prog w K mg base;have TG:GTxt K mg CG:=⟨⟨gmpg,gmhdi,gmpov,gmsat⟩,mo,gmn_trees,gmn_field,gmn_degrees,W.mg_of X G gmgg⟩
 have TA:ATxt K mg CA:=⟨⟨aspg,ashdi,aspov,assat⟩,asn_game,asn_number,asn_many,asn_held,asn_s,asn_tossed,asn_truths,W.mg_of X G asgg⟩
 have TM:MTxt K mg CM:=⟨⟨mcpg,mchdi,mcpov,mcsat⟩,mcn_game,mcn_helper,mcn_next_round,mcn_boxes,W.mg_of X G mcgg⟩
 have TS:STxt K mg CS:=⟨⟨sdpg,sdhdi,sdpov,sdsat⟩,sdn_field,sdn_machine,sdn_held,sdn_said,W.mg_of X G sdgg⟩
 have TN:ScTxt K mg CN:=⟨⟨scpg,schdi,scpov,scsat⟩,scn_text,scn_row,scn_most_within,scn_most_parts,scn_place,scn_parts,W.mg_of X G scgg⟩
 have TX:Tx K mg:=⟨⟨t1,W.mg_of X G g1⟩,⟨t3,W.mg_of X G g3⟩,⟨ka,W.mg_of X G g5,fun _=>.inr ⟨_,kits,kn,g6,rfl,rfl,zO0 g7 (bv (by decide)),g8⟩⟩,⟨t4,W.mg_of X G e1⟩,⟨t5,W.mg_of X G e2⟩,⟨t6,W.mg_of X G e3⟩,⟨u1,W.mg_of X G w1⟩,⟨u2,W.mg_of X G w2⟩,⟨u3,W.mg_of X G w3⟩,⟨ja,W.mg_of X G j5,fun _=>.inr ⟨_,jits,jn,j6,rfl,rfl,zO0 j7 (bv (by decide)),j8⟩⟩,⟨qa,W.mg_of X G q5,fun _=>.inr ⟨_,qits,qn,q6,rfl,rfl,zO0 q7 (bv (by decide)),q8⟩⟩,⟨pa,W.mg_of X G p5,fun _=>.inr ⟨_,pits,pn,p6,rfl,rfl,zO0 p7 (bv (by decide)),p8⟩⟩⟩
 have Go:=Fm.binds (ps:=["self","switches","trees","field"]) (by ac_rfl);have Gq:=Fo.binds (ps:=["self","numbers","s"]) (by ac_rfl);have Gs:=Fp.binds (ps:=["self","point","s"]) (by ac_rfl);have Gw:=Fq.binds (ps:=["self","game","number","many","due","s","coins"]) (by ac_rfl);have Gx:=Fs.binds (ps:=["self","word"]) (by ac_rfl);have Gy:=Ft.binds (ps:=["self","place"]) (by ac_rfl);have Gz:=Fu.binds (ps:=["self"]) (by ac_rfl);have GB:=Fv.binds (ps:=["self","place"]) (by ac_rfl);have FO:=Fw.binds (ps:=["self","game","helper"]) (by ac_rfl);have E3:=Fy.binds (ps:=["self","many","due","s","coins"]) (by ac_rfl);have GD:=Fz.binds (ps:=["self","place","said","asking"]) (by ac_rfl);have GE:=FA.binds (ps:=["self","game","helper"]) (by ac_rfl);have GF:=FC.binds (ps:=["self","ways"]) (by ac_rfl);have GH:=FD.binds (ps:=["self","way"]) (by ac_rfl);have GJ:=FE.binds (ps:=["self","text","row","most_within","most_parts"]) (by ac_rfl);have GK:=FI.binds (ps:=["self","within"]) (by ac_rfl);have FP:=FJ.binds (ps:=["self","signs"]) (by ac_rfl);have GN:=FL.binds (ps:=["self","signs"]) (by ac_rfl);have GO:=FM.binds (ps:=["self"]) (by ac_rfl);have GQ:=FN.binds (ps:=["self"]) (by ac_rfl);have e9:=cal D8 (xO D8 B.len) Fh (by ac_rfl);have aP:=cal D9 (xL D9 ) Fi (by ac_rfl);have i8:=cal t8 (sR t8 ) ES (by ac_rfl);have c8:=cal mI (pJ mI ) C8 (by ac_rfl);have cw:=cal ui (sN ui ) EU (by ac_rfl);have c9:=cal eU (iD eU B cw c8) jV (by ac_rfl);have eX:=cal iL (lZ iL B cw c9) y6 (by ac_rfl);have jv:=cal t9 (sL t9 B eX) ET (by ac_rfl);have ca:=cal i3 (ma i3 ) y9 (by ac_rfl);have cu:=cal u7 (lO u7 u8 ca 10) u8 (by ac_rfl);have b9:=cal i4 (mf i4 ) A0 (by ac_rfl);have dM:=cal v6 (lK v6 v7 b9 10) v7 (by ac_rfl);have iq:=cal pz (rc pz B.max cu) EM (by ac_rfl);have eP:=cal gK (lu gK B.enumerate) v8 (by ac_rfl);have f9:=cal m5 (pE m5 cu) D3 (by ac_rfl);have gg:=cal m7 (pF m7 ⟨te,W.mg_of X G ge⟩ i8) D4 (by ac_rfl);have iu:=cal pP (rb pP B.max) EN (by ac_rfl);have eg:=cal A8 (vk A8 B.range aP) E9 (by ac_rfl);have dY:=cal ED (pY ED B.len EE aP 10) EE (by ac_rfl);have dJ:=cal nv (jx nv ny 10) ny (by ac_rfl);have r8:=cal EF (xM EF B.len B.max dJ) Fk (by ac_rfl);have f8:=cal n8 (pH n8 B.range) EG (by ac_rfl);have kR:=cal A9 (vo A9 aP f8) Fa (by ac_rfl);have gt:=cal oK (pG oK B.tuple aP eg dY r8 kR) EH (by ac_rfl);have GU:=Ad (P:=l.prog) (w:=w) (base:=base) Fm TG B.tuple B.len iq eP f9 gg iu;have GV:=BW (P:=l.prog) (w:=w) (base:=base) Fo TG B.reversed;have GX:=xR (P:=l.prog) (w:=w) (base:=base) Fp TG FW GV Gq dM;have cc:=cal iM (mh iM B.range) y8 (by ac_rfl);have eY:=cal C9 (xP C9 ) Ff (by ac_rfl);have b6:=cal u4 (lP u4 u5 eY 12) u5 (by ac_rfl);have i9:=cal u6 (sS u6 B.len cc b6) EV (by ac_rfl);have iI:=cal pw (re pw TG i9) EL (by ac_rfl);have je:=cal u9 (sM u9 B TG FX GX Gs cc) EW (by ac_rfl);have lH:=cal A4 (vt A4 c8) E5 (by ac_rfl);have dO:=cal v5 (sO v5 lH) EX (by ac_rfl);have GY:=Af (P:=l.prog) (w:=w) (base:=base) Fq B TA;have GZ:=xS (P:=l.prog) (w:=w) (base:=base) Fs TA TG;have G6:=Ag (P:=l.prog) (w:=w) (base:=base) Ft B TA TG;have G7:=vv (P:=l.prog) (w:=w) (base:=base) Fu TA iI je;have G8:=Ae (P:=l.prog) (w:=w) (base:=base) Fv B TA TG Gc G7 Gz jv;have AF:AskF l.prog w K mg base CA CG _ _ _ _ _ _:=⟨FY,GZ,Gx,FZ,G6,Gy,Gd,G8,GB⟩
 have bh:=cal v3 (lN v3 v4 TA TG AF dO 8) v4 (by ac_rfl);have FQ:=Ab (P:=l.prog) (w:=w) (base:=base) Fw TM;have G9:=BU (P:=l.prog) (w:=w) (base:=base) Fz B TM bh;have E4:=BT (P:=l.prog) (w:=w) (base:=base) Fy B TM TA ⟨tm,W.mg_of X G xmo⟩ ⟨asmki,Fr.1,Fr.2,askcl⟩ GY Gw Ge G9 GD;have MMk:Mk K CM _:=⟨mcmki,Fx.1,Fx.2,mckcl⟩
 have di:=cal EI (pZ EI B EJ aP 8) EJ (by ac_rfl);have jU:=cal w4 (sP w4 B aP di) EY (by ac_rfl);have sC:=cal EK (xN EK aP) Fl (by ac_rfl);have eD:=cal Bj (oE Bj B Bm 10) Bm (by ac_rfl);have lI:=cal B0 (vn B0 B eD) Fb (by ac_rfl);have y4:=cal ER (Ac ER B) FS (by ac_rfl);have l9:=cal C0 (vp C0 B y4 lI) Fc (by ac_rfl);have Hb:=zZ (P:=l.prog) (w:=w) (base:=base) FA TS TM TG MMk FQ FO E1 E4 E3;have Hc:=Aa (P:=l.prog) (w:=w) (base:=base) FC B TS TM E1 E4 E3;have Hd:=DJ (P:=l.prog) (w:=w) (base:=base) FD TS;have f6:=cal j4 (oB j4 TS) C3 (by ac_rfl);have eN:=cal A5 (vg A5 B TS TG ⟨sdmki,FB.1,FB.2,sdkcl⟩ Hb GE Gf Hc GF Gh Hd GH f6 b6) E6 (by ac_rfl);have He:=xK (P:=l.prog) (w:=w) (base:=base) FE TN;have Hf:=xJ (P:=l.prog) (w:=w) (base:=base) FI TN;have FR:=zY (P:=l.prog) (w:=w) (base:=base) FJ TN;have Hg:=zX (P:=l.prog) (w:=w) (base:=base) FL B TN FK FR FP;have Hh:=zW (P:=l.prog) (w:=w) (base:=base) FM B TX TN;have Hi:=vf (P:=l.prog) (w:=w) (base:=base) FN B TN;have M:Mths l.prog w K mg base CN _ _ _ _ _ _ _ _ _ _:=⟨Gi,Hf,GK,FK,FR,FP,Gj,Hg,GN,Gk,Hh,GO,Gn,Hi,GQ⟩
 have cM:=cal A7 (vq A7 B TX) E7 (by ac_rfl);have a9:=cal m8 (pI m8 B TX) D5 (by ac_rfl);have b8:=cal qA (ku qA q0 o7 o8 B TX TN M cM a9 8) q0 (by ac_rfl);have iJ:=cal qh (qZ qh TN M cM) EO (by ac_rfl);have dP:=cal i7 (me i7 B TN M a9) A3 (by ac_rfl);have gq:=cal nu (pK nu TX TN M ⟨scmki,FG.1,FG.2,sckcl⟩ He GJ iJ dP b8) D6 (by ac_rfl);have cn:=cal j9 (oC j9 B TX gq) C4 (by ac_rfl);have d8:=cal D7 (xQ D7 ⟨uh,W.mg_of X G wh⟩ cn) Fg (by ac_rfl);have iK:=cal r6 (rf r6 B ⟨ul,W.mg_of X G wl⟩ cn) EQ (by ac_rfl);have C7:=cal E8 (BV E8 ) FU (by ac_rfl);have l8:=cal C2 (vi C2 aP jU sC iK C7) Fe (by ac_rfl);have eJ:=cal C1 (vh C1 B) Fd (by ac_rfl);have f7:=cal w6 (sQ w6 B eJ) EZ (by ac_rfl);exact DK FV B TG ⟨gmmki,Fn.1,Fn.2,gmkcl⟩ GU Go TM MMk FQ FO E1 E4 E3 e9 aP eg gt l8 l9 d8 eJ f7 eN
theorem walk{l:PySem.W.OpenLaw}{q:Program}{loose:List Str}{XP:(Str->Option Value)->Heap->Prop}{YP:World->Heap->Prop}{d:DefRec}{K:Params->PySem.W.Frag}(hn:l.most=some 63)(hdf:d.params.defaults=[])
 (hY:∀(w:World)(h:Heap),YP w h->(K w.params).In h)
 (F:∀(w:World)(mg:Str->Option Value)(fa:Addr)(h:Heap),(K w.params).In h->h.Ns mainGlobals mg->mg d.name=some (.ref fa) ->
  ∃fd:FuncData,(∀(s:Shared) (u:Value),BindsTo s fd ⟨[u],[]⟩ [("_law_script",u)])/\∀base:Heap,(K w.params).In base->base.Ns mainGlobals mg->FnOk l.prog w (K w.params) mg base CX0 32 fa fd ["_law_script"] (spLaw (K w.params))) :
 PySem.W.WalkO q loose XP YP l.row.toRowW d [] (fun f vs=>PySem.call f vs):=
 L2.walk_of (n:=63) (k:=32) (x:="_law_script") (CX:=fun _=>CX0) (sp:=fun w=>spLaw (K w.params)) hn (by decide) hdf ⟨rfl,rfl,by decide,by decide⟩ hY F (fun _ _ a ns hl _ hS=>⟨a,ns,rfl,hS,hl,fun _=>rfl⟩) fun _ _ _ _ _ z=>z
end Mine
namespace PySem.W.Fast
def tw12917415240097090431:=()
def tw6664177640337605906:=()
def tw12354768053950425638:=()
def tw10575259168624848330:=()
def tw15366688242551595738:=()
def tw12332534240797077331:=()
def tw8903110512231714420:=()
def tw8953882296173841131:=()
def tw5027783447502538623:=()
def tw1053118449553618417:=()
def tw3051714597477709971:=()
def tw4596779133545914656:=()
def tw8791193939223739777:=()
def tw2224050177603619292:=()
def tw11419563052223926354:=()
def tw3762930085278915253:=()
def tw7974136710951516279:=()
def tw15184602047641827707:=()
def tw15034305542673749901:=()
def tw2222275207817857875:=()
def tw5603316903669723360:=()
def tw7658864044908842263:=()
def tw14613050072556130387:=()
def tw2902965277780598973:=()
def tw13837282971666572965:=()
def tw13085336874674990910:=()
def tw3632230195872987442:=()
def tw10048704845664133508:=()
def tw6801913001817855259:=()
def tw15058889596868936294:=()
def tw1858066748643954136:=()
def tw1689875129462839286:=()
def tw13177704921607605449:=()
def tw1198414346635478061:=()
def tw14189257622312895456:=()
def tw13009531929043947498:=()
def tw3987270288486257759:=()
def tw8233646288444309487:=()
def tw16796881022869130619:=()
def tw2079882634897408965:=()
def tw2956000370987383048:=()
def tw17829144554802181593:=()
def tw492143818212901476:=()
def tw14921831403211859787:=()
def tw6647964745641903257:=()
def tw9413567430769159261:=()
def tw17633440797792373911:=()
def tw9393758387079505173:=()
def tw3753823472299779249:=()
def tw8141715165785020354:=()
def tw2786872463458051493:=()
def tw2306589644367595902:=()
def tw14498676508726803904:=()
def tw14900432404586238465:=()
def tw5116466167858468380:=()
def tw6614960835562857824:=()
def tw11413286966478862820:=()
def tw18327036444263444690:=()
def tw17061468367353392458:=()
def tw9928779984089047387:=()
def tw10180790184950696921:=()
def tw4163812146181840986:=()
def tw783422432515874711:=()
def tw11385173995605363190:=()
def tw4774753357655183599:=()
def tw6735381084175970761:=()
def tw4386081941811458674:=()
def tw7369556617696459449:=()
def tw7650413010289733897:=()
def tw13437189332524450439:=()
def tw12440076445334891855:=()
def tw9665566383137106184:=()
def tw15209449322719896051:=()
def tw9378308890770148331:=()
def tw7200951209607729683:=()
def tw9815151408990033925:=()
def tw17659648834027153656:=()
def tw5738192673996514437:=()
def tw3794609540936551883:=()
def tw11373642940176644005:=()
def tw4933563444350700106:=()
def tw324338824433899760:=()
def tw10061885413093549801:=()
def tw8286044616209675144:=()
def tw13716479733146732342:=()
def tw2535469845486762833:=()
def tw11789569582995395852:=()
def tw18289293680918749050:=()
def tw4843811600998686308:=()
def tw2841473673430937740:=()
def tw14606233555209778513:=()
def tw4448889698373008691:=()
def tw11608539603736634444:=()
def tw3495202022567389624:=()
def tw15332645857372245923:=()
def tw2029386671603484694:=()
def tw2950701578095553061:=()
def tw9564668017517059286:=()
def tw1011474357340476696:=()
def tw10291162749426203764:=()
def tw16280886603209975275:=()
def tw11905134365679918075:=()
def tw134926927784157110:=()
def tw2583739009068955310:=()
def tw12048336845355508989:=()
def tw11558285572985516345:=()
def tw15259926466596293419:=()
def tw3165011154450600324:=()
def tw18257828713332170986:=()
def tw17984401593976903756:=()
def tw9273493731073019201:=()
def tw3879561507196205108:=()
def tw17814817068974970299:=()
def tw7258204172351869033:=()
def tw9016977626704254671:=()
def tw8864390481651250787:=()
def tw18029874079929590358:=()
def tw889829527873040027:=()
def tw15279391641336876641:=()
def tw5753248882298161487:=()
def tw7070696638686309091:=()
def tw12615522798725022405:=()
def tw9498528000661653812:=()
def tw7802454329079245450:=()
def tw6060379090540223610:=()
def tw5973711409583868862:=()
def tw3168083321395039488:=()
def tw8676512065577932243:=()
def tw14658460030516600990:=()
def tw10607781506184594157:=()
def tw17810367971422914368:=()
def tw17102823788098308847:=()
def tw4519178140432119659:=()
def tw1612738655585606617:=()
def tw3695679258982550248:=()
def tw3740247870579957430:=()
def tw13451989081460899069:=()
def tw5466454906459039794:=()
def tw5553284864600695565:=()
def tw16421980473891471909:=()
def tw5652022843321345691:=()
def tw14824983258812772968:=()
def tw9089839429266856502:=()
def tw9238752433837124959:=()
def tw16181480606269980514:=()
def tw16042174679621976214:=()
def tw319433484335968379:=()
def tw12233520704260739708:=()
def tw13009461296934378052:=()
def tw2812471031451023060:=()
def tw15122310818374046522:=()
def tw9325533864726844952:=()
def tw7121760503193734445:=()
def tw16630144786224228095:=()
def tw12543310539205695950:=()
def tw10689167093814039704:=()
def tw9070686732551333225:=()
def tw14438322295620382750:=()
def tw18183831822627309898:=()
def tw3449942624075742226:=()
def tw11279469320564323078:=()
def tw16894582559534741759:=()
def tw905572282040152425:=()
def tw1740298857933178893:=()
def tw11442320193721227404:=()
def tw9442226547927302886:=()
def tw16312880746173117525:=()
def tw7289926658528041255:=()
def tw3878106779462404948:=()
def tw16364628525340714638:=()
def tw17717014607063621571:=()
def tw11526224042961023599:=()
def tw8671972572792301180:=()
def tw8597715381248280060:=()
def tw12213881399298685838:=()
def tw12244519862151313013:=()
def tw3987500303168437755:=()
def tw15804120973114232446:=()
def tw262245019727421976:=()
def tw10650793737330450013:=()
def tw17136796755214002713:=()
def tw12657255380673257395:=()
def tw3689986781587479001:=()
def tw8840681508863881178:=()
def tw17473759391303814176:=()
def tw16308869341953326303:=()
def tw3579580889904239656:=()
def tw8297280340234224997:=()
def tw16151889230076587890:=()
def tw13547900801967622125:=()
def tw7143940962199604933:=()
def tw16765992234210827994:=()
def tw12432235232147789495:=()
def tw3420903513965932135:=()
def tw7378815858857624637:=()
def tw4698176826554859518:=()
def tw6867161364671773732:=()
def tw11605224178798758896:=()
def tw5361827031843282168:=()
def tw1428826217117398269:=()
def tw16538525028454204444:=()
def tw7582909767028776092:=()
def tw1328586008364303004:=()
def tw9225626999385279914:=()
def tw3439738226170216868:=()
def tw12039015509532044655:=()
def tw16582328751169889875:=()
def tw127983595597678420:=()
def tw12638334986563196370:=()
def tw14902925953007578993:=()
def tw1473448412555428622:=()
def tw3905258836085950311:=()
def tw12324256510080460500:=()
def tw18411925345572628331:=()
def tw4740976059816255546:=()
def tw4695145865251343658:=()
def tw7809227518779953887:=()
def tw11568222047756614206:=()
def tw10595720751906466940:=()
def tw10373765866717749226:=()
def tw17308401453361585305:=()
def tw16329841790977242004:=()
def tw566816560461133487:=()
def tw13226244108454591882:=()
def tw1218465328710935363:=()
def tw6198513080027766845:=()
def tw9589491621298458374:=()
def tw12563580518862109122:=()
def tw8035571627901483071:=()
def tw7453721195684713053:=()
def tw8179872559746322239:=()
def tw6609421880967584716:=()
def tw3684904464960594113:=()
def tw17928444547739460420:=()
def tw485782389308445573:=()
def tw8215319332593727128:=()
def tw14882910715026567517:=()
def tw3078009994029918022:=()
def tw7861693519727670402:=()
def tw16000987685399962481:=()
def tw364868621133889759:=()
def tw6871250480924647251:=()
def tw16609600616607214419:=()
def tw781042918897703644:=()
def tw9453193582037867802:=()
def tw11055684383944340461:=()
def tw5547399964748566451:=()
def tw774498426057455321:=()
def tw17977538389485629290:=()
def tw9317106175548901206:=()
def tw18213919177030573185:=()
def tw17384955916889130949:=()
def tw16799745547958870314:=()
def tw14662871042332087:=()
def tw4757025517050731632:=()
def tw9511092257871973600:=()
def tw7171969645407221261:=()
def tw9688198017800893732:=()
def tw14217549471851204841:=()
def tw4602557377856545218:=()
def tw10013208918428936610:=()
def tw15858804143038790639:=()
def tw639510060594295182:=()
def tw1569178175688378988:=()
def tw3519208496066344329:=()
def tw8436447907058437253:=()
def tw18348295576662684587:=()
def tw13128526158189413085:=()
def tw6722058645294078228:=()
def tw11963452581740262243:=()
def tw4037823372096250720:=()
def tw10376281461163073061:=()
def tw9829188755450680096:=()
def tw5284173495150637941:=()
def tw11363289183839131668:=()
def tw10750938849270479801:=()
def tw9832177076758862125:=()
def tw13029362677199261211:=()
def tw13973448065612180209:=()
def tw1369036005458792384:=()
def tw14566268334705163349:=()
def tw728923009266143266:=()
def tw2054952614406018626:=()
def tw13185640997419894318:=()
def tw4086742055964046392:=()
def tw1506339684197373183:=()
def tw3597935344944589377:=()
def tw8599871613969591418:=()
def tw9221638018583974116:=()
def tw3075888702713322823:=()
def tw4673149982125680320:=()
def tw11846144551358844364:=()
def tw17075501469230253390:=()
def tw16509973014666990089:=()
def tw8392975911472590094:=()
def tw12291520605120128051:=()
def tw7242762700671689908:=()
def tw6894321358485969666:=()
def tw8055560071365831646:=()
def tw6111617757269088670:=()
def tw15303791351191775959:=()
def tw12801371560385089904:=()
def tw5924035718003520697:=()
def tw7144914670739240549:=()
def tw15522323618328198313:=()
def tw13366523294642553162:=()
def tw7289171792417211576:=()
def tw4277048566406352693:=()
def tw15951624154284573403:=()
def tw17463638912674683880:=()
def tw11283268230170568510:=()
def tw16813342691641143587:=()
def tw12004095597106294368:=()
def tw3481510464389367405:=()
def tw7572417121440078381:=()
def tw7133057909661065662:=()
def tw13266258602629760849:=()
def tw6124714567716431215:=()
def tw13078887795080169066:=()
def tw15424540229840533352:=()
def tw5061630856113223912:=()
def tw2691861541246195023:=()
def tw4818438633391541010:=()
def tw14921158894271235700:=()
def tw9629788269427952293:=()
def tw7367489537374937391:=()
def tw6159180818594766177:=()
def tw13176657942774893497:=()
def tw2486035679984293963:=()
def tw10446170461933920338:=()
def tw9264337205331335441:=()
def tw1663767807820251008:=()
def tw16936768319709643494:=()
def tw12029429751341037304:=()
def tw11276542106519530513:=()
def tw10597498097854112148:=()
def tw16327350328588853213:=()
def tw6548306366468462372:=()
def tw5751638503055480845:=()
def tw13522596633564020321:=()
def tw6841934961865880188:=()
def tw2261037676882359239:=()
def tw10062241659232567543:=()
def tw8505340523052097019:=()
def tw2310326472128873423:=()
def tw15850961031313688596:=()
def tw4948812193641619813:=()
def tw98326728796871653:=()
def tw10981861332138583609:=()
def tw3336755504843802361:=()
def tw2124784795693779635:=()
def tw16855035081672302540:=()
def tw13761910612825620383:=()
def tw12715794270847002619:=()
def tw9920882448715811461:=()
def tw18275543481443213244:=()
def tw17916915153449042100:=()
def tw11735982178200046432:=()
def tw4656140569267510024:=()
def tw12017613641662801892:=()
def tw9946159885062334538:=()
def tw13328045267283724620:=()
def tw2753267172044058769:=()
def tw8810040289814429706:=()
def tw7405974684956820794:=()
def tw12653072142085973337:=()
def tw17413213990465748947:=()
def tw9206471544224009488:=()
def tw15389583996416493099:=()
def tw11412099909719408879:=()
def tw12217859573425103065:=()
def tw4405314735555429051:=()
def tw17496271349360233014:=()
def tw17232316040322300377:=()
def tw7726089937752420016:=()
def tw7020912716389885639:=()
def tw5615149492526480665:=()
def tw3839982352135185711:=()
def tw12966714535188911123:=()
def tw9983322890332098168:=()
def tw1514762894285995588:=()
def tw9295356616942492888:=()
def tw5252938419260882736:=()
def tw1302144658911205362:=()
def tw12435647829238860694:=()
def tw3423087200997729099:=()
def tw6668559397869258750:=()
def tw8064409206750249726:=()
def tw8416399438082173249:=()
def tw14067935184511998168:=()
def tw6418690714856547690:=()
def tw8128807353963962126:=()
def tw564937573714911634:=()
def tw3298002733570201385:=()
def tw6066967179255640463:=()
def tw17837778734723726765:=()
def tw9631579034421299266:=()
def tw15695378562717813763:=()
def tw3279743708618185368:=()
def tw6787961670230182139:=()
end PySem.W.Fast
open PySem PySem.W PyProof.Rows
set_option maxRecDepth 100000 in
set_option maxHeartbeats 0 in
theorem PySem.Challenge.cw_asktally_k68_the_honest_one_is_never_cau_holds : PySem.Challenge.rw_asktally_k68_the_honest_one_is_never_cau.Holds := by
 w_on; o_law; k_head; (case hw=>w_witness2)
 k_fill
 refine Mine.walk (l:=PySem.Challenge.rw_asktally_k68_the_honest_one_is_never_cau) rfl rfl (fun w h Y=>PySem.W.kIn_of Y) ?F
 case F =>
  intro w mg fa h KX G hmg
  refine' Mine.all_mk KX G hmg ?aL ?lL ?cL ?kL ?h0 ?h1 ?h2 ?h3 ?h4 ?h5 ?h6 ?h7 ?h8 ?h9 ?h10 ?h11 ?h12 ?h13 ?h14 ?h15 ?h16 ?h17 ?h18 ?h19 ?h20 ?h21 ?h22 ?h23 ?h24 ?h25 ?h26 ?h27 ?h28 ?h29 ?h30 ?h31 ?h32 ?h33 ?h34 ?h35 ?h36 ?h37 ?h38 ?h39 ?h40 ?h41 ?h42 ?h43 ?h44 ?h45 ?h46 ?h47 ?h48 ?h49 ?h50 ?h51 ?h52 ?h53 ?h54 ?h55 ?gmc ?asc ?mcc ?sdc ?scc ?FT ?gmmM ?gmmW ?asmI ?asmP ?asmC ?asmN ?asmR ?mcmI ?mcmS ?mcmR ?sdmI ?sdmA ?sdmG ?scmI ?scmE ?scmS ?scmT ?scmW ?scmF ?mo ?gmn_trees ?gmn_field ?gmn_degrees ?asn_game ?asn_number ?asn_many ?asn_held ?asn_s ?asn_tossed ?asn_truths ?mcn_game ?mcn_helper ?mcn_next_round ?mcn_boxes ?sdn_field ?sdn_machine ?sdn_held ?sdn_said ?scn_text ?scn_row ?scn_most_within ?scn_most_parts ?scn_place ?scn_parts ?g1 ?g3 ?g5 ?g6 ?g7 ?g8 ?e1 ?e2 ?e3 ?w1 ?w2 ?w3 ?j5 ?j6 ?j7 ?j8 ?q5 ?q6 ?q7 ?q8 ?p5 ?p6 ?p7 ?p8 ?wh ?wl ?ge ?xmo ?z0 ?z1 ?z2 ?z3 ?z4 ?z5 ?z6 ?z7 ?z8 ?z9 ?z10 ?z11 ?z12 ?z13
  case aL|lL|cL|kL=>k_is
  case h0|h1|h2|h3|h4|h5|h6|h7|h8|h9|h10|h11|h12|h13|h14|h15|h16|h17|h18|h19|h20|h21|h22|h23|h24|h25|h26|h27|h28|h29|h30|h31|h32|h33|h34|h35|h36|h37|h38|h39|h40|h41|h42|h43|h44|h45|h46|h47|h48|h49|h50|h51|h52|h53|h54|h55=>exact ⟨_,by k_is,_,⟨_,_,_,_,_,_,_,_,_,rfl,by k_is,by k_is⟩,by k_is⟩
  case gmc|asc|mcc|sdc|scc=>exact ⟨by k_is,by k_is,by k_is,by k_is,by k_is,by k_is,by k_is⟩
  case FT|gmmM|gmmW|asmI|asmP|asmC|asmN|asmR|mcmI|mcmS|mcmR|sdmI|sdmA|sdmG|scmI|scmE|scmS|scmT|scmW|scmF=>exact ⟨_,by k_is,by k_is,_,⟨_,_,_,_,_,_,_,_,_,rfl,by k_is,by k_is⟩,by k_is⟩
  case mo|gmn_trees|gmn_field|gmn_degrees|asn_game|asn_number|asn_many|asn_held|asn_s|asn_tossed|asn_truths|mcn_game|mcn_helper|mcn_next_round|mcn_boxes|sdn_field|sdn_machine|sdn_held|sdn_said|scn_text|scn_row|scn_most_within|scn_most_parts|scn_place|scn_parts=>delta Mine.HF; k_is
  case g1|g3|g5|g6|e1|e2|e3|w1|w2|w3|j5|j6|q5|q6|p5|p6|wh|wl|ge|xmo=>k_is
  case g7|j7|q7|p7=>decide
  case g8=>exact Mine.kept_vals
  case j8=>exact Mine.sign_vals
  case q8=>exact Mine.ask_vals
  case p8=>exact Mine.plain_vals
  case z0|z1|z2|z3|z4|z5|z6|z7|z8|z9|z10|z11|z12|z13=>delta Mine.HZ; k_is
