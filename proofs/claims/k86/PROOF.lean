import PyProof.Rows.All
import Wide.All
import OpenK.AllK
import Wide.FinOn
import Lean
import PyProof.EqAt
import PyProof.EqKinds
import PyProof.TupleCall
import PySem.Challenge.RW_asktally_k86_whole_disputes
set_option Elab.async false
set_option linter.all false
set_option maxRecDepth 100000
set_option bootstrap.genMatcherCode false
set_option compiler.extract_closed false
local macro_rules|`(%[$xs,*|$y])=>do
 if y.raw.isIdent then if y.raw.getId==`List.nil then Lean.Macro.throwUnsupported
 if y.raw.isIdent then if y.raw.getId==`aH then return←xs.getElems.foldrM (fun x a=>do match x.raw.isNatLit? with|some _=>`($(Lean.mkIdent `ae) ($(Lean.mkIdent `pv) $x) $a)|_=>`($(Lean.mkIdent `ae) $x $a)) y
 let h←`(_);let r←`(rfl);let q←`(?_);let a←`(by omega);let b←`(by decide)
 let o:=(xs.getElems.push y).flatMap fun x=>match x.raw.isNatLit? with|some 0=>#[h,r]|some 1=>#[r]|some 2=>#[h,h,r,r]|some 3=>#[a]|some 4=>#[b]|some 6=>#[q]|_=>#[x]
 `(⟨$o,*⟩)
local macro_rules|`(tactic|let%[$xs,*|$y]:=$e)=>do
 let g:=fun(f:Lean.Term->Lean.MacroM (Lean.TSyntax `rcasesPat))(t:Lean.Term)=>show Lean.MacroM (Lean.TSyntax `rcasesPat) from do
  match t with
  |`(%[$xs,*|$y])=>
   let p←(xs.getElems.push y).mapM fun x=>do let p←f x;`(Lean.Parser.Tactic.rcasesPatLo|$p:rcasesPat)
   `(rcasesPat|⟨$p,*⟩)
  |`($i:ident)=>`(rcasesPat|$i:ident)
  |_=>if t.raw.isNatLit?==some 1 then`(rcasesPat|$(Lean.mkIdent `rfl):ident)else`(rcasesPat|_)
 let p←g (g (g (g (g (g fun _=>`(rcasesPat|_)))))) (←`(%[$xs,*|$y]))
 `(tactic|obtain $p:rcasesPat:=$e)
local macro_rules|`(tactic|erw[$xs,*]$[at $h:ident]?)=>do
 let o:Array Lean.Term:=xs.getElems.map fun x=>⟨x.raw[1]⟩
 let l:=o.back!;let o:=o.pop
 match h with|some h=>`(tactic|let%[$o,*|$l]:=$h)|_=>`(tactic|refine %[$o,*|$l])
local macro_rules|`(⋯)=>`(by decide)
local macro_rules|`(#[0])=>`(by omega)|`(#[$f:ident,$i:num,$s:ident,$e])=>`($f (i:=$i) ($s).nd rfl (Or.inl rfl) $e)
local macro_rules|`(tactic|exists $x:ident)=>do
 let i:=Lean.mkIdent
 `(tactic|refine $(i `F.ok) $x (fun _ _ _ _ h=>by cases h;subst_vars;rfl) (fun $(i `cdv) $(i `A) $(i `outer) $(i `s) $(i `H) $(i `vs) $(i `Q) $(i `E) $(i `hr) $(i `h)=>?_))
local macro_rules | `(tactic|omega)=>`(tactic|first | lia | omega +splitDisjunctions)
local macro_rules | `(command|def $n:declId $s:optDeclSig $b:declVal)=>`(command|noncomputable def $n:declId $s:optDeclSig $b:declVal)
local macro_rules | `(tactic|decide)=>`(tactic|decide +kernel)
local macro_rules | `(tactic|rfl')=>`(tactic|with_unfolding_all rfl)
local macro_rules | `(tactic|ac_rfl)=>`(tactic|(intro _ _ _ _ _ _ us hl;rcases us with _|⟨a,_|⟨b,_|⟨c,_|⟨d,_|⟨e,_|⟨f,_|⟨g,_|⟨h,us⟩⟩⟩⟩⟩⟩⟩⟩<;>first|rfl|(simp at hl)))
noncomputable section
section
open PySem PySem.Spec PyProof.Rows
abbrev zA0:=@wpAny_bind
theorem zB0.{u}{c:Prop}{h:Decidable c}(hc:¬c){α:Sort u}{t e:α}:ite c t e=e:=if_neg hc
theorem zE0.{u}{c:Prop}{h:Decidable c}(hc:c){α:Sort u}{t e:α}:ite c t e=t:=if_pos hc
abbrev zG0:=@Nat.le_refl
abbrev zH0:=@List.length_map
abbrev zI0:=@wpAny_pure
abbrev zJ0:=@List.length_append
abbrev zL0:=@Heap.lt_size
theorem zM0.{u}{α:Type u}{a b:α}(h:a∈[b]):a=b:=List.mem_singleton.mp h
abbrev zN0:=@List.getElem?_eq_getElem
abbrev zO0:=@List.map_append
abbrev zP0:=@Heap.get?_push_of_some
abbrev zQ0:=@Nat.le_trans
abbrev zR0:=@List.size_toArray
abbrev zS0:=@Nat.ne_of_lt
abbrev zT0:=@List.length_cons
abbrev zU0:=@Option.some.inj
theorem zV0.{u}{α:Type u}{a b:α}{l:List α}(h:a∈b::l):a=b∨a∈l:=List.mem_cons.mp h
abbrev zW0:=@Nat.zero_le
theorem zX0.{u}{α:Type u}{l:List α}{i:Nat}{a:α}(h:l[i]?=some a):∃h:i<l.length,l[i]=a:=List.getElem?_eq_some_iff.mp h
abbrev zY0:=@List.mem_cons_self
abbrev zZ0:=@Heap.get?_push_size
abbrev qA0:=@Int.emod_nonneg
abbrev qB0:=@Bool.false_ne_true
abbrev qC0:=@List.map_cons
theorem qD0.{u}{α:Type u}{a:α}{s t:List α}(h:a∈s++t):a∈s∨a∈t:=List.mem_append.mp h
abbrev qE0:=@List.getElem?_map
abbrev qF0:=@Int.emod_lt_of_pos
abbrev qG0:=@List.mem_cons_of_mem
abbrev qH0:=@List.length_take
abbrev qI0:=@List.mem_of_getElem?
abbrev qJ0:=@List.take_length
abbrev qK0:=@List.length_singleton
abbrev qL0:=@Nat.le_succ
abbrev qM0:=@Nat.lt_of_lt_of_le
abbrev qN0:=@List.take_add_one
abbrev qO0:=@List.length_range
abbrev qP0:=@List.getElem_mem
abbrev qQ0:=@Int.toNat_natCast
abbrev qR0:=@Int.emod_eq_of_lt
abbrev qS0:=@List.getD_eq_getElem?_getD
abbrev qT0:=@List.mem_append_right
abbrev qU0:=@Nat.lt_irrefl
theorem qV0{α β:Type}{f:α->β}{x:Option α}{b:β}(h:x.map f=some b):∃a,x=some a/\f a=b:=Option.map_eq_some_iff.mp h
abbrev qX0:=@Int.mul_le_mul_of_nonneg_left
end
namespace L2
open PySem PySem.Spec PyProof.Rows
abbrev Key:=Sum Int Str
def pU:Key->Value->Bool
 | .inl k,v=>Value.isInt k v
 | .inr x,v=>Value.isStrOf x v
def keyH(w:World):Key->Int
 | .inl k=>hashInt k
 | .inr x=>hashStr w x
theorem cv:∀{k:Key}{v:Value},pU k v=true->(∃i t,k=Sum.inl i/\v=Value.int i t)∨(∃x t,k=Sum.inr x/\v=Value.str x t)
 | .inl i,v,h=>by
   let%[t|e]:=Value.isInt_shape (k:=i) (v:=v) h;exact .inl %[i,t,1|e]
 | .inr x,v,h=>by
   let%[t|e]:=Value.isStrOf_shape (x:=x) (v:=v) h;exact .inr %[x,t,1|e]
theorem xZ(i:Int)(t:Tok):pU (.inl i) (.int i t)=true:=by simp [pU,Value.isInt]
theorem xY(x:Str)(t:Tok):pU (.inr x) (.str x t)=true:=by simp [pU,Value.isStrOf]
theorem Ei(a b:Int):decide ((Sum.inl a:Key)=Sum.inl b)=(a==b):=by
 by_cases e:a=b
 . subst e;simp
 . have h:¬ (Sum.inl a:Key)=Sum.inl b:=λq=>e (Sum.inl.inj q)
   rw[decide_eq_false h];exact(beq_eq_false_iff_ne.mpr e).symm
theorem Ef(a b:Str):decide ((Sum.inr a:Key)=Sum.inr b)=decide (a=b):=by
 by_cases e:a=b
 . subst e;simp
 . have h:¬ (Sum.inr a:Key)=Sum.inr b:=λq=>e (Sum.inr.inj q)
   rw[decide_eq_false h,decide_eq_false e]
theorem Eh(a:Int)(b:Str):decide ((Sum.inl a:Key)=Sum.inr b)=false:=decide_eq_false (λq=>nomatch q)
theorem Eg(a:Str)(b:Int):decide ((Sum.inr a:Key)=Sum.inl b)=false:=decide_eq_false (λq=>nomatch q)
def aY(prog:Program)(w:World):PySem.KeyKind prog w Key where
 is:=pU
 hash:=keyH w
 inj:=λv a b ha hb=>by
  rcases cv ha with⟨i,t,rfl,rfl⟩ | ⟨x,t,rfl,rfl⟩
  . rcases cv hb with⟨j,u,rfl,e⟩ | ⟨y,u,rfl,e⟩
    . injection e with e1 _;rw[e1]
    . exact nomatch e
  . rcases cv hb with⟨j,u,rfl,e⟩ | ⟨y,u,rfl,e⟩
    . exact nomatch e
    . injection e with e1 _;rw[e1]
 byValue:=λk v h=>by
  rcases cv h with⟨i,t,rfl,rfl⟩ | ⟨x,t,rfl,rfl⟩ <;> rfl
 pyHash:=λhv h=>by
  rcases cv hv with⟨i,t,rfl,rfl⟩ | ⟨x,t,rfl,rfl⟩
  . exact wpAny_pyHash_int h
  . exact wpAny_pyHash_str h
 eqBool:=λhu hv h=>by
  rcases cv hu with⟨i,t,rfl,rfl⟩ | ⟨x,t,rfl,rfl⟩
  . rcases cv hv with⟨j,u,rfl,rfl⟩ | ⟨y,u,rfl,rfl⟩
    . rw[Ei]at h;exact wpAny_eqBool_int h
    . rw[Eh]at h;exact SeqAt.EqAt.int_str i t y u _ _ _ _ h
  . rcases cv hv with⟨j,u,rfl,rfl⟩ | ⟨y,u,rfl,rfl⟩
    . rw[Eg]at h;exact SeqAt.EqAt.str_int x t j u _ _ _ _ h
    . rw[Ef]at h;exact wpAny_eqBool_str h
 «strs»:=λk x t v h=>by
  rcases cv h with⟨i,u,rfl,e⟩ | ⟨y,u,rfl,e⟩
  . exact nomatch e
  . injection e with e1 _;subst e1;cases v <;> rfl
theorem sP(prog:Program)(w:World)(i:Int)(t:Tok):(aY prog w).is (.inl i) (.int i t)=true:=xZ i t
theorem sO(prog:Program)(w:World)(x:Str)(t:Tok):(aY prog w).is (.inr x) (.str x t)=true:=xY x t
inductive V where
 | non | bl (b:Bool) | int (i:Int) | str (x:Str) | byt (b:Array UInt8) | flt (b:UInt64) | ref (a:Addr) | ty (n:String)
 deriving DecidableEq
def RelV:V->Value->Prop
 | .non,u=>u=Value.none
 | .bl b,u=>u=Value.bool b
 | .int i,u=>∃t,u=Value.int i t
 | .str x,u=>∃t,u=Value.str x t
 | .byt b,u=>∃t,u=Value.bytes b t
 | .flt b,u=>∃t,u=Value.float b t
 | .ref a,u=>u=Value.ref a
 | .ty n,u=>u=Value.type n
abbrev Vals:List V->List Value->Prop:=Paired RelV
theorem Vals.length(r:Vals xs us):xs.length=us.length:=Paired.length r
theorem Vals.get:∀{xs:List V}{us:List Value}{i:Nat}{x:V},Vals xs us->xs[i]?=some x->∃u,us[i]?=some u/\RelV x u
 | _,_,_,_,.nil,e=>by simp at e
 | _,_,0,_,.cons r _,e=>by simp at e;subst e;erw[0,r]
 | _,_,i+1,x,.cons _ t,e=>by
   let%[u,h1|h2]:=Vals.get (i:=i) (x:=x) t (by simpa using e);erw[u,by simpa using h1,h2]
theorem Vals.set{x:V}{u:Value}(r:RelV x u):∀{xs:List V}{us:List Value}(i:Nat),Vals xs us->Vals (xs.set i x) (us.set i u)
 | _,_,_,.nil=>.nil
 | _,_,0,.cons _ t=>.cons r t
 | _,_,i+1,.cons q t=>.cons q (Vals.set r i t)
theorem Vals.append:∀{xs ys:List V}{us ws:List Value},Vals xs us->Vals ys ws->Vals (xs++ys) (us++ws)
 | _,_,_,_,.nil,s=>s
 | _,_,_,_,.cons r t,s=>.cons r (Vals.append t s)
theorem Vals.take:∀{xs:List V}{us:List Value}(n:Nat),Vals xs us->Vals (xs.take n) (us.take n)
 | _,_,0,_=>.nil
 | _,_,_+1,.nil=>.nil
 | _,_,n+1,.cons r t=>.cons r (Vals.take n t)
theorem Vals.drop:∀{xs:List V}{us:List Value}(n:Nat),Vals xs us->Vals (xs.drop n) (us.drop n)
 | _,_,0,r=>r
 | _,_,_+1,.nil=>.nil
 | _,_,n+1,.cons _ t=>Vals.drop n t
def RelO:Option V->Option Value->Prop
 | some v,some u=>RelV v u
 | none,none=>True
 | _,_=>False
def KV{κ:Type}:List (κ×V)->List (κ×Value)->Prop:=Paired fun(p:κ×V)(q:κ×Value)=>p.1=q.1/\RelV p.2 q.2
def kV:Key->V
 | .inl i=>.int i
 | .inr x=>.str x
inductive HO where
 | lst (xs:List V)
 | tup (xs:List V)
 | dK (kvs:List (Key×V)) | dT (kvs:List (List Key×V))
 | set (S:Int->Bool) (n:Nat)
 | ins (C dx:Addr) (fs:List (Str×V))
 | own (x:Addr)
 | xd (fs:List (Str×V))
 | met (f x:Addr)
 | rng (lo hi:Int)
 | frz (o:Obj) (u:HO)
 | tbl (ps:Array Value)
 | ext (φ:Heap->Prop)
abbrev Hp:=Addr->Option HO
def upd(H:Hp)(a:Addr)(o:HO):Hp:=λb=>if b=a then some o else H b
theorem aC:upd H a o a=some o:=by unfold upd;rw[zE0 rfl]
theorem aq{a b:Addr}(h:b≠a):upd H a o b=H b:=by unfold upd;rw[zB0 h]
theorem aZ{H:Hp}{a b:Addr}{o u:HO}(h:H a=some o)(h':H b=some u)(d:o≠u):a≠b:=by
 intro e;subst e;rw[h]at h';exact d (zU0 h')
theorem aN{H:Hp}{a b:Addr}{o:HO}(h:H a=some o)(h':H b=none):a≠b:=by
 intro e;subst e;rw[h]at h';cases h'
section
variable (P:Program) (w:World)
def ObjOk(H:Hp)(h:Heap)(a:Addr):HO->Prop
 | .lst xs=>xs.length<=sizeLine/\∃(its:List Value) (n:Nat),Vals xs its/\h.get? a=some { cls:=.type "list",data:=.seq its.toArray n }
 | .tup xs=>xs.length<=sizeLine/\∃its:List Value,Vals xs its/\IsTup h a its.toArray/\∃o,h.get? a=some o/\o.dict=none
 | .dK kvs=>kvs.length<=sizeLine/\(a==sysModules)=false/\∃vs,KV kvs vs/\h.DictOf (aY P w) a vs
 | .dT kvs=>kvs.length<=sizeLine/\(a==sysModules)=false/\∃xs:List (List Key×Addr×Value),
  Paired (fun(p:List Key×V)(q:List Key×Addr×Value)=>p.1=q.1/\H q.2.1=some (.tup (p.1.map kV))/\RelV p.2 q.2.2) kvs xs/\
  ∃o es ep,h.get? a=some o/\o.ExactDict/\o.data=.dict es ep/\es.toList=xs.map (entryOfKey (tupleKind (aY P w)))/\(xs.map (·.1)).Nodup
 | .set S n=>h.SetOf (intKind P w) a S n
 | .ins C dx fs=>H dx=some (.own a)/\fs.length<=1000/\dx≠a/\h.get? a=some (PySem.W.instObj C dx)/\
  ∃mA,h.Ns1 dx mA/\(∀f,RelO (fs.lookup f) (mA f))/\PySem.Within mA (fs.map (·.1))
 | .own _=>∃o,h.get? a=some o
 | .xd fs=>∃mA,h.Ns1 a mA/\∀f,RelO (fs.lookup f) (mA f)
 | .rng lo hi=>∃t u v,h.get? a=some { cls:=.type "range",data:=.fields #[.int lo t,.int hi u,.int 1 v] }
 | .frz o u=>h.get? a=some o/\ObjOk H h a u
 | .tbl ps=>h.get? a=some { cls:=.none,data:=.fields ps }
 | .met f x=>h.get? a=some (PySem.W.methodObj (.ref f) (.ref x))
 | .ext φ=>φ h/\(∃o,h.get? a=some o)/\∀h1 h2:Heap,φ h1->(∀o,h1.get? a=some o->h2.get? a=some o)->φ h2
def HOk(H:Hp)(h:Heap):Prop:=∀a o,H a=some o->ObjOk P w H h a o
end
section
variable {P:Program} {w:World} {H H':Hp} {h h':Heap} {a:Addr} {o:HO}
theorem ObjOk.lt(x:ObjOk P w H h a o):a<h.objs.size:=by
 cases o with
 | lst xs=>erw[_,_,_,_,e]at x;exact zL0 e
 | tup xs=>erw[_,_,_,p,_]at x;exact p.lt
 | dK kvs=>erw[_,_,_,_,o,_,_,e,_]at x;exact zL0 e
 | dT kvs=>erw[_,_,_,_,o,_,_,e,_]at x;exact zL0 e
 | set S n=>erw[o,_,_,_,e,_]at x;exact zL0 e
 | ins C dx fs=>erw[_,_,_,e,_]at x;exact zL0 e
 | own y=>erw[_,e]at x;exact zL0 e
 | xd fs=>erw[_,%[_,_,_,e|_],_]at x;exact zL0 e
 | rng lo hi=>erw[_,_,_,e]at x;exact zL0 e
 | frz ob u=>erw[e,_]at x;exact zL0 e
 | tbl ps=>exact zL0 (show h.get? a=some _ from x)
 | met f y=>exact zL0 (show h.get? a=some _ from x)
 | ext φ=>erw[_,%[_|e],_]at x;exact zL0 e
theorem Paired.mapP{α β:Type}{F G:α->β->Prop}:∀{l₁:List α}{l₂:List β},Paired F l₁ l₂->(∀a b,F a b->G a b)->Paired G l₁ l₂
 | _,_,.nil,_=>.nil
 | _,_,.cons r t,f=>.cons (f _ _ r) (Paired.mapP t f)
theorem ObjOk.stay(x:ObjOk P w H h a o)(k:∀b u,(b=a∨H b=some (.own a))->h.get? b=some u->h'.get? b=some u)
 (ho:∀b,H b=some (.own a)->H' b=some (.own a)) (ht:∀b xs,H b=some (.tup xs)->H' b=some (.tup xs)):ObjOk P w H' h' a o:=by
 induction o with
 | lst xs=>erw[z,its,n,r,e]at x;erw[z,its,n,r,k _ _ (.inl rfl) e]
 | tup xs=>erw[z,its,r,%[ob,e|c],od,e2,d]at x;erw[z,its,r,%[ob,k _ _ (.inl rfl) e|c],od,k _ _ (.inl rfl) e2,d]
 | dK kvs=>erw[z,y,vs,r,ob,es,ep,e,c]at x;erw[z,y,vs,r,ob,es,ep,k _ _ (.inl rfl) e,c]
 | dT kvs=>
   erw[z,y,xs,r,ob,es,ep,e,c]at x;erw[z,y,xs,Paired.mapP r λp q z=>%[z.1,ht _ _ z.2.1|z.2.2],ob,es,ep,k _ _ (.inl rfl) e,c]
 | set S n=>erw[ob,es,ep,t,e,c]at x;erw[ob,es,ep,t,k _ _ (.inl rfl) e,c]
 | ins C dx fs=>
   erw[d,z,ne,e,mA,%[od,es,ep,e2|c],r]at x;erw[ho _ d,z,ne,k _ _ (.inl rfl) e,mA,%[od,es,ep,k _ _ (.inr d) e2|c],r]
 | own y=>erw[ob,e]at x;erw[ob,k _ _ (.inl rfl) e]
 | xd fs=>erw[mA,%[od,es,ep,e|c],r]at x;erw[mA,%[od,es,ep,k _ _ (.inl rfl) e|c],r]
 | rng lo hi=>erw[t,u,v,e]at x;erw[t,u,v,k _ _ (.inl rfl) e]
 | frz ob u ih=>erw[e,q]at x;erw[k _ _ (.inl rfl) e,ih q]
 | tbl ps=>
   have e:h.get? a=some { cls:=.none,data:=.fields ps }:=x;show h'.get? a=some { cls:=.none,data:=.fields ps };exact k a _ (.inl rfl) e
 | met f y=>
   have e:h.get? a=some (PySem.W.methodObj (.ref f) (.ref y)):=x;show h'.get? a=some (PySem.W.methodObj (.ref f) (.ref y));exact k a _ (.inl rfl) e
 | ext φ=>erw[p,%[o|e],st]at x;erw[st _ _ p λo q=>k _ _ (.inl rfl) q,%[o|k _ _ (.inl rfl) e],st]
theorem HOk.lt(x:HOk P w H h)(e:H a=some o):a<h.objs.size:=(x a o e).lt
theorem HOk.fresh(x:HOk P w H h)(e:h.objs.size<=a):H a=none:=by
 cases q:H a with
 | none=>rfl
 | some u=>exact absurd (qM0 (x.lt q) e) (qU0 _)
theorem HOk.kept(x:HOk P w H h)(k:∀b u,h.get? b=some u->h'.get? b=some u):HOk P w H h':=λa o e=>
 (x a o e).stay (λb u _ q=>k b u q) (λ_ q=>q) λ_ _ q=>q
theorem HOk.laid(x:HOk P w H h)(k:∀b u,h.get? b=some u->h'.get? b=some u)(hp:h.objs.size<=a)(new:ObjOk P w (upd H a o) h' a o):HOk P w (upd H a o) h':=λb u e=>by
 have hn:=x.fresh hp
 by_cases hb:b=a
 . subst hb;rw[aC]at e;cases e;exact new
 . rw[aq hb]at e;exact(x b u e).stay (λc v _ q=>k c v q) (λc q=>by rw[aq (aN q hn)];exact q) λc xs q=>by rw[aq (aN q hn)];exact q
end
def Rd(H:Hp)(a:Addr)(u:HO):Prop:=H a=some u∨∃o,H a=some (.frz o u)
theorem Rd.ok{P:Program}{w:World}{h:Heap}(r:Rd H a u)(x:HOk P w H h):ObjOk P w H h a u:=by
 rcases r with r | ⟨o,r⟩
 . exact x a u r
 . let%[_|q]:=x a _ r;exact q
def Mut:Option HO->Prop
 | some (.lst _)=>True
 | some (.dK _)=>True
 | some (.dT _)=>True
 | some (.set _ _)=>True
 | some (.ins _ _ _)=>True
 | some (.ext _)=>True
 | _=>False
section
variable {P:Program} {w:World} {H:Hp} {h h':Heap} {x e:Addr} {o':HO}
theorem HOk.write(ok:HOk P w H h)(mu:Mut (H x))(he:e=x∨H e=some (.own x))(k:∀b u,b≠e->h.get? b=some u->h'.get? b=some u)(heo:∃u,h'.get? e=some u)
 (new:ObjOk P w (upd H x o') h' x o'):HOk P w (upd H x o') h':=λb u q=>by
 have nown:∀c y,H c=some (.own y)->c≠x:=λc y r z=>by subst z;rw[r]at mu;exact mu
 have ntup:∀c xs,H c=some (.tup xs)->c≠x:=λc xs r z=>by subst z;rw[r]at mu;exact mu
 by_cases hb:b=x
 . subst hb;rw[aC]at q;cases q;exact new
 . rw [aq hb]at q
   by_cases hbe:b=e
   . have q':H b=some (.own x):=by
      rcases he with z | z
      . exact absurd (hbe.trans z) hb
      . rw[hbe];exact z
     rw[q]at q';cases q';erw[v,hv]at heo;erw[v,by rw[hbe];exact hv]
   . refine (ok b u q).stay (λc v hc r=>k c v ?_ r) (λc r=>by rw[aq (nown c b r)];exact r) λc xs r=>by rw[aq (ntup c xs r)];exact r
     rcases hc with rfl | hc
     . exact hbe
     . rintro rfl;rcases he with z | z
       . exact nown c b hc z
       . rw[hc]at z;cases z;exact hb rfl
end
structure Un(fs ex:List Addr)(H H':Hp)(h h':Heap):Prop where
 keep:∀b o,h.get? b=some o->H b=none->b∉fs->b∉ex->h'.get? b=some o
 slot:∀b o,h.get? b=some o->H b=none->b∈fs->b∉ex->∃sl,h'.get? b=some { o with slots:=sl }
 free:∀b o,h.get? b=some o->H b=none->b∉ex->H' b=none
 there:∀b o,h.get? b=some o->b∉ex->∃o',h'.get? b=some o'
 tups:∀b xs,H b=some (.tup xs)->H' b=some (.tup xs)
 frzs:∀b o u,H b=some (.frz o u)->H' b=some (.frz o u)
 tbls:∀b ps,H b=some (.tbl ps)->∃more,H' b=some (.tbl (ps++more))
section
variable {fs fs' ex ex':List Addr} {H H1 H2:Hp} {h h1 h2 h':Heap} {a x e:Addr} {o:HO}
theorem Un.any(u:Un fs ex H H1 h h1){b:Addr}{ob:Obj}(q:h.get? b=some ob)(n:H b=none)(hx:b∉ex):∃sl,h1.get? b=some { ob with slots:=sl }:=by
 by_cases hb:b∈fs
 . exact u.slot b ob q n hb hx
 . erw[ob.slots,u.keep b ob q n hb hx]
theorem Un.kept(k:∀b u,h.get? b=some u->h'.get? b=some u):Un fs ex H H h h':=
 %[λb ob q _ _ _=>k b ob q,λb ob q _ _ _=>%[ob.slots|k b ob q],λ_ _ _ n _=>n,λb ob q _=>%[ob|k b ob q],λ_ _ q=>q,λ_ _ _ q=>q|λ_ ps q=>%[#[]|by rw[q];simp]]
theorem Un.refl:Un fs ex H H h h:=Un.kept λ_ _ q=>q
theorem Un.laid(k:∀b u,h.get? b=some u->h'.get? b=some u)(hp:h.objs.size<=a)(hn:H a=none):Un fs ex H (upd H a o) h h' where
 keep:=λb u q _ _ _=>k b u q
 slot:=λb u q _ _ _=>%[u.slots|k b u q]
 free:=λb u q n _=>by rw[aq (zS0 (qM0 (zL0 q) hp))];exact n
 there:=λb u q _=>%[u|k b u q]
 tups:=λb xs q=>by rw[aq (aN q hn)];exact q
 frzs:=λb u xs q=>by rw[aq (aN q hn)];exact q
 tbls:=λb ps q=>%[#[]|by rw[aq (aN q hn),q];simp]
theorem Un.write(mu:Mut (H x))(he:e=x∨H e=some (.own x))(k:∀b u,b≠e->h.get? b=some u->h'.get? b=some u)(heo:∃u,h'.get? e=some u):Un fs ex H (upd H x o) h h':=by
 have hx:∀b,H b=none->b≠x:=λb n z=>by subst z;rw[n]at mu;exact mu
 have hb:∀b,H b=none->b≠e:=λb n z=>by
  subst z;rcases he with r | r
  . exact hx b n r
  . rw[n]at r;cases r
 have hm:∀b u,H b=some u->¬ Mut (some u)->b≠x:=λb u q nm z=>by subst z;rw[q]at mu;exact nm mu
 erw[λb u q n _ _=>k b u (hb b n) q,λb u q n _ _=>%[u.slots|k b u (hb b n) q],λb u q n _=>by rw[aq (hx b n)];exact n,λb u q _=>?_,λb xs q=>by rw[aq (hm b _ q λz=>z)];exact q,λb u xs q=>by rw[aq (hm b _ q λz=>z)];exact q,λb ps q=>%[#[]|by rw[aq (hm b _ q λz=>z),q];simp]]
 by_cases hbe:b=e
 . subst hbe;exact heo
 . erw[u,k b u hbe q]
end
def trk(h:Heap)(H:Hp):List Addr:=(List.range h.objs.size).filter λa=>(H a).isSome
def rD(h:Heap)(H:Hp):Heap:=PySem.W.hideAll h (trk h H)
theorem yh(h:Heap)(H:Hp):(rD h H).objs.size=h.objs.size:=PySem.W.hideAll_size _ _
theorem AL{h:Heap}{H:Hp}{b:Addr}{o:Obj}(e:h.get? b=some o)(n:H b=none):(rD h H).get? b=some o:=
 PySem.W.hideAll_get _ e λhm=>by
  have q:(H b).isSome=true:=(List.mem_filter.mp hm).2;rw[n]at q;simp at q
theorem BZ{b:Addr}{o:Obj}(e:(rD h H).get? b=some o):h.get? b=some o/\H b=none:=by
 have e':h.get? b=some o:=PySem.W.of_hideAll (trk h H) e;erw[e',6];cases q:H b with
 | none=>rfl
 | some x=>
   have hm:b∈trk h H:=List.mem_filter.mpr %[List.mem_range.mpr (zL0 e')|by simp [q]];have z:(rD h H).get? b=none:=PySem.W.hideAll_none (trk h H) hm;rw[z]at e;cases e
structure Mod(K:W.Frag)(mg:Str->Option Value)(base:Heap):Prop where
 kin:K.In base
 glob:base.Ns mainGlobals mg
 blt:∃mb,base.Ns builtinsNs mb/\∀x:Str,x≠"__name__" -> mb x=bootBuiltins x
 nolimit:base.NoLimit
structure Cx where
 prog:Program
 w:World
 K:W.Frag
 mg:Str->Option Value
 base:Heap
 A:Around
 N:List Str
 s₀:Shared
 H₀:Hp
 env:Env
 outer:List Env
 stack:List Env
 ex:List Addr
 fn:Str->Bool
 calm:Bool
 pn:List (Addr×Obj)
 xe:Value->Shared->Prop
def frs(l:List Env):List Addr:=l.filterMap (·.frame)
abbrev Cx.fs(X:Cx):List Addr:=frs X.outer
def Vis(sc:Scope)(x:Str):Prop:=sc.names.lookup x=some .local∨sc.names.lookup x=some .cell∨sc.names.lookup x=some .free
def Loc(sc:Scope)(x:Str):Prop:=sc.names.lookup x=some .local∨sc.names.lookup x=some .cell
def Look(env:Env)(h:Heap)(m:Str->Option Value)(x:Str)(u:Value):Prop:=
 (env.kindOf x=some .local/\m x=some u)∨((env.kindOf x=some .cell∨env.kindOf x=some .free)/\∃c,env.cells.lookup x=some c/\h.IsCell c (some u))
structure Cx.Ok(X:Cx):Prop where
 mod:Mod X.K X.mg X.base
 kind:X.env.scope.kind=.function
 glob:X.env.globals=mainGlobals
 blt:X.env.builtins=builtinsNs
 above:X.s₀.heap.objs.size<=X.env.locals
 inj:∀x y c,X.env.cells.lookup x=some c->X.env.cells.lookup y=some c->x=y
 has:∀x,(X.env.kindOf x=some .cell∨X.env.kindOf x=some .free)->∃c,X.env.cells.lookup x=some c
 cab:∀x c,X.fn x=true->X.env.cells.lookup x=some c->X.s₀.heap.objs.size<=c
 hd:X.calm=true->X.A.handled=none
 frames:X.A.frames=some X.stack
 stk:X.stack=X.outer∨(X.stack=X.env::X.outer/\X.env.frame=some X.env.locals)
 exf:∀b∈X.ex,b≠X.env.locals/\∀x c,X.env.cells.lookup x=some c->c≠b
 bs:∀b o,X.base.get? b=some o->X.s₀.heap.get? b=some o/\X.H₀ b=none
 bsz:X.base.objs.size<=X.s₀.heap.objs.size
 noex:∀b o,X.base.get? b=some o->b∉X.ex
 exfs:∀b∈X.ex,b∉X.fs
 funs:X.s₀.heap.FunFrames X.base X.outer
 frf:∀b∈X.fs,X.H₀ b=none
structure Inv(X:Cx)(pins:List (Addr×Obj))(σ:List (Option V))(H:Hp)(s:Shared):Prop where
 ok:X.Ok
 os:s.os=X.s₀.os
 bare:AllBare s.gens
 base:Un X.fs X.ex X.H₀ H X.s₀.heap s.heap
 loc:∃m,s.heap.Ns X.env.locals m/\∀(i:Nat)(x:Str)(v:V),X.N[i]?=some x->σ[i]?=some (some v)->Vis X.env.scope x->∃u,RelV v u/\Look X.env s.heap m x u
 cell:∀x c,X.env.cells.lookup x=some c->∃v,s.heap.IsCell c v
 free:H X.env.locals=none
 freeC:∀x c,X.env.cells.lookup x=some c->H c=none
 pin:∀p∈X.pn++pins,s.heap.get? p.1=some p.2/\H p.1=none/\p.1≠X.env.locals/\p.1∉X.fs/\∀v,p.2.data≠.cell v
 hok:HOk X.prog X.w H s.heap
 len:σ.length=X.N.length
section
variable {X:Cx} {pins:List (Addr×Obj)} {σ:List (Option V)} {H H':Hp} {s:Shared} {h':Heap}
theorem Cx.Ok.nofr(ok:X.Ok){b:Addr}{o:Obj}(e:X.base.get? b=some o):b∉X.fs:=λhb=>by
 have:=(ok.funs.mem hb).1
 rw[e]at this;cases this
theorem Inv.bs(I:Inv X pins σ H s):∀b o,X.base.get? b=some o->s.heap.get? b=some o/\H b=none:=λb o e=>
 %[I.base.keep b o (I.ok.bs b o e).1 (I.ok.bs b o e).2 (I.ok.nofr e) (I.ok.noex b o e)|I.base.free b o (I.ok.bs b o e).1 (I.ok.bs b o e).2 (I.ok.noex b o e)]
theorem Inv.bk(I:Inv X pins σ H s):∀b o,X.base.get? b=some o->s.heap.get? b=some o:=λb o e=>(I.bs b o e).1
theorem Inv.mod(I:Inv X pins σ H s):Mod X.K X.mg X.base:=I.ok.mod
theorem Inv.kIn(I:Inv X pins σ H s):X.K.In s.heap:=I.ok.mod.kin.keeps I.bk
theorem Inv.lt(I:Inv X pins σ H s):X.env.locals<s.heap.objs.size:=let⟨_,hn,_⟩:=I.loc;hn.lt
theorem Inv.sz(I:Inv X pins σ H s):X.s₀.heap.objs.size<=s.heap.objs.size:=zQ0 I.ok.above (Nat.le_of_lt I.lt)
theorem Inv.nofs(I:Inv X pins σ H s){a:Addr}(h:s.heap.objs.size<=a):a∉X.fs:=λhb=>by
 let%[_,o,ho|_]:=I.ok.funs.mem hb;exact absurd (qM0 (zL0 ho) (zQ0 I.sz h)) (qU0 _)
theorem Inv.cne(I:Inv X pins σ H s):∀x c,X.env.cells.lookup x=some c->c≠X.env.locals:=λx c e z=>by
 let%[v,o,ho|hd]:=I.cell x c e;erw[m,%[o',es,ep,ho',hd'|_],_]at I.loc;rw[z,ho']at ho;cases ho;rw[hd']at hd;cases hd
theorem Inv.funs(I:Inv X pins σ H s):s.heap.FunFrames X.base X.outer:=by
 have all:∀(l:List Env),(∀b∈frs l,b∈X.fs)->X.s₀.heap.FunFrames X.base l->s.heap.FunFrames X.base l:=by
  intro l
  induction l with
  | nil=>intro _ _;trivial
  | cons env r ih=>
    intro hs hl;erw[hk,%[L,o,hf,hn,ho|hd],hr]at hl;have hL:L∈X.fs:=hs L (by unfold frs;rw[List.filterMap_cons,hf];exact zY0);let%[sl|e]:=I.base.slot L o ho (I.ok.frf L hL) hL λz=>I.ok.exfs L z hL
    erw[hk,%[L,_,hf,hn,e|hd],ih (λb hb=>hs b (by unfold frs;rw[List.filterMap_cons,hf];exact qG0 _ hb)) hr]
 exact all X.outer (λ_ hb=>hb) I.ok.funs
theorem Inv.stack(I:Inv X pins σ H s):s.heap.FunFrames X.base X.stack:=by
 rcases I.ok.stk with e | ⟨e,hf⟩
 . rw[e];exact I.funs
 . rw[e];erw[m,hn,_]at I.loc;refine .cons (by rw[I.ok.kind];decide) hf hn ?_ I.funs;exact Heap.get?_none_of_le (zQ0 I.ok.bsz I.ok.above)
theorem Inv.stkSub(I:Inv X pins σ H s):∀b∈frs X.stack,b∈X.env.locals::X.fs:=λb hb=>by
 rcases I.ok.stk with e | ⟨e,hf⟩
 . rw[e]at hb;exact qG0 _ hb
 . rw[e]at hb;unfold frs at hb;rw[List.filterMap_cons,hf]at hb;exact hb
theorem Inv.stkFree(I:Inv X pins σ H s):∀b∈frs X.stack,H b=none:=λb hb=>by
 rcases zV0 (I.stkSub b hb)with e | hb
 . rw[e];exact I.free
 . let%[_,o,ho|_]:=I.ok.funs.mem hb;exact I.base.free b o ho (I.ok.frf b hb) λz=>I.ok.exfs b z hb
theorem Inv.step{g':Array GenState}{t':Nat}{d':Drawn}{ch:List Addr}(I:Inv X pins σ H s)
 (hch:∀b∈ch,(b∈X.ex∨X.s₀.heap.objs.size<=b)/\b≠X.env.locals/\(∀x c,X.env.cells.lookup x=some c->c≠b)/\∀p∈X.pn++pins,p.1≠b)
 (keep:∀b o,b≠X.env.locals->b∉X.fs->b∉ch->s.heap.get? b=some o->H b=none->h'.get? b=some o)
 (slot:∀b o,b≠X.env.locals->b∈X.fs->b∉ch->s.heap.get? b=some o->H b=none->∃sl,h'.get? b=some { o with slots:=sl }) (free:∀b o,b∉ch->s.heap.get? b=some o->H b=none->H' b=none)
 (there:∀b o,b∉ch->s.heap.get? b=some o->∃o',h'.get? b=some o')
 (tups:∀b xs,H b=some (.tup xs)->H' b=some (.tup xs)) (frzs:∀b o u,H b=some (.frz o u)->H' b=some (.frz o u)) (tbls:∀b ps,H b=some (.tbl ps)->∃more,H' b=some (.tbl (ps++more)))
 (ns:∀m,s.heap.Ns X.env.locals m->h'.Ns X.env.locals m) (hok:HOk X.prog X.w H' h') (hg:AllBare g') :
 Inv X pins σ H' { s with heap:=h',gens:=g',drawn:=d',toks:=t' }:=by
 have neL:∀b o,X.s₀.heap.get? b=some o->b≠X.env.locals:=λb o e=>zS0 (qM0 (zL0 e) I.ok.above)
 have neC:∀b o,X.s₀.heap.get? b=some o->b∉X.ex->b∉ch:=λb o e hx hb=>by
  rcases(hch b hb).1 with z | z
  . exact hx z
  . exact absurd (qM0 (zL0 e) z) (qU0 _)
 have cellK:∀x c,X.env.cells.lookup x=some c->∀v,s.heap.IsCell c v->h'.IsCell c v:=λx c e v ⟨o,ho,hd⟩=>by
  have nch:c∉ch:=λz=>(hch c z).2.2.1 x c e rfl
  by_cases hc:c∈X.fs
  . let%[sl|q]:=slot c o (I.cne x c e) hc nch ho (I.freeC x c e);erw[_,q,hd]
  . erw[o,keep c o (I.cne x c e) hc nch ho (I.freeC x c e),hd]
 erw[I.ok,I.os,hg,%[λb o e n hb hx=>?_,λb o e n hb hx=>?_,λb o e n hx=>?_,λb o e hx=>?_,λb xs e=>tups b xs (I.base.tups b xs e),λb o xs e=>frzs b o xs (I.base.frzs b o xs e)|λb ps e=>?_],6,λx c e=>?_,6,λx c e=>?_,λp hp=>?_,hok,I.len]
 . exact keep b o (neL b o e) hb (neC b o e hx) (I.base.keep b o e n hb hx) (I.base.free b o e n hx)
 . let%[sl|e1]:=I.base.slot b o e n hb hx;let%[sl'|e2]:=slot b _ (neL b o e) hb (neC b o e hx) e1 (I.base.free b o e n hx);erw[sl',e2]
 . let%[o'|e1]:=I.base.there b o e hx;exact free b o' (neC b o e hx) e1 (I.base.free b o e n hx)
 . let%[o'|e1]:=I.base.there b o e hx;exact there b o' (neC b o e hx) e1
 . let%[m1|e1]:=I.base.tbls b ps e;let%[m2|e2]:=tbls b _ e1;erw[m1++m2,by rw[e2,Array.append_assoc]]
 . erw[m,hn,hl]at I.loc;erw[m,ns m hn,λi x v e1 e2 e3=>?_];let%[u,r|l]:=hl i x v e1 e2 e3;erw[u,r,6];rcases l with l | ⟨k,c,e,z⟩
   . exact .inl l
   . exact .inr %[k,c,e|cellK x c e _ z]
 . let%[v|z]:=I.cell x c e;erw[v,cellK x c e v z]
 . erw[m,%[o,_,_,ho|_],_]at I.loc;exact free _ o (λz=>(hch _ z).2.1 rfl) ho I.free
 . let%[v,o,ho|hd]:=I.cell x c e;exact free c o (λz=>(hch c z).2.2.1 x c e rfl) ho (I.freeC x c e)
 . let%[e,n,ne,nf|d]:=I.pin p hp;have nch:p.1∉ch:=λz=>(hch p.1 z).2.2.2 p hp rfl
   erw[keep p.1 p.2 ne nf nch e n,free p.1 p.2 nch e n,ne,nf,d]
theorem Inv.un{t':Nat}(I:Inv X pins σ H s)(u:Un X.fs [] H H' s.heap h')(hok:HOk X.prog X.w H' h'):Inv X pins σ H' { s with heap:=h',toks:=t' }:=by
 let%[m,%[o,es,ep,ho|r]|_]:=id I.loc;let%[sl|hL]:=u.any ho I.free (by simp);exact I.step (g':=s.gens) (d':=s.drawn) (ch:=[]) (λ_ z=>nomatch z) (λb o _ hb _ e n=>u.keep b o e n hb (by simp)) (λb o _ hb _ e n=>u.slot b o e n hb (by simp)) (λb o _ e n=>u.free b o e n (by simp)) (λb o _ e=>u.there b o e (by simp)) u.tups u.frzs u.tbls (λm' hm=>by
  erw[o',es',ep',ho',r']at hm;rw[ho]at ho';cases ho';erw[_,es',ep',hL,r']) hok I.bare
theorem Inv.call{g':Array GenState}{t':Nat}{d':Drawn}{ch:List Addr}(I:Inv X pins σ H s)(u:Un (frs X.stack) ch H H' s.heap h')(hok:HOk X.prog X.w H' h')(hg:AllBare g')
 (hch:∀b∈ch,(b∈X.ex∨X.s₀.heap.objs.size<=b)/\b≠X.env.locals/\(∀x c,X.env.cells.lookup x=some c->c≠b)/\∀p∈X.pn++pins,p.1≠b) :
 Inv X pins σ H' { s with heap:=h',gens:=g',drawn:=d',toks:=t' }:=by
 let%[m,%[o,es,ep,ho|r]|_]:=id I.loc;let%[sl|hL]:=u.any ho I.free λz=>(hch _ z).2.1 rfl
 exact I.step (ch:=ch) hch (λb o hL hb hc e n=>u.keep b o e n (λz=>(zV0 (I.stkSub b z)).elim hL hb) hc) (λb o _ _ hc e n=>u.any e n hc) (λb o hc e n=>u.free b o e n hc) (λb o hc e=>u.there b o e hc) u.tups u.frzs u.tbls (λm' hm=>by
  erw[o',es',ep',ho',r']at hm;rw[ho]at ho';cases ho';erw[_,es',ep',hL,r']) hok hg
theorem Inv.turned{t':Nat}{it:Addr}(I:Inv X pins σ H s)(k:∀b o,b≠it->s.heap.get? b=some o->h'.get? b=some o)(hn:H it=none)(hL:it≠X.env.locals)
 (h1:it∈X.ex∨X.s₀.heap.objs.size<=it) (h2:∀x c,X.env.cells.lookup x=some c->c≠it) (h3:∀p∈X.pn++pins,p.1≠it):Inv X pins σ H { s with heap:=h',toks:=t' }:=by
 have nit:∀b u,H b=some u->b≠it:=λb u e z=>by rw[z,hn]at e;cases e
 refine I.step (g':=s.gens) (d':=s.drawn) (ch:=[it]) (λb hb=>?_) (λb o _ _ hc e _=>k b o (λz=>hc (by simp [z])) e) (λb o _ _ hc e _=>%[o.slots|k b o (λz=>hc (by simp [z])) e]) (λ_ _ _ _ n=>n)
  (λb o hc e=>%[o|k b o (λz=>hc (by simp [z])) e]) (λ_ _ e=>e) (λ_ _ _ e=>e) (λb ps e=>%[#[]|by rw[e];simp]) (λm hm=>?_) (λb u e=>?_) I.bare
 . have e:b=it:=by simpa using hb
   subst e;erw[h1,hL,h2,h3]
 . erw[o,es,ep,ho,r]at hm;erw[o,es,ep,k _ o (Ne.symm hL) ho,r]
 . refine (I.hok b u e).stay (λc v hc q=>k c v ?_ q) (λ_ q=>q) λ_ _ q=>q
   rcases hc with z | z
   . rw[z];exact nit b u e
   . exact nit c _ z
theorem Inv.tok(I:Inv X pins σ H s)(t:Nat):Inv X pins σ H { s with toks:=t }:=I.un (h':=s.heap) (t':=t) Un.refl I.hok
theorem Inv.kept{t':Nat}(I:Inv X pins σ H s)(k:∀b u,s.heap.get? b=some u->h'.get? b=some u):Inv X pins σ H { s with heap:=h',toks:=t' }:=I.un (Un.kept k) (I.hok.kept k)
theorem Inv.laid{a:Addr}{t':Nat}(I:Inv X pins σ H s)(k:∀b u,s.heap.get? b=some u->h'.get? b=some u)(hp:s.heap.objs.size<=a)(new:ObjOk X.prog X.w (upd H a o) h' a o) :
 Inv X pins σ (upd H a o) { s with heap:=h',toks:=t' }:=I.un (Un.laid k hp (I.hok.fresh hp)) (I.hok.laid k hp new)
theorem Inv.write{x e:Addr}{t':Nat}(I:Inv X pins σ H s)(mu:Mut (H x))(he:e=x∨H e=some (.own x))(k:∀b u,b≠e->s.heap.get? b=some u->h'.get? b=some u)(heo:∃u,h'.get? e=some u)
 (new:ObjOk X.prog X.w (upd H x o) h' x o):Inv X pins σ (upd H x o) { s with heap:=h',toks:=t' }:=I.un (Un.write mu he k heo) (I.hok.write mu he k heo new)
theorem Inv.pins_of{pins':List (Addr×Obj)}(I:Inv X pins σ H s)(h:∀p∈pins',s.heap.get? p.1=some p.2/\H p.1=none/\p.1≠X.env.locals/\p.1∉X.fs/\∀v,p.2.data≠.cell v):Inv X pins' σ H s:=
 %[I.ok,I.os,I.bare,I.base,I.loc,I.cell,I.free,I.freeC,λp hp=>(qD0 hp).elim (λz=>I.pin p (List.mem_append_left _ z)) (h p),I.hok|I.len]
theorem sK{N:List Str}(hN:N.Nodup){i j:Nat}{x:Str}(a:N[i]?=some x)(b:N[j]?=some x):i=j:=by
 let%[h1|e1]:=zX0 a;let%[h2|e2]:=zX0 b;exact(List.getElem_inj hN).mp (e1.trans e2.symm)
theorem pN{M:Model}{A:Around}{E:Value->Shared->Prop}{i:Nat}{x:Str}{Q:Unit->Shared->Prop}(I:Inv X pins σ H s)(hN:X.N.Nodup)(hi:X.N[i]?=some x)(hx:Loc X.env.scope x)(r:RelV v u)
 (h:∀s',Inv X pins (σ.set i (some v)) H s'->(∃a,Heap.SameBut a s.heap s'.heap/\(a=X.env.locals∨X.env.cells.lookup x=some a))->Q () s') (hf:X.fn x=true∨X.env.scope.names.lookup x=some .local:=by first | exact .inl rfl | exact .inr rfl | assumption):wpAny M A (storeName X.env x u) Q E s:=by
 let%[m,hn|hl]:=id I.loc;have hcls:(X.env.scope.kind==.class||(X.env.scope.kind==.module&&X.env.locals != X.env.globals))=false:=by rw[I.ok.kind];rfl
 have hiσ:i<σ.length:=by rw[I.len];exact(zX0 hi).1
 have cne:=I.cne;have tracked:∀{a:Addr}{h':Heap},(∃o,s.heap.get? a=some o/\H a=none)->Heap.SameBut a s.heap h'->HOk X.prog X.w H h':=fun{a h'} ha hs b ob e=>by
  erw[_,_,hfree]at ha;refine(I.hok b ob e).stay (λc w' hc q=>(hs.2 c ?_).trans q) (λ_ q=>q) λ_ _ q=>q
  rintro rfl;rcases hc with rfl | hc
  . rw[hfree]at e;cases e
  . rw[hfree]at hc;cases hc
 rcases hx with hk | hk
 . refine wpAny_storeName_local hk hn (λh' hn' hs=>?_) hcls;let%[oL,_,_,hoL|_]:=id hn;refine h _ %[I.ok,I.os,I.bare,%[λb o e n hb hx=>?_,λb o e n hb hx=>?_,I.base.free,λb o e hx=>?_,I.base.tups,I.base.frzs|I.base.tbls],%[_,hn'|λj y v' e1 e2 e3=>?_],λy c e=>?_,I.free,I.freeC,λp hp=>?_,tracked %[oL,hoL|I.free] hs|by simpa using I.len] ⟨_,hs,.inl rfl⟩
   . exact(hs.2 b (zS0 (qM0 (zL0 e) I.ok.above))).trans (I.base.keep b o e n hb hx)
   . let%[sl|e1]:=I.base.slot b o e n hb hx;erw[sl,(hs.2 b (zS0 (qM0 (zL0 e) I.ok.above))).trans e1]
   . let%[o'|e1]:=I.base.there b o e hx;erw[o',(hs.2 b (zS0 (qM0 (zL0 e) I.ok.above))).trans e1]
   . by_cases hj:j=i
     . subst hj;rw[hi]at e1;cases e1;rw[List.getElem?_set_self hiσ]at e2;cases e2;erw[u,r,.inl %[hk|by simp]]
     . rw [List.getElem?_set_ne (Ne.symm hj)]at e2;let%[u',r'|q]:=hl j y v' e1 e2 e3;erw[u',r',6];rcases q with⟨k,e⟩ | ⟨k,c,e,z⟩
       . refine .inl %[k|6]
         have:y≠x:=λe=>hj (sK hN e1 (e▸hi))
         simp [this,e]
       . exact .inr %[k,c,e|z.sameBut hs (cne y c e)]
   . let%[w'|z]:=I.cell y c e;erw[w',z.sameBut hs (cne y c e)]
   . let%[e,n,ne,nf|d]:=I.pin p hp;erw[(hs.2 p.1 ne).trans e,n,ne,nf,d]
 . have hfn:X.fn x=true:=by
    rcases hf with z | z
    . exact z
    . rw[z]at hk;cases hk
   let%[c|hc]:=I.ok.has x (.inl hk);let%[w'|z]:=I.cell x c hc;refine wpAny_storeName_cell I.ok.kind hk hc z (λh' hc' hs=>?_);let%[oc,hoc|hocd]:=id z;refine h { s with heap:=h' } ⟨I.ok,I.os,I.bare,⟨λb o e n hb hx=>?_,λb o e n hb hx=>?_,I.base.free,λb o e hx=>?_,I.base.tups,I.base.frzs,I.base.tbls⟩,%[m,hn.sameBut hs (Ne.symm (cne x c hc))|λj y v' e1 e2 e3=>?_],λy c' e=>?_,I.free,I.freeC,λp hp=>?_,tracked %[oc,hoc|I.freeC x c hc] hs,by simpa using I.len⟩ ⟨c,hs,.inr hc⟩
   . exact(hs.2 b (zS0 (qM0 (zL0 e) (I.ok.cab x c hfn hc)))).trans (I.base.keep b o e n hb hx)
   . let%[sl|e1]:=I.base.slot b o e n hb hx;erw[sl,(hs.2 b (zS0 (qM0 (zL0 e) (I.ok.cab x c hfn hc)))).trans e1]
   . let%[o'|e1]:=I.base.there b o e hx;erw[o',(hs.2 b (zS0 (qM0 (zL0 e) (I.ok.cab x c hfn hc)))).trans e1]
   . by_cases hj:j=i
     . subst hj;rw[hi]at e1;cases e1;rw[List.getElem?_set_self hiσ]at e2;cases e2;erw[u,r,.inr %[.inl hk,c,hc|hc']]
     . rw [List.getElem?_set_ne (Ne.symm hj)]at e2;let%[u',r'|q]:=hl j y v' e1 e2 e3;erw[u',r',6];rcases q with q | ⟨k,c',e,z'⟩
       . exact .inl q
       . refine .inr %[k,c',e|z'.sameBut hs ?_];rintro rfl;exact hj (sK hN e1 (I.ok.inj _ _ _ e hc▸hi))
   . by_cases hcc:c'=c
     . subst hcc;erw[_,hc']
     . let%[w2|z2]:=I.cell y c' e;erw[w2,z2.sameBut hs hcc]
   . let%[e,n,ne,nf|d]:=I.pin p hp;erw[(hs.2 p.1 ?_).trans e,n,ne,nf,d];intro q;rw[q,hoc]at e;have q':oc=p.2:=zU0 e;exact d w' (by rw[←q'];exact hocd)
theorem mL{M:Model}{A:Around}{E:Value->Shared->Prop}{i:Nat}{x:Str}{Q:Unit->Shared->Prop}(I:Inv X pins σ H s)(hN:X.N.Nodup)(hi:X.N[i]?=some x)(hx:Loc X.env.scope x)(r:RelV v u)
 (h:∀s',Inv X pins (σ.set i (some v)) H s'->Q () s') (hf:X.fn x=true∨X.env.scope.names.lookup x=some .local:=by first | exact .inl rfl | exact .inr rfl | assumption):wpAny M A (storeName X.env x u) Q E s:=
 pN I hN hi hx r (λs' I' _=>h s' I') hf
theorem Inv.call'{s':Shared}{ch:List Addr}(I:Inv X pins σ H s)(ho:s'.os=s.os)(u:Un (frs X.stack) ch H H' s.heap s'.heap)(hok:HOk X.prog X.w H' s'.heap)(hg:AllBare s'.gens)
 (hch:∀b∈ch,(b∈X.ex∨X.s₀.heap.objs.size<=b)/\b≠X.env.locals/\(∀x c,X.env.cells.lookup x=some c->c≠b)/\∀p∈X.pn++pins,p.1≠b):Inv X pins σ H' s':=by
 erw[h',g',d',t',o']at s';have e:o'=s.os:=ho;subst e;exact I.call (g':=g') (t':=t') (d':=d') u hok hg hch
end
abbrev XK:=Value->Option Addr->Hp->Prop
abbrev St:=List (Option V)
abbrev VK:=V->Hp->Prop
abbrev TE:=St->Hp->VK->Prop
abbrev TT:=St->Hp->(Bool->Hp->Prop)->Prop
abbrev TA:=St->Hp->(List V->Hp->Prop)->Prop
structure Ends where
 nx:St->Hp->Prop
 rt:VK
 bk:St->Hp->Prop:=λ_ _=>False
 ct:St->Hp->Prop:=λ_ _=>False
abbrev TS:=Ends->St->Hp->Prop
def EP(X:Cx)(pins:List (Addr×Obj))(σ:St)(Q:VK)(u:Value)(s':Shared):Prop:=∃v H',Inv X pins σ H' s'/\RelV v u/\Q v H'
def TP(X:Cx)(pins:List (Addr×Obj))(σ:St)(Q:Bool->Hp->Prop)(b:Bool)(s':Shared):Prop:=∃H',Inv X pins σ H' s'/\Q b H'
def AP(X:Cx)(pins:List (Addr×Obj))(σ:St)(Q:List V->Hp->Prop)(us:List Value)(s':Shared):Prop:=∃vs H',Inv X pins σ H' s'/\Vals vs us/\Q vs H'
def SP(X:Cx)(pins:List (Addr×Obj))(D:Ends)(f:Flow)(s':Shared):Prop:=
 match f with
 | .next=>∃ σ' H',Inv X pins σ' H' s'/\D.nx σ' H'
 | .brk=>∃ σ' H',Inv X pins σ' H' s'/\D.bk σ' H'
 | .cont=>∃ σ' H',Inv X pins σ' H' s'/\D.ct σ' H'
 | .ret u=>∃v σ' H',Inv X pins σ' H' s'/\RelV v u/\D.rt v H'
def PE(X:Cx)(e:Expr)(t:TE):Prop:=
 ∀(pins:List (Addr×Obj))(s:Shared)(σ:St)(H:Hp)(Q:VK),Inv X pins σ H s->t σ H Q->wpAny (model X.prog X.w) X.A (eval e X.env) (EP X pins σ Q) X.xe s
def PT(X:Cx)(e:Expr)(t:TT):Prop:=
 ∀(pins:List (Addr×Obj))(s:Shared)(σ:St)(H:Hp)(Q:Bool->Hp->Prop),Inv X pins σ H s->t σ H Q->wpAny (model X.prog X.w) X.A (isTrue e X.env (eval e X.env)) (TP X pins σ Q) X.xe s
def PW(X:Cx)(e:Expr)(t:TT):Prop:=
 ∀(whole:Sem Value)(pins:List (Addr×Obj))(s:Shared)(σ:St)(H:Hp)(Q:Bool->Hp->Prop),Inv X pins σ H s->t σ H Q->wpAny (model X.prog X.w) X.A (isTrue e X.env whole) (TP X pins σ Q) X.xe s
theorem PW.pt(h:PW X e t):PT X e t:=h _
def PA(X:Cx)(es:List Expr)(t:TA):Prop:=
 ∀(pos:Pos)(pins:List (Addr×Obj))(s:Shared)(σ:St)(H:Hp)(Q:List V->Hp->Prop),Inv X pins σ H s->t σ H Q->wpAny (model X.prog X.w) X.A (spliced (backTo pos (starEach es X.env))) (AP X pins σ Q) X.xe s
def PS(X:Cx)(st:Stmt)(t:TS):Prop:=
 ∀(pins:List (Addr×Obj))(s:Shared)(σ:St)(H:Hp)(D:Ends),Inv X pins σ H s->t D σ H->wpAny (model X.prog X.w) X.A (exec st X.env) (SP X pins D) X.xe s
def PSs(X:Cx)(st:List Stmt)(t:TS):Prop:=
 ∀(pins:List (Addr×Obj))(s:Shared)(σ:St)(H:Hp)(D:Ends),Inv X pins σ H s->t D σ H->wpAny (model X.prog X.w) X.A (execs st X.env) (SP X pins D) X.xe s
theorem thn{α:Type}{t:Sem α}{Q Q':α->Shared->Prop}{M:Model}{A:Around}{E:Value->Shared->Prop}{s:Shared}(h:wpAny M A t Q E s)(hQ:∀a s,Q a s->Q' a s):wpAny M A t Q' E s:=wpAny_mono h hQ λ_ _ x=>x
section
variable {X:Cx}
inductive tVar(i:Nat)(σ:St)(H:Hp)(Q:VK):Prop
 |mk:∀v,σ[i]?=some (some v)->Q v H->tVar i σ H Q
def tC(v:V):TE:=λ_ H Q=>Q v H
theorem DL {i:Nat} {x:Str} {pos:Pos} (hN:X.N[i]?=some x) (hv:Vis X.env.scope x) (hd:(x==("__debug__":Str))=false:=by decide) (hcd:(x==("__classdict__":Str))=false:=by decide):PE X (.Name x pos) (tVar i):=by
 intro pins s σ H Q I h;erw[v,e,h]at h;erw[m,hn,hl]at I.loc;let%[u,r|l]:=hl i x v hN e hv;have fin:EP X pins σ Q u s:=%[v,H,I,r|h]
 rcases l with⟨hk,hm⟩ | ⟨hk,c,hc,hcell⟩
 . exact wpAny_Name (wpAny_loadName_local I.ok.kind hk hn hm fin) hd
 . rcases hk with hk | hk
   . exact wpAny_Name (wpAny_loadName_cell I.ok.kind hk hc hcell fin) hd
   . exact wpAny_Name (wpAny_loadName_free I.ok.kind hk hc hcell fin hcd) hd
theorem ac{i j pos}:PE X (.Constant (.int i) j pos) (tC (.int i)):=λ_ _ _ H _ I h=>wpAny_Constant_int %[.int i,H,I.tok _,%[|0]|h]
theorem eV{b j pos}:PE X (.Constant (.bool b) j pos) (tC (.bl b)):=λ_ _ _ H _ I h=>Constant_bool %[.bl b,H,I,1|h]
theorem zT{j pos}:PE X (.Constant .none j pos) (tC .non):=λ_ _ _ H _ I h=>Constant_none %[.non,H,I,1|h]
theorem au{x j pos}:PE X (.Constant (.str x) j pos) (tC (.str x)):=λ_ _ _ H _ I h=>Calls.Constant_str %[.str x,H,I.tok _,%[|0]|h]
def Gl(X:Cx)(x:Str):Prop:=X.env.kindOf x=some .globalImplicit
theorem mv{E:Value->Shared->Prop}{σ:St}{u:Value}{pos:Pos}{Q:Value->Shared->Prop}(I:Inv X pins σ H s)(hg:Gl X x)(hm:X.mg x=some u)(h:Q u s)
 (hd:(x==("__debug__":Str))=false:=by decide):wpAny (model X.prog X.w) X.A (eval (.Name x pos) X.env) Q E s:=
 Calls.Name_function_global I.ok.kind hg (Calls.loadGlobal_global (by rw[I.ok.glob];exact I.mod.glob.keeps I.bk) hm h) hd
theorem fh{E:Value->Shared->Prop}{σ:St}{u:Value}{pos:Pos}{Q:Value->Shared->Prop}(I:Inv X pins σ H s)(hg:Gl X x)(hm:X.mg x=none)(hv:bootBuiltins x=some u)(h:Q u s)
 (hn:x≠"__name__":=by decide) (hd:(x==("__debug__":Str))=false:=by decide):wpAny (model X.prog X.w) X.A (eval (.Name x pos) X.env) Q E s:=by
 erw[mb,h1,h2]at I.mod.blt;exact Calls.Name_function_global I.ok.kind hg (Calls.loadGlobal_builtin (by rw[I.ok.glob];exact I.mod.glob.keeps I.bk) hm (by rw[I.ok.blt];exact h1.keeps I.bk) ((h2 x hn).trans hv) h) hd
theorem cE   {u:Value} {pos:Pos} (hg:Gl X x) (hm:X.mg x=some u) (r:RelV v u) (hd:(x==("__debug__":Str))=false:=by decide):PE X (.Name x pos) (tC v):=
 λ_ _ _ H _ I h=>mv I hg hm %[v,H,I,r|h] hd
theorem qQ   {u:Value} {pos:Pos} (hg:Gl X x) (hm:X.mg x=none) (hv:bootBuiltins x=some u) (r:RelV v u) (hn:x≠"__name__":=by decide) (hd:(x==("__debug__":Str))=false:=by decide):PE X (.Name x pos) (tC v):=
 λ_ _ _ H _ I h=>fh I hg hm hv %[v,H,I,r|h] hn hd
variable {a b:Expr} {ta tb:TE} {pos:Pos}
inductive ZtB(Q:(Bool->Hp->Prop))(x:V)(H1:Hp):Prop
 |mk:∀c,x=.bl c->Q c H1->ZtB Q x H1
def tB(t:TE):TT:=λσ H Q=>t σ H λx H1=>ZtB Q x H1
theorem dj(h:PE X e t)(he:∀whole,isTrue e X.env whole=(do let v ←whole;standAt e.pos;holding [v] (truthy v)):=by intro _;rfl):PT X e (tB t):=by
 intro pins s σ H Q I hw;refine isTrue_plain (thn (h pins s σ H _ I hw) λv s1 ⟨x,H1,I1,r1,q1⟩=>?_) (he _);erw[d,1,q]at q1;cases r1;exact wpAny_truthy_bool %[H1,I1|q]
variable {tA tB':TT} {rest:List Expr}
def tAnd(t u:TT):TT:=λσ H Q=>t σ H λc H1=>if c=true then u σ H1 Q else Q false H1
def tOr(t u:TT):TT:=λσ H Q=>t σ H λc H1=>if c=true then Q true H1 else u σ H1 Q
def tNot(t:TT):TT:=λσ H Q=>t σ H λc H1=>Q (!c) H1
theorem kt(ha:PT X a tA):PW X (.BoolOp .And [a] pos) tA:=by
 intro wh pins s σ H Q I h;refine isTrue_and (thn (ha pins s σ H Q I h) λc s1 e=>?_);cases c with
 | true=>exact isTrue_and_nil e
 | false=>exact e
theorem dA(ha:PT X a tA):PW X (.BoolOp .Or [a] pos) tA:=by
 intro wh pins s σ H Q I h;refine isTrue_or (thn (ha pins s σ H Q I h) λc s1 e=>?_);cases c with
 | false=>exact isTrue_or_nil e
 | true=>exact e
theorem lm(ha:PT X a tA)(hb:PW X (.BoolOp .And (b::rest) pos) tB'):PW X (.BoolOp .And (a::b::rest) pos) (tAnd tA tB'):=by
 intro wh pins s σ H Q I h;refine isTrue_and (thn (ha pins s σ H _ I h) λc s1 ⟨H1,I1,q1⟩=>?_);cases c with
 | true=>exact hb wh pins s1 σ H1 Q I1 q1
 | false=>erw[H1,I1,q1]
theorem eD(ha:PT X a tA)(hb:PW X (.BoolOp .Or (b::rest) pos) tB'):PW X (.BoolOp .Or (a::b::rest) pos) (tOr tA tB'):=by
 intro wh pins s σ H Q I h;refine isTrue_or (thn (ha pins s σ H _ I h) λc s1 ⟨H1,I1,q1⟩=>?_);cases c with
 | true=>erw[H1,I1,q1]
 | false=>exact hb wh pins s1 σ H1 Q I1 q1
theorem gN(ha:PT X a tA):PT X (.UnaryOp .Not a pos) (tNot tA):=by
 intro pins s σ H Q I h;exact isTrue_not (ha pins s σ H (λc H1=>Q (!c) H1) I h)
inductive ZtAndV(tb:TE)(σ:St)(Q:VK)(x:V)(H1:Hp):Prop
 |mk:∀c,x=.bl c->(if c=true then tb σ H1 Q else Q (.bl false) H1)->ZtAndV tb σ Q x H1
def tAndV(ta tb:TE):TE:=λσ H Q=>ta σ H λx H1=>ZtAndV tb σ Q x H1
inductive ZtOrV(tb:TE)(σ:St)(Q:VK)(x:V)(H1:Hp):Prop
 |mk:∀c,x=.bl c->(if c=true then Q (.bl true) H1 else tb σ H1 Q)->ZtOrV tb σ Q x H1
def tOrV(ta tb:TE):TE:=λσ H Q=>ta σ H λx H1=>ZtOrV tb σ Q x H1
inductive ZtNotV(Q:VK)(x:V)(H1:Hp):Prop
 |mk:∀c,x=.bl c->Q (.bl (!c)) H1->ZtNotV Q x H1
def tNotV(ta:TE):TE:=λσ H Q=>ta σ H λx H1=>ZtNotV Q x H1
theorem qP{op}(h:PE X a t):PE X (.BoolOp op [a] pos) t:=λpins s σ H Q I hw=>BoolOp_one (h pins s σ H Q I hw)
theorem uR(ha:PE X a ta)(hb:PE X (.BoolOp .And (b::rest) pos) tb):PE X (.BoolOp .And (a::b::rest) pos) (tAndV ta tb):=by
 intro pins s σ H Q I h;refine BoolOp_and (thn (ha pins s σ H _ I h) λv s1 ⟨x,H1,I1,r1,q1⟩=>?_);erw[c,1,q1]at q1;cases r1;refine wpAny_truthy_bool ?_;cases c with
 | true=>exact hb pins s1 σ H1 Q I1 q1
 | false=>erw[.bl false,H1,I1,1,q1]
theorem CY(ha:PE X a ta)(hb:PE X (.BoolOp .Or (b::rest) pos) tb):PE X (.BoolOp .Or (a::b::rest) pos) (tOrV ta tb):=by
 intro pins s σ H Q I h;refine BoolOp_or (thn (ha pins s σ H _ I h) λv s1 ⟨x,H1,I1,r1,q1⟩=>?_);erw[c,1,q1]at q1;cases r1;refine wpAny_truthy_bool ?_;cases c with
 | false=>exact hb pins s1 σ H1 Q I1 q1
 | true=>erw[.bl true,H1,I1,1,q1]
theorem uO(ha:PE X a ta):PE X (.UnaryOp .Not a pos) (tNotV ta):=by
 intro pins s σ H Q I h;refine UnaryOp_ (thn (ha pins s σ H _ I h) λv s1 ⟨x,H1,I1,r1,q1⟩=>?_);erw[c,1,q1]at q1;cases r1;exact not_of (wpAny_truthy_bool %[.bl (!c),H1,I1,1|q1])
def tIf(t:TT)(ta tb:TE):TE:=λσ H Q=>t σ H λc H1=>if c=true then ta σ H1 Q else tb σ H1 Q
theorem kE(hc:PT X c tA)(ha:PE X a ta)(hb:PE X b tb):PE X (.IfExp c a b pos) (tIf tA ta tb):=by
 intro pins s σ H Q I h;refine wpAny_IfExp (thn (hc pins s σ H _ I h) λd s1 ⟨H1,I1,q1⟩=>?_);cases d with
 | true=>exact ha pins s1 σ H1 Q I1 q1
 | false=>exact hb pins s1 σ H1 Q I1 q1
end
def SqL(K:W.Frag)(H:Hp)(a:Addr)(xs:List V):Prop:=
 Rd H a (.lst xs)∨
  ∃(o:Obj) (its:Array Value) (n:Nat),K.lookup a=some o/\o.cls=.type "list"/\o.dict=none/\o.data=.seq its n/\its.size<=sizeLine/\Vals xs its.toList
def SqT(K:W.Frag)(H:Hp)(a:Addr)(xs:List V):Prop:=
 Rd H a (.tup xs)∨
  ∃(o:Obj) (its:Array Value) (n:Nat),K.lookup a=some o/\o.cls=.type "tuple"/\o.data=.seq its n/\its.size<=sizeLine/\Vals xs its.toList
def absV:Value->Option V
 | .none=>some .non
 | .bool b=>some (.bl b)
 | .int i _=>some (.int i)
 | .str x _=>some (.str x)
 | .bytes b _=>some (.byt b)
 | .float b _=>some (.flt b)
 | .ref a=>some (.ref a)
 | .type n=>some (.ty n)
 | _=>none
theorem RelV.abs(r:RelV x u):absV u=some x:=by
 cases x with
 | non=>cases r;rfl
 | bl _=>cases r;rfl
 | int _=>erw[t,1]at r;rfl
 | str _=>erw[t,1]at r;rfl
 | byt _=>erw[t,1]at r;rfl
 | flt _=>erw[t,1]at r;rfl
 | ref _=>cases r;rfl
 | ty _=>cases r;rfl
theorem RelV.inj(r:RelV x u)(q:RelV y u):x=y:=zU0 (r.abs.symm.trans q.abs)
theorem Vals.inj:∀{xs ys:List V}{us:List Value},Vals xs us->Vals ys us->xs=ys
 | _,_,_,.nil,.nil=>rfl
 | _,_,_,.cons r t,.cons r' t'=>by rw[r.inj r',Vals.inj t t']
section
variable {X:Cx} {pins:List (Addr×Obj)} {σ:St} {H:Hp} {s:Shared} {a:Addr} {xs ys:List V}
theorem zF0{K:W.Frag}(h:H a=some (.lst xs)):SqL K H a xs:=.inl (.inl h)
abbrev SqL.of:=@zF0
theorem zD0{K:W.Frag}(h:H a=some (.tup xs)):SqT K H a xs:=.inl (.inl h)
abbrev SqT.of:=@zD0
theorem Inv.list(I:Inv X pins σ H s)(h:SqL X.K H a xs):∃its:List Value,Vals xs its/\PlainL s.heap a its.toArray/\xs.length<=sizeLine:=by
 rcases h with h | ⟨o,its,n,hk,hc,hd,hs,hz,r⟩
 . let%[z,its,n,r|e]:=h.ok I.hok;erw[its,r,%[_,n,e,1,1|1],z]
 . erw[its.toList,r,%[o,n,I.kIn a o hk,hc,hd|by simpa using hs],6];have e:=r.length;simp only[Array.length_toList]at e;omega
theorem Inv.tuple(I:Inv X pins σ H s)(h:SqT X.K H a xs):∃its:List Value,Vals xs its/\IsTup s.heap a its.toArray/\xs.length<=sizeLine:=by
 rcases h with h | ⟨o,its,n,hk,hc,hs,hz,r⟩
 . let%[z,its,r,p|_]:=h.ok I.hok;erw[its,r,p,z]
 . erw[its.toList,r,%[o,I.kIn a o hk,hc,n|by simpa using hs],6];have e:=r.length;simp only[Array.length_toList]at e;omega
theorem Inv.list_inj(I:Inv X pins σ H s)(h:SqL X.K H a xs)(h':SqL X.K H a ys):xs=ys:=by
 let%[its,r,%[o,n,e,_,_|d]|_]:=I.list h;let%[its',r',%[o',n',e',_,_|d']|_]:=I.list h';rw[e]at e';cases e';rw[d]at d';injection d' with d1 _
 have:its=its':=by simpa using congrArg Array.toList d1
 subst this;exact r.inj r'
theorem Inv.tuple_inj(I:Inv X pins σ H s)(h:SqT X.K H a xs)(h':SqT X.K H a ys):xs=ys:=by
 let%[its,r,%[o,e,_,n|d]|_]:=I.tuple h;let%[its',r',%[o',e',_,n'|d']|_]:=I.tuple h';rw[e]at e';cases e';rw[d]at d';injection d' with d1 _
 have:its=its':=by simpa using congrArg Array.toList d1
 subst this;exact r.inj r'
end
abbrev Cx.wish(X:Cx)(E:Value->Shared->Prop):Cx:={ X with xe:=E }
abbrev Cx.nox(X:Cx):Cx:=X.wish λ_ _=>False
theorem Cx.Ok.wish{X:Cx}(ok:X.Ok)(E:Value->Shared->Prop):(X.wish E).Ok:=
 %[ok.mod,ok.kind,ok.glob,ok.blt,ok.above,ok.inj,ok.has,ok.cab,ok.hd,ok.frames,ok.stk,ok.exf,ok.bs,ok.bsz,ok.noex,ok.exfs,ok.funs|ok.frf]
theorem Cx.Ok.unwish{X:Cx}{E:Value->Shared->Prop}(ok:(X.wish E).Ok):X.Ok:=
 %[ok.mod,ok.kind,ok.glob,ok.blt,ok.above,ok.inj,ok.has,ok.cab,ok.hd,ok.frames,ok.stk,ok.exf,ok.bs,ok.bsz,ok.noex,ok.exfs,ok.funs|ok.frf]
section
variable {X:Cx} {pins:List (Addr×Obj)} {σ:St} {H:Hp} {s:Shared} {E:Value->Shared->Prop}
theorem Inv.wish(I:Inv X pins σ H s)(E:Value->Shared->Prop):Inv (X.wish E) pins σ H s:=%[I.ok.wish E,I.os,I.bare,I.base,I.loc,I.cell,I.free,I.freeC,I.pin,I.hok|I.len]
theorem Inv.unwish(I:Inv (X.wish E) pins σ H s):Inv X pins σ H s:=%[I.ok.unwish,I.os,I.bare,I.base,I.loc,I.cell,I.free,I.freeC,I.pin,I.hok|I.len]
theorem SP.unwish(h:SP (X.wish E) pins D f s'):SP X pins D f s':=by
 cases f with
 | next=>erw[σ',H',I,q]at h;erw[σ',H',I.unwish,q]
 | brk=>erw[σ',H',I,q]at h;erw[σ',H',I.unwish,q]
 | cont=>erw[σ',H',I,q]at h;erw[σ',H',I.unwish,q]
 | ret u=>erw[v,σ',H',I,r,q]at h;erw[v,σ',H',I.unwish,r,q]
theorem PSs.nox{st:List Stmt}(h:PSs X.nox st t):PSs X st t:=λpins s σ H D I hw=>
 wpAny_mono (h pins s σ H D (I.wish _) hw) (λ_ _ q=>q.unwish) λ_ _ z=>False.elim z
end
section
variable {X:Cx} {st:Stmt} {rest:List Stmt} {t u:TS} {e:Expr} {te:TE} {pos:Pos}
def CP:TS:=λD σ H=>D.nx σ H
def rR(t u:TS):TS:=λD σ H=>t { D with nx:=u D } σ H
theorem av:PSs X [] CP:=λ_ _ σ H _ I h=>wpAny_execs_nil %[σ,H,I|h]
theorem aa(h1:PS X st t)(h2:PSs X rest u):PSs X (st::rest) (rR t u):=by
 intro pins s σ H D I h;refine wpAny_execs_cons (thn (h1 pins s σ H { D with nx:=u D } I h) λf s1 q=>?_);cases f with
 | next=>
   erw[σ',H',I',q]at q;exact h2 pins s1 σ' H' D I' q
 | ret v=>exact q
 | brk=>exact q
 | cont=>exact q
theorem ad(h1:PS X st t):PSs X [st] t:=by
 intro pins s σ H D I h;refine wpAny_execs_cons (thn (h1 pins s σ H D I h) λf s1 q=>?_);cases f with
 | next=>exact wpAny_execs_nil q
 | ret v=>exact q
 | brk=>exact q
 | cont=>exact q
theorem Inv.quiet{σ:St}(I:Inv X pins σ H s):interactive X.env=false:=by simp [interactive,I.ok.kind]
def tDrop(te:TE):TS:=λD σ H=>te σ H λ_ H1=>D.nx σ H1
theorem ba(he:PE X e te)(hs:swapsWith e none pos.line X.env=pure false:=by rfl):PS X (.Expr e pos) (tDrop te):=by
 intro pins s σ H D I h;exact wpAny_Expr_any (thn (he pins s σ H _ I h) λv s1 ⟨x,H1,I1,r1,q1⟩=>%[σ,H1,I1|q1]) I.quiet hs
def Ds(te:TE):TS:=λD σ H=>te σ H D.rt
theorem ao(he:PE X e te):PS X (.Return (some e) pos) (Ds te):=by
 intro pins s σ H D I h;exact wpAny_Return_some (thn (he pins s σ H _ I h) λv s1 ⟨x,H1,I1,r1,q1⟩=>%[x,σ,H1,I1,r1|q1])
def Dv(c:TT)(t u:TS):TS:=λD σ H=>c σ H λb H1=>if b=true then t D σ H1 else u D σ H1
theorem aB(hc:PT X c tc)(ha:PSs X a t)(hb:PSs X b u):PS X (.If c a b pos) (Dv tc t u):=by
 intro pins s σ H D I h;refine wpAny_If (thn (hc pins s σ H _ I h) λd s1 ⟨H1,I1,q1⟩=>?_);cases d with
 | true=>exact ha pins s1 σ H1 D I1 q1
 | false=>exact hb pins s1 σ H1 D I1 q1
def Dt:TS:=λ_ _ _=>False
theorem cg:PSs X sts Dt:=λ_ _ _ _ _ _ h=>h.elim
end
abbrev TG:=V->St->Hp->(St->Hp->Prop)->Prop
abbrev TGs:=List V->St->Hp->(St->Hp->Prop)->Prop
def PG(X:Cx)(target:Expr)(t:TG):Prop:=
 ∀(pins:List (Addr×Obj))(s:Shared)(σ:St)(H:Hp)(v:V)(u:Value)(Q:St->Hp->Prop),Inv X pins σ H s->RelV v u->t v σ H Q ->
  wpAny (model X.prog X.w) X.A (assign target X.env u) (λ_ s'=>∃ σ' H',Inv X pins σ' H' s'/\Q σ' H') X.xe s
def PGs(X:Cx)(ts:List Expr)(t:TGs):Prop:=
 ∀(pins:List (Addr×Obj))(s:Shared)(σ:St)(H:Hp)(vs:List V)(us:List Value)(Q:St->Hp->Prop),Inv X pins σ H s->Vals vs us->t vs σ H Q ->
  wpAny (model X.prog X.w) X.A (assignInOrder ((assignEach ts X.env).map (·.2)) us) (λ_ s'=>∃ σ' H',Inv X pins σ' H' s'/\Q σ' H') X.xe s
abbrev EL:=V->V->V->Hp->(Hp->Prop)->Prop
def PSet(X:Cx)(t:EL):Prop:=
 ∀(pins:List (Addr×Obj))(s:Shared)(σ:St)(H:Hp)(o i v:V)(ov iv u:Value)(Q:Hp->Prop),Inv X pins σ H s->RelV o ov->RelV i iv->RelV v u->t o i v H Q ->
  wpAny (model X.prog X.w) X.A (setItem ov iv u) (λ_ s'=>∃H',Inv X pins σ H' s'/\Q H') X.xe s
section
variable {X:Cx} {pos:Pos}
def tf(i:Nat):TG:=λv σ H Q=>Q (σ.set i (some v)) H
theorem bQ{i:Nat}{x:Str}(hN:X.N.Nodup)(hi:X.N[i]?=some x)(hx:Loc X.env.scope x)(hf:X.fn x=true∨X.env.scope.names.lookup x=some .local:=by first | exact .inl rfl | exact .inr rfl | assumption):PG X (.Name x pos) (tf i):=by
 intro pins s σ H v u Q I r h;exact wpAny_assign_Name (mL I hN hi hx r (λs' I'=>%[_,H,I'|h]) hf)
inductive gNil(vs:List V)(σ:St)(H:Hp)(Q:(St->Hp->Prop)):Prop
 |mk:vs=[]->Q σ H->gNil vs σ H Q
inductive gCons(t:TG)(u:TGs)(vs:List V)(σ:St)(H:Hp)(Q:(St->Hp->Prop)):Prop
 |mk:∀v r,vs=v::r->(t v σ H λσ' H'=>u r σ' H' Q)->gCons t u vs σ H Q
theorem wb:PGs X [] gNil:=by
 intro pins s σ H vs us Q I r h;erw[e,h]at h;subst e;cases r;exact assignInOrder_nil %[σ,H,I|h]
theorem kD(h1:PG X e t)(h2:PGs X es u)
 (hs:(assignEach (e::es) X.env).map (·.2)=assign e X.env::(assignEach es X.env).map (·.2):=by rfl):PGs X (e::es) (gCons t u):=by
 intro pins s σ H vs us Q I r h;erw[v,vr,e1,h]at h;subst e1;cases r with
 | cons r rr=>
   rw[hs];refine assignInOrder_cons (thn (h1 pins s σ H _ _ _ I r h) λ_ s1 ⟨σ1,H1,I1,q1⟩=>?_);exact h2 pins s1 σ1 H1 _ _ Q I1 rr q1
inductive gTup(K:W.Frag)(n:Nat)(t:TGs)(v:V)(σ:St)(H:Hp)(Q:(St->Hp->Prop)):Prop
 |mk:∀a xs,v=.ref a->SqT K H a xs->xs.length=n->t xs σ H Q->gTup K n t v σ H Q
theorem zS{k:Nat}{n:Nat}(hc:X.calm=true)(h:PGs X es t)
 (hn:(assignEach es X.env).length=n:=by rfl) (hst:(assignEach es X.env).findIdx? (·.1)=none:=by rfl):PG X (.Tuple es k pos) (gTup X.K n t):=by
 intro pins s σ H v u Q I r hw;erw[a,xs,e1,hq,hl,hw]at hw;subst e1;cases r;let%[its,rv,ht|hz]:=I.tuple hq;refine assign_Tuple_tuple (I.ok.hd hc) ht (by simp [hn,←hl,rv.length]) hst λh' hx=>?_
 have I1:Inv X pins σ H { s with heap:=h' }:=I.kept (t':=s.toks) λb o e=>hx b o (zS0 (zL0 e)) e
 exact h pins _ σ H xs _ Q I1 (by simpa using rv) hw
def gSub(to ti:TE)(t:EL):TG:=λv σ H Q=>to σ H λo H1=>ti σ H1 λi H2=>t o i v H2 λH3=>Q σ H3
theorem uN(ho:PE X o to)(hi:PE X i ti)(hs:PSet X t)
 (ha:∀v,assign (.Subscript o i pos) X.env v=(do
  let ov ←holding [v] (eval o X.env)
  let iv ←holding [v,ov] (eval i X.env)
  standAt pos
  holding [v,ov,iv] (setItem ov iv v)
  release [v,ov,iv] []):=by intro _;rfl):PG X (.Subscript o i pos) (gSub to ti t):=by
 intro pins s σ H v u Q I r h;rw[ha];refine zA0 (wpAny_holding (thn (ho pins s σ H _ I h) λov s1 ⟨x,H1,I1,r1,q1⟩=>?_));refine zA0 (wpAny_holding (thn (hi pins s1 σ H1 _ I1 q1) λiv s2 ⟨y,H2,I2,r2,q2⟩=>?_));refine zA0 (wpAny_standAt (zA0 (wpAny_holding (thn (hs pins s2 σ H2 x y v ov iv u _ I2 r1 r2 r q2) λ_ s3 ⟨H3,I3,q3⟩=>?_))));exact wpAny_release %[σ,H3,I3|q3]
def yV(te:TE)(g:TG):TS:=λD σ H=>te σ H λx H1=>g x σ H1 D.nx
theorem uH(he:PE X e te)(hg:PG X tg g)(hs:swapsWithSole [tg] e pos.line X.env=pure false:=by rfl)(hw:swappedStores [tg] e X.env=pure none:=by rfl)
 (h1:(assignEach [tg] X.env).map (·.2)=[assign tg X.env]:=by rfl):PS X (.Assign [tg] e pos) (yV te g):=by
 intro pins s σ H D I h;refine wpAny_Assign_stores (thn (he pins s σ H _ I h) λv s1 ⟨x,H1,I1,r1,q1⟩=>?_) hs hw;rw[h1];exact thn (hg pins s1 σ H1 x v _ I1 r1 q1) λ_ s2 q=>q
theorem am{i:Nat}{x:Str}{pos':Pos}(hN:X.N.Nodup)(hi:X.N[i]?=some x)(hx:Loc X.env.scope x)(he:PE X e te)(hs:swapsWith e (some (.Name x pos')) pos.line X.env=pure false:=by rfl)(hf:X.fn x=true∨X.env.scope.names.lookup x=some .local:=by first | exact .inl rfl | exact .inr rfl | assumption) :
 PS X (.Assign [.Name x pos'] e pos) (yV te (tf i)):=by
 intro pins s σ H D I h;refine wpAny_Assign_Name (thn (he pins s σ H _ I h) λv s1 ⟨y,H1,I1,r1,q1⟩=>?_) hs;exact mL I1 hN hi hx r1 (λs2 I2=>%[_,H1,I2|q1]) hf
end
section
variable {X:Cx} {pos:Pos}
def yP(c:TT)(tb:TS):TS:=λD σ H=>∃W:Nat->St->Hp->Prop,(∃m,W m σ H)/\∀m σ H,W m σ H ->
 c σ H λb H1=>if b=true then ∃N:St->Hp->Prop,(∀ σ' H',N σ' H'->∃m',m'<m/\W m' σ' H')/\tb { D with nx:=N,ct:=N,bk:=D.nx } σ H1 else D.nx σ H1
theorem gX(hp:PassesOwn (model X.prog X.w) X.A X.env X.xe)(hc:PT X c tc)(hb:PSs X body tb):PS X (.While c body [] pos) (yP tc tb):=by
 intro pins s σ H D I h;erw[W,%[m0|w0],turn]at h;refine wpAny_While (codeAny_whileLoop (λn s'=>∃ σ' H',Inv X pins σ' H' s'/\W n σ' H') ?_ m0 %[σ,H,I|w0]);rintro n s1 ⟨σ1,H1,I1,w1⟩;refine wpAny_passesOwn hp (thn (hc pins s1 σ1 H1 _ I1 (turn n σ1 H1 w1)) λb s2 ⟨H2,I2,q2⟩=>?_);cases b with
 | true=>
   erw[N,hN,q2]at q2;rw[zE0 rfl];refine wpAny_passesOwn hp (thn (hb pins s2 σ1 H2 _ I2 q2) λf s3 q3=>?_);cases f with
   | next=>
     erw[σ3,H3,I3,n3]at q3;let%[m',hm|w3]:=hN σ3 H3 n3;erw[m',hm,σ3,H3,I3,w3]
   | cont=>
     erw[σ3,H3,I3,n3]at q3;let%[m',hm|w3]:=hN σ3 H3 n3;erw[m',hm,σ3,H3,I3,w3]
   | brk=>exact q3
   | ret v=>exact q3
 | false=>
   rw[zB0 qB0];exact wpAny_execs_nil %[σ1,H2,I2|q2]
end
structure It where
 go:Nat->Hp->Prop
 yld:Nat->Hp->V->Hp->Prop
 stop:Nat->Hp->Prop
def jt(X:Cx)(pins:List (Addr×Obj))(H:Hp)(b:Addr):Prop:=
 H b=none/\b≠X.env.locals/\b∉X.fs/\(b∈X.ex∨X.s₀.heap.objs.size<=b)/\(∀x c,X.env.cells.lookup x=some c->c≠b)/\∀p∈X.pn++pins,p.1≠b
theorem Inv.fpOk{σ:St}{H':Hp}{b:Addr}(I:Inv X pins σ H s)(hb:s.heap.objs.size<=b)(hn:H' b=none):jt X pins H' b:=by
 erw[hn,Nat.ne_of_gt (qM0 I.lt hb),I.nofs hb,.inr (zQ0 I.sz hb),λx c e z=>?_,λp hp z=>?_]
 . let%[v|q]:=I.cell x c e;exact absurd (qM0 q.lt (by rw[z];exact hb)) (qU0 _)
 . exact absurd (qM0 (zL0 (I.pin p hp).1) (by rw[z];exact hb)) (qU0 _)
structure Turn(P:Program)(w:World)(K:W.Frag)(tg:Expr)(J:It)(fp:List Addr)(it:Addr)(tn:Nat->Heap->Prop):Prop where
 mem:it∈fp
 obj:∀i h,tn i h->∀b∈fp,∃o,h.get? b=some o/\∀v,o.data≠.cell v
 keep:∀i h h',tn i h->(∀b∈fp,∀o,h.get? b=some o->h'.get? b=some o)->tn i h'
 item:∀(X:Cx),X.prog=P->X.w=w->X.K=K->X.calm=true->∀(i:Nat)(pins:List (Addr×Obj))(s:Shared)(σ:St)(H:Hp)(E:Value->Shared->Prop),Inv X pins σ H s->(∀b∈fp,jt X pins H b)->tn i s.heap->J.go i H ->
  wpAny (model P w) X.A (pyNext (.ref it)) (λr s1=>∃u,r=some u/\
   wpAny (model P w) X.A (letOwnedTupleGo tg (.ref it) u) (λ_ s2=>∃x H',Inv X pins σ H' s2/\RelV x u/\J.yld i H x H'/\tn (i+1) s2.heap/\∀b∈fp,H' b=none) E s1) E s
 done:∀(X:Cx),X.prog=P->X.w=w->X.K=K->X.calm=true->∀(i:Nat)(pins:List (Addr×Obj))(s:Shared)(σ:St)(H:Hp)(E:Value->Shared->Prop),Inv X pins σ H s->(∀b∈fp,jt X pins H b)->tn i s.heap->J.stop i H ->
  wpAny (model P w) X.A (pyNext (.ref it)) (λr s1=>r=none/\Inv X pins σ H s1) E s
 self:∀(A:Around)(i:Nat)(s:Shared)(Q:Value->Shared->Prop)(E:Value->Shared->Prop),tn i s.heap->Q (.ref it) s->wpAny (model P w) A (pyIter (.ref it)) Q E s
abbrev TI:=St->Hp->(It->Hp->Prop)->Prop
def PIE(X:Cx)(pins:List (Addr×Obj))(σ:St)(tg:Expr)(R:It->Hp->Prop)(itv:Value)(s2:Shared):Prop:=
 ∃(it:Addr)(fp:List Addr)(tn:Nat->Heap->Prop)(J:It)(H':Hp),itv=.ref it/\Inv X pins σ H' s2/\Turn X.prog X.w X.K tg J fp it tn/\tn 0 s2.heap/\(∀b∈fp,jt X pins H' b)/\R J H'
def PI(X:Cx)(tg iter:Expr)(wi:TI):Prop:=
 ∀(pins:List (Addr×Obj))(s:Shared)(σ:St)(H:Hp)(R:It->Hp->Prop),Inv X pins σ H s->wi σ H R ->
  wpAny (model X.prog X.w) X.A (eval iter X.env) (λv s1=>wpAny (model X.prog X.w) X.A (pyIter v) (PIE X pins σ tg R) X.xe s1) X.xe s
theorem sY{M:Model}{A:Around}{E:Value->Shared->Prop}{s:Shared}{tg:Expr}{it:Addr}{u:Value}{o:Obj}{n:String}{vs:Array Value}{Q:Unit->Shared->Prop}(ho:s.heap.get? it=some o)(hc:o.cls=.type n)(hd:o.data=.fields vs)
 (hn:["enumerate","zip","dict_itemiterator","dict_reverseitemiterator","odict_iterator","itertools.zip_longest","itertools.pairwise"].contains n=false) (hQ:Q () s):wpAny M A (letOwnedTupleGo tg (.ref it) u) Q E s:=by
 unfold letOwnedTupleGo;cases tg <;> first
  | exact zI0 hQ
  | (cases u <;> first
   | exact zI0 hQ
   | (refine zA0 (wpAny_load ho ?_)
      rw[hc,hd];show wpAny M A (if(["enumerate","zip","dict_itemiterator","dict_reverseitemiterator","odict_iterator","itertools.zip_longest","itertools.pairwise"].contains n&&vs[0]?==some (rawInt _))=true then _ else _) Q E s;rw[zB0 (by intro h;rw[hn,Bool.false_and]at h;cases h)];exact zI0 hQ))
def Itl(K:W.Frag)(a:Addr):It:=
 ⟨λi H=>∃xs x,SqL K H a xs/\xs[i]?=some x,λi H x H'=>H'=H/\∀xs,SqL K H a xs->xs[i]?=some x,λi H=>∃xs,SqL K H a xs/\xs.length<=i⟩
def Itt(K:W.Frag)(a:Addr):It:=
 ⟨λi H=>∃xs x,SqT K H a xs/\xs[i]?=some x,λi H x H'=>H'=H/\∀xs,SqT K H a xs->xs[i]?=some x,λi H=>∃xs,SqT K H a xs/\xs.length<=i⟩
def Itr(lo:Int)(n:Nat):It:=%[λi _=>i<n,λi H x H'=>H'=H/\x=.int (lo+i)|λi _=>n<=i]
theorem wS{K:W.Frag}(a it:Addr):Turn P w K tg (Itl K a) [it] it (λi h=>h.IsListIter it a i) where
 mem:=by simp
 obj:=λi h st b hb=>by
  have e:b=it:=by simpa using hb
  subst e;erw[o,e,c,d]at st;erw[o,e,λv z=>by rw[d]at z;cases z]
 keep:=λi h h' st k=>st.at λo e=>k it (by simp) o e
 item:=by
  intro X hP hw hK hc i pins s σ H E I hf st hg;subst hP hw hK;erw[xs,x,hq,hx]at hg;let%[its,rv,p|hz]:=I.list hq;let%[u,hu|ru]:=rv.get hx;let%[f0,f1,f2,f3,f4|f5]:=hf it (by simp);refine wpAny_pyNext_list_item st p.isList (x:=u) (by simpa using hu) λh' st' sb=>?_
  have I1:Inv X pins σ H { s with heap:=h' }:=I.turned (t':=s.toks) (λb o hb e=>(sb.2 b hb).trans e) f0 f1 f3 f4 f5;let%[o,e,c|d]:=id st';erw[u,1,sY (s:={ s with heap:=h' }) e c d ⋯ ⟨x,H,I1,ru,⟨rfl,λys hy=>by rw[I.list_inj hy hq];exact hx⟩,st',λb hb=>(hf b hb).1⟩]
 done:=by
  intro X hP hw hK hc i pins s σ H E I hf st hg;subst hP hw hK;erw[xs,hq,hx]at hg;let%[its,rv,p|hz]:=I.list hq;let%[f0,f1,f2,f3,f4|f5]:=hf it (by simp);have hl:=rv.length;exact wpAny_pyNext_list_end (I.ok.hd hc) st p.isList (by simp;omega) λh' eb=>%[1|I.turned (t':=s.toks) (λb o hb e=>eb b o hb e) f0 f1 f3 f4 f5]
 self:=λ_ _ _ _ _ st h=>wpAny_pyIter_listiter st h
theorem ua{K:W.Frag}(a it:Addr):Turn P w K tg (Itt K a) [it] it (λi h=>h.IsTupleIter it a i) where
 mem:=by simp
 obj:=λi h st b hb=>by
  have e:b=it:=by simpa using hb
  subst e;erw[o,e,c,d]at st;erw[o,e,λv z=>by rw[d]at z;cases z]
 keep:=λi h h' st k=>st.at λo e=>k it (by simp) o e
 item:=by
  intro X hP hw hK hc i pins s σ H E I hf st hg;subst hP hw hK;erw[xs,x,hq,hx]at hg;let%[its,rv,p|hz]:=I.tuple hq;let%[u,hu|ru]:=rv.get hx;let%[f0,f1,f2,f3,f4|f5]:=hf it (by simp);refine wpAny_pyNext_tuple_item st (show s.heap.IsTuple a its.toArray from p) (x:=u) (by simpa using hu) λh' st' sb=>?_
  have I1:Inv X pins σ H { s with heap:=h' }:=I.turned (t':=s.toks) (λb o hb e=>(sb.2 b hb).trans e) f0 f1 f3 f4 f5;let%[o,e,c|d]:=id st';erw[u,1,sY (s:={ s with heap:=h' }) e c d ⋯ ⟨x,H,I1,ru,⟨rfl,λys hy=>by rw[I.tuple_inj hy hq];exact hx⟩,st',λb hb=>(hf b hb).1⟩]
 done:=by
  intro X hP hw hK hc i pins s σ H E I hf st hg;subst hP hw hK;erw[xs,hq,hx]at hg;let%[its,rv,p|hz]:=I.tuple hq;let%[f0,f1,f2,f3,f4|f5]:=hf it (by simp);have hl:=rv.length;exact wpAny_pyNext_tuple_end (I.ok.hd hc) st (show s.heap.IsTuple a its.toArray from p) (by simp;omega) λh' eb=>%[1|I.turned (t':=s.toks) (λb o hb e=>eb b o hb e) f0 f1 f3 f4 f5]
 self:=λ_ _ _ _ _ st h=>wpAny_pyIter_tupleiter st h
theorem ub{K:W.Frag}(it:Addr)(lo:Int)(n:Nat):Turn P w K tg (Itr lo n) [it] it (λi h=>IsRangeIter h it (lo+(i:Nat)*1) ((n:Int)-(i:Nat)) 1) where
 mem:=by simp
 obj:=λi h st b hb=>by
  have e:b=it:=by simpa using hb
  subst e;exact⟨_,st,λv z=>by
   have z':Data.fields _=Data.cell v:=z;cases z'⟩
 keep:=λi h h' st k=>k it (by simp) _ st
 item:=by
  intro X hP hw hK hc i pins s σ H E I hf st hg;subst hP hw hK;let%[f0,f1,f2,f3,f4|f5]:=hf it (by simp);have W:=Walks.range (prog:=X.prog) (w:=X.w) (I.ok.hd hc) it lo 1 n;refine W.item i s _ _ hg st λv h' tk hv st' kk=>?_
  erw[t,1]at hv;have I1:Inv X pins σ H { s with heap:=h',toks:=tk }:=I.turned (λb o hb e=>kk b o (by simpa using hb) e) f0 f1 f3 f4 f5;erw[0,sY (s:={ s with heap:=h',toks:=tk }) (n:="range_iterator") st' rfl rfl ⋯ ⟨.int (lo+i),H,I1,⟨t,?_⟩,⟨rfl,rfl⟩,st',λb hb=>(hf b hb).1⟩];rw[Int.mul_one]
 done:=by
  intro X hP hw hK hc i pins s σ H E I hf st hg;subst hP hw hK;let%[f0,f1,f2,f3,f4|f5]:=hf it (by simp);exact wpAny_pyNext_range_end (I.ok.hd hc) st (by have:n<=i:=hg;omega) λh' eb=>%[1|I.turned (t':=s.toks) (λb o hb e=>eb b o hb e) f0 f1 f3 f4 f5]
 self:=λ_ _ _ _ _ st h=>wpAny_pyIter_rangeiter st h
section
variable {X:Cx} {tg:Expr}
inductive ZiList(K:W.Frag)(R:(It->Hp->Prop))(x:V)(H1:Hp):Prop
 |mk:∀a,x=.ref a->(∃xs,SqL K H1 a xs)->R (Itl K a) H1->ZiList K R x H1
def iList(K:W.Frag)(tl:TE):TI:=λσ H R=>tl σ H λx H1=>ZiList K R x H1
inductive ZiTup(K:W.Frag)(R:(It->Hp->Prop))(x:V)(H1:Hp):Prop
 |mk:∀a,x=.ref a->(∃xs,SqT K H1 a xs)->R (Itt K a) H1->ZiTup K R x H1
def iTup(K:W.Frag)(tl:TE):TI:=λσ H R=>tl σ H λx H1=>ZiTup K R x H1
theorem fw(hl:PE X l tl):PI X tg l (iList X.K tl):=by
 intro pins s σ H R I h;refine thn (hl pins s σ H _ I h) λv s1 ⟨x,H1,I1,r1,q1⟩=>?_
 erw[a,e,%[xs|hq],q]at q1;subst e;cases r1;let%[its,rv,p|hz]:=I1.list hq;refine wpAny_pyIter_list p.isList ?_;erw[s1.heap.objs.size,[s1.heap.objs.size],_,_,H1,1,I1.kept (t':=s1.toks) λb o e=>zP0 _ e,wS a _,%[_,zZ0 _ rfl,1|1],λb hb=>?_,q];have e:b=s1.heap.objs.size:=by simpa using hb
 subst e;exact I1.fpOk (zG0 _) (I1.hok.fresh (zG0 _))
theorem jh(hl:PE X l tl):PI X tg l (iTup X.K tl):=by
 intro pins s σ H R I h;refine thn (hl pins s σ H _ I h) λv s1 ⟨x,H1,I1,r1,q1⟩=>?_
 erw[a,e,%[xs|hq],q]at q1;subst e;cases r1;let%[its,rv,p|hz]:=I1.tuple hq;refine wpAny_pyIter_tuple (show s1.heap.IsTuple a its.toArray from p) ?_;erw[s1.heap.objs.size,[s1.heap.objs.size],_,_,H1,1,I1.kept (t':=s1.toks) λb o e=>zP0 _ e,ua a _,%[_,zZ0 _ rfl,1|1],λb hb=>?_,q];have e:b=s1.heap.objs.size:=by simpa using hb
 subst e;exact I1.fpOk (zG0 _) (I1.hok.fresh (zG0 _))
theorem sq{σ:St}{R:It->Hp->Prop}{E:Value->Shared->Prop}{lo hi:Int}{t u v:Tok}{tk:Nat}(I:Inv X pins σ H s)(h1:-(2 ^ 62)<=lo)(h2:lo<2 ^ 62)(h3:-(2 ^ 62)<=hi)(h4:hi<2 ^ 62)
 (q:R (Itr lo (hi-lo).toNat) H):wpAny (model X.prog X.w) X.A (pyIter (.ref s.heap.objs.size)) (PIE X pins σ tg R) E { s with heap:=s.heap.push { cls:=.type "range",data:=.fields #[.int lo t,.int hi u,.int 1 v] },toks:=tk }:=by
 refine wpAny_pyIter_range (IsRange.new ..) (small_one h1 h2 h3 h4) ?_;have I1:Inv X pins σ H { s with heap:=s.heap.push { cls:=.type "range",data:=.fields #[.int lo t,.int hi u,.int 1 v] },toks:=tk }:=I.kept λb o e=>zP0 _ e
 erw[(s.heap.push { cls:=.type "range",data:=.fields #[.int lo t,.int hi u,.int 1 v] }).objs.size,[(s.heap.push { cls:=.type "range",data:=.fields #[.int lo t,.int hi u,.int 1 v] }).objs.size],_,_,H,1,I1.kept (t':=tk) λb o e=>zP0 _ e,ub _ lo (hi-lo).toNat,6,λb hb=>?_,q]
 . have e1:lo+((0:Nat):Int)*1=lo:=by simp
   have e2:(((hi-lo).toNat:Nat):Int)-((0:Nat):Int)=Builtin.Range.rangeSize lo hi 1:=by rw[rangeSize_one];split <;> omega
   show IsRangeIter _ _ (lo+((0:Nat):Int)*1) ((((hi-lo).toNat:Nat):Int)-((0:Nat):Int)) 1;rw[e1,e2];exact zZ0 _ rfl
 . have e:b=(s.heap.push { cls:=.type "range",data:=.fields #[.int lo t,.int hi u,.int 1 v] }).objs.size:=by simpa using hb
   subst e;exact I1.fpOk (zG0 _) (I1.hok.fresh (zG0 _))
inductive ZiRng1(R:(It->Hp->Prop))(vs:(List V))(H1:Hp):Prop
 |mk:∀j:Int,vs=[.int j]->-(2 ^ 62)<=j->j<2 ^ 62->R (Itr 0 j.toNat) H1->ZiRng1 R vs H1
def iRng1(ta:TA):TI:=λσ H R=>ta σ H λvs H1=>ZiRng1 R vs H1
inductive ZiRng2(R:(It->Hp->Prop))(vs:(List V))(H1:Hp):Prop
 |mk:∀i j:Int,vs=[.int i,.int j]->-(2 ^ 62)<=i/\i<2 ^ 62/\-(2 ^ 62)<=j/\j<2 ^ 62->R (Itr i (j-i).toNat) H1->ZiRng2 R vs H1
def iRng2(ta:TA):TI:=λσ H R=>ta σ H λvs H1=>ZiRng2 R vs H1
theorem bO {a:Expr}  {p pos:Pos} (hg:Gl X "range") (hm:X.mg "range"=none) (ha:PA X [a] ta) (hs:starEach [a] X.env=[(false,eval a X.env)]:=by rfl):PI X tg (.Call (.Name "range" p) [a] [] pos) (iRng1 ta):=by
 intro pins s σ H R I h;refine Call_ (fh I hg hm boot_range (PyProof.Rows.callWith_type1 (thn (ha pos pins s σ H _ I h) λus s1 ⟨vs,H1,I1,r1,q1⟩=>?_) hs rfl));erw[j,e,q1,q2,q]at q1;subst e;cases r1 with
 | cons r rr=>
   cases rr;erw[t,1]at r;exact call_range_1 (sq I1 #[0] #[0] q1 q2 (by simpa using q))
theorem xD {a b:Expr}  {p pos:Pos} (hg:Gl X "range") (hm:X.mg "range"=none) (ha:PA X [a,b] ta) (hs:starEach [a,b] X.env=[(false,eval a X.env),(false,eval b X.env)]:=by rfl) (hs2:starEach [b] X.env=[(false,eval b X.env)]:=by rfl) :
 PI X tg (.Call (.Name "range" p) [a,b] [] pos) (iRng2 ta):=by
 intro pins s σ H R I h;refine Call_ (fh I hg hm boot_range (PyProof.Rows.callWith_type1 (thn (ha pos pins s σ H _ I h) λus s1 ⟨vs,H1,I1,r1,q1⟩=>?_) (by rw[hs,hs2]) (by rw[hs2];rfl)));erw[i,j,e,%[q1,q2,q3|q4],q]at q1;subst e;cases r1 with
 | cons r rr=>
   cases rr with
   | cons r' rr=>
     cases rr;erw[t,1]at r;erw[t',1]at r';exact call_range_2 (sq I1 q1 q2 q3 q4 q)
def tFor(wi:TI)(g:TG)(tb:TS):TS:=λD σ H=>wi σ H λJ H1=>∃W:Nat->Nat->St->Hp->Prop,(∃m,W 0 m σ H1)/\∀i m σ H,W i m σ H ->
 (J.stop i H/\D.nx σ H)∨(J.go i H/\∃N:St->Hp->Prop,(∀ σ' H',N σ' H'->∃m',m'<m/\W (i+1) m' σ' H')/\∀x H',J.yld i H x H'->g x σ H' λσ2 H2=>tb { D with nx:=N,ct:=N,bk:=D.nx } σ2 H2)
def lq(fp:List Addr)(h:Heap):List (Addr×Obj):=fp.filterMap λb=>(h.get? b).map λo=>(b,o)
theorem iC{fp:List Addr}{h:Heap}{b:Addr}{o:Obj}(hb:b∈fp)(e:h.get? b=some o):(b,o)∈lq fp h:=List.mem_filterMap.mpr %[b,hb|by rw[e];rfl]
theorem xO{p:Addr×Obj}(hp:p∈lq fp h):p.1∈fp/\h.get? p.1=some p.2:=by
 let%[b,hb|e]:=List.mem_filterMap.mp hp;cases q:h.get? b with
 | none=>rw[q]at e;cases e
 | some o=>
   rw[q]at e;have e':(b,o)=p:=zU0 e;subst e';erw[hb,q]
theorem Inv.pinned{σ:St}{fp:List Addr}(I:Inv X pins σ H s)(hf:∀b∈fp,jt X pins H b)(ho:∀b∈fp,∃o,s.heap.get? b=some o/\∀v,o.data≠.cell v):Inv X (pins++lq fp s.heap) σ H s:=
 I.pins_of λp hp=>(qD0 hp).elim (λz=>I.pin p (qT0 _ z)) λz=>by
  let%[hb|e]:=xO z;let%[f0,f1,f2|_]:=hf p.1 hb;let%[o,e'|d]:=ho p.1 hb;rw[e]at e';cases e';erw[e,f0,f1,f2,d]
theorem Inv.unpinned{pins pl:List (Addr×Obj)}{σ:St}(I:Inv X (pins++pl) σ H s):Inv X pins σ H s:=I.pins_of λp hp=>I.pin p (qT0 _ (List.mem_append_left _ hp))
theorem cP{iter:Expr}{pos:Pos}(hp:PassesOwn (model X.prog X.w) X.A X.env X.xe)(hc:X.calm=true)(hi:PI X tg iter wi)(hg:PG X tg g)(hb:PSs X body tb)
 (hs:∀x,foldedSetIterable iter X.env x=pure x:=by intro _;rfl):PS X (.For tg iter body [] pos) (tFor wi g tb):=by
 intro pins s σ H D I h;refine wpAny_For (thn (hi pins s σ H _ I h) λv s1 h1=>thn h1 λitv s2 h2=>?_) hs;erw[it,fp,tn,J,H2,e,I2,T,st2,f2,W,%[m0|w0],turn]at h2;subst e;have stat:∀{H':Hp},(∀b∈fp,H' b=none)->∀b∈fp,jt X pins H' b:=λhn b hb=>%[hn b hb|(f2 b hb).2]
 refine codeAny_forLoop_any (λn s'=>∃i σ' H',Inv X pins σ' H' s'/\tn i s'.heap/\(∀b∈fp,H' b=none)/\W i n σ' H') ?_ m0 %[(0),σ,H2,I2,st2,λb hb=>(f2 b hb).1|w0];rintro n s3 ⟨i,σ3,H3,I3,st3,fr3,w3⟩;rcases turn i n σ3 H3 w3 with⟨stop,qn⟩ | ⟨go,N,hN,step⟩
 . refine wpAny_passesOwn hp (thn (T.done X rfl rfl rfl hc i pins s3 σ3 H3 X.xe I3 (stat fr3) st3 stop) λr s4 ⟨hr,I4⟩=>?_);subst hr;exact wpAny_execs_nil %[σ3,H3,I4|qn]
 . refine wpAny_passesOwn hp (thn (T.item X rfl rfl rfl hc i pins s3 σ3 H3 X.xe I3 (stat fr3) st3 go) λr s4 ⟨u,hr,h4⟩=>?_);subst hr;refine wpAny_passesOwn hp (thn h4 λ_ s5 ⟨x,H5,I5,r5,y5,st5,fr5⟩=>?_);have I5':=I5.pinned (stat fr5) (T.obj _ _ st5);refine wpAny_passesOwn hp (thn (hg _ s5 σ3 H5 x u _ I5' r5 (step x H5 y5)) λ_ s6 ⟨σ6,H6,I6,q6⟩=>?_);refine wpAny_passesOwn hp (thn (hb _ s6 σ6 H6 _ I6 q6) λf s7 q7=>?_);have again:∀{σ7:St}{H7:Hp},Inv X (pins++lq fp s5.heap) σ7 H7 s7->N σ7 H7->∃m,m<n/\∃i σ' H',Inv X pins σ' H' s7/\tn i s7.heap/\(∀b∈fp,H' b=none)/\W i m σ' H':=fun{σ7 H7} I7 n7=>by
    let%[m',hm|w7]:=hN σ7 H7 n7;erw[m',hm,i+1,σ7,H7,I7.unpinned,T.keep _ _ _ st5 λb hb o e=>(I7.pin (b,o) (qT0 _ (qT0 _ (iC hb e)))).1,λb hb=>?_,w7];let%[o,e|d]:=T.obj _ _ st5 b hb;exact(I7.pin (b,o) (qT0 _ (qT0 _ (iC hb e)))).2.1
   cases f with
   | next=>erw[σ7,H7,I7,n7]at q7;exact again I7 n7
   | cont=>erw[σ7,H7,I7,n7]at q7;exact again I7 n7
   | brk=>erw[σ7,H7,I7,q7]at q7;erw[σ7,H7,I7.unpinned,q7]
   | ret v=>erw[x7,σ7,H7,I7,r7,q7]at q7;erw[x7,σ7,H7,I7.unpinned,r7,q7]
end
theorem jk{K:W.Frag}{xs:List V}{g:TG}{tb:TS}{D:Ends}{σ:St}{H:Hp}(Pv:Nat->St->Hp->Prop)(h0:Pv 0 σ H)(hl:∀i σ H,i<=xs.length->Pv i σ H->SqL K H a xs)
 (hs:∀i x σ H,xs[i]?=some x->Pv i σ H->g x σ H λσ2 H2=>tb { D with nx:=Pv (i+1),ct:=Pv (i+1),bk:=D.nx } σ2 H2) (hd:∀ σ H,Pv xs.length σ H->D.nx σ H) :
 ∃ W:Nat->Nat->St->Hp->Prop,(∃m,W 0 m σ H)/\∀i m σ H,W i m σ H ->
  ((Itl K a).stop i H/\D.nx σ H)∨((Itl K a).go i H/\∃N:St->Hp->Prop,(∀ σ' H',N σ' H'->∃m',m'<m/\W (i+1) m' σ' H')/\∀x H',(Itl K a).yld i H x H'->g x σ H' λσ2 H2=>tb { D with nx:=N,ct:=N,bk:=D.nx } σ2 H2):=by
 erw[λi m σ H=>m=xs.length-i/\i<=xs.length/\Pv i σ H,%[xs.length,by simp,zW0 _|h0],6];rintro i m σ H ⟨rfl,hi,p⟩;have q:=hl i σ H hi p
 by_cases hlt:i<xs.length
 . refine .inr %[%[xs,xs[i],q|by simp [hlt]],Pv (i+1),λσ' H' p'=>%[xs.length-(i+1),3,1,hlt|p']|λx H' y=>?_];erw[e,y]at y;subst e;exact hs i x σ _ (y xs q) p
 . have e:i=xs.length:=by omega
   subst e;exact .inl %[%[xs,q|zG0 _]|hd σ H p]
theorem rE{K:W.Frag}{xs:List V}{g:TG}{tb:TS}{D:Ends}{σ:St}{H:Hp}(Pv:Nat->St->Hp->Prop)(h0:Pv 0 σ H)(hl:∀i σ H,i<=xs.length->Pv i σ H->SqT K H a xs)
 (hs:∀i x σ H,xs[i]?=some x->Pv i σ H->g x σ H λσ2 H2=>tb { D with nx:=Pv (i+1),ct:=Pv (i+1),bk:=D.nx } σ2 H2) (hd:∀ σ H,Pv xs.length σ H->D.nx σ H) :
 ∃ W:Nat->Nat->St->Hp->Prop,(∃m,W 0 m σ H)/\∀i m σ H,W i m σ H ->
  ((Itt K a).stop i H/\D.nx σ H)∨((Itt K a).go i H/\∃N:St->Hp->Prop,(∀ σ' H',N σ' H'->∃m',m'<m/\W (i+1) m' σ' H')/\∀x H',(Itt K a).yld i H x H'->g x σ H' λσ2 H2=>tb { D with nx:=N,ct:=N,bk:=D.nx } σ2 H2):=by
 erw[λi m σ H=>m=xs.length-i/\i<=xs.length/\Pv i σ H,%[xs.length,by simp,zW0 _|h0],6];rintro i m σ H ⟨rfl,hi,p⟩;have q:=hl i σ H hi p
 by_cases hlt:i<xs.length
 . refine .inr %[%[xs,xs[i],q|by simp [hlt]],Pv (i+1),λσ' H' p'=>%[xs.length-(i+1),3,1,hlt|p']|λx H' y=>?_];erw[e,y]at y;subst e;exact hs i x σ _ (y xs q) p
 . have e:i=xs.length:=by omega
   subst e;exact .inl %[%[xs,q|zG0 _]|hd σ H p]
theorem eK{lo:Int}{n:Nat}{g:TG}{tb:TS}{D:Ends}{σ:St}{H:Hp}(Pv:Nat->St->Hp->Prop)(h0:Pv 0 σ H)
 (hs:∀i σ H,i<n->Pv i σ H->g (.int (lo+i)) σ H λσ2 H2=>tb { D with nx:=Pv (i+1),ct:=Pv (i+1),bk:=D.nx } σ2 H2) (hd:∀ σ H,Pv n σ H->D.nx σ H) :
 ∃ W:Nat->Nat->St->Hp->Prop,(∃m,W 0 m σ H)/\∀i m σ H,W i m σ H ->
  ((Itr lo n).stop i H/\D.nx σ H)∨((Itr lo n).go i H/\∃N:St->Hp->Prop,(∀ σ' H',N σ' H'->∃m',m'<m/\W (i+1) m' σ' H')/\∀x H',(Itr lo n).yld i H x H'->g x σ H' λσ2 H2=>tb { D with nx:=N,ct:=N,bk:=D.nx } σ2 H2):=by
 erw[λi m σ H=>m=n-i/\i<=n/\Pv i σ H,%[n,by simp,zW0 _|h0],6];rintro i m σ H ⟨rfl,hi,p⟩
 by_cases hlt:i<n
 . refine .inr %[hlt,Pv (i+1),λσ' H' p'=>%[n-(i+1),3,1,hlt|p']|λx H' y=>?_];erw[e,y]at y;subst e y;exact hs i σ _ hlt p
 . have e:i=n:=by omega
   subst e;exact .inl %[zG0 _|hd σ H p]
abbrev R2:=V->V->Hp->VK->Prop
def OpR(X:Cx)(f:Value->Value->Sem Value)(r:R2):Prop:=
 ∀(pins:List (Addr×Obj))(s:Shared)(σ:St)(H:Hp)(x y:V)(v u:Value)(Q:VK),Inv X pins σ H s->RelV x v->RelV y u->r x y H Q ->
  wpAny (model X.prog X.w) X.A (f v u) (EP X pins σ Q) X.xe s
def UnR(X:Cx)(f:Value->Sem Value)(r:V->Hp->VK->Prop):Prop:=
 ∀(pins:List (Addr×Obj))(s:Shared)(σ:St)(H:Hp)(x:V)(v:Value)(Q:VK),Inv X pins σ H s->RelV x v->r x H Q ->
  wpAny (model X.prog X.w) X.A (f v) (EP X pins σ Q) X.xe s
def gy(X:Cx)(f:Value)(r:List V->Hp->VK->Prop):Prop:=
 ∀(pins:List (Addr×Obj))(s:Shared)(σ:St)(H:Hp)(xs:List V)(us:List Value)(Q:VK),Inv X pins σ H s->Vals xs us->r xs H Q ->
  wpAny (model X.prog X.w) X.A (call f us) (EP X pins σ Q) X.xe s
def tOp(r:R2)(ta tb:TE):TE:=λσ H Q=>ta σ H λx H1=>tb σ H1 λy H2=>r x y H2 Q
def tUn(r:V->Hp->VK->Prop)(ta:TE):TE:=λσ H Q=>ta σ H λx H1=>r x H1 Q
inductive rI(C:Int->Int->Prop)(g:Int->Int->V)(x:V)(y:V)(H:Hp)(Q:VK):Prop
 |mk:∀i j,x=.int i->y=.int j->C i j->Q (g i j) H->rI C g x y H Q
inductive rI0(g:Int->Int->V)(x:V)(y:V)(H:Hp)(Q:VK):Prop
 |mk:∀i j,x=.int i->y=.int j->Q (g i j) H->rI0 g x y H Q
inductive rU(g:Int->V)(x:V)(H:Hp)(Q:VK):Prop
 |mk:∀i,x=.int i->Q (g i) H->rU g x H Q
section
variable {X:Cx} {a b c:Expr} {ta tb tc:TE} {pos:Pos}
theorem EI(ha:PE X a ta)(hb:PE X b tb){σ:St}{R:V->V->Hp->Prop}(I:Inv X pins σ H s)
 (h:ta σ H λx H1=>tb σ H1 λy H2=>R x y H2) {Q:Value->Shared->Prop} {f:Value->Value->Sem Value}
 (hf:∀v u s2 x y H2,Inv X pins σ H2 s2->RelV x v->RelV y u->R x y H2->wpAny (model X.prog X.w) X.A (f v u) Q X.xe s2) :
 wpAny (model X.prog X.w) X.A (eval a X.env) (λv s₁=>wpAny (model X.prog X.w) X.A (eval b X.env) (λu s₂=>wpAny (model X.prog X.w) X.A (f v u) Q X.xe s₂) X.xe s₁) X.xe s:=by
 refine thn (ha pins s σ H _ I h) λv s1 ⟨x,H1,I1,r1,q1⟩=>?_
 refine thn (hb pins s1 σ H1 _ I1 q1) λu s2 ⟨y,H2,I2,r2,q2⟩=>?_
 exact hf v u s2 x y H2 I2 r1 r2 q2
theorem aj{op:Operator}(ho:OpR X (binaryOp op) r)(ha:PE X a ta)(hb:PE X b tb):PE X (.BinOp a op b pos) (tOp r ta tb):=by
 intro pins s σ H Q I h;exact wpAny_BinOp (EI ha hb I h λv u s2 x y H2 I2 rx ry q=>ho pins s2 σ H2 x y v u Q I2 rx ry q)
theorem wc{op:UnaryOp}(ho:UnR X (unaryOp op) r)(ha:PE X a ta):PE X (.UnaryOp op a pos) (tUn r ta):=by
 intro pins s σ H Q I h;exact UnaryOp_ (thn (ha pins s σ H _ I h) λv s1 ⟨x,H1,I1,r1,q1⟩=>ho pins s1 σ H1 x v Q I1 r1 q1)
theorem opI{f:Value->Value->Sem Value}{C:Int->Int->Prop}{g:Int->Int->Int}
 (rule:∀(i j:Int)(t u:Tok)(s:Shared)(Q:Value->Shared->Prop)(E:Value->Shared->Prop),C i j->Q (.int (g i j) s.toks) { s with toks:=s.toks+1 }->wpAny (model X.prog X.w) X.A (f (.int i t) (.int j u)) Q E s) :
 OpR X f (rI C λi j=>.int (g i j)):=by
 intro pins s σ H x y v u Q I rx ry h;erw[i,j,1,1,hc,q]at h;erw[t,1]at rx;erw[t',1]at ry;exact rule i j t t' s _ _ hc %[.int (g i j),H,I.tok _,%[|0]|q]
theorem opI0{f:Value->Value->Sem Value}{g:Int->Int->Int}
 (rule:∀(i j:Int)(t u:Tok)(s:Shared)(Q:Value->Shared->Prop)(E:Value->Shared->Prop),Q (.int (g i j) s.toks) { s with toks:=s.toks+1 }->wpAny (model X.prog X.w) X.A (f (.int i t) (.int j u)) Q E s) :
 OpR X f (rI0 λi j=>.int (g i j)):=by
 intro pins s σ H x y v u Q I rx ry h;erw[i,j,1,1,q]at h;erw[t,1]at rx;erw[t',1]at ry;exact rule i j t t' s _ _ %[.int (g i j),H,I.tok _,%[|0]|q]
theorem BU{f:Value->Value->Sem Value}{g:Int->Int->Bool}
 (rule:∀(i j:Int)(t u:Tok)(s:Shared)(Q:Value->Shared->Prop)(E:Value->Shared->Prop),Q (.bool (g i j)) s->wpAny (model X.prog X.w) X.A (f (.int i t) (.int j u)) Q E s) :
 OpR X f (rI0 λi j=>.bl (g i j)):=by
 intro pins s σ H x y v u Q I rx ry h;erw[i,j,1,1,q]at h;erw[t,1]at rx;erw[t',1]at ry;exact rule i j t t' s _ _ %[.bl (g i j),H,I,1|q]
def CDiv(i j:Int):Prop:=0<j/\j<1073741824
def CPow(i j:Int):Prop:=0<=j/\j<=1000000/\i.natAbs<2 ^ 64
def CMul(i j:Int):Prop:=(-(2 ^ 64)<i/\i<2 ^ 64)∨(-(2 ^ 64)<j/\j<2 ^ 64)
theorem CMul.ok(h:CMul i j):IntMulOk i j:=by
 rcases h with⟨h1,h2⟩ | ⟨h1,h2⟩
 . exact .of_left (intBits_le_64 h1 h2)
 . exact .of_right (intBits_le_64 h1 h2)
theorem aQ:OpR X (binaryOp .Add) (rI0 λi j=>.int (i+j)):=opI0 λ_ _ _ _ _ _ _ q=>add_int q
theorem aW:OpR X (binaryOp .Sub) (rI0 λi j=>.int (i-j)):=opI0 λ_ _ _ _ _ _ _ q=>sub_int q
theorem cc:OpR X (binaryOp .Mult) (rI CMul λi j=>.int (i*j)):=opI λ_ _ _ _ _ _ _ hc q=>mul_int q hc.ok
theorem wp:OpR X (binaryOp .FloorDiv) (rI CDiv λi j=>.int (i / j)):=opI λi j _ _ _ _ _ hc q=>by
 have h1:(0:Int)<j:=hc.1;have h2:j<1073741824:=hc.2;exact floordiv_int #[0] (by rw[Int.fdiv_eq_ediv_of_nonneg i #[0]];exact q) (.inl (PyProof.noPylong_small #[0]))
theorem aO:OpR X (binaryOp .Mod) (rI (λ_ j=>0<j) λi j=>.int (i % j)):=opI λi j _ _ _ _ _ hc q=>by
 have h1:(0:Int)<j:=hc;exact mod_int' #[0] (by rw[Int.fmod_eq_emod_of_nonneg i #[0]];exact q)
theorem uT:OpR X (binaryOp .Pow) (rI CPow λi j=>.int (i ^ j.toNat)):=opI λ_ _ _ _ _ _ _ hc q=>pow_int_small hc.1 hc.2.1 hc.2.2 q
theorem unI{f:Value->Sem Value}{g:Int->Int}
 (rule:∀(i:Int)(t:Tok)(s:Shared)(Q:Value->Shared->Prop)(E:Value->Shared->Prop),Q (.int (g i) s.toks) { s with toks:=s.toks+1 }->wpAny (model X.prog X.w) X.A (f (.int i t)) Q E s) :
 UnR X f (rU λi=>.int (g i)):=by
 intro pins s σ H x v Q I rx h;erw[i,1,q]at h;erw[t,1]at rx;exact rule i t s _ _ %[.int (g i),H,I.tok _,%[|0]|q]
theorem qp:UnR X (unaryOp .USub) (rU λi=>.int (-i)):=unI λ_ _ _ _ _ q=>neg_int q
end
def scal:V->V->Bool
 | .non,.non=>true | .non,.int _=>true | .int _,.non=>true | .non,.bl _=>true | .bl _,.non=>true | .non,.str _=>true | .str _,.non=>true
 | .int _,.int _=>true | .bl _,.bl _=>true | .str _,.str _=>true | .byt _,.byt _=>true
 | .int _,.str _=>true | .str _,.int _=>true | .bl _,.str _=>true | .str _,.bl _=>true
 | _,_=>false
inductive rEq(x:V)(y:V)(H:Hp)(Q:VK):Prop
 |mk:scal x y=true->Q (.bl (decide (x=y))) H->rEq x y H Q
inductive rNe(x:V)(y:V)(H:Hp)(Q:VK):Prop
 |mk:scal x y=true->Q (.bl (!decide (x=y))) H->rNe x y H Q
theorem wI{i j:Int}:decide (V.int i=V.int j)=(i==j):=by
 rw[Bool.eq_iff_iff]
 simp
theorem AZ{i j:Bool}:decide (V.bl i=V.bl j)=(i==j):=by
 rw[Bool.eq_iff_iff]
 simp
theorem wH{i j:Str}:decide (V.str i=V.str j)=(i==j):=by
 rw[Bool.eq_iff_iff]
 simp
theorem wJ{i j:Array UInt8}:decide (V.byt i=V.byt j)=(i.toList==j.toList):=by
 rw[Bool.eq_iff_iff];cases i;cases j
 simp
section
variable {X:Cx} {a b c:Expr} {ta tb tc:TE} {pos:Pos}
theorem bg{σ:St}{Q:VK}{k k':Bool}(I:Inv X pins σ H s)(q:Q (.bl k) H)(e:k=k'):EP X pins σ Q (.bool k') s:=by
 subst e;erw[.bl k,H,I,1,q]
theorem aI:OpR X (compareOp .Eq) rEq:=by
 intro pins s σ H x y v u Q I rx ry h;erw[hs,q]at h;cases x with
 | non=>
   cases rx;cases y with
   | non=>cases ry;exact PySem.EqNone.eq_none_none (bg I q (by simp))
   | bl j=>cases ry;exact PySem.EqNone.eq_none_bool (bg I q (by simp))
   | int j=>erw[t',1]at ry;exact PySem.EqNone.eq_none_int (bg I q (by simp))
   | str j=>erw[t',1]at ry;exact PySem.EqNone.eq_none_str (bg I q (by simp))
   | _=>exact absurd (show false=true from hs) qB0
 | bl i=>
   cases rx;cases y with
   | non=>cases ry;exact PySem.EqNone.eq_bool_none (bg I q (by simp))
   | bl j=>cases ry;exact eq_bool (bg I q AZ)
   | str j=>erw[t',1]at ry;exact PySem.EqMixed.eq_bool_str (bg I q (by simp))
   | _=>exact absurd (show false=true from hs) qB0
 | int i=>
   erw[t,1]at rx;cases y with
   | non=>cases ry;exact PySem.EqNone.eq_int_none (bg I q (by simp))
   | int j=>erw[t',1]at ry;exact eq_int (bg I q wI)
   | str j=>erw[t',1]at ry;exact PySem.EqMixed.eq_int_str (bg I q (by simp))
   | _=>exact absurd (show false=true from hs) qB0
 | str i=>
   erw[t,1]at rx;cases y with
   | non=>cases ry;exact PySem.EqNone.eq_str_none (bg I q (by simp))
   | bl j=>cases ry;exact PySem.EqMixed.eq_str_bool (bg I q (by simp))
   | int j=>erw[t',1]at ry;exact PySem.EqMixed.eq_str_int (bg I q (by simp))
   | str j=>erw[t',1]at ry;exact eq_str (bg I q wH)
   | _=>exact absurd (show false=true from hs) qB0
 | byt i=>
   erw[t,1]at rx;cases y with
   | byt j=>erw[t',1]at ry;exact PySem.W.eq_bytes (bg I q wJ)
   | _=>exact absurd (show false=true from hs) qB0
 | _=>cases y <;> exact absurd (show false=true from hs) qB0
theorem ji:OpR X (compareOp .NotEq) rNe:=by
 intro pins s σ H x y v u Q I rx ry h;erw[hs,q]at h;cases x with
 | non=>
   cases rx;cases y with
   | non=>cases ry;exact PySem.EqNone.ne_none_none (bg I q (by simp))
   | bl j=>cases ry;exact PySem.EqNone.ne_none_bool (bg I q (by simp))
   | int j=>erw[t',1]at ry;exact PySem.EqNone.ne_none_int (bg I q (by simp))
   | str j=>erw[t',1]at ry;exact PySem.EqNone.ne_none_str (bg I q (by simp))
   | _=>exact absurd (show false=true from hs) qB0
 | bl i=>
   cases rx;cases y with
   | non=>cases ry;exact PySem.EqNone.ne_bool_none (bg I q (by simp))
   | bl j=>cases ry;exact ne_bool (bg I q (congrArg not AZ))
   | str j=>erw[t',1]at ry;exact PySem.EqMixed.ne_bool_str (bg I q (by simp))
   | _=>exact absurd (show false=true from hs) qB0
 | int i=>
   erw[t,1]at rx;cases y with
   | non=>cases ry;exact PySem.EqNone.ne_int_none (bg I q (by simp))
   | int j=>erw[t',1]at ry;exact ne_int (bg I q (congrArg not wI))
   | str j=>erw[t',1]at ry;exact PySem.EqMixed.ne_int_str (bg I q (by simp))
   | _=>exact absurd (show false=true from hs) qB0
 | str i=>
   erw[t,1]at rx;cases y with
   | non=>cases ry;exact PySem.EqNone.ne_str_none (bg I q (by simp))
   | bl j=>cases ry;exact PySem.EqMixed.ne_str_bool (bg I q (by simp))
   | int j=>erw[t',1]at ry;exact PySem.EqMixed.ne_str_int (bg I q (by simp))
   | str j=>erw[t',1]at ry;exact ne_str (bg I q (congrArg not wH))
   | _=>exact absurd (show false=true from hs) qB0
 | byt i=>
   erw[t,1]at rx;cases y with
   | byt j=>erw[t',1]at ry;exact PySem.W.ne_bytes (bg I q (congrArg not wJ))
   | _=>exact absurd (show false=true from hs) qB0
 | _=>cases y <;> exact absurd (show false=true from hs) qB0
theorem cN:OpR X (compareOp .Lt) (rI0 λi j=>.bl (decide (i<j))):=BU λ_ _ _ _ _ _ _ q=>lt_int q
theorem wk:OpR X (compareOp .LtE) (rI0 λi j=>.bl (decide (i<=j))):=BU λ_ _ _ _ _ _ _ q=>le_int q
theorem gY:OpR X (compareOp .Gt) (rI0 λi j=>.bl (decide (j<i))):=BU λ_ _ _ _ _ _ _ q=>gt_int q
theorem CZ:OpR X (compareOp .GtE) (rI0 λi j=>.bl (decide (j<=i))):=BU λ_ _ _ _ _ _ _ q=>ge_int q
theorem pR:OpR X (compareOp .In) (λx y H Q=>∃i j,x=.str i/\y=.str j/\Q (.bl (!(Builtin.Str.occurrences j i 0 j.length 1).isEmpty)) H):=by
 intro pins s σ H x y v u Q I rx ry h;erw[i,j,1,1,q]at h;erw[t,1]at rx;erw[t',1]at ry;exact in_str (bg I q rfl)
theorem DP:OpR X (compareOp .Is) (λx y H Q=>y=.non/\Q (.bl (decide (x=.non))) H):=by
 intro pins s σ H x y v u Q I rx ry h;erw[1,q]at h;cases ry;refine is_none_gen (bg I q ?_);cases x <;> first
  | (cases rx;rfl)
  | (erw[t,1]at rx;rfl)
theorem OpR.or(h:OpR X f r)(h':OpR X f r'):OpR X f (λx y H Q=>r x y H Q∨r' x y H Q):=by
 intro pins s σ H x y v u Q I rx ry q;rcases q with q | q
 . exact h pins s σ H x y v u Q I rx ry q
 . exact h' pins s σ H x y v u Q I rx ry q
theorem ai(b:Expr){op:CmpOp}(h:op≠.In:=by decide)(h2:op≠.NotIn:=by decide):behindInMarks op b=false:=by
 have e1:(op==CmpOp.In)=false:=by cases op <;> first | rfl | exact absurd rfl h
 have e2:(op==CmpOp.NotIn)=false:=by cases op <;> first | rfl | exact absurd rfl h2
 cases b <;> simp [behindInMarks,e1,e2]
theorem cb{op:CmpOp}(ho:OpR X (compareOp op) r)(ha:PE X a ta)(hb:PE X b tb)(hm:behindInMarks op b=false):PE X (.Compare a [op] [b] pos) (tOp r ta tb):=by
 intro pins s σ H Q I h;exact wpAny_Compare1 (EI ha hb I h λv u s2 x y H2 I2 rx ry q=>ho pins s2 σ H2 x y v u Q I2 rx ry q) hm
inductive ZtTest(Q:(Bool->Hp->Prop))(x:V)(H':Hp):Prop
 |mk:∀k,x=.bl k->Q k H'->ZtTest Q x H'
def CO(t:TE):TT:=λσ H Q=>t σ H λx H'=>ZtTest Q x H'
theorem af{op:CmpOp}(ho:OpR X (compareOp op) r)(ha:PE X a ta)(hb:PE X b tb)(hm:behindInMarks op b=false):PT X (.Compare a [op] [b] pos) (CO (tOp r ta tb)):=by
 intro pins s σ H Q I h;refine wpAny_isTrue_Compare1 (thn (ha pins s σ H _ I h) λv s1 ⟨x,H1,I1,r1,q1⟩=>thn (hb pins s1 σ H1 _ I1 q1) λu s2 ⟨y,H2,I2,r2,q2⟩=>
  thn (ho pins s2 σ H2 x y v u _ I2 r1 r2 q2) λc s3 ⟨z,H3,I3,r3,k,e,q3⟩=>?_) hm
 subst e;cases r3;exact wpAny_truthy_bool %[H3,I3|q3]
inductive ZtChain(r':R2)(tc:TE)(σ:St)(Q:VK)(y:V)(z:V)(H3:Hp):Prop
 |mk:∀k,z=.bl k->(if k=true then tc σ H3 λw' H4=>r' y w' H4 Q else Q (.bl false) H3)->ZtChain r' tc σ Q y z H3
def Dy(r r':R2)(ta tb tc:TE):TE:=λσ H Q=>ta σ H λx H1=>tb σ H1 λy H2=>r x y H2 λz H3=>ZtChain r' tc σ Q y z H3
theorem zL{op op':CmpOp}(ho:OpR X (compareOp op) r)(ho':OpR X (compareOp op') r')(ha:PE X a ta)(hb:PE X b tb)(hc:PE X c tc)
 (hm:lastMarks [op,op'] [b,c]=false:=by rfl'):PT X (.Compare a [op,op'] [b,c] pos) (CO (Dy r r' ta tb tc)):=by
 intro pins s σ H Q I h;refine isTrue_chain (thn (ha pins s σ H _ I h) λv s1 ⟨x,H1,I1,r1,q1⟩=>test_link (thn (hb pins s1 σ H1 _ I1 q1) λu s2 ⟨y,H2,I2,r2,q2⟩=>
  thn (ho pins s2 σ H2 x y v u _ I2 r1 r2 q2) λd s3 ⟨z,H3,I3,r3,k,e,q3⟩=>?_)) hm
 subst e;cases r3;refine wpAny_truthy_bool ?_;cases k with
 | false=>
   erw[k',e',q']at q3;cases e';exact ite_ff %[H3,I3|q']
 | true=>
   refine ite_tt (test_last (thn (hc pins s3 σ H3 _ I3 q3) λw' s4 ⟨z',H4,I4,r4,q4⟩=>thn (ho' pins s4 σ H4 y z' u w' _ I4 r2 r4 q4) λd' s5 ⟨z2,H5,I5,r5,k2,e2,q5⟩=>?_));subst e2;cases r5;exact wpAny_truthy_bool %[H5,I5|q5]
theorem iD:(sizeLine:Nat)<2 ^ 63:=by rw[sizeLine_eq];decide
theorem oh:OpR X (binaryOp .Add) (λx y H Q=>∃i j,x=.str i/\y=.str j/\i.length+j.length<=sizeLine/\Q (.str (i++j)) H):=by
 intro pins s σ H x y v u Q I rx ry h;erw[i,j,1,1,hz,q]at h;erw[t,1]at rx;erw[t',1]at ry;exact add_str (λt' tk=>%[.str (i++j),H,I.tok _,%[|0]|q]) hz
theorem jG{x:V}(r:Vals [x] us):∃u,us=[u]/\RelV x u:=by
 cases r with
 | cons r1 r2=>cases r2;erw[0,r1]
theorem CL{x y:V}(r:Vals [x,y] us):∃u w',us=[u,w']/\RelV x u/\RelV y w':=by
 cases r with
 | cons r1 r2=>
   cases r2 with
   | cons r3 r4=>cases r4;erw[_,0,r1,r3]
theorem qg (hc:X.calm=true):gy X (.builtin "max") (λxs H Q=>∃i j,xs=[.int i,.int j]/\Q (.int (if j>i then j else i)) H):=by
 intro pins s σ H xs us Q I r h;erw[i,j,1,q]at h;let%[u,w',1,%[t|1]|%[t'|1]]:=CL r;refine max_two_ints (I.ok.hd hc) λh' tk k=>%[_,H,I.kept k,6|q]
 by_cases hj:j>i
 . rw[zE0 hj,zE0 hj];erw[0]
 . rw[zB0 hj,zB0 hj];erw[0]
theorem lC:gy X (.type "int") (λxs H Q=>(∃i,xs=[.int i]/\Q (.int i) H)∨∃k,xs=[.bl k]/\Q (.int (if k then 1 else 0)) H):=by
 intro pins s σ H xs us Q I r h;rcases h with⟨i,rfl,q⟩ | ⟨k,rfl,q⟩
 . let%[u,1,t|1]:=jG r;exact call_int_int %[.int i,H,I,%[|0]|q]
 . let%[u,1|r1]:=jG r;cases r1;exact call_int_bool %[.int (if k then 1 else 0),H,I.tok _,%[|0]|q]
end
structure ObjM(h:Heap)(x dx C:Addr)(mA:Str->Option Value):Prop where
 obj:h.get? x=some (PySem.W.instObj C dx)
 ns:h.Ns1 dx mA
 ne:dx≠x
theorem xW{h:Heap}{dx:Addr}{mA:Str->Option Value}(n:h.Ns1 dx mA):∃od,h.get? dx=some od/\∀name,PySem.W.lookIn name od=some (mA name):=by
 erw[o,es,ep,ho,hd,hk,_,hm]at n;erw[o,ho,λname=>?_];have e:=hm name;unfold nsFind findBy at e;rw[←Array.find?_toList]at e;unfold PySem.W.lookIn;rw[hd]
 dsimp only
 split
 . rename_i y q;rw[q]at e;exact congrArg some e
 . rename_i q;rw[q]at e;have a:es.toList.any (·.refKey)=false:=by
    rw[List.any_eq_false];intro y hy;let%[z,t|hkey]:=hk y (Array.mem_toList_iff.mp hy)
    simp [DictEntry.refKey,hkey]
   have a':¬ es.toList.any (·.refKey)=true:=by rw[a];exact qB0
   rw[zB0 a'];exact congrArg some e
theorem ObjM.look(I:ObjM h x dx C mA):∃od,PySem.W.InstAt h x (PySem.W.instObj C dx) C (some od)/\∀name,PySem.W.lookIn name od=some (mA name):=
 let⟨od,ho,hl⟩:=xW I.ns
 %[od,%[I.obj,1,1|ho]|hl]
section
variable {prog:Program} {w:World} {A:Around} {E:Value->Shared->Prop} {s:Shared} {K:W.Frag} {x dx C f:Addr} {mA:Str->Option Value} {name:Str} {v:Value}
theorem Cw{expr:Bool}{Q:Value->Shared->Prop}(X:K.In s.heap)(I:ObjM s.heap x dx C mA)(hg:PySem.W.plainGet K C name=true)(hh:PySem.W.hasDictIn K C=true)
 (ha:PySem.W.findIn K (.ref C) name=some none) (hv:mA name=some v) (hv':PySem.W.handedIn v=true) (h:Q v { s with toks:=s.toks+1 }) :
 wpAny (model prog w) A (getAttr (.ref x) name expr) Q E s:=by
 erw[od,J,hl]at I.look;exact PySem.W.get_value X J (PySem.W.plainGet_of hg).1 (PySem.W.findObj_own hh ha rfl (by rw[hl,hv])) hv' h
theorem AQ{pl:Sem Bool}{Q:Value×List Value->Shared->Prop}(X:K.In s.heap)(I:ObjM s.heap x dx C mA)(hg:PySem.W.plainGet K C name=true)
 (hf:PySem.W.findIn K (.ref C) name=some (some (.ref f))) (ht:PySem.W.isFn K (.ref f)=true) (hv:mA name=none) (h:Q (.ref f,[.ref x]) s) :
 wpAny (model prog w) A (getMethod (.ref x) name pl) Q E s:=by
 erw[od,J,hl]at I.look;exact PySem.W.method_fn X J (PySem.W.plainGet_of hg).1 (PySem.W.plainGet_of hg).2 hf (beq_iff_eq.mp ht) (by show(PySem.W.lookIn name od).map (·.isSome)=some false;rw[hl,hv];rfl) h
theorem BE{ns:List Str}{Q:Unit->Shared->Prop}(X:K.In s.heap)(I:ObjM s.heap x dx C mA)
 (hs:PySem.W.findIn K (.ref C) "__setattr__"=some (some (.builtin "object.__setattr__"))) (hp:PySem.W.plainOver K C=true) (ht:PySem.W.takerIn K C name=some none) (hh:PySem.W.hasDictIn K C=true)
 (hw:PySem.Within mA ns) (hsz:ns.length<=sizeLine)
 (h:∀h',ObjM h' x dx C (λy=>if y=name then some v else mA y)->Heap.SameBut dx s.heap h'->Q () { s with heap:=h',toks:=s.toks+2 }) :
 wpAny (model prog w) A (setAttr (.ref x) name v) Q E s:=by
 erw[od,J,hl]at I.look;refine PySem.W.set_plain X J hs (PySem.W.osa_open (s:={ s with toks:=s.toks+1 }) (r:=none) X J hp ht λb=>?_);let%[cd,hc|hd']:=PySem.W.any_some hh;have hx:s.heap.get? x=some %[.ref C,some dx,.plain|#[]]:=I.obj;refine zA0 (zI0 (zA0 (zA0 (wpAny_loadPart hx (zA0 (PySem.W.Looks.here (s:={ s with toks:=s.toks+1 }) (PySem.W.looks_clsIn X hc) ?_))))));rw[hd'];refine zI0 (a:=some dx) (zA0 (zI0 (zA0 ?_)));refine wpAny_nsSet1 (s:={ s with toks:=s.toks+1 }) I.ns λh' hn2 hs2=>?_
 let%[oD,esD,epD,hoD,hdD|hcD]:=hn2.count (PySem.Within.cons name v hw);refine zA0 (wpAny_lookBehind hoD (by rw[hdD];exact pastItsLine_dict (zQ0 hcD (by rw[zT0];omega))) ?_);exact zI0 (h _ %[(hs2.2 _ (Ne.symm I.ne)).trans I.obj,hn2|I.ne] hs2)
theorem Ax{R:Result->Shared->Prop}{vs:List Value}{kw:List (Str×Value)}(X:K.In s.heap)(hm:PySem.W.makesIn K C=true)
 (hi:PySem.W.findIn K (.ref C) "__init__"=some (some (.ref f))) (hf:PySem.W.typeIn K (.ref f)=some (.type "function"))
 (h:codeAny (model prog w) (A.under (.builtin "type.__call__" %[.ref C::vs|kw])) (.call (.ref f) ⟨.ref (s.heap.objs.size+1)::vs,kw⟩) (PySem.W.InitBack (s.heap.objs.size+1) R)
  { s with heap:=(s.heap.push PySem.W.emptyDict).push (PySem.W.instObj C s.heap.objs.size) }) :
 codeAny (model prog w) A (.call (.ref C) %[vs|kw]) R s:=by
 erw[hh,g,d,t,os]at s;exact PySem.W.make_core (PySem.W.makes_of X hm) (PySem.W.looks_findIn X hi) (λself=>PySem.W.bind_fn X self hf) (.inl rfl) h
end
def bX(f:Str)(v:V):List (Str×V)->List (Str×V)
 | []=>[(f,v)]
 | (g,x)::r=>if g=f then(g,v)::r else(g,x)::bX f v r
theorem ah(f g:Str)(v:V):∀fs:List (Str×V),(bX f v fs).lookup g=if g=f then some v else fs.lookup g
 | []=>by
   show List.lookup g [(f,v)]=_
   by_cases h:g=f
   . have hb:(g==f)=true:=beq_iff_eq.mpr h;simp only[List.lookup,hb,zE0 h]
   . have hb:(g==f)=false:=beq_eq_false_iff_ne.mpr h;simp only[List.lookup,hb,zB0 h]
 | (k,x)::r=>by
   have ih:=ah f g v r;rw[show bX f v ((k,x)::r)=(if k=f then(k,v)::r else(k,x)::bX f v r)from rfl]
   by_cases hk:k=f
   . rw [zE0 hk]
     by_cases h:g=k
     . have hb:(g==k)=true:=beq_iff_eq.mpr h;simp only[List.lookup,hb,zE0 (h.trans hk)]
     . have hb:(g==k)=false:=beq_eq_false_iff_ne.mpr h;simp only[List.lookup,hb,zB0 (λe:g=f=>h (e.trans hk.symm))]
   . rw [zB0 hk]
     by_cases h:g=k
     . have hb:(g==k)=true:=beq_iff_eq.mpr h;simp only[List.lookup,hb,zB0 (λe:g=f=>hk (h.symm.trans e))]
     . have hb:(g==k)=false:=beq_eq_false_iff_ne.mpr h;simp only[List.lookup,hb];exact ih
theorem lw(f:Str)(v:V):∀fs:List (Str×V),f∈(bX f v fs).map (·.1)/\∀g,g∈fs.map (·.1)->g∈(bX f v fs).map (·.1)
 | []=>%[by simp [bX]|λg h=>by simp at h]
 | (k,x)::r=>by
   let%[i1|i2]:=lw f v r;rw[show bX f v ((k,x)::r)=(if k=f then(k,v)::r else(k,x)::bX f v r)from rfl]
   by_cases hk:k=f
   . rw[zE0 hk];subst hk;erw[by simp,λg h=>by simpa using h]
   . rw [zB0 hk];erw[6,λg h=>?_]
     . rw[qC0];exact qG0 _ i1
     . rw [qC0]at h ⊢;rcases zV0 h with e | e
       . exact List.mem_cons.mpr (.inl e)
       . exact qG0 _ (i2 g e)
theorem lU(f:Str)(v:V):∀fs:List (Str×V),(bX f v fs).length<=fs.length+1
 | []=>by simp [bX]
 | (k,x)::r=>by
   have ih:=lU f v r;rw[show bX f v ((k,x)::r)=(if k=f then(k,v)::r else(k,x)::bX f v r)from rfl]
   by_cases hk:k=f
   . rw[zE0 hk,zT0,zT0];omega
   . rw[zB0 hk,zT0,zT0];omega
theorem RelO.some_of{v:V}(r:RelO (some v) o):∃u,o=some u/\RelV v u:=by
 cases o with
 | none=>exact(show False from r).elim
 | some u=>erw[u,1,r]
theorem RelO.none_of(r:RelO none o):o=none:=by
 cases o with
 | none=>rfl
 | some u=>exact(show False from r).elim
theorem yj(r:RelV v u):PySem.W.handedIn u=true:=by
 cases v with
 | non=>cases(show u=Value.none from r);rfl
 | bl b=>cases(show u=Value.bool b from r);rfl
 | int i=>let%[t|e]:=(show ∃t,u=Value.int i t from r);cases e;rfl
 | str x=>let%[t|e]:=(show ∃t,u=Value.str x t from r);cases e;rfl
 | byt b=>let%[t|e]:=(show ∃t,u=Value.bytes b t from r);cases e;rfl
 | flt b=>let%[t|e]:=(show ∃t,u=Value.float b t from r);cases e;rfl
 | ref a=>cases(show u=Value.ref a from r);rfl
 | ty n=>cases(show u=Value.type n from r);rfl
section
variable {P:Program} {w:World} {H H':Hp} {h h':Heap} {a C dx:Addr} {fs fs':List (Str×V)}
theorem mx(hok:HOk P w H h)(e:H a=some (.ins C dx fs)):∃mA,ObjM h a dx C mA/\(∀f,RelO (fs.lookup f) (mA f))/\PySem.Within mA (fs.map (·.1))/\fs.length<=1000/\H dx=some (.own a):=by
 let%[d,z,ne,ob,mA,n,r|q]:=(show ObjOk P w H h a (.ins C dx fs)from hok a _ e)
 erw[mA,%[ob,n|ne],r,q,z,d]
end
structure Cls(K:W.Frag)(C:Addr):Prop where
 pg:PySem.W.plainGet K C Str.empty=true
 hd:PySem.W.hasDictIn K C=true
 po:PySem.W.plainOver K C=true
 sa:PySem.W.findIn K (.ref C) "__setattr__"=some (some (.builtin "object.__setattr__"))
theorem Cls.get{K:W.Frag}(c:Cls K C)(f:Str):PySem.W.plainGet K C f=true:=c.pg
def NoAttr(K:W.Frag)(C:Addr)(f:Str):Prop:=PySem.W.findIn K (.ref C) f=some none
theorem NoAttr.taker{K:W.Frag}(n:NoAttr K C f):PySem.W.takerIn K C f=some none:=by
 unfold PySem.W.takerIn;rw[show PySem.W.findIn K (.ref C) f=some none from n];rfl
structure Meth(K:W.Frag)(C:Addr)(m:Str)(f:Addr):Prop where
 at_:PySem.W.findIn K (.ref C) m=some (some (.ref f))
 fn:PySem.W.isFn K (.ref f)=true
 kp:PySem.W.keepIn K (.ref f)=true
section
variable {X:Cx} {pins:List (Addr×Obj)} {σ:St} {H:Hp} {s:Shared} {a C dx:Addr} {fs:List (Str×V)} {f:Str} {v:V} {A:Around} {E:Value->Shared->Prop}
theorem vA{b:Bool}{Q:Value->Shared->Prop}(I:Inv X pins σ H s)(e:H a=some (.ins C dx fs))(c:Cls X.K C)(n:NoAttr X.K C f)(l:fs.lookup f=some v)
 (h:∀u s',Inv X pins σ H s'->RelV v u->Q u s'):wpAny (model X.prog X.w) A (getAttr (.ref a) f b) Q E s:=by
 let%[mA,O,r,_,_|_]:=mx I.hok e;let%[u,hu|ru]:=RelO.some_of (v:=v) (o:=mA f) (by rw[←l];exact r f);exact Cw I.kIn O (c.get f) c.hd n hu (yj ru) (h u _ (I.tok _) ru)
theorem oI{pl:Sem Bool}{Q:Value×List Value->Shared->Prop}(I:Inv X pins σ H s)(e:H a=some (.ins C dx fs))(c:Cls X.K C)(k:Meth X.K C m g)(l:fs.lookup m=none)
 (h:Q (.ref g,[.ref a]) s):wpAny (model X.prog X.w) A (getMethod (.ref a) m pl) Q E s:=by
 let%[mA,O,r,_,_|_]:=mx I.hok e;have hn:mA m=none:=RelO.none_of (by rw[←l];exact r m);exact AQ I.kIn O (c.get m) k.at_ k.fn hn h
theorem uv{Q:Unit->Shared->Prop}(I:Inv X pins σ H s)(e:H a=some (.ins C dx fs))(c:Cls X.K C)(n:NoAttr X.K C f)(hl:fs.length<1000)(ry:RelV y u)
 (h:∀s',Inv X pins σ (upd H a (.ins C dx (bX f y fs))) s'->Q () s'):wpAny (model X.prog X.w) A (setAttr (.ref a) f u) Q E s:=by
 let%[mA,O,r,wi,_|ho]:=mx I.hok e;have hz:(fs.map (·.1)).length<=sizeLine:=by rw[zH0,sizeLine_eq];omega
 refine BE I.kIn O c.sa c.po n.taker c.hd wi hz λh' O' sb=>h _ ?_
 have hd:∃o,h'.get? dx=some o:=let⟨o,_,_,e',_⟩:=O'.ns;%[o|e']
 refine I.write (x:=a) (e:=dx) (by rw[e];exact True.intro) (.inr ho) (λb q hb z=>(sb.2 b hb).trans z) hd ?_;erw[by rw[aq O.ne];exact ho,6,O.ne,O'.obj,_,O'.ns,λg=>?_,λg hg=>?_]
 . have:=lU f y fs;omega
 . show RelO ((bX f y fs).lookup g) (if g=f then some u else mA g);rw[ah]
   by_cases q:g=f
   . rw[zE0 q,zE0 q];exact ry
   . rw[zB0 q,zB0 q];exact r g
 . by_cases q:g=f
   . rw[q];exact(lw f y fs).1
   . refine(lw f y fs).2 g (wi g λz=>hg ?_);show(if g=f then some u else mA g)=none;rw[zB0 q];exact z
theorem Inv.made(I:Inv X pins σ H s):Inv X pins σ (upd (upd H s.heap.objs.size (.own (s.heap.objs.size+1))) (s.heap.objs.size+1) (.ins C s.heap.objs.size []))
 { s with heap:=(s.heap.push PySem.W.emptyDict).push (PySem.W.instObj C s.heap.objs.size) }:=by
 have e1:(s.heap.push PySem.W.emptyDict).get? s.heap.objs.size=some PySem.W.emptyDict:=zZ0 s.heap rfl;have e2:((s.heap.push PySem.W.emptyDict).push (PySem.W.instObj C s.heap.objs.size)).get? (s.heap.objs.size+1)=some (PySem.W.instObj C s.heap.objs.size):=by
  have:=zZ0 (s.heap.push PySem.W.emptyDict) (o:=PySem.W.instObj C s.heap.objs.size) rfl
  rwa [Heap.size_push]at this
 have e3:(s.heap.push PySem.W.emptyDict).Ns s.heap.objs.size (λ_=>none):=%[PySem.W.emptyDict,#[],_,e1,1,(λe he=>absurd he (by simp))|λ_=>rfl]
 have I1:=I.laid (a:=s.heap.objs.size) (o:=.own (s.heap.objs.size+1)) (h':=s.heap.push PySem.W.emptyDict) (t':=s.toks) (λb u q=>zP0 _ q) (zG0 _) %[_|e1];refine I1.laid (a:=s.heap.objs.size+1) (o:=.ins C s.heap.objs.size []) (t':=s.toks) (λb u q=>zP0 _ q) (Nat.le_of_eq (Heap.size_push _ _)) ?_;have ne:s.heap.objs.size≠s.heap.objs.size+1:=zS0 (Nat.lt_succ_self _);erw[by rw[aq ne,aC],zW0 _,ne,e2,λ_=>none,(Heap.Ns1.of_empty e3).at λo q=>zP0 _ q,λ_=>True.intro,λy hy=>absurd rfl hy]
theorem CC{prog:Program}{w:World}{env:Env}{e:Expr}{f:Str}{pos:Pos}{s:Shared}{Q:Value->Shared->Prop}(hb:attributeBase e f env (eval e env)=eval e env)
 (h:wpAny (model prog w) A (eval e env) (λo s₁=>wpAny (model prog w) A (getAttr o f true) Q E s₁) E s):wpAny (model prog w) A (eval (.Attribute e f pos) env) Q E s:=
 Attribute_any_ h (by rw[arm_eval_Attribute,hb])
end
inductive ZtFld(K:W.Frag)(f:Str)(Q:VK)(x:V)(H1:Hp):Prop
 |mk:∀a C dx fs v,x=.ref a->H1 a=some (.ins C dx fs)->Cls K C->NoAttr K C f->fs.lookup f=some v->Q v H1->ZtFld K f Q x H1
def tFld(K:W.Frag)(ta:TE)(f:Str):TE:=λσ H Q=>ta σ H λx H1=>ZtFld K f Q x H1
inductive ZsFld(K:W.Frag)(f:Str)(D:Ends)(σ:St)(y:V)(x:V)(H2:Hp):Prop
 |mk:∀a C dx fs,x=.ref a->H2 a=some (.ins C dx fs)->Cls K C->NoAttr K C f->fs.length<1000->D.nx σ (upd H2 a (.ins C dx (bX f y fs)))->ZsFld K f D σ y x H2
def sFld(K:W.Frag)(ta tv:TE)(f:Str):TS:=λD σ H=>tv σ H λy H1=>ta σ H1 λx H2=>ZsFld K f D σ y x H2
section
variable {X:Cx} {o e value:Expr} {f:Str} {pos pos' tpos:Pos} {ta tv:TE}
theorem az(he:PE X e ta)(hb:attributeBase e f X.env (eval e X.env)=eval e X.env):PE X (.Attribute e f pos) (tFld X.K ta f):=by
 intro pins s σ H Q I h;refine CC hb (thn (he pins s σ H _ I h) λu s1 ⟨x,H1,I1,rx,a,C,dx,fs,v,ex,ea,c,n,l,q⟩=>?_);subst ex;obtain rfl:u=Value.ref a:=rx;exact vA I1 ea c n l λu' s2 I2 ru=>%[v,H1,I2,ru|q]
theorem bd(ha:PE X o ta)(hv:PE X value tv)(hs:swapsWith value (some (.Attribute o f pos')) pos.line X.env=pure false):PS X (.Assign [.Attribute o f pos'] value pos) (sFld X.K ta tv f):=by
 intro pins s σ H D I h;refine plainObj_wpAny_Assign_Attribute (thn (hv pins s σ H _ I h) λu s1 ⟨y,H1,I1,ry,q⟩=>thn (ha pins s1 σ H1 _ I1 q) λov s2 ⟨x,H2,I2,rx,a,C,dx,fs,ex,ea,c,n,l,q2⟩=>?_) hs;subst ex;obtain rfl:ov=Value.ref a:=rx;exact uv I2 ea c n l ry λs3 I3=>%[σ,_,I3|q2]
end
section
variable {X:Cx} {pins:List (Addr×Obj)} {σ:St} {H:Hp} {s:Shared} {A:Around} {E:Value->Shared->Prop} {Q:Value->Shared->Prop} {c:Value} {b:Bool}
inductive TyOf(K:W.Frag)(H:Hp):V->Value->Prop where
 | non:TyOf K H .non (.type "NoneType")
 | bl (x:Bool):TyOf K H (.bl x) (.type "bool")
 | int (i:Int):TyOf K H (.int i) (.type "int")
 | str (x:Str):TyOf K H (.str x) (.type "str")
 | flt (x:UInt64):TyOf K H (.flt x) (.type "float")
 | lst {a:Addr} {xs:List V} (e:H a=some (.lst xs)):TyOf K H (.ref a) (.type "list")
 | frz {a:Addr} {o:Obj} {xs:List V} (e:H a=some (.frz o (.lst xs))):TyOf K H (.ref a) (.type "list")
 | tup {a:Addr} {xs:List V} (e:H a=some (.tup xs)):TyOf K H (.ref a) (.type "tuple")
 | dK {a:Addr} {kvs:List (Key×V)} (e:H a=some (.dK kvs)):TyOf K H (.ref a) (.type "dict")
 | dT {a:Addr} {kvs:List (List Key×V)} (e:H a=some (.dT kvs)):TyOf K H (.ref a) (.type "dict")
 | ins {a C dx:Addr} {fs:List (Str×V)} (e:H a=some (.ins C dx fs)) (cl:Cls K C) (ha:PySem.W.findIn K (.ref C) "__class__"=some (some (.builtin "object.__class__")))
  (hn:PySem.W.specialIn K (.builtin "object.__class__") "__get__"=some (some (.builtin "getset_descriptor.__get__"))) (htk:PySem.W.takesIn K (.builtin "object.__class__")=some true)
  (hm:PySem.W.mroIn K C (.type "object")=some true):TyOf K H (.ref a) (.ref C)
theorem yd(I:Inv X pins σ H s)(rx:RelV x u)(ty:TyOf X.K H x t)(e:PySem.W.kitOne X.K t c=some b)(h:∀tk,Q (.bool b) { s with toks:=tk }) :
 wpAny (model X.prog X.w) A (call (.builtin "isinstance") [u,c]) Q E s:=by
 cases ty with
 | non=>cases(show u=Value.none from rx);exact PySem.W.kia_one PySem.W.kitx_none I.kIn True.intro e (λz=>nomatch z) h
 | bl y=>cases(show u=Value.bool y from rx);exact PySem.W.kia_one PySem.W.kitx_bool I.kIn True.intro e (λz=>nomatch z) h
 | int i=>let%[t|q]:=(show ∃t,u=Value.int i t from rx);cases q;exact PySem.W.kia_one PySem.W.kitx_int I.kIn True.intro e (λz=>nomatch z) h
 | str y=>let%[t|q]:=(show ∃t,u=Value.str y t from rx);cases q;exact PySem.W.kia_one PySem.W.kitx_str I.kIn True.intro e (λz=>nomatch z) h
 | flt y=>let%[t|q]:=(show ∃t,u=Value.float y t from rx);cases q;exact PySem.W.kia_one PySem.W.kitx_float I.kIn True.intro e (λz=>nomatch z) h
 | @lst a xs ea=>
   cases(show u=Value.ref a from rx);let%[_,_,n,_|h1]:=(show ObjOk X.prog X.w H s.heap a (.lst xs)from I.hok a _ ea)
   exact PySem.W.kia_one PySem.W.kitx_list I.kIn %[_,h1|1] e (λz=>nomatch z) h
 | @frz a ob xs ea=>
   cases(show u=Value.ref a from rx);let%[_,_,_,n,_|h1]:=(show ObjOk X.prog X.w H s.heap a (.frz ob (.lst xs))from I.hok a _ ea)
   exact PySem.W.kia_one PySem.W.kitx_list I.kIn %[_,h1|1] e (λz=>nomatch z) h
 | @tup a xs ea=>
   cases(show u=Value.ref a from rx);let%[_,_,_,p|_]:=(show ObjOk X.prog X.w H s.heap a (.tup xs)from I.hok a _ ea)
   erw[o,h1,h2,_]at p;exact PySem.W.kia_one PySem.W.kitx_tuple I.kIn %[o,h1|h2] e (λz=>nomatch z) h
 | @dK a kvs ea=>
   cases(show u=Value.ref a from rx);let%[_,_,vs,_|p]:=(show ObjOk X.prog X.w H s.heap a (.dK kvs)from I.hok a _ ea)
   erw[o,es,ep,h1,h2,_]at p;exact PySem.W.kia_one PySem.W.kitx_dict I.kIn %[o,h1|h2.1] e (λz=>nomatch z) h
 | @dT a kvs ea=>
   cases(show u=Value.ref a from rx);let%[_,_,xs,_,o,es,ep,h1,h2|_]:=(show ObjOk X.prog X.w H s.heap a (.dT kvs)from I.hok a _ ea)
   exact PySem.W.kia_one PySem.W.kitx_dict I.kIn %[o,h1|h2.1] e (λz=>nomatch z) h
 | @ins a C dx fs ea cl ha hn htk hm=>
   cases(show u=Value.ref a from rx);let%[mA,O|_]:=mx I.hok ea;erw[od,J,_]at O.look;exact PySem.W.kia_one (PySem.W.kitx_own (cl.get _) cl.hd ha hn htk hm) I.kIn J e (λz=>nomatch z) h
end
structure Room(k:Nat)(A:Around):Prop where
 hd:A.handled=none
 gd:A.guards=some []
 dp:A.depth+3*k+5<recursionLimit
 un:A.units+16*k+200<cLine
theorem Room.mono{j:Nat}(r:Room k A)(h:j<=k):Room j A:=%[r.hd,r.gd,by have:=r.dp;omega|by have:=r.un;omega]
theorem Room.deeper{k:Nat}(r:Room (k+1) A)(env:Env):Room k (A.deeper env):=
 %[r.hd,r.gd,by have:=r.dp;show A.depth+1+3*k+5<_;omega|by have:=r.un;show A.units+3+16*k+200<_;omega]
theorem vp {A:Around} {C:Addr} {us:List Value} {kw:List (Str×Value)}:(A.under (.builtin "type.__call__" %[.ref C::us|kw])).depth=A.depth+1:=by
 first | rfl | simp [Around.under,Code.weight,Code.isCreation,Code.isGuard,Code.isCaller,Code.frames,Code.isFrame,guardIds]
theorem vo {A:Around} {C:Addr} {us:List Value} {kw:List (Str×Value)}:(A.under (.builtin "type.__call__" %[.ref C::us|kw])).units=A.units+1:=by
 first | rfl | simp [Around.under,Code.cUnits,Code.frames,Code.isFrame]
theorem Room.make {k:Nat}  (r:Room (k+1) A) (C:Addr) (us:List Value) (kw:List (Str×Value)):Room k (A.under (.builtin "type.__call__" %[.ref C::us|kw])):=
 %[r.hd,by simp [Around.under,Code.guards,Code.isGuard,guardIds,pushGuards,r.gd],by have:=r.dp;rw[vp];omega|by have:=r.un;rw[vo];omega]
theorem Room.depth(r:Room k A):A.depth<recursionLimit:=by have:=r.dp;omega
theorem Room.units(r:Room k A):A.units+64<cLine:=by have:=r.un;omega
def ui:TA:=λ_ H Q=>Q [] H
def lF(ta:TE)(tr:TA):TA:=λσ H Q=>ta σ H λx H1=>tr σ H1 λxs H2=>Q (x::xs) H2
section
variable {X:Cx} {e:Expr} {es:List Expr} {te:TE} {t:TA} {pos:Pos}
theorem aH:PA X [] ui:=λ_ _ _ _ H Q I h=>Calls.spliced_nil %[[],H,I,.nil|h]
theorem ae(ha:PE X e te)(hr:PA X es t)(hs:starEach (e::es) X.env=(false,eval e X.env)::starEach es X.env:=by rfl):PA X (e::es) (lF te t):=by
 intro pos pins s σ H Q I h;rw[hs];show wpAny _ _ (spliced ((false,eval e X.env)::backTo pos (starEach es X.env))) _ _ s;refine Calls.spliced_cons (thn (ha pins s σ H _ I h) λu s1 ⟨x,H1,I1,r1,q1⟩=>?_);exact thn (hr pos pins s1 σ H1 _ I1 q1) λus s2 ⟨xs,H2,I2,r2,q2⟩=>%[x::xs,H2,I2,.cons r1 r2|q2]
inductive ZtTup(Q:VK)(xs:(List V))(H1:Hp):Prop
 |mk:xs.length<=sizeLine->(∀p,H1 p=none->Q (.ref p) (upd H1 p (.tup xs)))->ZtTup Q xs H1
def tTup(t:TA):TE:=λσ H Q=>t σ H λxs H1=>ZtTup Q xs H1
inductive ZtLst(Q:VK)(xs:(List V))(H1:Hp):Prop
 |mk:xs.length<=sizeLine->(∀p,H1 p=none->Q (.ref p) (upd H1 p (.lst xs)))->ZtLst Q xs H1
def tLst(t:TA):TE:=λσ H Q=>t σ H λxs H1=>ZtLst Q xs H1
theorem aG{x1}(h:PA X es t):PE X (.Tuple es x1 pos) (tTup t):=by
 intro pins s σ H Q I hq;refine wpAny_Tuple_spliced (thn (h pos pins s σ H _ I hq) λus s1 ⟨xs,H1,I1,r,z,q⟩=>%[by rw[←r.length];exact z|6]);have hf:H1 s1.heap.objs.size=none:=I1.hok.fresh (zG0 _);erw[.ref s1.heap.objs.size,upd H1 s1.heap.objs.size (.tup xs),I1.laid (t':=s1.toks) (λb u e=>zP0 _ e) (zG0 _) ?_,1,q _ hf];erw[z,us,r,%[_,zZ0 _ rfl,1|0],_,zZ0 _ rfl,1]
theorem ci(h:PA X es t):PE X (.List es pos) (tLst t):=by
 intro pins s σ H Q I hq;refine wpAny_List_spliced (thn (h pos pins s σ H _ I hq) λus s1 ⟨xs,H1,I1,r,z,q⟩=>%[by rw[←r.length];exact z|6]);have hf:H1 s1.heap.objs.size=none:=I1.hok.fresh (zG0 _);erw[.ref s1.heap.objs.size,upd H1 s1.heap.objs.size (.lst xs),I1.laid (t':=s1.toks) (λb u e=>zP0 _ e) (zG0 _) ?_,1,q _ hf];erw[z,us,(0),r,zZ0 _ rfl]
end
abbrev Sp:=List V->Hp->VK->XK->Prop
abbrev CXT:=List Env->Hp->Shared->XK->Value->Shared->Prop
structure Env0(P:Program)(w:World)(K:W.Frag)(mg:Str->Option Value)(base:Heap)(A:Around)(outer:List Env)(s:Shared)(H:Hp):Prop where
 frames:A.frames=some outer
 mod:Mod K mg base
 bs:∀b o,base.get? b=some o->s.heap.get? b=some o/\H b=none
 bsz:base.objs.size<=s.heap.objs.size
 funs:s.heap.FunFrames base outer
 frf:∀b∈frs outer,H b=none
 hok:HOk P w H s.heap
 bare:AllBare s.gens
def CE(outer:List Env)(P:Program)(w:World)(H:Hp)(s:Shared)(Q:VK)(u:Value)(s':Shared):Prop:=
 ∃v H',s'.os=s.os/\AllBare s'.gens/\Un (frs outer) [] H H' s.heap s'.heap/\HOk P w H' s'.heap/\RelV v u/\Q v H'
def CR(CX:CXT)(outer:List Env)(P:Program)(w:World)(H:Hp)(s:Shared)(Q:VK)(E:XK)(r:Result)(s':Shared):Prop:=
 match r with
 | .ok (.ret u)=>CE outer P w H s Q u s'
 | .ok _=>False
 | .error e=>CX outer H s E e s'
structure FnOk(P:Program)(w:World)(K:W.Frag)(mg:Str->Option Value)(base:Heap)(CX:CXT)(k:Nat)(f:Addr)(fd:FuncData)(ps:List Str)(sp:Sp):Prop where
 len:∀vs H Q E,sp vs H Q E->vs.length=ps.length
 run:∀(A:Around)(outer:List Env)(s:Shared)(H:Hp)(args:Args)(us:List Value)(vs:List V)(Q:VK)(E:XK),Room k A->Env0 P w K mg base A outer s H->BindsTo s fd args (ps.zip us)->Vals vs us->sp vs H Q E ->
  codeAny (model P w) A (.call (.ref f) args) (CR CX outer P w H s Q E) s
theorem Env0.make{K:W.Frag}(e:Env0 P w K mg base A outer s H)(C:Addr)(us:List Value)(kw:List (Str×Value)) :
 Env0 P w K mg base (A.under (.builtin "type.__call__" %[.ref C::us|kw])) outer s H:=⟨by first | exact e.frames | (simpa [Around.under,Code.envs,Code.isFrame,pushEnvs]using e.frames),e.mod,e.bs,e.bsz,e.funs,e.frf,e.hok,e.bare⟩
section
variable {X:Cx} {pins:List (Addr×Obj)} {σ:St} {H:Hp} {s s':Shared}
theorem Inv.env0(I:Inv X pins σ H s):Env0 X.prog X.w X.K X.mg X.base X.A X.stack s H:=
 %[I.ok.frames,I.ok.mod,I.bs,zQ0 I.ok.bsz I.sz,I.stack,I.stkFree,I.hok|I.bare]
theorem Inv.after(I:Inv X pins σ H s)(h:CE X.stack X.prog X.w H s Q u s'):EP X pins σ Q u s':=by
 erw[v,H',os,bare,un,hok,r,q]at h;erw[hh,g,d,t,os']at s';obtain rfl:os'=s.os:=os;erw[v,H',I.call (h':=hh) (g':=g) (d':=d) (t':=t) (ch:=[]) un hok bare (λb z=>absurd z (by simp)),r,q]
end
def rS(sp:Sp)(dvs:List V)(E:XK)(t:TA):TE:=λσ H Q=>t σ H λvs H1=>sp (vs++dvs) H1 Q E
inductive ZtMeth(C:Addr)(m:Str)(sp:Sp)(dvs:List V)(E:XK)(t:TA)(σ:St)(Q:VK)(x:V)(H1:Hp):Prop
 |mk:∀a dx fs,x=.ref a->H1 a=some (.ins C dx fs)->fs.lookup m=none->(t σ H1 λvs H2=>sp (x::(vs++dvs)) H2 Q E)->ZtMeth C m sp dvs E t σ Q x H1
def CQ(C:Addr)(m:Str)(sp:Sp)(dvs:List V)(E:XK)(ta:TE)(t:TA):TE:=λσ H Q=>ta σ H λx H1=>ZtMeth C m sp dvs E t σ Q x H1
def tMake(C:Addr)(sp:Sp)(dvs:List V)(E:XK)(t:TA):TE:=λσ H Q=>t σ H λvs H1=>∀x dx,H1 x=none->H1 dx=none->dx≠x ->
 sp (.ref x::(vs++dvs)) (upd (upd H1 dx (.own x)) x (.ins C dx [])) (λv H2=>v=.non/\Q (.ref x) H2) E
def Binds(K:W.Frag)(fd:FuncData)(ps:List Str)(ds:List Value):Prop:=
 ∀(s:Shared)(us:List Value),K.In s.heap->(us++ds).length=ps.length->BindsTo s fd %[us|[]] (ps.zip (us++ds))
theorem Binds.all{K:W.Frag}{fd:FuncData}{ps:List Str}(h:∀us:List Value,us.length=ps.length->bindArgs fd %[us|[]]=pure (ps.zip us)):Binds K fd ps []:=λs us _ hl=>by
 rw[List.append_nil]at hl ⊢;exact .of_eq (h us hl)
def jq(CX:CXT)(X:Cx)(E:XK):Prop:=∀(pins:List (Addr×Obj))(σ:St)(H:Hp)(s:Shared)(e:Value)(s':Shared),Inv X pins σ H s->CX X.stack H s E e s'->X.xe e s'
section
variable {X:Cx} {CX:CXT} {k:Nat} {f C:Addr} {fd:FuncData} {ps:List Str} {sp:Sp} {dvs:List V} {ds:List Value} {E:XK} {x m:Str} {p pos apos:Pos} {e o:Expr} {es:List Expr} {ta:TE} {t:TA}
theorem qM{σ:St}{Q:VK}(F:FnOk X.prog X.w X.K X.mg X.base CX k f fd ps sp)(hr:Room k X.A)(hb:Binds X.K fd ps ds)(hd:Vals dvs ds)(hx:jq CX X E)
 (I:Inv X pins σ H s) (r:Vals vs us) (h:sp (vs++dvs) H Q E):wpAny (model X.prog X.w) X.A (call (.ref f) us) (EP X pins σ Q) X.xe s:=by
 have r2:Vals (vs++dvs) (us++ds):=r.append hd;have hl:(us++ds).length=ps.length:=by rw[←r2.length];exact F.len _ _ _ _ h
 refine wpAny_call (codeAny_mono (F.run X.A X.stack s H %[us|[]] (us++ds) (vs++dvs) Q E hr I.env0 (hb s us I.kIn hl) r2 h) λr s' hq=>?_);cases r with
 | error e=>exact hx pins σ H s e s' I hq
 | ok fl=>
   cases fl with
   | ret u=>exact I.after hq
   | next=>exact False.elim hq
   | brk=>exact False.elim hq
   | cont=>exact False.elim hq
theorem BS(F:FnOk X.prog X.w X.K X.mg X.base CX k f fd ps sp)(hr:Room k X.A)(hg:Gl X x)(hm:X.mg x=some (.ref f))(hk:PySem.W.keepIn X.K (.ref f)=true)(hb:Binds X.K fd ps ds)(hd:Vals dvs ds)(hx:jq CX X E)
 (ha:PA X (e::es) t) (hdb:(x==("__debug__":Str))=false:=by decide) (he:starEach (e::es) X.env=(false,eval e X.env)::starEach es X.env:=by rfl) (hpl:(backTo pos (starEach es X.env)).any (·.1)=false:=by rfl) :
 PE X (.Call (.Name x p) (e::es) [] pos) (rS sp dvs E t):=by
 intro pins s σ H Q I h;refine wpAny_Call_Name_kw (mv I hg hm ?_ hdb);refine PySem.W.callWith_K (h₀:=X.base) I.ok.mod.kin hk (thn (ha pos pins s σ H _ I h) λus s1 ⟨vs,H1,I1,r,q⟩=>%[I1.kIn|6]) he hpl;exact qM F hr hb hd hx I1 r q
theorem zX(F:FnOk X.prog X.w X.K X.mg X.base CX k f fd ps sp)(hr:Room k X.A)(hg:Gl X x)(hm:X.mg x=some (.ref f))(hk:PySem.W.keepIn X.K (.ref f)=true)(hb:Binds X.K fd ps ds)(hd:Vals dvs ds)(hx:jq CX X E)
 (hdb:(x==("__debug__":Str))=false:=by decide):PE X (.Call (.Name x p) [] [] pos) (rS sp dvs E ui):=by
 intro pins s σ H Q I h;refine wpAny_Call_Name_kw (mv I hg hm ?_ hdb);exact PySem.W.callWith_K0 I.kIn hk (qM (us:=[]) F hr hb hd hx I .nil h)
theorem bq{pl:Sem Bool}(he:PE X o ta)(c:Cls X.K C)(hm:Meth X.K C m f)(F:FnOk X.prog X.w X.K X.mg X.base CX k f fd ps sp)(hr:Room k X.A)(hb:Binds X.K fd ps ds)(hd:Vals dvs ds)(hx:jq CX X E)(ha:PA X (e::es) t)
 (hst:starEach (e::es) X.env=(false,eval e X.env)::starEach es X.env:=by rfl) (hpl:(backTo pos (starEach es X.env)).any (·.1)=false:=by rfl)
 (ht:eval (.Call (.Attribute o m apos) (e::es) [] pos) X.env=(do
  let ov ←eval o X.env
  standAt apos.atName
  let(f,first) ←holding [ov] (getMethod ov m pl)
  callWith pos f first (backTo pos (starEach (e::es) X.env)) (backToKw pos (keywordEach [] X.env))):=by rfl) :
 PE X (.Call (.Attribute o m apos) (e::es) [] pos) (CQ C m sp dvs E ta t):=by
 intro pins s σ H Q I h;refine PySem.W.methodCall_KW (pl:=pl) (thn (he pins s σ H _ I h) λu s1 ⟨x,H1,I1,rx,a,dx,fs,ex,ea,l,q⟩=>?_) ht;subst ex;obtain rfl:u=Value.ref a:=rx;refine oI I1 ea c hm l ?_;refine PySem.W.callWith_K (first:=[.ref a]) (h₀:=X.base) I.ok.mod.kin hm.kp (thn (ha pos pins s1 σ H1 _ I1 q) λus s2 ⟨vs,H2,I2,r,q2⟩=>%[I2.kIn|6]) hst hpl;exact qM (us:=.ref a::us) (vs:=.ref a::vs) F hr hb hd hx I2 (.cons rfl r) q2
theorem gi{pl:Sem Bool}(he:PE X o ta)(c:Cls X.K C)(hm:Meth X.K C m f)(F:FnOk X.prog X.w X.K X.mg X.base CX k f fd ps sp)(hr:Room k X.A)(hb:Binds X.K fd ps ds)(hd:Vals dvs ds)(hx:jq CX X E)
 (ht:eval (.Call (.Attribute o m apos) [] [] pos) X.env=(do
  let ov ←eval o X.env
  standAt apos.atName
  let(f,first) ←holding [ov] (getMethod ov m pl)
  callWith pos f first (backTo pos (starEach [] X.env)) (backToKw pos (keywordEach [] X.env))):=by rfl) :
 PE X (.Call (.Attribute o m apos) [] [] pos) (CQ C m sp dvs E ta ui):=by
 intro pins s σ H Q I h;refine PySem.W.methodCall_KW (pl:=pl) (thn (he pins s σ H _ I h) λu s1 ⟨x,H1,I1,rx,a,dx,fs,ex,ea,l,q⟩=>?_) ht;subst ex;obtain rfl:u=Value.ref a:=rx;refine oI I1 ea c hm l ?_;exact PySem.W.callWith_K0 (first:=[.ref a]) I1.kIn hm.kp (qM (us:=[.ref a]) (vs:=[.ref a]) F hr hb hd hx I1 (.cons rfl .nil) q)
structure Mk(K:W.Frag)(C f:Addr):Prop where
 makes:PySem.W.makesIn K C=true
 init:PySem.W.findIn K (.ref C) "__init__"=some (some (.ref f))
 fn:PySem.W.isFn K (.ref f)=true
 kp:PySem.W.keepIn K (.ref C)=true
theorem zD{σ:St}{Q:VK}(M:Mk X.K C f)(F:FnOk X.prog X.w X.K X.mg X.base CX k f fd ps sp)(hr:Room (k+1) X.A)(hb:Binds X.K fd ps ds)(hd:Vals dvs ds)
 (hx:jq CX X E) (I:Inv X pins σ H s) (r:Vals vs us)
 (h:∀x dx,H x=none->H dx=none->dx≠x->sp (.ref x::(vs++dvs)) (upd (upd H dx (.own x)) x (.ins C dx [])) (λv H2=>v=.non/\Q (.ref x) H2) E) :
 wpAny (model X.prog X.w) X.A (call (.ref C) us) (EP X pins σ Q) X.xe s:=by
 have hq:=h (s.heap.objs.size+1) s.heap.objs.size (I.hok.fresh (qL0 _)) (I.hok.fresh (zG0 _)) (zS0 (Nat.lt_succ_self _));have I2:=Inv.made (C:=C) I;have r2:Vals (V.ref (s.heap.objs.size+1)::(vs++dvs)) (Value.ref (s.heap.objs.size+1)::(us++ds)):=.cons rfl (r.append hd);have hl:(Value.ref (s.heap.objs.size+1)::us++ds).length=ps.length:=by
  have e:=r2.length;rw[F.len _ _ _ _ hq]at e;exact e.symm
 refine wpAny_call (Ax (f:=f) I.kIn M.makes M.init (beq_iff_eq.mp M.fn) (codeAny_mono (F.run _ X.stack _ _ %[Value.ref (s.heap.objs.size+1)::us|[]] (Value.ref (s.heap.objs.size+1)::(us++ds)) _ _ E (hr.make C us [])
  (I2.env0.make C us []) (hb _ (Value.ref (s.heap.objs.size+1)::us) I2.kIn hl) r2 hq) λr s' hq'=>?_))
 cases r with
 | error e=>exact hx pins σ _ _ e s' I2 hq'
 | ok fl=>
   cases fl with
   | ret u=>
     let%[v,H',I3,rv,ev|q3]:=I2.after hq';subst ev;erw[rv,%[V.ref (s.heap.objs.size+1),H',I3,1|q3]]
   | next=>exact False.elim hq'
   | brk=>exact False.elim hq'
   | cont=>exact False.elim hq'
theorem eP(M:Mk X.K C f)(F:FnOk X.prog X.w X.K X.mg X.base CX k f fd ps sp)(hr:Room (k+1) X.A)(hg:Gl X x)(hm:X.mg x=some (.ref C))(hb:Binds X.K fd ps ds)(hd:Vals dvs ds)(hx:jq CX X E)
 (ha:PA X (e::es) t) (hdb:(x==("__debug__":Str))=false:=by decide) (he:starEach (e::es) X.env=(false,eval e X.env)::starEach es X.env:=by rfl) (hpl:(backTo pos (starEach es X.env)).any (·.1)=false:=by rfl) :
 PE X (.Call (.Name x p) (e::es) [] pos) (tMake C sp dvs E t):=by
 intro pins s σ H Q I h;refine wpAny_Call_Name_kw (mv I hg hm ?_ hdb);refine PySem.W.callWith_K (h₀:=X.base) I.ok.mod.kin M.kp (thn (ha pos pins s σ H _ I h) λus s1 ⟨vs,H1,I1,r,q⟩=>%[I1.kIn|6]) he hpl;exact zD M F hr hb hd hx I1 r q
end
structure FnScope(N P:List Str)(sc:Scope):Prop where
 kind:sc.kind=.function
 co:sc.isCoroutine=false
 gen:sc.isGenerator=false
 nd:N.Nodup
 pre:N.take P.length=P
 par:∀x∈P,sc.names.lookup x=some .local∨sc.names.lookup x=some .cell
 nofree:∀y∈sc.names,y.2≠.free
theorem qj{kindOf:Str->Option NameKind}{x:Str}:∀{binds:List (Str×Value)}{m:Str->Option Value},(∀v,(x,v)∉binds)->bindL kindOf binds m x=m x
 | [],_,_=>rfl
 | (n,v)::r,m,h=>by
   unfold bindL;rw[qj λw hw=>h w (qG0 _ hw)]
   split
   . have:x≠n:=by rintro rfl;exact h v zY0
     simp [this]
   . rfl
theorem ql{kindOf:Str->Option NameKind}{x:Str}:∀{binds:List (Str×Value)}{m:Str->Option Value},(∀v,(x,v)∉binds)->bindC kindOf binds m x=m x
 | [],_,_=>rfl
 | (n,v)::r,m,h=>by
   unfold bindC;rw[ql λw hw=>h w (qG0 _ hw)]
   split
   . rfl
   . have:x≠n:=by rintro rfl;exact h v zY0
     simp [this]
theorem qk{kindOf:Str->Option NameKind}{x:Str}{v:Value}:∀{P:List Str}{vs:List Value}{i:Nat}{m:Str->Option Value},P.Nodup->P[i]?=some x->vs[i]?=some v->kindOf x=some .local ->
 bindL kindOf (P.zip vs) m x=some v
 | [],_,_,_,_,h,_,_=>by simp at h
 | _::_,[],_,_,_,_,h,_=>by simp at h
 | p::P,w::vs,0,m,nd,h1,h2,hk=>by
   simp at h1 h2;subst h1;subst h2
   show bindL kindOf ((p,w)::P.zip vs) m p=_;unfold bindL;rw[qj λv hv=>(List.nodup_cons.mp nd).1 (List.of_mem_zip hv).1,zE0 hk]
   simp
 | p::P,w::vs,i+1,m,nd,h1,h2,hk=>by
   show bindL kindOf ((p,w)::P.zip vs) m x=_;unfold bindL;exact qk (i:=i) (List.nodup_cons.mp nd).2 (by simpa using h1) (by simpa using h2) hk
theorem qm{kindOf:Str->Option NameKind}{x:Str}{v:Value}:∀{P:List Str}{vs:List Value}{i:Nat}{m:Str->Option Value},P.Nodup->P[i]?=some x->vs[i]?=some v->kindOf x≠some .local ->
 bindC kindOf (P.zip vs) m x=some v
 | [],_,_,_,_,h,_,_=>by simp at h
 | _::_,[],_,_,_,_,h,_=>by simp at h
 | p::P,w::vs,0,m,nd,h1,h2,hk=>by
   simp at h1 h2;subst h1;subst h2
   show bindC kindOf ((p,w)::P.zip vs) m p=_;unfold bindC;rw[ql λv hv=>(List.nodup_cons.mp nd).1 (List.of_mem_zip hv).1,zB0 hk]
   simp
 | p::P,w::vs,i+1,m,nd,h1,h2,hk=>by
   show bindC kindOf ((p,w)::P.zip vs) m x=_;unfold bindC;exact qm (i:=i) (List.nodup_cons.mp nd).2 (by simpa using h1) (by simpa using h2) hk
def lH(N:List Str)(vs:List V):St:=vs.map some++List.replicate (N.length-vs.length) none
def yy(CX:CXT)(P:Program)(w:World)(K:W.Frag)(mg:Str->Option Value)(base:Heap)(N:List Str)(qual:Str)(scope:Scope)(f:Addr)(cd:Value)(A:Around)(outer:List Env)(s:Shared)(H:Hp)(E:XK):Cx where
 prog:=P
 w:=w
 K:=K
 mg:=mg
 base:=base
 A:=A.deeper (envOfC qual scope s.heap.objs.size f cd)
 N:=N
 s₀:=s
 H₀:=H
 env:=envOfC qual scope s.heap.objs.size f cd
 outer:=outer
 stack:=envOfC qual scope s.heap.objs.size f cd::outer
 ex:=[]
 calm:=true
 fn:=λ_=>true
 pn:=[]
 xe:=λe s'=>wpAny (model P w) (A.deeper (envOfC qual scope s.heap.objs.size f cd)) (leaving (envOfC qual scope s.heap.objs.size f cd) e) (λ_ s''=>CX outer H s E e s'') (λe' s''=>CX outer H s E e' s'') s'
theorem tL{sc:Scope}{n:Nat}{x:Str}(h:sc.names.lookup x=some .cell):∃c,(cellsFrom n sc.names []).lookup x=some c:=by
 have q:=PySem.W.cellsFrom_some sc.names n [] (.inl h);exact Option.isSome_iff_exists.mp q
theorem yf{K:W.Frag}{qual:Str}{f:Addr}{cd:Value}{A:Around}{s1:Shared}{vs:List V}
 (S:FnScope N ps scope) (hd:A.handled=none) (e0:Env0 P w K mg base A outer s H) (hl:vs.length=ps.length) (r:Vals vs us)
 (x:InCallC s s.heap.objs.size (bindL (envOfC qual scope s.heap.objs.size f cd).kindOf (ps.zip us) λ_=>none) (cellsFrom (s.heap.objs.size+1) scope.names []) (bindC (envOfC qual scope s.heap.objs.size f cd).kindOf (ps.zip us) λ_=>none) s1) :
 Inv (yy CX P w K mg base N qual scope f cd A outer s H E) [] (lH N vs) H s1:=by
 have hpl:ps.length<=N.length:=by have:=congrArg List.length S.pre;rw[qH0]at this;omega
 erw[h1,tk,1,hk]at x.done;have noA:∀b:Addr,b∉(yy CX P w K mg base N qual scope f cd A outer s H E).ex:=λb z=>absurd (show b∈([]:List Addr)from z) (by simp)
 erw[%[e0.mod,S.kind,1,1,zG0 _,λy z c h1 h2=>?_,λy hy=>?_,λy c _ h=>?_,λ_=>hd,Around.frames_deeper e0.frames,.inr %[1|1],λb z=>absurd z (noA b),e0.bs,e0.bsz,λb _ _=>noA b,λb z=>absurd z (noA b),e0.funs|e0.frf],1,e0.bare,Un.kept hk,%[_,x.toInCall.ns|λi y v h1 h2 h3=>?_],λy c h=>%[_|x.cell y c h],e0.hok.fresh (zG0 _),λy c h=>?_,λp hp=>absurd (show p∈([]:List (Addr×Obj))from hp) (by simp),e0.hok.kept hk,6]
 . exact name_of_addr x.apart (PySem.mem_of_lookup h1) (PySem.mem_of_lookup h2)
 . have hy:scope.names.lookup y=some .cell∨scope.names.lookup y=some .free:=hy;rcases hy with hy | hy
   . exact tL hy
   . exact absurd rfl (S.nofree _ (PySem.mem_of_lookup hy))
 . exact Nat.le_of_lt (x.above y c (PySem.mem_of_lookup h))
 . have hi:i<vs.length:=by
    unfold lH at h2
    by_cases hi:i<vs.length
    . exact hi
    . rw [List.getElem?_append_right (by simpa using hi)]at h2;rw[List.getElem?_replicate]at h2
      split at h2 <;> cases h2
   have ha:vs[i]?=some v:=by
    unfold lH at h2;rw[List.getElem?_append_left (by simpa using hi),qE0]at h2;cases e:vs[i]? with
    | none=>rw[e]at h2;cases h2
    | some a=>rw[e]at h2;cases h2;rfl
   let%[u,hu|rv]:=r.get ha;have hp:ps[i]?=some y:=by
    rw[←S.pre,List.getElem?_take_of_lt #[0]];exact h1
   have ndP:ps.Nodup:=by rw[←S.pre];exact S.nd.sublist (List.take_sublist _ _)
   erw[u,rv,6];rcases S.par y (qI0 hp)with k | k
   . exact .inl %[k|qk ndP hp hu k]
   . let%[c|e]:=tL (n:=s.heap.objs.size+1) k;refine .inr %[.inl k,c,e|6];have q:=x.cell y c e;rw[qm ndP hp hu (by show scope.names.lookup y≠_;rw[k];decide)]at q;exact q
 . exact e0.hok.fresh (Nat.le_of_lt (x.above y c (PySem.mem_of_lookup h)))
 . unfold lH;show _=N.length;rw[zJ0,zH0,List.length_replicate];omega
theorem fn_of{K:W.Frag}{f:Addr}{name qual:Str}{params:Arguments}{body:List Stmt}{scope:Scope}{dV kV doc pm cdv ct oc:Value}{an od:Option Addr}
 {osl:Array (Option Value)}  {sp:Sp} (lk:K.lookup f=some %[oc,od,.func (PySem.W.fnOf name qual params body scope dV kV doc pm an cdv ct)|osl]) (hcd:PySem.W.codeIn K cdv qual=true) (S:FnScope N ps scope)
 (len:∀vs H Q E,sp vs H Q E->vs.length=ps.length)
 (hbody:∀(A:Around)(outer:List Env)(s:Shared)(H:Hp)(vs:List V)(Q:VK)(E:XK),Room k (A.deeper (envOfC qual scope s.heap.objs.size f cdv))->sp vs H Q E ->
  ∃t,PSs (yy CX P w K mg base N qual scope f cdv A outer s H E) body t/\t { nx:=λ_ H'=>Q .non H',rt:=Q } (lH N vs) H) :
 FnOk P w K mg base CX (k+1) f (PySem.W.fnOf name qual params body scope dV kV doc pm an cdv ct) ps sp:=by
 erw[len,λA outer s H args us vs Q E hr e0 hb r hsp=>?_];have hl:=len _ _ _ _ hsp;have KX:K.In s.heap:=e0.mod.kin.keeps λb o e=>(e0.bs b o e).1
 have lim:s.heap.NoLimit:=e0.mod.nolimit.keeps λb o e=>(e0.bs b o e).1
 have hkind:∀y∈ps.zip us,scope.names.lookup y.1=some .local∨(scope.names.lookup y.1=some .cell/\((cellsFrom (s.heap.objs.size+1) scope.names []).lookup y.1).isSome=true):=fun⟨n,v⟩ hy=>by
  rcases S.par n (List.of_mem_zip hy).1 with q | q
  . exact .inl q
  . exact .inr %[q|PySem.W.cellsFrom_some _ _ _ (.inl q)]
 refine codeAny_call_function hr.depth (KX _ _ lk) rfl S.co S.gen rfl (PySem.W.codeRec_of KX hcd) (hb _ _ _ _ ?_);refine wpAny_newFunctionEnv_cells S.kind hkind λenv he s1 x=>?_
 subst he;erw[lim.keeps x.toInCall.keep,codeAny_func ?_];let%[t,ht|hq]:=hbody A outer s H vs Q E (hr.deeper _) hsp;have I:Inv (yy CX P w K mg base N qual scope f cdv A outer s H E) [] (lH N vs) H s1:=yf S hr.hd e0 hl r x;refine wpAny_mono (ht [] s1 (lH N vs) H _ I hq) (λfl s' hs=>?_) λe s' hs=>hs
 have fin:∀{σ':St}{H':Hp}{v:V}{u:Value},Inv (yy CX P w K mg base N qual scope f cdv A outer s H E) [] σ' H' s'->RelV v u->Q v H'->CE outer P w H s Q u s':=
  fun{σ' H' v u} J rv q=>%[v,H',J.os,J.bare,J.base,J.hok,rv|q]
 cases fl with
 | ret u=>
   erw[v,σ',H',J,rv,q]at hs;exact fin J rv q
 | next=>
   erw[σ',H',J,q]at hs;exact fin (v:=V.non) (u:=Value.none) J rfl q
 | brk=>
   erw[_,_,_,q]at hs;exact False.elim q
 | cont=>
   erw[_,_,_,q]at hs;exact False.elim q
section
variable {X:Cx} {x:Str} {p pos:Pos} {e:Expr} {es:List Expr} {t:TA} {id T:String} {r:List V->Hp->VK->Prop}
def tCB(r:List V->Hp->VK->Prop)(t:TA):TE:=λσ H Q=>t σ H λvs H1=>r vs H1 Q
theorem aD (hc:gy X (.builtin id) r) (hg:Gl X x) (hm:X.mg x=none) (hv:bootBuiltins x=some (.builtin id)) (ha:PA X (e::es) t) (hn:x≠"__name__":=by decide) (hdb:(x==("__debug__":Str))=false:=by decide)
 (he:starEach (e::es) X.env=(false,eval e X.env)::starEach es X.env:=by rfl) (hpl:(backTo pos (starEach es X.env)).any (·.1)=false:=by rfl):PE X (.Call (.Name x p) (e::es) [] pos) (tCB r t):=by
 intro pins s σ H Q I h;refine wpAny_Call_Name_kw (fh I hg hm hv ?_ hn hdb);exact PyProof.Rows.callWith_builtin1 (thn (ha pos pins s σ H _ I h) λus s1 ⟨vs,H1,I1,r1,q1⟩=>hc pins s1 σ H1 vs us Q I1 r1 q1) he hpl
theorem be (hc:gy X (.type T) r) (hg:Gl X x) (hm:X.mg x=none) (hv:bootBuiltins x=some (.type T)) (ha:PA X (e::es) t) (hn:x≠"__name__":=by decide) (hdb:(x==("__debug__":Str))=false:=by decide)
 (he:starEach (e::es) X.env=(false,eval e X.env)::starEach es X.env:=by rfl) (hpl:(backTo pos (starEach es X.env)).any (·.1)=false:=by rfl):PE X (.Call (.Name x p) (e::es) [] pos) (tCB r t):=by
 intro pins s σ H Q I h;refine wpAny_Call_Name_kw (fh I hg hm hv ?_ hn hdb);exact PyProof.Rows.callWith_type1 (thn (ha pos pins s σ H _ I h) λus s1 ⟨vs,H1,I1,r1,q1⟩=>hc pins s1 σ H1 vs us Q I1 r1 q1) he hpl
end
end L2
namespace HT
open PySem PyProof.Rows
section
variable {prog:Program} {w:World} {A:Around} {E:Value->Shared->Prop} {s:Shared}
theorem cat_tup{t b:Addr}{vs ws:List Value}{Q:Value->Shared->Prop}(ht:IsTup s.heap t vs.toArray)(hb:IsTup s.heap b ws.toArray)(hv:vs≠[])
 (h1:ws=[]->Q (.ref t) s) (h2:ws≠[]->Q (.ref s.heap.objs.size) { s with heap:=s.heap.push { cls:=.type "tuple",data:=.seq (vs++ws).toArray } })
 (hsz:vs.length+ws.length<=sizeLine):wpAny (model prog w) A (binaryOp .Add (.ref t) (.ref b)) Q E s:=by
 let%[%[cls,dd,data|sl],ho,hc,n|hd]:=id ht;let%[%[cls2,dd2,data2|sl2],ho2,hc2,n2|hd2]:=id hb;simp only at hc hd hc2 hd2;subst hc hd hc2 hd2;have e:vs.toArray++ws.toArray=(vs++ws).toArray:=by simp
 by_cases hw:ws=[]
 . exact concat_meets %[_,ho|1] ⟨_,ho2,rfl⟩ noFill_tuple_add seq_tuple_add PySem.F.slot_tuple_add PySem.F.entry_tuple_add (PySem.F.args_tuple_add_2 _ _)
    (tuple_addW1 t b vs.toArray ws.toArray n n2 dd dd2 sl sl2 (by simpa using hv) (by simp [hw])) %[ho,ho2|h1 hw]
 . refine concat_meets %[_,ho|1] ⟨_,ho2,rfl⟩ noFill_tuple_add seq_tuple_add PySem.F.slot_tuple_add PySem.F.entry_tuple_add (PySem.F.args_tuple_add_2 _ _)
    (tuple_addW2 t b vs.toArray ws.toArray n n2 dd dd2 sl sl2 (by simpa using hv) (by simpa using hw) (by rw[zR0,zR0];exact hsz)) %[ho,ho2|6]
   rw[e];exact h2 hw
def sIx(n d:Nat):Option Int->Nat
 | none=>d
 | some v=>if v<0 then(v+(n:Int)).toNat else min v.toNat n
theorem sIx_none(n d:Nat):sIx n d none=d:=rfl
theorem sIx_nat(n d k:Nat):sIx n d (some (k:Int))=min k n:=by
 show(if(k:Int)<0 then((k:Int)+(n:Int)).toNat else min (k:Int).toNat n)=min k n;rw[zB0 #[0],qQ0]
theorem DE(n d:Nat)(hd:d<=n)(o:Option Int):sIx n d o<=n:=by
 cases o with
 | none=>exact hd
 | some v=>
   show(if v<0 then(v+(n:Int)).toNat else min v.toNat n)<=n
   by_cases hv:v<0
   . rw[zE0 hv];omega
   . rw[zB0 hv];exact Nat.min_le_right _ _
theorem wL(v:Int)(n d:Nat):(if v<0 then max (v+(n:Int)) 0 else min v (n:Int))=((sIx n d (some v):Nat):Int):=by
 show(if v<0 then max (v+(n:Int)) 0 else min v (n:Int))=(((if v<0 then(v+(n:Int)).toNat else min v.toNat n):Nat):Int)
 by_cases hv:v<0
 . simp only[zE0 hv];omega
 . simp only[zB0 hv];omega
theorem vK(lo hi:Option Int)(n:Nat):Builtin.Slice.sliceAdjust lo hi 1 (n:Int)=(((sIx n 0 lo:Nat):Int),((sIx n n hi:Nat):Int)):=by
 have h1:¬ ((1:Int)<0):=by omega
 unfold Builtin.Slice.sliceAdjust;simp only[h1,if_false];refine Prod.ext ?_ ?_
 . cases lo with
   | none=>rfl
   | some v=>exact wL v n 0
 . cases hi with
   | none=>rfl
   | some v=>exact wL v n n
theorem uM(i j:Nat):Builtin.Slice.slicePlaces (i:Int) (j:Int) 1=j-i:=by
 unfold Builtin.Slice.slicePlaces;have h1:(1:Int)>0:=by omega
 simp only[h1,if_true,Int.ediv_one]
 split <;> omega
theorem mQ{v:Value}{o:Option Int}{Q:Option Int->Shared->Prop}(p:IsPart v o)(h:Q o s):wpAny (model prog w) A (Builtin.Slice.slicePartIndex v) Q E s:=by
 cases p with
 | none=>exact slicePart_none h
 | int i t=>exact slicePart_int h
theorem kR{sl:Addr}{vl vu:Value}{lo hi:Option Int}{Q:Int×Int×Nat->Shared->Prop}(hs:s.heap.IsSliceOf sl vl vu .none)(pl:IsPart vl lo)(pu:IsPart vu hi)
 (h:Q (((sIx n 0 lo:Nat):Int),1,sIx n n hi-sIx n 0 lo) s):wpAny (model prog w) A (Builtin.Slice.sliceApplied (.ref sl) (pure (n:Int))) Q E s:=by
 let%[os,hos,hcs|hds]:=id hs;unfold Builtin.Slice.sliceApplied Builtin.Slice.sliceFields;refine zA0 (zA0 (wpAny_field hos hds (x:=vl) rfl (zA0 (wpAny_field hos hds (x:=vu) rfl (zA0 (wpAny_field hos hds (x:=.none) rfl (zI0 ?_)))))));refine zA0 (slicePart_none ?_);show wpAny _ _ (if((1:Int)==0)=true then _ else _) _ _ s;rw[zB0 ⋯];refine zA0 (mQ pl (zA0 (mQ pu (zA0 (zI0 ?_)))));show wpAny _ _ (match Builtin.Slice.sliceAdjust lo hi 1 (n:Int)with | (lo,hi)=>pure (lo,(1:Int),Builtin.Slice.slicePlaces lo hi 1)) _ _ s;rw[vK lo hi n];show wpAny _ _ (pure (((sIx n 0 lo:Nat):Int),(1:Int),Builtin.Slice.slicePlaces ((sIx n 0 lo:Nat):Int) ((sIx n n hi:Nat):Int) 1)) _ _ s;rw[uM];exact zI0 h
theorem zP(xs:Array Value)(i k:Nat):((List.range k).filterMap fun(m:Nat)=>xs[((i:Int)+(m:Int)*1).toNat]?).toArray=((xs.toList.drop i).take k).toArray:=by
 have e:(fun(m:Nat)=>xs[((i:Int)+(m:Int)*1).toNat]?)=λm=>xs[i+m]?:=by
  funext m
  have:((i:Int)+(m:Int)*1).toNat=i+m:=by omega
  rw[this]
 rw[e]
 have:=pick_run xs i k
 rw[List.filterMap_map]at this;have e2:((λx=>xs[x]?) ∘ λx=>i+x)=λm=>xs[i+m]?:=rfl
 rw[e2]at this;rw[this]
theorem getItem_tuple_cut{t sl:Addr}{items:Array Value}{vl vu:Value}{lo hi:Option Int}{Q:Value->Shared->Prop}(ht:IsTup s.heap t items)(hs:s.heap.IsSliceOf sl vl vu .none)(pl:IsPart vl lo)(pu:IsPart vu hi)
 (hw:¬ (sIx items.size 0 lo=0/\sIx items.size items.size hi=items.size))
 (h:Q (.ref s.heap.objs.size) { s with heap:=s.heap.push { cls:=.type "tuple",data:=.seq ((items.toList.drop (sIx items.size 0 lo)).take (sIx items.size items.size hi-sIx items.size 0 lo)).toArray } })
 (hsz:items.size<=sizeLine):wpAny (model prog w) A (getItem (.ref t) (.ref sl)) Q E s:=by
 have htake:sizeOk (.seq ((items.toList.drop (sIx items.size 0 lo)).take (sIx items.size items.size hi-sIx items.size 0 lo)).toArray):=by
  show((items.toList.drop (sIx items.size 0 lo)).take (sIx items.size items.size hi-sIx items.size 0 lo)).toArray.size<=sizeLine;rw[zR0,qH0,List.length_drop,Array.length_toList];omega
 have hj:sIx items.size items.size hi<=items.size:=DE _ _ (zG0 _) hi;let%[os,hos,hcs|hds]:=id hs;have hTs:s.TypeIs (.ref sl) "slice":=%[os,hos|hcs]
 unfold getItem
 try with_reducible refine wpAny_holding ?_
 first | refine zA0 (zI0 ?_) | skip
 refine zA0 (wpAny_sequenceKey ht.typeIs ⋯ ?_);refine zA0 (wpAny_callSpecial?_slot (name:=Str.ofString "__getitem__") ht.typeIs PyProof.Rows.slot_tuple_getitem
  (wpAny_call_entry PyProof.Rows.slot_tuple_getitem ht.typeIs entry_tuple_getitem ?_ (args_tuple_getitem _ _)))
 show wpAny _ _ (Builtin.Tuple.tupleItemsOf (.ref t) >>= _) _ _ s;refine zA0 (tupleItemsOf_ ht ?_);refine zA0 (wpAny_typeOf hTs ?_);rw[zE0 ⋯];refine zA0 (kR hs pl pu ?_);have hno:¬ ((((sIx items.size 0 lo:Nat):Int)==0&&(1:Int)==1&&(sIx items.size items.size hi-sIx items.size 0 lo)==items.size)=true):=by
  intro q;rw[Bool.and_eq_true,Bool.and_eq_true]at q;have q1:((sIx items.size 0 lo:Nat):Int)=0:=eq_of_beq q.1.1;have q2:sIx items.size items.size hi-sIx items.size 0 lo=items.size:=eq_of_beq q.2;exact hw %[3|3]
 show wpAny _ _ (if(((sIx items.size 0 lo:Nat):Int)==0&&(1:Int)==1&&(sIx items.size items.size hi-sIx items.size 0 lo)==items.size)=true then _ else _) _ _ s;rw[zB0 hno,zP]
 first
  | exact zA0 (m:=Builtin.Tuple.tupleExact _) (wpAny_newObj_type (zI0 ⟨_,rfl,zI0 h⟩) htake)
  | exact zA0 (m:=Builtin.Tuple.tupleExact _) (wpAny_newObj_type (zA0 (zI0 (zI0 ⟨_,rfl,zI0 h⟩))) htake)
  | exact zA0 (zA0 (m:=Builtin.Tuple.tupleExact _) (wpAny_newObj_type (zI0 (zI0 ⟨_,rfl,zI0 h⟩)) htake))
  | exact zA0 (zA0 (m:=Builtin.Tuple.tupleExact _) (wpAny_newObj_type (zI0 ⟨_,rfl,zI0 h⟩) htake))
end
end HT
namespace L2
open PySem PySem.Spec PyProof.Rows
abbrev TO:=St->Hp->(Option Int->Hp->Prop)->Prop
def PO(X:Cx)(e:Option Expr)(t:TO):Prop:=
 ∀(pins:List (Addr×Obj))(s:Shared)(σ:St)(H:Hp)(Q:Option Int->Hp->Prop),Inv X pins σ H s->t σ H Q ->
  wpAny (model X.prog X.w) X.A (evalPart e X.env) (λu s'=>∃o H',Inv X pins σ H' s'/\IsPart u o/\Q o H') X.xe s
def Bw:TO:=λ_ H Q=>Q none H
inductive ZtPart(Q:(Option Int->Hp->Prop))(x:V)(H1:Hp):Prop
 |mk:∀i,x=.int i->Q (some i) H1->ZtPart Q x H1
def tPart(t:TE):TO:=λσ H Q=>t σ H λx H1=>ZtPart Q x H1
section
variable {X:Cx} {e:Expr} {te:TE} {lo hi:Option Expr} {tl th:TO} {pos p2:Pos}
theorem kx:PO X none Bw:=by
 intro pins s σ H Q I h;rw[evalPart_none];exact zI0 %[none,H,I,.none|h]
theorem fq(h:PE X e te):PO X (some e) (tPart te):=by
 intro pins s σ H Q I hw;rw[evalPart_some];refine thn (h pins s σ H _ I hw) λu s1 ⟨x,H1,I1,r1,q1⟩=>?_
 erw[i,1,q]at q1;erw[t,1]at r1;erw[some i,H1,I1,.int i t,q]
def SlR(X:Cx)(r:V->Option Int->Option Int->Hp->VK->Prop):Prop:=
 ∀(pins:List (Addr×Obj))(s:Shared)(σ:St)(H:Hp)(x:V)(v vl vu:Value)(lo hi:Option Int)(sl:Addr)(Q:VK),Inv X pins σ H s->RelV x v->s.heap.IsSliceOf sl vl vu .none->IsPart vl lo->IsPart vu hi->r x lo hi H Q ->
  ∃T id,typeLookup (.type T) "__getitem__"=pure (some (.builtin id))/\s.TypeIs v T/\wpAny (model X.prog X.w) X.A (getItem v (.ref sl)) (EP X pins σ Q) X.xe s
def tSl(r:V->Option Int->Option Int->Hp->VK->Prop)(te:TE)(tl th:TO):TE:=λσ H Q=>te σ H λx H1=>tl σ H1 λl H2=>th σ H2 λu H3=>r x l u H3 Q
theorem gg(hr:SlR X r)(he:PE X e te)(hl:PO X lo tl)(hu:PO X hi th):PE X (.Subscript e (.Slice lo hi none p2) pos) (tSl r te tl th):=by
 intro pins s σ H Q I h;refine Subscript_ (thn (he pins s σ H _ I h) λv s1 ⟨x,H1,I1,r1,q1⟩=>?_);refine wpAny_Slice (thn (hl pins s1 σ H1 _ I1 q1) λvl s2 ⟨l,H2,I2,pl,q2⟩=>thn (hu pins s2 σ H2 _ I2 q2) λvu s3 ⟨u,H3,I3,pu,q3⟩=>?_);rw[evalPart_none];refine zI0 ?_;have I4:Inv X pins σ H3 { s3 with heap:=s3.heap.push { cls:=.type "slice",data:=.fields #[vl,vu,.none] } }:=I3.kept (t':=s3.toks) λb ob q=>zP0 _ q
 let%[T,id,hT,ht|hg]:=hr pins { s3 with heap:=s3.heap.push { cls:=.type "slice",data:=.fields #[vl,vu,.none] } } σ H3 x v vl vu l u s3.heap.objs.size Q I4 r1 (Heap.IsSliceOf.new ..) pl pu q3;show wpAny (model X.prog X.w) X.A (subscriptTail e (.Slice lo hi none p2) v (.ref s3.heap.objs.size)) (EP X pins σ Q) X.xe { s3 with heap:=s3.heap.push { cls:=.type "slice",data:=.fields #[vl,vu,.none] } };exact tail_any (ops:=[.ref s3.heap.objs.size,v]) ht hT hg (by rfl')
def pG(xs:List V)(lo hi:Option Int):List V:=(xs.drop (HT.sIx xs.length 0 lo)).take (HT.sIx xs.length xs.length hi-HT.sIx xs.length 0 lo)
theorem tI(xs:List V)(lo hi:Option Int):(pG xs lo hi).length<=xs.length:=by
 unfold pG;rw[qH0,List.length_drop];omega
inductive rSlT(K:W.Frag)(x:V)(lo:Option Int)(hi:Option Int)(H:Hp)(Q:VK):Prop
 |mk:∀a xs,x=.ref a->SqT K H a xs->(¬ (HT.sIx xs.length 0 lo=0/\HT.sIx xs.length xs.length hi=xs.length))->(∀p,H p=none->Q (.ref p) (upd H p (.tup (pG xs lo hi))))->rSlT K x lo hi H Q
theorem qt:SlR X (rSlT X.K):=by
 intro pins s σ H x v vl vu lo hi sl Q I rx hs pl pu h;erw[a,xs,1,hx,hw,q]at h;cases rx;let%[its,r,ht|hz]:=I.tuple hx;have hlen:its.toArray.size=xs.length:=by rw[zR0];exact r.length.symm
 erw["tuple",_,PyProof.Rows.slot_tuple_getitem.lookup,ht.typeIs,6];refine HT.getItem_tuple_cut ht hs pl pu (by rw[hlen];exact hw) ?_ (by rw[hlen];exact hz);rw[hlen];erw[.ref s.heap.objs.size,_,I.laid (t':=s.toks) (o:=.tup (pG xs lo hi)) (λb ob q=>zP0 _ q) (zG0 _) ?_,1,q _ (I.hok.fresh (zG0 _))];erw[zQ0 (tI xs lo hi) hz,_,(r.drop (HT.sIx xs.length 0 lo)).take (HT.sIx xs.length xs.length hi-HT.sIx xs.length 0 lo),IsTup.new _ _,_,zZ0 _ rfl,1]
inductive rCatT(K:W.Frag)(x:V)(y:V)(H:Hp)(Q:VK):Prop
 |mk:∀a b xs ys,x=.ref a->y=.ref b->SqT K H a xs->SqT K H b ys->xs≠[]->xs.length+ys.length<=sizeLine->(ys=[]->Q (.ref a) H)->(ys≠[]->∀p,H p=none->Q (.ref p) (upd H p (.tup (xs++ys))))->rCatT K x y H Q
theorem Vals.nil_iff(r:Vals xs us):us=[]↔xs=[]:=by
 cases r with
 | nil=>simp
 | cons _ _=>simp
theorem op_catT:OpR X (binaryOp .Add) (rCatT X.K):=by
 intro pins s σ H x y v u Q I rx ry h;erw[a,b,xs,ys,1,1,ha,hb,hx,hz,q1,q2]at h;cases rx;cases ry;let%[its,r1,p1|_]:=I.tuple ha;let%[its2,r2,p2|_]:=I.tuple hb;refine HT.cat_tup p1 p2 (λz=>hx (r1.nil_iff.mp z)) (λz=>%[.ref a,H,I,1|q1 (r2.nil_iff.mp z)]) (λz=>?_) (by rw[←r1.length,←r2.length];exact hz);erw[.ref s.heap.objs.size,_,I.laid (t':=s.toks) (o:=.tup (xs++ys)) (λb ob q=>zP0 _ q) (zG0 _) ?_,1,q2 (λw=>z (r2.nil_iff.mpr w)) _ (I.hok.fresh (zG0 _))];erw[by rw[zJ0];exact hz,_,r1.append r2,IsTup.new _ _,_,zZ0 _ rfl,1]
end
def ixN(n:Nat)(i:Int):Option Nat:=if 0<=i then(if i<n then some i.toNat else none)else if -(n:Int)<=i then some (i+n).toNat else none
def atI{α:Type}(xs:List α)(i:Int):Option α:=(ixN xs.length i).bind λj=>xs[j]?
theorem rC{j:Nat}(h:ixN n i=some j):seqIndex? i n=some j/\j<n/\-(n:Int)<=i/\i<n:=by
 unfold ixN at h
 by_cases h0:0<=i
 . rw [zE0 h0]at h
   by_cases h1:i<n
   . rw[zE0 h1]at h;have e:i.toNat=j:=zU0 h;erw[by rw[seqIndex_of h0 h1,e],3,3,h1]
   . rw[zB0 h1]at h;cases h
 . rw [zB0 h0]at h
   by_cases h1:-(n:Int)<=i
   . rw[zE0 h1]at h;have e:(i+n).toNat=j:=zU0 h;erw[by rw[seqIndex_neg #[0] h1,e],3,h1,3]
   . rw[zB0 h1]at h;cases h
theorem rK{α:Type}{xs:List α}{v:α}(h:atI xs i=some v):∃j,seqIndex? i xs.length=some j/\xs[j]?=some v/\j<xs.length/\-(xs.length:Int)<=i/\i<xs.length:=by
 unfold atI at h;cases e:ixN xs.length i with
 | none=>rw[e]at h;cases h
 | some j=>
   rw[e]at h;let%[h1,h2,h3|h4]:=rC e;erw[j,h1,h,h2,h3,h4]
theorem db{α:Type}{xs:List α}{j:Nat}{v:α}(h:xs[j]?=some v):atI xs (j:Int)=some v:=by
 have hj:j<xs.length:=(zX0 h).1;have e:ixN xs.length (j:Int)=some j:=by
  unfold ixN;rw[zE0 #[0],zE0 #[0]];simp
 unfold atI;rw[e];exact h
theorem oU{α:Type}(xs:List α)(v:α):atI (xs++[v]) (-1)=some v:=by
 have hl:(xs++[v]).length=xs.length+1:=by simp
 have e:ixN (xs++[v]).length (-1)=some xs.length:=by
  unfold ixN;rw[hl,zB0 ⋯,zE0 #[0]]
  congr 1
  omega
 unfold atI;rw[e];show(xs++[v])[xs.length]?=some v
 simp
def CF(b:Expr):Prop:=∀o i,subscripted b false o i=operate [o,i] (getItem o i)
def IxR(X:Cx)(r:R2):Prop:=
 ∀(value slice:Expr)(pins:List (Addr×Obj))(s:Shared)(σ:St)(H:Hp)(x y:V)(v u:Value)(Q:VK),Inv X pins σ H s->RelV x v->RelV y u->r x y H Q ->
  subscripted slice false v u=operate [v,u] (getItem v u)->wpAny (model X.prog X.w) X.A (subscriptTail value slice v u) (EP X pins σ Q) X.xe s
def MtR(X:Cx)(id:String)(r:V->List V->Hp->VK->Prop):Prop:=
 ∀(pins:List (Addr×Obj))(s:Shared)(σ:St)(H:Hp)(x:V)(xs:List V)(v:Value)(us:List Value)(Q:VK),Inv X pins σ H s->RelV x v->Vals xs us->r x xs H Q ->
  wpAny (model X.prog X.w) X.A (call (.builtin id) (v::us)) (EP X pins σ Q) X.xe s
section
variable {X:Cx} {a b:Expr} {ta tb:TE} {pos:Pos}
theorem IxR.or(h:IxR X r)(h':IxR X r'):IxR X (λx y H Q=>r x y H Q∨r' x y H Q):=by
 intro value slice pins s σ H x y v u Q I rx ry q hs;rcases q with q | q
 . exact h value slice pins s σ H x y v u Q I rx ry q hs
 . exact h' value slice pins s σ H x y v u Q I rx ry q hs
theorem ay(hr:IxR X r)(ha:PE X a ta)(hb:PE X b tb)(hs:CF b):PE X (.Subscript a b pos) (tOp r ta tb):=by
 intro pins s σ H Q I h;exact Subscript_ (EI ha hb I h λv u s2 x y H2 I2 rx ry q=>hr a b pins s2 σ H2 x y v u Q I2 rx ry q (hs _ _))
inductive rIxL(K:W.Frag)(x:V)(y:V)(H:Hp)(Q:VK):Prop
 |mk:∀p xs i v,x=.ref p->y=.int i->SqL K H p xs->atI xs i=some v->Q v H->rIxL K x y H Q
inductive rIxT(K:W.Frag)(x:V)(y:V)(H:Hp)(Q:VK):Prop
 |mk:∀p xs i v,x=.ref p->y=.int i->SqT K H p xs->atI xs i=some v->Q v H->rIxT K x y H Q
inductive rIxS(x:V)(y:V)(H:Hp)(Q:VK):Prop
 |mk:∀z i c,x=.str z->y=.int i->z.length<=sizeLine->atI z.cps.toList i=some c->Q (.str ⟨#[c]⟩) H->rIxS x y H Q
theorem ix_list:IxR X (rIxL X.K):=by
 intro value slice pins s σ H x y v u Q I rx ry h hs;erw[p,xs,i,z,1,1,hq,he,q]at h;cases rx;erw[t,1]at ry;let%[its,r,pl|hz]:=I.list hq;let%[j,h1,h2,h3,h4|h5]:=rK he;let%[w,ew|rw']:=r.get h2;have hl:=r.length;have hn:=iD;have fin:EP X pins σ Q w s:=%[z,H,I,rw'|q]
 by_cases h0:0<=i
 . have hj:i.toNat=j:=by
    rw[seqIndex_of h0 h5]at h1;exact zU0 h1
   exact item_listR pl.isList h0 #[0] (by rw[hj];simpa using ew) fin hs
 . have hj:(i+(its.toArray.size:Int)).toNat=j:=by
    rw[seqIndex_neg #[0] h4]at h1;rw[zR0,←hl];exact zU0 h1
   exact subscriptTail_builtinR (x:=w) pl.isList.typeIs slot_list_getitem.lookup
    (wpAny_getItem_list_neg (Q:=λr s'=>r=w/\EP X pins σ Q r s') pl.isList #[0] (by rw[zR0] <;> omega) #[0] (by rw[hj];simpa using ew) %[1|fin]) hs
theorem aF:IxR X (rIxT X.K):=by
 intro value slice pins s σ H x y v u Q I rx ry h hs;erw[p,xs,i,z,1,1,hq,he,q]at h;cases rx;erw[t,1]at ry;let%[its,r,pl|hz]:=I.tuple hq;let%[j,h1,h2,h3,h4|h5]:=rK he;let%[w,ew|rw']:=r.get h2;have hl:=r.length;have hn:=iD;have fin:EP X pins σ Q w s:=%[z,H,I,rw'|q]
 exact subscriptTail_builtinR (x:=w) pl.typeIs slot_tuple_getitem.lookup
  (getItem_tuple (j:=j) (Q:=λr s'=>r=w/\EP X pins σ Q r s') pl #[0] #[0] (by rw[zR0,←hl];exact h1) (by simpa using ew) %[1|fin]) hs
theorem rm:IxR X rIxS:=by
 intro value slice pins s σ H x y v u Q I rx ry h hs;erw[z,i,c,1,1,hz,he,q]at h;erw[t,1]at rx;erw[t',1]at ry;let%[j,h1,h2,h3,h4|h5]:=rK he;have hl:z.cps.toList.length=z.length:=by simp [Str.length]
 rw [hl]at h1 h4 h5;have hn:=iD;exact tail_any (typeIs_str s z t) slot_str_getitem.lookup (getItem_str (c:=c) (by
  have e1:decide (i < -(2 ^ 63:Int))=false:=decide_eq_false #[0];have e2:decide (i≥2 ^ 63)=false:=decide_eq_false #[0];rw[e1,e2,Bool.or_false]) (by rw[h1];simpa using h2) %[.str %[|#[c]],H,I.tok _,%[|0]|q]) hs
theorem vn (its:List Value) (n j:Nat) (u:Value):Obj.mapSeq (·.setIfInBounds j u) { cls:=.type "list",data:=.seq its.toArray n }={ cls:=.type "list",data:=.seq (its.set j u).toArray n }:=by
 simp [Obj.mapSeq]
theorem Inv.lst{pins:List (Addr×Obj)}{σ:St}{H:Hp}{s:Shared}{p:Addr}{xs:List V}(I:Inv X pins σ H s)(h:H p=some (.lst xs)) :
 ∃(its:List Value) (n:Nat),Vals xs its/\s.heap.get? p=some { cls:=.type "list",data:=.seq its.toArray n }/\xs.length<=sizeLine:=by
 let%[z,its,n,r|e]:=I.hok p _ h;erw[its,n,r,e,z]
theorem Inv.lstUpd{σ:St}{p:Addr}{xs:List V}{its its':List Value}{n n':Nat}{f:Obj->Obj}(I:Inv X pins σ H s)(h:H p=some (.lst xs))
 (ho:s.heap.get? p=some { cls:=.type "list",data:=.seq its.toArray n }) (hf:f { cls:=.type "list",data:=.seq its.toArray n }={ cls:=.type "list",data:=.seq its'.toArray n' }) (r:Vals ys its') (hz:ys.length<=sizeLine) (t:Nat) :
 Inv X pins σ (upd H p (.lst ys)) { s with heap:=s.heap.update p f,toks:=t }:=by
 have e:(s.heap.update p f).get? p=some { cls:=.type "list",data:=.seq its'.toArray n' }:=by
  rw[Heap.get?_update_self f ho (by rw[hf] <;> rfl),hf]
 refine I.write (x:=p) (e:=p) (by rw[h];trivial) (.inl rfl) (λb u hb q=>(Heap.get?_update_other _ _ (Ne.symm hb)).trans q) %[_|e] ?_;erw[hz,its',n',r,e]
inductive rSetL(o:V)(i:V)(v:V)(H:Hp)(Q:(Hp->Prop)):Prop
 |mk:∀p xs k j,o=.ref p->i=.int k->H p=some (.lst xs)->ixN xs.length k=some j->Q (upd H p (.lst (xs.set j v)))->rSetL o i v H Q
theorem mV:PSet X rSetL:=by
 intro pins s σ H o i v ov iv u Q I ro ri rv h;erw[p,xs,k,j,1,1,hp,hj,q]at h;cases ro;erw[t,1]at ri;let%[its,n,r,ho|hz]:=I.lst hp;let%[h1,h2,h3|h4]:=rC hj;have hl:=r.length;have hn:=iD;have I':Inv X pins σ (upd H p (.lst (xs.set j v))) { s with heap:=s.heap.update p (Obj.mapSeq (·.setIfInBounds j u)) }:=
  I.lstUpd hp ho (vn its n j u) (r.set rv j) (by rw[List.length_set];exact hz) s.toks
 by_cases h0:0<=k
 . have hk:k.toNat=j:=by
    rw[seqIndex_of h0 h4]at h1;exact zU0 h1
   exact PySem.W.ki_setAt ho h0 #[0] (by rw[zR0,←hl];exact h4) (by rw[hk];erw[_,I',q])
 . have hk:(k+(its.toArray.size:Int)).toNat=j:=by
    rw[seqIndex_neg #[0] h3]at h1;rw[zR0,←hl];exact zU0 h1
   exact PySem.W.ki_setBack ho #[0] (by rw[zR0,←hl];exact h3) #[0] (by rw[hk];erw[_,I',q])
def hU:V->Bool
 | .non=>true
 | .bl _=>true
 | .int _=>true
 | .str _=>true
 | _=>false
def eqV:V->V->Bool
 | .non,.non=>true
 | .bl a,.bl b=>a==b
 | .bl a,.int b=>(if a then 1 else 0)==b
 | .int a,.bl b=>a==(if b then 1 else 0)
 | .int a,.int b=>a==b
 | .str a,.str b=>a==b
 | _,_=>false
theorem Ez{A:Around}{s:Shared}(ry:RelV y u)(rx:RelV x v)(fy:hU y=true)(fx:hU x=true):SeqAt.EqAt A s u v (eqV y x):=by
 cases y with
 | non=>
   cases ry;cases x with
   | non=>cases rx;exact SeqAt.EqAt.same _
   | bl b=>cases rx;exact SeqAt.EqAt.none_bool b
   | int b=>erw[t,1]at rx;exact SeqAt.EqAt.none_int b t
   | str b=>erw[t,1]at rx;exact SeqAt.EqAt.none_str b t
   | _=>exact absurd (show false=true from fx) qB0
 | bl a=>
   cases ry;cases x with
   | non=>cases rx;exact SeqAt.EqAt.bool_none a
   | bl b=>cases rx;exact SeqAt.EqAt.bool_bool a b
   | int b=>erw[t,1]at rx;exact SeqAt.EqAt.bool_int a b t
   | str b=>erw[t,1]at rx;exact SeqAt.EqAt.bool_str a b t
   | _=>exact absurd (show false=true from fx) qB0
 | int a=>
   erw[t',1]at ry;cases x with
   | non=>cases rx;exact SeqAt.EqAt.int_none a t'
   | bl b=>cases rx;exact SeqAt.EqAt.int_bool a t' b
   | int b=>erw[t,1]at rx;exact SeqAt.EqAt.int_int a t' b t
   | str b=>erw[t,1]at rx;exact SeqAt.EqAt.int_str a t' b t
   | _=>exact absurd (show false=true from fx) qB0
 | str a=>
   erw[t',1]at ry;cases x with
   | non=>cases rx;exact SeqAt.EqAt.str_none a t'
   | bl b=>cases rx;exact SeqAt.EqAt.str_bool a t' b
   | int b=>erw[t,1]at rx;exact SeqAt.EqAt.str_int a t' b t
   | str b=>erw[t,1]at rx;exact SeqAt.EqAt.str_str a t' b t
   | _=>exact absurd (show false=true from fx) qB0
 | _=>exact absurd (show false=true from fy) qB0
def eqU(x:V)(u:Value):Bool:=match u with
 | .none=>eqV .non x
 | .bool b=>eqV (.bl b) x
 | .int i _=>eqV (.int i) x
 | .str z _=>eqV (.str z) x
 | _=>false
theorem vB(r:RelV y u)(f:hU y=true):eqU x u=eqV y x:=by
 cases y with
 | non=>cases r;rfl
 | bl b=>cases r;rfl
 | int i=>erw[t,1]at r;rfl
 | str z=>erw[t,1]at r;rfl
 | _=>exact absurd (show false=true from f) qB0
theorem kP:∀{xs:List V}{us:List Value},Vals xs us->xs.all hU=true->us.any (eqU x)=xs.any λy=>eqV y x
 | _,_,.nil,_=>rfl
 | y::xs,u::us,.cons r t,f=>by
   rw[List.all_cons,Bool.and_eq_true]at f;rw[List.any_cons,List.any_cons,vB r f.1,kP t f.2]
theorem eW{A:Around}{s:Shared}(rx:RelV x v)(fx:hU x=true):∀{xs:List V}{us:List Value},Vals xs us->xs.all hU=true->∀u∈us,SeqAt.EqAt A s u v (eqU x u)
 | _,_,.nil,_=>λu hu=>by cases hu
 | y::xs,u::us,.cons r t,f=>λu' hu=>by
   rw[List.all_cons,Bool.and_eq_true]at f;rcases zV0 hu with rfl | hu
   . rw[vB r f.1];exact Ez r rx f.1 fx
   . exact eW rx fx t f.2 u' hu
def inV(x:V)(xs:List V):Bool:=xs.any λy=>eqV y x
inductive rIn(K:W.Frag)(neg:Bool)(x:V)(y:V)(H:Hp)(Q:VK):Prop
 |mk:∀p xs,y=.ref p->SqL K H p xs∨SqT K H p xs->hU x=true->xs.all hU=true->Q (.bl (if neg then !inV x xs else inV x xs)) H->rIn K neg x y H Q
theorem dB:OpR X (compareOp .In) (rIn X.K false):=by
 intro pins s σ H x y v u Q I rx ry h;erw[p,xs,1,hq,fx,fs,q]at h;cases ry;rcases hq with hq | hq
 . let%[its,r,pl|hz]:=I.list hq;refine SeqAt.in_listAt (eqU x) pl.isList (λw hw=>eW rx fx r fs w (by simpa using hw)) %[.bl _,H,I,1|6];rw[show its.toArray.any (eqU x)=its.any (eqU x) by simp,kP r fs];exact q
 . let%[its,r,pl|hz]:=I.tuple hq;refine SeqAt.in_tupleAt (eqU x) pl (λw hw=>eW rx fx r fs w (by simpa using hw)) %[.bl _,H,I,1|6];rw[show its.toArray.any (eqU x)=its.any (eqU x) by simp,kP r fs];exact q
theorem qT:OpR X (compareOp .NotIn) (rIn X.K true):=by
 intro pins s σ H x y v u Q I rx ry h;erw[p,xs,1,hq,fx,fs,q]at h;cases ry;rcases hq with hq | hq
 . let%[its,r,pl|hz]:=I.list hq;refine SeqAt.notIn_listAt (eqU x) pl.isList (λw hw=>eW rx fx r fs w (by simpa using hw)) %[.bl _,H,I,1|6];rw[show its.toArray.any (eqU x)=its.any (eqU x) by simp,kP r fs];exact q
 . let%[its,r,pl|hz]:=I.tuple hq;refine SeqAt.notIn_tupleAt (eqU x) pl (λw hw=>eW rx fx r fs w (by simpa using hw)) %[.bl _,H,I,1|6];rw[show its.toArray.any (eqU x)=its.any (eqU x) by simp,kP r fs];exact q
theorem qS:OpR X (compareOp .NotIn) (λx y H Q=>∃i j,x=.str i/\y=.str j/\Q (.bl (!(!(Builtin.Str.occurrences j i 0 j.length 1).isEmpty))) H):=by
 intro pins s σ H x y v u Q I rx ry h;erw[i,j,1,1,q]at h;erw[t,1]at rx;erw[t',1]at ry;exact notIn_str %[.bl _,H,I,1|q]
inductive rLen(K:W.Frag)(xs:List V)(H:Hp)(Q:VK):Prop
 |mk:∀p ys,xs=[.ref p]->SqL K H p ys∨SqT K H p ys->Q (.int ys.length) H->rLen K xs H Q
theorem aE:gy X (.builtin "len") (rLen X.K):=by
 intro pins s σ H xs us Q I r h;erw[p,ys,1,hq,q]at h;let%[u,1|rx]:=jG r;cases rx;have hn:=iD;rcases hq with hq | hq
 . let%[its,r',pl|hz]:=I.list hq;have hlen:=r'.length;exact Calls.call_len_list pl.isList (by simp only[zR0] <;> omega) %[.int ys.length,H,I.tok _,%[s.toks+1|by rw[zR0,hlen]]|q]
 . let%[its,r',pl|hz]:=I.tuple hq;have hlen:=r'.length;exact len_tuple pl (by simp only[zR0] <;> omega) %[.int ys.length,H,I.tok _,%[s.toks+1|by rw[zR0,hlen]]|q]
theorem cw:gy X (.builtin "len") (λxs H Q=>∃z,xs=[.str z]/\z.length<=sizeLine/\Q (.int z.length) H):=by
 intro pins s σ H xs us Q I r h;erw[z,1,hz,q]at h;let%[u,1,t|1]:=jG r;have hn:=iD;exact len_str #[0] %[.int z.length,H,I.tok _,%[|0]|q]
inductive rListOf(K:W.Frag)(xs:List V)(H:Hp)(Q:VK):Prop
 |mk:∀p ys,xs=[.ref p]->SqL K H p ys∨SqT K H p ys->(∀l,H l=none->Q (.ref l) (upd H l (.lst ys)))->rListOf K xs H Q
theorem kO:gy X (.type "list") (rListOf X.K):=by
 intro pins s σ H xs us Q I r h;erw[p,ys,1,hq,q]at h;let%[u,1|rx]:=jG r;cases rx;have fin:∀(its:List Value),Vals ys its->ys.length<=sizeLine->∀(h':Heap)(c':Nat),(∀b o',s.heap.get? b=some o'->h'.get? b=some o') ->
  h'.get? s.heap.objs.size=some { cls:=.type "list",dict:=none,data:=.seq its.toArray c',slots:=#[] }->EP X pins σ Q (.ref s.heap.objs.size) { s with heap:=h' }:=λits r' hz h' c' kp e=>
  %[.ref s.heap.objs.size,_,I.laid (t':=s.toks) kp (zG0 _) (show ObjOk X.prog X.w _ h' _ (.lst ys)from%[hz,its,c',r'|e]),1|q _ (I.hok.fresh (zG0 _))]
 rcases hq with hq | hq
 . let%[its,r',pl|hz]:=I.list hq;have hlen:=r'.length;erw[o,ho,hc,n,hd]at pl.isList;exact call_list_seq p (.inl rfl) ho hc hd (λh' c' kp e=>fin its r' hz h' c' kp e) (by simp only[zR0] <;> omega)
 . let%[its,r',pl|hz]:=I.tuple hq;have hlen:=r'.length;erw[o,ho,hc,n,hd]at pl;exact call_list_seq p (.inr rfl) ho hc hd (λh' c' kp e=>fin its r' hz h' c' kp e) (by simp only[zR0] <;> omega)
inductive rTupOf(K:W.Frag)(xs:List V)(H:Hp)(Q:VK):Prop
 |mk:∀p ys,xs=[.ref p]->(SqL K H p ys/\∀l,H l=none->Q (.ref l) (upd H l (.tup ys)))∨(SqT K H p ys/\Q (.ref p) H)->rTupOf K xs H Q
theorem bp:gy X (.type "tuple") (rTupOf X.K):=by
 intro pins s σ H xs us Q I r h;erw[p,ys,1,h]at h;let%[u,1|rx]:=jG r;cases rx;rcases h with⟨hq,q⟩ | ⟨hq,q⟩
 . let%[its,r',pl|hz]:=I.list hq;have hlen:=r'.length;refine call_tuple_list pl.isList (λh' kp=>?_) (by simp only[zR0] <;> omega);have I1:Inv X pins σ H { s with heap:=h' }:=I.kept (t':=s.toks) kp;have I2:Inv X pins σ (upd H h'.objs.size (.tup ys)) { s with heap:=h'.push { cls:=.type "tuple",data:=.seq its.toArray } }:=
    I1.laid (t':=s.toks) (λb o e=>zP0 _ e) (zG0 _) (show ObjOk X.prog X.w _ _ _ (.tup ys)from%[hz,its,r',IsTup.new _ _,_,zZ0 _ rfl|1])
   erw[.ref h'.objs.size,_,I2,1,q _ (I1.hok.fresh (zG0 _))]
 . let%[its,r',pl|hz]:=I.tuple hq;exact call_tuple_same pl %[.ref p,H,I,1|q]
def tyV(K:W.Frag)(T:String)(x:V)(H:Hp):Prop:=match x with
 | .str _=>T="str"
 | .int _=>T="int"
 | .ref p=>(T="list"/\∃xs,SqL K H p xs)∨(T="tuple"/\∃o,K.lookup p=some o/\o.cls=.type "tuple"/\o.dict=none)∨
  (T="dict"/\((∃kvs,H p=some (.dK kvs))∨∃kvs,H p=some (.dT kvs)))∨(T="set"/\∃S n,H p=some (.set S n))
 | _=>False
theorem Dr{σ:St}(I:Inv X pins σ H s)(r:RelV x v)(ty:tyV X.K T x H) :
 s.TypeIs v T/\∀a,v=.ref a->∃ob,s.heap.get? a=some ob/\ob.dict=none:=by
 cases x with
 | str z=>
   erw[t,1]at r;cases(show T="str" from ty);erw[typeIs_str s z t,λ_ e=>nomatch e]
 | int i=>
   erw[t,1]at r;cases(show T="int" from ty);erw[typeIs_int s i t,λ_ e=>nomatch e]
 | ref p=>
   cases r;rcases ty with⟨rfl,xs,hq⟩ | ⟨rfl,o,hk,hc,hd⟩ | ⟨rfl,hk⟩ | ⟨rfl,S,n,hk⟩
   . let%[its,_,pl|_]:=I.list hq;erw[pl.isList.typeIs,λa e=>?_];cases e;erw[o,n,e,c,hd,_]at pl;erw[o,e,hd]
   . erw[%[o,I.kIn p o hk|hc],λa e=>?_];cases e;erw[o,I.kIn _ o hk,hd]
   . have z:∃o,s.heap.get? p=some o/\o.ExactDict:=by
      rcases hk with⟨kvs,hk⟩ | ⟨kvs,hk⟩
      . let%[_,_,_,_,o,_,_,e,ex|_]:=I.hok p _ hk;erw[o,e,ex]
      . let%[_,_,_,_,o,_,_,e,ex|_]:=I.hok p _ hk;erw[o,e,ex]
     erw[o,e,ex]at z;erw[%[o,e|ex.1],λa e2=>?_];cases e2;erw[o,e,ex.2.1]
   . let%[o,_,_,_,e,ex|_]:=I.hok p _ hk;erw[%[o,e|ex.1],λa e2=>?_];cases e2;erw[o,e,ex.2.1]
 | _=>exact False.elim ty
inductive ZtBM(K:W.Frag)(T:String)(r:V->List V->Hp->VK->Prop)(t:TA)(σ:St)(Q:VK)(x:V)(H1:Hp):Prop
 |mk:tyV K T x H1->(t σ H1 λxs H2=>r x xs H2 Q)->ZtBM K T r t σ Q x H1
def tBM(K:W.Frag)(T:String)(r:V->List V->Hp->VK->Prop)(to:TE)(t:TA):TE:=λσ H Q=>to σ H λx H1=>ZtBM K T r t σ Q x H1
variable {o e:Expr} {es:List Expr} {to:TE} {t:TA} {name:Str} {apos cpos:Pos} {T id:String} {r:V->List V->Hp->VK->Prop}
theorem dq (pa:PlainAttrs T) (slot:Slot T name id) (hty:typeOf (.builtin id)=pure (.type "method_descriptor")) (hm:MtR X id r) (ho:PE X o to) (ha:PA X (e::es) t)
 (hbase:attributeBase o name X.env (eval o X.env)=eval o X.env:=by rfl)
 (hfew:((backTo cpos (starEach (e::es) X.env)).all (λx=>!x.1)&&(backToKw cpos (keywordEach [] X.env)).all (λx=>x.1.isSome)
  &&decide ((e::es).length+([]:List Keyword).length+(if([]:List Keyword).isEmpty then 0 else 1)<30))=true:=by rfl)
 (hline:(apos.endLine==cpos.line)=true:=by rfl) (hs:starEach (e::es) X.env=(false,eval e X.env)::starEach es X.env:=by rfl) (hplain:(backTo cpos (starEach es X.env)).any (·.1)=false:=by rfl) :
 PE X (.Call (.Attribute o name apos) (e::es) [] cpos) (tBM X.K T r to t):=by
 intro pins s σ H Q I h;refine wpAny_Call_method_late hbase hfew hline rfl (thn (ho pins s σ H _ I h) λv s1 ⟨x,H1,I1,r1,ty,q1⟩=>?_);let%[h1|h2]:=Dr I1 r1 ty;erw[T,id,pa,slot,hty,h1,h2,6];have hA:=ha cpos pins s1 σ H1 _ I1 q1;rw[hs]at hA ⊢;refine Calls.callWith_builtin (by show(false||(backTo cpos (starEach es X.env)).any (·.1))=false;rw[hplain] <;> rfl) (Calls.evalArgs_plain ?_);exact thn hA λus s2 ⟨vs,H2,I2,r2,q2⟩=>hm pins s2 σ H2 x vs v us Q I2 r1 r2 q2
/- xs.append(e),list.index on a module's tuple .. are MtR facts of 06m -/
end
def MtM(X:Cx)(id:String)(r:V->List V->Hp->VK->Prop):Prop:=
 ∀(pins:List (Addr×Obj))(s:Shared)(σ:St)(H:Hp)(x:V)(xs:List V)(v:Value)(us:List Value)(Q:VK),Inv X pins σ H s->RelV x v->Vals xs us->r x xs H Q ->
  wpAny (model X.prog X.w) X.A (call (.builtin id) (v::us)) (EP X pins σ Q) X.xe s
theorem Vals.one:∀{x:V}{us:List Value},Vals [x] us->∃u,us=[u]/\RelV x u
 | _,_,.cons r .nil=>%[0|r]
theorem Vals.rep(h:Vals xs us):∀k:Nat,Vals (List.replicate k xs).flatten (List.replicate k us).flatten
 | 0=>.nil
 | k+1=>by
   rw[List.replicate_succ,List.replicate_succ,List.flatten_cons,List.flatten_cons];exact Vals.append h (Vals.rep h k)
theorem qc(its:List Value):∀(k:Nat)(acc:List Value),
 List.foldl (λx1 x2=>x1++x2) acc.toArray (List.replicate k its.toArray)=(acc++(List.replicate k its).flatten).toArray
 | 0,acc=>by simp
 | k+1,acc=>by
   have e:acc.toArray++its.toArray=(acc++its).toArray:=by simp
   have e2:(acc++its)++(List.replicate k its).flatten=acc++(List.replicate (k+1) its).flatten:=by
    rw[List.replicate_succ,List.flatten_cons,List.append_assoc]
   rw[←e2,←qc its k (acc++its),←e,List.replicate_succ,List.foldl_cons]
section
variable {X:Cx} {pins:List (Addr×Obj)} {σ:St} {H:Hp} {s:Shared} {l b:Addr} {xs ys zs:List V}
theorem Inv.lset{its its':List Value}{n:Nat}{f:Array Value->Array Value}{t':Nat}(I:Inv X pins σ H s)(hH:H l=some (.lst xs))
 (e:s.heap.get? l=some { cls:=.type "list",data:=.seq its.toArray n }) (hf:f its.toArray=its'.toArray) (hv:Vals ys its') (hz:ys.length<=sizeLine) :
 Inv X pins σ (upd H l (.lst ys)) { s with heap:=s.heap.update l (Obj.mapSeq f),toks:=t' }:=by
 have q:=PySem.IsL.update e f;rw[hf]at q;refine I.write (x:=l) (e:=l) (by rw[hH];exact trivial) (.inl rfl) (λb' u hb hu=>(Heap.get?_update_other s.heap (Obj.mapSeq f) (Ne.symm hb)).trans hu) %[_|q] ?_;erw[hz,its',_,hv,q]
theorem Inv.lnew{t':Nat}(I:Inv X pins σ H s)(hv:Vals ys its)(hz:ys.length<=sizeLine) :
 Inv X pins σ (upd H s.heap.objs.size (.lst ys)) { s with heap:=s.heap.push { cls:=.type "list",data:=.seq its.toArray },toks:=t' }:=
 I.laid (λ_ _ q=>zP0 _ q) (zG0 _) %[hz,its,(0),hv|zZ0 _ rfl]
theorem Inv.fresh(I:Inv X pins σ H s):H s.heap.objs.size=none:=I.hok.fresh (zG0 _)
theorem Inv.lstM (I:Inv X pins σ H s) (hH:H l=some (.lst xs)):xs.length<=sizeLine/\∃(its:List Value) (n:Nat),Vals xs its/\xs.length=its.length/\s.heap.get? l=some { cls:=.type "list",data:=.seq its.toArray n }:=by
 let%[z,its,n,r|e]:=I.hok l _ hH;erw[z,its,n,r,r.length,e]
theorem sJ{n:Nat}(h:n<=sizeLine):Builtin.List.listTooLong n=false:=by
 unfold Builtin.List.listTooLong;exact decide_eq_false #[0]
end
section
variable {X:Cx}
inductive rAppend(x:V)(vs:List V)(H:Hp)(Q:VK):Prop
 |mk:∀l xs y,x=.ref l->vs=[y]->H l=some (.lst xs)->xs.length<sizeLine->Q .non (upd H l (.lst (xs++[y])))->rAppend x vs H Q
theorem bU:MtM X "list.append" rAppend:=by
 intro pins s σ H x vs v us Q I rx rv h;erw[l,xs,y,1,1,hH,hz,q]at h;cases rx;erw[u,1,ru]at rv.one;let%[z,its,n,r,hl|e]:=I.lstM hH;refine call_meets F.slot_list_append %[_,e|1] F.entry_list_append (F.args_list_append_2 _ _) (PySem.list_append l its.toArray n u (by rw[zR0];omega)) ⟨e,?_⟩;erw[.non,_,I.lset (its':=its++[u]) hH e (by simp) (r.append (.cons ru .nil)) ?_,1,q];rw[zJ0,qK0];omega
inductive rExtend(x:V)(vs:List V)(H:Hp)(Q:VK):Prop
 |mk:∀l b xs zs,x=.ref l->vs=[.ref b]->H l=some (.lst xs)->H b=some (.lst zs)->xs.length+zs.length<=sizeLine->Q .non (upd H l (.lst (xs++zs)))->rExtend x vs H Q
theorem xS:MtM X "list.extend" rExtend:=by
 intro pins s σ H x vs v us Q I rx rv h;erw[l,b,xs,zs,1,1,hH,hB,hz,q]at h;cases rx;erw[u,1,ru]at rv.one;cases ru;let%[z,its,n,r,hl|e]:=I.lstM hH;let%[z2,its2,n2,r2,hl2|e2]:=I.lstM hB;have hsz:its.toArray.size+its2.toArray.size<=sizeLine:=by rw[zR0,zR0];omega
 have hlong:¬ (!its.toArray.isEmpty&&Builtin.List.listTooLong (its.toArray.size+its2.toArray.size))=true:=by
  rw[sJ hsz,Bool.and_false];exact qB0
 refine call_meets F.slot_list_extend %[_,e|1] F.entry_list_extend (F.args_list_extend_2 _ _)
  (AutoSeq1.list_extend_list_list_0 l its.toArray n b its2.toArray n2 hlong (by rw[zR0];omega) #[0]) %[e,e2|6]
 erw[.non,_,I.lset (its':=its++its2) hH e (by simp) (r.append r2) ?_,1,q];rw[zJ0];omega
inductive rCat(x:V)(y:V)(H:Hp)(Q:VK):Prop
 |mk:∀l b xs zs,x=.ref l->y=.ref b->H l=some (.lst xs)->H b=some (.lst zs)->xs.length+zs.length<=sizeLine->(∀p,H p=none->Q (.ref p) (upd H p (.lst (xs++zs))))->rCat x y H Q
theorem og:OpR X (binaryOp .Add) rCat:=by
 intro pins s σ H x y v u Q I rx ry h;erw[l,b,xs,zs,1,1,hH,hB,hz,q]at h;cases rx;cases ry;let%[z,its,n,r,hl|e]:=I.lstM hH;let%[z2,its2,n2,r2,hl2|e2]:=I.lstM hB;refine PySem.P.add_list e e2 ?_ (by rw[zR0,zR0];omega);have ea:its.toArray++its2.toArray=(its++its2).toArray:=by simp
 rw[ea];erw[.ref _,_,I.lnew (t':=s.toks) (r.append r2) (by rw[zJ0];omega),1,q _ I.fresh]
inductive rRep(x:V)(y:V)(H:Hp)(Q:VK):Prop
 |mk:∀l k xs,x=.ref l->y=.int k->H l=some (.lst xs)->-(2 ^ 63)<=k->k<2 ^ 63->xs.length*k.toNat<=sizeLine->(∀p,H p=none->Q (.ref p) (upd H p (.lst (List.replicate k.toNat xs).flatten)))->rRep x y H Q
theorem Cn{α:Type}(xs:List α)(k:Nat):(List.replicate k xs).flatten.length=k*xs.length:=by
 induction k with
 | zero=>simp
 | succ k ih=>rw[List.replicate_succ,List.flatten_cons,zJ0,ih,Nat.succ_mul,Nat.add_comm]
theorem DO:OpR X (binaryOp .Mult) rRep:=by
 intro pins s σ H x y v u Q I rx ry h;erw[l,k,xs,1,1,hH,h1,h2,hz,q]at h;cases rx;erw[t,1]at ry;let%[z,its,n,r,hl|e]:=I.lstM hH;have hlen:its.toArray.size*k.toNat<=sizeLine:=by rw[zR0,←hl];exact hz
 have hcap:¬ its.toArray.size*k.toNat>(2 ^ 63-1) / 8:=by
  have:(sizeLine:Nat)<=(2 ^ 63-1) / 8:=by decide
  omega
 have hfit:¬ (!Builtin.List.listFitsIndex k)=true:=by
  rw[fitsIndex_both h1 h2];exact qB0
 have hlong:¬ Builtin.List.listTooLong (its.toArray.size*k.toNat)=true:=by
  rw[sJ hlen];exact qB0
 have hnew:List.foldl (λx1 x2=>x1++x2) #[] (List.replicate (if its.toArray.isEmpty=true then 0 else k.toNat) its.toArray)=(List.replicate k.toNat its).flatten.toArray:=by
  have f0:∀m:Nat,List.foldl (λx1 x2=>x1++x2) #[] (List.replicate m its.toArray)=(List.replicate m its).flatten.toArray:=λm=>by
   have:=qc its m []
   rw[List.nil_append]at this;exact this
  rw[f0];cases its with
  | nil=>simp
  | cons a r'=>rw[zB0 (by simp)]
 refine wpAny_binaryOp_repeat_ref (T:="list") (U:="int") ⋯ %[_,e|1] (λs'=>typeIs_int s' k t) noFill_list_mul F.fills_int_mul F.slot_int_rmul repeat_list F.slot_int_index.lookup
  (call_meets F.slot_int_rmul (typeIs_int s k t) F.entry_int_rmul (F.args_int_rmul_2 _ _) (int___rmul___int_list k t l its.toArray n)
   %[e,1,%[_,e|1]|call_meets F.slot_list_mul ⟨_,e,rfl⟩ F.entry_list_mul (F.args_list_mul_2 _ _) (AutoListH.list___mul___list_int_3 l its.toArray n k t hfit hcap hlong) ⟨e,?_⟩])
 rw[hnew];erw[.ref _,_,I.lnew (t':=s.toks) (r.rep k.toNat) (by rw[Cn,Nat.mul_comm];exact hz),1,q _ I.fresh]
end
end L2
namespace Att
open PySem PySem.W PySem.Calls PyProof.Rows
theorem mh{P:Params}{h:Heap}:∀(ns:List Int)(vs:List Value),WellAll P h vs (ns.map WData.int)->IntsAre vs ns:=by
 intro ns
 induction ns with
 | nil=>
   intro vs w;rw[List.map_nil]at w;cases w;exact .nil
 | cons n ns ih=>
   intro vs w;rw[qC0]at w;cases w with
   | cons a b=>
     cases a;exact .cons _ _ (ih _ b)
theorem wZ{l:OpenLaw}{n:Nat}(hn:l.most=some n){P:Params}{h:Heap}{args:List WData}{vals:List Value}
 (hpre:l.row.toRowW.claim.pre args=true) (hwl:WellAll P h vals args) :
 ∃a vs ns,vals=[Value.ref a]/\args=[WData.list (ns.map WData.int)]/\h.get? a=some { cls:=.type "list",data:=.seq vs.toArray }/\IntsAre vs ns/\ns.length<=n:=by
 have hsh:WShape.hasAll [] args [.list .int]=true:=(pre_splitW hpre).1;have hc:l.pre.holds [] { args:=args }=true:=(pre_splitW hpre).2;let%[d,r,1,h1|h2]:=hasAllW_cons hsh;obtain rfl:=hasAllW_nil h2;let%[xs,1|h3]:=hasW_list h1;let%[ns|1]:=items_int h3;have hlen:ns.length<=n:=by
  unfold OpenLaw.pre at hc;have h4:(WTm.not (.lt (.lit (.int (n:Int))) (.len (.arg 0)))).holds [] { args:=[.list (ns.map .int)] }=true:=by
   have h4:=(holds_andW hc).1;rw[hn]at h4;exact h4
  have h5:=condW_of h4 (w_not (w_lt w_lit (w_len_list (w_arg rfl))));rw[zH0]at h5;refine Nat.le_of_not_lt λq=>?_
  have q':(n:Int)<((ns.length:Nat):Int):=by omega
  first
   | (rw[decide_eq_true q']at h5;exact absurd h5 ⋯)
   | (simp at h5;omega)
 cases hwl with
 | cons w1 w2=>
   cases w2;cases w1 with
   | list ho hall=>erw[_,_,ns,1,1,ho,mh ns _ hall,hlen]
theorem xz(l:OpenLaw)(args:List WData):l.row.toRowW.claim.post args (.bool true) args=true:=
 postW_of (r:=l.row.toRowW) (X:=(true==true))
  (show WShape.has [] (.bool true) .bool=true by first | rfl | decide | simp [WShape.has,WShape.arms,WShape.armsAll])
  (show(WTm.eq .res (.lit (.bool true))).value [] { args:=args,res:=some (.bool true),after:=args }=some (.bool (true==true))from w_eq_bool (w_res rfl) w_lit) rfl
theorem attach_call{l:OpenLaw}{n:Nat}{q:Program}{loose:List Str}{XP:(Str->Option Value)->Heap->Prop}{YP:World->Heap->Prop}{d:DefRec}
 (hn:l.most=some n) (hdf:d.params.defaults=[])
 (call:∀(w:World)(s₀ s₁:Shared)(mg mb:Str->Option Value)(fa:Addr)(o:Obj)(pm cd doc:Value)(a:Addr)(vs:List Value)(ns:List Int),
  Ground q loose [] XP w s₀ mg mb s₁.heap->YP w s₁.heap ->
  s₁.heap.get? fa=some o->o.data=.func (docDef d.name d.params d.body d.scope pm cd doc)->s₁.heap.CodeRec cd d.name->mg d.name=some (.ref fa) ->
  s₁.heap.get? a=some { cls:=.type "list",data:=.seq vs.toArray }->IntsAre vs ns->ns.length<=n->s₁.gens=#[] ->
  codeAny (model l.prog w) callerA (.call (.ref fa) %[[.ref a]|[]]) (λr s'=>r=.ok (.ret (.bool true))/\OldK s₁.heap s'.heap/\s'.os=s₁.os/\AllBare s'.gens) s₁) :
 WalkO q loose XP YP l.row.toRowW d [] (λf vs=>PySem.call f vs):=by
 intro w s₀ s₁ mg mb G Y fa o pm cd doc dV kV ho hd hcd hD hmg hg args vals as hpre hlay hrd hwl hlo;obtain rfl:dV=.none:=Dflts.none hD hdf;obtain rfl:kV=.none:=Dflts.noKw hD;let%[a,vs,ns,1,1,hobj,hints|hlen]:=wZ hn hpre hwl;refine enter_call (codeAny_mono (call w s₀ s₁ mg mb fa o pm cd doc a vs ns G Y ho (fd_plain hd) hcd hmg hobj hints hlen hg) λr s' hq=>?_);erw[1,h2,h3,h4]at hq;erw[.inl %[.bool true,.bool true,[],1,λ_=>rfl,.bool true,xz l _|λ_=>%[List.Pairwise.nil|λ_ hm=>(nomatch hm)]],h2,h3,h4]
end Att
namespace L2
open PySem PySem.Spec PyProof.Rows
theorem pK:∀{vs:List Value}{ns:List Int},IntsAre vs ns->Vals (ns.map V.int) vs
 | _,_,.nil=>.nil
 | _,_,.cons n t h=>.cons %[t|1] (pK h)
def EM(H:Hp):Prop:=∀b,H b=none∨∃o xs,H b=some (.frz o (.lst xs))
theorem AA{K:W.Frag}{mg mb:Str->Option Value}{a:Addr}{x:Str}{s₁:Shared}{vs:List Value}{ns:List Int}
 (KX:K.In s₁.heap) (hns:s₁.heap.Ns mainGlobals mg) (hb:s₁.heap.Ns builtinsNs mb) (hbb:∀x:Str,x≠"__name__" -> mb x=bootBuiltins x) (hlim:s₁.heap.NoLimit) (hg:s₁.gens=#[])
 (ha:s₁.heap.get? a=some { cls:=.type "list",data:=.seq vs.toArray }) (hi:IntsAre vs ns) (hl:ns.length<=sizeLine) (hr:Room k callerA)
 (F:∀base:Heap,K.In base->base.Ns mainGlobals mg->FnOk P w K mg base CX k fa fd [x] sp) (hbind:∀(s:Shared)(u:Value),BindsTo s fd %[[u]|[]] [(x,u)])
 (hsp:∀H:Hp,EM H->SqL K H a (ns.map V.int)->sp [.ref a] H (λv _=>v=.bl true) λ_ _ _=>False)
 (hCX:∀H e s',CX [] H s₁ (λ_ _ _=>False) e s'->False) :
 codeAny (model P w) callerA (.call (.ref fa) %[[.ref a]|[]]) (λr s'=>r=.ok (.ret (.bool true))/\OldK s₁.heap s'.heap/\s'.os=s₁.os/\AllBare s'.gens) s₁:=by
 have rv:=pK hi;have lenV:=hi.length;have core:∀H:Hp,EM H->SqL K H a (ns.map V.int)->HOk P w H s₁.heap->(∀b,H b≠none->b=a)->(H a≠none->K.lookup a=none) ->
  codeAny (model P w) callerA (.call (.ref fa) %[[.ref a]|[]]) (λr s'=>r=.ok (.ret (.bool true))/\OldK s₁.heap s'.heap/\s'.os=s₁.os/\AllBare s'.gens) s₁:=by
  intro H hO hS hok hA hK;have base_of:∀{b:Addr}{o:Obj},s₁.heap.get? b=some o->H b=none->(rD s₁.heap H).get? b=some o:=λe n=>AL e n
  have noA:∀{b:Addr}{o:Obj}{es:Array DictEntry}{ep:Nat},s₁.heap.get? b=some o->o.data=.dict es ep->H b=none:=fun{b o es ep} e d=>by
   cases q:H b with
   | none=>rfl
   | some u=>
     have e':b=a:=hA b (by rw[q];simp);subst e';rw[ha]at e;cases e;have d':Data.seq vs.toArray _=Data.dict es ep:=d;cases d'
  have nsK:∀{b:Addr}{m:Str->Option Value},s₁.heap.Ns b m->(rD s₁.heap H).Ns b m:=fun{b m} ⟨o,es,ep,e,d,r⟩=>%[o,es,ep,base_of e (noA e d),d|r]
  have hKb:K.In (rD s₁.heap H):=λb o e=>base_of (KX b o e) (by
   cases q:H b with
   | none=>rfl
   | some u=>
     have e':b=a:=hA b (by rw[q];simp);subst e';rw[hK (by rw[q];simp)]at e;cases e)
  have hM:Mod K mg (rD s₁.heap H):=%[hKb,nsK hns,%[mb,nsK hb|hbb]|let⟨mc,h1,h2⟩:=hlim;⟨mc,nsK h1,h2⟩]
  have e0:Env0 P w K mg (rD s₁.heap H) callerA [] s₁ H:=%[1,hM,λb o e=>BZ e,Nat.le_of_eq (yh _ _),trivial,λb hb=>absurd (show b∈([]:List Addr)from hb) (by simp),hok|.of_eq hg]
  refine codeAny_mono ((F _ hKb (nsK hns)).run callerA [] s₁ H %[[.ref a]|[]] [.ref a] [.ref a] _ _ hr e0 (hbind s₁ (.ref a)) (.cons rfl .nil) (hsp H hO hS)) λr s' h=>?_
  cases r with
  | error e=>exact(hCX H e s' h).elim
  | ok fl=>
    cases fl with
    | next=>exact False.elim h
    | brk=>exact False.elim h
    | cont=>exact False.elim h
    | ret u=>
      erw[v,H',os,bare,un,hok',r',q]at h;have q':v=.bl true:=q;subst q';obtain rfl:u=Value.bool true:=r';erw[1,OldK.of_keep λb o e=>?_,os,bare];cases q:H b with
      | none=>exact un.keep b o e q (by intro z;exact absurd (show b∈([]:List Addr)from z) (by simp)) (by simp)
      | some u=>
        rcases hO b with z | ⟨ob,xs,z⟩
        . rw[q]at z;cases z
        . have z2:=un.frzs b ob _ z;let%[e1|_]:=hok b _ z;let%[e2|_]:=hok' b _ z2;rw[e]at e1;cases e1;exact e2
 cases hk:K.lookup a with
 | some o=>
   have e:=KX a o hk;rw[ha]at e;cases e;refine core (λ_=>none) (λ_=>.inl rfl) (.inr %[_,vs.toArray,_,hk,1,1,1,by rw[zR0,lenV];exact hl|by simpa using rv]) (λb u z=>by have z':(none:Option HO)=some u:=z;cases z') (λb z=>absurd rfl z) λz=>absurd rfl z
 | none=>
   refine core (λb=>if b=a then some (.frz { cls:=.type "list",data:=.seq vs.toArray } (.lst (ns.map V.int)))else none) (λb=>?_) (.inl (.inr %[{ cls:=.type "list",data:=.seq vs.toArray }|zE0 rfl])) (λb u z=>?_) (λb z=>?_) λ_=>hk
   . by_cases hb:b=a
     . exact .inr %[_,_|zE0 hb]
     . exact .inl (zB0 hb)
   . by_cases hb:b=a
     . have z':=(zE0 hb).symm.trans z;cases z';subst hb;erw[ha,by rw[zH0];exact hl,vs,_,rv,ha]
     . have z':=(zB0 hb).symm.trans z;cases z'
   . by_cases hb:b=a
     . exact hb
     . exact absurd (zB0 hb) z
theorem walk_of{l:PySem.W.OpenLaw}{n:Nat}{q:Program}{loose:List Str}{XP:(Str->Option Value)->Heap->Prop}{YP:World->Heap->Prop}{d:DefRec}{K:Params->PySem.W.Frag}{CX:World->CXT}{sp:World->Sp}{x:Str}
 (hn:l.most=some n) (hn2:n<=sizeLine) (hdf:d.params.defaults=[]) (hr:Room k callerA)
 (hY:∀(w:World)(h:Heap),YP w h->(K w.params).In h)
 (F:∀(w:World)(mg:Str->Option Value)(fa:Addr)(h:Heap),(K w.params).In h->h.Ns mainGlobals mg->mg d.name=some (.ref fa) ->
  ∃ fd:FuncData,(∀(s:Shared)(u:Value),BindsTo s fd %[[u]|[]] [(x,u)])/\
   ∀base:Heap,(K w.params).In base->base.Ns mainGlobals mg->FnOk l.prog w (K w.params) mg base (CX w) k fa fd [x] (sp w))
 (hsp:∀(w:World)(H:Hp)(a:Addr)(ns:List Int),ns.length<=n->EM H->SqL (K w.params) H a (ns.map V.int)->sp w [.ref a] H (λv _=>v=.bl true) λ_ _ _=>False)
 (hCX:∀(w:World)(H:Hp)(s:Shared)(e:Value)(s':Shared),CX w [] H s (λ_ _ _=>False) e s'->False) :
 PySem.W.WalkO q loose XP YP l.row.toRowW d [] (λf vs=>PySem.call f vs):=by
 refine Att.attach_call hn hdf λw s₀ s₁ mg mb fa o pm cd doc a vs ns G Y ho hd hcd hmg hobj hints hlen hg=>?_
 have KX:=hY w _ Y;let%[fd,hb|hF]:=F w mg fa _ KX G.T.g hmg;exact AA KX G.T.g G.T.b G.T.builtins G.T.nolimit hg hobj hints (zQ0 hlen hn2) hr hF hb (λH hO hS=>hsp w H a ns hlen hO hS) λH e s'=>hCX w H s₁ e s'
end L2
/- THE LAST THEOREM (shape;LID,My.* are yours):
 My.Adr: a structure of the addresses that your layer names (classes,functions);My.Txt K t: a structure (Prop) of the equations over K;
 My.txt_mk:{K} {implicit addresses ..} (e1:nsIn K mainGlobals "law"=some (some (.ref f))) (e2:K.lookup f=some %[oc,od,.func (fnOf "law" "law" params body scope dV kV doc pm an cdv ct)|sl]) (e3:codeIn K cdv "law"=true) ..:∃t,My.Txt K t
set_option maxRecDepth 100000 in
set_option maxHeartbeats 0 in
theorem PySem.Challenge.cw_LID_holds : PySem.Challenge.rw_LID.Holds:=by
 w_on;o_law;k_head;(case hw=>w_witness2)
 k_fill
 refine L2.walk_of (l:=PySem.Challenge.rw_LID) (n:=63) (k:=40) (x:="script") (CX:=λw=>..) (sp:=λ_=>My.sp_law) rfl ⋯ rfl %[1,4|4] (λw h Y=>PySem.W.kIn_of Y) ?F ?S ?C
 case F=>
  intro w mg fa h KX G hmg;have T:∃t,My.Txt (L2.KOf KX) t:=by
   dsimp only [L2.KOf]                          -- K must stand as «<heap const> w.params» for k_is
   refine' My.txt_mk ?e1 ?e2 ?e3 ..
   (case e1=>PySem.W.k_is)                    -- in the order: a name -> its address -> its object -> its parts
   (case e2=>PySem.W.k_is)
   ..
  erw[t,T]at T;have e0:=hmg.symm.trans (PySem.W.mg_of KX G T.law);cases e0                                       -- fa is the law's own address;exact%[_,λs u=>.of_eq rfl|λbase kb nb=>My.law_fn T kb nb]     -- if «.of_eq rfl» comes too early: refine' %[_,?b|λbase kb nb=>My.law_fn T kb nb];exact λs u=>.of_eq rfl
 case S=>exact λw H a ns hl hO hS=>..
 case C=>exact ..
(the tactic k_is has no namespace: write k_is) -/
namespace L2
open PySem PySem.Spec PyProof.Rows
def bV(s:Stmt)(j:Nat):Stmt:=match s with
 | .ClassDef _ _ _ body _ _ _ _ _ _ _=>body.getD j (.Pass %[(0),(0),(0)|(0)])
 | _=>.Pass %[(0),(0),(0)|(0)]
def iF(s:Stmt):Arguments:=match s with
 | .FunctionDef _ a _ _ _ _ _ _ _ _=>a
 | _=>{ posonlyargs:=[],args:=[],vararg:=none,kwonlyargs:=[],kw_defaults:=[],kwarg:=none,defaults:=[] }
def eQ(s:Stmt):List Stmt:=match s with
 | .FunctionDef _ _ b _ _ _ _ _ _ _=>b
 | _=>[]
def ak(s:Stmt):Scope:=match s with
 | .FunctionDef _ _ _ _ _ _ sc _ _ _=>sc
 | _=>{ kind:=.function,names:=[],isGenerator:=false,isCoroutine:=false }
abbrev CX0:CXT:=λ_ _ _ _ _ _=>False
abbrev E0:XK:=λ_ _ _=>False
theorem bh:jq CX0 X E0:=λ_ _ _ _ _ _ _ h=>h.elim
structure Fun(K:W.Frag)(x qual:Str)(st:Stmt)(f:Addr)(fd:FuncData):Prop where
 ex:∃(oc:Value)(od:Option Addr)(kV doc pm:Value)(an:Option Addr)(cdv ct:Value)(osl:Array (Option Value)),
  fd=PySem.W.fnOf x qual (iF st) (eQ st) (ak st) .none kV doc pm an cdv ct/\K.lookup f=some %[oc,od,.func fd|osl]/\PySem.W.codeIn K cdv qual=true
 kp:PySem.W.keepIn K (.ref f)=true
section
variable {P:Program} {w:World} {K:W.Frag} {mg:Str->Option Value} {base:Heap}
theorem Fun.ok{st:Stmt}{sp:Sp}(F:Fun K x qual st f fd)(S:FnScope N ps (ak st))(len:∀vs H Q E,sp vs H Q E->vs.length=ps.length)
 (hbody:∀(cdv:Value)(A:Around)(outer:List Env)(s:Shared)(H:Hp)(vs:List V)(Q:VK)(E:XK),Room k (A.deeper (envOfC qual (ak st) s.heap.objs.size f cdv))->sp vs H Q E ->
  ∃t,PSs (yy CX0 P w K mg base N qual (ak st) f cdv A outer s H E).nox (eQ st) t/\t { nx:=λ_ H'=>Q .non H',rt:=Q } (lH N vs) H):FnOk P w K mg base CX0 (k+1) f fd ps sp:=by
 erw[oc,od,kV,doc,pm,an,cdv,ct,osl,1,lk,hcd]at F.ex;refine fn_of lk hcd S len λA outer s H vs Q E hr hsp=>?_
 let%[t,h|q]:=hbody cdv A outer s H vs Q E hr hsp;erw[t,h.nox,q]
theorem Fun.binds{st:Stmt}{ps:List Str}(F:Fun K x qual st f fd)
 (h:∀(kV doc pm:Value)(an:Option Addr)(cdv ct:Value)(us:List Value),us.length=ps.length->bindArgs (PySem.W.fnOf x qual (iF st) (eQ st) (ak st) .none kV doc pm an cdv ct) %[us|[]]=pure (ps.zip us)):Binds K fd ps []:=by
 erw[oc,od,kV,doc,pm,an,cdv,ct,osl,1,lk,hcd]at F.ex;exact .all (h kV doc pm an cdv ct)
theorem Ev{x qual:Str}{st:Stmt}{f:Addr}{oc:Value}{od an:Option Addr}{osl:Array (Option Value)}{kV doc pm cdv ct:Value}(l:K.lookup f=some %[oc,od,.func (PySem.W.fnOf x qual (iF st) (eQ st) (ak st) .none kV doc pm an cdv ct)|osl])
 (c:PySem.W.codeIn K cdv qual=true) (k:PySem.W.keepIn K (.ref f)=true):Fun K x qual st f (PySem.W.fnOf x qual (iF st) (eQ st) (ak st) .none kV doc pm an cdv ct):=%[%[oc,od,kV,doc,pm,an,cdv,ct,osl,1,l|c]|k]
end
theorem AJ(hr:Room k A):A.units+1<cLine:=Nat.lt_of_le_of_lt (Nat.add_le_add_left (by decide:1<=64) _) hr.units
theorem aM{n:Nat}(h:n<=1000):n<sizeLine:=Nat.lt_of_le_of_lt h ⋯
section
variable {X:Cx}
theorem pv (i:Nat) {x:Str} {pos:Pos} (hN:X.N[i]?=some x:=by rfl) (hv:Vis X.env.scope x:=by first | exact Or.inl rfl | exact Or.inr (.inl rfl) | exact Or.inr (Or.inr rfl)) (hd:(x==("__debug__":Str))=false:=by decide)
 (hcd:(x==("__classdict__":Str))=false:=by decide):PE X (.Name x pos) (tVar i):=DL hN hv hd hcd
end
theorem cG{A B:Prop}(h:B):if false=true then A else B:=by
 rw[zB0 qB0];exact h
theorem du{A B:Prop}(h:A):if true=true then A else B:=by
 rw[zE0 rfl];exact h
theorem hC{c A B:Prop}[Decidable c](h1:c->A)(h2:¬ c->B):if c then A else B:=by
 by_cases h:c
 . rw[zE0 h];exact h1 h
 . rw[zB0 h];exact h2 h
theorem Dc{c A B:Prop}[Decidable c](hc:c)(h:B):if(!decide c)=true then A else B:=by
 rw[decide_eq_true hc];exact cG h
def Same(H H':Hp):Prop:=∀b o,H b=some o->H' b=some o
theorem Same.refl(H:Hp):Same H H:=λ_ _ h=>h
theorem Same.trans(a:Same H H1)(b:Same H1 H2):Same H H2:=λc o h=>b c o (a c o h)
theorem Same.free(e:Same H H'){l:Addr}(h:H' l=Option.none):H l=Option.none:=by
 cases q:H l with
 | none=>rfl
 | some o=>
   rw[e l o q]at h;cases h
theorem Same.seq{K:W.Frag}(e:Same H H')(h:SqL K H a xs):SqL K H' a xs:=by
 rcases h with(h | ⟨o,h⟩) | h
 . exact .inl (.inl (e _ _ h))
 . exact .inl (.inr %[o|e _ _ h])
 . exact .inr h
end L2
set_option maxHeartbeats 4000000
namespace L2
open PySem PySem.Spec PyProof.Rows
section
variable {X:Cx}
inductive rIsi(K:W.Frag)(xs:List V)(H:Hp)(Q:VK):Prop
 |mk:∀x t n b,xs=[x,.ty n]->TyOf K H x t->PySem.W.kitOne K t (.type n)=some b->Q (.bl b) H->rIsi K xs H Q
theorem jp:gy X (.builtin "isinstance") (rIsi X.K):=by
 intro pins s σ H xs us Q I r h;erw[x,t,n,b,1,ty,e,q]at h;let%[u,w',1,r1|r2]:=CL r;cases r2;exact yd I r1 ty e (λtk=>%[.bl b,H,I.tok tk,1|q])
theorem oE(K:W.Frag)(n:String):PySem.W.kitOne K (.type n) (.type n)=some true:=by
 unfold PySem.W.kitOne;rw[zE0 (by simp)]
def CDivL(_ j:Int):Prop:=0<j/\j<2 ^ 63
theorem zY:OpR X (binaryOp .FloorDiv) (rI CDivL λi j=>.int (i / j)):=opI λi j _ _ _ _ _ hc q=>by
 have e:Int.fdiv i j=i / j:=Int.fdiv_eq_ediv_of_nonneg i (Int.le_of_lt hc.1);rw[←e]at q;refine floordiv_int (by have:=hc.1;omega) q (.inl (PyProof.noPylong_of_log2 ?_));have h1:=hc.1;have h2:=hc.2;have h3:j.natAbs<2 ^ 63:=by omega
 have h4:=(Nat.log2_lt (n:=j.natAbs) (k:=63) #[0]).mpr h3;omega
end
theorem hZ:bootBuiltins "int"=some (.type "int"):=by decide
theorem oT:bootBuiltins "bool"=some (.type "bool"):=by decide
theorem iG:bootBuiltins "list"=some (.type "list"):=by decide
theorem bN:bootBuiltins "tuple"=some (.type "tuple"):=by decide
theorem oS:bootBuiltins "reversed"=some (.type "reversed"):=by decide
structure Cal(P:Program)(w:World)(K:W.Frag)(mg:Str->Option Value)(base:Heap)(n:Nat)(x:Str)(ps:List Str)(sp:Sp):Prop where
 ex:∃(f:Addr)(fd:FuncData),FnOk P w K mg base CX0 n f fd ps sp/\Binds K fd ps []/\PySem.W.keepIn K (.ref f)=true/\mg x=some (.ref f)
theorem ag{X:Cx}{e:Expr}{es:List Expr}{p pos:Pos}(C:Cal X.prog X.w X.K X.mg X.base n x ps sp)(hr:Room k X.A)(hk:n<=k)(hg:Gl X x)
 (ha:PA X (e::es) t) (hdb:(x==("__debug__":Str))=false:=by decide) (he:starEach (e::es) X.env=(false,eval e X.env)::starEach es X.env:=by rfl) (hpl:(backTo pos (starEach es X.env)).any (·.1)=false:=by rfl) :
 PE X (.Call (.Name x p) (e::es) [] pos) (rS sp [] E0 t):=by
 erw[f,fd,F,b,kp,m]at C.ex;exact BS F (hr.mono hk) hg m kp b .nil bh ha hdb he hpl
theorem Cal.of{P:Program}{w:World}{K:W.Frag}{mg:Str->Option Value}{base:Heap}{n:Nat}{x qual:Str}{ps:List Str}{sp:Sp}{st:Stmt}{f:Addr}{fd:FuncData}(F:Fun K x qual st f fd)(O:FnOk P w K mg base CX0 n f fd ps sp)(m:mg x=some (.ref f))
 (h:∀(kV doc pm:Value)(an:Option Addr)(cdv ct:Value)(us:List Value),us.length=ps.length->bindArgs (PySem.W.fnOf x qual (iF st) (eQ st) (ak st) .none kV doc pm an cdv ct) %[us|[]]=pure (ps.zip us)):Cal P w K mg base n x ps sp:=
 %[f,fd,O,F.binds h,F.kp|m]
theorem Ej{c A B:Prop}[Decidable c](hc:¬ c)(h:A):if(!decide c)=true then A else B:=by
 rw[decide_eq_false hc];exact du h
theorem aR{c A B:Prop}[Decidable c](hc:c)(h:A):if decide c=true then A else B:=by
 rw[decide_eq_true hc];exact du h
theorem ax{c A B:Prop}[Decidable c](hc:¬ c)(h:B):if decide c=true then A else B:=by
 rw[decide_eq_false hc];exact cG h
def SameBut(f:Addr)(H H':Hp):Prop:=∀b o,b≠f->H b=some o->H' b=some o
theorem SameBut.trans(a:SameBut f H H1)(b:SameBut f H1 H2):SameBut f H H2:=λc o h e=>b c o h (a c o h e)
theorem SameBut.refl(f:Addr)(H:Hp):SameBut f H H:=λ_ _ _ h=>h
theorem zK0{f:Addr}{H H':Hp}(h:Same H H'):SameBut f H H':=λb o _ e=>h b o e
abbrev SameBut.of:=@zK0
theorem SameBut.upd(o:HO):SameBut f H (upd H f o):=λb u h e=>by rw[aq h];exact e
theorem zC0{H:Hp}{p:Addr}(h:H p=none)(o:HO):Same H (upd H p o):=λb u q=>by rw[aq (aN q h)];exact q
abbrev Same.new:=@zC0
theorem Same.but{f:Addr}(a:Same H0 H)(n:H0 f=none)(b:SameBut f H H'):Same H0 H':=λc o e=>b c o (aN e n) (a c o e)
def FeedAt(H:Hp)(f:Addr):Prop:=∃own st:Int,H f=some (.lst [.int own,.int st])/\0<=own/\0<=st/\st<=2147483646
theorem FeedAt.ne{b:Addr}(F:FeedAt H f)(h:H b=none):b≠f:=by
 erw[o,s,e,_]at F;intro z;subst z;rw[h]at e;cases e
theorem FeedAt.same(F:FeedAt H f)(s:Same H H'):FeedAt H' f:=by
 erw[o,t,e,h]at F;erw[o,t,s _ _ e,h]
inductive spTake(vs:List V)(H:Hp)(Q:VK)(u_3:XK):Prop
 |mk:∀(f:Addr)(m:Int),vs=[.ref f,.int m]->FeedAt H f->0<m->m<2 ^ 63->(∀(d:Int)(H':Hp),0<=d->d<m->FeedAt H' f->SameBut f H H'->Q (.int d) H')->spTake vs H Q u_3
inductive spFeed(K:W.Frag)(vs:List V)(H:Hp)(Q:VK)(u_3:XK):Prop
 |mk:∀(a:Addr)(ns:List Int)(k:Int),vs=[.ref a,.int k]->SqL K H a (ns.map V.int)->ns.length<=63->0<=k->k<1000000->(∀(p:Addr)(H':Hp),H p=none->Same H H'->FeedAt H' p->Q (.ref p) H')->spFeed K vs H Q u_3
inductive spLaw(K:W.Frag)(vs:List V)(H:Hp)(Q:VK)(u_3:XK):Prop
 |mk:∀(a:Addr)(ns:List Int),vs=[.ref a]->SqL K H a (ns.map V.int)->ns.length<=63->(∀H',Q (.bl true) H')->spLaw K vs H Q u_3
theorem bK{n:Nat}(h:n<=1000):n<=sizeLine:=Nat.le_of_lt (aM h)
theorem Be{ns:List Int}{k:Int}(h0:0<=k)(h:k<(ns.length:Int)):∃v:Int,atI (ns.map V.int) k=some (.int v):=by
 have hk:k.toNat<ns.length:=by omega
 have q:atI (ns.map V.int) ((k.toNat:Nat):Int)=some (.int ns[k.toNat]):=db (by rw[qE0,zN0 hk] <;> rfl);have ek:((k.toNat:Nat):Int)=k:=by omega
 rw[ek]at q;erw[_,q]
@[reducible] def dM (X:Cx) (N:List Str) (scope:Scope) (cl:List (Str×Addr)) (s:Shared) (H:Hp) (fp:List Addr):Cx where
 prog:=X.prog
 w:=X.w
 K:=X.K
 mg:=X.mg
 base:=X.base
 A:=X.A
 N:=N
 s₀:=s
 H₀:=H
 env:=compEnvC scope cl s.heap.objs.size X.env
 outer:=X.stack
 stack:=X.stack
 ex:=fp
 fn:=λ_=>false
 calm:=X.calm
 pn:=[]
 xe:=λ_ _=>False
structure CompScope(X:Cx)(x:Str)(N:List Str)(ix:List Nat)(scope:Scope)(cl:List (Str×Addr)):Prop where
 clos:closureFor scope X.env=pure cl
 nocell:∀y∈scope.names,y.2≠.cell
 kind:scope.kind=.function
 names:∀y∈scope.names,y.2=.local->scope.names.lookup y.1=some .local
 own:scope.names.lookup x=some .local
 nd:(x::N).Nodup
 sub:∀p∈cl,X.env.cells.lookup p.1=some p.2
 has:((relabel scope X.env).names.all λp=>!(p.2==.cell||p.2==.free)||(cl.lookup p.1).isSome)=true
 outs:∀(j:Nat)(y:Str),N[j]?=some y->(relabel scope X.env).names.lookup y=some .cell/\∃k c,ix[j]?=some k/\X.N[k]?=some y/\cl.lookup y=some c/\X.env.scope.names.lookup y=some .cell
def outs(ix:List Nat)(σ:St):St:=ix.map λk=>(σ[k]?).join
section
variable {X:Cx} {pins:List (Addr×Obj)} {σ:St} {x:Str} {N:List Str} {ix:List Nat} {scope:Scope} {cl:List (Str×Addr)} {fp:List Addr} {H3:Hp} {s3:Shared}
theorem CompScope.cells(S:CompScope X x N ix scope cl){y:Str}{c:Addr}(h:cl.lookup y=some c):X.env.cells.lookup y=some c:=S.sub _ (PySem.mem_of_lookup h)
theorem mz(S:CompScope X x N ix scope cl)(I3:Inv X pins σ H3 s3)(hf:∀b∈fp,jt X pins H3 b)(hlt:∀b∈fp,b<s3.heap.objs.size):(dM X (x::N) scope cl s3 H3 fp).Ok where
 mod:=I3.ok.mod
 kind:=S.kind
 glob:=I3.ok.glob
 blt:=I3.ok.blt
 above:=zG0 _
 inj:=λy z c h1 h2=>I3.ok.inj y z c (S.cells h1) (S.cells h2)
 has:=λy hy=>by
  have q:=List.all_eq_true.mp S.has;have hy:(relabel scope X.env).names.lookup y=some .cell∨(relabel scope X.env).names.lookup y=some .free:=hy;have z:∀k:NameKind,(k==.cell||k==.free)=true->(relabel scope X.env).names.lookup y=some k->∃c,cl.lookup y=some c:=λk hk e=>by
   have r:=q _ (PySem.mem_of_lookup e);rw[hk]at r;exact Option.isSome_iff_exists.mp (by simpa using r)
  rcases hy with e | e
  . exact z _ (by rfl) e
  . exact z _ (by rfl) e
 cab:=λ_ _ h _=>nomatch h
 hd:=I3.ok.hd
 frames:=I3.ok.frames
 stk:=.inl rfl
 exf:=λb hb=>%[zS0 (hlt b hb)|λy c e=>(hf b hb).2.2.2.2.1 y c (S.cells e)]
 bs:=λb o e=>I3.bs b o e
 bsz:=zQ0 I3.ok.bsz I3.sz
 noex:=λb o e hb=>by
  rcases(hf b hb).2.2.2.1 with z | z
  . exact I3.ok.noex b o e z
  . exact absurd (qM0 (zL0 e) (zQ0 I3.ok.bsz z)) (qU0 _)
 exfs:=λb hb z=>by
  rcases zV0 (I3.stkSub b z)with e | e
  . exact(hf b hb).2.1 e
  . exact(hf b hb).2.2.1 e
 funs:=I3.stack
 frf:=I3.stkFree
theorem vF(S:CompScope X x N ix scope cl)(I3:Inv X pins σ H3 s3)(hf:∀b∈fp,jt X pins H3 b)(hlt:∀b∈fp,b<s3.heap.objs.size)(hix:ix.length=N.length){h1:Heap}{t':Nat}{m:Str->Option Value}
 (hn:h1.Ns s3.heap.objs.size m) (hk:∀b o,s3.heap.get? b=some o->h1.get? b=some o):Inv (dM X (x::N) scope cl s3 H3 fp) [] (none::outs ix σ) H3 { s3 with heap:=h1,toks:=t' } where
 ok:=mz S I3 hf hlt
 os:=rfl
 bare:=I3.bare
 base:=Un.kept hk
 loc:=by
  erw[m,hn,λi y v h1' h2 h3=>?_];cases i with
  | zero=>
    have h2':(some (none:Option V))=some (some v):=h2;cases h2'
  | succ j=>
    have h1'':N[j]?=some y:=h1';have h2':(outs ix σ)[j]?=some (some v):=h2;let%[hr,k,c,e1,e2,e3|e4]:=S.outs j y h1'';unfold outs at h2';rw[qE0,e1]at h2';have h2'':(σ[k]?).join=some v:=zU0 h2';have e5:σ[k]?=some (some v):=by
     cases q:σ[k]? with
     | none=>rw[q]at h2'';cases h2''
     | some o=>rw[q]at h2'';exact congrArg some h2''
    erw[m0,_,hl]at I3.loc;let%[u,r|l]:=hl k y v e2 e5 (.inr (.inl e4));erw[u,r,.inr %[.inl hr,c,e3|6]];rcases l with⟨kk,_⟩ | ⟨_,c',ec,z⟩
    . have kk':X.env.scope.names.lookup y=some .local:=kk;rw[e4]at kk';cases kk'
    . rw[S.cells e3]at ec;cases ec;erw[o,ho,hd]at z;erw[o,hk _ _ ho,hd]
 cell:=λy c e=>by
  let%[v,o,ho|hd]:=I3.cell y c (S.cells e);erw[v,o,hk _ _ ho,hd]
 free:=I3.hok.fresh (zG0 _)
 freeC:=λy c e=>I3.freeC y c (S.cells e)
 pin:=λp hp=>absurd (show p∈([]:List (Addr×Obj))from hp) (by simp)
 hok:=I3.hok.kept hk
 len:=by
  show(none::outs ix σ).length=(x::N).length;rw[zT0,zT0];unfold outs;rw[zH0,hix]
theorem yz(I3:Inv X pins σ H3 s3)(hf:∀b∈fp,jt X pins H3 b){σ':St}{h'':Heap}{N':List Str}(J:Inv (dM X N' scope cl s3 H3 fp) [] σ' H' s')(hb:Heap.SameBut s3.heap.objs.size s'.heap h'') :
 Inv X pins σ H' { s' with heap:=h'' }:=by
 have ne:∀b o,s3.heap.get? b=some o->b≠s3.heap.objs.size:=λb o e=>zS0 (zL0 e)
 have B:Un (frs X.stack) fp H3 H' s3.heap s'.heap:=J.base;refine I3.call' (s':={ s' with heap:=h'' }) (ch:=fp) J.os ⟨λb o e n h1 h2=>(hb.2 b (ne b o e)).trans (B.keep b o e n h1 h2),λb o e n h1 h2=>?_,B.free,λb o e h2=>?_,B.tups,B.frzs,B.tbls⟩ (λb ob e=>?_) J.bare (λb z=>?_)
 . let%[sl|q]:=B.slot b o e n h1 h2;erw[sl,(hb.2 b (ne b o e)).trans q]
 . let%[o'|q]:=B.there b o e h2;erw[o',(hb.2 b (ne b o e)).trans q]
 . have fr:H' s3.heap.objs.size=none:=J.free;refine(J.hok b ob e).stay (λc w' hc q=>(hb.2 c ?_).trans q) (λ_ q=>q) λ_ _ q=>q
   rintro rfl;rcases hc with rfl | hc
   . rw[fr]at e;cases e
   . rw[fr]at hc;cases hc
 . let%[_,h2,_,h4,h5|h6]:=hf b z;erw[h4,h2,h5,h6]
end
abbrev TBl:=St->Hp->(Hp->Prop)->VK->Prop
def PB(X:Cx)(ifs:List Expr)(elt:Expr)(tb:TBl):Prop:=
 ∀(pins:List (Addr×Obj))(s:Shared)(σ:St)(H:Hp)(skip:Hp->Prop)(keep:VK),Inv X pins σ H s->tb σ H skip keep ->
  wpAny (model X.prog X.w) X.A (forIn ifs true λc r=>if r=true then do let ok ←isTrue c X.env (eval c X.env);pure (ForInStep.yield ok)else pure (ForInStep.yield r))
   (λok s3=>if ok=true then wpAny (model X.prog X.w) X.A (eval elt X.env) (EP X pins σ keep) X.xe s3 else ∃H',Inv X pins σ H' s3/\skip H') X.xe s
def tB0(te:TE):TBl:=λσ H _ keep=>te σ H keep
def tB1(tc:TT)(te:TE):TBl:=λσ H skip keep=>tc σ H λb H1=>if b=true then te σ H1 keep else skip H1
theorem cQ(he:PE X elt te):PB X [] elt (tB0 te):=by
 intro pins s σ H skip keep I h;refine wpAny_tests_nil ?_;rw[zE0 rfl];exact he pins s σ H keep I h
theorem pb_if(hc:PT X c tc)(he:PE X elt te):PB X [c] elt (tB1 tc te):=by
 intro pins s σ H skip keep I h;refine wpAny_tests_one (thn (hc pins s σ H _ I h) λb s1 ⟨H1,I1,q1⟩=>?_);cases b with
 | true=>
   rw[zE0 rfl]at q1 ⊢;exact he pins s1 σ H1 keep I1 q1
 | false=>
   rw[zB0 ⋯]at q1 ⊢;erw[H1,I1,q1]
def oZ(J:It)(D:Addr)(ix:List Nat)(tb:TBl)(σ:St)(H:Hp)(Q:VK):Prop:=∃W:Nat->Nat->Hp->Prop,(∃m,W 0 m (upd H D (.lst [])))/\∀i m H2,W i m H2 ->
 (J.stop i H2/\Q (.ref D) H2)∨(J.go i H2/\∀y H3,J.yld i H2 y H3->tb (some y::outs ix σ) H3 (λH4=>∃m',m'<m/\W (i+1) m' H4)
  λz H4=>∃ys,H4 D=some (.lst ys)/\ys.length<sizeLine/\∃m',m'<m/\W (i+1) m' (upd H4 D (.lst (ys++[z]))))
def yU(wi:TI)(ix:List Nat)(tb:TBl):TE:=λσ H Q=>wi σ H λJ H1=>∀D,H1 D=none->oZ J D ix tb σ H1 Q
section
variable {prog:Program} {w:World} {A:Around} {E:Value->Shared->Prop} {R:Result->Shared->Prop} {s:Shared}
theorem tK{elt target iter:Expr}{ifs:List Expr}{scope:Scope}{pos:Pos}{it acc:Value}{env:Env}(I:Nat->Shared->Prop)
 (turn:∀n s,I n s->wpAny (model prog w) A (pyNext it) (λr s1=>match r with
  | none=>R (.ok .next) s1
  | some v=>wpAny (model prog w) A (letOwnedTupleGo target it v) (λ_ s1'=>wpAny (model prog w) A (assign target env v) (λ_ s2=>
   wpAny (model prog w) A (forIn ifs true λc r=>if r=true then do let ok ←isTrue c env (eval c env);pure (ForInStep.yield ok)else pure (ForInStep.yield r)) (λok s3=>
    if ok=true then wpAny (model prog w) A (eval elt env) (λx s4=>
     wpAny (model prog w) A (call (.builtin "list.append") [acc,x]) (λ_ s5=>∃m,m<n/\I m s5) (λ_ _=>False) s4) (λ_ _=>False) s3
    else ∃m,m<n/\I m s3) (λ_ _=>False) s2) (λ_ _=>False) s1') (λ_ _=>False) s1) (λ_ _=>False) s)
 (n:Nat) (h:I n s) :
 codeAny (model prog w) A (.compLoop (.ListComp elt [%[target,iter,ifs|(0)]] scope pos) 0 it acc env) R s:=by
 have up:∀{α:Type}{t:Sem α}{Q Q':α->Shared->Prop}{E':Value->Shared->Prop}{s:Shared},wpAny (model prog w) A t Q (λ_ _=>False) s->(∀a s,Q a s->Q' a s)->wpAny (model prog w) A t Q' E' s:=
  λh q=>wpAny_mono h q λ_ _ f=>f.elim
 refine codeAny_loop rfl I (λn s hI=>?_) n h;show wpAny _ A ((compTurn (.ListComp elt [%[target,iter,ifs|(0)]] scope pos) 0 it acc env).onRaise (λx=>do noteFrame x env;theTreesLotGoes x)) _ _ s;refine wpAny_noted ?_;rw[compTurn_list];refine zA0 (wpAny_standAt (zA0 (up (turn n s hI) λr s1 h1=>?_)));cases r with
 | none=>exact zI0 h1
 | some v=>
   refine zA0 (up h1 λ_ s1' h1'=>?_);refine zA0 (up h1' λ_ s2 h2=>zA0 (up h2 λok s3 h3=>?_));cases ok with
   | false=>exact zI0 %[1|h3]
   | true=>
     exact zA0 (zA0 (up h3 λx s4 h4=>zA0 (up h4 λ_ s5 h5=>zI0 (zI0 %[1|h5]))))
end
structure Apart(X:Cx)(pins:List (Addr×Obj))(H:Hp)(C:Addr):Prop where
 fr:H C=none
 lo:C≠X.env.locals
 sz:X.s₀.heap.objs.size<=C
 ce:∀y c,X.env.cells.lookup y=some c->c≠C
 pi:∀p∈X.pn++pins,p.1≠C
theorem Apart.turn{σ:St}{h':Heap}(a:Apart X pins H C)(I:Inv X pins σ H s)(hs:Heap.SameBut C s.heap h'):Inv X pins σ H { s with heap:=h' }:=
 I.turned (t':=s.toks) (λb o ne e=>(hs.2 b ne).trans e) a.fr a.lo (.inr a.sz) a.ce a.pi
section
variable {X:Cx} {x:Str} {N:List Str} {ix:List Nat} {scope:Scope} {cl:List (Str×Addr)} {elt iter:Expr} {ifs:List Expr} {px pos:Pos} {wi:TI} {tb:TBl}
theorem tJ(hc:X.calm=true)(S:CompScope X x N ix scope cl)(hix:ix.length=N.length)(hb:∀s3 H3 fp,PB (dM X (x::N) scope cl s3 H3 fp) ifs elt tb)
  {s2:Shared} {σ:St}  {Q:VK}  {fp:List Addr}   {RR:Value->Addr->Result->Shared->Prop} {E:Value->Shared->Prop}
 (I2:Inv X pins σ H2 s2) (T:Turn X.prog X.w X.K (.Name x px) J fp it tn) (st2:tn 0 s2.heap) (f2:∀b∈fp,jt X pins H2 b)
 (h:∀D,H2 D=none->∃W:Nat->Nat->Hp->Prop,(∃m,W 0 m (upd H2 D (.lst [])))/\∀i m H3,W i m H3 ->
  (J.stop i H3/\Q (.ref D) H3)∨(J.go i H3/\∀y H4,J.yld i H3 y H4->tb (some y::outs ix σ) H4 (λH5=>∃m',m'<m/\W (i+1) m' H5)
   λz H5=>∃ys,H5 D=some (.lst ys)/\ys.length<sizeLine/\∃m',m'<m/\W (i+1) m' (upd H5 D (.lst (ys++[z])))))
 (hRR:∀(D C:Addr)(H':Hp)(s':Shared)(m:Str->Option Value),s'.heap.Ns C m->Apart X pins H' C->Inv X pins σ H' s'->Q (.ref D) H'->RR (.ref D) C (.ok .next) s') :
 wpAny (model X.prog X.w) X.A (newList []) (λacc s3=>wpAny (model X.prog X.w) X.A (newFunctionEnv scope X.env.globals cl [] X.env.qual none .none (some X.env)) (λcenv s4=>
  codeAny (model X.prog X.w) X.A (.compStart (.ListComp elt [%[.Name x px,iter,ifs|(0)]] scope pos) 0 (.ref it) acc { cenv with scope:=relabel scope X.env }) (RR acc cenv.locals) s4) E s3) E s2:=by
 refine wpAny_newObj_type (wpAny_newFunctionEnv S.nocell (by intro y hy;simp at hy) (λh1 hns1 hsb1=>?_) S.kind)
 dsimp only at hns1 hsb1 ⊢
 have I3:Inv X pins σ (upd H2 s2.heap.objs.size (.lst [])) { s2 with heap:=s2.heap.push { cls:=.type "list",dict:=none,data:=.seq ([]:List Value).toArray } }:=I2.lnew (its:=[]) (ys:=[]) (t':=s2.toks) .nil (zW0 _);have hD:H2 s2.heap.objs.size=none:=I2.fresh;let%[W,%[m0|w0]|turn]:=h s2.heap.objs.size hD;have hltF:∀b∈fp,b<s2.heap.objs.size:=λb hb=>by
  let%[o,e|_]:=T.obj 0 _ st2 b hb;exact zL0 e
 generalize hs3:({ s2 with heap:=s2.heap.push { cls:=.type "list",dict:=none,data:=.seq ([]:List Value).toArray } }:Shared)=s3 at I3;have eh:s2.heap.push { cls:=.type "list",dict:=none,data:=.seq ([]:List Value).toArray }=s3.heap:=by rw[←hs3]
 have et:s2.toks=s3.toks:=by rw[←hs3]
 rw[eh]at hns1 hsb1 ⊢;have sz3:s3.heap.objs.size=s2.heap.objs.size+1:=by rw[←eh,Heap.size_push]
 have hlt3:∀b∈fp,b<s3.heap.objs.size:=λb hb=>qM0 (hltF b hb) (by rw[sz3];exact qL0 _)
 have f3:∀b∈fp,jt X pins (upd H2 s2.heap.objs.size (.lst [])) b:=λb hb=>by
  let%[q1|q2]:=f2 b hb;erw[by rw[aq (zS0 (hltF b hb))];exact q1,q2]
 have up:∀b o,s3.heap.get? b=some o->h1.get? b=some o:=λb o e=>hsb1.extBut b o (zS0 (zL0 e)) (zP0 _ e)
 have old:∀b o,s2.heap.get? b=some o->h1.get? b=some o:=λb o e=>up b o (by rw[←eh];exact zP0 _ e)
 have es:({ s2 with heap:=h1,toks:=s2.toks+([]:List (Str×Value)).length }:Shared)={ s3 with heap:=h1,toks:=s2.toks+([]:List (Str×Value)).length }:=by rw[←hs3]
 rw [es];have I4:Inv (dM X (x::N) scope cl s3 (upd H2 s2.heap.objs.size (.lst [])) fp) [] (none::outs ix σ) (upd H2 s2.heap.objs.size (.lst [])) { s3 with heap:=h1,toks:=s2.toks+([]:List (Str×Value)).length }:=
  vF S I3 f3 hlt3 hix hns1 up
 have st4:tn 0 h1:=T.keep 0 _ _ st2 λb _ o e=>old b o e
 have loop:codeAny (model X.prog X.w) X.A (.compLoop (.ListComp elt [%[.Name x px,iter,ifs|(0)]] scope pos) 0 (.ref it) (.ref s2.heap.objs.size) (compEnvC scope cl s3.heap.objs.size X.env)) (RR (.ref s2.heap.objs.size) s3.heap.objs.size)
  { s3 with heap:=h1,toks:=s2.toks+([]:List (Str×Value)).length }:=by
  refine tK (λn s'=>∃i v0 H',Inv (dM X (x::N) scope cl s3 (upd H2 s2.heap.objs.size (.lst [])) fp) [] (v0::outs ix σ) H' s'/\tn i s'.heap/\(∀b∈fp,H' b=none)/\W i n H') ?_ m0 %[(0),none,_,I4,st4,λb hb=>(f3 b hb).1|w0];rintro n s5 ⟨i,v0,H5,I5,st5,fr5,w5⟩;have stat:∀{H':Hp},(∀b∈fp,H' b=none)->∀b∈fp,jt (dM X (x::N) scope cl s3 (upd H2 s2.heap.objs.size (.lst [])) fp) [] H' b:=λhn b hb=>
   %[hn b hb,((mz S I3 f3 hlt3).exf b hb).1,(mz S I3 f3 hlt3).exfs b hb,.inl hb,((mz S I3 f3 hlt3).exf b hb).2|λp hp=>absurd (show p∈([]:List (Addr×Obj))from hp) (by simp)]
  rcases turn i n H5 w5 with⟨stop,qn⟩ | ⟨go,step⟩
  . refine thn (T.done (dM X (x::N) scope cl s3 (upd H2 s2.heap.objs.size (.lst [])) fp) rfl rfl rfl hc i [] s5 _ H5 _ I5 (stat fr5) st5 stop) λr s6 ⟨hr,I6⟩=>?_
    subst hr;erw[m6,hn6,_]at I6.loc;exact hRR _ _ H5 s6 m6 hn6 ⟨I6.free,Ne.symm (zS0 I3.lt),I3.sz,λy c e z=>by
     let%[v|q]:=I3.cell y c e;exact absurd q.lt (by rw[z];exact qU0 _),λp hp z=>absurd (zL0 (I3.pin p hp).1) (by rw[z];exact qU0 _)⟩ (yz I3 f3 I6 (Heap.SameBut.refl _ _)) qn
  . refine thn (T.item (dM X (x::N) scope cl s3 (upd H2 s2.heap.objs.size (.lst [])) fp) rfl rfl rfl hc i [] s5 _ H5 _ I5 (stat fr5) st5 go) λr s6 ⟨u,hr,h6⟩=>?_
    subst hr;refine thn h6 λ_ s7 ⟨y,H7,I7,r7,y7,st7,fr7⟩=>?_
    have I7':=I7.pinned (stat fr7) (T.obj _ _ st7);refine wpAny_assign_Name (mL (i:=0) I7' S.nd rfl (.inl (lookup_relabel_local S.own)) r7 (λs8 I8=>?_) (.inr (lookup_relabel_local S.own)));have I8':Inv (dM X (x::N) scope cl s3 (upd H2 s2.heap.objs.size (.lst [])) fp) ([]++lq fp s7.heap) (some y::outs ix σ) H7 s8:=I8;have again:∀{v9:Option V}{H9:Hp}{s9:Shared},Inv (dM X (x::N) scope cl s3 (upd H2 s2.heap.objs.size (.lst [])) fp) ([]++lq fp s7.heap) (v9::outs ix σ) H9 s9->(∃m',m'<n/\W (i+1) m' H9) ->
     ∃m,m<n/\∃i v0 H',Inv (dM X (x::N) scope cl s3 (upd H2 s2.heap.objs.size (.lst [])) fp) [] (v0::outs ix σ) H' s9/\tn i s9.heap/\(∀b∈fp,H' b=none)/\W i m H':=fun{v9 H9 s9} I9 ⟨m',hm,w9⟩=>by
     erw[m',hm,i+1,v9,H9,I9.unpinned,T.keep _ _ _ st7 λb hb o e=>(I9.pin (b,o) (qT0 _ (qT0 _ (iC hb e)))).1,λb hb=>?_,w9];let%[o,e|d]:=T.obj _ _ st7 b hb;exact(I9.pin (b,o) (qT0 _ (qT0 _ (iC hb e)))).2.1
    refine thn (hb s3 (upd H2 s2.heap.objs.size (.lst [])) fp _ s8 _ H7 _ _ I8' (step y H7 y7)) λok s9 q9=>?_
    cases ok with
    | false=>
      rw[zB0 ⋯]at q9 ⊢;erw[H9,I9,q9]at q9;exact again I9 q9
    | true=>
      rw[zE0 rfl]at q9 ⊢;refine thn q9 λu s10 ⟨z,H10,I10,r10,ys,hy,hz,q10⟩=>?_
      refine thn (bU _ s10 _ H10 (.ref s2.heap.objs.size) [z] (.ref s2.heap.objs.size) [u] (λ_ H'=>∃m',m'<n/\W (i+1) m' H') I10 rfl (.cons r10 .nil) %[_,ys,z,1,1,hy,hz|q10]) λ_ s11 ⟨_,H11,I11,_,q11⟩=>?_
      exact again I11 q11
 exact codeAny_compStart_list loop (T.self _ 0 _ _ _ st4 loop)
theorem cJ(hc:X.calm=true)(S:CompScope X x N ix scope cl)(hix:ix.length=N.length)(hi:PI X (.Name x px) iter wi)(hb:∀s3 H3 fp,PB (dM X (x::N) scope cl s3 H3 fp) ifs elt tb)
 (hs:∀x,foldedSetIterable iter X.env x=pure x:=by intro _;rfl):PE X (.ListComp elt [%[.Name x px,iter,ifs|(0)]] scope pos) (yU wi ix tb):=by
 intro pins s σ H Q I h;rw[eval_ListComp];refine wpAny_comprehension_free (use:=none) rfl hs S.clos S.kind S.names (thn (hi pins s σ H _ I h) λxv s1 h1=>thn h1 λitv s2 h2=>?_);erw[it,fp,tn,J,H2,1,I2,T,st2,f2,R]at h2;refine tJ hc S hix hb (RR:=λacc C=>compPost (model X.prog X.w) X.A X.xe none (EP X pins σ Q) acc C) I2 T st2 f2 R ?_;intro D C H' s' m hn ap I' q;erw[m,hn,λh'' hb''=>%[.ref D,H',ap.turn I' hb'',1|q]]
theorem mq{i:Nat}{y:Str}{py spos:Pos}(hN:X.N.Nodup)(hi0:X.N[i]?=some y)(hx:Loc X.env.scope y)(hc:X.calm=true)(S:CompScope X x N ix scope cl)(hix:ix.length=N.length)(hi:PI X (.Name x px) iter wi)(hb:∀s3 H3 fp,PB (dM X (x::N) scope cl s3 H3 fp) ifs elt tb)
 (hsw:swapsWith (.ListComp elt [%[.Name x px,iter,ifs|(0)]] scope pos) (some (.Name y py)) spos.line X.env=pure true:=by rfl')
 (hs:∀x,foldedSetIterable iter X.env x=pure x:=by intro _;rfl) (hf:X.fn y=true∨X.env.scope.names.lookup y=some .local:=by first | exact .inl rfl | exact .inr rfl | assumption) :
 PS X (.Assign [.Name y py] (.ListComp elt [%[.Name x px,iter,ifs|(0)]] scope pos) spos) (λD σ H=>yU wi ix tb σ H λv H'=>D.nx (σ.set i (some v)) H'):=by
 intro pins s σ H Dn I h;rw[exec_Assign_Name_used _ _ _ _ hsw];refine zA0 (wpAny_standAt (zA0 ?_));show wpAny _ X.A (do let _ ←comprehension (.ListComp elt [%[.Name x px,iter,ifs|(0)]] scope pos) scope X.env _ (newList []) false (eval iter X.env) (some (assign (.Name y py) X.env))) _ _ s;refine zA0 (wpAny_mono (wpAny_comprehension_free (use:=some (assign (.Name y py) X.env)) (Q:=λ_ s'=>SP X pins Dn .next s') rfl hs S.clos S.kind S.names
  (thn (hi pins s σ H _ I h) λxv s1 h1=>thn h1 λitv s2 h2=>?_)) (λ_ s' hq=>zI0 (zI0 hq)) λ_ _ e=>e)
 erw[it,fp,tn,J,H2,1,I2,T,st2,f2,R]at h2;refine tJ hc S hix hb (RR:=λacc C=>compPost (model X.prog X.w) X.A X.xe (some (assign (.Name y py) X.env)) (λ_ s'=>SP X pins Dn .next s') acc C) (Q:=λv H'=>Dn.nx (σ.set i (some v)) H') I2 T st2 f2 R ?_;intro D C H' s' m hn ap I' q;show wpAny _ X.A (assign (.Name y py) X.env (.ref D)) _ _ _;refine wpAny_assign_Name (pN I' hN hi0 hx (v:=.ref D) rfl (λs'' I'' hsb=>?_) hf);erw[a,hsb,ha]at hsb;have ne:C≠a:=by
  rcases ha with z | z
  . rw[z];exact ap.lo
  . exact Ne.symm (ap.ce y a z)
 erw[m,hn.sameBut hsb ne,λh'' hb''=>%[_,H',ap.turn I'' hb''|q]]
end
section
variable {X:Cx} {pins:List (Addr×Obj)} {σ:St} {H:Hp} {s:Shared} {h':Heap}
theorem Inv.turnedNew{t':Nat}{ch:List Addr}{T:Addr}(I:Inv X pins σ H s)(k:∀b u,b∉ch->s.heap.get? b=some u->h'.get? b=some u)(hf:∀b∈ch,jt X pins H b)(hT:s.heap.objs.size<=T)
 (new:ObjOk X.prog X.w (upd H T o) h' T o):Inv X pins σ (upd H T o) { s with heap:=h',toks:=t' }:=by
 have nit:∀b u,H b=some u->b∉ch:=λb u e z=>by rw[(hf b z).1]at e;cases e
 have hn:H T=none:=I.hok.fresh hT;have lt:∀b u,s.heap.get? b=some u->b≠T:=λb u e=>zS0 (qM0 (zL0 e) hT)
 refine I.step (g':=s.gens) (d':=s.drawn) (ch:=ch) (λb hb=>?_) (λb u _ _ hc e _=>k b u hc e) (λb u _ _ hc e _=>%[u.slots|k b u hc e]) (λb u _ e n=>by rw[aq (lt b u e)];exact n) (λb u hc e=>%[u|k b u hc e])
  (λb xs e=>by rw[aq (aN e hn)];exact e) (λb ob u e=>by rw[aq (aN e hn)];exact e) (λb ps e=>%[#[]|by rw[aq (aN e hn),e];simp]) (λm hm=>?_) (λb u e=>?_) I.bare
 . let%[_,h2,_,h4,h5|h6]:=hf b hb;erw[h4,h2,h5,h6]
 . erw[ob,es,ep,ho,r]at hm;erw[ob,es,ep,k _ ob (λz=>(hf _ z).2.1 rfl) ho,r]
 . by_cases hb:b=T
   . subst hb;rw[aC]at e;cases e;exact new
   . rw [aq hb]at e;refine(I.hok b u e).stay (λc v hc q=>k c v ?_ q) (λc q=>by rw[aq (aN q hn)];exact q) λc xs q=>by rw[aq (aN q hn)];exact q
     rcases hc with z | z
     . rw[z];exact nit b u e
     . exact nit c _ z
theorem Inv.turnedL{t':Nat}{ch:List Addr}(I:Inv X pins σ H s)(k:∀b u,b∉ch->s.heap.get? b=some u->h'.get? b=some u)(hf:∀b∈ch,jt X pins H b):Inv X pins σ H { s with heap:=h',toks:=t' }:=by
 have nit:∀b u,H b=some u->b∉ch:=λb u e z=>by rw[(hf b z).1]at e;cases e
 refine I.step (g':=s.gens) (d':=s.drawn) (ch:=ch) (λb hb=>?_) (λb u _ _ hc e _=>k b u hc e) (λb u _ _ hc e _=>%[u.slots|k b u hc e]) (λ_ _ _ _ n=>n) (λb u hc e=>%[u|k b u hc e])
  (λ_ _ e=>e) (λ_ _ _ e=>e) (λb ps e=>%[#[]|by rw[e];simp]) (λm hm=>?_) (λb u e=>?_) I.bare
 . let%[_,h2,_,h4,h5|h6]:=hf b hb;erw[h4,h2,h5,h6]
 . erw[ob,es,ep,ho,r]at hm;erw[ob,es,ep,k _ ob (λz=>(hf _ z).2.1 rfl) ho,r]
 . refine (I.hok b u e).stay (λc v hc q=>k c v ?_ q) (λ_ q=>q) λ_ _ q=>q
   rcases hc with z | z
   . rw[z];exact nit b u e
   . exact nit c _ z
end
def Ite(K:W.Frag)(a:Addr):It:=
 ⟨λi H=>∃xs x,SqL K H a xs/\xs[i]?=some x,λi H y H'=>∃t,y=.ref t/\H t=none/\∀xs x,SqL K H a xs->xs[i]?=some x->H'=upd H t (.tup [.int i,x]),λi H=>∃xs,SqL K H a xs/\xs.length<=i⟩
theorem wT{K:W.Frag}{elts:List Expr}{k:Nat}{pos:Pos}(a e it:Addr)(hei:e≠it) :
 Turn P w K (.Tuple elts k pos) (Ite K a) [e,it] e (λi h=>(∃old,IsEnum h e it i old)/\h.IsListIter it a i) where
 mem:=by simp
 obj:=λi h st b hb=>by
  erw[%[old|he],o,e2,c,d]at st;rcases zV0 hb with z | z
  . subst z;erw[_,he,λv z=>nomatch z]
  . have z':=zM0 z;subst z';erw[o,e2,λv z=>by rw[d]at z;cases z]
 keep:=λi h h' st k=>by
  erw[%[old|he],hit]at st;erw[%[old|k e (by simp) _ he],hit.at λo x=>k it (by simp) o x]
 item:=by
  intro X hP hw hK hc i pins s σ H E I hf st hg;subst hP hw hK;erw[xs,x,hq,hx]at hg;let%[its,rv,p|hz]:=I.list hq;let%[u,hu|ru]:=rv.get hx;erw[%[old|he],hit]at st;refine wpAny_pyNext_enum_item he hit p.isList (x:=u) (by simpa using hu) hei λh1 ho hit1 hT hsz hk=>?_
  erw[0,wpAny_letOwnedTupleGo_enum ho λh2 he2 hs2=>?_];have elt:e<s.heap.objs.size:=zL0 he;have hT2:h2.get? s.heap.objs.size=some { cls:=.type "tuple",data:=.seq #[.int i s.toks,u] }:=(hs2.2 _ (Ne.symm (zS0 elt))).trans hT;have I2:Inv X pins σ (upd H s.heap.objs.size (.tup [.int i,x])) { s with heap:=h2,toks:=s.toks+1 }:=by
   refine I.turnedNew (ch:=[e,it]) (λb ob hb eb=>?_) hf (zG0 _) %[by show 2<=sizeLine;decide,[.int i s.toks,u],.cons %[|0] (.cons ru .nil),%[_,hT2,1|0],_,hT2|1];have b1:b≠e:=λz=>hb (by simp [z])
   have b2:b≠it:=λz=>hb (by simp [z])
   exact(hs2.2 b b1).trans (hk b ob b1 b2 eb)
  erw[.ref s.heap.objs.size,_,I2,1,%[0,I.hok.fresh (zG0 _)|λys y hy hyi=>?_],%[%[u|by simpa using he2]|hit1.at λo z=>(hs2.2 it (Ne.symm hei)).trans z],λb hb=>?_]
  . have e1:=I.list_inj hy hq;subst e1;rw[hx]at hyi;cases hyi;rfl
  . have z:=hf b hb;have hlt:b<s.heap.objs.size:=by
     rcases zV0 hb with y | y
     . rw[y];exact elt
     . rw[zM0 y];erw[o,e2,_]at hit;exact zL0 e2
    rw[aq (zS0 hlt)];exact z.1
 done:=by
  intro X hP hw hK hc i pins s σ H E I hf st hg;subst hP hw hK;erw[xs,hq,hx]at hg;let%[its,rv,p|hz]:=I.list hq;erw[%[old|he],hit]at st;have hl:=rv.length;exact wpAny_pyNext_enum_end (I.ok.hd hc) he hit p.isList (Array.getElem?_eq_none (by simp;omega)) λh' eb=>%[1|I.turnedL (t':=s.toks) (ch:=[e,it]) (λb o hb eo=>eb b o (λz=>hb (by simp [z])) eo) hf]
 self:=λ_ _ _ _ _ st h=>by
  erw[%[old|he],_]at st;exact wpAny_pyIter_enum he h
section
variable {X:Cx} {elts:List Expr} {k:Nat} {tpos:Pos}
inductive ZiEnum(K:W.Frag)(R:(It->Hp->Prop))(x:V)(H1:Hp):Prop
 |mk:∀a,x=.ref a->(∃xs,SqL K H1 a xs)->R (Ite K a) H1->ZiEnum K R x H1
def iEnum(K:W.Frag)(tl:TE):TI:=λσ H R=>tl σ H λx H1=>ZiEnum K R x H1
theorem BP   {p pos:Pos} (hg:Gl X "enumerate") (hm:X.mg "enumerate"=none) (hl:PE X l tl) (hs:starEach [l] X.env=[(false,eval l X.env)]:=by rfl) :
 PI X (.Tuple elts k tpos) (.Call (.Name "enumerate" p) [l] [] pos) (iEnum X.K tl):=by
 intro pins s σ H R I h;refine Call_ (fh I hg hm boot_enumerate (PyProof.Rows.callWith_type1 ?_ hs rfl));rw[hs];show wpAny _ _ (spliced ((false,eval l X.env)::backTo pos (starEach [] X.env))) _ _ s;refine Calls.spliced_cons (thn (hl pins s σ H _ I h) λu s1 ⟨x,H1,I1,r1,a,ex,⟨xs,hq⟩,q⟩=>?_);subst ex;cases r1;let%[its,rv,p|hz]:=I1.list hq;refine Calls.spliced_nil ?_;refine call_enumerate_list p.isList λh' he hit hsz hk=>?_
 refine wpAny_pyIter_enum he ?_;have I2:Inv X pins σ H1 { s1 with heap:=h' }:=I1.kept (t':=s1.toks) hk;erw[s1.heap.objs.size+1,[s1.heap.objs.size+1,s1.heap.objs.size],_,_,H1,1,I2,wT a _ _ (Nat.ne_of_gt (Nat.lt_succ_self _)),%[%[_|he]|hit],λb hb=>?_,q];rcases zV0 hb with z | z
 . rw[z];exact I1.fpOk (qL0 _) (I1.hok.fresh (qL0 _))
 . rw[zM0 z];exact I1.fpOk (zG0 _) (I1.hok.fresh (zG0 _))
end
theorem AT{K:W.Frag}{xs:List V}{g:TG}{tb:TS}{D:Ends}{σ:St}{H:Hp}(Pv:Nat->St->Hp->Prop)(h0:Pv 0 σ H)(hl:∀i σ H,i<=xs.length->Pv i σ H->SqL K H a xs)
 (hs:∀i x σ H t,xs[i]?=some x->Pv i σ H->H t=none->g (.ref t) σ (upd H t (.tup [.int i,x])) λσ2 H2=>tb { D with nx:=Pv (i+1),ct:=Pv (i+1),bk:=D.nx } σ2 H2) (hd:∀ σ H,Pv xs.length σ H->D.nx σ H) :
 ∃ W:Nat->Nat->St->Hp->Prop,(∃m,W 0 m σ H)/\∀i m σ H,W i m σ H ->
  ((Ite K a).stop i H/\D.nx σ H)∨((Ite K a).go i H/\∃N:St->Hp->Prop,(∀ σ' H',N σ' H'->∃m',m'<m/\W (i+1) m' σ' H')/\∀x H',(Ite K a).yld i H x H'->g x σ H' λσ2 H2=>tb { D with nx:=N,ct:=N,bk:=D.nx } σ2 H2):=by
 erw[λi m σ H=>m=xs.length-i/\i<=xs.length/\Pv i σ H,%[xs.length,by simp,zW0 _|h0],6];rintro i m σ H ⟨rfl,hi,p⟩;have q:=hl i σ H hi p
 by_cases hlt:i<xs.length
 . refine .inr %[%[xs,xs[i],q|by simp [hlt]],Pv (i+1),λσ' H' p'=>%[xs.length-(i+1),3,1,hlt|p']|λx H' y=>?_];erw[t,1,ht,e]at y;have e':=e xs xs[i] q (by simp [hlt]);subst e';exact hs i xs[i] σ H t (by simp [hlt]) p ht
 . have e:i=xs.length:=by omega
   subst e;exact .inl %[%[xs,q|zG0 _]|hd σ H p]
mutual
inductive Rep(K:W.Frag)(H:Hp):V->PyData->Prop
 | non:Rep K H .non .none
 | bl (b:Bool):Rep K H (.bl b) (.bool b)
 | int (i:Int):Rep K H (.int i) (.int i)
 | str (x:Str):Rep K H (.str x) (.str x)
 | tup {a:Addr} {xs:List V} {ds:List PyData}:SqT K H a xs->RepAll K H xs ds->Rep K H (.ref a) (.tuple ds)
 | lst {a:Addr} {xs:List V} {ds:List PyData}:SqL K H a xs->RepAll K H xs ds->Rep K H (.ref a) (.list ds)
inductive RepAll(K:W.Frag)(H:Hp):List V->List PyData->Prop
 | nil:RepAll K H [] []
 | cons {x:V} {d:PyData} {xs:List V} {ds:List PyData}:Rep K H x d->RepAll K H xs ds->RepAll K H (x::xs) (d::ds)
end
section
variable {X:Cx} {pins:List (Addr×Obj)} {σ:St} {H:Hp} {s:Shared}
mutual
theorem Rep.reads(I:Inv X pins σ H s):∀{x:V}{d:PyData}{v:Value},Rep X.K H x d->RelV x v->∃as,Reads s.heap v d as
 | _,_,v,.non,r=>by cases(show v=Value.none from r);erw[_,Reads.none]
 | _,_,v,.bl b,r=>by cases(show v=Value.bool b from r);erw[_,Reads.bool b]
 | _,_,v,.int i,r=>by let%[t|e]:=(show ∃t,v=Value.int i t from r);cases e;erw[_,Reads.int i t]
 | _,_,v,.str x,r=>by let%[t|e]:=(show ∃t,v=Value.str x t from r);cases e;erw[_,Reads.str x t]
 | _,_,v,.tup (a:=a) h q,r=>by
   cases(show v=Value.ref a from r);let%[its,rv,%[o,ho,hc,n|hd]|_]:=I.tuple h;let%[as|z]:=RepAll.reads I q rv;erw[_,reads_tuple_at ho hc hd (by simpa using z)]
 | _,_,v,.lst (a:=a) h q,r=>by
   cases(show v=Value.ref a from r);let%[its,rv,%[o,n,ho,hc,_|hd]|_]:=I.list h;let%[as|z]:=RepAll.reads I q rv;erw[_,reads_list_at ho hc hd (by simpa using z)]
theorem RepAll.reads(I:Inv X pins σ H s):∀{xs:List V}{ds:List PyData}{vs:List Value},RepAll X.K H xs ds->Vals xs vs->∃as,ReadsAll s.heap vs ds as
 | _,_,_,.nil,.nil=>%[_|ReadsAll.nil]
 | _,_,_,.cons h q,.cons r rs=>by
   let%[as|z]:=Rep.reads I h r;let%[bs|y]:=RepAll.reads I q rs;erw[_,ReadsAll.cons z y]
end
end
theorem sk{K:W.Frag}:∀ns:List Int,RepAll K H (ns.map V.int) (ns.map PyData.int)
 | []=>.nil
 | n::r=>.cons (.int n) (sk r)
section
variable {X:Cx}
inductive rEqD(K:W.Frag)(x:V)(y:V)(H:Hp)(Q:VK):Prop
 |mk:∀d e,Rep K H x d->Rep K H y e->SeqAt.shaped d=true->SeqAt.shaped e=true->Q (.bl (PyData.eqv d e)) H->rEqD K x y H Q
inductive rNeD(K:W.Frag)(x:V)(y:V)(H:Hp)(Q:VK):Prop
 |mk:∀d e,Rep K H x d->Rep K H y e->SeqAt.shaped d=true->SeqAt.shaped e=true->Q (.bl (!PyData.eqv d e)) H->rNeD K x y H Q
theorem zZ(hu:X.A.units+64<cLine):OpR X (compareOp .Eq) (rEqD X.K):=by
 intro pins s σ H x y v u Q I rx ry h;erw[d,e,hd,he,sd,se,q]at h;let%[as|r1]:=Rep.reads I hd rx;let%[bs|r2]:=Rep.reads I he ry;exact eq_dataH r1 r2 sd se hu %[.bl _,H,I,1|q]
theorem qU(hu:X.A.units+64<cLine):OpR X (compareOp .NotEq) (rNeD X.K):=by
 intro pins s σ H x y v u Q I rx ry h;erw[d,e,hd,he,sd,se,q]at h;let%[as|r1]:=Rep.reads I hd rx;let%[bs|r2]:=Rep.reads I he ry;exact ne_dataH r1 r2 sd se hu %[.bl _,H,I,1|q]
inductive rCatT0(K:W.Frag)(x:V)(y:V)(H:Hp)(Q:VK):Prop
 |mk:∀a b ys,x=.ref a->y=.ref b->SqT K H a []->SqT K H b ys->Q (.ref b) H->rCatT0 K x y H Q
theorem oa:OpR X (binaryOp .Add) (rCatT0 X.K):=by
 intro pins s σ H x y v u Q I rx ry h;erw[a,b,ys,1,1,ha,hb,q]at h;cases rx;cases ry;let%[its,r1,p1|_]:=I.tuple ha;let%[its2,r2,p2|_]:=I.tuple hb;let%[%[cls,dd,data|sl],ho,hc,n|hd]:=id p1;let%[%[cls2,dd2,data2|sl2],ho2,hc2,n2|hd2]:=id p2;simp only at hc hd hc2 hd2;subst hc hd hc2 hd2;have e:its=[]:=r1.nil_iff.mpr rfl;exact concat_meets %[_,ho|1] ⟨_,ho2,rfl⟩ noFill_tuple_add seq_tuple_add PySem.F.slot_tuple_add PySem.F.entry_tuple_add (PySem.F.args_tuple_add_2 _ _)
  (tuple_addW0 a b its.toArray its2.toArray n n2 dd dd2 sl sl2 (by simp [e])) %[ho,ho2|%[.ref b,H,I,1|q]]
end
def Nx(n i:Nat)(Pv:Nat->Hp->Prop)(H:Hp):Prop:=∃m',m'<n-i/\(m'=n-(i+1)/\i+1<=n/\Pv (i+1) H)
theorem Nx.of{n i:Nat}{Pv:Nat->Hp->Prop}{H:Hp}(h:i<n)(p:Pv (i+1) H):Nx n i Pv H:=%[n-(i+1),3,1,h|p]
theorem jm{K:W.Frag}{xs:List V}{tb:TBl}{Q:VK}(Pv:Nat->Hp->Prop)(h0:Pv 0 (upd H D (.lst [])))(hl:∀i H,i<=xs.length->Pv i H->SqT K H a xs)
 (hs:∀i x H,xs[i]?=some x->Pv i H->tb (some x::outs ix σ) H (Nx xs.length i Pv) λz H'=>∃ys,H' D=some (.lst ys)/\ys.length<sizeLine/\Nx xs.length i Pv (upd H' D (.lst (ys++[z])))) (hd:∀H,Pv xs.length H->Q (.ref D) H) :
 oZ (Itt K a) D ix tb σ H Q:=by
 erw[λi m H=>m=xs.length-i/\i<=xs.length/\Pv i H,%[xs.length,by simp,zW0 _|h0],6];rintro i m H ⟨rfl,hi,p⟩;have q:=hl i H hi p
 by_cases hlt:i<xs.length
 . refine .inr %[%[xs,xs[i],q|by simp [hlt]]|λx H' y=>?_];erw[e,y]at y;subst e;exact hs i x _ (y xs q) p
 . have e:i=xs.length:=by omega
   subst e;exact .inl %[%[xs,q|zG0 _]|hd H p]
theorem jE{K:W.Frag}{xs:List V}{tb:TBl}{Q:VK}(Pv:Nat->Hp->Prop)(h0:Pv 0 (upd H D (.lst [])))(hl:∀i H,i<=xs.length->Pv i H->SqL K H a xs)
 (hs:∀i x H,xs[i]?=some x->Pv i H->tb (some x::outs ix σ) H (Nx xs.length i Pv) λz H'=>∃ys,H' D=some (.lst ys)/\ys.length<sizeLine/\Nx xs.length i Pv (upd H' D (.lst (ys++[z])))) (hd:∀H,Pv xs.length H->Q (.ref D) H) :
 oZ (Itl K a) D ix tb σ H Q:=by
 erw[λi m H=>m=xs.length-i/\i<=xs.length/\Pv i H,%[xs.length,by simp,zW0 _|h0],6];rintro i m H ⟨rfl,hi,p⟩;have q:=hl i H hi p
 by_cases hlt:i<xs.length
 . refine .inr %[%[xs,xs[i],q|by simp [hlt]]|λx H' y=>?_];erw[e,y]at y;subst e;exact hs i x _ (y xs q) p
 . have e:i=xs.length:=by omega
   subst e;exact .inl %[%[xs,q|zG0 _]|hd H p]
theorem cY{lo:Int}{n:Nat}{tb:TBl}{Q:VK}(Pv:Nat->Hp->Prop)(h0:Pv 0 (upd H D (.lst [])))
 (hs:∀i H,i<n->Pv i H->tb (some (.int (lo+i))::outs ix σ) H (Nx n i Pv) λz H'=>∃ys,H' D=some (.lst ys)/\ys.length<sizeLine/\Nx n i Pv (upd H' D (.lst (ys++[z])))) (hd:∀H,Pv n H->Q (.ref D) H) :
 oZ (Itr lo n) D ix tb σ H Q:=by
 erw[λi m H=>m=n-i/\i<=n/\Pv i H,%[n,by simp,zW0 _|h0],6];rintro i m H ⟨rfl,hi,p⟩
 by_cases hlt:i<n
 . refine .inr %[hlt|λx H' y=>?_];erw[e,y]at y;subst e y;exact hs i _ hlt p
 . have e:i=n:=by omega
   subst e;exact .inl %[zG0 _|hd H p]
theorem CompScope.closed{X:Cx}{x:Str}{scope:Scope}(c1:closureFor scope X.env=pure [])(c2:∀y∈scope.names,y.2≠.cell)(c3:scope.kind=.function)(c4:∀y∈scope.names,y.2=.local->scope.names.lookup y.1=some .local)
 (c5:scope.names.lookup x=some .local) (c6:((relabel scope X.env).names.all λp=>!(p.2==.cell||p.2==.free)||((([]:List (Str×Addr))).lookup p.1).isSome)=true):CompScope X x [] [] scope [] where
 clos:=c1
 nocell:=c2
 kind:=c3
 names:=c4
 own:=c5
 nd:=by simp
 sub:=λp hp=>absurd hp (by simp)
 has:=c6
 outs:=λj y h=>by simp at h
section
variable {X:Cx}
theorem cO(K:W.Frag)(hK:X.K=K:=by rfl):IxR X (rIxL K):=by subst hK;exact ix_list
theorem Cr(K:W.Frag)(hK:X.K=K:=by rfl):IxR X (rIxT K):=by subst hK;exact aF
end
def Its(z:Str):It:=⟨λi _=>i<z.cps.size,λi H x H'=>H'=H/\∃c,z.cps[i]?=some c/\x=.str %[|#[c]],λi _=>z.cps.size<=i⟩
theorem mD{prog:Program}{w:World}{A:Around}(hh:A.handled=none)(I:Addr)(x:Str)(t:Tok):Walks prog w A I [I] [I] x.cps.size (SignAt x) (λi h=>h.IsStrIter I (strIterType x) x t i):=by
 unfold strIterType
 split
 . exact Walks.strAscii hh I x t
 . exact Walks.strWide hh I x t
theorem yM{K:W.Frag}{y:Str}{py:Pos}(z:Str)(t:Tok)(it:Addr):Turn P w K (.Name y py) (Its z) [it] it (λi h=>i<=z.cps.size/\h.IsStrIter it (strIterType z) z t i) where
 mem:=by simp
 obj:=λi h st b hb=>by
  have e:b=it:=by simpa using hb
  subst e;erw[_,o,e,c,d]at st;erw[o,e,λv z=>by rw[d]at z;cases z]
 keep:=λi h h' st k=>by
  erw[hi,o,e,r]at st;erw[hi,o,k it (by simp) o e,r]
 item:=by
  intro X hP hw hK hc i pins s σ H E I hf st hg;subst hP hw hK;let%[f0,f1,f2,f3,f4|f5]:=hf it (by simp);refine(mD (I.ok.hd hc) it z t).item i s _ E hg st.2 λv h' tk hP hst hk=>?_
  erw[c,u,hcx,1]at hP;have I1:Inv X pins σ H { s with heap:=h',toks:=tk }:=I.turned (λb o hb e=>hk b o (by simpa using hb) e) f0 f1 f3 f4 f5;erw[0,wpAny_of_eq (a:=()) rfl %[.str %[|#[c]],H,I1,%[|0],%[1,c,hcx|1],%[hg|hst]|λb hb=>(hf b hb).1]]
 done:=by
  intro X hP hw hK hc i pins s σ H E I hf st hg;subst hP hw hK;let%[f0,f1,f2,f3,f4|f5]:=hf it (by simp);have e:i=z.cps.size:=Nat.le_antisymm st.1 hg;subst e;refine(mD (I.ok.hd hc) it z t).done s _ E st.2 λh' tk hk=>?_
  erw[1,I.turned (λb o hb e=>hk b o (by simpa using hb) e) f0 f1 f3 f4 f5]
 self:=λA i s Q E st h=>by
  erw[_,st]at st;unfold strIterType at st
  split at st
  . exact wpAny_pyIter_striter_ascii st h
  . exact wpAny_pyIter_striter_wide st h
section
variable {X:Cx} {y:Str} {py:Pos}
inductive ZiStr(R:(It->Hp->Prop))(x:V)(H1:Hp):Prop
 |mk:∀z,x=.str z->R (Its z) H1->ZiStr R x H1
def iStr(tl:TE):TI:=λσ H R=>tl σ H λx H1=>ZiStr R x H1
theorem zQ(hl:PE X l tl):PI X (.Name y py) l (iStr tl):=by
 intro pins s σ H R I h;refine thn (hl pins s σ H _ I h) λv s1 ⟨x,H1,I1,r1,q1⟩=>?_
 erw[z,e,q]at q1;subst e;erw[t,1]at r1;refine wpAny_pyIter_strU ?_;erw[s1.heap.objs.size,[s1.heap.objs.size],_,_,H1,1,I1.kept (t':=s1.toks) λb o e=>zP0 _ e,yM z t _,%[zW0 _,_,zZ0 _ rfl,1|1],λb hb=>?_,q];have e:b=s1.heap.objs.size:=by simpa using hb
 subst e;exact I1.fpOk (zG0 _) (I1.hok.fresh (zG0 _))
end
theorem oQ{z:Str}{tb:TBl}{Q:VK}(Pv:Nat->Hp->Prop)(h0:Pv 0 (upd H D (.lst [])))
 (hs:∀i c H,z.cps[i]?=some c->Pv i H->tb (some (.str %[|#[c]])::outs ix σ) H (Nx z.cps.size i Pv) λu H'=>∃ys,H' D=some (.lst ys)/\ys.length<sizeLine/\Nx z.cps.size i Pv (upd H' D (.lst (ys++[u])))) (hd:∀H,Pv z.cps.size H->Q (.ref D) H) :
 oZ (Its z) D ix tb σ H Q:=by
 erw[λi m H=>m=z.cps.size-i/\i<=z.cps.size/\Pv i H,%[z.cps.size,by simp,zW0 _|h0],6];rintro i m H ⟨rfl,hi,p⟩
 by_cases hlt:i<z.cps.size
 . refine .inr %[hlt|λx H' y=>?_];erw[e,c,hc,1]at y;subst e;exact hs i c _ hc p
 . have e:i=z.cps.size:=by omega
   subst e;exact .inl %[zG0 _|hd H p]
section
variable {X:Cx}
inductive rSlS(x:V)(lo:Option Int)(hi:Option Int)(H:Hp)(Q:VK):Prop
 |mk:∀z,x=.str z->z.length<=sizeLine->Q (.str (Txt.slice z lo hi)) H->rSlS x lo hi H Q
theorem uu:SlR X rSlS:=by
 intro pins s σ H x v vl vu lo hi sl Q I rx hs pl pu h;erw[z,1,hz,q]at h;erw[t,1]at rx;erw["str",_,F.slot_str_getitem.lookup,typeIs_str _ _ _,6];have fin:∀t' k,EP X pins σ Q (.str (Txt.slice z lo hi) t') { s with toks:=k }:=λt' k=>%[.str _,H,I.tok k,%[|0]|q]
 erw[o,ho,hc,hd]at hs;cases pl with
 | none=>
   cases pu with
   | none=>exact wpAny_getItem_str_slice (l:=none) (u:=none) (st:=none) %[o,ho,hc|hd] rfl (post_val_or_str ⟨zQ0 (Txt.slice_le z _ _) hz,fin⟩)
   | int j u=>exact wpAny_getItem_str_slice (l:=none) (u:=some (j,u)) (st:=none) %[o,ho,hc|hd] rfl (post_val_or_str ⟨zQ0 (Txt.slice_le z _ _) hz,fin⟩)
 | int i u'=>
   cases pu with
   | none=>exact wpAny_getItem_str_slice (l:=some (i,u')) (u:=none) (st:=none) %[o,ho,hc|hd] rfl (post_val_or_str ⟨zQ0 (Txt.slice_le z _ _) hz,fin⟩)
   | int j u=>exact wpAny_getItem_str_slice (l:=some (i,u')) (u:=some (j,u)) (st:=none) %[o,ho,hc|hd] rfl (post_val_or_str ⟨zQ0 (Txt.slice_le z _ _) hz,fin⟩)
inductive rStarts(x:V)(vs:List V)(H:Hp)(Q:VK):Prop
 |mk:∀z u,x=.str z->vs=[.str u]->Q (.bl (Txt.startswith z u)) H->rStarts x vs H Q
theorem pE:MtR X "str.startswith" rStarts:=by
 intro pins s σ H x vs v us Q I rx rv h;erw[z,u,1,1,q]at h;erw[t,1]at rx;erw[w',1,t',1]at rv.one;exact SC.startswith %[.bl _,H,I,1|q]
theorem mK:∀{zs:List Str}{us:List Value},Vals (zs.map V.str) us->StrsAre us zs
 | [],_,.nil=>.nil
 | _::_,_,.cons ⟨t,e⟩ r=>by subst e;exact .cons _ t (mK r)
inductive rJoin(K:W.Frag)(x:V)(vs:List V)(H:Hp)(Q:VK):Prop
 |mk:∀z a ys,x=.str z->vs=[.ref a]->SqL K H a (ys.map V.str)->z.length<=16->(ys.map (·.length)).sum+ys.length<=1048576->Q (.str (Txt.join z ys)) H->rJoin K x vs H Q
theorem Cf:MtR X "str.join" (rJoin X.K):=by
 intro pins s σ H x vs v us Q I rx rv h;erw[z,a,ys,1,1,hq,hz,hw,q]at h;erw[t,1]at rx;erw[w',1,ra]at rv.one;cases ra;let%[its,r',p|_]:=I.list hq;exact join_listW p.isList (by simpa using mK r') hz hw λt' k=>%[.str _,H,I.tok k,%[|0]|q]
inductive rAll(K:W.Frag)(xs:List V)(H:Hp)(Q:VK):Prop
 |mk:∀(a:Addr)(bs:List Bool),xs=[.ref a]->SqL K H a (bs.map V.bl)->Q (.bl (bs.all id)) H->rAll K xs H Q
theorem qi:∀{bs:List Bool}{us:List Value}{i:Nat}{v:Value},Vals (bs.map V.bl) us->us[i]?=some v->∃b,bs[i]?=some b/\v=.bool b
 | [],_,_,_,.nil,h=>by simp at h
 | b::_,_,0,_,.cons r _,h=>by
   simp at h
   subst h;erw[b,1,r]
 | _::_,_,i+1,_,.cons _ t,h=>by
   let%[b,h1|h2]:=qi (i:=i) t (by simpa using h);erw[b,by simpa using h1,h2]
theorem tN (hc:X.calm=true):gy X (.builtin "all") (rAll X.K):=by
 intro pins s σ H xs us Q I r h;erw[a,bs,1,hq,q]at h;let%[u,1|ru]:=jG r;cases ru;let%[its,r',p|hz]:=I.list hq;have hl:=r'.length;rw[zH0]at hl;have hlt:a<s.heap.objs.size:=by erw[o,n,e,_]at p;exact zL0 e
 refine call_all_walk (wpAny_pyIter_list p.isList ?_);erw[s.heap.objs.size,_,_,_,_,_,λi=>bs[i]?.getD true,1,Walks.list (A:=X.A.in1) (I.ok.hd hc) s.heap.objs.size a (zS0 hlt) its.toArray,%[%[_,zZ0 _ rfl,1|1]|p.isList.push _],6,6]
 . intro i v s' Q' E' hP hQ;let%[b,hb|1]:=qi r' (i:=i) (v:=v) (by simpa using hP);have hQ':Q' b s':=by simpa [hb]using hQ
   exact wpAny_truthy_bool hQ'
 . intro h' tk hk;have e:(List.range its.toArray.size).all (λi=>bs[i]?.getD true)=bs.all id:=by
    rw[zR0,←hl];rw[Bool.eq_iff_iff,List.all_eq_true,List.all_eq_true]
    constructor
    . intro h b hb;let%[i,hi|e]:=List.getElem_of_mem hb
      have:=h i (List.mem_range.mpr hi)
      rw[zN0 hi]at this
      simpa [e]using this
    . intro h i hi;have hi':=List.mem_range.mp hi;rw[zN0 hi'];exact h _ (qP0 hi')
   rw[e];erw[.bl _,H,6,1,q];have I1:Inv X pins σ H { s with heap:=s.heap.push { cls:=.type "list_iterator",data:=.fields #[.ref a,.int 0 0] } }:=I.kept (t':=s.toks) λb o e=>zP0 _ e
   refine I1.turnedL (t':=tk) (ch:=[s.heap.objs.size]) (λb o hb e=>hk b o (by simpa using hb) e) λb hb=>?_
   rw[zM0 hb];exact I.fpOk (zG0 _) (I.hok.fresh (zG0 _))
end
theorem wj {X:Cx}    {p pos:Pos} (C:Cal X.prog X.w X.K X.mg X.base n x [] sp) (hr:Room k X.A) (hk:n<=k) (hg:Gl X x) (hdb:(x==("__debug__":Str))=false:=by decide) :
 PE X (.Call (.Name x p) [] [] pos) (rS sp [] E0 ui):=by
 erw[f,fd,F,b,kp,m]at C.ex;exact zX F (hr.mono hk) hg m kp b .nil bh hdb
inductive Consts:List Expr->List Str->Prop
 | nil:Consts [] []
 | cons {x:Str} {j:Nat} {pos:Pos} {es:List Expr} {zs:List Str}:Consts es zs->Consts (.Constant (.str x) j pos::es) (x::zs)
theorem jx:∀{es:List Expr}{zs:List Str},Consts es zs->PA X es (λ_ H Q=>Q (zs.map V.str) H)
 | _,_,.nil=>aH
 | _,_,.cons h=>λpos pins s σ H Q I q=>ae au (jx h) (by rfl) pos pins s σ H Q I q
theorem CompScope.one{X:Cx}{x y:Str}{scope:Scope}{k:Nat}{c:Addr}(c1:closureFor scope X.env=pure [(y,c)])(c2:∀y∈scope.names,y.2≠.cell)(c3:scope.kind=.function)(c4:∀y∈scope.names,y.2=.local->scope.names.lookup y.1=some .local)
 (c5:scope.names.lookup x=some .local) (nd:[x,y].Nodup) (hc:X.env.cells.lookup y=some c) (c6:((relabel scope X.env).names.all λp=>!(p.2==.cell||p.2==.free)||(([(y,c)]:List (Str×Addr)).lookup p.1).isSome)=true)
 (hr:(relabel scope X.env).names.lookup y=some .cell) (hk:X.N[k]?=some y) (hs:X.env.scope.names.lookup y=some .cell):CompScope X x [y] [k] scope [(y,c)] where
 clos:=c1
 nocell:=c2
 kind:=c3
 names:=c4
 own:=c5
 nd:=nd
 sub:=λp hp=>by
  rw[zM0 hp];exact hc
 has:=c6
 outs:=λj z h=>by
  cases j with
  | zero=>
    have e:y=z:=zU0 h;subst e;erw[hr,k,c,1,hk,by simp [List.lookup],hs]
  | succ j=>simp at h
theorem CompScope.two{X:Cx}{x y z:Str}{scope:Scope}{k l:Nat}{c d:Addr}{cl:List (Str×Addr)}(c1:closureFor scope X.env=pure cl)(c2:∀y∈scope.names,y.2≠.cell)(c3:scope.kind=.function)(c4:∀y∈scope.names,y.2=.local->scope.names.lookup y.1=some .local)
 (c5:scope.names.lookup x=some .local) (nd:[x,y,z].Nodup) (hcl:cl=[(z,d),(y,c)]∨cl=[(y,c),(z,d)]) (hc:X.env.cells.lookup y=some c) (hd:X.env.cells.lookup z=some d) (c6:((relabel scope X.env).names.all λp=>!(p.2==.cell||p.2==.free)||(cl.lookup p.1).isSome)=true)
 (hr:(relabel scope X.env).names.lookup y=some .cell) (hk:X.N[k]?=some y) (hs:X.env.scope.names.lookup y=some .cell)
 (hr2:(relabel scope X.env).names.lookup z=some .cell) (hk2:X.N[l]?=some z) (hs2:X.env.scope.names.lookup z=some .cell):CompScope X x [y,z] [k,l] scope cl where
 clos:=c1
 nocell:=c2
 kind:=c3
 names:=c4
 own:=c5
 nd:=nd
 sub:=λp hp=>by
  rcases hcl with rfl | rfl
  all_goals
   rcases zV0 hp with e | e
   . rw[e];assumption
   . rw[zM0 e];assumption
 has:=c6
 outs:=λj w h=>by
  have nyz:y≠z:=λe=>by simp [e]at nd
  match j,h with
  | 0,h=>
    have e:y=w:=zU0 h;subst e;erw[hr,k,c,1,hk,6,hs];rcases hcl with rfl | rfl
    . have:(y==z)=false:=by simpa using nyz
      simp [List.lookup,this]
    . simp [List.lookup]
  | 1,h=>
    have e:z=w:=zU0 h;subst e;erw[hr2,l,d,1,hk2,6,hs2];rcases hcl with rfl | rfl
    . simp [List.lookup]
    . have:(z==y)=false:=by simpa using Ne.symm nyz
      simp [List.lookup,this]
  | j+2,h=>simp at h
end L2
namespace Mine
open PySem L2
def yC (x:Str):Prop:=x.length<=20/\(∀c∈x.cps.toList,97<=c/\c<=122)/\x≠"aa"
theorem jA{x:Str}{l u:Option Int}{c:Nat}(h:c∈(Txt.slice x l u).cps.toList):c∈x.cps.toList:=by
 have e:Txt.slice x l u=StrLaws.sliceText x l u:=rfl;rw[e]at h;unfold StrLaws.sliceText at h
 split at h
 . exact h
 . let%[i,_|hi]:=List.mem_filterMap.mp (show c∈(List.filterMap _ _) by simpa using h)
   have:=Array.mem_of_getElem? hi
   simpa using this
theorem mem_append{x y:Str}{c:Nat}(h:c∈(x++y).cps.toList):c∈x.cps.toList∨c∈y.cps.toList:=by
 have e:(x++y).cps.toList=x.cps.toList++y.cps.toList:=by simp [Str.cps_append]
 rw[e]at h;exact qD0 h
theorem xU {zs:List Str} {c:Nat} (h:c∈(Txt.join "" zs).cps.toList):∃z∈zs,c∈z.cps.toList:=by
 have e:Txt.join "" zs=Str.join "" zs:=by
  cases zs with
  | nil=>rfl
  | cons a r=>exact StrLaws.glued_cons "" r a
 rw[e]at h;rcases(PyProof.Rows.mem_join "" c zs).mp h with h | ⟨_,h⟩
 . exact h
 . have e0:(("":Str)).cps.toList=[]:=by decide
   rw[e0]at h;cases h
inductive Tr where
 | is (x:Str) | yes | no | not (a:Tr) | bin (w:Str) (a b:Tr)
def Tr.size:Tr->Nat
 | .is _=>1 | .yes=>1 | .no=>1 | .not a=>a.size+1 | .bin _ a b=>a.size+b.size+1
def Tr.depth:Tr->Nat
 | .is _=>1 | .yes=>1 | .no=>1 | .not a=>a.depth+1 | .bin _ a b=>max a.depth b.depth+1
def Tr.names:Tr->List Str
 | .is x=>[x] | .yes=>[] | .no=>[] | .not a=>a.names | .bin _ a b=>a.names++b.names
def joinW:List Str:=["and","or","odd","same"]
def Tr.ok(ns:List Str):Tr->Prop
 | .is x=>x∈ns | .yes=>True | .no=>True | .not a=>a.ok ns | .bin w a b=>w∈joinW/\a.ok ns/\b.ok ns
inductive TreeAt(H:Hp):V->Tr->Prop
 | is {a:Addr} {x:Str}:H a=some (.tup [.str "is",.str x])->TreeAt H (.ref a) (.is x)
 | yes {a:Addr}:H a=some (.tup [.str "yes"])->TreeAt H (.ref a) .yes
 | no {a:Addr}:H a=some (.tup [.str "no"])->TreeAt H (.ref a) .no
 | not {a:Addr} {v:V} {t:Tr}:H a=some (.tup [.str "not",v])->TreeAt H v t->TreeAt H (.ref a) (.not t)
 | bin {a:Addr} {w:Str} {v u:V} {t r:Tr}:H a=some (.tup [.str w,v,u])->TreeAt H v t->TreeAt H u r->TreeAt H (.ref a) (.bin w t r)
abbrev bY(H H':Hp):Prop:=∀a xs,H a=some (.tup xs)->H' a=some (.tup xs)
theorem TreeAt.mono(k:bY H H')(h:TreeAt H v t):TreeAt H' v t:=by
 induction h with
 | is e=>exact .is (k _ _ e)
 | yes e=>exact .yes (k _ _ e)
 | no e=>exact .no (k _ _ e)
 | not e _ ih=>exact .not (k _ _ e) ih
 | bin e _ _ i1 i2=>exact .bin (k _ _ e) i1 i2
theorem aV(s:Same H H'):bY H H':=λa _ h=>s a _ h
theorem aP(F:FeedAt H f)(s:SameBut f H H'):bY H H':=λa xs h=>s a _ (λz=>by
 erw[o,t,e,_]at F;rw[z,e]at h;cases h) h
def NamesAt(H:Hp)(a:Addr)(ns:List Str):Prop:=H a=some (.lst (ns.map V.str))∨H a=some (.tup (ns.map V.str))
theorem NamesAt.ne(F:FeedAt H f)(h:NamesAt H a ns):a≠f:=λz=>by
 erw[o,t,e,_]at F;subst z;rcases h with h | h
 . rw [e]at h;have h':=HO.lst.inj (zU0 h);cases ns with
   | nil=>cases h'
   | cons x r=>simp at h'
 . rw[e]at h;cases h
theorem NamesAt.feed(F:FeedAt H f)(s:SameBut f H H')(h:NamesAt H a ns):NamesAt H' a ns:=by
 have ne:=h.ne F;rcases h with h | h
 . exact .inl (s _ _ ne h)
 . exact .inr (s _ _ ne h)
theorem NamesAt.same(s:Same H H')(h:NamesAt H a ns):NamesAt H' a ns:=by
 rcases h with h | h
 . exact .inl (s _ _ h)
 . exact .inr (s _ _ h)
theorem NamesAt.seq{K:W.Frag}(h:NamesAt H a ns):SqL K H a (ns.map V.str)∨SqT K H a (ns.map V.str):=by
 rcases h with h | h
 . exact .inl (zF0 h)
 . exact .inr (zD0 h)
theorem NamesAt.ix{K:W.Frag}{x:V}{Q:VK}(h:NamesAt H a ns)(hx:atI (ns.map V.str) i=some x)(q:Q x H):rIxL K (.ref a) (.int i) H Q∨rIxT K (.ref a) (.int i) H Q:=by
 rcases h with h | h
 . exact .inl %[a,_,i,x,1,1,zF0 h,hx|q]
 . exact .inr %[a,_,i,x,1,1,zD0 h,hx|q]
inductive spTree(n:Nat)(vs:List V)(H:Hp)(Q:VK)(u_3:XK):Prop
 |mk:∀(f a:Addr)(room deep:Int)(ns:List Str),vs=[.ref f,.ref a,.int room,.int deep]->FeedAt H f->NamesAt H a ns->ns.length<=6->1<=room->room<=100->1<=deep->deep+1<=(n:Int)+1->(∀(v:V)(t:Tr)(H':Hp),FeedAt H' f->SameBut f H H'->TreeAt H' v t->t.ok ns->(t.size:Int)<=room->(t.depth:Int)<=deep->Q v H')->spTree n vs H Q u_3
theorem lW{α:Type}{l:List α}{i:Int}(h0:0<=i)(h:i<(l.length:Int)):∃v,atI l i=some v/\v∈l:=by
 have hk:i.toNat<l.length:=by omega
 have q:atI l ((i.toNat:Nat):Int)=some l[i.toNat]:=db (zN0 hk);have ek:((i.toNat:Nat):Int)=i:=by omega
 rw[ek]at q;erw[_,q,qP0 hk]
end Mine
namespace L2
open PySem PySem.Spec PyProof.Rows
section
variable {X:Cx}
def qN(lo:Int)(n:Nat):List Int:=(List.range n).map λi:Nat=>lo+(i:Int)
theorem zG(lo:Int)(n:Nat):(qN lo n).length=n:=by unfold qN;rw[zH0,qO0]
theorem xu{lo:Int}{n:Nat}{acc:List Value}(h:ItemsOf (λi v=>∃t,v=Value.int (lo+(i:Int)*1) t) acc.toArray n):Vals ((qN lo n).map V.int) acc:=by
 erw[h1,h2]at h;have l1:acc.length=n:=by simpa using h1
 have key:∀(k:Nat)(l:List Value),(∀i v,l[i]?=some v->∃t,v=Value.int (lo+((k+i:Nat):Int)) t)->Vals (((List.range' k l.length).map λi:Nat=>lo+(i:Int)).map V.int) l:=by
  intro k l
  induction l generalizing k with
  | nil=>intro _;exact .nil
  | cons a r ih=>
    intro h;let%[t|e]:=h 0 a rfl;rw[zT0,List.range'_succ,qC0,qC0];refine .cons %[t|by simpa using e] (ih (k+1) λi v hv=>?_);let%[t|e]:=h (i+1) v (by simpa using hv);erw[t,by rw[e];congr 2;omega]
 have:=key 0 acc λi v hv=>by
  let%[t|e]:=h2 i v (by simpa using hv);erw[t,by simpa using e]
 unfold qN;rw[←l1,List.range_eq_range'];exact this
inductive ZtListRng(Q:VK)(vs:(List V))(H1:Hp):Prop
 |mk:∀i j:Int,vs=[.int i,.int j]->-(2 ^ 62)<=i/\i<2 ^ 62/\-(2 ^ 62)<=j/\j<2 ^ 62->j-i<=1000->(∀p,H1 p=none->Q (.ref p) (upd H1 p (.lst ((qN i (j-i).toNat).map V.int))))->ZtListRng Q vs H1
def yR(ta:TA):TE:=λσ H Q=>ta σ H λvs H1=>ZtListRng Q vs H1
theorem uQ {a b:Expr}  {p1 p2 pos1 pos2:Pos} (hc:X.calm=true) (hg1:Gl X "list") (hm1:X.mg "list"=none) (hg2:Gl X "range") (hm2:X.mg "range"=none) (ha:PA X [a,b] ta)
 (hs1:starEach [(.Call (.Name "range" p2) [a,b] [] pos2:Expr)] X.env=[(false,eval (.Call (.Name "range" p2) [a,b] [] pos2) X.env)]:=by rfl) (hs:starEach [a,b] X.env=[(false,eval a X.env),(false,eval b X.env)]:=by rfl) (hs2:starEach [b] X.env=[(false,eval b X.env)]:=by rfl) :
 PE X (.Call (.Name "list" p1) [.Call (.Name "range" p2) [a,b] [] pos2] [] pos1) (yR ta):=by
 intro pins s σ H Q I h;refine wpAny_Call_Name_kw (fh I hg1 hm1 iG ?_);refine PyProof.Rows.callWith_type1 ?_ hs1 rfl;rw[hs1];show wpAny _ _ (spliced ((false,eval (.Call (.Name "range" p2) [a,b] [] pos2) X.env)::backTo pos1 (starEach [] X.env))) _ _ s;have step:wpAny (model X.prog X.w) X.A (eval (.Call (.Name "range" p2) [a,b] [] pos2) X.env) (λv s1=>∃(r:Addr) (i j:Int) (t u k:Tok) (H1:Hp),v=.ref r/\Inv X pins σ H1 s1/\IsRange s1.heap r i j 1 t u k/\(-(2 ^ 62)<=i/\i<2 ^ 62/\-(2 ^ 62)<=j/\j<2 ^ 62)/\j-i<=1000/\
  ∀p,H1 p=none->Q (.ref p) (upd H1 p (.lst ((qN i (j-i).toNat).map V.int)))) X.xe s:=by
  refine Call_ (fh I hg2 hm2 boot_range (PyProof.Rows.callWith_type1 (thn (ha pos2 pins s σ H _ I h) λus s1 ⟨vs,H1,I1,r1,q1⟩=>?_) (by rw[hs,hs2]) (by rw[hs2];rfl)));erw[i,j,e,q1,q2,q]at q1;subst e;cases r1 with
  | cons r rr=>
    cases rr with
    | cons r' rr=>
      cases rr;erw[t,1]at r;erw[t',1]at r';refine call_range_2 %[_,i,j,_,_,_,H1,1,I1.kept λb o e=>zP0 _ e,IsRange.new ..,q1,q2|q]
 refine Calls.spliced_cons (thn step λv s1 hv=>?_);erw[r,i,j,t,u,k,H1,1,I1,hr,%[a1,a2,a3|a4],hle,q]at hv;refine Calls.spliced_nil ?_;have e2:Builtin.Range.rangeSize i j 1=(((j-i).toNat:Nat):Int):=by rw[rangeSize_one];split <;> omega
 refine call_list_range (I1.ok.hd hc) hr (small_one a1 a2 a3 a4) e2 #[0] λh' tk acc' c' hk hS hacc=>?_
 obtain⟨acc,rfl⟩:∃acc:List Value,acc'=acc.toArray:=%[acc'.toList|by simp]
 have rr:=xu hacc;have I2:Inv X pins σ (upd H1 s1.heap.objs.size (.lst ((qN i (j-i).toNat).map V.int))) { s1 with heap:=h',toks:=tk }:=by
  refine I1.turnedNew (ch:=[]) (λb ob _ eb=>hk b ob eb) (λb hb=>absurd hb (by simp)) (zG0 _) %[6,acc,c',rr|hS];rw[zH0,zG];exact bK #[0]
 erw[.ref s1.heap.objs.size,_,I2,1,q _ (I1.hok.fresh (zG0 _))]
inductive rSum(K:W.Frag)(xs:List V)(H:Hp)(Q:VK):Prop
 |mk:∀(a:Addr)(ns:List Int),xs=[.ref a]->SqL K H a (ns.map V.int)->(∀n∈ns,0<=n)->ns.sum<2 ^ 63->Q (.int ns.sum) H->rSum K xs H Q
theorem oF:∀{bs:List Int}{us:List Value}{i:Nat}{v:Value},Vals (bs.map V.int) us->us[i]?=some v->∃b t,bs[i]?=some b/\v=.int b t
 | [],_,_,_,.nil,h=>by simp at h
 | b::_,_,0,_,.cons r _,h=>by
   simp at h
   subst h;erw[t,e]at r;erw[b,t,1,e]
 | _::_,_,i+1,_,.cons _ t,h=>by
   let%[b,t,h1|h2]:=oF (i:=i) t (by simpa using h);erw[b,t,by simpa using h1,h2]
theorem lG{ns:List Int}(h:∀n∈ns,0<=n)(j:Nat):0<=(ns.take j).sum/\(ns.take j).sum<=ns.sum:=by
 induction ns generalizing j with
 | nil=>simp
 | cons a r ih=>
   cases j with
   | zero=>
     have:=ih (λn hn=>h n (qG0 _ hn)) r.length
     rw[qJ0]at this;have a0:=h a zY0;simp only[List.take_zero,List.sum_nil,List.sum_cons];omega
   | succ j=>
     have:=ih (λn hn=>h n (qG0 _ hn)) j
     have a0:=h a zY0;simp only[List.take_succ_cons,List.sum_cons];omega
theorem lN(ns:List Int)(j:Nat):preSum (λi=>ns[i]?.getD 0) j=(ns.take j).sum:=by
 induction j with
 | zero=>simp;rfl
 | succ j ih=>
   show preSum (λi=>ns[i]?.getD 0) j+(λi=>ns[i]?.getD 0) j=_;rw[ih,qN0,List.sum_append];cases e:ns[j]? with
   | none=>simp [e]
   | some x=>simp [e]
theorem Bc (hc:X.calm=true):gy X (.builtin "sum") (rSum X.K):=by
 intro pins s σ H xs us Q I r h;erw[a,ns,1,hq,n0,nb,q]at h;let%[u,1|ru]:=jG r;cases ru;let%[its,r',p|hz]:=I.list hq;have hl:=r'.length;rw[zH0]at hl;have hlt:a<s.heap.objs.size:=by erw[o,n,e,_]at p;exact zL0 e
 refine call_sum_walk (wpAny_pyIter_list p.isList ?_);erw[s.heap.objs.size,_,_,_,_,_,λi=>ns[i]?.getD 0,1,Walks.list (A:=X.A.in1) (I.ok.hd hc) s.heap.objs.size a (zS0 hlt) its.toArray,%[%[_,zZ0 _ rfl,1|1]|p.isList.push _],6,6,6,6]
 . intro b hb;have hpz:∀o:Obj,(s.heap.push o).objs.size=s.heap.objs.size+1:=λo=>by simp [Heap.push]
   show b<(s.heap.push _).objs.size;rw[hpz];rcases zV0 hb with e | e
   . rw[e];exact Nat.lt_succ_self _
   . rw[zM0 e];exact Nat.lt_succ_of_lt hlt
 . intro i v hP;let%[b,t,hb|1]:=oF r' (i:=i) (v:=v) (by simpa using hP);erw[t,by simp [hb]]
 . intro j hj;have hj':j<ns.length:=by rw[hl];simpa using hj
   have s1:=lG n0 (j+1);rw[lN];erw[6,by unfold InLong;omega];have s2:=lG n0 j;have e:(ns.take (j+1)).sum=(ns.take j).sum+ns[j]:=by rw[qN0,List.sum_append,zN0 hj'];simp
   have n1:=n0 _ (qP0 hj');show InLong (ns[j]?.getD 0);rw[zN0 hj'];show InLong ns[j];unfold InLong;omega
 . intro h' tk t' hk;rw[lN,zR0,←hl,qJ0];erw[.int _,H,6,%[|0],q];have I1:Inv X pins σ H { s with heap:=s.heap.push { cls:=.type "list_iterator",data:=.fields #[.ref a,.int 0 0] } }:=I.kept (t':=s.toks) λb o e=>zP0 _ e
   refine I1.turnedL (t':=tk) (ch:=[s.heap.objs.size]) (λb o hb e=>hk b o (by simpa using hb) e) λb hb=>?_
   rw[zM0 hb];exact I.fpOk (zG0 _) (I.hok.fresh (zG0 _))
end
theorem vU:Slot "reversed" "__iter__" "reversed.__iter__":=Slot.of (owner:="reversed") (n:="__iter__") (by rw[typeLookup_type,builtinLookup_eq_fast];kernel_rfl) ⋯ ⋯ ⋯ (by first | exact .inl ⋯ | exact .inr ⋯) (by rw[isSubtype_type];kernel_rfl) ⋯
theorem rv_next:Slot "reversed" "__next__" "reversed.__next__":=Slot.of (owner:="reversed") (n:="__next__") (by rw[typeLookup_type,builtinLookup_eq_fast];kernel_rfl) ⋯ ⋯ ⋯ (by first | exact .inl ⋯ | exact .inr ⋯) (by rw[isSubtype_type];kernel_rfl) ⋯
theorem yO:typeLookup (.type "tuple") "__reversed__"=pure none:=by rw[typeLookup_type,builtinLookup_eq_fast];kernel_rfl
theorem xo:entryFor table "reversed.__iter__"=some Builtin.«dict_keyiterator.__iter__»:=entryFor_alias (by kernel_rfl) rfl (show _="dict_keyiterator.__iter__" by decide) (by kernel_rfl)
theorem pP:entryFor table "reversed.__next__"=some Builtin.«reversed.__next__»:=entryFor_of_tree (by kernel_rfl)
def RevT (h:Heap) (it t:Addr) (i:Int):Prop:=h.get? it=some { cls:=.type "reversed",data:=.fields #[.ref t,rawInt i] }
section
variable {prog:Program} {w:World} {A:Around} {E:Value->Shared->Prop} {s:Shared} {R:Result->Shared->Prop} {it t:Addr}
theorem RevT.typeIs  (h:RevT s.heap it t i):s.TypeIs (.ref it) "reversed":=%[_,h|1]
theorem pX{Q:Value->Shared->Prop}(h:RevT s.heap it t i)(q:Q (.ref it) s):wpAny (model prog w) A (pyIter (.ref it)) Q E s:=
 wpAny_pyIter_slot h.typeIs vU (wpAny_call_entry vU h.typeIs xo (zI0 %[0,"reversed",_,h.typeIs,rv_next.lookup|q]) (by rfl))
theorem ou{i:Nat}{items:Array Value}{x:Value}{Q:Option Value->Shared->Prop}(h:RevT s.heap it t (i:Int))(ht:IsTup s.heap t items)(hx:items[i]?=some x)(hi:(i:Int)<2 ^ 63)
 (q:∀h' tk,RevT h' it t ((i:Int)-1)->Heap.SameBut it s.heap h'->Q (some x) { s with heap:=h',toks:=tk }):wpAny (model prog w) A (pyNext (.ref it)) Q E s:=by
 have hT:=h.typeIs;have hs:i<items.size:=(Array.getElem?_eq_some_iff.mp hx).1;unfold pyNext;refine zA0 (wpAny_attempt (wpAny_callSpecial?_slot hT rv_next (wpAny_call_entry rv_next hT pP ?_ (by rfl))));unfold Builtin.«reversed.__next__»;refine zA0 (wpAny_of_eq (show slotArgs "__next__" 0 %[[.ref it]|[]]=pure (.ref it,[])from rfl) ?_);refine zA0 (wpAny_field h rfl rfl ?_);refine zA0 (wpAny_field h rfl rfl ?_);refine wpAny_ite_split (λhab=>absurd hab #[0]) (λ_=>?_);refine zA0 (wpAny_specialOf (show s.TypeIs (.ref t) "tuple" from ht.typeIs) PyProof.Rows.slot_tuple_getitem.lookup ?_);refine wpAny_ite_split (λhab=>absurd hab (by simp)) (λ_=>?_);refine zA0 (wpAny_mkInt ?_);have e1:seqIndex? (i:Int) items.size=some i:=(rC (by unfold ixN;rw[zE0 #[0],zE0 #[0]];simp)).1;refine zA0 (wpAny_attempt (PyProof.Rows.getItem_tuple (items:=items) (x:=x) ht #[0] hi e1 hx ?_));refine zA0 (wpAny_field h rfl rfl ?_);refine zA0 (wpAny_setField_rec h (by simp) λh' e hb=>?_);refine zI0 %[0|zI0 (q h' _ ?_ hb)];exact e
theorem pD{Q:Option Value->Shared->Prop}(hh:A.handled=none)(h:RevT s.heap it t (-1))
 (q:∀h' tk,Heap.ExtBut it s.heap h'->Q none { s with heap:=h',toks:=tk }):wpAny (model prog w) A (pyNext (.ref it)) Q E s:=by
 have hT:=h.typeIs;unfold pyNext;refine zA0 (wpAny_attempt (wpAny_callSpecial?_slot hT rv_next (wpAny_call_entry rv_next hT pP ?_ (by rfl))));unfold Builtin.«reversed.__next__»;refine zA0 (wpAny_of_eq (show slotArgs "__next__" 0 %[[.ref it]|[]]=pure (.ref it,[])from rfl) ?_);refine zA0 (wpAny_field h rfl rfl ?_);refine zA0 (wpAny_field h rfl rfl ?_);refine wpAny_ite_split (λ_=>?_) (λhab=>absurd ⋯ hab);refine zA0 (wpAny_rule ?_);refine zA0 ?_;show wpAny _ _ (setField (.ref it) 1 (rawInt (-1)) >>= λ_=>setField (.ref it) 0 Value.none) _ _ _;refine zA0 (wpAny_setField_rec h (by simp) λh1 e1 b1=>?_);refine wpAny_setField_rec e1 (by simp) λh2 e2 b2=>?_
 refine zA0 ?_;unfold Builtin.SmallTypes.stopIteration newExc newTuple;refine zA0 (zA0 (wpAny_newObj_type ?_ (by show 0<=sizeLine;decide)));refine zA0 (wpAny_of_eq (show firstArgMember (.type "StopIteration") []=pure .none by rfl') ?_);refine wpAny_newObj_type ?_ (sizeOk_excFields ..);refine wpAny_raiseNew_none hh ?_;refine zA0 (wpAny_isInstance (T:="StopIteration") %[_,zZ0 _ rfl|1] isSubtype_stop ?_);refine wpAny_ite_split (λ_=>?_) (λhab=>absurd rfl hab);refine zI0 (q _ _ ?_);exact(b1.extBut.trans b2.extBut).trans λb o hb e=>zP0 _ (zP0 _ e)
theorem BF:Slot "reversed" "__init__" "object.__init__":=Slot.of (owner:="object") (n:="__init__") (by rw[typeLookup_type,builtinLookup_eq_fast];kernel_rfl) ⋯ ⋯ ⋯ (by first | exact .inl ⋯ | exact .inr ⋯) (by rw[isSubtype_type];kernel_rfl) ⋯
theorem xq:TypeCalled "reversed" "reversed.__new__" "object.__init__":=%[4,F.create_reversed,%[_,_|F.mro_reversed],F.made_reversed,F.plain_reversed_new,F.sub_reversed_self|BF]
theorem wX:isSubtype (.type "tuple") (.type "dict")=pure false:=by rw[isSubtype_type];kernel_rfl
theorem kN{items:Array Value}{Q:Value->Shared->Prop}(ht:IsTup s.heap t items)(hz:items.size<=sizeLine)
 (q:∀tk,Q (.ref s.heap.objs.size) { s with heap:=s.heap.push { cls:=.type "reversed",data:=.fields #[.ref t,rawInt ((items.size:Int)-1)] },toks:=tk }):wpAny (model prog w) A (call (.type "reversed") [.ref t]) Q E s:=by
 have h63:=iD;refine callType_newIn xq ⋯ (F.typeCall_reversed_1 _) (F.newCall_reversed_1 _) (λ_=>by rfl) F.entry_reversed_new
  (S:=λA R s=>wpAny (model prog w) A.in1 (Builtin.«reversed.__new__» %[[.type "reversed",.ref t]|[]]) (λfin s'=>match fin with | .done f=>R (.ok f) s' | .again c'=>c'.quiet=true/\codeAny (model prog w) A c' R s') (λe s'=>R (.error e) s') s) (λA R s h=>h) ?_
 unfold Builtin.«reversed.__new__»;refine zA0 (wpAny_of_eq (newClass_reversed _) ?_);refine zA0 (wpAny_of_eq (a:=()) rfl ?_);refine zA0 (wpAny_of_eq (a:=()) rfl ?_);refine zA0 (wpAny_specialOf ht.typeIs yO ?_);refine zA0 ?_;refine zA0 (wpAny_isInstance ht.typeIs wX ?_);refine wpAny_ite_split (λhab=>absurd hab ⋯) (λ_=>?_);refine zA0 (wpAny_specialOf ht.typeIs PyProof.Rows.slot_tuple_getitem.lookup ?_);refine wpAny_ite_split (λ_=>?_) (λhab=>absurd ⋯ hab);refine zI0 ?_;refine wpAny_ite_split (λhab=>absurd hab ⋯) (λ_=>?_);refine zA0 (len_tuple ht #[0] ?_);refine zA0 (zI0 ?_);refine zA0 (wpAny_newObj_type (data:=.fields #[.ref t,rawInt ((items.size:Int)-1)]) ?_ (by show 2<=sizeLine+2;decide));refine zI0 ?_;erw[%[_,zZ0 _ rfl|1],q _]
end
end L2
namespace Mine
open PySem L2
def Tr.wf:Tr->Prop
 | .is x=>yC x | .yes=>True | .no=>True | .not a=>a.wf | .bin w a b=>w∈joinW/\a.wf/\b.wf
def Tr.parts:Tr->List Tr
 | .is _=>[] | .yes=>[] | .no=>[] | .not a=>[a] | .bin _ a b=>[a,b]
theorem Tr.ok_wf{ns:List Str}(hn:∀x∈ns,yC x):∀t:Tr,t.ok ns->t.wf
 | .is _,h=>hn _ h
 | .yes,_=>trivial
 | .no,_=>trivial
 | .not a,h=>Tr.ok_wf hn a h
 | .bin _ a b,⟨h,h1,h2⟩=>%[h,Tr.ok_wf hn a h1|Tr.ok_wf hn b h2]
theorem Tr.depth_pos:∀t:Tr,1<=t.depth
 | .is _=>zG0 _ | .yes=>zG0 _ | .no=>zG0 _ | .not a=>Nat.le_add_left .. | .bin _ a b=>Nat.le_add_left ..
def kc(ts:List Tr):Nat:=(ts.map Tr.size).sum
def gl(ts:List Tr):List Str:=(ts.map Tr.names).flatten
theorem Tr.size_parts(t:Tr):t.size=kc t.parts+1:=by
 cases t <;> simp [Tr.size,Tr.parts,kc]
theorem Tr.names_parts(t:Tr)(h:∀x,t≠.is x):t.names=gl t.parts:=by
 cases t with
 | is x=>exact absurd rfl (h x)
 | _=>simp [Tr.names,Tr.parts,gl]
theorem Tr.parts_mem{t u:Tr}(h:u∈t.parts)(w:t.wf):u.wf/\u.depth+1<=t.depth/\u.size+1<=t.size:=by
 cases t with
 | is x=>simp [Tr.parts]at h
 | yes=>simp [Tr.parts]at h
 | no=>simp [Tr.parts]at h
 | not a=>
   rw[zM0 h];erw[w,zG0 _,zG0 _]
 | bin o a b=>
   erw[_,w1,w2]at w;rcases zV0 h with e | e
   . rw [e];erw[w1,6,6]
     . show a.depth+1<=max a.depth b.depth+1;omega
     . show a.size+1<=a.size+b.size+1;omega
   . rw [zM0 e];erw[w2,6,6]
     . show b.depth+1<=max a.depth b.depth+1;omega
     . show b.size+1<=a.size+b.size+1;omega
inductive TreesAt(H:Hp):List V->List Tr->Prop
 | nil:TreesAt H [] []
 | cons {v:V} {t:Tr} {vs:List V} {ts:List Tr}:TreeAt H v t->TreesAt H vs ts->TreesAt H (v::vs) (t::ts)
theorem TreesAt.mono(k:bY H H')(h:TreesAt H vs ts):TreesAt H' vs ts:=by
 induction h with
 | nil=>exact .nil
 | cons a _ ih=>exact .cons (a.mono k) ih
theorem TreesAt.length(h:TreesAt H vs ts):vs.length=ts.length:=by
 induction h with
 | nil=>rfl
 | cons _ _ ih=>rw[zT0,zT0,ih]
theorem TreesAt.get(h:TreesAt H vs ts):∀{i:Nat}{v:V},vs[i]?=some v->∃t,ts[i]?=some t/\TreeAt H v t:=by
 induction h with
 | nil=>intro i v e;simp at e
 | cons a _ ih=>
   intro i v e;cases i with
   | zero=>cases(zU0 e);erw[0,a]
   | succ i=>exact ih (i:=i) (by simpa using e)
theorem vx {w:Str} (h:w∈joinW):w≠"is":=(by decide:∀w∈joinW,w≠("is":Str)) w h
theorem TreeAt.view    (h:TreeAt H v t) (w:t.wf):(∃(a:Addr) (x:Str),v=.ref a/\t=.is x/\yC x/\H a=some (.tup [.str "is",.str x]))∨
 ∃(a:Addr) (o:Str) (xs:List V),v=.ref a/\o≠"is"/\xs.length<=2/\H a=some (.tup (.str o::xs))/\TreesAt H xs t.parts/\(∀x,t≠.is x):=by
 cases h with
 | is e=>exact .inl %[2,w|e]
 | yes e=>exact .inr %[_,_,[],1,4,by simp,e,.nil|λx z=>by cases z]
 | no e=>exact .inr %[_,_,[],1,4,by simp,e,.nil|λx z=>by cases z]
 | not e g=>exact .inr %[_,_,[_],1,4,by simp,e,.cons g .nil|λx z=>by cases z]
 | bin e g g2=>exact .inr %[_,_,[_,_],1,vx w.1,by simp,e,.cons g (.cons g2 .nil)|λx z=>by cases z]
theorem EC(o:V):∀xs:List V,xs.length<=2->pG (o::xs) (some 1) none=xs/\¬ (HT.sIx (o::xs).length 0 (some 1)=0/\HT.sIx (o::xs).length (o::xs).length none=(o::xs).length)
 | [],_=>%[1|λh=>absurd h.1 (show ¬ HT.sIx 1 0 (some 1)=0 by decide)]
 | [_],_=>%[1|λh=>absurd h.1 (show ¬ HT.sIx 2 0 (some 1)=0 by decide)]
 | [_,_],_=>%[1|λh=>absurd h.1 (show ¬ HT.sIx 3 0 (some 1)=0 by decide)]
 | _::_::_::_,h=>absurd h (by simp)
theorem Tr.names_len:∀t:Tr,t.names.length<=t.size
 | .is _=>zG0 _
 | .yes=>zW0 _
 | .no=>zW0 _
 | .not a=>Nat.le_succ_of_le (Tr.names_len a)
 | .bin _ a b=>by
   have:=Tr.names_len a
   have:=Tr.names_len b
   show(a.names++b.names).length<=a.size+b.size+1;rw[zJ0];omega
end Mine
namespace L2
open PySem PySem.Spec PyProof.Rows
section
variable {prog:Program} {w:World} {A:Around} {E:Value->Shared->Prop} {s:Shared}
def Ep(xs:Array Value)(x:Value):Nat->Option PySem.Fin×Unit->Sem (ForInStep (Option PySem.Fin×Unit)):=λi _=>match xs[i]? with
 | some y=>do
   let b ←eqBool y x
   if b=true then do
    let r ←retInt (i:Int)
    pure (ForInStep.done (some r,()))
    else pure (ForInStep.yield (none,()))
 | _=>pure (ForInStep.yield (none,()))
theorem sW{xs:Array Value}{x:Value}{e:Value->Bool}(he:∀y∈xs,SeqAt.EqAt A s y x (e y)){j:Nat}(hj:j<xs.size)(ej:e xs[j]=true)(bf:∀(m:Nat) (hm:m<xs.size),m<j->e xs[m]=false){Q:Option PySem.Fin×Unit->Shared->Prop}
 (q:Q (some (.done (.ret (.int (j:Int) s.toks))),()) { s with toks:=s.toks+1 }):∀(n k:Nat),k<=j->j<k+n->k+n<=xs.size->wpAny (model prog w) A (forIn (List.range' k n 1) ((none:Option PySem.Fin),()) (Ep xs x)) Q E s
 | 0,k,h1,h2,_=>absurd h2 #[0]
 | n+1,k,h1,h2,h3=>by
   have hk:k<xs.size:=by omega
   rw [List.range'_succ,List.forIn_cons];refine zA0 ?_;have e1:Ep xs x k ((none:Option PySem.Fin),())=(do
    let b ←eqBool xs[k] x
    if b=true then do
     let r ←retInt (k:Int)
     pure (ForInStep.done (some r,()))
     else pure (ForInStep.yield (none,()))):=by
    unfold Ep;rw[Array.getElem?_eq_getElem hk]
   rw[e1];refine zA0 (he _ (Array.getElem_mem hk) prog w _ _ ?_)
   by_cases c:k=j
   . subst c;rw[ej];refine wpAny_ite_split (λ_=>?_) (λhab=>absurd rfl hab);refine zA0 ?_;refine zA0 (wpAny_mkInt ?_);refine zI0 ?_;refine zI0 ?_;exact zI0 q
   . rw[bf k hk #[0]];refine wpAny_ite_split (λhab=>absurd hab ⋯) (λ_=>?_);refine zI0 ?_;exact sW he hj ej bf q n (k+1) #[0] #[0] #[0]
theorem oz(l:Addr)(items:Array Value)(n:Nat)(dd:Option Addr)(sl:Array (Option Value))(x:Value)(e:Value->Bool)(j:Nat)(hj:j<items.size)(ej:e items[j]=true)(bf:∀(m:Nat) (hm:m<items.size),m<j->e items[m]=false) :
 Meets (Builtin.«tuple.index» { pos:=[.ref l,x] }) λA R s=>s.heap.get? l=some { cls:=.type "tuple",dict:=dd,data:=.seq items n,slots:=sl }/\(∀y∈items,SeqAt.EqAt A.in1 s y x (e y))/\R (.ok (.ret (.int (j:Int) s.toks))) { s with toks:=s.toks+1 }:=by
 intro prog w A R s ⟨hl,he,q⟩;unfold Builtin.«tuple.index»;refine zA0 (wpAny_of_eq (a:=(Value.ref l,[x])) rfl ?_);refine zA0 (wpAny_tupleItemsOf hl rfl ?_);refine zA0 (zI0 ?_);refine zA0 (zI0 ?_);refine zA0 ?_;rw[Std.Legacy.Range.forIn_eq_forIn_range'];have e1:Std.Legacy.Range.size [0:min items.size items.size]=items.size:=by simp [Std.Legacy.Range.size]
 rw[e1];refine sW he hj ej bf ?_ items.size 0 (zW0 _) #[0] #[0];exact zI0 q
end
section
variable {X:Cx}
def cK(z:Str):List Str->Option Nat
 | []=>none
 | a::r=>if a=z then some 0 else(cK z r).map (·+1)
theorem nU:∀{ns:List Str}{j:Nat},cK z ns=some j->ns[j]?=some z/\∀m,m<j->∀y,ns[m]?=some y->y≠z
 | [],_,h=>by simp [cK]at h
 | a::r,j,h=>by
   unfold cK at h
   by_cases c:a=z
   . rw[zE0 c]at h;cases h;erw[by simp [c],λm hm=>absurd hm #[0]]
   . rw [zB0 c]at h;let%[i,hi|1]:=qV0 h;let%[h1|h2]:=nU hi;erw[by simpa using h1,λm hm y hy=>?_];cases m with
     | zero=>cases(zU0 hy);exact c
     | succ m=>exact h2 m #[0] y (by simpa using hy)
theorem mJ:∀{bs:List Str}{us:List Value}{i:Nat}{v:Value},Vals (bs.map V.str) us->us[i]?=some v->∃b t,bs[i]?=some b/\v=.str b t
 | [],_,_,_,.nil,h=>by simp at h
 | b::_,_,0,_,.cons r _,h=>by
   simp at h
   subst h;erw[t,e]at r;erw[b,t,1,e]
 | _::_,_,i+1,_,.cons _ t,h=>by
   let%[b,t,h1|h2]:=mJ (i:=i) t (by simpa using h);erw[b,t,by simpa using h1,h2]
theorem fK(ns:List Str):(ns.map V.str).all hU=true:=by
 induction ns with
 | nil=>rfl
 | cons a r ih=>rw[qC0,List.all_cons,ih];rfl
theorem lV{ns:List Str}{j:Nat}(r:Vals (ns.map V.str) its)(h:cK z ns=some j) :
 ∃hj:j<its.toArray.size,eqU (.str z) its.toArray[j]=true/\∀(m:Nat)(hm:m<its.toArray.size),m<j->eqU (.str z) its.toArray[m]=false:=by
 let%[h1|h2]:=nU h;have hl:=r.length;rw[zH0]at hl;have jl:j<ns.length:=(zX0 h1).1;have hj:j<its.toArray.size:=by rw[zR0,←hl];exact jl
 erw[hj,6,λm hm mj=>?_]
 . let%[b,t,e1|e2]:=mJ r (i:=j) (v:=its.toArray[j]) (by simp);rw[e2];rw[h1]at e1;cases e1;show(z==z)=true
   simp
 . let%[b,t,e1|e2]:=mJ r (i:=m) (v:=its.toArray[m]) (by simp);rw[e2];show(b==z)=false
   have:=h2 m mj b e1
   simpa using this
inductive rIndexT(K:W.Frag)(x:V)(vs:List V)(H:Hp)(Q:VK):Prop
 |mk:∀(a:Addr)(ns:List Str)(z:Str)(j:Nat),x=.ref a->vs=[.str z]->SqT K H a (ns.map V.str)->cK z ns=some j->Q (.int (j:Int)) H->rIndexT K x vs H Q
theorem xQ:MtR X "tuple.index" (rIndexT X.K):=by
 intro pins s σ H x vs v us Q I rx rv h;erw[a,ns,z,j,1,1,hq,hp,q]at h;cases rx;erw[u,1,ru]at rv.one;let%[its,r,%[%[cls,dd,data|sl],ho,hc,n|hd]|hz]:=I.tuple hq;simp only at hc hd;subst hc hd;let%[hj,e1|e2]:=lV r hp;refine call_meets F.slot_tuple_index %[_,ho|1] F.entry_tuple_index (F.args_tuple_index_2 _ _) (oz a its.toArray n dd sl u (eqU (.str z)) j hj e1 e2) ⟨ho,λy hy=>?_,?_⟩
 . exact eW ru rfl r (fK ns) y (by simpa using hy)
 . erw[.int (j:Int),H,I.tok _,%[|0],q]
inductive rIndexL(K:W.Frag)(x:V)(vs:List V)(H:Hp)(Q:VK):Prop
 |mk:∀(a:Addr)(ns:List Str)(z:Str)(j:Nat),x=.ref a->vs=[.str z]->SqL K H a (ns.map V.str)->cK z ns=some j->Q (.int (j:Int)) H->rIndexL K x vs H Q
theorem xR:MtR X "list.index" (rIndexL X.K):=by
 intro pins s σ H x vs v us Q I rx rv h;erw[a,ns,z,j,1,1,hq,hp,q]at h;cases rx;erw[u,1,ru]at rv.one;let%[its,r,%[%[cls,dd,data|sl],n,ho,hc,hdd|hd]|hz]:=I.list hq;simp only at hc hd;subst hc hd;let%[hj,e1|e2]:=lV r hp;have h63:=iD;have hl:=r.length;refine call_meets F.slot_list_index %[_,ho|1] F.entry_list_index (F.args_list_index_2 _ _) (SeqAt.list_indexAt a its.toArray n dd sl u (eqU (.str z)) j hj (by rw[zR0]at hj;omega) e1 e2) ⟨ho,λy hy=>?_,?_⟩
 . exact eW ru rfl r (fK ns) y (by simpa using hy)
 . erw[.int (j:Int),H,I.tok _,%[|0],q]
end
section
variable {κ:Type} [DecidableEq κ]
def di(kvs:List (κ×V))(k:κ):Option V:=(kvs.find? λkv=>decide (kv.1=k)).map (·.2)
def gV(kvs:List (κ×V))(k:κ)(v:V):List (κ×V):=
 if(kvs.any λkv=>decide (kv.1=k))=true then kvs.map (λkv=>if kv.1=k then(kv.1,v)else kv)else kvs++[(k,v)]
theorem cT{p:κ×V}{r:List (κ×V)}{k:κ}(e:p.1=k):di (p::r) k=some p.2:=by simp [di,List.find?_cons,e]
theorem cU{p:κ×V}{r:List (κ×V)}{k:κ}(e:¬ p.1=k):di (p::r) k=di r k:=by simp [di,List.find?_cons,e]
theorem jX(k:κ):∀kvs:List (κ×V),(kvs.any λkv=>decide (kv.1=k))=(di kvs k).isSome
 | []=>rfl
 | p::r=>by
   rw[List.any_cons]
   by_cases e:p.1=k
   . simp only[cT e,decide_eq_true e,Bool.true_or,Option.isSome_some]
   . rw[cU e,decide_eq_false e,Bool.false_or];exact jX k r
theorem rP(k j:κ)(y:V):∀kvs:List (κ×V),di (kvs.map λkv=>if kv.1=k then(kv.1,y)else kv) j=(di kvs j).map λx=>if j=k then y else x
 | []=>rfl
 | p::r=>by
   have ih:=rP k j y r;rw[qC0]
   by_cases h:p.1=k
   . rw [zE0 h]
     by_cases e:p.1=j
     . rw[cT (p:=(p.1,y)) e,cT e,Option.map_some,zE0 (e.symm.trans h)]
     . rw[cU (p:=(p.1,y)) e,cU e,ih]
   . rw [zB0 h]
     by_cases e:p.1=j
     . rw[cT (p:=p) e,cT e,Option.map_some,zB0 (λz=>h (e.trans z))]
     . rw[cU (p:=p) e,cU e,ih]
theorem pM(k j:κ)(y:V):∀kvs:List (κ×V),di kvs k=none->di (kvs++[(k,y)]) j=if j=k then some y else di kvs j
 | [],_=>by
   by_cases e:k=j
   . rw[zE0 e.symm];exact cT (p:=(k,y)) e
   . rw[zB0 (λz=>e z.symm)];exact cU (p:=(k,y)) e
 | p::r,hn=>by
   rw[List.cons_append];have hk:¬ p.1=k:=λz=>by rw[cT z]at hn;cases hn
   rw[cU hk]at hn;have ih:=pM k j y r hn
   by_cases e:p.1=j
   . rw[cT e,cT e,zB0 (λz=>hk (e.trans z))]
   . rw[cU e,cU e,ih]
theorem mH(kvs:List (κ×V))(k j:κ)(y:V):di (gV kvs k y) j=if j=k then some y else di kvs j:=by
 unfold gV
 by_cases a:(kvs.any λkv=>decide (kv.1=k))=true
 . rw [zE0 a,rP];rw[jX]at a
   by_cases e:j=k
   . let%[x|hx]:=Option.isSome_iff_exists.mp a;rw[zE0 e,e,hx,Option.map_some,zE0 rfl]
   . rw [zB0 e];cases di kvs j with
     | none=>rfl
     | some x=>rw[Option.map_some,zB0 e]
 . rw [zB0 a];refine pM k j y kvs ?_;rw[jX]at a;cases q:di kvs k with
   | none=>rfl
   | some x=>rw[q]at a;exact(a rfl).elim
theorem gD(kvs:List (κ×V))(k:κ)(v:V):(gV kvs k v).length<=kvs.length+1:=by
 unfold gV
 split
 . rw[zH0];omega
 . rw[zJ0,zT0,List.length_nil];omega
theorem RelO.isSome_eq(r:RelO o u):o.isSome=u.isSome:=by
 cases o with
 | none=>cases u with
   | none=>rfl
   | some _=>exact(show False from r).elim
 | some _=>cases u with
   | none=>exact(show False from r).elim
   | some _=>rfl
theorem RelO.getD(r:RelO o u)(rd:RelV d d'):RelV (o.getD d) (u.getD d'):=by
 cases o with
 | none=>cases u with
   | none=>exact rd
   | some _=>exact(show False from r).elim
 | some _=>cases u with
   | none=>exact(show False from r).elim
   | some _=>exact r
theorem KV.val{kvs:List (κ×V)}{vs:List (κ×Value)}(r:KV kvs vs)(k:κ):RelO (di kvs k) (valueAt vs k):=by
 unfold KV at r
 induction r with
 | nil=>exact True.intro
 | @cons p q ps qs h t ih=>
   erw[h1,h2]at h
   by_cases e:p.1=k
   . have e':q.1=k:=h1.symm.trans e;have b:valueAt (q::qs) k=some q.2:=by simp [valueAt,List.find?_cons,e']
     rw[cT e,b];exact h2
   . have e':¬ q.1=k:=λz=>e (h1.trans z)
     have b:valueAt (q::qs) k=valueAt qs k:=by simp [valueAt,List.find?_cons,e']
     rw[cU e,b];exact ih
theorem KV.any{kvs:List (κ×V)}{vs:List (κ×Value)}(r:KV kvs vs)(k:κ):(kvs.any λkv=>decide (kv.1=k))=vs.any λkv=>decide (kv.1=k):=by
 unfold KV at r
 induction r with
 | nil=>rfl
 | cons h t ih=>rw[List.any_cons,List.any_cons,ih,h.1]
theorem KV.repl{kvs:List (κ×V)}{vs:List (κ×Value)}(r:KV kvs vs)(k:κ)(ry:RelV y u) :
 KV (kvs.map λkv=>if kv.1=k then(kv.1,y)else kv) (vs.map λkv=>if kv.1=k then(kv.1,u)else kv):=by
 unfold KV at r ⊢
 induction r with
 | nil=>exact .nil
 | @cons p q ps qs h t ih=>
   rw[qC0,qC0];refine .cons ?_ ih;erw[h1,h2]at h
   by_cases e:p.1=k
   . rw[zE0 e,zE0 (h1.symm.trans e)];erw[h1,ry]
   . rw[zB0 e,zB0 (λz=>e (h1.trans z))];erw[h1,h2]
theorem KV.put{kvs:List (κ×V)}{vs:List (κ×Value)}(r:KV kvs vs)(k:κ)(ry:RelV y u):KV (gV kvs k y) (stored vs k u):=by
 unfold gV stored;rw[r.any k]
 by_cases e:(vs.any λkv=>decide (kv.1=k))=true
 . rw[zE0 e,zE0 e];exact r.repl k ry
 . rw[zB0 e,zB0 e];exact Paired.snoc r %[1|ry]
theorem KV.length{kvs:List (κ×V)}{vs:List (κ×Value)}(r:KV kvs vs):kvs.length=vs.length:=Paired.length r
end
theorem pW(r:RelV (kV k) u):(aY P w).is k u=true:=by
 cases k with
 | inl i=>let%[t|e]:=(show ∃t,u=Value.int i t from r);subst e;exact sP P w i t
 | inr x=>let%[t|e]:=(show ∃t,u=Value.str x t from r);subst e;exact sO P w x t
theorem pY:∀{ks:List Key}{us:List Value},Vals (ks.map kV) us->ItemsAre (aY P w) ks us
 | [],_,r=>by rw[List.map_nil]at r;cases r;exact .nil
 | k::ks,_,r=>by
   rw[qC0]at r;cases r with
   | cons h t=>exact .cons (pW h) (pY t)
abbrev KT(H:Hp):List (List Key×V)->List (List Key×Addr×Value)->Prop:=Paired λp q=>p.1=q.1/\H q.2.1=some (.tup (p.1.map kV))/\RelV p.2 q.2.2
theorem KT.val{kvs:List (List Key×V)}{xs:List (List Key×Addr×Value)}(r:KT H kvs xs)(k:List Key):RelO (di kvs k) ((atKey xs k).map (·.2)):=by
 induction r with
 | nil=>exact True.intro
 | @cons p q ps qs h t ih=>
   erw[h1,_,h2]at h
   by_cases e:p.1=k
   . have e':q.1=k:=h1.symm.trans e;have b:atKey (q::qs) k=some q.2:=by simp [atKey,List.find?_cons,e']
     rw[cT e,b];exact h2
   . have e':¬ q.1=k:=λz=>e (h1.trans z)
     have b:atKey (q::qs) k=atKey qs k:=by simp [atKey,List.find?_cons,e']
     rw[cU e,b];exact ih
theorem KT.repl{kvs:List (List Key×V)}{xs:List (List Key×Addr×Value)}(r:KT H kvs xs)(k:List Key)(ry:RelV y u) :
 KT H (kvs.map λkv=>if kv.1=k then(kv.1,y)else kv) (xs.map (putAt k u)):=by
 induction r with
 | nil=>exact .nil
 | @cons p q ps qs h t ih=>
   rw[qC0,qC0];refine .cons ?_ ih;erw[h1,h2,h3]at h;unfold putAt
   by_cases e:p.1=k
   . rw[zE0 e,zE0 (h1.symm.trans e)];erw[h1,h2,ry]
   . rw[zB0 e,zB0 (λz=>e (h1.trans z))];erw[h1,h2,h3]
theorem KT.put{kvs:List (List Key×V)}{xs:List (List Key×Addr×Value)}(r:KT H kvs xs)(k:List Key){b:Addr}(hb:H b=some (.tup (k.map kV)))(ry:RelV y u) :
 KT H (gV kvs k y) (storedH xs k b u):=by
 have e:(kvs.any λkv=>decide (kv.1=k))=(atKey xs k).isSome:=by
  rw[jX,(r.val k).isSome_eq,Option.isSome_map]
 unfold gV storedH;rw[e]
 by_cases q:(atKey xs k).isSome=true
 . rw[zE0 q,zE0 q];exact r.repl k ry
 . rw[zB0 q,zB0 q];exact Paired.snoc r %[1,hb|ry]
theorem KT.keeps{H':Hp}{kvs:List (List Key×V)}{xs:List (List Key×Addr×Value)}(r:KT H kvs xs)(ht:∀b ys,H b=some (.tup ys)->H' b=some (.tup ys)):KT H' kvs xs:=
 Paired.mapP r λ_ _ z=>%[z.1,ht _ _ z.2.1|z.2.2]
section
variable {P:Program} {w:World} {H:Hp} {h:Heap} {a:Addr}
theorem CW(ok:HOk P w H h)(e:Rd H a u):ObjOk P w H h a u:=e.ok ok
theorem tE{kvs:List (Key×V)}(ok:HOk P w H h)(e:Rd H a (.dK kvs)):kvs.length<=sizeLine/\(a==sysModules)=false/\∃vs,KV kvs vs/\h.DictOf (aY P w) a vs:=
 show ObjOk P w H h a (.dK kvs)from CW ok e
theorem Dg{kvs:List (Key×V)}(ok:HOk P w H h)(e:H a=some (.dK kvs)):kvs.length<=sizeLine/\(a==sysModules)=false/\∃vs,KV kvs vs/\h.DictOf (aY P w) a vs:=tE ok (.inl e)
theorem rj{ks:List Key}(ok:HOk P w H h)(e:H a=some (.tup (ks.map kV))):(tupleKind (aY P w)).is h ks a:=by
 let%[_,its,r,%[o,h1,h2,n|h3]|_]:=(show ObjOk P w H h a (.tup (ks.map kV))from ok a _ e)
 erw[o,its.toArray,n,h1,h2,h3,by simpa using pY r]
theorem tD{kvs:List (List Key×V)}(ok:HOk P w H h)(e:Rd H a (.dT kvs)):kvs.length<=sizeLine/\(a==sysModules)=false/\
 ∃xs,KT H kvs xs/\h.DictOfH (tupleKind (aY P w)) a xs:=by
 let%[z,y,xs,r,o,es,ep,h1,h2,h3,h4|h5]:=(show ObjOk P w H h a (.dT kvs)from CW ok e)
 erw[z,y,xs,r,o,es,ep,h1,h2,h3,h4,λx hx=>?_,h5];have all:∀{l:List (List Key×V)}{m:List (List Key×Addr×Value)},KT H l m->∀x∈m,(tupleKind (aY P w)).is h x.1 x.2.1:=by
  intro l m q
  induction q with
  | nil=>intro x hx;exact nomatch hx
  | @cons p q ps qs hq t ih=>
    intro x hx;rcases zV0 hx with e | hx
    . subst e;exact rj ok (by rw[←hq.1];exact hq.2.1)
    . exact ih x hx
 exact all r x hx
theorem dt_of{kvs:List (List Key×V)}(ok:HOk P w H h)(e:H a=some (.dT kvs)):kvs.length<=sizeLine/\(a==sysModules)=false/\
 ∃xs,KT H kvs xs/\h.DictOfH (tupleKind (aY P w)) a xs:=tD ok (.inl e)
end
def DGet(H:Hp)(a:Addr)(y:V)(r:Option V):Prop:=
 (∃kvs k,Rd H a (.dK kvs)/\y=kV k/\r=di kvs k)∨∃kvs k b,Rd H a (.dT kvs)/\y=.ref b/\H b=some (.tup (k.map kV))/\r=di kvs k
def DPut(H:Hp)(a:Addr)(y v:V)(H':Hp):Prop:=
 (∃kvs k,H a=some (.dK kvs)/\y=kV k/\kvs.length<sizeLine/\H'=upd H a (.dK (gV kvs k v)))∨
 ∃kvs k b,H a=some (.dT kvs)/\y=.ref b/\H b=some (.tup (k.map kV))/\kvs.length<sizeLine/\H'=upd H a (.dT (gV kvs k v))
theorem DGet.k{H:Hp}{a:Addr}{kvs:List (Key×V)}{k:Key}(e:H a=some (.dK kvs)):DGet H a (kV k) (di kvs k):=.inl %[kvs,k,.inl e,1|1]
theorem DPut.k{H:Hp}{a:Addr}{kvs:List (Key×V)}{k:Key}(e:H a=some (.dK kvs))(hl:kvs.length<sizeLine):DPut H a (kV k) v (upd H a (.dK (gV kvs k v))):=.inl %[kvs,k,e,1,hl|1]
section
variable {X:Cx} {pins:List (Addr×Obj)} {σ:St} {H:Hp} {s:Shared} {a:Addr} {y v:V} {u r:Value} {o:Option V} {A:Around} {E:Value->Shared->Prop}
theorem Inv.big(I:Inv X pins σ H s):sysModules<s.heap.objs.size:=by
 have h:mainGlobals<s.heap.objs.size:=(I.mod.glob.keeps I.bk).lt;exact Nat.lt_trans ⋯ h
theorem yx{Q:Value->Shared->Prop}(hu:A.units+1<cLine)(I:Inv X pins σ H s)(g:DGet H a y (some v))(ry:RelV y u)(h:∀w' s',Inv X pins σ H s'->RelV v w'->Q w' s') :
 wpAny (model X.prog X.w) A (getItem (.ref a) u) Q E s:=by
 rcases g with⟨kvs,k,e,ey,l⟩ | ⟨kvs,k,b,e,ey,eb,l⟩
 . subst ey;let%[z,hd,vs,rel|dd]:=tE I.hok e;let%[w',hw|rw']:=RelO.some_of (v:=v) (o:=valueAt vs k) (by rw[l];exact rel.val k);exact wpAny_getItem_of (pW ry) dd.mapOf hw (h w' _ (I.tok _) rw')
 . subst ey;cases(show u=Value.ref b from ry);let%[z,hd,xs,rel|dd]:=tD I.hok e;let%[w',hw|rw']:=RelO.some_of (v:=v) (o:=(atKey xs k).map (·.2)) (by rw[l];exact rel.val k);let%[p,hp|hp2]:=qV0 hw;refine wpAny_getItem_heap (tupleKind_room_in1 hu) (rj I.hok eb) dd hp ?_;rw[hp2];exact h w' _ (I.tok _) rw'
theorem rG{h':Heap}{t':Nat}(I:Inv X pins σ H s)(mu:Mut (H a))(hs:Heap.SameBut a s.heap h')(he:∃q,h'.get? a=some q)(new:ObjOk X.prog X.w (upd H a ob) h' a ob) :
 Inv X pins σ (upd H a ob) { s with heap:=h',toks:=t' }:=
 I.write (x:=a) (e:=a) mu (.inl rfl) (λb q hb z=>(hs.2 b hb).trans z) he new
theorem vD{H':Hp}{h':Heap}{kvs:List (Key×V)}{vs:List (Key×Value)}(z:kvs.length<=sizeLine)(hd:(a==sysModules)=false)(rel:KV kvs vs)(dd:h'.DictOf (aY P w) a vs) :
 ObjOk P w H' h' a (.dK kvs):=%[z,hd,vs,rel|dd]
theorem yw{Q:Unit->Shared->Prop}(hu:A.units+1<cLine)(I:Inv X pins σ H s)(g:DPut H a y v H')(ry:RelV y u)(rv:RelV v r)(h:∀s',Inv X pins σ H' s'->Q () s') :
 wpAny (model X.prog X.w) A (setItem (.ref a) u r) Q E s:=by
 rcases g with⟨kvs,k,e,ey,l,eH⟩ | ⟨kvs,k,b,e,ey,eb,l,eH⟩
 . subst ey eH;let%[z,hd,vs,rel|dd]:=Dg I.hok e;have hz:vs.length<=sizeLine:=by rw[←rel.length];exact z
   have hl:(gV kvs k v).length<=sizeLine:=by have:=gD kvs k v;omega
   refine wpAny_setItem_pairs (hsz:=hz) (pW ry) dd λh' dd' hs=>h _ ?_
   have he:∃q,h'.get? a=some q:=let⟨q,_,_,hq,_⟩:=dd';%[q|hq]
   exact rG I (by rw[e];exact True.intro) hs he (vD hl hd (rel.put k rv) dd')
 . subst ey eH;cases(show u=Value.ref b from ry);let%[z,hd,xs,rel|dd]:=dt_of I.hok e;have hz:xs.length<=sizeLine:=by rw[←Paired.length rel];exact z
   have hl:(gV kvs k v).length<=sizeLine:=by have:=gD kvs k v;omega
   refine wpAny_setItem_heap (hsz:=hz) (tupleKind_room_in1 hu) (rj I.hok eb) dd λh' dd' hs=>h _ ?_
   erw[q,es,ep,hq,h2,h3,h4,_,h5]at dd';refine rG I (by rw[e];exact True.intro) hs ⟨q,hq⟩ ⟨hl,hd,_,(rel.put k eb rv).keeps λc ys ec=>?_,q,es,ep,hq,h2,h3,h4,h5⟩;rw[aq (aZ ec e (λz=>nomatch z))];exact ec
end
def CI(i:Expr):Prop:=∀ov iv,subscripted i false ov iv=operate [ov,iv] (getItem ov iv)
theorem Bx{prog:Program}{w:World}{A:Around}{E:Value->Shared->Prop}{s:Shared}{env:Env}{value:Expr}{pos:Pos}{T id:String}{Q:Value->Shared->Prop}
 (hl:typeLookup (.type T) "__getitem__"=pure (some (.builtin id))) (hs:CI slice)
 (h:wpAny (model prog w) A (eval value env) (λo s₁=>wpAny (model prog w) A (eval slice env) (λi s₂=>s₂.TypeIs o T/\wpAny (model prog w) A (getItem o i) Q E s₂) E s₁) E s) :
 wpAny (model prog w) A (eval (.Subscript value slice pos) env) Q E s:=by
 refine Subscript_ (wpAny_mono h (λo s₁ h₁=>wpAny_mono h₁ (λi s₂ h₂=>?_) λ_ _ x=>x) λ_ _ x=>x);erw[hT,h₂]at h₂;unfold subscriptTail;refine zA0 ?_;rw[getitemInPython_of_ne hT.not_modules];refine zA0 (wpAny_specialOf hT hl ?_);have fin:wpAny (model prog w) A (subscripted slice false o i) (λr s₃=>wpAny (model prog w) A (letTemporaryGo value o r >>= λ_=>pure r) Q E s₃) E s₂:=by
  rw[hs o i];exact wpAny_operating (wpAny_mono h₂ (λr s₃ h₃=>zA0 (wpAny_letTemporaryGo (zI0 h₃))) λ_ _ x=>x)
 first
  | exact zI0 (zA0 fin)
  | exact zA0 (zI0 (zA0 fin))
  | exact zA0 fin
theorem tG   {σ:St}      (I:Inv X pins σ H s) (g:DGet H a y o):s.TypeIs (.ref a) "dict":=by
 rcases g with⟨kvs,k,e,_,_⟩ | ⟨kvs,k,b,e,_,_,_⟩
 . let%[_,_,vs,_|dd]:=tE I.hok e;exact dd.typeIs
 . let%[_,_,xs,_|dd]:=tD I.hok e;exact dd.typeIs
inductive ZtDGet(Q:VK)(x:V)(y:V)(H2:Hp):Prop
 |mk:∀a v,x=.ref a->DGet H2 a y (some v)->Q v H2->ZtDGet Q x y H2
def yT(td ty:TE):TE:=λσ H Q=>td σ H λx H1=>ty σ H1 λy H2=>ZtDGet Q x y H2
inductive ZsDPut(D:Ends)(σ:St)(v:V)(x:V)(y:V)(H3:Hp):Prop
 |mk:∀a H4,x=.ref a->DPut H3 a y v H4->D.nx σ H4->ZsDPut D σ v x y H3
def sDPut(td ty tv:TE):TS:=λD σ H=>tv σ H λv H1=>td σ H1 λx H2=>ty σ H2 λy H3=>ZsDPut D σ v x y H3
section
variable {X:Cx} {o i e value:Expr} {pos pos' tpos:Pos} {td ty tv:TE}
theorem wg(hu:X.A.units+1<cLine)(ho:PE X o td)(hi:PE X i ty)(hs:CI i):PE X (.Subscript o i pos) (yT td ty):=by
 intro pins s σ H Q I h;refine Bx PySem.F.slot_dict_getitem.lookup hs (thn (ho pins s σ H _ I h) λu s1 ⟨x,H1,I1,rx,q1⟩=>thn (hi pins s1 σ H1 _ I1 q1) λiv s2 ⟨y,H2,I2,ry,a,v,ex,g,q2⟩=>?_);subst ex;obtain rfl:u=Value.ref a:=rx;erw[tG I2 g,yx hu I2 g ry λw' s3 I3 rw'=>%[v,H2,I3,rw'|q2]]
theorem BK(hu:X.A.units+1<cLine)(ho:PE X o td)(hi:PE X i ty)(hv:PE X value tv)(hs:swapsWith value (some (.Subscript o i pos')) pos.line X.env=pure false) :
 PS X (.Assign [.Subscript o i pos'] value pos) (sDPut td ty tv):=by
 intro pins s σ H D I h;refine wpAny_Assign_Subscript (thn (hv pins s σ H _ I h) λr s1 ⟨v,H1,I1,rv,q1⟩=>thn (ho pins s1 σ H1 _ I1 q1) λu s2 ⟨x,H2,I2,rx,q2⟩=>thn (hi pins s2 σ H2 _ I2 q2) λiv s3 ⟨y,H3,I3,ry,a,H4,ex,g,q3⟩=>?_) hs;subst ex;obtain rfl:u=Value.ref a:=rx;exact yw hu I3 g ry rv λs4 I4=>%[σ,H4,I4|q3]
end
theorem tF {P:Program} {w:World} {H:Hp} (h:Heap) (hb:sysModules<h.objs.size):ObjOk P w H (h.push { cls:=.type "dict",data:=.dict #[] }) h.objs.size (.dK []):=
 %[zW0 _,beq_eq_false_iff_ne.mpr (Ne.symm (zS0 hb)),[],.nil|Heap.DictOf.new h]
def Dw:TE:=λ_ H Q=>∀p,H p=none->Q (.ref p) (upd H p (.dK []))
section
variable {X:Cx} {pos:Pos}
theorem zU:PE X (.Dict [] [] pos) Dw:=λpins s σ H Q I h=>
 wpAny_Dict_empty %[.ref s.heap.objs.size,_,I.laid (a:=s.heap.objs.size) (o:=.dK []) (t':=s.toks) (λ_ _ q=>zP0 _ q) (zG0 _) (tF s.heap I.big),1|h _ (I.hok.fresh (zG0 _))]
end
def ug:List (TE×TE)->St->Hp->(List (V×V)->Hp->Prop)->Prop
 | [],_,H,Q=>Q [] H
 | (tk,tv)::r,σ,H,Q=>tk σ H λx H1=>tv σ H1 λy H2=>ug r σ H2 λps H3=>Q ((x,y)::ps) H3
abbrev VV:List (V×V)->List (Value×Value)->Prop:=Paired λp q=>RelV p.1 q.1/\RelV p.2 q.2
def PPs(X:Cx)(pos:Pos)(keys:List (Option Expr))(values:List Expr)(trs:List (TE×TE)):Prop:=
 ∀(pins:List (Addr×Obj))(s:Shared)(σ:St)(H:Hp)(Q:List (V×V)->Hp->Prop),Inv X pins σ H s->ug trs σ H Q ->
  wpAny (model X.prog X.w) X.A (evalPairs (pairTrees keys values X.env pos)) (λvs s'=>∃ps H',Inv X pins σ H' s'/\VV ps vs/\Q ps H') X.xe s
theorem BN:PPs X pos [] [] []:=λpins s σ H Q I h=>pairTrees_nil_walk %[[],H,I,.nil|h]
theorem jg(hk:PE X k tk)(hv:PE X v tv)(hr:PPs X pos ks vs trs) :
 PPs X pos (some k::ks) (v::vs) ((tk,tv)::trs):=λpins s σ H Q I h=>
 pairTrees_cons_walk (thn (hk pins s σ H _ I h) λu s1 ⟨x,H1,I1,rx,q1⟩=>thn (hv pins s1 σ H1 _ I1 q1) λw2 s2 ⟨y,H2,I2,ry,q2⟩=>
  thn (hr pins s2 σ H2 _ I2 q2) λws s3 ⟨ps,H3,I3,rel,q3⟩=>%[(x,y)::ps,H3,I3,.cons %[rx|ry] rel|q3])
def dY(kvs more:List (Key×V)):List (Key×V):=more.foldl (λacc kv=>gV acc kv.1 kv.2) kvs
theorem KV.merge:∀{more:List (Key×V)}{rs:List (Key×Value)}{kvs:List (Key×V)}{vs:List (Key×Value)},KV more rs->KV kvs vs->KV (dY kvs more) (merged vs rs):=by
 intro more rs kvs vs r;unfold KV at r
 induction r generalizing kvs vs with
 | nil=>intro q;exact q
 | @cons p q ps qs h t ih=>
   intro r0;have e:KV (gV kvs p.1 p.2) (stored vs q.1 q.2):=by
    have:=r0.put p.1 h.2
    rw[←h.1];exact this
   exact ih e
theorem gO:∀(more kvs:List (Key×V)),(dY kvs more).length<=kvs.length+more.length
 | [],kvs=>by show kvs.length<=kvs.length+0;omega
 | p::r,kvs=>by
   have h1:=gO r (gV kvs p.1 p.2);have h2:=gD kvs p.1 p.2;show(dY (gV kvs p.1 p.2) r).length<=_;rw[zT0];omega
theorem oR:∀{kvs:List (Key×V)}{ws:List (Value×Value)},VV (kvs.map λkv=>(kV kv.1,kv.2)) ws->∃rs,Carries (aY P w) ws rs/\KV kvs rs
 | [],_,r=>by rw[List.map_nil]at r;cases r;erw[[],True.intro,.nil]
 | p::kvs,_,r=>by
   rw[qC0]at r;cases r with
   | @cons a b as bs h t=>
     let%[rs,c|q]:=oR (P:=P) (w:=w) t;erw[b1,b2]at b;erw[(p.1,b2)::rs,%[pW h.1,1|c],.cons ⟨rfl,h.2⟩ q]
def yS(trs:List (TE×TE)):TE:=λσ H Q=>∀p,H p=none->ug trs σ (upd H p (.dK [])) λps H2=>H2 p=some (.dK [])/\∃kvs:List (Key×V),ps=kvs.map (λkv=>(kV kv.1,kv.2))/\kvs.length<=15/\Q (.ref p) (upd H2 p (.dK (dY [] kvs)))
theorem BR(h:PPs X pos keys values trs)(hall:keys.all (·.isSome)=true)(hl:keys.length=values.length)(h0:keys≠[])
 (h15:keys.length<=15):PE X (.Dict keys values pos) (yS trs):=by
 intro pins s σ H Q I q;have hn:=I.hok.fresh (zG0 s.heap.objs.size);have I1:=I.laid (a:=s.heap.objs.size) (o:=.dK []) (h':=s.heap.push { cls:=.type "dict",data:=.dict #[] }) (t':=s.toks) (λ_ _ q=>zP0 _ q) (zG0 _) (tF s.heap I.big);refine wpAny_Dict_walk (knd:=aY X.prog X.w) hall hl h0 h15 (thn (h pins _ σ _ _ I1 (q _ hn)) λws s2 ⟨ps,H2,I2,rel,e,kvs,ep,lk,q2⟩=>?_);subst ep;let%[rs,c|rk]:=oR (P:=X.prog) (w:=X.w) rel;let%[z,hd,vs0,r0|dd]:=Dg I2.hok e;cases r0;erw[rs,c,dd,λh' dd' hs=>%[.ref s.heap.objs.size,_,6,1|q2]];have hz:(dY [] kvs).length<=sizeLine:=by
  have h1:=gO kvs [];rw[List.length_nil]at h1;rw[sizeLine_eq];omega
 have he:∃q,h'.get? s.heap.objs.size=some q:=let⟨q,_,_,hq,_⟩:=dd';%[q|hq]
 exact rG I2 (by rw[e];exact True.intro) hs he (vD hz hd (rk.merge .nil) dd')
structure M2(X:Cx)(o:Expr)(m:Str)(apos:Pos)(e f:Expr)(cpos:Pos):Prop where
 base:attributeBase o m X.env (eval o X.env)=eval o X.env
 few:((backTo cpos (starEach [e,f] X.env)).all (λx=>!x.1)&&(backToKw cpos (keywordEach [] X.env)).all (λx=>x.1.isSome)
  &&decide (([e,f]:List Expr).length+([]:List Keyword).length+(if([]:List Keyword).isEmpty then 0 else 1)<30))=true
 line:(apos.endLine==cpos.line)=true
 trees:backTo cpos (starEach [e,f] X.env)=[(false,eval e X.env),(false,eval f X.env)]
def IsD(H:Hp)(a:Addr):Prop:=(∃kvs,Rd H a (.dK kvs))∨∃kvs,Rd H a (.dT kvs)
theorem Ek{σ:St}(I:Inv X pins σ H s)(d:IsD H a) :
 s.TypeIs (.ref a) "dict"/\(∀b,Value.ref a=.ref b->∃ob,s.heap.get? b=some ob/\ob.dict=none)/\(a==sysModules)=false:=by
 rcases d with⟨kvs,e⟩ | ⟨kvs,e⟩
 . let%[_,hd,vs,_|dd]:=tE I.hok e;erw[dd.typeIs,λb q=>?_,hd];cases q;erw[ob,_,_,h1,h2,_]at dd;erw[ob,h1,h2.2.1]
 . let%[_,hd,xs,_|dd]:=tD I.hok e;erw[dd.typeIs,λb q=>?_,hd];cases q;erw[ob,_,_,h1,h2,_]at dd;erw[ob,h1,h2.2.1]
section
variable {X:Cx} {pins:List (Addr×Obj)} {σ:St} {H:Hp} {s:Shared} {a:Addr} {y d:V} {u r:Value} {o:Option V} {A:Around} {E:Value->Shared->Prop}
theorem EB{Q:Value->Shared->Prop}(hu:A.units+1<cLine)(I:Inv X pins σ H s)(g:DGet H a y o)(ry:RelV y u)(rd:RelV d r)(h:∀w' s',Inv X pins σ H s'->RelV (o.getD d) w'->Q w' s') :
 wpAny (model X.prog X.w) A (call (.builtin "dict.get") [.ref a,u,r]) Q E s:=by
 rcases g with⟨kvs,k,e,ey,l⟩ | ⟨kvs,k,b,e,ey,eb,l⟩
 . subst ey;let%[z,hd,vs,rel|dd]:=tE I.hok e;refine call_meetsIn PySem.F.slot_dict_get dd.typeIs PySem.F.entry_dict_get (PySem.F.args_dict_get_3 _ _ _) (meets_dict_get_default (aY X.prog X.w) a (pW ry) hd r) %[_,dd.mapOf|h _ _ (I.tok _) ?_];rw[l];exact(rel.val k).getD rd
 . subst ey;cases(show u=Value.ref b from ry);let%[z,hd,xs,rel|dd]:=tD I.hok e;refine call_meetsIn PySem.F.slot_dict_get dd.typeIs PySem.F.entry_dict_get (PySem.F.args_dict_get_3 _ _ _) (meetsH_dict_get_default (tupleKind (aY X.prog X.w)) a b hd r) %[tupleKind_room_in1 hu,k,xs,rj I.hok eb,dd|h _ _ (I.tok _) ?_];rw[l];exact(rel.val k).getD rd
end
inductive ZtDGet2(ty:TE)(tx:TE)(σ:St)(Q:VK)(x:V)(H1:Hp):Prop
 |mk:∀a,x=.ref a->IsD H1 a->(ty σ H1 λy H2=>tx σ H2 λz H3=>∃o,DGet H3 a y o/\Q (o.getD z) H3)->ZtDGet2 ty tx σ Q x H1
def Dx(td ty tx:TE):TE:=λσ H Q=>td σ H λx H1=>ZtDGet2 ty tx σ Q x H1
section
variable {X:Cx} {o e f:Expr} {apos cpos:Pos} {td ty tx:TE}
theorem zW (hu:X.A.units+1<cLine) (ho:PE X o td) (he:PE X e ty) (hf:PE X f tx) (m:M2 X o "get" apos e f cpos):PE X (.Call (.Attribute o "get" apos) [e,f] [] cpos) (Dx td ty tx):=by
 intro pins s σ H Q I h;refine wpAny_Call_method m.base m.few m.line PySem.F.plainAttrs_dict PySem.F.slot_dict_get PySem.F.type_dict_get (thn (ho pins s σ H _ I h) λu s1 ⟨x,H1,I1,rx,a,ex,d,q1⟩=>?_);subst ex;obtain rfl:u=Value.ref a:=rx;let%[t1,t2|_]:=Ek I1 d;erw[t1,t2,6];rw[m.trees];refine Calls.callWith_builtin rfl (Calls.evalArgs_plain (Calls.spliced_cons (thn (he pins s1 σ H1 _ I1 q1) λiv s2 ⟨y,H2,I2,ry,q2⟩=>
  Calls.spliced_cons (thn (hf pins s2 σ H2 _ I2 q2) λfv s3 ⟨z,H3,I3,rz,ov,g,q3⟩=>Calls.spliced_nil ?_))))
 exact EB hu I3 g ry rz λw' s4 I4 rw'=>%[_,H3,I4,rw'|q3]
end
section
variable {X:Cx}
theorem Inv.tupD{σ:St}{a:Addr}{xs:List V}(I:Inv X pins σ H s)(h:H a=some (.tup xs)):∃ob,s.heap.get? a=some ob/\ob.dict=none:=by
 let%[_,_,_,_,o,e|d]:=(show ObjOk X.prog X.w H s.heap a (.tup xs)from I.hok a _ h)
 erw[o,e,d]
inductive ZtIndex(t:TA)(σ:St)(Q:VK)(x:V)(H1:Hp):Prop
 |mk:∀(a:Addr)(ns:List Str),x=.ref a->H1 a=some (.lst (ns.map V.str))∨H1 a=some (.tup (ns.map V.str))->(t σ H1 λvs H2=>(H2 a=H1 a)/\∃(z:Str)(j:Nat),vs=[.str z]/\cK z ns=some j/\Q (.int (j:Int)) H2)->ZtIndex t σ Q x H1
def Du(K:W.Frag)(to:TE)(t:TA):TE:=λσ H Q=>to σ H λx H1=>ZtIndex t σ Q x H1
variable {o e:Expr} {es:List Expr} {to:TE} {t:TA} {apos cpos:Pos}
theorem sx (pl:PlainAttrs "list") (pt:PlainAttrs "tuple") (ho:PE X o to) (ha:PA X (e::es) t)
 (hbase:attributeBase o "index" X.env (eval o X.env)=eval o X.env:=by rfl)
 (hfew:((backTo cpos (starEach (e::es) X.env)).all (λx=>!x.1)&&(backToKw cpos (keywordEach [] X.env)).all (λx=>x.1.isSome)
  &&decide ((e::es).length+([]:List Keyword).length+(if([]:List Keyword).isEmpty then 0 else 1)<30))=true:=by rfl)
 (hline:(apos.endLine==cpos.line)=true:=by rfl) (hs:starEach (e::es) X.env=(false,eval e X.env)::starEach es X.env:=by rfl) (hplain:(backTo cpos (starEach es X.env)).any (·.1)=false:=by rfl) :
 PE X (.Call (.Attribute o "index" apos) (e::es) [] cpos) (Du X.K to t):=by
 intro pins s σ H Q I h;refine wpAny_Call_method_late hbase hfew hline rfl (thn (ho pins s σ H _ I h) λv s1 ⟨x,H1,I1,r1,a,ns,ex,hh,q1⟩=>?_);subst ex;cases r1;have hA:=ha cpos pins s1 σ H1 _ I1 q1;rw[hs]at hA ⊢;rcases hh with hh | hh
 . let%[its,_,p|_]:=I1.list (zF0 hh);let%[ob,n,e1,c,d|_]:=id p;erw["list","list.index",pl,F.slot_list_index,F.type_list_index,p.isList.typeIs,λb eb=>?_,6]
   . cases eb;erw[ob,e1,d]
   . refine Calls.callWith_builtin (by show(false||(backTo cpos (starEach es X.env)).any (·.1))=false;rw[hplain] <;> rfl) (Calls.evalArgs_plain ?_);exact thn hA λus s2 ⟨vs,H2,I2,r2,ek,z,j,ez,hp,q2⟩=>xR pins s2 σ H2 (.ref a) vs (.ref a) us Q I2 rfl r2 %[a,ns,z,j,1,ez,zF0 (ek.trans hh),hp|q2]
 . let%[its,_,p|_]:=I1.tuple (zD0 hh);erw["tuple","tuple.index",pt,F.slot_tuple_index,F.type_tuple_index,p.typeIs,λb eb=>?_,6]
   . cases eb;exact I1.tupD hh
   . refine Calls.callWith_builtin (by show(false||(backTo cpos (starEach es X.env)).any (·.1))=false;rw[hplain] <;> rfl) (Calls.evalArgs_plain ?_);exact thn hA λus s2 ⟨vs,H2,I2,r2,ek,z,j,ez,hp,q2⟩=>xQ pins s2 σ H2 (.ref a) vs (.ref a) us Q I2 rfl r2 %[a,ns,z,j,1,ez,zD0 (ek.trans hh),hp|q2]
end
theorem CompScope.three{X:Cx}{x y z u:Str}{scope:Scope}{k l m:Nat}{c d e:Addr}{cl:List (Str×Addr)}(c1:closureFor scope X.env=pure cl)(c2:∀y∈scope.names,y.2≠.cell)(c3:scope.kind=.function)(c4:∀y∈scope.names,y.2=.local->scope.names.lookup y.1=some .local)
 (c5:scope.names.lookup x=some .local) (nd:[x,y,z,u].Nodup) (hcl:cl=[(y,c),(z,d),(u,e)]) (hc:X.env.cells.lookup y=some c) (hd:X.env.cells.lookup z=some d) (he:X.env.cells.lookup u=some e) (c6:((relabel scope X.env).names.all λp=>!(p.2==.cell||p.2==.free)||(cl.lookup p.1).isSome)=true)
 (hr:(relabel scope X.env).names.lookup y=some .cell) (hk:X.N[k]?=some y) (hs:X.env.scope.names.lookup y=some .cell)
 (hr2:(relabel scope X.env).names.lookup z=some .cell) (hk2:X.N[l]?=some z) (hs2:X.env.scope.names.lookup z=some .cell)
 (hr3:(relabel scope X.env).names.lookup u=some .cell) (hk3:X.N[m]?=some u) (hs3:X.env.scope.names.lookup u=some .cell):CompScope X x [y,z,u] [k,l,m] scope cl where
 clos:=c1
 nocell:=c2
 kind:=c3
 names:=c4
 own:=c5
 nd:=nd
 sub:=λp hp=>by
  subst hcl;rcases zV0 hp with h | h
  . rw[h];assumption
  . rcases zV0 h with h | h
    . rw[h];assumption
    . rw[zM0 h];assumption
 has:=c6
 outs:=λj w h=>by
  have nyz:y≠z:=λe=>by simp [e]at nd
  have nyu:y≠u:=λe=>by simp [e]at nd
  have nzu:z≠u:=λe=>by simp [e]at nd
  subst hcl
  match j,h with
  | 0,h=>
    have e:y=w:=zU0 h;subst e;erw[hr,k,c,1,hk,by simp [List.lookup],hs]
  | 1,h=>
    have e:z=w:=zU0 h;subst e
    have:(z==y)=false:=by simpa using Ne.symm nyz
    erw[hr2,l,d,1,hk2,by simp [List.lookup,this],hs2]
  | 2,h=>
    have ew:u=w:=zU0 h;subst ew;have h1:(u==y)=false:=by simpa using Ne.symm nyu
    have h2:(u==z)=false:=by simpa using Ne.symm nzu
    erw[hr3,m,e,1,hk3,by simp [List.lookup,h1,h2],hs3]
  | j+3,h=>simp at h
section
variable {X:Cx}
theorem qe:∀{xs:List V}{us:List Value},Vals xs us->xs.all hU=true->us.countP (eqU x)=xs.countP λy=>eqV y x
 | _,_,.nil,_=>rfl
 | y::xs,u::us,.cons r t,f=>by
   rw[List.all_cons,Bool.and_eq_true]at f;rw[List.countP_cons,List.countP_cons,vB r f.1,qe t f.2]
inductive rCountL(K:W.Frag)(x:V)(vs:List V)(H:Hp)(Q:VK):Prop
 |mk:∀(a:Addr)(xs:List V)(z:V),x=.ref a->vs=[z]->SqL K H a xs->xs.all hU=true->hU z=true->Q (.int ((xs.countP λy=>eqV y z:Nat):Int)) H->rCountL K x vs H Q
theorem ox:MtR X "list.count" (rCountL X.K):=by
 intro pins s σ H x vs v us Q I rx rv h;erw[a,xs,z,1,1,hq,fs,fz,q]at h;cases rx;erw[u,1,ru]at rv.one;let%[its,r,%[%[cls,dd,data|sl],n,ho,hc,hdd|hd]|hz]:=I.list hq;simp only at hc hd;subst hc hd;refine call_meets F.slot_list_count %[_,ho|1] F.entry_list_count (F.args_list_count_2 _ _) (SeqAt.list_countAt a its.toArray n dd sl u (eqU z)) ⟨ho,λy hy=>?_,?_⟩
 . exact eW ru fz r fs y (by simpa using hy)
 . rw[show its.toArray.toList=its from rfl,qe r fs];erw[.int ((xs.countP λy=>eqV y z:Nat):Int),H,I.tok _,%[|0],q]
end
def df(g:Nat->Int):Nat->Int
 | 0=>g 0
 | k+1=>if df g k<g (k+1)then g (k+1)else df g k
theorem tO(g:Nat->Int):∀n k,k<=n->g k<=df g n
 | 0,k,h=>by
   have e:k=0:=by omega
   subst e;exact Int.le_refl _
 | n+1,k,h=>by
   unfold df
   by_cases c:k=n+1
   . subst c
     split <;> omega
   . have:=tO g n k #[0]
     split <;> omega
def xV(ns:List Int)(d:Int):Int:=match ns with | []=>d | _::_=>df (λi=>ns[i]?.getD 0) (ns.length-1)
theorem Ch{ns:List Int}{x:Int}(h:x∈ns):x<=xV ns d:=by
 let%[i,hi|e]:=List.getElem_of_mem h;cases ns with
 | nil=>cases h
 | cons a r=>
   have:=tO (λi=>(a::r)[i]?.getD 0) ((a::r).length-1) i #[0]
   simp only[zN0 hi,Option.getD_some,e]at this;exact this
section
variable {prog:Program} {w:World} {A:Around} {R:Result->Shared->Prop} {I S:Addr} {fp wr:List Addr} {n:Nat} {P:Nat->Value->Prop} {St:Nat->Heap->Prop} {g:Nat->Int} {kw:List (Str×Value)}
theorem ms:(toString "max"++toString ".loop":String)="max.loop":=by decide
theorem At(W:Walks prog w A.in1 I fp wr n P St)(gv:∀i v,P i v->∃t,v=Value.int (g i) t)(nS:S∉fp):∀(k j:Nat)(s:Shared)(t:Tok)(c:Nat),j+1+k=n->St (j+1) s.heap ->
 s.heap.get? S=some { cls:=.type "list",dict:=none,data:=.seq #[.int (df g j) t,.int (df g j) t] c,slots:=#[] } ->
 (∀t' h' tk,(∀b o,b∉wr->b≠S->s.heap.get? b=some o->h'.get? b=some o)->R (.ok (.ret (.int (df g (n-1)) t'))) { s with heap:=h',toks:=tk }) ->
 codeAny (model prog w) A (.builtin "max.loop" %[[.ref I,.none,.ref S]|kw]) R s:=by
 have nw:S∉wr:=λz=>nS (W.sub _ z)
 intro k
 induction k with
 | zero=>
   intro j s t c ek st eS q;refine codeAny_builtin F.entry_max_loop ?_;rw[Around.under_plainId F.plain_max_loop _];show wpAny _ A.in1 (seqItems? (.ref S) >>= _) _ _ s;refine zA0 (wpAny_seqItems eS rfl ?_);show wpAny _ A.in1 (tryCatch (pyNext (.ref I)) _ >>= _) _ _ s;refine zA0 (wpAny_tryCatch (W.done s _ _ (by rw[←ek];exact st) λh' tk kp=>?_));show wpAny _ A.in1 (updateSeq S (λ_=>#[]) >>= _) _ _ _;refine zA0 ?_;refine wpAny_updateSeq (kp S _ nw eS) rfl (zA0 (wpAny_letGo (zI0 ?_)));have e:n-1=j:=by omega
   rw[e]at q;exact q t _ tk λb o h1 h2 eb=>(Heap.get?_update_other _ _ (Ne.symm h2)).trans (kp b o h1 eb)
 | succ k ih=>
   intro j s t c ek st eS q;refine codeAny_builtin F.entry_max_loop ?_;rw[Around.under_plainId F.plain_max_loop _];show wpAny _ A.in1 (seqItems? (.ref S) >>= _) _ _ s;refine zA0 (wpAny_seqItems eS rfl ?_);show wpAny _ A.in1 (tryCatch (pyNext (.ref I)) _ >>= _) _ _ s;refine zA0 (wpAny_tryCatch (W.item (j+1) s _ _ #[0] st λv h' tk pv st' kp=>?_));let%[tv|1]:=gv _ _ pv;have eS':=kp S _ nw eS;show wpAny _ A.in1 (tryCatch (holding [Value.int (g (j+1)) tv,Value.int (g (j+1)) tv] (richCompare .Gt (Value.int (g (j+1)) tv) (Value.int (df g j) t) >>= _)) _ >>= _) _ _ _;refine zA0 (wpAny_tryCatch (wpAny_holding (zA0 (CmpOf.ints_gt (prog:=prog) (w:=w) (A:=A.in1) (P:=λi v=>∃t,v=Value.int (if i=0 then df g j else g (j+1)) t) (λi=>if i=0 then df g j else g (j+1)) (λi v h=>h) 1 0 _ _ _ _ _ %[tv|1] ⟨t,rfl⟩ ?_))));refine zA0 (wpAny_holding (wpAny_truthy_bool ?_));refine zA0 (wpAny_letGo (zI0 ?_))
   by_cases c1:df g j<g (j+1)
   . have e1:df g (j+1)=g (j+1):=by unfold df;rw[zE0 c1]
     refine wpAny_ite_split (λ_=>?_) (λhab=>absurd (decide_eq_true c1) hab);refine zA0 ?_;refine wpAny_updateSeq eS' rfl (zA0 (wpAny_letGo ?_));rw[ms];refine zI0 %[plainId_quiet F.plain_max_loop _|ih (j+1) _ tv _ #[0] (W.frame _ _ _ st' λb hb o eb=>?_) (by rw[e1];exact Heap.get?_update_self _ eS' rfl) λt' h2 tk2 kp2=>?_]
     . exact(Heap.get?_update_other _ _ (λz:S=b=>nS (by rw[z];exact hb))).trans eb
     . exact q t' h2 tk2 λb o h1 h3 eb=>kp2 b o h1 h3 ((Heap.get?_update_other _ _ (Ne.symm h3)).trans (kp b o h1 eb))
   . have e1:df g (j+1)=df g j:=by unfold df;rw[zB0 c1];cases j <;> rfl
     refine wpAny_ite_split (λhab=>absurd (of_decide_eq_true hab) c1) (λ_=>?_);refine zA0 (wpAny_letGo ?_);rw[ms];refine zI0 %[plainId_quiet F.plain_max_loop _|ih (j+1) _ t c #[0] st' (by rw[e1];exact eS') λt' h2 tk2 kp2=>?_];exact q t' h2 tk2 λb o h1 h3 eb=>kp2 b o h1 h3 (kp b o h1 eb)
theorem Au (W:Walks prog w A.in1 I fp wr n P St) (gv:∀i v,P i v->∃t,v=Value.int (g i) t) (nS:S∉fp) (hn:0<n) {s:Shared} {c:Nat} (st:St 0 s.heap) (eS:s.heap.get? S=some { cls:=.type "list",dict:=none,data:=.seq #[] c,slots:=#[] })
 (q:∀t' h' tk,(∀b o,b∉wr->b≠S->s.heap.get? b=some o->h'.get? b=some o)->R (.ok (.ret (.int (df g (n-1)) t'))) { s with heap:=h',toks:=tk }) :
 codeAny (model prog w) A (.builtin "max.loop" %[[.ref I,.none,.ref S]|kw]) R s:=by
 have nw:S∉wr:=λz=>nS (W.sub _ z)
 refine codeAny_builtin F.entry_max_loop ?_;rw[Around.under_plainId F.plain_max_loop _];show wpAny _ A.in1 (seqItems? (.ref S) >>= _) _ _ s;refine zA0 (wpAny_seqItems eS rfl ?_);show wpAny _ A.in1 (tryCatch (pyNext (.ref I)) _ >>= _) _ _ s;refine zA0 (wpAny_tryCatch (W.item 0 s _ _ hn st λv h' tk pv st' kp=>?_));let%[tv|1]:=gv _ _ pv;have eS':=kp S _ nw eS;show wpAny _ A.in1 (updateSeq S (λ_=>#[Value.int (g 0) tv,Value.int (g 0) tv]) >>= _) _ _ _;refine zA0 ?_;refine wpAny_updateSeq eS' rfl ?_;rw[ms];refine zI0 %[plainId_quiet F.plain_max_loop _|At W gv nS (n-1) 0 _ tv _ #[0] (W.frame _ _ _ st' λb hb o eb=>?_) (Heap.get?_update_self _ eS' rfl) λt' h2 tk2 kp2=>?_]
 . exact(Heap.get?_update_other _ _ (λz:S=b=>nS (by rw[z];exact hb))).trans eb
 . exact q t' h2 tk2 λb o h1 h3 eb=>kp2 b o h1 h3 ((Heap.get?_update_other _ _ (Ne.symm h3)).trans (kp b o h1 eb))
end
section
variable {X:Cx} {e k:Expr} {te tk:TE} {pos p1 kp:Pos}
inductive rMax1(K:W.Frag)(xs:List V)(H:Hp)(Q:VK):Prop
 |mk:∀a ns,xs=[.ref a]->SqL K H a (ns.map V.int)->ns≠[]->Q (.int (xV ns 0)) H->rMax1 K xs H Q
theorem qh (hc:X.calm=true):gy X (.builtin "max") (rMax1 X.K):=by
 intro pins s2 σ H2 xs us Q I2 r h;erw[a,ns,1,hq,hn,q]at h;let%[u,1|ru]:=jG r;cases ru;let%[its,r',p|hz]:=I2.list hq;have hl:=r'.length;rw[zH0]at hl;have hlt:a<s2.heap.objs.size:=by erw[o,n,e,_]at p;exact zL0 e
 refine call_function_tree F.kind_max F.plain_max F.entry_max (F.args_max1 _) ?_;show wpAny _ X.A.in1 (Builtin.Builtins.bindParams "max" ["key","default"] 0 %[[]|[]] >>= λ_=>_) _ _ s2;refine zA0 (wpAny_of_eq (a:=[none,none]) rfl ?_);refine zA0 (zI0 ?_);refine zA0 (wpAny_pyIter_list p.isList ?_);refine zA0 (wpAny_newObj_type ?_);rw[ms];have hne:a≠s2.heap.objs.size:=zS0 hlt;have W:=Walks.list (prog:=X.prog) (w:=X.w) (A:=X.A.in1) (I2.ok.hd hc) s2.heap.objs.size a hne its.toArray;have I3:Inv X pins σ H2 { s2 with heap:=s2.heap.push { cls:=.type "list_iterator",data:=.fields #[.ref a,.int 0 0] } }:=I2.kept (t':=s2.toks) λb o eb=>zP0 _ eb
 have I4:Inv X pins σ H2 { s2 with heap:=(s2.heap.push { cls:=.type "list_iterator",data:=.fields #[.ref a,.int 0 0] }).push { cls:=.type "list",data:=.seq #[] } }:=I3.kept (t':=s2.toks) λb o eb=>zP0 _ eb
 have hz1:∀o:Obj,(s2.heap.push o).objs.size=s2.heap.objs.size+1:=λo=>by simp [Heap.push]
 have nS:(s2.heap.push { cls:=.type "list_iterator",data:=.fields #[.ref a,.int 0 0] }).objs.size∉[s2.heap.objs.size,a]:=by
  intro hm;rcases zV0 hm with z | z
  . rw[hz1]at z;exact absurd z (Nat.succ_ne_self _)
  . have z:=zM0 z;rw[hz1]at z;exact absurd z (Nat.ne_of_gt (Nat.lt_succ_of_lt hlt))
 have gv:∀i v,its.toArray[i]?=some v->∃t,v=Value.int (ns[i]?.getD 0) t:=λi v hv=>by
  let%[b,t,hb|1]:=oF r' (i:=i) (v:=v) (by first | exact hv | simpa using hv | (rw[List.getElem?_toArray]at hv;exact hv));erw[t,by rw[hb];rfl]
 have n0:0<ns.length:=List.length_pos_iff.mpr hn;refine zI0 %[plainId_quiet F.plain_max_loop _|Au (g:=λi=>ns[i]?.getD 0) W gv nS (by rw[zR0,←hl];exact n0) %[%[_,zP0 _ (zZ0 _ rfl),1|1]|(p.isList.push _).push _] (zZ0 _ rfl) λt' h' tk kp=>?_];rw[zR0,←hl];have em:df (λi=>ns[i]?.getD 0) (ns.length-1)=xV ns 0:=by
  cases ns with
  | nil=>exact absurd rfl hn
  | cons _ _=>rfl
 rw[em];erw[.int _,H2,6,%[|0],q];have J:=Inv.turnedL (h':=h') (t':=tk) (ch:=[s2.heap.objs.size,s2.heap.objs.size+1]) I4 (λb o hb eb=>kp b o (λz=>hb (by rw[zM0 z];exact zY0)) (λz=>hb (by rw[z,hz1];exact qG0 _ zY0)) eb);refine J λb hb=>?_
 rcases zV0 hb with h | h
 . rw[h];exact I2.fpOk (zG0 _) (I2.hok.fresh (zG0 _))
 . rw[zM0 h];exact I2.fpOk (qL0 _) (I2.hok.fresh (qL0 _))
end
section
variable {prog:Program} {w:World} {A:Around} {E:Value->Shared->Prop} {s:Shared}
theorem vL{it t:Addr}{i:Nat}{items:Array Value}{x:Value}{Q:Value->Shared->Prop}(hit:s.heap.IsTupleIter it t i)(ht:s.heap.IsTuple t items)(hx:items[i]?=some x)
 (q:∀h',h'.IsTupleIter it t (i+1)->Heap.SameBut it s.heap h'->Q x { s with heap:=h' }):wpAny (model prog w) A (Builtin.SmallTypes.nextOf (.ref it)) Q E s:=by
 let%[o,ho,hc|hd]:=id hit;erw[ol,hol,_,nl,hdl]at ht;unfold Builtin.SmallTypes.nextOf;refine zA0 (wpAny_callSpecial?_slot (name:=Str.ofString "__next__") hit.typeIs F.slot_tuple_iterator_next (wpAny_call_entry F.slot_tuple_iterator_next hit.typeIs F.entry_tuple_iterator_next ?_ (F.args_tuple_iterator_next_1 _)));show wpAny _ _ (field (.ref it) 0 >>= _) _ _ s;refine zA0 (wpAny_field ho hd (x:=.ref t) rfl ?_);show wpAny _ _ (if(Value.ref t==Value.none)=true then _ else _) _ _ s;rw[zB0 (show ¬ ((Value.ref t==Value.none)=true)from qB0)];show wpAny _ _ (field (.ref it) 1 >>= _) _ _ s;refine zA0 (wpAny_field ho hd (x:=.int i 0) rfl ?_);show wpAny _ _ (seqItems? (.ref t) >>= _) _ _ s;refine zA0 (wpAny_seqItems hol hdl ?_);simp only[qQ0,hx];refine zA0 (wpAny_setField ho hd (by simp) (zI0 %[x,1|zI0 (q _ ?_ (Heap.SameBut.update ..))]));erw[_,Heap.get?_update_self _ ho (Obj.isFreed_of_fields (Obj.data_mapFields hd _)),(Obj.cls_mapFields ..).trans hc,by rw[Obj.data_mapFields hd];simp [rawInt]]
theorem uf{it t:Addr}{i:Nat}{items:Array Value}{Q:Value->Shared->Prop}(hh:A.handled=none)(hit:s.heap.IsTupleIter it t i)(ht:s.heap.IsTuple t items)(hx:items[i]?=none)
 (q:∀h' e,Heap.ExtBut it s.heap h'->(∃o,h'.get? e=some o/\o.cls=.type "StopIteration")->E (.ref e) { s with heap:=h' }):wpAny (model prog w) A (Builtin.SmallTypes.nextOf (.ref it)) Q E s:=by
 let%[o,ho,hc|hd]:=id hit;erw[ol,hol,_,nl,hdl]at ht;unfold Builtin.SmallTypes.nextOf;refine zA0 (wpAny_callSpecial?_slot (name:=Str.ofString "__next__") hit.typeIs F.slot_tuple_iterator_next (wpAny_call_entry F.slot_tuple_iterator_next hit.typeIs F.entry_tuple_iterator_next ?_ (F.args_tuple_iterator_next_1 _)));show wpAny _ _ (field (.ref it) 0 >>= _) _ _ s;refine zA0 (wpAny_field ho hd (x:=.ref t) rfl ?_);show wpAny _ _ (if(Value.ref t==Value.none)=true then _ else _) _ _ s;rw[zB0 (show ¬ ((Value.ref t==Value.none)=true)from qB0)];show wpAny _ _ (field (.ref it) 1 >>= _) _ _ s;refine zA0 (wpAny_field ho hd (x:=.int i 0) rfl ?_);show wpAny _ _ (seqItems? (.ref t) >>= _) _ _ s;refine zA0 (wpAny_seqItems hol hdl ?_);simp only[qQ0,hx]
 first
  | refine zA0 (wpAny_rule (zA0 (wpAny_setField ho hd (by simp) (zA0 (wpAny_letGo ?_)))))
  | refine zA0 (wpAny_rule (zA0 (wpAny_setField ho hd (by simp) ?_)))
 show wpAny _ _ (newExc (.type "StopIteration") [] >>= _) _ _ _;refine zA0 ?_;simp only[newExc,newTuple];refine zA0 (wpAny_newObj_type ?_ (by size_fits));refine zA0 (m:=firstArgMember _ _) (wpAny_of_eq (a:=Value.none) (by first | rfl | (simp only[firstArgMember];rfl)) ?_);refine wpAny_newObj_type ?_ (by size_fits);simp only[raiseNew];refine zA0 (wpAny_handled ?_)
 first | rw[show A.in1.handled=none from hh] | rw[hh]
 refine zA0 (zI0 (wpAny_throw ?_));exact q _ _ (((Heap.SameBut.update ..).extBut.push _).push _) %[_,zZ0 _ rfl|1]
theorem yt{e it t:Addr}{j:Nat}{i:Int}{old:Value}{items:Array Value}{Q:Option Value->Shared->Prop}(hh:A.handled=none)(he:IsEnum s.heap e it i old)(hit:s.heap.IsTupleIter it t j)(ht:s.heap.IsTuple t items)(hx:items[j]?=none)
 (q:∀h',Heap.ExtBut it s.heap h'->Q none { s with heap:=h' }):wpAny (model prog w) A (pyNext (.ref e)) Q E s:=by
 have hT:s.TypeIs (.ref e) "enumerate":=%[_,he|1]
 unfold pyNext;refine zA0 (wpAny_attempt (wpAny_callSpecial?_slot (name:=Str.ofString "__next__") hT F.slot_enumerate_next (wpAny_call_entry F.slot_enumerate_next hT F.entry_enumerate_next ?_ (F.args_enumerate_next_1 _))));show wpAny _ _ (field (.ref e) 2 >>= _) _ _ _;refine zA0 (wpAny_field he rfl (x:=.ref it) rfl ?_);refine zA0 (uf hh hit ht hx λh' x he' hx'=>?_);erw[o,ho,hc]at hx';refine zA0 (wpAny_isInstance (T:="StopIteration") (b:=true) %[o,ho|hc] isSubtype_stop ?_);exact zI0 (q h' he')
end
theorem yu{prog:Program}{w:World}{A:Around}(hh:A.handled=none)(it l:Addr)(hne:l≠it)(items:Array Value):Draws prog w A it [it,l] items.size (λi v=>items[i]?=some v) (λi h=>h.IsTupleIter it l i/\h.IsTuple l items) where
 live:=λ_ _ st=>let⟨o,ho,_⟩:=st.1;%[o|ho]
 frame:=λ_ _ _ st k=>%[st.1.at λo e=>k it (by simp) o e|st.2.at λo e=>k l (by simp) o e]
 item:=λi s Q E hi st q=>by
  refine vL st.1 st.2 (x:=items[i]) (by simp [hi]) λh' a b=>?_
  exact q _ h' s.toks (by simp [hi]) %[a|st.2.extBut b.extBut hne] b
 done:=λs Q E st q=>uf hh st.1 st.2 (by simp) q
open AutoSeq1 (wpAny_loadPart') in
set_option maxHeartbeats 1000000 in
theorem sQ(l:Addr)(items:Array Value)(n:Nat)(dct:Option Addr)(sl:Array (Option Value)) :
 Meets (Builtin.«enumerate.__new__» %[[.type "enumerate",.ref l]|[]]) (λ_ R s=>s.heap.get? l=some { cls:=.type "tuple",dict:=dct,data:=.seq items n,slots:=sl }/\
  R (.ok (.ret (.ref (s.heap.push { cls:=.type "tuple_iterator",data:=.fields #[.ref l,.int 0 0] }).objs.size)))
   { s with heap:=(s.heap.push { cls:=.type "tuple_iterator",data:=.fields #[.ref l,.int 0 0] }).push { cls:=.type "enumerate",data:=.fields #[.none,.bool false,.ref s.heap.objs.size,rawInt 0,.none,.none] } }):=
 .of_wp λprog w A R s h=>by
  erw[hp,g,d,tk,os]at s;erw[hl,h]at h;have hsub:=sub_enumerate;have hL:Heap.IsTuple (Shared.heap %[hp,g,d,tk|os]) l items:=⟨_,hl,rfl,n,rfl⟩
  wp_walk using wpAny_loadPart' hl
  refine wpAny_stack_any λst=>zI0 ?_
  split
  . rename_i c _ _ _ _ _;cases(c==Value.type "enumerate")
    . wp_walk using wpAny_loadPart' hl,wpAny_pyIter_tuple hL
      erw[0,h]
    . wp_walk using wpAny_loadPart' hl,wpAny_pyIter_tuple hL
      erw[0,h]
  . wp_walk using wpAny_loadPart' hl,wpAny_pyIter_tuple hL
    erw[0,h]
section
variable {prog:Program} {w:World} {A:Around} {E:Value->Shared->Prop} {s:Shared}
theorem vG{l:Addr}{items:Array Value}{Q:Value->Shared->Prop}(hL:s.heap.IsTuple l items)
 (q:∀h',IsEnum h' (s.heap.objs.size+1) s.heap.objs.size 0 .none->h'.IsTupleIter s.heap.objs.size l 0->(∀b o,s.heap.get? b=some o->h'.get? b=some o)->Q (.ref (s.heap.objs.size+1)) { s with heap:=h' }) :
 wpAny (model prog w) A (call (.type "enumerate") [.ref l]) Q E s:=by
 erw[%[c,dct,dt|sl],hl,hc,n,hd]at hL
 replace hc:c=.type "tuple":=hc
 replace hd:dt=.seq items n:=hd
 subst hc hd;refine callType_new F.called_enumerate ⋯ (F.typeCall_enumerate_1 _) (F.newCall_enumerate_1 _) (λobj=>F.args_object_init_2 obj _) F.entry_enumerate_new (sQ l items n dct sl) %[hl|6];have hz:(s.heap.push { cls:=.type "tuple_iterator",data:=.fields #[.ref l,.int 0 0] }).objs.size=s.heap.objs.size+1:=Heap.size_push ..;show _/\_;rw[hz];have he:IsEnum ((s.heap.push { cls:=.type "tuple_iterator",data:=.fields #[.ref l,.int 0 0] }).push { cls:=.type "enumerate",data:=.fields #[.none,.bool false,.ref s.heap.objs.size,rawInt 0,.none,.none] }) (s.heap.objs.size+1) s.heap.objs.size 0 .none:=by
  have:=zZ0 (s.heap.push { cls:=.type "tuple_iterator",data:=.fields #[.ref l,.int 0 0] }) (o:={ cls:=.type "enumerate",data:=.fields #[.none,.bool false,.ref s.heap.objs.size,rawInt 0,.none,.none] }) rfl
  rw[hz]at this;exact this
 erw[%[_,he|1],q _ he ⟨_,zP0 _ (zZ0 _ rfl),rfl,rfl⟩ λb o x=>zP0 _ (zP0 _ x)]
end
def Bk(K:W.Frag)(a:Addr):It:=
 ⟨λi H=>∃xs x,SqT K H a xs/\xs[i]?=some x,λi H y H'=>∃t,y=.ref t/\H t=none/\∀xs x,SqT K H a xs->xs[i]?=some x->H'=upd H t (.tup [.int i,x]),λi H=>∃xs,SqT K H a xs/\xs.length<=i⟩
theorem uc{K:W.Frag}{elts:List Expr}{k:Nat}{pos:Pos}(a e it:Addr)(hei:e≠it)(hai:a≠it)(hae:a≠e) :
 Turn P w K (.Tuple elts k pos) (Bk K a) [e,it] e (λi h=>(∃old,IsEnum h e it i old)/\h.IsTupleIter it a i) where
 mem:=by simp
 obj:=λi h st b hb=>by
  erw[%[old|he],o,e2,c,d]at st;rcases zV0 hb with z | z
  . subst z;erw[_,he,λv z=>nomatch z]
  . have z':=zM0 z;subst z';erw[o,e2,λv z=>by rw[d]at z;cases z]
 keep:=λi h h' st k=>by
  erw[%[old|he],hit]at st;erw[%[old|k e (by simp) _ he],hit.at λo x=>k it (by simp) o x]
 item:=by
  intro X hP hw hK hc i pins s σ H E I hf st hg;subst hP hw hK;erw[xs,x,hq,hx]at hg;let%[its,rv,p|hz]:=I.tuple hq;let%[u,hu|ru]:=rv.get hx;erw[%[old|he],hit]at st;have hi:i<its.toArray.size:=by
   rw[zR0];exact(zX0 hu).1
  refine wpAny_pyNext_enum_itemD (yu (prog:=X.prog) (w:=X.w) (A:=X.A.in1) (I.ok.hd hc) it a hai its.toArray) he %[hit|p] hi hei (by simp [hei,Ne.symm hae]) λy h1 tk hy ho hst1 hT hsz hk=>?_
  have ey:y=u:=by
   have h1:its.toArray[i]?=some u:=by simpa using hu
   rw[h1]at hy;exact(zU0 hy).symm
  subst ey;erw[0,wpAny_letOwnedTupleGo_enum ho λh2 he2 hs2=>?_];have elt:e<s.heap.objs.size:=zL0 he;have hT2:h2.get? s.heap.objs.size=some { cls:=.type "tuple",data:=.seq #[.int i tk,y] }:=(hs2.2 _ (Ne.symm (zS0 elt))).trans hT;have I2:Inv X pins σ (upd H s.heap.objs.size (.tup [.int i,x])) { s with heap:=h2,toks:=tk+1 }:=by
   refine I.turnedNew (ch:=[e,it]) (λb ob hb eb=>?_) hf (zG0 _) %[by show 2<=sizeLine;decide,[.int i tk,y],.cons %[|0] (.cons ru .nil),%[_,hT2,1|0],_,hT2|1];have b1:b≠e:=λz=>hb (by simp [z])
   have b2:b≠it:=λz=>hb (by simp [z])
   exact(hs2.2 b b1).trans (hk b ob b1 b2 eb)
  erw[.ref s.heap.objs.size,_,I2,1,%[0,I.hok.fresh (zG0 _)|λys z hy hyi=>?_],%[%[y|by simpa using he2]|hst1.1.at λo z=>(hs2.2 it (Ne.symm hei)).trans z],λb hb=>?_]
  . have e1:=I.tuple_inj hy hq;subst e1;rw[hx]at hyi;cases hyi;rfl
  . have z:=hf b hb;have hlt:b<s.heap.objs.size:=by
     rcases zV0 hb with y | y
     . rw[y];exact elt
     . rw[zM0 y];erw[o,e2,_]at hit;exact zL0 e2
    rw[aq (zS0 hlt)];exact z.1
 done:=by
  intro X hP hw hK hc i pins s σ H E I hf st hg;subst hP hw hK;erw[xs,hq,hx]at hg;let%[its,rv,p|hz]:=I.tuple hq;erw[%[old|he],hit]at st;have hl:=rv.length;exact yt (I.ok.hd hc) he hit p (Array.getElem?_eq_none (by simp;omega)) λh' eb=>%[1|I.turnedL (t':=s.toks) (ch:=[e,it]) (λb o hb eo=>eb b o (λz=>hb (by simp [z])) eo) hf]
 self:=λ_ _ _ _ _ st h=>by
  erw[%[old|he],_]at st;exact wpAny_pyIter_enum he h
section
variable {X:Cx} {elts:List Expr} {k:Nat} {tpos:Pos}
inductive ZiEnumT(K:W.Frag)(R:(It->Hp->Prop))(x:V)(H1:Hp):Prop
 |mk:∀a,x=.ref a->(∃xs,SqT K H1 a xs)->R (Bk K a) H1->ZiEnumT K R x H1
def Er(K:W.Frag)(tl:TE):TI:=λσ H R=>tl σ H λx H1=>ZiEnumT K R x H1
theorem zR   {p pos:Pos} (hg:Gl X "enumerate") (hm:X.mg "enumerate"=none) (hl:PE X l tl) (hs:starEach [l] X.env=[(false,eval l X.env)]:=by rfl) :
 PI X (.Tuple elts k tpos) (.Call (.Name "enumerate" p) [l] [] pos) (Er X.K tl):=by
 intro pins s σ H R I h;refine Call_ (fh I hg hm boot_enumerate (PyProof.Rows.callWith_type1 ?_ hs rfl));rw[hs];show wpAny _ _ (spliced ((false,eval l X.env)::backTo pos (starEach [] X.env))) _ _ s;refine Calls.spliced_cons (thn (hl pins s σ H _ I h) λu s1 ⟨x,H1,I1,r1,a,ex,⟨xs,hq⟩,q⟩=>?_);subst ex;cases r1;let%[its,rv,p|hz]:=I1.tuple hq;have alt:=p.lt;refine Calls.spliced_nil ?_;refine vG p λh' he hit hk=>?_
 refine wpAny_pyIter_enum he ?_;have I2:Inv X pins σ H1 { s1 with heap:=h' }:=I1.kept (t':=s1.toks) hk;erw[s1.heap.objs.size+1,[s1.heap.objs.size+1,s1.heap.objs.size],_,_,H1,1,I2,uc a _ _ (Nat.ne_of_gt (Nat.lt_succ_self _)) (zS0 alt) (zS0 (Nat.lt_succ_of_lt alt)),%[%[_|he]|hit],λb hb=>?_,q];rcases zV0 hb with z | z
 . rw[z];exact I1.fpOk (qL0 _) (I1.hok.fresh (qL0 _))
 . rw[zM0 z];exact I1.fpOk (zG0 _) (I1.hok.fresh (zG0 _))
end
theorem yk{K:W.Frag}{xs:List V}{g:TG}{tb:TS}{D:Ends}{σ:St}{H:Hp}(Pv:Nat->St->Hp->Prop)(h0:Pv 0 σ H)(hl:∀i σ H,i<=xs.length->Pv i σ H->SqT K H a xs)
 (hs:∀i x σ H t,xs[i]?=some x->Pv i σ H->H t=none->g (.ref t) σ (upd H t (.tup [.int i,x])) λσ2 H2=>tb { D with nx:=Pv (i+1),ct:=Pv (i+1),bk:=D.nx } σ2 H2) (hd:∀ σ H,Pv xs.length σ H->D.nx σ H) :
 ∃ W:Nat->Nat->St->Hp->Prop,(∃m,W 0 m σ H)/\∀i m σ H,W i m σ H ->
  ((Bk K a).stop i H/\D.nx σ H)∨((Bk K a).go i H/\∃N:St->Hp->Prop,(∀ σ' H',N σ' H'->∃m',m'<m/\W (i+1) m' σ' H')/\∀x H',(Bk K a).yld i H x H'->g x σ H' λσ2 H2=>tb { D with nx:=N,ct:=N,bk:=D.nx } σ2 H2):=by
 erw[λi m σ H=>m=xs.length-i/\i<=xs.length/\Pv i σ H,%[xs.length,by simp,zW0 _|h0],6];rintro i m σ H ⟨rfl,hi,p⟩;have q:=hl i σ H hi p
 by_cases hlt:i<xs.length
 . refine .inr %[%[xs,xs[i],q|by simp [hlt]],Pv (i+1),λσ' H' p'=>%[xs.length-(i+1),3,1,hlt|p']|λx H' y=>?_];erw[t,1,ht,e]at y;have e':=e xs xs[i] q (by simp [hlt]);subst e';exact hs i xs[i] σ H t (by simp [hlt]) p ht
 . have e:i=xs.length:=by omega
   subst e;exact .inl %[%[xs,q|zG0 _]|hd σ H p]
def ItV(K:W.Frag)(a:Addr)(xs:List V):It:=%[λi H=>SqL K H a xs/\i<xs.length,λi H y H'=>H'=H/\xs.reverse[i]?=some y|λi _=>xs.length<=i]
theorem wQ{K:W.Frag}(a it:Addr)(xs:List V):Turn P w K tg (ItV K a xs) [it] it (λi h=>i<=xs.length/\h.IsRevIter it a ((xs.length:Int)-1-(i:Int))) where
 mem:=by simp
 obj:=λi h st b hb=>by
  have e:b=it:=by simpa using hb
  subst e;erw[_,o,e,c,d]at st;erw[o,e,λv z=>by rw[d]at z;cases z]
 keep:=λi h h' st k=>%[st.1|st.2.at λo e=>k it (by simp) o e]
 item:=by
  intro X hP hw hK hc i pins s σ H E I hf st hg;subst hP hw hK;erw[hq,hi]at hg;let%[its,rv,p|hz]:=I.list hq;have hj:xs.length-1-i<xs.length:=by omega
  have hx:xs[xs.length-1-i]?=some xs[xs.length-1-i]:=zN0 hj;let%[u,hu|ru]:=rv.get hx;let%[f0,f1,f2,f3,f4|f5]:=hf it (by simp);erw[_,hit]at st;have e1:((xs.length:Int)-1-(i:Int))=((xs.length-1-i:Nat):Int):=by omega
  rw[e1]at hit;refine wpAny_pyNext_rev_item hit p.isList (x:=u) (by simpa using hu) λh' st' sb=>?_
  have I1:Inv X pins σ H { s with heap:=h' }:=I.turned (t':=s.toks) (λb o hb e=>(sb.2 b hb).trans e) f0 f1 f3 f4 f5;have e2:((xs.length-1-i:Nat):Int)-1=(xs.length:Int)-1-((i+1:Nat):Int):=by omega
  rw[e2]at st';let%[o,e,c|d]:=id st';erw[u,1,sY (s:={ s with heap:=h' }) e c d ⋯ ⟨xs[xs.length-1-i],H,I1,ru,⟨rfl,?_⟩,⟨by omega,st'⟩,λb hb=>(hf b hb).1⟩];rw[List.getElem?_reverse hi,hx]
 done:=by
  intro X hP hw hK hc i pins s σ H E I hf st hg;subst hP hw hK;have hg:xs.length<=i:=hg;let%[f0,f1,f2,f3,f4|f5]:=hf it (by simp);erw[hi,hit]at st;have e1:(xs.length:Int)-1-(i:Int)=-1:=by omega
  rw[e1]at hit;exact wpAny_pyNext_rev_end (I.ok.hd hc) hit λh' eb=>%[1|I.turned (t':=s.toks) (λb o hb e=>eb b o hb e) f0 f1 f3 f4 f5]
 self:=λ_ _ _ _ _ st h=>wpAny_pyIter_revIter st.2 h
theorem AR{K:W.Frag}{xs:List V}{g:TG}{tb:TS}{D:Ends}{σ:St}{H:Hp}(Pv:Nat->St->Hp->Prop)(h0:Pv 0 σ H)(hl:∀i σ H,i<=xs.length->Pv i σ H->SqL K H a xs)
 (hs:∀i x σ H,i<xs.length->xs.reverse[i]?=some x->Pv i σ H->g x σ H λσ2 H2=>tb { D with nx:=Pv (i+1),ct:=Pv (i+1),bk:=D.nx } σ2 H2) (hd:∀ σ H,Pv xs.length σ H->D.nx σ H) :
 ∃ W:Nat->Nat->St->Hp->Prop,(∃m,W 0 m σ H)/\∀i m σ H,W i m σ H ->
  ((ItV K a xs).stop i H/\D.nx σ H)∨((ItV K a xs).go i H/\∃N:St->Hp->Prop,(∀ σ' H',N σ' H'->∃m',m'<m/\W (i+1) m' σ' H')/\∀x H',(ItV K a xs).yld i H x H'->g x σ H' λσ2 H2=>tb { D with nx:=N,ct:=N,bk:=D.nx } σ2 H2):=by
 erw[λi m σ H=>m=xs.length-i/\i<=xs.length/\Pv i σ H,%[xs.length,by simp,zW0 _|h0],6];rintro i m σ H ⟨rfl,hi,p⟩;have q:=hl i σ H hi p
 by_cases hlt:i<xs.length
 . refine .inr %[%[q|hlt],Pv (i+1),λσ' H' p'=>%[xs.length-(i+1),3,1,hlt|p']|λx H' y=>?_];erw[e,ex]at y;subst e;exact hs i x σ _ hlt ex p
 . have e:i=xs.length:=by omega
   subst e;exact .inl %[zG0 _|hd σ H p]
theorem xT {X:Cx} (K:W.Frag) (h:X.K=K:=by rfl):MtR X "list.count" (rCountL K):=by subst h;exact ox
section
variable {X:Cx} {o e:Expr} {es:List Expr} {to ta:TE} {t:TA} {T id:String} {name f:Str} {r:V->List V->Hp->VK->Prop} {apos cpos pos:Pos}
theorem DM (K:W.Frag) (pa:PlainAttrs T) (slot:Slot T name id) (hty:typeOf (.builtin id)=pure (.type "method_descriptor")) (hm:MtR X id r) (ho:PE X o to) (ha:PA X (e::es) t) (hK:X.K=K:=by rfl)
 (hbase:attributeBase o name X.env (eval o X.env)=eval o X.env:=by rfl)
 (hfew:((backTo cpos (starEach (e::es) X.env)).all (λx=>!x.1)&&(backToKw cpos (keywordEach [] X.env)).all (λx=>x.1.isSome)&&decide ((e::es).length+([]:List Keyword).length+(if([]:List Keyword).isEmpty then 0 else 1)<30))=true:=by rfl)
 (hline:(apos.endLine==cpos.line)=true:=by rfl) (hs:starEach (e::es) X.env=(false,eval e X.env)::starEach es X.env:=by rfl) (hplain:(backTo cpos (starEach es X.env)).any (·.1)=false:=by rfl) :
 PE X (.Call (.Attribute o name apos) (e::es) [] cpos) (tBM K T r to t):=by subst hK;exact dq pa slot hty hm ho ha hbase hfew hline hs hplain
theorem mr(K:W.Frag)(he:PE X e ta)(hK:X.K=K:=by rfl)(hb:attributeBase e f X.env (eval e X.env)=eval e X.env:=by rfl):PE X (.Attribute e f pos) (tFld K ta f):=by subst hK;exact az he hb
end
@[reducible] def cxCompO (X:Cx) (x:Str) (N:List Str) (scope:Scope) (cl:List (Str×Addr)) (s:Shared) (H:Hp) (fp:List Addr):Cx where
 prog:=X.prog
 w:=X.w
 K:=X.K
 mg:=X.mg
 base:=X.base
 A:=X.A
 N:=x::N
 s₀:=s
 H₀:=H
 env:=compEnvC scope ((x,s.heap.objs.size+1)::cl) s.heap.objs.size X.env
 outer:=X.stack
 stack:=X.stack
 ex:=fp
 fn:=λy=>y==x
 calm:=X.calm
 pn:=[]
 xe:=λ_ _=>False
theorem CompScope.four{X:Cx}{x y z u v:Str}{scope:Scope}{k l m n:Nat}{c d e g:Addr}{cl:List (Str×Addr)}(c1:closureFor scope X.env=pure cl)(c2:∀y∈scope.names,y.2≠.cell)(c3:scope.kind=.function)(c4:∀y∈scope.names,y.2=.local->scope.names.lookup y.1=some .local)
 (c5:scope.names.lookup x=some .local) (nd:[x,y,z,u,v].Nodup) (hcl:cl=[(y,c),(z,d),(u,e),(v,g)]) (hc:X.env.cells.lookup y=some c) (hd:X.env.cells.lookup z=some d) (he:X.env.cells.lookup u=some e) (hg:X.env.cells.lookup v=some g) (c6:((relabel scope X.env).names.all λp=>!(p.2==.cell||p.2==.free)||(cl.lookup p.1).isSome)=true)
 (hr:(relabel scope X.env).names.lookup y=some .cell) (hk:X.N[k]?=some y) (hs:X.env.scope.names.lookup y=some .cell)
 (hr2:(relabel scope X.env).names.lookup z=some .cell) (hk2:X.N[l]?=some z) (hs2:X.env.scope.names.lookup z=some .cell)
 (hr3:(relabel scope X.env).names.lookup u=some .cell) (hk3:X.N[m]?=some u) (hs3:X.env.scope.names.lookup u=some .cell)
 (hr4:(relabel scope X.env).names.lookup v=some .cell) (hk4:X.N[n]?=some v) (hs4:X.env.scope.names.lookup v=some .cell):CompScope X x [y,z,u,v] [k,l,m,n] scope cl where
 clos:=c1
 nocell:=c2
 kind:=c3
 names:=c4
 own:=c5
 nd:=nd
 sub:=λp hp=>by
  subst hcl;rcases zV0 hp with h | h
  . rw[h];assumption
  . rcases zV0 h with h | h
    . rw[h];assumption
    . rcases zV0 h with h | h
      . rw[h];assumption
      . rw[zM0 h];assumption
 has:=c6
 outs:=λj w h=>by
  have nyz:y≠z:=λe=>by simp [e]at nd
  have nyu:y≠u:=λe=>by simp [e]at nd
  have nyv:y≠v:=λe=>by simp [e]at nd
  have nzu:z≠u:=λe=>by simp [e]at nd
  have nzv:z≠v:=λe=>by simp [e]at nd
  have nuv:u≠v:=λe=>by simp [e]at nd
  subst hcl
  match j,h with
  | 0,h=>
    have e:y=w:=zU0 h;subst e;erw[hr,k,c,1,hk,by simp [List.lookup],hs]
  | 1,h=>
    have e:z=w:=zU0 h;subst e
    have:(z==y)=false:=by simpa using Ne.symm nyz
    erw[hr2,l,d,1,hk2,by simp [List.lookup,this],hs2]
  | 2,h=>
    have ew:u=w:=zU0 h;subst ew;have h1:(u==y)=false:=by simpa using Ne.symm nyu
    have h2:(u==z)=false:=by simpa using Ne.symm nzu
    erw[hr3,m,e,1,hk3,by simp [List.lookup,h1,h2],hs3]
  | 3,h=>
    have ew:v=w:=zU0 h;subst ew;have h1:(v==y)=false:=by simpa using Ne.symm nyv
    have h2:(v==z)=false:=by simpa using Ne.symm nzv
    have h3:(v==u)=false:=by simpa using Ne.symm nuv
    erw[hr4,n,g,1,hk4,by simp [List.lookup,h1,h2,h3],hs4]
  | j+4,h=>simp at h
end L2
namespace L2
open PySem PySem.Spec PyProof.Rows PySem.Builtin PySem.Builtin.Str
section
variable {prog:Program} {w:World} {A:Around} {E:Value->Shared->Prop} {s:Shared} {Q:Value->Shared->Prop} {x:PySem.Str} {t:Tok}
theorem uo{y:PySem.Str}{u:Tok}(hy:(y.length==0)=false)
 (h:∀l k,l.map (·.1)=Txt.split x y->Q (.ref s.heap.objs.size) { s with heap:=s.heap.push { cls:=.type "list",data:=.seq (strValues l).toArray },toks:=k })
 (hsz:x.length+2<=sizeLine):wpAny (model prog w) A (call (.builtin "str.split") [.str x t,.str y u]) Q E s:=by
 have hn:(partsBetween x (occurrences x y 0 x.length (x.length+1)) y.length).length<=sizeLine:=by
  have e1:=StrLaws.occ_length_le x y 0 x.length (x.length+1);rw[length_partsBetween];omega
 cases h1:(decide (x.length<y.length)||decide (strKind x<strKind y))
 . cases hf:(occurrences x y 0 x.length (x.length+1)).isEmpty
   . refine call_meets F.slot_str_split (typeIs_str _ _ _) F.entry_str_split (F.args_str_split_2 _ _) (meets_str_split_sep x y t u h1 hy hf #[0] hn) ?_;show wants Q E _ { s with toks:=_,heap:=s.heap.push { cls:=.type "list",data:=.seq (strsFrom s.toks (partsBetween x (occurrences x y 0 x.length (x.length+1)) y.length)).toArray } };rw[strsFrom_eq];exact h (numbered s.toks _) _ ((numbered_texts _ _).trans ((zB0 (ne_true_of_eq_false h1)).trans (zB0 (ne_true_of_eq_false hf))).symm)
   . exact call_meets F.slot_str_split (typeIs_str _ _ _) F.entry_str_split (F.args_str_split_2 _ _) (meets_str_split_not_found x y t u h1 hy hf)
      (h [(x,t)] s.toks ((zB0 (ne_true_of_eq_false h1)).trans (zE0 hf)).symm)
 . exact call_meets F.slot_str_split (typeIs_str _ _ _) F.entry_str_split (F.args_str_split_2 _ _) (meets_str_split_cannot_occur x y t u h1)
    (h [(x,t)] s.toks (zE0 h1).symm)
end
theorem vQ:∀l:List (PySem.Str×Tok),Vals ((l.map (·.1)).map V.str) (strValues l)
 | []=>.nil
 | (x,t)::r=>.cons %[t|1] (vQ r)
section
variable {X:Cx}
inductive rSplit(x:V)(vs:List V)(H:Hp)(Q:VK):Prop
 |mk:∀z u,x=.str z->vs=[.str u]->0<u.length->z.length<=100000->(Txt.split z u).length<=100000->(∀p,H p=none->Q (.ref p) (upd H p (.lst ((Txt.split z u).map V.str))))->rSplit x vs H Q
theorem Av:MtR X "str.split" rSplit:=by
 intro pins s σ H x vs v us Q I rx rv h;erw[z,u,1,1,hu,hz,hl,q]at h;erw[t,1]at rx;erw[w',1,t',1]at rv.one;have sl:sizeLine=16777216:=sizeLine_eq;refine uo (by rw[beq_eq_false_iff_ne];omega) (λl k e=>?_) #[0];have r:=vQ l;rw[e]at r;erw[.ref _,_,I.lnew (t':=k) r (by rw[zH0];omega),1,q _ I.fresh]
theorem jL:gy X (.type "int") (λxs H Q=>∃x n,xs=[.str x]/\PySem.intText? x=some n/\x.length<=640/\Q (.int n) H):=by
 intro pins s σ H xs us Q I r h;erw[x,n,1,e,hl,q]at h;let%[u,1,t|1]:=jG r;exact PySem.W.KIN.call_text e hl %[.int n,H,I.tok _,%[|0]|q]
end
end L2
namespace L2
open PySem PySem.Spec PyProof.Rows
def SqIt(h:Heap)(i l:Addr)(k:Nat)(xs:Array Value):Prop:=(h.IsListIter i l k/\h.IsList l xs)∨(h.IsTupleIter i l k/\h.IsTuple l xs)
theorem SqIt.at{h':Heap}(q:SqIt h i l k xs)(e1:∀o,h.get? i=some o->h'.get? i=some o)(e2:∀o,h.get? l=some o->h'.get? l=some o):SqIt h' i l k xs:=by
 rcases q with⟨a,b⟩ | ⟨a,b⟩
 . exact .inl %[a.at e1|b.at e2]
 . exact .inr %[a.at e1|b.at e2]
theorem SqIt.ext{h':Heap}{c:Addr}(q:SqIt h i l k xs)(e:Heap.ExtBut c h h')(n1:i≠c)(n2:l≠c):SqIt h' i l k xs:=q.at (λo z=>e _ o n1 z) (λo z=>e _ o n2 z)
section
variable {prog:Program} {w:World} {A:Around} {E:Value->Shared->Prop} {s:Shared}
theorem jY{x:Value}{Q:Value->Shared->Prop}(q:SqIt s.heap i l k xs)(n:l≠i)(hx:xs[k]?=some x)
 (hQ:∀h',SqIt h' i l (k+1) xs->Heap.SameBut i s.heap h'->Q x { s with heap:=h' }):wpAny (model prog w) A (Builtin.SmallTypes.nextOf (.ref i)) Q E s:=by
 rcases q with⟨a,b⟩ | ⟨a,b⟩
 . exact wpAny_nextOf_list_item a b hx λh' a' e=>hQ h' (.inl %[a'|b.extBut e.extBut n]) e
 . exact vL a b hx λh' a' e=>hQ h' (.inr %[a'|b.extBut e.extBut n]) e
theorem uj{Q:Value->Shared->Prop}(hh:A.handled=none)(q:SqIt s.heap i l k xs)(hx:xs[k]?=none)
 (hE:∀h' e,Heap.ExtBut i s.heap h'->(∃o,h'.get? e=some o/\o.cls=.type "StopIteration")->E (.ref e) { s with heap:=h' }):wpAny (model prog w) A (Builtin.SmallTypes.nextOf (.ref i)) Q E s:=by
 rcases q with⟨a,b⟩ | ⟨a,b⟩
 . exact wpAny_nextOf_list_end hh a b hx hE
 . exact uf hh a b hx hE
theorem Bn{z TI TO i1 i2 l1 l2:Addr}{x y a b:Value}{Q:Option Value->Shared->Prop}(D:ZipApart z TI TO i1 i2 l1 l2)
 (hz:IsZip s.heap z TI TO .none) (hTI:IsPair s.heap TI (.ref i1) (.ref i2)) (hTO:IsPair s.heap TO a b) (h1:SqIt s.heap i1 l1 k1 xs) (h2:SqIt s.heap i2 l2 k2 ys) (hx:xs[k1]?=some x) (hy:ys[k2]?=some y)
 (hQ:∀h',IsZip h' z TI TO (rawInt s.heap.objs.size)->IsPair h' TO x y->SqIt h' i1 l1 (k1+1) xs->SqIt h' i2 l2 (k2+1) ys->IsPair h' s.heap.objs.size x y ->
  (∀c o,c≠z->c≠TO->c≠i1->c≠i2->s.heap.get? c=some o->h'.get? c=some o)->Q (some (.ref s.heap.objs.size)) { s with heap:=h' }) :
 wpAny (model prog w) A (pyNext (.ref z)) Q E s:=by
 have hT:s.TypeIs (.ref z) "zip":=%[_,hz|1]
 unfold pyNext;refine zA0 (wpAny_attempt (wpAny_callSpecial?_slot (name:=Str.ofString "__next__") hT F.slot_zip_next (wpAny_call_entry F.slot_zip_next hT F.entry_zip_next ?_ (F.args_zip_next_1 _))));show wpAny _ _ (field (.ref z) 2 >>= _) _ _ _;refine zA0 (wpAny_field hz rfl (x:=.bool false) rfl ?_);show wpAny _ _ (field (.ref z) 3 >>= _) _ _ _;refine zA0 (wpAny_field hz rfl (x:=.ref TI) rfl (zA0 (wpAny_seqItems hTI rfl ?_)));show wpAny _ _ (Builtin.SmallTypes.ownedTupleIsFree (.ref z) >>= _) _ _ _;refine zA0 ?_;unfold Builtin.SmallTypes.ownedTupleIsFree;refine zA0 (wpAny_field hz rfl (x:=.none) rfl (zI0 ?_));simp only[if_true];refine zA0 (wpAny_rule (zA0 (wpAny_field hz rfl (x:=.ref TO) rfl (zA0 (wpAny_setField_rec hz (by simp) λha za sa=>zA0 ?_)))))
 replace za:IsZip ha z TI TO .ellipsis:=za
 simp only[List.zipIdx_cons,List.zipIdx_nil,List.forIn_cons,List.forIn_nil];refine zA0 (zA0 (wpAny_onRaise ?_));show wpAny _ _ (Builtin.SmallTypes.nextOf (.ref i1) >>= _) _ _ _;refine zA0 (jY (h1.ext sa.extBut D.i1z D.l1z) D.l1i1 hx λhb q1 sb=>zI0 ?_);have TOb:IsPair hb TO a b:=sb.extBut _ _ D.TOi1 (sa.extBut _ _ D.TOz hTO);refine zA0 (wpAny_seqItems TOb rfl (zA0 (wpAny_updateSeq_pair TOb λhc TOc sc=>?_)))
 replace TOc:IsPair hc TO x b:=TOc
 refine zA0 (wpAny_letGo (zI0 (zA0 (zA0 (wpAny_onRaise ?_)))));show wpAny _ _ (Builtin.SmallTypes.nextOf (.ref i2) >>= _) _ _ _;refine zA0 (jY (((h2.ext sa.extBut D.i2z D.l2z).ext sb.extBut D.i12.symm D.l2i1).ext sc.extBut D.TOi2.symm D.l2TO) D.l2i2 hy λhd q2 sd=>zI0 ?_);have TOd:IsPair hd TO x b:=sd.extBut _ _ D.TOi2 TOc;refine zA0 (wpAny_seqItems TOd rfl (zA0 (wpAny_updateSeq_pair TOd λhe TOe se=>?_)))
 replace TOe:IsPair he TO x y:=TOe
 refine zA0 (wpAny_letGo (zI0 (zI0 (zA0 (wpAny_seqItems TOe rfl (zA0 (wpAny_newTuple ?_)))))));have sz:he.objs.size=s.heap.objs.size:=by rw[se.1,sd.1,sc.1,sb.1,sa.1]
 have ze:IsZip he z TI TO .ellipsis:=se.extBut _ _ D.TOz.symm (sd.extBut _ _ D.i2z.symm (sc.extBut _ _ D.TOz.symm (sb.extBut _ _ D.i1z.symm za)));have ke:∀c o,c≠z->c≠TO->c≠i1->c≠i2->s.heap.get? c=some o->he.get? c=some o:=λc o c1 c2 c3 c4 e=>se.extBut _ _ c2 (sd.extBut _ _ c4 (sc.extBut _ _ c2 (sb.extBut _ _ c3 (sa.extBut _ _ c1 e))))
 have q1e:=((q1.ext sc.extBut D.TOi1.symm D.l1TO).ext sd.extBut D.i12 D.l1i2).ext se.extBut D.TOi1.symm D.l1TO;have q2e:=q2.ext se.extBut D.TOi2.symm D.l2TO;have zlt:z<he.objs.size:=zL0 ze;show wpAny _ _ (Builtin.SmallTypes.ownedTupleHandOut (.ref z) (.ref he.objs.size) >>= _) _ _ _;refine zA0 ?_;unfold Builtin.SmallTypes.ownedTupleHandOut;have zf:IsZip (he.push { cls:=.type "tuple",data:=.seq #[x,y] }) z TI TO .ellipsis:=zP0 _ ze;refine zA0 (wpAny_setField_rec zf (by simp) λhg zg sg=>?_)
 replace zg:IsZip hg z TI TO (rawInt he.objs.size):=zg
 refine wpAny_setField_rec zg (by simp) λhi zi si=>?_
 replace zi:IsZip hi z TI TO (rawInt he.objs.size):=zi
 have up:∀c o,c≠z->he.get? c=some o->hi.get? c=some o:=λc o c1 e=>si.extBut _ _ c1 (sg.extBut _ _ c1 (zP0 _ e))
 have Ti:IsPair hi he.objs.size x y:=si.extBut _ _ (Nat.ne_of_gt zlt) (sg.extBut _ _ (Nat.ne_of_gt zlt) (zZ0 _ rfl));rw[sz]at zi Ti;refine zI0 %[0|zI0 ?_];show Q (some (.ref he.objs.size)) _;rw[sz];exact hQ hi zi (up _ _ D.TOz TOe) (q1e.at (λo e=>up _ o D.i1z e) (λo e=>up _ o D.l1z e)) (q2e.at (λo e=>up _ o D.i2z e) (λo e=>up _ o D.l2z e)) Ti λc o c1 c2 c3 c4 e=>up c o c1 (ke c o c1 c2 c3 c4 e)
theorem Dj{z TI TO i1 i2 l1 l2:Addr}{a b:Value}{Q:Option Value->Shared->Prop}(hh:A.handled=none)(D:ZipApart z TI TO i1 i2 l1 l2)
 (hz:IsZip s.heap z TI TO .none) (hTI:IsPair s.heap TI (.ref i1) (.ref i2)) (hTO:IsPair s.heap TO a b) (h1:SqIt s.heap i1 l1 k1 xs) (h2:SqIt s.heap i2 l2 k2 ys) (hend:xs[k1]?=none∨ys[k2]?=none)
 (hQ:∀h',(∀c o,c≠z->c≠TO->c≠i1->c≠i2->s.heap.get? c=some o->h'.get? c=some o)->Q none { s with heap:=h' }):wpAny (model prog w) A (pyNext (.ref z)) Q E s:=by
 have hT:s.TypeIs (.ref z) "zip":=%[_,hz|1]
 unfold pyNext;have hh1:A.in1.handled=none:=hh
 suffices hs:wpAny (model prog w) A.in1 (Builtin.«zip.__next__» %[[.ref z]|[]]) (λfin s'=>∃v,fin=.done (.ret v)/\False)
  (λv s'=>∃h' e,v=.ref e/\s'={ s with heap:=h' }/\(∀c o,c≠z->c≠TO->c≠i1->c≠i2->s.heap.get? c=some o->h'.get? c=some o)/\∃o,h'.get? e=some o/\o.cls=.type "StopIteration") s by
  refine zA0 (wpAny_attempt (wpAny_callSpecial?_slot (name:=Str.ofString "__next__") hT F.slot_zip_next (wpAny_call_entry F.slot_zip_next hT F.entry_zip_next (wpAny_mono hs (λ_ _ h=>by erw[_,_,f]at h;exact f.elim) ?_) (F.args_zip_next_1 _))));rintro _ _ ⟨h',e,rfl,rfl,hk,o,ho,hc⟩;exact zA0 (wpAny_isInstance (T:="StopIteration") (b:=true) %[o,ho|hc] isSubtype_stop (zI0 (hQ _ hk)))
 show wpAny _ _ (field (.ref z) 2 >>= _) _ _ _;refine zA0 (wpAny_field hz rfl (x:=.bool false) rfl ?_);show wpAny _ _ (field (.ref z) 3 >>= _) _ _ _;refine zA0 (wpAny_field hz rfl (x:=.ref TI) rfl (zA0 (wpAny_seqItems hTI rfl ?_)));show wpAny _ _ (Builtin.SmallTypes.ownedTupleIsFree (.ref z) >>= _) _ _ _;refine zA0 ?_;unfold Builtin.SmallTypes.ownedTupleIsFree;refine zA0 (wpAny_field hz rfl (x:=.none) rfl (zI0 ?_));simp only[if_true];refine zA0 (wpAny_rule (zA0 (wpAny_field hz rfl (x:=.ref TO) rfl (zA0 (wpAny_setField_rec hz (by simp) λha za sa=>zA0 ?_)))))
 replace za:IsZip ha z TI TO .ellipsis:=za
 simp only[List.zipIdx_cons,List.zipIdx_nil,List.forIn_cons,List.forIn_nil];refine zA0 (zA0 (wpAny_onRaise ?_));show wpAny _ _ (Builtin.SmallTypes.nextOf (.ref i1) >>= _) _ _ _;cases hx:xs[k1]? with
 | none=>
   refine zA0 (uj hh1 (h1.ext sa.extBut D.i1z D.l1z) hx λhb e sb ⟨oe,hoe,hce⟩=>?_);have zb:IsZip hb z TI TO .ellipsis:=sb _ _ D.i1z.symm za;have ez:e≠z:=λx=>by subst x;rw[zb]at hoe;cases hoe;simp at hce
   exact wpAny_setField_rec zb (by simp) λhc _ sc=>%[hc,e,1,1,λc o c1 _ c3 _ x=>sc.extBut _ _ c1 (sb _ _ c3 (sa.extBut _ _ c1 x)),oe,sc.extBut _ _ ez hoe|hce]
 | some x=>
   have hy:ys[k2]?=none:=by
    rcases hend with h | h
    . rw[hx]at h;cases h
    . exact h
   refine zA0 (jY (h1.ext sa.extBut D.i1z D.l1z) D.l1i1 hx λhb q1 sb=>zI0 ?_);have TOb:IsPair hb TO a b:=sb.extBut _ _ D.TOi1 (sa.extBut _ _ D.TOz hTO);refine zA0 (wpAny_seqItems TOb rfl (zA0 (wpAny_updateSeq_pair TOb λhc TOc sc=>?_)));refine zA0 (wpAny_letGo (zI0 (zA0 (zA0 (wpAny_onRaise ?_)))));show wpAny _ _ (Builtin.SmallTypes.nextOf (.ref i2) >>= _) _ _ _;refine zA0 (uj hh1 (((h2.ext sa.extBut D.i2z D.l2z).ext sb.extBut D.i12.symm D.l2i1).ext sc.extBut D.TOi2.symm D.l2TO) hy λhd e sd ⟨oe,hoe,hce⟩=>?_);have zd:IsZip hd z TI TO .ellipsis:=sd _ _ D.i2z.symm (sc.extBut _ _ D.TOz.symm (sb.extBut _ _ D.i1z.symm za));have ez:e≠z:=λx=>by subst x;rw[zd]at hoe;cases hoe;simp at hce
   exact wpAny_setField_rec zd (by simp) λhe _ se=>%[he,e,1,1,λc o c1 c2 c3 c4 x=>se.extBut _ _ c1 (sd _ _ c4 (sc.extBut _ _ c2 (sb.extBut _ _ c3 (sa.extBut _ _ c1 x)))),oe,se.extBut _ _ ez hoe|hce]
end
def itO (b:Bool) (l:Addr):Obj:={ cls:=.type (if b=true then "list_iterator" else "tuple_iterator"),data:=.fields #[.ref l,.int 0 0] }
def SqO(b:Bool)(h:Heap)(l:Addr)(xs:Array Value):Prop:=if b=true then h.IsList l xs else h.IsTuple l xs
abbrev zqH (h:Heap) (b1 b2:Bool) (l1 l2:Addr):Heap:=((((h.push (itO b1 l1)).push (itO b2 l2)).push { cls:=.type "tuple",data:=.seq #[.ref h.objs.size,.ref (h.push (itO b1 l1)).objs.size] }).push { cls:=.type "tuple",data:=.seq #[.none,.none] }).push
 { cls:=.type "zip",data:=.fields #[.none,.bool false,.bool false,.ref ((h.push (itO b1 l1)).push (itO b2 l2)).objs.size,.ref (((h.push (itO b1 l1)).push (itO b2 l2)).push { cls:=.type "tuple",data:=.seq #[.ref h.objs.size,.ref (h.push (itO b1 l1)).objs.size] }).objs.size] }
abbrev zqA (h:Heap) (b1 b2:Bool) (l1 l2:Addr):Addr:=((((h.push (itO b1 l1)).push (itO b2 l2)).push { cls:=.type "tuple",data:=.seq #[.ref h.objs.size,.ref (h.push (itO b1 l1)).objs.size] }).push { cls:=.type "tuple",data:=.seq #[.none,.none] }).objs.size
theorem zc(q:SqO b h l xs)(o:Obj):SqO b (h.push o) l xs:=by
 cases b
 . exact Heap.IsTuple.at q λo' e=>zP0 _ e
 . exact Heap.IsList.push q _
theorem rX{prog:Program}{w:World}{A:Around}{E:Value->Shared->Prop}{s:Shared}{Q:Value->Shared->Prop}(q:SqO b s.heap l xs)(hQ:Q (.ref s.heap.objs.size) { s with heap:=s.heap.push (itO b l) }) :
 wpAny (model prog w) A (pyIter (.ref l)) Q E s:=by
 cases b
 . exact wpAny_pyIter_tuple (t:=l) (items:=xs) q hQ
 . exact wpAny_pyIter_list (l:=l) (items:=xs) q hQ
set_option maxHeartbeats 1000000 in
theorem Aw(b1 b2:Bool)(l1 l2:Addr)(xs ys:Array Value) :
 Meets (Builtin.«zip.__new__» %[[.type "zip",.ref l1,.ref l2]|[]]) (λ_ R s=>SqO b1 s.heap l1 xs/\SqO b2 s.heap l2 ys/\
  R (.ok (.ret (.ref (zqA s.heap b1 b2 l1 l2)))) { s with heap:=zqH s.heap b1 b2 l1 l2 }):=
 .of_wp λprog w A R s h=>by
  erw[hp,g,d,tk,os]at s;erw[hl1,hl2,h]at h;have hsub:=sub_zip;have hL1:SqO b1 (Shared.heap %[hp,g,d,tk|os]) l1 xs:=hl1;have hL2:SqO b2 (Shared.heap ⟨hp.push (itO b1 l1),g,d,tk,os⟩) l2 ys:=zc hl2 _
  wp_walk using rX hL1,rX hL2
  erw[0,h]
section
variable {prog:Program} {w:World} {A:Around} {E:Value->Shared->Prop} {s:Shared}
theorem AE{h':Heap}{n:Addr}(e:h'.get? n=some (itO b l))(q:SqO b h l xs)(k:∀o,h.get? l=some o->h'.get? l=some o):SqIt h' n l 0 xs:=by
 cases b
 . exact .inr %[%[_,e,1|1]|Heap.IsTuple.at q k]
 . exact .inl %[%[_,e,1|1]|Heap.IsList.at q k]
theorem CB{Q:Value->Shared->Prop}(hl1:SqO b1 s.heap l1 xs)(hl2:SqO b2 s.heap l2 ys)
 (h:∀h',IsZip h' (s.heap.objs.size+4) (s.heap.objs.size+2) (s.heap.objs.size+3) .none->IsPair h' (s.heap.objs.size+2) (.ref s.heap.objs.size) (.ref (s.heap.objs.size+1)) ->
  IsPair h' (s.heap.objs.size+3) .none .none->SqIt h' s.heap.objs.size l1 0 xs->SqIt h' (s.heap.objs.size+1) l2 0 ys ->
  (∀c o,s.heap.get? c=some o->h'.get? c=some o)->Q (.ref (s.heap.objs.size+4)) { s with heap:=h' }) :
 wpAny (model prog w) A (call (.type "zip") [.ref l1,.ref l2]) Q E s:=by
 refine callType_new F.called_zip ⋯ (F.typeCall_zip_2 _ _) (F.newCall_zip_2 _ _) (λobj=>F.args_object_init_3 obj _ _) F.entry_zip_new (Aw b1 b2 l1 l2 xs ys) %[hl1,hl2|6];have z1:∀(h:Heap)(o:Obj),(h.push o).objs.size=h.objs.size+1:=λh o=>Heap.size_push ..
 have up:∀(h:Heap)(o:Obj)(c:Addr)(u:Obj),h.get? c=some u->(h.push o).get? c=some u:=λh o c u e=>zP0 _ e
 have top:∀(h:Heap)(o:Obj)(n:Nat),o.isFreed=false->h.objs.size=n->(h.push o).get? n=some o:=λh o n f e=>by rw[←e];exact zZ0 _ f
 have f1:∀b l,(itO b l).isFreed=false:=λ_ _=>rfl
 show _/\_;have g1:(zqH s.heap b1 b2 l1 l2).get? s.heap.objs.size=some (itO b1 l1):=up _ _ _ _ (up _ _ _ _ (up _ _ _ _ (up _ _ _ _ (top _ _ _ (f1 _ _) rfl))));have g2:(zqH s.heap b1 b2 l1 l2).get? (s.heap.objs.size+1)=some (itO b2 l2):=up _ _ _ _ (up _ _ _ _ (up _ _ _ _ (top _ _ _ (f1 _ _) (z1 _ _))));have g3:IsPair (zqH s.heap b1 b2 l1 l2) (s.heap.objs.size+2) (.ref s.heap.objs.size) (.ref (s.heap.objs.size+1)):=by
  have:=up _ { cls:=.type "zip",data:=.fields #[.none,.bool false,.bool false,.ref ((s.heap.push (itO b1 l1)).push (itO b2 l2)).objs.size,.ref (((s.heap.push (itO b1 l1)).push (itO b2 l2)).push { cls:=.type "tuple",data:=.seq #[.ref s.heap.objs.size,.ref (s.heap.push (itO b1 l1)).objs.size] }).objs.size] } _ _ (up _ { cls:=.type "tuple",data:=.seq #[.none,.none] } _ _ (top ((s.heap.push (itO b1 l1)).push (itO b2 l2)) { cls:=.type "tuple",data:=.seq #[.ref s.heap.objs.size,.ref (s.heap.push (itO b1 l1)).objs.size] } (s.heap.objs.size+2) rfl (by rw[z1,z1])))
  exact this.trans (by rw[z1])
 have g4:IsPair (zqH s.heap b1 b2 l1 l2) (s.heap.objs.size+3) .none .none:=up _ _ _ _ (top _ _ _ rfl (by rw[z1,z1,z1]));have g5:IsZip (zqH s.heap b1 b2 l1 l2) (s.heap.objs.size+4) (s.heap.objs.size+2) (s.heap.objs.size+3) .none:=by
  have:=top ((((s.heap.push (itO b1 l1)).push (itO b2 l2)).push { cls:=.type "tuple",data:=.seq #[.ref s.heap.objs.size,.ref (s.heap.push (itO b1 l1)).objs.size] }).push { cls:=.type "tuple",data:=.seq #[.none,.none] })
   { cls:=.type "zip",data:=.fields #[.none,.bool false,.bool false,.ref ((s.heap.push (itO b1 l1)).push (itO b2 l2)).objs.size,.ref (((s.heap.push (itO b1 l1)).push (itO b2 l2)).push { cls:=.type "tuple",data:=.seq #[.ref s.heap.objs.size,.ref (s.heap.push (itO b1 l1)).objs.size] }).objs.size] } (s.heap.objs.size+4) rfl (by rw[z1,z1,z1,z1])
  exact this.trans (by simp only[z1])
 have ea:zqA s.heap b1 b2 l1 l2=s.heap.objs.size+4:=by simp only[zqA,z1]
 have keep:∀c o,s.heap.get? c=some o->(zqH s.heap b1 b2 l1 l2).get? c=some o:=λc o e=>up _ _ _ _ (up _ _ _ _ (up _ _ _ _ (up _ _ _ _ (up _ _ _ _ e))))
 rw[ea];erw[%[_,g5|1],h _ g5 g3 g4 (AE g1 hl1 (keep _)) (AE g2 hl2 (keep _)) keep]
end
def SqB(K:W.Frag)(b:Bool)(H:Hp)(a:Addr)(xs:List V):Prop:=if b=true then SqL K H a xs else SqT K H a xs
theorem SqB.at{σ:St}(I:Inv X pins σ H s)(q:SqB X.K b H a xs):∃its,Vals xs its/\SqO b s.heap a its.toArray/\a<s.heap.objs.size:=by
 cases b
 . let%[its,rv,p|_]:=I.tuple q;erw[its,rv,p,p.lt]
 . let%[its,rv,p|_]:=I.list q;erw[its,rv,p.isList,p.lt]
theorem zipAp{n l1 l2:Nat}(h1:l1<n)(h2:l2<n):ZipApart (n+4) (n+2) (n+3) n (n+1) l1 l2:=by
 constructor <;> exact λy=>by
  have y':(_:Nat)=_:=y;omega
section
variable {X:Cx} {elts:List Expr} {k:Nat} {tpos:Pos}
theorem yB:bootBuiltins ("zip":Str)=some (.type "zip"):=by decide
theorem yD{h h':Heap}(keep:∀e o,h.get? e=some o->h'.get? e=some o)(o:SqO c h l its')(q:SqIt h' n l 0 its) :
 ∃o,h'.get? n=some o/\o.cls=.type (if c=true then "list_iterator" else "tuple_iterator")/\o.data=.fields #[.ref l,.int ((0:Nat):Int) 0]:=by
 cases c
 . rcases q with⟨_,⟨o1,e1,c1,_⟩⟩ | ⟨q,_⟩
   . let%[o2,e2,c2|_]:=(show h'.IsTuple l its' from Heap.IsTuple.at o λob e=>keep _ _ e)
     rw[e1]at e2;cases e2;rw[c1]at c2;exact absurd (Value.type.inj c2) ⋯
   . exact q
 . rcases q with⟨q,_⟩ | ⟨_,⟨o1,e1,c1,_⟩⟩
   . exact q
   . let%[o2,e2,c2|_]:=(show h'.IsList l its' from Heap.IsList.at o λob e=>keep _ _ e)
     rw[e1]at e2;cases e2;rw[c1]at c2;exact absurd (Value.type.inj c2) ⋯
end
theorem iJ:entryFor table "dict.update.loop"=some Builtin.«dict.update.loop»:=entryFor_of_tree (by kernel_rfl)
theorem dy:plainId "dict.update.loop"=true:=by decide
theorem rh:typeLookup (.type "list") "keys"=pure none:=by rw[typeLookup_type,builtinLookup_eq_fast];kernel_rfl
section
variable {prog:Program} {w:World} {A:Around} {E:Value->Shared->Prop} {s:Shared}
theorem DV{a:Addr}{xs:Array Value}{Q:Option Value->Shared->Prop}(p:PlainL s.heap a xs)(hA:A.handled=none)
 (h:∀h' tk,(∀b o,s.heap.get? b=some o->h'.get? b=some o)->Q none { s with heap:=h',toks:=tk }):wpAny (model prog w) A (getAttr? (.ref a) "keys") Q E s:=by
 erw[%[c,dct,dat|sl],k,hx,hc,hd,hdat]at p;simp only at hc hdat hd;subst hc hdat hd;erw[hp,g,d,tk,os]at s;have hT:∀tk',(%[hp,g,d,tk'|os]:Shared).TypeIs (.ref a) "list":=λ_=>%[_,hx|1]
 have f1:=sub_AttributeError;have f3:=F.slot_list_getattribute.lookup;have f4:=F.slot_list_getattribute.bind (.ref a);have f5:=am_list_getattr_none;unfold getAttr? getAttrBy? getAttrBy
 repeat (any_goals (first | assumption | exact hT _ | ((with_reducible show wpAny _ _ (call (Value.builtin "list.__getattribute__") _ _) _ _ _);refine call_meets F.slot_list_getattribute (hT _) am_entry_list_getattribute (F.args_list_getattribute_2 _ _) (meets_getattribute_miss_list a xs k sl "keys" _ rh ⋯ ⋯) ⟨hx,hA,λh' tk' e hx'=>?_⟩) | wp_step))
 erw[t',u',he]at hx'.there;show wpAny _ _ (getattributeRaised _ _ _ _ _ _ _) _ _ _;unfold getattributeRaised
 repeat (any_goals (first | assumption | wp_step))
 exact h _ _ hx'.keeps
end
section
variable {X:Cx}
def eT(z u:Str)(i:Int):Bool:=decide (PySem.fromIndex z.length i+u.length<=z.length)&&Builtin.Str.subAt z u (PySem.fromIndex z.length i)
inductive rStartsAt(x:V)(vs:List V)(H:Hp)(Q:VK):Prop
 |mk:∀z u i,x=.str z->vs=[.str u,.int i]->Q (.bl (eT z u i)) H->rStartsAt x vs H Q
theorem sM:MtR X "str.startswith" rStartsAt:=by
 intro pins s σ H x vs v us Q I rx rv h;erw[z,u,i,1,1,q]at h;erw[t,1]at rx;cases rv with
 | cons r1 rv1=>
   cases rv1 with
   | cons r2 rv2=>
     cases rv2;erw[t1,1]at r1;erw[t2,1]at r2;exact call_gives F.slot_str_startswith (typeIs_str _ _ _) F.entry_str_startswith (F.args_str_startswith_3 _ _ _) (gives_str_startswith_from z u i t t1 t2) %[.bl _,H,I,1|q]
end
theorem tT:typeLookup (.type "zip") "__len__"=pure none:=by rw[typeLookup_type,builtinLookup_eq_fast];kernel_rfl
theorem rN:typeLookup (.type "zip") "__length_hint__"=pure none:=by rw[typeLookup_type,builtinLookup_eq_fast];kernel_rfl
abbrev jr(h:Heap)(z TI TO:Addr)(f0:Value)(b:Bool):Prop:=
 h.get? z=some { cls:=.type "zip",dict:=none,data:=.fields #[f0,.bool b,.bool false,.ref TI,.ref TO],slots:=#[] }
section
variable {prog:Program} {w:World} {A:Around} {E:Value->Shared->Prop} {s:Shared}
theorem rO{a:Addr}{Q:Option Obj->Shared->Prop}(h:Q (s.heap.get? a) s):wpAny (model prog w) A (loadIfAlive a) Q E s:=λΓ p _=>by
 unfold loadIfAlive;rw[Sem.wp_loadIfAlive];exact h
theorem mB{TI TO t:Addr}{ob:Obj}{Q:Bool->Shared->Prop}(hz:jr s.heap z TI TO (rawInt t) b)(ht:s.heap.get? t=some ob)
 (hQ:∀h',jr h' z TI TO (rawInt t) true->Heap.SameBut z s.heap h'->Q false { s with heap:=h' }):wpAny (model prog w) A (Builtin.SmallTypes.ownedTupleIsFree (.ref z)) Q E s:=by
 unfold Builtin.SmallTypes.ownedTupleIsFree;refine zA0 (wpAny_field hz rfl (x:=rawInt t) rfl ?_);show wpAny _ _ (loadIfAlive (Int.toNat (t:Int)) >>= _) _ _ _;rw[qQ0];refine zA0 (rO ?_);rw[ht];simp only[Option.isNone_some,Bool.false_eq_true,if_false];refine zA0 (wpAny_field hz rfl (x:=.bool b) rfl ?_);cases b with
 | true=>
   rw[zB0 ⋯];exact zI0 (hQ s.heap hz (Heap.SameBut.refl _ _))
 | false=>
   rw[zE0 ⋯];refine zA0 (wpAny_setField_rec hz (by simp) λha za sa=>zI0 ?_);exact hQ ha za sa
theorem Bo{z TI TO i1 i2 l1 l2 t:Addr}{x y:Value}{ob:Obj}{Q:Option Value->Shared->Prop}(D:ZipApart z TI TO i1 i2 l1 l2)
 (hz:jr s.heap z TI TO (rawInt t) b) (ht:s.heap.get? t=some ob) (hTI:IsPair s.heap TI (.ref i1) (.ref i2)) (h1:SqIt s.heap i1 l1 k1 xs) (h2:SqIt s.heap i2 l2 k2 ys) (hx:xs[k1]?=some x) (hy:ys[k2]?=some y)
 (hQ:∀h',jr h' z TI TO (rawInt t) true->SqIt h' i1 l1 (k1+1) xs->SqIt h' i2 l2 (k2+1) ys->IsPair h' s.heap.objs.size x y ->
  (∀c o,c≠z->c≠i1->c≠i2->s.heap.get? c=some o->h'.get? c=some o)->Q (some (.ref s.heap.objs.size)) { s with heap:=h' }) :
 wpAny (model prog w) A (pyNext (.ref z)) Q E s:=by
 have hT:s.TypeIs (.ref z) "zip":=%[_,hz|1]
 unfold pyNext;refine zA0 (wpAny_attempt (wpAny_callSpecial?_slot (name:=Str.ofString "__next__") hT F.slot_zip_next (wpAny_call_entry F.slot_zip_next hT F.entry_zip_next ?_ (F.args_zip_next_1 _))));show wpAny _ _ (field (.ref z) 2 >>= _) _ _ _;refine zA0 (wpAny_field hz rfl (x:=.bool false) rfl ?_);show wpAny _ _ (field (.ref z) 3 >>= _) _ _ _;refine zA0 (wpAny_field hz rfl (x:=.ref TI) rfl (zA0 (wpAny_seqItems hTI rfl ?_)));show wpAny _ _ (Builtin.SmallTypes.ownedTupleIsFree (.ref z) >>= _) _ _ _;refine zA0 (mB hz ht λha za sa=>?_);simp only[Bool.false_eq_true,if_false];refine zA0 ?_;rw[←Array.forIn_toList];simp only[List.forIn_cons,List.forIn_nil];refine zA0 (zA0 (wpAny_holding ?_));show wpAny _ _ (Builtin.SmallTypes.nextOf (.ref i1) >>= _) _ _ _;refine zA0 (jY (h1.ext sa.extBut D.i1z D.l1z) D.l1i1 hx λhb q1 sb=>zI0 ?_);refine zI0 (zA0 (zA0 (wpAny_holding ?_)));show wpAny _ _ (Builtin.SmallTypes.nextOf (.ref i2) >>= _) _ _ _;refine zA0 (jY ((h2.ext sa.extBut D.i2z D.l2z).ext sb.extBut D.i12.symm D.l2i1) D.l2i2 hy λhd q2 sd=>zI0 ?_);refine zI0 (zI0 (zA0 (wpAny_newTuple (hsz:=by show 2<=sizeLine;decide) ?_)));have sz:hd.objs.size=s.heap.objs.size:=by rw[sd.1,sb.1,sa.1]
 have zd:jr hd z TI TO (rawInt t) true:=sd.extBut _ _ D.i2z.symm (sb.extBut _ _ D.i1z.symm za);have q1d:=q1.ext sd.extBut D.i12 D.l1i2;have up:∀c o,hd.get? c=some o->(hd.push { cls:=.type "tuple",data:=.seq #[x,y] }).get? c=some o:=λc o e=>zP0 _ e
 refine zI0 %[0|zI0 ?_];show Q (some (.ref hd.objs.size)) _;rw[sz];refine hQ _ (up _ _ zd) (q1d.at (λo e=>up _ o e) (λo e=>up _ o e)) (q2.at (λo e=>up _ o e) (λo e=>up _ o e)) ?_ λc o c1 c2 c3 e=>up _ _ (sd.extBut _ _ c3 (sb.extBut _ _ c2 (sa.extBut _ _ c1 e)))
 rw[←sz];exact zZ0 _ rfl
theorem Dk{z TI TO i1 i2 l1 l2 t:Addr}{ob:Obj}{Q:Option Value->Shared->Prop}(hh:A.handled=none)(D:ZipApart z TI TO i1 i2 l1 l2)
 (hz:jr s.heap z TI TO (rawInt t) b) (ht:s.heap.get? t=some ob) (hTI:IsPair s.heap TI (.ref i1) (.ref i2)) (h1:SqIt s.heap i1 l1 k1 xs) (hx:xs[k1]?=none)
 (hQ:∀h',(∀c o,c≠z->c≠i1->c≠i2->s.heap.get? c=some o->h'.get? c=some o)->Q none { s with heap:=h' }):wpAny (model prog w) A (pyNext (.ref z)) Q E s:=by
 have hT:s.TypeIs (.ref z) "zip":=%[_,hz|1]
 unfold pyNext;have hh1:A.in1.handled=none:=hh
 suffices hs:wpAny (model prog w) A.in1 (Builtin.«zip.__next__» %[[.ref z]|[]]) (λfin s'=>∃v,fin=.done (.ret v)/\False)
  (λv s'=>∃h' e,v=.ref e/\s'={ s with heap:=h' }/\(∀c o,c≠z->c≠i1->c≠i2->s.heap.get? c=some o->h'.get? c=some o)/\∃o,h'.get? e=some o/\o.cls=.type "StopIteration") s by
  refine zA0 (wpAny_attempt (wpAny_callSpecial?_slot (name:=Str.ofString "__next__") hT F.slot_zip_next (wpAny_call_entry F.slot_zip_next hT F.entry_zip_next (wpAny_mono hs (λ_ _ h=>by erw[_,_,f]at h;exact f.elim) ?_) (F.args_zip_next_1 _))));rintro _ _ ⟨h',e,rfl,rfl,hk,o,ho,hc⟩;exact zA0 (wpAny_isInstance (T:="StopIteration") (b:=true) %[o,ho|hc] isSubtype_stop (zI0 (hQ _ hk)))
 show wpAny _ _ (field (.ref z) 2 >>= _) _ _ _;refine zA0 (wpAny_field hz rfl (x:=.bool false) rfl ?_);show wpAny _ _ (field (.ref z) 3 >>= _) _ _ _;refine zA0 (wpAny_field hz rfl (x:=.ref TI) rfl (zA0 (wpAny_seqItems hTI rfl ?_)));show wpAny _ _ (Builtin.SmallTypes.ownedTupleIsFree (.ref z) >>= _) _ _ _;refine zA0 (mB hz ht λha za sa=>?_);simp only[Bool.false_eq_true,if_false];refine zA0 ?_;rw[←Array.forIn_toList];simp only[List.forIn_cons,List.forIn_nil];refine zA0 (zA0 (wpAny_holding ?_));show wpAny _ _ (Builtin.SmallTypes.nextOf (.ref i1) >>= _) _ _ _;refine zA0 (uj hh1 (h1.ext sa.extBut D.i1z D.l1z) hx λhb e sb hoe=>?_);erw[hb,e,1,1,λc o c1 c3 _ x=>sb _ _ c3 (sa.extBut _ _ c1 x),hoe]
end
theorem Same.seqB{K:W.Frag}(e:Same H H')(h:SqB K c H a xs):SqB K c H' a xs:=by
 cases c
 . rcases(show SqT K H a xs from h)with(h | ⟨o,h⟩) | h
   . exact .inl (.inl (e _ _ h))
   . exact .inl (.inr %[o|e _ _ h])
   . exact .inr h
 . exact Same.seq e (show SqL K H a xs from h)
def ItK (c:Bool) (h:Heap) (i1 a:Addr) (k:Nat):Prop:=∃o,h.get? i1=some o/\o.cls=.type (if c=true then "list_iterator" else "tuple_iterator")/\o.data=.fields #[.ref a,.int k 0]
theorem Dd(o:SqO c h a its')(q:SqIt h i1 a k its):ItK c h i1 a k:=by
 cases c
 . rcases q with⟨_,⟨o1,e1,c1,_⟩⟩ | ⟨q,_⟩
   . let%[o2,e2,c2|_]:=(show h.IsTuple a its' from o)
     rw[e1]at e2;cases e2;rw[c1]at c2;exact absurd (Value.type.inj c2) ⋯
   . exact q
 . rcases q with⟨q,_⟩ | ⟨_,⟨o1,e1,c1,_⟩⟩
   . exact q
   . let%[o2,e2,c2|_]:=(show h.IsList a its' from o)
     rw[e1]at e2;cases e2;rw[c1]at c2;exact absurd (Value.type.inj c2) ⋯
theorem wx(o:SqO c h a its)(q:ItK c h i1 a k):SqIt h i1 a k its:=by
 cases c
 . exact .inr %[q|o]
 . exact .inl %[q|o]
theorem ItK.at{h':Heap}(q:ItK c h i1 a k)(e:∀o,h.get? i1=some o->h'.get? i1=some o):ItK c h' i1 a k:=by
 erw[o,h1,h2,h3]at q;erw[o,e o h1,h2,h3]
def ZSt(c d:Bool)(a b z TI TO i1 i2:Addr)(cs:List Addr)(i:Nat)(h:Heap):Prop:=
 ((i=0/\IsZip h z TI TO .none)∨∃(t:Addr)(f:Bool),cs[0]?=some t/\jr h z TI TO (rawInt t) f)/\IsPair h TI (.ref i1) (.ref i2)/\(∃p q,IsPair h TO p q)/\ItK c h i1 a i/\ItK d h i2 b i
def kQ(H:Hp)(cs:List Addr)(xs ys:List V):Prop:=∀(j:Nat)(t:Addr)(x y:V),cs[j]?=some t->xs[j]?=some x->ys[j]?=some y->H t=some (.tup [x,y])
section
variable {X:Cx} {pins:List (Addr×Obj)} {σ:St}
theorem Ci(hc:X.calm=true){a b z TI TO i1 i2 S:Addr}{xs ys:List V}{A:Around}{R:Result->Shared->Prop}{res:Value}(hh:A.handled=none)(D:ZipApart z TI TO i1 i2 a b)(hxy:xs.length=ys.length)(hn:xs.length<=sizeLine)
 (q1:SqB X.K c H0 a xs) (q2:SqB X.K d H0 b ys) (hS0:H0 S=none) (hSz:S∉[z,TI,TO,i1,i2]) :
 ∀(k i:Nat)(s:Shared)(H:Hp)(cs:List Addr),xs.length-i=k->i<=xs.length->Inv X pins σ H s->(∀e∈[z,TI,TO,i1,i2],jt X pins H e)->ZSt c d a b z TI TO i1 i2 cs i s.heap->H S=some (.lst (cs.map V.ref))->cs.length=i->kQ H cs xs ys->(∀t∈cs,H0 t=none/\t≠S)->Same H0 H ->
  (∀s' H' cs',Inv X pins σ H' s'->H' S=some (.lst (cs'.map V.ref))->cs'.length=xs.length->kQ H' cs' xs ys->(∀t∈cs',H0 t=none/\t≠S)->Same H0 H'->R (.ok (.ret res)) s') ->
  codeAny (model X.prog X.w) A (.builtin "list.extend.loop" %[[.ref S,.ref z,res]|[]]) R s:=by
 intro k
 induction k with
 | zero=>
   intro i s H cs hk hi I hf st hS cl pa fr sm hR;have hin:i=xs.length:=by omega
   refine codeAny_builtin F.entry_extend_loop ?_;rw[Around.under_plainId F.plain_extend_loop _];show wpAny _ A.in1 (pyNext (.ref z) >>= _) _ _ s;have hq1:=sm.seqB q1;have hq2:=sm.seqB q2;let%[its1,rv1,s1|_]:=SqB.at I hq1;let%[its2,rv2,s2|_]:=SqB.at I hq2;erw[hz,hTI,%[p,q|hTO],it1,it2]at st;have l1:=rv1.length;have S1:=wx s1 it1;have S2:=wx s2 it2;have hx:its1.toArray[i]?=none:=Array.getElem?_eq_none (by simp;omega);have fin:∀h',(∀e o,e≠z->e≠TO->e≠i1->e≠i2->s.heap.get? e=some o->h'.get? e=some o)->R (.ok (.ret res)) { s with heap:=h' }:=λh' kp=>by
    have I2:Inv X pins σ H { s with heap:=h' }:=I.turnedL (t':=s.toks) (ch:=[z,TI,TO,i1,i2]) (λe o he eo=>kp e o (λy=>he (by simp [y])) (λy=>he (by simp [y])) (λy=>he (by simp [y])) (λy=>he (by simp [y])) eo) hf;exact hR _ H cs I2 hS #[0] pa fr sm
   rcases hz with⟨_,hz⟩ | ⟨t,f,ht,hz⟩
   . exact zA0 (Dj (A:=A.in1) hh D hz hTI hTO S1 S2 (.inl hx) λh' kp=>zI0 (fin h' kp))
   . have hlt:=(zX0 ht).1;have ht':H t=some (.tup [xs[0]'#[0],ys[0]'#[0]]):=pa 0 t _ _ ht (zN0 _) (zN0 _);let%[_,_,_,_,ob,eo|_]:=I.hok t _ ht';exact zA0 (Dk (A:=A.in1) hh D hz eo hTI S1 hx λh' kp=>zI0 (fin h' λe o n1 n2 n3 n4 q=>kp e o n1 n3 n4 q))
 | succ k ih=>
   intro i s H cs hk hi I hf st hS cl pa fr sm hR;have hlt:i<xs.length:=by omega
   refine codeAny_builtin F.entry_extend_loop ?_;rw[Around.under_plainId F.plain_extend_loop _];show wpAny _ A.in1 (pyNext (.ref z) >>= _) _ _ s;have hq1:=sm.seqB q1;have hq2:=sm.seqB q2;let%[its1,rv1,s1|_]:=SqB.at I hq1;let%[its2,rv2,s2|_]:=SqB.at I hq2;have hx:xs[i]?=some xs[i]:=zN0 hlt;have hy:ys[i]?=some (ys[i]'#[0]):=zN0 _;let%[u,hu|ru]:=rv1.get hx;let%[v,hv|rv]:=rv2.get hy;erw[hz,hTI,%[p,q|hTO],it1,it2]at st;have S1:=wx s1 it1;have S2:=wx s2 it2;have zlt:z<s.heap.objs.size:=by rcases hz with⟨_,hz⟩ | ⟨_,_,_,hz⟩ <;> exact zL0 hz
   have flt:∀e∈[z,TI,TO,i1,i2],e<s.heap.objs.size:=λe he=>by
    simp only[List.mem_cons,List.not_mem_nil,or_false]at he;rcases he with rfl | rfl | rfl | rfl | rfl
    . exact zlt
    . exact zL0 hTI
    . exact zL0 hTO
    . erw[_,e,_]at it1;exact zL0 e
    . erw[_,e,_]at it2;exact zL0 e
   have hT:H s.heap.objs.size=none:=I.hok.fresh (zG0 _);have nS:s.heap.objs.size≠S:=λe=>by rw[e,hS]at hT;cases hT
   have nin:s.heap.objs.size∉cs:=λhm=>by
    let%[j,hj|ej]:=List.getElem_of_mem hm;have hj':j<xs.length:=by omega
    have:=pa j _ _ _ (zN0 hj) (zN0 hj') (zN0 #[0])
    rw[ej,hT]at this;cases this
   have step:∀h',((∃(t:Addr)(f:Bool),(cs++[s.heap.objs.size])[0]?=some t/\jr h' z TI TO (rawInt t) f))->(∃p q,IsPair h' TO p q)->SqIt h' i1 a (i+1) its1.toArray->SqIt h' i2 b (i+1) its2.toArray->IsPair h' s.heap.objs.size u v ->
    (∀e o,e≠z->e≠TO->e≠i1->e≠i2->s.heap.get? e=some o->h'.get? e=some o) ->
    wpAny (model X.prog X.w) A.in1 (updateSeq S (·.push (.ref s.heap.objs.size)) >>= λ_=>again (.builtin "list.extend.loop" %[[.ref S,.ref z,res]|[]]))
     (λfin s'=>match fin with | .done f=>R (.ok f) s' | .again c'=>c'.quiet=true/\codeAny (model X.prog X.w) A c' R s') (λe s'=>R (.error e) s') { s with heap:=h' }:=λh' z' to' g1 g2 pr kp=>by
    have I2:Inv X pins σ (upd H s.heap.objs.size (.tup [xs[i],ys[i]'#[0]])) { s with heap:=h' }:=
     I.turnedNew (t':=s.toks) (ch:=[z,TI,TO,i1,i2]) (λe ob he ee=>kp e ob (λy=>he (by simp [y])) (λy=>he (by simp [y])) (λy=>he (by simp [y])) (λy=>he (by simp [y])) ee) hf (zG0 _) %[by show 2<=sizeLine;decide,[u,v],.cons ru (.cons rv .nil),%[_,pr,1|0],_,pr|1]
    have hS2:upd H s.heap.objs.size (.tup [xs[i],ys[i]'#[0]]) S=some (.lst (cs.map V.ref)):=by rw[aq (Ne.symm nS)];exact hS
    let%[zz,its,n,r,hl|e]:=I2.lstM hS2;have hll:its.length=i:=by rw[←hl,zH0];exact cl
    have I3:=I2.lset (t':=s.toks) (f:=(·.push (Value.ref s.heap.objs.size))) (its':=its++[.ref s.heap.objs.size]) (ys:=(cs++[s.heap.objs.size]).map V.ref) hS2 e (by simp) (by rw[zO0];exact r.append (.cons rfl .nil)) (by rw[zH0,zJ0,qK0];omega);refine zA0 (wpAny_updateSeq e rfl (zI0 %[plainId_quiet F.plain_extend_loop _|6]) (by rw[zR0];omega) (by show(its.toArray.push _).size<=sizeLine+1;rw[Array.size_push,zR0];omega));have sne:∀e∈[z,TI,TO,i1,i2],e≠S:=λe he y=>hSz (y▸he)
    have oth:∀e o,e≠S->h'.get? e=some o->(h'.update S (Obj.mapSeq (·.push (Value.ref s.heap.objs.size)))).get? e=some o:=λe o ne q=>(Heap.get?_update_other _ _ (Ne.symm ne)).trans q
    have so1:SqO c h' a its1.toArray:=by
     rcases(show SqIt h' i1 a (i+1) its1.toArray from g1)with⟨_,hq⟩ | ⟨_,hq⟩
     . cases c
       . let%[o1,e1,c1|_]:=(show s.heap.IsTuple a its1.toArray from s1)
         erw[o2,e2,c2,_]at hq;have e3:=kp a o1 D.l1z D.l1TO D.l1i1 D.l1i2 e1;rw[e2]at e3;cases e3;rw[c1]at c2;exact absurd (Value.type.inj c2) ⋯
       . exact hq
     . cases c
       . exact hq
       . let%[o1,e1,c1|_]:=(show s.heap.IsList a its1.toArray from s1)
         erw[o2,e2,c2,_]at hq;have e3:=kp a o1 D.l1z D.l1TO D.l1i1 D.l1i2 e1;rw[e2]at e3;cases e3;rw[c1]at c2;exact absurd (Value.type.inj c2) ⋯
    have so2:SqO d h' b its2.toArray:=by
     rcases(show SqIt h' i2 b (i+1) its2.toArray from g2)with⟨_,hq⟩ | ⟨_,hq⟩
     . cases d
       . let%[o1,e1,c1|_]:=(show s.heap.IsTuple b its2.toArray from s2)
         erw[o2,e2,c2,_]at hq;have e3:=kp b o1 D.l2z D.l2TO D.l2i1 D.l2i2 e1;rw[e2]at e3;cases e3;rw[c1]at c2;exact absurd (Value.type.inj c2) ⋯
       . exact hq
     . cases d
       . exact hq
       . let%[o1,e1,c1|_]:=(show s.heap.IsList b its2.toArray from s2)
         erw[o2,e2,c2,_]at hq;have e3:=kp b o1 D.l2z D.l2TO D.l2i1 D.l2i2 e1;rw[e2]at e3;cases e3;rw[c1]at c2;exact absurd (Value.type.inj c2) ⋯
    erw[t,f,ht,hzb]at z';erw[p',q',hTO']at to';have hTI':IsPair h' TI (.ref i1) (.ref i2):=kp _ _ D.TIz D.TITO D.TIi1 D.TIi2 hTI;have nup:∀e,e≠S->e≠s.heap.objs.size->upd (upd H s.heap.objs.size (.tup [xs[i],ys[i]'#[0]])) S (.lst ((cs++[s.heap.objs.size]).map V.ref)) e=H e:=λe n1 n2=>by rw[aq n1,aq n2]
    refine ih (i+1) _ _ (cs++[s.heap.objs.size]) #[0] #[0] I3 (λe he=>?_) %[.inr %[t,f,ht|oth _ _ (sne z (by simp)) hzb],oth _ _ (sne TI (by simp)) hTI',%[p',q'|oth _ _ (sne TO (by simp)) hTO'],(Dd so1 g1).at λo=>oth _ o (sne i1 (by simp))|(Dd so2 g2).at λo=>oth _ o (sne i2 (by simp))] aC (by rw[zJ0,qK0];omega) ?_ ?_ ?_ hR
    . let%[f1|f2]:=hf e he;erw[6,f2];rw[nup e (sne e he) (zS0 (flt e he))];exact f1
    . intro j t' x y ht' hx' hy'
      by_cases cj:j<cs.length
      . rw[List.getElem?_append_left cj]at ht';have hm:=qI0 ht';rw[nup t' (fr t' hm).2 (λz=>nin (z▸hm))];exact pa j t' x y ht' hx' hy'
      . have cj2:j=cs.length:=by
         have:=(zX0 ht').1
         rw[zJ0,qK0]at this;omega
        subst cj2;rw[List.getElem?_append_right (zG0 _),Nat.sub_self]at ht';have et:s.heap.objs.size=t':=zU0 ht';rw[cl,hx]at hx';rw[cl,hy]at hy';cases hx';cases hy';rw[←et,aq nS,aC]
    . intro t' ht';rcases qD0 ht' with hm | hm
      . exact fr t' hm
      . rw[zM0 hm];erw[sm.free hT,nS]
    . intro e o he;rw[nup e (λz=>by rw[z,hS0]at he;cases he) (λz=>by rw[z]at he;rw[sm _ _ he]at hT;cases hT)];exact sm _ _ he
   rcases hz with⟨i0,hz⟩ | ⟨t,f,ht,hz⟩
   . refine zA0 (Bn D hz hTI hTO S1 S2 (x:=u) (y:=v) (by simpa using hu) (by simpa using hv) λh' z1 TO1 g1 g2 T1 k1=>?_);refine step h' %[_,_,6|z1] ⟨_,_,TO1⟩ g1 g2 T1 k1
     have:cs=[]:=List.eq_nil_of_length_eq_zero #[0]
     rw[this];rfl
   . have hlt0:=(zX0 ht).1;have ht':H t=some (.tup [xs[0]'#[0],ys[0]'#[0]]):=pa 0 t _ _ ht (zN0 _) (zN0 _);let%[_,_,_,_,ob,eo|_]:=I.hok t _ ht';refine zA0 (Bo D hz eo hTI S1 S2 (x:=u) (y:=v) (by simpa using hu) (by simpa using hv) λh' z1 g1 g2 T1 k1=>?_);exact step h' %[t,_,by rw[List.getElem?_append_left hlt0];exact ht|z1] ⟨p,q,k1 _ _ D.TOz D.TOi1 D.TOi2 hTO⟩ g1 g2 T1 λe o n1 n2 n3 n4=>k1 e o n1 n3 n4
end
section
variable {X:Cx} {pins:List (Addr×Obj)} {σ:St}
theorem pH(hc:X.calm=true){a b z TI TO i1 i2:Addr}{xs ys:List V}{Q:VK}(I:Inv X pins σ H s)(D:ZipApart z TI TO i1 i2 a b)(hxy:xs.length=ys.length)(hn:xs.length<=sizeLine)
 (q1:SqB X.K c H a xs) (q2:SqB X.K d H b ys) (hf:∀e∈[z,TI,TO,i1,i2],jt X pins H e) (st:ZSt c d a b z TI TO i1 i2 [] 0 s.heap)
 (h:∀S cs H2,H S=none->H2 S=some (.lst (cs.map V.ref))->cs.length=xs.length->kQ H2 cs xs ys->(∀t∈cs,H t=none/\t≠S)->Same H H2->Q (.ref S) H2) :
 wpAny (model X.prog X.w) X.A (call (.type "list") [.ref z]) (EP X pins σ Q) X.xe s:=by
 have hh:X.A.handled=none:=I.ok.hd hc;have zlt:∀e∈[z,TI,TO,i1,i2],e<s.heap.objs.size:=λe he=>by
  erw[hz,hTI,%[p,q|hTO],it1,it2]at st;simp only[List.mem_cons,List.not_mem_nil,or_false]at he;rcases he with rfl | rfl | rfl | rfl | rfl
  . rcases hz with⟨_,hz⟩ | ⟨_,_,_,hz⟩ <;> exact zL0 hz
  . exact zL0 hTI
  . exact zL0 hTO
  . erw[_,e,_]at it1;exact zL0 e
  . erw[_,e,_]at it2;exact zL0 e
 have hSz:s.heap.objs.size∉[z,TI,TO,i1,i2]:=λhm=>qU0 _ (zlt _ hm)
 have hS0:H s.heap.objs.size=none:=I.hok.fresh (zG0 _);have hzS:s.heap.objs.size≠z:=λe=>hSz (by rw[e];simp)
 refine callType_codes (Q₁:=λobj s1=>obj=.ref s.heap.objs.size/\s1={ s with heap:=s.heap.push { cls:=.type "list",data:=.seq #[] } }) F.called_list (F.typeCall_list_1 _) F.entry_list_init
  (code_list_new _ %[1|1]) λobj s1 h1=>?_
 erw[1,1]at h1;have hS:(s.heap.push { cls:=.type "list",data:=.seq #[] }).get? s.heap.objs.size=some { cls:=.type "list",data:=.seq #[] }:=zZ0 _ rfl;erw[%[_,hS|1],F.args_list_init_2 _ _,6];show wpAny _ X.A.in1.in1 (do let old ←Builtin.List.listItems (.ref s.heap.objs.size);Builtin.List.listUpdate (.ref s.heap.objs.size) (λ_=>#[]);letGo old.toList.reverse;Builtin.List.listExtendWith (.ref s.heap.objs.size) (.ref z) .none) _ _ _;have J0:Inv X pins σ (upd H s.heap.objs.size (.lst [])) { s with heap:=s.heap.push { cls:=.type "list",data:=.seq #[] } }:=I.lnew (t':=s.toks) .nil (by show 0<=sizeLine;decide);have J1:=J0.lset (t':=s.toks) (its:=[]) (f:=λ_=>(#[]:Array Value)) (its':=[]) (ys:=[]) aC hS (by simp) .nil (by show 0<=sizeLine;decide);refine zA0 ?_;unfold Builtin.List.listItems;refine zA0 (wpAny_seqItems hS rfl (zI0 ?_));show wpAny _ X.A.in1.in1 (updateSeq s.heap.objs.size (λ_=>#[]) >>= λ_=>letGo (#[]:Array Value).toList.reverse >>= λ_=>Builtin.List.listExtendWith (.ref s.heap.objs.size) (.ref z) .none) _ _ _;refine zA0 (wpAny_updateSeq hS rfl ?_);have hS2:=Heap.get?_update_self (Obj.mapSeq (λ_=>(#[]:Array Value))) hS rfl;have oth:∀b o,b≠s.heap.objs.size->s.heap.get? b=some o->((s.heap.push { cls:=.type "list",data:=.seq #[] }).update s.heap.objs.size (Obj.mapSeq (λ_=>(#[]:Array Value)))).get? b=some o:=
  λb o hb e=>(Heap.get?_update_other _ _ (Ne.symm hb)).trans (zP0 _ e)
 refine zA0 (wpAny_letGo ?_);have zO:IsZip s.heap z TI TO .none:=by
  rcases st.1 with⟨_,hz⟩ | ⟨_,_,ht,_⟩
  . exact hz
  . cases ht
 have zO2:=oth z _ (Ne.symm hzS) zO;generalize hh2:(s.heap.push { cls:=.type "list",data:=.seq #[] }).update s.heap.objs.size (Obj.mapSeq (λ_=>(#[]:Array Value)))=h2 at J1 hS2 oth zO2 ⊢;have hT:({ s with heap:=h2 }:Shared).TypeIs (.ref z) "zip":=⟨_,zO2,rfl⟩
 unfold Builtin.List.listExtendWith;refine zA0 (wpAny_typeOf hT ?_);have h1:Builtin.List.listSameRef (.ref s.heap.objs.size) (.ref z)=false:=by simp [Builtin.List.listSameRef,hzS]
 have h2':(Value.type "zip"==Value.type "list")=false:=by decide
 have h3:(Value.type "zip"==Value.type "tuple")=false:=by decide
 simp only [h1,h2',h3,Bool.or_false,Bool.false_eq_true,if_false];refine zA0 (wpAny_pyIter_zip zO2 ?_);refine zA0 (wpAny_holding ?_);unfold Builtin.List.listLengthHint;refine zA0 (wpAny_specialOf hT tT ?_);show wpAny _ X.A.in1.in1 (specialOf (Value.ref z) (Str.ofString "__length_hint__") >>= _) _ _ _;refine zA0 (wpAny_specialOf hT rN ?_);refine zI0 ?_;show wpAny _ X.A.in1.in1 (rule "list.extend.makes-room" >>= λ_=>Builtin.List.listTouch (.ref s.heap.objs.size) >>= λ_=>
  again (.builtin "list.extend.loop" %[[.ref s.heap.objs.size,.ref z,.none]|[]])) _ _ _
 refine zA0 (wpAny_rule ?_);refine zA0 ?_;show wpAny _ X.A.in1.in1 (updateSeq s.heap.objs.size (·.push .none) >>= λ_=>updateSeq s.heap.objs.size (·.pop)) _ _ _;refine zA0 (wpAny_updateSeq hS2 rfl ?_);have hS3:=Heap.get?_update_self (Obj.mapSeq (·.push Value.none)) hS2 rfl;refine wpAny_updateSeq (hz:=by seq_fits) hS3 rfl ?_;have J2:=J1.lset (t':=s.toks) (its:=[]) (f:=(·.push Value.none)) (its':=[.none]) (ys:=[.non]) aC hS2 (by simp) (.cons rfl .nil) (by show 1<=sizeLine;decide);have J3:=J2.lset (t':=s.toks) (its:=[.none]) (f:=(·.pop)) (its':=[]) (ys:=[]) aC hS3 (by simp) .nil (by show 0<=sizeLine;decide);have oth3:∀b o,b≠s.heap.objs.size->s.heap.get? b=some o->((h2.update s.heap.objs.size (Obj.mapSeq (·.push Value.none))).update s.heap.objs.size (Obj.mapSeq (·.pop))).get? b=some o:=
  λb o hb e=>(Heap.get?_update_other _ _ (Ne.symm hb)).trans ((Heap.get?_update_other _ _ (Ne.symm hb)).trans (oth b o hb e))
 have sm:Same H (upd (upd (upd (upd H s.heap.objs.size (.lst [])) s.heap.objs.size (.lst [])) s.heap.objs.size (.lst [.non])) s.heap.objs.size (.lst [])):=λe o q=>by
  have ne:e≠s.heap.objs.size:=aN q hS0;rw[aq ne,aq ne,aq ne,aq ne];exact q
 have ss:∀e∈[z,TI,TO,i1,i2],e≠s.heap.objs.size:=λe he=>zS0 (zlt e he)
 have st3:ZSt c d a b z TI TO i1 i2 [] 0 ((h2.update s.heap.objs.size (Obj.mapSeq (·.push Value.none))).update s.heap.objs.size (Obj.mapSeq (·.pop))):=by
  erw[hz,hTI,%[p,q|hTO],it1,it2]at st;erw[6,oth3 _ _ (ss TI (by simp)) hTI,%[p,q|oth3 _ _ (ss TO (by simp)) hTO],it1.at λo=>oth3 _ o (ss i1 (by simp)),it2.at λo=>oth3 _ o (ss i2 (by simp))];rcases hz with⟨_,hz⟩ | ⟨_,_,ht,_⟩
  . exact .inl %[1|oth3 _ _ (ss z (by simp)) hz]
  . cases ht
 refine zI0 %[plainId_quiet F.plain_extend_loop _|Ci (A:=X.A.in1) hc hh D hxy hn q1 q2 hS0 hSz xs.length 0 _ _ [] #[0] (zW0 _) J3 (λe he=>?_) st3 aC rfl (λj t x y ht=>by simp at ht) (λt ht=>by cases ht) sm λs' H' cs' I' g1 g2 g3 g4 g5=>?_]
 . let%[f1|f2]:=hf e he;have ne:=ss e he;erw[6,f2];rw[aq ne,aq ne,aq ne,aq ne];exact f1
 . erw[1,.ref s.heap.objs.size,H',I',1,h _ cs' H' hS0 g1 g2 g3 g4 g5]
inductive ZtListZip(K:W.Frag)(t:TA)(Q:VK)(vs:(List V))(H1:Hp):Prop
 |mk:∀a b c d xs ys,vs=[.ref a,.ref b]->SqB K c H1 a xs->SqB K d H1 b ys->xs.length=ys.length->xs.length<=sizeLine->(∀S cs H2,H1 S=none->H2 S=some (.lst (cs.map V.ref))->cs.length=xs.length->kQ H2 cs xs ys->(∀t∈cs,H1 t=none/\t≠S)->Same H1 H2->Q (.ref S) H2)->ZtListZip K t Q vs H1
def yQ(K:W.Frag)(t:TA):TE:=λσ H Q=>t σ H λvs H1=>ZtListZip K t Q vs H1
theorem uP {e1 e2:Expr}  {p1 p2 pos1 pos2:Pos} (hc:X.calm=true) (hg1:Gl X "list") (hm1:X.mg "list"=none) (hg2:Gl X "zip") (hm2:X.mg "zip"=none) (ha:PA X [e1,e2] t)
 (hs1:starEach [(.Call (.Name "zip" p2) [e1,e2] [] pos2:Expr)] X.env=[(false,eval (.Call (.Name "zip" p2) [e1,e2] [] pos2) X.env)]:=by rfl) (hs:starEach [e1,e2] X.env=[(false,eval e1 X.env),(false,eval e2 X.env)]:=by rfl) (hs2:starEach [e2] X.env=[(false,eval e2 X.env)]:=by rfl) :
 PE X (.Call (.Name "list" p1) [.Call (.Name "zip" p2) [e1,e2] [] pos2] [] pos1) (yQ X.K t):=by
 intro pins s σ H Q I h;refine wpAny_Call_Name_kw (fh I hg1 hm1 iG ?_);refine PyProof.Rows.callWith_type1 ?_ hs1 rfl;rw[hs1];show wpAny _ _ (spliced ((false,eval (.Call (.Name "zip" p2) [e1,e2] [] pos2) X.env)::backTo pos1 (starEach [] X.env))) _ _ s;have step:wpAny (model X.prog X.w) X.A (eval (.Call (.Name "zip" p2) [e1,e2] [] pos2) X.env) (λv s1=>∃(z TI TO i1 i2 a b:Addr) (c d:Bool) (xs ys:List V) (H1:Hp),v=.ref z/\Inv X pins σ H1 s1/\ZipApart z TI TO i1 i2 a b/\xs.length=ys.length/\xs.length<=sizeLine/\SqB X.K c H1 a xs/\SqB X.K d H1 b ys/\
  (∀e∈[z,TI,TO,i1,i2],jt X pins H1 e)/\ZSt c d a b z TI TO i1 i2 [] 0 s1.heap/\∀S cs H2,H1 S=none->H2 S=some (.lst (cs.map V.ref))->cs.length=xs.length->kQ H2 cs xs ys->(∀t∈cs,H1 t=none/\t≠S)->Same H1 H2->Q (.ref S) H2) X.xe s:=by
  refine Call_ (fh I hg2 hm2 yB (PyProof.Rows.callWith_type1 (thn (ha pos2 pins s σ H _ I h) λus s1 ⟨vs,H1,I1,r1,q1⟩=>?_) (by rw[hs,hs2]) (by rw[hs2];rfl)));erw[a,b,c,d,xs,ys,ev,hq1,hq2,hxy,hn,q]at q1;subst ev;cases r1 with
  | cons r rr=>
    cases rr with
    | cons r' rr=>
      cases rr;cases r;cases r';let%[its1,rv1,o1|l1]:=SqB.at I1 hq1;let%[its2,rv2,o2|l2]:=SqB.at I1 hq2;refine CB o1 o2 λh' z1 p1 p2 k1 k2 keep=>?_
      have I2:Inv X pins σ H1 { s1 with heap:=h' }:=I1.kept (t':=s1.toks) keep;erw[s1.heap.objs.size+4,s1.heap.objs.size+2,s1.heap.objs.size+3,s1.heap.objs.size,s1.heap.objs.size+1,a,b,c,d,xs,ys,H1,1,I2,zipAp l1 l2,hxy,hn,hq1,hq2,λe he=>?_,%[.inl %[1|z1],p1,%[_,_|p2],yD keep o1 k1|yD keep o2 k2],q];have ge:s1.heap.objs.size<=e:=by
       simp only[List.mem_cons,List.not_mem_nil,or_false]at he;rcases he with h | h | h | h | h <;> rw[h]
       . exact Nat.le_add_right ..
       . exact Nat.le_add_right ..
       . exact Nat.le_add_right ..
       . exact zG0 _
       . exact Nat.le_add_right ..
      exact I1.fpOk ge (I1.hok.fresh ge)
 refine Calls.spliced_cons (thn step λv s1 hv=>?_);erw[z,TI,TO,i1,i2,a,b,c,d,xs,ys,H1,1,I1,D,hxy,hn,hq1,hq2,hf,st,q]at hv;refine Calls.spliced_nil ?_;exact pH hc I1 D hxy hn hq1 hq2 hf st q
end
def EN(K:W.Frag)(a:Addr)(xs:List V):It:=%[λi H=>SqT K H a xs/\i<xs.length,λi H y H'=>H'=H/\xs.reverse[i]?=some y|λi _=>xs.length<=i]
theorem RevT.keep{h':Heap}(x:RevT h it t i)(k:∀o,h.get? it=some o->h'.get? it=some o):RevT h' it t i:=k _ x
theorem wR{K:W.Frag}(a it:Addr)(xs:List V):Turn P w K tg (EN K a xs) [it] it (λi h=>i<=xs.length/\RevT h it a ((xs.length:Int)-1-(i:Int))) where
 mem:=by simp
 obj:=λi h st b hb=>by
  have e:b=it:=by simpa using hb
  subst e;erw[_,st.2,λv z=>by cases z]
 keep:=λi h h' st k=>%[st.1|st.2.keep λo e=>k it (by simp) o e]
 item:=by
  intro X hP hw hK hc i pins s σ H E I hf st hg;subst hP hw hK;erw[hq,hi]at hg;let%[its,rv,p|hz]:=I.tuple hq;have hj:xs.length-1-i<xs.length:=by omega
  have hx:xs[xs.length-1-i]?=some xs[xs.length-1-i]:=zN0 hj;let%[u,hu|ru]:=rv.get hx;let%[f0,f1,f2,f3,f4|f5]:=hf it (by simp);erw[_,hit]at st;have e1:((xs.length:Int)-1-(i:Int))=((xs.length-1-i:Nat):Int):=by omega
  rw[e1]at hit;have h63:=iD;refine ou hit p (x:=u) (by simpa using hu) #[0] λh' tk st' sb=>?_
  have I1:Inv X pins σ H { s with heap:=h',toks:=tk }:=I.turned (t':=tk) (λb o hb e=>(sb.2 b hb).trans e) f0 f1 f3 f4 f5;have e2:((xs.length-1-i:Nat):Int)-1=(xs.length:Int)-1-((i+1:Nat):Int):=by omega
  rw[e2]at st';erw[u,1,sY (s:={ s with heap:=h',toks:=tk }) st' rfl rfl ⋯ ⟨xs[xs.length-1-i],H,I1,ru,⟨rfl,?_⟩,⟨by omega,st'⟩,λb hb=>(hf b hb).1⟩];rw[List.getElem?_reverse hi,hx]
 done:=by
  intro X hP hw hK hc i pins s σ H E I hf st hg;subst hP hw hK;have hg:xs.length<=i:=hg;let%[f0,f1,f2,f3,f4|f5]:=hf it (by simp);erw[hi,hit]at st;have e1:(xs.length:Int)-1-(i:Int)=-1:=by omega
  rw[e1]at hit;exact pD (I.ok.hd hc) hit λh' tk eb=>%[1|I.turned (t':=tk) (λb o hb e=>eb b o hb e) f0 f1 f3 f4 f5]
 self:=λ_ _ _ _ _ st h=>pX st.2 h
def CK(K:W.Frag)(c:Bool)(a:Addr)(xs:List V):It:=if c=true then ItV K a xs else EN K a xs
section
variable {X:Cx} {tg:Expr}
inductive ZiRevB(K:W.Frag)(R:(It->Hp->Prop))(x:V)(H1:Hp):Prop
 |mk:∀c a xs,x=.ref a->SqB K c H1 a xs->R (CK K c a xs) H1->ZiRevB K R x H1
def iRevB(K:W.Frag)(tl:TE):TI:=λσ H R=>tl σ H λx H1=>ZiRevB K R x H1
theorem BO   {p pos:Pos} (hg:Gl X "reversed") (hm:X.mg "reversed"=none) (hl:PE X l tl) (hs:starEach [l] X.env=[(false,eval l X.env)]:=by rfl) :
 PI X tg (.Call (.Name "reversed" p) [l] [] pos) (iRevB X.K tl):=by
 intro pins s σ H R I h;refine wpAny_Call_Name_kw (fh I hg hm oS ?_);refine PyProof.Rows.callWith_type1 ?_ hs rfl;rw[hs];show wpAny _ _ (spliced ((false,eval l X.env)::backTo pos (starEach [] X.env))) _ _ s;refine Calls.spliced_cons (thn (hl pins s σ H _ I h) λu s1 ⟨x,H1,I1,r1,c,a,xs,ex,hq,q⟩=>?_);subst ex;cases r1;refine Calls.spliced_nil ?_;cases c with
 | true=>
   have hq:SqL X.K H1 a xs:=hq;have q:R (ItV X.K a xs) H1:=q;let%[its,rv,p|hz]:=I1.list hq;have hlen:=rv.length;refine call_reversed_list p.isList ?_;have hr:(s1.heap.push (revObj a ((its.toArray.size:Int)-1))).IsRevIter s1.heap.objs.size a ((xs.length:Int)-1-((0:Nat):Int)):=by
    have e:(xs.length:Int)-1-((0:Nat):Int)=(its.toArray.size:Int)-1:=by rw[zR0];omega
    rw[e];erw[_,zZ0 _ rfl,1,1]
   refine wpAny_pyIter_revIter hr ?_;erw[s1.heap.objs.size,[s1.heap.objs.size],_,_,H1,1,I1.kept (t':=s1.toks) λb o e=>zP0 _ e,wQ a _ xs,%[zW0 _|hr],λb hb=>?_,q];have e:b=s1.heap.objs.size:=by simpa using hb
   subst e;exact I1.fpOk (zG0 _) (I1.hok.fresh (zG0 _))
 | false=>
   have hq:SqT X.K H1 a xs:=hq;have q:R (EN X.K a xs) H1:=q;let%[its,rv,p|hz]:=I1.tuple hq;have hlen:=rv.length;refine kN p (by rw[zR0,←rv.length];exact hz) λtk=>?_
   have hr:RevT (s1.heap.push { cls:=.type "reversed",data:=.fields #[.ref a,rawInt ((its.toArray.size:Int)-1)] }) s1.heap.objs.size a ((xs.length:Int)-1-((0:Nat):Int)):=by
    have e:(xs.length:Int)-1-((0:Nat):Int)=(its.toArray.size:Int)-1:=by rw[zR0];omega
    rw[e];exact zZ0 _ rfl
   refine pX hr ?_;erw[s1.heap.objs.size,[s1.heap.objs.size],_,_,H1,1,I1.kept (t':=tk) λb o e=>zP0 _ e,wR a _ xs,%[zW0 _|hr],λb hb=>?_,q];have e:b=s1.heap.objs.size:=by simpa using hb
   subst e;exact I1.fpOk (zG0 _) (I1.hok.fresh (zG0 _))
end
theorem AS{K:W.Frag}{xs:List V}{g:TG}{tb:TS}{D:Ends}{σ:St}{H:Hp}(Pv:Nat->St->Hp->Prop)(h0:Pv 0 σ H)(hl:∀i σ H,i<=xs.length->Pv i σ H->SqB K c H a xs)
 (hs:∀i x σ H,i<xs.length->xs.reverse[i]?=some x->Pv i σ H->g x σ H λσ2 H2=>tb { D with nx:=Pv (i+1),ct:=Pv (i+1),bk:=D.nx } σ2 H2) (hd:∀ σ H,Pv xs.length σ H->D.nx σ H) :
 ∃ W:Nat->Nat->St->Hp->Prop,(∃m,W 0 m σ H)/\∀i m σ H,W i m σ H ->
  ((CK K c a xs).stop i H/\D.nx σ H)∨((CK K c a xs).go i H/\∃N:St->Hp->Prop,(∀ σ' H',N σ' H'->∃m',m'<m/\W (i+1) m' σ' H')/\∀x H',(CK K c a xs).yld i H x H'->g x σ H' λσ2 H2=>tb { D with nx:=N,ct:=N,bk:=D.nx } σ2 H2):=by
 cases c with
 | true=>exact AR Pv h0 hl hs hd
 | false=>
   erw[λi m σ H=>m=xs.length-i/\i<=xs.length/\Pv i σ H,%[xs.length,by simp,zW0 _|h0],6];rintro i m σ H ⟨rfl,hi,p⟩;have q:=hl i σ H hi p
   by_cases hlt:i<xs.length
   . refine .inr %[%[q|hlt],Pv (i+1),λσ' H' p'=>%[xs.length-(i+1),3,1,hlt|p']|λx H' y=>?_];erw[e,ex]at y;subst e;exact hs i x σ _ hlt ex p
   . have e:i=xs.length:=by omega
     subst e;exact .inl %[zG0 _|hd σ H p]
def wN(P:Program)(w:World)(h:Heap)(items:Array Value)(rs:List (Key×Value)):Prop:=items.size=rs.length/\∀(j:Nat)(kv:Key×Value),rs[j]?=some kv->∃t ky,items[j]?=some (.ref t)/\IsTup h t #[ky,kv.2]/\(aY P w).is kv.1 ky=true
theorem pF{vs:List (Key×Value)}{k:Key}{v:Value}:(stored vs k v).length<=vs.length+1:=by
 unfold stored
 split
 . rw[zH0];exact qL0 _
 . rw[zJ0,qK0];exact zG0 _
section
variable {prog:Program} {w:World} {A:Around} {E:Value->Shared->Prop} {s:Shared}
theorem yv{d l it:Addr}{items:Array Value}{rs:List (Key×Value)}{R:Result->Shared->Prop}(hh:A.handled=none)(h1:l≠it)(h2:d≠it)(h3:l≠d) :
 ∀(k i:Nat)(s:Shared)(kvs:List (Key×Value)),rs.length-i=k->i<=rs.length->s.heap.IsListIter it l i->s.heap.IsList l items->wN prog w s.heap items rs->(∀(j:Nat)(t:Addr),items[j]?=some (Value.ref t)->t≠it/\t≠d)->s.heap.DictOf (aY prog w) d kvs->kvs.length+k<=sizeLine ->
  (∀h' tk,h'.DictOf (aY prog w) d (merged kvs (rs.drop i))->(∀b o,b≠d->b≠it->s.heap.get? b=some o->h'.get? b=some o)->R (.ok (.ret .none)) { s with heap:=h',toks:=tk }) ->
  codeAny (model prog w) A (.builtin "dict.update.loop" %[[.ref d,.ref it,.int i 0,.none]|[]]) R s:=by
 intro k
 induction k with
 | zero=>
   intro i s kvs hk hi hit hl pa ne hd hz hR;have hin:i=rs.length:=by omega
   refine codeAny_builtin iJ ?_;rw[Around.under_plainId dy _];show wpAny _ A.in1 (pyNext (.ref it) >>= _) _ _ s;refine zA0 (wpAny_pyNext_list_end (A:=A.in1) hh hit hl (Array.getElem?_eq_none (by rw[pa.1];omega)) λh' eb=>?_);show wpAny _ A.in1 (Builtin.Dict.addKeywords d [] >>= _) _ _ _;refine zA0 (zI0 (zI0 ?_));refine hR h' s.toks ?_ λb o _ b2 e=>eb b o b2 e
   rw[hin,List.drop_length];exact hd.extBut eb h2
 | succ k ih=>
   intro i s kvs hk hi hit hl pa ne hd hz hR;have hlt:i<rs.length:=by omega
   let%[t,ky,hx,ht|hkey]:=pa.2 i rs[i] (zN0 hlt);let%[n1|n2]:=ne i t hx;refine codeAny_builtin iJ ?_;rw[Around.under_plainId dy _];show wpAny _ A.in1 (pyNext (.ref it) >>= _) _ _ s;refine zA0 (wpAny_pyNext_list_item hit hl hx λha ita sa=>?_);have hta:IsTup ha t #[ky,rs[i].2]:=by
    erw[o,e,r]at ht;erw[o,sa.extBut _ _ n1 e,r]
   show wpAny _ A.in1 (holding [Value.ref t] _ >>= _) _ _ _;refine zA0 (wpAny_holding ?_);refine zA0 ?_;have hT:Shared.TypeIs { s with heap:=ha } (.ref t) "tuple":=by
    erw[o,e,c,_]at hta;erw[o,e,c]
   refine wpAny_tryCatch ?_;unfold Builtin.Dict.pairItems;refine zA0 (wpAny_typeOf hT ?_);rw[zE0 ⋯];let%[o,e,c,n|dt]:=id hta;refine zA0 (wpAny_seqItems e dt (zI0 ?_));show wpAny _ A.in1 (holding [ky,rs[i].2] (dictSet d ky rs[i].2)) _ _ _;have hda:ha.DictOf (aY prog w) d kvs:=hd.extBut sa.extBut h2;refine wpAny_holding (wpAny_dictSet_pairs (knd:=aY prog w) (hsz:=by omega) hkey hda λhb hdb sb=>?_);have keep:∀b o,b≠d->b≠it->s.heap.get? b=some o->hb.get? b=some o:=λb o b1 b2 e=>sb.extBut _ _ b1 (sa.extBut _ _ b2 e)
   refine zI0 %[plainId_quiet dy _|6];have ii:((i:Int)+1)=((i+1:Nat):Int):=by omega
   show codeAny _ A (.builtin "dict.update.loop" %[[.ref d,.ref it,.int ((i:Int)+1) 0,.none]|[]]) R _;rw[ii];refine ih (i+1) _ (stored kvs rs[i].1 rs[i].2) #[0] #[0] (ita.at λo e=>sb.extBut _ _ (Ne.symm h2) e) ((hl.extBut sa.extBut h1).extBut sb.extBut h3) %[pa.1|λj kv hj=>?_] ne hdb (by have:=pF (vs:=kvs) (k:=rs[i].1) (v:=rs[i].2);omega) λh' tk hd' kp=>?_
   . let%[t',ky',hx',%[o',e'|r']|hk']:=pa.2 j kv hj;let%[m1|m2]:=ne j t' hx';erw[t',ky',hx',%[o',keep _ _ m2 m1 e'|r'],hk']
   . refine hR h' tk ?_ λb o b1 b2 e=>kp b o b1 b2 (keep b o b1 b2 e)
     rw[List.drop_eq_getElem_cons hlt];exact hd'
theorem mi{l:Addr}{items:Array Value}{Q:Value->Shared->Prop}(hh:A.handled=none)(p:PlainL s.heap l items)(pa:wN prog w s.heap items rs)(hz:rs.length<=sizeLine)
 (h:∀h' tk,h'.DictOf (aY prog w) s.heap.objs.size (merged [] rs)->(∀b o,s.heap.get? b=some o->h'.get? b=some o)->Q (.ref s.heap.objs.size) { s with heap:=h',toks:=tk }) :
 wpAny (model prog w) A (call (.type "dict") [.ref l]) Q E s:=by
 refine callType_codes (Q₁:=λobj s₁=>obj=.ref s.heap.objs.size/\s₁={ s with heap:=s.heap.push { cls:=.type "dict",data:=.dict #[] } }) F.kt_called_dict (F.kt_typeCall_dict_1 _) F.entry_dict_init (kt_code_dict_new _ ⟨rfl,rfl⟩) ?_;rintro obj s₁ ⟨rfl,rfl⟩;have hnew:(s.heap.push { cls:=.type "dict",data:=.dict #[] }).DictOf (aY prog w) s.heap.objs.size []:=Heap.DictOf.new s.heap;have up:∀b o,s.heap.get? b=some o->(s.heap.push { cls:=.type "dict",data:=.dict #[] }).get? b=some o:=λb o e=>zP0 _ e
 have p1:PlainL (s.heap.push { cls:=.type "dict",data:=.dict #[] }) l items:=by
  erw[o,n,e,r]at p;erw[o,n,up _ _ e,r]
 have lt:∀{b o},s.heap.get? b=some o->b<s.heap.objs.size:=λe=>zL0 e
 erw[hnew.typeIs,F.args_dict_init_2 _ _,6];unfold Builtin.«dict.__init__»;refine zA0 ?_;unfold Builtin.Dict.selfAndRest;refine zA0 (wpAny_notOrdered_dict hnew.typeIs ?_);show wpAny _ _ (pure (s.heap.objs.size,[Value.ref l])) _ _ _;refine zI0 ?_;show wpAny _ _ (Builtin.Dict.updateFrom "dict.__init__" s.heap.objs.size (.ref l) [] .none) _ _ _;unfold Builtin.Dict.updateFrom;refine zA0 (wpAny_typeOf p1.isList.typeIs ?_);rw[zE0 ⋯];refine zA0 (DV p1 hh λh2 tk kp=>?_);simp only[Option.isNone_none,if_true];have sz:s.heap.objs.size<h2.objs.size:=by
  erw[_,_,_,e,_]at hnew;exact zL0 (kp _ _ e)
 have hd2:h2.DictOf (aY prog w) s.heap.objs.size []:=by
  erw[o,es,ep,e,r]at hnew;erw[o,es,ep,kp _ _ e,r]
 have l2:h2.IsList l items:=p1.isList.at λo e=>kp _ _ e
 have llt:l<s.heap.objs.size:=by
  erw[o,n,e,r]at p;exact lt e
 refine zA0 (wpAny_rule ?_);refine zA0 (wpAny_pyIter_list l2 (zI0 ?_));erw[plainId_quiet dy _,6];show codeAny _ A.in1 (.builtin "dict.update.loop" ⟨[.ref s.heap.objs.size,.ref h2.objs.size,.int ((0:Nat):Int) 0,.none],[]⟩) _ _;refine yv (A:=A.in1) (l:=l) (items:=items) (rs:=rs) hh (zS0 (Nat.lt_trans llt sz)) (zS0 sz) (zS0 llt) (rs.length-0) 0 _ [] rfl (zW0 _) ⟨_,zZ0 _ rfl,rfl,rfl⟩ (l2.push _) ⟨pa.1,λj kv hj=>?_⟩ (λj t hx=>?_) (hd2.push _) (by rw[List.length_nil];omega) λh' tk' hd' kp'=>?_
 . let%[t,ky,hx,%[o,e|r]|hk]:=pa.2 j kv hj;erw[t,ky,hx,%[o,zP0 _ (kp _ _ (up _ _ e))|r],hk]
 . have hj:j<rs.length:=by
    rw[←pa.1];exact(Array.getElem?_eq_some_iff.mp hx).1
   let%[t',ky,hx',%[o,e|r]|hk]:=pa.2 j rs[j] (zN0 hj);rw[hx]at hx';cases hx';erw[zS0 (Nat.lt_trans (lt e) sz),zS0 (lt e)]
 . erw[1,h h' tk' hd' λb o e=>kp' b o (zS0 (lt e)) (zS0 (Nat.lt_trans (lt e) sz)) (zP0 _ (kp _ _ (up _ _ e)))]
end
section
variable {X:Cx}
inductive rDictL(K:W.Frag)(xs:List V)(H:Hp)(Q:VK):Prop
 |mk:∀(a:Addr)(ps:List V)(kvs:List (Key×V)),xs=[.ref a]->SqL K H a ps->kvs.length<=sizeLine->ps.length=kvs.length->(∀(j:Nat)(kv:Key×V),kvs[j]?=some kv->∃t,ps[j]?=some (.ref t)/\SqT K H t [kV kv.1,kv.2])->(∀p,H p=none->Q (.ref p) (upd H p (.dK (dY [] kvs))))->rDictL K xs H Q
theorem vH (hc:X.calm=true):gy X (.type "dict") (rDictL X.K):=by
 intro pins s σ H xs us Q I r h;erw[a,ps,kvs,1,hq,hz,hl,hp,q]at h;cases r with
 | cons ra rr=>
   cases rr;cases ra;let%[its,rv,p|_]:=I.list hq;have ex:∀(j:Nat)(kv:Key×V),kvs[j]?=some kv->∃(u:Value),RelV kv.2 u/\∃t ky,its[j]?=some (.ref t)/\IsTup s.heap t #[ky,u]/\(aY X.prog X.w).is kv.1 ky=true:=λj kv hj=>by
    let%[t,e1|e2]:=hp j kv hj;let%[it2,rv2,p2|_]:=I.tuple e2;let%[v,hv|rr]:=rv.get e1;cases rr;cases rv2 with
    | cons rk rest=>
      cases rest with
      | cons ru rest=>
        cases rest;erw[_,ru,t,_,hv,p2,pW rk]
   obtain ⟨rs,hrs,hkv⟩:∃rs:List (Key×Value),KV kvs rs/\∀(j:Nat)(kv:Key×Value),rs[j]?=some kv->∃t ky,its[j]?=some (.ref t)/\IsTup s.heap t #[ky,kv.2]/\(aY X.prog X.w).is kv.1 ky=true:=by
    clear hz hl hp q;have gen:∀(kvs:List (Key×V))(n:Nat),(∀(j:Nat)(kv:Key×V),kvs[j]?=some kv->∃(u:Value),RelV kv.2 u/\∃t ky,its[n+j]?=some (.ref t)/\IsTup s.heap t #[ky,u]/\(aY X.prog X.w).is kv.1 ky=true) ->
     ∃rs:List (Key×Value),KV kvs rs/\∀(j:Nat)(kv:Key×Value),rs[j]?=some kv->∃t ky,its[n+j]?=some (.ref t)/\IsTup s.heap t #[ky,kv.2]/\(aY X.prog X.w).is kv.1 ky=true:=by
     intro kvs
     induction kvs with
     | nil=>exact λn _=>%[[],.nil|λj kv hj=>by simp at hj]
     | cons kv kvs ih=>
       intro n hx;let%[u,ru,t,ky,e1,e2|e3]:=hx 0 kv rfl;let%[rs,h1|h2]:=ih (n+1) (λj kv' hj=>by
        have:=hx (j+1) kv' hj
        rwa [show n+(j+1)=n+1+j by omega]at this)
       erw[(kv.1,u)::rs,.cons %[1|ru] h1,λj kv' hj=>?_];cases j with
       | zero=>
         have e:(kv.1,u)=kv':=zU0 hj;subst e;erw[t,ky,e1,e2,e3]
       | succ j=>
         have:=h2 j kv' hj
         rwa [show n+1+j=n+(j+1) by omega]at this
    let%[rs,h1|h2]:=gen kvs 0 (λj kv hj=>by rw[Nat.zero_add];exact ex j kv hj);erw[rs,h1,λj kv hj=>by have:=h2 j kv hj;rwa [Nat.zero_add]at this]
   have rl:kvs.length=rs.length:=hrs.length;have il:=rv.length;refine mi (rs:=rs) (I.ok.hd hc) p %[by rw[zR0];omega|λj kv hj=>?_] #[0] λh' tk dd kp=>?_
   . let%[t,ky,e1,e2|e3]:=hkv j kv hj;erw[t,ky,by simpa using e1,e2,e3]
   . have m:=KV.merge (kvs:=[]) (vs:=[]) hrs .nil;have ml:=gO kvs [];erw[.ref s.heap.objs.size,_,I.laid (a:=s.heap.objs.size) (o:=.dK (dY [] kvs)) (t':=tk) kp (zG0 _) (vD (by rw[List.length_nil]at ml;omega) (beq_eq_false_iff_ne.mpr (Ne.symm (zS0 I.big))) m dd),1,q _ (I.hok.fresh (zG0 _))]
end
theorem vI:bootBuiltins ("dict":Str)=some (.type "dict"):=by decide
end L2
namespace Mine
def Pr(n:Int):Prop:=2<=n/\∀k:Int,2<=k->k<=1000->k*k<=n->n % k≠0
def lD(n:Int)(j:Int):Prop:=∀k:Int,2<=k->k<j->k*k<=n/\n % k≠0
theorem pO{a b:Int}(h0:0<=a)(h:a<=b):a*a<=b*b:=Int.mul_le_mul h h h0 (Int.le_trans h0 h)
theorem DJ{n k:Int}(h2:2<=n)(h0:2<=k)(u:lD n k)(h:n<k*k):Pr n:=by
 erw[h2,λj j2 _ js=>?_]
 by_cases c:j<k
 . exact(u j j2 c).2
 . have:=pO (a:=k) (b:=j) #[0] #[0]
   omega
theorem DK{n:Int}(h2:2<=n)(u:lD n 1001):Pr n:=%[h2|λj j2 j3 _=>(u j j2 #[0]).2]
theorem DH{n k:Int}(h0:2<=k)(h1:k<=1000)(hs:k*k<=n)(h:n % k=0):¬ Pr n:=λp=>p.2 k h0 h1 hs h
theorem tZ(n:Int):lD n 2:=λk a b=>by omega
theorem wP(u:lD n k)(hs:k*k<=n)(h:n % k≠0):lD n (k+1):=λj a b=>by
 by_cases c:j<k
 . exact u j a c
 . have e:j=k:=by omega
   subst e;erw[hs,h]
def prB(n:Int):Bool:=decide (2<=n)&&(List.range 999).all λi=>decide (n<((i:Int)+2)*((i:Int)+2))||decide (n % ((i:Int)+2)≠0)
theorem BL(h:prB n=true):Pr n:=by
 unfold prB at h;rw[Bool.and_eq_true]at h;erw[of_decide_eq_true h.1,λk k2 k3 ks=>?_];have q:=List.all_eq_true.mp h.2 (k.toNat-2) (List.mem_range.mpr #[0]);have e:(((k.toNat-2:Nat):Int)+2)=k:=by omega
 rw[e,Bool.or_eq_true]at q;rcases q with q | q
 . have:=of_decide_eq_true q;omega
 . exact of_decide_eq_true q
theorem xy:Pr 999983:=BL ⋯
theorem DI{d:Int}(h:Pr p)(hp:p<1002001)(d0:1<d)(d1:d<p)(hd:d ∣ p):False:=by
 erw[e,he]at hd;have e0:1<e:=by
  by_cases c:e<=1
  . have:d*e<=d*1:=qX0 c #[0]
    omega
  . omega
 by_cases c:d<=e
 . have s:d*d<=p:=by
    have:=qX0 c (show(0:Int)<=d by omega)
    omega
   have t:d<=1000:=by
    by_cases c2:1001<=d
    . have:=pO (a:=1001) (b:=d) #[0] c2
      omega
    . omega
   refine h.2 d #[0] t s ?_;rw[he];exact Int.mul_emod_right d e
 . have c':e<=d:=by omega
   have s:e*e<=p:=by
    have:=Int.mul_le_mul_of_nonneg_right c' (show(0:Int)<=e by omega)
    omega
   have t:e<=1000:=by
    by_cases c2:1001<=e
    . have:=pO (a:=1001) (b:=e) #[0] c2
      omega
    . omega
   refine h.2 e #[0] t s ?_;rw[he,Int.mul_comm];exact Int.mul_emod_right e d
def Cop(x y:Int):Prop:=∀d:Int,0<d->d ∣ x->d ∣ y->d=1
theorem ED{a:Int}(h:Pr p)(hp:p<1002001)(a0:0<a)(a1:a<p):Cop p a:=λd d0 h1 h2=>by
 have:=Int.le_of_dvd a0 h2
 by_cases c:1<d
 . exact(DI h hp c #[0] h1).elim
 . omega
structure Eu(a p former ff rest f:Int):Prop where
 r0:0<rest
 rp:rest<p
 fr:rest<former
 f0:0<=f
 f1:f<p
 g0:0<=ff
 g1:ff<p
 cop:Cop former rest
 d1:p ∣ former-a*ff
 d2:p ∣ rest-a*f
theorem tu{a:Int}(h:Pr p)(hp:p<1002001)(a0:0<a)(a1:a<p):Eu a p p 0 (a % p) 1:=by
 have e:a % p=a:=qR0 #[0] a1;rw[e];erw[a0,a1,a1,3,3,3,3,ED h hp a0 a1,by rw[Int.mul_zero,Int.sub_zero];exact Int.dvd_refl p,by rw[Int.mul_one,Int.sub_self];exact Int.dvd_zero p]
theorem wG(E:Eu a p former ff rest f)(h1:rest≠1):Eu a p rest f (former-former / rest*rest) ((ff-former / rest*f) % p)/\(former-former / rest*rest).toNat<rest.toNat:=by
 have r0:=E.r0;have rp:=E.rp;have em:former-former / rest*rest=former % rest:=by
  have:=Int.emod_add_mul_ediv former rest
  rw[Int.mul_comm]at this;omega
 have l0:0<=former % rest:=qA0 _ #[0];have l1:former % rest<rest:=qF0 _ r0;have cop':Cop rest (former % rest):=λd d0 x y=>by
  refine E.cop d d0 ?_ x
  have:=Int.emod_add_mul_ediv former rest
  rw[←this];exact Int.dvd_add y (Int.dvd_trans x (Int.dvd_mul_right _ _))
 have lz:former % rest≠0:=λz=>by
  have:=cop' rest r0 (Int.dvd_refl _) (by rw[z];exact Int.dvd_zero _)
  exact h1 this
 rw [em];erw[%[3,3,l1,qA0 _ #[0],qF0 _ #[0],E.f0,E.f1,cop',E.d2|6],3];have q:p ∣ (former-a*ff)-former / rest*(rest-a*f):=Int.dvd_sub E.d1 (Int.dvd_trans E.d2 (Int.dvd_mul_left _ _));have q2:p ∣ (ff-former / rest*f)-(ff-former / rest*f) % p:=Int.dvd_self_sub_emod;have q3:p ∣ a*((ff-former / rest*f)-(ff-former / rest*f) % p):=Int.dvd_trans q2 (Int.dvd_mul_left _ _);have q4:=Int.dvd_add q q3;have e2:former-a*ff-former / rest*(rest-a*f)+a*(ff-former / rest*f-(ff-former / rest*f) % p)=former % rest-a*((ff-former / rest*f) % p):=by
  rw[←em];generalize former / rest=t;generalize (ff-t*f) % p=u;rw[Int.mul_sub,Int.mul_sub,Int.mul_sub,Int.mul_left_comm t a f];omega
 rw[e2]at q4;exact q4
theorem AW(E:Eu a p former ff rest f)(h1:rest=1)(hp:1<p):0<f/\f<p/\f*a % p=1:=by
 subst h1;have d2:=E.d2;have f0:=E.f0;have hm:f*a % p=1:=by
  erw[c,hc]at d2;have e:f*a=1+p*(-c):=by
   rw[Int.mul_comm f a,Int.mul_neg];omega
  rw[e,Int.add_mul_emod_self_left];exact qR0 #[0] hp
 erw[6,E.f1,hm]
 by_cases c:f=0
 . subst c;simp at hm
 . omega
end Mine
namespace Mine
def tQ(n d:Int):Prop:=∀k:Int,3<=k->k % 2=1->k<d->n % k≠0
theorem xP(n:Int):tQ n 3:=λk a _ c=>by omega
theorem Am(u:tQ n d)(hd:d % 2=1)(h:n % d≠0):tQ n (d+2):=λk a b c=>by
 by_cases e:k<d
 . exact u k a b e
 . have:k=d:=by omega
   subst this;exact h
theorem yo{n d:Int}(h3:3<=n)(h2:n % 2≠0)(h0:3<=d)(u:tQ n d)(hd:n<d*d):Pr n:=by
 erw[3,λk k2 k3 ks z=>?_];let%[q|hq]:=Int.dvd_of_emod_eq_zero z
 by_cases e:k % 2=1
 . by_cases c:k<d
   . exact u k #[0] e c z
   . have:=pO (a:=d) (b:=k) #[0] #[0]
     omega
 . obtain ⟨j,hj⟩:∃j,k=2*j:=%[k / 2|3]
   rw[hj,Int.mul_assoc]at hq;omega
theorem yq{n:Int}(h2:n % 2=0)(h3:2<n):¬ Pr n:=λp=>p.2 2 #[0] #[0] #[0] h2
theorem yp{n d:Int}(h9:n<=999999)(h0:3<=d)(hs:d*d<=n)(h:n % d=0):¬ Pr n:=λp=>by
 have t:d<=1000:=by
  by_cases c2:1001<=d
  . have:=pO (a:=1001) (b:=d) #[0] c2
    omega
  . omega
 exact p.2 d #[0] t hs h
theorem ut{n d:Int}(h9:n<=999999)(h0:3<=d)(hs:d*d<=n):d<=999:=by
 by_cases c2:1000<=d
 . have:=pO (a:=1000) (b:=d) #[0] c2
   omega
 . omega
theorem BJ{n d:Int}(h0:3<=d)(hs:d*d<=n):d<=n:=by
 have:=qX0 (show(1:Int)<=d by omega) (show(0:Int)<=d by omega)
 omega
end Mine
namespace Mine
def cq:Nat->List (List Int)
 | 0=>[[]]
 | n+1=>(cq n).flatMap λs=>[s++[0],s++[1]]
theorem lx{α β:Type}(f g:α->β):∀l:List α,(l.flatMap λs=>[f s,g s]).length=2*l.length
 | []=>rfl
 | x::r=>by
   have ih:=lx f g r;simp only[List.flatMap_cons,zJ0,zT0,List.length_nil];omega
theorem jv:∀n:Nat,(cq n).length=2 ^ n
 | 0=>rfl
 | n+1=>by rw[cq,lx,jv n,Nat.pow_succ];omega
theorem eM:∀(n:Nat)(s:List Int),s∈cq n->s.length=n
 | 0,s,h=>by
   have:s=[]:=by simpa [cq]using h
   subst this;rfl
 | n+1,s,h=>by
   rw[cq,List.mem_flatMap]at h;erw[t,ht,hs]at h
   have:=eM n t ht
   simp at hs
   rcases hs with rfl | rfl <;> simp [this]
theorem ln{n:Nat}(h:n<=6):2 ^ n<=64:=Nat.pow_le_pow_right ⋯ h
end Mine
namespace Mine
def Pm(p:Int):Prop:=1<p/\∀a:Int,¬ p ∣ a->∃f:Int,p ∣ f*a-1
theorem AV{p:Int}(hp:1<p):∀(n:Nat){former ff rest f:Int},rest.toNat<=n->Eu a p former ff rest f->∃g:Int,g*a % p=1
 | 0,former,ff,rest,f,hn,E=>by
   have:=E.r0
   omega
 | n+1,former,ff,rest,f,hn,E=>by
   by_cases c:rest=1
   . erw[f,(AW E c hp).2.2]
   . let%[E2|lt]:=wG E c;exact AV hp n #[0] E2
theorem wa(h:Pr p)(hp:p<1002001):Pm p:=by
 have p1:1<p:=by have:=h.1;omega
 erw[p1,λa ha=>?_];have a0:0<a % p:=by
  have:=qA0 a (show p≠0 by omega)
  by_cases c:a % p=0
  . exact absurd (Int.dvd_of_emod_eq_zero c) ha
  . omega
 have a1:a % p<p:=qF0 _ #[0];let%[g|hg]:=AV p1 _ (zG0 _) (tu h hp a0 a1);erw[g,6];have e1:g*a % p=1:=by rw[←hg,Int.mul_emod g (a % p),Int.emod_emod,←Int.mul_emod]
 have:=Int.emod_add_mul_ediv (g*a) p
 erw[g*a / p,3]
theorem Pm.mul{a b:Int}(h:Pm p)(hd:p ∣ a*b)(ha:¬ p ∣ a):p ∣ b:=by
 let%[f,k|hk]:=h.2 a ha;erw[m,hm]at hd;erw[f*m-k*b,by grind]
theorem Pm.not_mul{a b:Int}(h:Pm p)(ha:¬ p ∣ a)(hb:¬ p ∣ b):¬ p ∣ a*b:=λz=>hb (h.mul z ha)
def ch:Nat->Nat->Nat
 | _,0=>1
 | 0,_+1=>0
 | n+1,k+1=>ch n k+ch n (k+1)
theorem kM(n:Nat):ch n 0=1:=by cases n <;> rfl
theorem ly:∀(n k:Nat),n<k->ch n k=0
 | 0,k+1,_=>rfl
 | n+1,k+1,h=>by
   show ch n k+ch n (k+1)=0;rw[ly n k #[0],ly n (k+1) #[0]]
theorem Cy(n:Nat):ch n n=1:=by
 induction n with
 | zero=>rfl
 | succ n ih=>
   show ch n n+ch n (n+1)=1;rw[ih,ly n (n+1) #[0]]
theorem rH:∀(n k:Nat),(k+1)*ch (n+1) (k+1)=(n+1)*ch n k
 | 0,0=>rfl
 | 0,k+1=>by
   show(k+2)*(ch 0 (k+1)+ch 0 (k+2))=1*ch 0 (k+1);rw[ly 0 (k+1) #[0],ly 0 (k+2) #[0]]
   simp
 | n+1,0=>by
   have h:=rH n 0;rw[kM n]at h;show(0+1)*(ch (n+1) 0+ch (n+1) (0+1))=(n+1+1)*ch (n+1) 0;rw[kM (n+1)];omega
 | n+1,k+1=>by
   have h1:=rH n k;have h2:=rH n (k+1);show(k+2)*(ch (n+1) (k+1)+ch (n+1) (k+2))=(n+2)*ch (n+1) (k+1);have e:ch (n+1) (k+1)=ch n k+ch n (k+1):=rfl
   grind
def sm(f:Nat->Int):Nat->Int
 | 0=>0
 | n+1=>sm f n+f n
theorem mO{f g:Nat->Int}:∀n,(∀k,k<n->f k=g k)->sm f n=sm g n
 | 0,_=>rfl
 | n+1,h=>by
   show sm f n+f n=sm g n+g n;rw[mO n (λk hk=>h k #[0]),h n #[0]]
theorem zm(f g:Nat->Int):∀n,sm (λk=>f k+g k) n=sm f n+sm g n
 | 0=>rfl
 | n+1=>by
   show sm (λk=>f k+g k) n+(f n+g n)=(sm f n+f n)+(sm g n+g n)
   rw[zm f g n];omega
theorem zj(c:Int)(f:Nat->Int):∀n,sm (λk=>c*f k) n=c*sm f n
 | 0=>by simp [sm]
 | n+1=>by
   show sm (λk=>c*f k) n+c*f n=c*(sm f n+f n)
   rw[zj c f n]
   grind
theorem jZ(f:Nat->Int):∀n,sm f (n+1)=f 0+sm (λk=>f (k+1)) n
 | 0=>by simp [sm]
 | n+1=>by
   show sm f (n+1)+f (n+1)=f 0+(sm (λk=>f (k+1)) n+f (n+1))
   rw[jZ f n];omega
theorem zk{p:Int}{f:Nat->Int}:∀n,(∀k,k<n->p ∣ f k)->p ∣ sm f n
 | 0,_=>%[(0)|by simp [sm]]
 | n+1,h=>Int.dvd_add (zk n λk hk=>h k #[0]) (h n #[0])
theorem Dh(a:Int):∀n:Nat,(a+1) ^ n=sm (λk=>(ch n k:Int)*a ^ k) (n+1)
 | 0=>by simp [sm,ch]
 | n+1=>by
   have ih:=Dh a n;rw[Int.pow_succ,ih,jZ (λk=>((ch (n+1) k:Nat):Int)*a ^ k) (n+1)];have e1:sm (λk=>((ch (n+1) (k+1):Nat):Int)*a ^ (k+1)) (n+1)=a*sm (λk=>(ch n k:Int)*a ^ k) (n+1)+sm (λk=>(ch n (k+1):Int)*a ^ (k+1)) (n+1):=by
    rw[←zj,←zm];refine mO _ λk _=>?_
    have:ch (n+1) (k+1)=ch n k+ch n (k+1):=rfl
    rw[this,Int.natCast_add,Int.pow_succ]
    grind
   have e2:sm (λk=>(ch n k:Int)*a ^ k) (n+1)=1+sm (λk=>(ch n (k+1):Int)*a ^ (k+1)) (n+1):=by
    rw[jZ]
    have:sm (λk=>(ch n (k+1):Int)*a ^ (k+1)) (n+1)=sm (λk=>(ch n (k+1):Int)*a ^ (k+1)) n:=by
     show _+(ch n (n+1):Int)*a ^ (n+1)=_;rw[ly n (n+1) #[0]]
     simp
    rw[this,kM]
    simp
   rw[e1,kM]
   grind
theorem EF(h:Pm p){n k:Nat}(hn:(n:Int)+1=p)(hk:k<n):p ∣ ((ch (n+1) (k+1):Nat):Int):=by
 have e:((k:Int)+1)*((ch (n+1) (k+1):Nat):Int)=p*((ch n k:Nat):Int):=by
  have:=rH n k
  rw[←hn];exact_mod_cast this
 refine h.mul (a:=(k:Int)+1) %[_|e] λhd=>?_
 have:=Int.le_of_dvd #[0] hd
 omega
theorem oK(h:Pm p):∀a:Nat,p ∣ (a:Int) ^ p.toNat-a
 | 0=>by
   have:p.toNat≠0:=by have:=h.1;omega
   simp [Int.zero_pow this]
 | a+1=>by
   have ih:=oK h a;obtain⟨n,hn⟩:∃n:Nat,p.toNat=n+1:=%[p.toNat-1|by have:=h.1;omega]
   have hp:(n:Int)+1=p:=by have:=h.1;omega
   rw [hn]at ih ⊢;have b:=Dh (a:Int) (n+1);have e:sm (λk=>(ch (n+1) k:Int)*(a:Int) ^ k) (n+1+1)=sm (λk=>(ch (n+1) (k+1):Int)*(a:Int) ^ (k+1)) n+(a:Int) ^ (n+1)+1:=by
    rw[jZ];show _+(sm _ n+(ch (n+1) (n+1):Int)*(a:Int) ^ (n+1))=_;rw[Cy,kM]
    simp
    omega
   have d:p ∣ sm (λk=>(ch (n+1) (k+1):Int)*(a:Int) ^ (k+1)) n:=zk n λk hk=>Int.dvd_mul_of_dvd_left (EF h hp hk)
   erw[u,hu]at ih;erw[v,hv]at d;erw[u+v,6];rw[Int.natCast_add];show((a:Int)+1) ^ (n+1)-((a:Int)+1)=_;rw[b,e]
   grind
theorem Ey{a:Int}(h:Pm p)(ha:¬ p ∣ a)(a0:0<=a):p ∣ a*a ^ (p-2).toNat-1:=by
 obtain⟨n,hn⟩:∃n:Nat,p.toNat=n+2:=%[p.toNat-2|by have:=h.1;omega]
 have e:(p-2).toNat=n:=by omega
 have f:=oK h a.toNat;rw[Int.toNat_of_nonneg a0,hn]at f;rw[e];have g:a ^ (n+2)-a=a*(a*a ^ n-1):=by
  rw[Int.pow_succ,Int.pow_succ]
  grind
 rw[g]at f;exact h.mul f ha
def IsPoly:Nat->(Int->Int)->Prop
 | 0,f=>∀x,f x=0
 | n+1,f=>∃(a:Int)(g:Int->Int),IsPoly n g/\∀x,f x=a+x*g x
theorem IsPoly.congr:∀{n:Nat}{f g:Int->Int},IsPoly n f->(∀x,g x=f x)->IsPoly n g
 | 0,_,_,h,e=>λx=>(e x).trans (h x)
 | _+1,_,_,⟨a,k,hk,h⟩,e=>%[a,k,hk|λx=>(e x).trans (h x)]
theorem IsPoly.zero:∀n:Nat,IsPoly n λ_=>0
 | 0=>λ_=>rfl
 | n+1=>%[(0),λ_=>0,IsPoly.zero n|λx=>by simp]
theorem IsPoly.up:∀{n:Nat}{f:Int->Int},IsPoly n f->IsPoly (n+1) f
 | 0,f,h=>%[(0),λ_=>0,λ_=>rfl|λx=>by rw[h x];simp]
 | n+1,f,⟨a,g,hg,h⟩=>%[a,g,hg.up|h]
theorem IsPoly.upTo{n:Nat}{f:Int->Int}(h:IsPoly n f):∀m,n<=m->IsPoly m f:=λm hm=>by
 obtain⟨k,rfl⟩:∃k,m=n+k:=%[m-n|3]
 clear hm
 induction k with
 | zero=>exact h
 | succ k ih=>exact ih.up
theorem IsPoly.add:∀{n:Nat}{f g:Int->Int},IsPoly n f->IsPoly n g->IsPoly n λx=>f x+g x
 | 0,f,g,h,k=>λx=>by show f x+g x=0;rw[h x,k x];rfl
 | n+1,f,g,⟨a,u,hu,h⟩,⟨b,v,hv,k⟩=>%[a+b,λx=>u x+v x,hu.add hv|λx=>by show f x+g x=a+b+x*(u x+v x);rw[h x,k x];grind]
theorem IsPoly.mul(c:Int):∀{n:Nat}{f:Int->Int},IsPoly n f->IsPoly n λx=>c*f x
 | 0,f,h=>λx=>by show c*f x=0;rw[h x];simp
 | n+1,f,⟨a,u,hu,h⟩=>%[c*a,λx=>c*u x,hu.mul c|λx=>by show c*f x=c*a+x*(c*u x);rw[h x];grind]
theorem IsPoly.lin{n:Nat}{f:Int->Int}(h:IsPoly n f)(r:Int):IsPoly (n+1) λx=>(x-r)*f x:=by
 have h1:IsPoly (n+1) λx=>x*f x:=%[(0),f,h|λx=>by simp]
 exact(h1.add (h.up.mul (-r))).congr λx=>by grind
theorem IsPoly.div:∀{n:Nat}{f:Int->Int},IsPoly (n+1) f->∀r:Int,∃q,IsPoly n q/\∀x,f x-f r=(x-r)*q x
 | 0,f,⟨a,g,hg,h⟩,r=>%[λ_=>0,λ_=>rfl|λx=>by rw[h x,h r,hg x,hg r];simp]
 | n+1,f,⟨a,g,hg,h⟩,r=>by
   let%[q,hq|e]:=IsPoly.div hg r;erw[λx=>g x+r*q x,hg.add (hq.up.mul r),λx=>?_]
   have:=e x
   rw[h x,h r]
   grind
theorem IsPoly.roots(hp:Pm p):∀{n:Nat}{f:Int->Int}(rs:List Int),IsPoly n f->rs.length=n->rs.Pairwise (λa b=>¬ p ∣ b-a)->(∀r∈rs,p ∣ f r)->∀x,p ∣ f x
 | 0,f,_,h,_,_,_,x=>%[(0)|by rw[h x];simp]
 | n+1,f,[],_,hl,_,_,_=>by simp at hl
 | n+1,f,r::rs,h,hl,hd,hr,x=>by
   let%[q,hq|e]:=h.div r;have hd':=List.pairwise_cons.mp hd;have z:=IsPoly.roots hp rs hq (by simpa using hl) hd'.2 (λs hs=>by
    have h1:p ∣ (s-r)*q s:=by
     rw[←e s];exact Int.dvd_sub (hr s (qG0 _ hs)) (hr r zY0)
    exact hp.mul h1 (hd'.1 s hs)) x
   have:f x=f r+(x-r)*q x:=by have:=e x;omega
   rw[this];exact Int.dvd_add (hr r zY0) (Int.dvd_mul_of_dvd_right z)
end Mine
namespace Mine
def pr(g:Nat->Int):Nat->Int
 | 0=>1
 | n+1=>pr g n*g n
theorem nO{f g:Nat->Int}:∀n,(∀k,k<n->f k=g k)->pr f n=pr g n
 | 0,_=>rfl
 | n+1,h=>by
   show pr f n*f n=pr g n*g n;rw[nO n (λk hk=>h k #[0]),h n #[0]]
theorem nK(g:Nat->Int):∀n,pr g (n+1)=g 0*pr (λk=>g (k+1)) n
 | 0=>by simp [pr]
 | n+1=>by
   show pr g (n+1)*g (n+1)=g 0*(pr (λk=>g (k+1)) n*g (n+1))
   rw[nK g n,Int.mul_assoc]
def px(x:Int)(i:Nat):Nat->Int
 | 0=>1
 | n+1=>if n=i then px x i n else px x i n*(x-n)
theorem vY(i:Nat):∀n,IsPoly (if i<n then n else n+1) λx=>px x i n
 | 0=>%[(1),λ_=>0,λ_=>rfl|λx=>by simp [px]]
 | n+1=>by
   have ih:=vY i n
   by_cases c:n=i
   . subst c;rw[zB0 (qU0 n)]at ih;rw[zE0 (Nat.lt_succ_self n)];exact ih.congr λx=>by simp [px]
   . have e:∀x,px x i (n+1)=(x-n)*px x i n:=λx=>by
      show(if n=i then px x i n else px x i n*(x-n))=_;rw[zB0 c,Int.mul_comm]
     by_cases c2:i<n
     . rw[zE0 c2]at ih;rw[zE0 #[0]];exact(ih.lin n).congr e
     . rw[zB0 c2]at ih;rw[zB0 #[0]];exact(ih.lin n).congr e
theorem qO{k i:Nat}(h:k≠i):∀n,k<n->px (k:Int) i n=0
 | n+1,hk=>by
   show(if n=i then px (k:Int) i n else px (k:Int) i n*((k:Int)-n))=0
   by_cases c:n=i
   . rw[zE0 c];exact qO h n #[0]
   . rw [zB0 c]
     by_cases c2:k=n
     . subst c2
       simp
     . rw [qO h n #[0]]
       simp
def lag(v u:Nat->Int)(n:Nat)(x:Int):Int:=sm (λi=>v i*px x i n*u i) n
theorem BC{n m:Nat}{f:Nat->Int->Int}:(∀i,i<m->IsPoly n (f i))->IsPoly n λx=>sm (λi=>f i x) m:=by
 induction m with
 | zero=>exact λ_=>IsPoly.zero n
 | succ m ih=>exact λh=>(ih λi hi=>h i #[0]).add (h m #[0])
theorem sU(v u:Nat->Int)(n:Nat):IsPoly n (lag v u n):=BC λi hi=>by
 have h:=vY i n;rw[zE0 hi]at h;exact(h.mul (v i*u i)).congr λx=>by grind
theorem zh{f:Nat->Int}{k:Nat}:∀n,k<n->(∀i,i<n->i≠k->f i=0)->sm f n=f k
 | n+1,hk,h=>by
   show sm f n+f n=f k
   by_cases c:k=n
   . subst c;have z:sm f k=0:=by
      have:sm f k=sm (λ_=>0) k:=mO k λi hi=>h i #[0] #[0]
      rw[this];clear this h hk
      induction k with
      | zero=>rfl
      | succ k ih=>show sm (λ_=>0) k+0=0;rw[ih];rfl
     rw[z]
     simp
   . rw [zh n #[0] (λi hi=>h i #[0]),h n #[0] #[0]]
     simp
def Wgt(p:Int)(n:Nat)(u:Nat->Int):Prop:=∀i,i<n->p ∣ px (i:Int) i n*u i-1
theorem vv{k:Nat}(hu:Wgt p n u)(hk:k<n):p ∣ lag v u n k-v k:=by
 unfold lag;rw[zh n hk λi hi hne=>by rw[qO (Ne.symm hne) n hk];simp];let%[m|hm]:=hu k hk;erw[v k*m,by grind]
theorem far{p:Int}{n:Nat}(hn:(n:Int)<=p):((List.range n).map λk:Nat=>(k:Int)).Pairwise λa b=>¬ p ∣ b-a:=by
 rw[List.pairwise_map];refine List.Pairwise.imp_of_mem (fun{a b} ha hb h=>?_) List.pairwise_lt_range;intro d
 have:=Int.le_of_dvd #[0] d
 have hb':=List.mem_range.mp hb;omega
theorem alike(hp:Pm p){n:Nat}(hn:(n:Int)<=p){f g:Int->Int}(hf:IsPoly n f)(hg:IsPoly n g)(h:∀k:Nat,k<n->p ∣ f k-g k)(x:Int):p ∣ f x-g x:=by
 have hd:IsPoly n λx=>f x-g x:=(hf.add (hg.mul (-1))).congr λx=>by grind
 refine hd.roots hp ((List.range n).map λk:Nat=>(k:Int)) (by simp) (far hn) (λr hr=>?_) x;let%[k,hk|1]:=List.mem_map.mp hr;exact h k (List.mem_range.mp hk)
theorem sT(hp:Pm p){n:Nat}(hn:(n:Int)<=p){v:Nat->Int}{P:Int->Int}(hu:Wgt p n u)(hP:IsPoly n P)(h:∀k:Nat,k<n->p ∣ v k-P k)(x:Int):p ∣ lag v u n x-P x:=
 alike hp hn (sU v u n) hP (λk hk=>by
  have h1:=vv (v:=v) hu hk;have h2:=h k hk
  have:lag v u n k-P k=(lag v u n k-v k)+(v k-P k):=by omega
  rw[this];exact Int.dvd_add h1 h2) x
theorem AB(hp:Pm p){n:Nat}(hn:(n:Int)<=p)(hu:Wgt p n u)(hu':Wgt p n u')(x:Int):p ∣ lag v u n x-lag v u' n x:=
 sT hp hn hu (sU v u' n) (λk hk=>by
  let%[m|hm]:=vv (v:=v) hu' hk;erw[-m,by grind]) x
theorem nI(x:Int)(i:Nat):∀m,px x i (i+1+m)=pr (λj=>x-j) i*pr (λj=>x-(i+1+j:Nat)) m
 | 0=>by
   have h:∀k,k<=i->px x i k=pr (λj=>x-j) k:=λk=>by
    induction k with
    | zero=>exact λ_=>rfl
    | succ k ih=>
      intro hk;show(if k=i then px x i k else px x i k*(x-k))=pr (λj=>x-j) k*(x-k)
      rw[zB0 #[0],ih #[0]]
   show(if i=i then px x i i else _)=_*1;rw[zE0 rfl,h i (zG0 _),Int.mul_one]
 | m+1=>by
   show(if i+1+m=i then _ else px x i (i+1+m)*(x-(i+1+m:Nat)))=pr (λj=>x-j) i*(pr (λj=>x-(i+1+j:Nat)) m*(x-(i+1+m:Nat)))
   rw[zB0 #[0],nI x i m,Int.mul_assoc]
theorem vZ(x:Int)(i:Nat):∀m,pr (λj=>x-(i+m:Nat)+j) m=pr (λj=>x-(i+1+j:Nat)) m
 | 0=>rfl
 | m+1=>by
   rw[nK];show _=pr (λj=>x-(i+1+j:Nat)) m*(x-(i+1+m:Nat))
   have e:pr (λk=>x-(i+(m+1):Nat)+(k+1:Nat)) m=pr (λj=>x-(i+m:Nat)+j) m:=nO m λk _=>by omega
   rw[e,vZ x i m,Int.mul_comm]
   congr 1
   omega
def fac:Nat->Int
 | 0=>1
 | n+1=>fac n*((n:Int)+1)
theorem tt:∀n:Nat,pr (λj=>(n:Int)-j) n=fac n
 | 0=>rfl
 | n+1=>by
   rw[nK];have e:pr (λk=>((n+1:Nat):Int)-(k+1:Nat)) n=pr (λj=>(n:Int)-j) n:=nO n λk _=>by omega
   rw[e,tt n];show((n+1:Nat)-(0:Nat):Int)*fac n=fac n*((n:Int)+1)
   rw[Int.mul_comm]
   congr 1
theorem wF(i:Nat):∀m:Nat,pr (λj=>(i:Int)-(i+1+j:Nat)) m=(-1) ^ m*fac m
 | 0=>rfl
 | m+1=>by
   show pr _ m*((i:Int)-(i+1+m:Nat))=(-1) ^ (m+1)*(fac m*((m:Int)+1))
   rw[wF i m,Int.pow_succ]
   have:((i:Int)-(i+1+m:Nat))=-((m:Int)+1):=by omega
   rw[this]
   grind
theorem zK(i m:Nat):px (i:Int) i (i+1+m)=fac i*((-1) ^ m*fac m):=by rw[nI,tt,wF]
theorem tj:∀(k d:Nat),fac d*pr (λj=>((d+k:Nat):Int)-j) k=fac (d+k)
 | 0,d=>by simp [pr]
 | k+1,d=>by
   have ih:=tj k (d+1);rw[show d+1+k=d+(k+1) by omega]at ih;rw[←ih];show fac d*(pr (λj=>((d+(k+1):Nat):Int)-j) k*(((d+(k+1):Nat):Int)-k))=fac d*((d:Int)+1)*pr (λj=>((d+(k+1):Nat):Int)-j) k
   have:(((d+(k+1):Nat):Int)-k)=(d:Int)+1:=by omega
   rw[this]
   grind
theorem rF(hp:Pm p):∀n:Nat,(n:Int)<p->¬ p ∣ fac n
 | 0,_=>λd=>by
   have:=Int.le_of_dvd ⋯ (show p ∣ 1 from d)
   have:=hp.1
   omega
 | n+1,h=>hp.not_mul (rF hp n #[0]) λd=>by
   have:=Int.le_of_dvd #[0] d
   omega
theorem vR(m:Nat):((-1:Int) ^ m)*(-1) ^ m=1:=by
 induction m with
 | zero=>rfl
 | succ m ih=>rw[Int.pow_succ];grind
theorem DN(hp:Pm p){n i:Nat}(hn:(n:Int)<=p)(hi:i<n):¬ p ∣ px (i:Int) i n:=by
 obtain⟨m,rfl⟩:∃m,n=i+1+m:=%[n-(i+1)|3]
 rw[zK];refine hp.not_mul (rF hp i #[0]) (hp.not_mul (λd=>?_) (rF hp m #[0]));erw[k,hk]at d;have s:=vR m
 have:p ∣ 1:=%[k*(-1) ^ m|by grind]
 have:=Int.le_of_dvd ⋯ this
 have:=hp.1
 omega
theorem Bp{p:Int}{last:Nat}{sh:Nat->Int}(h:∀k,k<=last->p ∣ sh k*fac k-1):Wgt p (last+1) λi=>(-1) ^ (last-i)*(sh i*sh (last-i)):=λi hi=>by
 obtain⟨m,rfl⟩:∃m,last=i+m:=%[last-i|3]
 show p ∣ px (i:Int) i (i+m+1)*((-1) ^ (i+m-i)*(sh i*sh (i+m-i)))-1;rw[show i+m+1=i+1+m by omega,zK,show i+m-i=m by omega];let%[a|ha]:=h i #[0];let%[b|hb]:=h m #[0];have s:=vR m;erw[a*(sh m*fac m)+b,6];have e:fac i*((-1) ^ m*fac m)*((-1) ^ m*(sh i*sh m))=((-1) ^ m*(-1) ^ m)*((sh i*fac i)*(sh m*fac m)):=by grind
 rw[e,s]
 grind
end Mine
namespace Mine
theorem IsPoly.prod:∀{m n:Nat}{f g:Int->Int},IsPoly (m+1) f->IsPoly (n+1) g->IsPoly (m+n+1) λx=>f x*g x
 | 0,n,f,g,⟨a,u,hu,e⟩,hg=>by
   rw[Nat.zero_add];exact(hg.mul a).congr λx=>by rw[e x,hu x];simp
 | m+1,n,f,g,⟨a,u,hu,e⟩,hg=>by
   have ih:=IsPoly.prod hu hg;have h1:IsPoly (m+n+1+1) λx=>x*(u x*g x):=%[(0),_,ih|λx=>by simp]
   have h2:IsPoly (m+n+1+1) λx=>a*g x:=(hg.mul a).upTo _ #[0]
   rw[show m+1+n+1=m+n+1+1 by omega];exact(h2.add h1).congr λx=>by rw[e x];grind
theorem IsPoly.const(c:Int)(n:Nat):IsPoly (n+1) λ_=>c:=%[c,λ_=>0,IsPoly.zero n|λx=>by simp]
theorem IsPoly.self:IsPoly 2 λx=>x:=%[(0),λ_=>1,IsPoly.const 1 0|λx=>by simp]
theorem oN(p x:Int):p ∣ x % p-x:=⟨-(x / p),by
 have:=Int.emod_add_mul_ediv x p
 rw[Int.mul_neg];omega⟩
end Mine
namespace Mine
open PySem L2
theorem Ee{us:List Value}(h:us.length=1):∃a,us=[a]:=by
 cases us with
 | nil=>cases h
 | cons a r=>
   cases r with
   | nil=>erw[a,1]
   | cons _ _=>cases h
theorem xX{us:List Value}{n:Nat}(h:us.length=n+1):∃a r,us=a::r/\r.length=n:=by
 cases us with
 | nil=>cases h
 | cons a r=>erw[a,r,1,Nat.succ.inj h]
theorem Cp{us:List Value}(h:us.length=2):∃a b,us=[a,b]:=by
 let%[a,r,1|h1]:=xX h;let%[b|1]:=Ee h1;erw[a,b,1]
theorem Ed{us:List Value}(h:us.length=3):∃a b c,us=[a,b,c]:=by
 let%[a,r,1|h1]:=xX h;let%[b,c|1]:=Cp h1;erw[a,b,c,1]
theorem Co{us:List Value}(h:us.length=4):∃a b c d,us=[a,b,c,d]:=by
 let%[a,r,1|h1]:=xX h;let%[b,c,d|1]:=Ed h1;erw[a,b,c,d,1]
theorem len5{us:List Value}(h:us.length=5):∃a b c d e,us=[a,b,c,d,e]:=by
 let%[a,r,1|h1]:=xX h;let%[b,c,d,e|1]:=Co h1;erw[a,b,c,d,e,1]
theorem len6{us:List Value}(h:us.length=6):∃a b c d e f,us=[a,b,c,d,e,f]:=by
 let%[a,r,1|h1]:=xX h;let%[b,c,d,e,f|1]:=len5 h1;erw[a,b,c,d,e,f,1]
theorem len7{us:List Value}(h:us.length=7):∃a b c d e f g,us=[a,b,c,d,e,f,g]:=by
 let%[a,r,1|h1]:=xX h;let%[b,c,d,e,f,g|1]:=len6 h1;erw[a,b,c,d,e,f,g,1]
def top(i:Nat):Stmt:=PySem.Challenge.pw_asktally_k86_whole_disputes.main.body.getD i (.Pass %[(0),(0),(0)|(0)])
abbrev jS:Stmt:=top 2
abbrev iy:Stmt:=top 3
abbrev jN:Stmt:=top 5
abbrev fO:Stmt:=top 6
abbrev jP:Stmt:=top 7
abbrev cX:Stmt:=top 8
abbrev fX:Stmt:=top 10
abbrev iz:Stmt:=top 11
abbrev nv:Stmt:=top 12
abbrev jT:Stmt:=top 13
abbrev fQ:Stmt:=top 14
abbrev io:Stmt:=top 15
abbrev jb:Stmt:=top 17
abbrev jO:Stmt:=top 18
abbrev im:Stmt:=top 22
abbrev jQ:Stmt:=top 23
abbrev li:Stmt:=top 24
abbrev kY:Stmt:=top 30
abbrev gJ:Stmt:=top 31
abbrev ik:Stmt:=top 40
abbrev fV:Stmt:=top 41
abbrev iZ:Stmt:=top 45
abbrev fe:Stmt:=top 46
abbrev ip:Stmt:=top 47
abbrev iq:Stmt:=top 48
abbrev iY:Stmt:=top 49
abbrev lh:Stmt:=top 59
abbrev iw:Stmt:=top 60
abbrev gK:Stmt:=top 68
abbrev iA:Stmt:=top 69
abbrev iX:Stmt:=top 70
abbrev fU:Stmt:=top 71
abbrev gC:Stmt:=top 72
abbrev cS:Stmt:=top 73
abbrev ny:Stmt:=top 77
abbrev je:Stmt:=top 78
abbrev nu:Stmt:=top 80
abbrev nj:Stmt:=top 81
abbrev bu:Stmt:=top 82
abbrev km:Stmt:=top 83
abbrev fi:Stmt:=top 84
abbrev nn:Stmt:=top 85
abbrev iu:Stmt:=top 86
abbrev lg:Stmt:=top 87
abbrev ko:Stmt:=top 88
abbrev jR:Stmt:=top 89
abbrev nq:Stmt:=top 90
abbrev ir:Stmt:=top 91
abbrev fg:Stmt:=top 92
abbrev jw:Stmt:=top 93
abbrev qG:Stmt:=top 94
abbrev ld:Stmt:=top 95
abbrev kj:Stmt:=top 96
section
variable {P:Program} {w:World} {K:W.Frag} {mg:Str->Option Value} {base:Heap}
abbrev jf:Stmt:=top 20
abbrev lc:Stmt:=top 27
abbrev uC:Stmt:=top 29
abbrev uG:Stmt:=top 44
structure Bl(mg:Str->Option Value):Prop where
 len:mg "len"=none
 range:mg "range"=none
 isinstance:mg "isinstance"=none
 int:mg "int"=none
 bool:mg "bool"=none
 list:mg "list"=none
 tuple:mg "tuple"=none
 max:mg "max"=none
 reversed:mg "reversed"=none
 enumerate:mg "enumerate"=none
 sum:mg "sum"=none
 all:mg "all"=none
 zip:mg "zip"=none
 dict:mg "dict"=none
theorem wE(z:Int):0<=z % 2147483646+1/\z % 2147483646+1<=2147483646:=by omega
theorem eX:FnScope ["_law_script","_law_k","_law_cell","_law_own"] ["_law_script","_law_k"] (ak nu):=%[1,1,1,4,1,4|4]
theorem xJ   (F:Fun K "_law_feed" "_law_feed" nu f fd) (hlen:mg "len"=none):FnOk P w K mg base CX0 1 f fd ["_law_script","_law_k"] (spFeed K):=by
 exists eX
 erw[a,ns,k,1,hS,h63,k0,k1,q]at h;refine⟨_,(aa #[am,2,eX,aj aQ (aj cc ac (pv 1)) ac]
  (aa (aB (af cN (pv 1) (aD aE rfl hlen PySem.boot_len %[0|aH]) (ai _)) (ad #[am,2,eX,ay ix_list (pv 0) (pv 1) (λ_ _=>rfl)]) (ad (aB (af gY (aD aE rfl hlen PySem.boot_len %[0|aH]) ac (ai _)) (ad #[am,2,eX,aj aQ (aj cc (aj aO (ay ix_list (pv 0) (aj aO (pv 1) (aD aE rfl hlen PySem.boot_len %[0|aH])) (λ_ _=>rfl)) ac) ac) (aj cc ac (pv 1))]) av)))
  (aa #[am,3,eX,ac]
  (aa (aB (af CZ (pv 2) (aj uT ac ac) (ai _)) (ad #[am,3,eX,pv 2]) av)
  (ad (ao (ci %[3,aj aQ (aj aO (aj aQ (aj cc (aj aO (pv 2) ac) ac) (aj cc ac (pv 1))) ac) ac|aH]))))))),?_⟩
 have hl:(ns.map V.int).length=ns.length:=zH0 _;have hp:(10:Int) ^ (18:Int).toNat=1000000000000000000:=by decide
 erw[0,2,.inl %[4|4],2,6];erw[0,0,a,0,.inl hS,2,0,6];refine hC (λc=>?b1) (λc=>?b2)
 case' b1=>
  have c':k<(((ns.map V.int).length:Nat):Int):=of_decide_eq_true c;rw[hl]at c';let%[v|hv]:=Be (ns:=ns) k0 c';erw[0,0,a,_,2,hS,hv,6]
 case' b2=>
  erw[0,a,0,.inl hS,2,0,6];refine hC (λc2=>?b3) (λc2=>?b4)
  case' b3=>
   have c':(0:Int)<(((ns.map V.int).length:Nat):Int):=of_decide_eq_true c2;have m0:=qA0 k (b:=(((ns.map V.int).length:Nat):Int)) #[0];have m1:=qF0 k c';let%[v|hv]:=Be (ns:=ns) m0 (by rw[hl]at m1 ⊢;exact m1);have n0:=qA0 v (b:=2147483629) ⋯;have n1:=qF0 v (b:=2147483629) ⋯;erw[0,0,0,a,0,.inl hS,2,c',a,_,2,hS,hv,2,(by show(0:Int)<_;decide),2,.inr %[4|4],0,2,.inl %[4|4],2,6]
 all_goals
  erw[0,2,%[4,4|4],2,0,6];refine hC (λc3=>?_) (λc3=>?_)
  . have c4:=of_decide_eq_true c3;rw[hp]at c4;erw[0,0,0,2,(by show(0:Int)<_;decide),2,.inr %[4|4],0,2,.inl %[4|4],2,2,(by show(0:Int)<_;decide),2,(by show 2<=sizeLine;decide),λp hp=>?_];refine q p _ hp (zC0 hp _) %[_,_,aC,Int.le_trans ⋯ c4,(wE _).1|(wE _).2]
  . erw[0,0,2,(by show(0:Int)<_;decide),2,.inr %[4|4],0,2,.inl %[4|4],2,2,(by show(0:Int)<_;decide),2,(by show 2<=sizeLine;decide),λp hp=>?_];refine q p _ hp (zC0 hp _) %[_,_,aC,Int.le_refl 0,(wE _).1|(wE _).2]
theorem lK:FnScope ["_law_feed_here","_law_many","_law_digit","_law_one"] ["_law_feed_here","_law_many"] (ak nj):=%[1,1,1,4,1,4|4]
theorem xG   (F:Fun K "_law_take" "_law_take" nj f fd):FnOk P w K mg base CX0 1 f fd ["_law_feed_here","_law_many"] spTake:=by
 exists lK
 erw[f,m,1,%[own,st,hf,o0,s0|s1],m0,m1,q]at h;refine⟨_,(aa (aB (af gY (ay ix_list (pv 0) ac (λ_ _=>rfl)) ac (ai _)) (aa #[am,2,lK,aj aO (ay ix_list (pv 0) ac (λ_ _=>rfl)) (pv 1)]
  (aa (uH (aj zY (ay ix_list (pv 0) ac (λ_ _=>rfl)) (pv 1)) (uN (pv 0) ac mV))
  (ad (ao (pv 2))))) av)
  (aa #[am,3,lK,aj aO (aj cc (ay ix_list (pv 0) ac (λ_ _=>rfl)) ac) ac]
  (aa (uH (aj aQ (aj aO (aj aQ (aj cc (pv 3) ac) ac) ac) ac) (uN (pv 0) ac mV))
  (ad (ao (aj aO (aj wp (aj aQ (aj cc (pv 3) ac) (ay ix_list (pv 0) ac (λ_ _=>rfl))) ac) (pv 1))))))),?_⟩
 erw[0,f,_,(0),0,1,zF0 hf,1,2,0,6];refine hC (λc=>?_) (λc=>?_)
 . erw[0,f,_,(0),0,1,zF0 hf,1,0,2,m0,6];erw[0,f,_,(0),0,1,zF0 hf,1,0,2,%[m0|m1],0,f,_,(0),(0),1,1,hf,1,6];erw[0,6];exact q _ _ (qA0 _ #[0]) (qF0 _ m0) ⟨_,_,aC,Int.ediv_nonneg o0 #[0],s0,s1⟩ (SameBut.upd _)
 . have a0:=qA0 (st*69621) (b:=2147483647) ⋯;have a1:=qF0 (st*69621) (b:=2147483647) ⋯;erw[0,f,_,(1),0,1,zF0 hf,1,2,.inr %[4|4],2,(by show(0:Int)<_;decide),6];erw[0,2,.inr %[4|4],2,2,(by show(0:Int)<_;decide),2,0,f,_,(1),(1),1,1,hf,1,6];have b0:=qA0 (st*69621 % 2147483647*48271+30103) (b:=2147483646) ⋯;have b1:=qF0 (st*69621 % 2147483647*48271+30103) (b:=2147483646) ⋯;erw[0,2,.inr %[4|4],0,f,_,(1),0,1,zF0 aC,1,2,2,%[4|4],0,2,m0,6];exact q _ _ (qA0 _ #[0]) (qF0 _ m0) ⟨_,_,aC,o0,by omega,by omega⟩ (SameBut.upd _)
theorem f7:FnScope ["_law_feed_here","_law_names_here","_law_room","_law_deep","_law_form","_law_more","_law_one","_law_word"] ["_law_feed_here","_law_names_here","_law_room","_law_deep"] (ak km):=%[1,1,1,4,1,4|4]
theorem lf{a X Y B:Prop}[Decidable a](x:X)(h:¬ a->X->B):if decide a=true then(if true=true then X else Y)else B:=by
 by_cases c:a
 . rw[decide_eq_true c];exact du (du x)
 . rw[decide_eq_false c];exact cG (h c x)
theorem wW {n:Nat}   (F:Fun K "_law_tree" "_law_tree" km f fd) (hlen:mg "len"=none) (aS:Cal P w K mg base 1 "_law_take" ["_law_feed_here","_law_many"] spTake)
 (eN:Cal P w K mg base (n+2) "_law_tree" ["_law_feed_here","_law_names_here","_law_room","_law_deep"] (spTree n)):FnOk P w K mg base CX0 (n+3) f fd ["_law_feed_here","_law_names_here","_law_room","_law_deep"] (spTree (n+1)):=by
 exists f7
 erw[f,a,room,deep,ns,1,hF,hN,nl,r1,r100,d1,dn,q]at h;refine⟨_,(aa #[am,4,f7,ag aS hr (Nat.succ_le_succ (zW0 _)) rfl %[0,ac|aH]]
  (aa (aB (PW.pt (eD (af cN (pv 2) ac (ai _)) (eD (af cN (pv 3) ac (ai _)) (dA (af aI (pv 4) ac (ai _)))))) (aa (aB (PW.pt (eD (af aI (aj aO (pv 4) ac) ac (ai _)) (dA (af aI (aD aE rfl hlen PySem.boot_len %[1|aH]) ac (ai _))))) (ad (ao (ay ix_list (ci %[aG %[au|aH],aG %[au|aH]|aH]) (ag aS hr (Nat.succ_le_succ (zW0 _)) rfl %[0,ac|aH]) (λ_ _=>rfl)))) av)
   (ad (ao (aG %[au,ay (ix_list.or aF) (pv 1) (ag aS hr (Nat.succ_le_succ (zW0 _)) rfl %[0,aD aE rfl hlen PySem.boot_len %[1|aH]|aH]) (λ_ _=>rfl)|aH])))) av)
  (aa (aB (PW.pt (eD (af cN (pv 2) ac (ai _)) (dA (af aI (pv 4) ac (ai _))))) (ad (ao (aG %[au,ag eN hr (zG0 _) rfl %[0,1,aj aW (pv 2) ac,aj aW (pv 3) ac|aH]|aH]))) av)
  (aa #[am,5,f7,aj aQ ac (ag aS hr (Nat.succ_le_succ (zW0 _)) rfl %[0,aj aW (pv 2) ac|aH])]
  (aa #[am,6,f7,ag eN hr (zG0 _) rfl %[0,1,5,aj aW (pv 3) ac|aH]]
  (aa #[am,7,f7,ay ix_list (ci %[au,au,au,au|aH]) (aj aO (pv 4) ac) (λ_ _=>rfl)]
  (ad (ao (aG %[7,6,ag eN hr (zG0 _) rfl %[0,1,aj aW (aj aW (pv 2) ac) (pv 5),aj aW (pv 3) ac|aH]|aH]))))))))),?_⟩
 erw[0,f,(10),1,hF,4,4,λfm H1 f0 f10 F1 S1=>?_];have N1:=hN.feed hF S1;erw[0,2,0,6];refine lf ?leaf λc1 hX=>?_
 case leaf=>
  erw[0,2,(by show(0:Int)<_;decide),1,0,6];refine lf ?yn λc6 hY=>?_
  case yn=>
   erw[(by show 1<=sizeLine;decide),λp1 h1=>?_];erw[(by show 1<=sizeLine;decide),λp2 h2=>?_];erw[(by show 2<=sizeLine;decide),λl hl=>?_];have ga:=zC0 h1 (.tup [.str "yes"]);have gb:=zC0 h2 (.tup [.str "no"]);have gc:=zC0 hl (.lst [.ref p1,.ref p2]);have G:=ga.trans (gb.trans gc);have nlf:=(F1.same (ga.trans gb)).ne hl;erw[0,f,(2),1,F1.same G,4,4,λd H2 d0 d2 F2 S2=>?_];have y2:H2 p1=some (.tup [.str "yes"]):=aP (F1.same G) S2 _ _ (gc _ _ (gb _ _ aC));have n2:H2 p2=some (.tup [.str "no"]):=aP (F1.same G) S2 _ _ (gc _ _ aC);have l2:=S2 l _ nlf aC
   have:d=0∨d=1:=by omega
   rcases this with rfl | rfl
   . erw[l,_,(0),0,1,zF0 l2,1,q (.ref p1) .yes H2 F2 (S1.trans ((zK0 G).trans S2)) (.yes y2) trivial (show(1:Int)<=room from r1) (show(1:Int)<=deep from d1)]
   . erw[l,_,(1),0,1,zF0 l2,1,q (.ref p2) .no H2 F2 (S1.trans ((zK0 G).trans S2)) (.no n2) trivial (show(1:Int)<=room from r1) (show(1:Int)<=deep from d1)]
  erw[0,a,0,N1.seq,1,0,6]
  by_cases c7:V.int ((ns.map V.str).length:Int)=V.int 0
  . exact aR c7 hY
  refine ax c7 ?_;have nz:0<ns.length:=by
   have z:¬ ((ns.map V.str).length:Int)=0:=λz=>c7 (congrArg V.int z)
   rw[zH0]at z;omega
  erw[0,0,0,a,0,N1.seq,f,0,F1,(show(0:Int)<((ns.map V.str).length:Int) by rw[zH0];omega),by rw[zH0];omega,λd H2 d0 d9 F2 S2=>?_];let%[v,hv|vm]:=lW (l:=ns.map V.str) (i:=d) d0 d9;let%[x,hx|1]:=List.mem_map.mp vm;refine(N1.feed F1 S2).ix hv ?_;erw[(by show 2<=sizeLine;decide),λp hp=>?_];have G:=zC0 hp (.tup [.str "is",.str x]);exact q (.ref p) (.is x) _ (F2.same G) (S1.trans (S2.trans (zK0 G))) (.is aC) hx (show(1:Int)<=room from r1) (show(1:Int)<=deep from d1)
 erw[0,2,0,6]
 by_cases c2:deep<2
 . exact aR c2 (du hX)
 refine ax c2 ?_;erw[0,1,0,6]
 by_cases c3:V.int fm=V.int 9
 . exact aR c3 hX
 refine ax c3 ?_;erw[0,2,0,6];have d2:2<=deep:=by omega
 have dd:1<=deep-1:=by omega
 have ddn:deep-1+1<=(n:Int)+1:=by omega
 refine lf ?nt λc4 hN=>?_
 case nt=>
  erw[0,0,0,2,0,2,f,a,_,_,ns,1,F1,N1,nl,(show 1<=room-1 by omega),3,dd,ddn,λv1 t1 H3 F3 S3 T1 o1 z1 p1=>?_];erw[(by show 2<=sizeLine;decide),λp hp=>?_];have G5:=zC0 hp (.tup [.str "not",v1]);refine q (.ref p) (.not t1) _ (F3.same G5) (S1.trans (S3.trans (zK0 G5))) (.not aC (T1.mono (aV G5))) o1 ?_ ?_
  . show((t1.size+1:Nat):Int)<=room;omega
  . show((t1.depth+1:Nat):Int)<=deep;omega
 erw[0,1,0,6]
 by_cases c5:V.int fm=V.int 8
 . exact aR c5 hN
 refine ax c5 ?_;erw[0,0,2,f,0,F1,(show(0:Int)<room-2 by omega),(show room-2<2 ^ 63 by omega),λe H2 e0 e1 F2 S2=>?_];erw[2,6];have N2:=N1.feed F1 S2;erw[0,0,0,0,2,f,a,_,_,ns,1,F2,N2,nl,3,3,dd,ddn,λv1 t1 H3 F3 S3 T1 o1 z1 p1=>?_];have N3:=N2.feed F2 S3;erw[(by show 4<=sizeLine;decide),λl hl=>?_];let%[wd,hw|wm]:=lW (l:=joinW.map V.str) (i:=fm % 4) #[0] (by
  have:(joinW.map V.str).length=4:=by rfl
  omega)
 let%[x,hx|1]:=List.mem_map.mp wm;erw[0,2,(by show(0:Int)<_;decide),l,_,2,zF0 aC,hw,6];have G:=zC0 hl (.lst [.str "and",.str "or",.str "odd",.str "same"]);erw[0,0,0,0,0,2,0,2,0,2,f,a,_,_,ns,1,F3.same G,N3.same G,nl,(show 1<=room-1-(1+e) by omega),3,dd,ddn,λv2 t2 H4 F4 S4 T2 o2 z2 p2=>?_];erw[(by show 3<=sizeLine;decide),λp hp=>?_];have G5:=zC0 hp (.tup [.str x,v1,v2]);have T1':TreeAt H4 v1 t1:=(T1.mono (aV G)).mono (aP (F3.same G) S4);refine q (.ref p) (.bin x t1 t2) _ (F4.same G5) (S1.trans (S2.trans (S3.trans ((zK0 G).trans (S4.trans (zK0 G5)))))) (.bin aC (T1'.mono (aV G5)) (T2.mono (aV G5))) %[hx,o1|o2] ?_ ?_
 . show((t1.size+t2.size+1:Nat):Int)<=room;omega
 . show((max t1.depth t2.depth+1:Nat):Int)<=deep;omega
theorem wV  :FnOk P w K mg base CX0 2 f fd ["_law_feed_here","_law_names_here","_law_room","_law_deep"] (spTree 0):=by
 have no:∀vs H Q E,¬ spTree 0 vs H Q E:=λvs H Q E h=>by
  erw[f,a,room,deep,ns,_,_,_,_,_,_,h1,h2,_]at h;omega
 erw[λvs H Q E h=>absurd h (no vs H Q E),λA outer s H args us vs Q E _ _ _ _ h=>absurd h (no vs H Q E)]
theorem pS   (F:Fun K "_law_tree" "_law_tree" km f fd) (hlen:mg "len"=none) (m:mg "_law_tree"=some (.ref f)) (aS:Cal P w K mg base 1 "_law_take" ["_law_feed_here","_law_many"] spTake) :
 ∀n:Nat,FnOk P w K mg base CX0 (n+2) f fd ["_law_feed_here","_law_names_here","_law_room","_law_deep"] (spTree n)
 | 0=>wV
 | n+1=>wW F hlen aS (Cal.of F (pS F hlen m aS n) m (λ_ _ _ _ _ _ us hl=>by let%[u0,u1,u2,u3|1]:=Co hl;rfl))
def Eo:Stmt->List Stmt
 | .If _ b _ _=>b
 | _=>[]
def En:Stmt->Expr
 | .If c _ _ _=>c
 | _=>.Constant .none 0 %[(0),(0),(0)|(0)]
def yL:Stmt->Expr
 | .Assign _ v _=>v
 | .Return (some v) _=>v
 | _=>.Constant .none 0 %[(0),(0),(0)|(0)]
def vC:Expr->List Expr
 | .List es _=>es
 | .BinOp _ _ (.List es _) _=>es
 | .Subscript (.List es _) _ _=>es
 | _=>[]
abbrev stm(s:Stmt)(i:Nat):Stmt:=(eQ s).getD i (.Pass %[(0),(0),(0)|(0)])
abbrev Bz(s:Stmt)(i j:Nat):Stmt:=(Eo (stm s i)).getD j (.Pass %[(0),(0),(0)|(0)])
def wordsA:List Str:=["is","set","say","if","go","end","num","box","op","field","holds","claims"]
def wordsB:List Str:=["nota","nob","yesx","andy","ors","oddly"]
def wordsC:List Str:=["samey","rounds","dues","coins","truex","asks"]
@[irreducible] def vh:List Expr:=vC (yL (Bz bu 6 0))
@[irreducible] def vg:List Expr:=vC (yL (Bz bu 6 1))
@[irreducible] def vf:List Expr:=vC (yL (Bz bu 6 2))
theorem As:Consts vh wordsA:=by
 unfold vh;exact .cons (.cons (.cons (.cons (.cons (.cons (.cons (.cons (.cons (.cons (.cons (.cons .nil)))))))))))
theorem Ar:Consts vg wordsB:=by
 unfold vg;exact .cons (.cons (.cons (.cons (.cons (.cons .nil)))))
theorem Aq:Consts vf wordsC:=by
 unfold vf;exact .cons (.cons (.cons (.cons (.cons (.cons .nil)))))
theorem ve:∃p1 p2 p3 p4 p5 p6 p7 p8 p9 q1 q2 q3 q4 q5,eQ bu=[stm bu 0,stm bu 1,stm bu 2,stm bu 3,stm bu 4,stm bu 5,
 .If (En (stm bu 6)) [.Assign [.Name "_law_words" p1] (.List vh p2) p3,.Assign [.Name "_law_words" p4] (.BinOp (.Name "_law_words" p5) .Add (.List vg p6) p7) p8,.Assign [.Name "_law_words" p9] (.BinOp (.Name "_law_words" q1) .Add (.List vf q2) q3) q4,Bz bu 6 3] [] q5,stm bu 7]:=
 %[_,_,_,_,_,_,_,_,_,_,_,_,_,_|by rfl']
def LTR:Str:="bcdfghjklmnpqrstvwxz"
theorem Eb:∀c∈LTR.cps.toList,c≠97:=by decide
theorem vq:∀c∈LTR.cps.toList,97<=c/\c<=122:=by decide
theorem yF:∀x∈(wordsA++wordsB)++wordsC,x.length<=20/\(∀c∈x.cps.toList,97<=c/\c<=122)/\x≠"aa":=by decide
inductive spNamesN(vs:List V)(H:Hp)(Q:VK)(u_3:XK):Prop
 |mk:∀(f:Addr)(m:Int),vs=[.ref f,.int m]->FeedAt H f->0<=m->m<=6->(∀(l:Addr)(ns:List Str)(H':Hp),H l=none->l≠f->H' l=some (.lst (ns.map V.str))->ns.length=m.toNat->(∀x∈ns,yC x)->ns.Nodup->FeedAt H' f->SameBut f H H'->Q (.ref l) H')->spNamesN vs H Q u_3
theorem wO:∀x∈(wordsA++wordsB)++wordsC,∃c∈x.cps.toList,c∉LTR.cps.toList:=by decide
theorem Cj:∀a b:Fin 20,LTR.cps.toList[a.val]?=LTR.cps.toList[b.val]?->a=b:=by decide
theorem Ao{ns:List Str}{t:Nat}{u:Int}(u0:0<=u)(u20:u<20)(hl:ns.length<=6)(h:∀(k:Nat) x,ns[k]?=some x->x.cps.toList[t]?=LTR.cps.toList[((u+7*(k:Int)) % 20).toNat]?):ns.Nodup:=by
 refine List.pairwise_iff_getElem.mpr λi j hi hj ij e=>?_
 have h1:=h i _ (zN0 hi);have h2:=h j _ (zN0 hj);rw[e]at h1;have h3:=h1.symm.trans h2;have h4:=Cj %[((u+7*(i:Int)) % 20).toNat|3] ⟨((u+7*(j:Int)) % 20).toNat,by omega⟩ h3;have h5:=congrArg Fin.val h4;simp only at h5;omega
theorem DW{ns:List Str}{x:Str}{j:Nat}(h:ns.Nodup)(hx:x∉ns):(ns.set j x).Nodup:=by
 refine List.pairwise_iff_getElem.mpr λa b ha hb ab=>?_
 rw[List.length_set]at ha hb;rw[List.getElem_set,List.getElem_set]
 split
 . split
   . omega
   . intro e;exact hx (e▸qP0 hb)
 . split
   . intro e;exact hx (e▸qP0 ha)
   . exact List.pairwise_iff_getElem.mp h a b ha hb ab
theorem EJ{α:Type}{l:List α}{i:Int}{v:α}(h0:0<=i)(h:atI l i=some v):l[i.toNat]?=some v:=by
 have ek:((i.toNat:Nat):Int)=i:=by omega
 by_cases c:i.toNat<l.length
 . have q:atI l ((i.toNat:Nat):Int)=some l[i.toNat]:=db (zN0 c);rw[ek,h]at q;rw[zN0 c];exact q.symm
 . exfalso
   unfold atI ixN at h;rw[zE0 h0,zB0 #[0]]at h;cases h
theorem yW{zs:List Str}(h:∀z∈zs,z.length=1/\∀c∈z.cps.toList,c∈LTR.cps.toList):(zs.map (·.length)).sum=zs.length:=by
 induction zs with
 | nil=>rfl
 | cons a r ih=>
   rw[qC0,List.sum_cons,ih λz hz=>h z (qG0 _ hz),(h a zY0).1,zT0];omega
theorem a9:FnScope ["_law_feed_here","_law_many","_law_letters","_law_common","_law_at","_law_first","_law_found","_law_k","_law_tail","_law_sign","_law_words"] ["_law_feed_here","_law_many"] (ak bu):=%[1,1,1,4,1,4|4]
theorem oM{p:Addr}(F:FeedAt H f)(h:p≠f):FeedAt (upd H p o) f:=by
 erw[x,t,e,r]at F;erw[x,t,by rw[aq (Ne.symm h)];exact e,r]
theorem uX   (F:Fun K "_law_names" "_law_names" bu f fd) (hrange:mg "range"=none) (aS:Cal P w K mg base 1 "_law_take" ["_law_feed_here","_law_many"] spTake):FnOk P w K mg base CX0 2 f fd ["_law_feed_here","_law_many"] spNamesN:=by
 exists a9
 erw[f,m,1,hF,m0,m6,q]at h;erw[p1,p2,p3,p4,p5,p6,p7,p8,p9,q1,q2,q3,q4,q5,ebody]at ve;rw[ebody];refine⟨_,(aa (am (i:=2) a9.nd rfl (Or.inr rfl) au)
  (aa (am (i:=3) a9.nd rfl (.inl rfl) (dq PySem.F.plainAttrs_str PySem.F.slot_str_join PySem.F.type_str_join Cf au (ae (cJ (N:=["_law_letters","_law_feed_here"]) (ix:=[2,0]) rfl
   (CompScope.two (by rfl') ⋯ rfl ⋯ rfl ⋯ (by first | exact Or.inl rfl | exact Or.inr rfl) (by rfl') (by rfl') (by rfl') (by rfl') rfl rfl (by rfl') rfl rfl) rfl
   (bO rfl hrange %[ac|aH])
   (λ_ _ _=>cQ (ay rm (pv 1) (ag aS hr ⋯ rfl %[2,ac|aH]) (λ_ _=>rfl)))) aH)))
  (aa #[am,4,a9,ag aS hr ⋯ rfl %[0,ac|aH]]
  (aa #[am,5,a9,ag aS hr ⋯ rfl %[0,ac|aH]]
  (aa #[am,6,a9,ci aH]
  (aa (cP PassesOwn.never rfl (bO rfl hrange %[1|aH]) (bQ (i:=7) a9.nd rfl (.inl rfl)) (aa #[am,8,a9,aj aO (ag aS hr ⋯ rfl %[0,aj aW ac (pv 4)|aH]) ac]
   (aa #[am,9,a9,ay rm (pv 2) (aj aO (aj aQ (pv 5) (aj cc ac (pv 7))) ac) (λ_ _=>rfl)]
   (ad (ba (dq PySem.F.plainAttrs_list PySem.F.slot_list_append PySem.F.type_list_append bU (pv 6) %[aj oh (aj oh (gg uu (pv 3) kx (fq (pv 4))) (pv 9)) (gg uu (pv 3) (fq (pv 4)) (fq (aj aQ (pv 4) (pv 8))))|aH]))))))
  (aa (aB (PW.pt (lm (af gY (pv 1) ac (ai _)) (kt (af aI (ag aS hr ⋯ rfl %[0,ac|aH]) ac (ai _))))) (aa #[am,10,a9,ci (jx As)]
   (aa #[am,10,a9,aj og (pv 10) (ci (jx Ar))]
   (aa #[am,10,a9,aj og (pv 10) (ci (jx Aq))]
   (ad (uH (ay ix_list (pv 10) (ag aS hr ⋯ rfl %[0,ac|aH]) (λ_ _=>rfl)) (uN (pv 6) (ag aS hr ⋯ rfl %[0,1|aH]) mV)))))) av)
  (ad (ao (pv 6)))))))))),?_⟩
 erw[1,(5),1,4,4,λD hD=>?_];have Df:=hF.ne hD;have L20:LTR.cps.toList.length=20:=by decide
 refine cY (λi H'=>∃zs:List Str,H' D=some (.lst (zs.map V.str))/\zs.length=i/\(∀z∈zs,z.length=1/\∀c∈z.cps.toList,c∈LTR.cps.toList)/\FeedAt H' f/\SameBut f H H') %[[],by rw[aC];rfl,1,by simp,hF.same (zC0 hD _)|zK0 (zC0 hD _)] ?_ ?_
 . rintro i H3 hi ⟨zs,hl,zl,z1,F3,S3⟩;have i5:i<5:=hi;erw[0,0,f,(20),1,F3,4,4,λd H4 d0 d26 F4 S4=>?_];let%[c,hc|hm]:=lW (l:=LTR.cps.toList) (i:=d) d0 (by rw[L20];exact d26);have hD4:H4 D=some (.lst (zs.map V.str)):=S4 D _ Df hl;erw[_,d,c,1,1,bK ⋯,hc,_,hD4,6,Nx.of hi %[zs++[⟨#[c]⟩],6,6,6,oM F4 Df|6]]
   . rw[zH0,zl];exact aM (Nat.le_of_lt (Nat.lt_trans i5 ⋯))
   . rw[aC,zO0];rfl
   . rw[zJ0,qK0,zl]
   . intro z hz;rcases qD0 hz with h | h
     . exact z1 z h
     . rw [zM0 h];erw[1,λc' hc'=>?_]
       have:c'=c:=by simpa using hc'
       subst this;exact hm
   . intro b o hb e;rw[aq (aN e hD)];exact S4 b o hb (S3 b o hb e)
 rintro H3 ⟨zs,hl,zl,z1,F3,S3⟩;have sl:=yW z1;have zl5:zs.length=5:=zl;erw[_,D,zs,1,1,zF0 hl,⋯,3,6];have jl:(Txt.join "" zs).length=5:=by
  have:=size_glued "" zs
  have e0:(("":Str)).length=0:=by decide
  rw[e0,Nat.mul_zero]at this;show(Builtin.Str.glued "" zs).length=5;omega
 have jc:∀c∈(Txt.join "" zs).cps.toList,c∈LTR.cps.toList:=λc hc=>by
  let%[z,hz|h]:=xU hc;exact(z1 z hz).2 c h
 generalize Txt.join "" zs=cm at jl jc;erw[0,f,(6),1,F3,4,4,λt H4 t0 t6 F4 S4=>?_];erw[0,f,(20),1,F4,4,4,λu H5 u0 u20 F5 S5=>?_];erw[(by show 0<=sizeLine;decide),λL hL=>?_];have S05:SameBut f H H5:=S3.trans (S4.trans S5);have Lf:=F5.ne hL;have L0:H L=none:=by
  cases e:H L with
  | none=>rfl
  | some o=>rw[S05 L o Lf e]at hL;cases hL
 refine⟨_,rfl,m,rfl,by omega,by omega,eK (λi σ H'=>∃(x7 x8 x9:Option V)(ns:List Str),σ=[some (.ref f),some (.int m),some (.str LTR),some (.str cm),some (.int t),some (.int u),some (.ref L),x7,x8,x9,none]/\H' L=some (.lst (ns.map V.str))/\ns.length=i/\(∀x∈ns,yC x)/\(∀x∈ns,∀c∈x.cps.toList,c∈LTR.cps.toList)/\(∀(k:Nat) x,ns[k]?=some x->x.cps.toList[t.toNat]?=LTR.cps.toList[((u+7*(k:Int)) % 20).toNat]?)/\FeedAt H' f/\SameBut f H H')
  %[_,_,_,[],1,by rw[aC];rfl,1,by simp,by simp,by simp,F5.same (zC0 hL _)|S05.trans (zK0 (zC0 hL _))] ?_ ?_⟩
 . rintro i σ H6 hi ⟨x7,x8,x9,ns,rfl,hns,nl,nok,nlt,nat,F6,S6⟩;erw[0,0,2,f,0,F6,(Int.sub_pos_of_lt t6),(Int.lt_of_le_of_lt (Int.sub_le_self 6 t0) ⋯),λd H7 d0 d1 F7 S7=>?_];erw[2,(by show(0:Int)<_;decide),6];let%[c,hc|hm]:=lW (l:=LTR.cps.toList) (i:=(u+7*(0+(i:Int))) % 20) (qA0 _ ⋯) (by rw[L20];exact qF0 _ ⋯);erw[0,0,0,2,6,2,2,(by show(0:Int)<_;decide),_,_,c,1,1,bK ⋯,hc,6]
   . exact .inl %[4|4]
   have hL7:=S7 L _ Lf hns;have z1:(Txt.slice cm none (some t)).length<=cm.length:=Txt.slice_le cm none (some t);have z2:(Txt.slice cm (some t) (some (t+d % 3))).length<=cm.length:=Txt.slice_le cm _ _;have z3:((%[|#[c]]:Str)).length=1:=rfl;erw[0,.inl %[1,_|zF0 hL7],6];erw[0,0,0,0,bK (by rw[jl];decide),0,2,bK (by rw[z3];omega),6];erw[0,0,0,0,0,2,0,0,bK (by rw[jl];decide),2,bK (by rw[Str.length_append,z3];omega),6];erw[L,2,hL7,6,6]
   . rw[zH0];exact aM #[0]
   erw[_,_,_,ns++[(Txt.slice cm none (some t)++%[|#[c]])++Txt.slice cm (some t) (some (t+d % 3))],1,6,6,6,6,6,oM F7 Lf,6]
   . rw[aC,zO0];rfl
   . rw[zJ0,qK0,nl]
   . intro x hx;rcases qD0 hx with h | h
     . exact nok x h
     . rw [zM0 h];erw[6,λc' hc'=>?_,λea=>?_]
       . rw[Str.length_append,Str.length_append,z3];omega
       rotate_left
       . have cm1:c∈(((Txt.slice cm none (some t)++%[|#[c]])++Txt.slice cm (some t) (some (t+d % 3)):Str)).cps.toList:=by
          rw[Str.cps_append,Str.cps_append]
          simp
         rw[ea]at cm1;exact Eb c hm ((by decide:∀c∈(("aa":Str)).cps.toList,c=97) c cm1)
       . rcases mem_append hc' with h | h
         . rcases mem_append h with h | h
           . exact vq _ (jc _ (jA h))
           . have:c'=c:=by simpa using h
             subst this;exact vq _ hm
         . exact vq _ (jc _ (jA h))
   . intro x hx c' hc';rcases qD0 hx with h | h
     . exact nlt x h c' hc'
     . rw [zM0 h]at hc';rcases mem_append hc' with h | h
       . rcases mem_append h with h | h
         . exact jc _ (jA h)
         . have:c'=c:=by simpa using h
           subst this;exact hm
       . exact jc _ (jA h)
   . intro k x hx
     by_cases ck:k<ns.length
     . rw[List.getElem?_append_left ck]at hx;exact nat k x hx
     . have kl:k<(ns++[(Txt.slice cm none (some t)++%[|#[c]])++Txt.slice cm (some t) (some (t+d % 3))]).length:=(zX0 hx).1;rw[zJ0,qK0]at kl;have ek:k=i:=by omega
       subst ek;rw[List.getElem?_append_right #[0],nl,Nat.sub_self]at hx;have ex:(Txt.slice cm none (some t)++%[|#[c]])++Txt.slice cm (some t) (some (t+d % 3))=x:=zU0 hx;rw[←ex];have cl:cm.cps.toList.length=5:=jl;have es:Txt.slice cm none (some t)=⟨((cm.cps.toList.drop 0).take (t-0).toNat).toArray⟩:=StrLaws.sliceText_to ⟨t0,by omega⟩;have el:(Txt.slice cm none (some t)).cps.toList.length=t.toNat:=by
        rw[es];simp only[List.drop_zero,Int.sub_zero,qH0];omega
       have ea:((Txt.slice cm none (some t)++%[|#[c]])++Txt.slice cm (some t) (some (t+d % 3))).cps.toList=(Txt.slice cm none (some t)).cps.toList++([c]++(Txt.slice cm (some t) (some (t+d % 3))).cps.toList):=by
        rw[Str.cps_append,Str.cps_append]
        simp
       rw[ea,List.getElem?_append_right #[0],el,Nat.sub_self];have hc2:LTR.cps.toList[((u+7*(0+(k:Int))) % 20).toNat]?=some c:=EJ (qA0 _ ⋯) hc;rw[Int.zero_add]at hc2;rw[hc2];rfl
   . intro b o hb e;rw[aq (aN e L0)];exact S7 b o hb (S6 b o hb e)
 . rintro σ H6 ⟨x7,x8,x9,ns,rfl,hns,nl,nok,nlt,nat,F6,S6⟩;have nnd:ns.Nodup:=Ao u0 u20 #[0] nat;erw[0,2,0,6];have fin:∀H':Hp,∀ns:List Str,H' L=some (.lst (ns.map V.str))->ns.length=m.toNat->(∀x∈ns,yC x)->ns.Nodup->FeedAt H' f->SameBut f H H'->Q (.ref L) H':=λH' ns a b c nd d e=>q L ns H' L0 Lf a b c nd d e
   by_cases c1:(0:Int)<m
   . refine aR c1 ?_;erw[0,f,(3),1,F6,4,4,λd H7 d0 d1 F7 S7=>?_];erw[1,0,6];have hL7:=S7 L _ Lf hns;refine hC (λ_=>?_) (λ_=>?_)
     . erw[(by show 12<=sizeLine;decide),λl1 h1=>?_];erw[0,(by show 6<=sizeLine;decide),λl2 h2=>?_];erw[l1,l2,wordsA.map V.str,wordsB.map V.str,1,1,zC0 h2 _ _ _ aC,aC,(by show 18<=sizeLine;decide),λl3 h3=>?_];erw[0,(by show 6<=sizeLine;decide),λl4 h4=>?_];erw[l3,l4,wordsA.map V.str++wordsB.map V.str,wordsC.map V.str,1,1,zC0 h4 _ _ _ aC,aC,(by show 24<=sizeLine;decide),λl5 h5=>?_];have G:=(zC0 h1 (.lst (wordsA.map V.str))).trans ((zC0 h2 (.lst (wordsB.map V.str))).trans ((zC0 h3 (.lst (wordsA.map V.str++wordsB.map V.str))).trans ((zC0 h4 (.lst (wordsC.map V.str))).trans (zC0 h5 (.lst ((wordsA.map V.str++wordsB.map V.str)++wordsC.map V.str))))));have F8:=F7.same G;have n5:=(F7.same ((zC0 h1 (.lst (wordsA.map V.str))).trans ((zC0 h2 (.lst (wordsB.map V.str))).trans ((zC0 h3 (.lst (wordsA.map V.str++wordsB.map V.str))).trans (zC0 h4 (.lst (wordsC.map V.str))))))).ne h5;erw[0,0,f,(24),1,F8,4,4,λe H9 e0 e1 F9 S9=>?_];let%[v,hv|vm]:=lW (l:=(wordsA.map V.str++wordsB.map V.str)++wordsC.map V.str) (i:=e) e0 (by
        have:((wordsA.map V.str++wordsB.map V.str)++wordsC.map V.str).length=24:=by rfl
        omega)
       rw[←zO0,←zO0]at vm;let%[x,hx|1]:=List.mem_map.mp vm;erw[l5,_,e,0,1,zF0 (S9 l5 _ n5 aC),hv,6];erw[0,0,0,f,m,1,F9,c1,3,λj H10 j0 j1 F10 S10=>?_];have hL10:=S10 L _ Lf (S9 L _ Lf (G L _ hL7));erw[L,_,j,j.toNat,1,1,hL10,6,6]
       . have jl:j<((ns.map V.str).length:Int):=by rw[zH0];omega
         unfold ixN;rw[zE0 j0,zE0 jl]
       erw[0,6];refine fin _ (ns.set j.toNat x) (by rw[aC,List.map_set]) (by rw[List.length_set];exact nl) ?_ ?_ (oM F10 Lf) ?_
       . intro y hy;rcases List.mem_or_eq_of_mem_set hy with h | h
         . exact nok y h
         . rw[h];exact yF x hx
       . refine DW nnd λhm=>?_
         let%[c,c1|c2]:=wO x hx;exact c2 (nlt x hm c c1)
       . intro b o hb e';rw[aq (aN e' L0)];exact S10 b o hb (S9 b o hb (G b o (S7 b o hb (S6 b o hb e'))))
     . erw[0,6];exact fin H7 ns hL7 nl nok nnd F7 (S6.trans S7)
   . refine ax c1 ?_;refine cG ?_;erw[0,6];exact fin H6 ns hns nl nok nnd F6 S6
theorem eI{x:Str}:∀{ns:List Str},x∈ns->∃j,cK x ns=some j/\j<ns.length
 | [],h=>by cases h
 | a::r,h=>by
   unfold cK
   by_cases c:a=x
   . erw[(0),by rw[zE0 c],by simp]
   . rw [zB0 c];rcases zV0 h with e | e
     . exact absurd e.symm c
     . let%[j,h1|h2]:=eI e;erw[j+1,by rw[h1];rfl,by simpa using h2]
theorem dH{a b:Str}(h:V.str a=V.str b):a=b:=by injection h
def dr (p:Int) (o:Str) (x y:Int):Int:=if o="and" then x*y % p else if o="or" then(x+y-x*y) % p else if o="odd" then(x+y-2*(x*y)) % p else(1-(x+y-2*(x*y))) % p
def Tr.worth(ns:List Str)(pt:List Int)(p:Int):Tr->Int
 | .is x=>match cK x ns with | some j=>pt.getD j 0 | none=>0
 | .yes=>1
 | .no=>0
 | .not a=>(1-a.worth ns pt p) % p
 | .bin o a b=>dr p o (a.worth ns pt p) (b.worth ns pt p)
def gq(pt:List Int)(p:Int):Prop:=∀x∈pt,0<=x/\x<p
theorem yc{p:Int}(hp:0<p)(o:Str)(x y:Int):0<=dr p o x y/\dr p o x y<p:=by
 have key:∀z:Int,0<=z % p/\z % p<p:=λz=>%[qA0 _ #[0]|qF0 _ hp]
 unfold dr
 repeat' split
 all_goals exact key _
theorem oJ{l:List Int}{j:Nat}(h:j<l.length):l.getD j 0=l[j]:=by
 rw[qS0,zN0 h];rfl
theorem worth_rng{ns:List Str}{p:Int}(hp:1<p)(h:gq pt p)(hl:pt.length=ns.length):∀t:Tr,t.ok ns->0<=t.worth ns pt p/\t.worth ns pt p<p
 | .is x,ok=>by
   let%[j,hj|jl]:=eI ok;show 0<=(match cK x ns with | some j=>pt.getD j 0 | none=>0)/\(match cK x ns with | some j=>pt.getD j 0 | none=>0)<p;rw[hj];show 0<=pt.getD j 0/\pt.getD j 0<p;rw[oJ #[0]];exact h _ (qP0 _)
 | .yes,_=>%[by show(0:Int)<=1;decide|hp]
 | .no,_=>%[Int.le_refl 0|by show(0:Int)<p;omega]
 | .not a,_=>%[qA0 _ #[0]|qF0 _ #[0]]
 | .bin o a b,_=>yc #[0] _ _ _
inductive spJW(vs:List V)(H:Hp)(Q:VK)(u_3:XK):Prop
 |mk:∀(o:Str)(x y p:Int),vs=[.str o,.int x,.int y,.int p]->0<=x->x<p->p<2 ^ 40->Q (.int (dr p o x y)) H->spJW vs H Q u_3
theorem eZ:FnScope ["word","first","second","p","both","odd"] ["word","first","second","p"] (ak fV):=%[1,1,1,4,1,4|4]
theorem me   (F:Fun K "joined_worth" "joined_worth" fV f fd):FnOk P w K mg base CX0 1 f fd ["word","first","second","p"] spJW:=by
 exists eZ
 erw[o,x,y,p,1,x0,xp,pb,k]at h;refine⟨_,(aa #[am,4,eZ,aj cc (pv 1) (pv 2)]
  (aa (aB (af aI (pv 0) au (ai _)) (ad (ao (aj aO (pv 4) (pv 3)))) av)
  (aa (aB (af aI (pv 0) au (ai _)) (ad (ao (aj aO (aj aW (aj aQ (pv 1) (pv 2)) (pv 4)) (pv 3)))) av)
  (aa #[am,5,eZ,aj aW (aj aQ (pv 1) (pv 2)) (aj cc ac (pv 4))]
  (aa (aB (af aI (pv 0) au (ai _)) (ad (ao (aj aO (pv 5) (pv 3)))) av)
  (ad (ao (aj aO (aj aW ac (pv 5)) (pv 3))))))))),?_⟩
 erw[0,0,2,.inl %[3|3],6];erw[0,1,0,6]
 by_cases c1:V.str o=V.str "and"
 . refine aR c1 ?_;have e:dr p o x y=x*y % p:=by unfold dr;rw[zE0 (dH c1)]
   rw[e]at k;erw[0,0,2,(show(0:Int)<p by omega),k]
 refine ax c1 ?_;have n1:¬ o="and":=λz=>c1 (by rw[z])
 erw[0,1,0,6]
 by_cases c2:V.str o=V.str "or"
 . refine aR c2 ?_;have e:dr p o x y=(x+y-x*y) % p:=by unfold dr;rw[zB0 n1,zE0 (dH c2)]
   rw[e]at k;erw[0,0,2,0,2,0,2,(show(0:Int)<p by omega),k]
 refine ax c2 ?_;have n2:¬ o="or":=λz=>c2 (by rw[z])
 erw[0,0,2,0,2,.inl %[4|4],2,6];erw[0,1,0,6]
 by_cases c3:V.str o=V.str "odd"
 . refine aR c3 ?_;have e:dr p o x y=(x+y-2*(x*y)) % p:=by unfold dr;rw[zB0 n1,zB0 n2,zE0 (dH c3)]
   rw[e]at k;erw[0,0,2,(show(0:Int)<p by omega),k]
 refine ax c3 ?_;have n3:¬ o="odd":=λz=>c3 (by rw[z])
 have e:dr p o x y=(1-(x+y-2*(x*y))) % p:=by unfold dr;rw[zB0 n1,zB0 n2,zB0 n3]
 rw[e]at k;erw[0,2,0,2,(show(0:Int)<p by omega),k]
inductive spWorth(n:Nat)(vs:List V)(H:Hp)(Q:VK)(u_3:XK):Prop
 |mk:∀(v:V)(t:Tr)(a b:Addr)(ns:List Str)(pt:List Int)(p:Int),vs=[v,.ref a,.ref b,.int p]->TreeAt H v t->t.ok ns->t.depth<=n->NamesAt H a ns->H b=some (.tup (pt.map V.int))->pt.length=ns.length->1<p->p<2 ^ 40->gq pt p->Q (.int (t.worth ns pt p)) H->spWorth n vs H Q u_3
theorem iH:FnScope ["tree","switches","point","p","word","first"] ["tree","switches","point","p"] (ak ik):=%[1,1,1,4,1,4|4]
theorem tW {n:Nat}   (F:Fun K "worth_of" "worth_of" ik f fd) (cr:Cal P w K mg base 1 "joined_worth" ["word","first","second","p"] spJW) (d7:Cal P w K mg base (n+2) "worth_of" ["tree","switches","point","p"] (spWorth n)):FnOk P w K mg base CX0 (n+3) f fd ["tree","switches","point","p"] (spWorth (n+1)):=by
 exists iH
 erw[v,t,a,b,ns,pt,p,1,T,ok,dn,hN,hb,sl,p1,p40,po,k]at h;have p0:(0:Int)<p:=by omega
 refine⟨_,(aa #[am,4,iH,ay aF (pv 0) ac (λ_ _=>rfl)]
  (aa (aB (af aI (pv 4) au (ai _)) (ad (ao (aj aO (ay aF (pv 2) (sx PySem.F.plainAttrs_list PySem.F.plainAttrs_tuple (pv 1) %[ay aF (pv 0) ac (λ_ _=>rfl)|aH]) (λ_ _=>rfl)) (pv 3)))) av)
  (aa (aB (af aI (pv 4) au (ai _)) (ad (ao ac)) av)
  (aa (aB (af aI (pv 4) au (ai _)) (ad (ao ac)) av)
  (aa #[am,5,iH,ag d7 hr (zG0 _) rfl %[ay aF (pv 0) ac (λ_ _=>rfl),1,2,3|aH]]
  (aa (aB (af aI (pv 4) au (ai _)) (ad (ao (aj aO (aj aW ac (pv 5)) (pv 3)))) av)
  (ad (ao (ag cr hr #[0] rfl %[4,5,ag d7 hr (zG0 _) rfl %[ay aF (pv 0) ac (λ_ _=>rfl),1,2,3|aH],3|aH]))))))))),?_⟩
 cases T with
 | @is q x e=>
   erw[0,q,_,(0),0,1,zD0 e,1,6];erw[0,1,0,6];refine aR rfl ?_;let%[j,hj|jl]:=eI ok;have jl':j<pt.length:=by omega
   erw[0,0,a,ns,1,hN,0,q,_,(1),0,1,zD0 e,1,1,x,j,1,hj,b,_,(j:Int),.int pt[j],1,1,zD0 hb,6,0,2,p0,6]
   . refine db ?_;rw[qE0,zN0 jl'];rfl
   . have e1:(Tr.is x).worth ns pt p=pt[j] % p:=by
      show(match cK x ns with | some j=>pt.getD j 0 | none=>0)=_;rw[hj];show pt.getD j 0=_;rw[oJ jl']
      have:=po _ (qP0 jl')
      rw[qR0 this.1 this.2]
     rw[e1]at k;exact k
 | @yes q e=>
   erw[0,q,_,(0),0,1,zD0 e,1,6];erw[0,1,0,6];refine ax ⋯ ?_;erw[0,1,0,6];exact aR rfl k
 | @no q e=>
   erw[0,q,_,(0),0,1,zD0 e,1,6];erw[0,1,0,6];refine ax ⋯ ?_;erw[0,1,0,6];refine ax ⋯ ?_;erw[0,1,0,6];exact aR rfl k
 | @not q u r e T1=>
   have dp:r.depth+1<=n+1:=dn;erw[0,q,_,(0),0,1,zD0 e,1,6];erw[0,1,0,6];refine ax ⋯ ?_;erw[0,1,0,6];refine ax ⋯ ?_;erw[0,1,0,6];refine ax ⋯ ?_;erw[0,q,_,(1),0,1,zD0 e,1,0,0,0,u,r,a,b,ns,pt,p,1,T1,ok,3,hN,hb,sl,p1,p40,po,6];erw[0,1,0,6];refine aR rfl ?_;erw[0,2,0,2,p0,k]
 | @bin q o u u2 r r2 e T1 T2=>
   erw[ho,ok1,ok2]at ok;have dp:max r.depth r2.depth+1<=n+1:=dn;have ne:∀z:Str,z∉joinW->¬ V.str o=V.str z:=λz hz h=>hz (dH h▸ho)
   erw[0,q,_,(0),0,1,zD0 e,1,6];erw[0,1,0,6];refine ax (ne _ ⋯) ?_;erw[0,1,0,6];refine ax (ne _ ⋯) ?_;erw[0,1,0,6];refine ax (ne _ ⋯) ?_;erw[0,q,_,(1),0,1,zD0 e,1,0,0,0,u,r,a,b,ns,pt,p,1,T1,ok1,3,hN,hb,sl,p1,p40,po,6];erw[0,1,0,6];refine ax (ne _ ⋯) ?_;have wr:=worth_rng p1 po sl r ok1;erw[0,0,0,q,_,(2),0,1,zD0 e,1,0,0,0,u2,r2,a,b,ns,pt,p,1,T2,ok2,3,hN,hb,sl,p1,p40,po,6];erw[0,o,_,_,p,1,wr.1,wr.2,p40,k]
theorem tV  :FnOk P w K mg base CX0 2 f fd ["tree","switches","point","p"] (spWorth 0):=by
 have no:∀vs H Q E,¬ spWorth 0 vs H Q E:=λvs H Q E h=>by
  erw[v,t,_,_,_,_,_,_,_,_,h1,_]at h
  have:=t.depth_pos
  omega
 erw[λvs H Q E h=>absurd h (no vs H Q E),λA outer s H args us vs Q E _ _ _ _ h=>absurd h (no vs H Q E)]
theorem lO   (F:Fun K "worth_of" "worth_of" ik f fd) (m:mg "worth_of"=some (.ref f)) (cr:Cal P w K mg base 1 "joined_worth" ["word","first","second","p"] spJW) :
 ∀n:Nat,FnOk P w K mg base CX0 (n+2) f fd ["tree","switches","point","p"] (spWorth n)
 | 0=>tV
 | n+1=>tW F cr (Cal.of F (lO F m cr n) m (λ_ _ _ _ _ _ us hl=>by let%[u0,u1,u2,u3|1]:=Co hl;rfl))
theorem jC{H:Hp}{b:Addr}{ys zs:List V}(h:H b=some (.lst ys)):∀a xs,H a=some (.tup xs)->(upd H b (.lst zs)) a=some (.tup xs):=λa xs e=>by
 rw[aq]
 . exact e
 . intro z;rw[z,h]at e;cases e
theorem at0(x:V)(xs:List V):atI (x::xs) 0=some x:=db (j:=0) rfl
theorem lT{ts:List Tr}{i:Nat}{u:Tr}(h:ts[i]?=some u):gl (ts.take (i+1))=gl (ts.take i)++u.names:=by
 unfold gl;rw[qN0,h,zO0,List.flatten_append]
 simp
theorem ow(ts:List Tr):(gl ts).length<=kc ts:=by
 induction ts with
 | nil=>simp [gl,kc]
 | cons a r ih=>
   have:=a.names_len
   simp only[gl,kc,qC0,List.flatten_cons,zJ0,List.sum_cons]at ih ⊢;omega
theorem mU(ts:List Tr)(i:Nat):kc (ts.take i)<=kc ts:=by
 induction ts generalizing i with
 | nil=>simp
 | cons a r ih=>
   cases i with
   | zero=>simp [kc]
   | succ i=>
     have:=ih i
     simp only[kc,List.take_succ_cons,qC0,List.sum_cons]at this ⊢;omega
inductive spNO(n:Nat)(vs:List V)(H:Hp)(Q:VK)(u_3:XK):Prop
 |mk:∀(v:V)(t:Tr),vs=[v]->TreeAt H v t->t.wf->t.depth<=n->t.size<=400->(∀(l:Addr)(H':Hp),H l=none->Same H H'->H' l=some (.lst (t.names.map V.str))->Q (.ref l) H')->spNO n vs H Q u_3
theorem eF:FnScope ["_law_tree_here","_law_found","_law_part"] ["_law_tree_here"] (ak fi):=%[1,1,1,4,1,4|4]
theorem Cd {n:Nat}   (F:Fun K "_law_names_of" "_law_names_of" fi f fd) (dX:Cal P w K mg base (n+2) "_law_names_of" ["_law_tree_here"] (spNO n)):FnOk P w K mg base CX0 (n+3) f fd ["_law_tree_here"] (spNO (n+1)):=by
 exists eF
 erw[v,t,1,T,wf,dn,sz,q]at h;refine⟨_,(aa (aB (af aI (ay aF (pv 0) ac (λ_ _=>rfl)) au (ai _)) (ad (ao (ci %[ay aF (pv 0) ac (λ_ _=>rfl)|aH]))) av)
  (aa #[am,1,eF,ci aH]
  (aa (cP PassesOwn.never rfl (jh (gg qt (pv 0) (fq ac) kx)) (bQ (i:=2) eF.nd rfl (.inl rfl)) (ad #[am,1,eF,aj og (pv 1) (ag dX hr (zG0 _) rfl %[2|aH])]))
  (ad (ao (pv 1)))))),?_⟩
 rcases T.view wf with⟨a,x,rfl,rfl,_,e⟩ | ⟨a,o,xs,rfl,no,xl0,e,TS0,nis⟩
 . erw[0,a,_,(0),0,1,zD0 e,1,1,0,6];refine aR rfl ?_;erw[0,a,_,(1),0,1,zD0 e,1,(by show 1<=sizeLine;decide),λp hp=>?_];exact q p _ hp (zC0 hp _) aC
 . erw[0,a,_,(0),.str o,1,1,zD0 e,at0 ..,1,0,6];refine ax (λz=>no (by injection z)) ?_;erw[(by show 0<=sizeLine;decide),λL hL=>?_];have G0:=zC0 hL (.lst []);let%[c1|c2]:=EC (.str o) xs xl0;erw[0,(1),1,a,0,zD0 (G0 _ _ e),c2,λp hp=>?_];rw[c1];have G1:=zC0 hp (.tup xs);have hp1:upd (upd H L (.lst [])) p (.tup xs) p=some (.tup xs):=aC;have hL1:upd (upd H L (.lst [])) p (.tup xs) L=some (.lst []):=G1 _ _ aC;have S1:Same H (upd (upd H L (.lst [])) p (.tup xs)):=G0.trans G1;generalize upd (upd H L (.lst [])) p (.tup xs)=H1 at hp1 hL1 S1;have TS:=TS0.mono (aV S1);have xl:=TS.length;have sp:=t.size_parts;erw[p,1,%[_|zD0 hp1],rE (K:=K) (xs:=xs) (λi σ H'=>∃(M:Addr)(x2:Option V),σ=[some (.ref a),some (.ref M),x2]/\H M=none/\H' M=some (.lst ((gl (t.parts.take i)).map V.str))/\Same H1 H') %[L,0,hL,hL1|Same.refl _] (λi σ H' _ hst=>by erw[_,_,_,_,_,h]at hst;exact zD0 (h _ _ hp1)) ?_ ?_]
   . rintro i x σ H2 hx ⟨M,x2,rfl,M0,hM,S2⟩;let%[u,hu|Tu]:=TS.get hx;have um:=qI0 hu;let%[uw,ud|us]:=Tr.parts_mem um wf;erw[0,0,x,u,1,Tu.mono (aV S2),uw,3,3,λl H3 l0 S3 hl3=>?_];have nl:=u.names_len;have nl2:=ow (t.parts.take i);have nl3:=mU t.parts i;erw[M,l,2,S3 _ _ hM,hl3,6,λr hr0=>?_]
     . rw[zH0,zH0];exact bK #[0]
     . have S4:=(S2.trans S3).trans (zC0 hr0 (.lst ((gl (t.parts.take i)).map V.str++u.names.map V.str)));erw[r,0,(S1.trans (S2.trans S3)).free hr0,6,S4];rw[aC,lT hu,zO0]
   . rintro σ H2 ⟨M,x2,rfl,M0,hM,S2⟩;rw[xl,qJ0,←t.names_parts nis]at hM;erw[0,q M H2 M0 (S1.trans S2) hM]
theorem Cc  :FnOk P w K mg base CX0 2 f fd ["_law_tree_here"] (spNO 0):=by
 have no:∀vs H Q E,¬ spNO 0 vs H Q E:=λvs H Q E h=>by
  erw[v,t,_,_,_,h1,_]at h
  have:=t.depth_pos
  omega
 erw[λvs H Q E h=>absurd h (no vs H Q E),λA outer s H args us vs Q E _ _ _ _ h=>absurd h (no vs H Q E)]
theorem jI   (F:Fun K "_law_names_of" "_law_names_of" fi f fd) (m:mg "_law_names_of"=some (.ref f)) :
 ∀n:Nat,FnOk P w K mg base CX0 (n+2) f fd ["_law_tree_here"] (spNO n)
 | 0=>Cc
 | n+1=>Cd F (Cal.of F (jI F m n) m (λ_ _ _ _ _ _ us hl=>by let%[u0|1]:=Ee hl;rfl))
theorem oP(ns:List Str)(z:Str):((ns.map V.str).countP λy=>eqV y (.str z))=ns.count z:=by
 rw[List.countP_map];rfl
inductive spNeed(vs:List V)(H:Hp)(Q:VK)(u_3:XK):Prop
 |mk:∀(a b:Addr)(ns:List Str)(tv:List V)(ts:List Tr),vs=[.ref a,.ref b]->H a=some (.lst (ns.map V.str))->H b=some (.lst tv)->TreesAt H tv ts->ts.length<=10->(∀t∈ts,t.wf/\t.depth<=10/\t.size<=400)->(∀(m:Int)(H':Hp),Same H H'->2<=m->m<=400->(ts.length:Int)<=m+1->(∀t∈ts,∀x∈ns,(t.names.count x:Int)<=m)->Q (.int m) H')->spNeed vs H Q u_3
theorem eY:FnScope ["_law_names_here","_law_trees","_law_need_here","_law_tree_here","_law_found","_law_name"] ["_law_names_here","_law_trees"] (ak nn):=%[1,1,1,4,1,4|4]
theorem xH   (F:Fun K "_law_need" "_law_need" nn f fd) (hlen:mg "len"=none) (hmax:mg "max"=none) (dX:Cal P w K mg base 12 "_law_names_of" ["_law_tree_here"] (spNO 10)):FnOk P w K mg base CX0 13 f fd ["_law_names_here","_law_trees"] spNeed:=by
 exists eY
 erw[a,b,ns,tv,ts,1,ha,hb,TS,tl,tok,q]at h;refine⟨_,(aa #[am,2,eY,aD (qg rfl) rfl hmax PyProof.Rows.boot_max %[ac,aj aW (aD aE rfl hlen PySem.boot_len %[1|aH]) ac|aH]]
  (aa (cP PassesOwn.never rfl (fw (pv 1)) (bQ (i:=3) eY.nd rfl (.inl rfl)) (aa #[am,4,eY,ag dX hr ⋯ rfl %[3|aH]]
   (ad (cP PassesOwn.never rfl (fw (pv 0)) (bQ (i:=5) eY.nd rfl (.inl rfl)) (ad #[am,2,eY,aD (qg rfl) rfl hmax PyProof.Rows.boot_max %[2,dq PySem.F.plainAttrs_list PySem.F.slot_list_count PySem.F.type_list_count ox (pv 4) %[5|aH]|aH]])))))
  (ad (ao (pv 2))))),?_⟩
 have vl:=TS.length;erw[0,b,0,.inl (zF0 hb),2,_,0,6];obtain⟨m,em,m2,m4,mt⟩:∃m:Int,(if((tv.length:Int)-1)>2 then((tv.length:Int)-1)else 2)=m/\2<=m/\m<=400/\(ts.length:Int)<=m+1:=⟨_,rfl,by split <;> omega,by split <;> omega,by split <;> omega⟩
 rw [em];refine⟨_,rfl,b,rfl,%[_|zF0 hb],jk (K:=K) (xs:=tv) (λi σ H'=>∃(m:Int)(x3 x4 x5:Option V),σ=[some (.ref a),some (.ref b),some (.int m),x3,x4,x5]/\2<=m/\m<=400/\(ts.length:Int)<=m+1/\(∀t∈ts.take i,∀x∈ns,(t.names.count x:Int)<=m)/\Same H H')
  %[m,_,_,0,m2,m4,mt,by simp|Same.refl _] (λi σ H' _ hst=>by erw[_,_,_,_,_,_,_,_,_,h]at hst;exact zF0 (h _ _ hb)) ?_ ?_⟩
 . rintro i v σ H1 hv ⟨m,x3,x4,x5,rfl,m2,m4,mt,mc,S1⟩;let%[t,ht|T]:=TS.get hv;have tm:=qI0 ht;let%[tw,td|tz]:=tok t tm;erw[0,v,t,1,T.mono (aV S1),tw,3,tz,λl H2 l0 S2 hl=>?_];have S12:=S1.trans S2;have tn:=t.names_len;refine⟨_,rfl,a,rfl,%[_|zF0 (S12 _ _ ha)],jk (K:=K) (xs:=ns.map V.str) (λj σ H'=>∃(m':Int)(x5:Option V),σ=[some (.ref a),some (.ref b),some (.int m'),some v,some (.ref l),x5]/\m<=m'/\m'<=400/\(∀x∈ns.take j,(t.names.count x:Int)<=m')/\H'=H2)
    %[m,0,Int.le_refl _,m4,by simp|1] (λj σ H' _ hst=>by erw[_,_,_,_,_,_,h]at hst;subst h;exact zF0 (S12 _ _ ha)) ?_ ?_⟩
   . rintro j y σ H3 hy ⟨m',y5,rfl,mm,m4',mc',rfl⟩;rw[qE0]at hy;let%[x,hx|1]:=qV0 hy;erw[0,0,.inl %[1,_|zF0 hl],0,l,2,zF0 hl,fK _,1,_,0,6];rw[oP];have cl:=List.count_le_length (a:=x) (l:=t.names);erw[_,0,by split <;> omega,by split <;> omega,λz hz=>?_,1];rw[qN0,hx]at hz;rcases qD0 hz with h | h
     . have:=mc' z h
       split <;> omega
     . have e:z=x:=by simpa using h
       subst e
       split <;> omega
   . rintro σ H3 ⟨m',y5,rfl,mm,m4',mc',rfl⟩;rw[zH0,qJ0]at mc';erw[m',_,_,0,3,m4',3,λu hu x hx=>?_,S12];rw[qN0,ht]at hu;rcases qD0 hu with h | h
     . have:=mc u h x hx
       omega
     . have e:u=t:=by simpa using h
       subst e;exact mc' x hx
 . rintro σ H1 ⟨m,x3,x4,x5,rfl,m2,m4,mt,mc,S1⟩;rw[vl,qJ0]at mc;erw[0,q m H1 S1 m2 m4 mt mc]
inductive spPrimeB(vs:List V)(H:Hp)(Q:VK)(u_3:XK):Prop
 |mk:∀n:Int,vs=[.int n]->(∀b:Bool,(b=true↔Pr n)->Q (.bl b) H)->spPrimeB vs H Q u_3
theorem kq:FnScope ["_law_number","_law_k"] ["_law_number"] (ak iu):=%[1,1,1,4,1,4|4]
theorem pz   (F:Fun K "_law_is_prime" "_law_is_prime" iu f fd) (hrange:mg "range"=none):FnOk P w K mg base CX0 1 f fd ["_law_number"] spPrimeB:=by
 exists kq
 erw[n,1,q]at h;refine⟨_,(aa (aB (af cN (pv 0) ac (ai _)) (ad (ao eV)) av)
  (aa (cP PassesOwn.never rfl (xD rfl hrange %[ac,ac|aH]) (bQ (i:=1) kq.nd rfl (.inl rfl)) (aa (aB (af gY (aj cc (pv 1) (pv 1)) (pv 0) (ai _)) (ad (ao eV)) av)
   (ad (aB (af aI (aj aO (pv 0) (pv 1)) ac (ai _)) (ad (ao eV)) av))))
  (ad (ao eV)))),?_⟩
 erw[0,2,0,6];refine hC (λc=>?_) (λc=>?_)
 . have c':=of_decide_eq_true c;exact q false %[λz=>(nomatch z)|λz=>by have:=z.1;omega]
 have c':¬ n<2:=of_decide_eq_false (Bool.eq_false_iff.mpr c);erw[(2),(1001),1,%[4,4,4|4],eK (λi σ H'=>∃x,σ=[some (.int n),x]/\H'=H/\lD n (2+(i:Int))) %[0,1|by simpa using tZ n] ?_ ?_]
 . rintro i σ H' hi ⟨x,rfl,rfl,u⟩;have hi':i<999:=hi;erw[0,0,2,.inl %[3|3],0,2,0,6];refine hC (λc1=>?_) (λc1=>?_)
   . have c2:=of_decide_eq_true c1;exact q true %[λ_=>DJ #[0] #[0] u c2|λ_=>rfl]
   . have c2:=of_decide_eq_false (Bool.eq_false_iff.mpr c1);erw[0,0,2,(show(0:Int)<2+(i:Int) by omega),1,0,6];refine hC (λc3=>?_) (λc3=>?_)
     . have c4:=V.int.inj (of_decide_eq_true c3);exact q false %[λz=>(nomatch z)|λz=>(DH #[0] #[0] #[0] c4 z).elim]
     . have c4:=of_decide_eq_false (Bool.eq_false_iff.mpr c3);erw[0,1,6];have e:(2:Int)+((i+1:Nat):Int)=2+(i:Int)+1:=by omega
       rw[e];exact wP u #[0] (λz=>c4 (congrArg V.int z))
 . rintro σ H' ⟨x,rfl,rfl,u⟩;exact q true %[λ_=>DK #[0] u|λ_=>rfl]
inductive spFieldL(vs:List V)(H:Hp)(Q:VK)(u_3:XK):Prop
 |mk:∀(f:Addr)(m:Int),vs=[.ref f,.int m]->FeedAt H f->2<=m->m<=400->(∀(p:Int)(H':Hp),Pr p->m<p->p<=999983->FeedAt H' f->SameBut f H H'->Q (.int p) H')->spFieldL vs H Q u_3
theorem uI{f:Addr}{m fm:Int}{D:Ends}{H:Hp}(hD:∀p:Int,Pr p->m<p->p<=999983->D.nx [some (.ref f),some (.int m),some (.int fm),some (.int p)] H)(n:Int)(h1:m<n)(h2:n<=999983) :
 yP (tNot (tB (rS spPrimeB [] E0 (lF (tVar 3) ui)))) (yV (tOp (rI0 λi j=>V.int (i+j)) (tVar 3) (tC (V.int 1))) (tf 3)) D [some (.ref f),some (.int m),some (.int fm),some (.int n)] H:=by
 erw[λmm σ H'=>∃n:Int,σ=[some (.ref f),some (.int m),some (.int fm),some (.int n)]/\H'=H/\m<n/\n<=999983/\mm=(999983-n).toNat,%[2,h1,h2|1],6];rintro mm σ H' ⟨n,rfl,rfl,n0,n1,rfl⟩;erw[0,n,1,λb hb=>%[b,1|6]];cases b with
 | true=>exact cG (hD n (hb.mp rfl) n0 n1)
 | false=>
   refine du ?_;erw[_,λ_ _ h=>h,6];have ne:n≠999983:=λz=>by
    subst z;exact nomatch hb.mpr xy
   erw[0,2,6];erw[_,3,n+1,1,1,3,3,1]
theorem d8:FnScope ["_law_feed_here","_law_need_here","_law_form","_law_number"] ["_law_feed_here","_law_need_here"] (ak lg):=%[1,1,1,4,1,4|4]
theorem uY   (F:Fun K "_law_field" "_law_field" lg f fd) (aS:Cal P w K mg base 1 "_law_take" ["_law_feed_here","_law_many"] spTake) (gu:Cal P w K mg base 1 "_law_is_prime" ["_law_number"] spPrimeB):FnOk P w K mg base CX0 2 f fd ["_law_feed_here","_law_need_here"] spFieldL:=by
 exists d8
 erw[f,m,1,hF,m2,m4,q]at h;refine⟨_,(aa #[am,2,d8,ag aS hr ⋯ rfl %[0,ac|aH]]
  (aa #[am,3,d8,aj aQ (pv 1) ac]
  (aa (aB (af aI (pv 2) ac (ai _)) (ad #[am,3,d8,aj aQ (aj aQ (pv 1) ac) (ag aS hr ⋯ rfl %[0,ac|aH])]) av)
  (aa (aB (af aI (pv 2) ac (ai _)) (ad #[am,3,d8,aj aQ (aj aQ (pv 1) ac) (ag aS hr ⋯ rfl %[0,aj aW ac (pv 1)|aH])]) av)
  (aa (gX PassesOwn.never (gN (dj (ag gu hr ⋯ rfl %[3|aH]))) (ad #[am,3,d8,aj aQ (pv 3) ac]))
  (ad (ao (pv 3)))))))),?_⟩
 erw[0,f,(4),1,hF,4,4,λfm H1 _ _ F1 S1=>?_];erw[0,2,6];erw[0,1,0,6];refine hC (λc1=>?b1) (λc1=>?b2)
 case' b1=>
  erw[0,2,0,f,(60),1,F1,4,4,λd H2 d0 d1 F2 S2=>?_];erw[2,6];have G2:=S1.trans S2;have n1:m<m+1+d:=by omega
  have n2:m+1+d<=999983:=by omega
 case' b2=>
  have F2:=F1;have G2:=S1;have n1:m<m+1:=by omega
  have n2:m+1<=999983:=by omega
 all_goals
  erw[0,1,0,6];refine hC (λc2=>?_) (λc2=>?_);erw[0,2,0,0,2,f,0,F2,(show(0:Int)<999983-m by omega),(show(999983:Int)-m<2 ^ 63 by omega),λd H3 d0 d1 F3 S3=>?_];erw[2,6];have G3:=G2.trans S3;clear n1 n2;have n1:m<m+1+d:=by omega
  have n2:m+1+d<=999983:=by
   have:d<999983-m:=d1
   omega
  rotate_left
  have F3:=F2;have G3:=G2
  rotate_left
  all_goals
   refine uI (λp pp mp p9=>?_) _ n1 n2;erw[0,q p _ pp mp p9 F3 G3]
inductive spWithin(vs:List V)(H:Hp)(Q:VK)(u_3:XK):Prop
 |mk:∀(v:V)(t:Tr),vs=[v]->TreeAt H v t->t.wf->(∀(p:Addr)(xs:List V)(H':Hp),Same H H'->H' p=some (.tup xs)->TreesAt H' xs t.parts->Q (.ref p) H')->spWithin vs H Q u_3
theorem lX:FnScope ["tree"] ["tree"] (ak fQ):=%[1,1,1,4,1,4|4]
theorem lZ   (F:Fun K "trees_within" "trees_within" fQ f fd):FnOk P w K mg base CX0 1 f fd ["tree"] spWithin:=by
 exists lX
 erw[v,t,1,T,wf,q]at h;refine⟨_,(aa (aB (af aI (ay aF (pv 0) ac (λ_ _=>rfl)) au (ai _)) (ad (ao (aG aH))) av)
  (ad (ao (gg qt (pv 0) (fq ac) kx)))),?_⟩
 rcases T.view wf with⟨a,x,rfl,rfl,_,e⟩ | ⟨a,o,xs,rfl,no,xl,e,TS,_⟩
 . erw[0,a,_,(0),0,1,zD0 e,1,1,0,6];refine aR rfl ?_;erw[(by show 0<=sizeLine;decide),λp hp=>?_];exact q p [] _ (zC0 hp _) aC .nil
 . erw[0,a,_,(0),.str o,1,1,zD0 e,at0 ..,1,0,6];refine ax (λz=>no (by injection z)) ?_;let%[c1|c2]:=EC (.str o) xs xl;erw[0,(1),1,a,0,zD0 e,c2,λp hp=>?_];rw[c1];exact q p xs _ (zC0 hp _) aC (TS.mono (aV (zC0 hp _)))
inductive spNamesIn(n:Nat)(vs:List V)(H:Hp)(Q:VK)(u_3:XK):Prop
 |mk:∀(v:V)(t:Tr),vs=[v]->TreeAt H v t->t.wf->t.depth<=n->t.size<=400->(∀(l:Addr)(H':Hp),H l=none->Same H H'->H' l=some (.lst (t.names.map V.str))->Q (.ref l) H')->spNamesIn n vs H Q u_3
theorem iN:FnScope ["tree","names","part"] ["tree"] (ak io):=%[1,1,1,4,1,4|4]
theorem vd {n:Nat}   (F:Fun K "names_in" "names_in" io f fd) (cu:Cal P w K mg base 1 "trees_within" ["tree"] spWithin) (c8:Cal P w K mg base (n+2) "names_in" ["tree"] (spNamesIn n)):FnOk P w K mg base CX0 (n+3) f fd ["tree"] (spNamesIn (n+1)):=by
 exists iN
 erw[v,t,1,T,wf,dn,sz,q]at h;refine⟨_,(aa (aB (af aI (ay aF (pv 0) ac (λ_ _=>rfl)) au (ai _)) (ad (ao (ci %[ay aF (pv 0) ac (λ_ _=>rfl)|aH]))) av)
  (aa #[am,1,iN,ci aH]
  (aa (cP PassesOwn.never rfl (jh (ag cu hr #[0] rfl %[0|aH])) (bQ (i:=2) iN.nd rfl (.inl rfl)) (ad (ba (dq PySem.F.plainAttrs_list PySem.F.slot_list_extend PySem.F.type_list_extend xS (pv 1) %[ag c8 hr (zG0 _) rfl %[2|aH]|aH]))))
  (ad (ao (pv 1)))))),?_⟩
 have wf':=wf;rcases T.view wf with⟨a,x,rfl,rfl,_,e⟩ | ⟨a,o,xs0,rfl,no,xl0,e,_,nis⟩
 . erw[0,a,_,(0),0,1,zD0 e,1,1,0,6];refine aR rfl ?_;erw[0,a,_,(1),0,1,zD0 e,1,(by show 1<=sizeLine;decide),λp hp=>?_];exact q p _ hp (zC0 hp _) aC
 . erw[0,a,_,(0),.str o,1,1,zD0 e,at0 ..,1,0,6];refine ax (λz=>no (by injection z)) ?_;erw[(by show 0<=sizeLine;decide),λL hL=>?_];have G0:=zC0 hL (.lst []);erw[0,_,t,1,T.mono (aV G0),wf,λp xs H1 S1 hp TS=>?_];have hL1:H1 L=some (.lst []):=S1 _ _ aC;have pL:p≠L:=λz=>by rw[z,hL1]at hp;cases hp
   have xl:=TS.length;have sp:=t.size_parts;erw[p,1,%[_|zD0 hp],rE (K:=K) (xs:=xs) (λi σ H'=>∃x2,σ=[some (.ref a),some (.ref L),x2]/\H' L=some (.lst ((gl (t.parts.take i)).map V.str))/\SameBut L H1 H') %[0,hL1|SameBut.refl _ _] (λi σ H' _ hst=>by erw[_,_,_,h]at hst;exact zD0 (h _ _ pL hp)) ?_ ?_]
   . rintro i x σ H2 hx ⟨x2,rfl,hl,S2⟩;let%[u,hu|Tu]:=TS.get hx;have um:=qI0 hu;let%[uw,ud|us]:=Tr.parts_mem um wf;have Tu2:TreeAt H2 x u:=Tu.mono λb ys h=>S2 b _ (λz=>by rw[z,hL1]at h;cases h) h
     erw[0,.inl %[1,_|zF0 hl],0,x,u,1,Tu2,uw,3,3,λl H3 l0 S3 hl3=>?_];have nl:=u.names_len;have nl2:=ow (t.parts.take i);have nl3:=mU t.parts i;erw[L,l,2,S3 _ _ hl,hl3,6,6]
     . rw[zH0,zH0];exact bK #[0]
     erw[0,6,λb o hb h=>?_]
     . rw[aC,lT hu,zO0]
     . rw[aq hb];exact S3 _ _ (S2 _ _ hb h)
   . rintro σ H2 ⟨x2,rfl,hl,S2⟩;rw[xl,qJ0,←t.names_parts nis]at hl;erw[0,6];refine q L H2 hL (λb o h=>?_) hl;exact S2 b o (aN h hL) (S1 _ _ (G0 _ _ h))
theorem vc  :FnOk P w K mg base CX0 2 f fd ["tree"] (spNamesIn 0):=by
 have no:∀vs H Q E,¬ spNamesIn 0 vs H Q E:=λvs H Q E h=>by
  erw[v,t,_,_,_,h1,_]at h
  have:=t.depth_pos
  omega
 erw[λvs H Q E h=>absurd h (no vs H Q E),λA outer s H args us vs Q E _ _ _ _ h=>absurd h (no vs H Q E)]
theorem lQ   (F:Fun K "names_in" "names_in" io f fd) (m:mg "names_in"=some (.ref f)) (cu:Cal P w K mg base 1 "trees_within" ["tree"] spWithin) :
 ∀n:Nat,FnOk P w K mg base CX0 (n+2) f fd ["tree"] (spNamesIn n)
 | 0=>vc
 | n+1=>vd F cu (Cal.of F (lQ F m cu n) m (λ_ _ _ _ _ _ us hl=>by let%[u0|1]:=Ee hl;rfl))
inductive spField(vs:List V)(H:Hp)(Q:VK)(u_3:XK):Prop
 |mk:∀n:Int,vs=[.int n]->n<=999999->(∀b:Bool,(b=true↔2<n/\Pr n)->Q (.bl b) H)->spField vs H Q u_3
theorem iS:FnScope ["number","divisor"] ["number"] (ak jS):=%[1,1,1,4,1,4|4]
theorem sG   (F:Fun K "is_field" "is_field" jS f fd):FnOk P w K mg base CX0 1 f fd ["number"] spField:=by
 exists iS
 erw[n,1,n9,q]at h;refine⟨_,(aa (aB (PW.pt (eD (af cN (pv 0) ac (ai _)) (dA (af aI (aj aO (pv 0) ac) ac (ai _))))) (ad (ao eV)) av)
  (aa #[am,1,iS,ac]
  (aa (gX PassesOwn.never (af wk (aj cc (pv 1) (pv 1)) (pv 0) (ai _)) (aa (aB (af aI (aj aO (pv 0) (pv 1)) ac (ai _)) (ad (ao eV)) av)
   (ad #[am,1,iS,aj aQ (pv 1) ac])))
  (ad (ao eV))))),?_⟩
 erw[0,2,0,6]
 by_cases c:n<3
 . refine aR c ?_;refine du ?_;exact q false %[λz=>(nomatch z)|λz=>by omega]
 refine ax c ?_;erw[0,2,(by show(0:Int)<_;decide),1,0,6]
 by_cases c2:n % 2=0
 . refine aR (congrArg V.int c2) ?_;exact q false %[λz=>(nomatch z)|λz=>absurd z.2 (yq c2 #[0])]
 refine ax (λz=>c2 (V.int.inj z)) ?_;erw[λm σ H'=>∃d:Int,σ=[some (.int n),some (.int d)]/\H'=H/\3<=d/\d<=1001/\d % 2=1/\tQ n d/\m=(n+3-d).toNat,%[_,(3),1,1,3,3,3,xP n|1],6];rintro m σ H' ⟨d,rfl,rfl,d3,d9,d2,u,rfl⟩;erw[0,0,2,.inl %[3|3],0,2,0,6]
 by_cases c3:d*d<=n
 . refine aR c3 ?_;have r1:=ut n9 d3 c3;have r2:=BJ d3 c3;erw[_,λ_ _ h=>h,6];erw[0,0,2,(show 0<d by omega),1,0,6]
   by_cases c4:n % d=0
   . refine aR (congrArg V.int c4) ?_;exact q false %[λz=>(nomatch z)|λz=>absurd z.2 (yp n9 d3 c3 c4)]
   refine ax (λz=>c4 (V.int.inj z)) ?_;erw[0,2,6];erw[_,3,d+2,1,1,3,3,3,Am u d2 c4,1]
 . refine ax c3 ?_;exact q true %[λ_=>%[3|yo #[0] c2 d3 u #[0]]|λ_=>rfl]
abbrev qH:Stmt:=bV uG 0
abbrev uF:Stmt:=bV uG 1
abbrev nA:Stmt:=bV uG 2
def gf (a b:Addr) (p:Int) (d:Addr):List (Str×V):=bX "degrees" (.ref d) (bX "field" (.int p) (bX "trees" (.ref b) (bX "switches" (.ref a) [])))
theorem oH (a b:Addr) (p:Int) (d:Addr):(gf a b p d).lookup ("switches":Str)=some (.ref a):=by
 unfold gf;rw[ah,zB0 ⋯,ah,zB0 ⋯,ah,zB0 ⋯,ah,zE0 rfl]
theorem qb (a b:Addr) (p:Int) (d:Addr):(gf a b p d).lookup ("trees":Str)=some (.ref b):=by
 unfold gf;rw[ah,zB0 ⋯,ah,zB0 ⋯,ah,zE0 rfl]
theorem jJ (a b:Addr) (p:Int) (d:Addr):(gf a b p d).lookup ("field":Str)=some (.int p):=by
 unfold gf;rw[ah,zB0 ⋯,ah,zE0 rfl]
theorem De (a b:Addr) (p:Int) (d:Addr):(gf a b p d).lookup ("degrees":Str)=some (.ref d):=by
 unfold gf;rw[ah,zE0 rfl]
theorem AO (a b:Addr) (p:Int) (d:Addr) {m:Str} (h1:¬ m="degrees") (h2:¬ m="field") (h3:¬ m="trees") (h4:¬ m="switches"):(gf a b p d).lookup m=none:=by
 unfold gf;rw[ah,zB0 h1,ah,zB0 h2,ah,zB0 h3,ah,zB0 h4]
 all_goals rfl
structure GTxt(K:W.Frag)(mg:Str->Option Value)(C:Addr):Prop where
 cl:Cls K C
 nS:NoAttr K C "switches"
 nT:NoAttr K C "trees"
 nF:NoAttr K C "field"
 nD:NoAttr K C "degrees"
 mgC:mg "Game"=some (.ref C)
theorem tP(g:Nat->Int):∀n,∃k,k<=n/\df g n=g k
 | 0=>%[(0),zG0 _|1]
 | n+1=>by
   let%[k,hk|e]:=tP g n;unfold df
   split
   . erw[n+1,zG0 _,1]
   . erw[k,3,e]
theorem kH{ns:List Int}(h:ns≠[]):xV ns 0∈ns:=by
 cases ns with
 | nil=>exact absurd rfl h
 | cons a r=>
   let%[k,hk|e]:=tP (λi=>(a::r)[i]?.getD 0) ((a::r).length-1);have e1:xV (a::r) 0=df (λi=>(a::r)[i]?.getD 0) ((a::r).length-1):=rfl;have hl:k<(a::r).length:=by
    rw[zT0]at hk ⊢;omega
   rw[e1,e];show(a::r)[k]?.getD 0∈a::r;rw[zN0 hl];exact qP0 hl
def bL(ts:List Tr)(x:Str):Int:=xV (ts.map λt=>(t.names.count x:Int)) 0
theorem oO{ts:List Tr}{x:Str}{p:Int}(h0:ts≠[])(h:∀t∈ts,(t.names.count x:Int)<p):bL ts x<p:=by
 have:=kH (ns:=ts.map λt=>(t.names.count x:Int)) (by simpa using h0)
 let%[t,ht|e]:=List.mem_map.mp this;unfold bL;rw[←e];exact h t ht
inductive spDeg(vs:List V)(H:Hp)(Q:VK)(u_3:XK):Prop
 |mk:∀(x:Str)(b:Addr)(tv:List V)(ts:List Tr),vs=[.str x,.ref b]->H b=some (.tup tv)->TreesAt H tv ts->ts≠[]->ts.length<=10->(∀t∈ts,t.wf/\t.depth<=10/\t.size<=400)->(∀H',Same H H'->Q (.int (bL ts x)) H')->spDeg vs H Q u_3
theorem qx:FnScope ["name","trees"] ["name","trees"] (ak iZ):=%[1,1,1,4,1,4|4]
theorem qY   (F:Fun K "degree_of" "degree_of" iZ f fd) (hmax:mg "max"=none) (c8:Cal P w K mg base 12 "names_in" ["tree"] (spNamesIn 10)):FnOk P w K mg base CX0 13 f fd ["name","trees"] spDeg:=by
 exists qx
 erw[x,b,tv,ts,1,hb,TS,t0,tl,tok,q]at h;refine⟨_,(ad (ao (aD (qh rfl) rfl hmax PyProof.Rows.boot_max (ae (cJ (N:=["name"]) (ix:=[0]) rfl
  (CompScope.one (by rfl') ⋯ rfl ⋯ rfl ⋯ (by rfl') (by rfl') (by rfl') rfl rfl) rfl
  (jh (pv 1)) (λ_ _ _=>cQ (DM K PySem.F.plainAttrs_list PySem.F.slot_list_count PySem.F.type_list_count (xT K) (ag c8 hr ⋯ rfl %[0|aH]) %[1|aH]))) aH)))),?_⟩
 have vl:=TS.length;erw[0,b,1,%[_|zD0 hb],λD hD=>?_];refine jm (K:=K) (xs:=tv) (λi H'=>H' D=some (.lst (((ts.take i).map λt=>(t.names.count x:Int)).map V.int))/\Same H H') %[by rw[aC];rfl|zC0 hD _] (λi H' _ h=>zD0 (h.2 _ _ hb)) ?_ ?_
 . rintro i z H2 hz ⟨hl,S2⟩;let%[t,ht|T]:=TS.get hz;let%[tw,td|tz]:=tok t (qI0 ht);have hi:i<tv.length:=(zX0 hz).1;erw[0,z,t,1,T.mono (aV S2),tw,3,tz,λl H3 l0 S3 hl3=>?_];erw[.inl %[1,_|zF0 hl3],0,l,2,zF0 hl3,fK _,1,6];rw[oP];erw[_,S3 _ _ hl,6,Nx.of hi %[6|λb' o' e'=>?_]]
   . rw[zH0,zH0,qH0];exact aM #[0]
   . rw[aC,qN0,ht,zO0,zO0];rfl
   . rw[aq (aN e' hD)];exact S3 _ _ (S2 _ _ e')
 . rintro H2 ⟨hl,S2⟩;rw[vl,qJ0]at hl;erw[D,0,zF0 hl,by simpa using t0,q H2 S2]
inductive spLookS(vs:List V)(H:Hp)(Q:VK)(u_3:XK):Prop
 |mk:∀(a:Addr)(ns:List Str),vs=[.ref a]->H a=some (.tup (ns.map V.str))->ns.Nodup->ns.length<=10->(∀H',Same H H'->Q .non H')->spLookS vs H Q u_3
theorem iE(x:Str)(ns:List Str):inV (.str x) (ns.map V.str)=decide (x∈ns):=by
 unfold inV
 induction ns with
 | nil=>rfl
 | cons a r ih=>
   rw [qC0,List.any_cons,ih];have e:eqV (.str a) (.str x)=decide (x=a):=by
    show(a==x)=_
    by_cases c:x=a
    . subst c;simp
    . rw[decide_eq_false c];simpa using λh=>c h.symm
   rw[e]
   by_cases c1:x=a <;> by_cases c2:x∈r <;> simp [c1,c2]
theorem eO:FnScope ["switches","place","name"] ["switches"] (ak fe):=%[1,1,1,4,1,4|4]
theorem lr   (F:Fun K "look_switches" "look_switches" fe f fd) (henum:mg "enumerate"=none):FnOk P w K mg base CX0 1 f fd ["switches"] spLookS:=by
 exists eO
 erw[a,ns,1,ha,nd,nl,q]at h;refine⟨_,(ad (cP PassesOwn.never rfl (zR rfl henum (pv 0)) (zS rfl (kD (bQ (i:=1) eO.nd rfl (.inl rfl)) (kD (bQ (i:=2) eO.nd rfl (.inl rfl)) wb)))
  (ad (aB (af dB (pv 2) (gg qt (pv 0) kx (fq (pv 1))) (by rfl')) cg av)))),?_⟩
 erw[0,a,1,%[_|zD0 ha],yk (K:=K) (xs:=ns.map V.str) (λi σ H'=>∃x1 x2:Option V,σ=[some (.ref a),x1,x2]/\Same H H') %[_,0|Same.refl _] (λi σ H' _ hst=>by erw[_,_,_,h]at hst;exact zD0 (h _ _ ha)) ?_ ?_]
 . rintro i z σ H1 t hz ⟨x1,x2,rfl,S1⟩ ht;have hi:i<(ns.map V.str).length:=(zX0 hz).1;rw[qE0]at hz;let%[x,hx|1]:=qV0 hz;have G:=zC0 ht (.tup [.int (i:Int),.str x]);have S2:=S1.trans G;have hi':i<ns.length:=by rw[zH0]at hi;exact hi
   erw[t,0,zD0 aC,1,_,0,2,6];erw[0,0,0,(i:Int),1,a,0,zD0 (S2 _ _ ha),6,λc hc=>?_]
   . rintro⟨_,h⟩;rw[HT.sIx_nat]at h;omega
   . erw[c,0,.inr (zD0 aC),1,6,0,6]
     . have ec:pG (ns.map V.str) none (some (i:Int))=(ns.take i).map V.str:=by
        unfold pG;rw[HT.sIx_none,HT.sIx_nat,List.drop_zero,Nat.sub_zero,List.map_take]
        congr 1
        omega
       rw[ec];exact fK _
     . have ec:pG (ns.map V.str) none (some (i:Int))=(ns.take i).map V.str:=by
        unfold pG;rw[HT.sIx_none,HT.sIx_nat,List.drop_zero,Nat.sub_zero,List.map_take]
        congr 1
        omega
       show if inV (.str x) (pG (ns.map V.str) none (some (i:Int)))=true then _ else _
       rw[ec,iE,decide_eq_false ?_]
       . refine cG ?_;erw[_,0,S2.trans (zC0 hc _)]
       . intro hm;let%[j,hj|e]:=List.getElem_of_mem hm;rw[qH0]at hj;rw[List.getElem_take]at e;have ex:ns[i]=x:=by
          rw[zN0 hi']at hx;exact zU0 hx
         exact List.pairwise_iff_getElem.mp nd j i #[0] hi' #[0] (e.trans ex.symm)
 . rintro σ H1 ⟨x1,x2,rfl,S1⟩;exact q H1 S1
theorem kG{ns:List Str}:∀t:Tr,t.ok ns->∀x∈t.names,x∈ns
 | .is y,h,x,hx=>by rw[zM0 hx];exact h
 | .yes,_,x,hx=>by cases hx
 | .no,_,x,hx=>by cases hx
 | .not a,h,x,hx=>kG a h x hx
 | .bin _ a b,⟨_,h1,h2⟩,x,hx=>by
   rcases qD0 hx with h | h
   . exact kG a h1 x h
   . exact kG b h2 x h
inductive spLookN(vs:List V)(H:Hp)(Q:VK)(u_3:XK):Prop
 |mk:∀(a b:Addr)(ns:List Str)(tv:List V)(ts:List Tr),vs=[.ref b,.ref a]->H a=some (.tup (ns.map V.str))->H b=some (.tup tv)->TreesAt H tv ts->(∀t∈ts,t.ok ns/\t.wf/\t.depth<=10/\t.size<=400)->(∀H',Same H H'->Q .non H')->spLookN vs H Q u_3
theorem gn:FnScope ["trees","switches","tree","name"] ["trees","switches"] (ak ip):=%[1,1,1,4,1,4|4]
theorem pk   (F:Fun K "look_names" "look_names" ip f fd) (c8:Cal P w K mg base 12 "names_in" ["tree"] (spNamesIn 10)):FnOk P w K mg base CX0 13 f fd ["trees","switches"] spLookN:=by
 exists gn
 erw[a,b,ns,tv,ts,1,ha,hb,TS,tok,q]at h;refine⟨_,(ad (cP PassesOwn.never rfl (jh (pv 0)) (bQ (i:=2) gn.nd rfl (.inl rfl))
  (ad (cP PassesOwn.never rfl (fw (ag c8 hr ⋯ rfl %[2|aH])) (bQ (i:=3) gn.nd rfl (.inl rfl))
   (ad (aB (af qT (pv 3) (pv 1) (by rfl')) cg av)))))),?_⟩
 erw[0,b,1,%[_|zD0 hb],rE (K:=K) (xs:=tv) (λi σ H'=>∃x2 x3:Option V,σ=[some (.ref b),some (.ref a),x2,x3]/\Same H H') %[_,0|Same.refl _] (λi σ H' _ hst=>by erw[_,_,_,h]at hst;exact zD0 (h _ _ hb)) ?_ ?_]
 . rintro i z σ H1 hz ⟨x2,x3,rfl,S1⟩;let%[t,ht|T]:=TS.get hz;let%[tk,tw,td|tz]:=tok t (qI0 ht);erw[0,z,t,1,T.mono (aV S1),tw,3,tz,λl H2 l0 S2 hl=>?_];have S12:=S1.trans S2;erw[l,1,%[_|zF0 hl],jk (K:=K) (xs:=t.names.map V.str) (λj σ H'=>∃x3:Option V,σ=[some (.ref b),some (.ref a),some z,x3]/\H'=H2) %[0|1] (λj σ H' _ hst=>by erw[_,_,h]at hst;subst h;exact zF0 hl) ?_ ?_]
   . rintro j y σ H3 hy ⟨y3,rfl,rfl⟩;rw[qE0]at hy;let%[x,hx|1]:=qV0 hy;erw[0,0,a,0,.inr (zD0 (S12 _ _ ha)),1,fK _,0,6];show if(!inV (.str x) (ns.map V.str))=true then _ else _
     rw[iE,decide_eq_true (kG t tk x (qI0 hx))];refine cG ?_;erw[0,1]
   . rintro σ H3 ⟨y3,rfl,rfl⟩;erw[_,0,S12]
 . rintro σ H1 ⟨x2,x3,rfl,S1⟩;exact q H1 S1
inductive spLookF(vs:List V)(H:Hp)(Q:VK)(u_3:XK):Prop
 |mk:∀p:Int,vs=[.int p]->Pr p->2<p->p<=999983->Q .non H->spLookF vs H Q u_3
theorem pe:FnScope ["field"] ["field"] (ak iq):=%[1,1,1,4,1,4|4]
theorem pq   (F:Fun K "look_field" "look_field" iq f fd) (hend:∃t,mg "FIELDS_END"=some (.int 1000000 t)) (jH:Cal P w K mg base 1 "is_field" ["number"] spField):FnOk P w K mg base CX0 2 f fd ["field"] spLookF:=by
 exists pe
 erw[p,1,pp,p2,p9,q]at h;erw[te,ge]at hend;erw[_,(ad (aB (PW.pt (eD (af CZ (pv 0) (cE (v:=.int 1000000) rfl ge %[|0]) (ai _)) (dA (gN (dj (ag jH hr ⋯ rfl %[0|aH])))))) cg av)),6];erw[0,2,0,6];refine ax #[0] ?_;erw[0,p,1,3,λb hb=>%[b,1|6]];rw[hb.mpr ⟨p2,pp⟩];exact cG q
inductive spLookZ(vs:List V)(H:Hp)(Q:VK)(u_3:XK):Prop
 |mk:∀(p:Int)(d:Addr)(ns:List Int),vs=[.int p,.ref d]->H d=some (.lst (ns.map V.int))->ns≠[]->(∀n∈ns,n<p)->Q .non H->spLookZ vs H Q u_3
theorem l6:FnScope ["field","degrees","greatest"] ["field","degrees"] (ak iY):=%[1,1,1,4,1,4|4]
theorem qX   (F:Fun K "look_size" "look_size" iY f fd) (hmax:mg "max"=none):FnOk P w K mg base CX0 1 f fd ["field","degrees"] spLookZ:=by
 exists l6
 erw[p,d,ns,1,hd,n0,nl,q]at h;refine⟨_,(aa #[am,2,l6,aD (qh rfl) rfl hmax PyProof.Rows.boot_max %[1|aH]]
  (ad (aB (af wk (pv 0) (pv 2) (ai _)) cg av))),?_⟩
 erw[0,d,ns,1,zF0 hd,n0,6];erw[0,0,2,0,6]
 have:=nl _ (kH n0)
 exact ax #[0] q
theorem fY(f:Str)(v:V):∀fs:List (Str×V),(bX f v fs).length<=fs.length+1
 | []=>zG0 _
 | (g,u)::r=>by
   have:=fY f v r
   unfold bX
   split
   . simp
   . simp only[zT0];omega
def gf3 (a b:Addr) (p:Int):List (Str×V):=bX "field" (.int p) (bX "trees" (.ref b) (bX "switches" (.ref a) []))
theorem Et (a b:Addr) (p:Int):(gf3 a b p).lookup ("switches":Str)=some (.ref a):=by
 unfold gf3;rw[ah,zB0 ⋯,ah,zB0 ⋯,ah,zE0 rfl]
theorem Es (a b:Addr) (p:Int):(gf3 a b p).lookup ("trees":Str)=some (.ref b):=by
 unfold gf3;rw[ah,zB0 ⋯,ah,zE0 rfl]
def GameAt(C:Addr)(H:Hp)(g a b d:Addr)(p:Int):Prop:=∃dx,H g=some (.ins C dx (gf a b p d))
theorem GameAt.same(h:GameAt C H g a b d p)(s:Same H H'):GameAt C H' g a b d p:=by
 erw[dx,e]at h;erw[dx,s _ _ e]
inductive spGInit(C:Addr)(vs:List V)(H:Hp)(Q:VK)(u_3:XK):Prop
 |mk:∀(g dx a b:Addr)(ns:List Str)(tv:List V)(ts:List Tr)(p:Int),vs=[.ref g,.ref a,.ref b,.int p]->H g=some (.ins C dx [])->H a=some (.tup (ns.map V.str))->ns.Nodup->ns.length<=10->H b=some (.tup tv)->TreesAt H tv ts->1<=ts.length->ts.length<=10->(∀t∈ts,t.ok ns/\t.wf/\t.depth<=10/\t.size<=400)->Pr p->2<p->p<=999983->(ts.length:Int)<=p->(∀t∈ts,∀x∈ns,(t.names.count x:Int)<p)->(∀(d:Addr)(H':Hp),H d=none->GameAt C H' g a b d p->H' d=some (.lst ((ns.map (bL ts)).map V.int))->SameBut g H H'->Q .non H')->spGInit C vs H Q u_3
theorem zx:FnScope ["self","switches","trees","field"] ["self","switches","trees","field"] (ak qH):=%[1,1,1,4,1,4|4]
theorem Ah   (F:Fun K "__init__" "Game.__init__" qH f fd) (T:GTxt K mg C) (htuple:mg "tuple"=none) (hlen:mg "len"=none) (iT:Cal P w K mg base 13 "degree_of" ["name","trees"] spDeg) (e9:Cal P w K mg base 1 "look_switches" ["switches"] spLookS)
 (gz:Cal P w K mg base 13 "look_names" ["trees","switches"] spLookN) (gB:Cal P w K mg base 2 "look_field" ["field"] spLookF) (iU:Cal P w K mg base 1 "look_size" ["field","degrees"] spLookZ):FnOk P w K mg base CX0 14 f fd ["self","switches","trees","field"] (spGInit C):=by
 exists zx
 erw[g,dx,a,b,ns,tv,ts,p,1,hg,ha,nd,nl,hb,TS,t1,t10,tok,pp,p2,p9,tp,tc,q]at h;refine⟨_,(aa (bd (pv 0) (be bp rfl htuple bN %[1|aH]) rfl)
  (aa (bd (pv 0) (be bp rfl htuple bN %[2|aH]) rfl)
  (aa (bd (pv 0) (pv 3) rfl)
  (aa (bd (pv 0) (cJ (N:=["self"]) (ix:=[0]) rfl
   (CompScope.one (by rfl') ⋯ rfl ⋯ rfl ⋯ (by rfl') (by rfl') (by rfl') rfl rfl) rfl
   (jh (az (pv 0) rfl)) (λ_ _ _=>cQ (ag iT hr ⋯ rfl %[0,mr K (pv 1)|aH]))) rfl)
  (aa (ba (ag e9 hr ⋯ rfl %[az (pv 0) rfl|aH]))
  (aa (ba (ag gz hr ⋯ rfl %[az (pv 0) rfl,az (pv 0) rfl|aH]))
  (aa (ba (ag gB hr ⋯ rfl %[3|aH]))
  (ad (ba (ag iU hr ⋯ rfl %[3,aj og (az (pv 0) rfl) (ci %[aj aW (aD aE rfl hlen PySem.boot_len %[az (pv 0) rfl|aH]) ac|aH])|aH])))))))))),?_⟩
 have nag:a≠g:=aZ ha hg (by intro z;cases z);have nbg:b≠g:=aZ hb hg (by intro z;cases z);have vl:=TS.length;erw[0,a,0,.inr %[zD0 ha,0,g,C,dx,[],1,hg,T.cl,T.nS,(by show 0<1000;decide)|6]];erw[0,b,0,.inr %[zD0 (by rw[aq nbg];exact hb),0,g,C,dx,0,aC,T.cl,T.nT,(Nat.lt_of_le_of_lt (fY _ _ _) (by show 1<1000;decide))|6]];erw[0,0,g,C,dx,0,aC,T.cl,T.nF,(Nat.lt_of_le_of_lt (fY _ _ _) (Nat.lt_of_le_of_lt (Nat.succ_le_succ (fY _ _ _)) (by show 2<1000;decide))),6];have S3:SameBut g H (upd (upd (upd H g (.ins C dx (bX "switches" (.ref a) []))) g (.ins C dx (bX "trees" (.ref b) (bX "switches" (.ref a) [])))) g (.ins C dx (bX "field" (.int p) (bX "trees" (.ref b) (bX "switches" (.ref a) []))))):=
  (SameBut.upd _).trans ((SameBut.upd _).trans (SameBut.upd _))
 have hg3:upd (upd (upd H g (.ins C dx (bX "switches" (.ref a) []))) g (.ins C dx (bX "trees" (.ref b) (bX "switches" (.ref a) [])))) g (.ins C dx (bX "field" (.int p) (bX "trees" (.ref b) (bX "switches" (.ref a) [])))) g=some (.ins C dx (gf3 a b p)):=aC;generalize upd (upd (upd H g (.ins C dx (bX "switches" (.ref a) []))) g (.ins C dx (bX "trees" (.ref b) (bX "switches" (.ref a) [])))) g (.ins C dx (bX "field" (.int p) (bX "trees" (.ref b) (bX "switches" (.ref a) []))))=H3 at S3 hg3;have kT:bY H H3:=λc xs h=>S3 c _ (aZ h hg (by intro z;cases z)) h
 have ha3:=kT _ _ ha;have hb3:=kT _ _ hb;have TS3:=TS.mono kT;erw[0,g,C,dx,_,0,hg3,T.cl,T.nS,Et ..,a,1,%[_|zD0 ha3],λD hD=>?_];have D0:H D=none:=by
  cases e:H D with
  | none=>rfl
  | some o=>
    by_cases c:D=g
    . rw[c,hg3]at hD;cases hD
    . rw[S3 D o c e]at hD;cases hD
 refine jm (K:=K) (xs:=ns.map V.str) (λi H'=>H' D=some (.lst (((ns.take i).map (bL ts)).map V.int))/\Same H3 H') %[by rw[aC];rfl|zC0 hD _] (λi H' _ h=>zD0 (h.2 _ _ ha3)) ?_ ?_
 . rintro i z H4 hz ⟨hl,S4⟩;have hi:i<(ns.map V.str).length:=(zX0 hz).1;rw[qE0]at hz;let%[x,hx|1]:=qV0 hz;erw[0,0,g,C,dx,_,0,S4 _ _ hg3,T.cl,T.nT,Es ..,x,b,tv,ts,1,S4 _ _ hb3,TS3.mono (aV S4),6,t10,λt ht=>(tok t ht).2,λH5 S5=>?_]
   . intro e;rw[e]at t1;exact absurd t1 ⋯
   erw[_,S5 _ _ hl,6,Nx.of hi %[6|λb' o' e'=>?_]]
   . rw[zH0,zH0,qH0];exact aM #[0]
   . rw[aC,qN0,hx,zO0,zO0];rfl
   . rw[aq (aN e' hD)];exact S5 _ _ (S4 _ _ e')
 rintro H4 ⟨hl,S4⟩;rw[zH0,qJ0]at hl;erw[0,g,C,dx,0,S4 _ _ hg3,T.cl,T.nD,6,6]
 . exact Nat.lt_of_le_of_lt (zQ0 (fY _ _ _) (Nat.succ_le_succ (zQ0 (fY _ _ _) (Nat.succ_le_succ (fY _ _ _))))) (by show 3<1000;decide)
 have nDg:D≠g:=λz=>by rw[z,hg3]at hD;cases hD
 have hg5:upd H4 g (.ins C dx (gf a b p D)) g=some (.ins C dx (gf a b p D)):=aC;have S5:SameBut g H (upd H4 g (.ins C dx (gf a b p D))):=S3.trans ((zK0 S4).trans (SameBut.upd _));have hD5:upd H4 g (.ins C dx (gf a b p D)) D=some (.lst ((ns.map (bL ts)).map V.int)):=by rw[aq nDg];exact hl
 show _;generalize he5:upd H4 g (.ins C dx (gf a b p D))=H5 at hg5 S5 hD5;have kT5:bY H H5:=λc xs h=>S5 c _ (aZ h hg (by intro z;cases z)) h
 rw[show upd H4 g (.ins C dx (bX "degrees" (.ref D) (gf3 a b p)))=H5 from he5];erw[0,g,C,dx,_,0,hg5,T.cl,T.nS,oH ..,a,ns,1,kT5 _ _ ha,nd,nl,λH6 S6=>?_];have kT6:bY H H6:=λc xs h=>S6 _ _ (kT5 c xs h)
 erw[0,g,C,dx,_,0,S6 _ _ hg5,T.cl,T.nT,qb ..,0,g,C,dx,_,0,S6 _ _ hg5,T.cl,T.nS,oH ..,a,b,ns,tv,ts,1,kT6 _ _ ha,kT6 _ _ hb,TS.mono kT6,tok,λH7 S7=>?_];have S57:=S6.trans S7;erw[0,p,1,pp,p2,p9,6];erw[0,0,g,C,dx,_,0,S57 _ _ hg5,T.cl,T.nD,De ..,0,g,C,dx,_,0,S57 _ _ hg5,T.cl,T.nT,qb ..,b,0,.inr (zD0 (S57 _ _ (kT5 _ _ hb))),2,(by show 1<=sizeLine;decide),λl hl2=>?_];have Gl:=zC0 hl2 (.lst [.int ((tv.length:Int)-1)]);erw[D,l,2,Gl _ _ (S57 _ _ hD5),aC,6,λr hr0=>?_]
 . rw[zH0,zH0];exact bK (by simp;omega)
 have Gr:=zC0 hr0 (.lst ((ns.map (bL ts)).map V.int++[.int ((tv.length:Int)-1)]));erw[p,r,ns.map (bL ts)++[(tv.length:Int)-1],1,6,by simp,λn hn=>?_,6]
 . rw[aC,zO0];rfl
 . rcases qD0 hn with h | h
   . let%[x,hx|1]:=List.mem_map.mp h;refine oO ?_ λt ht=>tc t ht x hx
     intro e;rw[e]at t1;exact absurd t1 ⋯
   . rw[zM0 h];omega
 . have S59:=S57.trans (Gl.trans Gr);exact q D _ D0 %[dx|S59 _ _ hg5] (S59 _ _ hD5) (S5.trans (zK0 S59))
inductive spInv(vs:List V)(H:Hp)(Q:VK)(u_3:XK):Prop
 |mk:∀a p:Int,vs=[.int a,.int p]->Pr p->p<=999983->0<a->a<p->(∀g:Int,0<g->g<p->g*a % p=1->Q (.int g) H)->spInv vs H Q u_3
theorem a8:FnScope ["a","p","former","former_factor","rest","factor","times","lesser","lesser_factor"] ["a","p"] (ak iy):=%[1,1,1,4,1,4|4]
theorem pB   (F:Fun K "inverse_of" "inverse_of" iy f fd):FnOk P w K mg base CX0 1 f fd ["a","p"] spInv:=by
 exists a8
 erw[a,p,1,pr,p1,a0,a1,q]at h;have p2:2<=p:=pr.1;refine⟨_,(aa #[am,2,a8,pv 1]
  (aa #[am,3,a8,ac]
  (aa #[am,4,a8,aj aO (pv 0) (pv 1)]
  (aa #[am,5,a8,ac]
  (aa (gX PassesOwn.never (af ji (pv 4) ac (ai _)) (aa #[am,6,a8,aj wp (pv 2) (pv 4)]
   (aa #[am,7,a8,aj aW (pv 2) (aj cc (pv 6) (pv 4))]
   (aa #[am,8,a8,aj aO (aj aW (pv 3) (aj cc (pv 6) (pv 5))) (pv 1)]
   (aa #[am,2,a8,pv 4]
   (aa #[am,3,a8,pv 5]
   (aa #[am,4,a8,pv 7]
   (ad #[am,5,a8,pv 8]))))))))
  (ad (ao (pv 5)))))))),?_⟩
 erw[0,6];erw[0,0,2,(show 0<p by omega),6];erw[λm σ H'=>∃(former ff rest g:Int)(x6 x7 x8:Option V),σ=[some (.int a),some (.int p),some (.int former),some (.int ff),some (.int rest),some (.int g),x6,x7,x8]/\H'=H/\Eu a p former ff rest g/\m=rest.toNat,%[_,_,_,_,_,_,2,tu pr #[0] a0 a1|1],6]
 rintro m σ H' ⟨former,ff,rest,g,x6,x7,x8,rfl,rfl,eu,rfl⟩;erw[0,1,0,6]
 by_cases c:rest=1
 . refine Dc (congrArg V.int c) ?_;let%[g0,g1|g2]:=AW eu c #[0];erw[0,q g g0 g1 g2]
 . refine Ej (λz=>c (V.int.inj z)) ?_;erw[_,λ_ _ h=>h,6];have r0:=eu.r0;have rp:=eu.rp;have f0:=eu.f0;have f1:=eu.f1;let%[nx|lt]:=wG eu c;erw[0,0,2,%[r0|3],6];erw[0,0,0,2,.inr %[3|3],2,6];erw[0,0,0,2,.inr %[3|3],2,0,2,(show 0<p by omega),6];erw[0,0,0,0,6];erw[_,lt,_,_,_,_,_,2,nx,1]
theorem md{p x y:Int}(h:p ∣ x-y):x % p=y % p:=by
 erw[k,hk]at h
 have:x=y+p*k:=by omega
 rw[this,Int.add_mul_emod_self_left]
theorem dm(p x:Int):p ∣ x % p-x:=⟨-(x / p),by
 have:=Int.emod_add_mul_ediv x p
 rw[Int.mul_neg];omega⟩
def pmd(p:Int)(g:Nat->Int):Nat->Int
 | 0=>1
 | k+1=>pmd p g k*g k % p
theorem kA(p:Int)(g:Nat->Int):∀k,p ∣ pmd p g k-pr g k
 | 0=>%[(0)|by simp [pmd,pr]]
 | k+1=>by
   let%[a|ha]:=kA p g k;let%[b|hb]:=dm p (pmd p g k*g k);erw[b+a*g k,by show pmd p g k*g k % p-pr g k*g k=_;grind]
theorem kz{p:Int}(hp:1<p)(g:Nat->Int):∀k,0<=pmd p g k/\pmd p g k<p
 | 0=>%[by show(0:Int)<=1;decide|hp]
 | k+1=>%[qA0 _ #[0]|qF0 _ #[0]]
def prL(p:Int)(g:Nat->Int)(n:Nat):List V:=((List.range n).map (pmd p g)).map V.int
theorem nQ(p:Int)(g:Nat->Int)(n:Nat):prL p g (n+1)=prL p g n++[.int (pmd p g n)]:=by
 unfold prL;rw[List.range_succ,zO0,zO0];rfl
theorem BM(p:Int)(g:Nat->Int)(n:Nat):(prL p g n).length=n:=by
 unfold prL;rw[zH0,zH0,qO0]
theorem vk{f:Nat->Int}{n k:Nat}(h:k<n):atI (((List.range n).map f).map V.int) (k:Int)=some (.int (f k)):=by
 refine db ?_;rw[qE0,qE0,List.getElem?_range h];rfl
theorem uJ{n k:Nat}(h:k<n):atI (prL p g n) (k:Int)=some (.int (pmd p g k)):=vk h
inductive spProd(vs:List V)(H:Hp)(Q:VK)(u_3:XK):Prop
 |mk:∀(a:Addr)(g:Nat->Int)(n:Nat)(p:Int),vs=[.ref a,.int p]->H a=some (.lst (((List.range n).map g).map V.int))->n<=500->1<p->p<2 ^ 40->(∀(l:Addr)(H':Hp),H l=none->Same H H'->H' l=some (.lst (prL p g (n+1)))->Q (.ref l) H')->spProd vs H Q u_3
theorem iV:FnScope ["numbers","p","told","number"] ["numbers","p"] (ak jP):=%[1,1,1,4,1,4|4]
theorem sD   (F:Fun K "products" "products" jP f fd):FnOk P w K mg base CX0 1 f fd ["numbers","p"] spProd:=by
 exists iV
 erw[a,g,n,p,1,ha,n5,p1,p40,q]at h;refine⟨_,(aa #[am,2,iV,ci %[ac|aH]]
  (aa (cP PassesOwn.never rfl (fw (pv 0)) (bQ (i:=3) iV.nd rfl (.inl rfl)) (ad (ba (dq PySem.F.plainAttrs_list PySem.F.slot_list_append PySem.F.type_list_append bU (pv 2) %[aj aO (aj cc (ay ix_list (pv 2) (wc qp ac) (λ_ _=>rfl)) (pv 3)) (pv 1)|aH]))))
  (ad (ao (pv 2))))),?_⟩
 erw[(by show 1<=sizeLine;decide),λL hL=>?_];have aL:a≠L:=aN ha hL;refine⟨_,rfl,a,rfl,%[_|zF0 ((zC0 hL _) _ _ ha)],jk (K:=K) (xs:=((List.range n).map g).map V.int) (λi σ H'=>∃x3:Option V,σ=[some (.ref a),some (.int p),some (.ref L),x3]/\H' L=some (.lst (prL p g (i+1)))/\SameBut L H H')
  %[0,by rw[aC];rfl|SameBut.upd _] (λi σ H' _ hst=>by erw[_,_,_,h]at hst;exact zF0 (h _ _ aL ha)) ?_ ?_⟩
 . rintro i z σ H1 hz ⟨x3,rfl,hL1,S1⟩;have hi:=(zX0 hz).1;rw[zH0,zH0,qO0]at hi;rw[qE0,qE0,List.getElem?_range hi]at hz;obtain rfl:V.int (g i)=z:=zU0 hz;have rg:=kz p1 g i;erw[0,.inl %[1,_|zF0 hL1],6];erw[0,0,L,_,_,.int (pmd p g i),1,1,zF0 hL1,6,0,2,.inl %[3|3],0,2,#[0],L,2,hL1,6,6]
   . rw[nQ];exact oU _ _
   . rw[BM];exact aM #[0]
   . erw[0,6,λc o hc e=>?_]
     . rw[aC,nQ p g (i+1)];rfl
     . rw[aq hc];exact S1 c o hc e
 . rintro σ H1 ⟨x3,rfl,hL1,S1⟩;rw[zH0,zH0,qO0]at hL1;erw[0,q L H1 hL (λb o e=>S1 b o (aN e hL) e) hL1]
theorem zN:∀n:Nat,pr (λk=>1+(k:Int)) n=fac n
 | 0=>rfl
 | n+1=>by
   show pr (λk=>1+(k:Int)) n*(1+(n:Int))=fac n*((n:Int)+1)
   rw[zN n,Int.add_comm]
theorem zp{p g a t s:Int}{k m:Nat}(hg:g*a % p=1)(p1:1<p)(ha:p ∣ a-fac (k+m))(ht:p ∣ t-pr (λj=>((k+m:Nat):Int)-j) m)(hs:p ∣ s-g*t):p ∣ s*fac k-1:=by
 have f:=tj m k;erw[x,hx]at ha;erw[y,hy]at ht;erw[z,hz]at hs;let%[e|he]:=dm p (g*a);rw[hg]at he;erw[z*fac k+g*y*fac k-g*x-e,by grind]
inductive spFacs(vs:List V)(H:Hp)(Q:VK)(u_3:XK):Prop
 |mk:∀(L:Nat)(p:Int),vs=[.int (L:Int),.int p]->L<=500->(L:Int)<p->Pr p->p<=999983->(∀(l:Addr)(H':Hp)(sh:Nat->Int),H l=none->Same H H'->(∀k,k<=L->p ∣ sh k*fac k-1)->(∀k,0<=sh k/\sh k<p)->H' l=some (.lst (((List.range (L+1)).map sh).map V.int))->Q (.ref l) H')->spFacs vs H Q u_3
theorem b6:FnScope ["last","p","numbers","whole","told"] ["last","p"] (ak cX):=%[1,1,1,4,1,4|4]
theorem iM   (F:Fun K "inverse_factorials" "inverse_factorials" cX f fd) (B:Bl mg) (dl:Cal P w K mg base 1 "products" ["numbers","p"] spProd) (dO:Cal P w K mg base 1 "inverse_of" ["a","p"] spInv):FnOk P w K mg base CX0 2 f fd ["last","p"] spFacs:=by
 exists b6
 erw[L,p,1,L5,Lp,pp,p9,q]at h;refine⟨_,(aa #[am,2,b6,uQ rfl rfl B.list rfl B.range %[ac,aj aQ (pv 0) ac|aH]]
  (aa (am (i:=3) b6.nd rfl (Or.inr rfl) (ag dO hr ⋯ rfl %[ay ix_list (ag dl hr ⋯ rfl %[2,1|aH]) (wc qp ac) (λ_ _=>rfl),1|aH]))
  (aa (am (i:=4) b6.nd rfl (Or.inr rfl) (ag dl hr ⋯ rfl (ae (cJ (N:=["last"]) (ix:=[0]) rfl
   (CompScope.one (by rfl') ⋯ rfl ⋯ rfl ⋯ (by rfl') (by rfl') (by rfl') rfl rfl) rfl
   (bO rfl B.range %[0|aH]) (λ_ _ _=>cQ (aj aW (pv 1) (pv 0)))) %[1|aH])))
  (ad (ao (cJ (N:=["whole","told","p","last"]) (ix:=[3,4,1,0]) rfl
   (CompScope.four (by rfl') ⋯ rfl ⋯ rfl ⋯ rfl (by rfl') (by rfl') (by rfl') (by rfl') (by rfl') (by rfl') rfl rfl (by rfl') rfl rfl (by rfl') rfl rfl (by rfl') rfl rfl) rfl
   (bO rfl B.range %[aj aQ (pv 0) ac|aH]) (λ_ _ _=>cQ (aj aO (aj cc (pv 1) (ay (cO K) (pv 2) (aj aW (pv 4) (pv 0)) (λ_ _=>rfl))) (pv 3))))))))),?_⟩
 have p2:=pp.1;have hP:=wa pp #[0];erw[0,2,(1),0,%[4,4,3|3],3,λa ha=>?_];have e1:qN 1 ((L:Int)+1-1).toNat=(List.range L).map λk:Nat=>1+(k:Int):=by
  unfold qN;rw[show((L:Int)+1-1).toNat=L by omega]
 rw [e1];have Ga:=zC0 ha (.lst (((List.range L).map λk:Nat=>1+(k:Int)).map V.int));erw[0,0,a,_,L,p,1,aC,L5,3,3,λl H2 l0 S2 hl2=>?_];have rg:=kz (show 1<p by omega) (λk:Nat=>1+(k:Int)) L;have dv:=kA p (λk:Nat=>1+(k:Int)) L;rw[zN]at dv;have ne0:pmd p (λk:Nat=>1+(k:Int)) L≠0:=λz=>by
  rw[z]at dv;erw[m,hm]at dv;exact rF hP L Lp %[-m|by rw[Int.mul_neg];omega]
 erw[0,l,_,_,.int (pmd p (λk:Nat=>1+(k:Int)) L),1,1,zF0 hl2,by rw[nQ];exact oU _ _,0,_,p,1,pp,p9,3,rg.2,λg g0 g1 hg=>?_];have SH2:=Ga.trans S2;erw[0,0,3,3,λD hD=>?_];refine cY (λi H'=>H' D=some (.lst (((List.range i).map λj:Nat=>(L:Int)-j).map V.int))/\Same H2 H') %[by rw[aC];rfl|zC0 hD _] ?_ ?_
 . rintro i H3 hi ⟨hD3,S3⟩;erw[0,0,2,_,hD3,6,Nx.of hi %[6|λb o e=>?_]]
   . rw[zH0,zH0,qO0];exact aM #[0]
   . rw[aC,List.range_succ,zO0,zO0,Int.zero_add];rfl
   . rw[aq (aN e hD)];exact S3 _ _ e
 rintro H3 ⟨hD3,S3⟩;rw[show((L:Int)).toNat=L from qQ0 L]at hD3;erw[0,D,_,L,p,1,hD3,L5,3,3,λt H4 t0 S4 ht4=>?_];erw[0,2,0,3,3,λD2 hD2=>?_];refine cY (λi H'=>H' D2=some (.lst (((List.range i).map λk:Nat=>g*pmd p (λj:Nat=>(L:Int)-j) (L-k) % p).map V.int))/\Same H4 H') %[by rw[aC];rfl|zC0 hD2 _] ?_ ?_
 . rintro i H5 hi ⟨hD5,S5⟩;have hi':i<L+1:=by omega
   have rg2:=kz (show 1<p by omega) (λj:Nat=>(L:Int)-j) (L-i);have e2:(L:Int)-(0+(i:Int))=((L-i:Nat):Int):=by omega
   erw[0,0,0,0,2,t,_,_,.int (pmd p (λj:Nat=>(L:Int)-j) (L-i)),1,1,zF0 (S5 _ _ ht4),by rw[e2];exact uJ #[0],2,.inl %[3|3],0,2,#[0],_,hD5,6,Nx.of hi ⟨?_,λb o e=>?_⟩]
   . rw[zH0,zH0,qO0];exact aM #[0]
   . rw[aC,List.range_succ,zO0,zO0];rfl
   . rw[aq (aN e hD2)];exact S5 _ _ e
 rintro H5 ⟨hD5,S5⟩;rw[show((L:Int)+1).toNat=L+1 by omega]at hD5;have S05:=SH2.trans (S3.trans (S4.trans S5));refine q D2 H5 (λk=>g*pmd p (λj:Nat=>(L:Int)-j) (L-k) % p) ((SH2.trans (S3.trans S4)).free hD2) S05 (λk hk=>?_) (λk=>%[qA0 _ #[0]|qF0 _ #[0]]) hD5;obtain⟨m,rfl⟩:∃m,L=k+m:=⟨L-k,by omega⟩
 rw[show k+m-k=m by omega];exact zp hg #[0] dv (kA p _ m) (dm p _)
def wt(p:Int)(n i:Nat):Int:=(px (i:Int) i n % p) ^ (p-2).toNat
theorem tX(hp:Pm p){n:Nat}(hn:(n:Int)<=p):Wgt p n (wt p n):=λi hi=>by
 have h1:=DN hp hn hi;let%[k|hk]:=dm p (px (i:Int) i n);have h2:¬ p ∣ px (i:Int) i n % p:=fun⟨m,hm⟩=>h1 %[m-k|by grind]
 let%[m|hm]:=Ey hp h2 (qA0 _ (by have:=hp.1;omega));erw[m-k*(px (i:Int) i n % p) ^ (p-2).toNat,by unfold wt;grind]
def val(p:Int)(xs:List Int)(r:Int):Int:=lag (λi=>xs.getD i 0) (wt p xs.length) xs.length r % p
theorem Dp{t:Int}{xs:List Int}(hp:Pm p)(hn:(xs.length:Int)<=p)(hu:Wgt p xs.length u)(t0:0<=t)(t1:t<p)(h:p ∣ t-lag (λi=>xs.getD i 0) u xs.length r):t=val p xs r:=by
 have e:p ∣ t-lag (λi=>xs.getD i 0) (wt p xs.length) xs.length r:=by
  have:=AB hp hn (v:=λi=>xs.getD i 0) hu (tX hp hn) r
  have z:=Int.dvd_add h this;have e2:t-lag (λi=>xs.getD i 0) u xs.length r+(lag (λi=>xs.getD i 0) u xs.length r-lag (λi=>xs.getD i 0) (wt p xs.length) xs.length r)=t-lag (λi=>xs.getD i 0) (wt p xs.length) xs.length r:=by omega
  rw[e2]at z;exact z
 have:=md e
 rw[qR0 t0 t1]at this;exact this
theorem Dq{xs:List Int}{k:Nat}(hp:Pm p)(hn:(xs.length:Int)<=p)(hk:k<xs.length):val p xs k=xs.getD k 0 % p:=md (vv (tX hp hn) hk)
theorem sgn(m:Nat):(-1:Int) ^ m=if m % 2=1 then -1 else 1:=by
 induction m with
 | zero=>rfl
 | succ m ih=>
   rw[Int.pow_succ,ih]
   by_cases c:m % 2=1
   . rw[zE0 c,zB0 #[0]];rfl
   . rw[zB0 c,zE0 #[0]];rfl
theorem Bq{p r v t s a b c d e:Int}{m:Nat}{x y:Int}(ht:p ∣ t-s)(ha:p ∣ a-pr (λj=>r-j) i)(hb:p ∣ b-pr (λj=>r-(i+m:Nat)+j) m)(hc:p ∣ c-v*a*b)(hd:p ∣ d-x*y)(he:p ∣ e-(t+(if m % 2=1 then -(c*d)else c*d))) :
 p ∣ e-(s+v*px r i (i+m+1)*((-1) ^ m*(x*y))):=by
 rw[show i+m+1=i+1+m by omega,nI,sgn];rw[vZ]at hb;generalize pr (λj=>r-j) i=A at *
 generalize pr (λj=>r-(i+1+j:Nat)) m=B at *
 erw[t',ht]at ht;erw[a',ha]at ha;erw[b',hb]at hb;erw[c',hc]at hc;erw[d',hd]at hd;erw[e',he]at he;have e1:c*d-v*(A*B)*(x*y)=p*(c'*d+v*(a'*b+A*b')*d+v*A*B*d'):=by grind
 by_cases z:m % 2=1
 . rw [zE0 z]at *
   erw[e'+t'-(c'*d+v*(a'*b+A*b')*d+v*A*B*d'),by grind]
 . rw [zB0 z]at *
   erw[e'+t'+(c'*d+v*(a'*b+A*b')*d+v*A*B*d'),by grind]
def IntsAt(H:Hp)(a:Addr)(xs:List Int):Prop:=H a=some (.lst (xs.map V.int))∨H a=some (.tup (xs.map V.int))
theorem IntsAt.same(h:IntsAt H a xs)(s:Same H H'):IntsAt H' a xs:=h.elim (λe=>.inl (s _ _ e)) (λe=>.inr (s _ _ e))
theorem IntsAt.seq{K:W.Frag}(h:IntsAt H a xs):SqL K H a (xs.map V.int)∨SqT K H a (xs.map V.int):=h.elim (λe=>.inl (zF0 e)) (λe=>.inr (zD0 e))
theorem IntsAt.ix{K:W.Frag}{k:Nat}{Q:VK}(h:IntsAt H a xs)(hk:k<xs.length)(q:Q (.int (xs.getD k 0)) H):rIxL K (.ref a) (.int (k:Int)) H Q∨rIxT K (.ref a) (.int (k:Int)) H Q:=by
 have e:atI (xs.map V.int) (k:Int)=some (.int (xs.getD k 0)):=db (by rw[qE0,zN0 hk,qS0,zN0 hk];rfl);rcases h with h | h
 . exact .inl %[a,_,2,zF0 h,e|q]
 . exact .inr %[a,_,2,zD0 h,e|q]
def Bi(xs:List Int)(p:Int):Prop:=1<=xs.length/\xs.length<=500/\(xs.length:Int)<=p/\∀k,0<=xs.getD k 0/\xs.getD k 0<2 ^ 40
inductive spVal(vs:List V)(H:Hp)(Q:VK)(u_3:XK):Prop
 |mk:∀(a:Addr)(xs:List Int)(r p:Int),vs=[.ref a,.int r,.int p]->IntsAt H a xs->Bi xs p->Pr p->p<=999983->0<=r->r<p->(∀H',Same H H'->Q (.int (val p xs r)) H')->spVal vs H Q u_3
theorem aX:FnScope ["values","r","p","last","ahead","behind","shares","total","place","share","part"] ["values","r","p"] (ak fO):=%[1,1,1,4,1,4|4]
theorem lY   (F:Fun K "value_behind" "value_behind" fO f fd) (B:Bl mg) (dl:Cal P w K mg base 1 "products" ["numbers","p"] spProd) (dQ:Cal P w K mg base 2 "inverse_factorials" ["last","p"] spFacs):FnOk P w K mg base CX0 3 f fd ["values","r","p"] spVal:=by
 exists aX
 erw[a,xs,r,p,1,ha,%[x1,x5,xp|xb],pp,p9,r0,r1,q]at h;refine⟨_,(aa (am (i:=3) aX.nd rfl (Or.inr rfl) (aj aW (aD aE rfl B.len PySem.boot_len %[0|aH]) ac))
  (aa (am (i:=4) aX.nd rfl (.inl rfl) (ag dl hr ⋯ rfl (ae (cJ (N:=["r"]) (ix:=[1]) rfl
   (CompScope.one (by rfl') ⋯ rfl ⋯ rfl ⋯ (by rfl') (by rfl') (by rfl') rfl rfl) rfl
   (bO rfl B.range %[3|aH]) (λ_ _ _=>cQ (aj aW (pv 1) (pv 0)))) %[2|aH])))
  (aa (am (i:=5) aX.nd rfl (.inl rfl) (ag dl hr ⋯ rfl (ae (cJ (N:=["r","last"]) (ix:=[1,3]) rfl
   (CompScope.two (by rfl') ⋯ rfl ⋯ rfl ⋯ (by first | exact Or.inl rfl | exact Or.inr rfl) (by rfl') (by rfl') (by rfl') (by rfl') rfl rfl (by rfl') rfl rfl) rfl
   (bO rfl B.range %[3|aH]) (λ_ _ _=>cQ (aj aQ (aj aW (pv 1) (pv 2)) (pv 0)))) %[2|aH])))
  (aa #[am,6,aX,ag dQ hr ⋯ rfl %[3,2|aH]]
  (aa #[am,7,aX,ac]
  (aa (cP PassesOwn.never rfl (bO rfl B.range %[aj aQ (pv 3) ac|aH]) (bQ (i:=8) aX.nd rfl (.inl rfl)) (aa #[am,9,aX,aj aO (aj cc (ay ix_list (pv 6) (pv 8) (λ_ _=>rfl)) (ay ix_list (pv 6) (aj aW (pv 3) (pv 8)) (λ_ _=>rfl))) (pv 2)]
   (aa #[am,10,aX,aj cc (aj aO (aj cc (aj cc (ay (ix_list.or aF) (pv 0) (pv 8) (λ_ _=>rfl)) (ay ix_list (pv 4) (pv 8) (λ_ _=>rfl))) (ay ix_list (pv 5) (aj aW (pv 3) (pv 8)) (λ_ _=>rfl))) (pv 2)) (pv 9)]
   (aa (aB (af aI (aj aO (aj aW (pv 3) (pv 8)) ac) ac (ai _)) (ad #[am,10,aX,wc qp (pv 10)]) av)
   (ad #[am,7,aX,aj aO (aj aQ (pv 7) (pv 10)) (pv 2)])))))
  (ad (ao (pv 7))))))))),?_⟩
 have p2:=pp.1;have p1:1<p:=by omega
 have p0:0<p:=by omega
 have hP:=wa pp #[0];obtain⟨L,hL⟩:∃L,xs.length=L+1:=%[xs.length-1|3]
 have eL:(((xs.map V.int).length:Nat):Int)-1=(L:Int):=by rw[zH0];omega
 erw[0,a,0,ha.seq,2,6]
 dsimp only
 rw[eL];erw[0,(L:Int),1,3,3,λD hD=>?_];refine cY (λi H'=>H' D=some (.lst (((List.range i).map λj:Nat=>r-j).map V.int))/\Same H H') %[by rw[aC];rfl|zC0 hD _] ?_ ?_
 . rintro i H3 hi ⟨hD3,S3⟩;erw[0,0,2,_,hD3,6,Nx.of hi %[6|λb o e=>?_]]
   . rw[zH0,zH0,qO0];exact aM #[0]
   . rw[aC,List.range_succ,zO0,zO0,Int.zero_add];rfl
   . rw[aq (aN e hD)];exact S3 _ _ e
 rintro H1 ⟨hD1,S1⟩;rw[show((L:Int)).toNat=L from qQ0 L]at hD1;erw[0,D,_,L,p,1,hD1,3,p1,3,λla H2 la0 S2 hla=>?_];erw[0,(L:Int),1,3,3,λD2 hD2=>?_];refine cY (λi H'=>H' D2=some (.lst (((List.range i).map λj:Nat=>r-(L:Int)+j).map V.int))/\Same H2 H') %[by rw[aC];rfl|zC0 hD2 _] ?_ ?_
 . rintro i H3 hi ⟨hD3,S3⟩;erw[0,0,2,0,2,_,hD3,6,Nx.of hi %[6|λb o e=>?_]]
   . rw[zH0,zH0,qO0];exact aM #[0]
   . rw[aC,List.range_succ,zO0,zO0,Int.zero_add];rfl
   . rw[aq (aN e hD2)];exact S3 _ _ e
 rintro H3 ⟨hD3,S3⟩;rw[show((L:Int)).toNat=L from qQ0 L]at hD3;erw[0,D2,_,L,p,1,hD3,3,p1,3,λlb H4 lb0 S4 hlb=>?_];erw[0,0,L,p,1,3,3,pp,p9,λls H5 sh ls0 S5 hsh hsr hls=>?_];have S25:=S3.trans (S4.trans S5);have S05:=S1.trans (S2.trans S25);have hla5:=S25 _ _ hla;have hlb5:=S5 _ _ hlb;have ha5:=ha.same S05;have hW:=Bp hsh;refine⟨_,rfl,_,_,rfl,rfl,_,rfl,by omega,by omega,eK (λi σ H'=>∃(t:Int)(x8 x9 x10:Option V),σ=[some (.ref a),some (.int r),some (.int p),some (.int L),some (.ref la),some (.ref lb),some (.ref ls),some (.int t),x8,x9,x10]/\0<=t/\t<p/\p ∣ t-sm (λi=>xs.getD i 0*px r i (L+1)*((-1) ^ (L-i)*(sh i*sh (L-i)))) i/\H'=H5)
  %[(0),_,_,0,4,p0,%[(0)|by simp [sm]]|1] ?_ ?_⟩
 . rintro i σ H6 hi ⟨t,x8,x9,x10,rfl,t0,t1,td,rfl⟩;have hi':i<L+1:=by omega
   obtain⟨m,hm⟩:∃m,L=i+m:=%[L-i|3]
   have e0:(0:Int)+(i:Int)=(i:Int):=Int.zero_add _;have e1:(L:Int)-(0+(i:Int))=(m:Int):=by omega
   have r1':=hsr i;have r2':=hsr m;have ar:=kz p1 (λj:Nat=>r-j) i;have br:=kz p1 (λj:Nat=>r-(L:Int)+j) m;have xi:=xb i;have m1:∀z:Int,0<=z % p:=λz=>qA0 _ #[0]
   have m2:∀z:Int,z % p<p:=λz=>qF0 _ p0
   erw[0,0,ls,_,_,.int (sh i),1,1,zF0 hls,by rw[e0];exact vk hi',0,0,0,2,ls,_,_,.int (sh m),1,1,zF0 hls,by rw[e1];exact vk #[0],2,.inl %[3|3],0,2,p0,6];erw[0,0,6];rw[e0];refine ha5.ix #[0] ?_;erw[0,0,la,_,_,.int (pmd p (λj:Nat=>r-j) i),1,1,zF0 hla5,uJ hi',2,.inl %[3|3],6];erw[0,0,0,2,lb,_,_,.int (pmd p (λj:Nat=>r-(L:Int)+j) m),1,1,zF0 hlb5,by rw[←e0,e1];exact uJ #[0],2,.inr %[3|3],0,2,p0,6];have s1:=m1 (sh i*sh m);have s2:=m2 (sh i*sh m);erw[0,2,.inr %[3|3],6];erw[0,0,2,2,(by show(0:Int)<_;decide),1,0,6];have fin:∀z:Int,z=(if m % 2=1 then -(xs.getD i 0*pmd p (λj:Nat=>r-j) i*pmd p (λj:Nat=>r-(L:Int)+j) m % p*(sh i*sh m % p))else xs.getD i 0*pmd p (λj:Nat=>r-j) i*pmd p (λj:Nat=>r-(L:Int)+j) m % p*(sh i*sh m % p)) ->
    p ∣ (t+z) % p-sm (λi=>xs.getD i 0*px r i (L+1)*((-1) ^ (L-i)*(sh i*sh (L-i)))) (i+1):=λz hz=>by
    show p ∣ _-(sm _ i+xs.getD i 0*px r i (L+1)*((-1) ^ (L-i)*(sh i*sh (L-i))))
    have em:L-i=m:=by omega
    have hb:p ∣ pmd p (λj:Nat=>r-(L:Int)+j) m-pr (λj=>r-(i+m:Nat)+j) m:=by
     rw[←hm];exact kA p _ m
    subst hz;rw[em];have el:L+1=i+m+1:=by omega
    rw[el]at td ⊢;exact Bq td (kA p _ i) hb (dm p _) (dm p _) (dm p _)
   by_cases c:m % 2=1
   . refine aR (congrArg V.int #[0]) ?_;erw[0,0,6];erw[0,0,2,0,2,p0,6];erw[_,_,_,0,m1 _,m2 _,fin _ (by rw[zE0 c]),1]
   . refine ax (λz=>c (by have:=V.int.inj z;omega)) ?_;erw[0,0,2,0,2,p0,6];erw[_,_,_,0,m1 _,m2 _,fin _ (by rw[zB0 c]),1]
 . rintro σ H6 ⟨t,x8,x9,x10,rfl,t0,t1,td,rfl⟩;rw[show((L:Int)+1).toNat=L+1 by omega]at td;rw[←hL]at hW;have e:=Dp (r:=r) hP xp hW t0 t1 (by
    unfold lag;rw[hL];exact td)
   rw[e];erw[0,q H6 S05]
theorem o9:FnScope ["values","r","p","place"] ["values","r","p"] (ak jN):=%[1,1,1,4,1,4|4]
theorem sy   (F:Fun K "value_at" "value_at" jN f fd) (B:Bl mg) (fD:Cal P w K mg base 3 "value_behind" ["values","r","p"] spVal):FnOk P w K mg base CX0 4 f fd ["values","r","p"] spVal:=by
 exists o9
 erw[a,xs,r,p,1,ha,ok,pp,p9,r0,r1,q]at h;refine⟨_,(aa #[am,3,o9,aj aO (pv 1) (pv 2)]
  (aa (aB (af cN (pv 3) (aD aE rfl B.len PySem.boot_len %[0|aH]) (ai _)) (ad (ao (aj aO (ay (ix_list.or aF) (pv 0) (pv 3) (λ_ _=>rfl)) (pv 2)))) av)
  (ad (ao (ag fD hr ⋯ rfl %[0,3,2|aH]))))),?_⟩
 have p0:0<p:=by omega
 have hP:=wa pp #[0];have er:r % p=r:=qR0 r0 r1;erw[0,0,2,p0,6]
 dsimp only
 rw[er];erw[0,0,a,0,ha.seq,2,0,6];refine hC (λc=>?_) (λc=>?_)
 . have c':=of_decide_eq_true c;rw[zH0]at c';obtain⟨k,rfl⟩:∃k:Nat,r=(k:Int):=%[r.toNat|3]
   erw[0,0,6];refine ha.ix #[0] ?_;erw[0,2,p0,6];show Q (.int (xs.getD k 0 % p)) H;rw[←Dq hP ok.2.2.1 #[0]];exact q H (Same.refl _)
 . erw[0,0,0,a,xs,r,p,1,ha,ok,pp,p9,r0,r1,q]
theorem IntsAt.sqB{K:W.Frag}(h:IntsAt H a xs):∃c,SqB K c H a (xs.map V.int):=h.elim (λe=>%[true|zF0 e]) (λe=>%[false|zD0 e])
def hor(s p:Int):List Int->Int
 | []=>0
 | a::r=>(hor s p r*s+a) % p
theorem wB{p:Int}(hp:0<p):∀ns,0<=hor s p ns/\hor s p ns<p
 | []=>%[Int.le_refl 0|hp]
 | a::r=>%[qA0 _ #[0]|qF0 _ hp]
inductive spMix(C:Addr)(vs:List V)(H:Hp)(Q:VK)(u_3:XK):Prop
 |mk:∀(g a b d l:Addr)(ns:List Int)(s p:Int),vs=[.ref g,.ref l,.int s]->GameAt C H g a b d p->0<p->p<2 ^ 40->IntsAt H l ns->Q (.int (hor s p ns)) H->spMix C vs H Q u_3
theorem o3:FnScope ["self","numbers","s","total","number"] ["self","numbers","s"] (ak uF):=%[1,1,1,4,1,4|4]
theorem BY   (F:Fun K "mix" "Game.mix" uF f fd) (T:GTxt K mg C) (hrev:mg "reversed"=none):FnOk P w K mg base CX0 1 f fd ["self","numbers","s"] (spMix C):=by
 exists o3
 erw[g,a,b,d,l,ns,s,p,1,%[dx|hg],p0,p40,hl,q]at h;refine⟨_,(aa #[am,3,o3,ac]
  (aa (cP PassesOwn.never rfl (BO rfl hrev (pv 1)) (bQ (i:=4) o3.nd rfl (.inl rfl)) (ad #[am,3,o3,aj aO (aj aQ (aj cc (pv 3) (pv 2)) (pv 4)) (az (pv 0) rfl)]))
  (ad (ao (pv 3))))),?_⟩
 let%[c|hl]:=hl.sqB (K:=K);refine⟨_,rfl,c,l,_,rfl,hl,AS (K:=K) (c:=c) (xs:=ns.map V.int) (λi σ H'=>∃(x4:Option V)(t:Int),σ=[some (.ref g),some (.ref l),some (.int s),some (.int t),x4]/\t=hor s p (ns.drop (ns.length-i))/\H'=H)
  %[_,(0),1,by rw[Nat.sub_zero,List.drop_length];rfl|1] (λi σ H' _ hst=>by erw[_,_,_,_,h]at hst;subst h;exact hl) ?_ ?_⟩
 . rintro i z σ H1 hi hz ⟨x4,t,rfl,rfl,rfl⟩;rw[zH0]at hi;rw[←List.map_reverse,qE0]at hz;let%[x,hx|1]:=qV0 hz;rw[List.getElem?_reverse hi]at hx;have hr2:=wB (s:=s) p0 (ns.drop (ns.length-i));erw[0,0,2,.inl %[3|3],0,2,0,g,C,dx,_,0,hg,T.cl,T.nF,jJ ..,2,p0,6];erw[_,0,6,1];have hj:ns.length-1-i<ns.length:=by omega
   have ed:ns.drop (ns.length-(i+1))=x::ns.drop (ns.length-i):=by
    have e1:ns.length-(i+1)=ns.length-1-i:=by omega
    have e2:ns.length-i=ns.length-1-i+1:=by omega
    rw[e1,e2,List.drop_eq_getElem_cons hj]
    congr 1
    rw[zN0 hj]at hx;exact zU0 hx
   rw[ed];rfl
 . rintro σ H1 ⟨x4,t,rfl,rfl,rfl⟩;rw[zH0,Nat.sub_self,List.drop_zero];erw[0,q]
inductive spWAt(C:Addr)(vs:List V)(H:Hp)(Q:VK)(u_3:XK):Prop
 |mk:∀(g a b d r:Addr)(ns:List Str)(tv:List V)(ts:List Tr)(pt:List Int)(s p:Int),vs=[.ref g,.ref r,.int s]->GameAt C H g a b d p->1<p->p<2 ^ 40->H a=some (.tup (ns.map V.str))->H b=some (.tup tv)->TreesAt H tv ts->ts.length<=10->(∀t∈ts,t.ok ns/\t.depth<=10)->H r=some (.tup (pt.map V.int))->pt.length=ns.length->gq pt p->(∀H',Same H H'->Q (.int (hor s p (ts.map λt=>t.worth ns pt p))) H')->spWAt C vs H Q u_3
theorem xj:FnScope ["self","point","s"] ["self","point","s"] (ak nA):=%[1,1,1,4,1,4|4]
theorem xM   (F:Fun K "worth_at" "Game.worth_at" nA f fd) (T:GTxt K mg C) (mM:Meth K C "mix" fm) (GM:FnOk P w K mg base CX0 1 fm fdm ["self","numbers","s"] (spMix C)) (bM:Binds K fdm ["self","numbers","s"] []) (d7:Cal P w K mg base 12 "worth_of" ["tree","switches","point","p"] (spWorth 10)):FnOk P w K mg base CX0 13 f fd ["self","point","s"] (spWAt C):=by
 exists xj
 erw[g,a,b,d,r,ns,tv,ts,pt,s,p,1,%[dx|hg],p1,p40,ha,hb,TS,t10,tok,hr0,pl,po,q]at h;have hr1:Room 1 _:=hr.mono ⋯;refine⟨_,(ad (ao (bq (pv 0) T.cl mM GM hr1 bM .nil bh (ae (cJ (N:=["self","point"]) (ix:=[0,1]) rfl
  (CompScope.two (by rfl') ⋯ rfl ⋯ rfl ⋯ (by first | exact Or.inl rfl | exact Or.inr rfl) (by rfl') (by rfl') (by rfl') (by rfl') rfl rfl (by rfl') rfl rfl) rfl
  (jh (az (pv 0) rfl)) (λ_ _ _=>cQ (ag d7 hr ⋯ rfl %[0,mr K (pv 1),2,mr K (pv 1)|aH]))) %[2|aH])))),?_⟩
 have vl:=TS.length;erw[0,g,dx,0,hg,AO _ _ _ _ ⋯ ⋯ ⋯ ⋯,6];erw[0,g,C,dx,_,0,hg,T.cl,T.nT,qb ..,b,1,%[_|zD0 hb],λD hD=>?_];refine jm (K:=K) (xs:=tv) (λi H'=>H' D=some (.lst (((ts.take i).map λt=>t.worth ns pt p).map V.int))/\Same H H') %[by rw[aC];rfl|zC0 hD _] (λi H' _ h=>zD0 (h.2 _ _ hb)) ?_ ?_
 . rintro i z H2 hz ⟨hl,S2⟩;let%[t,ht|Tt]:=TS.get hz;let%[tk|td]:=tok t (qI0 ht);have hi:i<tv.length:=(zX0 hz).1;erw[0,0,g,C,dx,_,0,S2 _ _ hg,T.cl,T.nS,oH ..,0,0,g,C,dx,_,0,S2 _ _ hg,T.cl,T.nF,jJ ..,z,t,a,r,ns,pt,p,1,Tt.mono (aV S2),tk,td,.inr (S2 _ _ ha),S2 _ _ hr0,pl,p1,p40,po,6];erw[_,hl,6,Nx.of hi %[6|λb' o' e'=>?_]]
   . rw[zH0,zH0,qH0];exact aM #[0]
   . rw[aC,qN0,ht,zO0,zO0];rfl
   . rw[aq (aN e' hD)];exact S2 _ _ e'
 . rintro H2 ⟨hl,S2⟩;rw[vl,qJ0]at hl;erw[0,g,a,b,d,D,_,s,p,1,%[dx|S2 _ _ hg],3,p40,.inl hl,q H2 S2]
def Gm(CG:Addr)(H:Hp)(g:Addr)(ns:List Str)(ts:List Tr)(p:Int):Prop:=∃(a b d:Addr)(tv:List V),GameAt CG H g a b d p/\H a=some (.tup (ns.map V.str))/\H b=some (.tup tv)/\TreesAt H tv ts/\H d=some (.lst ((ns.map (bL ts)).map V.int))
theorem Gm.same(h:Gm CG H g ns ts p)(s:Same H H'):Gm CG H' g ns ts p:=by
 erw[a,b,d,tv,h1,h2,h3,h4,h5]at h;erw[a,b,d,tv,h1.same s,s _ _ h2,s _ _ h3,h4.mono (aV s),s _ _ h5]
theorem Cv (a b:Addr) (p:Int) (d:Addr):(gf a b p d).lookup ("game":Str)=none:=AO _ _ _ _ ⋯ ⋯ ⋯ ⋯
structure GmK(ns:List Str)(ts:List Tr)(p:Int):Prop where
 pr:Pr p
 p2:2<p
 p9:p<=999983
 n10:ns.length<=10
 t1:1<=ts.length
 t10:ts.length<=10
 tok:∀t∈ts,t.ok ns/\t.wf/\t.depth<=10/\t.size<=400
 tp:(ts.length:Int)<=p
 tc:∀t∈ts,∀x∈ns,(t.names.count x:Int)<p
theorem GmK.deg(k:GmK ns ts p):∀x∈ns,0<=bL ts x/\bL ts x<p:=λx hx=>by
 have t0:ts≠[]:=λz=>by have:=k.t1;rw[z]at this;cases this
 erw[6,oO t0 λt ht=>k.tc t ht x hx]
 have:=kH (ns:=ts.map λt=>(t.names.count x:Int)) (by simpa using t0)
 let%[t,_|e]:=List.mem_map.mp this;unfold bL;rw[←e];omega
theorem wz{xs:List Int}{j:Nat}(h:j<xs.length):atI (xs.map V.int) (j:Int)=some (.int (xs.getD j 0)):=db (by rw[qE0,zN0 h,qS0,zN0 h];rfl)
def gZ (o:Str) (p q:Bool):Bool:=if o="and" then p&&q else if o="or" then p||q else if o="odd" then p != q else p==q
def Tr.holds(ns:List Str)(st:List Int):Tr->Bool
 | .is x=>match cK x ns with | some j=>decide (st.getD j 0=1) | none=>false
 | .yes=>true
 | .no=>false
 | .not a=>!a.holds ns st
 | .bin o a b=>gZ o (a.holds ns st) (b.holds ns st)
inductive spJoined(vs:List V)(H:Hp)(Q:VK)(u_3:XK):Prop
 |mk:∀(o:Str)(p q:Bool),vs=[.str o,.bl p,.bl q]->Q (.bl (gZ o p q)) H->spJoined vs H Q u_3
theorem xg:FnScope ["word","first","second"] ["word","first","second"] (ak nv):=%[1,1,1,4,1,4|4]
theorem xK   (F:Fun K "joined" "joined" nv f fd):FnOk P w K mg base CX0 1 f fd ["word","first","second"] spJoined:=by
 exists xg
 erw[o,p,q,1,k]at h;refine⟨_,(aa (aB (af aI (pv 0) au (ai _)) (ad (ao (uR (pv 1) (qP (pv 2))))) av)
  (aa (aB (af aI (pv 0) au (ai _)) (ad (ao (CY (pv 1) (qP (pv 2))))) av)
  (aa (aB (af aI (pv 0) au (ai _)) (ad (ao (cb ji (pv 1) (pv 2) (ai _)))) av)
  (ad (ao (cb aI (pv 1) (pv 2) (ai _))))))),?_⟩
 erw[0,1,0,6]
 by_cases c1:V.str o=V.str "and"
 . refine aR c1 ?_;have e:gZ o p q=(p&&q):=by unfold gZ;rw[zE0 (dH c1)]
   rw[e]at k;erw[0,p,1,6];cases p with
   | true=>exact du %[0|by simpa using k]
   | false=>exact cG (by simpa using k)
 refine ax c1 ?_;have n1:¬ o="and":=λz=>c1 (by rw[z])
 erw[0,1,0,6]
 by_cases c2:V.str o=V.str "or"
 . refine aR c2 ?_;have e:gZ o p q=(p||q):=by unfold gZ;rw[zB0 n1,zE0 (dH c2)]
   rw[e]at k;erw[0,p,1,6];cases p with
   | true=>exact du (by simpa using k)
   | false=>exact cG %[0|by simpa using k]
 refine ax c2 ?_;have n2:¬ o="or":=λz=>c2 (by rw[z])
 erw[0,1,0,6]
 by_cases c3:V.str o=V.str "odd"
 . refine aR c3 ?_;have e:gZ o p q=(p != q):=by unfold gZ;rw[zB0 n1,zB0 n2,zE0 (dH c3)]
   rw[e]at k;erw[0,0,1,6];have e2:(!decide (V.bl p=V.bl q))=(p != q):=by cases p <;> cases q <;> decide
   show Q (.bl (!decide (V.bl p=V.bl q))) H;rw[e2];exact k
 refine ax c3 ?_;have n3:¬ o="odd":=λz=>c3 (by rw[z])
 have e:gZ o p q=(p==q):=by unfold gZ;rw[zB0 n1,zB0 n2,zB0 n3]
 rw[e]at k;erw[0,0,1,6];have e2:decide (V.bl p=V.bl q)=(p==q):=by cases p <;> cases q <;> decide
 show Q (.bl (decide (V.bl p=V.bl q))) H;rw[e2];exact k
inductive spHolds(n:Nat)(vs:List V)(H:Hp)(Q:VK)(u_3:XK):Prop
 |mk:∀(v:V)(t:Tr)(a b:Addr)(ns:List Str)(st:List Int),vs=[v,.ref a,.ref b]->TreeAt H v t->t.ok ns->t.depth<=n->NamesAt H a ns->H b=some (.tup (st.map V.int))->st.length=ns.length->Q (.bl (t.holds ns st)) H->spHolds n vs H Q u_3
theorem iW:FnScope ["tree","switches","setting","word","first"] ["tree","switches","setting"] (ak iz):=%[1,1,1,4,1,4|4]
theorem vz {n:Nat}   (F:Fun K "holds_at" "holds_at" iz f fd) (fH:Cal P w K mg base 1 "joined" ["word","first","second"] spJoined) (b9:Cal P w K mg base (n+2) "holds_at" ["tree","switches","setting"] (spHolds n)):FnOk P w K mg base CX0 (n+3) f fd ["tree","switches","setting"] (spHolds (n+1)):=by
 exists iW
 erw[v,t,a,b,ns,st,1,T,ok,dn,hN,hb,sl,k]at h;refine⟨_,(aa #[am,3,iW,ay aF (pv 0) ac (λ_ _=>rfl)]
  (aa (aB (af aI (pv 3) au (ai _)) (ad (ao (cb aI (ay aF (pv 2) (sx PySem.F.plainAttrs_list PySem.F.plainAttrs_tuple (pv 1) %[ay aF (pv 0) ac (λ_ _=>rfl)|aH]) (λ_ _=>rfl)) ac (ai _)))) av)
  (aa (aB (PW.pt (eD (af aI (pv 3) au (ai _)) (dA (af aI (pv 3) au (ai _))))) (ad (ao (cb aI (pv 3) au (ai _)))) av)
  (aa #[am,4,iW,ag b9 hr (zG0 _) rfl %[ay aF (pv 0) ac (λ_ _=>rfl),1,2|aH]]
  (aa (aB (af aI (pv 3) au (ai _)) (ad (ao (uO (pv 4)))) av)
  (ad (ao (ag fH hr #[0] rfl %[3,4,ag b9 hr (zG0 _) rfl %[ay aF (pv 0) ac (λ_ _=>rfl),1,2|aH]|aH])))))))),?_⟩
 cases T with
 | @is p x e=>
   erw[0,p,_,(0),0,1,zD0 e,1,6];erw[0,1,0,6];refine aR rfl ?_;let%[j,hj|jl]:=eI ok;have jl':j<st.length:=by omega
   erw[0,0,a,ns,1,hN,0,p,_,(1),0,1,zD0 e,1,1,x,j,1,hj,b,_,(j:Int),.int st[j],1,1,zD0 hb,6,1,6]
   . refine db ?_;rw[qE0,zN0 jl'];rfl
   . have e1:(Tr.is x).holds ns st=decide (V.int st[j]=V.int 1):=by
      show(match cK x ns with | some j=>decide (st.getD j 0=1) | none=>false)=_;rw[hj];show decide (st.getD j 0=1)=_;rw[qS0,zN0 jl']
      simp
     rw[e1]at k;exact k
 | @yes p e=>
   erw[0,p,_,(0),0,1,zD0 e,1,6];erw[0,1,0,6];refine ax ⋯ ?_;erw[0,1,0,6];refine aR rfl (du ?_);erw[0,1,k]
 | @no p e=>
   erw[0,p,_,(0),0,1,zD0 e,1,6];erw[0,1,0,6];refine ax ⋯ ?_;erw[0,1,0,6];refine ax ⋯ ?_;erw[0,1,0,6];refine aR rfl ?_;erw[0,1,6];have e1:decide (V.str "no"=V.str "yes")=false:=by decide
   show Q (.bl (decide (V.str "no"=V.str "yes"))) H;rw[e1];exact k
 | @not p u r e T1=>
   have dp:r.depth+1<=n+1:=dn;erw[0,p,_,(0),0,1,zD0 e,1,6];erw[0,1,0,6];refine ax ⋯ ?_;erw[0,1,0,6];refine ax ⋯ ?_;erw[0,1,0,6];refine ax ⋯ ?_;erw[0,p,_,(1),0,1,zD0 e,1,0,0,u,r,a,b,ns,st,1,T1,ok,3,hN,hb,sl,6];erw[0,1,0,6];refine aR rfl ?_;erw[0,0,k]
 | @bin p o u u2 r r2 e T1 T2=>
   erw[ho,ok1,ok2]at ok;have dp:max r.depth r2.depth+1<=n+1:=dn;have ne:∀z:Str,z∉joinW->¬ V.str o=V.str z:=λz hz h=>hz (dH h▸ho)
   erw[0,p,_,(0),0,1,zD0 e,1,6];erw[0,1,0,6];refine ax (ne _ ⋯) ?_;erw[0,1,0,6];refine ax (ne _ ⋯) ?_;erw[0,1,0,6];refine ax (ne _ ⋯) ?_;erw[0,p,_,(1),0,1,zD0 e,1,0,0,u,r,a,b,ns,st,1,T1,ok1,3,hN,hb,sl,6];erw[0,1,0,6];refine ax (ne _ ⋯) ?_;erw[0,0,0,p,_,(2),0,1,zD0 e,1,0,0,u2,r2,a,b,ns,st,1,T2,ok2,3,hN,hb,sl,6];erw[o,_,0,k]
theorem vy  :FnOk P w K mg base CX0 2 f fd ["tree","switches","setting"] (spHolds 0):=by
 have no:∀vs H Q E,¬ spHolds 0 vs H Q E:=λvs H Q E h=>by
  erw[v,t,_,_,_,_,_,_,_,h1,_]at h
  have:=t.depth_pos
  omega
 erw[λvs H Q E h=>absurd h (no vs H Q E),λA outer s H args us vs Q E _ _ _ _ h=>absurd h (no vs H Q E)]
theorem lR   (F:Fun K "holds_at" "holds_at" iz f fd) (m:mg "holds_at"=some (.ref f)) (fH:Cal P w K mg base 1 "joined" ["word","first","second"] spJoined) :
 ∀n:Nat,FnOk P w K mg base CX0 (n+2) f fd ["tree","switches","setting"] (spHolds n)
 | 0=>vy
 | n+1=>vz F fH (Cal.of F (lR F m fH n) m (λ_ _ _ _ _ _ us hl=>by let%[u0,u1,u2|1]:=Ed hl;rfl))
def Di(H:Hp)(v:V)(s:List Int):Prop:=∃a,v=.ref a/\H a=some (.tup (s.map V.int))
abbrev TupsAt(H:Hp):List V->List (List Int)->Prop:=PySem.Paired (Di H)
def Bh(H:Hp)(r:Addr)(ss:List (List Int)):Prop:=∃rs,H r=some (.lst rs)/\TupsAt H rs ss
theorem TupsAt.mono{H H':Hp}(k:∀a xs,H a=some (.tup xs)->H' a=some (.tup xs)):∀{rs:List V}{ss:List (List Int)},TupsAt H rs ss->TupsAt H' rs ss
 | _,_,.nil=>.nil
 | _,_,.cons ⟨a,e,h⟩ t=>.cons %[a,e|k _ _ h] (TupsAt.mono k t)
theorem TupsAt.get:∀{rs:List V}{ss:List (List Int)}{i:Nat}{v:V},TupsAt H rs ss->rs[i]?=some v->∃s,ss[i]?=some s/\Di H v s
 | _,_,_,_,.nil,h=>by simp at h
 | _,_,0,_,.cons h _,e=>by
   simp at e
   subst e;erw[0,h]
 | _,_,i+1,v,.cons _ t,e=>by
   let%[s,h1|h2]:=TupsAt.get (i:=i) t (by simpa using e);erw[s,by simpa using h1,h2]
theorem ya{ys:List V}(s:SameBut b H H')(h:H b=some (.lst ys)∨H b=none):∀a xs,H a=some (.tup xs)->H' a=some (.tup xs):=λa xs e=>s a _ (λz=>by
 rw[z]at e;rcases h with h | h
 . rw[h]at e;cases e
 . rw[h]at e;cases e) e
theorem tM{K:W.Frag}{H1:Hp}{a p:Addr}{s:List Int}{z:Int}{Q:VK}(ha:H1 a=some (.tup (s.map V.int)))(hp:H1 p=some (.tup [.int z]))(hl:s.length<=100)
 (q:∀t H2,Same H1 H2->H2 t=some (.tup ((s++[z]).map V.int))->Q (.ref t) H2):rCatT K (.ref a) (.ref p) H1 Q∨rCatT0 K (.ref a) (.ref p) H1 Q:=by
 cases s with
 | nil=>exact .inr %[a,p,0,1,zD0 ha,zD0 hp|q p H1 (Same.refl _) hp]
 | cons x r=>
   refine .inl %[a,p,2,zD0 ha,zD0 hp,by simp,bK (by simp at hl ⊢;omega),(λz=>nomatch z)|(λ_ t ht=>q t _ (zC0 ht _) ?_)];rw[aC,zO0];rfl
inductive spSetts(vs:List V)(H:Hp)(Q:VK)(u_3:XK):Prop
 |mk:∀n:Int,vs=[.int n]->0<=n->n<=6->(∀(r:Addr)(H':Hp),H r=none->Same H H'->Bh H' r (cq n.toNat)->Q (.ref r) H')->spSetts vs H Q u_3
theorem b7:FnScope ["n","told","switch","longer","setting"] ["n"] (ak fX):=%[1,1,1,4,1,4|4]
theorem mf   (F:Fun K "all_settings" "all_settings" fX f fd) (hrange:mg "range"=none):FnOk P w K mg base CX0 1 f fd ["n"] spSetts:=by
 exists b7
 erw[n,1,n0,n6,q]at h;refine⟨_,(aa #[am,1,b7,ci %[aG aH|aH]]
  (aa (cP PassesOwn.never rfl (bO rfl hrange %[0|aH]) (bQ (i:=2) b7.nd rfl (.inl rfl)) (aa #[am,3,b7,ci aH]
   (aa (cP PassesOwn.never rfl (fw (pv 1)) (bQ (i:=4) b7.nd rfl (.inl rfl)) (aa (ba (dq PySem.F.plainAttrs_list PySem.F.slot_list_append PySem.F.type_list_append bU (pv 3) %[aj (op_catT.or oa) (pv 4) (aG %[ac|aH])|aH]))
    (ad (ba (dq PySem.F.plainAttrs_list PySem.F.slot_list_append PySem.F.type_list_append bU (pv 3) %[aj (op_catT.or oa) (pv 4) (aG %[ac|aH])|aH])))))
   (ad #[am,1,b7,pv 3]))))
  (ad (ao (pv 1))))),?_⟩
 erw[(by show 0<=sizeLine;decide),λp hp=>?_];erw[(by show 1<=sizeLine;decide),λa ha=>?_];have np:p≠a:=λz=>by
  subst z;rw[aC]at ha;cases ha
 have ha0:H a=none:=(zC0 hp _).free ha;refine⟨_,rfl,n,rfl,by omega,by omega,eK (λi σ H'=>∃(a:Addr)(x2 x3 x4:Option V),σ=[some (.int n),some (.ref a),x2,x3,x4]/\H a=none/\Same H H'/\Bh H' a (cq i))
  %[a,_,_,0,ha0,(zC0 hp _).trans (zC0 ha _),[.ref p],aC|.cons ⟨p,rfl,by rw[aq np,aC];rfl⟩ .nil] ?_ ?_⟩
 . rintro i σ H' hi ⟨a,x2,x3,x4,rfl,a0,s0,rs,hrs,T⟩;have i6:i<6:=by omega
   have sl:=jv i;have s64:=ln (n:=i) #[0];erw[(by show 0<=sizeLine;decide),λb hb=>?_];have ab:a≠b:=aN hrs hb;refine⟨_,rfl,a,rfl,%[_|zF0 (by rw[aq ab];exact hrs)],jk (K:=K) (xs:=rs) (λj σ H2=>∃(x4:Option V)(bs:List V),σ=[some (.int n),some (.ref a),some (.int (0+(i:Int))),some (.ref b),x4]/\SameBut b H' H2/\H2 b=some (.lst bs)/\TupsAt H2 bs (((cq i).take j).flatMap λs=>[s++[0],s++[1]]))
    %[_,[],1,SameBut.upd _,aC|.nil] (λj σ H2 _ hst=>by erw[_,_,_,sb,_]at hst;exact zF0 (sb a _ ab hrs)) ?_ ?_⟩
   . rintro j y σ H2 hj ⟨x4,bs,rfl,sb,hbs,TB⟩;have T2:TupsAt H2 rs (cq i):=T.mono (ya (ys:=[]) sb (.inr hb));let%[s,hs,t,1|ht]:=T2.get hj;have hsm:s∈cq i:=qI0 hs;have hsl:=eM i s hsm;have hbl:=TB.length;rw[lx,qH0]at hbl;erw[0,.inl %[1,_|zF0 hbs],6];erw[0,(by show 1<=sizeLine;decide),λp1 hp1=>?_];have S1:Same H2 (upd H2 p1 (.tup [.int 0])):=zC0 hp1 _;refine tM (s:=s) (z:=0) (S1 _ _ ht) aC #[0] λt1 H3 S3 e3=>?_
     have S13:Same H2 H3:=S1.trans S3;erw[b,bs,0,1,S13 _ _ hbs,aM #[0],6];have K4:=jC (H:=H3) (b:=b) (ys:=bs) (zs:=bs++[.ref t1]) (S13 _ _ hbs);have e4:=K4 _ _ e3;have t4:=K4 _ _ (S13 _ _ ht);erw[0,.inl %[1,_|zF0 aC],6];erw[0,(by show 1<=sizeLine;decide),λp2 hp2=>?_];have S4:Same (upd H3 b (.lst (bs++[.ref t1]))) (upd (upd H3 b (.lst (bs++[.ref t1]))) p2 (.tup [.int 1])):=zC0 hp2 _;refine tM (s:=s) (z:=1) (S4 _ _ t4) aC #[0] λt2 H5 S5 e5=>?_
     have S45:=S4.trans S5;have hb5:H5 b=some (.lst (bs++[.ref t1])):=S45 _ _ aC;erw[b,bs++[.ref t1],0,1,hb5,aM (by rw[zJ0,qK0];omega),6];have K6:=jC (H:=H5) (b:=b) (ys:=bs++[.ref t1]) (zs:=bs++[.ref t1]++[.ref t2]) hb5;erw[_,bs++[.ref t1]++[.ref t2],1,6,aC,6]
     . have q1:SameBut b H' H3:=sb.trans (zK0 S13);have q2:SameBut b H' H5:=(q1.trans (SameBut.upd _)).trans (zK0 S45);exact q2.trans (SameBut.upd _)
     . have hbase:TupsAt (upd H5 b (.lst (bs++[.ref t1]++[.ref t2]))) bs (((cq i).take j).flatMap λs=>[s++[0],s++[1]]):=
        TB.mono λa xs e=>K6 _ _ (S45 _ _ (K4 _ _ (S13 _ _ e)))
       rw[qN0,hs,List.flatMap_append];have e:((some s).toList.flatMap λs:List Int=>[s++[0],s++[1]])=[s++[0]]++[s++[1]]:=by simp
       rw[e,←List.append_assoc];exact(hbase.snoc %[t1,1|K6 _ _ (S45 _ _ e4)]).snoc ⟨t2,rfl,K6 _ _ e5⟩
   . rintro σ H2 ⟨x4,bs,rfl,sb,hbs,TB⟩;have rl:=T.length;rw[rl,qJ0]at TB;erw[0,b,_,_,0,s0.free hb,s0.but (s0.free hb) sb,bs,hbs,TB]
 . rintro σ H' ⟨a,x2,x3,x4,rfl,a0,s0,S⟩;erw[0,q a H' a0 s0 S]
def cnt(t:Tr)(ns:List Str):Nat:=((cq ns.length).filter λst=>t.holds ns st).length
inductive spCount(vs:List V)(H:Hp)(Q:VK)(u_3:XK):Prop
 |mk:∀(v:V)(t:Tr)(a:Addr)(ns:List Str),vs=[v,.ref a]->TreeAt H v t->t.ok ns->t.depth<=12->NamesAt H a ns->ns.length<=6->(∀H',Same H H'->Q (.int (cnt t ns:Int)) H')->spCount vs H Q u_3
theorem pJ:FnScope ["tree","switches","holding"] ["tree","switches"] (ak jT):=%[1,1,1,4,1,4|4]
theorem sH   (F:Fun K "count_of" "count_of" jT f fd) (hlen:mg "len"=none) (cx:Cal P w K mg base 1 "all_settings" ["n"] spSetts) (b9:Cal P w K mg base 14 "holds_at" ["tree","switches","setting"] (spHolds 12)):FnOk P w K mg base CX0 15 f fd ["tree","switches"] spCount:=by
 exists pJ
 erw[v,t,a,ns,1,T,ok,dp,hN,nl,q]at h;refine⟨_,(aa (mq (i:=2) (N:=["tree","switches"]) (ix:=[0,1]) pJ.nd rfl (.inl rfl) rfl
  (CompScope.two (by rfl') ⋯ rfl ⋯ rfl ⋯ (by first | exact Or.inl rfl | exact Or.inr rfl) (by rfl') (by rfl') (by rfl') (by rfl') rfl rfl (by rfl') rfl rfl) rfl
  (fw (ag cx hr ⋯ rfl %[aD aE rfl hlen PySem.boot_len %[1|aH]|aH]))
  (λ_ _ _=>pb_if (dj (ag b9 hr ⋯ rfl %[1,2,0|aH])) (pv 0)))
  (ad (ao (aD aE rfl hlen PySem.boot_len %[2|aH])))),?_⟩
 have en:((ns.map V.str).length:Int)=(ns.length:Int):=by rw[zH0]
 erw[0,a,0,hN.seq,0,3,3,λr H1 r0 S1 R1=>?_];rw[en]at R1;have e2:((ns.length:Int)).toNat=ns.length:=by omega
 rw[e2]at R1;erw[rs,hrs,TS]at R1;have rl:=TS.length;have sl:=jv ns.length;have s64:=ln nl;erw[r,1,%[_|zF0 hrs],λD hD=>?_];refine jE (K:=K) (xs:=rs) (λi H'=>∃ys,H' D=some (.lst ys)/\ys.length=(((cq ns.length).take i).filter λst=>t.holds ns st).length/\Same H1 H') %[[],aC,1|zC0 hD _] (λi H' _ hst=>by erw[_,_,_,h]at hst;exact zF0 (h _ _ hrs)) ?_ ?_
 . rintro i x H2 hx ⟨ys,hl,yl,S2⟩;have hi:i<rs.length:=(zX0 hx).1;have TS2:=TS.mono (aV S2);let%[st,hst,b,1|hb]:=TS2.get hx;have stl:=eM _ _ (qI0 hst);have S02:=S1.trans S2;have tk:((cq ns.length).take (i+1)).filter (λst=>t.holds ns st)=((cq ns.length).take i).filter (λst=>t.holds ns st)++[st].filter (λst=>t.holds ns st):=by
    rw[qN0,hst,List.filter_append];rfl
   erw[0,0,0,v,t,a,b,ns,st,1,T.mono (aV S02),ok,dp,hN.same S02,hb,stl,0,6];cases c:t.holds ns st with
   | true=>
     refine du ?_;erw[0,ys,hl,6,Nx.of hi %[_,aC,6|λb' o e=>?_]]
     . have:=List.length_filter_le (λst=>t.holds ns st) ((cq ns.length).take i)
       rw[qH0]at this;exact aM #[0]
     . rw [tk,zJ0,zJ0,yl]
       simp [c]
     . rw[aq (aN e hD)];exact S2 _ _ e
   | false=>
     refine cG ?_;refine Nx.of hi %[ys,hl,6|S2];rw[tk,zJ0,yl]
     simp [c]
 . rintro H2 ⟨ys,hl,yl,S2⟩;have e3:rs.length=(cq ns.length).length:=rl;rw[e3,qJ0]at yl;erw[0,D,0,.inl (zF0 hl),6];rw[yl];exact q H2 (S1.trans S2)
inductive spCounts(C:Addr)(vs:List V)(H:Hp)(Q:VK)(u_3:XK):Prop
 |mk:∀(g a b d:Addr)(ns:List Str)(tv:List V)(ts:List Tr)(p:Int),vs=[.ref g]->GameAt C H g a b d p->H a=some (.tup (ns.map V.str))->ns.length<=6->H b=some (.tup tv)->TreesAt H tv ts->ts.length<=10->(∀t∈ts,t.ok ns/\t.depth<=12)->(∀(l:Addr)(H':Hp),H l=none->Same H H'->H' l=some (.lst ((ts.map λt=>(cnt t ns:Int)).map V.int))->Q (.ref l) H')->spCounts C vs H Q u_3
theorem qy:FnScope ["game"] ["game"] (ak jb):=%[1,1,1,4,1,4|4]
theorem qZ   (F:Fun K "counts_of" "counts_of" jb f fd) (T:GTxt K mg C) (j4:Cal P w K mg base 15 "count_of" ["tree","switches"] spCount):FnOk P w K mg base CX0 16 f fd ["game"] (spCounts C):=by
 exists qy
 erw[g,a,b,d,ns,tv,ts,p,1,%[dx|hg],ha,nl,hb,TS,t10,tok,q]at h;refine⟨_,(ad (ao (cJ (N:=["game"]) (ix:=[0]) rfl
  (CompScope.one (by rfl') ⋯ rfl ⋯ rfl ⋯ (by rfl') (by rfl') (by rfl') rfl rfl) rfl
  (jh (az (pv 0) rfl)) (λ_ _ _=>cQ (ag j4 hr ⋯ rfl %[0,mr K (pv 1)|aH]))))),?_⟩
 have vl:=TS.length;erw[0,g,C,dx,_,0,hg,T.cl,T.nT,qb ..,b,1,%[_|zD0 hb],λD hD=>?_];refine jm (K:=K) (xs:=tv) (λi H'=>H' D=some (.lst (((ts.take i).map λt=>(cnt t ns:Int)).map V.int))/\Same H H') %[by rw[aC];rfl|zC0 hD _] (λi H' _ h=>zD0 (h.2 _ _ hb)) ?_ ?_
 . rintro i z H2 hz ⟨hl,S2⟩;let%[t,ht|Tt]:=TS.get hz;let%[tk|td]:=tok t (qI0 ht);have hi:i<tv.length:=(zX0 hz).1;erw[0,0,g,C,dx,_,0,S2 _ _ hg,T.cl,T.nS,oH ..,z,t,a,ns,1,Tt.mono (aV S2),tk,td,.inr (S2 _ _ ha),nl,λH3 S3=>?_];erw[_,S3 _ _ hl,6,Nx.of hi %[6|λb' o' e'=>?_]]
   . rw[zH0,zH0,qH0];exact aM #[0]
   . rw[aC,qN0,ht,zO0,zO0];rfl
   . rw[aq (aN e' hD)];exact S3 _ _ (S2 _ _ e')
 . rintro H2 ⟨hl,S2⟩;rw[vl,qJ0]at hl;exact q D H2 hD S2 hl
theorem iteNE{c A B:Prop}[Decidable c](hc:c)(h:B):if(!decide c)=true then A else B:=by
 rw[decide_eq_true hc];exact cG h
def fZ(s:Int):List Int->Int
 | []=>0
 | a::r=>a+s*fZ s r
theorem kJ(s p:Int):∀ns,hor s p ns=fZ s ns % p
 | []=>(Int.zero_emod p).symm
 | a::r=>by
   show(hor s p r*s+a) % p=(a+s*fZ s r) % p;rw[kJ s p r,Int.add_emod,Int.mul_emod,Int.emod_emod,←Int.mul_emod,←Int.add_emod,Int.mul_comm,Int.add_comm]
theorem kf:∀(n:Nat)(s:List Int),s∈cq n->∀x∈s,x=0∨x=1
 | 0,s,h,x,hx=>by
   have:s=[]:=by simpa [cq]using h
   subst this;cases hx
 | n+1,s,h,x,hx=>by
   rw[cq,List.mem_flatMap]at h;erw[t,ht,hs]at h
   simp at hs
   rcases hs with rfl | rfl
   . rcases qD0 hx with h | h
     . exact kf n t ht x h
     . exact .inl (zM0 h)
   . rcases qD0 hx with h | h
     . exact kf n t ht x h
     . exact .inr (zM0 h)
theorem wM{K:W.Frag}{H1:Hp}{a b:Addr}{xs ys:List Int}{Q:VK}(ha:H1 a=some (.tup (xs.map V.int)))(hb:H1 b=some (.tup (ys.map V.int)))(hl:xs.length+ys.length<=100)
 (q:∀t H2,Same H1 H2->H2 t=some (.tup ((xs++ys).map V.int))->Q (.ref t) H2):rCatT K (.ref a) (.ref b) H1 Q∨rCatT0 K (.ref a) (.ref b) H1 Q:=by
 cases xs with
 | nil=>exact .inr %[a,b,0,1,zD0 ha,zD0 hb|q b H1 (Same.refl _) hb]
 | cons x r=>
   refine .inl %[a,b,2,zD0 ha,zD0 hb,by simp,bK (by simp at hl ⊢;omega),(λz=>?_)|(λ_ t ht=>q t _ (zC0 ht _) ?_)]
   . cases ys with
     | nil=>
       refine q a H1 (Same.refl _) ?_;rw[List.append_nil];exact ha
     | cons y r2=>exact nomatch z
   . rw[aC,zO0]
def bv(ns:List Str)(ts:List Tr)(s p:Int)(pt:List Int):Int:=((cq (ns.length-pt.length)).map λst=>fZ s (ts.map λt=>t.worth ns (pt++st) p)).sum % p
theorem vO{α:Type}(p:Int)(f:α->Int):∀l:List α,(l.map λx=>f x % p).sum % p=(l.map f).sum % p
 | []=>rfl
 | a::r=>by
   rw[qC0,qC0,List.sum_cons,List.sum_cons,Int.add_emod,Int.emod_emod,vO p f r,←Int.add_emod]
theorem vN{α:Type}{p:Int}(hp:0<p)(f:α->Int)(h:∀x,0<=f x/\f x<p):∀l:List α,0<=(l.map f).sum/\(l.map f).sum<=p*l.length
 | []=>%[Int.le_refl 0|by simp]
 | a::r=>by
   have h1:=h a;have h2:=vN hp f h r;rw[qC0,List.sum_cons,zT0];erw[3,6]
   have:p*((r.length+1:Nat):Int)=p*(r.length:Int)+p:=by
    rw[Int.natCast_add,Int.mul_add]
    simp
   omega
theorem su(h:gq a p)(h2:gq b p):gq (a++b) p:=λx hx=>by
 rcases qD0 hx with e | e
 . exact h x e
 . exact h2 x e
theorem pt01{b:List Int}(h:gq a p)(p1:1<p)(h2:∀x∈b,x=0∨x=1):gq (a++b) p:=su h λx hx=>by rcases h2 x hx with e | e <;> omega
theorem qV{X:Cx}(K:W.Frag)(hK:X.K=K:=by rfl):OpR X (binaryOp .Add) (λx y H Q=>rCatT K x y H Q∨rCatT0 K x y H Q):=by subst hK;exact op_catT.or oa
theorem tH{ts:List Tr}(h0:ts≠[]):0<=bL ts x:=by
 have:=kH (ns:=ts.map λt=>(t.names.count x:Int)) (by simpa using h0)
 let%[t,ht|e]:=List.mem_map.mp this;unfold bL;rw[←e];exact Int.natCast_nonneg _
def iL(ns:List Str)(ts:List Tr)(s p:Int)(cs:List Int)(n:Nat):List Int:=(List.range n).map λk:Nat=>bv ns ts s p (cs++[(k:Int)])
theorem DA{d:Int}{i:Nat}(hi:i<(d+1).toNat)(h:d<=500):((iL ns ts s p cs i).map V.int).length<sizeLine:=by
 unfold iL;rw[zH0,zH0,qO0];exact aM #[0]
theorem ptI{d:Int}{i:Nat}(h:gq a p)(hi:i<(d+1).toNat)(hd:d<p):gq (a++[(i:Int)]) p:=su h λx hx=>by
 rw[zM0 hx];omega
theorem cat1{n k:Nat}(h:n<k)(h6:k<=6):n+([(0:Int)]:List Int).length<=100/\n+1<=k:=by
 rw[qK0];omega
theorem s64{n k:Nat}(h6:n<=6):(cq (n-(k+1))).length<=64:=by
 have s64:=jv (n-(k+1));have p64:=ln (n:=n-(k+1)) #[0];omega
theorem Dz{α:Type}{f:α->Int}{l:List α}{j:Nat}(h:l.length<=64):(((l.take j).map f).map V.int).length<sizeLine:=by
 rw[zH0,zH0,qH0];exact aM #[0]
theorem sum63{p x:Int}{n:Nat}(p0:0<p)(p40:p<2 ^ 40)(h:n<=64)(hx:x<=p*(n:Int)):x<2 ^ 63:=by
 have:p*(n:Int)<=p*64:=qX0 #[0] #[0]
 omega
inductive spTrue(C:Addr)(vs:List V)(H:Hp)(Q:VK)(u_3:XK):Prop
 |mk:∀(g a b d c:Addr)(ns:List Str)(tv:List V)(ts:List Tr)(cs:List Int)(x:Str)(s p:Int),vs=[.ref g,.int s,.ref c]->GameAt C H g a b d p->H a=some (.tup (ns.map V.str))->ns.length<=6->H b=some (.tup tv)->TreesAt H tv ts->ts≠[]->ts.length<=10->(∀t∈ts,t.ok ns/\t.depth<=10)->H d=some (.lst ((ns.map (bL ts)).map V.int))->H c=some (.tup (cs.map V.int))->ns[cs.length]?=some x->bL ts x<p->bL ts x<=500->gq cs p->1<p->p<2 ^ 40->(∀(l:Addr)(H':Hp),H l=none->Same H H'->H' l=some (.lst ((iL ns ts s p cs (bL ts x+1).toNat).map V.int))->Q (.ref l) H')->spTrue C vs H Q u_3
theorem dD:FnScope ["game","s","coins","ahead","switch","behind","row","x","worths"] ["game","s","coins"] (ak jO):=%[1,1,1,4,1,4|4]
theorem sC   (F:Fun K "true_row" "true_row" jO f fd) (B:Bl mg) (T:GTxt K mg C) (mW:Meth K C "worth_at" fW) (GW:FnOk P w K mg base CX0 13 fW fdW ["self","point","s"] (spWAt C)) (bW:Binds K fdW ["self","point","s"] []) (cx:Cal P w K mg base 1 "all_settings" ["n"] spSetts):FnOk P w K mg base CX0 14 f fd ["game","s","coins"] (spTrue C):=by
 exists dD
 erw[g,a,b,d,c,ns,tv,ts,cs,x,s,p,1,%[dx|hg],ha,nl,hb,TS,tne,t10,tok,hd,hc,hx,dp,d500,po,p1,p40,q]at h;refine⟨_,(aa (am (i:=3) dD.nd rfl (Or.inr rfl) (be bp rfl B.tuple bN %[2|aH]))
  (aa #[am,4,dD,aD aE rfl B.len PySem.boot_len %[3|aH]]
  (aa #[am,5,dD,ag cx hr ⋯ rfl %[aj aW (aj aW (aD aE rfl B.len PySem.boot_len %[az (pv 0) rfl|aH]) (pv 4)) ac|aH]]
  (aa #[am,6,dD,ci aH]
  (aa (cP PassesOwn.never rfl (bO rfl B.range %[aj aQ (ay ix_list (az (pv 0) rfl) (pv 4) (λ_ _=>rfl)) ac|aH]) (bQ (i:=7) dD.nd rfl (Or.inr rfl)) (aa (mq (i:=8) (N:=["x","s","game","ahead"]) (ix:=[7,1,0,3]) dD.nd rfl (.inl rfl) rfl
   (CompScope.four (by rfl') ⋯ rfl ⋯ rfl ⋯ rfl (by rfl') (by rfl') (by rfl') (by rfl') (by rfl') (by rfl') rfl rfl (by rfl') rfl rfl (by rfl') rfl rfl (by rfl') rfl rfl) rfl
   (fw (pv 5)) (λ_ _ _=>cQ (bq (pv 3) T.cl mW GW hr bW .nil bh %[aj (qV K) (aj (qV K) (pv 4) (aG %[1|aH])) (pv 0),2|aH])))
   (ad (ba (dq PySem.F.plainAttrs_list PySem.F.slot_list_append PySem.F.type_list_append bU (pv 6) %[aj aO (aD (Bc rfl) rfl B.sum PyProof.Rows.boot_sum %[8|aH]) (az (pv 0) rfl)|aH])))))
  (ad (ao (pv 6)))))))),?_⟩
 have kl:cs.length<ns.length:=(zX0 hx).1;have d0:=tH (x:=x) tne;have p0:0<p:=Int.lt_trans Int.zero_lt_one p1;erw[0,c,0,.inr %[zD0 hc|6]];have G1:Same H H:=λ_ _ e=>e
 have hah1:=hc;erw[0,c,0,.inr (zD0 hah1),6];erw[0,g,C,dx,_,0,G1 _ _ hg,T.cl,T.nS,oH ..,a,0,.inr (zD0 (G1 _ _ ha)),0,2,2,0,by rw[zH0,zH0];omega,by rw[zH0,zH0];omega,λr H2 r0 S2 R2=>?_];have en:((((ns.map V.str).length:Nat):Int)-(((cs.map V.int).length:Nat):Int)-1).toNat=ns.length-(cs.length+1):=by rw[zH0,zH0];omega
 rw[en]at R2;erw[rs,hrs,TB]at R2;have rl:=TB.length;erw[(by show 0<=sizeLine;decide),λL hL=>?_];have S02:=G1.trans S2;have GL:=zC0 hL (.lst []);have S03:=S02.trans GL;have L0:H L=none:=S02.free hL;have e1:(((cs.map V.int).length:Nat):Int)=(cs.length:Int):=by rw[zH0]
 erw[0,g,C,dx,_,0,S03 _ _ hg,T.cl,T.nD,De ..,0,d,_,_,.int (bL ts x),1,1,zF0 (S03 _ _ hd),6,2,0,3,3,eK (λi σ H'=>∃x7 x8:Option V,σ=[some (.ref g),some (.int s),some (.ref c),some (.ref c),some (.int (((cs.map V.int).length:Nat):Int)),some (.ref r),some (.ref L),x7,x8]/\H' L=some (.lst ((iL ns ts s p cs i).map V.int))/\SameBut L H2 H') %[_,0,by rw[aC];rfl|SameBut.upd _] ?_ ?_]
 . rw[e1];refine db ?_;rw[qE0,qE0,hx];rfl
 . rintro i σ H4 hi ⟨x7,x8,rfl,hL4,S4⟩;have gL:g≠L:=aN (S02 _ _ hg) hL;have rL:r≠L:=aN hrs hL;have kT:bY H2 H4:=λc xs h=>S4 c _ (aN h hL) h
   have hg4:=S4 g _ gL (S02 _ _ hg);have hrs4:=S4 r _ rL hrs;have ha4:=kT _ _ (S02 _ _ ha);have hb4:=kT _ _ (S02 _ _ hb);have hah4:=kT _ _ (S2 _ _ hah1);have TS4:=(TS.mono (aV S02)).mono kT;have TB4:=TB.mono kT;erw[0,r,1,%[_|zF0 hrs4],λD hD=>?_];refine jE (K:=K) (xs:=rs) (λj H'=>H' D=some (.lst ((((cq (ns.length-(cs.length+1))).take j).map λst=>hor s p (ts.map λt=>t.worth ns (cs++[(i:Int)]++st) p)).map V.int))/\Same H4 H') %[by rw[aC];rfl|zC0 hD _] (λj H' _ h=>zF0 (h.2 _ _ hrs4)) ?_ ?_
   . rintro j z H5 hz ⟨hD5,S5⟩;let%[st,hst,y,1|hy]:=(TB4.mono (aV S5)).get hz;have stm:=qI0 hst;have stl:=eM _ _ stm;have s01:=kf _ _ stm;have hj:j<rs.length:=(zX0 hz).1;have po2:gq (cs++[(i:Int)]++st) p:=pt01 (ptI po hi dp) p1 s01;have pl2:(cs++[(i:Int)]++st).length=ns.length:=by rw[zJ0,zJ0,qK0];omega
     erw[0,g,dx,0,S5 _ _ hg4,AO _ _ _ _ ⋯ ⋯ ⋯ ⋯,6];erw[0,0,(by show 1<=sizeLine;decide),λu hu=>?_];have Gu:=zC0 hu (.tup [.int (0+(i:Int))]);have hu6:upd H5 u (.tup [.int (0+(i:Int))]) u=some (.tup ([(i:Int)].map V.int)):=by rw[aC,Int.zero_add];rfl
     generalize upd H5 u (.tup [.int (0+(i:Int))])=H6 at Gu hu6;refine wM (Gu _ _ (S5 _ _ hah4)) hu6 (cat1 kl nl).1 λt1 H7 S7 h7=>?_
     erw[0,6];have S57:=Gu.trans S7;refine wM h7 (S57 _ _ hy) (by rw[zJ0,qK0];omega) λt2 H8 S8 h8=>?_
     have S48:=S5.trans (S57.trans S8);erw[0,g,a,b,d,t2,ns,tv,ts,_,s,p,1,%[dx|S48 _ _ hg4],p1,p40,S48 _ _ ha4,S48 _ _ hb4,TS4.mono (aV S48),t10,tok,h8,pl2,po2,λH9 S9=>?_];erw[_,S9 _ _ ((S57.trans S8) _ _ hD5),6,Nx.of hj %[6|λb' o' e'=>?_]]
     . exact Dz (s64 nl)
     . rw[aC,qN0,hst,zO0,zO0];rfl
     . rw[aq (aN e' hD)];exact S9 _ _ (S48 _ _ e')
   rintro H5 ⟨hD5,S5⟩;rw[rl,qJ0]at hD5;have hor_r:=λst:List Int=>wB (s:=s) (p:=p) p0 (ts.map λt=>t.worth ns (cs++[(i:Int)]++st) p)
   have sr:=vN (p:=p) p0 (λst:List Int=>hor s p (ts.map λt=>t.worth ns (cs++[(i:Int)]++st) p)) hor_r (cq (ns.length-(cs.length+1)));have hL5:=S5 _ _ hL4;erw[0,.inl %[1,_|zF0 hL5],0,D,0,zF0 hD5,6,6,6]
   . intro n hn;let%[st,_|1]:=List.mem_map.mp hn;exact(hor_r st).1
   . exact sum63 p0 p40 (s64 nl) sr.2
   erw[0,g,C,dx,_,0,S5 _ _ hg4,T.cl,T.nF,jJ ..,2,p0,L,2,hL5,6,6]
   . exact DA hi d500
   . erw[_,0,6,λc o hc e=>?_]
     . rw [aC];unfold iL;rw[List.range_succ,zO0,zO0];have e2:((cq (ns.length-(cs.length+1))).map λst=>hor s p (ts.map λt=>t.worth ns (cs++[(i:Int)]++st) p)).sum % p=bv ns ts s p (cs++[(i:Int)]):=by
        unfold bv;rw[zJ0,qK0,show(λst:List Int=>hor s p (ts.map λt=>t.worth ns (cs++[(i:Int)]++st) p))=λst=>fZ s (ts.map λt=>t.worth ns (cs++[(i:Int)]++st) p) % p from funext λst=>kJ _ _ _];exact vO p (λst:List Int=>fZ s (ts.map λt=>t.worth ns (cs++[(i:Int)]++st) p)) _
       show some (HO.lst (_++[V.int (((cq (ns.length-(cs.length+1))).map λst=>hor s p (ts.map λt=>t.worth ns (cs++[(i:Int)]++st) p)).sum % p)]))=_;rw[e2];rfl
     . rw[aq hc];exact S5 _ _ (S4 c o hc e)
 . rintro σ H4 ⟨x7,x8,rfl,hL4,S4⟩;erw[0,q L H4 L0 (S02.but L0 S4) hL4]
theorem neS{a b:Str}(h:¬ a=b):¬ V.str a=V.str b:=λz=>h (V.str.inj z)
open Classical in
noncomputable def El(p a:Int):Int:=if h:∃g:Int,0<g/\g<p/\g*a % p=1 then h.choose else 0
theorem AI{p a g k:Int}(g0:0<g)(g1:g<p)(hg:g*a % p=1)(k0:0<k)(k1:k<p)(hk:k*a % p=1):g=k:=by
 have e1:g*(k*a) % p=g:=by
  rw[Int.mul_emod,hk,Int.mul_one,Int.emod_emod,qR0 #[0] g1]
 have e2:k*(g*a) % p=k:=by
  rw[Int.mul_emod,hg,Int.mul_one,Int.emod_emod,qR0 #[0] k1]
 have e3:g*(k*a) % p=k*(g*a) % p:=by rw[Int.mul_left_comm]
 exact e1.symm.trans (e3.trans e2)
theorem Cs{p a g:Int}(g0:0<g)(g1:g<p)(hg:g*a % p=1):El p a=g:=by
 have h:∃g:Int,0<g/\g<p/\g*a % p=1:=%[g,g0,g1|hg]
 unfold El;rw[dif_pos h];erw[k0,k1,hk]at h.choose_spec;exact AI k0 k1 hk g0 g1 hg
noncomputable def vE(p x y:Int):Int:=if y=0 then 0 else x*El p y % p
noncomputable def opV(p:Int)(s:Str)(x y:Int):Int:=
 if s="+" then(x+y) % p else if s="-" then(x-y) % p else if s="*" then x*y % p else if s="/" then vE p x y else if s="=" then(if x=y then 1 else 0)else if x<y then 1 else 0
theorem AY{p:Int}(hp:0<p):0<=vE p x y/\vE p x y<p:=by
 unfold vE
 split
 . omega
 . erw[qA0 _ #[0],qF0 _ hp]
theorem BT{p:Int}(hp:1<p):0<=opV p s x y/\opV p s x y<p:=by
 have m:∀z:Int,0<=z % p/\z % p<p:=λz=>%[qA0 _ #[0]|qF0 _ #[0]]
 unfold opV
 split
 . exact m _
 . split
   . exact m _
   . split
     . exact m _
     . split
       . exact AY #[0]
       . split <;> split <;> omega
inductive spDiv(vs:List V)(H:Hp)(Q:VK)(u_3:XK):Prop
 |mk:∀(x y p:Int),vs=[.int x,.int y,.int p]->Pr p->p<=999983->0<=x->x<p->0<=y->y<p->Q (.int (vE p x y)) H->spDiv vs H Q u_3
theorem uA:FnScope ["first","second","p"] ["first","second","p"] (ak li):=%[1,1,1,4,1,4|4]
theorem va   (F:Fun K "divided" "divided" li f fd) (dO:Cal P w K mg base 1 "inverse_of" ["a","p"] spInv):FnOk P w K mg base CX0 2 f fd ["first","second","p"] spDiv:=by
 exists uA
 erw[x,y,p,1,pp,p9,x0,x1,y0,y1,q]at h;refine⟨_,(aa (aB (af aI (pv 1) ac (ai _)) (ad (ao ac)) av)
  (ad (ao (aj aO (aj cc (pv 0) (ag dO hr ⋯ rfl %[1,2|aH])) (pv 2))))),?_⟩
 unfold vE at q;erw[0,1,0,6]
 by_cases c:y=0
 . rw[zE0 c]at q;exact aR (congrArg V.int c) q
 . rw[zB0 c]at q;refine ax (λz=>c (V.int.inj z)) ?_;erw[0,0,0,y,p,1,pp,p9,3,y1,λg g0 g1 hg=>?_];rw[Cs g0 g1 hg]at q;erw[2,.inl %[3|3],0,2,(by show 0<p;omega),q]
def signW:List Str:=["+","-","*","/","=","<"]
inductive spOp(vs:List V)(H:Hp)(Q:VK)(u_3:XK):Prop
 |mk:∀(s:Str)(x y p:Int),vs=[.str s,.int x,.int y,.int p]->s∈signW->Pr p->p<=999983->0<=x->x<p->0<=y->y<p->Q (.int (opV p s x y)) H->spOp vs H Q u_3
theorem rZ:FnScope ["sign","first","second","p"] ["sign","first","second","p"] (ak jQ):=%[1,1,1,4,1,4|4]
theorem opV_1 :opV p "+" x y=(x+y) % p:=zE0 rfl
theorem opV_2 :opV p "-" x y=(x-y) % p:=by unfold opV;rw[zB0 ⋯,zE0 rfl]
theorem opV_3 :opV p "*" x y=x*y % p:=by unfold opV;rw[zB0 ⋯,zB0 ⋯,zE0 rfl]
theorem opV_4 :opV p "/" x y=vE p x y:=by unfold opV;rw[zB0 ⋯,zB0 ⋯,zB0 ⋯,zE0 rfl]
theorem opV_5 :opV p "=" x y=if x=y then 1 else 0:=by unfold opV;rw[zB0 ⋯,zB0 ⋯,zB0 ⋯,zB0 ⋯,zE0 rfl]
theorem opV_6 :opV p "<" x y=if x<y then 1 else 0:=by unfold opV;rw[zB0 ⋯,zB0 ⋯,zB0 ⋯,zB0 ⋯,zB0 ⋯]
theorem sE   (F:Fun K "op_value" "op_value" jQ f fd) (l7:Cal P w K mg base 2 "divided" ["first","second","p"] spDiv):FnOk P w K mg base CX0 3 f fd ["sign","first","second","p"] spOp:=by
 exists rZ
 erw[s,x,y,p,1,hs,pp,p9,x0,x1,y0,y1,q]at h;have p0:0<p:=by omega
 refine⟨_,(aa (aB (af aI (pv 0) au (ai _)) (ad (ao (aj aO (aj aQ (pv 1) (pv 2)) (pv 3)))) av)
  (aa (aB (af aI (pv 0) au (ai _)) (ad (ao (aj aO (aj aW (pv 1) (pv 2)) (pv 3)))) av)
  (aa (aB (af aI (pv 0) au (ai _)) (ad (ao (aj aO (aj cc (pv 1) (pv 2)) (pv 3)))) av)
  (aa (aB (af aI (pv 0) au (ai _)) (ad (ao (ag l7 hr ⋯ rfl %[1,2,3|aH]))) av)
  (aa (aB (af aI (pv 0) au (ai _)) (ad (ao (kE (af aI (pv 1) (pv 2) (ai _)) ac ac))) av)
  (ad (ao (kE (af cN (pv 1) (pv 2) (ai _)) ac ac)))))))),?_⟩
 have hs':s="+"∨s="-"∨s="*"∨s="/"∨s="="∨s="<":=by simpa [signW]using hs
 rcases hs' with rfl | rfl | rfl | rfl | rfl | rfl
 . rw[opV_1]at q;erw[0,1,0,aR rfl ?_];erw[0,0,2,0,2,p0,q]
 . rw[opV_2]at q;erw[0,1,0,ax (neS ⋯) ?_];erw[0,1,0,aR rfl ?_];erw[0,0,2,0,2,p0,q]
 . rw[opV_3]at q;erw[0,1,0,ax (neS ⋯) ?_];erw[0,1,0,ax (neS ⋯) ?_];erw[0,1,0,aR rfl ?_];erw[0,0,2,.inl %[3|3],0,2,p0,q]
 . rw[opV_4]at q;erw[0,1,0,ax (neS ⋯) ?_];erw[0,1,0,ax (neS ⋯) ?_];erw[0,1,0,ax (neS ⋯) ?_];erw[0,1,0,aR rfl ?_];erw[0,0,0,x,y,p,1,pp,p9,x0,x1,y0,y1,q]
 . rw [opV_5]at q;erw[0,1,0,ax (neS ⋯) ?_];erw[0,1,0,ax (neS ⋯) ?_];erw[0,1,0,ax (neS ⋯) ?_];erw[0,1,0,ax (neS ⋯) ?_];erw[0,1,0,aR rfl ?_];erw[0,0,1,0,6]
   by_cases c:x=y
   . rw[zE0 c]at q;exact aR (congrArg V.int c) q
   . rw[zB0 c]at q;exact ax (λz=>c (V.int.inj z)) q
 . rw [opV_6]at q;erw[0,1,0,ax (neS ⋯) ?_];erw[0,1,0,ax (neS ⋯) ?_];erw[0,1,0,ax (neS ⋯) ?_];erw[0,1,0,ax (neS ⋯) ?_];erw[0,1,0,ax (neS ⋯) ?_];erw[0,0,2,0,6]
   by_cases c:x<y
   . rw[zE0 c]at q;exact aR c q
   . rw[zB0 c]at q;exact ax c q
theorem ku{t':TS}(h:PSs X ss t)(hw:∀D σ H,t' D σ H->t D σ H):PSs X ss t':=λpins s σ H D I k=>h pins s σ H D I (hw _ _ _ k)
inductive Tm where
 | num (n:Int) | box (x:Str) | plain (w:Str) | ask (w:Str) (a:Tm) | op (s:Str) (a b:Tm)
def Tm.size:Tm->Nat
 | .num _=>1 | .box _=>1 | .plain _=>1 | .ask _ a=>a.size+1 | .op _ a b=>a.size+b.size+1
def Tm.depth:Tm->Nat
 | .num _=>1 | .box _=>1 | .plain _=>1 | .ask _ a=>a.depth+1 | .op _ a b=>max a.depth b.depth+1
theorem Tm.depth_pos:∀t:Tm,1<=t.depth
 | .num _=>zG0 _ | .box _=>zG0 _ | .plain _=>zG0 _ | .ask _ a=>Nat.le_add_left .. | .op _ a b=>Nat.le_add_left ..
theorem Tm.size_pos:∀t:Tm,1<=t.size
 | .num _=>zG0 _ | .box _=>zG0 _ | .plain _=>zG0 _ | .ask _ a=>Nat.le_add_left .. | .op _ a b=>Nat.le_add_left ..
def plainW:List Str:=["round","due","asked"]
def askW:List Str:=["coin","true"]
inductive TmAt(H:Hp):V->Tm->Prop
 | num {a:Addr} {n:Int}:H a=some (.tup [.str "num",.int n])->TmAt H (.ref a) (.num n)
 | box {a:Addr} {x:Str}:H a=some (.tup [.str "box",.str x])->TmAt H (.ref a) (.box x)
 | plain {a:Addr} {w:Str}:H a=some (.tup [.str w])->TmAt H (.ref a) (.plain w)
 | ask {a:Addr} {w:Str} {v:V} {t:Tm}:H a=some (.tup [.str w,v])->TmAt H v t->TmAt H (.ref a) (.ask w t)
 | op {a:Addr} {s:Str} {v u:V} {t r:Tm}:H a=some (.tup [.str "op",.str s,v,u])->TmAt H v t->TmAt H u r->TmAt H (.ref a) (.op s t r)
theorem TmAt.mono(k:bY H H')(h:TmAt H v t):TmAt H' v t:=by
 induction h with
 | num e=>exact .num (k _ _ e)
 | box e=>exact .box (k _ _ e)
 | plain e=>exact .plain (k _ _ e)
 | ask e _ ih=>exact .ask (k _ _ e) ih
 | op e _ _ i1 i2=>exact .op (k _ _ e) i1 i2
inductive Hr where
 | fin | go (n:Int) | iff (t:Tm) (n:Int) | set (x:Str) (t:Tm) | say (t:Tm)
inductive HrAt(H:Hp):V->Hr->Prop
 | fin {a:Addr}:H a=some (.tup [.str "end"])->HrAt H (.ref a) .fin
 | go {a:Addr} {n:Int}:H a=some (.tup [.str "go",.int n])->HrAt H (.ref a) (.go n)
 | iff {a:Addr} {v:V} {t:Tm} {n:Int}:H a=some (.tup [.str "if",v,.int n])->TmAt H v t->HrAt H (.ref a) (.iff t n)
 | set {a:Addr} {x:Str} {v:V} {t:Tm}:H a=some (.tup [.str "set",.str x,v])->TmAt H v t->HrAt H (.ref a) (.set x t)
 | say {a:Addr} {v:V} {t:Tm}:H a=some (.tup [.str "say",v])->TmAt H v t->HrAt H (.ref a) (.say t)
theorem HrAt.mono(k:bY H H')(h:HrAt H v r):HrAt H' v r:=by
 cases h with
 | fin e=>exact .fin (k _ _ e)
 | go e=>exact .go (k _ _ e)
 | iff e t=>exact .iff (k _ _ e) (t.mono k)
 | set e t=>exact .set (k _ _ e) (t.mono k)
 | say e t=>exact .say (k _ _ e) (t.mono k)
section
variable {CM CA CG:Addr}
abbrev qJ:Stmt:=bV jf 0
abbrev nC:Stmt:=bV jf 1
abbrev qK:Stmt:=bV jf 2
abbrev lj:Stmt:=bV jf 3
abbrev qI:Stmt:=bV jf 4
abbrev qF:Stmt:=bV lc 0
abbrev uD:Stmt:=bV lc 1
abbrev uE:Stmt:=bV lc 2
def al (g:Addr) (nr mn hd s:Int) (aT:Addr) (tr:V):List (Str×V):=[("game",.ref g),("number",.int nr),("many",.int mn),("held",.int hd),("s",.int s),("tossed",.ref aT),("truths",tr)]
theorem rM    :(al g nr mn hd s aT tr).lookup ("game":Str)=some (.ref g):=by rfl'
structure ATxt(K:W.Frag)(mg:Str->Option Value)(C:Addr):Prop where
 cl:Cls K C
 nG:NoAttr K C "game"
 nN:NoAttr K C "number"
 nM:NoAttr K C "many"
 nH:NoAttr K C "held"
 nS:NoAttr K C "s"
 nT:NoAttr K C "tossed"
 nR:NoAttr K C "truths"
 mgC:mg "Asking"=some (.ref C)
def ml (g h:Addr) (r:Int) (b:Addr):List (Str×V):=[("game",.ref g),("helper",.ref h),("next_round",.int r),("boxes",.ref b)]
section
variable {g h b:Addr} {r:Int}
theorem ml_g:(ml g h r b).lookup ("game":Str)=some (.ref g):=by rfl'
theorem Ea:(ml g h r b).lookup ("helper":Str)=some (.ref h):=by rfl'
theorem ml_r:(ml g h r b).lookup ("next_round":Str)=some (.int r):=by rfl'
theorem Cg:(ml g h r b).lookup ("boxes":Str)=some (.ref b):=by rfl'
theorem ml_n1:(ml g h r b).lookup ("do_row":Str)=none:=by rfl'
theorem oy:(ml g h r b).lookup ("say":Str)=none:=by rfl'
theorem DZ:(ml g h r b).length<1000:=by show 4<1000;decide
theorem DY {v:Int}:bX "next_round" (.int v) (ml g h r b)=ml g h v b:=by rfl'
end
structure MTxt(K:W.Frag)(mg:Str->Option Value)(C:Addr):Prop where
 cl:Cls K C
 nG:NoAttr K C "game"
 nH:NoAttr K C "helper"
 nR:NoAttr K C "next_round"
 nB:NoAttr K C "boxes"
 mgC:mg "Machine"=some (.ref C)
def BxAt(H:Hp)(b:Addr)(bx:Str->Int)(m:Nat):Prop:=∃kvs:List (Key×V),H b=some (.dK kvs)/\kvs.length<=m/\∀x:Str,(di kvs (.inr x)).getD (.int 0)=.int (bx x)
def iK(bx:Str->Int)(x:Str)(n:Int):Str->Int:=λy=>if y=x then n else bx y
theorem BxAt.keep{H':Hp}(h:BxAt H b bx m)(k:∀o,H b=some o->H' b=some o):BxAt H' b bx m:=by
 erw[kvs,e,r]at h;erw[kvs,k _ e,r]
theorem EH{kvs:List (Key×V)}{bx:Str->Int}(x:Str)(n:Int)(h:∀x:Str,(di kvs (.inr x)).getD (.int 0)=.int (bx x)):∀y:Str,(di (gV kvs (.inr x) (.int n)) (.inr y)).getD (.int 0)=.int (iK bx x n y):=λy=>by
 rw[mH];unfold iK
 by_cases c:y=x
 . rw[zE0 (by rw[c]),zE0 c];rfl
 . rw[zB0 (λz=>c (Sum.inr.inj z)),zB0 c];exact h y
section
variable {g aT:Addr} {nr mn hd s:Int} {tr:V}
theorem EK:(al g nr mn hd s aT tr).lookup ("number":Str)=some (.int nr):=by rfl'
theorem al_m:(al g nr mn hd s aT tr).lookup ("many":Str)=some (.int mn):=by rfl'
theorem al_h:(al g nr mn hd s aT tr).lookup ("held":Str)=some (.int hd):=by rfl'
theorem al_s:(al g nr mn hd s aT tr).lookup ("s":Str)=some (.int s):=by rfl'
theorem al_t:(al g nr mn hd s aT tr).lookup ("tossed":Str)=some (.ref aT):=by rfl'
theorem CD:(al g nr mn hd s aT tr).lookup ("truths":Str)=some tr:=by rfl'
theorem al_n1:(al g nr mn hd s aT tr).lookup ("plain_value":Str)=none:=by rfl'
theorem al_n2:(al g nr mn hd s aT tr).lookup ("coin_at":Str)=none:=by rfl'
theorem al_n3:(al g nr mn hd s aT tr).lookup ("true_numbers":Str)=none:=by rfl'
theorem al_n4:(al g nr mn hd s aT tr).lookup ("true_at":Str)=none:=by rfl'
theorem Bf :bX "truths" v (al g nr mn hd s aT tr)=al g nr mn hd s aT v:=by rfl'
theorem Bg:(al g nr mn hd s aT tr).length<1000:=by show 7<1000;decide
end
structure Ak where
 ns:List Str
 ts:List Tr
 p:Int
 nr:Int
 mn:Int
 hd:Int
 s:Int
 to:List Int
def Ak.tru (z:Ak):List Int:=if z.nr=0 then z.ts.map (λt=>(cnt t z.ns:Int))else iL z.ns z.ts z.s z.p z.to (bL z.ts (z.ns.getD z.to.length "")+1).toNat
structure AkOk(z:Ak):Prop where
 gk:GmK z.ns z.ts z.p
 n6:z.ns.length<=6
 nr0:0<=z.nr
 nrt:0<z.nr->z.to.length<z.ns.length
 po:gq z.to z.p
 s0:0<=z.s
 s1:z.s<z.p
 h0:0<=z.hd
 h1:z.hd<z.p
 tl:z.to.length<=100
def AkAt(CA CG:Addr)(H:Hp)(k g v:Addr)(z:Ak):Prop:=∃(dk aT a b d:Addr)(tv:List V)(tr:V),H k=some (.ins CA dk (al g z.nr z.mn z.hd z.s aT tr))/\GameAt CG H g a b d z.p/\H a=some (.tup (z.ns.map V.str))/\H b=some (.tup tv)/\TreesAt H tv z.ts/\H d=some (.lst ((z.ns.map (bL z.ts)).map V.int))/\d≠v/\H aT=some (.tup (z.to.map V.int))/\(tr=.non∨∃l,tr=.ref l/\l≠v/\H l=some (.lst (z.tru.map V.int)))
theorem AkAt.same(h:AkAt CA CG H k g v z)(s:Same H H'):AkAt CA CG H' k g v z:=by
 erw[dk,aT,a,b,d,tv,tr,h1,h2,h3,h4,h5,h6,h7,h8,h9]at h;erw[dk,aT,a,b,d,tv,tr,s _ _ h1,h2.same s,s _ _ h3,s _ _ h4,h5.mono (aV s),s _ _ h6,h7,s _ _ h8,h9.imp_right fun⟨l,e,n,r⟩=>%[l,e,n|s _ _ r]]
theorem AkAt.but2{H':Hp}{b:Addr}{kvs:List (Key×V)}{ys:List V}(h:AkAt CA CG H k g v z)(hb:H b=some (.dK kvs))(hv:H v=some (.lst ys))(s:∀a o,a≠b->a≠v->H a=some o->H' a=some o):AkAt CA CG H' k g v z:=by
 erw[dk,aT,a,b',d,tv,tr,h1,%[dg|h2],h3,h4,h5,h6,h7,h8,h9]at h;have T:bY H H':=λc xs e=>s _ _ (aZ e hb (by intro z;cases z)) (aZ e hv (by intro z;cases z)) e
 erw[dk,aT,a,b',d,tv,tr,s _ _ (aZ h1 hb (by intro z;cases z)) (aZ h1 hv (by intro z;cases z)) h1,%[dg|s _ _ (aZ h2 hb (by intro z;cases z)) (aZ h2 hv (by intro z;cases z)) h2],T _ _ h3,T _ _ h4,h5.mono T,s _ _ (aZ h6 hb (by intro z;cases z)) h7 h6,h7,T _ _ h8,h9.imp_right fun⟨l,e,n,r⟩=>%[l,e,n|s _ _ (aZ r hb (by intro z;cases z)) n r]]
def jK(z:Ak):List Int:=if 1<z.ts.length then z.s::z.to else z.to
def jo(z:Ak)(i:Int):Int:=if 1<=i/\i<=((jK z).length:Int)then(jK z).getD (i-1).toNat 0 else 0
def dG(z:Ak)(i:Int):Int:=if 0<z.nr then val z.p z.tru i else if i<(z.tru.length:Int)then z.tru.getD i.toNat 0 % z.p else 0
def lp (z:Ak) (w:Str):Int:=if w="round" then z.nr % z.p else if w="asked" then z.mn % z.p else z.hd
theorem AkOk.p0(k:AkOk z):2<z.p:=k.gk.p2
theorem sZ(h:gq xs p)(p0:0<p)(i:Nat):0<=xs.getD i 0/\xs.getD i 0<p:=by
 rw[qS0];cases e:xs[i]? with
 | none=>erw[Int.le_refl 0,p0]
 | some x=>exact h x (qI0 e)
theorem Bb(k:AkOk z):gq (jK z) z.p:=by
 unfold jK
 split
 . intro x hx;rcases zV0 hx with rfl | hx
   . erw[k.s0,k.s1]
   . exact k.po x hx
 . exact k.po
theorem yA(k:AkOk z)(i:Int):0<=jo z i/\jo z i<z.p:=by
 have:=k.p0
 unfold jo
 split
 . exact sZ (Bb k) #[0] _
 . omega
theorem wU(k:AkOk z)(i:Int):0<=dG z i/\dG z i<z.p:=by
 have:=k.p0
 unfold dG
 split
 . erw[qA0 _ #[0],qF0 _ #[0]]
 . split
   . erw[qA0 _ #[0],qF0 _ #[0]]
   . omega
theorem uL(k:AkOk z)(w:Str):0<=lp z w/\lp z w<z.p:=by
 have:=k.p0
 unfold lp
 split
 . erw[qA0 _ #[0],qF0 _ #[0]]
 . split
   . erw[qA0 _ #[0],qF0 _ #[0]]
   . erw[k.h0,k.h1]
inductive spPlain(CA CG:Addr)(vs:List V)(H:Hp)(Q:VK)(u_3:XK):Prop
 |mk:∀(k g v:Addr)(z:Ak)(w:Str),vs=[.ref k,.str w]->AkAt CA CG H k g v z->0<z.p->Q (.int (lp z w)) H->spPlain CA CG vs H Q u_3
theorem xn:FnScope ["self","word"] ["self","word"] (ak nC):=%[1,1,1,4,1,4|4]
theorem xN   (F:Fun K "plain_value" "Asking.plain_value" nC f fd) (TA:ATxt K mg CA) (TG:GTxt K mg CG):FnOk P w K mg base CX0 1 f fd ["self","word"] (spPlain CA CG):=by
 exists xn
 erw[k,g,v,z,w,1,%[dk,aT,a,b,d,tv,tr,hk,%[dg|hg]|_],p0,q]at h;refine⟨_,(aa (aB (af aI (pv 1) au (ai _)) (ad (ao (aj aO (az (pv 0) rfl) (az (az (pv 0) rfl) rfl)))) av)
  (aa (aB (af aI (pv 1) au (ai _)) (ad (ao (aj aO (az (pv 0) rfl) (az (az (pv 0) rfl) rfl)))) av)
  (ad (ao (az (pv 0) rfl))))),?_⟩
 unfold lp at q;erw[0,1,0,6]
 by_cases c:w="round"
 . rw[zE0 c]at q;refine aR (congrArg V.str c) ?_;erw[0,k,CA,dk,_,0,hk,TA.cl,TA.nN,EK,0,k,CA,dk,_,0,hk,TA.cl,TA.nG,rM,g,CG,dg,_,0,hg,TG.cl,TG.nF,jJ ..,2,p0,q]
 . rw [zB0 c]at q;refine ax (neS c) ?_;erw[0,1,0,6]
   by_cases c:w="asked"
   . rw[zE0 c]at q;refine aR (congrArg V.str c) ?_;erw[0,k,CA,dk,_,0,hk,TA.cl,TA.nM,al_m,0,k,CA,dk,_,0,hk,TA.cl,TA.nG,rM,g,CG,dg,_,0,hg,TG.cl,TG.nF,jJ ..,2,p0,q]
   . rw[zB0 c]at q;refine ax (neS c) ?_;erw[0,k,CA,dk,_,0,hk,TA.cl,TA.nH,al_h,q]
inductive spCoinAt(CA CG:Addr)(vs:List V)(H:Hp)(Q:VK)(u_3:XK):Prop
 |mk:∀(k g v:Addr)(z:Ak)(i:Int),vs=[.ref k,.int i]->AkAt CA CG H k g v z->z.to.length<=100->(∀H',Same H H'->Q (.int (jo z i)) H')->spCoinAt CA CG vs H Q u_3
theorem sj:FnScope ["self","place","tossed"] ["self","place"] (ak qK):=%[1,1,1,4,1,4|4]
inductive tCoinE(z:Ak)(Dn:Ends)(σ:St)(H:Hp):Prop
 |mk:∀(x0:Option V)(a:Addr)(i:Int),σ=[x0,some (.int i),some (.ref a)]->H a=some (.tup ((jK z).map V.int))->Dn.rt (.int (jo z i)) H->tCoinE z Dn σ H
theorem Al   (F:Fun K "coin_at" "Asking.coin_at" qK f fd) (B:Bl mg) (TA:ATxt K mg CA) (TG:GTxt K mg CG):FnOk P w K mg base CX0 1 f fd ["self","place"] (spCoinAt CA CG):=by
 exists sj
 erw[k,g,v,z,i,1,%[dk,aT,a,b,d,tv,tr,hk,%[dg|hg],ha,hb,TS,_,_,hT|_],tl,q]at h;have vl:=TS.length;refine⟨_,(aa #[am,2,sj,az (pv 0) rfl]
  (aa (aB (af gY (aD aE rfl B.len PySem.boot_len %[az (az (pv 0) rfl) rfl|aH]) ac (ai _)) (ad #[am,2,sj,aj op_catT (aG %[az (pv 0) rfl|aH]) (pv 2)]) av)
  (ku (t':=tCoinE z) (aa (aB (zL wk wk ac (pv 1) (aD aE rfl B.len PySem.boot_len %[2|aH])) (ad (ao (ay aF (pv 2) (aj aW (pv 1) ac) (λ_ _=>rfl)))) av)
  (ad (ao ac))) (by
   rintro Dn σ H ⟨x0,a,i,rfl,ha,q⟩;unfold jo at q;erw[0,2,0,6];have el:(((jK z).map V.int).length:Int)=((jK z).length:Int):=by rw[zH0]
   by_cases c1:1<=i
   . refine aR c1 ?_;erw[0,a,0,.inr (zD0 ha),2,0,6]
     by_cases c2:i<=((jK z).length:Int)
     . rw [zE0 %[c1|c2]]at q;refine aR (by rw[el];exact c2) ?_;obtain⟨j,ej⟩:∃j:Nat,i-1=(j:Int):=⟨(i-1).toNat,by omega⟩
       rw[ej,qQ0]at q;erw[0,0,2,a,_,2,zD0 ha,6,q];rw[ej];exact wz #[0]
     . rw[zB0 (λz=>c2 z.2)]at q;exact ax (by rw[el];exact c2) q
   . rw[zB0 (λz=>c1 z.1)]at q;exact ax c1 %[0|cG q])))),?_⟩
 erw[0,k,CA,dk,_,0,hk,TA.cl,TA.nT,al_t,6];erw[0,k,CA,dk,_,0,hk,TA.cl,TA.nG,rM,g,CG,dg,_,0,hg,TG.cl,TG.nT,qb ..,b,0,.inr (zD0 hb),2,0,6]
 by_cases c:1<z.ts.length
 . refine aR (by rw[vl];omega) ?_;have ec:jK z=z.s::z.to:=zE0 c;erw[0,k,CA,dk,_,0,hk,TA.cl,TA.nS,al_s,(by show 1<=sizeLine;decide),λt ht=>?_];have I:=zC0 ht (.tup [.int z.s]);have g1:upd H t (.tup [.int z.s]) t=some (.tup [.int z.s]):=aC;generalize upd H t (.tup [.int z.s])=H1 at I g1;erw[0,t,aT,2,zD0 g1,zD0 (I _ _ hT),(λz=>nomatch z),bK (by show 1+(z.to.map V.int).length<=1000;rw[zH0];omega),λe=>?_,λ_ y hy=>?_]
   . erw[_,t,i,1,6,q _ I];rw[ec,g1,qC0,e]
   . erw[_,y,i,1,6,q _ (I.trans (zC0 hy _))];rw[aC,ec];rfl
 . refine ax (by rw[vl];omega) ?_;have ec:jK z=z.to:=zB0 c;erw[_,aT,i,1,by rw[ec];exact hT,q _ λ_ _ e=>e]
end
section
variable {CM CA CG:Addr}
theorem zF(ns:List Str)(ts:List Tr)(s p:Int)(cs:List Int)(n:Nat):(iL ns ts s p cs n).length=n:=by
 unfold iL;rw[zH0,qO0]
theorem zE{p:Int}(hp:0<p):gq (iL ns ts s p cs n) p:=λx hx=>by
 unfold iL at hx;let%[k,_|1]:=List.mem_map.mp hx;erw[qA0 _ #[0],qF0 _ hp]
theorem AkOk.deg  (k:AkOk z) (h:0<z.nr):∃x,z.ns[z.to.length]?=some x/\z.ns.getD z.to.length ""=x/\0<=bL z.ts x/\bL z.ts x<z.p/\bL z.ts x<=400:=by
 have hl:=k.nrt h;erw[z.ns[z.to.length],zN0 hl,by rw[qS0,zN0 hl];rfl,6];have hm:=qP0 hl;let%[d0|d1]:=k.gk.deg _ hm;erw[d0,d1,6];have t0:z.ts≠[]:=λe=>by have:=k.gk.t1;rw[e]at this;cases this
 have:=oO (p:=401) (x:=z.ns[z.to.length]) t0 λt ht=>by
  have h1:=(k.gk.tok t ht).2.2.2;have h2:=t.names_len;have h3:=List.count_le_length (a:=z.ns[z.to.length]) (l:=t.names);omega
 omega
theorem AkOk.row(k:AkOk z)(h:0<z.nr):Bi z.tru z.p:=by
 let%[x,hx,ex,d0,d1|d4]:=k.deg h;have p2:=k.p0;have p9:=k.gk.p9;have e:z.tru=iL z.ns z.ts z.s z.p z.to (bL z.ts x+1).toNat:=by
  unfold Ak.tru;rw[zB0 #[0],ex]
 rw[e];unfold Bi;rw[zF];erw[3,3,3,λj=>?_]
 have:=sZ (zE (ns:=z.ns) (ts:=z.ts) (s:=z.s) (cs:=z.to) (n:=(bL z.ts x+1).toNat) (show 0<z.p by omega)) #[0] j
 omega
inductive spTruths(CA CG:Addr)(vs:List V)(H:Hp)(Q:VK)(u_3:XK):Prop
 |mk:∀(k g v:Addr)(z:Ak)(ys:List V),vs=[.ref k]->AkAt CA CG H k g v z->AkOk z->H v=some (.lst ys)->(∀(l:Addr)(H':Hp),H' l=some (.lst (z.tru.map V.int))->AkAt CA CG H' k g v z->SameBut k H H'->Q (.ref l) H')->spTruths CA CG vs H Q u_3
theorem uB:FnScope ["self"] ["self"] (ak lj):=%[1,1,1,4,1,4|4]
theorem vb   (F:Fun K "true_numbers" "Asking.true_numbers" lj f fd) (TA:ATxt K mg CA) (i3:Cal P w K mg base 16 "counts_of" ["game"] (spCounts CG)) (j9:Cal P w K mg base 14 "true_row" ["game","s","coins"] (spTrue CG)):FnOk P w K mg base CX0 17 f fd ["self"] (spTruths CA CG):=by
 exists uB
 erw[k,g,v,z,ys,1,AK,ok,hv,q]at h;refine⟨_,(aa (aB (af DP (az (pv 0) rfl) zT (ai _)) (ad (aB (af aI (az (pv 0) rfl) ac (ai _)) (ad (bd (pv 0) (ag i3 hr ⋯ rfl %[az (pv 0) rfl|aH]) rfl)) (ad (bd (pv 0) (ag j9 hr ⋯ rfl %[az (pv 0) rfl,az (pv 0) rfl,az (pv 0) rfl|aH]) rfl)))) av)
  (ad (ao (az (pv 0) rfl)))),?_⟩
 have AK':=AK;erw[dk,aT,a,b,d,tv,tr,hk,GA,ha,hb,TS,hd,dv,hT,ht]at AK';have t0:z.ts≠[]:=λe=>by have:=ok.gk.t1;rw[e]at this;cases this
 have t10:=ok.gk.t10;have p2:=ok.p0;have p9:=ok.gk.p9;erw[0,k,CA,dk,_,0,hk,TA.cl,TA.nR,CD,6];rcases ht with rfl | ⟨l,rfl,lv,hl⟩
 . -- not yet asked
   have put:∀(l:Addr)(H1:Hp),H l=none->Same H H1->H1 l=some (.lst (z.tru.map V.int))->AkAt CA CG (upd H1 k (.ins CA dk (al g z.nr z.mn z.hd z.s aT (.ref l)))) k g v z/\(upd H1 k (.ins CA dk (al g z.nr z.mn z.hd z.s aT (.ref l)))) l=some (.lst (z.tru.map V.int))/\SameBut k H (upd H1 k (.ins CA dk (al g z.nr z.mn z.hd z.s aT (.ref l)))):=by
    intro l H1 l0 S1 hl;have lk:l≠k:=(aN hk l0).symm;have U:∀{c:Addr}{o:HO},c≠k->H1 c=some o->(upd H1 k (.ins CA dk (al g z.nr z.mn z.hd z.s aT (.ref l)))) c=some o:=λn e=>by rw[aq n];exact e
    have gk:g≠k:=λe=>by
     erw[dg,hg]at GA;rw[e,hk]at hg;cases hg
    have kT:bY H (upd H1 k (.ins CA dk (al g z.nr z.mn z.hd z.s aT (.ref l)))):=λc xs e=>U (aZ e hk (by intro z;cases z)) (S1 _ _ e)
    erw[dg,hg]at GA;erw[%[dk,aT,a,b,d,tv,.ref l,aC,%[dg|U gk (S1 _ _ hg)],kT _ _ ha,kT _ _ hb,TS.mono kT,U (aZ hd hk (by intro z;cases z)) (S1 _ _ hd),dv,kT _ _ hT|.inr %[l,1,(aN hv l0).symm|U lk hl]],U lk hl,(zK0 S1).trans (SameBut.upd _)]
   erw[1,0,du ?_];erw[0,k,CA,dk,_,0,hk,TA.cl,TA.nN,EK,1,0,6]
   by_cases c:z.nr=0
   . refine aR (congrArg V.int c) ?_;erw[0,k,CA,dk,_,0,hk,TA.cl,TA.nG,rM,g,a,b,d,z.ns,tv,z.ts,z.p,1,GA,ha,ok.n6,hb,TS,t10,λt ht=>%[(ok.gk.tok t ht).1|by have:=(ok.gk.tok t ht).2.2.1;omega],λl H1 l0 S1 hl=>?_];have et:z.tru=z.ts.map (λt=>(cnt t z.ns:Int)):=zE0 c;rw[←et]at hl;let%[A1,L1|B1]:=put l H1 l0 S1 hl;erw[0,k,CA,dk,0,S1 _ _ hk,TA.cl,TA.nR,Bg,6];rw[Bf];erw[0,k,CA,dk,_,0,aC,TA.cl,TA.nR,CD,q l _ L1 A1 B1]
   . refine ax (λe=>c (V.int.inj e)) ?_;have n0:=ok.nr0;let%[x,hx,ex,d0,d1|d4]:=ok.deg #[0];erw[0,k,CA,dk,_,0,hk,TA.cl,TA.nG,rM,0,k,CA,dk,_,0,hk,TA.cl,TA.nS,al_s,0,k,CA,dk,_,0,hk,TA.cl,TA.nT,al_t,g,a,b,d,aT,z.ns,tv,z.ts,z.to,x,z.s,z.p,1,GA,ha,ok.n6,hb,TS,t0,t10,λt ht=>%[(ok.gk.tok t ht).1|(ok.gk.tok t ht).2.2.1],hd,hT,hx,d1,3,ok.po,3,3,λl H1 l0 S1 hl=>?_];have et:z.tru=iL z.ns z.ts z.s z.p z.to (bL z.ts x+1).toNat:=by
      unfold Ak.tru;rw[zB0 c,ex]
     rw[←et]at hl;let%[A1,L1|B1]:=put l H1 l0 S1 hl;erw[0,k,CA,dk,0,S1 _ _ hk,TA.cl,TA.nR,Bg,6];rw[Bf];erw[0,k,CA,dk,_,0,aC,TA.cl,TA.nR,CD,q l _ L1 A1 B1]
 . erw[1,0,cG ?_];erw[0,k,CA,dk,_,0,hk,TA.cl,TA.nR,CD,q l H hl AK (SameBut.refl _ _)]
inductive spTrueAt(CA CG:Addr)(vs:List V)(H:Hp)(Q:VK)(u_3:XK):Prop
 |mk:∀(k g v:Addr)(z:Ak)(ys:List V)(i:Int),vs=[.ref k,.int i]->AkAt CA CG H k g v z->AkOk z->H v=some (.lst ys)->0<=i->i<z.p->(∀H',AkAt CA CG H' k g v z->SameBut k H H'->Q (.int (dG z i)) H')->spTrueAt CA CG vs H Q u_3
theorem D3:FnScope ["self","place","truths"] ["self","place"] (ak qI):=%[1,1,1,4,1,4|4]
theorem Ai   (F:Fun K "true_at" "Asking.true_at" qI f fd) (B:Bl mg) (TA:ATxt K mg CA) (TG:GTxt K mg CG) (mT:Meth K CA "true_numbers" fT) (GT:FnOk P w K mg base CX0 17 fT fdT ["self"] (spTruths CA CG)) (bT:Binds K fdT ["self"] []) (kg:Cal P w K mg base 4 "value_at" ["values","r","p"] spVal):FnOk P w K mg base CX0 18 f fd ["self","place"] (spTrueAt CA CG):=by
 exists D3
 erw[k,g,v,z,ys,i,1,AK,ok,hv,i0,i1,q]at h;refine⟨_,(aa #[am,2,D3,gi (pv 0) TA.cl mT GT hr bT .nil bh]
  (aa (aB (af gY (az (pv 0) rfl) ac (ai _)) (ad (ao (ag kg hr ⋯ rfl %[2,1,az (az (pv 0) rfl) rfl|aH]))) av)
  (aa (aB (af cN (pv 1) (aD aE rfl B.len PySem.boot_len %[2|aH]) (ai _)) (ad (ao (aj aO (ay ix_list (pv 2) (pv 1) (λ_ _=>rfl)) (az (az (pv 0) rfl) rfl)))) av)
  (ad (ao ac))))),?_⟩
 have p2:=ok.p0;have p9:=ok.gk.p9;let%[dk,aT,_,_,_,_,tr,hk|_]:=id AK;erw[0,k,dk,0,hk,al_n3,k,g,v,z,ys,1,AK,ok,hv,λl H1 hl A1 S1=>?_];have A1':=A1;erw[dk1,aT1,a1,b1,d1,tv1,tr1,hk1,%[dg1|hg1],_]at A1';unfold dG at q;erw[0,k,CA,dk1,_,0,hk1,TA.cl,TA.nN,EK,2,0,6]
 by_cases c:0<z.nr
 . rw[zE0 c]at q;refine aR c ?_;erw[0,0,0,k,CA,dk1,_,0,hk1,TA.cl,TA.nG,rM,g,CG,dg1,_,0,hg1,TG.cl,TG.nF,jJ ..,l,z.tru,i,z.p,1,.inl hl,ok.row c,ok.gk.pr,p9,i0,i1,λH2 S2=>q H2 (A1.same S2) (S1.trans (zK0 S2))]
 . rw [zB0 c]at q;refine ax c ?_;erw[0,0,l,0,.inl (zF0 hl),2,0,6];have el:((z.tru.map V.int).length:Int)=(z.tru.length:Int):=by rw[zH0]
   by_cases c2:i<(z.tru.length:Int)
   . rw[zE0 c2]at q;refine aR (by rw[el];exact c2) ?_;let%[j|1]:=Int.eq_ofNat_of_zero_le i0;rw[qQ0]at q;erw[0,0,l,_,2,zF0 hl,wz #[0],0,k,CA,dk1,_,0,hk1,TA.cl,TA.nG,rM,g,CG,dg1,_,0,hg1,TG.cl,TG.nF,jJ ..,2,(by show 0<z.p;omega),q H1 A1 S1]
   . rw[zB0 c2]at q;refine ax (by rw[el];exact c2) ?_;exact q H1 A1 S1
noncomputable def Tm.worth(z:Ak)(bx:Str->Int):Tm->Int
 | .num n=>n % z.p | .box x=>bx x | .plain w=>lp z w
 | .ask w a=>if w="coin" then jo z (a.worth z bx)else dG z (a.worth z bx)
 | .op s a b=>opV z.p s (a.worth z bx) (b.worth z bx)
def Tm.good:Tm->Prop
 | .num _=>True | .box _=>True | .plain w=>w∈plainW | .ask w a=>w∈askW/\a.good | .op s a b=>s∈signW/\a.good/\b.good
def dN(p:Int)(bx:Str->Int):Prop:=∀x,0<=bx x/\bx x<p
theorem Tm.worth_rng(k:AkOk z)(hb:dN z.p bx):∀t:Tm,0<=t.worth z bx/\t.worth z bx<z.p
 | .num n=>by have:=k.p0;erw[qA0 _ #[0],qF0 _ #[0]]
 | .box x=>hb x
 | .plain w=>uL k w
 | .ask w a=>by
   show 0<=(if w="coin" then jo z (a.worth z bx)else dG z (a.worth z bx))/\(if w="coin" then jo z (a.worth z bx)else dG z (a.worth z bx))<z.p
   split
   . exact yA k _
   . exact wU k _
 | .op s a b=>by have:=k.p0;exact BT #[0]
inductive spTm(CA CG:Addr)(n:Nat)(vs:List V)(H:Hp)(Q:VK)(u_3:XK):Prop
 |mk:∀(v:V)(t:Tm)(b k g sd:Addr)(z:Ak)(ys:List V)(bx:Str->Int)(m:Nat),vs=[v,.ref b,.ref k]->TmAt H v t->t.good->t.depth<=n->BxAt H b bx m->dN z.p bx->AkAt CA CG H k g sd z->AkOk z->H sd=some (.lst ys)->(∀H',AkAt CA CG H' k g sd z->SameBut k H H'->Q (.int (t.worth z bx)) H')->spTm CA CG n vs H Q u_3
theorem f6:FnScope ["term","boxes","asking","word","first","second"] ["term","boxes","asking"] (ak im):=%[1,1,1,4,1,4|4]
structure AskF(P:Program)(w:World)(K:W.Frag)(mg:Str->Option Value)(base:Heap)(CA CG fP fC fR:Addr)(fdP fdC fdR:FuncData):Prop where
 mP:Meth K CA "plain_value" fP
 GP:FnOk P w K mg base CX0 1 fP fdP ["self","word"] (spPlain CA CG)
 bP:Binds K fdP ["self","word"] []
 mC:Meth K CA "coin_at" fC
 GC:FnOk P w K mg base CX0 1 fC fdC ["self","place"] (spCoinAt CA CG)
 bC:Binds K fdC ["self","place"] []
 mR:Meth K CA "true_at" fR
 GR:FnOk P w K mg base CX0 18 fR fdR ["self","place"] (spTrueAt CA CG)
 bR:Binds K fdR ["self","place"] []
theorem yJ {n:Nat}   (F:Fun K "value_of" "value_of" im f fd) (TA:ATxt K mg CA) (TG:GTxt K mg CG) (M:AskF P w K mg base CA CG fP fC fR fdP fdC fdR) (ef:Cal P w K mg base 3 "op_value" ["sign","first","second","p"] spOp) (bw:Cal P w K mg base (n+18) "value_of" ["term","boxes","asking"] (spTm CA CG n)):FnOk P w K mg base CX0 (n+19) f fd ["term","boxes","asking"] (spTm CA CG (n+1)):=by
 exists f6
 erw[v,t,b,k,g,sd,z,ys,bx,m,1,T,tg,td,BX,bo,AK,ok,hs,q]at h;have hu:=AJ hr;have hr1:Room 1 _:=hr.mono #[0];have hr18:Room 18 _:=hr.mono #[0];refine⟨_,(aa #[am,3,f6,ay aF (pv 0) ac (λ_ _=>rfl)]
  (aa (aB (af aI (pv 3) au (ai _)) (ad (ao (aj aO (ay aF (pv 0) ac (λ_ _=>rfl)) (az (az (pv 2) rfl) rfl)))) av)
  (aa (aB (af aI (pv 3) au (ai _)) (ad (ao (zW hu (pv 1) (ay aF (pv 0) ac (λ_ _=>rfl)) ac %[1,1,1|1]))) av)
  (aa (aB (af aI (pv 3) au (ai _)) (ad (ao (bq (pv 2) TA.cl M.mC M.GC hr1 M.bC .nil bh %[ag bw hr (zG0 _) rfl %[ay aF (pv 0) ac (λ_ _=>rfl),1,2|aH]|aH]))) av)
  (aa (aB (af aI (pv 3) au (ai _)) (ad (ao (bq (pv 2) TA.cl M.mR M.GR hr18 M.bR .nil bh %[ag bw hr (zG0 _) rfl %[ay aF (pv 0) ac (λ_ _=>rfl),1,2|aH]|aH]))) av)
  (aa (aB (af aI (pv 3) au (ai _)) (aa #[am,4,f6,ag bw hr (zG0 _) rfl %[ay aF (pv 0) ac (λ_ _=>rfl),1,2|aH]]
   (aa #[am,5,f6,ag bw hr (zG0 _) rfl %[ay aF (pv 0) ac (λ_ _=>rfl),1,2|aH]]
   (ad (ao (ag ef hr #[0] rfl %[ay aF (pv 0) ac (λ_ _=>rfl),4,5,az (az (pv 2) rfl) rfl|aH]))))) av)
  (ad (ao (bq (pv 2) TA.cl M.mP M.GP hr1 M.bP .nil bh %[3|aH]))))))))),?_⟩
 have AK':=AK;erw[dk,aT,ga,gb,gd,tv,tr,hk,%[dg|hg],_]at AK';have p2:=ok.p0;have p0:0<z.p:=by omega
 have kT:∀{H':Hp},SameBut k H H'->bY H H':=λs c xs e=>s _ _ (aZ e hk (by intro z;cases z)) e
 have kB:∀{H':Hp},SameBut k H H'->BxAt H' b bx m:=λs=>BX.keep λo e=>s _ _ (by
  erw[kvs,e',_]at BX;exact aZ e' hk (by intro z;cases z)) e
 have kS:∀{H':Hp},SameBut k H H'->H' sd=some (.lst ys):=λs=>s _ _ (aZ hs hk (by intro z;cases z)) hs
 cases T with
 | @num a n e=>
   erw[0,a,_,(0),0,1,zD0 e,1,6];erw[0,1,0,aR rfl ?_];erw[0,a,_,(1),0,1,zD0 e,1,0,k,CA,dk,_,0,hk,TA.cl,TA.nG,rM,g,CG,dg,_,0,hg,TG.cl,TG.nF,jJ ..,2,p0,q H AK (SameBut.refl _ _)]
 | @box a x e=>
   erw[0,a,_,(0),0,1,zD0 e,1,6];erw[0,1,0,ax (neS ⋯) ?_];erw[0,1,0,aR rfl ?_];erw[kvs,hb,_,hx]at BX;erw[0,b,1,.inl %[kvs|.inl hb],0,a,_,(1),0,1,zD0 e,1,_,DGet.k (k:=.inr x) hb,6];rw[hx];exact q H AK (SameBut.refl _ _)
 | @plain a wd e=>
   have no:∀x:Str,x∉plainW->¬ V.str wd=V.str x:=λx hx e=>hx (by rw[←V.str.inj e];exact tg)
   erw[0,a,_,(0),0,1,zD0 e,1,6];erw[0,1,0,ax (no _ ⋯) ?_];erw[0,1,0,ax (no _ ⋯) ?_];erw[0,1,0,ax (no _ ⋯) ?_];erw[0,1,0,ax (no _ ⋯) ?_];erw[0,1,0,ax (no _ ⋯) ?_];erw[0,k,dk,0,hk,al_n1,0,k,g,sd,z,wd,1,AK,p0,q H AK (SameBut.refl _ _)]
 | @ask a wd v1 t1 e T1=>
   erw[wq,tq]at tg;have hw:wd="coin"∨wd="true":=by simpa [askW]using wq
   have d1:t1.depth<=n:=by have:t1.depth+1<=n+1:=td;omega
   have wr:=Tm.worth_rng ok bo t1;erw[0,a,_,(0),0,1,zD0 e,1,6];rcases hw with rfl | rfl
   . erw[0,1,0,ax (neS ⋯) ?_];erw[0,1,0,ax (neS ⋯) ?_];erw[0,1,0,aR rfl ?_];erw[0,k,dk,0,hk,al_n2,0,a,_,(1),0,1,zD0 e,1,0,0,v1,t1,b,k,g,sd,z,ys,bx,m,1,T1,tq,d1,BX,bo,AK,ok,hs,λH1 A1 S1=>?_];erw[k,g,sd,z,0,A1,ok.tl,λH2 S2=>?_];have qq:=q H2 (A1.same S2) (S1.trans (zK0 S2));have e1:(Tm.ask "coin" t1).worth z bx=jo z (t1.worth z bx):=zE0 rfl;rw[e1]at qq;exact qq
   . erw[0,1,0,ax (neS ⋯) ?_];erw[0,1,0,ax (neS ⋯) ?_];erw[0,1,0,ax (neS ⋯) ?_];erw[0,1,0,aR rfl ?_];erw[0,k,dk,0,hk,al_n4,0,a,_,(1),0,1,zD0 e,1,0,0,v1,t1,b,k,g,sd,z,ys,bx,m,1,T1,tq,d1,BX,bo,AK,ok,hs,λH1 A1 S1=>?_];erw[k,g,sd,z,ys,0,A1,ok,kS S1,wr.1,wr.2,λH2 A2 S2=>?_];have qq:=q H2 A2 (S1.trans S2);have e1:(Tm.ask "true" t1).worth z bx=dG z (t1.worth z bx):=zB0 ⋯;rw[e1]at qq;exact qq
 | @op a o v1 v2 t1 t2 e T1 T2=>
   erw[oq,q1,q2]at tg;have d1:t1.depth<=n:=by have:max t1.depth t2.depth+1<=n+1:=td;omega
   have d2:t2.depth<=n:=by have:max t1.depth t2.depth+1<=n+1:=td;omega
   have w1:=Tm.worth_rng ok bo t1;have w2:=Tm.worth_rng ok bo t2;erw[0,a,_,(0),0,1,zD0 e,1,6];erw[0,1,0,ax (neS ⋯) ?_];erw[0,1,0,ax (neS ⋯) ?_];erw[0,1,0,ax (neS ⋯) ?_];erw[0,1,0,ax (neS ⋯) ?_];erw[0,1,0,aR rfl ?_];erw[0,a,_,(2),0,1,zD0 e,1,0,0,v1,t1,b,k,g,sd,z,ys,bx,m,1,T1,q1,d1,BX,bo,AK,ok,hs,λH1 A1 S1=>?_];have e1:=kT S1 _ _ e;erw[0,a,_,(3),0,1,zD0 e1,1,0,0,v2,t2,b,k,g,sd,z,ys,bx,m,1,T2.mono (kT S1),q2,d2,kB S1,bo,A1,ok,kS S1,λH2 A2 S2=>?_];have e2:=kT (S1.trans S2) _ _ e;let%[dk2,aT2,_,_,_,_,tr2,hk2,%[dg2|hg2]|_]:=id A2;erw[0,a,_,(1),0,1,zD0 e2,1,0,0,0,k,CA,dk2,_,0,hk2,TA.cl,TA.nG,rM,g,CG,dg2,_,0,hg2,TG.cl,TG.nF,jJ ..,o,_,_,z.p,1,oq,ok.gk.pr,ok.gk.p9,w1.1,w1.2,w2.1,w2.2,q H2 A2 (S1.trans S2)]
theorem yI  :FnOk P w K mg base CX0 18 f fd ["term","boxes","asking"] (spTm CA CG 0):=by
 have no:∀vs H Q E,¬ spTm CA CG 0 vs H Q E:=λvs H Q E h=>by
  erw[v,t,_,_,_,_,_,_,_,_,_,_,_,h1,_]at h
  have:=t.depth_pos
  omega
 erw[λvs H Q E h=>absurd h (no vs H Q E),λA outer s H args us vs Q E _ _ _ _ h=>absurd h (no vs H Q E)]
theorem lP   (F:Fun K "value_of" "value_of" im f fd) (m:mg "value_of"=some (.ref f)) (TA:ATxt K mg CA) (TG:GTxt K mg CG) (M:AskF P w K mg base CA CG fP fC fR fdP fdC fdR) (ef:Cal P w K mg base 3 "op_value" ["sign","first","second","p"] spOp) :
 ∀n:Nat,FnOk P w K mg base CX0 (n+18) f fd ["term","boxes","asking"] (spTm CA CG n)
 | 0=>yI
 | n+1=>yJ F TA TG M ef (Cal.of F (lP F m TA TG M ef n) m (λ_ _ _ _ _ _ us hl=>by let%[u0,u1,u2|1]:=Ed hl;rfl))
end
section
variable {CM CA CG:Addr}
structure MS where
 pl:Int
 bx:Str->Int
 sd:List Int
noncomputable def CT(z:Ak)(len:Int)(s:MS):Hr->MS
 | .fin=>%[len,s.bx|s.sd]
 | .go n=>%[n,s.bx|s.sd]
 | .iff t n=>%[if t.worth z s.bx=0 then s.pl+1 else n,s.bx|s.sd]
 | .set x t=>%[s.pl+1,iK s.bx x (t.worth z s.bx)|s.sd]
 | .say t=>%[s.pl+1,s.bx|s.sd++[t.worth z s.bx]]
noncomputable def dI(z:Ak)(rows:List Hr)(s:MS):MS:=match rows[s.pl.toNat]? with
 | some r=>CT z rows.length s r
 | none=>s
noncomputable def jU(z:Ak)(rows:List Hr):Nat->MS->MS
 | 0,s=>s
 | n+1,s=>if s.pl<(rows.length:Int)/\(s.sd.length:Int)<z.mn then jU z rows n (dI z rows s)else s
def qR(mn:Int)(sd:List Int):List Int:=sd++List.replicate (mn-(sd.length:Int)).toNat 0
def Hr.good:Hr->Prop
 | .fin=>True | .go n=>0<=n | .iff t n=>t.good/\t.depth<=8/\0<=n | .set _ t=>t.good/\t.depth<=8 | .say t=>t.good/\t.depth<=8
theorem yZ{rows:List Hr}(hq:∀r∈rows,r.good){s:MS}(h:0<=s.pl):0<=(dI z rows s).pl:=by
 unfold dI;cases e:rows[s.pl.toNat]? with
 | none=>exact h
 | some r=>
   have q:=hq r (qI0 e);cases r with
   | fin=>exact Int.natCast_nonneg _
   | go n=>exact q
   | iff t n=>
     show 0<=if t.worth z s.bx=0 then s.pl+1 else n
     by_cases c:t.worth z s.bx=0
     . rw[zE0 c];omega
     . rw[zB0 c];exact q.2.2
   | set x t=>show 0<=s.pl+1;omega
   | say t=>show 0<=s.pl+1;omega
theorem rV:(dI z rows s).sd.length<=s.sd.length+1:=by
 unfold dI;cases e:rows[s.pl.toNat]? with
 | none=>exact qL0 _
 | some r=>
   cases r with
   | fin=>exact qL0 _
   | go n=>exact qL0 _
   | iff t n=>exact qL0 _
   | set x t=>exact qL0 _
   | say t=>show(s.sd++[_]).length<=_;rw[zJ0];exact zG0 _
theorem Bd{n:Int}(h:dN p bx)(h0:0<=n)(h1:n<p):dN p (iK bx x n):=λy=>by
 unfold iK
 split
 . erw[h0,h1]
 . exact h y
theorem mN{s:MS}(k:AkOk z)(h:dN z.p s.bx)(hs:gq s.sd z.p):dN z.p (dI z rows s).bx/\gq (dI z rows s).sd z.p:=by
 unfold dI;cases e:rows[s.pl.toNat]? with
 | none=>erw[h,hs]
 | some r=>
   cases r with
   | fin=>erw[h,hs]
   | go n=>erw[h,hs]
   | iff t n=>erw[h,hs]
   | set x t=>
     have w:=Tm.worth_rng k h t;erw[Bd h w.1 w.2,hs]
   | say t=>
     have w:=Tm.worth_rng k h t;erw[h,λy hy=>?_];rcases qD0 hy with hy | hy
     . exact hs y hy
     . rw[zM0 hy];exact w
theorem vW(k:AkOk z):∀(n:Nat)(s:MS),dN z.p s.bx->gq s.sd z.p->(s.sd.length:Int)<=z.mn->dN z.p (jU z rows n s).bx/\gq (jU z rows n s).sd z.p/\((jU z rows n s).sd.length:Int)<=z.mn
 | 0,s,h,hs,hl=>%[h,hs|hl]
 | n+1,s,h,hs,hl=>by
   show dN z.p (if _ then _ else _:MS).bx/\gq (if _ then _ else _:MS).sd z.p/\((if _ then _ else _:MS).sd.length:Int)<=z.mn
   by_cases c:s.pl<(rows.length:Int)/\(s.sd.length:Int)<z.mn
   . rw [zE0 c];let%[h1|h2]:=mN (rows:=rows) k h hs
     have:=rV (z:=z) (rows:=rows) (s:=s)
     exact vW k n _ h1 h2 #[0]
   . rw[zB0 c];erw[h,hs,hl]
def RowsAt(H:Hp)(rv:List V)(rows:List Hr):Prop:=rv.length=rows.length/\∀(i:Nat)(v:V)(r:Hr),rv[i]?=some v->rows[i]?=some r->HrAt H v r
theorem RowsAt.mono(h:RowsAt H rv rows)(k:bY H H'):RowsAt H' rv rows:=%[h.1|λi v r h1 h2=>(h.2 i v r h1 h2).mono k]
def But2(b c:Addr)(H H':Hp):Prop:=∀a o,a≠b->a≠c->H a=some o->H' a=some o
theorem BxAt.le{n:Nat}(h:BxAt H b bx m)(k:m<=n):BxAt H b bx n:=by
 erw[kvs,e,l,r]at h;erw[kvs,e,zQ0 l k,r]
def But3(b c d:Addr)(H H':Hp):Prop:=∀a o,a≠b->a≠c->a≠d->H a=some o->H' a=some o
theorem But3.trans(x:But3 b c d H H1)(y:But3 b c d H1 H2):But3 b c d H H2:=λa o h1 h2 h3 e=>y a o h1 h2 h3 (x a o h1 h2 h3 e)
inductive spRowM(CM CA CG:Addr)(vs:List V)(H:Hp)(Q:VK)(u_3:XK):Prop
 |mk:∀(M g h b dm k sd:Addr)(rv:List V)(r pl:Int)(z:Ak)(rows:List Hr)(bx:Str->Int)(m:Nat)(said:List Int),vs=[.ref M,.int pl,.ref sd,.ref k]->H M=some (.ins CM dm (ml g h r b))->M≠k->H h=some (.tup rv)->RowsAt H rv rows->(∀r∈rows,r.good)->0<=pl->pl<(rows.length:Int)->BxAt H b bx m->dN z.p bx->m<=10000->H sd=some (.lst (said.map V.int))->said.length<=900->AkAt CA CG H k g sd z->AkOk z->(∀H',H' sd=some (.lst ((dI z rows ⟨pl,bx,said⟩).sd.map V.int))->BxAt H' b (dI z rows ⟨pl,bx,said⟩).bx (m+1)->AkAt CA CG H' k g sd z->But3 b sd k H H'->Q (.int (dI z rows ⟨pl,bx,said⟩).pl) H')->spRowM CM CA CG vs H Q u_3
theorem A3:FnScope ["self","place","said","asking","row","word"] ["self","place","said","asking"] (ak uE):=%[1,1,1,4,1,4|4]
theorem BW   (F:Fun K "do_row" "Machine.do_row" uE f fd) (B:Bl mg) (TM:MTxt K mg CM) (bw:Cal P w K mg base 26 "value_of" ["term","boxes","asking"] (spTm CA CG 8)):FnOk P w K mg base CX0 27 f fd ["self","place","said","asking"] (spRowM CM CA CG):=by
 exists A3
 erw[M,g,h,b,dm,k,sd,rv,rn,pl,z,rows,bx,m,said,1,hM,nMk,hh,RW,rq,pl0,pl1,BX,bo,m1,hsd,sl,AK,ok,q]at h;have hu:=AJ hr;refine⟨_,(aa #[am,4,A3,ay aF (az (pv 0) rfl) (pv 1) (λ_ _=>rfl)]
  (aa #[am,5,A3,ay aF (pv 4) ac (λ_ _=>rfl)]
  (aa (aB (af aI (pv 5) au (ai _)) (ad (ao (aD aE rfl B.len PySem.boot_len %[az (pv 0) rfl|aH]))) av)
  (aa (aB (af aI (pv 5) au (ai _)) (ad (ao (ay aF (pv 4) ac (λ_ _=>rfl)))) av)
  (aa (aB (af aI (pv 5) au (ai _)) (ad (BK hu (az (pv 0) rfl) (ay aF (pv 4) ac (λ_ _=>rfl)) (ag bw hr ⋯ rfl %[ay aF (pv 4) ac (λ_ _=>rfl),az (pv 0) rfl,3|aH]) rfl)) (ad (aB (af aI (pv 5) au (ai _)) (ad (ba (dq PySem.F.plainAttrs_list PySem.F.slot_list_append PySem.F.type_list_append bU (pv 2) %[ag bw hr ⋯ rfl %[ay aF (pv 4) ac (λ_ _=>rfl),az (pv 0) rfl,3|aH]|aH]))) (ad (aB (af ji (ag bw hr ⋯ rfl %[ay aF (pv 4) ac (λ_ _=>rfl),az (pv 0) rfl,3|aH]) ac (ai _)) (ad (ao (ay aF (pv 4) ac (λ_ _=>rfl)))) av)))))
  (ad (ao (aj aQ (pv 1) ac)))))))),?_⟩
 let%[i|1]:=Int.eq_ofNat_of_zero_le pl0;have hi:i<rows.length:=by omega
 have hi':i<rv.length:=by rw[RW.1];exact hi
 have er:rows[i]?=some rows[i]:=zN0 hi;have ev:rv[i]?=some rv[i]:=zN0 hi';have RA:=RW.2 i _ _ ev er;have rqi:=rq _ (qP0 hi);have hst:dI z rows %[(i:Int),bx|said]=CT z rows.length ⟨(i:Int),bx,said⟩ rows[i]:=by
  unfold dI;rw[show((%[(i:Int),bx|said]:MS).pl.toNat)=i from qQ0 i,er]
 rw[hst]at q;generalize rows[i]=row at RA rqi q er hst;have at_:atI rv (i:Int)=some rv[i]:=db ev;generalize rv[i]=v at RA at_ ev;erw[0,M,CM,dm,_,0,hM,TM.cl,TM.nH,Ea,0,h,_,_,v,1,1,zD0 hh,at_,6];have K0:But3 b sd k H H:=λ_ _ _ _ _ e=>e
 have nBS:sd≠b:=by
  erw[kvs,e,_]at BX;exact aZ hsd e (by intro z;cases z)
 let%[kvs,hb,kl|hx]:=id BX;let%[dk,_,_,_,_,_,_,hk|_]:=id AK;have kT:∀{H':Hp},SameBut k H H'->bY H H':=λs c xs e=>s _ _ (aZ e hk (by intro z;cases z)) e
 have nbk:b≠k:=aZ hb hk (by intro z;cases z);have nsk:sd≠k:=aZ hsd hk (by intro z;cases z);cases RA with
 | @fin a e=>
   erw[0,a,_,(0),0,1,zD0 e,1,6];erw[0,1,0,aR rfl ?_];erw[0,M,CM,dm,_,0,hM,TM.cl,TM.nH,Ea,h,0,.inr (zD0 hh),6];rw[RW.1];exact q H hsd (BX.le (qL0 _)) AK K0
 | @go a n e=>
   erw[0,a,_,(0),0,1,zD0 e,1,6];erw[0,1,0,ax (neS ⋯) ?_];erw[0,1,0,aR rfl ?_];erw[0,a,_,(1),0,1,zD0 e,1,q H hsd (BX.le (qL0 _)) AK K0]
 | @iff a u t n e T=>
   erw[0,a,_,(0),0,1,zD0 e,1,6];erw[0,1,0,ax (neS ⋯) ?_];erw[0,1,0,ax (neS ⋯) ?_];erw[0,1,0,ax (neS ⋯) ?_];erw[0,1,0,ax (neS ⋯) ?_];erw[0,a,_,(1),0,1,zD0 e,1,0,M,CM,dm,_,0,hM,TM.cl,TM.nB,Cg,0,u,t,b,k,g,sd,z,_,bx,m,1,T,rqi.1,rqi.2.1,BX,bo,AK,ok,hsd,λH1 A1 S1=>?_];erw[1,0,6];have q':∀H',H' sd=some (.lst (said.map V.int))->BxAt H' b bx (m+1)->AkAt CA CG H' k g sd z->But3 b sd k H H'->Q (.int (if t.worth z bx=0 then(i:Int)+1 else n)) H':=q
   have q1:=q' H1 (S1 _ _ nsk hsd) ((BX.keep λo e=>S1 _ _ nbk e).le (qL0 _)) A1 (λc o _ _ h3 e=>S1 _ _ h3 e)
   by_cases c:t.worth z bx=0
   . rw[zE0 c]at q1;refine Dc (congrArg V.int c) ?_;erw[0,2,q1]
   . rw[zB0 c]at q1;refine Ej (λz=>c (V.int.inj z)) ?_;erw[0,a,_,(2),0,1,zD0 (kT S1 _ _ e),1,q1]
 | @set a x u t e T=>
   erw[0,a,_,(0),0,1,zD0 e,1,6];erw[0,1,0,ax (neS ⋯) ?_];erw[0,1,0,ax (neS ⋯) ?_];erw[0,1,0,aR rfl ?_];erw[0,a,_,(2),0,1,zD0 e,1,0,M,CM,dm,_,0,hM,TM.cl,TM.nB,Cg,0,u,t,b,k,g,sd,z,_,bx,m,1,T,rqi.1,rqi.2,BX,bo,AK,ok,hsd,λH1 A1 S1=>?_];have hb1:=S1 _ _ nbk hb;have hs1:=S1 _ _ nsk hsd;erw[0,M,CM,dm,_,0,S1 _ _ nMk hM,TM.cl,TM.nB,Cg,0,a,_,(1),0,1,zD0 (kT S1 _ _ e),1,b,0,DPut.k (k:=.inr x) hb1 ?_,6]
   . exact Nat.lt_of_le_of_lt kl (Nat.lt_of_le_of_lt m1 ⋯)
   erw[0,2,6];refine q _ ?_ ⟨_,aC,zQ0 (gD _ _ _) (Nat.succ_le_succ kl),EH x _ hx⟩ (A1.but2 hb1 hs1 λc o h1 _ e=>by rw[aq h1];exact e) (λc o h1 _ h3 e=>by rw[aq h1];exact S1 _ _ h3 e);rw[aq nBS];exact hs1
 | @say a u t e T=>
   erw[0,a,_,(0),0,1,zD0 e,1,6];erw[0,1,0,ax (neS ⋯) ?_];erw[0,1,0,ax (neS ⋯) ?_];erw[0,1,0,ax (neS ⋯) ?_];erw[0,1,0,aR rfl ?_];erw[0,.inl %[1,_|zF0 hsd],6];erw[0,a,_,(1),0,1,zD0 e,1,0,M,CM,dm,_,0,hM,TM.cl,TM.nB,Cg,0,u,t,b,k,g,sd,z,_,bx,m,1,T,rqi.1,rqi.2,BX,bo,AK,ok,hsd,λH1 A1 S1=>?_];have hb1:=S1 _ _ nbk hb;have hs1:=S1 _ _ nsk hsd;erw[sd,2,hs1,6,6]
   . rw[zH0];exact aM #[0]
   erw[0,2,6];refine q _ ?_ ((BX.keep λo e=>by rw[aq nBS.symm];exact S1 _ _ nbk e).le (qL0 _)) (A1.but2 hb1 hs1 λc o _ h2 e=>by rw[aq h2];exact e) (λc o _ h2 h3 e=>by rw[aq h2];exact S1 _ _ h3 e);rw[aC];show _=some (HO.lst ((said++[t.worth z bx]).map V.int));rw[zO0];rfl
end
section
variable {CM CA CG:Addr}
def m1 (g:Addr):List (Str×V):=[("game",.ref g)]
def m2 (g h:Addr):List (Str×V):=[("game",.ref g),("helper",.ref h)]
def m3 (g h:Addr):List (Str×V):=[("game",.ref g),("helper",.ref h),("next_round",.int 0)]
theorem pm1 {g:Addr}:bX "game" (.ref g) []=m1 g:=by rfl'
theorem pm2 {h:Addr}:bX "helper" (.ref h) (m1 g)=m2 g h:=by rfl'
theorem pm3 :bX "next_round" (.int 0) (m2 g h)=m3 g h:=by rfl'
theorem pm4 {b:Addr}:bX "boxes" (.ref b) (m3 g h)=ml g h 0 b:=by rfl'
inductive spMInit(CM:Addr)(vs:List V)(H:Hp)(Q:VK)(u_3:XK):Prop
 |mk:∀(M g h dm:Addr),vs=[.ref M,.ref g,.ref h]->H M=some (.ins CM dm [])->(∀(b:Addr)(H':Hp),H b=none->H' M=some (.ins CM dm (ml g h 0 b))->H' b=some (.dK [])->SameBut M H H'->Q .non H')->spMInit CM vs H Q u_3
theorem zw:FnScope ["self","game","helper"] ["self","game","helper"] (ak qF):=%[1,1,1,4,1,4|4]
theorem Af   (F:Fun K "__init__" "Machine.__init__" qF f fd) (T:MTxt K mg CM):FnOk P w K mg base CX0 1 f fd ["self","game","helper"] (spMInit CM):=by
 exists zw
 erw[M,g,h,dm,1,hM,q]at h;refine⟨_,(aa (bd (pv 0) (pv 1) rfl)
  (aa (bd (pv 0) (pv 2) rfl)
  (aa (bd (pv 0) ac rfl)
  (ad (bd (pv 0) zU rfl))))),?_⟩
 erw[0,0,M,CM,dm,0,hM,T.cl,T.nG,(by show 0<1000;decide),6];rw[pm1];erw[0,0,M,CM,dm,0,aC,T.cl,T.nH,(by show 1<1000;decide),6];rw[pm2];erw[0,M,CM,dm,0,aC,T.cl,T.nR,(by show 2<1000;decide),6];rw[pm3];have S3:SameBut M H (upd (upd (upd H M (.ins CM dm (m1 g))) M (.ins CM dm (m2 g h))) M (.ins CM dm (m3 g h))):=(SameBut.upd _).trans ((SameBut.upd _).trans (SameBut.upd _));have g3:upd (upd (upd H M (.ins CM dm (m1 g))) M (.ins CM dm (m2 g h))) M (.ins CM dm (m3 g h)) M=some (.ins CM dm (m3 g h)):=aC;generalize upd (upd (upd H M (.ins CM dm (m1 g))) M (.ins CM dm (m2 g h))) M (.ins CM dm (m3 g h))=H3 at S3 g3;intro b hb;have bM:b≠M:=(aN g3 hb).symm;erw[0,M,CM,dm,0,by rw[aq bM.symm];exact g3,T.cl,T.nB,(by show 3<1000;decide),6];rw[pm4];refine q b _ ?_ aC (by rw[aq bM];exact aC) (S3.trans ((zK0 (zC0 hb _)).trans (SameBut.upd _)));cases e:H b with
 | none=>rfl
 | some o=>rw[S3 b o bM e]at hb;cases hb
def a1 (g:Addr):List (Str×V):=[("game",.ref g)]
def a2 (g:Addr) (nr:Int):List (Str×V):=[("game",.ref g),("number",.int nr)]
def a3 (g:Addr) (nr mn:Int):List (Str×V):=[("game",.ref g),("number",.int nr),("many",.int mn)]
def a4 (g:Addr) (nr mn hd:Int):List (Str×V):=[("game",.ref g),("number",.int nr),("many",.int mn),("held",.int hd)]
def a5 (g:Addr) (nr mn hd s:Int):List (Str×V):=[("game",.ref g),("number",.int nr),("many",.int mn),("held",.int hd),("s",.int s)]
def a6 (g:Addr) (nr mn hd s:Int) (aT:Addr):List (Str×V):=[("game",.ref g),("number",.int nr),("many",.int mn),("held",.int hd),("s",.int s),("tossed",.ref aT)]
section
variable {g aT:Addr} {nr mn hd s:Int}
theorem pa1:bX "game" (.ref g) []=a1 g:=by rfl'
theorem pa2:bX "number" (.int nr) (a1 g)=a2 g nr:=by rfl'
theorem pa3:bX "many" (.int mn) (a2 g nr)=a3 g nr mn:=by rfl'
theorem pa4:bX "held" (.int hd) (a3 g nr mn)=a4 g nr mn hd:=by rfl'
theorem pa5:bX "s" (.int s) (a4 g nr mn hd)=a5 g nr mn hd s:=by rfl'
theorem pa6:bX "tossed" (.ref aT) (a5 g nr mn hd s)=a6 g nr mn hd s aT:=by rfl'
theorem pa7:bX "truths" .non (a6 g nr mn hd s aT)=al g nr mn hd s aT .non:=by rfl'
end
inductive spAInit(CA:Addr)(vs:List V)(H:Hp)(Q:VK)(u_3:XK):Prop
 |mk:∀(k dk g c:Addr)(nr mn hd s:Int)(xs:List V),vs=[.ref k,.ref g,.int nr,.int mn,.int hd,.int s,.ref c]->H k=some (.ins CA dk [])->H c=some (.lst xs)∨H c=some (.tup xs)->(∀(aT:Addr)(H':Hp),H' k=some (.ins CA dk (al g nr mn hd s aT .non))->H' aT=some (.tup xs)->SameBut k H H'->Q .non H')->spAInit CA vs H Q u_3
theorem zy:FnScope ["self","game","number","many","due","s","coins"] ["self","game","number","many","due","s","coins"] (ak qJ):=%[1,1,1,4,1,4|4]
theorem Aj   (F:Fun K "__init__" "Asking.__init__" qJ f fd) (B:Bl mg) (T:ATxt K mg CA):FnOk P w K mg base CX0 1 f fd ["self","game","number","many","due","s","coins"] (spAInit CA):=by
 exists zy
 erw[k,dk,g,c,nr,mn,hd,s,xs,1,hk,hc,q]at h;refine⟨_,(aa (bd (pv 0) (pv 1) rfl)
  (aa (bd (pv 0) (pv 2) rfl)
  (aa (bd (pv 0) (pv 3) rfl)
  (aa (bd (pv 0) (pv 4) rfl)
  (aa (bd (pv 0) (pv 5) rfl)
  (aa (bd (pv 0) (be bp rfl B.tuple bN %[6|aH]) rfl)
  (ad (bd (pv 0) zT rfl)))))))),?_⟩
 erw[0,0,k,CA,dk,0,hk,T.cl,T.nG,(by show 0<1000;decide),6];rw[pa1];erw[0,0,k,CA,dk,0,aC,T.cl,T.nN,(by show 1<1000;decide),6];rw[pa2];erw[0,0,k,CA,dk,0,aC,T.cl,T.nM,(by show 2<1000;decide),6];rw[pa3];erw[0,0,k,CA,dk,0,aC,T.cl,T.nH,(by show 3<1000;decide),6];rw[pa4];erw[0,0,k,CA,dk,0,aC,T.cl,T.nS,(by show 4<1000;decide),6];rw[pa5];have S5:SameBut k H (upd (upd (upd (upd (upd H k (.ins CA dk (a1 g))) k (.ins CA dk (a2 g nr))) k (.ins CA dk (a3 g nr mn))) k (.ins CA dk (a4 g nr mn hd))) k (.ins CA dk (a5 g nr mn hd s))):=(SameBut.upd _).trans ((SameBut.upd _).trans ((SameBut.upd _).trans ((SameBut.upd _).trans (SameBut.upd _))));have g5:upd (upd (upd (upd (upd H k (.ins CA dk (a1 g))) k (.ins CA dk (a2 g nr))) k (.ins CA dk (a3 g nr mn))) k (.ins CA dk (a4 g nr mn hd))) k (.ins CA dk (a5 g nr mn hd s)) k=some (.ins CA dk (a5 g nr mn hd s)):=aC;generalize upd (upd (upd (upd (upd H k (.ins CA dk (a1 g))) k (.ins CA dk (a2 g nr))) k (.ins CA dk (a3 g nr mn))) k (.ins CA dk (a4 g nr mn hd))) k (.ins CA dk (a5 g nr mn hd s))=H5 at S5 g5;rcases hc with hc | hc
 . have hc5:=S5 _ _ (aZ hc hk (by intro z;cases z)) hc;erw[0,c,0,.inl %[zF0 hc5|λaT ha=>?_]];have aK:aT≠k:=(aN g5 ha).symm;erw[0,k,CA,dk,0,by rw[aq aK.symm];exact g5,T.cl,T.nT,(by show 5<1000;decide),6];rw[pa6];erw[0,k,CA,dk,0,aC,T.cl,T.nR,(by show 6<1000;decide),6];rw[pa7];exact q aT _ aC (by rw[aq aK,aq aK];exact aC) (S5.trans ((zK0 (zC0 ha _)).trans ((SameBut.upd _).trans (SameBut.upd _))))
 . have nc:=aZ hc hk (by intro z;cases z);have hc5:=S5 _ _ nc hc;erw[0,c,0,.inr %[zD0 hc5|6]];erw[0,k,CA,dk,0,g5,T.cl,T.nT,(by show 5<1000;decide),6];rw[pa6];erw[0,k,CA,dk,0,aC,T.cl,T.nR,(by show 6<1000;decide),6];rw[pa7];exact q c _ aC (by rw[aq nc,aq nc];exact hc5) (S5.trans ((SameBut.upd _).trans (SameBut.upd _)))
inductive spSay(CM CG:Addr)(vs:List V)(H:Hp)(Q:VK)(u_3:XK):Prop
 |mk:∀(M g h b dm c:Addr)(rv:List V)(z:Ak)(rows:List Hr)(bx:Str->Int)(m:Nat),vs=[.ref M,.int z.mn,.int z.hd,.int z.s,.ref c]->H M=some (.ins CM dm (ml g h z.nr b))->H h=some (.tup rv)->RowsAt H rv rows->(∀r∈rows,r.good)->BxAt H b bx m->dN z.p bx->m<=5000->Gm CG H g z.ns z.ts z.p->AkOk z->H c=some (.lst (z.to.map V.int))∨H c=some (.tup (z.to.map V.int))->0<=z.mn->z.mn<=500->(∀(l:Addr)(H':Hp),H l=none->H' l=some (.lst ((qR z.mn (jU z rows 200 ⟨0,bx,[]⟩).sd).map V.int))->BxAt H' b (jU z rows 200 ⟨0,bx,[]⟩).bx (m+200)->H' M=some (.ins CM dm (ml g h (z.nr+1) b))->But2 M b H H'->Q (.ref l) H')->spSay CM CG vs H Q u_3
theorem fJ:FnScope ["self","many","due","s","coins","asking","said","place","done"] ["self","many","due","s","coins"] (ak uD):=%[1,1,1,4,1,4|4]
theorem zH(k:Nat)(x:V):(List.replicate k [x]).flatten=List.replicate k x:=by
 induction k with
 | zero=>rfl
 | succ k ih=>rw[List.replicate_succ,List.flatten_cons,ih,List.replicate_succ];rfl
inductive tSayE(Dn:Ends)(σ:St)(H:Hp):Prop
 |mk:∀(x0 x2 x3 x4 x5 x7 x8:Option V)(sd:Addr)(mn:Int)(xs:List Int),σ=[x0,some (.int mn),x2,x3,x4,x5,some (.ref sd),x7,x8]->H sd=some (.lst (xs.map V.int))->xs.length<=200->0<=mn->mn<=500->(∀(l:Addr)(H':Hp),H l=none->Same H H'->H' l=some (.lst ((qR mn xs).map V.int))->Dn.rt (.ref l) H')->tSayE Dn σ H
theorem BV   (F:Fun K "say" "Machine.say" uD f fd) (B:Bl mg) (TM:MTxt K mg CM) (TA:ATxt K mg CA) (hmost:∃t,mg "MOST_ROWS_DONE"=some (.int 200 t))
 (MA:Mk K CA fA) (GA:FnOk P w K mg base CX0 1 fA fdA ["self","game","number","many","due","s","coins"] (spAInit CA)) (bA:Binds K fdA ["self","game","number","many","due","s","coins"] [])
 (mR:Meth K CM "do_row" fR) (GR:FnOk P w K mg base CX0 27 fR fdR ["self","place","said","asking"] (spRowM CM CA CG)) (bR:Binds K fdR ["self","place","said","asking"] []):FnOk P w K mg base CX0 28 f fd ["self","many","due","s","coins"] (spSay CM CG):=by
 exists fJ
 erw[M,g,h,b,dm,c,rv,z,rows,bx,m,1,hM,hh,RW,rq,BX,bo,mm,GG,ok,hc,mn0,mn1,q]at h;erw[a',b',d',tv,G,hga,hgb,TS,hgd]at GG;erw[te,ge]at hmost;have hr2:Room (1+1) _:=hr.mono ⋯;have hr7:Room 27 _:=hr.mono ⋯;refine⟨_,(aa #[am,5,fJ,eP MA GA hr2 rfl TA.mgC bA .nil bh %[az (pv 0) rfl,az (pv 0) rfl,1,2,3,4|aH]]
  (aa (bd (pv 0) (aj aQ (az (pv 0) rfl) ac) rfl)
  (aa #[am,6,fJ,ci aH]
  (aa #[am,7,fJ,ac]
  (aa #[am,8,fJ,ac]
  (aa (gX PassesOwn.never (PW.pt (lm (af cN (pv 7) (aD aE rfl B.len PySem.boot_len %[az (pv 0) rfl|aH]) (ai _)) (lm (af cN (aD aE rfl B.len PySem.boot_len %[6|aH]) (pv 1) (ai _)) (kt (af cN (pv 8) (cE (v:=.int 200) rfl ge ⟨_,rfl⟩) (ai _)))))) (aa #[am,7,fJ,bq (pv 0) TM.cl mR GR hr7 bR .nil bh %[7,6,5|aH]]
   (ad #[am,8,fJ,aj aQ (pv 8) ac])))
  (ku (t':=tSayE) (ad (ao (aj og (pv 6) (aj DO (ci %[ac|aH]) (aj aW (pv 1) (aD aE rfl B.len PySem.boot_len %[6|aH])))))) (by
   rintro Dn σ H ⟨x0,x2,x3,x4,x5,x7,x8,sd,mn,xs,rfl,hsd,xl,mn0,mn1,q⟩;erw[0,(by show 1<=sizeLine;decide),λz hz=>?_];have I1:=zC0 hz (.lst [.int 0]);have g1:upd H z (.lst [.int 0]) z=some (.lst [.int 0]):=aC;generalize upd H z (.lst [.int 0])=H1 at I1 g1;erw[0,0,sd,0,.inl (zF0 (I1 _ _ hsd)),2,6];have el:((xs.map V.int).length:Int)=(xs.length:Int):=by rw[zH0]
   erw[z,2,g1,3,3,bK (by show 1*(mn-((xs.map V.int).length:Int)).toNat<=1000;omega),λy hy=>?_];rw[zH];have I2:=zC0 hy (.lst (List.replicate (mn-((xs.map V.int).length:Int)).toNat (.int 0)));have g2:upd H1 y (.lst (List.replicate (mn-((xs.map V.int).length:Int)).toNat (.int 0))) y=some (.lst (List.replicate (mn-((xs.map V.int).length:Int)).toNat (.int 0))):=aC;generalize upd H1 y (.lst (List.replicate (mn-((xs.map V.int).length:Int)).toNat (.int 0)))=H2 at I2 g2;erw[sd,y,2,I2 _ _ (I1 _ _ hsd),g2,6,λl hl=>?_]
   . rw[List.length_replicate,zH0];exact bK #[0]
   refine q l _ ?_ (I1.trans (I2.trans (zC0 hl _))) ?_
   . cases e:H l with
     | none=>rfl
     | some o=>rw[I2 _ _ (I1 _ _ e)]at hl;cases hl
   . rw[aC,el];unfold qR;rw[zO0,List.map_replicate])))))))),?_⟩
 erw[0,M,CM,dm,_,0,hM,TM.cl,TM.nG,ml_g,0,M,CM,dm,_,0,hM,TM.cl,TM.nR,ml_r,0,0,0,0,λk dk hk hdk nk=>?_];have S1:Same H (upd (upd H dk (.own k)) k (.ins CA dk [])):=λa o e=>by
  rw[aq (aN e hk),aq (aN e hdk)];exact e
 have g1:upd (upd H dk (.own k)) k (.ins CA dk []) k=some (.ins CA dk []):=aC;generalize upd (upd H dk (.own k)) k (.ins CA dk [])=H1 at S1 g1;erw[k,dk,g,c,z.nr,z.mn,z.hd,z.s,z.to.map V.int,1,g1,hc.imp (S1 _ _) (S1 _ _),λaT H2 hk2 hT2 S2=>%[1|6]];have S02:Same H H2:=Same.but S1 hk S2;clear S1 S2 g1;have hM2:=S02 _ _ hM;erw[0,M,CM,dm,_,0,hM2,TM.cl,TM.nR,ml_r,2,0,M,CM,dm,0,hM2,TM.cl,TM.nR,DZ,6];rw[DY];have nMk:M≠k:=aN hM hk;have S3:SameBut M H2 (upd H2 M (.ins CM dm (ml g h (z.nr+1) b))):=SameBut.upd _;have hM3:upd H2 M (.ins CM dm (ml g h (z.nr+1) b)) M=some (.ins CM dm (ml g h (z.nr+1) b)):=aC;generalize upd H2 M (.ins CM dm (ml g h (z.nr+1) b))=H3 at S3 hM3;erw[(by show 0<=sizeLine;decide),λsd hsd=>?_];have I4:=zC0 hsd (.lst []);have g4:upd H3 sd (.lst []) sd=some (.lst []):=aC;generalize upd H3 sd (.lst [])=H4 at I4 g4;have gM:g≠M:=λe=>by
  erw[dg,hg]at G;rw[e,hM]at hg;cases hg
 have nbM:b≠M:=by
  erw[kvs,e,_]at BX;exact aZ e hM (by intro z;cases z)
 have S04:SameBut M H H4:=(zK0 S02).trans (S3.trans (zK0 I4));have hM4:=I4 _ _ hM3;have kT:bY H H4:=λc xs h=>S04 c _ (aZ h hM (by intro z;cases z)) h
 have hh4:=kT _ _ hh;have RW4:=RW.mono kT;have BX4:BxAt H4 b bx m:=BX.keep λo e=>S04 b o nbM e
 have G4:GameAt CG H4 g a' b' d' z.p:=by
  erw[dg,hg]at G;erw[dg,S04 _ _ gM hg]
 have hT4:H4 aT=some (.tup (z.to.map V.int)):=I4 _ _ (S3 _ _ (aZ hT2 hM2 (by intro z;cases z)) hT2);have hgd4:=S04 _ _ (aZ hgd hM (by intro z;cases z)) hgd;have nds:d'≠sd:=aN (S3 _ _ (aZ hgd hM (by intro z;cases z)) (S02 _ _ hgd)) hsd;have hk4:=I4 _ _ (S3 _ _ nMk.symm hk2);have b4:∃kvs,H4 b=some (.dK kvs):=by
  erw[kvs,e,_]at BX4;erw[kvs,e]
 erw[kv4,hb4]at b4;have nbs:b≠sd:=aZ hb4 g4 (by intro z;cases z);have nhb:h≠b:=aZ hh4 hb4 (by intro z;cases z);have nhs:h≠sd:=aZ hh4 g4 (by intro z;cases z);have nMs:M≠sd:=aZ hM4 g4 (by intro z;cases z);have nkb:k≠b:=aZ hk4 hb4 (by intro z;cases z);have nks:k≠sd:=aZ hk4 g4 (by intro z;cases z);have AK4:AkAt CA CG H4 k g sd z:=%[dk,aT,a',b',d',tv,.non,hk4,G4,kT _ _ hga,kT _ _ hgb,TS.mono kT,hgd4,nds,hT4|.inl rfl]
 have sd0:H sd=none:=by
  cases e:H sd with
  | none=>rfl
  | some o=>rw[S3 _ _ nMs.symm (S02 _ _ e)]at hsd;cases hsd
 erw[λmm σ H'=>∃(st:MS)(d:Nat),σ=[some (.ref M),some (.int z.mn),some (.int z.hd),some (.int z.s),some (.ref c),some (.ref k),some (.ref sd),some (.int st.pl),some (.int (d:Int))]/\d<=200/\mm=200-d/\0<=st.pl/\st.sd.length<=d/\jU z rows (200-d) st=jU z rows 200 %[(0),bx|[]]/\H' sd=some (.lst (st.sd.map V.int))/\BxAt H' b st.bx (m+d)/\dN z.p st.bx/\gq st.sd z.p/\AkAt CA CG H' k g sd z/\But3 b sd k H4 H',%[_,%[(0),bx|[]],(0),1,zW0 _,1,Int.le_refl 0,zG0 _,1,g4,BX4,bo,(λx hx=>by cases hx),AK4|λ_ _ _ _ _ e=>e],6]
 rintro mm σ H' ⟨st,d,rfl,d2,rfl,st0,sl,hrun,hsd',BX',bo',so',AK',S'⟩;have hM':=S' _ _ nbM.symm nMs nMk hM4;have hh':=S' _ _ nhb nhs (aZ hh4 hk4 (by intro z;cases z)) hh4;have kT':bY H4 H':=λc xs h=>S' c _ (aZ h hb4 (by intro z;cases z)) (aZ h g4 (by intro z;cases z)) (aZ h hk4 (by intro z;cases z)) h
 have RW':=RW4.mono kT';have fin:jU z rows (200-d) st=st->∀(l:Addr)(H5:Hp),H' l=none->Same H' H5->H5 l=some (.lst ((qR z.mn st.sd).map V.int))->Q (.ref l) H5:=λer l H5 l0 S5 hl=>by
  rw[er]at hrun;rw[←hrun]at q;refine q l H5 ?_ hl ((BX'.keep λo e=>S5 b o e).le #[0]) (S5 _ _ hM') (λa o h1 h2 e=>?_)
  . cases e:H l with
    | none=>rfl
    | some o=>
      have lM:l≠M:=λz=>by rw[z,hM']at l0;cases l0
      have lb:l≠b:=λz=>by
       erw[kvs,e',_]at BX';rw[z,e']at l0;cases l0
      have ls:l≠sd:=λz=>by rw[z,hsd']at l0;cases l0
      rw[S' _ _ lb ls (aN e hk) (S04 _ _ lM e)]at l0;cases l0
  . exact S5 _ _ (S' _ _ h2 (aN e sd0) (aN e hk) (S04 _ _ h1 e))
 erw[0,0,M,CM,dm,_,0,hM',TM.cl,TM.nH,Ea,h,0,.inr (zD0 hh'),2,0,6];rw[RW.1]
 by_cases c1:st.pl<(rows.length:Int)
 . refine aR c1 ?_;erw[0,sd,0,.inl (zF0 hsd'),0,2,0,6];rw[zH0]
   by_cases c2:(st.sd.length:Int)<z.mn
   . refine aR c2 ?_;erw[0,2,0,6]
     by_cases c3:d<200
     . refine aR #[0] ?_;erw[_,λ_ _ h=>h,6];erw[0,M,dm,0,hM',ml_n1,0,0,0,M,g,h,b,dm,k,sd,rv,_,st.pl,z,rows,st.bx,m+d,st.sd,1,hM',nMk,hh',RW',rq,st0,c1,BX',bo',3,hsd',3,AK',ok,λH6 hs6 BX6 A6 S6=>?_];erw[0,2,6];erw[_,(show 200-(d+1)<200-d by omega),dI z rows st,d+1,1,c3,1,yZ rq st0,zQ0 rV (Nat.succ_le_succ sl),6,hs6,BX6,(mN ok bo' so').1,(mN ok bo' so').2,A6,S'.trans S6];rw[←hrun,show 200-d=(200-(d+1))+1 by omega];exact(zE0 ⟨c1,c2⟩).symm
     . refine ax #[0] ?_;have ed:200-d=0:=by omega
       erw[_,_,_,_,_,_,_,sd,z.mn,st.sd,1,hsd',3,mn0,mn1,fin (by rw[ed];rfl)]
   . refine ax c2 (cG ?_);erw[_,_,_,_,_,_,_,sd,z.mn,st.sd,1,hsd',3,mn0,mn1,fin ?_];cases 200-d with
     | zero=>rfl
     | succ n=>exact zB0 (λz=>c2 z.2)
 . refine ax c1 (cG ?_);erw[_,_,_,_,_,_,_,sd,z.mn,st.sd,1,hsd',3,mn0,mn1,fin ?_];cases 200-d with
   | zero=>rfl
   | succ n=>exact zB0 (λz=>c1 z.1)
end
section
variable {CM CA CG:Addr}
def HlpAt(H:Hp)(h:Addr)(rows:List Hr):Prop:=(∃rv,H h=some (.tup rv)/\RowsAt H rv rows)/\∀r∈rows,r.good
theorem HlpAt.mono(x:HlpAt H h rows)(k:bY H H'):HlpAt H' h rows:=by
 erw[%[rv,e|R],g]at x;erw[%[rv,k _ _ e|R.mono k],g]
def StayO:HO->Prop
 | .dK _=>False
 | .ins _ _ fs=>fs.lookup ("game":Str)=none
 | _=>True
def Kp(H H':Hp):Prop:=∀a o,StayO o->H a=some o->H' a=some o
theorem Kp.of(s:Same H H'):Kp H H':=λa o _ e=>s a o e
theorem Kp.T(x:Kp H H'):bY H H':=λa xs e=>x a _ trivial e
theorem Gm.kp(h:Gm CG H g ns ts p)(x:Kp H H'):Gm CG H' g ns ts p:=by
 erw[a,b,d,tv,%[dx|h1],h2,h3,h4,h5]at h;erw[a,b,d,tv,%[dx|x _ _ (Cv ..) h1],x.T _ _ h2,x.T _ _ h3,h4.mono x.T,x _ _ trivial h5]
end
abbrev qD:Stmt:=bV uC 0
abbrev qE:Stmt:=bV uC 1
abbrev zC:Stmt:=bV uC 2
section
variable {CM CA CG CS:Addr}
structure STxt(K:W.Frag)(mg:Str->Option Value)(C:Addr):Prop where
 cl:Cls K C
 nF:NoAttr K C "field"
 nM:NoAttr K C "machine"
 nH:NoAttr K C "held"
 nS:NoAttr K C "said"
 mgC:mg "Side"=some (.ref C)
def s1 (p:Int):List (Str×V):=[("field",.int p)]
def s2 (p:Int) (M:Addr):List (Str×V):=[("field",.int p),("machine",.ref M)]
def s3 (p:Int) (M:Addr) (v:Int):List (Str×V):=[("field",.int p),("machine",.ref M),("held",.int v)]
def sl (p:Int) (M:Addr) (v:Int) (l:Addr):List (Str×V):=[("field",.int p),("machine",.ref M),("held",.int v),("said",.ref l)]
section
variable {p v v':Int} {M l l':Addr}
theorem ps1:bX "field" (.int p) []=s1 p:=by rfl'
theorem ps2:bX "machine" (.ref M) (s1 p)=s2 p M:=by rfl'
theorem ps3:bX "held" (.int v) (s2 p M)=s3 p M v:=by rfl'
theorem ps4:bX "said" (.ref l) (s3 p M v)=sl p M v l:=by rfl'
theorem psh:bX "held" (.int v') (sl p M v l)=sl p M v' l:=by rfl'
theorem pss':bX "said" (.ref l') (sl p M v l)=sl p M v l':=by rfl'
theorem s2_m:(s2 p M).lookup ("machine":Str)=some (.ref M):=by rfl'
theorem sl_f:(sl p M v l).lookup ("field":Str)=some (.int p):=by rfl'
theorem sl_m:(sl p M v l).lookup ("machine":Str)=some (.ref M):=by rfl'
theorem qu:(sl p M v l).lookup ("held":Str)=some (.int v):=by rfl'
theorem zn:(sl p M v l).lookup ("said":Str)=some (.ref l):=by rfl'
theorem CV:(sl p M v l).lookup ("adds_up":Str)=none:=by rfl'
theorem CU:(sl p M v l).lookup ("go_way":Str)=none:=by rfl'
end
noncomputable def cH(z:Ak)(rows:List Hr)(bx:Str->Int):List Int:=qR z.mn (jU z rows 200 %[(0),bx|[]]).sd
noncomputable def bxA(z:Ak)(rows:List Hr)(bx:Str->Int):Str->Int:=(jU z rows 200 %[(0),bx|[]]).bx
theorem cZ(k:AkOk z)(bo:dN z.p bx)(h0:0<=z.mn):gq (cH z rows bx) z.p/\((cH z rows bx).length:Int)=z.mn/\dN z.p (bxA z rows bx):=by
 have h:=vW (rows:=rows) k 200 %[(0),bx|[]] bo (λx hx=>by cases hx) (by show(0:Int)<=z.mn;exact h0);erw[λx hx=>?_,6,h.1]
 . unfold cH qR at hx;rcases qD0 hx with hx | hx
   . exact h.2.1 x hx
   . rw [(List.mem_replicate.mp hx).2]
     have:=k.gk.p2
     erw[Int.le_refl 0,3]
 . unfold cH qR;rw[zJ0,List.length_replicate]
   have:=h.2.2
   omega
theorem SameBut.free{a:Addr}(s:SameBut S H H')(h:H' a=none)(n:a≠S):H a=none:=by
 cases e:H a with
 | none=>rfl
 | some o=>rw[s _ _ n e]at h;cases h
theorem pV{S C d:Addr}{H:Hp}{fs:List (Str×V)}(hS:H S=some (.ins C d fs))(s:SameBut S H H'):bY H H':=λa xs e=>s _ _ (aZ e hS (by intro z;cases z)) e
theorem Gm.sb{S C d:Addr}{fs:List (Str×V)}(x:Gm CG H g ns ts p)(n:g≠S)(hS:H S=some (.ins C d fs))(s:SameBut S H H'):Gm CG H' g ns ts p:=by
 erw[a,b,d,tv,%[dx|h1],h2,h3,h4,h5]at x;have kT:=pV hS s;erw[a,b,d,tv,%[dx|s _ _ n h1],kT _ _ h2,kT _ _ h3,h4.mono kT,s _ _ (aZ h5 hS (by intro z;cases z)) h5]
inductive spSInit(CS CM CG:Addr)(vs:List V)(H:Hp)(Q:VK)(u_3:XK):Prop
 |mk:∀(S ds g h:Addr)(ns:List Str)(ts:List Tr)(p:Int)(rows:List Hr),vs=[.ref S,.ref g,.ref h]->H S=some (.ins CS ds [])->Gm CG H g ns ts p->GmK ns ts p->ns.length<=6->HlpAt H h rows->(∀(M dm b l:Addr)(v:Int)(H':Hp),H M=none->H b=none->H l=none->H' S=some (.ins CS ds (sl p M v l))->H' M=some (.ins CM dm (ml g h 1 b))->BxAt H' b (bxA ⟨ns,ts,p,0,1,0,0,[]⟩ rows (λ_=>0)) 200->cH %[ns,ts,p,(0),(1),(0),(0)|[]] rows (λ_=>0)=[v]->H' l=some (.lst [])->SameBut S H H'->Q .non H')->spSInit CS CM CG vs H Q u_3
theorem zu:FnScope ["self","game","helper"] ["self","game","helper"] (ak qD):=%[1,1,1,4,1,4|4]
theorem Ad   (F:Fun K "__init__" "Side.__init__" qD f fd) (T:STxt K mg CS) (TM:MTxt K mg CM) (TG:GTxt K mg CG) (MM:Mk K CM fM) (GM:FnOk P w K mg base CX0 1 fM fdM ["self","game","helper"] (spMInit CM)) (bM:Binds K fdM ["self","game","helper"] []) (mS:Meth K CM "say" fS) (GS:FnOk P w K mg base CX0 28 fS fdS ["self","many","due","s","coins"] (spSay CM CG)) (bS:Binds K fdS ["self","many","due","s","coins"] []):FnOk P w K mg base CX0 29 f fd ["self","game","helper"] (spSInit CS CM CG):=by
 exists zu
 erw[S,ds,g,h,ns,ts,p,rows,1,hS,GG,k,n6,HL,q]at h;have hr2:Room (1+1) _:=hr.mono ⋯;have hr28:Room 28 _:=hr.mono ⋯;refine⟨_,(aa (bd (pv 0) (az (pv 1) rfl) rfl)
  (aa (bd (pv 0) (eP MM GM hr2 rfl TM.mgC bM .nil bh %[1,2|aH]) rfl)
  (aa (bd (pv 0) (ay ix_list (bq (az (pv 0) rfl) TM.cl mS GS hr28 bS .nil bh %[ac,ac,ac,ci aH|aH]) ac (λ_ _=>rfl)) rfl)
  (ad (bd (pv 0) (ci aH) rfl))))),?_⟩
 have p2:=k.p2;let%[a',b',d',tv,%[dx|h1]|_]:=id GG;have gS:g≠S:=λz=>by
  rw[z,hS]at h1
  have:=congrArg (λo=>match o with | some (HO.ins _ _ fs)=>fs.length | _=>0) h1
  cases this
 erw[0,g,CG,dx,_,0,h1,TG.cl,TG.nF,jJ ..,0,S,CS,ds,0,hS,T.cl,T.nF,(by show 0<1000;decide),6];rw[ps1];have B1:SameBut S H (upd H S (.ins CS ds (s1 p))):=SameBut.upd _;have e1:upd H S (.ins CS ds (s1 p)) S=some (.ins CS ds (s1 p)):=aC;show rR _ _ _ _ (upd H S (.ins CS ds (s1 p)));generalize upd H S (.ins CS ds (s1 p))=H1 at B1 e1;erw[0,0,λM dm hM0 hdm0 nM=>?_];have K2:Same H1 (upd (upd H1 dm (.own M)) M (.ins CM dm [])):=λa o e=>by
  rw[aq (aN e hM0),aq (aN e hdm0)];exact e
 have g2:upd (upd H1 dm (.own M)) M (.ins CM dm []) M=some (.ins CM dm []):=aC;generalize upd (upd H1 dm (.own M)) M (.ins CM dm [])=H2 at K2 g2;erw[M,g,h,dm,1,g2,λb H3 hb0 hM3 hb3 S3=>%[1|6]];have T13:Same H1 H3:=Same.but K2 hM0 S3;have MS:M≠S:=(aN e1 hM0).symm;have bS':b≠S:=(aN (K2 _ _ e1) hb0).symm;erw[0,S,CS,ds,0,T13 _ _ e1,T.cl,T.nM,(by show 1<1000;decide),6];rw[ps2];have B4:SameBut S H (upd H3 S (.ins CS ds (s2 p M))):=λa o n e=>by
  rw[aq n];exact T13 _ _ (B1 _ _ n e)
 have e4:upd H3 S (.ins CS ds (s2 p M)) S=some (.ins CS ds (s2 p M)):=aC;have hM4:upd H3 S (.ins CS ds (s2 p M)) M=some (.ins CM dm (ml g h 0 b)):=by rw[aq MS];exact hM3
 have hb4:upd H3 S (.ins CS ds (s2 p M)) b=some (.dK []):=by rw[aq bS'];exact hb3
 show rR _ _ _ _ (upd H3 S (.ins CS ds (s2 p M)));generalize upd H3 S (.ins CS ds (s2 p M))=H4 at B4 e4 hM4 hb4;erw[0,S,CS,ds,_,0,e4,T.cl,T.nM,s2_m,M,dm,0,hM4,oy,(by show 0<=sizeLine;decide),λc hc=>?_];have I5:=zC0 hc (.lst []);have g5:upd H4 c (.lst []) c=some (.lst (([]:List Int).map V.int)):=aC;generalize upd H4 c (.lst [])=H5 at I5 g5;let%[%[rv,hh|RW]|rg]:=(HL.mono (pV hS B4)).mono (aV I5);obtain⟨z,ez⟩:∃z:Ak,z=⟨ns,ts,p,0,1,0,0,[]⟩:=%[|0]
 have zok:AkOk z:=by
  subst ez;erw[k,n6,Int.le_refl 0,(λh=>absurd h (by show ¬ (0:Int)<0;decide)),(λx hx=>by cases hx),Int.le_refl 0,(by show(0:Int)<p;omega),Int.le_refl 0,(by show(0:Int)<p;omega),by show 0<=100;decide]
 have bo:dN z.p (λ_=>0):=by
  subst ez;exact λx=>%[Int.le_refl 0|by show(0:Int)<p;omega]
 have so:=cZ (rows:=rows) zok bo (by rw[ez];show(0:Int)<=1;decide);rw[←ez]at q;erw[M,g,h,b,dm,c,rv,z,rows,λ_=>0,(0),(by rw[ez];rfl),(by rw[ez];exact I5 _ _ hM4),hh,RW,rg,%[[],I5 _ _ hb4,zG0 _|λx=>rfl],bo,4,(by rw[ez];exact(GG.sb gS hS B4).kp (Kp.of I5)),zok,.inl (by rw[ez];exact g5),(by rw[ez];show(0:Int)<=1;decide),(by rw[ez];show(1:Int)<=500;decide),λl1 H6 l10 hl1 BX6 hM6 S6=>?_];have hl1':H6 l1=some (.lst ((cH z rows (λ_=>0)).map V.int)):=hl1;have BX6':BxAt H6 b (bxA z rows (λ_=>0)) 200:=BX6.le #[0];have sl1:(cH z rows (λ_=>0)).length=1:=by
  have h1:=so.2.1;rw[show z.mn=1 by rw[ez]]at h1;omega
 obtain ⟨v,ev⟩:∃v,cH z rows (λ_=>0)=[v]:=by
  match cH z rows (λ_=>0),sl1 with
  | [v],_=>erw[v,1]
 rw[ev]at hl1';have hM6':H6 M=some (.ins CM dm (ml g h 1 b)):=by rw[ez]at hM6;exact hM6
 have e6:=S6 _ _ MS.symm bS'.symm (I5 _ _ e4);erw[l1,_,(0),.int v,1,1,zF0 hl1',1,0,S,CS,ds,0,e6,T.cl,T.nH,(by show 2<1000;decide),6];rw[ps3];have B7:SameBut S H6 (upd H6 S (.ins CS ds (s3 p M v))):=SameBut.upd _;have e7:upd H6 S (.ins CS ds (s3 p M v)) S=some (.ins CS ds (s3 p M v)):=aC;generalize upd H6 S (.ins CS ds (s3 p M v))=H7 at B7 e7;erw[(by show 0<=sizeLine;decide),λl hl=>?_];have I8:=zC0 hl (.lst []);have g8:upd H7 l (.lst []) l=some (.lst []):=aC;have lS:l≠S:=(aN e7 hl).symm;have H0:∀{x:Addr},x≠S->H7 x=none->H x=none:=λn e=>by
  cases eh:H _ with
  | none=>rfl
  | some o=>
    have e3:=T13 _ _ (B1 _ _ n eh);rw[B7 _ _ n (S6 _ _ (λz=>by rw[z]at eh;rw[B1 _ _ MS eh]at hM0;cases hM0) (λz=>by rw[z]at eh;rw[K2 _ _ (B1 _ _ bS' eh)]at hb0;cases hb0) (I5 _ _ (B4 _ _ n eh)))]at e;cases e
 generalize upd H7 l (.lst [])=H8 at I8 g8;erw[0,S,CS,ds,0,I8 _ _ e7,T.cl,T.nS,(by show 3<1000;decide),6];rw[ps4];have lM:l≠M:=λz=>by rw[z,B7 _ _ MS hM6']at hl;cases hl
 have M0:H M=none:=SameBut.free B1 hM0 MS;have b0:H b=none:=SameBut.free B1 (K2.free hb0) bS';refine q M dm b l v _ M0 b0 (H0 lS hl) aC (by rw[aq MS];exact I8 _ _ (B7 _ _ MS hM6')) ?_ ev (by rw[aq lS];exact g8) (λa o n e=>?_)
 . exact BX6'.keep λo e=>by rw[aq bS'];exact I8 _ _ (B7 _ _ bS' e)
 . rw[aq n];exact I8 _ _ (B7 _ _ n (S6 _ _ (λz=>by rw[z,M0]at e;cases e) (λz=>by rw[z,b0]at e;cases e) (I5 _ _ (B4 _ _ n e))))
end
section
variable {CM CA CG CS:Addr}
def But3s(S M b:Addr)(H H':Hp):Prop:=∀a o,a≠S->a≠M->a≠b->H a=some o->H' a=some o
inductive spAdds(CS CM CG:Addr)(vs:List V)(H:Hp)(Q:VK)(u_3:XK):Prop
 |mk:∀(S ds g h M dm b l w:Addr)(ns:List Str)(ts:List Tr)(p n v:Int)(rows:List Hr)(bx:Str->Int)(m:Nat)(ws:List Int),vs=[.ref S,.ref w]->H S=some (.ins CS ds (sl p M v l))->H M=some (.ins CM dm (ml g h n b))->HlpAt H h rows->BxAt H b bx m->m<=4000->dN p bx->Gm CG H g ns ts p->H w=some (.tup (ws.map V.int))->S≠M->AkOk ⟨ns,ts,p,n,2,v,0,ws⟩->(∀(x0 x1:Int)(l':Addr)(H':Hp),cH ⟨ns,ts,p,n,2,v,0,ws⟩ rows bx=[x0,x1]->H l'=none->H' S=some (.ins CS ds (sl p M v l'))->H' l'=some (.lst [.int x0,.int x1])->H' M=some (.ins CM dm (ml g h (n+1) b))->BxAt H' b (bxA ⟨ns,ts,p,n,2,v,0,ws⟩ rows bx) (m+200)->But3s S M b H H'->Q (.bl (decide ((x0+x1) % p=v))) H')->spAdds CS CM CG vs H Q u_3
theorem zv:FnScope ["self","ways"] ["self","ways"] (ak qE):=%[1,1,1,4,1,4|4]
theorem Ae   (F:Fun K "adds_up" "Side.adds_up" qE f fd) (B:Bl mg) (T:STxt K mg CS) (TM:MTxt K mg CM) (mS:Meth K CM "say" fS) (GS:FnOk P w K mg base CX0 28 fS fdS ["self","many","due","s","coins"] (spSay CM CG)) (bS:Binds K fdS ["self","many","due","s","coins"] []):FnOk P w K mg base CX0 29 f fd ["self","ways"] (spAdds CS CM CG):=by
 exists zv
 erw[S,ds,g,h,M,dm,b,l,w,ns,ts,p,n,v,rows,bx,m,ws,1,hS,hM,HL,BX,m4,bo,GG,hw,SM,zok,q]at h;have hr28:Room 28 _:=hr.mono ⋯;refine⟨_,(aa (bd (pv 0) (bq (az (pv 0) rfl) TM.cl mS GS hr28 bS .nil bh %[ac,az (pv 0) rfl,ac,be kO rfl B.list iG %[1|aH]|aH]) rfl)
  (ad (ao (cb aI (aj aO (aj aQ (ay ix_list (az (pv 0) rfl) ac (λ_ _=>rfl)) (ay ix_list (az (pv 0) rfl) ac (λ_ _=>rfl))) (az (pv 0) rfl)) (az (pv 0) rfl) (ai _))))),?_⟩
 have p2:=zok.gk.p2;have so:=cZ (rows:=rows) zok bo (by show(0:Int)<=2;decide);generalize ez:(%[ns,ts,p,n,(2),v,(0)|ws]:Ak)=z at q zok so;have p2:2<p:=by
  have:=zok.gk.p2
  rw[←ez]at this;exact this
 erw[0,S,CS,ds,_,0,hS,T.cl,T.nM,sl_m,M,dm,0,hM,oy,0,S,CS,ds,_,0,hS,T.cl,T.nH,qu,0,w,0,.inr (zD0 hw),λc hc=>?_];have I1:=zC0 hc (.lst (ws.map V.int));have g1:upd H c (.lst (ws.map V.int)) c=some (.lst (ws.map V.int)):=aC;generalize upd H c (.lst (ws.map V.int))=H1 at I1 g1;let%[%[rv,hh|RW]|rg]:=HL.mono (aV I1);have BX1:=BX.keep λo e=>I1 _ _ e
 erw[M,g,h,b,dm,c,rv,z,rows,bx,m,(by rw[←ez];rfl),(by rw[←ez];exact I1 _ _ hM),hh,RW,rg,BX1,(by rw[←ez];exact bo),3,(by rw[←ez];exact GG.kp (Kp.of I1)),zok,.inl (by rw[←ez];exact g1),(by rw[←ez];show(0:Int)<=2;decide),(by rw[←ez];show(2:Int)<=500;decide),λl1 H2 l10 hl1 BX2 hM2 S2=>?_];have hl1':H2 l1=some (.lst ((cH z rows bx).map V.int)):=hl1;have BX2':BxAt H2 b (bxA z rows bx) (m+200):=BX2;have sl2:(cH z rows bx).length=2:=by
  have h1:=so.2.1;rw[←ez]at h1 ⊢;have h2:((cH %[ns,ts,p,n,(2),v,(0)|ws] rows bx).length:Int)=2:=h1;omega
 obtain ⟨x0,x1,ev⟩:∃x0 x1,cH z rows bx=[x0,x1]:=by
  match cH z rows bx,sl2 with
  | [x0,x1],_=>erw[x0,x1,1]
 rw[ev]at hl1';have hM2':H2 M=some (.ins CM dm (ml g h (n+1) b)):=by rw[←ez]at hM2;exact hM2
 let%[kvs,eb|_]:=id BX;have Sb:S≠b:=aZ hS eb (by intro z;cases z);have e2:=S2 _ _ SM Sb (I1 _ _ hS);erw[0,S,CS,ds,0,e2,T.cl,T.nS,(by show 4<1000;decide),6];rw[pss'];have e3:upd H2 S (.ins CS ds (sl p M v l1)) S=some (.ins CS ds (sl p M v l1)):=aC;have B3:SameBut S H2 (upd H2 S (.ins CS ds (sl p M v l1))):=SameBut.upd _;have l1S:l1≠S:=λz=>by rw[z,I1 _ _ hS]at l10;cases l10
 generalize upd H2 S (.ins CS ds (sl p M v l1))=H3 at e3 B3;have hl3:=B3 _ _ l1S hl1';erw[0,S,CS,ds,_,0,e3,T.cl,T.nS,zn,l1,_,(0),.int x0,1,1,zF0 hl3,1,0,S,CS,ds,_,0,e3,T.cl,T.nS,zn,l1,_,(1),.int x1,1,1,zF0 hl3,1,2,6];erw[0,S,CS,ds,_,0,e3,T.cl,T.nF,sl_f,2,(by show 0<p;omega),6];erw[0,S,CS,ds,_,0,e3,T.cl,T.nH,qu,1,6];have fin:=q x0 x1 l1 H3 ev (I1.free l10) e3 hl3 (B3 _ _ SM.symm hM2') (BX2'.keep λo e=>B3 _ _ Sb.symm e) (λa o n1 n2 n3 e=>B3 _ _ n1 (S2 _ _ n2 n3 (I1 _ _ e)));have ed:decide (V.int ((x0+x1) % p)=V.int v)=decide ((x0+x1) % p=v):=by
  by_cases c:(x0+x1) % p=v
  . rw[decide_eq_true c,decide_eq_true (congrArg V.int c)]
  . rw[decide_eq_false c,decide_eq_false (λz=>c (V.int.inj z))]
 show Q (.bl (decide (V.int ((x0+x1) % p)=V.int v))) H3;rw[ed];exact fin
inductive spGo(CS:Addr)(vs:List V)(H:Hp)(Q:VK)(u_3:XK):Prop
 |mk:∀(S ds M l:Addr)(p v x0 x1 wy:Int),vs=[.ref S,.int wy]->H S=some (.ins CS ds (sl p M v l))->H l=some (.lst [.int x0,.int x1])->wy=0∨wy=1->(∀H',H' S=some (.ins CS ds (sl p M (if wy=0 then x0 else x1) l))->SameBut S H H'->Q .non H')->spGo CS vs H Q u_3
theorem DD:FnScope ["self","way"] ["self","way"] (ak zC):=%[1,1,1,4,1,4|4]
theorem DS   (F:Fun K "go_way" "Side.go_way" zC f fd) (T:STxt K mg CS):FnOk P w K mg base CX0 1 f fd ["self","way"] (spGo CS):=by
 exists DD
 erw[S,ds,M,l,p,v,x0,x1,wy,1,hS,hl,hw,q]at h;erw[_,(ad (bd (pv 0) (ay ix_list (az (pv 0) rfl) (pv 1) (λ_ _=>rfl)) rfl)),6];have at_:atI [V.int x0,.int x1] wy=some (.int (if wy=0 then x0 else x1)):=by
  rcases hw with rfl | rfl <;> rfl
 erw[0,S,CS,ds,_,0,hS,T.cl,T.nS,zn,0,l,_,wy,0,1,zF0 hl,at_,0,S,CS,ds,0,hS,T.cl,T.nH,(by show 4<1000;decide),6];rw[psh];exact q _ aC (SameBut.upd _)
inductive spWay(CS:Addr)(vs:List V)(H:Hp)(Q:VK)(u_3:XK):Prop
 |mk:∀(S ds M l S' ds' M' l':Addr)(p v x0 x1 p' v' y0 y1:Int),vs=[.ref S,.ref S']->H S=some (.ins CS ds (sl p M v l))->H l=some (.lst [.int x0,.int x1])->H S'=some (.ins CS ds' (sl p' M' v' l'))->H l'=some (.lst [.int y0,.int y1])->Q (.int (if x0=y0 then 1 else 0)) H->spWay CS vs H Q u_3
theorem mX:FnScope ["first","second"] ["first","second"] (ak gJ):=%[1,1,1,4,1,4|4]
theorem oi   (F:Fun K "way_between" "way_between" gJ f fd) (T:STxt K mg CS):FnOk P w K mg base CX0 1 f fd ["first","second"] (spWay CS):=by
 exists mX
 erw[S,ds,M,l,S',ds',M',l',p,v,x0,x1,p',v',y0,y1,1,hS,hl,hS',hl',q]at h;erw[_,(ad (ao (kE (af ji (ay ix_list (az (pv 0) rfl) ac (λ_ _=>rfl)) (ay ix_list (az (pv 1) rfl) ac (λ_ _=>rfl)) (ai _)) ac ac))),6];erw[0,S,CS,ds,_,0,hS,T.cl,T.nS,zn,l,_,(0),.int x0,1,1,zF0 hl,1,0,S',CS,ds',_,0,hS',T.cl,T.nS,zn,l',_,(0),.int y0,1,1,zF0 hl',1,1,0,6]
 by_cases c:x0=y0
 . refine iteNE (congrArg V.int c) ?_;rw[zE0 c]at q;exact q
 . refine Ej (λz=>c (V.int.inj z)) ?_;rw[zB0 c]at q;exact q
end
section
variable {CM CA CG CS:Addr}
inductive Oc where
 | agr (v:Int)
 | cau (a b:Bool) (ws:List Int)
def OcAt(H:Hp)(a:Addr):Oc->Prop
 | .agr v=>H a=some (.tup [.str "agreed",.int v])
 | .cau x y ws=>∃t,H a=some (.tup [.str "caught",.bl x,.bl y,.ref t])/\H t=some (.tup (ws.map V.int))
structure Gv where
 ns:List Str
 ts:List Tr
 p:Int
abbrev Gv.z(G:Gv)(n mn hd:Int)(ws:List Int):Ak:=%[G.ns,G.ts,G.p,n,mn,hd,(0)|ws]
def g0(xs:List Int):Int:=xs.getD 0 0
def g1(xs:List Int):Int:=xs.getD 1 0
def ie(xA xB:List Int):Int:=if g0 xA=g0 xB then 1 else 0
def ph(w:Int)(xs:List Int):Int:=if w=0 then g0 xs else g1 xs
def fits(p hd:Int)(xs:List Int):Bool:=decide ((g0 xs+g1 xs) % p=hd)
noncomputable def fk(G:Gv)(rA rB:List Hr)(tru:List Int->Int):Nat->List Int->(Str->Int)->Int->(Str->Int)->Int->Oc
 | 0,ws,_,hA,_,hB=>.cau (!decide (hA=tru ws)) (!decide (hB=tru ws)) ws
 | k+1,ws,bA,hA,bB,hB=>
   let sA:=cH (G.z ((ws.length:Int)+1) 2 hA ws) rA bA
   let sB:=cH (G.z ((ws.length:Int)+1) 2 hB ws) rB bB
   if fits G.p hA sA=true/\fits G.p hB sB=true then
    fk G rA rB tru k (ws++[ie sA sB]) (bxA (G.z ((ws.length:Int)+1) 2 hA ws) rA bA) (ph (ie sA sB) sA) (bxA (G.z ((ws.length:Int)+1) 2 hB ws) rB bB) (ph (ie sA sB) sB)
   else .cau (!fits G.p hA sA) (!fits G.p hB sB) ws
noncomputable def hd0(G:Gv)(r:List Hr):Int:=g0 (cH (G.z 0 1 0 []) r (λ_=>0))
noncomputable def gA(G:Gv)(rA rB:List Hr)(tru:List Int->Int):Oc:=
 if hd0 G rA=hd0 G rB then .agr (hd0 G rA)else fk G rA rB tru G.ns.length [] (bxA (G.z 0 1 0 []) rA (λ_=>0)) (hd0 G rA) (bxA (G.z 0 1 0 []) rB (λ_=>0)) (hd0 G rB)
theorem yH(xA xB:List Int):ie xA xB=0∨ie xA xB=1:=by
 unfold ie
 split
 . exact .inr rfl
 . exact .inl rfl
theorem yE{G:Gv}{hd:Int}{ws:List Int}(k:GmK G.ns G.ts G.p)(n6:G.ns.length<=6)(wl:ws.length<G.ns.length)(wo:∀w∈ws,w=0∨w=1)(h0:0<=hd)(h1:hd<G.p):AkOk (G.z ((ws.length:Int)+1) 2 hd ws):=by
 have p2:=k.p2;erw[k,n6,by show 0<=(ws.length:Int)+1;omega,λ_=>wl,λx hx=>?_,Int.le_refl 0,by show(0:Int)<G.p;omega,h0,h1,by show ws.length<=100;omega];rcases wo x hx with rfl | rfl
 . erw[Int.le_refl 0,by show(0:Int)<G.p;omega]
 . erw[4,by show(1:Int)<G.p;omega]
end
section
variable {CM CA CG CS:Addr}
structure Sd(CS CM:Addr)(H:Hp)(S ds M dm b l g h:Addr)(p n v:Int)(bx:Str->Int)(m:Nat):Prop where
 hS:H S=some (.ins CS ds (sl p M v l))
 hM:H M=some (.ins CM dm (ml g h n b))
 hb:BxAt H b bx m
 SM:S≠M
theorem Sd.same{dm:Addr}(x:Sd CS CM H S ds M dm b l g h p n v bx m)(s:Same H H'):Sd CS CM H' S ds M dm b l g h p n v bx m:=%[s _ _ x.hS,s _ _ x.hM,x.hb.keep λo e=>s _ _ e|x.SM]
noncomputable def cp(ns:List Str)(t:Tr)(ws:List Int):Int:=if t.holds ns ws=true then 1 else 0
theorem pQ{G:Gv}{k:Nat}{ws:List Int}{hA hB x0 x1 y0 y1:Int}(ea:cH (G.z ((ws.length:Int)+1) 2 hA ws) rA bA=[x0,x1])(eb:cH (G.z ((ws.length:Int)+1) 2 hB ws) rB bB=[y0,y1]) :
 fk G rA rB tru (k+1) ws bA hA bB hB=if(x0+x1) % G.p=hA/\(y0+y1) % G.p=hB then fk G rA rB tru k (ws++[if x0=y0 then 1 else 0]) (bxA (G.z ((ws.length:Int)+1) 2 hA ws) rA bA) (if(if x0=y0 then(1:Int)else 0)=0 then x0 else x1) (bxA (G.z ((ws.length:Int)+1) 2 hB ws) rB bB) (if(if x0=y0 then(1:Int)else 0)=0 then y0 else y1)else .cau (!decide ((x0+x1) % G.p=hA)) (!decide ((y0+y1) % G.p=hB)) ws:=by
 show(if fits G.p hA (cH (G.z ((ws.length:Int)+1) 2 hA ws) rA bA)=true/\fits G.p hB (cH (G.z ((ws.length:Int)+1) 2 hB ws) rB bB)=true then fk G rA rB tru k (ws++[ie (cH (G.z ((ws.length:Int)+1) 2 hA ws) rA bA) (cH (G.z ((ws.length:Int)+1) 2 hB ws) rB bB)]) (bxA (G.z ((ws.length:Int)+1) 2 hA ws) rA bA) (ph (ie (cH (G.z ((ws.length:Int)+1) 2 hA ws) rA bA) (cH (G.z ((ws.length:Int)+1) 2 hB ws) rB bB)) (cH (G.z ((ws.length:Int)+1) 2 hA ws) rA bA)) (bxA (G.z ((ws.length:Int)+1) 2 hB ws) rB bB) (ph (ie (cH (G.z ((ws.length:Int)+1) 2 hA ws) rA bA) (cH (G.z ((ws.length:Int)+1) 2 hB ws) rB bB)) (cH (G.z ((ws.length:Int)+1) 2 hB ws) rB bB))else .cau (!fits G.p hA (cH (G.z ((ws.length:Int)+1) 2 hA ws) rA bA)) (!fits G.p hB (cH (G.z ((ws.length:Int)+1) 2 hB ws) rB bB)) ws)=_;rw[ea,eb];have f1:(fits G.p hA [x0,x1]=true)=((x0+x1) % G.p=hA):=propext %[λh=>of_decide_eq_true h|λh=>decide_eq_true h];have f2:(fits G.p hB [y0,y1]=true)=((y0+y1) % G.p=hB):=propext %[λh=>of_decide_eq_true h|λh=>decide_eq_true h]
 by_cases c:(x0+x1) % G.p=hA/\(y0+y1) % G.p=hB
 . rw[zE0 c,zE0 (by rw[f1,f2];exact c)];rfl
 . rw[zB0 c,zB0 (by rw[f1,f2];exact c)];rfl
inductive spSettled(CG:Addr)(vs:List V)(H:Hp)(Q:VK)(u_3:XK):Prop
 |mk:∀(g hA hB:Addr)(ns:List Str)(t:Tr)(p:Int)(rA rB:List Hr),vs=[.ref g,.ref hA,.ref hB]->Gm CG H g ns [t] p->GmK ns [t] p->ns.length<=6->HlpAt H hA rA->HlpAt H hB rB->(∀(a:Addr)(H':Hp),OcAt H' a (gA ⟨ns,[t],p⟩ rA rB (cp ns t))->Same H H'->Q (.ref a) H')->spSettled CG vs H Q u_3
theorem cf:FnScope ["game","one","other","first","second","ways","first_fits","second_fits","way","truth"] ["game","one","other"] (ak kY):=%[1,1,1,4,1,4|4]
theorem uV   (F:Fun K "settled" "settled" kY f fd) (B:Bl mg) (T:STxt K mg CS) (TG:GTxt K mg CG) (MS:Mk K CS fI) (GI:FnOk P w K mg base CX0 29 fI fdI ["self","game","helper"] (spSInit CS CM CG)) (bI:Binds K fdI ["self","game","helper"] []) (mA:Meth K CS "adds_up" fA) (GA:FnOk P w K mg base CX0 29 fA fdA ["self","ways"] (spAdds CS CM CG)) (bA:Binds K fdA ["self","ways"] []) (mG:Meth K CS "go_way" fG) (GG:FnOk P w K mg base CX0 1 fG fdG ["self","way"] (spGo CS)) (bG:Binds K fdG ["self","way"] [])
 (gr:Cal P w K mg base 1 "way_between" ["first","second"] (spWay CS)) (b9:Cal P w K mg base 14 "holds_at" ["tree","switches","setting"] (spHolds 12)):FnOk P w K mg base CX0 31 f fd ["game","one","other"] (spSettled CG):=by
 exists cf
 erw[g,hA,hB,ns,t,p,rA,rB,1,GM,k,n6,LA,LB,q]at h;have hr30:Room (29+1) _:=hr;have hr29:Room 29 _:=hr.mono ⋯;have hr1:Room 1 _:=hr.mono ⋯;refine⟨_,(aa #[am,3,cf,eP MS GI hr30 rfl T.mgC bI .nil bh %[0,1|aH]]
  (aa #[am,4,cf,eP MS GI hr30 rfl T.mgC bI .nil bh %[0,2|aH]]
  (aa (aB (af aI (az (pv 3) rfl) (az (pv 4) rfl) (ai _)) (ad (ao (aG %[au,az (pv 3) rfl|aH]))) av)
  (aa #[am,5,cf,aG aH]
  (aa (gX PassesOwn.never (af cN (aD aE rfl B.len PySem.boot_len %[5|aH]) (aD aE rfl B.len PySem.boot_len %[az (pv 0) rfl|aH]) (ai _)) (aa #[am,6,cf,bq (pv 3) T.cl mA GA hr29 bA .nil bh %[5|aH]]
   (aa #[am,7,cf,bq (pv 4) T.cl mA GA hr29 bA .nil bh %[5|aH]]
   (aa (aB (PW.pt (eD (gN (dj (pv 6))) (dA (gN (dj (pv 7)))))) (ad (ao (aG %[au,uO (pv 6),uO (pv 7),5|aH]))) av)
   (aa #[am,8,cf,ag gr hr ⋯ rfl %[3,4|aH]]
   (aa (ba (bq (pv 3) T.cl mG GG hr1 bG .nil bh %[8|aH]))
   (aa (ba (bq (pv 4) T.cl mG GG hr1 bG .nil bh %[8|aH]))
   (ad #[am,5,cf,aj (qV K) (pv 5) (aG %[8|aH])]))))))))
  (aa #[am,9,cf,kE (dj (ag b9 hr ⋯ rfl %[ay aF (az (pv 0) rfl) ac (λ_ _=>rfl),az (pv 0) rfl,5|aH])) ac ac]
  (ad (ao (aG %[au,cb ji (az (pv 3) rfl) (pv 9) (ai _),cb ji (az (pv 4) rfl) (pv 9) (ai _),5|aH]))))))))),?_⟩
 have p2:=k.p2;have z0:AkOk (%[ns,[t],p,(0),(1),(0),(0)|[]]:Ak):=⟨k,n6,Int.le_refl 0,(λh=>absurd h (by show ¬ (0:Int)<0;decide)),(λx hx=>by cases hx),Int.le_refl 0,(by show(0:Int)<p;omega),Int.le_refl 0,(by show(0:Int)<p;omega),by show 0<=100;decide⟩
 have bz:dN p (λ_=>0):=λx=>%[Int.le_refl 0|by show(0:Int)<p;omega]
 erw[0,0,λS1 d1 hS10 hd10 nS1=>?_];have K1:Same H (upd (upd H d1 (.own S1)) S1 (.ins CS d1 [])):=λa o e=>by
  rw[aq (aN e hS10),aq (aN e hd10)];exact e
 have g1:upd (upd H d1 (.own S1)) S1 (.ins CS d1 []) S1=some (.ins CS d1 []):=aC;generalize upd (upd H d1 (.own S1)) S1 (.ins CS d1 [])=H1 at K1 g1;erw[S1,d1,g,hA,ns,[t],p,rA,1,g1,GM.kp (Kp.of K1),k,n6,LA.mono (aV K1),λM1 m1 b1 l1 v1 H2 M10 b10 l10 hS1 hM1 BX1 ev1 hl1 B2=>%[1|6]];have T2:Same H H2:=Same.but K1 hS10 B2;have sd1:Sd CS CM H2 S1 d1 M1 m1 b1 l1 g hA p 1 v1 _ 200:=⟨hS1,hM1,BX1,aN g1 M10⟩
 erw[0,0,λS2 d2 hS20 hd20 nS2=>?_];have K3:Same H2 (upd (upd H2 d2 (.own S2)) S2 (.ins CS d2 [])):=λa o e=>by
  rw[aq (aN e hS20),aq (aN e hd20)];exact e
 have g3:upd (upd H2 d2 (.own S2)) S2 (.ins CS d2 []) S2=some (.ins CS d2 []):=aC;generalize upd (upd H2 d2 (.own S2)) S2 (.ins CS d2 [])=H3 at K3 g3;erw[S2,d2,g,hB,ns,[t],p,rB,1,g3,GM.kp (Kp.of (T2.trans K3)),k,n6,LB.mono (aV (T2.trans K3)),λM2 m2 b2 l2 v2 H4 M20 b20 l20 hS2 hM2 BX2 ev2 hl2 B4=>%[1|6]];have T24:Same H2 H4:=Same.but K3 hS20 B4;have T4:=T2.trans T24;have sd2:Sd CS CM H4 S2 d2 M2 m2 b2 l2 g hB p 1 v2 _ 200:=⟨hS2,hM2,BX2,aN g3 M20⟩
 have sd1:=sd1.same T24;have eA:hd0 %[ns,[t]|p] rA=v1:=by
  show g0 (cH %[ns,[t],p,(0),(1),(0),(0)|[]] rA (λ_=>0))=v1;rw[ev1];rfl
 have eB:hd0 %[ns,[t]|p] rB=v2:=by
  show g0 (cH %[ns,[t],p,(0),(1),(0),(0)|[]] rB (λ_=>0))=v2;rw[ev2];rfl
 erw[0,S1,CS,d1,_,0,sd1.hS,T.cl,T.nH,qu,0,S2,CS,d2,_,0,sd2.hS,T.cl,T.nH,qu,1,0,6]
 by_cases c:v1=v2
 . refine aR (congrArg V.int c) ?_;erw[0,S1,CS,d1,_,0,sd1.hS,T.cl,T.nH,qu,(by show 2<=sizeLine;decide),λa ha=>?_];refine q a _ ?_ (T4.trans (zC0 ha _));unfold gA;rw[zE0 (by rw[eA,eB];exact c),eA];exact aC
 refine ax (λz=>c (V.int.inj z)) ?_;have v1r:=(cZ (rows:=rA) z0 bz (by show(0:Int)<=1;decide)).1 v1 (by rw[ev1];exact List.mem_singleton.mpr rfl);have v2r:=(cZ (rows:=rB) z0 bz (by show(0:Int)<=1;decide)).1 v2 (by rw[ev2];exact List.mem_singleton.mpr rfl);erw[(by show 0<=sizeLine;decide),λw0 hw0=>?_];have I5:=zC0 hw0 (.tup []);have hw5:upd H4 w0 (.tup []) w0=some (.tup (([]:List Int).map V.int)):=aC;have T5:=T4.trans I5;have sd1:=sd1.same I5;have sd2:=sd2.same I5;show rR _ _ _ _ (upd H4 w0 (.tup []));generalize upd H4 w0 (.tup [])=H5 at I5 hw5 T5 sd1 sd2;have S1n:H S1=none:=hS10;have M1n:H M1=none:=K1.free M10;have b1n:H b1=none:=K1.free b10;have S2n:H S2=none:=T2.free hS20;have M2n:H M2=none:=(T2.trans K3).free M20;have b2n:H b2=none:=(T2.trans K3).free b20;have nSS:S1≠S2:=aN hS1 hS20;have nM1S2:M1≠S2:=aN hM1 hS20;have nMM:M1≠M2:=aN (K3 _ _ hM1) M20;have nS1M2:S1≠M2:=aN (K3 _ _ hS1) M20;let%[kb1,eb1|_]:=id BX1;have nbb:b1≠b2:=aN (K3 _ _ eb1) b20;have e0:fk %[ns,[t]|p] rA rB (cp ns t) ns.length [] (bxA ⟨ns,[t],p,0,1,0,0,[]⟩ rA (λ_=>0)) v1 (bxA %[ns,[t],p,(0),(1),(0),(0)|[]] rB (λ_=>0)) v2=gA %[ns,[t]|p] rA rB (cp ns t):=by
  unfold gA;rw[zB0 (by rw[eA,eB];exact c),eA,eB]
 have bo1:=(cZ (rows:=rA) z0 bz (by show(0:Int)<=1;decide)).2.2;have bo2:=(cZ (rows:=rB) z0 bz (by show(0:Int)<=1;decide)).2.2;erw[λmm σ H'=>∃(ws:List Int)(w l1 l2:Addr)(u1 u2:Int)(bx1 bx2:Str->Int)(z6 z7 z8:Option V),σ=[some (.ref g),some (.ref hA),some (.ref hB),some (.ref S1),some (.ref S2),some (.ref w),z6,z7,z8,none]/\mm=ns.length-ws.length/\ws.length<=ns.length/\(∀x∈ws,x=0∨x=1)/\H' w=some (.tup (ws.map V.int))/\Sd CS CM H' S1 d1 M1 m1 b1 l1 g hA p ((ws.length:Int)+1) u1 bx1 (200*(ws.length+1))/\Sd CS CM H' S2 d2 M2 m2 b2 l2 g hB p ((ws.length:Int)+1) u2 bx2 (200*(ws.length+1))/\dN p bx1/\dN p bx2/\(0<=u1/\u1<p)/\(0<=u2/\u2<p)/\fk %[ns,[t]|p] rA rB (cp ns t) (ns.length-ws.length) ws bx1 u1 bx2 u2=gA ⟨ns,[t],p⟩ rA rB (cp ns t)/\Same H H',%[_,[],w0,l1,l2,v1,v2,_,_,_,2,zW0 _,(λx hx=>by cases hx),hw5,sd1,sd2,bo1,bo2,v1r,v2r,e0|T5],6]
 rintro mm σ H' ⟨ws,w,l1,l2,u1,u2,bx1,bx2,z6,z7,z8,rfl,rfl,wl,wo,hw,sd1,sd2,bo1,bo2,u1r,u2r,er,T'⟩;have GM':=GM.kp (Kp.of T');let%[ga,gb,gd,gtv,%[dx|hg],hga,hgb,TS|hgd]:=id GM';erw[0,w,0,.inr (zD0 hw),0,g,CG,dx,_,0,hg,TG.cl,TG.nS,oH ..,ga,0,.inr (zD0 hga),2,0,6]
 by_cases c1:ws.length<ns.length
 . refine aR (by rw[zH0,zH0];omega) ?_;erw[_,λ_ _ h=>h,6];have zA:=yE (G:=⟨ns,[t],p⟩) (hd:=u1) k n6 c1 wo u1r.1 u1r.2;have zB:=yE (G:=⟨ns,[t],p⟩) (hd:=u2) k n6 c1 wo u2r.1 u2r.2;let%[k1,ek1|_]:=id sd1.hb;let%[k2,ek2|_]:=id sd2.hb;erw[0,S1,d1,0,sd1.hS,CV,0,S1,d1,g,hA,M1,m1,b1,l1,w,ns,[t],p,(ws.length:Int)+1,u1,rA,bx1,200*(ws.length+1),ws,1,sd1.hS,sd1.hM,LA.mono (aV T'),sd1.hb,3,bo1,GM',hw,sd1.SM,zA,λx0 x1 l1' H6 ex hl0 hS6 hl6 hM6 BX6 B6=>?_];have T6:Same H H6:=λa o e=>B6 _ _ (λz=>by rw[z,S1n]at e;cases e) (λz=>by rw[z,M1n]at e;cases e) (λz=>by rw[z,b1n]at e;cases e) (T' _ _ e)
   have hw6:=B6 _ _ (aZ hw sd1.hS (by intro z;cases z)) (aZ hw sd1.hM (by intro z;cases z)) (aZ hw ek1 (by intro z;cases z)) hw;have sd2':Sd CS CM H6 S2 d2 M2 m2 b2 l2 g hB p ((ws.length:Int)+1) u2 bx2 (200*(ws.length+1)):=%[B6 _ _ nSS.symm nM1S2.symm (aZ sd2.hS ek1 (by intro z;cases z)) sd2.hS,B6 _ _ nS1M2.symm nMM.symm (aZ sd2.hM ek1 (by intro z;cases z)) sd2.hM,sd2.hb.keep (λo e=>B6 _ _ (aZ ek2 sd1.hS (by intro z;cases z)) (aZ ek2 sd1.hM (by intro z;cases z)) nbb.symm e)|sd2.SM]
   erw[0,S2,d2,0,sd2'.hS,CV,0,S2,d2,g,hB,M2,m2,b2,l2,w,ns,[t],p,(ws.length:Int)+1,u2,rB,bx2,200*(ws.length+1),ws,1,sd2'.hS,sd2'.hM,LB.mono (aV T6),sd2'.hb,3,bo2,GM.kp (Kp.of T6),hw6,sd2'.SM,zB,λy0 y1 l2' H7 ey hl0' hS7 hl7 hM7 BX7 B7=>?_];have T7:Same H H7:=λa o e=>B7 _ _ (λz=>by rw[z,S2n]at e;cases e) (λz=>by rw[z,M2n]at e;cases e) (λz=>by rw[z,b2n]at e;cases e) (T6 _ _ e)
   let%[k3,ek3|_]:=id sd2'.hb;let%[k4,ek4|_]:=id BX6;have hw7:=B7 _ _ (aZ hw6 sd2'.hS (by intro z;cases z)) (aZ hw6 sd2'.hM (by intro z;cases z)) (aZ hw6 ek3 (by intro z;cases z)) hw6;have hS17:=B7 _ _ nSS nS1M2 (aZ hS6 ek3 (by intro z;cases z)) hS6;have hM17:=B7 _ _ nM1S2 nMM (aZ hM6 ek3 (by intro z;cases z)) hM6;have hl17:=B7 _ _ (aZ hl6 sd2'.hS (by intro z;cases z)) (aZ hl6 sd2'.hM (by intro z;cases z)) (aZ hl6 ek3 (by intro z;cases z)) hl6;have BX17:=BX6.keep (λo e=>B7 _ _ (aZ ek4 sd2'.hS (by intro z;cases z)) (aZ ek4 sd2'.hM (by intro z;cases z)) nbb e);have st:=pQ (tru:=cp ns t) (k:=ns.length-(ws.length+1)) (G:=%[ns,[t]|p]) ex ey;rw[show ns.length-ws.length=ns.length-(ws.length+1)+1 by omega,st]at er;have cau:∀(H8:Hp) (a:Addr),H7 a=none->H8=upd H7 a (.tup [.str "caught",.bl (!decide ((x0+x1) % p=u1)),.bl (!decide ((y0+y1) % p=u2)),.ref w])->¬ ((x0+x1) % p=u1/\(y0+y1) % p=u2)->Q (.ref a) H8:=λH8 a ha e8 nc=>by
    rw[zB0 nc]at er;rw[←er]at q;subst e8;exact q a _ %[w,aC|zC0 ha _ _ _ hw7] (T7.trans (zC0 ha _))
   erw[0,0,6]
   by_cases fa:(x0+x1) % p=u1
   . rw [decide_eq_true fa];refine cG ?_;erw[0,0,6]
     by_cases fb:(y0+y1) % p=u2
     . rw [decide_eq_true fb];refine cG ?_;rw[zE0 %[fa|fb]]at er;erw[0,0,S1,d1,M1,l1',S2,d2,M2,l2',p,u1,x0,x1,p,u2,y0,y1,1,hS17,hl17,hS7,hl7,6];obtain⟨wy,ewy,w01⟩:∃wy:Int,(if x0=y0 then(1:Int)else 0)=wy/\(wy=0∨wy=1):=⟨_,rfl,by split <;> simp⟩
       rw[ewy]at er ⊢;erw[0,S1,d1,0,hS17,CU,0,S1,d1,M1,l1',p,u1,x0,x1,wy,1,hS17,hl17,w01,λH8 hS8 B8=>?_];have hS28:=B8 _ _ nSS.symm hS7;have hl28:=B8 _ _ (aZ hl7 hS17 (by intro z;cases z)) hl7;erw[0,S2,d2,0,hS28,CU,0,S2,d2,M2,l2',p,u2,y0,y1,wy,1,hS28,hl28,w01,λH9 hS9 B9=>?_];have X9:∀{a:Addr}{o:HO},a≠S1->a≠S2->H7 a=some o->H9 a=some o:=λn1 n2 e=>B9 _ _ n2 (B8 _ _ n1 e)
       have T9:Same H H9:=λa o e=>X9 (λz=>by rw[z,S1n]at e;cases e) (λz=>by rw[z,S2n]at e;cases e) (T7 _ _ e)
       have hw9:=X9 (aZ hw7 hS17 (by intro z;cases z)) (aZ hw7 hS7 (by intro z;cases z)) hw7;let%[k7,ek7|_]:=id BX7;let%[k8,ek8|_]:=id BX17;have sdA:Sd CS CM H9 S1 d1 M1 m1 b1 l1' g hA p (((ws++[wy]).length:Int)+1) (if wy=0 then x0 else x1) (bxA ((%[ns,[t]|p]:Gv).z ((ws.length:Int)+1) 2 u1 ws) rA bx1) (200*((ws++[wy]).length+1)):=by
        rw[zJ0];erw[B9 _ _ nSS hS8,6,(BX17.keep λo e=>X9 (aZ ek8 hS17 (by intro z;cases z)) (aZ ek8 hS7 (by intro z;cases z)) e).le (by show _<=200*(ws.length+1+1);omega),sd1.SM];exact X9 sd1.SM.symm nM1S2 hM17
       have sdB:Sd CS CM H9 S2 d2 M2 m2 b2 l2' g hB p (((ws++[wy]).length:Int)+1) (if wy=0 then y0 else y1) (bxA ((%[ns,[t]|p]:Gv).z ((ws.length:Int)+1) 2 u2 ws) rB bx2) (200*((ws++[wy]).length+1)):=by
        rw[zJ0];erw[hS9,6,(BX7.keep λo e=>X9 (aZ ek7 hS17 (by intro z;cases z)) (aZ ek7 hS7 (by intro z;cases z)) e).le (by show _<=200*(ws.length+1+1);omega),sd2.SM];exact X9 nS1M2.symm sd2.SM.symm hM7
       have so1:=cZ (rows:=rA) zA bo1 (by show(0:Int)<=2;decide);have so2:=cZ (rows:=rB) zB bo2 (by show(0:Int)<=2;decide);have r1:0<=(if wy=0 then x0 else x1)/\(if wy=0 then x0 else x1)<p:=so1.1 _ (by rw[ex];split <;> simp);have r2:0<=(if wy=0 then y0 else y1)/\(if wy=0 then y0 else y1)<p:=so2.1 _ (by rw[ey];split <;> simp);have wo':∀x∈ws++[wy],x=0∨x=1:=λx hx=>by
        rcases qD0 hx with h | h
        . exact wo x h
        . rw[zM0 h];exact w01
       have wl':(ws++[wy]).length=ws.length+1:=by rw[zJ0];rfl
       erw[0,0,(by show 1<=sizeLine;decide),λtw htw=>?_];have IW:=zC0 htw (.tup [.int wy])
       by_cases hws:ws=[]
       . refine .inr %[w,tw,[.int wy],1,1,zD0 (by rw[IW _ _ hw9,hws];rfl),zD0 aC|6];erw[ns.length-(ws.length+1),(by show _<ns.length-ws.length;omega),ws++[wy],tw,l1',l2',_,_,_,_,_,_,0,by rw[wl'],by rw[wl'];exact c1,wo',by rw[aC,hws];rfl,sdA.same IW,sdB.same IW,so1.2.2,so2.2.2,r1,r2,by rw[wl'];exact er,T9.trans IW]
       . refine .inl %[w,tw,ws.map V.int,[.int wy],1,1,zD0 (IW _ _ hw9),zD0 aC,(λz=>hws (List.map_eq_nil_iff.mp z)),bK (by rw[zH0];show ws.length+1<=1000;omega),(λz=>by cases z)|λ_ wn hwn=>?_];have IN:=IW.trans (zC0 hwn (.tup (ws.map V.int++[.int wy])));erw[ns.length-(ws.length+1),(by show _<ns.length-ws.length;omega),ws++[wy],wn,l1',l2',_,_,_,_,_,_,0,by rw[wl'],by rw[wl'];exact c1,wo',by rw[aC,zO0];rfl,sdA.same IN,sdB.same IN,so1.2.2,so2.2.2,r1,r2,by rw[wl'];exact er,T9.trans IN]
     . rw[decide_eq_false fb];refine du ?_;erw[0,0,0,0,0,(by show 4<=sizeLine;decide),λa ha=>?_];exact cau _ a ha (by rw[decide_eq_true fa,decide_eq_false fb]) (λh=>fb h.2)
   . rw[decide_eq_false fa];refine du ?_;erw[0,0,0,0,0,(by show 4<=sizeLine;decide),λa ha=>?_];exact cau _ a ha (by rw[decide_eq_false fa]) (λh=>fa h.1)
 . refine ax (by rw[zH0,zH0];omega) ?_;have we:ws.length=ns.length:=by omega
   have tv1:∃v,gtv=[v]/\TreeAt H' v t:=by
    cases TS with
    | cons a r=>cases r;erw[0,a]
   erw[tv,1,TT]at tv1;have tk:=k.tok t zY0;rw[show ns.length-ws.length=0 by omega]at er;have er':Oc.cau (!decide (u1=cp ns t ws)) (!decide (u2=cp ns t ws)) ws=gA %[ns,[t]|p] rA rB (cp ns t):=er;erw[0,g,CG,dx,_,0,hg,TG.cl,TG.nT,qb ..,gb,_,(0),tv,1,1,zD0 hgb,1,0,g,CG,dx,_,0,hg,TG.cl,TG.nS,oH ..,0,tv,t,ga,w,ns,ws,1,TT,tk.1,zQ0 tk.2.2.1 ⋯,.inr hga,hw,we,0,6];have fin:∀(tr:Int),cp ns t ws=tr->∀(a:Addr),H' a=none->Q (.ref a) (upd H' a (.tup [.str "caught",.bl (!decide (V.int u1=V.int tr)),.bl (!decide (V.int u2=V.int tr)),.ref w])):=λtr etr a ha=>by
    rw [←er',etr]at q;have dd:∀u:Int,decide (V.int u=V.int tr)=decide (u=tr):=λu=>by
     by_cases c:u=tr
     . rw[decide_eq_true c,decide_eq_true (congrArg V.int c)]
     . rw[decide_eq_false c,decide_eq_false (λz=>c (V.int.inj z))]
    rw[dd u1,dd u2];exact q a _ %[w,aC|zC0 ha _ _ _ hw] (T'.trans (zC0 ha _))
   cases hh:t.holds ns ws with
   | true=>
     refine du ?_;erw[0,S1,CS,d1,_,0,sd1.hS,T.cl,T.nH,qu,0,1,0,S2,CS,d2,_,0,sd2.hS,T.cl,T.nH,qu,0,1,0,(by show 4<=sizeLine;decide),λa ha=>?_];exact fin 1 (by unfold cp;rw[hh];rfl) a ha
   | false=>
     refine cG ?_;erw[0,S1,CS,d1,_,0,sd1.hS,T.cl,T.nH,qu,0,1,0,S2,CS,d2,_,0,sd2.hS,T.cl,T.nH,qu,0,1,0,(by show 4<=sizeLine;decide),λa ha=>?_];exact fin 0 (by unfold cp;rw[hh];rfl) a ha
end
def NdAt(H:Hp)(d:Addr)(ns:List Str)(pt:List Int):Prop:=∃kvs:List (Key×V),H d=some (.dK kvs)/\∀(x:Str)(j:Nat),cK x ns=some j->di kvs (Sum.inr x)=some (.int (pt.getD j 0))
theorem NdAt.same(h:NdAt H d ns pt)(S:Same H H'):NdAt H' d ns pt:=by
 erw[kvs,e,r]at h;erw[kvs,S _ _ e,r]
theorem yb{p x y:Int}(hp:1<p)(bx cy:Bool)(hx:x=if bx then 1 else 0)(hy:y=if cy then 1 else 0):dr p o x y=if gZ o bx cy then 1 else 0:=by
 have m0:(0:Int) % p=0:=Int.zero_emod p;have m1:(1:Int) % p=1:=qR0 ⋯ hp;subst hx hy;unfold dr gZ;cases bx <;> cases cy <;> (repeat' split) <;> simp_all
theorem eR{ns:List Str}{st:List Int}{p:Int}(hp:1<p)(h:∀x∈st,x=0∨x=1)(hl:st.length=ns.length):∀t:Tr,t.ok ns->t.worth ns st p=if t.holds ns st then 1 else 0
 | .is x,ok=>by
   let%[j,hj|jl]:=eI ok;show(match cK x ns with | some j=>st.getD j 0 | none=>0)=if(match cK x ns with | some j=>decide (st.getD j 0=1) | none=>false)=true then 1 else 0
   rw[hj];show st.getD j 0=if decide (st.getD j 0=1)=true then 1 else 0
   rw[oJ #[0]];rcases h _ (qP0 (show j<st.length by omega))with e | e <;> rw[e] <;> rfl
 | .yes,_=>rfl
 | .no,_=>rfl
 | .not a,ok=>by
   have m0:(0:Int) % p=0:=Int.zero_emod p;have m1:(1:Int) % p=1:=qR0 ⋯ hp;show(1-a.worth ns st p) % p=if(!a.holds ns st)=true then 1 else 0
   rw[eR hp h hl a ok];cases a.holds ns st
   . exact m1
   . exact m0
 | .bin o a b,⟨_,k1,k2⟩=>yb hp _ _ (eR hp h hl a k1) (eR hp h hl b k2)
structure GmT(H:Hp)(gh a b:Addr)(ns:List Str)(tv:List V)(ts:List Tr)(p:Int):Prop where
 hg:H gh=some (.tup [.ref a,.ref b,.int p])
 ha:H a=some (.tup (ns.map V.str))
 hb:H b=some (.tup tv)
 tr:TreesAt H tv ts
theorem GmT.mono(h:GmT H gh a b ns tv ts p)(k:bY H H'):GmT H' gh a b ns tv ts p:=%[k _ _ h.hg,k _ _ h.ha,k _ _ h.hb|h.tr.mono k]
theorem sv:∀{ns:List Str}{j:Nat},cK x ns=some j->ns[j]?=some x
 | [],j,h=>by simp [cK]at h
 | a::r,j,h=>by
   unfold cK at h
   by_cases c:a=x
   . rw[zE0 c]at h;cases h;rw[c];rfl
   . rw[zB0 c]at h;let%[i,hi|1]:=qV0 h;show r[i]?=some x;exact sv hi
theorem iQ{k:Key}:∀(more acc:List (Key×V)),k∉more.map (·.1)->di (dY acc more) k=di acc k
 | [],acc,_=>rfl
 | kv::r,acc,h=>by
   have h1:k≠kv.1:=λe=>h (by rw[e];exact zY0)
   have h2:k∉r.map (·.1):=λe=>h (qG0 _ e)
   show di (dY (gV acc kv.1 kv.2) r) k=_;rw[iQ r _ h2,mH,zB0 h1]
theorem iR{k:Key}{v:V}:∀(more acc:List (Key×V)),(more.map (·.1)).Nodup->(k,v)∈more->di (dY acc more) k=some v
 | [],_,_,h=>by cases h
 | kv::r,acc,nd,h=>by
   have nd':kv.1∉r.map (·.1)/\(r.map (·.1)).Nodup:=List.nodup_cons.mp nd;show di (dY (gV acc kv.1 kv.2) r) k=_;rcases zV0 h with e | e
   . subst e;rw[iQ r _ nd'.1,mH,zE0 rfl]
   . exact iR r _ nd'.2 e
def ndL(ns:List Str)(pt:List Int):List (Key×V):=List.zipWith (fun(x:Str)(n:Int)=>((Sum.inr x:Key),V.int n)) ns pt
theorem Ap{ns:List Str}{pt:List Int}{j:Nat}{x:Str}{n:Int}(h1:ns[j]?=some x)(h2:pt[j]?=some n):(ndL ns pt)[j]?=some (Sum.inr x,V.int n):=by
 unfold ndL;rw[List.getElem?_zipWith,h1,h2]
theorem Ce{ns:List Str}{pt:List Int}(h:pt.length=ns.length):(ndL ns pt).length=ns.length:=by
 unfold ndL;rw[List.length_zipWith,h,Nat.min_self]
theorem sL:∀{ns:List Str}{pt:List Int},pt.length=ns.length->(ndL ns pt).map (·.1)=ns.map λx=>(Sum.inr x:Key)
 | [],[],_=>rfl
 | a::ns,b::pt,h=>by
   have:=sL (ns:=ns) (pt:=pt) (by simpa using h)
   show(Sum.inr a:Key)::(ndL ns pt).map (·.1)=_;rw[this];rfl
 | [],_::_,h=>by simp at h
 | _::_,[],h=>by simp at h
theorem DX{ns:List Str}{pt:List Int}(nd:ns.Nodup)(hl:pt.length=ns.length)(x:Str)(j:Nat)(h:cK x ns=some j):di (dY [] (ndL ns pt)) (Sum.inr x)=some (.int (pt.getD j 0)):=by
 have h1:=sv h;have jl:j<pt.length:=by
  have:=(zX0 h1).1
  omega
 have h2:pt[j]?=some pt[j]:=zN0 jl;have nk:((ndL ns pt).map (·.1)).Nodup:=by
  rw[sL hl];exact List.Pairwise.map _ (λa b (hab:a≠b) e=>hab (Sum.inr.inj e)) nd
 rw[iR _ _ nk (qI0 (Ap h1 h2)),qS0,h2];rfl
theorem wC(p w:Int)(h0:0<=w)(h1:w<p):hor 0 p [w]=w:=by
 show(0*0+w) % p=w;rw[Int.mul_zero,Int.zero_add];exact qR0 h0 h1
theorem nd_at{ns:List Str}(nd:ns.Nodup){i j:Nat}{z:Str}(hi:ns[i]?=some z)(hj:ns[j]?=some z):i=j:=by
 let%[h1|e1]:=zX0 hi;let%[h2|e2]:=zX0 hj;rcases Nat.lt_trichotomy i j with h | h | h
 . exact absurd (e1.trans e2.symm) (List.pairwise_iff_getElem.mp nd i j h1 h2 h)
 . exact h
 . exact absurd (e2.trans e1.symm) (List.pairwise_iff_getElem.mp nd j i h2 h1 h)
theorem zq{pt:List Int}{j i:Nat}{x:Int}(hj:j<pt.length):(pt.set j x).getD i 0=if i=j then x else pt.getD i 0:=by
 rw[qS0,qS0,List.getElem?_set]
 by_cases c:j=i
 . subst c
   simp [hj]
 . rw[zB0 c,zB0 (Ne.symm c)]
theorem ib{ns:List Str}{pt:List Int}{p:Int}{j:Nat}{y:Str}(hy:ns[j]?=some y)(hl:pt.length=ns.length)(nd:ns.Nodup):∀t:Tr,t.ok ns->∃f:Int->Int,IsPoly (t.names.count y+1) f/\∀x:Int,p ∣ t.worth ns (pt.set j x) p-f x
 | .is z,ok=>by
   have jl:j<ns.length:=(zX0 hy).1;let%[i,hi|il]:=eI ok;have hz:=(nU hi).1;have e:∀x,(Tr.is z).worth ns (pt.set j x) p=if i=j then x else pt.getD i 0:=λx=>by
    show(match cK z ns with | some j'=>(pt.set j x).getD j' 0 | none=>0)=_;rw[hi];exact zq #[0]
   by_cases c:i=j
   . subst c;have ez:z=y:=zU0 (hz.symm.trans hy);subst ez;erw[λx=>x,6,λx=>%[(0)|by rw[e x,zE0 rfl];simp]]
     have:(Tr.is z).names.count z=1:=by simp [Tr.names]
     rw[this];exact IsPoly.self
   . have ez:z≠y:=λh=>c (by
      subst h;exact nd_at nd hz hy)
     erw[λ_=>pt.getD i 0,6,λx=>%[(0)|by rw[e x,zB0 c];simp]];exact IsPoly.const _ _
 | .yes,_=>%[λ_=>1,IsPoly.const _ _|λx=>%[(0)|by show(1:Int)-1=_;simp]]
 | .no,_=>%[λ_=>0,IsPoly.const _ _|λx=>%[(0)|by show(0:Int)-0=_;simp]]
 | .not a,ok=>by
   let%[f,hf|h]:=ib (p:=p) hy hl nd a ok;erw[λx=>1+(-1)*f x,(IsPoly.const 1 _).add (hf.mul (-1)),λx=>?_];let%[k|hk]:=h x;let%[m|hm]:=oN p (1-a.worth ns (pt.set j x) p);show p ∣ (1-a.worth ns (pt.set j x) p) % p-_;erw[m-k,by grind]
 | .bin o a b,⟨_,ok1,ok2⟩=>by
   let%[f,hf|h]:=ib (p:=p) hy hl nd a ok1;let%[g,hg|h']:=ib (p:=p) hy hl nd b ok2;have ec:(Tr.bin o a b).names.count y+1=a.names.count y+b.names.count y+1:=by
    show(a.names++b.names).count y+1=_;rw[List.count_append]
   rw [ec];have hF:IsPoly (a.names.count y+b.names.count y+1) f:=hf.upTo _ #[0];have hG:IsPoly (a.names.count y+b.names.count y+1) g:=hg.upTo _ #[0];have hP:=hf.prod hg;have fin:∀(c0 c1 c2:Int),(∀u v:Int,dr p o u v=(c0+c1*(u+v)+c2*(u*v)) % p)->∃F:Int->Int,IsPoly (a.names.count y+b.names.count y+1) F/\∀x:Int,p ∣ (Tr.bin o a b).worth ns (pt.set j x) p-F x:=λc0 c1 c2 hJ=>by
    erw[λx=>c0+c1*(f x+g x)+c2*(f x*g x),((IsPoly.const c0 _).add ((hF.add hG).mul c1)).add (hP.mul c2),λx=>?_];let%[k|hk]:=h x;let%[l|hl]:=h' x;show p ∣ dr p o (a.worth ns (pt.set j x) p) (b.worth ns (pt.set j x) p)-_;rw[hJ];generalize a.worth ns (pt.set j x) p=u at *
    generalize b.worth ns (pt.set j x) p=v at *
    let%[m|hm]:=oN p (c0+c1*(u+v)+c2*(u*v));erw[m+c1*(k+l)+c2*(k*v+f x*l),by grind]
   by_cases c1:o="and"
   . exact fin 0 0 1 λu v=>by unfold dr;rw[zE0 c1];congr 1;grind
   by_cases c2:o="or"
   . exact fin 0 1 (-1) λu v=>by unfold dr;rw[zB0 c1,zE0 c2];congr 1;grind
   by_cases c3:o="odd"
   . exact fin 0 1 (-2) λu v=>by unfold dr;rw[zB0 c1,zB0 c2,zE0 c3];congr 1;grind
   . exact fin 1 (-1) 2 λu v=>by unfold dr;rw[zB0 c1,zB0 c2,zB0 c3];congr 1;grind
theorem sN{ns:List Str}{pt:List Int}{p:Int}{j D:Nat}{y:Str}(hy:ns[j]?=some y)(hl:pt.length=ns.length)(nd:ns.Nodup):∀ts:List Tr,(∀t∈ts,t.ok ns/\t.names.count y<=D)->∃f:Int->Int,IsPoly (D+1) f/\∀x:Int,p ∣ fZ s (ts.map λt=>t.worth ns (pt.set j x) p)-f x
 | [],_=>%[λ_=>0,IsPoly.const _ _|λx=>%[(0)|by simp [fZ]]]
 | t::ts,h=>by
   let%[f,hf|h1]:=ib (p:=p) hy hl nd t (h t zY0).1;let%[g,hg|h2]:=sN (p:=p) (s:=s) hy hl nd ts λu hu=>h u (qG0 _ hu)
   have hd:=(h t zY0).2;erw[λx=>f x+s*g x,(hf.upTo _ #[0]).add (hg.mul s),λx=>?_];let%[k|hk]:=h1 x;let%[l|hl]:=h2 x;show p ∣ t.worth ns (pt.set j x) p+s*fZ s (ts.map λt=>t.worth ns (pt.set j x) p)-_;erw[k+s*l,by grind]
theorem yK(hp:Pm p){xs:List Int}{f:Int->Int}(hn:(xs.length:Int)<=p)(hf:IsPoly xs.length f)(h:∀k,k<xs.length->p ∣ xs.getD k 0-f k)(r:Int):val p xs r=f r % p:=
 md (sT hp hn (tX hp hn) hf h r)
theorem EA{ts:List Tr}{x:Str}:∀t∈ts,t.names.count x<=(bL ts x).toNat:=λt ht=>by
 have:=Ch (d:=0) (List.mem_map.mpr %[t,ht|1]:((t.names.count x:Nat):Int)∈ts.map λt=>(t.names.count x:Int))
 unfold bL;omega
theorem vS:∀(cs st:List Int)(x z:Int),(cs++[z]++st).set cs.length x=cs++[x]++st
 | [],_,_,_=>rfl
 | a::cs,st,x,z=>congrArg (a::·) (vS cs st x z)
theorem rT{ns:List Str}{cs:List Int}{p:Int}{D:Nat}{y:Str}{ts:List Tr}(hy:ns[cs.length]?=some y)(nd:ns.Nodup)(h:∀t∈ts,t.ok ns/\t.names.count y<=D):∀l:List (List Int),(∀st∈l,cs.length+1+st.length=ns.length) ->
 ∃f:Int->Int,IsPoly (D+1) f/\∀x:Int,p ∣ (l.map λst=>fZ s (ts.map λt=>t.worth ns (cs++[x]++st) p)).sum-f x
 | [],_=>%[λ_=>0,IsPoly.const _ _|λx=>%[(0)|by simp]]
 | st::l,hs=>by
   let%[f,hf|h1]:=sN (p:=p) (s:=s) (pt:=cs++[0]++st) hy (by rw[zJ0,zJ0,qK0];exact hs st zY0) nd ts h;let%[g,hg|h2]:=rT (p:=p) (s:=s) hy nd h l λu hu=>hs u (qG0 _ hu)
   erw[λx=>f x+g x,hf.add hg,λx=>?_];let%[k|hk]:=h1 x;rw[vS]at hk;let%[m|hm]:=h2 x;erw[k+m,6];simp only[qC0,List.sum_cons];rw[Int.mul_add];omega
theorem kU:∀(n:Nat)(s:List Int),s∈cq n->s.length=n
 | 0,s,h=>by rw[zM0 h];rfl
 | n+1,s,h=>by
   let%[t,ht|h]:=List.mem_flatMap.mp h
   have:=kU n t ht
   rcases zV0 h with h | h
   . rw[h,zJ0,this];rfl
   . rw[zM0 h,zJ0,this];rfl
theorem Br{ns:List Str}{ts:List Tr}{cs:List Int}{y:Str}(hp:Pm p)(hy:ns[cs.length]?=some y)(nd:ns.Nodup)(ok:∀t∈ts,t.ok ns)(tne:ts≠[])(dp:bL ts y<p)(r:Int) :
 val p (iL ns ts s p cs (bL ts y+1).toNat) r=bv ns ts s p (cs++[r]):=by
 have cl:cs.length<ns.length:=(zX0 hy).1;have d0:=tH (x:=y) tne;let%[f,hf|h]:=rT (p:=p) (s:=s) hy nd (λt ht=>%[ok t ht|EA t ht]) (cq (ns.length-(cs.length+1))) λst hst=>by
  have:=kU _ _ hst
  omega
 have ll:(iL ns ts s p cs (bL ts y+1).toNat).length=(bL ts y).toNat+1:=by
  unfold iL;rw[zH0,qO0];omega
 have eq:∀x:Int,bv ns ts s p (cs++[x])=((cq (ns.length-(cs.length+1))).map λst=>fZ s (ts.map λt=>t.worth ns (cs++[x]++st) p)).sum % p:=λx=>by
  unfold bv;rw[zJ0,qK0]
 rw [yK hp (f:=f) (by rw[ll];omega) (by rw[ll];exact hf) (λk hk=>by
  have e:(iL ns ts s p cs (bL ts y+1).toNat).getD k 0=bv ns ts s p (cs++[(k:Int)]):=by
   unfold iL at hk ⊢;rw[zH0,qO0]at hk;rw[qS0,qE0,List.getElem?_range hk];rfl
  rw[e,eq];let%[a|ha]:=h k;let%[b|hb]:=oN p ((cq (ns.length-(cs.length+1))).map λst=>fZ s (ts.map λt=>t.worth ns (cs++[(k:Int)]++st) p)).sum;erw[a+b,by grind]) r,eq]
 let%[a|ha]:=h r;exact md %[-a|by grind]
theorem vM{α:Type}(F:List α->Int)(G:List α->Int):∀l:List (List α),(l.map λs=>F s+G s).sum=(l.map F).sum+(l.map G).sum
 | []=>rfl
 | a::l=>by
   simp only[qC0,List.sum_cons,vM F G l];omega
theorem mI(F:List Int->Int):∀l:List (List Int),((l.flatMap λs=>[s++[0],s++[1]]).map F).sum=(l.map λs=>F (s++[0])+F (s++[1])).sum
 | []=>rfl
 | a::l=>by
   rw[List.flatMap_cons,zO0,List.sum_append,mI F l]
   simp
theorem lI:∀(n:Nat)(F:List Int->Int),((cq (n+1)).map F).sum=((cq n).map λs=>F (0::s)+F (1::s)).sum
 | 0,F=>by simp [cq]
 | n+1,F=>by
   have e1:((cq (n+1+1)).map F).sum=((cq (n+1)).map λs=>F (s++[0])+F (s++[1])).sum:=mI F _;rw[e1,lI n λs=>F (s++[0])+F (s++[1])];have e2:((cq (n+1)).map λs=>F (0::s)+F (1::s)).sum=((cq n).map λs=>(F (0::(s++[0]))+F (1::(s++[0])))+(F (0::(s++[1]))+F (1::(s++[1])))).sum:=mI (λs=>F (0::s)+F (1::s)) _;rw[e2]
   congr 1
   refine List.map_congr_left λs _=>?_
   show F (0::s++[0])+F (0::s++[1])+(F (1::s++[0])+F (1::s++[1]))=_;simp only[List.cons_append];omega
theorem xt{ns:List Str}{cs:List Int}(cl:cs.length<ns.length):(bv ns ts s p (cs++[0])+bv ns ts s p (cs++[1])) % p=bv ns ts s p cs:=by
 have eq:∀x:Int,bv ns ts s p (cs++[x])=((cq (ns.length-(cs.length+1))).map λst=>fZ s (ts.map λt=>t.worth ns (cs++[x]++st) p)).sum % p:=λx=>by
  unfold bv;rw[zJ0,qK0]
 have e0:bv ns ts s p cs=((cq (ns.length-(cs.length+1)+1)).map λst=>fZ s (ts.map λt=>t.worth ns (cs++st) p)).sum % p:=by
  unfold bv;rw[show ns.length-cs.length=ns.length-(cs.length+1)+1 by omega]
 rw [e0,lI,eq,eq];have e1:((cq (ns.length-(cs.length+1))).map λst=>fZ s (ts.map λt=>t.worth ns (cs++0::st) p)+fZ s (ts.map λt=>t.worth ns (cs++1::st) p)).sum
  = ((cq (ns.length-(cs.length+1))).map λst=>fZ s (ts.map λt=>t.worth ns (cs++[0]++st) p)).sum+((cq (ns.length-(cs.length+1))).map λst=>fZ s (ts.map λt=>t.worth ns (cs++[1]++st) p)).sum:=by
  rw[←vM]
  congr 1
  refine List.map_congr_left λst _=>?_
  simp only[List.append_assoc,List.singleton_append]
 rw[e1,←Int.add_emod]
theorem BI{ns:List Str}{cs:List Int}(cl:cs.length=ns.length):bv ns ts s p cs=hor s p (ts.map λt=>t.worth ns cs p):=by
 rw[kJ];unfold bv;rw[cl,Nat.sub_self]
 simp [cq]
theorem rQ(k:AkOk z)(nd:z.ns.Nodup)(i:Int)(h:0<z.nr):dG z i=bv z.ns z.ts z.s z.p (z.to++[i]):=by
 let%[x,hx,ex,d0,d1|d4]:=k.deg h;unfold dG;rw[zE0 h];have e:z.tru=iL z.ns z.ts z.s z.p z.to (bL z.ts x+1).toNat:=by
  unfold Ak.tru;rw[zB0 #[0],ex]
 have t0:z.ts≠[]:=λe=>by have:=k.gk.t1;rw[e]at this;cases this
 rw[e];exact Br (wa k.gk.pr (by have:=k.gk.p9;omega)) hx nd (λt ht=>(k.gk.tok t ht).1) t0 d1 i
theorem yN{z:Ak}(h:z.nr=0)(i:Nat){t:Tr}(ht:z.ts[i]?=some t):dG z (i:Int)=(cnt t z.ns:Int) % z.p:=by
 have hl:=(zX0 ht).1;unfold dG;have e:z.tru=z.ts.map (λt=>(cnt t z.ns:Int)):=by
  unfold Ak.tru;rw[zE0 h]
 rw[zB0 #[0],e,zH0,zE0 #[0],qQ0,qS0,qE0,ht];rfl
theorem nV(s:Int){α:Type}(F:Tr->α->Int)(l:List α):∀ts:List Tr,fZ s (ts.map λt=>(l.map (F t)).sum)=(l.map λa=>fZ s (ts.map λt=>F t a)).sum
 | []=>by
   simp only[List.map_nil,fZ]
   induction l with
   | nil=>rfl
   | cons a l ih=>simpa using ih
 | t::ts=>by
   show(l.map (F t)).sum+s*fZ s (ts.map λt=>(l.map (F t)).sum)=_;rw[nV s F l ts];clear nV
   induction l with
   | nil=>simp
   | cons a l ih=>
     simp only[qC0,List.sum_cons,fZ]at ih ⊢
     grind
theorem EE{ns:List Str}{p:Int}(hp:1<p){t:Tr}(ok:t.ok ns):(cnt t ns:Int)=((cq ns.length).map λst=>t.worth ns st p).sum:=by
 unfold cnt;have h:∀st∈cq ns.length,t.worth ns st p=if t.holds ns st then 1 else 0:=λst hst=>eR hp (kf _ _ hst) (kU _ _ hst) t ok
 generalize cq ns.length=l at h
 induction l with
 | nil=>rfl
 | cons a l ih=>
   have ih:=ih λst hst=>h st (qG0 _ hst)
   rw[qC0,List.sum_cons,←ih,h a zY0,List.filter_cons];cases t.holds ns a
   . simp
   . simp only[if_true,zT0];omega
theorem vi{ns:List Str}{ts:List Tr}{p:Int}(hp:1<p)(ok:∀t∈ts,t.ok ns):hor s p (ts.map λt=>(cnt t ns:Int))=bv ns ts s p []:=by
 rw[kJ];unfold bv;have e:(ts.map λt=>(cnt t ns:Int))=ts.map λt=>((cq ns.length).map λst=>t.worth ns st p).sum:=List.map_congr_left λt ht=>EE hp (ok t ht)
 rw[e,nV s (λt st=>t.worth ns st p)];rfl
section
variable {ns:List Str} {ts:List Tr} {p:Int}
def de(z:Ak)(n:Nat):List Int:=(List.range n).map λk:Nat=>dG z ((k:Int) % z.p)
theorem gP(z:Ak)(n:Nat):(de z n).length=n:=by unfold de;rw[zH0,qO0]
theorem ue(z:Ak)(n:Nat):de z (n+1)=de z n++[dG z ((n:Int) % z.p)]:=by
 unfold de;rw[List.range_succ,zO0];rfl
theorem uS(z:Ak){n:Nat}(h:z.mn=(n:Int)):qR z.mn (de z n)=de z n:=by
 unfold qR;rw[gP,h,Int.sub_self];exact List.append_nil _
theorem ne_tc:¬ (("true":Str)="coin"):=by decide
def hB (x:Str):List Hr:=[.set x (.num 0),.say (.ask "true" (.box x)),.set x (.op "+" (.box x) (.num 1)),.go 1]
theorem qL{z:Ak}{rows:List Hr}{n:Nat}{s:MS}(h1:s.pl<(rows.length:Int))(h2:(s.sd.length:Int)<z.mn):jU z rows (n+1) s=jU z rows n (dI z rows s):=zE0 %[h1|h2]
theorem vV{z:Ak}{rows:List Hr}{s:MS}(h:¬ (s.pl<(rows.length:Int)/\(s.sd.length:Int)<z.mn)):∀n,jU z rows n s=s
 | 0=>rfl
 | n+1=>zB0 h
theorem runB{z:Ak}{x:Str}(p0:0<z.p):∀(m j fuel:Nat)(bx:Str->Int),z.mn=((j+m:Nat):Int)->3*m<=fuel->bx x=(j:Int) % z.p->(jU z (hB x) fuel %[(1),bx|de z j]).sd=de z (j+m)
 | 0,j,fuel,bx,hm,hf,hb=>by
   rw[vV (λc=>absurd c.2 (by show ¬ ((de z j).length:Int)<z.mn;rw[gP,hm];omega))];rfl
 | m+1,j,fuel,bx,hm,hf,hb=>by
   obtain⟨fu,rfl⟩:∃fu,fuel=fu+3:=%[fuel-3|3]
   have e1:dI z (hB x) %[(1),bx|de z j]=⟨2,bx,de z (j+1)⟩:=by
    show(%[1+1,bx|de z j++[if("true":Str)="coin" then jo z (bx x)else dG z (bx x)]]:MS)=_;rw[zB0 ne_tc,hb,ue];rfl
   rw[qL (by show(1:Int)<4;decide) (by show((de z j).length:Int)<z.mn;rw[gP,hm];omega),e1];cases m with
   | zero=>
     rw[vV (λc=>absurd c.2 (by show ¬ ((de z (j+1)).length:Int)<z.mn;rw[gP,hm];omega))]
   | succ m=>
     have hl:((de z (j+1)).length:Int)<z.mn:=by rw[gP,hm];omega
     have e2:dI z (hB x) %[(2),bx|de z (j+1)]=⟨3,iK bx x (opV z.p "+" (bx x) (1 % z.p)),de z (j+1)⟩:=rfl;have e3:dI z (hB x) ⟨3,iK bx x (opV z.p "+" (bx x) (1 % z.p)),de z (j+1)⟩=⟨1,iK bx x (opV z.p "+" (bx x) (1 % z.p)),de z (j+1)⟩:=rfl;rw[qL (by show(2:Int)<4;decide) hl,e2,qL (by show(3:Int)<4;decide) hl,e3];have hb2:iK bx x (opV z.p "+" (bx x) (1 % z.p)) x=((j+1:Nat):Int) % z.p:=by
      unfold iK;rw[zE0 rfl];show(bx x+1 % z.p) % z.p=_;rw[hb,Int.emod_add_emod,Int.add_emod_emod];rfl
     have:=runB p0 (m+1) (j+1) fu _ (by rw[hm];omega) #[0] hb2
     rw[this]
     congr 1
     omega
end
def eJ:List Hr:=hB "i"
theorem vT{z:Ak}{n:Nat}(p0:0<z.p)(hm:z.mn=(n:Int))(n1:1<=n)(n66:n<=66):cH z eJ bx=de z n:=by
 have e1:dI z eJ %[(0),bx|[]]=⟨1,iK bx "i" (0 % z.p),de z 0⟩:=rfl;unfold cH;rw[qL (by show(0:Int)<4;decide) (by rw[hm];show(0:Int)<(n:Int);omega),e1,show eJ=hB "i" from rfl,runB p0 n 0 199 _ (by rw[hm,Nat.zero_add]) #[0] (by unfold iK;rw[zE0 rfl];rfl),Nat.zero_add];exact uS z hm
section
variable {ns:List Str} {t:Tr} {p:Int} {rB:List Hr}
theorem sX(k:GmK ns [t] p):hd0 %[ns,[t]|p] eJ=(cnt t ns:Int) % p:=by
 have p2:=k.p2;unfold hd0;rw[vT (n:=1) (by show 0<p;omega) rfl ⋯ ⋯];show dG ((%[ns,[t]|p]:Gv).z 0 1 0 []) (((0:Nat):Int) % p)=_;rw[show(((0:Nat):Int) % p)=((0:Nat):Int)from Int.zero_emod p];exact yN rfl 0 rfl
theorem wK(k:GmK ns [t] p):(cnt t ns:Int) % p=bv ns [t] 0 p []:=by
 have p2:=k.p2;rw[←vi (s:=0) (p:=p) #[0] (λu hu=>(k.tok u hu).1)];show _=hor 0 p [(cnt t ns:Int)];show _=(0*0+(cnt t ns:Int)) % p;rw[Int.zero_mul,Int.zero_add]
theorem Ct(k:GmK ns [t] p)(n6:ns.length<=6)(nd:ns.Nodup){ws:List Int}{hd:Int}(wl:ws.length<ns.length)(wo:∀w∈ws,w=0∨w=1)(h0:0<=hd)(h1:hd<p):cH ((%[ns,[t]|p]:Gv).z ((ws.length:Int)+1) 2 hd ws) eJ bx=[bv ns [t] 0 p (ws++[0]),bv ns [t] 0 p (ws++[1])]:=by
 have p2:=k.p2;have ok:AkOk ((%[ns,[t]|p]:Gv).z ((ws.length:Int)+1) 2 hd ws):=yE (G:=⟨ns,[t],p⟩) k n6 wl wo h0 h1;rw[vT (n:=2) (by show 0<p;omega) rfl ⋯ ⋯];show [dG _ (((0:Nat):Int) % p),dG _ (((1:Nat):Int) % p)]=_;rw[show(((0:Nat):Int) % p)=0 from Int.zero_emod p,show(((1:Nat):Int) % p)=1 from qR0 ⋯ #[0],rQ ok nd 0 (by show 0<(ws.length:Int)+1;omega),rQ ok nd 1 (by show 0<(ws.length:Int)+1;omega)]
theorem BG(k:GmK ns [t] p){ws:List Int}(wl:ws.length=ns.length)(wo:∀w∈ws,w=0∨w=1):bv ns [t] 0 p ws=cp ns t ws:=by
 have p2:=k.p2;rw[BI wl];show hor 0 p [t.worth ns ws p]=_;rw[eR #[0] wo wl t (k.tok t zY0).1];unfold cp
 split
 . exact wC p 1 ⋯ #[0]
 . exact wC p 0 ⋯ #[0]
theorem BH(p0:0<p)(ws:List Int):0<=bv ns [t] 0 p ws/\bv ns [t] 0 p ws<p:=%[qA0 _ #[0]|qF0 _ p0]
structure CauOk(ns:List Str)(o:Oc)(x y:Bool)(ws:List Int):Prop where
 eq:o=.cau x y ws
 wl:ws.length<=ns.length
 wo:∀w∈ws,w=0∨w=1
theorem vX(k:GmK ns [t] p)(n6:ns.length<=6)(nd:ns.Nodup):∀(n:Nat)(ws:List Int)(bA:Str->Int)(bB:Str->Int)(hB:Int),ws.length+n=ns.length->(∀w∈ws,w=0∨w=1)->hB≠bv ns [t] 0 p ws->∃ws',CauOk ns (fk %[ns,[t]|p] eJ rB (cp ns t) n ws bA (bv ns [t] 0 p ws) bB hB) false true ws'
 | 0,ws,bA,bB,hB,wl,wo,ne=>by
   have e:=BG k (ws:=ws) #[0] wo;erw[ws,6,3,wo];show Oc.cau (!decide (bv ns [t] 0 p ws=cp ns t ws)) (!decide (hB=cp ns t ws)) ws=_;rw[decide_eq_true e,decide_eq_false (by rw[←e];exact ne)];rfl
 | n+1,ws,bA,bB,hB,wl,wo,ne=>by
   have p2:=k.p2;let%[r0|r1]:=BH (ns:=ns) (t:=t) (p:=p) #[0] ws;have two:=Ct k n6 nd (bx:=bA) #[0] wo r0 r1;have fA:fits p (bv ns [t] 0 p ws) (cH ((%[ns,[t]|p]:Gv).z ((ws.length:Int)+1) 2 (bv ns [t] 0 p ws) ws) eJ bA)=true:=by
    rw[two];exact decide_eq_true (xt #[0])
   generalize esB:cH ((%[ns,[t]|p]:Gv).z ((ws.length:Int)+1) 2 hB ws) rB bB=sB;generalize esA:cH ((⟨ns,[t],p⟩:Gv).z ((ws.length:Int)+1) 2 (bv ns [t] 0 p ws) ws) eJ bA=sA at two fA
   by_cases fB:fits p hB sB=true
   . have e:fk %[ns,[t]|p] eJ rB (cp ns t) (n+1) ws bA (bv ns [t] 0 p ws) bB hB=fk ⟨ns,[t],p⟩ eJ rB (cp ns t) n (ws++[ie sA sB]) (bxA ((⟨ns,[t],p⟩:Gv).z ((ws.length:Int)+1) 2 (bv ns [t] 0 p ws) ws) eJ bA) (ph (ie sA sB) sA) (bxA ((⟨ns,[t],p⟩:Gv).z ((ws.length:Int)+1) 2 hB ws) rB bB) (ph (ie sA sB) sB):=by
      rw[←esA,←esB];exact zE0 %[by rw[esA];exact fA|by rw[esB];exact fB]
     have ep:ph (ie sA sB) sA=bv ns [t] 0 p (ws++[ie sA sB]):=by
      rw[two];unfold ph;rcases yH [bv ns [t] 0 p (ws++[0]),bv ns [t] 0 p (ws++[1])] sB with z | z
      . rw[z,zE0 rfl];rfl
      . rw[z,zB0 ⋯];rfl
     rw[e,ep];refine vX k n6 nd n _ _ _ _ (by rw[zJ0,qK0];omega) (λw hw=>?_) ?_
     . rcases qD0 hw with h | h
       . exact wo w h
       . rw[zM0 h];exact yH _ _
     . rw [←ep];have hA:=of_decide_eq_true fA;have hB':=of_decide_eq_true fB;intro z;unfold ph ie at z
       by_cases c:g0 sA=g0 sB
       . rw[zE0 c,zB0 ⋯,zB0 ⋯]at z;rw[←hA,←hB',c,z]at ne;exact ne rfl
       . rw[zB0 c,zE0 rfl,zE0 rfl]at z;exact c z.symm
   . erw[ws,6,3,wo];have e:fk ⟨ns,[t],p⟩ eJ rB (cp ns t) (n+1) ws bA (bv ns [t] 0 p ws) bB hB=.cau (!fits p (bv ns [t] 0 p ws) sA) (!fits p hB sB) ws:=by
      rw[←esA,←esB];exact zB0 λz=>fB (by rw[←esB];exact z.2)
     rw[e,fA,Bool.eq_false_iff.mpr fB];rfl
def Oc.swap:Oc->Oc
 | .agr v=>.agr v
 | .cau x y ws=>.cau y x ws
theorem yG(xA xB:List Int):ie xB xA=ie xA xB:=by
 unfold ie
 by_cases c:g0 xA=g0 xB
 . rw[zE0 c,zE0 c.symm]
 . rw[zB0 c,zB0 (Ne.symm c)]
theorem nE:∀(n:Nat)(ws:List Int)(bA:Str->Int)(hA:Int)(bB:Str->Int)(hB:Int),fk G rB rA tru n ws bB hB bA hA=(fk G rA rB tru n ws bA hA bB hB).swap
 | 0,_,_,_,_,_=>rfl
 | n+1,ws,bA,hA,bB,hB=>by
   show(if _ then _ else _)=Oc.swap (if _ then _ else _);generalize cH (G.z ((ws.length:Int)+1) 2 hA ws) rA bA=sA;generalize cH (G.z ((ws.length:Int)+1) 2 hB ws) rB bB=sB
   by_cases c:fits G.p hA sA=true/\fits G.p hB sB=true
   . rw[zE0 c,zE0 %[c.2|c.1],yG sA sB];exact nE n _ _ _ _ _
   . rw[zB0 c,zB0 λz=>c %[z.2|z.1]];rfl
theorem zJ(h:hd0 G rA=hd0 G rB):gA G rA rB tru=.agr (hd0 G rA):=zE0 h
theorem zI(k:GmK ns [t] p)(n6:ns.length<=6)(nd:ns.Nodup)(h:¬ hd0 %[ns,[t]|p] rB=(cnt t ns:Int) % p):∃ws,CauOk ns (gA ⟨ns,[t],p⟩ eJ rB (cp ns t)) false true ws/\CauOk ns (gA ⟨ns,[t],p⟩ rB eJ (cp ns t)) true false ws:=by
 have eh:=sX k;let%[ws|c]:=vX (rB:=rB) k n6 nd ns.length [] (bxA ((%[ns,[t]|p]:Gv).z 0 1 0 []) eJ (λ_=>0)) (bxA ((%[ns,[t]|p]:Gv).z 0 1 0 []) rB (λ_=>0)) (hd0 %[ns,[t]|p] rB) (Nat.zero_add _) (λw hw=>by cases hw) (by rw[←wK k];exact h);rw[←wK k,←eh]at c;erw[ws,%[(zB0 λz=>h (z.symm.trans eh)).trans c.eq,c.wl|c.wo],6,c.wl,c.wo];have e:gA ⟨ns,[t],p⟩ rB eJ (cp ns t)=fk ⟨ns,[t],p⟩ rB eJ (cp ns t) ns.length [] (bxA ((⟨ns,[t],p⟩:Gv).z 0 1 0 []) rB (λ_=>0)) (hd0 %[ns,[t]|p] rB) (bxA ((⟨ns,[t],p⟩:Gv).z 0 1 0 []) eJ (λ_=>0)) (hd0 %[ns,[t]|p] eJ):=zB0 λz=>h (z.trans eh)
 rw[e,nE,c.eq];rfl
end
def kept:List Str:=["yes","no","not","and","or","odd","same","round","due","asked","true","coin"]
def NmK(x:Str):Prop:=(∀c∈x.cps.toList,97<=c/\c<=122)/\1<=x.length/\x.length<=6/\x∉kept
def Tm.ok:Tm->Prop
 | .num n=>0<=n/\n<1000000000000 | .box x=>NmK x | .plain w=>w∈plainW | .ask w a=>w∈askW/\a.ok | .op s a b=>s∈signW/\a.ok/\b.ok
def Tm.fit(m:Nat)(t:Tm):Prop:=t.ok/\t.size<=m/\t.depth<=8
def Hr.ok(m:Nat):Hr->Prop
 | .fin=>True | .go n=>0<=n/\n<1000000000000 | .iff t n=>t.fit m/\0<=n/\n<1000000000000 | .set x t=>NmK x/\t.fit m | .say t=>t.fit m
def LET:Str:="abcdefghijklmnopqrstuvwxyz"
def ENDS:Str:=" ()"
def isIn(L:Str)(c:Nat):Bool:=!(Builtin.Str.occurrences L %[|#[c]] 0 L.length 1).isEmpty
def iI(z:Str):Bool:=decide (1<=z.length)&&decide (z.length<=6)&&!inV (.str z) (kept.map V.str)&&z.cps.toList.all (isIn LET)
def FIG:Str:="0123456789"
def jF (z:Str):Bool:=decide (1<=z.length)&&decide (z.length<=12)&&!(decide (1<z.length)&&Txt.startswith z "0")&&z.cps.toList.all (isIn FIG)
theorem rW {z:Str} {c:Nat} (h:z.cps.toList[0]?=some c):Txt.startswith z "0"=decide (V.str %[|#[c]]=V.str "0"):=by
 have q:=StrLaws.subAt_one z 48 0;have e0:("0":Str)=%[|#[48]]:=by decide
 unfold Txt.startswith;rw[e0]
 by_cases hc:c=48
 . subst hc
   have:=q.mpr h
   rw[show decide (V.str (%[|#[48]]:Str)=V.str ⟨#[48]⟩)=true from decide_eq_true rfl];simp only[Bool.and_eq_true,decide_eq_true_eq];exact this
 . have hne:¬ (V.str (%[|#[c]]:Str)=V.str ⟨#[48]⟩):=λe=>hc (by
    have:=V.str.inj e
    injection this with this
    simpa using this)
   rw[show decide (V.str (%[|#[c]]:Str)=V.str ⟨#[48]⟩)=false from decide_eq_false hne];rw[Bool.eq_false_iff];intro e;simp only[Bool.and_eq_true,decide_eq_true_eq]at e
   have:=q.mp e
   rw[h]at this;exact hc (zU0 this)
inductive spTxt(fB:Str->Bool)(vs:List V)(H:Hp)(Q:VK)(u_3:XK):Prop
 |mk:∀z:Str,vs=[.str z]->z.length<=1000->(∀H',Same H H'->Q (.bl (fB z)) H')->spTxt fB vs H Q u_3
structure Tx(K:W.Frag)(mg:Str->Option Value):Prop where
 letters:∃t,mg "LETTERS"=some (.str LET t)
 longest:∃t,mg "LONGEST_NAME"=some (.int 6 t)
 keptW:∃a,mg "KEPT_WORDS"=some (.ref a)/\∀H,SqT K H a (kept.map V.str)
 ends:∃t,mg "WORD_ENDS"=some (.str ENDS t)
 within:∃t,mg "MOST_WITHIN"=some (.int 8 t)
 parts:∃t,mg "MOST_PARTS"=some (.int 20 t)
 figures:∃t,mg "FIGURES"=some (.str FIG t)
 most:∃t,mg "MOST_FIGURES"=some (.int 12 t)
 rows:∃t,mg "MOST_ROWS"=some (.int 60 t)
 signs:∃a,mg "SIGNS"=some (.ref a)/\∀H,SqT K H a (signW.map V.str)
 asking:∃a,mg "ASKING_WORDS"=some (.ref a)/\∀H,SqT K H a (askW.map V.str)
 plain:∃a,mg "PLAIN_WORDS"=some (.ref a)/\∀H,SqT K H a (plainW.map V.str)
theorem oC(z:Str):z.cps.size=z.length:=rfl
theorem uz:FnScope ["text"] ["text"] (ak lh):=%[1,1,1,4,1,4|4]
theorem uZ   (F:Fun K "is_name" "is_name" lh f fd) (B:Bl mg) (T:Tx K mg):FnOk P w K mg base CX0 1 f fd ["text"] (spTxt iI):=by
 exists uz
 erw[z,1,hz,q]at h;erw[t1,g1]at T.letters;erw[t3,g3]at T.longest;erw[ka,g5,hk]at T.keptW;refine⟨_,(aa (aB (PW.pt (eD (af cN (aD cw rfl B.len PySem.boot_len %[0|aH]) ac (ai _)) (eD (af gY (aD cw rfl B.len PySem.boot_len %[0|aH]) (cE (v:=.int 6) rfl g3 ⟨_,rfl⟩) (ai _)) (dA (af dB (pv 0) (cE (v:=.ref ka) rfl g5 rfl) (by rfl')))))) (ad (ao eV)) av)
  (ad (ao (aD (tN rfl) rfl B.all PyProof.Rows.boot_all (ae (cJ (N:=[]) (ix:=[]) (cl:=[]) rfl (CompScope.closed (by rfl') ⋯ rfl ⋯ rfl (by rfl')) rfl (zQ (pv 0))
   (λ_ _ _=>cQ (cb pR (pv 0) (cE (v:=.str LET) rfl g1 %[|0]) (by rfl')))) aH))))),?_⟩
 have fls:iI z=false->Q (.bl false) H:=λe=>by
  have:=q H (Same.refl H)
  rw[e]at this;exact this
 erw[0,z,1,bK hz,2,0,6]
 by_cases c1:(z.length:Int)<1
 . refine aR c1 (du ?_);exact fls (by unfold iI;rw[decide_eq_false (show ¬ 1<=z.length by omega)];rfl)
 refine ax c1 ?_;erw[0,z,1,bK hz,2,0,6]
 by_cases c2:(6:Int)<(z.length:Int)
 . refine aR c2 (du ?_);exact fls (by unfold iI;rw[decide_eq_false (show ¬ z.length<=6 by omega)];simp)
 refine ax c2 ?_;erw[0,ka,0,.inr (hk _),1,⋯,0,6];cases c3:inV (.str z) (kept.map V.str)with
 | true=>
   refine du ?_;exact fls (by unfold iI;rw[c3];simp)
 | false=>
   refine cG ?_;erw[0,z,1,λD hD=>?_];refine oQ (z:=z) (λi H'=>H' D=some (.lst (((z.cps.toList.take i).map (isIn LET)).map V.bl))/\Same H H') %[by rw[aC];rfl|zC0 hD _] ?_ ?_
   . rintro i c H' hc ⟨hl,s0⟩;have hi:i<z.cps.size:=(Array.getElem?_eq_some_iff.mp hc).1;rw[oC]at hi;erw[0,2,_,hl,6,Nx.of hi %[6|6]]
     . rw[zH0,zH0,qH0];exact aM #[0]
     . rw [aC];have ec:z.cps.toList[i]?=some c:=by simpa using hc
       rw[qN0,ec,zO0,zO0];rfl
     . intro b o e;rw[aq (aN e hD)];exact s0 b o e
   . rintro H' ⟨hl,s0⟩;rw[show z.cps.toList.take z.cps.size=z.cps.toList by rw[←Array.length_toList];exact qJ0]at hl;erw[D,0,zF0 hl,6];have e:iI z=(z.cps.toList.map (isIn LET)).all id:=by
      unfold iI;rw[c3,decide_eq_true (show 1<=z.length by omega),decide_eq_true (show z.length<=6 by omega),List.all_map];rfl
     rw[←e];exact q H' s0
theorem pf:FnScope ["text"] ["text"] (ak iw):=%[1,1,1,4,1,4|4]
theorem pA   (F:Fun K "is_figures" "is_figures" iw f fd) (B:Bl mg) (T:Tx K mg):FnOk P w K mg base CX0 1 f fd ["text"] (spTxt jF):=by
 exists pf
 erw[z,1,hz,q]at h;erw[t1,g1]at T.figures;erw[t3,g3]at T.most;refine⟨_,(aa (aB (PW.pt (eD (af cN (aD cw rfl B.len PySem.boot_len %[0|aH]) ac (ai _)) (dA (af gY (aD cw rfl B.len PySem.boot_len %[0|aH]) (cE (v:=.int 12) rfl g3 ⟨_,rfl⟩) (ai _))))) (ad (ao eV)) av)
  (aa (aB (PW.pt (lm (af gY (aD cw rfl B.len PySem.boot_len %[0|aH]) ac (ai _)) (kt (dj (dq PySem.F.plainAttrs_str PySem.F.slot_str_startswith PySem.F.type_str_startswith pE (pv 0) %[au|aH]))))) (ad (ao eV)) av)
  (ad (ao (aD (tN rfl) rfl B.all PyProof.Rows.boot_all (ae (cJ (N:=[]) (ix:=[]) (cl:=[]) rfl (CompScope.closed (by rfl') ⋯ rfl ⋯ rfl (by rfl')) rfl (zQ (pv 0))
   (λ_ _ _=>cQ (cb pR (pv 0) (cE (v:=.str FIG) rfl g1 %[|0]) (by rfl')))) aH)))))),?_⟩
 have fls:jF z=false->Q (.bl false) H:=λe=>by
  have:=q H (Same.refl H)
  rw[e]at this;exact this
 erw[0,z,1,bK hz,2,0,6]
 by_cases c1:(z.length:Int)<1
 . refine aR c1 (du ?_);exact fls (by unfold jF;rw[decide_eq_false (show ¬ 1<=z.length by omega)];rfl)
 refine ax c1 ?_;erw[0,z,1,bK hz,2,0,6]
 by_cases c2:(12:Int)<(z.length:Int)
 . refine aR c2 ?_;exact fls (by unfold jF;rw[decide_eq_false (show ¬ z.length<=12 by omega)];simp)
 refine ax c2 ?_;erw[0,z,1,bK hz,2,0,6]
 by_cases c4:(1:Int)<(z.length:Int)
 . refine aR c4 ?_;erw[0,1,z,0,1,0,6];cases c5:Txt.startswith z "0" with
   | true=>
     refine du ?_;exact fls (by unfold jF;rw[c5,decide_eq_true (show 1<z.length by omega)];simp)
   | false=>
     refine cG ?_;have c3:(decide (1<z.length)&&Txt.startswith z "0")=false:=by rw[c5];simp
     erw[0,z,1,λD hD=>?_];refine oQ (z:=z) (λi H'=>H' D=some (.lst (((z.cps.toList.take i).map (isIn FIG)).map V.bl))/\Same H H') %[by rw[aC];rfl|zC0 hD _] ?_ ?_
     . rintro i c H' hc ⟨hl,s0⟩;have hi:i<z.cps.size:=(Array.getElem?_eq_some_iff.mp hc).1;rw[oC]at hi;erw[0,2,_,hl,6,Nx.of hi %[6|6]]
       . rw[zH0,zH0,qH0];exact aM #[0]
       . rw [aC];have ec:z.cps.toList[i]?=some c:=by simpa using hc
         rw[qN0,ec,zO0,zO0];rfl
       . intro b o e;rw[aq (aN e hD)];exact s0 b o e
     . rintro H' ⟨hl,s0⟩;rw[show z.cps.toList.take z.cps.size=z.cps.toList by rw[←Array.length_toList];exact qJ0]at hl;erw[D,0,zF0 hl,6];have e:jF z=(z.cps.toList.map (isIn FIG)).all id:=by
        unfold jF;rw[c3,decide_eq_true (show 1<=z.length by omega),decide_eq_true (show z.length<=12 by omega),List.all_map];rfl
       rw[←e];exact q H' s0
 . refine ax c4 ?_;refine cG ?_;have c3:(decide (1<z.length)&&Txt.startswith z "0")=false:=by rw[decide_eq_false (show ¬ 1<z.length by omega)];rfl
   erw[0,z,1,λD hD=>?_];refine oQ (z:=z) (λi H'=>H' D=some (.lst (((z.cps.toList.take i).map (isIn FIG)).map V.bl))/\Same H H') %[by rw[aC];rfl|zC0 hD _] ?_ ?_
   . rintro i c H' hc ⟨hl,s0⟩;have hi:i<z.cps.size:=(Array.getElem?_eq_some_iff.mp hc).1;rw[oC]at hi;erw[0,2,_,hl,6,Nx.of hi %[6|6]]
     . rw[zH0,zH0,qH0];exact aM #[0]
     . rw [aC];have ec:z.cps.toList[i]?=some c:=by simpa using hc
       rw[qN0,ec,zO0,zO0];rfl
     . intro b o e;rw[aq (aN e hD)];exact s0 b o e
   . rintro H' ⟨hl,s0⟩;rw[show z.cps.toList.take z.cps.size=z.cps.toList by rw[←Array.length_toList];exact qJ0]at hl;erw[D,0,zF0 hl,6];have e:jF z=(z.cps.toList.map (isIn FIG)).all id:=by
      unfold jF;rw[c3,decide_eq_true (show 1<=z.length by omega),decide_eq_true (show z.length<=12 by omega),List.all_map];rfl
     rw[←e];exact q H' s0
theorem Ec:∀c:Fin 26,isIn LET (97+c.val)=true:=by decide
theorem Cm:∀c:Fin 26,isIn ENDS (97+c.val)=false:=by decide
theorem ends_in:isIn ENDS 32=true/\isIn ENDS 40=true/\isIn ENDS 41=true:=by decide
theorem AG{c:Nat}(h:97<=c/\c<=122):isIn LET c=true:=by
 have:=Ec %[c-97|3]
 rwa [show 97+(%[c-97|3]:Fin 26).val=c by show 97+(c-97)=c;omega]at this
theorem ye{c:Nat}(h:97<=c/\c<=122):isIn ENDS c=false:=by
 have:=Cm %[c-97|3]
 rwa [show 97+(%[c-97|3]:Fin 26).val=c by show 97+(c-97)=c;omega]at this
theorem ww(h:NmK x):iI x=true:=by
 erw[hl,h1,h6,hk]at h;unfold iI;rw[iE,decide_eq_true h1,decide_eq_true h6,decide_eq_false hk];simp only[Bool.and_self,Bool.not_false,Bool.true_and];rw[List.all_eq_true];exact λc hc=>AG (hl c hc)
def stl(l:List Nat):Str:=%[|l.toArray]
theorem By{a b:Str}(h:a.cps.toList=b.cps.toList):a=b:=by
 cases a with
 | mk x=>
   cases b with
   | mk y=>
     have:x=y:=Array.toList_inj.mp h
     rw[this]
theorem jM(x:Str):stl x.cps.toList=x:=rfl
theorem BA(l:List Nat):(stl l).length=l.length:=by
 show l.toArray.size=_
 simp
theorem hV(a b:Str):(a++b).cps.toList=a.cps.toList++b.cps.toList:=by simp [Str.cps_append]
theorem rf:(("(":Str)).cps.toList=[40]:=by decide
theorem Ay:((")":Str)).cps.toList=[41]:=by decide
theorem jW:((" ":Str)).cps.toList=[32]:=by decide
theorem yY{a b:Str}(h:V.str a=V.str b):a=b:=V.str.inj h
theorem neStr{a b:Str}(h:a≠b):¬ V.str a=V.str b:=λz=>h (yY z)
def jn(c:Nat):List (List Nat)->List Nat
 | []=>[]
 | [a]=>a
 | a::b::r=>a++c::jn c (b::r)
theorem Ba{c:Nat}:∀{a b x y:List Nat},c∉a->c∉b->a++c::x=b++c::y->a=b/\x=y
 | [],[],_,_,_,_,h=>%[1|(List.cons.inj h).2]
 | [],d::b,x,y,_,hb,h=>by
   have:=(List.cons.inj h).1
   exact absurd (by rw[this];exact zY0) hb
 | d::a,[],x,y,ha,_,h=>by
   have:=(List.cons.inj h).1
   exact absurd (by rw[←this];exact zY0) ha
 | d::a,e::b,x,y,ha,hb,h=>by
   have h':=List.cons.inj h;have r:=Ba (λz=>ha (qG0 _ z)) (λz=>hb (qG0 _ z)) h'.2;erw[by rw[h'.1,r.1],r.2]
theorem AD{c:Nat}:∀{l m:List (List Nat)},l≠[]->m≠[]->(∀a∈l,c∉a)->(∀a∈m,c∉a)->jn c l=jn c m->l=m
 | [],_,h,_,_,_,_=>absurd rfl h
 | _::_,[],_,h,_,_,_=>absurd rfl h
 | [a],[b],_,_,_,_,h=>congrArg (λz=>[z]) h
 | [a],b::d::r,_,_,hl,_,h=>by
   have:c∈a:=by
    rw[show a=b++c::jn c (d::r)from h]
    simp
   exact absurd this (hl a zY0)
 | a::d::r,[b],_,_,_,hm,h=>by
   have:c∈b:=by
    rw[show b=a++c::jn c (d::r)from h.symm]
    simp
   exact absurd this (hm b zY0)
 | a::d::r,b::e::s,_,_,hl,hm,h=>by
   have q:=Ba (hl a zY0) (hm b zY0) (show a++c::jn c (d::r)=b++c::jn c (e::s)from h)
   have:=AD (by simp) (by simp) (λz hz=>hl z (qG0 _ hz)) (λz hz=>hm z (qG0 _ hz)) q.2
   rw[q.1,this]
def cd(x:Str):List Nat:=x.cps.toList
theorem EG(h:cd x=cd y):x=y:=by
 have:x.cps=y.cps:=Array.toList_inj.mp h
 cases x;cases y;exact congrArg Str.mk this
theorem qf(x y:Str):cd (x++y)=cd x++cd y:=by
 unfold cd;rw[Str.cps_append]
 simp
theorem rJ(c:Nat):∀ps:List Str,cd (Str.join %[|#[c]] ps)=jn c (ps.map cd)
 | []=>rfl
 | [a]=>rfl
 | a::b::r=>by
   show cd (a++%[|#[c]]++Str.join ⟨#[c]⟩ (b::r))=cd a++c::jn c ((b::r).map cd);rw[qf,qf,rJ c (b::r)]
   simp [cd]
theorem Cq(sep:Str):∀ps:List Str,Txt.join sep ps=Str.join sep ps
 | []=>rfl
 | a::r=>StrLaws.glued_cons sep r a
theorem uk(x y:Str):Txt.split x y≠[]:=by
 unfold Txt.split
 split
 . exact List.cons_ne_nil _ _
 . split
   . exact List.cons_ne_nil _ _
   . intro h
     have:=length_partsBetween x (Builtin.Str.occurrences x y 0 x.length (x.length+1)) y.length
     rw[h]at this
     simp at this
theorem oA:∀{l m:List Str},l.map cd=m.map cd->l=m
 | [],[],_=>rfl
 | [],_::_,h=>by simp at h
 | _::_,[],h=>by simp at h
 | a::l,b::m,h=>by
   have h':=List.cons.inj h;rw[EG h'.1,oA h'.2]
theorem uq{c:Nat}{ps:List Str}(h0:ps≠[])(hf:∀p∈ps,c∉cd p):Txt.split (Str.join %[|#[c]] ps) ⟨#[c]⟩=ps:=by
 apply oA;refine AD (c:=c) (λh=>uk _ _ (List.map_eq_nil_iff.mp h)) (λh=>h0 (List.map_eq_nil_iff.mp h)) ?_ ?_ ?_
 . intro a ha;let%[p,hp|1]:=List.mem_map.mp ha;exact StrLaws.split_free _ c p hp
 . intro a ha;let%[p,hp|1]:=List.mem_map.mp ha;exact hf p hp
 . rw[←rJ,←rJ,StrLaws.join_split]
def bn(n:Int):Str:=toString n
theorem re(m:Nat):cd (bn (m:Int))=(Nat.toDigits 10 m).map Char.toNat:=PySem.W.KIN.signs_num m
theorem jz{n:Int}(h0:0<=n):∀c∈cd (bn n),48<=c/\c<=57:=by
 let%[m|1]:=Int.eq_ofNat_of_zero_le h0;intro c hc;rw[re]at hc;let%[ch,hch|e]:=List.mem_map.mp hc;rw[←e];exact PyProof.Rows.digit_range (Nat.isDigit_of_mem_toDigits ⋯ ⋯ hch)
theorem An{n:Int}(h0:0<=n):cd (bn n)≠[]:=by
 let%[m|1]:=Int.eq_ofNat_of_zero_le h0;rw[re];intro e;have h:=PySem.toDigits_len_ge 10 m;rw[List.map_eq_nil_iff.mp e]at h;exact absurd h ⋯
theorem iB{n:Int}(h0:0<=n)(h1:n<1000000000000):(bn n).length<=12:=PyProof.Rows.toString_length_le h0 ⋯ (by show n<10 ^ 12;omega)
theorem sI{n:Int}(h0:0<=n):1<=(bn n).length:=by
 have h:=An h0;have e:(cd (bn n)).length=(bn n).length:=rfl;cases c:cd (bn n)with
 | nil=>exact absurd c h
 | cons a r=>rw[←e,c];simp
theorem wu{n:Int}(h0:0<=n)(h1:n<1000000000000):PySem.intText? (bn n)=some n:=by
 have e:=intText_digits (x:=bn n) (jz h0) (An h0) (zQ0 (iB h0 h1) ⋯);let%[m|1]:=Int.eq_ofNat_of_zero_le h0;have e2:=re m;unfold cd at e2;rw[e2,PySem.W.KIN.val_back]at e;exact e
theorem Cu(m:Nat)(h:0<m):∃d r,Nat.toDigits 10 m=d::r/\d.toNat≠48:=by
 induction m using Nat.strongRecOn with
 | _ m ih=>
   by_cases c:m<10
   . erw[Nat.digitChar m,[],Nat.toDigits_of_lt_base c,6]
     have:∀d:Nat,d<10->0<d->(Nat.digitChar d).toNat≠48:=by decide
     exact this m c h
   . have hm:m % 10<10:=Nat.mod_lt m ⋯;have t:Nat.toDigits 10 (m / 10)++Nat.toDigits 10 (m % 10)=Nat.toDigits 10 (10*(m / 10)+m % 10):=Nat.toDigits_append_toDigits ⋯ #[0] hm;rw[Nat.div_add_mod]at t;let%[d,r,e|hd]:=ih (m / 10) #[0] #[0];erw[d,r++Nat.toDigits 10 (m % 10),by rw[←t,e];rfl,hd]
theorem Ex:∀c:Nat,c<58->48<=c->isIn FIG c=true:=by decide
theorem wv{n:Int}(h0:0<=n)(h1:n<1000000000000):jF (bn n)=true:=by
 unfold jF;rw[decide_eq_true (sI h0),decide_eq_true (iB h0 h1)];have a:(cd (bn n)).all (isIn FIG)=true:=List.all_eq_true.mpr λc hc=>by
  have:=jz h0 c hc
  exact Ex c #[0] this.1
 have a':(bn n).cps.toList.all (isIn FIG)=true:=a;rw[a'];have b:(decide (1<(bn n).length)&&Txt.startswith (bn n) "0")=false:=by
  by_cases c:1<(bn n).length
  . let%[m|1]:=Int.eq_ofNat_of_zero_le h0;have hm:0<m:=by
     apply Nat.pos_of_ne_zero;intro z;subst z
     revert c
     decide
    let%[d,r,e|hd]:=Cu m hm;have e0:(bn (m:Int)).cps.toList[0]?=some d.toNat:=by
     have:=re m
     unfold cd at this;rw[this,e];rfl
    have z:decide (V.str (%[|#[d.toNat]]:Str)=V.str "0")=false:=decide_eq_false λz=>by
     have:=V.str.inj z
     have e1:("0":Str)=%[|#[48]]:=by decide
     rw[e1]at this;injection this with this
     have:=congrArg Array.toList this
     simp at this
     exact hd this
    rw[rW e0,z,Bool.and_false]
  . rw[decide_eq_false c];rfl
 rw[b];rfl
def NL:Str:=%[|#[10]]
theorem nl_eq:("\n":Str)=NL:=by decide
theorem yX{l:List Str}{b:Nat}(h:∀p∈l,p.length<=b):(l.map (·.length)).sum<=l.length*b:=by
 induction l with
 | nil=>simp
 | cons a r ih=>
   have h1:=h a zY0;have h2:=ih λp hp=>h p (qG0 _ hp)
   simp only[qC0,List.sum_cons,zT0];rw[Nat.succ_mul];omega
def Tm.txt:Tm->List Nat
 | .num n=>cd (bn n)
 | .box x=>cd x
 | .plain w=>cd w
 | .ask w a=>[40]++(cd w++([32]++(a.txt++[41])))
 | .op s a b=>[40]++(cd s++([32]++(a.txt++([32]++(b.txt++[41])))))
def Tm.str(t:Tm):Str:=stl t.txt
theorem kC:∀w∈plainW,w.length<=5/\1<=w.length/\(∀c∈w.cps.toList,97<=c/\c<=122)/\w≠"num"/\w≠"box"/\w≠"op":=by decide
theorem vJ:∀w∈askW,w.length<=4/\1<=w.length/\(∀c∈w.cps.toList,97<=c/\c<=122)/\w≠"num"/\w≠"box"/\w≠"op"/\w∉plainW:=by decide
theorem qv:∀w∈signW,w.length=1/\(∀c∈w.cps.toList,42<=c/\c<=61)/\w∉askW:=by decide
theorem cR(x:Str):(cd x).length=x.length:=by unfold cd;rw[Array.length_toList];rfl
theorem Tm.txt_len:∀t:Tm,t.ok->t.txt.length<=14*t.size
 | .num n,h=>by
   have:=iB h.1 h.2
   show(cd (bn n)).length<=14;rw[cR];omega
 | .box x,h=>by
   show(cd x).length<=14;rw[cR]
   have:=h.2.2.1
   omega
 | .plain w,h=>by
   show(cd w).length<=14;rw[cR]
   have:=(kC w h).1
   omega
 | .ask w a,⟨h,h1⟩=>by
   have:=Tm.txt_len a h1
   have e4:=(vJ w h).1;show([40]++(cd w++([32]++(a.txt++[41])))).length<=14*(a.size+1)
   simp only[zJ0,zT0,List.length_nil,cR];omega
 | .op o a b,⟨h,h1,h2⟩=>by
   have e1:=Tm.txt_len a h1;have e2:=Tm.txt_len b h2;have e4:=(qv o h).1;show([40]++(cd o++([32]++(a.txt++([32]++(b.txt++[41])))))).length<=14*(a.size+b.size+1)
   simp only[zJ0,zT0,List.length_nil,cR];omega
theorem Tm.str_len{t:Tm}(h:t.ok):t.str.length<=14*t.size:=by
 unfold Tm.str;rw[BA];exact t.txt_len h
def Hr.ws:Hr->List Str
 | .fin=>["end"] | .go n=>["go",bn n] | .iff t n=>["if",t.str,bn n] | .set x t=>["set",x,t.str] | .say t=>["say",t.str]
def Hr.str (r:Hr):Str:=Txt.join (" ":Str) r.ws
theorem Do{r:Hr}(h:r.ok 20):r.ws.length<=3/\∀z∈r.ws,z.length<=280:=by
 have fixed:∀z∈(["end","go","if","set","say"]:List Str),z.length<=280:=by decide
 have ft:∀{t:Tm},t.fit 20->t.str.length<=280:=fun{t} h=>by
  have:=Tm.str_len h.1
  have:=h.2.1
  omega
 cases r with
 | fin=>erw[4,λz hz=>fixed z (by rw[zM0 hz];decide)]
 | go n=>
   erw[by show 2<=3;decide,λz hz=>?_];rcases zV0 (show z∈[("go":Str),bn n]from hz)with rfl | hz
   . exact fixed _ ⋯
   . rw [zM0 hz]
     have:=iB h.1 h.2
     omega
 | iff t n=>
   erw[by show 3<=3;decide,λz hz=>?_];rcases zV0 (show z∈[("if":Str),t.str,bn n]from hz)with rfl | hz
   . exact fixed _ ⋯
   rcases zV0 hz with rfl | hz
   . exact ft h.1
   . rw [zM0 hz]
     have:=iB h.2.1 h.2.2
     omega
 | set x t=>
   erw[by show 3<=3;decide,λz hz=>?_];rcases zV0 (show z∈[("set":Str),x,t.str]from hz)with rfl | hz
   . exact fixed _ ⋯
   rcases zV0 hz with rfl | hz
   . have:=h.1.2.2.1
     omega
   . rw[zM0 hz];exact ft h.2
 | say t=>
   erw[by show 2<=3;decide,λz hz=>?_];rcases zV0 (show z∈[("say":Str),t.str]from hz)with rfl | hz
   . exact fixed _ ⋯
   . rw[zM0 hz];exact ft h
theorem sS(sep:Str)(zs:List Str)(h:sep.length=1):(Txt.join sep zs).length<=(zs.map (·.length)).sum+zs.length:=by
 have:=size_glued sep zs
 rw[h]at this;show(Builtin.Str.glued sep zs).length<=_;omega
theorem Dm{r:Hr}(h:r.ok 20):(r.ws.map (·.length)).sum+r.ws.length<=900:=by
 let%[h1|h2]:=Do h
 have:=yX h2
 have:r.ws.length*280<=840:=by omega
 omega
theorem Hr.str_len{r:Hr}(h:r.ok 20):r.str.length<=900:=zQ0 (sS _ _ ⋯) (Dm h)
theorem AC{H:Hp}{b:Addr}{ys zs:List V}(h:H b=some (.lst ys)):bY H (upd H b (.lst zs)):=λa xs e=>by
 rw[aq (λz=>by rw[z,h]at e;cases e)];exact e
theorem RowsAt.nil:RowsAt H [] []:=%[1|λi v r h=>by simp at h]
theorem RowsAt.snoc(h:RowsAt H tv rs)(a:HrAt H v r):RowsAt H (tv++[v]) (rs++[r]):=by
 erw[by rw[zJ0,zJ0,h.1];rfl,λi u s hu hs=>?_];have hl:=h.1
 by_cases c:i<tv.length
 . rw[List.getElem?_append_left c]at hu;rw[List.getElem?_append_left #[0]]at hs;exact h.2 i u s hu hs
 . rw [List.getElem?_append_right #[0]]at hu;rw[List.getElem?_append_right #[0]]at hs;have e1:i-tv.length=0:=by
    have:=(zX0 hu).1
    rw[qK0]at this;omega
   have e2:i-rs.length=0:=by omega
   rw[e1]at hu;rw[e2]at hs;cases hu;cases hs;exact a
def oY(rs:List Hr):Prop:=rs.length<=60/\∀r∈rs,r.ok 20
def kK (rs:List Hr):Str:=Txt.join ("\n":Str) (rs.map Hr.str)
theorem AM(g:oY rs):((rs.map Hr.str).map (·.length)).sum+(rs.map Hr.str).length<=60000:=by
 have:=yX (l:=rs.map Hr.str) (b:=900) λp hp=>by
  let%[r,hr|1]:=List.mem_map.mp hp;exact Hr.str_len (g.2 r hr)
 rw[zH0]at this ⊢;have h1:=g.1
 have:rs.length*900<=60*900:=Nat.mul_le_mul_right _ h1
 omega
theorem AN(g:oY rs):(kK rs).length<=60000:=zQ0 (sS _ _ ⋯) (AM g)
abbrev kZ:Stmt:=top 52
abbrev nh:Stmt:=bV kZ 0
abbrev na:Stmt:=bV kZ 1
abbrev qC:Stmt:=bV kZ 2
abbrev qB:Stmt:=bV kZ 3
abbrev qA:Stmt:=bV kZ 4
abbrev kX:Stmt:=bV kZ 5
structure ScTxt(K:W.Frag)(mg:Str->Option Value)(C:Addr):Prop where
 cl:Cls K C
 nX:NoAttr K C "text"
 nR:NoAttr K C "row"
 nW:NoAttr K C "most_within"
 nP:NoAttr K C "most_parts"
 nL:NoAttr K C "place"
 nN:NoAttr K C "parts"
 mgC:mg "Scan"=some (.ref C)
theorem nJ(f:Str)(v:V):∀(fs:List (Str×V))(u:V),fs.lookup f=some u->(bX f v fs).length=fs.length
 | [],u,h=>by cases h
 | (g,x)::r,u,h=>by
   unfold bX
   by_cases e:g=f
   . rw[zE0 e];rfl
   . rw [zB0 e];have e':(f==g)=false:=by simpa using λz=>e z.symm
     simp only[List.lookup,e']at h;rw[zT0,zT0,nJ f v r u h]
theorem bD(f:Str)(v:V):∀fs:List (Str×V),(bX f v fs).length<=fs.length+1
 | []=>zG0 _
 | (g,u)::r=>by
   have:=bD f v r
   unfold bX
   split
   . simp
   . simp only[zT0];omega
structure SF(T:Str)(p n:Nat)(fs:List (Str×V)):Prop where
 text:fs.lookup ("text":Str)=some (.str T)
 mw:fs.lookup ("most_within":Str)=some (.int 8)
 mp:fs.lookup ("most_parts":Str)=some (.int 20)
 place:fs.lookup ("place":Str)=some (.int (p:Int))
 parts:fs.lookup ("parts":Str)=some (.int (n:Int))
 no1:fs.lookup ("enter":Str)=none
 no2:fs.lookup ("sees":Str)=none
 no3:fs.lookup ("take":Str)=none
 no4:fs.lookup ("word":Str)=none
 no5:fs.lookup ("finish":Str)=none
 len:fs.length<=6
theorem SF.toPlace    (h:SF T p n fs) (p':Nat):SF T p' n (bX "place" (.int (p':Int)) fs):=by
 erw[6,6,6,6,6,6,6,6,6,6,6]
 . rw[ah,zB0 ⋯];exact h.text
 . rw[ah,zB0 ⋯];exact h.mw
 . rw[ah,zB0 ⋯];exact h.mp
 . rw[ah,zE0 rfl]
 . rw[ah,zB0 ⋯];exact h.parts
 . rw[ah,zB0 ⋯];exact h.no1
 . rw[ah,zB0 ⋯];exact h.no2
 . rw[ah,zB0 ⋯];exact h.no3
 . rw[ah,zB0 ⋯];exact h.no4
 . rw[ah,zB0 ⋯];exact h.no5
 . rw[nJ _ _ _ _ h.place];exact h.len
theorem SF.toParts    (h:SF T p n fs) (n':Nat):SF T p n' (bX "parts" (.int (n':Int)) fs):=by
 erw[6,6,6,6,6,6,6,6,6,6,6]
 . rw[ah,zB0 ⋯];exact h.text
 . rw[ah,zB0 ⋯];exact h.mw
 . rw[ah,zB0 ⋯];exact h.mp
 . rw[ah,zB0 ⋯];exact h.place
 . rw[ah,zE0 rfl]
 . rw[ah,zB0 ⋯];exact h.no1
 . rw[ah,zB0 ⋯];exact h.no2
 . rw[ah,zB0 ⋯];exact h.no3
 . rw[ah,zB0 ⋯];exact h.no4
 . rw[ah,zB0 ⋯];exact h.no5
 . rw[nJ _ _ _ _ h.parts];exact h.len
def sfs (T:Str) (k:Int):List (Str×V):=bX "parts" (.int 0) (bX "place" (.int 0) (bX "most_parts" (.int 20) (bX "most_within" (.int 8) (bX "row" (.int k) (bX "text" (.str T) [])))))
theorem DB(T:Str)(k:Int):SF T 0 0 (sfs T k):=by
 have no:∀m:Str,m≠"parts" -> m≠"place" -> m≠"most_parts" -> m≠"most_within" -> m≠"row" -> m≠"text" -> (sfs T k).lookup m=none:=λm h1 h2 h3 h4 h5 h6=>by
  unfold sfs;rw[ah,zB0 h1,ah,zB0 h2,ah,zB0 h3,ah,zB0 h4,ah,zB0 h5,ah,zB0 h6];rfl
 erw[6,6,6,6,6,no _ ⋯ ⋯ ⋯ ⋯ ⋯ ⋯,no _ ⋯ ⋯ ⋯ ⋯ ⋯ ⋯,no _ ⋯ ⋯ ⋯ ⋯ ⋯ ⋯,no _ ⋯ ⋯ ⋯ ⋯ ⋯ ⋯,no _ ⋯ ⋯ ⋯ ⋯ ⋯ ⋯,6]
 . unfold sfs;rw[ah,zB0 ⋯,ah,zB0 ⋯,ah,zB0 ⋯,ah,zB0 ⋯,ah,zB0 ⋯,ah,zE0 rfl]
 . unfold sfs;rw[ah,zB0 ⋯,ah,zB0 ⋯,ah,zB0 ⋯,ah,zE0 rfl]
 . unfold sfs;rw[ah,zB0 ⋯,ah,zB0 ⋯,ah,zE0 rfl]
 . unfold sfs;rw[ah,zB0 ⋯,ah,zE0 rfl];rfl
 . unfold sfs;rw[ah,zE0 rfl];rfl
 . unfold sfs;refine zQ0 (bD _ _ _) (Nat.succ_le_succ (zQ0 (bD _ _ _) (Nat.succ_le_succ (zQ0 (bD _ _ _) (Nat.succ_le_succ (zQ0 (bD _ _ _) (Nat.succ_le_succ (zQ0 (bD _ _ _) (Nat.succ_le_succ (bD _ _ _))))))))))
def ScanAt(C:Addr)(H:Hp)(sc:Addr)(T:Str)(p n:Nat):Prop:=∃dx fs,H sc=some (.ins C dx fs)/\SF T p n fs
inductive spScInit(C:Addr)(vs:List V)(H:Hp)(Q:VK)(u_3:XK):Prop
 |mk:∀(g dx:Addr)(T:Str)(k:Int),vs=[.ref g,.str T,.int k,.int 8,.int 20]->H g=some (.ins C dx [])->(∀H',ScanAt C H' g T 0 0->SameBut g H H'->Q .non H')->spScInit C vs H Q u_3
theorem xc:FnScope ["self","text","row","most_within","most_parts"] ["self","text","row","most_within","most_parts"] (ak nh):=%[1,1,1,4,1,4|4]
theorem xF   (F:Fun K "__init__" "Scan.__init__" nh f fd) (T:ScTxt K mg C):FnOk P w K mg base CX0 1 f fd ["self","text","row","most_within","most_parts"] (spScInit C):=by
 exists xc
 erw[g,dx,Tx,kr,1,hg,q]at h;erw[_,(aa (bd (pv 0) (pv 1) rfl) (aa (bd (pv 0) (pv 2) rfl) (aa (bd (pv 0) (pv 3) rfl) (aa (bd (pv 0) (pv 4) rfl) (aa (bd (pv 0) ac rfl) (ad (bd (pv 0) ac rfl))))))),6];erw[0,0,g,C,dx,[],1,hg,T.cl,T.nX,(by show 0<1000;decide),6];erw[0,0,g,C,dx,0,aC,T.cl,T.nR,(Nat.lt_of_le_of_lt (bD _ _ _) (by show 1<1000;decide)),6];erw[0,0,g,C,dx,0,aC,T.cl,T.nW,(Nat.lt_of_le_of_lt (bD _ _ _) (Nat.lt_of_le_of_lt (Nat.succ_le_succ (bD _ _ _)) (by show 2<1000;decide))),6];erw[0,0,g,C,dx,0,aC,T.cl,T.nP,(Nat.lt_of_le_of_lt (bD _ _ _) (Nat.lt_of_le_of_lt (Nat.succ_le_succ (zQ0 (bD _ _ _) (Nat.succ_le_succ (bD _ _ _)))) (by show 3<1000;decide))),6];erw[0,g,C,dx,0,aC,T.cl,T.nL,(Nat.lt_of_le_of_lt (bD _ _ _) (Nat.lt_of_le_of_lt (Nat.succ_le_succ (zQ0 (bD _ _ _) (Nat.succ_le_succ (zQ0 (bD _ _ _) (Nat.succ_le_succ (bD _ _ _)))))) (by show 4<1000;decide))),6];erw[0,g,C,dx,0,aC,T.cl,T.nN,(Nat.lt_of_le_of_lt (bD _ _ _) (Nat.lt_of_le_of_lt (Nat.succ_le_succ (zQ0 (bD _ _ _) (Nat.succ_le_succ (zQ0 (bD _ _ _) (Nat.succ_le_succ (zQ0 (bD _ _ _) (Nat.succ_le_succ (bD _ _ _)))))))) (by show 5<1000;decide))),6];exact q _ ⟨dx,sfs Tx kr,aC,DB Tx kr⟩ ((SameBut.upd _).trans ((SameBut.upd _).trans ((SameBut.upd _).trans ((SameBut.upd _).trans ((SameBut.upd _).trans (SameBut.upd _))))))
theorem SF.size(h:SF T p n fs):fs.length<1000:=Nat.lt_of_le_of_lt h.len ⋯
inductive spEnter(C:Addr)(vs:List V)(H:Hp)(Q:VK)(u_3:XK):Prop
 |mk:∀(sc:Addr)(T:Str)(p n:Nat)(wi:Int),vs=[.ref sc,.int wi]->ScanAt C H sc T p n->wi<=8->n+1<=20->(∀H',ScanAt C H' sc T p (n+1)->SameBut sc H H'->Q .non H')->spEnter C vs H Q u_3
theorem xa:FnScope ["self","within"] ["self","within"] (ak na):=%[1,1,1,4,1,4|4]
theorem xE   (F:Fun K "enter" "Scan.enter" na f fd) (T:ScTxt K mg C):FnOk P w K mg base CX0 1 f fd ["self","within"] (spEnter C):=by
 exists xa
 erw[sc,Tx,p,n,wi,1,%[dx,fs,hs|sf],w10,n30,q]at h;refine⟨_,(aa (bd (pv 0) (aj aQ (az (pv 0) rfl) ac) rfl)
  (ad (aB (PW.pt (eD (af gY (pv 1) (az (pv 0) rfl) (ai _)) (dA (af gY (az (pv 0) rfl) (az (pv 0) rfl) (ai _))))) cg av))),?_⟩
 have sf':=sf.toParts (n+1);erw[0,sc,C,dx,fs,0,hs,T.cl,T.nN,sf.parts,2,0,sc,C,dx,fs,1,hs,T.cl,T.nN,sf.size,6];have hs':upd H sc (.ins C dx (bX "parts" (.int ((n:Int)+1)) fs)) sc=some (.ins C dx (bX "parts" (.int ((n+1:Nat):Int)) fs)):=aC;erw[0,0,sc,C,dx,_,0,hs',T.cl,T.nW,sf'.mw,2,0,6];refine ax #[0] ?_;erw[0,sc,C,dx,_,0,hs',T.cl,T.nN,sf'.parts,0,sc,C,dx,_,0,hs',T.cl,T.nP,sf'.mp,2,0,6];refine ax #[0] ?_;exact q _ ⟨dx,_,hs',sf'⟩ (SameBut.upd _)
inductive spSees(C:Addr)(vs:List V)(H:Hp)(Q:VK)(u_3:XK):Prop
 |mk:∀(sc:Addr)(T u:Str)(p n:Nat),vs=[.ref sc,.str u]->ScanAt C H sc T p n->Q (.bl (eT T u p)) H->spSees C vs H Q u_3
theorem zt:FnScope ["self","signs"] ["self","signs"] (ak qC):=%[1,1,1,4,1,4|4]
theorem Ac   (F:Fun K "sees" "Scan.sees" qC f fd) (T:ScTxt K mg C):FnOk P w K mg base CX0 1 f fd ["self","signs"] (spSees C):=by
 exists zt
 erw[sc,Tx,u,p,n,1,%[dx,fs,hs|sf],q]at h;erw[_,(ad (ao (dq PySem.F.plainAttrs_str PySem.F.slot_str_startswith PySem.F.type_str_startswith sM (az (pv 0) rfl) %[1,az (pv 0) rfl|aH]))),6];erw[0,sc,C,dx,fs,0,hs,T.cl,T.nX,sf.text,1,0,0,sc,C,dx,fs,0,hs,T.cl,T.nL,sf.place,Tx,u,0,1,q]
inductive spTake'(C:Addr)(vs:List V)(H:Hp)(Q:VK)(u_3:XK):Prop
 |mk:∀(sc:Addr)(T u:Str)(p n:Nat),vs=[.ref sc,.str u]->ScanAt C H sc T p n->eT T u p=true->u.length<=10->(∀H',ScanAt C H' sc T (p+u.length) n->SameBut sc H H'->Q .non H')->spTake' C vs H Q u_3
theorem zr:FnScope ["self","signs"] ["self","signs"] (ak qB):=%[1,1,1,4,1,4|4]
theorem Ab   (F:Fun K "take" "Scan.take" qB f fd) (B:Bl mg) (T:ScTxt K mg C) (mS:Meth K C "sees" fS) (GS:FnOk P w K mg base CX0 1 fS fdS ["self","signs"] (spSees C)) (bS:Binds K fdS ["self","signs"] []):FnOk P w K mg base CX0 2 f fd ["self","signs"] (spTake' C):=by
 exists zr
 erw[sc,Tx,u,p,n,1,S,hu,u10,q]at h;have hr1:Room 1 _:=hr.mono ⋯;refine⟨_,(aa (aB (gN (dj (bq (pv 0) T.cl mS GS hr1 bS .nil bh %[1|aH]))) cg av)
  (ad (bd (pv 0) (aj aQ (az (pv 0) rfl) (aD cw rfl B.len PySem.boot_len %[1|aH])) rfl))),?_⟩
 let%[dx,fs,hs|sf]:=id S;erw[0,sc,dx,fs,1,hs,sf.no2,0,sc,Tx,u,p,n,1,S,0,6];rw[hu];refine cG ?_;erw[0,sc,C,dx,fs,0,hs,T.cl,T.nL,sf.place,0,u,1,bK #[0],2,0,sc,C,dx,fs,1,hs,T.cl,T.nL,sf.size,6];have hs':upd H sc (.ins C dx (bX "place" (.int ((p:Int)+(u.length:Int))) fs)) sc=some (.ins C dx (bX "place" (.int ((p+u.length:Nat):Int)) fs)):=by rw[aC,Int.natCast_add]
 exact q _ %[dx,_,hs'|sf.toPlace _] (SameBut.upd _)
def tR(r:List Nat):Prop:=r=[]∨∃c r',r=c::r'/\(c=32∨c=40∨c=41)
inductive spWord(C:Addr)(vs:List V)(H:Hp)(Q:VK)(u_3:XK):Prop
 |mk:∀(sc:Addr)(T:Str)(p n:Nat)(x r:List Nat),vs=[.ref sc]->ScanAt C H sc T p n->T.length<=1000->p<=T.length->T.cps.toList.drop p=x++r->(∀c∈x,isIn ENDS c=false)->tR r->(∀H',ScanAt C H' sc T (p+x.length) n->SameBut sc H H'->Q (.str (stl x)) H')->spWord C vs H Q u_3
theorem D4:FnScope ["self","start"] ["self"] (ak qA):=%[1,1,1,4,1,4|4]
theorem Aa   (F:Fun K "word" "Scan.word" qA f fd) (B:Bl mg) (X:Tx K mg) (T:ScTxt K mg C):FnOk P w K mg base CX0 1 f fd ["self"] (spWord C):=by
 exists D4
 erw[sc,Tx,p,n,x,r,1,%[dx,fs,hs|sf],tl,pl,hd,xl,er,q]at h;erw[te,ge]at X.ends;refine⟨_,(aa #[am,1,D4,az (pv 0) rfl]
  (aa (gX PassesOwn.never (PW.pt (lm (af cN (az (pv 0) rfl) (aD cw rfl B.len PySem.boot_len %[az (pv 0) rfl|aH]) (ai _)) (kt (af qS (ay rm (az (pv 0) rfl) (az (pv 0) rfl) (λ_ _=>rfl)) (cE (v:=.str ENDS) rfl ge %[|0]) (by rfl'))))) (ad (bd (pv 0) (aj aQ (az (pv 0) rfl) ac) rfl)))
  (ad (ao (gg uu (az (pv 0) rfl) (fq (pv 1)) (fq (az (pv 0) rfl))))))),?_⟩
 have L:Tx.cps.toList.length=Tx.length:=by rw[Array.length_toList];rfl
 have hlen:Tx.length=p+(x.length+r.length):=by
  have:=congrArg List.length hd
  rw[List.length_drop,zJ0,L]at this;omega
 erw[0,sc,C,dx,fs,0,hs,T.cl,T.nL,sf.place,6];erw[λm σ H'=>∃j:Nat,j<=x.length/\σ=[some (.ref sc),some (.int (p:Int))]/\ScanAt C H' sc Tx (p+j) n/\SameBut sc H H'/\m=x.length-j,%[_,(0),zW0 _,1,%[dx,fs,hs|sf],SameBut.refl _ _|1],6];rintro m σ H1 ⟨j,hj,rfl,⟨dx1,fs1,hs1,sf1⟩,S1,rfl⟩;erw[0,sc,C,dx1,fs1,0,hs1,T.cl,T.nL,sf1.place,0,sc,C,dx1,fs1,0,hs1,T.cl,T.nX,sf1.text,Tx,1,bK tl,2,0,6];have sl:j=x.length->Txt.slice Tx (some (p:Int)) (some ((p+j:Nat):Int))=stl x:=λej=>by
  have es:Txt.slice Tx (some (p:Int)) (some ((p+j:Nat):Int))=_:=StrLaws.sliceText_plain (i:=(p:Int)) (j:=((p+j:Nat):Int)) %[3,3|by rw[L];omega];rw[es];refine By ?_;show(Tx.cps.toList.drop (p:Int).toNat).take (((p+j:Nat):Int)-(p:Int)).toNat=x;rw[show(p:Int).toNat=p by omega,show(((p+j:Nat):Int)-(p:Int)).toNat=x.length by omega,hd,List.take_left'];rfl
 by_cases c1:(((p+j:Nat):Int))<(Tx.length:Int)
 . refine aR c1 ?_;have hk:p+j<Tx.cps.toList.length:=by rw[L];omega
   have ha:atI Tx.cps.toList ((p+j:Nat):Int)=some Tx.cps.toList[p+j]:=db (zN0 hk);have hx:Tx.cps.toList[p+j]?=(x++r)[j]?:=by rw[←hd,List.getElem?_drop]
   erw[0,sc,C,dx1,fs1,0,hs1,T.cl,T.nX,sf1.text,0,sc,C,dx1,fs1,0,hs1,T.cl,T.nL,sf1.place,Tx,2,bK tl,ha,2,0,6]
   by_cases c2:j<x.length
   . have ec:Tx.cps.toList[p+j]=x[j]:=by
      rw[zN0 hk,List.getElem?_append_left c2,zN0 c2]at hx;exact zU0 hx
     have en:(!isIn ENDS Tx.cps.toList[p+j])=true:=by rw[ec,xl _ (qP0 c2)];rfl
     have en':(!(!(Builtin.Str.occurrences ENDS %[|#[Tx.cps.toList[p+j]]] 0 ENDS.length 1).isEmpty))=true:=en;rw[en'];erw[_,λ_ _ h=>h,6];erw[0,sc,C,dx1,fs1,0,hs1,T.cl,T.nL,sf1.place,2,0,sc,C,dx1,fs1,1,hs1,T.cl,T.nL,sf1.size,6];have hs':upd H1 sc (.ins C dx1 (bX "place" (.int (((p+j:Nat):Int)+1)) fs1)) sc=some (.ins C dx1 (bX "place" (.int ((p+(j+1):Nat):Int)) fs1)):=by
      rw[aC,show((p+j:Nat):Int)+1=((p+(j+1):Nat):Int) by omega]
     erw[_,3,j+1,3,1,%[dx1,_,hs'|sf1.toPlace _],S1.trans (SameBut.upd _),1]
   . have ej:j=x.length:=by omega
     have en:(!isIn ENDS Tx.cps.toList[p+j])=false:=by
      rcases er with rfl | ⟨c,r',rfl,hc⟩
      . rw[List.length_nil]at hlen;omega
      . rw [zN0 hk,List.getElem?_append_right #[0],show j-x.length=0 by omega]at hx;have ec:Tx.cps.toList[p+j]=c:=zU0 hx;rw[ec];rcases hc with rfl | rfl | rfl
        . rw[ends_in.1];rfl
        . rw[ends_in.2.1];rfl
        . rw[ends_in.2.2];rfl
     have en':(!(!(Builtin.Str.occurrences ENDS %[|#[Tx.cps.toList[p+j]]] 0 ENDS.length 1).isEmpty))=false:=en;rw[en'];erw[0,sc,C,dx1,fs1,0,hs1,T.cl,T.nX,sf1.text,0,0,0,sc,C,dx1,fs1,0,hs1,T.cl,T.nL,sf1.place,0,Tx,1,bK tl,6];rw[sl ej];rw[ej]at sf1;exact q H1 ⟨dx1,fs1,hs1,sf1⟩ S1
 . refine ax c1 ?_;have ej:j=x.length:=by omega
   erw[0,sc,C,dx1,fs1,0,hs1,T.cl,T.nX,sf1.text,0,0,0,sc,C,dx1,fs1,0,hs1,T.cl,T.nL,sf1.place,0,Tx,1,bK tl,6];rw[sl ej];rw[ej]at sf1;exact q H1 ⟨dx1,fs1,hs1,sf1⟩ S1
inductive spFinish(C:Addr)(vs:List V)(H:Hp)(Q:VK)(u_3:XK):Prop
 |mk:∀(sc:Addr)(T:Str)(n:Nat),vs=[.ref sc]->ScanAt C H sc T T.length n->T.length<=1000->Q .non H->spFinish C vs H Q u_3
theorem ux:FnScope ["self"] ["self"] (ak kX):=%[1,1,1,4,1,4|4]
theorem uU   (F:Fun K "finish" "Scan.finish" kX f fd) (B:Bl mg) (T:ScTxt K mg C):FnOk P w K mg base CX0 1 f fd ["self"] (spFinish C):=by
 exists ux
 erw[sc,Tx,n,1,%[dx,fs,hs|sf],tl,q]at h;erw[_,(ad (aB (af ji (az (pv 0) rfl) (aD cw rfl B.len PySem.boot_len %[az (pv 0) rfl|aH]) (ai _)) cg av)),6];erw[0,sc,C,dx,fs,0,hs,T.cl,T.nL,sf.place,0,sc,C,dx,fs,0,hs,T.cl,T.nX,sf.text,Tx,1,bK tl,1,0,6];show if(!decide (V.int (Tx.length:Int)=V.int (Tx.length:Int)))=true then _ else _
 rw[decide_eq_true rfl];exact cG q
theorem AU(n p:Nat):PySem.fromIndex n (p:Int)=p:=by
 unfold PySem.fromIndex;rw[zB0 #[0]];omega
theorem vP(T u:Str)(p:Nat):Builtin.Str.subAt T u p=decide ((T.cps.toList.drop p).take u.length=u.cps.toList):=by
 unfold Builtin.Str.subAt;have e:(T.cps.extract p (p+u.length)).toList=(T.cps.toList.drop p).take u.length:=by
  rw[Array.toList_extract,List.extract_eq_drop_take]
  congr 1
  omega
 by_cases c:(T.cps.toList.drop p).take u.length=u.cps.toList
 . rw [decide_eq_true c]
   have:T.cps.extract p (p+u.length)=u.cps:=Array.toList_inj.mp (e.trans c)
   rw[this]
   simp
 . rw [decide_eq_false c]
   have:¬ T.cps.extract p (p+u.length)=u.cps:=λz=>c (by rw[←e,z])
   simpa using this
theorem kI(T:Str):T.cps.toList.length=T.length:=by rw[Array.length_toList];rfl
theorem jB{T:Str}{p:Nat}{u v:List Nat}(h:T.cps.toList.drop p=u++v)(hp:p<=T.length):p+u.length+v.length=T.length:=by
 have:=congrArg List.length h
 rw[List.length_drop,zJ0,kI]at this;omega
theorem bH{T:Str}{p:Nat}{u v:List Nat}(h:T.cps.toList.drop p=u++v):T.cps.toList.drop (p+u.length)=v:=by
 rw[←List.drop_drop,h,List.drop_left]
theorem cV{T u:Str}{p:Nat}{r:List Nat}(h:T.cps.toList.drop p=u.cps.toList++r)(hp:p<=T.length):eT T u (p:Int)=true:=by
 unfold eT;have hl:=jB h hp;rw[kI]at hl;rw[AU,vP,decide_eq_true #[0],h,←kI u,List.take_left,decide_eq_true rfl];rfl
theorem wY {T:Str} {p:Nat} {c:Nat} {r:List Nat} (h:T.cps.toList.drop p=c::r) (hc:c≠40):eT T ("(":Str) (p:Int)=false:=by
 unfold eT;have l1:(("(":Str)).length=1:=by decide
 rw[AU,vP,h,rf,l1]
 have:¬ (c::r).take 1=[40]:=λz=>hc (by simpa using z)
 rw[decide_eq_false this,Bool.and_false]
theorem cz(S:ScanAt C H sc T p n)(s:SameBut sc H H'):bY H H':=λa xs h=>s a _ (λz=>by
 erw[dx,fs,e,_]at S;rw[z,e]at h;cases h) h
theorem ScanAt.same(S:ScanAt C H sc T p n)(s:Same H H'):ScanAt C H' sc T p n:=by
 erw[dx,fs,e,sf]at S;erw[dx,fs,s _ _ e,sf]
structure Mths(P:Program)(w:World)(K:W.Frag)(mg:Str->Option Value)(base:Heap)(C fE fS fT fW fF:Addr)(dE dS dT dW dF:FuncData):Prop where
 mE:Meth K C "enter" fE
 gE:FnOk P w K mg base CX0 1 fE dE ["self","within"] (spEnter C)
 bE:Binds K dE ["self","within"] []
 mS:Meth K C "sees" fS
 gS:FnOk P w K mg base CX0 1 fS dS ["self","signs"] (spSees C)
 bS:Binds K dS ["self","signs"] []
 mT:Meth K C "take" fT
 gT:FnOk P w K mg base CX0 2 fT dT ["self","signs"] (spTake' C)
 bT:Binds K dT ["self","signs"] []
 mW:Meth K C "word" fW
 gW:FnOk P w K mg base CX0 1 fW dW ["self"] (spWord C)
 bW:Binds K dW ["self"] []
 mF:Meth K C "finish" fF
 gF:FnOk P w K mg base CX0 1 fF dF ["self"] (spFinish C)
 bF:Binds K dF ["self"] []
theorem AX:∀c:Nat,c<62->42<=c->isIn ENDS c=false:=by decide
theorem Ew:∀c:Fin 26,isIn FIG (97+c.val)=false:=by decide
theorem AH{c:Nat}(h:97<=c/\c<=122):isIn FIG c=false:=by
 have:=Ew %[c-97|3]
 rwa [show 97+(%[c-97|3]:Fin 26).val=c by show 97+(c-97)=c;omega]at this
theorem ym(h:NmK x):jF x=false:=by
 unfold jF;erw[hl,h1,_,_]at h
 have:x.cps.toList.all (isIn FIG)=false:=by
  cases e:x.cps.toList with
  | nil=>
    have:=cR x
    unfold cd at this;rw[e]at this
    simp at this
    omega
  | cons c r=>
    have:=AH (hl c (by rw[e];exact zY0))
    rw[List.all_cons,this];rfl
 rw[this,Bool.and_false]
def lE(l:List Nat):Prop:=∀c∈l,isIn ENDS c=false
theorem cI{l:List Nat}(h:∀c∈l,97<=c/\c<=122):lE l:=λc hc=>ye (h c hc)
theorem nZ{l:List Nat}(h:∀c∈l,42<=c/\c<=61):lE l:=λc hc=>AX c (by have:=h c hc;omega) (h c hc).1
theorem nY{n:Int}(h:0<=n):lE (cd (bn n)):=nZ λc hc=>by have:=jz h c hc;omega
theorem xC(h:lE l)(h1:1<=l.length)(r:List Nat):∃c r',l++r=c::r'/\c≠40:=by
 cases l with
 | nil=>cases h1
 | cons c l'=>
   erw[c,l'++r,1,λe=>?_]
   have:=h c zY0
   rw[e,ends_in.2.1]at this;cases this
inductive spNextT(C:Addr)(n:Nat)(vs:List V)(H:Hp)(Q:VK)(u_3:XK):Prop
 |mk:∀(sc:Addr)(wi:Int)(T:Str)(p k:Nat)(t:Tm)(r:List Nat),vs=[.ref sc,.int wi]->ScanAt C H sc T p k->T.length<=1000->p<=T.length->T.cps.toList.drop p=[32]++(t.txt++r)->tR r->t.ok->t.depth<=n->wi+(t.depth:Int)<=9->k+t.size<=20->(∀(v:V)(H':Hp),TmAt H' v t->ScanAt C H' sc T (p+1+t.txt.length) (k+t.size)->SameBut sc H H'->Q v H')->spNextT C n vs H Q u_3
inductive spTB(C:Addr)(n:Nat)(vs:List V)(H:Hp)(Q:VK)(u_3:XK):Prop
 |mk:∀(sc:Addr)(wi:Int)(T:Str)(p k:Nat)(t:Tm)(r:List Nat),vs=[.ref sc,.int wi]->ScanAt C H sc T p (k+1)->T.length<=1000->p<=T.length->T.cps.toList.drop p=t.txt++r->t.ok->((∃w a,t=.ask w a)∨∃s a b,t=.op s a b)->t.depth<=n+1->wi+(t.depth:Int)<=9->k+t.size<=20->(∀(v:V)(H':Hp),TmAt H' v t->ScanAt C H' sc T (p+t.txt.length) (k+t.size)->SameBut sc H H'->Q v H')->spTB C n vs H Q u_3
theorem b5:FnScope ["scan","within","word","first","term"] ["scan","within"] (ak cS):=%[1,1,1,4,1,4|4]
theorem Bv {n:Nat}   (F:Fun K "term_in_bracket" "term_in_bracket" cS f fd) (X:Tx K mg) (T:ScTxt K mg C) (M:Mths P w K mg base C fE fS fT fW fF dE dS dT dW dF) (cn:Cal P w K mg base (2*n+3) "next_term" ["scan","within"] (spNextT C n)):FnOk P w K mg base CX0 (2*n+4) f fd ["scan","within"] (spTB C n):=by
 exists b5
 erw[sc,wi,Tx,p,k,t,r,1,S0,tl,pl,hd,ok,kind,dn,wd,k20,q]at h;erw[ja,gj,hj]at X.asking;erw[sa,gs,hs]at X.signs;have hr1:Room 1 _:=hr.mono #[0];have hr2:Room 2 _:=hr.mono #[0];refine⟨_,(aa (ba (bq (pv 0) T.cl M.mT M.gT hr2 M.bT .nil bh %[au|aH]))
  (aa #[am,2,b5,gi (pv 0) T.cl M.mW M.gW hr1 M.bW .nil bh]
  (aa #[am,3,b5,ag cn hr #[0] rfl %[0,aj aQ (pv 1) ac|aH]]
  (aa (aB (af dB (pv 2) (cE (v:=.ref ja) rfl gj rfl) (by rfl')) (ad #[am,4,b5,aG %[2,3|aH]]) (ad (aB (af dB (pv 2) (cE (v:=.ref sa) rfl gs rfl) (by rfl')) (ad #[am,4,b5,aG %[au,2,3,ag cn hr #[0] rfl %[0,aj aQ (pv 1) ac|aH]|aH]]) cg)))
  (aa (ba (bq (pv 0) T.cl M.mT M.gT hr2 M.bT .nil bh %[au|aH]))
  (ad (ao (pv 4)))))))),?_⟩
 have l1:(("(":Str)).length=1:=by decide
 have l3:((")":Str)).length=1:=by decide
 let%[dx0,fs0,hs0|sf0]:=id S0;rcases kind with⟨wd',a,rfl⟩ | ⟨o,a,b,rfl⟩
 . erw[okw,oka]at ok;let%[_,w1,wl|_]:=vJ wd' okw;have da:a.depth<=n:=Nat.le_of_succ_le_succ dn;have ed:(((Tm.ask wd' a).depth:Nat):Int)=(a.depth:Int)+1:=by show((a.depth+1:Nat):Int)=_;omega
   have es:(Tm.ask wd' a).size=a.size+1:=rfl;have wlen:(cd wd').length=wd'.length:=cR _;have hd0:Tx.cps.toList.drop p=[40]++(cd wd'++([32]++(a.txt++([41]++r)))):=by
    rw[hd];show([40]++(cd wd'++([32]++(a.txt++[41]))))++r=_
    simp
   have tlen:(Tm.ask wd' a).txt.length=1+(wd'.length+(1+(a.txt.length+1))):=by
    show([40]++(cd wd'++([32]++(a.txt++[41])))).length=_;simp only[zJ0,zT0,List.length_nil,wlen]
   have hl0:=jB hd0 pl;simp only[zJ0,zT0,List.length_nil,wlen]at hl0;have hd1:=bH hd0;have hd2:=bH hd1;have hd3:=bH hd2;have hd4:=bH hd3;simp only[zT0,List.length_nil,wlen]at hd1 hd2 hd3 hd4;erw[0,sc,dx0,fs0,1,hs0,sf0.no3,sc,Tx,_,p,0,S0,cV (r:=cd wd'++([32]++(a.txt++([41]++r)))) (by rw[rf];exact hd0) pl,by rw[l1];decide,λH1 S1 B1=>?_];rw[l1]at S1;let%[dx1,fs1,hs1|sf1]:=id S1;erw[0,sc,dx1,fs1,1,hs1,sf1.no4,sc,Tx,_,_,cd wd',0,S1,tl,3,hd1,cI wl,.inr %[(32),0|.inl rfl],λH2 S2 B2=>?_];rw[wlen]at S2;erw[0,0,2,sc,wi+1,Tx,_,_,a,0,S2,tl,3,hd2,.inr %[(41),r,1|.inr (.inr rfl)],oka,da,3,3,λv1 H3 T3 S3 B3=>?_];erw[0,ja,0,.inr (hj _),1,⋯,0,6];have einj:inV (.str (stl (cd wd'))) (askW.map V.str)=true:=by rw[show stl (cd wd')=wd' from jM _,iE,decide_eq_true okw]
   rw[einj];refine du ?_;erw[0,0,(by show 2<=sizeLine;decide),λc hc=>?_];have G:=zC0 hc (.tup [.str (stl (cd wd')),v1]);have S4:=S3.same G;have ec:upd H3 c (.tup [.str (stl (cd wd')),v1]) c=some (.tup [.str wd',v1]):=aC;have T4:=T3.mono (aV G);generalize upd H3 c (.tup [.str (stl (cd wd')),v1])=H4 at G S4 ec T4;let%[dx4,fs4,hs4|sf4]:=id S4;erw[0,sc,dx4,fs4,1,hs4,sf4.no3,sc,Tx,_,_,0,S4,cV (r:=r) (by rw[Ay,show p+1+wd'.length+1+a.txt.length=p+(0+1)+wd'.length+(0+1)+a.txt.length by omega];exact hd4) #[0],by rw[l3];decide,λH5 S5 B5=>?_];rw[l3]at S5;have k5:=cz S4 B5;erw[0,6];rw[show p+1+wd'.length+1+a.txt.length+1=p+(Tm.ask wd' a).txt.length by rw[tlen];omega,show k+1+a.size=k+(Tm.ask wd' a).size by rw[es];omega]at S5;exact q _ _ (.ask (k5 _ _ ec) (T4.mono k5)) S5 (B1.trans (B2.trans (B3.trans ((zK0 G).trans B5))))
 . erw[oko,oka,okb]at ok;let%[o1,ol|no]:=qv o oko;have dd:a.depth<=n/\b.depth<=n/\wi+(a.depth:Int)<=8/\wi+(b.depth:Int)<=8:=by
    have e1:(Tm.op o a b).depth=max a.depth b.depth+1:=rfl;rw[e1]at dn wd;omega
   have es:(Tm.op o a b).size=a.size+b.size+1:=rfl;have wlen:(cd o).length=o.length:=cR _;have hd0:Tx.cps.toList.drop p=[40]++(cd o++([32]++(a.txt++([32]++(b.txt++([41]++r)))))):=by
    rw[hd];show([40]++(cd o++([32]++(a.txt++([32]++(b.txt++[41]))))))++r=_
    simp
   have tlen:(Tm.op o a b).txt.length=1+(o.length+(1+(a.txt.length+(1+(b.txt.length+1))))):=by
    show([40]++(cd o++([32]++(a.txt++([32]++(b.txt++[41])))))).length=_;simp only[zJ0,zT0,List.length_nil,wlen]
   have hl0:=jB hd0 pl;simp only[zJ0,zT0,List.length_nil,wlen]at hl0;have hd1:=bH hd0;have hd2:=bH hd1;have hd3:=bH hd2;have hd4:=bH hd3;have hd5:=bH hd4;have hd6:=bH hd5;simp only[zT0,List.length_nil,wlen]at hd1 hd2 hd3 hd4 hd5 hd6;erw[0,sc,dx0,fs0,1,hs0,sf0.no3,sc,Tx,_,p,0,S0,cV (r:=cd o++([32]++(a.txt++([32]++(b.txt++([41]++r)))))) (by rw[rf];exact hd0) pl,by rw[l1];decide,λH1 S1 B1=>?_];rw[l1]at S1;let%[dx1,fs1,hs1|sf1]:=id S1;erw[0,sc,dx1,fs1,1,hs1,sf1.no4,sc,Tx,_,_,cd o,0,S1,tl,3,hd1,nZ ol,.inr %[(32),0|.inl rfl],λH2 S2 B2=>?_];rw[wlen]at S2;erw[0,0,2,sc,wi+1,Tx,_,_,a,0,S2,tl,3,hd2,.inr %[(32),0|.inl rfl],oka,dd.1,3,3,λv1 H3 T3 S3 B3=>?_];erw[0,ja,0,.inr (hj _),1,⋯,0,6];have einj:inV (.str (stl (cd o))) (askW.map V.str)=false:=by rw[show stl (cd o)=o from jM _,iE,decide_eq_false no]
   rw[einj];refine cG ?_;erw[0,sa,0,.inr (hs _),1,⋯,0,6];have eins:inV (.str (stl (cd o))) (signW.map V.str)=true:=by rw[show stl (cd o)=o from jM _,iE,decide_eq_true oko]
   rw [eins];refine du ?_;have hd4':Tx.cps.toList.drop (p+1+o.length+1+a.txt.length)=[32]++(b.txt++([41]++r)):=by
    rw[show p+1+o.length+1+a.txt.length=p+(0+1)+o.length+(0+1)+a.txt.length by omega];exact hd4
   erw[0,0,0,0,2,sc,wi+1,Tx,_,_,b,0,S3,tl,3,hd4',.inr %[(41),r,1|.inr (.inr rfl)],okb,dd.2.1,3,3,λv2 H4 T4 S4 B4=>?_];have T3':=T3.mono (cz S3 B4);erw[(by show 4<=sizeLine;decide),λc hc=>?_];have G:=zC0 hc (.tup [.str "op",.str (stl (cd o)),v1,v2]);have S5:=S4.same G;have ec:upd H4 c (.tup [.str "op",.str (stl (cd o)),v1,v2]) c=some (.tup [.str "op",.str o,v1,v2]):=aC;have T5:=T4.mono (aV G);have T5':=T3'.mono (aV G);generalize upd H4 c (.tup [.str "op",.str (stl (cd o)),v1,v2])=H5 at G S5 ec T5 T5';let%[dx5,fs5,hs5|sf5]:=id S5;erw[0,sc,dx5,fs5,1,hs5,sf5.no3,sc,Tx,_,_,0,S5,cV (r:=r) (by rw[Ay,show p+1+o.length+1+a.txt.length+1+b.txt.length=p+(0+1)+o.length+(0+1)+a.txt.length+(0+1)+b.txt.length by omega];exact hd6) #[0],by rw[l3];decide,λH6 S6 B6=>?_];rw[l3]at S6;have k6:=cz S5 B6;erw[0,6];rw[show p+1+o.length+1+a.txt.length+1+b.txt.length+1=p+(Tm.op o a b).txt.length by rw[tlen];omega,show k+1+a.size+b.size=k+(Tm.op o a b).size by rw[es];omega]at S6;exact q _ _ (.op (k6 _ _ ec) (T5'.mono k6) (T5.mono k6)) S6 (B1.trans (B2.trans (B3.trans (B4.trans ((zK0 G).trans B6)))))
theorem l8:FnScope ["scan","within","word"] ["scan","within"] (ak gC):=%[1,1,1,4,1,4|4]
theorem rc{n:Int}(h:0<=n):bn n∉plainW:=λhm=>by
 let%[_,w1,wl|_]:=kC _ hm;cases e:cd (bn n)with
 | nil=>
   have:=cR (bn n)
   rw[e]at this
   simp at this
   omega
 | cons c r=>
   have h1:=jz h c (by rw[e];exact zY0);have h2:=wl c (by show c∈cd (bn n);rw[e];exact zY0);omega
theorem uK:∀w∈plainW,w∈kept:=by decide
theorem Cb {n:Nat}   (F:Fun K "next_term" "next_term" gC f fd) (B:Bl mg) (X:Tx K mg) (T:ScTxt K mg C) (M:Mths P w K mg base C fE fS fT fW fF dE dS dT dW dF) (dz:Cal P w K mg base 1 "is_name" ["text"] (spTxt iI)) (bc:Cal P w K mg base 1 "is_figures" ["text"] (spTxt jF)) (o6:Cal P w K mg base (2*n+4) "term_in_bracket" ["scan","within"] (spTB C n)):FnOk P w K mg base CX0 (2*(n+1)+3) f fd ["scan","within"] (spNextT C (n+1)):=by
 exists l8
 erw[sc,wi,Tx,p,k,t,r,1,S0,tl,pl,hd,er,ok,dn,wd,k20,q]at h;erw[ja,gj,hj]at X.plain;have hr1:Room 1 _:=hr.mono #[0];have hr2:Room 2 _:=hr.mono #[0];refine⟨_,(aa (ba (bq (pv 0) T.cl M.mT M.gT hr2 M.bT .nil bh %[au|aH]))
  (aa (ba (bq (pv 0) T.cl M.mE M.gE hr1 M.bE .nil bh %[1|aH]))
  (aa (aB (dj (bq (pv 0) T.cl M.mS M.gS hr1 M.bS .nil bh %[au|aH])) (ad (ao (ag o6 hr #[0] rfl %[0,1|aH]))) av)
  (aa #[am,2,l8,gi (pv 0) T.cl M.mW M.gW hr1 M.bW .nil bh]
  (aa (aB (af dB (pv 2) (cE (v:=.ref ja) rfl gj rfl) (by rfl')) (ad (ao (aG %[2|aH]))) av)
  (aa (aB (dj (ag bc hr #[0] rfl %[2|aH])) (ad (ao (aG %[au,be jL rfl B.int hZ %[2|aH]|aH]))) av)
  (aa (aB (gN (dj (ag dz hr #[0] rfl %[2|aH]))) cg av)
  (ad (ao (aG %[au,2|aH])))))))))),?_⟩
 have l2:((" ":Str)).length=1:=by decide
 have dp:=t.depth_pos;have sp:=t.size_pos;have hl0:=jB hd pl;have hd1:=bH hd;simp only[zJ0,zT0,List.length_nil]at hl0 hd1;let%[dx0,fs0,hs0|sf0]:=id S0;erw[0,sc,dx0,fs0,1,hs0,sf0.no3,sc,Tx,_,p,0,S0,cV (r:=t.txt++r) (by rw[jW];exact hd) pl,by rw[l2];decide,λH1 S1 B1=>?_];rw[l2]at S1;let%[dx1,fs1,hs1|sf1]:=id S1;erw[0,sc,dx1,fs1,1,hs1,sf1.no1,0,sc,Tx,_,k,wi,1,S1,3,3,λH2 S2 B2=>?_];let%[dx2,fs2,hs2|sf2]:=id S2;erw[0,sc,dx2,fs2,1,hs2,sf2.no2,sc,Tx,_,_,0,S2,0,6];have shape:(((∃w a,t=.ask w a)∨∃s a b,t=.op s a b)/\∃z,t.txt=40::z)∨∃x:Str,t.txt=cd x/\lE (cd x)/\1<=x.length/\t.size=1/\((t=.plain x/\x∈plainW)∨(∃m,t=.num m/\x=bn m/\0<=m/\m<1000000000000)∨(t=.box x/\NmK x)):=by
  cases t with
  | ask w a=>exact .inl %[.inl %[w,a|1]|0]
  | op s a b=>exact .inl %[.inr %[s,a,b|1]|0]
  | plain x=>
    have okx:x∈plainW:=ok;let%[_,w1,wl|_]:=kC x okx;exact .inr %[x,1,cI wl,w1,1|.inl %[1|okx]]
  | num m=>exact .inr %[bn m,1,nY ok.1,sI ok.1,1|.inr (.inl %[m,1,1,ok.1|ok.2])]
  | box x=>
    have okx:NmK x:=ok;exact .inr %[x,1,cI okx.1,okx.2.1,1|.inr (.inr %[1|okx])]
 rcases shape with⟨kind,z,ez⟩ | ⟨x,et,pc,x1,s1,kd⟩
 . have hs:eT Tx ("(":Str) ((p+1:Nat):Int)=true:=cV (r:=z++r) (by rw[rf];show _=40::(z++r);rw[hd1,ez];rfl) #[0];rw[hs];refine du ?_;erw[0,0,sc,wi,Tx,p+1,k,t,r,1,S2,tl,3,hd1,ok,kind,dn,wd,k20,λv H3 T3 S3 B3=>?_];exact q v H3 T3 S3 (B1.trans (B2.trans B3))
 let%[c,r',hc|c40]:=xC pc (by rw[cR];exact x1) r;have hd':Tx.cps.toList.drop (p+1)=cd x++r:=by rw[hd1,et]
 rw[wY (hd'.trans hc) c40];refine cG ?_;erw[0,sc,dx2,fs2,1,hs2,sf2.no4,sc,Tx,_,_,cd x,r,1,S2,tl,3,hd',pc,er,λH3 S3 B3'=>?_];rw[show stl (cd x)=x from jM _];rw[←et,←s1]at S3;have B3:SameBut sc H H3:=B1.trans (B2.trans B3');erw[0,ja,0,.inr (hj _),1,⋯,0,6];show if inV (.str x) (plainW.map V.str)=true then _ else _
 rw[iE];rcases kd with⟨rfl,okx⟩ | ⟨m,rfl,rfl,m0,m1⟩ | ⟨rfl,okx⟩
 . refine aR okx ?_;erw[0,(by show 1<=sizeLine;decide),λc hc=>?_];have G:=zC0 hc (.tup [.str x]);exact q _ _ (.plain aC) (S3.same G) (B3.trans (zK0 G))
 . refine ax (rc m0) ?_;have nl:=iB m0 m1;erw[0,bn m,1,3,λH4 S4=>%[0|6]];rw[wv m0 m1];refine du ?_;erw[0,bn m,m,1,wu m0 m1,3,(by show 2<=sizeLine;decide),λc hc=>?_];have G:=zC0 hc (.tup [.str "num",.int m]);exact q _ _ (.num aC) ((S3.same S4).same G) (B3.trans (zK0 (S4.trans G)))
 . let%[xl,_,x6|xk]:=id okx;refine ax (λh=>xk (uK x h)) ?_;erw[0,x,1,3,λH4 S4=>%[0|6]];rw[ym okx];refine cG ?_;erw[0,x,1,3,λH5 S5=>%[0|6]];rw[ww okx];refine cG ?_;erw[0,(by show 2<=sizeLine;decide),λc hc=>?_];have G:=zC0 hc (.tup [.str "box",.str x]);exact q _ _ (.box aC) (((S3.same S4).same S5).same G) (B3.trans (zK0 (S4.trans (S5.trans G))))
theorem Ca  :FnOk P w K mg base CX0 3 f fd ["scan","within"] (spNextT C 0):=by
 have no:∀vs H Q E,¬ spNextT C 0 vs H Q E:=λvs H Q E h=>by
  erw[_,_,_,_,_,t,_,_,_,_,_,_,_,_,h1,_]at h
  have:=t.depth_pos
  omega
 erw[λvs H Q E h=>absurd h (no vs H Q E),λA outer s H args us vs Q E _ _ _ _ h=>absurd h (no vs H Q E)]
theorem kF   (F:Fun K "next_term" "next_term" gC f fd) (m:mg "next_term"=some (.ref f)) (Fj:Fun K "term_in_bracket" "term_in_bracket" cS fj fdj) (mj:mg "term_in_bracket"=some (.ref fj)) (B:Bl mg) (X:Tx K mg) (T:ScTxt K mg C) (M:Mths P w K mg base C fE fS fT fW fF dE dS dT dW dF) (dz:Cal P w K mg base 1 "is_name" ["text"] (spTxt iI)) (bc:Cal P w K mg base 1 "is_figures" ["text"] (spTxt jF)) :
 ∀n:Nat,FnOk P w K mg base CX0 (2*n+3) f fd ["scan","within"] (spNextT C n)
 | 0=>Ca
 | n+1=>
   have c1:=Cal.of F (kF F m Fj mj B X T M dz bc n) m (λ_ _ _ _ _ _ us hl=>by let%[u0,u1|1]:=Cp hl;rfl)
   Cb F B X T M dz bc (Cal.of Fj (Bv Fj X T M c1) mj (λ_ _ _ _ _ _ us hl=>by let%[u0,u1|1]:=Cp hl;rfl))
inductive spNextN(C:Addr)(vs:List V)(H:Hp)(Q:VK)(u_3:XK):Prop
 |mk:∀(sc:Addr)(T:Str)(p k:Nat)(x:Str)(r:List Nat),vs=[.ref sc]->ScanAt C H sc T p k->T.length<=1000->p<=T.length->T.cps.toList.drop p=[32]++(cd x++r)->tR r->NmK x->(∀H',ScanAt C H' sc T (p+1+x.length) k->SameBut sc H H'->Q (.str x) H')->spNextN C vs H Q u_3
theorem l9:FnScope ["scan","word"] ["scan"] (ak iX):=%[1,1,1,4,1,4|4]
theorem qW   (F:Fun K "next_name" "next_name" iX f fd) (T:ScTxt K mg C) (M:Mths P w K mg base C fE fS fT fW fF dE dS dT dW dF) (dz:Cal P w K mg base 1 "is_name" ["text"] (spTxt iI)):FnOk P w K mg base CX0 3 f fd ["scan"] (spNextN C):=by
 exists l9
 erw[sc,Tx,p,k,x,r,1,S0,tl,pl,hd,er,ok,q]at h;have hr1:Room 1 _:=hr.mono #[0];have hr2:Room 2 _:=hr.mono #[0];refine⟨_,(aa (ba (bq (pv 0) T.cl M.mT M.gT hr2 M.bT .nil bh %[au|aH]))
  (aa #[am,1,l9,gi (pv 0) T.cl M.mW M.gW hr1 M.bW .nil bh]
  (aa (aB (gN (dj (ag dz hr #[0] rfl %[1|aH]))) cg av)
  (ad (ao (pv 1)))))),?_⟩
 have l2:((" ":Str)).length=1:=by decide
 have hl0:=jB hd pl;have hd1:=bH hd;simp only[zJ0,zT0,List.length_nil]at hl0 hd1;let%[dx0,fs0,hs0|sf0]:=id S0;erw[0,sc,dx0,fs0,1,hs0,sf0.no3,sc,Tx,_,p,0,S0,cV (r:=cd x++r) (by rw[jW];exact hd) pl,by rw[l2];decide,λH1 S1 B1=>?_];rw[l2]at S1;let%[dx1,fs1,hs1|sf1]:=id S1;erw[0,sc,dx1,fs1,1,hs1,sf1.no4,sc,Tx,_,_,cd x,r,1,S1,tl,3,hd1,cI ok.1,er,λH2 S2 B2=>?_];rw[show stl (cd x)=x from jM _];rw[cR]at S2;have x6:=ok.2.2.1;erw[0,x,1,3,λH3 S3=>%[0|6]];rw[ww ok];refine cG ?_;erw[0,q H3 (S2.same S3) (B1.trans (B2.trans (zK0 S3)))]
inductive spNextF(C:Addr)(vs:List V)(H:Hp)(Q:VK)(u_3:XK):Prop
 |mk:∀(sc:Addr)(T:Str)(p k:Nat)(m:Int)(r:List Nat),vs=[.ref sc]->ScanAt C H sc T p k->T.length<=1000->p<=T.length->T.cps.toList.drop p=[32]++(cd (bn m)++r)->tR r->0<=m->m<1000000000000->(∀H',ScanAt C H' sc T (p+1+(bn m).length) k->SameBut sc H H'->Q (.int m) H')->spNextF C vs H Q u_3
theorem gU:FnScope ["scan","word"] ["scan"] (ak fU):=%[1,1,1,4,1,4|4]
theorem ma   (F:Fun K "next_figures" "next_figures" fU f fd) (B:Bl mg) (T:ScTxt K mg C) (M:Mths P w K mg base C fE fS fT fW fF dE dS dT dW dF) (bc:Cal P w K mg base 1 "is_figures" ["text"] (spTxt jF)):FnOk P w K mg base CX0 3 f fd ["scan"] (spNextF C):=by
 exists gU
 erw[sc,Tx,p,k,m,r,1,S0,tl,pl,hd,er,m0,m1,q]at h;have hr1:Room 1 _:=hr.mono #[0];have hr2:Room 2 _:=hr.mono #[0];refine⟨_,(aa (ba (bq (pv 0) T.cl M.mT M.gT hr2 M.bT .nil bh %[au|aH]))
  (aa #[am,1,gU,gi (pv 0) T.cl M.mW M.gW hr1 M.bW .nil bh]
  (aa (aB (gN (dj (ag bc hr #[0] rfl %[1|aH]))) cg av)
  (ad (ao (be jL rfl B.int hZ %[1|aH])))))),?_⟩
 have l2:((" ":Str)).length=1:=by decide
 have hl0:=jB hd pl;have hd1:=bH hd;simp only[zJ0,zT0,List.length_nil]at hl0 hd1;have nl:=iB m0 m1;let%[dx0,fs0,hs0|sf0]:=id S0;erw[0,sc,dx0,fs0,1,hs0,sf0.no3,sc,Tx,_,p,0,S0,cV (r:=cd (bn m)++r) (by rw[jW];exact hd) pl,by rw[l2];decide,λH1 S1 B1=>?_];rw[l2]at S1;let%[dx1,fs1,hs1|sf1]:=id S1;erw[0,sc,dx1,fs1,1,hs1,sf1.no4,sc,Tx,_,_,cd (bn m),r,1,S1,tl,3,hd1,nY m0,er,λH2 S2 B2=>?_];rw[show stl (cd (bn m))=bn m from jM _];rw[cR]at S2;erw[0,bn m,1,3,λH3 S3=>%[0|6]];rw[wv m0 m1];refine cG ?_;erw[0,bn m,m,1,wu m0 m1,3,q H3 (S2.same S3) (B1.trans (B2.trans (zK0 S3)))]
theorem iteNT{c A B:Prop}[Decidable c](hc:c)(h:B):if(!decide c)=true then A else B:=by
 rw[decide_eq_true hc];exact cG h
def Hr.wd:Hr->Str
 | .fin=>"end" | .go _=>"go" | .iff _ _=>"if" | .set _ _=>"set" | .say _=>"say"
def Hr.rest:Hr->List Nat
 | .fin=>[] | .go n=>[32]++cd (bn n) | .iff t n=>[32]++(t.txt++([32]++cd (bn n))) | .set x t=>[32]++(cd x++([32]++t.txt)) | .say t=>[32]++t.txt
theorem Hr.codes(r:Hr):r.str.cps.toList=cd r.wd++r.rest:=by
 cases r with
 | fin=>decide
 | go n=>
   rw[show(Hr.go n).str=(("go":Str)++(" ":Str))++bn n from rfl,hV,hV,jW];show(cd "go"++[32])++cd (bn n)=cd "go"++([32]++cd (bn n))
   simp
 | iff t n=>
   rw[show(Hr.iff t n).str=(((("if":Str)++(" ":Str))++t.str)++(" ":Str))++bn n from rfl];simp only[hV,jW];show(((cd "if"++[32])++t.txt)++[32])++cd (bn n)=cd "if"++([32]++(t.txt++([32]++cd (bn n))))
   simp
 | set x t=>
   rw[show(Hr.set x t).str=(((("set":Str)++(" ":Str))++x)++(" ":Str))++t.str from rfl];simp only[hV,jW];show(((cd "set"++[32])++cd x)++[32])++t.txt=cd "set"++([32]++(cd x++([32]++t.txt)))
   simp
 | say t=>
   rw[show(Hr.say t).str=(("say":Str)++(" ":Str))++t.str from rfl,hV,hV,jW];show(cd "say"++[32])++t.txt=cd "say"++([32]++t.txt)
   simp
theorem jD:∀x∈(["end","go","if","set","say"]:List Str),∀c∈x.cps.toList,97<=c/\c<=122:=by decide
theorem Hr.wd_ok(r:Hr):lE (cd r.wd):=by
 cases r with
 | fin=>exact cI (jD "end" ⋯)
 | go n=>exact cI (jD "go" ⋯)
 | iff t n=>exact cI (jD "if" ⋯)
 | set x t=>exact cI (jD "set" ⋯)
 | say t=>exact cI (jD "say" ⋯)
theorem Hr.rest_ok(r:Hr):tR r.rest:=by
 cases r with
 | fin=>exact .inl rfl
 | go n=>exact .inr %[(32),0|.inl rfl]
 | iff t n=>exact .inr %[(32),0|.inl rfl]
 | set x t=>exact .inr %[(32),0|.inl rfl]
 | say t=>exact .inr %[(32),0|.inl rfl]
inductive spHRw(vs:List V)(H:Hp)(Q:VK)(u_3:XK):Prop
 |mk:∀(r:Hr)(k:Int),vs=[.str r.str,.int k]->r.ok 20->(∀(v:V)(H':Hp),HrAt H' v r->Same H H'->Q v H')->spHRw vs H Q u_3
theorem bj:FnScope ["text","number","scan","word","row"] ["text","number"] (ak iA):=%[1,1,1,4,1,4|4]
theorem pC   (F:Fun K "helper_row" "helper_row" iA f fd) (X:Tx K mg) (T:ScTxt K mg C) (M:Mths P w K mg base C fE fS fT fW fF dE dS dT dW dF) (MK:Mk K C fI) (GI:FnOk P w K mg base CX0 1 fI fdI ["self","text","row","most_within","most_parts"] (spScInit C)) (bI:Binds K fdI ["self","text","row","most_within","most_parts"] [])
 (i4:Cal P w K mg base 3 "next_name" ["scan"] (spNextN C)) (ei:Cal P w K mg base 3 "next_figures" ["scan"] (spNextF C)) (cn:Cal P w K mg base 19 "next_term" ["scan","within"] (spNextT C 8)):FnOk P w K mg base CX0 20 f fd ["text","number"] spHRw:=by
 exists bj
 erw[r,k,1,ok,q]at h;erw[tw,gw]at X.within;erw[tp,gp]at X.parts;have hr1:Room 1 _:=hr.mono ⋯;have hr2:Room 2 _:=hr.mono ⋯;refine⟨_,(aa #[am,2,bj,eP MK GI hr2 rfl T.mgC bI .nil bh %[0,1,cE (v:=.int 8) rfl gw %[|0],cE (v:=.int 20) rfl gp ⟨_,rfl⟩|aH]]
  (aa #[am,3,bj,gi (pv 2) T.cl M.mW M.gW hr1 M.bW .nil bh]
  (aa #[am,4,bj,aG %[3|aH]]
  (aa (aB (af aI (pv 3) au (ai _)) (ad #[am,4,bj,aj op_catT (pv 4) (aG %[ag i4 hr ⋯ rfl %[2|aH],ag cn hr ⋯ rfl %[2,ac|aH]|aH])]) (ad (aB (af aI (pv 3) au (ai _)) (ad #[am,4,bj,aj op_catT (pv 4) (aG %[ag cn hr ⋯ rfl %[2,ac|aH]|aH])]) (ad (aB (af aI (pv 3) au (ai _)) (ad #[am,4,bj,aj op_catT (pv 4) (aG %[ag cn hr ⋯ rfl %[2,ac|aH],ag ei hr ⋯ rfl %[2|aH]|aH])]) (ad (aB (af aI (pv 3) au (ai _)) (ad #[am,4,bj,aj op_catT (pv 4) (aG %[ag ei hr ⋯ rfl %[2|aH]|aH])]) (ad (aB (af ji (pv 3) au (ai _)) cg av)))))))))
  (aa (ba (gi (pv 2) T.cl M.mF M.gF hr1 M.bF .nil bh))
  (ad (ao (pv 4)))))))),?_⟩
 erw[0,0,λg dx nx ndx nex=>?_];have s3:Same H (upd (upd H dx (.own g)) g (.ins C dx [])):=λb o e=>by
  rw[aq (aN e nx),aq (aN e ndx)];exact e
 erw[g,dx,r.str,k,1,aC,λH1 S1 B1=>%[1|6]];have N1:Same H H1:=λb o e=>B1 b o (aN e nx) (s3 b o e)
 have tl:r.str.length<=1000:=zQ0 (Hr.str_len ok) ⋯;have hc:=r.codes;have hlen:r.str.length=r.wd.length+r.rest.length:=by
  have:=congrArg List.length hc
  rw[kI,zJ0,cR]at this;exact this
 have hd0:r.str.cps.toList.drop 0=cd r.wd++r.rest:=by rw[List.drop_zero];exact hc
 let%[dx1,fs1,hs1|sf1]:=id S1;erw[0,g,dx1,fs1,1,hs1,sf1.no4,g,r.str,(0),(0),cd r.wd,r.rest,1,S1,tl,zW0 _,hd0,r.wd_ok,r.rest_ok,λH2 S2 B2=>?_];rw[show stl (cd r.wd)=r.wd from jM _];have hd1:=bH hd0;rw[cR]at S2 hd1;have N2:Same H H2:=λb o e=>B2 b o (aN e nx) (N1 b o e)
 erw[0,(by show 1<=sizeLine;decide),λa ha=>?_];have Ga:=zC0 ha (.tup [.str r.wd]);have ea:upd H2 a (.tup [.str r.wd]) a=some (.tup [.str r.wd]):=aC;have S3:=S2.same Ga;generalize upd H2 a (.tup [.str r.wd])=H3 at Ga ea S3;have N3:=N2.trans Ga;have isF:∀{x y:Str},x≠y->¬ V.str x=V.str y:=λh=>neStr h
 cases r with
 | fin=>
   erw[0,1,0,6];refine ax (isF (x:="end") ⋯) ?_;erw[0,1,0,6];refine ax (isF (x:="end") ⋯) ?_;erw[0,1,0,6];refine ax (isF (x:="end") ⋯) ?_;erw[0,1,0,6];refine ax (isF (x:="end") ⋯) ?_;erw[0,1,0,6];refine iteNT rfl ?_;let%[dx3,fs3,hs3|sf3]:=id S3;have el:0+(Hr.fin).wd.length=(Hr.fin).str.length:=by rw[hlen];show 0+_=_+0;omega
   rw[el]at S3;erw[0,g,dx3,fs3,1,hs3,sf3.no5,g,_,0,S3,tl,6];erw[0,q _ H3 (.fin ea) N3]
 | go n=>
   erw[0,1,0,6];refine ax (isF (x:="go") ⋯) ?_;erw[0,1,0,6];refine ax (isF (x:="go") ⋯) ?_;erw[0,1,0,6];refine ax (isF (x:="go") ⋯) ?_;erw[0,1,0,6];refine aR rfl ?_;have hrl:(Hr.go n).rest.length=1+(bn n).length:=by
    show([32]++cd (bn n)).length=_;rw[zJ0,cR];rfl
   erw[0,0,g,_,_,_,n,[],1,S3,tl,3,by rw[hd1];show [32]++cd (bn n)=[32]++(cd (bn n)++[]);rw[List.append_nil],.inl rfl,ok.1,ok.2,λH4 S4 B4=>?_];have ea4:=cz S3 B4 _ _ ea;erw[(by show 1<=sizeLine;decide),λb hb=>?_];have Gb:=zC0 hb (.tup [.int n]);erw[a,b,2,zD0 (Gb _ _ ea4),zD0 aC,by simp,(by show 2<=sizeLine;decide),λz=>(by cases z),λ_ p hp=>?_];have Gp:=zC0 hp (.tup ([V.str (Hr.go n).wd]++[V.int n]));have S5:=(S4.same Gb).same Gp;have ep:upd (upd H4 b (.tup [.int n])) p (.tup ([V.str (Hr.go n).wd]++[V.int n])) p=some (.tup [.str "go",.int n]):=aC;have N5:=Gb.trans Gp;generalize upd (upd H4 b (.tup [.int n])) p (.tup ([V.str (Hr.go n).wd]++[V.int n]))=H5 at S5 ep N5;rw[show 0+(Hr.go n).wd.length+1+(bn n).length=(Hr.go n).str.length by omega]at S5;let%[dx5,fs5,hs5|sf5]:=id S5;erw[0,g,dx5,fs5,1,hs5,sf5.no5,g,_,0,S5,tl,6];erw[0,q _ H5 (.go ep) λc o e=>N5 _ _ (B4 c o (aN e nx) (N3 c o e))]
 | say t=>
   erw[0,1,0,6];refine ax (isF (x:="say") ⋯) ?_;erw[0,1,0,6];refine aR rfl ?_;have hrl:(Hr.say t).rest.length=1+t.txt.length:=by
    show([32]++t.txt).length=_;rw[zJ0];rfl
   have ok':t.fit 20:=ok;erw[0,0,g,(1),_,_,_,t,[],1,S3,tl,3,by rw[hd1];show [32]++t.txt=[32]++(t.txt++[]);rw[List.append_nil],.inl rfl,ok'.1,ok'.2.2,by have:=ok'.2.2;omega,by have:=ok'.2.1;omega,λv H4 T4 S4 B4=>?_];have ea4:=cz S3 B4 _ _ ea;erw[(by show 1<=sizeLine;decide),λb hb=>?_];have Gb:=zC0 hb (.tup [v]);erw[a,b,2,zD0 (Gb _ _ ea4),zD0 aC,by simp,(by show 2<=sizeLine;decide),λz=>(by cases z),λ_ p hp=>?_];have Gp:=zC0 hp (.tup ([V.str (Hr.say t).wd]++[v]));have S5:=(S4.same Gb).same Gp;have ep:upd (upd H4 b (.tup [v])) p (.tup ([V.str (Hr.say t).wd]++[v])) p=some (.tup [.str "say",v]):=aC;have N5:=Gb.trans Gp;generalize upd (upd H4 b (.tup [v])) p (.tup ([V.str (Hr.say t).wd]++[v]))=H5 at S5 ep N5;rw[show 0+(Hr.say t).wd.length+1+t.txt.length=(Hr.say t).str.length by omega]at S5;let%[dx5,fs5,hs5|sf5]:=id S5;erw[0,g,dx5,fs5,1,hs5,sf5.no5,g,_,0,S5,tl,6];erw[0,q _ H5 (.say ep (T4.mono (aV N5))) λc o e=>N5 _ _ (B4 c o (aN e nx) (N3 c o e))]
 | iff t n=>
   erw[0,1,0,6];refine ax (isF (x:="if") ⋯) ?_;erw[0,1,0,6];refine ax (isF (x:="if") ⋯) ?_;erw[0,1,0,6];refine aR rfl ?_;have hrl:(Hr.iff t n).rest.length=1+(t.txt.length+(1+(bn n).length)):=by
    show([32]++(t.txt++([32]++cd (bn n)))).length=_;simp only[zJ0,zT0,List.length_nil,cR]
   erw[ok',n0,n1]at ok;have hd2:(Hr.iff t n).str.cps.toList.drop (0+(Hr.iff t n).wd.length)=[32]++(t.txt++([32]++(cd (bn n)++[]))):=by rw[hd1,List.append_nil];rfl
   have hd3:=bH (bH hd2);simp only[zT0,List.length_nil]at hd3;erw[0,0,g,(1),_,_,_,t,0,S3,tl,3,hd2,.inr %[(32),0|.inl rfl],ok'.1,ok'.2.2,by have:=ok'.2.2;omega,by have:=ok'.2.1;omega,λv H4 T4 S4 B4=>?_];have ea4:=cz S3 B4 _ _ ea;erw[0,g,_,_,_,n,[],1,S4,tl,3,hd3,.inl rfl,n0,n1,λH5 S5 B5=>?_];have ea5:=cz S4 B5 _ _ ea4;have T5:=T4.mono (cz S4 B5);erw[(by show 2<=sizeLine;decide),λb hb=>?_];have Gb:=zC0 hb (.tup [v,.int n]);erw[a,b,2,zD0 (Gb _ _ ea5),zD0 aC,by simp,(by show 3<=sizeLine;decide),λz=>(by cases z),λ_ p hp=>?_];have Gp:=zC0 hp (.tup ([V.str (Hr.iff t n).wd]++[v,V.int n]));have S6:=(S5.same Gb).same Gp;have ep:upd (upd H5 b (.tup [v,.int n])) p (.tup ([V.str (Hr.iff t n).wd]++[v,V.int n])) p=some (.tup [.str "if",v,.int n]):=aC;have N6:=Gb.trans Gp;generalize upd (upd H5 b (.tup [v,.int n])) p (.tup ([V.str (Hr.iff t n).wd]++[v,V.int n]))=H6 at S6 ep N6;rw[show 0+(Hr.iff t n).wd.length+1+t.txt.length+1+(bn n).length=(Hr.iff t n).str.length by omega]at S6;let%[dx6,fs6,hs6|sf6]:=id S6;erw[0,g,dx6,fs6,1,hs6,sf6.no5,g,_,0,S6,tl,6];erw[0,q _ H6 (.iff ep (T5.mono (aV N6))) λc o e=>N6 _ _ (B5 c o (aN e nx) (B4 c o (aN e nx) (N3 c o e)))]
 | set x t=>
   erw[0,1,0,6];refine aR rfl ?_;have hrl:(Hr.set x t).rest.length=1+(x.length+(1+t.txt.length)):=by
    show([32]++(cd x++([32]++t.txt))).length=_;simp only[zJ0,zT0,List.length_nil,cR]
   erw[okx,ok']at ok;have hd2:(Hr.set x t).str.cps.toList.drop (0+(Hr.set x t).wd.length)=[32]++(cd x++([32]++(t.txt++[]))):=by rw[hd1,List.append_nil];rfl
   have hd3:=bH (bH hd2);simp only[zT0,List.length_nil,cR]at hd3;erw[0,0,g,_,_,_,x,0,S3,tl,3,hd2,.inr %[(32),0|.inl rfl],okx,λH4 S4 B4=>?_];have ea4:=cz S3 B4 _ _ ea;erw[0,g,(1),_,_,_,t,[],1,S4,tl,3,hd3,.inl rfl,ok'.1,ok'.2.2,by have:=ok'.2.2;omega,by have:=ok'.2.1;omega,λv H5 T5 S5 B5=>?_];have ea5:=cz S4 B5 _ _ ea4;erw[(by show 2<=sizeLine;decide),λb hb=>?_];have Gb:=zC0 hb (.tup [.str x,v]);erw[a,b,2,zD0 (Gb _ _ ea5),zD0 aC,by simp,(by show 3<=sizeLine;decide),λz=>(by cases z),λ_ p hp=>?_];have Gp:=zC0 hp (.tup ([V.str (Hr.set x t).wd]++[.str x,v]));have S6:=(S5.same Gb).same Gp;have ep:upd (upd H5 b (.tup [.str x,v])) p (.tup ([V.str (Hr.set x t).wd]++[.str x,v])) p=some (.tup [.str "set",.str x,v]):=aC;have N6:=Gb.trans Gp;generalize upd (upd H5 b (.tup [.str x,v])) p (.tup ([V.str (Hr.set x t).wd]++[.str x,v]))=H6 at S6 ep N6;rw[show 0+(Hr.set x t).wd.length+1+x.length+1+t.txt.length=(Hr.set x t).str.length by omega]at S6;let%[dx6,fs6,hs6|sf6]:=id S6;erw[0,g,dx6,fs6,1,hs6,sf6.no5,g,_,0,S6,tl,6];erw[0,q _ H6 (.set ep (T5.mono (aV N6))) λc o e=>N6 _ _ (B5 c o (aN e nx) (B4 c o (aN e nx) (N3 c o e)))]
theorem Tm.txt_hi:∀t:Tm,t.ok->∀c∈t.txt,32<=c
 | .num n,h,c,hc=>by have:=jz h.1 c hc;omega
 | .box x,h,c,hc=>by have:=h.1 c hc;omega
 | .plain w,h,c,hc=>by have:=(kC w h).2.2.1 c hc;omega
 | .ask w a,⟨h,h1⟩,c,hc=>by
   have hc':c∈[40]++(cd w++([32]++(a.txt++[41]))):=hc;simp only[List.mem_append,List.mem_singleton]at hc';rcases hc' with e | e | e | e | e
   . omega
   . have:=(vJ w h).2.2.1 c e;omega
   . omega
   . exact Tm.txt_hi a h1 c e
   . omega
 | .op o a b,⟨h,h1,h2⟩,c,hc=>by
   have hc':c∈[40]++(cd o++([32]++(a.txt++([32]++(b.txt++[41]))))):=hc;simp only[List.mem_append,List.mem_singleton]at hc';rcases hc' with e | e | e | e | e | e | e
   . omega
   . have:=(qv o h).2.1 c e;omega
   . omega
   . exact Tm.txt_hi a h1 c e
   . omega
   . exact Tm.txt_hi b h2 c e
   . omega
theorem DF{r:Hr}(ok:r.ok 20):∀c∈cd r.str,32<=c:=by
 intro c hc;have hc1:c∈cd r.wd++r.rest:=by rw[←r.codes];exact hc
 have nm:∀{n:Int},0<=n->c∈cd (bn n)->32<=c:=λh0 h=>by have:=jz h0 c h;omega
 rcases qD0 hc1 with h | h
 . have:=r.wd_ok
   have h5:∀x∈(["end","go","if","set","say"]:List Str),c∈cd x->32<=c:=λx hx hc=>by have:=jD x hx c hc;omega
   cases r with
   | fin=>exact h5 "end" ⋯ h
   | go n=>exact h5 "go" ⋯ h
   | iff t n=>exact h5 "if" ⋯ h
   | set x t=>exact h5 "set" ⋯ h
   | say t=>exact h5 "say" ⋯ h
 . cases r with
   | fin=>cases h
   | go n=>
     have h':c∈[32]++cd (bn n):=h;simp only[List.mem_append,List.mem_singleton]at h';rcases h' with e | e
     . omega
     . exact nm ok.1 e
   | iff t n=>
     have h':c∈[32]++(t.txt++([32]++cd (bn n))):=h;simp only[List.mem_append,List.mem_singleton]at h';rcases h' with e | e | e | e
     . omega
     . exact Tm.txt_hi t ok.1.1 c e
     . omega
     . exact nm ok.2.1 e
   | set x t=>
     have h':c∈[32]++(cd x++([32]++t.txt)):=h;simp only[List.mem_append,List.mem_singleton]at h';rcases h' with e | e | e | e
     . omega
     . have:=ok.1.1 c e;omega
     . omega
     . exact Tm.txt_hi t ok.2.1 c e
   | say t=>
     have h':c∈[32]++t.txt:=h;simp only[List.mem_append,List.mem_singleton]at h';rcases h' with e | e
     . omega
     . exact Tm.txt_hi t (show t.fit 20 from ok).1 c e
theorem oG  (g:oY rs) (h0:rs≠[]):Txt.split (kK rs) ("\n":Str)=rs.map Hr.str:=by
 unfold kK;rw[nl_eq,Cq];refine uq (c:=10) (λz=>h0 (List.map_eq_nil_iff.mp z)) λp hp hc=>?_
 let%[r,hr|1]:=List.mem_map.mp hp
 have:=DF (g.2 r hr) 10 hc
 omega
theorem yi  (g:oY rs) (h0:rs≠[]):kK rs≠"":=λe=>by
 have h1:=oG g h0;rw[e,show Txt.split ("":Str) ("\n":Str)=[("":Str)]from by decide]at h1;cases rs with
 | nil=>exact h0 rfl
 | cons r l=>
   have h2:=(List.cons.inj h1).1;have h3:=r.codes;rw[←h2]at h3;have h4:cd r.wd=[]:=(List.append_eq_nil_iff.mp h3.symm).1;have h5:∀x∈(["end","go","if","set","say"]:List Str),cd x≠[]:=by decide
   cases r with
   | fin=>exact h5 "end" ⋯ h4
   | go n=>exact h5 "go" ⋯ h4
   | iff t n=>exact h5 "if" ⋯ h4
   | set x t=>exact h5 "set" ⋯ h4
   | say t=>exact h5 "say" ⋯ h4
inductive spReadH(vs:List V)(H:Hp)(Q:VK)(u_3:XK):Prop
 |mk:∀rs:List Hr,vs=[.str (kK rs)]->oY rs->(∀(a:Addr)(tv:List V)(H':Hp),H' a=some (.tup tv)->RowsAt H' tv rs->Same H H'->Q (.ref a) H')->spReadH vs H Q u_3
theorem eC:FnScope ["text","helper","number","row"] ["text"] (ak gK):=%[1,1,1,4,1,4|4]
theorem oo   (F:Fun K "read_helper" "read_helper" gK f fd) (B:Bl mg) (X:Tx K mg) (gH:Cal P w K mg base 20 "helper_row" ["text","number"] spHRw):FnOk P w K mg base CX0 21 f fd ["text"] spReadH:=by
 exists eC
 erw[rs,1,g,q]at h;erw[tm,gm]at X.rows;refine⟨_,(aa (aB (af aI (pv 0) au (ai _)) (ad (ao (aG aH))) av)
  (aa #[am,1,eC,ci aH]
  (aa (cP PassesOwn.never rfl (BP rfl B.enumerate (dq PySem.F.plainAttrs_str PySem.F.slot_str_split PySem.F.type_str_split Av (pv 0) %[au|aH])) (zS rfl (kD (bQ (i:=2) eC.nd rfl (.inl rfl)) (kD (bQ (i:=3) eC.nd rfl (.inl rfl)) wb))) (aa (aB (af aI (pv 2) (cE (v:=.int 60) rfl gm ⟨_,rfl⟩) (ai _)) cg av)
   (ad (ba (dq PySem.F.plainAttrs_list PySem.F.slot_list_append PySem.F.type_list_append bU (pv 1) %[ag gH hr ⋯ rfl %[3,2|aH]|aH])))))
  (ad (ao (be bp rfl B.tuple bN %[1|aH])))))),?_⟩
 have tl:=AN g;have r60:=g.1;erw[0,1,0,6]
 by_cases c0:rs=[]
 . subst c0;refine aR (by show V.str (kK [])=V.str "";decide) ?_;erw[zW0 _,λt ht=>?_];exact q t [] _ aC RowsAt.nil (zC0 ht _)
 refine ax (λz=>yi g c0 (yY z)) ?_;erw[zW0 _,λL hL=>?_];have GL:=zC0 hL (.lst []);have gL:upd H L (.lst []) L=some (.lst []):=aC;generalize upd H L (.lst [])=H1 at GL gL;have ts:=oG g c0;erw[0,1,2,⋯,3,by rw[ts,zH0];omega,λa ha=>?_];rw[ts];have Ga:=zC0 ha (.lst ((rs.map Hr.str).map V.str));have ga:upd H1 a (.lst ((rs.map Hr.str).map V.str)) a=some (.lst ((rs.map Hr.str).map V.str)):=aC;have aL:a≠L:=λz=>by rw[z,gL]at ha;cases ha
 generalize upd H1 a (.lst ((rs.map Hr.str).map V.str))=H2 at Ga ga;have gL2:=Ga _ _ gL;refine⟨a,rfl,%[_|zF0 ga],AT (K:=K) (xs:=(rs.map Hr.str).map V.str) (λi σ H'=>∃(x2 x3:Option V)(tv:List V),σ=[some (.str (kK rs)),some (.ref L),x2,x3]/\H' L=some (.lst tv)/\RowsAt H' tv (rs.take i)/\SameBut L H2 H')
  %[_,_,[],1,gL2,RowsAt.nil|SameBut.refl _ _] (λi σ H' _ hst=>by erw[_,_,_,_,_,_,h]at hst;exact zF0 (h _ _ aL ga)) ?_ ?_⟩
 . rintro i z σ H3 t hz ⟨x2,x3,tv,rfl,hL3,R3,S3⟩ ht;have hi:=(zX0 hz).1;rw[zH0,zH0]at hi;rw[qE0,qE0,Option.map_map]at hz;let%[r,hr'|1]:=qV0 hz;have Gt:=zC0 ht (.tup [.int (i:Int),.str r.str]);have hL4:=Gt _ _ hL3;have vl:=R3.1;rw[qH0]at vl;erw[t,0,zD0 aC,1,_,0,2,6];erw[0,1,0,6];refine ax (λz=>by have:=V.int.inj z;omega) ?_;erw[0,.inl %[1,_|zF0 hL4],0,0,r,0,g.2 r (qI0 hr'),λv H4 ra S4=>?_];have S34:Same H3 H4:=Gt.trans S4;have hL5:=S34 _ _ hL3;have kp:bY H4 (upd H4 L (.lst (tv++[v]))):=AC hL5;erw[L,2,hL5,aM #[0],6];erw[_,_,tv++[v],1,aC,6,6]
   . rw[qN0,hr'];exact((R3.mono (aV S34)).mono kp).snoc (ra.mono kp)
   . exact S3.trans ((zK0 S34).trans (SameBut.upd _))
 . rintro σ H3 ⟨x2,x3,tv,rfl,hL3,R3,S3⟩;rw[zH0,zH0,qJ0]at R3;erw[0,L,0,.inl %[zF0 hL3|λt ht=>?_]];have S03:Same H H3:=λb o e=>S3 b o (aN e hL) (Ga _ _ (GL _ _ e))
   exact q t tv _ aC (R3.mono (aV (zC0 ht _))) (S03.trans (zC0 ht _))
structure PSW(X:Cx)(st:List Stmt)(t:TS):Prop where
 out:PSs X st t
structure PEW(X:Cx)(e:Expr)(t:TE):Prop where
 out:PE X e t
structure PAW(X:Cx)(es:List Expr)(t:TA):Prop where
 out:PA X es t
structure PTW(X:Cx)(s:Stmt)(t:TS):Prop where
 out:PS X s t
theorem ca:PAW X [] ui:=.mk aH
theorem aA(ha:PEW X e te)(hr:PAW X es t)(hs:starEach (e::es) X.env=(false,eval e X.env)::starEach es X.env:=by rfl):PAW X (e::es) (lF te t):=%[|ae ha.out hr.out hs]
theorem bZ{x1}(h:PAW X es t):PEW X (.Tuple es x1 pos) (tTup t):=%[|aG h.out]
theorem bi{x j}:PEW X (.Constant (.str x) j pos) (tC (.str x)):=%[|au]
theorem tY{i j}:PEW X (.Constant (.int i) j pos) (tC (.int i)):=%[|ac]
theorem gG(h:PEW X e te):PTW X (.Return (some e) pos) (Ds te):=%[|ao h.out]
theorem bm{i:Nat}{x:Str}{pos':Pos}(hN:X.N.Nodup)(hi:X.N[i]?=some x)(hx:Loc X.env.scope x)(he:PEW X e te)(hs:swapsWith e (some (.Name x pos')) pos.line X.env=pure false:=by rfl)(hf:X.fn x=true∨X.env.scope.names.lookup x=some .local:=by first | exact .inl rfl | exact .inr rfl | assumption) :
 PTW X (.Assign [.Name x pos'] e pos) (yV te (tf i)):=%[|am hN hi hx he.out hs hf]
theorem fL:PSW X [] CP:=%[|av]
theorem aJ(h:PTW X s a)(k:PSW X ss b):PSW X (s::ss) (rR a b):=%[|aa h.out k.out]
theorem dh(h:PTW X s a):PSW X [s] a:=%[|ad h.out]
theorem iP{t':TS}(h:PSW X ss t)(hw:∀D σ H,t' D σ H->t D σ H):PSW X ss t':=%[|ku h.out hw]
theorem iO(hc:PT X c tc)(ha:PSW X a t)(hb:PSW X b u):PTW X (.If c a b pos) (Dv tc t u):=%[|aB hc ha.out hb.out]
inductive spTerm(n:Nat)(vs:List V)(H:Hp)(Q:VK)(u_3:XK):Prop
 |mk:∀(f b:Addr)(bs:List Str)(room deep:Int),vs=[.ref f,.ref b,.int room,.int deep]->FeedAt H f->H b=some (.lst (bs.map V.str))->b≠f->1<=bs.length->bs.length<=100->1<=room->room<=100->1<=deep->deep<=(n:Int)->(∀(v:V)(t:Tm)(H':Hp),TmAt H' v t->t.good->(t.depth:Int)<=deep->FeedAt H' f->SameBut f H H'->Q v H')->spTerm n vs H Q u_3
theorem f8:FnScope ["_law_feed_here","_law_boxes","_law_room","_law_deep","_law_form","_law_plain","_law_more","_law_one"] ["_law_feed_here","_law_boxes","_law_room","_law_deep"] (ak ko):=%[1,1,1,4,1,4|4]
theorem BD:∀c∈(("+-*/=<":Str)).cps.toList,(%[|#[c]]:Str)∈signW:=by decide
theorem zo:(("+-*/=<":Str)).cps.toList.length=6:=by decide
theorem at1(x y:V)(xs:List V):atI (x::y::xs) 1=some y:=db (j:=1) rfl
inductive tLeaf(Dn:Ends)(σ:St)(H:Hp):Prop
 |mk:∀(x2 x3 x5 x6 x7:Option V)(f b:Addr)(bs:List Str)(fm:Int),σ=[some (.ref f),some (.ref b),x2,x3,some (.int fm),x5,x6,x7]->FeedAt H f->H b=some (.lst (bs.map V.str))->b≠f->1<=bs.length->bs.length<=100->(∀(v:V)(t:Tm)(H':Hp),TmAt H' v t->t.good->t.depth=1->FeedAt H' f->SameBut f H H'->Dn.rt v H')->tLeaf Dn σ H
inductive tAskT(n:Nat)(Dn:Ends)(σ:St)(H:Hp):Prop
 |mk:∀(x4 x5 x6 x7:Option V)(f b:Addr)(bs:List Str)(room deep:Int),σ=[some (.ref f),some (.ref b),some (.int room),some (.int deep),x4,x5,x6,x7]->FeedAt H f->H b=some (.lst (bs.map V.str))->b≠f->1<=bs.length->bs.length<=100->2<=room->room<=100->2<=deep->deep<=(n:Int)+1->(∀(v:V)(t:Tm)(H':Hp),TmAt H' v t->t.good->(t.depth:Int)<=deep->FeedAt H' f->SameBut f H H'->Dn.rt v H')->tAskT n Dn σ H
theorem DG{pos:Pos}(hc:PT X c tc)(ha:PSW X a t)(hb:PSs X b u):PS X (.If c a b pos) (Dv tc t u):=aB hc ha.out hb
theorem Az{X:Cx}{i:Nat}{x:Str}{pos' pos p:Pos}{t':TS}(hN:X.N.Nodup)(hi:X.N[i]?=some x)(hx:Loc X.env.scope x)(h1:PE X e1 t1)(h2:PE X e2 t2)(h3:PE X e3 t3)(h4:PE X e4 t4)(h5:PE X e5 t5)(hr:PSs X rest u)
 (hw:∀D σ H,t' D σ H->rR (yV (tLst (lF t1 (lF t2 (lF t3 (lF t4 (lF t5 ui)))))) (tf i)) u D σ H)
 (s1:starEach [e1,e2,e3,e4,e5] X.env=(false,eval e1 X.env)::starEach [e2,e3,e4,e5] X.env:=by rfl) (s2:starEach [e2,e3,e4,e5] X.env=(false,eval e2 X.env)::starEach [e3,e4,e5] X.env:=by rfl) (s3:starEach [e3,e4,e5] X.env=(false,eval e3 X.env)::starEach [e4,e5] X.env:=by rfl) (s4:starEach [e4,e5] X.env=(false,eval e4 X.env)::starEach [e5] X.env:=by rfl) (s5:starEach [e5] X.env=(false,eval e5 X.env)::starEach [] X.env:=by rfl)
 (hf:X.fn x=true∨X.env.scope.names.lookup x=some .local:=by first | exact .inl rfl | exact .inr rfl):PSW X (.Assign [.Name x pos'] (.List [e1,e2,e3,e4,e5] p) pos::rest) t':=
 %[|ku (aa (am hN hi hx (ci (ae h1 (ae h2 (ae h3 (ae h4 (ae h5 aH s5) s4) s3) s2) s1)) rfl hf) hr) hw]
theorem Bu {n:Nat}   (F:Fun K "_law_term" "_law_term" ko fA fd) (B:Bl mg) (aS:Cal P w K mg base 1 "_law_take" ["_law_feed_here","_law_many"] spTake) (b8:Cal P w K mg base (n+2) "_law_term" ["_law_feed_here","_law_boxes","_law_room","_law_deep"] (spTerm n)):FnOk P w K mg base CX0 (n+3) fA fd ["_law_feed_here","_law_boxes","_law_room","_law_deep"] (spTerm (n+1)):=by
 exists f8
 erw[f,b,bs,room,deep,1,F0,hb,nb,b1,b2,r1,r2,d1,d2,q]at h;have hp12:(10:Int) ^ (12:Int).toNat=1000000000000:=by decide
 refine⟨_,(aa #[am,4,f8,ag aS hr #[0] rfl %[0,ac|aH]]
  (aa (DG (PW.pt (eD (af cN (pv 2) ac (ai _)) (eD (af cN (pv 3) ac (ai _)) (dA (af cN (pv 4) ac (ai _)))))) (Az (t':=tLeaf) (i:=5) f8.nd rfl (.inl rfl) (aG %[au|aH]) (aG %[au|aH]) (aG %[au|aH]) (aG %[au,ag aS hr #[0] rfl %[0,ac|aH]|aH]) (aG %[au,ag aS hr #[0] rfl %[0,aj uT ac ac|aH]|aH])
   (aa (aB (af aI (pv 4) ac (ai _)) (ad (ao (aG %[au,ay ix_list (pv 1) (ag aS hr #[0] rfl %[0,aD (x:="len") aE rfl B.len PySem.boot_len %[1|aH]|aH]) (λ_ _=>rfl)|aH]))) av)
   (ad (ao (ay ix_list (pv 5) (ag aS hr #[0] rfl %[0,ac|aH]) (λ_ _=>rfl))))) (by
    rintro Dn σ H ⟨x2,x3,x5,x6,x7,f,b,bs,fm,rfl,F0,hb,nb,b1,b2,q⟩;erw[(by show 1<=sizeLine;decide),λp1 hp1=>%[(by show 1<=sizeLine;decide)|λp2 hp2=>%[(by show 1<=sizeLine;decide)|λp3 hp3=>?_]]];have g1:=zC0 hp1 (.tup [.str "round"]);have g2:=zC0 hp2 (.tup [.str "due"]);have g3:=zC0 hp3 (.tup [.str "asked"]);have e1:upd (upd (upd H p1 (.tup [.str "round"])) p2 (.tup [.str "due"])) p3 (.tup [.str "asked"]) p1=some (.tup [.str "round"]):=g3 _ _ (g2 _ _ aC);have e2:upd (upd (upd H p1 (.tup [.str "round"])) p2 (.tup [.str "due"])) p3 (.tup [.str "asked"]) p2=some (.tup [.str "due"]):=g3 _ _ aC;have e3:upd (upd (upd H p1 (.tup [.str "round"])) p2 (.tup [.str "due"])) p3 (.tup [.str "asked"]) p3=some (.tup [.str "asked"]):=aC;have S3:=g1.trans (g2.trans g3);generalize upd (upd (upd H p1 (.tup [.str "round"])) p2 (.tup [.str "due"])) p3 (.tup [.str "asked"])=H3 at e1 e2 e3 S3;erw[0,f,(5),1,F0.same S3,4,4,λw1 H4 _ _ F4 B4=>%[(by show 2<=sizeLine;decide)|λp4 hp4=>?_]];have k4:=aP (F0.same S3) B4;have g4:=zC0 hp4 (.tup [.str "num",.int w1]);have e4:upd H4 p4 (.tup [.str "num",.int w1]) p4=some (.tup [.str "num",.int w1]):=aC;generalize upd H4 p4 (.tup [.str "num",.int w1])=H5 at g4 e4;erw[0,2,%[4,4|4],f,0,F4.same g4,(by show(0:Int)<10 ^ (12:Int).toNat;rw[hp12];decide),(by show(10:Int) ^ (12:Int).toNat<2 ^ 63;rw[hp12];decide),λw2 H6 _ _ F6 B6=>%[(by show 2<=sizeLine;decide)|λp5 hp5=>%[(by show 5<=sizeLine;decide)|λL hL=>?_]]];have k6:=aP (F4.same g4) B6;have g5:=zC0 hp5 (.tup [.str "num",.int w2]);have g6:=zC0 hL (.lst [.ref p1,.ref p2,.ref p3,.ref p4,.ref p5]);have e5:upd (upd H6 p5 (.tup [.str "num",.int w2])) L (.lst [.ref p1,.ref p2,.ref p3,.ref p4,.ref p5]) p5=some (.tup [.str "num",.int w2]):=g6 _ _ aC;have eL:upd (upd H6 p5 (.tup [.str "num",.int w2])) L (.lst [.ref p1,.ref p2,.ref p3,.ref p4,.ref p5]) L=some (.lst [.ref p1,.ref p2,.ref p3,.ref p4,.ref p5]):=aC;have F7:=F6.same (g5.trans g6);have S7:SameBut f H (upd (upd H6 p5 (.tup [.str "num",.int w2])) L (.lst [.ref p1,.ref p2,.ref p3,.ref p4,.ref p5])):=(zK0 S3).trans (B4.trans ((zK0 g4).trans (B6.trans (zK0 (g5.trans g6)))));have Lf:L≠f:=(F6.same g5).ne hL;have J:bY H5 (upd (upd H6 p5 (.tup [.str "num",.int w2])) L (.lst [.ref p1,.ref p2,.ref p3,.ref p4,.ref p5])):=λa xs e=>(g5.trans g6) _ _ (k6 _ _ e)
    have J3:bY H3 (upd (upd H6 p5 (.tup [.str "num",.int w2])) L (.lst [.ref p1,.ref p2,.ref p3,.ref p4,.ref p5])):=λa xs e=>J _ _ (g4 _ _ (k4 _ _ e))
    have e1':=J3 _ _ e1;have e2':=J3 _ _ e2;have e3':=J3 _ _ e3;have e4':=J _ _ e4;generalize upd (upd H6 p5 (.tup [.str "num",.int w2])) L (.lst [.ref p1,.ref p2,.ref p3,.ref p4,.ref p5])=H7 at e1' e2' e3' e4' e5 eL F7 S7;have hb7:=S7 _ _ nb hb;clear J J3 e1 e2 e3 e4 k4 k6;erw[0,1,0,6]
    by_cases c:fm=3
    . refine aR (congrArg V.int c) ?_;have bl:(bs.map V.str).length=bs.length:=zH0 _;erw[0,0,0,b,0,.inl (zF0 hb7),f,0,F7,3,3,λd H8 d0 d1 F8 B8=>?_];let%[v,hv|vm]:=lW (l:=bs.map V.str) (i:=d) d0 d1;let%[x,hx|1]:=List.mem_map.mp vm;erw[b,_,2,zF0 (B8 _ _ nb hb7),hv,(by show 2<=sizeLine;decide),λp8 hp8=>?_];have g8:=zC0 hp8 (.tup [.str "box",.str x]);exact q _ (.box x) _ (.box aC) trivial rfl (F8.same g8) (S7.trans (B8.trans (zK0 g8)))
    . refine ax (λz=>c (V.int.inj z)) ?_;erw[0,0,f,(5),1,F7,4,4,λd H8 d0 d1 F8 B8=>?_];have k8:=aP F7 B8;have hL8:=B8 _ _ Lf eL;have S8:=S7.trans B8
      have:d=0∨d=1∨d=2∨d=3∨d=4:=by omega
      rcases this with rfl | rfl | rfl | rfl | rfl
      . erw[L,_,(0),.ref p1,1,1,zF0 hL8,1,q _ (.plain "round") _ (.plain (k8 _ _ e1')) (show("round":Str)∈plainW by decide) rfl F8 S8]
      . erw[L,_,(1),.ref p2,1,1,zF0 hL8,1,q _ (.plain "due") _ (.plain (k8 _ _ e2')) (show("due":Str)∈plainW by decide) rfl F8 S8]
      . erw[L,_,(2),.ref p3,1,1,zF0 hL8,1,q _ (.plain "asked") _ (.plain (k8 _ _ e3')) (show("asked":Str)∈plainW by decide) rfl F8 S8]
      . erw[L,_,(3),.ref p4,1,1,zF0 hL8,1,q _ (.num w1) _ (.num (k8 _ _ e4')) trivial rfl F8 S8]
      . erw[L,_,(4),.ref p5,1,1,zF0 hL8,1,q _ (.num w2) _ (.num (k8 _ _ e5)) trivial rfl F8 S8])) av)
  (aa (aB (PW.pt (eD (af cN (pv 4) ac (ai _)) (dA (af cN (pv 2) ac (ai _))))) (ku (t':=tAskT n) (ad (ao (aG %[ay ix_list (ci %[au,au|aH]) (ag aS hr #[0] rfl %[0,ac|aH]) (λ_ _=>rfl),ag b8 hr (zG0 _) rfl %[0,1,aj aW (pv 2) ac,aj aW (pv 3) ac|aH]|aH]))) (by
   rintro Dn σ H ⟨x4,x5,x6,x7,f,b,bs,room,deep,rfl,F0,hb,nb,b1,b2,r1,r2,d1,d2,q⟩;erw[(by show 2<=sizeLine;decide),λL hL=>?_];have gL:=zC0 hL (.lst [.str "coin",.str "true"]);have eL:upd H L (.lst [.str "coin",.str "true"]) L=some (.lst [.str "coin",.str "true"]):=aC;have Lf:L≠f:=F0.ne hL;generalize upd H L (.lst [.str "coin",.str "true"])=H1 at gL eL;erw[0,f,(2),1,F0.same gL,4,4,λd H2 d0 d1' F2 B2=>?_];have aw:∃aw:Str,aw∈askW/\atI [V.str "coin",.str "true"] d=some (.str aw):=by
    have:d=0∨d=1:=by omega
    rcases this with rfl | rfl
    . erw["coin",4,at0 ..]
    . erw["true",4,at1 ..]
   erw[aw,awm,haw]at aw;erw[L,_,2,zF0 (B2 _ _ Lf eL),haw,6];have hb2:=B2 _ _ nb (gL _ _ hb);refine⟨_,rfl,_,rfl,_,rfl,_,_,rfl,rfl,_,rfl,_,_,rfl,rfl,f,b,bs,room-1,deep-1,rfl,F2,hb2,nb,b1,b2,by omega,by omega,by omega,by omega,λv t H3 T3 ok3 dp3 F3 B3=>?_⟩;erw[(by show 2<=sizeLine;decide),λp hp=>?_];have gp:=zC0 hp (.tup [.str aw,v]);have ed:((Tm.ask aw t).depth:Int)=(t.depth:Int)+1:=by show((t.depth+1:Nat):Int)=_;omega
   exact q _ (.ask aw t) _ (.ask aC (T3.mono (aV gp))) %[awm|ok3] #[0] (F3.same gp) ((zK0 gL).trans (B2.trans (B3.trans (zK0 gp)))))) av)
  (aa #[am,6,f8,aj aQ ac (ag aS hr #[0] rfl %[0,aj aW (pv 2) ac|aH])]
  (aa #[am,7,f8,ag b8 hr (zG0 _) rfl %[0,1,6,aj aW (pv 3) ac|aH]]
  (ad (ao (aG %[au,ay rm au (ag aS hr #[0] rfl %[0,ac|aH]) (λ_ _=>rfl),7,ag b8 hr (zG0 _) rfl %[0,1,aj aW (aj aW (pv 2) ac) (pv 6),aj aW (pv 3) ac|aH]|aH])))))))),?_⟩
 erw[0,f,(9),1,F0,4,4,λfm H1 m0 m9 F1 B1=>?_];have hb1:=B1 _ _ nb hb;have leaf:∀(v:V)(t:Tm)(H':Hp),TmAt H' v t->t.good->t.depth=1->FeedAt H' f->SameBut f H1 H'->Q v H':=λv t H' T g d FF BB=>q v t H' T g #[0] FF (B1.trans BB)
 erw[0,2,0,6]
 by_cases c1:room<2
 . exact aR c1 (du %[_,_,_,_,_,f,b,bs,fm,1,F1,hb1,nb,b1,b2|leaf])
 refine ax c1 %[0,2,0|6]
 by_cases c2:deep<2
 . exact aR c2 (du %[_,_,_,_,_,f,b,bs,fm,1,F1,hb1,nb,b1,b2|leaf])
 refine ax c2 %[0,2,0|6]
 by_cases c3:fm<4
 . exact aR c3 %[_,_,_,_,_,f,b,bs,fm,1,F1,hb1,nb,b1,b2|leaf]
 refine ax c3 ?_;have ask:∀(v:V)(t:Tm)(H':Hp),TmAt H' v t->t.good->(t.depth:Int)<=deep->FeedAt H' f->SameBut f H1 H'->Q v H':=λv t H' T g d FF BB=>q v t H' T g d FF (B1.trans BB)
 erw[0,2,0,6]
 by_cases c4:fm<6
 . exact aR c4 (du %[_,_,_,_,f,b,bs,room,deep,1,F1,hb1,nb,b1,b2,3,r2,3,3|ask])
 refine ax c4 %[0,2,0|6]
 by_cases c5:room<3
 . exact aR c5 %[_,_,_,_,f,b,bs,room,deep,1,F1,hb1,nb,b1,b2,3,r2,3,3|ask]
 refine ax c5 ?_;erw[0,0,2,f,room-2,1,F1,3,3,λd3 H2 a0 a1 F2 B2=>?_];erw[2,6];have hb2:=B2 _ _ nb hb1;erw[0,0,0,0,2,f,b,bs,1+d3,deep-1,1,F2,hb2,nb,b1,b2,3,3,3,3,λv1 t1 H3 T1 ok1 dp1 F3 B3=>?_];have hb3:=B3 _ _ nb hb2;erw[0,f,(6),1,F3,4,4,λd4 H4 g0 g1 F4 B4=>?_];let%[c,hc|hm]:=lW (l:=(("+-*/=<":Str)).cps.toList) (i:=d4) g0 (by rw[zo];exact g1);have hb4:=B4 _ _ nb hb3;erw[_,2,bK ⋯,hc,0,6];erw[0,0,0,2,0,2,0,2,f,b,bs,room-1-(1+d3),deep-1,1,F4,hb4,nb,b1,b2,3,3,3,3,λv2 t2 H5 T2 ok2 dp2 F5 B5=>?_];have k35:bY H3 H5:=λa ys e=>aP F4 B5 _ _ (aP F3 B4 _ _ e)
 erw[(by show 4<=sizeLine;decide),λp hp=>?_];have gp:=zC0 hp (.tup [.str "op",.str %[|#[c]],v1,v2]);have ed:((Tm.op ⟨#[c]⟩ t1 t2).depth:Int)<=deep:=by
  show((max t1.depth t2.depth+1:Nat):Int)<=deep;omega
 exact q _ (.op %[|#[c]] t1 t2) _ (.op aC (T1.mono λa xs e=>gp _ _ (k35 _ _ e)) (T2.mono (aV gp))) %[BD c hm,ok1|ok2] ed (F5.same gp) (B1.trans (B2.trans (B3.trans (B4.trans (B5.trans (zK0 gp))))))
theorem Bs  :FnOk P w K mg base CX0 2 f fd ["_law_feed_here","_law_boxes","_law_room","_law_deep"] (spTerm 0):=by
 have no:∀vs H Q E,¬ spTerm 0 vs H Q E:=λvs H Q E h=>by
  erw[_,_,_,_,_,_,_,_,_,_,_,_,_,h1,h2,_]at h;omega
 erw[λvs H Q E h=>absurd h (no vs H Q E),λA outer s H args us vs Q E _ _ _ _ h=>absurd h (no vs H Q E)]
theorem pT   (F:Fun K "_law_term" "_law_term" ko f fd) (B:Bl mg) (m:mg "_law_term"=some (.ref f)) (aS:Cal P w K mg base 1 "_law_take" ["_law_feed_here","_law_many"] spTake) :
 ∀n:Nat,FnOk P w K mg base CX0 (n+2) f fd ["_law_feed_here","_law_boxes","_law_room","_law_deep"] (spTerm n)
 | 0=>Bs
 | n+1=>Bu F B aS (Cal.of F (pT F B m aS n) m (λ_ _ _ _ _ _ us hl=>by let%[u0,u1,u2,u3|1]:=Co hl;rfl))
theorem RowsAt.app(h:RowsAt H a r)(k:RowsAt H b s):RowsAt H (a++b) (r++s):=by
 erw[by rw[zJ0,zJ0,h.1,k.1],λi v x e1 e2=>?_]
 by_cases c:i<a.length
 . rw[List.getElem?_append_left c]at e1;rw[List.getElem?_append_left (by rw[←h.1];exact c)]at e2;exact h.2 i v x e1 e2
 . rw[List.getElem?_append_right #[0]]at e1;rw[List.getElem?_append_right (by rw[←h.1];omega),←h.1]at e2;exact k.2 _ v x e1 e2
theorem RowsAt.one(h:HrAt H v r):RowsAt H [v] [r]:=⟨rfl,λi u x e1 e2=>by
 cases i with
 | zero=>cases e1;cases e2;exact h
 | succ i=>cases e1⟩
inductive spHelp(vs:List V)(H:Hp)(Q:VK)(u_3:XK):Prop
 |mk:∀(f b:Addr)(bs:List Str)(most:Int),vs=[.ref f,.ref b,.int most]->FeedAt H f->H b=some (.lst (bs.map V.str))->b≠f->1<=bs.length->bs.length<=100->0<=most->most<=60->(∀(h:Addr)(rv:List V)(rows:List Hr)(H':Hp),H' h=some (.tup rv)->RowsAt H' rv rows->(∀r∈rows,r.good)->FeedAt H' f->SameBut f H H'->Q (.ref h) H')->spHelp vs H Q u_3
theorem eE:FnScope ["_law_feed_here","_law_boxes","_law_most","_law_rows","_law_many","_law_k","_law_form"] ["_law_feed_here","_law_boxes","_law_most"] (ak jR):=%[1,1,1,4,1,4|4]
theorem sF   (F:Fun K "_law_helper" "_law_helper" jR f fd) (B:Bl mg) (aS:Cal P w K mg base 1 "_law_take" ["_law_feed_here","_law_many"] spTake) (b8:Cal P w K mg base 10 "_law_term" ["_law_feed_here","_law_boxes","_law_room","_law_deep"] (spTerm 8)):FnOk P w K mg base CX0 11 f fd ["_law_feed_here","_law_boxes","_law_most"] spHelp:=by
 exists eE
 erw[f,b,bs,most,1,F0,hb,nb,b1,b2,m0,m1,q]at h;refine⟨_,(aa #[am,3,eE,ci aH]
  (aa #[am,4,eE,ag aS hr ⋯ rfl %[0,aj aQ (pv 2) ac|aH]]
  (aa (cP PassesOwn.never rfl (bO rfl B.range %[4|aH]) (bQ (i:=5) eE.nd rfl (.inl rfl)) (aa #[am,6,eE,ag aS hr ⋯ rfl %[0,ac|aH]]
   (ad (aB (af cN (pv 6) ac (ai _)) (ad (ba (dq PySem.F.plainAttrs_list PySem.F.slot_list_append PySem.F.type_list_append bU (pv 3) %[aG %[au,ag b8 hr ⋯ rfl %[0,1,ac,ac|aH]|aH]|aH]))) (ad (aB (af cN (pv 6) ac (ai _)) (ad (ba (dq PySem.F.plainAttrs_list PySem.F.slot_list_append PySem.F.type_list_append bU (pv 3) %[aG %[au,ay ix_list (pv 1) (ag aS hr ⋯ rfl %[0,aD aE rfl B.len PySem.boot_len %[1|aH]|aH]) (λ_ _=>rfl),ag b8 hr ⋯ rfl %[0,1,ac,ac|aH]|aH]|aH]))) (ad (aB (af aI (pv 6) ac (ai _)) (ad (ba (dq PySem.F.plainAttrs_list PySem.F.slot_list_append PySem.F.type_list_append bU (pv 3) %[aG %[au,ag b8 hr ⋯ rfl %[0,1,ac,ac|aH],ag aS hr ⋯ rfl %[0,4|aH]|aH]|aH]))) (ad (aB (af aI (pv 6) ac (ai _)) (ad (ba (dq PySem.F.plainAttrs_list PySem.F.slot_list_append PySem.F.type_list_append bU (pv 3) %[aG %[au,ag aS hr ⋯ rfl %[0,4|aH]|aH]|aH]))) (ad (ba (dq PySem.F.plainAttrs_list PySem.F.slot_list_append PySem.F.type_list_append bU (pv 3) %[aG %[au|aH]|aH])))))))))))))
  (ad (ao (be bp rfl B.tuple bN %[3|aH])))))),?_⟩
 erw[(by show 0<=sizeLine;decide),λL hL=>?_];have I0:=zC0 hL (.lst []);have Lf:L≠f:=F0.ne hL;have g0:upd H L (.lst []) L=some (.lst []):=aC;generalize upd H L (.lst [])=H1 at I0 g0;erw[0,0,2,f,most+1,1,F0.same I0,3,3,λmn H2 n0 n1 F2 B2=>?_];have S2:SameBut f H H2:=(zK0 I0).trans B2;refine⟨_,rfl,_,rfl,by omega,by omega,eK (λi σ H'=>∃(x5 x6:Option V)(vs:List V)(rows:List Hr),σ=[some (.ref f),some (.ref b),some (.int most),some (.ref L),some (.int mn),x5,x6]/\FeedAt H' f/\SameBut f H H'/\H' L=some (.lst vs)/\RowsAt H' vs rows/\(∀r∈rows,r.good)/\vs.length=i)
  %[_,_,[],[],1,F2,S2,B2 _ _ Lf g0,%[1|λi v r e=>by cases e],(λr hr=>by cases hr)|1] ?_ ?_⟩
 . rintro i σ H3 hi ⟨x5,x6,vs,rows,rfl,F3,S3,hL3,RW,rg,vl⟩;have hb3:=S3 _ _ nb hb;erw[0,f,(8),1,F3,4,4,λfm H4 f0 f1 F4 B4=>?_];have hb4:=B4 _ _ nb hb3;have hL4:=B4 _ _ Lf hL3;have S4:=S3.trans B4;have RW4:=RW.mono (aP F3 B4);have fin:∀(r:Hr)(v:V)(H5:Hp),HrAt H5 v r->r.good->FeedAt H5 f->SameBut f H4 H5->H5 L=some (.lst vs)/\vs.length<sizeLine/\∃(x5' x6':Option V)(vs':List V)(rows':List Hr),[some (V.ref f),some (.ref b),some (.int most),some (.ref L),some (.int mn),some (.int (0+(i:Int))),some (.int fm)]=[some (V.ref f),some (.ref b),some (.int most),some (.ref L),some (.int mn),x5',x6']/\FeedAt (upd H5 L (.lst (vs++[v]))) f/\SameBut f H (upd H5 L (.lst (vs++[v])))/\(upd H5 L (.lst (vs++[v]))) L=some (.lst vs')/\RowsAt (upd H5 L (.lst (vs++[v]))) vs' rows'/\(∀r∈rows',r.good)/\vs'.length=i+1:=by
    intro r v H5 R5 g5 F5 B5;have hL5:=B5 _ _ Lf hL4;have k6:bY H5 (upd H5 L (.lst (vs++[v]))):=jC hL5;erw[hL5,aM #[0],_,_,vs++[v],rows++[r],1,6,6,aC,((RW4.mono (aP F4 B5)).mono k6).app (RowsAt.one (R5.mono k6)),λr' hr'=>?_,by rw[zJ0,vl];rfl]
    . erw[x,t,e,rr]at F5;erw[x,t,by rw[aq Lf.symm];exact e,rr]
    . intro c o hc e;rw[aq (aN e hL)];exact B5 _ _ hc (S4 _ _ hc e)
    . rcases qD0 hr' with h | h
      . exact rg r' h
      . rw[zM0 h];exact g5
   erw[0,2,0,6]
   by_cases c1:fm<3
   . refine aR c1 ?_;erw[0,.inl %[1,_|zF0 hL4],0,0,f,b,bs,(6),(5),1,F4,hb4,nb,b1,b2,4,4,4,4,λv t H5 T5 g5 d5 F5 B5=>%[(by show 2<=sizeLine;decide)|λp hp=>?_]];have Ip:=zC0 hp (.tup [.str "say",v]);let%[hLx,sz|iv]:=fin (.say t) (.ref p) _ (.say aC (T5.mono (aV Ip))) %[g5|3] (F5.same Ip) (B5.trans (zK0 Ip));erw[L,2,hLx,sz,iv]
   refine ax c1 %[0,2,0|6]
   by_cases c2:fm<5
   . refine aR c2 ?_;have bl:(bs.map V.str).length=bs.length:=zH0 _;erw[0,.inl %[1,_|zF0 hL4],0,0,0,b,0,.inl (zF0 hb4),f,0,F4,3,3,λd H5 d0 d1 F5 B5=>?_];let%[v,hv|vm]:=lW (l:=bs.map V.str) (i:=d) d0 d1;let%[x,hx|1]:=List.mem_map.mp vm;have hb5:=B5 _ _ nb hb4;erw[b,_,2,zF0 hb5,hv,0,0,f,b,bs,(6),(5),1,F5,hb5,nb,b1,b2,4,4,4,4,λv t H6 T6 g6 d6 F6 B6=>%[(by show 3<=sizeLine;decide)|λp hp=>?_]];have Ip:=zC0 hp (.tup [.str "set",.str x,v]);let%[hLx,sz|iv]:=fin (.set x t) (.ref p) _ (.set aC (T6.mono (aV Ip))) %[g6|3] (F6.same Ip) (B5.trans (B6.trans (zK0 Ip)));erw[L,2,hLx,sz,iv]
   refine ax c2 %[0,1,0|6]
   by_cases c3:fm=5
   . refine aR (congrArg V.int c3) ?_;erw[0,.inl %[1,_|zF0 hL4],0,0,f,b,bs,(5),(4),1,F4,hb4,nb,b1,b2,4,4,4,4,λv t H5 T5 g5 d5 F5 B5=>?_];erw[0,0,f,mn,1,F5,3,3,λd H6 d0 d1 F6 B6=>%[(by show 3<=sizeLine;decide)|λp hp=>?_]];have Ip:=zC0 hp (.tup [.str "if",v,.int d]);let%[hLx,sz|iv]:=fin (.iff t d) (.ref p) _ (.iff aC (T5.mono λa xs e=>Ip _ _ (aP F5 B6 _ _ e))) %[g5,3|d0] (F6.same Ip) (B5.trans (B6.trans (zK0 Ip)));erw[L,2,hLx,sz,iv]
   refine ax (λz=>c3 (V.int.inj z)) %[0,1,0|6]
   by_cases c4:fm=6
   . refine aR (congrArg V.int c4) ?_;erw[0,.inl %[1,_|zF0 hL4],0,0,f,mn,1,F4,3,3,λd H6 d0 d1 F6 B6=>%[(by show 2<=sizeLine;decide)|λp hp=>?_]];have Ip:=zC0 hp (.tup [.str "go",.int d]);let%[hLx,sz|iv]:=fin (.go d) (.ref p) _ (.go aC) d0 (F6.same Ip) (B6.trans (zK0 Ip));erw[L,2,hLx,sz,iv]
   refine ax (λz=>c4 (V.int.inj z)) ?_;erw[0,.inl %[1,_|zF0 hL4],(by show 1<=sizeLine;decide),λp hp=>?_];have Ip:=zC0 hp (.tup [.str "end"]);let%[hLx,sz|iv]:=fin .fin (.ref p) _ (.fin aC) trivial (F4.same Ip) (zK0 Ip);erw[L,2,hLx,sz,iv]
 . rintro σ H3 ⟨x5,x6,vs,rows,rfl,F3,S3,hL3,RW,rg,vl⟩;erw[0,L,0,.inl %[zF0 hL3|λh hh=>?_]];have Ih:=zC0 hh (.tup vs);exact q h vs rows _ aC (RW.mono (aV Ih)) rg (F3.same Ih) (S3.trans (zK0 Ih))
inductive spLiar(vs:List V)(H:Hp)(Q:VK)(u_3:XK):Prop
 |mk:∀(f:Addr)(x:Str),vs=[.ref f,.str x]->FeedAt H f->(∀(h:Addr)(rv:List V)(rows:List Hr)(H':Hp),H' h=some (.tup rv)->RowsAt H' rv rows->(∀r∈rows,r.good)->FeedAt H' f->SameBut f H H'->Q (.ref h) H')->spLiar vs H Q u_3
theorem dZ:FnScope ["_law_feed_here","_law_box","_law_j","_law_wrong","_law_more","_law_told"] ["_law_feed_here","_law_box"] (ak nq):=%[1,1,1,4,1,4|4]
inductive tLi1(Dn:Ends)(σ:St)(H:Hp):Prop
 |mk:∀(x4 x5:Option V)(f:Addr)(x:Str)(vj vw:V)(tw:Tm),σ=[some (.ref f),some (.str x),some vj,some vw,x4,x5]->FeedAt H f->TmAt H vj (.box x)->TmAt H vw tw->tw.good->tw.depth<=3->(∀(h:Addr)(rv:List V)(rows:List Hr)(H':Hp),H' h=some (.tup rv)->RowsAt H' rv rows->(∀r∈rows,r.good)->FeedAt H' f->SameBut f H H'->Dn.rt (.ref h) H')->tLi1 Dn σ H
inductive tLi2(Dn:Ends)(σ:St)(H:Hp):Prop
 |mk:∀(x3 x5:Option V)(f:Addr)(x:Str)(vj vm:V)(tm:Tm),σ=[some (.ref f),some (.str x),some vj,x3,some vm,x5]->FeedAt H f->TmAt H vj (.box x)->TmAt H vm tm->tm.good->tm.depth<=4->(∀(h:Addr)(rv:List V)(rows:List Hr)(H':Hp),H' h=some (.tup rv)->RowsAt H' rv rows->(∀r∈rows,r.good)->FeedAt H' f->SameBut f H H'->Dn.rt (.ref h) H')->tLi2 Dn σ H
theorem DQ{s:Str}{a b:Tm}{m:Nat}(h1:a.depth<=m)(h2:b.depth<=m):(Tm.op s a b).depth<=m+1:=by
 show max a.depth b.depth+1<=m+1;omega
theorem xI   (F:Fun K "_law_liar" "_law_liar" nq f fd) (aS:Cal P w K mg base 1 "_law_take" ["_law_feed_here","_law_many"] spTake):FnOk P w K mg base CX0 2 f fd ["_law_feed_here","_law_box"] spLiar:=by
 exists dZ
 erw[f,x,1,F0,q]at h;refine⟨_,PSW.out (aJ #[bm,2,dZ,bZ (aA bi (aA %[|pv 1] ca))]
  (aJ #[bm,3,dZ,bZ (aA bi (aA bi (aA %[|pv 2] (aA (bZ (aA bi (aA ⟨(ag aS hr ⋯ rfl %[0,ac|aH])⟩ ca))) ca))))]
  (aJ (iO (af gY (ag aS hr ⋯ rfl %[0,ac|aH]) ac (ai _)) (dh #[bm,3,dZ,bZ (aA bi (aA bi (aA ⟨pv 3⟩ (aA (bZ (aA bi (aA bi (aA (bZ (aA bi ca)) (aA (bZ (aA bi (aA ⟨(ag aS hr ⋯ rfl %[0,ac|aH])⟩ ca))) ca))))) ca))))]) fL)
  (iP (t':=tLi1) (aJ #[bm,4,dZ,bZ (aA bi (aA bi (aA %[|pv 3] (aA (bZ (aA bi (aA ⟨(aj aQ ac (ag aS hr ⋯ rfl %[0,ac|aH]))⟩ ca))) ca))))]
  (aJ (iO (af aI (ag aS hr ⋯ rfl %[0,ac|aH]) ac (ai _)) (dh #[bm,4,dZ,bZ (aA bi (aA bi (aA ⟨pv 3⟩ (aA (bZ (aA bi (aA bi (aA (bZ (aA bi (aA (bZ (aA bi (aA ⟨(aj aQ ac (ag aS hr ⋯ rfl %[0,ac|aH]))⟩ ca))) ca))) (aA (bZ (aA bi (aA ⟨(ag aS hr ⋯ rfl %[0,ac|aH])⟩ ca))) ca))))) ca))))]) fL)
  (iP (t':=tLi2) (aJ #[bm,5,dZ,bZ (aA bi (aA bi (aA (bZ (aA bi (aA %[|pv 2] ca))) (aA ⟨pv 4⟩ ca))))]
  (dh (gG (bZ (aA (bZ (aA bi (aA %[|pv 1] (aA (bZ (aA bi (aA tY ca))) ca)))) (aA (bZ (aA bi (aA ⟨pv 5⟩ ca))) (aA (bZ (aA bi (aA ⟨pv 1⟩ (aA (bZ (aA bi (aA bi (aA ⟨pv 2⟩ (aA (bZ (aA bi (aA tY ca))) ca))))) ca)))) (aA (bZ (aA bi (aA tY ca))) ca)))))))) (by
   rintro Dn σ H ⟨x3,x5,f,x,vj,vm,tm,rfl,F0,Tj,Tm,gm,dm,q⟩;have s2:2<=sizeLine:=by decide
   have s3:3<=sizeLine:=by decide
   have s4:4<=sizeLine:=by decide
   erw[0,s2,λp1 h1=>%[0,s4|λp2 h2=>?_]];have I1:=zC0 h1 (.tup [.str "true",vj]);have I2:=zC0 h2 (.tup [.str "op",.str "+",.ref p1,vm]);have T2:TmAt (upd (upd H p1 (.tup [.str "true",vj])) p2 (.tup [.str "op",.str "+",.ref p1,vm])) (.ref p2) (.op "+" (.ask "true" (.box x)) tm):=.op aC (.ask (I2 _ _ aC) (Tj.mono (aV (I1.trans I2)))) (Tm.mono (aV (I1.trans I2)));have J2:=I1.trans I2;generalize upd (upd H p1 (.tup [.str "true",vj])) p2 (.tup [.str "op",.str "+",.ref p1,vm])=H2 at T2 J2;erw[0,s2,λp5 h5=>%[s3|λp6 h6=>?_]];have I5:=zC0 h5 (.tup [.str "num",.int 0]);have I6:=zC0 h6 (.tup [.str "set",.str x,.ref p5]);have R6:HrAt (upd (upd H2 p5 (.tup [.str "num",.int 0])) p6 (.tup [.str "set",.str x,.ref p5])) (.ref p6) (.set x (.num 0)):=.set aC (.num (I6 _ _ aC));have J6:=I5.trans I6;generalize upd (upd H2 p5 (.tup [.str "num",.int 0])) p6 (.tup [.str "set",.str x,.ref p5])=H6 at R6 J6;erw[0,s2,λp7 h7=>?_];have I7:=zC0 h7 (.tup [.str "say",.ref p2]);have R7:HrAt (upd H6 p7 (.tup [.str "say",.ref p2])) (.ref p7) (.say (.op "+" (.ask "true" (.box x)) tm)):=.say aC (T2.mono (aV (J6.trans I7)));generalize upd H6 p7 (.tup [.str "say",.ref p2])=H7 at R7 I7;erw[0,0,s2,λp3 h3=>%[s4|λp4 h4=>?_]];have I3:=zC0 h3 (.tup [.str "num",.int 1]);have I4:=zC0 h4 (.tup [.str "op",.str "+",vj,.ref p3]);have J4:=I3.trans I4;have T4:TmAt (upd (upd H7 p3 (.tup [.str "num",.int 1])) p4 (.tup [.str "op",.str "+",vj,.ref p3])) (.ref p4) (.op "+" (.box x) (.num 1)):=.op aC (Tj.mono (aV (J2.trans (J6.trans (I7.trans J4))))) (.num (I4 _ _ aC));generalize upd (upd H7 p3 (.tup [.str "num",.int 1])) p4 (.tup [.str "op",.str "+",vj,.ref p3])=H8 at T4 J4;erw[s3,λp8 h8=>%[s2|λp9 h9=>%[s4|λp h10=>?_]]];have I8:=zC0 h8 (.tup [.str "set",.str x,.ref p4]);have I9:=zC0 h9 (.tup [.str "go",.int 1]);have I10:=zC0 h10 (.tup [.ref p6,.ref p7,.ref p8,.ref p9]);have J10:=I8.trans (I9.trans I10);have R8:HrAt (upd (upd (upd H8 p8 (.tup [.str "set",.str x,.ref p4])) p9 (.tup [.str "go",.int 1])) p (.tup [.ref p6,.ref p7,.ref p8,.ref p9])) (.ref p8) (.set x (.op "+" (.box x) (.num 1))):=.set ((I9.trans I10) _ _ aC) (T4.mono (aV J10));have R9:HrAt (upd (upd (upd H8 p8 (.tup [.str "set",.str x,.ref p4])) p9 (.tup [.str "go",.int 1])) p (.tup [.ref p6,.ref p7,.ref p8,.ref p9])) (.ref p9) (.go 1):=.go (I10 _ _ aC);have JJ:=J2.trans (J6.trans (I7.trans (J4.trans J10)));have pl:("+":Str)∈signW:=by decide
   refine q p _ _ _ aC ((((RowsAt.one (R6.mono (aV (I7.trans (J4.trans J10))))).app (RowsAt.one (R7.mono (aV (J4.trans J10))))).app (RowsAt.one R8)).app (RowsAt.one R9)) (λr hr=>?_) (F0.same JJ) (zK0 JJ);rcases qD0 hr with hr | hr
   . rcases qD0 hr with hr | hr
     . rcases qD0 hr with hr | hr
       . rw[zM0 hr];erw[trivial,(by show 1<=8;decide)]
       . rw[zM0 hr];erw[%[pl,%[4|trivial]|gm],zQ0 (DQ (m:=4) (by show 2<=4;decide) dm) ⋯]
     . rw[zM0 hr];erw[%[pl,trivial|trivial],(by show 2<=8;decide)]
   . rw[zM0 hr];exact(by show(0:Int)<=1;decide))))) (by
   rintro Dn σ H ⟨x4,x5,f,x,vj,vw,tw,rfl,F0,Tj,Tw,gw,dw,q⟩;have s2:2<=sizeLine:=by decide
   have s4:4<=sizeLine:=by decide
   have st:("*":Str)∈signW:=by decide
   have pl:("+":Str)∈signW:=by decide
   erw[0,0,f,(4),1,F0,4,4,λd1 H1 _ _ F1 B1=>%[2,s2|λp1 h1=>%[s4|λp2 h2=>?_]]];have k1:=aP F0 B1;have I1:=zC0 h1 (.tup [.str "num",.int (1+d1)]);have I2:=zC0 h2 (.tup [.str "op",.str "*",vw,.ref p1]);have J2:=I1.trans I2;have T2:TmAt (upd (upd H1 p1 (.tup [.str "num",.int (1+d1)])) p2 (.tup [.str "op",.str "*",vw,.ref p1])) (.ref p2) (.op "*" tw (.num (1+d1))):=.op aC (Tw.mono λa xs e=>J2 _ _ (k1 _ _ e)) (.num (I2 _ _ aC));generalize upd (upd H1 p1 (.tup [.str "num",.int (1+d1)])) p2 (.tup [.str "op",.str "*",vw,.ref p1])=H2 at T2 J2;have F2:=F1.same J2;erw[0,f,(3),1,F2,4,4,λd2 H3 _ _ F3 B3=>%[1,0|6]];have k3:=aP F2 B3;have S3:SameBut f H H3:=B1.trans ((zK0 J2).trans B3);have kk:bY H H3:=λa xs e=>k3 _ _ (J2 _ _ (k1 _ _ e))
   by_cases c:d2=0
   . refine aR (congrArg V.int c) ?_;erw[0,0,f,(3),1,F3,4,4,λd3 H4 _ _ F4 B4=>%[2,s2|λp3 h3=>%[s2|λp4 h4=>?_]]];have k4:=aP F3 B4;have I3:=zC0 h3 (.tup [.str "num",.int (1+d3)]);have I4:=zC0 h4 (.tup [.str "coin",.ref p3]);have J4:=I3.trans I4;have T4:TmAt (upd (upd H4 p3 (.tup [.str "num",.int (1+d3)])) p4 (.tup [.str "coin",.ref p3])) (.ref p4) (.ask "coin" (.num (1+d3))):=.ask aC (.num (I4 _ _ aC));generalize upd (upd H4 p3 (.tup [.str "num",.int (1+d3)])) p4 (.tup [.str "coin",.ref p3])=H5 at T4 J4;have F5:=F4.same J4;erw[0,f,(3),1,F5,4,4,λd5 H6 _ _ F6 B6=>%[s2|λp5 h5=>%[s4|λp6 h6=>?_]]];have k6:=aP F5 B6;have I5:=zC0 h5 (.tup [.str "num",.int d5]);have I6:=zC0 h6 (.tup [.str "op",.str "+",.ref p4,.ref p5]);have J6:=I5.trans I6;have T6:TmAt (upd (upd H6 p5 (.tup [.str "num",.int d5])) p6 (.tup [.str "op",.str "+",.ref p4,.ref p5])) (.ref p6) (.op "+" (.ask "coin" (.num (1+d3))) (.num d5)):=.op aC (T4.mono λa xs e=>J6 _ _ (k6 _ _ e)) (.num (I6 _ _ aC));generalize upd (upd H6 p5 (.tup [.str "num",.int d5])) p6 (.tup [.str "op",.str "+",.ref p4,.ref p5])=H7 at T6 J6;have F7:=F6.same J6;have kw:bY H H7:=λa xs e=>J6 _ _ (k6 _ _ (J4 _ _ (k4 _ _ (kk _ _ e))))
     erw[s4,λp7 h7=>?_];have I7:=zC0 h7 (.tup [.str "op",.str "*",vw,.ref p6]);erw[_,_,f,x,vj,.ref p7,.op "*" tw (.op "+" (.ask "coin" (.num (1+d3))) (.num d5)),1,F7.same I7,Tj.mono (λa xs e=>I7 _ _ (kw _ _ e)),.op aC (Tw.mono λa xs e=>I7 _ _ (kw _ _ e)) (T6.mono (aV I7)),%[st,gw,pl,%[4|trivial]|trivial],DQ (m:=3) dw (by show 3<=3;decide),λh rv rows H' h1 h2 h3 h4 h5=>q h rv rows H' h1 h2 h3 h4 (S3.trans (B4.trans ((zK0 J4).trans (B6.trans ((zK0 (J6.trans I7)).trans h5)))))]
   . refine ax (λz=>c (V.int.inj z)) ?_;erw[_,_,f,x,vj,.ref p2,.op "*" tw (.num (1+d1)),1,F3,Tj.mono kk,T2.mono k3,%[st,gw|trivial],DQ (m:=3) dw (by show 1<=3;decide),λh rv rows H' h1 h2 h3 h4 h5=>q h rv rows H' h1 h2 h3 h4 (S3.trans h5)]))))),?_⟩
 have s1:1<=sizeLine:=by decide
 have s2:2<=sizeLine:=by decide
 have s4:4<=sizeLine:=by decide
 have st:("*":Str)∈signW:=by decide
 have eqs:("=":Str)∈signW:=by decide
 erw[0,s2,λpj hj=>?_];have Ij:=zC0 hj (.tup [.str "box",.str x]);have Tj:TmAt (upd H pj (.tup [.str "box",.str x])) (.ref pj) (.box x):=.box aC;generalize upd H pj (.tup [.str "box",.str x])=H1 at Ij Tj;erw[0,0,f,(4),1,F0.same Ij,4,4,λd1 H2 _ _ F2 B2=>%[s2|λp1 h1=>%[s4|λp2 h2=>?_]]];have k2:=aP (F0.same Ij) B2;have I1:=zC0 h1 (.tup [.str "num",.int d1]);have I2:=zC0 h2 (.tup [.str "op",.str "=",.ref pj,.ref p1]);have J2:=I1.trans I2;have T2:TmAt (upd (upd H2 p1 (.tup [.str "num",.int d1])) p2 (.tup [.str "op",.str "=",.ref pj,.ref p1])) (.ref p2) (.op "=" (.box x) (.num d1)):=.op aC (Tj.mono λa xs e=>J2 _ _ (k2 _ _ e)) (.num (I2 _ _ aC));have Tj2:=Tj.mono λa xs e=>J2 _ _ (k2 _ _ e)
 have S3:SameBut f H (upd (upd H2 p1 (.tup [.str "num",.int d1])) p2 (.tup [.str "op",.str "=",.ref pj,.ref p1])):=(zK0 Ij).trans (B2.trans (zK0 J2));have F3:=F2.same J2;generalize upd (upd H2 p1 (.tup [.str "num",.int d1])) p2 (.tup [.str "op",.str "=",.ref pj,.ref p1])=H3 at T2 Tj2 S3 F3;erw[0,f,(3),1,F3,4,4,λd2 H4 _ _ F4 B4=>%[2,0|6]];have k4:=aP F3 B4;have S4:=S3.trans B4
 by_cases c:d2>0
 . refine aR c ?_;erw[0,s1,λp3 h3=>?_];have I3:=zC0 h3 (.tup [.str "round"]);have e3:upd H4 p3 (.tup [.str "round"]) p3=some (.tup [.str "round"]):=aC;generalize upd H4 p3 (.tup [.str "round"])=H5 at I3 e3;erw[0,f,(6),1,F4.same I3,4,4,λd5 H6 _ _ F6 B6=>%[s2|λp5 h5=>%[s4|λp6 h6=>?_]]];have k6:=aP (F4.same I3) B6;have I5:=zC0 h5 (.tup [.str "num",.int d5]);have I6:=zC0 h6 (.tup [.str "op",.str "=",.ref p3,.ref p5]);have J6:=I5.trans I6;have T6:TmAt (upd (upd H6 p5 (.tup [.str "num",.int d5])) p6 (.tup [.str "op",.str "=",.ref p3,.ref p5])) (.ref p6) (.op "=" (.plain "round") (.num d5)):=.op aC (.plain (J6 _ _ (k6 _ _ e3))) (.num (I6 _ _ aC));generalize upd (upd H6 p5 (.tup [.str "num",.int d5])) p6 (.tup [.str "op",.str "=",.ref p3,.ref p5])=H7 at T6 J6;have kw:bY H3 H7:=λa xs e=>J6 _ _ (k6 _ _ (I3 _ _ (k4 _ _ e)))
   erw[s4,λp7 h7=>?_];have I7:=zC0 h7 (.tup [.str "op",.str "*",.ref p2,.ref p6]);erw[_,_,f,x,.ref pj,.ref p7,.op "*" (.op "=" (.box x) (.num d1)) (.op "=" (.plain "round") (.num d5)),1,F6.same (J6.trans I7),Tj2.mono (λa xs e=>I7 _ _ (kw _ _ e)),.op aC (T2.mono λa xs e=>I7 _ _ (kw _ _ e)) (T6.mono (aV I7)),%[st,%[eqs,trivial|trivial],eqs,(show("round":Str)∈plainW by decide)|trivial],(by show 3<=3;decide),λh rv rows H' h1 h2 h3 h4 h5=>q h rv rows H' h1 h2 h3 h4 (S4.trans ((zK0 I3).trans (B6.trans ((zK0 (J6.trans I7)).trans h5))))]
 . refine ax c ?_;erw[_,_,f,x,.ref pj,.ref p2,.op "=" (.box x) (.num d1),1,F4,Tj2.mono k4,T2.mono k4,%[eqs,trivial|trivial],(by show 2<=3;decide),λh rv rows H' h1 h2 h3 h4 h5=>q h rv rows H' h1 h2 h3 h4 (S4.trans h5)]
def qo:List Str:=["not","and","or","odd","same"]
theorem sV{o:Str}(h:o∈joinW):o∈qo:=qG0 _ h
theorem tU (o:Str):inV (.str o) [.str "yes",.str "no"]=(decide (o="yes")||decide (o="no")):=by
 show (("yes"==o)||(("no"==o)||false))=_;rw[Bool.or_false];have e:∀z:Str,(z==o)=decide (o=z):=λz=>by
  by_cases c:o=z
  . subst c;simp
  . rw[decide_eq_false c];simpa using λh=>c h.symm
 rw[e,e]
theorem Dl {o:Str} (h:o∈qo):inV (.str o) [.str "yes",.str "no"]=false:=by
 rw[tU,decide_eq_false,decide_eq_false]
 . rfl
 . intro z;subst z;revert h;decide
 . intro z;subst z;revert h;decide
theorem DU {o:Str} (h:o∈qo):¬ V.str o=V.str "is":=λz=>by
 rw[dH z]at h
 revert h
 decide
theorem TreeAt.viewH    {ns:List Str} (h:TreeAt H v t) (ok:t.ok ns):(∃(a:Addr) (x:Str),v=.ref a/\t=.is x/\x∈ns/\H a=some (.tup [.str "is",.str x]))∨(∃a:Addr,v=.ref a/\t=.yes/\H a=some (.tup [.str "yes"]))∨(∃a:Addr,v=.ref a/\t=.no/\H a=some (.tup [.str "no"]))∨
 ∃(a:Addr) (o:Str) (xs:List V),v=.ref a/\o∈qo/\xs.length<=2/\H a=some (.tup (.str o::xs))/\TreesAt H xs t.parts/\(∀u∈t.parts,u.ok ns/\u.depth+1<=t.depth)/\((o="not"/\∃r,t=.not r)∨(o∈joinW/\∃r r2,t=.bin o r r2)):=by
 cases h with
 | is e=>exact .inl %[2,ok|e]
 | yes e=>exact .inr (.inl %[0,1|e])
 | no e=>exact .inr (.inr (.inl %[0,1|e]))
 | @not a u r e g=>
   refine .inr (.inr (.inr %[_,"not",[u],1,4,by simp,e,.cons g .nil,λz hz=>?_|.inl ⟨rfl,_,rfl⟩]));rw[zM0 hz];erw[ok,zG0 _]
 | @bin a o u u2 r r2 e g g2=>
   erw[ho,ok1,ok2]at ok;refine .inr (.inr (.inr %[_,o,[u,u2],1,sV ho,by simp,e,.cons g (.cons g2 .nil),λz hz=>?_|.inr ⟨ho,_,_,rfl⟩]));rcases zV0 hz with h | h
   . rw[h];erw[ok1,6];show r.depth+1<=max r.depth r2.depth+1;omega
   . rw[zM0 h];erw[ok2,6];show r2.depth+1<=max r.depth r2.depth+1;omega
inductive spLH(n:Nat)(vs:List V)(H:Hp)(Q:VK)(u_3:XK):Prop
 |mk:∀(v:V)(t:Tr)(d:Addr)(ns:List Str)(st:List Int),vs=[v,.ref d]->TreeAt H v t->t.ok ns->t.depth<=n->NdAt H d ns st->(∀H',Same H H'->Q (.bl (t.holds ns st)) H')->spLH n vs H Q u_3
theorem zV{k1 k2 k3 k4 k5:_}{p1 p2 p3 p4 p5 pd:Pos}{x1 x2 x3 x4 x5:Str}(e1:PE X v1 t1)(e2:PE X v2 t2)(e3:PE X v3 t3)(e4:PE X v4 t4)(e5:PE X v5 t5) :
 PE X (.Dict [some (.Constant (.str x1) k1 p1),some (.Constant (.str x2) k2 p2),some (.Constant (.str x3) k3 p3),some (.Constant (.str x4) k4 p4),some (.Constant (.str x5) k5 p5)] [v1,v2,v3,v4,v5] pd) (yS [(tC (.str x1),t1),(tC (.str x2),t2),(tC (.str x3),t3),(tC (.str x4),t4),(tC (.str x5),t5)]):=
 BR (jg au e1 (jg au e2 (jg au e3 (jg au e4 (jg au e5 BN))))) rfl rfl (by simp) (by show 5<=15;decide)
theorem BQ{X:Cx}(hu:X.A.units+1<cLine){ps pc:Pos}(ha:PE X a ta)(hc:PE X c tc)(hb:PE X b tb)(hs:CI b):PE X (.Compare a [.In] [.Subscript c b ps] pc) (tOp (rIn X.K false) ta (yT tc tb)):=
 cb dB ha (wg hu hc hb hs) rfl
theorem pss_w{st:List Stmt}(h:PSW X st t):PSs X st t:=h.out
theorem zM{X:Cx}(hu:X.A.units+1<cLine){k1 k2 k3 k4 k5:_}{p1 p2 p3 p4 p5 pd ps pc pr:Pos}{x1 x2 x3 x4 x5:Str}(ha:PE X a ta)(hb:PE X b tb)(hs:CI b)(e1:PE X v1 t1)(e2:PE X v2 t2)(e3:PE X v3 t3)(e4:PE X v4 t4)(e5:PE X v5 t5) :
 PSW X [.Return (some (.Compare a [.In] [.Subscript (.Dict [some (.Constant (.str x1) k1 p1),some (.Constant (.str x2) k2 p2),some (.Constant (.str x3) k3 p3),some (.Constant (.str x4) k4 p4),some (.Constant (.str x5) k5 p5)] [v1,v2,v3,v4,v5] pd) b ps] pc)) pr]
  (Ds (tOp (rIn X.K false) ta (yT (yS [(tC (.str x1),t1),(tC (.str x2),t2),(tC (.str x3),t3),(tC (.str x4),t4),(tC (.str x5),t5)]) tb))):=
 %[|ad (ao (BQ hu ha (zV e1 e2 e3 e4 e5) hb hs))]
theorem t8:FnScope ["_law_tree_here","_law_on","_law_found"] ["_law_tree_here","_law_on"] (ak jw):=%[1,1,1,4,1,4|4]
theorem Cl {n:Nat}   (F:Fun K "_law_holds" "_law_holds" jw f fd) (f9:Cal P w K mg base (n+2) "_law_holds" ["_law_tree_here","_law_on"] (spLH n)):FnOk P w K mg base CX0 (n+3) f fd ["_law_tree_here","_law_on"] (spLH (n+1)):=by
 exists t8
 erw[v,t,d,ns,st,1,T,ok,dn,hO,k]at h;have hu:=AJ hr;refine⟨_,(aa (aB (af aI (ay aF (pv 0) ac (λ_ _=>rfl)) au (ai _)) (ad (ao (cb aI (wg hu (pv 1) (ay aF (pv 0) ac (λ_ _=>rfl)) (λ_ _=>rfl)) ac (ai _)))) av)
  (aa (aB (af dB (ay aF (pv 0) ac (λ_ _=>rfl)) (aG %[au,au|aH]) (by rfl')) (ad (ao (cb aI (ay aF (pv 0) ac (λ_ _=>rfl)) au (ai _)))) av)
  (aa (mq (i:=2) (N:=["_law_on"]) (ix:=[1]) t8.nd rfl (.inl rfl) rfl
   (CompScope.one (by rfl') ⋯ rfl ⋯ rfl ⋯ (by rfl') (by rfl') (by rfl') rfl rfl) rfl
   (jh (gg qt (pv 0) (fq ac) kx))
   (λ_ _ _=>cQ (ag f9 hr (zG0 _) rfl %[0,1|aH])))
  (pss_w (zM hu (dq PySem.F.plainAttrs_list PySem.F.slot_list_count PySem.F.type_list_count ox (pv 2) %[eV|aH]) (ay aF (pv 0) ac (λ_ _=>rfl)) (λ_ _=>rfl) (ci %[ac|aH]) (ci %[ac|aH]) (ci %[ac,ac|aH]) (ci %[ac|aH]) (ci %[ac,ac|aH])))))),?_⟩
 rcases T.viewH ok with⟨q,x,rfl,rfl,xm,e⟩ | ⟨q,rfl,rfl,e⟩ | ⟨q,rfl,rfl,e⟩ | ⟨q,o,xs,rfl,om,xl0,e,TS0,pok,fm⟩
 . erw[0,q,_,(0),0,1,zD0 e,1,1,0,6];refine aR rfl ?_;let%[j,hj|jl]:=eI xm;erw[kvs,hd,hv]at hO;erw[0,0,q,_,(1),0,1,zD0 e,1,d,.int (st.getD j 0),1,6,6]
   . rw[←hv x j hj];exact DGet.k (k:=Sum.inr x) hd
   . have e1:(Tr.is x).holds ns st=decide (st.getD j 0=1):=by
      show(match cK x ns with | some j=>decide (st.getD j 0=1) | none=>false)=_;rw[hj]
     have e2:decide (V.int (st.getD j 0)=V.int 1)=decide (st.getD j 0=1):=by
      by_cases c:st.getD j 0=1
      . rw[decide_eq_true c,decide_eq_true (by rw[c])]
      . rw[decide_eq_false c,decide_eq_false λz=>c (V.int.inj z)]
     erw[1,6];rw[e2,←e1];exact k _ (Same.refl _)
 . erw[0,q,_,(0),0,1,zD0 e,1,1,0,6];refine ax (λz=>absurd (dH z) ⋯) ?_;erw[0,q,_,(0),0,1,zD0 e,1,(by show 2<=sizeLine;decide),λc hc=>?_];have G:=zC0 hc (.tup [.str "yes",.str "no"]);erw[c,0,.inr (zD0 aC),1,1,0,6];have e0:inV (.str "yes") [.str "yes",.str "no"]=true:=by rw[tU];decide
   show if inV (.str "yes") [.str "yes",.str "no"]=true then _ else _
   rw[e0];refine du ?_;erw[0,q,_,(0),0,1,zD0 (G _ _ e),1,1,6];exact k _ G
 . erw[0,q,_,(0),0,1,zD0 e,1,1,0,6];refine ax (λz=>absurd (dH z) ⋯) ?_;erw[0,q,_,(0),0,1,zD0 e,1,(by show 2<=sizeLine;decide),λc hc=>?_];have G:=zC0 hc (.tup [.str "yes",.str "no"]);erw[c,0,.inr (zD0 aC),1,1,0,6];have e0:inV (.str "no") [.str "yes",.str "no"]=true:=by rw[tU];decide
   show if inV (.str "no") [.str "yes",.str "no"]=true then _ else _
   rw[e0];refine du ?_;erw[0,q,_,(0),0,1,zD0 (G _ _ e),1,1,6];have e1:decide (V.str "no"=V.str "yes")=false:=by decide
   show Q (.bl (decide (V.str "no"=V.str "yes"))) _;rw[e1];exact k _ G
 . erw[0,q,_,(0),.str o,1,1,zD0 e,at0 ..,1,0,6];refine ax (DU om) ?_;erw[0,q,_,(0),.str o,1,1,zD0 e,at0 ..,(by show 2<=sizeLine;decide),λc hc=>?_];have G:=zC0 hc (.tup [.str "yes",.str "no"]);erw[c,0,.inr (zD0 aC),1,1,0,6];show if inV (.str o) [.str "yes",.str "no"]=true then _ else _
   rw[Dl om];refine cG ?_;let%[c1|c2]:=EC (.str o) xs xl0;erw[0,(1),1,q,0,zD0 (G _ _ e),c2,λc' hc'=>?_];rw[c1];have G1:=zC0 hc' (.tup xs);have S1:Same H (upd (upd H c (.tup [.str "yes",.str "no"])) c' (.tup xs)):=G.trans G1;have hc1:upd (upd H c (.tup [.str "yes",.str "no"])) c' (.tup xs) c'=some (.tup xs):=aC;generalize upd (upd H c (.tup [.str "yes",.str "no"])) c' (.tup xs)=H1 at S1 hc1;have TS:=TS0.mono (aV S1);have xl:=TS.length;erw[c',1,%[_|zD0 hc1],λD hD=>?_];refine jm (K:=K) (xs:=xs) (λi H'=>H' D=some (.lst ((t.parts.take i).map λu=>V.bl (u.holds ns st)))/\Same H1 H') %[by rw[aC];rfl|zC0 hD _] (λi H' _ h=>zD0 (h.2 _ _ hc1)) ?_ ?_
   . rintro i z H2 hz ⟨hl,S2⟩;let%[u,hu'|Tu]:=TS.get hz;let%[uok|ud]:=pok u (qI0 hu');have hi:i<xs.length:=(zX0 hz).1;have S02:=S1.trans S2;erw[0,0,z,u,d,ns,st,1,Tu.mono (aV S2),uok,3,hO.same S02,λH3 S3=>?_];erw[_,S3 _ _ hl,6,Nx.of hi %[6|λb' o' e'=>?_]]
     . rw[zH0,qH0];exact aM #[0]
     . rw[aC,qN0,hu',zO0];rfl
     . rw[aq (aN e' hD)];exact S3 _ _ (S2 _ _ e')
   . rintro H2 ⟨hl,S2⟩;rw[xl,qJ0]at hl;have S02:=S1.trans S2;have fl:∀us:List Tr,(us.map λu=>V.bl (u.holds ns st)).all hU=true:=λus=>by
      rw[List.all_map];exact List.all_eq_true.mpr λ_ _=>rfl
     erw[0,.inl %[1,_|zF0 hl],D,2,zF0 hl,fl _,1,6];obtain⟨m,hm⟩:∃m:Nat,((t.parts.map λu=>V.bl (u.holds ns st)).countP λy=>eqV y (.bl true))=m:=%[|0]
     rw[hm];refine λp hp=>?_
     have G0:=zC0 hp (.dK []);have p0:upd H2 p (.dK []) p=some (.dK []):=aC;generalize upd H2 p (.dK [])=J0 at G0 p0;erw[by show 1<=sizeLine;decide,λL1 h1=>?_];have g1:=zC0 h1 (.lst [.int 0]);have q1:upd J0 L1 (.lst [.int 0]) L1=some (.lst ([0].map V.int)):=aC;generalize upd J0 L1 (.lst [.int 0])=J1 at g1 q1;erw[by show 1<=sizeLine;decide,λL2 h2=>?_];have g2:=zC0 h2 (.lst [.int 2]);have q2:upd J1 L2 (.lst [.int 2]) L2=some (.lst ([2].map V.int)):=aC;generalize upd J1 L2 (.lst [.int 2])=J2 at g2 q2;erw[by show 2<=sizeLine;decide,λL3 h3=>?_];have g3:=zC0 h3 (.lst [.int 1,.int 2]);have q3:upd J2 L3 (.lst [.int 1,.int 2]) L3=some (.lst ([1,2].map V.int)):=aC;generalize upd J2 L3 (.lst [.int 1,.int 2])=J3 at g3 q3;erw[by show 1<=sizeLine;decide,λL4 h4=>?_];have g4:=zC0 h4 (.lst [.int 1]);have q4:upd J3 L4 (.lst [.int 1]) L4=some (.lst ([1].map V.int)):=aC;generalize upd J3 L4 (.lst [.int 1])=J4 at g4 q4;erw[by show 2<=sizeLine;decide,λL5 h5=>?_];have g5:=zC0 h5 (.lst [.int 0,.int 2]);have q5:upd J4 L5 (.lst [.int 0,.int 2]) L5=some (.lst ([0,2].map V.int)):=aC;generalize upd J4 L5 (.lst [.int 0,.int 2])=J5 at g5 q5;have p1:=g1 _ _ p0;have p2:=g2 _ _ p1;have p3:=g3 _ _ p2;have p4:=g4 _ _ p3;have p5:=g5 _ _ p4;have n1:L1≠p:=Ne.symm (aN p0 h1);have n2:L2≠p:=Ne.symm (aN p1 h2);have n3:L3≠p:=Ne.symm (aN p2 h3);have n4:L4≠p:=Ne.symm (aN p3 h4);have n5:L5≠p:=Ne.symm (aN p4 h5);erw[p5,[(Sum.inr "not",.ref L1),(Sum.inr "and",.ref L2),(Sum.inr "or",.ref L3),(Sum.inr "odd",.ref L4),(Sum.inr "same",.ref L5)],1,(by show 5<=15;decide),6];have em:dY [] [((Sum.inr "not":Key),V.ref L1),(Sum.inr "and",.ref L2),(Sum.inr "or",.ref L3),(Sum.inr "odd",.ref L4),(Sum.inr "same",.ref L5)]=[((Sum.inr "not":Key),V.ref L1),(Sum.inr "and",.ref L2),(Sum.inr "or",.ref L3),(Sum.inr "odd",.ref L4),(Sum.inr "same",.ref L5)]:=by rfl'
     rw[em];obtain⟨dd,hdd⟩:∃dd:List (Key×V),[((Sum.inr "not":Key),V.ref L1),(Sum.inr "and",.ref L2),(Sum.inr "or",.ref L3),(Sum.inr "odd",.ref L4),(Sum.inr "same",.ref L5)]=dd:=%[|0]
     rw [hdd];have SF:Same H2 (upd J5 p (.dK dd)):=λb o' e'=>by
      rw[aq (aN e' hp)];exact g5 _ _ (g4 _ _ (g3 _ _ (g2 _ _ (g1 _ _ (G0 _ _ e')))))
     have fin:∀(Lk:Addr)(zs:List Int),di dd (Sum.inr o)=some (.ref Lk)->Lk≠p->J5 Lk=some (.lst (zs.map V.int))->inV (.int (m:Int)) (zs.map V.int)=t.holds ns st ->
      ∃(Lk:Addr)(zs:List Int),di dd (Sum.inr o)=some (.ref Lk)/\upd J5 p (.dK dd) Lk=some (.lst (zs.map V.int))/\inV (.int (m:Int)) (zs.map V.int)=t.holds ns st:=λLk zs a1 a2 a3 a4=>%[Lk,zs,a1,by rw[aq a2];exact a3|a4]
     obtain ⟨Lk,zs,hv,hLk,hres⟩:∃(Lk:Addr)(zs:List Int),di dd (Sum.inr o)=some (.ref Lk)/\upd J5 p (.dK dd) Lk=some (.lst (zs.map V.int))/\inV (.int (m:Int)) (zs.map V.int)=t.holds ns st:=by
      rcases fm with⟨rfl,r,rfl⟩ | ⟨oj,r,r2,rfl⟩
      . refine fin L1 [0] (by rw[←hdd];rfl') n1 (g5 _ _ (g4 _ _ (g3 _ _ (g2 _ _ q1)))) ?_;have hm':(([V.bl (r.holds ns st)]).countP λy=>eqV y (.bl true))=m:=hm;show _=!(r.holds ns st);rw[←hm'];generalize r.holds ns st=x;cases x <;> rfl'
      . have hm':(([V.bl (r.holds ns st),V.bl (r2.holds ns st)]).countP λy=>eqV y (.bl true))=m:=hm;have hj:(Tr.bin o r r2).holds ns st=gZ o (r.holds ns st) (r2.holds ns st):=rfl;rw[←hm',hj]at fin;rw[←hm',hj];generalize r.holds ns st=x at fin ⊢;generalize r2.holds ns st=y at fin ⊢;have oj':o="and"∨o="or"∨o="odd"∨o="same":=by simpa [joinW]using oj
        rcases oj' with rfl | rfl | rfl | rfl
        . exact fin L2 [2] (by rw[←hdd];rfl') n2 (g5 _ _ (g4 _ _ (g3 _ _ q2))) (by cases x <;> cases y <;> rfl')
        . exact fin L3 [1,2] (by rw[←hdd];rfl') n3 (g5 _ _ (g4 _ _ q3)) (by cases x <;> cases y <;> rfl')
        . exact fin L4 [1] (by rw[←hdd];rfl') n4 (g5 _ _ q4) (by cases x <;> cases y <;> rfl')
        . exact fin L5 [0,2] (by rw[←hdd];rfl') n5 q5 (by cases x <;> cases y <;> rfl')
     have e2:=SF _ _ (S02 _ _ e);erw[0,q,_,(0),.str o,1,1,zD0 e2,at0 ..,p,.ref Lk,1,6,Lk,0,.inl (zF0 hLk),1,6,6]
     . rw[←hv];exact DGet.k (k:=Sum.inr o) aC
     . rw[List.all_map];exact List.all_eq_true.mpr λ_ _=>rfl
     . rw[hres];exact k _ (S02.trans SF)
theorem Ck  :FnOk P w K mg base CX0 2 f fd ["_law_tree_here","_law_on"] (spLH 0):=by
 have no:∀vs H Q E,¬ spLH 0 vs H Q E:=λvs H Q E h=>by
  erw[v,t,_,_,_,_,_,_,h1,_]at h
  have:=t.depth_pos
  omega
 erw[λvs H Q E h=>absurd h (no vs H Q E),λA outer s H args us vs Q E _ _ _ _ h=>absurd h (no vs H Q E)]
theorem ot   (F:Fun K "_law_holds" "_law_holds" jw f fd) (m:mg "_law_holds"=some (.ref f)) :
 ∀n:Nat,FnOk P w K mg base CX0 (n+2) f fd ["_law_tree_here","_law_on"] (spLH n)
 | 0=>Ck
 | n+1=>Cl F (Cal.of F (ot F m n) m (λ_ _ _ _ _ _ us hl=>by let%[u0,u1|1]:=Cp hl;rfl))
section
theorem hons_good:oY eJ:=by
 erw[4,λr hr=>?_];unfold eJ hB at hr;simp only[List.mem_cons,List.not_mem_nil,or_false]at hr;have ni:NmK "i":=by unfold NmK;decide
 rcases hr with rfl | rfl | rfl | rfl
 . erw[ni,%[4|4],4,4]
 . erw[%[4|ni],4,4]
 . erw[ni,%[4,ni,4|4],4,4]
 . erw[4,4]
theorem yg:kK eJ="set i 0\nsay (true i)\nset i (+ i 1)\ngo 1":=by decide
theorem jy:∀t:Tm,t.ok->t.good
 | .num _,_=>trivial
 | .box _,_=>trivial
 | .plain _,h=>h
 | .ask _ a,h=>%[h.1|jy a h.2]
 | .op _ a b,h=>%[h.1,jy a h.2.1|jy b h.2.2]
theorem wA{r:Hr}(h:r.ok 20):r.good:=by
 cases r with
 | fin=>trivial
 | go n=>exact h.1
 | iff t n=>erw[jy t h.1.1,h.1.2.2,h.2.1]
 | set x t=>erw[jy t h.2.1,h.2.2.2]
 | say t=>erw[jy t h.1,h.2.2]
inductive spHonest(vs:List V)(H:Hp)(Q:VK)(u_3:XK):Prop
 |mk:vs=[]->(∀(a:Addr)(H':Hp),HlpAt H' a eJ->Same H H'->Q (.ref a) H')->spHonest vs H Q u_3
theorem xh:FnScope [] [] (ak ny):=%[1,1,1,4,1,4|4]
theorem xL   (F:Fun K "honest" "honest" ny f fd) (X:∃t,mg "HONEST_ROWS"=some (.str ("set i 0\nsay (true i)\nset i (+ i 1)\ngo 1":Str) t)) (cW:Cal P w K mg base 21 "read_helper" ["text"] spReadH):FnOk P w K mg base CX0 22 f fd [] spHonest:=by
 exists xh
 erw[1,q]at h;erw[t,gx]at X;erw[_,(ad (ao (ag cW hr ⋯ rfl %[cE (v:=.str ("set i 0\nsay (true i)\nset i (+ i 1)\ngo 1":Str)) rfl gx %[|0]|aH]))),6];erw[eJ,by rw[yg];rfl,hons_good,λa tv H' ha R S=>q a H' %[%[tv,ha|R]|λr hr=>wA (hons_good.2 r hr)] S]
def sR:List Hr:=[.iff (.op "=" (.box "lied") (.num 0)) 9,.iff (.op "=" (.plain "asked") (.num 1)) 8,.say (.ask "true" (.num 0)),.say (.op "-" (.plain "due") (.ask "true" (.num 0))),.set "i" (.num 2),.say (.ask "true" (.box "i")),.set "i" (.op "+" (.box "i") (.num 1)),.go 5,.say (.op "/" (.plain "due") (.num 2)),.set "lied" (.num 1)]
abbrev CJ:Str:="if (= lied 0) 9\nif (= asked 1) 8\nsay (true 0)\nsay (- due (true 0))\nset i 2\nsay (true i)\nset i (+ i 1)\ngo 5\nsay (/ due 2)\nset lied 1"
theorem vt:kK sR=CJ:=by decide
theorem liars_good:oY sR:=by
 erw[4,λr hr=>?_];unfold sR at hr;simp only[List.mem_cons,List.not_mem_nil,or_false]at hr;have ni:NmK "i":=by unfold NmK;decide
 have nl:NmK "lied":=by unfold NmK;decide
 rcases hr with rfl | rfl | rfl | rfl | rfl | rfl | rfl | rfl | rfl | rfl
 . erw[%[%[4,nl,4|4],4|4],4,4]
 . erw[%[%[4,(by decide:("asked":Str)∈plainW),4|4],4|4],4,4]
 . erw[%[4,4|4],4,4]
 . erw[%[4,(by decide:("due":Str)∈plainW),4,4|4],4,4]
 . erw[ni,%[4|4],4,4]
 . erw[%[4|ni],4,4]
 . erw[ni,%[4,ni,4|4],4,4]
 . erw[4,4]
 . erw[%[4,(by decide:("due":Str)∈plainW),4|4],4,4]
 . erw[nl,%[4|4],4,4]
inductive spBest(vs:List V)(H:Hp)(Q:VK)(u_3:XK):Prop
 |mk:∀(l:Addr)(c:Int),vs=[.ref l]->H l=some (.lst [.int c])->(∀(a:Addr)(rows:List Hr)(H':Hp),HlpAt H' a rows->Same H H'->Q (.ref a) H')->spBest vs H Q u_3
theorem qz:FnScope ["claims"] ["claims"] (ak je):=%[1,1,1,4,1,4|4]
theorem rb   (F:Fun K "best_liar" "best_liar" je f fd) (B:Bl mg) (X:∃t,mg "LIAR_ROWS"=some (.str CJ t)) (cW:Cal P w K mg base 21 "read_helper" ["text"] spReadH):FnOk P w K mg base CX0 22 f fd ["claims"] spBest:=by
 exists qz
 erw[l,c,1,hl,q]at h;erw[t,gx]at X;refine⟨_,(ad (ao (aj op_catT (ag cW hr ⋯ rfl %[cE (v:=.str CJ) rfl gx %[|0]|aH]) (be bp rfl B.tuple bN (ae (cJ (N:=[]) (ix:=[]) (cl:=[]) rfl
  (CompScope.closed (by rfl') ⋯ rfl ⋯ rfl (by rfl')) rfl
  (fw (pv 0)) (λ_ _ _=>cQ (aG %[au,aG %[au,0|aH]|aH]))) aH))))),?_⟩
 erw[sR,by rw[vt];rfl,liars_good,λa tv H1 ha R1 S1=>?_];have hl1:=S1 _ _ hl;erw[0,l,1,%[_|zF0 hl1],λD hD=>?_];refine jE (K:=K) (xs:=[.int c]) (λi H'=>∃(us:List V)(qs:List Hr),H' D=some (.lst us)/\RowsAt H' us qs/\(∀r∈qs,r.good)/\us.length=i/\Same H1 H') %[[],[],aC,RowsAt.nil,(λr hr=>by cases hr),1|zC0 hD _] (λi H' _ hst=>by erw[_,_,_,_,_,_,h]at hst;exact zF0 (h _ _ hl1)) ?_ ?_
 . rintro i z H2 hz ⟨us,qs,hD2,R2,g2,ul,S2⟩;have hi:i<1:=(zX0 hz).1
   have:i=0:=by omega
   subst this;cases hz;erw[0,(by show 2<=sizeLine;decide),λb hb=>%[(by show 2<=sizeLine;decide)|λd hd=>?_]];have I3:=zC0 hb (.tup [.str "num",.int c]);have e3:upd H2 b (.tup [.str "num",.int c]) b=_:=aC;generalize upd H2 b (.tup [.str "num",.int c])=H3 at hd I3 e3;have I4:=zC0 hd (.tup [.str "say",.ref b]);have e4:upd H3 d (.tup [.str "say",.ref b]) d=_:=aC;generalize upd H3 d (.tup [.str "say",.ref b])=H4 at I4 e4;have J4:=I3.trans I4;have hD4:=J4 _ _ hD2;have k5:=jC (H:=H4) (b:=D) (ys:=us) (zs:=us++[.ref d]) hD4;erw[_,hD4,aM #[0],Nx.of hi ⟨us++[.ref d],qs++[.say (.num c)],aC,((R2.mono (aV J4)).mono k5).snoc (.say (k5 _ _ e4) (.num (k5 _ _ (I4 _ _ e3)))),λr hr=>?_,by rw[zJ0,ul];rfl,λb' o' e'=>?_⟩]
   . rcases qD0 hr with h | h
     . exact g2 r h
     . rw[zM0 h];erw[trivial,by show 1<=8;decide]
   . rw[aq (aN e' hD)];exact J4 _ _ (S2 _ _ e')
 . rintro H2 ⟨us,qs,hD2,R2,g2,ul,S2⟩;erw[D,0,.inl %[zF0 hD2|λb hb=>?_]];have I3:=zC0 hb (.tup us);have e3:upd H2 b (.tup us) b=_:=aC;generalize upd H2 b (.tup us)=H3 at I3 e3;have J3:=S2.trans I3;have tl:=R1.1;have u1:us.length=1:=ul;have un:us≠[]:=λz=>by rw[z]at u1;cases u1
   have tn:tv≠[]:=λz=>by rw[z]at tl;cases tl
   have t10:tv.length=10:=tl;erw[a,b,2,zD0 (J3 _ _ ha),zD0 e3,tn,bK #[0],λz=>absurd z un,λ_ c' hc'=>?_];have I4:=zC0 hc' (.tup (tv++us));refine q c' (sR++qs) _ %[%[_,aC|((R1.mono (aV J3)).app (R2.mono (aV I3))).mono (aV I4)]|λr hr=>?_] (S1.trans (J3.trans I4));rcases qD0 hr with h | h
   . exact wA (liars_good.2 r h)
   . exact g2 r h
inductive spMat(vs:List V)(H:Hp)(Q:VK)(u_3:XK):Prop
 |mk:∀(f b:Addr)(bs:List Str),vs=[.ref f,.ref b]->FeedAt H f->H b=some (.lst (bs.map V.str))->b≠f->bs.length=3->(∀(h:Addr)(rows:List Hr)(H':Hp),HlpAt H' h rows->SameBut f H H'->Q (.ref h) H')->spMat vs H Q u_3
inductive tM86(Dn:Ends)(σ:St)(H:Hp):Prop
 |mk:∀(v:V)(t:Tm)(x0 x1 x3:Option V),σ=[x0,x1,some v,x3]->TmAt H v t->t.good->t.depth<=7->(∀(h:Addr)(rows:List Hr)(H':Hp),HlpAt H' h rows->Same H H'->Dn.rt (.ref h) H')->tM86 Dn σ H
theorem eG:FnScope ["_law_feed_here","_law_boxes","_law_first","_law_at"] ["_law_feed_here","_law_boxes"] (ak ir):=%[1,1,1,4,1,4|4]
theorem pw   (F:Fun K "_law_matching" "_law_matching" ir f fd) (aS:Cal P w K mg base 1 "_law_take" ["_law_feed_here","_law_many"] spTake) (b8:Cal P w K mg base 10 "_law_term" ["_law_feed_here","_law_boxes","_law_room","_law_deep"] (spTerm 8)):FnOk P w K mg base CX0 11 f fd ["_law_feed_here","_law_boxes"] spMat:=by
 exists eG
 erw[f,b,bs,1,hF,hb,bf,bl,q]at h;have s1:1<=sizeLine:=by decide
 have s2:2<=sizeLine:=by decide
 have s4:4<=sizeLine:=by decide
 refine⟨_,PSW.out (aJ #[bm,2,eG,%[|ag b8 hr ⋯ rfl %[0,1,ac,ac|aH]]]
  (aJ (iO (af aI (ag aS hr ⋯ rfl %[0,ac|aH]) ac (ai _)) (aJ #[bm,3,eG,⟨aG %[au,au,aG %[au|aH],aG %[au,ag aS hr ⋯ rfl %[0,ac|aH]|aH]|aH]⟩]
   (dh #[bm,2,eG,%[|aG %[au,au,aG %[au,aG %[au,ac|aH]|aH],aG %[au,au,3,2|aH]|aH]]])) fL)
  (iP (t':=tM86) (dh (gG %[|aG %[aG %[au,2|aH],aG %[au,aG %[au,au,aG %[au|aH],2|aH]|aH]|aH]])) ?cM))),?_⟩
 case cM=>
  rintro Dn σ H ⟨v,t,x0,x1,x3,rfl,T,tg,td,q⟩;erw[0,s2,λa1 h1=>?_];have I1:=zC0 h1 (.tup [.str "say",v]);have e1:upd H a1 (.tup [.str "say",v]) a1=_:=aC;generalize upd H a1 (.tup [.str "say",v])=H1 at I1 e1;erw[s1,λa2 h2=>?_];have I2:=zC0 h2 (.tup [.str "due"]);have e2:upd H1 a2 (.tup [.str "due"]) a2=_:=aC;generalize upd H1 a2 (.tup [.str "due"])=H2 at I2 e2;erw[0,s4,λa3 h3=>?_];have I3:=zC0 h3 (.tup [.str "op",.str "-",.ref a2,v]);have e3:upd H2 a3 (.tup [.str "op",.str "-",.ref a2,v]) a3=_:=aC;generalize upd H2 a3 (.tup [.str "op",.str "-",.ref a2,v])=H3 at I3 e3;erw[s2,λa4 h4=>?_];have I4:=zC0 h4 (.tup [.str "say",.ref a3]);have e4:upd H3 a4 (.tup [.str "say",.ref a3]) a4=_:=aC;generalize upd H3 a4 (.tup [.str "say",.ref a3])=H4 at I4 e4;erw[s2,λa5 h5=>?_];have I5:=zC0 h5 (.tup [.ref a1,.ref a4]);have e5:upd H4 a5 (.tup [.ref a1,.ref a4]) a5=_:=aC;generalize upd H4 a5 (.tup [.ref a1,.ref a4])=H5 at I5 e5;have J45:=I4.trans I5;have J35:=I3.trans J45;have J25:=I2.trans J35;have J5:=I1.trans J25;have T5:=T.mono (aV J5);have R:RowsAt H5 ([.ref a1]++[.ref a4]) ([.say t]++[.say (.op "-" (.plain "due") t)]):=(RowsAt.one (.say (J25 _ _ e1) T5)).app (RowsAt.one (.say (I5 _ _ e4) (.op (J45 _ _ e3) (.plain (J35 _ _ e2)) T5)));refine q a5 [.say t,.say (.op "-" (.plain "due") t)] H5 %[%[_,e5|R]|λr hr=>?_] J5;rcases zV0 hr with rfl | hr
  . erw[tg,3]
  . rw[zM0 hr];erw[%[4,(by decide:("due":Str)∈plainW)|tg],6];show max 1 t.depth+1<=8;omega
 erw[0,0,f,b,bs,(5),(4),1,hF,hb,bf,3,3,4,4,4,4,λv t H1 T tg td F1 B1=>?_];have td':(t.depth:Int)<=4:=td;erw[0,f,(2),1,F1,4,4,λd H2 _ _ F2 B2=>%[1,0|6]];have T2:=T.mono (aP F1 B2);refine hC (λ_=>?_) (λ_=>?_)
 . erw[s1,λa1 h1=>?_];have I1:=zC0 h1 (.tup [.str "round"]);have e1:upd H2 a1 (.tup [.str "round"]) a1=_:=aC;have n1:=F2.ne h1;have F3:=F2.same I1;generalize upd H2 a1 (.tup [.str "round"])=H3 at I1 e1 F3;erw[0,f,(6),1,F3,4,4,λc H4 _ _ F4 B4=>?_];erw[s2,λa2 h2=>?_];have k4:=aP F3 B4;have I2:=zC0 h2 (.tup [.str "num",.int c]);have e2:upd H4 a2 (.tup [.str "num",.int c]) a2=_:=aC;generalize upd H4 a2 (.tup [.str "num",.int c])=H5 at I2 e2;erw[s4,λa3 h3=>?_];have I3:=zC0 h3 (.tup [.str "op",.str "=",.ref a1,.ref a2]);have e3:upd H5 a3 (.tup [.str "op",.str "=",.ref a1,.ref a2]) a3=_:=aC;generalize upd H5 a3 (.tup [.str "op",.str "=",.ref a1,.ref a2])=H6 at I3 e3;erw[s2,λa4 h4=>?_];have I4:=zC0 h4 (.tup [.str "num",.int 0]);have e4:upd H6 a4 (.tup [.str "num",.int 0]) a4=_:=aC;generalize upd H6 a4 (.tup [.str "num",.int 0])=H7 at I4 e4;erw[s2,λa5 h5=>?_];have I5:=zC0 h5 (.tup [.str "true",.ref a4]);have e5:upd H7 a5 (.tup [.str "true",.ref a4]) a5=_:=aC;generalize upd H7 a5 (.tup [.str "true",.ref a4])=H8 at I5 e5;erw[0,0,s4,λa6 h6=>?_];have I6:=zC0 h6 (.tup [.str "op",.str "*",.ref a3,v]);have e6:upd H8 a6 (.tup [.str "op",.str "*",.ref a3,v]) a6=_:=aC;generalize upd H8 a6 (.tup [.str "op",.str "*",.ref a3,v])=H9 at I6 e6;erw[s4,λa7 h7=>?_];have I7:=zC0 h7 (.tup [.str "op",.str "+",.ref a5,.ref a6]);have e7:upd H9 a7 (.tup [.str "op",.str "+",.ref a5,.ref a6]) a7=_:=aC;generalize upd H9 a7 (.tup [.str "op",.str "+",.ref a5,.ref a6])=H10 at I7 e7;have J67:=I6.trans I7;have J57:=I5.trans J67;have J47:=I4.trans J57;have J37:=I3.trans J47;have J27:=I2.trans J37;have B0:SameBut f H H10:=B1.trans (B2.trans ((zK0 I1).trans (B4.trans (zK0 J27))));erw[.ref a7,.op "+" (.ask "true" (.num 0)) (.op "*" (.op "=" (.plain "round") (.num c)) t),_,_,0,6,6,6,λh rows H' L S=>q h rows H' L (B0.trans (zK0 S))]
   . exact .op e7 (.ask (J67 _ _ e5) (.num (J57 _ _ e4))) (.op (I7 _ _ e6) (.op (J47 _ _ e3) (.plain (J27 _ _ (k4 _ _ e1))) (.num (J37 _ _ e2))) (((T2.mono (aV I1)).mono k4).mono (aV J27)))
   . erw[4,%[4|trivial],4,%[4,(by decide:("round":Str)∈plainW)|trivial],tg]
   . show max (1+1) (max (max 1 1+1) t.depth+1)+1<=7;omega
 . erw[v,t,_,_,0,T2,tg,3,λh rows H' L S=>q h rows H' L (B1.trans (B2.trans (zK0 S)))]
theorem gQ:FnScope ["_law_feed_here","_law_boxes","_law_form"] ["_law_feed_here","_law_boxes"] (ak fg):=%[1,1,1,4,1,4|4]
theorem lu   (F:Fun K "_law_some_helper" "_law_some_helper" fg f fd) (aS:Cal P w K mg base 1 "_law_take" ["_law_feed_here","_law_many"] spTake) (kh:Cal P w K mg base 11 "_law_helper" ["_law_feed_here","_law_boxes","_law_most"] spHelp) (tS:Cal P w K mg base 2 "_law_liar" ["_law_feed_here","_law_box"] spLiar)
 (gR:Cal P w K mg base 11 "_law_matching" ["_law_feed_here","_law_boxes"] spMat) (dR:Cal P w K mg base 22 "best_liar" ["claims"] spBest) (fN:Cal P w K mg base 22 "honest" [] spHonest):FnOk P w K mg base CX0 23 f fd ["_law_feed_here","_law_boxes"] spMat:=by
 exists gQ
 erw[f,b,bs,1,hF,hb,bf,bl,q]at h;have s1:1<=sizeLine:=by decide
 have s2:2<=sizeLine:=by decide
 refine⟨_,(aa #[am,2,gQ,ag aS hr ⋯ rfl %[0,ac|aH]]
  (aa (aB (af gY (pv 2) ac (ai _)) (ad (ao (ag gR hr ⋯ rfl %[0,1|aH]))) av)
  (aa (aB (af aI (pv 2) ac (ai _)) (ad (ao (wj fN hr ⋯ rfl))) av)
  (aa (aB (af aI (pv 2) ac (ai _)) (ad (ao (ag dR hr ⋯ rfl %[ci %[ag aS hr ⋯ rfl %[0,ay ix_list (ci %[ac,aj uT ac ac|aH]) (ag aS hr ⋯ rfl %[0,ac|aH]) (λ_ _=>rfl)|aH]|aH]|aH]))) av)
  (aa (aB (af aI (pv 2) ac (ai _)) (ad (ao (ag kh hr ⋯ rfl %[0,1,ac|aH]))) av)
  (ad (ao (ag tS hr ⋯ rfl %[0,ay ix_list (pv 1) ac (λ_ _=>rfl)|aH])))))))),?_⟩
 erw[0,f,(8),1,hF,4,4,λd H1 d0 d6 F1 B1=>?_];have hb1:=B1 _ _ bf hb;erw[0,2,0,6];refine hC (λc=>?_) (λc=>?_)
 . erw[0,0,f,b,bs,1,F1,hb1,bf,bl,λh rows H2 L B2=>q h rows H2 L (B1.trans B2)]
 erw[0,1,0,6];refine hC (λc=>?_) (λc=>?_)
 . erw[1,λa H2 L S=>q a eJ H2 L (B1.trans (zK0 S))]
 erw[0,1,0,6];refine hC (λc=>?_) (λc=>?_)
 . erw[0,2,%[4,4|4],s2,λl1 hl1=>?_];have hp:(10:Int) ^ (6:Int).toNat=1000000:=by decide
   rw [hp];have I2:=zC0 hl1 (.lst [.int 18,.int 1000000]);have e2:upd H1 l1 (.lst [.int 18,.int 1000000]) l1=_:=aC;generalize upd H1 l1 (.lst [.int 18,.int 1000000])=H2 at I2 e2;have l1f:=F1.ne hl1;erw[0,f,(2),1,F1.same I2,4,4,λe H3 e0 e2' F3 B3=>?_];have e2'':e<2:=e2';have e3:=B3 _ _ l1f e2;obtain⟨m,em,m0,m9⟩:∃m:Int,atI [V.int 18,V.int 1000000] e=some (.int m)/\0<m/\m<2 ^ 63:=by
    rcases(show e=0∨e=1 by omega)with rfl | rfl
    . erw[(18),1,4,4]
    . erw[(1000000),1,4,4]
   erw[l1,_,2,zF0 e3,em,f,m,1,F3,m0,m9,λc H4 _ _ F4 B4=>?_];erw[s1,λl2 hl2=>?_];have I5:=zC0 hl2 (.lst [.int c]);have e5:upd H4 l2 (.lst [.int c]) l2=_:=aC;generalize upd H4 l2 (.lst [.int c])=H5 at I5 e5;erw[l2,c,1,e5,λa rows H6 Ha S6=>q a rows H6 Ha (B1.trans ((zK0 I2).trans (B3.trans (B4.trans (zK0 (I5.trans S6))))))]
 erw[0,1,0,6];refine hC (λc=>?_) (λc=>?_)
 . erw[0,0,f,b,bs,(10),1,F1,hb1,bf,3,3,4,4,λh rv rows H2 hh RW gd F2 B2=>q h rows H2 %[%[rv,hh|RW]|gd] (B1.trans B2)]
 . cases bs with
   | nil=>cases bl
   | cons x bs=>erw[0,0,b,_,(0),.str x,1,1,zF0 hb1,at0 ..,f,x,1,F1,λh rv rows H2 hh RW gd F2 B2=>q h rows H2 %[%[rv,hh|RW]|gd] (B1.trans B2)]
end
def ocD:Oc->PyData
 | .agr v=>.tuple [.str "agreed",.int v]
 | .cau x y ws=>.tuple [.str "caught",.bool x,.bool y,.tuple (ws.map PyData.int)]
theorem dL:∀{o:Oc},OcAt H a o->Rep K H (.ref a) (ocD o)
 | .agr _,h=>.tup (zD0 h) (.cons (.str _) (.cons (.int _) .nil))
 | .cau _ _ ws,⟨_,h,h2⟩=>.tup (zD0 h) (.cons (.str _) (.cons (.bl _) (.cons (.bl _) (.cons (.tup (zD0 h2) (sk ws)) .nil))))
theorem Db:PyData.strOk ("agreed":Str)=true:=by decide
theorem Da:PyData.strOk ("caught":Str)=true:=by decide
theorem bJ:∀o:Oc,SeqAt.shaped (ocD o)=true
 | .agr v=>by simp [Db,Da,ocD,SeqAt.shaped,PyData.canLay0,PyData.depth,PyData.canLayAll0,PyData.depthAll]
 | .cau x y ws=>by simp [Db,Da,ocD,SeqAt.shaped,PyData.canLay0,PyData.depth,PyData.canLayAll0,PyData.depthAll,W.ke_canLayAll0,W.ke_depthAll]
theorem jV(o:Oc):PyData.eqv (ocD o) (ocD o)=true:=SeqAt.eqv_refl _ (by
 have:=bJ o
 unfold SeqAt.shaped at this;rw[Bool.and_eq_true]at this;exact this.1)
section
variable {ns:List Str} {t:Tr} {p:Int} {rA rB:List Hr}
def Oc.some:Oc->Bool
 | .agr _=>true
 | .cau x y _=>x||y
theorem sn:∀(n:Nat)(ws:List Int)(bA:Str->Int)(hA:Int)(bB:Str->Int)(hB:Int),hA≠hB->(fk G rA rB tru n ws bA hA bB hB).some=true
 | 0,ws,bA,hA,bB,hB,ne=>by
   show((!decide (hA=tru ws))||(!decide (hB=tru ws)))=true
   by_cases c:hA=tru ws
   . rw[decide_eq_false (show ¬ hB=tru ws from λz=>ne (c.trans z.symm)),Bool.or_comm];rfl
   . rw[decide_eq_false c];rfl
 | n+1,ws,bA,hA,bB,hB,ne=>by
   unfold fk
   dsimp only
   generalize cH (G.z ((ws.length:Int)+1) 2 hA ws) rA bA=sA;generalize cH (G.z ((ws.length:Int)+1) 2 hB ws) rB bB=sB
   by_cases c:fits G.p hA sA=true/\fits G.p hB sB=true
   . rw [zE0 c];refine sn n _ _ _ _ _ ?_;have f1:(g0 sA+g1 sA) % G.p=hA:=of_decide_eq_true c.1;have f2:(g0 sB+g1 sB) % G.p=hB:=of_decide_eq_true c.2;unfold ie ph
     by_cases d:g0 sA=g0 sB
     . rw[zE0 d,zB0 ⋯,zB0 ⋯];exact λz=>ne (by rw[←f1,←f2,d,z])
     . rw[zB0 d,zE0 rfl,zE0 rfl];exact d
   . rw[zB0 c];show((!fits G.p hA sA)||(!fits G.p hB sB))=true;cases e1:fits G.p hA sA <;> cases e2:fits G.p hB sB <;> first | rfl | exact absurd ⟨e1,e2⟩ c
theorem xx:(gA G rA rB tru).some=true:=by
 unfold gA
 split
 . rfl
 . rename_i c;exact sn _ _ _ _ _ _ c
theorem xw:gA G rB rA tru=(gA G rA rB tru).swap:=by
 unfold gA
 by_cases c:hd0 G rA=hd0 G rB
 . rw[zE0 c,zE0 c.symm,c];rfl
 . rw[zB0 c,zB0 (λz=>c z.symm)];exact nE _ _ _ _ _ _
theorem wD{p s hd:Int}(h0:0<=hd)(h1:hd<p):(s-hd) % p=0↔s % p=hd:=by
 constructor
 . intro h
   have:=Int.emod_emod_of_dvd s (Int.dvd_refl p)
   rw[Int.emod_eq_iff #[0]];erw[h0,3,6];have d:=Int.dvd_of_emod_eq_zero h;have e:hd-s=-(s-hd):=by omega
   rw[e];exact(Int.dvd_neg).mpr d
 . intro h;rw[←h];rw[Int.sub_emod,Int.emod_emod,Int.sub_self];rfl
end
section
inductive spRt86(vs:List V)(H:Hp)(Q:VK)(u_3:XK):Prop
 |mk:∀(a b:Addr)(o:Oc),vs=[.ref a,.ref b]->OcAt H a o->OcAt H b o->o.some=true->Q (.bl true) H->spRt86 vs H Q u_3
theorem uy:FnScope ["_law_found","_law_due_here"] ["_law_found","_law_due_here"] (ak ld):=%[1,1,1,4,1,4|4]
theorem uW   (F:Fun K "_law_right" "_law_right" ld f fd) (B:Bl mg):FnOk P w K mg base CX0 1 f fd ["_law_found","_law_due_here"] spRt86:=by
 exists uy
 erw[a,b,o,1,O1,O2,so,q]at h;refine⟨_,(aa (aB (PW.pt (eD (gN (dj (aD jp rfl B.isinstance PyProof.Rows.boot_isinstance %[0,qQ (v:=V.ty "tuple") rfl B.tuple bN rfl|aH]))) (dA (af (qU hr.units) (pv 0) (pv 1) (ai _))))) (ad (ao eV)) av)
  (aa (aB (af aI (ay aF (pv 0) ac (λ_ _=>rfl)) au (ai _)) (ad (ao eV)) av)
  (ad (ao (uR (aD jp rfl B.isinstance PyProof.Rows.boot_isinstance %[ay aF (pv 0) ac (λ_ _=>rfl),qQ (v:=V.ty "bool") rfl B.bool oT rfl|aH]) (uR (aD jp rfl B.isinstance PyProof.Rows.boot_isinstance %[ay aF (pv 0) ac (λ_ _=>rfl),qQ (v:=V.ty "bool") rfl B.bool oT rfl|aH]) (qP (CY (ay aF (pv 0) ac (λ_ _=>rfl)) (qP (ay aF (pv 0) ac (λ_ _=>rfl))))))))))),?_⟩
 obtain ⟨ys,ha⟩:∃ys,H a=some (.tup ys):=by
  cases o with
  | agr v=>erw[_,O1]
  | cau x y ws=>erw[_,O1.choose_spec.1]
 erw[0,_,_,"tuple",true,1,TyOf.tup ha,oE _ _,0,cG ?_];erw[0,0,_,_,dL O1,dL O2,bJ _,bJ _,0,6];rw[jV];refine cG ?_;cases o with
 | agr v=>
   have h1:H a=some (.tup [.str "agreed",.int v]):=O1;erw[0,a,_,(0),.str "agreed",1,1,zD0 h1,1,1,0,6];exact aR rfl q
 | cau x y ws=>
   erw[t,h1,_]at O1;erw[0,a,_,(0),.str "caught",1,1,zD0 h1,1,1,0,6];refine ax (λz=>absurd (V.str.inj z) ⋯) ?_;erw[0,a,_,(1),.bl x,1,1,zD0 h1,1,_,_,"bool",true,1,TyOf.bl _,oE _ _,true,1,du ?_];erw[0,a,_,(2),.bl y,1,1,zD0 h1,1,_,_,"bool",true,1,TyOf.bl _,oE _ _,true,1,du ?_];erw[0,a,_,(1),.bl x,1,1,zD0 h1,1,0,6];cases x with
   | true=>exact du q
   | false=>
     have y1:y=true:=so;subst y1;exact cG %[0,a,_,(2),.bl true,1,1,zD0 h1,1|q]
end
section
variable {CM CA CG CS:Addr}
structure Wr where
 gh:Addr
 a:Addr
 b:Addr
 g:Addr
 L:Addr
 M1:Addr
 d1:Addr
 M2:Addr
 d2:Addr
 b1:Addr
 b2:Addr
 hA:Addr
 hB:Addr
 v:V
 ns:List Str
 t:Tr
 p:Int
 rA:List Hr
 rB:List Hr
abbrev Wr.G(y:Wr):Gv:=%[y.ns,[y.t]|y.p]
structure WrAt(CG CM:Addr)(H:Hp)(y:Wr):Prop where
 gt:GmT H y.gh y.a y.b y.ns [y.v] [y.t] y.p
 G:Gm CG H y.g y.ns [y.t] y.p
 hL:H y.L=some (.lst [.ref y.M1,.ref y.M2])
 LA:HlpAt H y.hA y.rA
 LB:HlpAt H y.hB y.rB
 k:GmK y.ns [y.t] y.p
 n6:y.ns.length<=6
 nd:y.ns.Nodup
 MM:y.M1≠y.M2
 bb:y.b1≠y.b2
 gM:y.g≠y.M1/\y.g≠y.M2
def Bt(y:Wr)(H H':Hp):Prop:=∀a o,a≠y.M1->a≠y.M2->a≠y.b1->a≠y.b2->H a=some o->H' a=some o
structure McAt(CM:Addr)(H:Hp)(y:Wr)(n1 n2:Int)(X1 X2:Str->Int)(m1 m2:Nat):Prop where
 e1:H y.M1=some (.ins CM y.d1 (ml y.g y.hA n1 y.b1))
 e2:H y.M2=some (.ins CM y.d2 (ml y.g y.hB n2 y.b2))
 h1:BxAt H y.b1 X1 m1
 h2:BxAt H y.b2 X2 m2
theorem McAt.same{m1 m2:Nat}(x:McAt CM H y n1 n2 X1 X2 m1 m2)(s:Same H H'):McAt CM H' y n1 n2 X1 X2 m1 m2:=%[s _ _ x.e1,s _ _ x.e2,x.h1.keep λo e=>s _ _ e|x.h2.keep λo e=>s _ _ e]
theorem McAt.upd{D:Addr}{ys:List V}{m1 m2:Nat}(x:McAt CM H y n1 n2 X1 X2 m1 m2)(hD:H D=some (.lst ys))(s:SameBut D H H'):McAt CM H' y n1 n2 X1 X2 m1 m2:=by
 let%[q1,f1|_]:=id x.h1;let%[q2,f2|_]:=id x.h2;erw[s _ _ (aZ x.e1 hD (by intro z;cases z)) x.e1,s _ _ (aZ x.e2 hD (by intro z;cases z)) x.e2,x.h1.keep λo e=>s _ _ (aZ f1 hD (by intro z;cases z)) e,x.h2.keep λo e=>s _ _ (aZ f2 hD (by intro z;cases z)) e]
theorem Bt.trans(s:Bt y H H1)(r:Bt y H1 H2):Bt y H H2:=λa o n1 n2 n3 n4 e=>r _ _ n1 n2 n3 n4 (s _ _ n1 n2 n3 n4 e)
theorem Bt.of(s:Same H H1):Bt y H H1:=λa o _ _ _ _ e=>s _ _ e
theorem WrAt.keep{m1 m2:Nat}(w:WrAt CG CM H y)(x:McAt CM H y n1 n2 X1 X2 m1 m2)(s:Bt y H H'):WrAt CG CM H' y:=by
 let%[q1,f1|_]:=id x.h1;let%[q2,f2|_]:=id x.h2;have kT:bY H H':=λa xs e=>s _ _ (aZ e x.e1 (by intro z;cases z)) (aZ e x.e2 (by intro z;cases z)) (aZ e f1 (by intro z;cases z)) (aZ e f2 (by intro z;cases z)) e
 have kL:∀{a:Addr}{ys:List V},H a=some (.lst ys)->H' a=some (.lst ys):=λe=>s _ _ (aZ e x.e1 (by intro z;cases z)) (aZ e x.e2 (by intro z;cases z)) (aZ e f1 (by intro z;cases z)) (aZ e f2 (by intro z;cases z)) e
 erw[ga,gb,gd,tv,%[dx|g1],g2,g3,g4,g5]at w.G;erw[w.gt.mono kT,%[ga,gb,gd,tv,%[dx|s _ _ w.gM.1 w.gM.2 (aZ g1 f1 (by intro z;cases z)) (aZ g1 f2 (by intro z;cases z)) g1],kT _ _ g2,kT _ _ g3,g4.mono kT|kL g5],kL w.hL,w.LA.mono kT,w.LB.mono kT,w.k,w.n6,w.nd,w.MM,w.bb,w.gM]
end
section
variable {CM CA CG CS:Addr}
theorem McAt.lst{H H':Hp}{y:Wr}{n1 n2:Int}{X1 X2:Str->Int}{m1 m2:Nat}{a:Addr}{ys:List V}(x:McAt CM H y n1 n2 X1 X2 m1 m2)(s:Bt y H H')(e:H a=some (.lst ys)):H' a=some (.lst ys):=by
 let%[q1,f1|_]:=id x.h1;let%[q2,f2|_]:=id x.h2;exact s _ _ (aZ e x.e1 (by intro z;cases z)) (aZ e x.e2 (by intro z;cases z)) (aZ e f1 (by intro z;cases z)) (aZ e f2 (by intro z;cases z)) e
theorem say1{vs:List V}{m1 m2:Nat}{c:Addr}{Q:VK}{z:Ak}(w:WrAt CG CM H y)(x:McAt CM H y z.nr n2 X1 X2 m1 m2)(ez:z.ns=y.ns/\z.ts=[y.t]/\z.p=y.p)(ok:AkOk z)(bo:dN z.p X1)(ml:m1<=5000)(hc:H c=some (.lst (z.to.map V.int)))(c0:0<=z.mn)(c1:z.mn<=500)
 (q:∀(l:Addr)(H':Hp),H l=none->H' l=some (.lst ((cH z y.rA X1).map V.int))->McAt CM H' y (z.nr+1) n2 (bxA z y.rA X1) X2 (m1+200) m2->Bt y H H'->Q (.ref l) H') (hv:vs=[.ref y.M1,.int z.mn,.int z.hd,.int z.s,.ref c]):spSay CM CG vs H Q E:=by
 let%[%[rv,hh|RW]|rg]:=id w.LA;let%[q2,f2|_]:=id x.h2;let%[q1,f1|_]:=id x.h1;erw[y.M1,y.g,y.hA,y.b1,y.d1,c,rv,z,y.rA,X1,m1,hv,x.e1,hh,RW,rg,x.h1,bo,ml,by rw[ez.1,ez.2.1,ez.2.2];exact w.G,ok,.inl hc,c0,c1,λl H' l0 hl BX hM S=>?_];exact q l H' l0 hl %[hM,S _ _ w.MM.symm (aZ x.e2 f1 (by intro z;cases z)) x.e2,BX|x.h2.keep λo e=>S _ _ (aZ f2 x.e1 (by intro z;cases z)) w.bb.symm e] (λa o n1 _ n3 _ e=>S _ _ n1 n3 e)
theorem say2{vs:List V}{m1 m2:Nat}{c:Addr}{Q:VK}{z:Ak}(w:WrAt CG CM H y)(x:McAt CM H y n1 z.nr X1 X2 m1 m2)(ez:z.ns=y.ns/\z.ts=[y.t]/\z.p=y.p)(ok:AkOk z)(bo:dN z.p X2)(ml:m2<=5000)(hc:H c=some (.lst (z.to.map V.int)))(c0:0<=z.mn)(c1:z.mn<=500)
 (q:∀(l:Addr)(H':Hp),H l=none->H' l=some (.lst ((cH z y.rB X2).map V.int))->McAt CM H' y n1 (z.nr+1) X1 (bxA z y.rB X2) m1 (m2+200)->Bt y H H'->Q (.ref l) H') (hv:vs=[.ref y.M2,.int z.mn,.int z.hd,.int z.s,.ref c]):spSay CM CG vs H Q E:=by
 let%[%[rv,hh|RW]|rg]:=id w.LB;let%[q2,f2|_]:=id x.h2;let%[q1,f1|_]:=id x.h1;erw[y.M2,y.g,y.hB,y.b2,y.d2,c,rv,z,y.rB,X2,m2,hv,x.e2,hh,RW,rg,x.h2,bo,ml,by rw[ez.1,ez.2.1,ez.2.2];exact w.G,ok,.inl hc,c0,c1,λl H' l0 hl BX hM S=>?_];exact q l H' l0 hl %[S _ _ w.MM (aZ x.e1 f2 (by intro z;cases z)) x.e1,hM,x.h1.keep λo e=>S _ _ (aZ f1 x.e2 (by intro z;cases z)) w.bb e|BX] (λa o _ n2 _ n4 e=>S _ _ n2 n4 e)
theorem Cz{x h p:Int}(h0:0<=h)(h1:h<p):(!decide (V.int ((x-h) % p)=V.int 0))=!decide (x % p=h):=by
 by_cases c:x % p=h
 . rw[decide_eq_true c,decide_eq_true (congrArg V.int ((wD h0 h1).mpr c))]
 . rw[decide_eq_false c,decide_eq_false (λz=>c ((wD h0 h1).mp (V.int.inj z)))]
theorem Em(a b:Bool):inV (.bl true) [.bl a,.bl b]=(a||b):=by cases a <;> cases b <;> rfl
structure St8(CG CM:Addr)(H0 H:Hp)(y:Wr)(W D:Addr)(ws:List Int)(u1 u2:Int)(X1 X2:Str->Int)(m:Nat):Prop where
 w:WrAt CG CM H y
 x:McAt CM H y ((ws.length:Int)+1) ((ws.length:Int)+1) X1 X2 m m
 hW:H W=some (.lst (ws.map V.int))
 hD:H D=some (.lst [.int u1,.int u2])
 wo:∀x∈ws,x=0∨x=1
 r1:0<=u1/\u1<y.p
 r2:0<=u2/\u2<y.p
 o1:dN y.p X1
 o2:dN y.p X2
 ml:m<=200*(ws.length+1)
 W0:H0 W=none
 bt:Bt y H0 H
 k0:∀H',Bt y H0 H'->WrAt CG CM H' y
def RwI(CM:Addr)(H:Hp)(D W:Addr)(y:Wr)(n:Int)(lA lB:List Int)(X1 X2 Y1 Y2:Str->Int)(m:Nat):Nat->Hp->Prop
 | 0,H'=>H' D=some (.lst [])/\Same H H'
 | 1,H'=>∃l1,H' D=some (.lst [.ref l1])/\(l1≠D/\l1≠W)/\H' l1=some (.lst (lA.map V.int))/\McAt CM H' y (n+1) n Y1 X2 (m+200) m/\Bt y H H'
 | _,H'=>∃l1 l2,H' D=some (.lst [.ref l1,.ref l2])/\(l1≠W/\l2≠W)/\H' l1=some (.lst (lA.map V.int))/\H' l2=some (.lst (lB.map V.int))/\McAt CM H' y (n+1) (n+1) Y1 Y2 (m+200) (m+200)/\Bt y H H'
inductive tLp8(CG CM:Addr)(Dn:Ends)(σ:St)(H:Hp):Prop
 |mk:∀(H0:Hp)(y:Wr)(W D:Addr)(ws:List Int)(u1 u2:Int)(X1 X2:Str->Int)(m:Nat)(x1 x2 x3 x7 z8 z9:Option V),σ=[some (.ref y.gh),x1,x2,x3,some (.ref y.L),some (.ref D),some (.ref W),x7,z8,z9,none]->St8 CG CM H0 H y W D ws u1 u2 X1 X2 m->ws.length<y.ns.length->(∀(D':Addr)(wy u1' u2':Int)(Y1 Y2:Str->Int)(m':Nat)(z8' z9':Option V)(H':Hp),St8 CG CM H0 H' y W D' (ws++[wy]) u1' u2' Y1 Y2 m'->fk y.G y.rA y.rB (cp y.ns y.t) (y.ns.length-(ws.length+1)+1) ws X1 u1 X2 u2=fk y.G y.rA y.rB (cp y.ns y.t) (y.ns.length-(ws.length+1)) (ws++[wy]) Y1 u1' Y2 u2'->Dn.nx [some (.ref y.gh),x1,x2,x3,some (.ref y.L),some (.ref D'),some (.ref W),x7,z8',z9',none] H')->(∀(r:Addr)(H':Hp),OcAt H' r (fk y.G y.rA y.rB (cp y.ns y.t) (y.ns.length-(ws.length+1)+1) ws X1 u1 X2 u2)->Bt y H0 H'->Dn.rt (.ref r) H')->tLp8 CG CM Dn σ H
end
section
variable {CM CA CG CS:Addr}
theorem pI {X:Cx} (K:W.Frag) (hK:X.K=K:=by rfl):gy X (.type "list") (rListOf K):=by subst hK;exact kO
inductive spDue86(vs:List V)(H:Hp)(Q:VK)(u_3:XK):Prop
 |mk:∀(gh a b hA hB:Addr)(v:V)(ns:List Str)(t:Tr)(p:Int)(rA rB:List Hr),vs=[.ref gh,.ref hA,.ref hB]->GmT H gh a b ns [v] [t] p->HlpAt H hA rA->HlpAt H hB rB->GmK ns [t] p->ns.length<=6->ns.Nodup->(∀(r:Addr)(H':Hp),OcAt H' r (gA ⟨ns,[t],p⟩ rA rB (cp ns t))->Same H H'->Q (.ref r) H')->spDue86 vs H Q u_3
def HdI(CM:Addr)(H:Hp)(D:Addr)(y:Wr)(v1 v2:Int)(Y1 Y2:Str->Int):Nat->Hp->Prop
 | 0,H'=>H' D=some (.lst [])/\Same H H'
 | 1,H'=>H' D=some (.lst [.int v1])/\McAt CM H' y 1 0 Y1 (λ_=>0) 200 0/\Bt y H H'
 | _,H'=>H' D=some (.lst [.int v1,.int v2])/\McAt CM H' y 1 1 Y1 Y2 200 200/\Bt y H H'
theorem dJ:FnScope ["_law_told","_law_one","_law_other","_law_game","_law_machines","_law_held","_law_ways","_law_k","_law_said","_law_caught","_law_due_here"] ["_law_told","_law_one","_law_other"] (ak qG):=%[1,1,1,4,1,4|4]
theorem Ag   (F:Fun K "_law_due" "_law_due" qG f fd) (B:Bl mg) (TG:GTxt K mg CG) (MG:Mk K CG fI) (GI:FnOk P w K mg base CX0 14 fI fdI ["self","switches","trees","field"] (spGInit CG)) (bI:Binds K fdI ["self","switches","trees","field"] [])
 (TM:MTxt K mg CM) (MM:Mk K CM fM) (GM:FnOk P w K mg base CX0 1 fM fdM ["self","game","helper"] (spMInit CM)) (bM:Binds K fdM ["self","game","helper"] []) (mS:Meth K CM "say" fS) (GS:FnOk P w K mg base CX0 28 fS fdS ["self","many","due","s","coins"] (spSay CM CG)) (bS:Binds K fdS ["self","many","due","s","coins"] [])
 (f9:Cal P w K mg base 12 "_law_holds" ["_law_tree_here","_law_on"] (spLH 10)):FnOk P w K mg base CX0 29 f fd ["_law_told","_law_one","_law_other"] spDue86:=by
 exists dJ
 erw[gh,a,b,hA,hB,v,ns,t,p,rA,rB,1,G,LA,LB,k,n6,nd,q]at h;have hr15:Room (14+1) _:=hr.mono ⋯;have hr2:Room (1+1) _:=hr.mono ⋯;have hr28:Room 28 _:=hr.mono ⋯;have s0:0<=sizeLine:=by decide
 have s2:2<=sizeLine:=by decide
 have s4:4<=sizeLine:=by decide
 have z2:∀{n:Nat},n<=10->n<sizeLine:=λh=>aM #[0]
 refine⟨_,PSW.out (aJ #[bm,3,dJ,%[|eP MG GI hr15 rfl TG.mgC bI .nil bh %[ay aF (pv 0) ac (λ_ _=>rfl),ay aF (pv 0) ac (λ_ _=>rfl),ay aF (pv 0) ac (λ_ _=>rfl)|aH]]]
  (aJ (bm (i:=4) dJ.nd rfl (Or.inr rfl) %[|ci %[eP MM GM hr2 rfl TM.mgC bM .nil bh %[3,1|aH],eP MM GM hr2 rfl TM.mgC bM .nil bh %[3,2|aH]|aH]])
  (aJ (bm (i:=5) dJ.nd rfl (Or.inr rfl) ⟨cJ (N:=[]) (ix:=[]) (cl:=[]) rfl (CompScope.closed (by rfl') ⋯ rfl ⋯ rfl (by rfl')) rfl
   (fw (pv 4)) (λ_ _ _=>cQ (ay (cO K) (bq (pv 0) TM.cl mS GS hr28 bS .nil bh %[ac,ac,ac,ci aH|aH]) ac (λ_ _=>rfl)))⟩)
  (aJ (iO (af aI (ay ix_list (pv 5) ac (λ_ _=>rfl)) (ay ix_list (pv 5) ac (λ_ _=>rfl)) (ai _)) (dh (gG %[|aG %[au,ay ix_list (pv 5) ac (λ_ _=>rfl)|aH]])) fL)
  (aJ (bm (i:=6) dJ.nd rfl (Or.inr rfl) %[|ci aH])
  (aJ ⟨cP PassesOwn.never rfl (bO rfl B.range %[aD aE rfl B.len PySem.boot_len %[ay aF (pv 0) ac (λ_ _=>rfl)|aH]|aH]) (bQ (i:=7) dJ.nd rfl (.inl rfl)) (PSW.out (iP (t':=tLp8 CG CM)
   (aJ (bm (i:=8) dJ.nd rfl (Or.inr rfl) ⟨cJ (N:=["_law_ways","_law_machines","_law_held"]) (ix:=[6,4,5]) rfl
    (CompScope.three (by rfl') ⋯ rfl ⋯ rfl ⋯ rfl (by rfl') (by rfl') (by rfl') (by rfl') (by rfl') rfl rfl (by rfl') rfl rfl (by rfl') rfl rfl) rfl
    (bO rfl B.range %[ac|aH]) (λ_ _ _=>cQ (bq (ay (cO K) (pv 2) (pv 0) (λ_ _=>rfl)) TM.cl mS GS hr28 bS .nil bh %[ac,ay (cO K) (pv 3) (pv 0) (λ_ _=>rfl),ac,be (pI K) rfl B.list iG %[1|aH]|aH]))⟩)
   (aJ ⟨mq (i:=9) (N:=["_law_told","_law_said","_law_held"]) (ix:=[0,8,5]) dJ.nd rfl (.inl rfl) rfl
    (CompScope.three (by rfl') ⋯ rfl ⋯ rfl ⋯ rfl (by rfl') (by rfl') (by rfl') (by rfl') (by rfl') rfl rfl (by rfl') rfl rfl (by rfl') rfl rfl) rfl
    (bO rfl B.range %[ac|aH]) (λ_ _ _=>cQ (cb ji (aj aO (aj aW (aj aQ (ay (cO K) (ay (cO K) (pv 2) (pv 0) (λ_ _=>rfl)) ac (λ_ _=>rfl)) (ay (cO K) (ay (cO K) (pv 2) (pv 0) (λ_ _=>rfl)) ac (λ_ _=>rfl))) (ay (cO K) (pv 3) (pv 0) (λ_ _=>rfl))) (ay (Cr K) (pv 1) ac (λ_ _=>rfl))) ac (ai _)))⟩
   (aJ (iO (af dB eV (pv 9) (by rfl')) (dh (gG %[|aG %[au,ay ix_list (pv 9) ac (λ_ _=>rfl),ay ix_list (pv 9) ac (λ_ _=>rfl),be bp rfl B.tuple bN %[6|aH]|aH]])) fL)
   (aJ %[|ba (dq PySem.F.plainAttrs_list PySem.F.slot_list_append PySem.F.type_list_append bU (pv 6) %[be lC rfl B.int hZ %[cb aI (ay ix_list (ay ix_list (pv 8) ac (λ_ _=>rfl)) ac (λ_ _=>rfl)) (ay ix_list (ay ix_list (pv 8) ac (λ_ _=>rfl)) ac (λ_ _=>rfl)) (ai _)|aH]|aH])]
   (dh (bm (i:=5) dJ.nd rfl (Or.inr rfl) ⟨cJ (N:=["_law_ways","_law_said"]) (ix:=[6,8]) rfl
    (CompScope.two (by rfl') ⋯ rfl ⋯ rfl ⋯ (Or.inr rfl) (by rfl') (by rfl') (by rfl') (by rfl') rfl rfl (by rfl') rfl rfl) rfl
    (bO rfl B.range %[ac|aH]) (λ_ _ _=>cQ (ay (cO K) (ay (cO K) (pv 2) (pv 0) (λ_ _=>rfl)) (ay (cO K) (pv 1) (wc qp ac) (λ_ _=>rfl)) (λ_ _=>rfl)))⟩)))))) ?cL))⟩
  (aJ #[bm,10,dJ,%[|be lC rfl B.int hZ %[ag f9 hr ⋯ rfl %[ay aF (ay aF (pv 0) ac (λ_ _=>rfl)) ac (λ_ _=>rfl),be (vH rfl) rfl B.dict vI %[uP rfl rfl B.list rfl B.zip %[ay aF (pv 0) ac (λ_ _=>rfl),6|aH]|aH]|aH]|aH]]]
  (dh (gG %[|aG %[au,cb ji (ay ix_list (pv 5) ac (λ_ _=>rfl)) (pv 10) (ai _),cb ji (ay ix_list (pv 5) ac (λ_ _=>rfl)) (pv 10) (ai _),be bp rfl B.tuple bN %[6|aH]|aH]]))))))))),?_⟩
 case cL=>
  rintro Dn σ H ⟨H0,y,W,D,ws,u1,u2,X1,X2,m,x1',x2',x3',x7',z8,z9,rfl,S,wl,qn,qr⟩;have w:=S.w;have p2:=w.k.p2;have n6:=w.n6;have mle:=S.ml;have okA:AkOk (y.G.z ((ws.length:Int)+1) 2 u1 ws):=yE w.k w.n6 wl S.wo S.r1.1 S.r1.2;have okB:AkOk (y.G.z ((ws.length:Int)+1) 2 u2 ws):=yE w.k w.n6 wl S.wo S.r2.1 S.r2.2;have soA:=cZ (rows:=y.rA) okA S.o1 (by show(0:Int)<=2;decide);have soB:=cZ (rows:=y.rB) okB S.o2 (by show(0:Int)<=2;decide);have two:∀l:List Int,(l.length:Int)=2->∃x0 x1,l=[x0,x1]:=λl h=>by
   have h2:l.length=2:=by omega
   match l,h2 with
   | [x0,x1],_=>erw[x0,x1,1]
  let%[x0,x1|ex]:=two _ soA.2.1;let%[y0,y1|ey]:=two _ soB.2.1;have st:=pQ (tru:=cp y.ns y.t) (k:=y.ns.length-(ws.length+1)) (G:=y.G) ex ey;have xr:∀x∈[x0,x1],0<=x/\x<y.p:=by rw[←ex];exact soA.1
  have yr:∀x∈[y0,y1],0<=x/\x<y.p:=by rw[←ey];exact soB.1
  have ob1:dN y.p (bxA (y.G.z ((ws.length:Int)+1) 2 u1 ws) y.rA X1):=soA.2.2;have ob2:dN y.p (bxA (y.G.z ((ws.length:Int)+1) 2 u2 ws) y.rB X2):=soB.2.2;obtain⟨Y1,eY1⟩:∃Y,bxA (y.G.z ((ws.length:Int)+1) 2 u1 ws) y.rA X1=Y:=%[|0]
  obtain⟨Y2,eY2⟩:∃Y,bxA (y.G.z ((ws.length:Int)+1) 2 u2 ws) y.rB X2=Y:=%[|0]
  rw[eY1]at st ob1;rw[eY2]at st ob2;erw[0,4,4,λDR hDR=>?_];have DRW:DR≠W:=(aN S.hW hDR).symm;refine cY (RwI CM H DR W y ((ws.length:Int)+1) [x0,x1] [y0,y1] X1 X2 Y1 Y2 m) %[aC|zC0 hDR _] ?_ ?_
  . intro i H8 hi h8;have hi':i<2:=hi;have i01:i=0∨i=1:=by omega
    rcases i01 with rfl | rfl
    . erw[hDR8,S8]at h8;have x8:=S.x.same S8;erw[0,0,y.L,_,_,.ref y.M1,1,1,zF0 (S8 _ _ w.hL),1,y.M1,y.d1,0,x8.e1,oy,6];erw[0,0,D,_,_,.int u1,1,1,zF0 (S8 _ _ S.hD),1,0,W,0,.inl (zF0 (S8 _ _ S.hW)),λc hc=>?_];have I9:=zC0 hc (.lst (ws.map V.int));have g9:upd H8 c (.lst (ws.map V.int)) c=some (.lst (ws.map V.int)):=aC;generalize upd H8 c (.lst (ws.map V.int))=H9 at I9 g9;have T9:=S8.trans I9;refine say1 (hv:=rfl) (z:=y.G.z ((ws.length:Int)+1) 2 u1 ws) (w.keep S.x (.of T9)) (x8.same I9) %[1,1|1] okA S.o1 #[0] g9 (by show(0:Int)<=2;decide) (by show(2:Int)<=500;decide) λl1 H10 l10 hl x10 bt=>?_
      rw[ex]at hl;rw[eY1]at x10;have hDR9:=I9 _ _ hDR8;have hDR10:=(x8.same I9).lst bt hDR9;have l1D:l1≠DR:=(aN hDR9 l10).symm;have l1W:l1≠W:=(aN (T9 _ _ S.hW) l10).symm;have U:SameBut DR H10 (upd H10 DR (.lst ([]++[.ref l1]))):=SameBut.upd _;erw[[],hDR10,z2 (by show 0<=10;decide),Nx.of hi ⟨l1,aC,⟨l1D,l1W⟩,U _ _ l1D hl,x10.upd hDR10 U,λa o n1 n2 n3 n4 e=>U _ _ (aN e hDR) (bt _ _ n1 n2 n3 n4 (T9 _ _ e))⟩]
    . erw[l1,hDR8,%[l1D|l1W],hl18,x8,B8]at h8;have w8:=w.keep S.x B8;erw[0,0,y.L,_,_,.ref y.M2,1,1,zF0 w8.hL,1,y.M2,y.d2,0,x8.e2,oy,6];have hW8:=S.x.lst B8 S.hW;erw[0,0,D,_,_,.int u2,1,1,zF0 (S.x.lst B8 S.hD),1,0,W,0,.inl (zF0 hW8),λc hc=>?_];have I9:=zC0 hc (.lst (ws.map V.int));have g9:upd H8 c (.lst (ws.map V.int)) c=some (.lst (ws.map V.int)):=aC;generalize upd H8 c (.lst (ws.map V.int))=H9 at I9 g9;refine say2 (hv:=rfl) (z:=y.G.z ((ws.length:Int)+1) 2 u2 ws) (w8.keep x8 (.of I9)) (x8.same I9) %[1,1|1] okB S.o2 #[0] g9 (by show(0:Int)<=2;decide) (by show(2:Int)<=500;decide) λl2 H10 l20 hl x10 bt=>?_
      rw[ey]at hl;rw[eY2]at x10;have hDR9:=I9 _ _ hDR8;have hDR10:=(x8.same I9).lst bt hDR9;have l2D:l2≠DR:=(aN hDR9 l20).symm;have l2W:l2≠W:=(aN (I9 _ _ hW8) l20).symm;have U:SameBut DR H10 (upd H10 DR (.lst ([.ref l1]++[.ref l2]))):=SameBut.upd _;erw[[.ref l1],hDR10,z2 (by show 1<=10;decide),Nx.of hi ⟨l1,l2,aC,⟨l1W,l2W⟩,U _ _ l1D ((x8.same I9).lst bt (I9 _ _ hl18)),U _ _ l2D hl,x10.upd hDR10 U,λa o n1 n2 n3 n4 e=>U _ _ (aN e hDR) (bt _ _ n1 n2 n3 n4 (I9 _ _ (B8 _ _ n1 n2 n3 n4 e)))⟩]
  rintro H2 ⟨l1,l2,hDR2,nl,hl12,hl22,x2,B2⟩;have w2:=w.keep S.x B2;have hD2:=S.x.lst B2 S.hD;have hW2:=S.x.lst B2 S.hW;erw[0,4,4,λDC hDC=>?_];obtain⟨f1,ef1⟩:∃f,(!decide ((x0+x1) % y.p=u1))=f:=%[|0]
  obtain⟨f2,ef2⟩:∃f,(!decide ((y0+y1) % y.p=u2))=f:=%[|0]
  refine cY (λi H'=>H' DC=some (.lst (([f1,f2].take i).map V.bl))/\Same H2 H') %[aC|zC0 hDC _] ?_ ?_
  . rintro i H8 hi ⟨hDC8,S8⟩;have hi':i<2:=hi;obtain⟨l,a0,a1,u,hat,hl8,hat2,ur,tk⟩:∃(l:Addr)(a0 a1 u:Int),atI [V.ref l1,.ref l2] (0+(i:Int))=some (.ref l)/\H8 l=some (.lst [.int a0,.int a1])/\atI [V.int u1,.int u2] (0+(i:Int))=some (.int u)/\(0<=u/\u<y.p)/\([f1,f2].take (i+1)).map V.bl=([f1,f2].take i).map V.bl++[.bl (!decide ((a0+a1) % y.p=u))]:=by
     have i01:i=0∨i=1:=by omega
     rcases i01 with rfl | rfl
     . erw[l1,x0,x1,u1,1,S8 _ _ hl12,1,S.r1,by rw[ef1];rfl]
     . erw[l2,y0,y1,u2,1,S8 _ _ hl22,1,S.r2,by rw[ef2];rfl]
    erw[0,0,DR,_,_,.ref l,1,1,zF0 (S8 _ _ hDR2),hat,l,_,(0),.int a0,1,1,zF0 hl8,1,0,0,DR,_,_,.ref l,1,1,zF0 (S8 _ _ hDR2),hat,l,_,(1),.int a1,1,1,zF0 hl8,1,2,6];erw[0,0,D,_,_,.int u,1,1,zF0 (S8 _ _ hD2),hat2,2,0,y.gh,_,(2),.int y.p,1,1,zD0 (S8 _ _ w2.gt.hg),1,2,(by show 0<y.p;omega),1,6];erw[_,hDC8,z2 (by rw[zH0,qH0];show min i 2<=10;omega),Nx.of hi ⟨?_,λa o e=>by rw[aq (aN e hDC)];exact S8 _ _ e⟩];rw[aC,tk,←Cz ur.1 ur.2]
  rintro H3 ⟨hDC3,S3⟩;have hDC3':H3 DC=some (.lst [.bl f1,.bl f2]):=hDC3;have hW3:=S3 _ _ hW2;have B3:Bt y H H3:=B2.trans (.of S3);erw[0,DC,0,.inl (zF0 hDC3'),1,1,0,6];have ein:inV (.bl true) [.bl f1,.bl f2]=(f1||f2):=Em _ _;have e1':f1=false↔(x0+x1) % y.p=u1:=by rw[←ef1];simp
  have e2':f2=false↔(y0+y1) % y.p=u2:=by rw[←ef2];simp
  rw[ef1,ef2]at st;refine hC (λhc=>?_) (λhc=>?_)
  . have hc':inV (.bl true) [.bl f1,.bl f2]=true:=hc;rw[ein]at hc';have nc:¬ ((x0+x1) % y.p=u1/\(y0+y1) % y.p=u2):=λh=>by
     rw[e1'.mpr h.1,e2'.mpr h.2]at hc';cases hc'
    rw[zB0 nc]at st;rw[st]at qr;erw[0,DC,_,(0),.bl f1,1,1,zF0 hDC3',1,0,DC,_,(1),.bl f2,1,1,zF0 hDC3',1,0,W,0,.inl %[zF0 hW3|λtw htw=>%[s4|λr hr=>?_]]];have It:=zC0 htw (.tup (ws.map V.int));have Ir:=zC0 hr (.tup [.str "caught",.bl f1,.bl f2,.ref tw]);exact qr r _ %[tw,aC|Ir _ _ aC] (S.bt.trans (B3.trans ((Bt.of It).trans (.of Ir))))
  . have hc':inV (.bl true) [.bl f1,.bl f2]=false:=Bool.eq_false_iff.mpr hc;rw[ein,Bool.or_eq_false_iff]at hc';rw[zE0 %[e1'.mp hc'.1|e2'.mp hc'.2]]at st;have hDR3:=S3 _ _ hDR2;have hl13:=S3 _ _ hl12;have hl23:=S3 _ _ hl22;erw[0,.inl %[1,_|zF0 hW3],0,DR,_,(0),.ref l1,1,1,zF0 hDR3,1,l1,_,(0),.int x0,1,1,zF0 hl13,1,0,DR,_,(1),.ref l2,1,1,zF0 hDR3,1,l2,_,(0),.int y0,1,1,zF0 hl23,1,1,.inr %[0|6]];obtain⟨wy,ewy,ewx,w01⟩:∃wy:Int,(if decide (V.int x0=V.int y0)=true then(1:Int)else 0)=wy/\(if x0=y0 then(1:Int)else 0)=wy/\(wy=0∨wy=1):=by
     by_cases c:x0=y0
     . erw[(1),by rw[c];simp,zE0 c,.inr rfl]
     . erw[(0),zB0 (λh=>c (V.int.inj (of_decide_eq_true h))),zB0 c,.inl rfl]
    rw[ewx]at st;rw[ewy];erw[W,2,hW3,z2 (by rw[zH0];omega),6];have hW4:upd H3 W (.lst (ws.map V.int++[.int wy])) W=some (.lst (ws.map V.int++[.int wy])):=aC;have U4:SameBut W H3 (upd H3 W (.lst (ws.map V.int++[.int wy]))):=SameBut.upd _;generalize upd H3 W (.lst (ws.map V.int++[.int wy]))=H4 at hW4 U4;have hDR4:=U4 _ _ DRW hDR3;have hl14:=U4 _ _ nl.1 hl13;have hl24:=U4 _ _ nl.2 hl23;have x4:=(x2.same S3).upd hW3 U4;have at1:∀(a b:Int),atI [V.int a,.int b] wy=some (.int (if wy=0 then a else b)):=λa b=>by rcases w01 with rfl | rfl <;> rfl
    obtain⟨v1,ev1⟩:∃v,(if wy=0 then x0 else x1)=v:=%[|0]
    obtain⟨v2,ev2⟩:∃v,(if wy=0 then y0 else y1)=v:=%[|0]
    erw[0,4,4,λD' hD'=>?_];refine cY (λi H'=>H' D'=some (.lst (([v1,v2].take i).map V.int))/\Same H4 H') %[aC|zC0 hD' _] ?_ ?_
    . rintro i H8 hi ⟨hD8,S8⟩;have hi':i<2:=hi;obtain⟨l,a0,a1,hat,hl8,tk⟩:∃(l:Addr)(a0 a1:Int),atI [V.ref l1,.ref l2] (0+(i:Int))=some (.ref l)/\H8 l=some (.lst [.int a0,.int a1])/\([v1,v2].take (i+1)).map V.int=([v1,v2].take i).map V.int++[.int (if wy=0 then a0 else a1)]:=by
       have i01:i=0∨i=1:=by omega
       rcases i01 with rfl | rfl
       . erw[l1,x0,x1,1,S8 _ _ hl14,by rw[ev1];rfl]
       . erw[l2,y0,y1,1,S8 _ _ hl24,by rw[ev2];rfl]
      erw[0,0,DR,_,_,.ref l,1,1,zF0 (S8 _ _ hDR4),hat,0,0,W,_,_,.int wy,1,1,zF0 (S8 _ _ hW4),oU _ _,l,_,_,.int (if wy=0 then a0 else a1),1,1,zF0 hl8,at1 _ _,6];erw[_,hD8,z2 (by rw[zH0,qH0];show min i 2<=10;omega),Nx.of hi ⟨?_,λa o e=>by rw[aq (aN e hD')];exact S8 _ _ e⟩];rw[aC,tk]
    rintro H5 ⟨hD5,S5⟩;have hD5':H5 D'=some (.lst [.int v1,.int v2]):=hD5;rw[ev1,ev2]at st;have B05:Bt y H0 H5:=λa o n1 n2 n3 n4 e=>S5 _ _ (U4 _ _ (aN e S.W0) (B3 _ _ n1 n2 n3 n4 (S.bt _ _ n1 n2 n3 n4 e)))
    refine qn D' wy v1 v2 Y1 Y2 (m+200) _ _ H5 %[S.k0 _ B05,6,6,hD5',λx hx=>?_,6,6,ob1,ob2,6,S.W0,B05|S.k0] st
    . have x5:=x4.same S5;rw[zJ0];exact x5
    . rw[S5 _ _ hW4,zO0];rfl
    . rcases qD0 hx with h | h
      . exact S.wo x h
      . rw[zM0 h];exact w01
    . rw[←ev1];exact xr _ (by split <;> simp)
    . rw[←ev2];exact yr _ (by split <;> simp)
    . rw [zJ0];show m+200<=200*(ws.length+1+1)
      omega
 have p2:=k.p2;have p9:=k.p9;erw[0,gh,_,(0),0,1,zD0 G.hg,1,0,gh,_,(1),0,1,zD0 G.hg,1,0,gh,_,(2),0,1,zD0 G.hg,1,λg dg hg0 hdg0 ng=>?_];have K1:Same H (upd (upd H dg (.own g)) g (.ins CG dg [])):=λa o e=>by
  rw[aq (aN e hg0),aq (aN e hdg0)];exact e
 erw[g,dg,a,b,ns,[v],[t],p,1,aC,K1 _ _ G.ha,nd,3,K1 _ _ G.hb,G.tr.mono (aV K1),k.t1,k.t10,k.tok,k.pr,p2,p9,k.tp,k.tc,λgd H2 gd0 GA hgd S2=>%[1|6]];have T2:Same H H2:=Same.but K1 hg0 S2;have GM2:Gm CG H2 g ns [t] p:=⟨a,b,gd,[v],GA,T2 _ _ G.ha,T2 _ _ G.hb,G.tr.mono (aV T2),hgd⟩
 let%[_,_,_,_,%[dx|gI]|_]:=id GM2;clear K1 S2;erw[0,0,λM1 d1 hM10 hd10 nM1=>?_];have K3:Same H2 (upd (upd H2 d1 (.own M1)) M1 (.ins CM d1 [])):=λa o e=>by
  rw[aq (aN e hM10),aq (aN e hd10)];exact e
 have g3:upd (upd H2 d1 (.own M1)) M1 (.ins CM d1 []) M1=some (.ins CM d1 []):=aC;generalize upd (upd H2 d1 (.own M1)) M1 (.ins CM d1 [])=H3 at K3 g3;erw[M1,g,hA,d1,1,g3,λb1 H4 b10 hM4 hb4 S4=>%[1|6]];have T4:Same H2 H4:=Same.but K3 hM10 S4;erw[0,0,λM2 d2 hM20 hd20 nM2=>?_];have K5:Same H4 (upd (upd H4 d2 (.own M2)) M2 (.ins CM d2 [])):=λa o e=>by
  rw[aq (aN e hM20),aq (aN e hd20)];exact e
 have g5:upd (upd H4 d2 (.own M2)) M2 (.ins CM d2 []) M2=some (.ins CM d2 []):=aC;generalize upd (upd H4 d2 (.own M2)) M2 (.ins CM d2 [])=H5 at K5 g5;erw[M2,g,hB,d2,1,g5,λb2 H6 b20 hM6 hb6 S6=>%[1,s2|λL hL=>?_]];have T6:Same H4 H6:=Same.but K5 hM20 S6;have I7:=zC0 hL (.lst [.ref M1,.ref M2]);have g7:upd H6 L (.lst [.ref M1,.ref M2]) L=some (.lst [.ref M1,.ref M2]):=aC;generalize upd H6 L (.lst [.ref M1,.ref M2])=H7 at I7 g7;have T27:=T4.trans (T6.trans I7);have T7:=T2.trans T27;obtain⟨y,ey⟩:∃y:Wr,y=⟨gh,a,b,g,L,M1,d1,M2,d2,b1,b2,hA,hB,v,ns,t,p,rA,rB⟩:=%[|0]
 have x7:McAt CM H7 y 0 0 (λ_=>0) (λ_=>0) 0 0:=by
  subst ey;erw[I7 _ _ (T6 _ _ hM4),I7 _ _ hM6,%[[],I7 _ _ (T6 _ _ hb4),zG0 _|λx=>rfl],%[[],I7 _ _ hb6,zG0 _|λx=>rfl]]
 have w7:WrAt CG CM H7 y:=by
  subst ey;erw[G.mono (aV T7),GM2.same T27,g7,LA.mono (aV T7),LB.mono (aV T7),k,n6,nd,aN hM4 hM20,aN (K5 _ _ hb4) b20,aN gI hM10,aN (T4 _ _ gI) hM20]
 have k0:∀H',Bt y H7 H'->WrAt CG CM H' y:=λH' s=>w7.keep x7 s
 have kp:∀H',Bt y H7 H'->Same H H':=λH' s c o e=>s _ _ (by rw[ey];exact aN (T2 _ _ e) hM10) (by rw[ey];exact aN (T4 _ _ (T2 _ _ e)) hM20) (by rw[ey];exact aN (K3 _ _ (T2 _ _ e)) b10) (by rw[ey];exact aN (K5 _ _ (T4 _ _ (T2 _ _ e))) b20) (T7 _ _ e)
 clear K3 K5 S4 S6 g3 g5;obtain⟨z0,ez⟩:∃z:Ak,z=(⟨ns,[t],p⟩:Gv).z 0 1 0 []:=%[|0]
 have zok:AkOk z0:=by
  subst ez;erw[k,n6,Int.le_refl 0,(λh=>absurd h (by show ¬ (0:Int)<0;decide)),(λx hx=>by cases hx),Int.le_refl 0,(by show(0:Int)<p;omega),Int.le_refl 0,(by show(0:Int)<p;omega),by show 0<=100;decide]
 have bz:dN z0.p (λ_=>0):=by
  subst ez;exact λx=>%[Int.le_refl 0|by show(0:Int)<p;omega]
 have m1:z0.mn=1:=by rw[ez]
 have soA:=cZ (rows:=rA) zok bz (by rw[m1];decide);have soB:=cZ (rows:=rB) zok bz (by rw[m1];decide);have one:∀l:List Int,(l.length:Int)=z0.mn->∃v,l=[v]:=λl h=>by
  rw[m1]at h;have h2:l.length=1:=by omega
  match l,h2 with
  | [v],_=>erw[v,1]
 let%[v1|ev1]:=one _ soA.2.1;let%[v2|ev2]:=one _ soB.2.1;have v1r:0<=v1/\v1<p:=by
  have:=soA.1 v1 (by rw[ev1];exact List.mem_singleton.mpr rfl)
  rw[ez]at this;exact this
 have v2r:0<=v2/\v2<p:=by
  have:=soB.1 v2 (by rw[ev2];exact List.mem_singleton.mpr rfl)
  rw[ez]at this;exact this
 have eA:hd0 %[ns,[t]|p] rA=v1:=by
  unfold hd0;rw[←ez,ev1];rfl
 have eB:hd0 %[ns,[t]|p] rB=v2:=by
  unfold hd0;rw[←ez,ev2];rfl
 obtain⟨Y1,eY1⟩:∃Y,bxA z0 rA (λ_=>0)=Y:=%[|0]
 obtain⟨Y2,eY2⟩:∃Y,bxA z0 rB (λ_=>0)=Y:=%[|0]
 have ob1:dN p Y1:=by have:=soA.2.2;rw[eY1,ez]at this;exact this
 have ob2:dN p Y2:=by have:=soB.2.2;rw[eY2,ez]at this;exact this
 erw[0,L,1,%[_|zF0 g7],λD hD=>?_];refine jE (K:=K) (xs:=[.ref M1,.ref M2]) (λi H'=>HdI CM H7 D y v1 v2 Y1 Y2 i H'/\H' L=some (.lst [.ref M1,.ref M2])) %[%[aC|zC0 hD _]|zC0 hD _ _ _ g7] (λi H' _ h=>zF0 h.2) ?_ ?_
 . rintro i z H8 hz ⟨h8,hL8⟩;have hi:i<2:=(zX0 hz).1;have i01:i=0∨i=1:=by omega
   rcases i01 with rfl | rfl
   . cases hz;erw[hD8,S8]at h8;have x8:=x7.same S8;erw[0,M1,d1,0,(by have:=x8.e1;rw[ey]at this;exact this),oy,s0,λc hc=>?_];have I9:=zC0 hc (.lst []);have c9:upd H8 c (.lst []) c=some (.lst (([]:List Int).map V.int)):=aC;generalize upd H8 c (.lst [])=H9 at I9 c9;have T9:=S8.trans I9;refine say1 (z:=z0) (hv:=by rw[ez,ey];rfl) (k0 _ (.of T9)) (by rw[ez];exact x8.same I9) (by rw[ez,ey];erw[1,1,1]) zok bz ⋯ (by rw[ez];exact c9) (by rw[m1];decide) (by rw[m1];decide) λl H10 l0 hl x10 bt=>?_
     have hl':H10 l=some (.lst ((cH z0 rA (λ_=>0)).map V.int)):=by rw[ey]at hl;exact hl
     rw [ev1]at hl';have x10':McAt CM H10 y 1 0 Y1 (λ_=>0) 200 0:=by
      have h:=x10;rw[show y.rA=rA by rw[ey],eY1,show z0.nr=0 by rw[ez]]at h;exact h
     have hD10:=(x8.same I9).lst bt (I9 _ _ hD8);have hL10:=(x8.same I9).lst bt (I9 _ _ hL8);have U:SameBut D H10 (upd H10 D (.lst ([]++[.int v1]))):=SameBut.upd _;have LD:L≠D:=aN g7 hD;erw[l,_,(0),.int v1,1,1,zF0 hl',1,[],hD10,z2 (by show 0<=10;decide),Nx.of hi ⟨⟨aC,x10'.upd hD10 U,λc o n1 n2 n3 n4 e=>U _ _ (aN e hD) (bt _ _ n1 n2 n3 n4 (T9 _ _ e))⟩,U _ _ LD hL10⟩]
   . cases hz;erw[hD8,x8,B8]at h8;erw[0,M2,d2,0,(by have:=x8.e2;rw[ey]at this;exact this),oy,s0,λc hc=>?_];have I9:=zC0 hc (.lst []);have c9:upd H8 c (.lst []) c=some (.lst (([]:List Int).map V.int)):=aC;generalize upd H8 c (.lst [])=H9 at I9 c9;refine say2 (z:=z0) (hv:=by rw[ez,ey];rfl) (k0 _ (B8.trans (.of I9))) (by rw[ez];exact x8.same I9) (by rw[ez,ey];erw[1,1,1]) zok bz ⋯ (by rw[ez];exact c9) (by rw[m1];decide) (by rw[m1];decide) λl H10 l0 hl x10 bt=>?_
     have hl':H10 l=some (.lst ((cH z0 rB (λ_=>0)).map V.int)):=by rw[ey]at hl;exact hl
     rw [ev2]at hl';have x10':McAt CM H10 y 1 1 Y1 Y2 200 200:=by
      have h:=x10;rw[show y.rB=rB by rw[ey],eY2,show z0.nr=0 by rw[ez]]at h;exact h
     have hD10:=(x8.same I9).lst bt (I9 _ _ hD8);have hL10:=(x8.same I9).lst bt (I9 _ _ hL8);have U:SameBut D H10 (upd H10 D (.lst ([.int v1]++[.int v2]))):=SameBut.upd _;have LD:L≠D:=aN g7 hD;erw[l,_,(0),.int v2,1,1,zF0 hl',1,[.int v1],hD10,z2 (by show 1<=10;decide),Nx.of hi ⟨⟨aC,x10'.upd hD10 U,λc o n1 n2 n3 n4 e=>U _ _ (aN e hD) (bt _ _ n1 n2 n3 n4 (I9 _ _ (B8 _ _ n1 n2 n3 n4 e)))⟩,U _ _ LD hL10⟩]
 rintro H8 ⟨⟨hD8,x8,B8⟩,hL8⟩;have T8:=kp _ B8;erw[0,D,_,(0),.int v1,1,1,zF0 hD8,1,0,D,_,(1),.int v2,1,1,zF0 hD8,1,1,0,6]
 by_cases c:v1=v2
 . refine aR (congrArg V.int c) ?_;erw[0,D,_,(0),.int v1,1,1,zF0 hD8,1,s2,λr hr=>?_];refine q r _ ?_ (T8.trans (zC0 hr _));unfold gA;rw[zE0 (by rw[eA,eB];exact c),eA];exact aC
 refine ax (λz=>c (V.int.inj z)) ?_;have e0:fk %[ns,[t]|p] rA rB (cp ns t) ns.length [] Y1 v1 Y2 v2=gA ⟨ns,[t],p⟩ rA rB (cp ns t):=by
  unfold gA;rw[zB0 (by rw[eA,eB];exact c),eA,eB,←ez,eY1,eY2]
 erw[s0,λW hW0=>?_];have I9:=zC0 hW0 (.lst []);have hW9:upd H8 W (.lst []) W=some (.lst (([]:List Int).map V.int)):=aC;show rR _ _ _ _ (upd H8 W (.lst []));generalize upd H8 W (.lst [])=H9 at I9 hW9;have W0:H7 W=none:=by
  let%[q1,f1|_]:=id x8.h1;let%[q2,f2|_]:=id x8.h2;cases e:H7 W with
  | none=>rfl
  | some o=>
    have:=B8 W o (aN x8.e1 hW0).symm (aN x8.e2 hW0).symm (aN f1 hW0).symm (aN f2 hW0).symm e
    rw[hW0]at this;cases this
 have B9:Bt y H7 H9:=B8.trans (.of I9);have S0:St8 CG CM H7 H9 y W D [] v1 v2 Y1 Y2 200:=%[k0 _ B9,x8.same I9,hW9,I9 _ _ hD8,(λx hx=>by cases hx),(by rw[ey];exact v1r),(by rw[ey];exact v2r),(by rw[ey];exact ob1),(by rw[ey];exact ob2),(by show 200<=200*(0+1);decide),W0,B9|k0]
 have T9:=kp _ B9;have G9:=G.mono (aV T9);have el:(ns.map V.str).length=ns.length:=zH0 _;erw[0,gh,_,(0),.ref a,1,1,zD0 G9.hg,1,a,0,.inr (zD0 G9.ha),0,3,3,6];refine eK (λi σ H'=>∃(D:Addr)(ws:List Int)(u1 u2:Int)(X1 X2:Str->Int)(m:Nat)(z7 z8 z9:Option V),σ=[some (.ref gh),some (.ref hA),some (.ref hB),some (.ref g),some (.ref L),some (.ref D),some (.ref W),z7,z8,z9,none]/\ws.length=i/\St8 CG CM H7 H' y W D ws u1 u2 X1 X2 m/\fk %[ns,[t]|p] rA rB (cp ns t) (ns.length-i) ws X1 u1 X2 u2=gA ⟨ns,[t],p⟩ rA rB (cp ns t))
  %[D,[],v1,v2,Y1,Y2,(200),_,2,S0|e0] ?_ ?_
 . rintro i σ H' hi ⟨D,ws,u1,u2,X1,X2,m,z7,z8,z9,rfl,wl,S,er⟩;rw[el]at hi;have hi':i<ns.length:=by omega
   have ek:ns.length-i=ns.length-(ws.length+1)+1:=by omega
   rw[ek]at er;erw[H7,y,W,D,ws,u1,u2,X1,X2,m,_,_,_,_,z8,z9,(by rw[ey];rfl),S,(by rw[ey];show ws.length<ns.length;omega),6,6]
   . intro D' wy u1' u2' Y1' Y2' m' z8' z9' H'' S'' eq;have eq':fk %[ns,[t]|p] rA rB (cp ns t) (ns.length-(ws.length+1)+1) ws X1 u1 X2 u2=fk ⟨ns,[t],p⟩ rA rB (cp ns t) (ns.length-(ws.length+1)) (ws++[wy]) Y1' u1' Y2' u2':=by rw[ey]at eq;exact eq
     erw[D',ws++[wy],u1',u2',Y1',Y2',m',_,_,_,(by rw[ey]),by rw[zJ0,wl];rfl,S'',6];rw[show ns.length-(i+1)=ns.length-(ws.length+1) by omega,←er];exact eq'.symm
   . intro r H'' oc bt;have oc':OcAt H'' r (fk %[ns,[t]|p] rA rB (cp ns t) (ns.length-(ws.length+1)+1) ws X1 u1 X2 u2):=by rw[ey]at oc;exact oc
     rw[er]at oc';exact q r H'' oc' (kp H'' bt)
 . rintro σ H' ⟨D,ws,u1,u2,X1,X2,m,z7,z8,z9,rfl,wl,S,er⟩;have wl':ws.length=ns.length:=by
    rw[el]at wl;omega
   rw[←wl,wl',Nat.sub_self]at er;have er':Oc.cau (!decide (u1=cp ns t ws)) (!decide (u2=cp ns t ws)) ws=gA %[ns,[t]|p] rA rB (cp ns t):=er;have T':=kp _ S.bt;have G':=G.mono (aV T');have hW':=S.hW;have tk:=k.tok t zY0;erw[0,gh,_,(1),.ref b,1,1,zD0 G'.hg,1,b,_,(0),v,1,1,zD0 G'.hb,1,0,gh,_,(0),.ref a,1,1,zD0 G'.hg,1,0,a,W,false,true,_,0,zD0 G'.ha,zF0 hW',by rw[zH0,zH0,wl'],bK (by rw[zH0];omega),λL2 cs H1 L20 hL2 cl PA _ S1=>?_];have nl:=Ce (ns:=ns) (pt:=ws) wl';erw[L2,_,ndL ns ws,1,zF0 hL2,bK (by rw[nl];omega),by rw[zH0,cl,zH0,nl],λj kv hj=>?_,λd hd=>?_]
   . have jl:j<ns.length:=by
      have:=(zX0 hj).1
      rw[nl]at this;exact this
     have h1:ns[j]?=some ns[j]:=zN0 jl;have h2:ws[j]?=some (ws[j]'#[0]):=zN0 _;have jc:j<cs.length:=by rw[cl,zH0];exact jl
     have h3:cs[j]?=some cs[j]:=zN0 jc;rw[Ap h1 h2]at hj;cases hj;erw[cs[j],by rw[qE0,h3];rfl,zD0 (PA j _ _ _ h3 (by rw[qE0,h1];rfl) (by rw[qE0,h2];rfl))]
   have Id:=zC0 hd (.dK (dY [] (ndL ns ws)));have Nd:NdAt (upd H1 d (.dK (dY [] (ndL ns ws)))) d ns ws:=%[_,aC|DX nd wl']
   generalize upd H1 d (.dK (dY [] (ndL ns ws)))=H2 at Id Nd;have T2':=S1.trans Id;have TR:TreeAt H2 v t:=by
    let%[u,hu|Tu]:=(G'.mono (aV T2')).tr.get (i:=0) (v:=v) rfl;cases hu;exact Tu
   erw[v,t,d,ns,ws,1,TR,tk.1,tk.2.2.1,Nd,λH3 S3=>.inr %[0|6]];have T3':=T2'.trans S3;have hD3:=T3' _ _ S.hD;have hW3:=T3' _ _ hW';show rR _ _ _ _ H3;erw[0,D,_,(0),.int u1,1,1,zF0 hD3,1,0,1,0,D,_,(1),.int u2,1,1,zF0 hD3,1,0,1,0,W,0,.inl %[zF0 hW3|λtw htw=>%[s4|λr hr=>?_]]];have dd:∀u:Int,decide (V.int u=V.int (cp ns t ws))=decide (u=cp ns t ws):=λu=>by
    by_cases c:u=cp ns t ws
    . rw[decide_eq_true c,decide_eq_true (congrArg V.int c)]
    . rw[decide_eq_false c,decide_eq_false (λz=>c (V.int.inj z))]
   have Ir:=zC0 hr (.tup [.str "caught",.bl (!decide (V.int u1=V.int (cp ns t ws))),.bl (!decide (V.int u2=V.int (cp ns t ws))),.ref tw]);refine q r _ ?_ (T'.trans (T3'.trans ((zC0 htw _).trans Ir)));rw[←er',←dd,←dd];erw[tw,aC,Ir _ _ aC]
end
section
variable {CM CA CG CS:Addr}
theorem OcAt.same(s:Same H H'):∀{o:Oc},OcAt H a o->OcAt H' a o
 | .agr _,h=>s _ _ h
 | .cau _ _ _,⟨t,h,h2⟩=>%[t,s _ _ h|s _ _ h2]
structure L6At(H:Hp)(gh a b h1 h2:Addr)(v:V)(ns:List Str)(t:Tr)(p:Int)(r1 r2:List Hr):Prop where
 G:GmT H gh a b ns [v] [t] p
 k:GmK ns [t] p
 n6:ns.length<=6
 nd:ns.Nodup
 l1:HlpAt H h1 r1
 l2:HlpAt H h2 r2
theorem L6At.same(x:L6At H gh a b h1 h2 v ns t p r1 r2)(s:Same H H'):L6At H' gh a b h1 h2 v ns t p r1 r2:=%[x.G.mono (aV s),x.k,x.n6,x.nd,x.l1.mono (aV s)|x.l2.mono (aV s)]
inductive tA86(K:W.Frag)(Dn:Ends)(σ:St)(H:Hp):Prop
 |mk:∀(a0 gh a b:Addr)(v:V)(ns0:List Int)(ns:List Str)(t:Tr)(p:Int)(z1 z2 z3:Option V),σ=[some (.ref a0),z1,z2,z3,some (.ref gh),none,none,none,none,none,none,none,none]->SqL K H a0 (ns0.map V.int)->ns0.length<=63->GmT H gh a b ns [v] [t] p->GmK ns [t] p->ns.length<=6->ns.Nodup->(∀H',Dn.rt (.bl true) H')->tA86 K Dn σ H
inductive tB86(Dn:Ends)(σ:St)(H:Hp):Prop
 |mk:∀(gh a b h1 h2:Addr)(v:V)(ns:List Str)(t:Tr)(p f:Int)(r1 r2:List Hr)(z0 z1 z2 z3 z5:Option V),σ=[z0,z1,z2,z3,some (.ref gh),z5,some (.ref h1),some (.ref h2),some (.int f),none,none,none,none]->L6At H gh a b h1 h2 v ns t p r1 r2->(∀H',Dn.rt (.bl true) H')->tB86 Dn σ H
inductive tC86(Dn:Ends)(σ:St)(H:Hp):Prop
 |mk:∀(gh a b h1 h2:Addr)(v:V)(ns:List Str)(t:Tr)(p f:Int)(r1 r2:List Hr)(z0 z1 z2 z3 z5:Option V),σ=[z0,z1,z2,z3,some (.ref gh),z5,some (.ref h1),some (.ref h2),some (.int f),none,none,none,none]->L6At H gh a b h1 h2 v ns t p r1 r2->(f<4->r1=eJ)->(∀H',Dn.rt (.bl true) H')->tC86 Dn σ H
theorem cF:FnScope ["_law_script","_law_feed_here","_law_names_here","_law_tree_here","_law_told","_law_boxes","_law_one","_law_other","_law_form","_law_game","_law_due_here","_law_found","_law_third"] ["_law_script"] (ak kj):=%[1,1,1,4,1,4|4]
theorem DT   (F:Fun K "law" "law" kj f fd) (B:Bl mg) (TG:GTxt K mg CG) (MG:Mk K CG fI) (GI:FnOk P w K mg base CX0 14 fI fdI ["self","switches","trees","field"] (spGInit CG)) (bI:Binds K fdI ["self","switches","trees","field"] [])
 (TM:MTxt K mg CM) (MM:Mk K CM fM) (GM:FnOk P w K mg base CX0 1 fM fdM ["self","game","helper"] (spMInit CM)) (bM:Binds K fdM ["self","game","helper"] []) (mS:Meth K CM "say" fS) (GS:FnOk P w K mg base CX0 28 fS fdS ["self","many","due","s","coins"] (spSay CM CG)) (bS:Binds K fdS ["self","many","due","s","coins"] [])
 (eU:Cal P w K mg base 1 "_law_feed" ["_law_script","_law_k"] (spFeed K)) (aS:Cal P w K mg base 1 "_law_take" ["_law_feed_here","_law_many"] spTake) (ia:Cal P w K mg base 2 "_law_names" ["_law_feed_here","_law_many"] spNamesN) (eN:Cal P w K mg base 12 "_law_tree" ["_law_feed_here","_law_names_here","_law_room","_law_deep"] (spTree 10)) (t7:Cal P w K mg base 13 "_law_need" ["_law_names_here","_law_trees"] spNeed) (mo:Cal P w K mg base 2 "_law_field" ["_law_feed_here","_law_need_here"] spFieldL)
 (dU:Cal P w K mg base 23 "_law_some_helper" ["_law_feed_here","_law_boxes"] spMat) (fN:Cal P w K mg base 22 "honest" [] spHonest) (dR:Cal P w K mg base 22 "best_liar" ["claims"] spBest) (my:Cal P w K mg base 1 "_law_right" ["_law_found","_law_due_here"] spRt86) (o4:Cal P w K mg base 29 "_law_due" ["_law_told","_law_one","_law_other"] spDue86)
 (dP:Cal P w K mg base 31 "settled" ["game","one","other"] (spSettled CG)):FnOk P w K mg base CX0 32 f fd ["_law_script"] (spLaw K):=by
 exists cF
 erw[a0,ns0,1,hS,h63,q]at h;have hr15:Room (14+1) _:=hr.mono ⋯;have hr2:Room (1+1) _:=hr.mono ⋯;have hr28:Room 28 _:=hr.mono ⋯;have s0:0<=sizeLine:=by decide
 have s1:1<=sizeLine:=by decide
 have s2:2<=sizeLine:=by decide
 have s4:4<=sizeLine:=by decide
 refine⟨_,PSW.out (aJ #[bm,1,cF,%[|ag eU hr ⋯ rfl %[0,ac|aH]]]
  (aJ #[bm,2,cF,%[|ag ia hr ⋯ rfl %[1,ag aS hr ⋯ rfl %[1,ac|aH]|aH]]]
  (aJ #[bm,3,cF,%[|ag eN hr ⋯ rfl %[1,2,aj aQ ac (ag aS hr ⋯ rfl %[1,ay ix_list (ci %[ac,ac|aH]) (be lC rfl B.int hZ %[cb aI (ag aS hr ⋯ rfl %[1,ac|aH]) ac (ai _)|aH]) (λ_ _=>rfl)|aH]),ac|aH]]]
  (aJ #[bm,4,cF,%[|aG %[be bp rfl B.tuple bN %[2|aH],aG %[3|aH],ag mo hr ⋯ rfl %[1,ag t7 hr ⋯ rfl %[2,ci %[3|aH]|aH]|aH]|aH]]]
  (iP (t':=tA86 K) (aJ #[bm,5,cF,%[|ag ia hr ⋯ rfl %[ag eU hr ⋯ rfl %[0,ac|aH],ac|aH]]]
  (aJ #[bm,6,cF,%[|ag dU hr ⋯ rfl %[ag eU hr ⋯ rfl %[0,ac|aH],5|aH]]]
  (aJ #[bm,7,cF,%[|ag dU hr ⋯ rfl %[ag eU hr ⋯ rfl %[0,ac|aH],5|aH]]]
  (aJ #[bm,8,cF,%[|ag aS hr ⋯ rfl %[ag eU hr ⋯ rfl %[0,ac|aH],ac|aH]]]
  (iP (t':=tB86) (aJ (iO (af cN (pv 8) ac (ai _)) (dh #[bm,6,cF,%[|wj fN hr ⋯ rfl]]) fL)
  (iP (t':=tC86) (aJ (iO (af aI (pv 8) ac (ai _)) (dh #[bm,7,cF,%[|pv 6]]) fL)
  (iP (t':=tC86) (aJ #[bm,9,cF,%[|eP MG GI hr15 rfl TG.mgC bI .nil bh %[ay aF (pv 4) ac (λ_ _=>rfl),ay aF (pv 4) ac (λ_ _=>rfl),ay aF (pv 4) ac (λ_ _=>rfl)|aH]]]
  (aJ #[bm,10,cF,%[|ag o4 hr ⋯ rfl %[4,6,7|aH]]]
  (aJ #[bm,11,cF,%[|ag dP hr ⋯ rfl %[9,6,7|aH]]]
  (aJ (iO (PW.pt (eD (gN (dj (ag my hr ⋯ rfl %[11,10|aH]))) (dA (af (qU hr.units) (ag dP hr ⋯ rfl %[9,6,7|aH]) (pv 10) (ai _))))) (dh (gG ⟨eV⟩)) fL)
  (aJ #[bm,12,cF,%[|ag dR hr ⋯ rfl %[ci %[ay ix_list (bq (eP MM GM hr2 rfl TM.mgC bM .nil bh %[9,6|aH]) TM.cl mS GS hr28 bS .nil bh %[ac,ac,ac,ci aH|aH]) ac (λ_ _=>rfl)|aH]|aH]]]
  (aJ (iO (PW.pt (eD (af (qU hr.units) (ag dP hr ⋯ rfl %[9,12,7|aH]) (ag o4 hr ⋯ rfl %[4,12,7|aH]) (ai _)) (dA (af (qU hr.units) (ag dP hr ⋯ rfl %[9,6,7|aH]) (pv 10) (ai _))))) (dh (gG ⟨eV⟩)) fL)
  (aJ (iO (af aI (ay aF (pv 10) ac (λ_ _=>rfl)) au (ai _)) (dh (gG %[|cb (zZ hr.units) (ag dP hr ⋯ rfl %[9,7,6|aH]) (pv 10) (ai _)])) fL)
  (aJ (iO (PW.pt (lm (af cN (pv 8) ac (ai _)) (kt (dj (ay aF (pv 10) ac (λ_ _=>rfl)))))) (dh (gG %[|eV])) fL)
  (dh (gG %[|cb (zZ hr.units) (ag dP hr ⋯ rfl %[9,7,6|aH]) (aG %[ay aF (pv 10) ac (λ_ _=>rfl),ay aF (pv 10) ac (λ_ _=>rfl),ay aF (pv 10) ac (λ_ _=>rfl),ay aF (pv 10) ac (λ_ _=>rfl)|aH]) (ai _)])))))))))) ?cD)) ?cC)) ?cB))))) ?cA))))),?_⟩
 case cC=>
  rintro Dn σ H ⟨gh,a,b,h1,h2,v,ns,t,p,f,r1,r2,z0,z1,z2,z3,z5,rfl,Y,hf,q⟩;erw[0,1,0,6];refine hC (λ_=>?_) (λ_=>?_)
  . erw[0,gh,a,b,h1,h1,v,ns,t,p,f,r1,r1,_,_,_,_,0,%[Y.G,Y.k,Y.n6,Y.nd,Y.l1|Y.l1],hf,q]
  . erw[gh,a,b,h1,h2,v,ns,t,p,f,r1,r2,_,_,_,_,0,Y,hf,q]
 case cB=>
  rintro Dn σ H ⟨gh,a,b,h1,h2,v,ns,t,p,f,r1,r2,z0,z1,z2,z3,z5,rfl,Y,q⟩;erw[0,2,0,6];refine hC (λ_=>?_) (λc=>?_)
  . erw[1,λh1' H1 L1 S1=>?_];have Y1:=Y.same S1;erw[gh,a,b,h1',h2,v,ns,t,p,f,eJ,r2,_,_,_,_,0,%[Y1.G,Y.k,Y.n6,Y.nd,L1|Y1.l2],λ_=>rfl,q]
  . have c4:¬ f<4:=of_decide_eq_false (Bool.eq_false_iff.mpr c);erw[gh,a,b,h1,h2,v,ns,t,p,f,r1,r2,_,_,_,_,0,Y,λz=>absurd z c4,q]
 case cA=>
  rintro Dn σ H ⟨a0,gh,a,b,v,ns0,ns,t,p,z1,z2,z3,rfl,hS,h63,G,k,n6,nd,q⟩;erw[0,a0,ns0,(3),1,hS,h63,4,4,λf3 H1 f30 S1 F1=>?_];erw[f3,(3),1,F1,4,4,λN xs H2 N0 nf hN xlen xok xnd F2 S2=>?_];have T2:Same H H2:=Same.but S1 f30 S2;have xl:xs.length=3:=xlen;erw[0,a0,ns0,(2),1,T2.seq hS,h63,4,4,λf2 H3 f20 S3 F3=>?_];erw[0,f2,N,xs,1,F3,S3 _ _ hN,aN hN f20,xl,λh1 r1 H4 L1 B4=>?_];have T24:Same H2 H4:=Same.but S3 f20 B4;have T4:=T2.trans T24;have hN4:=T24 _ _ hN;erw[0,a0,ns0,(4),1,T4.seq hS,h63,4,4,λf4 H5 f40 S5 F5=>?_];erw[0,f4,N,xs,1,F5,S5 _ _ hN4,aN hN4 f40,xl,λh2 r2 H6 L2 B6=>?_];have T46:Same H4 H6:=Same.but S5 f40 B6;have T6:=T4.trans T46;erw[0,a0,ns0,(5),1,T6.seq hS,h63,4,4,λf5 H7 f50 S7 F7=>?_];erw[f5,(8),1,F7,4,4,λfm H8 _ _ F8 B8=>?_];have T68:Same H6 H8:=Same.but S7 f50 B8;erw[gh,a,b,h1,h2,v,ns,t,p,fm,r1,r2,_,_,_,_,0,%[G.mono (aV (T6.trans T68)),k,n6,nd,L1.mono (aV (T46.trans T68))|L2.mono (aV T68)],q]
 case cD=>
  rintro Dn σ H ⟨gh,a,b,h1,h2,v,ns,t,p,f,r1,r2,z0,z1,z2,z3,z5,rfl,Y,hf,q⟩;have k:=Y.k;have p2:=k.p2;have p9:=k.p9;have n6:=Y.n6;have G:=Y.G;erw[0,gh,_,(0),0,1,zD0 G.hg,1,0,gh,_,(1),0,1,zD0 G.hg,1,0,gh,_,(2),0,1,zD0 G.hg,1,λg dg hg0 hdg0 ng=>?_];have K1:Same H (upd (upd H dg (.own g)) g (.ins CG dg [])):=λa o e=>by
   rw[aq (aN e hg0),aq (aN e hdg0)];exact e
  erw[g,dg,a,b,ns,[v],[t],p,1,aC,K1 _ _ G.ha,Y.nd,3,K1 _ _ G.hb,G.tr.mono (aV K1),k.t1,k.t10,k.tok,k.pr,p2,p9,k.tp,k.tc,λgd H2 gd0 GA hgd S2=>%[1|6]];have T2:Same H H2:=Same.but K1 hg0 S2;have GM:Gm CG H2 g ns [t] p:=⟨a,b,gd,[v],GA,T2 _ _ G.ha,T2 _ _ G.hb,G.tr.mono (aV T2),hgd⟩
  have Y2:=Y.same T2;clear K1 S2 GA;erw[0,0,0,gh,a,b,h1,h2,v,ns,t,p,r1,r2,1,Y2.G,Y2.l1,Y2.l2,k,n6,Y.nd,λd H3 O3 S3=>?_];have Y3:=Y2.same S3;erw[0,0,0,g,h1,h2,ns,t,p,r1,r2,1,GM.same S3,k,n6,Y3.l1,Y3.l2,λfo H4 O4 S4=>?_];erw[0,0,fo,d,0,O4,O3.same S4,xx,0,cG ?_];have T4:=S3.trans S4;have Y4:=Y2.same T4;erw[0,0,0,g,h1,h2,ns,t,p,r1,r2,1,GM.same T4,k,n6,Y4.l1,Y4.l2,λo5 H5 O5 S5=>%[0,_,_,dL O5,dL (O3.same (S4.trans S5)),bJ _,bJ _,0|6]];rw[jV];refine cG ?_;have T5:=T4.trans S5;have Y5:=Y2.same T5;erw[0,0,λM dm hM0 hdm0 nM=>?_];have K6:Same H5 (upd (upd H5 dm (.own M)) M (.ins CM dm [])):=λa o e=>by
   rw[aq (aN e hM0),aq (aN e hdm0)];exact e
  have g6:upd (upd H5 dm (.own M)) M (.ins CM dm []) M=some (.ins CM dm []):=aC;generalize upd (upd H5 dm (.own M)) M (.ins CM dm [])=H6 at K6 g6;erw[M,g,h1,dm,1,g6,λbb H7 hb0 hM7 hb7 S7=>%[1|6]];have T57:Same H5 H7:=Same.but K6 hM0 S7;erw[M,dm,0,hM7,oy,s0,λc hc=>?_];have I8:=zC0 hc (.lst []);have g8:upd H7 c (.lst []) c=some (.lst (([]:List Int).map V.int)):=aC;generalize upd H7 c (.lst [])=H8 at I8 g8;have T58:=T57.trans I8;have Y8:=Y5.same T58;let%[%[rv,hh|RW]|rg]:=id Y8.l1;obtain⟨z,ez⟩:∃z:Ak,z=⟨ns,[t],p,0,1,0,0,[]⟩:=%[|0]
  have zok:AkOk z:=by
   subst ez;erw[k,n6,Int.le_refl 0,(λh=>absurd h (by show ¬ (0:Int)<0;decide)),(λx hx=>by cases hx),Int.le_refl 0,(by show(0:Int)<p;omega),Int.le_refl 0,(by show(0:Int)<p;omega),by show 0<=100;decide]
  have bo:dN z.p (λ_=>0):=by
   subst ez;exact λx=>%[Int.le_refl 0|by show(0:Int)<p;omega]
  have so:=cZ (rows:=r1) zok bo (by rw[ez];show(0:Int)<=1;decide);erw[M,g,h1,bb,dm,c,rv,z,r1,λ_=>0,(0),(by rw[ez];rfl),(by rw[ez];exact I8 _ _ hM7),hh,RW,rg,%[[],I8 _ _ hb7,zG0 _|λx=>rfl],bo,4,(by rw[ez];exact GM.same (T5.trans T58)),zok,.inl (by rw[ez];exact g8),(by rw[ez];show(0:Int)<=1;decide),(by rw[ez];show(1:Int)<=500;decide),λl1 H9 l10 hl1 BX9 hM9 S9=>?_];have hl1':H9 l1=some (.lst ((cH z r1 (λ_=>0)).map V.int)):=hl1;have sl1:(cH z r1 (λ_=>0)).length=1:=by
   have h1:=so.2.1;rw[show z.mn=1 by rw[ez]]at h1;omega
  obtain ⟨v1,ev⟩:∃v,cH z r1 (λ_=>0)=[v]:=by
   match cH z r1 (λ_=>0),sl1 with
   | [v],_=>erw[v,1]
  rw[ev]at hl1';have b0:H5 bb=none:=K6.free hb0;have T59:Same H5 H9:=λx o e=>S9 _ _ (aN e hM0) (aN e b0) (T58 _ _ e)
  erw[l1,_,(0),.int v1,1,1,zF0 hl1',1,s1,λl2 hl2=>?_];have I10:=zC0 hl2 (.lst [.int v1]);have e10:upd H9 l2 (.lst [.int v1]) l2=some (.lst [.int v1]):=aC;generalize upd H9 l2 (.lst [.int v1])=H10 at I10 e10;erw[l2,v1,1,e10,λh3 r3 H11 L3 S11=>?_];have T11:=T5.trans (T59.trans (I10.trans S11));have Y11:=Y2.same T11;have O11:OcAt H11 d _:=O3.same (S4.trans (S5.trans (T59.trans (I10.trans S11))));erw[0,0,0,g,h3,h2,ns,t,p,r3,r2,1,GM.same T11,k,n6,L3,Y11.l2,λo12 H12 O12 S12=>?_];have Y12:=Y11.same S12;erw[0,0,0,gh,a,b,h3,h2,v,ns,t,p,r3,r2,1,Y12.G,L3.mono (aV S12),Y12.l2,k,n6,Y.nd,λo13 H13 O13 S13=>%[_,_,dL (O12.same S13),dL O13,bJ _,bJ _,0|6]];rw[jV];refine cG ?_;have T13:=T11.trans (S12.trans S13);have Y13:=Y2.same T13;erw[0,0,0,g,h1,h2,ns,t,p,r1,r2,1,GM.same T13,k,n6,Y13.l1,Y13.l2,λo14 H14 O14 S14=>%[0,_,_,dL O14,dL (O11.same (S12.trans (S13.trans S14))),bJ _,bJ _,0|6]];rw[jV];refine cG ?_;have T14:=T13.trans S14;have Y14:=Y2.same T14;have GM14:=GM.same T14;have O15:=O11.same (S12.trans (S13.trans S14));have sw:=xw (G:=⟨ns,[t],p⟩) (rA:=r1) (rB:=r2) (tru:=cp ns t);cases e:gA ⟨ns,[t],p⟩ r1 r2 (cp ns t)with
  | agr w=>
    rw[e]at O15 sw;have hd:H14 d=some (.tup [.str "agreed",.int w]):=O15;erw[0,d,_,(0),.str "agreed",1,1,zD0 hd,1,1,0,6];refine aR rfl ?_;erw[0,0,0,g,h2,h1,ns,t,p,r2,r1,1,GM14,k,n6,Y14.l2,Y14.l1,λo16 H16 O16 S16=>?_];rw[sw]at O16;erw[0,_,_,dL O16,dL (O15.same S16),bJ _,bJ _,6];show Dn.rt (.bl (PyData.eqv (ocD (.agr w)) (ocD (.agr w)))) H16;rw[jV];exact q _
  | cau x y ws=>
    rw [e]at O15 sw;let%[u,hd|hu]:=id O15;erw[0,d,_,(0),.str "caught",1,1,zD0 hd,1,1,0,6];refine ax (λz=>absurd (V.str.inj z) ⋯) ?_;have xf:f<4->x=false:=λc=>by
     rw[hf c]at e
     by_cases h:hd0 %[ns,[t]|p] r2=(cnt t ns:Int) % p
     . rw[zJ (by rw[sX k,h])]at e;cases e
     . let%[ws',X1|_]:=zI k n6 Y.nd h;rw[X1.eq]at e;cases e;rfl
    erw[0,2,0,6];refine hC (λc=>?_) (λ_=>?_)
    . erw[0,d,_,(1),.bl x,1,1,zD0 hd,1,0,6];rw[xf (of_decide_eq_true c)];refine cG ?_;erw[0,0,0,g,h2,h1,ns,t,p,r2,r1,1,GM14,k,n6,Y14.l2,Y14.l1,λo16 H16 O16 S16=>?_];rw[sw]at O16;have hd':=S16 _ _ hd;erw[0,d,_,(0),.str "caught",1,1,zD0 hd',1,0,d,_,(2),.bl y,1,1,zD0 hd',1,0,d,_,(1),.bl x,1,1,zD0 hd',1,0,d,_,(3),.ref u,1,1,zD0 hd',1,s4,λT hT=>?_];have I:=zC0 hT (.tup [.str "caught",.bl y,.bl x,.ref u]);erw[_,_,dL (O16.same I),dL (o:=.cau y x ws) %[u,aC|I _ _ (S16 _ _ hu)],bJ _,bJ _,6];show Dn.rt (.bl (PyData.eqv (ocD (.cau y x ws)) (ocD (.cau y x ws)))) _;rw[jV];exact q _
    . erw[0,0,0,g,h2,h1,ns,t,p,r2,r1,1,GM14,k,n6,Y14.l2,Y14.l1,λo16 H16 O16 S16=>?_];rw[sw]at O16;have hd':=S16 _ _ hd;erw[0,d,_,(0),.str "caught",1,1,zD0 hd',1,0,d,_,(2),.bl y,1,1,zD0 hd',1,0,d,_,(1),.bl x,1,1,zD0 hd',1,0,d,_,(3),.ref u,1,1,zD0 hd',1,s4,λT hT=>?_];have I:=zC0 hT (.tup [.str "caught",.bl y,.bl x,.ref u]);erw[_,_,dL (O16.same I),dL (o:=.cau y x ws) %[u,aC|I _ _ (S16 _ _ hu)],bJ _,bJ _,6];show Dn.rt (.bl (PyData.eqv (ocD (.cau y x ws)) (ocD (.cau y x ws)))) _;rw[jV];exact q _
 erw[0,a0,ns0,(1),1,hS,h63,4,4,λf H1 f0 S1 F1=>?_];erw[0,0,f,(5),1,F1,4,4,λmk H2 k0 k5 F2 B2=>?_];have k5':mk<5:=k5;erw[f,mk,1,F2,k0,3,λnl ns H3 nl0 nlf hnl nsl nok nnd F3 B3=>?_];have nl6:ns.length<=6:=by omega
 have B03:SameBut f H1 H3:=B2.trans B3;erw[0,0,0,s2,λl1 hl1=>?_];have I4:=zC0 hl1 (.lst [.int 8,.int 30]);have e4:upd H3 l1 (.lst [.int 8,.int 30]) l1=some (.lst [.int 8,.int 30]):=aC;have l1f:=F3.ne hl1;have F4:=F3.same I4;generalize upd H3 l1 (.lst [.int 8,.int 30])=H4 at I4 e4 F4;erw[0,f,(6),1,F4,4,4,λe H5 _ _ F5 B5=>%[1|.inr %[0|6]]];obtain⟨m,em,m0,m30⟩:∃m:Int,atI [V.int 8,V.int 30] (if decide (V.int e=V.int 1)=true then(1:Int)else 0)=some (.int m)/\1<=m/\m<=30:=by
  by_cases c:decide (V.int e=V.int 1)=true
  . rw[zE0 c];erw[(30),1,4,4]
  . rw[zB0 c];erw[(8),1,4,4]
 erw[l1,_,_,.int m,1,1,zF0 (B5 _ _ l1f e4),em,f,m,1,F5,3,3,λc H6 c0 c1 F6 B6=>?_];have c1':c<m:=c1;have B36:SameBut f H3 H6:=(zK0 I4).trans (B5.trans B6);have hnl6:=B36 _ _ nlf hnl;erw[2,f,nl,_,_,ns,1,F6,.inl hnl6,nl6,3,3,4,4,λv t H7 F7 B7 T7 ok7 sz7 dp7=>?_];have d10:(t.depth:Int)<=10:=dp7;have s31:(t.size:Int)<=1+c:=sz7;have hnl7:=B7 nl _ nlf hnl6;erw[0,nl,0,.inl %[zF0 hnl7|λa ha=>?_]];have Ga:=zC0 ha (.tup (ns.map V.str));have ea:upd H7 a (.tup (ns.map V.str)) a=some (.tup (ns.map V.str)):=aC;generalize upd H7 a (.tup (ns.map V.str))=H8 at Ga ea;erw[0,s1,λb hb=>?_];have Gb:=zC0 hb (.tup [v]);have eb:upd H8 b (.tup [v]) b=some (.tup [v]):=aC;generalize upd H8 b (.tup [v])=H9 at Gb eb;have Gab:=Ga.trans Gb;have wf:=Tr.ok_wf nok t ok7;erw[0,0,0,s1,λL hL=>?_];have GL:=zC0 hL (.lst [v]);have eL:upd H9 L (.lst [v]) L=some (.lst [v]):=aC;generalize upd H9 L (.lst [v])=H10 at GL eL;have GabL:=Gab.trans GL;have TS:TreesAt H7 [v] [t]:=.cons T7 .nil;erw[nl,L,ns,[v],[t],1,GabL _ _ hnl7,eL,TS.mono (aV GabL),(by show 1<=10;decide),λt' ht=>?_,λmm H11 S11 m2 m4 mt mc=>?_]
 . rw[zM0 ht];erw[wf,3,3]
 have F11:=(F7.same GabL).same S11;erw[f,mm,1,F11,m2,m4,λp H12 pp mp p9 F12 B12=>?_];erw[(by show 3<=sizeLine;decide),λgh hgh=>?_];have Gg:=zC0 hgh (.tup [.ref a,.ref b,.int p]);have eg:upd H12 gh (.tup [.ref a,.ref b,.int p]) gh=some (.tup [.ref a,.ref b,.int p]):=aC;generalize upd H12 gh (.tup [.ref a,.ref b,.int p])=H13 at Gg eg;have k9:bY H9 H13:=λc ys h=>Gg _ _ (aP F11 B12 _ _ (S11 _ _ (GL _ _ h)))
 have k:GmK ns [t] p:=⟨pp,by omega,p9,by omega,by show 1<=1;decide,by show 1<=10;decide,λt' ht=>by
  rw[zM0 ht];erw[ok7,wf,3,3],by show(1:Int)<=p;omega,λt' ht x hx=>by
  rw[zM0 ht]
  have:=mc t zY0 x hx
  omega⟩
 have T13:Same H H13:=Same.but S1 f0 (B03.trans (B36.trans (B7.trans ((zK0 (GabL.trans S11)).trans (B12.trans (zK0 Gg))))));erw[a0,gh,a,b,v,ns0,ns,t,p,_,_,0,T13.seq hS,h63,%[eg,k9 _ _ (Gb _ _ ea),k9 _ _ eb|(TS.mono (aV Gab)).mono k9],k,nl6,nnd,q]
end
theorem kept_vals {a b c d e f g h i j k l:Tok}:Vals (kept.map V.str) [.str "yes" a,.str "no" b,.str "not" c,.str "and" d,.str "or" e,.str "odd" f,.str "same" g,.str "round" h,.str "due" i,.str "asked" j,.str "true" k,.str "coin" l]:=
 .cons %[|0] (.cons ⟨_,rfl⟩ (.cons ⟨_,rfl⟩ (.cons ⟨_,rfl⟩ (.cons ⟨_,rfl⟩ (.cons ⟨_,rfl⟩ (.cons ⟨_,rfl⟩ (.cons ⟨_,rfl⟩ (.cons ⟨_,rfl⟩ (.cons ⟨_,rfl⟩ (.cons ⟨_,rfl⟩ (.cons ⟨_,rfl⟩ .nil)))))))))))
theorem sign_vals {a b c d e f:Tok}:Vals (signW.map V.str) [.str "+" a,.str "-" b,.str "*" c,.str "/" d,.str "=" e,.str "<" f]:=
 .cons %[|0] (.cons ⟨_,rfl⟩ (.cons ⟨_,rfl⟩ (.cons ⟨_,rfl⟩ (.cons ⟨_,rfl⟩ (.cons ⟨_,rfl⟩ .nil)))))
theorem ask_vals {a b:Tok}:Vals (askW.map V.str) [.str "coin" a,.str "true" b]:=.cons %[|0] (.cons ⟨_,rfl⟩ .nil)
theorem plain_vals {a b c:Tok}:Vals (plainW.map V.str) [.str "round" a,.str "due" b,.str "asked" c]:=.cons %[|0] (.cons ⟨_,rfl⟩ (.cons ⟨_,rfl⟩ .nil))
end
abbrev FH(K:W.Frag)(x:Str)(s:Stmt):Prop:=∃f,W.nsIn K mainGlobals x=some (some (.ref f))/\∃fd,Fun K x x s f fd
abbrev MH(K:W.Frag)(C:Addr)(x y:Str)(s:Stmt):Prop:=∃g,W.findIn K (.ref C) x=some (some (.ref g))/\W.isFn K (.ref g)=true/\∃fd,Fun K x y s g fd
abbrev CH (K:W.Frag) (x:Str) (C:Addr):Prop:=W.nsIn K mainGlobals x=some (some (.ref C))/\W.plainGet K C Str.empty=true/\W.hasDictIn K C=true/\W.plainOver K C=true/\W.findIn K (.ref C) "__setattr__"=some (some (.builtin "object.__setattr__"))/\W.makesIn K C=true/\W.keepIn K (.ref C)=true
abbrev HF(K:W.Frag)(C:Addr)(x:Str):Prop:=W.findIn K (.ref C) x=some none
abbrev HZ(K:W.Frag)(x:Str):Prop:=W.nsIn K mainGlobals x=some none
theorem aU{K:W.Frag}{h:Heap}{mg:Str->Option Value}(X:K.In h)(G:h.Ns mainGlobals mg)(z:FH K x s):∃f fd,Fun K x x s f fd/\mg x=some (.ref f):=by
 erw[f,a,fd,F]at z;erw[f,fd,F,W.mg_of X G a]
theorem dC{K:W.Frag}(z:MH K C x y s):∃f fd,Fun K x y s f fd/\Meth K C x f:=by
 erw[f,a,i,fd,F]at z;erw[f,fd,F,a,i,F.kp]
theorem all_mk {l:PySem.W.OpenLaw} {w:World} {K:W.Frag} {h:Heap} {mg:Str->Option Value} {fa fl CG CA CM CS CN:Addr} (X:K.In h) (G:h.Ns mainGlobals mg) (hfa:mg "law"=some (.ref fa))
 {od an:Option Addr} {sl:Array (Option Value)} {oc kV dc pm cd ct:Value}
 {t1 t3 t4 t5 t6 u1 u2 u3 uh ul:Tok} {ka ja qa pa:Addr} {kd jd qd pd:Option Addr} {kits jits qits pits:Array Value} {kn jn qn pn:Nat} {ksl jsl qsl psl:Array (Option Value)}
 {te tm:Tok}
 (aL:W.nsIn K mainGlobals "law"=some (some (.ref fl))) (lL:K.lookup fl=some %[oc,od,.func (W.fnOf "law" "law" (iF kj) (eQ kj) (ak kj) .none kV dc pm an cd ct)|sl]) (cL:W.codeIn K cd "law"=true) (kL:W.keepIn K (.ref fl)=true)
 (h0:FH K "is_field" jS)
 (h1:FH K "inverse_of" iy)
 (h2:FH K "value_at" jN)
 (h3:FH K "value_behind" fO)
 (h4:FH K "products" jP)
 (h5:FH K "inverse_factorials" cX)
 (h6:FH K "all_settings" fX)
 (h7:FH K "holds_at" iz)
 (h8:FH K "joined" nv)
 (h9:FH K "count_of" jT)
 (h10:FH K "trees_within" fQ)
 (h11:FH K "names_in" io)
 (h12:FH K "counts_of" jb)
 (h13:FH K "true_row" jO)
 (h14:FH K "value_of" im)
 (h15:FH K "op_value" jQ)
 (h16:FH K "divided" li)
 (h17:FH K "settled" kY)
 (h18:FH K "way_between" gJ)
 (h19:FH K "worth_of" ik)
 (h20:FH K "joined_worth" fV)
 (h21:FH K "degree_of" iZ)
 (h22:FH K "look_switches" fe)
 (h23:FH K "look_names" ip)
 (h24:FH K "look_field" iq)
 (h25:FH K "look_size" iY)
 (h26:FH K "is_name" lh)
 (h27:FH K "is_figures" iw)
 (h28:FH K "read_helper" gK)
 (h29:FH K "helper_row" iA)
 (h30:FH K "next_name" iX)
 (h31:FH K "next_figures" fU)
 (h32:FH K "next_term" gC)
 (h33:FH K "term_in_bracket" cS)
 (h34:FH K "honest" ny)
 (h35:FH K "best_liar" je)
 (h36:FH K "_law_feed" nu)
 (h37:FH K "_law_take" nj)
 (h38:FH K "_law_names" bu)
 (h39:FH K "_law_tree" km)
 (h40:FH K "_law_names_of" fi)
 (h41:FH K "_law_need" nn)
 (h42:FH K "_law_is_prime" iu)
 (h43:FH K "_law_field" lg)
 (h44:FH K "_law_term" ko)
 (h45:FH K "_law_helper" jR)
 (h46:FH K "_law_liar" nq)
 (h47:FH K "_law_matching" ir)
 (h48:FH K "_law_some_helper" fg)
 (h49:FH K "_law_holds" jw)
 (h50:FH K "_law_due" qG)
 (h51:FH K "_law_right" ld)
 (gmc:CH K "Game" CG)
 (asc:CH K "Asking" CA)
 (mcc:CH K "Machine" CM)
 (sdc:CH K "Side" CS)
 (scc:CH K "Scan" CN)
 (Ge:MH K CG "__init__" "Game.__init__" qH)
 (gmmM:MH K CG "mix" "Game.mix" uF)
 (gmmW:MH K CG "worth_at" "Game.worth_at" nA)
 (asmI:MH K CA "__init__" "Asking.__init__" qJ)
 (asmP:MH K CA "plain_value" "Asking.plain_value" nC)
 (asmC:MH K CA "coin_at" "Asking.coin_at" qK)
 (asmN:MH K CA "true_numbers" "Asking.true_numbers" lj)
 (asmR:MH K CA "true_at" "Asking.true_at" qI)
 (mcmI:MH K CM "__init__" "Machine.__init__" qF)
 (mcmS:MH K CM "say" "Machine.say" uD)
 (mcmR:MH K CM "do_row" "Machine.do_row" uE)
 (sdmI:MH K CS "__init__" "Side.__init__" qD)
 (sdmA:MH K CS "adds_up" "Side.adds_up" qE)
 (sdmG:MH K CS "go_way" "Side.go_way" zC)
 (scmI:MH K CN "__init__" "Scan.__init__" nh)
 (scmE:MH K CN "enter" "Scan.enter" na)
 (scmS:MH K CN "sees" "Scan.sees" qC)
 (scmT:MH K CN "take" "Scan.take" qB)
 (scmW:MH K CN "word" "Scan.word" qA)
 (scmF:MH K CN "finish" "Scan.finish" kX)
 (mY:HF K CG "switches")
 (gmn_trees:HF K CG "trees")
 (gmn_field:HF K CG "field")
 (gmn_degrees:HF K CG "degrees")
 (asn_game:HF K CA "game")
 (asn_number:HF K CA "number")
 (asn_many:HF K CA "many")
 (asn_held:HF K CA "held")
 (asn_s:HF K CA "s")
 (asn_tossed:HF K CA "tossed")
 (asn_truths:HF K CA "truths")
 (mcn_game:HF K CM "game")
 (mcn_helper:HF K CM "helper")
 (mcn_next_round:HF K CM "next_round")
 (mcn_boxes:HF K CM "boxes")
 (sdn_field:HF K CS "field")
 (sdn_machine:HF K CS "machine")
 (sdn_held:HF K CS "held")
 (sdn_said:HF K CS "said")
 (scn_text:HF K CN "text")
 (scn_row:HF K CN "row")
 (scn_most_within:HF K CN "most_within")
 (scn_most_parts:HF K CN "most_parts")
 (scn_place:HF K CN "place")
 (scn_parts:HF K CN "parts")
 (g1:W.nsIn K mainGlobals "LETTERS"=some (some (.str LET t1)))
 (g3:W.nsIn K mainGlobals "LONGEST_NAME"=some (some (.int 6 t3)))
 (g5:W.nsIn K mainGlobals "KEPT_WORDS"=some (some (.ref ka)))
 (g6:K.lookup ka=some %[.type "tuple",kd,.seq kits kn|ksl])
 (g7:kits.size<=100)
 (g8:Vals (kept.map V.str) kits.toList)
 (e1:W.nsIn K mainGlobals "WORD_ENDS"=some (some (.str ENDS t4)))
 (e2:W.nsIn K mainGlobals "MOST_WITHIN"=some (some (.int 8 t5)))
 (e3:W.nsIn K mainGlobals "MOST_PARTS"=some (some (.int 20 t6)))
 (w1:W.nsIn K mainGlobals "FIGURES"=some (some (.str FIG u1)))
 (w2:W.nsIn K mainGlobals "MOST_FIGURES"=some (some (.int 12 u2)))
 (w3:W.nsIn K mainGlobals "MOST_ROWS"=some (some (.int 60 u3)))
 (j5:W.nsIn K mainGlobals "SIGNS"=some (some (.ref ja)))
 (j6:K.lookup ja=some %[.type "tuple",jd,.seq jits jn|jsl])
 (j7:jits.size<=100)
 (j8:Vals (signW.map V.str) jits.toList)
 (q5:W.nsIn K mainGlobals "ASKING_WORDS"=some (some (.ref qa)))
 (q6:K.lookup qa=some %[.type "tuple",qd,.seq qits qn|qsl])
 (q7:qits.size<=100)
 (q8:Vals (askW.map V.str) qits.toList)
 (p5:W.nsIn K mainGlobals "PLAIN_WORDS"=some (some (.ref pa)))
 (p6:K.lookup pa=some %[.type "tuple",pd,.seq pits pn|psl])
 (p7:pits.size<=100)
 (p8:Vals (plainW.map V.str) pits.toList)
 (wh:W.nsIn K mainGlobals "HONEST_ROWS"=some (some (.str ("set i 0\nsay (true i)\nset i (+ i 1)\ngo 1":Str) uh)))
 (wl:W.nsIn K mainGlobals "LIAR_ROWS"=some (some (.str CJ ul)))
 (ge:W.nsIn K mainGlobals "FIELDS_END"=some (some (.int 1000000 te)))
 (xmo:W.nsIn K mainGlobals "MOST_ROWS_DONE"=some (some (.int 200 tm)))
 (z0:HZ K "len") (z1:HZ K "range") (z2:HZ K "isinstance") (z3:HZ K "int") (z4:HZ K "bool") (z5:HZ K "list") (z6:HZ K "tuple") (z7:HZ K "max") (z8:HZ K "reversed") (z9:HZ K "enumerate") (z10:HZ K "sum") (z11:HZ K "all") (z12:HZ K "zip") (z13:HZ K "dict") :
 ∃fd:FuncData,(∀(s:Shared) (v:Value),BindsTo s fd %[[v]|[]] [("_law_script",v)])/\∀base:Heap,K.In base->base.Ns mainGlobals mg->FnOk l.prog w K mg base CX0 32 fa fd ["_law_script"] (spLaw K):=by
 have e:=hfa.symm.trans (W.mg_of X G aL);cases e;have Gf:=Ev (st:=kj) lL cL kL;let%[_,_,t9|E9]:=aU X G h0;let%[_,_,mZ|D5]:=aU X G h1;let%[_,_,u4|Fa]:=aU X G h2;let%[_,_,i7|A4]:=aU X G h3;let%[_,_,u5|Fb]:=aU X G h4;let%[_,_,fc|ki]:=aU X G h5;let%[_,_,i8|A5]:=aU X G h6;let%[_,_,u6|u7]:=aU X G h7;let%[_,_,D6|Fp]:=aU X G h8;let%[_,_,u8|Fc]:=aU X G h9;let%[_,_,i9|A7]:=aU X G h10;let%[_,_,u9|v6]:=aU X G h11;let%[_,_,pZ|E3]:=aU X G h12;let%[_,_,v7|Fd]:=aU X G h13;let%[_,_,v8|w4]:=aU X G h14;let%[_,_,w6|Fe]:=aU X G h15;let%[_,_,Bj|Fi]:=aU X G h16;let%[_,_,Bm|Fk]:=aU X G h17;let%[_,_,kW|C6]:=aU X G h18;let%[_,_,y4|y6]:=aU X G h19;let%[_,_,jj|A8]:=aU X G h20;let%[_,_,qw|E4]:=aU X G h21;let%[_,_,ic|y8]:=aU X G h22;let%[_,_,m5|D7]:=aU X G h23;let%[_,_,m7|D8]:=aU X G h24;let%[_,_,q0|E5]:=aU X G h25;let%[_,_,C0|Fl]:=aU X G h26;let%[_,_,m8|D9]:=aU X G h27;let%[_,_,lJ|C7]:=aU X G h28;let%[_,_,n8|EO]:=aU X G h29;let%[_,_,rY|E6]:=aU X G h30;let%[_,_,ju|A9]:=aU X G h31;let%[_,_,r6|r8]:=aU X G h32;let%[_,_,o7|o8]:=aU X G h33;let%[_,_,EQ|Fq]:=aU X G h34;let%[_,_,r9|E7]:=aU X G h35;let%[_,_,ER|Fr]:=aU X G h36;let%[_,_,ES|Fs]:=aU X G h37;let%[_,_,C1|Fm]:=aU X G h38;let%[_,_,ET|EU]:=aU X G h39;let%[_,_,oB|oV]:=aU X G h40;let%[_,_,EV|Ft]:=aU X G h41;let%[_,_,oW|EW]:=aU X G h42;let%[_,_,C2|Fn]:=aU X G h43;let%[_,_,EX|EY]:=aU X G h44;let%[_,_,y9|Ff]:=aU X G h45;let%[_,_,EZ|Fu]:=aU X G h46;let%[_,_,oX|E1]:=aU X G h47;let%[_,_,ig|A0]:=aU X G h48;let%[_,_,C3|C4]:=aU X G h49;let%[_,_,E8|Gd]:=aU X G h50;let%[_,_,C5|Fo]:=aU X G h51;erw[gmgg,gmpg,gmhdi,gmpov,gmsat,gmmki,gmkcl]at gmc;erw[asgg,aspg,ashdi,aspov,assat,asmki,askcl]at asc;erw[mcgg,mcpg,mchdi,mcpov,mcsat,mcmki,mckcl]at mcc;erw[sdgg,sdpg,sdhdi,sdpov,sdsat,sdmki,sdkcl]at sdc;erw[scgg,scpg,schdi,scpov,scsat,scmki,sckcl]at scc;let%[_,_,Fv|Fw]:=dC Ge;let%[_,_,Fx|Gh]:=dC gmmM;let%[_,_,Fy|Gi]:=dC gmmW;let%[_,_,Fz|FA]:=dC asmI;let%[_,_,FB|Gj]:=dC asmP;let%[_,_,FC|Gk]:=dC asmC;let%[_,_,FD|Gn]:=dC asmN;let%[_,_,FE|Go]:=dC asmR;let%[_,_,FG|FI]:=dC mcmI;let%[_,_,FJ|C8]:=dC mcmS;let%[_,_,FK|Gq]:=dC mcmR;let%[_,_,FL|FM]:=dC sdmI;let%[_,_,FN|Gs]:=dC sdmA;let%[_,_,FO|Gw]:=dC sdmG;let%[_,_,FP|FQ]:=dC scmI;let%[_,_,FR|Gx]:=dC scmE;let%[_,_,FS|FT]:=dC scmS;let%[_,_,FU|Gy]:=dC scmT;let%[_,_,FV|Gz]:=dC scmW;let%[_,_,FW|GB]:=dC scmF;have B:Bl mg:=%[W.mg_none_of X G z0,W.mg_none_of X G z1,W.mg_none_of X G z2,W.mg_none_of X G z3,W.mg_none_of X G z4,W.mg_none_of X G z5,W.mg_none_of X G z6,W.mg_none_of X G z7,W.mg_none_of X G z8,W.mg_none_of X G z9,W.mg_none_of X G z10,W.mg_none_of X G z11,W.mg_none_of X G z12|W.mg_none_of X G z13]
 erw[W.fnOf "law" "law" (iF kj) (eQ kj) (ak kj) .none kV dc pm an cd ct,λs v=>.of_eq rfl,λbase _ _=>?_];have cal:=@Cal.of l.prog w K mg base;have TG:GTxt K mg CG:=%[%[gmpg,gmhdi,gmpov|gmsat],mY,gmn_trees,gmn_field,gmn_degrees|W.mg_of X G gmgg]
 have TA:ATxt K mg CA:=%[%[aspg,ashdi,aspov|assat],asn_game,asn_number,asn_many,asn_held,asn_s,asn_tossed,asn_truths|W.mg_of X G asgg]
 have TM:MTxt K mg CM:=%[%[mcpg,mchdi,mcpov|mcsat],mcn_game,mcn_helper,mcn_next_round,mcn_boxes|W.mg_of X G mcgg]
 have TS:STxt K mg CS:=%[%[sdpg,sdhdi,sdpov|sdsat],sdn_field,sdn_machine,sdn_held,sdn_said|W.mg_of X G sdgg]
 have TN:ScTxt K mg CN:=%[%[scpg,schdi,scpov|scsat],scn_text,scn_row,scn_most_within,scn_most_parts,scn_place,scn_parts|W.mg_of X G scgg]
 have TX:Tx K mg:=%[%[t1|W.mg_of X G g1],%[t3|W.mg_of X G g3],%[ka,W.mg_of X G g5|λ_=>.inr %[_,kits,kn,g6,1,1,zQ0 g7 (bK ⋯)|g8]],%[t4|W.mg_of X G e1],%[t5|W.mg_of X G e2],%[t6|W.mg_of X G e3],%[u1|W.mg_of X G w1],%[u2|W.mg_of X G w2],%[u3|W.mg_of X G w3],%[ja,W.mg_of X G j5|λ_=>.inr %[_,jits,jn,j6,1,1,zQ0 j7 (bK ⋯)|j8]],%[qa,W.mg_of X G q5|λ_=>.inr %[_,qits,qn,q6,1,1,zQ0 q7 (bK ⋯)|q8]]|%[pa,W.mg_of X G p5|λ_=>.inr %[_,pits,pn,p6,1,1,zQ0 p7 (bK ⋯)|p8]]]
 have FX:=Fv.binds (ps:=["self","switches","trees","field"]) (by ac_rfl);have GD:=Fx.binds (ps:=["self","numbers","s"]) (by ac_rfl);have GE:=Fy.binds (ps:=["self","point","s"]) (by ac_rfl);have GF:=Fz.binds (ps:=["self","game","number","many","due","s","coins"]) (by ac_rfl);have GH:=FB.binds (ps:=["self","word"]) (by ac_rfl);have GJ:=FC.binds (ps:=["self","place"]) (by ac_rfl);have GK:=FD.binds (ps:=["self"]) (by ac_rfl);have GN:=FE.binds (ps:=["self","place"]) (by ac_rfl);have Fg:=FG.binds (ps:=["self","game","helper"]) (by ac_rfl);have C9:=FJ.binds (ps:=["self","many","due","s","coins"]) (by ac_rfl);have GO:=FK.binds (ps:=["self","place","said","asking"]) (by ac_rfl);have GQ:=FL.binds (ps:=["self","game","helper"]) (by ac_rfl);have GU:=FN.binds (ps:=["self","ways"]) (by ac_rfl);have GV:=FO.binds (ps:=["self","way"]) (by ac_rfl);have GX:=FP.binds (ps:=["self","text","row","most_within","most_parts"]) (by ac_rfl);have GY:=FR.binds (ps:=["self","within"]) (by ac_rfl);have FY:=FS.binds (ps:=["self","signs"]) (by ac_rfl);have GZ:=FU.binds (ps:=["self","signs"]) (by ac_rfl);have G6:=FV.binds (ps:=["self"]) (by ac_rfl);have G7:=FW.binds (ps:=["self"]) (by ac_rfl);have eU:=cal ER (xJ ER B.len) Fr (by ac_rfl);have aS:=cal ES (xG ES ) Fs (by ac_rfl);have jH:=cal t9 (sG t9 ) E9 (by ac_rfl);have dO:=cal mZ (pB mZ ) D5 (by ac_rfl);have dl:=cal u5 (sD u5 ) Fb (by ac_rfl);have dQ:=cal fc (iM fc B dl dO) ki (by ac_rfl);have fD:=cal i7 (lY i7 B dl dQ) A4 (by ac_rfl);have kg:=cal u4 (sy u4 B fD) Fa (by ac_rfl);have cu:=cal i9 (lZ i9 ) A7 (by ac_rfl);have c8:=cal u9 (lQ u9 v6 cu 10) v6 (by ac_rfl);have cr:=cal jj (me jj ) A8 (by ac_rfl);have d7:=cal y4 (lO y4 y6 cr 10) y6 (by ac_rfl);have iT:=cal qw (qY qw B.max c8) E4 (by ac_rfl);have e9:=cal ic (lr ic B.enumerate) y8 (by ac_rfl);have gz:=cal m5 (pk m5 c8) D7 (by ac_rfl);have gB:=cal m7 (pq m7 %[te|W.mg_of X G ge] jH) D8 (by ac_rfl);have iU:=cal q0 (qX q0 B.max) E5 (by ac_rfl);have ia:=cal C1 (uX C1 B.range aS) Fm (by ac_rfl);have eN:=cal ET (pS ET B.len EU aS 10) EU (by ac_rfl);have dX:=cal oB (jI oB oV 10) oV (by ac_rfl);have t7:=cal EV (xH EV B.len B.max dX) Ft (by ac_rfl);have gu:=cal oW (pz oW B.range) EW (by ac_rfl);have mo:=cal C2 (uY C2 aS gu) Fn (by ac_rfl);have FZ:=Ah (P:=l.prog) (w:=w) (base:=base) Fv TG B.tuple B.len iT e9 gz gB iU;have G8:=BY (P:=l.prog) (w:=w) (base:=base) Fx TG B.reversed;have Hb:=xM (P:=l.prog) (w:=w) (base:=base) Fy TG Gh G8 GD d7;have cx:=cal i8 (mf i8 B.range) A5 (by ac_rfl);have fH:=cal D6 (xK D6 ) Fp (by ac_rfl);have b9:=cal u6 (lR u6 u7 fH 12) u7 (by ac_rfl);have j4:=cal u8 (sH u8 B.len cx b9) Fc (by ac_rfl);have i3:=cal pZ (qZ pZ TG j4) E3 (by ac_rfl);have j9:=cal v7 (sC v7 B TG Gi Hb GE cx) Fd (by ac_rfl);have l7:=cal Bj (va Bj dO) Fi (by ac_rfl);have ef:=cal w6 (sE w6 l7) Fe (by ac_rfl);have Hc:=Aj (P:=l.prog) (w:=w) (base:=base) Fz B TA;have Hd:=xN (P:=l.prog) (w:=w) (base:=base) FB TA TG;have He:=Al (P:=l.prog) (w:=w) (base:=base) FC B TA TG;have Hf:=vb (P:=l.prog) (w:=w) (base:=base) FD TA i3 j9;have Hg:=Ai (P:=l.prog) (w:=w) (base:=base) FE B TA TG Gn Hf GK kg;have AF:AskF l.prog w K mg base CA CG _ _ _ _ _ _:=⟨Gj,Hd,GH,Gk,He,GJ,Go,Hg,GN⟩
 have bw:=cal v8 (lP v8 w4 TA TG AF ef 8) w4 (by ac_rfl);have Fh:=Af (P:=l.prog) (w:=w) (base:=base) FG TM;have Hh:=BW (P:=l.prog) (w:=w) (base:=base) FK B TM bw;have D1:=BV (P:=l.prog) (w:=w) (base:=base) FJ B TM TA %[tm|W.mg_of X G xmo] ⟨asmki,FA.1,FA.2,askcl⟩ Hc GF Gq Hh GO;have MMk:Mk K CM _:=⟨mcmki,FI.1,FI.2,mckcl⟩
 have b8:=cal EX (pT EX B EY aS 8) EY (by ac_rfl);have kh:=cal y9 (sF y9 B aS b8) Ff (by ac_rfl);have tS:=cal EZ (xI EZ aS) Fu (by ac_rfl);have f9:=cal C3 (ot C3 C4 10) C4 (by ac_rfl);have gR:=cal oX (pw oX aS b8) E1 (by ac_rfl);have Hi:=Ad (P:=l.prog) (w:=w) (base:=base) FL TS TM TG MMk Fh Fg C8 D1 C9;have Hj:=Ae (P:=l.prog) (w:=w) (base:=base) FN B TS TM C8 D1 C9;have Hk:=DS (P:=l.prog) (w:=w) (base:=base) FO TS;have gr:=cal kW (oi kW TS) C6 (by ac_rfl);have dP:=cal Bm (uV Bm B TS TG %[sdmki,FM.1,FM.2|sdkcl] Hi GQ Gs Hj GU Gw Hk GV gr b9) Fk (by ac_rfl);have Hl:=xF (P:=l.prog) (w:=w) (base:=base) FP TN;have Hm:=xE (P:=l.prog) (w:=w) (base:=base) FR TN;have Gc:=Ac (P:=l.prog) (w:=w) (base:=base) FS TN;have Hn:=Ab (P:=l.prog) (w:=w) (base:=base) FU B TN FT Gc FY;have Ho:=Aa (P:=l.prog) (w:=w) (base:=base) FV B TX TN;have Hq:=uU (P:=l.prog) (w:=w) (base:=base) FW B TN;have M:Mths l.prog w K mg base CN _ _ _ _ _ _ _ _ _ _:=⟨Gx,Hm,GY,FT,Gc,FY,Gy,Hn,GZ,Gz,Ho,G6,GB,Hq,G7⟩
 have dz:=cal C0 (uZ C0 B TX) Fl (by ac_rfl);have bc:=cal m8 (pA m8 B TX) D9 (by ac_rfl);have cn:=cal r6 (kF r6 r8 o7 o8 B TX TN M dz bc 8) r8 (by ac_rfl);have i4:=cal rY (qW rY TN M dz) E6 (by ac_rfl);have ei:=cal ju (ma ju B TN M bc) A9 (by ac_rfl);have gH:=cal n8 (pC n8 TX TN M %[scmki,FQ.1,FQ.2|sckcl] Hl GX i4 ei cn) EO (by ac_rfl);have cW:=cal lJ (oo lJ B TX gH) C7 (by ac_rfl);have fN:=cal EQ (xL EQ ⟨uh,W.mg_of X G wh⟩ cW) Fq (by ac_rfl);have dR:=cal r9 (rb r9 B ⟨ul,W.mg_of X G wl⟩ cW) E7 (by ac_rfl);have dU:=cal ig (lu ig aS kh tS gR dR fN) A0 (by ac_rfl);have my:=cal C5 (uW C5 B) Fo (by ac_rfl);have MGk:Mk K CG _:=⟨gmmki,Fw.1,Fw.2,gmkcl⟩
 have o4:=cal E8 (Ag E8 B TG MGk FZ FX TM MMk Fh Fg C8 D1 C9 f9) Gd (by ac_rfl);exact DT Gf B TG MGk FZ FX TM MMk Fh Fg C8 D1 C9 eU aS ia eN t7 mo dU fN dR my o4 dP
theorem walk{l:PySem.W.OpenLaw}{q:Program}{loose:List Str}{XP:(Str->Option Value)->Heap->Prop}{YP:World->Heap->Prop}{d:DefRec}{K:Params->PySem.W.Frag}(hn:l.most=some 63)(hdf:d.params.defaults=[])
 (hY:∀(w:World)(h:Heap),YP w h->(K w.params).In h)
 (F:∀(w:World)(mg:Str->Option Value)(fa:Addr)(h:Heap),(K w.params).In h->h.Ns mainGlobals mg->mg d.name=some (.ref fa) ->
  ∃fd:FuncData,(∀(s:Shared) (u:Value),BindsTo s fd %[[u]|[]] [("_law_script",u)])/\∀base:Heap,(K w.params).In base->base.Ns mainGlobals mg->FnOk l.prog w (K w.params) mg base CX0 32 fa fd ["_law_script"] (spLaw (K w.params))) :
 PySem.W.WalkO q loose XP YP l.row.toRowW d [] (λf vs=>PySem.call f vs):=
 L2.walk_of (n:=63) (k:=32) (x:="_law_script") (CX:=λ_=>CX0) (sp:=λw=>spLaw (K w.params)) hn ⋯ hdf %[1,1,4|4] hY F (λ_ _ a ns hl _ hS=>%[a,ns,1,hS,hl|λ_=>rfl]) λ_ _ _ _ _ z=>z
end Mine
namespace PySem.W.Fast
def tw15713813789272422900:=()
def tw8627084409101572653:=()
def tw12458763083773066480:=()
def tw1895749165168649400:=()
def tw7424071757469966785:=()
def tw2592185281308891048:=()
def tw3482732315591668656:=()
def tw8589522836132968630:=()
def tw2000069184037054313:=()
def tw8112322801440392749:=()
def tw478764654975777891:=()
def tw15083119846555294050:=()
def tw15991008158131041491:=()
def tw689816574287451470:=()
def tw12484277800594680368:=()
def tw8068245413196083959:=()
def tw11864707695949927733:=()
def tw18315669137615927513:=()
def tw9051743371708305153:=()
def tw10765873950677028383:=()
def tw16726979916207757461:=()
def tw15079224810549119394:=()
def tw14303837298646491649:=()
def tw10858565789309191407:=()
def tw4696946753841850119:=()
def tw11272403701950126060:=()
def tw5570268828311984464:=()
def tw14464711916211305894:=()
def tw4435247531544543407:=()
def tw8758600415035621611:=()
def tw6012965542348055764:=()
def tw13902157490790730623:=()
def tw5278652672662521002:=()
def tw17986091788028833588:=()
def tw2480121639120348555:=()
def tw5578974632834441599:=()
def tw18306010753022355:=()
def tw14290514839139235490:=()
def tw4831433396615835729:=()
def tw7314048936133464397:=()
def tw1889409698595513789:=()
def tw15981981985177127399:=()
def tw4633669879290501498:=()
def tw9615843190962125947:=()
def tw10779318615808967878:=()
def tw11204587039975813897:=()
def tw16241758086598235579:=()
def tw3416427139863830863:=()
def tw1678292615252597013:=()
def tw15012346314453842929:=()
def tw2529063681321855127:=()
def tw8914664498784608960:=()
def tw10750332858473627276:=()
def tw18423117499328484780:=()
def tw13571227213347301383:=()
def tw15764769854941822740:=()
def tw6801825432412254478:=()
def tw7234040233466553670:=()
def tw14543126184596784441:=()
def tw14963011568875165273:=()
def tw11566965131014841656:=()
def tw4436857727681351929:=()
def tw15991497079649592955:=()
def tw15046003821474897092:=()
def tw12637621426999920149:=()
def tw4275651802034902324:=()
def tw17359771315029867709:=()
def tw5151068803750379659:=()
def tw17175341362933030928:=()
def tw9002113382166280091:=()
def tw13222486874713729355:=()
def tw17015282844290861861:=()
def tw6622679515282913373:=()
def tw4447582952611074145:=()
def tw5233830968561471081:=()
def tw13096991449776328103:=()
def tw16595815854855295370:=()
def tw7269822627468542247:=()
def tw18342750296154300499:=()
def tw11915848095937258633:=()
def tw11989555396602752519:=()
def tw6710235210467919928:=()
def tw8270484249383297089:=()
def tw11429218627623766891:=()
def tw12524858504538966448:=()
def tw18426320326874717946:=()
def tw16739017010064365556:=()
def tw1552549854220580611:=()
def tw9917538601462602504:=()
def tw10732372257403158726:=()
def tw13178067784080856991:=()
def tw7888731549393282307:=()
def tw10917900139655460129:=()
def tw12517481308646046430:=()
def tw17930078509002920138:=()
def tw7393144493962037937:=()
def tw9305330938479556003:=()
def tw3340665028847713159:=()
def tw16650454042816006838:=()
def tw11883457112827612265:=()
def tw3628462129333075138:=()
def tw15130245623048054644:=()
def tw11811966409515634812:=()
def tw53021871433711899:=()
def tw5818100509661742495:=()
def tw2664673404059589016:=()
def tw15890124313995486483:=()
def tw16010189280177727663:=()
def tw11063107194168043254:=()
def tw15831807383622042777:=()
def tw2758356937682307563:=()
def tw17661124284588816093:=()
def tw7824207174976499771:=()
def tw7447679077164726085:=()
def tw8718400562279566323:=()
def tw18036000057729188957:=()
def tw8847245466465218417:=()
def tw13271436833969775335:=()
def tw6825833709109542390:=()
def tw6644880448001255416:=()
def tw8562541912409821270:=()
def tw912855562173895532:=()
def tw9794295214462158210:=()
def tw13708493784122639489:=()
def tw4470978020923483242:=()
def tw14991518844380148398:=()
def tw3069130762283109055:=()
def tw6397400799904549698:=()
def tw16938877788326746813:=()
def tw13355692316109379195:=()
def tw13914354240536932250:=()
def tw12769763168226034708:=()
def tw2990114223958954576:=()
def tw11514775367657205470:=()
def tw13854751019509377695:=()
def tw13419847484888310663:=()
def tw15703096884595592121:=()
def tw10129794781752150042:=()
def tw10737787087678745844:=()
def tw4574467607117291597:=()
def tw3852136159808387872:=()
def tw13130830769964730004:=()
def tw18438646491633838553:=()
def tw16942923823686667438:=()
def tw2856308332510217446:=()
def tw6509416144494725572:=()
def tw2334818501421342387:=()
def tw6862784744820129608:=()
def tw3388478915118891135:=()
def tw10000702099768082093:=()
def tw4477141828767073628:=()
def tw9207186803214951914:=()
def tw11015039527095514347:=()
def tw6726934225715828492:=()
def tw16261497971732525368:=()
def tw8769232271010895472:=()
def tw4504532296834657316:=()
def tw1282164576463858861:=()
def tw10794030286681470472:=()
def tw5378241502655514270:=()
def tw5455353932741844036:=()
def tw11504287236775351586:=()
def tw17985669019499960663:=()
def tw8020565323099720837:=()
def tw16629091749027894230:=()
def tw7348305440435347612:=()
def tw8145186178516286097:=()
def tw12948910494135497533:=()
def tw2376132835254821038:=()
def tw17137313023670567214:=()
def tw2618568228835396508:=()
def tw12843098189419982647:=()
def tw13221214558990261337:=()
def tw105122315244376236:=()
def tw10199031274243010666:=()
def tw1645611086485319503:=()
def tw675200179613832017:=()
def tw15259999893849936545:=()
def tw1590477837484631849:=()
def tw15275530451630014587:=()
def tw15875861279324703400:=()
def tw13238983692273537229:=()
def tw11522203535099512418:=()
def tw1160146277992087130:=()
def tw3852028695198965831:=()
def tw9076945604885979920:=()
def tw5072864353749288383:=()
def tw2694365509391171303:=()
def tw11537031766695113640:=()
def tw3862176284033185525:=()
def tw7488872566097205800:=()
def tw5480600611376482092:=()
def tw6385526771653862150:=()
def tw11369038702899070610:=()
def tw17368496485886996655:=()
def tw16541052116597539598:=()
def tw13115717232117465742:=()
def tw15474592352531471502:=()
def tw9595900006995451270:=()
def tw7815483169504036056:=()
def tw2960062989661124669:=()
def tw5496312837489636353:=()
def tw14770797889788133334:=()
def tw12402697686099928240:=()
def tw10508706682823174883:=()
def tw10697974920122188828:=()
def tw1664970212719412805:=()
def tw12504729760903225430:=()
def tw8618882671934583529:=()
def tw5259240363770239560:=()
def tw12659387086386316632:=()
def tw8097100190244846285:=()
def tw635705230799441132:=()
def tw7683079191655941049:=()
def tw14043869400320258712:=()
def tw9106968371488980411:=()
def tw13826648700737612694:=()
def tw4352577830600578813:=()
def tw17523432587710027000:=()
def tw18294761434710396689:=()
def tw12508040588463670639:=()
def tw3037295175326595108:=()
def tw11717937408143392960:=()
def tw13737027756476420943:=()
def tw1059134221751588461:=()
def tw6462834929113416542:=()
def tw15542134797186835430:=()
def tw16523484554929601063:=()
def tw16504971722864231402:=()
def tw16579215661669129295:=()
def tw5705758975362801636:=()
def tw8471822348245321216:=()
def tw18428186146764410595:=()
def tw8746378774696060109:=()
def tw3765443477501121281:=()
def tw2498950354145570561:=()
def tw11523177995562943566:=()
def tw9107672437739697176:=()
def tw3697587431987851711:=()
def tw2034109210234151585:=()
def tw13139874676437939987:=()
def tw5708214790776120088:=()
def tw4705602817536866293:=()
def tw4250220618393615827:=()
def tw16836743016636292583:=()
def tw15037231965378271576:=()
def tw12290678078053619668:=()
def tw5211432861196705298:=()
def tw14236343688644690626:=()
def tw6320288300705337862:=()
end PySem.W.Fast
open PySem PySem.W PyProof.Rows
set_option maxRecDepth 100000 in
set_option maxHeartbeats 0 in
theorem PySem.Challenge.cw_asktally_k86_whole_disputes_holds : PySem.Challenge.rw_asktally_k86_whole_disputes.Holds := by
 w_on; o_law; k_head; (case hw=>w_witness2)
 k_fill
 refine Mine.walk (l:=PySem.Challenge.rw_asktally_k86_whole_disputes) rfl rfl (λw h Y=>PySem.W.kIn_of Y) ?F
 case F =>
  intro w mg fa h KX G hmg
  refine' Mine.all_mk KX G hmg ?aL ?lL ?cL ?kL ?h0 ?h1 ?h2 ?h3 ?h4 ?h5 ?h6 ?h7 ?h8 ?h9 ?h10 ?h11 ?h12 ?h13 ?h14 ?h15 ?h16 ?h17 ?h18 ?h19 ?h20 ?h21 ?h22 ?h23 ?h24 ?h25 ?h26 ?h27 ?h28 ?h29 ?h30 ?h31 ?h32 ?h33 ?h34 ?h35 ?h36 ?h37 ?h38 ?h39 ?h40 ?h41 ?h42 ?h43 ?h44 ?h45 ?h46 ?h47 ?h48 ?h49 ?h50 ?h51 ?gmc ?asc ?mcc ?sdc ?scc ?Ge ?gmmM ?gmmW ?asmI ?asmP ?asmC ?asmN ?asmR ?mcmI ?mcmS ?mcmR ?sdmI ?sdmA ?sdmG ?scmI ?scmE ?scmS ?scmT ?scmW ?scmF ?mY ?gmn_trees ?gmn_field ?gmn_degrees ?asn_game ?asn_number ?asn_many ?asn_held ?asn_s ?asn_tossed ?asn_truths ?mcn_game ?mcn_helper ?mcn_next_round ?mcn_boxes ?sdn_field ?sdn_machine ?sdn_held ?sdn_said ?scn_text ?scn_row ?scn_most_within ?scn_most_parts ?scn_place ?scn_parts ?g1 ?g3 ?g5 ?g6 ?g7 ?g8 ?e1 ?e2 ?e3 ?w1 ?w2 ?w3 ?j5 ?j6 ?j7 ?j8 ?q5 ?q6 ?q7 ?q8 ?p5 ?p6 ?p7 ?p8 ?wh ?wl ?ge ?xmo ?z0 ?z1 ?z2 ?z3 ?z4 ?z5 ?z6 ?z7 ?z8 ?z9 ?z10 ?z11 ?z12 ?z13
  case aL|lL|cL|kL=>k_is
  case h0|h1|h2|h3|h4|h5|h6|h7|h8|h9|h10|h11|h12|h13|h14|h15|h16|h17|h18|h19|h20|h21|h22|h23|h24|h25|h26|h27|h28|h29|h30|h31|h32|h33|h34|h35|h36|h37|h38|h39|h40|h41|h42|h43|h44|h45|h46|h47|h48|h49|h50|h51=>exact%[_,by k_is,_,%[_,_,_,_,_,_,_,_,0,by k_is|by k_is]|by k_is]
  case gmc|asc|mcc|sdc|scc=>exact%[by k_is,by k_is,by k_is,by k_is,by k_is,by k_is|by k_is]
  case Ge|gmmM|gmmW|asmI|asmP|asmC|asmN|asmR|mcmI|mcmS|mcmR|sdmI|sdmA|sdmG|scmI|scmE|scmS|scmT|scmW|scmF=>exact%[_,by k_is,by k_is,_,%[_,_,_,_,_,_,_,_,0,by k_is|by k_is]|by k_is]
  case mY|gmn_trees|gmn_field|gmn_degrees|asn_game|asn_number|asn_many|asn_held|asn_s|asn_tossed|asn_truths|mcn_game|mcn_helper|mcn_next_round|mcn_boxes|sdn_field|sdn_machine|sdn_held|sdn_said|scn_text|scn_row|scn_most_within|scn_most_parts|scn_place|scn_parts=>delta Mine.HF; k_is
  case g1|g3|g5|g6|e1|e2|e3|w1|w2|w3|j5|j6|q5|q6|p5|p6|wh|wl|ge|xmo=>k_is
  case g7|j7|q7|p7=>decide
  case g8=>exact Mine.kept_vals
  case j8=>exact Mine.sign_vals
  case q8=>exact Mine.ask_vals
  case p8=>exact Mine.plain_vals
  case z0|z1|z2|z3|z4|z5|z6|z7|z8|z9|z10|z11|z12|z13=>delta Mine.HZ; k_is
